import PyProof.Rows.All
import Wide.All
import OpenK.AllK
import Wide.FinOn
import Lean
import PyProof.EqAt
import PyProof.EqKinds
import PyProof.TupleCall
import KE.KIntText
import KE.IntTextLaws
import PyProof.ExcClass3
import PyProof.InstStoreFacts
import PyProof.ExcBaseAll.ValueError
import PyProof.NsDelKeeps
import PyProof.ExcAttrAll.ValueError
import OpenK.KTop
import PyProof.ZipIter
import PyProof.ListNew
import PyProof.ListRange
import PyProof.ReprRoads
import PyProof.Rows.FactsT3
import PyProof.Rows.SumAny
import PyProof.CompUse
import PyProof.EqLayable
import PyProof.CallFns
import PyProof.StrBlock
import PyProof.EnumMake
import PyProof.ReprLen
import PyProof.MeetsDict
import PyProof.DictWalks
import PyProof.MeetsIn
import PySem.Challenge.RW_homequay_k53_no_journeys
open PySem renaming wpAny_bind→aa,wpAny_pure→ah,Shared→ai,Spec→aE,starEach→aH,boot_len→aT,wpAny_holding→aU,mainGlobals→a8,Around→bh,wpAny_truthy_bool→bo,wpAny_callSpecial?_slot→bp,sysModules→bC,compareOp→bE,wpAny_call_entry→bF,bootBuiltins→bJ,wpAny_loadPart'→bO,OsState→bP,tupleKind→bQ,wpAny_newObj_type→bS,wpAny_dictEntries→bY,Paired→bZ,wpAny_dictEpoch→b8,wpAny_mono→cj,wpAny_loadPart_at→cq,wpAny_field→cw,backTo→cy,Builtin→cU,sizeLine_eq→cW,rawInt→c_,assignEach→de,mem_of_lookup→di,FuncData→dk,keywordEach→dq,wpAny_rule→dA,wpAny_attempt→dB,wpAny_setField→dI,wpAny_typeNameOfWhole_keyiter→dR,wpAny_Call_Name_kw→dS,wpAny_passesOwn→dX,behindInMarks→dZ,Within→d6,wpAny_pyIter_enum→d7,binaryOp→eI,NameKind→eM,sliceBounds→eT,attributeBase→fj,tupleKind_room_in1→fu,wpAny_getItem_str_slice→fv,backToKw→fB,wpAny_typeOf→fC,wpAny_ite_true→fD,wpAny_notOrdered_dict→fL,wpAny_call→fM,wpAny_isInstance→fN,holding→fT,getItem→fU,wpAny_standAt→fV,wpAny_execs_nil→f7,wpAny_isSubtype_exc→gk,codeAny_mono→gn,swapsWith→gw,getMethod→gy,codeAny→gO,wpAny_sequenceKey→gP,wpAny_pyIter_list→gQ,foldedSetIterable→gS,ExceptHandler→gU,onTheHeap→g8,wpAny_forIn_list→g9,wpAny_ite_false→ip,post_val_or_str→ir,letOwnedTupleGo→iu,codeAny_builtin→iw,Thread→iJ,IsPart→iK,callWith→iL,wpAny_of_eq→iM,strIterType→iN,placesWithHash→iO,firstArgMember→iP,codeAny_call_builtin→iQ,standAt→iS,Keyword→iT,plainId_quiet→i7,isInstance→i_,entryOfKey→jb,slot_dict_contains→jc
open PySem.W renaming Frag→ae,kitOne→az,findIn→aD,keepIn→a7,nsIn→bA,fnOf→bB,kia_one→bR,emptyDict→b9,codeIn→cz,hasDictIn→cF,mg_of→cM,instObj→cZ,looks_findIn→c8,mroIn→df,callWith_K→dC,kia_tup→dG,plainGet→dY,notCls→e_,InstAt→fe,specialIn→fg,methodCall_KW→ft,isFn→fK,tailIn→fO,nsOkIn→fP,mg_none_of→fQ,plainOver→f6,clsIn→f9,makesIn→gF,hideAll→gG,lookIn→gV,hideAll_none→gY,plainGet_of→g_,looks_mroIn→hV,check_slot→ij,methodObj→iz,kitx_list→iB,kitx_dict→iC,handedIn→iR,takesIn→iW,takerIn→iX,OpenLaw→iY,kitAny→jd
open PySem.Challenge renaming pw_homequay_k53_no_journeys→af,rw_homequay_k53_no_journeys→bz
open List renaming getElem?_eq_some_iff→aj,mem_map→ao,length_append→aq,mem_cons_of_mem→ar,mem_cons→au,set→av,size_toArray→aw,mem_cons_self→ay,map_cons→aA,getElem_mem→aB,mem_append→aF,map_append→aG,mem_singleton→aI,mem_iff_getElem?→aJ,mem_of_getElem?→aK,length_take→aN,getD_eq_getElem?_getD→aO,take_length→aP,not_mem_nil→aQ,length_cons→aR,getElem?_map→aY,eq_nil_of_length_eq_zero→aZ,take_succ→a9,range→a_,append_nil→ba,mem_append_right→bc,nodup_cons→bf,take_of_length_le→bg,mem_append_left→bj,mem_range→bq,mem_of_mem_take→br,length_filter_le→bN,length_map→bU,all_eq_true→bW,append_assoc→b_,getElem?_append_right→cg,getElem?_append_left→cu,getElem?_eq_none→cv,range_succ→cJ,find?_cons→cL,map_map→cO,mem_flatMap→cQ,filterMap_cons→dw,lookup_cons→dz,filter_eq_nil_iff→dH,mem_filter→dM,length_range→dU,any_eq_true→d8,length_nil→eU,filter_append→eV,contains_cons→eZ,filter_cons_of_neg→fh,map_nil→fo,nodup_nil→fq,length_drop→fz,lookup→fH,map_congr_left→fR,flatMap_append→fS,drop_zero→fZ,length→gu,sum_cons→gA,any_cons→gB,getElem?_take_of_lt→gC,getElem_inj→gH,filter_cons_of_pos→gI,getElem?_set_self→gT,of_mem_zip→gW,foldl_cons→gX,pairwise_flatMap→g6,length_singleton→g7,range'→hZ,pairwise_append→ib,mem_of_mem_drop→ie,getElem?_set_ne→ig,zip_cons_cons→iH,mem_filterMap→iI,pairwise_map→iU,take_append_of_le_length→jf,getLast?_eq_some_getLast→jg
open Option.some renaming inj→ax
open PySem.PassesOwn renaming never→aL
open PySem.Paired renaming length→aV,snoc→cA
open PySem.W.Fast renaming tw5923862056798008813→aW,tw4187177175401517315→aX
open PySem.F renaming type_list_append→bt,slot_list_append→bu,plainAttrs_list→bD,slot_dict_getitem→fW,args_tuple_add_2→gi,entry_tuple_add→gv,slot_tuple_add→gD,slot_dict_get→gM,slot_dict_setdefault→iZ,attrBase_ValueError→i8
open Option renaming isSome_iff_exists→bw,map_eq_some_iff→bV,isSome_map→gf,map_some→gL
open PySem.SeqAt renaming shaped→bG
open True renaming intro→bH
open PyProof.Rows renaming callWith_type1→bI,slot_tuple_getitem→bL,boot_isinstance→dj,envOfC→d_,AllBare→gm,subscriptTail→i6,boot_max→je
open Ne renaming symm→bK
open Array renaming length_toList→bX,getElem?_toList→dQ,mem_toList_iff→fE,getElem?_eq_some_iff→fX,getElem?_eq_getElem→gj
open PySem.NameKind renaming free→b7,cell→fY
open Sum renaming inr→cD,inl→ik
open PySem.Builtin.ObjectAttr renaming storeInDict→cS,newKeyGuard→gK
open Or renaming inl→cV,inr→gZ
open PySem.Builtin.Dict renaming samePairs→dh,dictSlotArgs→fJ,addKeywords→iV,updateFrom→i4,notOrdered→i5,showsAll→jh
open PySem.Builtin.SmallTypes renaming nextOf→dD
open PySem.Builtin.Str renaming strSliceIndices→dE,occurrences→i9
open PySem.Builtin.Slice renaming slicePlaces→dN,sliceAdjust→fF,sliceApplied→iF
open PySem.Builtin.Tuple renaming tupleExact→dW,tupleItemsOf→iE
open PySem.Builtin.Range renaming rangeSize→d5
open ForInStep renaming yield→d9
open List.cons renaming injEq→fw
open PySem.Around renaming under_plainId→fA,under→iG
open Prod renaming ext→fG
open PySem.WalksT renaming enumerateD→f_
open PySem.Calls renaming callWith_builtin→gN,evalArgs_plain→hW,spliced_cons→iD
open Prod.mk renaming injEq→h_
open PySem.StrLaws renaming glued_eq_join→iy
open PySem in
abbrev jE:Str:="_law_box_here"
open PySem in
abbrev kR:Str:="_law_world_here"
open PySem in
abbrev Bk:Str:="_law_places_here"
open PySem in
abbrev Bj:Str:="_law_strange"
open PySem in
abbrev Bl:Str:="_law_name_here"
open PySem in
abbrev Bh:Str:="_law_table_here"
open PySem in
abbrev jF:Str:="_law_steps_here"
open PySem in
abbrev hB:Str:="self"
open PySem in
abbrev jt:Str:="thing"
open PySem in
abbrev jL:Str:="table"
open PySem in
abbrev oO:Str:="_law_journeys_here"
open PySem in
abbrev ot:Str:="_law_handed_here"
open PySem in
abbrev mB:Str:="_law_script"
open PySem in
abbrev n_:Str:="_law_names_here"
open PySem in
abbrev oq:Str:="room_by_place"
open PySem in
abbrev mR:Str:="_law_many"
open PySem in
abbrev oB:Str:="_law_turns"
open PySem in
abbrev pH:Str:="_law_thing"
open PySem in
abbrev qd:Str:="_law_starts"
open PySem in
abbrev nZ:Str:="_law_k"
open PySem in
abbrev oN:Str:="_law_at"
open PySem in
abbrev rg:Str:="group_by_name"
open PySem in
abbrev qc:Str:="_law_found"
open PySem in
abbrev qb:Str:="_law_table"
open PySem in
abbrev sF:Str:="_law_onward_here"
open PySem in
abbrev qo:Str:="_law_take"
open PySem in
abbrev qm:Str:="_law_keys"
open PySem in
abbrev rf:Str:="_law_most"
open PySem in
abbrev q_:Str:="_law_name"
open PySem in
abbrev rS:Str:="_law_start"
open PySem in
abbrev rH:Str:="_law_plan"
open PySem in
abbrev q9:Str:="_law_row"
open PySem in
abbrev tT:Str:="_law_cell_here"
open PySem in
abbrev sE:Str:="_law_group"
namespace RG
open PySem PySem.W PyProof.Rows
noncomputable def sT(Az ok:iJ->Bool)(st:SharedT->iJ->Option (SharedT×iJ))(n:Nat):SharedT->iJ->Option SharedT:=@Nat.rec (λ_=>SharedT->iJ->Option SharedT) (λ_ _=>none) (λ_ ih s t=>@Bool.rec (λ_=>Option SharedT) (@Bool.rec (λ_=>Option SharedT) none (@Option.rec (SharedT×iJ) (λ_=>Option SharedT) none (λx=>@Prod.rec SharedT iJ (λ_=>Option SharedT) (λs' t'=>ih s' t') x) (st s t)) (ok t)) (some s) (Az t)) n
theorem Pq{a:String->Option cU}{p:Program}{w:World}{m:Nat}{ann:Option Value}:∀{n:Nat}{s r:SharedT}{t:iJ},sT through (stepOk m ann) (stepT (denote a) p w) n s t=some r->topRun a p w m ann n s.abs t=some r.abs
|0,_,_,_,h=>by cases h
|n+1,s,r,t,h=>by
  have h':@Bool.rec (λ_=>Option SharedT) (@Bool.rec (λ_=>Option SharedT) none (@Option.rec (SharedT×iJ) (λ_=>Option SharedT) none (λx=>@Prod.rec SharedT iJ (λ_=>Option SharedT) (λs' t'=>sT through (stepOk m ann) (stepT (denote a) p w) n s' t') x) (stepT (denote a) p w s t)) (stepOk m ann t)) (some s) (through t)=some r:=h;unfold topRun;cases c:through t with
 |true=>rw[c]at h';cases h';rfl
 |false=>
   rw[c]at h';cases d:stepOk m ann t with
  |false=>rw[d]at h';cases h'
  |true=>
    rw[d]at h';cases b:stepT (denote a) p w s t with
   |none=>rw[b]at h';cases h'
   |some x=>obtain⟨s',t'⟩:=x;rw[b]at h';rw[stepT_spec b];exact Pq (n:=n) h'
noncomputable def AO(l:List Obj):BT:=(l.foldl (λ(x:BT×Nat)o=>(x.1.ins x.2 o,x.2+1)) (BT.nil,0)).1
noncomputable def T0(w:World)(os:bP):SharedT:=⟨AO (boot_heap w.params).objs.toList,11,(boot_heap w.params).life,⟨[]⟩,boot_drawn,boot_toks,os⟩
theorem EY(w:World)(os:bP):(T0 w os).abs=⟨boot_heap w.params,⟨[]⟩,boot_drawn,boot_toks,os⟩:=by kernel_rfl
theorem sz(w:World):((boot_heap w.params).isNs a8&&((⟨[]⟩:Array GenState).size==0),(boot_heap w.params).objs.size,(boot_heap w.params).nsMap a8 "__annotations__")=(true,11,some (.ref 6)):=by kernel_rfl
noncomputable def go(p:Program)(n:Nat)(w:World)(os:bP):Option SharedT:=sT through (PySem.W.Fast.tw6613529449190102663 11 (some (.ref 6))) (PySem.W.Fast.tw10156331382660048174 (PySem.W.Fast.tw11892475500146522536 PySem.W.Fast.tw14364793385576792824) p w) n (T0 w os) (topStub p)
theorem go_eq(p:Program)(n:Nat)(w:World)(os:bP):go p n w os=sT through (stepOk 11 (some (.ref 6))) (stepT (denote treeTable) p w) n (T0 w os) (topStub p):=by unfold go;rw[PySem.W.Fast.te6613529449190102663,PySem.W.Fast.te10156331382660048174,PySem.W.Fast.te11892475500146522536,PySem.W.Fast.te14364793385576792824]
noncomputable def u_(p:Program)(w:World)(s:ai):Bool:=staticsOk (importedModules p.main.body) (boot_heap w.params) s.heap&&namesBound p s.heap&&gensDone s&&laidKept (boot_heap w.params) s.heap
noncomputable def lk(p:Program){α:Type}(F:ai->α)(n:Nat)(w:World)(os:bP):Option α:=@Option.rec SharedT (λ_=>Option α) none (λr=>some (F r.abs)) (go p n w os)
noncomputable abbrev tW(p q:Program)(loose:List Str)(Xt:ai->Bool)(n:Nat)(w:World)(os:bP):=lk p (λs=>(u_ p w s,aX q loose (aW p.main.body) Xt true s)) n w os
theorem left{p q:Program}{loose:List Str}{Xt:ai->Bool}{α:Type}{Yf:ai->α}{Ya:World->α}{N:Nat}(row:String)(B:opening p=plainProg p.main.scope.names)(A:Nat.ble 600 N=true)(z:∀s:ai,fenceModules? p s=some s)(hf:∀(w:World)(os:bP),tW p q loose Xt N (w.withFollow row false) os=some (true,openGood q loose))(x:∀(w:World)(os:bP),tW p q loose Xt N (w.withFollow row true) os=some (true,openGood q loose))(v:∀(w:World)(os:bP),lk p Yf N (w.withFollow row false) os=some (Ya (w.withFollow row false)))(kt:∀(w:World)(os:bP),lk p Yf N (w.withFollow row true) os=some (Ya (w.withFollow row true))):LeftO p q loose Xt Yf Ya N:=λw=>by
 have hw:∀os:bP,tW p q loose Xt N w os=some (true,openGood q loose):=byRow2 row (P:=λw=>∀os:bP,tW p q loose Xt N w os=some (true,openGood q loose)) hf x w;have kw:∀os:bP,lk p Yf N w os=some (Ya w):=byRow2 row (P:=λw=>∀os:bP,lk p Yf N w os=some (Ya w)) v kt w;obtain⟨⟨h,y,d,k,os⟩,e,C⟩:=bV.mp (boot_open B A z w);obtain⟨rfl,rfl,rfl,rfl⟩:h=boot_heap w.params/\y=⟨[]⟩/\d=boot_drawn/\k=boot_toks:=by simpa using C
 obtain⟨n,l,j⟩:_/\_/\_:=by simpa only[h_]using sz w
 have a:=hw os;have c:=kw os;unfold tW lk at a;unfold lk at c;rw[<-PySem.W.Fast.te4187177175401517315,<-PySem.W.Fast.te5923862056798008813]at a;cases b:go p N w os with
|none=>rw[b]at a;cases a
|some r=>
  rw[b]at a c;have g:(u_ p w r.abs,openSeen q loose (importedModules p.main.body) Xt true r.abs)=(true,openGood q loose):=ax a;have f:Yf r.abs=Ya w:=ax c;obtain⟨u,o⟩:=Prod.mk.inj g;rw[go_eq]at b;have i:=Pq b;rw[EY]at i;have t:topFrom treeTable p w N ⟨boot_heap w.params,⟨[]⟩,boot_drawn,boot_toks,os⟩=some r.abs:=by
   unfold topFrom;dsimp only;rw[n,l,j,i];show(match u_ p w r.abs with|true=>some r.abs|false=>none)=_
   rw[u]
  unfold openEnds;rw[e];show(topFrom treeTable p w N _).map _=_;rw[t];exact congrArg some (fG o f)
end RG
set_option Elab.async false
set_option linter.all false
set_option maxRecDepth 100000
set_option maxHeartbeats 4000000
namespace RG
open PySem PySem.W PyProof.Rows
noncomputable def tp(i:Nat):Stmt:=af.main.body.getD i (.Pass ⟨0,0,0,0⟩)
noncomputable def QV:Program:={af with main:={af.main with body:=[tp 0,tp 2,tp 3,tp 4,tp 5,tp 6,tp 7,tp 8,tp 10,tp 11,tp 12,tp 13,tp 14,tp 15,tp 16,tp 17,tp 18,tp 19,tp 21,tp 23,tp 24,tp 25,tp 26,tp 27,tp 28,tp 29,tp 30,tp 31,tp 33,tp 34,tp 35,tp 37,tp 38,tp 39,tp 40,tp 41,tp 42,tp 43,tp 44,tp 45,tp 46,tp 47,tp 48,tp 49,tp 50,tp 51,tp 52,tp 54,tp 55,tp 56,tp 57,tp 58,tp 59,tp 60,tp 61,tp 62,tp 63,tp 64,tp 65,tp 66,tp 67,tp 68,tp 69,tp 70,tp 71,tp 72,tp 73,tp 74,tp 75,tp 76,tp 77]}}
noncomputable abbrev LO:List Str:=["MOST_ROWS","ROW_SIZES"]
noncomputable abbrev XT:ai->Bool:=λs=>xlAt QV [] s&&recOk (RowW.records (OpenRow.toRowW (bz.row))) s
noncomputable def p1{α β:Type}(x:α×β):α:=@Prod.rec α β (λ_=>α) (λa _=>a) x
noncomputable def p2{α β:Type}(x:α×β):β:=@Prod.rec α β (λ_=>β) (λ_ b=>b) x
theorem u5(w:World)(os:bP):lk af (λs=>p1 (p2 (p2 (p2 (p2 (p2 (aX QV LO (aW af.main.body) XT true s))))))) 14000 (w.withFollow "special-get-raises" false) os=some ((openGood QV LO).2.2.2.2.2.1):=by kernel_rfl
theorem u2(w:World)(os:bP):lk af (λs=>p1 (p2 (p2 (aX QV LO (aW af.main.body) XT true s)))) 14000 (w.withFollow "special-get-raises" false) os=some ((openGood QV LO).2.2.1):=by kernel_rfl
theorem u0(w:World)(os:bP):lk af (λs=>p1 (aX QV LO (aW af.main.body) XT true s)) 14000 (w.withFollow "special-get-raises" false) os=some ((openGood QV LO).1):=by kernel_rfl
theorem u3(w:World)(os:bP):lk af (λs=>p1 (p2 (p2 (p2 (aX QV LO (aW af.main.body) XT true s))))) 14000 (w.withFollow "special-get-raises" false) os=some ((openGood QV LO).2.2.2.1):=by kernel_rfl
theorem u7(w:World)(os:bP):lk af (λs=>p1 (p2 (p2 (p2 (p2 (p2 (p2 (p2 (aX QV LO (aW af.main.body) XT true s))))))))) 14000 (w.withFollow "special-get-raises" false) os=some ((openGood QV LO).2.2.2.2.2.2.2.1):=by kernel_rfl
theorem uA(w:World)(os:bP):lk af (λs=>(p1 (p2 (p2 (p2 (p2 (aX QV LO (aW af.main.body) XT true s))))),p1 (p2 (p2 (p2 (p2 (p2 (p2 (aX QV LO (aW af.main.body) XT true s))))))),p2 (p2 (p2 (p2 (p2 (p2 (p2 (p2 (aX QV LO (aW af.main.body) XT true s)))))))))) 14000 (w.withFollow "special-get-raises" false) os=some (((openGood QV LO).2.2.2.2.1,(openGood QV LO).2.2.2.2.2.2.1,(openGood QV LO).2.2.2.2.2.2.2.2)):=by kernel_rfl
theorem uB(w:World)(os:bP):lk af (λs=>(u_ af (w.withFollow "special-get-raises" false) s,p1 (p2 (aX QV LO (aW af.main.body) XT true s)))) 14000 (w.withFollow "special-get-raises" false) os=some ((true,(openGood QV LO).2.1)):=by kernel_rfl
theorem gE(w:World)(os:bP):go af 14000 (w.withFollow "special-get-raises" true) os=go af 14000 (w.withFollow "special-get-raises" false) os:=by kernel_rfl
theorem nine{A B C D E F G H I:Type}(x y:A×B×C×D×E×F×G×H×I)(h0:p1 x=y.1)(h:p1 (p2 x)=y.2.1)(g:p1 (p2 (p2 x))=y.2.2.1)(f:p1 (p2 (p2 (p2 x)))=y.2.2.2.1)(e:p1 (p2 (p2 (p2 (p2 x))))=y.2.2.2.2.1)(d:p1 (p2 (p2 (p2 (p2 (p2 x)))))=y.2.2.2.2.2.1)(c:p1 (p2 (p2 (p2 (p2 (p2 (p2 x))))))=y.2.2.2.2.2.2.1)(b:p1 (p2 (p2 (p2 (p2 (p2 (p2 (p2 x)))))))=y.2.2.2.2.2.2.2.1)(a:p2 (p2 (p2 (p2 (p2 (p2 (p2 (p2 x)))))))=y.2.2.2.2.2.2.2.2):x=y:=fG h0 (fG h (fG g (fG f (fG e (fG d (fG c (fG b a)))))))
section
variable {p:Program}{n:Nat}{w:World}{os:bP}{α β:Type}
theorem DI{F:ai->α}{G:ai->β}{x:α}{y:β}(a:lk p F n w os=some x)(b:lk p G n w os=some y):lk p (λs=>(F s,G s)) n w os=some (x,y):=by
 unfold lk at a b ⊢;cases c:go p n w os with
|none=>rw[c]at a;cases a
|some r=>rw[c]at a b;exact congrArg some (congr (congrArg Prod.mk (ax a)) (ax b))
theorem Rc{F:ai->α}{G:ai->β}{x:α}{y:β}(h:lk p (λs=>(F s,G s)) n w os=some (x,y)):lk p F n w os=some x:=by
 unfold lk at h ⊢;cases a:go p n w os with
|none=>rw[a]at h;cases h
|some r=>rw[a]at h;exact congrArg some (Prod.mk.inj (ax h)).1
theorem NR{F:ai->α}{G:ai->β}{x:α}{y:β}(h:lk p (λs=>(F s,G s)) n w os=some (x,y)):lk p G n w os=some y:=by
 unfold lk at h ⊢;cases a:go p n w os with
|none=>rw[a]at h;cases h
|some r=>rw[a]at h;exact congrArg some (Prod.mk.inj (ax h)).2
theorem DJ{A B C D E F G H I:Type}{X:ai->A×B×C×D×E×F×G×H×I}{y:A×B×C×D×E×F×G×H×I}(h0:lk p (λs=>p1 (X s)) n w os=some y.1)(i:lk p (λs=>p1 (p2 (X s))) n w os=some y.2.1)(h:lk p (λs=>p1 (p2 (p2 (X s)))) n w os=some y.2.2.1)(g:lk p (λs=>p1 (p2 (p2 (p2 (X s))))) n w os=some y.2.2.2.1)(f:lk p (λs=>p1 (p2 (p2 (p2 (p2 (X s)))))) n w os=some y.2.2.2.2.1)(e:lk p (λs=>p1 (p2 (p2 (p2 (p2 (p2 (X s))))))) n w os=some y.2.2.2.2.2.1)(d:lk p (λs=>p1 (p2 (p2 (p2 (p2 (p2 (p2 (X s)))))))) n w os=some y.2.2.2.2.2.2.1)(c:lk p (λs=>p1 (p2 (p2 (p2 (p2 (p2 (p2 (p2 (X s))))))))) n w os=some y.2.2.2.2.2.2.2.1)(b:lk p (λs=>p2 (p2 (p2 (p2 (p2 (p2 (p2 (p2 (X s))))))))) n w os=some y.2.2.2.2.2.2.2.2):lk p X n w os=some y:=by
 unfold lk at *;cases a:go p n w os with
|none=>rw[a]at h0;cases h0
|some r=>rw[a]at h0 i h g f e d c b;exact congrArg some (nine _ _ (ax h0) (ax i) (ax h) (ax g) (ax f) (ax e) (ax d) (ax c) (ax b))
end
theorem lg(w:World)(os:bP):lk af (λs=>aX QV LO (aW af.main.body) XT true s) 14000 (w.withFollow "special-get-raises" false) os=some (openGood QV LO):=DJ (u0 w os) (NR (uB w os)) (u2 w os) (u3 w os) (Rc (uA w os)) (u5 w os) (Rc (NR (uA w os))) (u7 w os) (NR (NR (uA w os)))
theorem lf(w:World)(os:bP):tW af QV LO XT 14000 (w.withFollow "special-get-raises" false) os=some (true,openGood QV LO):=DI (Rc (uB w os)) (lg w os)
theorem Ah{p:Program}{n:Nat}{w a:World}{os:bP}{α:Type}{F:ai->α}(h:go p n w os=go p n a os):lk p F n w os=lk p F n a os:=by unfold lk;rw[h]
theorem zN{α:Type}(F:ai->α)(w:World)(os:bP):lk af F 14000 (w.withFollow "special-get-raises" true) os=lk af F 14000 (w.withFollow "special-get-raises" false) os:=Ah (gE w os)
theorem yR(w:World):u_ af (w.withFollow "special-get-raises" true)=u_ af (w.withFollow "special-get-raises" false):=rfl
theorem lt(w:World)(os:bP):tW af QV LO XT 14000 (w.withFollow "special-get-raises" true) os=some (true,openGood QV LO):=by have h:=lf w os;unfold tW at h ⊢;rw[zN,yR];exact h
theorem Ai{α:Type}{Yf:ai->α}{Ya:World->α}(d:opening af=plainProg af.main.scope.names)(c:∀s:ai,fenceModules? af s=some s)(a:∀(w:World)(os:bP),lk af Yf 14000 (w.withFollow "special-get-raises" false) os=some (Ya (w.withFollow "special-get-raises" false)))(b:∀w:World,Ya (w.withFollow "special-get-raises" true)=Ya (w.withFollow "special-get-raises" false)):LeftO af QV LO XT Yf Ya 14000:=left "special-get-raises" d (by decide) c lf lt a λw os=>by rw[zN,a w os,b w]
end RG
section
open PySem PySem.W PyProof.Rows
set_option hygiene false in
local macro_rules
|`(tactic| o_head $H)=>`(tactic| (have HH:=$H;exact z.elim))
set_option maxRecDepth 100000 in
set_option maxHeartbeats 0 in
theorem RG.ws:bz.wellSaid=true:=by kernel_rfl
set_option maxRecDepth 100000 in
set_option maxHeartbeats 0 in
theorem RG.hk(z:False):bz.Holds:=by w_on;refine PySem.W.holds_law RG.ws λa=>?_;k_head
end
namespace RG
open PySem PySem.W PyProof.Rows
noncomputable def ad(k:Nat):Nat->Nat->List Addr:=@Nat.rec (λ_=>Nat->Nat->List Addr) (λ_ _=>[]) (λ_ ih n a=>(a+n % 16)::ih (n / 16) (a+n % 16)) k
noncomputable def AS:List Addr:=ad 481 0x1212112121121211212112121121211212113112121131121211212113112121121211212113112121131131131121211212112123111111212112121121211212112121121211212112121131121211212112121121211212112121121211212112121121211212112121121211212112121121281212112121121211212112121121211212112121121211112121121211212112121121211212112123111121273111121273111121273111121273111111212112121121211212112121121281212112121121211311212112123111121273111121273111121273111121273111121273111121273111711212c12 0
theorem eK(P:Params):AS=(RG.hk.heap_1 P).map (·.1):=by kernel_rfl
theorem AV(w:World)(os:bP):lk af (λs=>AS.map s.heap.get?) 14000 (w.withFollow "special-get-raises" false) os=some ((RG.hk.heap_1 (w.withFollow "special-get-raises" false).params).map λp=>some p.2):=by kernel_rfl
end RG
set_option autoImplicit true
set_option relaxedAutoImplicit true
namespace L2
open PySem PySem.Spec PyProof.Rows
noncomputable abbrev Key:=Sum Int Str
noncomputable def Md:Key->Value->Bool
|.inl k,v=>Value.isInt k v
|.inr x,v=>Value.isStrOf x v
noncomputable def yk(w:World):Key->Int
|.inl k=>hashInt k
|.inr x=>hashStr w x
theorem ZU:∀{k:Key}{v:Value},Md k v=true->(∃i t,k=ik i/\v=Value.int i t)\/(∃x t,k=cD x/\v=Value.str x t)
|.inl i,v,h=>by obtain⟨t,e⟩:=Value.isInt_shape (k:=i) (v:=v) h;exact .inl ⟨i,t,rfl,e⟩
|.inr x,v,h=>by obtain⟨t,e⟩:=Value.isStrOf_shape (x:=x) (v:=v) h;exact .inr ⟨x,t,rfl,e⟩
theorem TR(i:Int)(t:Tok):Md (.inl i) (.int i t)=true:=by simp[Md,Value.isInt]
theorem TQ(x:Str)(t:Tok):Md (.inr x) (.str x t)=true:=by simp[Md,Value.isStrOf]
theorem F6(a b:Int):decide ((ik a:Key)=ik b)=(a==b):=by
 by_cases e:a=b
 .subst e;simp
 .have h:¬(ik a:Key)=ik b:=λq=>e (Sum.inl.inj q);rw[decide_eq_false h];exact(beq_eq_false_iff_ne.mpr e).symm
theorem FY(a b:Str):decide ((cD a:Key)=cD b)=decide (a=b):=by
 by_cases e:a=b
 .subst e;simp
 .have h:¬(cD a:Key)=cD b:=λq=>e (Sum.inr.inj q);rw[decide_eq_false h,decide_eq_false e]
theorem F5(a:Int)(b:Str):decide ((ik a:Key)=cD b)=false:=decide_eq_false (λq=>nomatch q)
theorem FZ(a:Str)(b:Int):decide ((cD a:Key)=ik b)=false:=decide_eq_false (λq=>nomatch q)
noncomputable def Zz(prog:Program)(w:World):PySem.KeyKind prog w Key where
 is:=Md
 hash:=yk w
 inj:=λv a b ha hb=>by
  rcases ZU ha with⟨i,t,rfl,rfl⟩|⟨x,t,rfl,rfl⟩
  .rcases ZU hb with⟨j,u,rfl,e⟩|⟨y,u,rfl,e⟩
   .injection e with e1 _;rw[e1]
   .exact nomatch e
  .rcases ZU hb with⟨j,u,rfl,e⟩|⟨y,u,rfl,e⟩
   .exact nomatch e
   .injection e with e1 _;rw[e1]
 byValue:=λk v h=>by rcases ZU h with⟨i,t,rfl,rfl⟩|⟨x,t,rfl,rfl⟩<;>rfl
 pyHash:=λhv h=>by
  rcases ZU hv with⟨i,t,rfl,rfl⟩|⟨x,t,rfl,rfl⟩
  .exact wpAny_pyHash_int h
  .exact wpAny_pyHash_str h
 eqBool:=λhu hv h=>by
  rcases ZU hu with⟨i,t,rfl,rfl⟩|⟨x,t,rfl,rfl⟩
  .rcases ZU hv with⟨j,u,rfl,rfl⟩|⟨y,u,rfl,rfl⟩
   .rw[F6]at h;exact wpAny_eqBool_int h
   .rw[F5]at h;exact SeqAt.EqAt.int_str i t y u _ _ _ _ h
  .rcases ZU hv with⟨j,u,rfl,rfl⟩|⟨y,u,rfl,rfl⟩
   .rw[FZ]at h;exact SeqAt.EqAt.str_int x t j u _ _ _ _ h
   .rw[FY]at h;exact wpAny_eqBool_str h
 «strs»:=λk x t v h=>by
  rcases ZU h with⟨i,u,rfl,e⟩|⟨y,u,rfl,e⟩
  .exact nomatch e
  .injection e with e1 _
   subst e1
   cases v<;>rfl
theorem P0(prog:Program)(w:World)(i:Int)(t:Tok):(Zz prog w).is (.inl i) (.int i t)=true:=TR i t
theorem PZ(prog:Program)(w:World)(x:Str)(t:Tok):(Zz prog w).is (.inr x) (.str x t)=true:=TQ x t
open PySem PySem.Spec PyProof.Rows
inductive V where
|non|bl (b:Bool)|int (i:Int)|str (x:Str)|qe (b:Array UInt8)|uE (b:UInt64)|ref (a:Addr)|ty (n:String)
 deriving DecidableEq
noncomputable def RelV:V->Value->Prop
|.non,u=>u=Value.none
|.bl b,u=>u=Value.bool b
|.int i,u=>∃t,u=Value.int i t
|.str x,u=>∃t,u=Value.str x t
|.qe b,u=>∃t,u=Value.bytes b t
|.uE b,u=>∃t,u=Value.float b t
|.ref a,u=>u=Value.ref a
|.ty n,u=>u=Value.type n
noncomputable abbrev Vals:List V->List Value->Prop:=bZ RelV
theorem Vals.length{xs:List V}{us:List Value}(r:Vals xs us):xs.length=us.length:=aV r
theorem Vals.get:∀{xs:List V}{us:List Value}{i:Nat}{x:V},Vals xs us->xs[i]?=some x->∃u,us[i]?=some u/\RelV x u
|_,_,_,_,.nil,e=>by simp at e
|_,_,0,_,.cons r _,e=>by simp at e;subst e;exact⟨_,rfl,r⟩
|_,_,i+1,x,.cons _ t,e=>by obtain⟨u,b,a⟩:=Vals.get (i:=i) (x:=x) t (by simpa using e);exact⟨u,by simpa using b,a⟩
theorem Vals.set  (r:RelV x u):∀{xs:List V}{us:List Value}(i:Nat),Vals xs us->Vals (xs.set i x) (us.set i u)
|_,_,_,.nil=>.nil
|_,_,0,.cons _ t=>.cons r t
|_,_,i+1,.cons q t=>.cons q (Vals.set r i t)
theorem Vals.append{xs a:List V}{us ws:List Value}(r:Vals xs us)(s:Vals a ws):Vals (xs++a) (us++ws):=by
 induction r with
|nil=>exact s
|cons r _ b=>exact .cons r b
theorem Vals.take:∀{xs:List V}{us:List Value}(n:Nat),Vals xs us->Vals (xs.take n) (us.take n)
|_,_,0,_=>.nil
|_,_,_+1,.nil=>.nil
|_,_,n+1,.cons r t=>.cons r (Vals.take n t)
theorem Vals.drop:∀{xs:List V}{us:List Value}(n:Nat),Vals xs us->Vals (xs.drop n) (us.drop n)
|_,_,0,r=>r
|_,_,_+1,.nil=>.nil
|_,_,n+1,.cons _ t=>Vals.drop n t
noncomputable def kf:Option V->Option Value->Prop
|some v,some u=>RelV v u
|none,none=>True
|_,_=>False
noncomputable def KV{κ:Type}:List (κ×V)->List (κ×Value)->Prop:=bZ λ(p:κ×V)(q:κ×Value)=>p.1=q.1/\RelV p.2 q.2
noncomputable def kV:Key->V
|.inl i=>.int i
|.inr x=>.str x
inductive HO where
|lst (xs:List V)
|tup (xs:List V)
|dK (f5:List (Key×V))|dT (f5:List (List Key×V))
|set (S:Int->Bool) (n:Nat)
|ins (C dx:Addr) (fs:List (Str×V))
|own (x:Addr)
|xd (fs:List (Str×V))
|met (f x:Addr)
|vT (lo hi:Int)
|lG (o:Obj) (u:HO)
|tR (ps:Array Value)
|ext (φ:Heap->Prop)
noncomputable abbrev Hp:=Addr->Option HO
noncomputable def upd(H:Hp)(a:Addr)(o:HO):Hp:=λb=>if b=a then some o else H b
theorem Zd   :upd H a o a=some o:=by unfold upd;rw[if_pos rfl]
theorem Zf {a b:Addr}(h:b≠a):upd H a o b=H b:=by unfold upd;rw[if_neg h]
theorem LU   :upd (upd H a o) a u=upd H a u:=by funext b;unfold upd;split<;>rfl
theorem hA{H:Hp}{o u:HO}(h:H a=some o)(h':H b=some u)(d:o≠u):a≠b:=by intro e;subst e;rw[h]at h';exact d (ax h')
theorem fi{H:Hp}{o:HO}(h:H a=some o)(h':H b=none):a≠b:=by intro e;subst e;rw[h]at h';cases h'
section
variable (P:Program)(w:World)
noncomputable def ZW(H:Hp)(h:Heap)(a:Addr):HO->Prop
|.lst xs=>xs.length<=sizeLine/\∃(pk:List Value)(n:Nat),Vals xs pk/\h.get? a=some {cls:=.type "list",data:=.seq pk.toArray n}
|.tup xs=>xs.length<=sizeLine/\∃pk:List Value,Vals xs pk/\IsTup h a pk.toArray
|.dK f5=>f5.length<=sizeLine/\(a==bC)=false/\∃vs,KV f5 vs/\h.DictOf (Zz P w) a vs
|.dT f5=>f5.length<=sizeLine/\(a==bC)=false/\∃xs:List (List Key×Addr×Value),bZ (λ(p:List Key×V)(q:List Key×Addr×Value)=>p.1=q.1/\H q.2.1=some (.tup (p.1.map kV))/\RelV p.2 q.2.2) f5 xs /\∃o es ep,h.get? a=some o/\o.ExactDict/\o.data=.dict es ep/\es.toList=xs.map (jb (bQ (Zz P w)))/\(xs.map (·.1)).Nodup
|.set S n=>h.SetOf (intKind P w) a S n
|.ins C dx fs=>H dx=some (.own a)/\fs.length<=1000/\dx≠a/\h.get? a=some (cZ C dx) /\∃mA,h.Ns1 dx mA/\(∀f,kf (fs.lookup f) (mA f))/\d6 mA (fs.map (·.1))
|.own _=>∃o,h.get? a=some o
|.xd fs=>∃mA,h.Ns1 a mA/\∀f,kf (fs.lookup f) (mA f)
|.vT lo hi=>∃t u v,h.get? a=some {cls:=.type "range",data:=.fields #[.int lo t,.int hi u,.int 1 v]}
|.lG o u=>h.get? a=some o/\ZW H h a u
|.tR ps=>h.get? a=some {cls:=.none,data:=.fields ps}
|.met f x=>h.get? a=some (iz (.ref f) (.ref x))
|.ext φ=>φ h/\(∃o,h.get? a=some o)/\∀h1 h2:Heap,φ h1->(∀o,h1.get? a=some o->h2.get? a=some o)->φ h2
noncomputable def k6(H:Hp)(h:Heap):Prop:=∀a o,H a=some o->ZW P w H h a o
end
section
variable {P:Program}{w:World}{H H':Hp}{h h':Heap}{a:Addr}{o:HO}
theorem ZW.lt(x:ZW P w H h a o):a<h.objs.size:=by
 cases o with
|lst xs=>obtain⟨_,_,_,_,e⟩:=x;exact Heap.lt_size e
|tup xs=>obtain⟨_,_,_,p⟩:=x;exact p.lt
|dK b=>obtain⟨_,_,_,_,o,_,_,e,_⟩:=x;exact Heap.lt_size e
|dT b=>obtain⟨_,_,_,_,o,_,_,e,_⟩:=x;exact Heap.lt_size e
|set S n=>obtain⟨o,_,_,_,e,_⟩:=x;exact Heap.lt_size e
|ins C i fs=>obtain⟨_,_,_,e,_⟩:=x;exact Heap.lt_size e
|own y=>obtain⟨_,e⟩:=x;exact Heap.lt_size e
|xd fs=>obtain⟨_,⟨_,_,_,e,_⟩,_⟩:=x;exact Heap.lt_size e
|vT lo g=>obtain⟨_,_,_,e⟩:=x;exact Heap.lt_size e
|lG d u=>obtain⟨e,_⟩:=x;exact Heap.lt_size e
|tR ps=>exact Heap.lt_size (show h.get? a=some _ from x)
|met f y=>exact Heap.lt_size (show h.get? a=some _ from x)
|ext c=>obtain⟨_,⟨_,e⟩,_⟩:=x;exact Heap.lt_size e
theorem Paired.mY{α β:Type}{F G:α->β->Prop}{d:List α}{c:List β}(h:bZ F d c)(f:∀a b,F a b->G a b):bZ G d c:=by
 induction h with
|nil=>exact .nil
|cons r _ e=>exact .cons (f _ _ r) e
theorem ZW.lW(x:ZW P w H h a o)(k:∀b u,(b=a\/H b=some (.own a))->h.get? b=some u->h'.get? b=some u)(D:∀b,H b=some (.own a)->H' b=some (.own a))(B:∀b xs,H b=some (.tup xs)->H' b=some (.tup xs)):ZW P w H' h' a o:=by
 induction o with
|lst xs=>obtain⟨z,l,n,r,e⟩:=x;exact⟨z,l,n,r,k _ _ (.inl rfl) e⟩
|tup xs=>obtain⟨z,l,r,g,e,c⟩:=x;exact⟨z,l,r,g,k _ _ (.inl rfl) e,c⟩
|dK s=>obtain⟨z,y,vs,r,g,i,j,e,c⟩:=x;exact⟨z,y,vs,r,g,i,j,k _ _ (.inl rfl) e,c⟩
|dT s=>obtain⟨z,y,xs,r,g,i,j,e,c⟩:=x;exact⟨z,y,xs,Paired.mY r λp q z=>⟨z.1,B _ _ z.2.1,z.2.2⟩,g,i,j,k _ _ (.inl rfl) e,c⟩
|set S n=>obtain⟨g,i,j,t,e,c⟩:=x;exact⟨g,i,j,t,k _ _ (.inl rfl) e,c⟩
|ins C I fs=>obtain⟨d,z,ne,e,mA,⟨od,i,j,E,c⟩,r⟩:=x;exact⟨D _ d,z,ne,k _ _ (.inl rfl) e,mA,⟨od,i,j,k _ _ (.inr d) E,c⟩,r⟩
|own y=>obtain⟨g,e⟩:=x;exact⟨g,k _ _ (.inl rfl) e⟩
|xd fs=>obtain⟨mA,⟨od,i,j,e,c⟩,r⟩:=x;exact⟨mA,⟨od,i,j,k _ _ (.inl rfl) e,c⟩,r⟩
|vT lo G=>obtain⟨t,u,v,e⟩:=x;exact⟨t,u,v,k _ _ (.inl rfl) e⟩
|lG g u A=>obtain⟨e,q⟩:=x;exact⟨k _ _ (.inl rfl) e,A q⟩
|tR ps=>have e:h.get? a=some {cls:=.none,data:=.fields ps}:=x;show h'.get? a=some {cls:=.none,data:=.fields ps};exact k a _ (.inl rfl) e
|met f y=>have e:h.get? a=some (iz (.ref f) (.ref y)):=x;show h'.get? a=some (iz (.ref f) (.ref y));exact k a _ (.inl rfl) e
|ext F=>obtain⟨p,⟨o,e⟩,st⟩:=x;exact⟨st _ _ p λo q=>k _ _ (.inl rfl) q,⟨o,k _ _ (.inl rfl) e⟩,st⟩
theorem k6.lt(x:k6 P w H h)(e:H a=some o):a<h.objs.size:=(x a o e).lt
theorem k6.fresh(x:k6 P w H h)(e:h.objs.size<=a):H a=none:=by
 cases q:H a with
|none=>rfl
|some u=>exact absurd (Nat.lt_of_lt_of_le (x.lt q) e) (Nat.lt_irrefl _)
theorem k6.kept(x:k6 P w H h)(k:∀b u,h.get? b=some u->h'.get? b=some u):k6 P w H h':=λa o e=>(x a o e).lW (λb u _ q=>k b u q) (λ_ q=>q) λ_ _ q=>q
theorem k6.laid(x:k6 P w H h)(k:∀b u,h.get? b=some u->h'.get? b=some u)(g:h.objs.size<=a)(new:ZW P w (upd H a o) h' a o):k6 P w (upd H a o) h':=λb u e=>by
 have d:=x.fresh g;by_cases f:b=a
 .subst f;rw[Zd]at e;cases e;exact new
 .rw[Zf f]at e;exact(x b u e).lW (λc v _ q=>k c v q) (λc q=>by rw[Zf (fi q d)];exact q) λc xs q=>by rw[Zf (fi q d)];exact q
end
noncomputable def Rd(H:Hp)(a:Addr)(u:HO):Prop:=H a=some u\/∃o,H a=some (.lG o u)
theorem Rd.ok      (r:Rd H a u)(x:k6 P w H h):ZW P w H h a u:=by
 rcases r with r|⟨o,r⟩
 .exact x a u r
 .obtain⟨_,q⟩:=x a _ r;exact q
noncomputable def vO:Option HO->Prop
|some (.lst _)=>True
|some (.dK _)=>True
|some (.dT _)=>True
|some (.set _ _)=>True
|some (.ins _ _ _)=>True
|some (.ext _)=>True
|_=>False
section
variable {P:Program}{w:World}{H:Hp}{h h':Heap}{x e:Addr}{o':HO}
theorem k6.write(ok:k6 P w H h)(mu:vO (H x))(he:e=x\/H e=some (.own x))(k:∀b u,b≠e->h.get? b=some u->h'.get? b=some u)(i:∃u,h'.get? e=some u)(new:ZW P w (upd H x o') h' x o'):k6 P w (upd H x o') h':=λb u q=>by
 have d:∀c y,H c=some (.own y)->c≠x:=λc y r z=>by subst z;rw[r]at mu;exact mu
 have f:∀c xs,H c=some (.tup xs)->c≠x:=λc xs r z=>by subst z;rw[r]at mu;exact mu
 by_cases g:b=x
 .subst g;rw[Zd]at q;cases q;exact new
 .rw[Zf g]at q;by_cases a:b=e
  .have j:H b=some (.own x):=by
    rcases he with z|z
    .exact absurd (a.trans z) g
    .rw[a];exact z
   rw[q]at j;cases j;obtain⟨v,l⟩:=i;exact⟨v,by rw[a];exact l⟩
  .refine(ok b u q).lW (λc v hc r=>k c v ?_ r) (λc r=>by rw[Zf (d c b r)];exact r) λc xs r=>by rw[Zf (f c xs r)];exact r
   rcases hc with rfl|hc
   .exact a
   .rintro rfl;rcases he with z|z
    .exact d c b hc z
    .rw[hc]at z;cases z;exact g rfl
end
structure Un(fs ex:List Addr)(H H':Hp)(h h':Heap):Prop where
 keep:∀b o,h.get? b=some o->H b=none->b∉fs->b∉ex->h'.get? b=some o
 slot:∀b o,h.get? b=some o->H b=none->b∈fs->b∉ex->∃sl,h'.get? b=some {o with slots:=sl}
 free:∀b o,h.get? b=some o->H b=none->b∉ex->H' b=none
 there:∀b o,h.get? b=some o->b∉ex->∃o',h'.get? b=some o'
 nC:∀b xs,H b=some (.tup xs)->H' b=some (.tup xs)
 ng:∀b o u,H b=some (.lG o u)->H' b=some (.lG o u)
 nE:∀b ps,H b=some (.tR ps)->∃more,H' b=some (.tR (ps++more))
section
variable {fs A3 ex Bn:List Addr}{H H1 H2:Hp}{h h1 h2 h':Heap}{a x e:Addr}{o:HO}
theorem Un.any(u:Un fs ex H H1 h h1){b:Addr}{c:Obj}(q:h.get? b=some c)(n:H b=none)(d:b∉ex):∃g,h1.get? b=some {c with slots:=g}:=by
 by_cases f:b∈fs
 .exact u.slot b c q n f d
 .exact⟨c.slots,u.keep b c q n f d⟩
theorem Un.kept(k:∀b u,h.get? b=some u->h'.get? b=some u):Un fs ex H H h h':=⟨λb c q _ _ _=>k b c q,λb c q _ _ _=>⟨c.slots,k b c q⟩,λ_ _ _ n _=>n,λb c q _=>⟨c,k b c q⟩,λ_ _ q=>q,λ_ _ _ q=>q,λ_ ps q=>⟨#[],by rw[q];simp⟩⟩
theorem Un.refl:Un fs ex H H h h:=Un.kept λ_ _ q=>q
theorem Un.laid(k:∀b u,h.get? b=some u->h'.get? b=some u)(d:h.objs.size<=a)(c:H a=none):Un fs ex H (upd H a o) h h' where
 keep:=λb u q _ _ _=>k b u q
 slot:=λb u q _ _ _=>⟨u.slots,k b u q⟩
 free:=λb u q n _=>by rw[Zf (Nat.ne_of_lt (Nat.lt_of_lt_of_le (Heap.lt_size q) d))];exact n
 there:=λb u q _=>⟨u,k b u q⟩
 nC:=λb xs q=>by rw[Zf (fi q c)];exact q
 ng:=λb u xs q=>by rw[Zf (fi q c)];exact q
 nE:=λb ps q=>⟨#[],by rw[Zf (fi q c),q];simp⟩
theorem Un.write(mu:vO (H x))(he:e=x\/H e=some (.own x))(k:∀b u,b≠e->h.get? b=some u->h'.get? b=some u)(d:∃u,h'.get? e=some u):Un fs ex H (upd H x o) h h':=by
 have f:∀b,H b=none->b≠x:=λb n z=>by subst z;rw[n]at mu;exact mu
 have g:∀b,H b=none->b≠e:=λb n z=>by
  subst z;rcases he with r|r
  .exact f b n r
  .rw[n]at r;cases r
 have hm:∀b u,H b=some u->¬vO (some u)->b≠x:=λb u q nm z=>by subst z;rw[q]at mu;exact nm mu
 refine⟨λb u q n _ _=>k b u (g b n) q,λb u q n _ _=>⟨u.slots,k b u (g b n) q⟩,λb u q n _=>by rw[Zf (f b n)];exact n,λb u q _=>?_,
  λb xs q=>by rw[Zf (hm b _ q λz=>z)];exact q,λb u xs q=>by rw[Zf (hm b _ q λz=>z)];exact q,λb ps q=>⟨#[],by rw[Zf (hm b _ q λz=>z),q];simp⟩⟩;by_cases c:b=e
 .subst c;exact d
 .exact⟨u,k b u c q⟩
end
noncomputable def sD(h:Heap)(H:Hp):List Addr:=(a_ h.objs.size).filter λa=>(H a).isSome
noncomputable def pq(h:Heap)(H:Hp):Heap:=gG h (sD h H)
theorem TY(h:Heap)(H:Hp):(pq h H).objs.size=h.objs.size:=PySem.W.hideAll_size _ _
theorem Lh{h:Heap}{H:Hp}{o:Obj}(e:h.get? b=some o)(n:H b=none):(pq h H).get? b=some o:=PySem.W.hideAll_get _ e λhm=>by have q:(H b).isSome=true:=(dM.mp hm).2;rw[n]at q;simp at q
theorem Dx   {o:Obj}(e:(pq h H).get? b=some o):h.get? b=some o/\H b=none:=by
 have a:h.get? b=some o:=PySem.W.of_hideAll (sD h H) e;refine⟨a,?_⟩;cases q:H b with
|none=>rfl
|some x=>have hm:b∈sD h H:=dM.mpr ⟨bq.mpr (Heap.lt_size a),by simp[q]⟩;have z:(pq h H).get? b=none:=gY (sD h H) hm;rw[z]at e;cases e
noncomputable def Ei(g h:Heap)(L:Addr):List (Addr×Obj):=(a_ h.objs.size).filterMap λa=>if a=L\/(g.get? a).isSome=true then none else(h.get? a).map λo=>(a,o)
noncomputable def rest(g h:Heap)(L d:Addr):List (Addr×Obj):=(Ei g h L).filter λp=>decide (p.1≠d)
open PySem PySem.Spec PyProof.Rows
structure Mod(K:ae)(mg:Str->Option Value)(base:Heap):Prop where
 tX:K.In base
 glob:base.Ns a8 mg
 blt:∃mb,base.Ns builtinsNs mb/\∀x:Str,x≠"__name__"->mb x=bJ x
 nolimit:base.NoLimit
structure Cx where
 prog:Program
 w:World
 K:ae
 mg:Str->Option Value
 base:Heap
 A:bh
 N:List Str
 jW:ai
 pF:Hp
 env:Env
 outer:List Env
 stack:List Env
 ex:List Addr
 fn:Str->Bool
 calm:Bool
 pn:List (Addr×Obj)
 xe:Value->ai->Prop
noncomputable def l_(l:List Env):List Addr:=l.filterMap (·.frame)
noncomputable abbrev Cx.fs(X:Cx):List Addr:=l_ X.outer
noncomputable def vI(sc:Scope)(x:Str):Prop:=sc.names.lookup x=some .local\/sc.names.lookup x=some .cell\/sc.names.lookup x=some .free
noncomputable def Loc(sc:Scope)(x:Str):Prop:=sc.names.lookup x=some .local\/sc.names.lookup x=some .cell
noncomputable def Look(env:Env)(h:Heap)(m:Str->Option Value)(x:Str)(u:Value):Prop:=(env.kindOf x=some .local/\m x=some u)\/((env.kindOf x=some .cell\/env.kindOf x=some .free)/\∃c,env.cells.lookup x=some c/\h.IsCell c (some u))
structure Cx.Ok(X:Cx):Prop where
 mod:Mod X.K X.mg X.base
 kind:X.env.scope.kind=.function
 glob:X.env.globals=a8
 blt:X.env.builtins=builtinsNs
 above:X.jW.heap.objs.size<=X.env.locals
 inj:∀x y c,X.env.cells.lookup x=some c->X.env.cells.lookup y=some c->x=y
 has:∀x,(X.env.kindOf x=some .cell\/X.env.kindOf x=some .free)->∃c,X.env.cells.lookup x=some c
 uG:∀x c,X.fn x=true->X.env.cells.lookup x=some c->X.jW.heap.objs.size<=c
 hd:X.calm=true->X.A.handled=none
 frames:X.A.frames=some X.stack
 uY:X.stack=X.outer\/(X.stack=X.env::X.outer/\X.env.frame=some X.env.locals)
 u9:∀b∈X.ex,b≠X.env.locals/\∀x c,X.env.cells.lookup x=some c->c≠b
 bs:∀b o,X.base.get? b=some o->X.jW.heap.get? b=some o/\X.pF b=none
 r9:X.base.objs.size<=X.jW.heap.objs.size
 qq:∀b o,X.base.get? b=some o->b∉X.ex
 qx:∀b∈X.ex,b∉X.fs
 mF:X.jW.heap.FunFrames X.base X.outer
 sI:∀b∈X.fs,X.pF b=none
structure Inv(X:Cx)(pins:List (Addr×Obj))(σ:List (Option V))(H:Hp)(s:ai):Prop where
 ok:X.Ok
 os:s.os=X.jW.os
 bare:gm s.gens
 base:Un X.fs X.ex X.pF H X.jW.heap s.heap
 loc:∃m,s.heap.Ns X.env.locals m/\∀(i:Nat)(x:Str)(v:V),X.N[i]?=some x->σ[i]?=some (some v)->vI X.env.scope x->∃u,RelV v u/\Look X.env s.heap m x u
 cell:∀x c,X.env.cells.lookup x=some c->∃v,s.heap.IsCell c v
 free:H X.env.locals=none
 ki:∀x c,X.env.cells.lookup x=some c->H c=none
 pin:∀p∈X.pn++pins,s.heap.get? p.1=some p.2/\H p.1=none/\p.1≠X.env.locals/\p.1∉X.fs/\∀v,p.2.data≠.cell v
 hL:k6 X.prog X.w H s.heap
 len:σ.length=X.N.length
section
variable {X:Cx}{pins:List (Addr×Obj)}{σ:List (Option V)}{H H':Hp}{s:ai}{h':Heap}
theorem Cx.Ok.xN(ok:X.Ok){o:Obj}(e:X.base.get? b=some o):b∉X.fs:=λa=>by have:=(ok.mF.mem a).1;rw[e]at this;cases this
theorem Inv.bs(I:Inv X pins σ H s):∀b o,X.base.get? b=some o->s.heap.get? b=some o/\H b=none:=λb o e=>⟨I.base.keep b o (I.ok.bs b o e).1 (I.ok.bs b o e).2 (I.ok.xN e) (I.ok.qq b o e),I.base.free b o (I.ok.bs b o e).1 (I.ok.bs b o e).2 (I.ok.qq b o e)⟩
theorem Inv.bk(I:Inv X pins σ H s):∀b o,X.base.get? b=some o->s.heap.get? b=some o:=λb o e=>(I.bs b o e).1
theorem Inv.mod(I:Inv X pins σ H s):Mod X.K X.mg X.base:=I.ok.mod
theorem Inv.kT(I:Inv X pins σ H s):X.K.In s.heap:=I.ok.mod.tX.keeps I.bk
theorem Inv.lt(I:Inv X pins σ H s):X.env.locals<s.heap.objs.size:=let ⟨_,a,_⟩:=I.loc;a.lt
theorem Inv.sz(I:Inv X pins σ H s):X.jW.heap.objs.size<=s.heap.objs.size:=Nat.le_trans I.ok.above (Nat.le_of_lt I.lt)
theorem Inv.uj(I:Inv X pins σ H s){a:Addr}(h:s.heap.objs.size<=a):a∉X.fs:=λc=>by obtain⟨_,o,b,_⟩:=I.ok.mF.mem c;exact absurd (Nat.lt_of_lt_of_le (Heap.lt_size b) (Nat.le_trans I.sz h)) (Nat.lt_irrefl _)
theorem Inv.tI(I:Inv X pins σ H s):∀x c,X.env.cells.lookup x=some c->c≠X.env.locals:=λx c e z=>by obtain⟨v,o,d,hd⟩:=I.cell x c e;obtain⟨m,⟨f,g,h,a,b,_⟩,_⟩:=I.loc;rw[z,a]at d;cases d;rw[b]at hd;cases hd
theorem Inv.mF(I:Inv X pins σ H s):s.heap.FunFrames X.base X.outer:=by
 have all:∀(l:List Env),(∀b∈l_ l,b∈X.fs)->X.jW.heap.FunFrames X.base l->s.heap.FunFrames X.base l:=by
  intro l;induction l with
 |nil=>intro _ _;trivial
 |cons env r f=>intro d j;obtain⟨hk,⟨L,o,hf,i,h,hd⟩,g⟩:=j;have c:L∈X.fs:=d L (by unfold l_;rw[dw,hf];exact ay);obtain⟨n,e⟩:=I.base.slot L o h (I.ok.sI L c) c λz=>I.ok.qx L z c;exact⟨hk,⟨L,_,hf,i,e,hd⟩,f (λb a=>d b (by unfold l_;rw[dw,hf];exact ar _ a)) g⟩
 exact all X.outer (λ_ a=>a) I.ok.mF
theorem Inv.stack(I:Inv X pins σ H s):s.heap.FunFrames X.base X.stack:=by
 rcases I.ok.uY with e|⟨e,hf⟩
 .rw[e];exact I.mF
 .rw[e];obtain⟨m,a,_⟩:=I.loc;refine .cons (by rw[I.ok.kind];decide) hf a ?_ I.mF;exact Heap.get?_none_of_le (Nat.le_trans I.ok.r9 I.ok.above)
theorem Inv.mM(I:Inv X pins σ H s):∀b∈l_ X.stack,b∈X.env.locals::X.fs:=λb a=>by
 rcases I.ok.uY with e|⟨e,hf⟩
 .rw[e]at a;exact ar _ a
 .rw[e]at a;unfold l_ at a;rw[dw,hf]at a;exact a
theorem Inv.mW(I:Inv X pins σ H s):∀b∈l_ X.stack,H b=none:=λb hb=>by
 rcases au.mp (I.mM b hb)with e|hb
 .rw[e];exact I.free
 .obtain⟨_,o,a,_⟩:=I.ok.mF.mem hb;exact I.base.free b o a (I.ok.sI b hb) λz=>I.ok.qx b z hb
theorem Inv.step{g':Array GenState}{t':Nat}{d':Drawn}{ch:List Addr}(I:Inv X pins σ H s)(g:∀b∈ch,(b∈X.ex\/X.jW.heap.objs.size<=b)/\b≠X.env.locals/\(∀x c,X.env.cells.lookup x=some c->c≠b)/\∀p∈X.pn++pins,p.1≠b)(keep:∀b o,b≠X.env.locals->b∉X.fs->b∉ch->s.heap.get? b=some o->H b=none->h'.get? b=some o)(slot:∀b o,b≠X.env.locals->b∈X.fs->b∉ch->s.heap.get? b=some o->H b=none->∃E,h'.get? b=some {o with slots:=E})(free:∀b o,b∉ch->s.heap.get? b=some o->H b=none->H' b=none)(there:∀b o,b∉ch->s.heap.get? b=some o->∃B,h'.get? b=some B)(nC:∀b xs,H b=some (.tup xs)->H' b=some (.tup xs))(ng:∀b o u,H b=some (.lG o u)->H' b=some (.lG o u))(nE:∀b ps,H b=some (.tR ps)->∃more,H' b=some (.tR (ps++more)))(ns:∀m,s.heap.Ns X.env.locals m->h'.Ns X.env.locals m)(G:k6 X.prog X.w H' h')(R:gm g'):Inv X pins σ H' {s with heap:=h',gens:=g',drawn:=d',toks:=t'}:=by
 have D:∀b o,X.jW.heap.get? b=some o->b≠X.env.locals:=λb o e=>Nat.ne_of_lt (Nat.lt_of_lt_of_le (Heap.lt_size e) I.ok.above);have j:∀b o,X.jW.heap.get? b=some o->b∉X.ex->b∉ch:=λb o e a y=>by
  rcases(g b y).1 with z|z
  .exact a z
  .exact absurd (Nat.lt_of_lt_of_le (Heap.lt_size e) z) (Nat.lt_irrefl _)
 have cellK:∀x c,X.env.cells.lookup x=some c->∀v,s.heap.IsCell c v->h'.IsCell c v:=λx c e v⟨o,A,hd⟩=>by
  have f:c∉ch:=λz=>(g c z).2.2.1 x c e rfl;by_cases M:c∈X.fs
  .obtain⟨E,q⟩:=slot c o (I.tI x c e) M f A (I.ki x c e);exact⟨_,q,hd⟩
  .exact⟨o,keep c o (I.tI x c e) M f A (I.ki x c e),hd⟩
 refine⟨I.ok,I.os,R,⟨λb o e n y a=>?_,λb o e n y a=>?_,λb o e n a=>?_,λb o e a=>?_,λb xs e=>nC b xs (I.base.nC b xs e),λb o xs e=>ng b o xs (I.base.ng b o xs e),λb ps e=>?_⟩,?_,λx c e=>?_,?_,λx c e=>?_,λp L=>?_,G,I.len⟩
 .exact keep b o (D b o e) y (j b o e a) (I.base.keep b o e n y a) (I.base.free b o e n a)
 .obtain⟨E,h⟩:=I.base.slot b o e n y a;obtain⟨F,C⟩:=slot b _ (D b o e) y (j b o e a) h (I.base.free b o e n a);exact⟨F,C⟩
 .obtain⟨B,h⟩:=I.base.there b o e a;exact free b B (j b o e a) h (I.base.free b o e n a)
 .obtain⟨B,h⟩:=I.base.there b o e a;exact there b B (j b o e a) h
 .obtain⟨O,h⟩:=I.base.nE b ps e;obtain⟨N,C⟩:=nE b _ h;exact⟨O++N,by rw[C,Array.append_assoc]⟩
 .obtain⟨m,P,Q⟩:=I.loc;refine⟨m,ns m P,λi x v h C S=>?_⟩;obtain⟨u,r,l⟩:=Q i x v h C S;refine⟨u,r,?_⟩;rcases l with l|⟨k,c,e,z⟩
  .exact .inl l
  .exact .inr ⟨k,c,e,cellK x c e _ z⟩
 .obtain⟨v,z⟩:=I.cell x c e;exact⟨v,cellK x c e v z⟩
 .obtain⟨m,⟨o,_,_,A,_⟩,_⟩:=I.loc;exact free _ o (λz=>(g _ z).2.1 rfl) A I.free
 .obtain⟨v,o,A,hd⟩:=I.cell x c e;exact free c o (λz=>(g c z).2.2.1 x c e rfl) A (I.ki x c e)
 .obtain⟨e,n,ne,J,d⟩:=I.pin p L;have f:p.1∉ch:=λz=>(g p.1 z).2.2.2 p L rfl;exact⟨keep p.1 p.2 ne J f e n,free p.1 p.2 f e n,ne,J,d⟩
theorem Inv.un{t':Nat}(I:Inv X pins σ H s)(u:Un X.fs [] H H' s.heap h')(d:k6 X.prog X.w H' h'):Inv X pins σ H' {s with heap:=h',toks:=t'}:=by
 obtain⟨m,⟨o,v,x,h,r⟩,_⟩:=id I.loc;obtain⟨l,j⟩:=u.any h I.free (by simp);exact I.step (g':=s.gens) (d':=s.drawn) (ch:=[]) (λ_ z=>nomatch z) (λb o _ c _ e n=>u.keep b o e n c (by simp)) (λb o _ c _ e n=>u.slot b o e n c (by simp)) (λb o _ e n=>u.free b o e n (by simp)) (λb o _ e=>u.there b o e (by simp)) u.nC u.ng u.nE (λq hm=>by obtain⟨p,f,g,a,i⟩:=hm;rw[h]at a;cases a;exact⟨_,f,g,j,i⟩) d I.bare
theorem Inv.call{g':Array GenState}{t':Nat}{d':Drawn}{ch:List Addr}(I:Inv X pins σ H s)(u:Un (l_ X.stack) ch H H' s.heap h')(h:k6 X.prog X.w H' h')(v:gm g')(f:∀b∈ch,(b∈X.ex\/X.jW.heap.objs.size<=b)/\b≠X.env.locals/\(∀x c,X.env.cells.lookup x=some c->c≠b)/\∀p∈X.pn++pins,p.1≠b):Inv X pins σ H' {s with heap:=h',gens:=g',drawn:=d',toks:=t'}:=by
 obtain⟨m,⟨o,D,E,l,r⟩,_⟩:=id I.loc;obtain⟨A,g⟩:=u.any l I.free λz=>(f _ z).2.1 rfl;exact I.step (ch:=ch) f (λb o g y a e n=>u.keep b o e n (λz=>(au.mp (I.mM b z)).elim g y) a) (λb o _ _ a e n=>u.any e n a) (λb o a e n=>u.free b o e n a) (λb o a e=>u.there b o e a) u.nC u.ng u.nE (λC hm=>by obtain⟨B,i,j,d,q⟩:=hm;rw[l]at d;cases d;exact⟨_,i,j,g,q⟩) h v
theorem Inv.turned{t':Nat}{it:Addr}(I:Inv X pins σ H s)(k:∀b o,b≠it->s.heap.get? b=some o->h'.get? b=some o)(h:H it=none)(f:it≠X.env.locals)(w:it∈X.ex\/X.jW.heap.objs.size<=it)(l:∀x c,X.env.cells.lookup x=some c->c≠it)(j:∀p∈X.pn++pins,p.1≠it):Inv X pins σ H {s with heap:=h',toks:=t'}:=by
 have d:∀b u,H b=some u->b≠it:=λb u e z=>by rw[z,h]at e;cases e
 refine I.step (g':=s.gens) (d':=s.drawn) (ch:=[it]) (λb i=>?_) (λb o _ _ a e _=>k b o (λz=>a (by simp[z])) e) (λb o _ _ a e _=>⟨o.slots,k b o (λz=>a (by simp[z])) e⟩) (λ_ _ _ _ n=>n) (λb o a e=>⟨o,k b o (λz=>a (by simp[z])) e⟩) (λ_ _ e=>e) (λ_ _ _ e=>e) (λb ps e=>⟨#[],by rw[e];simp⟩) (λm hm=>?_) (λb u e=>?_) I.bare
 .have e:b=it:=by simpa using i
  subst e;exact⟨w,f,l,j⟩
 .obtain⟨o,y,A,g,r⟩:=hm;exact⟨o,y,A,k _ o (bK f) g,r⟩
 .refine(I.hL b u e).lW (λc v a q=>k c v ?_ q) (λ_ q=>q) λ_ _ q=>q;rcases a with z|z
  .rw[z];exact d b u e
  .exact d c _ z
theorem Inv.tok(I:Inv X pins σ H s)(t:Nat):Inv X pins σ H {s with toks:=t}:=I.un (h':=s.heap) (t':=t) Un.refl I.hL
theorem Inv.kept{t':Nat}(I:Inv X pins σ H s)(k:∀b u,s.heap.get? b=some u->h'.get? b=some u):Inv X pins σ H {s with heap:=h',toks:=t'}:=I.un (Un.kept k) (I.hL.kept k)
theorem Inv.laid{a:Addr}{t':Nat}(I:Inv X pins σ H s)(k:∀b u,s.heap.get? b=some u->h'.get? b=some u)(c:s.heap.objs.size<=a)(new:ZW X.prog X.w (upd H a o) h' a o):Inv X pins σ (upd H a o) {s with heap:=h',toks:=t'}:=I.un (Un.laid k c (I.hL.fresh c)) (I.hL.laid k c new)
theorem Inv.write{x e:Addr}{t':Nat}(I:Inv X pins σ H s)(mu:vO (H x))(he:e=x\/H e=some (.own x))(k:∀b u,b≠e->s.heap.get? b=some u->h'.get? b=some u)(a:∃u,h'.get? e=some u)(new:ZW X.prog X.w (upd H x o) h' x o):Inv X pins σ (upd H x o) {s with heap:=h',toks:=t'}:=I.un (Un.write mu he k a) (I.hL.write mu he k a new)
theorem Inv.ou{a:List (Addr×Obj)}(I:Inv X pins σ H s)(h:∀p∈a,s.heap.get? p.1=some p.2/\H p.1=none/\p.1≠X.env.locals/\p.1∉X.fs/\∀v,p.2.data≠.cell v):Inv X a σ H s:=⟨I.ok,I.os,I.bare,I.base,I.loc,I.cell,I.free,I.ki,λp b=>(aF.mp b).elim (λz=>I.pin p (bj _ z)) (h p),I.hL,I.len⟩
theorem G8{N:List Str}(c:N.Nodup){i j:Nat}{x:Str}(a:N[i]?=some x)(b:N[j]?=some x):i=j:=by obtain⟨g,e⟩:=aj.mp a;obtain⟨f,d⟩:=aj.mp b;exact(gH c).mp (e.trans d.symm)
theorem MO   {i:Nat}{x:Str} {Q:Unit->ai->Prop}(I:Inv X pins σ H s)(hN:X.N.Nodup)(L:X.N[i]?=some x)(l:Loc X.env.scope x)(r:RelV v u)(h:∀s',Inv X pins (σ.set i (some v)) H s'->(∃a,Heap.SameBut a s.heap s'.heap/\(a=X.env.locals\/X.env.cells.lookup x=some a))->Q () s')(hf:X.fn x=true\/X.env.scope.names.lookup x=some .local:=by first|exact .inl rfl|exact .inr rfl|assumption):wpAny M A (storeName X.env x u) Q E s:=by
 obtain⟨m,hn,hl⟩:=id I.loc;have T:(X.env.scope.kind==.class||(X.env.scope.kind==.module&&X.env.locals != X.env.globals))=false:=by rw[I.ok.kind];rfl
 have D:i<σ.length:=by rw[I.len];exact(aj.mp L).1
 have tI:=I.tI;have tracked:∀{a:Addr}{h':Heap},(∃o,s.heap.get? a=some o/\H a=none)->Heap.SameBut a s.heap h'->k6 X.prog X.w H h':=λ{a h'}ha f b ob e=>by
  obtain⟨_,_,B⟩:=ha;refine(I.hL b ob e).lW (λc U hc q=>(f.2 c ?_).trans q) (λ_ q=>q) λ_ _ q=>q;rintro rfl;rcases hc with rfl|hc
  .rw[B]at e;cases e
  .rw[B]at hc;cases hc
 rcases l with hk|hk
 .refine wpAny_storeName_local hk hn (λh' ag f=>?_) T;obtain⟨oL,_,_,ab,_⟩:=id hn;refine h _ ⟨I.ok,I.os,I.bare,⟨λb o e n G l=>?_,λb o e n G l=>?_,I.base.free,λb o e l=>?_,I.base.nC,I.base.ng,I.base.nE⟩,⟨_,ag,λj y Y g C e3=>?_⟩,λy c e=>?_,I.free,I.ki,λp hp=>?_,tracked ⟨oL,ab,I.free⟩ f,by simpa using I.len⟩ ⟨_,f,.inl rfl⟩
  .exact(f.2 b (Nat.ne_of_lt (Nat.lt_of_lt_of_le (Heap.lt_size e) I.ok.above))).trans (I.base.keep b o e n G l)
  .obtain⟨sl,g⟩:=I.base.slot b o e n G l;exact⟨sl,(f.2 b (Nat.ne_of_lt (Nat.lt_of_lt_of_le (Heap.lt_size e) I.ok.above))).trans g⟩
  .obtain⟨o',g⟩:=I.base.there b o e l;exact⟨o',(f.2 b (Nat.ne_of_lt (Nat.lt_of_lt_of_le (Heap.lt_size e) I.ok.above))).trans g⟩
  .by_cases F:j=i
   .subst F;rw[L]at g;cases g;rw[gT D]at C;cases C;exact⟨u,r,.inl ⟨hk,by simp⟩⟩
   .rw[ig (bK F)]at C;obtain⟨Z,r',q⟩:=hl j y Y g C e3;refine⟨Z,r',?_⟩;rcases q with⟨k,e⟩|⟨k,c,e,z⟩
    .refine .inl ⟨k,?_⟩;have:y≠x:=λe=>F (G8 hN g (e▸L));simp[this,e]
    .exact .inr ⟨k,c,e,z.sameBut f (tI y c e)⟩
  .obtain⟨U,z⟩:=I.cell y c e;exact⟨U,z.sameBut f (tI y c e)⟩
  .obtain⟨e,n,ne,nf,d⟩:=I.pin p hp;exact⟨(f.2 p.1 ne).trans e,n,ne,nf,d⟩
 .have J:X.fn x=true:=by
   rcases hf with z|z
   .exact z
   .rw[z]at hk;cases hk
  obtain⟨c,hc⟩:=I.ok.has x (.inl hk);obtain⟨U,z⟩:=I.cell x c hc;refine wpAny_storeName_cell I.ok.kind hk hc z (λh' R f=>?_);obtain⟨oc,O,S⟩:=id z;refine h {s with heap:=h'} ⟨I.ok,I.os,I.bare,⟨λb o e n G l=>?_,λb o e n G l=>?_,I.base.free,λb o e l=>?_,I.base.nC,I.base.ng,I.base.nE⟩,⟨m,hn.sameBut f (bK (tI x c hc)),λj y Y g C e3=>?_⟩,λy W e=>?_,I.free,I.ki,λp hp=>?_,tracked ⟨oc,O,I.ki x c hc⟩ f,by simpa using I.len⟩ ⟨c,f,.inr hc⟩
  .exact(f.2 b (Nat.ne_of_lt (Nat.lt_of_lt_of_le (Heap.lt_size e) (I.ok.uG x c J hc)))).trans (I.base.keep b o e n G l)
  .obtain⟨sl,g⟩:=I.base.slot b o e n G l;exact⟨sl,(f.2 b (Nat.ne_of_lt (Nat.lt_of_lt_of_le (Heap.lt_size e) (I.ok.uG x c J hc)))).trans g⟩
  .obtain⟨o',g⟩:=I.base.there b o e l;exact⟨o',(f.2 b (Nat.ne_of_lt (Nat.lt_of_lt_of_le (Heap.lt_size e) (I.ok.uG x c J hc)))).trans g⟩
  .by_cases F:j=i
   .subst F;rw[L]at g;cases g;rw[gT D]at C;cases C;exact⟨u,r,.inr ⟨.inl hk,c,hc,R⟩⟩
   .rw[ig (bK F)]at C;obtain⟨Z,r',q⟩:=hl j y Y g C e3;refine⟨Z,r',?_⟩;rcases q with q|⟨k,W,e,z'⟩
    .exact .inl q
    .refine .inr ⟨k,W,e,z'.sameBut f ?_⟩;rintro rfl;exact F (G8 hN g (I.ok.inj _ _ _ e hc▸L))
  .by_cases P:W=c
   .subst P;exact⟨_,R⟩
   .obtain⟨w2,z2⟩:=I.cell y W e;exact⟨w2,z2.sameBut f P⟩
  .obtain⟨e,n,ne,nf,d⟩:=I.pin p hp;refine⟨(f.2 p.1 ?_).trans e,n,ne,nf,d⟩;intro q;rw[q,O]at e;have q':oc=p.2:=ax e;exact d U (by rw[<-q'];exact S)
theorem GI{M:Model}{A:bh}{E:Value->ai->Prop}{i:Nat}{x:Str}{v:V}{u:Value}{Q:Unit->ai->Prop}(I:Inv X pins σ H s)(c:X.N.Nodup)(b:X.N[i]?=some x)(a:Loc X.env.scope x)(r:RelV v u)(h:∀s',Inv X pins (σ.set i (some v)) H s'->Q () s')(hf:X.fn x=true\/X.env.scope.names.lookup x=some .local:=by first|exact .inl rfl|exact .inr rfl|assumption):wpAny M A (storeName X.env x u) Q E s:=MO I c b a r (λs' d _=>h s' d) hf
theorem Inv.rZ{s':ai}(I:Inv X pins σ H s)(g:s'.os=s.os)(u:Un (l_ X.stack) ch H H' s.heap s'.heap)(a:k6 X.prog X.w H' s'.heap)(h:gm s'.gens)(d:∀b∈ch,(b∈X.ex\/X.jW.heap.objs.size<=b)/\b≠X.env.locals/\(∀x c,X.env.cells.lookup x=some c->c≠b)/\∀p∈X.pn++pins,p.1≠b):Inv X pins σ H' s':=by obtain⟨h',g',d',t',f⟩:=s';have e:f=s.os:=g;subst e;exact I.call (g':=g') (t':=t') (d':=d') u a h d
end
noncomputable abbrev XK:=Value->Option Addr->Hp->Prop
noncomputable abbrev St:=List (Option V)
noncomputable abbrev VK:=V->Hp->Prop
noncomputable abbrev TE:=St->Hp->VK->Prop
noncomputable abbrev TT:=St->Hp->(Bool->Hp->Prop)->Prop
noncomputable abbrev TA:=St->Hp->(List V->Hp->Prop)->Prop
structure Ends where
 nx:St->Hp->Prop
 rt:VK
 bk:St->Hp->Prop:=λ_ _=>False
 ct:St->Hp->Prop:=λ_ _=>False
noncomputable abbrev TS:=Ends->St->Hp->Prop
noncomputable def EP(X:Cx)(pins:List (Addr×Obj))(σ:St)(Q:VK)(u:Value)(s':ai):Prop:=∃v H',Inv X pins σ H' s'/\RelV v u/\Q v H'
noncomputable def TP(X:Cx)(pins:List (Addr×Obj))(σ:St)(Q:Bool->Hp->Prop)(b:Bool)(s':ai):Prop:=∃H',Inv X pins σ H' s'/\Q b H'
noncomputable def AP(X:Cx)(pins:List (Addr×Obj))(σ:St)(Q:List V->Hp->Prop)(us:List Value)(s':ai):Prop:=∃vs H',Inv X pins σ H' s'/\Vals vs us/\Q vs H'
noncomputable def SP(X:Cx)(pins:List (Addr×Obj))(D:Ends)(f:Flow)(s':ai):Prop:=match f with
|.next=>∃mK H',Inv X pins mK H' s'/\D.nx mK H'
|.brk=>∃mK H',Inv X pins mK H' s'/\D.bk mK H'
|.cont=>∃mK H',Inv X pins mK H' s'/\D.ct mK H'
|.ret u=>∃v mK H',Inv X pins mK H' s'/\RelV v u/\D.rt v H'
noncomputable def PE(X:Cx)(e:Expr)(t:TE):Prop:=∀(pins:List (Addr×Obj))(s:ai)(σ:St)(H:Hp)(Q:VK),Inv X pins σ H s->t σ H Q->wpAny (model X.prog X.w) X.A (eval e X.env) (EP X pins σ Q) X.xe s
noncomputable def PT(X:Cx)(e:Expr)(t:TT):Prop:=∀(pins:List (Addr×Obj))(s:ai)(σ:St)(H:Hp)(Q:Bool->Hp->Prop),Inv X pins σ H s->t σ H Q->wpAny (model X.prog X.w) X.A (isTrue e X.env (eval e X.env)) (TP X pins σ Q) X.xe s
noncomputable def PW(X:Cx)(e:Expr)(t:TT):Prop:=∀(whole:Sem Value)(pins:List (Addr×Obj))(s:ai)(σ:St)(H:Hp)(Q:Bool->Hp->Prop),Inv X pins σ H s->t σ H Q->wpAny (model X.prog X.w) X.A (isTrue e X.env whole) (TP X pins σ Q) X.xe s
theorem PW.pt   (h:PW X e t):PT X e t:=h _
noncomputable def PA(X:Cx)(es:List Expr)(t:TA):Prop:=∀(pos:Pos)(pins:List (Addr×Obj))(s:ai)(σ:St)(H:Hp)(Q:List V->Hp->Prop),Inv X pins σ H s->t σ H Q->wpAny (model X.prog X.w) X.A (spliced (cy pos (aH es X.env))) (AP X pins σ Q) X.xe s
noncomputable def PS(X:Cx)(st:Stmt)(t:TS):Prop:=∀(pins:List (Addr×Obj))(s:ai)(σ:St)(H:Hp)(D:Ends),Inv X pins σ H s->t D σ H->wpAny (model X.prog X.w) X.A (exec st X.env) (SP X pins D) X.xe s
noncomputable def oJ(X:Cx)(st:List Stmt)(t:TS):Prop:=∀(pins:List (Addr×Obj))(s:ai)(σ:St)(H:Hp)(D:Ends),Inv X pins σ H s->t D σ H->wpAny (model X.prog X.w) X.A (execs st X.env) (SP X pins D) X.xe s
theorem hU{α:Type}{t:Sem α}{Q b:α->ai->Prop}{M:Model}{A:bh}{E:Value->ai->Prop}{s:ai}(h:wpAny M A t Q E s)(c:∀a s,Q a s->b a s):wpAny M A t b E s:=cj h c λ_ _ x=>x
open PySem PySem.Spec PyProof.Rows
section
variable {X:Cx}
theorem bin{a b:Expr}{i g:TE}(q:PE X a i)(p:PE X b g){pins:List (Addr×Obj)}{s:ai}{σ:St}{H:Hp}{R:V->V->Hp->Prop}(I:Inv X pins σ H s)(h:i σ H λx H1=>g σ H1 λy c=>R x y c){α:Type}{Q:α->ai->Prop}{f:Value->Value->Sem α}(hf:∀v u s2 x y c,Inv X pins σ c s2->RelV x v->RelV y u->R x y c->wpAny (model X.prog X.w) X.A (f v u) Q X.xe s2):wpAny (model X.prog X.w) X.A (eval a X.env) (λv e=>wpAny (model X.prog X.w) X.A (eval b X.env) (λu d=>wpAny (model X.prog X.w) X.A (f v u) Q X.xe d) X.xe e) X.xe s:=by refine hU (q pins s σ H _ I h) λv s1 hZ=>?_;obtain⟨x,H1,z,l,o⟩:=hZ;refine hU (p pins s1 σ H1 _ z o) λu s2 hZ=>?_;obtain⟨y,c,r,j,n⟩:=hZ;exact hf v u s2 x y c r l j n
noncomputable def lC(i:Nat):TE:=λσ H Q=>∃v,σ[i]?=some (some v)/\Q v H
noncomputable def tC(v:V):TE:=λ_ H Q=>Q v H
theorem Q0{i:Nat}{x:Str}(n:X.N[i]?=some x)(f:vI X.env.scope x)(hd:(x==("__debug__":Str))=false:=by decide)(b:(x==("__classdict__":Str))=false:=by decide):PE X (.Name x pos) (lC i):=by
 intro pins s σ H Q I h;obtain⟨v,e,h⟩:=h;obtain⟨m,g,j⟩:=I.loc;obtain⟨u,r,l⟩:=j i x v n e f;have fin:EP X pins σ Q u s:=⟨v,H,I,r,h⟩;rcases l with⟨hk,hm⟩|⟨hk,c,d,a⟩
 .exact wpAny_Name (wpAny_loadName_local I.ok.kind hk g hm fin) hd
 .rcases hk with hk|hk
  .exact wpAny_Name (wpAny_loadName_cell I.ok.kind hk d a fin) hd
  .exact wpAny_Name (wpAny_loadName_free I.ok.kind hk d a fin b) hd
theorem Zb{i j pos}:PE X (.Constant (.int i) j pos) (tC (.int i)):=λ_ _ _ H _ I h=>wpAny_Constant_int ⟨.int i,H,I.tok _,⟨_,rfl⟩,h⟩
theorem YU{b j pos}:PE X (.Constant (.bool b) j pos) (tC (.bl b)):=λ_ _ _ H _ I h=>Constant_bool ⟨.bl b,H,I,rfl,h⟩
theorem ZJ{j pos}:PE X (.Constant .none j pos) (tC .non):=λ_ _ _ H _ I h=>Constant_none ⟨.non,H,I,rfl,h⟩
theorem ZC{x j pos}:PE X (.Constant (.str x) j pos) (tC (.str x)):=λ_ _ _ H _ I h=>Calls.Constant_str ⟨.str x,H,I.tok _,⟨_,rfl⟩,h⟩
noncomputable def Gl(X:Cx)(x:Str):Prop:=X.env.kindOf x=some .globalImplicit
theorem JJ      {u:Value}{Q:Value->ai->Prop}(I:Inv X pins σ H s)(a:Gl X x)(hm:X.mg x=some u)(h:Q u s)(hd:(x==("__debug__":Str))=false:=by decide):wpAny (model X.prog X.w) X.A (eval (.Name x pos) X.env) Q E s:=Calls.Name_function_global I.ok.kind a (Calls.loadGlobal_global (by rw[I.ok.glob];exact I.mod.glob.keeps I.bk) hm h) hd
theorem JK      {u:Value}{Q:Value->ai->Prop}(I:Inv X pins σ H s)(c:Gl X x)(hm:X.mg x=none)(a:bJ x=some u)(h:Q u s)(b:x≠"__name__":=by decide)(hd:(x==("__debug__":Str))=false:=by decide):wpAny (model X.prog X.w) X.A (eval (.Name x pos) X.env) Q E s:=by obtain⟨f,e,d⟩:=I.mod.blt;exact Calls.Name_function_global I.ok.kind c (Calls.loadGlobal_builtin (by rw[I.ok.glob];exact I.mod.glob.keeps I.bk) hm (by rw[I.ok.blt];exact e.keeps I.bk) ((d x b).trans a) h) hd
theorem Ye  {u:Value}(a:Gl X x)(hm:X.mg x=some u)(r:RelV v u)(hd:(x==("__debug__":Str))=false:=by decide):PE X (.Name x pos) (tC v):=λ_ _ _ H _ I h=>JJ I a hm ⟨v,H,I,r,h⟩ hd
theorem V4  {u:Value}(c:Gl X x)(hm:X.mg x=none)(a:bJ x=some u)(r:RelV v u)(b:x≠"__name__":=by decide)(hd:(x==("__debug__":Str))=false:=by decide):PE X (.Name x pos) (tC v):=λ_ _ _ H _ I h=>JK I c hm a ⟨v,H,I,r,h⟩ b hd
variable {a b:Expr}{ta tb:TE}{pos:Pos}
noncomputable def PC(X:Cx)(op:CmpOp)(a b:Expr)(t:TE):Prop:=∀(pins:List (Addr×Obj))(s:ai)(σ:St)(H:Hp)(Q:VK),Inv X pins σ H s->t σ H Q ->wpAny (model X.prog X.w) X.A (eval a X.env) (λv xi=>wpAny (model X.prog X.w) X.A (eval b X.env) (λu xh=>wpAny (model X.prog X.w) X.A (bE op v u) (EP X pins σ Q) X.xe xh) X.xe xi) X.xe s
theorem PX(b:Expr){op:CmpOp}(h:op≠.In)(c:op≠.NotIn):dZ op b=false:=by
 have e:(op==CmpOp.In)=false:=by cases op<;>first|rfl|exact absurd rfl h
 have d:(op==CmpOp.NotIn)=false:=by cases op<;>first|rfl|exact absurd rfl c
 cases b<;>simp[dZ,e,d]
noncomputable def tB(t:TE):TT:=λσ H Q=>t σ H λx H1=>∃c,x=.bl c/\Q c H1
theorem Fi  (h:PC X op a b t)(c:dZ op b=false:=by first|exact PX _ (by decide) (by decide)|rfl):PE X (.Compare a [op] [b] pos) t:=λpins s σ H Q I hw=>wpAny_Compare1 (h pins s σ H Q I hw) c
theorem E9{op:CmpOp}{t:TE}(h:PC X op a b t)(e:dZ op b=false:=by first|exact PX _ (by decide) (by decide)|rfl):PT X (.Compare a [op] [b] pos) (tB t):=by intro pins s σ H Q I hw;refine wpAny_isTrue_Compare1 (hU (h pins s σ H _ I hw) λv s1 e=>hU e λu s2 i=>hU i λc s3 hZ=>?_) e;obtain⟨x,H1,j,f,g⟩:=hZ;obtain⟨d,rfl,q⟩:=g;cases f;exact bo ⟨H1,j,q⟩
theorem ZH{e:Expr}{t:TE}(h:PE X e t)(he:∀whole,isTrue e X.env whole=(do let v <-whole;iS e.pos;fT [v] (truthy v)):=by intro _;rfl):PT X e (tB t):=by
 intro pins s σ H Q I hw
 refine isTrue_plain (hU (h pins s σ H _ I hw) λv s1 hZ=>?_) (he _);obtain⟨x,H1,g,c,f⟩:=hZ
 obtain⟨d,rfl,q⟩:=f
 cases c
 exact bo ⟨H1,g,q⟩
variable {tA vS:TT}{rest:List Expr}
noncomputable def xg(t u:TT):TT:=λσ H Q=>t σ H λc H1=>if c=true then u σ H1 Q else Q false H1
noncomputable def AB(t u:TT):TT:=λσ H Q=>t σ H λc H1=>if c=true then Q true H1 else u σ H1 Q
noncomputable def wX(t:TT):TT:=λσ H Q=>t σ H λc H1=>Q (!c) H1
theorem VZ(d:PT X a tA):PW X (.BoolOp .And [a] pos) tA:=by
 intro f pins s σ H Q I h;refine isTrue_and (hU (d pins s σ H Q I h) λc s1 e=>?_);cases c with
|true=>exact isTrue_and_nil e
|false=>exact e
theorem YJ(d:PT X a tA):PW X (.BoolOp .Or [a] pos) tA:=by
 intro f pins s σ H Q I h;refine isTrue_or (hU (d pins s σ H Q I h) λc s1 e=>?_);cases c with
|false=>exact isTrue_or_nil e
|true=>exact e
theorem UE(i:PT X a tA)(g:PW X (.BoolOp .And (b::rest) pos) vS):PW X (.BoolOp .And (a::b::rest) pos) (xg tA vS):=by
 intro f pins s σ H Q I h;refine isTrue_and (hU (i pins s σ H _ I h) λc s1⟨H1,e,d⟩=>?_);cases c with
|true=>exact g f pins s1 σ H1 Q e d
|false=>exact⟨H1,e,d⟩
theorem YK(i:PT X a tA)(g:PW X (.BoolOp .Or (b::rest) pos) vS):PW X (.BoolOp .Or (a::b::rest) pos) (AB tA vS):=by
 intro f pins s σ H Q I h;refine isTrue_or (hU (i pins s σ H _ I h) λc s1⟨H1,e,d⟩=>?_);cases c with
|true=>exact⟨H1,e,d⟩
|false=>exact g f pins s1 σ H1 Q e d
theorem ZK(d:PT X a tA):PT X (.UnaryOp .Not a pos) (wX tA):=by intro pins s σ H Q I h;exact isTrue_not (d pins s σ H (λc H1=>Q (!c) H1) I h)
noncomputable def HU(ta tb:TE):TE:=λσ H Q=>ta σ H λx H1=>∃c,x=.bl c/\if c=true then tb σ H1 Q else Q (.bl false) H1
noncomputable def wW(ta tb:TE):TE:=λσ H Q=>ta σ H λx H1=>∃c,x=.bl c/\if c=true then Q (.bl true) H1 else tb σ H1 Q
noncomputable def HL(ta:TE):TE:=λσ H Q=>ta σ H λx H1=>∃c,x=.bl c/\Q (.bl (!c)) H1
theorem YN{op}(h:PE X a t):PE X (.BoolOp op [a] pos) t:=λpins s σ H Q I hw=>BoolOp_one (h pins s σ H Q I hw)
theorem Xa(i:PE X a ta)(g:PE X (.BoolOp .And (b::rest) pos) tb):PE X (.BoolOp .And (a::b::rest) pos) (HU ta tb):=by
 intro pins s σ H Q I h;refine BoolOp_and (hU (i pins s σ H _ I h) λv s1 hZ=>?_);obtain⟨x,H1,e,f,d⟩:=hZ;obtain⟨c,rfl,d⟩:=d;cases f;refine bo ?_;cases c with
|true=>exact g pins s1 σ H1 Q e d
|false=>exact⟨.bl false,H1,e,rfl,d⟩
theorem Ag(i:PE X a ta)(g:PE X (.BoolOp .Or (b::rest) pos) tb):PE X (.BoolOp .Or (a::b::rest) pos) (wW ta tb):=by
 intro pins s σ H Q I h;refine BoolOp_or (hU (i pins s σ H _ I h) λv s1 hZ=>?_);obtain⟨x,H1,e,f,d⟩:=hZ;obtain⟨c,rfl,d⟩:=d;cases f;refine bo ?_;cases c with
|false=>exact g pins s1 σ H1 Q e d
|true=>exact⟨.bl true,H1,e,rfl,d⟩
theorem Q1(f:PE X a ta):PE X (.UnaryOp .Not a pos) (HL ta):=by intro pins s σ H Q I h;refine UnaryOp_ (hU (f pins s σ H _ I h) λv s1 hZ=>?_);obtain⟨x,H1,g,e,d⟩:=hZ;obtain⟨c,rfl,d⟩:=d;cases e;exact not_of (bo ⟨.bl (!c),H1,g,rfl,d⟩)
noncomputable def AD(t:TT)(ta tb:TE):TE:=λσ H Q=>t σ H λc H1=>if c=true then ta σ H1 Q else tb σ H1 Q
theorem V3{c:Expr}(g:PT X c tA)(j:PE X a ta)(i:PE X b tb):PE X (.IfExp c a b pos) (AD tA ta tb):=by
 intro pins s σ H Q I h;refine wpAny_IfExp (hU (g pins s σ H _ I h) λd s1⟨H1,f,e⟩=>?_);cases d with
|true=>exact j pins s1 σ H1 Q f e
|false=>exact i pins s1 σ H1 Q f e
end
open PySem PySem.Spec PyProof.Rows
noncomputable def gp(K:ae)(H:Hp)(a:Addr)(xs:List V):Prop:=Rd H a (.lst xs) \/∃(o:Obj)(pk:Array Value)(n:Nat),K.lookup a=some o/\o.cls=.type "list"/\o.dict=none/\o.data=.seq pk n/\pk.size<=sizeLine/\Vals xs pk.toList
noncomputable def hO(K:ae)(H:Hp)(a:Addr)(xs:List V):Prop:=Rd H a (.tup xs) \/∃(o:Obj)(pk:Array Value)(n:Nat),K.lookup a=some o/\o.cls=.type "tuple"/\o.data=.seq pk n/\pk.size<=sizeLine/\Vals xs pk.toList
noncomputable def ze:Value->Option V
|.none=>some .non
|.bool b=>some (.bl b)
|.int i _=>some (.int i)
|.str x _=>some (.str x)
|.bytes b _=>some (.qe b)
|.float b _=>some (.uE b)
|.ref a=>some (.ref a)
|.type n=>some (.ty n)
|_=>none
theorem RelV.abs  (r:RelV x u):ze u=some x:=by
 cases x with
|non=>cases r;rfl
|bl _=>cases r;rfl
|int _=>obtain⟨t,rfl⟩:=r;rfl
|str _=>obtain⟨t,rfl⟩:=r;rfl
|qe _=>obtain⟨t,rfl⟩:=r;rfl
|uE _=>obtain⟨t,rfl⟩:=r;rfl
|ref _=>cases r;rfl
|ty _=>cases r;rfl
theorem RelV.inj{x y:V}{u:Value}(r:RelV x u)(q:RelV y u):x=y:=ax (r.abs.symm.trans q.abs)
theorem Vals.inj{xs a:List V}{us:List Value}(h:Vals xs us)(g:Vals a us):xs=a:=by
 induction h generalizing a with
|nil=>cases g;rfl
|cons r _ c=>
  cases g with
 |cons b t'=>rw[r.inj b,c t']
section
variable {X:Cx}{pins:List (Addr×Obj)}{σ:St}{H:Hp}{s:ai}{a:Addr}{xs ys:List V}
theorem gp.of{K:ae}(h:H a=some (.lst xs)):gp K H a xs:=.inl (.inl h)
theorem hO.of{K:ae}(h:H a=some (.tup xs)):hO K H a xs:=.inl (.inl h)
theorem Inv.list(I:Inv X pins σ H s)(h:gp X.K H a xs):∃b:List Value,Vals xs b/\PlainL s.heap a b.toArray/\xs.length<=sizeLine:=by
 rcases h with h|⟨o,b,n,hk,d,hd,c,hz,r⟩
 .obtain⟨z,b,n,r,e⟩:=h.ok I.hL;exact⟨b,r,⟨_,n,e,rfl,rfl,rfl⟩,z⟩
 .refine⟨b.toList,r,⟨o,n,I.kT a o hk,d,hd,by simpa using c⟩,?_⟩;have e:=r.length;simp only[bX]at e;omega
theorem Inv.tuple(I:Inv X pins σ H s)(h:hO X.K H a xs):∃b:List Value,Vals xs b/\IsTup s.heap a b.toArray/\xs.length<=sizeLine:=by
 rcases h with h|⟨o,b,n,hk,d,c,hz,r⟩
 .obtain⟨z,b,r,p⟩:=h.ok I.hL;exact⟨b,r,p,z⟩
 .refine⟨b.toList,r,⟨o,I.kT a o hk,d,n,by simpa using c⟩,?_⟩;have e:=r.length;simp only[bX]at e;omega
theorem Inv.rW(I:Inv X pins σ H s)(h:gp X.K H a xs)(h':gp X.K H a ys):xs=ys:=by
 obtain⟨b,r,⟨o,n,e,_,_,d⟩,_⟩:=I.list h;obtain⟨its',f,⟨i,j,c,_,_,d'⟩,_⟩:=I.list h';rw[e]at c;cases c;rw[d]at d';injection d' with g _;have:b=its':=by simpa using congrArg Array.toList g
 subst this;exact r.inj f
end
noncomputable abbrev Cx.oP(X:Cx)(E:Value->ai->Prop):Cx:={X with xe:=E}
noncomputable abbrev Cx.tU(X:Cx):Cx:=X.oP λ_ _=>False
theorem Cx.Ok.oP{X:Cx}(ok:X.Ok)(E:Value->ai->Prop):(X.oP E).Ok:=⟨ok.mod,ok.kind,ok.glob,ok.blt,ok.above,ok.inj,ok.has,ok.uG,ok.hd,ok.frames,ok.uY,ok.u9,ok.bs,ok.r9,ok.qq,ok.qx,ok.mF,ok.sI⟩
theorem Cx.Ok.md{X:Cx}(ok:(X.oP E).Ok):X.Ok:=⟨ok.mod,ok.kind,ok.glob,ok.blt,ok.above,ok.inj,ok.has,ok.uG,ok.hd,ok.frames,ok.uY,ok.u9,ok.bs,ok.r9,ok.qq,ok.qx,ok.mF,ok.sI⟩
section
variable {X:Cx}{pins:List (Addr×Obj)}{σ:St}{H:Hp}{s:ai}{E:Value->ai->Prop}
theorem Inv.oP(I:Inv X pins σ H s)(E:Value->ai->Prop):Inv (X.oP E) pins σ H s:=⟨I.ok.oP E,I.os,I.bare,I.base,I.loc,I.cell,I.free,I.ki,I.pin,I.hL,I.len⟩
theorem Inv.md(I:Inv (X.oP E) pins σ H s):Inv X pins σ H s:=⟨I.ok.md,I.os,I.bare,I.base,I.loc,I.cell,I.free,I.ki,I.pin,I.hL,I.len⟩
theorem SP.md   (h:SP (X.oP E) pins D f s'):SP X pins D f s':=by
 cases f with
|next=>obtain⟨a,H',I,q⟩:=h;exact⟨a,H',I.md,q⟩
|brk=>obtain⟨a,H',I,q⟩:=h;exact⟨a,H',I.md,q⟩
|cont=>obtain⟨a,H',I,q⟩:=h;exact⟨a,H',I.md,q⟩
|ret u=>obtain⟨v,a,H',I,r,q⟩:=h;exact⟨v,a,H',I.md,r,q⟩
theorem oJ.tU{st:List Stmt}{t:TS}(h:oJ X.tU st t):oJ X st t:=λpins s σ H D I hw=>cj (h pins s σ H D (I.oP _) hw) (λ_ _ q=>q.md) λ_ _ z=>False.elim z
end
section
variable {X:Cx}{st:Stmt}{rest:List Stmt}{t u:TS}{e:Expr}{te:TE}{pos:Pos}
noncomputable def El:TS:=λD σ H=>D.nx σ H
noncomputable def qY(t u:TS):TS:=λD σ H=>t {D with nx:=u D} σ H
theorem Zn:oJ X [] El:=λ_ _ σ H _ I h=>f7 ⟨σ,H,I,h⟩
theorem Za(c:PS X st t)(b:oJ X rest u):oJ X (st::rest) (qY t u):=by
 intro pins s σ H D I h;refine wpAny_execs_cons (hU (c pins s σ H {D with nx:=u D} I h) λf s1 q=>?_);cases f with
|next=>obtain⟨a,H',d,q⟩:=q;exact b pins s1 a H' D d q
|ret v=>exact q
|brk=>exact q
|cont=>exact q
theorem Zc(a:PS X st t):oJ X [st] t:=by
 intro pins s σ H D I h;refine wpAny_execs_cons (hU (a pins s σ H D I h) λf s1 q=>?_);cases f with
|next=>exact f7 q
|ret v=>exact q
|brk=>exact q
|cont=>exact q
theorem Inv.quiet{pins:List (Addr×Obj)}{σ:St}{H:Hp}{s:ai}(I:Inv X pins σ H s):interactive X.env=false:=by simp[interactive,I.ok.kind]
noncomputable def HQ(te:TE):TS:=λD σ H=>te σ H λ_ H1=>D.nx σ H1
theorem Z9(he:PE X e te)(b:gw e none pos.line X.env=pure false:=by rfl):PS X (.Expr e pos) (HQ te):=by intro pins s σ H D I h;exact wpAny_Expr_any (hU (he pins s σ H _ I h) λv s1⟨x,H1,c,d,a⟩=>⟨σ,H1,c,a⟩) I.quiet b
noncomputable def wU(te:TE):TS:=λD σ H=>te σ H D.rt
theorem Zk(he:PE X e te):PS X (.Return (some e) pos) (wU te):=by intro pins s σ H D I h;exact wpAny_Return_some (hU (he pins s σ H _ I h) λv s1⟨x,H1,c,a,b⟩=>⟨x,σ,H1,c,a,b⟩)
noncomputable def w5(c:TT)(t u:TS):TS:=λD σ H=>c σ H λb H1=>if b=true then t D σ H1 else u D σ H1
theorem ZA{c:Expr}{a b:List Stmt}{tc:TT}(i:PT X c tc)(l:oJ X a t)(j:oJ X b u):PS X (.If c a b pos) (w5 tc t u):=by
 intro pins s σ H D I h;refine wpAny_If (hU (i pins s σ H _ I h) λd s1⟨H1,g,f⟩=>?_);cases d with
|true=>exact l pins s1 σ H1 D g f
|false=>exact j pins s1 σ H1 D g f
noncomputable def EV:TS:=λ_ _ _=>False
theorem Xu:PS X st EV:=λ_ _ _ _ _ _ h=>h.elim
end
noncomputable abbrev TG:=V->St->Hp->(St->Hp->Prop)->Prop
noncomputable abbrev tZ:=List V->St->Hp->(St->Hp->Prop)->Prop
noncomputable def PG(X:Cx)(target:Expr)(t:TG):Prop:=∀(pins:List (Addr×Obj))(s:ai)(σ:St)(H:Hp)(v:V)(u:Value)(Q:St->Hp->Prop),Inv X pins σ H s->RelV v u->t v σ H Q ->wpAny (model X.prog X.w) X.A (assign target X.env u) (λ_ s'=>∃mK H',Inv X pins mK H' s'/\Q mK H') X.xe s
noncomputable def vb(X:Cx)(ts:List Expr)(t:tZ):Prop:=∀(pins:List (Addr×Obj))(s:ai)(σ:St)(H:Hp)(vs:List V)(us:List Value)(Q:St->Hp->Prop),Inv X pins σ H s->Vals vs us->t vs σ H Q ->wpAny (model X.prog X.w) X.A (assignInOrder ((de ts X.env).map (·.2)) us) (λ_ s'=>∃mK H',Inv X pins mK H' s'/\Q mK H') X.xe s
noncomputable abbrev uM:=V->V->V->Hp->(Hp->Prop)->Prop
noncomputable def vN(X:Cx)(t:uM):Prop:=∀(pins:List (Addr×Obj))(s:ai)(σ:St)(H:Hp)(o i v:V)(ov iv u:Value)(Q:Hp->Prop),Inv X pins σ H s->RelV o ov->RelV i iv->RelV v u->t o i v H Q ->wpAny (model X.prog X.w) X.A (setItem ov iv u) (λ_ s'=>∃H',Inv X pins σ H' s'/\Q H') X.xe s
section
variable {X:Cx}{pos:Pos}
noncomputable def Zp(i:Nat):TG:=λv σ H Q=>Q (σ.set i (some v)) H
theorem So{i:Nat}{x:Str}(c:X.N.Nodup)(b:X.N[i]?=some x)(a:Loc X.env.scope x)(hf:X.fn x=true\/X.env.scope.names.lookup x=some .local:=by first|exact .inl rfl|exact .inr rfl|assumption):PG X (.Name x pos) (Zp i):=by intro pins s σ H v u Q I r h;exact wpAny_assign_Name (GI I c b a r (λs' d=>⟨_,H,d,h⟩) hf)
noncomputable def vF:tZ:=λvs σ H Q=>vs=[]/\Q σ H
noncomputable def Lm(t:TG)(u:tZ):tZ:=λvs σ H Q=>∃v r,vs=v::r/\t v σ H λmK H'=>u r mK H' Q
theorem Ym:vb X [] vF:=by intro pins s σ H vs us Q I r h;obtain⟨e,h⟩:=h;subst e;cases r;exact assignInOrder_nil ⟨σ,H,I,h⟩
theorem Zq{e:Expr}{a:List Expr}{t:TG}{u:tZ}(i:PG X e t)(g:vb X a u)(f:(de (e::a) X.env).map (·.2)=assign e X.env::(de a X.env).map (·.2):=by rfl):vb X (e::a) (Lm t u):=by
 intro pins s σ H vs us Q I r h;obtain⟨v,n,j,h⟩:=h;subst j;cases r with
|cons r c=>rw[f];refine assignInOrder_cons (hU (i pins s σ H _ _ _ I r h) λ_ s1 hZ=>?_);obtain⟨b,H1,l,d⟩:=hZ;exact g pins s1 b H1 _ _ Q l c d
noncomputable def uD(K:ae)(n:Nat)(t:tZ):TG:=λv σ H Q=>∃a xs,v=.ref a/\hO K H a xs/\xs.length=n/\t xs σ H Q
theorem YM {k:Nat}{n:Nat}(q:X.calm=true)(h:vb X c t)(l:(de c X.env).length=n:=by rfl)(d:(de c X.env).findIdx? (·.1)=none:=by rfl):PG X (.Tuple c k pos) (uD X.K n t):=by intro pins s σ H v u Q I r hw;obtain⟨a,xs,w,j,p,hw⟩:=hw;subst w;cases r;obtain⟨y,f,i,hz⟩:=I.tuple j;refine assign_Tuple_tuple (I.ok.hd q) i (by simp[l,<-p,f.length]) d λh' g=>?_;have x:Inv X pins σ H {s with heap:=h'}:=I.kept (t':=s.toks) λb o e=>g b o (Nat.ne_of_lt (Heap.lt_size e)) e;exact h pins _ σ H xs _ Q x (by simpa using f) hw
noncomputable def yK(to ti:TE)(t:uM):TG:=λv σ H Q=>to σ H λo H1=>ti σ H1 λi H2=>t o i v H2 λH3=>Q σ H3
theorem QZ{o i:Expr}{to c:TE}{t:uM}(n:PE X o to)(p:PE X i c)(l:vN X t)
  (q:∀v,assign (.Subscript o i pos) X.env v=(do
   let a <-fT [v] (eval o X.env)
   let b <-fT [v,a] (eval i X.env)
   iS pos
   fT [v,a,b] (setItem a b v)
   release [v,a,b] []):=by intro _;rfl):PG X (.Subscript o i pos) (yK to c t):=by
 intro pins s σ H v u Q I r h
 rw[q]
 refine aa (aU (hU (n pins s σ H _ I h) λa s1 hZ=>?_));obtain⟨x,H1,A,e,j⟩:=hZ
 refine aa (aU (hU (p pins s1 σ H1 _ A j) λb s2 hZ=>?_));obtain⟨y,C,z,d,g⟩:=hZ
 refine aa (fV (aa (aU (hU (l pins s2 σ C x y v a b u _ z e d r g) λ_ s3⟨B,w,f⟩=>?_))))
 exact wpAny_release ⟨σ,B,w,f⟩
noncomputable def sQ(te:TE)(g:TG):TS:=λD σ H=>te σ H λx H1=>g x σ H1 D.nx
theorem UG{a e:Expr}{te:TE}{g:TG}(he:PE X e te)(f:PG X a g)(d:swapsWithSole [a] e pos.line X.env=pure false:=by rfl)(hw:swappedStores [a] e X.env=pure none:=by rfl)(i:(de [a] X.env).map (·.2)=[assign a X.env]:=by rfl):PS X (.Assign [a] e pos) (sQ te g):=by intro pins s σ H D I h;refine wpAny_Assign_stores (hU (he pins s σ H _ I h) λv s1 hZ=>?_) d hw;obtain⟨x,H1,j,b,c⟩:=hZ;rw[i];exact hU (f pins s1 σ H1 x v _ j b c) λ_ s2 q=>q
theorem YL{i:Nat}{x:Str}{e:Expr}{te:TE}{pos':Pos}(g:X.N.Nodup)(f:X.N[i]?=some x)(c:Loc X.env.scope x)(he:PE X e te)(d:gw e (some (.Name x pos')) pos.line X.env=pure false:=by rfl)(hf:X.fn x=true\/X.env.scope.names.lookup x=some .local:=by first|exact .inl rfl|exact .inr rfl|assumption):PS X (.Assign [.Name x pos'] e pos) (sQ te (Zp i)):=by intro pins s σ H D I h;refine wpAny_Assign_Name (hU (he pins s σ H _ I h) λv s1 hZ=>?_) d;obtain⟨y,H1,l,a,b⟩:=hZ;exact GI l g f c a (λs2 j=>⟨_,H1,j,b⟩) hf
noncomputable def WM(c:TT)(tb:TS):TS:=λD σ H=>∃W:Nat->St->Hp->Prop,(∃m,W m σ H)/\∀m σ H,W m σ H ->c σ H λb H1=>if b=true then ∃N:St->Hp->Prop,(∀mK H',N mK H'->∃m',m'<m/\W m' mK H')/\tb {D with nx:=N,ct:=N,bk:=D.nx} σ H1 else D.nx σ H1
theorem Kr{c:Expr}{body:List Stmt}{tc:TT}{r:TS}(u:PassesOwn (model X.prog X.w) X.A X.env X.xe)(E:PT X c tc)(F:oJ X body r):PS X (.While c body [] pos) (WM tc r):=by
 intro pins s σ H D I h;obtain⟨W,⟨m0,C⟩,turn⟩:=h;refine wpAny_While (codeAny_whileLoop (λn s'=>∃g H',Inv X pins g H' s'/\W n g H') ?_ m0 ⟨σ,H,I,C⟩);rintro n s1 ⟨d,H1,G,B⟩;refine dX u (hU (E pins s1 d H1 _ G (turn n d H1 B)) λb s2⟨z,y,j⟩=>?_);cases b with
|true=>
  obtain⟨N,x,j⟩:=j;rw[if_pos rfl];refine dX u (hU (F pins s2 d z _ y j) λf s3 i=>?_);cases f with
 |next=>obtain⟨a,e,q,o⟩:=i;obtain⟨p,hm,l⟩:=x a e o;exact⟨p,hm,a,e,q,l⟩
 |cont=>obtain⟨a,e,q,o⟩:=i;obtain⟨p,hm,l⟩:=x a e o;exact⟨p,hm,a,e,q,l⟩
 |brk=>exact i
 |ret v=>exact i
|false=>rw[if_neg Bool.false_ne_true];exact f7 ⟨d,z,y,j⟩
end
structure It where
 go:Nat->Hp->Prop
 rE:Nat->Hp->V->Hp->Prop
 stop:Nat->Hp->Prop
noncomputable def p'(X:Cx)(pins:List (Addr×Obj))(H:Hp)(b:Addr):Prop:=H b=none/\b≠X.env.locals/\b∉X.fs/\(b∈X.ex\/X.jW.heap.objs.size<=b)/\(∀x c,X.env.cells.lookup x=some c->c≠b)/\∀p∈X.pn++pins,p.1≠b
theorem Inv.nJ   {H H':Hp}{b:Addr}(I:Inv X pins σ H s)(a:s.heap.objs.size<=b)(f:H' b=none):p' X pins H' b:=by
 refine⟨f,Nat.ne_of_gt (Nat.lt_of_lt_of_le I.lt a),I.uj a,.inr (Nat.le_trans I.sz a),λx c e z=>?_,λp d z=>?_⟩
 .obtain⟨v,q⟩:=I.cell x c e;exact absurd (Nat.lt_of_lt_of_le q.lt (by rw[z];exact a)) (Nat.lt_irrefl _)
 .exact absurd (Nat.lt_of_lt_of_le (Heap.lt_size (I.pin p d).1) (by rw[z];exact a)) (Nat.lt_irrefl _)
structure Turn(P:Program)(w:World)(K:ae)(tg:Expr)(J:It)(fp:List Addr)(it:Addr)(tn:Nat->Heap->Prop):Prop where
 mem:it∈fp
 obj:∀i h,tn i h->∀b∈fp,∃o,h.get? b=some o/\∀v,o.data≠.cell v
 keep:∀i h h',tn i h->(∀b∈fp,∀o,h.get? b=some o->h'.get? b=some o)->tn i h'
 item:∀(X:Cx),X.prog=P->X.w=w->X.K=K->X.calm=true->∀(i:Nat)(pins:List (Addr×Obj))(s:ai)(σ:St)(H:Hp)(E:Value->ai->Prop),Inv X pins σ H s->(∀b∈fp,p' X pins H b)->tn i s.heap->J.go i H ->
  wpAny (model P w) X.A (pyNext (.ref it)) (λr s1=>∃u,r=some u /\
   wpAny (model P w) X.A (iu tg (.ref it) u) (λ_ s2=>∃x H',Inv X pins σ H' s2/\RelV x u/\J.rE i H x H'/\tn (i+1) s2.heap/\∀b∈fp,H' b=none) E s1) E s
 done:∀(X:Cx),X.prog=P->X.w=w->X.K=K->X.calm=true->∀(i:Nat)(pins:List (Addr×Obj))(s:ai)(σ:St)(H:Hp)(E:Value->ai->Prop),Inv X pins σ H s->(∀b∈fp,p' X pins H b)->tn i s.heap->J.stop i H ->
  wpAny (model P w) X.A (pyNext (.ref it)) (λr s1=>r=none/\Inv X pins σ H s1) E s
 self:∀(A:bh)(i:Nat)(s:ai)(Q:Value->ai->Prop)(E:Value->ai->Prop),tn i s.heap->Q (.ref it) s->wpAny (model P w) A (pyIter (.ref it)) Q E s
noncomputable abbrev TI:=St->Hp->(It->Hp->Prop)->Prop
noncomputable def zV(X:Cx)(pins:List (Addr×Obj))(σ:St)(tg:Expr)(R:It->Hp->Prop)(AW:Value)(s2:ai):Prop:=∃(it:Addr)(fp:List Addr)(tn:Nat->Heap->Prop)(J:It)(H':Hp),AW=.ref it/\Inv X pins σ H' s2/\Turn X.prog X.w X.K tg J fp it tn/\tn 0 s2.heap/\(∀b∈fp,p' X pins H' b)/\R J H'
noncomputable def PI(X:Cx)(tg iter:Expr)(wi:TI):Prop:=∀(pins:List (Addr×Obj))(s:ai)(σ:St)(H:Hp)(R:It->Hp->Prop),Inv X pins σ H s->wi σ H R ->wpAny (model X.prog X.w) X.A (eval iter X.env) (λv s1=>wpAny (model X.prog X.w) X.A (pyIter v) (zV X pins σ tg R) X.xe s1) X.xe s
theorem Qf   {s:ai}  {o:Obj} {Q:Unit->ai->Prop}(c:s.heap.get? it=some o)(e:o.cls=.type n)(hd:o.data=.fields vs)(d:["enumerate","zip","dict_itemiterator","dict_reverseitemiterator","odict_iterator","itertools.zip_longest","itertools.pairwise"].contains n=false)(a:Q () s):wpAny M A (iu b (.ref it) u) Q E s:=by
 unfold iu;cases b<;>first
 |exact ah a
 |(cases u<;>first
   |exact ah a
   |(refine aa (wpAny_load c ?_);rw[e,hd];show wpAny M A (if(["enumerate","zip","dict_itemiterator","dict_reverseitemiterator","odict_iterator","itertools.zip_longest","itertools.pairwise"].contains n&&vs[0]?==some (c_ _))=true then _ else _) Q E s;rw[if_neg (by intro h;rw[d,Bool.false_and]at h;cases h)];exact ah a))
noncomputable def oi(K:ae)(a:Addr):It:=⟨λi H=>∃xs x,gp K H a xs/\xs[i]?=some x,λi H x H'=>H'=H/\∀xs,gp K H a xs->xs[i]?=some x,λi H=>∃xs,gp K H a xs/\xs.length<=i⟩
noncomputable def qS(lo:Int)(n:Nat):It:=⟨λi _=>i<n,λi H x H'=>H'=H/\x=.int (lo+i),λi _=>n<=i⟩
theorem Td{P:Program}{w:World}{K:ae}{F:Expr}(a it:Addr):Turn P w K F (oi K a) [it] it (λi h=>h.IsListIter it a i) where
 mem:=by simp
 obj:=λi h st b f=>by
  have e:b=it:=by simpa using f
  subst e
  obtain⟨o,e,c,d⟩:=st
  exact⟨o,e,λv z=>by rw[d]at z;cases z⟩
 keep:=λi h h' st k=>st.at λo e=>k it (by simp) o e
 item:=by
  intro X r hw y D i pins s σ H E I hf st q
  subst r hw y
  obtain⟨xs,x,j,n⟩:=q
  obtain⟨C,l,p,hz⟩:=I.list j
  obtain⟨u,M,J⟩:=l.get n
  obtain⟨f0,f1,f2,B,f4,A⟩:=hf it (by simp)
  refine wpAny_pyNext_list_item st p.isList (x:=u) (by simpa using M) λh' g G=>?_
  have O:Inv X pins σ H {s with heap:=h'}:=I.turned (t':=s.toks) (λb o f e=>(G.2 b f).trans e) f0 f1 B f4 A
  obtain⟨o,e,c,d⟩:=id g
  exact⟨u,rfl,Qf (s:={s with heap:=h'}) e c d (by decide) ⟨x,H,O,J,⟨rfl,λQ L=>by rw[I.rW L j];exact n⟩,g,λb f=>(hf b f).1⟩⟩
 done:=by
  intro X r hw y D i pins s σ H E I hf st q
  subst r hw y
  obtain⟨xs,j,n⟩:=q
  obtain⟨C,l,p,hz⟩:=I.list j
  obtain⟨f0,f1,f2,B,f4,A⟩:=hf it (by simp)
  have R:=l.length
  exact wpAny_pyNext_list_end (I.ok.hd D) st p.isList (by simp;omega) λh' N=>⟨rfl,I.turned (t':=s.toks) (λb o f e=>N b o f e) f0 f1 B f4 A⟩
 self:=λ_ _ _ _ _ st h=>wpAny_pyIter_listiter st h
theorem Qz{P:Program}{w:World}{K:ae}{u:Expr}(it:Addr)(lo:Int)(n:Nat):Turn P w K u (qS lo n) [it] it (λi h=>IsRangeIter h it (lo+(i:Nat)*1) ((n:Int)-(i:Nat)) 1) where
 mem:=by simp
 obj:=λi h st b a=>by
  have e:b=it:=by simpa using a
  subst e
  exact⟨_,st,λv z=>by
   have r:Data.fields _=Data.cell v:=z
   cases r⟩
 keep:=λi h h' st k=>k it (by simp) _ st
 item:=by
  intro X g hw j f i pins s σ H E I hf st d
  subst g hw j
  obtain⟨f0,f1,f2,p,f4,l⟩:=hf it (by simp)
  have W:=Walks.range (prog:=X.prog) (w:=X.w) (I.ok.hd f) it lo 1 n
  refine W.item i s _ _ d st λv h' q x c kk=>?_
  obtain⟨t,rfl⟩:=x
  have A:Inv X pins σ H {s with heap:=h',toks:=q}:=I.turned (λb o a e=>kk b o (by simpa using a) e) f0 f1 p f4 l
  refine⟨_,rfl,Qf (s:={s with heap:=h',toks:=q}) (n:="range_iterator") c rfl rfl (by decide) ⟨.int (lo+i),H,A,⟨t,?_⟩,⟨rfl,rfl⟩,c,λb a=>(hf b a).1⟩⟩
  rw[Int.mul_one]
 done:=by
  intro X g hw j f i pins s σ H E I hf st d
  subst g hw j
  obtain⟨f0,f1,f2,p,f4,l⟩:=hf it (by simp)
  exact wpAny_pyNext_range_end (I.ok.hd f) st (by have:n<=i:=d;omega) λh' y=>⟨rfl,I.turned (t':=s.toks) (λb o a e=>y b o a e) f0 f1 p f4 l⟩
 self:=λ_ _ _ _ _ st h=>wpAny_pyIter_rangeiter st h
open PySem PySem.Spec PyProof.Rows
section
variable {X:Cx}{tg:Expr}
noncomputable def Ao(K:ae)(tl:TE):TI:=λσ H R=>tl σ H λx H1=>∃a,x=.ref a/\(∃xs,gp K H1 a xs)/\R (oi K a) H1
theorem Yd{l:Expr}{d:TE}(j:PE X l d):PI X tg l (Ao X.K d):=by
 intro pins s σ H R I h;refine hU (j pins s σ H _ I h) λv s1 hZ=>?_;obtain⟨x,H1,c,f,g⟩:=hZ;obtain⟨a,e,⟨xs,i⟩,q⟩:=g;subst e;cases f;obtain⟨r,u,p,hz⟩:=c.list i;refine gQ p.isList ?_;refine⟨s1.heap.objs.size,[s1.heap.objs.size],_,_,H1,rfl,c.kept (t':=s1.toks) λb o e=>Heap.get?_push_of_some _ e,Td a _,⟨_,Heap.get?_push_size _ rfl,rfl,rfl⟩,λb n=>?_,q⟩;have e:b=s1.heap.objs.size:=by simpa using n
 subst e;exact c.nJ (Nat.le_refl _) (c.hL.fresh (Nat.le_refl _))
theorem Pt    {R:It->Hp->Prop}{lo a:Int}{t u v:Tok}{c:Nat}(I:Inv X pins σ H s)(j:-(2 ^ 62)<=lo)(i:lo<2 ^ 62)(h:-(2 ^ 62)<=a)(g:a<2 ^ 62)(q:R (qS lo (a-lo).toNat) H):wpAny (model X.prog X.w) X.A (pyIter (.ref s.heap.objs.size)) (zV X pins σ tg R) E {s with heap:=s.heap.push {cls:=.type "range",data:=.fields #[.int lo t,.int a u,.int 1 v]},toks:=c}:=by
 refine wpAny_pyIter_range (IsRange.new ..) (small_one j i h g) ?_;have d:Inv X pins σ H {s with heap:=s.heap.push {cls:=.type "range",data:=.fields #[.int lo t,.int a u,.int 1 v]},toks:=c}:=I.kept λb o e=>Heap.get?_push_of_some _ e;refine⟨(s.heap.push {cls:=.type "range",data:=.fields #[.int lo t,.int a u,.int 1 v]}).objs.size,[(s.heap.push {cls:=.type "range",data:=.fields #[.int lo t,.int a u,.int 1 v]}).objs.size],_,_,H,rfl,d.kept (t':=c) λb o e=>Heap.get?_push_of_some _ e,Qz _ lo (a-lo).toNat,?_,λb f=>?_,q⟩
 .have n:lo+((0:Nat):Int)*1=lo:=by simp
  have l:(((a-lo).toNat:Nat):Int)-((0:Nat):Int)=d5 lo a 1:=by rw[rangeSize_one];split<;>omega
  show IsRangeIter _ _ (lo+((0:Nat):Int)*1) ((((a-lo).toNat:Nat):Int)-((0:Nat):Int)) 1;rw[n,l];exact Heap.get?_push_size _ rfl
 .have e:b=(s.heap.push {cls:=.type "range",data:=.fields #[.int lo t,.int a u,.int 1 v]}).objs.size:=by simpa using f
  subst e;exact d.nJ (Nat.le_refl _) (d.hL.fresh (Nat.le_refl _))
noncomputable def An(ta:TA):TI:=λσ H R=>ta σ H λvs H1=>∃j:Int,vs=[.int j]/\-(2 ^ 62)<=j/\j<2 ^ 62/\R (qS 0 j.toNat) H1
noncomputable def Am(ta:TA):TI:=λσ H R=>ta σ H λvs H1=>∃i j:Int,vs=[.int i,.int j]/\(-(2 ^ 62)<=i/\i<2 ^ 62/\-(2 ^ 62)<=j/\j<2 ^ 62)/\R (qS i (j-i).toNat) H1
theorem Y3{a:Expr}{c:TA}{p pos:Pos}(l:Gl X "range")(hm:X.mg "range"=none)(n:PA X [a] c)(i:aH [a] X.env=[(false,eval a X.env)]:=by rfl):PI X tg (.Call (.Name "range" p) [a] [] pos) (An c):=by
 intro pins s σ H R I h;refine Call_ (JK I l hm boot_range (bI (hU (n pos pins s σ H _ I h) λus s1 hZ=>?_) i rfl));obtain⟨vs,H1,o,f,b⟩:=hZ;obtain⟨j,e,b,g,q⟩:=b;subst e;cases f with
|cons r d=>cases d;obtain⟨t,rfl⟩:=r;exact call_range_1 (Pt o (by omega) (by omega) b g (by simpa using q))
theorem MT{a b:Expr}{g:TA}{p pos:Pos}(x:Gl X "range")(hm:X.mg "range"=none)(y:PA X [a,b] g)(w:aH [a,b] X.env=[(false,eval a X.env),(false,eval b X.env)]:=by rfl)(c:aH [b] X.env=[(false,eval b X.env)]:=by rfl):PI X tg (.Call (.Name "range" p) [a,b] [] pos) (Am g):=by
 intro pins s σ H R I h;refine Call_ (JK I x hm boot_range (bI (hU (y pos pins s σ H _ I h) λus s1⟨vs,H1,z,l,f⟩=>?_) (by rw[w,c]) (by rw[c];rfl)));obtain⟨i,j,e,⟨f,v,u,o⟩,q⟩:=f;subst e;cases l with
|cons r d=>
  cases d with
 |cons n d=>cases d;obtain⟨t,rfl⟩:=r;obtain⟨t',rfl⟩:=n;exact call_range_2 (Pt z f v u o q)
noncomputable def vi(wi:TI)(g:TG)(tb:TS):TS:=λD σ H=>wi σ H λJ H1=>∃W:Nat->Nat->St->Hp->Prop,(∃m,W 0 m σ H1)/\∀i m σ H,W i m σ H ->(J.stop i H/\D.nx σ H)\/(J.go i H/\∃N:St->Hp->Prop,(∀mK H',N mK H'->∃m',m'<m/\W (i+1) m' mK H')/\∀x H',J.rE i H x H'->g x σ H' λz6 H2=>tb {D with nx:=N,ct:=N,bk:=D.nx} z6 H2)
noncomputable def G0(fp:List Addr)(h:Heap):List (Addr×Obj):=fp.filterMap λb=>(h.get? b).map λo=>(b,o)
theorem lE{a:List Addr}{h:Heap}{b:Addr}{o:Obj}(c:b∈a)(e:h.get? b=some o):(b,o)∈G0 a h:=iI.mpr ⟨b,c,by rw[e];rfl⟩
theorem Tv  {p:Addr×Obj}(a:p∈G0 d h):p.1∈d/\h.get? p.1=some p.2:=by
 obtain⟨b,c,e⟩:=iI.mp a;cases q:h.get? b with
|none=>rw[q]at e;cases e
|some o=>rw[q]at e;have f:(b,o)=p:=ax e;subst f;exact⟨c,q⟩
theorem Inv.pinned{pins:List (Addr×Obj)}{σ:St}{H:Hp}{s:ai}{a:List Addr}(I:Inv X pins σ H s)(hf:∀b∈a,p' X pins H b)(h:∀b∈a,∃o,s.heap.get? b=some o/\∀v,o.data≠.cell v):Inv X (pins++G0 a s.heap) σ H s:=I.ou λp g=>(aF.mp g).elim (λz=>I.pin p (bc _ z)) λz=>by obtain⟨c,e⟩:=Tv z;obtain⟨f0,f1,f2,_⟩:=hf p.1 c;obtain⟨o,f,d⟩:=h p.1 c;rw[e]at f;cases f;exact⟨e,f0,f1,f2,d⟩
theorem Inv.mV{pins pl:List (Addr×Obj)}{σ:St}{H:Hp}{s:ai}(I:Inv X (pins++pl) σ H s):Inv X pins σ H s:=I.ou λp a=>I.pin p (bc _ (bj _ a))
theorem ZX{iter:Expr}{body:List Stmt}{Y:TI}{g:TG}{tb:TS}{pos:Pos}(E:PassesOwn (model X.prog X.w) X.A X.env X.xe)(hc:X.calm=true)(hi:PI X tg iter Y)(hg:PG X tg g)(c:oJ X body tb)(hs:∀x,gS iter X.env x=pure x:=by intro _;rfl):PS X (.For tg iter body [] pos) (vi Y g tb):=by
 intro pins s σ H D I h;refine wpAny_For (hU (hi pins s σ H _ I h) λv s1 h1=>hU h1 λab s2 h2=>?_) hs;obtain⟨it,F,Z,J,H2,e,I2,T,R,f2,W,⟨m0,w0⟩,turn⟩:=h2;subst e;have y:∀{H':Hp},(∀b∈F,H' b=none)->∀b∈F,p' X pins H' b:=λhn b c=>⟨hn b c,(f2 b c).2⟩;refine codeAny_forLoop_any (λn s'=>∃i q H',Inv X pins q H' s'/\Z i s'.heap/\(∀b∈F,H' b=none)/\W i n q H') ?_ m0 ⟨0,σ,H2,I2,R,λb c=>(f2 b c).1,w0⟩;rintro n s3 ⟨i,p,M,I3,G,L,w3⟩;rcases turn i n p M w3 with⟨stop,qn⟩|⟨go,N,hN,step⟩
 .refine dX E (hU (T.done X rfl rfl rfl hc i pins s3 p M X.xe I3 (y L) G stop) λr s4⟨P,I4⟩=>?_);subst P;exact f7 ⟨p,M,I4,qn⟩
 .refine dX E (hU (T.item X rfl rfl rfl hc i pins s3 p M X.xe I3 (y L) G go) λr s4⟨u,P,h4⟩=>?_);subst P;refine dX E (hU h4 λ_ s5 hZ=>?_);obtain⟨x,H5,I5,r5,y5,B,S⟩:=hZ;have U:=I5.pinned (y S) (T.obj _ _ B);refine dX E (hU (hg _ s5 p H5 x u _ U r5 (step x H5 y5)) λ_ s6 hZ=>?_);obtain⟨Q,H6,I6,q6⟩:=hZ;refine dX E (hU (c _ s6 Q H6 _ I6 q6) λf O z=>?_);have again:∀{a:St}{l:Hp},Inv X (pins++G0 F s5.heap) a l O->N a l->∃m,m<n/\∃i q H',Inv X pins q H' O/\Z i O.heap/\(∀b∈F,H' b=none)/\W i m q H':=λ{a l}j C=>by obtain⟨m',hm,w7⟩:=hN a l C;refine⟨m',hm,i+1,a,l,j.mV,T.keep _ _ _ B λb c o e=>(j.pin (b,o) (bc _ (bc _ (lE c e)))).1,λb c=>?_,w7⟩;obtain⟨o,e,d⟩:=T.obj _ _ B b c;exact(j.pin (b,o) (bc _ (bc _ (lE c e)))).2.1
  cases f with
 |next=>obtain⟨a,l,j,C⟩:=z;exact again j C
 |cont=>obtain⟨a,l,j,C⟩:=z;exact again j C
 |brk=>obtain⟨a,l,j,z⟩:=z;exact⟨a,l,j.mV,z⟩
 |ret v=>obtain⟨x7,a,l,j,r7,z⟩:=z;exact⟨x7,a,l,j.mV,r7,z⟩
end
theorem UP{lo:Int}{n:Nat}{g:TG}{f:TS}{D:Ends} (Pv:Nat->St->Hp->Prop)(h0:Pv 0 σ H)(l:∀i σ H,i<n->Pv i σ H->g (.int (lo+i)) σ H λa d=>f {D with nx:=Pv (i+1),ct:=Pv (i+1),bk:=D.nx} a d)(hd:∀σ H,Pv n σ H->D.nx σ H):∃W:Nat->Nat->St->Hp->Prop,(∃m,W 0 m σ H)/\∀i m σ H,W i m σ H ->((qS lo n).stop i H/\D.nx σ H)\/((qS lo n).go i H/\∃N:St->Hp->Prop,(∀b H',N b H'->∃h,h<m/\W (i+1) h b H')/\∀x H',(qS lo n).rE i H x H'->g x σ H' λa d=>f {D with nx:=N,ct:=N,bk:=D.nx} a d):=by
 refine⟨λi m σ H=>m=n-i/\i<=n/\Pv i σ H,⟨n,by simp,Nat.zero_le _,h0⟩,?_⟩;rintro i m σ H ⟨rfl,o,p⟩;by_cases c:i<n
 .refine .inr ⟨c,Pv (i+1),λb H' j=>⟨n-(i+1),by omega,rfl,c,j⟩,λx H' y=>?_⟩;obtain⟨e,y⟩:=y;subst e y;exact l i σ _ c p
 .have e:i=n:=by omega
  subst e;exact .inl ⟨Nat.le_refl _,hd σ H p⟩
theorem WJ{c:TT}{e:TS}{D:Ends} (Pv:St->Hp->Prop)(d:St->Hp->Nat)(h0:Pv σ H)(h:∀σ H,Pv σ H->c σ H λb H1=>if b=true then e {D with nx:=λa H'=>Pv a H'/\d a H'<d σ H,ct:=λa H'=>Pv a H'/\d a H'<d σ H,bk:=D.nx} σ H1 else D.nx σ H1)(mono:∀σ H Q f,(∀b H1,Q b H1->f b H1)->c σ H Q->c σ H f):WM c e D σ H:=by
 refine⟨λm σ H=>m=d σ H/\Pv σ H,⟨_,rfl,h0⟩,?_⟩;rintro m σ H ⟨rfl,p⟩;refine mono σ H _ _ (λb H1 q=>?_) (h σ H p);cases b with
|true=>exact⟨_,λa H'⟨g,l⟩=>⟨_,l,rfl,g⟩,q⟩
|false=>exact q
open PySem PySem.Spec PyProof.Rows
noncomputable abbrev R2:=V->V->Hp->VK->Prop
noncomputable def lV(X:Cx)(f:Value->Value->Sem Value)(r:R2):Prop:=∀(pins:List (Addr×Obj))(s:ai)(σ:St)(H:Hp)(x y:V)(v u:Value)(Q:VK),Inv X pins σ H s->RelV x v->RelV y u->r x y H Q ->wpAny (model X.prog X.w) X.A (f v u) (EP X pins σ Q) X.xe s
noncomputable def zu(X:Cx)(f:Value->Sem Value)(r:V->Hp->VK->Prop):Prop:=∀(pins:List (Addr×Obj))(s:ai)(σ:St)(H:Hp)(x:V)(v:Value)(Q:VK),Inv X pins σ H s->RelV x v->r x H Q ->wpAny (model X.prog X.w) X.A (f v) (EP X pins σ Q) X.xe s
noncomputable def Xf(X:Cx)(f:Value)(r:List V->Hp->VK->Prop):Prop:=∀(pins:List (Addr×Obj))(s:ai)(σ:St)(H:Hp)(xs:List V)(us:List Value)(Q:VK),Inv X pins σ H s->Vals xs us->r xs H Q ->wpAny (model X.prog X.w) X.A (call f us) (EP X pins σ Q) X.xe s
noncomputable def zv(X:Cx)(r:V->Hp->(Bool->Hp->Prop)->Prop):Prop:=∀(pins:List (Addr×Obj))(s:ai)(σ:St)(H:Hp)(x:V)(v:Value)(Q:Bool->Hp->Prop),Inv X pins σ H s->RelV x v->r x H Q ->wpAny (model X.prog X.w) X.A (truthy v) (TP X pins σ Q) X.xe s
noncomputable def rF(r:R2)(ta tb:TE):TE:=λσ H Q=>ta σ H λx H1=>tb σ H1 λy H2=>r x y H2 Q
noncomputable def AA(r:V->Hp->VK->Prop)(ta:TE):TE:=λσ H Q=>ta σ H λx H1=>r x H1 Q
noncomputable def rI(C:Int->Int->Prop)(g:Int->Int->V):R2:=λx y H Q=>∃i j,x=.int i/\y=.int j/\C i j/\Q (g i j) H
noncomputable def tS(g:Int->Int->V):R2:=λx y H Q=>∃i j,x=.int i/\y=.int j/\Q (g i j) H
noncomputable def rU(g:Int->V):V->Hp->VK->Prop:=λx H Q=>∃i,x=.int i/\Q (g i) H
section
variable {X:Cx}{a b c:Expr}{ta tb tc:TE}{pos:Pos}
theorem uI(p:PE X a ta)(o:PE X b tb){pins:List (Addr×Obj)}{s:ai}{σ:St}{H:Hp}{R:V->V->Hp->Prop}(I:Inv X pins σ H s)(h:ta σ H λx H1=>tb σ H1 λy d=>R x y d){Q:Value->ai->Prop}{f:Value->Value->Sem Value}(hf:∀v u s2 x y d,Inv X pins σ d s2->RelV x v->RelV y u->R x y d->wpAny (model X.prog X.w) X.A (f v u) Q X.xe s2):wpAny (model X.prog X.w) X.A (eval a X.env) (λv g=>wpAny (model X.prog X.w) X.A (eval b X.env) (λu e=>wpAny (model X.prog X.w) X.A (f v u) Q X.xe e) X.xe g) X.xe s:=by refine hU (p pins s σ H _ I h) λv s1 hZ=>?_;obtain⟨x,H1,r,j,n⟩:=hZ;refine hU (o pins s1 σ H1 _ r n) λu s2 hZ=>?_;obtain⟨y,d,q,i,l⟩:=hZ;exact hf v u s2 x y d q j i l
theorem Zr  (f:lV X (eI op) r)(i:PE X a ta)(g:PE X b tb):PE X (.BinOp a op b pos) (rF r ta tb):=by intro pins s σ H Q I h;exact wpAny_BinOp (uI i g I h λv u s2 x y l j e d q=>f pins s2 σ l x y v u Q j e d q)
theorem MU{op:UnaryOp}{r:V->Hp->VK->Prop}(f:zu X (unaryOp op) r)(g:PE X a ta):PE X (.UnaryOp op a pos) (AA r ta):=by intro pins s σ H Q I h;exact UnaryOp_ (hU (g pins s σ H _ I h) λv s1⟨x,H1,i,d,e⟩=>f pins s1 σ H1 x v Q i d e)
theorem vx{f:Value->Value->Sem Value}{C:Int->Int->Prop}{g:Int->Int->Int}(rule:∀(i j:Int)(t u:Tok)(s:ai)(Q:Value->ai->Prop)(E:Value->ai->Prop),C i j->Q (.int (g i j) s.toks) {s with toks:=s.toks+1}->wpAny (model X.prog X.w) X.A (f (.int i t) (.int j u)) Q E s):lV X f (rI C λi j=>.int (g i j)):=by intro pins s σ H x y v u Q I e d h;obtain⟨i,j,rfl,rfl,l,q⟩:=h;obtain⟨t,rfl⟩:=e;obtain⟨t',rfl⟩:=d;exact rule i j t t' s _ _ l ⟨.int (g i j),H,I.tok _,⟨_,rfl⟩,q⟩
theorem vw{f:Value->Value->Sem Value}{g:Int->Int->Int}(rule:∀(i j:Int)(t u:Tok)(s:ai)(Q:Value->ai->Prop)(E:Value->ai->Prop),Q (.int (g i j) s.toks) {s with toks:=s.toks+1}->wpAny (model X.prog X.w) X.A (f (.int i t) (.int j u)) Q E s):lV X f (tS λi j=>.int (g i j)):=by intro pins s σ H x y v u Q I e d h;obtain⟨i,j,rfl,rfl,q⟩:=h;obtain⟨t,rfl⟩:=e;obtain⟨t',rfl⟩:=d;exact rule i j t t' s _ _ ⟨.int (g i j),H,I.tok _,⟨_,rfl⟩,q⟩
theorem ui{f:Value->Value->Sem Value}{g:Int->Int->Bool}(rule:∀(i j:Int)(t u:Tok)(s:ai)(Q:Value->ai->Prop)(E:Value->ai->Prop),Q (.bool (g i j)) s->wpAny (model X.prog X.w) X.A (f (.int i t) (.int j u)) Q E s):lV X f (tS λi j=>.bl (g i j)):=by intro pins s σ H x y v u Q I e d h;obtain⟨i,j,rfl,rfl,q⟩:=h;obtain⟨t,rfl⟩:=e;obtain⟨t',rfl⟩:=d;exact rule i j t t' s _ _ ⟨.bl (g i j),H,I,rfl,q⟩
noncomputable def zH(i j:Int):Prop:=0<j/\j<1073741824
noncomputable def zG(i j:Int):Prop:=0<=j/\j<=1000000/\i.natAbs<2 ^ 64
noncomputable def uX(i j:Int):Prop:=(-(2 ^ 64)<i/\i<2 ^ 64)\/(-(2 ^ 64)<j/\j<2 ^ 64)
theorem uX.ok{i j:Int}(h:uX i j):IntMulOk i j:=by
 rcases h with⟨e,d⟩|⟨e,d⟩
 .exact .of_left (intBits_le_64 e d)
 .exact .of_right (intBits_le_64 e d)
theorem ZL:lV X (eI .Add) (tS λi j=>.int (i+j)):=vw λ_ _ _ _ _ _ _ q=>add_int q
theorem XW:lV X (eI .Sub) (tS λi j=>.int (i-j)):=vw λ_ _ _ _ _ _ _ q=>sub_int q
theorem Xk:lV X (eI .Mult) (rI uX λi j=>.int (i*j)):=vx λ_ _ _ _ _ _ _ d q=>mul_int q d.ok
theorem Sv:lV X (eI .FloorDiv) (rI zH λi j=>.int (i / j)):=vx λi j _ _ _ _ _ d q=>by have f:(0:Int)<j:=d.1;have e:j<1073741824:=d.2;exact floordiv_int (by omega) (by rw[Int.fdiv_eq_ediv_of_nonneg i (by omega)];exact q) (.inl (PyProof.noPylong_small (by omega)))
theorem Xy:lV X (eI .Mod) (rI (λ_ j=>0<j) λi j=>.int (i % j)):=vx λi j _ _ _ _ _ d q=>by have e:(0:Int)<j:=d;exact mod_int' (by omega) (by rw[Int.fmod_eq_emod_of_nonneg i (by omega)];exact q)
theorem Q3:lV X (eI .Pow) (rI zG λi j=>.int (i ^ j.toNat)):=vx λ_ _ _ _ _ _ _ d q=>pow_int_small d.1 d.2.1 d.2.2 q
theorem z8{f:Value->Sem Value}{g:Int->Int}(rule:∀(i:Int)(t:Tok)(s:ai)(Q:Value->ai->Prop)(E:Value->ai->Prop),Q (.int (g i) s.toks) {s with toks:=s.toks+1}->wpAny (model X.prog X.w) X.A (f (.int i t)) Q E s):zu X f (rU λi=>.int (g i)):=by intro pins s σ H x v Q I d h;obtain⟨i,rfl,q⟩:=h;obtain⟨t,rfl⟩:=d;exact rule i t s _ _ ⟨.int (g i),H,I.tok _,⟨_,rfl⟩,q⟩
theorem Uw:zu X (unaryOp .USub) (rU λi=>.int (-i)):=z8 λ_ _ _ _ _ q=>neg_int q
noncomputable def vm:V->V->Bool
|.non,.non=>true|.non,.int _=>true|.int _,.non=>true|.non,.bl _=>true|.bl _,.non=>true|.non,.str _=>true|.str _,.non=>true
|.int _,.int _=>true|.bl _,.bl _=>true|.str _,.str _=>true|.qe _,.qe _=>true
|.int _,.str _=>true|.str _,.int _=>true|.bl _,.str _=>true|.str _,.bl _=>true
|_,_=>false
noncomputable def AI:R2:=λx y H Q=>vm x y=true/\Q (.bl (decide (x=y))) H
noncomputable def AH:R2:=λx y H Q=>vm x y=true/\Q (.bl (!decide (x=y))) H
theorem SN{i j:Int}:decide (V.int i=V.int j)=(i==j):=by rw[Bool.eq_iff_iff];simp
theorem Ls :decide (V.bl i=V.bl j)=(i==j):=by rw[Bool.eq_iff_iff];simp
theorem SM :decide (V.str i=V.str j)=(i==j):=by rw[Bool.eq_iff_iff];simp
theorem SO :decide (V.qe i=V.qe j)=(i.toList==j.toList):=by rw[Bool.eq_iff_iff];cases i;cases j;simp
theorem ZT    {Q:VK}{k d:Bool}(I:Inv X pins σ H s)(q:Q (.bl k) H)(e:k=d):EP X pins σ Q (.bool d) s:=by subst e;exact⟨.bl k,H,I,rfl,q⟩
theorem YV:lV X (bE .Eq) AI:=by
 intro pins s σ H x y v u Q I f d h;obtain⟨e,q⟩:=h;cases x with
|non=>
  cases f;cases y with
 |non=>cases d;exact PySem.EqNone.eq_none_none (ZT I q (by simp))
 |bl j=>cases d;exact PySem.EqNone.eq_none_bool (ZT I q (by simp))
 |int j=>obtain⟨t',rfl⟩:=d;exact PySem.EqNone.eq_none_int (ZT I q (by simp))
 |str j=>obtain⟨t',rfl⟩:=d;exact PySem.EqNone.eq_none_str (ZT I q (by simp))
 |_=>exact absurd (show false=true from e) Bool.false_ne_true
|bl i=>
  cases f;cases y with
 |non=>cases d;exact PySem.EqNone.eq_bool_none (ZT I q (by simp))
 |bl j=>cases d;exact eq_bool (ZT I q Ls)
 |str j=>obtain⟨t',rfl⟩:=d;exact PySem.EqMixed.eq_bool_str (ZT I q (by simp))
 |_=>exact absurd (show false=true from e) Bool.false_ne_true
|int i=>
  obtain⟨t,rfl⟩:=f;cases y with
 |non=>cases d;exact PySem.EqNone.eq_int_none (ZT I q (by simp))
 |int j=>obtain⟨t',rfl⟩:=d;exact eq_int (ZT I q SN)
 |str j=>obtain⟨t',rfl⟩:=d;exact PySem.EqMixed.eq_int_str (ZT I q (by simp))
 |_=>exact absurd (show false=true from e) Bool.false_ne_true
|str i=>
  obtain⟨t,rfl⟩:=f;cases y with
 |non=>cases d;exact PySem.EqNone.eq_str_none (ZT I q (by simp))
 |bl j=>cases d;exact PySem.EqMixed.eq_str_bool (ZT I q (by simp))
 |int j=>obtain⟨t',rfl⟩:=d;exact PySem.EqMixed.eq_str_int (ZT I q (by simp))
 |str j=>obtain⟨t',rfl⟩:=d;exact eq_str (ZT I q SM)
 |_=>exact absurd (show false=true from e) Bool.false_ne_true
|qe i=>
  obtain⟨t,rfl⟩:=f;cases y with
 |qe j=>obtain⟨t',rfl⟩:=d;exact PySem.W.eq_bytes (ZT I q SO)
 |_=>exact absurd (show false=true from e) Bool.false_ne_true
|_=>cases y<;>exact absurd (show false=true from e) Bool.false_ne_true
theorem U0:lV X (bE .NotEq) AH:=by
 intro pins s σ H x y v u Q I f d h;obtain⟨e,q⟩:=h;cases x with
|non=>
  cases f;cases y with
 |non=>cases d;exact PySem.EqNone.ne_none_none (ZT I q (by simp))
 |bl j=>cases d;exact PySem.EqNone.ne_none_bool (ZT I q (by simp))
 |int j=>obtain⟨t',rfl⟩:=d;exact PySem.EqNone.ne_none_int (ZT I q (by simp))
 |str j=>obtain⟨t',rfl⟩:=d;exact PySem.EqNone.ne_none_str (ZT I q (by simp))
 |_=>exact absurd (show false=true from e) Bool.false_ne_true
|bl i=>
  cases f;cases y with
 |non=>cases d;exact PySem.EqNone.ne_bool_none (ZT I q (by simp))
 |bl j=>cases d;exact ne_bool (ZT I q (congrArg not Ls))
 |str j=>obtain⟨t',rfl⟩:=d;exact PySem.EqMixed.ne_bool_str (ZT I q (by simp))
 |_=>exact absurd (show false=true from e) Bool.false_ne_true
|int i=>
  obtain⟨t,rfl⟩:=f;cases y with
 |non=>cases d;exact PySem.EqNone.ne_int_none (ZT I q (by simp))
 |int j=>obtain⟨t',rfl⟩:=d;exact ne_int (ZT I q (congrArg not SN))
 |str j=>obtain⟨t',rfl⟩:=d;exact PySem.EqMixed.ne_int_str (ZT I q (by simp))
 |_=>exact absurd (show false=true from e) Bool.false_ne_true
|str i=>
  obtain⟨t,rfl⟩:=f;cases y with
 |non=>cases d;exact PySem.EqNone.ne_str_none (ZT I q (by simp))
 |bl j=>cases d;exact PySem.EqMixed.ne_str_bool (ZT I q (by simp))
 |int j=>obtain⟨t',rfl⟩:=d;exact PySem.EqMixed.ne_str_int (ZT I q (by simp))
 |str j=>obtain⟨t',rfl⟩:=d;exact ne_str (ZT I q (congrArg not SM))
 |_=>exact absurd (show false=true from e) Bool.false_ne_true
|qe i=>
  obtain⟨t,rfl⟩:=f;cases y with
 |qe j=>obtain⟨t',rfl⟩:=d;exact PySem.W.ne_bytes (ZT I q (congrArg not SO))
 |_=>exact absurd (show false=true from e) Bool.false_ne_true
|_=>cases y<;>exact absurd (show false=true from e) Bool.false_ne_true
theorem G4:lV X (bE .Lt) (tS λi j=>.bl (decide (i<j))):=ui λ_ _ _ _ _ _ _ q=>lt_int q
theorem PN:lV X (bE .LtE) (tS λi j=>.bl (decide (i<=j))):=ui λ_ _ _ _ _ _ _ q=>le_int q
theorem G6:lV X (bE .Gt) (tS λi j=>.bl (decide (j<i))):=ui λ_ _ _ _ _ _ _ q=>gt_int q
theorem UI:lV X (bE .In) (λx y H Q=>∃i j,x=.str i/\y=.str j/\Q (.bl (!(i9 j i 0 j.length 1).isEmpty)) H):=by intro pins s σ H x y v u Q I e d h;obtain⟨i,j,rfl,rfl,q⟩:=h;obtain⟨t,rfl⟩:=e;obtain⟨t',rfl⟩:=d;exact in_str (ZT I q rfl)
theorem UH:lV X (bE .Is) (λx y H Q=>y=.non/\Q (.bl (decide (x=.non))) H):=by
 intro pins s σ H x y v u Q I d e h;obtain⟨rfl,q⟩:=h;cases e;refine is_none_gen (ZT I q ?_);cases x<;>first
 |(cases d;rfl)
 |(obtain⟨t,rfl⟩:=d;rfl)
theorem V6:lV X (bE .IsNot) (λx y H Q=>y=.non/\Q (.bl (!decide (x=.non))) H):=by
 intro pins s σ H x y v u Q I d e h;obtain⟨rfl,q⟩:=h;cases e;refine isnot_none_gen (ZT I q ?_);cases x<;>first
 |(cases d;rfl)
 |(obtain⟨t,rfl⟩:=d;rfl)
theorem Zt(b:Expr){op:CmpOp}(h:op≠.In:=by decide)(d:op≠.NotIn:=by decide):dZ op b=false:=by
 have f:(op==CmpOp.In)=false:=by cases op<;>first|rfl|exact absurd rfl h
 have e:(op==CmpOp.NotIn)=false:=by cases op<;>first|rfl|exact absurd rfl d
 cases b<;>simp[dZ,f,e]
theorem Yr{op:CmpOp}{r:R2}(f:lV X (bE op) r)(i:PE X a ta)(g:PE X b tb)(hm:dZ op b=false):PE X (.Compare a [op] [b] pos) (rF r ta tb):=by intro pins s σ H Q I h;exact wpAny_Compare1 (uI i g I h λv u s2 x y l j e d q=>f pins s2 σ l x y v u Q j e d q) hm
noncomputable def Ek(t:TE):TT:=λσ H Q=>t σ H λx H'=>∃k,x=.bl k/\Q k H'
theorem Zo{op:CmpOp}{r:R2}(n:lV X (bE op) r)(p:PE X a ta)(o:PE X b tb)(hm:dZ op b=false):PT X (.Compare a [op] [b] pos) (Ek (rF r ta tb)):=by
 intro pins s σ H Q I h;refine wpAny_isTrue_Compare1 (hU (p pins s σ H _ I h) λv s1⟨x,H1,A,g,l⟩=>hU (o pins s1 σ H1 _ A l) λu s2⟨y,C,w,f,j⟩=>hU (n pins s2 σ C x y v u _ w g f j) λc s3 hZ=>?_) hm;obtain⟨z,B,q,d,k,e,i⟩:=hZ;subst e;cases d;exact bo ⟨B,q,i⟩
noncomputable def WR(r r':R2)(ta tb tc:TE):TE:=λσ H Q=>ta σ H λx H1=>tb σ H1 λy H2=>r x y H2 λz H3=>∃k,z=.bl k /\(if k=true then tc σ H3 λw' H4=>r' y w' H4 Q else Q (.bl false) H3)
theorem Kz  (F:lV X (bE op) r)(g:lV X (bE f) B)(L:PE X a ta)(J:PE X b tb)(G:PE X c tc)(hm:lastMarks [op,f] [b,c]=false:=by with_unfolding_all rfl):PE X (.Compare a [op,f] [b,c] pos) (WR r B ta tb tc):=by
 intro pins s σ H Q I h;refine Compare_chain (hU (L pins s σ H _ I h) λv s1⟨x,H1,O,A,E⟩=>chain_link (hU (J pins s1 σ H1 _ O E) λu s2⟨y,R,N,i,D⟩=>
  hU (F pins s2 σ R x y v u _ N A i D) λd s3⟨z,n,l,w,k,e,j⟩=>?_)) hm;subst e;cases w;refine bo ?_;cases k with
|false=>exact ite_ff ⟨.bl false,n,l,rfl,j⟩
|true=>exact ite_tt (chain_last (hU (G pins s3 σ n _ l j) λp s4⟨o,P,M,q,C⟩=>g pins s4 σ P y o u p Q M i q C))
theorem Pz  (L:lV X (bE op) r)(g:lV X (bE f) C)(O:PE X a ta)(N:PE X b tb)(M:PE X c tc)(hm:lastMarks [op,f] [b,c]=false:=by with_unfolding_all rfl):PT X (.Compare a [op,f] [b,c] pos) (Ek (WR r C ta tb tc)):=by
 intro pins s σ H Q I h;refine isTrue_chain (hU (O pins s σ H _ I h) λv s1⟨x,H1,W,B,G⟩=>test_link (hU (N pins s1 σ H1 _ W G) λu s2⟨y,H2,U,i,F⟩=>
  hU (L pins s2 σ H2 x y v u _ U B i F) λd s3⟨z,n,l,A,k,e,j⟩=>?_)) hm;subst e;cases A;refine bo ?_;cases k with
|false=>obtain⟨k',R,J⟩:=j;cases R;exact ite_ff ⟨n,l,J⟩
|true=>refine ite_tt (test_last (hU (M pins s3 σ n _ l j) λp s4⟨o,Z,T,w,E⟩=>hU (g pins s4 σ Z y o u p _ T i w E) λd' s5⟨z2,Y,S,q,k2,P,D⟩=>?_));subst P;cases q;exact bo ⟨Y,S,D⟩
noncomputable def vJ(K:ae)(x:V)(H:Hp)(k:Bool):Prop:=match x with
|.non=>k=false
|.bl b=>k=b
|.int i=>k=(i != 0)
|.str y=>y.length<=sizeLine/\k=((y.length:Int) != 0)
|.qe y=>y.size<=sizeLine/\k=((y.size:Int) != 0)
|.ref p=>(∃xs,gp K H p xs/\k=!xs.isEmpty)\/(∃xs,hO K H p xs/\k=!xs.isEmpty)\/∃f5,H p=some (.dK f5)/\k=!f5.isEmpty
|_=>False
theorem Ri{e:Type}{d:List (e×V)}{vs:List (e×Value)}(r:KV d vs):(!vs.isEmpty)=!d.isEmpty:=by cases r<;>rfl
theorem Mh{xs:List V}{d:List Value}(r:Vals xs d):(!d.toArray.isEmpty)=!xs.isEmpty:=by cases r<;>simp
theorem J5:(sizeLine:Nat)<2 ^ 63:=by rw[cW];decide
theorem EU:zv X (λx H Q=>∃k,vJ X.K x H k/\Q k H):=by
 intro pins s σ H x v Q I g h;obtain⟨k,e,q⟩:=h;have z:=J5;have u:sizeLine=16777216:=cW;cases x with
|non=>cases g;have d:k=false:=e;subst d;exact truthy_none ⟨H,I,q⟩
|bl b=>cases g;have d:k=b:=e;subst d;exact bo ⟨H,I,q⟩
|int i=>obtain⟨t,rfl⟩:=g;have d:k=(i != 0):=e;subst d;exact PySem.P.truthy_int ⟨H,I,q⟩
|str y=>obtain⟨t,rfl⟩:=g;obtain⟨n,d⟩:y.length<=sizeLine/\k=((y.length:Int) != 0):=e;subst d;exact PySem.P.truthy_str (by omega) ⟨H,I.tok _,q⟩
|qe y=>obtain⟨t,rfl⟩:=g;obtain⟨n,d⟩:y.size<=sizeLine/\k=((y.size:Int) != 0):=e;subst d;exact PySem.W.truthy_bytes (by omega) ⟨H,I.tok _,q⟩
|ref p=>
  cases g;have d:(∃xs,gp X.K H p xs/\k=!xs.isEmpty)\/(∃xs,hO X.K H p xs/\k=!xs.isEmpty)\/∃f,H p=some (.dK f)/\k=!f.isEmpty:=e;rcases d with⟨xs,j,d⟩|⟨xs,j,d⟩|⟨f,j,d⟩
  .subst d;obtain⟨l,r,pl,hz⟩:=I.list j;have hlen:=r.length;exact wpAny_truthy_list pl.isList (by simp only[aw];omega) ⟨H,I.tok _,by rw[Mh r];exact q⟩
  .subst d;obtain⟨l,r,pl,hz⟩:=I.tuple j;have hlen:=r.length;exact truthy_tuple pl (by simp only[aw];omega) ⟨H,I.tok _,by rw[Mh r];exact q⟩
  .subst d;obtain⟨hz,o,vs,r,m⟩:f.length<=sizeLine/\(p==bC)=false/\∃vs,KV f vs/\s.heap.DictOf (Zz X.prog X.w) p vs:=I.hL p _ j;have hlen:f.length=vs.length:=aV r;exact wpAny_truthy_dict o m (by omega) ⟨H,I.tok _,by rw[Ri r];exact q⟩
|_=>exact(show False from e).elim
theorem XX:lV X (eI .Add) (λx y H Q=>∃i j,x=.str i/\y=.str j/\i.length+j.length<=sizeLine/\Q (.str (i++j)) H):=by intro pins s σ H x y v u Q I e d h;obtain⟨i,j,rfl,rfl,hz,q⟩:=h;obtain⟨t,rfl⟩:=e;obtain⟨t',rfl⟩:=d;exact add_str (λt' f=>⟨.str (i++j),H,I.tok _,⟨_,rfl⟩,q⟩) hz
theorem vals1{x:V}(r:Vals [x] us):∃u,us=[u]/\RelV x u:=by
 cases r with
|cons e d=>cases d;exact⟨_,rfl,e⟩
theorem vals2{x y:V}(r:Vals [x,y] us):∃u d,us=[u,d]/\RelV x u/\RelV y d:=by
 cases r with
|cons h g=>
  cases g with
 |cons f e=>cases e;exact⟨_,_,rfl,h,f⟩
theorem Nf(e:X.calm=true):Xf X (.builtin "max") (λxs H Q=>∃i j,xs=[.int i,.int j]/\Q (.int (if j>i then j else i)) H):=by
 intro pins s σ H xs us Q I r h;obtain⟨i,j,rfl,q⟩:=h;obtain⟨u,f,rfl,⟨t,rfl⟩,⟨t',rfl⟩⟩:=vals2 r;refine max_two_ints (I.ok.hd e) λh' g k=>⟨_,H,I.kept k,?_,q⟩;by_cases d:j>i
 .rw[if_pos d,if_pos d];exact⟨_,rfl⟩
 .rw[if_neg d,if_neg d];exact⟨_,rfl⟩
theorem Wz(e:X.calm=true):Xf X (.builtin "min") (λxs H Q=>∃i j,xs=[.int i,.int j]/\Q (.int (if j<i then j else i)) H):=by
 intro pins s σ H xs us Q I r h;obtain⟨i,j,rfl,q⟩:=h;obtain⟨u,f,rfl,⟨t,rfl⟩,⟨t',rfl⟩⟩:=vals2 r;refine min_two_ints (I.ok.hd e) λh' g k=>⟨_,H,I.kept k,?_,q⟩;by_cases d:j<i
 .rw[if_pos d,if_pos d];exact⟨_,rfl⟩
 .rw[if_neg d,if_neg d];exact⟨_,rfl⟩
theorem Jw:Xf X (.type "int") (λxs H Q=>(∃i,xs=[.int i]/\Q (.int i) H)\/∃k,xs=[.bl k]/\Q (.int (if k then 1 else 0)) H):=by
 intro pins s σ H xs us Q I r h;rcases h with⟨i,rfl,q⟩|⟨k,rfl,q⟩
 .obtain⟨u,rfl,t,rfl⟩:=vals1 r;exact call_int_int ⟨.int i,H,I,⟨_,rfl⟩,q⟩
 .obtain⟨u,rfl,d⟩:=vals1 r;cases d;exact call_int_bool ⟨.int (if k then 1 else 0),H,I.tok _,⟨_,rfl⟩,q⟩
noncomputable def zA(K:ae)(x:V)(H:Hp)(n:Nat):Prop:=match x with
|.str y=>y.length<=sizeLine/\n=y.length
|.qe y=>y.size<=sizeLine/\n=y.size
|.ref p=>(∃xs,gp K H p xs/\n=xs.length)\/∃xs,hO K H p xs/\n=xs.length
|_=>False
theorem LI:Xf X (.builtin "len") (λxs H Q=>∃x n,xs=[x]/\zA X.K x H n/\Q (.int n) H):=by
 intro pins s σ H xs us Q I r h;obtain⟨x,n,rfl,e,q⟩:=h;obtain⟨u,rfl,f⟩:=vals1 r;have v:=J5;have o:sizeLine=16777216:=cW;cases x with
|str y=>obtain⟨t,rfl⟩:=f;obtain⟨l,d⟩:y.length<=sizeLine/\n=y.length:=e;subst d;exact len_str (by omega) ⟨.int _,H,I.tok _,⟨_,rfl⟩,q⟩
|qe y=>obtain⟨t,rfl⟩:=f;obtain⟨l,d⟩:y.size<=sizeLine/\n=y.size:=e;subst d;exact PySem.W.len_bytes (by omega) ⟨.int _,H,I.tok _,⟨_,rfl⟩,q⟩
|ref p=>
  cases f;have d:(∃xs,gp X.K H p xs/\n=xs.length)\/∃xs,hO X.K H p xs/\n=xs.length:=e;rcases d with⟨xs,i,d⟩|⟨xs,i,d⟩
  .subst d;obtain⟨j,g,pl,hz⟩:=I.list i;have hlen:=g.length;exact Calls.call_len_list pl.isList (by simp only[aw];omega) ⟨.int xs.length,H,I.tok _,⟨_,by simp only[aw];rw[hlen]⟩,q⟩
  .subst d;obtain⟨j,g,pl,hz⟩:=I.tuple i;have hlen:=g.length;exact len_tuple pl (by simp only[aw];omega) ⟨.int xs.length,H,I.tok _,⟨_,by simp only[aw];rw[hlen]⟩,q⟩
|_=>exact(show False from e).elim
end
open PySem PySem.Spec PyProof.Rows
structure qF(h:Heap)(x dx C:Addr)(mA:Str->Option Value):Prop where
 obj:h.get? x=some (cZ C dx)
 ns:h.Ns1 dx mA
 ne:dx≠x
theorem UJ{h:Heap} (n:h.Ns1 g mA):∃od,h.get? g=some od/\∀name,gV name od=some (mA name):=by
 obtain⟨o,c,j,f,hd,hk,_,hm⟩:=n;refine⟨o,f,λname=>?_⟩;have e:=hm name;unfold nsFind findBy at e;rw[<-Array.find?_toList]at e;unfold gV;rw[hd];dsimp only;split
 .rename_i y q;rw[q]at e;exact congrArg some e
 .rename_i q;rw[q]at e;have a:c.toList.any (·.refKey)=false:=by rw[List.any_eq_false];intro y d;obtain⟨z,t,b⟩:=hk y (fE.mp d);simp[DictEntry.refKey,b]
  have i:¬c.toList.any (·.refKey)=true:=by rw[a];exact Bool.false_ne_true
  rw[if_neg i];exact congrArg some e
theorem qF.look   (I:qF h x c C mA):∃od,fe h x (cZ C c) C (some od)/\∀name,gV name od=some (mA name):=let ⟨od,a,b⟩:=UJ I.ns
 ⟨od,⟨I.obj,rfl,rfl,a⟩,b⟩
section
variable {prog:Program}{w:World}{A:bh}{E:Value->ai->Prop}{s:ai}{K:ae}{x dx C f:Addr}{mA:Str->Option Value}{name:Str}{v:Value}
theorem get_map {Q:Value->ai->Prop}(X:K.In s.heap)(I:qF s.heap x dx C mA)(e:dY K C name=true)(d:cF K C=true)(g:aD K (.ref C) name=some none)(b:mA name=some v)(a:iR v=true)(h:Q v {s with toks:=s.toks+1}):wpAny (model prog w) A (getAttr (.ref x) name expr) Q E s:=by obtain⟨od,J,c⟩:=I.look;exact PySem.W.get_value X J (g_ e).1 (PySem.W.findObj_own d g rfl (by rw[c,b])) a h
theorem Ll {Q:Value×List Value->ai->Prop}(X:K.In s.heap)(I:qF s.heap x dx C mA)(a:dY K C name=true)(hf:aD K (.ref C) name=some (some (.ref f)))(c:fK K (.ref f)=true)(b:mA name=none)(h:Q (.ref f,[.ref x]) s):wpAny (model prog w) A (gy (.ref x) name pl) Q E s:=by obtain⟨od,J,d⟩:=I.look;exact PySem.W.method_fn X J (g_ a).1 (g_ a).2 hf (beq_iff_eq.mp c) (by show(gV name od).map (·.isSome)=some false;rw[d,b];rfl) h
theorem L6 {Q:Unit->ai->Prop}(X:K.In s.heap)(I:qF s.heap x dx C mA)(o:aD K (.ref C) "__setattr__"=some (some (.builtin "object.__setattr__")))(p:f6 K C=true)(n:iX K C name=some none)(q:cF K C=true)(hw:d6 mA ns)(hsz:ns.length<=sizeLine)(h:∀h',qF h' x dx C (λy=>if y=name then some v else mA y)->Heap.SameBut dx s.heap h'->Q () {s with heap:=h',toks:=s.toks+2}):wpAny (model prog w) A (setAttr (.ref x) name v) Q E s:=by obtain⟨od,J,F⟩:=I.look;refine PySem.W.set_plain X J o (PySem.W.osa_open (s:={s with toks:=s.toks+1}) (r:=none) X J p n λb=>?_);obtain⟨cd,u,i⟩:=PySem.W.any_some q;have l:s.heap.get? x=some ⟨.ref C,some dx,.plain,#[]⟩:=I.obj;refine aa (ah (aa (aa (wpAny_loadPart l (aa (PySem.W.Looks.here (s:={s with toks:=s.toks+1}) (PySem.W.looks_clsIn X u) ?_))))));rw[i];refine ah (a:=some dx) (aa (ah (aa ?_)));refine wpAny_nsSet1 (s:={s with toks:=s.toks+1}) I.ns λh' d c=>?_;obtain⟨D,z,B,e,g,j⟩:=d.count (PySem.Within.cons name v hw);refine aa (wpAny_lookBehind e (by rw[g];exact pastItsLine_dict (Nat.le_trans j (by rw[aR];omega))) ?_);exact ah (h _ ⟨(c.2 _ (bK I.ne)).trans I.obj,d,I.ne⟩ c)
theorem K0 {vs:List Value}{kw:List (Str×Value)}(X:K.In s.heap)(hm:gF K C=true)(a:aD K (.ref C) "__init__"=some (some (.ref f)))(hf:PySem.W.typeIn K (.ref f)=some (.type "function"))(h:gO (model prog w) (A.under (.builtin "type.__call__" ⟨.ref C::vs,kw⟩)) (.call (.ref f) ⟨.ref (s.heap.objs.size+1)::vs,kw⟩) (PySem.W.InitBack (s.heap.objs.size+1) R) {s with heap:=(s.heap.push b9).push (cZ C s.heap.objs.size)}):gO (model prog w) A (.call (.ref C) ⟨vs,kw⟩) R s:=by obtain⟨b,g,d,t,os⟩:=s;exact PySem.W.make_core (PySem.W.makes_of X hm) (c8 X a) (λself=>PySem.W.bind_fn X self hf) (.inl rfl) h
end
noncomputable def jB(f:Str)(v:V):List (Str×V)->List (Str×V)
|[]=>[(f,v)]
|(g,x)::r=>if g=f then(g,v)::r else(g,x)::jB f v r
theorem Yk(f g:Str)(v:V):∀fs:List (Str×V),(jB f v fs).lookup g=if g=f then some v else fs.lookup g
|[]=>by
  show fH g [(f,v)]=_;by_cases h:g=f
  .have a:(g==f)=true:=beq_iff_eq.mpr h;simp only[fH,a,if_pos h]
  .have a:(g==f)=false:=beq_eq_false_iff_ne.mpr h;simp only[fH,a,if_neg h]
|(k,x)::r=>by
  have b:=Yk f g v r;rw[show jB f v ((k,x)::r)=(if k=f then(k,v)::r else(k,x)::jB f v r)from rfl];by_cases hk:k=f
  .rw[if_pos hk];by_cases h:g=k
   .have a:(g==k)=true:=beq_iff_eq.mpr h;simp only[fH,a,if_pos (h.trans hk)]
   .have a:(g==k)=false:=beq_eq_false_iff_ne.mpr h;simp only[fH,a,if_neg (λe:g=f=>h (e.trans hk.symm))]
  .rw[if_neg hk];by_cases h:g=k
   .have a:(g==k)=true:=beq_iff_eq.mpr h;simp only[fH,a,if_neg (λe:g=f=>hk (h.symm.trans e))]
   .have a:(g==k)=false:=beq_eq_false_iff_ne.mpr h;simp only[fH,a];exact b
theorem Jv(f:Str)(v:V):∀fs:List (Str×V),f∈(jB f v fs).map (·.1)/\∀g,g∈fs.map (·.1)->g∈(jB f v fs).map (·.1)
|[]=>⟨by simp[jB],λg h=>by simp at h⟩
|(k,x)::r=>by
  obtain⟨b,a⟩:=Jv f v r;rw[show jB f v ((k,x)::r)=(if k=f then(k,v)::r else(k,x)::jB f v r)from rfl];by_cases hk:k=f
  .rw[if_pos hk];subst hk;exact⟨by simp,λg h=>by simpa using h⟩
  .rw[if_neg hk];refine⟨?_,λg h=>?_⟩
   .rw[aA];exact ar _ b
   .rw[aA]at h ⊢;rcases au.mp h with e|e
    .exact au.mpr (.inl e)
    .exact ar _ (a g e)
theorem Y5(f:Str)(v:V):∀fs:List (Str×V),(jB f v fs).length<=fs.length+1
|[]=>by simp[jB]
|(k,x)::r=>by
  have a:=Y5 f v r;rw[show jB f v ((k,x)::r)=(if k=f then(k,v)::r else(k,x)::jB f v r)from rfl];by_cases hk:k=f
  .rw[if_pos hk,aR,aR];omega
  .rw[if_neg hk,aR,aR];omega
theorem kf.some_of{v:V}(r:kf (some v) o):∃u,o=some u/\RelV v u:=by
 cases o with
|none=>exact(show False from r).elim
|some u=>exact⟨u,rfl,r⟩
theorem kf.none_of (r:kf none o):o=none:=by
 cases o with
|none=>rfl
|some u=>exact(show False from r).elim
theorem MZ  (r:RelV v u):iR u=true:=by
 cases v with
|non=>cases(show u=Value.none from r);rfl
|bl b=>cases(show u=Value.bool b from r);rfl
|int i=>obtain⟨t,e⟩:=(show ∃t,u=Value.int i t from r);cases e;rfl
|str x=>obtain⟨t,e⟩:=(show ∃t,u=Value.str x t from r);cases e;rfl
|qe b=>obtain⟨t,e⟩:=(show ∃t,u=Value.bytes b t from r);cases e;rfl
|uE b=>obtain⟨t,e⟩:=(show ∃t,u=Value.float b t from r);cases e;rfl
|ref a=>cases(show u=Value.ref a from r);rfl
|ty n=>cases(show u=Value.type n from r);rfl
section
variable {P:Program}{w:World}{H H':Hp}{h h':Heap}{a C dx:Addr}{fs A3:List (Str×V)}
theorem Gs(b:k6 P w H h)(e:H a=some (.ins C dx fs)):∃mA,qF h a dx C mA/\(∀f,kf (fs.lookup f) (mA f))/\d6 mA (fs.map (·.1))/\fs.length<=1000/\H dx=some (.own a):=by obtain⟨d,z,ne,c,mA,n,r,q⟩:=(show ZW P w H h a (.ins C dx fs)from b a _ e);exact⟨mA,⟨c,n,ne⟩,r,q,z,d⟩
end
structure qH(K:ae)(C:Addr):Prop where
 pg:dY K C Str.empty=true
 hd:cF K C=true
 po:f6 K C=true
 sa:aD K (.ref C) "__setattr__"=some (some (.builtin "object.__setattr__"))
theorem qH.get{K:ae}{C:Addr}(c:qH K C)(f:Str):dY K C f=true:=c.pg
noncomputable def XA(K:ae)(C:Addr)(f:Str):Prop:=aD K (.ref C) f=some none
theorem XA.ve{K:ae}{C:Addr}{f:Str}(n:XA K C f):iX K C f=some none:=by unfold iX;rw[show aD K (.ref C) f=some none from n];rfl
structure Meth(K:ae)(C:Addr)(m:Str)(f:Addr):Prop where
 at_:aD K (.ref C) m=some (some (.ref f))
 fn:fK K (.ref f)=true
 kp:a7 K (.ref f)=true
section
variable {X:Cx}{pins:List (Addr×Obj)}{σ:St}{H:Hp}{s:ai}{a C dx:Addr}{fs:List (Str×V)}{f:Str}{v:V}{A:bh}{E:Value->ai->Prop}
theorem Rl {Q:Value->ai->Prop}(I:Inv X pins σ H s)(e:H a=some (.ins C dx fs))(c:qH X.K C)(n:XA X.K C f)(l:fs.lookup f=some v)(h:∀u s',Inv X pins σ H s'->RelV v u->Q u s'):wpAny (model X.prog X.w) A (getAttr (.ref a) f b) Q E s:=by obtain⟨mA,O,r,_,_,_⟩:=Gs I.hL e;obtain⟨u,g,d⟩:=kf.some_of (v:=v) (o:=mA f) (by rw[<-l];exact r f);exact get_map I.kT O (c.get f) c.hd n g (MZ d) (h u _ (I.tok _) d)
theorem VL   {Q:Value×List Value->ai->Prop}(I:Inv X pins σ H s)(e:H a=some (.ins C dx fs))(c:qH X.K C)(k:Meth X.K C m g)(l:fs.lookup m=none)(h:Q (.ref g,[.ref a]) s):wpAny (model X.prog X.w) A (gy (.ref a) m pl) Q E s:=by obtain⟨mA,O,r,_,_,_⟩:=Gs I.hL e;have b:mA m=none:=kf.none_of (by rw[<-l];exact r m);exact Ll I.kT O (c.get m) k.at_ k.fn b h
theorem QM  {Q:Unit->ai->Prop}(I:Inv X pins σ H s)(e:H a=some (.ins C dx fs))(c:qH X.K C)(n:XA X.K C f)(G:fs.length<1000)(p:RelV y u)(h:∀s',Inv X pins σ (upd H a (.ins C dx (jB f y fs))) s'->Q () s'):wpAny (model X.prog X.w) A (setAttr (.ref a) f u) Q E s:=by
 obtain⟨mA,O,r,i,_,j⟩:=Gs I.hL e;have hz:(fs.map (·.1)).length<=sizeLine:=by rw[bU,cW];omega
 refine L6 I.kT O c.sa c.po n.ve c.hd i hz λh' d l=>h _ ?_;have hd:∃o,h'.get? dx=some o:=let ⟨o,_,_,F,_⟩:=d.ns;⟨o,F⟩
 refine I.write (x:=a) (e:=dx) (by rw[e];exact bH) (.inr j) (λb q D z=>(l.2 b D).trans z) hd ?_;refine⟨by rw[Zf O.ne];exact j,?_,O.ne,d.obj,_,d.ns,λg=>?_,λg B=>?_⟩
 .have:=Y5 f y fs;omega
 .show kf ((jB f y fs).lookup g) (if g=f then some u else mA g);rw[Yk];by_cases q:g=f
  .rw[if_pos q,if_pos q];exact p
  .rw[if_neg q,if_neg q];exact r g
 .by_cases q:g=f
  .rw[q];exact(Jv f y fs).1
  .refine(Jv f y fs).2 g (i g λz=>B ?_);show(if g=f then some u else mA g)=none;rw[if_neg q];exact z
theorem Inv.made(I:Inv X pins σ H s):Inv X pins σ (upd (upd H s.heap.objs.size (.own (s.heap.objs.size+1))) (s.heap.objs.size+1) (.ins C s.heap.objs.size [])) {s with heap:=(s.heap.push b9).push (cZ C s.heap.objs.size)}:=by
 have c:(s.heap.push b9).get? s.heap.objs.size=some b9:=Heap.get?_push_size s.heap rfl;have h:((s.heap.push b9).push (cZ C s.heap.objs.size)).get? (s.heap.objs.size+1)=some (cZ C s.heap.objs.size):=by have:=Heap.get?_push_size (s.heap.push b9) (o:=cZ C s.heap.objs.size) rfl;rwa [Heap.size_push]at this
 have g:(s.heap.push b9).Ns s.heap.objs.size (λ_=>none):=⟨b9,#[],_,c,rfl,(λe he=>absurd he (by simp)),λ_=>rfl⟩;have i:=I.laid (a:=s.heap.objs.size) (o:=.own (s.heap.objs.size+1)) (h':=s.heap.push b9) (t':=s.toks) (λb u q=>Heap.get?_push_of_some _ q) (Nat.le_refl _) ⟨_,c⟩;refine i.laid (a:=s.heap.objs.size+1) (o:=.ins C s.heap.objs.size []) (t':=s.toks) (λb u q=>Heap.get?_push_of_some _ q) (Nat.le_of_eq (Heap.size_push _ _)) ?_;have ne:s.heap.objs.size≠s.heap.objs.size+1:=Nat.ne_of_lt (Nat.lt_succ_self _);refine⟨by rw[Zf ne,Zd],Nat.zero_le _,ne,h,λ_=>none,(Heap.Ns1.of_empty g).at λo q=>Heap.get?_push_of_some _ q,λ_=>bH,λy d=>absurd rfl d⟩
theorem SR        (c:fj e f env (eval e env)=eval e env)(h:wpAny (model prog w) A (eval e env) (λo b=>wpAny (model prog w) A (getAttr o f true) Q E b) E s):wpAny (model prog w) A (eval (.Attribute e f pos) env) Q E s:=Attribute_any_ h (by rw[arm_eval_Attribute,c])
end
noncomputable def w6(K:ae)(ta:TE)(f:Str):TE:=λσ H Q=>ta σ H λx H1=>∃a C dx fs v,x=.ref a/\H1 a=some (.ins C dx fs)/\qH K C/\XA K C f/\fs.lookup f=some v/\Q v H1
noncomputable def ug(K:ae)(ta tv:TE)(f:Str):TS:=λD σ H=>tv σ H λy H1=>ta σ H1 λx H2=>∃a C dx fs,x=.ref a/\H2 a=some (.ins C dx fs)/\qH K C/\XA K C f/\fs.length<1000 /\D.nx σ (upd H2 a (.ins C dx (jB f y fs)))
section
variable {X:Cx}{o e value:Expr}{f:Str}{pos pos' wN:Pos}{ta tv:TE}
theorem Yi(he:PE X e ta)(g:fj e f X.env (eval e X.env)=eval e X.env):PE X (.Attribute e f pos) (w6 X.K ta f):=by intro pins s σ H Q I h;refine SR g (hU (he pins s σ H _ I h) λu s1 hZ=>?_);obtain⟨x,H1,p,b,a,C,w,fs,v,ex,i,c,n,l,q⟩:=hZ;subst ex;obtain rfl:u=Value.ref a:=b;exact Rl p i c n l λr s2 j d=>⟨v,H1,j,d,q⟩
theorem Y8(r:PE X o ta)(j:PE X value tv)(p:gw value (some (.Attribute o f pos')) pos.line X.env=pure false):PS X (.Assign [.Attribute o f pos'] value pos) (ug X.K ta tv f):=by intro pins s σ H D I h;refine plainObj_wpAny_Assign_Attribute (hU (j pins s σ H _ I h) λu s1⟨y,H1,A,b,q⟩=>hU (r pins s1 σ H1 _ A q) λi s2 hZ=>?_) p;obtain⟨x,E,z,d,a,C,B,fs,ex,v,c,n,l,g⟩:=hZ;subst ex;obtain rfl:i=Value.ref a:=d;exact QM z v c n l b λs3 w=>⟨σ,_,w,g⟩
theorem Ez          (he:PE X e te)(I:Inv X pins σ H s)
  (h:te σ H λx H1=>∃a C d fs g,x=.ref a/\H1 a=some (.ins C d fs)/\qH X.K C/\Meth X.K C m g/\fs.lookup m=none /\
   ∀s1,Inv X pins σ H1 s1->wpAny (model X.prog X.w) X.A (iL pos (.ref g) [.ref a] (cy pos (aH args X.env)) (fB pos (dq [] X.env))) Q X.xe s1)
  (n:eval (.Call (.Attribute e m apos) args [] pos) X.env=(do
   let b <-eval e X.env
   iS apos.atName
   let (f,first) <-fT [b] (gy b m pl)
   iL pos f first (cy pos (aH args X.env)) (fB pos (dq [] X.env)))):
  wpAny (model X.prog X.w) X.A (eval (.Call (.Attribute e m apos) args [] pos) X.env) Q X.xe s:=by
 refine ft (pl:=pl) (hU (he pins s σ H _ I h) λu s1 hZ=>?_) n;obtain⟨x,H1,i,j,a,C,d,fs,g,ex,p,c,k,l,q⟩:=hZ
 subst ex
 obtain rfl:u=Value.ref a:=j
 exact VL i p c k l (q s1 i)
end
section
variable {X:Cx}{pins:List (Addr×Obj)}{σ:St}{H:Hp}{s:ai}{A:bh}{E:Value->ai->Prop}{Q:Value->ai->Prop}{c:Value}{b:Bool}
inductive mG(K:ae)(H:Hp):V->Value->Prop where
|non:mG K H .non (.type "NoneType")
|bl (x:Bool):mG K H (.bl x) (.type "bool")
|int (i:Int):mG K H (.int i) (.type "int")
|str (x:Str):mG K H (.str x) (.type "str")
|uE (x:UInt64):mG K H (.uE x) (.type "float")
|lst {a:Addr}{xs:List V} (e:H a=some (.lst xs)):mG K H (.ref a) (.type "list")
|lG {a:Addr}{o:Obj}{xs:List V} (e:H a=some (.lG o (.lst xs))):mG K H (.ref a) (.type "list")
|tup {a:Addr}{xs:List V} (e:H a=some (.tup xs)):mG K H (.ref a) (.type "tuple")
|dK {a:Addr}{f5:List (Key×V)} (e:H a=some (.dK f5)):mG K H (.ref a) (.type "dict")
|dT {a:Addr}{f5:List (List Key×V)} (e:H a=some (.dT f5)):mG K H (.ref a) (.type "dict")
|ins {a C dx:Addr}{fs:List (Str×V)} (e:H a=some (.ins C dx fs)) (cl:qH K C) (ha:aD K (.ref C) "__class__"=some (some (.builtin "object.__class__")))
   (hn:fg K (.builtin "object.__class__") "__get__"=some (some (.builtin "getset_descriptor.__get__"))) (Bm:iW K (.builtin "object.__class__")=some true)
   (hm:df K C (.type "object")=some true):mG K H (.ref a) (.ref C)
theorem TU  (I:Inv X pins σ H s)(d:RelV x u)(ty:mG X.K H x t)(e:az X.K t c=some b)(h:∀v,Q (.bool b) {s with toks:=v}):wpAny (model X.prog X.w) A (call (.builtin "isinstance") [u,c]) Q E s:=by
 cases ty with
|non=>cases(show u=Value.none from d);exact bR PySem.W.kitx_none I.kT bH e (λz=>nomatch z) h
|bl y=>cases(show u=Value.bool y from d);exact bR PySem.W.kitx_bool I.kT bH e (λz=>nomatch z) h
|int i=>obtain⟨t,q⟩:=(show ∃t,u=Value.int i t from d);cases q;exact bR PySem.W.kitx_int I.kT bH e (λz=>nomatch z) h
|str y=>obtain⟨t,q⟩:=(show ∃t,u=Value.str y t from d);cases q;exact bR PySem.W.kitx_str I.kT bH e (λz=>nomatch z) h
|uE y=>obtain⟨t,q⟩:=(show ∃t,u=Value.float y t from d);cases q;exact bR PySem.W.kitx_float I.kT bH e (λz=>nomatch z) h
|@lst a xs f=>cases(show u=Value.ref a from d);obtain⟨_,_,n,_,g⟩:=(show ZW X.prog X.w H s.heap a (.lst xs)from I.hL a _ f);exact bR iB I.kT ⟨_,g,rfl⟩ e (λz=>nomatch z) h
|@lG a B xs f=>cases(show u=Value.ref a from d);obtain⟨_,_,_,n,_,g⟩:=(show ZW X.prog X.w H s.heap a (.lG B (.lst xs))from I.hL a _ f);exact bR iB I.kT ⟨_,g,rfl⟩ e (λz=>nomatch z) h
|@tup a xs f=>cases(show u=Value.ref a from d);obtain⟨_,_,_,p⟩:=(show ZW X.prog X.w H s.heap a (.tup xs)from I.hL a _ f);obtain⟨o,g,l,_⟩:=p;exact bR PySem.W.kitx_tuple I.kT ⟨o,g,l⟩ e (λz=>nomatch z) h
|@dK a j f=>cases(show u=Value.ref a from d);obtain⟨_,_,vs,_,p⟩:=(show ZW X.prog X.w H s.heap a (.dK j)from I.hL a _ f);obtain⟨o,G,L,g,l,_⟩:=p;exact bR iC I.kT ⟨o,g,l.1⟩ e (λz=>nomatch z) h
|@dT a j f=>cases(show u=Value.ref a from d);obtain⟨_,_,xs,_,o,G,L,g,l,_⟩:=(show ZW X.prog X.w H s.heap a (.dT j)from I.hL a _ f);exact bR iC I.kT ⟨o,g,l.1⟩ e (λz=>nomatch z) h
|@ins a C M fs f cl F D r hm=>cases(show u=Value.ref a from d);obtain⟨mA,O,_⟩:=Gs I.hL f;obtain⟨od,J,_⟩:=O.look;exact bR (PySem.W.kitx_own (cl.get _) cl.hd F D r hm) I.kT J e (λz=>nomatch z) h
end
open PySem PySem.Spec PyProof.Rows
structure jw(k:Nat)(A:bh):Prop where
 hd:A.handled=none
 dp:A.depth+3*k+5<recursionLimit
 un:A.units+16*k+200<cLine
 gd:A.guards=some []
theorem jw.mono{j k:Nat}(r:jw k A)(h:j<=k):jw j A:=⟨r.hd,by have:=r.dp;omega,by have:=r.un;omega,r.gd⟩
theorem jw.deeper{k:Nat}(r:jw (k+1) A)(env:Env):jw k (A.deeper env):=⟨r.hd,by have:=r.dp;show A.depth+1+3*k+5<_;omega,by have:=r.un;show A.units+3+16*k+200<_;omega,r.gd⟩
theorem Ra{A:bh}{us:List Value}{kw:List (Str×Value)}:(A.under (.builtin "type.__call__" ⟨.ref C::us,kw⟩)).depth=A.depth+1:=by first|rfl|simp[iG,Code.weight,Code.isCreation,Code.isGuard,Code.isCaller,Code.frames,Code.isFrame,guardIds]
theorem Q9{A:bh}{us:List Value}{kw:List (Str×Value)}:(A.under (.builtin "type.__call__" ⟨.ref C::us,kw⟩)).units=A.units+1:=by first|rfl|simp[iG,Code.cUnits,Code.frames,Code.isFrame]
theorem P2{A:bh}{us:List Value}{kw:List (Str×Value)}:(A.under (.builtin "type.__call__" ⟨.ref C::us,kw⟩)).guards=A.guards:=by first|rfl|simp[iG,Code.guards,Code.isGuard,pushGuards,guardIds]
theorem jw.make{k:Nat}(r:jw (k+1) A)(C:Addr)(us:List Value)(kw:List (Str×Value)):jw k (A.under (.builtin "type.__call__" ⟨.ref C::us,kw⟩)):=⟨r.hd,by have:=r.dp;rw[Ra];omega,by have:=r.un;rw[Q9];omega,by rw[P2];exact r.gd⟩
theorem jw.depth{k:Nat}(r:jw k A):A.depth<recursionLimit:=by have:=r.dp;omega
theorem jw.units{k:Nat}(r:jw k A):A.units+64<cLine:=by have:=r.un;omega
noncomputable def jn:TA:=λ_ H Q=>Q [] H
noncomputable def Y7(ta:TE)(tr:TA):TA:=λσ H Q=>ta σ H λx H1=>tr σ H1 λxs H2=>Q (x::xs) H2
section
variable {X:Cx}{e:Expr}{es:List Expr}{te:TE}{t:TA}{pos:Pos}
theorem Zl:PA X [] jn:=λ_ _ _ _ H Q I h=>Calls.spliced_nil ⟨[],H,I,.nil,h⟩
theorem Zi(i:PE X e te)(g:PA X es t)(f:aH (e::es) X.env=(false,eval e X.env)::aH es X.env:=by rfl):PA X (e::es) (Y7 te t):=by intro pos pins s σ H Q I h;rw[f];show wpAny _ _ (spliced ((false,eval e X.env)::cy pos (aH es X.env))) _ _ s;refine iD (hU (i pins s σ H _ I h) λu s1 hZ=>?_);obtain⟨x,H1,l,b,d⟩:=hZ;exact hU (g pos pins s1 σ H1 _ l d) λus s2⟨xs,n,j,a,c⟩=>⟨x::xs,n,j,.cons b a,c⟩
noncomputable def vf(t:TA):TE:=λσ H Q=>t σ H λxs H1=>xs.length<=sizeLine/\∀p,H1 p=none->Q (.ref p) (upd H1 p (.tup xs))
noncomputable def vg(t:TA):TE:=λσ H Q=>t σ H λxs H1=>xs.length<=sizeLine/\∀p,H1 p=none->Q (.ref p) (upd H1 p (.lst xs))
theorem Zx{c}(h:PA X es t):PE X (.Tuple es c pos) (vf t):=by intro pins s σ H Q I d;refine wpAny_Tuple_spliced (hU (h pos pins s σ H _ I d) λus s1⟨xs,H1,a,r,z,q⟩=>⟨by rw[<-r.length];exact z,?_⟩);have hf:H1 s1.heap.objs.size=none:=a.hL.fresh (Nat.le_refl _);refine⟨.ref s1.heap.objs.size,upd H1 s1.heap.objs.size (.tup xs),a.laid (t':=s1.toks) (λb u e=>Heap.get?_push_of_some _ e) (Nat.le_refl _) ?_,rfl,q _ hf⟩;exact⟨z,us,r,⟨_,Heap.get?_push_size _ rfl,rfl,_,rfl⟩⟩
theorem ZD(h:PA X es t):PE X (.List es pos) (vg t):=by intro pins s σ H Q I c;refine wpAny_List_spliced (hU (h pos pins s σ H _ I c) λus s1⟨xs,H1,a,r,z,q⟩=>⟨by rw[<-r.length];exact z,?_⟩);have hf:H1 s1.heap.objs.size=none:=a.hL.fresh (Nat.le_refl _);refine⟨.ref s1.heap.objs.size,upd H1 s1.heap.objs.size (.lst xs),a.laid (t':=s1.toks) (λb u e=>Heap.get?_push_of_some _ e) (Nat.le_refl _) ?_,rfl,q _ hf⟩;exact⟨z,us,0,r,Heap.get?_push_size _ rfl⟩
end
noncomputable abbrev Sp:=List V->Hp->VK->XK->Prop
noncomputable abbrev qf:=List Env->Hp->ai->XK->Value->ai->Prop
structure qG(P:Program)(w:World)(K:ae)(mg:Str->Option Value)(base:Heap)(A:bh)(outer:List Env)(s:ai)(H:Hp):Prop where
 frames:A.frames=some outer
 mod:Mod K mg base
 bs:∀b o,base.get? b=some o->s.heap.get? b=some o/\H b=none
 r9:base.objs.size<=s.heap.objs.size
 mF:s.heap.FunFrames base outer
 sI:∀b∈l_ outer,H b=none
 hL:k6 P w H s.heap
 bare:gm s.gens
noncomputable def CE(outer:List Env)(P:Program)(w:World)(H:Hp)(s:ai)(Q:VK)(u:Value)(s':ai):Prop:=∃v H',s'.os=s.os/\gm s'.gens/\Un (l_ outer) [] H H' s.heap s'.heap/\k6 P w H' s'.heap/\RelV v u/\Q v H'
noncomputable def CR(CX:qf)(outer:List Env)(P:Program)(w:World)(H:Hp)(s:ai)(Q:VK)(E:XK)(r:Result)(s':ai):Prop:=match r with
|.ok (.ret u)=>CE outer P w H s Q u s'
|.ok _=>False
|.error e=>CX outer H s E e s'
structure jR(P:Program)(w:World)(K:ae)(mg:Str->Option Value)(base:Heap)(CX:qf)(k:Nat)(f:Addr)(fd:dk)(ps:List Str)(sp:Sp):Prop where
 len:∀vs H Q E,sp vs H Q E->vs.length=ps.length
 run:∀(A:bh)(outer:List Env)(s:ai)(H:Hp)(args:Args)(us:List Value)(vs:List V)(Q:VK)(E:XK),jw k A->qG P w K mg base A outer s H->BindsTo s fd args (ps.zip us)->Vals vs us->sp vs H Q E ->
  gO (model P w) A (.call (.ref f) args) (CR CX outer P w H s Q E) s
theorem qG.make{P:Program}{w:World}{K:ae}{mg:Str->Option Value}{base:Heap}{A:bh}{outer:List Env}{s:ai}{H:Hp}(e:qG P w K mg base A outer s H)(C:Addr)(us:List Value)(kw:List (Str×Value)):qG P w K mg base (A.under (.builtin "type.__call__" ⟨.ref C::us,kw⟩)) outer s H:=⟨by first|exact e.frames|(simpa[iG,Code.envs,Code.isFrame,pushEnvs]using e.frames),e.mod,e.bs,e.r9,e.mF,e.sI,e.hL,e.bare⟩
section
variable {X:Cx}{pins:List (Addr×Obj)}{σ:St}{H:Hp}{s s':ai}
theorem Inv.tE(I:Inv X pins σ H s):qG X.prog X.w X.K X.mg X.base X.A X.stack s H:=⟨I.ok.frames,I.ok.mod,I.bs,Nat.le_trans I.ok.r9 I.sz,I.stack,I.mW,I.hL,I.bare⟩
theorem Inv.after  (I:Inv X pins σ H s)(h:CE X.stack X.prog X.w H s Q u s'):EP X pins σ Q u s':=by obtain⟨v,H',os,bare,un,c,r,q⟩:=h;obtain⟨e,g,d,t,a⟩:=s';obtain rfl:a=s.os:=os;exact⟨v,H',I.call (h':=e) (g':=g) (d':=d) (t':=t) (ch:=[]) un c bare (λb z=>absurd z (by simp)),r,q⟩
end
noncomputable def MN(sp:Sp)(dvs:List V)(E:XK)(t:TA):TE:=λσ H Q=>t σ H λvs H1=>sp (vs++dvs) H1 Q E
noncomputable def Pf(C:Addr)(m:Str)(sp:Sp)(dvs:List V)(E:XK)(ta:TE)(t:TA):TE:=λσ H Q=>ta σ H λx H1=>∃a dx fs,x=.ref a/\H1 a=some (.ins C dx fs)/\fs.lookup m=none /\t σ H1 λvs H2=>sp (x::(vs++dvs)) H2 Q E
noncomputable def HM(C:Addr)(sp:Sp)(dvs:List V)(E:XK)(t:TA):TE:=λσ H Q=>t σ H λvs H1=>∀x dx,H1 x=none->H1 dx=none->dx≠x ->sp (.ref x::(vs++dvs)) (upd (upd H1 dx (.own x)) x (.ins C dx [])) (λv H2=>v=.non/\Q (.ref x) H2) E
noncomputable def Binds(K:ae)(fd:dk)(ps:List Str)(ds:List Value):Prop:=∀(s:ai)(us:List Value),K.In s.heap->(us++ds).length=ps.length->BindsTo s fd ⟨us,[]⟩ (ps.zip (us++ds))
theorem Binds.all{K:ae}{fd:dk}{ps:List Str}(h:∀us:List Value,us.length=ps.length->bindArgs fd ⟨us,[]⟩=pure (ps.zip us)):Binds K fd ps []:=λs us _ a=>by rw[ba]at a ⊢;exact .of_eq (h us a)
noncomputable def Passes(CX:qf)(X:Cx)(E:XK):Prop:=∀(pins:List (Addr×Obj))(σ:St)(H:Hp)(s:ai)(e:Value)(s':ai),Inv X pins σ H s->CX X.stack H s E e s'->X.xe e s'
section
variable {X:Cx}{CX:qf}{k:Nat}{f C:Addr}{fd:dk}{ps:List Str}{sp:Sp}{dvs:List V}{ds:List Value}{E:XK}{x m:Str}{p pos apos:Pos}{e o:Expr}{es:List Expr}{ta:TE}{t:TA}
theorem ND       (F:jR X.prog X.w X.K X.mg X.base CX k f fd ps sp)(d:jw k X.A)(i:Binds X.K fd ps ds)(hd:Vals dvs ds)(c:Passes CX X E)(I:Inv X pins σ H s)(r:Vals vs us)(h:sp (vs++dvs) H Q E):wpAny (model X.prog X.w) X.A (call (.ref f) us) (EP X pins σ Q) X.xe s:=by
 have b:Vals (vs++dvs) (us++ds):=r.append hd;have g:(us++ds).length=ps.length:=by rw[<-b.length];exact F.len _ _ _ _ h
 refine fM (gn (F.run X.A X.stack s H ⟨us,[]⟩ (us++ds) (vs++dvs) Q E d I.tE (i s us I.kT g) b h) λr s' a=>?_);cases r with
|error e=>exact c pins σ H s e s' I a
|ok j=>
  cases j with
 |ret u=>exact I.after a
 |next=>exact False.elim a
 |brk=>exact False.elim a
 |cont=>exact False.elim a
theorem Dr(F:jR X.prog X.w X.K X.mg X.base CX k f fd ps sp)(g:jw k X.A)(i:Gl X x)(hm:X.mg x=some (.ref f))(hk:a7 X.K (.ref f)=true)(j:Binds X.K fd ps ds)(hd:Vals dvs ds)(d:Passes CX X E)(l:PA X (e::es) t)(b:(x==("__debug__":Str))=false:=by decide)(he:aH (e::es) X.env=(false,eval e X.env)::aH es X.env:=by rfl)(a:(cy pos (aH es X.env)).any (·.1)=false:=by rfl):PE X (.Call (.Name x p) (e::es) [] pos) (MN sp dvs E t):=by intro pins s σ H Q I h;refine dS (JJ I i hm ?_ b);refine dC (h₀:=X.base) I.ok.mod.tX hk (hU (l pos pins s σ H _ I h) λus s1⟨vs,H1,c,r,q⟩=>⟨c.kT,?_⟩) he a;exact ND F g j hd d c r q
theorem Dp (he:PE X o ta)(c:qH X.K C)(hm:Meth X.K C m f)(F:jR X.prog X.w X.K X.mg X.base CX k f fd ps sp)(B:jw k X.A)(D:Binds X.K fd ps ds)(hd:Vals dvs ds)(y:Passes CX X E)(G:PA X (e::es) t)
  (b:aH (e::es) X.env=(false,eval e X.env)::aH es X.env:=by rfl) (d:(cy pos (aH es X.env)).any (·.1)=false:=by rfl)
  (z:eval (.Call (.Attribute o m apos) (e::es) [] pos) X.env=(do
   let g <-eval o X.env
   iS apos.atName
   let (f,first) <-fT [g] (gy g m pl)
   iL pos f first (cy pos (aH (e::es) X.env)) (fB pos (dq [] X.env))):=by rfl):
  PE X (.Call (.Attribute o m apos) (e::es) [] pos) (Pf C m sp dvs E ta t):=by
 intro pins s σ H Q I h
 refine ft (pl:=pl) (hU (he pins s σ H _ I h) λu s1 hZ=>?_) z;obtain⟨x,H1,j,n,a,L,fs,ex,J,l,q⟩:=hZ
 subst ex
 obtain rfl:u=Value.ref a:=n
 refine VL j J c hm l ?_
 refine dC (first:=[.ref a]) (h₀:=X.base) I.ok.mod.tX hm.kp (hU (G pos pins s1 σ H1 _ j q) λus s2⟨vs,M,i,r,v⟩=>⟨i.kT,?_⟩) b d
 exact ND (us:=.ref a::us) (vs:=.ref a::vs) F B D hd y i (.cons rfl r) v
theorem Ky (he:PE X o ta)(c:qH X.K C)(hm:Meth X.K C m f)(F:jR X.prog X.w X.K X.mg X.base CX k f fd ps sp)(n:jw k X.A)(r:Binds X.K fd ps ds)(hd:Vals dvs ds)(i:Passes CX X E)
  (j:eval (.Call (.Attribute o m apos) [] [] pos) X.env=(do
   let d <-eval o X.env
   iS apos.atName
   let (f,first) <-fT [d] (gy d m pl)
   iL pos f first (cy pos (aH [] X.env)) (fB pos (dq [] X.env))):=by rfl):
  PE X (.Call (.Attribute o m apos) [] [] pos) (Pf C m sp dvs E ta jn):=by
 intro pins s σ H Q I h
 refine ft (pl:=pl) (hU (he pins s σ H _ I h) λu s1 hZ=>?_) j;obtain⟨x,H1,b,g,a,y,fs,ex,v,l,q⟩:=hZ
 subst ex
 obtain rfl:u=Value.ref a:=g
 refine VL b v c hm l ?_
 exact PySem.W.callWith_K0 (first:=[.ref a]) b.kT hm.kp (ND (us:=[.ref a]) (vs:=[.ref a]) F n r hd i b (.cons rfl .nil) q)
structure Mk(K:ae)(C f:Addr):Prop where
 makes:gF K C=true
 init:aD K (.ref C) "__init__"=some (some (.ref f))
 fn:fK K (.ref f)=true
 kp:a7 K (.ref C)=true
theorem Kd    {Q:VK} (M:Mk X.K C f)(F:jR X.prog X.w X.K X.mg X.base CX k f fd ps sp)(n:jw (k+1) X.A)(y:Binds X.K fd ps ds)(hd:Vals dvs ds)(l:Passes CX X E)(I:Inv X pins σ H s)(r:Vals vs us)(h:∀x b,H x=none->H b=none->b≠x->sp (.ref x::(vs++dvs)) (upd (upd H b (.own x)) x (.ins C b [])) (λv D=>v=.non/\Q (.ref x) D) E):wpAny (model X.prog X.w) X.A (call (.ref C) us) (EP X pins σ Q) X.xe s:=by
 have g:=h (s.heap.objs.size+1) s.heap.objs.size (I.hL.fresh (Nat.le_succ _)) (I.hL.fresh (Nat.le_refl _)) (Nat.ne_of_lt (Nat.lt_succ_self _));have c:=Inv.made (C:=C) I;have d:Vals (V.ref (s.heap.objs.size+1)::(vs++dvs)) (Value.ref (s.heap.objs.size+1)::(us++ds)):=.cons rfl (r.append hd);have q:(Value.ref (s.heap.objs.size+1)::us++ds).length=ps.length:=by have e:=d.length;rw[F.len _ _ _ _ g]at e;exact e.symm
 refine fM (K0 (f:=f) I.kT M.makes M.init (beq_iff_eq.mp M.fn) (gn (F.run _ X.stack _ _ ⟨Value.ref (s.heap.objs.size+1)::us,[]⟩ (Value.ref (s.heap.objs.size+1)::(us++ds)) _ _ E (n.make C us []) (c.tE.make C us []) (y _ (Value.ref (s.heap.objs.size+1)::us) c.kT q) d g) λr s' a=>?_));cases r with
|error e=>exact l pins σ _ _ e s' c a
|ok z=>
  cases z with
 |ret u=>obtain⟨v,H',B,i,ev,j⟩:=c.after a;subst ev;exact⟨i,⟨V.ref (s.heap.objs.size+1),H',B,rfl,j⟩⟩
 |next=>exact False.elim a
 |brk=>exact False.elim a
 |cont=>exact False.elim a
theorem V2(M:Mk X.K C f)(F:jR X.prog X.w X.K X.mg X.base CX k f fd ps sp)(g:jw (k+1) X.A)(i:Gl X x)(hm:X.mg x=some (.ref C))(j:Binds X.K fd ps ds)(hd:Vals dvs ds)(d:Passes CX X E)(l:PA X (e::es) t)(b:(x==("__debug__":Str))=false:=by decide)(he:aH (e::es) X.env=(false,eval e X.env)::aH es X.env:=by rfl)(a:(cy pos (aH es X.env)).any (·.1)=false:=by rfl):PE X (.Call (.Name x p) (e::es) [] pos) (HM C sp dvs E t):=by intro pins s σ H Q I h;refine dS (JJ I i hm ?_ b);refine dC (h₀:=X.base) I.ok.mod.tX M.kp (hU (l pos pins s σ H _ I h) λus s1⟨vs,H1,c,r,q⟩=>⟨c.kT,?_⟩) he a;exact Kd M F g j hd d c r q
end
structure fx(N P:List Str)(sc:Scope):Prop where
 kind:sc.kind=.function
 co:sc.isCoroutine=false
 gen:sc.isGenerator=false
 nd:N.Nodup
 pre:N.take P.length=P
 par:∀x∈P,sc.names.lookup x=some .local\/sc.names.lookup x=some .cell
 uk:∀y∈sc.names,y.2≠.free
theorem Nh{kindOf:Str->Option eM}{x:Str}:∀{binds:List (Str×Value)}{m:Str->Option Value},(∀v,(x,v)∉binds)->bindL kindOf binds m x=m x
|[],_,_=>rfl
|(n,v)::r,m,h=>by
  unfold bindL;rw[Nh λw hw=>h w (ar _ hw)];split
  .have:x≠n:=by rintro rfl;exact h v ay
   simp[this]
  .rfl
theorem Nj{kindOf:Str->Option eM}{x:Str}:∀{binds:List (Str×Value)}{m:Str->Option Value},(∀v,(x,v)∉binds)->bindC kindOf binds m x=m x
|[],_,_=>rfl
|(n,v)::r,m,h=>by
  unfold bindC;rw[Nj λw hw=>h w (ar _ hw)];split
  .rfl
  .have:x≠n:=by rintro rfl;exact h v ay
   simp[this]
theorem Ni{kindOf:Str->Option eM}{x:Str}{v:Value}:∀{P:List Str}{vs:List Value}{i:Nat}{m:Str->Option Value},P.Nodup->P[i]?=some x->vs[i]?=some v->kindOf x=some .local ->bindL kindOf (P.zip vs) m x=some v
|[],_,_,_,_,h,_,_=>by simp at h
|_::_,[],_,_,_,_,h,_=>by simp at h
|p::P,w::vs,0,m,c,b,a,hk=>by simp at b a;subst b;subst a;show bindL kindOf ((p,w)::P.zip vs) m p=_;unfold bindL;rw[Nh λv d=>(bf.mp c).1 (gW d).1,if_pos hk];simp
|p::P,w::vs,i+1,m,c,b,a,hk=>by show bindL kindOf ((p,w)::P.zip vs) m x=_;unfold bindL;exact Ni (i:=i) (bf.mp c).2 (by simpa using b) (by simpa using a) hk
theorem Nk{kindOf:Str->Option eM}{x:Str}{v:Value}:∀{P:List Str}{vs:List Value}{i:Nat}{m:Str->Option Value},P.Nodup->P[i]?=some x->vs[i]?=some v->kindOf x≠some .local ->bindC kindOf (P.zip vs) m x=some v
|[],_,_,_,_,h,_,_=>by simp at h
|_::_,[],_,_,_,_,h,_=>by simp at h
|p::P,w::vs,0,m,c,b,a,hk=>by simp at b a;subst b;subst a;show bindC kindOf ((p,w)::P.zip vs) m p=_;unfold bindC;rw[Nj λv d=>(bf.mp c).1 (gW d).1,if_neg hk];simp
|p::P,w::vs,i+1,m,c,b,a,hk=>by show bindC kindOf ((p,w)::P.zip vs) m x=_;unfold bindC;exact Nk (i:=i) (bf.mp c).2 (by simpa using b) (by simpa using a) hk
noncomputable def start(N:List Str)(vs:List V):St:=vs.map some++List.replicate (N.length-vs.length) none
noncomputable def lY(CX:qf)(P:Program)(w:World)(K:ae)(mg:Str->Option Value)(base:Heap)(N:List Str)(qual:Str)(scope:Scope)(f:Addr)(cd:Value)(A:bh)(outer:List Env)(s:ai)(H:Hp)(E:XK):Cx where
 prog:=P
 w:=w
 K:=K
 mg:=mg
 base:=base
 A:=A.deeper (d_ qual scope s.heap.objs.size f cd)
 N:=N
 jW:=s
 pF:=H
 env:=d_ qual scope s.heap.objs.size f cd
 outer:=outer
 stack:=d_ qual scope s.heap.objs.size f cd::outer
 ex:=[]
 calm:=true
 fn:=λ_=>true
 pn:=[]
 xe:=λe s'=>wpAny (model P w) (A.deeper (d_ qual scope s.heap.objs.size f cd)) (leaving (d_ qual scope s.heap.objs.size f cd) e) (λ_ xt=>CX outer H s E e xt) (λe' xt=>CX outer H s E e' xt) s'
theorem Qp{sc:Scope}{n:Nat}(h:sc.names.lookup x=some .cell):∃c,(cellsFrom n sc.names []).lookup x=some c:=by have q:=PySem.W.cellsFrom_some sc.names n [] (.inl h);exact bw.mp q
theorem TV{CX:qf}{P:Program}{w:World}{K:ae}{mg:Str->Option Value}{base:Heap}{N ps:List Str}{qual:Str}{scope:Scope}{f:Addr}{cd:Value}{A:bh}{outer:List Env}{s s1:ai}{H:Hp}{E:XK}{us:List Value}{vs:List V}(S:fx N ps scope)(hd:A.handled=none)(g:qG P w K mg base A outer s H)(L:vs.length=ps.length)(r:Vals vs us)(x:InCallC s s.heap.objs.size (bindL (d_ qual scope s.heap.objs.size f cd).kindOf (ps.zip us) λ_=>none) (cellsFrom (s.heap.objs.size+1) scope.names []) (bindC (d_ qual scope s.heap.objs.size f cd).kindOf (ps.zip us) λ_=>none) s1):Inv (lY CX P w K mg base N qual scope f cd A outer s H E) [] (start N vs) H s1:=by
 have I:ps.length<=N.length:=by have:=congrArg gu S.pre;rw[aN]at this;omega
 obtain⟨C,J,rfl,hk⟩:=x.done;have j:∀b:Addr,b∉(lY CX P w K mg base N qual scope f cd A outer s H E).ex:=λb z=>absurd (show b∈([]:List Addr)from z) (by simp);refine⟨⟨g.mod,S.kind,rfl,rfl,Nat.le_refl _,λy z c C d=>?_,λy hy=>?_,λy c _ h=>?_,λ_=>hd,Around.frames_deeper g.frames,.inr ⟨rfl,rfl⟩,λb z=>absurd z (j b),g.bs,g.r9,λb _ _=>j b,λb z=>absurd z (j b),g.mF,g.sI⟩,rfl,g.bare,Un.kept hk,⟨_,x.toInCall.ns,λi y v C d M=>?_⟩,λy c h=>⟨_,x.cell y c h⟩,g.hL.fresh (Nat.le_refl _),λy c h=>?_,λp l=>absurd (show p∈([]:List (Addr×Obj))from l) (by simp),g.hL.kept hk,?_⟩
 .exact name_of_addr x.apart (di C) (di d)
 .have hy:scope.names.lookup y=some .cell\/scope.names.lookup y=some .free:=hy;rcases hy with hy|hy
  .exact Qp hy
  .exact absurd rfl (S.uk _ (di hy))
 .exact Nat.le_of_lt (x.above y c (di h))
 .have B:i<vs.length:=by
   unfold start at d;by_cases B:i<vs.length
   .exact B
   .rw[cg (by simpa using B)]at d;rw[List.getElem?_replicate]at d;split at d<;>cases d
  have G:vs[i]?=some v:=by
   unfold start at d;rw[cu (by simpa using B),aY]at d;cases e:vs[i]? with
  |none=>rw[e]at d;cases d
  |some a=>rw[e]at d;cases d;rfl
  obtain⟨u,D,F⟩:=r.get G;have l:ps[i]?=some y:=by rw[<-S.pre,gC (by omega)];exact C
  have o:ps.Nodup:=by rw[<-S.pre];exact S.nd.sublist (List.take_sublist _ _)
  refine⟨u,F,?_⟩;rcases S.par y (aK l)with k|k
  .exact .inl ⟨k,Ni o l D k⟩
  .obtain⟨c,e⟩:=Qp (n:=s.heap.objs.size+1) k;refine .inr ⟨.inl k,c,e,?_⟩;have q:=x.cell y c e;rw[Nk o l D (by show scope.names.lookup y≠_;rw[k];decide)]at q;exact q
 .exact g.hL.fresh (Nat.le_of_lt (x.above y c (di h)))
 .unfold start;show _=N.length;rw[aq,bU,List.length_replicate];omega
theorem EH   {K:ae} {k:Nat}    {C kV doc pm a ct F:Value}{an od:Option Addr}{z:Array (Option Value)}{sp:Sp}(lk:K.lookup f=some ⟨F,od,.func (bB name qual params body scope C kV doc pm an a ct),z⟩)(B:cz K a qual=true)(S:fx N ps scope)(len:∀vs H Q E,sp vs H Q E->vs.length=ps.length)(g:∀(A:bh)(outer:List Env)(s:ai)(H:Hp)(vs:List V)(Q:VK)(E:XK),jw k (A.deeper (d_ qual scope s.heap.objs.size f a))->sp vs H Q E ->∃t,oJ (lY CX P w K mg base N qual scope f a A outer s H E) body t/\t {nx:=λ_ H'=>Q .non H',rt:=Q} (start N vs) H):jR P w K mg base CX (k+1) f (bB name qual params body scope C kV doc pm an a ct) ps sp:=by
 refine⟨len,λA outer s H args us vs Q E p i R r j=>?_⟩;have O:=len _ _ _ _ j;have D:K.In s.heap:=i.mod.tX.keeps λb o e=>(i.bs b o e).1;have lim:s.heap.NoLimit:=i.mod.nolimit.keeps λb o e=>(i.bs b o e).1;have d:∀y∈ps.zip us,scope.names.lookup y.1=some .local\/(scope.names.lookup y.1=some .cell/\((cellsFrom (s.heap.objs.size+1) scope.names []).lookup y.1).isSome=true):=λ⟨n,v⟩G=>by
  rcases S.par n (gW G).1 with q|q
  .exact .inl q
  .exact .inr ⟨q,PySem.W.cellsFrom_some _ _ _ (.inl q)⟩
 refine codeAny_call_function p.depth (D _ _ lk) rfl S.co S.gen rfl (PySem.W.codeRec_of D B) (R _ _ _ _ ?_);refine wpAny_newFunctionEnv_cells S.kind d λenv he s1 x=>?_;subst he;refine⟨lim.keeps x.toInCall.keep,codeAny_func ?_⟩;obtain⟨t,L,M⟩:=g A outer s H vs Q E (p.deeper _) j;have I:Inv (lY CX P w K mg base N qual scope f a A outer s H E) [] (start N vs) H s1:=TV S p.hd i O r x;refine cj (L [] s1 (start N vs) H _ I M) (λT s' h=>?_) λe s' h=>h;have fin:∀{c:St}{H':Hp}{v:V}{u:Value},Inv (lY CX P w K mg base N qual scope f a A outer s H E) [] c H' s'->RelV v u->Q v H'->CE outer P w H s Q u s':=λ{c H' v u}J l q=>⟨v,H',J.os,J.bare,J.base,J.hL,l,q⟩;cases T with
|ret u=>obtain⟨v,c,H',J,l,q⟩:=h;exact fin J l q
|next=>obtain⟨c,H',J,q⟩:=h;exact fin (v:=V.non) (u:=Value.none) J rfl q
|brk=>obtain⟨_,_,_,q⟩:=h;exact False.elim q
|cont=>obtain⟨_,_,_,q⟩:=h;exact False.elim q
open PySem PySem.Spec PyProof.Rows
section
variable {X:Cx}{x:Str}{p pos:Pos}{e:Expr}{es:List Expr}{t:TA}{id T:String}{r:List V->Hp->VK->Prop}
noncomputable def xf(r:List V->Hp->VK->Prop)(t:TA):TE:=λσ H Q=>t σ H λvs H1=>r vs H1 Q
theorem Zw(j:Xf X (.builtin id) r)(i:Gl X x)(hm:X.mg x=none)(f:bJ x=some (.builtin id))(l:PA X (e::es) t)(g:x≠"__name__":=by decide)(b:(x==("__debug__":Str))=false:=by decide)(he:aH (e::es) X.env=(false,eval e X.env)::aH es X.env:=by rfl)(a:(cy pos (aH es X.env)).any (·.1)=false:=by rfl):PE X (.Call (.Name x p) (e::es) [] pos) (xf r t):=by intro pins s σ H Q I h;refine dS (JK I i hm f ?_ g b);exact PyProof.Rows.callWith_builtin1 (hU (l pos pins s σ H _ I h) λus s1⟨vs,H1,n,c,d⟩=>j pins s1 σ H1 vs us Q n c d) he a
theorem Yg(j:Xf X (.type T) r)(i:Gl X x)(hm:X.mg x=none)(f:bJ x=some (.type T))(l:PA X (e::es) t)(g:x≠"__name__":=by decide)(b:(x==("__debug__":Str))=false:=by decide)(he:aH (e::es) X.env=(false,eval e X.env)::aH es X.env:=by rfl)(a:(cy pos (aH es X.env)).any (·.1)=false:=by rfl):PE X (.Call (.Name x p) (e::es) [] pos) (xf r t):=by intro pins s σ H Q I h;refine dS (JK I i hm f ?_ g b);exact bI (hU (l pos pins s σ H _ I h) λus s1⟨vs,H1,n,c,d⟩=>j pins s1 σ H1 vs us Q n c d) he a
end
end L2
namespace HT
open PySem PyProof.Rows
section
variable {prog:Program}{w:World}{A:bh}{E:Value->ai->Prop}{s:ai}
theorem tJ {vs ws:List Value}{Q:Value->ai->Prop}(q:IsTup s.heap t vs.toArray)(r:IsTup s.heap b ws.toArray)(j:vs≠[])(v:ws=[]->Q (.ref t) s)(u:ws≠[]->Q (.ref s.heap.objs.size) {s with heap:=s.heap.push {cls:=.type "tuple",data:=.seq (vs++ws).toArray}})(hsz:vs.length+ws.length<=sizeLine):wpAny (model prog w) A (eI .Add (.ref t) (.ref b)) Q E s:=by
 obtain⟨⟨cls,o,data,h⟩,g,l,n,hd⟩:=id q;obtain⟨⟨p,f,data2,c⟩,a,d,i,hd2⟩:=id r;simp only at l hd d hd2;subst l hd d hd2;have e:vs.toArray++ws.toArray=(vs++ws).toArray:=by simp
 by_cases hw:ws=[]
 .exact concat_meets ⟨_,g,rfl⟩ ⟨_,a,rfl⟩ noFill_tuple_add seq_tuple_add gD gv (gi _ _) (tuple_addW1 t b vs.toArray ws.toArray n i o f h c (by simpa using j) (by simp[hw])) ⟨g,a,v hw⟩
 .refine concat_meets ⟨_,g,rfl⟩ ⟨_,a,rfl⟩ noFill_tuple_add seq_tuple_add gD gv (gi _ _) (tuple_addW2 t b vs.toArray ws.toArray n i o f h c (by simpa using j) (by simpa using hw) (by rw[aw,aw];exact hsz)) ⟨g,a,?_⟩;rw[e];exact u hw
noncomputable def jH(n d:Nat):Option Int->Nat
|none=>d
|some v=>if v<0 then(v+(n:Int)).toNat else min v.toNat n
theorem qL(n d k:Nat):jH n d (some (k:Int))=min k n:=by show(if(k:Int)<0 then((k:Int)+(n:Int)).toNat else min (k:Int).toNat n)=min k n;rw[if_neg (by omega),Int.toNat_natCast]
theorem E5(n d:Nat)(hd:d<=n)(o:Option Int):jH n d o<=n:=by
 cases o with
|none=>exact hd
|some v=>
  show(if v<0 then(v+(n:Int)).toNat else min v.toNat n)<=n;by_cases a:v<0
  .rw[if_pos a];omega
  .rw[if_neg a];exact Nat.min_le_right _ _
theorem SQ(v:Int)(n d:Nat):(if v<0 then max (v+(n:Int)) 0 else min v (n:Int))=((jH n d (some v):Nat):Int):=by
 show(if v<0 then max (v+(n:Int)) 0 else min v (n:Int))=(((if v<0 then(v+(n:Int)).toNat else min v.toNat n):Nat):Int);by_cases a:v<0
 .simp only[if_pos a];omega
 .simp only[if_neg a];omega
theorem RL(lo a:Option Int)(n:Nat):fF lo a 1 (n:Int)=(((jH n 0 lo:Nat):Int),((jH n n a:Nat):Int)):=by
 have b:¬((1:Int)<0):=by omega
 unfold fF;simp only[b,if_false];refine fG ?_ ?_
 .cases lo with
 |none=>rfl
 |some v=>exact SQ v n 0
 .cases a with
 |none=>rfl
 |some v=>exact SQ v n n
theorem QX(i j:Nat):dN (i:Int) (j:Int) 1=j-i:=by
 unfold dN;have a:(1:Int)>0:=by omega
 simp only[a,if_true,Int.ediv_one];split<;>omega
theorem GO  {Q:Option Int->ai->Prop}(p:iK v o)(h:Q o s):wpAny (model prog w) A (Builtin.Slice.slicePartIndex v) Q E s:=by
 cases p with
|none=>exact slicePart_none h
|int i t=>exact slicePart_int h
theorem Jj{f:Addr}{e d:Value}{lo a:Option Int}{n:Nat}{Q:Int×Int×Nat->ai->Prop}(g:s.heap.IsSliceOf f e d .none)(pl:iK e lo)(pu:iK d a)(h:Q (((jH n 0 lo:Nat):Int),1,jH n n a-jH n 0 lo) s):wpAny (model prog w) A (iF (.ref f) (pure (n:Int))) Q E s:=by
 obtain⟨os,b,i,c⟩:=id g;unfold iF Builtin.Slice.sliceFields;refine aa (aa (cw b c (x:=e) rfl (aa (cw b c (x:=d) rfl (aa (cw b c (x:=.none) rfl (ah ?_)))))));refine aa (slicePart_none ?_);show wpAny _ _ (if((1:Int)==0)=true then _ else _) _ _ s;rw[if_neg (by decide)];refine aa (GO pl (aa (GO pu (aa (ah ?_)))));show wpAny _ _ (match fF lo a 1 (n:Int)with|(lo,a)=>pure (lo,(1:Int),dN lo a 1)) _ _ s
 rw[RL lo a n];show wpAny _ _ (pure (((jH n 0 lo:Nat):Int),(1:Int),dN ((jH n 0 lo:Nat):Int) ((jH n n a:Nat):Int) 1)) _ _ s;rw[QX];exact ah h
theorem Kx(xs:Array Value)(i k:Nat):((a_ k).filterMap λ(m:Nat)=>xs[((i:Int)+(m:Int)*1).toNat]?).toArray=((xs.toList.drop i).take k).toArray:=by
 have e:(λ(m:Nat)=>xs[((i:Int)+(m:Int)*1).toNat]?)=λm=>xs[i+m]?:=by
  funext m;have:((i:Int)+(m:Int)*1).toNat=i+m:=by omega
  rw[this]
 rw[e];have:=pick_run xs i k;rw[List.filterMap_map]at this;have a:((λx=>xs[x]?) ∘ λx=>i+x)=λm=>xs[i+m]?:=rfl;rw[a]at this;rw[this]
theorem m_{t d:Addr}{items:Array Value}{l j:Value}{lo b:Option Int}{Q:Value->ai->Prop}(c:IsTup s.heap t items)(n:s.heap.IsSliceOf d l j .none)(pl:iK l lo)(pu:iK j b)(hw:¬(jH items.size 0 lo=0/\jH items.size items.size b=items.size))(h:Q (.ref s.heap.objs.size) {s with heap:=s.heap.push {cls:=.type "tuple",data:=.seq ((items.toList.drop (jH items.size 0 lo)).take (jH items.size items.size b-jH items.size 0 lo)).toArray}})(hsz:items.size<=sizeLine):wpAny (model prog w) A (fU (.ref t) (.ref d)) Q E s:=by
 have a:sizeOk (.seq ((items.toList.drop (jH items.size 0 lo)).take (jH items.size items.size b-jH items.size 0 lo)).toArray):=by show((items.toList.drop (jH items.size 0 lo)).take (jH items.size items.size b-jH items.size 0 lo)).toArray.size<=sizeLine;rw[aw,aN,fz,bX];omega
 have u:jH items.size items.size b<=items.size:=E5 _ _ (Nat.le_refl _) b;obtain⟨os,e,g,o⟩:=id n;have i:s.TypeIs (.ref d) "slice":=⟨os,e,g⟩;unfold fU;try with_reducible refine aU ?_
 first|refine aa (ah ?_)|skip
 refine aa (gP c.typeIs (by decide) ?_);refine aa (bp (name:=Str.ofString "__getitem__") c.typeIs bL (bF bL c.typeIs entry_tuple_getitem ?_ (args_tuple_getitem _ _)));show wpAny _ _ (iE (.ref t) >>= _) _ _ s;refine aa (tupleItemsOf_ c ?_);refine aa (fC i ?_);rw[if_pos (by decide)];refine aa (Jj n pl pu ?_);have f:¬((((jH items.size 0 lo:Nat):Int)==0&&(1:Int)==1&&(jH items.size items.size b-jH items.size 0 lo)==items.size)=true):=by intro q;rw[Bool.and_eq_true,Bool.and_eq_true]at q;have r:((jH items.size 0 lo:Nat):Int)=0:=eq_of_beq q.1.1;have p:jH items.size items.size b-jH items.size 0 lo=items.size:=eq_of_beq q.2;exact hw ⟨by omega,by omega⟩
 show wpAny _ _ (if(((jH items.size 0 lo:Nat):Int)==0&&(1:Int)==1&&(jH items.size items.size b-jH items.size 0 lo)==items.size)=true then _ else _) _ _ s;rw[if_neg f,Kx];first
 |exact aa (m:=dW _) (bS (ah ⟨_,rfl,ah h⟩) a)
 |exact aa (m:=dW _) (bS (aa (ah (ah ⟨_,rfl,ah h⟩))) a)
 |exact aa (aa (m:=dW _) (bS (ah (ah ⟨_,rfl,ah h⟩)) a))
 |exact aa (aa (m:=dW _) (bS (ah ⟨_,rfl,ah h⟩) a))
end
end HT
namespace L2
open PySem PySem.Spec PyProof.Rows
noncomputable abbrev TO:=St->Hp->(Option Int->Hp->Prop)->Prop
noncomputable def PO(X:Cx)(e:Option Expr)(t:TO):Prop:=∀(pins:List (Addr×Obj))(s:ai)(σ:St)(H:Hp)(Q:Option Int->Hp->Prop),Inv X pins σ H s->t σ H Q ->wpAny (model X.prog X.w) X.A (evalPart e X.env) (λu s'=>∃o H',Inv X pins σ H' s'/\iK u o/\Q o H') X.xe s
noncomputable def Gb:TO:=λ_ H Q=>Q none H
noncomputable def WN(t:TE):TO:=λσ H Q=>t σ H λx H1=>∃i,x=.int i/\Q (some i) H1
theorem intsAre_of{ns:List Int}:∀{us:List Value},Vals (ns.map V.int) us->IntsAre us ns:=by
 induction ns with
|nil=>intro us r;rw[fo]at r;cases r;exact .nil
|cons n ns c=>
  intro us r;rw[aA]at r;cases r with
 |cons b a=>obtain⟨t,e⟩:=b;subst e;exact .cons n t (c a)
section
variable {X:Cx}{e:Expr}{te:TE}{lo hi:Option Expr}{tl th:TO}{pos p2:Pos}
theorem Z4:PO X none Gb:=by intro pins s σ H Q I h;rw[evalPart_none];exact ah ⟨none,H,I,.none,h⟩
theorem Z3(h:PE X e te):PO X (some e) (WN te):=by intro pins s σ H Q I hw;rw[evalPart_some];refine hU (h pins s σ H _ I hw) λu s1 hZ=>?_;obtain⟨x,H1,c,a,b⟩:=hZ;obtain⟨i,rfl,q⟩:=b;obtain⟨t,rfl⟩:=a;exact⟨some i,H1,c,.int i t,q⟩
noncomputable def vM(X:Cx)(r:V->Option Int->Option Int->Hp->VK->Prop):Prop:=∀(pins:List (Addr×Obj))(s:ai)(σ:St)(H:Hp)(x:V)(v vl vu:Value)(lo hi:Option Int)(sl:Addr)(Q:VK),Inv X pins σ H s->RelV x v->s.heap.IsSliceOf sl vl vu .none->iK vl lo->iK vu hi->r x lo hi H Q ->∃T id,typeLookup (.type T) "__getitem__"=pure (some (.builtin id))/\s.TypeIs v T/\wpAny (model X.prog X.w) X.A (fU v (.ref sl)) (EP X pins σ Q) X.xe s
noncomputable def wQ(r:V->Option Int->Option Int->Hp->VK->Prop)(te:TE)(tl th:TO):TE:=λσ H Q=>te σ H λx H1=>tl σ H1 λl H2=>th σ H2 λu H3=>r x l u H3 Q
theorem ZQ (p:vM X r)(he:PE X e te)(y:PO X lo tl)(n:PO X hi th):PE X (.Subscript e (.Slice lo hi none p2) pos) (wQ r te tl th):=by intro pins s σ H Q I h;refine Subscript_ (hU (he pins s σ H _ I h) λv s1 hZ=>?_);obtain⟨x,H1,F,f,j⟩:=hZ;refine wpAny_Slice (hU (y pins s1 σ H1 _ F j) λc s2⟨l,G,E,pl,i⟩=>hU (n pins s2 σ G _ E i) λa s3 hZ=>?_);obtain⟨u,d,D,pu,g⟩:=hZ;rw[evalPart_none];refine ah ?_;have C:Inv X pins σ d {s3 with heap:=s3.heap.push {cls:=.type "slice",data:=.fields #[c,a,.none]}}:=D.kept (t':=s3.toks) λb J q=>Heap.get?_push_of_some _ q;obtain⟨T,id,B,o,z⟩:=p pins {s3 with heap:=s3.heap.push {cls:=.type "slice",data:=.fields #[c,a,.none]}} σ d x v c a l u s3.heap.objs.size Q C f (Heap.IsSliceOf.new ..) pl pu g;show wpAny (model X.prog X.w) X.A (i6 e (.Slice lo hi none p2) v (.ref s3.heap.objs.size)) (EP X pins σ Q) X.xe {s3 with heap:=s3.heap.push {cls:=.type "slice",data:=.fields #[c,a,.none]}};exact tail_any (ops:=[.ref s3.heap.objs.size,v]) o B z (by with_unfolding_all rfl)
noncomputable def jT(xs:List V)(lo hi:Option Int):List V:=(xs.drop (HT.jH xs.length 0 lo)).take (HT.jH xs.length xs.length hi-HT.jH xs.length 0 lo)
theorem Xx(xs:List V)(lo hi:Option Int):(jT xs lo hi).length<=xs.length:=by unfold jT;rw[aN,fz];omega
noncomputable def rR(K:ae):V->Option Int->Option Int->Hp->VK->Prop:=λx lo hi H Q=>∃a xs,x=.ref a/\hO K H a xs /\¬(HT.jH xs.length 0 lo=0/\HT.jH xs.length xs.length hi=xs.length)/\∀p,H p=none->Q (.ref p) (upd H p (.tup (jT xs lo hi)))
theorem GP:vM X (rR X.K):=by
 intro pins s σ H x v l j lo hi n Q I f i pl pu h;obtain⟨a,xs,rfl,g,hw,q⟩:=h;cases f;obtain⟨c,r,d,hz⟩:=I.tuple g;have hlen:c.toArray.size=xs.length:=by rw[aw];exact r.length.symm
 refine⟨"tuple",_,bL.lookup,d.typeIs,?_⟩;refine HT.m_ d i pl pu (by rw[hlen];exact hw) ?_ (by rw[hlen];exact hz);rw[hlen];refine⟨.ref s.heap.objs.size,_,I.laid (t':=s.toks) (o:=.tup (jT xs lo hi)) (λb p q=>Heap.get?_push_of_some _ q) (Nat.le_refl _) ?_,rfl,q _ (I.hL.fresh (Nat.le_refl _))⟩;exact⟨Nat.le_trans (Xx xs lo hi) hz,_,(r.drop (HT.jH xs.length 0 lo)).take (HT.jH xs.length xs.length hi-HT.jH xs.length 0 lo),IsTup.new _ _⟩
noncomputable def Ae(K:ae):R2:=λx y H Q=>∃a b xs ys,x=.ref a/\y=.ref b/\hO K H a xs/\hO K H b ys/\xs≠[]/\xs.length+ys.length<=sizeLine /\(ys=[]->Q (.ref a) H)/\(ys≠[]->∀p,H p=none->Q (.ref p) (upd H p (.tup (xs++ys))))
theorem Vals.ow  (r:Vals xs us):us=[]↔xs=[]:=by
 cases r with
|nil=>simp
|cons _ _=>simp
theorem Dt:lV X (eI .Add) (Ae X.K):=by intro pins s σ H x y v u Q I j i h;obtain⟨a,b,xs,g,rfl,rfl,A,r,p,hz,n,l⟩:=h;cases j;cases i;obtain⟨B,d,p1,_⟩:=I.tuple A;obtain⟨f,c,p2,_⟩:=I.tuple r;refine HT.tJ p1 p2 (λz=>p (d.ow.mp z)) (λz=>⟨.ref a,H,I,rfl,n (c.ow.mp z)⟩) (λz=>?_) (by rw[<-d.length,<-c.length];exact hz);refine⟨.ref s.heap.objs.size,_,I.laid (t':=s.toks) (o:=.tup (xs++g)) (λb C q=>Heap.get?_push_of_some _ q) (Nat.le_refl _) ?_,rfl,l (λw=>z (c.ow.mpr w)) _ (I.hL.fresh (Nat.le_refl _))⟩;exact⟨by rw[aq];exact hz,_,d.append c,IsTup.new _ _⟩
end
open PySem PySem.Spec PyProof.Rows
noncomputable def sH(n:Nat)(i:Int):Option Nat:=if 0<=i then(if i<n then some i.toNat else none)else if -(n:Int)<=i then some (i+n).toNat else none
noncomputable def kZ{α:Type}(xs:List α)(i:Int):Option α:=(sH xs.length i).bind λj=>xs[j]?
theorem SH{n:Nat}{i:Int}{j:Nat}(h:sH n i=some j):seqIndex? i n=some j/\j<n/\-(n:Int)<=i/\i<n:=by
 unfold sH at h;by_cases h0:0<=i
 .rw[if_pos h0]at h;by_cases a:i<n
  .rw[if_pos a]at h;have e:i.toNat=j:=ax h;exact⟨by rw[seqIndex_of h0 a,e],by omega,by omega,a⟩
  .rw[if_neg a]at h;cases h
 .rw[if_neg h0]at h;by_cases a:-(n:Int)<=i
  .rw[if_pos a]at h;have e:(i+n).toNat=j:=ax h;exact⟨by rw[seqIndex_neg (by omega) a,e],by omega,a,by omega⟩
  .rw[if_neg a]at h;cases h
theorem Pa{α:Type}{xs:List α}{i:Int}{v:α}(h:kZ xs i=some v):∃j,seqIndex? i xs.length=some j/\xs[j]?=some v/\j<xs.length/\-(xs.length:Int)<=i/\i<xs.length:=by
 unfold kZ at h;cases e:sH xs.length i with
|none=>rw[e]at h;cases h
|some j=>rw[e]at h;obtain⟨d,c,b,a⟩:=SH e;exact⟨j,d,h,c,b,a⟩
theorem Zj{α:Type}{xs:List α}{j:Nat}{v:α}(h:xs[j]?=some v):kZ xs (j:Int)=some v:=by
 have a:j<xs.length:=(aj.mp h).1;have e:sH xs.length (j:Int)=some j:=by unfold sH;rw[if_pos (by omega),if_pos (by omega)];simp
 unfold kZ;rw[e];exact h
noncomputable def Pc(b:Expr):Prop:=∀o i,subscripted b false o i=operate [o,i] (fU o i)
noncomputable def vX(X:Cx)(r:R2):Prop:=∀(value slice:Expr)(pins:List (Addr×Obj))(s:ai)(σ:St)(H:Hp)(x y:V)(v u:Value)(Q:VK),Inv X pins σ H s->RelV x v->RelV y u->r x y H Q ->subscripted slice false v u=operate [v,u] (fU v u)->wpAny (model X.prog X.w) X.A (i6 value slice v u) (EP X pins σ Q) X.xe s
noncomputable def zz(X:Cx)(id:String)(r:V->List V->Hp->VK->Prop):Prop:=∀(pins:List (Addr×Obj))(s:ai)(σ:St)(H:Hp)(x:V)(xs:List V)(v:Value)(us:List Value)(Q:VK),Inv X pins σ H s->RelV x v->Vals xs us->r x xs H Q ->wpAny (model X.prog X.w) X.A (call (.builtin id) (v::us)) (EP X pins σ Q) X.xe s
section
variable {X:Cx}{a b:Expr}{ta tb:TE}{pos:Pos}
theorem Yn (f:vX X r)(i:PE X a ta)(g:PE X b tb)(e:Pc b):PE X (.Subscript a b pos) (rF r ta tb):=by intro pins s σ H Q I h;exact Subscript_ (uI i g I h λv u s2 x y l j d c q=>f a b pins s2 σ l x y v u Q j d c q (e _ _))
noncomputable def sX(K:ae):R2:=λx y H Q=>∃p xs i v,x=.ref p/\y=.int i/\gp K H p xs/\kZ xs i=some v/\Q v H
noncomputable def sW(K:ae):R2:=λx y H Q=>∃p xs i v,x=.ref p/\y=.int i/\hO K H p xs/\kZ xs i=some v/\Q v H
noncomputable def xx:R2:=λx y H Q=>∃z i c,x=.str z/\y=.int i/\z.length<=sizeLine/\kZ z.cps.toList i=some c/\Q (.str ⟨#[c]⟩) H
theorem DQ:vX X (sX X.K):=by
 intro value slice pins s σ H x y v u Q I o n h g;obtain⟨p,xs,i,z,rfl,rfl,A,he,q⟩:=h;cases o;obtain⟨t,rfl⟩:=n;obtain⟨f,r,pl,hz⟩:=I.list A;obtain⟨j,c,E,G,D,C⟩:=Pa he;obtain⟨w,l,e⟩:=r.get E;have B:=r.length;have F:=J5;have fin:EP X pins σ Q w s:=⟨z,H,I,e,q⟩;by_cases h0:0<=i
 .have d:i.toNat=j:=by rw[seqIndex_of h0 C]at c;exact ax c
  exact item_listR pl.isList h0 (by omega) (by rw[d];simpa using l) fin g
 .have d:(i+(f.toArray.size:Int)).toNat=j:=by rw[seqIndex_neg (by omega) D]at c;rw[aw,<-B];exact ax c
  exact subscriptTail_builtinR (x:=w) pl.isList.typeIs slot_list_getitem.lookup (wpAny_getItem_list_neg (Q:=λr s'=>r=w/\EP X pins σ Q r s') pl.isList (by omega) (by rw[aw]<;>omega) (by omega) (by rw[d];simpa using l) ⟨rfl,fin⟩) g
theorem Yj:vX X (sW X.K):=by intro value slice pins s σ H x y v u Q I e d h f;obtain⟨p,xs,i,z,rfl,rfl,g,he,q⟩:=h;cases e;obtain⟨t,rfl⟩:=d;obtain⟨B,r,pl,hz⟩:=I.tuple g;obtain⟨j,o,n,F,E,D⟩:=Pa he;obtain⟨w,A,c⟩:=r.get n;have l:=r.length;have C:=J5;have fin:EP X pins σ Q w s:=⟨z,H,I,c,q⟩;exact subscriptTail_builtinR (x:=w) pl.typeIs bL.lookup (getItem_tuple (j:=j) (Q:=λr s'=>r=w/\EP X pins σ Q r s') pl (by omega) (by omega) (by rw[aw,<-l];exact o) (by simpa using A) ⟨rfl,fin⟩) f
theorem NX:vX X xx:=by
 intro value slice pins s σ H x y v u Q I f e h g;obtain⟨z,i,c,rfl,rfl,hz,he,q⟩:=h;obtain⟨t,rfl⟩:=f;obtain⟨t',rfl⟩:=e;obtain⟨j,d,p,B,o,n⟩:=Pa he;have l:z.cps.toList.length=z.length:=by simp[Str.length]
 rw[l]at d o n;have A:=J5;exact tail_any (typeIs_str s z t) slot_str_getitem.lookup (getItem_str (c:=c) (by have w:decide (i < -(2 ^ 63:Int))=false:=decide_eq_false (by omega);have r:decide (i >= 2 ^ 63)=false:=decide_eq_false (by omega);rw[w,r,Bool.or_false]) (by rw[d];simpa using p) ⟨.str ⟨#[c]⟩,H,I.tok _,⟨_,rfl⟩,q⟩) g
theorem Q8(c:List Value)(n j:Nat)(u:Value):Obj.mapSeq (·.setIfInBounds j u) {cls:=.type "list",data:=.seq c.toArray n}={cls:=.type "list",data:=.seq (c.set j u).toArray n}:=by simp[Obj.mapSeq]
theorem Inv.lst{pins:List (Addr×Obj)}{σ:St}{H:Hp}{s:ai}{p:Addr}{xs:List V}(I:Inv X pins σ H s)(h:H p=some (.lst xs)):∃(c:List Value)(n:Nat),Vals xs c/\s.heap.get? p=some {cls:=.type "list",data:=.seq c.toArray n}/\xs.length<=sizeLine:=by obtain⟨z,c,n,r,e⟩:=I.hL p _ h;exact⟨c,n,r,e,z⟩
theorem Inv.uq      {c its':List Value}{n d:Nat}{f:Obj->Obj}(I:Inv X pins σ H s)(h:H p=some (.lst xs))(i:s.heap.get? p=some {cls:=.type "list",data:=.seq c.toArray n})(hf:f {cls:=.type "list",data:=.seq c.toArray n}={cls:=.type "list",data:=.seq its'.toArray d})(r:Vals g its')(hz:g.length<=sizeLine)(t:Nat):Inv X pins σ (upd H p (.lst g)) {s with heap:=s.heap.update p f,toks:=t}:=by
 have e:(s.heap.update p f).get? p=some {cls:=.type "list",data:=.seq its'.toArray d}:=by rw[Heap.get?_update_self f i (by rw[hf]<;>rfl),hf]
 refine I.write (x:=p) (e:=p) (by rw[h];trivial) (.inl rfl) (λb u j q=>(Heap.get?_update_other _ _ (bK j)).trans q) ⟨_,e⟩ ?_;exact⟨hz,its',d,r,e⟩
noncomputable def Ac:V->V->V->Hp->(Hp->Prop)->Prop:=λo i v H Q=>∃p xs k j,o=.ref p/\i=.int k/\H p=some (.lst xs)/\sH xs.length k=some j/\Q (upd H p (.lst (xs.set j v)))
theorem set_list:vN X Ac:=by
 intro pins s σ H o i v C D u Q I z A y h;obtain⟨p,xs,k,j,rfl,rfl,g,B,q⟩:=h;cases z;obtain⟨t,rfl⟩:=A;obtain⟨c,n,r,e,hz⟩:=I.lst g;obtain⟨d,F,w,l⟩:=SH B;have f:=r.length;have E:=J5;have x:Inv X pins σ (upd H p (.lst (xs.set j v))) {s with heap:=s.heap.update p (Obj.mapSeq (·.setIfInBounds j u))}:=I.uq g e (Q8 c n j u) (r.set y j) (by rw[List.length_set];exact hz) s.toks;by_cases h0:0<=k
 .have hk:k.toNat=j:=by rw[seqIndex_of h0 l]at d;exact ax d
  exact PySem.W.ki_setAt e h0 (by omega) (by rw[aw,<-f];exact l) (by rw[hk];exact⟨_,x,q⟩)
 .have hk:(k+(c.toArray.size:Int)).toNat=j:=by rw[seqIndex_neg (by omega) w]at d;rw[aw,<-f];exact ax d
  exact PySem.W.ki_setBack e (by omega) (by rw[aw,<-f];exact w) (by omega) (by rw[hk];exact⟨_,x,q⟩)
theorem Nv(lo c:Option Int)(n:Nat):(eT lo c none n).1=((HT.jH n 0 lo:Nat):Int)/\(eT lo c none n).2.1=((HT.jH n n c:Nat):Int)/\(eT lo c none n).2.2=1:=by
 refine⟨?_,?_,rfl⟩
 .cases lo with
 |none=>simp[eT,HT.jH]
 |some i=>
   simp only[eT,HT.jH,Option.getD_none,show(1:Int)>0 by decide,if_true];by_cases h:i<0
   .simp only[h,if_true]<;>omega
   .simp only[h,if_false]<;>omega
 .cases c with
 |none=>simp[eT,HT.jH]
 |some i=>
   simp only[eT,HT.jH,Option.getD_none,show(1:Int)>0 by decide,if_true];by_cases h:i<0
   .simp only[h,if_true]<;>omega
   .simp only[h,if_false]<;>omega
theorem Mw(c:List Value)(lo d:Option Int):slicePick c.toArray lo d none=((c.drop (HT.jH c.length 0 lo)).take (HT.jH c.length c.length d-HT.jH c.length 0 lo)).toArray:=by obtain⟨g,f,e⟩:=Nv lo d c.toArray.size;unfold slicePick;rw[g,f,e];simp only[sliceRange_one,pick_run,aw]<;>rfl
noncomputable def oQ(K:ae):V->Option Int->Option Int->Hp->VK->Prop:=λx lo hi H Q=>∃a xs,x=.ref a/\gp K H a xs/\∀p,H p=none->Q (.ref p) (upd H p (.lst (jT xs lo hi)))
theorem X6:vM X (oQ X.K):=by intro pins s σ H x v l j lo c n Q I e g pl pu h;obtain⟨a,xs,rfl,f,q⟩:=h;cases e;obtain⟨i,r,d,hz⟩:=I.list f;have hlen:=r.length;refine⟨"list",_,slot_list_getitem.lookup,d.isList.typeIs,?_⟩;refine wpAny_getItem_list_slice d.isList g pl pu .none (by simp) ?_ (by rw[aw]<;>omega);rw[Mw,<-hlen];refine⟨.ref s.heap.objs.size,_,I.laid (t':=s.toks) (o:=.lst (jT xs lo c)) (λb p q=>Heap.get?_push_of_some _ q) (Nat.le_refl _) ?_,rfl,q _ (I.hL.fresh (Nat.le_refl _))⟩;exact⟨Nat.le_trans (Xx xs lo c) hz,_,0,(r.drop (HT.jH xs.length 0 lo)).take (HT.jH xs.length xs.length c-HT.jH xs.length 0 lo),Heap.get?_push_size _ rfl⟩
noncomputable def JX:V->Bool
|.non=>true
|.bl _=>true
|.int _=>true
|.str _=>true
|_=>false
noncomputable def rJ:V->V->Bool
|.non,.non=>true
|.bl a,.bl b=>a==b
|.bl a,.int b=>(if a then 1 else 0)==b
|.int a,.bl b=>a==(if b then 1 else 0)
|.int a,.int b=>a==b
|.str a,.str b=>a==b
|_,_=>false
theorem Hs    (d:RelV y u)(c:RelV x v)(f:JX y=true)(e:JX x=true):SeqAt.EqAt A s u v (rJ y x):=by
 cases y with
|non=>
  cases d;cases x with
 |non=>cases c;exact SeqAt.EqAt.same _
 |bl b=>cases c;exact SeqAt.EqAt.none_bool b
 |int b=>obtain⟨t,rfl⟩:=c;exact SeqAt.EqAt.none_int b t
 |str b=>obtain⟨t,rfl⟩:=c;exact SeqAt.EqAt.none_str b t
 |_=>exact absurd (show false=true from e) Bool.false_ne_true
|bl a=>
  cases d;cases x with
 |non=>cases c;exact SeqAt.EqAt.bool_none a
 |bl b=>cases c;exact SeqAt.EqAt.bool_bool a b
 |int b=>obtain⟨t,rfl⟩:=c;exact SeqAt.EqAt.bool_int a b t
 |str b=>obtain⟨t,rfl⟩:=c;exact SeqAt.EqAt.bool_str a b t
 |_=>exact absurd (show false=true from e) Bool.false_ne_true
|int a=>
  obtain⟨t',rfl⟩:=d;cases x with
 |non=>cases c;exact SeqAt.EqAt.int_none a t'
 |bl b=>cases c;exact SeqAt.EqAt.int_bool a t' b
 |int b=>obtain⟨t,rfl⟩:=c;exact SeqAt.EqAt.int_int a t' b t
 |str b=>obtain⟨t,rfl⟩:=c;exact SeqAt.EqAt.int_str a t' b t
 |_=>exact absurd (show false=true from e) Bool.false_ne_true
|str a=>
  obtain⟨t',rfl⟩:=d;cases x with
 |non=>cases c;exact SeqAt.EqAt.str_none a t'
 |bl b=>cases c;exact SeqAt.EqAt.str_bool a t' b
 |int b=>obtain⟨t,rfl⟩:=c;exact SeqAt.EqAt.str_int a t' b t
 |str b=>obtain⟨t,rfl⟩:=c;exact SeqAt.EqAt.str_str a t' b t
 |_=>exact absurd (show false=true from e) Bool.false_ne_true
|_=>exact absurd (show false=true from f) Bool.false_ne_true
theorem JU:Xf X (.builtin "len") (λxs H Q=>∃p c,xs=[.ref p]/\(gp X.K H p c\/hO X.K H p c)/\Q (.int c.length) H):=by
 intro pins s σ H xs us Q I r h;obtain⟨p,c,rfl,hq,q⟩:=h;obtain⟨u,rfl,f⟩:=vals1 r;cases f;have g:=J5;rcases hq with hq|hq
 .obtain⟨e,d,pl,hz⟩:=I.list hq;have hlen:=d.length;exact Calls.call_len_list pl.isList (by simp only[aw]<;>omega) ⟨.int c.length,H,I.tok _,⟨s.toks+1,by rw[aw,hlen]⟩,q⟩
 .obtain⟨e,d,pl,hz⟩:=I.tuple hq;have hlen:=d.length;exact len_tuple pl (by simp only[aw]<;>omega) ⟨.int c.length,H,I.tok _,⟨s.toks+1,by rw[aw,hlen]⟩,q⟩
theorem N7:Xf X (.builtin "len") (λxs H Q=>∃z,xs=[.str z]/\z.length<=sizeLine/\Q (.int z.length) H):=by intro pins s σ H xs us Q I r h;obtain⟨z,rfl,hz,q⟩:=h;obtain⟨u,rfl,t,rfl⟩:=vals1 r;have c:=J5;exact len_str (by omega) ⟨.int z.length,H,I.tok _,⟨_,rfl⟩,q⟩
theorem XM:Xf X (.type "list") (λxs H Q=>∃p d,xs=[.ref p]/\(gp X.K H p d\/hO X.K H p d)/\∀l,H l=none->Q (.ref l) (upd H l (.lst d))):=by
 intro pins s σ H xs us Q I r h;obtain⟨p,d,rfl,hq,q⟩:=h;obtain⟨u,rfl,y⟩:=vals1 r;cases y;have fin:∀(c:List Value),Vals d c->d.length<=sizeLine->∀(h':Heap)(g:Nat),(∀b x,s.heap.get? b=some x->h'.get? b=some x) ->h'.get? s.heap.objs.size=some {cls:=.type "list",dict:=none,data:=.seq c.toArray g,slots:=#[]}->EP X pins σ Q (.ref s.heap.objs.size) {s with heap:=h'}:=λc f hz h' g i e=>⟨.ref s.heap.objs.size,_,I.laid (t':=s.toks) i (Nat.le_refl _) (show ZW X.prog X.w _ h' _ (.lst d)from⟨hz,c,g,f,e⟩),rfl,q _ (I.hL.fresh (Nat.le_refl _))⟩;rcases hq with hq|hq
 .obtain⟨c,f,pl,hz⟩:=I.list hq;have hlen:=f.length;obtain⟨o,j,v,n,hd⟩:=pl.isList;exact call_list_seq p (.inl rfl) j v hd (λh' g i e=>fin c f hz h' g i e) (by simp only[aw]<;>omega)
 .obtain⟨c,f,pl,hz⟩:=I.tuple hq;have hlen:=f.length;obtain⟨o,j,v,n,hd⟩:=pl;exact call_list_seq p (.inr rfl) j v hd (λh' g i e=>fin c f hz h' g i e) (by simp only[aw]<;>omega)
theorem Jd:Xf X (.type "tuple") (λxs H Q=>∃p d,xs=[.ref p]/\((gp X.K H p d/\∀l,H l=none->Q (.ref l) (upd H l (.tup d)))\/(hO X.K H p d/\Q (.ref p) H))):=by
 intro pins s σ H xs us Q I r h;obtain⟨p,d,rfl,h⟩:=h;obtain⟨u,rfl,j⟩:=vals1 r;cases j;rcases h with⟨g,q⟩|⟨g,q⟩
 .obtain⟨c,f,pl,hz⟩:=I.list g;have hlen:=f.length;refine call_tuple_list pl.isList (λh' n=>?_) (by simp only[aw]<;>omega);have i:Inv X pins σ H {s with heap:=h'}:=I.kept (t':=s.toks) n;have v:Inv X pins σ (upd H h'.objs.size (.tup d)) {s with heap:=h'.push {cls:=.type "tuple",data:=.seq c.toArray}}:=i.laid (t':=s.toks) (λb o e=>Heap.get?_push_of_some _ e) (Nat.le_refl _) (show ZW X.prog X.w _ _ _ (.tup d)from⟨hz,c,f,IsTup.new _ _⟩);exact⟨.ref h'.objs.size,_,v,rfl,q _ (i.hL.fresh (Nat.le_refl _))⟩
 .obtain⟨c,f,pl,hz⟩:=I.tuple g;exact call_tuple_same pl ⟨.ref p,H,I,rfl,q⟩
noncomputable def zL(K:ae)(T:String)(x:V)(H:Hp):Prop:=match x with
|.str _=>T="str"
|.int _=>T="int"
|.ref p=>(T="list"/\∃xs,gp K H p xs)\/(T="tuple"/\∃o,K.lookup p=some o/\o.cls=.type "tuple"/\o.dict=none) \/(T="dict"/\((∃f5,H p=some (.dK f5))\/∃f5,H p=some (.dT f5)))\/(T="set"/\∃S n,H p=some (.set S n))
|_=>False
theorem ET       (I:Inv X pins σ H s)(r:RelV x v)(ty:zL X.K T x H):s.TypeIs v T/\∀a,v=.ref a->∃g,s.heap.get? a=some g/\g.dict=none:=by
 cases x with
|str z=>obtain⟨t,rfl⟩:=r;cases(show T="str" from ty);exact⟨typeIs_str s z t,λ_ e=>nomatch e⟩
|int i=>obtain⟨t,rfl⟩:=r;cases(show T="int" from ty);exact⟨typeIs_int s i t,λ_ e=>nomatch e⟩
|ref p=>
  cases r;rcases ty with⟨rfl,xs,h⟩|⟨rfl,o,hk,j,hd⟩|⟨rfl,hk⟩|⟨rfl,S,n,hk⟩
  .obtain⟨l,_,pl,_⟩:=I.list h;refine⟨pl.isList.typeIs,λa e=>?_⟩;cases e;obtain⟨o,n,e,c,hd,_⟩:=pl;exact⟨o,e,hd⟩
  .refine⟨⟨o,I.kT p o hk,j⟩,λa e=>?_⟩;cases e;exact⟨o,I.kT _ o hk,hd⟩
  .have z:∃o,s.heap.get? p=some o/\o.ExactDict:=by
    rcases hk with⟨f,hk⟩|⟨f,hk⟩
    .obtain⟨_,_,_,_,o,_,_,e,ex,_⟩:=I.hL p _ hk;exact⟨o,e,ex⟩
    .obtain⟨_,_,_,_,o,_,_,e,ex,_⟩:=I.hL p _ hk;exact⟨o,e,ex⟩
   obtain⟨o,e,ex⟩:=z;refine⟨⟨o,e,ex.1⟩,λa d=>?_⟩;cases d;exact⟨o,e,ex.2.1⟩
  .obtain⟨o,_,_,_,e,ex,_⟩:=I.hL p _ hk;refine⟨⟨o,e,ex.1⟩,λa d=>?_⟩;cases d;exact⟨o,e,ex.2.1⟩
|_=>exact False.elim ty
noncomputable def AE(K:ae)(T:String)(r:V->List V->Hp->VK->Prop)(to:TE)(t:TA):TE:=λσ H Q=>to σ H λx H1=>zL K T x H1/\t σ H1 λxs H2=>r x xs H2 Q
variable {o e:Expr}{es:List Expr}{to:TE}{t:TA}{name:Str}{apos jU:Pos}{T id:String}{r:V->List V->Hp->VK->Prop}
theorem Vx(w:PlainAttrs T)(slot:Slot T name id)(i:typeOf (.builtin id)=pure (.type "method_descriptor"))(hm:zz X id r)(z:PE X o to)(A:PA X (e::es) t)(f:fj o name X.env (eval o X.env)=eval o X.env:=by rfl)(g:((cy jU (aH (e::es) X.env)).all (λx=>!x.1)&&(fB jU (dq [] X.env)).all (λx=>x.1.isSome)&&decide ((e::es).length+([]:List iT).length+(if([]:List iT).isEmpty then 0 else 1)<30))=true:=by rfl)(d:(apos.endLine==jU.line)=true:=by rfl)(y:aH (e::es) X.env=(false,eval e X.env)::aH es X.env:=by rfl)(c:(cy jU (aH es X.env)).any (·.1)=false:=by rfl):PE X (.Call (.Attribute o name apos) (e::es) [] jU) (AE X.K T r to t):=by
 intro pins s σ H Q I h;refine wpAny_Call_method_late f g d rfl (hU (z pins s σ H _ I h) λv s1 hZ=>?_);obtain⟨x,H1,n,j,ty,u⟩:=hZ;obtain⟨C,B⟩:=ET n j ty;refine⟨T,id,w,slot,i,C,B,?_⟩;have l:=A jU pins s1 σ H1 _ n u;rw[y]at l ⊢;refine gN (by show(false||(cy jU (aH es X.env)).any (·.1))=false;rw[c]<;>rfl) (hW ?_)
 exact hU l λus s2⟨vs,E,D,p,q⟩=>hm pins s2 σ E x vs v us Q D j p q
end
open PySem PySem.Spec PyProof.Rows
noncomputable def zX(X:Cx)(id:String)(r:V->List V->Hp->VK->Prop):Prop:=∀(pins:List (Addr×Obj))(s:ai)(σ:St)(H:Hp)(x:V)(xs:List V)(v:Value)(us:List Value)(Q:VK),Inv X pins σ H s->RelV x v->Vals xs us->r x xs H Q ->wpAny (model X.prog X.w) X.A (call (.builtin id) (v::us)) (EP X pins σ Q) X.xe s
theorem Vals.one{x:V}{us:List Value}(h:Vals [x] us):∃u,us=[u]/\RelV x u:=by
 cases h with
|cons r t=>cases t;exact⟨_,rfl,r⟩
theorem Vals.zero:∀{us:List Value},Vals [] us->us=[]
|_,.nil=>rfl
theorem Vals.reverse  (h:Vals xs us):Vals xs.reverse us.reverse:=by
 induction h with
|nil=>exact .nil
|cons r t a=>rw[List.reverse_cons,List.reverse_cons];exact Vals.append a (.cons r .nil)
section
variable {X:Cx}{pins:List (Addr×Obj)}{σ:St}{H:Hp}{s:ai}{l b:Addr}{xs ys zs:List V}
theorem Inv.x6{a its':List Value}{n:Nat}{f:Array Value->Array Value}{t':Nat}(I:Inv X pins σ H s)(h:H l=some (.lst xs))(e:s.heap.get? l=some {cls:=.type "list",data:=.seq a.toArray n})(hf:f a.toArray=its'.toArray)(c:Vals ys its')(hz:ys.length<=sizeLine):Inv X pins σ (upd H l (.lst ys)) {s with heap:=s.heap.update l (Obj.mapSeq f),toks:=t'}:=by have q:=PySem.IsL.update e f;rw[hf]at q;refine I.write (x:=l) (e:=l) (by rw[h];exact trivial) (.inl rfl) (λi u g d=>(Heap.get?_update_other s.heap (Obj.mapSeq f) (bK g)).trans d) ⟨_,q⟩ ?_;exact⟨hz,its',_,c,q⟩
theorem Inv.x9 {t':Nat}(I:Inv X pins σ H s)(c:Vals ys a)(hz:ys.length<=sizeLine):Inv X pins σ (upd H s.heap.objs.size (.lst ys)) {s with heap:=s.heap.push {cls:=.type "list",data:=.seq a.toArray},toks:=t'}:=I.laid (λ_ _ q=>Heap.get?_push_of_some _ q) (Nat.le_refl _) ⟨hz,a,0,c,Heap.get?_push_size _ rfl⟩
theorem Inv.fresh(I:Inv X pins σ H s):H s.heap.objs.size=none:=I.hL.fresh (Nat.le_refl _)
theorem Inv.rV(I:Inv X pins σ H s)(c:H l=some (.lst xs)):xs.length<=sizeLine/\∃(a:List Value)(n:Nat),Vals xs a/\xs.length=a.length/\s.heap.get? l=some {cls:=.type "list",data:=.seq a.toArray n}:=by obtain⟨z,a,n,r,e⟩:=I.hL l _ c;exact⟨z,a,n,r,r.length,e⟩
end
section
variable {X:Cx}
noncomputable def Dh:V->List V->Hp->VK->Prop:=λx vs H Q=>∃l xs y,x=.ref l/\vs=[y]/\H l=some (.lst xs)/\xs.length<sizeLine/\Q .non (upd H l (.lst (xs++[y])))
theorem YS:zX X "list.append" Dh:=by intro pins s σ H x vs v us Q I c d h;obtain⟨l,xs,y,rfl,rfl,b,hz,q⟩:=h;cases c;obtain⟨u,rfl,f⟩:=d.one;obtain⟨z,a,n,r,g,e⟩:=I.rV b;refine call_meets F.slot_list_append ⟨_,e,rfl⟩ F.entry_list_append (F.args_list_append_2 _ _) (PySem.list_append l a.toArray n u (by rw[aw];omega)) ⟨e,?_⟩;refine⟨.non,_,I.x6 (its':=a++[u]) b e (by simp) (r.append (.cons f .nil)) ?_,rfl,q⟩;rw[aq,g7];omega
noncomputable def sY:R2:=λx y H Q=>∃l b xs zs,x=.ref l/\y=.ref b/\H l=some (.lst xs)/\H b=some (.lst zs)/\xs.length+zs.length<=sizeLine/\∀p,H p=none->Q (.ref p) (upd H p (.lst (xs++zs)))
theorem JG:lV X (eI .Add) sY:=by
 intro pins s σ H x y v u Q I f d h;obtain⟨l,b,xs,zs,rfl,rfl,i,j,hz,q⟩:=h;cases f;cases d;obtain⟨z,c,n,r,C,e⟩:=I.rV i;obtain⟨A,a,B,g,w,p⟩:=I.rV j;refine PySem.P.add_list e p ?_ (by rw[aw,aw];omega);have o:c.toArray++a.toArray=(c++a).toArray:=by simp
 rw[o];exact⟨.ref _,_,I.x9 (t':=s.toks) (r.append g) (by rw[aq];omega),rfl,q _ I.fresh⟩
end
end L2
namespace z5
open PySem PySem.W PySem.Calls PyProof.Rows
theorem U9  :∀(ns:List Int)(vs:List Value),WellAll P h vs (ns.map WData.int)->IntsAre vs ns:=by
 intro ns;induction ns with
|nil=>intro vs w;rw[fo]at w;cases w;exact .nil
|cons n ns c=>
  intro vs w;rw[aA]at w;cases w with
 |cons a b=>cases a;exact .cons _ _ (c _ b)
theorem Tg{l:OpenLaw}{n:Nat}(v:l.most=some n)(b:l.row.toRowW.claim.pre args=true)(g:WellAll P h vals args):∃a vs ns,vals=[Value.ref a]/\args=[WData.list (ns.map WData.int)]/\h.get? a=some {cls:=.type "list",data:=.seq vs.toArray}/\IntsAre vs ns/\ns.length<=n:=by
 have i:WShape.hasAll [] args [.list .int]=true:=(pre_splitW b).1;have j:l.pre.holds [] {args:=args}=true:=(pre_splitW b).2;obtain⟨d,r,rfl,y,x⟩:=hasAllW_cons i;obtain rfl:=hasAllW_nil x;obtain⟨xs,rfl,w⟩:=hasW_list y;obtain⟨ns,rfl⟩:=items_int w;have hlen:ns.length<=n:=by
  unfold OpenLaw.pre at j;have f:(WTm.not (.lt (.lit (.int (n:Int))) (.len (.arg 0)))).holds [] {args:=[.list (ns.map .int)]}=true:=by have f:=(holds_andW j).1;rw[v]at f;exact f
  have e:=condW_of f (w_not (w_lt w_lit (w_len_list (w_arg rfl))));rw[bU]at e;refine Nat.le_of_not_lt λq=>?_;have s:(n:Int)<((ns.length:Nat):Int):=by omega
  first
  |(rw[decide_eq_true s]at e;exact absurd e (by decide))
  |(simp at e;omega)
 cases g with
|cons p o=>
  cases o;cases p with
 |list u c=>exact⟨_,_,ns,rfl,rfl,u,U9 ns _ c,hlen⟩
theorem Ts(l:OpenLaw)(args:List WData):l.row.toRowW.claim.post args (.bool true) args=true:=postW_of (r:=l.row.toRowW) (X:=(true==true)) (show WShape.has [] (.bool true) .bool=true by first|rfl|decide|simp[WShape.has,WShape.arms,WShape.armsAll]) (show(WTm.eq .res (.lit (.bool true))).value [] {args:=args,res:=some (.bool true),after:=args}=some (.bool (true==true))from w_eq_bool (w_res rfl) w_lit) rfl
theorem pZ{l:OpenLaw}{n:Nat}  {YP:World->Heap->Prop}{d:DefRec}(z:l.most=some n)(p:d.params.defaults=[])(call:∀(w:World)(jW b:ai)(mg h:Str->Option Value)(c:Addr)(o:Obj)(pm cd doc:Value)(a:Addr)(vs:List Value)(ns:List Int),Ground q loose [] XP w jW mg h b.heap->YP w b.heap ->b.heap.get? c=some o->o.data=.func (docDef d.name d.params d.body d.scope pm cd doc)->b.heap.CodeRec cd d.name->mg d.name=some (.ref c) ->b.heap.get? a=some {cls:=.type "list",data:=.seq vs.toArray}->IntsAre vs ns->ns.length<=n->b.gens=#[] ->gO (model l.prog w) callerA (.call (.ref c) ⟨[.ref a],[]⟩) (λr s'=>r=.ok (.ret (.bool true))/\OldK b.heap s'.heap/\s'.os=b.os/\gm s'.gens) b):WalkO q loose XP YP l.row.toRowW d [] (λf vs=>PySem.call f vs):=by intro w jW b mg h G Y c o pm cd doc E kV y hd s u j A args vals as e v F i H;obtain rfl:E=.none:=Dflts.none u p;obtain rfl:kV=.none:=Dflts.noKw u;obtain⟨a,vs,ns,rfl,rfl,g,hints,hlen⟩:=Tg z e i;refine enter_call (gn (call w jW b mg h c o pm cd doc a vs ns G Y y (fd_plain hd) s j g hints hlen A) λr s' x=>?_);obtain⟨rfl,D,C,B⟩:=x;exact⟨.inl ⟨.bool true,.bool true,[],rfl,λ_=>rfl,.bool true,Ts l _,λ_=>⟨List.Pairwise.nil,λ_ hm=>(nomatch hm)⟩⟩,D,C,B⟩
end z5
namespace L2
open PySem PySem.Spec PyProof.Rows
theorem Tc{vs:List Value}{ns:List Int}(h:IntsAre vs ns):Vals (ns.map V.int) vs:=by
 induction h with
|nil=>exact .nil
|cons n t _ a=>exact .cons ⟨t,rfl⟩ a
noncomputable def uQ(H:Hp):Prop:=∀b,H b=none\/∃o xs,H b=some (.lG o (.lst xs))
theorem K5  {K:ae} {k:Nat} {x:Str}{c:ai}{vs:List Value}(Z:K.In c.heap)(B:c.heap.Ns a8 mg)(g:c.heap.Ns builtinsNs R)(N:∀x:Str,x≠"__name__"->R x=bJ x)(G:c.heap.NoLimit)(hg:c.gens=#[])(I:c.heap.get? a=some {cls:=.type "list",data:=.seq vs.toArray})(T:IntsAre vs ns)(S:ns.length<=sizeLine)(hr:jw k callerA)(F:∀base:Heap,K.In base->base.Ns a8 mg->jR P w K mg base CX k X fd [x] sp)(j:∀(s:ai)(u:Value),BindsTo s fd ⟨[u],[]⟩ [(x,u)])(M:∀H:Hp,uQ H->gp K H a (ns.map V.int)->sp [.ref a] H (λv _=>v=.bl true) λ_ _ _=>False)(O:∀H e s',CX [] H c (λ_ _ _=>False) e s'->False):gO (model P w) callerA (.call (.ref X) ⟨[.ref a],[]⟩) (λr s'=>r=.ok (.ret (.bool true))/\OldK c.heap s'.heap/\s'.os=c.os/\gm s'.gens) c:=by
 have Q:=Tc T;have D:=T.length;have core:∀H:Hp,uQ H->gp K H a (ns.map V.int)->k6 P w H c.heap->(∀b,H b≠none->b=a)->(H a≠none->K.lookup a=none) ->gO (model P w) callerA (.call (.ref X) ⟨[.ref a],[]⟩) (λr s'=>r=.ok (.ret (.bool true))/\OldK c.heap s'.heap/\s'.os=c.os/\gm s'.gens) c:=by
  intro H U hS A W hK;have f:∀{b:Addr}{o:Obj},c.heap.get? b=some o->H b=none->(pq c.heap H).get? b=some o:=λe n=>Lh e n;have L:∀{b:Addr}{o:Obj}{p:Array DictEntry}{y:Nat},c.heap.get? b=some o->o.data=.dict p y->H b=none:=λ{b o p y}e d=>by
   cases q:H b with
  |none=>rfl
  |some u=>have J:b=a:=W b (by rw[q];simp);subst J;rw[I]at e;cases e;have d':Data.seq vs.toArray _=Data.dict p y:=d;cases d'
  have i:∀{b:Addr}{m:Str->Option Value},c.heap.Ns b m->(pq c.heap H).Ns b m:=λ{b m}⟨o,p,y,e,d,r⟩=>⟨o,p,y,f e (L e d),d,r⟩;have C:K.In (pq c.heap H):=λb o e=>f (Z b o e) (by
   cases q:H b with
  |none=>rfl
  |some u=>have J:b=a:=W b (by rw[q];simp);subst J;rw[hK (by rw[q];simp)]at e;cases e)
  have hM:Mod K mg (pq c.heap H):=⟨C,i B,⟨R,i g,N⟩,let ⟨mc,h1,h2⟩:=G;⟨mc,i h1,h2⟩⟩;have e0:qG P w K mg (pq c.heap H) callerA [] c H:=⟨rfl,hM,λb o e=>Dx e,Nat.le_of_eq (TY _ _),trivial,λb g=>absurd (show b∈([]:List Addr)from g) (by simp),A,.of_eq hg⟩;refine gn ((F _ C (i B)).run callerA [] c H ⟨[.ref a],[]⟩ [.ref a] [.ref a] _ _ hr e0 (j c (.ref a)) (.cons rfl .nil) (M H U hS)) λr s' h=>?_;cases r with
 |error e=>exact(O H e s' h).elim
 |ok fl=>
   cases fl with
  |next=>exact False.elim h
  |brk=>exact False.elim h
  |cont=>exact False.elim h
  |ret u=>
    obtain⟨v,H',os,bare,un,E,r',q⟩:=h;have q':v=.bl true:=q;subst q';obtain rfl:u=Value.bool true:=r';refine⟨rfl,OldK.of_keep λb o e=>?_,os,bare⟩;cases q:H b with
   |none=>exact un.keep b o e q (by intro z;exact absurd (show b∈([]:List Addr)from z) (by simp)) (by simp)
   |some u=>
     rcases U b with z|⟨ob,xs,z⟩
     .rw[q]at z;cases z
     .have z2:=un.ng b ob _ z;obtain⟨Y,_⟩:=A b _ z;obtain⟨e2,_⟩:=E b _ z2;rw[e]at Y;cases Y;exact e2
 cases hk:K.lookup a with
|some o=>have e:=Z a o hk;rw[I]at e;cases e;refine core (λ_=>none) (λ_=>.inl rfl) (.inr ⟨_,vs.toArray,_,hk,rfl,rfl,rfl,by rw[aw,D];exact S,by simpa using Q⟩) (λb u z=>by have l:(none:Option HO)=some u:=z;cases l) (λb z=>absurd rfl z) λz=>absurd rfl z
|none=>
  refine core (λb=>if b=a then some (.lG {cls:=.type "list",data:=.seq vs.toArray} (.lst (ns.map V.int)))else none) (λb=>?_) (.inl (.inr ⟨{cls:=.type "list",data:=.seq vs.toArray},if_pos rfl⟩)) (λb u z=>?_) (λb z=>?_) λ_=>hk
  .by_cases g:b=a
   .exact .inr ⟨_,_,if_pos g⟩
   .exact .inl (if_neg g)
  .by_cases g:b=a
   .have l:=(if_pos g).symm.trans z;cases l;subst g;exact⟨I,by rw[bU];exact S,vs,_,Q,I⟩
   .have l:=(if_neg g).symm.trans z;cases l
  .by_cases g:b=a
   .exact g
   .exact absurd (if_neg g) z
open PySem PySem.Spec PyProof.Rows
noncomputable abbrev qR{K:ae}{h:Heap}(_:K.In h):ae:=K
theorem pb{l:iY}{n k:Nat}  {YP:World->Heap->Prop}{d:DefRec}{K:Params->ae}{CX:World->qf}{sp:World->Sp}{x:Str}(D:l.most=some n)(r:n<=sizeLine)(z:d.params.defaults=[])(C:jw k callerA)(J:∀(w:World)(h:Heap),YP w h->(K w.params).In h)(F:∀(w:World)(mg:Str->Option Value)(j:Addr)(h:Heap),(K w.params).In h->h.Ns a8 mg->mg d.name=some (.ref j) ->∃fd:dk,(∀(s:ai)(u:Value),BindsTo s fd ⟨[u],[]⟩ [(x,u)]) /\∀base:Heap,(K w.params).In base->base.Ns a8 mg->jR l.prog w (K w.params) mg base (CX w) k j fd [x] (sp w))(p:∀(w:World)(H:Hp)(a:Addr)(ns:List Int),ns.length<=n->uQ H->gp (K w.params) H a (ns.map V.int)->sp w [.ref a] H (λv _=>v=.bl true) λ_ _ _=>False)(A:∀(w:World)(H:Hp)(s:ai)(e:Value)(s':ai),CX w [] H s (λ_ _ _=>False) e s'->False):PySem.W.WalkO q loose XP YP l.row.toRowW d [] (λf vs=>PySem.call f vs):=by refine z5.pZ D z λw jW c mg P j o pm cd doc a vs ns G Y Q hd O y i hints hlen E=>?_;have B:=J w _ Y;obtain⟨fd,I,N⟩:=F w mg j _ B G.T.g y;exact K5 B G.T.g G.T.b G.T.builtins G.T.nolimit E i hints (Nat.le_trans hlen r) C N I (λH M L=>p w H a ns hlen M L) λH e s'=>A w H c e s'
open PySem PySem.Spec PyProof.Rows
noncomputable def inClass(s:Stmt)(j:Nat):Stmt:=match s with
|.ClassDef _ _ _ body _ _ _ _ _ _ _=>body.getD j (.Pass ⟨0,0,0,0⟩)
|_=>.Pass ⟨0,0,0,0⟩
noncomputable def Yt(s:Stmt):Arguments:=match s with
|.FunctionDef _ a _ _ _ _ _ _ _ _=>a
|_=>{posonlyargs:=[],args:=[],vararg:=none,kwonlyargs:=[],kw_defaults:=[],kwarg:=none,defaults:=[]}
noncomputable def ZV(s:Stmt):List Stmt:=match s with
|.FunctionDef _ _ b _ _ _ _ _ _ _=>b
|_=>[]
noncomputable def Ze(s:Stmt):Scope:=match s with
|.FunctionDef _ _ _ _ _ _ sc _ _ _=>sc
|_=>{kind:=.function,names:=[],isGenerator:=false,isCoroutine:=false}
noncomputable abbrev jS:qf:=λ_ _ _ _ _ _=>False
noncomputable abbrev E0:XK:=λ_ _ _=>False
theorem Z6 :Passes jS X E0:=λ_ _ _ _ _ _ _ h=>h.elim
structure oK(K:ae)(x qual:Str)(st:Stmt)(f:Addr)(fd:dk):Prop where
 ex:∃(oc:Value)(od:Option Addr)(kV doc pm:Value)(an:Option Addr)(zU ct:Value)(AK:Array (Option Value)),
  fd=bB x qual (Yt st) (ZV st) (Ze st) .none kV doc pm an zU ct/\K.lookup f=some ⟨oc,od,.func fd,AK⟩/\cz K zU qual=true
 kp:a7 K (.ref f)=true
section
variable {P:Program}{w:World}{K:ae}{mg:Str->Option Value}{base:Heap}
theorem oK.ok{x qual:Str}{st:Stmt}{f:Addr}{fd:dk}{N ps:List Str}{k:Nat}{sp:Sp}(F:oK K x qual st f fd)(S:fx N ps (Ze st))(len:∀vs H Q E,sp vs H Q E->vs.length=ps.length)(b:∀(a:Value)(A:bh)(outer:List Env)(s:ai)(H:Hp)(vs:List V)(Q:VK)(E:XK),jw k (A.deeper (d_ qual (Ze st) s.heap.objs.size f a))->sp vs H Q E ->∃t,oJ (lY jS P w K mg base N qual (Ze st) f a A outer s H E).tU (ZV st) t/\t {nx:=λ_ H'=>Q .non H',rt:=Q} (start N vs) H):jR P w K mg base jS (k+1) f fd ps sp:=by obtain⟨i,od,kV,doc,pm,an,a,ct,g,rfl,lk,d⟩:=F.ex;refine EH lk d S len λA outer s H vs Q E e c=>?_;obtain⟨t,h,q⟩:=b a A outer s H vs Q E e c;exact⟨t,h.tU,q⟩
theorem oK.binds{x qual:Str}{st:Stmt}{f:Addr}{fd:dk}{ps:List Str}(F:oK K x qual st f fd)(h:∀(kV doc pm:Value)(an:Option Addr)(a ct:Value)(us:List Value),us.length=ps.length->bindArgs (bB x qual (Yt st) (ZV st) (Ze st) .none kV doc pm an a ct) ⟨us,[]⟩=pure (ps.zip us)):Binds K fd ps []:=by obtain⟨d,od,kV,doc,pm,an,a,ct,b,rfl,lk,c⟩:=F.ex;exact .all (h kV doc pm an a ct)
theorem JM{x qual:Str}{st:Stmt}{f:Addr}{d:Value}{od an:Option Addr}{b:Array (Option Value)}{kV doc pm a ct:Value}(l:K.lookup f=some ⟨d,od,.func (bB x qual (Yt st) (ZV st) (Ze st) .none kV doc pm an a ct),b⟩)(c:cz K a qual=true)(k:a7 K (.ref f)=true):oK K x qual st f (bB x qual (Yt st) (ZV st) (Ze st) .none kV doc pm an a ct):=⟨⟨d,od,kV,doc,pm,an,a,ct,b,rfl,l,c⟩,k⟩
end
theorem Z0 {k:Nat}(a:jw k A):A.units+1<cLine:=Nat.lt_of_le_of_lt (Nat.add_le_add_left (by decide:1<=64) _) a.units
theorem Ji{n:Nat}(h:n<=1000):n<sizeLine:=Nat.lt_of_le_of_lt h (by decide)
section
variable {X:Cx}
theorem pv(i:Nat){x:Str}(c:X.N[i]?=some x:=by rfl)(b:vI X.env.scope x:=by first|exact cV rfl|exact gZ (cV rfl)|exact gZ (gZ rfl))(hd:(x==("__debug__":Str))=false:=by decide)(a:(x==("__classdict__":Str))=false:=by decide):PE X (.Name x pos) (lC i):=Q0 c b hd a
end
theorem jI{A B:Prop}(h:B):if false=true then A else B:=by rw[if_neg Bool.false_ne_true];exact h
theorem jC{A B:Prop}(h:A):if true=true then A else B:=by rw[if_pos rfl];exact h
theorem ia{c A B:Prop}[Decidable c](b:c->A)(a:¬c->B):if c then A else B:=by
 by_cases h:c
 .rw[if_pos h];exact b h
 .rw[if_neg h];exact a h
noncomputable def fy(H H':Hp):Prop:=∀b o,H b=some o->H' b=some o
theorem fy.refl(H:Hp):fy H H:=λ_ _ h=>h
theorem fy.trans (a:fy H H1)(b:fy H1 d):fy H d:=λc o h=>b c o (a c o h)
open PySem PySem.Spec PyProof.Rows
section
variable {κ:Type}[DecidableEq κ]
noncomputable def f'(f5:List (κ×V))(k:κ):Option V:=(f5.find? λkv=>decide (kv.1=k)).map (·.2)
noncomputable def putK(f5:List (κ×V))(k:κ)(v:V):List (κ×V):=if(f5.any λkv=>decide (kv.1=k))=true then f5.map (λkv=>if kv.1=k then(kv.1,v)else kv)else f5++[(k,v)]
theorem Yv{p:κ×V}{r:List (κ×V)}{k:κ}(e:p.1=k):f' (p::r) k=some p.2:=by simp[f',cL,e]
theorem Yw{p:κ×V}{r:List (κ×V)}{k:κ}(e:¬p.1=k):f' (p::r) k=f' r k:=by simp[f',cL,e]
theorem YX(k:κ):∀a:List (κ×V),(a.any λb=>decide (b.1=k))=(f' a k).isSome
|[]=>rfl
|p::r=>by
  rw[gB];by_cases e:p.1=k
  .simp only[Yv e,decide_eq_true e,Bool.true_or,Option.isSome_some]
  .rw[Yw e,decide_eq_false e,Bool.false_or];exact YX k r
theorem Pe(k j:κ)(y:V):∀a:List (κ×V),f' (a.map λb=>if b.1=k then(b.1,y)else b) j=(f' a j).map λx=>if j=k then y else x
|[]=>rfl
|p::r=>by
  have c:=Pe k j y r;rw[aA];by_cases h:p.1=k
  .rw[if_pos h];by_cases e:p.1=j
   .rw[Yv (p:=(p.1,y)) e,Yv e,gL,if_pos (e.symm.trans h)]
   .rw[Yw (p:=(p.1,y)) e,Yw e,c]
  .rw[if_neg h];by_cases e:p.1=j
   .rw[Yv (p:=p) e,Yv e,gL,if_neg (λz=>h (e.trans z))]
   .rw[Yw (p:=p) e,Yw e,c]
theorem Xh(k j:κ)(y:V):∀a:List (κ×V),f' a k=none->f' (a++[(k,y)]) j=if j=k then some y else f' a j
|[],_=>by
  by_cases e:k=j
  .rw[if_pos e.symm];exact Yv (p:=(k,y)) e
  .rw[if_neg (λz=>e z.symm)];exact Yw (p:=(k,y)) e
|p::r,b=>by
  rw[List.cons_append];have hk:¬p.1=k:=λz=>by rw[Yv z]at b;cases b
  rw[Yw hk]at b;have c:=Xh k j y r b;by_cases e:p.1=j
  .rw[Yv e,Yv e,if_neg (λz=>hk (e.trans z))]
  .rw[Yw e,Yw e,c]
theorem YW(b:List (κ×V))(k j:κ)(y:V):f' (putK b k y) j=if j=k then some y else f' b j:=by
 unfold putK;by_cases a:(b.any λc=>decide (c.1=k))=true
 .rw[if_pos a,Pe];rw[YX]at a;by_cases e:j=k
  .obtain⟨x,d⟩:=bw.mp a;rw[if_pos e,e,d,gL,if_pos rfl]
  .rw[if_neg e];cases f' b j with
  |none=>rfl
  |some x=>rw[gL,if_neg e]
 .rw[if_neg a];refine Xh k j y b ?_;rw[YX]at a;cases q:f' b k with
 |none=>rfl
 |some x=>rw[q]at a;exact(a rfl).elim
theorem YO(a:List (κ×V))(k:κ)(v:V):(putK a k v).length<=a.length+1:=by
 unfold putK;split
 .rw[bU];omega
 .rw[aq,aR,eU];omega
theorem Ko{a:List (κ×V)}{k:κ}(v:V)(h:f' a k=none):putK a k v=a++[(k,v)]:=by unfold putK;rw[YX,h];exact if_neg (by decide)
theorem kf.ly  (r:kf o u):o.isSome=u.isSome:=by
 cases o with
|none=>cases u with
 |none=>rfl
 |some _=>exact(show False from r).elim
|some _=>cases u with
 |none=>exact(show False from r).elim
 |some _=>rfl
theorem kf.getD    (r:kf o u)(rd:RelV d d'):RelV (o.getD d) (u.getD d'):=by
 cases o with
|none=>cases u with
 |none=>exact rd
 |some _=>exact(show False from r).elim
|some _=>cases u with
 |none=>exact(show False from r).elim
 |some _=>exact r
theorem KV.val  (r:KV d vs)(k:κ):kf (f' d k) (valueAt vs k):=by
 unfold KV at r;induction r with
|nil=>exact bH
|@cons p q ps a h t g=>
  obtain⟨f,i⟩:=h;by_cases e:p.1=k
  .have c:q.1=k:=f.symm.trans e;have b:valueAt (q::a) k=some q.2:=by simp[valueAt,cL,c]
   rw[Yv e,b];exact i
  .have c:¬q.1=k:=λz=>e (f.trans z);have b:valueAt (q::a) k=valueAt a k:=by simp[valueAt,cL,c]
   rw[Yw e,b];exact g
theorem KV.any{a:List (κ×V)}{vs:List (κ×Value)}(r:KV a vs)(k:κ):(a.any λb=>decide (b.1=k))=vs.any λb=>decide (b.1=k):=by
 unfold KV at r;induction r with
|nil=>rfl
|cons h t c=>rw[gB,gB,c,h.1]
theorem KV.rP  (r:KV c vs)(k:κ) (d:RelV y u):KV (c.map λa=>if a.1=k then(a.1,y)else a) (vs.map λa=>if a.1=k then(a.1,u)else a):=by
 unfold KV at r ⊢;induction r with
|nil=>exact .nil
|@cons p q ps i h t f=>
  rw[aA,aA];refine .cons ?_ f;obtain⟨b,g⟩:=h;by_cases e:p.1=k
  .rw[if_pos e,if_pos (b.symm.trans e)];exact⟨b,d⟩
  .rw[if_neg e,if_neg (λz=>e (b.trans z))];exact⟨b,g⟩
theorem KV.put  (r:KV a vs)(k:κ) (b:RelV y u):KV (putK a k y) (stored vs k u):=by
 unfold putK stored;rw[r.any k];by_cases e:(vs.any λc=>decide (c.1=k))=true
 .rw[if_pos e,if_pos e];exact r.rP k b
 .rw[if_neg e,if_neg e];exact cA r ⟨rfl,b⟩
theorem KV.length{a:List (κ×V)}{vs:List (κ×Value)}(r:KV a vs):a.length=vs.length:=aV r
end
theorem Me    (r:RelV (kV k) u):(Zz P w).is k u=true:=by
 cases k with
|inl i=>obtain⟨t,e⟩:=(show ∃t,u=Value.int i t from r);subst e;exact P0 P w i t
|inr x=>obtain⟨t,e⟩:=(show ∃t,u=Value.str x t from r);subst e;exact PZ P w x t
theorem MY  :∀{ks:List Key}{us:List Value},Vals (ks.map kV) us->ItemsAre (Zz P w) ks us
|[],_,r=>by rw[fo]at r;cases r;exact .nil
|k::ks,_,r=>by
  rw[aA]at r;cases r with
 |cons h t=>exact .cons (Me h) (MY t)
noncomputable abbrev KT(H:Hp):List (List Key×V)->List (List Key×Addr×Value)->Prop:=bZ λp q=>p.1=q.1/\H q.2.1=some (.tup (p.1.map kV))/\RelV p.2 q.2.2
theorem KT.val   (r:KT H d xs)(k:List Key):kf (f' d k) ((atKey xs k).map (·.2)):=by
 induction r with
|nil=>exact bH
|@cons p q ps a h t g=>
  obtain⟨f,_,i⟩:=h;by_cases e:p.1=k
  .have c:q.1=k:=f.symm.trans e;have b:atKey (q::a) k=some q.2:=by simp[atKey,cL,c]
   rw[Yv e,b];exact i
  .have c:¬q.1=k:=λz=>e (f.trans z);have b:atKey (q::a) k=atKey a k:=by simp[atKey,cL,c]
   rw[Yw e,b];exact g
theorem KT.rP   (r:KT H c xs)(k:List Key) (f:RelV y u):KT H (c.map λb=>if b.1=k then(b.1,y)else b) (xs.map (putAt k u)):=by
 induction r with
|nil=>exact .nil
|@cons p q ps j h t g=>
  rw[aA,aA];refine .cons ?_ g;obtain⟨a,d,i⟩:=h;unfold putAt;by_cases e:p.1=k
  .rw[if_pos e,if_pos (a.symm.trans e)];exact⟨a,d,f⟩
  .rw[if_neg e,if_neg (λz=>e (a.trans z))];exact⟨a,d,i⟩
theorem KT.put   (r:KT H a xs)(k:List Key)  (f:H b=some (.tup (k.map kV)))(c:RelV y u):KT H (putK a k y) (storedH xs k b u):=by
 have e:(a.any λd=>decide (d.1=k))=(atKey xs k).isSome:=by rw[YX,(r.val k).ly,gf]
 unfold putK storedH;rw[e];by_cases q:(atKey xs k).isSome=true
 .rw[if_pos q,if_pos q];exact r.rP k c
 .rw[if_neg q,if_neg q];exact cA r ⟨rfl,f,c⟩
theorem KT.keeps{H H':Hp} (r:KT H a xs)(d:∀b c,H b=some (.tup c)->H' b=some (.tup c)):KT H' a xs:=Paired.mY r λ_ _ z=>⟨z.1,d _ _ z.2.1,z.2.2⟩
section
variable {P:Program}{w:World}{H:Hp}{h:Heap}{a:Addr}
theorem Ew (ok:k6 P w H h)(e:Rd H a u):ZW P w H h a u:=e.ok ok
theorem M9 (ok:k6 P w H h)(e:Rd H a (.dK b)):b.length<=sizeLine/\(a==bC)=false/\∃vs,KV b vs/\h.DictOf (Zz P w) a vs:=show ZW P w H h a (.dK b)from Ew ok e
theorem EI (ok:k6 P w H h)(e:H a=some (.dK b)):b.length<=sizeLine/\(a==bC)=false/\∃vs,KV b vs/\h.DictOf (Zz P w) a vs:=M9 ok (.inl e)
theorem UL{ks:List Key}(ok:k6 P w H h)(e:H a=some (.tup (ks.map kV))):(bQ (Zz P w)).is h ks a:=by obtain⟨_,b,r,o,f,d,n,c⟩:=(show ZW P w H h a (.tup (ks.map kV))from ok a _ e);exact⟨o,b.toArray,n,f,d,c,by simpa using MY r⟩
theorem M6 (ok:k6 P w H h)(e:Rd H a (.dT b)):b.length<=sizeLine/\(a==bC)=false /\∃xs,KT H b xs/\h.DictOfH (bQ (Zz P w)) a xs:=by
 obtain⟨z,y,xs,r,o,s,u,n,j,i,g,f⟩:=(show ZW P w H h a (.dT b)from Ew ok e);refine⟨z,y,xs,r,o,s,u,n,j,i,g,λx hx=>?_,f⟩;have all:∀{l:List (List Key×V)}{m:List (List Key×Addr×Value)},KT H l m->∀x∈m,(bQ (Zz P w)).is h x.1 x.2.1:=by
  intro l m q;induction q with
 |nil=>intro x hx;exact nomatch hx
 |@cons p q ps v c t d=>
   intro x hx;rcases au.mp hx with e|hx
   .subst e;exact UL ok (by rw[<-c.1];exact c.2.1)
   .exact d x hx
 exact all r x hx
theorem Qk (ok:k6 P w H h)(e:H a=some (.dT b)):b.length<=sizeLine/\(a==bC)=false /\∃xs,KT H b xs/\h.DictOfH (bQ (Zz P w)) a xs:=M6 ok (.inl e)
end
noncomputable def j8(H:Hp)(a:Addr)(y:V)(r:Option V):Prop:=(∃f5 k,Rd H a (.dK f5)/\y=kV k/\r=f' f5 k)\/∃f5 k b,Rd H a (.dT f5)/\y=.ref b/\H b=some (.tup (k.map kV))/\r=f' f5 k
noncomputable def mI(H:Hp)(a:Addr)(y v:V)(H':Hp):Prop:=(∃f5 k,H a=some (.dK f5)/\y=kV k/\f5.length<sizeLine/\H'=upd H a (.dK (putK f5 k v))) \/∃f5 k b,H a=some (.dT f5)/\y=.ref b/\H b=some (.tup (k.map kV))/\f5.length<sizeLine/\H'=upd H a (.dT (putK f5 k v))
theorem j8.k{H:Hp}{a:Addr}{b:List (Key×V)}{k:Key}(e:H a=some (.dK b)):j8 H a (kV k) (f' b k):=.inl ⟨b,k,.inl e,rfl,rfl⟩
theorem j8.t{H:Hp}{a b:Addr}{c:List (List Key×V)}{k:List Key}(e:H a=some (.dT c))(d:H b=some (.tup (k.map kV))):j8 H a (.ref b) (f' c k):=.inr ⟨c,k,b,.inl e,rfl,d,rfl⟩
theorem mI.k{H:Hp}{a:Addr}{b:List (Key×V)}{k:Key}{v:V}(e:H a=some (.dK b))(c:b.length<sizeLine):mI H a (kV k) v (upd H a (.dK (putK b k v))):=.inl ⟨b,k,e,rfl,c,rfl⟩
theorem mI.t{H:Hp}{a b:Addr}{c:List (List Key×V)}{k:List Key}{v:V}(e:H a=some (.dT c))(f:H b=some (.tup (k.map kV)))(d:c.length<sizeLine):mI H a (.ref b) v (upd H a (.dT (putK c k v))):=.inr ⟨c,k,b,e,rfl,f,d,rfl⟩
section
variable {X:Cx}{pins:List (Addr×Obj)}{σ:St}{H:Hp}{s:ai}{a:Addr}{y v:V}{u r:Value}{o:Option V}{A:bh}{E:Value->ai->Prop}
theorem Inv.big(I:Inv X pins σ H s):bC<s.heap.objs.size:=by have h:a8<s.heap.objs.size:=(I.mod.glob.keeps I.bk).lt;exact Nat.lt_trans (by decide) h
theorem Wc{Q:Value->ai->Prop}(x:A.units+1<cLine)(I:Inv X pins σ H s)(g:j8 H a y (some v))(q:RelV y u)(h:∀d s',Inv X pins σ H s'->RelV v d->Q d s'):wpAny (model X.prog X.w) A (fU (.ref a) u) Q E s:=by
 rcases g with⟨j,k,e,f,l⟩|⟨j,k,b,e,f,C,l⟩
 .subst f;obtain⟨z,hd,vs,rel,i⟩:=M9 I.hL e;obtain⟨d,hw,c⟩:=kf.some_of (v:=v) (o:=valueAt vs k) (by rw[l];exact rel.val k);exact wpAny_getItem_of (Me q) i.mapOf hw (h d _ (I.tok _) c)
 .subst f;cases(show u=Value.ref b from q);obtain⟨z,hd,xs,rel,i⟩:=M6 I.hL e;obtain⟨d,hw,c⟩:=kf.some_of (v:=v) (o:=(atKey xs k).map (·.2)) (by rw[l];exact rel.val k);obtain⟨p,B,n⟩:=bV.mp hw;refine wpAny_getItem_heap (fu x) (UL I.hL C) i B ?_;rw[n];exact h d _ (I.tok _) c
theorem vG{Q:Value->ai->Prop}(j:A.units+1<cLine)(I:Inv X pins σ H s)(g:j8 H a y o)(i:RelV y u)(h:∀s',Inv X pins σ H s'->Q (.bool o.isSome) s'):wpAny (model X.prog X.w) A (bE .In u (.ref a)) Q E s:=by
 rcases g with⟨f,k,e,c,l⟩|⟨f,k,b,e,c,n,l⟩
 .subst c;obtain⟨z,hd,vs,rel,d⟩:=M9 I.hL e;refine wpAny_in_of (Me i) hd d.mapOf ?_;rw[<-(rel.val k).ly,<-l];exact h _ (I.tok _)
 .subst c;cases(show u=Value.ref b from i);obtain⟨z,hd,xs,rel,d⟩:=M6 I.hL e;refine wpAny_in_heap (fu j) (UL I.hL n) hd d ?_;have q:=(rel.val k).ly;rw[gf]at q;rw[<-q,<-l];exact h _ (I.tok _)
theorem Gv {t':Nat}(I:Inv X pins σ H s)(mu:vO (H a))(d:Heap.SameBut a s.heap h')(he:∃q,h'.get? a=some q)(new:ZW X.prog X.w (upd H a c) h' a c):Inv X pins σ (upd H a c) {s with heap:=h',toks:=t'}:=I.write (x:=a) (e:=a) mu (.inl rfl) (λb q f z=>(d.2 b f).trans z) he new
theorem Lp   {h':Heap}{b:List (Key×V)}(z:b.length<=sizeLine)(hd:(a==bC)=false)(rel:KV b vs)(c:h'.DictOf (Zz P w) a vs):ZW P w H' h' a (.dK b):=⟨z,hd,vs,rel,c⟩
theorem Wb {Q:Unit->ai->Prop}(J:A.units+1<cLine)(I:Inv X pins σ H s)(g:mI H a y v H')(C:RelV y u)(D:RelV v r)(h:∀s',Inv X pins σ H' s'->Q () s'):wpAny (model X.prog X.w) A (setItem (.ref a) u r) Q E s:=by
 rcases g with⟨d,k,e,p,l,x⟩|⟨d,k,b,e,p,G,l,x⟩
 .subst p x;obtain⟨z,hd,vs,rel,B⟩:=EI I.hL e;have hz:vs.length<=sizeLine:=by rw[<-rel.length];exact z
  have n:(putK d k v).length<=sizeLine:=by have:=YO d k v;omega
  refine wpAny_setItem_pairs (hsz:=hz) (Me C) B λh' f j=>h _ ?_;have he:∃q,h'.get? a=some q:=let ⟨q,_,_,i,_⟩:=f;⟨q,i⟩
  exact Gv I (by rw[e];exact bH) j he (Lp n hd (rel.put k D) f)
 .subst p x;cases(show u=Value.ref b from C);obtain⟨z,hd,xs,rel,B⟩:=Qk I.hL e;have hz:xs.length<=sizeLine:=by rw[<-aV rel];exact z
  have n:(putK d k v).length<=sizeLine:=by have:=YO d k v;omega
  refine wpAny_setItem_heap (hsz:=hz) (fu J) (UL I.hL G) B λh' f j=>h _ ?_;obtain⟨q,P,R,i,O,N,M,_,L⟩:=f;refine Gv I (by rw[e];exact bH) j ⟨q,i⟩ ⟨n,hd,_,(rel.put k G D).keeps λc S F=>?_,q,P,R,i,O,N,M,L⟩;rw[Zf (hA F e (λz=>nomatch z))];exact F
end
noncomputable def su(i:Expr):Prop:=∀ov iv,subscripted i false ov iv=operate [ov,iv] (fU ov iv)
theorem Np{prog:Program}{w:World}{A:bh}{E:Value->ai->Prop}{s:ai}{env:Env}{value slice:Expr}{pos:Pos}{T id:String}{Q:Value->ai->Prop}(l:typeLookup (.type T) "__getitem__"=pure (some (.builtin id)))(j:su slice)(h:wpAny (model prog w) A (eval value env) (λo d=>wpAny (model prog w) A (eval slice env) (λi a=>a.TypeIs o T/\wpAny (model prog w) A (fU o i) Q E a) E d) E s):wpAny (model prog w) A (eval (.Subscript value slice pos) env) Q E s:=by
 refine Subscript_ (cj h (λo d f=>cj f (λi a b=>?_) λ_ _ x=>x) λ_ _ x=>x);obtain⟨g,b⟩:=b;unfold i6;refine aa ?_;rw[getitemInPython_of_ne g.not_modules];refine aa (wpAny_specialOf g l ?_);have fin:wpAny (model prog w) A (subscripted slice false o i) (λr c=>wpAny (model prog w) A (letTemporaryGo value o r >>= λ_=>pure r) Q E c) E a:=by rw[j o i];exact wpAny_operating (cj b (λr c e=>aa (wpAny_letTemporaryGo (ah e))) λ_ _ x=>x)
 first
 |exact ah (aa fin)
 |exact aa (ah (aa fin))
 |exact aa fin
theorem Qm        (I:Inv X pins σ H s)(g:j8 H a y o):s.TypeIs (.ref a) "dict":=by
 rcases g with⟨d,k,e,_,_⟩|⟨d,k,b,e,_,_,_⟩
 .obtain⟨_,_,vs,_,c⟩:=M9 I.hL e;exact c.typeIs
 .obtain⟨_,_,xs,_,c⟩:=M6 I.hL e;exact c.typeIs
noncomputable def HS(td ty:TE):TE:=λσ H Q=>td σ H λx H1=>ty σ H1 λy H2=>∃a v,x=.ref a/\j8 H2 a y (some v)/\Q v H2
noncomputable def w9(ty td:TE):TE:=λσ H Q=>ty σ H λy H1=>td σ H1 λx H2=>∃a o,x=.ref a/\j8 H2 a y o/\Q (.bl o.isSome) H2
noncomputable def Aa(td ty tv:TE):TS:=λD σ H=>tv σ H λv H1=>td σ H1 λx H2=>ty σ H2 λy H3=>∃a H4,x=.ref a/\mI H3 a y v H4/\D.nx σ H4
section
variable {X:Cx}{o i e value:Expr}{pos pos' wN:Pos}{td ty tv:TE}
theorem YR(n:X.A.units+1<cLine)(q:PE X o td)(r:PE X i ty)(p:su i):PE X (.Subscript o i pos) (HS td ty):=by intro pins s σ H Q I h;refine Np fW.lookup p (hU (q pins s σ H _ I h) λu s1⟨x,H1,z,f,l⟩=>hU (r pins s1 σ H1 _ z l) λD s2 hZ=>?_);obtain⟨y,B,c,d,a,v,ex,g,j⟩:=hZ;subst ex;obtain rfl:u=Value.ref a:=f;exact⟨Qm c g,Wc n c g d λC s3 w b=>⟨v,B,w,b,j⟩⟩
theorem KA(l:X.A.units+1<cLine)(p:PE X i ty)(n:PE X o td):PC X .In i o (w9 ty td):=by intro pins s σ H Q I h;refine hU (p pins s σ H _ I h) λz s1⟨y,H1,v,b,f⟩=>hU (n pins s1 σ H1 _ v f) λu s2 hZ=>?_;obtain⟨x,w,r,c,a,j,ex,g,d⟩:=hZ;subst ex;obtain rfl:u=Value.ref a:=c;exact vG l r g b λs3 q=>⟨.bl j.isSome,w,q,rfl,d⟩
theorem Y9(p:X.A.units+1<cLine)(w:PE X o td)(z:PE X i ty)(n:PE X value tv)(q:gw value (some (.Subscript o i pos')) pos.line X.env=pure false):PS X (.Assign [.Subscript o i pos'] value pos) (Aa td ty tv):=by intro pins s σ H D I h;refine wpAny_Assign_Subscript (hU (n pins s σ H _ I h) λr s1⟨v,H1,F,d,l⟩=>hU (w pins s1 σ H1 _ F l) λu s2⟨x,J,E,c,j⟩=>hU (z pins s2 σ J _ E j) λL s3 hZ=>?_) q;obtain⟨y,M,C,b,a,G,ex,g,f⟩:=hZ;subst ex;obtain rfl:u=Value.ref a:=c;exact Wb p C g b d λs4 B=>⟨σ,G,B,f⟩
end
theorem Ql   (h:Heap)(a:bC<h.objs.size):ZW P w H (h.push {cls:=.type "dict",data:=.dict #[]}) h.objs.size (.dK []):=⟨Nat.zero_le _,beq_eq_false_iff_ne.mpr (bK (Nat.ne_of_lt a)),[],.nil,Heap.DictOf.new h⟩
theorem Lo   (h:Heap)(a:bC<h.objs.size):ZW P w H (h.push {cls:=.type "dict",data:=.dict #[]}) h.objs.size (.dT []):=⟨Nat.zero_le _,beq_eq_false_iff_ne.mpr (bK (Nat.ne_of_lt a)),[],.nil,_,#[],0,Heap.get?_push_size _ rfl,⟨rfl,rfl,rfl⟩,rfl,rfl,fq⟩
noncomputable def WO:TE:=λ_ H Q=>∀p,H p=none->Q (.ref p) (upd H p (.dK []))
noncomputable def EW:TE:=λ_ H Q=>∀p,H p=none->Q (.ref p) (upd H p (.dT []))
section
variable {X:Cx}{pos:Pos}
theorem Xv:PE X (.Dict [] [] pos) WO:=λpins s σ H Q I h=>wpAny_Dict_empty ⟨.ref s.heap.objs.size,_,I.laid (a:=s.heap.objs.size) (o:=.dK []) (t':=s.toks) (λ_ _ q=>Heap.get?_push_of_some _ q) (Nat.le_refl _) (Ql s.heap I.big),rfl,h _ (I.hL.fresh (Nat.le_refl _))⟩
theorem JZ:PE X (.Dict [] [] pos) EW:=λpins s σ H Q I h=>wpAny_Dict_empty ⟨.ref s.heap.objs.size,_,I.laid (a:=s.heap.objs.size) (o:=.dT []) (t':=s.toks) (λ_ _ q=>Heap.get?_push_of_some _ q) (Nat.le_refl _) (Lo s.heap I.big),rfl,h _ (I.hL.fresh (Nat.le_refl _))⟩
end
noncomputable def QE:List (TE×TE)->St->Hp->(List (V×V)->Hp->Prop)->Prop
|[],_,H,Q=>Q [] H
|(tk,tv)::r,σ,H,Q=>tk σ H λx H1=>tv σ H1 λy H2=>QE r σ H2 λps H3=>Q ((x,y)::ps) H3
noncomputable abbrev VV:List (V×V)->List (Value×Value)->Prop:=bZ λp q=>RelV p.1 q.1/\RelV p.2 q.2
noncomputable def vW(X:Cx)(pos:Pos)(keys:List (Option Expr))(values:List Expr)(wM:List (TE×TE)):Prop:=∀(pins:List (Addr×Obj))(s:ai)(σ:St)(H:Hp)(Q:List (V×V)->Hp->Prop),Inv X pins σ H s->QE wM σ H Q ->wpAny (model X.prog X.w) X.A (evalPairs (pairTrees keys values X.env pos)) (λvs s'=>∃ps H',Inv X pins σ H' s'/\VV ps vs/\Q ps H') X.xe s
theorem Dk  :vW X pos [] [] []:=λpins s σ H Q I h=>pairTrees_nil_walk ⟨[],H,I,.nil,h⟩
theorem Ku{X:Cx}{pos:Pos}{k v:Expr}{ks:List (Option Expr)}{vs:List Expr}{c b:TE}{a:List (TE×TE)}(hk:PE X k c)(j:PE X v b)(l:vW X pos ks vs a):vW X pos (some k::ks) (v::vs) ((c,b)::a):=λpins s σ H Q I h=>
 pairTrees_cons_walk (hU (hk pins s σ H _ I h) λu s1⟨x,H1,p,e,i⟩=>hU (j pins s1 σ H1 _ p i) λw s2⟨y,r,o,d,g⟩=>hU (l pins s2 σ r _ o g) λws s3⟨ps,q,n,rel,f⟩=>⟨(x,y)::ps,q,n,.cons ⟨e,d⟩ rel,f⟩)
noncomputable def JI(f5 more:List (Key×V)):List (Key×V):=more.foldl (λacc kv=>putK acc kv.1 kv.2) f5
theorem KV.merge:∀{more:List (Key×V)}{rs:List (Key×Value)}{a:List (Key×V)}{vs:List (Key×Value)},KV more rs->KV a vs->KV (JI a more) (merged vs rs):=by
 intro more rs a vs r;unfold KV at r;induction r generalizing a vs with
|nil=>intro q;exact q
|@cons p q ps d h t c=>
  intro b;have e:KV (putK a p.1 p.2) (stored vs q.1 q.2):=by have:=b.put p.1 h.2;rw[<-h.1];exact this
  exact c e
theorem Vy:∀(more a:List (Key×V)),(JI a more).length<=a.length+more.length
|[],a=>by show a.length<=a.length+0;omega
|p::r,a=>by have c:=Vy r (putK a p.1 p.2);have b:=YO a p.1 p.2;show(JI (putK a p.1 p.2) r).length<=_;rw[aR];omega
theorem Mp  :∀{d:List (Key×V)}{ws:List (Value×Value)},VV (d.map λe=>(kV e.1,e.2)) ws->∃rs,Carries (Zz P w) ws rs/\KV d rs
|[],_,r=>by rw[fo]at r;cases r;exact⟨[],bH,.nil⟩
|p::d,_,r=>by
  rw[aA]at r;cases r with
 |@cons a b as bs h t=>obtain⟨rs,c,q⟩:=Mp (P:=P) (w:=w) t;obtain⟨g,f⟩:=b;exact⟨(p.1,f)::rs,⟨Me h.1,rfl,c⟩,.cons ⟨rfl,h.2⟩ q⟩
noncomputable def HR(wM:List (TE×TE)):TE:=λσ H Q=>∀p,H p=none->QE wM σ (upd H p (.dK [])) λps H2=>H2 p=some (.dK [])/\∃f5:List (Key×V),ps=f5.map (λkv=>(kV kv.1,kv.2))/\f5.length<=15/\Q (.ref p) (upd H2 p (.dK (JI [] f5)))
theorem Dq{X:Cx}{pos:Pos}{keys:List (Option Expr)}{values:List Expr}{b:List (TE×TE)}(h:vW X pos keys values b)(g:keys.all (·.isSome)=true)(x:keys.length=values.length)(h0:keys≠[])(i:keys.length<=15):PE X (.Dict keys values pos) (HR b):=by
 intro pins s σ H Q I q;have v:=I.hL.fresh (Nat.le_refl s.heap.objs.size);have C:=I.laid (a:=s.heap.objs.size) (o:=.dK []) (h':=s.heap.push {cls:=.type "dict",data:=.dict #[]}) (t':=s.toks) (λ_ _ q=>Heap.get?_push_of_some _ q) (Nat.le_refl _) (Ql s.heap I.big);refine wpAny_Dict_walk (knd:=Zz X.prog X.w) g x h0 i (hU (h pins _ σ _ _ C (q _ v)) λws s2 hZ=>?_);obtain⟨ps,E,j,rel,e,d,A,lk,p⟩:=hZ;subst A;obtain⟨rs,c,l⟩:=Mp (P:=X.prog) (w:=X.w) rel;obtain⟨z,hd,D,n,B⟩:=EI j.hL e;cases n;refine⟨rs,c,B,λh' f r=>⟨.ref s.heap.objs.size,_,?_,rfl,p⟩⟩;have hz:(JI [] d).length<=sizeLine:=by have y:=Vy d [];rw[eU]at y;rw[cW];omega
 have he:∃q,h'.get? s.heap.objs.size=some q:=let ⟨q,_,_,u,_⟩:=f;⟨q,u⟩
 exact Gv j (by rw[e];exact bH) r he (Lp hz hd (l.merge .nil) f)
structure M1(X:Cx)(o:Expr)(m:Str)(apos:Pos)(e:Expr)(jU:Pos):Prop where
 base:fj o m X.env (eval o X.env)=eval o X.env
 zS:((cy jU (aH [e] X.env)).all (λx=>!x.1)&&(fB jU (dq [] X.env)).all (λx=>x.1.isSome)
 &&decide (([e]:List Expr).length+([]:List iT).length+(if([]:List iT).isEmpty then 0 else 1)<30))=true
 line:(apos.endLine==jU.line)=true
 trees:cy jU (aH [e] X.env)=[(false,eval e X.env)]
structure M2(X:Cx)(o:Expr)(m:Str)(apos:Pos)(e f:Expr)(jU:Pos):Prop where
 base:fj o m X.env (eval o X.env)=eval o X.env
 zS:((cy jU (aH [e,f] X.env)).all (λx=>!x.1)&&(fB jU (dq [] X.env)).all (λx=>x.1.isSome)
 &&decide (([e,f]:List Expr).length+([]:List iT).length+(if([]:List iT).isEmpty then 0 else 1)<30))=true
 line:(apos.endLine==jU.line)=true
 trees:cy jU (aH [e,f] X.env)=[(false,eval e X.env),(false,eval f X.env)]
noncomputable def zY(H:Hp)(a:Addr):Prop:=(∃f5,Rd H a (.dK f5))\/∃f5,Rd H a (.dT f5)
theorem Hg      (I:Inv X pins σ H s)(d:zY H a):s.TypeIs (.ref a) "dict"/\(∀b,Value.ref a=.ref b->∃c,s.heap.get? b=some c/\c.dict=none)/\(a==bC)=false:=by
 rcases d with⟨i,e⟩|⟨i,e⟩
 .obtain⟨_,hd,vs,_,f⟩:=M9 I.hL e;refine⟨f.typeIs,λb q=>?_,hd⟩;cases q;obtain⟨c,_,_,h,g,_⟩:=f;exact⟨c,h,g.2.1⟩
 .obtain⟨_,hd,xs,_,f⟩:=M6 I.hL e;refine⟨f.typeIs,λb q=>?_,hd⟩;cases q;obtain⟨c,_,_,h,g,_⟩:=f;exact⟨c,h,g.2.1⟩
section
variable {X:Cx}{pins:List (Addr×Obj)}{σ:St}{H:Hp}{s:ai}{a:Addr}{y d:V}{u r:Value}{o:Option V}{A:bh}{E:Value->ai->Prop}
theorem Hw{Q:Value->ai->Prop}(p:A.units+1<cLine)(I:Inv X pins σ H s)(g:j8 H a y o)(n:RelV y u)(rd:RelV d r)(h:∀j s',Inv X pins σ H s'->RelV (o.getD d) j->Q j s'):wpAny (model X.prog X.w) A (call (.builtin "dict.get") [.ref a,u,r]) Q E s:=by
 rcases g with⟨i,k,e,f,l⟩|⟨i,k,b,e,f,q,l⟩
 .subst f;obtain⟨z,hd,vs,rel,c⟩:=M9 I.hL e;refine call_meetsIn gM c.typeIs PySem.F.entry_dict_get (PySem.F.args_dict_get_3 _ _ _) (meets_dict_get_default (Zz X.prog X.w) a (Me n) hd r) ⟨_,c.mapOf,h _ _ (I.tok _) ?_⟩;rw[l];exact(rel.val k).getD rd
 .subst f;cases(show u=Value.ref b from n);obtain⟨z,hd,xs,rel,c⟩:=M6 I.hL e;refine call_meetsIn gM c.typeIs PySem.F.entry_dict_get (PySem.F.args_dict_get_3 _ _ _) (meetsH_dict_get_default (bQ (Zz X.prog X.w)) a b hd r) ⟨fu p,k,xs,UL I.hL q,c,h _ _ (I.tok _) ?_⟩;rw[l];exact(rel.val k).getD rd
end
noncomputable def EX(td ty tx:TE):TE:=λσ H Q=>td σ H λx H1=>∃a,x=.ref a/\zY H1 a/\ty σ H1 λy H2=>tx σ H2 λz H3=>∃o,j8 H3 a y o/\Q (o.getD z) H3
section
variable {X:Cx}{o e f:Expr}{apos jU:Pos}{td ty tx:TE}
theorem G2(v:X.A.units+1<cLine)(w:PE X o td)(he:PE X e ty)(hf:PE X f tx)(m:M2 X o "get" apos e f jU):PE X (.Call (.Attribute o "get" apos) [e,f] [] jU) (EX td ty tx):=by
 intro pins s σ H Q I h;refine wpAny_Call_method m.base m.zS m.line PySem.F.plainAttrs_dict gM PySem.F.type_dict_get (hU (w pins s σ H _ I h) λu s1 hZ=>?_);obtain⟨x,H1,c,n,a,ex,d,r⟩:=hZ;subst ex;obtain rfl:u=Value.ref a:=n;obtain⟨t1,i,_⟩:=Hg c d;refine⟨t1,i,?_⟩;rw[m.trees];refine gN rfl (hW (iD (hU (he pins s1 σ H1 _ c r) λM s2⟨y,G,D,l,q⟩=>iD (hU (hf pins s2 σ G _ D q) λfv s3⟨z,E,C,j,L,g,p⟩=>Calls.spliced_nil ?_))));exact Hw v C g l j λJ s4 B b=>⟨_,E,B,b,p⟩
end
open PySem PySem.Spec PyProof.Rows
section
variable {κ:Type}[DecidableEq κ]
theorem GA{a:List (κ×V)}{k:κ}(h:f' a k=none):¬k∈a.map (·.1):=by intro m;obtain⟨p,c,e⟩:=ao.mp m;have q:(a.any λb=>decide (b.1=k))=true:=d8.mpr ⟨p,c,decide_eq_true e⟩;rw[YX,h]at q;exact absurd q (by simp)
theorem RP{a:List (κ×V)}{k:κ}{v:V}(h:f' a k=some v):k∈a.map (·.1):=by
 have q:(a.any λb=>decide (b.1=k))=true:=by rw[YX,h];all_goals rfl
 obtain⟨p,c,e⟩:=d8.mp q;exact ao.mpr ⟨p,c,of_decide_eq_true e⟩
theorem NN:∀{l:List κ}{k:κ},l.Nodup->¬k∈l->(l++[k]).Nodup
|[],k,_,_=>by simp
|a::r,k,h,hk=>by
  obtain⟨c,b⟩:=bf.mp h;show(a::(r++[k])).Nodup;refine bf.mpr ⟨λm=>?_,NN b λm=>hk (au.mpr (gZ m))⟩;rcases aF.mp m with q|q
  .exact c q
  .exact hk (au.mpr (cV (aI.mp q).symm))
theorem Dz{a:List (κ×V)}{k:κ}(v:V)(b:(a.map (·.1)).Nodup)(h:f' a k=none):((putK a k v).map (·.1)).Nodup:=by rw[Ko v h,aG];exact NN b (GA h)
end
theorem VE(z:Str):iN z="str_ascii_iterator"\/iN z="str_iterator":=by
 unfold iN;split
 .exact .inl rfl
 .exact .inr rfl
theorem MG  {A:bh}(a:A.handled=none)(it:Addr)(x:Str)(t:Tok):Walks P w A it [it] [it] x.cps.size (SignAt x) (λi h=>h.IsStrIter it (iN x) x t i):=by
 rcases VE x with e|e
 .rw[e];exact Walks.strAscii a it x t
 .rw[e];exact Walks.strWide a it x t
noncomputable def zB(z:Str):It:=⟨λi _=>i<z.length,λi H x H'=>H'=H/\∃c,z.cps.toList[i]?=some c/\x=.str ⟨#[c]⟩,λi _=>z.length<=i⟩
theorem WL{P:Program}{w:World}{K:ae}{C:Expr}(z:Str)(t:Tok)(it:Addr):
  Turn P w K C (zB z) [it] it (λi h=>i<=z.length/\h.IsStrIter it (iN z) z t i) where
 mem:=by simp
 obj:=λi h st b a=>by
  have e:b=it:=by simpa using a
  subst e
  obtain⟨_,o,e,c,d⟩:=st
  exact⟨o,e,λv z=>by rw[d]at z;cases z⟩
 keep:=λi h h' st k=>by
  obtain⟨l,o,e,r⟩:=st
  exact⟨l,o,k it (by simp) o e,r⟩
 item:=by
  intro X q hw x p i pins s σ H E I hf st j
  subst q hw x
  obtain⟨f0,f1,f2,B,f4,y⟩:=hf it (by simp)
  have W:=MG (P:=X.prog) (w:=X.w) (I.ok.hd p) it z t
  refine W.item i s _ _ j st.2 λv h' n D f kk=>?_
  obtain⟨c,u,g,rfl⟩:=D
  have J:Inv X pins σ H {s with heap:=h',toks:=n}:=I.turned (λb o a e=>kk b o (by simpa using a) e) f0 f1 B f4 y
  obtain⟨o,e,G,d⟩:=id f
  refine⟨_,rfl,Qf (s:={s with heap:=h',toks:=n}) e G d ?_ ⟨.str ⟨#[c]⟩,H,J,⟨u,rfl⟩,⟨rfl,c,by simpa using g,rfl⟩,⟨j,f⟩,λb a=>(hf b a).1⟩⟩
  rcases VE z with e|e<;>rw[e]<;>decide
 done:=by
  intro X q hw x p i pins s σ H E I hf st j
  subst q hw x
  obtain⟨f0,f1,f2,B,f4,y⟩:=hf it (by simp)
  have W:=MG (P:=X.prog) (w:=X.w) (I.ok.hd p) it z t
  obtain⟨F,st⟩:=st
  have e:i=z.length:=Nat.le_antisymm F j
  subst e
  exact W.done s _ _ st λh' n kk=>⟨rfl,I.turned (λb o a e=>kk b o (by simpa using a) e) f0 f1 B f4 y⟩
 self:=λA i s Q E st h=>by
  obtain⟨_,st⟩:=st
  rcases VE z with e|e
  .rw[e]at st;exact wpAny_pyIter_striter_ascii st h
  .rw[e]at st;exact wpAny_pyIter_striter_wide st h
section
variable {X:Cx}{tg:Expr}
noncomputable def yv(tl:TE):TI:=λσ H R=>tl σ H λx H1=>∃z,x=.str z/\R (zB z) H1
theorem Fd{l:Expr}{c:TE}(g:PE X l c):PI X tg l (yv c):=by
 intro pins s σ H R I h;refine hU (g pins s σ H _ I h) λv s1 hZ=>?_;obtain⟨x,H1,a,d,f⟩:=hZ;obtain⟨z,e,q⟩:=f;subst e;obtain⟨t,rfl⟩:=d;refine wpAny_pyIter_strU ?_;refine⟨s1.heap.objs.size,[s1.heap.objs.size],_,_,H1,rfl,a.kept (t':=s1.toks) λb o e=>Heap.get?_push_of_some _ e,WL z t _,⟨Nat.zero_le _,_,Heap.get?_push_size _ rfl,rfl,rfl⟩,λb i=>?_,q⟩;have e:b=s1.heap.objs.size:=by simpa using i
 subst e;exact a.nJ (Nat.le_refl _) (a.hL.fresh (Nat.le_refl _))
end
theorem Jr{α:Type}{n:Nat}{l:List α}(h:l.length=n+1):∃a t,l=a::t/\t.length=n:=by
 cases l with
|nil=>cases h
|cons a t=>exact⟨a,t,rfl,Nat.succ.inj h⟩
theorem rh{α:Type}{l:List α}(h:l.length=1):∃a,l=[a]:=by obtain⟨a,t,rfl,h'⟩:=Jr h;exact⟨a,by rw[aZ h']⟩
theorem m6{α:Type}{l:List α}(h:l.length=2):∃a b,l=[a,b]:=by obtain⟨a,t,rfl,h'⟩:=Jr h;obtain⟨b,rfl⟩:=rh h';exact⟨a,b,rfl⟩
theorem ph{α:Type}{l:List α}(h:l.length=3):∃a b c,l=[a,b,c]:=by obtain⟨a,t,rfl,h'⟩:=Jr h;obtain⟨b,c,rfl⟩:=m6 h';exact⟨a,b,c,rfl⟩
theorem oF{α:Type}{l:List α}(h:l.length=4):∃a b c d,l=[a,b,c,d]:=by obtain⟨a,t,rfl,h'⟩:=Jr h;obtain⟨b,c,d,rfl⟩:=ph h';exact⟨a,b,c,d,rfl⟩
theorem qs{α:Type}{l:List α}(h:l.length=5):∃a b c d e,l=[a,b,c,d,e]:=by obtain⟨a,t,rfl,h'⟩:=Jr h;obtain⟨b,c,d,e,rfl⟩:=oF h';exact⟨a,b,c,d,e,rfl⟩
theorem sZ{α:Type}{l:List α}(h:l.length=6):∃a b c d e f,l=[a,b,c,d,e,f]:=by obtain⟨a,t,rfl,h'⟩:=Jr h;obtain⟨b,c,d,e,f,rfl⟩:=qs h';exact⟨a,b,c,d,e,f,rfl⟩
section
variable {prog:Program}{w:World}{A:bh}{R:Result->ai->Prop}{s:ai}
noncomputable abbrev sr:Value->ai->Prop:=λ_ _=>False
theorem EM{α:Type}{M:Model}{t:Sem α}{Q:α->ai->Prop}{E:Value->ai->Prop}(h:wpAny M A t Q sr s):wpAny M A t Q E s:=cj h (λ_ _ q=>q) λ_ _ x=>x.elim
theorem Qn{elt target iter:Expr}{ifs:List Expr}{scope:Scope}{pos:Pos}{it acc:Value}{env:Env}(I:Nat->ai->Prop)
  (turn:∀n s,I n s->wpAny (model prog w) A (pyNext it) (λr b=>match r with
  |none=>R (.ok .next) b
  |some v=>wpAny (model prog w) A (iu target it v) (λ_ jW=>wpAny (model prog w) A (assign target env v) (λ_ f=>
     wpAny (model prog w) A (forIn ifs true λc r=>if r=true then do let ok <-isTrue c env (eval c env);pure (d9 ok)else pure (d9 r)) (λok a=>
      if ok=true then wpAny (model prog w) A (eval elt env) (λx e=>wpAny (model prog w) A (call (.builtin "list.append") [acc,x]) (λ_ d=>∃m,m<n/\I m d) sr e) sr a
      else ∃m,m<n/\I m a) sr f) sr jW) sr b) sr s)
  (n:Nat) (h:I n s):
  gO (model prog w) A (.compLoop (.ListComp elt [⟨target,iter,ifs,0⟩] scope pos) 0 it acc env) R s:=by
 refine codeAny_loop rfl I (λn s p=>?_) n h
 show wpAny _ A ((compTurn (.ListComp elt [⟨target,iter,ifs,0⟩] scope pos) 0 it acc env).onRaise (λx=>do noteFrame x env;theTreesLotGoes x)) _ _ s
 refine wpAny_noted (EM ?_)
 rw[compTurn_list]
 refine aa (fV (aa (hU (turn n s p) (λr b i=>?_))))
 cases r with
|none=>exact ah i
|some v=>
  refine aa (hU i λ_ jW h₀=>?_)
  refine aa (hU h₀ λ_ f o=>aa (hU o λok a g=>?_))
  cases ok with
 |false=>exact ah ⟨rfl,g⟩
 |true=>exact aa (aa (hU g λx e l=>aa (hU l λ_ d j=>ah (ah ⟨rfl,j⟩))))
end
noncomputable def pB(env:Env):List (Str×eM)->List (Str×Addr)->List (Str×Addr)
|[],cs=>cs
|(n,k)::r,cs=>pB env r (if k==.free then(n,(env.cells.lookup n).getD 0)::cs else cs)
noncomputable def pY(scope:Scope)(env:Env):List (Str×Addr):=pB env scope.names []
theorem VN{env:Env}:∀(names:List (Str×eM))(cs:List (Str×Addr)),(∀x∈names,x.2=.free->∃c,env.cells.lookup x.1=some c) ->
  (forIn names cs λ(x:Str×eM)(r:List (Str×Addr))=>(match x with
  |(name,kind)=>if(kind==.free)=true then(do let c <-cellOf env name;pure (d9 ((name,c)::r)))else pure (d9 r):Sem (ForInStep (List (Str×Addr)))))
   = pure (pB env names cs)
|[],cs,_=>rfl
|(n,k)::r,cs,h=>by
  rw[List.forIn_cons]
  cases hk:k==b7 with
 |true=>
   obtain⟨c,b⟩:=h (n,k) ay (by simpa using hk)
   have e:cellOf env n=pure c:=by unfold cellOf;rw[show env.cells.lookup n=some c from b]
   simp only[hk,if_true,e,pB,pure_bind]
   rw[show env.cells.lookup n=some c from b]
   exact VN r _ λx a=>h x (ar _ a)
 |false=>
   simp only[hk,Bool.false_eq_true,if_false,pB,pure_bind]
   exact VN r _ λx a=>h x (ar _ a)
theorem Rn{scope:Scope}{env:Env}(h:∀x∈scope.names,x.2=.free->∃c,env.cells.lookup x.1=some c):closureFor scope env=pure (pY scope env):=by have e:=VN (env:=env) scope.names [] h;unfold closureFor pY;rw[<-e];simp only[bind_pure]
theorem Nb{env:Env}:∀(names:List (Str×eM))(cs:List (Str×Addr)),(∀y∈names,y.2=.free->∃c,env.cells.lookup y.1=some c)->(∀c,cs.lookup x=some c->env.cells.lookup x=some c) ->(∀c,(pB env names cs).lookup x=some c->env.cells.lookup x=some c)/\(((x,b7)∈names\/(cs.lookup x).isSome=true)->((pB env names cs).lookup x).isSome=true):=by
 intro names;induction names with
|nil=>intro cs _ h;exact⟨h,λz=>z.elim (λz=>absurd z (by simp)) id⟩
|cons p r j=>
  obtain⟨n,k⟩:=p;intro cs hf h;have l:∀y∈r,y.2=b7->∃c,env.cells.lookup y.1=some c:=λy o=>hf y (ar _ o);show(∀c,(pB env r (if k==.free then(n,(env.cells.lookup n).getD 0)::cs else cs)).lookup x=some c->_)/\(_->((pB env r (if k==.free then(n,(env.cells.lookup n).getD 0)::cs else cs)).lookup x).isSome=true);cases hk:k==b7 with
 |true=>
   obtain⟨g,i⟩:=hf (n,k) ay (by simpa using hk);have d:env.cells.lookup n=some g:=i;simp only[if_true,d,Option.getD_some];have s:∀c,((n,g)::cs).lookup x=some c->env.cells.lookup x=some c:=λc q=>by
    rw[dz]at q;cases f:x==n with
   |true=>
     rw[f]at q;have e:x=n:=by simpa using f
     subst e;cases q;exact d
   |false=>rw[f]at q;exact h c q
   obtain⟨a,b⟩:=j ((n,g)::cs) l s;refine⟨a,λz=>b ?_⟩;by_cases f:x=n
   .right;subst f;simp
   .rcases z with z|z
    .rcases au.mp z with e|z
     .exact absurd (congrArg Prod.fst e) f
     .exact .inl z
    .right;have:(x==n)=false:=by simpa using f
     rw[dz,this];exact z
 |false=>
   simp only[Bool.false_eq_true,if_false];obtain⟨a,b⟩:=j cs l h;refine⟨a,λz=>b ?_⟩;rcases z with z|z
   .rcases au.mp z with e|z
    .have:k=.free:=(congrArg Prod.snd e).symm;rw[this]at hk;exact absurd hk (by decide)
    .exact .inl z
   .exact .inr z
structure jm(scope sc:Scope):Prop where
 kind:scope.kind=.function
 qr:∀y∈scope.names,y.2≠.cell
 loc:∀y∈scope.names,y.2=.local->scope.names.lookup y.1=some .local
 free:∀y∈scope.names,y.2=.free->sc.names.lookup y.1=some .cell\/sc.names.lookup y.1=some .free
theorem VY{scope:Scope} (j:∀y∈scope.names,y.2≠.cell):∀{k:eM},(relabel scope env).names.lookup x=some k->(k=.cell\/k=.free)->(x,b7)∈scope.names:=by
 have go:∀(names:List (Str×eM)),(∀y∈names,y.2≠fY)->∀{k:eM},(names.map λ(n,k)=>if(k==b7&&env.scope.kind==.function&&env.kindOf n==some .cell)then(n,fY)else(n,k)).lookup x=some k->(k=.cell\/k=.free)->(x,b7)∈names:=by
  intro names;induction names with
 |nil=>intro _ k h _;simp at h
 |cons y r g=>
   intro i k h hk;obtain⟨n,c⟩:=y;have b:∀y∈r,y.2≠fY:=λy l=>i y (ar _ l);have f:c≠fY:=i (n,c) ay;rw[aA]at h;by_cases d:(c==b7&&env.scope.kind==.function&&env.kindOf n==some .cell)=true
   .simp only[d,if_true]at h;rw[dz]at h;cases a:x==n with
   |true=>
     have e:x=n:=by simpa using a
     have o:c=.free:=by simp only[Bool.and_eq_true]at d;simpa using d.1.1
     subst e o;exact ay
   |false=>rw[a]at h;exact ar _ (g b h hk)
   .simp only[d]at h;simp only[if_false,Bool.false_eq_true]at h;rw[dz]at h;cases a:x==n with
   |true=>
     rw[a]at h;cases h;have e:x=n:=by simpa using a
     subst e;rcases hk with e|e
     .exact absurd e f
     .rw[e];exact ay
   |false=>rw[a]at h;exact ar _ (g b h hk)
 intro k h hk;exact go scope.names j h hk
theorem MA   :(relabel scope env).names.lookup x=some .local->scope.names.lookup x=some .local:=by
 have go:∀(names:List (Str×eM)),(names.map λ(n,k)=>if(k==b7&&env.scope.kind==.function&&env.kindOf n==some .cell)then(n,fY)else(n,k)).lookup x=some .local->names.lookup x=some .local:=by
  intro names;induction names with
 |nil=>intro h;simp at h
 |cons y r b=>
   intro h;obtain⟨n,d⟩:=y;rw[aA]at h;rw[dz];by_cases c:(d==b7&&env.scope.kind==.function&&env.kindOf n==some .cell)=true
   .simp only[c,if_true]at h;rw[dz]at h;cases a:x==n with
   |true=>rw[a]at h;cases h
   |false=>rw[a]at h;exact b h
   .simp only[c]at h;simp only[if_false,Bool.false_eq_true]at h;rw[dz]at h;cases a:x==n with
   |true=>rw[a]at h;exact h
   |false=>rw[a]at h;exact b h
 exact go scope.names
noncomputable def X2(X:Cx)(scope:Scope)(N:List Str)(C:Addr)(s:ai)(H:Hp)(ex:List Addr)(pn:List (Addr×Obj)):Cx where
 prog:=X.prog
 w:=X.w
 K:=X.K
 mg:=X.mg
 base:=X.base
 A:=X.A
 N:=N
 jW:=s
 pF:=H
 env:=compEnvC scope (pY scope X.env) C X.env
 outer:=X.stack
 stack:=X.stack
 ex:=ex
 calm:=X.calm
 fn:=λ_=>false
 pn:=pn
 xe:=sr
noncomputable def inner(cp:List (Option Nat))(σ:St):St:=cp.map λo=>o.bind λj=>(σ[j]?).join
structure ji(N0:List Str)(scope:Scope)(N:List Str)(cp:List (Option Nat)):Prop where
 len:cp.length=N.length
 at_:∀(i j:Nat)(x:Str),cp[i]?=some (some j)->N[i]?=some x->N0[j]?=some x/\scope.names.lookup x=some .free
noncomputable def namesOk(N0:List Str)(scope:Scope)(N:List Str)(cp:List (Option Nat)):Bool:=(cp.length==N.length)&&(a_ cp.length).all λi=>match cp[i]?,N[i]? with
 |some (some j),some x=>N0[j]?==some x&&scope.names.lookup x==some .free
 |_,_=>true
theorem ji.mk'    (h:namesOk d scope N cp=true):ji d scope N cp:=by unfold namesOk at h;rw[Bool.and_eq_true,bW]at h;refine⟨by simpa using h.1,λi j x a c=>?_⟩;have b:i<cp.length:=(aj.mp a).1;have q:=h.2 i (bq.mpr b);rw[a,c]at q;simpa using q
section
variable {X:Cx}{pins:List (Addr×Obj)}{σ:St}{H:Hp}{s:ai}
theorem Qo (I:Inv X pins σ H s)(S:jm scope X.env.scope):∀y∈scope.names,y.2=.free->∃c,X.env.cells.lookup y.1=some c:=λy a e=>I.ok.has y.1 (S.free y a e)
theorem Lc   {E:List Addr}{od:Obj}{C:Heap}{tk:Nat}(S:jm scope X.env.scope)(CN:ji X.N scope N cp)(I:Inv X pins σ H s)(B:∀b∈E,p' X pins H b)(ak:∀b∈E,∃o,s.heap.get? b=some o)(Y:∀v,od.data≠.cell v)(Z:C.Ns (s.heap.push od).objs.size (λx=>([]:List (Str×Value)).reverse.lookup x))(hk:∀b o,(s.heap.push od).get? b=some o->C.get? b=some o)(ag:od.isFreed=false):Inv (X2 X scope N (s.heap.push od).objs.size {s with heap:=s.heap.push od} H (s.heap.objs.size::E) (X.pn++pins)) [(s.heap.objs.size,od)] (inner cp σ) H {s with heap:=C,toks:=tk}:=by
 have cl:=Qo I S;have look:∀x c,(pY scope X.env).lookup x=some c->X.env.cells.lookup x=some c:=λx=>(Nb scope.names [] cl (λc q=>by simp at q)).1;have h:∀x,(x,b7)∈scope.names->∃c,(pY scope X.env).lookup x=some c:=λx g=>
  bw.mp ((Nb scope.names [] cl (λc q=>by simp at q)).2 (.inl g));have kp:∀b o,s.heap.get? b=some o->(s.heap.push od).get? b=some o:=λb o e=>Heap.get?_push_of_some _ e;have w:∀b o,s.heap.get? b=some o->C.get? b=some o:=λb o e=>hk b o (kp b o e);have hz:(s.heap.push od).objs.size=s.heap.objs.size+1:=Heap.size_push ..;have F:Inv X pins σ H {s with heap:=s.heap.push od}:=I.kept (t':=s.toks) kp;have hD:H s.heap.objs.size=none:=I.hL.fresh (Nat.le_refl _);have hC:H (s.heap.push od).objs.size=none:=F.hL.fresh (Nat.le_refl _);have aS:C.get? s.heap.objs.size=some od:=hk _ _ (Heap.get?_push_size _ ag);have G:∀b∈l_ X.stack,b<s.heap.objs.size:=λb hb=>by
  rcases au.mp (I.mM b hb)with e|e
  .rw[e];exact I.lt
  .exact Nat.lt_of_not_le λz=>I.uj z e
 have a0:∀b∈E,b∉l_ X.stack:=λb hb hs=>by
  obtain⟨_,g1,g2,_⟩:=B b hb;rcases au.mp (I.mM b hs)with e|e
  .exact g1 e
  .exact g2 e
 have O:∀b∈E,b<s.heap.objs.size:=λb hb=>let ⟨o,e⟩:=ak b hb;Heap.lt_size e
 refine⟨⟨I.ok.mod,S.kind,I.ok.glob,I.ok.blt,Nat.le_refl _,λx y c A D=>I.ok.inj x y c (look x c A) (look y c D),λx g=>?_,λx c hf _=>(by cases hf),I.ok.hd,I.ok.frames,.inl rfl,λb hb=>?_,F.bs,Nat.le_trans I.ok.r9 F.sz,λb o e hb=>?_,λb hb=>?_,F.stack,F.mW⟩,rfl,I.bare,Un.kept hk,⟨_,Z,λi x v A D h3=>?_⟩,λx c g=>?_,hC,λx c g=>I.ki x c (look x c g),λp hp=>?_,I.hL.kept w,?_⟩
 .have U:(relabel scope X.env).names.lookup x=some .cell\/(relabel scope X.env).names.lookup x=some .free:=g;rcases U with e|e
  .exact h x (VY S.qr e (.inl rfl))
  .exact h x (VY S.qr e (.inr rfl))
 .show b≠(s.heap.push od).objs.size/\∀x c,(pY scope X.env).lookup x=some c->c≠b;rcases au.mp hb with e|hb
  .subst e;refine⟨by rw[hz];exact Nat.ne_of_lt (Nat.lt_succ_self _),λx c g z=>?_⟩;obtain⟨v,q⟩:=I.cell x c (look x c g);exact absurd q.lt (by rw[z];exact Nat.lt_irrefl _)
  .exact⟨by rw[hz];exact Nat.ne_of_lt (Nat.lt_succ_of_lt (O b hb)),λx c g=>(B b hb).2.2.2.2.1 x c (look x c g)⟩
 .rcases au.mp hb with z|hb
  .subst z;have A:=Heap.lt_size (I.bk _ _ e);exact Nat.lt_irrefl _ A
  .obtain⟨_,_,_,g3,_⟩:=B b hb;rcases g3 with g3|g3
   .exact I.ok.qq b o e g3
   .have A:=Heap.lt_size e;have D:=I.ok.r9;exact absurd (Nat.lt_of_lt_of_le A (Nat.le_trans D g3)) (Nat.lt_irrefl _)
 .show b∉l_ X.stack;rcases au.mp hb with z|hb
  .subst z;exact λz=>Nat.lt_irrefl _ (G _ z)
  .exact a0 b hb
 .have a:(inner cp σ)[i]?=some (some v):=D;unfold inner at a;rw[aY]at a;cases Q:cp[i]? with
 |none=>rw[Q]at a;cases a
 |some oj=>
   rw[Q]at a;cases oj with
  |none=>have:(none:Option V)=some v:=ax a;cases this
  |some j=>
    have f:(σ[j]?).join=some v:=ax a;have T:σ[j]?=some (some v):=by
     cases q:σ[j]? with
    |none=>rw[q]at f;cases f
    |some o=>rw[q]at f;exact congrArg some f
    obtain⟨hN,l⟩:=CN.at_ i j x Q A;have r:(x,b7)∈scope.names:=di l;have J:=S.free _ r rfl;obtain⟨m,hn,hl⟩:=I.loc;have M:vI X.env.scope x:=J.elim (λz=>.inr (.inl z)) λz=>.inr (.inr z);obtain⟨u,ru,lk⟩:=hl j x v hN T M;refine⟨u,ru,?_⟩;rcases lk with⟨z,_⟩|⟨_,c,aC,cc⟩
    .rcases J with q|q<;>(have z':=z.symm.trans q;cases z')
    .obtain⟨R,L⟩:=h x r;have aM:R=c:=by have:=(look x R L).symm.trans aC;exact ax this
     subst aM;obtain⟨o,P,hd⟩:=cc;refine .inr ⟨?_,R,L,⟨o,w _ _ P,hd⟩⟩;rcases h3 with q|q|q
     .have q':=(MA q).symm.trans l;cases q'
     .exact .inl q
     .exact .inr q
 .obtain⟨v,o,P,hd⟩:=I.cell x c (look x c g);exact⟨v,o,w _ _ P,hd⟩
 .have W:p∈(X.pn++pins)++[(s.heap.objs.size,od)]:=hp;rcases aF.mp W with yC|yC
  .obtain⟨e,n,ne,nf,d⟩:=I.pin p yC;have ab:=Heap.lt_size e;refine⟨w _ _ e,n,by show p.1≠(s.heap.push od).objs.size;rw[hz];exact Nat.ne_of_lt (Nat.lt_succ_of_lt ab),λhb=>?_,d⟩;rcases au.mp (I.mM _ hb)with z|z
   .exact ne z
   .exact nf z
  .have e:p=(s.heap.objs.size,od):=by simpa using yC
   subst e;exact⟨aS,hD,by show s.heap.objs.size≠(s.heap.push od).objs.size;rw[hz];exact Nat.ne_of_lt (Nat.lt_succ_self _),λz=>Nat.lt_irrefl _ (G _ z),Y⟩
 .show(inner cp σ).length=N.length;unfold inner;rw[bU];exact CN.len
end
noncomputable def Z2(pk:List Value)(k:Nat):Obj:={cls:=.type "list",data:=.seq pk.toArray k}
theorem U3 {k:Nat}:∀v,(Z2 a k).data≠.cell v:=λv z=>by have b:Data.seq a.toArray k=Data.cell v:=z;cases b
section
variable {X:Cx}
noncomputable def va(X:Cx)(ifs:List Expr)(t:TT):Prop:=
 ∀(pins:List (Addr×Obj))(s:ai)(σ:St)(H:Hp)(Q:Bool->Hp->Prop),Inv X pins σ H s->t σ H Q ->
  wpAny (model X.prog X.w) X.A (forIn ifs true λc r=>if r=true then do let ok <-isTrue c X.env (eval c X.env);pure (d9 ok)else pure (d9 r)) (TP X pins σ Q) X.xe s
noncomputable def ue:TT:=λ_ H Q=>Q true H
theorem Gg:va X [] ue:=λ_ _ _ H _ I h=>wpAny_tests_nil ⟨H,I,h⟩
theorem Vm  (h:PT X c t):va X [c] t:=λpins s σ H Q I hw=>wpAny_tests_one (h pins s σ H Q I hw)
noncomputable def WQ(cp:List (Option Nat))(wi:TI)(g:TG)(tc:TT)(te:TE):TE:=λσ H Q=>wi σ H λJ H1=>∃W:Nat->Nat->List V->St->Hp->Prop,(∃m,W 0 m [] (inner cp σ) H1)/\∀i m ys τ H,W i m ys τ H ->(J.stop i H/\∀l,H l=none->Q (.ref l) (upd H l (.lst ys))) \/(J.go i H/\ys.length<sizeLine/\∃N:List V->St->Hp->Prop,(∀zK zJ H',N zK zJ H'->∃m',m'<m/\W (i+1) m' zK zJ H') /\∀x H',J.rE i H x H'->g x τ H' λvR H2=>tc vR H2 λb H3=>if b=true then te vR H3 λy H4=>N (ys++[y]) vR H4 else N ys vR H3)
theorem JS{J:It}{g:TG}{tc:TT}{te:TE} {R:List V->Hp->Prop}(n:Nat)(C:n<=sizeLine)(Pv:Nat->List V->St->Hp->Prop)(h0:Pv 0 [] s B)(A:∀i a c H,Pv i a c H->a.length<=i)(u:∀i a c H,i<n->Pv i a c H->J.go i H)(l:∀a c H,Pv n a c H->J.stop n H)(z:∀i a c H x H',i<n->Pv i a c H->J.rE i H x H'->g x c H' λd r=>tc d r λb o=>if b=true then te d o λy q=>Pv (i+1) (a++[y]) d q else Pv (i+1) a d o)(hd:∀a c H,Pv n a c H->R a H):∃W:Nat->Nat->List V->St->Hp->Prop,(∃m,W 0 m [] s B)/\∀i m a c H,W i m a c H ->(J.stop i H/\R a H) \/(J.go i H/\a.length<sizeLine/\∃N:List V->St->Hp->Prop,(∀h f H',N h f H'->∃v,v<m/\W (i+1) v h f H') /\∀x H',J.rE i H x H'->g x c H' λd r=>tc d r λb o=>if b=true then te d o λy q=>N (a++[y]) d q else N a d o):=by
 refine⟨λi m a c H=>m=n-i/\i<=n/\Pv i a c H,⟨n,rfl,Nat.zero_le _,h0⟩,?_⟩;rintro i m a c H ⟨rfl,D,p⟩;by_cases j:i<n
 .refine .inr ⟨u i a c H j p,?_,Pv (i+1),λh f H' w=>⟨n-(i+1),by omega,rfl,j,w⟩,λx H' y=>z i a c H x H' j p y⟩;have:=A i a c H p;omega
 .have e:i=n:=by omega
  subst e;exact .inl ⟨l a c H p,hd a c H p⟩
theorem Ur{J:It}{g:TG}{te:TE} {R:List V->Hp->Prop}(n:Nat)(u:n<=sizeLine)(Pv:Nat->List V->St->Hp->Prop)(h0:Pv 0 [] o w)(v:∀i a d H,Pv i a d H->a.length<=i)(p:∀i a d H,i<n->Pv i a d H->J.go i H)(e:∀a d H,Pv n a d H->J.stop n H)(s:∀i a d H x H',i<n->Pv i a d H->J.rE i H x H'->g x d H' λc l=>te c l λy j=>Pv (i+1) (a++[y]) c j)(hd:∀a d H,Pv n a d H->R a H):∃W:Nat->Nat->List V->St->Hp->Prop,(∃m,W 0 m [] o w)/\∀i m a d H,W i m a d H ->(J.stop i H/\R a H) \/(J.go i H/\a.length<sizeLine/\∃N:List V->St->Hp->Prop,(∀h f H',N h f H'->∃q,q<m/\W (i+1) q h f H') /\∀x H',J.rE i H x H'->g x d H' λc l=>ue c l λb r=>if b=true then te c r λy j=>N (a++[y]) c j else N a c r):=JS (J:=J) (g:=g) (tc:=ue) (te:=te) n u Pv h0 v p e s hd
theorem Na                 (hc:X.calm=true)(hS:jm scope X.env.scope)(hN:ji X.N scope N cp)(hi:PI X tg iter wi)(hg:∀C s H ex pn,PG (X2 X scope N C s H ex pn) tg g)(ht:∀C s H ex pn,va (X2 X scope N C s H ex pn) ifs tc)(he:∀C s H ex pn,PE (X2 X scope N C s H ex pn) elt te)(hs:∀x,gS iter X.env x=pure x)(I:Inv X pins σ H s)(h:WQ cp wi g tc te σ H Q)(out:∀(D C:Addr)(H5:Hp)(s4:ai)(m:Str->Option Value),Inv X pins σ H5 s4->s4.heap.Ns C m->C≠X.env.locals->(∀y c,X.env.cells.lookup y=some c->c≠C)->H5 C=none->X.jW.heap.objs.size<=C->(∀p∈X.pn++pins,p.1≠C)->Q (.ref D) H5->compPost (model X.prog X.w) X.A X.xe use R (.ref D) C (.ok .next) s4):wpAny (model X.prog X.w) X.A (comprehension (.ListComp elt [⟨tg,iter,ifs,0⟩] scope pos) scope X.env cT (newList []) false (eval iter X.env) use) R X.xe s:=by
 refine wpAny_comprehension_free (use:=use) (cl:=pY scope X.env) rfl hs (Rn (Qo I hS)) hS.kind hS.loc (hU (hi pins s σ H _ I h) λv s1 h1=>hU h1 λcX s2 h2=>?_);obtain⟨it,L,tn,J,H2,rfl,O,T,aM,f2,W,⟨m0,w0⟩,turn⟩:=h2;refine bS (wpAny_newFunctionEnv hS.qr (by intro y hy;simp at hy) (λh4 bM bx=>?_) hS.kind);dsimp only at bM bx ⊢;have hz:(s2.heap.push (Z2 [] 0)).objs.size=s2.heap.objs.size+1:=Heap.size_push ..;have aS:∀b o,(s2.heap.push (Z2 [] 0)).get? b=some o->h4.get? b=some o:=λb o e=>bx.extBut b o (Nat.ne_of_lt (Heap.lt_size e)) (Heap.get?_push_of_some _ e);have b0:∀b∈L,∃o,s2.heap.get? b=some o:=λb a=>let ⟨o,e,_⟩:=T.obj _ _ aM b a;⟨o,e⟩
 have ak:∀b∈L,b<s2.heap.objs.size:=λb a=>let ⟨o,e⟩:=b0 b a;Heap.lt_size e
 generalize f:X2 X scope N (s2.heap.push (Z2 [] 0)).objs.size {s2 with heap:=s2.heap.push (Z2 [] 0)} H2 (s2.heap.objs.size::L) (X.pn++pins)=j;have J0:∀tk,Inv j [(s2.heap.objs.size,Z2 [] 0)] (inner cp σ) H2 {s2 with heap:=h4,toks:=tk}:=λtk=>by rw[<-f];exact Lc hS hN O f2 b0 U3 bM aS rfl
 have cx:PG j tg g:=f▸hg _ _ _ _ _;have cm:va j ifs tc:=f▸ht _ _ _ _ _;have cB:PE j elt te:=f▸he _ _ _ _ _;have eP:j.prog=X.prog:=by rw[<-f];rfl
 have eW:j.w=X.w:=by rw[<-f];rfl
 have eK:j.K=X.K:=by rw[<-f];rfl
 have eA:j.A=X.A:=by rw[<-f];rfl
 have eC:j.calm=true:=by rw[<-f];exact hc
 have eX:j.xe=sr:=by rw[<-f];rfl
 have eE:j.env=compEnvC scope (pY scope X.env) (s2.heap.push (Z2 [] 0)).objs.size X.env:=by rw[<-f];rfl
 have eL:j.env.locals=(s2.heap.push (Z2 [] 0)).objs.size:=by rw[eE];rfl
 have b5:j.fs=l_ X.stack:=by rw[<-f];rfl
 have G:j.ex=s2.heap.objs.size::L:=by rw[<-f];rfl
 have cP:j.pF=H2:=by rw[<-f];rfl
 have b3:j.jW={s2 with heap:=s2.heap.push (Z2 [] 0)}:=by rw[<-f];rfl
 have b4:j.pn=X.pn++pins:=by rw[<-f];rfl
 have cc:∀b∈l_ X.stack,b<s2.heap.objs.size:=λb a=>by
  rcases au.mp (O.mM b a)with e|e
  .rw[e];exact O.lt
  .exact Nat.lt_of_not_le λz=>O.uj z e
 have ag:s2.heap.objs.size≠j.env.locals:=by rw[eL,hz];exact Nat.ne_of_lt (Nat.lt_succ_self _)
 have b6:s2.heap.objs.size∉j.fs:=by rw[b5];exact λz=>Nat.lt_irrefl _ (cc _ z)
 have cC:∀p∈j.pn,p.1≠s2.heap.objs.size:=λp hp=>by rw[b4]at hp;exact Nat.ne_of_lt (Heap.lt_size (O.pin p hp).1)
 have cE:∀{M:St}{H':Hp}{s':ai}{ps:List (Addr×Obj)},Inv j ps M H' s'->∀x c,j.env.cells.lookup x=some c->c≠s2.heap.objs.size:=λI' x c e=>(I'.ok.u9 _ (by rw[G];exact ay)).2 x c e;have Y:∀{M:St}{H':Hp}{s':ai}{ps:List (Addr×Obj)}{o:Obj},Inv j ps M H' s'->(∀b∈L,H' b=none)->∀b∈L,p' j [(s2.heap.objs.size,o)] H' b:=λI' hn b a=>by
  have q:=I'.ok.u9 b (by rw[G];exact ar _ a);refine⟨hn b a,q.1,I'.ok.qx b (by rw[G];exact ar _ a),.inl (by rw[G];exact ar _ a),q.2,λp hp=>?_⟩;rcases aF.mp hp with hp|hp
  .rw[b4]at hp;exact(f2 b a).2.2.2.2.2 p hp
  .have e:p.1=s2.heap.objs.size:=by rw[aI]at hp;rw[hp]
   rw[e];exact Nat.ne_of_gt (ak b a)
 have run:∀s5:ai,(∃tk,s5={s2 with heap:=h4,toks:=tk})->gO (model X.prog X.w) X.A (.compLoop (.ListComp elt [⟨tg,iter,ifs,0⟩] scope pos) 0 (.ref it) (.ref s2.heap.objs.size) j.env) (compPost (model X.prog X.w) X.A X.xe use R (.ref s2.heap.objs.size) (s2.heap.push (Z2 [] 0)).objs.size) s5:=by
  rintro s5 ⟨tk,rfl⟩;refine Qn (λn s'=>∃i Z M H' l k,Inv j [(s2.heap.objs.size,Z2 l k)] M H' s'/\Vals Z l/\tn i s'.heap/\(∀b∈L,H' b=none)/\W i n Z M H'/\Z.length<=sizeLine) ?_ m0 ⟨0,[],inner cp σ,H2,[],0,J0 tk,.nil,T.keep _ _ _ aM λb a o e=>aS b o (Heap.get?_push_of_some _ e),λb a=>(f2 b a).1,w0,Nat.zero_le _⟩;rintro n s3 ⟨i,Z,M,H3,l,k,I3,rv,a5,b2,w3,bT⟩;rcases turn i n Z M H3 w3 with⟨stop,qn⟩|⟨go,hl,Nw,b1,step⟩
  .have dn:=T.done j eP eW eK eC i _ s3 M H3 sr I3 (Y I3 b2) a5 stop;rw[eA]at dn;refine hU dn λr s4⟨hr,I4⟩=>?_;subst hr;obtain⟨m,hn,_⟩:=id I4.loc;rw[eL]at hn;have U:Heap.SameBut (s2.heap.push (Z2 [] 0)).objs.size s4.heap s4.heap:=Heap.SameBut.refl ..;obtain⟨eD,nD,_⟩:=I4.pin (s2.heap.objs.size,Z2 l k) (bc _ ay);have u4:=I4.base;rw[b5,G,cP,b3]at u4;have a0:H2 s2.heap.objs.size=none:=O.hL.fresh (Nat.le_refl _);have B:=I4.free;rw[eL]at B;have kp:∀b o,s2.heap.get? b=some o->(s2.heap.push (Z2 [] 0)).get? b=some o:=λb o e=>Heap.get?_push_of_some _ e;have a6:∀b o,s2.heap.get? b=some o->b≠s2.heap.objs.size:=λb o e=>Nat.ne_of_lt (Heap.lt_size e);have S:∀b o,s2.heap.get? b=some o->b≠(s2.heap.push (Z2 [] 0)).objs.size:=λb o e=>by rw[hz];exact Nat.ne_of_lt (Nat.lt_succ_of_lt (Heap.lt_size e))
   have ab:∀b o,s2.heap.get? b=some o->b∉L->b∉s2.heap.objs.size::L:=λb o e a z=>(au.mp z).elim (a6 b o e) a;have I5:Inv X pins σ (upd H3 s2.heap.objs.size (.lst Z)) s4:=by
    refine O.rZ (s':=s4) (ch:=L) ?_ ⟨λb o e n a hx=>?_,λb o e n a hx=>?_,λb o e n hx=>?_,λb o e hx=>?_,λb xs q=>?_,λb o u q=>?_,λb ps q=>?_⟩ ?_ I4.bare λb a=>?_
    .have:=I4.os;rw[b3]at this;exact this
    .exact(U.2 b (S b o e)).trans (u4.keep b o (kp b o e) n a (ab b o e hx))
    .obtain⟨sl,q⟩:=u4.slot b o (kp b o e) n a (ab b o e hx);exact⟨sl,(U.2 b (S b o e)).trans q⟩
    .rw[Zf (a6 b o e)];exact u4.free b o (kp b o e) n (ab b o e hx)
    .obtain⟨o',q⟩:=u4.there b o (kp b o e) (ab b o e hx);exact⟨o',(U.2 b (S b o e)).trans q⟩
    .rw[Zf (fi q a0)];exact u4.nC b xs q
    .rw[Zf (fi q a0)];exact u4.ng b o u q
    .rw[Zf (fi q a0)];exact u4.nE b ps q
    .intro b ob q;have a4:∀c v,H3 c≠none->s4.heap.get? c=some v->s4.heap.get? c=some v:=λc v hc q=>(U.2 c (λz=>hc (by rw[z];exact B))).trans q;by_cases a:b=s2.heap.objs.size
     .subst a;rw[Zd]at q;cases q;exact⟨bT,l,k,rv,(U.2 _ (by rw[hz];exact Nat.ne_of_lt (Nat.lt_succ_self _))).trans eD⟩
     .rw[Zf a]at q;have ck:ZW X.prog X.w H3 s4.heap b ob:=by have:=I4.hL b ob q;rw[eP,eW]at this;exact this
      refine ck.lW (λc v px q'=>a4 c v ?_ q') (λc q'=>by rw[Zf (fi q' nD)];exact q') λc xs q'=>by rw[Zf (fi q' nD)];exact q'
      rcases px with rfl|px
      .rw[q];simp
      .rw[px];simp
    .obtain⟨g0,g1,g2,g3,g4,g5⟩:=f2 b a;exact⟨g3,g1,g4,g5⟩
   have cG:(s2.heap.push (Z2 [] 0)).objs.size≠X.env.locals:=by rw[hz];exact Nat.ne_of_gt (Nat.lt_succ_of_lt O.lt)
   have cH:∀y c,X.env.cells.lookup y=some c->c≠(s2.heap.push (Z2 [] 0)).objs.size:=λy c e=>by obtain⟨v,o,ho,_⟩:=O.cell y c e;exact S c o ho
   have cI:upd H3 s2.heap.objs.size (.lst Z) (s2.heap.push (Z2 [] 0)).objs.size=none:=by rw[Zf (by rw[hz];exact Nat.succ_ne_self _)];exact B
   exact out _ _ _ _ m I5 hn cG cH cI (by rw[hz];exact Nat.le_succ_of_le O.sz) (λp hp=>S p.1 p.2 (O.pin p hp).1) (qn _ nD)
  .have bb:=T.item j eP eW eK eC i _ s3 M H3 sr I3 (Y I3 b2) a5 go;rw[eA]at bb;refine hU bb λr s4⟨u,hr,cK⟩=>?_;subst hr;refine hU cK λ_ s5 hZ=>?_;obtain⟨x,H5,I5,r5,y5,aC,cN⟩:=hZ;have cR:=I5.pinned (Y I5 cN) (T.obj _ _ aC);have a1:=cx _ s5 M H5 x u _ cR r5 (step x H5 y5);rw[eP,eW,eA,eX]at a1;refine hU a1 λ_ s6 hZ=>?_;obtain⟨P,H6,I6,q6⟩:=hZ;have a2:=cm _ s6 P H6 _ I6 q6;rw[eP,eW,eA,eX]at a2;refine hU a2 λok s7⟨H7,I7,q7⟩=>?_;have E:∀{cb:St}{H':Hp}{s':ai},Inv j ([(s2.heap.objs.size,Z2 l k)]++G0 L s5.heap) cb H' s'->tn (i+1) s'.heap/\∀b∈L,H' b=none:=λI'=>
    ⟨T.keep _ _ _ aC λb a o e=>(I'.pin (b,o) (bc _ (bc _ (lE a e)))).1,λb a=>by
     obtain⟨o,e,d⟩:=T.obj _ _ aC b a;exact(I'.pin (b,o) (bc _ (bc _ (lE a e)))).2.1⟩;cases ok with
  |false=>rw[if_neg Bool.false_ne_true]at q7;rw[if_neg Bool.false_ne_true];obtain⟨m',hm,w7⟩:=b1 _ _ _ q7;exact⟨m',hm,i+1,Z,P,H7,l,k,I7.mV,rv,(E I7).1,(E I7).2,w7,bT⟩
  |true=>
    rw[if_pos rfl]at q7;rw[if_pos rfl];have a3:=cB _ s7 P H7 _ I7 q7;rw[eP,eW,eA,eX]at a3;refine hU a3 λv s8 hZ=>?_;obtain⟨y,H8,I8,r8,q8⟩:=hZ;obtain⟨m',hm,w8⟩:=b1 _ _ _ q8;obtain⟨eD,nD,_⟩:=I8.pin (s2.heap.objs.size,Z2 l k) (bc _ (bj _ ay));have hlen:=rv.length;refine call_meets F.slot_list_append ⟨_,eD,rfl⟩ F.entry_list_append (F.args_list_append_2 _ _) (PySem.list_append s2.heap.objs.size l.toArray k v (by rw[aw];omega)) ⟨eD,?_⟩;have q0:=PySem.IsL.update eD (·.push v);obtain⟨k',q⟩:∃k',(s8.heap.update s2.heap.objs.size (Obj.mapSeq (·.push v))).get? s2.heap.objs.size=some (Z2 (l++[v]) k'):=⟨_,by
     have e:(l++[v]).toArray=l.toArray.push v:=by simp
     unfold Z2;rw[e];exact q0⟩;have I9:Inv j [] P H8 s8:=I8.ou λp hp=>absurd (show p∈([]:List (Addr×Obj))from hp) (by simp);refine⟨m',hm,i+1,Z++[y],P,H8,l++[v],k',?_,rv.append (.cons r8 .nil),T.keep _ _ _ (E I8).1 λb a o e=>?_,(E I8).2,w8,?_⟩
    .refine Inv.ou (pins:=[]) (I9.turned (t':=s8.toks) (it:=s2.heap.objs.size) (λb o a e=>(Heap.get?_update_other _ _ (bK a)).trans e) nD ag (.inl (by rw[G];exact ay)) (cE I9) (λp hp=>cC p (by simpa using hp))) λp hp=>?_;have e:p=(s2.heap.objs.size,Z2 (l++[v]) k'):=by simpa using hp
     subst e;exact⟨q,nD,ag,b6,U3⟩
    .exact(Heap.get?_update_other _ _ (Nat.ne_of_gt (ak b a))).trans e
    .rw[aq,g7];omega
 have cf:tn 0 h4:=T.keep _ _ _ aM λb a o e=>aS b o (Heap.get?_push_of_some _ e);have fin:=codeAny_compStart_list (run _ ⟨_,rfl⟩) (T.self X.A 0 {s2 with heap:=h4,toks:=s2.toks+([]:List (Str×Value)).length} _ (notedBy (model X.prog X.w) X.A j.env λex s'=>(compPost (model X.prog X.w) X.A X.xe use R (.ref s2.heap.objs.size) (s2.heap.push (Z2 [] 0)).objs.size) (.error ex) s') cf (run _ ⟨_,rfl⟩));rw[eE]at fin;exact fin
theorem JF          (w:X.calm=true) (f:jm scope sc)(i:ji G scope N cp)(u:PI X j iter l)(v:∀C s H ex pn,PG (X2 X scope N C s H ex pn) j g)(n:∀C s H ex pn,va (X2 X scope N C s H ex pn) ifs tc)(he:∀C s H ex pn,PE (X2 X scope N C s H ex pn) elt te)(c:X.env.scope=sc:=by rfl)(a:X.N=G:=by rfl)(p:∀x,gS iter X.env x=pure x:=by intro _;rfl):PE X (.ListComp elt [⟨j,iter,ifs,0⟩] scope pos) (WQ cp l g tc te):=by subst c a;intro pins s σ H Q I h;rw[eval_ListComp];exact Na (use:=none) w f i u v n he p I h λD C L s4 m J r F E B A z q=>⟨m,r,λh' d=>⟨.ref D,_,J.turned (t':=s4.toks) (it:=C) (λb o y e=>(d.2 b y).trans e) B F (.inr A) E z,rfl,q⟩⟩
theorem LS{bs:List Bool}:∀{us:List Value},Vals (bs.map V.bl) us->∀(i:Nat)(v:Value),us[i]?=some v->∃b,bs[i]?=some b/\v=.bool b:=by
 induction bs with
|nil=>intro us r i v e;rw[fo]at r;cases r;simp at e
|cons b bs d=>
  intro us r i v e;rw[aA]at r;cases r with
 |cons c a=>
   cases i with
  |zero=>simp at e;subst e;exact⟨b,rfl,c⟩
  |succ i=>obtain⟨h,g,f⟩:=d a i v (by simpa using e);exact⟨h,by simpa using g,f⟩
theorem all_range(bs:List Bool):(a_ bs.length).all (λi=>bs.getD i true)=bs.all id:=by
 rw[Bool.eq_iff_iff,bW,bW];constructor
 .intro h b d;obtain⟨i,c⟩:=aJ.mp d;have a:i<bs.length:=(aj.mp c).1;have:=h i (bq.mpr a);rw[aO,c]at this;exact this
 .intro h i c;have a:=bq.mp c;rw[aO,List.getElem?_eq_getElem a];exact h _ (aB a)
theorem LK(z:X.calm=true):Xf X (.builtin "all") (λxs H Q=>∃(p:Addr)(bs:List Bool),xs=[.ref p]/\gp X.K H p (bs.map V.bl)/\Q (.bl (bs.all id)) H):=by
 intro pins s σ H xs us Q I r h;obtain⟨p,bs,rfl,x,q⟩:=h;obtain⟨u,rfl,w⟩:=vals1 r;cases w;obtain⟨a,g,pl,hz⟩:=I.list x;have j:=g.length;rw[bU]at j;refine call_all_walk (gQ pl.isList ?_);have f:p≠s.heap.objs.size:=by obtain⟨o,n,e,_⟩:=pl;exact Nat.ne_of_lt (Heap.lt_size e)
 refine⟨s.heap.objs.size,_,_,_,_,_,λi=>bs.getD i true,rfl,Walks.list (A:=X.A.in1) (I.ok.hd z) s.heap.objs.size p f a.toArray,⟨⟨_,Heap.get?_push_size _ rfl,rfl,rfl⟩,?_⟩,λi v s' D E y C=>?_,λh' l kk=>?_⟩
 .obtain⟨o,e,c,n,d⟩:=pl.isList;exact⟨o,Heap.get?_push_of_some _ e,c,n,d⟩
 .obtain⟨b,B,rfl⟩:=LS g i v (by simpa using y);have:bs.getD i true=b:=by rw[aO,B];rfl
  exact bo (this▸C)
 .have e:(a_ a.toArray.size).all (λi=>bs.getD i true)=bs.all id:=by rw[aw,<-j];exact all_range bs
  rw[e];refine⟨.bl (bs.all id),H,I.kept (t':=l) λb o q=>?_,rfl,q⟩;exact kk b o (by simp;exact Nat.ne_of_lt (Heap.lt_size q)) (Heap.get?_push_of_some _ q)
theorem LW{a:List Str}:∀{us:List Value},Vals (a.map V.str) us->StrsAre us a:=by
 induction a with
|nil=>intro us r;rw[fo]at r;cases r;exact .nil
|cons y a d=>
  intro us r;rw[aA]at r;cases r with
 |cons c b=>obtain⟨t,e⟩:=c;subst e;exact .cons y t (d b)
theorem DB:zz X "str.join" (λx vs H Q=>∃(z:Str)(p:Addr)(a:List Str),x=.str z/\vs=[.ref p]/\gp X.K H p (a.map V.str)/\(a.map (·.length)).sum+a.length*z.length<=16777216/\Q (.str (Txt.join z a)) H):=by intro pins s σ H x xs v us Q I b rs h;obtain⟨z,p,a,rfl,rfl,e,hz,q⟩:=h;obtain⟨t,rfl⟩:=b;obtain⟨u,rfl,d⟩:=vals1 rs;cases d;obtain⟨f,c,pl,g⟩:=I.list e;exact join_list pl.isList (by simpa using LW c) hz λt' k=>⟨.str (Txt.join z a),H,I.tok k,⟨t',rfl⟩,q⟩
theorem QL:vM X (λx lo b H Q=>∃z,x=.str z/\z.length<=sizeLine/\Q (.str (Txt.slice z lo b)) H):=by
 intro pins s σ H x v p n lo b r Q I f g pl pu h;obtain⟨z,rfl,hz,q⟩:=h;obtain⟨t,rfl⟩:=f;have fin:∀t' k,EP X pins σ Q (.str (Txt.slice z lo b) t') {s with toks:=k}:=λt' k=>⟨.str _,H,I.tok k,⟨t',rfl⟩,q⟩;have len:=Nat.le_trans (Txt.slice_le z lo b) hz;refine⟨"str",_,PyProof.Rows.slot_str_getitem.lookup,typeIs_str _ _ _,?_⟩;obtain⟨o,a,c,hd⟩:=g;cases pl with
|none=>
  cases pu with
 |none=>exact fv (l:=none) (u:=none) (st:=none) ⟨o,a,c,hd⟩ rfl (ir ⟨len,fin⟩)
 |int j d=>exact fv (l:=none) (u:=some (j,d)) (st:=none) ⟨o,a,c,hd⟩ rfl (ir ⟨len,fin⟩)
|int i e=>
  cases pu with
 |none=>exact fv (l:=some (i,e)) (u:=none) (st:=none) ⟨o,a,c,hd⟩ rfl (ir ⟨len,fin⟩)
 |int j d=>exact fv (l:=some (i,e)) (u:=some (j,d)) (st:=none) ⟨o,a,c,hd⟩ rfl (ir ⟨len,fin⟩)
noncomputable def Ay(i j:Int):Prop:=0<j/\j.natAbs.log2<9000
theorem KH:lV X (eI .FloorDiv) (rI Ay λi j=>.int (i / j)):=vx λi j _ _ _ _ _ a q=>by have b:(0:Int)<j:=a.1;exact floordiv_int (by omega) (by rw[Int.fdiv_eq_ediv_of_nonneg i (by omega)];exact q) (.inl (PyProof.noPylong_of_log2 a.2))
theorem LJ:Xf X (.builtin "isinstance") (λxs H Q=>∃x c t b,xs=[x,.ty c]/\mG X.K H x t/\az X.K t (.type c)=some b/\Q (.bl b) H):=by intro pins s σ H xs us Q I r h;obtain⟨x,c,t,b,rfl,ty,e,q⟩:=h;obtain⟨u,g,rfl,f,a⟩:=vals2 r;cases a;exact TU I f ty e λd=>⟨.bl b,H,I.tok d,rfl,q⟩
end
theorem VO:bJ "int"=some (.type "int"):=by decide +kernel
theorem N8:bJ "bool"=some (.type "bool"):=by decide +kernel
theorem Mu:bJ "str"=some (.type "str"):=by decide +kernel
noncomputable def Df(K:ae)(mg:Str->Option Value)(x:Str)(st:Stmt)(ps:List Str):Prop:=∃f fd,oK K x x st f fd/\mg x=some (.ref f)/\Binds K fd ps []
noncomputable def hY(P:Program)(w:World)(K:ae)(mg:Str->Option Value)(base:Heap)(k:Nat)(x:Str)(ps:List Str)(sp:Sp):Prop:=∃f fd,jR P w K mg base jS k f fd ps sp/\mg x=some (.ref f)/\a7 K (.ref f)=true/\Binds K fd ps []
section
variable {P:Program}{w:World}{K:ae}{mg:Str->Option Value}{base:Heap}
theorem Df.tY{x:Str}{st:Stmt}{N ps:List Str}{k:Nat}{sp:Sp}(D:Df K mg x st ps)(S:fx N ps (Ze st))(len:∀vs H Q E,sp vs H Q E->vs.length=ps.length)(c:∀(f:Addr)(a:Value)(A:bh)(outer:List Env)(s:ai)(H:Hp)(vs:List V)(Q:VK)(E:XK),jw k (A.deeper (d_ x (Ze st) s.heap.objs.size f a))->sp vs H Q E ->∃t,oJ (lY jS P w K mg base N x (Ze st) f a A outer s H E).tU (ZV st) t/\t {nx:=λ_ H'=>Q .non H',rt:=Q} (start N vs) H):hY P w K mg base (k+1) x ps sp:=by obtain⟨f,fd,F,m,b⟩:=D;exact⟨f,fd,F.ok S len (λa A outer s H vs Q E d h=>c f a A outer s H vs Q E d h),m,F.kp,b⟩
end
section
variable {X:Cx}
theorem Yx{k:Nat}   {e:Expr}{a:List Expr}(C:hY X.prog X.w X.K X.mg X.base k x ps sp)(h:jw k X.A)(i:Gl X x)(j:PA X (e::a) t)(d:(x==("__debug__":Str))=false:=by decide)(he:aH (e::a) X.env=(false,eval e X.env)::aH a X.env:=by rfl)(c:(cy pos (aH a X.env)).any (·.1)=false:=by rfl):PE X (.Call (.Name x p) (e::a) [] pos) (MN sp [] E0 t):=by obtain⟨f,fd,F,m,g,b⟩:=C;exact Dr F h i m g b .nil Z6 j d he c
end
inductive Th(H:Hp):V->String->Prop where
|non:Th H .non "NoneType"
|bl (b:Bool):Th H (.bl b) "bool"
|int (i:Int):Th H (.int i) "int"
|str (z:Str) (h:z.length<=1000):Th H (.str z) "str"
|lst {a:Addr}{xs:List V} (e:H a=some (.lst xs)):Th H (.ref a) "list"
|tup {a:Addr}{xs:List V} (e:H a=some (.tup xs)):Th H (.ref a) "tuple"
|dK {a:Addr}{f5:List (Key×V)} (e:H a=some (.dK f5)):Th H (.ref a) "dict"
theorem Th.ty{K:ae}{H:Hp}{v:V}{T:String}(h:Th H v T):mG K H v (.type T):=by
 cases h with
|non=>exact .non
|bl b=>exact .bl b
|int i=>exact .int i
|str z h=>exact .str z
|lst e=>exact .lst e
|tup e=>exact .tup e
|dK e=>exact .dK e
theorem Th.same (s:fy H H') (h:Th H v T):Th H' v T:=by
 cases h with
|non=>exact .non
|bl b=>exact .bl b
|int i=>exact .int i
|str z h=>exact .str z h
|lst e=>exact .lst (s _ _ e)
|tup e=>exact .tup (s _ _ e)
|dK e=>exact .dK (s _ _ e)
section
variable (K:ae)
theorem FG:az K (.type "NoneType") (.type "int")=some false:=by kernel_rfl
theorem FH:az K (.type "NoneType") (.type "bool")=some false:=by kernel_rfl
theorem FE:az K (.type "NoneType") (.type "str")=some false:=by kernel_rfl
theorem FU:az K (.type "bool") (.type "int")=some true:=by kernel_rfl
theorem FW:az K (.type "bool") (.type "bool")=some true:=by kernel_rfl
theorem FT:az K (.type "bool") (.type "str")=some false:=by kernel_rfl
theorem FN:az K (.type "int") (.type "int")=some true:=by kernel_rfl
theorem FO:az K (.type "int") (.type "bool")=some false:=by kernel_rfl
theorem FL:az K (.type "int") (.type "str")=some false:=by kernel_rfl
theorem FC:az K (.type "str") (.type "int")=some false:=by kernel_rfl
theorem FD:az K (.type "str") (.type "bool")=some false:=by kernel_rfl
theorem FA:az K (.type "str") (.type "str")=some true:=by kernel_rfl
theorem FJ:az K (.type "list") (.type "int")=some false:=by kernel_rfl
theorem FK:az K (.type "list") (.type "bool")=some false:=by kernel_rfl
theorem FI:az K (.type "list") (.type "str")=some false:=by kernel_rfl
theorem Fy:az K (.type "tuple") (.type "int")=some false:=by kernel_rfl
theorem Fz:az K (.type "tuple") (.type "bool")=some false:=by kernel_rfl
theorem Fx:az K (.type "tuple") (.type "str")=some false:=by kernel_rfl
theorem FQ:az K (.type "dict") (.type "int")=some false:=by kernel_rfl
theorem FR:az K (.type "dict") (.type "bool")=some false:=by kernel_rfl
theorem FP:az K (.type "dict") (.type "str")=some false:=by kernel_rfl
end
noncomputable def F9:V->Bool
|.str _=>true
|_=>false
noncomputable def Rh:V->Bool
|.int _=>true
|_=>false
noncomputable def EG:V->Bool
|.bl _=>true
|_=>false
theorem Th.rj{K:ae}{H:Hp}{v:V}{T:String}(h:Th H v T):az K (.type T) (.type "str")=some (F9 v):=by
 cases h with
|non=>exact FE K
|bl b=>exact FT K
|int i=>exact FL K
|str z h=>exact FA K
|lst e=>exact FI K
|tup e=>exact Fx K
|dK e=>exact FP K
theorem Th.yj{K:ae}{H:Hp}{v:V}{T:String}(h:Th H v T):az K (.type T) (.type "bool")=some (EG v):=by
 cases h with
|non=>exact FH K
|bl b=>exact FW K
|int i=>exact FO K
|str z h=>exact FD K
|lst e=>exact FK K
|tup e=>exact Fz K
|dK e=>exact FR K
theorem Th.yi{K:ae}{H:Hp}{v:V}{T:String}(h:Th H v T):az K (.type T) (.type "int")=some (Rh v||EG v):=by
 cases h with
|non=>exact FG K
|bl b=>exact FU K
|int i=>exact FN K
|str z h=>exact FC K
|lst e=>exact FJ K
|tup e=>exact Fy K
|dK e=>exact FQ K
section
variable {X:Cx}
noncomputable def wZ(K:ae)(c:String)(te:TE):TE:=xf (λxs H Q=>∃x c t b,xs=[x,.ty c]/\mG K H x t/\az K t (.type c)=some b/\Q (.bl b) H) (Y7 te (Y7 (tC (.ty c)) jn))
theorem YD    {p p2 pos:Pos}(he:PE X e te)(h:Gl X "isinstance")(hm:X.mg "isinstance"=none)(d:Gl X a)(b:X.mg a=none)(i:bJ a=some (.type c))(g:a≠"__name__":=by decide)(hd:(a==("__debug__":Str))=false:=by decide)(f:aH [e,.Name a p2] X.env=(false,eval e X.env)::aH [.Name a p2] X.env:=by rfl):PE X (.Call (.Name "isinstance" p) [e,.Name a p2] [] pos) (wZ X.K c te):=Zw (p:=p) (pos:=pos) (LJ (X:=X)) h hm dj (Zi he (Zi (V4 (v:=V.ty c) (pos:=p2) d b i rfl g hd) Zl) f) (he:=f)
end
noncomputable def sq(B:Heap)(x:Addr)(c:Value)(dd:Option Addr)(fl:Value)(h:Heap):Prop:=∃o vs,h.get? x=some o/\o.cls=c/\o.dict=dd/\o.data=.fields vs/\1<vs.size /\((vs[1]?=some .none/\fl=.none)\/∃T oT ts,vs[1]?=some (.ref T)/\B.get? T=none/\T≠x/\h.get? T=some oT/\oT.data=.fields ts/\ts[3]?=some fl)
structure rD(B:Heap)(l:List Env)(x:Addr)(c:Value)(dd:Option Addr)(fl:Value)(h:Heap):Prop where
 keep:B.StaysIn h
 new:B.get? x=none
 frames:h.FunFrames B l
 row:sq B x c dd fl h
theorem Tz(o:Obj)(f:Array Value->Array Value):(o.mapFields f).dict=o.dict:=by obtain⟨c,d,a,b⟩:=o;cases a<;>rfl
theorem Xl{h:Heap}{o a:Obj}(c:h.get? b=some o)(d:∀vs,o.data≠.fields vs)(e:h.get? T=some a)(hd:a.data=.fields ts):b≠T:=by rintro rfl;rw[e]at c;cases c;exact d ts hd
section
variable {M:Model}{A:bh}{E:Value->ai->Prop}{s:ai}{B:Heap}{env:Env}{outer:List Env}{L x:Addr}{c:Value}{dd:Option Addr}{Q:Unit->ai->Prop}
theorem M4{o:Obj}  (p:A.frames=some (env::outer))(hf:env.frame=some L)(l:s.heap.FunFrames B (env::outer))(hk:B.StaysIn s.heap)(D:B.get? x=none)
  (j:s.heap.get? x=some o) (I:o.cls=c) (r:o.dict=dd) (hd:o.data=.fields vs) (hz:1<vs.size)
  (J:∀h',rD B (env::outer) x c dd (c_ L) h'->s.heap.UpToSlots h'->Q () {s with heap:=h'}):
  wpAny M A (do let fr <-frameOf env;let pl <-entryPlaceOf L N;let t <-EntryCells.newEntry head fr .none (c_ L) .none pl;setField (.ref x) 1 t) Q E s:=by
 have G:x∉(env::outer).filterMap (·.frame):=λhm=>by
  obtain⟨_,u,C,e⟩:=l.mem hm
  rw[j]at C
  cases C
  exact e vs hd
 refine aa (wpAny_frameOf_fun p l hf λd h=>?_)
 refine aa (wpAny_entryPlaceOf λpl f=>?_)
 unfold EntryCells.newEntry newFields
 refine aa (bS ?_ (f.sizeOk5 _ _ _ _ _))
 have w:d.get? x=some o:=(h.2.1 x G).trans j
 have k1:B.StaysIn d:=λb u a=>(h.2.1 b λhm=>by rw[(l.mem hm).1]at a;cases a).trans (hk b u a)
 generalize g:({cls:=.type "traceback",dict:=none,data:=.fields ([head,.ref L,.none,c_ L,.none]++(if pl.isEmpty then List.replicate 6 Value.none else pl)).toArray}:Obj)=i
 have v:(d.push i).get? x=some o:=Heap.get?_push_of_some _ w
 have z:d.objs.size≠x:=Nat.ne_of_gt (Heap.lt_size w)
 have F:=Obj.data_mapFields hd (·.setIfInBounds 1 (Value.ref d.objs.size))
 have H:=Heap.get?_update_self (Obj.mapFields (·.setIfInBounds 1 (Value.ref d.objs.size))) v (Obj.isFreed_of_fields F)
 refine dI v hd hz (J _ ?_ ?_)
 .have other:∀b u,b≠x->d.get? b=some u->((d.push i).update x (Obj.mapFields (·.setIfInBounds 1 (Value.ref d.objs.size)))).get? b=some u:=λb u a q=>by
   rw[Heap.get?_update_other _ _ (bK a)]
   exact Heap.get?_push_of_some _ q
  refine⟨λb u a=>other b u (λq=>by rw[q,D]at a;cases a) (k1 b u a),D,l.of_keeps λb u a e=>?_,?_⟩
  .obtain⟨y,q⟩:=h.2.2 b u a
   exact⟨_,other b _ (Xl a e j hd) q,rfl⟩
  .have n:i.isFreed=false:=by rw[<-g];rfl
   refine⟨_,_,H,(Obj.cls_mapFields _ _).trans I,(Tz _ _).trans r,F,by simpa using hz,.inr ⟨d.objs.size,i,([head,.ref L,.none,c_ L,.none]++(if pl.isEmpty then List.replicate 6 Value.none else pl)).toArray,by simp[hz],k1.fresh,z,?_,by rw[<-g],?_⟩⟩
   .rw[Heap.get?_update_other _ _ (bK z)]
    exact Heap.get?_push_size d n
   .first
    |(simp;done)
    |(rcases f with rfl|⟨_,_,_,_,_,_,_,rfl⟩<;>simp)
 .intro b u a e
  obtain⟨y,q⟩:=h.2.2 b u a
  refine⟨y,?_⟩
  rw[Heap.get?_update_other _ _ (bK (Xl a e j hd))]
  exact Heap.get?_push_of_some _ q
theorem Qg(f:A.frames=some (env::outer))(hf:env.frame=some L)(F:rD B (env::outer) x c dd .none s.heap)(n:∀h',rD B (env::outer) x c dd (c_ L) h'->s.heap.UpToSlots h'->Q () {s with heap:=h'}):wpAny M A (noteFrame (.ref x) env) Q E s:=by
 obtain⟨o,vs,h,l,g,hd,hz,r⟩:=F.row;unfold noteFrame;simp only[hf];rcases r with⟨j,_⟩|⟨T,z,ts,j,w,v,i,e,p⟩
 .refine aa (cw h hd j ?_);rw[if_neg (by decide)];exact M4 f hf F.frames F.keep F.new h l g hd hz n
 .refine aa (cw h hd j ?_);rw[if_pos (show(Value.ref T != Value.none)=true from by simp)];refine aa (cw i e p ?_);rw[if_neg (show ¬((Value.none==c_ L)=true)from by simp[c_])];refine aa (dI i e (fX.mp p).1 ?_);have other:∀b,b≠T->(s.heap.update T (Obj.mapFields (·.setIfInBounds 3 Value.none))).get? b=s.heap.get? b:=λb a=>Heap.get?_update_other _ _ (bK a);refine M4 f hf (F.frames.of_keeps λb u a d=>⟨u,(other b (Xl a d i e)).trans a,rfl⟩) (λb u a=>(other b λq=>by rw[q,w]at a;cases a).trans (F.keep b u a)) F.new ((other x (bK v)).trans h) l g hd hz λh' y U=>n h' y λb u a d=>U b u ((other b (Xl a d i e)).trans a) d
theorem Qh  (F:rD B l x c dd G s.heap)(v:∀h',rD B l x c dd .none h'->s.heap.UpToSlots h'->Q () {s with heap:=h'}):wpAny M A (setFlight (.ref x) none) Q E s:=by
 obtain⟨o,vs,j,z,n,hd,hz,y⟩:=F.row;unfold setFlight;rcases y with⟨i,e⟩|⟨T,D,ts,i,w,r,h,d,C⟩
 .subst e;refine aa (cw j hd i ?_);rw[if_neg (by decide)];exact ah (v _ F (.refl _))
 .have p:3<ts.size:=(fX.mp C).1;refine aa (cw j hd i ?_);rw[if_pos (show(Value.ref T != Value.none)=true from by simp)];have other:∀b,b≠T->(s.heap.update T (Obj.mapFields (·.setIfInBounds 3 ((none:Option Addr).elim Value.none λf=>c_ f)))).get? b=s.heap.get? b:=λb a=>Heap.get?_update_other _ _ (bK a);refine dI h d p (v _ ⟨λb u a=>(other b λq=>by rw[q,w]at a;cases a).trans (F.keep b u a),F.new,F.frames.of_keeps λb u a g=>⟨u,(other b (Xl a g h d)).trans a,rfl⟩,?_⟩ λb u a g=>⟨u.slots,(other b (Xl a g h d)).trans a⟩);exact⟨o,vs,(other x (bK r)).trans j,z,n,hd,hz,.inr ⟨T,_,_,i,w,r,Heap.get?_update_self _ h (Obj.isFreed_of_fields (Obj.data_mapFields d _)),Obj.data_mapFields d _,by simp[p]⟩⟩
theorem T6(b:A.frames=some (env::outer))(hf:env.frame=some L)(F:rD B (env::outer) x c dd .none s.heap)(d:∀h',rD B outer x c dd .none h'->s.heap.UpToSlots h'->Q () {s with heap:=h'}):wpAny M A (leaving env (.ref x)) Q E s:=by unfold leaving;refine aa (Qg b hf F λf i h=>?_);refine Qh (s:={s with heap:=f}) i λe a g=>?_;exact d e ⟨a.keep,a.new,a.frames.2.2,a.row⟩ (h.trans g)
end
structure oM(B:Heap)(fs:List Addr)(x:Addr)(H H':Hp)(h:Heap):Prop where
 sD:∀b u,H' b=some u->∃o,B.get? b=some o
 old:∀b o,h.get? b=some o->H b=none->b∉fs->B.get? b=some o
 all:∀b o,h.get? b=some o->b∈fs\/b=x\/∃o',B.get? b=some o'
 xn:H' x=none
noncomputable def qI(P:Program)(w:World):qf:=λouter H s E e s'=>∃(x:Addr)(c:Value)(dd:Option Addr)(B:Heap)(H':Hp),e=.ref x/\s'.os=s.os/\gm s'.gens/\Un (l_ outer) [] H H' s.heap s'.heap/\k6 P w H' s'.heap /\rD B outer x c dd .none s'.heap/\oM B (l_ outer) x H H' s.heap/\E c dd H'
theorem Qc   {h h' B:Heap}(ok:k6 P w H h)(sD:∀b u,H b=some u->∃o,B.get? b=some o)(k:B.StaysIn h)(g:B.StaysIn h'):k6 P w H h':=λb u e=>by
 have go:∀c v,H c≠none->h.get? c=some v->h'.get? c=some v:=λc v hc q=>by
  cases d:H c with
 |none=>exact absurd d hc
 |some f=>obtain⟨o,a⟩:=sD c f d;have:=k c o a;rw[q]at this;cases this;exact g c _ a
 refine(ok b u e).lW (λc v hc q=>go c v ?_ q) (λ_ q=>q) λ_ _ q=>q;rcases hc with rfl|hc
 .rw[e];simp
 .rw[hc];simp
section
variable {P:Program}{w:World}{K:ae}{mg:Str->Option Value}{base:Heap}{N:List Str}{qual:Str}{scope:Scope}{f:Addr}{cd:Value}{A:bh}{outer:List Env}{s:ai}{H:Hp}{E:XK}
theorem K4        (I:Inv (lY (qI P w) P w K mg base N qual scope f cd A outer s H E) pins σ H1 s1)(F:rD B (lY (qI P w) P w K mg base N qual scope f cd A outer s H E).stack x c v .none s1.heap)(b:oM B (l_ outer) x H H1 s.heap)(D:E c v H1):(lY (qI P w) P w K mg base N qual scope f cd A outer s H E).xe (.ref x) s1:=by
 refine T6 (L:=s.heap.objs.size) I.ok.frames rfl F λJ h U=>?_;have un:Un (l_ outer) [] H H1 s.heap s1.heap:=I.base;refine⟨x,c,v,B,H1,rfl,I.os,I.bare,⟨λd o e n hd _=>h.keep d o (b.old d o e n hd),λd o e n hd _=>?_,un.free,λd o e _=>?_,un.nC,un.ng,un.nE⟩,Qc I.hL b.sD F.keep h.keep,h,b,D⟩
 .obtain⟨y,q⟩:=un.slot d o e n hd (by simp);obtain⟨_,g,r,a⟩:=I.ok.mF.mem hd;have G:g=o:=by have:s.heap.get? d=some g:=r;rw[e]at this;exact(ax this).symm
  subst G;obtain⟨i,l⟩:=U d _ q a;exact⟨i,l⟩
 .rcases b.all d o e with z|z|⟨g,z⟩
  .obtain⟨_,u,p,a⟩:=I.ok.mF.mem z;have j:s.heap.get? d=some u:=p;obtain⟨y,q⟩:=un.slot d u j (I.ok.sI d z) z (by simp);obtain⟨i,l⟩:=U d _ q a;exact⟨_,l⟩
  .subst z;obtain⟨C,_,q,_⟩:=h.row;exact⟨C,q⟩
  .exact⟨g,h.keep d g z⟩
theorem oM.up       (I:Inv X pins σ H1 s1)(hex:X.ex=[])(b:oM B (l_ X.stack) x H1 g s1.heap):oM B X.fs x X.pF g X.jW.heap:=by
 have low:∀d o,X.jW.heap.get? d=some o->d∈l_ X.stack->d∈X.fs:=λd o e hd=>by
  rcases au.mp (I.mM d hd)with z|z
  .exact absurd (Nat.lt_of_lt_of_le (Heap.lt_size e) I.ok.above) (by rw[z];exact Nat.lt_irrefl _)
  .exact z
 refine⟨b.sD,λd o e n hd=>?_,λd o e=>?_,b.xn⟩
 .exact b.old d o (I.base.keep d o e n hd (by rw[hex];simp)) (I.base.free d o e n (by rw[hex];simp)) λz=>hd (low d o e z)
 .obtain⟨a,c⟩:=I.base.there d o e (by rw[hex];simp);rcases b.all d a c with z|z|z
  .exact .inl (low d o e z)
  .exact .inr (.inl z)
  .exact .inr (.inr z)
theorem Ey:Passes (qI P w) (lY (qI P w) P w K mg base N qual scope f cd A outer s H E) E:=by intro pins σ H1 s1 e s2 I h;obtain⟨x,c,j,B,i,rfl,os,bare,un,a,F,b,d⟩:=h;have g:Inv (lY (qI P w) P w K mg base N qual scope f cd A outer s H E) pins σ i s2:=I.rZ os un a bare λb z=>absurd z (by simp);exact K4 g F (oM.up I rfl b) d
end
noncomputable abbrev oU:List Value:=[.type "ValueError",.type "Exception",.type "BaseException",.type "object"]
structure XC(K:ae)(C fI Qa:Addr):Prop where
 obj:∃nm q N bs sn sub ab col dd k0 k1 k2 k3 k5,K.lookup C=some (excClassObj nm q C N bs (.ref Qa::oU) true sn sub ab col dd k0 k1 k2 k3 k5 "ValueError.__new__") /\
  fP K N=true/\bA K N "__init__"=some (some (.ref fI))
 tail:fO K oU (.ref Qa::oU)=true
 fn:∃o,K.lookup fI=some o/\o.cls=.type "function"
 sa:aD K (.ref C) "__setattr__"=some (some (.builtin "object.__setattr__"))
 ob:df K C (.type "object")=some true
theorem Q6{K:ae}   {v:Value}(X:K.In h)(G:h.Ns N mg)(e:bA K N n=some (some v)):mg n=some v:=by
 obtain⟨o,i,j,a,hd,_,hf⟩:=G;unfold bA at e;split at e
 .rename_i c d b g f q;have this:=X _ _ q;rw[a]at this;cases this;cases hd;split at e
  .rename_i l he;cases e;rw[<-hf];unfold nsFind findBy;rw[<-Array.find?_toList,he];rfl
  .split at e<;>cases e
 .cases e
section
variable {prog:Program}{w:World}{A:bh}{E:Value->ai->Prop}{K:ae}{C fI Qa:Addr}{h:Heap}{g:Array GenState}{d:Drawn}{t:Nat}{os:bP}{rest:List Value}
theorem Qv{Q:Fin->ai->Prop}(X:K.In h)(c:XC K C fI Qa)(hz:rest.length<=sizeLine)(D:∀h' e,h.objs.size<=e->Heap.MadeExcOf h h' e (.ref C) rest->wpAny (model prog w) A (call (.ref fI) (.ref e::rest)) (λr s'=>r=.none/\Q (.done (.ret (.ref e))) s') E ⟨h',g,d,t,os⟩):wpAny (model prog w) A (cU.«type.__call__» ⟨.ref C::rest,[]⟩) Q E ⟨h,g,d,t,os⟩:=by
 obtain⟨nm,q,N,bs,sn,sub,S,col,R,P,k1,O,M,L,lk,s,u⟩:=c.obj;obtain⟨J,y,I⟩:=c.fn;have f:=PySem.F.excBase_ValueError;have j:=X _ _ lk;have x:h.Ns N (h.nsMap N):=.of_isNs (PySem.W.isNs_of_in X s);have H:h.nsMap N "__init__"=some (.ref fI):=Q6 X x u;have p:OwnTail h oU (.ref Qa::oU):=PySem.W.tail_of_in X c.tail;repeat (first|with_reducible refine cq j ?_|(with_reducible refine wpAny_madeBy_exc j ?_)|wp_step)
 refine codeAny_call_builtin_code (Code.quiet_builtin _ f.quiet) (wpAny_check_new_subU f f.hasB p j ?_);refine codeAny_exc_new_subU f f.hasB f p j ?_ hz;show wpAny _ _ _ _ _ _;generalize i:(h.push {cls:=.type "tuple",data:=.seq rest.toArray}).push {cls:=.ref C,data:=.fields #[.ref h.objs.size,.none,.none,.none,.bool false,.none]}=l;have a:∀b o,h.get? b=some o->l.get? b=some o:=λb o e=>by rw[<-i];exact Heap.get?_push_of_some _ (Heap.get?_push_of_some _ e)
 have ge:l.get? (h.objs.size+1)=some {cls:=.ref C,data:=.fields #[.ref h.objs.size,.none,.none,.none,.bool false,.none]}:=by rw[<-i];heap_get
 have gt:l.get? h.objs.size=some {cls:=.type "tuple",data:=.seq rest.toArray}:=by rw[<-i];exact Heap.get?_push_of_some _ (Heap.get?_push_at rfl rfl)
 have n:=a _ _ j;have v:(Value.ref C::.ref Qa::oU).contains (.ref C)=true:=by simp
 unfold i_;repeat (first|with_reducible refine cq ge ?_|(with_reducible refine gk n ?_;rw[v])|wp_step)
 show wpAny _ _ (typeLookup (.ref C) _) _ _ _;refine wpAny_typeLookup_tail n (x.keeps a) (p.keeps a) f.mroIs f.init.lookup ?_;rw[H];refine aU (aa (m:=bindSpecial _ _) ?_);unfold bindSpecial;refine aa (fC (T:="function") ⟨_,a _ _ (X _ _ y),I⟩ ?_);rw[if_pos (by decide)];have mk:Heap.MadeExcOf h l (h.objs.size+1) (.ref C) rest:=⟨a,Heap.get?_none_of_le (Nat.le_succ _),h.objs.size,ge,Heap.get?_none_of_le (Nat.le_refl _),gt⟩;refine ah (aa (cj (D l _ (Nat.le_succ _) mk) (λr s' B=>?_) λ_ _ z=>z));obtain⟨rfl,G⟩:=B;wp_walk;exact G
theorem HI{Q:Value->ai->Prop}(X:K.In h)(c:XC K C fI Qa)(hz:rest.length<=sizeLine)(b:∀h' e,h.objs.size<=e->Heap.MadeExcOf h h' e (.ref C) rest->wpAny (model prog w) (A.under (.builtin "type.__call__" ⟨.ref C::rest,[]⟩)) (call (.ref fI) (.ref e::rest)) (λr s'=>r=.none/\Q (.ref e) s') E ⟨h',g,d,t,os⟩):wpAny (model prog w) A (call (.ref C) rest) Q E ⟨h,g,d,t,os⟩:=by
 obtain⟨nm,q,N,bs,sn,sub,u,col,s,o,k1,n,l,j,lk,f,i⟩:=id c.obj;have a:=X _ _ lk;have f1:=tc_lookup;have f2:=tc_bind (.ref C);have p:(⟨h,g,d,t,os⟩:ai).TypeIs (.ref C) "type":=⟨_,a,rfl⟩;refine fM (codeAny_of_tree ?_);show wpAny _ _ (callAny (.ref C) _) _ _ _;repeat (any_goals (first|assumption|with_reducible refine cq a ?_|wp_step))
 refine⟨rfl,codeAny_call_builtin_at (Code.quiet_builtin _ (by decide +kernel)) entry_typeCall (wpAny_check_type_call_sub a ?_)⟩;exact Qv X c hz λh' e he hm=>b h' e he hm
theorem Nm  {v:Value} {Q:Fin->ai->Prop}(X:K.In h)(c:XC K C fI Qa)(ak:aD K (.ref C) name=some none)(I:h.Inst x C mA)(hw:Within mA ns)(hz:ns.length<=1000)(hq:∀h' Y,h'.Inst x C (λy=>if y=name then some v else mA y) ->(∀b o,b≠x->(∀a r,h.get? x=some a->a.dict=some r->b≠r)->h.get? b=some o->h'.get? b=some o) ->(∀a,h.get? x=some a->∃f n,h'.get? x=some f/\f.cls=a.cls/\f.data=a.data/\f.dict=some n/\((a.dict=some n)\/(a.dict=none/\h.get? n=none)))->Q (.done (.ret .none)) ⟨h',g,d,Y,os⟩):wpAny (model prog w) A (cU.«object.__setattr__» ⟨[.ref x,.str name tk,v],[]⟩) Q E ⟨h,g,d,t,os⟩:=by
 obtain⟨nm,q,N,bs,sn,sub,ab,col,dd,k0,k1,k2,k3,k5,lk,a5,a6⟩:=c.obj;have hC:=X _ _ lk;obtain⟨o,p,S,z,hd⟩:=I;have H:=PySem.F.store_ValueError.passes (.ref x);have LN:=c8 (M:=model prog w) X ak;unfold cU.«object.__setattr__»;repeat (first|rw[refuse_eq]|(rw[refuseLoop_ref,refuseLoop_ref,H])|(with_reducible refine cq p ?_;rw[S])|(with_reducible refine wpAny_mroOf_exc hC ?_)|(with_reducible refine LN.at ?_)|wp_step)
 rcases hd with⟨O,aC⟩|⟨r,i,L,ag⟩
 .rw[O,if_neg (by simp[typeHasDict])];split
  .rename_i D;cases D
  split
  .rename_i cc D;exact absurd D (z cc)
  .have xs:x≠h.objs.size:=Nat.ne_of_lt (Heap.lt_size p);have dn:h.get? h.objs.size=none:=Heap.get?_none_of_le (Nat.le_refl _);have x1:(h.push {cls:=.type "dict",data:=.dict #[]}).get? x=some o:=Heap.get?_push_of_some _ p;refine aa (wpAny_alloc' (aa (wpAny_update' x1 (ah ?_))));generalize U:(h.push {cls:=.type "dict",data:=.dict #[]}).update x (λo=>{cls:=o.cls,dict:=some h.objs.size,data:=o.data,slots:=o.slots})=P;have gd:P.get? h.objs.size=some {cls:=.type "dict",data:=.dict #[]}:=by rw[<-U];exact(Heap.get?_update_ne _ _ _ _ xs.symm).trans (Heap.get?_push_at rfl rfl)
   have gx:P.get? x=some {cls:=o.cls,dict:=some h.objs.size,data:=o.data,slots:=o.slots}:=by rw[<-U];refine Heap.get?_update_self _ x1 ?_;have aM:=(Heap.get?_some_iff.mp p).2;obtain⟨oc,od,Z,a4⟩:=o;cases Z<;>first|rfl|exact aM
   have nd:P.Ns h.objs.size (λ_=>none):=⟨_,#[],_,gd,rfl,λe he=>absurd he (by simp),λ_=>rfl⟩;have ob:∀b u,b≠x->h.get? b=some u->P.get? b=some u:=λb u T e=>by rw[<-U];exact(Heap.get?_update_ne _ _ _ _ T).trans (Heap.get?_push_of_some _ e)
   show wpAny _ _ (cS h.objs.size (.str name tk) name v) _ _ _;unfold cS gK;refine aa (ah (aa (wpAny_nsSet1 (Heap.Ns1.of_empty nd) λR J s2=>?_)));obtain⟨oD,a0,a3,s,B,G⟩:=J.count (Within.cons name v Within.nil);refine aa (wpAny_lookBehind s (by rw[B];exact pastItsLine_dict (Nat.le_trans G (by rw[aR,eU,cW];omega))) ?_);wp_walk;have j:R.get? x=some {cls:=o.cls,dict:=some h.objs.size,data:=o.data,slots:=o.slots}:=(s2.2 x xs).trans gx;refine hq R _ ⟨_,j,S,z,.inr ⟨h.objs.size,rfl,xs.symm,?_⟩⟩ (λb u T _ e=>(s2.2 b (Nat.ne_of_lt (Heap.lt_size e))).trans (ob b u T e)) λa l=>?_
   .obtain⟨o',es,ep,e1,e2,e3,eu,e4⟩:=J;exact⟨o',es,ep,e1,e2,e3,eu,λy=>by rw[e4 y];by_cases hy:y=name<;>simp[hy,aC]⟩
   .have W:o=a:=ax (p.symm.trans l);subst W;exact⟨_,h.objs.size,j,rfl,rfl,rfl,.inr ⟨O,dn⟩⟩
 .rw[i];refine ah ?_;show wpAny _ _ (cS r (.str name tk) name v) _ _ _;unfold cS gK;refine aa (ah (aa (wpAny_nsSet1 ag λR J s2=>?_)));obtain⟨oD,a0,a3,s,B,G⟩:=J.count (Within.cons name v hw);refine aa (wpAny_lookBehind s (by rw[B];exact pastItsLine_dict (Nat.le_trans G (by rw[aR,cW];omega))) ?_);wp_walk;have j:=(s2.2 x L.symm).trans p;refine hq R _ ⟨o,j,S,z,.inr ⟨r,i,L,J⟩⟩ (λb u _ aS e=>(s2.2 b (aS o r p i)).trans e) λa l=>?_;have W:o=a:=ax (p.symm.trans l);subst W;exact⟨_,r,j,rfl,rfl,i,.inl i⟩
end
noncomputable def lZ(x C:Addr)(dd:Option Addr):HO:=.ext λh=>∃o vs,h.get? x=some o/\o.cls=.ref C/\o.dict=dd/\o.data=.fields vs/\1<vs.size/\vs[1]?=some .none
noncomputable def XD(d:Addr)(fs:List (Str×V)):HO:=.ext λh=>∃mA,h.Ns1 d mA/\(∀f,kf (fs.lookup f) (mA f))/\d6 mA (fs.map (·.1))/\fs.length<=1000
section
variable {P:Program}{w:World}{H:Hp}{h:Heap}{x C d:Addr}{dd:Option Addr}{fs:List (Str×V)}
theorem JO:ZW P w H h x (lZ x C dd)↔∃o vs,h.get? x=some o/\o.cls=.ref C/\o.dict=dd/\o.data=.fields vs/\1<vs.size/\vs[1]?=some .none:=by
 constructor
 .intro z;exact z.1
 .rintro ⟨o,vs,b,r⟩;exact⟨⟨o,vs,b,r⟩,⟨o,b⟩,λi g⟨f,a,e,c⟩k=>⟨f,a,k _ e,c⟩⟩
theorem WG:ZW P w H h d (XD d fs)↔∃mA,h.Ns1 d mA/\(∀f,kf (fs.lookup f) (mA f))/\d6 mA (fs.map (·.1))/\fs.length<=1000:=by
 constructor
 .intro z;exact z.1
 .rintro ⟨mA,⟨o,j,l,e,r⟩,q⟩;exact⟨⟨mA,⟨o,j,l,e,r⟩,q⟩,⟨o,e⟩,λs p⟨m,⟨i,a,b,n,c⟩,g⟩k=>⟨m,⟨i,a,b,k _ n,c⟩,g⟩⟩
end
section
variable {X:Cx}{pins:List (Addr×Obj)}{σ:St}{H:Hp}{s:ai}{x C fI Qa:Addr}{name:Str}{y:V}{u:Value}{Q:Unit->ai->Prop}
theorem WE    (I:Inv X pins σ H s)(c:XC X.K C fI Qa)(r:aD X.K (.ref C) name=some none)(In:s.heap.Inst x C mA)(hw:d6 mA ns)(hz:ns.length<=1000)(J:∀h' j,h'.Inst x C (λz=>if z=name then some u else mA z) ->(∀b o,b≠x->(∀a n,s.heap.get? x=some a->a.dict=some n->b≠n)->s.heap.get? b=some o->h'.get? b=some o) ->(∀a,s.heap.get? x=some a->∃f i,h'.get? x=some f/\f.cls=a.cls/\f.data=a.data/\f.dict=some i/\((a.dict=some i)\/(a.dict=none/\s.heap.get? i=none)))->Q () {s with heap:=h',toks:=j}):wpAny (model X.prog X.w) A (setAttr (.ref x) name u) Q E s:=by
 have p:=I.kT;obtain⟨o,v,B,q,hd⟩:=id In;have no:e_ o=true:=by
  unfold e_;split
  .rename_i M e;exact absurd e (q M)
  .rfl
 obtain⟨od,D⟩:∃od,fe s.heap x o C od:=by
  rcases hd with⟨e,_⟩|⟨n,e,_,G,O,P,L,_⟩
  .exact⟨none,v,B,no,by rw[e];trivial⟩
  .exact⟨some G,v,B,no,by rw[e];exact L⟩
 have l:=PySem.F.store_object;refine PySem.W.set_plain p D c.sa ?_;have sub:PySem.W.Looks (model X.prog X.w) s.heap (i_ (.ref x) (.type "object")) true:=D.type.andThen (hV p c.ob);refine iQ l.slot.plain l.entry (@ij (model X.prog X.w) _ _ {s with toks:=s.toks+1} "object.__setattr__" "object" "__setattr__" (.ref x) [.str name s.toks,u] [] _ l.kind l.split sub (l.args (.ref x) (.str name s.toks) u) ?_);exact Nm (h:=s.heap) (g:=s.gens) (d:=s.drawn) (t:=s.toks+1) (os:=s.os) p c r In hw hz λh' j N kk same=>J h' j N kk same
end
noncomputable def VA(H:Hp)(h:Heap)(d:Addr):Prop:=(H d=none/\h.get? d=none)\/∃φ,H d=some (.ext φ)
section
variable {P:Program}{w:World}{H:Hp}{h h':Heap}{x d:Addr}{o1 o2:HO}{fs:List Addr}
theorem VA.ne {u:HO}(q:VA H h d)(e:H b=some u)(c:∀a,u≠.ext a):b≠d:=by
 rintro rfl;rcases q with⟨z,_⟩|⟨a,z⟩
 .rw[e]at z;cases z
 .rw[e]at z;cases z;exact c a rfl
theorem VC{b:Addr}(a:b≠x)(hd:b≠d):upd (upd H d o1) x o2 b=H b:=by rw[Zf a,Zf hd]
theorem PU  (z:ZW P w H h a o):∃b,h.get? a=some b:=by
 induction o with
|lst xs=>obtain⟨_,_,_,_,e⟩:=z;exact⟨_,e⟩
|tup xs=>obtain⟨_,_,_,b,e,_⟩:=z;exact⟨_,e⟩
|dK c=>obtain⟨_,_,_,_,b,_,_,e,_⟩:=z;exact⟨_,e⟩
|dT c=>obtain⟨_,_,_,_,b,_,_,e,_⟩:=z;exact⟨_,e⟩
|set S n=>obtain⟨b,_,_,_,e,_⟩:=z;exact⟨_,e⟩
|ins C l fs=>obtain⟨_,_,_,e,_⟩:=z;exact⟨_,e⟩
|own y=>exact z
|xd fs=>obtain⟨_,⟨b,_,_,e,_⟩,_⟩:=z;exact⟨_,e⟩
|vT lo j=>obtain⟨_,_,_,e⟩:=z;exact⟨_,e⟩
|lG b u i=>exact⟨_,z.1⟩
|tR ps=>exact⟨_,z⟩
|met f y=>exact⟨_,z⟩
|ext g=>exact z.2.1
theorem ES(a:VA H h x)(c:VA H h d)(k:∀b o,b≠x->b≠d->h.get? b=some o->h'.get? b=some o)(g:∃o,h'.get? x=some o)(i:∃o,h'.get? d=some o):Un fs [] H (upd (upd H d o1) x o2) h h':=by
 have off:∀{z:Addr},VA H h z->∀b o,h.get? b=some o->H b=none->b≠z:=by
  intro z q b o e n;rintro rfl;rcases q with⟨_,y⟩|⟨j,y⟩
  .rw[e]at y;cases y
  .rw[n]at y;cases y
 refine⟨λb o e n _ _=>k b o (off a b o e n) (off c b o e n) e,λb o e n _ _=>⟨o.slots,k b o (off a b o e n) (off c b o e n) e⟩,λb o e n _=>(VC (off a b o e n) (off c b o e n)).trans n,λb o e _=>?_,λb xs e=>(VC (a.ne e (by simp)) (c.ne e (by simp))).trans e,λb o u e=>(VC (a.ne e (by simp)) (c.ne e (by simp))).trans e,λb ps e=>⟨#[],(VC (a.ne e (by simp)) (c.ne e (by simp))).trans (by simpa using e)⟩⟩;by_cases f:b=x
 .exact f▸g
 .by_cases hd:b=d
  .exact hd▸i
  .exact⟨o,k b o f hd e⟩
theorem DU(ok:k6 P w H h)(a:VA H h x)(f:VA H h d)(ne:d≠x)(k:∀b o,b≠x->b≠d->h.get? b=some o->h'.get? b=some o)(nx:ZW P w (upd (upd H d o1) x o2) h' x o2)(i:ZW P w (upd (upd H d o1) x o2) h' d o1):k6 P w (upd (upd H d o1) x o2) h':=λb u e=>by
 by_cases g:b=x
 .subst g;rw[Zd]at e;cases e;exact nx
 .by_cases hd:b=d
  .subst hd;rw[Zf ne,Zd]at e;cases e;exact i
  .rw[VC g hd]at e;refine(ok b u e).lW (λc v hc q=>?_) (λc q=>(VC (a.ne q (by simp)) (f.ne q (by simp))).trans q) λc xs q=>(VC (a.ne q (by simp)) (f.ne q (by simp))).trans q;rcases hc with rfl|hc
   .exact k _ v g hd q
   .exact k _ v (a.ne hc (by simp)) (f.ne hc (by simp)) q
end
section
variable {X:Cx}{pins:List (Addr×Obj)}{σ:St}{H:Hp}{s:ai}{x C fI Qa:Addr}{f:Str}{y:V}{u:Value}{Q:Unit->ai->Prop}
theorem T7  (e:H x=some (lZ x C a)):VA H h x:=.inr ⟨_,e⟩
theorem Ki{fs:List (Str×V)}{mA:Str->Option Value}(r:∀g,kf (fs.lookup g) (mA g))(a:RelV y u)(g:Str):kf ((jB f y fs).lookup g) (if g=f then some u else mA g):=by
 rw[Yk];by_cases q:g=f
 .rw[if_pos q,if_pos q];exact a
 .rw[if_neg q,if_neg q];exact r g
theorem Qw{fs:List (Str×V)}(a:d6 mA (fs.map (·.1))):d6 (λg=>if g=f then some u else mA g) ((jB f y fs).map (·.1)):=λg b=>by
 by_cases q:g=f
 .rw[q];exact(Jv f y fs).1
 .refine(Jv f y fs).2 g (a g λz=>b ?_);show(if g=f then some u else mA g)=none;rw[if_neg q];exact z
theorem WC  (I:Inv X pins σ H s)(c:XC X.K C fI Qa)(G:aD X.K (.ref C) f=some none)(e:H x=some (lZ x C none))(Y:RelV y u)(h:∀d s',d≠x->H d=none->Inv X pins σ (upd (upd H d (XD d [(f,y)])) x (lZ x C (some d))) s'->Q () s'):wpAny (model X.prog X.w) A (setAttr (.ref x) f u) Q E s:=by
 obtain⟨o,vs,r,P,l,hd,hz,h1⟩:=JO.mp (I.hL x _ e);have In:s.heap.Inst x C (λ_=>none):=⟨o,r,P,(λcc q=>by rw[hd]at q;cases q),.inl ⟨l,λ_=>rfl⟩⟩;refine WE (ns:=[]) I c G In (λg B=>absurd rfl B) (Nat.zero_le _) λh' ab I' k same=>?_;obtain⟨p,a,j,c1,L,n,W⟩:=same o r;have T:s.heap.get? a=none:=by
  rcases W with z|⟨_,z⟩
  .rw[l]at z;cases z
  .exact z
 obtain⟨O,D,_,_,J⟩:=I';have eo:O=p:=ax (D.symm.trans j);subst eo;have Hd:H a=none:=by
  cases q:H a with
 |none=>rfl
 |some v=>
   obtain⟨i,z⟩:∃i,s.heap.get? a=some i:=by have:=I.hL _ _ q;exact PU this
   rw[T]at z;cases z
 rcases J with⟨z,_⟩|⟨dx,z,ne,ns⟩
 .rw[n]at z;cases z
 .have ed:a=dx:=by rw[n]at z;exact ax z
  subst ed;have kk:∀b i,b≠x->b≠a->s.heap.get? b=some i->h'.get? b=some i:=λb i hb _ q=>k b i hb (λU ag S R=>by rw[r]at S;cases S;rw[l]at R;cases R) q;have M:VA H s.heap x:=T7 e;have N:VA H s.heap a:=.inl ⟨Hd,T⟩;have Z:ZW X.prog X.w (upd (upd H a (XD a [(f,y)])) x (lZ x C (some a))) h' a (XD a [(f,y)]):=WG.mpr ⟨_,ns,λg=>Ki (fs:=[]) (mA:=λ_=>none) (λ_=>bH) Y g,Qw (fs:=[]) λg B=>absurd rfl B,by simp⟩;have nx:ZW X.prog X.w (upd (upd H a (XD a [(f,y)])) x (lZ x C (some a))) h' x (lZ x C (some a)):=JO.mpr ⟨O,vs,j,c1.trans P,n,L.trans hd,hz,h1⟩;obtain⟨oD,_,_,F,_⟩:=id ns;exact h a _ ne Hd (I.un (ES M N kk ⟨_,j⟩ ⟨_,F⟩) (DU I.hL M N ne kk nx Z))
noncomputable def HY(K:ae)(ta tv:TE)(f:Str):TS:=λD σ H=>tv σ H λy H1=>ta σ H1 λx H2=>∃a C fI Qa,x=.ref a/\H2 a=some (lZ a C none)/\XC K C fI Qa/\aD K (.ref C) f=some none /\∀d,d≠a->H2 d=none->D.nx σ (upd (upd H2 d (XD d [(f,y)])) a (lZ a C (some d)))
section
variable {o value:Expr}{pos pos':Pos}{ta tv:TE}
theorem Dj(r:PE X o ta)(j:PE X value tv)(l:gw value (some (.Attribute o f pos')) pos.line X.env=pure false):PS X (.Assign [.Attribute o f pos'] value pos) (HY X.K ta tv f):=by intro pins s σ H D I h;refine plainObj_wpAny_Assign_Attribute (hU (j pins s σ H _ I h) λu s1⟨y,H1,A,b,q⟩=>hU (r pins s1 σ H1 _ A q) λi s2 hZ=>?_) l;obtain⟨x,B,z,e,a,C,fI,Qa,ex,v,c,n,g⟩:=hZ;subst ex;obtain rfl:i=Value.ref a:=e;exact WC z c n v b λd s3 ne p w=>⟨σ,_,w,g d ne p⟩
end
end
section
variable {X:Cx}{CX:qf}{k:Nat}{f C Qa:Addr}{fd:dk}{ps:List Str}{sp:Sp}{dvs:List V}{ds:List Value}{E:XK}{x m:Str}{p pos apos:Pos}{e o:Expr}{es:List Expr}{ta:TE}{t:TA}
theorem Tj    {Q:VK} (c:XC X.K C f Qa)(F:jR X.prog X.w X.K X.mg X.base CX k f fd ps sp)(B:jw (k+1) X.A)(G:Binds X.K fd ps ds)(hd:Vals dvs ds)(z:Passes CX X E)(I:Inv X pins σ H s)(r:Vals vs us)(hz:us.length<=sizeLine)(h:∀x,H x=none->sp (.ref x::(vs++dvs)) (upd H x (lZ x C none)) (λv M=>v=.non/\Q (.ref x) M) E):wpAny (model X.prog X.w) X.A (call (.ref C) us) (EP X pins σ Q) X.xe s:=by
 refine HI (h:=s.heap) (g:=s.gens) (d:=s.drawn) (t:=s.toks) (os:=s.os) I.kT c hz λh' a n mk=>?_;obtain⟨kk,_,T,ge,_,_⟩:=mk;have l:=h a (I.hL.fresh n);have i:Inv X pins σ (upd H a (lZ a C none)) {s with heap:=h'}:=I.laid (t':=s.toks) kk n (JO.mpr ⟨_,_,ge,rfl,rfl,rfl,by simp,by simp⟩);have j:Vals (V.ref a::(vs++dvs)) (Value.ref a::(us++ds)):=.cons rfl (r.append hd);have D:(Value.ref a::us++ds).length=ps.length:=by have e:=j.length;rw[F.len _ _ _ _ l]at e;exact e.symm
 refine fM (gn (F.run _ X.stack {s with heap:=h'} _ ⟨Value.ref a::us,[]⟩ (Value.ref a::(us++ds)) _ _ E (B.make C us []) (i.tE.make C us []) (G _ (Value.ref a::us) i.kT D) j l) λr s' b=>?_);cases r with
|error e=>exact z pins σ _ _ e s' i b
|ok J=>
  cases J with
 |ret u=>obtain⟨v,H',L,q,ev,y⟩:=i.after b;subst ev;exact⟨q,⟨V.ref a,H',L,rfl,y⟩⟩
 |next=>exact False.elim b
 |brk=>exact False.elim b
 |cont=>exact False.elim b
end
noncomputable def del(H:Hp)(a:Addr):Hp:=λb=>if b=a then none else H b
theorem J6  :del H a a=none:=by simp[del]
theorem Jc {a b:Addr}(h:b≠a):del H a b=H b:=by simp[del,h]
section
variable {M:Model}{A:bh}{E:Value->ai->Prop}{env:Env}{K:ae}
theorem Tr   (u:A.handled=none)(h:wpAny M A x (λv a=>∃e f C p i vs,v=.ref e/\XC K C p i/\K.In a.heap/\a.heap.get? e=some f/\f.cls=.ref C/\f.data=.fields vs/\vs[1]?=some .none/\E (.ref e) a) E s):wpAny M A (raiseStmt env (some x) none) Q E s:=by
 unfold raiseStmt;refine aa (cj h (λv a b=>?_) λ_ _ x=>x);obtain⟨e,⟨r,od,j,D⟩,C,p,i,vs,rfl,c,B,he,w,l,z,y⟩:=b;obtain rfl:r=.ref C:=w;obtain rfl:j=.fields vs:=l;obtain⟨P,g,d,H,os⟩:=a;obtain⟨nm,q,N,bs,sn,sub,S,col,R,O,k1,L,J,I,lk,F,G⟩:=id c.obj;have o:=B _ _ lk;have n:(Value.ref C::.ref i::oU).contains (.type "BaseException")=true:=by rw[eZ,eZ,show oU.contains (.type "BaseException")=true from by decide,Bool.or_true,Bool.or_true]
 repeat (first|with_reducible refine cq he ?_|with_reducible refine cq o ?_|(with_reducible refine gk o ?_;rw[n])|wp_step)
 show wpAny M A (match vs[1]? with|some x=>pure x|none=>unsupported "internal:no-such-field") _ _ _
 rw[z];refine ah ?_;show wpAny M A (if(Value.none != Value.none)=true then _ else pure ()) _ _ _;rw[if_neg (by decide)];exact ah (wpAny_raiseNew_none u y)
end
section
variable {X:Cx}{pins:List (Addr×Obj)}{σ:St}{H:Hp}{s:ai}{a C:Addr}{dd:Option Addr}{E:XK}
theorem raised(I:Inv X pins σ H s)(e:H a=some (lZ a C dd))(M:E (.ref C) dd (del H a)):qI X.prog X.w X.stack H s E (.ref a) s:=by
 obtain⟨o,vs,D,J,i,hd,hz,N⟩:=JO.mp (I.hL a _ e);have na:∀b u,H b=some u->(∀v,u≠.ext v)->b≠a:=λb u q n z=>by subst z;rw[e]at q;cases q;exact n _ rfl
 have fr:a∉l_ X.stack:=λz=>by rw[I.mW a z]at e;cases e
 have g:∀b f,s.heap.get? b=some f->b≠a->b∉l_ X.stack->(gG s.heap (a::l_ X.stack)).get? b=some f:=λb f q A y=>PySem.W.hideAll_get _ q λz=>by
  rcases au.mp z with z|z
  .exact A z
  .exact y z
 refine⟨a,.ref C,dd,gG s.heap (a::l_ X.stack),del H a,rfl,rfl,I.bare,⟨λb o q _ _ _=>q,λb o q _ _ _=>⟨o.slots,q⟩,λb o q n _=>?_,λb o q _=>⟨o,q⟩,λb xs q=>(Jc (na b _ q (by simp))).trans q,λb o u q=>(Jc (na b _ q (by simp))).trans q,λb ps q=>⟨#[],by rw[Jc (na b _ q (by simp))];simpa using q⟩⟩,?_,?_,?_,M⟩
 .by_cases d:b=a
  .rw[d];exact J6
  .rw[Jc d];exact n
 .intro b u q;have d:b≠a:=λz=>by rw[z,J6]at q;cases q
  rw[Jc d]at q;exact(I.hL b u q).lW (λ_ _ _ z=>z) (λc z=>(Jc (na c _ z (by simp))).trans z) λc xs z=>(Jc (na c _ z (by simp))).trans z
 .refine⟨λb u q=>PySem.W.of_hideAll _ q,gY _ (.head _),?_,o,vs,D,J,i,hd,hz,.inl ⟨N,rfl⟩⟩;have go:∀l:List Env,(∀b∈l_ l,b∈a::l_ X.stack)->s.heap.FunFrames X.base l->s.heap.FunFrames (gG s.heap (a::l_ X.stack)) l:=by
   intro l;induction l with
  |nil=>intro _ _;trivial
  |cons env r B=>
    intro j ⟨hk,⟨L,x,hf,O,G,h⟩,F⟩;have p:l_ (env::r)=L::l_ r:=by unfold l_;rw[dw,hf]
    exact⟨hk,⟨L,x,hf,gY _ (j L (by rw[p];exact .head _)),G,h⟩,B (λb d=>j b (by rw[p];exact .tail _ d)) F⟩
  exact go X.stack (λb d=>.tail _ d) I.stack
 .refine⟨λb u q=>?_,λb f q n d=>g b f q (λz=>by rw[z,e]at n;cases n) d,λb f q=>?_,J6⟩
  .have d:b≠a:=λz=>by rw[z,J6]at q;cases q
   rw[Jc d]at q;obtain⟨f,z⟩:=PU (I.hL b u q);exact⟨f,g b f z d λm=>by rw[I.mW b m]at q;cases q⟩
  .by_cases d:b=a
   .exact .inr (.inl d)
   .by_cases hf:b∈l_ X.stack
    .exact .inl hf
    .exact .inr (.inr ⟨f,g b f q d hf⟩)
end
noncomputable def nA(x C:Addr)(dd:Option Addr):HO:=.ext λh=>∃o vs,h.get? x=some o/\o.cls=.ref C/\o.dict=dd/\o.data=.fields vs
structure XB(K:ae)(D:Addr):Prop where
 obj:∃nm q N bs bm hd sn sub ab col dd k0 k1 k2 k3 k5 AN,K.lookup D=some (excClassObj nm q D N bs bm hd sn sub ab col dd k0 k1 k2 k3 k5 AN)/\bm.contains (.type "BaseException")=true
theorem N1      :ZW P w H h x (nA x C f)↔∃o vs,h.get? x=some o/\o.cls=.ref C/\o.dict=f/\o.data=.fields vs:=by
 constructor
 .intro z;exact z.1
 .rintro ⟨o,vs,b,r⟩;exact⟨⟨o,vs,b,r⟩,⟨o,b⟩,λi g⟨d,a,e,c⟩k=>⟨d,a,k _ e,c⟩⟩
section
variable {M:Model}{A:bh}{E:Value->ai->Prop}{K:ae}{C D fI Qa e:Addr}{h:Heap}{g:Array GenState}{d:Drawn}{t:Nat}{os:bP}{oe:Obj}
theorem U5{Q:Bool->ai->Prop}(u:K.In h)(c:XC K C fI Qa)(b:XB K D)(he:h.get? e=some oe)(a:oe.cls=.ref C)(i:Q ((Value.ref C::.ref Qa::oU).contains (.ref D)) ⟨h,g,d,t,os⟩):wpAny M A (excMatches (.ref e) (.ref D)) Q E ⟨h,g,d,t,os⟩:=by
 obtain⟨nm,q,N,bs,sn,sub,ab,col,dd,Z,k1,Y,X,W,lk,B,O⟩:=id c.obj;obtain⟨F,U,N',S,p,P,z,v,T,x,R,L,J,I,H,G,w,j,o⟩:=b.obj;have s:=u _ _ lk;have r:=u _ _ j;have n:(Value.ref D::p).contains (.type "BaseException")=true:=by rw[eZ,o,Bool.or_true]
 have f:=tc_notTuple;generalize l:(Value.ref C::.ref Qa::oU).contains (.ref D)=y at i;unfold excMatches;repeat (first|(with_reducible refine cq he ?_;rw[a])|with_reducible refine cq s ?_|with_reducible refine cq r ?_|(with_reducible refine gk r ?_;rw[n])|(with_reducible refine gk s ?_;rw[l])|wp_step)
 first
 |exact i
 |(cases y<;>(wp_walk;exact i))
theorem Aj    {s:ai}{Q:Unit->ai->Prop}(F:sq B x c S .none s.heap)(y:∀h',(∀b o,s.heap.get? b=some o->h'.get? b=some o)->Q () {s with heap:=h'}):wpAny M A (setFlight (.ref x) none) Q E s:=by
 obtain⟨o,vs,w,P,N,hd,hz,H⟩:=F;unfold setFlight;rcases H with⟨l,_⟩|⟨T,n,ts,l,U,O,q,a,r⟩
 .refine aa (cw w hd l ?_);rw[if_neg (by decide)];exact ah (y _ λ_ _ z=>z)
 .have v:3<ts.size:=(fX.mp r).1;refine aa (cw w hd l ?_);rw[if_pos (show(Value.ref T != Value.none)=true from by simp)];refine dI q a v (y _ λb u p=>?_);by_cases j:b=T
  .subst j;rw[q]at p;cases p;have I:ts.setIfInBounds 3 Value.none=ts:=by
    apply Array.ext
    .simp
    .intro i l R;rw[Array.getElem_setIfInBounds]
     .split
      .rename_i J;subst J;rw[gj v]at r;exact(ax r).symm
      .rfl
   have G:Obj.mapFields (·.setIfInBounds 3 ((none:Option Addr).elim Value.none λf=>c_ f)) n=n:=by obtain⟨a1,a2,W,L⟩:=n;cases a;show(⟨a1,a2,.fields (ts.setIfInBounds 3 Value.none),L⟩:Obj)=_;rw[I]
   have:=Heap.get?_update_self (Obj.mapFields (·.setIfInBounds 3 ((none:Option Addr).elim Value.none λf=>c_ f))) q (by rw[G];exact Obj.isFreed_of_fields a);rw[this,G]
  .rw[Heap.get?_update_other _ _ (bK j)];exact p
end
noncomputable abbrev Cx.qO(X:Cx)(e:Value):Cx:={X with A:=X.A.mark (some e),calm:=false,xe:=λ_ _=>False}
section
variable {X:Cx}{pins:List (Addr×Obj)}{σ:St}{H:Hp}{s:ai}{e:Value}
theorem Cx.Ok.qO(ok:X.Ok)(e:Value):(X.qO e).Ok:=⟨ok.mod,ok.kind,ok.glob,ok.blt,ok.above,ok.inj,ok.has,ok.uG,(λz=>absurd (show false=true from z) (by decide)),ok.frames,ok.uY,ok.u9,ok.bs,ok.r9,ok.qq,ok.qx,ok.mF,ok.sI⟩
theorem Inv.qO(I:Inv X pins σ H s)(e:Value):Inv (X.qO e) pins σ H s:=⟨I.ok.qO e,I.os,I.bare,I.base,I.loc,I.cell,I.free,I.ki,I.pin,I.hL,I.len⟩
theorem Inv.qJ(ok:X.Ok)(I:Inv (X.qO e) pins σ H s):Inv X pins σ H s:=⟨ok,I.os,I.bare,I.base,I.loc,I.cell,I.free,I.ki,I.pin,I.hL,I.len⟩
theorem forget   {i:Nat}{n:Str}{Q:Unit->ai->Prop}(I:Inv X pins σ H s)(Y:X.N.Nodup)(F:X.N[i]?=some n)(hk:X.env.scope.names.lookup n=some .local)
  (h:∀s',Inv X pins (σ.set i none) H s'->Q () s'):wpAny M A (do bindName X.env n .none;unbindBehindTheSuite X.env n pos) Q E s:=by
 obtain⟨m,U,W⟩:=id I.loc
 have u:(X.env.scope.kind==.class||(X.env.scope.kind==.module&&X.env.locals != X.env.globals))=false:=by rw[I.ok.kind];rfl
 have r:i<σ.length:=by rw[I.len];exact(aj.mp F).1
 refine wpAny_nameGoes_keeps hk U u λh' v C a=>?_
 have up:∀b o,X.jW.heap.get? b=some o->b≠X.env.locals:=λb o q=>Nat.ne_of_lt (Nat.lt_of_lt_of_le (Heap.lt_size q) I.ok.above)
 refine h _ ⟨I.ok,I.os,I.bare,⟨λb o q g B l=>(a.2 b (up b o q)).trans (I.base.keep b o q g B l),λb o q g B l=>?_,I.base.free,λb o q l=>?_,I.base.nC,I.base.ng,I.base.nE⟩,⟨_,C,λj y G f w Z=>?_⟩,λy c q=>?_,I.free,I.ki,λp T=>?_,λb P q=>?_,by simpa using I.len⟩
 .obtain⟨L,f⟩:=I.base.slot b o q g B l
  exact⟨L,(a.2 b (up b o q)).trans f⟩
 .obtain⟨R,f⟩:=I.base.there b o q l
  exact⟨R,(a.2 b (up b o q)).trans f⟩
 .by_cases x:j=i
  .subst x
   rw[gT r]at w
   cases w
  .rw[ig (bK x)]at w
   obtain⟨J,O,q⟩:=W j y G f w Z
   refine⟨J,O,?_⟩
   rcases q with⟨k,q⟩|⟨k,c,q,z⟩
   .refine .inl ⟨k,?_⟩
    have:y≠n:=λz=>x (G8 Y f (z▸F))
    simp[this,q]
   .exact .inr ⟨k,c,q,z.sameBut a (I.tI y c q)⟩
 .obtain⟨D,z⟩:=I.cell y c q
  exact⟨D,z.sameBut a (I.tI y c q)⟩
 .obtain⟨q,g,ne,S,d⟩:=I.pin p T
  exact⟨(a.2 p.1 ne).trans q,g,ne,S,d⟩
 .refine(I.hL b P q).lW (λc D hc z=>(a.2 c ?_).trans z) (λ_ z=>z) λ_ _ z=>z
  rintro rfl
  rcases hc with rfl|hc
  .rw[I.free]at q;cases q
  .rw[I.free]at hc;cases hc
end
section
variable {X:Cx}{pins:List (Addr×Obj)}{σ:St}{H:Hp}{s:ai}{x C fI Qa Dc:Addr}{dd:Option Addr}{B:Heap}{cn n:Str}{i:Nat}{p pos:Pos}{rq:Stmt}{oY:List Stmt}{rest:List gU}{ts:TS}{D:Ends}
noncomputable def ur(i:Nat)(D:Ends):Ends:={nx:=λσ H=>D.nx (σ.set i none) H,rt:=D.rt,bk:=λσ H=>D.bk (σ.set i none) H,ct:=λσ H=>D.ct (σ.set i none) H}
theorem Ro (I:Inv X pins σ H s)(R:sq B x (.ref C) dd .none s.heap)(c:XC X.K C fI Qa)(b:XB X.K Dc)(e:Gl X cn)(hm:X.mg cn=some (.ref Dc))(no:(Value.ref C::.ref Qa::oU).contains (.ref Dc)=false)(h:wpAny (model X.prog X.w) X.A (handleBy (.ref x) X.env rest) (SP X pins D) X.xe s)(hd:(cn==("__debug__":Str))=false:=by decide):wpAny (model X.prog X.w) X.A (handleBy (.ref x) X.env (.ExceptHandler (some (.Name cn p)) nm (rq::oY) pos::rest)) (SP X pins D) X.xe s:=by obtain⟨o,vs,a,f,_⟩:=R;refine wpAny_handleBy_cons (codeAny_handlers_test ?_) (by intro q;cases q);refine JJ (X:=X.qO (.ref x)) (I.qO _) e hm ?_ hd;obtain⟨l,g,d,j,os⟩:=s;refine U5 I.kT c b a f ?_;rw[no];exact h
theorem Wi(I:Inv X pins σ H s)(Q:H x=some (nA x C dd))(R:sq B x (.ref C) dd .none s.heap)(c:XC X.K C fI Qa)(b:XB X.K Dc)(G:Gl X cn)(hm:X.mg cn=some (.ref Dc))(yes:(Value.ref C::.ref Qa::oU).contains (.ref Dc)=true)(l:X.N.Nodup)(j:X.N[i]?=some n)(hk:X.env.scope.names.lookup n=some .local)(F:oJ (X.qO (.ref x)) (rq::oY) ts)(h:ts (ur i D) (σ.set i (some (.ref x))) H)(hd:(cn==("__debug__":Str))=false:=by decide):wpAny (model X.prog X.w) X.A (handleBy (.ref x) X.env (.ExceptHandler (some (.Name cn p)) (some n) (rq::oY) pos::rest)) (SP X pins D) X.xe s:=by
 obtain⟨o,vs,E,L,_⟩:=id R;refine wpAny_handleBy_cons (codeAny_handlers_test ?_) (by intro q;cases q);refine JJ (X:=X.qO (.ref x)) (I.qO _) G hm ?_ hd;obtain⟨P,g,d,y,os⟩:=s;refine U5 I.kT c b E L ?_;rw[yes];refine codeAny_handlers_suite_as (Aj R λh' k=>?_);have O:Inv X pins σ H ⟨h',g,d,y,os⟩:=I.kept (t':=y) k;refine GI (X:=X.qO (.ref x)) (v:=.ref x) (O.qO _) l j (.inl hk) rfl (λs3 M=>?_) (.inr hk);refine cj (F pins s3 _ H (ur i D) M h) (λf s4 q=>?_) λ_ _ z=>False.elim z;cases f with
|next=>obtain⟨e,H',J,q⟩:=q;exact forget (J.qJ I.ok) l j hk λs' a=>⟨_,H',a,q⟩
|brk=>obtain⟨e,H',J,q⟩:=q;exact forget (J.qJ I.ok) l j hk λs' a=>⟨_,H',a,q⟩
|cont=>obtain⟨e,H',J,q⟩:=q;exact forget (J.qJ I.ok) l j hk λs' a=>⟨_,H',a,q⟩
|ret u=>obtain⟨v,e,H',J,r,q⟩:=q;exact forget (J.qJ I.ok) l j hk λs' a=>⟨v,_,H',a,r,q⟩
end
section
variable {X:Cx}{pins:List (Addr×Obj)}{σ:St}{H1 H2:Hp}{s1 s2:ai}{x C:Addr}{dd:Option Addr}{B h':Heap}{fl:Value}
theorem DL(I:Inv X pins σ H1 s1)(os:s2.os=s1.os)(bare:gm s2.gens)(un:Un (l_ X.stack) [] H1 H2 s1.heap s2.heap)(s:k6 X.prog X.w H2 s2.heap)(F:rD B X.stack x (.ref C) dd .none s2.heap)(b:oM B (l_ X.stack) x H1 H2 s1.heap)(i:rD B X.stack x (.ref C) dd fl h')(U:s2.heap.UpToSlots h'):Inv X pins σ (upd H2 x (nA x C dd)) {s2 with heap:=h'}:=by
 have nx:∀d o,s1.heap.get? d=some o->H1 d=none->d≠x:=by
  rintro d o e n rfl;by_cases hd:d∈l_ X.stack
  .obtain⟨_,A,f,h⟩:=I.stack.mem hd;rw[e]at f;cases f;obtain⟨v,q⟩:=un.slot d o e n hd (by simp);obtain⟨y,vs,p,_,_,r,_⟩:=F.row;rw[q]at p;cases p;exact h vs r
  .have:=b.old d o e n hd;rw[F.new]at this;cases this
 have a:∀d u,H2 d=some u->d≠x:=by rintro d u e rfl;rw[b.xn]at e;cases e
 have l:k6 X.prog X.w H2 h':=Qc s b.sD F.keep i.keep;refine I.rZ (s':={s2 with heap:=h'}) (ch:=[]) os ⟨λd o e n hd _=>i.keep d o (b.old d o e n hd),λd o e n hd _=>?_,λd o e n G=>?_,λd o e _=>?_,λd xs e=>?_,λd o u e=>?_,λd ps e=>?_⟩ (λd u e=>?_) bare λd z=>absurd z (by simp)
 .obtain⟨v,q⟩:=un.slot d o e n hd (by simp);obtain⟨_,A,f,h⟩:=I.stack.mem hd;rw[e]at f;cases f;obtain⟨j,g⟩:=U d _ q h;exact⟨j,g⟩
 .rw[Zf (nx d o e n)];exact un.free d o e n G
 .rcases b.all d o e with z|z|⟨D,z⟩
  .obtain⟨_,A,f,h⟩:=I.stack.mem z;rw[e]at f;cases f;obtain⟨v,q⟩:=un.slot d o e (I.mW d z) z (by simp);obtain⟨j,g⟩:=U d _ q h;exact⟨_,g⟩
  .subst z;obtain⟨y,_,q,_⟩:=i.row;exact⟨y,q⟩
  .exact⟨D,i.keep d D z⟩
 .have:=un.nC d xs e;rw[Zf (a d _ this)];exact this
 .have:=un.ng d o u e;rw[Zf (a d _ this)];exact this
 .obtain⟨more,this⟩:=un.nE d ps e;exact⟨more,by rw[Zf (a d _ this)];exact this⟩
 .by_cases hd:d=x
  .subst hd;rw[Zd]at e;cases e;obtain⟨o,vs,E,g,p,r,_⟩:=i.row;exact N1.mpr ⟨o,vs,E,g,p,r⟩
  .rw[Zf hd]at e;exact(l d u e).lW (λ_ _ _ q=>q) (λc q=>by rw[Zf (a c _ q)];exact q) λc xs q=>by rw[Zf (a c _ q)];exact q
end
noncomputable abbrev Cx.rM(X:Cx)(E:Value->ai->Prop)(AJ:List (Addr×Obj)):Cx:={X with xe:=E,pn:=AJ}
section
variable {X:Cx}{pins vv:List (Addr×Obj)}{σ:St}{H:Hp}{s:ai}{E:Value->ai->Prop}
theorem Inv.try(I:Inv X pins σ H s)(E:Value->ai->Prop):Inv (X.rM E (X.pn++pins)) [] σ H s:=⟨⟨I.ok.mod,I.ok.kind,I.ok.glob,I.ok.blt,I.ok.above,I.ok.inj,I.ok.has,I.ok.uG,I.ok.hd,I.ok.frames,I.ok.uY,I.ok.u9,I.ok.bs,I.ok.r9,I.ok.qq,I.ok.qx,I.ok.mF,I.ok.sI⟩,I.os,I.bare,I.base,I.loc,I.cell,I.free,I.ki,λp a=>I.pin p (by simpa using a),I.hL,I.len⟩
theorem Inv.pL(ok:X.Ok)(I:Inv (X.rM E (X.pn++pins)) vv σ H s):Inv X pins σ H s:=⟨ok,I.os,I.bare,I.base,I.loc,I.cell,I.free,I.ki,λp a=>I.pin p (bj _ a),I.hL,I.len⟩
end
noncomputable def Vg(CX:qf)(X:Cx)(E:XK)(p:St->Prop):Prop:=∀(pins:List (Addr×Obj))(σ:St)(H:Hp)(s:ai)(e:Value)(s':ai),p σ->Inv X pins σ H s->CX X.stack H s E e s'->X.xe e s'
noncomputable def Hd(X:Cx)(hs:List gU)(th:Addr->Addr->Option Addr->TS):Prop:=∀(pins:List (Addr×Obj))(s:ai)(σ:St)(H:Hp)(D:Ends)(x C:Addr)(dd:Option Addr)(B:Heap),Inv X pins σ H s->H x=some (nA x C dd)->sq B x (.ref C) dd .none s.heap->th x C dd D σ H ->wpAny (model X.prog X.w) X.A (handleBy (.ref x) X.env hs) (SP X pins D) X.xe s
noncomputable def yH:Addr->Addr->Option Addr->TS:=λ_ _ _ _ _ _=>False
noncomputable def AY(K:ae)(Dc:Addr)(i:Nat)(ts:Addr->TS)(r:Addr->Addr->Option Addr->TS):Addr->Addr->Option Addr->TS:=λx C dd D σ H=>∃fI Qa,XC K C fI Qa /\(((Value.ref C::.ref Qa::oU).contains (.ref Dc)=true/\ts x (ur i D) (σ.set i (some (.ref x))) H)\/((Value.ref C::.ref Qa::oU).contains (.ref Dc)=false/\r x C dd D σ H))
noncomputable def xq(tb:(St->Prop)->XK->TS)(th:Addr->Addr->Option Addr->TS):TS:=λD σ H=>∃E:XK,tb (λmK=>mK=σ) E D σ H/\∀c dd H',E c dd H'->∃C,c=.ref C/\∀x,H' x=none->th x C dd D σ (upd H' x (nA x C dd))
section
variable {X:Cx}{Dc:Addr}{cn n:Str}{i:Nat}{p pos:Pos}{rq:Stmt}{oY:List Stmt}{rest:List gU}{ts:Addr->TS}{r th:Addr->Addr->Option Addr->TS}
theorem Hk:Hd X [] yH:=λ_ _ _ _ _ _ _ _ _ _ _ _ h=>False.elim h
theorem Ap(b:XB X.K Dc)(a:Gl X cn)(hm:X.mg cn=some (.ref Dc))(j:X.N.Nodup)(g:X.N[i]?=some n)(hk:X.env.scope.names.lookup n=some .local)(e:∀x,oJ (X.qO (.ref x)) (rq::oY) (ts x))(f:Hd X rest r)(hd:(cn==("__debug__":Str))=false:=by decide):Hd X (.ExceptHandler (some (.Name cn p)) (some n) (rq::oY) pos::rest) (AY X.K Dc i ts r):=by
 rintro pins s σ H D x C l B I d R ⟨o,q,c,⟨yes,h⟩|⟨no,h⟩⟩
 .exact Wi I d R c b a hm yes j g hk (e x) h hd
 .exact Ro I R c b a hm no (f pins s σ H D x C l B I d R h) hd
theorem Fc {h₀:gU}{G:List gU}{R:(St->Prop)->XK->TS}(d:X.stack=X.env::X.outer/\X.env.frame=some X.env.locals)(hb:∀(g:Value->ai->Prop)(l:List (Addr×Obj))(p:St->Prop)(E:XK),Vg (qI X.prog X.w) (X.rM g l) E p->oJ (X.rM g l) body (R p E))(Z:Hd X (h₀::G) th):PS X (.Try body (h₀::G) [] [] pos) (xq R th):=by
 rintro pins s σ H D I ⟨E,h,hE⟩;refine wpAny_Try_except ?_;generalize N:(λ(e:Value)(z:ai)=>wpAny (model X.prog X.w) X.A (noteFrame e X.env) (λ_ y=>wpAny (model X.prog X.w) X.A (setFlight e none) (λ_ o=>wpAny (model X.prog X.w) X.A (handleBy e X.env (h₀::G)) (SP X pins D) X.xe o) X.xe y) X.xe z)=g;have Y:Vg (qI X.prog X.w) (X.rM g (X.pn++pins)) E (λa=>a=σ):=by
  rintro Q a H1 s1 e s2 O J ⟨x,c,j,B,U,rfl,os,bare,un,M,F,b,hc⟩;subst O;obtain⟨C,rfl,L⟩:=hE c j U hc;show g (.ref x) s2;rw[<-N];have T:Inv X pins a H1 s1:=J.pL I.ok;have fr:X.A.frames=some (X.env::X.outer):=by rw[T.ok.frames,d.1]
  have FF:rD B (X.env::X.outer) x (.ref C) j .none s2.heap:=by rw[<-d.1];exact F
  refine Qg fr d.2 FF λh1 F1 U1=>?_;refine Qh (s:={s2 with heap:=h1}) F1 λS W U2=>?_;have P:rD B X.stack x (.ref C) j .none S:=by rw[d.1];exact W
  have I2:Inv X pins a (upd U x (nA x C j)) {s2 with heap:=S}:=DL T os bare un M F b P (U1.trans U2);exact Z pins _ a _ D x C j B I2 (Zd ..) W.row (L x b.xn)
 refine cj (hb g (X.pn++pins) _ E Y [] s σ H D (I.try g) h) (λf s1 q=>?_) λe s1 q=>?_
 .cases f with
 |next=>obtain⟨a,H',J,q⟩:=q;exact f7 ⟨a,H',J.pL I.ok,q⟩
 |brk=>obtain⟨a,H',J,q⟩:=q;exact⟨a,H',J.pL I.ok,q⟩
 |cont=>obtain⟨a,H',J,q⟩:=q;exact⟨a,H',J.pL I.ok,q⟩
 |ret u=>obtain⟨v,a,H',J,r,q⟩:=q;exact⟨v,a,H',J.pL I.ok,r,q⟩
 .exact q
end
noncomputable def AF(p:St->Prop)(t:TE):TE:=λσ H Q=>p σ/\t σ H Q
section
variable {X:Cx}{CX:qf}{k:Nat}{f C Qa:Addr}{fd:dk}{ps:List Str}{sp:Sp}{dvs:List V}{ds:List Value}{E:XK}{x m:Str}{pp pos apos:Pos}{e o:Expr}{es:List Expr}{ta:TE}{t:TA}{p:St->Prop}
noncomputable def Qt(CX:qf)(X:Cx)(E:XK)(σ:St):Prop:=∀(pins:List (Addr×Obj))(H:Hp)(s:ai)(e:Value)(s':ai),Inv X pins σ H s->CX X.stack H s E e s'->X.xe e s'
theorem Vg.at (h:Vg CX X E p)(a:p σ):Qt CX X E σ:=λpins H s e s' I c=>h pins σ H s e s' a I c
theorem Ar       (F:jR X.prog X.w X.K X.mg X.base CX k f fd ps sp)(d:jw k X.A)(i:Binds X.K fd ps ds)(hd:Vals dvs ds)(c:Qt CX X E σ)(I:Inv X pins σ H s)(r:Vals vs us)(h:sp (vs++dvs) H Q E):wpAny (model X.prog X.w) X.A (call (.ref f) us) (EP X pins σ Q) X.xe s:=by
 have b:Vals (vs++dvs) (us++ds):=r.append hd;have g:(us++ds).length=ps.length:=(b.length).symm.trans (F.len _ _ _ _ h);refine fM (gn (F.run X.A X.stack s H ⟨us,[]⟩ (us++ds) (vs++dvs) Q E d I.tE (i s us I.kT g) b h) λres s' a=>?_);match res,a with
|.error e,a=>exact c pins H s e s' I a
|.ok (.ret u),a=>exact I.after a
|.ok .next,a=>exact a.elim
|.ok .brk,a=>exact a.elim
|.ok .cont,a=>exact a.elim
theorem Q2(F:jR X.prog X.w X.K X.mg X.base CX k f fd ps sp)(g:jw k X.A)(j:Gl X x)(hm:X.mg x=some (.ref f))(hk:a7 X.K (.ref f)=true)(l:Binds X.K fd ps ds)(hd:Vals dvs ds)(d:Vg CX X E p)(n:PA X (e::es) t)(b:(x==("__debug__":Str))=false:=by decide)(he:aH (e::es) X.env=(false,eval e X.env)::aH es X.env:=by rfl)(a:(cy pos (aH es X.env)).any (·.1)=false:=by rfl):PE X (.Call (.Name x pp) (e::es) [] pos) (AF p (MN sp dvs E t)):=by rintro pins s σ H Q I ⟨i,h⟩;refine dS (JJ I j hm ?_ b);refine dC (h₀:=X.base) I.ok.mod.tX hk (hU (n pos pins s σ H _ I h) λus s1⟨vs,H1,c,r,q⟩=>⟨c.kT,?_⟩) he a;exact Ar F g l hd (d.at i) c r q
end
structure XR(K:ae)(C:Addr):Prop where
 ga:aD K (.ref C) "__getattribute__"=some (some (.builtin "BaseException.__getattribute__"))
 gg:aD K (.ref C) "__getattr__"=some none
 hd:cF K C=true
 be:df K C (.type "BaseException")=some true
section
variable {prog:Program}{w:World}{A:bh}{E:Value->ai->Prop}{K:ae}{s:ai}{x C d:Addr}{o:Obj}{mA:Str->Option Value}{f:Str}{v:Value}{expr:Bool}{Q:Value->ai->Prop}
theorem wF(X:K.In s.heap)(r:XR K C)(i:s.heap.get? x=some o)(y:o.cls=.ref C)(b:∃vs,o.data=.fields vs)(c:o.dict=some d)(p:s.heap.Ns1 d mA)(z:aD K (.ref C) f=some none)(j:mA f=some v)(u:iR v=true)(h:Q v {s with toks:=s.toks+1}):wpAny (model prog w) A (getAttr (.ref x) f expr) Q E s:=by
 obtain⟨od,n,q⟩:=UJ p;have no:e_ o=true:=by obtain⟨vs,e⟩:=b;unfold e_;rw[e]
 have I:fe s.heap x o C (some od):=⟨i,y,no,by rw[c];exact n⟩;have FB:=i8;obtain⟨l,g,G,t,os⟩:=s;have a:=I.type (M:=model prog w);have D:=c8 (M:=model prog w) X r.ga;have L2:=c8 (M:=model prog w) X r.gg;have B:=PySem.W.looks_find (M:=model prog w) X I (PySem.W.findObj_own r.hd z rfl (by rw[q,j]));have sub:PySem.W.Looks (model prog w) l (i_ (.ref x) (.type "BaseException")) true:=a.andThen (hV X r.be);unfold getAttr getAttrBy;refine aa (wpAny_mkText (aU (aa (a.at (aa (D.at ?_))))));show wpAny _ _ (if(g8 (Value.ref C)&&Value.builtin "BaseException.__getattribute__"==Value.builtin "object.__getattribute__")=true then _ else _) _ _ _;rw[if_neg (by simp)];unfold getAttrByItsOwn hookBefore;rw[if_pos (show g8 (Value.ref C)=true from rfl)];refine aa (L2.at ?_);refine aa (dB (aU ?_));unfold callGetattribute;rw[if_neg (show ¬((expr&&g8 (Value.builtin "BaseException.__getattribute__"))=true)from by cases expr<;>simp[g8])];unfold boundAndCalled;rw[FB.ga.bind];refine aa (ah ?_);refine fM (iQ FB.ga.plain PySem.F.entry_bexc_ga (@ij (model prog w) _ _ _ "BaseException.__getattribute__" "BaseException" "__getattribute__" (.ref x) [.str f t] [] _ (by decide +kernel) (by decide +kernel) sub (PySem.F.args_bexc_ga (.ref x) (.str f t)) ?_));unfold cU.«object.__getattribute__»;refine aa (ah (aa (ah (aa (a.at (aa (B.at (ah ?_))))))));show wpAny _ _ (handedOut v) _ _ _;rw[PySem.W.handedOut_of u];exact ah h
end
noncomputable def SV(H:Hp)(a C d:Addr):Prop:=H a=some (nA a C (some d))\/H a=some (lZ a C (some d))
theorem SV.obj     (e:SV H a C d)(ok:k6 P w H h):∃o vs,h.get? a=some o/\o.cls=.ref C/\o.dict=some d/\o.data=.fields vs:=by
 rcases e with e|e
 .exact N1.mp (ok a _ e)
 .obtain⟨o,vs,g,f,c,b,_⟩:=JO.mp (ok a _ e);exact⟨o,vs,g,f,c,b⟩
noncomputable def HK(K:ae)(ta:TE)(f:Str):TE:=λσ H Q=>ta σ H λx H1=>∃a C d fs v,x=.ref a/\SV H1 a C d/\H1 d=some (XD d fs)/\XR K C/\XA K C f/\fs.lookup f=some v/\Q v H1
section
variable {X:Cx}{o:Expr}{ta:TE}{f:Str}{pos:Pos}
theorem Dn(w:PE X o ta)(p:fj o f X.env (eval o X.env)=eval o X.env:=by rfl):PE X (.Attribute o f pos) (HK X.K ta f):=by intro pins s σ H Q I h;refine SR p (hU (w pins s σ H _ I h) λi s1 hZ=>?_);obtain⟨x,H1,b,g,a,C,d,fs,v,ex,E,D,c,n,l,q⟩:=hZ;subst ex;obtain rfl:i=Value.ref a:=g;obtain⟨F,vs,B,A,z,y⟩:=E.obj b.hL;obtain⟨mA,ns,r,_⟩:=WG.mp (b.hL d _ D);obtain⟨u,j,e⟩:=kf.some_of (v:=v) (o:=mA f) (by rw[<-l];exact r f);exact wF b.kT c B A ⟨vs,y⟩ z ns n j (MZ e) ⟨v,H1,b.tok _,e,q⟩
end
section
variable {P:Program}{w:World}{K:ae}{mg:Str->Option Value}{base:Heap}
theorem oK.AL{x qual:Str}{st:Stmt}{f:Addr}{fd:dk}{N ps:List Str}{k:Nat}{sp:Sp}(F:oK K x qual st f fd)(S:fx N ps (Ze st))(len:∀vs H Q E,sp vs H Q E->vs.length=ps.length)(b:∀(a:Value)(A:bh)(outer:List Env)(s:ai)(H:Hp)(vs:List V)(Q:VK)(E:XK),jw k (A.deeper (d_ qual (Ze st) s.heap.objs.size f a))->sp vs H Q E ->∃t,oJ (lY (qI P w) P w K mg base N qual (Ze st) f a A outer s H E) (ZV st) t/\t {nx:=λ_ H'=>Q .non H',rt:=Q} (start N vs) H):jR P w K mg base (qI P w) (k+1) f fd ps sp:=by obtain⟨h,od,kV,doc,pm,an,a,ct,g,rfl,lk,d⟩:=F.ex;exact EH lk d S len λA outer s H vs Q E e c=>b a A outer s H vs Q E e c
noncomputable def tQ(P:Program)(w:World)(K:ae)(mg:Str->Option Value)(base:Heap)(k:Nat)(x:Str)(ps:List Str)(sp:Sp):Prop:=∃f fd,jR P w K mg base (qI P w) k f fd ps sp/\mg x=some (.ref f)/\a7 K (.ref f)=true/\Binds K fd ps []
theorem Df.yU{x:Str}{st:Stmt}{N ps:List Str}{k:Nat}{sp:Sp}(D:Df K mg x st ps)(S:fx N ps (Ze st))(len:∀vs H Q E,sp vs H Q E->vs.length=ps.length)(c:∀(f:Addr)(a:Value)(A:bh)(outer:List Env)(s:ai)(H:Hp)(vs:List V)(Q:VK)(E:XK),jw k (A.deeper (d_ x (Ze st) s.heap.objs.size f a))->sp vs H Q E ->∃t,oJ (lY (qI P w) P w K mg base N x (Ze st) f a A outer s H E) (ZV st) t/\t {nx:=λ_ H'=>Q .non H',rt:=Q} (start N vs) H):tQ P w K mg base (k+1) x ps sp:=by obtain⟨f,fd,F,m,b⟩:=D;exact⟨f,fd,F.AL S len (λa A outer s H vs Q E d h=>c f a A outer s H vs Q E d h),m,F.kp,b⟩
end
noncomputable def WZ(C:Addr)(names:List Str):Sp:=λvs H Q _=>∃a xs,vs=.ref a::xs/\xs.length=names.length/\H a=some (lZ a C none) /\∀H' d,d≠a->H d=none->H' a=some (lZ a C (some d))->H' d=some (XD d (names.zip xs))->(∀b,b≠a->b≠d->H' b=H b)->Q .non H'
structure zE(P:Program)(w:World)(K:ae)(mg:Str->Option Value)(base:Heap)(x:Str)(names:List Str)(C:Addr):Prop where
 xc:∃fI Qa fd ps,XC K C fI Qa/\jR P w K mg base jS 1 fI fd ps (WZ C names)/\ps.length<=1000/\Binds K fd ps []
 xr:XR K C
 mg:mg x=some (.ref C)
 kp:a7 K (.ref C)=true
section
variable {X:Cx}{E:XK}{x:Str}{names:List Str}{C:Addr}{p jU pos:Pos}{e:Expr}{es:List Expr}{t:TA}
noncomputable def Sg(C:Addr)(names:List Str)(t:TA)(E:XK):TS:=λ_ σ H=>t σ H λvs H1=>vs.length=names.length/\∀H' d,H1 d=none->H' d=some (XD d (names.zip vs))->(∀b,b≠d->H' b=H1 b)->E (.ref C) (some d) H'
theorem MS(R:zE X.prog X.w X.K X.mg X.base x names C)(U:Passes (qI X.prog X.w) X E)(f:X.calm=true)(W:jw 2 X.A)(Y:Gl X x)(ha:PA X (e::es) t)(J:(x==("__debug__":Str))=false:=by decide)(he:aH (e::es) X.env=(false,eval e X.env)::aH es X.env:=by rfl)(G:(cy jU (aH es X.env)).any (·.1)=false:=by rfl):PS X (.Raise (some (.Call (.Name x p) (e::es) [] jU)) none pos) (Sg C names t E):=by
 obtain⟨fI,Qa,fd,ps,M,F,hn,l⟩:=R.xc;intro pins s σ H D I h;rw[arm_exec_Raise];refine aa (fV ?_);refine Tr (K:=X.K) (I.ok.hd f) (aa (cj (dS (JJ I Y R.mg ?_ J)) (λu s1 q=>aa (fV (ah q))) λ_ _ z=>z));refine dC (h₀:=X.base) I.ok.mod.tX R.kp (hU (ha jU pins s σ H _ I h) λus s1⟨vs,H1,P,r,N,q⟩=>⟨P.kT,?_⟩) he G;refine hU (Tj (k:=1) (E:=E0) (Q:=λv j=>∃a d H',v=.ref a/\j a=some (lZ a C (some d))/\del j a=H'/\E (.ref C) (some d) H') (dvs:=[]) (ds:=[]) M F W l .nil Z6 P r ?_ λa L=>?_) λu s2 T=>?_
 .rw[cW];have e1:=r.length;have e2:=F.len (.ref s1.heap.objs.size::vs) (upd H1 s1.heap.objs.size (lZ s1.heap.objs.size C none)) (λ_ _=>True) E0 ⟨_,vs,rfl,N,Zd ..,λ_ _ _ _ _ _ _=>trivial⟩;rw[aR]at e2;have e3:us.length=vs.length:=e1.symm;show us.length<=_;omega
 .rw[ba];refine⟨a,vs,rfl,N,Zd ..,λH' d g hd n h2 h3=>⟨rfl,a,d,_,rfl,n,rfl,q (del H' a) d ?_ ?_ ?_⟩⟩
  .rwa [Zf g]at hd
  .rw[Jc g];exact h2
  .intro b l;by_cases c:b=a
   .rw[c,J6,L]
   .rw[Jc c,h3 b c l,Zf c]
 .obtain⟨v,j,i,S,a,d,H',ev,O,eH,hE⟩:=T;subst ev;obtain rfl:u=Value.ref a:=S;obtain⟨o,y,B,Z,ab,hd,hz,n⟩:=JO.mp (i.hL a _ O);exact⟨a,o,C,fI,Qa,y,rfl,M,i.kT,B,Z,hd,n,U pins σ j s2 _ s2 i (raised i O (by rw[eH];exact hE))⟩
end
noncomputable def Sk(f v:Str)(p1 p2 p3 p4:Pos):Stmt:=.Assign [.Attribute (.Name hB p1) f p2] (.Name v p3) p4
theorem WK  (S:fx N ps sc){x:Str}(h:x∈ps):vI sc x:=by
 rcases S.par x h with z|z
 .exact .inl z
 .exact .inr (.inl z)
section
variable {P:Program}{w:World}{K:ae}{mg:Str->Option Value}{base:Heap}{fI C Qa:Addr}{fd:dk}{qual f1 v1 f2 v2 f3 v3:Str}{st:Stmt}{p1 p2 p3 p4 q1 q2 q3 q4 r1 r2 r3 r4:Pos}
noncomputable def Plain(x:Str):Prop:=(x==("__debug__":Str))=false/\(x==("__classdict__":Str))=false
theorem Ak(F:oK K "__init__" qual st fI fd)(S:fx [hB,v1] [hB,v1] (Ze st))(n:ZV st=[Sk f1 v1 p1 p2 p3 p4])(pl:Plain v1)(j:XC K C fI Qa)(l:XA K C f1):jR P w K mg base jS 1 fI fd [hB,v1] (WZ C [f1]):=by
 refine F.ok (k:=0) S (λvs H Q E h=>?_) λp A outer s H vs Q E q h=>?_
 .obtain⟨a,xs,rfl,e,_⟩:=h;rw[aR,e];rfl
 .obtain⟨a,xs,rfl,e,o,k⟩:=h;obtain⟨y,rfl⟩:=rh e;rw[n];refine⟨_,Zc (Dj (Q0 (i:=0) rfl (WK S (by simp)) (by decide) (by decide)) (Q0 (i:=1) rfl (WK S (by simp)) pl.1 pl.2) rfl),?_⟩;refine⟨y,rfl,.ref a,rfl,a,C,fI,Qa,rfl,o,j,l,λd c hd=>?_⟩;exact k _ d c hd (Zd ..) (by rw[Zf c,Zd];rfl) λb g f=>by rw[Zf g,Zf f]
end
structure zr(K:ae)(mg:Str->Option Value)(x:Str)(C fI Qa:Addr):Prop where
 xc:XC K C fI Qa
 xr:XR K C
 xb:XB K C
 mg:mg x=some (.ref C)
 kp:a7 K (.ref C)=true
section
variable {K:ae}{σ:St}{H:Hp}{Q:VK}{i:Nat}{n:Int}{p:Addr}{xs:List V}{v:V}
theorem uz(b:H p=some (.lst xs))(c:kZ xs n=some v)(k:Q v H)(a:σ[i]?=some (some (.ref p)):=by rfl):rF (sX K) (lC i) (tC (.int n)) σ H Q:=⟨_,a,p,xs,n,v,rfl,rfl,gp.of b,c,k⟩
theorem pI(b:H p=some (.tup xs))(c:kZ xs n=some v)(k:Q v H)(a:σ[i]?=some (some (.ref p)):=by rfl):rF (sW K) (lC i) (tC (.int n)) σ H Q:=⟨_,a,p,xs,n,v,rfl,rfl,hO.of b,c,k⟩
theorem vC(j:Nat)(b:H p=some (.lst xs))(c:xs[j]?=some v)(k:Q v H)(a:σ[i]?=some (some (.ref p)):=by rfl):rF (sX K) (lC i) (tC (.int j)) σ H Q:=uz b (Zj c) k a
theorem qM(j:Nat)(b:H p=some (.tup xs))(c:xs[j]?=some v)(k:Q v H)(a:σ[i]?=some (some (.ref p)):=by rfl):rF (sW K) (lC i) (tC (.int j)) σ H Q:=pI b (Zj c) k a
theorem km  {sp:Sp}{dvs:List V}{a:TA}(c:H t=some (.ins C e fs))(d:fs.lookup m=none)(k:a σ H λvs f=>sp (.ref t::(vs++dvs)) f Q E)(b:σ[i]?=some (some (.ref t)):=by rfl):Pf C m sp dvs E (lC i) a σ H Q:=⟨_,b,t,e,fs,rfl,c,d,k⟩
end
section
variable {X:Cx}{a b e:Expr}{es:List Expr}{ta tb te:TE}{t:TA}{pos:Pos}
noncomputable def notStar:Expr->Bool
|.Starred ..=>false
|_=>true
theorem QH (h:notStar e=true):aH (e::es) env=(false,eval e env)::aH es env:=by cases e<;>first|rfl|cases h
theorem Zg(f:PE X e te)(c:PA X es t)(d:notStar e=true:=by rfl):PA X (e::es) (Y7 te t):=Zi f c (QH d)
theorem ju(d:PE X e te)(c:notStar e=true:=by rfl):PA X [e] (Y7 te jn):=Zg d Zl c
theorem jz(f:PE X e te)(d:PE X a ta)(c:(notStar e&&notStar a)=true:=by rfl):PA X [e,a] (Y7 te (Y7 ta jn)):=Zg f (ju d (Bool.and_eq_true_iff.mp c).2) (Bool.and_eq_true_iff.mp c).1
theorem kg(g:PE X e te)(f:PE X a ta)(d:PE X b tb)(c:(notStar e&&(notStar a&&notStar b))=true:=by rfl):PA X [e,a,b] (Y7 te (Y7 ta (Y7 tb jn))):=Zg g (jz f d (Bool.and_eq_true_iff.mp c).2) (Bool.and_eq_true_iff.mp c).1
theorem jG(i:Nat){x:Str}(f:X.N.Nodup)(d:X.N[i]?=some x:=by rfl)(c:Loc X.env.scope x:=by exact cV rfl)(hf:X.fn x=true\/X.env.scope.names.lookup x=some .local:=by first|exact .inl rfl|exact .inr rfl|assumption):PG X (.Name x pos) (Zp i):=So f d c hf
theorem il(K:ae)(f:PE X a ta)(d:PE X b tb)(g:X.K=K:=by rfl)(c:Pc b:=by exact λ_ _=>rfl):PE X (.Subscript a b pos) (rF (sX K) ta tb):=by subst g;exact Yn DQ f d c
theorem it(K:ae)(f:PE X a ta)(d:PE X b tb)(g:X.K=K:=by rfl)(c:Pc b:=by exact λ_ _=>rfl):PE X (.Subscript a b pos) (rF (sW K) ta tb):=by subst g;exact Yn Yj f d c
theorem cn{k j:Nat}   (C:hY X.prog X.w X.K X.mg X.base k x ps sp)(f:jw j X.A)(h:PA X (e::es) t)(hk:k<=j:=by decide)(g:Gl X x:=by rfl)(d:(x==("__debug__":Str))=false:=by decide)(he:aH (e::es) X.env=(false,eval e X.env)::aH es X.env:=by rfl)(c:(cy pos (aH es X.env)).any (·.1)=false:=by rfl):PE X (.Call (.Name x p) (e::es) [] pos) (MN sp [] E0 t):=Yx C (f.mono hk) g h d he c
theorem st(i:Nat){x:Str}{p:Pos}(g:X.N.Nodup)(he:PE X e te)(f:X.N[i]?=some x:=by rfl)(c:Loc X.env.scope x:=by exact cV rfl)(d:gw e (some (.Name x p)) pos.line X.env=pure false:=by rfl)(hf:X.fn x=true\/X.env.scope.names.lookup x=some .local:=by first|exact .inl rfl|exact .inr rfl):PS X (.Assign [.Name x p] e pos) (sQ te (Zp i)):=YL g f c he d hf
end
theorem jw.m{j k:Nat}(r:jw k A)(h:j<=k:=by decide):jw j A:=r.mono h
theorem zl{n:Nat}(h:Nat.ble n 1000=true:=by rfl):n<=sizeLine:=Nat.le_trans (Nat.le_of_ble_eq_true h) (by decide)
theorem gE{α:Type}{l:List α}{i:Nat}(h:i<l.length):l[i]?=some l[i]:=List.getElem?_eq_getElem h
theorem lm{α β:Type}{f:α->β}{l:List α}:(l.map f).length=l.length:=bU f
theorem jX{N P:List Str}{sc:Scope}(h:sc.kind=.function/\sc.isCoroutine=false/\sc.isGenerator=false/\N.Nodup/\N.take P.length=P/\(∀x∈P,sc.names.lookup x=some .local\/sc.names.lookup x=some .cell)/\∀y∈sc.names,y.2≠.free:=by decide +kernel):fx N P sc:=⟨h.1,h.2.1,h.2.2.1,h.2.2.2.1,h.2.2.2.2.1,h.2.2.2.2.2.1,h.2.2.2.2.2.2⟩
noncomputable def tG(l:List (Str×eM)):Scope:={kind:=.function,names:=l,isGenerator:=false,isCoroutine:=false,more:=[]}
section
variable {P:Program}{w:World}{K:ae}{mg:Str->Option Value}{base:Heap}{x:Str}{st:Stmt}{N ps:List Str}{k:Nat}{sp:Sp}
theorem Df.cn(D:Df K mg x st ps)(S:fx N ps (Ze st))(c:∀(f:Addr)(b:Value)(A:bh)(outer:List Env)(s:ai)(H:Hp)(vs:List V)(Q:VK)(E:XK),jw k (A.deeper (d_ x (Ze st) s.heap.objs.size f b))->sp vs H Q E->∃t,oJ (lY jS P w K mg base N x (Ze st) f b A outer s H E).tU (ZV st) t/\t {nx:=λ_ H'=>Q .non H',rt:=Q} (start N vs) H)(len:∀vs H Q E,sp vs H Q E->vs.length=ps.length:=by intro _ _ _ _ h;repeat (obtain⟨a,h⟩:=h;first|(subst a;rfl)|skip)):hY P w K mg base (k+1) x ps sp:=D.tY S len c
theorem Df.A4(D:Df K mg x st ps)(S:fx N ps (Ze st))(c:∀(f:Addr)(b:Value)(A:bh)(outer:List Env)(s:ai)(H:Hp)(vs:List V)(Q:VK)(E:XK),jw k (A.deeper (d_ x (Ze st) s.heap.objs.size f b))->sp vs H Q E->∃t,oJ (lY (qI P w) P w K mg base N x (Ze st) f b A outer s H E) (ZV st) t/\t {nx:=λ_ H'=>Q .non H',rt:=Q} (start N vs) H)(len:∀vs H Q E,sp vs H Q E->vs.length=ps.length:=by intro _ _ _ _ h;repeat (obtain⟨a,h⟩:=h;first|(subst a;rfl)|skip)):tQ P w K mg base (k+1) x ps sp:=D.yU S len c
end
theorem tq{a b:TS}  (h:∀d:Ends,(∀c H',b D c H'->d.nx c H')->a d σ H):qY a b D σ H:=h _ λ_ _ x=>x
theorem j9{σ:St}{p:(Nat->Option V)->St}(h:σ=p λi=>σ.getD i none):∃o,σ=p o:=⟨_,h⟩
theorem td{a:TS}{D:Ends} (h:∀c:Ends,(∀b H',D.nx b H'->c.nx b H')->a c σ H):a D σ H:=h _ λ_ _ x=>x
theorem my{a b:TS}  (h:∀d:Ends,(∀c H',b D c H'->d.nx c H')->(∀v H',D.rt v H'->d.rt v H')->a d σ H):qY a b D σ H:=h _ (λ_ _ x=>x) (λ_ _ x=>x)
noncomputable def X4(K:ae)(w:World)(a:Addr)(z:Str)(v:V):Prop:=∃es n u,K.lookup a=some ⟨.type "dict",none,.dict es n,#[]⟩/\PySem.W.KeysLit w.params es.toList/\bA K a z=some (some u)/\RelV v u
noncomputable def HP(K:ae)(w:World)(td ty:TE):TE:=λσ H Q=>td σ H λx H1=>ty σ H1 λy H2=>∃a z v,x=.ref a/\y=.str z/\X4 K w a z v/\Q v H2
section
variable {X:Cx}{o i:Expr}{td ty:TE}{pos:Pos}
theorem Ss(q:PE X o td)(A:PE X i ty)(p:su i):PE X (.Subscript o i pos) (HP X.K X.w td ty):=by intro pins s σ H Q I h;refine Np fW.lookup p (hU (q pins s σ H _ I h) λu s1⟨x,H1,C,e,j⟩=>hU (A pins s1 σ H1 _ C j) λl s2 hZ=>?_);obtain⟨y,D,c,d,a,z,v,ex,B,⟨F,n,E,b,hk,r,f⟩,g⟩:=hZ;subst ex B;obtain rfl:u=Value.ref a:=e;obtain⟨t,rfl⟩:=(show ∃t,l=Value.str z t from d);have hm:=PySem.W.mapOf_K (prog:=X.prog) c.kT b hk;exact⟨hm.typeIs,wpAny_getItem_of (strKind_is X.prog X.w z t) hm (PySem.W.find_K b r) ⟨v,D,c.tok _,f,g⟩⟩
end
end L2
namespace T
open PySem L2
noncomputable def top(i:Nat):Stmt:=af.main.body.getD i (.Pass ⟨0,0,0,0⟩)
noncomputable abbrev kh:Stmt:=inClass (top 8) 0
noncomputable abbrev oH:Stmt:=top 15
noncomputable abbrev nU:Stmt:=top 16
noncomputable abbrev ni:Stmt:=top 17
noncomputable abbrev o8:Stmt:=top 18
noncomputable abbrev lU:Stmt:=top 19
noncomputable abbrev mj:Stmt:=top 21
noncomputable abbrev jj:Stmt:=inClass (top 23) 0
noncomputable abbrev mh:Stmt:=inClass (top 23) 2
noncomputable abbrev mi:Stmt:=inClass (top 23) 3
noncomputable abbrev j3:Stmt:=inClass (top 24) 0
noncomputable abbrev kD:Stmt:=inClass (top 25) 0
noncomputable abbrev kr:Stmt:=inClass (top 26) 0
noncomputable abbrev ku:Stmt:=inClass (top 27) 0
noncomputable abbrev lH:Stmt:=top 28
noncomputable abbrev nK:Stmt:=top 29
noncomputable abbrev nM:Stmt:=top 30
noncomputable abbrev kU:Stmt:=top 31
noncomputable abbrev lJ:Stmt:=top 33
noncomputable abbrev lK:Stmt:=top 34
noncomputable abbrev oG:Stmt:=top 35
noncomputable abbrev mN:Stmt:=top 43
noncomputable abbrev nS:Stmt:=top 44
noncomputable abbrev j4:Stmt:=top 45
noncomputable abbrev kL:Stmt:=top 46
noncomputable abbrev k7:Stmt:=top 47
noncomputable abbrev kK:Stmt:=top 48
noncomputable abbrev kX:Stmt:=top 49
noncomputable abbrev k8:Stmt:=top 50
noncomputable abbrev lI:Stmt:=top 51
noncomputable abbrev jl:Stmt:=inClass (top 52) 0
noncomputable abbrev jP:Stmt:=inClass (top 52) 1
noncomputable abbrev jY:Stmt:=inClass (top 52) 2
noncomputable abbrev j0:Stmt:=inClass (top 52) 3
noncomputable abbrev jQ:Stmt:=inClass (top 52) 4
noncomputable abbrev kd:Stmt:=inClass (top 52) 6
noncomputable abbrev kC:Stmt:=inClass (top 52) 7
noncomputable abbrev kB:Stmt:=inClass (top 52) 8
noncomputable abbrev kS:Stmt:=inClass (top 52) 9
noncomputable abbrev ke:Stmt:=inClass (top 52) 10
noncomputable abbrev kA:Stmt:=inClass (top 52) 11
noncomputable abbrev ka:Stmt:=inClass (top 52) 13
noncomputable abbrev kz:Stmt:=inClass (top 52) 14
noncomputable abbrev j1:Stmt:=inClass (top 52) 15
noncomputable abbrev mq:Stmt:=top 54
noncomputable abbrev mP:Stmt:=top 55
noncomputable abbrev mn:Stmt:=top 56
noncomputable abbrev j5:Stmt:=top 57
noncomputable abbrev kN:Stmt:=top 58
noncomputable abbrev kY:Stmt:=top 59
noncomputable abbrev lu:Stmt:=top 60
noncomputable abbrev kM:Stmt:=top 61
noncomputable abbrev lP:Stmt:=top 62
noncomputable abbrev kW:Stmt:=top 63
noncomputable abbrev k9:Stmt:=top 64
noncomputable abbrev j6:Stmt:=top 65
noncomputable abbrev lM:Stmt:=top 66
noncomputable abbrev k_:Stmt:=top 67
noncomputable abbrev jM:Stmt:=top 68
noncomputable abbrev kF:Stmt:=top 69
noncomputable abbrev jJ:Stmt:=top 70
noncomputable abbrev kG:Stmt:=top 71
noncomputable abbrev mQ:Stmt:=top 72
noncomputable abbrev lb:Stmt:=top 73
noncomputable abbrev mO:Stmt:=top 74
noncomputable abbrev ml:Stmt:=top 75
noncomputable abbrev lR:Stmt:=top 76
noncomputable abbrev mJ:Stmt:=top 77
end T
namespace K1
noncomputable def nB:List Nat:=[97,98,99,100,101,102,103,104,105,106,107,108,109,110,111,112,113,114,115,116,117,118,119,120,121,122]
noncomputable def ub:List Nat:=[48,49,50,51,52,53,54,55,56,57]
noncomputable def og(n:Int)(y:List Nat):Bool:=decide ((1:Int)<=y.length)&&decide ((y.length:Int)<=n)
noncomputable def YT(n:Int)(zs y:List Nat):Bool:=og n y&&y.all λc=>decide (c∈zs)
noncomputable def Jq(n:Int)(zs y:List Nat):Bool:=YT n zs y&&decide (y.getD 0 0∈nB)
open PySem L2
noncomputable abbrev Kb:Stmt:=T.oH
noncomputable abbrev R9:Stmt:=T.nU
noncomputable abbrev NC:Stmt:=T.ni
noncomputable abbrev Et:Stmt:=T.o8
noncomputable abbrev Kc:Stmt:=T.lU
noncomputable def nH:Str:="abcdefghijklmnopqrstuvwxyz"
noncomputable def kO:Str:="abcdefghijklmnopqrstuvwxyz0123456789"
noncomputable def jV:Str:="abcdefghijklmnopqrstuvwxyz0123456789."
structure Txt(K:ae)(mg:Str->Option Value):Prop where
 lets:∃t,mg "LETTERS"=some (.str nH t)
 names:∃t,mg "NAME_SIGNS"=some (.str kO t)
 groups:∃t,mg "GROUP_SIGNS"=some (.str jV t)
 ln:∃t,mg "LONGEST_NAME"=some (.int 8 t)
 lg:∃t,mg "LONGEST_GROUP_NAME"=some (.int 12 t)
 u6:mg "isinstance"=none
 int:mg "int"=none
 bool:mg "bool"=none
 str:mg "str"=none
 len:mg "len"=none
 all:mg "all"=none
noncomputable def Gx(x:V):Bool:=Rh x
noncomputable def Zy(x:V)(lo hi:Int):Bool:=match x with
|.int i=>decide (lo<=i)&&decide (i<=hi)
|_=>false
noncomputable def codes(z:Str):List Nat:=z.cps.toList
noncomputable def RQ(x:V)(n:Int)(z:Str):Bool:=match x with
|.str y=>YT n (codes z) (codes y)
|_=>false
noncomputable def V8(x:V)(n:Int)(z:Str):Bool:=match x with
|.str y=>Jq n (codes z) (codes y)
|_=>false
noncomputable def Vk:Sp:=λvs H Q _=>∃x T,vs=[x]/\Th H x T/\Q (.bl (Gx x)) H
noncomputable def YY:Sp:=λvs H Q _=>∃x T lo hi,vs=[x,.int lo,.int hi]/\Th H x T/\Q (.bl (Zy x lo hi)) H
noncomputable def GL:Sp:=λvs H Q _=>∃x T n z,vs=[x,.int n,.str z]/\Th H x T/\∀H',fy H H'->Q (.bl (RQ x n z)) H'
noncomputable def Nr(n:Int)(z:Str):Sp:=λvs H Q _=>∃x T,vs=[x]/\Th H x T/\∀H',fy H H'->Q (.bl (V8 x n z)) H'
theorem sR{z:Str}(h:z.length<=1000):z.length<=sizeLine:=Nat.le_of_lt (Ji h)
theorem vH(z:Str):(codes z).length=z.length:=by simp[codes,Str.length]
section
variable {P:Program}{w:World}{K:ae}{mg:Str->Option Value}{base:Heap}
theorem L9:fx [jt] [jt] (Ze Kb):=⟨rfl,rfl,rfl,by decide +kernel,rfl,by decide +kernel,by decide +kernel⟩
theorem Nc(T:Txt K mg)(D:Df K mg "is_whole" Kb [jt]):hY P w K mg base 1 "is_whole" [jt] Vk:=by
 refine D.tY L9 (λvs H Q E h=>?_) (λf g A outer s H vs Q E i h=>?_)
 .obtain⟨x,d,rfl,_⟩:=h;rfl
 .obtain⟨x,d,rfl,a,k⟩:=h;refine⟨_,Zc (Zk (Xa (YD (c:="int") (pv 0) rfl T.u6 rfl T.int VO) (YN (Q1 (YD (c:="bool") (pv 0) rfl T.u6 rfl T.bool N8))))),?_⟩;refine⟨_,rfl,_,_,_,_,rfl,a.ty,a.yi,_,rfl,?_⟩;have fin:∀b,b=Gx x->Q (.bl b) H:=λb e=>e▸k;refine ia (λe=>?_) (λe=>fin _ ?_)
  .refine⟨_,rfl,_,_,_,_,rfl,a.ty,a.yj,_,rfl,fin _ ?_⟩;cases a<;>first|rfl|(exact absurd (show false=true from e) Bool.false_ne_true)
  .cases a<;>first|rfl|(exact absurd rfl e)
theorem W5:fx [jt,"low","high"] [jt,"low","high"] (Ze R9):=⟨rfl,rfl,rfl,by decide +kernel,rfl,by decide +kernel,by decide +kernel⟩
theorem Mq(D:Df K mg "is_within" R9 [jt,"low","high"])(n:hY P w K mg base 1 "is_whole" [jt] Vk):hY P w K mg base 2 "is_within" [jt,"low","high"] YY:=by
 refine D.tY W5 (λvs H Q E h=>?_) (λf o A outer s H vs Q E j h=>?_)
 .obtain⟨x,g,lo,a,rfl,_⟩:=h;rfl
 .obtain⟨x,g,lo,a,rfl,c,k⟩:=h;refine⟨_,Zc (Zk (Xa (Yx n j rfl (Zi (pv 0) Zl)) (YN (Kz PN PN (pv 1) (pv 0) (pv 2))))),?_⟩;refine⟨_,rfl,x,g,rfl,c,_,rfl,?_⟩;have fin:∀b,b=Zy x lo a->Q (.bl b) H:=λb e=>e▸k;refine ia (λe=>?_) (λe=>fin _ ?_)
  .cases c with
  |int i=>
    refine⟨_,rfl,_,rfl,_,_,rfl,rfl,_,rfl,?_⟩;refine ia (λd=>?_) (λd=>fin _ ?_)
    .refine⟨_,rfl,_,_,rfl,rfl,fin _ ?_⟩;show _=(decide (lo<=i)&&decide (i<=a));rw[d,Bool.true_and]
    .show false=(decide (lo<=i)&&decide (i<=a));have l:decide (lo<=i)=false:=by simpa using d
     rw[l,Bool.false_and]
  |_=>exact absurd (show false=true from e) Bool.false_ne_true
  .cases c<;>first|rfl|(exact absurd rfl e)
theorem W8:fx [jt,"longest","signs"] [jt,"longest","signs"] (Ze NC):=⟨rfl,rfl,rfl,by decide +kernel,rfl,by decide +kernel,by decide +kernel⟩
noncomputable def yN:Scope:={kind:=.function,names:=[(Str.ofString ".0",.local),(Str.ofString "sign",.local),(Str.ofString "signs",.free)],isGenerator:=false,isCoroutine:=false,more:=[]}
theorem Hy:jm yN (Ze NC):=⟨rfl,by decide +kernel,by decide +kernel,by decide +kernel⟩
theorem HB:(["sign","signs"]:List Str).Nodup:=by decide +kernel
theorem HA:ji [jt,"longest","signs"] yN ["sign","signs"] [none,some 2]:=.mk' (by decide +kernel)
theorem Rj(z:Str)(c:Nat):(!(i9 z ⟨#[c]⟩ 0 z.length 1).isEmpty)=decide (c∈codes z):=PySem.StrLaws.found_one z c
theorem take_all{α β:Type}(l:List α)(p:α->β)(i:Nat)(c:α)(h:l[i]?=some c):(l.take (i+1)).map p=(l.take i).map p++[p c]:=by rw[List.take_add_one,h,aG];rfl
theorem Rt(T:Txt K mg)(D:Df K mg "is_text_of" NC [jt,"longest","signs"]):hY P w K mg base 1 "is_text_of" [jt,"longest","signs"] GL:=by
 refine D.tY W8 (λvs H Q E h=>?_) (λf O A outer s H vs Q E S h=>?_)
 .obtain⟨x,M,n,z,rfl,_⟩:=h;rfl
 .obtain⟨x,M,n,z,rfl,j,k⟩:=h;refine⟨_,Za (ZA (PW.pt (YK (ZK (ZH (YD (c:="str") (pv 0) rfl T.u6 rfl T.str Mu))) (YJ (ZK (Pz PN PN Zb (Zw LI rfl T.len aT (Zi (pv 0) Zl)) (pv 1)))))) (Zc (Zk YU)) Zn) (Zc (Zk (Zw (LK rfl) rfl T.all PyProof.Rows.boot_all (Zi (JF (scope:=yN) (N:=["sign","signs"]) (cp:=[none,some 2]) rfl Hy HA (Fd (pv 0)) (λC s H ex pn=>So (i:=0) HB rfl (cV rfl)) (λC s H ex pn=>Gg) (λC s H ex pn=>Yr UI (pv 0) (pv 1) (by with_unfolding_all rfl))) Zl)))),?_⟩;have fin:∀b H',fy H H'->b=RQ x n z->Q (.bl b) H':=λb H' sm e=>e▸k H' sm;refine⟨_,rfl,_,_,_,_,rfl,j.ty,j.rj,_,rfl,?_⟩;refine ia (λe=>?_) (λe=>?_)
  .refine jC (fin _ _ (fy.refl _) ?_);cases j<;>first|rfl|(exact absurd (show false=true from e) Bool.false_ne_true)
  .cases j with
  |str y B=>
    have hlen:(codes y).length=y.length:=vH y;refine⟨_,rfl,_,_,rfl,⟨sR B,rfl⟩,_,_,rfl,rfl,_,rfl,?_⟩;refine ia (λu=>?_) (λu=>?_)
    .refine⟨_,rfl,_,_,rfl,rfl,_,rfl,?_⟩;refine ia (λr=>?_) (λr=>?_)
     .refine fin _ _ (fy.refl _) ?_;show false=YT n (codes z) (codes y);unfold YT og;have g:decide ((y.length:Int)<=n)=false:=by simpa using r
      rw[hlen,g,Bool.and_false,Bool.false_and]
     .have g:decide ((y.length:Int)<=n)=true:=by simpa using r
      refine⟨_,rfl,y,rfl,Ur (J:=zB y) y.length (sR B) (λi d a H1=>H1=H/\d=((codes y).take i).map (λc=>V.bl (decide (c∈codes z)))/\∃v,a=[v,some (.str z)]) ⟨rfl,rfl,none,rfl⟩ (λi d a H1 p=>?_) (λi d a H1 F p=>F) (λd a H1 p=>Nat.le_refl _) (λi d a H1 R U F p G=>?_) (λd a H1 p l I=>?_)⟩
      .rw[p.2.1,bU,aN];omega
      .obtain⟨rfl,rfl,v,rfl⟩:=p;obtain⟨rfl,c,L,rfl⟩:=G;refine⟨_,rfl,_,rfl,_,_,rfl,rfl,rfl,?_,_,rfl⟩;rw[Rj];exact(take_all (codes y) (λc=>V.bl (decide (c∈codes z))) i c L).symm
      .obtain⟨rfl,rfl,v,rfl⟩:=p;refine⟨l,(codes y).map (λc=>decide (c∈codes z)),rfl,gp.of ?_,fin _ _ (λb o q=>?_) ?_⟩
       .rw[Zd,<-hlen,aP,cO];rfl
       .rw[Zf (fi q I)];exact q
       .show _=YT n (codes z) (codes y);unfold YT og;rw[hlen,u,g,Bool.true_and,Bool.true_and,List.all_map];rfl
    .refine⟨_,rfl,jC (fin _ _ (fy.refl _) ?_)⟩;show false=YT n (codes z) (codes y);unfold YT og;have g:decide ((1:Int)<=y.length)=false:=by simpa using u
     rw[hlen,g,Bool.false_and,Bool.false_and]
  |_=>exact absurd rfl e
theorem r6:codes nH=nB:=by decide +kernel
theorem Aw:codes kO=nB++ub++[]:=by decide +kernel
theorem HE:codes jV=nB++ub++[46]:=by decide +kernel
theorem MM {n:Int}(h:RQ x n z=true):∃y c r,x=.str y/\codes y=c::r:=by
 cases x with
|str y=>
  have h':YT n (codes z) (codes y)=true:=h;unfold YT og at h';rw[Bool.and_eq_true,Bool.and_eq_true]at h';have a:=of_decide_eq_true h'.1.1;cases e:codes y with
 |nil=>rw[e]at a;simp at a
 |cons c r=>exact⟨y,c,r,rfl,e⟩
|_=>exact absurd (show false=true from h) Bool.false_ne_true
theorem SS {c:Nat}{r:List Nat}(e:codes y=c::r):kZ y.cps.toList 0=some c:=by have a:y.cps.toList=c::r:=e;rw[a];exact Zj (j:=0) rfl
theorem _root_.L2.Th.rN   (h:Th H (.str y) T):y.length<=1000:=by
 cases h with
|str z h=>exact h
theorem UX {n:Int}(h:RQ x n z=false):V8 x n z=false:=by
 cases x with
|str y=>have h':YT n (codes z) (codes y)=false:=h;show(YT n (codes z) (codes y)&&_)=false;rw[h',Bool.false_and]
|_=>rfl
theorem L8:fx [jt] [jt] (Ze Et):=⟨rfl,rfl,rfl,by decide +kernel,rfl,by decide +kernel,by decide +kernel⟩
theorem Ly(T:Txt K mg)(D:Df K mg "is_name" Et [jt])(q:hY P w K mg base 1 "is_text_of" [jt,"longest","signs"] GL):hY P w K mg base 2 "is_name" [jt] (Nr 8 kO):=by
 refine D.tY L8 (λvs H Q E h=>?_) (λf u A outer s H vs Q E j h=>?_)
 .obtain⟨x,g,rfl,_⟩:=h;rfl
 .obtain⟨x,g,rfl,a,k⟩:=h;obtain⟨t1,o⟩:=T.ln;obtain⟨i,n⟩:=T.names;obtain⟨t3,l⟩:=T.lets;refine⟨_,Zc (Zk (Xa (Yx q j rfl (Zi (pv 0) (Zi (Ye (v:=V.int 8) rfl o ⟨t1,rfl⟩) (Zi (Ye (v:=V.str kO) rfl n ⟨i,rfl⟩) Zl)))) (YN (Yr UI (Yn NX (pv 0) Zb (λ_ _=>rfl)) (Ye (v:=V.str nH) rfl l ⟨t3,rfl⟩) (by with_unfolding_all rfl))))),?_⟩;refine⟨_,rfl,x,g,8,kO,rfl,a,λH' sm=>⟨_,rfl,?_⟩⟩;have fin:∀b,b=V8 x 8 kO->Q (.bl b) H':=λb e=>e▸k H' sm;refine ia (λe=>?_) (λe=>fin _ ?_)
  .obtain⟨y,c,r,rfl,d⟩:=MM e;refine⟨_,rfl,y,0,c,rfl,rfl,sR a.rN,SS d,_,_,rfl,rfl,fin _ ?_⟩;have p:YT 8 (codes kO) (codes y)=true:=e;show _=(YT 8 (codes kO) (codes y)&&decide ((codes y).getD 0 0∈nB));rw[Rj,p,Bool.true_and,r6,d];rfl
  .exact(UX (by simpa using e)).symm
theorem W4:fx [jt] [jt] (Ze Kc):=⟨rfl,rfl,rfl,by decide +kernel,rfl,by decide +kernel,by decide +kernel⟩
theorem Ww(T:Txt K mg)(D:Df K mg "is_group_name" Kc [jt])(q:hY P w K mg base 1 "is_text_of" [jt,"longest","signs"] GL):hY P w K mg base 2 "is_group_name" [jt] (Nr 12 jV):=by
 refine D.tY W4 (λvs H Q E h=>?_) (λf u A outer s H vs Q E j h=>?_)
 .obtain⟨x,g,rfl,_⟩:=h;rfl
 .obtain⟨x,g,rfl,a,k⟩:=h;obtain⟨t1,o⟩:=T.lg;obtain⟨i,n⟩:=T.groups;obtain⟨t3,l⟩:=T.lets;refine⟨_,Zc (Zk (Xa (Yx q j rfl (Zi (pv 0) (Zi (Ye (v:=V.int 12) rfl o ⟨t1,rfl⟩) (Zi (Ye (v:=V.str jV) rfl n ⟨i,rfl⟩) Zl)))) (YN (Yr UI (Yn NX (pv 0) Zb (λ_ _=>rfl)) (Ye (v:=V.str nH) rfl l ⟨t3,rfl⟩) (by with_unfolding_all rfl))))),?_⟩;refine⟨_,rfl,x,g,12,jV,rfl,a,λH' sm=>⟨_,rfl,?_⟩⟩;have fin:∀b,b=V8 x 12 jV->Q (.bl b) H':=λb e=>e▸k H' sm;refine ia (λe=>?_) (λe=>fin _ ?_)
  .obtain⟨y,c,r,rfl,d⟩:=MM e;refine⟨_,rfl,y,0,c,rfl,rfl,sR a.rN,SS d,_,_,rfl,rfl,fin _ ?_⟩;have p:YT 12 (codes jV) (codes y)=true:=e;show _=(YT 12 (codes jV) (codes y)&&decide ((codes y).getD 0 0∈nB));rw[Rj,p,Bool.true_and,r6,d];rfl
  .exact(UX (by simpa using e)).symm
end
end K1
namespace TB
open PySem L2 PySem.Spec PyProof.Rows
noncomputable def pG(C:Addr)(p a y:V)(H:Hp)(E:XK):Prop:=∀H' d,H d=none->H' d=some (XD d [("part",p),("at",a),("why",y)])->(∀b,b≠d->H' b=H b)->E (.ref C) (some d) H'
section
variable {P:Program}{w:World}{K:ae}{mg:Str->Option Value}{base:Heap}{C:Addr}
structure Txt(K:ae)(mg:Str->Option Value):Prop where
 turns:∃t,mg "MOST_TURNS"=some (.int 50 t)
 room:∃t,mg "MOST_ROOM"=some (.int 1000 t)
 way:∃t,mg "LONGEST_WAY"=some (.int 50 t)
 uh:∃t,mg "MOST_PEOPLE"=some (.int 300 t)
 u6:mg "isinstance"=none
 str:mg "str"=none
 tup:mg "tuple"=none
 lst:mg "list"=none
 len:mg "len"=none
noncomputable def YB(r:V):V:=if(decide (r=.non)||K1.Zy r 0 1000)=true then .non else .str "number"
noncomputable def GK:Sp:=λvs H Q _=>∃p n r T,vs=[.ref p]/\H p=some (.tup [n,r])/\Th H r T/\Q (YB r) H
theorem W6:fx ["row"] ["row"] (Ze T.k7):=jX
theorem Rp(G:Txt K mg)(D:Df K mg "wrong_place" T.k7 ["row"])(j:hY P w K mg base 2 "is_within" [jt,"low","high"] K1.YY):hY P w K mg base 3 "wrong_place" ["row"] GK:=by
 obtain⟨t1,g⟩:=G.room;refine D.cn W6 λf l A outer s H vs Q E d h=>?_;obtain⟨p,n,r,i,rfl,b,c,k⟩:=h;refine⟨_,Za (ZA (PW.pt (YK (Zo UH (Yn Yj (pv 0) Zb (λ_ _=>rfl)) ZJ (Zt _)) (YJ (ZH (Yx j d rfl (Zi (Yn Yj (pv 0) Zb (λ_ _=>rfl)) (Zi Zb (Zi (Ye (v:=V.int 1000) rfl g ⟨t1,rfl⟩) Zl)))))))) (Zc (Zk ZJ)) Zn) (Zc (Zk ZC)),?_⟩;refine⟨_,rfl,p,[n,r],1,r,rfl,rfl,hO.of b,rfl,rfl,_,rfl,?_⟩;unfold YB at k;refine ia (λe=>?_) (λe=>?_)
 .rw[if_pos (by simp[e])]at k;exact jC k
 .refine⟨_,rfl,p,[n,r],1,r,rfl,rfl,hO.of b,rfl,r,i,0,1000,rfl,c,_,rfl,?_⟩;refine ia (λa=>?_) (λa=>?_)
  .rw[if_pos (by simp[a])]at k;exact k
  .rw[if_neg (by simpa using⟨by simpa using e,by simpa using a⟩)]at k;exact k
noncomputable def ZR(x:V)(f5:List (Key×V)):Bool:=match x with
|.str z=>(f' f5 (.inr z)).isSome
|_=>false
noncomputable def VT:Sp:=λvs H Q _=>∃x T d f5,vs=[x,.ref d]/\Th H x T/\H d=some (.dK f5)/\Q (.bl (ZR x f5)) H
theorem Dd:fx [jt,"names"] [jt,"names"] (Ze T.mN):=jX
theorem Nd(G:Txt K mg)(D:Df K mg "is_known" T.mN [jt,"names"]):hY P w K mg base 1 "is_known" [jt,"names"] VT:=by
 refine D.cn Dd λf j A outer s H vs Q E i h=>?_;obtain⟨x,l,d,g,rfl,a,hd,k⟩:=h;refine⟨_,Zc (Zk (Xa (YD (c:="str") (pv 0) rfl G.u6 rfl G.str Mu) (YN (Fi (KA (Z0 i) (pv 0) (pv 1)))))),?_⟩;refine⟨_,rfl,_,_,_,_,rfl,a.ty,a.rj,_,rfl,?_⟩;have fin:∀b,b=ZR x g->Q (.bl b) H:=λb e=>e▸k;refine ia (λe=>?_) (λe=>fin _ ?_)
 .obtain⟨z,rfl⟩:∃z,x=.str z:=by cases a<;>first|exact⟨_,rfl⟩|(exact absurd (show false=true from e) Bool.false_ne_true)
  exact⟨_,rfl,_,rfl,d,_,rfl,j8.k (k:=cD z) hd,k⟩
 .cases a<;>first|rfl|(exact absurd rfl e)
end
end TB
namespace L2
open PySem PySem.Spec PyProof.Rows
theorem YQ:bJ "tuple"=some (.type "tuple"):=by decide +kernel
theorem XN:bJ "list"=some (.type "list"):=by decide +kernel
theorem Th.ri{K:ae}{H:Hp}{v:V}{T:String}(h:Th H v T):az K (.type T) (.type "tuple")=some (decide (T="tuple")):=by cases h<;>(unfold az;first|rfl|decide +kernel|(show _=_;simp;rfl))
end L2
namespace TB
open PySem L2 PySem.Spec PyProof.Rows
noncomputable def Yb(g:Bool)(x:V):Bool:=if g=true then K1.V8 x 12 K1.jV else K1.V8 x 8 K1.kO
noncomputable def pC(g:Bool)(n:Nat)(f5:List (Key×V))(xs:List V):V:=if xs.length≠n then .str "form" else if Yb g (xs.getD 0 .non)=false then .str "name" else if ZR (xs.getD 0 .non) f5=true then .str "double" else .non
noncomputable def Row(H:Hp)(v:V)(r:Option (List V)):Prop:=match r with
|none=>∃T,Th H v T/\T≠"tuple"
|some xs=>∃p,v=.ref p/\H p=some (.tup xs)/\∀x∈xs,∃T,Th H x T
noncomputable def jZ(g:Bool)(n:Nat)(f5:List (Key×V)):Option (List V)->V
|none=>.str "form"
|some xs=>pC g n f5 xs
structure p9(K:ae)(w:World)(mg:Str->Option Value):Prop where
 at_:∃a,mg "ROW_SIZES"=some (.ref a)/\X4 K w a "places" (.int 2)/\X4 K w a "rides" (.int 6)/\X4 K w a "ways" (.int 5)/\X4 K w a "groups" (.int 4)
noncomputable def PK:List (Str×Nat):=[("places",2),("rides",6),("ways",5),("groups",4)]
noncomputable def Jg:Sp:=λvs H Q _=>∃z n row r d f5,vs=[.str z,row,.ref d]/\(z,n)∈PK/\Row H row r/\H d=some (.dK f5)/\∀H',fy H H'->Q (jZ (decide (z="groups")) n f5 r) H'
section
variable {P:Program}{w:World}{K:ae}{mg:Str->Option Value}{base:Heap}{C:Addr}
theorem W7:fx ["part","row","names_ahead","fits"] ["part","row","names_ahead"] (Ze T.j4):=jX
theorem Rr(G:Txt K mg)(Z:p9 K w mg)(D:Df K mg "wrong_beginning" T.j4 ["part","row","names_ahead"])(CN:hY P w K mg base 2 "is_name" [jt] (K1.Nr 8 K1.kO))(CG:hY P w K mg base 2 "is_group_name" [jt] (K1.Nr 12 K1.jV)):hY P w K mg base 3 "wrong_beginning" ["part","row","names_ahead"] Jg:=by
 obtain⟨R,hS,k1,k2,k3,k4⟩:=Z.at_;have W:(["part","row","names_ahead","fits"]:List Str).Nodup:=by decide +kernel
 refine D.cn W7 λf ab A outer s H vs Q E N h=>?_;obtain⟨z,n,row,r,d,I,rfl,hz,o,hd,k⟩:=h;have hK:X4 K w R z (.int n):=by simp only[PK,au,h_,aQ,or_false]at hz;rcases hz with⟨rfl,rfl⟩|⟨rfl,rfl⟩|⟨rfl,rfl⟩|⟨rfl,rfl⟩<;>assumption
 refine⟨_,Za (ZA (PW.pt (YK (ZK (ZH (YD (c:="tuple") (pv 1) rfl G.u6 rfl G.tup YQ))) (YJ (Zo U0 (Zw JU rfl G.len aT (Zi (pv 1) Zl)) (Ss (Ye (v:=V.ref R) rfl hS rfl) (pv 0) (λ_ _=>rfl)) (Zt _))))) (Zc (Zk ZC)) Zn) (Za (YL (i:=3) W rfl (cV rfl) (V3 (Zo YV (pv 0) ZC (Zt _)) (Yx CG N rfl (Zi (Yn Yj (pv 1) Zb (λ_ _=>rfl)) Zl)) (Yx CN N rfl (Zi (Yn Yj (pv 1) Zb (λ_ _=>rfl)) Zl)))) (Za (ZA (ZK (ZH (pv 3))) (Zc (Zk ZC)) Zn) (Za (ZA (E9 (KA (Z0 N) (Yn Yj (pv 1) Zb (λ_ _=>rfl)) (pv 2))) (Zc (Zk ZC)) Zn) (Zc (Zk ZJ))))),?_⟩;cases r with
|none=>obtain⟨S,F,Y⟩:=o;refine⟨_,rfl,_,_,_,_,rfl,F.ty,F.ri,_,rfl,?_⟩;rw[decide_eq_false Y];refine jC ?_;exact k H (fy.refl H)
|some xs=>
  obtain⟨p,rfl,B,X⟩:=o;have F:Th H (.ref p) "tuple":=.tup B;refine⟨_,rfl,_,_,_,_,rfl,F.ty,F.ri,_,rfl,?_⟩;refine jI ?_;refine⟨_,rfl,p,xs,rfl,.inr (hO.of B),_,rfl,R,z,.int n,rfl,rfl,hK,rfl,_,rfl,?_⟩;refine ia (λe=>?_) (λe=>?_)
  .have L:xs.length≠n:=λq=>by rw[q]at e;simp at e
   show Q (.str "form") H;have q:=k H (fy.refl H);simpa[jZ,pC,L]using q
  .have L:xs.length=n:=by
    have e':(xs.length:Int)=n:=by simpa using e
    omega
   obtain⟨x,r,rfl⟩:∃x r,xs=x::r:=by
    cases xs with
   |nil=>simp only[PK,au,h_,aQ,or_false]at hz;simp at L;omega
   |cons x r=>exact⟨x,r,rfl⟩
   obtain⟨S,U⟩:=X x (by simp);have M:∀(u:V)(l:List V),kZ (u::l) 0=some u:=λu l=>Zj (xs:=u::l) (j:=0) rfl;have fin:∀b H',fy H H'->b=Yb (decide (z="groups")) x->(if(!b)=true then Q (.str "name") H' else if ZR x I=true then Q (.str "double") H' else Q .non H'):=by
    rintro b H' sm rfl;have q:=k H' sm;simp only[jZ,pC,L,ne_eq,not_true_eq_false,if_false,List.getD_cons_zero]at q;cases g:Yb (decide (z="groups")) x with
   |false=>rw[if_pos (by decide)];rw[g,if_pos rfl]at q;exact q
   |true=>
     rw[if_neg (by decide)];rw[g,if_neg (by decide)]at q;by_cases hk:ZR x I=true
     .rw[if_pos hk]at q ⊢;exact q
     .rw[if_neg hk]at q ⊢;exact q
   have J:∀b,b=Yb (decide (z="groups")) x->b=true->∃y,x=.str y:=by
    rintro _ rfl g;unfold Yb at g;cases x with
   |str y=>exact⟨y,rfl⟩
   |_=>split at g<;>cases g
   refine⟨_,rfl,rfl,_,rfl,?_⟩;refine ia (λO=>?_) (λO=>?_)
   .refine⟨_,rfl,p,x::r,0,x,rfl,rfl,hO.of B,M x r,x,S,rfl,U,λH' sm=>?_⟩;have g:K1.V8 x 12 K1.jV=Yb (decide (z="groups")) x:=by
     have a:z="groups":=by simpa using O
     simp[Yb,a]
    have q:=fin _ H' sm g;refine⟨_,rfl,_,rfl,?_⟩;refine ia (λa=>?_) (λa=>?_)
    .rw[if_pos a]at q;exact q
    .rw[if_neg a]at q;obtain⟨y,rfl⟩:=J _ g (by simpa using a);exact⟨_,rfl,p,_::r,0,_,rfl,rfl,hO.of (sm _ _ B),M _ r,_,rfl,d,_,rfl,j8.k (k:=cD y) (sm _ _ hd),_,rfl,q⟩
   .refine⟨_,rfl,p,x::r,0,x,rfl,rfl,hO.of B,M x r,x,S,rfl,U,λH' sm=>?_⟩;have g:K1.V8 x 8 K1.kO=Yb (decide (z="groups")) x:=by
     have a:z≠"groups":=by simpa using O
     simp[Yb,a]
    have q:=fin _ H' sm g;refine⟨_,rfl,_,rfl,?_⟩;refine ia (λa=>?_) (λa=>?_)
    .rw[if_pos a]at q;exact q
    .rw[if_neg a]at q;obtain⟨y,rfl⟩:=J _ g (by simpa using a);exact⟨_,rfl,p,_::r,0,_,rfl,rfl,hO.of (sm _ _ B),M _ r,_,rfl,d,_,rfl,j8.k (k:=cD y) (sm _ _ hd),_,rfl,q⟩
end
end TB
namespace L2
open PySem PySem.Spec PyProof.Rows
noncomputable def mr(K:ae)(C:Addr)(m qual:Str)(st:Stmt)(ps:List Str):Prop:=∃f fd,oK K m qual st f fd/\Meth K C m f/\Binds K fd ps []
noncomputable def jA(P:Program)(w:World)(K:ae)(mg:Str->Option Value)(base:Heap)(CX:qf)(k:Nat)(C:Addr)(m:Str)(ps:List Str)(sp:Sp):Prop:=∃f fd,jR P w K mg base CX k f fd ps sp/\Meth K C m f/\Binds K fd ps []
section
variable {P:Program}{w:World}{K:ae}{mg:Str->Option Value}{base:Heap}{C:Addr}{m qual:Str}{st:Stmt}{N ps:List Str}{k:Nat}{sp:Sp}
theorem mr.tY(D:mr K C m qual st ps)(S:fx N ps (Ze st))(len:∀vs H Q E,sp vs H Q E->vs.length=ps.length)(c:∀(f:Addr)(a:Value)(A:bh)(outer:List Env)(s:ai)(H:Hp)(vs:List V)(Q:VK)(E:XK),jw k (A.deeper (d_ qual (Ze st) s.heap.objs.size f a))->sp vs H Q E ->∃t,oJ (lY jS P w K mg base N qual (Ze st) f a A outer s H E).tU (ZV st) t/\t {nx:=λ_ H'=>Q .non H',rt:=Q} (start N vs) H):jA P w K mg base jS (k+1) C m ps sp:=by obtain⟨f,fd,F,d,b⟩:=D;exact⟨f,fd,F.ok S len (λa A outer s H vs Q E e h=>c f a A outer s H vs Q E e h),d,b⟩
theorem mr.cn(D:mr K C m qual st ps)(S:fx N ps (Ze st))(b:∀(f:Addr)(c:Value)(A:bh)(outer:List Env)(s:ai)(H:Hp)(vs:List V)(Q:VK)(E:XK),jw k (A.deeper (d_ qual (Ze st) s.heap.objs.size f c))->sp vs H Q E ->∃t,oJ (lY jS P w K mg base N qual (Ze st) f c A outer s H E).tU (ZV st) t/\t {nx:=λ_ H'=>Q .non H',rt:=Q} (start N vs) H)(len:∀vs H Q E,sp vs H Q E->vs.length=ps.length:=by intro _ _ _ _ h;repeat (obtain⟨a,h⟩:=h;first|(subst a;rfl)|skip)):jA P w K mg base jS (k+1) C m ps sp:=D.tY S len b
end
section
variable {X:Cx}{CX:qf}{k:Nat}{C:Addr}{ps:List Str}{sp:Sp}{E:XK}{m:Str}{pos apos:Pos}{e o:Expr}{es:List Expr}{ta:TE}{t:TA}
theorem ZZ (c:jA X.prog X.w X.K X.mg X.base CX k C m ps sp)(cl:qH X.K C)(i:Passes CX X E)(l:jw k X.A)(he:PE X o ta)(n:PA X (e::es) t)
  (a:aH (e::es) X.env=(false,eval e X.env)::aH es X.env:=by rfl) (d:(cy pos (aH es X.env)).any (·.1)=false:=by rfl)
  (j:eval (.Call (.Attribute o m apos) (e::es) [] pos) X.env=(do
   let g <-eval o X.env
   iS apos.atName
   let (f,first) <-fT [g] (gy g m pl)
   iL pos f first (cy pos (aH (e::es) X.env)) (fB pos (dq [] X.env))):=by rfl):
  PE X (.Call (.Attribute o m apos) (e::es) [] pos) (Pf C m sp [] E ta t):=by
 obtain⟨f,fd,F,h,b⟩:=c
 exact Dp he cl h F l b .nil i n a d j
end
end L2
namespace TB
open PySem L2 PySem.Spec PyProof.Rows
noncomputable def fields:List Str:=["turns","places",oq,"rides","ride_by_name","ways","way_by_name","groups",rg]
structure nV(K:ae)(C:Addr):Prop where
 cl:qH K C
 na:∀f∈fields,XA K C f
structure Tab(H:Hp)(C t:Addr)(fs:List (Str×V)):Prop where
 at_:∃dx,H t=some (.ins C dx fs)
 only:∀g,g∉fields->fs.lookup g=none
section
variable {P:Program}{w:World}{K:ae}{mg:Str->Option Value}{base:Heap}{C:Addr}
noncomputable def XE(C:Addr)(fld:Str):Sp:=λvs H Q _=>∃t x T fs d f5,vs=[.ref t,x]/\Tab H C t fs/\fs.lookup fld=some (.ref d)/\H d=some (.dK f5)/\Th H x T/\Q (.bl (ZR x f5)) H
theorem HX:fx [hB,jt] [hB,jt] (Ze T.kd):=jX
theorem U7(Z:nV K C)(D:mr K C "is_place" "Table.is_place" T.kd [hB,jt])(l:hY P w K mg base 1 "is_known" [jt,"names"] VT):jA P w K mg base jS 2 C "is_place" [hB,jt] (XE C oq):=by refine D.cn HX λf n A outer s H vs Q E e h=>?_;obtain⟨t,x,j,fs,d,a,rfl,⟨⟨i,c⟩,_⟩,g,hd,b,k⟩:=h;refine⟨_,Zc (Zk (Yx l e rfl (Zi (pv 1) (Zi (Yi (pv 0) rfl) Zl)))),?_⟩;exact⟨_,rfl,_,rfl,t,C,i,fs,_,rfl,c,Z.cl,Z.na _ (by simp[fields]),g,x,j,d,a,rfl,b,hd,k⟩
noncomputable def V9(x:V)(f5:List (Key×V)):Bool:=match x with
|.str z=>decide (f' f5 (.inr z)=some .non)
|_=>false
theorem Yh  (h:ZR x a=true):∃z v,x=.str z/\f' a (.inr z)=some v:=by
 cases x with
|str z=>have h':(f' a (.inr z)).isSome=true:=h;exact⟨z,_,rfl,(Option.some_get h').symm⟩
|_=>cases h
theorem Rk  (h:ZR x a=false):V9 x a=false:=by
 cases x with
|str z=>
  have h':(f' a (.inr z)).isSome=false:=h;show decide (f' a (.inr z)=some .non)=false;cases e:f' a (.inr z)with
 |none=>simp
 |some v=>rw[e]at h';cases h'
|_=>rfl
noncomputable def VU(C:Addr):Sp:=λvs H Q _=>∃t x T fs d f5,vs=[.ref t,x]/\Tab H C t fs/\fs.lookup (oq:Str)=some (.ref d)/\H d=some (.dK f5)/\Th H x T/\Q (.bl (V9 x f5)) H
theorem Ka:fx [hB,jt] [hB,jt] (Ze T.kC):=jX
theorem Ms(Z:nV K C)(D:mr K C "is_home" "Table.is_home" T.kC [hB,jt])(r:jA P w K mg base jS 2 C "is_place" [hB,jt] (XE C oq)):jA P w K mg base jS 3 C "is_home" [hB,jt] (VU C):=by
 refine D.cn Ka λf u A outer s H vs Q E j h=>?_;obtain⟨t,x,q,fs,d,a,rfl,c,l,hd,n,k⟩:=h;obtain⟨p,i⟩:=id c.at_;refine⟨_,Zc (Zk (Xa (ZZ r Z.cl Z6 j (pv 0) (Zi (pv 1) Zl)) (YN (Yr UH (YR (Z0 j) (Yi (pv 0) rfl) (pv 1) (λ_ _=>rfl)) ZJ (by with_unfolding_all rfl))))),?_⟩;refine km i (c.only _ (by decide +kernel)) ⟨_,rfl,t,x,q,fs,d,a,rfl,c,l,hd,n,_,rfl,?_⟩;have fin:∀b,b=V9 x a->Q (.bl b) H:=λb e=>e▸k;refine ia (λe=>?_) (λe=>fin _ ?_)
 .obtain⟨z,v,rfl,g⟩:=Yh e;refine⟨_,rfl,t,C,p,fs,_,rfl,i,Z.cl,Z.na _ (by simp[fields]),l,_,rfl,d,v,rfl,(by rw[<-g];exact j8.k (k:=cD z) hd),rfl,fin _ ?_⟩;show decide (v=.non)=decide (f' a (.inr z)=some .non);rw[g];simp
 .have o:ZR x a=false:=by simpa using e
  exact(Rk o).symm
noncomputable def Y6(f5:List (Key×V))(s g:V):V:=if(!ZR s f5||!ZR g f5)=true then .str "place" else if V9 s f5=true then .str "home" else if g=s then .str "alike" else .non
noncomputable def QK(C:Addr):Sp:=λvs H Q _=>∃t x y T T' fs d f5,vs=[.ref t,x,y]/\Tab H C t fs/\fs.lookup (oq:Str)=some (.ref d)/\H d=some (.dK f5)/\Th H x T/\Th H y T'/\Q (Y6 f5 x y) H
theorem E4:fx [jL,"start","goal"] [jL,"start","goal"] (Ze T.kL):=jX
theorem LF(Z:nV K C)(D:Df K mg "wrong_ends" T.kL [jL,"start","goal"])(z:jA P w K mg base jS 2 C "is_place" [hB,jt] (XE C oq))(F:jA P w K mg base jS 3 C "is_home" [hB,jt] (VU C)):hY P w K mg base 4 "wrong_ends" [jL,"start","goal"] (QK C):=by
 refine D.cn E4 λf o A outer s H vs Q E u h=>?_;obtain⟨t,x,y,v,B,fs,d,a,rfl,b,i,hd,p,ty,k⟩:=h;obtain⟨J,g⟩:=id b.at_;have c:jw 2 (A.deeper (d_ "wrong_ends" (Ze T.kL) s.heap.objs.size f o)):=u.mono (by decide);refine⟨_,Za (ZA (PW.pt (YK (ZK (ZH (ZZ z Z.cl Z6 c (pv 0) (Zi (pv 1) Zl)))) (YJ (ZK (ZH (ZZ z Z.cl Z6 c (pv 0) (Zi (pv 2) Zl))))))) (Zc (Zk ZC)) Zn) (Za (ZA (ZH (ZZ F Z.cl Z6 u (pv 0) (Zi (pv 1) Zl))) (Zc (Zk ZC)) Zn) (Za (ZA (Zo YV (pv 2) (pv 1) (Zt _)) (Zc (Zk ZC)) Zn) (Zc (Zk ZJ)))),?_⟩;unfold Y6 at k;refine km g (b.only _ (by decide +kernel)) ⟨_,rfl,t,x,v,fs,d,a,rfl,b,i,hd,p,_,rfl,?_⟩;refine ia (λe=>?_) (λe=>?_)
 .rw[if_pos (by rw[e];rfl)]at k;exact jC k
 .refine km g (b.only _ (by decide +kernel)) ⟨_,rfl,t,y,B,fs,d,a,rfl,b,i,hd,ty,_,rfl,?_⟩;refine ia (λn=>?_) (λn=>?_)
  .rw[if_pos (by rw[n];simp)]at k;exact k
  .have r:ZR x a=true:=by simpa using e
   have q:ZR y a=true:=by simpa using n
   rw[if_neg (by rw[r,q];decide)]at k;refine km g (b.only _ (by decide +kernel)) ⟨_,rfl,t,x,v,fs,d,a,rfl,b,i,hd,p,_,rfl,?_⟩;refine ia (λl=>?_) (λl=>?_)
   .rw[if_pos l]at k;exact k
   .rw[if_neg l]at k;obtain⟨I,_,rfl,_⟩:=Yh r;obtain⟨G,_,rfl,_⟩:=Yh q;refine⟨_,rfl,_,rfl,rfl,_,rfl,?_⟩;refine ia (λj=>?_) (λj=>?_)
    .rw[if_pos (by simpa using j)]at k;exact k
    .rw[if_neg (by simpa using j)]at k;exact k
noncomputable def VX(f5:List (Key×V))(n:Int)(s l g a m:V):V:=if Y6 f5 s g≠.non then Y6 f5 s g else match l with
 |.int i=>if(!K1.Zy (.int i) 0 (n-1)||!K1.Zy a (i+1) n)=true then .str "turn" else if(!K1.Zy m 0 1000)=true then .str "number" else .non
 |_=>.str "turn"
noncomputable def o_(f5:List (Key×V))(s g l m:V):V:=if Y6 f5 s g≠.non then Y6 f5 s g else if(!K1.Zy l 1 50||!K1.Zy m 0 1000)=true then .str "number" else .non
theorem ox{α:Type}{xs:List α}(j:Nat){v:α}(h:xs[j]?=some v):kZ xs (j:Int)=some v:=Zj h
noncomputable def QJ(C:Addr):Sp:=λvs H Q _=>∃t p x0 x1 x2 x3 x4 x5 fs d f5 n,vs=[.ref t,.ref p]/\Tab H C t fs/\fs.lookup (oq:Str)=some (.ref d)/\fs.lookup ("turns":Str)=some (.int n)/\H d=some (.dK f5) /\H p=some (.tup [x0,x1,x2,x3,x4,x5])/\(∀x∈[x0,x1,x2,x3,x4,x5],∃T,Th H x T)/\Q (VX f5 n x1 x2 x3 x4 x5) H
theorem E3:fx [jL,"row","leave","why"] [jL,"row"] (Ze T.kK):=jX
theorem Lx(G:Txt K mg)(Z:nV K C)(D:Df K mg "wrong_ride" T.kK [jL,"row"])(I:hY P w K mg base 2 "is_within" [jt,"low","high"] K1.YY)(CE:hY P w K mg base 4 "wrong_ends" [jL,"start","goal"] (QK C)):hY P w K mg base 5 "wrong_ride" [jL,"row"] (QJ C):=by
 obtain⟨t1,h1⟩:=G.room;have U:([jL,"row","leave","why"]:List Str).Nodup:=by decide +kernel
 refine D.cn E3 λf R A outer s H vs Q E X h=>?_;obtain⟨t,p,x0,r,j,o,g,l,fs,d,b,n,rfl,S,hl,Y,hd,x,u,k⟩:=h;obtain⟨dx,W⟩:=id S.at_;obtain⟨T1,O⟩:=u r (by simp);obtain⟨T2,N⟩:=u j (by simp);obtain⟨T3,M⟩:=u o (by simp);obtain⟨T4,L⟩:=u g (by simp);obtain⟨T5,J⟩:=u l (by simp);have c:jw 2 (A.deeper (d_ "wrong_ride" (Ze T.kK) s.heap.objs.size f R)):=X.mono (by decide);refine⟨_,Za (YL (i:=2) U rfl (cV rfl) (Yn Yj (pv 1) Zb (λ_ _=>rfl))) (Za (YL (i:=3) U rfl (cV rfl) (Yx CE X rfl (Zi (pv 0) (Zi (Yn Yj (pv 1) Zb (λ_ _=>rfl)) (Zi (Yn Yj (pv 1) Zb (λ_ _=>rfl)) Zl))))) (Za (ZA (Zo V6 (pv 3) ZJ (Zt _)) (Zc (Zk (pv 3))) Zn) (Za (ZA (PW.pt (YK (ZK (ZH (Yx I c rfl (Zi (pv 2) (Zi Zb (Zi (Zr XW (Yi (pv 0) rfl) Zb) Zl)))))) (YJ (ZK (ZH (Yx I c rfl (Zi (Yn Yj (pv 1) Zb (λ_ _=>rfl)) (Zi (Zr ZL (pv 2) Zb) (Zi (Yi (pv 0) rfl) Zl))))))))) (Zc (Zk ZC)) Zn) (Za (ZA (ZK (ZH (Yx I c rfl (Zi (Yn Yj (pv 1) Zb (λ_ _=>rfl)) (Zi Zb (Zi (Ye (v:=V.int 1000) rfl h1 ⟨t1,rfl⟩) Zl)))))) (Zc (Zk ZC)) Zn) (Zc (Zk ZJ)))))),?_⟩;refine⟨_,rfl,p,_,2,j,rfl,rfl,hO.of x,ox 2 rfl,?_⟩;refine⟨_,rfl,_,rfl,p,_,1,r,rfl,rfl,hO.of x,ox 1 rfl,_,rfl,p,_,3,o,rfl,rfl,hO.of x,ox 3 rfl,t,r,o,T1,T3,fs,d,b,rfl,S,hl,hd,O,M,?_⟩;unfold VX at k;refine⟨_,rfl,rfl,_,rfl,?_⟩;refine ia (λe=>?_) (λe=>?_)
 .have F:Y6 b r o≠.non:=by simpa using e
  rw[if_pos F]at k;exact⟨_,rfl,k⟩
 .have F:¬Y6 b r o≠.non:=by simpa using e
  rw[if_neg F]at k;refine⟨_,rfl,_,rfl,t,C,dx,fs,_,rfl,W,Z.cl,Z.na _ (by simp[fields]),Y,_,_,rfl,rfl,j,T2,0,n-1,rfl,N,_,rfl,?_⟩;refine ia (λy=>?_) (λy=>?_)
  .have q:Q (.str "turn") H:=by
    cases j with
   |int i=>
     have a:Q (if(!K1.Zy (.int i) 0 (n-1)||!K1.Zy g (i+1) n)=true then V.str "turn" else if(!K1.Zy l 0 1000)=true then .str "number" else .non) H:=k
     rw[if_pos (by rw[y];rfl)]at a;exact a
   |_=>exact k
   exact jC q
  .obtain⟨i,rfl⟩:∃i,j=.int i:=by
    cases j with
   |int i=>exact⟨i,rfl⟩
   |_=>exact absurd rfl y
   have a:Q (if(!K1.Zy (.int i) 0 (n-1)||!K1.Zy g (i+1) n)=true then V.str "turn" else if(!K1.Zy l 0 1000)=true then .str "number" else .non) H:=k
   have w1:K1.Zy (.int i) 0 (n-1)=true:=by simpa using y
   rw[w1]at a;refine⟨_,rfl,p,_,4,g,rfl,rfl,hO.of x,ox 4 rfl,_,rfl,_,_,rfl,rfl,_,rfl,t,C,dx,fs,_,rfl,W,Z.cl,Z.na _ (by simp[fields]),Y,g,T4,i+1,n,rfl,L,_,rfl,?_⟩;refine ia (λB=>?_) (λB=>?_)
   .rw[if_pos (by rw[B];rfl)]at a;exact a
   .have w2:K1.Zy g (i+1) n=true:=by simpa using B
    rw[w2,if_neg (by decide)]at a;refine⟨_,rfl,p,_,5,l,rfl,rfl,hO.of x,ox 5 rfl,l,T5,0,1000,rfl,J,_,rfl,?_⟩;refine ia (λz=>?_) (λz=>?_)
    .rw[if_pos z]at a;exact a
    .rw[if_neg z]at a;exact a
noncomputable def Xz(f5:List (Key×V))(n pa:Int)(p t m:V):V:=if(!ZR p f5)=true then .str "place" else if(!K1.Zy t 0 n)=true then .str "turn" else match m with
 |.int i=>if(!K1.Zy (.int i) 0 300)=true then .str "number" else if pa+i>300 then .str "people" else .non
 |_=>.str "number"
noncomputable def WV(C:Addr):Sp:=λvs H Q _=>∃t p x0 x1 x2 x3 x4 fs d f5,vs=[.ref t,.ref p]/\Tab H C t fs/\fs.lookup (oq:Str)=some (.ref d)/\H d=some (.dK f5) /\H p=some (.tup [x0,x1,x2,x3,x4])/\(∀x∈[x0,x1,x2,x3,x4],∃T,Th H x T)/\Q (o_ f5 x1 x2 x3 x4) H
theorem HV:fx [jL,"row","why"] [jL,"row"] (Ze T.kX):=jX
theorem Ea(G:Txt K mg)(Z:nV K C)(D:Df K mg "wrong_way" T.kX [jL,"row"])(L:hY P w K mg base 2 "is_within" [jt,"low","high"] K1.YY)(CE:hY P w K mg base 4 "wrong_ends" [jL,"start","goal"] (QK C)):hY P w K mg base 5 "wrong_way" [jL,"row"] (WV C):=by
 obtain⟨t1,W⟩:=G.room;obtain⟨O,U⟩:=G.way;have R:([jL,"row","why"]:List Str).Nodup:=by decide +kernel
 refine D.cn HV λf F A outer s H vs Q E J h=>?_;obtain⟨t,p,x0,c,b,l,j,fs,d,a,rfl,I,S,hd,o,n,k⟩:=h;obtain⟨dx,ht⟩:=id I.at_;obtain⟨T1,B⟩:=n c (by simp);obtain⟨T2,z⟩:=n b (by simp);obtain⟨Y,y⟩:=n l (by simp);obtain⟨X,x⟩:=n j (by simp);have g:jw 2 (A.deeper (d_ "wrong_way" (Ze T.kX) s.heap.objs.size f F)):=J.mono (by decide);refine⟨_,Za (YL (i:=2) R rfl (cV rfl) (Yx CE J rfl (Zi (pv 0) (Zi (Yn Yj (pv 1) Zb (λ_ _=>rfl)) (Zi (Yn Yj (pv 1) Zb (λ_ _=>rfl)) Zl))))) (Za (ZA (Zo V6 (pv 2) ZJ (Zt _)) (Zc (Zk (pv 2))) Zn) (Za (ZA (PW.pt (YK (ZK (ZH (Yx L g rfl (Zi (Yn Yj (pv 1) Zb (λ_ _=>rfl)) (Zi Zb (Zi (Ye (v:=V.int 50) rfl U ⟨O,rfl⟩) Zl)))))) (YJ (ZK (ZH (Yx L g rfl (Zi (Yn Yj (pv 1) Zb (λ_ _=>rfl)) (Zi Zb (Zi (Ye (v:=V.int 1000) rfl W ⟨t1,rfl⟩) Zl))))))))) (Zc (Zk ZC)) Zn) (Zc (Zk ZJ)))),?_⟩;refine⟨_,rfl,_,rfl,p,_,1,c,rfl,rfl,hO.of o,ox 1 rfl,_,rfl,p,_,2,b,rfl,rfl,hO.of o,ox 2 rfl,t,c,b,T1,T2,fs,d,a,rfl,I,S,hd,B,z,?_⟩;unfold o_ at k;refine⟨_,rfl,rfl,_,rfl,?_⟩;refine ia (λe=>?_) (λe=>?_)
 .have u:Y6 a c b≠.non:=by simpa using e
  rw[if_pos u]at k;exact⟨_,rfl,k⟩
 .have u:¬Y6 a c b≠.non:=by simpa using e
  rw[if_neg u]at k;refine⟨_,rfl,p,_,3,l,rfl,rfl,hO.of o,ox 3 rfl,l,Y,1,50,rfl,y,_,rfl,?_⟩;refine ia (λr=>?_) (λr=>?_)
  .rw[if_pos (by rw[r];rfl)]at k;exact jC k
  .have N:K1.Zy l 1 50=true:=by simpa using r
   rw[N]at k;refine⟨_,rfl,p,_,4,j,rfl,rfl,hO.of o,ox 4 rfl,j,X,0,1000,rfl,x,_,rfl,?_⟩;refine ia (λq=>?_) (λq=>?_)
   .rw[if_pos (by rw[q];rfl)]at k;exact k
   .have M:K1.Zy j 0 1000=true:=by simpa using q
    rw[M,if_neg (by decide)]at k;exact k
noncomputable def Nt(C:Addr):Sp:=λvs H Q _=>∃t p x0 x1 x2 x3 fs d f5 n pa,vs=[.ref t,.ref p,.int pa]/\Tab H C t fs/\fs.lookup (oq:Str)=some (.ref d)/\fs.lookup ("turns":Str)=some (.int n)/\H d=some (.dK f5) /\H p=some (.tup [x0,x1,x2,x3])/\(∀x∈[x0,x1,x2,x3],∃T,Th H x T)/\Q (Xz f5 n pa x1 x2 x3) H
theorem De:fx [jL,"row","people_ahead"] [jL,"row","people_ahead"] (Ze T.k8):=jX
theorem Rq(G:Txt K mg)(Z:nV K C)(D:Df K mg "wrong_group" T.k8 [jL,"row","people_ahead"])(M:hY P w K mg base 2 "is_within" [jt,"low","high"] K1.YY)(X:jA P w K mg base jS 2 C "is_place" [hB,jt] (XE C oq)):hY P w K mg base 3 "wrong_group" [jL,"row","people_ahead"] (Nt C):=by
 obtain⟨t1,L⟩:=G.uh;refine D.cn De λf Y A outer s H vs Q E r h=>?_;obtain⟨t,p,x0,l,j,b,fs,d,y,n,I,rfl,o,O,N,hd,c,q,k⟩:=h;obtain⟨R,J⟩:=id o.at_;obtain⟨W,F⟩:=q l (by simp);obtain⟨U,B⟩:=q j (by simp);obtain⟨S,z⟩:=q b (by simp);refine⟨_,Za (ZA (ZK (ZH (ZZ X Z.cl Z6 r (pv 0) (Zi (Yn Yj (pv 1) Zb (λ_ _=>rfl)) Zl)))) (Zc (Zk ZC)) Zn) (Za (ZA (ZK (ZH (Yx M r rfl (Zi (Yn Yj (pv 1) Zb (λ_ _=>rfl)) (Zi Zb (Zi (Yi (pv 0) rfl) Zl)))))) (Zc (Zk ZC)) Zn) (Za (ZA (ZK (ZH (Yx M r rfl (Zi (Yn Yj (pv 1) Zb (λ_ _=>rfl)) (Zi Zb (Zi (Ye (v:=V.int 300) rfl L ⟨t1,rfl⟩) Zl)))))) (Zc (Zk ZC)) Zn) (Za (ZA (Zo G6 (Zr ZL (pv 2) (Yn Yj (pv 1) Zb (λ_ _=>rfl))) (Ye (v:=V.int 300) rfl L ⟨t1,rfl⟩) (Zt _)) (Zc (Zk ZC)) Zn) (Zc (Zk ZJ))))),?_⟩;unfold Xz at k;refine km J (o.only _ (by decide +kernel)) ⟨_,rfl,p,_,1,l,rfl,rfl,hO.of c,ox 1 rfl,t,l,W,fs,d,y,rfl,o,O,hd,F,_,rfl,?_⟩;refine ia (λe=>?_) (λe=>?_)
 .rw[if_pos e]at k;exact k
 rw[if_neg e]at k;refine⟨_,rfl,p,_,2,j,rfl,rfl,hO.of c,ox 2 rfl,_,rfl,t,C,R,fs,_,rfl,J,Z.cl,Z.na _ (by simp[fields]),N,j,U,0,n,rfl,B,_,rfl,?_⟩;refine ia (λx=>?_) (λx=>?_)
 .rw[if_pos x]at k;exact k
 rw[if_neg x]at k;refine⟨_,rfl,p,_,3,b,rfl,rfl,hO.of c,ox 3 rfl,b,S,0,300,rfl,z,_,rfl,?_⟩;refine ia (λg=>?_) (λg=>?_)
 .cases b with
 |int i=>have a:Q (if(!K1.Zy (.int i) 0 300)=true then V.str "number" else if I+i>300 then .str "people" else .non) H:=k;rw[if_pos g]at a;exact a
 |_=>exact k
 .obtain⟨i,rfl⟩:∃i,b=.int i:=by
   cases b with
  |int i=>exact⟨i,rfl⟩
  |_=>exact absurd rfl g
  have a:Q (if(!K1.Zy (.int i) 0 300)=true then V.str "number" else if I+i>300 then .str "people" else .non) H:=k;rw[if_neg g]at a;refine⟨_,rfl,_,rfl,p,_,3,_,rfl,rfl,hO.of c,ox 3 rfl,_,_,rfl,rfl,_,_,rfl,rfl,_,rfl,?_⟩;refine ia (λu=>?_) (λu=>?_)
  .rw[if_pos (by simpa using u)]at a;exact a
  .rw[if_neg (by simpa using u)]at a;exact a
end
end TB
namespace L2
open PySem PySem.Spec PyProof.Rows
theorem sameNew   (x:fy H H1)(a:H1 l=none):fy H (upd H1 l o):=λc u h=>by rw[Zf (fi (x c u h) a)];exact x c u h
theorem nl {H:Hp}{o:HO}{G:Hp->Prop}(h:H c=none)(k:∀H',fy H H'->H' c=some o->G H'):G (upd H c o):=k _ (sameNew (λ_ _ e=>e) h) Zd
theorem l8{c:Addr}{H:Hp}{o:HO}{R:Type}{q:R}{G:Hp->R->Prop}(h:H c=none)(k:∀H',fy H H'->H' c=some o->G H' q):G (upd H c o) q:=nl (G:=λH=>G H q) h k
theorem RO:∀{cs:List String}{us:List Value},Vals (cs.map V.ty) us->us=cs.map Value.type
|[],_,h=>by cases h;rfl
|c::cs,_,h=>by
  cases h with
 |cons r t=>have e:=RO t;cases(show _=Value.type c from r);rw[e];rfl
section
variable {X:Cx}
theorem Ng:Xf X (.builtin "isinstance") (λxs H Q=>∃(x:V)(p:Addr)(cs:List String)(T:String)(b:Bool),xs=[x,.ref p]/\Th H x T/\H p=some (.tup (cs.map V.ty))/\jd X.K (.type T) (cs.map Value.type)=some b/\Q (.bl b) H):=by
 intro pins s σ H xs us Q I r h;obtain⟨x,p,cs,T,b,rfl,E,J,e,q⟩:=h;obtain⟨u,D,rfl,c,v⟩:=vals2 r;cases(show D=Value.ref p from v);obtain⟨_,O,F,⟨G,od,A,N⟩,d,L,n,C⟩:=(show ZW X.prog X.w H s.heap p (.tup (cs.map V.ty))from I.hL p _ J);have M:=RO F;subst M;obtain rfl:G=.type "tuple":=L;obtain rfl:A=.seq (cs.map Value.type).toArray n:=C;have fin:∀j,EP X pins σ Q (.bool b) {s with toks:=j}:=λj=>⟨.bl b,H,I.tok j,rfl,q⟩;cases E with
|non=>cases(show u=Value.none from c);exact dG PySem.W.kitx_none I.kT bH d e (λz=>nomatch z) fin
|bl y=>cases(show u=Value.bool y from c);exact dG PySem.W.kitx_bool I.kT bH d e (λz=>nomatch z) fin
|int i=>obtain⟨t,z⟩:=(show ∃t,u=Value.int i t from c);cases z;exact dG PySem.W.kitx_int I.kT bH d e (λz=>nomatch z) fin
|str y _=>obtain⟨t,z⟩:=(show ∃t,u=Value.str y t from c);cases z;exact dG PySem.W.kitx_str I.kT bH d e (λz=>nomatch z) fin
|@lst a xs g=>cases(show u=Value.ref a from c);obtain⟨_,_,P,_,f⟩:=(show ZW X.prog X.w H s.heap a (.lst xs)from I.hL a _ g);exact dG iB I.kT ⟨_,f,rfl⟩ d e (λz=>nomatch z) fin
|@tup a xs g=>cases(show u=Value.ref a from c);obtain⟨_,_,_,o,f,l,_⟩:=(show ZW X.prog X.w H s.heap a (.tup xs)from I.hL a _ g);exact dG PySem.W.kitx_tuple I.kT ⟨o,f,l⟩ d e (λz=>nomatch z) fin
|@dK a B g=>cases(show u=Value.ref a from c);obtain⟨_,_,vs,_,o,R,S,f,l,_⟩:=(show ZW X.prog X.w H s.heap a (.dK B)from I.hL a _ g);exact dG iC I.kT ⟨o,f,l.1⟩ d e (λz=>nomatch z) fin
end
theorem Th.rX{K:ae}{H:Hp}{v:V}{T:String}(h:Th H v T):jd K (.type T) (["list","tuple"].map Value.type)=some (decide (T="list"\/T="tuple")):=by cases h<;>(first|kernel_rfl|(unfold jd;rfl))
end L2
namespace TB
open PySem L2 PySem.Spec PyProof.Rows
structure p_(K:ae)(w:World)(mg:Str->Option Value):Prop where
 at_:∃a,mg "MOST_ROWS"=some (.ref a)/\X4 K w a "places" (.int 14)/\X4 K w a "rides" (.int 80)/\X4 K w a "ways" (.int 40)/\X4 K w a "groups" (.int 300)
noncomputable def Su:List (Str×Nat):=[("places",14),("rides",80),("ways",40),("groups",300)]
noncomputable def Part(H:Hp)(v:V)(r:Option (List V)):Prop:=match r with
|none=>∃T,Th H v T/\T≠"list"/\T≠"tuple"
|some xs=>∃p,v=.ref p/\(H p=some (.lst xs)\/H p=some (.tup xs))
end TB
namespace L2
open PySem PySem.Spec PyProof.Rows
open AutoSeq1 (wpAny_loadPart')
section
variable {prog:Program}{w:World}{A:bh}{E:Value->ai->Prop}{s:ai}
theorem Dy{it t:Addr}{i:Nat}{items:Array Value}{x:Value}{Q:Value->ai->Prop}(hit:s.heap.IsTupleIter it t i)(e:s.heap.IsTuple t items)(d:items[i]?=some x)(g:∀h',h'.IsTupleIter it t (i+1)->Heap.SameBut it s.heap h'->Q x {s with heap:=h'}):wpAny (model prog w) A (dD (.ref it)) Q E s:=by obtain⟨o,a,f,hd⟩:=id hit;obtain⟨ol,b,_,nl,c⟩:=id e;unfold dD;refine aa (bp (name:=Str.ofString "__next__") hit.typeIs F.slot_tuple_iterator_next (bF F.slot_tuple_iterator_next hit.typeIs F.entry_tuple_iterator_next ?_ (F.args_tuple_iterator_next_1 _)));show wpAny (model prog w) _ (field (.ref it) 0 >>= _) _ _ s;refine aa (cw (x:=.ref t) a hd rfl ?_);show wpAny (model prog w) _ (if(Value.ref t==Value.none)=true then _ else _) _ _ s;rw[if_neg (by exact Bool.false_ne_true)];show wpAny (model prog w) _ (field (.ref it) 1 >>= _) _ _ s;refine aa (cw (x:=.int i 0) a hd rfl ?_);show wpAny (model prog w) _ (seqItems? (.ref t) >>= _) _ _ s;refine aa (wpAny_seqItems b c ?_);simp only[d,Int.toNat_natCast];refine aa (dI a hd (by simp) (ah ⟨x,rfl,ah (g _ ⟨_,Heap.get?_update_self _ a (Obj.isFreed_of_fields (Obj.data_mapFields hd _)),(Obj.cls_mapFields ..).trans f,by rw[Obj.data_mapFields hd];simp[c_]⟩ (Heap.SameBut.update ..))⟩))
theorem KR{it t:Addr}{i:Nat}{items:Array Value}{Q:Value->ai->Prop}(f:A.handled=none)(hit:s.heap.IsTupleIter it t i)(h:s.heap.IsTuple t items)(g:items[i]?=none)(j:∀h' e,Heap.ExtBut it s.heap h'->(∃o,h'.get? e=some o/\o.cls=.type "StopIteration")->E (.ref e) {s with heap:=h'}):wpAny (model prog w) A (dD (.ref it)) Q E s:=by
 obtain⟨o,b,l,hd⟩:=id hit;obtain⟨ol,c,_,nl,d⟩:=id h;unfold dD;refine aa (bp (name:=Str.ofString "__next__") hit.typeIs F.slot_tuple_iterator_next (bF F.slot_tuple_iterator_next hit.typeIs F.entry_tuple_iterator_next ?_ (F.args_tuple_iterator_next_1 _)));show wpAny (model prog w) _ (field (.ref it) 0 >>= _) _ _ s;refine aa (cw (x:=.ref t) b hd rfl ?_);show wpAny (model prog w) _ (if(Value.ref t==Value.none)=true then _ else _) _ _ s;rw[if_neg (by exact Bool.false_ne_true)];show wpAny (model prog w) _ (field (.ref it) 1 >>= _) _ _ s;refine aa (cw (x:=.int i 0) b hd rfl ?_);show wpAny (model prog w) _ (seqItems? (.ref t) >>= _) _ _ s;refine aa (wpAny_seqItems c d ?_);simp only[g,Int.toNat_natCast];refine aa (dA (aa (dI b hd (by simp) ?_)));show wpAny (model prog w) _ (newExc (.type "StopIteration") [] >>= _) _ _ _;refine aa ?_;simp only[newTuple,newExc];refine aa (bS (aa (m:=iP _ _) (iM (a:=Value.none) (by first|rfl|(simp only[iP];rfl)) (bS ?_ (by size_fits)))) (by size_fits))
 simp only[raiseNew];refine aa (wpAny_handled ?_);first|rw[show A.in1.handled=none from f]|rw[f]
 refine aa (ah (wpAny_throw ?_));exact j _ _ (((Heap.SameBut.update ..).extBut.push _).push _) ⟨_,Heap.get?_push_size _ rfl,rfl⟩
end
theorem M7{prog:Program}{w:World}{A:bh}(l:A.handled=none)(it t:Addr)(e:t≠it)(items:Array Value):
  Draws prog w A it [it,t] items.size (λi v=>items[i]?=some v) (λi h=>h.IsTupleIter it t i/\h.IsTuple t items) where
 live:=λ_ _ st=>by obtain⟨⟨o,c,_⟩,_⟩:=st;exact⟨o,c⟩
 frame:=λ_ _ _ st hk=>by
  obtain⟨⟨o,c,r⟩,⟨f,d,j⟩⟩:=st
  exact⟨⟨o,hk it (by simp) o c,r⟩,⟨f,hk t (by simp) f d,j⟩⟩
 item:=λi s Q E g st n=>Dy st.1 st.2 (x:=items[i]) (by simp[g]) λh' b a=>n _ h' s.toks (by simp[g]) ⟨b,st.2.extBut a.extBut e⟩ a
 done:=λs Q E st p=>KR l st.1 st.2 (by simp) p
theorem T9(l:Addr)(items:Array Value)(n:Nat)(b:Option Addr)(j:Array (Option Value)):Meets (cU.«enumerate.__new__» ⟨[.type "enumerate",.ref l],[]⟩) (λ_ R s=>s.heap.get? l=some {cls:=.type "tuple",dict:=b,data:=.seq items n,slots:=j} /\R (.ok (.ret (.ref (s.heap.push {cls:=.type "tuple_iterator",data:=.fields #[.ref l,.int 0 0]}).objs.size))) {s with heap:=(s.heap.push {cls:=.type "tuple_iterator",data:=.fields #[.ref l,.int 0 0]}).push {cls:=.type "enumerate",data:=.fields #[.none,.bool false,.ref s.heap.objs.size,c_ 0,.none,.none]}}):=.of_wp λprog w A R s h=>by
  obtain⟨o,g,d,i,os⟩:=s;obtain⟨a,h⟩:=h;have f:=sub_enumerate;have e:Heap.IsTuple (Shared.heap ⟨o,g,d,i,os⟩) l items:=⟨_,a,rfl,n,rfl⟩;wp_walk using bO a;refine wpAny_stack_any λst=>ah ?_;split
  .rename_i c _ _ _ _ _;cases(c==Value.type "enumerate")<;>(wp_walk using bO a,wpAny_pyIter_tuple e;exact⟨_,rfl,h⟩)
  .wp_walk using bO a,wpAny_pyIter_tuple e;exact⟨_,rfl,h⟩
theorem Mt    {s:ai} {Q:Value->ai->Prop}(g:s.heap.IsTuple l items)(h:∀h',IsEnum h' (s.heap.objs.size+1) s.heap.objs.size 0 .none->h'.IsTupleIter s.heap.objs.size l 0->(∀b o,s.heap.get? b=some o->h'.get? b=some o)->Q (.ref (s.heap.objs.size+1)) {s with heap:=h'}):wpAny (model prog w) A (call (.type "enumerate") [.ref l]) Q E s:=by
 obtain⟨⟨c,a,i,e⟩,f,d,n,hd⟩:=g;simp only at d hd;subst d hd;refine callType_new F.called_enumerate (by decide) (F.typeCall_enumerate_1 _) (F.newCall_enumerate_1 _) (λobj=>F.args_object_init_2 obj _) F.entry_enumerate_new (T9 l items n a e) ⟨f,?_⟩;have hz:(s.heap.push {cls:=.type "tuple_iterator",data:=.fields #[.ref l,.int 0 0]}).objs.size=s.heap.objs.size+1:=Heap.size_push ..;show _/\_;rw[hz];have he:IsEnum ((s.heap.push {cls:=.type "tuple_iterator",data:=.fields #[.ref l,.int 0 0]}).push {cls:=.type "enumerate",data:=.fields #[.none,.bool false,.ref s.heap.objs.size,c_ 0,.none,.none]}) (s.heap.objs.size+1) s.heap.objs.size 0 .none:=by have:=Heap.get?_push_size (s.heap.push {cls:=.type "tuple_iterator",data:=.fields #[.ref l,.int 0 0]}) (o:={cls:=.type "enumerate",data:=.fields #[.none,.bool false,.ref s.heap.objs.size,c_ 0,.none,.none]}) rfl;rwa [hz]at this
 exact⟨⟨_,he,rfl⟩,h _ he ⟨_,Heap.get?_push_of_some _ (Heap.get?_push_size _ rfl),rfl,rfl⟩ λb o x=>Heap.get?_push_of_some _ (Heap.get?_push_of_some _ x)⟩
noncomputable def tO(l:Addr):It:=⟨λi H=>∃xs,H l=some (.tup xs)/\i<xs.length,λi H x H'=>∃(T:Addr)(xs:List V)(y:V),H T=none/\H l=some (.tup xs)/\xs[i]?=some y/\x=.ref T/\H'=upd H T (.tup [.int i,y]),λi H=>∃xs,H l=some (.tup xs)/\i=xs.length⟩
theorem GB{P:Program}{w:World}{K:ae}{es:List Expr}{k:Nat}{pt:Pos}(l e it:Addr)(x:e≠it)(hle:l≠e)(L:l≠it):
  Turn P w K (.Tuple es k pt) (tO l) [e,it] e (λi h=>(∃old,IsEnum h e it i old)/\h.IsTupleIter it l i) where
 mem:=by simp
 obj:=λi h st b a=>by
  obtain⟨⟨old,he⟩,o,B,c,d⟩:=st
  have ak:b=e\/b=it:=by simpa using a
  rcases ak with rfl|rfl
  .exact⟨_,he,λv z=>by cases z⟩
  .exact⟨o,B,λv z=>by rw[d]at z;cases z⟩
 keep:=λi h h' st kk=>by
  obtain⟨⟨old,he⟩,o,B,r⟩:=st
  exact⟨⟨old,kk e (by simp) _ he⟩,o,kk it (by simp) o B,r⟩
 item:=by
  intro X Z hw hK Y i pins s σ H E I hf st U
  subst Z hw hK
  obtain⟨xs,O,hi⟩:=U
  obtain⟨⟨old,he⟩,S⟩:=st
  obtain⟨j,N,pl,_⟩:=I.tuple (hO.of O)
  have hlen:=N.length
  have D:=M7 (prog:=X.prog) (w:=X.w) (A:=X.A.in1) (I.ok.hd Y) it l L j.toArray
  have W:=f_ D e x (by simp[x,bK hle]) (by simp)
  refine W.item i s _ _ (by simp only[aw];omega) ⟨⟨old,he⟩,S,pl⟩ λT vals h' R hv hT ht hm kk=>?_
  obtain⟨ab,u,hu,rfl⟩:=hv
  obtain⟨y,hy⟩:∃y,xs[i]?=some y:=⟨xs[i],gE hi⟩
  obtain⟨u2,tw,ru⟩:=N.get hy
  have ag:j[i]?=some u:=by simpa using hu
  rw[ag]at tw;cases tw
  refine⟨_,rfl,?_⟩
  refine W.go es k pt i T {s with heap:=h',toks:=R} _ _ hm λh2 G J=>?_
  have g:H T=none:=I.hL.fresh hT
  have M:=W.apart i T h' hm
  have p:∀b,b∉[e,it]->∀o,s.heap.get? b=some o->h2.get? b=some o:=λb a o q=>J b o a (kk b o a q)
  have nb:∀b u,H b=some u->b∉[e,it]:=λb u q a=>by rw[(hf b a).1]at q;cases q
  have I1:Inv X pins σ (upd H T (.tup [.int i,y])) {s with heap:=h2,toks:=R}:=by
   refine I.step (g':=s.gens) (d':=s.drawn) (ch:=[e,it]) (λb a=>?_) (λb o _ _ a q _=>p b a o q) (λb o _ _ a q _=>⟨o.slots,p b a o q⟩)
    (λb o a q n=>?_) (λb o a q=>⟨o,p b a o q⟩) (λb xs q=>?_) (λb o u q=>?_) (λb ps q=>?_) (λm hm=>?_) ?_ I.bare
   .obtain⟨g0,g1,g2,g3,g4,g5⟩:=hf b a
    exact⟨g3,g1,g4,g5⟩
   .rw[Zf (Nat.ne_of_lt (Nat.lt_of_lt_of_le (Heap.lt_size q) hT))];exact n
   .rw[Zf (fi q g)];exact q
   .rw[Zf (fi q g)];exact q
   .exact⟨#[],by rw[Zf (fi q g),q];simp⟩
   .obtain⟨o,C,ep,B,r⟩:=hm
    refine⟨o,C,ep,p _ ?_ o B,r⟩
    intro a
    obtain⟨g0,g1,_⟩:=hf _ a
    exact g1 rfl
   .intro b ob q
    by_cases a:b=T
    .subst a
     rw[Zd]at q
     cases q
     obtain⟨o,h1,aC,h3⟩:=ht
     exact⟨zl,[.int i ab,u],.cons ⟨_,rfl⟩ (.cons ru .nil),⟨o,J _ _ M h1,aC,h3⟩⟩
    .rw[Zf a]at q
     refine(I.hL b ob q).lW (λF v px f=>p F ?_ v f) (λF f=>by rw[Zf (fi f g)];exact f) λF xs f=>by rw[Zf (fi f g)];exact f
     rcases px with rfl|px
     .exact nb _ _ q
     .exact nb _ _ px
  refine⟨.ref T,_,I1,rfl,⟨T,xs,y,g,O,hy,rfl,rfl⟩,⟨G.1,G.2.1⟩,λb a=>?_⟩
  rw[Zf]
  .exact(hf b a).1
  .rintro rfl
   exact M a
 done:=by
  intro X Z hw hK Y i pins s σ H E I hf st U
  subst Z hw hK
  obtain⟨xs,O,hi⟩:=U
  obtain⟨⟨old,he⟩,S⟩:=st
  obtain⟨j,N,pl,_⟩:=I.tuple (hO.of O)
  have hlen:=N.length
  have D:=M7 (prog:=X.prog) (w:=X.w) (A:=X.A.in1) (I.ok.hd Y) it l L j.toArray
  have W:=f_ D e x (by simp[x,bK hle]) (by simp)
  have ei:i=j.toArray.size:=by simp only[aw];omega
  subst ei
  refine W.done s _ _ ⟨⟨old,he⟩,S,pl⟩ λh' R kk=>⟨rfl,?_⟩
  have nb:∀b u,H b=some u->b∉[e,it]:=λb u q a=>by rw[(hf b a).1]at q;cases q
  refine I.step (g':=s.gens) (d':=s.drawn) (ch:=[e,it]) (λb a=>?_) (λb o _ _ a q _=>kk b o a q) (λb o _ _ a q _=>⟨o.slots,kk b o a q⟩)
   (λb o a q n=>n) (λb o a q=>⟨o,kk b o a q⟩) (λb xs q=>q) (λb o u q=>q) (λb ps q=>⟨#[],by rw[q];simp⟩) (λm hm=>?_) (λb u q=>?_) I.bare
  .obtain⟨g0,g1,g2,g3,g4,g5⟩:=hf b a
   exact⟨g3,g1,g4,g5⟩
  .obtain⟨o,C,ep,B,r⟩:=hm
   refine⟨o,C,ep,kk _ o ?_ B,r⟩
   intro a
   obtain⟨g0,g1,_⟩:=hf _ a
   exact g1 rfl
  .refine(I.hL b u q).lW (λF v px f=>kk F v ?_ f) (λ_ f=>f) λ_ _ f=>f
   rcases px with rfl|px
   .exact nb _ _ q
   .exact nb _ _ px
 self:=λA i s Q E st h=>by
  obtain⟨⟨old,he⟩,_⟩:=st
  exact d7 he h
section
variable {X:Cx}
noncomputable def vD(ta:TA):TI:=λσ H R=>ta σ H λvs H1=>∃(l:Addr)(xs:List V),vs=[.ref l]/\H1 l=some (.tup xs)/\R (tO l) H1
theorem V1{a:Expr}{g:TA}{p pos pt:Pos}{x:List Expr}{k:Nat}(v:Gl X "enumerate")(hm:X.mg "enumerate"=none)(w:PA X [a] g)(d:bJ "enumerate"=some (.type "enumerate"))(u:aH [a] X.env=[(false,eval a X.env)]:=by rfl):PI X (.Tuple x k pt) (.Call (.Name "enumerate" p) [a] [] pos) (vD g):=by
 intro pins s σ H R I h;refine Call_ (JK I v hm d (bI (hU (w pos pins s σ H _ I h) λus s1 hZ=>?_) u rfl));obtain⟨vs,H1,c,n,o⟩:=hZ;obtain⟨l,xs,e,i,q⟩:=o;subst e;cases n with
|cons r j=>
  cases j;cases r;obtain⟨z,A,pl,_⟩:=c.tuple (hO.of i);refine Mt pl λh' he f kk=>?_;have y:Inv X pins σ H1 {s1 with heap:=h'}:=c.kept (t':=s1.toks) kk;refine d7 he ?_;have lt:l<s1.heap.objs.size:=c.hL.lt i;refine⟨s1.heap.objs.size+1,[s1.heap.objs.size+1,s1.heap.objs.size],_,_,H1,rfl,y,GB l (s1.heap.objs.size+1) s1.heap.objs.size (Nat.succ_ne_self _) (Nat.ne_of_lt (Nat.lt_succ_of_lt lt)) (Nat.ne_of_lt lt),⟨⟨_,he⟩,f⟩,λb d=>?_,q⟩;have e:b=s1.heap.objs.size+1\/b=s1.heap.objs.size:=by simpa using d
  rcases e with e|e<;>subst e
  .exact c.nJ (Nat.le_succ _) (c.hL.fresh (Nat.le_succ _))
  .exact c.nJ (Nat.le_refl _) (c.hL.fresh (Nat.le_refl _))
end
theorem Gw:bJ "enumerate"=some (.type "enumerate"):=by decide +kernel
noncomputable def wV(K:ae)(ta tb:TE):TE:=λσ H Q=>ta σ H λx H1=>∃k,vJ K x H1 k/\if k=true then Q x H1 else tb σ H1 Q
theorem NI{X:Cx}{a b:Expr}{rest:List Expr}{pos:Pos}{e d:TE}(p:PE X a e)(o:PE X (.BoolOp .Or (b::rest) pos) d):PE X (.BoolOp .Or (a::b::rest) pos) (wV X.K e d):=by
 intro pins s σ H Q I h;refine BoolOp_or (hU (p pins s σ H _ I h) λv s1 hZ=>?_);obtain⟨x,H1,u,f,k,l,g⟩:=hZ;refine hU (EU pins s1 σ H1 x v (λn H'=>H'=H1/\n=k) u f ⟨k,l,rfl,rfl⟩) λc s2 hZ=>?_;obtain⟨j,i,r,q⟩:=hZ;subst r q;cases c with
|false=>exact o pins s2 σ j Q i g
|true=>exact⟨x,j,i,f,g⟩
noncomputable def Zh(b:Addr)(H H':Hp):Prop:=∀c o,H c=some o->c≠b->H' c=some o
theorem Zh.refl(b:Addr)(H:Hp):Zh b H H:=λ_ _ h _=>h
theorem Zh.trans{b:Addr}{H H1 d:Hp}(x:Zh b H H1)(y:Zh b H1 d):Zh b H d:=λc o h a=>y c o (x c o h a) a
theorem Zh.upd{b:Addr}{H H1:Hp}{o:HO}(x:Zh b H H1):Zh b H (upd H1 b o):=λc u h a=>by rw[Zf a];exact x c u h a
theorem Zh.of{b:Addr}{H H1:Hp}(x:fy H H1):Zh b H H1:=λc u h _=>x c u h
theorem Th.me{H H':Hp}{t C c:Addr}{fs:List (Str×V)}(a:H t=some (.ins C c fs))(s:Zh t H H'){v:V}{T:String}(h:Th H v T):Th H' v T:=by
 cases h with
|non=>exact .non
|bl b=>exact .bl b
|int i=>exact .int i
|str z h=>exact .str z h
|lst e=>exact .lst (s _ _ e (hA e a (by intro z;cases z)))
|tup e=>exact .tup (s _ _ e (hA e a (by intro z;cases z)))
|dK e=>exact .dK (s _ _ e (hA e a (by intro z;cases z)))
theorem Yc{J:It}{g:TG}{j:TS}{D:Ends}{σ:L2.St}{H:Hp}(n:Nat)(Pv:Nat->L2.St->Hp->Prop)(h0:Pv 0 σ H)(h:∀i σ H,i<n->Pv i σ H->J.go i H)(d:∀σ H,Pv n σ H->J.stop n H)(q:∀i σ H x H',i<n->Pv i σ H->J.rE i H x H'->g x σ H' λa f=>j {D with nx:=Pv (i+1),ct:=Pv (i+1),bk:=D.nx} a f)(hd:∀σ H,Pv n σ H->D.nx σ H):∃W:Nat->Nat->L2.St->Hp->Prop,(∃m,W 0 m σ H)/\∀i m σ H,W i m σ H ->(J.stop i H/\D.nx σ H)\/(J.go i H/\∃N:L2.St->Hp->Prop,(∀b H',N b H'->∃l,l<m/\W (i+1) l b H')/\∀x H',J.rE i H x H'->g x σ H' λa f=>j {D with nx:=N,ct:=N,bk:=D.nx} a f):=by
 refine⟨λi m σ H=>m=n-i/\i<=n/\Pv i σ H,⟨n,rfl,Nat.zero_le _,h0⟩,?_⟩;rintro i m σ H ⟨rfl,r,p⟩;by_cases c:i<n
 .exact .inr ⟨h i σ H c p,Pv (i+1),λb H' o=>⟨n-(i+1),by omega,rfl,c,o⟩,λx H' y=>q i σ H x H' c p y⟩
 .have e:i=n:=by omega
  subst e;exact .inl ⟨d σ H p,hd σ H p⟩
end L2
namespace TB
open PySem L2 PySem.Spec PyProof.Rows
theorem Row.me{H H':Hp}{t C g:Addr}{fs:List (Str×V)}(b:H t=some (.ins C g fs))(s:Zh t H H'){v:V}{r:Option (List V)}(h:Row H v r):Row H' v r:=by
 cases r with
|none=>obtain⟨T,a,f⟩:=h;exact⟨T,a.me b s,f⟩
|some xs=>obtain⟨p,rfl,d,e⟩:=h;exact⟨p,rfl,s _ _ d (hA d b (by intro z;cases z)),λx c=>let ⟨T,a⟩:=e x c;⟨T,a.me b s⟩⟩
noncomputable def Xe(H:Hp)(xs:List V)(rs:List (Option (List V))):Prop:=xs.length=rs.length/\∀(i:Nat)x r,xs[i]?=some x->rs[i]?=some r->Row H x r
noncomputable def Jn:Nat->List (Key×V)->List (Option (List V))->Sum (Nat×V) (List (Key×V))
|_,f5,[]=>.inr f5
|i,f5,r::rs=>
  if jZ false 2 f5 r≠.non then .inl (i,jZ false 2 f5 r)else match r with
  |some [.str n,room]=>if YB room≠.non then .inl (i,YB room)else Jn (i+1) (putK f5 (.inr n) room) rs
  |_=>.inl (i,.str "form")
theorem QY{i:Nat}{a:List (Key×V)}{r:Option (List V)}{rs:List (Option (List V))}(h:jZ false 2 a r≠.non):Jn i a (r::rs)=.inl (i,jZ false 2 a r):=by unfold Jn;rw[if_pos h]
theorem LL{g:Bool}{n:Nat}{b:List (Key×V)}{r:Option (List V)}(h:jZ g n b r=.non):∃xs y,r=some xs/\xs.length=n/\xs.getD 0 .non=.str y:=by
 cases r with
|none=>cases h
|some xs=>
  have h':pC g n b xs=.non:=h;unfold pC at h';by_cases d:xs.length≠n
  .rw[if_pos d]at h';cases h'
  .rw[if_neg d]at h';by_cases c:Yb g (xs.getD 0 .non)=false
   .rw[if_pos c]at h';cases h'
   .have a:Yb g (xs.getD 0 .non)=true:=by simpa using c
    unfold Yb at a;cases e:xs.getD 0 .non with
   |str y=>exact⟨xs,y,rfl,by omega,e⟩
   |_=>rw[e]at a;split at a<;>cases a
noncomputable def nameOf(ys:List V):Str:=match ys.getD 0 .non with
|.str y=>y
|_=>Str.empty
noncomputable def JD(g:Bool)(n:Nat)(why:List V->V):Nat->List (Key×V)->List (V×Option (List V))->Sum (Nat×V) (List (Key×V))
|_,f5,[]=>.inr f5
|i,f5,(x,r)::rs=>
  if jZ g n f5 r≠.non then .inl (i,jZ g n f5 r)else match r with
  |some ys=>if why ys≠.non then .inl (i,why ys)else JD g n why (i+1) (putK f5 (.inr (nameOf ys)) x) rs
  |none=>.inl (i,.str "form")
theorem Ke {n:Nat}{i:Nat}{x:V}{rs:List (V×Option (List V))}(h:jZ g n a r≠.non):JD g n why i a ((x,r)::rs)=.inl (i,jZ g n a r):=by unfold JD;rw[if_pos h]
theorem Tn {n:Nat}{i:Nat}{x:V}{a:List V}{rs:List (V×Option (List V))}(h:jZ g n b (some a)=.non):JD g n why i b ((x,some a)::rs)=if why a≠.non then .inl (i,why a)else JD g n why (i+1) (putK b (.inr (nameOf a)) x) rs:=by
 conv=>lhs;unfold JD
 rw[if_neg (λz=>z h)]
noncomputable def at_(ys:List V)(i:Nat):V:=ys.getD i .non
noncomputable def Kh(f5:List (Key×V))(n:Int)(ys:List V):V:=VX f5 n (at_ ys 1) (at_ ys 2) (at_ ys 3) (at_ ys 4) (at_ ys 5)
noncomputable def vd(f5:List (Key×V))(ys:List V):V:=o_ f5 (at_ ys 1) (at_ ys 2) (at_ ys 3) (at_ ys 4)
noncomputable def UO(f5:List (Key×V))(n pp:Int)(ys:List V):V:=Xz f5 n pp (at_ ys 1) (at_ ys 2) (at_ ys 3)
noncomputable def ZM(ys:List V):Int:=match ys.getD 3 .non with
|.int i=>i
|_=>0
noncomputable def X0(pS:List (Key×V))(nT:Int):Nat->Int->List (Key×V)->List (V×Option (List V))->Sum (Nat×V) (List (Key×V))
|_,_,f5,[]=>.inr f5
|i,pp,f5,(x,r)::rs=>
  if jZ true 4 f5 r≠.non then .inl (i,jZ true 4 f5 r)else match r with
  |some ys=>if UO pS nT pp ys≠.non then .inl (i,UO pS nT pp ys)else X0 pS nT (i+1) (pp+ZM ys) (putK f5 (.inr (nameOf ys)) x) rs
  |none=>.inl (i,.str "form")
section
variable {pS:List (Key×V)}{nT pp:Int}{i:Nat}{f5:List (Key×V)}{x:V}{rs:List (V×Option (List V))}
theorem Qe{a:List V}(h:jZ true 4 f5 (some a)=.non):X0 pS nT i pp f5 ((x,some a)::rs)=if UO pS nT pp a≠.non then .inl (i,UO pS nT pp a)else X0 pS nT (i+1) (pp+ZM a) (putK f5 (.inr (nameOf a)) x) rs:=by
 conv=>lhs;unfold X0
 rw[if_neg (λz=>z h)]
end
noncomputable abbrev PR:=Option (List V×List (Option (List V)))
noncomputable def LP(H:Hp)(v:V)(r:PR):Prop:=match r with
|none=>Part H v none
|some (xs,rs)=>Part H v (some xs)/\Xe H xs rs
theorem Xe.me{H H':Hp} (c:H t=some (.ins C d fs))(s:Zh t H H') (h:Xe H xs rs):Xe H' xs rs:=⟨h.1,λi x r a b=>(h.2 i x r a b).me c s⟩
noncomputable def KC(n:Nat)(go:List V->List (Option (List V))->Sum (Nat×V) (List (Key×V)))(r:PR):Sum (V×V) (List (Key×V)):=match r with
|none=>.inl (.non,.str "form")
|some (xs,rs)=>if xs.length>n then .inl (.int n,.str "many")else match go xs rs with
 |.inl (i,why)=>.inl (.int i,why)
 |.inr f5=>.inr f5
noncomputable def A1(_:List V)(rs:List (Option (List V))):Sum (Nat×V) (List (Key×V)):=Jn 0 [] rs
noncomputable def A0(k1:List (Key×V))(n:Int)(xs:List V)(rs:List (Option (List V))):Sum (Nat×V) (List (Key×V)):=JD false 6 (Kh k1 n) 0 [] (xs.zip rs)
noncomputable def AZ(k1:List (Key×V))(xs:List V)(rs:List (Option (List V))):Sum (Nat×V) (List (Key×V)):=JD false 5 (vd k1) 0 [] (xs.zip rs)
noncomputable def A2(k1:List (Key×V))(n:Int)(xs:List V)(rs:List (Option (List V))):Sum (Nat×V) (List (Key×V)):=X0 k1 n 0 0 [] (xs.zip rs)
noncomputable abbrev Ks:=List (Key×V)×List (Key×V)×List (Key×V)×List (Key×V)
noncomputable def Vh(H:Hp)(fs:List (Str×V))(f g:Str)(r:PR)(k:List (Key×V)):Prop:=∃l d xs rs,fs.lookup f=some (.ref l)/\fs.lookup g=some (.ref d)/\r=some (xs,rs)/\H l=some (.tup xs)/\H d=some (.dK k)
structure TabOf(H:Hp)(C t:Addr)(fs:List (Str×V))(n:Int)(r1 r2 r3 r4:PR)(k:Ks):Prop where
 tab:Tab H C t fs
 turns:fs.lookup ("turns":Str)=some (.int n)
 p:Vh H fs "places" oq r1 k.1
 r:Vh H fs "rides" "ride_by_name" r2 k.2.1
 w:Vh H fs "ways" "way_by_name" r3 k.2.2.1
 g:Vh H fs "groups" rg r4 k.2.2.2
end TB
namespace L2
open PySem PySem.Spec PyProof.Rows
section
variable {X:Cx}{CX:qf}{k:Nat}{C:Addr}{ps:List Str}{sp:Sp}{E:XK}{m:Str}{pos apos:Pos}{o:Expr}{ta:TE}
theorem PJ (c:jA X.prog X.w X.K X.mg X.base CX k C m ps sp)(cl:qH X.K C)(e:Passes CX X E)(h:jw k X.A)(he:PE X o ta)
  (g:eval (.Call (.Attribute o m apos) [] [] pos) X.env=(do
   let a <-eval o X.env
   iS apos.atName
   let (f,first) <-fT [a] (gy a m pl)
   iL pos f first (cy pos (aH [] X.env)) (fB pos (dq [] X.env))):=by rfl):
  PE X (.Call (.Attribute o m apos) [] [] pos) (Pf C m sp [] E ta jn):=by
 obtain⟨f,fd,F,d,b⟩:=c
 exact Ky he cl d F h b .nil e g
end
section
variable {prog:Program}{w:World}{A:bh}{E:Value->ai->Prop}
theorem M8{it l:Addr}(f:l≠it):∀(n i:Nat)(s:ai)(Q:List Value->ai->Prop),s.heap.IsListIter it l i->s.heap.IsList l items->i+n<=items.size ->(∀h',h'.IsListIter it l (i+n)->Heap.SameBut it s.heap h'->Q ((items.toList.drop i).take n) {s with heap:=h'})->wpAny (model prog w) A (draw (.ref it) n) Q E s
|0,i,s,Q,hit,_,_,j=>by show wpAny _ _ (pure []) Q E s;exact ah (by simpa using j s.heap hit (Heap.SameBut.refl ..))
|n+1,i,s,Q,hit,p,hle,j=>by
  have g:i<items.size:=by omega
  show wpAny _ _ (pyNext (.ref it) >>= _) Q E s;refine aa (wpAny_pyNext_list_item hit p (x:=items[i]) (by simp[g]) λq c a=>?_);refine aa (aU (M8 f n (i+1) _ _ c (p.at λo e=>a.extBut _ _ f e) (by omega) λh b d=>ah ?_));have hd:items.toList.drop i=items[i]::items.toList.drop (i+1):=by simp[List.drop_eq_getElem_cons,g]
  have:=j h (by rw[show i+(n+1)=i+1+n by omega];exact b) (a.trans d);rw[hd,List.take_succ_cons]at this;exact this
theorem Uv{s:ai} {Q:List Value->ai->Prop}(r:A.handled=none)(n:s.heap.IsList t items)(u:∀h',Heap.ExtBut s.heap.objs.size s.heap h'->Q items.toList {s with heap:=h'}):wpAny (model prog w) A (unpackItems (.ref t) items.size none) Q E s:=by
 have h:t≠s.heap.objs.size:=by obtain⟨o,q,_⟩:=n;exact Nat.ne_of_lt (Heap.lt_size q)
 unfold unpackItems;refine aa ?_
 .unfold notIterableAtAll;refine aa (wpAny_specialOf n.typeIs slot_list_iter.lookup ?_);refine ah ?_;simp only[Bool.false_eq_true,if_false];refine aa (aU (gQ n ?_));have g:(s.heap.push {cls:=.type "list_iterator",data:=.fields #[.ref t,.int 0 0]}).IsList t items:=n.at λo e=>Heap.get?_push_of_some _ e;refine aa (aU (M8 h items.size 0 _ _ ⟨_,Heap.get?_push_size _ rfl,rfl,rfl⟩ g (by omega) λj c a=>?_));have l:List.take items.size (List.drop 0 items.toList)=items.toList:=by rw[fZ];exact bg (by simp)
  rw[l];rw[if_neg (by simp)];have d:j.IsList t items:=g.at λo e=>a.extBut _ _ h e;refine aa (aU (wpAny_pyNext_list_end r c d (by simp) λi f=>?_));simp only[Option.isSome_none,Bool.false_eq_true,if_false];refine ah (u i λb o p e=>f b o p (a.extBut b o p (Heap.get?_push_of_some _ e)))
theorem Us{s:ai} {b}   (e:A.handled=none)(c:s.heap.IsList t items)(d:(de elts env).length=items.size)(a:(de elts env).findIdx? (·.1)=none)(h:∀h',Heap.ExtBut s.heap.objs.size s.heap h'->wpAny (model prog w) A (assignInOrder ((de elts env).map (·.2)) items.toList) Q E {s with heap:=h'}):wpAny (model prog w) A (assign (.Tuple elts b pos) env (.ref t)) Q E s:=by rw[assign_Tuple];refine aa (fV ?_);unfold unpack;rw[d,a];exact aa (aU (Uv e c h))
end
section
variable {X:Cx}{pos:Pos}
noncomputable def yL(K:ae)(n:Nat)(t:tZ):TG:=λv σ H Q=>∃a xs,v=.ref a/\gp K H a xs/\xs.length=n/\t xs σ H Q
theorem Fe {k:Nat}{n:Nat}(q:X.calm=true)(h:vb X c t)(l:(de c X.env).length=n:=by rfl)(d:(de c X.env).findIdx? (·.1)=none:=by rfl):PG X (.Tuple c k pos) (yL X.K n t):=by intro pins s σ H v u Q I r hw;obtain⟨a,xs,w,j,p,hw⟩:=hw;subst w;cases r;obtain⟨y,f,i,hz⟩:=I.list j;refine Us (I.ok.hd q) i.isList (by simp[l,<-p,f.length]) d λh' g=>?_;have x:Inv X pins σ H {s with heap:=h'}:=I.kept (t':=s.toks) λb o e=>g b o (Nat.ne_of_lt (Heap.lt_size e)) e;exact h pins _ σ H xs _ Q x (by simpa using f) hw
noncomputable def j_(K:ae):List V->Hp->VK->Prop:=λxs H Q=>∃p ys,xs=[.ref p]/\(gp K H p ys\/hO K H p ys)/\Q (.int ys.length) H
theorem ZG:Xf X (.builtin "len") (j_ X.K):=JU
noncomputable def xu(K:ae):List V->Hp->VK->Prop:=λxs H Q=>∃(p:Addr)(ns:List Int),xs=[.ref p]/\gp K H p (ns.map V.int)/\Q (.int ns.sum) H
theorem Wx(j:X.calm=true):Xf X (.builtin "sum") (xu X.K):=by intro pins s σ H xs us Q I r h;obtain⟨p,ns,rfl,g,q⟩:=h;obtain⟨u,rfl,d⟩:=vals1 r;cases d;obtain⟨a,f,pl,hz⟩:=I.list g;have c:IntsAre a ns:=intsAre_of f;obtain⟨b,e⟩:=(show AllInts a.toArray from c.allInts).items;have i:s.heap.IsList p (intItems b):=e▸pl.isList;refine sum_intListG (I.ok.hd j) i λh' l t' hk=>⟨.int ns.sum,H,I.kept hk,⟨t',?_⟩,q⟩;rw[preSum_eq,bg (by simp),<-nums_intItems,<-e];have:numsOf a=ns:=c.numsOf;rw[show a.toArray.toList=a from rfl,this]
end
mutual
inductive Is(H:Hp):V->PyData->Prop
|non:Is H .non .none
|bl (b:Bool):Is H (.bl b) (.bool b)
|int (i:Int):Is H (.int i) (.int i)
|str (z:Str):Is H (.str z) (.str z)
|lst {a:Addr}{xs:List V}{ds:List PyData} (e:H a=some (.lst xs)) (r:jN H xs ds):Is H (.ref a) (.list ds)
|tup {a:Addr}{xs:List V}{ds:List PyData} (e:H a=some (.tup xs)) (r:jN H xs ds):Is H (.ref a) (.tuple ds)
inductive jN(H:Hp):List V->List PyData->Prop
|nil:jN H [] []
|cons {x:V}{xs:List V}{d:PyData}{ds:List PyData} (h:Is H x d) (r:jN H xs ds):jN H (x::xs) (d::ds)
end
section
variable {P:Program}{w:World}{H:Hp}{h:Heap}
mutual
theorem Is.reads(ok:k6 P w H h):∀{x:V}{d:PyData}{v:Value},Is H x d->RelV x v->∃as,Reads h v d as
|_,_,_,.non,r=>by cases r;exact⟨_,.none⟩
|_,_,_,.bl b,r=>by cases r;exact⟨_,.bool b⟩
|_,_,_,.int i,r=>by obtain⟨t,rfl⟩:=r;exact⟨_,.int i t⟩
|_,_,_,.str z,r=>by obtain⟨t,rfl⟩:=r;exact⟨_,.str z t⟩
|_,_,_,.lst e q,r=>by cases r;obtain⟨_,g,n,a,f⟩:=ok _ _ e;obtain⟨as,c⟩:=jN.reads ok q a;exact⟨_,.list f rfl rfl (by simpa using c)⟩
|_,_,_,.tup e q,r=>by cases r;obtain⟨_,g,a,o,f,j,n,hd⟩:=ok _ _ e;obtain⟨as,c⟩:=jN.reads ok q a;exact⟨_,.tuple f j hd (by simpa using c)⟩
theorem jN.reads(ok:k6 P w H h):∀{xs:List V}{ds:List PyData}{us:List Value},jN H xs ds->Vals xs us->∃as,ReadsAll h us ds as
|_,_,_,.nil,r=>by cases r;exact⟨_,.nil⟩
|_,_,_,.cons a b,r=>by
  cases r with
 |cons d c=>obtain⟨as,f⟩:=Is.reads ok a d;obtain⟨bs,e⟩:=jN.reads ok b c;exact⟨_,.cons f e⟩
end
mutual
theorem Is.nodict:∀{x:V}{d:PyData},Is H x d->d.hasDict=false
|_,_,.non=>by simp only[PyData.hasDict]
|_,_,.bl b=>by simp only[PyData.hasDict]
|_,_,.int i=>by simp only[PyData.hasDict]
|_,_,.str z=>by simp only[PyData.hasDict]
|_,_,.lst e q=>by simp only[PyData.hasDict];exact jN.nodict q
|_,_,.tup e q=>by simp only[PyData.hasDict];exact jN.nodict q
theorem jN.nodict:∀{xs:List V}{ds:List PyData},jN H xs ds->PyData.hasDictAll ds=false
|_,_,.nil=>by simp only[PyData.hasDictAll]
|_,_,.cons a b=>by simp only[PyData.hasDictAll,Is.nodict a,jN.nodict b,Bool.or_false]
end
mutual
theorem Is.same (s:fy H H'):∀{x:V}{d:PyData},Is H x d->Is H' x d
|_,_,.non=>.non
|_,_,.bl b=>.bl b
|_,_,.int i=>.int i
|_,_,.str z=>.str z
|_,_,.lst e q=>.lst (s _ _ e) (jN.same s q)
|_,_,.tup e q=>.tup (s _ _ e) (jN.same s q)
theorem jN.same (s:fy H H'):∀{xs:List V}{ds:List PyData},jN H xs ds->jN H' xs ds
|_,_,.nil=>.nil
|_,_,.cons a b=>.cons (Is.same s a) (jN.same s b)
end
end
theorem Zh.jq   (x:Zh b H H1)(d:H1 l=none):Zh b H (L2.upd H1 l o):=λc u h a=>by rw[Zf (fi (x c u h a) d)];exact x c u h a
theorem Zh.put   (x:Zh b H H1):Zh b H (L2.upd H1 b o):=λc u h a=>by rw[Zf a];exact x c u h a
theorem at_of{α:Type}{xs:List α}{r:Int}(h0:0<=r)(c:r<(xs.length:Int)):∃v,kZ xs r=some v/\v∈xs:=by
 have b:((r.toNat:Nat):Int)=r:=Int.toNat_of_nonneg h0;have a:r.toNat<xs.length:=by omega
 refine⟨xs[r.toNat],?_,aB a⟩;have h:=Zj (xs:=xs) (gE a);rwa [b]at h
end L2
namespace WD
open PySem L2 PySem.Spec PyProof.Rows TB
noncomputable def jO:List Str:=["len","range","int","list","tuple","zip","sum","repr","max","isinstance","bool","str","enumerate"]
theorem bm{mg:Str->Option Value}(B:∀x∈jO,mg x=none){x:Str}(h:x∈jO:=by decide +kernel):mg x=none:=B x h
noncomputable def uH(x y z:Int):HO:=.lst [.int x,.int y,.int z]
noncomputable def Zv(H:Hp)(b:Addr):Prop:=∃x y z:Int,H b=some (uH x y z)
theorem Zv.new   (h:Zv H b)(a:H l=none):Zv (upd H l o) b:=by obtain⟨x,y,z,e⟩:=h;exact⟨x,y,z,by rw[Zf (fi e a)];exact e⟩
theorem Zv.ne  (h:Zv H b)(a:H l=none):l≠b:=by obtain⟨x,y,z,e⟩:=h;exact(fi e a).symm
theorem al  {o:HO}{G:Hp->Prop}(B:Zv H b)(h:H c=none)(k:∀H',Zv H' b->Zh b H H'->H' c=some o->c≠b->G H'):G (upd H c o):=k _ (B.new h) ((Zh.refl b H).jq h) Zd (B.ne h)
theorem mz{b c:Addr}{H:Hp}{o:HO}{R:Type}{q:R}{G:Hp->R->Prop}(B:Zv H b)(h:H c=none)(k:∀H',Zv H' b->Zh b H H'->H' c=some o->c≠b->G H' q):G (upd H c o) q:=al (G:=λH=>G H q) B h k
noncomputable def R7:Sp:=λvs H Q _=>∃c:Int,vs=[.int c]/\∀l H',H l=none->Zv H' l->fy H H'->Q (.ref l) H'
noncomputable def Xi:Sp:=λvs H Q _=>∃(b:Addr)(n:Int),vs=[.ref b,.int n]/\Zv H b/\0<n/\n.natAbs.log2<9000/\∀(r:Int)H',0<=r->r<n->Zv H' b->Zh b H H'->Q (.int r) H'
theorem MQ(a m:Int)(h:0<m)(hm:m<2 ^ 64):-(2 ^ 64)<a % m/\a % m<2 ^ 64:=by have c:=Int.emod_nonneg a (by omega:m≠0);have b:=Int.emod_lt_of_pos a h;omega
theorem ZO{n:Int}(h:0<=n)(a:n<=1000):n.natAbs.log2<9000:=Nat.lt_of_le_of_lt (Nat.log2_le_self _) (by omega)
theorem oz {i:Nat}{n:Int}{σ:L2.St}{Q:VK}(d:Zv H b)(k:∀(r:Int)H',0<=r->r<n->Zv H' b->Zh b H H'->Q (.int r) H')(h0:0<n:=by decide)(c:n.natAbs.log2<9000:=by exact ZO (by decide) (by decide))(a:σ[i]?=some (some (.ref b)):=by rfl):MN Xi [] E (Y7 (lC i) (Y7 (tC (.int n)) jn)) σ H Q:=⟨_,a,b,n,rfl,d,h0,c,k⟩
theorem Z7{p:Bool}{A B:Prop}(b:p=true->A)(a:p=false->B):if p=true then A else B:=by
 cases p
 .exact a rfl
 .exact b rfl
section
variable {P:Program}{w:World}{K:ae}{mg:Str->Option Value}{base:Heap}
theorem QO:fx [tT] [tT] (Ze T.mP):=jX
theorem Ed(B:∀x∈jO,mg x=none)(D:Df K mg "_law_box" T.mP [tT]):hY P w K mg base 1 "_law_box" [tT] R7:=by refine D.cn QO λf b A outer s H vs Q E d h=>?_;obtain⟨c,rfl,k⟩:=h;refine⟨_,(Zc (Zk (ZD (Zg (Zw (Nf rfl) rfl (bm B) je (Zg Zb (Zg (Zr XW (pv 0) (Zr Q3 Zb Zb)) Zl))) (Zg (Zr Xy (pv 0) Zb) (Zg Zb Zl)))))),?_⟩;refine⟨_,rfl,_,_,rfl,rfl,⟨by decide,by decide,by decide⟩,_,_,rfl,rfl,_,_,rfl,_,rfl,_,_,rfl,rfl,(by show(0:Int)<2147483647;decide),(zl),λp a=>?_⟩;exact k p _ a ⟨_,_,_,Zd⟩ (sameNew (fy.refl _) a)
theorem X7:fx [jE,mR,"_law_digit","_law_number"] [jE,mR] (Ze T.mn):=jX
theorem Lw(D:Df K mg qo T.mn [jE,mR]):hY P w K mg base 1 qo [jE,mR] Xi:=by
 refine D.cn X7 λf C A outer s H vs Q E F h=>?_;obtain⟨b,n,rfl,⟨x,y,z,a⟩,c,g,q⟩:=h;have k:∀r p o l:Int,0<=r->r<n->Q (.int r) (upd H b (uH p o l)):=λr p o l h0 u=>q r _ h0 u ⟨_,_,_,Zd⟩ (Zh.refl b H).put;refine⟨_,(Za (ZA (Zo G6 (il K (pv 0) Zb) Zb (Zt _)) (Za (st 2 X7.nd (Zr Xy (il K (pv 0) Zb) (pv 1))) (Za (UG (Zr KH (il K (pv 0) Zb) (pv 1)) (QZ (pv 0) Zb set_list)) (Zc (Zk (pv 2))))) Zn) (Za (UG (Zr ZL (il K (pv 0) Zb) Zb) (QZ (pv 0) Zb set_list)) (Za (st 3 X7.nd (Zr Xy (Zr ZL (Zr ZL (Zr Xk (il K (pv 0) Zb) Zb) (Zr Xk Zb (il K (pv 0) Zb))) Zb) Zb)) (Za (st 3 X7.nd (Zr Xy (Zr Xk (Zr Xy (Zr Xk (pv 3) (pv 3)) Zb) Zb) Zb)) (Zc (Zk (Zr Xy (Zr Sv (Zr Xy (Zr Xk (pv 3) (pv 3)) Zb) Zb) (pv 1)))))))),?_⟩;have i:kZ [V.int x,V.int y,V.int z] 0=some (.int x):=Zj (j:=0) rfl;refine uz a i ⟨_,_,rfl,rfl,_,rfl,?_⟩;refine ia (λe=>?_) (λe=>?_)
 .refine uz a i ⟨_,rfl,_,_,rfl,rfl,c,?_⟩;refine uz a i ⟨_,rfl,_,_,rfl,rfl,⟨c,g⟩,?_⟩;refine⟨_,rfl,b,_,0,0,rfl,rfl,a,rfl,_,rfl,?_⟩;exact k _ _ _ _ (Int.emod_nonneg _ (by omega)) (Int.emod_lt_of_pos _ c)
 .have a2:kZ [V.int x,V.int y,V.int z] 2=some (.int z):=Zj (j:=2) rfl;refine uz a a2 ⟨_,_,rfl,rfl,?_⟩;refine⟨_,rfl,b,_,2,2,rfl,rfl,a,rfl,?_⟩;have d:upd H b (.lst ([V.int x,V.int y,V.int z].set 2 (.int (z+1)))) b=some (uH x y (z+1)):=Zd;have B:kZ [V.int x,V.int y,V.int (z+1)] 1=some (.int y):=Zj (j:=1) rfl;have v:kZ [V.int x,V.int y,V.int (z+1)] 2=some (.int (z+1)):=Zj (j:=2) rfl;refine uz d B ⟨_,_,rfl,rfl,.inr ⟨by decide,by decide⟩,uz d v ⟨_,_,rfl,rfl,.inl ⟨by decide,by decide⟩,_,_,rfl,rfl,_,_,rfl,rfl,_,_,rfl,rfl,(by show(0:Int)<2147483629;decide),?_⟩⟩;refine⟨_,rfl,_,rfl,_,_,rfl,rfl,.inl (MQ _ _ (by decide) (by decide)),_,_,rfl,rfl,(by show(0:Int)<2147483587;decide),_,_,rfl,rfl,.inr ⟨by decide,by decide⟩,_,_,rfl,rfl,(by show(0:Int)<2147483647;decide),?_⟩;refine⟨_,rfl,_,rfl,_,_,rfl,rfl,.inl (MQ _ _ (by decide) (by decide)),_,_,rfl,rfl,(by show(0:Int)<2147483629;decide),_,_,rfl,rfl,⟨by decide,by decide⟩,_,rfl,_,_,rfl,rfl,c,?_⟩;exact k _ _ _ _ (Int.emod_nonneg _ (by omega)) (Int.emod_lt_of_pos _ c)
end
noncomputable abbrev codes:=K1.codes
noncomputable abbrev nB:=K1.nB
theorem Wg (h:codes a=codes b):a=b:=by
 obtain⟨x⟩:=a;obtain⟨y⟩:=b;have:x=y:=by simpa[K1.codes]using h
 rw[this]
theorem Xn(a b:Str):codes (a++b)=codes a++codes b:=by show(a.cps++b.cps).toList=_;simp[K1.codes]
theorem Wf(c:Nat):codes ⟨#[c]⟩=[c]:=rfl
theorem VI{α:Type}(xs:List α)(a:Nat):∀k,a+k<=xs.length->((a_ k).map λi=>a+i).filterMap (λi=>xs[i]?)=(xs.drop a).take k
|0,_=>by simp
|k+1,h=>by
  rw[cJ,aG,List.filterMap_append,VI xs a k (by omega)];have hk:a+k<xs.length:=by omega
  rw[a9];congr 1;simp[hk]
theorem Le(n:Nat)(j:Int)(h:0<=j):dE none (some j) 1 n=(a_ (min j.toNat n)).map λi=>0+i:=by
 unfold dE sliceRange;obtain⟨m,rfl⟩:=Int.eq_ofNat_of_zero_le h;simp only[show(1:Int)>0 by decide,if_true,show ¬(m:Int)<0 by omega,if_false];rw[show max 0 (min (m:Int) n)=((min m n:Nat):Int) by omega,Int.toNat_natCast];generalize min m n=t;have e:(if(0:Int)<t then((t:Int)-0+1-1) / 1 else 0).toNat=t:=by rw[Int.ediv_one];split<;>omega
 rw[e];apply fR;intro k _;omega
theorem Lf(n:Nat)(j:Int)(h:0<=j)(a:j<=n):dE (some j) none 1 n=(a_ (n-j.toNat)).map λi=>j.toNat+i:=by
 unfold dE sliceRange;obtain⟨m,rfl⟩:=Int.eq_ofNat_of_zero_le h;simp only[show(1:Int)>0 by decide,if_true,show ¬(m:Int)<0 by omega,if_false];rw[show max 0 (min (m:Int) n)=m by omega,Int.toNat_natCast];have e:(if(m:Int)<(n:Int)then((n:Int)-m+1-1) / 1 else 0).toNat=n-m:=by rw[Int.ediv_one];split<;>omega
 rw[e];apply fR;intro k _;omega
theorem PB(x:Str)(l:List Nat):(l.filterMap (x.cps[·]?))=l.filterMap (λi=>(codes x)[i]?):=by congr 1;funext i;simp[K1.codes]
theorem Z1(x:Str):(codes x).length=x.length:=K1.vH x
theorem Mn(x:Str)(j:Int)(h:0<=j):codes (Txt.slice x none (some j))=(codes x).take j.toNat:=by
 unfold Txt.slice;rw[Le _ _ h];split
 .rename_i a;have:min j.toNat x.length=x.length:=by simpa using a
  rw[bg (by rw[Z1];omega)]
 .show(List.filterMap _ _)=_;rw[PB,VI _ 0 _ (by rw[Z1];omega),fZ];rcases Nat.le_total j.toNat x.length with hh|hh
  .rw[Nat.min_eq_left hh]
  .rw[Nat.min_eq_right hh,bg (by rw[Z1];exact Nat.le_refl _),bg (by rw[Z1];omega)]
theorem Rm(x:Str)(j:Int)(h:0<=j)(b:j<=x.length):codes (Txt.slice x (some j) none)=(codes x).drop j.toNat:=by
 unfold Txt.slice;rw[Lf _ _ h b];split
 .rename_i a;have:x.length-j.toNat=x.length:=by simpa using a
  have c:=Z1 x;rcases Nat.eq_zero_or_pos x.length with e|e
  .have:codes x=[]:=aZ (by omega);rw[this];simp
  .have:j.toNat=0:=by omega
   rw[this,fZ]
 .show(List.filterMap _ _)=_;rw[PB,VI _ j.toNat _ (by rw[Z1];omega),bg (by rw[fz,Z1];omega)]
theorem Mo:∀(ts:List Str),codes (Txt.join Str.empty ts)=(ts.map codes).flatten
|[]=>rfl
|[t]=>by show codes (Txt.join Str.empty [t])=_;unfold Txt.join;rw[iy];show codes t=_;simp
|t::u::r=>by have a:=Mo (u::r);unfold Txt.join at a ⊢;rw[iy]at a ⊢;show codes (t++Str.empty++Str.join Str.empty (u::r))=_;rw[Xn,Xn,a];simp[K1.codes,Str.empty]
noncomputable def Bs(n:Nat)(t:Str):Prop:=(codes t).length=n/\∀c∈codes t,c∈nB
theorem Bs.join{ts:List Str}(h:∀t∈ts,Bs 1 t):Bs ts.length (Txt.join Str.empty ts):=by
 unfold Bs;rw[Mo];induction ts with
|nil=>simp
|cons t r d=>
  obtain⟨a,b⟩:=h t ay;obtain⟨g,f⟩:=d λu e=>h u (ar _ e);refine⟨by simp only[aA,List.flatten_cons,aq,aR];omega,λc hc=>?_⟩;rw[aA,List.flatten_cons]at hc;rcases aF.mp hc with hc|hc
  .exact b c hc
  .exact f c hc
theorem nodup_map_on{α β:Type}{f:α->β}:∀{l:List α},l.Nodup->(∀a∈l,∀b∈l,f a=f b->a=b)->(l.map f).Nodup
|[],_,_=>fq
|a::l,h,i=>by rw[aA,bf];rw[bf]at h;refine⟨λhm=>?_,nodup_map_on h.2 λx g y d e=>i x (ar _ g) y (ar _ d) e⟩;obtain⟨b,c,e⟩:=ao.mp hm;exact h.1 (i b (ar _ c) a ay e▸c)
noncomputable def put(base:Str)(at_:Nat)(c:Nat):Str:=Txt.slice base none (some (at_:Int))++⟨#[c]⟩++Txt.slice base (some (at_:Int)) none
theorem We{base:Str}{a:Nat}(h:a<=base.length)(c:Nat):codes (put base a c)=(codes base).take a++[c]++(codes base).drop a:=by unfold put;rw[Xn,Xn,Mn _ _ (by omega),Rm _ _ (by omega) (by omega),Wf];simp
noncomputable def sgn(f k:Nat):Nat:=nB.getD ((f+5*k) % 26) 0
noncomputable def qp(base:Str)(a f n:Nat):List Str:=(a_ n).map λk=>put base a (sgn f k)
end WD
namespace L2
open PySem PySem.Spec PyProof.Rows
section
variable {X:Cx}
theorem NG{i:Nat}{x:Str}{pos' c:Pos}         (A:X.N.Nodup)(u:X.N[i]?=some x)(r:Loc X.env.scope x)(S:X.calm=true) (z:jm scope sc)(B:ji Z scope N cp)
  (P:PI X j iter G) (Q:∀C s H ex pn,PG (X2 X scope N C s H ex pn) j g) (J:∀C s H ex pn,va (X2 X scope N C s H ex pn) ifs tc) (he:∀C s H ex pn,PE (X2 X scope N C s H ex pn) elt te)
  (n:gw (.ListComp elt [⟨j,iter,ifs,0⟩] scope pos) (some (.Name x pos')) c.line X.env=pure true:=by with_unfolding_all rfl) (w:X.fn x=true\/X.env.scope.names.lookup x=some .local:=by first|exact .inl rfl|exact .inr rfl|assumption)
  (p:X.env.scope=sc:=by rfl) (l:X.N=Z:=by rfl) (L:∀x,gS iter X.env x=pure x:=by intro _;rfl):PS X (.Assign [.Name x pos'] (.ListComp elt [⟨j,iter,ifs,0⟩] scope pos) c) (sQ (WQ cp G g tc te) (Zp i)):=by
 subst p l
 intro pins s σ H D I h
 rw[exec_Assign_Name_used _ _ _ _ n]
 refine aa (fV (aa ?_))
 show wpAny _ _ (do let _ <-comprehension (.ListComp elt [⟨j,iter,ifs,0⟩] scope pos) scope X.env _ (newList []) false (eval iter X.env) (some (assign (.Name x pos') X.env))) _ _ s
 refine aa (cj (Na (R:=λ_ s'=>SP X pins D .next s') (use:=some (assign (.Name x pos') X.env)) S z B P Q J he L I h λD' C H5 s4 m I5 O F E Y W U q=>?_) (λ_ s' M=>ah (ah M)) λ_ _ e=>e)
 refine wpAny_assign_Name (MO I5 A u r (v:=.ref D') rfl (λs' I6 d=>?_) w)
 obtain⟨a,d,ha⟩:=d
 have y:C≠a:=by
  rcases ha with rfl|ha
  .exact F
  .exact(E _ _ ha).symm
 exact⟨m,O.sameBut d y,λab f=>⟨_,_,I6.turned (t':=s'.toks) (it:=C) (λb o T e=>(f.2 b T).trans e) Y F (.inr W) E U,q⟩⟩
end
end L2
namespace WD
open PySem L2 PySem.Spec PyProof.Rows TB
noncomputable abbrev Pl:=List (Str×Option Int)
noncomputable def X8:Option Int->V
|none=>.non
|some i=>.int i
noncomputable def jD(p:Str×Option Int):List V:=[.str p.1,X8 p.2]
noncomputable def gR(b:Addr)(H:Hp)(l:Addr)(rows:List (List V)):Prop:=l≠b/\∃as:List Addr,H l=some (.lst (as.map V.ref))/\as.length=rows.length/\∀(i:Nat)a r,as[i]?=some a->rows[i]?=some r->a≠b/\H a=some (.tup r)
theorem gR.same    (s:Zh b H H')(h:gR b H l rows):gR b H' l rows:=by obtain⟨n,as,e,c,r⟩:=h;exact⟨n,as,s _ _ e n,c,λi a q f d=>let ⟨x,y⟩:=r i a q f d;⟨x,s _ _ y x⟩⟩
theorem gR.at    (h:gR b H l rows){i:Nat}{r:List V}(c:rows[i]?=some r):∃a,a≠b/\H a=some (.tup r)/\∃as:List Addr,H l=some (.lst (as.map V.ref))/\as[i]?=some a/\as.length=rows.length:=by
 obtain⟨n,as,e,d,q⟩:=h;have f:i<as.length:=by rw[d];exact(aj.mp c).1
 obtain⟨x,y⟩:=q i as[i] r (gE f) c;exact⟨as[i],x,y,as,e,gE f,d⟩
theorem Zv.lD {b q:Addr}(h:Zv H b)(n:q≠b):Zv (upd H q o) b:=by obtain⟨x,y,z,e⟩:=h;exact⟨x,y,z,by rw[Zf n.symm];exact e⟩
theorem XU{b q:Addr} (s:Zh b H e)(s4:Zh b H f)(g:q≠b)(d:f q=none):Zh b H (upd e q o):=λc u h a=>by
 have:c≠q:=λz=>by rw[z]at h a;rw[s4 _ _ h a]at d;cases d
 rw[Zf this];exact s c u h a
structure Rd where
 nm:Str
 st:Str
 lv:Int
 gl:Str
 cm:Int
 se:Int
noncomputable def mX(r:Rd):List V:=[.str r.nm,.str r.st,.int r.lv,.str r.gl,.int r.cm,.int r.se]
structure Wy where
 nm:Str
 st:Str
 gl:Str
 lo:Int
 wi:Int
noncomputable def mU(r:Wy):List V:=[.str r.nm,.str r.st,.str r.gl,.int r.lo,.int r.wi]
structure Gr where
 nm:Str
 pl:Str
 tu:Int
 ma:Int
noncomputable def lB(r:Gr):List V:=[.str r.nm,.str r.pl,.int r.tu,.int r.ma]
structure Ends(ps:Pl)(s g:Str):Prop where
 st:∃i,(s,some i)∈ps
 gl:∃r,(g,r)∈ps
 ne:s≠g
structure uU(n:Int)(ps:Pl)(r:Rd):Prop where
 ends:Ends ps r.st r.gl
 xZ:0<=r.lv
 xY:r.lv<=n-1
 yP:r.lv+1<=r.cm
 yO:r.cm<=n
 xk:0<=r.se
 xj:r.se<=1000
structure uT(ps:Pl)(r:Wy):Prop where
 ends:Ends ps r.st r.gl
 x8:1<=r.lo
 lo1:r.lo<=50
 wH:0<=r.wi
 wG:r.wi<=1000
theorem Xg{i lo a:Int}(c:lo<=i)(b:i<=a):K1.Zy (.int i) lo a=true:=by show(decide (lo<=i)&&decide (i<=a))=true;simp[c,b]
end WD
namespace L2
open PySem PySem.W PySem.Spec PyProof.Rows
section
variable {X:Cx}
noncomputable def Kl:R2:=λx y H Q=>∃(a b:Addr)(xs ys:List V),x=.ref a/\y=.ref b/\H a=some (.tup xs)/\H b=some (.tup ys)/\xs.length+ys.length<=sizeLine /\(xs=[]->Q (.ref b) H)/\(ys=[]->Q (.ref a) H)/\(∀p,H p=none->Q (.ref p) (upd H p (.tup (xs++ys))))
theorem XJ:lV X (eI .Add) Kl:=by
 intro pins s σ H x y v u Q I o l h;obtain⟨a,b,xs,A,rfl,rfl,w,r,hz,F,E,D⟩:=h;by_cases g:xs=[]
 .cases o;cases l;obtain⟨c,C,p1,_⟩:=I.tuple (hO.of w);obtain⟨f,L,p2,_⟩:=I.tuple (hO.of r);obtain⟨⟨cls,J,data,B⟩,p,q,n,hd⟩:=id p1;obtain⟨⟨z,j,data2,i⟩,d,e,G,hd2⟩:=id p2;simp only at q hd e hd2;subst q hd e hd2;have h0:c=[]:=C.ow.mpr g;exact concat_meets ⟨_,p,rfl⟩ ⟨_,d,rfl⟩ noFill_tuple_add seq_tuple_add gD gv (gi _ _) (tuple_addW0 a b c.toArray f.toArray n G J j B i (by simp[h0])) ⟨p,d,⟨.ref b,H,I,rfl,F g⟩⟩
 .exact Dt pins s σ H _ _ v u Q I o l ⟨a,b,xs,A,rfl,rfl,hO.of w,hO.of r,g,hz,E,λ_=>D⟩
noncomputable def vn(neg:Bool)(K:ae):R2:=λx y H Q=>∃a b xs,x=.ref a/\y=.ref b/\gp K H a xs/\H b=some (.lst [])/\Q (.bl (if neg then !decide (xs=[])else decide (xs=[]))) H
theorem PQ(G:X.A.units+64<cLine):lV X (bE .Eq) (vn false X.K):=by
 intro pins s σ H x y v u Q I B r h;obtain⟨a,b,xs,rfl,rfl,D,C,q⟩:=h;cases B;cases r;obtain⟨g,i,p1,_⟩:=I.list D;obtain⟨_,p,F,f,_,E⟩:=I.rV C;have d:=f.zero;subst d;have l:s.heap.IsList b #[]:=⟨_,E,rfl,_,rfl⟩;have n:=i.length;by_cases c:xs=[]
 .subst c;have o:=i.zero;subst o;refine SeqAt.RcAt.lists (A:=X.A) (s:=s) (e:=λ_=>true) p1.isList l rfl (by omega) (λj o d=>by simp at d) X.prog X.w X.xe (EP X pins σ Q) ⟨.bl true,H,I,rfl,?_⟩;simpa using q
 .refine SeqAt.RcAt.lists_lengths (A:=X.A) (s:=s) p1.isList l ?_ (by omega) X.prog X.w X.xe (EP X pins σ Q) ⟨.bl false,H,I,rfl,?_⟩
  .have:g.length≠0:=by rw[<-n];intro z;exact c (List.length_eq_zero_iff.mp z)
   simpa using λz=>c (by subst z;simpa using n)
  .simpa[c]using q
noncomputable def XF(xs ys:List V):Bool:=(a_ (min xs.length ys.length)).all (λj=>rJ (xs.getD j .non) (ys.getD j .non))&&xs.length==ys.length
theorem Ln (h:JX x=true):rJ x x=true:=by
 cases x with
|bl b=>simp[rJ]
|int i=>simp[rJ]
|str z=>simp[rJ]
|non=>rfl
|_=>cases h
theorem QR{xs:List V}(h:xs.all JX=true):XF xs xs=true:=by
 unfold XF;rw[Bool.and_eq_true];refine⟨?_,by simp⟩;rw[bW]at h ⊢;intro j b;rw[bq]at b;have a:j<xs.length:=by omega
 refine Ln (h _ ?_);rw[aO,gE a];exact aB a
noncomputable def rowAt(H:Hp)(v:Value):List V:=match v with
|.ref c=>match H c with
 |some (.tup r)=>r
 |_=>[]
|_=>[]
noncomputable def Dg:R2:=λx y H Q=>∃(a l:Addr)(xs:List V)(as:List Addr)(rows:List (List V)),x=.ref a/\y=.ref l/\H a=some (.tup xs)/\xs.all JX=true/\H l=some (.lst (as.map V.ref))/\as.length=rows.length /\(∀(i:Nat)c r,as[i]?=some c->rows[i]?=some r->H c=some (.tup r)/\r.all JX=true)/\Q (.bl (rows.any λr=>XF r xs)) H
theorem Pr{H:Hp}:∀{as:List Addr}{rows:List (List V)},as.length=rows.length->(∀(i:Nat)c r,as[i]?=some c->rows[i]?=some r->H c=some (.tup r)/\r.all JX=true) ->(as.map Value.ref).any (λu=>XF (rowAt H u) xs)=rows.any λr=>XF r xs
|[],[],_,_=>rfl
|[],_::_,h,_=>by cases h
|_::_,[],h,_=>by cases h
|a::as,r::rows,h,b=>by
  rw[aA,gB,gB,Pr (as:=as) (rows:=rows) (by simpa using h) λi c q f d=>b (i+1) c q (by simpa using f) (by simpa using d)];have:=(b 0 a r rfl rfl).1;have e:rowAt H (.ref a)=r:=by unfold rowAt;dsimp only;rw[this]
  rw[e]
theorem Sh:∀{as:List Addr}{us:List Value},Vals (as.map V.ref) us->us=as.map Value.ref
|[],_,r=>by cases r;rfl
|a::as,_,r=>by
  cases r with
 |cons c b=>cases c;rw[Sh b];rfl
theorem G5(hu:X.A.units+64<cLine):lV X (bE .In) Dg:=by
 intro pins s σ H x y v u Q I R P h;obtain⟨a,l,xs,as,rows,rfl,rfl,L,M,Y,len,G,q⟩:=h;cases R;cases P;obtain⟨ab,S,p,hz⟩:=I.list (gp.of Y);have Z:=Sh S;subst Z;obtain⟨F,n,W,za⟩:=I.tuple (hO.of L);have key:∀c r,H c=some (.tup r)->r.all JX=true->SeqAt.EqAt X.A.in1 s (.ref c) (.ref a) (XF r xs):=λc r f fr=>by
  by_cases e:c=a
  .subst e;rw[L]at f;cases f;rw[QR M];exact SeqAt.EqAt.same _
  .obtain⟨E,rc,pc,zc⟩:=I.tuple (hO.of f);have z:=SeqAt.RcAt.tuples (A:=X.A.in1) (s:=s) (e:=λj=>rJ (r.getD j .non) (xs.getD j .non)) pc W (by show X.A.units+1<cLine;omega) (λj g o=>by
    have d:j<r.length:=by rw[rc.length];simpa using g
    have b:j<xs.length:=by rw[n.length];simpa using o
    obtain⟨D,e1,U⟩:=rc.get (gE d);obtain⟨u2,e2,T⟩:=n.get (gE b);have f1:JX r[j]=true:=bW.mp fr _ (aB d);have f2:JX xs[j]=true:=bW.mp M _ (aB b);have g1:r.getD j .non=r[j]:=by rw[aO,gE d];rfl
    have g2:xs.getD j .non=xs[j]:=by rw[aO,gE b];rfl
    have O:E.toArray[j]=D:=by have:E[j]?=some D:=e1;rw[aj]at this;simpa using this.2
    have N:F.toArray[j]=u2:=by have:F[j]?=some u2:=e2;rw[aj]at this;simpa using this.2
    rw[g1,g2,O,N];exact Hs U T f1 f2);rw[aw,aw,<-rc.length,<-n.length]at z;exact SeqAt.EqAt.of_refs e z
 refine SeqAt.in_listAt (λu=>XF (rowAt H u) xs) p.isList (λw hw=>?_) ⟨.bl _,H,I,rfl,?_⟩
 .have B:w∈as.map Value.ref:=by simpa using hw
  obtain⟨c,f,rfl⟩:=ao.mp B;obtain⟨i,J⟩:=aJ.mp f;have C:i<rows.length:=by rw[<-len];exact(aj.mp J).1
  obtain⟨g,o⟩:=G i c _ J (gE C);have e:rowAt H (.ref c)=rows[i]:=by unfold rowAt;dsimp only;rw[g]
  rw[e];exact key c _ g o
 .have:(as.map Value.ref).toArray.any (λu=>XF (rowAt H u) xs)=rows.any λr=>XF r xs:=by rw[<-Pr len G];simp
  rw[this];exact q
end
end L2
namespace L2
open PySem PySem.Spec PyProof.Rows
section
variable {X:Cx}
noncomputable def xC:R2:=λx y H Q=>∃d e,Is H x d/\Is H y e/\bG d=true/\bG e=true/\Q (.bl (PyData.eqv d e)) H
theorem G7(g:X.A.units+64<cLine):lV X (bE .Eq) xC:=by intro pins s σ H x y v u Q I b a h;obtain⟨d,e,j,i,s1,s2,q⟩:=h;obtain⟨as,f⟩:=j.reads I.hL b;obtain⟨bs,c⟩:=i.reads I.hL a;exact SeqAt.compareEq_shaped f c s1 s2 g ⟨.bl _,H,I,rfl,q⟩
noncomputable def xw:R2:=λx y H Q=>∃d e,Is H x d/\Is H y e/\bG d=true/\bG e=true/\Q (.bl (!PyData.eqv d e)) H
theorem Q4(g:X.A.units+64<cLine):lV X (bE .NotEq) xw:=by intro pins s σ H x y v u Q I b a h;obtain⟨d,e,j,i,s1,s2,q⟩:=h;obtain⟨as,f⟩:=j.reads I.hL b;obtain⟨bs,c⟩:=i.reads I.hL a;exact SeqAt.compareNe_shaped f c s1 s2 g ⟨.bl _,H,I,rfl,q⟩
end
end L2
namespace WD
open PySem L2 PySem.Spec PyProof.Rows TB
noncomputable def pO:Nat->Nat
|1=>2|2=>6|3=>5|_=>4
noncomputable def PY:Nat->Nat
|1=>14|2=>80|3=>40|_=>300
noncomputable def Yu:Nat->Str
|1=>"places"|2=>"rides"|3=>"ways"|_=>"groups"
noncomputable def gJ(j:Nat):Bool:=decide (j=4)
noncomputable abbrev Kv:=List (Key×V)
noncomputable def rL(j:Nat)(k1:Kv)(n pp:Int)(ys:List V):V:=match j with
|1=>YB (at_ ys 1)
|2=>Kh k1 n ys
|3=>vd k1 ys
|_=>UO k1 n pp ys
noncomputable def pA(j:Nat)(k1:Kv)(n pp:Int)(f5:Kv)(r:Option (List V)):V:=if jZ (gJ j) (pO j) f5 r≠.non then jZ (gJ j) (pO j) f5 r else match r with
 |some ys=>rL j k1 n pp ys
 |none=>.str "form"
noncomputable def JV(j:Nat)(k1:Kv)(n:Int):Nat->Int->Kv->List (V×Option (List V))->Sum (Nat×V) Kv
|_,_,f5,[]=>.inr f5
|i,pp,f5,(x,r)::rs=>if pA j k1 n pp f5 r≠.non then .inl (i,pA j k1 n pp f5 r)else match r with
 |some ys=>JV j k1 n (i+1) (pp+ZM ys) (putK f5 (.inr (nameOf ys)) (if j=1 then at_ ys 1 else x)) rs
 |none=>.inl (i,.str "form")
theorem Vq{j:Nat}{n pp:Int} (h:jZ (gJ j) (pO j) a r≠.non):pA j k1 n pp a r=jZ (gJ j) (pO j) a r:=by unfold pA;rw[if_pos h]
theorem Xr{j:Nat}{n pp:Int}{a:List V}(h:jZ (gJ j) (pO j) b (some a)=.non):pA j k1 n pp b (some a)=rL j k1 n pp a:=by unfold pA;rw[if_neg (λz=>z h)]
theorem Vo{j:Nat}{n:Int}{i:Nat}{pp:Int}{x:V}{rs:List (V×Option (List V))}(h:pA j k1 n pp a r≠.non):JV j k1 n i pp a ((x,r)::rs)=.inl (i,pA j k1 n pp a r):=by unfold JV;rw[if_pos h]
theorem Ub{j:Nat}{n:Int}{i:Nat}{pp:Int}{x:V}{a:List V}{rs:List (V×Option (List V))}(h:pA j k1 n pp b (some a)=.non):JV j k1 n i pp b ((x,some a)::rs)=JV j k1 n (i+1) (pp+ZM a) (putK b (.inr (nameOf a)) (if j=1 then at_ a 1 else x)) rs:=by
 conv=>lhs;unfold JV
 rw[if_neg (λz=>z h)]
theorem Mi{g:Bool}{m:Nat}{why:List V->V}{j:Nat}{n:Int}(e:gJ j=g)(hm:pO j=m)(d:j≠1)(hw:∀pp c,rL j k1 n pp c=why c):∀(rs:List (V×Option (List V)))(i:Nat)(pp:Int)(a:Kv),JD g m why i a rs=JV j k1 n i pp a rs
|[],_,_,_=>rfl
|(x,r)::rs,i,pp,a=>by
  subst e hm;by_cases b:jZ (gJ j) (pO j) a r=.non
  .cases r with
  |none=>cases b
  |some c=>
    rw[Tn b];by_cases h:why c=.non
    .rw[if_neg (λz=>z h),Ub (by rw[Xr b,hw];exact h),if_neg d];exact Mi rfl rfl d hw rs _ _ _
    .rw[if_pos h,Vo (by rw[Xr b,hw];exact h),Xr b,hw]
  .rw[Ke b,Vo (by rw[Vq b];exact b),Vq b]
theorem Ml {n:Int}:∀(rs:List (V×Option (List V)))(i:Nat)(pp:Int)(a:Kv),X0 k1 n i pp a rs=JV 4 k1 n i pp a rs
|[],_,_,_=>rfl
|(x,r)::rs,i,pp,a=>by
  by_cases b:jZ true 4 a r=.non
  .cases r with
  |none=>cases b
  |some d=>
    have c:jZ (gJ 4) (pO 4) a (some d)=.non:=b;rw[Qe b];by_cases h:UO k1 n pp d=.non
    .rw[if_neg (λz=>z h),Ub (by rw[Xr c];exact h),if_neg (by decide)];exact Ml rs _ _ _
    .rw[if_pos h,Vo (by rw[Xr c];exact h),Xr c];rfl
  .have c:jZ (gJ 4) (pO 4) a r≠.non:=b;rw[Vo (by rw[Vq c];exact b),Vq c];unfold X0;rw[if_pos b];rfl
theorem Mj {n:Int}:∀(xs:List V)(rs:List (Option (List V)))(i:Nat)(pp:Int)(a:Kv),xs.length=rs.length->Jn i a rs=JV 1 k1 n i pp a (xs.zip rs)
|[],[],_,_,_,_=>rfl
|[],_::_,_,_,_,h=>by cases h
|_::_,[],_,_,_,h=>by cases h
|x::xs,r::rs,i,pp,a,f=>by
  rw[iH];by_cases b:jZ false 2 a r=.non
  .obtain⟨e,y,rfl,g,h0⟩:=LL b;have c:jZ (gJ 1) (pO 1) a (some e)=.non:=b;obtain⟨x0,room,rfl⟩:=m6 g;have d:x0=.str y:=h0;subst d;conv=>lhs;unfold Jn
   rw[if_neg (λz=>z b)];dsimp only;by_cases h:YB room=.non
   .rw[if_neg (λz=>z h),Ub (by rw[Xr c];exact h),if_pos rfl];exact Mj xs rs _ _ _ (by simpa using f)
   .rw[if_pos h,Vo (by rw[Xr c];exact h),Xr c];rfl
  .have c:jZ (gJ 1) (pO 1) a r≠.non:=b;rw[QY b,Vo (by rw[Vq c];exact b),Vq c];rfl
noncomputable def zR(j:Nat)(k1:Kv)(n:Int):List V->List (Option (List V))->Sum (Nat×V) Kv:=match j with
|1=>A1
|2=>A0 k1 n
|3=>AZ k1
|_=>A2 k1 n
theorem Hl{j:Nat}(a:j=1\/j=2\/j=3\/j=4){n:Int}{xs:List V}{rs:List (Option (List V))}(h:xs.length=rs.length):zR j k1 n xs rs=JV j k1 n 0 0 [] (xs.zip rs):=by
 rcases a with rfl|rfl|rfl|rfl
 .exact Mj xs rs _ _ _ h
 .exact Mi (j:=2) (k1:=k1) (n:=n) rfl rfl (by decide) (λ_ _=>rfl) _ _ _ _
 .exact Mi (j:=3) (k1:=k1) (n:=n) rfl rfl (by decide) (λ_ _=>rfl) _ _ _ _
 .exact Ml _ _ _ _
noncomputable def Ut(k1:Kv)(t1:List (List V)):Prop:=∀p∈t1,f' k1 (.inr (nameOf p))=some (at_ p 1)
structure lT(k1:Kv)(t1:List (List V)):Prop where
 has:Ut k1 t1
 no:∀z,z∉t1.map nameOf->f' k1 (.inr z)=none
noncomputable def Flat(y:V):Prop:=y=.non\/(∃i,y=.int i)\/∃z,y=.str z/\z.length<=1000
structure kj(j:Nat)(n:Int)(t1:List (List V))(ys:List V):Prop where
 len:ys.length=pO j
 nm:Yb (gJ j) (at_ ys 0)=true
 why:∀k1,(j≠1->Ut k1 t1)->∀pp,(j=4->pp+ZM ys<=300)->rL j k1 n pp ys=.non
 ma:j=4->0<=ZM ys
 flat:∀y∈ys,Flat y
structure uN(j:Nat)(n:Int)(t1 t:List (List V)):Prop where
 nd:(t.map nameOf).Nodup
 row:∀ys∈t,kj j n t1 ys
 sum:j=4->(t.map ZM).sum<=300
theorem Fn  (h:Yb g v=true):∃z,v=.str z:=by unfold Yb at h;split at h<;>(unfold K1.V8 at h;cases v<;>first|exact⟨_,rfl⟩|(exfalso;simp at h))
theorem kj.name{j:Nat}{n:Int} (h:kj j n t1 a):a.getD 0 .non=.str (nameOf a):=by obtain⟨z,e⟩:=Fn h.nm;have b:a.getD 0 .non=.str z:=e;unfold nameOf;rw[b]
theorem QF:∀{l:List Int},(∀x∈l,0<=x)->0<=l.sum
|[],_=>by simp
|x::l,h=>by rw[gA];have:=h x ay;have:=QF (l:=l) λy a=>h y (ar _ a);omega
theorem DV{j:Nat}{n:Int}(hk:j≠1->Ut k1 t1){rest:List (V×Option (List V))}:∀(t:List (List V))(xs:List V)(i:Nat)(pp:Int)(c:Kv),xs.length=t.length->(t.map nameOf).Nodup->(∀f∈t,kj j n t1 f)->(j=4->pp+(t.map ZM).sum<=300)->(∀f∈t,f' c (.inr (nameOf f))=none) ->∃a,JV j k1 n i pp c (xs.zip (t.map some)++rest)=JV j k1 n (i+t.length) (pp+(t.map ZM).sum) a rest/\(∀z,z∉t.map nameOf->f' a (.inr z)=f' c (.inr z))/\(j=1->Ut a t)/\(∀f∈t,f' a (.inr (nameOf f))≠none)/\(j≠1->∀(m:Nat)y x,t[m]?=some y->xs[m]?=some x->f' a (.inr (nameOf y))=some x):=by
 intro t;induction t with
|nil=>
  intro xs i pp c s _ _ _ _;cases xs with
 |nil=>exact⟨c,by simp,λ_ _=>rfl,λ_ p hp=>(by cases hp),λp hp=>(by cases hp),λ_ m y x h=>by simp at h⟩
 |cons _ _=>cases s
|cons y t J=>
  intro xs i pp c s r C N D;cases xs with
 |nil=>cases s
 |cons x xs=>
  have o:=C y ay;have I:=D y ay;have b:jZ (gJ j) (pO j) c (some y)=.non:=by show pC _ _ _ _=_;unfold pC;rw[if_neg (λz=>z o.len),show Yb (gJ j) (y.getD 0 .non)=true from o.nm,if_neg (by decide),o.name];rw[show ZR (.str (nameOf y)) c=false from by show(f' c _).isSome=false;rw[I];rfl,if_neg (by decide)]
  rw[aA,bf]at r;have B:∀f∈t,kj j n t1 f:=λq d=>C q (ar _ d);have g:j=4->pp+ZM y+(t.map ZM).sum<=300:=λe=>by have:=N e;rw[aA,gA]at this;omega
  have L:j=4->pp+ZM y<=300:=λe=>by
   have:=g e;have:=QF (l:=t.map ZM) λx M=>by obtain⟨q,d,rfl⟩:=ao.mp M;exact(B q d).ma e
   omega
  have hw:rL j k1 n pp y=.non:=o.why k1 hk pp L;have F:∀q∈t,nameOf q≠nameOf y:=λq d e=>r.1 (e▸ao.mpr ⟨q,d,rfl⟩);obtain⟨a,R,E,Q,P,O⟩:=J xs (i+1) (pp+ZM y) (putK c (.inr (nameOf y)) (if j=1 then at_ y 1 else x)) (by simpa using s) r.2 B g (λq d=>by rw[YW,if_neg (λe=>F q d (by injection e))];exact D q (ar _ d));have w:f' a (.inr (nameOf y))=some (if j=1 then at_ y 1 else x):=by rw[E _ r.1,YW,if_pos rfl]
  refine⟨a,?_,λz hz=>?_,λe p hp=>?_,λp hp=>?_,λA m G H v u=>?_⟩
  .rw[aA,iH,List.cons_append,Ub (by rw[Xr b];exact hw),R,aA,gA,aR];congr 1<;>omega
  .rw[aA,au,not_or]at hz;rw[E z hz.2,YW,if_neg (λe=>hz.1 (by injection e))]
  .rcases au.mp hp with rfl|hp
   .rw[w,if_pos e]
   .exact Q e p hp
  .rcases au.mp hp with rfl|hp
   .rw[w];exact λz=>by cases z
   .exact P p hp
  .cases m with
  |zero=>simp at v u;subst v u;rw[w,if_neg A]
  |succ m=>exact O A m G H (by simpa using v) (by simpa using u)
noncomputable def RN(j:Nat)(n:Int)(t1 t:List (List V)):Prop:=t.length<=PY j/\uN j n t1 t
section
variable {j:Nat}{k1:Kv}{n:Int}{t1:List (List V)}
theorem Tu(f:j=1\/j=2\/j=3\/j=4)(hk:j≠1->Ut k1 t1)(h:RN j n t1 t){xs:List V}(b:xs.length=t.length):∃a,KC (PY j) (zR j k1 n) (some (xs,t.map some))=.inr a/\(j=1->lT a t)/\(∀z,z∉t.map nameOf->f' a (.inr z)=none)/\(j≠1->∀(m:Nat)y x,t[m]?=some y->xs[m]?=some x->f' a (.inr (nameOf y))=some x):=by obtain⟨l,d,row,sum⟩:=h;obtain⟨a,e,c,i,_,g⟩:=DV (k1:=k1) (n:=n) hk (rest:=[]) t xs 0 0 [] b d row (λe=>by have:=sum e;omega) (λ_ _=>rfl);refine⟨a,?_,λe=>⟨i e,λz hz=>c z hz⟩,λz hz=>c z hz,g⟩;unfold KC;simp only;rw[if_neg (by omega),Hl f (by rw[b,lm])];rw[ba]at e;rw[e];rfl
end
structure Tb where
 n:Int
 t1:List (List V)
 t2:List (List V)
 t3:List (List V)
 t4:List (List V)
noncomputable def Tb.part(T:Tb):Nat->List (List V)
|1=>T.t1|2=>T.t2|3=>T.t3|_=>T.t4
structure hI(T:Tb):Prop where
 n0:1<=T.n
 n1:T.n<=50
 part:∀j,j=1\/j=2\/j=3\/j=4->RN j T.n T.t1 (T.part j)
noncomputable def vq(xs:List V)(t:List (List V)):PR:=some (xs,t.map some)
structure oI(k:Kv)(t:List (List V))(xs:List V):Prop where
 at_:∀(m:Nat)y x,t[m]?=some y->xs[m]?=some x->f' k (.inr (nameOf y))=some x
 no:∀z,z∉t.map nameOf->f' k (.inr z)=none
structure uL(T:Tb)(x2 x3 x4:List V)(k:Ks):Prop where
 p:lT k.1 T.t1
 r:oI k.2.1 T.t2 x2
 w:oI k.2.2.1 T.t3 x3
 g:oI k.2.2.2 T.t4 x4
end WD
namespace L2
open PySem PySem.Spec PyProof.Rows
structure qU(K:ae)(C:Addr)(m:Str)(f:Addr):Prop where
 ga:fg K (.ref C) "__getattribute__"=some (some (.builtin "type.__getattribute__"))
 rd:∃mc,PySem.W.readsIn K C mc=true/\PySem.W.findCls K (.ref C) mc m=some (.val (.ref f))
 kp:a7 K (.ref f)=true
theorem Gh  {k:Nat}        {e o:Expr}{a:List Expr} (he:PE X o (tC (.ref C)))(hm:qU X.K C m f)(F:jR X.prog X.w X.K X.mg X.base CX k f fd ps sp)(y:jw k X.A)(z:Binds X.K fd ps ds)(hd:Vals dvs ds)(n:Passes CX X E)(B:PA X (e::a) t)
  (c:aH (e::a) X.env=(false,eval e X.env)::aH a X.env:=by rfl) (d:(cy pos (aH a X.env)).any (·.1)=false:=by rfl)
  (p:eval (.Call (.Attribute o m apos) (e::a) [] pos) X.env=(do
   let g <-eval o X.env
   iS apos.atName
   let (f,first) <-fT [g] (gy g m pl)
   iL pos f first (cy pos (aH (e::a) X.env)) (fB pos (dq [] X.env))):=by rfl):
  PE X (.Call (.Attribute o m apos) (e::a) [] pos) (MN sp dvs E t):=by
 intro pins s σ H Q I h
 obtain⟨mc,G,D⟩:=hm.rd
 refine ft (pl:=pl) (he pins s σ H (λv H1=>v=.ref C/\H1=H) I ⟨rfl,rfl⟩ |> λq=>hU q λu s1 hZ=>?_) p;obtain⟨x,H1,b,j,ex,J⟩:=hZ
 subst ex
 subst J
 obtain rfl:u=Value.ref C:=j
 refine PySem.W.method_cls b.kT hm.ga (PySem.W.cls_value b.kT G D rfl ?_)
 refine dC (first:=[]) (h₀:=X.base) I.ok.mod.tX hm.kp (hU (B pos pins _ σ H1 _ (b.tok _) h) λus s2⟨vs,L,i,r,l⟩=>⟨i.kT,?_⟩) c d
 exact ND F y z hd n i r l
section
variable {X:Cx}
noncomputable def w_(t:TS):TS:=λD σ H=>∃M:L2.St->Hp->Prop,t {D with nx:=M} σ H/\∀mK H',M mK H'->D.nx mK H'
theorem Kt{st:Stmt}{t:TS}(h:PS X st t):PS X st (w_ t):=by
 intro pins s σ H D I ⟨M,q,k⟩;refine hU (h pins s σ H _ I q) λb s' z=>?_;cases b with
|next=>obtain⟨a,H',c,m⟩:=z;exact⟨a,H',c,k _ _ m⟩
|brk=>exact z
|cont=>exact z
|ret u=>exact z
noncomputable def rp:Expr->Option V
|.Constant (.str x) _ _=>some (.str x)
|.Constant (.int n) _ _=>some (.int n)
|.Constant .none _ _=>some .non
|_=>none
noncomputable def xa(vs:List V):TA:=λ_ H Q=>Q vs H
theorem Fh {v:V}(h:rp e=some v):PE X e (tC v)/\notStar e=true:=by
 unfold rp at h;split at h
 .cases h;exact⟨ZC,rfl⟩
 .cases h;exact⟨Zb,rfl⟩
 .cases h;exact⟨ZJ,rfl⟩
 .cases h
theorem Xq:∀{a:List Expr},(a.all λe=>(rp e).isSome)=true->PA X a (xa (a.filterMap rp))
|[],_=>Zl
|e::a,h=>by
  rw[List.all_cons,Bool.and_eq_true]at h;obtain⟨v,b⟩:=bw.mp h.1;obtain⟨c,ns⟩:=Fh (X:=X) b;have:=Zg c (Xq h.2) ns;have d:xa ((e::a).filterMap rp)=Y7 (tC v) (xa (a.filterMap rp)):=by rw[dw,b];rfl
  rw[d];exact this
end
theorem J1{X:Cx}(G:X.A.units+64<cLine):lV X (bE .NotEq) (vn true X.K):=by
 intro pins s σ H x y v u Q I p o h;obtain⟨a,b,xs,rfl,rfl,C,B,q⟩:=h;cases p;cases o;obtain⟨E,g,p1,_⟩:=I.list C;obtain⟨_,n,F,f,_,D⟩:=I.rV B;have d:=f.zero;subst d;have i:s.heap.IsList b #[]:=⟨_,D,rfl,_,rfl⟩;have r:=g.length;by_cases c:xs=[]
 .subst c;have l:=g.zero;subst l;refine SeqAt.RcNeAt.lists (A:=X.A) (s:=s) (e:=λ_=>true) p1.isList i rfl (by omega) (λj l d=>by simp at d) X.prog X.w X.xe (EP X pins σ Q) ⟨.bl false,H,I,rfl,?_⟩;simpa using q
 .refine SeqAt.RcNeAt.lists_lengths (A:=X.A) (s:=s) p1.isList i ?_ (by omega) X.prog X.w X.xe (EP X pins σ Q) ⟨.bl true,H,I,rfl,?_⟩
  .simpa using λz=>c (by subst z;simpa using r)
  .simpa[c]using q
end L2
namespace WD
open PySem L2 PySem.Spec PyProof.Rows TB K1
noncomputable def Nx(t:Str):Prop:=(codes t).length<=8/\(∃c r,codes t=c::r/\c∈nB)/\∀c∈codes t,c∈nB++ub
theorem KS (h:Nx t):Yb false (.str t)=true:=by
 obtain⟨f,⟨c,r,e,a⟩,b⟩:=h;show K1.Jq 8 (K1.codes K1.kO) (codes t)=true;unfold K1.Jq K1.YT K1.og;rw[K1.Aw];simp only[Bool.and_eq_true,decide_eq_true_eq,bW];refine⟨⟨⟨by rw[e,aR];omega,by omega⟩,λd hd=>?_⟩,?_⟩
 .exact bj _ (b d hd)
 .rw[e];exact a
noncomputable def nX:List Str:=["",".a","."]
theorem QG:∀s∈nX,(codes s).length<=2/\(∀c∈codes s,c∈nB++K1.ub++[46])/\((codes s).head?.map λc=>decide (c=46))≠some false:=by decide +kernel
theorem Hn{t s:Str}(h:Nx t)(a:s∈nX):Yb true (.str (t++s))=true:=by
 obtain⟨g,⟨c,r,e,b⟩,f⟩:=h;obtain⟨s1,s2,_⟩:=QG s a;show K1.Jq 12 (K1.codes K1.jV) (codes (t++s))=true;unfold K1.Jq K1.YT K1.og;rw[K1.HE,Xn];simp only[Bool.and_eq_true,decide_eq_true_eq,bW,aq];refine⟨⟨⟨by rw[e,aR];omega,by omega⟩,λd hd=>?_⟩,?_⟩
 .rcases aF.mp hd with hd|hd
  .exact bj _ (f d hd)
  .exact s2 d hd
 .rw[e];exact b
theorem Hv:46∉nB++ub:=by decide +kernel
theorem RS{t s:Str}(h:Nx t)(a:s∈nX):(codes (t++s)).takeWhile (λc=>decide (c≠46))=codes t:=by
 obtain⟨_,_,d⟩:=h;obtain⟨_,_,s3⟩:=QG s a;rw[Xn,List.takeWhile_append_of_pos (p:=λc=>decide (c≠46)) (λc b=>decide_eq_true (λ(z:c=46)=>Hv (z▸d c b)))];cases e:codes s with
|nil=>simp
|cons c r=>
  rw[e]at s3;have:c=46:=by simpa using s3
  rw[List.takeWhile_cons_of_neg (by simp[this]),ba]
theorem LM{t t' s s':Str}(h:Nx t)(h':Nx t')(b:s∈nX)(a:s'∈nX)(e:t++s=t'++s'):t=t':=by have:=congrArg (λz=>(codes z).takeWhile (λc=>decide (c≠46))) e;simp only[RS h b,RS h' a]at this;exact Wg this
noncomputable def qi:List Str:=["ride","home","turns","place","way","group","to","a","out","wait","walk","turn","ab","b"]
noncomputable def mw(a n:Nat):List Str:=(a_ n).map λk=>qi.getD ((a+3*k) % 14) ""
theorem EO:∀a<14,∀n<15,(mw a n).Nodup:=by decide +kernel
theorem EN:∀t∈qi,(codes t).length<=8/\((codes t).head?.map λc=>decide (c∈nB))=some true/\∀c∈codes t,c∈nB++ub:=by decide +kernel
theorem Qy(a n:Nat):∀t∈mw a n,Nx t:=λt d=>by
 obtain⟨k,_,rfl⟩:=ao.mp d;have:(a+3*k) % 14<qi.length:=Nat.mod_lt _ (by decide);rw[aO,gE this];obtain⟨f,b,e⟩:=EN _ (aB this);refine⟨f,?_,e⟩;show ∃c r,codes qi[(a+3*k) % 14]=c::r/\c∈nB;generalize codes qi[(a+3*k) % 14]=l at b;cases l with
|nil=>cases b
|cons c r=>exact⟨c,r,rfl,by simpa using b⟩
theorem ER(a i:Nat):(qi.map V.str)[(a+3*i) % 14]?=some (.str (qi.getD ((a+3*i) % 14) "")):=by have:(a+3*i) % 14<qi.length:=Nat.mod_lt _ (by decide);rw[aY,aO,gE this];rfl
noncomputable def rG(f k:Nat):Nat:=nB.getD ((f+7*k) % 26) 0
theorem R8(f k:Nat):rG f k∈nB:=by have:(f+7*k) % 26<nB.length:=Nat.mod_lt _ (by decide);unfold rG;rw[aO,gE this];exact aB this
theorem E1(f i:Nat):(codes K1.nH)[(f+7*i) % 26]?=some (rG f i):=by have:(f+7*i) % 26<nB.length:=Nat.mod_lt _ (by decide);rw[show codes K1.nH=nB from K1.r6,rG,aO,gE this];rfl
theorem EZ:∀f<26,((a_ 26).map (rG f)).Nodup:=by decide +kernel
theorem L5{f x y:Nat}(hf:f<26)(b:x<26)(a:y<26)(e:rG f x=rG f y):x=y:=by
 have c:((a_ 26).map (rG f))[x]'(by simpa using b)=((a_ 26).map (rG f))[y]'(by simpa using a):=by simpa using e
 exact(gH (EZ f hf)).mp c
noncomputable def tF(k:Nat):Str:=Txt.slice "z9" none (some ((k % 3:Nat):Int))
theorem Wh(k:Nat):codes (tF k)=[122,57].take (k % 3):=by unfold tF;rw[Mn _ _ (by omega)];rfl
noncomputable def rT(base:Str)(a f k:Nat):Str:=put base a (rG f k)++tF k
noncomputable def oC(base:Str)(a f n:Nat):List Str:=(a_ n).map (rT base a f)
theorem VM{base:Str}{a:Nat}(h:a<=base.length)(f k:Nat):codes (rT base a f k)=(codes base).take a++(rG f k::((codes base).drop a++[122,57].take (k % 3))):=by unfold rT;rw[Xn,We h,Wh];simp
theorem Km {sz:Nat}(d:Bs sz base)(i:sz<=5){a:Nat}(l:a<=sz)(f n:Nat):∀t∈oC base a f n,Nx t:=λt g=>by
 obtain⟨k,_,rfl⟩:=ao.mp g;have j:base.length=sz:=by rw[<-Z1];exact d.1
 have h:k % 3<3:=Nat.mod_lt _ (by decide);have b:∀c∈codes base,c∈nB++ub:=λc hc=>bj _ (d.2 c hc);have hz:∀c∈([122,57]:List Nat),c∈nB++ub:=by decide +kernel
 unfold Nx;rw[VM (by omega)];refine⟨?_,?_,λc hc=>?_⟩
 .simp only[aq,aR,aN,fz,d.1,eU];omega
 .cases e:(codes base).take a with
 |nil=>exact⟨_,_,rfl,R8 f k⟩
 |cons c r=>exact⟨c,_,rfl,d.2 c (br (e▸ay))⟩
 .simp only[aF,au]at hc;rcases hc with hc|rfl|hc|hc
  .exact b c (br hc)
  .exact bj _ (R8 f k)
  .exact b c (ie hc)
  .exact hz c (br hc)
theorem Kn {sz:Nat}(g:Bs sz base){a:Nat}(l:a<=sz){f n:Nat}(hf:f<26)(i:n<=26):(oC base a f n).Nodup:=by
 have j:base.length=sz:=by rw[<-Z1];exact g.1
 refine nodup_map_on List.nodup_range λx d y c e=>?_;have b:=congrArg codes e;rw[VM (by omega),VM (by omega)]at b;have:=List.append_cancel_left b;injection this with h _;rw[bq]at d c;exact L5 hf (by omega) (by omega) h
end WD
namespace WD
open PySem L2 PySem.Spec PyProof.Rows TB
noncomputable def VS:Sp:=λvs H Q _=>∃(b:Addr)(n:Int),vs=[.ref b,.int n]/\Zv H b/\0<=n/\n<=20/\∀H' l(ts:List Str),Zv H' b->Zh b H H'->H l=none->H' l=some (.lst (ts.map V.str))->l≠b->(ts.length:Int)=n->ts.Nodup->(∀t∈ts,Nx t)->Q (.ref l) H'
theorem vz{x:Int}{k n:Nat}(h:x=k):x % (n:Int)=((k % n:Nat):Int):=by rw[h];rfl
theorem HF{r:Int}(h0:0<=r)(a:r<26):∃c,kZ (codes K1.nH) r=some c/\c∈nB:=by obtain⟨c,h,m⟩:=at_of (xs:=codes K1.nH) h0 (by rw[show codes K1.nH=nB from K1.r6];exact a);rw[show codes K1.nH=nB from K1.r6]at m;exact⟨c,h,m⟩
theorem RJ{α:Type}{xs:List α}{i:Int}{j:Nat}{v:α}(e:i=(j:Int))(h:xs[j]?=some v):kZ xs i=some v:=by rw[e];exact Zj h
theorem WB{b:Addr}{H H1:Hp}{i:Nat}{ts:List Str}{c:Nat}(e:ts.length=i)(h:∀t∈ts,Bs 1 t)(a:c∈nB):(ts++[(⟨#[c]⟩:Str)]).length=i+1/\∀t∈ts++[(⟨#[c]⟩:Str)],Bs 1 t:=by
 refine⟨by simp[e],λt ht=>?_⟩;rcases aF.mp ht with ht|ht
 .exact h t ht
 .rw[aI]at ht;subst ht;exact⟨rfl,λd hd=>by rw[aI.mp hd];exact a⟩
theorem WT:∀(ts:List Str),(∀t∈ts,Bs 1 t)->(ts.map (·.length)).sum=ts.length
|[],_=>rfl
|t::r,h=>by have a:=(h t ay).1;rw[Z1]at a;rw[aA,gA,a,WT r λu b=>h u (ar _ b),aR];omega
theorem JN  (s:Zh b H H1)(a:H1 l=none)(n:l≠b):H l=none:=by
 cases e:H l with
|none=>rfl
|some o=>rw[s _ _ e n]at a;cases a
section
variable {P:Program}{w:World}{K:ae}{mg:Str->Option Value}{base:Heap}
theorem Z8:fx [jE,mR,"_law_letters","_law_words",oN,nZ,"_law_base","_law_first",n_,"_law_sign"] [jE,mR] (Ze T.j5):=jX
noncomputable def J9:Scope:=tG [(".0",.local),(nZ,.local),(oN,.free),("_law_words",.free)]
theorem Uo:jm J9 (Ze T.j5):=⟨rfl,by decide +kernel,by decide +kernel,by decide +kernel⟩
theorem Uq:([nZ,oN,"_law_words"]:List Str).Nodup:=by decide +kernel
theorem Up:ji [jE,mR,"_law_letters","_law_words",oN,nZ,"_law_base","_law_first",n_,"_law_sign"] J9 [nZ,oN,"_law_words"] [none,some 4,some 3]:=.mk' (by decide +kernel)
noncomputable def J8:Scope:=tG [(".0",.local),(nZ,.local),(qo,.globalImplicit),(jE,.free),("_law_letters",.free)]
theorem Uk:jm J8 (Ze T.j5):=⟨rfl,by decide +kernel,by decide +kernel,by decide +kernel⟩
theorem Um:([nZ,jE,"_law_letters"]:List Str).Nodup:=by decide +kernel
theorem Ul:ji [jE,mR,"_law_letters","_law_words",oN,nZ,"_law_base","_law_first",n_,"_law_sign"] J8 [nZ,jE,"_law_letters"] [none,some 0,some 2]:=.mk' (by decide +kernel)
theorem Wm(B:∀x∈jO,mg x=none)(U:hY P w K mg base 1 qo [jE,mR] Xi)(D:Df K mg "_law_names" T.j5 [jE,mR]):hY P w K mg base 2 "_law_names" [jE,mR] VS:=by
 refine D.cn Z8 λf b3 A outer s H vs Q E R h=>?_;obtain⟨b,n,rfl,hb,bT,bM,k⟩:=h;have hsz:n.toNat<=sizeLine:=Nat.le_trans (by omega:n.toNat<=1000) (by decide);refine' ⟨_,(@Za _ _ _ _ _ ?h6 (@Za _ _ _ _ _ ?h7 (@Za _ _ _ _ _ ?h8 (@Za _ _ _ _ _ ?h9 (@Za _ _ _ _ _ ?a0 (@Za _ _ _ _ _ ?aS (@Za _ _ _ _ _ ?N (@Za _ _ _ _ _ ?ak (@Zc _ _ _ ?M))))))))),?rd⟩;case' M=>refine' (Zk (pv 8))
 case' ak=>refine' (ZX aL rfl (Y3 rfl (bm B) (@ju _ _ _ (pv 1) (by rfl))) (jG 5 Z8.nd) (@Za _ _ _ _ _ ?h4 (@Zc _ _ _ ?h5)))
 case' N=>refine' (st 8 Z8.nd ?h3)
 case' aS=>refine' (st 7 Z8.nd (cn U R (@jz _ _ _ _ _ (pv 0) Zb (by rfl))))
 case' a0=>refine' (@YL _ _ 4 _ _ _ _ Z8.nd (by rfl) (by exact gZ rfl) (cn U R (@jz _ _ _ _ _ (pv 0) (Zr ZL (Zw N7 rfl (bm B) aT (@ju _ _ _ (pv 6) (by rfl))) Zb) (by rfl))) (by rfl) (by exact cV rfl))
 case' h9=>refine' (st 6 Z8.nd (Vx PySem.F.plainAttrs_str PySem.F.slot_str_join PySem.F.type_str_join DB ZC (@ju _ _ _ (JF rfl Uk Ul (Y3 rfl (bm B) (@ju _ _ _ (cn U R (@jz _ _ _ _ _ (pv 0) Zb (by rfl))) (by rfl))) (λC s H ex pn=>(jG 0 Um)) (λC s H ex pn=>Gg) (λC s H ex pn=>(Yn NX (pv 2) (cn U R (Zg (pv 1) (Zg Zb Zl))) (λ_ _=>rfl)))) (by rfl))))
 case' h8=>refine' (Kt (@ZA _ _ _ _ _ _ _ _ (PW.pt (UE (@Zo _ _ _ _ _ _ _ _ G4 (pv 1) Zb (Zt _)) (VZ (@Zo _ _ _ _ _ _ _ _ YV (cn U R (@jz _ _ _ _ _ (pv 0) Zb (by rfl))) Zb (Zt _))))) (@Za _ _ _ _ _ ?h1 (@Zc _ _ _ ?h2)) Zn))
 case' h7=>refine' (@YL _ _ 3 _ _ _ _ Z8.nd (by rfl) (by exact gZ rfl) (@ZD _ _ _ _ (@Xq _ _ (by decide +kernel))) (by rfl) (by exact cV rfl))
 case' h6=>refine' (@YL _ _ 2 _ _ _ _ Z8.nd (by rfl) (by exact gZ rfl) ZC (by rfl) (by exact cV rfl))
 case' h5=>refine' (Z9 (Vx bD bu bt YS (pv 8) (@ju _ _ _ (Zr XX (Zr XX (Zr XX (ZQ QL (pv 6) Z4 (Z3 (pv 4))) (pv 9)) (ZQ QL (pv 6) (Z3 (pv 4)) Z4)) (ZQ QL ZC Z4 (Z3 (Zr Xy (pv 5) Zb)))) (by rfl))))
 case' h4=>refine' (st 9 Z8.nd (Yn NX (pv 2) (Zr Xy (Zr ZL (pv 7) (Zr Xk Zb (pv 5))) Zb) (λ_ _=>rfl)))
 case' h3=>refine' (@ZD _ _ _ _ Zl)
 case' h2=>refine' (Zk (JF rfl Uo Up (Y3 rfl (bm B) (@ju _ _ _ (pv 1) (by rfl))) (λC s H ex pn=>(jG 0 Uq)) (λC s H ex pn=>Gg) (λC s H ex pn=>(il K (pv 2) (Zr Xy (Zr ZL (pv 1) (Zr Xk Zb (pv 0))) Zb)))))
 case' h1=>refine' (@YL _ _ 4 _ _ _ _ Z8.nd (by rfl) (by exact gZ rfl) (cn U R (@jz _ _ _ _ _ (pv 0) Zb (by rfl))) (by rfl) (by exact cV rfl))
 case' rd=>
 refine⟨zl,λl hl=>?_⟩;have ag:=hb.ne hl;have e0:upd H l (.lst (qi.map V.str)) l=some (.lst (qi.map V.str)):=Zd;have B0:Zv (upd H l (.lst (qi.map V.str))) b:=hb.new hl;have Y:Zh b H (upd H l (.lst (qi.map V.str))):=(Zh.refl b H).jq hl;show qY _ _ _ _ (upd H l (.lst (qi.map V.str)));generalize upd H l (.lst (qi.map V.str))=H0 at e0 B0 Y ⊢;refine⟨λab H'=>Zv H' b/\Zh b H H'/\ab=[some (.ref b),some (.int n),some (.str K1.nH),some (.ref l),none,none,none,none,none,none],?_,?_⟩
 .refine⟨_,rfl,_,_,rfl,rfl,_,rfl,?_⟩;refine ia (λa5=>?_) (λ_=>?_)
  .refine oz B0 (λr H1 h0 h1 B1 X=>?_);refine⟨rfl,_,rfl,?_⟩;refine ia (λ_=>?_) (λ_=>⟨B1,Y.trans X,rfl⟩);have bb:n<15:=of_decide_eq_true a5;refine oz B1 (λr2 H2 a4 N Z S2=>?_);have hw:H2 l=some (.lst (qi.map V.str)):=S2 _ _ (X _ _ e0 ag) ag;have G:=(Y.trans X).trans S2;refine⟨_,rfl,n,rfl,by omega,by omega,Ur (J:=qS 0 n.toNat) n.toNat hsz
    (λi d a H'=>H'=H2/\d=(mw r2.toNat i).map V.str/\∃v,a=[v,some (.int r2),some (.ref l)]) ⟨rfl,rfl,none,rfl⟩ (λi d a H' p=>?_) (λi d a H' I p=>I) (λd a H' p=>Nat.le_refl _) (λi d a H' x' H3 I p W=>?_) (λd a H' p q y=>?_)⟩
   .obtain⟨_,rfl,_⟩:=p;simp[mw]
   .obtain⟨rfl,rfl,v,rfl⟩:=p;obtain⟨rfl,rfl⟩:=W;refine⟨_,rfl,_,rfl,_,rfl,_,_,rfl,rfl,.inl ⟨by decide,by decide⟩,_,_,rfl,rfl,_,_,rfl,rfl,(by show(0:Int)<14;decide),l,_,_,_,rfl,rfl,gp.of hw,RJ (j:=(r2.toNat+3*i) % 14) (vz (n:=14) (by omega)) (ER _ _),rfl,?_,_,rfl⟩;simp[mw,cJ]
   .obtain⟨rfl,rfl,v,rfl⟩:=p;exact k _ q _ (Z.new y) (G.jq y) (JN G y (Z.ne y)) Zd (Z.ne y) (by simp[mw];omega) (EO _ (by omega) _ (by omega)) (Qy _ _)
  .exact⟨B0,Y,rfl⟩
 .intro ab H1 hM;obtain⟨B1,X,rfl⟩:=hM;clear e0 B0 Y;refine⟨rfl,oz B1 (λsz H2 a4 N Z S2=>?_)⟩;have G:=X.trans S2;refine⟨sz,rfl,by omega,by omega,Ur (J:=qS 0 sz.toNat) sz.toNat (Nat.le_trans (by omega:sz.toNat<=8) (by decide))
    (λi d a H'=>Zv H' b/\Zh b H H'/\(∃ts:List Str,d=ts.map V.str/\ts.length=i/\∀t∈ts,Bs 1 t)/\∃v,a=[v,some (.ref b),some (.str K1.nH)]) ⟨Z,G,⟨[],rfl,rfl,by simp⟩,none,rfl⟩ (λi d a H' p=>?_) (λi d a H' I p=>I) (λd a H' p=>Nat.le_refl _) (λi d a H' x' H3 I p W=>?_) (λd a H' p q y=>?_)⟩
  .obtain⟨_,_,⟨ts,rfl,e,_⟩,_⟩:=p;rw[lm,e];exact Nat.le_refl _
  .obtain⟨L,sm,⟨ts,rfl,e,ho⟩,v,rfl⟩:=p;obtain⟨rfl,rfl⟩:=W;refine⟨_,rfl,oz L (λr4 H4 a3 M B4 S4=>?_)⟩;obtain⟨c,aM,hc⟩:=HF a3 M;obtain⟨g1,g2⟩:=WB (b:=b) (H:=H) (H1:=H) e ho hc;exact⟨_,r4,c,rfl,rfl,by decide +kernel,aM,B4,sm.trans S4,⟨ts++[⟨#[c]⟩],by rw[aG];rfl,g1,g2⟩,_,rfl⟩
  .obtain⟨L,sm,⟨ts,rfl,e,ho⟩,v,rfl⟩:=p;refine⟨_,q,ts,rfl,rfl,gp.of Zd,?_,?_⟩
   .rw[WT _ ho,e];show sz.toNat+sz.toNat*0<=16777216;omega
   have u:Bs ts.length (Txt.join (Str.ofString "") ts):=Bs.join ho;rw[e]at u;have z:(Txt.join (Str.ofString "") ts).length=sz.toNat:=by rw[<-Z1];exact u.1
   have B3:=L.new y (o:=.lst (ts.map V.str));have S3:=sm.jq y (o:=.lst (ts.map V.str));generalize upd H' q (.lst (ts.map V.str))=H3 at B3 S3 ⊢;clear L sm y;generalize Txt.join (Str.ofString "") ts=bs at u z ⊢;dsimp only[Zp,av];have z1:(100:Nat)<=sizeLine:=by decide
   refine⟨_,rfl,_,rfl,_,rfl,by omega,_,_,rfl,rfl,b,_,rfl,B3,?_,ZO ?_ ?_,λat_ H4 b2 ak B4 S4=>?_⟩
   .rw[z];omega
   .rw[z];omega
   .rw[z];omega
   have a6:=S3.trans S4;refine oz B4 (λS H5 b1 b0 B5 S5=>?_);have O:=a6.trans S5;refine⟨Nat.zero_le _,λl2 g=>?_⟩;have l8:=B5.ne g;have n0:=JN O g l8;dsimp only[Zp,av];refine⟨_,rfl,n,rfl,by omega,by omega,?_⟩;refine Yc (J:=qS 0 n.toNat) n.toNat (λi σ H'=>Zv H' b/\Zh b H H'/\H' l2=some (.lst ((oC bs at_.toNat S.toNat i).map V.str))/\∃o5 o9,σ=[some (.ref b),some (.int n),some (.str K1.nH),some (.ref l),some (.int at_),o5,some (.str bs),some (.int S),some (.ref l2),o9]) ⟨B5.new g,O.jq g,Zd,_,_,rfl⟩ (λi σ H' I q=>I) (λσ H' q=>Nat.le_refl _) (λi σ H' v H6 I q W=>?_) (λσ H' q=>?_)
   .obtain⟨L,sm,el,o5,o9,rfl⟩:=q;obtain⟨rfl,rfl⟩:=W;dsimp only[Zp,av];refine td λD' aC=>?_;refine⟨_,rfl,_,rfl,_,rfl,_,_,rfl,rfl,.inl ⟨by decide,by decide⟩,_,_,rfl,rfl,_,_,rfl,rfl,(by show(0:Int)<26;decide),_,_,_,rfl,rfl,by decide +kernel,RJ (j:=(S.toNat+7*i) % 26) (vz (n:=26) (by omega)) (E1 _ _),?_⟩;have e1:=Txt.slice_le bs none (some at_);have e2:=Txt.slice_le bs (some at_) none;have e3:=Txt.slice_le "z9" none (some ((0+(i:Int)) % 3));have e4:("z9":Str).length=2:=by decide +kernel
    refine⟨_,rfl,.inl ⟨rfl,_,gp.of el⟩,?_⟩;refine⟨_,rfl,_,rfl,_,rfl,_,rfl,by omega,_,rfl,_,_,rfl,rfl,?_,_,rfl,_,rfl,_,rfl,_,rfl,by omega,_,_,rfl,rfl,?_,_,rfl,_,_,rfl,rfl,(by show(0:Int)<3;decide),_,rfl,_,rfl,by omega,_,_,rfl,rfl,?_,?_⟩
    .show _+1<=_;omega
    .rw[Str.length_append];show _+1+_<=_;omega
    .rw[Str.length_append,Str.length_append];show _+1+_+_<=_;omega
    have ev:Txt.slice bs none (some at_)++{cps:=#[rG S.toNat i]}++Txt.slice bs (some at_) none++Txt.slice (Str.ofString "z9") none (some ((0+(i:Int)) % 3))=rT bs at_.toNat S.toNat i:=by
     have e5:at_=((at_.toNat:Nat):Int):=by omega
     have e6:(0+(i:Int)) % 3=((i % 3:Nat):Int):=by omega
     rw[e6,rT,put,tF,<-e5]
    rw[ev];refine⟨l2,_,_,rfl,rfl,el,Nat.lt_of_le_of_lt (by rw[lm];show(oC bs at_.toNat S.toNat i).length<=99;simp[oC];omega) z1,?_⟩;refine aC _ _ ⟨Zv.lD L l8,XU sm O l8 g,?_,_,_,rfl⟩;rw[Zd];simp[oC,cJ]
   .obtain⟨L,sm,el,o5,o9,rfl⟩:=q;refine⟨_,rfl,?_⟩;exact k _ l2 _ L sm n0 el l8 (by simp[oC];omega) (Kn u (by omega) (by omega) (by omega)) (Km u (by omega) (by omega) _ _)
noncomputable def Nu(K:ae):Sp:=λvs H Q _=>∃(a:Addr)(ns:List Int)(k:Nat),vs=[.ref a,.int k]/\gp K H a (ns.map V.int)/\ns.length<=1000/\k<=1000/\∀c:Int,Q (.int c) H
theorem SJ{ns:List Int}{i:Int}(h0:0<=i)(a:i<ns.length):∃c,kZ (ns.map V.int) i=some (.int c):=by obtain⟨v,h,m⟩:=at_of (xs:=ns.map V.int) h0 (by rw[lm];exact a);obtain⟨c,_,rfl⟩:=ao.mp m;exact⟨c,h⟩
theorem Po:fx [mB,nZ] [mB,nZ] (Ze T.mq):=jX
theorem LG(B:∀x∈jO,mg x=none)(D:Df K mg "_law_cell" T.mq [mB,nZ]):hY P w K mg base 1 "_law_cell" [mB,nZ] (Nu K):=by
 refine D.cn Po λf y A outer s H vs Q E C h=>?_;obtain⟨a,ns,k,rfl,b,F,hk,q⟩:=h;refine' ⟨_,(Za ?p (Za ?o (Zc ?n))),?rd⟩;case' n=>refine' (Zk (Zr ZL (Zr Sv ?u (Zr ZL (pv 1) Zb)) (Zr Xk Zb (pv 1))))
 case' o=>refine' (ZA (Zo YV (Zw (r:=j_ K) ZG rfl (bm B) aT (ju (pv 0))) Zb (Zt _)) (Zc (Zk (Zr ZL (Zr Xk Zb (pv 1)) Zb))) Zn)
 case' p=>refine' (ZA (Zo G4 (pv 1) (Zw (r:=j_ K) ZG rfl (bm B) aT (ju (pv 0))) (Zt _)) (Zc (Zk (il K (pv 0) (pv 1)))) Zn)
 case' u=>refine' (il K (pv 0) (Zr Xy (pv 1) (Zw (r:=j_ K) ZG rfl (bm B) aT (ju (pv 0)))))
 case' rd=>
 refine⟨_,rfl,_,rfl,a,_,rfl,.inl b,_,_,rfl,rfl,_,rfl,?_⟩;refine ia (λe=>?_) (λe=>?_)
 .have j:(k:Int)<ns.length:=by have:=of_decide_eq_true e;rw[lm]at this;exact this
  obtain⟨c,d⟩:=SJ (ns:=ns) (i:=k) (by omega) j;exact⟨_,rfl,_,rfl,a,_,_,_,rfl,rfl,b,d,q c⟩
 .refine⟨_,rfl,a,_,rfl,.inl b,rfl,_,rfl,?_⟩;refine ia (λg=>?_) (λg=>?_)
  .exact⟨_,rfl,_,_,rfl,rfl,.inl ⟨by decide,by decide⟩,_,_,rfl,rfl,q _⟩
  .have v:ns.length≠0:=λz=>by rw[lm,z]at g;exact g (decide_eq_true rfl)
   have m0:0<=(k:Int) % ns.length:=Int.emod_nonneg _ (by omega);have l:(k:Int) % ns.length<ns.length:=Int.emod_lt_of_pos _ (by omega);obtain⟨c,d⟩:=SJ (ns:=ns) m0 l;refine⟨_,rfl,_,rfl,_,rfl,a,_,rfl,.inl b,_,_,rfl,rfl,(by rw[lm];omega),a,_,_,_,rfl,rfl,b,(by rw[lm];exact d),_,rfl,_,_,rfl,rfl,_,_,rfl,rfl,⟨by omega,by omega⟩,_,rfl,_,_,rfl,rfl,.inl ⟨by decide,by decide⟩,_,_,rfl,rfl,q _⟩
theorem gR.app    (h:gR b H l rows):∃xs:List V,H l=some (.lst xs)/\xs.length=rows.length/\∀q row,H q=none->q≠b->gR b (upd (upd H q (.tup row)) l (.lst (xs++[.ref q]))) l (rows++[row]):=by
 obtain⟨n,as,e,j,r⟩:=h;refine⟨_,e,by rw[lm,j],λq row g p=>⟨n,as++[q],?_,by simp[j],λi a o c d=>?_⟩⟩
 .rw[Zd,aG];rfl
 .have nl:q≠l:=λz=>by rw[z,e]at g;cases g
  rcases Nat.lt_or_ge i as.length with hi|hi
  .rw[cu hi]at c;rw[cu (by omega)]at d;obtain⟨x,y⟩:=r i a o c d;refine⟨x,?_⟩;rw[Zf (hA y e (λz=>nomatch z)),Zf (fi y g)];exact y
  .rw[cg hi]at c;rw[cg (by omega)]at d;have f:i-as.length=0:=by
    rcases Nat.eq_zero_or_pos (i-as.length)with z|z
    .exact z
    .rw[cv (by simp;omega)]at c;cases c
   rw[f]at c;rw[<-j,f]at d;cases c;cases d;refine⟨p,?_⟩;rw[Zf nl];exact Zd
structure zx(n:Int)(ns ss:List Str)(r:Rd):Prop where
 st:r.st∈ss
 gl:r.gl∈ns
 ne:r.st≠r.gl
 xZ:0<=r.lv
 xY:r.lv<=n-1
 yP:r.lv+1<=r.cm
 yO:r.cm<=n
 xk:0<=r.se
 xj:r.se<=1000
structure vc(H:Hp)(b lN lS:Addr)(ns ss:List Str):Prop where
 n:H lN=some (.lst (ns.map V.str))
 s:H lS=some (.lst (ss.map V.str))
 nn:lN≠b
 ne:lS≠b
 nd:ns.Nodup
 sub:∀t∈ss,t∈ns
 len:ns.length<=20
 uu:ss.length<=20
 sh:∀t∈ns,t.length<=1000
theorem vc.same   (s:Zh b H H')(h:vc H b c a ns ss):vc H' b c a ns ss:=⟨s _ _ h.n h.nn,s _ _ h.s h.ne,h.nn,h.ne,h.nd,h.sub,h.len,h.uu,h.sh⟩
theorem YG{α:Type}(p:α->Bool)(l:List α){i:Nat}{a:α}(h:l[i]?=some a):(l.take (i+1)).filter p=(l.take i).filter p++(if p a=true then[a]else[]):=by rw[a9,h,eV];simp only[Option.toList_some];cases b:p a<;>simp[b]
theorem Mm:∀{ns:List Str}{t:Str},ns.Nodup->t∈ns->(ns.filter λz=>decide (z≠t)).length+1=ns.length
|[],_,_,h=>nomatch h
|a::ns,t,b,h=>by
  rw[bf]at b;by_cases e:a=t
  .subst e;have e:(ns.filter λz=>decide (z≠a))=ns:=List.filter_eq_self.mpr λz hz=>by simpa using λq:z=a=>b.1 (q▸hz)
   rw[fh (by simp),e,aR]
  .rw[gI (by simpa using e),aR,Mm b.2 (by rcases au.mp h with q|q;exact absurd q.symm e;exact q),aR]
noncomputable def Pm:Sp:=λvs H Q _=>∃(b lN lS:Addr)(n m:Int)(ns ss:List Str),vs=[.ref b,.int n,.ref lN,.ref lS,.int m]/\Zv H b/\vc H b lN lS ns ss/\1<=n/\n<=50/\1<=m/\m<=20 /\∀H' l(rs:List Rd),Zv H' b->Zh b H H'->H l=none->gR b H' l (rs.map mX)->rs.length<=20->(rs.map (·.nm)).Nodup->(∀r∈rs,Nx r.nm/\zx n ns ss r)->Q (.ref l) H'
theorem YA:fx [jE,oB,n_,qd,rf,qc,"_law_label",rS,"_law_goal","_law_leave","_law_come"] [jE,oB,n_,qd,rf] (Ze T.kN):=jX
noncomputable def J7:Scope:=tG [(".0",.local),(q_,.local),(rS,.free)]
theorem Uh:jm J7 (Ze T.kN):=⟨rfl,by decide +kernel,by decide +kernel,by decide +kernel⟩
theorem Uj:([q_,rS]:List Str).Nodup:=by decide +kernel
theorem Ui:ji [jE,oB,n_,qd,rf,qc,"_law_label",rS,"_law_goal","_law_leave","_law_come"] J7 [q_,rS] [none,some 7]:=.mk' (by decide +kernel)
theorem RE(B:∀x∈jO,mg x=none)(CT:hY P w K mg base 1 qo [jE,mR] Xi)(CN:hY P w K mg base 2 "_law_names" [jE,mR] VS)(D:Df K mg "_law_rides" T.kN [jE,oB,n_,qd,rf]):hY P w K mg base 3 "_law_rides" [jE,oB,n_,qd,rf] Pm:=by
 refine D.cn YA λf cY A outer s H vs Q E hr h=>?_;obtain⟨b,X,lS,n,m,ns,ss,rfl,hb,hN,cR,cf,cX,cT,k⟩:=h;refine' ⟨_,(Za (st 5 YA.nd (ZD Zl)) (Za ?cm (Zc (Zk (pv 5))))),?rd⟩;case' cm=>refine' (ZX aL rfl (Yd (cn CN hr (jz (pv 0) (cn CT hr (jz (pv 0) (pv 4)))))) (jG 6 YA.nd) (Zc ?cx))
 case' cx=>refine' (ZA (PW.pt (UE (Zo (J1 hr.units) (pv 3) (ZD Zl) (Zt _)) (VZ (Zo G6 (Zw (r:=j_ K) ZG rfl (bm B) aT (ju (pv 2))) Zb (Zt _))))) (Za ?h7 (Za ?h8 (Za (st 9 YA.nd (cn CT hr (jz (pv 0) (pv 1)))) (Za ?cC (Zc ?cB))))) Zn)
 case' cB=>refine' (Z9 (Vx bD bu bt YS (pv 5) (ju ?h6)))
 case' cC=>refine' (st 10 YA.nd (Zr ZL (Zr ZL (pv 9) Zb) (cn CT hr (jz (pv 0) (Zr XW (pv 1) (pv 9))))))
 case' h8=>refine' (st 8 YA.nd ?h4)
 case' h7=>refine' (@YL _ _ 7 _ _ _ _ YA.nd (by rfl) (by exact gZ rfl) ?h3 (by rfl) (by exact cV rfl))
 case' h6=>refine' (Zx (Zg (pv 6) (Zg (pv 7) (Zg (pv 9) (kg (pv 8) (pv 10) ?h5)))))
 case' h5=>refine' (il K (ZD (@Xq _ _ (by decide +kernel))) (cn CT hr (jz (pv 0) Zb)))
 case' h4=>refine' (il K (JF rfl Uh Ui (Yd (pv 2)) (λC s H ex pn=>(jG 0 Uj)) (λC s H ex pn=>(Vm (Zo U0 (pv 0) (pv 1) (Zt _)))) (λC s H ex pn=>(pv 0))) (cn CT hr (jz (pv 0) (Zr XW (Zw (r:=j_ K) ZG rfl (bm B) aT (ju (pv 2))) Zb))))
 case' h3=>refine' (il K (pv 3) (cn CT hr (jz (pv 0) (Zw (r:=j_ K) ZG rfl (bm B) aT (ju (pv 3))))))
 case' rd=>
 refine⟨Nat.zero_le _,λF hF=>?_⟩;have nF:=hb.ne hF;dsimp only[Zp,av];refine⟨_,rfl,_,rfl,_,rfl,b,m,rfl,hb.new hF,by omega,ZO (by omega) (by omega),λc H1 c0 c1 B1 S1=>?_⟩;refine⟨b,c,rfl,B1,c0,by omega,λH2 lL ts B2 S2 nL eL O hc nd nx=>?_⟩;have hz:ts.length<=sizeLine:=Nat.le_trans (by omega:ts.length<=1000) (by decide);have cH:Zh b H H2:=((Zh.refl b H).jq hF).trans (S1.trans S2);have S:H1 F=some (.lst []):=S1 _ _ Zd nF;have a3:H2 F=some (.lst []):=S2 _ _ S nF;have b4:lL≠F:=λz=>by rw[z,S]at nL;cases nL
 have R0:gR b H2 F (([]:List Rd).map mX):=⟨nF,[],a3,rfl,λi a r h1=>by cases h1⟩;refine⟨lL,rfl,⟨_,gp.of eL⟩,?_⟩;clear S1 S2 B1 S a3 c0;refine Yc (J:=oi K lL) ts.length (λi σ H'=>Zv H' b/\Zh b H H'/\H' lL=some (.lst (ts.map V.str))/\(∃rs:List Rd,gR b H' F (rs.map mX)/\(rs.map (·.nm)).Sublist (ts.take i)/\∀r∈rs,zx n ns ss r)/\∃o:Nat->Option V,σ=[some (.ref b),some (.int n),some (.ref X),some (.ref lS),some (.int m),some (.ref F),o 6,o 7,o 8,o 9,o 10]) ?_ (λi σ H' G q=>?_) (λσ H' q=>?_) (λi σ H' v M G q yl=>?_) (λσ H' q=>?_)
 .exact⟨B2,cH,eL,⟨[],R0,.slnil,by simp⟩,j9 rfl⟩
 .exact⟨_,V.str ts[i],gp.of q.2.2.1,by simp[G]⟩
 .exact⟨_,gp.of q.2.2.1,by simp⟩
 .obtain⟨bx,sm,el,⟨rs,ra,sub,rx⟩,o,rfl⟩:=q;obtain⟨rfl,hy⟩:=yl;have hx:v=V.str ts[i]:=by have:=hy _ (gp.of el);simp[G]at this;exact this.symm
  subst hx;have u:=hN.same sm;dsimp only[Zp,av];refine td λD' aM=>?_;refine⟨_,rfl,Nat.zero_le _,λle he=>?_⟩;refine⟨_,_,_,rfl,rfl,gp.of ((Zf (fi u.s he)).trans u.s),Zd,_,rfl,?_⟩;have Z:Zh b M (upd M le (.lst [])):=(Zh.refl b M).jq he;have y:Zv (upd M le (.lst [])) b:=bx.new he;generalize upd M le (.lst [])=H4 at Z y ⊢;have keep:∀(H5:Hp)(N:L2.St),Zv H5 b->Zh b M H5->(∃o:Nat->Option V,N=[some (.ref b),some (.int n),some (.ref X),some (.ref lS),some (.int m),some (.ref F),o 6,o 7,o 8,o 9,o 10])->D'.nx N H5:=λH5 N b5 s5 e5=>
   aM _ _ ⟨b5,sm.trans s5,s5 _ _ el O,⟨rs,ra.same s5,sub.trans (List.take_sublist_take_left (Nat.le_succ i)),rx⟩,e5⟩;refine ia (λec=>?_) (λ_=>keep _ _ y Z (j9 rfl));have cP:0<ss.length:=by
   cases ss with
  |nil=>simp at ec
  |cons a l=>simp
  have I:=u.same Z;refine⟨_,rfl,X,_,rfl,.inl (gp.of I.n),_,_,rfl,rfl,_,rfl,?_⟩;refine ia (λen=>?_) (λ_=>keep _ _ y Z (j9 rfl));have cf:1<ns.length:=by have:=of_decide_eq_true en;rw[lm]at this;omega
  refine⟨_,rfl,_,rfl,_,rfl,lS,_,rfl,.inl (gp.of I.s),b,_,rfl,y,(by rw[lm];omega),ZO (by rw[lm];omega) (by rw[lm];have:=I.uu;omega),λr5 H5 ag ab B5 S5=>?_⟩;obtain⟨v5,a4,m5⟩:=at_of (xs:=ss.map V.str) ag ab;obtain⟨st,ak,rfl⟩:=ao.mp m5;have a6:=Z.trans S5;have d:=u.same a6;have b0:=d.sub st ak;refine⟨lS,_,_,_,rfl,rfl,gp.of d.s,a4,?_⟩;dsimp only[Zp,av];clear a4 m5 ag ab S5 Z y I he ec en;refine⟨_,rfl,X,rfl,⟨_,gp.of d.n⟩,?_⟩;refine JS (J:=oi K X) ns.length (Nat.le_trans (by have:=d.len;omega:ns.length<=1000) (by decide)) (λi W U H'=>H'=H5/\W=((ns.take i).filter λz=>decide (z≠st)).map V.str/\∃v,U=[v,some (.str st)]) ⟨rfl,rfl,none,rfl⟩ (λi W U H' p=>?_) (λi W U H' G p=>?_) (λW U H' p=>?_) (λi W U H' x H6 G p yl=>?_) (λW U H' p Y hG=>?_)
  .obtain⟨_,rfl,_⟩:=p;rw[lm];exact Nat.le_trans (bN _ _) (by rw[aN];omega)
  .obtain⟨rfl,_⟩:=p;exact⟨_,V.str ns[i],gp.of d.n,by simp[G]⟩
  .obtain⟨rfl,_⟩:=p;exact⟨_,gp.of d.n,by simp⟩
  .obtain⟨rfl,rfl,v,rfl⟩:=p;obtain⟨rfl,hy⟩:=yl;have hx:x=V.str ns[i]:=by have:=hy _ (gp.of d.n);simp[G]at this;exact this.symm
   subst hx;refine⟨_,rfl,_,rfl,rfl,_,rfl,?_⟩;have e0:ns[i]?=some ns[i]:=gE G;refine ia (λe=>?_) (λe=>?_)
   .refine⟨_,rfl,rfl,?_,_,rfl⟩;rw[YG _ _ e0,if_pos (by simpa using e),aG];rfl
   .refine⟨rfl,?_,_,rfl⟩;rw[YG _ _ e0,if_neg (by simpa using e),ba]
  .obtain⟨rfl,rfl,v,rfl⟩:=p;rw[aP];have ck:=Mm d.nd b0;have eG:upd H' Y (.lst ((ns.filter λz=>decide (z≠st)).map V.str)) Y=some (.lst ((ns.filter λz=>decide (z≠st)).map V.str)):=Zd;have B6:Zv (upd H' Y (.lst ((ns.filter λz=>decide (z≠st)).map V.str))) b:=B5.new hG;have S6:Zh b M (upd H' Y (.lst ((ns.filter λz=>decide (z≠st)).map V.str))):=a6.jq hG;have nG:=B5.ne hG;generalize upd H' Y (.lst ((ns.filter λz=>decide (z≠st)).map V.str))=H6 at eG B6 S6 ⊢;have R:∀t∈ns.filter λz=>decide (z≠st),t∈ns/\t≠st:=λt ht=>by simpa using dM.mp ht
   generalize (ns.filter λz=>decide (z≠st))=gs at ck eG R;have aS:=u.same S6;refine⟨_,rfl,_,rfl,X,_,rfl,.inl (gp.of aS.n),_,_,rfl,rfl,b,_,rfl,B6,(by rw[lm];omega),ZO (by rw[lm];omega) (by rw[lm];have:=aS.len;omega),λr7 H7 b3 b2 B7 S7=>?_⟩;obtain⟨v7,cE,m7⟩:=at_of (xs:=gs.map V.str) b3 (by rw[lm]at b2 ⊢;omega);obtain⟨gl,aC,rfl⟩:=ao.mp m7;have cG:=S6.trans S7;refine⟨Y,_,_,_,rfl,rfl,gp.of (S7 _ _ eG nG),cE,?_⟩;dsimp only[Zp,av];refine⟨_,rfl,_,rfl,b,n,rfl,B7,by omega,ZO (by omega) (by omega),λlv H8 l0 l1 B8 S8=>?_⟩;refine⟨_,rfl,_,_,rfl,rfl,_,rfl,_,rfl,_,rfl,_,_,rfl,rfl,b,_,rfl,B8,by omega,ZO (by omega) (by omega),λc9 H9 c0 c1 B9 S9=>?_⟩;refine⟨_,_,rfl,rfl,?_⟩;have a5:=(cG.trans S8).trans S9;dsimp only[Zp,av];have e9:=(ra.same a5).app;obtain⟨cK,e9,l9,_⟩:=e9;refine⟨_,rfl,.inl ⟨rfl,_,gp.of e9⟩,_,rfl,_,rfl,_,rfl,_,rfl,_,rfl,(zl),λlq hq=>?_⟩;refine oz (B9.new hq) (λcN cI a0 a1 bM bb=>?_);have eS:cI lq=some (.lst (([1,0,2,1,3,1000]:List Int).map V.int)):=bb _ _ Zd (B9.ne hq);have g:=(a5.jq hq).trans bb;obtain⟨v10,bT,cb⟩:=at_of (xs:=([1,0,2,1,3,1000]:List Int).map V.int) a0 a1;obtain⟨se,cc,rfl⟩:=ao.mp cb;have L:0<=se/\se<=1000:=by simp only[au,aQ,or_false]at cc;omega
   refine⟨lq,_,_,_,rfl,rfl,gp.of eS,bT,?_⟩;obtain⟨xs,eF,lx,app⟩:=(ra.same g).app;refine⟨Nat.le_trans (by decide:6<=1000) (by decide),λq j=>?_⟩;have b1:rs.length<=20:=by have:=sub.length_le;rw[lm,aN]at this;omega
   have b6:F≠q:=fi eF j;refine⟨F,xs,_,rfl,rfl,(Zf b6).trans eF,Nat.lt_of_le_of_lt (by rw[lx,lm];exact b1) (by decide),?_⟩;have nq:=bM.ne j;refine aM _ _ ⟨Zv.lD (bM.new j) nF,XU ((sm.trans g).jq j) (Zh.refl b H) nF hF,?_,⟨rs++[⟨ts[i],st,lv,gl,lv+1+c9,se⟩],?_,?_,?_⟩,j9 rfl⟩
   .rw[Zf b4,Zf (fi (g _ _ el O) j)];exact g _ _ el O
   .rw[aG];exact app q _ j nq
   .rw[aG,a9,gE G];exact sub.append (List.Sublist.refl _)
   .intro r hr;rcases aF.mp hr with hr|hr
    .exact rx r hr
    .rw[aI]at hr;subst hr;exact⟨ak,(R gl aC).1,λz=>(R gl aC).2 z.symm,l0,by show lv<=n-1;omega,by show lv+1<=lv+1+c9;omega,by show lv+1+c9<=n;omega,L.1,L.2⟩
 .obtain⟨bx,sm,el,⟨rs,ra,sub,rx⟩,o,rfl⟩:=q;rw[aP]at sub;exact⟨_,rfl,k _ F rs bx sm hF ra (by have:=sub.length_le;rw[lm]at this;omega) (sub.nodup nd) λr hr=>⟨nx _ (sub.subset (ao.mpr ⟨r,hr,rfl⟩)),rx r hr⟩⟩
structure zt(ns ss:List Str)(r:Wy):Prop where
 st:r.st∈ss
 gl:r.gl∈ns
 ne:r.st≠r.gl
 x8:1<=r.lo
 lo1:r.lo<=50
 wH:0<=r.wi
 wG:r.wi<=1000
noncomputable def R3:Sp:=λvs H Q _=>∃(b lN lS:Addr)(n:Int)(ns ss:List Str),vs=[.ref b,.int n,.ref lN,.ref lS]/\Zv H b/\vc H b lN lS ns ss/\1<=n/\n<=49 /\∀H' l(rs:List Wy),Zv H' b->Zh b H H'->H l=none->gR b H' l (rs.map mU)->rs.length<=20->(rs.map (·.nm)).Nodup->(∀r∈rs,Nx r.nm/\zt ns ss r)->Q (.ref l) H'
theorem Y2:fx [jE,oB,n_,qd,qc,"_law_label",rS,"_law_goal","_law_long"] [jE,oB,n_,qd] (Ze T.kY):=jX
noncomputable def Vz:Scope:=tG [(".0",.local),(q_,.local),(rS,.free)]
theorem UR:jm Vz (Ze T.kY):=⟨rfl,by decide +kernel,by decide +kernel,by decide +kernel⟩
theorem UT:([q_,rS]:List Str).Nodup:=by decide +kernel
theorem US:ji [jE,oB,n_,qd,qc,"_law_label",rS,"_law_goal","_law_long"] Vz [q_,rS] [none,some 6]:=.mk' (by decide +kernel)
theorem Wn(B:∀x∈jO,mg x=none)(CT:hY P w K mg base 1 qo [jE,mR] Xi)(CN:hY P w K mg base 2 "_law_names" [jE,mR] VS)(D:Df K mg "_law_ways" T.kY [jE,oB,n_,qd]):hY P w K mg base 3 "_law_ways" [jE,oB,n_,qd] R3:=by
 refine D.cn Y2 λf c2 A outer s H vs Q E hr h=>?_;obtain⟨b,Y,lS,n,ns,ss,rfl,hb,hN,cY,cf,k⟩:=h;refine' ⟨_,(Za (st 4 Y2.nd (ZD Zl)) (Za ?cx (Zc (Zk (pv 4))))),?rd⟩;case' cx=>refine' (ZX aL rfl (Yd (cn CN hr (jz (pv 0) (cn CT hr (jz (pv 0) Zb))))) (jG 5 Y2.nd) (Zc ?cB))
 case' cB=>refine' (ZA (PW.pt (UE (Zo (J1 hr.units) (pv 3) (ZD Zl) (Zt _)) (VZ (Zo G6 (Zw (r:=j_ K) ZG rfl (bm B) aT (ju (pv 2))) Zb (Zt _))))) (Za ?h9 (Za ?cG (Za ?cE (Zc ?cC)))) Zn)
 case' cC=>refine' (Z9 (Vx bD bu bt YS (pv 4) (ju ?h8)))
 case' cE=>refine' (st 8 Y2.nd ?h6)
 case' cG=>refine' (st 7 Y2.nd ?h4)
 case' h9=>refine' (@YL _ _ 6 _ _ _ _ Y2.nd (by rfl) (by exact gZ rfl) ?h3 (by rfl) (by exact cV rfl))
 case' h8=>refine' (Zx (Zg (pv 5) (Zg (pv 6) (kg (pv 7) (pv 8) ?h7))))
 case' h7=>refine' (il K (ZD (@Xq _ _ (by decide +kernel))) (cn CT hr (jz (pv 0) Zb)))
 case' h6=>refine' (il K ?h5 (cn CT hr (jz (pv 0) Zb)))
 case' h5=>refine' (ZD (Zg Zb (kg Zb Zb (Zr ZL Zb (cn CT hr (jz (pv 0) (Zr ZL (pv 1) Zb)))))))
 case' h4=>refine' (il K (JF rfl UR US (Yd (pv 2)) (λC s H ex pn=>(jG 0 UT)) (λC s H ex pn=>(Vm (Zo U0 (pv 0) (pv 1) (Zt _)))) (λC s H ex pn=>(pv 0))) (cn CT hr (jz (pv 0) (Zr XW (Zw (r:=j_ K) ZG rfl (bm B) aT (ju (pv 2))) Zb))))
 case' h3=>refine' (il K (pv 3) (cn CT hr (jz (pv 0) (Zw (r:=j_ K) ZG rfl (bm B) aT (ju (pv 3))))))
 case' rd=>
 refine⟨Nat.zero_le _,λF hF=>?_⟩;have nF:=hb.ne hF;dsimp only[Zp,av];refine⟨_,rfl,oz (hb.new hF) (λc H1 c0 c1 B1 S1=>?_)⟩;refine⟨b,c,rfl,B1,c0,by omega,λH2 lL ts B2 S2 nL eL R hc nd nx=>?_⟩;have hz:ts.length<=sizeLine:=Nat.le_trans (by omega:ts.length<=1000) (by decide);have cN:Zh b H H2:=((Zh.refl b H).jq hF).trans (S1.trans S2);have U:H1 F=some (.lst []):=S1 _ _ Zd nF;have a3:H2 F=some (.lst []):=S2 _ _ U nF;have b4:lL≠F:=λz=>by rw[z,U]at nL;cases nL
 have R0:gR b H2 F (([]:List Wy).map mU):=⟨nF,[],a3,rfl,λi a r h1=>by cases h1⟩;refine⟨lL,rfl,⟨_,gp.of eL⟩,?_⟩;clear S1 S2 B1 U a3 c0;refine Yc (J:=oi K lL) ts.length (λi σ H'=>Zv H' b/\Zh b H H'/\H' lL=some (.lst (ts.map V.str))/\(∃rs:List Wy,gR b H' F (rs.map mU)/\(rs.map (·.nm)).Sublist (ts.take i)/\∀r∈rs,zt ns ss r)/\∃o:Nat->Option V,σ=[some (.ref b),some (.int n),some (.ref Y),some (.ref lS),some (.ref F),o 5,o 6,o 7,o 8]) ?_ (λi σ H' G q=>?_) (λσ H' q=>?_) (λi σ H' v N G q yl=>?_) (λσ H' q=>?_)
 .exact⟨B2,cN,eL,⟨[],R0,.slnil,by simp⟩,j9 rfl⟩
 .exact⟨_,V.str ts[i],gp.of q.2.2.1,by simp[G]⟩
 .exact⟨_,gp.of q.2.2.1,by simp⟩
 .obtain⟨bx,sm,el,⟨rs,ra,sub,rx⟩,o,rfl⟩:=q;obtain⟨rfl,hy⟩:=yl;have hx:v=V.str ts[i]:=by have:=hy _ (gp.of el);simp[G]at this;exact this.symm
  subst hx;have u:=hN.same sm;dsimp only[Zp,av];refine td λD' aM=>?_;refine⟨_,rfl,Nat.zero_le _,λle he=>?_⟩;refine⟨_,_,_,rfl,rfl,gp.of ((Zf (fi u.s he)).trans u.s),Zd,_,rfl,?_⟩;have S4:Zh b N (upd N le (.lst [])):=(Zh.refl b N).jq he;have y:Zv (upd N le (.lst [])) b:=bx.new he;generalize upd N le (.lst [])=H4 at S4 y ⊢;have keep:∀(H5:Hp)(O:L2.St),Zv H5 b->Zh b N H5->(∃o:Nat->Option V,O=[some (.ref b),some (.int n),some (.ref Y),some (.ref lS),some (.ref F),o 5,o 6,o 7,o 8])->D'.nx O H5:=λH5 O b5 s5 e5=>
   aM _ _ ⟨b5,sm.trans s5,s5 _ _ el R,⟨rs,ra.same s5,sub.trans (List.take_sublist_take_left (Nat.le_succ i)),rx⟩,e5⟩;refine ia (λec=>?_) (λ_=>keep _ _ y S4 (j9 rfl));have cX:0<ss.length:=by
   cases ss with
  |nil=>simp at ec
  |cons a l=>simp
  have I:=u.same S4;refine⟨_,rfl,Y,_,rfl,.inl (gp.of I.n),_,_,rfl,rfl,_,rfl,?_⟩;refine ia (λen=>?_) (λ_=>keep _ _ y S4 (j9 rfl));have cf:1<ns.length:=by have:=of_decide_eq_true en;rw[lm]at this;omega
  refine⟨_,rfl,_,rfl,_,rfl,lS,_,rfl,.inl (gp.of I.s),b,_,rfl,y,(by rw[lm];omega),ZO (by rw[lm];omega) (by rw[lm];have:=I.uu;omega),λr5 H5 ag ab B5 S5=>?_⟩;obtain⟨v5,a4,m5⟩:=at_of (xs:=ss.map V.str) ag ab;obtain⟨st,ak,rfl⟩:=ao.mp m5;have a6:=S4.trans S5;have d:=u.same a6;have b0:=d.sub st ak;refine⟨lS,_,_,_,rfl,rfl,gp.of d.s,a4,?_⟩;dsimp only[Zp,av];clear a4 m5 ag ab S5 S4 y I he ec en;refine⟨_,rfl,Y,rfl,⟨_,gp.of d.n⟩,?_⟩;refine JS (J:=oi K Y) ns.length (Nat.le_trans (by have:=d.len;omega:ns.length<=1000) (by decide)) (λi X W H'=>H'=H5/\X=((ns.take i).filter λz=>decide (z≠st)).map V.str/\∃v,W=[v,some (.str st)]) ⟨rfl,rfl,none,rfl⟩ (λi X W H' p=>?_) (λi X W H' G p=>?_) (λX W H' p=>?_) (λi X W H' x H6 G p yl=>?_) (λX W H' p Z hG=>?_)
  .obtain⟨_,rfl,_⟩:=p;rw[lm];exact Nat.le_trans (bN _ _) (by rw[aN];omega)
  .obtain⟨rfl,_⟩:=p;exact⟨_,V.str ns[i],gp.of d.n,by simp[G]⟩
  .obtain⟨rfl,_⟩:=p;exact⟨_,gp.of d.n,by simp⟩
  .obtain⟨rfl,rfl,v,rfl⟩:=p;obtain⟨rfl,hy⟩:=yl;have hx:x=V.str ns[i]:=by have:=hy _ (gp.of d.n);simp[G]at this;exact this.symm
   subst hx;refine⟨_,rfl,_,rfl,rfl,_,rfl,?_⟩;have e0:ns[i]?=some ns[i]:=gE G;refine ia (λe=>?_) (λe=>?_)
   .refine⟨_,rfl,rfl,?_,_,rfl⟩;rw[YG _ _ e0,if_pos (by simpa using e),aG];rfl
   .refine⟨rfl,?_,_,rfl⟩;rw[YG _ _ e0,if_neg (by simpa using e),ba]
  .obtain⟨rfl,rfl,v,rfl⟩:=p;rw[aP];have cm:=Mm d.nd b0;have eG:upd H' Z (.lst ((ns.filter λz=>decide (z≠st)).map V.str)) Z=some (.lst ((ns.filter λz=>decide (z≠st)).map V.str)):=Zd;have B6:Zv (upd H' Z (.lst ((ns.filter λz=>decide (z≠st)).map V.str))) b:=B5.new hG;have S6:Zh b N (upd H' Z (.lst ((ns.filter λz=>decide (z≠st)).map V.str))):=a6.jq hG;have nG:=B5.ne hG;generalize upd H' Z (.lst ((ns.filter λz=>decide (z≠st)).map V.str))=H6 at eG B6 S6 ⊢;have S:∀t∈ns.filter λz=>decide (z≠st),t∈ns/\t≠st:=λt ht=>by simpa using dM.mp ht
   generalize (ns.filter λz=>decide (z≠st))=gs at cm eG S;have aS:=u.same S6;refine⟨_,rfl,_,rfl,Y,_,rfl,.inl (gp.of aS.n),_,_,rfl,rfl,b,_,rfl,B6,(by rw[lm];omega),ZO (by rw[lm];omega) (by rw[lm];have:=aS.len;omega),λr7 H7 b3 b2 B7 S7=>?_⟩;obtain⟨v7,cI,m7⟩:=at_of (xs:=gs.map V.str) b3 (by rw[lm]at b2 ⊢;omega);obtain⟨gl,aC,rfl⟩:=ao.mp m7;have cK:=S6.trans S7;refine⟨Z,_,_,_,rfl,rfl,gp.of (S7 _ _ eG nG),cI,?_⟩;dsimp only[Zp,av];refine⟨_,rfl,_,rfl,_,_,rfl,rfl,b,_,rfl,B7,by omega,ZO (by omega) (by omega),λlv H8 l0 l1 B8 S8=>?_⟩;refine⟨_,_,rfl,rfl,(zl),λlw hw=>?_⟩;refine oz (B8.new hw) (λc9 H9 c0 c1 B9 S9=>?_);have eW:H9 lw=some (.lst (([1,2,1,1+lv]:List Int).map V.int)):=S9 _ _ Zd (B8.ne hw);obtain⟨v9,cH,m9⟩:=at_of (xs:=([1,2,1,1+lv]:List Int).map V.int) c0 c1;obtain⟨lo,ck,rfl⟩:=ao.mp m9;have M:1<=lo/\lo<=50:=by simp only[au,aQ,or_false]at ck;omega
   refine⟨lw,_,_,_,rfl,rfl,gp.of eW,cH,?_⟩;have a5:=(((cK.trans S8).jq hw).trans S9);dsimp only[Zp,av];have e9:=(ra.same a5).app;obtain⟨cR,e9,l9,_⟩:=e9;refine⟨_,rfl,.inl ⟨rfl,_,gp.of e9⟩,_,rfl,_,rfl,_,rfl,_,rfl,(zl),λlq hq=>?_⟩;refine oz (B9.new hq) (λcT cP a0 a1 bM bb=>?_);have eS:cP lq=some (.lst (([1,0,2,1]:List Int).map V.int)):=bb _ _ Zd (B9.ne hq);have g:=(a5.jq hq).trans bb;obtain⟨v10,bT,cb⟩:=at_of (xs:=([1,0,2,1]:List Int).map V.int) a0 a1;obtain⟨se,cc,rfl⟩:=ao.mp cb;have L:0<=se/\se<=1000:=by simp only[au,aQ,or_false]at cc;omega
   refine⟨lq,_,_,_,rfl,rfl,gp.of eS,bT,?_⟩;obtain⟨xs,eF,lx,app⟩:=(ra.same g).app;refine⟨Nat.le_trans (by decide:5<=1000) (by decide),λq j=>?_⟩;have b1:rs.length<=20:=by have:=sub.length_le;rw[lm,aN]at this;omega
   have b6:F≠q:=fi eF j;refine⟨F,xs,_,rfl,rfl,(Zf b6).trans eF,Nat.lt_of_le_of_lt (by rw[lx,lm];exact b1) (by decide),?_⟩;have nq:=bM.ne j;refine aM _ _ ⟨Zv.lD (bM.new j) nF,XU ((sm.trans g).jq j) (Zh.refl b H) nF hF,?_,⟨rs++[⟨ts[i],st,gl,lo,se⟩],?_,?_,?_⟩,j9 rfl⟩
   .rw[Zf b4,Zf (fi (g _ _ el R) j)];exact g _ _ el R
   .rw[aG];exact app q _ j nq
   .rw[aG,a9,gE G];exact sub.append (List.Sublist.refl _)
   .intro r hr;rcases aF.mp hr with hr|hr
    .exact rx r hr
    .rw[aI]at hr;subst hr;exact⟨ak,(S gl aC).1,λz=>(S gl aC).2 z.symm,M.1,M.2,L.1,L.2⟩
 .obtain⟨bx,sm,el,⟨rs,ra,sub,rx⟩,o,rfl⟩:=q;rw[aP]at sub;exact⟨_,rfl,k _ F rs bx sm hF ra (by have:=sub.length_le;rw[lm]at this;omega) (sub.nodup nd) λr hr=>⟨nx _ (sub.subset (ao.mpr ⟨r,hr,rfl⟩)),rx r hr⟩⟩
end
end WD
namespace L2
open PySem PySem.Spec PyProof.Rows
noncomputable def Qu(l:Addr):It:=⟨λi H=>∃xs,H l=some (.lst xs)/\i<xs.length,λi H x H'=>∃(T:Addr)(xs:List V)(y:V),H T=none/\H l=some (.lst xs)/\xs[i]?=some y/\x=.ref T/\H'=upd H T (.tup [.int i,y]),λi H=>∃xs,H l=some (.lst xs)/\i=xs.length⟩
theorem GC{P:Program}{w:World}{K:ae}{es:List Expr}{k:Nat}{pt:Pos}(l e it:Addr)(x:e≠it)(hle:l≠e)(L:l≠it):
  Turn P w K (.Tuple es k pt) (Qu l) [e,it] e (λi h=>(∃old,IsEnum h e it i old)/\h.IsListIter it l i) where
 mem:=by simp
 obj:=λi h st b a=>by
  obtain⟨⟨old,he⟩,o,B,c,d⟩:=st
  have ak:b=e\/b=it:=by simpa using a
  rcases ak with rfl|rfl
  .exact⟨_,he,λv z=>by cases z⟩
  .exact⟨o,B,λv z=>by rw[d]at z;cases z⟩
 keep:=λi h h' st kk=>by
  obtain⟨⟨old,he⟩,o,B,r⟩:=st
  exact⟨⟨old,kk e (by simp) _ he⟩,o,kk it (by simp) o B,r⟩
 item:=by
  intro X Z hw hK Y i pins s σ H E I hf st U
  subst Z hw hK
  obtain⟨xs,O,hi⟩:=U
  obtain⟨⟨old,he⟩,S⟩:=st
  obtain⟨j,N,pl,_⟩:=I.list (gp.of O)
  have hlen:=N.length
  have D:=Draws.list (prog:=X.prog) (w:=X.w) (A:=X.A.in1) (I.ok.hd Y) it l L j.toArray
  have W:=f_ D e x (by simp[x,bK hle]) (by simp)
  refine W.item i s _ _ (by simp only[aw];omega) ⟨⟨old,he⟩,S,pl.isList⟩ λT vals h' R hv hT ht hm kk=>?_
  obtain⟨ab,u,hu,rfl⟩:=hv
  obtain⟨y,hy⟩:∃y,xs[i]?=some y:=⟨xs[i],gE hi⟩
  obtain⟨u2,tw,ru⟩:=N.get hy
  have ag:j[i]?=some u:=by simpa using hu
  rw[ag]at tw;cases tw
  refine⟨_,rfl,?_⟩
  refine W.go es k pt i T {s with heap:=h',toks:=R} _ _ hm λh2 G J=>?_
  have g:H T=none:=I.hL.fresh hT
  have M:=W.apart i T h' hm
  have p:∀b,b∉[e,it]->∀o,s.heap.get? b=some o->h2.get? b=some o:=λb a o q=>J b o a (kk b o a q)
  have nb:∀b u,H b=some u->b∉[e,it]:=λb u q a=>by rw[(hf b a).1]at q;cases q
  have I1:Inv X pins σ (upd H T (.tup [.int i,y])) {s with heap:=h2,toks:=R}:=by
   refine I.step (g':=s.gens) (d':=s.drawn) (ch:=[e,it]) (λb a=>?_) (λb o _ _ a q _=>p b a o q) (λb o _ _ a q _=>⟨o.slots,p b a o q⟩)
    (λb o a q n=>?_) (λb o a q=>⟨o,p b a o q⟩) (λb xs q=>?_) (λb o u q=>?_) (λb ps q=>?_) (λm hm=>?_) ?_ I.bare
   .obtain⟨g0,g1,g2,g3,g4,g5⟩:=hf b a
    exact⟨g3,g1,g4,g5⟩
   .rw[Zf (Nat.ne_of_lt (Nat.lt_of_lt_of_le (Heap.lt_size q) hT))];exact n
   .rw[Zf (fi q g)];exact q
   .rw[Zf (fi q g)];exact q
   .exact⟨#[],by rw[Zf (fi q g),q];simp⟩
   .obtain⟨o,C,ep,B,r⟩:=hm
    refine⟨o,C,ep,p _ ?_ o B,r⟩
    intro a
    obtain⟨g0,g1,_⟩:=hf _ a
    exact g1 rfl
   .intro b ob q
    by_cases a:b=T
    .subst a
     rw[Zd]at q
     cases q
     obtain⟨o,h1,aC,h3⟩:=ht
     exact⟨zl,[.int i ab,u],.cons ⟨_,rfl⟩ (.cons ru .nil),⟨o,J _ _ M h1,aC,h3⟩⟩
    .rw[Zf a]at q
     refine(I.hL b ob q).lW (λF v px f=>p F ?_ v f) (λF f=>by rw[Zf (fi f g)];exact f) λF xs f=>by rw[Zf (fi f g)];exact f
     rcases px with rfl|px
     .exact nb _ _ q
     .exact nb _ _ px
  refine⟨.ref T,_,I1,rfl,⟨T,xs,y,g,O,hy,rfl,rfl⟩,⟨G.1,G.2.1⟩,λb a=>?_⟩
  rw[Zf]
  .exact(hf b a).1
  .rintro rfl
   exact M a
 done:=by
  intro X Z hw hK Y i pins s σ H E I hf st U
  subst Z hw hK
  obtain⟨xs,O,hi⟩:=U
  obtain⟨⟨old,he⟩,S⟩:=st
  obtain⟨j,N,pl,_⟩:=I.list (gp.of O)
  have hlen:=N.length
  have D:=Draws.list (prog:=X.prog) (w:=X.w) (A:=X.A.in1) (I.ok.hd Y) it l L j.toArray
  have W:=f_ D e x (by simp[x,bK hle]) (by simp)
  have ei:i=j.toArray.size:=by simp only[aw];omega
  subst ei
  refine W.done s _ _ ⟨⟨old,he⟩,S,pl.isList⟩ λh' R kk=>⟨rfl,?_⟩
  have nb:∀b u,H b=some u->b∉[e,it]:=λb u q a=>by rw[(hf b a).1]at q;cases q
  refine I.step (g':=s.gens) (d':=s.drawn) (ch:=[e,it]) (λb a=>?_) (λb o _ _ a q _=>kk b o a q) (λb o _ _ a q _=>⟨o.slots,kk b o a q⟩)
   (λb o a q n=>n) (λb o a q=>⟨o,kk b o a q⟩) (λb xs q=>q) (λb o u q=>q) (λb ps q=>⟨#[],by rw[q];simp⟩) (λm hm=>?_) (λb u q=>?_) I.bare
  .obtain⟨g0,g1,g2,g3,g4,g5⟩:=hf b a
   exact⟨g3,g1,g4,g5⟩
  .obtain⟨o,C,ep,B,r⟩:=hm
   refine⟨o,C,ep,kk _ o ?_ B,r⟩
   intro a
   obtain⟨g0,g1,_⟩:=hf _ a
   exact g1 rfl
  .refine(I.hL b u q).lW (λF v px f=>kk F v ?_ f) (λ_ f=>f) λ_ _ f=>f
   rcases px with rfl|px
   .exact nb _ _ q
   .exact nb _ _ px
 self:=λA i s Q E st h=>by
  obtain⟨⟨old,he⟩,_⟩:=st
  exact d7 he h
section
variable {X:Cx}
noncomputable def yw(ta:TA):TI:=λσ H R=>ta σ H λvs H1=>∃(l:Addr)(xs:List V),vs=[.ref l]/\H1 l=some (.lst xs)/\R (Qu l) H1
theorem PF{a:Expr}{g:TA}{p pos pt:Pos}{x:List Expr}{k:Nat}(v:Gl X "enumerate")(hm:X.mg "enumerate"=none)(w:PA X [a] g)(d:bJ "enumerate"=some (.type "enumerate"))(u:aH [a] X.env=[(false,eval a X.env)]:=by rfl):PI X (.Tuple x k pt) (.Call (.Name "enumerate" p) [a] [] pos) (yw g):=by
 intro pins s σ H R I h;refine Call_ (JK I v hm d (bI (hU (w pos pins s σ H _ I h) λus s1 hZ=>?_) u rfl));obtain⟨vs,H1,c,n,o⟩:=hZ;obtain⟨l,xs,e,i,q⟩:=o;subst e;cases n with
|cons r j=>
  cases j;cases r;obtain⟨z,A,pl,_⟩:=c.list (gp.of i);refine call_enumerate_list pl.isList λh' he f _ kk=>?_;have y:Inv X pins σ H1 {s1 with heap:=h'}:=c.kept (t':=s1.toks) kk;refine d7 he ?_;have lt:l<s1.heap.objs.size:=c.hL.lt i;refine⟨s1.heap.objs.size+1,[s1.heap.objs.size+1,s1.heap.objs.size],_,_,H1,rfl,y,GC l (s1.heap.objs.size+1) s1.heap.objs.size (Nat.succ_ne_self _) (Nat.ne_of_lt (Nat.lt_succ_of_lt lt)) (Nat.ne_of_lt lt),⟨⟨_,he⟩,f⟩,λb d=>?_,q⟩;have e:b=s1.heap.objs.size+1\/b=s1.heap.objs.size:=by simpa using d
  rcases e with e|e<;>subst e
  .exact c.nJ (Nat.le_succ _) (c.hL.fresh (Nat.le_succ _))
  .exact c.nJ (Nat.le_refl _) (c.hL.fresh (Nat.le_refl _))
end
end L2
namespace WD
open PySem L2 PySem.Spec PyProof.Rows TB
structure zD(n:Int)(ns:List Str)(r:Gr):Prop where
 nm:Yb true (.str r.nm)=true
 pl:r.pl∈ns
 z_:0<=r.tu
 z9:r.tu<=n
 AQ:0<=r.ma
 zM:r.ma<=3
noncomputable def sS(j:Nat):Str:=nX.getD (j % 3) ""
theorem Ge(j:Nat):sS j∈nX:=by have:j % 3<nX.length:=Nat.mod_lt _ (by decide);unfold sS;rw[aO,gE this];exact aB this
theorem E2(j:Nat):(nX.map V.str)[j % 3]?=some (.str (sS j)):=by have:j % 3<nX.length:=Nat.mod_lt _ (by decide);unfold sS;rw[aY,aO,gE this];rfl
noncomputable def vE(ts:List Str)(i:Nat):List Str:=(a_ i).map λj=>ts.getD j ""++sS j
theorem Ho{ts:List Str}(c:ts.Nodup)(nx:∀t∈ts,Nx t):(vE ts ts.length).Nodup:=by
 refine nodup_map_on List.nodup_range λx b y a e=>?_;rw[bq]at b a;have ex:ts.getD x ""=ts[x]:=by rw[aO,gE b];rfl
 have d:ts.getD y ""=ts[y]:=by rw[aO,gE a];rfl
 rw[ex,d]at e;exact(gH c).mp (LM (nx _ (aB b)) (nx _ (aB a)) (Ge x) (Ge y) e)
noncomputable def MP:Sp:=λvs H Q _=>∃(b lN:Addr)(n m:Int)(ns:List Str),vs=[.ref b,.int n,.ref lN,.int m]/\Zv H b/\H lN=some (.lst (ns.map V.str))/\lN≠b/\1<=ns.length/\ns.length<=20/\1<=n/\n<=49/\1<=m/\m<=20 /\∀H' l(rs:List Gr),Zv H' b->Zh b H H'->H l=none->gR b H' l (rs.map lB)->rs.length<=20->(rs.map (·.nm)).Nodup->(∀r∈rs,zD n ns r)->Q (.ref l) H'
section
variable {P:Program}{w:World}{K:ae}{mg:Str->Option Value}{base:Heap}
theorem YC:fx [jE,oB,n_,rf,qc,nZ,"_law_label","_law_place","_law_turn"] [jE,oB,n_,rf] (Ze T.lu):=jX
theorem Qr(B:∀x∈jO,mg x=none)(F:hY P w K mg base 1 qo [jE,mR] Xi)(CN:hY P w K mg base 2 "_law_names" [jE,mR] VS)(D:Df K mg "_law_groups" T.lu [jE,oB,n_,rf]):hY P w K mg base 3 "_law_groups" [jE,oB,n_,rf] MP:=by
 refine D.cn YC λf b6 A outer s H vs Q E hr h=>?_;obtain⟨b,lN,n,m,ns,rfl,hb,hN,nN,b1,b0,b3,b2,b5,b4,k⟩:=h;refine' ⟨_,(Za (st 4 YC.nd (ZD Zl)) (Za ?h9 (Zc (Zk (pv 4))))),?rd⟩;case' h9=>refine' (ZX aL rfl (PF rfl (bm B) (ju (cn CN hr (jz (pv 0) (cn F hr (jz (pv 0) (pv 3)))))) (by decide +kernel)) (YM rfl (Zq (jG 5 YC.nd) (Zq (jG 6 YC.nd) Ym))) (Za ?h5 (Za ?h6 (Zc ?h7))))
 case' h7=>refine' (Z9 (Vx bD bu bt YS (pv 4) (ju ?h4)))
 case' h6=>refine' (st 8 YC.nd (Zr Xk (cn F hr (jz (pv 0) (Zr ZL (pv 1) Zb))) (Yg Jw rfl (bm B) VO (ju (Yr G6 (cn F hr (jz (pv 0) Zb)) Zb (Zt _))))))
 case' h5=>refine' (st 7 YC.nd ?h2)
 case' h4=>refine' (Zx (Zg (Zr XX (pv 6) ?h3) (kg (pv 7) (pv 8) (cn F hr (jz (pv 0) Zb)))))
 case' h3=>refine' (il K (ZD (@Xq _ _ (by decide +kernel))) (Zr Xy (pv 5) Zb))
 case' h2=>refine' (il K (pv 2) (cn F hr (jz (pv 0) (Zw (r:=j_ K) ZG rfl (bm B) aT (ju (pv 2))))))
 case' rd=>
 refine⟨Nat.zero_le _,λe C=>?_⟩;have p:=hb.ne C;dsimp only[Zp,av];refine⟨_,rfl,_,rfl,_,rfl,b,m,rfl,hb.new C,by omega,ZO (by omega) (by omega),λc H1 c0 c1 B1 S1=>?_⟩;refine⟨b,c,rfl,B1,c0,by omega,λH2 W ts B2 S2 nL eL G hc nd nx=>?_⟩;have bM:Zh b H H2:=((Zh.refl b H).jq C).trans (S1.trans S2);have l:H1 e=some (.lst []):=S1 _ _ Zd p;have O:H2 e=some (.lst []):=S2 _ _ l p;have ak:W≠e:=λz=>by rw[z,l]at nL;cases nL
 have R0:gR b H2 e (([]:List Gr).map lB):=⟨p,[],O,rfl,λi a r h1=>by cases h1⟩;clear S1 S2 B1 l O c0;refine⟨W,_,rfl,eL,?_⟩;refine Yc (J:=Qu W) ts.length (λi σ H'=>Zv H' b/\Zh b H H'/\H' W=some (.lst (ts.map V.str))/\(∃rs:List Gr,gR b H' e (rs.map lB)/\rs.map (·.nm)=vE ts i/\∀r∈rs,zD n ns r)/\∃o:Nat->Option V,σ=[some (.ref b),some (.int n),some (.ref lN),some (.int m),some (.ref e),o 5,o 6,o 7,o 8]) ?_ (λi σ H' u q=>?_) (λσ H' q=>?_) (λi σ H' v H3 u q yl=>?_) (λσ H' q=>?_)
 .exact⟨B2,bM,eL,⟨[],R0,rfl,by simp⟩,j9 rfl⟩
 .exact⟨_,q.2.2.1,by simp[u]⟩
 .exact⟨_,q.2.2.1,by simp⟩
 .obtain⟨bx,sm,X,⟨rs,U,sub,Z⟩,o,rfl⟩:=q;obtain⟨t,xs,y,ht,I,hy,rfl,rfl⟩:=yl;rw[X]at I;cases I;have aM:y=V.str ts[i]:=by simp[u]at hy;exact hy.symm
  subst aM;have et:upd H' t (.tup [.int i,.str ts[i]]) t=some (.tup [.int i,.str ts[i]]):=Zd;have S3:Zh b H' (upd H' t (.tup [.int i,.str ts[i]])):=(Zh.refl b H').jq ht;have R:Zv (upd H' t (.tup [.int i,.str ts[i]])) b:=bx.new ht;generalize upd H' t (.tup [.int i,.str ts[i]])=H3 at et S3 R ⊢;refine⟨t,_,rfl,hO.of et,rfl,?_⟩;dsimp only[Zp,av];refine⟨_,_,rfl,_,_,rfl,rfl,?_⟩;dsimp only[Zp,av];refine td λD' a3=>?_;have bb:=sm.trans S3;have N:=bb _ _ hN nN;refine⟨_,rfl,_,rfl,_,rfl,lN,_,rfl,.inl (gp.of N),b,_,rfl,R,(by rw[lm];omega),ZO (by rw[lm];omega) (by rw[lm];omega),λr4 H4 ag ab B4 S4=>?_⟩;obtain⟨v4,a5,m4⟩:=at_of (xs:=ns.map V.str) ag ab;obtain⟨pl,aS,rfl⟩:=ao.mp m4;have a6:=S3.trans S4;refine⟨lN,_,_,_,rfl,rfl,gp.of (S4 _ _ N nN),a5,?_⟩;dsimp only[Zp,av];refine⟨_,rfl,_,rfl,_,_,rfl,rfl,b,_,rfl,B4,by omega,ZO (by omega) (by omega),λY H5 t0 t1 B5 S5=>?_⟩;refine oz B5 (λz H6 z0 z1 B6 S6=>?_);refine⟨_,_,rfl,rfl,.inr ⟨_,rfl,?_⟩⟩;refine⟨_,_,rfl,rfl,.inl ⟨by omega,by omega⟩,?_⟩;have S:=(a6.trans S5).trans S6;have L:0<=Y*(if decide (0<z)=true then 1 else 0)/\Y*(if decide (0<z)=true then 1 else 0)<=n:=by split<;>omega
  dsimp only[Zp,av];obtain⟨bT,e6,_⟩:=(U.same S).app;refine⟨_,rfl,.inl ⟨rfl,_,gp.of e6⟩,_,rfl,(zl),λlq hq=>?_⟩;have a4:upd H6 lq (.lst (nX.map V.str)) lq=some (.lst (nX.map V.str)):=Zd;have a0:(i:Int) % 3=((i % 3:Nat):Int):=by omega
  have M:=nx _ (aB u);have hlen:(ts[i]:Str).length+(sS i).length<=100:=by have h1:=M.1;have h2:=(QG _ (Ge i)).1;rw[Z1]at h1 h2;omega
  refine⟨_,rfl,_,_,rfl,rfl,(by show(0:Int)<3;decide),lq,_,_,_,rfl,rfl,gp.of a4,RJ (j:=i % 3) a0 (E2 i),_,_,rfl,rfl,Nat.le_trans hlen (by decide),_,rfl,_,rfl,oz (B6.new hq) (λma H8 m0 m1 B8 S8=>?_)⟩;have g:=(S.jq hq).trans S8;obtain⟨xs,eF,lx,app⟩:=(U.same g).app;refine⟨Nat.le_trans (by decide:4<=1000) (by decide),λq d=>?_⟩;have hl:rs.length=i:=by have:=congrArg gu sub;simpa[vE]using this
  have aC:e≠q:=fi eF d;refine⟨e,xs,_,rfl,rfl,(Zf aC).trans eF,Nat.lt_of_le_of_lt (by rw[lx,lm];omega:xs.length<=20) (by decide),?_⟩;have nq:=B8.ne d;refine a3 _ _ ⟨Zv.lD (B8.new d) p,XU ((sm.trans g).jq d) (Zh.refl b H) p C,?_,⟨rs++[⟨ts[i]++sS i,pl,Y*(if decide (0<z)=true then 1 else 0),ma⟩],?_,?_,?_⟩,j9 rfl⟩
  .rw[Zf ak,Zf (fi (g _ _ X G) d)];exact g _ _ X G
  .rw[aG];exact app q _ d nq
  .rw[aG,sub];unfold vE;rw[cJ,aG];congr 1;show[ts[i]++sS i]=[ts.getD i ""++sS i];rw[aO,gE u];rfl
  .intro r hr;rcases aF.mp hr with hr|hr
   .exact Z r hr
   .rw[aI]at hr;subst hr;exact⟨Hn M (Ge i),aS,L.1,L.2,m0,by show ma<=3;omega⟩
 .obtain⟨bx,sm,X,⟨rs,U,sub,Z⟩,o,rfl⟩:=q;have hl:rs.length=ts.length:=by have:=congrArg gu sub;simpa[vE]using this
  exact⟨_,rfl,k _ e rs bx sm C U (by omega) (sub▸Ho nd nx) Z⟩
end
noncomputable def dF:V->PyData
|.int i=>.int i
|.str z=>.str z
|.bl c=>.bool c
|_=>.none
open PySem L2 PySem.Spec PyProof.Rows TB
noncomputable def GS(z:Str):Prop:=z.length<=12/\∀c∈z.cps.toList,c<0x110000
noncomputable instance (z:Str):Decidable (GS z):=by unfold GS;infer_instance
inductive mT:V->Prop
|non:mT .non
|int {i:Int} (h:i.natAbs<=1000):mT (.int i)
|str {z:Str} (h:GS z):mT (.str z)
theorem mT.is  (h:mT v):Is H v (dF v):=by
 cases h with
|non=>exact .non
|int h=>exact .int _
|str h=>exact .str _
noncomputable def uO(ys:List V):Prop:=ys.length<=6/\∀y∈ys,mT y
structure Sm(d:PyData)(k m:Nat):Prop where
 sh:d.showable=true
 lv:d.leavesShort 13=true
 dp:d.depth<=k
 wt:d.weight<=m
theorem AR{i:Nat}(h:i<=1000):i.log2<=11:=by
 by_cases e:i=0
 .subst e;decide
 .exact Nat.lt_succ_iff.mp ((Nat.log2_lt e).mpr (by omega))
theorem shown_int{i:Int}(h:i.natAbs<=1000):((PyData.int i).shown).length<=13:=by
 have key:∀n:Nat,n<=1000->((PyData.int n).shown).length<=13/\((PyData.int (-(n:Int))).shown).length<=13:=by intro n a;have:=(by decide +kernel:∀k∈a_ 1001,((PyData.int (k:Nat)).shown).length<=13/\((PyData.int (-((k:Nat):Int))).shown).length<=13);exact this n (bq.mpr (by omega))
 rcases Int.natAbs_eq i with e|e
 .rw[e];exact(key _ h).1
 .rw[e];exact(key _ h).2
theorem mT.sm (h:mT v):Sm (dF v) 0 12:=by
 cases h with
|non=>exact⟨rfl,rfl,Nat.le_refl _,Nat.zero_le _⟩
|int h=>
  have:=AR h;refine⟨?_,?_,Nat.le_refl _,?_⟩
  .simp only[dF,PyData.showable,decide_eq_true_eq];omega
  .simp only[dF,PyData.leavesShort,decide_eq_true_eq];exact shown_int h
  .simp only[dF,PyData.weight];split<;>omega
|str h=>refine⟨by simp only[dF,PyData.showable],?_,Nat.le_refl _,h.1⟩;simp only[dF,PyData.leavesShort,bW,decide_eq_true_eq];exact λc a=>Nat.lt_of_lt_of_le (h.2 c a) (by decide)
structure ny(ds:List PyData)(k m:Nat):Prop where
 sh:PyData.showableAll ds=true
 lv:PyData.leavesShortAll 13 ds=true
 dp:PyData.depthAll ds<=k
 wt:PyData.weightAll ds<=ds.length*(m+1)
theorem ny.of{k m:Nat}:∀{ds:List PyData},(∀d∈ds,Sm d k m)->ny ds k m
|[],_=>⟨rfl,rfl,Nat.zero_le _,Nat.zero_le _⟩
|d::ds,h=>by
  have b:=h d ay;have a:=ny.of (ds:=ds) λx c=>h x (ar _ c);refine⟨?_,?_,?_,?_⟩
  .simp only[PyData.showableAll,b.sh,a.sh,Bool.and_self]
  .simp only[PyData.leavesShortAll,b.lv,a.lv,Bool.and_self]
  .simp only[PyData.depthAll];have:=b.dp;have:=a.dp;omega
  .simp only[PyData.weightAll,aR,Nat.succ_mul];have:=b.wt;have:=a.wt;omega
theorem ny.tup{ds:List PyData}{k m n:Nat}(h:ny ds k m)(a:ds.length<=n):Sm (.tuple ds) (k+1) (n*(m+1)):=by
 refine⟨?_,?_,?_,?_⟩
 .simp only[PyData.showable,h.sh]
 .simp only[PyData.leavesShort,h.lv]
 .simp only[PyData.depth];have:=h.dp;omega
 .simp only[PyData.weight];exact Nat.le_trans h.wt (Nat.mul_le_mul_right _ a)
theorem Sm.mono {k m b a:Nat}(h:Sm d k m)(hk:k<=b)(hm:m<=a):Sm d b a:=⟨h.sh,h.lv,Nat.le_trans h.dp hk,Nat.le_trans h.wt hm⟩
theorem mT.lay (h:mT v):(dF v).canLay0=true:=by
 cases h with
|non=>rfl
|int h=>rfl
|str h=>show(Array.all _ _)=true;rw[Array.all_eq_true'];intro c a;exact decide_eq_true (h.2 c (fE.mpr a))
theorem SA:∀{ds:List PyData},(∀d∈ds,d.canLay0=true)->PyData.canLayAll0 ds=true
|[],_=>rfl
|d::ds,h=>by show(d.canLay0&&PyData.canLayAll0 ds)=true;rw[h d ay,SA λe he=>h e (ar _ he)];rfl
end WD
namespace TB
open PySem L2 PySem.Spec PyProof.Rows WD
theorem LP.same (sm:fy H H') (h:LP H v r):LP H' v r:=by
 cases r with
|none=>obtain⟨T,c,a⟩:=h;exact⟨T,c.same sm,a⟩
|some q=>
  obtain⟨xs,rs⟩:=q;obtain⟨⟨p,rfl,hp⟩,f,e⟩:=h;refine⟨⟨p,rfl,?_⟩,f,λi y r j g=>?_⟩
  .rcases hp with hp|hp
   .exact .inl (sm _ _ hp)
   .exact .inr (sm _ _ hp)
  .have:=e i y r j g;cases r with
  |none=>obtain⟨T,c,a⟩:=this;exact⟨T,c.same sm,a⟩
  |some l=>obtain⟨p,rfl,a,b⟩:=this;exact⟨p,rfl,sm _ _ a,λy d=>let ⟨T,c⟩:=b y d;⟨T,c.same sm⟩⟩
structure tL(H:Hp)(C t:Addr)(fs:List (Str×V))(n:Int)(r1 r2 r3 r4:PR)(k:Ks):Prop where
 tab:TabOf H C t fs n r1 r2 r3 r4 k
 rows:∀r,r=r1\/r=r2\/r=r3\/r=r4->∀xs rs,r=some (xs,rs)->Xe H xs rs
theorem Row.same (s:fy H H') (h:Row H v r):Row H' v r:=by
 cases r with
|none=>obtain⟨T,t,n⟩:=h;exact⟨T,t.same s,n⟩
|some c=>obtain⟨p,e,a,t⟩:=h;exact⟨p,e,s _ _ a,λy b=>let ⟨T,u⟩:=t y b;⟨T,u.same s⟩⟩
theorem Xe.same (s:fy H H') (h:Xe H xs rs):Xe H' xs rs:=⟨h.1,λi x r b a=>(h.2 i x r b a).same s⟩
theorem Vh.same (s:fy H H')   (h:Vh H fs f g r k):Vh H' fs f g r k:=by obtain⟨l,d,xs,rs,a1,a2,c,b,a⟩:=h;exact⟨l,d,xs,rs,a1,a2,c,s _ _ b,s _ _ a⟩
theorem tL.same   {n:Int} (s:fy H H')(h:tL H C t fs n d c b a k):tL H' C t fs n d c b a k:=⟨⟨⟨let ⟨i,e⟩:=h.tab.tab.at_;⟨i,s _ _ e⟩,h.tab.tab.only⟩,h.tab.turns,h.tab.p.same s,h.tab.r.same s,h.tab.w.same s,h.tab.g.same s⟩,λr f xs rs e=>(h.rows r f xs rs e).same s⟩
end TB
namespace WD
open PySem L2 PySem.Spec PyProof.Rows TB
noncomputable def isJ(j:Nat):Prop:=j=1\/j=2\/j=3\/j=4
theorem Hq  (h:Flat y):∃T,Th H y T:=by
 rcases h with rfl|⟨i,rfl⟩|⟨z,rfl,hz⟩
 .exact⟨_,.non⟩
 .exact⟨_,.int i⟩
 .exact⟨_,.str z hz⟩
structure nr(b:Addr)(H:Hp)(p:Addr)(T:Tb)(l1 l2 l3 l4:Addr):Prop where
 ne:p≠b
 at_:H p=some (.lst [.int T.n,.ref l1,.ref l2,.ref l3,.ref l4])
 pl:gR b H l1 T.t1
 rd:gR b H l2 T.t2
 wy:gR b H l3 T.t3
 gr:gR b H l4 T.t4
theorem nr.same     (s:Zh b H H')(h:nr b H p T e d c a):nr b H' p T e d c a:=⟨h.ne,s _ _ h.at_ h.ne,h.pl.same s,h.rd.same s,h.wy.same s,h.gr.same s⟩
theorem gR.part    (h:gR b H l rows)(hf:∀p∈rows,∀y∈p,Flat y):∃xs:List V,xs.length=rows.length/\H l=some (.lst xs)/\(∀x∈xs,∃a,x=.ref a/\a≠b)/\Xe H xs (rows.map some):=by
 obtain⟨n,as,e,c,r⟩:=h;refine⟨as.map V.ref,by rw[lm,c],e,λx u=>?_,by simp[c],λi x w o j=>?_⟩
 .obtain⟨a,d,rfl⟩:=ao.mp u;obtain⟨i,g⟩:=aJ.mp d;have v:i<rows.length:=by rw[<-c];exact(aj.mp g).1
  exact⟨a,rfl,(r i a _ g (gE v)).1⟩
 .rw[aY]at o j;obtain⟨a,d,rfl⟩:=bV.mp o;obtain⟨q,f,rfl⟩:=bV.mp j;exact⟨a,rfl,(r i a q d f).2,λy s=>Hq (hf q (aK f) y s)⟩
theorem hI.flat (o:hI T){j:Nat}(b:isJ j):∀a∈T.part j,∀y∈a,Flat y:=λa h=>((o.part j b).2.row a h).flat
noncomputable def qE(H:Hp)(C t:Addr)(T:Tb):Prop:=∃fs x1 x2 x3 x4 k,tL H C t fs T.n (vq x1 T.t1) (vq x2 T.t2) (vq x3 T.t3) (vq x4 T.t4) k/\uL T x2 x3 x4 k
theorem qE.same   (s:fy H H')(h:qE H C t T):qE H' C t T:=by obtain⟨fs,e,c,b,a,k,tp,d⟩:=h;exact⟨fs,e,c,b,a,k,tp.same s,d⟩
theorem Kg {n:Int}(h:VX k1 n s l g a m=.non):Y6 k1 s g=.non/\∃i,l=.int i/\K1.Zy (.int i) 0 (n-1)=true/\K1.Zy a (i+1) n=true/\K1.Zy m 0 1000=true:=by
 unfold VX at h;by_cases e:Y6 k1 s g=.non
 .rw[if_neg (λz=>z e)]at h;refine⟨e,?_⟩;cases l with
 |int i=>dsimp only at h;refine⟨i,rfl,?_⟩;cases d:K1.Zy (.int i) 0 (n-1)<;>cases c:K1.Zy a (i+1) n<;>cases b:K1.Zy m 0 1000<;>simp_all
 |_=>cases h
 .rw[if_pos e]at h;exact absurd h e
theorem LR  (h:o_ k1 s g l m=.non):Y6 k1 s g=.non/\K1.Zy l 1 50=true/\K1.Zy m 0 1000=true:=by
 unfold o_ at h;by_cases e:Y6 k1 s g=.non
 .rw[if_neg (λz=>z e)]at h;refine⟨e,?_⟩;cases b:K1.Zy l 1 50<;>cases a:K1.Zy m 0 1000<;>simp_all
 .rw[if_pos e]at h;exact absurd h e
theorem TZ {n pp:Int}(h:Xz k1 n pp p t m=.non):ZR p k1=true/\K1.Zy t 0 n=true:=by unfold Xz at h;cases b:ZR p k1<;>cases a:K1.Zy t 0 n<;>simp_all
theorem Ud  (h:Y6 k1 s g=.non):ZR s k1=true/\ZR g k1=true/\V9 s k1=false:=by unfold Y6 at h;cases c:ZR s k1<;>cases b:ZR g k1<;>cases a:V9 s k1<;>simp_all
theorem NM  (h:Yb g (.str z)=true):z.length<=1000:=by
 have a:K1.og 12 (codes z)=true\/K1.og 8 (codes z)=true:=by
  cases g
  .right;have h':K1.Jq 8 (K1.codes K1.kO) (codes z)=true:=h;unfold K1.Jq K1.YT at h';exact(Bool.and_eq_true_iff.mp (Bool.and_eq_true_iff.mp h').1).1
  .left;have h':K1.Jq 12 (K1.codes K1.jV) (codes z)=true:=h;unfold K1.Jq K1.YT at h';exact(Bool.and_eq_true_iff.mp (Bool.and_eq_true_iff.mp h').1).1
 unfold K1.og at a;rw[Z1]at a;simp only[Bool.and_eq_true,decide_eq_true_eq]at a;omega
theorem Qi  (h:Ends ps s g)(hk:Ut k1 (ps.map jD)):Y6 k1 (.str s) (.str g)=.non:=by obtain⟨⟨i,b⟩,⟨r,a⟩,ne⟩:=h;have d:f' k1 (.inr s)=some (.int i):=hk _ (ao.mpr ⟨_,b,rfl⟩);have c:f' k1 (.inr g)=some (X8 r):=hk _ (ao.mpr ⟨_,a,rfl⟩);unfold Y6 ZR V9;simp only[d,c,Option.isSome_some,Bool.not_true,Bool.or_false,Bool.false_eq_true,if_false];rw[if_neg (by simp),if_neg (by intro z;injection z with z;exact ne z.symm)]
theorem Xw(i:Int):Flat (.int i):=.inr (.inl ⟨i,rfl⟩)
theorem Xb{z:Str}(h:z.length<=1000):Flat (.str z):=.inr (.inr ⟨z,rfl,h⟩)
section
variable {n:Int}{ps:Pl}
theorem Af{p:Str×Option Int}(b:Yb false (.str p.1)=true)(c:∀i,p.2=some i->0<=i/\i<=1000):kj 1 n t1 (jD p):=by
 refine⟨rfl,b,λk1 _ pp _=>?_,λz=>(by cases z),λy a=>?_⟩
 .show YB (X8 p.2)=.non;unfold YB;rw[if_pos];cases e:p.2 with
 |none=>rfl
 |some i=>have:=c i e;simp[X8,K1.Zy,this.1,this.2]
 .simp only[jD,au,aQ,or_false]at a;rcases a with rfl|rfl
  .exact Xb (NM b)
  .cases p.2 with
  |none=>exact .inl rfl
  |some i=>exact Xw i
theorem Ab(c:∀p∈ps,p.1.length<=1000)(g:uU n ps r)(b:Yb false (.str r.nm)=true):kj 2 n (ps.map jD) (mX r):=by
 refine⟨rfl,b,λk1 hk pp _=>?_,λz=>(by cases z),λy a=>?_⟩
 .show VX k1 n (.str r.st) (.int r.lv) (.str r.gl) (.int r.cm) (.int r.se)=.non;unfold VX;rw[Qi g.ends (hk (by decide)),if_neg (λz=>z rfl)];dsimp only;rw[Xg g.xZ g.xY,Xg g.yP g.yO,Xg g.xk g.xj];rfl
 .obtain⟨⟨i,e⟩,⟨x,d⟩,_⟩:=g.ends;simp only[mX,au,aQ,or_false]at a;rcases a with rfl|rfl|rfl|rfl|rfl|rfl
  .exact Xb (NM b)
  .exact Xb (c _ e)
  .exact Xw _
  .exact Xb (c _ d)
  .exact Xw _
  .exact Xw _
theorem HJ(c:∀p∈ps,p.1.length<=1000)(g:uT ps r)(b:Yb false (.str r.nm)=true):kj 3 n (ps.map jD) (mU r):=by
 refine⟨rfl,b,λk1 hk pp _=>?_,λz=>(by cases z),λy a=>?_⟩
 .show o_ k1 (.str r.st) (.str r.gl) (.int r.lo) (.int r.wi)=.non;unfold o_;rw[Qi g.ends (hk (by decide)),if_neg (λz=>z rfl),Xg g.x8 g.lo1,Xg g.wH g.wG];rfl
 .obtain⟨⟨i,e⟩,⟨x,d⟩,_⟩:=g.ends;simp only[mU,au,aQ,or_false]at a;rcases a with rfl|rfl|rfl|rfl|rfl
  .exact Xb (NM b)
  .exact Xb (c _ e)
  .exact Xb (c _ d)
  .exact Xw _
  .exact Xw _
theorem Aq{t1:List (List V)}{r:Gr}{v:V}(a:∃p∈t1,nameOf p=r.pl)(pl:r.pl.length<=1000)(t0:0<=r.tu)(b:r.tu<=n)(m0:0<=r.ma)(h:r.ma<=300)(f:Yb true (.str r.nm)=true):kj 4 n t1 (lB r):=by
 refine⟨rfl,f,λk1 hk pp c=>?_,λ_=>m0,λy d=>?_⟩
 .show Xz k1 n pp (.str r.pl) (.int r.tu) (.int r.ma)=.non;obtain⟨p,a,e⟩:=a;have g:=hk (by decide) p a;rw[e]at g;unfold Xz;rw[show ZR (.str r.pl) k1=true from by show(f' k1 (.inr r.pl)).isSome=true;rw[g];rfl,Xg t0 b];dsimp only;rw[Xg m0 h];have:=c rfl;have em:ZM (lB r)=r.ma:=rfl;rw[em]at this;simp only[Bool.not_true,Bool.false_eq_true,if_false];rw[if_neg (by omega)]
 .simp only[lB,au,aQ,or_false]at d;rcases d with rfl|rfl|rfl|rfl
  .exact Xb (NM f)
  .exact Xb pl
  .exact Xw _
  .exact Xw _
end
theorem NJ (o:hI T):∃k1,lT k1 T.t1:=by obtain⟨k1,_,d,_⟩:=Tu (j:=1) (k1:=[]) (n:=T.n) (t1:=T.t1) (.inl rfl) (λh=>absurd rfl h) (o.part 1 (.inl rfl)) (xs:=T.t1.map λ_=>V.non) (by rw[lm];rfl);exact⟨k1,d rfl⟩
theorem GQ:(∀c∈K1.codes K1.kO,c<0x110000)/\∀c∈K1.codes K1.jV,c<0x110000:=by decide +kernel
theorem DA  (h:Yb g (.str z)=true):GS z:=by
 cases g
 .have h':K1.Jq 8 (K1.codes K1.kO) (codes z)=true:=h;unfold K1.Jq K1.YT K1.og at h';simp only[Bool.and_eq_true,decide_eq_true_eq,bW]at h';exact⟨by rw[<-Z1];omega,λc a=>GQ.1 c (h'.1.2 c a)⟩
 .have h':K1.Jq 12 (K1.codes K1.jV) (codes z)=true:=h;unfold K1.Jq K1.YT K1.og at h';simp only[Bool.and_eq_true,decide_eq_true_eq,bW]at h';exact⟨by rw[<-Z1];omega,λc a=>GQ.2 c (h'.1.2 c a)⟩
theorem within_int {lo a:Int}(h:K1.Zy v lo a=true):∃i,v=.int i/\lo<=i/\i<=a:=by
 cases v with
|int i=>have h':(decide (lo<=i)&&decide (i<=a))=true:=h;simp only[Bool.and_eq_true,decide_eq_true_eq]at h';exact⟨i,rfl,h'.1,h'.2⟩
|_=>cases h
theorem U4 {n pp:Int}(h:Xz k1 n pp p t m=.non):ZR p k1=true/\K1.Zy t 0 n=true/\∃i,m=.int i/\0<=i/\i<=300:=by
 obtain⟨b,a⟩:=TZ h;refine⟨b,a,?_⟩;unfold Xz at h;rw[b,a]at h;cases m with
|int i=>
  cases hw:K1.Zy (.int i) 0 300 with
 |true=>exact within_int hw
 |false=>dsimp only at h;rw[hw]at h;cases h
|_=>cases h
theorem Rf  (hk:lT k1 t1)(h:ZR x k1=true):∃p∈t1,x=.str (nameOf p):=by
 obtain⟨z,v,rfl,a⟩:=Yh h;by_cases hz:z∈t1.map nameOf
 .obtain⟨p,b,e⟩:=ao.mp hz;exact⟨p,b,by rw[e]⟩
 .rw[hk.no z hz]at a;cases a
section
variable {T:Tb}(o:hI T)
include o
theorem GY{j:Nat}(b:isJ j){a:List V}(h:a∈T.part j):kj j T.n T.t1 a:=(o.part j b).2.row a h
theorem J4{j:Nat}(b:isJ j){a:List V}(h:a∈T.part j):at_ a 0=.str (nameOf a)/\GS (nameOf a):=by have r:=GY o b h;refine⟨r.name,?_⟩;have:=r.nm;rw[show at_ a 0=.str (nameOf a)from r.name]at this;exact DA this
theorem UK (hk:lT k1 T.t1)(h:ZR x k1=true):mT x:=by obtain⟨p,a,rfl⟩:=Rf hk h;exact .str (J4 o (j:=1) (.inl rfl) a).2
theorem Xp{b:List V}(h:b∈T.t1):∃p:Str×Option Int,b=jD p/\GS p.1/\∀i,p.2=some i->0<=i/\i<=1000:=by
 have r:=GY o (j:=1) (.inl rfl) h;obtain⟨n,g⟩:=J4 o (j:=1) (.inl rfl) h;have hw:YB (at_ b 1)=.non:=r.why [] (λz=>absurd rfl z) 0 (λz=>by cases z);obtain⟨a,c,rfl⟩:=m6 r.len;have f:a=.str (nameOf [a,c]):=n;have hw:YB c=.non:=hw;unfold YB at hw;by_cases e:c=.non
 .exact⟨(nameOf [a,c],none),by rw[e];rw[e]at f;rw[<-f.symm];rfl,g,λi q=>by cases q⟩
 .have d:K1.Zy c 0 1000=true:=by
   cases d:K1.Zy c 0 1000 with
  |true=>rfl
  |false=>rw[d,decide_eq_false e,Bool.or_false,if_neg (by decide)]at hw;cases hw
  obtain⟨i,rfl,h0,l⟩:=within_int d;exact⟨(nameOf [a,.int i],some i),by rw[<-f.symm];rfl,g,λj q=>by cases q;exact⟨h0,l⟩⟩
theorem Tq{u:List V}(h:u∈T.t2)(hk:Ut k1 T.t1):∃z s lv g p l,u=[.str z,s,.int lv,g,.int p,.int l]/\nameOf u=z/\Y6 k1 s g=.non/\0<=lv/\lv<=T.n-1/\lv+1<=p/\p<=T.n/\0<=l/\l<=1000:=by have r:=GY o (j:=2) (.inr (.inl rfl)) h;have hw:Kh k1 T.n u=.non:=r.why k1 (λ_=>hk) 0 (λz=>by cases z);obtain⟨a,b,c,d,e,f,rfl⟩:=sZ r.len;have y:a=.str (nameOf [a,b,c,d,e,f]):=r.name;have hw:VX k1 T.n b c d e f=.non:=hw;obtain⟨he,i,rfl,x,w,v⟩:=Kg hw;obtain⟨E,q,a1,a2⟩:=within_int x;cases q;obtain⟨p,rfl,D,C⟩:=within_int w;obtain⟨l,rfl,B,A⟩:=within_int v;exact⟨_,b,i,d,p,l,congrArg (λq=>q::[b,.int i,d,.int p,.int l]) y,rfl,he,a1,a2,D,C,B,A⟩
theorem Qj (hk:lT k1 T.t1)(h:Y6 k1 s g=.non):mT s/\mT g:=⟨UK o hk (Ud h).1,UK o hk (Ud h).2.1⟩
end
structure GD(j:Nat)(t:List (List V))(xs:List V)(i:Nat)(f5:Kv):Prop where
 has:∀(m:Nat)y x,m<i->t[m]?=some y->xs[m]?=some x->f' f5 (.inr (nameOf y))=some (if j=1 then at_ y 1 else x)
 no:∀z,z∉(t.take i).map nameOf->f' f5 (.inr z)=none
 len:f5.length<=i
section
variable {j i:Nat}{t:List (List V)}{xs:List V}{f5:Kv}{y:List V}{x:V}
theorem GD.nil:GD j t xs 0 []:=⟨λ_ _ _ h=>absurd h (Nat.not_lt_zero _),λ_ _=>rfl,Nat.le_refl _⟩
theorem GD.fresh(g:GD j t xs i f5)(d:(t.map nameOf).Nodup)(e:t[i]?=some y):f' f5 (.inr (nameOf y))=none:=g.no _ λh=>by
 obtain⟨q,f,eq⟩:=ao.mp h;obtain⟨m,hm⟩:=aJ.mp f;have a:m<i:=by have:=(aj.mp hm).1;rw[aN]at this;omega
 rw[gC a]at hm;have n:(t.map nameOf)[m]?=some (nameOf y):=by rw[aY,hm,<-eq];rfl
 have l:(t.map nameOf)[i]?=some (nameOf y):=by rw[aY,e];rfl
 obtain⟨p1,c⟩:=aj.mp n;obtain⟨p2,b⟩:=aj.mp l;exact List.pairwise_iff_getElem.mp d m i p1 p2 a (c.trans b.symm)
theorem GD.step(g:GD j t xs i f5)(f:(t.map nameOf).Nodup)(e:t[i]?=some y)(ex:xs[i]?=some x):GD j t xs (i+1) (putK f5 (.inr (nameOf y)) (if j=1 then at_ y 1 else x)):=by
 refine⟨λm q z hm c b=>?_,λz hz=>?_,?_⟩
 .rw[YW];by_cases h:m=i
  .subst h;rw[e]at c;rw[ex]at b;cases c;cases b;rw[if_pos rfl]
  .have d:m<i:=by omega
   have a:=g.has m q z d c b;rw[if_neg (λz=>by injection z with z;rw[z,g.fresh f e]at a;cases a)];exact a
 .rw[a9,e,aG,aF,not_or]at hz;rw[YW,if_neg (λq=>hz.2 (by injection q with q;rw[q];exact aI.mpr rfl))];exact g.no z hz.1
 .have:=YO f5 (cD (nameOf y)) (if j=1 then at_ y 1 else x);have:=g.len;omega
theorem Ef{n:Int}(r:kj j n t1 y)(h:f' f5 (.inr (nameOf y))=none):jZ (gJ j) (pO j) f5 (some y)=.non:=by show pC _ _ _ _=_;unfold pC;rw[if_neg (λz=>z r.len),show Yb (gJ j) (y.getD 0 .non)=true from r.nm,if_neg (by decide),r.name];rw[show ZR (.str (nameOf y)) f5=false from by show(f' f5 _).isSome=false;rw[h];rfl,if_neg (by decide)]
end
noncomputable def dJ:Nat->Str
|1=>oq|2=>"ride_by_name"|3=>"way_by_name"|_=>rg
theorem MC{j:Nat}(a:isJ j):(Yu j,pO j)∈PK/\(Yu j,PY j)∈Su/\decide (Yu j="groups")=gJ j/\Yu j∈fields/\dJ j∈fields/\"turns"≠Yu j/\"turns"≠dJ j:=by rcases a with rfl|rfl|rfl|rfl<;>exact⟨by simp[PK,Yu,pO],by simp[Su,Yu,PY],by decide +kernel,by simp[fields,Yu],by simp[fields,dJ],by decide +kernel,by decide +kernel⟩
theorem WI{i j:Nat}(b:isJ i)(a:isJ j):(i≠j->Yu i≠Yu j/\dJ i≠dJ j)/\Yu i≠dJ j:=by rcases b with rfl|rfl|rfl|rfl<;>rcases a with rfl|rfl|rfl|rfl<;>decide +kernel
noncomputable def Bg(j:Nat)(H:Hp)(fs:List (Str×V))(n:Int)(t1:List (List V)):Prop:=j≠1->fs.lookup ("turns":Str)=some (.int n)/\∃dP kP,fs.lookup (oq:Str)=some (.ref dP)/\H dP=some (.dK kP)/\Ut kP t1
noncomputable def XH(C:Addr)(j:Nat):Sp:=λvs H Q _=>∃(t l dx:Addr)(xs:List V)(ts:List (List V))(fs:List (Str×V))(n:Int)(t1:List (List V)),vs=[.ref t,.ref l]/\H t=some (.ins C dx fs)/\(∀g,g∉fields->fs.lookup g=none)/\fs.length<=20/\Bg j H fs n t1/\H l=some (.tup xs)/\Xe H xs (ts.map some)/\RN j n t1 ts /\∀H' d f5,Zh t H H'->H d=none->d≠t->H' d=some (.dK f5)->GD j ts xs ts.length f5->H' t=some (.ins C dx (jB (dJ j) (.ref d) (jB (Yu j) (.ref l) fs)))->Q .non H'
section
variable {K:ae}{C:Addr}{H H2:Hp}{t l d dx:Addr}{fs:List (Str×V)}{D:L2.Ends}{σ:L2.St}
theorem Jy(Z:nV K C){f g:Str}(j:f∈fields)(i:g∈fields){u:TS}(s0:σ[0]?=some (some (.ref t)))(s1:σ[1]?=some (some (.ref l)))(n:H t=some (.ins C dx fs))(p:fs.length<=20)(k:∀H2 d,Zh t H H2->H d=none->d≠t->H2 d=some (.dK [])->H2 t=some (.ins C dx (jB g (.ref d) (jB f (.ref l) fs)))->u D σ H2):qY (ug K (lC 0) (lC 1) f) (qY (ug K (lC 0) WO g) u) D σ H:=by
 have q:=Y5 f (V.ref l) fs;refine⟨_,s1,_,s0,t,C,dx,_,rfl,n,Z.cl,Z.na _ j,by omega,?_⟩;have t1:upd H t (.ins C dx (jB f (.ref l) fs)) t=some (.ins C dx (jB f (.ref l) fs)):=Zd;refine λd hd=>⟨_,s0,t,C,dx,_,rfl,(by rw[Zf (fi t1 hd)];exact t1),Z.cl,Z.na _ i,by omega,?_⟩;have a:d≠t:=bK (fi t1 hd);have b:H d=none:=by rw[Zf a]at hd;exact hd
 refine k _ d (λc o h e=>?_) b a (by rw[Zf a,Zd]) Zd;rw[Zf e,Zf (fi h b),Zf e];exact h
theorem Vj{a b j:Nat}{P:TS}{ts:List (List V)}(Ps:Nat->L2.St->Prop)(s1:σ[1]?=some (some (.ref l)))(R:H t=some (.ins C dx fs))(v:H l=some (.tup xs))(O:H d=none)(N:d≠t)(rows:Xe H xs (ts.map some))(Q:(ts.map nameOf).Nodup)(sm:Zh t H H2)(d2:H2 d=some (.dK []))(Z:H2 t=some (.ins C dx E))(p0:Ps 0 σ)(body:∀i x y e H' f W,xs[i]?=some x->ts[i]?=some y->Ps i f->Zh t H H'->H' t=some (.ins C dx E)->H' d=some (.dK e)->e.length<=i->f' e (.inr (nameOf y))=none->Row H' x (some y) ->(∀A u,Zh t H A->A t=some (.ins C dx E)->A d=some (.dK e)->Ps (i+1) u->W.nx u (upd A d (.dK (putK e (.inr (nameOf y)) (if j=1 then at_ y 1 else x)))))->P W ((f.set a (some (.int i))).set b (some x)) H')(k:∀H' f e,Zh t H H'->H' d=some (.dK e)->GD j ts xs ts.length e->H' t=some (.ins C dx E)->D.nx f H'):vi (vD (Y7 (lC 1) jn)) (uD K 2 (Lm (Zp a) (Lm (Zp b) vF))) P D σ H2:=by
 have q:l≠t:=hA v R (by intro z;cases z);have L:xs.length=ts.length:=by rw[rows.1,lm]
 refine⟨_,s1,l,xs,rfl,sm _ _ v q,Yc (J:=tO l) xs.length (λi f H'=>Ps i f/\Zh t H H'/\H' t=some (.ins C dx E)/\∃e,H' d=some (.dK e)/\GD j ts xs i e) ⟨p0,sm,Z,[],d2,.nil⟩ (λi f H' S p=>⟨xs,p.2.1 _ _ v q,S⟩) (λf H' p=>⟨xs,p.2.1 _ _ v q,rfl⟩) (λi f H' x ag S p X=>?_) (λf H' p=>?_)⟩
 .obtain⟨ps,n,tt,e,G,g⟩:=p;obtain⟨U,ab,y,hT,T,F,rfl,rfl⟩:=X;rw[n _ _ v q]at T;cases T;have M:i<ts.length:=by omega
  have w:ts[i]?=some ts[i]:=gE M;have s:=rows.2 i y (some ts[i]) F (by rw[aY,w];rfl);generalize ts[i]=r at w s;have I:fy H' (upd H' U (.tup [.int i,y])):=sameNew (fy.refl H') hT;have B:=n.trans (Zh.of I);refine⟨U,_,rfl,hO.of Zd,rfl,_,_,rfl,_,_,rfl,rfl,?_⟩;refine body i y r e _ f _ F w ps B (I _ _ tt) (I _ _ G) g.len (g.fresh Q w) (s.me R B) λA u s4 Y d4 p4=>⟨p4,λc o h hc=>?_,?_,_,Zd,g.step Q w F⟩
  .rw[Zf (fi h O)];exact s4 c o h hc
  .rw[Zf (bK N)];exact Y
 .obtain⟨_,n,tt,e,G,g⟩:=p;exact k H' f e n G (L▸g) tt
theorem Ga{j:Nat}(f:isJ j){n:Int} {y:List V}{Q:VK}(e:Row H x (some y))(r:kj j n t1 y)(hd:H d=some (.dK a))(c:f' a (.inr (nameOf y))=none)(k:∀H',fy H H'->Q .non H'):Jg [.str (Yu j),x,.ref d] H Q E:=by obtain⟨b,_,g,_⟩:=MC f;refine⟨_,_,x,some y,d,a,rfl,b,e,hd,λH' s=>?_⟩;rw[g,Ef r c];exact k H' s
end
noncomputable def Jh:Sp:=λvs H Q _=>∃p a,vs=[p,a,.non]/\Q .non H
noncomputable def Nq:Sp:=λvs H Q _=>∃z n p xs,vs=[.str z,.ref p]/\(z,n)∈Su/\(H p=some (.lst xs)\/H p=some (.tup xs))/\xs.length<=n/\∀H1 l,fy H H1->H1 l=some (.tup xs)->Q (.ref l) H1
section
variable {P:Program}{w:World}{K:ae}{mg:Str->Option Value}{base:Heap}{C:Addr}
theorem Mx:fx ["part","at","why"] ["part","at","why"] (Ze T.lI):=jX
theorem Qq(D:Df K mg "refuse_row" T.lI ["part","at","why"]):hY P w K mg base 1 "refuse_row" ["part","at","why"] Jh:=by refine D.cn Mx λf b A outer s H vs Q E c h=>?_;obtain⟨p,a,rfl,k⟩:=h;refine⟨_,(Zc (ZA (Zo V6 (pv 2) ZJ (Zt _)) (Zc Xu) Zn)),?_⟩;refine⟨_,rfl,rfl,_,rfl,?_⟩;exact jI k
theorem QN:fx ["part","rows"] ["part","rows"] (Ze T.nS):=jX
theorem Wl(B:∀x∈jO,mg x=none)(M:p_ K w mg)(D:Df K mg "rows_of" T.nS ["part","rows"]):hY P w K mg base 1 "rows_of" ["part","rows"] Nq:=by
 obtain⟨b,o,k1,F,y,u⟩:=M.at_;refine D.cn QN λf r A outer s H vs Q E G h=>?_;obtain⟨z,n,p,xs,rfl,hz,hp,e,k⟩:=h;have q:X4 K w b z (.int n):=by simp only[Su,au,h_,aQ,or_false]at hz;rcases hz with⟨rfl,rfl⟩|⟨rfl,rfl⟩|⟨rfl,rfl⟩|⟨rfl,rfl⟩<;>assumption
 refine⟨_,Za (ZA (ZK (ZH (Zw Ng rfl (bm B) dj (Zi (pv 1) (Zi (Zx (Zi (V4 (v:=V.ty "list") rfl (bm B) XN rfl) (Zi (V4 (v:=V.ty "tuple") rfl (bm B) YQ rfl) Zl))) Zl))))) (Zc Xu) Zn) (Za (ZA (Zo G6 (Zw JU rfl (bm B) aT (Zi (pv 1) Zl)) (Ss (Ye (v:=V.ref b) rfl o rfl) (pv 0) (λ_ _=>rfl)) (Zt _)) (Zc Xu) Zn) (Zc (Zk (Yg Jd rfl (bm B) YQ (Zi (pv 1) Zl))))),?_⟩;obtain⟨a,d,j⟩:∃a,Th H (.ref p) a/\(a="list"\/a="tuple"):=by
  rcases hp with hp|hp
  .exact⟨_,.lst hp,.inl rfl⟩
  .exact⟨_,.tup hp,.inr rfl⟩
 refine⟨_,rfl,zl,λl e=>?_⟩;have sm:fy H (upd H l (.tup [V.ty "list",V.ty "tuple"])):=sameNew (fy.refl H) e;refine⟨.ref p,l,["list","tuple"],a,_,rfl,d.same sm,Zd ..,(d.same sm).rX,_,rfl,?_⟩;rw[decide_eq_true j];refine jI ?_;generalize upd H l (.tup [V.ty "list",V.ty "tuple"])=H1 at sm ⊢;have i:gp K H1 p xs\/hO K H1 p xs:=by
  rcases hp with hp|hp
  .exact .inl (gp.of (sm _ _ hp))
  .exact .inr (hO.of (sm _ _ hp))
 refine⟨_,rfl,p,xs,rfl,i,_,rfl,b,z,.int n,rfl,rfl,q,_,_,rfl,rfl,_,rfl,?_⟩;rw[decide_eq_false (by omega)];refine jI ?_;refine⟨_,rfl,p,xs,rfl,?_⟩;rcases hp with hp|hp
 .exact .inl ⟨gp.of (sm _ _ hp),λg c=>k _ g (sameNew sm c) (Zd ..)⟩
 .exact .inr ⟨hO.of (sm _ _ hp),k _ p sm (sm _ _ hp)⟩
section
variable {H:Hp}{t dx dP:Addr}{F:List (Str×V)}{n:Int}{t1:List (List V)}{kP:Kv}{x:V}{y:List V}{Q:VK}{E:XK}
theorem NF{j:Nat}(r:kj j n t1 y):kZ y 0=some (.str (nameOf y)):=by
 have h:=r.name;have a:0<y.length:=by rw[r.len];unfold pO;split<;>decide
 have e:y[0]?=some (.str (nameOf y)):=by rw[gE a];rw[aO,gE a]at h;exact congrArg some h
 exact Zj (j:=0) e
theorem SY(f:Row H x (some y))(r:kj 1 n t1 y)(k:Q .non H):GK [x] H Q E:=by obtain⟨q,rfl,g,d⟩:=f;have e:=r.why [] (λh=>absurd rfl h) 0 (λh=>by cases h);obtain⟨a,b,rfl⟩:=m6 r.len;obtain⟨T,i⟩:=d b (by simp);have c:YB b=.non:=e;exact⟨q,a,b,T,rfl,g,i,by rw[c];exact k⟩
variable (ht:H t=some (.ins C dx F))(only:∀g,g∉fields->F.lookup g=none)(hd:F.lookup (oq:Str)=some (.ref dP))(hn:F.lookup ("turns":Str)=some (.int n))(hk:H dP=some (.dK kP))(has:Ut kP t1)(hr:Row H x (some y))
include ht only hd hk has hr in
theorem LQ(r:kj 3 n t1 y)(k:Q .non H):WV C [.ref t,x] H Q E:=by obtain⟨q,rfl,i,f⟩:=hr;have g:=r.why kP (λ_=>has) 0 (λh=>by cases h);obtain⟨a,b,c,d,e,rfl⟩:=qs r.len;exact⟨t,q,a,b,c,d,e,F,dP,kP,rfl,⟨⟨dx,ht⟩,only⟩,hd,hk,i,f,by rw[show o_ kP b c d e=.non from g];exact k⟩
include ht only hd hn hk has hr
theorem WH(r:kj 2 n t1 y)(k:Q .non H):QJ C [.ref t,x] H Q E:=by obtain⟨q,rfl,j,g⟩:=hr;have i:=r.why kP (λ_=>has) 0 (λh=>by cases h);obtain⟨a,b,c,d,e,f,rfl⟩:=sZ r.len;exact⟨t,q,a,b,c,d,e,f,F,dP,kP,n,rfl,⟨⟨dx,ht⟩,only⟩,hd,hn,hk,j,g,by rw[show VX kP n b c d e f=.non from i];exact k⟩
theorem Ta{pp:Int}(r:kj 4 n t1 y)(h:pp+ZM y<=300)(k:Q .non H):Nt C [.ref t,x,.int pp] H Q E:=by obtain⟨q,rfl,g,e⟩:=hr;have f:=r.why kP (λ_=>has) pp (λ_=>h);obtain⟨a,b,c,d,rfl⟩:=oF r.len;exact⟨t,q,a,b,c,d,F,dP,kP,n,pp,rfl,⟨⟨dx,ht⟩,only⟩,hd,hn,hk,g,e,by rw[show Xz kP n pp b c d=.non from f];exact k⟩
end
theorem Jb {f g x:Str}(d:x≠f)(c:x≠g):(jB g b (jB f a fs)).lookup x=fs.lookup x:=by rw[Yk,if_neg c,Yk,if_neg d]
theorem Gm{fs:List (Str×V)}{f g:Str}(hf:f∈fields)(d:g∈fields)(h:∀x,x∉fields->fs.lookup x=none):∀x,x∉fields->(jB g b (jB f a fs)).lookup x=none:=λx c=>by rw[Jb (λz=>c (by rw[z];exact hf)) (λz=>c (by rw[z];exact d))];exact h x c
theorem Ma   :(jB g b (jB f a fs)).lookup g=some b:=by rw[Yk,if_pos rfl]
theorem GX:fx [hB,"places","at","row"] [hB,"places"] (Ze T.jP):=jX
theorem Rw(Z:nV K C)(he:mg "enumerate"=none)(D:mr K C "take_places" "Table.take_places" T.jP [hB,"places"])(CB:hY P w K mg base 3 "wrong_beginning" ["part","row","names_ahead"] Jg)(CW:hY P w K mg base 3 "wrong_place" ["row"] GK)(CR:hY P w K mg base 1 "refuse_row" ["part","at","why"] Jh):jA P w K mg base jS 6 C "take_places" [hB,"places"] (XH C 1):=by
 refine D.cn GX λf ag A outer s H vs Q E z h=>?_;obtain⟨t,l,S,xs,ts,fs,n,t1,rfl,O,only,I,pg,hl,rows,⟨hm,ok⟩,k⟩:=h;refine⟨_,Za (Y8 (pv 0) (pv 1) rfl) (Za (Y8 (pv 0) Xv rfl) (Zc (ZX aL rfl (V1 rfl he (Zi (pv 1) Zl) Gw) (YM rfl (Zq (jG 2 GX.nd) (Zq (jG 3 GX.nd) Ym))) (Za (Z9 (cn CR z (Zi ZC (Zi (pv 2) (Zi (NI (cn CB z (Zi ZC (Zi (pv 3) (Zi (Yi (pv 0) rfl) Zl)))) (YN (cn CW z (Zi (pv 3) Zl)))) Zl))))) (Zc (Y9 (Z0 z) (Yi (pv 0) rfl) (Yn Yj (pv 3) Zb (λ_ _=>rfl)) (Yn Yj (pv 3) Zb (λ_ _=>rfl)) rfl)))))),?_⟩;obtain⟨_,_,_,X,M,_⟩:=MC (j:=1) (.inl rfl);have N:=Z.na _ M;have U:xs.length<=14:=by rw[rows.1,lm];exact hm
 refine Jy Z X M rfl rfl O I λH2 d s2 u r d2 W=>?_;have lk:(jB (dJ 1) (.ref d) (jB (Yu 1) (.ref l) fs)).lookup (oq:Str)=some (.ref d):=Ma;refine Vj (j:=1) (λi σ=>∃L J,σ=[some (.ref t),some (.ref l),L,J]) rfl O hl u r rows ok.nd s2 d2 W ⟨_,_,rfl⟩ (λi x y p H3 F D' hx hy ps s3 t3 B ab hv o Y=>?_) (λH' F p s' d' g t'=>k H' d p s' u r d' g t');obtain⟨L,J,rfl⟩:=ps;have v:=ok.row y (aK hy);have hi:i<xs.length:=(aj.mp hx).1;refine⟨_,rfl,_,rfl,_,rfl,t,C,S,_,_,rfl,t3,Z.cl,N,lk,?_⟩;dsimp only[jn];refine Ga (j:=1) (.inl rfl) o v B hv λH4 c=>⟨false,rfl,jI ?_⟩;have e:=o.same c;refine⟨_,rfl,?_⟩;dsimp only[jn];refine SY e v ⟨_,_,rfl,?_⟩;obtain⟨q,rfl,R,th⟩:=e;have a0:=NF v;have G:kZ y 1=some (at_ y 1):=by obtain⟨a,b,rfl⟩:=m6 v.len;exact Zj (j:=1) rfl
 refine pI R G ⟨_,rfl,t,C,S,_,_,rfl,c _ _ t3,Z.cl,N,lk,pI R a0 ⟨d,_,rfl,mI.k (k:=cD (nameOf y)) (c _ _ B) (Ji (by omega)),?_⟩⟩;exact Y H4 _ (s3.trans (Zh.of c)) (c _ _ t3) (c _ _ B) ⟨_,_,rfl⟩
theorem GW:fx [hB,"rides","at","row"] [hB,"rides"] (Ze T.jY):=jX
theorem Rv(Z:nV K C)(he:mg "enumerate"=none)(D:mr K C "take_rides" "Table.take_rides" T.jY [hB,"rides"])(CB:hY P w K mg base 3 "wrong_beginning" ["part","row","names_ahead"] Jg)(CW:hY P w K mg base 5 "wrong_ride" [jL,"row"] (QJ C))(CR:hY P w K mg base 1 "refuse_row" ["part","at","why"] Jh):jA P w K mg base jS 6 C "take_rides" [hB,"rides"] (XH C 2):=by
 refine D.cn GW λf ak A outer s H vs Q E F h=>?_;obtain⟨t,l,dx,xs,ts,fs,n,t1,rfl,J,only,U,pg,hl,rows,⟨hm,ok⟩,k⟩:=h;refine⟨_,Za (Y8 (pv 0) (pv 1) rfl) (Za (Y8 (pv 0) Xv rfl) (Zc (ZX aL rfl (V1 rfl he (Zi (pv 1) Zl) Gw) (YM rfl (Zq (jG 2 GW.nd) (Zq (jG 3 GW.nd) Ym))) (Za (Z9 (cn CR F (Zi ZC (Zi (pv 2) (Zi (NI (cn CB F (Zi ZC (Zi (pv 3) (Zi (Yi (pv 0) rfl) Zl)))) (YN (cn CW F (Zi (pv 0) (Zi (pv 3) Zl))))) Zl))))) (Zc (Y9 (Z0 F) (Yi (pv 0) rfl) (Yn Yj (pv 3) Zb (λ_ _=>rfl)) (pv 3) rfl)))))),?_⟩;obtain⟨_,_,_,nf,I,nt,nu⟩:=MC (j:=2) (.inr (.inl rfl));have nR:=Z.na _ I;have ab:xs.length<=80:=by rw[rows.1,lm];exact Nat.le_trans hm (by decide)
 obtain⟨hn,dP,kP,W,r,has⟩:=pg (by decide);have N:dP≠t:=hA r J (by intro z;cases z);refine Jy Z nf I rfl rfl J U λH2 d s2 v u d2 t2=>?_;have lk:(jB (dJ 2) (.ref d) (jB (Yu 2) (.ref l) fs)).lookup ("ride_by_name":Str)=some (.ref d):=Ma;have R:=(Jb (f:=Yu 2) (g:=dJ 2) (a:=.ref l) (b:=.ref d) (x:=oq) (by decide +kernel) (by decide +kernel)).trans W;have O:=(Jb (f:=Yu 2) (g:=dJ 2) (a:=.ref l) (b:=.ref d) nt nu).trans hn;have S:=Gm (a:=.ref l) (b:=.ref d) nf I only;refine Vj (j:=2) (λi σ=>∃Y X,σ=[some (.ref t),some (.ref l),Y,X]) rfl J hl v u rows ok.nd s2 d2 t2 ⟨_,_,rfl⟩ (λi x y p H3 M D' hx hy ps s3 t3 L ag hv o kx=>?_) (λH' M p s' d' g t'=>k H' d p s' v u d' g t');obtain⟨Y,X,rfl⟩:=ps;have G:=ok.row y (aK hy);have hi:i<xs.length:=(aj.mp hx).1;refine⟨_,rfl,_,rfl,_,rfl,t,C,dx,_,_,rfl,t3,Z.cl,nR,lk,?_⟩;dsimp only[jn];refine Ga (j:=2) (.inr (.inl rfl)) o G L hv λH4 c=>⟨false,rfl,jI ?_⟩;have e:=o.same c;have B:=c _ _ (s3 _ _ r N);refine⟨_,rfl,_,rfl,?_⟩;dsimp only[jn];refine WH (c _ _ t3) S R O B has e G ⟨_,_,rfl,?_⟩;obtain⟨q,rfl,hq,th⟩:=e;refine⟨_,rfl,_,rfl,t,C,dx,_,_,rfl,c _ _ t3,Z.cl,nR,lk,pI hq (NF G) ⟨d,_,rfl,mI.k (k:=cD (nameOf y)) (c _ _ L) (Ji (by omega)),?_⟩⟩;exact kx H4 _ (s3.trans (Zh.of c)) (c _ _ t3) (c _ _ L) ⟨_,_,rfl⟩
theorem GV:fx [hB,"ways","at","row"] [hB,"ways"] (Ze T.j0):=jX
theorem Ru(Z:nV K C)(he:mg "enumerate"=none)(D:mr K C "take_ways" "Table.take_ways" T.j0 [hB,"ways"])(CB:hY P w K mg base 3 "wrong_beginning" ["part","row","names_ahead"] Jg)(CW:hY P w K mg base 5 "wrong_way" [jL,"row"] (WV C))(CR:hY P w K mg base 1 "refuse_row" ["part","at","why"] Jh):jA P w K mg base jS 6 C "take_ways" [hB,"ways"] (XH C 3):=by
 refine D.cn GV λf aC A outer s H vs Q E F h=>?_;obtain⟨t,l,dx,xs,ts,fs,n,t1,rfl,J,only,S,pg,hl,rows,⟨hm,ok⟩,k⟩:=h;refine⟨_,Za (Y8 (pv 0) (pv 1) rfl) (Za (Y8 (pv 0) Xv rfl) (Zc (ZX aL rfl (V1 rfl he (Zi (pv 1) Zl) Gw) (YM rfl (Zq (jG 2 GV.nd) (Zq (jG 3 GV.nd) Ym))) (Za (Z9 (cn CR F (Zi ZC (Zi (pv 2) (Zi (NI (cn CB F (Zi ZC (Zi (pv 3) (Zi (Yi (pv 0) rfl) Zl)))) (YN (cn CW F (Zi (pv 0) (Zi (pv 3) Zl))))) Zl))))) (Zc (Y9 (Z0 F) (Yi (pv 0) rfl) (Yn Yj (pv 3) Zb (λ_ _=>rfl)) (pv 3) rfl)))))),?_⟩;obtain⟨_,_,_,Y,I,nt,nu⟩:=MC (j:=3) (.inr (.inr (.inl rfl)));have nR:=Z.na _ I;have ab:xs.length<=80:=by rw[rows.1,lm];exact Nat.le_trans hm (by decide)
 obtain⟨hn,dP,kP,U,r,has⟩:=pg (by decide);have N:dP≠t:=hA r J (by intro z;cases z);refine Jy Z Y I rfl rfl J S λH2 d s2 v u d2 t2=>?_;have lk:(jB (dJ 3) (.ref d) (jB (Yu 3) (.ref l) fs)).lookup ("way_by_name":Str)=some (.ref d):=Ma;have O:=(Jb (f:=Yu 3) (g:=dJ 3) (a:=.ref l) (b:=.ref d) (x:=oq) (by decide +kernel) (by decide +kernel)).trans U;have ag:=(Jb (f:=Yu 3) (g:=dJ 3) (a:=.ref l) (b:=.ref d) nt nu).trans hn;have R:=Gm (a:=.ref l) (b:=.ref d) Y I only;refine Vj (j:=3) (λi σ=>∃X W,σ=[some (.ref t),some (.ref l),X,W]) rfl J hl v u rows ok.nd s2 d2 t2 ⟨_,_,rfl⟩ (λi x y p H3 M D' hx hy ps s3 t3 L ak hv o kx=>?_) (λH' M p s' d' g t'=>k H' d p s' v u d' g t');obtain⟨X,W,rfl⟩:=ps;have G:=ok.row y (aK hy);have hi:i<xs.length:=(aj.mp hx).1;refine⟨_,rfl,_,rfl,_,rfl,t,C,dx,_,_,rfl,t3,Z.cl,nR,lk,?_⟩;dsimp only[jn];refine Ga (j:=3) (.inr (.inr (.inl rfl))) o G L hv λH4 c=>⟨false,rfl,jI ?_⟩;have e:=o.same c;have B:=c _ _ (s3 _ _ r N);refine⟨_,rfl,_,rfl,?_⟩;dsimp only[jn];refine LQ (c _ _ t3) R O B has e G ⟨_,_,rfl,?_⟩;obtain⟨q,rfl,hq,th⟩:=e;refine⟨_,rfl,_,rfl,t,C,dx,_,_,rfl,c _ _ t3,Z.cl,nR,lk,pI hq (NF G) ⟨d,_,rfl,mI.k (k:=cD (nameOf y)) (c _ _ L) (Ji (by omega)),?_⟩⟩;exact kx H4 _ (s3.trans (Zh.of c)) (c _ _ t3) (c _ _ L) ⟨_,_,rfl⟩
theorem TC{ts:List (List V)}(h:∀y∈ts,0<=ZM y)(d:(ts.map ZM).sum<=300){i:Nat}{y:List V}(e:ts[i]?=some y):((ts.take (i+1)).map ZM).sum=((ts.take i).map ZM).sum+ZM y/\((ts.take i).map ZM).sum+ZM y<=300:=by
 have c:((ts.take (i+1)).map ZM).sum=((ts.take i).map ZM).sum+ZM y:=by rw[a9,e,aG,List.sum_append];simp
 refine⟨c,?_⟩;have g:(ts.map ZM).sum=((ts.take (i+1)).map ZM).sum+((ts.drop (i+1)).map ZM).sum:=by rw[<-List.sum_append,<-aG,List.take_append_drop]
 have f:=QF (l:=(ts.drop (i+1)).map ZM) λx a=>by obtain⟨q,b,rfl⟩:=ao.mp a;exact h q (ie b)
 omega
theorem Jl:fx [hB,"groups","people","at","row","why"] [hB,"groups"] (Ze T.jQ):=jX
theorem Rx(Z:nV K C)(he:mg "enumerate"=none)(D:mr K C "take_groups" "Table.take_groups" T.jQ [hB,"groups"])(CB:hY P w K mg base 3 "wrong_beginning" ["part","row","names_ahead"] Jg)(CW:hY P w K mg base 3 "wrong_group" [jL,"row","people_ahead"] (Nt C))(CR:hY P w K mg base 1 "refuse_row" ["part","at","why"] Jh):jA P w K mg base jS 6 C "take_groups" [hB,"groups"] (XH C 4):=by
 refine D.cn Jl λf a0 A outer s H vs Q E J h=>?_;obtain⟨t,l,dx,xs,ts,fs,n,t1,rfl,O,only,ak,pg,hl,rows,⟨hm,ok⟩,k⟩:=h;refine⟨_,Za (Y8 (pv 0) (pv 1) rfl) (Za (Y8 (pv 0) Xv rfl) (Za (YL (i:=2) Jl.nd rfl (cV rfl) Zb) (Zc (ZX aL rfl (V1 rfl he (Zi (pv 1) Zl) Gw) (YM rfl (Zq (jG 3 Jl.nd) (Zq (jG 4 Jl.nd) Ym))) (Za (YL (i:=5) Jl.nd rfl (cV rfl) (NI (cn CB J (Zi ZC (Zi (pv 4) (Zi (Yi (pv 0) rfl) Zl)))) (YN (cn CW J (Zi (pv 0) (Zi (pv 4) (Zi (pv 2) Zl))))))) (Za (Z9 (cn CR J (Zi ZC (Zi (pv 3) (Zi (pv 5) Zl))))) (Za (Y9 (Z0 J) (Yi (pv 0) rfl) (Yn Yj (pv 4) Zb (λ_ _=>rfl)) (pv 4) rfl) (Zc (YL (i:=2) Jl.nd rfl (cV rfl) (Zr ZL (pv 2) (Yn Yj (pv 4) Zb (λ_ _=>rfl)))))))))))),?_⟩;obtain⟨_,_,_,nf,M,nt,nu⟩:=MC (j:=4) (.inr (.inr (.inr rfl)));have nR:=Z.na _ M;have aM:xs.length<=300:=by rw[rows.1,lm];exact Nat.le_trans hm (by decide)
 obtain⟨hn,dP,kP,aC,B,has⟩:=pg (by decide);have U:dP≠t:=hA B O (by intro z;cases z);refine Jy Z nf M rfl rfl O ak λH2 d s2 G F d2 t2=>?_;have lk:(jB (dJ 4) (.ref d) (jB (Yu 4) (.ref l) fs)).lookup (rg:Str)=some (.ref d):=Ma;have X:=(Jb (f:=Yu 4) (g:=dJ 4) (a:=.ref l) (b:=.ref d) (x:=oq) (by decide +kernel) (by decide +kernel)).trans aC;have W:=(Jb (f:=Yu 4) (g:=dJ 4) (a:=.ref l) (b:=.ref d) nt nu).trans hn;have Y:=Gm (a:=.ref l) (b:=.ref d) nf M only;refine Vj (j:=4) (λi σ=>∃o3 o4 o5,σ=[some (.ref t),some (.ref l),some (.int ((ts.take i).map ZM).sum),o3,o4,o5]) rfl O hl G F rows ok.nd s2 d2 t2 ⟨_,_,_,rfl⟩ (λi x y v H3 S D' hx hy ps s3 t3 L aS hv p N=>?_) (λH' S v s' d' g t'=>k H' d v s' G F d' g t');obtain⟨o3,o4,o5,rfl⟩:=ps;have r:=ok.row y (aK hy);have hi:i<xs.length:=(aj.mp hx).1;obtain⟨e1,R⟩:=TC (λq u=>(ok.row q u).ma rfl) (ok.sum rfl) hy;rw[e1]at N;generalize ((ts.take i).map ZM).sum=pp at R N ⊢;refine⟨_,rfl,_,rfl,t,C,dx,_,_,rfl,t3,Z.cl,nR,lk,?_⟩;dsimp only[jn];refine Ga (j:=4) (.inr (.inr (.inr rfl))) p r L hv λH4 e=>⟨false,rfl,jI ?_⟩;have o:=p.same e;have I:=e _ _ (s3 _ _ B U);refine⟨_,rfl,_,rfl,_,rfl,?_⟩;dsimp only[jn];refine Ta (e _ _ t3) Y X W I has o r R ?_;refine⟨_,rfl,_,rfl,_,_,rfl,?_⟩;obtain⟨q,rfl,u,th⟩:=o;have ag:kZ y 3=some (.int (ZM y)):=by have h:=(r.why kP (λ_=>has) pp λ_=>R);obtain⟨a,b,c,m,rfl⟩:=oF r.len;obtain⟨i3,e3,_⟩:=(U4 (show Xz kP n pp b c m=.non from h)).2.2;subst e3;exact Zj (j:=3) rfl
 refine⟨_,rfl,_,rfl,t,C,dx,_,_,rfl,e _ _ t3,Z.cl,nR,lk,pI u (NF r) ⟨d,_,rfl,mI.k (k:=cD (nameOf y)) (e _ _ L) (Ji (by omega)),?_⟩⟩;have ab:q≠d:=hA u (e _ _ L) (by intro z;cases z);refine⟨_,rfl,pI (by rw[Zf ab];exact u) ag ⟨_,_,rfl,rfl,?_⟩⟩;exact N H4 _ (s3.trans (Zh.of e)) (e _ _ t3) (e _ _ L) ⟨_,_,_,rfl⟩
end
structure Got(H:Hp)(C t dx:Addr)(T:Tb)(xs:Nat->List V)(m:Nat)(fs:List (Str×V))(Hc:Hp):Prop where
 sm:Zh t H Hc
 at_:Hc t=some (.ins C dx fs)
 only:∀g,g∉fields->fs.lookup g=none
 len:fs.length<=1+2*m
 turns:fs.lookup ("turns":Str)=some (.int T.n)
 pt:∀j,isJ j->j<=m->∃l d f5,fs.lookup (Yu j)=some (.ref l)/\fs.lookup (dJ j)=some (.ref d)/\Hc l=some (.tup (xs j))/\Hc d=some (.dK f5)/\d≠t/\GD j (T.part j) (xs j) (T.part j).length f5
noncomputable def GN(C:Addr):Sp:=λvs H Q _=>∃(t dx:Addr)(T:Tb)(p:Nat->Addr)(xs:Nat->List V),vs=[.ref t,.int T.n,.ref (p 1),.ref (p 2),.ref (p 3),.ref (p 4)]/\H t=some (.ins C dx [])/\hI T /\(∀j,isJ j->(H (p j)=some (.lst (xs j))\/H (p j)=some (.tup (xs j)))/\Xe H (xs j) ((T.part j).map some))/\∀H',Zh t H H'->qE H' C t T->Q .non H'
section
variable {P:Program}{w:World}{K:ae}{mg:Str->Option Value}{base:Heap}{C:Addr}{H Hc:Hp}{t dx:Addr}{T:Tb}{p:Nat->Addr}{xs:Nat->List V}{fs:List (Str×V)}
theorem GD.pl{a:Kv}{ts:List (List V)}{xs:List V}(d:xs.length=ts.length)(g:GD 1 ts xs ts.length a):lT a ts:=by refine⟨λy c=>?_,λz hz=>g.no z (by rw[aP];exact hz)⟩;obtain⟨m,hm⟩:=aJ.mp c;have b:=(aj.mp hm).1;exact g.has m y (xs[m]'(by omega)) b hm (gE (by omega))
theorem GD.rw{j:Nat}{a:Kv}{ts:List (List V)}{xs:List V}(c:j≠1)(g:GD j ts xs ts.length a):oI a ts xs:=⟨λm y x b d=>by have:=g.has m y x (aj.mp b).1 b d;rwa [if_neg c]at this,λz hz=>g.no z (by rw[aP];exact hz)⟩
theorem Ua{j:Nat}(a:isJ j)(o:hI T)(J:H t=some (.ins C dx []))(L:∀j,isJ j->(H (p j)=some (.lst (xs j))\/H (p j)=some (.tup (xs j)))/\Xe H (xs j) ((T.part j).map some))(g:Got H C t dx T xs (j-1) fs Hc){N:VK}(k:∀H' F,Got H C t dx T xs j F H'->N .non H'):Nq [.str (Yu j),.ref (p j)] Hc (λv H2=>XH C j [.ref t,v] H2 N E) E':=by
 obtain⟨_,W,_,U,S,R,Q⟩:=MC a;obtain⟨f,rows⟩:=L j a;have c:p j≠t:=by rcases f with e|e<;>exact hA e J (by intro z;cases z)
 have X:(xs j).length<=PY j:=by rw[rows.1,lm];exact(o.part j a).1
 refine⟨_,_,p j,xs j,rfl,W,?_,X,λH1 l s1 r=>?_⟩
 .rcases f with e|e
  .exact .inl (g.sm _ _ e c)
  .exact .inr (g.sm _ _ e c)
 have b:=g.sm.trans (Zh.of s1);have h4:j<=4:=by rcases a with rfl|rfl|rfl|rfl<;>decide
 have h1:1<=j:=by rcases a with rfl|rfl|rfl|rfl<;>decide
 have h:=s1 _ _ g.at_;have B:l≠t:=hA r h (by intro z;cases z);refine⟨t,l,dx,xs j,T.part j,fs,T.n,T.t1,rfl,h,g.only,by have:=g.len;omega,λnj=>⟨g.turns,?_⟩,r,rows.me J b,o.part j a,λH' d A s' ag D hd Y tt=>k H' _ ⟨b.trans s',tt,Gm U S g.only,?_,(Jb R Q).trans g.turns,λi s ab=>?_⟩⟩
 .obtain⟨I,y,k1,_,x,_,u,_,g1⟩:=g.pt 1 (.inl rfl) (by omega);exact⟨y,k1,x,s1 _ _ u,(g1.pl (by rw[(L 1 (.inl rfl)).2.1,lm])).has⟩
 .have a1:=Y5 (Yu j) (V.ref l) fs;have a2:=Y5 (dJ j) (V.ref d) (jB (Yu j) (V.ref l) fs);have:=g.len;omega
 .by_cases e:i=j
  .subst e;exact⟨l,d,A,by rw[Yk,if_neg (WI a a).2,Yk,if_pos rfl],Ma,s' _ _ r B,hd,D,Y⟩
  .obtain⟨I,y,k1,Z,x,M,u,G,g1⟩:=g.pt i s (by omega);have q:=WI s a;have O:=WI a s;refine⟨I,y,k1,(Jb (q.1 e).1 q.2).trans Z,(Jb (bK O.2) (q.1 e).2).trans x,s' _ _ (s1 _ _ M) ?_,s' _ _ (s1 _ _ u) G,G,g1⟩;exact hA M g.at_ (by intro z;cases z)
theorem Got.mL(a:∀j,isJ j->Xe H (xs j) ((T.part j).map some))(b:H t=some (.ins C dx []))(g:Got H C t dx T xs 4 fs Hc):qE Hc C t T:=by
 obtain⟨h,B,k1,a1,L,F,x,_,g1⟩:=g.pt 1 (.inl rfl) (by decide);obtain⟨f,A,n,a2,J,E,v,_,g2⟩:=g.pt 2 (.inr (.inl rfl)) (by decide);obtain⟨e,z,l,N,I,D,u,_,g3⟩:=g.pt 3 (.inr (.inr (.inl rfl))) (by decide);obtain⟨d,y,i,M,G,c4,s,_,q⟩:=g.pt 4 (.inr (.inr (.inr rfl))) (by decide);refine⟨fs,xs 1,xs 2,xs 3,xs 4,(k1,n,l,i),⟨⟨⟨⟨dx,g.at_⟩,g.only⟩,g.turns,⟨h,B,_,_,a1,L,rfl,F,x⟩,⟨f,A,_,_,a2,J,rfl,E,v⟩,⟨e,z,_,_,N,I,rfl,D,u⟩,⟨d,y,_,_,M,G,rfl,c4,s⟩⟩,λr o O rs c=>?_⟩,⟨g1.pl (by rw[(a 1 (.inl rfl)).1,lm];rfl),g2.rw (by decide),g3.rw (by decide),q.rw (by decide)⟩⟩;rcases o with rfl|rfl|rfl|rfl
 .cases c;exact(a 1 (.inl rfl)).me b g.sm
 .cases c;exact(a 2 (.inr (.inl rfl))).me b g.sm
 .cases c;exact(a 3 (.inr (.inr (.inl rfl)))).me b g.sm
 .cases c;exact(a 4 (.inr (.inr (.inr rfl)))).me b g.sm
end
section
variable {P:Program}{w:World}{K:ae}{mg:Str->Option Value}{base:Heap}{C:Addr}
theorem W9:fx [hB,"turns","places","rides","ways","groups"] [hB,"turns","places","rides","ways","groups"] (Ze T.jl):=jX
theorem KO  (G:Txt K mg)(Z:nV K C)(D:hY P w K mg base 2 "is_within" [jt,"low","high"] K1.YY)(b:hY P w K mg base 1 "rows_of" ["part","rows"] Nq)(B:jA P w K mg base jS 6 C "take_places" [hB,"places"] (XH C 1))(CR:jA P w K mg base jS 6 C "take_rides" [hB,"rides"] (XH C 2))(y:jA P w K mg base jS 6 C "take_ways" [hB,"ways"] (XH C 3))(I:jA P w K mg base jS 6 C "take_groups" [hB,"groups"] (XH C 4))(F:oK K "__init__" "Table.__init__" T.jl f fd):jR P w K mg base jS 7 f fd [hB,"turns","places","rides","ways","groups"] (GN C):=by
 refine F.ok W9 (λvs H Q E h=>?_) (λJ A outer s H vs Q E a h=>?_)
 .obtain⟨t,i,T,p,xs,rfl,_⟩:=h;rfl
 .obtain⟨t,i,T,p,xs,rfl,c,o,d,k⟩:=h;obtain⟨t1,u⟩:=G.turns;refine⟨_,Za (ZA (ZK (ZH (cn D a (Zi (pv 1) (Zi Zb (Zi (Ye (v:=V.int 50) rfl u ⟨t1,rfl⟩) Zl)))))) (Zc Xu) Zn) (Za (Y8 (pv 0) (pv 1) rfl) (Za (Z9 (ZZ B Z.cl Z6 a (pv 0) (Zi (cn b a (Zi ZC (Zi (pv 2) Zl))) Zl))) (Za (Z9 (ZZ CR Z.cl Z6 a (pv 0) (Zi (cn b a (Zi ZC (Zi (pv 3) Zl))) Zl))) (Za (Z9 (ZZ y Z.cl Z6 a (pv 0) (Zi (cn b a (Zi ZC (Zi (pv 4) Zl))) Zl))) (Zc (Z9 (ZZ I Z.cl Z6 a (pv 0) (Zi (cn b a (Zi ZC (Zi (pv 5) Zl))) Zl)))))))),?_⟩;have hw:K1.Zy (.int T.n) 1 50=true:=by show(decide (1<=T.n)&&decide (T.n<=50))=true;simp[o.n0,o.n1]
  refine⟨_,rfl,.int T.n,_,1,50,rfl,.int _,_,rfl,?_⟩;rw[hw];refine jI ?_;refine⟨_,rfl,_,rfl,t,C,i,_,rfl,c,Z.cl,Z.na _ (by simp[fields]),by decide,?_⟩;have e:Got H C t i T xs 0 (jB "turns" (.int T.n) []) (upd H t (.ins C i (jB "turns" (.int T.n) []))):=⟨(Zh.refl t H).upd,Zd,λg r=>by rw[Yk,if_neg (λz=>r (by rw[z];simp[fields]))];rfl,Nat.le_refl _,by rw[Yk,if_pos rfl],λj l h0=>by rcases l with rfl|rfl|rfl|rfl<;>cases h0⟩
  generalize upd H t (.ins C i (jB "turns" (.int T.n) []))=N at e ⊢;generalize jB "turns" (.int T.n) []=W at e;refine km e.at_ (e.only _ (by decide +kernel)) ?_;refine⟨_,rfl,?_⟩;dsimp only[jn];refine Ua (j:=1) (.inl rfl) o c d e λH1 U g1=>?_;refine km g1.at_ (g1.only _ (by decide +kernel)) ?_;refine⟨_,rfl,?_⟩;dsimp only[jn];refine Ua (j:=2) (.inr (.inl rfl)) o c d g1 λM S g2=>?_;refine km g2.at_ (g2.only _ (by decide +kernel)) ?_;refine⟨_,rfl,?_⟩;dsimp only[jn];refine Ua (j:=3) (.inr (.inr (.inl rfl))) o c d g2 λL R g3=>?_;refine km g3.at_ (g3.only _ (by decide +kernel)) ?_;refine⟨_,rfl,?_⟩;dsimp only[jn];refine Ua (j:=4) (.inr (.inr (.inr rfl))) o c d g3 λx O q=>?_;exact k x q.sm (q.mL (λj l=>(d j l).2) c)
structure vK(P:Program)(w:World)(K:ae)(mg:Str->Option Value)(base:Heap)(C:Addr):Prop where
 made:∃f fd,Mk K C f/\jR P w K mg base jS 7 f fd [hB,"turns","places","rides","ways","groups"] (GN C)/\Binds K fd [hB,"turns","places","rides","ways","groups"] []
 mg:mg "Table"=some (.ref C)
noncomputable def four{α:Type}(z a b c d:α):Nat->α
|1=>a|2=>b|3=>c|4=>d|_=>z
theorem TF{H:Hp}(o:hI T) (N:H y=some (.lst l))(M:H r=some (.lst i))(L:H q=some (.lst h))(J:H p=some (.lst g))(G:Xe H l (T.t1.map some))(F:Xe H i (T.t2.map some))(D:Xe H h (T.t3.map some))(B:Xe H g (T.t4.map some)){z:Addr->Hp->Prop}(k:∀H' x,fy H H'->H x=none->qE H' C x T->z x H'):∀x a,H x=none->H a=none->a≠x->GN C [.ref x,.int T.n,.ref y,.ref r,.ref q,.ref p] (upd (upd H a (.own x)) x (.ins C a [])) (λv H'=>v=.non/\z x H') E:=λx a b f d=>by
 have sm:fy H (upd (upd H a (.own x)) x (.ins C a [])):=sameNew (o:=.ins C a []) (sameNew (o:=.own x) (fy.refl H) f) (by rw[Zf (bK d)];exact b);refine⟨x,a,T,four 0 y r q p,four [] l i h g,rfl,Zd,o,λj I=>?_,λH' s A=>⟨rfl,k H' x (λc u e=>?_) b A⟩⟩
 .rcases I with rfl|rfl|rfl|rfl
  .exact⟨.inl (sm _ _ N),G.same sm⟩
  .exact⟨.inl (sm _ _ M),F.same sm⟩
  .exact⟨.inl (sm _ _ L),D.same sm⟩
  .exact⟨.inl (sm _ _ J),B.same sm⟩
 .exact s c u (sm c u e) (fi e b)
end
end WD
namespace L2
open PySem PySem.Spec PyProof.Rows
theorem Dm{X:Cx}{pos:Pos}{K:ae}{a:List Expr}{k:Nat}{t:tZ}{n:Nat}(e:X.K=K)(d:X.calm=true)(h:vb X a t)(c:(de a X.env).length=n:=by rfl)(b:(de a X.env).findIdx? (·.1)=none:=by rfl):PG X (.Tuple a k pos) (uD K n t):=by subst e;exact YM d h c b
theorem gp.same{K:ae}{H H':Hp}{a:Addr}{xs:List V}(s:fy H H')(h:gp K H a xs):gp K H' a xs:=by
 rcases h with(h|⟨o,h⟩)|h
 .exact .inl (.inl (s _ _ h))
 .exact .inl (.inr ⟨o,s _ _ h⟩)
 .exact .inr h
theorem YI{b:Addr}{H H1 a:Hp}(d:H b=none)(s:fy H H1)(t:Zh b H1 a):fy H a:=λc o e=>t c o (s c o e) (fi e d)
end L2
namespace WD
open PySem L2 PySem.Spec PyProof.Rows TB
theorem To(r:Option Int):(!decide (X8 r=.non))=r.isSome:=by cases r<;>rfl
theorem gR.go{K:ae}{b:Addr}{H:Hp}{l:Addr}{rows:List (List V)}(h:gR b H l rows){i:Nat}(c:i<rows.length):(oi K l).go i H:=by obtain⟨n,as,e,a,r⟩:=h;exact⟨_,.ref (as[i]'(by omega)),gp.of e,by simp[a,c]⟩
theorem gR.stop{K:ae}{b:Addr}{H:Hp}{l:Addr}{rows:List (List V)}(h:gR b H l rows):(oi K l).stop rows.length H:=by obtain⟨n,as,e,a,r⟩:=h;exact⟨_,gp.of e,by simp[a]⟩
theorem gR.item{K:ae}{b:Addr}{H:Hp}{l:Addr}{rows:List (List V)}(h:gR b H l rows){i:Nat}{r:List V}(c:rows[i]?=some r){x:V}{H':Hp}(y:(oi K l).rE i H x H'):H'=H/\∃a,x=.ref a/\a≠b/\H a=some (.tup r):=by obtain⟨a,n,e,as,d,f,len⟩:=h.at c;obtain⟨rfl,q⟩:=y;have:=q _ (gp.of d);rw[aY,f]at this;exact⟨rfl,a,(ax this).symm,n,e⟩
theorem gR.rQ{b c:Addr}{H:Hp}{l:Addr}{rows:List (List V)}(h:gR b H l rows)(j:Zv H c)(n:l≠c):gR c H l rows:=by obtain⟨_,as,e,g,r⟩:=h;refine⟨n,as,e,g,λi a q f d=>⟨λz=>?_,(r i a q f d).2⟩⟩;have:=(r i a q f d).2;obtain⟨x,y,w,o⟩:=j;rw[z,o]at this;cases this
theorem N9{c:Bool}{x y:Int}:kZ [V.int x,.int y] (if c=true then 1 else 0)=some (.int (if c=true then y else x)):=by
 cases c
 .exact Zj (j:=0) rfl
 .exact Zj (j:=1) rfl
noncomputable def rooms:List (Option Int):=[none,some 0,some 1,some 2,some 1,none,some 3,some 1000]
theorem Kf:∀r∈rooms,∀i,r=some i->0<=i/\i<=1000:=by intro r a i e;subst e;simp[rooms]at a;omega
theorem WS{k:Int}(hk:0<=k):∀{rs:List Gr},(∀r∈rs,r.ma<=k)->((rs.map lB).map ZM).sum<=k*rs.length
|[],_=>by simp
|r::rs,h=>by have:=WS hk (rs:=rs) λx a=>h x (ar _ a);have h0:ZM (lB r)=r.ma:=rfl;have b:=h r ay;rw[aA,aA,gA,h0,aR];push_cast;rw[Int.mul_add];omega
theorem KQ{n:Int}{ps:Pl}{rs:List Rd}{ws:List Wy}{e:List Gr}{ts ss:List Str}(D:1<=n)(C:n<=50)(sub:ps.map (·.1)=ts)(H:ts.Nodup)(nx:∀t∈ts,Nx t)(G:∀p∈ps,∀i,p.2=some i->0<=i/\i<=1000)(lt:ts.length<=14)(g:∀t∈ss,∃i,(t,some i)∈ps)(m6:rs.length<=20)(B:(rs.map (·.nm)).Nodup)(w:∀r∈rs,Nx r.nm/\zx n ts ss r)(ph:ws.length<=20)(A:(ws.map (·.nm)).Nodup)(u:∀r∈ws,Nx r.nm/\zt ts ss r)(oF:e.length<=20)(y:(e.map (·.nm)).Nodup)(f:∀r∈e,zD n ts r):hI ⟨n,ps.map jD,rs.map mX,ws.map mU,e.map lB⟩:=by
 have pm:∀p∈ps,p.1∈ts:=λp b=>sub▸ao.mpr ⟨p,b,rfl⟩;have q:∀t∈ts,∃r,(t,r)∈ps:=λt l=>by rw[<-sub]at l;obtain⟨p,b,rfl⟩:=ao.mp l;exact⟨p.2,b⟩
 have E:∀t∈ts,t.length<=1000:=λt l=>by have:=(nx t l).1;rw[Z1]at this;omega
 have F:∀p∈ps,p.1.length<=1000:=λp b=>E _ (pm p b);have L:ps.length=ts.length:=by rw[<-sub,lm]
 refine⟨D,C,λj J=>?_⟩;rcases J with rfl|rfl|rfl|rfl
 .refine⟨by show(ps.map jD).length<=14;rw[lm];omega,⟨?_,λo c=>?_,λz=>by cases z⟩⟩
  .show((ps.map jD).map nameOf).Nodup;rw[cO];exact(show(ps.map (·.1)).Nodup from sub▸H)
  .obtain⟨p,b,rfl⟩:=ao.mp c;exact Af (KS (nx _ (pm p b))) (G p b)
 .refine⟨by show(rs.map mX).length<=80;rw[lm];omega,⟨?_,λo c=>?_,λz=>by cases z⟩⟩
  .show((rs.map mX).map nameOf).Nodup;rw[cO];exact B
  .obtain⟨r,d,rfl⟩:=ao.mp c;obtain⟨s,a⟩:=w r d;exact Ab F ⟨⟨g _ a.st,q _ a.gl,a.ne⟩,a.xZ,a.xY,a.yP,a.yO,a.xk,a.xj⟩ (KS s)
 .refine⟨by show(ws.map mU).length<=40;rw[lm];omega,⟨?_,λo c=>?_,λz=>by cases z⟩⟩
  .show((ws.map mU).map nameOf).Nodup;rw[cO];exact A
  .obtain⟨r,d,rfl⟩:=ao.mp c;obtain⟨s,a⟩:=u r d;exact HJ F ⟨⟨g _ a.st,q _ a.gl,a.ne⟩,a.x8,a.lo1,a.wH,a.wG⟩ (KS s)
 .refine⟨by show(e.map lB).length<=300;rw[lm];omega,⟨?_,λo c=>?_,λ_=>?_⟩⟩
  .show((e.map lB).map nameOf).Nodup;rw[cO];exact y
  .obtain⟨r,d,rfl⟩:=ao.mp c;have h:=f r d;obtain⟨x,I⟩:=q _ h.pl;exact Aq (v:=.non) ⟨jD (r.pl,x),ao.mpr ⟨_,I,rfl⟩,rfl⟩ (E _ h.pl) h.z_ h.z9 h.AQ (by have:=h.zM;omega) h.nm
  .have:=WS (by decide:(0:Int)<=3) λr d=>(f r d).zM;show((e.map lB).map ZM).sum<=300;omega
noncomputable def RW(K:ae):Sp:=λvs H Q _=>∃(a:Addr)(zs:List Int),vs=[.ref a]/\gp K H a (zs.map V.int)/\zs.length<=1000 /\∀H' b pw T l1 l2 l3 l4,fy H H'->H b=none->Zv H' b->nr b H' pw T l1 l2 l3 l4->hI T->Q (.ref pw) H'
section
variable {P:Program}{w:World}{K:ae}{mg:Str->Option Value}{base:Heap}
theorem ZN:fx [mB,jE,"_law_big",oB,n_,oN,"_law_places",nZ,q_,"_law_room",qd,"_law_rides_here","_law_ways_here","_law_groups_here"] [mB] (Ze T.kM):=jX
noncomputable def X3:Scope:=tG [(".0",.local),(q_,.local),("_law_room",.local)]
theorem Ue:jm X3 (Ze T.kM):=⟨rfl,by decide +kernel,by decide +kernel,by decide +kernel⟩
theorem X9:([q_,"_law_room"]:List Str).Nodup:=by decide +kernel
theorem Ug:ji [mB,jE,"_law_big",oB,n_,oN,"_law_places",nZ,q_,"_law_room",qd,"_law_rides_here","_law_ways_here","_law_groups_here"] X3 [q_,"_law_room"] [none,none]:=.mk' (by decide +kernel)
theorem RA(B:∀x∈jO,mg x=none)(CC:hY P w K mg base 1 "_law_cell" [mB,nZ] (Nu K))(CB:hY P w K mg base 1 "_law_box" [tT] R7)(CT:hY P w K mg base 1 qo [jE,mR] Xi)(CN:hY P w K mg base 2 "_law_names" [jE,mR] VS)(CR:hY P w K mg base 3 "_law_rides" [jE,oB,n_,qd,rf] Pm)(CW:hY P w K mg base 3 "_law_ways" [jE,oB,n_,qd] R3)(CG:hY P w K mg base 3 "_law_groups" [jE,oB,n_,rf] MP)(D:Df K mg "_law_world" T.kM [mB]):hY P w K mg base 4 "_law_world" [mB] (RW K):=by
 refine D.cn ZN λf eQ A outer s H vs Q E j h=>?_;obtain⟨a,zs,rfl,hS,S,k⟩:=h;refine' ⟨_,(@Za _ _ _ _ _ ?eA (@Za _ _ _ _ _ ?ez (@Za _ _ _ _ _ ?ey (@Za _ _ _ _ _ ?ew (@Za _ _ _ _ _ ?eu (@Za _ _ _ _ _ ?es (@Za _ _ _ _ _ ?er (@Za _ _ _ _ _ ?ep (@Za _ _ _ _ _ ?eo (@Za _ _ _ _ _ ?en (@Za _ _ _ _ _ ?ek (@Zc _ _ _ ?ej)))))))))))),?rd⟩;case' ej=>refine' (Zk ?eB)
 case' ek=>refine' (st 13 ZN.nd (cn CG j (Zg (cn CB j (ju (cn CC j (jz (pv 0) Zb)))) (kg (pv 3) (pv 4) ?h9))))
 case' en=>refine' (st 12 ZN.nd (cn CW j (Zg (cn CB j (ju (cn CC j (jz (pv 0) Zb)))) (kg (pv 3) (pv 4) (pv 10)))))
 case' eo=>refine' (st 11 ZN.nd (cn CR j (Zg (cn CB j (ju (cn CC j (jz (pv 0) Zb)))) (Zg (pv 3) (kg (pv 4) (pv 10) ?h8)))))
 case' ep=>refine' (NG (i:=10) ZN.nd rfl (cV rfl) (scope:=X3) (N:=[q_,"_law_room"]) (cp:=[none,none]) rfl Ue Ug (Yd (pv 6)) (λC s H ex pn=>(Dm (K:=K) (n:=2) rfl rfl (Zq (jG 0 X9) (Zq (jG 1 X9) Ym)))) (λC s H ex pn=>(Vm (Zo V6 (pv 1) ZJ (Zt _)))) (λC s H ex pn=>(pv 0)))
 case' er=>refine' (ZX aL rfl (PF rfl (bm B) (ju (pv 4)) (by decide +kernel)) (YM rfl (Zq (jG 7 ZN.nd) (Zq (jG 8 ZN.nd) Ym))) (@Za _ _ _ _ _ ?h6 (@Zc _ _ _ ?h7)))
 case' es=>refine' (st 6 ZN.nd ?h3)
 case' eu=>refine' (st 5 ZN.nd (cn CT j (jz (pv 1) (Zr ZL (Zw (r:=j_ K) ZG rfl (bm B) aT (ju (pv 4))) Zb))))
 case' ew=>refine' (st 4 ZN.nd (cn CN j (jz (pv 1) (Zr ZL Zb (cn CT j (jz (pv 1) ?h2))))))
 case' ey=>refine' (st 3 ZN.nd (Zr ZL Zb (cn CT j (jz (pv 1) ?h1))))
 case' ez=>refine' (st 2 ZN.nd (Yg Jw rfl (bm B) VO (ju (@Yr _ _ _ _ _ _ _ _ YV (cn CT j (jz (pv 1) Zb)) Zb (Zt _)))))
 case' eA=>refine' (st 1 ZN.nd (cn CB j (ju (cn CC j (jz (pv 0) Zb)))))
 case' eB=>refine' (@ZD _ _ _ _ (Zg (pv 3) (Zg (pv 6) (kg (pv 11) (pv 12) (pv 13)))))
 case' h7=>refine' (Z9 (Vx bD bu bt YS (pv 6) (ju ?h5)))
 case' h6=>refine' (st 9 ZN.nd ?h4)
 case' h5=>refine' (@Zx _ _ _ _ _ (jz (pv 8) (pv 9)))
 case' h4=>refine' (il K (@ZD _ _ _ _ (@Xq _ _ (by decide +kernel))) (Zr Xk (cn CT j (jz (pv 1) Zb)) (Yg Jw rfl (bm B) VO (ju (@Yr _ _ _ _ _ _ _ _ U0 (pv 7) (pv 5) (Zt _))))))
 case' h3=>refine' (@ZD _ _ _ _ Zl)
 case' h9|h8|h2|h1=>refine' (il K (@ZD _ _ _ _ (@Xq _ _ (by decide +kernel))) (pv 2))
 case' rd=>
 refine tq λD0 c0=>?_;refine⟨_,rfl,a,zs,0,rfl,hS,S,by decide,λc=>⟨c,rfl,λb H1 eh B1 S1=>?_⟩⟩;refine c0 _ _ (tq λD1 cY=>?_);clear c0;try dsimp only[Zp,av]
 refine oz B1 (λrb H2 eO eL B2 S2=>?_);refine⟨rfl,.inr ⟨_,rfl,?_⟩⟩;generalize decide (V.int rb=V.int 0)=g;refine cY _ _ (tq λD2 cX=>?_);clear cY;try dsimp only[Zp,av]
 refine⟨_,rfl,(zl),λl3 a5=>?_⟩;refine⟨_,rfl,l3,_,_,_,rfl,rfl,gp.of Zd,N9,b,_,rfl,B2.new a5,(by cases g<;>decide),ZO (by cases g<;>decide) (by cases g<;>decide),λt0 H4 eJ cc B4 S4=>?_⟩;have eG:t0<12:=by cases g<;>simp at cc<;>omega
 refine⟨_,_,rfl,rfl,?_⟩;have dc:Zh b H1 H4:=(S2.jq a5).trans S4;clear S2 S4 B2 a5 cc;refine cX _ _ (tq λD3 cT=>?_);clear cX;try dsimp only[Zp,av]
 obtain⟨n,hn⟩:∃n,n=1+t0:=⟨_,rfl⟩;rw[<-hn];refine⟨_,rfl,_,rfl,(zl),λl5 a4=>?_⟩;refine⟨_,rfl,l5,_,_,_,rfl,rfl,gp.of Zd,N9,b,_,rfl,B4.new a4,(by cases g<;>decide),ZO (by cases g<;>decide) (by cases g<;>decide),λu0 H6 eH cb B6 S6=>?_⟩;have eP:u0<9:=by cases g<;>simp at cb<;>omega
 refine⟨_,_,rfl,rfl,b,_,rfl,B6,by omega,by omega,λH7 L ts B7 S7 nN eN neN hc nd nx=>?_⟩;have da:Zh b H1 H7:=((dc.jq a4).trans S6).trans S7;clear dc S6 S7 B6 B4 a4 cb nN;refine cT _ _ (tq λD4 cR=>?_);clear cT;try dsimp only[Zp,av]
 refine⟨_,rfl,_,rfl,L,_,rfl,.inl (gp.of eN),_,_,rfl,rfl,b,_,rfl,B7,(by rw[lm];omega),ZO (by rw[lm];omega) (by rw[lm];omega),λat_ H8 a0 a1 B8 S8=>?_⟩;have c9:=da.trans S8;have bT:=S8 _ _ eN neN;clear da S8 B7 eN a0 a1;refine cR _ _ (tq λD5 cP=>?_);clear cR;try dsimp only[Zp,av]
 refine⟨Nat.zero_le _,λI hP=>?_⟩;refine cP _ _ (tq λD6 cN=>?_);clear cP;try dsimp only[Zp,av]
 have nP:=B8.ne hP;have ei:=JN c9 hP nP;have aS:L≠I:=fi bT hP;have R0:gR b (upd H8 I (.lst [])) I (([]:Pl).map jD):=⟨nP,[],Zd,rfl,λi a r h1=>by cases h1⟩;refine⟨_,rfl,L,_,rfl,(Zf aS).trans bT,?_⟩;refine Yc (J:=Qu L) ts.length (λi σ H'=>Zv H' b/\Zh b H1 H'/\H' L=some (.lst (ts.map V.str))/\(∃ps:Pl,gR b H' I (ps.map jD)/\ps.map (·.1)=ts.take i/\∀p∈ps,p.2∈rooms)/\∃o:Nat->Option V,σ=[some (.ref a),some (.ref b),some (.int (if g=true then 1 else 0)),some (.int n),some (.ref L),some (.int at_),some (.ref I),o 7,o 8,o 9,none,none,none,none]) ?_ (λi σ H' G q=>?_) (λσ H' q=>?_) (λi σ H' v H3 G q yl=>?_) (λσ H' q=>?_)
 .exact⟨B8.new hP,c9.jq hP,(Zf aS).trans bT,⟨[],R0,rfl,by simp⟩,j9 rfl⟩
 .exact⟨_,q.2.2.1,by simp[G]⟩
 .exact⟨_,q.2.2.1,by simp⟩
 .obtain⟨bx,sm,el,⟨ps,ra,sub,rx⟩,o,rfl⟩:=q;obtain⟨t,xs,y,O,cB,hy,rfl,rfl⟩:=yl;rw[el]at cB;cases cB;have eb:y=V.str ts[i]:=by simp[G]at hy;exact hy.symm
  subst eb;have et:upd H' t (.tup [.int i,.str ts[i]]) t=some (.tup [.int i,.str ts[i]]):=Zd;have S3:Zh b H' (upd H' t (.tup [.int i,.str ts[i]])):=(Zh.refl b H').jq O;have b0:Zv (upd H' t (.tup [.int i,.str ts[i]])) b:=bx.new O;generalize upd H' t (.tup [.int i,.str ts[i]])=H3 at et S3 b0 ⊢;refine⟨t,_,rfl,hO.of et,rfl,?_⟩;try dsimp only[Zp,av]
  refine⟨_,_,rfl,_,_,rfl,rfl,?_⟩;dsimp only[Zp,av];refine td λD' eg=>?_;refine⟨(zl),λlr a3=>?_⟩;refine oz (b0.new a3) (λr H5 r0 r1 B5 S5=>?_);have eR:H5 lr=some (.lst (rooms.map X8)):=S5 _ _ Zd (b0.ne a3);have Y:=(S3.jq a3).trans S5;refine⟨_,rfl,_,rfl,rfl,.inr ⟨_,rfl,?_⟩⟩;refine⟨_,_,rfl,rfl,.inl ⟨by omega,by omega⟩,?_⟩;have c5:∀c:Bool,0<=r*(if c=true then 1 else 0)/\r*(if c=true then 1 else 0)<((rooms.map X8).length:Int):=λc=>by show _/\_<(8:Int);cases c<;>simp<;>omega
  obtain⟨v5,eC,m5⟩:=at_of (c5 _).1 (c5 _).2;obtain⟨ro,ec,rfl⟩:=ao.mp m5;refine⟨lr,_,_,_,rfl,rfl,gp.of eR,eC,?_⟩;dsimp only[Zp,av];obtain⟨xs,eF,lx,app⟩:=(ra.same Y).app;refine⟨_,rfl,.inl ⟨rfl,_,gp.of eF⟩,_,rfl,_,rfl,Nat.le_trans (by decide:2<=1000) (by decide),λq u=>?_⟩;have hl:ps.length=i:=by have:=congrArg gu sub;rw[lm,aN]at this;omega
  have d0:I≠q:=fi eF u;refine⟨I,xs,_,rfl,rfl,(Zf d0).trans eF,Nat.lt_of_le_of_lt (by rw[lx,lm];omega:xs.length<=20) (by decide),?_⟩;have nq:=B5.ne u;refine eg _ _ ⟨Zv.lD (B5.new u) nP,XU ((sm.trans Y).jq u) (Zh.refl b H1) nP ei,?_,⟨ps++[(ts[i],ro)],?_,?_,?_⟩,j9 rfl⟩
  .rw[Zf aS,Zf (fi (Y _ _ el neN) u)];exact Y _ _ el neN
  .rw[aG];exact app q _ u nq
  .rw[aG,sub,a9,gE G];rfl
  .intro p hp;rcases aF.mp hp with hp|hp
   .exact rx p hp
   .rw[aI]at hp;subst hp;exact ec
 .obtain⟨bx,sm,el,⟨ps,ra,sub,rx⟩,o,rfl⟩:=q;rw[aP]at sub;have ed:(ps.map jD).length<=sizeLine:=Nat.le_trans (by rw[lm];have:=congrArg gu sub;rw[lm]at this;omega:(ps.map jD).length<=1000) (by decide);refine cN _ _ (tq λD7 cK=>?_);clear cN;refine⟨_,rfl,I,rfl,⟨_,gp.of ra.2.choose_spec.1⟩,?_⟩;refine JS (J:=oi K I) (ps.map jD).length ed (λi ys τ H2=>H2=H'/\ys=((ps.take i).filter λp=>p.2.isSome).map (λp=>V.str p.1)/\∃v1 v2,τ=[v1,v2]) ⟨rfl,rfl,none,none,rfl⟩ (λi ys τ H2 p=>?_) (λi ys τ H2 G p=>?_) (λys τ H2 p=>?_) (λi ys τ H2 x H3 G p yl=>?_) (λys τ H0 p Z cG=>?_)
  .obtain⟨_,rfl,_⟩:=p;rw[lm];exact Nat.le_trans (bN _ _) (by rw[aN];omega)
  .obtain⟨rfl,_⟩:=p;exact ra.go G
  .obtain⟨rfl,_⟩:=p;exact ra.stop
  .obtain⟨rfl,rfl,v1,v2,rfl⟩:=p;have ef:i<ps.length:=by simpa using G
   have e0:ps[i]?=some ps[i]:=gE ef;obtain⟨rfl,a,rfl,na,ha⟩:=ra.item (r:=jD ps[i]) (by rw[aY,e0];rfl) yl;refine⟨a,_,rfl,hO.of ha,rfl,_,_,rfl,_,_,rfl,rfl,_,rfl,rfl,_,rfl,?_⟩;rw[To];refine Z7 (λe=>?_) (λe=>?_)
   .refine⟨_,rfl,rfl,?_,_,_,rfl⟩;rw[YG _ _ e0,if_pos e,aG];rfl
   .refine⟨rfl,?_,_,_,rfl⟩;rw[YG _ _ e0,if_neg (by rw[e];exact Bool.false_ne_true),ba]
  .obtain⟨rfl,rfl,v1,v2,rfl⟩:=p;rw[lm,aP];generalize bM:(ps.filter λp=>p.2.isSome).map (·.1)=ss;have e1:(ps.filter λp=>p.2.isSome).map (λp=>V.str p.1)=ss.map V.str:=by rw[<-bM,cO];rfl
   rw[e1];have cC:∀t∈ss,∃i,(t,some i)∈ps:=λt O=>by rw[<-bM]at O;obtain⟨p,ee,rfl⟩:=ao.mp O;obtain⟨m1,m2⟩:=dM.mp ee;obtain⟨i,G⟩:=bw.mp m2;exact⟨i,by rw[<-G];exact m1⟩
   have d4:ss.length<=20:=by rw[<-bM,lm];have:=congrArg gu sub;rw[lm]at this;exact Nat.le_trans (bN _ _) (by omega)
   have eS:upd H0 Z (.lst (ss.map V.str)) Z=some (.lst (ss.map V.str)):=Zd;have S9:Zh b H0 (upd H0 Z (.lst (ss.map V.str))):=(Zh.refl b H0).jq cG;have B9:Zv (upd H0 Z (.lst (ss.map V.str))) b:=bx.new cG;generalize upd H0 Z (.lst (ss.map V.str))=R at eS S9 B9 ⊢;try dsimp only[Zp,av]
   have M:=S9 _ _ el neN;have dx:=ra.same S9;have eD:=sm.trans S9;have cE:H b=none:=eh;have X:fy H R:=YI cE S1 eD;have c6:∀(H':Hp)(b':Addr),fy R H'->R b'=none->vc H' b' L Z ts ss:=λH' b' s n'=>
    ⟨s _ _ M,s _ _ eS,fi M n',fi eS n',nd,λt O=>by
     obtain⟨i,G⟩:=cC t O;rw[<-sub];exact ao.mpr ⟨_,G,rfl⟩,by omega,d4,λt O=>by
     have:=(nx t O).1;rw[Z1]at this;omega⟩;refine cK _ _ (tq λD8 cI=>?_);clear cK;refine⟨_,rfl,a,zs,1,rfl,hS.same X,S,by decide,λc1=>⟨c1,rfl,λb1 Ha bb Ba Sa=>?_⟩⟩;refine⟨_,rfl,_,rfl,_,rfl,(zl),λlq d=>?_⟩;refine⟨_,rfl,lq,_,_,_,rfl,rfl,gp.of Zd,N9,?_⟩;refine⟨b1,L,Z,n,_,ts,ss,rfl,Ba.new d,(c6 Ha b1 Sa bb).same ((Zh.refl b1 Ha).jq d),by omega,by omega,(by cases g<;>decide),(by cases g<;>decide),λHb l2 rs Bb Sb n2 cx m6 dV dv=>?_⟩;have F:fy R Hb:=YI bb Sa (((Zh.refl b1 Ha).jq d).trans Sb);have d3:R l2=none:=by
    cases e:R l2 with
   |none=>rfl
   |some o=>rw[Zf (fi (Sa _ _ e) d),Sa _ _ e]at n2;cases n2
   have ak:=cx.rQ (by obtain⟨x,y,z,e⟩:=B9;exact⟨x,y,z,F _ _ e⟩:Zv Hb b) (by obtain⟨x,y,z,e⟩:=B9;exact(fi e d3).symm);clear n2 cx Sb Bb Sa Ba d bb;try dsimp only[Zp,av]
   refine cI _ _ (tq λD9 cH=>?_);clear cI;refine⟨_,rfl,a,zs,2,rfl,hS.same (X.trans F),S,by decide,λc2=>⟨c2,rfl,λb2 Hc W Bc Sc=>?_⟩⟩;refine⟨_,rfl,_,rfl,_,rfl,?_⟩;have aM:R b2=none:=by
    cases e:R b2 with
   |none=>rfl
   |some o=>rw[F _ _ e]at W;cases W
   refine⟨b2,L,Z,n,ts,ss,rfl,Bc,c6 Hc b2 (F.trans Sc) aM,by omega,by omega,λHd l3 ws Bd Sd n3 cm ph dP du=>?_⟩;have b4:fy Hb Hd:=YI W Sc Sd;have l:=F.trans b4;have d2:Hb l3=none:=by
    cases e:Hb l3 with
   |none=>rfl
   |some o=>rw[Sc _ _ e]at n3;cases n3
   have eE:Zv Hd b:=by obtain⟨x,y,z,e⟩:=B9;exact⟨x,y,z,l _ _ e⟩
   have ab:=cm.rQ eE (by obtain⟨x,y,z,e⟩:=B9;exact(fi (F _ _ e) d2).symm);have ag:=ak.same (b:=b) (H':=Hd) λc o e _=>b4 c o e;clear n3 cm Sd Bd Sc Bc W aM ak b4;try dsimp only[Zp,av]
   refine cH _ _ (tq λeW aC=>?_);clear cH;refine⟨_,rfl,a,zs,3,rfl,hS.same (X.trans l),S,by decide,λc3=>⟨c3,rfl,λb3 He a6 Be Se=>?_⟩⟩;refine⟨_,rfl,_,rfl,(zl),λlq d=>?_⟩;refine⟨_,rfl,lq,_,_,_,rfl,rfl,gp.of Zd,N9,?_⟩;have ea:L≠lq:=fi (Se _ _ (l _ _ M)) d;refine⟨b3,L,n,_,ts,rfl,Be.new d,(Zf ea).trans (Se _ _ (l _ _ M)),fi (l _ _ M) a6,by omega,by omega,by omega,by omega,(by cases g<;>decide),(by cases g<;>decide),λHf l4 gs Bf Sf n4 ck oF dO dt=>?_⟩;have c7:fy Hd Hf:=YI a6 Se (((Zh.refl b3 He).jq d).trans Sf);have b5:=l.trans c7;have d1:Hd l4=none:=by
    cases e:Hd l4 with
   |none=>rfl
   |some o=>rw[Zf (fi (Se _ _ e) d),Se _ _ e]at n4;cases n4
   have b6:Zv Hf b:=by obtain⟨x,y,z,e⟩:=B9;exact⟨x,y,z,b5 _ _ e⟩
   have dd:=ck.rQ b6 (by obtain⟨x,y,z,e⟩:=B9;exact(fi (l _ _ e) d1).symm);have cf:Zh b Hd Hf:=λc o e _=>c7 c o e;have dr:Zh b R Hf:=λc o e _=>b5 c o e;have dn:=ag.same cf;have dg:=ab.same cf;have dp:=dx.same dr;clear n4 ck Sf Bf Se Be a6 d ag ab;try dsimp only[Zp,av]
   refine aC _ _ ?_;clear aC;refine⟨_,rfl,_,rfl,_,rfl,_,rfl,_,rfl,(zl),λpw U=>?_⟩;have dy:=b6.ne U;have s2:Zh b Hf (upd Hf pw (.lst [.int n,.ref I,.ref l2,.ref l3,.ref l4])):=(Zh.refl b Hf).jq U;refine k _ b pw ⟨n,ps.map jD,rs.map mX,ws.map mU,gs.map lB⟩ I l2 l3 l4 (λc o e=>?_) cE (b6.new U) ⟨dy,Zd,dp.same s2,dn.same s2,dg.same s2,dd.same s2⟩ ?_
   .have:=b5 _ _ (X _ _ e);rw[Zf (fi this U)];exact this
   .refine KQ (ss:=ss) (ts:=ts) (by omega) (by omega) sub nd nx (λp hp i e=>Kf _ (rx p hp) i e) (by omega) cC m6 dV dv ph dP du oF dO dt
end
end WD
namespace TB
open PySem L2 PySem.Spec PyProof.Rows WD
section
variable {P:Program}{w:World}{K:ae}{mg:Str->Option Value}{base:Heap}{C Cn:Addr}
theorem QP:fx [hB,jt] [hB,jt] (Ze T.kB):=jX
theorem Qs(Z:nV K C)(D:mr K C "is_ride" "Table.is_ride" T.kB [hB,jt])(l:hY P w K mg base 1 "is_known" [jt,"names"] VT):jA P w K mg base jS 2 C "is_ride" [hB,jt] (XE C "ride_by_name"):=by refine D.cn QP λf n A outer s H vs Q E e h=>?_;obtain⟨t,x,j,fs,d,a,rfl,⟨⟨i,c⟩,_⟩,g,hd,b,k⟩:=h;refine⟨_,Zc (Zk (Yx l e rfl (Zi (pv 1) (Zi (Yi (pv 0) rfl) Zl)))),?_⟩;exact⟨_,rfl,_,rfl,t,C,i,fs,_,rfl,c,Z.cl,Z.na _ (by simp[fields]),g,x,j,d,a,rfl,b,hd,k⟩
theorem Ti:fx [hB,jt] [hB,jt] (Ze T.kS):=jX
theorem RH(Z:nV K C)(D:mr K C "is_way" "Table.is_way" T.kS [hB,jt])(l:hY P w K mg base 1 "is_known" [jt,"names"] VT):jA P w K mg base jS 2 C "is_way" [hB,jt] (XE C "way_by_name"):=by refine D.cn Ti λf n A outer s H vs Q E e h=>?_;obtain⟨t,x,j,fs,d,a,rfl,⟨⟨i,c⟩,_⟩,g,hd,b,k⟩:=h;refine⟨_,Zc (Zk (Yx l e rfl (Zi (pv 1) (Zi (Yi (pv 0) rfl) Zl)))),?_⟩;exact⟨_,rfl,_,rfl,t,C,i,fs,_,rfl,c,Z.cl,Z.na _ (by simp[fields]),g,x,j,d,a,rfl,b,hd,k⟩
theorem Pp:fx [hB,jt] [hB,jt] (Ze T.ke):=jX
theorem N5(Z:nV K C)(D:mr K C "is_group" "Table.is_group" T.ke [hB,jt])(l:hY P w K mg base 1 "is_known" [jt,"names"] VT):jA P w K mg base jS 2 C "is_group" [hB,jt] (XE C rg):=by refine D.cn Pp λf n A outer s H vs Q E e h=>?_;obtain⟨t,x,j,fs,d,a,rfl,⟨⟨i,c⟩,_⟩,g,hd,b,k⟩:=h;refine⟨_,Zc (Zk (Yx l e rfl (Zi (pv 1) (Zi (Yi (pv 0) rfl) Zl)))),?_⟩;exact⟨_,rfl,_,rfl,t,C,i,fs,_,rfl,c,Z.cl,Z.na _ (by simp[fields]),g,x,j,d,a,rfl,b,hd,k⟩
end
end TB
namespace SX
open PySem L2 PySem.Spec PyProof.Rows TB WD
noncomputable def sA(ys:List V)(j:Nat):Str:=match at_ ys j with|.str z=>z|_=>""
noncomputable def iA(ys:List V)(j:Nat):Int:=match at_ ys j with|.int i=>i|_=>0
structure Sx where
 key:List Key
 tail:PyData
 head:PyData
 room:V
 pP:Int
noncomputable def pQ(y:List V)(i:Int):Sx:=⟨[.inr "out",.inr (nameOf y),.inl i],.str (nameOf y),.tuple [.str (sA y 1),.int i],.non,0⟩
noncomputable def Jm(y:List V):Sx:=⟨[.inr "ride",.inr (nameOf y)],.tuple [.str (sA y 1),.int (iA y 2)],.tuple [.str (sA y 3),.int (iA y 4)],.int (iA y 5),iA y 4-iA y 2⟩
noncomputable def UU(y:List V)(i:Int):Sx:=⟨[.inr "walk",.inr (nameOf y),.inl i],.tuple [.str (sA y 1),.int i],.tuple [.str (sA y 2),.int (i+iA y 3)],.int (iA y 4),iA y 3⟩
noncomputable def UW(y:List V)(i:Int):Sx:=⟨[.inr "wait",.inr (nameOf y),.inl i],.tuple [.str (nameOf y),.int i],.tuple [.str (nameOf y),.int (i+1)],at_ y 1,1⟩
noncomputable def Ys(T:Tb)(vs:List V)(j:Nat)(S:Sx):Prop:=(∃y∈T.t4,∃i,vs=[.str "out",.str (nameOf y),.int i]/\iA y 2<=i/\i<=T.n/\j=0/\S=pQ y i) \/(∃y∈T.t2,vs=[.str "ride",.str (nameOf y)]/\j=1/\S=Jm y) \/(∃y∈T.t3,∃i,vs=[.str "walk",.str (nameOf y),.int i]/\0<=i/\i<=T.n-iA y 3/\j=2/\S=UU y i) \/∃y∈T.t1,∃i,vs=[.str "wait",.str (nameOf y),.int i]/\at_ y 1≠.non/\0<=i/\i<=T.n-1/\j=3/\S=UW y i
theorem Ys.key  {j:Nat}(h:Ys T vs j S):vs=S.key.map kV/\j<4:=by rcases h with⟨y,_,i,e,_,_,rfl,rfl⟩|⟨y,_,e,rfl,rfl⟩|⟨y,_,i,e,_,_,rfl,rfl⟩|⟨y,_,i,e,_,_,_,rfl,rfl⟩<;>exact⟨e,by decide⟩
theorem Y4{t:List (List V)}(h:(t.map nameOf).Nodup){y z:List V}(b:y∈t)(hz:z∈t)(e:nameOf y=nameOf z):y=z:=by
 induction t with
|nil=>cases b
|cons a t c=>
  rw[aA,bf]at h;rcases au.mp b with rfl|zP<;>rcases au.mp hz with rfl|zO
  .rfl
  .exact absurd (e▸ao.mpr ⟨z,zO,rfl⟩) h.1
  .exact absurd (e▸ao.mpr ⟨y,zP,rfl⟩) h.1
  .exact c h.2 zP zO
theorem J2 (o:hI T){j:Nat}(a:isJ j):((T.part j).map nameOf).Nodup:=(o.part j a).2.nd
theorem JY:("out":Str)≠"walk"/\("out":Str)≠"wait"/\("walk":Str)≠"wait"/\("out":Str)≠"ride"/\("walk":Str)≠"ride"/\("wait":Str)≠"ride":=by decide +kernel
theorem Ys.uniq (o:hI T){j g:Nat}(h:Ys T vs j S)(h':Ys T vs g n):j=g/\S=n:=by
 obtain⟨f,d,c,r,q,p⟩:=JY;rcases h with⟨y,b,i,e,_,_,rfl,rfl⟩|⟨y,b,e,rfl,rfl⟩|⟨y,b,i,e,_,_,rfl,rfl⟩|⟨y,b,i,e,_,_,_,rfl,rfl⟩ <;>rcases h' with⟨z,hz,l,a,_,_,rfl,rfl⟩|⟨z,hz,a,rfl,rfl⟩|⟨z,hz,l,a,_,_,rfl,rfl⟩|⟨z,hz,l,a,_,_,_,rfl,rfl⟩<;>rw[e]at a<;>simp only[fw,V.str.injEq,V.int.injEq,reduceCtorEq,and_true,and_false]at a
 .rw[Y4 (J2 o (j:=4) (.inr (.inr (.inr rfl)))) b hz a.2.1,a.2.2];exact⟨rfl,rfl⟩
 .exact absurd a.1 f
 .exact absurd a.1 d
 .rw[Y4 (J2 o (j:=2) (.inr (.inl rfl))) b hz a.2];exact⟨rfl,rfl⟩
 .exact absurd a.1.symm f
 .rw[Y4 (J2 o (j:=3) (.inr (.inr (.inl rfl)))) b hz a.2.1,a.2.2];exact⟨rfl,rfl⟩
 .exact absurd a.1 c
 .exact absurd a.1.symm d
 .exact absurd a.1.symm c
 .rw[Y4 (J2 o (j:=1) (.inl rfl)) b hz a.2.1,a.2.2];exact⟨rfl,rfl⟩
noncomputable def tD(vk vt vh vr vp:V):List (Str×V):=[("its_key",vk),("its_tail",vt),("its_head",vh),("its_room",vr),("its_price",vp)]
noncomputable def RM(H:Hp)(Cs:Nat->Addr)(x:Addr)(j:Nat)(S:Sx):Prop:=∃dx k vt vh,H x=some (.ins (Cs j) dx (tD (.ref k) vt vh S.room (.int S.pP)))/\H k=some (.tup (S.key.map kV))/\Is H vt S.tail/\Is H vh S.head
noncomputable def qw:List Str:=["its_key","its_tail","its_head","its_room","its_price"]
structure so(K:ae)(C:Addr):Prop where
 cl:qH K C
 na:∀f∈qw,XA K C f
noncomputable def RX(K:ae):Sp:=λvs H Q _=>∃(x C dx:Addr)(vk vt vh vr vp:V),vs=[.ref x,vk,vt,vh,vr,vp]/\so K C/\H x=some (.ins C dx [])/\Q .non (upd H x (.ins C dx (tD vk vt vh vr vp)))
structure sy(P:Program)(w:World)(K:ae)(mg:Str->Option Value)(base:Heap)(Cb:Addr):Prop where
 at_:∃f fd,jR P w K mg base jS 1 f fd [hB,"key","tail","head","room","price"] (RX K)/\qU K Cb "__init__" f/\Binds K fd [hB,"key","tail","head","room","price"] []
 mg:mg "Step"=some (.ref Cb)
structure t9(P:Program)(w:World)(K:ae)(mg:Str->Option Value)(base:Heap)(x:Str)(C:Addr)(ps:List Str)(sp:Sp):Prop where
 made:∃f fd,Mk K C f/\jR P w K mg base jS 2 f fd ps sp/\Binds K fd ps []
 mg:mg x=some (.ref C)
noncomputable def nY(K:ae)(Cs:Nat->Addr)(j:Nat)(rd:List V->List V->Sx->Prop):Sp:=λvs H Q _=>∃(x dx r:Addr)(y:List V)(us:List V)(S:Sx),vs=.ref x::.ref r::us/\so K (Cs j)/\H x=some (.ins (Cs j) dx [])/\H r=some (.tup y)/\rd y us S /\∀H',Zh x H H'->RM H' Cs x j S->Q .non H'
noncomputable def Kk(y us:List V)(S:Sx):Prop:=∃a b c d i,y=[.str a,.str b,c,d]/\us=[.int i]/\S=pQ y i
noncomputable def QU(y us:List V)(S:Sx):Prop:=∃a b c d e f,y=[.str a,.str b,.int c,.str d,.int e,.int f]/\us=[]/\S=Jm y
noncomputable def QS(y us:List V)(S:Sx):Prop:=∃a b c d e i,y=[.str a,.str b,.str c,.int d,.int e]/\us=[.int i]/\S=UU y i
noncomputable def QT(y us:List V)(S:Sx):Prop:=∃a b i,y=[.str a,b]/\us=[.int i]/\S=UW y i
theorem um{K:ae}{C:Addr}(Z:so K C){f:Str}(h:f∈qw):XA K C f:=Z.na f h
mutual
theorem NZ{H:Hp} (a:∀xs,H x≠some (.lst xs)/\H x≠some (.tup xs)):∀{v:V}{d:PyData},Is H v d->Is (upd H x o) v d
|_,_,.non=>.non
|_,_,.bl b=>.bl b
|_,_,.int i=>.int i
|_,_,.str z=>.str z
|_,_,.lst e r=>.lst (by rw[Zf (λz=>(a _).1 (z▸e))];exact e) (UN a r)
|_,_,.tup e r=>.tup (by rw[Zf (λz=>(a _).2 (z▸e))];exact e) (UN a r)
theorem UN{H:Hp} (a:∀xs,H x≠some (.lst xs)/\H x≠some (.tup xs)):∀{v:List V}{d:List PyData},jN H v d->jN (upd H x o) v d
|_,_,.nil=>.nil
|_,_,.cons h r=>.cons (NZ a h) (UN a r)
end
theorem Gd{H:Hp}{a:Nat->Addr}{j:Nat}{S:Sx} (e:H x=some (.ins (a j) f fs))(hk:H k=some (.tup (S.key.map kV)))(i:Is H b S.tail)(l:Is H c S.head):RM (upd H x (.ins (a j) f (tD (.ref k) b c S.room (.int S.pP)))) a x j S:=by have g:∀{v:V}{d:PyData},Is H v d->Is (upd H x (.ins (a j) f (tD (.ref k) b c S.room (.int S.pP)))) v d:=λh=>NZ (λxs=>⟨(λz=>by rw[e]at z;cases z),(λz=>by rw[e]at z;cases z)⟩) h;exact⟨f,k,b,c,Zd,by rw[Zf (hA hk e (by intro z;cases z))];exact hk,g i,g l⟩
theorem sG  {fs:List (Str×V)}{n:Nat}(h:fs.length<n):(jB f v fs).length<n+1:=by have:=Y5 f v fs;omega
theorem small{n:Nat}(h:n<10):n<1000:=by omega
section
variable {P:Program}{w:World}{K:ae}{mg:Str->Option Value}{base:Heap}{Cb:Addr}{Cs:Nat->Addr}
theorem UC:fx [hB,"key","tail","head","room","price"] [hB,"key","tail","head","room","price"] (Ze T.jj):=jX
theorem KP{f:Addr}{fd:dk}(F:oK K "__init__" "Step.__init__" T.jj f fd):jR P w K mg base jS 1 f fd [hB,"key","tail","head","room","price"] (RX K):=by
 refine F.ok UC (λvs H Q E h=>?_) (λj A outer s H vs Q E l h=>?_)
 .obtain⟨x,C,a,e,b,g,c,d,rfl,_⟩:=h;rfl
 .obtain⟨x,C,a,e,b,g,c,d,rfl,Z,i,k⟩:=h;refine⟨_,(Za (Y8 (pv 0) (pv 1) rfl) (Za (Y8 (pv 0) (pv 2) rfl) (Za (Y8 (pv 0) (pv 3) rfl) (Za (Y8 (pv 0) (pv 4) rfl) (Zc (Y8 (pv 0) (pv 5) rfl)))))),?_⟩;refine⟨_,rfl,_,rfl,x,C,a,_,rfl,i,Z.cl,um Z (by decide +kernel),by decide,?_⟩;refine⟨_,rfl,_,rfl,x,C,a,_,rfl,Zd,Z.cl,um Z (by decide +kernel),small (n:=_) (sG (Nat.zero_lt_succ 8)),?_⟩;refine⟨_,rfl,_,rfl,x,C,a,_,rfl,Zd,Z.cl,um Z (by decide +kernel),small (n:=_) (sG (sG (Nat.zero_lt_succ 7))),?_⟩;refine⟨_,rfl,_,rfl,x,C,a,_,rfl,Zd,Z.cl,um Z (by decide +kernel),small (n:=_) (sG (sG (sG (Nat.zero_lt_succ 6)))),?_⟩;refine⟨_,rfl,_,rfl,x,C,a,_,rfl,Zd,Z.cl,um Z (by decide +kernel),small (n:=_) (sG (sG (sG (sG (Nat.zero_lt_succ 5))))),?_⟩;simp only[LU];exact k
theorem VG:fx [hB,"row","turn"] [hB,"row","turn"] (Ze T.j3):=jX
theorem Fj  (C:sy P w K mg base Cb)(F:oK K "__init__" "SetOut.__init__" T.j3 f fd):jR P w K mg base jS 2 f fd [hB,"row","turn"] (nY K Cs 0 Kk):=by
 obtain⟨f1,U,R,O,p⟩:=C.at_;refine F.ok VG (λvs H Q E h=>?_) (λW A outer s H vs Q E D h=>?_)
 .obtain⟨x,z,r,y,us,S,rfl,_,_,_,⟨a,b,c,d,i,_,rfl,_⟩,_⟩:=h;rfl
 .obtain⟨x,z,r,y,us,S,rfl,Z,u,l,⟨a,b,c,d,i,rfl,rfl,rfl⟩,k⟩:=h;refine' ⟨_,(Zc ?I),?rd⟩;case' I=>refine' (Z9 (Gh (Ye (v:=.ref Cb) rfl C.mg rfl) O R D.m p .nil Z6 (Zg (pv 0) (Zg (Zx (kg ZC (it K (pv 1) Zb) (pv 2))) (Zg (it K (pv 1) Zb) (kg (Zx (jz (it K (pv 1) Zb) (pv 2))) ZJ Zb))))))
  have ox:kZ [V.str a,.str b,c,d] 0=some (.str a):=Zj (j:=0) rfl;have q:kZ [V.str a,.str b,c,d] 1=some (.str b):=Zj (j:=1) rfl;refine⟨_,rfl,_,rfl,r,_,0,_,rfl,rfl,hO.of l,ox,_,rfl,zl,λY L=>?_⟩;dsimp only[jn];refine l8 L λH1 n N=>?_;refine⟨_,rfl,r,_,0,_,rfl,rfl,hO.of (n _ _ l),ox,pI (n _ _ l) q ⟨_,rfl,zl,λX J=>?_⟩⟩;dsimp only[jn];refine l8 J λH2 B M=>?_;have g:=n.trans B;refine⟨x,Cs 0,z,_,_,_,_,_,rfl,Z,g _ _ u,k _ ?_ ?_⟩
  .exact λc o e G=>by rw[Zf G];exact g _ _ e
  .exact Gd (S:=pQ [.str a,.str b,c,d] i) (g _ _ u) (B _ _ N) (.str _) (.tup M (.cons (.str _) (.cons (.int _) .nil)))
theorem Xj:fx [hB,"row","leave","come"] [hB,"row"] (Ze T.kD):=jX
theorem Dw  (M:sy P w K mg base Cb)(F:oK K "__init__" "Ride.__init__" T.kD f fd):jR P w K mg base jS 2 f fd [hB,"row"] (nY K Cs 1 QU):=by
 obtain⟨f1,ab,F1,b1,u⟩:=M.at_;refine F.ok Xj (λvs H Q E h=>?_) (λag A outer s H vs Q E N h=>?_)
 .obtain⟨x,I,r,y,us,S,rfl,_,_,_,⟨_,_,_,_,_,_,_,rfl,_⟩,_⟩:=h;rfl
 .obtain⟨x,I,r,y,us,S,rfl,Z,G,l,⟨a,b,c,d,e,g,rfl,rfl,rfl⟩,k⟩:=h;refine' ⟨_,(Za (st 2 Xj.nd (it K (pv 1) Zb)) (Za (st 3 Xj.nd (it K (pv 1) Zb)) (Zc ?q))),?rd⟩;case' q=>refine' (Z9 (Gh (Ye (v:=.ref Cb) rfl M.mg rfl) b1 F1 N.m u .nil Z6 (Zg (pv 0) (Zg (Zx (jz ZC (it K (pv 1) Zb))) (Zg (Zx (jz (it K (pv 1) Zb) (pv 2))) (kg (Zx (jz (it K (pv 1) Zb) (pv 3))) (it K (pv 1) Zb) (Zr XW (pv 3) (pv 2))))))))
  have ox:kZ [V.str a,.str b,.int c,.str d,.int e,.int g] 0=some (.str a):=Zj (j:=0) rfl;have D:kZ [V.str a,.str b,.int c,.str d,.int e,.int g] 1=some (.str b):=Zj (j:=1) rfl;have at2:kZ [V.str a,.str b,.int c,.str d,.int e,.int g] 2=some (.int c):=Zj (j:=2) rfl;have C:kZ [V.str a,.str b,.int c,.str d,.int e,.int g] 3=some (.str d):=Zj (j:=3) rfl;have B:kZ [V.str a,.str b,.int c,.str d,.int e,.int g] 4=some (.int e):=Zj (j:=4) rfl;have z:kZ [V.str a,.str b,.int c,.str d,.int e,.int g] 5=some (.int g):=Zj (j:=5) rfl;refine pI l at2 ?_;refine pI l B ?_;refine⟨_,rfl,_,rfl,r,_,0,_,rfl,rfl,hO.of l,ox,zl,λq1 W=>?_⟩;dsimp only[jn];refine l8 W λH1 L e1=>?_;refine pI (L _ _ l) D ⟨_,rfl,zl,λq2 U=>?_⟩;dsimp only[jn];refine l8 U λH2 J Y=>?_;have n:=L.trans J;refine pI (n _ _ l) C ⟨_,rfl,zl,λq3 R=>?_⟩;dsimp only[jn];refine l8 R λH3 p X=>?_;have i:=n.trans p;refine pI (i _ _ l) z ⟨_,rfl,_,rfl,_,_,rfl,rfl,?_⟩;refine⟨x,Cs 1,I,_,_,_,_,_,rfl,Z,i _ _ G,k _ ?_ ?_⟩
  .exact λc o e O=>by rw[Zf O];exact i _ _ e
  .exact Gd (S:=Jm [.str a,.str b,.int c,.str d,.int e,.int g]) (i _ _ G) (p _ _ (J _ _ e1)) (.tup (p _ _ Y) (.cons (.str _) (.cons (.int _) .nil))) (.tup X (.cons (.str _) (.cons (.int _) .nil)))
theorem Jk:fx [hB,"row","turn","long"] [hB,"row","turn"] (Ze T.kr):=jX
theorem Du  (L:sy P w K mg base Cb)(F:oK K "__init__" "Walk.__init__" T.kr f fd):jR P w K mg base jS 2 f fd [hB,"row","turn"] (nY K Cs 2 QS):=by
 obtain⟨f1,ab,F1,b1,u⟩:=L.at_;refine F.ok Jk (λvs H Q E h=>?_) (λag A outer s H vs Q E M h=>?_)
 .obtain⟨x,G,r,y,us,S,rfl,_,_,_,⟨_,_,_,_,_,_,_,rfl,_⟩,_⟩:=h;rfl
 .obtain⟨x,G,r,y,us,S,rfl,Z,D,l,⟨a,b,c,d,e,i,rfl,rfl,rfl⟩,k⟩:=h;refine' ⟨_,(Za (st 3 Jk.nd (it K (pv 1) Zb)) (Zc ?q)),?rd⟩;case' q=>refine' (Z9 (Gh (Ye (v:=.ref Cb) rfl L.mg rfl) b1 F1 M.m u .nil Z6 (Zg (pv 0) (Zg (Zx (kg ZC (it K (pv 1) Zb) (pv 2))) (Zg (Zx (jz (it K (pv 1) Zb) (pv 2))) (kg (Zx (jz (it K (pv 1) Zb) (Zr ZL (pv 2) (pv 3)))) (it K (pv 1) Zb) (pv 3)))))))
  have ox:kZ [V.str a,.str b,.str c,.int d,.int e] 0=some (.str a):=Zj (j:=0) rfl;have C:kZ [V.str a,.str b,.str c,.int d,.int e] 1=some (.str b):=Zj (j:=1) rfl;have at2:kZ [V.str a,.str b,.str c,.int d,.int e] 2=some (.str c):=Zj (j:=2) rfl;have B:kZ [V.str a,.str b,.str c,.int d,.int e] 3=some (.int d):=Zj (j:=3) rfl;have z:kZ [V.str a,.str b,.str c,.int d,.int e] 4=some (.int e):=Zj (j:=4) rfl;refine pI l B ?_;refine⟨_,rfl,_,rfl,r,_,0,_,rfl,rfl,hO.of l,ox,_,rfl,zl,λq1 U=>?_⟩;dsimp only[jn];refine l8 U λH1 J Y=>?_;refine pI (J _ _ l) C ⟨_,rfl,zl,λq2 R=>?_⟩;dsimp only[jn];refine l8 R λH2 I X=>?_;have n:=J.trans I;refine pI (n _ _ l) at2 ⟨_,rfl,_,rfl,_,_,rfl,rfl,zl,λq3 O=>?_⟩;dsimp only[jn];refine l8 O λH3 p W=>?_;have g:=n.trans p;refine pI (g _ _ l) z ⟨_,rfl,?_⟩;refine⟨x,Cs 2,G,_,_,_,_,_,rfl,Z,g _ _ D,k _ ?_ ?_⟩
  .exact λc o e N=>by rw[Zf N];exact g _ _ e
  .exact Gd (S:=UU [.str a,.str b,.str c,.int d,.int e] i) (g _ _ D) (p _ _ (I _ _ Y)) (.tup (p _ _ X) (.cons (.str _) (.cons (.int _) .nil))) (.tup W (.cons (.str _) (.cons (.int _) .nil)))
theorem Uz:fx [hB,"row","turn"] [hB,"row","turn"] (Ze T.ku):=jX
theorem Dv  (D:sy P w K mg base Cb)(F:oK K "__init__" "Wait.__init__" T.ku f fd):jR P w K mg base jS 2 f fd [hB,"row","turn"] (nY K Cs 3 QT):=by
 obtain⟨f1,Y,X,W,p⟩:=D.at_;refine F.ok Uz (λvs H Q E h=>?_) (λab A outer s H vs Q E G h=>?_)
 .obtain⟨x,z,r,y,us,S,rfl,_,_,_,⟨_,_,_,_,rfl,_⟩,_⟩:=h;rfl
 .obtain⟨x,z,r,y,us,S,rfl,Z,u,l,⟨a,b,i,rfl,rfl,rfl⟩,k⟩:=h;refine' ⟨_,(Zc ?J),?rd⟩;case' J=>refine' (Z9 (Gh (Ye (v:=.ref Cb) rfl D.mg rfl) W X G.m p .nil Z6 (Zg (pv 0) (Zg (Zx (kg ZC (it K (pv 1) Zb) (pv 2))) (Zg (Zx (jz (it K (pv 1) Zb) (pv 2))) (kg (Zx (jz (it K (pv 1) Zb) (Zr ZL (pv 2) Zb))) (it K (pv 1) Zb) Zb))))))
  have ox:kZ [V.str a,b] 0=some (.str a):=Zj (j:=0) rfl;have q:kZ [V.str a,b] 1=some b:=Zj (j:=1) rfl;refine⟨_,rfl,_,rfl,r,_,0,_,rfl,rfl,hO.of l,ox,_,rfl,zl,λq1 N=>?_⟩;dsimp only[jn];refine l8 N λH1 C U=>?_;refine⟨_,rfl,r,_,0,_,rfl,rfl,hO.of (C _ _ l),ox,_,rfl,zl,λq2 M=>?_⟩;dsimp only[jn];refine l8 M λH2 B R=>?_;have g:=C.trans B;refine⟨_,rfl,r,_,0,_,rfl,rfl,hO.of (g _ _ l),ox,_,rfl,_,_,rfl,rfl,zl,λq3 L=>?_⟩;dsimp only[jn];refine l8 L λH3 n O=>?_;have d:=g.trans n;refine pI (d _ _ l) q ?_;refine⟨x,Cs 3,z,_,_,_,_,_,rfl,Z,d _ _ u,k _ ?_ ?_⟩
  .exact λc o e I=>by rw[Zf I];exact d _ _ e
  .exact Gd (S:=UW [.str a,b] i) (d _ _ u) (n _ _ (B _ _ U)) (.tup (n _ _ R) (.cons (.str _) (.cons (.int _) .nil))) (.tup O (.cons (.str _) (.cons (.int _) .nil)))
end
noncomputable def R6(K:ae)(f:Str):Sp:=λvs H Q _=>∃(x C dx:Addr)(fs:List (Str×V))(v:V),vs=[.ref x]/\so K C/\H x=some (.ins C dx fs)/\fs.lookup f=some v/\Q v H
noncomputable def Jz(C:Addr)(fld:Str):Sp:=λvs H Q _=>∃t z T fs d f5 v,vs=[.ref t,.str z]/\Tab H C t fs/\fs.lookup fld=some (.ref d)/\H d=some (.dK f5)/\Th H (.str z) T/\f' f5 (.inr z)=some v/\Q v H
theorem Ju  {v:V}(h:f' a (.inr z)=some v):ZR (.str z) a=true:=by show(f' a (.inr z)).isSome=true;rw[h];rfl
section
variable {P:Program}{w:World}{K:ae}{mg:Str->Option Value}{base:Heap}{C:Addr}
theorem NA:fx [hB] [hB] (Ze T.mh):=jX
theorem Vr(D:mr K C "tail" "Step.tail" T.mh [hB]):jA P w K mg base jS 1 C "tail" [hB] (R6 K "its_tail"):=by refine D.cn NA λf d A outer s H vs Q E e h=>?_;obtain⟨x,C,c,fs,v,rfl,Z,a,b,k⟩:=h;refine⟨_,(Zc (Zk (Yi (pv 0) rfl))),?_⟩;exact⟨_,rfl,x,C,c,fs,_,rfl,a,Z.cl,um Z (by decide +kernel),b,k⟩
theorem NB:fx [hB] [hB] (Ze T.mi):=jX
theorem Vs(D:mr K C "head" "Step.head" T.mi [hB]):jA P w K mg base jS 1 C "head" [hB] (R6 K "its_head"):=by refine D.cn NB λf d A outer s H vs Q E e h=>?_;obtain⟨x,C,c,fs,v,rfl,Z,a,b,k⟩:=h;refine⟨_,(Zc (Zk (Yi (pv 0) rfl))),?_⟩;exact⟨_,rfl,x,C,c,fs,_,rfl,a,Z.cl,um Z (by decide +kernel),b,k⟩
theorem VW:fx [hB,"name"] [hB,"name"] (Ze T.ka):=jX
theorem MB(Z:nV K C)(o:jA P w K mg base jS 2 C "is_ride" [hB,jt] (XE C "ride_by_name"))(D:mr K C "ride_row" "Table.ride_row" T.ka [hB,"name"]):jA P w K mg base jS 3 C "ride_row" [hB,"name"] (Jz C "ride_by_name"):=by refine D.cn VW λf p A outer s H vs Q E g h=>?_;obtain⟨t,z,n,fs,d,b,v,rfl,a,i,hd,j,c,k⟩:=h;obtain⟨l,e⟩:=id a.at_;refine⟨_,(Za (ZA (ZK (ZH (ZZ o Z.cl Z6 g.m (pv 0) (Zg (pv 1) Zl)))) (Zc Xu) Zn) (Zc (Zk (YR (Z0 g) (Yi (pv 0) rfl) (pv 1) (λ_ _=>rfl))))),?_⟩;refine km e (a.only _ (by decide +kernel)) ⟨_,rfl,t,_,n,fs,d,b,rfl,a,i,hd,j,_,rfl,?_⟩;rw[Ju c];refine jI ?_;exact⟨_,rfl,t,C,l,fs,_,rfl,e,Z.cl,Z.na _ (by simp[fields]),i,_,rfl,d,v,rfl,(by rw[<-c];exact j8.k (k:=cD z) hd),k⟩
theorem UA:fx [hB,"name"] [hB,"name"] (Ze T.kz):=jX
theorem N3(Z:nV K C)(o:jA P w K mg base jS 2 C "is_way" [hB,jt] (XE C "way_by_name"))(D:mr K C "way_row" "Table.way_row" T.kz [hB,"name"]):jA P w K mg base jS 3 C "way_row" [hB,"name"] (Jz C "way_by_name"):=by refine D.cn UA λf p A outer s H vs Q E g h=>?_;obtain⟨t,z,n,fs,d,b,v,rfl,a,i,hd,j,c,k⟩:=h;obtain⟨l,e⟩:=id a.at_;refine⟨_,(Za (ZA (ZK (ZH (ZZ o Z.cl Z6 g.m (pv 0) (Zg (pv 1) Zl)))) (Zc Xu) Zn) (Zc (Zk (YR (Z0 g) (Yi (pv 0) rfl) (pv 1) (λ_ _=>rfl))))),?_⟩;refine km e (a.only _ (by decide +kernel)) ⟨_,rfl,t,_,n,fs,d,b,rfl,a,i,hd,j,_,rfl,?_⟩;rw[Ju c];refine jI ?_;exact⟨_,rfl,t,C,l,fs,_,rfl,e,Z.cl,Z.na _ (by simp[fields]),i,_,rfl,d,v,rfl,(by rw[<-c];exact j8.k (k:=cD z) hd),k⟩
theorem VF:fx [hB,"name"] [hB,"name"] (Ze T.j1):=jX
theorem Mr(Z:nV K C)(o:jA P w K mg base jS 2 C "is_group" [hB,jt] (XE C rg))(D:mr K C "group_row" "Table.group_row" T.j1 [hB,"name"]):jA P w K mg base jS 3 C "group_row" [hB,"name"] (Jz C rg):=by refine D.cn VF λf p A outer s H vs Q E g h=>?_;obtain⟨t,z,n,fs,d,b,v,rfl,a,i,hd,j,c,k⟩:=h;obtain⟨l,e⟩:=id a.at_;refine⟨_,(Za (ZA (ZK (ZH (ZZ o Z.cl Z6 g.m (pv 0) (Zg (pv 1) Zl)))) (Zc Xu) Zn) (Zc (Zk (YR (Z0 g) (Yi (pv 0) rfl) (pv 1) (λ_ _=>rfl))))),?_⟩;refine km e (a.only _ (by decide +kernel)) ⟨_,rfl,t,_,n,fs,d,b,rfl,a,i,hd,j,_,rfl,?_⟩;rw[Ju c];refine jI ?_;exact⟨_,rfl,t,C,l,fs,_,rfl,e,Z.cl,Z.na _ (by simp[fields]),i,_,rfl,d,v,rfl,(by rw[<-c];exact j8.k (k:=cD z) hd),k⟩
theorem UB:fx [hB,"name"] [hB,"name"] (Ze T.kA):=jX
theorem N4(Z:nV K C)(o:jA P w K mg base jS 2 C "is_place" [hB,jt] (XE C oq))(D:mr K C "room_of" "Table.room_of" T.kA [hB,"name"]):jA P w K mg base jS 3 C "room_of" [hB,"name"] (Jz C oq):=by refine D.cn UB λf p A outer s H vs Q E g h=>?_;obtain⟨t,z,n,fs,d,b,v,rfl,a,i,hd,j,c,k⟩:=h;obtain⟨l,e⟩:=id a.at_;refine⟨_,(Za (ZA (ZK (ZH (ZZ o Z.cl Z6 g.m (pv 0) (Zg (pv 1) Zl)))) (Zc Xu) Zn) (Zc (Zk (YR (Z0 g) (Yi (pv 0) rfl) (pv 1) (λ_ _=>rfl))))),?_⟩;refine km e (a.only _ (by decide +kernel)) ⟨_,rfl,t,_,n,fs,d,b,rfl,a,i,hd,j,_,rfl,?_⟩;rw[Ju c];refine jI ?_;exact⟨_,rfl,t,C,l,fs,_,rfl,e,Z.cl,Z.na _ (by simp[fields]),i,_,rfl,d,v,rfl,(by rw[<-c];exact j8.k (k:=cD z) hd),k⟩
end
structure Ask(H:Hp)(fs:List (Str×V))(fld:Str)(t:List (List V))(d:Addr)(f5:Kv):Prop where
 fld:fs.lookup fld=some (.ref d)
 at_:H d=some (.dK f5)
 yes:∀y∈t,∃a,f' f5 (.inr (nameOf y))=some (.ref a)/\H a=some (.tup y)
 no:∀z,z∉t.map nameOf->f' f5 (.inr z)=none
theorem RK      (h:Vh H fs f g (vq xs t) k)(r:Xe H xs (t.map some))(D:oI k t xs):∃d,Ask H fs g t d k:=by
 obtain⟨l,d,s,rs,a1,a2,v,u,q⟩:=h;refine⟨d,a2,q,λy j=>?_,D.no⟩;obtain⟨i,b⟩:=aJ.mp j;have c:i<t.length:=(aj.mp b).1;have n:i<xs.length:=by rw[r.1,lm];exact c
 have e:xs[i]?=some xs[i]:=gE n;obtain⟨a,p,o,_⟩:=r.2 i _ _ e (show(t.map some)[i]?=some (some y) by rw[aY,b];rfl);exact⟨a,by rw[<-p];exact D.at_ i y _ b e,o⟩
structure zI(H:Hp)(C t:Addr)(T:Tb)(fs:List (Str×V)):Prop where
 tab:Tab H C t fs
 turns:fs.lookup ("turns":Str)=some (.int T.n)
 r:∃d k,Ask H fs "ride_by_name" T.t2 d k
 w:∃d k,Ask H fs "way_by_name" T.t3 d k
 g:∃d k,Ask H fs rg T.t4 d k
 p:∃d k,fs.lookup (oq:Str)=some (.ref d)/\H d=some (.dK k)/\lT k T.t1
theorem Jf   (h:qE H C t T):∃fs,zI H C t T fs:=by
 obtain⟨fs,n,j,i,f,k,tp,d⟩:=h;refine⟨fs,tp.tab.tab,tp.tab.turns,?_,?_,?_,?_⟩
 .obtain⟨b,a⟩:=RK tp.tab.r (tp.rows _ (.inr (.inl rfl)) _ _ rfl) d.r;exact⟨b,_,a⟩
 .obtain⟨b,a⟩:=RK tp.tab.w (tp.rows _ (.inr (.inr (.inl rfl))) _ _ rfl) d.w;exact⟨b,_,a⟩
 .obtain⟨b,a⟩:=RK tp.tab.g (tp.rows _ (.inr (.inr (.inr rfl))) _ _ rfl) d.g;exact⟨b,_,a⟩
 .obtain⟨l,b,e,rs,a1,a2,q,o,c⟩:=tp.tab.p;exact⟨b,_,a2,c,d.p⟩
theorem Mv (h:mT (.str z)):GS z:=by cases h with|str h=>exact h
section
variable {T:Tb}(o:hI T)
include o
theorem UD{y:List V}(h:y∈T.t2):∃(a b d:Str)(c e f:Int),y=[.str a,.str b,.int c,.str d,.int e,.int f]/\GS a/\GS b/\GS d/\0<=c/\c+1<=e/\e<=T.n/\0<=f/\f<=1000:=by obtain⟨k1,hk⟩:=NJ o;obtain⟨G,l⟩:=J4 o (j:=2) (.inr (.inl rfl)) h;obtain⟨z,s,lv,g',A,q,rfl,w,he,a1,a2,E,D,C,B⟩:=Tq o h hk.has;obtain⟨u,r⟩:=Qj o hk he;obtain⟨i,g,_⟩:=Ud he;obtain⟨x,v,rfl,_⟩:=Yh i;obtain⟨p,F,rfl,_⟩:=Yh g;rw[w]at l;exact⟨z,x,p,lv,A,q,rfl,l,Mv u,Mv r,a1,E,D,C,B⟩
theorem GZ{y:List V}(h:y∈T.t3):∃(a b c:Str)(d e:Int),y=[.str a,.str b,.str c,.int d,.int e]/\GS a/\GS b/\GS c/\1<=d/\d<=50/\0<=e/\e<=1000:=by obtain⟨k1,hk⟩:=NJ o;obtain⟨F,D⟩:=J4 o (j:=3) (.inr (.inr (.inl rfl))) h;have r:=GY o (j:=3) (.inr (.inr (.inl rfl))) h;have hw:=r.why k1 (λ_=>hk.has);obtain⟨a,b,c,d,e,rfl⟩:=qs r.len;obtain⟨he,C,B⟩:=LR (hw 0 (λz=>by cases z):o_ k1 b c d e=.non);obtain⟨p,n⟩:=Qj o hk he;obtain⟨l,g,_⟩:=Ud he;obtain⟨x,v,rfl,_⟩:=Yh l;obtain⟨f,G,rfl,_⟩:=Yh g;obtain⟨i,rfl,A,w⟩:=within_int C;obtain⟨j,rfl,u,s⟩:=within_int B;have E:a=.str (nameOf [a,.str x,.str f,.int i,.int j]):=F;exact⟨_,x,f,i,j,congrArg (λq=>[q,.str x,.str f,.int i,.int j]) E,D,Mv p,Mv n,A,w,u,s⟩
theorem YE{y:List V}(h:y∈T.t4):∃(a b:Str)(c d:Int),y=[.str a,.str b,.int c,.int d]/\GS a/\GS b/\0<=c/\c<=T.n/\0<=d/\d<=300:=by obtain⟨k1,hk⟩:=NJ o;obtain⟨w,s⟩:=J4 o (j:=4) (.inr (.inr (.inr rfl))) h;have r:=GY o (j:=4) (.inr (.inr (.inr rfl))) h;have hw:=r.why k1 (λ_=>hk.has);obtain⟨a,b,c,d,rfl⟩:=oF r.len;obtain⟨e,p,i,rfl,l,g⟩:=U4 (hw (300-ZM [a,b,c,d]) (λ_=>by omega):Xz k1 T.n _ b c d=.non);have f:=UK o hk e;obtain⟨x,v,rfl,_⟩:=Yh e;obtain⟨t,rfl,t0,t1⟩:=within_int p;have u:a=.str (nameOf [a,.str x,.int t,.int i]):=w;exact⟨_,x,t,i,congrArg (λq=>[q,.str x,.int t,.int i]) u,s,Mv f,t0,t1,l,g⟩
end
theorem PM{T:Tb}{x v:V}{j:Nat}{S:Sx}(h:Ys T [.str "out",x,v] j S):∃y∈T.t4,∃i,x=.str (nameOf y)/\v=.int i/\iA y 2<=i/\i<=T.n:=by
 obtain⟨c,b,p,o,l,g⟩:=JY;rcases h with⟨y,a,i,e,f,d,_⟩|⟨y,a,e,_⟩|⟨y,a,i,e,_⟩|⟨y,a,i,e,_⟩<;>simp only[fw,V.str.injEq,reduceCtorEq,and_true,and_false]at e
 .exact⟨y,a,i,e.2.1,e.2.2,f,d⟩
 .exact absurd e.1 c
 .exact absurd e.1 b
theorem MI {x v:V}{j:Nat}(h:Ys T [.str "walk",x,v] j S):∃y∈T.t3,∃i,x=.str (nameOf y)/\v=.int i/\0<=i/\i<=T.n-iA y 3:=by
 obtain⟨f,p,d,o,l,g⟩:=JY;rcases h with⟨y,a,i,e,c,b,_⟩|⟨y,a,e,_⟩|⟨y,a,i,e,c,b,_⟩|⟨y,a,i,e,_⟩<;>simp only[fw,V.str.injEq,reduceCtorEq,and_true,and_false]at e
 .exact absurd e.1.symm f
 .exact⟨y,a,i,e.2.1,e.2.2,c,b⟩
 .exact absurd e.1 d
theorem Uu {x v:V}{j:Nat}(h:Ys T [.str "wait",x,v] j S):∃y∈T.t1,∃i,x=.str (nameOf y)/\v=.int i/\at_ y 1≠.non/\0<=i/\i<=T.n-1:=by
 obtain⟨p,f,d,o,l,g⟩:=JY;rcases h with⟨y,a,i,e,c,b,_⟩|⟨y,a,e,_⟩|⟨y,a,i,e,c,b,_⟩|⟨y,a,i,e,h0,c,b,_⟩<;>simp only[fw,V.str.injEq,reduceCtorEq,and_true,and_false]at e
 .exact absurd e.1.symm f
 .exact absurd e.1.symm d
 .exact⟨y,a,i,e.2.1,e.2.2,h0,c,b⟩
noncomputable def Found(T:Tb)(vs:List V)(Cs:Nat->Addr)(H:Hp)(Q:VK):Prop:=(∀j S,Ys T vs j S->∀H' q,fy H H'->RM H' Cs q j S->Q (.ref q) H')/\((∀j S,¬Ys T vs j S)->∀H',fy H H'->Q .non H')
noncomputable def qZ(C:Addr)(Cs:Nat->Addr)(z:Str):Sp:=λvs H Q _=>∃(t:Addr)(x v:V)(T:Tb)(T1 T2:String),vs=[.ref t,x,v]/\qE H C t T/\hI T/\Th H x T1/\Th H v T2/\Found T [.str z,x,v] Cs H Q
theorem Vl{H H':Hp}{x a C:Addr}(f:H x=none)(hd:H a=none)(s:Zh x (upd (upd H a (.own x)) x (.ins C a [])) H'):fy H H':=λc o e=>by have b:c≠x:=fi e f;have d:c≠a:=fi e hd;exact s c o (by rw[Zf b,Zf d];exact e) b
theorem VR{H:Hp}{x b C a:Addr}{c:List V}(d:H x=none)(hd:H b=none)(e:H a=some (.tup c)):upd (upd H b (.own x)) x (.ins C b []) a=some (.tup c):=by rw[Zf (fi e d),Zf (fi e hd)];exact e
theorem NK{b:Kv}{t:List (List V)}{x:V}(hk:∀y∈t,∃a,f' b (.inr (nameOf y))=some a)(e:ZR x b=false):∀y∈t,x≠.str (nameOf y):=λy c z=>by obtain⟨a,d⟩:=hk y c;rw[z,Ju d]at e;cases e
theorem in_of{a:Kv}{t:List (List V)}(no:∀z,z∉t.map nameOf->f' a (.inr z)=none){z:Str}{v:V}(h:f' a (.inr z)=some v):∃y∈t,nameOf y=z:=by
 by_cases hz:z∈t.map nameOf
 .obtain⟨y,b,e⟩:=ao.mp hz;exact⟨y,b,e⟩
 .rw[no z hz]at h;cases h
section
variable {P:Program}{w:World}{K:ae}{mg:Str->Option Value}{base:Heap}{C:Addr}{Cs:Nat->Addr}
theorem Vw:fx [jL,"name","turn","row"] [jL,"name","turn"] (Ze T.lH):=jX
theorem Ry(Z:nV K C)(ZS:∀j,j<4->so K (Cs j))(M:t9 P w K mg base "SetOut" (Cs 0) [hB,"row","turn"] (nY K Cs 0 Kk))(CG:jA P w K mg base jS 2 C "is_group" [hB,jt] (XE C rg))(CR:jA P w K mg base jS 3 C "group_row" [hB,"name"] (Jz C rg))(CI:hY P w K mg base 2 "is_within" [jt,"low","high"] K1.YY)(D:Df K mg "set_out_of" T.lH [jL,"name","turn"]):hY P w K mg base 4 "set_out_of" [jL,"name","turn"] (qZ C Cs "out"):=by
 obtain⟨fm,ab,hM,FM,bM⟩:=M.made;refine D.cn Vw λf aC A outer s H vs Q E F h=>?_;obtain⟨t,x,v,T,Y,T2,rfl,mL,ok,r,O,k1,X⟩:=h;obtain⟨fs,l⟩:=Jf mL;obtain⟨d,p,o⟩:=l.g;obtain⟨dx,N⟩:=l.tab.at_;refine⟨_,(Za (ZA (ZK (ZH (ZZ CG Z.cl Z6 F.m (pv 0) (Zg (pv 1) Zl)))) (Zc (Zk ZJ)) Zn) (Za (st 3 Vw.nd (ZZ CR Z.cl Z6 F.m (pv 0) (Zg (pv 1) Zl))) (Zc (Zk (V3 (ZH (cn CI F (Zg (pv 2) (Zg (it K (pv 3) Zb) (Zg (Yi (pv 0) rfl) Zl))))) (V2 hM FM F.m rfl M.mg bM .nil Z6 (Zg (pv 3) (Zg (pv 2) Zl))) ZJ))))),?_⟩;refine km N (l.tab.only _ (by decide +kernel)) ⟨_,rfl,t,x,Y,fs,d,p,rfl,l.tab,o.fld,o.at_,r,_,rfl,?_⟩;cases e:ZR x p with
|false=>refine jC ?_;refine X (λj S h=>?_) H (fy.refl H);obtain⟨y,b,i,q,_⟩:=PM h;exact NK (λy b=>let ⟨a,h,_⟩:=o.yes y b;⟨_,h⟩) e y b q
|true=>
  refine jI ?_;obtain⟨z,v0,rfl,hv⟩:=Yh e;obtain⟨y,b,rfl⟩:=in_of o.no hv;obtain⟨a,ha,u⟩:=o.yes y b;refine km N (l.tab.only _ (by decide +kernel)) ⟨_,rfl,t,_,Y,fs,d,p,_,rfl,l.tab,o.fld,o.at_,r,ha,?_⟩;obtain⟨a1,b1,I,d1,rfl,_⟩:=YE ok b;refine⟨_,rfl,qM 2 u rfl ⟨_,rfl,t,C,dx,fs,_,rfl,N,Z.cl,Z.na _ (by simp[fields]),l.turns,v,T2,I,T.n,rfl,O,_,rfl,?_⟩⟩;refine Z7 (λG=>?_) (λG=>?_)
  .obtain⟨i,rfl,L,J⟩:=within_int G;refine⟨_,rfl,_,rfl,λW U B c _=>⟨W,U,a,_,_,pQ _ i,rfl,ZS 0 (by decide),Zd,VR B c u,⟨a1,b1,_,_,i,rfl,rfl,rfl⟩,λH' s st=>⟨rfl,?_⟩⟩⟩;exact k1 0 _ (.inl ⟨_,b,i,rfl,L,J,rfl,rfl⟩) H' W (Vl B c s) st
  .refine X (λj S h=>?_) H (fy.refl H);obtain⟨y',R,i,q,rfl,L,J⟩:=PM h;injection q with q;obtain rfl:=Y4 (J2 ok (j:=4) (.inr (.inr (.inr rfl)))) b R q;have:K1.Zy (.int i) I T.n=true:=by show(decide (I<=i)&&decide (i<=T.n))=true;rw[decide_eq_true (show I<=i from L),decide_eq_true J];rfl
   rw[this]at G;cases G
theorem ME{i lo a:Int}(h0:lo<=i)(b:i<=a):K1.Zy (.int i) lo a=true:=by show(decide (lo<=i)&&decide (i<=a))=true;rw[decide_eq_true h0,decide_eq_true b];rfl
theorem GR:fx [jL,"name","turn","row"] [jL,"name","turn"] (Ze T.nK):=jX
theorem Lu(Z:nV K C)(ZS:∀j,j<4->so K (Cs j))(M:t9 P w K mg base "Walk" (Cs 2) [hB,"row","turn"] (nY K Cs 2 QS))(CG:jA P w K mg base jS 2 C "is_way" [hB,jt] (XE C "way_by_name"))(CR:jA P w K mg base jS 3 C "way_row" [hB,"name"] (Jz C "way_by_name"))(CI:hY P w K mg base 2 "is_within" [jt,"low","high"] K1.YY)(D:Df K mg "walk_of" T.nK [jL,"name","turn"]):hY P w K mg base 4 "walk_of" [jL,"name","turn"] (qZ C Cs "walk"):=by
 obtain⟨fm,ab,hM,FM,bM⟩:=M.made;refine D.cn GR λf aC A outer s H vs Q E B h=>?_;obtain⟨t,x,v,T,X,T2,rfl,mL,ok,q,N,k1,W⟩:=h;obtain⟨fs,g⟩:=Jf mL;obtain⟨d,o,l⟩:=g.w;obtain⟨dx,J⟩:=g.tab.at_;refine⟨_,(Za (ZA (ZK (ZH (ZZ CG Z.cl Z6 B.m (pv 0) (Zg (pv 1) Zl)))) (Zc (Zk ZJ)) Zn) (Za (st 3 GR.nd (ZZ CR Z.cl Z6 B.m (pv 0) (Zg (pv 1) Zl))) (Zc (Zk (V3 (ZH (cn CI B (Zg (pv 2) (Zg Zb (Zg (Zr XW (Yi (pv 0) rfl) (it K (pv 3) Zb)) Zl))))) (V2 hM FM B.m rfl M.mg bM .nil Z6 (Zg (pv 3) (Zg (pv 2) Zl))) ZJ))))),?_⟩;refine km J (g.tab.only _ (by decide +kernel)) ⟨_,rfl,t,x,X,fs,d,o,rfl,g.tab,l.fld,l.at_,q,_,rfl,?_⟩;cases e:ZR x o with
|false=>refine jC ?_;refine W (λj S h=>?_) H (fy.refl H);obtain⟨y,b,i,p,_⟩:=MI h;exact NK (λy b=>let ⟨a,h,_⟩:=l.yes y b;⟨_,h⟩) e y b p
|true=>
  refine jI ?_;obtain⟨z,v0,rfl,Y⟩:=Yh e;obtain⟨y,b,rfl⟩:=in_of l.no Y;obtain⟨a,ha,r⟩:=l.yes y b;refine km J (g.tab.only _ (by decide +kernel)) ⟨_,rfl,t,_,X,fs,d,o,_,rfl,g.tab,l.fld,l.at_,q,ha,?_⟩;obtain⟨a1,b1,c1,L,e1,rfl,_⟩:=GZ ok b;refine⟨_,rfl,_,rfl,t,C,dx,fs,_,rfl,J,Z.cl,Z.na _ (by simp[fields]),g.turns,qM 3 r rfl ⟨_,_,rfl,rfl,v,T2,0,T.n-L,rfl,N,_,rfl,?_⟩⟩;refine Z7 (λF=>?_) (λF=>?_)
  .obtain⟨i,rfl,I,G⟩:=within_int F;refine⟨_,rfl,_,rfl,λU R u c _=>⟨U,R,a,_,_,UU _ i,rfl,ZS 2 (by decide),Zd,VR u c r,⟨a1,b1,c1,L,e1,i,rfl,rfl,rfl⟩,λH' s st=>⟨rfl,?_⟩⟩⟩;exact k1 2 _ (.inr (.inr (.inl ⟨_,b,i,rfl,I,G,rfl,rfl⟩))) H' U (Vl u c s) st
  .refine W (λj S h=>?_) H (fy.refl H);obtain⟨y',O,i,p,rfl,I,G⟩:=MI h;injection p with p;obtain rfl:=Y4 (J2 ok (j:=3) (.inr (.inr (.inl rfl)))) b O p;rw[ME I (show i<=T.n-L from G)]at F;cases F
theorem GU:fx [jL,"name","turn","row"] [jL,"name","turn"] (Ze T.nM):=jX
theorem Lv(Z:nV K C)(ZS:∀j,j<4->so K (Cs j))(M:t9 P w K mg base "Wait" (Cs 3) [hB,"row","turn"] (nY K Cs 3 QT))(CP:jA P w K mg base jS 2 C "is_place" [hB,jt] (XE C oq))(CH:jA P w K mg base jS 3 C "is_home" [hB,jt] (VU C))(CR:jA P w K mg base jS 3 C "room_of" [hB,"name"] (Jz C oq))(CI:hY P w K mg base 2 "is_within" [jt,"low","high"] K1.YY)(D:Df K mg "wait_of" T.nM [jL,"name","turn"]):hY P w K mg base 4 "wait_of" [jL,"name","turn"] (qZ C Cs "wait"):=by
 obtain⟨fm,ag,hM,FM,bM⟩:=M.made;refine D.cn GU λf aC A outer s H vs Q E r h=>?_;obtain⟨t,x,v,T,W,T2,rfl,mL,ok,o,X,k1,L⟩:=h;obtain⟨fs,c⟩:=Jf mL;obtain⟨d,b,R,hd,J⟩:=c.p;obtain⟨dx,F⟩:=c.tab.at_;refine⟨_,(Za (ZA (PW.pt (YK (ZK (ZH (ZZ CP Z.cl Z6 r.m (pv 0) (Zg (pv 1) Zl)))) (YJ (ZH (ZZ CH Z.cl Z6 r.m (pv 0) (Zg (pv 1) Zl)))))) (Zc (Zk ZJ)) Zn) (Za (st 3 GU.nd (Zx (Zg (pv 1) (Zg (ZZ CR Z.cl Z6 r.m (pv 0) (Zg (pv 1) Zl)) Zl)))) (Zc (Zk (V3 (ZH (cn CI r (Zg (pv 2) (Zg Zb (Zg (Zr XW (Yi (pv 0) rfl) Zb) Zl))))) (V2 hM FM r.m rfl M.mg bM .nil Z6 (Zg (pv 3) (Zg (pv 2) Zl))) ZJ))))),?_⟩;refine km F (c.tab.only _ (by decide +kernel)) ⟨_,rfl,t,x,W,fs,d,b,rfl,c.tab,R,hd,o,_,rfl,?_⟩;cases e:ZR x b with
|false=>refine jC ?_;refine jC ?_;refine L (λj S h=>?_) H (fy.refl H);obtain⟨y,g,i,q,_⟩:=Uu h;exact NK (λy g=>⟨_,J.has y g⟩) e y g q
|true=>
  refine jI ?_;obtain⟨z,v0,rfl,hv⟩:=Yh e;obtain⟨y,g,rfl⟩:=in_of J.no hv;have ha:=J.has y g;refine km F (c.tab.only _ (by decide +kernel)) ⟨_,rfl,t,_,W,fs,d,b,rfl,c.tab,R,hd,o,_,rfl,?_⟩;have eh:V9 (.str (nameOf y)) b=decide (at_ y 1=.non):=by show decide (f' b (.inr (nameOf y))=some .non)=_;rw[ha];simp
  rw[eh];refine Z7 (λU=>?_) (λU=>?_)
  .refine L (λj S h=>?_) H (fy.refl H);obtain⟨y',u,i,q,rfl,h0,_⟩:=Uu h;injection q with q;obtain rfl:=Y4 (J2 ok (j:=1) (.inl rfl)) g u q;exact h0 (of_decide_eq_true U)
  .have h0:at_ y 1≠.non:=of_decide_eq_false U;refine⟨_,rfl,km F (c.tab.only _ (by decide +kernel)) ⟨_,rfl,t,_,W,fs,d,b,_,rfl,c.tab,R,hd,o,ha,zl,λa Y=>?_⟩⟩;dsimp only[jn];refine l8 Y λH1 I e1=>?_;obtain⟨p,rfl,gs,rm⟩:=Xp ok g;refine⟨_,rfl,_,rfl,t,C,dx,fs,_,rfl,I _ _ F,Z.cl,Z.na _ (by simp[fields]),c.turns,_,_,rfl,rfl,v,T2,0,T.n-1,rfl,X.same I,_,rfl,?_⟩;refine Z7 (λG=>?_) (λG=>?_)
   .obtain⟨i,rfl,O,N⟩:=within_int G;refine⟨_,rfl,_,rfl,λx' ab B l _=>⟨x',ab,a,_,_,UW (jD p) i,rfl,ZS 3 (by decide),Zd,VR B l e1,⟨_,_,i,rfl,rfl,rfl⟩,λH' s st=>⟨rfl,?_⟩⟩⟩;exact k1 3 _ (.inr (.inr (.inr ⟨_,g,i,rfl,h0,O,N,rfl,rfl⟩))) H' x' (I.trans (Vl B l s)) st
   .refine L (λj S h=>?_) H1 I;obtain⟨y',u,i,q,rfl,_,O,N⟩:=Uu h;rw[ME O N]at G;cases G
theorem DW  (h:PyData.eqv d (.str b)=true):d=.str b:=by cases d<;>simp_all[PyData.eqv]
theorem N2(b:Str):PyData.eqv (.str b) (.str b)=true:=by simp[PyData.eqv]
noncomputable def Itm(H:Hp)(v:V):Prop:=(∃T,Th H v T)/\∃d,Is H v d/\bG d=true
theorem F8   (h:Is H u (.str z)):u=.str z:=by cases h;rfl
theorem Vi   (h:Is H u d)(z:Str):PyData.eqv d (.str z)=decide (u=.str z):=by
 by_cases e:u=.str z
 .subst e;cases h;rw[N2,decide_eq_true rfl]
 .rw[decide_eq_false e];cases q:PyData.eqv d (.str z)with
 |false=>rfl
 |true=>exact absurd (F8 (DW q▸h)) e
theorem GJ  {j:Nat}(h:Ys T xs j S):xs.length=2/\xs.getD 0 .non=.str "ride"\/xs.length=3/\(xs.getD 0 .non=.str "out"\/xs.getD 0 .non=.str "walk"\/xs.getD 0 .non=.str "wait"):=by
 rcases h with⟨y,_,i,rfl,_⟩|⟨y,_,rfl,_⟩|⟨y,_,i,rfl,_⟩|⟨y,_,i,rfl,_⟩
 .exact .inr ⟨rfl,.inl rfl⟩
 .exact .inl ⟨rfl,rfl⟩
 .exact .inr ⟨rfl,.inr (.inl rfl)⟩
 .exact .inr ⟨rfl,.inr (.inr rfl)⟩
theorem Tp {u v:V}{j:Nat}(h:Ys T [u,v] j S):∃y∈T.t2,v=.str (nameOf y):=by rcases h with⟨y,_,i,e,_⟩|⟨y,a,e,_⟩|⟨y,_,i,e,_⟩|⟨y,_,i,e,_⟩<;>simp only[fw,reduceCtorEq,and_true,and_false]at e;exact⟨y,a,e.2⟩
noncomputable def HG(K:ae)(H:Hp)(x:V):Prop:=∃ty,mG K H x ty/\az K ty (.type "tuple")=some false
noncomputable def vj(K:ae)(C:Addr)(Cs:Nat->Addr):Sp:=λvs H Q _=>∃(t:Addr)(x:V)(T:Tb),vs=[.ref t,x]/\qE H C t T/\hI T /\((HG K H x/\∀H',fy H H'->Q .non H')\/∃a xs,x=.ref a/\H a=some (.tup xs)/\xs.length<=1000/\(∀v∈xs,Itm H v)/\Found T xs Cs H Q)
theorem Fw{K:ae}:az K (.type "tuple") (.type "tuple")=some true:=by kernel_rfl
theorem U8:fx [jL,"key"] [jL,"key"] (Ze T.kU):=jX
theorem Wj(B:∀x∈jO,mg x=none)(Z:nV K C)(ZS:∀j,j<4->so K (Cs j))(M:t9 P w K mg base "Ride" (Cs 1) [hB,"row"] (nY K Cs 1 QU))(CG:jA P w K mg base jS 2 C "is_ride" [hB,jt] (XE C "ride_by_name"))(CR:jA P w K mg base jS 3 C "ride_row" [hB,"name"] (Jz C "ride_by_name"))(C1:hY P w K mg base 4 "set_out_of" [jL,"name","turn"] (qZ C Cs "out"))(C2:hY P w K mg base 4 "walk_of" [jL,"name","turn"] (qZ C Cs "walk"))(C3:hY P w K mg base 4 "wait_of" [jL,"name","turn"] (qZ C Cs "wait"))(D:Df K mg "step_or_none" T.kU [jL,"key"]):hY P w K mg base 5 "step_or_none" [jL,"key"] (vj K C Cs):=by
 obtain⟨fm,cK,hM,FM,bM⟩:=M.made;refine D.cn U8 λf cN A outer s H vs Q E o h=>?_;obtain⟨t,x,T,rfl,mL,ok,h⟩:=h;obtain⟨fs,U⟩:=Jf mL;obtain⟨d,L,I⟩:=U.r;obtain⟨dx,ht⟩:=U.tab.at_;refine' ⟨_,(Za ?cx (Za ?cm (Za ?ck (Za ?cf (Za ?cc (Za ?cb (Zc (Zk ZJ)))))))),?rd⟩;case' cb=>refine' (ZA (Zo (G7 o.units) (it K (pv 1) Zb) ZC (Zt _)) (Zc ?cB) Zn)
 case' cc=>refine' (ZA (Zo (G7 o.units) (it K (pv 1) Zb) ZC (Zt _)) (Zc ?cC) Zn)
 case' cf=>refine' (ZA (Zo (G7 o.units) (it K (pv 1) Zb) ZC (Zt _)) (Zc ?cE) Zn)
 case' ck=>refine' (ZA (Zo U0 (Zw (r:=j_ K) ZG rfl (bm B) aT (ju (pv 1))) Zb (Zt _)) (Zc (Zk ZJ)) Zn)
 case' cm=>refine' (Kt (ZA (PW.pt (UE (Zo YV (Zw (r:=j_ K) ZG rfl (bm B) aT (ju (pv 1))) Zb (Zt _)) (UE (Zo (G7 o.units) (it K (pv 1) Zb) ZC (Zt _)) (VZ (ZH (ZZ CG Z.cl Z6 o.m (pv 0) (ju (it K (pv 1) Zb)))))))) (Zc ?h5) Zn))
 case' cx=>refine' (ZA (ZK (ZH (YD (c:="tuple") (pv 1) rfl (bm B) rfl (bm B) YQ))) (Zc (Zk ZJ)) Zn)
 case' cB=>refine' (Zk (cn C3 o (kg (pv 0) (it K (pv 1) Zb) (it K (pv 1) Zb))))
 case' cC=>refine' (Zk (cn C2 o (kg (pv 0) (it K (pv 1) Zb) (it K (pv 1) Zb))))
 case' cE=>refine' (Zk (cn C1 o (kg (pv 0) (it K (pv 1) Zb) (it K (pv 1) Zb))))
 case' h5=>refine' (Zk (V2 hM FM o.m rfl M.mg bM .nil Z6 (ju (ZZ CR Z.cl Z6 o.m (pv 0) (ju (it K (pv 1) Zb))))))
 refine my λD0 bx a3=>?_;rcases h with⟨⟨ty,b4,kt⟩,k⟩|⟨a,xs,rfl,g,hlen,hit,k1,X⟩
 .refine⟨_,rfl,_,_,_,_,rfl,b4,kt,_,rfl,?_⟩;refine jC ?_;exact a3 _ _ (k H (fy.refl H))
 refine⟨_,rfl,_,_,_,_,rfl,.tup g,Fw,_,rfl,?_⟩;refine jI ?_;refine bx _ _ (my λD1 bb a0=>?_);clear bx a3;refine⟨λab H'=>ab=[some (.ref t),some (.ref a)]/\H'=H/\(xs.length≠3->∀j S,¬Ys T xs j S),?_,?_⟩
 .refine⟨_,rfl,a,_,rfl,.inr (hO.of g),rfl,_,rfl,?_⟩;refine Z7 (λe=>?_) (λe=>?_)
  .have h2:xs.length=2:=by have:=of_decide_eq_true e;injection this with this;omega
   obtain⟨u,v,rfl⟩:=m6 h2;obtain⟨⟨T0,bT⟩,Y,b,l⟩:=hit u (by simp);obtain⟨⟨W,i⟩,d1,b2,b0⟩:=hit v (by simp);refine qM 0 g rfl ⟨Y,.str "ride",b,.str _,l,by decide +kernel,_,rfl,?_⟩;rw[Vi b];refine Z7 (λp=>?_) (λp=>?_)
   .obtain rfl:=of_decide_eq_true p;refine km ht (U.tab.only _ (by decide +kernel)) (qM 1 g rfl ⟨t,v,W,fs,d,L,rfl,U.tab,I.fld,I.at_,i,_,rfl,?_⟩);cases R:ZR v L with
   |false=>refine jI ?_;refine⟨rfl,rfl,λ_ j S h=>?_⟩;obtain⟨y,G,hx⟩:=Tp h;exact NK (λy G=>let ⟨a,h,_⟩:=I.yes y G;⟨_,h⟩) R y G hx
   |true=>refine jC ?_;obtain⟨z,v0,rfl,hv⟩:=Yh R;obtain⟨y,G,rfl⟩:=in_of I.no hv;obtain⟨r,b5,b3⟩:=I.yes y G;obtain⟨a1,b1,c1,d1,p,f1,rfl,_⟩:=UD ok G;refine km ht (U.tab.only _ (by decide +kernel)) (qM 1 g rfl ⟨t,_,W,fs,d,L,_,rfl,U.tab,I.fld,I.at_,i,b5,λx' cG aC F _=>⟨x',cG,r,_,_,Jm _,rfl,ZS 1 (by decide),Zd,VR aC F b3,⟨_,_,_,_,_,_,rfl,rfl,rfl⟩,λH' s st=>⟨rfl,?_⟩⟩⟩);exact a0 _ _ (k1 1 _ (.inr (.inl ⟨_,G,rfl,rfl,rfl⟩)) H' x' (Vl aC F s) st)
   .refine jI ?_;refine⟨rfl,rfl,λ_ j S h=>?_⟩;rcases GJ h with⟨_,q⟩|⟨q,_⟩
    .exact of_decide_eq_false p q
    .cases q
  .refine jI ?_;refine⟨rfl,rfl,λn j S h=>?_⟩;rcases GJ h with⟨q,_⟩|⟨q,_⟩
   .rw[q]at e;cases e
   .exact n q
 rintro ab H' ⟨rfl,rfl,hn⟩;refine bb _ _ (my λD2 a6 aS=>?_);clear bb a0;refine⟨_,rfl,a,_,rfl,.inr (hO.of g),rfl,_,rfl,?_⟩;refine Z7 (λe=>?_) (λe=>?_)
 .exact aS _ _ (X (hn λq=>by rw[q]at e;cases e) H' (fy.refl _))
 have h3:xs.length=3:=by have:=of_decide_eq_true (by simpa using e:decide (V.int (xs.length:Int)=V.int 3)=true);injection this with this;omega
 obtain⟨u,v,r,rfl⟩:=ph h3;obtain⟨⟨T0,bT⟩,Y,b,l⟩:=hit u (by simp);obtain⟨⟨W,i⟩,d1,b2,b0⟩:=hit v (by simp);obtain⟨⟨T2,J⟩,d2,cI,cH⟩:=hit r (by simp);refine a6 _ _ (my λD3 a5 O=>?_);clear a6 aS;refine qM 0 g rfl ⟨Y,.str "out",b,.str _,l,by decide +kernel,_,rfl,?_⟩;rw[Vi b];refine Z7 (λp=>?_) (λp=>?_)
 .obtain rfl:=of_decide_eq_true p;exact⟨_,rfl,qM 1 g rfl (qM 2 g rfl ⟨t,v,r,T,W,T2,rfl,mL,ok,i,J,λj S h H' x s st=>O _ _ (k1 j S h H' x s st),λh H' s=>O _ _ (X h H' s)⟩)⟩
 refine a5 _ _ (my λD4 a4 N=>?_);clear a5 O;refine qM 0 g rfl ⟨Y,.str "walk",b,.str _,l,by decide +kernel,_,rfl,?_⟩;rw[Vi b];refine Z7 (λR=>?_) (λR=>?_)
 .obtain rfl:=of_decide_eq_true R;exact⟨_,rfl,qM 1 g rfl (qM 2 g rfl ⟨t,v,r,T,W,T2,rfl,mL,ok,i,J,λj S h H' x s st=>N _ _ (k1 j S h H' x s st),λh H' s=>N _ _ (X h H' s)⟩)⟩
 refine a4 _ _ (my λD5 b6 aM=>?_);clear a4 N;refine qM 0 g rfl ⟨Y,.str "wait",b,.str _,l,by decide +kernel,_,rfl,?_⟩;rw[Vi b];refine Z7 (λe3=>?_) (λe3=>?_)
 .obtain rfl:=of_decide_eq_true e3;exact⟨_,rfl,qM 1 g rfl (qM 2 g rfl ⟨t,v,r,T,W,T2,rfl,mL,ok,i,J,λj S h H' x s st=>aM _ _ (k1 j S h H' x s st),λh H' s=>aM _ _ (X h H' s)⟩)⟩
 refine b6 _ _ (X (λj S h=>?_) H' (fy.refl _));rcases GJ h with⟨q,_⟩|⟨_,q|q|q⟩
 .cases q
 .exact of_decide_eq_false p q
 .exact of_decide_eq_false R q
 .exact of_decide_eq_false e3 q
end
noncomputable def Yy(T:Tb)(y:List V):List Sx:=(a_ (T.n+1-iA y 2).toNat).map λ(m:Nat)=>pQ y (iA y 2+m)
noncomputable def Yp(T:Tb)(y:List V):List Sx:=(a_ (T.n+1-iA y 3).toNat).map λ(m:Nat)=>UU y (0+m)
noncomputable def Yl(T:Tb)(y:List V):List Sx:=if at_ y 1=.non then[]else(a_ T.n.toNat).map λ(m:Nat)=>UW y (0+m)
noncomputable def ic(T:Tb):List Sx:=T.t4.flatMap (Yy T)++T.t2.map Jm++T.t3.flatMap (Yp T)++T.t1.flatMap (Yl T)
noncomputable def Je(S:Sx):PyData:=.tuple [S.tail,S.head,dF S.room,.int S.pP]
noncomputable def qp(l:List (Sx×V))(acc:List (List Key×V)):List (List Key×V):=l.foldl (λf5 p=>putK f5 p.1.key p.2) acc
noncomputable def Dc(H:Hp)(p:Addr)(L:List Sx):Prop:=∃f5:List (List Key×V),H p=some (.dT f5)/\f5.length<=L.length/\(∃vs,bZ (λv S=>Is H v (Je S)) vs L/\f5=qp (L.zip vs) [])/\True
theorem Dc.same   (s:fy H H')(h:Dc H p L):Dc H' p L:=by obtain⟨c,e,l,⟨vs,a,b⟩,_⟩:=h;exact⟨c,s _ _ e,l,⟨vs,Paired.mY a λ_ _ i=>i.same s,b⟩,trivial⟩
theorem Dc.put{H:Hp} {L:List Sx}(e:H p=some (.dT b))(l:b.length<=L.length)(f:∃vs,bZ (λv S=>Is H v (Je S)) vs L/\b=qp (L.zip vs) [])(h:True)(d:Is H (.ref a) (Je S)):Dc (upd H p (.dT (putK b S.key (.ref a)))) p (L++[S]):=by
 have c:∀xs,H p≠some (.lst xs)/\H p≠some (.tup xs):=λxs=>⟨(λz=>by rw[e]at z;cases z),(λz=>by rw[e]at z;cases z)⟩;obtain⟨vs,r,g⟩:=f;refine⟨_,Zd,?_,⟨vs++[.ref a],cA (Paired.mY r λ_ _ i=>NZ c i) (NZ c d),?_⟩,trivial⟩
 .have:=YO b S.key (.ref a);rw[aq];show _<=L.length+1;omega
 .rw[List.zip_append (by rw[aV r])];unfold qp;rw[List.foldl_append,g];rfl
theorem _root_.WD.gR.pT    (h:gR b H l rows)(f:H p=none)(s:Zh p H H'):gR b H' l rows:=by obtain⟨n,as,e,g,r⟩:=h;exact⟨n,as,s _ _ e (fi e f),g,λi a q d c=>⟨(r i a q d c).1,s _ _ (r i a q d c).2 (fi (r i a q d c).2 f)⟩⟩
theorem UQ {t:List (List V)}{i:Nat}(a:i<t.length):(t.take (i+1)).flatMap f=(t.take i).flatMap f++f t[i]:=by rw[a9,gE a,fS];simp
theorem map_take {t:List (List V)}{i:Nat}(a:i<t.length):(t.take (i+1)).map f=(t.take i).map f++[f t[i]]:=by rw[a9,gE a,aG];rfl
theorem VH {n i:Nat}(a:i<n):(((a_ n).map f).take (i+1))=((a_ n).map f).take i++[f i]:=by rw[a9,aY,List.getElem?_range a];rfl
theorem Uc{f:List V->List Sx}{m:Nat}:∀{t:List (List V)},(∀y∈t,(f y).length<=m)->(t.flatMap f).length<=t.length*m
|[],_=>by simp
|y::t,h=>by
  rw[List.flatMap_cons,aq,aR];have b:=h y (by simp);have a:=Uc (f:=f) (m:=m) (t:=t) λz hz=>h z (by simp[hz]);have:(t.length+1)*m=t.length*m+m:=by rw[Nat.add_mul,Nat.one_mul]
  omega
theorem Yz (o:hI T){S:Sx}(h:S∈ic T):∃j,Ys T (S.key.map kV) j S:=by
 unfold ic at h;simp only[aF,cQ,ao]at h;rcases h with((⟨y,a,h⟩|⟨y,a,rfl⟩)|⟨y,a,h⟩)|⟨y,a,h⟩
 .unfold Yy at h;obtain⟨m,hm,rfl⟩:=ao.mp h;rw[bq]at hm;exact⟨0,.inl ⟨y,a,_,rfl,by omega,by omega,rfl,rfl⟩⟩
 .exact⟨1,.inr (.inl ⟨y,a,rfl,rfl,rfl⟩)⟩
 .unfold Yp at h;obtain⟨m,hm,rfl⟩:=ao.mp h;rw[bq]at hm;exact⟨2,.inr (.inr (.inl ⟨y,a,_,rfl,by omega,by omega,rfl,rfl⟩))⟩
 .unfold Yl at h;split at h
  .cases h
  rename_i b;obtain⟨m,hm,rfl⟩:=ao.mp h;rw[bq]at hm;exact⟨3,.inr (.inr (.inr ⟨y,a,_,rfl,b,by omega,by omega,rfl,rfl⟩))⟩
theorem WU (o:hI T){j:Nat}(h:Ys T vs j S):S∈ic T:=by
 unfold ic;simp only[aF,cQ,ao];rcases h with⟨y,a,i,e,c,b,_,rfl⟩|⟨y,a,e,_,rfl⟩|⟨y,a,i,e,c,b,_,rfl⟩|⟨y,a,i,e,h0,c,b,_,rfl⟩
 .refine .inl (.inl (.inl ⟨y,a,ao.mpr ⟨(i-iA y 2).toNat,bq.mpr (by omega),?_⟩⟩));rw[show iA y 2+(((i-iA y 2).toNat:Nat):Int)=i by omega]
 .exact .inl (.inl (.inr ⟨y,a,rfl⟩))
 .refine .inl (.inr ⟨y,a,ao.mpr ⟨i.toNat,bq.mpr (by omega),?_⟩⟩);rw[show(0:Int)+((i.toNat:Nat):Int)=i by omega]
 .refine .inr ⟨y,a,?_⟩;unfold Yl;rw[if_neg h0];refine ao.mpr ⟨i.toNat,bq.mpr (by omega),?_⟩;rw[show(0:Int)+((i.toNat:Nat):Int)=i by omega]
theorem PL (o:hI T){y:List V}(h:y∈T.t4):(Yy T y).length<=51:=by obtain⟨a,b,c,d,rfl,_,_,h0,_⟩:=YE o h;have:=o.n1;unfold Yy;rw[lm,dU];show(T.n+1-c).toNat<=51;omega
theorem MH (o:hI T){y:List V}(h:y∈T.t3):(Yp T y).length<=51:=by obtain⟨a,b,c,d,e,rfl,_,_,_,h0,_⟩:=GZ o h;have:=o.n1;unfold Yp;rw[lm,dU];show(T.n+1-d).toNat<=51;omega
theorem MJ (o:hI T):(Yl T y).length<=51:=by
 have:=o.n1;unfold Yl;split
 .exact Nat.zero_le _
 rw[lm,dU];omega
theorem Jo (o:hI T):T.t1.length<=14/\T.t2.length<=80/\T.t3.length<=40/\T.t4.length<=300:=⟨(o.part 1 (.inl rfl)).1,(o.part 2 (.inr (.inl rfl))).1,(o.part 3 (.inr (.inr (.inl rfl)))).1,(o.part 4 (.inr (.inr (.inr rfl)))).1⟩
theorem Sn (o:hI T):(T.t4.flatMap (Yy T)).length<=15300/\(T.t2.map Jm).length<=80/\(T.t3.flatMap (Yp T)).length<=2040/\(T.t1.flatMap (Yl T)).length<=714:=by obtain⟨i,e,h,g⟩:=Jo o;have a:=Uc (f:=Yy T) (m:=51) (t:=T.t4) λy d=>PL o d;have b:=Uc (f:=Yp T) (m:=51) (t:=T.t3) λy d=>MH o d;have c:=Uc (f:=Yl T) (m:=51) (t:=T.t1) λy d=>MJ o;refine⟨by omega,by rw[lm];exact e,by omega,by omega⟩
theorem GH {t:List (List V)}(i:Nat):((t.take i).flatMap f).length<=(t.flatMap f).length:=by
 conv=>rhs;rw[<-List.take_append_drop i t,fS,aq]
 exact Nat.le_add_right _ _
noncomputable def NL(d:PyData):Prop:=(∃a,d=.str a)\/∃a i,d=.tuple [.str a,.int i]
theorem MW  {j:Nat}(h:Ys T ks j S):NL S.tail/\NL S.head:=by
 rcases h with⟨y,_,i,e,_,_,rfl,rfl⟩|⟨y,_,e,rfl,rfl⟩|⟨y,_,i,e,_,_,rfl,rfl⟩|⟨y,_,i,e,_,_,_,rfl,rfl⟩
 .exact⟨.inl ⟨_,rfl⟩,.inr ⟨_,_,rfl⟩⟩
 .exact⟨.inr ⟨_,_,rfl⟩,.inr ⟨_,_,rfl⟩⟩
 .exact⟨.inr ⟨_,_,rfl⟩,.inr ⟨_,_,rfl⟩⟩
 .exact⟨.inr ⟨_,_,rfl⟩,.inr ⟨_,_,rfl⟩⟩
theorem Qb{H H':Hp} (n:NL d)(b:∀c xs,H c=some (.tup xs)->H' c=some (.tup xs))(h:Is H v d):Is H' v d:=by
 rcases n with⟨a,rfl⟩|⟨a,i,rfl⟩
 .cases h with
 |str=>exact .str _
 .cases h with
 |tup e r=>
   cases r with
  |cons g r=>
   cases r with
  |cons f r=>
   cases r;cases g;cases f;exact .tup (b _ _ e) (.cons (.str _) (.cons (.int _) .nil))
theorem Li:GS "out"/\GS "ride"/\GS "walk"/\GS "wait"/\GS "step":=by decide +kernel
theorem YF{i:Int}(h0:-1000<=i)(a:i<=1000):mT (.int i):=.int (by omega)
structure Small(S:Sx):Prop where
 key:uO (S.key.map kV)
 tell:Sm (Je S) 2 200000
theorem VB (e:mT a)(c:mT b):Sm (.tuple [dF a,dF b]) 1 100:=by
 refine(ny.tup (ds:=[dF a,dF b]) (n:=2) (ny.of (k:=0) (m:=12) λd hd=>?_) (Nat.le_refl 2)).mono (by decide) (by decide);simp only[au,aQ,or_false]at hd;rcases hd with rfl|rfl
 .exact e.sm
 .exact c.sm
theorem Gu (h:Sm a 1 100)(g:Sm b 1 100)(f:Sm c 0 12)(hd:Sm d 0 12):Sm (.tuple [a,b,c,d]) 2 200000:=by
 refine(ny.tup (ds:=[a,b,c,d]) (n:=4) (ny.of (k:=1) (m:=100) λe he=>?_) (Nat.le_refl 4)).mono (by decide) (by decide);simp only[au,aQ,or_false]at he;rcases he with rfl|rfl|rfl|rfl
 .exact h
 .exact g
 .exact f.mono (by decide) (by decide)
 .exact hd.mono (by decide) (by decide)
theorem K8{ks:List Key}(b:ks.length<=6)(h:∀k∈ks,mT (kV k)):uO (ks.map kV):=⟨by rw[lm];exact b,λy a=>by obtain⟨k,hk,rfl⟩:=ao.mp a;exact h k hk⟩
theorem Ux {i:Int}(e:GS a)(d:GS b)(c:mT (.int i)):uO ([cD a,.inr b,.inl i].map kV):=K8 (Nat.le_of_ble_eq_true rfl) λk hk=>by
 simp only[au,aQ,or_false]at hk;rcases hk with rfl|rfl|rfl
 .exact .str e
 .exact .str d
 .exact c
theorem Ys.small (o:hI T){j:Nat}(h:Ys T vs j S):Small S:=by
 obtain⟨g1,g2,g3,B,_⟩:=Li;have G:=o.n0;have F:=o.n1;rcases h with⟨y,l,i,e,u,s,_,rfl⟩|⟨y,l,e,_,rfl⟩|⟨y,l,i,e,u,s,_,rfl⟩|⟨y,l,i,e,h0,u,s,_,rfl⟩
 .obtain⟨a,b,c,d,rfl,ga,p,D,C,_⟩:=YE o l;have g:mT (.int i):=YF (by have:c<=i:=u;omega) (by omega);exact⟨Ux g1 ga g,Gu ((mT.str ga).sm.mono (by decide) (by decide)) (VB (.str p) g) mT.non.sm (YF (i:=0) (by decide) (by decide)).sm⟩
 .obtain⟨a,b,d,c,q,f,rfl,ga,p,x,D,C,M,f0,f1⟩:=UD o l;refine⟨K8 (Nat.le_of_ble_eq_true rfl) λk hk=>?_,Gu (VB (.str p) (YF (i:=c) (by omega) (by omega))) (VB (.str x) (YF (i:=q) (by omega) (by omega))) (YF (i:=f) (by omega) (by omega)).sm (YF (i:=q-c) (by omega) (by omega)).sm⟩;have hk:k∈[(cD "ride":Key),.inr a]:=hk;simp only[au,aQ,or_false]at hk;rcases hk with rfl|rfl
  .exact .str g2
  .exact .str ga
 .obtain⟨a,b,c,d,q,rfl,ga,p,A,L,J,I,H⟩:=GZ o l;have E:i<=T.n-d:=s;have g:mT (.int i):=YF (by omega) (by omega);exact⟨Ux g3 ga g,Gu (VB (.str p) g) (VB (.str A) (YF (i:=i+d) (by omega) (by omega))) (YF (i:=q) (by omega) (by omega)).sm (YF (i:=d) (by omega) (by omega)).sm⟩
 .obtain⟨⟨z,r⟩,rfl,v,w⟩:=Xp o l;have g:mT (.int i):=YF (by omega) (by omega);refine⟨Ux B v g,Gu (VB (.str v) g) (VB (.str v) (YF (i:=i+1) (by omega) (by omega))) ?_ (YF (i:=1) (by decide) (by decide)).sm⟩;cases r with
 |none=>exact mT.non.sm
 |some r=>have:=w r rfl;exact(YF (i:=r) (by omega) (by omega)).sm
theorem mT.lay (h:mT v):(dF v).canLay0=true:=by
 cases h with
|non=>rfl
|int h=>rfl
|str h=>show(Array.all _ _)=true;rw[Array.all_eq_true'];intro c a;simpa using h.2 c (by simpa using a)
theorem Eg  (h:mT v):Itm H v:=by
 refine⟨?_,dF v,h.is,?_⟩
 .cases h with
 |non=>exact⟨_,.non⟩
 |int h=>exact⟨_,.int _⟩
 |str h=>exact⟨_,.str _ (Nat.le_trans h.1 (by decide))⟩
 .unfold bG;rw[mT.lay h,decide_eq_true (Nat.le_trans h.sm.dp (by decide))];rfl
end SX
namespace L2
open PySem PySem.Spec PyProof.Rows
noncomputable abbrev MK:=Key ⊕ List Key
section
variable (P:Program)(w:World)
noncomputable def lX(h:Heap):MK->Value->Prop
|.inl k,v=>(Zz P w).is k v=true
|.inr ks,v=>∃a,v=.ref a/\(bQ (Zz P w)).is h ks a
noncomputable def mH:MK->Int
|.inl k=>(Zz P w).hash k
|.inr ks=>(bQ (Zz P w)).hash ks
noncomputable def mD:MK->Nat
|.inl _=>1
|.inr ks=>(bQ (Zz P w)).draws ks
noncomputable def mE(x:MK×Value×Value):DictEntry:=⟨mH P w x.1,x.2.1,x.2.2⟩
end
section
variable {P:Program}{w:World}{A:bh}{E:Value->ai->Prop}{s:ai}
theorem DF   (x:lX P w h k v):(∃i t,v=.int i t)\/(∃i t,v=.str i t)\/∃a,v=.ref a:=by
 rcases k with k|ks
 .rcases ZU x with⟨i,t,_,e⟩|⟨y,t,_,e⟩
  .exact .inl ⟨_,_,e⟩
  .exact .inr (.inl ⟨_,_,e⟩)
 .obtain⟨a,e,_⟩:=x;exact .inr (.inr ⟨a,e⟩)
theorem ED   (x:lX P w h a v)(y:lX P w h b v):a=b:=by
 rcases a with a|a<;>rcases b with b|b
 .rw[(Zz P w).inj v a b x y]
 .obtain⟨c,rfl,_⟩:=y;rcases ZU x with⟨_,_,_,e⟩|⟨_,_,_,e⟩<;>cases e
 .obtain⟨c,rfl,_⟩:=x;rcases ZU y with⟨_,_,_,e⟩|⟨_,_,_,e⟩<;>cases e
 .obtain⟨c,rfl,p⟩:=x;obtain⟨d,e,q⟩:=y;cases e;rw[(bQ (Zz P w)).inj p q]
theorem Rb  {Q:Int->ai->Prop}(b:A.units<cLine)(x:lX P w s.heap k v)(h:Q (mH P w k) {s with toks:=s.toks+mD P w k}):wpAny (model P w) A (pyHash v) Q E s:=by
 rcases k with k|ks
 .exact(Zz P w).pyHash x h
 .obtain⟨a,rfl,p⟩:=x;exact(bQ (Zz P w)).pyHash b p h
theorem EA   (p:(bQ (Zz P w)).is h ks a):∃items,h.IsTuple a items:=by obtain⟨o,items,n,d,c,b,_⟩:=p;exact⟨items,o,d,c,n,b⟩
theorem uo  {Q:Bool->ai->Prop}(f:A.units<cLine)(j:lX P w s.heap x u)(g:lX P w s.heap y v)(h:Q (decide (x=y)) s):wpAny (model P w) A (eqBool u v) Q E s:=by
 rcases x with a|a<;>rcases y with b|b
 .refine(Zz P w).eqBool j g ?_;rwa [show decide (a=b)=decide ((ik a:MK)=.inl b)from by by_cases e:a=b<;>simp[e]]
 .obtain⟨c,rfl,p⟩:=g;obtain⟨l,it⟩:=EA p;rw[decide_eq_false (λq=>nomatch q)]at h;rcases ZU j with⟨i,t,_,rfl⟩|⟨i,t,_,rfl⟩
  .exact SeqAt.EqAt.int_tuple i t it f _ _ _ _ h
  .exact SeqAt.EqAt.str_tuple i t it f _ _ _ _ h
 .obtain⟨c,rfl,p⟩:=j;obtain⟨l,it⟩:=EA p;rw[decide_eq_false (λq=>nomatch q)]at h;rcases ZU g with⟨i,t,_,rfl⟩|⟨i,t,_,rfl⟩
  .exact SeqAt.EqAt.tuple_int i t it f _ _ _ _ h
  .exact SeqAt.EqAt.tuple_str i t it f _ _ _ _ h
 .obtain⟨c,rfl,p⟩:=j;obtain⟨d,rfl,q⟩:=g;refine(bQ (Zz P w)).eqBool f p q ?_;rwa [show decide (a=b)=decide ((cD a:MK)=.inr b)from by by_cases e:a=b<;>simp[e]]
theorem Sw  {Q:Bool->ai->Prop}(x:lX P w s.heap k v)(h:Q true s):wpAny (model P w) A (eqIsQuiet 8 v) Q E s:=by
 rcases k with k|ks
 .rw[eqIsQuiet_byValue _ ((Zz P w).byValue k v x)];exact ah h
 .obtain⟨a,rfl,p⟩:=x;exact(bQ (Zz P w)).quiet p h
theorem DE  {stored:List Value}{Q:Bool->ai->Prop}(a:lX P w s.heap k key)(c:∀v∈stored,∃b,lX P w s.heap b v)(h:Q false s):wpAny (model P w) A (tableMayTell key stored) Q E s:=by
 unfold tableMayTell;split
 .exact ah h
 .refine aa (Sw a ?_);simp only[Bool.not_true,Bool.false_eq_true,if_false];refine aa ?_;refine g9 _ (λrest r s'=>s'=s/\r=(none,())/\∀v∈rest,∃b,lX P w s.heap b v) _ ?_ ?_ _ _ ⟨rfl,rfl,c⟩
  .rintro x rest r s' ⟨rfl,rfl,d⟩;obtain⟨b,f⟩:=d x ay;refine aa (Sw f ?_);simp only[Bool.not_true,Bool.false_eq_true,if_false];exact ah ⟨rfl,rfl,λv e=>d v (ar _ e)⟩
  .rintro r s' ⟨rfl,rfl,_⟩;exact ah h
theorem EB    {v:Value}(p:lX P w h k (.str x t)):(v.isStr x=true)↔lX P w h k v:=by
 rcases k with k|ks
 .show _↔(Zz P w).is k v=true;rw[(Zz P w).strs k x t v p]
 .obtain⟨a,e,_⟩:=p;cases e
theorem P5{a:Array DictEntry}{xs:List (MK×Value×Value)}(he:a.toList=xs.map (mE P w))(j:Nat):a[j]?=(xs[j]?).map (mE P w):=by rw[<-dQ,he,aY]
theorem NO{a:Array DictEntry}{xs:List (MK×Value×Value)}(he:a.toList=xs.map (mE P w)):a.size=xs.length:=by rw[<-bX,he,lm]
theorem Fp{xs:List (MK×Value×Value)}(c:(xs.map (·.1)).Nodup):∀{i j:Nat}{k:MK}{p q:Value×Value},xs[i]?=some (k,p)->xs[j]?=some (k,q)->i=j:=by
 intro i j k p q e d;have a:(xs.map (·.1))[i]?=some k:=by rw[aY,e];rfl
 have b:(xs.map (·.1))[j]?=some k:=by rw[aY,d];rfl
 exact(List.getElem?_inj (aj.mp a).1 c).mp (a.trans b.symm)
theorem SI{α:Type}{M:Model}{c:Prop}[Decidable c]{a b:Sem α}{Q:α->ai->Prop}(e:wpAny M A a Q E s)(d:wpAny M A b Q E s):wpAny M A (if c then a else b) Q E s:=by split<;>assumption
theorem Mg{α:Type}{M:Model}{c:Prop}[Decidable c]{t:Sem Bool}{f:Bool->Sem α}{Q:α->ai->Prop}(a:wpAny M A (f false) Q E s)(d:∀b:Bool->ai->Prop,b false s->wpAny M A t b E s):wpAny M A (if c then(pure false >>= f)else(t >>= f)) Q E s:=SI (aa (ah a)) (aa (d _ a))
theorem share{α:Type}{M:Model}{C:Value->Prop}{F:Value->Sem α}{Q:α->ai->Prop}{g:Prop}(G:(∀kk,C kk->wpAny M A (F kk) Q E s)->g)(H:∀kk,C kk->wpAny M A (F kk) Q E s):g:=G H
theorem Fs{xs:List (MK×Value×Value)}{k:MK}{f:Nat->Bool}{i x:Nat}{hit:Option Nat}(a:∀(j:Nat)(p:Value×Value),xs[j]?=some (k,p)->f j=true)(b:∀j,i<=j->j<x->f j=false)(g:(hit=none/\∀j p,j<i->xs[j]?≠some (k,p))\/∃j p,hit=some j/\j<i/\xs[j]?=some (k,p))(o:i<=x:=by assumption):(hit=none/\∀j p,j<x->xs[j]?≠some (k,p))\/∃j p,hit=some j/\j<x/\xs[j]?=some (k,p):=by
 rcases g with⟨h0,d⟩|⟨j,p,l,n,c⟩
 .refine .inl ⟨h0,λj p e c=>?_⟩;rcases Nat.lt_or_ge j i with h|h
  .exact d j p h c
  .have:=b j h e;rw[a j p c]at this;exact absurd this (by decide)
 .exact .inr ⟨j,p,l,by omega,c⟩
theorem Fq{xs:List (MK×Value×Value)}{k l:MK}{x:Nat}{hit:Option Nat}{b n:Value}(f:xs[x]?=some (l,b,n))(e:¬l=k)(i:(hit=none/\∀j p,j<x->xs[j]?≠some (k,p))\/∃j p,hit=some j/\j<x/\xs[j]?=some (k,p)):(hit=none/\∀j p,j<x+1->xs[j]?≠some (k,p))\/∃j p,hit=some j/\j<x+1/\xs[j]?=some (k,p):=by
 rcases i with⟨h0,d⟩|⟨j,p,o,g,a⟩
 .refine .inl ⟨h0,λj p g a=>?_⟩;rcases Nat.lt_or_ge j x with h|h
  .exact d j p h a
  .have c:j=x:=by omega
   subst c;rw[f]at a;injection a with a;injection a with a;exact e a
 .exact .inr ⟨j,p,o,by omega,a⟩
theorem m_find{d:Addr}{key:Value}{o:Obj}{c ep}{xs:List (MK×Value×Value)}{k:MK}{Q:Option Nat->ai->Prop}(hu:A.units<cLine)(g:lX P w s.heap k key)(ho:s.heap.get? d=some o)(hd:o.data=.dict c ep)(he:c.toList=xs.map (mE P w))(W:∀x∈xs,lX P w s.heap x.1 x.2.1)(hn:(xs.map (·.1)).Nodup)(S:(∀(j:Nat)(p:Value×Value),xs[j]?≠some (k,p))->Q none s)(D:∀(j:Nat)(p:Value×Value),xs[j]?=some (k,p)->Q (some j) s):wpAny (model P w) A (dictFind d key (mH P w k)) Q E s:=by
 have hsz:c.size=xs.length:=NO he;have F:∀(j:Nat)(p:Value×Value),xs[j]?=some (k,p)->((c[j]?.map (·.hash))==some (mH P w k))=true:=by intro j p u;rw[P5 he j,u];simp[mE]
 have Z:∀e∈c,∃x∈xs,e=mE P w x:=by intro e ak;have:e∈xs.map (mE P w):=he▸fE.mpr ak;obtain⟨x,hx,rfl⟩:=ao.mp this;exact⟨x,hx,rfl⟩
 have aM:∀x,x<c.size->∃B b X,xs[x]?=some (B,b,X)/\lX P w s.heap B b/\c[x]?=some ⟨mH P w B,b,X⟩:=by intro x l;obtain⟨⟨B,b,X⟩,n⟩:∃y,xs[x]?=some y:=⟨xs[x]'(by rw[<-hsz];exact l),gE _⟩;exact⟨B,b,X,n,W _ (aK n),by rw[P5 he x,n];rfl⟩
 have ab:¬(c.any λe=>e.key==key&&e.hash != mH P w k)=true:=by rw[<-Array.any_toList,d8];rintro ⟨e,ak,hc⟩;obtain⟨x,hx,rfl⟩:=Z e (fE.mp ak);simp only[mE,Bool.and_eq_true,beq_iff_eq,bne_iff_ne,ne_eq]at hc;obtain⟨a5,R⟩:=hc;have:=W x hx;rw[a5]at this;exact R (by rw[ED this g])
 have a6:∀v∈(iO c.size (λi=>c[i]?.map (·.hash)) (mH P w k)).filterMap (λi=>c[i]?.map (·.key)),∃B,lX P w s.heap B v:=by
  intro v hv;obtain⟨i,_,O⟩:=iI.mp hv;cases aC:c[i]? with
 |none=>rw[aC]at O;cases O
 |some e=>
   rw[aC]at O;obtain rfl:e.key=v:=by simpa using O
   obtain⟨x,hx,rfl⟩:=Z e (Array.mem_of_getElem? aC);exact⟨x.1,W x hx⟩
 have L:∀i,(∀j p,j<i->xs[j]?≠some (k,p))->(∀j,i<=j->j<c.size->((c[j]?.map (·.hash))==some (mH P w k))=false)->Q none s:=by
  intro i G a3;refine S λj p u=>?_;rcases Nat.lt_or_ge j i with h|h
  .exact G j p h u
  .have bx:j<c.size:=by
    rw[hsz];rcases Nat.lt_or_ge j xs.length with h'|h'
    .exact h'
    .rw[cv h']at u;exact nomatch u
   have:=a3 j h bx;rw[F j p u]at this;exact absurd this (by decide)
 have plain:wpAny (model P w) A (dictWalkPlain d key (mH P w k) c (iO c.size (λi=>c[i]?.map (·.hash)) (mH P w k))) Q E s:=by
  refine aa ?_;refine g9 _ (λrest b s'=>s'=s/\b=(none,())/\∃i,rest=(hZ i (c.size-i)).filter (λi=>(c[i]?.map (·.hash))==some (mH P w k))/\i<=c.size /\∀j p,j<i->xs[j]?≠some (k,p)) _ ?_ ?_ _ _ ⟨rfl,rfl,0,by rw[iO,List.range_eq_range',Nat.sub_zero],Nat.zero_le _,λ_ _ h=>absurd h (Nat.not_lt_zero _)⟩
  .rintro x rest b s' ⟨rfl,rfl,i,hr,O,G⟩;obtain⟨bM,a4,bb,I,J⟩:=filter_range'_cons _ _ _ _ _ hr.symm;have l:x<c.size:=by omega
   obtain⟨B,b,X,n,N,hex⟩:=aM x l;have T:¬B=k->∃i,rest=(hZ i (c.size-i)).filter (λi=>(c[i]?.map (·.hash))==some (mH P w k))/\i<=c.size /\∀j p,j<i->xs[j]?≠some (k,p):=λR=>
    ⟨x+1,by rw[J];congr 2;omega,l,λj p b0 u=>by
     rcases Nat.lt_or_ge j i with h|h
     .exact G j p h u
     .rcases Nat.lt_or_ge j x with h'|h'
      .have:=I j h h';rw[F j p u]at this;exact absurd this (by decide)
      .have:j=x:=by omega
       subst this;rw[n]at u;injection u with u;injection u with u;exact R u⟩
   rw[hex];dsimp only;by_cases U:(mH P w B==mH P w k)=true
   .rw[if_pos U];refine aa (b8 ho hd (aa (uo (x:=B) (y:=k) hu N g (aa (b8 ho hd ?_)))));show wpAny _ _ (if(ep != ep)=true then _ else _) _ E _;rw[if_neg (by simp)];by_cases f:B=k
    .rw[decide_eq_true f];subst f;exact aa (dA (ah (ah (D x _ n))))
    .rw[decide_eq_false f];exact aa (dA (ah ⟨rfl,rfl,T f⟩))
   .rw[if_neg U];refine ah ⟨rfl,rfl,T ?_⟩;intro f;rw[f]at U;simp at U
  .rintro b s' ⟨rfl,rfl,i,hr,O,G⟩;refine ah (L i G λj h1 h2=>?_);have:=dH.mp hr.symm j (List.mem_range'_1.mpr ⟨h1,by omega⟩);simpa using this
 have a0:∀x t,key=.str x t->wpAny (model P w) A (foundByValue d key c x) Q E s:=by
  intro x t Y;subst Y;unfold foundByValue;cases hf:c.findIdx? (λe=>e.key.isStr x)with
 |none=>
   refine ah (S λj p u=>?_);have q:=Array.findIdx?_eq_none_iff.mp hf (mE P w (k,p)) (by
    have z:c[j]?=some (mE P w (k,p)):=by rw[P5 he j,u];rfl
    exact Array.mem_of_getElem? z);rw[(EB g (v:=(mE P w (k,p)).key)).mpr (W _ (aK u))]at q;cases q
 |some i=>
   obtain⟨l,O,_⟩:=Array.findIdx?_eq_some_iff_getElem.mp hf;obtain⟨B,b,X,n,N,hex⟩:=aM i l;have ee:c[i]=⟨mH P w B,b,X⟩:=by rw[gj l]at hex;exact ax hex
   rw[ee]at O;have f:B=k:=ED N ((EB g).mp O);simp only[hex];refine aa (b8 ho hd (aa (uo (x:=B) (y:=k) hu N g (aa (b8 ho hd ?_)))));show wpAny _ _ (if(ep != ep)=true then _ else _) _ E _;rw[if_neg (by simp),decide_eq_true f];subst f;exact aa (dA (ah (D i _ n)))
 unfold dictFind;try with_reducible refine aU ?_
 refine aa (bY ho hd ?_);refine share (C:=lX P w s.heap k) (Q:=Q) (E:=E) (A:=A) (M:=model P w) (s:=s) (λHH=>by
  rcases DF g with⟨i,t,Y⟩|⟨x,t,Y⟩|⟨a,Y⟩<;>rw[Y]<;>dsimp only<;>rw[<-Y];case' inr.inl=>refine SI (a0 x t Y) ?_
  case' inr.inr=>rw[if_neg (by rw[Y];simp[carriedByValue]),if_neg ab]
  case' inl=>refine SI plain ?_
  case' inr.inl=>refine SI plain ?_
  all_goals
   refine Mg ?_ (λQ' h=>DE g a6 h);have ag:=g;revert ag;generalize key=kk;intro ag;exact HH kk ag) ?_
 clear plain a0 ab g key;intro key g;rw[if_neg (by simp)];refine aa ?_;refine g9 _ (λrest b s'=>s'=s/\∃i hit,b=(none,hit)/\rest=(hZ i (c.size-i)).filter (λi=>(c[i]?.map (·.hash))==some (mH P w k))/\i<=c.size /\((hit=none/\∀j p,j<i->xs[j]?≠some (k,p))\/∃j p,hit=some j/\j<i/\xs[j]?=some (k,p))) _ ?_ ?_ _ _ ⟨rfl,0,none,rfl,by rw[iO,List.range_eq_range',Nat.sub_zero],Nat.zero_le _,.inl ⟨rfl,λ_ _ h=>absurd h (Nat.not_lt_zero _)⟩⟩
 .rintro x rest b s' ⟨rfl,i,hit,rfl,hr,O,hH⟩;obtain⟨bM,a4,bb,I,J⟩:=filter_range'_cons _ _ _ _ _ hr.symm;have l:x<c.size:=by omega
  have r:rest=(hZ (x+1) (c.size-(x+1))).filter (λi=>(c[i]?.map (·.hash))==some (mH P w k)):=by rw[J];congr 2;omega
  obtain⟨B,b,X,n,N,hex⟩:=aM x l;have aS:=Fs F I hH;have H:¬B=k->_:=λR=>Fq n R aS;rw[hex];dsimp only;by_cases U:(mH P w B==mH P w k)=true
  .rw[if_pos U];refine aa (b8 ho hd (aa (uo (x:=B) (y:=k) hu N g (aa (b8 ho hd ?_)))));show wpAny _ _ (if(ep != ep)=true then _ else _) _ E _;rw[if_neg (by simp)];by_cases f:B=k
   .rw[decide_eq_true f];subst f;rcases aS with⟨rfl,_⟩|⟨j,p,_,bT,u⟩
    .first|rw[if_pos rfl]|skip
     simp only[Option.isSome_none,Bool.false_eq_true,if_false];first|refine aa (ah ?_)|skip
     refine aa (dA ?_);split
     .exact ah (ah (D x _ n))
     .exact ah ⟨rfl,x+1,some x,rfl,r,l,.inr ⟨x,_,rfl,Nat.lt_succ_self x,n⟩⟩
    .exact absurd (Fp hn u n) (by omega)
   .rw[decide_eq_false f];simp only[Bool.false_eq_true,if_false];refine aa (dA ?_);first|rw[if_neg (by simp)]|skip
    first
    |exact ah ⟨rfl,x+1,hit,rfl,r,l,H f⟩
    |exact aa (ah (ah ⟨rfl,x+1,hit,rfl,r,l,H f⟩))
  .rw[if_neg U];refine ah ⟨rfl,x+1,hit,rfl,r,l,H ?_⟩;intro f;rw[f]at U;simp at U
 .rintro b s' ⟨rfl,i,hit,rfl,hr,O,hH⟩;rcases hH with⟨rfl,G⟩|⟨j,p,rfl,_,u⟩
  .refine ah (L i G λj h1 h2=>?_);have:=dH.mp hr.symm j (List.mem_range'_1.mpr ⟨h1,by omega⟩);simpa using this
  .exact ah (D j p u)
end
noncomputable def oE(xs:List (MK×Value×Value))(k:MK):Option (Value×Value):=(xs.find? λx=>decide (x.1=k)).map (·.2)
noncomputable def mZ(k:MK)(v:Value)(x:MK×Value×Value):MK×Value×Value:=if x.1=k then(x.1,x.2.1,v)else x
noncomputable def mC(xs:List (MK×Value×Value))(k:MK)(a v:Value):List (MK×Value×Value):=if(oE xs k).isSome then xs.map (mZ k v)else xs++[(k,a,v)]
theorem NP{xs:List (MK×Value×Value)}(c:(xs.map (·.1)).Nodup){i:Nat}{k:MK}{p:Value×Value}(a:xs[i]?=some (k,p)):oE xs k=some p:=by
 induction xs generalizing i with
|nil=>simp at a
|cons x rest f=>
  rw[aA,bf]at c;cases i with
 |zero=>simp only[List.getElem?_cons_zero,Option.some.injEq]at a;subst a;simp[oE]
 |succ j=>simp only[List.getElem?_cons_succ]at a;have b:k∈rest.map (·.1):=ao.mpr ⟨(k,p),aK a,rfl⟩;have d:¬x.1=k:=λe=>c.1 (e▸b);have:=f c.2 a;simpa[oE,cL,d]using this
theorem G9{xs:List (MK×Value×Value)}{k:MK}(h:∀(j:Nat)(p:Value×Value),xs[j]?≠some (k,p)):oE xs k=none:=by
 have:(xs.find? λx=>decide (x.1=k))=none:=by rw[List.find?_eq_none];intro x b hk;obtain⟨j,c⟩:=aJ.mp b;have a:x.1=k:=of_decide_eq_true hk;exact h j x.2 (by rw[c,<-a])
 simp[oE,this]
theorem Fu{xs:List (MK×Value×Value)}{k:MK}(h:∀(j:Nat)(p:Value×Value),xs[j]?≠some (k,p)):k∉xs.map (·.1):=by intro hm;obtain⟨x,a,rfl⟩:=ao.mp hm;obtain⟨j,b⟩:=aJ.mp a;exact h j x.2 b
theorem DG(xs:List (MK×Value×Value))(k:MK)(v:Value)(a:k∉xs.map (·.1)):xs.map (mZ k v)=xs:=by
 induction xs with
|nil=>rfl
|cons x xs b=>simp only[aA,au,not_or]at a ⊢;rw[mZ,if_neg (λe=>a.1 e.symm),b a.2]
theorem TK(xs:List (MK×Value×Value))(k:MK)(v:Value):(xs.map (mZ k v)).map (·.1)=xs.map (·.1):=by rw[cO];refine fR λx _=>?_;show(mZ k v x).1=x.1;unfold mZ;split<;>rfl
theorem P4  {k:MK}{v:Value}:∀{xs:List (MK×Value×Value)}{j:Nat}{p:Value×Value},(xs.map (·.1)).Nodup->xs[j]?=some (k,p) ->(xs.map (mE P w)).modify j (λe=>{e with val:=v})=(xs.map (mZ k v)).map (mE P w)
|[],j,p,_,a=>by simp at a
|x::rest,0,p,b,a=>by rw[aA,bf]at b;simp only[List.getElem?_cons_zero,Option.some.injEq]at a;subst a;rw[aA,aA,DG rest k v b.1,mZ,if_pos rfl,aA];rfl
|x::rest,j+1,p,b,a=>by rw[aA,bf]at b;simp only[List.getElem?_cons_succ]at a;have c:k∈rest.map (·.1):=ao.mpr ⟨(k,p),aK a,rfl⟩;have d:¬x.1=k:=λe=>b.1 (e▸c);rw[aA,aA,mZ,if_neg d,aA];show mE P w x::(rest.map (mE P w)).modify j _=mE P w x::(rest.map (mZ k v)).map (mE P w);rw[P4 b.2 a]
noncomputable def MD(P:Program)(w:World)(h:Heap)(d:Addr)(xs:List (MK×Value×Value)):Prop:=∃o es ep,h.get? d=some o/\o.ExactDict/\o.data=.dict es ep/\es.toList=xs.map (mE P w)/\(xs.map (·.1)).Nodup
section
variable {P:Program}{w:World}{A:bh}{E:Value->ai->Prop}{s:ai}{d:Addr}{xs:List (MK×Value×Value)}{k:MK}{key v:Value}
theorem MD.typeIs(hm:MD P w s.heap d xs):s.TypeIs (.ref d) "dict":=by obtain⟨o,_,_,a,b,_⟩:=hm;exact⟨o,a,b.1⟩
theorem EE{Q:Option Value->ai->Prop}(e:A.units<cLine)(a:lX P w s.heap k key)(hm:MD P w s.heap d xs)(c:∀x∈xs,lX P w s.heap x.1 x.2.1)(h:Q ((oE xs k).map (·.2)) {s with toks:=s.toks+mD P w k}):wpAny (model P w) A (dictGet d key) Q E s:=by
 obtain⟨o,l,n,f,_,hd,he,g⟩:=hm;unfold dictGet;try with_reducible refine aU ?_
 refine aa (Rb e a (aa (m_find (s:={s with toks:=s.toks+mD P w k}) e a f hd he c g ?_ ?_)))
 .intro b;rw[G9 b]at h;exact ah h
 .intro j p i;rw[NP g i]at h;refine aa (bY (s:={s with toks:=s.toks+mD P w k}) f hd ?_);rw[P5 he j,i];exact ah h
theorem MD.push{o:Obj}{f:Nat}{h:Heap}(i:h.get? d=some o)(n:o.ExactDict)(hd:o.data=.dict a f)(he:a.toList=xs.map (mE P w))(l:(xs.map (·.1)).Nodup)(b:∀(j:Nat)(p:Value×Value),xs[j]?≠some (k,p)):MD P w (h.update d (·.mapDictKeys λa=>a.push ⟨mH P w k,key,v⟩)) d (xs++[(k,key,v)]):=by
 refine⟨_,_,f+1,Heap.get?_update_self _ i (Obj.isFreed_of_dict (Obj.data_mapDictKeys hd _)),n.mapDictKeys _,Obj.data_mapDictKeys hd _,?_,?_⟩
 .simp[he,mE]
 .rw[aG,List.nodup_append];refine⟨l,by simp,?_⟩;intro x g y c;simp only[aA,fo,aI]at c;subst c;exact λe=>Fu b (e▸g)
theorem EC{Q:Unit->ai->Prop}(i:A.units<cLine)(a:lX P w s.heap k key)(hm:MD P w s.heap d xs)(h:∀x∈xs,lX P w s.heap x.1 x.2.1)(g:∀h',MD P w h' d (mC xs k key v)->Heap.SameBut d s.heap h'->Q () {s with heap:=h',toks:=s.toks+mD P w k})(hsz:xs.length<=sizeLine):wpAny (model P w) A (dictSet d key v) Q E s:=by
 obtain⟨o,r,u,b,q,hd,he,c⟩:=hm;unfold dictSet;try with_reducible refine aU ?_
 refine aa (Rb i a ?_);unfold dictSetHashed;try with_reducible refine aU ?_
 refine aa (m_find (s:={s with toks:=s.toks+mD P w k}) i a b hd he h c ?_ ?_)
 .intro f;have e:mC xs k key v=xs++[(k,key,v)]:=by simp[mC,G9 f]
  rw[e]at g;exact aa (dA (wpAny_updateDictKeys (hz:=by have e:=NO he;omega) (s:={s with toks:=s.toks+mD P w k}) b hd (g _ (MD.push b q hd he c f) (Heap.SameBut.update ..))))
 .intro j p n;have e:mC xs k key v=xs.map (mZ k v):=by simp[mC,NP c n]
  rw[e]at g;refine aa (dA (aa (wpAny_updateDict (s:={s with toks:=s.toks+mD P w k}) b hd (wpAny_point (g _ ⟨_,_,u,Heap.get?_update_self _ b (Obj.isFreed_of_dict (Obj.data_mapDict hd _)),q.mapDict _,Obj.data_mapDict hd _,?_,?_⟩ (Heap.SameBut.update ..))))))
  .have:=P4 (P:=P) (w:=w) (v:=v) c n;rw[<-he]at this;obtain⟨l⟩:=r;simpa using this
  .rw[TK];exact c
theorem Ft{Q:Value->ai->Prop}(h:A.units<cLine)(a:lX P w s.heap k key)(hm:MD P w s.heap d xs)(g:∀x∈xs,lX P w s.heap x.1 x.2.1)(q:∀p,oE xs k=some p->Q p.2 {s with toks:=s.toks+mD P w k})(n:oE xs k=none->∀h',MD P w h' d (xs++[(k,key,v)])->Heap.SameBut d s.heap h'->Q v {s with heap:=h',toks:=s.toks+mD P w k})(hsz:xs.length<=sizeLine):wpAny (model P w) A (dictSetDefault d key v) Q E s:=by
 obtain⟨o,r,u,c,l,hd,he,f⟩:=hm;unfold dictSetDefault;try with_reducible refine aU ?_
 refine aa (Rb h a ?_);refine aa (m_find (s:={s with toks:=s.toks+mD P w k}) h a c hd he g f ?_ ?_)
 .intro b;exact aa (dA (aa (wpAny_updateDictKeys (hz:=by have e:=NO he;omega) (s:={s with toks:=s.toks+mD P w k}) c hd (ah (n (G9 b) _ (MD.push c l hd he f b) (Heap.SameBut.update ..))))))
 .intro j p i;refine aa (bY (s:={s with toks:=s.toks+mD P w k}) c hd ?_);rw[P5 he j,i];exact aa (dA (ah (q p (NP f i))))
theorem m_contains{Q:Bool->ai->Prop}(c:A.in1.units<cLine)(a:lX P w s.heap k key)(hd:(d==bC)=false)(hm:MD P w s.heap d xs)(b:∀x∈xs,lX P w s.heap x.1 x.2.1)(h:Q (oE xs k).isSome {s with toks:=s.toks+mD P w k}):wpAny (model P w) A (contains (.ref d) key) Q E s:=by
 unfold contains;try with_reducible refine aU ?_
 refine aa (wpAny_specialOf hm.typeIs jc.lookup ?_);show wpAny _ _ (if(some (Value.builtin "dict.__contains__")==some Value.none)=true then _ else _) _ E s;rw[if_neg (by rw[beq_builtin_none];exact Bool.false_ne_true)];refine aa (wpAny_callSpecialUnlessNone?_slot (name:=Str.ofString "__contains__") hm.typeIs jc (bF jc hm.typeIs entry_dict_contains ?_ (args_dict_contains _ _)));show wpAny _ _ (dictGet d key >>= _) _ _ s;refine aa (EE c a hm b ?_);cases hf:oE xs k with
|some p=>rw[hf]at h;show wpAny _ _ (ret (.bool true)) _ _ _;exact ah ⟨_,rfl,bo h⟩
|none=>rw[hf]at h;show wpAny _ _ (Builtin.Dict.pendingKey? d key >>= _) _ _ _;exact aa (wpAny_pendingKey_other hd (ah ⟨_,rfl,bo h⟩))
theorem TJ{p:Value×Value}{Q:Value->ai->Prop}(c:A.in1.units<cLine)(a:lX P w s.heap k key)(hm:MD P w s.heap d xs)(b:∀x∈xs,lX P w s.heap x.1 x.2.1)(e:oE xs k=some p)(h:Q p.2 {s with toks:=s.toks+mD P w k}):wpAny (model P w) A (fU (.ref d) key) Q E s:=by
 unfold fU;try with_reducible refine aU ?_
 refine aa (gP hm.typeIs (by decide) ?_);refine aa (bp (name:=Str.ofString "__getitem__") hm.typeIs slot_dict_getitem (bF slot_dict_getitem hm.typeIs entry_dict_getitem ?_ (args_dict_getitem _ _)));show wpAny _ _ (dictGet d key >>= _) _ _ s;refine aa (EE c a hm b ?_);rw[e];exact ah ⟨p.2,rfl,ah h⟩
theorem TH{Q:Unit->ai->Prop}(f:A.in1.units<cLine)(a:lX P w s.heap k key)(hm:MD P w s.heap d xs)(e:∀x∈xs,lX P w s.heap x.1 x.2.1)(g:∀h',MD P w h' d (mC xs k key v)->Heap.SameBut d s.heap h'->Q () {s with heap:=h',toks:=s.toks+mD P w k})(hsz:xs.length<=sizeLine):wpAny (model P w) A (setItem (.ref d) key v) Q E s:=by
 unfold setItem;try with_reducible refine aU ?_
 refine aa (gP hm.typeIs (by decide) ?_);refine aa (bp (name:=Str.ofString "__setitem__") hm.typeIs slot_dict_setitem (bF slot_dict_setitem hm.typeIs entry_dict_setitem ?_ (args_dict_setitem _ _ _)));show wpAny _ _ (i5 "__setitem__" ⟨[.ref d,key,v],[]⟩ >>= _) _ _ s;refine aa (fL hm.typeIs ?_);show wpAny _ _ (dictSet d key v >>= _) _ _ s;exact aa (EC f a hm e (λh' c b=>ah ⟨.none,rfl,ah (g h' c b)⟩) hsz)
theorem DC(hd:(d==bC)=false)(dflt:Value):MeetsIn P w (cU.«dict.setdefault» ⟨[.ref d,key,dflt],[]⟩) (λA R s=>A.in1.units<cLine/\lX P w s.heap k key/\MD P w s.heap d xs/\(∀x∈xs,lX P w s.heap x.1 x.2.1)/\xs.length<=sizeLine /\(∀p,oE xs k=some p->R (.ok (.ret p.2)) {s with toks:=s.toks+mD P w k}) /\(oE xs k=none->∀h',MD P w h' d (xs++[(k,key,dflt)])->Heap.SameBut d s.heap h'->R (.ok (.ret dflt)) {s with heap:=h',toks:=s.toks+mD P w k})):=.of_wp λA R s hZ=>by obtain⟨g,a,hm,f,hz,j,i⟩:=hZ;unfold cU.«dict.setdefault»;refine aa ?_;unfold Builtin.Dict.keyAndDefault;refine aa (fL hm.typeIs ?_);show wpAny _ _ (pure (d,key,some dflt)) _ _ s;refine ah ?_;show wpAny _ _ (if(d==bC)=true then _ else(dictSetDefault d key dflt >>= _)) _ _ s;rw[if_neg (by rw[hd];exact Bool.false_ne_true)];exact aa (Ft g a hm f (λp h=>ah ⟨p.2,rfl,j p h⟩) (λe h' c b=>ah ⟨dflt,rfl,i e h' c b⟩) hz)
end
noncomputable def tV(P:Program)(w:World)(a:Addr)(xs:List (MK×Value×Value)):HO:=.ext λh=>MD P w h a xs
noncomputable def sv(H:Hp):MK->Value->Prop
|.inl k,v=>Md k v=true
|.inr ks,v=>∃b,v=.ref b/\H b=some (.tup (ks.map kV))
noncomputable def qQ(H:Hp):MK->V->Prop
|.inl k,y=>y=kV k
|.inr ks,y=>∃b,y=.ref b/\H b=some (.tup (ks.map kV))
noncomputable def KM(H:Hp):List (MK×V)->List (MK×Value×Value)->Prop:=bZ λp q=>p.1=q.1/\sv H p.1 q.2.1/\RelV p.2 q.2.2
noncomputable def DM(P:Program)(w:World)(H:Hp)(a:Addr)(f5:List (MK×V)):Prop:=∃xs,Rd H a (tV P w a xs)/\KM H f5 xs/\f5.length<=sizeLine/\(a==bC)=false
noncomputable def kI(P:Program)(w:World)(H:Hp)(a:Addr)(f5:List (MK×V)):Prop:=∃xs,H a=some (tV P w a xs)/\KM H f5 xs/\f5.length<=sizeLine/\(a==bC)=false
section
variable {P:Program}{w:World}{H H':Hp}{h:Heap}{a:Addr}{f5:List (MK×V)}{xs:List (MK×Value×Value)}{k:MK}{y:V}{u:Value}
theorem kI.rd(d:kI P w H a f5):DM P w H a f5:=by obtain⟨xs,e,r⟩:=d;exact⟨xs,.inl e,r⟩
theorem Q7(x:MD P w h a xs):ZW P w H h a (tV P w a xs):=by have y:=x;obtain⟨o,_,_,b,_⟩:=y;refine⟨x,⟨o,b⟩,λf e p k=>?_⟩;obtain⟨o,c,d,b,r⟩:=p;exact⟨o,c,d,k _ b,r⟩
theorem sv.is(ok:k6 P w H h):∀{k:MK}{v:Value},sv H k v->lX P w h k v
|.inl k,v,x=>x
|.inr ks,v,⟨b,e,c⟩=>⟨b,e,UL ok c⟩
theorem qQ.val(P:Program)(w:World):∀{k:MK}{y:V}{u:Value},qQ H k y->RelV y u->sv H k u
|.inl k,y,u,x,r=>by cases(show y=kV k from x);exact Me (P:=P) (w:=w) r
|.inr ks,y,u,⟨b,e,c⟩,r=>by subst e;exact⟨b,r,c⟩
theorem sv.keeps(d:∀b c,H b=some (.tup c)->H' b=some (.tup c)):∀{k:MK}{v:Value},sv H k v->sv H' k v
|.inl k,v,x=>x
|.inr ks,v,⟨b,e,f⟩=>⟨b,e,d _ _ f⟩
theorem KM.keeps(d:∀b c,H b=some (.tup c)->H' b=some (.tup c))(r:KM H f5 xs):KM H' f5 xs:=Paired.mY r λ_ _ z=>⟨z.1,z.2.1.keeps d,z.2.2⟩
theorem KM.is(ok:k6 P w H h)(r:KM H f5 xs):∀x∈xs,lX P w h x.1 x.2.1:=by
 induction r with
|nil=>intro x hx;exact nomatch hx
|@cons p q ps d b t c=>
  intro x hx;rcases au.mp hx with e|hx
  .subst e;exact(show sv H x.1 x.2.1 from by rw[<-b.1];exact b.2.1).is ok
  .exact c x hx
theorem KM.val(r:KM H f5 xs)(k:MK):kf (f' f5 k) ((oE xs k).map (·.2)):=by
 induction r with
|nil=>exact bH
|@cons p q ps c h t g=>
  obtain⟨f,_,i⟩:=h;by_cases e:p.1=k
  .have d:q.1=k:=f.symm.trans e;have b:oE (q::c) k=some q.2:=by simp[oE,cL,d]
   rw[Yv e,b];exact i
  .have d:¬q.1=k:=λz=>e (f.trans z);have b:oE (q::c) k=oE c k:=by simp[oE,cL,d]
   rw[Yw e,b];exact g
theorem KM.rP(r:KM H f5 xs)(k:MK) (f:RelV y u):KM H (f5.map λc=>if c.1=k then(c.1,y)else c) (xs.map (mZ k u)):=by
 induction r with
|nil=>exact .nil
|@cons p q ps j h t g=>
  rw[aA,aA];refine .cons ?_ g;obtain⟨b,d,i⟩:=h;unfold mZ;by_cases e:p.1=k
  .rw[if_pos e,if_pos (b.symm.trans e)];exact⟨b,d,f⟩
  .rw[if_neg e,if_neg (λz=>e (b.trans z))];exact⟨b,d,i⟩
theorem KM.any(r:KM H f5 xs)(k:MK):(f5.any λb=>decide (b.1=k))=(oE xs k).isSome:=by rw[YX,(r.val k).ly,gf]
theorem KM.put(r:KM H f5 xs)(k:MK)  (d:sv H k b)(c:RelV y u):KM H (putK f5 k y) (mC xs k b u):=by
 unfold putK mC;rw[r.any k];by_cases q:(oE xs k).isSome=true
 .rw[if_pos q,if_pos q];exact r.rP k c
 .rw[if_neg q,if_neg q];exact cA r ⟨rfl,d,c⟩
theorem DM.at(ok:k6 P w H h)(d:DM P w H a f5):(a==bC)=false/\∃xs,KM H f5 xs/\MD P w h a xs/\xs.length<=sizeLine/\∀x∈xs,lX P w h x.1 x.2.1:=by obtain⟨xs,e,r,z,b⟩:=d;exact⟨b,xs,r,(show ZW P w H h a (tV P w a xs)from e.ok ok).1,by rw[<-aV r];exact z,r.is ok⟩
theorem kI.keeps(d:kI P w H a f5)(hk:H' a=H a)(f:∀b c,H b=some (.tup c)->H' b=some (.tup c)):kI P w H' a f5:=by obtain⟨xs,e,r,z⟩:=d;exact⟨xs,hk.trans e,r.keeps f,z⟩
end
section
variable {X:Cx}{pins:List (Addr×Obj)}{σ:St}{H:Hp}{s:ai}{a:Addr}{f5:List (MK×V)}{k:MK}{y v:V}{u r:Value}{A:bh}{E:Value->ai->Prop}
theorem kI.write {t':Nat} (I:Inv X pins σ H s)(d:kI X.prog X.w H a f5)(g:Heap.SameBut a s.heap h')(m:MD X.prog X.w h' a xs)(r:KM H kvs2 xs)(z:kvs2.length<=sizeLine):Inv X pins σ (upd H a (tV X.prog X.w a xs)) {s with heap:=h',toks:=t'}/\kI X.prog X.w (upd H a (tV X.prog X.w a xs)) a kvs2:=by obtain⟨x0,e,_,_,hm⟩:=d;have f:=m;obtain⟨q,_,_,h,_⟩:=f;refine⟨Gv I (by rw[e];exact bH) g ⟨q,h⟩ (Q7 m),xs,Zd,r.keeps λc i b=>?_,z,hm⟩;rw[Zf (hA b e (λz=>nomatch z))];exact b
noncomputable def xA(P:Program)(w:World):R2:=λx y H Q=>∃a f5 k,y=.ref a/\DM P w H a f5/\qQ H k x/\Q (.bl (f' f5 k).isSome) H
theorem Q5(g:X.A.units+1<cLine):lV X (bE .In) (xA X.prog X.w):=by intro pins s σ H x y v u Q I f e h;obtain⟨a,f5,k,rfl,d,hk,q⟩:=h;cases e;obtain⟨i,xs,rel,m,z,c⟩:=d.at I.hL;show wpAny _ _ (contains (.ref a) v >>= λb=>pure (Value.bool b)) _ _ s;refine aa (m_contains g ((hk.val X.prog X.w f).is I.hL) i m c (ah ⟨_,H,I.tok _,?_,q⟩));rw[(rel.val k).ly,gf];rfl
noncomputable def E7(P:Program)(w:World):V->List V->Hp->VK->Prop:=λx vs H Q=>∃a f5 k y dv,x=.ref a/\vs=[y,dv]/\kI P w H a f5/\qQ H k y/\f5.length<sizeLine/\(∀u,f' f5 k=some u->Q u H) /\(f' f5 k=none->∀o,kI P w (upd H a o) a (f5++[(k,dv)])->Q dv (upd H a o))
theorem KY(D:X.A.units+1<cLine):zX X "dict.setdefault" (E7 X.prog X.w):=by
 intro pins s σ H x vs v us Q I o c h;obtain⟨a,f5,k,y,i,rfl,rfl,d,hk,L,B,q⟩:=h;cases o;cases c with
|@cons _ u _ us l c=>
 obtain⟨u2,rfl,b⟩:=Vals.one (show Vals [i] us from c);obtain⟨G,xs,rel,m,z,j⟩:=d.rd.at I.hL;refine call_meetsIn iZ m.typeIs PySem.F.entry_dict_setdefault (PySem.F.args_dict_setdefault_3 _ _ _) (DC (k:=k) (xs:=xs) G u2) ⟨D,(hk.val X.prog X.w l).is I.hL,m,j,z,λp g=>?_,λg h' C n=>?_⟩
 .have e:=rel.val k;rw[g]at e;cases f:f' f5 k with
 |none=>rw[f]at e;exact e.elim
 |some x=>rw[f]at e;exact⟨x,H,I.tok _,e,B x f⟩
 .have e:=rel.val k;rw[g]at e;cases f:f' f5 k with
 |some x=>rw[f]at e;exact e.elim
 |none=>obtain⟨J,d'⟩:=d.write (t':=s.toks+mD X.prog X.w k) I n C (kvs2:=f5++[(k,i)]) (cA rel ⟨rfl,hk.val X.prog X.w l,b⟩) (by rw[aq,g7];omega);exact⟨i,_,J,b,q f _ d'⟩
end
noncomputable def Em(P:Program)(w:World)(td ty:TE):TE:=λσ H Q=>td σ H λx H1=>ty σ H1 λy H2=>∃a f5 k v,x=.ref a/\DM P w H2 a f5/\qQ H2 k y/\f' f5 k=some v/\Q v H2
noncomputable def Eu(P:Program)(w:World)(td ty tv:TE):TS:=λD σ H=>tv σ H λv H1=>td σ H1 λx H2=>ty σ H2 λy H3=>∃a f5 k,x=.ref a/\kI P w H3 a f5/\qQ H3 k y/\f5.length<sizeLine /\∀o,kI P w (upd H3 a o) a (putK f5 k v)->D.nx σ (upd H3 a o)
noncomputable def HN(P:Program)(w:World):TE:=λ_ H Q=>∀p o,H p=none->kI P w (upd H p o) p []->Q (.ref p) (upd H p o)
noncomputable def wY(P:Program)(w:World)(r:V->List V->Hp->VK->Prop)(to:TE)(t:TA):TE:=λσ H Q=>to σ H λx H1=>(∃a f5,x=.ref a/\DM P w H1 a f5)/\t σ H1 λxs H2=>r x xs H2 Q
section
variable {X:Cx}{o i e value:Expr}{es:List Expr}{pos pos' apos jU:Pos}{td ty tv to:TE}{t:TA}{name:Str}{id:String}{r:V->List V->Hp->VK->Prop}
theorem Sr(D:X.A.units+1<cLine)(F:PE X o td)(G:PE X i ty)(j:su i):PE X (.Subscript o i pos) (Em X.prog X.w td ty):=by intro pins s σ H Q I h;refine Np fW.lookup j (hU (F pins s σ H _ I h) λu s1⟨x,H1,J,n,B⟩=>hU (G pins s1 σ H1 _ J B) λO s2 hZ=>?_);obtain⟨y,L,b,l,a,M,k,v,ex,d,hk,C,q⟩:=hZ;subst ex;obtain rfl:u=Value.ref a:=n;obtain⟨j,xs,rel,m,z,g⟩:=d.at b.hL;obtain⟨N,hw,c⟩:=kf.some_of (v:=v) (o:=(oE xs k).map (·.2)) (by rw[<-C];exact rel.val k);obtain⟨p,E,f⟩:=bV.mp hw;refine⟨m.typeIs,TJ D ((hk.val X.prog X.w l).is b.hL) m g E ⟨v,L,b.tok _,?_,q⟩⟩;rw[f];exact c
theorem NH(G:X.A.units+1<cLine)(J:PE X o td)(L:PE X i ty)(F:PE X value tv)(j:gw value (some (.Subscript o i pos')) pos.line X.env=pure false):PS X (.Assign [.Subscript o i pos'] value pos) (Eu X.prog X.w td ty tv):=by intro pins s σ H D I h;refine wpAny_Assign_Subscript (hU (F pins s σ H _ I h) λr s1⟨v,H1,N,p,C⟩=>hU (J pins s1 σ H1 _ N C) λu s2⟨x,P,M,n,B⟩=>hU (L pins s2 σ P _ M B) λQ s3 hZ=>?_) j;obtain⟨y,S,b,g,a,c,k,ex,d,hk,R,q⟩:=hZ;subst ex;obtain rfl:u=Value.ref a:=n;obtain⟨j,xs,rel,m,z,f⟩:=d.rd.at b.hL;refine TH G ((hk.val X.prog X.w g).is b.hL) m f (λh' E l=>?_) z;obtain⟨O,d'⟩:=d.write (t':=s3.toks+mD X.prog X.w k) b l E (rel.put k (hk.val X.prog X.w g) p) (by have:=YO c k v;omega);exact⟨σ,_,O,q _ d'⟩
theorem Sq:PE X (.Dict [] [] pos) (HN X.prog X.w):=λpins s σ H Q I h=>by have b:(s.heap.objs.size==bC)=false:=beq_eq_false_iff_ne.mpr (bK (Nat.ne_of_lt I.big));have m:MD X.prog X.w (s.heap.push {cls:=.type "dict",data:=.dict #[]}) s.heap.objs.size []:=⟨_,#[],0,Heap.get?_push_size _ rfl,⟨rfl,rfl,rfl⟩,rfl,rfl,fq⟩;exact wpAny_Dict_empty ⟨.ref s.heap.objs.size,_,I.laid (a:=s.heap.objs.size) (o:=tV X.prog X.w s.heap.objs.size []) (t':=s.toks) (λ_ _ q=>Heap.get?_push_of_some _ q) (Nat.le_refl _) (Q7 m),rfl,h _ _ (I.hL.fresh (Nat.le_refl _)) ⟨[],Zd,.nil,Nat.zero_le _,b⟩⟩
theorem Fg(slot:Slot "dict" name id)(n:typeOf (.builtin id)=pure (.type "method_descriptor"))(hm:zz X id r)(D:PE X o to)(E:PA X (e::es) t)(g:fj o name X.env (eval o X.env)=eval o X.env:=by rfl)(j:((cy jU (aH (e::es) X.env)).all (λx=>!x.1)&&(fB jU (dq [] X.env)).all (λx=>x.1.isSome)&&decide ((e::es).length+([]:List iT).length+(if([]:List iT).isEmpty then 0 else 1)<30))=true:=by rfl)(f:(apos.endLine==jU.line)=true:=by rfl)(C:aH (e::es) X.env=(false,eval e X.env)::aH es X.env:=by rfl)(c:(cy jU (aH es X.env)).any (·.1)=false:=by rfl):PE X (.Call (.Attribute o name apos) (e::es) [] jU) (wY X.prog X.w r to t):=by
 intro pins s σ H Q I h;refine wpAny_Call_method_late g j f rfl (hU (D pins s σ H _ I h) λv s1 hZ=>?_);obtain⟨x,H1,q,y,⟨a,M,ex,d⟩,B⟩:=hZ;subst ex;obtain rfl:v=Value.ref a:=y;obtain⟨_,xs,rel,m,z,N⟩:=d.at q.hL;have G:∀b,Value.ref a=.ref b->∃l,s1.heap.get? b=some l/\l.dict=none:=λb e=>by cases e;obtain⟨l,_,_,g1,g2,_⟩:=m;exact⟨l,g1,g2.2.1⟩
 refine⟨"dict",id,PySem.F.plainAttrs_dict,slot,n,m.typeIs,G,?_⟩;have p:=E jU pins s1 σ H1 _ q B;rw[C]at p ⊢;refine gN (by show(false||(cy jU (aH es X.env)).any (·.1))=false;rw[c]<;>rfl) (hW ?_)
 exact hU p λus s2⟨vs,L,J,u,A⟩=>hm pins s2 σ L (.ref a) vs (.ref a) us Q J rfl u A
end
section
variable {prog:Program}{w:World}{A:bh}{E:Value->ai->Prop}{s:ai}
theorem Mb{it d:Addr}{o:Obj}{a:Array DictEntry}{i h:Nat}{e:DictEntry}{Q:Fin->ai->Prop}(st:s.heap.IsKeyIter it d i a.size h)(hd:s.heap.get? d=some o)(b:o.data=.dict a h)(he:a[i]?=some e)(B:∀h',h'.IsKeyIter it d (i+1) a.size h->Heap.SameBut it s.heap h'->Q (.done (.ret e.key)) {s with heap:=h'}):wpAny (model prog w) A (cU.«dict_keyiterator.__next__» ⟨[.ref it],[]⟩) Q E s:=by
 obtain⟨y,f,q,c⟩:=st;have j:s.TypeIs (.ref it) "dict_keyiterator":=⟨y,f,q⟩;unfold cU.«dict_keyiterator.__next__»;refine aa ?_;refine ah ?_;refine aa ?_;refine aa ?_;refine aa (dR j ?_);refine ah ?_;refine aa (wpAny_fieldsOf f c ?_);show wpAny _ _ (if(Value.ref d==Value.none)=true then _ else _) _ _ _;rw[if_neg (show ¬(Value.ref d==Value.none)=true from λz=>nomatch z)];refine aa ?_;refine ah ?_;refine aa (bY hd b ?_);rw[if_neg (by simp)];refine aa ?_;refine ah ?_;refine aa (b8 hd b ?_);rw[if_neg (by simp)];refine ah ?_;have C:(if(i:Int)<0 then none else a[((i:Int)).toNat]?)=some e:=by rw[if_neg (by omega),Int.toNat_natCast];exact he
 show wpAny _ _ (match (if(i:Int)<0 then none else a[((i:Int)).toNat]?)with|some e=>_|none=>_) _ _ _
 rw[C];refine aa ?_;refine aa (dR j ?_);refine ah ?_;refine aa (wpAny_isOneOf_keyiter j ?_);refine aa (dI f c (show 0+1<4 by decide) ?_);have g:=Heap.get?_update_self (Obj.mapFields λx=>x.setIfInBounds 1 (c_ ((i:Int)+1))) f (Obj.isFreed_of_fields (Obj.data_mapFields c _));have r:Heap.SameBut it s.heap (s.heap.update it (Obj.mapFields λx=>x.setIfInBounds 1 (c_ ((i:Int)+1)))):=Heap.SameBut.update ..;have p:(s.heap.update it (Obj.mapFields λx=>x.setIfInBounds 1 (c_ ((i:Int)+1)))).IsKeyIter it d (i+1) a.size h:=by exact⟨_,g,(Obj.cls_mapFields ..).trans q,by rw[Obj.data_mapFields c];simp[c_]⟩
 have n:Shared.TypeIs {s with heap:=s.heap.update it (Obj.mapFields λx=>x.setIfInBounds 1 (c_ ((i:Int)+1)))} (.ref it) "dict_keyiterator":=by obtain⟨l,v,u,_⟩:=p;exact⟨l,v,u⟩
 refine aa (aU ?_);refine aa (wpAny_isOneOf_keyiter n ?_);exact ah (ah (B _ p r))
theorem MX{it d:Addr}{o:Obj}{b:Array DictEntry}{i l:Nat}{Q:Fin->ai->Prop}(p:A.handled=none)(st:s.heap.IsKeyIter it d i b.size l)(hd:s.heap.get? d=some o)(f:o.data=.dict b l)(he:b[i]?=none)(r:∀h' e,(∀c q,c≠it->s.heap.get? c=some q->h'.get? c=some q)->(∃o,h'.get? e=some o/\o.cls=.type "StopIteration")->E (.ref e) {s with heap:=h'}):wpAny (model prog w) A (cU.«dict_keyiterator.__next__» ⟨[.ref it],[]⟩) Q E s:=by
 obtain⟨n,g,u,j⟩:=st;have h:s.TypeIs (.ref it) "dict_keyiterator":=⟨n,g,u⟩;unfold cU.«dict_keyiterator.__next__»;refine aa ?_;refine ah ?_;refine aa ?_;refine aa ?_;refine aa (dR h ?_);refine ah ?_;refine aa (wpAny_fieldsOf g j ?_);show wpAny _ _ (if(Value.ref d==Value.none)=true then _ else _) _ _ _;rw[if_neg (show ¬(Value.ref d==Value.none)=true from λz=>nomatch z)];refine aa ?_;refine ah ?_;refine aa (bY hd f ?_);rw[if_neg (by simp)];refine aa ?_;refine ah ?_;refine aa (b8 hd f ?_);rw[if_neg (by simp)];refine ah ?_;have v:(if(i:Int)<0 then none else b[((i:Int)).toNat]?)=none:=by rw[if_neg (by omega),Int.toNat_natCast];exact he
 show wpAny _ _ (match (if(i:Int)<0 then none else b[((i:Int)).toNat]?)with|some e=>_|none=>_) _ _ _
 rw[v];refine aa ?_;refine aa (dR h ?_);refine ah ?_;refine aa (dI g j (show 0<4 by decide) ?_);show wpAny (model prog w) _ (newExc (.type "StopIteration") [] >>= _) _ _ _;refine aa ?_;simp only[newTuple,newExc];refine aa (bS (aa (m:=iP _ _) (iM (a:=Value.none) (by first|rfl|(simp only[iP];rfl)) (bS ?_ (by size_fits)))) (by size_fits))
 simp only[raiseNew];refine aa (wpAny_handled ?_);rw[p];refine aa (ah (wpAny_throw ?_));exact r _ _ (((Heap.SameBut.update ..).extBut.push _).push _) ⟨_,Heap.get?_push_size _ rfl,rfl⟩
noncomputable def uP(h:Heap)(d:Addr)(es:Array DictEntry)(ep:Nat):Prop:=∃o,h.get? d=some o/\o.ExactDict/\o.data=.dict es ep
theorem qW(M:A.handled=none)(I d:Addr)(z:d≠I)(f:Array DictEntry)(H:Nat):
  Walks prog w A I [I,d] [I] f.size (λi v=>∃e,f[i]?=some e/\v=e.key) (λi h=>h.IsKeyIter I d i f.size H/\uP h d f H) where
 sub:=λb c=>by simp at c;simp[c]
 frame:=λi h h' st k=>by
  obtain⟨⟨o,a,r⟩,D,x,J⟩:=st
  exact⟨⟨o,k I (by simp) o a,r⟩,D,k d (by simp) D x,J⟩
 item:=λi s Q E G st p=>by
  obtain⟨it,o,a,ex,hd⟩:=st
  have g:s.TypeIs (.ref I) "dict_keyiterator":=by obtain⟨n,l,j,_⟩:=it;exact⟨n,l,j⟩
  unfold pyNext
  refine aa (dB (bp (name:=Str.ofString "__next__") g F.slot_dict_keyiterator_next (bF F.slot_dict_keyiterator_next g F.entry_dict_keyiterator_next ?_ (F.args_dict_keyiterator_next_1 _))))
  refine Mb it a hd (e:=f[i]) (by simp[G]) λh' u C=>⟨_,rfl,ah ?_⟩
  exact p _ h' s.toks ⟨f[i],by simp[G],rfl⟩ ⟨u,o,(C.2 d z).trans a,ex,hd⟩ λb q c e=>(C.2 b (by simpa using c)).trans e
 done:=λs Q E st p=>by
  obtain⟨it,o,a,ex,hd⟩:=st
  have g:s.TypeIs (.ref I) "dict_keyiterator":=by obtain⟨n,l,j,_⟩:=it;exact⟨n,l,j⟩
  unfold pyNext
  refine aa (dB (bp (name:=Str.ofString "__next__") g F.slot_dict_keyiterator_next (bF F.slot_dict_keyiterator_next g F.entry_dict_keyiterator_next ?_ (F.args_dict_keyiterator_next_1 _))))
  refine MX M it a hd (by simp) λh' e hk he=>?_
  obtain⟨L,y,B⟩:=he
  refine aa (fN (T:="StopIteration") (b:=true) ⟨L,y,B⟩ isSubtype_stop ?_)
  exact ah (p h' s.toks λb q c e=>hk b q (by simpa using c) e)
 self:=λi s Q E st h=>wpAny_pyIter_keyiter st.1 h
theorem pU{d:Addr}{c:Nat}{Q:Value->ai->Prop}(e:(d==bC)=false)(h:uP s.heap d g c)(f:Q (.ref s.heap.objs.size) {s with heap:=s.heap.push {cls:=.type "dict_keyiterator",data:=.fields #[.ref d,.int 0 0,.int g.size 0,.int c 0]}}):wpAny (model prog w) A (pyIter (.ref d)) Q E s:=by obtain⟨o,a,ex,hd⟩:=h;have b:s.TypeIs (.ref d) "dict":=⟨o,a,ex.1⟩;refine wpAny_pyIter_slot b F.slot_dict_iter (bF F.slot_dict_iter b F.entry_dict_iter ?_ (F.args_dict_iter_1 _));unfold cU.«dict.__iter__»;refine aa ?_;unfold Builtin.Dict.dictSlotNone;refine aa (fL b ?_);refine ah ?_;refine aa ?_;refine ah ?_;refine aa ?_;unfold jh;rw[if_neg (by rw[e];exact Bool.false_ne_true)];refine ah ?_;refine aa (bY a hd ?_);refine aa (b8 a hd ?_);unfold newFields;refine aa (bS ?_ (by size_fits));refine ah ⟨_,rfl,"dict_keyiterator",_,⟨_,Heap.get?_push_size _ rfl,rfl⟩,F.slot_dict_keyiterator_next.lookup,?_⟩;exact f
theorem L4{d:Addr}{b:Array DictEntry}{c:Nat}(f:(d==bC)=false):PySem.W.KdlSrc prog w "dict" d d b.size (λi v=>∃e,b[i]?=some e/\v=e.key) (λh=>uP h d b c) where
 type:=λs h=>by obtain⟨o,a,ex,_⟩:=h;exact⟨o,a,ex.1⟩
 there:=λh r=>by obtain⟨o,a,_⟩:=r;exact⟨Heap.lt_size a,Heap.lt_size a⟩
 keep:=λh h' r k=>by obtain⟨o,a,e⟩:=r;exact⟨o,k d (.inl rfl) o a,e⟩
 notList:=by decide
 notTuple:=by decide
 hint:=λA E s Q h q=>PySem.W.kdl_hint_dict (by obtain⟨o,a,ex,_⟩:=h;exact⟨o,a,ex.1⟩) q
 iter:=λA s g h=>by
  have a:=h
  refine⟨_,_,λE Q q=>pU f h q,qW g s.heap.objs.size d (by obtain⟨o,a,_⟩:=a;exact Nat.ne_of_lt (Heap.lt_size a)) b c,⟨_,Heap.get?_push_size _ rfl,rfl,rfl⟩,?_⟩
  obtain⟨o,a,e⟩:=a
  exact⟨o,Heap.get?_push_of_some _ a,e⟩
end
theorem ML:∀as:List Addr,Vals (as.map V.ref) (as.map Value.ref)
|[]=>.nil
|a::as=>.cons rfl (ML as)
theorem ZI{α β:Type}{R:α->β->Prop}{a:List α}{c:List β}(h:bZ R a c){i:Nat}{x:α}{y:β}(b:a[i]?=some x)(d:c[i]?=some y):R x y:=by
 induction h generalizing i with
|nil=>cases b
|cons h _ e=>
  cases i with
 |zero=>cases b;cases d;exact h
 |succ i=>exact e (by simpa using b) (by simpa using d)
section
variable {X:Cx}
theorem N6(G:X.calm=true):Xf X (.type "list") (λxs H Q=>∃(p:Addr)(f:List (List Key×V)),xs=[.ref p]/\H p=some (.dT f)/\∀(l:Addr)(bs:List Addr),H l=none->bs.length=f.length->(∀(i:Nat)b j,bs[i]?=some b->f[i]?=some j->H b=some (.tup (j.1.map kV)))->Q (.ref l) (upd H l (.lst (bs.map V.ref)))):=by
 intro pins s σ H xs us Q I r h;obtain⟨p,f,rfl,e,q⟩:=h;obtain⟨u,rfl,B⟩:=vals1 r;cases B;obtain⟨z,hd,d,rel,o,v,T,M,L,J,y,S,R⟩:=Qk I.hL e;have hlen:=aV rel;have hsz:v.size=d.length:=by rw[<-bX,y,lm]
 refine PySem.W.kdl_call (L4 hd) (I.ok.hd G) ⟨o,M,L,J⟩ (by rw[hsz,<-hlen];exact z) λh' A c P C E it=>?_;have O:c.toList=(d.map λx=>Value.ref x.2.1):=by
  refine List.ext_getElem? λi=>?_;by_cases F:i<v.size
  .have g:i<c.size:=by rw[it.1];exact F
   obtain⟨N,he,D⟩:=it.2 i c[i] (by simp[g]);rw[dQ,gj g,D];have:v.toList[i]?=some N:=by rw[dQ];exact he
   rw[y,aY]at this;obtain⟨x,n,rfl⟩:=bV.mp this;rw[aY,n];rfl
  .rw[cv (by rw[bX,it.1];omega),cv (by rw[lm];omega)]
 refine⟨.ref s.heap.objs.size,_,I.laid (a:=s.heap.objs.size) (o:=.lst ((d.map λx=>x.2.1).map V.ref)) (t':=A) C (Nat.le_refl _) ?_,rfl,q _ (d.map λx=>x.2.1) (I.hL.fresh (Nat.le_refl _)) (by rw[lm];exact hlen.symm) λi b j w hk=>?_⟩
 .refine⟨by rw[lm,lm,<-hlen];exact z,c.toList,P,?_,by simpa using E⟩;rw[O,show(d.map λx=>Value.ref x.2.1)=(d.map λx=>x.2.1).map Value.ref from(cO).symm];exact ML _
 .rw[aY]at w;obtain⟨x,n,rfl⟩:=bV.mp w;exact(ZI rel hk n).2.1
end
theorem Hh  {a:Array DictEntry}{xs:List (List Key×Addr×Value)}(h:a.toList=xs.map (jb (bQ (Zz P w)))){i:Nat}{x:List Key×Addr×Value}(b:xs[i]?=some x):∃e,a[i]?=some e/\e.key=.ref x.2.1/\e.val=x.2.2:=by refine⟨jb (bQ (Zz P w)) x,?_,rfl,rfl⟩;rw[<-dQ,h,aY,b];rfl
section
variable {X:Cx}{pins:List (Addr×Obj)}{σ:St}{H:Hp}{s:ai}{a:Addr}{o:Obj}{u:HO}
theorem Inv.wO(I:Inv X pins σ H s)(e:H a=some (.lG o u))(h0:∀l i,X.pF a≠some (.lG l i)):Inv X pins σ (upd H a u) s:=by
 have ne:∀{c:Addr},H c=none->c≠a:=λh z=>by rw[z,e]at h;cases h
 have f:∀{c:Addr}{xs:List V},H c=some (.tup xs)->c≠a:=λh z=>by rw[z,e]at h;cases h
 have nw:∀{c y:Addr},H c=some (.own y)->c≠a:=λh z=>by rw[z,e]at h;cases h
 refine⟨I.ok,I.os,I.bare,⟨I.base.keep,I.base.slot,λb d q n r=>?_,I.base.there,λb xs q=>?_,λb d v q=>?_,λb ps q=>?_⟩,I.loc,I.cell,?_,λx c q=>?_,λp w=>?_,λb v q=>?_,I.len⟩
 .have:=I.base.free b d q n r;rw[Zf (ne this)];exact this
 .have z:=I.base.nC b xs q;rw[Zf (f z)];exact z
 .rw[Zf (λz=>h0 _ _ (z▸q))];exact I.base.ng b d v q
 .obtain⟨m,hm⟩:=I.base.nE b ps q;exact⟨m,by rw[Zf (λz=>by rw[z,e]at hm;cases hm)];exact hm⟩
 .rw[Zf (ne I.free)];exact I.free
 .rw[Zf (ne (I.ki x c q))];exact I.ki x c q
 .obtain⟨p1,p2,j⟩:=I.pin p w;exact⟨p1,by rw[Zf (ne p2)];exact p2,j⟩
 .by_cases g:b=a
  .subst g;rw[Zd]at q;cases q;exact(I.hL b _ e).2.lW (λ_ _ _ z=>z) (λc z=>by rw[Zf (nw z)];exact z) λc xs z=>by rw[Zf (f z)];exact z
  .rw[Zf g]at q;exact(I.hL b v q).lW (λ_ _ _ z=>z) (λc z=>by rw[Zf (nw z)];exact z) λc xs z=>by rw[Zf (f z)];exact z
noncomputable def HZ(H0:Hp)(t:TS):TS:=λD σ H=>t {D with nx:=λmK H'=>∃a o u,H' a=some (.lG o u)/\(∀o' u',H0 a≠some (.lG o' u'))/\D.nx mK (upd H' a u)} σ H
theorem Sl{st:Stmt}{t:TS}(h:PS X st t):PS X st (HZ X.pF t):=by
 intro pins s σ H D I q;refine cj (h pins s σ H _ I q) (λr s1 c=>?_) λ_ _ e=>e;cases r with
|next=>obtain⟨b,H',i,a,o,u,f,g,d⟩:=c;exact⟨b,_,i.wO f g,d⟩
|_=>exact c
end
end L2
namespace SX
open PySem L2 PySem.Spec PyProof.Rows TB WD
noncomputable def ZF:PyData->MK
|.str a=>.inl (.inr a)
|.tuple [.str a,.int i]=>.inr [.inr a,.inl i]
|_=>.inl (.inr "")
theorem V7   (n:NL d)(h:Is H v d):qQ H (ZF d) v:=by
 rcases n with⟨a,rfl⟩|⟨a,i,rfl⟩
 .cases h with
 |str=>exact(rfl:V.str a=kV (.inr a))
 .cases h with
 |tup e r=>
   cases r with
  |cons c r=>
   cases r with
  |cons b r=>
   cases r;cases c;cases b;exact⟨_,rfl,e⟩
noncomputable def Pk:Sp:=λvs H Q _=>∃(b pw l1 l2 l3 l4:Addr)(T:Tb),vs=[.ref pw]/\nr b H pw T l1 l2 l3 l4/\hI T/\∀H' p,fy H H'->H p=none->Dc H' p (ic T)->Q (.ref p) H'
theorem Di{H H1:Hp}  {R:Hp->Prop}(v:H p=none)(s:Zh p H H1)(q:Dc H1 p L)(h:L.length<=20000)(g:Is H1 (.ref a) (Je S))(hk:H1 k=some (.tup (S.key.map kV)))(r:∀b,Zh p H b->Dc b p (L++[S])->R b):∃d b,V.ref p=.ref d/\mI H1 d (.ref k) (.ref a) b/\R b:=by obtain⟨u,e,l,j,i⟩:=q;refine⟨p,_,rfl,mI.t e hk (Nat.lt_of_le_of_lt (Nat.le_trans l h) (by decide)),r _ ?_ (Dc.put e l j i g)⟩;intro c o n f;rw[Zf f];exact s c o n f
theorem Gf{H H1:Hp}{ks:List V}(hk:H1 k=none){S:Sx}(e:ks=S.key.map kV){R:Hp->Prop}(f:H p=none)(s:Zh p H H1)(i:Dc H1 p L)(h:L.length<=20000)(g:Is H1 (.ref a) (Je S))(r:∀b,Zh p H b->Dc b p (L++[S])->R b):∃d b,V.ref p=.ref d/\mI (upd H1 k (.tup ks)) d (.ref k) (.ref a) b/\R b:=by subst e;have c:=sameNew (o:=.tup (S.key.map kV)) (fy.refl H1) hk;exact Di f (s.trans (Zh.of c)) (i.same c) h (g.same c) Zd r
section
variable {P:Program}{w:World}{K:ae}{mg:Str->Option Value}{base:Heap}{C:Addr}{Cs:Nat->Addr}
theorem Zu:fx [kR,oB,"_law_places","_law_rides_here","_law_ways_here","_law_groups_here",jF,q_,"_law_place","_law_turn",mR,oN,rS,"_law_leave","_law_goal","_law_come","_law_seats","_law_long","_law_wide","_law_room"] [kR] (Ze T.lP):=jX
theorem RC(B:∀x∈jO,mg x=none)(D:Df K mg "_law_steps" T.lP [kR]):hY P w K mg base 1 "_law_steps" [kR] Pk:=by
 refine D.cn Zu λf cC A outer s H vs Q E hr h=>?_;obtain⟨b,pw,Z,Y,X,W,T,rfl,tb,ok,k⟩:=h;refine' ⟨_,(Za ?b5 (Za (st 6 Zu.nd JZ) (Za ?b4 (Za ?b3 (Za ?b2 (Za ?b0 (Zc (Zk (pv 6))))))))),?rd⟩;case' b0=>refine' (ZX aL rfl (Yd (pv 2)) (YM rfl (Zq (jG 8 Zu.nd) (Zq (jG 19 Zu.nd) Ym))) (Zc ?b6))
 case' b2=>refine' (ZX aL rfl (Yd (pv 4)) (YM rfl (Zq (jG 7 Zu.nd) (Zq (jG 12 Zu.nd) (Zq (jG 14 Zu.nd) (Zq (jG 17 Zu.nd) (Zq (jG 18 Zu.nd) Ym)))))) (Zc ?ck))
 case' b3=>refine' (ZX aL rfl (Yd (pv 3)) (YM rfl (Zq (jG 7 Zu.nd) (Zq (jG 12 Zu.nd) (Zq (jG 13 Zu.nd) (Zq (jG 14 Zu.nd) (Zq (jG 15 Zu.nd) (Zq (jG 16 Zu.nd) Ym))))))) (Zc ?cB))
 case' b4=>refine' (ZX aL rfl (Yd (pv 5)) (YM rfl (Zq (jG 7 Zu.nd) (Zq (jG 8 Zu.nd) (Zq (jG 9 Zu.nd) (Zq (jG 10 Zu.nd) Ym))))) (Zc ?h5))
 case' b5=>refine' (UG (pv 0) (Fe rfl (Zq (jG 1 Zu.nd) (Zq (jG 2 Zu.nd) (Zq (jG 3 Zu.nd) (Zq (jG 4 Zu.nd) (Zq (jG 5 Zu.nd) Ym)))))))
 case' b6=>refine' (ZA (Zo V6 (pv 19) ZJ (Zt _)) (Zc ?cb) Zn)
 case' cb=>refine' (ZX aL rfl (Y3 rfl (bm B) (ju (pv 1))) (jG 11 Zu.nd) (Zc ?cc))
 case' cc=>refine' (Y9 (Z0 hr) (pv 6) (Zx (kg ZC (pv 8) (pv 11))) ?cf rfl)
 case' cf=>refine' (Zx (Zg (Zx (jz (pv 8) (pv 11))) (kg (Zx (jz (pv 8) (Zr ZL (pv 11) Zb))) (pv 19) Zb)))
 case' ck=>refine' (ZX aL rfl (Y3 rfl (bm B) (ju (Zr XW (Zr ZL (pv 1) Zb) (pv 17)))) (jG 11 Zu.nd) (Zc ?cm))
 case' cm=>refine' (Y9 (Z0 hr) (pv 6) (Zx (kg ZC (pv 7) (pv 11))) ?cx rfl)
 case' cx=>refine' (Zx (Zg (Zx (jz (pv 12) (pv 11))) (kg (Zx (jz (pv 14) (Zr ZL (pv 11) (pv 17)))) (pv 18) (pv 17))))
 case' cB=>refine' (Y9 (Z0 hr) (pv 6) (Zx (jz ZC (pv 7))) ?h9 rfl)
 case' h9=>refine' (Zx (Zg (Zx (jz (pv 12) (pv 13))) (kg (Zx (jz (pv 14) (pv 15))) (pv 16) (Zr XW (pv 15) (pv 13)))))
 case' h5=>refine' (ZX aL rfl (MT rfl (bm B) (jz (pv 9) (Zr ZL (pv 1) Zb))) (jG 11 Zu.nd) (Zc ?h4))
 case' h4=>refine' (Y9 (Z0 hr) (pv 6) (Zx (kg ZC (pv 7) (pv 11))) ?h3 rfl)
 case' h3=>refine' (Zx (Zg (pv 7) (kg (Zx (jz (pv 8) (pv 11))) ZJ Zb)))
 have n0:=ok.n0;have n1:=ok.n1;obtain⟨m1,m2,m3,m4⟩:=Jo ok;obtain⟨z1,z2,z3,z4⟩:=Sn ok;refine⟨_,rfl,pw,_,rfl,gp.of tb.at_,rfl,_,_,rfl,_,_,rfl,_,_,rfl,_,_,rfl,_,_,rfl,rfl,λp hp=>?_⟩;have D0:Dc (upd H p (.dT [])) p []:=⟨[],Zd,Nat.le_refl _,⟨[],.nil,rfl⟩,trivial⟩;have S0:Zh p H (upd H p (.dT [])):=λc o e hc=>by rw[Zf hc];exact e
 generalize upd H p (.dT [])=H0 at D0 S0 ⊢;have nw:∀{c:Addr}{o:HO},H c=some o->c≠p:=λe=>fi e hp;have ab:∀{H':Hp},Zh p H H'->gR b H' W T.t4:=λs=>tb.gr.pT hp s;have ag:∀{H':Hp},Zh p H H'->gR b H' X T.t3:=λs=>tb.wy.pT hp s;have ak:∀{H':Hp},Zh p H H'->gR b H' Y T.t2:=λs=>tb.rd.pT hp s;have aC:∀{H':Hp},Zh p H H'->gR b H' Z T.t1:=λs=>tb.pl.pT hp s;have DD:∀{H':Hp}{L:List Sx},Dc H' p L->Dc H' p (L++[]):=λh=>by rw[ba];exact h
 dsimp only[Zp];refine tq λD1 bT=>?_;refine⟨_,rfl,W,rfl,⟨_,gp.of (ab S0).2.choose_spec.1⟩,?_⟩;refine Yc (J:=oi K W) T.t4.length (λi σ H'=>Zh p H H'/\Dc H' p ((T.t4.take i).flatMap (Yy T))/\∃o:Nat->Option V,σ=[some (.ref pw),some (.int T.n),some (.ref Z),some (.ref Y),some (.ref X),some (.ref W),some (.ref p),o 7,o 8,o 9,o 10,o 11,o 12,o 13,o 14,o 15,o 16,o 17,o 18,o 19]) ⟨S0,D0,j9 rfl⟩ (λi σ H' g q=>(ab q.1).go g) (λσ H' q=>(ab q.1).stop) (λi σ H' x H2 g q yl=>?_) (λσ H1 q=>?_)
 .obtain⟨s1,dc,o,rfl⟩:=q;have e0:T.t4[i]?=some T.t4[i]:=gE g;obtain⟨rfl,a,rfl,na,N⟩:=(ab s1).item e0 yl;have M:T.t4[i]∈T.t4:=aB g;have aS:=GH (f:=Yy T) (t:=T.t4) i;have U:=PL ok M;rw[UQ g];generalize T.t4[i]=y at N M U;obtain⟨a1,r,d,l,rfl,ga,gb,c0,c2,_,_⟩:=YE ok M;refine⟨a,_,rfl,hO.of N,rfl,_,_,rfl,_,_,rfl,_,_,rfl,_,_,rfl,rfl,?_⟩;try dsimp only[av]
  refine td λa0 u=>?_;refine⟨_,rfl,_,rfl,_,_,rfl,rfl,d,T.n+1,rfl,⟨by omega,by omega,by omega,by omega⟩,?_⟩;refine UP (lo:=d) (n:=(T.n+1-d).toNat) (λm j H'=>Zh p H H'/\Dc H' p ((T.t4.take i).flatMap (Yy T)++(Yy T [.str a1,.str r,.int d,.int l]).take m)/\∃o:Nat->Option V,j=[some (.ref pw),some (.int T.n),some (.ref Z),some (.ref Y),some (.ref X),some (.ref W),some (.ref p),some (.str a1),some (.str r),some (.int d),some (.int l),o 11,o 12,o 13,o 14,o 15,o 16,o 17,o 18,o 19]) ⟨s1,DD dc,j9 rfl⟩ (λm j H' hm q=>?_) (λj H' q=>?_)
  .obtain⟨s2,I,o,rfl⟩:=q;dsimp only[Zp];refine td λD' hd=>?_;refine⟨_,rfl,_,rfl,_,rfl,zl,λq1 h1=>?_⟩;try dsimp only[jn]
   refine l8 h1 λH3 S3 e3=>?_;refine⟨zl,λq2 h2=>?_⟩;try dsimp only[jn]
   refine l8 h2 λH4 R e4=>?_;refine⟨_,rfl,_,rfl,_,rfl,zl,λq3 h3=>?_⟩;try dsimp only[jn]
   have a6:=S3.trans R;refine Gf h3 rfl (S:=pQ [.str a1,.str r,.int d,.int l] (d+m)) hp (s2.trans (Zh.of a6)) (I.same a6) ?_ (.tup e4 (.cons (.str _) (.cons (.tup (R _ _ e3) (.cons (.str _) (.cons (.int _) .nil))) (.cons .non (.cons (.int _) .nil))))) λH6 s6 a3=>hd _ _ ⟨s6,?_,j9 rfl⟩
   .rw[aq,aN];omega
   .rw[show Yy T [.str a1,.str r,.int d,.int l]=(a_ (T.n+1-d).toNat).map λ(m:Nat)=>pQ [.str a1,.str r,.int d,.int l] (d+m)from rfl]at a3 ⊢;rw[VH hm,<-b_];exact a3
  .obtain⟨s2,I,o,rfl⟩:=q;refine u _ _ ⟨s2,?_,j9 rfl⟩;rw[show(Yy T [.str a1,.str r,.int d,.int l]).take (T.n+1-d).toNat=Yy T [.str a1,.str r,.int d,.int l]from bg (by unfold Yy;rw[lm,dU];exact Nat.le_refl _)]at I;exact I
 obtain⟨s1,a5,o,rfl⟩:=q;rw[aP]at a5;refine bT _ _ ?_;refine tq λD2 bM=>?_;refine⟨_,rfl,Y,rfl,⟨_,gp.of (ak s1).2.choose_spec.1⟩,?_⟩;refine Yc (J:=oi K Y) T.t2.length (λi σ H'=>Zh p H H'/\Dc H' p (T.t4.flatMap (Yy T)++(T.t2.take i).map Jm)/\∃o:Nat->Option V,σ=[some (.ref pw),some (.int T.n),some (.ref Z),some (.ref Y),some (.ref X),some (.ref W),some (.ref p),o 7,o 8,o 9,o 10,o 11,o 12,o 13,o 14,o 15,o 16,o 17,o 18,o 19]) ⟨s1,DD a5,j9 rfl⟩ (λi σ H' g q=>(ak q.1).go g) (λσ H' q=>(ak q.1).stop) (λi σ H' x H2 g q yl=>?_) (λσ H1 q=>?_)
 .obtain⟨s2,dc,o,rfl⟩:=q;have e0:T.t2[i]?=some T.t2[i]:=gE g;obtain⟨rfl,a,rfl,na,N⟩:=(ak s2).item e0 yl;have M:T.t2[i]∈T.t2:=aB g;have aS:((T.t2.take i).map Jm).length<=80:=by rw[lm,aN];omega
  rw[map_take g];generalize T.t2[i]=y at N M;obtain⟨a1,r,l,d,e1,f1,rfl,_⟩:=UD ok M;refine⟨a,_,rfl,hO.of N,rfl,_,_,rfl,_,_,rfl,_,_,rfl,_,_,rfl,_,_,rfl,_,_,rfl,rfl,?_⟩;try dsimp only[av]
  refine td λa0 u=>?_;refine⟨_,rfl,_,rfl,zl,λq1 h1=>?_⟩;try dsimp only[jn]
  refine l8 h1 λH3 S3 e3=>?_;refine⟨_,rfl,_,rfl,zl,λq2 h2=>?_⟩;try dsimp only[jn]
  refine l8 h2 λH4 R e4=>?_;refine⟨_,rfl,_,rfl,_,rfl,_,_,rfl,rfl,zl,λq3 h3=>?_⟩;try dsimp only[jn]
  refine l8 h3 λH5 O e5=>?_;refine⟨_,rfl,_,rfl,zl,λq4 h4=>?_⟩;try dsimp only[jn]
  have v:=(S3.trans R).trans O;refine Gf h4 rfl (S:=Jm [.str a1,.str r,.int d,.str l,.int e1,.int f1]) hp (s2.trans (Zh.of v)) (dc.same v) (by rw[aq];omega) (.tup e5 (.cons (.tup (O _ _ (R _ _ e3)) (.cons (.str _) (.cons (.int _) .nil))) (.cons (.tup (O _ _ e4) (.cons (.str _) (.cons (.int _) .nil))) (.cons (.int _) (.cons (.int _) .nil))))) λH7 s7 F=>u _ _ ⟨s7,?_,j9 rfl⟩;rw[<-b_];exact F
 obtain⟨s2,I,o,rfl⟩:=q;rw[aP]at I;refine bM _ _ ?_;refine tq λD3 bx=>?_;refine⟨_,rfl,X,rfl,⟨_,gp.of (ag s2).2.choose_spec.1⟩,?_⟩;refine Yc (J:=oi K X) T.t3.length (λi σ H'=>Zh p H H'/\Dc H' p ((T.t4.flatMap (Yy T)++T.t2.map Jm)++(T.t3.take i).flatMap (Yp T))/\∃o:Nat->Option V,σ=[some (.ref pw),some (.int T.n),some (.ref Z),some (.ref Y),some (.ref X),some (.ref W),some (.ref p),o 7,o 8,o 9,o 10,o 11,o 12,o 13,o 14,o 15,o 16,o 17,o 18,o 19]) ⟨s2,DD I,j9 rfl⟩ (λi σ H' g q=>(ag q.1).go g) (λσ H' q=>(ag q.1).stop) (λi σ H' x H2 g q yl=>?_) (λσ H1 q=>?_)
 .obtain⟨s3,dc,o,rfl⟩:=q;have e0:T.t3[i]?=some T.t3[i]:=gE g;obtain⟨rfl,a,rfl,na,N⟩:=(ag s3).item e0 yl;have M:T.t3[i]∈T.t3:=aB g;have aS:=GH (f:=Yp T) (t:=T.t3) i;have U:=MH ok M;rw[UQ g];generalize T.t3[i]=y at N M U;obtain⟨a1,r,d,l,e1,rfl,_,_,_,c0,c2,_⟩:=GZ ok M;refine⟨a,_,rfl,hO.of N,rfl,_,_,rfl,_,_,rfl,_,_,rfl,_,_,rfl,_,_,rfl,rfl,?_⟩;try dsimp only[av]
  refine td λa0 u=>?_;refine⟨_,rfl,_,_,rfl,rfl,_,rfl,_,_,rfl,rfl,T.n+1-l,rfl,by omega,by omega,?_⟩;refine UP (lo:=0) (n:=(T.n+1-l).toNat) (λm j H'=>Zh p H H'/\Dc H' p (((T.t4.flatMap (Yy T)++T.t2.map Jm)++(T.t3.take i).flatMap (Yp T))++(Yp T [.str a1,.str r,.str d,.int l,.int e1]).take m)/\∃o:Nat->Option V,j=[some (.ref pw),some (.int T.n),some (.ref Z),some (.ref Y),some (.ref X),some (.ref W),some (.ref p),some (.str a1),o 8,o 9,o 10,o 11,some (.str r),o 13,some (.str d),o 15,o 16,some (.int l),some (.int e1),o 19]) ⟨s3,DD dc,j9 rfl⟩ (λm j H' hm q=>?_) (λj H' q=>?_)
  .obtain⟨s4,G,o,rfl⟩:=q;dsimp only[Zp];refine td λD' hd=>?_;refine⟨_,rfl,_,rfl,zl,λq1 h1=>?_⟩;try dsimp only[jn]
   refine l8 h1 λH3 S3 e3=>?_;refine⟨_,rfl,_,rfl,_,rfl,_,_,rfl,rfl,zl,λq2 h2=>?_⟩;try dsimp only[jn]
   refine l8 h2 λH4 R e4=>?_;refine⟨_,rfl,_,rfl,zl,λq3 h3=>?_⟩;try dsimp only[jn]
   refine l8 h3 λH5 O e5=>?_;refine⟨_,rfl,_,rfl,_,rfl,zl,λq4 h4=>?_⟩;try dsimp only[jn]
   have v:=(S3.trans R).trans O;refine Gf h4 rfl (S:=UU [.str a1,.str r,.str d,.int l,.int e1] (0+m)) hp (s4.trans (Zh.of v)) (G.same v) ?_ (.tup e5 (.cons (.tup (O _ _ (R _ _ e3)) (.cons (.str _) (.cons (.int _) .nil))) (.cons (.tup (O _ _ e4) (.cons (.str _) (.cons (.int _) .nil))) (.cons (.int _) (.cons (.int _) .nil))))) λH7 s7 F=>hd _ _ ⟨s7,?_,j9 rfl⟩
   .simp only[aq,aN];omega
   .rw[show Yp T [.str a1,.str r,.str d,.int l,.int e1]=(a_ (T.n+1-l).toNat).map λ(m:Nat)=>UU [.str a1,.str r,.str d,.int l,.int e1] (0+m)from rfl]at F ⊢;rw[VH hm,<-b_];exact F
  .obtain⟨s4,G,o,rfl⟩:=q;refine u _ _ ⟨s4,?_,j9 rfl⟩;rw[show(Yp T [.str a1,.str r,.str d,.int l,.int e1]).take (T.n+1-l).toNat=Yp T [.str a1,.str r,.str d,.int l,.int e1]from bg (by unfold Yp;rw[lm,dU];exact Nat.le_refl _)]at G;rw[<-b_];exact G
 obtain⟨s3,a4,o,rfl⟩:=q;rw[aP]at a4;refine bx _ _ ?_;refine tq λD4 bb=>?_;refine⟨_,rfl,Z,rfl,⟨_,gp.of (aC s3).2.choose_spec.1⟩,?_⟩;refine Yc (J:=oi K Z) T.t1.length (λi σ H'=>Zh p H H'/\Dc H' p ((T.t4.flatMap (Yy T)++T.t2.map Jm++T.t3.flatMap (Yp T))++(T.t1.take i).flatMap (Yl T))/\∃o:Nat->Option V,σ=[some (.ref pw),some (.int T.n),some (.ref Z),some (.ref Y),some (.ref X),some (.ref W),some (.ref p),o 7,o 8,o 9,o 10,o 11,o 12,o 13,o 14,o 15,o 16,o 17,o 18,o 19]) ⟨s3,DD a4,j9 rfl⟩ (λi σ H' g q=>(aC q.1).go g) (λσ H' q=>(aC q.1).stop) (λi σ H' x H2 g q yl=>?_) (λσ H1 q=>?_)
 .obtain⟨s4,dc,o,rfl⟩:=q;have e0:T.t1[i]?=some T.t1[i]:=gE g;obtain⟨rfl,a,rfl,na,N⟩:=(aC s4).item e0 yl;have M:T.t1[i]∈T.t1:=aB g;have aS:=GH (f:=Yl T) (t:=T.t1) i;have U:=MJ ok (y:=T.t1[i]);rw[UQ g];generalize T.t1[i]=y at N M U;obtain⟨⟨z1,rr⟩,rfl,_,_⟩:=Xp ok M;refine⟨a,_,rfl,hO.of N,rfl,_,_,rfl,_,_,rfl,rfl,?_⟩;try dsimp only[av]
  refine td λa0 u=>?_;cases rr with
 |none=>refine⟨_,rfl,rfl,_,rfl,?_⟩;refine jI ?_;refine u _ _ ⟨s4,?_,j9 rfl⟩;rw[show Yl T (jD (z1,none))=[]from if_pos rfl,ba];exact dc
 |some r1=>
   refine⟨_,rfl,rfl,_,rfl,?_⟩;refine jC ?_;have ew:Yl T (jD (z1,some r1))=(a_ T.n.toNat).map λ(m:Nat)=>UW (jD (z1,some r1)) (0+m):=if_neg (λz=>by cases z);refine⟨_,rfl,T.n,rfl,by omega,by omega,?_⟩;refine UP (lo:=0) (n:=T.n.toNat) (λm j H'=>Zh p H H'/\Dc H' p (((T.t4.flatMap (Yy T)++T.t2.map Jm++T.t3.flatMap (Yp T))++(T.t1.take i).flatMap (Yl T))++(Yl T (jD (z1,some r1))).take m)/\∃o:Nat->Option V,j=[some (.ref pw),some (.int T.n),some (.ref Z),some (.ref Y),some (.ref X),some (.ref W),some (.ref p),o 7,some (.str z1),o 9,o 10,o 11,o 12,o 13,o 14,o 15,o 16,o 17,o 18,some (.int r1)]) ⟨s4,DD dc,j9 rfl⟩ (λm j H' hm q=>?_) (λj H' q=>?_)
   .obtain⟨s5,aM,o,rfl⟩:=q;dsimp only[Zp];refine td λD' hd=>?_;refine⟨_,rfl,_,rfl,zl,λq1 h1=>?_⟩;try dsimp only[jn]
    refine l8 h1 λH3 S3 e3=>?_;refine⟨_,rfl,_,rfl,_,_,rfl,rfl,zl,λq2 h2=>?_⟩;try dsimp only[jn]
    refine l8 h2 λH4 R e4=>?_;refine⟨_,rfl,zl,λq3 h3=>?_⟩;try dsimp only[jn]
    refine l8 h3 λH5 O e5=>?_;refine⟨_,rfl,_,rfl,_,rfl,zl,λq4 h4=>?_⟩;try dsimp only[jn]
    have v:=(S3.trans R).trans O;refine Gf h4 rfl (S:=UW (jD (z1,some r1)) (0+m)) hp (s5.trans (Zh.of v)) (aM.same v) ?_ (.tup e5 (.cons (.tup (O _ _ (R _ _ e3)) (.cons (.str _) (.cons (.int _) .nil))) (.cons (.tup (O _ _ e4) (.cons (.str _) (.cons (.int _) .nil))) (.cons (.int _) (.cons (.int _) .nil))))) λH7 s7 F=>hd _ _ ⟨s7,?_,j9 rfl⟩
    .simp only[aq,aN];omega
    .rw[ew]at F ⊢;rw[VH hm,<-b_];exact F
   .obtain⟨s5,aM,o,rfl⟩:=q;refine u _ _ ⟨s5,?_,j9 rfl⟩;rw[show(Yl T (jD (z1,some r1))).take T.n.toNat=Yl T (jD (z1,some r1))from bg (by rw[ew,lm,dU];exact Nat.le_refl _)]at aM;rw[<-b_];exact aM
 obtain⟨s4,G,o,rfl⟩:=q;rw[aP]at G;exact bb _ _ ⟨_,rfl,k H1 p (λc o e=>s4 c o e (nw e)) hp G⟩
end
noncomputable def uR(S S':Sx):Prop:=S.key≠S'.key
theorem QW{f:Nat->Sx}{n:Nat}(h:∀a b:Nat,a<b->uR (f a) (f b)):((a_ n).map f).Pairwise uR:=iU.mpr (List.Pairwise.imp (h _ _) List.pairwise_lt_range)
theorem Sj (o:hI T){j:Nat}(c:isJ j){R:List V->List V->Prop}(h:∀a b,nameOf a≠nameOf b->R a b):(T.part j).Pairwise R:=List.Pairwise.imp (h _ _) (iU.mp (J2 o c))
theorem oR{a b:Str}{x y:Key}{l m:List Key}(h:a≠b\/x≠y):((.inr a:Key)::x::l)≠.inr b::y::m:=by
 intro e;injection e with d c;injection c with c f;injection d with d;rcases h with h|h
 .exact h d
 .exact h c
theorem vU{a b:Str}(h:a≠b):(.inr a:Key)≠.inr b:=λe=>by injection e with e;exact h e
theorem ux {x y:Key}{i j:Int}(h:i≠j):([.inr a,x,.inl i]:List Key)≠[.inr b,y,.inl j]:=by intro e;injection e with g d;injection d with d c;injection c with c f;injection c with c;exact h c
theorem V5  {S:Sx}(h:S∈Yy T y):∃i,S=pQ y i:=by obtain⟨m,_,rfl⟩:=ao.mp h;exact⟨_,rfl⟩
theorem VQ  {S:Sx}(h:S∈Yp T y):∃i,S=UU y i:=by obtain⟨m,_,rfl⟩:=ao.mp h;exact⟨_,rfl⟩
theorem Gy  {S:Sx}(h:S∈Yl T y):∃i,S=UW y i:=by
 unfold Yl at h;split at h
 .cases h
 obtain⟨m,_,rfl⟩:=ao.mp h;exact⟨_,rfl⟩
theorem VP (o:hI T):(ic T).Pairwise uR:=by
 obtain⟨r,q,p,n,l,g⟩:=JY;unfold ic;rw[ib,ib,ib];refine⟨⟨⟨?_,?_,?_⟩,?_,?_⟩,?_,?_⟩
 .refine g6.mpr ⟨λy c=>QW λa b h=>ux (by omega),Sj o (j:=4) (.inr (.inr (.inr rfl))) λa b h x hx y c=>?_⟩;obtain⟨i,rfl⟩:=V5 hx;obtain⟨e,rfl⟩:=V5 c;exact oR (.inr (vU h))
 .exact iU.mpr (Sj o (j:=2) (.inr (.inl rfl)) λa b h=>oR (.inr (vU h)))
 .intro x hx z hz;obtain⟨y,c,hx⟩:=cQ.mp hx;obtain⟨f,d,rfl⟩:=ao.mp hz;obtain⟨i,rfl⟩:=V5 hx;exact oR (.inl n)
 .refine g6.mpr ⟨λy c=>QW λa b h=>ux (by omega),Sj o (j:=3) (.inr (.inr (.inl rfl))) λa b h x hx y c=>?_⟩;obtain⟨i,rfl⟩:=VQ hx;obtain⟨e,rfl⟩:=VQ c;exact oR (.inr (vU h))
 .intro x hx z hz;obtain⟨f,d,hz⟩:=cQ.mp hz;obtain⟨e,rfl⟩:=VQ hz;rcases aF.mp hx with hx|hx
  .obtain⟨y,c,hx⟩:=cQ.mp hx;obtain⟨i,rfl⟩:=V5 hx;exact oR (.inl r)
  .obtain⟨y,c,rfl⟩:=ao.mp hx;exact oR (.inl l.symm)
 .refine g6.mpr ⟨λy c=>?_,Sj o (j:=1) (.inl rfl) λa b h x hx y c=>?_⟩
  .unfold Yl;split
   .exact .nil
   .exact QW λa b h=>ux (by omega)
  .obtain⟨i,rfl⟩:=Gy hx;obtain⟨e,rfl⟩:=Gy c;exact oR (.inr (vU h))
 .intro x hx z hz;obtain⟨f,d,hz⟩:=cQ.mp hz;obtain⟨e,rfl⟩:=Gy hz;rcases aF.mp hx with hx|hx
  .rcases aF.mp hx with hx|hx
   .obtain⟨y,c,hx⟩:=cQ.mp hx;obtain⟨i,rfl⟩:=V5 hx;exact oR (.inl q)
   .obtain⟨y,c,rfl⟩:=ao.mp hx;exact oR (.inl g.symm)
  .obtain⟨y,c,hx⟩:=cQ.mp hx;obtain⟨i,rfl⟩:=VQ hx;exact oR (.inl p)
theorem Pw:∀(l:List (Sx×V))(acc:List (List Key×V)),l.Pairwise (λp q=>uR p.1 q.1)->(∀p∈l,∀q∈acc,q.1≠p.1.key)->qp l acc=acc++l.map λp=>(p.1.key,p.2)
|[],acc,_,_=>by simp[qp]
|p::l,acc,h,n=>by
  have e:putK acc p.1.key p.2=acc++[(p.1.key,p.2)]:=by unfold putK;rw[if_neg];intro z;obtain⟨q,a,z⟩:=d8.mp z;exact n p (by simp) q a (of_decide_eq_true z)
  show qp l (putK acc p.1.key p.2)=_;cases h with
 |cons c b=>
  rw[e,Pw l _ b λq a r hr=>?_,b_]
  .rfl
  .rcases aF.mp hr with hr|hr
   .exact n q (by simp[a]) r hr
   .rw[aI]at hr;subst hr;exact c q a
theorem EJ{H:Hp}{vs:List V}{L:List Sx}(p:bZ (λv S=>Is H v (Je S)) vs L)(h:L.Pairwise uR):(L.zip vs).Pairwise λp q=>uR p.1 q.1:=by
 induction p with
|nil=>exact .nil
|cons _ _ a=>
  cases h with
 |cons d c=>exact .cons (λq b=>d q.1 (gW b).1) (a c)
theorem EK{H:Hp}{vs:List V}{L:List Sx}(p:bZ (λv S=>Is H v (Je S)) vs L):bZ (λ(a:List Key×V)(S:Sx)=>a.1=S.key/\Is H a.2 (Je S)) ((L.zip vs).map λp=>(p.1.key,p.2)) L:=by
 induction p with
|nil=>exact .nil
|cons r _ b=>exact .cons ⟨rfl,r⟩ b
theorem Dc.ord   (d:Dc H p L)(h:L.Pairwise uR):∃a,H p=some (.dT a)/\bZ (λ(b:List Key×V)(S:Sx)=>b.1=S.key/\Is H b.2 (Je S)) a L:=by obtain⟨a,e,_,⟨vs,r,f⟩,_⟩:=d;refine⟨_,e,?_⟩;rw[f,Pw _ [] (EJ r h) (λ_ _ q c=>nomatch c),List.nil_append];exact EK r
end SX
namespace L2
open PySem PySem.Spec PyProof.Rows
noncomputable def vY(a:Addr)(o:Obj)(f5:List (List Key×V)):It:=⟨λi H=>i<f5.length/\H a=some (.lG o (.dT f5)),λi H x H'=>H'=H/\∃(b:Addr)(kv:List Key×V),f5[i]?=some kv/\H b=some (.tup (kv.1.map kV))/\x=.ref b,λi H=>i=f5.length/\H a=some (.lG o (.dT f5))⟩
theorem QA{P:Program}{w:World}{K:ae}{S:Expr}{a it:Addr}{o:Obj}{g:List (List Key×V)}{G:Array DictEntry}{R:Nat}(j:o.data=.dict G R)(hsz:G.size=g.length):
  Turn P w K S (vY a o g) [it] it (λi h=>h.IsKeyIter it a i G.size R) where
 mem:=by simp
 obj:=λi h st b f=>by
  have e:b=it:=by simpa using f
  subst e
  obtain⟨o,e,c,d⟩:=st
  exact⟨o,e,λv z=>by rw[d]at z;cases z⟩
 keep:=λi h h' st k=>st.at λo e=>k it (by simp) o e
 item:=by
  intro X A hw B N i pins s σ H E I hf st y
  subst A hw B
  obtain⟨M,x⟩:=y
  obtain⟨r,z,hd,xs,rel,u,ab,ag,Q,h2,O,Y,h5⟩:=I.hL a _ x
  rw[r]at Q
  cases Q
  rw[j]at O
  cases O
  have hl:=aV rel
  have q:i<xs.length:=by omega
  obtain⟨e,he,Z,ev⟩:=Hh Y (gE q)
  have p:=gE M
  obtain⟨r1,W,r3⟩:=ZI rel p (gE q)
  obtain⟨f0,f1,f2,D,f4,C⟩:=hf it (by simp)
  have l:s.TypeIs (.ref it) "dict_keyiterator":=by obtain⟨o,e,c,d⟩:=st;exact⟨o,e,c⟩
  unfold pyNext
  refine aa (dB (bp (name:=Str.ofString "__next__") l F.slot_dict_keyiterator_next (bF F.slot_dict_keyiterator_next l F.entry_dict_keyiterator_next ?_ (F.args_dict_keyiterator_next_1 _))))
  refine Mb st r j he λh' n U=>⟨_,rfl,ah ?_⟩
  have I1:Inv X pins σ H {s with heap:=h'}:=I.turned (t':=s.toks) (λb o f e=>(U.2 b f).trans e) f0 f1 D f4 C
  obtain⟨u,e',c',d'⟩:=id n
  exact⟨_,rfl,Qf (s:={s with heap:=h'}) e' c' d' (by decide) ⟨.ref xs[i].2.1,H,I1,Z,⟨rfl,xs[i].2.1,g[i],p,W,rfl⟩,n,λb f=>(hf b f).1⟩⟩
 done:=by
  intro X A hw B N i pins s σ H E I hf st y
  subst A hw B
  obtain⟨M,x⟩:=y
  have r:=(I.hL a _ x).1
  obtain⟨f0,f1,f2,D,f4,C⟩:=hf it (by simp)
  have l:s.TypeIs (.ref it) "dict_keyiterator":=by obtain⟨o,e,c,d⟩:=st;exact⟨o,e,c⟩
  unfold pyNext
  refine aa (dB (bp (name:=Str.ofString "__next__") l F.slot_dict_keyiterator_next (bF F.slot_dict_keyiterator_next l F.entry_dict_keyiterator_next ?_ (F.args_dict_keyiterator_next_1 _))))
  refine MX (I.ok.hd N) st r j (by simp;omega) λh' e hk he=>?_
  obtain⟨u,J,L⟩:=he
  refine aa (fN (T:="StopIteration") (b:=true) ⟨u,J,L⟩ isSubtype_stop ?_)
  exact ah ⟨rfl,I.turned (t':=s.toks) (λb o f e=>hk b o f e) f0 f1 D f4 C⟩
 self:=λ_ _ _ _ _ st h=>wpAny_pyIter_keyiter st h
section
variable {X:Cx}{tg:Expr}
noncomputable def Hj(tl:TE):TI:=λσ H R=>tl σ H λx H1=>∃a f5,x=.ref a/\H1 a=some (.dT f5)/\∀o,R (vY a o f5) (upd H1 a (.lG o (.dT f5)))
theorem PD{l:Expr}{p:TE}(B:PE X l p):PI X tg l (Hj p):=by
 intro pins s σ H R I h;refine hU (B pins s σ H _ I h) λv s1 hZ=>?_;obtain⟨x,H1,n,y,A⟩:=hZ;obtain⟨a,d,e,g,q⟩:=A;subst e;cases y;obtain⟨z,hd,xs,rel,f,F,L,i,E,r,D,J,G⟩:=Qk n.hL g;have hlen:=aV rel;have hsz:F.size=d.length:=by rw[<-bX,D,lm,hlen]
 have j:Inv X pins σ (upd H1 a (.lG f (.dT d))) s1:=n.write (x:=a) (e:=a) (h':=s1.heap) (t':=s1.toks) (o:=.lG f (.dT d)) (by rw[g];exact bH) (.inl rfl) (λb u _ z=>z) ⟨f,i⟩ ⟨i,?_⟩
 .refine pU hd ⟨f,i,E,r⟩ ?_;refine⟨s1.heap.objs.size,[s1.heap.objs.size],_,_,_,rfl,j.kept (t':=s1.toks) λb o e=>Heap.get?_push_of_some _ e,QA r hsz,⟨_,Heap.get?_push_size _ rfl,rfl,rfl⟩,λb C=>?_,q f⟩;have e:b=s1.heap.objs.size:=by simpa using C
  subst e;exact j.nJ (Nat.le_refl _) (j.hL.fresh (Nat.le_refl _))
 .have h0:ZW X.prog X.w H1 s1.heap a (.dT d):=n.hL a _ g;exact h0.lW (λ_ _ _ z=>z) (λc z=>by rw[Zf (hA z g (λq=>nomatch q))];exact z) λc xs z=>by rw[Zf (hA z g (λq=>nomatch q))];exact z
noncomputable def uS(hi:Int)(n:Nat):It:=⟨λi _=>i<n,λi H x H'=>H'=H/\x=.int (hi-i),λi _=>n<=i⟩
theorem Te{P:Program}{w:World}{K:ae}{tg:Expr}(it:Addr)(lo:Int)(n:Nat):Turn P w K tg (uS lo n) [it] it (λi h=>IsRangeIter h it (lo+(i:Nat)*(-1)) ((n:Int)-(i:Nat)) (-1)) where
 mem:=by simp
 obj:=λi h st b a=>by
  have e:b=it:=by simpa using a
  subst e
  exact⟨_,st,λv z=>by
   have r:Data.fields _=Data.cell v:=z
   cases r⟩
 keep:=λi h h' st k=>k it (by simp) _ st
 item:=by
  intro X g hw j f i pins s σ H E I hf st d
  subst g hw j
  obtain⟨f0,f1,f2,p,f4,l⟩:=hf it (by simp)
  have W:=Walks.range (prog:=X.prog) (w:=X.w) (I.ok.hd f) it lo (-1) n
  refine W.item i s _ _ d st λv h' q u c kk=>?_
  obtain⟨t,rfl⟩:=u
  have y:Inv X pins σ H {s with heap:=h',toks:=q}:=I.turned (λb o a e=>kk b o (by simpa using a) e) f0 f1 p f4 l
  refine⟨_,rfl,Qf (s:={s with heap:=h',toks:=q}) (n:="range_iterator") c rfl rfl (by decide) ⟨.int (lo-i),H,y,⟨t,?_⟩,⟨rfl,rfl⟩,c,λb a=>(hf b a).1⟩⟩
  congr 1
  omega
 done:=by
  intro X g hw j f i pins s σ H E I hf st d
  subst g hw j
  obtain⟨f0,f1,f2,p,f4,l⟩:=hf it (by simp)
  exact wpAny_pyNext_range_end (I.ok.hd f) st (by have:n<=i:=d;omega) λh' x=>⟨rfl,I.turned (t':=s.toks) (λb o a e=>x b o a e) f0 f1 p f4 l⟩
 self:=λ_ _ _ _ _ st h=>wpAny_pyIter_rangeiter st h
theorem MR{lo a:Int}(h:a<=lo):(((lo-a).toNat:Nat):Int)=d5 lo a (-1):=by
 unfold d5;rw[if_neg (by decide)];split
 .rw[show -(-1:Int)=1 by decide,Int.ediv_one];omega
 .omega
theorem small_down{lo a:Int}(h0:-1000<=a)(h:a<=lo)(b:lo<=1000):Builtin.Range.small lo a (-1)=true:=by unfold Builtin.Range.small;rw[<-MR h];unfold Builtin.Range.rangeFitsLong;rw[if_neg (by decide)];simp only[Bool.and_eq_true,Bool.or_eq_true,decide_eq_true_eq];refine⟨⟨⟨⟨?_,?_⟩,?_⟩,?_⟩,.inr ?_⟩<;>(constructor<;>omega)
noncomputable def Al(ta:TA):TI:=λσ H R=>ta σ H λvs H1=>∃i j:Int,vs=[.int i,.int j,.int (-1)]/\(-1000<=j/\j<=i/\i<=1000)/\R (uS i (i-j).toNat) H1
theorem Dl{a b c:Expr}{p pos:Pos}(B:Gl X "range")(hm:X.mg "range"=none)(D:PA X [a,b,c] w)(A:aH [a,b,c] X.env=[(false,eval a X.env),(false,eval b X.env),(false,eval c X.env)]:=by rfl)(g:aH [b,c] X.env=[(false,eval b X.env),(false,eval c X.env)]:=by rfl):PI X tg (.Call (.Name "range" p) [a,b,c] [] pos) (Al w):=by
 intro pins s σ H R I h;refine Call_ (JK I B hm boot_range (bI (hU (D pos pins s σ H _ I h) λus s1⟨vs,H1,E,x,l⟩=>?_) (by rw[A,g]) (by rw[g];rfl)));obtain⟨i,j,e,⟨l,v,z⟩,q⟩:=l;subst e;cases x with
|cons r f=>
  cases f with
 |cons y f=>
   cases f with
  |cons u f=>
   cases f;obtain⟨t,rfl⟩:=r;obtain⟨t',rfl⟩:=y;obtain⟨d,rfl⟩:=u;refine call_range_3 (by decide) ?_ (.inl (PyProof.noPylong_small (by decide)));refine wpAny_pyIter_range (IsRange.new ..) (small_down l v z) ?_;have n:Inv X pins σ H1 {s1 with heap:=s1.heap.push {cls:=.type "range",data:=.fields #[.int i t,.int j t',.int (-1) d]},toks:=s1.toks}:=E.kept λb o e=>Heap.get?_push_of_some _ e;refine⟨(s1.heap.push {cls:=.type "range",data:=.fields #[.int i t,.int j t',.int (-1) d]}).objs.size,[(s1.heap.push {cls:=.type "range",data:=.fields #[.int i t,.int j t',.int (-1) d]}).objs.size],_,_,H1,rfl,n.kept (t':=s1.toks) λb o e=>Heap.get?_push_of_some _ e,Te _ i (i-j).toNat,?_,λb C=>?_,q⟩
   .show IsRangeIter _ _ (i+((0:Nat):Int)*(-1)) ((((i-j).toNat:Nat):Int)-((0:Nat):Int)) (-1);rw[show i+((0:Nat):Int)*(-1)=i by omega,show(((i-j).toNat:Nat):Int)-((0:Nat):Int)=d5 i j (-1) by rw[<-MR v];omega];exact Heap.get?_push_size _ rfl
   .have e:b=(s1.heap.push {cls:=.type "range",data:=.fields #[.int i t,.int j t',.int (-1) d]}).objs.size:=by simpa using C
    subst e;exact n.nJ (Nat.le_refl _) (n.hL.fresh (Nat.le_refl _))
noncomputable def w4(t a b:TT):TT:=λσ H Q=>t σ H λc H1=>if c=true then a σ H1 Q else b σ H1 Q
theorem Kp   (n:PT X c tc)(p:PT X a j)(o:PT X b i):PT X (.IfExp c a b pos) (w4 tc j i):=by
 intro pins s σ H Q I h;refine isTrue_IfExp (cj (n pins s σ H _ I h) (λd s1 l=>?_) λ_ _ e=>e);obtain⟨H1,g,f⟩:=l;cases d with
|true=>exact p pins s1 σ H1 Q g f
|false=>exact o pins s1 σ H1 Q g f
end
end L2
namespace SX
open PySem L2 PySem.Spec PyProof.Rows TB WD
noncomputable def SW(T:Tb)(k:MK):Prop:=∃y∈T.t1,at_ y 1=.non/\∃i:Int,k=.inr [.inr (nameOf y),.inl i]
theorem JE{a:List (MK×V)}{k:MK}{v:V}:(putK a k v).length<=a.length+1:=by
 unfold putK;split
 .rw[lm];omega
 .simp
theorem Pb{T:Tb}(ok:hI T):(ic T).length<=18200:=by have h:=Sn ok;unfold ic;simp only[aq];omega
theorem Gz:∀{b:List (List Key×V)},(b.map (·.1)).Nodup->∀{j:Nat}{a:List Key×V},b[j]?=some a->f' b a.1=some a.2
|[],_,j,a,h=>by cases h
|p::r,c,0,a,h=>by cases h;exact Yv rfl
|p::r,c,j+1,a,h=>by rw[aA,bf]at c;have d:r[j]?=some a:=h;rw[Yw (λz=>c.1 (z▸ao.mpr ⟨a,aK d,rfl⟩))];exact Gz c.2 d
theorem Jp{H:Hp}{a:List (List Key×V)}{L:List Sx}(p:bZ (λ(b:List Key×V)(S:Sx)=>b.1=S.key/\Is H b.2 (Je S)) a L):a.map (·.1)=L.map (·.key):=by
 induction p with
|nil=>rfl
|cons r _ c=>rw[aA,aA,r.1,c]
theorem Gq{T:Tb}(o:hI T):((ic T).map (·.key)).Nodup:=by
 have:=VP o;generalize ic T=L at this;induction this with
|nil=>simp
|cons h _ a=>rw[aA,bf];refine⟨λz=>?_,a⟩;obtain⟨S,b,e⟩:=ao.mp z;exact h S b e.symm
theorem LY{T:Tb}{xs:List V}{j:Nat}{S:Sx}(h:Ys T xs j S):(∃z,kZ xs 0=some (.str z)/\(z≠"out"->∃a i,S.tail=.tuple [.str a,.int i])):=by
 rcases h with⟨y,_,i,rfl,_,_,rfl,rfl⟩|⟨y,_,rfl,rfl,rfl⟩|⟨y,_,i,rfl,_,_,rfl,rfl⟩|⟨y,_,i,rfl,_,_,_,rfl,rfl⟩
 .exact⟨_,Zj (j:=0) rfl,λz=>absurd rfl z⟩
 .exact⟨_,Zj (j:=0) rfl,λ_=>⟨_,_,rfl⟩⟩
 .exact⟨_,Zj (j:=0) rfl,λ_=>⟨_,_,rfl⟩⟩
 .exact⟨_,Zj (j:=0) rfl,λ_=>⟨_,_,rfl⟩⟩
theorem RR{H:Hp}{v:V}{S:Sx}(h:Is H v (Je S)):∃a v0 v1 v2 b,v=.ref a/\H a=some (.tup [v0,v1,v2,b])/\Is H v0 S.tail/\Is H v1 S.head/\Is H v2 (dF S.room)/\b=.int S.pP:=by
 unfold Je at h;cases h with
|@tup a xs _ e r=>
  cases r with
 |cons g r=>
  cases r with
 |cons f r=>
  cases r with
 |cons d r=>
  cases r with
 |cons c r=>
  cases r;cases c;exact⟨a,_,_,_,_,rfl,e,g,f,d,rfl⟩
noncomputable def W0(P:Program)(w:World):Sp:=λvs H Q _=>∃(b pw l1 l2 l3 l4 d:Addr)(T:Tb),vs=[.ref pw,.ref d]/\nr b H pw T l1 l2 l3 l4/\hI T/\Dc H d (ic T) /\∀H' p f5,fy H H'->H p=none->kI P w H' p f5->Q (.ref p) H'
section
variable {P:Program}{w:World}{K:ae}{mg:Str->Option Value}{base:Heap}
theorem ZP:fx [kR,jF,"_law_hopeful_here","_law_place","_law_room",oN,"_law_key","_law_tail","_law_head","_law_price"] [kR,jF] (Ze T.kW):=jX
theorem Wr(B:∀x∈jO,mg x=none)(D:Df K mg "_law_hopeful" T.kW [kR,jF]):hY P w K mg base 1 "_law_hopeful" [kR,jF] (W0 P w):=by
 refine D.cn ZP λf cB A outer s H vs Q E hr h=>?_;obtain⟨b,G,l1,l2,l3,l4,d,T,rfl,tb,ok,dc,k⟩:=h;refine' ⟨_,(Za (st 2 ZP.nd Sq) (Za ?b3 (Za ?b2 (Zc (Zk (pv 2)))))),?rd⟩;case' b2=>refine' (ZX aL rfl (Dl rfl (bm B) (kg (il K (pv 0) Zb) (MU Uw Zb) (MU Uw Zb))) (jG 5 ZP.nd) (Zc ?b4))
 case' b3=>refine' (ZX aL rfl (Yd (il K (pv 0) Zb)) (YM rfl (Zq (jG 3 ZP.nd) (Zq (jG 4 ZP.nd) Ym))) (Zc ?h5))
 case' b4=>refine' (Sl (ZX aL rfl (PD (pv 1)) (jG 6 ZP.nd) (Za ?b6 (Zc ?b5))))
 case' b5=>refine' (ZA (PW.pt (UE (Zo (Q5 (Z0 hr)) (pv 8) (pv 2) (by with_unfolding_all rfl)) (VZ (Kp (Zo YV (it K (pv 6) Zb) ZC (Zt _)) (Zo G4 (pv 5) Zb (Zt _)) (Zo YV (it K (pv 7) Zb) (pv 5) (Zt _)))))) (Zc (NH (Z0 hr) (pv 2) (pv 7) YU rfl)) Zn)
 case' b6=>refine' (UG (YR (Z0 hr) (pv 1) (pv 6) (λ_ _=>rfl)) (YM rfl (Zq (jG 7 ZP.nd) (Zq (jG 8 ZP.nd) (Zq (jG 4 ZP.nd) (Zq (jG 9 ZP.nd) Ym))))))
 case' h5=>refine' (ZX aL rfl (Y3 rfl (bm B) (ju (Zr Xk (Zr ZL (il K (pv 0) Zb) Zb) (Yg Jw rfl (bm B) VO (ju (Yr UH (pv 4) ZJ (Zt _))))))) (jG 5 ZP.nd) (Zc (NH (Z0 hr) (pv 2) (Zx (jz (pv 3) (pv 5))) YU rfl)))
 case' rd=>
 obtain⟨l,ed,pr⟩:=dc.ord (VP ok);refine λp o M aS=>?_;have S0:Zh p H (upd H p o):=(Zh.refl p H).jq M;generalize upd H p o=H0 at aS S0 ⊢;dsimp only[Zp,av];have W:G≠p:=fi tb.at_ M;have L:d≠p:=fi ed M;have R1:∀{H':Hp},Zh p H H'->gR b H' l1 T.t1:=λs=>tb.pl.pT M s;have n0:=ok.n0;have n1:=ok.n1;refine⟨_,rfl,G,_,_,_,rfl,rfl,gp.of (S0 _ _ tb.at_ W),Zj (j:=1) rfl,?_⟩;refine⟨l1,rfl,⟨_,gp.of (R1 S0).2.choose_spec.1⟩,?_⟩;have ag:∀{H1:Hp}{g:List (MK×V)}{q:Addr}{u:HO},kI P w H1 p g->H1 q=none->kI P w (upd H1 q u) p g:=λ{H1 g q u}dm hq=>by
  have bT:H1 p≠none:=by obtain⟨xs,e,_⟩:=dm;rw[e];exact λz=>nomatch z
  exact dm.keeps (Zf (λz=>bT (z▸hq))) λc ys e=>by rw[Zf (fi e hq)];exact e
 refine Yc (J:=oi K l1) T.t1.length (λi σ H'=>Zh p H H'/\(∃g,kI P w H' p g/\g.length<=51*i)/\∃o:Nat->Option V,σ=[some (.ref G),some (.ref d),some (.ref p),o 3,o 4,o 5,o 6,o 7,o 8,o 9]) ?_ (λi σ H' R q=>?_) (λσ H' q=>?_) (λi σ H' v H3 R q N=>?_) (λσ H' q=>?_)
 .exact⟨S0,⟨[],aS,Nat.zero_le _⟩,j9 rfl⟩
 .exact(R1 q.1).go R
 .exact(R1 q.1).stop
 .obtain⟨s1,⟨g,dm,O⟩,o,rfl⟩:=q;have F:T.t1[i]∈T.t1:=aB R;obtain⟨rfl,a,rfl,na,ha⟩:=(R1 s1).item (gE R) N;obtain⟨⟨z,r⟩,er,gz,cx⟩:=Xp ok F;rw[er]at ha;refine⟨a,_,rfl,hO.of ha,rfl,?_⟩;dsimp only[Zp,av];refine⟨_,_,rfl,_,_,rfl,rfl,?_⟩;dsimp only[Zp,av];refine td λD' b0=>?_;refine⟨_,rfl,G,_,_,_,rfl,rfl,gp.of (s1 _ _ tb.at_ W),Zj (j:=0) rfl,_,_,rfl,rfl,_,rfl,rfl,.inr ⟨_,rfl,_,_,rfl,rfl,.inl ⟨by omega,by omega⟩,?_⟩⟩;have a3:0<=(T.n+1)*(if decide (X8 r=.non)=true then 1 else 0)/\(T.n+1)*(if decide (X8 r=.non)=true then 1 else 0)<=51:=by by_cases e:X8 r=.non<;>simp[e]<;>omega
  refine⟨_,rfl,by omega,by omega,?_⟩;generalize (T.n+1)*(if decide (X8 r=.non)=true then 1 else 0)=cn at a3 ⊢;refine Yc (J:=qS 0 cn.toNat) cn.toNat (λj σ H'=>Zh p H H'/\(∃g,kI P w H' p g/\g.length<=51*i+j)/\∃o:Nat->Option V,σ=[some (.ref G),some (.ref d),some (.ref p),some (.str z),o 4,o 5,o 6,o 7,o 8,o 9]) ?_ (λj σ H' hj q=>hj) (λσ H' q=>Nat.le_refl _) (λj σ H' v H4 hj q N=>?_) (λσ H' q=>?_)
  .exact⟨s1,⟨g,dm,O⟩,j9 rfl⟩
  .obtain⟨s2,⟨y,C,Y⟩,o2,rfl⟩:=q;obtain⟨rfl,rfl⟩:=N;dsimp only[Zp,av];refine td λD2 hd2=>?_;refine⟨_,rfl,_,rfl,_,rfl,Nat.le_trans (by decide:2<=1000) (by decide),λq hq=>?_⟩;refine⟨p,y,.inr [.inr z,.inl (0+(j:Int))],rfl,ag C hq,⟨q,rfl,Zd⟩,Nat.lt_of_le_of_lt (by have:=Jo ok;omega:y.length<=100000) (by rw[cW];decide),λo3 cc=>?_⟩;refine hd2 _ _ ⟨(s2.jq hq).put,⟨_,cc,Nat.le_trans JE (by omega)⟩,j9 rfl⟩
  .obtain⟨s2,⟨y,C,Y⟩,o2,rfl⟩:=q;exact b0 _ _ ⟨s2,⟨y,C,by omega⟩,j9 rfl⟩
 .obtain⟨s1,⟨g,dm,O⟩,o,rfl⟩:=q;have ck:=(Jo ok).1;have cf:=Pb ok;have cm:=aV pr;refine⟨_,rfl,G,_,_,_,rfl,rfl,gp.of (s1 _ _ tb.at_ W),Zj (j:=0) rfl,_,rfl,_,rfl,T.n,-2,rfl,⟨by omega,by omega,by omega⟩,?_⟩;refine Yc (J:=uS T.n (T.n - -2).toNat) (T.n - -2).toNat (λi σ H'=>Zh p H H'/\(∃g,kI P w H' p g/\g.length<=1000+20000*i)/\∃o:Nat->Option V,σ=[some (.ref G),some (.ref d),some (.ref p),o 3,o 4,o 5,o 6,o 7,o 8,o 9]) ?_ (λi σ H' R q=>R) (λσ H' q=>Nat.le_refl _) (λi σ H' v H3 R q N=>?_) (λσ H' q=>?_)
  .exact⟨s1,⟨g,dm,by omega⟩,j9 rfl⟩
  .clear s1 dm O;obtain⟨s1,⟨g,dm,O⟩,o,rfl⟩:=q;obtain⟨rfl,rfl⟩:=N;dsimp only[Zp,av];refine td λD1 b1=>?_;have aM:=s1 _ _ ed L;refine⟨_,rfl,d,l,rfl,aM,λI=>?_⟩;have ef:upd H3 d (.lG I (.dT l)) d=some (.lG I (.dT l)):=Zd;have ab:kI P w (upd H3 d (.lG I (.dT l))) p g:=dm.keeps (Zf L.symm) λc ys e=>by rw[Zf (hA e aM (λz=>nomatch z))];exact e
   have tf:∀c xs,H c=some (.tup xs)->upd H3 d (.lG I (.dT l)) c=some (.tup xs):=λc xs e=>by rw[Zf (hA e ed (λz=>nomatch z))];exact s1 _ _ e (fi e M)
   have back:∀H',Zh p (upd H3 d (.lG I (.dT l))) H'->Zh p H (upd H' d (.dT l)):=λH' s c u e hc=>by
    by_cases h:c=d
    .subst h;rw[ed]at e;cases e;exact Zd
    .rw[Zf h];exact s c u (by rw[Zf h];exact s1 c u e hc) hc
   generalize upd H3 d (.lG I (.dT l))=Hf at ef ab tf back ⊢;refine Yc (J:=vY d I l) l.length (λj σ H'=>Zh p Hf H'/\(∃g,kI P w H' p g/\g.length<=1000+20000*i+j)/\∃o:Nat->Option V,σ=[some (.ref G),some (.ref d),some (.ref p),o 3,o 4,some (.int (T.n-i)),o 6,o 7,o 8,o 9]) ?_ (λj σ H' hj q=>⟨hj,q.1 _ _ ef L⟩) (λσ H' q=>⟨rfl,q.1 _ _ ef L⟩) (λj σ H' v H4 hj q N=>?_) (λσ H' q=>?_)
   .exact⟨Zh.refl p Hf,⟨g,ab,O⟩,j9 rfl⟩
   .clear dm ab O;obtain⟨s2,⟨g,dm,O⟩,o,rfl⟩:=q;obtain⟨rfl,kb,kv,ak,Z,rfl⟩:=N;have aC:j<(ic T).length:=by omega
    have F:(ic T)[j]∈ic T:=aB aC;obtain⟨ek,iv⟩:=ZI pr ak (gE aC);generalize (ic T)[j]=S at F ek iv;obtain⟨js,is⟩:=Yz ok F;obtain⟨nt,nh⟩:=MW is;obtain⟨zw,a6,a5⟩:=LY is;have tp:∀c xs,H c=some (.tup xs)->H4 c=some (.tup xs):=λc xs e=>s2 _ _ (tf c xs e) (fi e M);obtain⟨ta,v0,v1,v2,v3,ev,bM,i0,i1,_,e3⟩:=RR iv;have a0:=tp _ _ bM;have X:=Qb nt tp i0;have a4:=Qb nh tp i1;have bb:=Gz (by rw[Jp pr];exact Gq ok) ak;dsimp only[Zp,av];refine td λD2 hd2=>?_;refine⟨_,rfl,_,rfl,d,kv.2,rfl,.inr ⟨l,kv.1,kb,.inr ⟨I,s2 _ _ ef L⟩,rfl,Z,bb.symm⟩,?_⟩;refine⟨ta,_,ev,hO.of a0,rfl,?_⟩;dsimp only[Zp,av];refine⟨_,_,rfl,_,_,rfl,_,_,rfl,_,_,rfl,rfl,?_⟩;dsimp only[Zp,av];have skip:∀U,(∃o:Nat->Option V,U=[some (.ref G),some (.ref d),some (.ref p),o 3,o 4,some (.int (T.n-i)),o 6,o 7,o 8,o 9])->D2.nx U H4:=λU e5=>hd2 _ _ ⟨s2,⟨g,dm,by omega⟩,e5⟩;refine⟨_,rfl,_,rfl,p,g,ZF S.head,rfl,dm.rd,V7 nh a4,_,rfl,?_⟩;refine ia (λeh=>?_) (λ_=>skip _ (j9 rfl));have done:∀c:Bool,if c=true then Eu P w (lC 2) (lC 7) (tC (V.bl true)) D2 [some (.ref G),some (.ref d),some (.ref p),o 3,some v2,some (.int (T.n-i)),some (.ref kb),some v0,some v1,some v3] H4 else El D2 [some (.ref G),some (.ref d),some (.ref p),o 3,some v2,some (.int (T.n-i)),some (.ref kb),some v0,some v1,some v3] H4:=λc=>by refine ia (λ_=>?_) (λ_=>skip _ (j9 rfl));refine⟨_,rfl,_,rfl,p,g,ZF S.tail,rfl,dm,V7 nt X,Nat.lt_of_le_of_lt (by omega:g.length<=2000000) (by rw[cW];decide),λo5 cb=>?_⟩;exact hd2 _ _ ⟨s2.put,⟨_,cb,Nat.le_trans JE (by omega)⟩,j9 rfl⟩
    rw[ek]at Z;refine⟨_,rfl,kb,_,_,_,rfl,rfl,hO.of Z,a6,rfl,_,rfl,?_⟩;refine ia (λ_=>?_) (λeo=>?_)
    .exact⟨_,rfl,_,_,rfl,rfl,_,rfl,done _⟩
    .obtain⟨sa,si,et⟩:=a5 (λz=>eo (by rw[z];exact decide_eq_true rfl));rw[et]at X;cases X with
    |@tup tt ys _ bx r=>
     cases r with
    |cons h1 r=>
     cases r with
    |cons h2 r=>
     cases r;cases h1;cases h2;exact⟨_,rfl,tt,_,_,_,rfl,rfl,hO.of bx,Zj (j:=1) rfl,_,rfl,rfl,_,rfl,done _⟩
   .obtain⟨s2,⟨y,C,Y⟩,o2,rfl⟩:=q;refine⟨d,I,.dT l,s2 _ _ ef L,(λo' u' z=>by have z':H d=_:=z;rw[ed]at z';cases z'),?_⟩;refine b1 _ _ ⟨back _ s2,⟨y,C.keeps (Zf L.symm) (λc ys e=>by rw[Zf (hA e (s2 _ _ ef L) (λz=>nomatch z))];exact e),by omega⟩,j9 rfl⟩
  .obtain⟨s2,⟨y,C,Y⟩,o2,rfl⟩:=q;refine⟨_,rfl,k _ p y (λc u e=>s2 c u e (fi e M)) M C⟩
end
noncomputable def nI(f:Sx->PyData)(k:MK)(vs:List V)(L:List Sx):List V:=((vs.zip L).filter λp=>decide (ZF (f p.2)=k)).map (·.1)
theorem XO  {vs:List V}{L:List Sx}{v:V}{S:Sx}(a:vs.length=L.length):nI f k (vs++[v]) (L++[S])=nI f k vs L++(if ZF (f S)=k then[v]else[]):=by unfold nI;rw[List.zip_append a,eV,aG];congr 1;show(([(v,S)]:List (V×Sx)).filter _).map _=_;by_cases e:ZF (f S)=k<;>simp[e]
theorem Xh{a:List (MK×V)}{b k:MK}{x:V}(h:f' a b=none):f' (a++[(b,x)]) k=if k=b then some x else f' a k:=by
 have e:putK a b x=a++[(b,x)]:=by unfold putK;rw[YX,h];rfl
 rw[<-e,YW]
structure qT(P:Program)(w:World)(H:Hp)(d:Addr)(f:Sx->PyData)(vs:List V)(L:List Sx)(f5:List (MK×V)):Prop where
 dm:kI P w H d f5
 len:f5.length<=L.length
 no:∀k,f' f5 k=none->nI f k vs L=[]
 yes:∀k v,f' f5 k=some v->∃a,v=.ref a/\H a=some (.lst (nI f k vs L))
 uniq:∀k k' v,f' f5 k=some v->f' f5 k'=some v->k=k'
section
variable {P:Program}{w:World}{H H':Hp}{d:Addr}{f:Sx->PyData}{vs:List V}{L:List Sx}{f5:List (MK×V)}{S:Sx}{v:V}{a q:Addr}
theorem qT.keep(g:qT P w H d f vs L f5)(hd:H' d=H d)(i:∀b c,H b=some (.tup c)->H' b=some (.tup c))(j:∀k a,f' f5 k=some (.ref a)->H' a=H a):qT P w H' d f vs L f5 where
 dm:=g.dm.keeps hd i
 len:=g.len
 no:=g.no
 yes:=λk v h=>by
  obtain⟨a,rfl,e⟩:=g.yes k v h
  exact⟨a,rfl,(j k a h).trans e⟩
 uniq:=g.uniq
theorem kI.lA(g:kI P w H d f5):∃b,H d=some (.ext b):=by obtain⟨xs,e,_⟩:=g;exact⟨_,e⟩
theorem qT.old(g:qT P w H d f vs L f5)(i:vs.length=L.length)(h:f' f5 (ZF (f S))=some (.ref a)):qT P w (upd H a (.lst (nI f (ZF (f S)) vs L++[v]))) d f (vs++[v]) (L++[S]) f5:=by
 obtain⟨r,n⟩:=kI.lA g.dm;obtain⟨x,p,j⟩:=g.yes _ _ h;cases p;have l:d≠a:=hA n j (λz=>nomatch z);refine⟨g.dm.keeps (Zf l) λb s e=>by rw[Zf (hA e j (λz=>nomatch z))];exact e,?_,λk hk=>?_,λk u c=>?_,g.uniq⟩
 .rw[aq];exact Nat.le_trans g.len (Nat.le_add_right _ _)
 .have ne:¬ZF (f S)=k:=λz=>by subst z;rw[h]at hk;cases hk
  rw[XO i,if_neg ne,ba];exact g.no k hk
 .obtain⟨b,rfl,o⟩:=g.yes k u c;by_cases z:ZF (f S)=k
  .subst z;rw[h]at c;cases c;exact⟨a,rfl,by rw[Zd,XO i,if_pos rfl]⟩
  .have nb:b≠a:=λe=>by subst e;exact z (g.uniq _ _ _ h c)
   exact⟨b,rfl,by rw[Zf nb,XO i,if_neg z,ba];exact o⟩
theorem qT.new{o:HO}(g:qT P w H d f vs L f5)(p:vs.length=L.length)(h:f' f5 (ZF (f S))=none)(y:H q=some (.lst []))(n:∀k,f' f5 k≠some (.ref q))(dm:kI P w (upd H d o) d (f5++[(ZF (f S),.ref q)])):qT P w (upd (upd H d o) q (.lst [v])) d f (vs++[v]) (L++[S]) (f5++[(ZF (f S),.ref q)]):=by
 obtain⟨C,A⟩:=kI.lA g.dm;have s:d≠q:=hA A y (λz=>nomatch z);have r:upd H d o q=some (.lst []):=by rw[Zf (bK s)];exact y
 refine⟨dm.keeps (Zf s) λb D e=>by rw[Zf (hA e r (λz=>nomatch z))];exact e,?_,λk hk=>?_,λk u j=>?_,λk x u i c=>?_⟩
 .rw[aq,aq];exact Nat.add_le_add_right g.len 1
 .rw[Xh h]at hk;by_cases z:k=ZF (f S)
  .rw[if_pos z]at hk;cases hk
  .rw[if_neg z]at hk;rw[XO p,if_neg (λe=>z e.symm),ba];exact g.no k hk
 .rw[Xh h]at j;by_cases z:k=ZF (f S)
  .rw[if_pos z]at j;cases j;subst z;exact⟨q,rfl,by rw[Zd,XO p,if_pos rfl,g.no _ h];rfl⟩
  .rw[if_neg z]at j;obtain⟨b,rfl,B⟩:=g.yes k u j;have nb:b≠q:=λe=>by subst e;exact n k j
   refine⟨b,rfl,?_⟩;rw[Zf nb,Zf (hA B A (λz=>nomatch z)),XO p,if_neg (λe=>z e.symm),ba];exact B
 .rw[Xh h]at i c;by_cases z:k=ZF (f S)<;>by_cases l:x=ZF (f S)
  .rw[z,l]
  .rw[if_pos z]at i;rw[if_neg l]at c;cases i;exact absurd c (n x)
  .rw[if_neg z]at i;rw[if_pos l]at c;cases c;exact absurd i (n k)
  .rw[if_neg z]at i;rw[if_neg l]at c;exact g.uniq _ _ _ i c
end
theorem L7    :(nI f k vs L).length<=L.length:=by unfold nI;rw[lm];refine Nat.le_trans (bN _ _) ?_;rw[List.length_zip];exact Nat.min_le_right _ _
section
variable {P:Program}{w:World}{H:Hp}{d q:Addr}{f:Sx->PyData}{vs:List V}{L:List Sx}{f5:List (MK×V)}{S:Sx}{v vt:V}{Q:Hp->Prop}
noncomputable def Rest(H:Hp)(d:Addr)(f5:List (MK×V))(H':Hp):Prop:=∀c o,H c=some o->c≠d->(∀k,f' f5 k≠some (.ref c))->H' c=some o
noncomputable def Ax(H:Hp)(f5 yf:List (MK×V)):Prop:=∀k a,f' yf k=some (.ref a)->(∃k',f' f5 k'=some (.ref a))\/H a=none
theorem KN(g:qT P w H d f vs L f5)(y:vs.length=L.length)(F:Is H vt (f S))(nl:NL (f S))(j:H q=none)(k:∀H' i,qT P w H' d f (vs++[v]) (L++[S]) i->Rest H d f5 H'->Ax H f5 i->Q H'):kI P w (upd H q (.lst [])) d f5/\qQ (upd H q (.lst [])) (ZF (f S)) vt /\(∀u,f' f5 (ZF (f S))=some u->∃a xs,u=.ref a/\upd H q (.lst []) a=some (.lst xs)/\xs.length<=L.length/\Q (upd (upd H q (.lst [])) a (.lst (xs++[v])))) /\(f' f5 (ZF (f S))=none->∀o,kI P w (upd (upd H q (.lst [])) d o) d (f5++[(ZF (f S),.ref q)])->upd (upd H q (.lst [])) d o q=some (.lst [])/\Q (upd (upd (upd H q (.lst [])) d o) q (.lst [v]))):=by
 have s1:fy H (upd H q (.lst [])):=sameNew (fy.refl H) j;have r:upd H q (.lst []) q=some (.lst []):=Zd;obtain⟨I,B⟩:=kI.lA g.dm;have C:∀k,f' f5 k≠some (.ref q):=λk h=>by obtain⟨a,p,e⟩:=g.yes k _ h;cases p;rw[j]at e;cases e
 have g1:qT P w (upd H q (.lst [])) d f vs L f5:=g.keep (Zf (fi B j)) (λb J e=>s1 _ _ e) λk a h=>by obtain⟨b,G,e⟩:=g.yes k _ h;cases G;exact Zf (fi e j)
 have out:∀c o,H c=some o->upd H q (.lst []) c=some o/\c≠q:=λc o e=>⟨s1 _ _ e,fi e j⟩;generalize upd H q (.lst [])=H1 at *;refine⟨g1.dm,V7 nl (F.same s1),λu n=>?_,λx o dm=>?_⟩
 .obtain⟨a,rfl,p⟩:=g1.yes _ _ n;refine⟨a,_,rfl,p,L7,k _ f5 (g1.old y n) (λc o e hd A=>?_) λl b h=>.inl ⟨l,h⟩⟩;have E:c≠a:=λz=>by subst z;exact A _ n
  rw[Zf E];exact(out c o e).1
 .have D:q≠d:=hA r (s1 _ _ B) (λz=>nomatch z);refine⟨by rw[Zf D];exact r,k _ _ (g1.new y x r C dm) (λc s e hd A=>?_) λl b h=>?_⟩
  .rw[Zf (out c s e).2,Zf hd];exact(out c s e).1
  .rw[Xh x]at h;by_cases z:l=ZF (f S)
   .rw[if_pos z]at h;cases h;exact .inr j
   .rw[if_neg z]at h;exact .inl ⟨l,h⟩
end
noncomputable def j7(H:Hp):List V->List Sx->Prop:=bZ λv S=>∃k:Addr,v=.ref k/\H k=some (.tup (S.key.map kV))
theorem j7.tup{H H':Hp}{ks:List V}{L:List Sx}(s:∀c xs,H c=some (.tup xs)->H' c=some (.tup xs))(h:j7 H ks L):j7 H' ks L:=Paired.mY h λ_ _⟨k,e,q⟩=>⟨k,e,s _ _ q⟩
theorem j7.len   (h:j7 H ks L):ks.length=L.length:=aV h
structure t_(P:Program)(w:World)(H:Hp)(T:Tb)(p:Addr)(vs:List V)(L:List Sx)(f5:List (MK×V)):Prop where
 g:qT P w H p Sx.tail vs L f5
 kl:j7 H vs L
 all:∀S∈L,S∈ic T
 len:L.length<=18200
noncomputable def Eo(P:Program)(w:World):Sp:=λvs H Q _=>∃(b pw l1 l2 l3 l4 d:Addr)(T:Tb),vs=[.ref pw,.ref d]/\nr b H pw T l1 l2 l3 l4/\hI T/\Dc H d (ic T) /\∀H' p us L f5,fy H H'->H p=none->t_ P w H' T p us L f5->Q (.ref p) H'
section
variable {P:Program}{w:World}{K:ae}{mg:Str->Option Value}{base:Heap}
theorem Xo:fx [kR,jF,"_law_hopeful_here",qc,"_law_key"] [kR,jF] (Ze T.k9):=jX
theorem Lz(CH:hY P w K mg base 1 "_law_hopeful" [kR,jF] (W0 P w))(D:Df K mg "_law_onward" T.k9 [kR,jF]):hY P w K mg base 2 "_law_onward" [kR,jF] (Eo P w):=by
 refine D.cn Xo λf b1 A outer s H vs Q E hr h=>?_;obtain⟨b,pw,l1,l2,l3,l4,d,T,rfl,tb,ok,dc,k⟩:=h;refine' ⟨_,(Za (st 2 Xo.nd (cn CH hr (jz (pv 0) (pv 1)))) (Za (st 3 Xo.nd Sq) (Za ?h8 (Zc (Zk (pv 3)))))),?rd⟩;case' h8=>refine' (Sl (ZX aL rfl (PD (pv 1)) (jG 4 Xo.nd) (Zc ?h5)))
 case' h5=>refine' (ZA (Zo (Q5 (Z0 hr)) (it K (YR (Z0 hr) (pv 1) (pv 4) (λ_ _=>rfl)) Zb) (pv 2) (by with_unfolding_all rfl)) (Zc ?h4) Zn)
 case' h4=>refine' (Z9 (Vx bD bu bt YS (Fg iZ PySem.F.type_dict_setdefault (KY (Z0 hr)) (pv 3) (jz (it K (YR (Z0 hr) (pv 1) (pv 4) (λ_ _=>rfl)) Zb) (ZD Zl))) (ju (pv 4))))
 case' rd=>
 obtain⟨i,ed,pr⟩:=dc.ord (VP ok);refine⟨_,rfl,_,rfl,b,pw,l1,l2,l3,l4,d,T,rfl,tb,ok,dc,λH1 R M S1 b0 G=>?_⟩;dsimp only[Zp,av];refine λp o X a0=>?_;have S2:fy H (upd H1 p o):=S1.trans λc u e=>by rw[Zf (fi e X)];exact e
 have y:kI P w (upd H1 p o) R M:=G.keeps (Zf (by obtain⟨I,e⟩:=kI.lA G;exact fi e X)) λc ys e=>by rw[Zf (fi e X)];exact e
 have C:H p=none:=by
  cases e:H p with
 |none=>rfl
 |some u=>rw[S1 _ _ e]at X;cases X
 have a5:R≠p:=by obtain⟨I,e⟩:=kI.lA G;exact fi e X
 generalize upd H1 p o=B at a0 S2 y ⊢;clear G X S1;dsimp only[Zp,av];have U:d≠p:=fi ed C;have a3:=Pb ok;have a6:=aV pr;have ag:=S2 _ _ ed;refine⟨_,rfl,d,i,rfl,ag,λr=>?_⟩;have Y:upd B d (.lG r (.dT i)) d=some (.lG r (.dT i)):=Zd;have tf:∀c xs,B c=some (.tup xs)->upd B d (.lG r (.dT i)) c=some (.tup xs):=λc xs e=>by rw[Zf (hA e ag (λz=>nomatch z))];exact e
 have ak:kI P w (upd B d (.lG r (.dT i))) p []:=a0.keeps (Zf U.symm) tf;have x:kI P w (upd B d (.lG r (.dT i))) R M:=y.keeps (Zf (by obtain⟨I,e⟩:=kI.lA y;exact hA e ag (λz=>nomatch z))) tf;have tH:∀c xs,H c=some (.tup xs)->upd B d (.lG r (.dT i)) c=some (.tup xs):=λc xs e=>tf _ _ (S2 _ _ e);have back:∀H',Zh p (upd B d (.lG r (.dT i))) H'->fy H (upd H' d (.dT i)):=λH' s c u e=>by
  by_cases h:c=d
  .subst h;rw[ed]at e;cases e;exact Zd
  .rw[Zf h];exact s c u (by rw[Zf h];exact S2 c u e) (fi e C)
 have pf:∃I,upd B d (.lG r (.dT i)) p=some (.ext I):=kI.lA ak;generalize upd B d (.lG r (.dT i))=Hf at Y tf ak x tH back pf ⊢;refine Yc (J:=vY d r i) i.length (λj σ H'=>Zh p Hf H'/\(∃us l,qT P w H' p Sx.tail us (((ic T).take j).filter λS=>(f' M (ZF S.head)).isSome) l/\j7 H' us (((ic T).take j).filter λS=>(f' M (ZF S.head)).isSome)/\∀k a,f' l k=some (.ref a)->Hf a=none)/\∃o,σ=[some (.ref pw),some (.ref d),some (.ref R),some (.ref p),o]) ?_ (λj σ H' hj q=>⟨hj,q.1 _ _ Y U⟩) (λσ H' q=>⟨rfl,q.1 _ _ Y U⟩) (λj σ H' v H4 hj q yl=>?_) (λσ H' q=>?_)
 .exact⟨Zh.refl p Hf,⟨[],[],⟨ak,Nat.zero_le _,λk _=>rfl,λk v h=>by simp[f']at h,λk k' v h=>by simp[f']at h⟩,.nil,λk a h=>by simp[f']at h⟩,_,rfl⟩
 .obtain⟨s2,⟨us,l,g,W,nw⟩,o,rfl⟩:=q;obtain⟨rfl,kb,kv,aM,aS,rfl⟩:=yl;have Z:j<(ic T).length:=by omega
  have O:(ic T)[j]∈ic T:=aB Z;obtain⟨ek,iv⟩:=ZI pr aM (gE Z);have e0:(ic T)[j]?=some (ic T)[j]:=gE Z;rw[YG _ _ e0];generalize (ic T)[j]=S at O ek iv;obtain⟨js,is⟩:=Yz ok O;obtain⟨nt,nh⟩:=MW is;have tp:∀c xs,H c=some (.tup xs)->H4 c=some (.tup xs):=λc xs e=>s2 _ _ (tH c xs e) (fi e C);obtain⟨ta,v0,v1,v2,v3,ev,bT,i0,i1,_,e3⟩:=RR iv;have N:=tp _ _ bT;have bx:=Qb nt tp i0;have bb:=Qb nh tp i1;have bM:=Gz (by rw[Jp pr];exact Gq ok) aM;have dg:j8 H4 d (.ref kb) (some kv.2):=.inr ⟨i,kv.1,kb,.inr ⟨r,s2 _ _ Y U⟩,rfl,aS,bM.symm⟩;rw[ev]at dg;have a4:kI P w H4 R M:=x.keeps (by obtain⟨I,e⟩:=kI.lA x;rw[e];exact s2 _ _ e a5) λc ys e=>s2 _ _ e (by obtain⟨I,e'⟩:=pf;exact hA e e' (λz=>nomatch z));dsimp only[Zp,av];refine td λD2 hd2=>?_;refine⟨_,rfl,_,rfl,d,_,rfl,dg,ta,_,_,_,rfl,rfl,hO.of N,Zj (j:=1) rfl,_,rfl,R,M,ZF S.head,rfl,a4.rd,V7 nh bb,_,rfl,?_⟩;refine Z7 (λeh=>?_) (λeh=>?_)
  .rw[if_pos eh]at hd2;have l1:=W.len;have l2:(((ic T).take j).filter λS=>(f' M (ZF S.head)).isSome).length<=18200:=Nat.le_trans (bN _ _) (by rw[aN];omega);generalize (((ic T).take j).filter λS=>(f' M (ZF S.head)).isSome)=L at g W hd2 l1 l2;have sz:∀{n:Nat},n<=18200->n<sizeLine:=λh=>Nat.lt_of_le_of_lt h (by decide);refine⟨_,rfl,⟨p,l,rfl,g.dm.rd⟩,_,rfl,_,rfl,d,_,rfl,dg,ta,_,_,_,rfl,rfl,hO.of N,Zj (j:=0) rfl,zl,λq hq=>?_⟩;have om:=KN (v:=.ref kb) (Q:=λH9=>D2.nx [some (.ref pw),some (.ref d),some (.ref R),some (.ref p),some (.ref kb)] H9) g l1 bx nt hq λH' k' g' r' li=>?_
   .refine⟨p,l,ZF S.tail,v0,.ref q,rfl,rfl,om.1,om.2.1,sz (Nat.le_trans g.len l2),λu hu=>?_,λhn o ho=>?_⟩
    .obtain⟨a,xs,rfl,ea,la,ab⟩:=om.2.2.1 u hu;exact⟨.inl ⟨rfl,_,gp.of ea⟩,_,rfl,a,_,_,rfl,rfl,ea,sz (Nat.le_trans la l2),ab⟩
    .obtain⟨eq,ab⟩:=om.2.2.2 hn o ho;exact⟨.inl ⟨rfl,_,gp.of eq⟩,_,rfl,q,_,_,rfl,rfl,eq,sz (Nat.zero_le _),ab⟩
   .have s5:Zh p Hf H':=λc o e hc=>r' c o (s2 c o e hc) hc λk z=>by rw[nw k c z]at e;cases e
    have tk:∀c xs,H4 c=some (.tup xs)->H' c=some (.tup xs):=λc xs e=>r' c _ e (by obtain⟨I,e'⟩:=kI.lA g.dm;exact hA e e' (λz=>nomatch z)) λk z=>by obtain⟨a,ea,el⟩:=g.yes k _ z;cases ea;rw[e]at el;cases el
    refine hd2 _ _ ⟨s5,⟨us++[.ref kb],k',g',cA (W.tup tk) ⟨kb,rfl,tk _ _ (by rw[<-ek];exact aS)⟩,λk a h=>?_⟩,_,rfl⟩;rcases li k a h with⟨k2,h2⟩|h2
    .exact nw k2 a h2
    .by_cases z:a=p
     .subst z;obtain⟨I,e'⟩:=kI.lA g.dm;rw[h2]at e';cases e'
     .cases e:Hf a with
     |none=>rfl
     |some u=>rw[s2 _ _ e z]at h2;cases h2
  .rw[if_neg (by rw[eh];exact Bool.false_ne_true),ba]at hd2;exact hd2 _ _ ⟨s2,⟨us,l,g,W,nw⟩,_,rfl⟩
 .obtain⟨s2,⟨us,l,g,W,nw⟩,o,rfl⟩:=q;rw[a6,aP]at g W;refine⟨d,r,.dT i,s2 _ _ Y U,(λo' u' z=>by have z':H d=_:=z;rw[ed]at z';cases z'),?_⟩;have aC:∀c ys,H' c=some (.tup ys)->upd H' d (.dT i) c=some (.tup ys):=λc ys e=>by rw[Zf (hA e (s2 _ _ Y U) (λz=>nomatch z))];exact e
  refine⟨_,rfl,k _ p us _ l (back _ s2) C ⟨g.keep (Zf U.symm) aC (λk a h=>Zf (λz=>by have:=nw k a h;rw[z,Y]at this;cases this)),W.tup aC,λS hS=>(dM.mp hS).1,Nat.le_trans (bN _ _) a3⟩⟩
noncomputable def jK(g:Str)(J:List Sx):MK:=match J.getLast? with
|none=>.inl (.inr g)
|some S=>ZF S.head
theorem Vp(g:Str)(J:List Sx)(S:Sx):jK g (J++[S])=ZF S.head:=by unfold jK;simp
structure qP(T:Tb)(g:Str)(J:List Sx):Prop where
 all:∀S∈J,S∈ic T
 ch:∀(i:Nat)S,J[i]?=some S->ZF S.tail=jK g (J.take i)
theorem qP.nil(T:Tb)(g:Str):qP T g []:=⟨(λ_ h=>by cases h),λi S h=>by simp at h⟩
theorem qP.snoc   {S:Sx}(h:qP T g J)(b:S∈ic T)(e:ZF S.tail=jK g J):qP T g (J++[S]):=by
 refine⟨λX a=>?_,λi X a=>?_⟩
 .rcases aF.mp a with q|q
  .exact h.all X q
  .rw[aI]at q;rw[q];exact b
 .rcases Nat.lt_or_ge i J.length with hi|hi
  .rw[cu hi]at a;rw[jf (Nat.le_of_lt hi)];exact h.ch i X a
  .have:i=J.length:=by
    rcases Nat.eq_or_lt_of_le hi with z|z
    .exact z.symm
    .rw[cv (by simp;omega)]at a;cases a
   subst this;rw[cg (Nat.le_refl _),Nat.sub_self]at a;cases a;rw[jf (Nat.le_refl _),aP];exact e
noncomputable def mu(n:Int):MK->Int
|.inl _=>n+2
|.inr [_,.inl i]=>n+1-i
|_=>0
theorem LZ (o:hI T){S:Sx}(h:S∈ic T):mu T.n (ZF S.head)+1<=mu T.n (ZF S.tail)/\1<=mu T.n (ZF S.head):=by
 obtain⟨j,is⟩:=Yz o h;rcases is with⟨y,g,i,e,q,p,_,rfl⟩|⟨y,g,e,_,rfl⟩|⟨y,g,i,e,q,p,_,rfl⟩|⟨y,g,i,e,h0,q,p,_,rfl⟩
 .obtain⟨a,b,c,d,rfl,ga,r,u,s,_⟩:=YE o g;have:iA [V.str a,.str b,.int c,.int d] 2=c:=rfl;rw[this]at q;show T.n+1-i+1<=T.n+2/\1<=T.n+1-i;omega
 .obtain⟨a,b,d,c,l,f,rfl,ga,r,v,u,s,D,f0,f1⟩:=UD o g;show T.n+1-l+1<=T.n+1-c/\1<=T.n+1-l;omega
 .obtain⟨a,b,c,d,l,rfl,ga,r,x,C,B,A,z⟩:=GZ o g;have:iA [V.str a,.str b,.str c,.int d,.int l] 3=d:=rfl;rw[this]at p;show T.n+1-(i+d)+1<=T.n+1-i/\1<=T.n+1-(i+d);omega
 .show T.n+1-(i+1)+1<=T.n+1-i/\1<=T.n+1-(i+1);omega
theorem qP.len (o:hI T) (h:qP T g J):(J.length:Int)+mu T.n (jK g J)<=T.n+2/\1<=mu T.n (jK g J):=by
 have f:=o.n0;have:∀m,m<=J.length->(m:Int)+mu T.n (jK g (J.take m))<=T.n+2/\1<=mu T.n (jK g (J.take m)):=by
  intro m;induction m with
 |zero=>intro _;show((0:Nat):Int)+(T.n+2)<=T.n+2/\1<=T.n+2;omega
 |succ m c=>intro hm;obtain⟨j,i⟩:=c (by omega);have a:J[m]?=some J[m]:=gE (by omega);have d:=h.ch m _ a;obtain⟨b,e⟩:=LZ o (h.all _ (aB (by omega:m<J.length)));rw[a9,a];show _+mu T.n (jK g (J.take m++[J[m]]))<=_/\1<=mu T.n (jK g (J.take m++[J[m]]));rw[Vp];rw[d]at b;push_cast;omega
 have:=this J.length (Nat.le_refl _);rwa [aP]at this
theorem E6 (o:hI T){S:Sx}(h:S∈ic T) (b:Is H v (dF S.room)):v=.non\/∃r,v=.int r:=by
 obtain⟨j,is⟩:=Yz o h;rcases is with⟨y,a,i,e,f,d,_,rfl⟩|⟨y,a,e,_,rfl⟩|⟨y,a,i,e,f,d,_,rfl⟩|⟨y,a,i,e,h0,f,d,_,rfl⟩
 .cases b;exact .inl rfl
 .cases b;exact .inr ⟨_,rfl⟩
 .cases b;exact .inr ⟨_,rfl⟩
 .obtain⟨⟨z,r⟩,rfl,l,g⟩:=Xp o a;cases r with
 |none=>exact absurd rfl h0
 |some r=>have c:Is H v (dF (V.int r)):=b;cases c;exact .inr ⟨_,rfl⟩
theorem Pn    (h:j7 H us L):j7 H (nI Sx.tail k us L) (L.filter λS=>decide (ZF S.tail=k)):=by
 induction h with
|nil=>exact .nil
|@cons v S vs L q t a=>
  have e:nI Sx.tail k (v::vs) (S::L)=(if ZF S.tail=k then[v]else[])++nI Sx.tail k vs L:=by
   unfold nI;rw[iH,List.filter_cons];by_cases z:ZF S.tail=k
   .rw[if_pos (by simpa using z),if_pos z];rfl
   .rw[if_neg (by simpa using z),if_neg z];rfl
  rw[e,List.filter_cons];by_cases z:ZF S.tail=k
  .rw[if_pos z,if_pos (by simpa using z)];exact .cons q a
  .rw[if_neg z,if_neg (by simpa using z)];exact a
theorem TM   (h:j7 H us L):∀v∈us,∃a,v=.ref a:=by
 induction h with
|nil=>intro v hv;cases hv
|cons q t b=>
  intro v hv;rcases au.mp hv with rfl|hv
  .obtain⟨a,e,_⟩:=q;exact⟨a,e⟩
  .exact b v hv
theorem Kj{xs:List V}(h:∀v∈xs,∃a,v=.ref a) (c:Zv H b)(e:H b=some (.lst xs)):False:=by obtain⟨x,y,z,d⟩:=c;rw[d]at e;cases e;obtain⟨a,f⟩:=h (.int x) (by simp);cases f
theorem t_.same        (h:t_ P w H T p us L d)(i:Zv H b)(s:Zh b H H'):t_ P w H' T p us L d:=by
 obtain⟨x,y,z,j⟩:=id i;have f:∀c xs,H c=some (.tup xs)->H' c=some (.tup xs):=λc xs e=>s _ _ e (hA e j (λz=>nomatch z));refine⟨h.g.keep ?_ f λk a l=>?_,h.kl.tup f,h.all,h.len⟩
 .obtain⟨o,e⟩:=kI.lA h.g.dm;rw[e];exact s _ _ e (hA e j (λz=>nomatch z))
 .obtain⟨q,n,e⟩:=h.g.yes k _ l;cases n;rw[e];refine s _ _ e λz=>?_;subst z;exact Kj (TM (Pn h.kl)) i e
noncomputable def K3(a:Addr)(H:Hp):Nat:=match H a with
|some (.lst xs)=>xs.length
|_=>0
theorem P6 {H:Hp}(h:H a=some (.lst xs)):K3 a H=xs.length:=by unfold K3;rw[h]
structure vP(T:Tb)(g:Str)(J:List Sx):Prop where
 p:qP T g J
 yD:SW T (jK g J)
noncomputable def WX(P:Program)(w:World):Sp:=λvs H Q _=>∃(b p d pl:Addr)(g:Str)(T:Tb)(us:List V)(L:List Sx)(f5:List (MK×V)),vs=[.ref b,.ref p,.ref d,.str g,.ref pl]/\Zv H b/\t_ P w H T p us L f5/\hI T/\Dc H d (ic T)/\H pl=some (.dT []) /\∀H' l ks J,Zv H' b->Zh b H H'->H l=none->H' l=some (.lst ks)->j7 H' ks J->qP T g J->Q (.ref l) H'
theorem Eh{xs:List V}{v:V}:kZ (xs++[v]) (-1)=some v:=by
 have h:sH (xs++[v]).length (-1)=some xs.length:=by unfold sH;rw[if_neg (by decide),aq];simp;omega
 unfold kZ;rw[h];simp
theorem YH:fx [jE,sF,jF,sE,rH,qm,"_law_node","_law_some"] [jE,sF,jF,sE,rH] (Ze T.j6):=jX
noncomputable def Xm:Scope:=tG [(".0",.local),("_law_key",.local),(rH,.free),(jF,.free)]
theorem Vt:jm Xm (Ze T.j6):=⟨rfl,by decide +kernel,by decide +kernel,by decide +kernel⟩
theorem Vv:(["_law_key",rH,jF]:List Str).Nodup:=by decide +kernel
theorem Vu:ji [jE,sF,jF,sE,rH,qm,"_law_node","_law_some"] Xm ["_law_key",rH,jF] [none,some 4,some 2]:=.mk' (by decide +kernel)
theorem Wq(B:∀x∈jO,mg x=none)(CT:hY P w K mg base 1 qo [jE,mR] Xi)(D:Df K mg "_law_journey" T.j6 [jE,sF,jF,sE,rH]):hY P w K mg base 2 "_law_journey" [jE,sF,jF,sE,rH] (WX P w):=by
 refine D.cn YH λf cR A outer s H vs Q E hr h=>?_;obtain⟨b,p,d,pl,g,T,us,L,bT,rfl,hb,M,ok,dc,b4,k⟩:=h;refine' ⟨_,(Za (st 5 YH.nd (ZD Zl)) (Za (st 6 YH.nd (pv 3)) (Za ?cC (Zc (Zk (pv 5)))))),?rd⟩;case' cC=>refine' (Kr aL (Zo (Q5 (Z0 hr)) (pv 6) (pv 1) (by with_unfolding_all rfl)) (Za ?h8 (Za ?h9 (Za ?cG (Zc ?cE)))))
 case' cE=>refine' (st 6 YH.nd ?h7)
 case' cG=>refine' (Z9 (Vx bD bu bt YS (pv 5) (ju ?h5)))
 case' h9=>refine' (ZA (Zo (PQ hr.units) (pv 7) (ZD Zl) (Zt _)) (Zc (Zk (ZD Zl))) Zn)
 case' h8=>refine' (NG (i:=7) YH.nd rfl (cV rfl) (scope:=Xm) (N:=["_law_key",rH,jF]) (cp:=[none,some 4,some 2]) rfl Vt Vu (Yd (Sr (Z0 hr) (pv 1) (pv 6) (λ_ _=>rfl))) (λC s H ex pn=>(jG 0 Vv)) (λC s H ex pn=>(Vm (PW.pt (YK (Zo UH (it K (YR (Z0 hr) (pv 2) (pv 0) (λ_ _=>rfl)) Zb) ZJ (Zt _)) (YJ (Zo G4 (G2 (Z0 hr) (pv 1) (pv 0) Zb ⟨rfl,rfl,rfl,rfl⟩) (it K (YR (Z0 hr) (pv 2) (pv 0) (λ_ _=>rfl)) Zb) (Zt _))))))) (λC s H ex pn=>(pv 0)))
 case' h7=>refine' (it K (YR (Z0 hr) (pv 2) (il K (pv 5) (MU Uw Zb)) (λ_ _=>rfl)) Zb)
 case' h5=>refine' (il K (pv 7) (cn CT hr (jz (pv 0) (Zw (r:=j_ K) ZG rfl (bm B) aT (ju (pv 7))))))
 case' rd=>
 refine⟨zl,λlk hk=>?_⟩;dsimp only[Zp,av];obtain⟨ak,ed,pr⟩:=dc.ord (VP ok);obtain⟨cY,cX,cT,eb⟩:=id hb;have nk:lk≠b:=hb.ne hk;have a4:∀{H':Hp},Zh b H H'->∀c xs,H c=some (.tup xs)->H' c=some (.tup xs):=λs c xs e=>s _ _ e (hA e eb (λz=>nomatch z));have look:∀(H':Hp)(o:Addr)(S:Sx),Zh b H H'->S∈ic T->H' o=some (.tup (S.key.map kV))->∃ta v0 v1 v2 v3,j8 H' d (.ref o) (some (.ref ta))/\H' ta=some (.tup [v0,v1,v2,v3])/\Is H' v1 S.head/\(v2=.non\/∃r,v2=.int r):=λH' o S s hS u=>by
  obtain⟨j,hj⟩:=aJ.mp hS;have ck:=aV pr;have cB:j<ak.length:=by rw[ck];exact(aj.mp hj).1
  have b2:=gE cB;obtain⟨ek,iv⟩:=ZI pr b2 hj;obtain⟨js,is⟩:=Yz ok hS;obtain⟨nt,nh⟩:=MW is;obtain⟨ta,v0,v1,v2,v3,ev,O,i0,i1,i2,e3⟩:=RR iv;have b0:=Gz (by rw[Jp pr];exact Gq ok) b2;rw[ev,ek]at b0;exact⟨ta,v0,v1,v2,v3,.inr ⟨ak,S.key,o,.inl (s _ _ ed (hA ed eb (λz=>nomatch z))),rfl,u,b0.symm⟩,a4 s _ _ O,Qb nh (a4 s) i1,E6 ok hS i2⟩
 have cf:pl≠b:=hA b4 eb (λz=>nomatch z);refine⟨_,rfl,?_⟩;dsimp only[Zp,av];refine WJ (λσ H'=>Zv H' b/\Zh b H H'/\∃ks J nv o7,H' lk=some (.lst ks)/\j7 H' ks J/\qP T g J/\qQ H' (jK g J) nv/\σ=[some (.ref b),some (.ref p),some (.ref d),some (.str g),some (.ref pl),some (.ref lk),some nv,o7]) (λσ H'=>60-K3 lk H') ?_ (λσ H3 q=>?_) (λσ H' Q Q' hq h=>?_)
 .exact⟨hb.new hk,(Zh.refl b H).jq hk,[],[],_,_,Zd,.nil,qP.nil T g,rfl,rfl⟩
 .obtain⟨bx,sm,ks,J,nv,o7,Y,kl,aS,ky,rfl⟩:=q;have I:=M.same hb sm;have hlen:=aS.len ok;have n1:=ok.n1;have cK:=kl.len;refine⟨_,rfl,_,rfl,p,bT,jK g J,rfl,I.g.dm.rd,ky,_,rfl,?_⟩;refine Z7 (λev=>?_) (λev=>?_)
  .obtain⟨v,hv⟩:=bw.mp ev;obtain⟨a,rfl,ea⟩:=I.g.yes _ _ hv;refine my λD1 cx cP=>?_;have sk:=Pn (k:=jK g J) I.kl;have a6:=sk.len;have a5:∀S∈L.filter λS=>decide (ZF S.tail=jK g J),S∈L/\ZF S.tail=jK g J:=λS hS=>by simpa using dM.mp hS
   have cc:(L.filter λS=>decide (ZF S.tail=jK g J)).length<=18200:=Nat.le_trans (bN _ _) M.len;generalize (L.filter λS=>decide (ZF S.tail=jK g J))=Lk at sk a6 a5 cc;generalize nI Sx.tail (jK g J) us L=xs at ea sk a6;refine⟨_,rfl,_,rfl,p,bT,jK g J,_,rfl,I.g.dm.rd,ky,hv,a,rfl,⟨_,gp.of ea⟩,?_⟩;refine JS (J:=oi K a) xs.length (Nat.le_trans (by omega:xs.length<=18200) (by decide)) (λi n τ H'=>H'=H3/\n.length<=i/\(∃G,j7 H3 n G/\∀S∈G,S∈L/\ZF S.tail=jK g J)/\∃v,τ=[v,some (.ref pl),some (.ref d)]) ⟨rfl,Nat.le_refl _,⟨[],.nil,by simp⟩,none,rfl⟩ (λi n τ H' q=>q.2.1) (λi n τ H' hi q=>?_) (λn τ H' q=>?_) (λi n τ H' x H4 hi q yl=>?_) (λn τ H' q ls U=>?_)
   .obtain⟨rfl,_⟩:=q;exact⟨_,xs[i],gp.of ea,gE hi⟩
   .obtain⟨rfl,_⟩:=q;exact⟨_,gp.of ea,Nat.le_refl _⟩
   .obtain⟨rfl,hl,⟨G,R,ab⟩,v,rfl⟩:=q;obtain⟨rfl,hy⟩:=yl;have hx:=hy _ (gp.of ea);have b3:i<Lk.length:=by omega
    obtain⟨o,rfl,u⟩:=ZI sk hx (gE b3);obtain⟨F,W⟩:=a5 _ (aB b3);generalize Lk[i]=S at u F W;obtain⟨ta,v0,v1,v2,v3,dg,O,i1,cm⟩:=look _ o S sm (M.all S F) u;have aC:=sm _ _ b4 cf;dsimp only[Zp,av];have fin:∀c:Bool,if c=true then lC 0 [some (.ref o),some (.ref pl),some (.ref d)] H4 (λy cb=>cb=H4/\(n++[y]).length<=i+1/\(∃G,j7 H4 (n++[y]) G/\∀S∈G,S∈L/\ZF S.tail=jK g J)/\∃v,([some (.ref o),some (.ref pl),some (.ref d)]:L2.St)=[v,some (.ref pl),some (.ref d)])else H4=H4/\n.length<=i+1/\(∃G,j7 H4 n G/\∀S∈G,S∈L/\ZF S.tail=jK g J)/\∃v,([some (.ref o),some (.ref pl),some (.ref d)]:L2.St)=[v,some (.ref pl),some (.ref d)]:=λc=>by
     refine ia (λ_=>?_) (λ_=>⟨rfl,by omega,⟨G,R,ab⟩,_,rfl⟩);refine⟨_,rfl,rfl,by rw[aq];show n.length+1<=_;omega,⟨G++[S],cA R ⟨o,rfl,u⟩,λX hX=>?_⟩,_,rfl⟩;rcases aF.mp hX with q|q
     .exact ab X q
     .rw[aI]at q;rw[q];exact⟨F,W⟩
    refine⟨_,rfl,_,rfl,d,_,rfl,dg,ta,_,_,_,rfl,rfl,hO.of O,Zj (j:=2) rfl,rfl,_,rfl,?_⟩;refine ia (λ_=>fin true) (λe=>?_);obtain⟨r,rfl⟩:∃r,v2=.int r:=by
     rcases cm with rfl|h
     .exact absurd (decide_eq_true rfl) e
     .exact h
    exact⟨_,rfl,pl,rfl,.inr ⟨[],.inl aC⟩,_,rfl,none,.inr ⟨[],S.key,o,.inl aC,rfl,u,rfl⟩,_,rfl,_,rfl,d,_,rfl,dg,ta,_,_,_,rfl,rfl,hO.of O,Zj (j:=2) rfl,_,_,rfl,rfl,_,rfl,fin _⟩
   .obtain⟨rfl,hl,⟨G,R,ab⟩,v,rfl⟩:=q;dsimp only[Zp,av];refine cx _ _ ?_;have S5:Zh b H' (upd H' ls (.lst n)):=(Zh.refl b H').jq U;have B5:Zv (upd H' ls (.lst n)) b:=bx.new U;have e5:upd H' ls (.lst n) ls=some (.lst n):=Zd;have bM:=bx.ne U;have cI:ls≠lk:=λz=>by rw[z,Y]at U;cases U
    generalize upd H' ls (.lst n)=H5 at S5 B5 e5 ⊢;have t5:∀c xs,H' c=some (.tup xs)->H5 c=some (.tup xs):=λc xs e=>S5 _ _ e (by obtain⟨x,y,z,e'⟩:=bx;exact hA e e' (λz=>nomatch z));refine⟨_,rfl,zl,λle he=>?_⟩;dsimp only[jn];have S6:Zh b H5 (upd H5 le (.lst [])):=(Zh.refl b H5).jq he;have B6:Zv (upd H5 le (.lst [])) b:=B5.new he;have e6:upd H5 le (.lst []) le=some (.lst []):=Zd;generalize upd H5 le (.lst [])=H6 at S6 B6 e6 ⊢;have Z:=S6 _ _ e5 bM;refine⟨ls,le,n,rfl,rfl,gp.of Z,e6,_,rfl,?_⟩;have b5:=sm.trans (S5.trans S6);refine ia (λ_=>?_) (λee=>?_)
    .exact⟨zl,λlr ag=>k _ lr [] [] (B6.new ag) (b5.jq ag) (JN b5 ag (B6.ne ag)) Zd .nil (qP.nil T g)⟩
    .have cN:0<n.length:=by
      cases n with
     |nil=>exact absurd rfl ee
     |cons a l=>simp
     have b6:=S6 _ _ (S5 _ _ Y nk) nk;have t6:∀c xs,H' c=some (.tup xs)->H6 c=some (.tup xs):=λc xs e=>S6 _ _ (t5 c xs e) (by obtain⟨x,y,z,e'⟩:=B5;exact hA (t5 c xs e) e' (λz=>nomatch z));refine⟨_,rfl,.inl ⟨rfl,_,gp.of b6⟩,_,rfl,_,rfl,_,rfl,ls,_,rfl,.inl (gp.of Z),b,_,rfl,B6,by omega,Nat.lt_trans ((Nat.log2_lt (by omega)).mpr (by show(n.length:Int).natAbs<2 ^ 15;omega)) (by decide),λr7 H7 r0 r1 B7 S7=>?_⟩;obtain⟨v7,cH,m7⟩:=at_of (xs:=n) r0 r1;obtain⟨m,hm⟩:=aJ.mp m7;have b1:m<G.length:=by rw[<-R.len];exact(aj.mp hm).1
     obtain⟨o,rfl,u⟩:=ZI R hm (gE b1);obtain⟨F,W⟩:=ab _ (aB b1);generalize G[m]=S at u F W;have a0:Zh b H' H7:=(S5.trans S6).trans S7;have t7:∀c xs,H' c=some (.tup xs)->H7 c=some (.tup xs):=λc xs e=>a0 _ _ e (by obtain⟨x,y,z,e'⟩:=bx;exact hA e e' (λz=>nomatch z));have aM:=a0 _ _ Y nk;refine⟨ls,_,_,_,rfl,rfl,gp.of (S7 _ _ Z bM),cH,?_⟩;refine⟨lk,ks,_,rfl,rfl,aM,Nat.lt_of_le_of_lt (by omega:ks.length<=1000) (by decide),?_⟩;have e8:upd H7 lk (.lst (ks++[.ref o])) lk=some (.lst (ks++[.ref o])):=Zd;have a3:Zh b H (upd H7 lk (.lst (ks++[.ref o]))):=XU (sm.trans a0) (Zh.refl b H) nk hk;have B8:Zv (upd H7 lk (.lst (ks++[.ref o]))) b:=Zv.lD B7 nk;have t8:∀c xs,H' c=some (.tup xs)->upd H7 lk (.lst (ks++[.ref o])) c=some (.tup xs):=λc xs e=>by rw[Zf (hA (t7 c xs e) aM (λz=>nomatch z))];exact t7 c xs e
     generalize upd H7 lk (.lst (ks++[.ref o]))=H8 at e8 a3 B8 t8 ⊢;obtain⟨ta,v0,v1,v2,v3,dg,O,i1,_⟩:=look H8 o S a3 (M.all S F) (t8 _ _ u);obtain⟨js,is⟩:=Yz ok (M.all S F);refine⟨_,rfl,_,rfl,_,rfl,lk,_,_,_,rfl,rfl,gp.of e8,Eh,d,_,rfl,dg,ta,_,_,_,rfl,rfl,hO.of O,Zj (j:=1) rfl,?_⟩;dsimp only[Zp,av];refine⟨⟨B8,a3,ks++[.ref o],J++[S],v1,_,e8,cA (kl.tup t8) ⟨o,rfl,t8 _ _ u⟩,aS.snoc (M.all S F) W,by rw[Vp];exact V7 (MW is).2 i1,rfl⟩,?_⟩;rw[P6 e8,P6 Y,aq];show 60-(ks.length+1)<60-ks.length;omega
  .exact⟨_,rfl,k _ lk ks J bx sm hk Y kl aS⟩
 .obtain⟨v,e,v',e',a,kv,kk,h1,h2,h3,bb,h4,h5⟩:=h;exact⟨v,e,v',e',a,kv,kk,h1,h2,h3,bb,h4,hq _ _ h5⟩
end
end SX
namespace L2
open PySem PySem.Spec PyProof.Rows
section
variable {X:Cx}
noncomputable def xy:R2:=λx y H Q=>∃a o,y=.ref a/\j8 H a x o/\Q (.bl o.isSome) H
theorem KG(d:X.A.units+1<cLine):lV X (bE .In) xy:=by intro pins s σ H x y v u Q I c b h;obtain⟨a,o,rfl,g,q⟩:=h;cases b;exact vG d I g c λs3 e=>⟨.bl o.isSome,H,e,rfl,q⟩
end
section
variable {P:Program}{w:World}{A:bh}{E:Value->ai->Prop}{s:ai}
theorem EF{a:Array DictEntry}{xs:List (List Key×Addr×Value)}(h:a.toList=xs.map (jb (bQ (Zz P w))))(i:Nat):a[i]?=(xs[i]?).map (jb (bQ (Zz P w))):=by rw[<-dQ,h,aY]
theorem QQ{a b:Addr}{xs e:List (List Key×Addr×Value)}{id:String}{Q:Bool->ai->Prop}(L:(bQ (Zz P w)).room A)(O:(a==bC)=false)(N:(b==bC)=false)(U:s.heap.DictOfH (bQ (Zz P w)) a xs)(db:s.heap.DictOfH (bQ (Zz P w)) b e)(M:xs.length=e.length)(J:∀x∈xs,∀(j:Nat)(p:Addr×Value),e[j]?=some (x.1,p)->∃n t u,x.2.2=Value.int n t/\p.2=Value.int n u)(hm:∀x∈xs,∃(j:Nat)(p:Addr×Value),e[j]?=some (x.1,p))(h:Q true s):wpAny (model P w) A (dh id a b) Q E s:=by
 obtain⟨oa,d,pa,a1,a2,r,G,Y,a6⟩:=U;obtain⟨ob,R,Z,B,b2,z,v,X,W⟩:=db;have F:d.size=xs.length:=by rw[<-bX,G,lm]
 have H:R.size=e.length:=by rw[<-bX,v,lm]
 unfold dh jh;rw[O,N];refine aa (ah (aa (ah ?_)));refine aa (bY a1 r (aa (bY B z ?_)));rw[if_neg (by simp[F,H,M])];refine aa (b8 a1 r (aa ?_));rw[Std.Legacy.Range.forIn_eq_forIn_range'];refine g9 _ (λrest C s'=>s'=s/\C=(none,())/\∃i,rest=hZ i (d.size-i)/\i<=d.size) _ ?_ ?_ _ _ ⟨rfl,rfl,0,by simp[Std.Legacy.Range.size],Nat.zero_le _⟩
 .rintro x rest C s' ⟨rfl,rfl,i,f,hi⟩;have o:i<d.size:=by
   rcases Nat.lt_or_ge i d.size with h|h
   .exact h
   .rw[Nat.sub_eq_zero_of_le h]at f;cases f
  obtain⟨m,em⟩:∃m,d.size-i=m+1:=⟨d.size-i-1,by omega⟩;rw[em,List.range'_succ]at f;injection f with I f;subst I;have l:x<xs.length:=F▸o;have g:=gE l;refine aa (bY a1 r ?_);rw[EF G,g];have c:xs[x]∈xs:=aB l;generalize xs[x]=y at g c ⊢;refine aa (aU (aa ?_));refine wpAny_dictFind_heap (knd:=bQ (Zz P w)) (k:=y.1) (xs:=e) L (Y y c) B z v X W (λD=>?_) (λj p q=>?_)
  .obtain⟨j,p,q⟩:=hm y c;exact absurd q (D j p)
  .refine aa (bY B z ?_);rw[EF v,q];refine aU ?_;obtain⟨n,t,u,T,S⟩:=J y c j p q;show wpAny (model P w) A (eqBool y.2.2 p.2) _ E s';rw[T,S];refine SeqAt.EqAt.int_int n t n u _ _ _ _ ?_;rw[beq_self_eq_true];refine aa (b8 a1 r ?_);rw[if_neg (by simp)];exact ah ⟨rfl,rfl,x+1,by rw[f];congr 1;omega,o⟩
 .rintro C s' ⟨rfl,rfl,_⟩;exact ah h
theorem Nl{xs:List (List Key×Addr×Value)}(a:(xs.map (·.1)).Nodup){x:List Key×Addr×Value}(h:x∈xs):atKey xs x.1=some x.2:=by obtain⟨i,b⟩:=aJ.mp h;exact atKey_of_get a b
theorem Tx{xs:List (List Key×Addr×Value)}{k:List Key}{p:Addr×Value}(h:atKey xs k=some p):(k,p)∈xs:=by unfold atKey at h;obtain⟨q,a,rfl⟩:=bV.mp h;have:=List.find?_some a;rw[<-of_decide_eq_true this];exact List.mem_of_find?_eq_some a
theorem Tf{a b:Value}{Q:Value×Value->ai->Prop}(c:(["clear","keys","values","items","popitem","__reversed__","__iter__","__repr__","pop","setdefault","update","__init__","__setitem__","__delitem__","__ior__"].contains n)=false)(h:Q (a,b) s):wpAny (model P w) A (fJ n {pos:=[a,b]}) Q E s:=by unfold fJ i5;rw[c];exact aa (ah (aa (ah (ah h))))
theorem Lq  {wd:Bool}{Q:PySem.Fin->ai->Prop}{B:Sem PySem.Fin}(d:(["clear","keys","values","items","popitem","__reversed__","__iter__","__repr__","pop","setdefault","update","__init__","__setitem__","__delitem__","__ior__"].contains n)=false)
  (f:B=(do
   let x <-fJ n {pos:=[.ref a,.ref b]}
   match x with
  |(self,other)=>do
    let i <-i_ other (Value.type "dict")
    if(!i)=true then do
     rule (toString "dict."++toString n++toString ".not-a-dict")
     ret Value.notImplemented
    else do
     let u <-Builtin.Dict.addrOf self
     let v <-Builtin.Dict.addrOf other
     let r <-dh (toString "dict."++toString n) u v
     ret (Value.bool (r==wd))))
  (c:s.TypeIs (.ref b) "dict") (h:∀id,wpAny (model P w) A (dh id a b) (λr s'=>Q (.done (.ret (.bool (r==wd)))) s') E s):wpAny (model P w) A B Q E s:=by
 subst f
 refine aa (Tf d ?_)
 refine aa (fN c isSubtype_dict_dict ?_)
 refine aa (ah (aa (ah (aa ?_))))
 exact cj (h _) (λr s' q=>ah q) λ_ _ e=>e
end
section
variable {X:Cx}
noncomputable def zF(H:Hp)(x y:V):Prop:=∃(a b:Addr)(f5 ye:List (List Key×V)),x=.ref a/\y=.ref b/\H a=some (.dT f5)/\H b=some (.dT ye)/\f5.length=ye.length/\∀k v,f' f5 k=some v->∃n,v=.int n/\f' ye k=some v
theorem T8{pins:List (Addr×Obj)}{σ:St}{H:Hp}{s:ai}{E:Value->ai->Prop}{A:bh}{x y:V}{u v:Value}(P:(bQ (Zz X.prog X.w)).room A)(I:Inv X pins σ H s)(h:zF H x y)(J:RelV x u)(G:RelV y v):∃a b,u=.ref a/\v=.ref b/\s.TypeIs (.ref a) "dict"/\s.TypeIs (.ref b) "dict"/\∀(id:String)(Q:Bool->ai->Prop),Q true s->wpAny (model X.prog X.w) A (dh id a b) Q E s:=by
 obtain⟨a,b,r,ab,rfl,rfl,Z,Y,hl,hk⟩:=h;cases J;cases G;obtain⟨z1,D,xs,d,f⟩:=Qk I.hL Z;obtain⟨z2,hd2,g,c,e⟩:=Qk I.hL Y;have l1:=aV d;have l2:=aV c;have N:(xs.map (·.1)).Nodup:=by obtain⟨_,_,_,_,_,_,_,_,n⟩:=f;exact n
 have C:(g.map (·.1)).Nodup:=by obtain⟨_,_,_,_,_,_,_,_,n⟩:=e;exact n
 have key:∀x∈xs,∃v n t p u,atKey g x.1=some p/\v=V.int n/\x.2.2=Value.int n t/\p.2=Value.int n u:=λx o=>by
  have e1:atKey xs x.1=some x.2:=Nl N o;have l:=d.val x.1;rw[e1]at l;obtain⟨v,O,L⟩:∃v,f' r x.1=some v/\RelV v x.2.2:=by
   cases q:f' r x.1 with
  |none=>rw[q]at l;exact absurd l (by simp[kf])
  |some v=>rw[q]at l;exact⟨v,rfl,l⟩
  obtain⟨n,rfl,hw⟩:=hk _ _ O;have i:=c.val x.1;rw[hw]at i;obtain⟨p,R,M⟩:∃p,atKey g x.1=some p/\RelV (.int n) p.2:=by
   cases q:atKey g x.1 with
  |none=>rw[q]at i;exact absurd i (by simp[kf])
  |some p=>rw[q]at i;exact⟨p,rfl,i⟩
  obtain⟨t,W⟩:=L;obtain⟨u,U⟩:=M;exact⟨_,n,t,p,u,R,rfl,W,U⟩
 refine⟨a,b,rfl,rfl,f.typeIs,e.typeIs,λid Q q=>QQ P D hd2 f e (by omega) (λx o j p B=>?_) (λx o=>?_) q⟩
 .obtain⟨v,n,t,F,u,z,_,T,S⟩:=key x o;have:atKey g x.1=some p:=Nl C (aK B);rw[this]at z;cases z;exact⟨n,t,u,T,S⟩
 .obtain⟨v,n,t,F,u,z,_⟩:=key x o;obtain⟨j,B⟩:=aJ.mp (Tx z);exact⟨j,F,B⟩
end
end L2
namespace L2
open PySem PySem.Spec PyProof.Rows PySem.SeqAt
open AutoSeq1 (wpAny_loadPart')
open MeetsSeq MeetsSeq2 MeetsSeq3 SeqRoads2
section
variable {X:Cx}
inductive rK:V->Prop where
|non:rK .non
|bl (b:Bool):rK (.bl b)
|int (i:Int):rK (.int i)
|str (z:Str):rK (.str z)
|ref (a:Addr):rK (.ref a)
theorem rK.yM   (h:rK v)(r:RelV v u)(c:RelV v d):EqAt A s u d true:=by
 cases h with
|non=>cases r;cases c;exact EqAt.same _
|bl b=>cases r;cases c;exact EqAt.same _
|int i=>obtain⟨t,rfl⟩:=r;obtain⟨t',rfl⟩:=c;have:=EqAt.int_int (A:=A) (s:=s) i t i t';rwa [beq_self_eq_true]at this
|str z=>obtain⟨t,rfl⟩:=r;obtain⟨t',rfl⟩:=c;have:=EqAt.str_str (A:=A) (s:=s) z t z t';rwa [beq_self_eq_true]at this
|ref a=>cases r;cases c;exact EqAt.same _
noncomputable def xB:R2:=λx y H Q=>∃(l b:Addr)(xs:List V),x=.ref l/\y=.ref b/\H l=some (.lst xs)/\H b=some (.lst xs)/\(∀v∈xs,rK v)/\Q (.bl true) H
theorem Pd  (h:Vals xs us):∀(j:Nat)(a:j<us.length),∃v,xs[j]?=some v/\RelV v us[j]:=by
 induction h with
|nil=>intro j a;cases a
|cons r _ b=>
  intro j a;cases j with
 |zero=>exact⟨_,rfl,r⟩
 |succ j=>exact b j (by simpa using a)
theorem KJ(p:X.A.units<cLine):lV X (bE .Eq) xB:=by
 intro pins s σ H x y v u Q I f d h;obtain⟨l,b,xs,rfl,rfl,w,z,r,q⟩:=h;cases f;cases d;obtain⟨o,v1,p1,_⟩:=I.list (gp.of w);obtain⟨n,v2,p2,_⟩:=I.list (gp.of z);have G:=v1.length;have F:=v2.length;refine eq_listAt (e:=λ_=>true) p1.isList p2.isList (by simp;omega) p (λj C B=>?_) ⟨.bl true,H,I,?_,q⟩
 .have c:j<o.length:=by simpa using C
  have a:j<n.length:=by simpa using B
  obtain⟨E,a1,i⟩:=Pd v1 j c;obtain⟨D,a2,g⟩:=Pd v2 j a;rw[a1]at a2;cases a2;exact rK.yM (r _ (aK a1)) (by simpa using i) (by simpa using g)
 .show Value.bool _=Value.bool true;simp
end
section
variable {P:Program}{w:World}
noncomputable abbrev SU(P:Program)(w:World)(A:bh)(R:Result->ai->Prop)(t:Sem PySem.Fin)(s:ai):Prop:=wpAny (model P w) A.in1 t (λfin s'=>match fin with|.done f=>R (.ok f) s'|.again c'=>c'.quiet=true/\gO (model P w) A c' R s') (λe s'=>R (.error e) s') s
noncomputable abbrev rC(s:ai)(l:Addr)(us:Array Value)(n:Nat)(dd:Option Addr)(sl:Array (Option Value)):Prop:=s.heap.get? l=some {cls:=.type "list",dict:=dd,data:=.seq us n,slots:=sl}
theorem Hr{l b:Addr}{us vs:Array Value}{n m:Nat}{dl db:Option Addr}{d e:Array (Option Value)}{R:Result->ai->Prop}{A:bh}{s:ai}(i:Nat)(a:us.size<=i)(hz:us.size=vs.size)(gl:rC s l us n dl d)(c:rC s b vs m db e)(q:R (.ok (.ret (.bool true))) s):SU P w A R (cU.«list.__eq__.loop» ⟨[.ref l,.ref b,c_ i,c_ 2],[]⟩) s:=by
 obtain⟨s1,s2,s3,s4,s5⟩:=s;unfold SU;wp_walk using bO gl,bO c;have nl:us[((i:Nat):Int).toNat]?=none:=Array.getElem?_eq_none (by simpa using a);have nb:vs[((i:Nat):Int).toNat]?=none:=Array.getElem?_eq_none (by rw[<-hz];simpa using a);rw[nl,nb];wp_walk using bO gl,bO c;have z:(us.size==vs.size)=true:=by rw[hz];exact beq_self_eq_true _
 show R (.ok (.ret (.bool (us.size==vs.size)))) _;rw[z];exact q
theorem eq_go{l b:Addr}{us vs:Array Value}{n m:Nat}{dl db:Option Addr}{c d:Array (Option Value)}{R:Result->ai->Prop}{A:bh}{s:ai}(i:Nat)(x y:Value)(f:us[i]?=some x)(e:vs[i]?=some y)(g:us.size<=i+1)(hz:us.size=vs.size)(gl:rC s l us n dl c)(a:rC s b vs m db d)(he:∀(E:Value->ai->Prop)(Q:Bool->ai->Prop),Q true s->wpAny (model P w) A.in1 (eqBool x y) Q E s)(q:R (.ok (.ret (.bool true))) s):SU P w A R (cU.«list.__eq__.loop» ⟨[.ref l,.ref b,c_ i,c_ 2],[]⟩) s:=by
 obtain⟨s1,s2,s3,s4,s5⟩:=s;unfold SU;wp_walk using bO gl,bO a;have nl:us[((i:Nat):Int).toNat]?=some x:=by simpa using f
 have nb:vs[((i:Nat):Int).toNat]?=some y:=by simpa using e
 rw[nl,nb];refine aa (he _ _ ?_);wp_walk;rw[show((i:Int)+1)=((i+1:Nat):Int)from rfl];refine⟨i7 plain_eq_loop _,iw entry_eq_loop ?_⟩;rw[fA plain_eq_loop _];exact Hr (i+1) g hz gl a q
theorem K2{l b:Addr}{us vs:Array Value}{n m:Nat}{dl db:Option Addr}{e f:Array (Option Value)}{x y:Value}(a:us=#[x])(c:vs=#[y]):MeetsIn P w (cU.«list.__eq__» ⟨[.ref l,.ref b],[]⟩) (λA R s=>rC s l us n dl e/\rC s b vs m db f/\(∀(E:Value->ai->Prop)(Q:Bool->ai->Prop),Q true s->wpAny (model P w) A.in1 (eqBool x y) Q E s)/\R (.ok (.ret (.bool true))) s):=by
 intro A R s h;obtain⟨s1,s2,s3,s4,s5⟩:=s;obtain⟨gl,d,he,q⟩:=h;have g:=AutoSeq1.sub_list_list;have hz:us.size=vs.size:=by rw[a,c];rfl
 have i:¬(us.size != vs.size)=true:=by simp[hz]
 wp_walk using bO gl,bO d;refine⟨i7 plain_eq_loop _,iw entry_eq_loop ?_⟩;rw[fA plain_eq_loop _];exact eq_go 0 x y (by rw[a];rfl) (by rw[c];rfl) (by rw[a];exact Nat.le_refl _) hz gl d he q
end
section
variable {X:Cx}
noncomputable def Ad:R2:=λx y H Q=>∃(l b p q:Addr),x=.ref l/\y=.ref b/\H l=some (.lst [.ref p])/\H b=some (.lst [.ref q])/\p≠q/\zF H (.ref p) (.ref q)/\Q (.bl true) H
theorem Ds(hu:X.A.units+2<cLine):lV X (bE .Eq) Ad:=by
 intro pins s σ H x y v u Q I G D h;obtain⟨l,b,p,q,rfl,rfl,O,i,j,z,M⟩:=h;cases G;cases D;obtain⟨i1,v1,⟨⟨c1,Z,ag,W⟩,n1,g1,g,w,e⟩,_⟩:=I.list (gp.of O);obtain⟨i2,v2,⟨⟨c2,Y,ab,U⟩,n2,g2,f,r,d⟩,_⟩:=I.list (gp.of i);simp only at g w e f r d;subst g e f d;obtain⟨u1,rfl,L⟩:=vals1 v1;obtain⟨u2,rfl,J⟩:=vals1 v2;cases L;cases J;show wpAny _ _ (richCompare .Eq (.ref l) (.ref b)) _ _ _;refine wpAny_richCompare_same_room (op:=.Eq) (T:="list") ⟨_,g1,rfl⟩ ⟨_,g2,rfl⟩ F.slot_list_eq ?_ (by omega);refine call_meetsIn F.slot_list_eq ⟨_,g1,rfl⟩ F.entry_list_eq (F.args_list_eq_2 _ _) (K2 (x:=.ref p) (y:=.ref q) rfl rfl) ⟨g1,g2,λS Q' N=>?_,nofun,.bl true,H,I,rfl,M⟩;unfold eqBool;refine aU ?_;refine wpAny_ite_split (λo=>absurd (by have:=eq_of_beq o;injection this) j) (λ_=>?_);refine aa ?_;have c:X.A.in1.units+1<cLine:=by have:X.A.in1.units=X.A.units+1:=rfl;omega
 obtain⟨a,b',R,P,C,B,go⟩:=T8 (E:=S) (A:=X.A.in1.in1) (fu c) I z (u:=.ref p) (v:=.ref q) rfl rfl;cases R;cases P;refine wpAny_richCompare_same_room (op:=.Eq) (T:="dict") (id:="dict.__eq__") C B F.slot_dict_eq ?_ (Nat.lt_of_succ_lt c);refine bF F.slot_dict_eq C F.entry_dict_eq ?_ (F.args_dict_eq_2 _ _);have i:(["clear","keys","values","items","popitem","__reversed__","__iter__","__repr__","pop","setdefault","update","__init__","__setitem__","__delitem__","__ior__"].contains "__eq__")=false:=by decide
 refine Lq (n:="__eq__") (wd:=true) i rfl B (λid=>?_);exact go id _ ⟨_,rfl,nofun,bo N⟩
end
end L2
namespace L2
open PySem PySem.Spec PyProof.Rows
section
variable {prog:Program}{w:World}{A:bh}{E:Value->ai->Prop}{s:ai}
theorem TN{a:Addr}{xs:Array Value}{k:Nat}{n:Array (Option Value)}{Q:Option Value->ai->Prop}(i:s.heap.get? a=some {cls:=.type "list",data:=.seq xs k,slots:=n})(r:A.handled=none)(h:∀(h':Heap)(f:Nat),(∀b o,s.heap.get? b=some o->h'.get? b=some o)->Q none {s with heap:=h',toks:=f}):wpAny (model prog w) A (getAttr? (.ref a) (Str.ofString "keys")) Q E s:=by obtain⟨p,g,d,f,os⟩:=s;have j:∀x,Shared.TypeIs {heap:=p,gens:=g,drawn:=d,toks:=x,os:=os} (.ref a) "list":=λx=>⟨_,i,rfl⟩;have y:=F.slot_list_getattribute.lookup;have f4:=F.slot_list_getattribute.bind (Value.ref a);have v:=am_list_getattr_none;unfold getAttr?;refine aa ?_;unfold mkText;refine aa (wpAny_fresh' (ah ?_));unfold getAttrBy?;refine aa (dB ?_);unfold getAttrBy;refine aU (aa (fC (j _) ?_));refine aa (iM y ?_);refine ip rfl ?_;unfold getAttrByItsOwn;refine aa ?_;unfold hookBefore;refine ip rfl (ah ?_);refine aa (dB (aU ?_));unfold callGetattribute;refine ip rfl ?_;refine aa (iM f4 ?_);refine call_meets F.slot_list_getattribute (j _) am_entry_list_getattribute (F.args_list_getattribute_2 _ _) (meets_getattribute_miss_list a xs k _ (Str.ofString "keys") _ (by rfl) (by decide)) ⟨i,r,λh' c e q=>?_⟩;obtain⟨keeps,new,⟨t,u,there⟩⟩:=q;have l:∀x,Shared.TypeIs {heap:=h',gens:=g,drawn:=d,toks:=x,os:=os} (.ref e) "AttributeError":=λx=>⟨_,there,rfl⟩;show wpAny _ _ (getattributeRaised _ _ _ _ _ _ _) _ _ _;unfold getattributeRaised;refine aa (fN (b:=true) (l _) sub_AttributeError ?_);refine fD rfl ?_;refine aa ?_;unfold hookBehind;refine ip rfl (iM v ?_);unfold hookOrError;dsimp only;unfold attributeErrorLeaves;refine fD rfl (aa (wpAny_throw ?_));show wpAny _ _ (i_ _ _ >>= _) _ _ _;refine aa (fN (b:=true) (l _) sub_AttributeError ?_);refine fD rfl (ah ?_);exact h h' c keeps
theorem Sy{h h':Heap} (x:lX prog w h k v)(e:∀b o,h.get? b=some o->h'.get? b=some o):lX prog w h' k v:=by
 rcases k with k|ks
 .exact x
 .obtain⟨a,rfl,o,items,n,g,f,d,c⟩:=x;exact⟨a,rfl,o,items,n,e _ _ g,f,d,c⟩
noncomputable def Uy(ps:List (MK×Value×Value)):List (MK×Value×Value):=ps.foldl (λxs p=>mC xs p.1 p.2.1 p.2.2) []
theorem RU:∀(ps:List (MK×Value×Value))(xs:List (MK×Value×Value))x,x∈ps.foldl (λxs p=>mC xs p.1 p.2.1 p.2.2) xs->∃p∈xs++ps,x.1=p.1/\x.2.1=p.2.1
|[],xs,x,h=>⟨x,by simpa using h,rfl,rfl⟩
|p::ps,xs,x,h=>by
  obtain⟨q,hq,b,a⟩:=RU ps _ x h;rcases aF.mp hq with hq|hq
  .unfold mC at hq;dsimp only at hq;split at hq
   .obtain⟨y,c,rfl⟩:=ao.mp hq;refine⟨y,bj _ c,?_⟩;rw[b,a];unfold mZ;split<;>exact⟨rfl,rfl⟩
   .rcases aF.mp hq with hq|hq
    .exact⟨q,bj _ hq,b,a⟩
    .rw[aI]at hq;subst hq;exact⟨p,by simp,b,a⟩
  .exact⟨q,by simp[hq],b,a⟩
theorem RV:∀(ps:List (MK×Value×Value))(xs:List (MK×Value×Value)),(ps.foldl (λxs p=>mC xs p.1 p.2.1 p.2.2) xs).length<=xs.length+ps.length
|[],xs=>by simp
|p::ps,xs=>by
  have:=RV ps (mC xs p.1 p.2.1 p.2.2);have h:(mC xs p.1 p.2.1 p.2.2).length<=xs.length+1:=by
   unfold mC;split
   .rw[lm];omega
   .simp
  rw[gX,aR];omega
theorem M5:entryFor table "dict.update.loop"=some cU.«dict.update.loop»:=entryFor_of_tree (by rfl)
theorem Vn:plainId "dict.update.loop"=true:=by decide +kernel
theorem Wa{h0:Heap}{I l d:Addr}{items:Array Value}{ps:List (MK×Value×Value)}{R:Result->ai->Prop}(hu:A.in1.units<cLine)(hh:A.in1.handled=none)(S:l≠I)(u:d≠I)(O:d≠l)(Q:ps.length=items.size)(hz:ps.length<=sizeLine)(hit:∀(i:Nat)p,ps[i]?=some p->∃a o n,items[i]?=some (.ref a)/\h0.get? a=some o/\o.cls=.type "tuple"/\o.data=.seq #[p.2.1,p.2.2] n)(hk:∀p∈ps,lX prog w h0 p.1 p.2.1)(fr:∀b o,h0.get? b=some o->b≠d/\b≠I):∀(k i:Nat)(j:Int)(s:ai),items.size-i=k->i<=items.size->(∀b o,h0.get? b=some o->s.heap.get? b=some o)->s.heap.IsListIter I l i->s.heap.IsList l items->MD prog w s.heap d (Uy (ps.take i)) ->(∀(h':Heap)(G:Nat),(∀b o,h0.get? b=some o->h'.get? b=some o)->MD prog w h' d (Uy ps)->R (.ok (.ret .none)) {s with heap:=h',toks:=G}) ->gO (model prog w) A (Code.builtin "dict.update.loop" {pos:=[.ref d,.ref I,c_ j,.none],kw:=[]}) R s:=by
 have W:=Walks.list (prog:=prog) (w:=w) (A:=A.in1) hh I l S items;intro k;induction k with
|zero=>
  intro i j s X hi hold it li H L;have e:i=items.size:=by omega
  subst e;refine iw M5 ?_;rw[fA Vn];unfold cU.«dict.update.loop»;refine aa (W.done s _ _ ⟨it,li⟩ λh' G z=>?_);show wpAny _ _ (iV d [] >>= _) _ _ _;unfold iV;refine aa (aa (ah (ah ?_)));refine ah (L h' G (λb o e=>z b o (by simpa using(fr b o e).2) (hold b o e)) ?_);rw[<-Q,aP]at H;obtain⟨o,M,h,B,r⟩:=H;exact⟨o,M,h,z d o (by simpa using u) B,r⟩
|succ k ih=>
  intro i j s X hi hold it li H L;have U:i<items.size:=by omega
  refine iw M5 ?_;rw[fA Vn];unfold cU.«dict.update.loop»;refine aa (W.item i s _ _ U ⟨it,li⟩ λv h' G hv st z=>?_);have g:i<ps.length:=by omega
  have h:ps[i]?=some ps[i]:=gE g;have f:ps[i]∈ps:=aB g;generalize ps[i]=p at h f;obtain⟨a,o,n,ea,B,hc,hd⟩:=hit i p h;rw[ea]at hv;cases hv;have c:∀b o,h0.get? b=some o->h'.get? b=some o:=λb o e=>z b o (by simpa using(fr b o e).2) (hold b o e);have F:=c _ _ B;have P:MD prog w h' d (Uy (ps.take i)):=by obtain⟨o,M,h,B,r⟩:=H;exact⟨o,M,h,z d o (by simpa using u) B,r⟩
  refine aa (aU (aa (wpAny_tryCatch ?_)));unfold Builtin.Dict.pairItems;refine aa (fC (T:="tuple") ⟨o,F,hc⟩ ?_);refine fD rfl ?_;unfold seqItems?;refine aa (aa (wpAny_load F ?_));rw[hd];refine ah (ah ?_);show wpAny _ _ (fT [p.2.1,p.2.2] (dictSet d p.2.1 p.2.2)) _ _ _;refine aU (EC (k:=p.1) hu (Sy (hk p f) c) P (λx hx=>?_) (λh2 Z J=>?_) ?_)
  .obtain⟨q,hq,D,C⟩:=RU _ _ x hx;rw[List.nil_append]at hq;rw[D,C];exact Sy (hk q (br hq)) c
  .refine ah ⟨i7 Vn _,?_⟩;have y:∀b o,h0.get? b=some o->h2.get? b=some o:=λb o e=>J.extBut b o (fr b o e).1 (c b o e);refine ih (i+1) (j+1) _ (by omega) (by omega) y ?_ ?_ ?_ ?_
   .obtain⟨Y,D,C⟩:=st.1;exact⟨Y,J.extBut I Y (bK u) D,C⟩
   .obtain⟨ol,D,C⟩:=st.2;exact⟨ol,J.extBut l ol (bK O) D,C⟩
   .rw[a9,h];unfold Uy at Z ⊢;rw[List.foldl_append];exact Z
   .exact λh3 N=>L h3 N
  .have:=RV (ps.take i) [];rw[aN]at this;unfold Uy;have h0:([]:List (MK×Value×Value)).length=0:=rfl;omega
end
section
variable {X:Cx}
noncomputable def Px(ks:List (MK×V)):List (MK×V):=ks.foldl (λf5 p=>putK f5 p.1 p.2) []
noncomputable def E8(P:Program)(w:World)(K:ae):List V->Hp->VK->Prop:=λxs H Q=>∃(l:Addr)(pk:List V)(ks:List (MK×V)),xs=[.ref l]/\gp K H l pk/\bZ (λv p=>∃(a:Addr)(y:V),v=.ref a/\H a=some (.tup [y,p.2])/\qQ H p.1 y) pk ks/\pk.length<=1000 /\∀d o,H d=none->kI P w (upd H d o) d (Px ks)->Q (.ref d) (upd H d o)
theorem Fv{H:Hp}{ks:List (MK×V)}{ps:List (MK×Value×Value)}{a:List (MK×V)}{xs:List (MK×Value×Value)}(h:bZ (λ(p:MK×V)(q:MK×Value×Value)=>p.1=q.1/\sv H p.1 q.2.1/\RelV p.2 q.2.2) ks ps)(r:KM H a xs):KM H (ks.foldl (λa p=>putK a p.1 p.2) a) (ps.foldl (λxs p=>mC xs p.1 p.2.1 p.2.2) xs):=by
 induction h generalizing a xs with
|nil=>exact r
|@cons p q ks ps h0 _ b=>obtain⟨e,d,c⟩:=h0;rw[gX,gX];refine b ?_;rw[<-e];exact r.put p.1 d c
theorem JE:∀(ks a:List (MK×V)),(ks.foldl (λa p=>putK a p.1 p.2) a).length<=a.length+ks.length
|[],a=>by simp
|p::ks,a=>by have c:=JE ks (putK a p.1 p.2);have b:=YO a p.1 p.2;rw[gX,aR];omega
theorem KD{pins:List (Addr×Obj)}{σ:St}{H:Hp}{s:ai}(I:Inv X pins σ H s){b:List V}{us:List Value}{ks:List (MK×V)}(c:Vals b us)(h:bZ (λv(p:MK×V)=>∃(a:Addr)(y:V),v=.ref a/\H a=some (.tup [y,p.2])/\qQ H p.1 y) b ks):∃ps:List (MK×Value×Value),bZ (λ(p:MK×V)(q:MK×Value×Value)=>p.1=q.1/\sv H p.1 q.2.1/\RelV p.2 q.2.2) ks ps/\bZ (λu(q:MK×Value×Value)=>∃a o n,u=Value.ref a/\s.heap.get? a=some o/\o.cls=.type "tuple"/\o.data=.seq #[q.2.1,q.2.2] n) us ps:=by
 induction h generalizing us with
|nil=>cases c;exact⟨[],.nil,.nil⟩
|@cons v p b ks h0 _ l=>
  cases c with
 |cons r t=>
   obtain⟨ps,D,C⟩:=l t;obtain⟨a,y,e,B,A⟩:=h0;subst e;cases r;obtain⟨vs,c,⟨o,G,F,n,E⟩,_⟩:=I.tuple (hO.of B);obtain⟨x,z,rfl,g,f⟩:∃x z,vs=[x,z]/\RelV y x/\RelV p.2 z:=by
    cases c with
   |cons j t1=>cases t1 with
    |cons i d=>cases d;exact⟨_,_,rfl,j,i⟩
   exact⟨(p.1,x,z)::ps,.cons ⟨rfl,A.val X.prog X.w g,f⟩ D,.cons ⟨a,o,n,rfl,G,F,E⟩ C⟩
theorem G3{α β:Type}{R:α->β->Prop}{a:List α}{b:List β}(h:bZ R a b):∀{i:Nat}{y:β},b[i]?=some y->∃x,a[i]?=some x/\R x y:=by
 induction h with
|nil=>intro i x h;cases h
|cons r _ c=>
  intro i x h;cases i with
 |zero=>cases h;exact⟨_,rfl,r⟩
 |succ i=>obtain⟨u,e,d⟩:=c (i:=i) (y:=x) (by simpa using h);exact⟨u,by simpa using e,d⟩
theorem RI(hu:X.A.units+64<cLine)(hc:X.calm=true):Xf X (.type "dict") (E8 X.prog X.w X.K):=by
 intro pins s σ H xs us Q I r h;obtain⟨l,ak,ks,rfl,Z,J,hl,q⟩:=h;obtain⟨u,rfl,R⟩:=vals1 r;cases R;obtain⟨vs,G,pl,hz⟩:=I.list Z;obtain⟨ps,C,L⟩:=KD I G J;have aC:=G.length;have lp:=aV L;have lk:=aV J;have ag:=aV C;obtain⟨ol,n0,B,cl,dl,P⟩:=pl;refine callType_codes F.kt_called_dict (F.kt_typeCall_dict_1 _) F.entry_dict_init (kt_code_dict_new (Q₁:=λobj s1=>obj=.ref s.heap.objs.size/\s1={s with heap:=s.heap.push {cls:=.type "dict",data:=.dict #[]}}) _ ⟨rfl,rfl⟩) λobj s1⟨e1,e2⟩=>?_;subst e1 e2;have hD:∀(h':Heap),(∀b o,(s.heap.push {cls:=.type "dict",data:=.dict #[]}).get? b=some o->h'.get? b=some o)->MD X.prog X.w h' s.heap.objs.size []:=λh' k=>⟨_,#[],0,k _ _ (Heap.get?_push_size _ rfl),⟨rfl,rfl,rfl⟩,rfl,rfl,fq⟩;refine⟨⟨_,Heap.get?_push_size _ rfl,rfl⟩,F.args_dict_init_2 _ _,?_⟩;have c:∀b o,s.heap.get? b=some o->(s.heap.push {cls:=.type "dict",data:=.dict #[]}).get? b=some o:=λb o e=>Heap.get?_push_of_some _ e;have v:l<s.heap.objs.size:=Heap.lt_size B;generalize g:s.heap.objs.size=S at *;unfold cU.«dict.__init__»;refine aa ?_;unfold Builtin.Dict.selfAndRest;refine aa (fL ⟨_,by rw[<-g];exact Heap.get?_push_size _ rfl,rfl⟩ ?_);refine aa (ah (ah ?_));show wpAny _ _ (i4 _ _ _ _ _) _ _ _;unfold i4;refine aa (fC (T:="list") ⟨ol,c _ _ B,cl⟩ ?_);refine fD rfl ?_;obtain⟨c0,d0,t0,z0⟩:=ol;subst cl dl P;have z:X.A.in1.in1.handled=none:=I.ok.hd hc;refine aa (TN (c _ _ B) z λj ab k1=>?_);refine fD rfl ?_;refine aa (dA ?_);have y:j.IsList l vs.toArray:=⟨_,k1 _ _ (c _ _ B),rfl,_,rfl⟩;refine aa (gQ y ?_);refine ah ⟨i7 Vn _,?_⟩;have f:S<j.objs.size:=Heap.lt_size (k1 S _ (by rw[<-g];exact Heap.get?_push_size _ rfl));have M:∀b o,(s.heap.push {cls:=.type "dict",data:=.dict #[]}).get? b=some o->(j.push {cls:=.type "list_iterator",data:=.fields #[.ref l,.int 0 0]}).get? b=some o:=λb o e=>Heap.get?_push_of_some _ (k1 _ _ e);have tw:X.A.in1.in1.units<cLine:=by show X.A.units+1+1<cLine;omega
 refine Wa (A:=X.A.in1) (h0:=s.heap) (I:=j.objs.size) (l:=l) (d:=S) (items:=vs.toArray) (ps:=ps) tw z (Nat.ne_of_lt (Nat.lt_trans v f)) (Nat.ne_of_lt f) (Nat.ne_of_gt v) (by rw[aw];omega) (Nat.le_trans (by omega:ps.length<=1000) (by decide)) (λi p D=>?_) (λp D=>?_) (λb o e=>?_) vs.toArray.size 0 0 _ (by omega) (Nat.zero_le _) ?_ ?_ ?_ ?_ (λh' tk kk m=>?_)
 .obtain⟨u,E,a,o,n,e,Y,W,U⟩:=G3 L D;subst e;exact⟨a,o,n,by simpa using E,Y,W,U⟩
 .obtain⟨i,hi⟩:=aJ.mp D;obtain⟨x,_,e,j,_⟩:=G3 C hi;rw[<-e];exact j.is I.hL
 .have O:b<S:=g▸Heap.lt_size e;exact⟨Nat.ne_of_lt O,Nat.ne_of_lt (Nat.lt_trans O f)⟩
 .exact λb o e=>M _ _ (c _ _ e)
 .exact⟨_,Heap.get?_push_size _ rfl,rfl,rfl⟩
 .obtain⟨o,e,r⟩:=y;exact⟨o,Heap.get?_push_of_some _ e,r⟩
 .exact hD _ M
 .have keep:∀b o,s.heap.get? b=some o->h'.get? b=some o:=kk;have N:H S=none:=I.hL.fresh (Nat.le_of_eq g);refine⟨rfl,.ref S,upd H S (tV X.prog X.w S (Uy ps)),I.laid keep (Nat.le_of_eq g) (Q7 m),rfl,q _ _ N ⟨_,Zd,?_,?_,?_⟩⟩
  .exact KM.keeps (λb ys e=>(Zf (fi e N)).trans e) (Fv C .nil)
  .have:=JE ks [];exact Nat.le_trans (Nat.le_trans this (by rw[eU];omega:_<=1000)) (by decide)
  .rw[<-g];exact beq_eq_false_iff_ne.mpr (bK (Nat.ne_of_lt I.big))
end
theorem G1{X:Cx}{P:Program}{w:World}{o i:Expr}{pos:Pos}{td ty:TE}(e:X.prog=P)(hw:X.w=w)(a:X.A.units+1<cLine)(c:PE X o td)(d:PE X i ty)(b:su i):PE X (.Subscript o i pos) (Em P w td ty):=by subst e hw;exact Sr a c d b
theorem kI.same{P:Program}{w:World}{H H':Hp}{a:Addr}{c:List (MK×V)}(s:fy H H')(d:kI P w H a c):kI P w H' a c:=d.keeps (by obtain⟨xs,e,_⟩:=d;rw[s _ _ e,e]) λb f e=>s _ _ e
theorem P7{H H':Hp}(c:∀b a,H b=some (.tup a)->H' b=some (.tup a)):∀{k:MK}{y:V},qQ H k y->qQ H' k y
|.inl k,y,x=>x
|.inr ks,y,⟨b,e,d⟩=>⟨b,e,c _ _ d⟩
end L2
namespace SX
open PySem L2 PySem.Spec PyProof.Rows TB WD
theorem Ee:bJ "dict"=some (.type "dict"):=by decide +kernel
theorem ZE{n:Nat}(h:n<=1000):n<=sizeLine:=Nat.le_trans h (by decide)
noncomputable abbrev JT:=Str×Int×List Sx
noncomputable def mf(j:JT):Str×Int:=(j.1,j.2.1)
noncomputable def vQ(lF:Addr)(H:Hp)(v:V)(j:JT):Prop:=∃t lk ks,v=.ref t/\H t=some (.tup [.str j.1,.int j.2.1,.ref lk])/\H lk=some (.lst ks)/\lk≠lF/\j7 H ks j.2.2
theorem vQ.keep{a:Addr}{H H':Hp}{v:V}{j:JT}(h:vQ a H v j)(b:∀c xs,H c=some (.tup xs)->H' c=some (.tup xs))(d:∀c xs,H c=some (.lst xs)->c≠a->H' c=some (.lst xs)):vQ a H' v j:=by obtain⟨t,lk,ks,e,g,i,nl,f⟩:=h;exact⟨t,lk,ks,e,b _ _ g,d _ _ i nl,nl,f.tup b⟩
structure tN(T:Tb)(j:JT):Prop where
 jr:vP T j.1 j.2.2
 ne:j.2.2≠[]
 gr:∃y∈T.t4,nameOf y=j.1/\0<=j.2.1/\j.2.1<iA y 3
structure JW(T:Tb)(j:JT):Prop where
 gs:GS j.1
 all:∀S∈j.2.2,S∈ic T
 ne:j.2.2≠[]
 len:j.2.2.length<=52
noncomputable def R4(P:Program)(w:World)(K:ae):Sp:=λvs H Q _=>∃(a b pw l1 l2 l3 l4 d:Addr)(T:Tb)(zs:List Int),vs=[.ref a,.ref pw,.ref d]/\gp K H a (zs.map V.int)/\zs.length<=900/\nr b H pw T l1 l2 l3 l4/\hI T/\Dc H d (ic T) /\∀H' l xs JL,fy H H'->H l=none->H' l=some (.lst xs)->bZ (vQ l H') xs JL->JL.length<=8->(∀j∈JL,JW T j)->Q (.ref l) H'
theorem t_.kH{P:Program}{w:World}{H H':Hp}{T:Tb}{p:Addr}{us:List V}{L:List Sx}{b:List (MK×V)}(h:t_ P w H T p us L b)(s:fy H H'):t_ P w H' T p us L b:=by
 refine⟨h.g.keep ?_ (λc xs e=>s _ _ e) λk a d=>?_,h.kl.tup λc xs e=>s _ _ e,h.all,h.len⟩
 .obtain⟨i,e⟩:=kI.lA h.g.dm;rw[e];exact s _ _ e
 .obtain⟨j,f,e⟩:=h.g.yes k _ d;cases f;rw[e];exact s _ _ e
theorem _root_.WD.nr.kH{b:Addr}{H H':Hp}{p:Addr}{T:Tb}{g f d a:Addr}(s:fy H H')(h:nr b H p T g f d a):nr b H' p T g f d a:=h.same λc o e _=>s c o e
noncomputable def Num(T:Tb)(kk:List (MK×V)):Prop:=∀y∈T.t4,∃c:Int,f' kk (.inl (.inr (nameOf y)))=some (.int c)
theorem Pu(v:V):∀(zs:List Str)(a:List (MK×V))(z:Str),(z∈zs\/f' a (.inl (.inr z))=some v)->f' ((zs.map λz=>((.inl (.inr z):MK),v)).foldl (λa p=>putK a p.1 p.2) a) (.inl (.inr z))=some v
|[],a,z,h=>h.resolve_left (λq=>nomatch q)
|x::zs,a,z,h=>by
  refine Pu v zs _ z ?_;rw[YW];by_cases e:(.inl (.inr z):MK)=.inl (.inr x)
  .rw[if_pos e];exact .inr rfl
  .rw[if_neg e];rcases h with h|h
   .rcases au.mp h with rfl|h
    .exact absurd rfl e
    .exact .inl h
   .exact .inr h
section
variable {P:Program}{w:World}{K:ae}{mg:Str->Option Value}{base:Heap}
theorem ZY:fx [mB,kR,jF,sF,qc,q9,"_law_numbers",nZ,jE,"_law_some",qm] [mB,kR,jF] (Ze T.jJ):=jX
noncomputable def Ja:Scope:=tG [(".0",.local),(q9,.local)]
theorem Vd:jm Ja (Ze T.jJ):=⟨rfl,by decide +kernel,by decide +kernel,by decide +kernel⟩
theorem Vf:([q9]:List Str).Nodup:=by decide +kernel
theorem Ve:ji [mB,kR,jF,sF,qc,q9,"_law_numbers",nZ,jE,"_law_some",qm] Ja [q9] [none]:=.mk' (by decide +kernel)
noncomputable def Xd:Scope:=tG [(".0",.local),(q9,.local),("_law_numbers",.free)]
theorem Va:jm Xd (Ze T.jJ):=⟨rfl,by decide +kernel,by decide +kernel,by decide +kernel⟩
theorem Vc:([q9,"_law_numbers"]:List Str).Nodup:=by decide +kernel
theorem Vb:ji [mB,kR,jF,sF,qc,q9,"_law_numbers",nZ,jE,"_law_some",qm] Xd [q9,"_law_numbers"] [none,some 6]:=.mk' (by decide +kernel)
theorem RF(B:∀x∈jO,mg x=none)(cI:mg "dict"=none)(CC:hY P w K mg base 1 "_law_cell" [mB,nZ] (Nu K))(CB:hY P w K mg base 1 "_law_box" [tT] R7)(CT:hY P w K mg base 1 qo [jE,mR] Xi)(CO:hY P w K mg base 2 "_law_onward" [kR,jF] (Eo P w))(CJ:hY P w K mg base 2 "_law_journey" [jE,sF,jF,sE,rH] (WX P w))(D:Df K mg "_law_journeys" T.jJ [mB,kR,jF]):hY P w K mg base 3 "_law_journeys" [mB,kR,jF] (R4 P w K):=by
 refine D.cn ZY λf eJ A outer s H vs Q E hr h=>?_;obtain⟨a,b,pw,l1,l2,l3,l4,d,T,zs,rfl,hS,eG,tb,ok,dc,k⟩:=h;refine' ⟨_,(Za (st 3 ZY.nd (cn CO hr (jz (pv 1) (pv 2)))) (Za (st 4 ZY.nd (ZD Zl)) (Za ?en (Za ?el (Zc (Zk (pv 4))))))),?rd⟩;case' el=>refine' (ZX aL rfl (Y3 rfl (bm B) (ju Zb)) (jG 7 ZY.nd) (Za ?er (Za ?ep (Zc ?eo))))
 case' en=>refine' (@YL _ _ 6 _ _ _ _ ZY.nd (by rfl) (by exact gZ rfl) (Yg (RI hr.units rfl) rfl cI Ee (ju (JF rfl Vd Ve (Yd (il K (pv 1) Zb)) (λC s H ex pn=>(jG 0 Vf)) (λC s H ex pn=>Gg) (λC s H ex pn=>(Zx (Zg (it K (pv 0) Zb) (Zg Zb Zl))))))) (by rfl) (by exact cV rfl))
 case' eo=>refine' (ZA (Zo (J1 hr.units) (pv 9) (ZD Zl) (Zt _)) (Za ?eu (Za ?et (Zc ?es))) Zn)
 case' ep=>refine' (NG (i:=9) ZY.nd rfl (cV rfl) (scope:=Xd) (N:=[q9,"_law_numbers"]) (cp:=[none,some 6]) rfl Va Vb (Yd (il K (pv 1) Zb)) (λC s H ex pn=>(jG 0 Vc)) (λC s H ex pn=>(Vm (Zo G4 (G1 (P:=P) (w:=w) rfl rfl (Z0 hr) (pv 1) (it K (pv 0) Zb) (λ_ _=>rfl)) (it K (pv 0) Zb) (Zt _)))) (λC s H ex pn=>(pv 0)))
 case' er=>refine' (st 8 ZY.nd (cn CB hr (ju (cn CC hr (jz (pv 0) (Zr ZL Zb (pv 7)))))))
 case' es=>refine' (ZA (Zo (J1 hr.units) (pv 10) (ZD Zl) (Zt _)) (Za ?ey (Zc ?ew)) Zn)
 case' et=>refine' (st 10 ZY.nd (cn CJ hr (Zg (pv 8) (Zg (pv 3) (kg (pv 2) (it K (pv 5) Zb) JZ)))))
 case' eu=>refine' (st 5 ZY.nd ?h5)
 case' ew=>refine' (NH (Z0 hr) (pv 6) (it K (pv 5) Zb) (Zr ZL (G1 (P:=P) (w:=w) rfl rfl (Z0 hr) (pv 6) (it K (pv 5) Zb) (λ_ _=>rfl)) Zb) rfl)
 case' ey=>refine' (Z9 (Vx bD bu bt YS (pv 4) (ju ?ez)))
 case' ez=>refine' (Zx (kg (it K (pv 5) Zb) (G1 (P:=P) (w:=w) rfl rfl (Z0 hr) (pv 6) (it K (pv 5) Zb) (λ_ _=>rfl)) (pv 10)))
 case' h5=>refine' (il K (pv 9) (cn CT hr (jz (pv 8) (Zw (r:=j_ K) ZG rfl (bm B) aT (ju (pv 9))))))
 case' rd=>
 refine tq λD0 c2=>?_;refine⟨_,rfl,_,rfl,b,pw,l1,l2,l3,l4,d,T,rfl,tb,ok,dc,λH1 p us L d2 S1 hp d0=>?_⟩;refine c2 _ _ (tq λD1 aS=>?_);clear c2;try dsimp only[Zp,av]
 refine⟨zl,λS hF=>?_⟩;have ek:H S=none:=by
  cases e:H S with
 |none=>rfl
 |some o=>rw[S1 _ _ e]at hF;cases hF
 try dsimp only[Zp,av]
 refine nl hF λH2 S2 eF=>?_;refine aS _ _ (tq λD2 aM=>?_);clear aS;have ag:=tb.kH (S1.trans S2);have cR:=(Jo ok).2.2.2;refine⟨_,rfl,pw,_,_,_,rfl,rfl,gp.of ag.at_,Zj (j:=4) rfl,l4,rfl,⟨_,gp.of ag.gr.2.choose_spec.1⟩,?_⟩;refine Ur (J:=oi K l4) T.t4.length (Nat.le_trans cR (by decide)) (λj zs Y H'=>fy H2 H'/\bZ (λv(q:MK×V)=>∃(a:Addr)(y:V),v=.ref a/\H' a=some (.tup [y,q.2])/\qQ H' q.1 y) zs (((T.t4.take j).map nameOf).map λz=>((.inl (.inr z):MK),V.int 0))/\∃v,Y=[v]) ⟨fy.refl _,.nil,none,rfl⟩ (λj zs Y H' q=>by rw[aV q.2.1,lm,lm,aN];omega) (λj zs Y H' hj q=>(ag.kH q.1).gr.go hj) (λzs Y H' q=>(ag.kH q.1).gr.stop) (λj zs Y H' x H7 hj q yl=>?_) (λb1 Y H' q l7 h7=>?_)
 .obtain⟨s1,pz,v1,rfl⟩:=q;have e0:T.t4[j]?=some T.t4[j]:=gE hj;have u:T.t4[j]∈T.t4:=aB hj;obtain⟨rfl,q,rfl,nq,hq⟩:=(ag.kH s1).gr.item e0 yl;rw[a9,e0,aG,aG];generalize T.t4[j]=y at u hq e0;obtain⟨ga,gb,gc,gd,rfl,_⟩:=id (YE ok u);refine⟨_,rfl,q,_,_,_,rfl,rfl,hO.of hq,Zj (j:=0) rfl,ZE (by show 2<=1000;decide),λpt ec=>?_⟩;have W:fy H7 (upd H7 pt (.tup [.str ga,.int 0])):=sameNew (fy.refl _) ec;refine⟨s1.trans W,?_,_,rfl⟩;refine cA (Paired.mY pz λv q'⟨a',y',e1,e2,e3⟩=>⟨a',y',e1,W _ _ e2,P7 (λc zs e=>W _ _ e) e3⟩) ⟨pt,.str ga,rfl,Zd,rfl⟩
 obtain⟨s2,pz,v1,rfl⟩:=q;rw[aP]at pz;have W:fy H' (upd H' l7 (.lst b1)):=sameNew (fy.refl _) h7;have lz:=aV pz;rw[lm,lm]at lz;refine⟨l7,b1,_,rfl,gp.of Zd,Paired.mY pz λv q'⟨a',y',e1,e2,e3⟩=>⟨a',y',e1,W _ _ e2,P7 (λc zs e=>W _ _ e) e3⟩,by omega,λF od Z dm=>?_⟩;have S3:fy H2 (upd (upd H' l7 (.lst b1)) F od):=s2.trans (W.trans (sameNew (fy.refl _) Z));have d1:S≠F:=λz=>by rw[<-z,W _ _ (s2 _ _ eF)]at Z;cases Z
 have hd2:H2 F=none:=by
  cases e:H2 F with
 |none=>rfl
 |some o=>rw[W _ _ (s2 _ _ e)]at Z;cases Z
 have num:Num T (Px ((T.t4.map nameOf).map λz=>((.inl (.inr z):MK),V.int 0))):=λy hy=>⟨0,Pu (.int 0) _ [] _ (.inl (ao.mpr ⟨y,hy,rfl⟩))⟩;have cP:(Px ((T.t4.map nameOf).map λz=>((.inl (.inr z):MK),V.int 0))).length<=300:=by have:=L2.JE ((T.t4.map nameOf).map λz=>((.inl (.inr z):MK),V.int 0)) [];rw[lm,lm]at this;unfold Px;simp only[eU]at this;omega
 generalize Px ((T.t4.map nameOf).map λz=>((.inl (.inr z):MK),V.int 0))=d3 at dm num cP;generalize upd (upd H' l7 (.lst b1)) F od=H3 at S3 dm ⊢;clear pz s2 W h7 Z lz;try dsimp only[Zp,av]
 refine aM _ _ (tq λD3 eg=>?_);clear aM;refine⟨_,rfl,by decide,by decide,?_⟩;have eE:=S2.trans S3;have eA:=S3 _ _ eF;refine Yc (J:=qS 0 8) 8 (λi σ H'=>fy H1 H'/\(∃xs JL kk,H' S=some (.lst xs)/\kI P w H' F kk/\bZ (vQ S H') xs JL/\JL.length<=i/\kk.length<=300+i/\(∀j∈JL,JW T j)/\Num T kk)/\∃o:Nat->Option V,σ=[some (.ref a),some (.ref pw),some (.ref d),some (.ref p),some (.ref S),o 5,some (.ref F),o 7,o 8,o 9,o 10]) ?_ (λi σ H' hi q=>hi) (λσ H' q=>Nat.le_refl _) (λi σ H' v H4 hi q yl=>?_) (λσ H' q=>?_)
 .exact⟨eE,⟨[],[],d3,eA,dm,.nil,Nat.le_refl _,cP,(λ_ h=>nomatch h),num⟩,j9 rfl⟩
 .obtain⟨s1,⟨xs,JL,kk,eF,b4,ja,c5,ef,b2,num⟩,o,rfl⟩:=q;obtain⟨rfl,rfl⟩:=yl;try dsimp only[Zp,av]
  refine td λD' c3=>?_;have bT:∀(H5:Hp)(cC:L2.St),fy H4 H5->(∃o:Nat->Option V,cC=[some (.ref a),some (.ref pw),some (.ref d),some (.ref p),some (.ref S),o 5,some (.ref F),o 7,o 8,o 9,o 10])->D'.nx cC H5:=λH5 cC s5 e5=>c3 _ _ ⟨s1.trans s5,⟨xs,JL,kk,s5 _ _ eF,b4.same s5,Paired.mY ja λ_ _ q=>q.keep (λc xs e=>s5 _ _ e) (λc xs e _=>s5 _ _ e),by omega,by omega,b2,num⟩,e5⟩;have cH:=S1.trans s1;refine tq λD4 c1=>?_;refine⟨_,rfl,_,rfl,_,_,rfl,rfl,a,zs,4+i,(by show[V.ref a,V.int (4+(0+(i:Int)))]=_;rw[show(4+(0+(i:Int)))=((4+i:Nat):Int) by omega]),hS.same cH,by omega,by omega,λc=>⟨c,rfl,λb' H5 cG B5 S5=>?_⟩⟩;refine c1 _ _ (tq λD5 c0=>?_);clear c1;try dsimp only[Zp,av]
  have ab:=tb.kH (cH.trans S5);have eC:=b4.same S5;refine⟨_,rfl,pw,_,_,_,rfl,rfl,gp.of ab.at_,Zj (j:=4) rfl,l4,rfl,⟨_,gp.of ab.gr.2.choose_spec.1⟩,?_⟩;refine JS (J:=oi K l4) T.t4.length (Nat.le_trans cR (by decide)) (λm g Y H'=>H'=H5/\g.length<=m/\(∃R:List (List V),bZ (λv r=>∃q:Addr,v=.ref q/\H5 q=some (.tup r)) g R/\∀r∈R,r∈T.t4)/\∃v,Y=[v,some (.ref F)]) ⟨rfl,Nat.le_refl _,⟨[],.nil,by simp⟩,none,rfl⟩ (λm g Y H' q=>q.2.1) (λm g Y H' hm q=>?_) (λg Y H' q=>?_) (λm g Y H' x H6 hm q yl=>?_) (λg Y H' q ls ed=>?_)
  .obtain⟨rfl,_⟩:=q;exact ab.gr.go hm
  .obtain⟨rfl,_⟩:=q;exact ab.gr.stop
  .obtain⟨rfl,hl,⟨R,pR,hR⟩,v,rfl⟩:=q;have u:T.t4[m]∈T.t4:=aB hm;obtain⟨rfl,q,rfl,nq,hq⟩:=ab.gr.item (gE hm) yl;generalize T.t4[m]=y at u hq;obtain⟨cc,b3⟩:=num y u;obtain⟨ga,gb,gc,gd,rfl,_⟩:=id (YE ok u);refine⟨_,rfl,_,rfl,q,_,_,_,rfl,rfl,hO.of hq,Zj (j:=0) rfl,F,kk,.inl (.inr ga),.int cc,rfl,eC.rd,rfl,b3,_,rfl,q,_,_,_,rfl,rfl,hO.of hq,Zj (j:=3) rfl,_,_,rfl,rfl,_,rfl,?_⟩;refine ia (λe=>?_) (λe=>?_)
   .refine⟨_,rfl,rfl,by rw[aq];show g.length+1<=_;omega,⟨R++[_],cA pR ⟨q,rfl,hq⟩,λr hr=>?_⟩,_,rfl⟩;rcases aF.mp hr with hr|hr
    .exact hR r hr
    .rw[aI]at hr;rw[hr];exact u
   .exact⟨rfl,by omega,⟨R,pR,hR⟩,_,rfl⟩
  .obtain⟨rfl,hl,⟨R,pR,hR⟩,v,rfl⟩:=q;try dsimp only[Zp,av]
   refine al B5 ed λH6 B6 S6 e6 cK=>?_;refine c0 _ _ ?_;clear c0;refine⟨_,rfl,zl,λle he=>?_⟩;try dsimp only[jn]
   have W:Zh b' H6 (upd H6 le (.lst [])):=(Zh.refl b' H6).jq he;have B7:Zv (upd H6 le (.lst [])) b':=B6.new he;have e7:upd H6 le (.lst []) le=some (.lst []):=Zd;generalize upd H6 le (.lst [])=H7 at W B7 e7 ⊢;have bb:=W _ _ e6 cK;have dg:=S6.trans W;refine⟨ls,le,g,rfl,rfl,gp.of bb,e7,_,rfl,?_⟩;refine ia (λee=>?_) (λ_=>bT _ _ (YI cG S5 dg) (j9 rfl));have eH:0<g.length:=by
    cases g with
   |nil=>simp at ee
   |cons a l=>simp
   refine tq λD1 aS=>?_;refine⟨_,rfl,_,rfl,_,rfl,ls,_,rfl,.inl (gp.of bb),b',_,rfl,B7,by omega,ZO (by omega) (by omega),λr8 H8 dV dP B8 S8=>?_⟩;obtain⟨v8,eD,m8⟩:=at_of (xs:=g) dV dP;obtain⟨m,hm⟩:=aJ.mp m8;have cY:m<R.length:=by rw[<-aV pR];exact(aj.mp hm).1
   obtain⟨q,rfl,hq⟩:=ZI pR hm (gE cY);have u:=hR _ (aB cY);generalize R[m]=y at hq u;obtain⟨cc,b3⟩:=num y u;obtain⟨ga,gb,gc,gd,rfl,gs,_⟩:=id (YE ok u);have dd:=dg.trans S8;have cE:q≠b':=by obtain⟨x,y,z,e⟩:=B5;exact hA hq e (λz=>nomatch z)
   have eb:=dd _ _ hq cE;refine⟨ls,_,_,_,rfl,rfl,gp.of (S8 _ _ bb cK),eD,?_⟩;try dsimp only[Zp,av]
   refine aS _ _ (tq λD2 aM=>?_);clear aS;refine⟨_,rfl,_,rfl,_,rfl,_,rfl,q,_,_,_,rfl,rfl,hO.of eb,Zj (j:=0) rfl,λpl cX=>?_⟩;have X:Zh b' H' (upd H8 pl (.dT [])):=dd.jq cX;have dr:Zv (upd H8 pl (.dT [])) b':=B8.new cX;have c9:upd H8 pl (.dT []) pl=some (.dT []):=Zd;generalize upd H8 pl (.dT [])=eL at X dr c9 ⊢;have bM:=YI cG S5 X;refine⟨b',p,d,pl,ga,T,us,L,d2,rfl,dr,d0.kH (s1.trans bM),ok,dc.same (cH.trans bM),c9,λa4 lj ks J eO dp nj ej cT hJ=>?_⟩;have dO:=YI cG S5 (X.trans dp);refine aM _ _ ?_;clear aM;try dsimp only[Zp,av]
   refine⟨_,rfl,zl,λaC eh=>?_⟩;try dsimp only[jn]
   have a0:fy a4 (upd a4 aC (.lst [])):=sameNew (fy.refl a4) eh;have da:upd a4 aC (.lst []) aC=some (.lst []):=Zd;generalize upd a4 aC (.lst [])=U at a0 da ⊢;have G:fy H4 U:=dO.trans a0;have b0:=a0 _ _ ej;refine⟨lj,aC,_,rfl,rfl,gp.of b0,da,_,rfl,?_⟩;refine ia (λe9=>?_) (λ_=>bT _ _ G (j9 rfl));have eB:ks≠[]:=λz=>by rw[z]at e9;simp at e9
   have dx:J≠[]:=λz=>eB (by have:=cT.len;rw[z]at this;exact aZ this);have dv:=cT.tup λc xs e=>a0 _ _ e;have a6:=a0 _ _ (dp _ _ (X _ _ hq cE) cE);have cx:=G _ _ eF;have cB:=b4.same G;have cN:lj≠S:=λz=>by rw[z,bM _ _ eF]at nj;cases nj
   have d4:xs.length<=1000:=by rw[aV ja];omega
   refine tq λeN cf=>?_;refine⟨_,rfl,.inl ⟨rfl,_,gp.of cx⟩,_,rfl,q,_,_,_,rfl,rfl,hO.of a6,Zj (j:=0) rfl,_,rfl,_,rfl,q,_,_,_,rfl,rfl,hO.of a6,Zj (j:=0) rfl,F,kk,.inl (.inr ga),.int cc,rfl,cB.rd,rfl,b3,_,rfl,ZE (by show 3<=1000;decide),λt2 ea=>?_⟩;have M:fy U (upd U t2 (.tup [.str ga,.int cc,.ref lj])):=sameNew (fy.refl _) ea;have c7:upd U t2 (.tup [.str ga,.int cc,.ref lj]) t2=some (.tup [.str ga,.int cc,.ref lj]):=Zd;generalize upd U t2 (.tup [.str ga,.int cc,.ref lj])=a3 at M c7 ⊢;have cm:=M _ _ cx;refine⟨S,xs,_,rfl,rfl,cm,Nat.lt_of_le_of_lt d4 (by decide),?_⟩;refine cf _ _ ?_;clear cf;have ak:∀c,c≠S->upd a3 S (.lst (xs++[.ref t2])) c=a3 c:=λc n=>Zf n;have ck:upd a3 S (.lst (xs++[.ref t2])) S=some (.lst (xs++[.ref t2])):=Zd;generalize upd a3 S (.lst (xs++[.ref t2]))=I at ak ck ⊢;have O:∀c g,a3 c=some (.tup g)->I c=some (.tup g):=λc g e=>by rw[ak c (hA e cm (λz=>nomatch z))];exact e
   have bx:kI P w I F kk:=(cB.same M).keeps (ak F d1.symm) O;have cb:=O _ _ (M _ _ a6);refine⟨_,rfl,_,rfl,q,_,_,_,rfl,rfl,hO.of cb,Zj (j:=0) rfl,F,kk,.inl (.inr ga),.int cc,rfl,bx.rd,rfl,b3,_,_,rfl,rfl,_,rfl,_,rfl,q,_,_,_,rfl,rfl,hO.of cb,Zj (j:=0) rfl,F,kk,.inl (.inr ga),rfl,bx,rfl,Nat.lt_of_le_of_lt (by omega:kk.length<=1000) (by decide),λo' dy=>?_⟩;obtain⟨φ,c6⟩:=kI.lA bx;have ei:H1 F=none:=by
    cases e:H1 F with
   |none=>rfl
   |some o=>rw[S2 _ _ e]at hd2;cases hd2
   have a5:∀c g,I c=some (.tup g)->upd I F o' c=some (.tup g):=λc g e=>by rw[Zf (hA e c6 (λz=>nomatch z))];exact e
   have b5:∀c g,I c=some (.lst g)->upd I F o' c=some (.lst g):=λc g e=>by rw[Zf (hA e c6 (λz=>nomatch z))];exact e
   have dt:∀c g,H4 c=some (.tup g)->upd I F o' c=some (.tup g):=λc g e=>a5 _ _ (O _ _ (M _ _ (G _ _ e)));have du:∀c g,U c=some (.tup g)->upd I F o' c=some (.tup g):=λc g e=>a5 _ _ (O _ _ (M _ _ e));have b6:∀c g,U c=some (.lst g)->c≠S->upd I F o' c=some (.lst g):=λc g e n=>b5 _ _ (by rw[ak c n];exact M _ _ e);refine c3 _ _ ⟨λc o e=>?_,⟨xs++[.ref t2],JL++[(ga,cc,J)],putK kk (.inl (.inr ga)) (.int (cc+1)),b5 _ _ ck,dy,?_,?_,?_,?_,λy hy=>?_⟩,j9 rfl⟩
   .rw[Zf (fi e ei),ak c (fi e hF)];exact M _ _ (G _ _ (s1 _ _ e))
   .refine cA (Paired.mY ja λ_ _ q=>q.keep dt λc g e n=>b6 _ _ (G _ _ e) n) ⟨t2,lj,ks,rfl,a5 _ _ (O _ _ c7),b6 _ _ b0 cN,cN,dv.tup du⟩
   .rw[aq];show JL.length+1<=_;omega
   .exact Nat.le_trans JE (by omega)
   .intro j hj;rcases aF.mp hj with hj|hj
    .exact b2 j hj
    .rw[aI]at hj;subst hj;exact⟨gs,hJ.all,dx,by show J.length<=52;have:=hJ.len ok;have:=ok.n1;omega⟩
   .rw[YW];by_cases e:(.inl (.inr (nameOf y)):MK)=.inl (.inr ga)
    .rw[if_pos e];exact⟨_,rfl⟩
    .rw[if_neg e];exact num y hy
 .obtain⟨s1,⟨xs,JL,kk,eF,b4,ja,c5,ef,b2,num⟩,o,rfl⟩:=q;exact eg _ _ ⟨_,rfl,k _ S xs JL (S1.trans s1) ek eF ja c5 b2⟩
end
theorem KW (n:NL d)(m:NL e):PyData.eqv d e=decide (ZF d=ZF e):=by rcases n with⟨a,rfl⟩|⟨a,i,rfl⟩<;>rcases m with⟨b,rfl⟩|⟨b,j,rfl⟩<;>simp[PyData.eqv,PyData.eqvAll,ZF,Bool.beq_eq_decide_eq]
theorem RT (h:GS z):(PyData.str z).canLay0=true:=(mT.str h).lay
theorem Gj (h:GS z):bG (.str z)=true:=by unfold bG;rw[RT h];rfl
theorem JH {i:Int}(h:GS z):bG (.tuple [.str z,.int i])=true:=by
 unfold bG;have e:(PyData.tuple [.str z,.int i]).canLay0=true:=SA (ds:=[.str z,.int i]) λd hd=>by
  simp only[au,aQ,or_false]at hd;rcases hd with rfl|rfl
  .exact RT h
  .rfl
 rw[e];rfl
theorem Pg (o:hI T){j:Nat}(h:Ys T vs j S):bG S.tail=true/\bG S.head=true:=by
 rcases h with⟨y,g,i,e,p,n,_,rfl⟩|⟨y,g,e,_,rfl⟩|⟨y,g,i,e,p,n,_,rfl⟩|⟨y,g,i,e,h0,p,n,_,rfl⟩
 .obtain⟨a,b,c,d,rfl,ga,l,x,w,_⟩:=YE o g;exact⟨Gj ga,JH l⟩
 .obtain⟨a,b,d,c,v,f,rfl,ga,l,s,x,w,F,f0,f1⟩:=UD o g;exact⟨JH l,JH s⟩
 .obtain⟨a,b,c,d,v,rfl,ga,l,u,E,D,C,B⟩:=GZ o g;exact⟨JH l,JH u⟩
 .obtain⟨⟨z,r⟩,rfl,q,A⟩:=Xp o g;exact⟨JH q,JH q⟩
theorem SE (o:hI T){j:Nat}(h:Ys T xs j S):xs.length<=1000/\∀v∈xs,Itm H v:=by have sm:=(h.small o).key;rw[h.key.1];exact⟨Nat.le_trans sm.1 (by decide),λv a=>Eg (sm.2 v a)⟩
theorem Ex  {T:Nat->TE}(h:∀j,j<4->PE X e (T j)):PE X e (λσ H Q=>∃j,j<4/\T j σ H Q):=λpins s σ H Q I⟨j,a,q⟩=>h j a pins s σ H Q I q
theorem Gn{K:ae}:az K (.type "tuple") (.type "tuple")=some true:=by kernel_rfl
theorem K7{K:ae}:az K (.type "list") (.type "list")=some true:=by kernel_rfl
theorem VJ (h:GS z):z.length<=1000:=Nat.le_trans h.1 (by decide)
theorem vB{K:ae}{H:Hp}{v:V}{T:String}(h:Th H v T):az K (.type T) (.type "list")=some (decide (T="list")):=by cases h<;>(unfold az;first|rfl|decide +kernel|(show _=_;simp;rfl))
theorem UY{α β:Type}{R:α->β->Prop}{a:List α}{c:List β}(h:bZ R a c):∀n,bZ R (a.take n) (c.take n):=by
 induction h with
|nil=>intro n;cases n<;>exact .nil
|cons r _ b=>
  intro n;cases n with
 |zero=>exact .nil
 |succ n=>exact .cons r (b n)
theorem SG{T:Tb}(o:hI T){S b:Sx}(h:S∈ic T)(h':b∈ic T)(e:S.key.map kV=b.key.map kV):S=b:=by obtain⟨j,is⟩:=Yz o h;obtain⟨c,a⟩:=Yz o h';rw[<-e]at a;exact(is.uniq o a).2
theorem UM{T:Tb}(o:hI T){H:Hp}{ks:List V}{J c:List Sx}(h:j7 H ks J)(h':j7 H ks c)(a:∀S∈J,S∈ic T)(g:∀S∈c,S∈ic T):J=c:=by
 induction h generalizing c with
|nil=>cases h';rfl
|@cons v S vs L q t j=>
  cases h' with
 |cons i t'=>obtain⟨k,e,hk⟩:=q;obtain⟨n,f,b⟩:=i;rw[e]at f;cases f;rw[hk]at b;have l:=HO.tup.inj (ax b);rw[SG o (a _ ay) (g _ ay) l,j t' (λS d=>a S (ar _ d)) λS d=>g S (ar _ d)]
theorem Qd (o:hI T){S:Sx}(h:S∈ic T):∃a i,S.head=.tuple [.str a,.int i]/\GS a:=by
 obtain⟨j,is⟩:=Yz o h;rcases is with⟨y,g,i,e,p,n,_,rfl⟩|⟨y,g,e,_,rfl⟩|⟨y,g,i,e,p,n,_,rfl⟩|⟨y,g,i,e,h0,p,n,_,rfl⟩
 .obtain⟨a,b,c,d,rfl,ga,l,x,w,_⟩:=YE o g;exact⟨_,_,rfl,l⟩
 .obtain⟨a,b,d,c,v,f,rfl,ga,l,s,x,w,F,f0,f1⟩:=UD o g;exact⟨_,_,rfl,s⟩
 .obtain⟨a,b,c,d,v,rfl,ga,l,u,E,D,C,B⟩:=GZ o g;exact⟨_,_,rfl,u⟩
 .obtain⟨⟨z,r⟩,rfl,q,A⟩:=Xp o g;exact⟨_,_,rfl,q⟩
structure Wk(H:Hp)(T:Tb)(g:Str)(ks:List V)(i:Nat)(J:List Sx):Prop where
 len:J.length=i
 kl:j7 H (ks.take i) J
 p:qP T g J
section
variable {H:Hp}{T:Tb}{g:Str}{ks:List V}{i:Nat}{J:List Sx}{v:V}{S:Sx}
noncomputable def Led(H:Hp)(T:Tb)(g:Str)(ks:List V):Prop:=∃J,j7 H ks J/\vP T g J
theorem Wk.nil:Wk H T g ks 0 []:=⟨rfl,.nil,qP.nil T g⟩
theorem Wk.none(h:Wk H T g ks i J)(c:ks[i]?=some v)(no:∀S∈ic T,∀a,v=.ref a->H a≠some (.tup (S.key.map kV))):¬Led H T g ks:=λ⟨l,b,f⟩=>by
 have j:=b.len;have d:i<l.length:=by rw[<-j];exact(aj.mp c).1
 obtain⟨k,e,hk⟩:=ZI b c (gE d);exact no _ (f.p.all _ (aB d)) k e hk
theorem Wk.tail(o:hI T)(h:Wk H T g ks i J)(j:ks[i]?=some v){a:Addr}(ev:v=.ref a)(q:H a=some (.tup (S.key.map kV)))(f:S∈ic T)(ne:ZF S.tail≠jK g J):¬Led H T g ks:=λ⟨l,b,c⟩=>by
 have n:=b.len;have d:i<l.length:=by rw[<-n];exact(aj.mp j).1
 obtain⟨k,e,hk⟩:=ZI b j (gE d);rw[ev]at e;cases e;rw[q]at hk;have s:=SG o f (c.p.all _ (aB d)) (HO.tup.inj (ax hk));have r:J=l.take i:=UM o h.kl (UY b i) h.p.all λS f=>c.p.all S (br f);have:=c.p.ch i _ (gE d);rw[<-s,<-r]at this;exact ne this
theorem Wk.step(h:Wk H T g ks i J)(b:ks[i]?=some v)(ev:v=.ref a)(c:H a=some (.tup (S.key.map kV)))(d:S∈ic T)(e:ZF S.tail=jK g J):Wk H T g ks (i+1) (J++[S]):=by refine⟨by rw[aq,h.len];rfl,?_,h.p.snoc d e⟩;rw[a9,b];exact cA h.kl ⟨a,ev,c⟩
theorem Wk.fin(o:hI T)(h:Wk H T g ks i J)(d:i=ks.length):Led H T g ks↔SW T (jK g J):=by
 have a:=h.kl;rw[d,aP]at a;constructor
 .rintro ⟨e,b,c⟩;rw[UM o a b h.p.all c.p.all];exact c.yD
 .exact λhm=>⟨J,a,h.p,hm⟩
end
noncomputable def sL(H:Hp)(v:V):Prop:=(∃T',Th H v T'/\T'≠"tuple")\/∃a xs,v=.ref a/\H a=some (.tup xs)/\xs.length<=1000/\(∀u∈xs,Itm H u)/\∀u∈xs.drop 3,∃i:Int,u=.int i
noncomputable def JA(H:Hp)(v:V)(j:JT):Prop:=∃t lk ks,v=.ref t/\H t=some (.tup [.str j.1,.int j.2.1,.ref lk])/\H lk=some (.lst ks)/\j7 H ks j.2.2
noncomputable def oy(H:Hp)(v:V):Prop:=(∃T',Th H v T'/\T'≠"tuple")\/∃a xs,v=.ref a/\H a=some (.tup xs)/\xs.length<=1000/\(xs.length≠3\/∃x n k,xs=[x,n,k]/\(∃T1,Th H x T1)/\(∃T2,Th H n T2)/\((∃T3,Th H k T3/\T3≠"list")\/∃lk ks,k=.ref lk/\H lk=some (.lst ks)/\ks.length<=1000/\∀u∈ks,sL H u))
noncomputable def Ej(T:Tb)(x n:V):Prop:=∃g i,x=.str g/\n=.int i/\∃y∈T.t4,nameOf y=g/\0<=i/\i<iA y 3
noncomputable def tP(H:Hp)(T:Tb)(v:V):Prop:=∃j,JA H v j/\tN T j
theorem VD{H:Hp}{v:V}{b:String}(h:Th H v b)(n:b≠"tuple"){a:Addr}{xs:List V}(e:v=.ref a):H a≠some (.tup xs):=λz=>by
 subst e;cases h with
|lst e=>rw[e]at z;cases z
|tup e=>exact n rfl
|dK e=>rw[e]at z;cases z
theorem QC{H:Hp}{v:V}{b:String}(h:Th H v b)(n:b≠"list"){a:Addr}{xs:List V}(e:v=.ref a):H a≠some (.lst xs):=λz=>by
 subst e;cases h with
|lst e=>exact n rfl
|tup e=>rw[e]at z;cases z
|dK e=>rw[e]at z;cases z
theorem Itm.same{H H':Hp}{v:V}(s:fy H H')(h:Itm H v):Itm H' v:=by obtain⟨⟨T,a⟩,d,i,b⟩:=h;exact⟨⟨T,a.same s⟩,d,i.same s,b⟩
theorem sL.same{H H':Hp}{v:V}(s:fy H H')(h:sL H v):sL H' v:=by
 rcases h with⟨i,b,n⟩|⟨a,xs,e,g,d,f,hd⟩
 .exact .inl ⟨i,b.same s,n⟩
 .exact .inr ⟨a,xs,e,s _ _ g,d,λu c=>(f u c).same s,hd⟩
theorem oy.same{H H':Hp}{v:V}(s:fy H H')(h:oy H v):oy H' v:=by
 rcases h with⟨z,b,n⟩|⟨a,xs,e,i,g,h⟩
 .exact .inl ⟨z,b.same s,n⟩
 .refine .inr ⟨a,xs,e,s _ _ i,g,?_⟩;rcases h with h|⟨x,n,k,q,⟨y,t1⟩,⟨w,c⟩,h⟩
  .exact .inl h
  .refine .inr ⟨x,n,k,q,⟨y,t1.same s⟩,⟨w,c.same s⟩,?_⟩;rcases h with⟨r,t3,d⟩|⟨lk,ks,p,o,l,j⟩
   .exact .inl ⟨r,t3.same s,d⟩
   .exact .inr ⟨lk,ks,p,s _ _ o,l,λu f=>(j u f).same s⟩
theorem UZ{H H':Hp}{ks:List V}{J:List Sx}(hk:∀u∈ks,sL H u)(s:fy H H')(h:j7 H' ks J):j7 H ks J:=by
 induction h with
|nil=>exact .nil
|@cons v S vs L q t i=>
  refine .cons ?_ (i λu j=>hk u (ar _ j));obtain⟨k,e,b⟩:=q;rcases hk v ay with⟨l,f,g⟩|⟨a,xs,d,c,_⟩
  .exact absurd b (VD (f.same s) g e)
  .rw[e]at d;cases d;rw[s _ _ c]at b;cases b;exact⟨k,e,c⟩
noncomputable def Ph(C:Addr):Sp:=λvs H Q _=>∃(t q:Addr)(T:Tb)(x n:V)(T1 T2:String),vs=[.ref t,.ref q]/\qE H C t T/\hI T/\H q=some (.tup [x,n])/\Th H x T1/\Th H n T2/\∀b:Bool,(b=true↔Ej T x n)->Q (.bl b) H
noncomputable def RZ(C:Addr):Sp:=λvs H Q _=>∃(t lk:Addr)(T:Tb)(g:Str)(ks:List V),vs=[.ref t,.str g,.ref lk]/\qE H C t T/\hI T/\H lk=some (.lst ks)/\ks≠[]/\(∀u∈ks,sL H u)/\(∃y∈T.t4,nameOf y=g)/\∀(b:Bool)H',fy H H'->(b=true↔Led H T g ks)->Q (.bl b) H'
noncomputable def Ep(C:Addr):Sp:=λvs H Q _=>∃(t:Addr)(T:Tb)(v:V),vs=[.ref t,v]/\qE H C t T/\hI T/\oy H v/\∀(b:Bool)H',fy H H'->(b=true↔tP H T v)->Q (.bl b) H'
theorem ff{p:Prop}(h:¬p):((false:Bool)=true↔p):=⟨(λz=>nomatch z),λz=>absurd z h⟩
theorem Lg{T:Tb}(d:lT b T.t1)(a:Str)(m:Int):V9 (.str a) b=true↔SW T (.inr [.inr a,.inl m]):=by
 show decide (f' b (.inr a)=some .non)=true↔_;rw[decide_eq_true_iff];constructor
 .intro h;by_cases hm:a∈T.t1.map nameOf
  .obtain⟨y,c,rfl⟩:=ao.mp hm;have:=d.has y c;rw[h]at this;exact⟨y,c,(ax this).symm,m,rfl⟩
  .rw[d.no a hm]at h;cases h
 .rintro ⟨y,c,g,i,e⟩;injection e with e;injection e with f _;injection f with f;rw[f,d.has y c,g]
section
variable {P:Program}{w:World}{K:ae}{mg:Str->Option Value}{base:Heap}{C:Addr}{Cs:Nat->Addr}
theorem Nz:fx [jL,jt] [jL,jt] (Ze T.mj):=jX
theorem Rz(B:∀x∈jO,mg x=none)(Z:nV K C)(CG:jA P w K mg base jS 2 C "is_group" [hB,jt] (XE C rg))(CR:jA P w K mg base jS 3 C "group_row" [hB,"name"] (Jz C rg))(CI:hY P w K mg base 2 "is_within" [jt,"low","high"] K1.YY)(D:Df K mg "is_person" T.mj [jL,jt]):hY P w K mg base 4 "is_person" [jL,jt] (Ph C):=by
 refine D.cn Nz λf aC A outer s H vs Q E I h=>?_;obtain⟨t,q,T,x,n,T1,T2,rfl,mL,ok,u,t1,U,k⟩:=h;obtain⟨fs,p⟩:=Jf mL;obtain⟨d,l,b⟩:=p.g;obtain⟨dx,S⟩:=p.tab.at_;refine' ⟨_,(Za ?Y (Zc ?X)),?rd⟩;case' X=>refine' (Zk (cn CI I (kg (it K (pv 1) Zb) Zb (Zr XW ?h4 Zb))))
 case' Y=>refine' (ZA (PW.pt (YK (ZK (ZH (YD (c:="tuple") (pv 1) rfl (bm B) rfl (bm B) YQ))) (YK (Zo U0 (Zw (r:=j_ K) ZG rfl (bm B) aT (ju (pv 1))) Zb (Zt _)) (YJ (ZK (ZH (ZZ CG Z.cl Z6 I.m (pv 0) (ju (it K (pv 1) Zb))))))))) (Zc (Zk YU)) Zn)
 case' h4=>refine' (it K (ZZ CR Z.cl Z6 I.m (pv 0) (ju (it K (pv 1) Zb))) Zb)
 case' rd=>
 refine my λD0 O N=>?_;refine⟨_,rfl,_,_,_,_,rfl,.tup u,Gn,_,rfl,?_⟩;refine jI ?_;refine⟨_,rfl,q,_,rfl,.inr (hO.of u),rfl,_,rfl,?_⟩;refine jI ?_;refine km S (p.tab.only _ (by decide +kernel)) ⟨_,rfl,q,_,_,_,rfl,rfl,hO.of u,Zj (j:=0) rfl,t,_,_,fs,d,l,rfl,p.tab,b.fld,b.at_,t1,_,rfl,?_⟩;refine Z7 (λe=>N _ _ (k false (ff λ⟨g,i,v,ei,y,o,J,_⟩=>?_))) (λe=>O _ _ ?_)
 .subst v;obtain⟨a,F,_⟩:=b.yes y o;rw[J]at F;rw[Ju F]at e;cases e
 have W:ZR x l=true:=by simpa using e
 obtain⟨z,v0,rfl,hz⟩:=Yh W;obtain⟨y,o,J⟩:=in_of b.no hz;obtain⟨a,F,M⟩:=b.yes y o;obtain⟨a1,b1,c1,G,rfl,ga,_⟩:=id (YE ok o);have ez:z=a1:=J.symm;subst ez;refine⟨_,rfl,q,_,_,_,rfl,rfl,hO.of u,Zj (j:=1) rfl,km S (p.tab.only _ (by decide +kernel)) ⟨_,rfl,q,_,_,_,rfl,rfl,hO.of u,Zj (j:=0) rfl,t,_,_,fs,d,l,_,rfl,p.tab,b.fld,b.at_,t1,F,?_⟩⟩;refine⟨a,_,_,_,rfl,rfl,hO.of M,Zj (j:=3) rfl,_,_,rfl,rfl,_,_,0,_,rfl,U,?_⟩;refine k _ ?_;constructor
 .intro h;cases n with
 |int i=>have h':(decide (0<=i)&&decide (i<=G-1))=true:=h;rw[Bool.and_eq_true,decide_eq_true_iff,decide_eq_true_iff]at h';exact⟨z,i,rfl,rfl,_,o,rfl,h'.1,by show i<G;omega⟩
 |_=>cases h
 .rintro ⟨g,i,v,rfl,y',L,R,h0,h1⟩;injection v with v;subst v;have:=Y4 (J2 ok (j:=4) (.inr (.inr (.inr rfl)))) L o R;subst this;have ab:i<G:=h1;show(decide (0<=i)&&decide (i<=G-1))=true;rw[Bool.and_eq_true,decide_eq_true_iff,decide_eq_true_iff];omega
theorem YZ:fx [jL,"group","keys","node","key","step"] [jL,"group","keys"] (Ze T.lJ):=jX
theorem Wu(B:∀x∈jO,mg x=none)(Z:nV K C)(ZS:∀j,j<4->so K (Cs j))(CH:jA P w K mg base jS 3 C "is_home" [hB,jt] (VU C))(CS:hY P w K mg base 5 "step_or_none" [jL,"key"] (vj K C Cs))(CL:∀j,j<4->jA P w K mg base jS 1 (Cs j) "tail" [hB] (R6 K "its_tail"))(CD:∀j,j<4->jA P w K mg base jS 1 (Cs j) "head" [hB] (R6 K "its_head"))(D:Df K mg "leads_home" T.lJ [jL,"group","keys"]):hY P w K mg base 6 "leads_home" [jL,"group","keys"] (RZ C):=by
 refine D.cn YZ λf b6 A outer s H vs Q E W h=>?_;obtain⟨t,lk,T,g,ks,rfl,mL,ok,y,bx,bM,⟨yg,a5,b3⟩,k⟩:=h;refine' ⟨_,(Za (st 3 YZ.nd (pv 1)) (Za ?h7 (Zc ?h8))),?rd⟩;case' h8=>refine' (Zk (ZZ CH Z.cl Z6 W.m (pv 0) (ju (it K (pv 3) Zb))))
 case' h7=>refine' (ZX aL rfl (Yd (pv 2)) (jG 4 YZ.nd) (Za (st 5 YZ.nd (cn CS W (jz (pv 0) (pv 4)))) (Za ?h3 (Zc ?h4))))
 case' h4=>refine' (st 3 YZ.nd (Ex λj X=>PJ (CD j X) (ZS j X).cl Z6 W.m (pv 5)))
 case' h3=>refine' (ZA (PW.pt (YK (Zo UH (pv 5) ZJ (Zt _)) (YJ (Zo (Q4 W.units) (Ex λj X=>PJ (CL j X) (ZS j X).cl Z6 W.m (pv 5)) (pv 3) (Zt _))))) (Zc (Zk YU)) Zn)
 case' rd=>
 have b2:GS g:=by obtain⟨a,b,c,d,rfl,ga,_⟩:=YE ok a5;rw[<-b3];exact ga
 refine tq λD0 aC=>?_;refine⟨_,rfl,?_⟩;refine aC _ _ (my λD1 b0 ag=>?_);clear aC;try dsimp only[Zp,av]
 refine⟨_,rfl,lk,rfl,⟨_,gp.of y⟩,?_⟩;refine Yc (J:=oi K lk) ks.length (λi σ H'=>fy H H'/\(∃J R N,Wk H T g ks i J/\Is H' R N/\NL N/\bG N=true/\ZF N=jK g J/\∃o4 o5,σ=[some (.ref t),some (.str g),some (.ref lk),some R,o4,o5])) ?_ (λi σ H' hi q=>⟨_,ks[i],gp.of (q.1 _ _ y),gE hi⟩) (λσ H' q=>⟨_,gp.of (q.1 _ _ y),Nat.le_refl _⟩) (λi σ H' v H3 hi q yl=>?_) (λσ H' q=>?_)
 .exact⟨fy.refl H,[],.str g,.str g,.nil,.str g,.inl ⟨_,rfl⟩,Gj b2,rfl,_,_,rfl⟩
 .obtain⟨s1,J,R,N,F,inv,L,ab,G,o4,o5,rfl⟩:=q;obtain⟨rfl,hy⟩:=yl;have U:=hy _ (gp.of (s1 _ _ y));have a4:=bM v (aK U);try dsimp only[Zp,av]
  refine tq λD' aM=>?_;have non:∀I,fy H3 I->¬Led H T g ks->D'.nx [some (.ref t),some (.str g),some (.ref lk),some R,some v,some .non] I:=λI s4 no=>by refine aM _ _ ?_;refine⟨_,rfl,rfl,_,rfl,?_⟩;refine jC ?_;exact jC (ag _ _ (k false _ (s1.trans s4) (ff no)))
  rcases a4 with⟨T',th,M⟩|⟨kb,xs,rfl,l,hl,hit,b5⟩
  .refine⟨_,rfl,_,rfl,t,_,T,rfl,mL.same s1,ok,.inl ⟨⟨_,(th.same s1).ty,(by rw[(th.same s1).ri,decide_eq_false M])⟩,λI s4=>?_⟩⟩;exact non I s4 (F.none U λS Y a e=>VD th M e)
  .refine⟨_,rfl,_,rfl,t,_,T,rfl,mL.same s1,ok,.inr ⟨kb,_,rfl,s1 _ _ l,hl,λu hu=>(hit u hu).same s1,λjs S is I q s4 st=>?_,λno I s4=>?_⟩⟩
   .obtain⟨b4,o⟩:=is.key;have Y:=WU ok is;rw[b4]at l;obtain⟨a0,aS⟩:=Pg ok is;obtain⟨M,nh⟩:=MW is;obtain⟨dy,ky,vt,vh,O,h2,h3,h4⟩:=st;refine aM _ _ (my λD2 bT a6=>?_);try dsimp only[Zp,av]
    refine⟨_,rfl,rfl,_,rfl,?_⟩;refine jI ?_;refine⟨_,o,_,rfl,q,dy,_,rfl,O,rfl,q,_,dy,_,vt,rfl,ZS _ o,O,rfl,_,rfl,_,_,h3,inv.same s4,a0,ab,_,rfl,?_⟩;rw[KW M L,G];refine Z7 (λe=>?_) (λe=>?_)
    .have ne:ZF S.tail≠jK g J:=λz=>by rw[decide_eq_true z]at e;cases e
     exact a6 _ _ (ag _ _ (k false _ (s1.trans s4) (ff (F.tail ok U rfl l Y ne))))
    .have et:ZF S.tail=jK g J:=by
      by_cases z:ZF S.tail=jK g J
      .exact z
      .rw[decide_eq_false z]at e;cases e
     refine bT _ _ ?_;refine⟨_,o,_,rfl,q,dy,_,rfl,O,rfl,q,_,dy,_,vh,rfl,ZS _ o,O,rfl,?_⟩;exact⟨s1.trans s4,J++[S],vh,S.head,F.step U rfl l Y et,h4,nh,aS,(Vp g J S).symm,_,_,rfl⟩
   .exact non I s4 (F.none U λS Y a e hz=>by cases e;rw[l]at hz;obtain⟨j,is⟩:=Yz ok Y;rw[<-HO.tup.inj (ax hz)]at is;exact no j S is)
 .obtain⟨s1,J,R,N,F,inv,L,ab,G,o4,o5,rfl⟩:=q;refine b0 _ _ ?_;obtain⟨fs,ak⟩:=Jf (mL.same s1);obtain⟨d,a3,f1,f2,pd⟩:=ak.p;obtain⟨dx,ht⟩:=ak.tab.at_;have hJ:J≠[]:=λz=>bx (by have:=F.len;rw[z]at this;exact aZ this.symm);have n:jK g J=ZF (J.getLast hJ).head:=by unfold jK;rw[jg hJ]
  obtain⟨a,m,eh,gh⟩:=Qd ok (F.p.all _ (List.getLast_mem hJ));rw[n,eh]at G;rcases L with⟨a',rfl⟩|⟨a',m',rfl⟩
  .cases G
  .simp only[ZF]at G;injection G with G;injection G with e1 e2;injection e1 with e1;injection e2 with e2 _;injection e2 with e2;subst e1 e2;cases inv with
  |@tup M ys _ bb r=>
   cases r with
  |cons O r=>
   cases r with
  |cons h2 r=>
   cases r;cases O;cases h2;have b1:a'.length<=1000:=VJ gh;refine km ht (ak.tab.only _ (by decide +kernel)) ⟨_,rfl,M,_,_,_,rfl,rfl,hO.of bb,Zj (j:=0) rfl,t,_,_,fs,d,a3,rfl,ak.tab,f1,f2,.str _ b1,?_⟩;refine k _ _ s1 ?_;rw[Lg pd a' m',F.fin ok rfl,n,eh];exact Iff.rfl
theorem Mz:fx [jL,jt] [jL,jt] (Ze T.lK):=jX
theorem Ec(B:∀x∈jO,mg x=none)(CP:hY P w K mg base 4 "is_person" [jL,jt] (Ph C))(CL:hY P w K mg base 6 "leads_home" [jL,"group","keys"] (RZ C))(D:Df K mg "is_journey" T.lK [jL,jt]):hY P w K mg base 7 "is_journey" [jL,jt] (Ep C):=by
 refine D.cn Mz λf a3 A outer s H vs Q E hr h=>?_;obtain⟨t,T,v,rfl,mL,ok,d,k⟩:=h;refine' ⟨_,(Za ?h7 (Za ?h8 (Zc ?h9))),?rd⟩;case' h9=>refine' (Zk (Xa (YD (c:="list") (it K (pv 1) Zb) rfl (bm B) rfl (bm B) XN) (Xa (Yr G6 (Zw (r:=j_ K) ZG rfl (bm B) aT (ju (it K (pv 1) Zb))) Zb (Zt _)) (YN (cn CL hr (kg (pv 0) (it K (pv 1) Zb) (it K (pv 1) Zb)))))))
 case' h8=>refine' (ZA (ZK (ZH (cn CP hr (jz (pv 0) (ZQ (r:=rR K) GP (pv 1) Z4 (Z3 Zb)))))) (Zc (Zk YU)) Zn)
 case' h7=>refine' (ZA (PW.pt (YK (ZK (ZH (YD (c:="tuple") (pv 1) rfl (bm B) rfl (bm B) YQ))) (YJ (Zo U0 (Zw (r:=j_ K) ZG rfl (bm B) aT (ju (pv 1))) Zb (Zt _))))) (Zc (Zk YU)) Zn)
 case' rd=>
 refine my λD0 ab S=>?_;rcases d with⟨T',th,nt⟩|⟨q,xs,rfl,M,hl,d⟩
 .refine⟨_,rfl,_,_,_,_,rfl,th.ty,(by rw[th.ri,decide_eq_false nt]),_,rfl,?_⟩;refine jC ?_;exact jC (S _ _ (k false _ (fy.refl _) (ff λ⟨j,⟨t',lk,ks,e,o,_⟩,_⟩=>VD th nt e o)))
 refine⟨_,rfl,_,_,_,_,rfl,.tup M,Gn,_,rfl,?_⟩;refine jI ?_;refine⟨_,rfl,q,_,rfl,.inr (hO.of M),rfl,_,rfl,?_⟩;refine Z7 (λe=>?_) (λe=>?_)
 .refine S _ _ (k false _ (fy.refl _) (ff λ hZ=>?_));obtain⟨j,⟨t',lk,ks,R,o,_⟩,_⟩:=hZ;cases R;rw[M]at o;cases o;simp at e
 have W:xs.length=3:=by
  have q:decide (V.int (xs.length:Int)=V.int 3)=true:=by simpa using e
  have q:=of_decide_eq_true q;injection q with q;omega
 rcases d with d|⟨x,n,kv,rfl,⟨T1,t1⟩,⟨T2,t2⟩,d⟩
 .exact absurd W d
 refine ab _ _ (my λD1 Z X=>?_);clear ab S e;refine⟨_,rfl,_,rfl,_,rfl,q,_,rfl,hO.of M,(by show ¬(HT.jH 3 0 none=0/\HT.jH 3 3 (some 2)=3);decide),λp hp=>?_⟩;have a:fy H (upd H p (.tup (jT [x,n,kv] none (some 2)))):=sameNew (fy.refl H) hp;have ep:upd H p (.tup (jT [x,n,kv] none (some 2))) p=some (.tup [x,n]):=Zd;generalize upd H p (.tup (jT [x,n,kv] none (some 2)))=H1 at a ep ⊢;have G:=a _ _ M;refine⟨t,p,T,x,n,T1,T2,rfl,mL.same a,ok,ep,t1.same a,t2.same a,λb hb=>⟨_,rfl,?_⟩⟩;refine Z7 (λe=>?_) (λe=>?_)
 .refine X _ _ (k false _ a (ff λ hZ=>?_));obtain⟨j,⟨t',lk,ks,R,o,_⟩,F⟩:=hZ;cases R;rw[M]at o;cases o;have:b=true:=hb.mpr ⟨_,_,rfl,rfl,F.gr⟩;rw[this]at e;cases e
 have aC:b=true:=by simpa using e
 obtain⟨g,i,rfl,rfl,hg⟩:=hb.mp aC;refine Z _ _ ?_;clear Z X;rcases d with⟨T3,t3,n3⟩|⟨lk,ks,rfl,U,a0,Y⟩
 .refine⟨_,rfl,q,_,_,_,rfl,rfl,hO.of G,Zj (j:=2) rfl,_,_,_,_,rfl,(t3.same a).ty,(by rw[vB (t3.same a),decide_eq_false n3]),_,rfl,?_⟩;refine jI ?_;refine k false _ a (ff λ hZ=>?_);obtain⟨j,⟨t',lk,ks,R,o,O,_⟩,F⟩:=hZ;cases R;rw[M]at o;cases o;exact QC t3 n3 rfl O
 have I:=a _ _ U;refine⟨_,rfl,q,_,_,_,rfl,rfl,hO.of G,Zj (j:=2) rfl,_,_,_,_,rfl,.lst I,K7,_,rfl,?_⟩;refine jC ?_;refine⟨_,rfl,q,_,_,_,rfl,rfl,hO.of G,Zj (j:=2) rfl,lk,_,rfl,.inl (gp.of I),_,_,rfl,rfl,_,rfl,?_⟩;have ja:∀j,JA H (.ref q) j->∃J,j=(g,i,J)/\j7 H ks J:=λj hZ=>by obtain⟨t',aM,aS,R,o,O,L⟩:=hZ;cases R;rw[M]at o;have:=HO.tup.inj (ax o);injection this with h1 this;injection this with h2 this;injection this with W _;injection h1 with h1;injection h2 with h2;injection W with W;subst W;rw[U]at O;cases O;obtain⟨g',i',J⟩:=j;simp only at h1 h2 L;subst h1 h2;exact⟨J,rfl,L⟩
 refine Z7 (λe=>?_) (λe=>?_)
 .have N:ks≠[]:=λz=>by rw[z]at e;simp at e
  refine⟨_,rfl,_,rfl,q,_,_,_,rfl,rfl,hO.of G,Zj (j:=0) rfl,_,rfl,q,_,_,_,rfl,rfl,hO.of G,Zj (j:=2) rfl,?_⟩;obtain⟨y,hy,e1,n0,n1⟩:=hg;refine⟨t,lk,T,g,ks,rfl,mL.same a,ok,I,N,λu hu=>(Y u hu).same a,⟨y,hy,e1⟩,λb2 H' s' ak=>k b2 _ (a.trans s') (ak.trans ?_)⟩;constructor
  .rintro ⟨J,L,jr⟩;have ag:j7 H ks J:=by refine UZ Y a L
   refine⟨(g,i,J),⟨q,lk,ks,rfl,M,U,ag⟩,jr,λz=>N ?_,y,hy,e1,n0,n1⟩;have:=L.len;have z':J=[]:=z;rw[z']at this;exact aZ this
  .rintro ⟨j,hj,F⟩;obtain⟨J,rfl,L⟩:=ja j hj;exact⟨J,L.tup (λc xs e=>a _ _ e),F.jr⟩
 .refine k false _ a (ff λ⟨j,hj,F⟩=>?_);obtain⟨J,rfl,L⟩:=ja j hj;have N:ks=[]:=by
   cases ks with
  |nil=>rfl
  |cons u l=>simp at e
  have:=L.len;rw[N]at this;exact F.ne (aZ this.symm)
end
end SX
namespace L2
open PySem PySem.Spec PyProof.Rows
section
variable {X:Cx}
noncomputable def uW(l:Addr)(xs:List V)(H:Hp)(J:It):Prop:=(∀i H',H l=H' l->i<xs.length->J.go i H')/\(∀H',H l=H' l->J.stop xs.length H')/\∀(i:Nat)H' x H2,H l=H' l->J.rE i H' x H2->∃(t:Addr)(y:V),H' t=none/\xs[i]?=some y/\x=.ref t/\H2=upd H' t (.tup [.int i,y])
theorem Hu  {H:Hp}(a:H l=some (.lst xs)):uW l xs H (Qu l):=by refine⟨λi H' e c=>⟨xs,e▸a,c⟩,λH' e=>⟨xs,e▸a,rfl⟩,λi H' x n e y=>?_⟩;obtain⟨t,j,y,h,b,g,f,d⟩:=y;rw[<-e,a]at b;cases b;exact⟨t,y,h,g,f,d⟩
theorem Ht  {H:Hp}(a:H l=some (.tup xs)):uW l xs H (tO l):=by refine⟨λi H' e c=>⟨xs,e▸a,c⟩,λH' e=>⟨xs,e▸a,rfl⟩,λi H' x n e y=>?_⟩;obtain⟨t,j,y,h,b,g,f,d⟩:=y;rw[<-e,a]at b;cases b;exact⟨t,y,h,g,f,d⟩
noncomputable def yx(ta:TA):TI:=λσ H R=>ta σ H λvs H1=>∃(l:Addr)(xs:List V),vs=[.ref l]/\(H1 l=some (.lst xs)\/H1 l=some (.tup xs))/\∀J,uW l xs H1 J->R J H1
theorem PH{a:Expr}{p pos pt:Pos}{k:Nat}(z:Gl X "enumerate")(hm:X.mg "enumerate"=none)(A:PA X [a] n)(f:bJ "enumerate"=some (.type "enumerate"))(x:aH [a] X.env=[(false,eval a X.env)]:=by rfl):PI X (.Tuple B k pt) (.Call (.Name "enumerate" p) [a] [] pos) (yx n):=by
 intro pins s σ H R I h;refine Call_ (JK I z hm f (bI (hU (A pos pins s σ H _ I h) λus s1 hZ=>?_) x rfl));obtain⟨vs,H1,c,v,w⟩:=hZ;obtain⟨l,xs,e,y,j⟩:=w;subst e;cases v with
|cons r u=>
  cases u;cases r;rcases y with hx|hx
  .have q:=j _ (Hu hx);obtain⟨i,o,pl,_⟩:=c.list (gp.of hx);refine call_enumerate_list pl.isList λh' he d _ kk=>?_;have g:Inv X pins σ H1 {s1 with heap:=h'}:=c.kept (t':=s1.toks) kk;refine d7 he ?_;have lt:l<s1.heap.objs.size:=c.hL.lt hx;refine⟨s1.heap.objs.size+1,[s1.heap.objs.size+1,s1.heap.objs.size],_,_,H1,rfl,g,GC l (s1.heap.objs.size+1) s1.heap.objs.size (Nat.succ_ne_self _) (Nat.ne_of_lt (Nat.lt_succ_of_lt lt)) (Nat.ne_of_lt lt),⟨⟨_,he⟩,d⟩,λb f=>?_,q⟩;have e:b=s1.heap.objs.size+1\/b=s1.heap.objs.size:=by simpa using f
   rcases e with e|e<;>subst e
   .exact c.nJ (Nat.le_succ _) (c.hL.fresh (Nat.le_succ _))
   .exact c.nJ (Nat.le_refl _) (c.hL.fresh (Nat.le_refl _))
  .have q:=j _ (Ht hx);obtain⟨i,o,pl,_⟩:=c.tuple (hO.of hx);refine Mt pl λh' he d kk=>?_;have g:Inv X pins σ H1 {s1 with heap:=h'}:=c.kept (t':=s1.toks) kk;refine d7 he ?_;have lt:l<s1.heap.objs.size:=c.hL.lt hx;refine⟨s1.heap.objs.size+1,[s1.heap.objs.size+1,s1.heap.objs.size],_,_,H1,rfl,g,GB l (s1.heap.objs.size+1) s1.heap.objs.size (Nat.succ_ne_self _) (Nat.ne_of_lt (Nat.lt_succ_of_lt lt)) (Nat.ne_of_lt lt),⟨⟨_,he⟩,d⟩,λb f=>?_,q⟩;have e:b=s1.heap.objs.size+1\/b=s1.heap.objs.size:=by simpa using f
   rcases e with e|e<;>subst e
   .exact c.nJ (Nat.le_succ _) (c.hL.fresh (Nat.le_succ _))
   .exact c.nJ (Nat.le_refl _) (c.hL.fresh (Nat.le_refl _))
end
end L2
namespace SX
open PySem L2 PySem.Spec PyProof.Rows TB WD
noncomputable abbrev KK:=List Key
noncomputable def cnt(k:KK)(Ks:List KK):Nat:=(Ks.filter λx=>decide (x=k)).length
theorem DY(k:KK)(A B:List KK):cnt k (A++B)=cnt k A+cnt k B:=by unfold cnt;rw[eV,aq]
theorem DX(k x:KK):cnt k [x]=if k=x then 1 else 0:=by
 unfold cnt;by_cases e:k=x
 .subst e;simp
 .rw[if_neg e,fh (by simpa using λz:x=k=>e z.symm)];rfl
structure oo(f5:List (KK×V))(Ks:List KK):Prop where
 nd:(f5.map (·.1)).Nodup
 val:∀k,f' f5 k=if cnt k Ks=0 then none else some (.int (cnt k Ks))
 len:f5.length<=Ks.length
theorem oo.nil:oo [] []:=⟨fq,λk=>rfl,Nat.le_refl _⟩
theorem oo.get{a:List (KK×V)}{Ks:List KK}(h:oo a Ks)(k:KK):(f' a k).getD (.int 0)=.int (cnt k Ks):=by
 rw[h.val k];by_cases e:cnt k Ks=0
 .rw[if_pos e,e];rfl
 .rw[if_neg e];rfl
theorem Fo{a:List (KK×V)} (h:(a.map (·.1)).Nodup):((putK a k v).map (·.1)).Nodup:=by
 cases e:f' a k with
|none=>exact Dz v h e
|some u=>
  unfold putK;rw[YX,e];have:(a.map λb=>if b.1=k then(b.1,v)else b).map (·.1)=a.map (·.1):=by rw[cO];congr 1;funext b;show(if b.1=k then(b.1,v)else b).1=b.1;split<;>rfl
  rw[if_pos (show(some u).isSome=true from rfl),this];exact h
theorem Py{a:List (KK×V)}{k:KK}{v:V}:(putK a k v).length<=a.length+1:=by
 unfold putK;split
 .rw[lm];omega
 .simp
theorem oo.put{a:List (KK×V)}{Ks:List KK}(h:oo a Ks)(k:KK)(Bs:List KK){m:Int}(hm:m=(cnt k Ks:Int)+cnt k Bs)(f:∀x∈Bs,x=k)(c:Bs≠[]):oo (putK a k (.int m)) (Ks++Bs):=by
 have d:∀j,cnt j Bs=if j=k then Bs.length else 0:=λj=>by
  unfold cnt;by_cases e:j=k
  .rw[if_pos e,List.filter_eq_self.mpr λx b=>decide_eq_true ((f x b).trans e.symm)]
  .rw[if_neg e,dH.mpr λx b=>by rw[f x b];simpa using λz:k=j=>e z.symm];rfl
 have g:0<Bs.length:=List.length_pos_iff.mpr c;refine⟨Fo h.nd,λj=>?_,?_⟩
 .rw[YW,DY,d j];by_cases e:j=k
  .subst e;rw[if_pos rfl,if_pos rfl,if_neg (by omega),hm,d j,if_pos rfl];push_cast;rfl
  .rw[if_neg e,if_neg e,Nat.add_zero];exact h.val j
 .rw[aq];exact Nat.le_trans Py (by have:=h.len;omega)
theorem oo.add{a:List (KK×V)}{Ks:List KK}(h:oo a Ks)(k:KK):oo (putK a k (.int ((cnt k Ks:Int)+1))) (Ks++[k]):=h.put k [k] (by rw[DX,if_pos rfl];rfl) (by simp) (by simp)
theorem oo.mem{a:List (KK×V)}{Ks:List KK}(h:oo a Ks)(k:KK):k∈a.map (·.1)↔cnt k Ks≠0:=by
 constructor
 .intro hk e;exact GA (by rw[h.val k,if_pos e]) hk
 .intro e;exact RP (v:=.int (cnt k Ks)) (by rw[h.val k,if_neg e])
theorem HD{H:Hp}{a b:Addr}{d c:List (KK×V)}{Ks g:List KK}(j:H a=some (.dT d))(i:H b=some (.dT c))(h:oo d Ks)(h':oo c g)(e:∀k,cnt k Ks=cnt k g):zF H (.ref a) (.ref b):=by
 refine⟨a,b,d,c,rfl,rfl,j,i,?_,λk v f=>?_⟩
 .have p:(d.map (·.1)).Perm (c.map (·.1)):=(List.perm_ext_iff_of_nodup h.nd h'.nd).mpr λk=>by rw[h.mem,h'.mem,e k]
  have:=p.length_eq;rwa [bU,bU]at this
 .rw[h.val k]at f;by_cases z:cnt k Ks=0
  .rw[if_pos z]at f;cases f
  .rw[if_neg z]at f;cases f;exact⟨_,rfl,by rw[h'.val k,<-e k,if_neg z]⟩
theorem JA.same   (s:fy H H')(h:JA H v j):JA H' v j:=by obtain⟨t,lk,ks,e,b,d,a⟩:=h;exact⟨t,lk,ks,e,s _ _ b,s _ _ d,a.tup λc xs e=>s _ _ e⟩
theorem JA.back   (b:oy H v)(s:fy H H')(h:JA H' v j):JA H v j:=by
 obtain⟨t,lk,ks,e,d,f,w⟩:=h;rcases b with⟨B,r,n⟩|⟨a,xs,q,g,_,b⟩
 .exact absurd d (VD (r.same s) n e)
 .rw[e]at q;cases q;rw[s _ _ g]at d;cases d;rcases b with b|⟨x,n,k,p,_,_,b⟩
  .exact absurd rfl b
  .injection p with p o;injection o with o c;injection c with c _;rcases b with⟨A,t3,u⟩|⟨y,z,l,i,_,hk⟩
   .rw[<-c]at t3;exact absurd f (QC (t3.same s) u rfl)
   .rw[<-c]at l;cases l;rw[s _ _ i]at f;cases f;exact⟨t,lk,ks,e,g,i,UZ hk s w⟩
theorem tP.iff   (a:oy H v)(s:fy H H'):tP H' T v↔tP H T v:=⟨λ⟨j,h,o⟩=>⟨j,h.back a s,o⟩,λ⟨j,h,o⟩=>⟨j,h.same s,o⟩⟩
theorem NW  (o:hI T) (h:JA H v j)(h':JA H v l)(ok:tN T j)(q:tN T l):j=l:=by obtain⟨t,lk,ks,e,x,y,w⟩:=h;obtain⟨t',z,A,u,d,f,r⟩:=h';rw[e]at u;cases u;rw[x]at d;have:=HO.tup.inj (ax d);injection this with i this;injection this with g this;injection this with n _;injection i with i;injection g with g;injection n with n;subst n;rw[y]at f;cases f;have s:=UM o w r ok.jr.p.all q.jr.p.all;obtain⟨a,b,c⟩:=j;obtain⟨D,C,B⟩:=l;simp only at i g s;rw[i,g,s]
noncomputable def XY(J:List Sx):List KK:=J.map (·.key)
noncomputable def keysOf(JL:List JT):List KK:=JL.flatMap λj=>XY j.2.2
theorem NV (o:hI T)(h:tN T j):j.2.2.length<=52:=by have:=h.jr.p.len o;have:=o.n1;omega
theorem P8 (o:hI T){JL:List JT}(h:∀j∈JL,tN T j):(keysOf JL).length<=52*JL.length:=by
 induction JL with
|nil=>exact Nat.le_refl _
|cons j JL a=>have d:=a λx b=>h x (ar _ b);have c:=NV o (h j ay);show(XY j.2.2++keysOf JL).length<=_;rw[aq];unfold XY;rw[lm,aR];omega
theorem P9(JL:List JT)(j:JT):keysOf (JL++[j])=keysOf JL++XY j.2.2:=by unfold keysOf;rw[fS];congr 1;simp
structure Good(H:Hp)(T:Tb)(xs:List V)(JL:List JT):Prop where
 ja:bZ (JA H) xs JL
 nd:(JL.map mf).Nodup
 ok:∀j∈JL,tN T j
theorem Good.nil  :Good H T [] []:=⟨.nil,fq,λ_ h=>nomatch h⟩
theorem Good.uniq  (o:hI T) (h:Good H T xs JL)(h':Good H T xs c):JL=c:=by
 obtain⟨i,g,ok⟩:=h;obtain⟨b,f,a⟩:=h';clear g f;induction i generalizing c with
|nil=>cases b;rfl
|cons q t l=>
  cases b with
 |cons e t'=>rw[NW o q e (ok _ ay) (a _ ay),l (λj d=>ok j (ar _ d)) t' λj d=>a j (ar _ d)]
theorem Good.snoc      (h:Good H T xs JL)(a:JA H v j)(ok:tN T j)(n:mf j∉JL.map mf):Good H T (xs++[v]) (JL++[j]):=by
 refine⟨cA h.ja a,?_,λx hx=>?_⟩
 .rw[aG];exact NN h.nd n
 .rcases aF.mp hx with hx|hx
  .exact h.ok x hx
  .rw[aI]at hx;rw[hx];exact ok
theorem Good.take    (h:Good H T xs JL)(n:Nat):Good H T (xs.take n) (JL.take n):=⟨UY h.ja n,by rw[List.map_take];exact h.nd.sublist (List.take_sublist n _),λj a=>h.ok j (br a)⟩
theorem Good.iff  {xs:List V}(c:∀v∈xs,oy H v)(s:fy H H'):Good H' T xs JL↔Good H T xs JL:=by
 constructor
 .rintro ⟨b,a,ok⟩;refine⟨?_,a,ok⟩;clear a ok;induction b with
 |nil=>exact .nil
 |cons q t d=>exact .cons (q.back (c _ ay) s) (d λv e=>c v (ar _ e))
 .exact λ⟨b,a,ok⟩=>⟨Paired.mY b λ_ _ q=>q.same s,a,ok⟩
noncomputable def pG(H:Hp)(T:Tb)(xs:List V)(n:Nat):Prop:=∃JL v,Good H T (xs.take n) JL/\xs[n]?=some v/\∀j,JA H v j->tN T j->mf j∈JL.map mf
theorem pG.good  (o:hI T){n:Nat}(h:pG H T xs n)(g:Good H T xs JL):False:=by
 obtain⟨l,v,g',a,i⟩:=h;have e:=(g.take n).uniq o g';have d:=aV g.ja;have b:n<JL.length:=by rw[<-d];exact(aj.mp a).1
 have f:=ZI g.ja a (gE b);have:=i _ f (g.ok _ (aB b));rw[<-e]at this;obtain⟨x,c,ex⟩:=ao.mp this;obtain⟨m,hm,em⟩:=List.mem_iff_getElem.mp c;rw[aN]at hm;have j:(JL.map mf)[m]'(by rw[lm];omega)=(JL.map mf)[n]'(by rw[lm];omega):=by rw[List.getElem_map,List.getElem_map,<-ex,<-em,List.getElem_take]
 have:=(gH g.nd).mp j;omega
theorem pG.le  (o:hI T){n m:Nat}(h:pG H T xs n)(h':pG H T xs m):m<=n:=by
 rcases Nat.lt_or_ge n m with hn|hn
 .exfalso;obtain⟨e,f,g',c,d⟩:=h';obtain⟨JL,v,g,a,b⟩:=h;refine pG.good (n:=n) o ⟨JL,v,?_,?_,b⟩ g'
  .rw[List.take_take,Nat.min_eq_left (Nat.le_of_lt hn)];exact g
  .rw[gC hn];exact a
 .exact hn
theorem pG.uniq  (o:hI T){n m:Nat}(h:pG H T xs n)(h':pG H T xs m):n=m:=Nat.le_antisymm (h'.le o h) (h.le o h')
theorem pG.iff  {xs:List V}{n:Nat}(c:∀v∈xs,oy H v)(s:fy H H'):pG H' T xs n↔pG H T xs n:=by
 constructor
 .rintro ⟨JL,v,g,a,d⟩;exact⟨JL,v,(Good.iff (λv a=>c v (br a)) s).mp g,a,λj b ok=>d j (b.same s) ok⟩
 .rintro ⟨JL,v,g,a,d⟩;exact⟨JL,v,(Good.iff (λv a=>c v (br a)) s).mpr g,a,λj b ok=>d j (b.back (c v (aK a)) s) ok⟩
noncomputable def WY(C Cn:Addr):Sp:=λvs H Q E=>∃(t:Addr)(T:Tb)(xv:V),vs=[.ref t,xv]/\qE H C t T/\hI T /\((∃T',Th H xv T'/\T'≠"list"/\T'≠"tuple"/\∀H' d,fy H H'->H' d=some (XD d [("at",.non)])->E (.ref Cn) (some d) H') \/∃l xs,xv=.ref l/\(H l=some (.lst xs)\/H l=some (.tup xs))/\xs.length<=40/\(∀v∈xs,oy H v)/\(∀n:Nat,pG H T xs n->∀H' d,fy H H'->H' d=some (XD d [("at",.int n)])->E (.ref Cn) (some d) H') /\∀JL,Good H T xs JL->∀H' p f5,fy H H'->H p=none->H' p=some (.dT f5)->oo f5 (keysOf JL)->Q (.ref p) H')
section
variable {P:Program}{w:World}{K:ae}{mg:Str->Option Value}{base:Heap}{C Cn:Addr}{Cs:Nat->Addr}
theorem XS:fx [jL,"journeys","persons","plan","at","journey","key"] [jL,"journeys"] (Ze T.oG):=jX
theorem LD(B:∀x∈jO,mg x=none)(BJ:zE P w K mg base "NoJourney" ["at"] Cn)(CJ:hY P w K mg base 7 "is_journey" [jL,jt] (Ep C))(D:Df K mg "joined" T.oG [jL,"journeys"]):tQ P w K mg base 8 "joined" [jL,"journeys"] (WY C Cn):=by
 refine D.A4 XS λf dO A outer s H vs Q E hr h=>?_;obtain⟨t,T,xv,rfl,mL,ok,h⟩:=h;refine' ⟨_,(Za ?da (Za (st 2 XS.nd JZ) (Za (st 3 XS.nd JZ) (Za ?c9 (Zc (Zk (pv 3))))))),?rd⟩;case' c9=>refine' (ZX PassesOwn.leaving rfl (PH rfl (bm B) (ju (pv 1)) (by decide +kernel)) (YM rfl (Zq (jG 4 XS.nd) (Zq (jG 5 XS.nd) Ym))) (Za ?dg (Za ?dd (Zc ?dc))))
 case' da=>refine' (ZA (ZK (ZH (Zw Ng rfl (bm B) dj (jz (pv 1) ?h1)))) (Zc (MS (E:=E) BJ Ey rfl hr.m rfl (ju ZJ))) Zn)
 case' dc=>refine' (ZX PassesOwn.leaving rfl (Yd (it K (pv 5) Zb)) (jG 6 XS.nd) (Zc ?dn))
 case' dd=>refine' (Y9 (Z0 hr) (pv 2) (Zx (jz (it K (pv 5) Zb) (it K (pv 5) Zb))) YU rfl)
 case' dg=>refine' (ZA (PW.pt (YK (ZK (ZH (cn CJ hr (jz (pv 0) (pv 5))))) (YJ (Zo (KG (Z0 hr)) (Zx (jz (it K (pv 5) Zb) (it K (pv 5) Zb))) (pv 2) (by with_unfolding_all rfl))))) (Zc (MS (E:=E) BJ Ey rfl hr.m rfl (ju (pv 4)))) Zn)
 case' dn=>refine' (Y9 (Z0 hr) (pv 3) (pv 6) (Zr ZL (G2 (Z0 hr) (pv 3) (pv 6) Zb ⟨rfl,rfl,rfl,rfl⟩) Zb) rfl)
 case' h1=>refine' (Zx (jz (V4 (v:=V.ty "list") rfl (bm B) XN rfl) (V4 (v:=V.ty "tuple") rfl (bm B) YQ rfl)))
 case' rd=>
 refine my λD0 bT cH=>?_;refine⟨_,rfl,zl,λlt cT=>?_⟩;have a:fy H (upd H lt (.tup [V.ty "list",V.ty "tuple"])):=sameNew (fy.refl H) cT;have e1:upd H lt (.tup [V.ty "list",V.ty "tuple"]) lt=some (.tup [V.ty "list",V.ty "tuple"]):=Zd;generalize upd H lt (.tup [V.ty "list",V.ty "tuple"])=H1 at a e1 ⊢;rcases h with⟨T',th,n1,n2,k⟩|⟨l,xs,rfl,hl,hlen,c1,kE,kQ⟩
 .refine⟨xv,lt,["list","tuple"],T',_,rfl,th.same a,e1,(th.same a).rX,_,rfl,?_⟩;rw[decide_eq_false (λz=>z.elim n1 n2)];refine jC ?_;exact⟨rfl,λH2 d' hd e hb=>k H2 d' (a.trans λc o ec=>by rw[hb c (fi ec hd)];exact ec) e⟩
 obtain⟨T',th,hT⟩:∃T',Th H1 (.ref l) T'/\(T'="list"\/T'="tuple"):=by
  rcases hl with hl|hl
  .exact⟨_,.lst (a _ _ hl),.inl rfl⟩
  .exact⟨_,.tup (a _ _ hl),.inr rfl⟩
 refine⟨.ref l,lt,["list","tuple"],T',_,rfl,th,e1,th.rX,_,rfl,?_⟩;rw[decide_eq_true hT];refine jI (bT _ _ (tq λD1 bM=>?_));clear bT cH;refine λd a4=>?_;refine bM _ _ (tq λD2 bx=>?_);try dsimp only[Zp,av]
 refine λpl M=>?_;refine bx _ _ (my λD3 c0 dy=>?_);clear bM bx;try dsimp only[Zp,av]
 have U:d≠pl:=λz=>by rw[z,Zd]at M;cases M
 have F:H1 pl=none:=by rw[Zf U.symm]at M;exact M
 have S3:fy H1 (upd (upd H1 d (.dT [])) pl (.dT [])):=λc o e=>by rw[Zf (fi e F),Zf (fi e a4)];exact e
 have ed:upd (upd H1 d (.dT [])) pl (.dT []) d=some (.dT []):=by rw[Zf U];exact Zd
 have ep:upd (upd H1 d (.dT [])) pl (.dT []) pl=some (.dT []):=Zd;generalize upd (upd H1 d (.dT [])) pl (.dT [])=H3 at S3 ed ep ⊢;have cb:H pl=none:=by
  cases e:H pl with
 |none=>rfl
 |some o=>rw[a _ _ e]at F;cases F
 clear M th;have cX:H3 l=some (.lst xs)\/H3 l=some (.tup xs):=hl.imp (λe=>S3 _ _ (a _ _ e)) λe=>S3 _ _ (a _ _ e);have p:∀{H':Hp},fy H1 H'->H3 l=H' l:=λ{H'}s=>by
  rcases hl with e|e
  .rw[S3 _ _ (a _ _ e),s _ _ (a _ _ e)]
  .rw[S3 _ _ (a _ _ e),s _ _ (a _ _ e)]
 refine⟨_,rfl,l,xs,rfl,cX,λJt c5=>?_⟩;obtain⟨c3,cE,cm⟩:=c5;refine Yc (J:=Jt) xs.length (λi σ H'=>fy H1 H'/\(∃r I JL,H' d=some (.dT r)/\H' pl=some (.dT I)/\Good H T (xs.take i) JL/\oo I (keysOf JL)/\r.length<=i/\∀g n,(f' r [.inr g,.inl n]).isSome=true↔(g,n)∈JL.map mf)/\∃o:Nat->Option V,σ=[some (.ref t),some (.ref l),some (.ref d),some (.ref pl),o 4,o 5,o 6]) ?_ (λi σ H' hi q=>c3 i H' (p q.1) hi) (λσ H' q=>cE H' (p q.1)) (λi σ H' v H4 hi q yl=>?_) (λσ H' q=>?_)
 .exact⟨S3,⟨[],[],[],ed,ep,Good.nil,oo.nil,Nat.zero_le _,λg n=>by simp[f']⟩,j9 rfl⟩
 .obtain⟨s1,⟨r,I,JL,ed,ep,gd,cn,cY,kn⟩,o,rfl⟩:=q;obtain⟨t3,y,cC,hy,rfl,rfl⟩:=cm i H' _ _ (p s1) yl;have et:upd H' t3 (.tup [.int i,y]) t3=some (.tup [.int i,y]):=Zd;have S4:fy H' (upd H' t3 (.tup [.int i,y])):=sameNew (fy.refl H') cC;generalize upd H' t3 (.tup [.int i,y])=H4 at et S4 ⊢;refine⟨t3,_,rfl,hO.of et,rfl,?_⟩;try dsimp only[Zp,av]
  refine⟨_,_,rfl,_,_,rfl,rfl,?_⟩;try dsimp only[Zp,av]
  refine td λD' c6=>?_;have aM:=s1.trans S4;have Y:=a.trans aM;have aS:=c1 y (aK hy);have dP:JL.length<=40:=by have:=aV gd.ja;rw[aN]at this;omega
  refine my λD4 bb cG=>?_;have raise:∀R,fy H4 R->pG H T xs i->Sg Cn [Str.ofString "at"] (Y7 (lC 4) jn) E D4 [some (.ref t),some (.ref l),some (.ref d),some (.ref pl),some (.int i),some y,o 6] R:=λR s5 hb=>by refine⟨_,rfl,rfl,λH6 d' hd e W=>?_⟩;exact kE i hb H6 d' ((Y.trans s5).trans λc o ec=>by rw[W c (fi ec hd)];exact ec) e
  refine⟨_,rfl,_,rfl,t,T,y,rfl,mL.same Y,ok,aS.same Y,λb R S5 hb=>⟨_,rfl,?_⟩⟩;rw[tP.iff aS Y]at hb;refine Z7 (λe=>jC (raise R S5 ⟨JL,y,gd,hy,λj hj L=>?_⟩)) (λe=>?_)
  .rw[hb.mpr ⟨j,hj,L⟩]at e;cases e
  have W:b=true:=by simpa using e
  obtain⟨j,hj,L⟩:=hb.mp W;clear e hb W;have b0:=hj;obtain⟨q,lk,ks,rfl,hq,X,kl⟩:=hj;have b5:=aM.trans S5;have dv:=a.trans b5;have a3:=dv _ _ hq;refine⟨_,rfl,q,_,_,_,rfl,rfl,hO.of a3,Zj (j:=0) rfl,_,rfl,q,_,_,_,rfl,rfl,hO.of a3,Zj (j:=1) rfl,ZE (by show 2<=1000;decide),λq2 cN=>?_⟩;have S6:fy R (upd R q2 (.tup [.str j.1,.int j.2.1])):=sameNew (fy.refl R) cN;have e6:upd R q2 (.tup [.str j.1,.int j.2.1]) q2=some (.tup [.str j.1,.int j.2.1]):=Zd;generalize upd R q2 (.tup [.str j.1,.int j.2.1])=H6 at S6 e6 ⊢;have b4:=b5.trans S6;have b3:=S6 _ _ (S5 _ _ (S4 _ _ ed));have dr:=S6 _ _ (S5 _ _ (S4 _ _ ep));refine⟨_,rfl,d,_,rfl,j8.t (k:=[.inr j.1,.inl j.2.1]) b3 e6,_,rfl,?_⟩;refine Z7 (λe=>raise H6 (S5.trans S6) ⟨JL,.ref q,gd,hy,λj' c2 b6=>?_⟩) (λe=>bb _ _ (tq λD5 a6=>?_))
  .rw[NW ok c2 b0 b6 L];exact(kn j.1 j.2.1).mp e
  clear bb cG raise;have cP:f' r [.inr j.1,.inl j.2.1]=none:=by
   cases z:f' r [.inr j.1,.inl j.2.1]with
  |none=>rfl
  |some u=>rw[z]at e;cases e
  have cc:mf j∉JL.map mf:=λz=>by have:=(kn j.1 j.2.1).mpr z;rw[cP]at this;cases this
  have a0:=(a.trans b4) _ _ hq;refine⟨_,rfl,_,rfl,q,_,_,_,rfl,rfl,hO.of a0,Zj (j:=0) rfl,_,rfl,q,_,_,_,rfl,rfl,hO.of a0,Zj (j:=1) rfl,ZE (by show 2<=1000;decide),λq3 cK=>?_⟩;have S7:fy H6 (upd H6 q3 (.tup [.str j.1,.int j.2.1])):=sameNew (fy.refl H6) cK;have e7:upd H6 q3 (.tup [.str j.1,.int j.2.1]) q3=some (.tup [.str j.1,.int j.2.1]):=Zd;generalize upd H6 q3 (.tup [.str j.1,.int j.2.1])=H7 at S7 e7 ⊢;have dt:=S7 _ _ b3;have dp:=S7 _ _ dr;have dx:=b4.trans S7;refine⟨d,_,rfl,mI.t (k:=[.inr j.1,.inl j.2.1]) dt e7 (Nat.lt_of_le_of_lt (by omega:r.length<=1000) (by decide)),?_⟩;have b2:upd H7 d (.dT (putK r [.inr j.1,.inl j.2.1] (.bl true))) d=some (.dT (putK r [.inr j.1,.inl j.2.1] (.bl true))):=Zd;have b1:upd H7 d (.dT (putK r [.inr j.1,.inl j.2.1] (.bl true))) pl=some (.dT I):=by rw[Zf U.symm];exact dp
  have Z:fy H1 (upd H7 d (.dT (putK r [.inr j.1,.inl j.2.1] (.bl true)))):=λc o e=>by rw[Zf (fi e a4)];exact dx _ _ e
  generalize upd H7 d (.dT (putK r [.inr j.1,.inl j.2.1] (.bl true)))=H8 at b2 b1 Z ⊢;refine a6 _ _ ?_;clear a6;have cI:=Z _ _ (a _ _ hq);have cf:=Z _ _ (a _ _ X);have ck:=kl.len;refine⟨_,rfl,q,_,_,_,rfl,rfl,hO.of cI,Zj (j:=2) rfl,lk,rfl,⟨_,gp.of cf⟩,?_⟩;refine Yc (J:=oi K lk) ks.length (λm σ H'=>fy H1 H'/\H' d=some (.dT (putK r [.inr j.1,.inl j.2.1] (.bl true)))/\(∃I,H' pl=some (.dT I)/\oo I (keysOf JL++XY (j.2.2.take m)))/\∃o:Nat->Option V,σ=[some (.ref t),some (.ref l),some (.ref d),some (.ref pl),o 4,o 5,o 6]) ?_ (λm σ H' hm q=>⟨_,ks[m],gp.of (q.1 _ _ (a _ _ X)),gE hm⟩) (λσ H' q=>⟨_,gp.of (q.1 _ _ (a _ _ X)),Nat.le_refl _⟩) (λm σ H' v H9 hm q yl=>?_) (λσ H' q=>?_)
  .exact⟨Z,b2,⟨I,b1,by rw[List.take_zero];show oo I (keysOf JL++[]);rw[ba];exact cn⟩,j9 rfl⟩
  .obtain⟨s9,ak,⟨ag,N,G⟩,o9,rfl⟩:=q;obtain⟨rfl,cx⟩:=yl;have cB:=cx _ (gp.of (s9 _ _ (a _ _ X)));have cR:m<j.2.2.length:=by omega
   have eS:=gE cR;obtain⟨kb,rfl,a5⟩:=ZI kl cB eS;have O:=s9 _ _ (a _ _ a5);have ab:XY (j.2.2.take (m+1))=XY (j.2.2.take m)++[j.2.2[m].key]:=by unfold XY;rw[a9,eS,aG];rfl
   generalize j.2.2[m]=S at a5 O ab;try dsimp only[Zp,av]
   refine td λD9 c7=>?_;have du:=j8.t (k:=S.key) N O;have aC:ag.length<=100000:=by have h1:=G.len;have h2:=P8 ok gd.ok;have h3:=NV ok L;unfold XY at h1;rw[aq,lm,aN]at h1;omega
   refine⟨_,rfl,pl,rfl,.inr ⟨_,.inl N⟩,_,rfl,_,du,_,_,G.get S.key,rfl,_,rfl,_,rfl,pl,_,rfl,mI.t (k:=S.key) N O (Nat.lt_of_le_of_lt aC (by rw[cW];decide)),?_⟩;refine c7 _ _ ⟨λc o e=>?_,?_,⟨_,Zd,?_⟩,j9 rfl⟩
   .rw[Zf (fi e F)];exact s9 _ _ e
   .rw[Zf U];exact ak
   .rw[ab,<-b_];exact G.add S.key
  .obtain⟨s9,ak,⟨ag,N,G⟩,o9,rfl⟩:=q;rw[ck,aP]at G;refine c6 _ _ ⟨s9,⟨_,ag,JL++[j],ak,N,?_,by rw[P9];exact G,Nat.le_trans Py (by omega),λg n=>?_⟩,j9 rfl⟩
   .rw[a9,hy];exact gd.snoc b0 L cc
   rw[YW,aG];by_cases e:([.inr g,.inl n]:List Key)=[.inr j.1,.inl j.2.1]
   .rw[if_pos e];injection e with e1 e2;injection e1 with e1;injection e2 with e2 _;injection e2 with e2;subst e1 e2;simp[mf]
   .rw[if_neg e,kn g n];constructor
    .exact λh=>bj _ h
    .intro h;rcases aF.mp h with h|h
     .exact h
     .simp[mf]at h;exact absurd (by rw[h.1,h.2]) e
 .obtain⟨s1,⟨r,I,JL,ed,ep,gd,cn,cY,kn⟩,o,rfl⟩:=q;rw[aP]at gd;exact c0 _ _ ⟨_,rfl,kQ JL gd _ pl I (a.trans s1) cb ep cn⟩
end
theorem rj{K:ae}{H:Hp}{v:V}{T:String}(h:Th H v T):az K (.type T) (.type "str")=some (decide (T="str")):=by cases h<;>(unfold az;first|rfl|decide +kernel|(show _=_;simp;rfl))
theorem F7:∀{a b:Key},kV a=kV b->a=b
|.inl a,.inl b,h=>by have:V.int a=.int b:=h;injection this with h;rw[h]
|.inr a,.inr b,h=>by have:V.str a=.str b:=h;injection this with h;rw[h]
|.inl a,.inr b,h=>by have:V.int a=.str b:=h;cases this
|.inr a,.inl b,h=>by have:V.str a=.int b:=h;cases this
theorem K9:∀{a b:KK},a.map kV=b.map kV->a=b
|[],[],_=>rfl
|[],_::_,h=>by cases h
|_::_,[],h=>by cases h
|x::a,y::b,h=>by rw[aA,aA]at h;injection h with d c;rw[F7 d,K9 c]
theorem QB   (h:Th H (.str z) a):a="str":=by cases h;rfl
theorem GG   (h:Th H v a)(e:a="str"):∃z,v=.str z/\z.length<=1000:=by
 cases h with
|str z h=>exact⟨z,rfl,h⟩
|_=>exact absurd e (by decide)
theorem MF :K1.Gx v=true↔∃i,v=.int i:=by cases v<;>simp[K1.Gx,Rh]
theorem DT{us:List V}(h:∀u∈us,∃i:Int,u=.int i):∃is:List Int,us=is.map V.int:=by
 induction us with
|nil=>exact⟨[],rfl⟩
|cons u us a=>obtain⟨i,rfl⟩:=h u ay;obtain⟨is,rfl⟩:=a λx b=>h x (ar _ b);exact⟨i::is,rfl⟩
theorem XZ (o:hI T){S:Sx}(h:S∈ic T):∃a b,S.key=[.inr a,.inr b]\/∃i,S.key=[.inr a,.inr b,.inl i]:=by
 obtain⟨j,is⟩:=Yz o h;rcases is with⟨y,c,i,e,f,d,_,rfl⟩|⟨y,c,e,_,rfl⟩|⟨y,c,i,e,f,d,_,rfl⟩|⟨y,c,i,e,h0,f,d,_,rfl⟩
 .exact⟨_,_,.inr ⟨_,rfl⟩⟩
 .exact⟨_,_,.inl rfl⟩
 .exact⟨_,_,.inr ⟨_,rfl⟩⟩
 .exact⟨_,_,.inr ⟨_,rfl⟩⟩
noncomputable def zC(H:Hp)(T:Tb)(v:V)(S:Sx):Prop:=S∈ic T/\∃a,v=.ref a/\H a=some (.tup (S.key.map kV))
noncomputable def Vk:Sp:=λvs H Q _=>∃(v:V)(T':String),vs=[v]/\Th H v T'/\Q (.bl (K1.Gx v)) H
noncomputable def R5:Sp:=λvs H Q _=>∃(d:Addr)(T:Tb)(v:V),vs=[.ref d,v]/\Dc H d (ic T)/\hI T/\sL H v/\∀b:Bool,(b=true↔∃S,zC H T v S)->Q (.bl b) H
theorem LV (o:hI T){y:List V}(b:y∈T.t1):y.all JX=true:=by obtain⟨⟨nm,a⟩,rfl,_⟩:=Xp o b;cases a<;>rfl
theorem TX (o:hI T)(p:Str)(m:Int):(T.t1.any λr=>XF r [.str p,.non])=true↔SW T (.inr [.inr p,.inl m]):=by
 rw[d8];constructor
 .rintro ⟨y,a,e⟩;obtain⟨⟨nm,b⟩,rfl,_⟩:=Xp o a;cases b with
 |none=>
   have:nm=p:=by simp[XF,jD,X8,rJ,cJ]at e;exact e
   subst this;exact⟨_,a,rfl,m,rfl⟩
 |some i=>simp[XF,jD,X8,rJ,cJ]at e
 .rintro ⟨y,a,c,i,e⟩;obtain⟨⟨nm,b⟩,rfl,_⟩:=Xp o a;injection e with e;injection e with e _;injection e with e;have d:p=nm:=e;subst d;cases b with
 |none=>exact⟨_,a,by simp[XF,jD,X8,rJ,cJ]⟩
 |some i=>cases c
theorem KL{l:List (List V)}(a:(l.map nameOf).Nodup){y:List V}(hy:y∈l):(l.filter λx=>decide (nameOf x=nameOf y))=[y]:=by
 induction l with
|nil=>cases hy
|cons x l b=>
  rw[aA,bf]at a;rcases au.mp hy with rfl|hy
  .rw[gI (by exact decide_eq_true rfl),dH.mpr];intro z hz e;exact a.1 (ao.mpr ⟨z,hz,of_decide_eq_true e⟩)
  .rw[fh (by simpa using λe:nameOf x=nameOf y=>a.1 (ao.mpr ⟨y,hy,e.symm⟩)),b a.2 hy]
theorem KZ (o:hI T)(g:Str)(i:Int):(0<=i/\i<((T.t4.filter λy=>decide (nameOf y=g)).map λy=>iA y 3).sum)↔∃y∈T.t4,nameOf y=g/\0<=i/\i<iA y 3:=by
 constructor
 .intro h;by_cases hm:g∈T.t4.map nameOf
  .obtain⟨y,a,rfl⟩:=ao.mp hm;rw[KL (l:=T.t4) (J2 o (j:=4) (.inr (.inr (.inr rfl)))) a]at h;simp at h;exact⟨y,a,rfl,h.1,h.2⟩
  .rw[dH.mpr λy a e=>hm (ao.mpr ⟨y,a,of_decide_eq_true e⟩)]at h;simp at h;omega
 .rintro ⟨y,a,rfl,h0,b⟩;rw[KL (l:=T.t4) (J2 o (j:=4) (.inr (.inr (.inr rfl)))) a];simp;exact⟨h0,b⟩
noncomputable def WW:Sp:=λvs H Q _=>∃(pw d b l1 l2 l3 l4:Addr)(T:Tb)(v:V),vs=[.ref pw,.ref d,v]/\nr b H pw T l1 l2 l3 l4/\Dc H d (ic T)/\hI T/\oy H v/\∀(b:Bool)H',fy H H'->(b=true↔tP H T v)->Q (.bl b) H'
section
variable {P:Program}{w:World}{K:ae}{mg:Str->Option Value}{base:Heap}
theorem Ny:fx [qc] [qc] (Ze T.lM):=jX
theorem RB(B:∀x∈jO,mg x=none)(D:Df K mg "_law_whole" T.lM [qc]):hY P w K mg base 1 "_law_whole" [qc] Vk:=by
 refine D.cn Ny λf l A outer s H vs Q E n h=>?_;obtain⟨v,a,rfl,d,k⟩:=h;refine⟨_,(Zc (Zk (Xa (YD (c:="int") (pv 0) rfl (bm B) rfl (bm B) VO) (YN (Q1 (YD (c:="bool") (pv 0) rfl (bm B) rfl (bm B) N8)))))),?_⟩;have j:∀{K:ae},az K (.type a) (.type "int")=some (decide (a="int"\/a="bool")):=by intro K;cases d<;>(unfold az;first|rfl|decide +kernel|(show _=_;simp;rfl))
 have g:∀{K:ae},az K (.type a) (.type "bool")=some (decide (a="bool")):=by intro K;cases d<;>(unfold az;first|rfl|decide +kernel|(show _=_;simp;rfl))
 refine⟨_,rfl,_,_,_,_,rfl,d.ty,j,_,rfl,?_⟩;cases d with
|int i=>refine jC ?_;exact⟨_,rfl,_,_,_,_,rfl,.int i,g,_,rfl,k⟩
|bl b=>refine jC ?_;exact⟨_,rfl,_,_,_,_,rfl,.bl b,g,_,rfl,k⟩
|non=>exact jI k
|str z h=>exact jI k
|lst e=>exact jI k
|tup e=>exact jI k
|dK e=>exact jI k
theorem My:fx [jF,pH] [jF,pH] (Ze T.k_):=jX
theorem Wv(B:∀x∈jO,mg x=none)(CW:hY P w K mg base 1 "_law_whole" [qc] Vk)(D:Df K mg "_law_is_key" T.k_ [jF,pH]):hY P w K mg base 2 "_law_is_key" [jF,pH] R5:=by
 refine D.cn My λf ab A outer s H vs Q E Y h=>?_;obtain⟨d,T,v,rfl,dc,ok,N,k⟩:=h;refine' ⟨_,(Za ?h5 (Zc ?h6)),?rd⟩;case' h6=>refine' (Zk (Xa (Ag (Yr YV (Zw (r:=j_ K) ZG rfl (bm B) aT (ju (pv 1))) Zb (Zt _)) (YN (cn CW Y (ju (it K (pv 1) Zb))))) (YN (Yr (KG (Z0 Y)) (pv 1) (pv 0) (by with_unfolding_all rfl)))))
 case' h5=>refine' (ZA (PW.pt (YK (ZK (ZH (YD (c:="tuple") (pv 1) rfl (bm B) rfl (bm B) YQ))) (YK (Zo G4 (Zw (r:=j_ K) ZG rfl (bm B) aT (ju (pv 1))) Zb (Zt _)) (YK (ZK (ZH (YD (c:="str") (it K (pv 1) Zb) rfl (bm B) rfl (bm B) Mu))) (YJ (ZK (ZH (YD (c:="str") (it K (pv 1) Zb) rfl (bm B) rfl (bm B) Mu)))))))) (Zc (Zk YU)) Zn)
 case' rd=>
 refine my λD0 J n=>?_;rcases N with⟨T',L,X⟩|⟨a,xs,rfl,u,hl,hit,U⟩
 .refine⟨_,rfl,_,_,_,_,rfl,L.ty,(by rw[L.ri,decide_eq_false X]),_,rfl,?_⟩;refine jC ?_;exact jC (n _ _ (k false (ff λ⟨S,_,a,e,hz⟩=>VD L X e hz)))
 have G:∀S,zC H T (.ref a) S->S∈ic T/\xs=S.key.map kV:=λS hZ=>by obtain⟨g,a',e,hz⟩:=hZ;cases e;rw[u]at hz;exact⟨g,HO.tup.inj (ax hz)⟩
 refine⟨_,rfl,_,_,_,_,rfl,.tup u,Gn,_,rfl,?_⟩;refine jI ?_;refine⟨_,rfl,a,_,rfl,.inr (hO.of u),_,_,rfl,rfl,_,rfl,?_⟩;refine Z7 (λe=>?_) (λe=>?_)
 .refine jC (n _ _ (k false (ff λ⟨S,g⟩=>?_)));obtain⟨y,rfl⟩:=G S g;obtain⟨p,q,l|⟨i,l⟩⟩:=XZ ok y<;>(rw[l]at e;simp at e)
 obtain⟨x0,F,rest,rfl⟩:∃x0 F rest,xs=x0::F::rest:=by
  cases xs with
 |nil=>simp at e
 |cons x0 xs=>
   cases xs with
  |nil=>simp at e
  |cons F rest=>exact⟨x0,F,rest,rfl⟩
 clear e;obtain⟨⟨T0,t0⟩,_⟩:=hit x0 ay;obtain⟨⟨T1,t1⟩,_⟩:=hit F (ar _ ay);refine⟨_,rfl,a,_,_,_,rfl,rfl,hO.of u,Zj (j:=0) rfl,_,_,_,_,rfl,t0.ty,rj t0,_,rfl,?_⟩;refine Z7 (λe=>jC (n _ _ (k false (ff λ⟨S,g⟩=>?_)))) (λe0=>?_)
 .obtain⟨y,b⟩:=G S g;obtain⟨p,q,l|⟨i,l⟩⟩:=XZ ok y<;>(rw[l]at b;injection b with b _;rw[b]at t0;rw[QB t0]at e;simp at e)
 refine⟨_,rfl,a,_,_,_,rfl,rfl,hO.of u,Zj (j:=1) rfl,_,_,_,_,rfl,t1.ty,rj t1,_,rfl,?_⟩;refine Z7 (λe=>n _ _ (k false (ff λ⟨S,g⟩=>?_))) (λe1=>?_)
 .obtain⟨y,b⟩:=G S g;obtain⟨p,q,l|⟨i,l⟩⟩:=XZ ok y<;>(rw[l]at b;injection b with _ b;injection b with b _;rw[b]at t1;rw[QB t1]at e;simp at e)
 obtain⟨C,rfl,_⟩:=GG t0 (by simpa using e0);obtain⟨z,rfl,_⟩:=GG t1 (by simpa using e1);refine J _ _ ?_;clear J n e0 e1 t0 t1;obtain⟨o,Z,pr⟩:=dc.ord (VP ok);have fin:∀kk:KK,V.str C::V.str z::rest=kk.map kV->((f' o kk).isSome=true↔∃S,zC H T (.ref a) S):=λkk I=>by
  have hm:(f' o kk).isSome=true↔kk∈(ic T).map (·.key):=by
   rw[<-Jp pr];constructor
   .intro h;obtain⟨v,M⟩:=bw.mp h;exact RP M
   .intro h;cases M:f' o kk with
   |none=>exact absurd h (GA M)
   |some v=>rfl
  rw[hm];constructor
  .intro h;obtain⟨S,g,rfl⟩:=ao.mp h;exact⟨S,g,a,rfl,by rw[<-I];exact u⟩
  .rintro ⟨S,g⟩;obtain⟨y,h2⟩:=G S g;exact ao.mpr ⟨S,y,(K9 (I.symm.trans h2)).symm⟩
 refine⟨_,rfl,a,_,rfl,.inr (hO.of u),rfl,_,rfl,?_⟩;cases rest with
|nil=>refine jC ⟨true,rfl,jC ?_⟩;exact⟨_,rfl,_,rfl,d,_,rfl,j8.t (k:=[.inr C,.inr z]) Z u,k _ (fin [.inr C,.inr z] rfl)⟩
|cons W rest=>
  refine Z7 (λe=>?_) (λ_=>?_)
  .simp at e;omega
  obtain⟨⟨T2,t2⟩,_⟩:=hit W (ar _ (ar _ ay));refine⟨_,rfl,a,_,_,_,rfl,rfl,hO.of u,Zj (j:=2) rfl,W,T2,rfl,t2,_,rfl,?_⟩;refine Z7 (λe=>?_) (λe=>?_)
  .obtain⟨i,rfl⟩:=MF.mp e;obtain⟨is,R⟩:=DT U;have O:rest=is.map V.int:=R;subst O;have hk:V.str C::V.str z::V.int i::is.map V.int=([.inr C,.inr z,.inl i]++is.map .inl:KK).map kV:=by rw[aG,cO];rfl
   exact⟨_,rfl,_,rfl,d,_,rfl,j8.t (k:=[.inr C,.inr z,.inl i]++is.map .inl) Z (by rw[<-hk];exact u),k _ (fin _ hk)⟩
  .refine k false (ff λ⟨S,g⟩=>?_);obtain⟨y,b⟩:=G S g;obtain⟨p,q,l|⟨i,l⟩⟩:=XZ ok y
   .rw[l]at b;injection b with _ b;injection b with _ b;cases b
   .rw[l]at b;injection b with _ b;injection b with _ b;injection b with b _;rw[b]at e;cases e
theorem Yq:fx [kR,jF,pH,mR,"_law_node","_law_key"] [kR,jF,pH] (Ze T.jM):=jX
noncomputable def XG:Scope:=tG [(".0",.local),(q9,.local),(pH,.free)]
theorem JP:jm XG (Ze T.jM):=⟨rfl,by decide +kernel,by decide +kernel,by decide +kernel⟩
theorem JR:([q9,pH]:List Str).Nodup:=by decide +kernel
theorem JQ:ji [kR,jF,pH,mR,"_law_node","_law_key"] XG [q9,pH] [none,some 2]:=.mk' (by decide +kernel)
theorem LA(B:∀x∈jO,mg x=none)(CW:hY P w K mg base 1 "_law_whole" [qc] Vk)(CK:hY P w K mg base 2 "_law_is_key" [jF,pH] R5)(D:Df K mg "_law_is_journey" T.jM [kR,jF,pH]):hY P w K mg base 3 "_law_is_journey" [kR,jF,pH] WW:=by
 refine D.cn Yq λf c7 A outer s H vs Q E hr h=>?_;obtain⟨pw,d,b,l1,l2,l3,l4,T,v,rfl,tb,dc,ok,F,k⟩:=h;refine' ⟨_,(Za ?cX (Za ?cT (Za ?cR (Za (st 4 Yq.nd (it K (pv 2) Zb)) (Za ?cP (Zc ?cN)))))),?rd⟩;case' cN=>refine' (Zk (Yr (G5 hr.units) (Zx (jz (it K (pv 4) Zb) ZJ)) (il K (pv 0) Zb) (by with_unfolding_all rfl)))
 case' cP=>refine' (ZX aL rfl (Yd (it K (pv 2) Zb)) (jG 5 Yq.nd) (Za ?c0 (Zc ?cY)))
 case' cR=>refine' (ZA (PW.pt (YK (ZK (ZH (cn CW hr (ju (it K (pv 2) Zb))))) (YK (ZK (Pz PN G4 Zb (it K (pv 2) Zb) (pv 3))) (YK (ZK (ZH (YD (c:="list") (it K (pv 2) Zb) rfl (bm B) rfl (bm B) XN))) (YJ (Zo (PQ hr.units) (it K (pv 2) Zb) (ZD Zl) (Zt _))))))) (Zc (Zk YU)) Zn)
 case' cT=>refine' (st 3 Yq.nd (Zw (Wx rfl) rfl (bm B) PyProof.Rows.boot_sum (ju (JF rfl JP JQ (Yd (il K (pv 0) Zb)) (λC s H ex pn=>(jG 0 JR)) (λC s H ex pn=>(Vm (Zo YV (it K (pv 0) Zb) (it K (pv 1) Zb) (Zt _)))) (λC s H ex pn=>(it K (pv 0) Zb))))))
 case' cX=>refine' (ZA (PW.pt (YK (ZK (ZH (YD (c:="tuple") (pv 2) rfl (bm B) rfl (bm B) YQ))) (YK (Zo U0 (Zw (r:=j_ K) ZG rfl (bm B) aT (ju (pv 2))) Zb (Zt _)) (YJ (ZK (ZH (YD (c:="str") (it K (pv 2) Zb) rfl (bm B) rfl (bm B) Mu))))))) (Zc (Zk YU)) Zn)
 case' cY=>refine' (st 4 Yq.nd (it K (YR (Z0 hr) (pv 1) (pv 5) (λ_ _=>rfl)) Zb))
 case' c0=>refine' (ZA (PW.pt (YK (ZK (ZH (cn CK hr (jz (pv 1) (pv 5))))) (YJ (Zo (Q4 hr.units) (it K (YR (Z0 hr) (pv 1) (pv 5) (λ_ _=>rfl)) Zb) (pv 4) (Zt _))))) (Zc (Zk YU)) Zn)
 case' rd=>
 refine my λD0 cc ab=>?_;rcases F with⟨T',th,nt⟩|⟨q,xs,rfl,hq,hl,F⟩
 .refine⟨_,rfl,_,_,_,_,rfl,th.ty,(by rw[th.ri,decide_eq_false nt]),_,rfl,?_⟩;refine jC ?_;exact jC (ab _ _ (k false _ (fy.refl _) (ff λ⟨j,⟨t',lk,ks,e,ht,_⟩,_⟩=>VD th nt e ht)))
 refine⟨_,rfl,_,_,_,_,rfl,.tup hq,Gn,_,rfl,?_⟩;refine jI ?_;refine⟨_,rfl,q,_,rfl,.inr (hO.of hq),rfl,_,rfl,?_⟩;refine Z7 (λe=>?_) (λe=>?_)
 .refine jC (ab _ _ (k false _ (fy.refl _) (ff λ hZ=>?_)));obtain⟨j,⟨t',lk,ks,e',ht,_⟩,_⟩:=hZ;cases e';rw[hq]at ht;cases ht;simp at e
 have h3:xs.length=3:=by
  have q:decide (V.int (xs.length:Int)=V.int 3)=true:=by simpa using e
  have q:=of_decide_eq_true q;injection q with q;omega
 rcases F with F|⟨x,n,kv,rfl,⟨T1,t1⟩,⟨T2,t2⟩,F⟩
 .exact absurd h3 F
 clear e;have ja:∀j,JA H (.ref q) j->x=.str j.1/\n=.int j.2.1/\∃lk ks,kv=.ref lk/\H lk=some (.lst ks)/\j7 H ks j.2.2:=λj hZ=>by obtain⟨t',a6,bb,e',ht,N,O⟩:=hZ;cases e';rw[hq]at ht;have:=HO.tup.inj (ax ht);injection this with R this;injection this with h2 this;injection this with h3 _;exact⟨R,h2,a6,bb,h3,N,O⟩
 refine⟨_,rfl,q,_,_,_,rfl,rfl,hO.of hq,Zj (j:=0) rfl,_,_,_,_,rfl,t1.ty,rj t1,_,rfl,?_⟩;refine Z7 (λe=>ab _ _ (k false _ (fy.refl _) (ff λ⟨j,I,_⟩=>?_))) (λe0=>?_)
 .obtain⟨rfl,_⟩:=ja j I;rw[QB t1]at e;simp at e
 obtain⟨g,rfl,c5⟩:=GG t1 (by simpa using e0);clear e0;refine cc _ _ (tq λD1 cb=>?_);clear cc ab;refine⟨_,rfl,pw,_,_,_,rfl,rfl,gp.of tb.at_,Zj (j:=4) rfl,l4,rfl,⟨_,gp.of tb.gr.2.choose_spec.1⟩,?_⟩;have cC:=(Jo ok).2.2.2;refine JS (J:=oi K l4) T.t4.length (Nat.le_trans cC (by decide)) (λm ys τ H'=>H'=H/\ys=((T.t4.take m).filter λy=>decide (nameOf y=g)).map (λy=>V.int (iA y 3))/\∃v,τ=[v,some (.ref q)]) ⟨rfl,rfl,none,rfl⟩ (λm ys τ H' q=>?_) (λm ys τ H' hm q=>?_) (λys τ H' q=>?_) (λm ys τ H' x H6 hm q yl=>?_) (λys τ H' q ls b3=>?_)
 .rw[q.2.1,lm];have:=bN (λy=>decide (nameOf y=g)) (T.t4.take m);rw[aN]at this;omega
 .obtain⟨rfl,_⟩:=q;exact tb.gr.go hm
 .obtain⟨rfl,_⟩:=q;exact tb.gr.stop
 .obtain⟨rfl,rfl,v1,rfl⟩:=q;have ak:T.t4[m]∈T.t4:=aB hm;have e0:T.t4[m]?=some T.t4[m]:=gE hm;obtain⟨rfl,c,rfl,nc,hc⟩:=tb.gr.item e0 yl;rw[a9,e0];generalize T.t4[m]=y at ak hc e0;obtain⟨ga,gb,gc,gd,rfl,c6,_⟩:=id (YE ok ak);refine⟨_,rfl,c,_,_,_,rfl,rfl,hO.of hc,Zj (j:=0) rfl,_,rfl,q,_,_,_,rfl,rfl,hO.of hq,Zj (j:=0) rfl,rfl,_,rfl,?_⟩;refine Z7 (λe=>?_) (λe=>?_)
  .have e':ga=g:=by have:=of_decide_eq_true e;injection this
   refine⟨_,rfl,c,_,_,_,rfl,rfl,hO.of hc,Zj (j:=3) rfl,rfl,?_,_,rfl⟩;rw[eV,aG];congr 1;show _=List.map _ (List.filter _ [_]);rw[gI (by exact decide_eq_true e')];rfl
  .have e':ga≠g:=λz=>by rw[z,decide_eq_true rfl]at e;cases e
   refine⟨rfl,?_,_,rfl⟩;rw[eV];have:List.filter (λy=>decide (nameOf y=g)) (some [V.str ga,.str gb,.int gc,.int gd]).toList=[]:=by show List.filter _ [_]=[];rw[fh (by rw[show nameOf [V.str ga,.str gb,.int gc,.int gd]=ga from rfl,decide_eq_false e'];decide)];rfl
   rw[this,ba]
 obtain⟨rfl,rfl,v1,rfl⟩:=q;rw[aP];have U:fy H' (upd H' ls (.lst ((T.t4.filter λy=>decide (nameOf y=g)).map (λy=>V.int (iA y 3))))):=sameNew (fy.refl _) b3;have o:upd H' ls (.lst ((T.t4.filter λy=>decide (nameOf y=g)).map (λy=>V.int (iA y 3)))) ls=some (.lst (((T.t4.filter λy=>decide (nameOf y=g)).map λy=>iA y 3).map V.int)):=by rw[Zd,cO];rfl
 generalize upd H' ls (.lst ((T.t4.filter λy=>decide (nameOf y=g)).map (λy=>V.int (iA y 3))))=H1 at U o ⊢;refine⟨ls,_,rfl,gp.of o,?_⟩;have l:∀i:Int,(0<=i/\i<((T.t4.filter λy=>decide (nameOf y=g)).map λy=>iA y 3).sum)↔∃y∈T.t4,nameOf y=g/\0<=i/\i<iA y 3:=λi=>KZ ok g i;generalize ((T.t4.filter λy=>decide (nameOf y=g)).map λy=>iA y 3).sum=many at l;refine cb _ _ (my λD2 b6 L=>?_);clear cb o b3;try dsimp only[Zp,av]
 have M:=U _ _ hq;refine⟨_,rfl,q,_,_,_,rfl,rfl,hO.of M,Zj (j:=1) rfl,n,T2,rfl,t2.same U,_,rfl,?_⟩;refine Z7 (λe=>jC (L _ _ (k false _ U (ff λ⟨j,I,_⟩=>?_)))) (λe=>?_)
 .obtain⟨_,rfl,_⟩:=ja j I;cases e
 obtain⟨i,rfl⟩:=MF.mp (by simpa using e);clear e;refine⟨_,rfl,q,_,_,_,rfl,rfl,hO.of M,Zj (j:=1) rfl,_,_,rfl,rfl,_,rfl,?_⟩;have X:¬(0<=i/\i<many)->¬tP H' T (.ref q):=λhn⟨j,I,W⟩=>by obtain⟨o,u,_⟩:=ja j I;injection o with o;injection u with u;have:=W.gr;rw[<-o,<-u]at this;exact hn ((l i).mpr this)
 refine Z7 (λh0=>?_) (λh0=>⟨false,rfl,jC (L _ _ (k false _ U (ff (X λz=>by rw[decide_eq_true z.1]at h0;cases h0))))⟩);refine⟨_,rfl,_,_,rfl,rfl,_,rfl,?_⟩;refine Z7 (λR=>jC (L _ _ (k false _ U (ff (X λz=>by rw[decide_eq_true z.2]at R;cases R))))) (λR=>?_);have hg:∃y∈T.t4,nameOf y=g/\0<=i/\i<iA y 3:=(l i).mp ⟨of_decide_eq_true h0,of_decide_eq_true (by simpa using R)⟩;clear h0 R X l;rcases F with⟨T3,t3,n3⟩|⟨lk,ks,rfl,G,c3,cI⟩
 .refine⟨_,rfl,q,_,_,_,rfl,rfl,hO.of M,Zj (j:=2) rfl,_,_,_,_,rfl,(t3.same U).ty,(by rw[vB (t3.same U),decide_eq_false n3]),_,rfl,?_⟩;refine jC (jC (L _ _ (k false _ U (ff λ⟨j,I,_⟩=>?_))));obtain⟨_,_,lk,ks,e,N,_⟩:=ja j I;exact QC t3 n3 e N
 have aC:=U _ _ G;refine⟨_,rfl,q,_,_,_,rfl,rfl,hO.of M,Zj (j:=2) rfl,_,_,_,_,rfl,.lst aC,K7,_,rfl,?_⟩;refine jI ?_;refine⟨_,rfl,q,_,_,_,rfl,rfl,hO.of M,Zj (j:=2) rfl,zl,λle he=>?_⟩;have S2:fy H1 (upd H1 le (.lst [])):=sameNew (fy.refl _) he;refine⟨lk,le,_,rfl,rfl,gp.of (S2 _ _ aC),Zd,_,rfl,?_⟩;try dsimp only
 generalize upd H1 le (.lst [])=H2 at S2 ⊢;have a4:=U.trans S2;have jk:∀j,JA H' (.ref q) j->∃J,j=(g,i,J)/\j7 H' ks J:=λj I=>by obtain⟨o,u,a6,bb,e3,N,O⟩:=ja j I;injection o with o;injection u with u;cases e3;rw[G]at N;cases N;obtain⟨g',i',J⟩:=j;simp only at o u O;subst o u;exact⟨J,rfl,O⟩
 refine Z7 (λe=>L _ _ (k false _ a4 (ff λ⟨j,I,W⟩=>?_))) (λe=>?_)
 .obtain⟨J,rfl,O⟩:=jk j I;have e':ks=[]:=of_decide_eq_true e;have:=O.len;rw[e']at this;exact W.ne (aZ this.symm)
 have b0:ks≠[]:=λz=>by rw[z,decide_eq_true rfl]at e;cases e
 have iff:Led H' T g ks↔tP H' T (.ref q):=by
  constructor
  .rintro ⟨J,O,jr⟩;refine⟨(g,i,J),⟨q,lk,ks,rfl,hq,G,O⟩,jr,λz=>b0 ?_,hg⟩;have:=O.len;have z':J=[]:=z;rw[z']at this;exact aZ this
  .rintro ⟨j,I,W⟩;obtain⟨J,rfl,O⟩:=jk j I;exact⟨J,O,W.jr⟩
 refine b6 _ _ (tq λD3 b5=>?_);clear b6 L e ja jk he;have bT:=S2 _ _ M;refine⟨_,rfl,q,_,_,_,rfl,rfl,hO.of bT,Zj (j:=0) rfl,?_⟩;refine b5 _ _ (my λD4 b4 a0=>?_);clear b5;have c1:GS g:=by obtain⟨y,hy,e,_⟩:=hg;obtain⟨a,b,c,d,rfl,ga,_⟩:=YE ok hy;rw[<-e];exact ga
 refine⟨_,rfl,q,_,_,_,rfl,rfl,hO.of bT,Zj (j:=2) rfl,lk,rfl,⟨_,gp.of (a4 _ _ G)⟩,?_⟩;obtain⟨ck,ed,pr⟩:=dc.ord (VP ok);refine Yc (J:=oi K lk) ks.length (λm σ Hm=>fy H' Hm/\(∃J nv nd,Wk H' T g ks m J/\Is Hm nv nd/\NL nd/\bG nd=true/\ZF nd=jK g J/\∃o5,σ=[some (.ref pw),some (.ref d),some (.ref q),some (.int many),some nv,o5])) ?_ (λm σ Hm hm z=>⟨_,ks[m],gp.of (z.1 _ _ G),gE hm⟩) (λσ Hm z=>⟨_,gp.of (z.1 _ _ G),Nat.le_refl _⟩) (λm σ Hm v H3 hm z yl=>?_) (λσ Hm z=>?_)
 .exact⟨a4,[],.str g,.str g,.nil,.str g,.inl ⟨_,rfl⟩,Gj c1,rfl,_,rfl⟩
 .obtain⟨s1,J,nv,nd,wk,inv,aM,a5,ek,o5,rfl⟩:=z;obtain⟨rfl,hy⟩:=yl;have hx:=hy _ (gp.of (s1 _ _ G));have bx:=cI v (aK hx);try dsimp only[Zp,av]
  refine my λD' cK bM=>?_;refine⟨_,rfl,_,rfl,d,T,v,rfl,dc.same s1,ok,bx.same s1,λb hb=>⟨_,rfl,?_⟩⟩;refine Z7 (λe=>jC (bM _ _ (a0 _ _ (k false _ s1 (ff λz=>?_))))) (λe=>?_)
  .refine wk.none hx (λS hS a ea hz=>?_) (iff.mpr z);rw[hb.mpr ⟨S,hS,a,ea,s1 _ _ hz⟩]at e;cases e
  have cf:b=true:=by simpa using e
  obtain⟨S,hS,kb,rfl,Y⟩:=hb.mp cf;clear e hb cf;have a3:H' kb=some (.tup (S.key.map kV)):=by
   rcases bx with⟨T',th,nt⟩|⟨a,xs,ea,ha,_⟩
   .exact absurd Y (VD (th.same s1) nt rfl)
   .cases ea;rw[s1 _ _ ha]at Y;rw[<-Y];exact ha
  obtain⟨js,is⟩:=Yz ok hS;obtain⟨cB,cx⟩:=Pg ok is;obtain⟨nt,nh⟩:=MW is;obtain⟨m',b2⟩:=aJ.mp hS;have cH:=aV pr;have b1:m'<ck.length:=by rw[cH];exact(aj.mp b2).1
  obtain⟨c2,iv⟩:=ZI pr (gE b1) b2;have aS:=Gz (by rw[Jp pr];exact Gq ok) (gE b1);rw[c2]at aS;obtain⟨ta,v0,v1,v2,v3,ev,cE,i0,i1,i2,e3⟩:=RR iv;rw[ev]at aS;have ag:=s1 _ _ cE;have dg:∀{Hx:Hp},fy H' Hx->j8 Hx d (.ref kb) (some (.ref ta)):=λsx=>by have:=j8.t (k:=S.key) (sx _ _ ed) (sx _ _ a3);rwa [aS]at this
  refine⟨_,rfl,_,rfl,d,_,rfl,dg s1,ta,_,_,_,rfl,rfl,hO.of ag,Zj (j:=0) rfl,_,rfl,_,_,i0.same s1,inv,cB,a5,_,rfl,?_⟩;rw[KW nt aM,ek];refine Z7 (λe=>?_) (λe=>?_)
  .have ne:ZF S.tail≠jK g J:=λz=>by rw[decide_eq_true z]at e;cases e
   exact bM _ _ (a0 _ _ (k false _ s1 (ff λz=>wk.tail ok hx rfl a3 hS ne (iff.mpr z))))
  .have et:ZF S.tail=jK g J:=by
    by_cases z:ZF S.tail=jK g J
    .exact z
    .rw[decide_eq_false z]at e;cases e
   refine cK _ _ ?_;refine⟨_,rfl,_,rfl,d,_,rfl,dg s1,ta,_,_,_,rfl,rfl,hO.of ag,Zj (j:=1) rfl,?_⟩;exact⟨s1,J++[S],v1,S.head,wk.step hx rfl a3 hS et,i1.same s1,nh,cx,(Vp g J S).symm,_,rfl⟩
 .obtain⟨s1,J,nv,nd,wk,inv,aM,a5,ek,o5,rfl⟩:=z;refine b4 _ _ ?_;clear b4 a0;have hJ:J≠[]:=λz=>b0 (by have:=wk.len;rw[z]at this;exact aZ this.symm);have Z:jK g J=ZF (J.getLast hJ).head:=by unfold jK;rw[jg hJ]
  obtain⟨a,m,eh,gh⟩:=Qd ok (wk.p.all _ (List.getLast_mem hJ));rw[Z,eh]at ek;rcases aM with⟨a',rfl⟩|⟨a',m',rfl⟩
  .cases ek
  .simp only[ZF]at ek;injection ek with ek;injection ek with o u;injection o with o;injection u with u _;injection u with u;subst o u;cases inv with
  |@tup nt ys _ cG r=>
   cases r with
  |cons R r=>
   cases r with
  |cons h2 r=>
   cases r;cases R;cases h2;refine⟨_,rfl,nt,_,_,_,rfl,rfl,hO.of cG,Zj (j:=0) rfl,ZE (by show 2<=1000;decide),λq2 cm=>?_⟩;have S4:fy Hm (upd Hm q2 (.tup [.str a',.non])):=sameNew (fy.refl _) cm;have t4:=tb.kH (s1.trans S4);obtain⟨_,as,o,u,e3⟩:=t4.pl;refine⟨_,rfl,pw,_,_,_,rfl,rfl,gp.of t4.at_,Zj (j:=1) rfl,q2,l1,_,as,T.t1,rfl,rfl,Zd,rfl,o,u,λm c r R h2=>⟨(e3 m c r R h2).2,LV ok (aK h2)⟩,?_⟩;refine k _ _ (s1.trans S4) ?_;rw[TX ok a' m',<-iff,wk.fin ok rfl,Z,eh];exact Iff.rfl
end
noncomputable def En:Sp:=λvs H Q _=>∃(l:Addr)(T:Tb)(xs:List V)(JL:List JT),vs=[.ref l]/\hI T/\H l=some (.lst xs)/\bZ (JA H) xs JL/\JL.length<=40/\(∀j∈JL,tN T j) /\∀H' p f5,fy H H'->H p=none->H' p=some (.dT f5)->oo f5 (keysOf JL)->Q (.ref p) H'
noncomputable def Er:Sp:=λvs H Q _=>∃(pw d l b l1 l2 l3 l4:Addr)(T:Tb)(xs:List V),vs=[.ref pw,.ref d,.ref l]/\nr b H pw T l1 l2 l3 l4/\Dc H d (ic T)/\hI T/\H l=some (.lst xs)/\xs.length<=40/\(∀v∈xs,oy H v)/\∀H',fy H H'->(∀n:Nat,pG H T xs n->Q (.int n) H')/\∀JL,Good H T xs JL->Q .non H'
noncomputable def V0(j:JT):List V:=[.str j.1,.int j.2.1]
theorem Ld(JL:List JT)(j:JT):((JL.map V0).any λr=>XF r (V0 j))=true↔mf j∈JL.map mf:=by
 rw[d8,ao];constructor
 .rintro ⟨r,b,e⟩;obtain⟨x,a,rfl⟩:=ao.mp b;simp[XF,V0,rJ,cJ]at e;exact⟨x,a,by unfold mf;rw[e.1,e.2]⟩
 .rintro ⟨x,a,e⟩;refine⟨_,ao.mpr ⟨x,a,rfl⟩,?_⟩;have d:x.1=j.1:=congrArg (λz:Str×Int=>z.1) e;have c:x.2.1=j.2.1:=congrArg (λz:Str×Int=>z.2) e;simp[XF,V0,rJ,cJ,d,c]
section
variable {P:Program}{w:World}{K:ae}{mg:Str->Option Value}{base:Heap}{C:Addr}{Cs:Nat->Addr}
theorem Yo:fx [oO,rH,sE,"_law_number",qm,"_law_key"] [oO] (Ze T.kF):=jX
theorem Eb(D:Df K mg "_law_together" T.kF [oO]):hY P w K mg base 1 "_law_together" [oO] En:=by
 refine D.cn Yo λf a0 A outer s H vs Q E hr h=>?_;obtain⟨l,T,xs,JL,rfl,ok,N,pj,hJ,F,k⟩:=h;refine' ⟨_,(Za (st 1 Yo.nd JZ) (Za ?h4 (Zc (Zk (pv 1))))),?rd⟩;case' h4=>refine' (ZX aL rfl (Yd (pv 0)) (YM rfl (Zq (jG 2 Yo.nd) (Zq (jG 3 Yo.nd) (Zq (jG 4 Yo.nd) Ym)))) (Zc ?X))
 case' X=>refine' (ZX aL rfl (Yd (pv 4)) (jG 5 Yo.nd) (Zc ?O))
 case' O=>refine' (Y9 (Z0 hr) (pv 1) (pv 5) (Zr ZL (G2 (Z0 hr) (pv 1) (pv 5) Zb ⟨rfl,rfl,rfl,rfl⟩) Zb) rfl)
 case' rd=>
 refine λpl u=>?_;dsimp only[Zp,av];have Y:fy H (upd H pl (.dT [])):=sameNew (fy.refl H) u;have z:upd H pl (.dT []) pl=some (.dT []):=Zd;generalize upd H pl (.dT [])=H1 at Y z ⊢;have xl:=aV pj;refine⟨_,rfl,l,rfl,⟨_,gp.of (Y _ _ N)⟩,?_⟩;refine Yc (J:=oi K l) xs.length (λi σ H'=>fy H H'/\(∃g,H' pl=some (.dT g)/\oo g (keysOf (JL.take i)))/\∃o:Nat->Option V,σ=[some (.ref l),some (.ref pl),o 2,o 3,o 4,o 5]) ?_ (λi σ H' hi q=>⟨_,xs[i],gp.of (q.1 _ _ N),gE hi⟩) (λσ H' q=>⟨_,gp.of (q.1 _ _ N),Nat.le_refl _⟩) (λi σ H' v H4 hi q R=>?_) (λσ H' q=>?_)
 .exact⟨Y,⟨[],z,oo.nil⟩,j9 rfl⟩
 .obtain⟨s1,⟨g,z,cn⟩,o,rfl⟩:=q;obtain⟨rfl,hy⟩:=R;have W:=hy _ (gp.of (s1 _ _ N));have M:i<JL.length:=by omega
  have eJ:=gE M;have G:=F _ (aB M);obtain⟨q,lk,ks,rfl,hq,n,U⟩:=ZI pj W eJ;have I:keysOf (JL.take (i+1))=keysOf (JL.take i)++XY JL[i].2.2:=by unfold keysOf;rw[a9,eJ,fS];congr 1;simp
  generalize JL[i]=j at G hq U I;refine⟨q,_,rfl,hO.of (s1 _ _ hq),rfl,?_⟩;dsimp only[Zp,av];refine⟨_,_,rfl,_,_,rfl,_,_,rfl,rfl,?_⟩;dsimp only[Zp,av];refine td λD' aC=>?_;have Z:=U.len;refine⟨_,rfl,lk,rfl,⟨_,gp.of (s1 _ _ n)⟩,?_⟩;refine Yc (J:=oi K lk) ks.length (λm σ H'=>fy H H'/\(∃g,H' pl=some (.dT g)/\oo g (keysOf (JL.take i)++XY (j.2.2.take m)))/\∃o:Nat->Option V,σ=[some (.ref l),some (.ref pl),o 2,o 3,o 4,o 5]) ?_ (λm σ H' hm q=>⟨_,ks[m],gp.of (q.1 _ _ n),gE hm⟩) (λσ H' q=>⟨_,gp.of (q.1 _ _ n),Nat.le_refl _⟩) (λm σ H' v H9 hm q R=>?_) (λσ H' q=>?_)
  .exact⟨s1,⟨g,z,by rw[List.take_zero];show oo g (keysOf (JL.take i)++[]);rw[ba];exact cn⟩,j9 rfl⟩
  .obtain⟨B,⟨r,b,a⟩,o9,rfl⟩:=q;obtain⟨rfl,ab⟩:=R;have ag:=ab _ (gp.of (B _ _ n));have ak:m<j.2.2.length:=by omega
   have eS:=gE ak;obtain⟨kb,rfl,L⟩:=ZI U ag eS;have d:=B _ _ L;have p:XY (j.2.2.take (m+1))=XY (j.2.2.take m)++[j.2.2[m].key]:=by unfold XY;rw[a9,eS,aG];rfl
   generalize j.2.2[m]=S at L d p;dsimp only[Zp,av];refine td λD9 aM=>?_;have aS:=j8.t (k:=S.key) b d;have y:r.length<=100000:=by have O:=a.len;have X:=P8 ok (JL:=JL.take i) λx W=>F x (br W);have h3:=NV ok G;unfold XY at O;rw[aq,lm,aN]at O;rw[aN]at X;omega
   refine⟨_,rfl,pl,rfl,.inr ⟨_,.inl b⟩,_,rfl,_,aS,_,_,a.get S.key,rfl,_,rfl,_,rfl,pl,_,rfl,mI.t (k:=S.key) b d (Nat.lt_of_le_of_lt y (by rw[cW];decide)),?_⟩;refine aM _ _ ⟨λc o e=>?_,⟨_,Zd,?_⟩,j9 rfl⟩
   .rw[Zf (fi e u)];exact B _ _ e
   .rw[p,<-b_];exact a.add S.key
  .obtain⟨B,⟨r,b,a⟩,o9,rfl⟩:=q;rw[Z,aP]at a;exact aC _ _ ⟨B,⟨r,b,by rw[I];exact a⟩,j9 rfl⟩
 .obtain⟨s1,⟨g,z,cn⟩,o,rfl⟩:=q;rw[xl,aP]at cn;exact⟨_,rfl,k _ pl g s1 u z cn⟩
theorem JB:fx [kR,jF,ot,"_law_persons",oN,"_law_one"] [kR,jF,ot] (Ze T.mO):=jX
theorem LB(B:∀x∈jO,mg x=none)(CJ:hY P w K mg base 3 "_law_is_journey" [kR,jF,pH] WW)(D:Df K mg "_law_due" T.mO [kR,jF,ot]):hY P w K mg base 4 "_law_due" [kR,jF,ot] Er:=by
 refine D.cn JB λf cf A outer s H vs Q E hr h=>?_;obtain⟨pw,d,l,b,l1,l2,l3,l4,T,xs,rfl,tb,dc,ok,hl,hlen,b4,k⟩:=h;refine' ⟨_,(Za (st 3 JB.nd (ZD Zl)) (Za ?h6 (Zc (Zk ZJ)))),?rd⟩;case' h6=>refine' (ZX aL rfl (PH rfl (bm B) (ju (pv 2)) (by decide +kernel)) (YM rfl (Zq (jG 4 JB.nd) (Zq (jG 5 JB.nd) Ym))) (Za ?h3 (Zc ?h4)))
 case' h4=>refine' (Z9 (Vx bD bu bt YS (pv 3) (ju (ZQ (r:=rR K) GP (pv 5) Z4 (Z3 Zb)))))
 case' h3=>refine' (ZA (PW.pt (YK (ZK (ZH (cn CJ hr (kg (pv 0) (pv 1) (pv 5))))) (YJ (Zo (G5 hr.units) (ZQ (r:=rR K) GP (pv 5) Z4 (Z3 Zb)) (pv 3) (by with_unfolding_all rfl))))) (Zc (Zk (pv 4))) Zn)
 case' rd=>
 refine tq λD0 ak=>?_;refine⟨zl,λu ab=>?_⟩;try dsimp only[Zp,av]
 have S1:fy H (upd H u (.lst [])):=sameNew (fy.refl H) ab;have e1:upd H u (.lst []) u=some (.lst []):=Zd;generalize upd H u (.lst [])=H1 at S1 e1 ⊢;refine ak _ _ (my λD1 b3 Z=>?_);clear ak;have g:∀{H':Hp},fy H H'->H1 l=H' l:=λ{H'}s=>by rw[S1 _ _ hl,s _ _ hl]
 refine⟨_,rfl,l,xs,rfl,.inl (S1 _ _ hl),λJt cb=>?_⟩;obtain⟨b6,bx,a6⟩:=cb;refine Yc (J:=Jt) xs.length (λi σ H'=>fy H H'/\(∃(JL:List JT)(as:List Addr),Good H T (xs.take i) JL/\H' u=some (.lst (as.map V.ref))/\as.length=JL.length/\∀(m:Nat)a r,as[m]?=some a->(JL.map V0)[m]?=some r->H' a=some (.tup r))/\∃o:Nat->Option V,σ=[some (.ref pw),some (.ref d),some (.ref l),some (.ref u),o 4,o 5]) ?_ (λi σ H' hi q=>b6 i H' (g q.1) hi) (λσ H' q=>bx H' (g q.1)) (λi σ H' v H4 hi q yl=>?_) (λσ H' q=>?_)
 .exact⟨S1,⟨[],[],Good.nil,e1,rfl,λm a r h=>by simp at h⟩,j9 rfl⟩
 .obtain⟨s1,⟨JL,as,N,ep,R,bM⟩,o,rfl⟩:=q;obtain⟨t3,y,bb,hy,rfl,rfl⟩:=a6 i H' _ _ (g s1) yl;have et:upd H' t3 (.tup [.int i,y]) t3=some (.tup [.int i,y]):=Zd;have S4:fy H' (upd H' t3 (.tup [.int i,y])):=sameNew (fy.refl H') bb;generalize upd H' t3 (.tup [.int i,y])=H4 at et S4 ⊢;refine⟨t3,_,rfl,hO.of et,rfl,?_⟩;try dsimp only[Zp,av]
  refine⟨_,_,rfl,_,_,rfl,rfl,?_⟩;try dsimp only[Zp,av]
  have F:=s1.trans S4;have Y:=b4 y (aK hy);have ck:JL.length<=40:=by have:=aV N.ja;rw[aN]at this;omega
  refine my λD4 ag O=>?_;refine⟨_,rfl,_,rfl,_,rfl,pw,d,b,l1,l2,l3,l4,T,y,rfl,tb.kH F,dc.same F,ok,Y.same F,λb H5 S5 hb=>⟨_,rfl,?_⟩⟩;rw[tP.iff Y F]at hb;have U:=F.trans S5;refine Z7 (λe=>jC ⟨_,rfl,O _ _ (Z _ _ ((k _ U).1 i ⟨JL,y,N,hy,λj hj G=>?_⟩))⟩) (λe=>?_)
  .rw[hb.mpr ⟨j,hj,G⟩]at e;cases e
  have aM:b=true:=by simpa using e
  obtain⟨j,hj,G⟩:=hb.mp aM;clear e hb aM;have aC:=hj;obtain⟨q,lk,ks,rfl,hq,cc,kl⟩:=hj;have b0:=U _ _ hq;have a3:=S5 _ _ (S4 _ _ ep);have sl:¬(HT.jH 3 0 none=0/\HT.jH 3 3 (some 2)=3):=by decide
  refine⟨_,rfl,_,rfl,q,_,rfl,hO.of b0,sl,λp hp=>?_⟩;have W:fy H5 (upd H5 p (.tup (jT [.str j.1,.int j.2.1,.ref lk] none (some 2)))):=sameNew (fy.refl _) hp;have e6:upd H5 p (.tup (jT [.str j.1,.int j.2.1,.ref lk] none (some 2))) p=some (.tup (V0 j)):=Zd;generalize upd H5 p (.tup (jT [.str j.1,.int j.2.1,.ref lk] none (some 2)))=X at W e6 ⊢;have S:=U.trans W;have L:∀(m:Nat)a r,as[m]?=some a->(JL.map V0)[m]?=some r->X a=some (.tup r)/\r.all JX=true:=λm a r M I=>by refine⟨W _ _ (S5 _ _ (S4 _ _ (bM m a r M I))),?_⟩;obtain⟨x,_,rfl⟩:=ao.mp (aK I);rfl
  refine⟨_,rfl,p,u,_,as,JL.map V0,rfl,rfl,e6,rfl,W _ _ a3,by rw[lm];exact R,L,_,rfl,?_⟩;refine Z7 (λe=>⟨_,rfl,O _ _ (Z _ _ ((k _ S).1 i ⟨JL,.ref q,N,hy,λj' b5 a4=>?_⟩))⟩) (λe=>ag _ _ ?_)
  .rw[NW ok b5 aC a4 G];exact(Ld JL j).mp e
  clear ag O;have a5:mf j∉JL.map mf:=λz=>by rw[(Ld JL j).mpr z]at e;cases e
  have a0:=W _ _ a3;have bT:=S _ _ hq;refine⟨_,rfl,.inl ⟨rfl,_,gp.of a0⟩,_,rfl,_,rfl,q,_,rfl,hO.of bT,sl,λp2 b1=>?_⟩;have S7:fy X (upd X p2 (.tup (jT [.str j.1,.int j.2.1,.ref lk] none (some 2)))):=sameNew (fy.refl _) b1;have e7:upd X p2 (.tup (jT [.str j.1,.int j.2.1,.ref lk] none (some 2))) p2=some (.tup (V0 j)):=Zd;generalize upd X p2 (.tup (jT [.str j.1,.int j.2.1,.ref lk] none (some 2)))=H7 at S7 e7 ⊢;have aS:=S7 _ _ a0;refine⟨u,_,_,rfl,rfl,aS,Nat.lt_of_le_of_lt (by rw[lm];omega:(as.map V.ref).length<=1000) (by decide),?_⟩;have n8:∀c,c≠u->upd H7 u (.lst (as.map V.ref++[.ref p2])) c=H7 c:=λc n=>Zf n;refine⟨λc o e=>?_,⟨JL++[j],as++[p2],?_,?_,?_,λm a r M I=>?_⟩,j9 rfl⟩
  .rw[n8 c (fi e ab)];exact S7 _ _ (S _ _ e)
  .rw[a9,hy];exact N.snoc aC G a5
  .rw[aG];exact Zd
  .rw[aq,aq,R];rfl
  .have ht:∀c ys,H7 c=some (.tup ys)->upd H7 u (.lst (as.map V.ref++[.ref p2])) c=some (.tup ys):=λc ys e=>by rw[n8 c (hA e aS (λz=>nomatch z))];exact e
   rw[aG]at I;rcases Nat.lt_or_ge m as.length with hm|hm
   .rw[cu hm]at M;rw[cu (by rw[lm];omega)]at I;exact ht _ _ (S7 _ _ (L m a r M I).1)
   .have b2:m=as.length:=by have:=(aj.mp M).1;rw[aq]at this;have:m<as.length+1:=this;omega
    subst b2;rw[cg (Nat.le_refl _),Nat.sub_self]at M;rw[cg (by rw[lm];omega),bU,R,Nat.sub_self]at I;cases M;cases I;exact ht _ _ e7
 .obtain⟨s1,⟨JL,as,N,_⟩,o,rfl⟩:=q;rw[aP]at N;exact b3 _ _ ((k _ s1).2 JL N)
end
end SX
namespace L2
open PySem PySem.Spec PyProof.Rows
structure sJ(K:ae)(C:Addr):Prop where
 xr:XR K C
 cl:aD K (.ref C) "__class__"=some (some (.builtin "object.__class__"))
 gt:fg K (.builtin "object.__class__") "__get__"=some (some (.builtin "getset_descriptor.__get__"))
 tk:iW K (.builtin "object.__class__")=some true
 ob:df K C (.type "object")=some true
theorem sJ.is{K:ae}{C:Addr}(c:sJ K C):(f9 K C).isSome=true:=by
 have h:=c.xr.hd;unfold cF at h;cases e:f9 K C with
|none=>rw[e]at h;cases h
|some cd=>rfl
theorem sJ.find{K:ae}{C:Addr}(c:sJ K C)(od:Option Obj):PySem.W.findObj K C od "__class__"=some (.bind (.builtin "getset_descriptor.__get__") (.builtin "object.__class__")):=by obtain⟨cd,e⟩:=bw.mp c.is;unfold PySem.W.findObj;rw[e,c.cl];simp only[Option.bind_some,c.gt,c.tk]
theorem sJ.obj{K:ae}{C:Addr}(c:sJ K C):∃o,K.lookup C=some o/\∃cd,o.data=.cls cd:=by
 obtain⟨cd,e⟩:=bw.mp c.is;unfold f9 at e;split at e
 .exact⟨_,by assumption,_,rfl⟩
 .cases e
section
variable {prog:Program}{w:World}{A:bh}{E:Value->ai->Prop}{K:ae}{s:ai}{x C:Addr}{o:Obj}{od:Option Obj}{Q:Option Value->ai->Prop}
theorem EL(X:K.In s.heap)(c:sJ K C)(I:fe s.heap x o C od)(h:Q (some (.ref C)) {s with toks:=s.toks+1}):wpAny (model prog w) A (getAttr? (.ref x) "__class__") Q E s:=by have r:=c.xr;have FB:=i8;obtain⟨b,g,f,t,os⟩:=s;have a:=I.type (M:=model prog w);have e:=c8 (M:=model prog w) X r.ga;have L2:=c8 (M:=model prog w) X r.gg;have d:=PySem.W.looks_find (M:=model prog w) X I (c.find od);have sub:PySem.W.Looks (model prog w) b (i_ (.ref x) (.type "BaseException")) true:=a.andThen (hV X r.be);unfold getAttr? getAttrBy? getAttrBy;refine aa (wpAny_mkText (aa (dB (aU (aa (a.at (aa (e.at ?_))))))));show wpAny _ _ (if(g8 (Value.ref C)&&Value.builtin "BaseException.__getattribute__"==Value.builtin "object.__getattribute__")=true then _ else _) _ _ _;rw[if_neg (by simp)];unfold getAttrByItsOwn hookBefore;rw[if_pos (show g8 (Value.ref C)=true from rfl)];refine aa (L2.at ?_);refine aa (dB (aU ?_));unfold callGetattribute;rw[if_neg (show ¬((false&&g8 (Value.builtin "BaseException.__getattribute__"))=true)from by simp)];unfold boundAndCalled;rw[FB.ga.bind];refine aa (ah ?_);refine fM (iQ FB.ga.plain PySem.F.entry_bexc_ga (@ij (model prog w) _ _ _ "BaseException.__getattribute__" "BaseException" "__getattribute__" (.ref x) [.str "__class__" t] [] _ (by decide +kernel) (by decide +kernel) sub (PySem.F.args_bexc_ga (.ref x) (.str "__class__" t)) ?_));unfold cU.«object.__getattribute__»;refine aa (ah (aa (ah (aa (a.at (aa (d.at ?_)))))));show wpAny _ _ (fT [.builtin "object.__class__"] (call (.builtin "getset_descriptor.__get__") [.builtin "object.__class__",.ref x,.ref C]) >>= λv=>ret v) _ _ _;refine aa (aU (fM (PySem.W.class_get (K:=K) X I c.ob (ah ?_))));show wpAny _ _ (handedOut (.ref C)) _ _ _;rw[PySem.W.handedOut_of rfl];exact ah (ah h)
theorem K6(c:sJ K C):PySem.W.KitX K (.ref x) (.ref C) (λh=>fe h x o C od) where
 ty:=λM h _ I=>I.type
 it:=λM h X I=>by
  obtain⟨b,a,cd,e⟩:=c.obj
  exact λA Q E s d q=>ks_wpAny_isType_cls (d _ _ (X _ _ a)) e q
 ne:=λh tp j g n i X e=>by
  obtain⟨b,a,cd,f⟩:=c.obj
  refine decide_eq_false λz=>?_
  cases z
  rw[X _ _ a]at e
  cases e
  cases f
 ca:=λX I q=>EL X c I q
end
noncomputable def uV(H:Hp)(a C:Addr)(dd:Option Addr):Prop:=(H a=some (nA a C dd)\/H a=some (lZ a C dd))/\∀d,dd=some d->∃fs,H d=some (XD d fs)
theorem uV.inst      (e:uV H a C j)(ok:k6 P w H h):∃o od,fe h a o C od:=by
 have g:∃o vs,h.get? a=some o/\o.cls=.ref C/\o.dict=j/\o.data=.fields vs:=by
  rcases e.1 with e|e
  .exact N1.mp (ok a _ e)
  .obtain⟨o,vs,f,c,b,i,_⟩:=JO.mp (ok a _ e);exact⟨o,vs,f,c,b,i⟩
 obtain⟨o,vs,f,c,b,i⟩:=g;have no:e_ o=true:=by unfold e_;rw[i]
 cases j with
|none=>exact⟨o,none,f,c,no,by rw[b];trivial⟩
|some d=>obtain⟨fs,l⟩:=e.2 d rfl;obtain⟨mA,ns,_⟩:=WG.mp (ok d _ l);obtain⟨od,g,_⟩:=UJ ns;exact⟨o,some od,f,c,no,by rw[b];exact g⟩
noncomputable def zT:V->Option Value
|.ref D=>some (.ref D)
|.ty T=>some (.type T)
|_=>none
theorem DZ {c u:Value}(h:zT x=some c)(r:RelV x u):u=c:=by cases x<;>cases h<;>exact r
section
variable {X:Cx}
theorem WA:Xf X (.builtin "isinstance") (λxs H Q=>∃(a C:Addr)(f:Option Addr)(x:V)(c:Value)(b:Bool),xs=[.ref a,x]/\uV H a C f/\sJ X.K C/\zT x=some c/\az X.K (.ref C) c=some b/\Q (.bl b) H):=by intro pins s σ H xs us Q I r h;obtain⟨a,C,f,x,c,b,rfl,ev,g,l,e,q⟩:=h;obtain⟨u,p,rfl,j,d⟩:=vals2 r;cases(show u=Value.ref a from j);have n:=DZ l d;subst n;obtain⟨o,od,J⟩:=ev.inst I.hL;exact bR (K6 (o:=o) (od:=od) g) I.kT J e (λz=>nomatch z) λi=>⟨.bl b,H,I.tok i,rfl,q⟩
end
end L2
namespace SX
open PySem L2 PySem.Spec PyProof.Rows TB WD
theorem tw{k:Nat}(a:jw k A):A.units+2<cLine:=by have:=a.un;omega
theorem zQ{k:Nat}(a:jw k A):A.units<cLine:=by have:=a.un;omega
theorem _root_.L2.Th.uZ   (h:Th H v a):rK v:=by
 cases h with
|non=>exact .non
|bl b=>exact .bl b
|int i=>exact .int i
|str z _=>exact .str z
|lst _=>exact .ref _
|tup _=>exact .ref _
|dK _=>exact .ref _
theorem oy.uZ  (h:oy H v):rK v:=by
 rcases h with⟨c,b,_⟩|⟨a,xs,rfl,_⟩
 .exact b.uZ
 .exact .ref a
theorem fresh  (s:fy H H')(h:H' l=none):H l=none:=by
 cases e:H l with
|none=>rfl
|some o=>rw[s _ _ e]at h;cases h
noncomputable def J3(v:V):HO:=.lst [.str "none",v,.bl true]
noncomputable def QI(C:Addr):Sp:=λvs H Q _=>∃(t:Addr)(T:Tb)(xv:V),vs=[.ref t,xv]/\qE H C t T/\hI T /\((∃T',Th H xv T'/\T'≠"list"/\T'≠"tuple"/\∀H' l',fy H H'->H l'=none->H' l'=some (J3 .non)->Q (.ref l') H') \/∃l xs,xv=.ref l/\(H l=some (.lst xs)\/H l=some (.tup xs))/\xs.length<=40/\(∀v∈xs,oy H v)/\(∀n:Nat,pG H T xs n->∀H' l',fy H H'->H l'=none->H' l'=some (J3 (.int n))->Q (.ref l') H') /\∀JL,Good H T xs JL->∀H' l' p f5,fy H H'->H l'=none->H' l'=some (.lst [.ref p])->H p=none->H' p=some (.dT f5)->oo f5 (keysOf JL)->Q (.ref l') H')
section
variable {P:Program}{w:World}{K:ae}{mg:Str->Option Value}{base:Heap}{C Cn fI Qa:Addr}
theorem Xs:fx [qb,ot,"_law_told_here","e"] [qb,ot] (Ze T.ml):=jX
theorem Wo(B:∀x∈jO,mg x=none)(X:zr K mg "NoJourney" Cn fI Qa)(Z:XA K Cn "at")(XQ:sJ K Cn)(kq:az K (.ref Cn) (.ref Qa)=some true)(gq:mg "QuayError"=some (.ref Qa))(CS:tQ P w K mg base 8 "joined" [jL,"journeys"] (WY C Cn))(D:Df K mg "_law_told" T.ml [qb,ot]):hY P w K mg base 9 "_law_told" [qb,ot] (QI C):=by
 obtain⟨fm,ag,FM,hm,hk,bM⟩:=CS;refine D.cn Xs λf ak A outer s H vs Q E hr h=>?_;obtain⟨t,T,I,rfl,mL,ok,h⟩:=h;refine' ⟨_,(Za (st 2 Xs.nd ZJ) (Za ?h2 (Zc (Zk (pv 2))))),?rd⟩;case' h2=>refine' (Fc ⟨rfl,rfl⟩ (λE' ab pp E J=>Zc (YL (i:=2) Xs.nd rfl (cV rfl) (ZD (Zg (Q2 FM hr rfl hm hk bM .nil J (Zg (pv 0) (Zg (pv 1) Zl))) Zl)))) (Ap (i:=3) X.xb rfl X.mg Xs.nd rfl rfl (λx=>Zc (YL (i:=2) Xs.nd rfl (cV rfl) (ZD (Zg ZC (Zg (Dn (pv 3)) (Zg (Zw WA rfl (bm B) dj (Zg (pv 3) (Zg (Ye (v:=.ref Qa) rfl gq rfl) Zl))) Zl)))))) Hk))
 case' rd=>
 rw[show L2.start ([qb,ot,"_law_told_here","e"]:List Str) [V.ref t,I]=[some (.ref t),some I,none,none]from rfl];refine tq λD0 G=>?_;refine G _ _ (tq λD1 F=>?_);clear G;try dsimp only[Zp,av]
 refine⟨λc R H'=>c=.ref Cn/\∃d v,R=some d/\H' d=some (XD d [("at",v)])/\fy H H'/\∀r b,fy H r->H b=none->r b=some (J3 v)->Q (.ref b) r,?_,?_⟩
 .refine⟨rfl,_,rfl,_,rfl,t,T,I,rfl,mL,ok,?_⟩;rcases h with⟨T',U,n1,n2,q⟩|⟨l,xs,rfl,hl,hlen,N,Y,W⟩
  .exact .inl ⟨T',U,n1,n2,λH' d s e=>⟨rfl,d,.non,rfl,e,s,q⟩⟩
  .refine .inr ⟨l,xs,rfl,hl,hlen,N,λn hb H' d s e=>⟨rfl,d,.int n,rfl,e,s,Y n hb⟩,λJL g H' p L s J ep cn=>?_⟩;refine⟨ZE (by show 1<=1000;decide),λb a=>F _ _ ?_⟩;have S:fy H' (upd H' b (.lst [.ref p])):=sameNew (fy.refl _) a;exact⟨_,rfl,W JL g _ b p L (s.trans S) (fresh s a) Zd J (S _ _ ep) cn⟩
 .rintro c R H' ⟨rfl,d,v,rfl,hd,sm,q⟩;refine⟨Cn,rfl,λy O=>⟨fI,Qa,X.xc,.inl ⟨by rw[eZ];simp,?_⟩⟩⟩;have M:d≠y:=fi hd O;have o:upd H' y (nA y Cn (some d)) d=some (XD d [("at",v)]):=by rw[Zf M];exact hd
  have z:upd H' y (nA y Cn (some d)) y=some (nA y Cn (some d)):=Zd;have u:SV (upd H' y (nA y Cn (some d))) y Cn d:=.inl Zd;have j:fy H (upd H' y (nA y Cn (some d))):=sameNew sm O;generalize upd H' y (nA y Cn (some d))=H1 at o z u j ⊢;refine⟨_,rfl,y,Cn,d,_,_,rfl,u,o,X.xr,Z,rfl,_,rfl,y,Cn,some d,.ref Qa,.ref Qa,true,rfl,⟨.inl z,λd' e=>⟨_,by cases e;exact o⟩⟩,XQ,rfl,kq,ZE (by show 3<=1000;decide),λb a=>F _ _ ?_⟩;have S2:fy H1 (upd H1 b (J3 v)):=sameNew (fy.refl _) a;exact⟨_,rfl,q _ b (j.trans S2) (fresh j a) Zd⟩
noncomputable def RY(C:Addr):Sp:=λvs H Q _=>∃(t pw d l b l1 l2 l3 l4:Addr)(T:Tb)(xs:List V)(wy:Int),vs=[.ref t,.ref pw,.ref d,.ref l,.int wy]/\qE H C t T/\nr b H pw T l1 l2 l3 l4/\Dc H d (ic T)/\hI T/\H l=some (.lst xs)/\xs.length<=40/\(∀v∈xs,oy H v)/\(wy=0\/wy=1)/\∀H',fy H H'->Q (.bl true) H'
theorem Gi{H:Hp}  (h:H l=some (J3 v))(i:Is H v d):Is H (.ref l) (.list [.str "none",d,.bool true]):=.lst h (.cons (.str _) (.cons i (.cons (.bl _) .nil)))
theorem DN :az K (.type "int") (.type "bool")=some false:=by kernel_rfl
theorem PV(n:Int):bG (.list [.str "none",.int n,.bool true])=true:=by
 unfold bG;have e:(PyData.list [.str "none",.int n,.bool true]).canLay0=true:=by
  have:(PyData.list [.str "none",.int 0,.bool true]).canLay0=true:=by decide +kernel
  exact this
 rw[e];rfl
theorem KU(n:Int):PyData.eqv (.list [.str "none",.int n,.bool true]) (.list [.str "none",.int n,.bool true])=true:=by simp[PyData.eqv,PyData.eqvAll]
theorem XI:fx [qb,kR,jF,ot,"_law_way","_law_kept","_law_due_here","_law_told_here"] [qb,kR,jF,ot,"_law_way"] (Ze T.lR):=jX
theorem RD(B:∀x∈jO,mg x=none)(CD:hY P w K mg base 4 "_law_due" [kR,jF,ot] Er)(CT:hY P w K mg base 9 "_law_told" [qb,ot] (QI C))(CG:hY P w K mg base 1 "_law_together" [oO] En)(D:Df K mg "_law_right" T.lR [qb,kR,jF,ot,"_law_way"]):hY P w K mg base 10 "_law_right" [qb,kR,jF,ot,"_law_way"] (RY C):=by
 refine D.cn XI λf b5 A outer s H vs Q E R h=>?_;obtain⟨t,pw,d,l,b,l1,l2,l3,l4,T,xs,wy,rfl,mL,tb,dc,ok,O,hlen,u,hw,k⟩:=h;refine' ⟨_,(Za ?h7 (Za (st 6 XI.nd (cn CD R (kg (pv 1) (pv 2) (pv 3)))) (Za ?h9 (Za ?b0 (Zc ?bT))))),?rd⟩;case' bT=>refine' (Zk (Xa (Yr (G7 R.units) (pv 7) (ZD (kg ZC (pv 6) YU)) (Zt _)) (Xa (Q1 (YD (c:="bool") (il K (pv 7) Zb) rfl (bm B) rfl (bm B) N8)) (YN (Yr (KJ (zQ R)) (pv 3) (pv 5) (Zt _))))))
 case' b0=>refine' (ZA (Zo UH (pv 6) ZJ (Zt _)) (Zc ?h4) Zn)
 case' h9=>refine' (st 7 XI.nd (cn CT R (jz (pv 0) ?h2)))
 case' h7=>refine' (st 5 XI.nd (Yg XM rfl (bm B) XN (ju (pv 3))))
 case' h4=>refine' (Zk (Xa (Yr (Ds (tw R)) (pv 7) (ZD (ju (cn CG R (ju (pv 3))))) (Zt _)) (YN (Yr (KJ (zQ R)) (pv 3) (pv 5) (Zt _)))))
 case' h2=>refine' (il K ?h1 (pv 4))
 case' h1=>refine' (ZD (jz (pv 3) (Yg Jd rfl (bm B) YQ (ju (pv 3)))))
 case' rd=>
 refine tq λD0 a4=>?_;refine⟨_,rfl,l,_,rfl,.inl (gp.of O),λlk hk=>?_⟩;try dsimp only[Zp,av]
 refine nl hk λH1 S1 e1=>?_;refine a4 _ _ (tq λD1 M=>?_);clear a4 hk;have e:∀v∈xs,oy H1 v:=λv L=>(u v L).same S1;have uZ:∀v∈xs,rK v:=λv L=>(u v L).uZ;refine⟨_,rfl,_,rfl,_,rfl,pw,d,l,b,l1,l2,l3,l4,T,xs,rfl,tb.kH S1,dc.same S1,ok,S1 _ _ O,hlen,e,λH2 S2=>?_⟩;have N:=S1.trans S2;have e2:=S2 _ _ e1;have a3:=N _ _ O;have b3:∀v∈xs,oy H2 v:=λv L=>(u v L).same N;refine⟨λn hb=>M _ _ (tq λD2 r=>?_),λJL hg=>M _ _ (tq λD2 r=>?_)⟩;all_goals try dsimp only[Zp,av]
 .clear M;refine⟨_,rfl,_,rfl,_,rfl,l,_,rfl,.inl ⟨gp.of a3,λtp Y=>?_⟩⟩;try dsimp only
  refine l8 Y λH3 aS aM=>?_;refine⟨ZE (by show 2<=1000;decide),λll ab=>?_⟩;try dsimp only
  refine l8 ab λW G e4=>?_;have I:=aS.trans G;have a:=N.trans I;obtain⟨i,aC,X⟩:∃i:Addr,kZ [V.ref l,.ref tp] wy=some (.ref i)/\(W i=some (.lst xs)\/W i=some (.tup xs)):=by
   rcases hw with rfl|rfl
   .exact⟨l,Zj (j:=0) rfl,.inl (a _ _ O)⟩
   .exact⟨tp,Zj (j:=1) rfl,.inr (G _ _ aM)⟩
  have J:∀v∈xs,oy W v:=λv L=>(u v L).same a;have g:=S2.trans I;refine⟨_,rfl,ll,_,_,_,rfl,rfl,gp.of e4,aC,t,T,.ref i,rfl,mL.same a,ok,.inr ⟨i,xs,rfl,X,hlen,J,λn' y H5 l' U ag e5=>?_,λa6 g' H5 l' p bx U ag e5 hp ep cn=>?_⟩⟩
  .rw[pG.iff e g]at y;have en:=y.uniq ok hb;subst en;have o:=a.trans U;refine r _ _ (tq λD3 ak=>?_);clear r;refine⟨_,rfl,rfl,_,rfl,?_⟩;refine jI (ak _ _ ?_);clear ak;refine⟨_,rfl,_,rfl,ZE (by show 3<=1000;decide),λln Z=>?_⟩;have S:fy H5 (upd H5 ln (J3 (.int n'))):=sameNew (fy.refl _) Z;have e6:upd H5 ln (J3 (.int n')) ln=some (J3 (.int n')):=Zd;refine⟨_,_,Gi (S _ _ e5) (.int _),Gi e6 (.int _),PV _,PV _,_,rfl,?_⟩;rw[KU];refine jC ?_;refine⟨_,rfl,l',_,_,_,rfl,rfl,gp.of (S _ _ e5),Zj (j:=1) rfl,_,_,_,_,rfl,.int _,DN,_,rfl,_,rfl,?_⟩;refine jC ?_;exact⟨_,rfl,_,rfl,l,lk,xs,rfl,rfl,S _ _ (o _ _ O),S _ _ (U _ _ (g _ _ e1)),uZ,k _ (o.trans S)⟩
  .rw[Good.iff e g]at g';exact(hb.good ok g').elim
 .clear M;refine⟨_,rfl,_,rfl,_,rfl,l,_,rfl,.inl ⟨gp.of a3,λtp Y=>?_⟩⟩;try dsimp only
  refine l8 Y λH3 aS aM=>?_;refine⟨ZE (by show 2<=1000;decide),λll ab=>?_⟩;try dsimp only
  refine l8 ab λW G e4=>?_;have I:=aS.trans G;have a:=N.trans I;obtain⟨i,aC,X⟩:∃i:Addr,kZ [V.ref l,.ref tp] wy=some (.ref i)/\(W i=some (.lst xs)\/W i=some (.tup xs)):=by
   rcases hw with rfl|rfl
   .exact⟨l,Zj (j:=0) rfl,.inl (a _ _ O)⟩
   .exact⟨tp,Zj (j:=1) rfl,.inr (G _ _ aM)⟩
  have J:∀v∈xs,oy W v:=λv L=>(u v L).same a;have g:=S2.trans I;refine⟨_,rfl,ll,_,_,_,rfl,rfl,gp.of e4,aC,t,T,.ref i,rfl,mL.same a,ok,.inr ⟨i,xs,rfl,X,hlen,J,λn' y H5 l' U ag e5=>?_,λa6 g' H5 l' p bx U ag e5 hp ep cn=>?_⟩⟩
  .rw[pG.iff e g]at y;exact(y.good ok hg).elim
  .rw[Good.iff e g]at g';have eJ:=g'.uniq ok hg;subst eJ;have o:=a.trans U;have a5:=g.trans U;refine r _ _ (my λD3 ak bM=>?_);clear r;refine⟨_,rfl,rfl,_,rfl,?_⟩;refine jC ?_;refine⟨_,rfl,_,rfl,l,T,xs,a6,rfl,ok,o _ _ O,Paired.mY g'.ja λ_ _ q=>q.same a5,by rw[<-aV g'.ja];exact hlen,g'.ok,λH6 p2 b4 S a0 b1 b2=>?_⟩;refine⟨ZE (by show 1<=1000;decide),λln Z=>?_⟩;have S7:fy H6 (upd H6 ln (.lst [.ref p2])):=sameNew (fy.refl _) Z;have e7:upd H6 ln (.lst [.ref p2]) ln=some (.lst [.ref p2]):=Zd;have bb:p≠p2:=λz=>by rw[z]at ep;rw[ep]at a0;cases a0
   have F:=S.trans S7;refine⟨l',ln,p,p2,rfl,rfl,F _ _ e5,e7,bb,HD (F _ _ ep) (S7 _ _ b1) cn b2 (λ_=>rfl),_,rfl,?_⟩;refine jC ?_;exact⟨_,rfl,_,rfl,l,lk,xs,rfl,rfl,F _ _ (o _ _ O),F _ _ (a5 _ _ e1),uZ,bM _ _ (k _ (o.trans F))⟩
end
end SX
namespace L2
open PySem PySem.Spec PyProof.Rows
theorem Kw(a:List Value):slicePick a.toArray none none (some (-1))=a.reverse.toArray:=by
 have f:eT none none (some (-1)) a.toArray.size=((a.length:Int)-1,-1,-1):=by simp[eT]
 unfold slicePick;rw[f];have c:sliceRange ((a.length:Int)-1) (-1) (-1)=(a_ a.length).map λk=>a.length-1-k:=by
  unfold sliceRange;have e:(if(-1:Int)>0 then if(a.length:Int)-1 < -1 then(-1-((a.length:Int)-1) + -1-1) / -1 else 0 else if(a.length:Int)-1 > -1 then(((a.length:Int)-1) - -1 - -1-1) / - -1 else 0).toNat=a.length:=by
   rw[if_neg (by decide)];split
   .rw[show((a.length:Int)-1 - -1 - -1-1)=a.length by omega,show(- -1:Int)=1 by decide,Int.ediv_one,Int.toNat_natCast]
   .omega
  show((a_ _).map _)=_;rw[e];refine fR λk hk=>?_;rw[bq]at hk;omega
 rw[c];congr 1;apply List.ext_getElem?;intro i;have n:∀l:List Nat,(∀k∈l,k<a.length)->(l.map λk=>a.length-1-k).filterMap (λx=>a.toArray[x]?)=l.map λk=>a.getD (a.length-1-k) .none:=by
  intro l;induction l with
 |nil=>intro _;rfl
 |cons k l b=>
   intro h;have hk:=h k ay;have:a.length-1-k<a.length:=by omega
   rw[aA,aA,dw,b λj d=>h j (ar _ d)];simp[this]
 rw[n _ λk hk=>bq.mp hk,aY];by_cases h:i<a.length
 .rw[List.getElem?_reverse h,List.getElem?_range h];have g:a.length-1-i<a.length:=by omega
  simp[g]
 .rw[cv (by simp;omega),cv (by simp;omega)];rfl
noncomputable def wR(K:ae)(te ts:TE):TE:=λσ H Q=>te σ H λx H1=>ts σ H1 λy H2=>y=.int (-1)/\∃a xs,x=.ref a/\gp K H2 a xs/\∀p,H2 p=none->Q (.ref p) (upd H2 p (.lst xs.reverse))
theorem Ff{X:Cx}{e st:Expr}{te ts:TE}{pos p2:Pos}(he:PE X e te)(n:PE X st ts):PE X (.Subscript e (.Slice none none (some st) p2) pos) (wR X.K te ts):=by intro pins s σ H Q I h;refine Subscript_ (hU (he pins s σ H _ I h) λv s1 hZ=>?_);obtain⟨x,H1,B,g,i⟩:=hZ;refine wpAny_Slice ?_;rw[evalPart_none,evalPart_some];refine ah (ah (hU (n pins s1 σ H1 _ B i) λu s3 hZ=>?_));obtain⟨y,C,z,f,p,a,xs,ex,l,q⟩:=hZ;subst p ex;obtain⟨t,rfl⟩:=f;cases g;have c:Inv X pins σ C {s3 with heap:=s3.heap.push {cls:=.type "slice",data:=.fields #[.none,.none,.int (-1) t]}}:=z.kept (t':=s3.toks) λb j q=>Heap.get?_push_of_some _ q;obtain⟨D,r,d,hz⟩:=c.list l;have hlen:=r.length;show wpAny (model X.prog X.w) X.A (i6 e (.Slice none none (some st) p2) (.ref a) (.ref s3.heap.objs.size)) (EP X pins σ Q) X.xe {s3 with heap:=s3.heap.push {cls:=.type "slice",data:=.fields #[.none,.none,.int (-1) t]}};refine tail_any (ops:=[.ref a,.ref s3.heap.objs.size]) d.isList.typeIs slot_list_getitem.lookup ?_ (by with_unfolding_all rfl);refine wpAny_getItem_list_slice d.isList (Heap.IsSliceOf.new ..) .none .none (.int (-1) t) (by simp) ?_ (by rw[aw]<;>omega);rw[Kw];refine⟨.ref _,_,c.laid (t':=s3.toks) (o:=.lst xs.reverse) (λb j q=>Heap.get?_push_of_some _ q) (Nat.le_refl _) ?_,rfl,q _ (c.hL.fresh (Nat.le_refl _))⟩;exact⟨by rw[List.length_reverse];exact hz,_,0,r.reverse,Heap.get?_push_size _ rfl⟩
end L2
namespace HT
open PySem PySem.Spec PyProof.Rows
section
variable {prog:Program}{w:World}{A:bh}{E:Value->ai->Prop}{s:ai}
theorem rn{t c:Addr}{items:Array Value}{i g:Value}{lo b:Option Int}{Q:Value->ai->Prop}(a:IsTup s.heap t items)(j:s.heap.IsSliceOf c i g .none)(pl:iK i lo)(pu:iK g b)(hw:jH items.size 0 lo=0/\jH items.size items.size b=items.size)(h:Q (.ref t) s):wpAny (model prog w) A (fU (.ref t) (.ref c)) Q E s:=by
 obtain⟨os,e,f,l⟩:=id j;have d:s.TypeIs (.ref c) "slice":=⟨os,e,f⟩;unfold fU;try with_reducible refine aU ?_
 first|refine aa (ah ?_)|skip
 refine aa (gP a.typeIs (by decide) ?_);refine aa (bp (name:=Str.ofString "__getitem__") a.typeIs bL (bF bL a.typeIs entry_tuple_getitem ?_ (args_tuple_getitem _ _)));show wpAny _ _ (iE (.ref t) >>= _) _ _ s;refine aa (tupleItemsOf_ a ?_);refine aa (fC d ?_);rw[if_pos (by decide)];refine aa (Jj j pl pu ?_);have yes:(((jH items.size 0 lo:Nat):Int)==0&&(1:Int)==1&&(jH items.size items.size b-jH items.size 0 lo)==items.size)=true:=by rw[hw.1,hw.2];simp
 show wpAny _ _ (if(((jH items.size 0 lo:Nat):Int)==0&&(1:Int)==1&&(jH items.size items.size b-jH items.size 0 lo)==items.size)=true then _ else _) _ _ s;rw[if_pos yes];unfold Builtin.Tuple.tupleIsExact;refine aa (aa (fC a.typeIs (ah ?_)));rw[if_pos (by decide)];refine aa (dA ?_);exact ah ⟨_,rfl,ah h⟩
end
end HT
namespace L2
open PySem PySem.Spec PyProof.Rows
section
variable {X:Cx}
noncomputable def oA(K:ae):V->Option Int->Option Int->Hp->VK->Prop:=λx lo hi H Q=>∃a xs,x=.ref a/\hO K H a xs /\((HT.jH xs.length 0 lo=0/\HT.jH xs.length xs.length hi=xs.length)->Q (.ref a) H)/\(¬(HT.jH xs.length 0 lo=0/\HT.jH xs.length xs.length hi=xs.length)->∀p,H p=none->Q (.ref p) (upd H p (.tup (jT xs lo hi))))
theorem X5:vM X (oA X.K):=by
 intro pins s σ H x v j i lo g l Q I c f pl pu h;obtain⟨a,xs,rfl,d,o,n⟩:=h;by_cases hw:HT.jH xs.length 0 lo=0/\HT.jH xs.length xs.length g=xs.length
 .cases c;obtain⟨b,r,e,hz⟩:=I.tuple d;have hlen:b.toArray.size=xs.length:=by rw[aw];exact r.length.symm
  refine⟨"tuple",_,bL.lookup,e.typeIs,?_⟩;exact HT.rn e f pl pu (by rw[hlen];exact hw) ⟨.ref a,H,I,rfl,o hw⟩
 .exact GP pins s σ H _ v j i lo g l Q I c f pl pu ⟨a,xs,rfl,d,hw,n hw⟩
end
end L2
namespace SX
open PySem L2 PySem.Spec PyProof.Rows TB WD
noncomputable def Sz(b z:Addr)(H H':Hp):Prop:=∀c o,H c=some o->c≠b->c≠z->H' c=some o
theorem Sz.after  (s:Zh b H d)(s':Sz b z d H'):Sz b z H H':=λc o e n a=>s' c o (s c o e n) n a
noncomputable def mS(b z:Addr)(H:Hp)(v:V):Prop:=∀H',Sz b z H H'->sL H' v
theorem mS.later{b z:Addr}{H a:Hp}{v:V}(s:Zh b H a)(h:mS b z H v):mS b z a v:=λH' s'=>h H' (s'.after s)
noncomputable def KV(H:Hp)(v:V):Prop:=(∃T3,Th H v T3/\T3≠"list")\/∃lk ks,v=.ref lk/\H lk=some (.lst ks)/\ks.length<=1000/\∀u∈ks,sL H u
noncomputable def tM(b z:Addr)(H:Hp)(v:V):Prop:=∀H',Sz b z H H'->KV H' v
theorem tM.later{b z:Addr}{H a:Hp}{v:V}(s:Zh b H a)(h:tM b z H v):tM b z a v:=λH' s'=>h H' (s'.after s)
theorem NS{b z q:Addr}{H:Hp}{us:List V}(e:H q=some (.lst us))(n:q≠b)(a:q≠z)(d:us.length<=1000)(h:∀u∈us,mS b z H u):tM b z H (.ref q):=λH' s=>.inr ⟨q,us,rfl,s _ _ e n a,d,λu c=>h u c H' s⟩
theorem GF{z a:Addr}{H:Hp}{xs zl:List V}(hz:H z=some (.lst zl))(h:H a=some (.tup xs)):a≠z:=hA h hz (λz=>nomatch z)
theorem Gk{xs:List V}{lo a:Option Int}{u:V}(h:u∈jT xs lo a):u∈xs:=ie (br h)
theorem NY{H:Hp}(i:Int):Itm H (.int i):=⟨⟨_,.int i⟩,.int i,.int i,rfl⟩
theorem Lb{H:Hp}(c:Bool):Itm H (.bl c):=⟨⟨_,.bl c⟩,.bool c,.bl c,rfl⟩
theorem DS{H:Hp}:Itm H .non:=⟨⟨_,.non⟩,.none,.non,rfl⟩
theorem DR{H:Hp}{z:Str}(g:GS z):Itm H (.str z):=⟨⟨_,.str z (VJ g)⟩,.str z,.str z,Gj g⟩
theorem Jx{b a:Addr}{H:Hp}{xs:List V}(B:Zv H b)(h:H a=some (.tup xs)):a≠b:=by obtain⟨x,y,z,e⟩:=B;exact hA h e (λz=>nomatch z)
theorem Gp{b z a:Addr}{H:Hp}{xs zl:List V}(B:Zv H b)(hz:H z=some (.lst zl))(h:H a=some (.tup xs))(d:xs.length<=1000)(e:∀u∈xs,∀H',Itm H' u)(hd:∀u∈xs.drop 3,∃i:Int,u=.int i):mS b z H (.ref a):=λH' s=>.inr ⟨a,xs,rfl,s _ _ h (Jx B h) (GF hz h),d,λu c=>e u c H',hd⟩
theorem NT{b z a:Addr}{H:Hp}{xs:List V}(n:a≠b)(c:a≠z)(h:H a=some (.lst xs)):mS b z H (.ref a):=λH' s=>.inl ⟨_,.lst (s _ _ h n c),by decide⟩
theorem FX{b z a:Addr}{H:Hp}{zl:List V}(n:a≠b)(hz:H z=some (.lst zl))(h:H a=some (.dK [])):mS b z H (.ref a):=λH' s=>.inl ⟨_,.dK (s _ _ h n (hA h hz (λz=>nomatch z))),by decide⟩
theorem DO{b z:Addr}{H:Hp}:mS b z H .non:=λH' s=>.inl ⟨_,.non,by decide⟩
theorem Mc{T:Tb}(o:hI T){S:Sx}(h:S∈ic T):(S.key.map kV).length<=1000/\∀u∈S.key.map kV,∀H,Itm H u:=by obtain⟨j,is⟩:=Yz o h;exact⟨(SE o is (H:=λ_=>none)).1,λu a H=>(SE o is (H:=H)).2 u a⟩
theorem SD{T:Tb}(o:hI T){b z a:Addr}{H:Hp}{S:Sx}{zl:List V}(B:Zv H b)(hz:H z=some (.lst zl))(d:S∈ic T)(h:H a=some (.tup (S.key.map kV))):mS b z H (.ref a):=by obtain⟨g,f⟩:=Mc o d;refine Gp B hz h g f λu c=>?_;obtain⟨p,q,e|⟨i,e⟩⟩:=XZ o d<;>(rw[e]at c;cases c)
theorem DH{n:Int}(h:0<=n)(a:n<=100000):n.natAbs.log2<9000:=by
 by_cases e:n.natAbs=0
 .rw[e];decide
 .exact Nat.lt_of_lt_of_le ((Nat.log2_lt e).mpr (Nat.lt_of_le_of_lt (by omega:n.natAbs<=100000) (by decide:100000<2 ^ 20))) (by decide)
theorem P1{K:ae}{b z lk n:Addr}{σ:L2.St}{c:Hp}{x:V}{h ks zl:List V}{at_:Int}{R:VK}(P:σ[2]?=some (some (.ref lk)))(O:σ[4]?=some (some (.int at_)))(Y:Zv c b)(s:z≠b)(hz:c z=some (.lst zl))(B:c lk=some (.lst ks))(w:lk≠b)(Q:c n=some (.lst h))(J:n≠b)(hy:h.length<=60)(hl:ks.length<=60)(hk:∀u∈h,mS b z c u)(A:∀u∈ks,mS b z c u)(M:mS b z c x)(k:∀H' v,Zv H' b->Zh b c H'->tM b z H' v->R v H'):[x].length<=sizeLine/\∀q,c q=none->sY (.ref n) (.ref q) (upd c q (.lst [x])) λz H1=>wQ (oQ K) (lC 2) (WN (rF (tS λi j=>V.int (i+j)) (lC 4) (tC (V.int 1)))) Gb σ H1 λF f=>sY z F f R:=by
 refine⟨ZE (by show 1<=1000;decide),λq N=>?_⟩;refine al (G:=λX=>sY (.ref n) (.ref q) X _) Y N λH1 B1 E T n1=>?_;refine⟨n,q,_,_,rfl,rfl,E _ _ Q J,T,ZE (by show _+1<=1000;omega),λI y=>?_⟩;try dsimp only
 refine mz B1 y λf Z W S L=>?_;have g:=E.trans W;refine⟨_,P,_,O,_,_,rfl,rfl,_,rfl,lk,ks,rfl,gp.of (g _ _ B w),λl C=>?_⟩;try dsimp only
 have o:Zh b f (upd f l (.lst (jT ks (some (at_+1)) none))):=(Zh.refl b f).jq C;have r:Zv (upd f l (.lst (jT ks (some (at_+1)) none))) b:=Z.new C;have D:upd f l (.lst (jT ks (some (at_+1)) none)) l=some (.lst (jT ks (some (at_+1)) none)):=Zd;generalize upd f l (.lst (jT ks (some (at_+1)) none))=p at o r D ⊢;have c1:=Xx ks (some (at_+1)) none;have l1:(h++[x]).length=h.length+1:=by rw[aq];rfl
 refine⟨I,l,_,_,rfl,rfl,o _ _ S L,D,ZE (by omega),λH a=>?_⟩;have U:Zh b p (upd p H (.lst (h++[x]++jT ks (some (at_+1)) none))):=(Zh.refl b p).jq a;have d:=(g.trans o).trans U;refine k _ _ (r.new a) d (NS Zd (r.ne a) (λe=>by rw[e,(g.trans o) _ _ hz s]at a;cases a) (by rw[aq];omega) λu hu=>?_);rcases aF.mp hu with hu|hu
 .rcases aF.mp hu with hu|hu
  .exact(hk u hu).later d
  .rw[aI]at hu;subst hu;exact M.later d
 .exact(A u (Gk hu)).later d
structure Old(b z:Addr)(H:Hp)(ko:Addr)(kk:KK):Prop where
 bx:Zv H b
 nz:z≠b
 hz:∃zl:List V,H z=some (.lst zl)
 at_:H ko=some (.tup (kk.map kV))
 im:(kk.map kV).length<=1000/\∀u∈kk.map kV,∀H,Itm H u
 fm:∃p q,kk=[.inr p,.inr q]\/∃i,kk=[.inr p,.inr q,.inl i]
theorem Old.to{b z a:Addr}{H H':Hp}{kk:KK}(h:Old b z H a kk)(B:Zv H' b)(s:Zh b H H'):Old b z H' a kk:=⟨B,h.nz,h.hz.imp λ_ e=>s _ _ e h.nz,s _ _ h.at_ (Jx h.bx h.at_),h.im,h.fm⟩
theorem Wd{xs:List V}{lo a:Option Int}(h:HT.jH xs.length 0 lo=0/\HT.jH xs.length xs.length a=xs.length):jT xs lo a=xs:=by unfold jT;rw[h.1,h.2,fZ,Nat.sub_zero,aP]
theorem Old.cut{K:ae}{b z a:Addr}{H:Hp}{kk:KK}(h:Old b z H a kk){lo d:Option Int}{R:VK}(k:∀H' q,Zv H' b->Zh b H H'->H' q=some (.tup (jT (kk.map kV) lo d))->R (.ref q) H'):oA K (.ref a) lo d H R:=by refine⟨a,_,rfl,hO.of h.at_,λhw=>k _ _ h.bx (Zh.refl b H) (by rw[Wd hw];exact h.at_),λ_ p c=>k _ _ (h.bx.new c) ((Zh.refl b H).jq c) Zd⟩
theorem take2{kk:KK}:jT (kk.map kV) none (some 2)=(kk.map kV).take 2:=by
 show((kk.map kV).drop 0).take (HT.jH (kk.map kV).length (kk.map kV).length (some ((2:Nat):Int))-0)=_;rw[HT.qL,fZ,Nat.sub_zero];by_cases h:2<=(kk.map kV).length
 .rw[Nat.min_eq_left h]
 .rw[Nat.min_eq_right (by omega),bg (Nat.le_refl _),bg (by omega)]
theorem Old.len{b z a:Addr}{H:Hp}{kk:KK}(h:Old b z H a kk):2<=(kk.map kV).length/\(kk.map kV).length<=3:=by
 obtain⟨p,q,rfl|⟨i,rfl⟩⟩:=h.fm
 .exact⟨Nat.le_refl _,by show 2<=3;decide⟩
 .exact⟨by show 2<=3;decide,Nat.le_refl _⟩
theorem Au{kk:KK}:(jT (kk.map kV) (some 2) none).length<=(kk.map kV).length-2:=by unfold jT;rw[aN,fz];have:HT.jH (kk.map kV).length 0 (some ((2:Nat):Int))=min 2 (kk.map kV).length:=HT.qL _ _ _;have a:HT.jH (kk.map kV).length 0 (some 2)=min 2 (kk.map kV).length:=this;rw[a];exact Nat.le_trans (Nat.min_le_right _ _) (by generalize (kk.map kV).length=n;omega)
theorem As{xs:List V}(h:xs.length<=3):∀u∈xs.drop 3,∃i:Int,u=.int i:=by rw[List.drop_of_length_le h];exact λu a=>nomatch a
theorem Old.vV{b z a:Addr}{H:Hp}{kk:KK}(h:Old b z H a kk){H':Hp}{q:Addr}{xs:List V}(B:Zv H' b)(hz:∃zl:List V,H' z=some (.lst zl))(e:H' q=some (.tup xs))(d:xs.length<=3)(hm:∀u∈xs,u∈kk.map kV\/∀H,Itm H u):mS b z H' (.ref q):=Gp B hz.choose_spec e (by omega) (λu c=>(hm u c).elim (h.im.2 u) id) (As d)
theorem Old.two{K:ae}{b z j:Addr}{H:Hp}{kk:KK}{σ:L2.St}{te:TE}{c:V}{R:VK}(h:Old b z H j kk)(y:σ[7]?=some (some (.ref j)))(i:∀(H':Hp)(o:VK),o c H'->te σ H' o)(x:∀H,Itm H c)(k:∀H' q,Zv H' b->Zh b H H'->mS b z H' (.ref q)->R (.ref q) H'):rF Kl (wQ (oA K) (lC 7) Gb (WN (tC (V.int 2)))) (vf (Y7 te jn)) σ H R:=by
 obtain⟨E,D⟩:=h.len;refine⟨_,y,_,rfl,?_⟩;refine h.cut λH1 w r n d=>?_;rw[take2]at d;refine i _ _ ⟨ZE (by show 1<=1000;decide),λv A=>?_⟩;try dsimp only
 refine mz r A λg p f B C=>?_;have lt:((kk.map kV).take 2).length=2:=by rw[aN];omega
 refine⟨w,v,_,_,rfl,rfl,f _ _ d (Jx r d),B,ZE (by rw[lt];show 3<=1000;decide),(λz=>by rw[z]at lt;cases lt),(λz=>nomatch z),λs a=>?_⟩;have l:Zh b g (upd g s (.tup ((kk.map kV).take 2++[c]))):=(Zh.refl b g).jq a;refine k _ _ (p.new a) ((n.trans f).trans l) (h.vV (p.new a) (h.hz.imp λ_ e=>l _ _ (f _ _ (n _ _ e h.nz) h.nz) h.nz) Zd (by rw[aq,lt];exact Nat.le_refl _) λu hu=>?_);rcases aF.mp hu with hu|hu
 .exact .inl (br hu)
 .rw[aI]at hu;subst hu;exact .inr x
theorem Old.cat{b z j:Addr}{H:Hp}{kk:KK}(h:Old b z H j kk){H':Hp}{t f:Addr}{xs d:List V}{R:VK}(B:Zv H' b)(hz:∃zl:List V,H' z=some (.lst zl))(i:H' t=some (.tup xs))(o:H' f=some (.tup d))(l:xs≠[])(r:xs.length+d.length<=3)(g:∀u∈xs++d,u∈kk.map kV\/∀H,Itm H u)(k:∀c q,Zv c b->Zh b H' c->mS b z c (.ref q)->R (.ref q) c):Kl (.ref t) (.ref f) H' R:=⟨t,f,_,_,rfl,rfl,i,o,ZE (by omega),(λz=>absurd z l),(λ_=>k _ _ B (Zh.refl b H') (h.vV B hz i (by omega) λu n=>g u (bj _ n))),λp a=>k _ _ (B.new a) ((Zh.refl b H').jq a) (h.vV (B.new a) (hz.imp λ_ e=>(Zf (fi e a)).trans e) Zd (by rw[aq];omega) g)⟩
theorem HC{v:V}{r:L2.TA}{σ:L2.St}{H:Hp}{Q:List V->Hp->Prop}(h:r σ H λxs a=>Q (v::xs) a):Y7 (tC v) r σ H Q:=h
theorem vA{t:TE}{r:L2.TA}{σ:L2.St}{H:Hp}{Q:VK}(h:t σ H λx H1=>r σ H1 λxs a=>(x::xs).length<=sizeLine/\∀p,a p=none->Q (.ref p) (upd a p (.lst (x::xs)))):vg (Y7 t r) σ H Q:=h
theorem U6{t:TE}{r:L2.TA}{σ:L2.St}{H:Hp}{Q:List V->Hp->Prop}(h:t σ H λx H1=>r σ H1 λxs a=>Q (x::xs) a):Y7 t r σ H Q:=h
noncomputable def W3:Sp:=λvs H Q _=>∃(b d lk z:Addr)(T:Tb)(ks zl:List V)(J:List Sx),vs=[.ref b,.ref d,.ref lk]/\Zv H b/\z≠b/\H z=some (.lst zl)/\lk≠z/\Dc H d (ic T)/\hI T/\H lk=some (.lst ks)/\lk≠b/\j7 H ks J/\(∀S∈J,S∈ic T)/\ks≠[]/\ks.length<=60/\∀H' v,Zv H' b->Zh b H H'->tM b z H' v->Q v H'
section
variable {P:Program}{w:World}{K:ae}{mg:Str->Option Value}{base:Heap}
theorem Z5:fx [jE,jF,qm,"_law_way",oN,"_law_some","_law_key","_law_old","_law_odd"] [jE,jF,qm] (Ze T.kG):=jX
theorem LH(B:∀x∈jO,mg x=none)(CT:hY P w K mg base 1 qo [jE,mR] Xi)(D:Df K mg "_law_bad_keys" T.kG [jE,jF,qm]):hY P w K mg base 2 "_law_bad_keys" [jE,jF,qm] W3:=by
 refine D.cn Z5 λf e2 A outer s H vs Q E hr h=>?_;obtain⟨b,d,lk,z,T,ks,zl,J,rfl,hb,o,hz,dP,dc,ok,da,C,kl,hJ,ep,hl,k⟩:=h;refine' ⟨_,(Za (st 3 Z5.nd (cn CT hr (jz (pv 0) Zb))) (Za ?eG (Za ?eF (Za ?eE (Za ?eD (Za ?eC (Za ?eB (Za ?eA (Za ?ez (Za ?ey (Za (st 7 Z5.nd (il K (pv 2) (pv 4))) (Za ?ew (Za ?eu (Zc ?et)))))))))))))),?rd⟩;case' et=>refine' (Zk (Zr JG (Zr JG (ZQ (r:=oQ K) X6 (pv 2) Z4 (Z3 (pv 4))) (ZD (ju (il K (pv 8) (cn CT hr (jz (pv 0) Zb)))))) (ZQ (r:=oQ K) X6 (pv 2) (Z3 (Zr ZL (pv 4) Zb)) Z4)))
 case' eu=>refine' (st 8 Z5.nd (Zr JG (pv 8) ?eH))
 case' ew=>refine' (st 8 Z5.nd ?eJ)
 case' ey=>refine' (ZA (Zo YV (pv 3) Zb (Zt _)) (Zc ?eL) Zn)
 case' ez=>refine' (ZA (Zo YV (pv 3) Zb (Zt _)) (Zc (Zk (Zr JG (pv 2) (ZD (ju (pv 6)))))) Zn)
 case' eA=>refine' (ZA (Zo YV (pv 3) Zb (Zt _)) (Zc (Zk (Ff (pv 2) (MU Uw Zb)))) Zn)
 case' eB=>refine' (ZA (Zo YV (pv 3) Zb (Zt _)) (Zc ?h5) Zn)
 case' eC=>refine' (ZA (Zo YV (pv 3) Zb (Zt _)) (Zc ?h3) Zn)
 case' eD=>refine' (ZA (Zo YV (pv 3) Zb (Zt _)) (Zc ?h2) Zn)
 case' eE=>refine' (st 6 Z5.nd ?h1)
 case' eF=>refine' (st 5 Z5.nd (Yg (N6 rfl) rfl (bm B) XN (ju (pv 1))))
 case' eG=>refine' (st 4 Z5.nd (cn CT hr (jz (pv 0) (Zw (r:=j_ K) ZG rfl (bm B) aT (ju (pv 2))))))
 case' eH=>refine' (ZD (Zg (Zr XJ (ZQ (r:=oA K) X5 (pv 7) Z4 (Z3 Zb)) (Zx (ju ZC))) (Zg (Zr XJ (ZQ (r:=oA K) X5 (pv 7) Z4 (Z3 Zb)) (Zx (ju ZJ))) (Zg (Zr XJ (ZQ (r:=oA K) X5 (pv 7) Z4 (Z3 Zb)) (Zx (ju (MU Uw Zb)))) (Zg (Zr XJ (ZQ (r:=oA K) X5 (pv 7) Z4 (Z3 Zb)) (Zx (ju (Zr Q3 Zb Zb)))) (kg (Zx Zl) (ZD Zl) Xv))))))
 case' eJ=>refine' (ZD (Zg (Yg XM rfl (bm B) XN (ju (pv 7))) (Zg (ZQ (r:=oA K) X5 (pv 7) Z4 (Z3 Zb)) (Zg (Zr XJ (pv 7) (Zx (ju Zb))) (Zg (Zr XJ (Zx (jz (it K (pv 7) Zb) (it K (pv 7) Zb))) (ZQ (r:=oA K) X5 (pv 7) (Z3 Zb) Z4)) (kg ZJ (Zr XJ (ZQ (r:=oA K) X5 (pv 7) Z4 (Z3 Zb)) (Zx (ju YU))) (Zr XJ (ZQ (r:=oA K) X5 (pv 7) Z4 (Z3 Zb)) (Zx (ju YU)))))))))
 case' eL=>refine' (Zk ?eN)
 case' eN=>refine' (il K ?eP (cn CT hr (jz (pv 0) Zb)))
 case' eP=>refine' (ZD (Zg (Yg Jd rfl (bm B) YQ (ju (pv 2))) (Zg (ZD Zl) (Zg ZJ (kg ZC (ZD (ju (pv 2))) Xv)))))
 case' h5=>refine' (Zk (Zr JG (Zr JG (ZQ (r:=oQ K) X6 (pv 2) Z4 (Z3 (pv 4))) (ZD (ju (pv 6)))) (ZQ (r:=oQ K) X6 (pv 2) (Z3 (Zr ZL (pv 4) Zb)) Z4)))
 case' h3=>refine' (Zk (Zr JG (ZQ (r:=oQ K) X6 (pv 2) Z4 (Z3 (Zr ZL (pv 4) Zb))) (ZQ (r:=oQ K) X6 (pv 2) (Z3 (pv 4)) Z4)))
 case' h2=>refine' (Zk (Zr JG (ZQ (r:=oQ K) X6 (pv 2) Z4 (Z3 (pv 4))) (ZQ (r:=oQ K) X6 (pv 2) (Z3 (Zr ZL (pv 4) Zb)) Z4)))
 case' h1=>refine' (il K (pv 5) (cn CT hr (jz (pv 0) (Zw (r:=j_ K) ZG rfl (bm B) aT (ju (pv 5))))))
 case' rd=>
 obtain⟨bx,ed,pr⟩:=dc.ord (VP ok);have e1:=aV pr;have nd:d≠b:=by obtain⟨x,y,z,e⟩:=hb;exact hA ed e (λz=>nomatch z)
 have bM:0<ks.length:=List.length_pos_iff.mpr ep;have kJ:=kl.len;have apos:0<(ic T).length:=by
  cases J with
 |nil=>rw[kJ]at bM;cases bM
 |cons S J=>exact List.length_pos_of_mem (hJ S ay)
 have all:=Pb ok;rw[show L2.start ([jE,jF,qm,"_law_way",oN,"_law_some","_law_key","_law_old","_law_odd"]:List Str) [V.ref b,V.ref d,V.ref lk]=[some (.ref b),some (.ref d),some (.ref lk),none,none,none,none,none,none]from rfl];refine tq λD0 c7=>?_;refine oz hb (λway H1 w0 w1 B1 S1=>?_);refine c7 _ _ (tq λD1 c6=>?_);clear c7;try dsimp only[Zp,av]
 refine⟨_,rfl,_,rfl,lk,_,rfl,.inl (gp.of (S1 _ _ da C)),b,_,rfl,B1,by omega,ZO (by omega) (by omega),λat_ H2 a0 a1 B2 eY=>?_⟩;refine c6 _ _ (tq λD2 c5=>?_);clear c6;try dsimp only[Zp,av]
 have S2:=S1.trans eY;refine⟨_,rfl,d,bx,rfl,S2 _ _ ed nd,λls bs cN es c9=>?_⟩;try dsimp only[Zp,av]
 refine al B2 cN λH3 B3 eX cb dV=>?_;refine c5 _ _ (tq λD3 c3=>?_);clear c5 cN;have d3:(bs.map V.ref).length=(ic T).length:=by rw[lm];omega
 refine⟨_,rfl,_,rfl,_,rfl,ls,_,rfl,.inl (gp.of cb),b,_,rfl,B3,by omega,DH (by omega) (by omega),λr H4 r0 r1 B4 dv=>?_⟩;obtain⟨kv,dn,m4⟩:=at_of (xs:=bs.map V.ref) r0 r1;refine⟨ls,_,_,_,rfl,rfl,gp.of (dv _ _ cb dV),dn,?_⟩;refine c3 _ _ (my λD4 c0 el=>?_);clear c3;try dsimp only[Zp,av]
 have dx:=eX.trans dv;have S4:=S2.trans dx;have g:=S4 _ _ da C;have L:=S4 _ _ hz o;obtain⟨kb,bT,rfl⟩:=ao.mp m4;have kk:mS b z H4 (.ref kb):=by
  obtain⟨m,hm⟩:=aJ.mp bT;have cK:m<bx.length:=by rw[<-es];exact(aj.mp hm).1
  have M:m<(ic T).length:=by omega
  obtain⟨ek,_⟩:=ZI pr (gE cK) (gE M);have:=c9 m kb _ hm (gE cK);rw[ek]at this;exact(SD ok B2 (S2 _ _ hz o) (aB M) this).later dx
 have ag:∀u∈ks,mS b z H4 u:=λu hu=>by
  obtain⟨m,hm⟩:=aJ.mp hu;have M:m<J.length:=by rw[<-kJ];exact(aj.mp hm).1
  obtain⟨a,rfl,ha⟩:=ZI kl hm (gE M);exact(SD ok hb hz (hJ _ (aB M)) ha).later S4
 have fin:∀H' v,Zv H' b->Zh b H4 H'->tM b z H' v->Q v H':=λH' v B' S' h=>k H' v B' (S4.trans S') h;have X:∀(Hi:Hp)(us:List V)(R:V->Hp->Prop),(∀v H',Q v H'->R v H')->Zv Hi b->Zh b H4 Hi->us.length<=1000->(∀u∈us,mS b z Hi u)->∀q,Hi q=none->R (.ref q) (upd Hi q (.lst us)):=λHi us R hR Bi Si hu hk q hq=>by have I:Zh b Hi (upd Hi q (.lst us)):=(Zh.refl b Hi).jq hq;exact hR _ _ (fin _ _ (Bi.new hq) (Si.trans I) (NS Zd (Bi.ne hq) (λe=>by rw[e,(S4.trans Si) _ _ hz o]at hq;cases hq) hu λu h=>(hk u h).later I))
 clear c9 dn m4 cb bT d3;have cl:∀lo hi,(jT ks lo hi).length<=60:=λlo hi=>Nat.le_trans (Xx ks lo hi) hl;have kc:∀{Hi:Hp}{lo hi:Option Int},Zh b H4 Hi->∀u∈jT ks lo hi,mS b z Hi u:=λS' u hu=>(ag u (Gk hu)).later S';refine⟨_,rfl,rfl,_,rfl,?_⟩;refine ia (λ_=>?_) (λ_=>c0 _ _ (my λD5 cY ej=>?_))
 .refine⟨_,rfl,_,rfl,_,rfl,lk,ks,rfl,gp.of g,λl6 Y=>?_⟩;try dsimp only
  refine mz B4 Y λH6 F n U n6=>?_;refine⟨_,rfl,_,rfl,_,_,rfl,rfl,_,rfl,lk,ks,rfl,gp.of (n _ _ g C),λl7 h7=>?_⟩;try dsimp only
  refine mz F h7 λH7 N W e7 n7=>?_;have l:=n.trans W;have c1:=cl none (some at_);have c2:=cl (some (at_+1)) none;refine⟨l6,l7,_,_,rfl,rfl,W _ _ U n6,e7,ZE (by omega),X H7 _ _ (λv H' q=>el _ _ q) N l (by rw[aq];omega) λu hu=>?_⟩;rcases aF.mp hu with hu|hu
  .exact kc l u hu
  .exact kc l u hu
 clear c0;refine⟨_,rfl,rfl,_,rfl,?_⟩;refine ia (λ_=>?_) (λ_=>cY _ _ (my λD6 cX ei=>?_))
 .refine⟨_,rfl,_,rfl,_,_,rfl,rfl,_,rfl,lk,ks,rfl,gp.of g,λl6 Y=>?_⟩;try dsimp only
  refine mz B4 Y λH6 F n U n6=>?_;refine⟨_,rfl,_,rfl,_,rfl,lk,ks,rfl,gp.of (n _ _ g C),λl7 h7=>?_⟩;try dsimp only
  refine mz F h7 λH7 N W e7 n7=>?_;have l:=n.trans W;have c1:=cl none (some (at_+1));have c2:=cl (some at_) none;refine⟨l6,l7,_,_,rfl,rfl,W _ _ U n6,e7,ZE (by omega),X H7 _ _ (λv H' q=>ej _ _ q) N l (by rw[aq];omega) λu hu=>?_⟩;rcases aF.mp hu with hu|hu
  .exact kc l u hu
  .exact kc l u hu
 clear cY;refine⟨_,rfl,rfl,_,rfl,?_⟩;refine ia (λ_=>?_) (λ_=>cX _ _ (my λD7 cT eh=>?_))
 .refine⟨_,rfl,_,rfl,_,rfl,lk,ks,rfl,gp.of g,λl6 Y=>?_⟩;try dsimp only
  refine mz B4 Y λH6 F n U n6=>?_;refine⟨_,rfl,?_⟩;exact P1 (ks:=ks) rfl rfl F o (n _ _ L o) (n _ _ g C) C U n6 (cl _ _) hl (kc n) (λu hu=>(ag u hu).later n) (kk.later n) λH' v B' S' h=>ei _ _ (fin H' v B' (n.trans S') h)
 clear cX;refine⟨_,rfl,rfl,_,rfl,?_⟩;refine ia (λ_=>?_) (λ_=>cT _ _ (my λD8 cR eg=>?_))
 .exact⟨_,rfl,1,rfl,rfl,lk,_,rfl,gp.of g,X H4 _ _ (λv H' q=>eh _ _ q) B4 (Zh.refl b H4) (by rw[List.length_reverse];omega) λu hu=>ag u (List.mem_reverse.mp hu)⟩
 clear cT;refine⟨_,rfl,rfl,_,rfl,?_⟩;refine ia (λ_=>?_) (λ_=>cR _ _ (my λD9 cP ef=>?_))
 .refine⟨_,rfl,_,rfl,ZE (by show 1<=1000;decide),λl6 Y=>?_⟩;try dsimp only
  refine mz B4 Y λH6 F n U n6=>?_;refine⟨lk,l6,_,_,rfl,rfl,n _ _ g C,U,ZE (by show _+1<=1000;omega),X H6 _ _ (λv H' q=>eg _ _ q) F n (by rw[aq];show _+1<=1000;omega) λu hu=>?_⟩;rcases aF.mp hu with hu|hu
  .exact(ag u hu).later n
  .rw[aI]at hu;subst hu;exact kk.later n
 clear cR;refine⟨_,rfl,rfl,_,rfl,?_⟩;refine ia (λ_=>?_) (λ_=>cP _ _ (tq λfa b2=>?_))
 .refine⟨_,rfl,lk,_,rfl,.inl ⟨gp.of g,λt1 ee=>?_⟩⟩;try dsimp only
  refine mz B4 ee λH5 B5 I e5 n5=>?_;refine⟨Nat.zero_le _,λq2 b4=>?_⟩;try dsimp only
  refine mz B5 b4 λH6 F n U n6=>?_;refine⟨_,rfl,ZE (by show 1<=1000;decide),λq3 ak=>?_⟩;try dsimp only
  refine mz F ak λH7 N W e7 n7=>?_;refine λq4 eo=>?_;try dsimp only
  refine mz N eo λH8 B8 S8 e8 n8=>?_;refine⟨ZE (by show 6<=1000;decide),λq5 en=>?_⟩;try dsimp only
  refine mz B8 en λH9 B9 S9 e9 n9=>?_;refine oz B9 (λr Ha r0 r1 Ba Sa=>?_);obtain⟨v,eS,mv⟩:=at_of (xs:=[V.ref t1,.ref q2,.non,.str "out",.ref q3,.ref q4]) r0 r1;refine⟨q5,_,_,_,rfl,rfl,gp.of (Sa _ _ e9 n9),eS,?_⟩;have cm:=S9.trans Sa;have dr:=S8.trans cm;have dt:=W.trans dr;have ab:=n.trans dt;refine ef _ _ (fin Ha v Ba (I.trans ab) ?_);simp only[au,aQ,or_false]at mv;rcases mv with rfl|rfl|rfl|rfl|rfl|rfl
  .exact λH' s=>.inl ⟨_,.tup (s _ _ (ab _ _ e5 n5) n5 (GF ((I.trans ab) _ _ L o) (ab _ _ e5 n5))),by decide⟩
  .exact NS (dt _ _ U n6) n6 (λe=>by rw[e,I _ _ L o]at b4;cases b4) (Nat.zero_le _) λu hu=>nomatch hu
  .exact λH' s=>.inl ⟨_,.non,by decide⟩
  .exact λH' s=>.inl ⟨_,.str _ (VJ ⟨by decide +kernel,by decide +kernel⟩),by decide⟩
  .refine NS (dr _ _ e7 n7) n7 (λe=>by rw[e,(I.trans n) _ _ L o]at ak;cases ak) (by show 1<=1000;decide) λu hu=>?_;rw[aI]at hu;subst hu;exact NT C dP ((I.trans ab) _ _ g C)
  .exact λH' s=>.inl ⟨_,.dK (s _ _ (cm _ _ e8 n8) n8 (hA (cm _ _ e8 n8) ((I.trans ab) _ _ L o) (λz=>nomatch z))),by decide⟩
 clear cP;obtain⟨vo,dg,mo⟩:=at_of (xs:=ks) a0 (by omega);refine⟨_,rfl,_,rfl,lk,_,_,_,rfl,rfl,gp.of g,dg,?_⟩;obtain⟨m,hm⟩:=aJ.mp mo;have M:m<J.length:=by rw[<-kJ];exact(aj.mp hm).1
 obtain⟨ko,rfl,aS⟩:=ZI kl hm (gE M);have hS:=hJ _ (aB M);generalize J[m]=S at aS hS;have O4:Old b z H4 ko S.key:=⟨B4,o,⟨_,L⟩,S4 _ _ aS (Jx hb aS),Mc ok hS,XZ ok hS⟩;refine b2 _ _ (tq λe4 b1=>?_);clear b2 dg mo aS;try dsimp only[Zp,av]
 obtain⟨l2,l3⟩:=O4.len;refine vA ?_;refine⟨_,rfl,ko,_,rfl,.inr (hO.of O4.at_),λq1 h1=>?_⟩;try dsimp only
 refine mz B4 h1 λH5 B5 I e5 n5=>?_;have o1:mS b z H5 (.ref q1):=NT n5 (λe=>by rw[e,L]at h1;cases h1) e5;have O5:=O4.to B5 I;refine U6 ⟨_,rfl,_,rfl,?_⟩;refine O5.cut λH6 q2 F bb U=>?_;have o2:mS b z H6 (.ref q2):=O5.vV F (O5.to F bb).hz U (Nat.le_trans (Xx _ _ _) l3) λu hu=>.inl (Gk hu);have O6:=O5.to F bb;refine U6 ⟨_,rfl,ZE (by show 1<=1000;decide),λt3 h3=>?_⟩;try dsimp only
 refine mz F h3 λH7 N G e7 n7=>?_;refine⟨ko,t3,_,_,rfl,rfl,(O6.to N G).at_,e7,ZE (by show _+1<=1000;omega),(λz=>by rw[z]at l2;cases l2),(λz=>nomatch z),λq3 ak=>?_⟩;try dsimp only
 refine mz N ak λH8 B8 a6 e8 n8=>?_;have o3:mS b z H8 (.ref q3):=Gp B8 ((((O6.to N G).to B8 a6).hz).choose_spec) e8 (by rw[aq];show _+1<=1000;omega) (λu hu=>by
  rcases aF.mp hu with hu|hu
  .exact O4.im.2 u hu
  .rw[aI]at hu;subst hu;exact λH=>NY 0) (λu hu=>by
  obtain⟨p,q,e|⟨i,e⟩⟩:=O4.fm
  .rw[e]at hu;cases hu
  .rw[e]at hu;have cI:u∈[V.int 0]:=hu;rw[aI]at cI;exact⟨0,cI⟩)
 have O8:=(O6.to N G).to B8 a6;obtain⟨x0,g0⟩:∃x,(S.key.map kV)[0]?=some x:=⟨_,gE (by omega)⟩;obtain⟨x1,g1⟩:∃x,(S.key.map kV)[1]?=some x:=⟨_,gE (by omega)⟩;refine U6 ⟨_,rfl,ko,_,_,_,rfl,rfl,hO.of O8.at_,Zj (j:=1) g1,_,rfl,ko,_,_,_,rfl,rfl,hO.of O8.at_,Zj (j:=0) g0,ZE (by show 2<=1000;decide),λt4 h4=>?_⟩;try dsimp only
 refine mz B8 h4 λH9 B9 cx e9 n9=>?_;have O9:=O8.to B9 cx;refine⟨_,rfl,_,rfl,?_⟩;dsimp only[Gb];refine O9.cut λHa qa Ba aC ea=>?_;have d2:=Au (kk:=S.key);have mm:∀u∈[x1,x0]++jT (S.key.map kV) (some 2) none,u∈S.key.map kV\/∀H,Itm H u:=λu hu=>by
  rcases aF.mp hu with hu|hu
  .simp only[au,aQ,or_false]at hu;rcases hu with rfl|rfl
   .exact .inl (aK g1)
   .exact .inl (aK g0)
  .exact .inl (Gk hu)
 have dd:=aC _ _ e9 n9;refine O9.cat Ba (O9.to Ba aC).hz dd ea (λz=>nomatch z) (by show 2+_<=3;omega) mm λHb q4 Bb O o4=>?_;have Ob:=(O9.to Ba aC).to Bb O;refine HC (U6 ?_);refine Ob.two (K:=K) (te:=tC (.bl true)) rfl (λ_ _ q=>q) (λH=>Lb true) λHc q5 Bc cf o5=>?_;have Oc:=Ob.to Bc cf;refine U6 ?_;refine Oc.two (K:=K) (te:=tC (.bl false)) rfl (λ_ _ q=>q) (λH=>Lb false) λHd q6 Bd a5 o6=>?_;refine⟨ZE (by show 7<=1000;decide),λlO er=>?_⟩;have cc:=cf.trans a5;have Z:=(cx.trans aC).trans O;have ck:=Z.trans cc;have cC:=(G.trans a6).trans ck;have cG:=bb.trans cC;have od:∀v∈[V.ref q1,.ref q2,.ref q3,.ref q4,.non,.ref q5,.ref q6],mS b z Hd v:=λv hv=>by
  simp only[au,aQ,or_false]at hv;rcases hv with rfl|rfl|rfl|rfl|rfl|rfl|rfl
  .exact o1.later cG
  .exact o2.later cC
  .exact o3.later ck
  .exact o4.later cc
  .exact DO
  .exact o5.later a5
  .exact o6
 have Od:=Oc.to Bd a5;obtain⟨vs,b5,d0⟩:∃vs,vs=[V.ref q1,.ref q2,.ref q3,.ref q4,.non,.ref q5,.ref q6]/\vs.length=7:=⟨_,rfl,rfl⟩;rw[<-b5]at od;rw[show(HO.lst [V.ref q1,.ref q2,.ref q3,.ref q4,.non,.ref q5,.ref q6])=.lst vs from by rw[b5]];try dsimp only[Zp,av]
 refine al Bd er λHe Be a4 eO nO=>?_;have eW:=(I.trans cG).trans a4;replace od:∀v∈vs,mS b z He v:=λv hv=>(od v hv).later a4;have Oe:=Od.to Be a4;refine b1 _ _ (tq λe3 b0=>?_);clear b1 b5 o1 o2 o3 o4 o5 o6 O5 O6 O8 O9 Ob Oc Od cG cC ck Z cc O aC cx a6 G bb I cf a5 a4 e5 U e7 e8 e9 ea dd mm g0 g1 B5 F N B8 B9 Ba Bb Bc Bd;refine⟨_,rfl,?_⟩;refine vA ?_;refine Oe.two (K:=K) (te:=tC (.str "0")) rfl (λ_ _ q=>q) (λH=>DR ⟨by decide +kernel,by decide +kernel⟩) λH5 q1 B5 I o1=>?_;have O5:=Oe.to B5 I;refine U6 ?_;refine O5.two (K:=K) (te:=tC .non) rfl (λ_ _ q=>q) (λH=>DS) λH6 q2 F n o2=>?_;have O6:=O5.to F n;refine U6 ?_;refine O6.two (K:=K) (c:=.int (-1)) rfl (λ_ _ q=>⟨1,rfl,q⟩) (λH=>NY _) λH7 q3 N W o3=>?_;have O7:=O6.to N W;refine U6 ?_;refine O7.two (K:=K) (c:=.int (10 ^ 25)) rfl (λ_ _ q=>⟨10,25,rfl,rfl,⟨by decide,by decide,by decide⟩,q⟩) (λH=>NY _) λH8 q4 B8 S8 o4=>?_;refine⟨Nat.zero_le _,λq5 h5=>?_⟩;try dsimp only
 refine mz B8 h5 λH9 B9 S9 e9 n9=>?_;have o5:mS b z H9 (.ref q5):=Gp B9 ((((O7.to B8 S8).to B9 S9).hz).choose_spec) e9 (Nat.zero_le _) (λu hu=>nomatch hu) (λu hu=>nomatch hu);refine⟨Nat.zero_le _,λq6 Y=>?_⟩;try dsimp only
 refine mz B9 Y λHa Ba Sa ea na=>?_;have o6:mS b z Ha (.ref q6):=NT na (λe=>by obtain⟨e0,d4⟩:=((O7.to B8 S8).to B9 S9).hz;rw[e,d4]at Y;cases Y) ea;refine λq7 h7=>?_;try dsimp only
 refine mz Ba h7 λHb Bb Sb eb nb=>?_;have o7:mS b z Hb (.ref q7):=FX nb (((((O7.to B8 S8).to B9 S9).to Ba Sa).to Bb Sb).hz.choose_spec) eb;refine⟨ZE (by show 7<=1000;decide),λlN hN=>?_⟩;try dsimp only
 have O:=Sa.trans Sb;have Z:=S9.trans O;have cB:=S8.trans Z;have cE:=W.trans cB;have cH:=n.trans cE;have dp:=I.trans cH;have b3:∀v∈[V.ref q1,.ref q2,.ref q3,.ref q4,.ref q5,.ref q6,.ref q7],mS b z Hb v:=λv hv=>by
  simp only[au,aQ,or_false]at hv;rcases hv with rfl|rfl|rfl|rfl|rfl|rfl|rfl
  .exact o1.later cH
  .exact o2.later cE
  .exact o3.later cB
  .exact o4.later Z
  .exact o5.later O
  .exact o6.later Sb
  .exact o7
 obtain⟨us,b6,d1⟩:∃us,us=[V.ref q1,.ref q2,.ref q3,.ref q4,.ref q5,.ref q6,.ref q7]/\us.length=7:=⟨_,rfl,rfl⟩;rw[<-b6]at b3;rw[show(HO.lst [V.ref q1,.ref q2,.ref q3,.ref q4,.ref q5,.ref q6,.ref q7])=.lst us from by rw[b6]];refine mz Bb hN λHc Bc Sc ec nc=>?_;have a3:=dp.trans Sc;refine⟨lO,lN,_,_,rfl,rfl,a3 _ _ eO nO,ec,ZE (by omega),λlQ hQ=>?_⟩;try dsimp only[Zp,av]
 have aM:∀v∈vs++us,mS b z Hc v:=λv hv=>by
  rcases aF.mp hv with hv|hv
  .exact(od v hv).later a3
  .exact(b3 v hv).later Sc
 have lq:(vs++us).length=14:=by rw[aq,d0,d1]
 generalize vs++us=ws at aM lq;refine al Bc hQ λHd Bd Sd eQ nQ=>?_;replace aM:∀v∈ws,mS b z Hd v:=λv hv=>(aM v hv).later Sd;have du:=(eW.trans a3).trans Sd;refine b0 _ _ ?_;clear b0 b6 od b3 o1 o2 o3 o4 o5 o6 o7 O Z cB cE cH dp I n W S8 S9 Sa Sb Sc Sd a3 e9 ea eb ec;refine⟨_,rfl,_,rfl,_,rfl,lk,ks,rfl,gp.of (du _ _ g C),λl6 Y=>?_⟩;try dsimp only
 refine mz Bd Y λH6 F n U n6=>?_;refine⟨_,rfl,oz F (λr' H7 dO dy N W=>?_)⟩;obtain⟨x,eR,mx⟩:=at_of (xs:=ws) dO (by rw[lq];exact dy);have G:=n.trans W;refine⟨lQ,_,_,_,rfl,rfl,gp.of (G _ _ eQ nQ),eR,?_⟩;have l:=du.trans G;exact P1 (ks:=ks) rfl rfl N o (l _ _ L o) (l _ _ g C) C (W _ _ U n6) n6 (cl _ _) hl (kc l) (λu hu=>(ag u hu).later l) ((aM x mx).later G) λH' v B' S' h=>fin H' v B' (l.trans S') h
structure Bx(H0 H:Hp)(b:Addr):Prop where
 fr:H0 b=none
 sm:fy H0 H
 bx:Zv H b
theorem Bx.to  (h:Bx c H b)(s:Zh b H H')(a:Zv H' b):Bx c H' b:=⟨h.fr,YI h.fr h.sm s,a⟩
noncomputable def sM(b z:Addr)(H:Hp)(v:V):Prop:=∀H',Sz b z H H'->oy H' v
theorem sM.later{b z:Addr}{H a:Hp}{v:V}(s:Zh b H a)(h:sM b z H v):sM b z a v:=λH' s'=>h H' (s'.after s)
theorem Mf{b z:Addr}{H:Hp}{v:V}(h:∀H',Sz b z H H'->∃a,Th H' v a/\a≠"tuple"):sM b z H v:=λH' s=>.inl (h H' s)
theorem Rg{b z a:Addr}{H:Hp}{xs zl:List V}(B:Zv H b)(hz:H z=some (.lst zl))(h:H a=some (.tup xs))(c:xs.length<=1000)(n:xs.length≠3):sM b z H (.ref a):=λH' s=>.inr ⟨a,xs,rfl,s _ _ h (Jx B h) (GF hz h),c,.inl n⟩
theorem s_{b z a:Addr}{H:Hp}{x n c:V}{zl:List V}(B:Zv H b)(hz:H z=some (.lst zl))(h:H a=some (.tup [x,n,c]))(d:∀H',Sz b z H H'->∃g,Th H' x g)(e:∀H',Sz b z H H'->∃f,Th H' n f)(hk:tM b z H c):sM b z H (.ref a):=λH' s=>.inr ⟨a,_,rfl,s _ _ h (Jx B h) (GF hz h),by show 3<=1000;decide,.inr ⟨x,n,c,rfl,d H' s,e H' s,hk H' s⟩⟩
theorem DP (o:hI T){H:Hp}{S:Sx}(c:S∈ic T)(h:H a=some (.tup (S.key.map kV))):sL H (.ref a):=by obtain⟨f,d⟩:=Mc o c;refine .inr ⟨a,_,rfl,h,f,λu b=>d u b H,λu b=>?_⟩;obtain⟨p,q,e|⟨i,e⟩⟩:=XZ o c<;>(rw[e]at b;cases b)
theorem NU{T:Tb}(o:hI T){H:Hp}{lk:Addr}{ks:List V}{J:List Sx}(e:H lk=some (.lst ks))(c:j7 H ks J)(g:∀S∈J,S∈ic T)(h:J.length<=52):KV H (.ref lk):=by
 refine .inr ⟨lk,ks,rfl,e,by rw[c.len];omega,λu d=>?_⟩;obtain⟨m,hm⟩:=aJ.mp d;have b:m<J.length:=by rw[<-c.len];exact(aj.mp hm).1
 obtain⟨a,rfl,f⟩:=ZI c hm (gE b);exact DP o (g _ (aB b)) f
theorem La{T:Tb}(o:hI T){H:Hp}{v:V}{j:JT}(h:JA H v j)(ok:JW T j):oy H v:=by obtain⟨t,lk,ks,rfl,c,a,b⟩:=h;exact .inr ⟨t,_,rfl,c,by show 3<=1000;decide,.inr ⟨_,_,_,rfl,⟨_,.str _ (VJ ok.gs)⟩,⟨_,.int _⟩,NU o a b ok.all ok.len⟩⟩
theorem LX(a b:Str):(a++b).length=a.length+b.length:=by show(a.cps++b.cps).size=_;rw[Array.size_append];rfl
theorem Lj{z:Str}(g:GS z):z.length<=900:=Nat.le_trans g.1 (by decide)
noncomputable def Es:Sp:=λvs H Q _=>∃(b d lj z:Addr)(at_:Int)(T:Tb)(H0:Hp)(xs zl:List V)(JL:List JT),vs=[.ref b,.ref d,.ref lj,.int at_]/\Bx H0 H b/\H0 z=none/\z≠b/\H z=some (.lst zl)/\Dc H0 d (ic T)/\hI T/\H0 lj=some (.lst xs)/\bZ (JA H0) xs JL/\(∀j∈JL,JW T j)/\JL.length<=8/\0<=at_/\at_<JL.length/\∀H' v,Zv H' b->Zh b H H'->sM b z H' v->Q v H'
theorem Y1:fx [jE,jF,oO,oN,sE,"_law_number",qm,"_law_other","_law_way","_law_one"] [jE,jF,oO,oN] (Ze T.mQ):=jX
theorem LC(B:∀x∈jO,mg x=none)(CT:hY P w K mg base 1 qo [jE,mR] Xi)(CK:hY P w K mg base 2 "_law_bad_keys" [jE,jF,qm] W3)(D:Df K mg "_law_bad" T.mQ [jE,jF,oO,oN]):hY P w K mg base 3 "_law_bad" [jE,jF,oO,oN] Es:=by
 refine D.cn Y1 λf eg A outer s H vs Q E hr h=>?_;obtain⟨b,d,lj,z,at_,T,H0,xs,zl,JL,rfl,u,z0,a,hz,dc,ok,aM,pj,a5,ef,a0,a1,k⟩:=h;refine' ⟨_,(Za ?dx (Za ?dv (Za (st 8 Y1.nd (cn CT hr (jz (pv 0) Zb))) (Za (st 9 Y1.nd (Zx (kg (pv 4) (pv 5) (pv 6)))) (Za ?du (Za ?dt (Za ?dr (Za ?dp (Za ?dn (Zc ?dg)))))))))),?rd⟩;case' dg=>refine' (Zk (Zx (kg (pv 4) (pv 5) (cn CK hr (kg (pv 0) (pv 1) (pv 6))))))
 case' dn=>refine' (ZA (Zo YV (pv 8) Zb (Zt _)) (Zc (Zk (Zx (kg (pv 4) (pv 5) (it K (pv 7) Zb))))) Zn)
 case' dp=>refine' (ZA (Zo YV (pv 8) Zb (Zt _)) (Zc (Zk (pv 7))) Zn)
 case' dr=>refine' (ZA (Zo YV (pv 8) Zb (Zt _)) (Zc ?dy) Zn)
 case' dt=>refine' (ZA (Zo YV (pv 8) Zb (Zt _)) (Zc ?d0) Zn)
 case' du=>refine' (ZA (Zo YV (pv 8) Zb (Zt _)) (Zc ?h8) Zn)
 case' dv=>refine' (st 7 Y1.nd ?Y)
 case' dx=>refine' (UG (il K (pv 2) (pv 3)) (YM rfl (Zq (jG 4 Y1.nd) (Zq (jG 5 Y1.nd) (Zq (jG 6 Y1.nd) Ym)))))
 case' dy=>refine' (Zk ?dO)
 case' dO=>refine' (Zx (kg (pv 4) ?dP (pv 6)))
 case' dP=>refine' (il K ?dV (cn CT hr (jz (pv 0) Zb)))
 case' dV=>refine' (ZD (Zg (Zr ZL (pv 5) Zb) (Zg (Zr ZL (pv 5) Zb) (Zg (MU Uw Zb) (Zg YU (Zg ZJ (kg ZC (Zr Q3 Zb Zb) YU)))))))
 case' d0=>refine' (Zk ?d1)
 case' d1=>refine' (Zx (kg ?d2 (pv 5) (pv 6)))
 case' d2=>refine' (il K ?d3 (cn CT hr (jz (pv 0) Zb)))
 case' d3=>refine' (ZD (Zg (it K (pv 7) Zb) (Zg ZJ (Zg Zb (Zg YU (Zg ZC (kg (Zx (ju (pv 4))) (ZD (ju (pv 4))) (Zr XX (pv 4) ZC))))))))
 case' h8=>refine' (Zk ?h7)
 case' h7=>refine' (il K ?h6 (cn CT hr (jz (pv 0) Zb)))
 case' h6=>refine' (ZD (Zg (Yg XM rfl (bm B) XN (ju (pv 9))) (Zg (ZQ (r:=rR K) GP (pv 9) Z4 (Z3 Zb)) (Zg (Zr XJ (pv 9) (Zx (ju Zb))) (Zg ZJ (Zg (Zx Zl) (kg (pv 4) Xv (pv 6))))))))
 case' Y=>refine' (il K (pv 2) (cn CT hr (jz (pv 0) (Zw (r:=j_ K) ZG rfl (bm B) aT (ju (pv 2))))))
 case' rd=>
 have xl:=aV pj;have dd:=u.bx;have sb:∀{H':Hp},Zh b H H'->fy H0 H':=λs=>YI u.fr u.sm s;have sz:∀{H' cH:Hp},Zh b H H'->Sz b z H' cH->fy H0 cH:=λs s' c o e=>s' _ _ (sb s _ _ e) (fi e u.fr) (fi e z0);have cK:∀{c:Addr}{o:HO},H0 c=some o->c≠b:=λe=>fi e u.fr;obtain⟨v,cm,hv⟩:=at_of (xs:=xs) a0 (by omega);obtain⟨m,hm⟩:=aJ.mp hv;have b1:m<JL.length:=by rw[<-xl];exact(aj.mp hm).1
 have n:=a5 _ (aB b1);obtain⟨q,lk,ks,rfl,hq,I,kl⟩:=ZI pj hm (gE b1);generalize JL[m]=j at n hq kl;have N:=n.gs;have cR:∀{H':Hp},fy H0 H'->KV H' (.ref lk):=λs=>NU ok (s _ _ I) (kl.tup λc xs e=>s _ _ e) n.all n.len;rw[show L2.start ([jE,jF,oO,oN,sE,"_law_number",qm,"_law_other","_law_way","_law_one"]:List Str) [V.ref b,V.ref d,V.ref lj,V.int at_]=[some (.ref b),some (.ref d),some (.ref lj),some (.int at_),none,none,none,none,none,none]from rfl];refine tq λD0 ck=>?_;have s0:=u.sm;refine⟨_,rfl,_,rfl,lj,_,_,_,rfl,rfl,gp.of (s0 _ _ aM),cm,q,_,rfl,hO.of (s0 _ _ hq),rfl,_,_,rfl,_,_,rfl,_,_,rfl,rfl,?_⟩;refine ck _ _ (tq λD1 cf=>?_);clear ck cm hv hm;try dsimp only[Zp,av]
 refine⟨_,rfl,_,rfl,_,rfl,lj,_,rfl,.inl (gp.of (s0 _ _ aM)),b,_,rfl,dd,by omega,ZO (by omega) (by omega),λr H1 r0 r1 B1 S1=>?_⟩;obtain⟨v2,X,bT⟩:=at_of (xs:=xs) r0 r1;obtain⟨m',aC⟩:=aJ.mp bT;have W:m'<JL.length:=by rw[<-xl];exact(aj.mp aC).1
 have l:=a5 _ (aB W);have L:=ZI pj aC (gE W);obtain⟨q2,cN,ee,rfl,ak,cI,bb⟩:=id L;generalize JL[m']=j2 at l ak bb L;refine⟨lj,_,_,_,rfl,rfl,gp.of (sb S1 _ _ aM),X,?_⟩;refine cf _ _ (tq λD2 cc=>?_);clear cf X bT aC;try dsimp only[Zp,av]
 refine oz B1 (λway H2 w0 w1 B2 ed=>?_);have S2:=S1.trans ed;refine cc _ _ (tq λD3 cb=>?_);clear cc;try dsimp only[Zp,av]
 refine⟨_,rfl,_,rfl,_,rfl,ZE (by show 3<=1000;decide),λq3 b0=>?_⟩;try dsimp only[Zp,av]
 refine al B2 b0 λH3 B3 ec e3 n3=>?_;have M:=S2.trans ec;have fin:∀H' v,Zv H' b->Zh b H3 H'->sM b z H' v->Q v H':=λH' v B' S' h=>k H' v B' (M.trans S') h;have a6:∀{H':Hp},Zh b H3 H'->tM b z H' (.ref lk):=λs H' s'=>cR (sz (M.trans s) s');refine cb _ _ (my λD4 b6 c9=>?_);clear cb b0;have g:=M _ _ hz a;have ab:∀{H':Hp},∃T1,Th H' (.str j.1) T1:=⟨_,.str _ (VJ N)⟩;have ag:∀{H':Hp},∃T1,Th H' (.int j.2.1) T1:=⟨_,.int _⟩;refine⟨_,rfl,rfl,_,rfl,?_⟩;refine ia (λ_=>?_) (λ_=>b6 _ _ (my λD5 b5 c0=>?_))
 .refine⟨_,rfl,q3,_,rfl,.inr (hO.of e3),λc1 Z=>?_⟩;try dsimp only
  refine mz B3 Z λH5 U C e5 R=>?_;refine⟨_,rfl,_,rfl,q3,_,rfl,hO.of (C _ _ e3 n3),(by show ¬(HT.jH 3 0 none=0/\HT.jH 3 3 (some 2)=3);decide),λc2 Y=>?_⟩;try dsimp only
  refine mz U Y λH6 B6 S6 e6 n6=>?_;refine⟨_,rfl,ZE (by show 1<=1000;decide),λc3 h3=>?_⟩;try dsimp only
  refine mz B6 h3 λH7 B7 p e7 n7=>?_;refine⟨q3,c3,_,_,rfl,rfl,(C.trans (S6.trans p)) _ _ e3 n3,e7,ZE (by show 3+1<=1000;decide),(λz=>nomatch z),(λz=>nomatch z),λc4 i=>?_⟩;try dsimp only
  refine mz B7 i λH8 B8 S8 e8 n8=>?_;refine⟨Nat.zero_le _,λc5 h5=>?_⟩;try dsimp only
  refine mz B8 h5 λH9 B9 S9 e9 n9=>?_;refine⟨_,rfl,λc6 h6=>?_⟩;try dsimp only
  refine mz B9 h6 λHa Ba Sa ea na=>?_;refine⟨_,rfl,ZE (by show 8<=1000;decide),λc7 h7=>?_⟩;try dsimp only
  refine mz Ba h7 λHb Bb Sb eb nb=>?_;refine oz Bb (λr' Hc G F Bc Sc=>?_);obtain⟨x,J,S⟩:=at_of (xs:=[V.ref c1,.ref c2,.ref c4,.non,.ref c5,.str j.1,.ref c6,.ref lk]) G F;refine⟨c7,_,_,_,rfl,rfl,gp.of (Sc _ _ eb nb),J,?_⟩;have aS:=Sb.trans Sc;have cx:=Sa.trans aS;have cB:=S9.trans cx;have cE:=p.trans (S8.trans cB);have cG:=S6.trans cE;have y:=C.trans cG;refine c9 _ _ (fin Hc x Bc y ?_);simp only[au,aQ,or_false]at S;rcases S with rfl|rfl|rfl|rfl|rfl|rfl|rfl|rfl
  .exact Mf λH' s=>⟨_,.lst (s _ _ (cG _ _ e5 R) R (λe=>by rw[e,g]at Z;cases Z)),by decide⟩
  .exact Rg Bc (y _ _ g a) (cE _ _ e6 n6) (by show 2<=1000;decide) (by show 2≠3;decide)
  .exact Rg Bc (y _ _ g a) (cB _ _ e8 n8) (by show 4<=1000;decide) (by show 4≠3;decide)
  .exact Mf λH' s=>⟨_,.non,by decide⟩
  .exact Rg Bc (y _ _ g a) (cx _ _ e9 n9) (Nat.zero_le _) (by show 0≠3;decide)
  .exact Mf λH' s=>⟨_,.str _ (VJ N),by decide⟩
  .exact Mf λH' s=>⟨_,.dK (s _ _ (aS _ _ ea na) na (hA (aS _ _ ea na) (y _ _ g a) (λz=>nomatch z))),by decide⟩
  .exact Mf λH' s=>⟨_,.lst (sz (M.trans y) s _ _ I),by decide⟩
 clear b6;refine⟨_,rfl,rfl,_,rfl,?_⟩;refine ia (λ_=>?_) (λ_=>b5 _ _ (my λD6 b4 cY=>?_))
 .refine⟨_,rfl,q2,_,_,_,rfl,rfl,hO.of (sb M _ _ ak),Zj (j:=0) rfl,_,rfl,ZE (by show 1<=1000;decide),λc1 Z=>?_⟩;try dsimp only
  refine mz B3 Z λH5 U C e5 R=>?_;refine⟨_,rfl,ZE (by show 1<=1000;decide),λc2 Y=>?_⟩;try dsimp only
  refine mz U Y λH6 B6 S6 e6 n6=>?_;have bM:j.1.length+(Str.ofString "x").length<=1000:=by
   have:=N.1;have e:(Str.ofString "x").length=1:=by decide +kernel
   have:=Lj N;omega
  refine⟨_,rfl,_,_,rfl,rfl,ZE bM,ZE (by show 8<=1000;decide),λc3 h3=>?_⟩;try dsimp only
  refine mz B6 h3 λH7 B7 p e7 n7=>?_;refine oz B7 (λr' H8 G F B8 S8=>?_);obtain⟨x,J,S⟩:=at_of (xs:=[V.str j2.1,.non,.int 7,.bl true,.str "nobody..",.ref c1,.ref c2,.str (j.1++Str.ofString "x")]) G F;refine⟨c3,_,_,_,rfl,rfl,gp.of (S8 _ _ e7 n7),J,_,rfl,_,rfl,ZE (by show 3<=1000;decide),λc4 i=>c0 _ _ ?_⟩;have cC:=p.trans S8;have a3:=S6.trans cC;have d4:=C.trans a3;have S9:Zh b H8 (upd H8 c4 (.tup [x,.int j.2.1,.ref lk])):=(Zh.refl b H8).jq i;have O:=d4.trans S9;refine fin _ _ (B8.new i) O (s_ (B8.new i) (O _ _ g a) Zd (λH' s=>?_) (λH' s=>ag) (a6 O));simp only[au,aQ,or_false]at S;rcases S with rfl|rfl|rfl|rfl|rfl|rfl|rfl|rfl
  .exact⟨_,.str _ (VJ l.gs)⟩
  .exact⟨_,.non⟩
  .exact⟨_,.int _⟩
  .exact⟨_,.bl _⟩
  .exact⟨_,.str _ (by decide +kernel)⟩
  .exact⟨_,.tup (s _ _ ((a3.trans S9) _ _ e5 R) R (GF (O _ _ g a) ((a3.trans S9) _ _ e5 R)))⟩
  .exact⟨_,.lst (s _ _ ((cC.trans S9) _ _ e6 n6) n6 (λe=>by rw[e,C _ _ g a]at Y;cases Y))⟩
  .exact⟨_,.str _ (by rw[LX];exact bM)⟩
 clear b5;refine⟨_,rfl,rfl,_,rfl,?_⟩;refine ia (λ_=>?_) (λ_=>b4 _ _ (my λD7 b3 cX=>?_))
 .refine⟨_,rfl,_,rfl,_,_,rfl,rfl,_,rfl,_,_,rfl,rfl,1,rfl,10,25,rfl,rfl,⟨by decide,by decide,by decide⟩,ZE (by show 8<=1000;decide),λc1 Z=>?_⟩;try dsimp only
  refine mz B3 Z λH5 U C e5 R=>?_;refine oz U (λr' H6 G F B6 S6=>?_);obtain⟨x,J,S⟩:=at_of (xs:=[V.int (j.2.1+1),.int (j.2.1+3),.int (-1),.bl true,.non,.str "0",.int (10 ^ Int.toNat 25),.bl false]) G F;refine⟨c1,_,_,_,rfl,rfl,gp.of (S6 _ _ e5 R),J,_,rfl,ZE (by show 3<=1000;decide),λc4 i=>cY _ _ ?_⟩;have p:Zh b H6 (upd H6 c4 (.tup [.str j.1,x,.ref lk])):=(Zh.refl b H6).jq i;have a4:=(C.trans S6).trans p;refine fin _ _ (B6.new i) a4 (s_ (B6.new i) (a4 _ _ g a) Zd (λH' s=>ab) (λH' s=>?_) (a6 a4));simp only[au,aQ,or_false]at S;rcases S with rfl|rfl|rfl|rfl|rfl|rfl|rfl|rfl
  .exact⟨_,.int _⟩
  .exact⟨_,.int _⟩
  .exact⟨_,.int _⟩
  .exact⟨_,.bl _⟩
  .exact⟨_,.non⟩
  .exact⟨_,.str _ (by decide +kernel)⟩
  .exact⟨_,.int _⟩
  .exact⟨_,.bl _⟩
 clear b4;refine⟨_,rfl,rfl,_,rfl,?_⟩;refine ia (λ_=>?_) (λ_=>b3 _ _ (my λD8 b2 cT=>?_))
 .exact⟨_,rfl,cX _ _ (fin _ _ B3 (Zh.refl b H3) λH' s=>La ok (L.same (sz M s)) l)⟩
 clear b3;refine⟨_,rfl,rfl,_,rfl,?_⟩;refine ia (λ_=>?_) (λ_=>b2 _ _ ?_)
 .refine⟨_,rfl,_,rfl,_,rfl,q2,_,_,_,rfl,rfl,hO.of (sb M _ _ ak),Zj (j:=2) rfl,ZE (by show 3<=1000;decide),λc4 i=>cT _ _ ?_⟩;have p:Zh b H3 (upd H3 c4 (.tup [.str j.1,.int j.2.1,.ref cN])):=(Zh.refl b H3).jq i;refine fin _ _ (B3.new i) p (s_ (B3.new i) (p _ _ g a) Zd (λH' s=>ab) (λH' s=>ag) λH' s=>?_);have s':=sz (M.trans p) s;exact NU ok (s' _ _ cI) (bb.tup λc xs e=>s' _ _ e) l.all l.len
 clear b2;have s3:=sb M;have da:ks≠[]:=λz=>by have:=kl.len;rw[z]at this;exact n.ne (aZ this.symm)
 refine⟨_,rfl,_,rfl,_,rfl,_,rfl,_,rfl,b,d,lk,z,T,ks,zl,j.2.2,rfl,B3,a,g,fi I z0,dc.same s3,ok,s3 _ _ I,cK I,kl.tup (λc xs e=>s3 _ _ e),n.all,da,by have:=kl.len;have:=n.len;omega,λH5 v U C cP=>?_⟩;refine⟨ZE (by show 3<=1000;decide),λc4 i=>?_⟩;have p:Zh b H5 (upd H5 c4 (.tup [.str j.1,.int j.2.1,v])):=(Zh.refl b H5).jq i;exact fin _ _ (U.new i) (C.trans p) (s_ (U.new i) ((C.trans p) _ _ g a) Zd (λH' s=>ab) (λH' s=>ag) (cP.later p))
noncomputable def W2:Sp:=λvs H Q _=>∃(b d lj:Addr)(T:Tb)(H0:Hp)(xs:List V)(JL:List JT),vs=[.ref b,.ref d,.ref lj]/\Bx H0 H b/\Dc H0 d (ic T)/\hI T/\H0 lj=some (.lst xs)/\bZ (JA H0) xs JL/\(∀j∈JL,JW T j)/\JL.length<=8/\∀H' l ys,Zv H' b->Zh b H H'->H' l=some (.lst ys)->l≠b->ys.length<=40->(∀v∈ys,∀H2,Zh b H' H2->oy H2 v)->Q (.ref l) H'
theorem Y0:fx [jE,jF,oO,ot,"_law_lap",oN] [jE,jF,oO] (Ze T.lb):=jX
theorem Ws(B:∀x∈jO,mg x=none)(CT:hY P w K mg base 1 qo [jE,mR] Xi)(CB:hY P w K mg base 3 "_law_bad" [jE,jF,oO,oN] Es)(D:Df K mg "_law_handed" T.lb [jE,jF,oO]):hY P w K mg base 4 "_law_handed" [jE,jF,oO] W2:=by
 refine D.cn Y0 λf cG A outer s H vs Q E hr h=>?_;obtain⟨b,d,R,T,H0,xs,JL,rfl,j,dc,ok,F,pj,ak,b4,k⟩:=h;refine' ⟨_,(Za ?h8 (Za ?h9 (Zc (Zk (pv 3))))),?rd⟩;case' h9=>refine' (ZX aL rfl (Y3 rfl (bm B) (ju (Zr Xk (Zr ZL Zb (cn CT hr (jz (pv 0) Zb))) (Yg Jw rfl (bm B) VO (ju (Yr (J1 hr.units) (pv 2) (ZD Zl) (Zt _))))))) (jG 4 Y0.nd) (Za ?h5 (Za ?h6 (Zc ?h7))))
 case' h8=>refine' (st 3 Y0.nd (Yg XM rfl (bm B) XN (ju (pv 2))))
 case' h7=>refine' (ZA (Zo YV (cn CT hr (jz (pv 0) Zb)) Zb (Zt _)) (Zc ?h4) Zn)
 case' h6=>refine' (UG (cn CB hr (Zg (pv 0) (kg (pv 1) (pv 2) (pv 5)))) (QZ (pv 3) (pv 5) set_list))
 case' h5=>refine' (st 5 Y0.nd (cn CT hr (jz (pv 0) (Zw (r:=j_ K) ZG rfl (bm B) aT (ju (pv 2))))))
 case' h4=>refine' (st 3 Y0.nd (Zr JG (pv 3) (ZD (ju (il K (pv 2) (pv 5))))))
 case' rd=>
 have xl:=aV pj;have b3:=j.bx;have sb:∀{H':Hp},Zh b H H'->fy H0 H':=λs=>YI j.fr j.sm s;have s0:=j.sm;have jx:∀(v:V),v∈xs->∀(H':Hp),fy H0 H'->oy H' v:=λv hv H' s=>by
  obtain⟨m,hm⟩:=aJ.mp hv;have aC:m<JL.length:=by rw[<-xl];exact(aj.mp hm).1
  exact La ok ((ZI pj hm (gE aC)).same s) (ak _ (aB aC))
 rw[show L2.start ([jE,jF,oO,ot,"_law_lap",oN]:List Str) [V.ref b,V.ref d,V.ref R]=[some (.ref b),some (.ref d),some (.ref R),none,none,none]from rfl];refine tq λD0 a3=>?_;refine⟨_,rfl,R,_,rfl,.inl (gp.of (s0 _ _ F)),λlh Y=>?_⟩;try dsimp only[Zp,av]
 have cb:H0 lh=none:=fresh s0 Y;refine al b3 Y λH1 B1 S1 G O=>?_;refine a3 _ _ (tq λD1 b2=>?_);clear a3;refine oz B1 (λr X r0 r1 B2 bb=>?_);have S2:=S1.trans bb;refine⟨_,_,rfl,rfl,_,rfl,Nat.zero_le _,λle he=>?_⟩;have U:=sb S2 _ _ F;refine⟨R,le,xs,rfl,rfl,gp.of ((Zf (fi U he)).trans U),Zd,.inr ⟨_,rfl,?_⟩⟩;have S3:Zh b X (upd X le (.lst [])):=(Zh.refl b X).jq he;have B3:Zv (upd X le (.lst [])) b:=B2.new he;try dsimp only
 generalize upd X le (.lst [])=H3 at S3 B3 ⊢;have r2:-(2:Int)^64<1+r/\1+r<(2:Int)^64:=by omega
 refine⟨_,_,rfl,rfl,.inl r2,?_⟩;simp only[if_true];have hN:(0<=(1+r)*(if(!decide (xs=[]))=true then(1:Int)else 0))/\(1+r)*(if(!decide (xs=[]))=true then(1:Int)else 0)<=2/\(xs=[]->(1+r)*(if(!decide (xs=[]))=true then(1:Int)else 0)=0):=by
  by_cases z:xs=[]
  .rw[decide_eq_true z];simp
  .rw[decide_eq_false z];show 0<=(1+r)*1/\(1+r)*1<=2/\(xs=[]->(1+r)*1=0);rw[Int.mul_one];exact⟨by omega,by omega,λh=>absurd h z⟩
 generalize (1+r)*(if(!decide (xs=[]))=true then(1:Int)else 0)=N at hN ⊢;refine⟨N,rfl,by omega,by omega,?_⟩;have bM:=S2.trans S3;have cm:=bb.trans S3;refine Yc (J:=qS 0 N.toNat) N.toNat (λi σ H'=>Zv H' b/\Zh b H H'/\(∃l g,H' l=some (.lst g)/\l≠b/\H l=none/\xs.length<=g.length/\g.length<=8+i/\(∀v∈g,sM b l H' v)/\∃o:Nat->Option V,σ=[some (.ref b),some (.ref d),some (.ref R),some (.ref l),o 4,o 5])) ?_ (λi σ H' hi q=>hi) (λσ H' q=>Nat.le_refl _) (λi σ H' v H4 hi q yl=>?_) (λσ H' q=>?_)
 .refine⟨B3,bM,lh,xs,cm _ _ G O,O,Y,Nat.le_refl _,by omega,λv hv a s=>jx v hv a λc o e=>s _ _ (sb bM _ _ e) (fi e j.fr) (fi e cb),?_⟩;exact j9 rfl
 .obtain⟨B4,S4,l,g,el,nl,L,b1,b0,jy,o,rfl⟩:=q;obtain⟨rfl,rfl⟩:=yl;have cE:0<xs.length:=by
   rcases Nat.eq_zero_or_pos xs.length with z|z
   .have:=hN.2.2 (aZ z);rw[this]at hi;cases hi
   .exact z
  try dsimp only[Zp,av]
  refine td λD' a4=>?_;refine tq λD2 aS=>?_;refine⟨_,rfl,_,rfl,R,_,rfl,.inl (gp.of (sb S4 _ _ F)),b,_,rfl,B4,by omega,ZO (by omega) (by omega),λat_ H5 a0 a1 B5 ag=>?_⟩;have S5:=S4.trans ag;refine aS _ _ (tq λD3 aM=>?_);clear aS;try dsimp only[Zp,av]
  have a5:=ag _ _ el nl;have b6:H0 l=none:=fresh s0 L;refine⟨_,rfl,_,rfl,_,rfl,_,rfl,b,d,R,l,at_,T,H0,xs,g,JL,rfl,j.to S5 B5,b6,nl,a5,dc,ok,F,pj,ak,b4,a0,by omega,λW v B6 ab jv=>?_⟩;have S6:=S5.trans ab;have cc:=ab _ _ a5 nl;have ix:sH g.length at_=some at_.toNat:=by show(if 0<=at_ then(if at_<(g.length:Int)then some at_.toNat else none)else if -(g.length:Int)<=at_ then some (at_+g.length).toNat else none)=_;rw[if_pos a0,if_pos (by omega)]
  refine⟨_,rfl,_,rfl,l,g,at_,at_.toNat,rfl,rfl,cc,ix,?_⟩;have B7:Zv (upd W l (.lst (g.set at_.toNat v))) b:=B6.lD nl;have S7:Zh b H (upd W l (.lst (g.set at_.toNat v))):=λc o e n=>(Zf (fi e L)).trans (S6 _ _ e n);have z7:∀a,Sz b l (upd W l (.lst (g.set at_.toNat v))) a->Sz b l W a:=λa s c o e O n2=>s _ _ ((Zf n2).trans e) O n2;have I:∀u∈g.set at_.toNat v,sM b l (upd W l (.lst (g.set at_.toNat v))) u:=λu hu a s=>by
   rcases List.mem_or_eq_of_mem_set hu with h|rfl
   .exact((jy u h).later (ag.trans ab)) _ (z7 _ s)
   .exact jv _ (z7 _ s)
  have e7:upd W l (.lst (g.set at_.toNat v)) l=some (.lst (g.set at_.toNat v)):=Zd;have bT:(g.set at_.toNat v).length=g.length:=List.length_set;generalize upd W l (.lst (g.set at_.toNat v))=H7 at B7 S7 z7 I e7;generalize g.set at_.toNat v=p at I e7 bT;refine aM _ _ ?_;clear aM;refine oz B7 (λr' H8 cB cx B8 M=>?_);have S8:=S7.trans M;have e8:=M _ _ e7 nl;refine⟨rfl,_,rfl,?_⟩;refine ia (λ_=>?_) (λ_=>?_)
  .obtain⟨u,cf,mu⟩:=at_of (xs:=xs) a0 (by omega);refine⟨_,rfl,_,rfl,_,rfl,R,_,_,_,rfl,rfl,gp.of (sb S8 _ _ F),cf,ZE (by show 1<=1000;decide),λc1 h1=>?_⟩;try dsimp only
   refine mz B8 h1 λH9 B9 Z e9 n9=>?_;have a6:=Z _ _ e8 nl;refine⟨l,c1,p,_,rfl,rfl,a6,e9,ZE (by show p.length+1<=1000;omega),λS C=>a4 _ _ ?_⟩;have ck:Zh b H9 (upd H9 S (.lst (p++[u]))):=(Zh.refl b H9).jq C;have S9:=S8.trans Z;have b5:H S=none:=by
    cases q:H S with
   |none=>rfl
   |some o=>
     by_cases z:S=b
     .obtain⟨x,y,w,e⟩:=B9;rw[z,e]at C;cases C
     .rw[S9 _ _ q z]at C;cases C
   refine⟨B9.new C,S9.trans ck,S,_,Zd,B9.ne C,b5,by rw[aq];omega,by rw[aq];show p.length+1<=_;omega,λx hx=>?_,j9 rfl⟩;have cC:l≠S:=fi a6 C;have sw:∀a,Sz b S (upd H9 S (.lst (p++[u]))) a->Sz b l H7 a:=λa s c o e O n2=>by have G:=Z _ _ (M _ _ e O) O;exact s _ _ ((Zf (fi G C)).trans G) O (fi G C)
   rcases aF.mp hx with h|h
   .exact λa s=>I x h _ (sw _ s)
   .obtain rfl:=aI.mp h;refine λa s=>jx x mu a λc o e=>?_;have G:=sb S9 _ _ e;exact s _ _ ((Zf (fi G C)).trans G) (fi e j.fr) (fi G C)
  .exact a4 _ _ ⟨B8,S8,l,p,e8,nl,L,by omega,by omega,λu hu=>(I u hu).later M,j9 rfl⟩
 obtain⟨B4,S4,l,g,el,nl,L,b1,b0,jy,o,rfl⟩:=q;refine b2 _ _ ⟨_,rfl,k _ l g B4 S4 el nl (by omega) λv hv X s=>jy v hv X λc o e n _=>s _ _ e n⟩
end
noncomputable def Pj(K:ae):Sp:=λvs H Q _=>∃(a:Addr)(ns:List Int),vs=[.ref a]/\gp K H a (ns.map V.int)/\ns.length<=63/\∀H',Q (.bl true) H'
theorem MV:bG (.list [.str "none",.none,.bool true])=true:=by decide +kernel
theorem Tw:PyData.eqv (.list [.str "none",.none,.bool true]) (.list [.str "none",.none,.bool true])=true:=by decide +kernel
section
variable {P:Program}{w:World}{K:ae}{mg:Str->Option Value}{base:Heap}{C:Addr}
theorem JC:fx [mB,kR,jF,qb,oO,pH,nZ,jE,ot] [mB] (Ze T.mJ):=jX
theorem Fl  (B:∀x∈jO,mg x=none)(cb:mg "min"=none)(M:vK P w K mg base C)(CC:hY P w K mg base 1 "_law_cell" [mB,nZ] (Nu K))(CB:hY P w K mg base 1 "_law_box" [tT] R7)(CT:hY P w K mg base 1 qo [jE,mR] Xi)(CW:hY P w K mg base 4 "_law_world" [mB] (RW K))(CS:hY P w K mg base 1 "_law_steps" [kR] Pk)(du:hY P w K mg base 3 "_law_journeys" [mB,kR,jF] (R4 P w K))(dt:hY P w K mg base 9 "_law_told" [qb,ot] (QI C))(CR:hY P w K mg base 10 "_law_right" [qb,kR,jF,ot,"_law_way"] (RY C))(CH:hY P w K mg base 4 "_law_handed" [jE,jF,oO] W2)(F:oK K "law" "law" T.mJ f fd):jR P w K mg base jS 11 f fd [mB] (Pj K):=by
 obtain⟨fm,dy,hM,FM,bM⟩:=M.made;refine F.ok JC (λvs H Q E h=>?_) (λdO A outer s H vs Q E p h=>?_)
 .obtain⟨a,ns,rfl,_⟩:=h;rfl
 .obtain⟨a,ns,rfl,hS,hlen,k⟩:=h;refine' ⟨_,(@Za _ _ _ _ _ ?cX (@Za _ _ _ _ _ ?cT (@Za _ _ _ _ _ ?cR (@Za _ _ _ _ _ ?cP (@Za _ _ _ _ _ ?cN (@Za _ _ _ _ _ ?cK (@Zc _ _ _ ?cI))))))),?rd⟩;case' cI=>refine' (Zk (Xa (cn CR p (@Zg _ _ _ _ _ (pv 3) (@Zg _ _ _ _ _ (pv 1) (@kg _ _ _ _ _ _ _ (pv 2) ?cY Zb (by rfl)) (by rfl)) (by rfl))) (YN (cn CR p (@Zg _ _ _ _ _ (pv 3) (@Zg _ _ _ _ _ (pv 1) (@kg _ _ _ _ _ _ _ (pv 2) ?c0 Zb (by rfl)) (by rfl)) (by rfl))))))
  case' cK=>refine' (@ZX _ _ _ _ _ _ _ _ ?dd ?da (MT rfl (bm B) (@jz _ _ _ _ _ Zb (Zw (Nf rfl) rfl (bm B) je (@jz _ _ _ _ _ Zb (Zw (Wz rfl) rfl cb PyProof.Rows.boot_min (@jz _ _ _ _ _ (Zw (r:=j_ K) ZG rfl (bm B) aT (@ju _ _ _ (pv 0) (by rfl))) Zb (by rfl))) (by rfl))) (by rfl))) (jG 6 JC.nd) (@Za _ _ _ _ _ ?c7 (@Za _ _ _ _ _ ?c6 (@Zc _ _ _ ?c5))) (by intro _;rfl))
  case' cN=>refine' (@ZX _ _ _ _ _ _ _ _ ?h6 ?h7 (Yd ?h9) (jG 5 JC.nd) (@Zc _ _ _ ?dg) (by intro _;rfl))
  case' cP=>refine' (st 4 JC.nd (cn du p (@kg _ _ _ _ _ _ _ (pv 0) (pv 1) (pv 2) (by rfl))))
  case' cR=>refine' (st 3 JC.nd (V2 hM FM p.m rfl M.mg bM .nil Z6 (@Zg _ _ _ _ _ ?h5 (@Zg _ _ _ _ _ ?h4 (@kg _ _ _ _ _ _ _ ?h3 ?D ?G (by rfl)) (by rfl)) (by rfl))))
  case' cT=>refine' (st 2 JC.nd (cn CS p (@ju _ _ _ (pv 1) (by rfl))))
  case' cX=>refine' (st 1 JC.nd (cn CW p (@ju _ _ _ (pv 0) (by rfl))))
  case' cY=>refine' (@ZD _ _ _ _ (@ju _ _ _ ZJ (by rfl)))
  case' c0=>refine' (@ZD _ _ _ _ (@ju _ _ _ ?c3 (by rfl)))
  case' c3=>refine' (@Zx _ _ _ _ _ Zl)
  case' c5=>refine' (@ZA _ _ _ _ _ _ _ _ (ZK (ZH (cn CR p (@Zg _ _ _ _ _ (pv 3) (@Zg _ _ _ _ _ (pv 1) (@kg _ _ _ _ _ _ _ (pv 2) (pv 8) (cn CT p (@jz _ _ _ _ _ (pv 7) Zb (by rfl))) (by rfl)) (by rfl)) (by rfl))))) (@Zc _ _ _ ?c9) Zn)
  case' c6=>refine' (st 8 JC.nd (cn CH p (@kg _ _ _ _ _ _ _ (pv 7) (pv 2) (pv 4) (by rfl))))
  case' c7=>refine' (st 7 JC.nd (cn CB p (@ju _ _ _ (cn CC p (@jz _ _ _ _ _ (pv 0) (pv 6) (by rfl))) (by rfl))))
  case' dg=>refine' (@ZA _ _ _ _ _ _ _ _ (@Zo _ _ _ _ _ _ _ _ (Q4 p.units) (cn dt p (@jz _ _ _ _ _ (pv 3) (pv 5) (by rfl))) ?dp (Zt _)) (@Zc _ _ _ ?dn) Zn)
  case' c9|dn=>refine' (Zk YU)
  case' dp=>refine' (@ZD _ _ _ _ (@kg _ _ _ _ _ _ _ ZC ZJ YU (by rfl)))
  case' h9=>refine' (@ZD _ _ _ _ (@Zg _ _ _ _ _ ZJ (@Zg _ _ _ _ _ Zb (@Zg _ _ _ _ _ YU (@kg _ _ _ _ _ _ _ ZC Xv ?h8 (by rfl)) (by rfl)) (by rfl)) (by rfl)))
  case' h8=>refine' (@Dq _ _ _ _ _ (@Ku _ _ _ _ _ _ _ _ _ Zb (pv 4) Dk) rfl rfl (List.cons_ne_nil _ _) (by decide))
  case' da|h7=>refine' rfl
  case' dd|h6=>refine' aL
  case' h5|h4|h3|D|G=>refine' (il K (pv 1) Zb)
  case' rd=>
  rw[show L2.start ([mB,kR,jF,qb,oO,pH,nZ,jE,ot]:List Str) [V.ref a]=[some (.ref a),none,none,none,none,none,none,none,none]from rfl];refine tq λD1 bT=>?_;refine⟨_,rfl,a,ns,rfl,hS,by omega,λH1 b S T l1 l2 l3 l4 S1 hb bx tb ok=>?_⟩;refine bT _ _ (tq λD2 bb=>?_);try dsimp only[Zp,av]
  refine⟨_,rfl,b,S,l1,l2,l3,l4,T,rfl,tb,ok,λH2 d S2 hd dc=>?_⟩;refine bb _ _ (tq λD3 a6=>?_);try dsimp only[Zp,av]
  have g:=tb.kH S2;have b6:=S1.trans S2;obtain⟨x1,_,G,_,r1⟩:=g.pl.part (ok.flat (.inl rfl));obtain⟨x2,_,D,_,r2⟩:=g.rd.part (ok.flat (.inr (.inl rfl)));obtain⟨x3,_,h3,_,r3⟩:=g.wy.part (ok.flat (.inr (.inr (.inl rfl))));obtain⟨x4,_,h4,_,r4⟩:=g.gr.part (ok.flat (.inr (.inr (.inr rfl))));refine vC 0 g.at_ rfl (vC 1 g.at_ rfl (vC 2 g.at_ rfl (vC 3 g.at_ rfl (vC 4 g.at_ rfl ?_))));simp only[jn,ba];refine TF ok G D h3 h4 r1 r2 r3 r4 λH4 t S4 ht mL=>?_;refine a6 _ _ (tq λD5 a5=>?_);try dsimp only[Zp,av]
  have W:=g.kH S4;have Y:=dc.same S4;have ak:=b6.trans S4;clear r1 r2 r3 r4 G D h3 h4 g bM FM hM tb S1 S2 b6 dc hd ht;refine⟨_,rfl,_,rfl,_,rfl,a,b,S,l1,l2,l3,l4,d,T,ns,rfl,gp.same ak hS,by omega,W,ok,Y,λH5 l xs JL S5 hl el pj hJ ck=>?_⟩;refine a5 _ _ (tq λD6 a4=>?_);try dsimp only[Zp,av]
  have U:=W.kH S5;have I:=Y.same S5;have b5:=ak.trans S5;have cH:=gp.same b5 hS;have n:=mL.same S5;have cf:bZ (JA H5) xs JL:=Paired.mY pj λv j⟨t,lk,ks,e,G,D,_,h3⟩=>⟨t,lk,ks,e,G,D,h3⟩;clear bT bb a6 a5 pj S5 ak W Y hS mL b5 hl S4;refine λc1 G=>?_;try dsimp only
  refine l8 G λH6 S6 e6=>?_;refine λy D=>?_;refine⟨_,rfl,Zd,[(.inl 0,.ref l)],rfl,(by show 1<=15;decide),?_⟩;have N:fy H6 (upd (upd H6 y (.dK [])) y (.dK (JI [] [(.inl 0,.ref l)]))):=λc o e=>by rw[Zf (fi e D),Zf (fi e D)];exact e
  have e7:upd (upd H6 y (.dK [])) y (.dK (JI [] [(.inl 0,.ref l)])) y=some (.dK (JI [] [(.inl 0,.ref l)])):=Zd;generalize upd (upd H6 y (.dK [])) y (.dK (JI [] [(.inl 0,.ref l)]))=H7 at N e7 ⊢;refine⟨ZE (by show 6<=1000;decide),λlt aM=>?_⟩;try dsimp only
  have L:fy H7 (upd H7 lt (.lst [V.non,.int 7,.bl true,.str "out",.ref c1,.ref y])):=sameNew (fy.refl _) aM;have e8:upd H7 lt (.lst [V.non,.int 7,.bl true,.str "out",.ref c1,.ref y]) lt=some (.lst [V.non,.int 7,.bl true,.str "out",.ref c1,.ref y]):=Zd;generalize upd H7 lt (.lst [V.non,.int 7,.bl true,.str "out",.ref c1,.ref y])=H8 at L e8 ⊢;have ag:=(S6.trans N).trans L;have b4:=(N.trans L) _ _ e6;have b3:=L _ _ e7;clear G D aM S6 N e6 e7;refine⟨lt,rfl,⟨_,gp.of e8⟩,?_⟩;refine Yc (J:=oi K lt) 6 (λi σ H'=>fy H8 H'/\∃o:Nat->Option V,σ=[some (.ref a),some (.ref S),some (.ref d),some (.ref t),some (.ref l),o 5,none,none,none]) ?_ (λi σ H' hi q=>⟨_,[V.non,.int 7,.bl true,.str "out",.ref c1,.ref y][i],gp.of (q.1 _ _ e8),gE hi⟩) (λσ H' q=>⟨_,gp.of (q.1 _ _ e8),Nat.le_refl _⟩) (λi σ H' v H9 hi q yl=>?_) (λσ H' q=>?_)
  .exact⟨fy.refl _,j9 rfl⟩
  .obtain⟨z,o,rfl⟩:=q;obtain⟨rfl,hy⟩:=yl;have mv:=aK (hy _ (gp.of (z _ _ e8)));try dsimp only[Zp,av]
   refine td λD' X=>?_;have u:=ag.trans z;have cc:∃T',Th H9 v T'/\T'≠"list"/\T'≠"tuple":=by
    simp only[au,aQ,or_false]at mv;rcases mv with rfl|rfl|rfl|rfl|rfl|rfl
    .exact⟨_,.non,by decide,by decide⟩
    .exact⟨_,.int _,by decide,by decide⟩
    .exact⟨_,.bl _,by decide,by decide⟩
    .exact⟨_,.str _ (by decide +kernel),by decide,by decide⟩
    .exact⟨_,.dK (z _ _ b4),by decide,by decide⟩
    .exact⟨_,.dK (z _ _ b3),by decide,by decide⟩
   obtain⟨T',th,n1,n2⟩:=cc;refine⟨_,rfl,_,rfl,t,T,v,rfl,n.same u,ok,.inl ⟨T',th,n1,n2,λHa l' Sa dx ea=>?_⟩⟩;refine⟨ZE (by show 3<=1000;decide),λln cG=>?_⟩;have Sb:fy Ha (upd Ha ln (J3 .non)):=sameNew (fy.refl _) cG;have eb:upd Ha ln (J3 .non) ln=some (J3 .non):=Zd;refine⟨_,_,Gi (Sb _ _ ea) .non,Gi eb .non,MV,MV,_,rfl,?_⟩;rw[Tw];refine jI ?_;exact X _ _ ⟨(z.trans Sa).trans Sb,j9 rfl⟩
  obtain⟨z,o,rfl⟩:=q;refine a4 _ _ (tq λD7 a3=>?_);clear a4;have u:=ag.trans z;generalize H'=H9 at u;clear z ag b4 b3 e8;have b2:=cH.same u;refine⟨_,rfl,a,_,rfl,.inl b2,_,_,rfl,_,_,rfl,?_⟩;rw[lm];generalize hm:(if(if(32:Int)<(ns.length:Int)then(32:Int)else(ns.length:Int))>18 then(if(32:Int)<(ns.length:Int)then(32:Int)else(ns.length:Int))else 18)=mm;have dv:18<=mm/\mm<=63:=by
   subst hm;split
   .split at *<;>omega
   .omega
  clear hm;refine⟨12,mm,rfl,⟨by decide,by decide,by omega,by omega⟩,?_⟩;refine Yc (J:=qS 12 (mm-12).toNat) (mm-12).toNat (λi σ H'=>fy H9 H'/\∃o:Nat->Option V,σ=[some (.ref a),some (.ref S),some (.ref d),some (.ref t),some (.ref l),o 5,o 6,o 7,o 8]) ?_ (λi σ H' hi q=>hi) (λσ H' q=>Nat.le_refl _) (λi σ Hz v H0 hi q yl=>?_) (λσ H' q=>?_)
  .refine⟨fy.refl _,?_⟩;exact j9 rfl
  .obtain⟨s0,o,rfl⟩:=q;obtain⟨rfl,rfl⟩:=yl;try dsimp only[Zp,av]
   have R:=u.trans s0;refine td λD' X=>?_;refine tq λD8 a0=>?_;refine⟨_,rfl,_,rfl,a,ns,12+i,(by push_cast;rfl),b2.same s0,by omega,by omega,λc=>⟨c,rfl,λb1 Ha b0 Ba Sa=>?_⟩⟩;refine a0 _ _ (tq λD9 aS=>?_);clear a0;try dsimp only[Zp,av]
   have bx:Bx H0 Ha b1:=⟨b0,Sa,Ba⟩;refine⟨_,rfl,_,rfl,_,rfl,b1,d,l,T,H0,xs,JL,rfl,bx,I.same R,ok,R _ _ el,Paired.mY cf λ_ _ q=>q.same R,ck,hJ,λHb lh ys Bb Sb eh nh cx jy=>?_⟩;refine aS _ _ ?_;clear aS;try dsimp only[Zp,av]
   refine⟨_,rfl,_,rfl,_,rfl,_,rfl,oz Bb (λr Hc r0 r1 Bc Sc=>?_)⟩;have aC:fy H0 Hc:=YI b0 Sa (Sb.trans Sc);have ab:=R.trans aC;have cm:∀v∈ys,oy Hc v:=λv hv=>jy v hv _ Sc;refine⟨t,S,d,lh,b,l1,l2,l3,l4,T,ys,r,rfl,n.same ab,U.kH ab,I.same ab,ok,Sc _ _ eh nh,cx,cm,by omega,λHd Sd=>?_⟩;refine⟨_,rfl,?_⟩;refine jI ?_;exact X _ _ ⟨(s0.trans aC).trans Sd,j9 rfl⟩
  obtain⟨z,o,rfl⟩:=q;refine a3 _ _ ?_;clear a3;have dr:=u.trans z;refine⟨_,rfl,_,rfl,_,rfl,ZE (by show 1<=1000;decide),λq1 cE=>?_⟩;try dsimp only
  refine l8 cE λHb Sb eb=>?_;have O:=dr.trans Sb;refine⟨t,S,d,q1,b,l1,l2,l3,l4,T,_,0,rfl,n.same O,U.kH O,I.same O,ok,eb,(by show 1<=40;decide),λv hv=>?_,.inl rfl,λHc Sc=>?_⟩
  .obtain rfl:=aI.mp hv;exact .inl ⟨_,.non,by decide⟩
  refine⟨_,rfl,?_⟩;refine jC ?_;refine⟨_,rfl,_,rfl,_,rfl,Nat.zero_le _,λq2 cC=>?_⟩;try dsimp only
  refine l8 cC λHd Sd ed=>?_;refine⟨ZE (by show 1<=1000;decide),λq3 cB=>?_⟩;try dsimp only
  refine l8 cB λHe Se ee=>?_;have Z:=(O.trans Sc).trans (Sd.trans Se);refine⟨t,S,d,q3,b,l1,l2,l3,l4,T,_,1,rfl,n.same Z,U.kH Z,I.same Z,ok,ee,(by show 1<=40;decide),λv hv=>?_,.inr rfl,λHf Sf=>k _⟩;obtain rfl:=aI.mp hv;exact .inr ⟨q2,[],rfl,Se _ _ ed,Nat.zero_le _,.inl (by show 0≠3;decide)⟩
end
end SX
namespace L2
open PySem PySem.Spec PyProof.Rows
section
variable {K:ae}{h:Heap}{mg:Str->Option Value}{x:Str}
theorem Av{st:Stmt}{ps:List Str}{f:Addr}{e:Value}{od an:Option Addr}{d:Array (Option Value)}{kV doc pm b ct:Value}(X:K.In h)(G:h.Ns a8 mg)(a:bA K a8 x=some (some (.ref f)))(l:K.lookup f=some ⟨e,od,.func (bB x x (Yt st) (ZV st) (Ze st) .none kV doc pm an b ct),d⟩)(c:cz K b x=true)(k:a7 K (.ref f)=true)(g:∀(kV doc pm:Value)(an:Option Addr)(b ct:Value)(us:List Value),us.length=ps.length->bindArgs (bB x x (Yt st) (ZV st) (Ze st) .none kV doc pm an b ct) ⟨us,[]⟩=pure (ps.zip us)):Df K mg x st ps:=⟨f,_,JM l c k,cM X G a,(JM l c k).binds g⟩
theorem Lr{C:Addr}{m qual:Str}{st:Stmt}{ps:List Str}{f:Addr}{e:Value}{od an:Option Addr}{d:Array (Option Value)}{kV doc pm b ct:Value}(a:aD K (.ref C) m=some (some (.ref f)))(i:fK K (.ref f)=true)(l:K.lookup f=some ⟨e,od,.func (bB m qual (Yt st) (ZV st) (Ze st) .none kV doc pm an b ct),d⟩)(c:cz K b qual=true)(k:a7 K (.ref f)=true)(g:∀(kV doc pm:Value)(an:Option Addr)(b ct:Value)(us:List Value),us.length=ps.length->bindArgs (bB m qual (Yt st) (ZV st) (Ze st) .none kV doc pm an b ct) ⟨us,[]⟩=pure (ps.zip us)):mr K C m qual st ps:=⟨f,_,JM l c k,⟨a,i,k⟩,(JM l c k).binds g⟩
theorem str_mk  (X:K.In h)(G:h.Ns a8 mg)(a:bA K a8 x=some (some (.str z t))):∃t,mg x=some (.str z t):=⟨t,cM X G a⟩
theorem int_mk{z:Int}(X:K.In h)(G:h.Ns a8 mg)(a:bA K a8 x=some (some (.int z t))):∃t,mg x=some (.int z t):=⟨t,cM X G a⟩
theorem SK{w:World} {n:Nat}{g f e d:Int}(X:K.In h)(G:h.Ns a8 mg)(l:bA K a8 x=some (some (.ref a)))(c:K.lookup a=some ⟨.type "dict",none,.dict b n,#[]⟩)(hk:PySem.W.KeysLit w.params b.toList)(r:bA K a "places"=some (some (.int g t1)))(q:bA K a "rides"=some (some (.int f j)))(p:bA K a "ways"=some (some (.int e t3)))(o:bA K a "groups"=some (some (.int d i))):∃a,mg x=some (.ref a)/\X4 K w a "places" (.int g)/\X4 K w a "rides" (.int f)/\X4 K w a "ways" (.int e)/\X4 K w a "groups" (.int d):=⟨a,cM X G l,⟨b,n,_,c,hk,r,⟨t1,rfl⟩⟩,⟨b,n,_,c,hk,q,⟨j,rfl⟩⟩,⟨b,n,_,c,hk,p,⟨t3,rfl⟩⟩,⟨b,n,_,c,hk,o,⟨i,rfl⟩⟩⟩
end
end L2
namespace SX
open PySem L2 PySem.Spec PyProof.Rows TB WD
structure zZ(K:ae)(mg:Str->Option Value)(x qual:Str)(st:Stmt)(C Qa:Addr)(ps:List Str):Prop where
 at_:∃fI fd,zr K mg x C fI Qa/\oK K "__init__" qual st fI fd/\Binds K fd ps []
section
variable {P:Program}{w:World}{K:ae}{mg:Str->Option Value}{base:Heap}{C Qa:Addr}
noncomputable abbrev zW(K:ae)(mg:Str->Option Value)(x qual:Str)(st:Stmt)(C Qa:Addr)(fl:Str):Prop:=zZ K mg x qual st C Qa [hB,fl]/\aD K (.ref C) fl=some none
theorem Fm{x qual a:Str}{st:Stmt}{p1 p2 d c:Pos}(b:zW K mg x qual st C Qa a)(S:fx [hB,a] [hB,a] (Ze st))(e:ZV st=[Sk a a p1 p2 d c])(pl:Plain a):zE P w K mg base x [a] C:=by obtain⟨⟨f,fd,X,F,bd⟩,na⟩:=b;exact⟨⟨f,Qa,fd,[hB,a],X.xc,Ak F S e pl X.xc na,by show 2<=1000;decide,bd⟩,X.xr,X.mg,X.kp⟩
theorem HW:fx [hB,"at"] [hB,"at"] (Ze T.kh):=jX
end
theorem sP{K:ae}{j a:Addr}{s r:Value}{q p:Option Addr}{c b:Array (Option Value)}{h:Nat}(n:K.lookup j=some ⟨s,q,.cls i,c⟩)(eq:i.ns=a)(l:K.lookup a=some ⟨r,p,.dict g h,b⟩)(d:(g.toList.all λe=>match e.key with|.str _ _=>true|_=>false)=true)(o:bA K a "__init__"=some none):fO K oU (.ref j::oU)=true:=by
 have f:fP K a=true:=by unfold fP;rw[l];dsimp only;rw[<-Array.all_toList];exact d
 subst eq;unfold fO;rw[Bool.or_eq_true];refine .inr ?_;dsimp only;rw[n];dsimp only;rw[f,o];unfold fO;rw[show(oU==oU)=true from by decide];rfl
theorem uF{ps:List Str}{K:ae}{h:Heap}{mg:Str->Option Value}{x qual:Str}{st:Stmt}{C c f N:Addr}{nm q:Str}{bs:List Value}{sn:List Str}{sub:List Value}{p:Bool}{col:Option Bool}{o:Option Addr}{n k1 j i g:Option Value}{Q y:Value}{L od an:Option Addr}{d:Array DictEntry}{w:Nat}{r s:Array (Option Value)}{kV doc pm b ct:Value}(R:K.In h)(G:h.Ns a8 mg)(a:bA K a8 x=some (some (.ref C)))(l:K.lookup C=some (excClassObj nm q C N bs (.ref f::oU) true sn sub p col o n k1 j i g "ValueError.__new__"))(E:K.lookup N=some ⟨Q,L,.dict d w,r⟩)(u:(d.toList.all λe=>match e.key with|.str _ _=>true|_=>false)=true)(D:bA K N "__init__"=some (some (.ref c)))(z:fO K oU (.ref f::oU)=true)(lf:K.lookup c=some ⟨y,od,.func (bB "__init__" qual (Yt st) (ZV st) (Ze st) .none kV doc pm an b ct),s⟩)(O:y=.type "function")(P:cz K b qual=true)(M:a7 K (.ref c)=true)(A:aD K (.ref C) "__setattr__"=some (some (.builtin "object.__setattr__")))(B:df K C (.type "object")=some true)(ga:aD K (.ref C) "__getattribute__"=some (some (.builtin "BaseException.__getattribute__")))(J:aD K (.ref C) "__getattr__"=some none)(hd:cF K C=true)(be:df K C (.type "BaseException")=some true)(H:a7 K (.ref C)=true)(I:∀(kV doc pm:Value)(an:Option Addr)(b ct:Value)(us:List Value),us.length=ps.length->bindArgs (bB "__init__" qual (Yt st) (ZV st) (Ze st) .none kV doc pm an b ct) ⟨us,[]⟩=pure (ps.zip us)):zZ K mg x qual st C f ps:=by
 have v:fP K N=true:=by unfold fP;rw[E];dsimp only;rw[<-Array.all_toList];exact u
 have F:=JM (st:=st) lf P M;have X:zr K mg x C c f:=⟨⟨⟨nm,q,N,bs,sn,sub,p,col,o,n,k1,j,i,g,l,v,D⟩,z,⟨_,lf,O⟩,A,B⟩,⟨ga,J,hd,be⟩,⟨nm,q,N,bs,_,true,sn,sub,p,col,o,n,k1,j,i,g,_,l,by rw[eZ];exact Bool.or_eq_true_iff.mpr (.inr (by decide))⟩,cM R G a,H⟩;exact⟨c,_,X,F,F.binds I⟩
theorem uw{K:ae}{t:Value}{C:Addr}{b:Bool}(a:(t==.ref C)=false)(hm:df K C (.type "object")=some true)(c:PySem.W.typeIn K (.ref C)=some (.type "type"))(d:PySem.W.subIn K t (.ref C)=some b):az K t (.ref C)=some b:=by
 have e:(f9 K C).isSome=true:=by
  unfold df at hm;cases h:f9 K C with
 |none=>rw[h]at hm;cases hm
 |some _=>rfl
 unfold az PySem.W.kitCls;rw[if_neg (by rw[a];exact Bool.false_ne_true)];dsimp only;rw[e,c,if_pos (by decide)];exact d
section
variable {P:Program}{w:World}{K:ae}{mg:Str->Option Value}{base:Heap}{C:Addr}
structure ua(K:ae)(C:Addr):Prop where
 pM:mr K C "take_places" "Table.take_places" T.jP [hB,"places"]
 qj:mr K C "take_rides" "Table.take_rides" T.jY [hB,"rides"]
 qX:mr K C "take_ways" "Table.take_ways" T.j0 [hB,"ways"]
 pN:mr K C "take_groups" "Table.take_groups" T.jQ [hB,"groups"]
 pW:mr K C "is_place" "Table.is_place" T.kd [hB,jt]
 qN:mr K C "is_home" "Table.is_home" T.kC [hB,jt]
 tj:mr K C "is_ride" "Table.is_ride" T.kB [hB,jt]
 uy:mr K C "is_way" "Table.is_way" T.kS [hB,jt]
 rY:mr K C "is_group" "Table.is_group" T.ke [hB,jt]
 sV:mr K C "room_of" "Table.room_of" T.kA [hB,"name"]
 rO:mr K C "ride_row" "Table.ride_row" T.ka [hB,"name"]
 sN:mr K C "way_row" "Table.way_row" T.kz [hB,"name"]
 rl:mr K C "group_row" "Table.group_row" T.j1 [hB,"name"]
structure sg(K:ae)(mg:Str->Option Value)(C:Addr):Prop where
 cl:nV K C
 init:∃f fd,Mk K C f/\oK K "__init__" "Table.__init__" T.jl f fd/\Binds K fd [hB,"turns","places","rides","ways","groups"] []
 mg:mg "Table"=some (.ref C)
 ms:ua K C
structure sj(K:ae)(C:Addr):Prop where
 tail:mr K C "tail" "Step.tail" T.mh [hB]
 head:mr K C "head" "Step.head" T.mi [hB]
structure vL(K:ae)(mg:Str->Option Value)(x qual:Str)(st:Stmt)(ps:List Str)(C:Addr):Prop where
 cl:so K C
 init:∃f fd,Mk K C f/\oK K "__init__" qual st f fd/\Binds K fd ps []
 mg:mg x=some (.ref C)
 ms:sj K C
structure sC(K:ae)(mg:Str->Option Value)(c0 c1 c2 c3 cb:Addr):Prop where
 s0:vL K mg "SetOut" "SetOut.__init__" T.j3 [hB,"row","turn"] c0
 s1:vL K mg "Ride" "Ride.__init__" T.kD [hB,"row"] c1
 s2:vL K mg "Walk" "Walk.__init__" T.kr [hB,"row","turn"] c2
 s3:vL K mg "Wait" "Wait.__init__" T.ku [hB,"row","turn"] c3
 base:∃f fd,oK K "__init__" "Step.__init__" T.jj f fd/\qU K cb "__init__" f/\Binds K fd [hB,"key","tail","head","room","price"] []
 mb:mg "Step"=some (.ref cb)
structure Defs(K:ae)(mg:Str->Option Value):Prop where
 pV:Df K mg "is_whole" T.oH [jt]
 oZ:Df K mg "is_within" T.nU [jt,"low","high"]
 qu:Df K mg "is_text_of" T.ni [jt,"longest","signs"]
 tm:Df K mg "is_name" T.o8 [jt]
 oS:Df K mg "is_group_name" T.lU [jt]
 rk:Df K mg "is_person" T.mj [jL,jt]
 qk:Df K mg "set_out_of" T.lH [jL,"name","turn"]
 pb:Df K mg "walk_of" T.nK [jL,"name","turn"]
 sO:Df K mg "wait_of" T.nM [jL,"name","turn"]
 pe:Df K mg "step_or_none" T.kU [jL,"key"]
 qt:Df K mg "leads_home" T.lJ [jL,"group","keys"]
 qv:Df K mg "is_journey" T.lK [jL,jt]
 joined:Df K mg "joined" T.oG [jL,"journeys"]
 pX:Df K mg "is_known" T.mN [jt,"names"]
 sU:Df K mg "rows_of" T.nS ["part","rows"]
 nW:Df K mg "wrong_beginning" T.j4 ["part","row","names_ahead"]
 qh:Df K mg "wrong_ends" T.kL [jL,"start","goal"]
 pJ:Df K mg "wrong_place" T.k7 ["row"]
 qg:Df K mg "wrong_ride" T.kK [jL,"row"]
 qV:Df K mg "wrong_way" T.kX [jL,"row"]
 pK:Df K mg "wrong_group" T.k8 [jL,"row","people_ahead"]
 ql:Df K mg "refuse_row" T.lI ["part","at","why"]
 rB:Df K mg "_law_cell" T.mq [mB,nZ]
 sd:Df K mg "_law_box" T.mP [tT]
 rA:Df K mg qo T.mn [jE,mR]
 qD:Df K mg "_law_names" T.j5 [jE,mR]
 qC:Df K mg "_law_rides" T.kN [jE,oB,n_,qd,rf]
 ry:Df K mg "_law_ways" T.kY [jE,oB,n_,qd]
 p8:Df K mg "_law_groups" T.lu [jE,oB,n_,rf]
 qy:Df K mg "_law_world" T.kM [mB]
 qA:Df K mg "_law_steps" T.lP [kR]
 pE:Df K mg "_law_hopeful" T.kW [kR,jF]
 p5:Df K mg "_law_onward" T.k9 [kR,jF]
 pD:Df K mg "_law_journey" T.j6 [jE,sF,jF,sE,rH]
 qz:Df K mg "_law_whole" T.lM [qc]
 p6:Df K mg "_law_is_key" T.k_ [jF,pH]
 oh:Df K mg "_law_is_journey" T.jM [kR,jF,pH]
 oV:Df K mg "_law_together" T.kF [oO]
 oW:Df K mg "_law_journeys" T.jJ [mB,kR,jF]
 oX:Df K mg "_law_bad_keys" T.kG [jE,jF,qm]
 sf:Df K mg "_law_bad" T.mQ [jE,jF,oO,oN]
 p7:Df K mg "_law_handed" T.lb [jE,jF,oO]
 r_:Df K mg "_law_due" T.mO [kR,jF,ot]
 rz:Df K mg "_law_told" T.ml [qb,ot]
 qB:Df K mg "_law_right" T.lR [qb,kR,jF,ot,"_law_way"]
theorem QD(W:K1.Txt K mg)(G:TB.Txt K mg)(i:p9 K w mg)(j:p_ K w mg)(B:∀x∈jO,mg x=none)(D:Defs K mg)(t:sg K mg C):vK P w K mg base C:=by obtain⟨f,fd,M,F,bd⟩:=t.init;have he:=B "enumerate" (by decide +kernel);have a:=K1.Mq (P:=P) (w:=w) (base:=base) D.oZ (K1.Nc W D.pV);have e:=K1.Rt (P:=P) (w:=w) (base:=base) W D.qu;have h:=Nd (P:=P) (w:=w) (base:=base) G D.pX;have d:=U7 (P:=P) (w:=w) (base:=base) t.cl t.ms.pW h;have g:=LF (P:=P) (w:=w) (base:=base) t.cl D.qh d (Ms t.cl t.ms.qN d);have c:=Rr (P:=P) (w:=w) (base:=base) G i D.nW (K1.Ly W D.tm e) (K1.Ww W D.oS e);have b:=Qq (P:=P) (w:=w) (base:=base) D.ql;exact⟨⟨f,fd,M,KO G t.cl a (Wl B j D.sU) (Rw t.cl he t.ms.pM c (Rp G D.pJ a) b) (Rv t.cl he t.ms.qj c (Lx G t.cl D.qg a g) b) (Ru t.cl he t.ms.qX c (Ea G t.cl D.qV a g) b) (Rx t.cl he t.ms.pN c (Rq G t.cl D.pK a d) b) F,bd⟩,t.mg⟩
theorem uK{R:Nat->Prop}(h0:R 0)(d:R 1)(c:R 2)(b:R 3):∀j,j<4->R j:=λj a=>by
 have e:j=0\/j=1\/j=2\/j=3:=by omega
 rcases e with rfl|rfl|rfl|rfl<;>assumption
noncomputable def c4(c0 c1 c2 c3:Addr)(i:Nat):Addr:=[c0,c1,c2,c3].getD i 0
structure Nn(mg:Str->Option Value):Prop where
 n1:mg "min"=none
 n2:mg "dict"=none
structure zy(K:ae)(mg:Str->Option Value)(Ct Qa:Addr):Prop where
 nf:zW K mg "NoJourney" "NoJourney.__init__" T.kh Ct Qa "at"
 cl:aD K (.ref Ct) "__class__"=some (some (.builtin "object.__class__"))
 gt:fg K (.builtin "object.__class__") "__get__"=some (some (.builtin "getset_descriptor.__get__"))
 tk:iW K (.builtin "object.__class__")=some true
 ob:df K Ct (.type "object")=some true
 kq:az K (.ref Ct) (.ref Qa)=some true
 gq:mg "QuayError"=some (.ref Qa)
theorem DK{f g e d c H Qa Ct:Addr}{fd:dk}(W:K1.Txt K mg)(G:TB.Txt K mg)(Zs:p9 K w mg)(Zm:p_ K w mg)(B:∀x∈jO,mg x=none)(D:Defs K mg)(t:sg K mg C)(N:Nn mg)(a:sC K mg g e d c H)(h:zy K mg Ct Qa)(F:oK K "law" "law" T.mJ f fd):jR P w K mg base jS 11 f fd [mB] (Pj K):=by have S:=QD (P:=P) (base:=base) W G Zs Zm B D t;have Z:=t.cl;have s:=LG (P:=P) (w:=w) (base:=base) (mg:=mg) B D.rB;have u:=Ed (P:=P) (w:=w) (base:=base) (mg:=mg) B D.sd;have b:=Lw (P:=P) (w:=w) (base:=base) (mg:=mg) D.rA;have l:=Wm (P:=P) (w:=w) (base:=base) (mg:=mg) B b D.qD;have y:=RA (P:=P) (w:=w) (base:=base) (mg:=mg) B s u b l (RE B b l D.qC) (Wn B b l D.ry) (Qr B b l D.p8) D.qy;have z:=RF (P:=P) (w:=w) (base:=base) (mg:=mg) B N.n2 s u b (Lz (Wr B D.pE) D.p5) (Wq B b D.pD) D.oW;have o:=K1.Mq (P:=P) (w:=w) (base:=base) (mg:=mg) D.oZ (K1.Nc W D.pV);have n:=Nd (P:=P) (w:=w) (base:=base) (mg:=mg) G D.pX;have q:=U7 (P:=P) (w:=w) (base:=base) (mg:=mg) Z t.ms.pW n;have L:=Ms (P:=P) (w:=w) (base:=base) (mg:=mg) Z t.ms.qN q;have J:=Qs (P:=P) (w:=w) (base:=base) (mg:=mg) Z t.ms.tj n;have I:=RH (P:=P) (w:=w) (base:=base) (mg:=mg) Z t.ms.uy n;have r:=N5 (P:=P) (w:=w) (base:=base) (mg:=mg) Z t.ms.rY n;have i:∀j,j<4->so K (c4 g e d c j):=uK a.s0.cl a.s1.cl a.s2.cl a.s3.cl;obtain⟨fb,v,Fb,bm,bb⟩:=a.base;have p:sy P w K mg base H:=⟨⟨fb,v,KP Fb,bm,bb⟩,a.mb⟩;obtain⟨f0,g0,M0,F0,b0⟩:=a.s0.init;obtain⟨f1,g1,M1,F1,b1⟩:=a.s1.init;obtain⟨f2,g2,M2,F2,b2⟩:=a.s2.init;obtain⟨f3,g3,M3,F3,b3⟩:=a.s3.init;have m0:t9 P w K mg base "SetOut" (c4 g e d c 0) [hB,"row","turn"] (nY K (c4 g e d c) 0 Kk):=⟨⟨f0,g0,M0,Fj p F0,b0⟩,a.s0.mg⟩;have m1:t9 P w K mg base "Ride" (c4 g e d c 1) [hB,"row"] (nY K (c4 g e d c) 1 QU):=⟨⟨f1,g1,M1,Dw p F1,b1⟩,a.s1.mg⟩;have Y:t9 P w K mg base "Walk" (c4 g e d c 2) [hB,"row","turn"] (nY K (c4 g e d c) 2 QS):=⟨⟨f2,g2,M2,Du p F2,b2⟩,a.s2.mg⟩;have X:t9 P w K mg base "Wait" (c4 g e d c 3) [hB,"row","turn"] (nY K (c4 g e d c) 3 QT):=⟨⟨f3,g3,M3,Dv p F3,b3⟩,a.s3.mg⟩;have E:=Mr (P:=P) (w:=w) (base:=base) (mg:=mg) Z r t.ms.rl;have R:=Ry (P:=P) (w:=w) (base:=base) (mg:=mg) Z i m0 r E o D.qk;have Q:=Lu (P:=P) (w:=w) (base:=base) (mg:=mg) Z i Y I (N3 Z I t.ms.sN) o D.pb;have O:=Lv (P:=P) (w:=w) (base:=base) (mg:=mg) Z i X q L (N4 Z q t.ms.sV) o D.sO;have sn:=Wj (P:=P) (w:=w) (base:=base) (mg:=mg) B Z i m1 J (MB Z J t.ms.rO) R Q O D.pe;have le:=Wu (P:=P) (w:=w) (base:=base) (mg:=mg) B Z i L sn (uK (Vr a.s0.ms.tail) (Vr a.s1.ms.tail) (Vr a.s2.ms.tail) (Vr a.s3.ms.tail)) (uK (Vs a.s0.ms.head) (Vs a.s1.ms.head) (Vs a.s2.ms.head) (Vs a.s3.ms.head)) D.qt;have ex:=Fm (P:=P) (w:=w) (base:=base) h.nf HW rfl ⟨by decide,by decide⟩;have jo:=LD (P:=P) (w:=w) (base:=base) (mg:=mg) B ex (Ec B (Rz B Z r E o D.rk) le D.qv) D.joined;obtain⟨⟨fI,ab,M,_,_⟩,na⟩:=h.nf;have to:=Wo (P:=P) (w:=w) (base:=base) (mg:=mg) B M na ⟨M.xr,h.cl,h.gt,h.tk,h.ob⟩ h.kq h.gq jo D.rz;have A:=RB (P:=P) (w:=w) (base:=base) (mg:=mg) B D.qz;have du:=LB (P:=P) (w:=w) (base:=base) (mg:=mg) B (LA B A (Wv B A D.p6) D.oh) D.r_;have U:=RD (P:=P) (w:=w) (base:=base) (mg:=mg) B du to (Eb D.oV) D.qB;have ha:=Ws (P:=P) (w:=w) (base:=base) (mg:=mg) B b (LC B b (LH B b D.oX) D.sf) D.p7;exact Fl B N.n1 S s u b y (RC B D.qA) z to U ha F
theorem uv{l:iY}{h:Heap}{i f:Addr}(X:K.In h)(G:h.Ns a8 mg)(g:mg "law"=some (.ref i))(N:K1.Txt K mg)(Gt:TB.Txt K mg)(L:p9 K w mg)(M:p_ K w mg)(B:∀x∈jO,mg x=none)(D:Defs K mg)(A:∃C,sg K mg C)(H:Nn mg)(E:∃q p o n j,sC K mg q p o n j)(I:∃r u,zy K mg u r){z:Value}{od an:Option Addr}{d:Array (Option Value)}{kV doc pm b ct:Value}(a:bA K a8 "law"=some (some (.ref f)))(lk:K.lookup f=some ⟨z,od,.func (bB "law" "law" (Yt T.mJ) (ZV T.mJ) (Ze T.mJ) .none kV doc pm an b ct),d⟩)(c:cz K b "law"=true)(k:a7 K (.ref f)=true):∃fd:dk,(∀(s:ai)(v:Value),BindsTo s fd ⟨[v],[]⟩ [(mB,v)])/\∀base:Heap,K.In base->base.Ns a8 mg->jR l.prog w K mg base jS 11 i fd [mB] (Pj K):=by have e:=g.symm.trans (cM X G a);cases e;obtain⟨C,t⟩:=A;obtain⟨q,p,o,n,j,y⟩:=E;obtain⟨r,u,J⟩:=I;have F:=JM (st:=T.mJ) lk c k;exact⟨bB "law" "law" (Yt T.mJ) (ZV T.mJ) (Ze T.mJ) .none kV doc pm an b ct,λs v=>.of_eq rfl,λbase _ _=>DK N Gt L M B D t H y J F⟩
end
theorem ud{K:ae}  {d:Value}{c e:Option Addr}{a:Array (Option Value)}(X:K.In h)(G:h.Ns a8 mg)(r:bA K a8 "Table"=some (some (.ref C)))(j:dY K C Str.empty=true)(hd:cF K C=true)(po:f6 K C=true)(i:aD K (.ref C) "__setattr__"=some (some (.builtin "object.__setattr__")))(mk:gF K C=true)(n:a7 K (.ref C)=true)(H:aD K (.ref C) "turns"=some none)(E:aD K (.ref C) "places"=some none)(D:aD K (.ref C) oq=some none)(B:aD K (.ref C) "rides"=some none)(A:aD K (.ref C) "ride_by_name"=some none)(z:aD K (.ref C) "ways"=some none)(y:aD K (.ref C) "way_by_name"=some none)(x:aD K (.ref C) "groups"=some none)(w:aD K (.ref C) rg=some none)(a1:aD K (.ref C) "__init__"=some (some (.ref f1)))(o:fK K (.ref f1)=true)(l:K.lookup f1=some ⟨d,c,.func (bB "__init__" "Table.__init__" (Yt T.jl) (ZV T.jl) (Ze T.jl) .none u g s e b v),a⟩)(q:cz K b "Table.__init__"=true)(k1:a7 K (.ref f1)=true)(ms:ua K C):∃C,sg K mg C:=by have F:=JM (st:=T.jl) l q k1;refine⟨C,⟨⟨j,hd,po,i⟩,λf hf=>?_⟩,⟨f1,_,⟨mk,a1,o,n⟩,F,F.binds λ_ _ _ _ _ _ us p=>by obtain⟨_,_,_,_,_,_,rfl⟩:=sZ p;rfl⟩,cM X G r,ms⟩;unfold fields at hf;simp only[au,aQ,or_false]at hf;rcases hf with rfl|rfl|rfl|rfl|rfl|rfl|rfl|rfl|rfl<;>assumption
theorem qK{K:ae}{h:Heap}{mg:Str->Option Value}{x qual:Str}{st:Stmt}{ps:List Str}{C f1:Addr}{g:Value}{e n:Option Addr}{b:Array (Option Value)}{i c d a j:Value}(X:K.In h)(G:h.Ns a8 mg)(w:bA K a8 x=some (some (.ref C)))(p:dY K C Str.empty=true)(hd:cF K C=true)(po:f6 K C=true)(o:aD K (.ref C) "__setattr__"=some (some (.builtin "object.__setattr__")))(mk:gF K C=true)(r:a7 K (.ref C)=true)(D:aD K (.ref C) "its_key"=some none)(B:aD K (.ref C) "its_tail"=some none)(A:aD K (.ref C) "its_head"=some none)(z:aD K (.ref C) "its_room"=some none)(y:aD K (.ref C) "its_price"=some none)(a1:aD K (.ref C) "__init__"=some (some (.ref f1)))(s:fK K (.ref f1)=true)(q:K.lookup f1=some ⟨g,e,.func (bB "__init__" qual (Yt st) (ZV st) (Ze st) .none i c d n a j),b⟩)(v:cz K a qual=true)(k1:a7 K (.ref f1)=true)(u:∀(kV doc pm:Value)(an:Option Addr)(l ct:Value)(us:List Value),us.length=ps.length->bindArgs (bB "__init__" qual (Yt st) (ZV st) (Ze st) .none kV doc pm an l ct) ⟨us,[]⟩=pure (ps.zip us))(ms:sj K C):vL K mg x qual st ps C:=by have F:=JM (st:=st) q v k1;refine⟨⟨⟨p,hd,po,o⟩,λf hf=>?_⟩,⟨f1,_,⟨mk,a1,s,r⟩,F,F.binds u⟩,cM X G w,ms⟩;unfold qw at hf;simp only[au,aQ,or_false]at hf;rcases hf with rfl|rfl|rfl|rfl|rfl<;>assumption
theorem tK{K:ae}{C f1:Addr}{g:Value}{e j:Option Addr}{b:Array (Option Value)}{h c d a i mc:Value}(ga:fg K (.ref C) "__getattribute__"=some (some (.builtin "type.__getattribute__")))(rd:PySem.W.readsIn K C mc=true)(o:PySem.W.findCls K (.ref C) mc "__init__"=some (.val (.ref f1)))(l:K.lookup f1=some ⟨g,e,.func (bB "__init__" "Step.__init__" (Yt T.jj) (ZV T.jj) (Ze T.jj) .none h c d j a i),b⟩)(p:cz K a "Step.__init__"=true)(k1:a7 K (.ref f1)=true):∃f fd,oK K "__init__" "Step.__init__" T.jj f fd/\qU K C "__init__" f/\Binds K fd [hB,"key","tail","head","room","price"] []:=by have F:=JM (st:=T.jj) l p k1;exact⟨f1,_,F,⟨ga,⟨mc,rd,o⟩,k1⟩,F.binds λ_ _ _ _ _ _ us n=>by obtain⟨_,_,_,_,_,_,rfl⟩:=sZ n;rfl⟩
theorem walk{l:iY}  {YP:World->Heap->Prop}{d:DefRec}{K:Params->ae}(e:l.most=some 63)(b:d.params.defaults=[])(i:∀(w:World)(h:Heap),YP w h->(K w.params).In h)(F:∀(w:World)(mg:Str->Option Value)(c:Addr)(h:Heap),(K w.params).In h->h.Ns a8 mg->mg d.name=some (.ref c) ->∃fd:dk,(∀(s:ai)(u:Value),BindsTo s fd ⟨[u],[]⟩ [(mB,u)])/\∀base:Heap,(K w.params).In base->base.Ns a8 mg->jR l.prog w (K w.params) mg base jS 11 c fd [mB] (Pj (K w.params))):PySem.W.WalkO q loose XP YP l.row.toRowW d [] (λf vs=>PySem.call f vs):=L2.pb (n:=63) (k:=11) (x:=mB) (CX:=λ_=>jS) (sp:=λw=>Pj (K w.params)) e (by decide) b ⟨rfl,by decide,by decide,rfl⟩ i F (λ_ _ a ns g _ j=>⟨a,ns,rfl,j,g,λ_=>rfl⟩) λ_ _ _ _ _ z=>z
end SX
open PySem PySem.W PyProof.Rows
set_option hygiene false in
local macro_rules
|`(tactic| o_head $H)=>`(tactic| (
   refine holds_open (q:=RG.QV) (loose:=RG.LO) (Xt:=RG.XT) (XP:=XL RG.QV [])
    (Yf:=Hook.obs $H) (Ya:=Hook.val $H) (YP:=Hook.says $H) (N:=14000) ?hl (Hook.of $H) (Hook.keeps $H) (λs e=>xl_of s (Bool.and_eq_true_iff.mp e).1)
    XL.keeps (by rfl) (by rfl) (by rfl) (λs e=>recFacts_of (Bool.and_eq_true_iff.mp e).2) (by rfl) (by first|assumption|decide +kernel) (by decide +kernel)
    ⟨rfl,rfl,rfl,rfl,rfl,by decide +kernel⟩ ?hw ?hc
   case' hl=>exact RG.Ai (by kernel_rfl) (λs=>by kernel_rfl) RG.AV (λw=>rfl)))
set_option maxRecDepth 100000 in
set_option maxHeartbeats 0 in
theorem PySem.Challenge.cw_homequay_k53_no_journeys_holds : PySem.Challenge.rw_homequay_k53_no_journeys.Holds := by
 w_on;refine PySem.W.holds_law RG.ws λAG=>?_;o_head (kHook RG.hk.heap_1 RG.AS RG.eK);(case hw=>w_witness2);k_fill;refine SX.walk (l:=bz) rfl rfl (λw h Y=>PySem.W.kIn_of Y) ?F;case F=>
  intro w mg fa h KX G AX;have D:SX.Defs (L2.qR KX) mg:=by dsimp only[L2.qR];constructor<;>(refine' L2.Av KX G ?a ?l ?c ?k ?b;(case a|l|c|k=>k_is);(case b=>exact λ_ _ _ _ _ _ us hl=>by first|(obtain⟨_,rfl⟩:=L2.rh hl;rfl)|(obtain⟨_,_,rfl⟩:=L2.m6 hl;rfl)|(obtain⟨_,_,_,rfl⟩:=L2.ph hl;rfl)|(obtain⟨_,_,_,_,rfl⟩:=L2.oF hl;rfl)|(obtain⟨_,_,_,_,_,rfl⟩:=L2.qs hl;rfl)))
  have B:∀x∈WD.jO,mg x=none:=by intro x hx;unfold WD.jO at hx;simp only[au,aQ,or_false]at hx;rcases hx with rfl|rfl|rfl|rfl|rfl|rfl|rfl|rfl|rfl|rfl|rfl|rfl|rfl<;>(refine' fQ KX G ?a;(case a=>k_is))
  have W:K1.Txt (L2.qR KX) mg:=by constructor<;>((first|refine' fQ KX G ?a|refine' L2.str_mk KX G ?a|refine' L2.int_mk KX G ?a);(case a=>k_is))
  have Gt:TB.Txt (L2.qR KX) mg:=by constructor<;>((first|refine' fQ KX G ?a|refine' L2.str_mk KX G ?a|refine' L2.int_mk KX G ?a);(case a=>k_is))
  have Zs:TB.p9 (L2.qR KX) w mg:=by refine⟨?_⟩;dsimp only[L2.qR];refine' L2.SK KX G ?a ?l ?k ?h1 ?h2 ?h3 ?h4;(case a|l=>k_is);(case k=>k_keys);(case h1|h2|h3|h4=>k_is)
  have Zm:TB.p_ (L2.qR KX) w mg:=by refine⟨?_⟩;dsimp only[L2.qR];refine' L2.SK KX G ?a ?l ?k ?h1 ?h2 ?h3 ?h4;(case a|l=>k_is);(case k=>k_keys);(case h1|h2|h3|h4=>k_is)
  have hN:SX.Nn mg:=by constructor<;>(refine' fQ KX G ?a;(case a=>k_is))
  have ht:∃C,SX.sg (L2.qR KX) mg C:=by
   dsimp only[L2.qR];refine' SX.ud KX G ?aC ?pg ?hd ?po ?sa ?mk ?kc ?y1 ?y2 ?y3 ?y4 ?y5 ?y6 ?y7 ?y8 ?y9 ?a1 ?i1 ?l1 ?c1 ?k1 ?ms;(case aC|pg|hd|po|sa|mk|kc|y1|y2|y3|y4|y5|y6|y7|y8|y9|a1|i1|l1|c1|k1=>k_is)
   (case ms=>constructor<;>(refine' L2.Lr ?za ?zi ?zl ?zc ?zk ?zb;(case za|zi|zl|zc|zk=>k_is);(case zb=>exact λ_ _ _ _ _ _ us hl=>by first|(obtain⟨_,rfl⟩:=L2.rh hl;rfl)|(obtain⟨_,_,rfl⟩:=L2.m6 hl;rfl)|(obtain⟨_,_,_,rfl⟩:=L2.ph hl;rfl)|(obtain⟨_,_,_,_,rfl⟩:=L2.oF hl;rfl)|(obtain⟨_,_,_,_,_,rfl⟩:=L2.qs hl;rfl))))
  have hS:∃c0 c1 c2 c3 cb,SX.sC (L2.qR KX) mg c0 c1 c2 c3 cb:=by
   dsimp only[L2.qR];refine' ⟨_,_,_,_,_,⟨SX.qK KX G ?zj ?xK ?uC ?xG ?uf ?xX ?yp ?uc ?wA ?wq ?wh ?wb ?zq ?yB ?yd ?yY ?yu ?uJ ?xT,SX.qK KX G ?zh ?xJ ?yG ?xF ?xp ?xW ?yo ?wD ?wz ?wo ?wg ?wa ?zp ?yA ?yc ?yX ?yt ?zd ?xS,SX.qK KX G ?zg ?xI ?yF ?xE ?xo ?xV ?yn ?wC ?wx ?wm ?we ?v_ ?zo ?yz ?yb ?yW ?yr ?y_ ?xR,SX.qK KX G ?zf ?xH ?yE ?xD ?xm ?xU ?ym ?wB ?wu ?wj ?wc ?vZ ?zm ?yy ?ya ?yV ?yq ?y0 ?xQ,SX.tK (mc:=.type "type") ?A8 ?A5 ?A9 ?A6 ?A_ ?A7,cM KX G ?mb⟩⟩;(case zj|zh|zg|zf|mb=>k_is)
   (case xT|xS|xR|xQ=>constructor<;>(refine' L2.Lr ?za ?zi ?zl ?zc ?zk ?zb;(case za|zi|zl|zc|zk=>k_is);(case zb=>exact λ_ _ _ _ _ _ us hl=>by first|(obtain⟨_,rfl⟩:=L2.rh hl;rfl)|(obtain⟨_,_,rfl⟩:=L2.m6 hl;rfl)|(obtain⟨_,_,_,rfl⟩:=L2.ph hl;rfl)|(obtain⟨_,_,_,_,rfl⟩:=L2.oF hl;rfl)|(obtain⟨_,_,_,_,_,rfl⟩:=L2.qs hl;rfl))))
   (case uJ|zd|y_|y0=>exact λ_ _ _ _ _ _ us hl=>by first|(obtain⟨_,rfl⟩:=L2.rh hl;rfl)|(obtain⟨_,_,rfl⟩:=L2.m6 hl;rfl)|(obtain⟨_,_,_,rfl⟩:=L2.ph hl;rfl)|(obtain⟨_,_,_,_,rfl⟩:=L2.oF hl;rfl)|(obtain⟨_,_,_,_,_,rfl⟩:=L2.qs hl;rfl))
   (case xK|uC|xG|uf|xX|yp|uc|wA|wq|wh|wb|zq|yB|yd|yY|yu|xJ|yG|xF|xp|xW|yo|wD|wz|wo|wg|wa|zp|yA|yc|yX|yt|xI|yF|xE|xo|xV|yn|wC|wx|wm|we|v_|zo|yz|yb|yW|yr|xH|yE|xD|xm|xU|ym|wB|wu|wj|wc|vZ|zm|yy|ya|yV|yq|A8|A5|A9|A6|A_|A7=>k_is)
  have hE:∃Qa Ct,SX.zy (L2.qR KX) mg Ct Qa:=by
   dsimp only[L2.qR];refine' ⟨_,_,⟨⟨SX.uF KX G ?A' ?AU ?xP ?vy ?xO ?tl ?x_ ?yS ?yT ?yQ ?uf ?xM ?yJ ?yI ?uC ?yZ ?yh ?uJ,?uc⟩,?wL,?wK,?wJ,?wI,SX.uw ?e ?hm ?t ?u,cM KX G ?gq⟩⟩;(case A'=>k_is);(case AU=>k_is);(case xP=>k_is);(case vy=>rfl);(case xO=>k_is);(case x_=>k_is);(case yS=>rfl);(case yT=>k_is);(case yQ=>k_is);(case uf=>k_is);(case xM=>k_is);(case yJ=>k_is);(case yI=>k_is);(case uC=>k_is);(case yZ=>k_is);(case yh=>k_is);(case uc=>k_is);(case wL=>k_is);(case wK=>k_is);(case wJ=>k_is);(case wI=>k_is);(case uJ=>exact λ_ _ _ _ _ _ us hl=>by obtain⟨_,_,rfl⟩:=L2.m6 hl;rfl);(case tl=>refine' SX.sP ?lq ?eq ?nq ?AM ?iq;(case lq=>k_is);(case eq=>rfl);(case nq=>k_is);(case AM=>rfl);(case iq=>k_is));(case gq=>k_is);(case e=>decide);(case hm=>k_is);(case t=>k_is);(case u=>k_is)
  refine' SX.uv KX G AX W Gt Zs Zm B D ht hN hS hE ?fa ?fl ?fc ?fk;(case fa|fl|fc|fk=>k_is)
