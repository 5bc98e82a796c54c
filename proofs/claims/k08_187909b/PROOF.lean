import PyProof.Rows.All
import Wide.All
import OpenK.AllK
import Wide.FinOn
import Lean
import PyProof.EqAt
import PyProof.EqKinds
import PyProof.TupleCall
import KE.KIntText
import KE.IntTextLaws
import PyProof.ExcClass3
import PyProof.InstStoreFacts
import PyProof.ExcBaseAll.ValueError
import PyProof.NsDelKeeps
import PyProof.ExcAttrAll.ValueError
import OpenK.KTop
import PyProof.ZipIter
import PyProof.ListNew
import PyProof.ListRange
import PyProof.ReprRoads
import PyProof.Rows.FactsT3
import PyProof.Rows.SumAny
import PyProof.CompUse
import PyProof.EqLayable
import PyProof.CallFns
import PyProof.StrBlock
import PyProof.StrCalls2
import PyProof.StrLawsTight
import PyProof.StrLawsChain
import PyProof.ReprLen
import PyProof.EnumMake
import PyProof.ListMulRoad
import PyProof.StrCalls
import PySem.Challenge.RW_homequay_k08_whole_any_text
set_option compiler.extract_closed false
open Option renaming some→O,none→B,isSome_iff_exists→eJ,map_eq_some_iff→iu,map_some→jJ,isSome_map→kQ
open PySem renaming wpAny_bind→ae,Value→Z,Addr→G,Shared→ao,Str→U,wpAny_pure→aE,wpAny→aI,Spec→aO,model→aZ,Program→a9,starEach→bf,World→bg,boot_len→bt,Heap→bC,wpAny_field→bG,mainGlobals→bI,wpAny_holding→bL,Around→bU,Expr→bV,Paired→bX,Stmt→b_,wpAny_loadPart_at→cC,compareOp→cF,eval→cM,OsState→de,Scope→dh,bootBuiltins→dj,wpAny_truthy_bool→dk,wpAny_callSpecial?_slot→dC,wpAny_mono→dQ,rawInt→dU,backTo→eh,wpAny_seqItems→eB,Obj→eN,wpAny_call_entry→eS,wpAny_Call_Name_kw→eU,FuncData→fe,wpAny_setField→ff,wpAny_newObj_type→fh,IsPair→fj,attributeBase→fD,sysModules→fK,assignEach→fL,wpAny_setField_rec→fP,wpAny_loadPart'→fV,mem_of_lookup→fW,Builtin→fX,keywordEach→fY,wpAny_standAt→gb,wpAny_isSubtype_exc→gm,PyData→gu,codeAny_builtin→gN,wpAny_attempt→gP,Within→gQ,wpAny_pyIter_list→gR,binaryOp→gY,NameKind→gZ,call_meets→g9,sizeLine_eq→g_,ExceptHandler→iw,wpAny_pyIter_tuple→iB,tupleKind_room_in1→iC,cLine→iE,wpAny_getItem_str_slice→iF,Pos→iG,codeAny→iK,backToKw→iL,codeAny_mono→iM,wpAny_ite_true→iN,plainObj_wpAny_Assign_Attribute→iX,plainId_quiet→jd,behindInMarks→je,strIterType→jf,sliceBounds→jg,wpAny_passesOwn→jr,holding→jx,wpAny_typeOf→jy,swapsWith→jA,wpAny_call→jB,Env→jI,Keyword→jM,foldedSetIterable→jN,pyNext→jQ,IsZip→jU,ZipApart→jV,getMethod→jX,wpAny_isInstance→jY,intText?→jZ,typeIs_str→j_,wpAny_nextOf_list_item→ka,wpAny_updateSeq→kn,wpAny_specialOf→ko,wpAny_ite_false→kr,wpAny_execs_nil→ku,post_val_or_str→kA,letOwnedTupleGo→kB,codeAny_handlers_test→kI,field→kR,Thread→kS,wpAny_updateSeq_pair→kT,getItem→kX,tupleKind→kY,setFlight→kZ,wpAny_handleBy_cons→lh,wpAny_onRaise→lE,stored→lL,wpAny_rule→lO,typeLookup→lP,isInstance→lQ
open PySem.W renaming Frag→af,findIn→a_,nsIn→br,kitOne→bw,keepIn→cb,fnOf→dw,kia_one→dI,emptyDict→dW,instObj→fE,hideAll_none→fF,mg_of→fN,codeIn→fU,callWith_K→gf,kia_tup→gi,hideAll→gj,hasDictIn→gG,mg_none_of→hV,plainGet→iD,looks_findIn→iI,KeysLit→iO,tailIn→i8,nsOkIn→i9,mroIn→js,isFn→jC,cellsFrom_some→jD,methodCall_KW→jL,notCls→jR,lookIn→jS,plainGet_of→j3,hideAll_get→j5,of_hideAll→kh,plainOver→kJ,methodObj→kK,kitx_list→kL,kitx_dict→kM,handedIn→kU,takerIn→lj,mapOf_K→ll,makesIn→ly,OpenLaw→lB,kitAny→lS,InstAt→lT
open PySem.Challenge renaming pw_homequay_k08_whole_any_text→ag,rw_homequay_k08_whole_any_text→cu
open Nat renaming le_trans→aj,le_refl→aq,lt_of_lt_of_le→aX,ne_of_lt→bc,zero_le→bK,ne_of_gt→df,lt_of_le_of_lt→dA,lt_irrefl→dB,le_of_ble_eq_true→eI,le_of_lt→eQ,lt_succ_of_lt→eZ,lt_succ_self→fv,log2_le_self→gT,le_add_right→gU,add_le_add_left→h_,le_succ→iV,add_le_add_right→iW,min_eq_left→i_,zero_add→jh,eq_zero_or_pos→ju,min_eq_right→jK,le_of_eq→la,le_of_succ_le→lC
open List renaming mem_cons_of_mem→au,mem_cons_self→ax,mem_cons→ay,map_append→aA,length_cons→aB,length_append→aD,mem_map→aG,map_cons→aH,mem_singleton→aL,size_toArray→aQ,getElem?_map→aT,getElem?_eq_some_iff→aU,length_take→aY,not_mem_nil→a8,mem_append→ba,append_nil→bj,getElem_mem→bo,take_of_length_le→bp,append_assoc→bu,range→bB,length_map→bH,mem_append_right→bN,getD_eq_getElem?_getD→bQ,replicate→bS,mem_range→bW,all_eq_true→bY,length_range→bZ,take_length→cg,take_succ→cq,mem_iff_getElem?→cD,map_nil→cJ,length_drop→cL,mem_of_getElem?→cU,map_map→cY,count_eq_zero→cZ,length_zip→c9,cons_append→da,mem_of_mem_take→du,mem_append_left→dv,length_nil→dz,length_filter_le→dJ,sum_cons→dM,range_succ→dR,map_eq_nil_iff→dZ,length→d8,nodup_cons→d9,drop_eq_getElem_cons→eF,length_replicate→eG,any_cons→eO,mem_of_mem_drop→eR,mem_filter→eV,filterMap_cons→fg,getElem?_append_right→fA,take_append_drop→fC,getElem?_append_left→fJ,nil_append→fO,flatten_cons→fQ,lookup_cons→f7,filter_cons→f9,contains_cons→gn,of_mem_zip→gF,count_append→gK,find?_cons→ic,zip_cons_cons→ij,append_cancel_left→ip,nodup_nil→iz,getElem?_set_self→iA,lookup→iR,getElem?_set_ne→iS,count_replicate→iT,sum_append→iY,forIn_cons→iZ,foldl_cons→i5,dropLast_concat_getLast→i7,map_congr_left→ja,drop_zero→jm,filter_append→jo,getElem_zip→jF,dropLast_cons_cons→jG,length_pos_of_mem→jO,filter_eq_nil_iff→jP,forIn_nil→j8,nodup_append→k7,nodup_range→lH,getElem_inj→lJ,eq_nil_of_length_eq_zero→lV
open PySem.Heap renaming get?_push_of_some→av,lt_size→aK,get?_push_size→aR,get?_update_other→bq,get?_update_self→bF,size_push→fZ,SameBut→gk,get?_none_of_le→iU
open Option.some renaming inj→aJ
open PySem.Value renaming ref→aN,none→b9,type→fT,str→iH,int→j7,bool→kE
open Bool renaming false_ne_true→aW,and_eq_true→bJ,true_and→cO,eq_iff_iff→c_,false_eq_true→dm,false_and→fw,and_eq_true_iff→fR,or_true→iy,and_false→j9,or_false→kG,false_or→kH,true_or→k6
open PySem.Str renaming ofString→bh,empty→d6
open PySem.W.Fast renaming tw5923862056798008813→bz,tw4187177175401517315→bA
open PySem.F renaming plainAttrs_list→bD,plainAttrs_str→bP,type_list_append→cz,slot_list_append→cA,type_str_split→dX,slot_str_split→dY,type_str_join→gB,slot_str_join→gC,slot_dict_get→gD,type_list_extend→gV,slot_list_extend→gW,entry_dict_get→jE
open PySem.Builtin.SmallTypes renaming nextOf→bE,ownedTupleIsFree→bO,ownedTupleHandOut→jq
open PySem.Builtin.Str renaming occurrences→bR,strSliceIndices→dN,partsBetween→d_,glued→i6
open Int renaming toNat_natCast→cw,toNat_of_nonneg→d7,eq_ofNat_of_zero_le→e_,lt_of_lt_of_le→gz,zero_add→jj,emod_lt_of_pos→kW,ediv_one→lb
open PySem.Obj renaming mapFields→cQ,mapSeq→dG,data_mapFields→ik,isFreed_of_fields→iJ
open False renaming elim→cV
open PySem.Unicode renaming upperOf→c7
open PyProof.Rows renaming callWith_type1→c8,envOfC→f_,boot_repr→gX,slot_tuple_getitem→ib,AllBare→jc,boot_isinstance→kD,boot_sum→lU
open Ne renaming symm→dc
open Array renaming getElem?_setIfInBounds_ne→di,getElem?_eq_getElem→fG,getElem?_eq_some_iff→gO,length_toList→ki
open Or renaming inl→dD,inr→ir
open True renaming intro→dE
open PySem.PassesOwn renaming never→dH,leaving→ie
open PySem.NameKind renaming free→dS,cell→jl
open PySem.Builtin.ObjectAttr renaming storeInDict→ft,newKeyGuard→jH
open PySem.Builtin.List renaming listTooLong→fB,listExtendWith→gh,listSameRef→k8,listItems→lK
open PySem.Around renaming under_plainId→fH,under→kO
open PySem.SeqAt renaming shaped→fM,EqAt→kF
open PySem.StrLaws renaming split_free→gc,glued_eq_join→gA
open PySem.Paired renaming length→gv
open PySem.Builtin.Slice renaming slicePlaces→gH,sliceAdjust→iP,sliceApplied→kN
open PySem.Heap.SameBut renaming update→gI,refl→jT
open PySem.Builtin.Tuple renaming tupleExact→gL
open Sum renaming inr→gM,inl→k_
open ForInStep renaming yield→gS
open PySem.Calls renaming spliced_cons→ig,callWith_builtin→ix,spliced_nil→jv,evalArgs_plain→j6
open Prod renaming ext→iQ
open Decidable renaming byContradiction→jb
open List.cons renaming inj→jk
open Prod.mk renaming injEq→jt
open PySem.PyData renaming int→kj,eqv→km,leavesShort→kC,hasDictAll→kP,showable→lG
open PySem.Builtin.Dict renaming addKeywords→k9,updateFrom→lD
def zC{p:Prop}(h:p:=by decide +kernel):p:=h
def D{p:Prop}(h:p:=by decide):p:=h
def zD{p:Prop}(h:p:=by omega):p:=h
def zE{p:Prop}(h:p:=by simp):p:=h
theorem zF.{u}{c:Sort u}{a b:c}(h:a=b:=by rfl):a=b:=h
def zG:=@if_neg
def zH:=@if_pos
noncomputable def zI:=@absurd
def zJ:=@decide_eq_true
def zK:=@decide_eq_false
def zL:=@of_decide_eq_true
def zM:=@congrArg
theorem Y.{u}{b:Sort u}{a:b}:a=a:=rfl
open PySem in
abbrev ky:U:="_law_box_here"
open PySem in
abbrev w6:U:="_law_world_here"
open PySem in
abbrev mQ:U:="_law_places_here"
open PySem in
abbrev yg:U:="_law_strange"
open PySem in
abbrev pF:U:="_law_name_here"
open PySem in
abbrev q_t:U:="_law_table_here"
open PySem in
abbrev pd:U:="_law_word_here"
open PySem in
abbrev pP:U:="_law_many_here"
open PySem in
abbrev mJ:U:="thing"
open PySem in
abbrev o5:U:="_law_turns"
open PySem in
abbrev qw:U:="_law_lines_here"
open PySem in
abbrev mG:U:="self"
open PySem in
abbrev nu:U:="table"
open PySem in
abbrev oG:U:="_law_k"
open PySem in
abbrev rN:U:="room_by_place"
open PySem in
abbrev sY:U:="_law_words_here"
open PySem in
abbrev rZ:U:="_law_letters"
open PySem in
abbrev qV:U:="_law_line"
open PySem in
abbrev qv:U:="_law_at"
open PySem in
abbrev tS:U:="_law_row_here"
open PySem in
abbrev rl:U:="_law_take"
open PySem in
abbrev rk:U:="_law_more"
open PySem in
abbrev sX:U:="_law_script"
open PySem in
abbrev uT:U:="_law_way_here"
open PySem in
abbrev sW:U:="_law_start"
open PySem in
abbrev vM:U:="_law_size_here"
open PySem in
abbrev ug:U:="_law_base"
open PySem in
abbrev vh:U:="_law_first"
open PySem in
abbrev vK:U:="_law_place"
open PySem in
abbrev vJ:U:="_law_thing"
open PySem in
abbrev w_:U:="_law_cell_here"
open PySem in
abbrev w9:U:="_law_told_here"
open PySem in
abbrev vI:U:="_law_sign"
open PySem in
abbrev vH:U:="_law_room"
open PySem in
abbrev xU:U:="_law_names_here"
namespace RG
open PySem PySem.W PyProof.Rows
noncomputable def vV(a ok:kS->Bool)(st:SharedT->kS->Option (SharedT×kS))(n:Nat):SharedT->kS->Option SharedT:=@Nat.rec (λ_=>SharedT->kS->Option SharedT) (λ_ _=>B) (λ_ d s t=>@Bool.rec (λ_=>Option SharedT) (@Bool.rec (λ_=>Option SharedT) B (@Option.rec (SharedT×kS) (λ_=>Option SharedT) B (λx=>@Prod.rec SharedT kS (λ_=>Option SharedT) (λc b=>d c b) x) (st s t)) (ok t)) (O s) (a t)) n
theorem SJ{c:String->Option fX}{p:a9}{w:bg}{m:Nat}{a:Option Z}:∀{n:Nat}{s r:SharedT}{t:kS},vV through (stepOk m a) (stepT (denote c) p w) n s t=O r->topRun c p w m a n s.abs t=O r.abs
|0,_,_,_,h=>by cases h
|n+1,s,r,t,h=>by
  have b:@Bool.rec (λ_=>Option SharedT) (@Bool.rec (λ_=>Option SharedT) B (@Option.rec (SharedT×kS) (λ_=>Option SharedT) B (λx=>@Prod.rec SharedT kS (λ_=>Option SharedT) (λf d=>vV through (stepOk m a) (stepT (denote c) p w) n f d) x) (stepT (denote c) p w s t)) (stepOk m a t)) (O s) (through t)=O r:=h;unfold topRun;cases g:through t with
 |true=>rw[g]at b;cases b;rfl
 |false=>
   rw[g]at b;cases i:stepOk m a t with
  |false=>rw[i]at b;cases b
  |true=>
    rw[i]at b;cases hs:stepT (denote c) p w s t with
   |none=>rw[hs]at b;cases b
   |some x=>obtain⟨f,d⟩:=x;rw[hs]at b;rw[stepT_spec hs];exact SJ (n:=n) b
noncomputable def mkT(l:List eN):BT:=(l.foldl (λ(x:BT×Nat)o=>(x.1.ins x.2 o,x.2+1)) (BT.nil,0)).1
noncomputable def T0(w:bg)(os:de):SharedT:=⟨mkT (boot_heap w.params).objs.toList,11,(boot_heap w.params).life,⟨[]⟩,boot_drawn,boot_toks,os⟩
def Be(w:bg)(os:de):(T0 w os).abs=⟨boot_heap w.params,⟨[]⟩,boot_drawn,boot_toks,os⟩:=by kernel_rfl
def sz(w:bg):((boot_heap w.params).isNs bI&&((⟨[]⟩:Array GenState).size==0),(boot_heap w.params).objs.size,(boot_heap w.params).nsMap bI "__annotations__")=(true,11,O (.ref 6)):=by kernel_rfl
noncomputable def go(p:a9)(n:Nat)(w:bg)(os:de):Option SharedT:=vV through (PySem.W.Fast.tw6613529449190102663 11 (O (.ref 6))) (PySem.W.Fast.tw10156331382660048174 (PySem.W.Fast.tw11892475500146522536 PySem.W.Fast.tw14364793385576792824) p w) n (T0 w os) (topStub p)
def Ox(p:a9)(n:Nat)(w:bg)(os:de):go p n w os=vV through (stepOk 11 (O (.ref 6))) (stepT (denote treeTable) p w) n (T0 w os) (topStub p):=by unfold go;rw[PySem.W.Fast.te6613529449190102663,PySem.W.Fast.te10156331382660048174,PySem.W.Fast.te11892475500146522536,PySem.W.Fast.te14364793385576792824]
noncomputable def xW(p:a9)(w:bg)(s:ao):Bool:=staticsOk (importedModules p.main.body) (boot_heap w.params) s.heap&&namesBound p s.heap&&gensDone s&&laidKept (boot_heap w.params) s.heap
noncomputable def lk(p:a9){a:Type}(F:ao->a)(n:Nat)(w:bg)(os:de):Option a:=@Option.rec SharedT (λ_=>Option a) B (λr=>O (F r.abs)) (go p n w os)
noncomputable abbrev wK(p q:a9)(a:List U)(b:ao->Bool)(n:Nat)(w:bg)(os:de):=lk p (λs=>(xW p w s,bA q a (bz p.main.body) b true s)) n w os
def left{p q:a9}{a:List U}{g:ao->Bool}{o:Type}{c:ao->o}{f:bg->o}{N:Nat}(row:String)(e1:opening p=plainProg p.main.scope.names)(X:Nat.ble 600 N=true)(T:∀s:ao,fenceModules? p s=O s)(M:∀(w:bg)(os:de),wK p q a g N (w.withFollow row false) os=O (true,openGood q a))(L:∀(w:bg)(os:de),wK p q a g N (w.withFollow row true) os=O (true,openGood q a))(H:∀(w:bg)(os:de),lk p c N (w.withFollow row false) os=O (f (w.withFollow row false)))(F:∀(w:bg)(os:de),lk p c N (w.withFollow row true) os=O (f (w.withFollow row true))):LeftO p q a g c f N:=λw=>by
 have I:∀os:de,wK p q a g N w os=O (true,openGood q a):=byRow2 row (P:=λw=>∀os:de,wK p q a g N w os=O (true,openGood q a)) M L w;have E:∀os:de,lk p c N w os=O (f w):=byRow2 row (P:=λw=>∀os:de,lk p c N w os=O (f w)) H F w;obtain⟨⟨h,Q,d,k,os⟩,e,e'⟩:=iu.mp (boot_open e1 X T w);obtain⟨rfl,rfl,rfl,rfl⟩:h=boot_heap w.params/\Q=⟨[]⟩/\d=boot_drawn/\k=boot_toks:=by simpa using e'
 obtain⟨z,y,x⟩:_/\_/\_:=by simpa only[jt]using sz w
 have b:=I os;have j:=E os;unfold wK lk at b;unfold lk at j;rw[<-PySem.W.Fast.te4187177175401517315,<-PySem.W.Fast.te5923862056798008813]at b;cases i:go p N w os with
|none=>rw[i]at b;cases b
|some r=>
  rw[i]at b j;have n:(xW p w r.abs,openSeen q a (importedModules p.main.body) g true r.abs)=(true,openGood q a):=aJ b;have l:c r.abs=f w:=aJ j;obtain⟨C,A⟩:=Prod.mk.inj n;rw[Ox]at i;have u:=SJ i;rw[Be]at u;have t:topFrom treeTable p w N ⟨boot_heap w.params,⟨[]⟩,boot_drawn,boot_toks,os⟩=O r.abs:=by
   unfold topFrom;dsimp only;rw[z,y,x,u];show(match xW p w r.abs with|true=>O r.abs|false=>B)=_
   rw[C]
  unfold openEnds;rw[e];show(topFrom treeTable p w N _).map _=_;rw[t];exact zM O (iQ A l)
end RG
set_option Elab.async false
set_option linter.all false
set_option genInjectivity false
set_option genSizeOfSpec false
set_option maxRecDepth 100000
set_option maxHeartbeats 4000000
namespace RG
open PySem PySem.W PyProof.Rows
noncomputable def tp(i:Nat):b_:=ag.main.body.getD i (.Pass ⟨0,0,0,0⟩)
noncomputable def QV:a9:={ag with main:={ag.main with body:=[tp 0,tp 2,tp 3,tp 4,tp 6,tp 7,tp 8,tp 9,tp 10,tp 11,tp 12,tp 13,tp 14,tp 15,tp 16,tp 17,tp 18,tp 20,tp 21,tp 22,tp 23,tp 24,tp 25,tp 26,tp 27,tp 28,tp 29,tp 30,tp 31,tp 32,tp 33,tp 34,tp 35,tp 37,tp 38,tp 39,tp 40,tp 41,tp 42,tp 43,tp 44,tp 45,tp 46,tp 48,tp 49,tp 50,tp 51,tp 52,tp 53,tp 54,tp 55,tp 56,tp 57,tp 58,tp 59,tp 60,tp 61,tp 62,tp 63,tp 64,tp 65,tp 66,tp 67,tp 68,tp 69,tp 70,tp 71,tp 72,tp 73]}}
noncomputable abbrev LO:List U:=["MOST_ROWS","ROW_SIZES","FORMS","PARTS"]
noncomputable abbrev XT:ao->Bool:=λs=>xlAt QV [] s&&recOk (RowW.records (OpenRow.toRowW (cu.row))) s
noncomputable def p1{b c:Type}(x:b×c):b:=@Prod.rec b c (λ_=>b) (λa _=>a) x
noncomputable def p2{c a:Type}(x:c×a):a:=@Prod.rec c a (λ_=>a) (λ_ b=>b) x
def u5(w:bg)(os:de):lk ag (λs=>p1 (p2 (p2 (p2 (p2 (p2 (bA QV LO (bz ag.main.body) XT true s))))))) 14000 (w.withFollow "special-get-raises" false) os=O ((openGood QV LO).2.2.2.2.2.1):=by kernel_rfl
def u2(w:bg)(os:de):lk ag (λs=>p1 (p2 (p2 (bA QV LO (bz ag.main.body) XT true s)))) 14000 (w.withFollow "special-get-raises" false) os=O ((openGood QV LO).2.2.1):=by kernel_rfl
def u0(w:bg)(os:de):lk ag (λs=>p1 (bA QV LO (bz ag.main.body) XT true s)) 14000 (w.withFollow "special-get-raises" false) os=O ((openGood QV LO).1):=by kernel_rfl
def u3(w:bg)(os:de):lk ag (λs=>p1 (p2 (p2 (p2 (bA QV LO (bz ag.main.body) XT true s))))) 14000 (w.withFollow "special-get-raises" false) os=O ((openGood QV LO).2.2.2.1):=by kernel_rfl
def u7(w:bg)(os:de):lk ag (λs=>p1 (p2 (p2 (p2 (p2 (p2 (p2 (p2 (bA QV LO (bz ag.main.body) XT true s))))))))) 14000 (w.withFollow "special-get-raises" false) os=O ((openGood QV LO).2.2.2.2.2.2.2.1):=by kernel_rfl
def uA(w:bg)(os:de):lk ag (λs=>(p1 (p2 (p2 (p2 (p2 (bA QV LO (bz ag.main.body) XT true s))))),p1 (p2 (p2 (p2 (p2 (p2 (p2 (bA QV LO (bz ag.main.body) XT true s))))))),p2 (p2 (p2 (p2 (p2 (p2 (p2 (p2 (bA QV LO (bz ag.main.body) XT true s)))))))))) 14000 (w.withFollow "special-get-raises" false) os=O (((openGood QV LO).2.2.2.2.1,(openGood QV LO).2.2.2.2.2.2.1,(openGood QV LO).2.2.2.2.2.2.2.2)):=by kernel_rfl
def uB(w:bg)(os:de):lk ag (λs=>(xW ag (w.withFollow "special-get-raises" false) s,p1 (p2 (bA QV LO (bz ag.main.body) XT true s)))) 14000 (w.withFollow "special-get-raises" false) os=O ((true,(openGood QV LO).2.1)):=by kernel_rfl
def gE(w:bg)(os:de):go ag 14000 (w.withFollow "special-get-raises" true) os=go ag 14000 (w.withFollow "special-get-raises" false) os:=by kernel_rfl
def BV{A a C c E F b H I:Type}(x y:A×a×C×c×E×F×b×H×I)(o:p1 x=y.1)(n:p1 (p2 x)=y.2.1)(l:p1 (p2 (p2 x))=y.2.2.1)(j:p1 (p2 (p2 (p2 x)))=y.2.2.2.1)(i:p1 (p2 (p2 (p2 (p2 x))))=y.2.2.2.2.1)(h:p1 (p2 (p2 (p2 (p2 (p2 x)))))=y.2.2.2.2.2.1)(g:p1 (p2 (p2 (p2 (p2 (p2 (p2 x))))))=y.2.2.2.2.2.2.1)(f:p1 (p2 (p2 (p2 (p2 (p2 (p2 (p2 x)))))))=y.2.2.2.2.2.2.2.1)(d:p2 (p2 (p2 (p2 (p2 (p2 (p2 (p2 x)))))))=y.2.2.2.2.2.2.2.2):x=y:=iQ o (iQ n (iQ l (iQ j (iQ i (iQ h (iQ g (iQ f d)))))))
section
variable {p:a9}{n:Nat}{w:bg}{os:de}{α β:Type}
def OJ{F:ao->α}{c:ao->β}{x:α}{y:β}(a:lk p F n w os=O x)(b:lk p c n w os=O y):lk p (λs=>(F s,c s)) n w os=O (x,y):=by
 unfold lk at a b ⊢;cases d:go p n w os with
|none=>rw[d]at a;cases a
|some r=>rw[d]at a b;exact zM O (congr (zM Prod.mk (aJ a)) (aJ b))
def WZ{F:ao->α}{b:ao->β}{x:α}{y:β}(h:lk p (λs=>(F s,b s)) n w os=O (x,y)):lk p F n w os=O x:=by
 unfold lk at h ⊢;cases a:go p n w os with
|none=>rw[a]at h;cases h
|some r=>rw[a]at h;exact zM O (Prod.mk.inj (aJ h)).1
def RC{F:ao->α}{a:ao->β}{x:α}{y:β}(h:lk p (λs=>(F s,a s)) n w os=O (x,y)):lk p a n w os=O y:=by
 unfold lk at h ⊢;cases b:go p n w os with
|none=>rw[b]at h;cases h
|some r=>rw[b]at h;exact zM O (Prod.mk.inj (aJ h)).2
def OK{A b C d E F c H I:Type}{X:ao->A×b×C×d×E×F×c×H×I}{y:A×b×C×d×E×F×c×H×I}(a:lk p (λs=>p1 (X s)) n w os=O y.1)(t:lk p (λs=>p1 (p2 (X s))) n w os=O y.2.1)(q:lk p (λs=>p1 (p2 (p2 (X s)))) n w os=O y.2.2.1)(o:lk p (λs=>p1 (p2 (p2 (p2 (X s))))) n w os=O y.2.2.2.1)(l:lk p (λs=>p1 (p2 (p2 (p2 (p2 (X s)))))) n w os=O y.2.2.2.2.1)(j:lk p (λs=>p1 (p2 (p2 (p2 (p2 (p2 (X s))))))) n w os=O y.2.2.2.2.2.1)(i:lk p (λs=>p1 (p2 (p2 (p2 (p2 (p2 (p2 (X s)))))))) n w os=O y.2.2.2.2.2.2.1)(h:lk p (λs=>p1 (p2 (p2 (p2 (p2 (p2 (p2 (p2 (X s))))))))) n w os=O y.2.2.2.2.2.2.2.1)(g:lk p (λs=>p2 (p2 (p2 (p2 (p2 (p2 (p2 (p2 (X s))))))))) n w os=O y.2.2.2.2.2.2.2.2):lk p X n w os=O y:=by
 unfold lk at *;cases f:go p n w os with
|none=>rw[f]at a;cases a
|some r=>rw[f]at a t q o l j i h g;exact zM O (BV _ _ (aJ a) (aJ t) (aJ q) (aJ o) (aJ l) (aJ j) (aJ i) (aJ h) (aJ g))
end
def lg(w:bg)(os:de):lk ag (λs=>bA QV LO (bz ag.main.body) XT true s) 14000 (w.withFollow "special-get-raises" false) os=O (openGood QV LO):=OK (u0 w os) (RC (uB w os)) (u2 w os) (u3 w os) (WZ (uA w os)) (u5 w os) (WZ (RC (uA w os))) (u7 w os) (RC (RC (uA w os)))
def lf(w:bg)(os:de):wK ag QV LO XT 14000 (w.withFollow "special-get-raises" false) os=O (true,openGood QV LO):=OJ (WZ (uB w os)) (lg w os)
def ZaE{p:a9}{n:Nat}{w a:bg}{os:de}{b:Type}{F:ao->b}(h:go p n w os=go p n a os):lk p F n w os=lk p F n a os:=by unfold lk;rw[h]
def ψ{a:Type}(F:ao->a)(w:bg)(os:de):lk ag F 14000 (w.withFollow "special-get-raises" true) os=lk ag F 14000 (w.withFollow "special-get-raises" false) os:=ZaE (gE w os)
theorem T_(w:bg):xW ag (w.withFollow "special-get-raises" true)=xW ag (w.withFollow "special-get-raises" false):=rfl
def lt(w:bg)(os:de):wK ag QV LO XT 14000 (w.withFollow "special-get-raises" true) os=O (true,openGood QV LO):=by have h:=lf w os;unfold wK at h ⊢;rw[ψ,T_];exact h
def ZaF{b:Type}{d:ao->b}{a:bg->b}(h:opening ag=plainProg ag.main.scope.names)(g:∀s:ao,fenceModules? ag s=O s)(c:∀(w:bg)(os:de),lk ag d 14000 (w.withFollow "special-get-raises" false) os=O (a (w.withFollow "special-get-raises" false)))(f:∀w:bg,a (w.withFollow "special-get-raises" true)=a (w.withFollow "special-get-raises" false)):LeftO ag QV LO XT d a 14000:=left "special-get-raises" h D g lf lt c λw os=>by rw[ψ,c w os,f w]
end RG
section
open PySem PySem.W PyProof.Rows
set_option hygiene false in
local macro_rules
|`(tactic| o_head $H)=>`(tactic| (have HH:=$H;exact z.elim))
set_option maxRecDepth 100000 in
set_option maxHeartbeats 0 in
def RG.ws:cu.wellSaid=true:=by kernel_rfl
set_option maxRecDepth 100000 in
set_option maxHeartbeats 0 in
def RG.hk(z:False):cu.Holds:=by w_on;refine PySem.W.holds_law RG.ws λa=>?_;k_head
end
namespace RG
open PySem PySem.W PyProof.Rows
noncomputable def ad(k:Nat):Nat->Nat->List G:=@Nat.rec (λ_=>Nat->Nat->List G) (λ_ _=>[]) (λ_ b n a=>(a+n % 16)::b (n / 16) (a+n % 16)) k
noncomputable def AS:List G:=ad 383 0x12121121211311311212113113112121121211311311212112121121211311311212112121121211311212112121131121211212112121121211311212113112121131121211311111111311111121211212112121121211212112121121211212113112121121211212112121121211212112121121211212112121121211212112121121211212112128121211212112121121211212112121121211212112121111212112121121211311212112123111121273111121273111711212c12 0
def eK(P:Params):AS=(RG.hk.heap_1 P).map (·.1):=by kernel_rfl
def kfE(w:bg)(os:de):lk ag (λs=>AS.map s.heap.get?) 14000 (w.withFollow "special-get-raises" false) os=O ((RG.hk.heap_1 (w.withFollow "special-get-raises" false).params).map λp=>O p.2):=by kernel_rfl
end RG
set_option autoImplicit true
set_option relaxedAutoImplicit true
namespace L2
open PySem PySem.Spec PyProof.Rows
abbrev Key:=Sum Int U
noncomputable def QM:Key->Z->Bool
|.inl k,v=>Value.isInt k v
|.inr x,v=>Value.isStrOf x v
noncomputable def G'(w:bg):Key->Int
|.inl k=>hashInt k
|.inr x=>hashStr w x
def YF:∀{k:Key}{v:Z},QM k v=true->(∃i t,k=k_ i/\v=j7 i t)\/(∃x t,k=gM x/\v=iH x t)
|.inl i,v,h=>by obtain⟨t,e⟩:=Value.isInt_shape (k:=i) (v:=v) h;exact .inl ⟨i,t,Y,e⟩
|.inr x,v,h=>by obtain⟨t,e⟩:=Value.isStrOf_shape (x:=x) (v:=v) h;exact .inr ⟨x,t,Y,e⟩
def Dy(i:Int)(t:Tok):QM (.inl i) (.int i t)=true:=by simp[QM,Value.isInt]
def Dx(x:U)(t:Tok):QM (.inr x) (.str x t)=true:=by simp[QM,Value.isStrOf]
def C0(a b:Int):decide ((k_ a:Key)=k_ b)=(a==b):=by
 by_cases e:a=b
 .subst e;simp
 .have h:¬(k_ a:Key)=k_ b:=λq=>e (Sum.inl.inj q);rw[zK h];exact(beq_eq_false_iff_ne.mpr e).symm
def CV(a b:U):decide ((gM a:Key)=gM b)=decide (a=b):=by
 by_cases e:a=b
 .subst e;simp
 .have h:¬(gM a:Key)=gM b:=λq=>e (Sum.inr.inj q);rw[zK h,zK e]
def CZ(a:Int)(b:U):decide ((k_ a:Key)=gM b)=false:=zK (λq=>nomatch q)
def CY(a:U)(b:Int):decide ((gM a:Key)=k_ b)=false:=zK (λq=>nomatch q)
noncomputable def Z1(d:a9)(w:bg):PySem.KeyKind d w Key where
 is:=QM
 hash:=G' w
 inj:=λv a b n g=>by
  rcases YF n with⟨i,t,rfl,rfl⟩|⟨x,t,rfl,rfl⟩
  .rcases YF g with⟨j,u,rfl,e⟩|⟨y,u,rfl,e⟩
   .injection e with c _;rw[c]
   .exact nomatch e
  .rcases YF g with⟨j,u,rfl,e⟩|⟨y,u,rfl,e⟩
   .exact nomatch e
   .injection e with c _;rw[c]
 byValue:=λk v h=>by rcases YF h with⟨i,t,rfl,rfl⟩|⟨x,t,rfl,rfl⟩<;>rfl
 pyHash:=λf h=>by
  rcases YF f with⟨i,t,rfl,rfl⟩|⟨x,t,rfl,rfl⟩
  .exact wpAny_pyHash_int h
  .exact wpAny_pyHash_str h
 eqBool:=λl f h=>by
  rcases YF l with⟨i,t,rfl,rfl⟩|⟨x,t,rfl,rfl⟩
  .rcases YF f with⟨j,u,rfl,rfl⟩|⟨y,u,rfl,rfl⟩
   .rw[C0]at h;exact wpAny_eqBool_int h
   .rw[CZ]at h;exact SeqAt.EqAt.int_str i t y u _ _ _ _ h
  .rcases YF f with⟨j,u,rfl,rfl⟩|⟨y,u,rfl,rfl⟩
   .rw[CY]at h;exact SeqAt.EqAt.str_int x t j u _ _ _ _ h
   .rw[CV]at h;exact wpAny_eqBool_str h
 «strs»:=λk x t v h=>by
  rcases YF h with⟨i,u,rfl,e⟩|⟨y,u,rfl,e⟩
  .exact nomatch e
  .injection e with c _
   subst c
   cases v<;>rfl
def Ti(a:a9)(w:bg)(i:Int)(t:Tok):(Z1 a w).is (.inl i) (.int i t)=true:=Dy i t
def Tg(a:a9)(w:bg)(x:U)(t:Tok):(Z1 a w).is (.inr x) (.str x t)=true:=Dx x t
open PySem PySem.Spec PyProof.Rows
set_option genInjectivity true in
inductive V where
|non|bl (b:Bool)|int (i:Int)|str (x:U)|sN (b:Array UInt8)|xA (b:UInt64)|ref (a:G)|ty (n:String)
 deriving DecidableEq
def RelV:V->Z->Prop
|.non,u=>u=b9
|.bl b,u=>u=kE b
|.int i,u=>∃t,u=j7 i t
|.str x,u=>∃t,u=iH x t
|.sN b,u=>∃t,u=Value.bytes b t
|.xA b,u=>∃t,u=Value.float b t
|.ref a,u=>u=aN a
|.ty n,u=>u=fT n
abbrev Zt:List V->List Z->Prop:=bX RelV
theorem Zt.length{a:List V}{b:List Z}(r:Zt a b):a.length=b.length:=gv r
theorem Zt.get:∀{a:List V}{b:List Z}{i:Nat}{x:V},Zt a b->a[i]?=O x->∃u,b[i]?=O u/\RelV x u
|_,_,_,_,.nil,e=>by simp at e
|_,_,0,_,.cons r _,e=>by simp at e;subst e;exact⟨_,Y,r⟩
|_,_,i+1,x,.cons _ t,e=>by obtain⟨u,d,c⟩:=Zt.get (i:=i) (x:=x) t (by simpa using e);exact⟨u,by simpa using d,c⟩
theorem Zt.set  (r:RelV x u):∀{a:List V}{b:List Z}(i:Nat),Zt a b->Zt (a.set i x) (b.set i u)
|_,_,_,.nil=>.nil
|_,_,0,.cons _ t=>.cons r t
|_,_,i+1,.cons q t=>.cons q (Zt.set r i t)
def Zt.append{b a:List V}{c ws:List Z}(r:Zt b c)(s:Zt a ws):Zt (b++a) (c++ws):=by
 induction r with
|nil=>exact s
|cons r _ d=>exact .cons r d
theorem Zt.take:∀{a:List V}{b:List Z}(n:Nat),Zt a b->Zt (a.take n) (b.take n)
|_,_,0,_=>.nil
|_,_,_+1,.nil=>.nil
|_,_,n+1,.cons r t=>.cons r (Zt.take n t)
theorem Zt.drop:∀{a:List V}{b:List Z}(n:Nat),Zt a b->Zt (a.drop n) (b.drop n)
|_,_,0,r=>r
|_,_,_+1,.nil=>.nil
|_,_,n+1,.cons _ t=>Zt.drop n t
def nW:Option V->Option Z->Prop
|some v,O u=>RelV v u
|none,B=>True
|_,_=>False
def KV{a:Type}:List (a×V)->List (a×Z)->Prop:=bX λ(p:a×V)(q:a×Z)=>p.1=q.1/\RelV p.2 q.2
noncomputable def kV:Key->V
|.inl i=>.int i
|.inr x=>.str x
inductive HO where
|lst (xs:List V)
|tup (xs:List V)
|dK (n9:List (Key×V))|dT (n9:List (List Key×V))
|set (zu:Int->Bool) (n:Nat)
|ins (C dx:G) (fs:List (U×V))
|own (x:G)
|xd (fs:List (U×V))
|met (f x:G)
|yO (lo hi:Int)
|ti (o:eN) (u:HO)
|wF (ps:Array Z)
|ext (φ:bC->Prop)
abbrev Hp:=G->Option HO
noncomputable def upd(H:Hp)(a:G)(o:HO):Hp:=λb=>if b=a then O o else H b
def Zc   :upd H a o a=O o:=by unfold upd;rw[zH Y]
def Zk {a b:G}(h:b≠a):upd H a o b=H b:=by unfold upd;rw[zG h]
def nh{H:Hp}{o u:HO}(h:H a=O o)(c:H b=O u)(d:o≠u):a≠b:=by intro e;subst e;rw[h]at c;exact d (aJ c)
def Zp{H:Hp}{o:HO}(h:H a=O o)(c:H b=B):a≠b:=by intro e;subst e;rw[h]at c;cases c
section
variable (P:a9)(w:bg)
def ZY(H:Hp)(h:bC)(a:G):HO->Prop
|.lst d=>d.length<=sizeLine/\∃(c:List Z)(n:Nat),Zt d c/\h.get? a=O {cls:=.type "list",data:=.seq c.toArray n}
|.tup d=>d.length<=sizeLine/\∃c:List Z,Zt d c/\IsTup h a c.toArray
|.dK b=>b.length<=sizeLine/\(a==fK)=false/\∃l,KV b l/\h.DictOf (Z1 P w) a l
|.dT b=>b.length<=sizeLine/\(a==fK)=false/\∃d:List (List Key×G×Z),bX (λ(p:List Key×V)(q:List Key×G×Z)=>p.1=q.1/\H q.2.1=O (.tup (p.1.map kV))/\RelV p.2 q.2.2) b d /\∃o y F,h.get? a=O o/\o.ExactDict/\o.data=.dict y F/\y.toList=d.map (entryOfKey (kY (Z1 P w)))/\(d.map (·.1)).Nodup
|.set z n=>h.SetOf (intKind P w) a z n
|.ins C i fs=>H i=O (.own a)/\fs.length<=1000/\i≠a/\h.get? a=O (fE C i) /\∃g,h.Ns1 i g/\(∀f,nW (fs.lookup f) (g f))/\gQ g (fs.map (·.1))
|.own _=>∃o,h.get? a=O o
|.xd fs=>∃g,h.Ns1 a g/\∀f,nW (fs.lookup f) (g f)
|.yO lo E=>∃t u v,h.get? a=O {cls:=.type "range",data:=.fields #[.int lo t,.int E u,.int 1 v]}
|.ti o u=>h.get? a=O o/\ZY H h a u
|.wF A=>h.get? a=O {cls:=.none,data:=.fields A}
|.met f x=>h.get? a=O (kK (.ref f) (.ref x))
|.ext j=>j h/\(∃o,h.get? a=O o)/\∀s r:bC,j s->(∀o,s.get? a=O o->r.get? a=O o)->j r
def ox(H:Hp)(h:bC):Prop:=∀a o,H a=O o->ZY P w H h a o
end
section
variable {P:a9}{w:bg}{H H':Hp}{h h':bC}{a:G}{o:HO}
theorem ZY.lt(x:ZY P w H h a o):a<h.objs.size:=by
 cases o with
|lst c=>obtain⟨_,_,_,_,e⟩:=x;exact aK e
|tup c=>obtain⟨_,_,_,p⟩:=x;exact p.lt
|dK b=>obtain⟨_,_,_,_,o,_,_,e,_⟩:=x;exact aK e
|dT b=>obtain⟨_,_,_,_,o,_,_,e,_⟩:=x;exact aK e
|set g n=>obtain⟨o,_,_,_,e,_⟩:=x;exact aK e
|ins C q fs=>obtain⟨_,_,_,e,_⟩:=x;exact aK e
|own y=>obtain⟨_,e⟩:=x;exact aK e
|xd fs=>obtain⟨_,⟨_,_,_,e,_⟩,_⟩:=x;exact aK e
|yO lo l=>obtain⟨_,_,_,e⟩:=x;exact aK e
|ti j u=>obtain⟨e,_⟩:=x;exact aK e
|wF i=>exact aK (show h.get? a=O _ from x)
|met f y=>exact aK (show h.get? a=O _ from x)
|ext d=>obtain⟨_,⟨_,e⟩,_⟩:=x;exact aK e
def Paired.nQ{i g:Type}{F j:i->g->Prop}{d:List i}{c:List g}(h:bX F d c)(f:∀a b,F a b->j a b):bX j d c:=by
 induction h with
|nil=>exact .nil
|cons r _ l=>exact .cons (f _ _ r) l
def ZY.o_(x:ZY P w H h a o)(k:∀b u,(b=a\/H b=O (.own a))->h.get? b=O u->h'.get? b=O u)(Q:∀b,H b=O (.own a)->H' b=O (.own a))(N:∀b s,H b=O (.tup s)->H' b=O (.tup s)):ZY P w H' h' a o:=by
 induction o with
|lst s=>obtain⟨z,l,n,r,e⟩:=x;exact⟨z,l,n,r,k _ _ (.inl Y) e⟩
|tup s=>obtain⟨z,l,r,g,e,c⟩:=x;exact⟨z,l,r,g,k _ _ (.inl Y) e,c⟩
|dK F=>obtain⟨z,y,L,r,g,i,j,e,c⟩:=x;exact⟨z,y,L,r,g,i,j,k _ _ (.inl Y) e,c⟩
|dT F=>obtain⟨z,y,s,r,g,i,j,e,c⟩:=x;exact⟨z,y,s,Paired.nQ r λp q z=>⟨z.1,N _ _ z.2.1,z.2.2⟩,g,i,j,k _ _ (.inl Y) e,c⟩
|set X n=>obtain⟨g,i,j,t,e,c⟩:=x;exact⟨g,i,j,t,k _ _ (.inl Y) e,c⟩
|ins C dx fs=>obtain⟨d,z,ne,e,E,⟨A,i,j,T,c⟩,r⟩:=x;exact⟨Q _ d,z,ne,k _ _ (.inl Y) e,E,⟨A,i,j,k _ _ (.inr d) T,c⟩,r⟩
|own y=>obtain⟨g,e⟩:=x;exact⟨g,k _ _ (.inl Y) e⟩
|xd fs=>obtain⟨E,⟨A,i,j,e,c⟩,r⟩:=x;exact⟨E,⟨A,i,j,k _ _ (.inl Y) e,c⟩,r⟩
|yO lo hi=>obtain⟨t,u,v,e⟩:=x;exact⟨t,u,v,k _ _ (.inl Y) e⟩
|ti g u M=>obtain⟨e,q⟩:=x;exact⟨k _ _ (.inl Y) e,M q⟩
|wF I=>have e:h.get? a=O {cls:=.none,data:=.fields I}:=x;show h'.get? a=O {cls:=.none,data:=.fields I};exact k a _ (.inl Y) e
|met f y=>have e:h.get? a=O (kK (.ref f) (.ref y)):=x;show h'.get? a=O (kK (.ref f) (.ref y));exact k a _ (.inl Y) e
|ext W=>obtain⟨p,⟨o,e⟩,st⟩:=x;exact⟨st _ _ p λo q=>k _ _ (.inl Y) q,⟨o,k _ _ (.inl Y) e⟩,st⟩
theorem ox.lt(x:ox P w H h)(e:H a=O o):a<h.objs.size:=(x a o e).lt
def ox.fresh(x:ox P w H h)(e:h.objs.size<=a):H a=B:=by
 cases q:H a with
|none=>rfl
|some u=>exact zI (aX (x.lt q) e) (dB _)
def ox.kept(x:ox P w H h)(k:∀b u,h.get? b=O u->h'.get? b=O u):ox P w H h':=λa o e=>(x a o e).o_ (λb u _ q=>k b u q) (λ_ q=>q) λ_ _ q=>q
def ox.laid(x:ox P w H h)(k:∀b u,h.get? b=O u->h'.get? b=O u)(g:h.objs.size<=a)(new:ZY P w (upd H a o) h' a o):ox P w (upd H a o) h':=λb u e=>by
 have d:=x.fresh g;by_cases f:b=a
 .subst f;rw[Zc]at e;cases e;exact new
 .rw[Zk f]at e;exact(x b u e).o_ (λc v _ q=>k c v q) (λc q=>by rw[Zk (Zp q d)];exact q) λc i q=>by rw[Zk (Zp q d)];exact q
end
def Rd(H:Hp)(a:G)(u:HO):Prop:=H a=O u\/∃o,H a=O (.ti o u)
def Rd.ok      (r:Rd H a u)(x:ox P w H h):ZY P w H h a u:=by
 rcases r with r|⟨o,r⟩
 .exact x a u r
 .obtain⟨_,q⟩:=x a _ r;exact q
def yF:Option HO->Prop
|some (.lst _)=>True
|some (.dK _)=>True
|some (.dT _)=>True
|some (.set _ _)=>True
|some (.ins _ _ _)=>True
|some (.ext _)=>True
|_=>False
section
variable {P:a9}{w:bg}{H:Hp}{h h':bC}{x e:G}{o':HO}
def ox.write(ok:ox P w H h)(i:yF (H x))(o:e=x\/H e=O (.own x))(k:∀b u,b≠e->h.get? b=O u->h'.get? b=O u)(l:∃u,h'.get? e=O u)(new:ZY P w (upd H x o') h' x o'):ox P w (upd H x o') h':=λb u q=>by
 have d:∀c y,H c=O (.own y)->c≠x:=λc y r z=>by subst z;rw[r]at i;exact i
 have f:∀c g,H c=O (.tup g)->c≠x:=λc g r z=>by subst z;rw[r]at i;exact i
 by_cases j:b=x
 .subst j;rw[Zc]at q;cases q;exact new
 .rw[Zk j]at q;by_cases a:b=e
  .have n:H b=O (.own x):=by
    rcases o with z|z
    .exact zI (a.trans z) j
    .rw[a];exact z
   rw[q]at n;cases n;obtain⟨v,p⟩:=l;exact⟨v,by rw[a];exact p⟩
  .refine(ok b u q).o_ (λc v hc r=>k c v ?_ r) (λc r=>by rw[Zk (d c b r)];exact r) λc g r=>by rw[Zk (f c g r)];exact r
   rcases hc with rfl|hc
   .exact a
   .rintro rfl;rcases o with z|z
    .exact d c b hc z
    .rw[hc]at z;cases z;exact j Y
end
structure Un(fs ex:List G)(H H':Hp)(h h':bC):Prop where
 keep:∀b o,h.get? b=O o->H b=B->b∉fs->b∉ex->h'.get? b=O o
 slot:∀b o,h.get? b=O o->H b=B->b∈fs->b∉ex->∃sl,h'.get? b=O {o with slots:=sl}
 free:∀b o,h.get? b=O o->H b=B->b∉ex->H' b=B
 there:∀b o,h.get? b=O o->b∉ex->∃o',h'.get? b=O o'
 p8:∀b xs,H b=O (.tup xs)->H' b=O (.tup xs)
 pQ:∀b o u,H b=O (.ti o u)->H' b=O (.ti o u)
 p9:∀b ps,H b=O (.wF ps)->∃more,H' b=O (.wF (ps++more))
section
variable {fs fs' ex ex':List G}{H H1 H2:Hp}{h h1 h2 h':bC}{a x e:G}{o:HO}
def Un.any(u:Un fs ex H H1 h h1){b:G}{c:eN}(q:h.get? b=O c)(n:H b=B)(d:b∉ex):∃g,h1.get? b=O {c with slots:=g}:=by
 by_cases f:b∈fs
 .exact u.slot b c q n f d
 .exact⟨c.slots,u.keep b c q n f d⟩
def Un.kept(k:∀b u,h.get? b=O u->h'.get? b=O u):Un fs ex H H h h':=⟨λb c q _ _ _=>k b c q,λb c q _ _ _=>⟨c.slots,k b c q⟩,λ_ _ _ n _=>n,λb c q _=>⟨c,k b c q⟩,λ_ _ q=>q,λ_ _ _ q=>q,λ_ d q=>⟨#[],by rw[q];simp⟩⟩
def Un.refl:Un fs ex H H h h:=Un.kept λ_ _ q=>q
def Un.laid(k:∀b u,h.get? b=O u->h'.get? b=O u)(f:h.objs.size<=a)(c:H a=B):Un fs ex H (upd H a o) h h' where
 keep:=λb u q _ _ _=>k b u q
 slot:=λb u q _ _ _=>⟨u.slots,k b u q⟩
 free:=λb u q n _=>by rw[Zk (bc (aX (aK q) f))];exact n
 there:=λb u q _=>⟨u,k b u q⟩
 p8:=λb d q=>by rw[Zk (Zp q c)];exact q
 pQ:=λb u d q=>by rw[Zk (Zp q c)];exact q
 p9:=λb g q=>⟨#[],by rw[Zk (Zp q c),q];simp⟩
def Un.write(d:yF (H x))(s:e=x\/H e=O (.own x))(k:∀b u,b≠e->h.get? b=O u->h'.get? b=O u)(g:∃u,h'.get? e=O u):Un fs ex H (upd H x o) h h':=by
 have i:∀b,H b=B->b≠x:=λb n z=>by subst z;rw[n]at d;exact d
 have j:∀b,H b=B->b≠e:=λb n z=>by
  subst z;rcases s with r|r
  .exact i b n r
  .rw[n]at r;cases r
 have f:∀b u,H b=O u->¬yF (O u)->b≠x:=λb u q p z=>by subst z;rw[q]at d;exact p d
 refine⟨λb u q n _ _=>k b u (j b n) q,λb u q n _ _=>⟨u.slots,k b u (j b n) q⟩,λb u q n _=>by rw[Zk (i b n)];exact n,λb u q _=>?_,
  λb l q=>by rw[Zk (f b _ q λz=>z)];exact q,λb u l q=>by rw[Zk (f b _ q λz=>z)];exact q,λb t q=>⟨#[],by rw[Zk (f b _ q λz=>z),q];simp⟩⟩;by_cases c:b=e
 .subst c;exact g
 .exact⟨u,k b u c q⟩
end
noncomputable def uR(h:bC)(H:Hp):List G:=(bB h.objs.size).filter λa=>(H a).isSome
noncomputable def rB(h:bC)(H:Hp):bC:=gj h (uR h H)
def DB(h:bC)(H:Hp):(rB h H).objs.size=h.objs.size:=PySem.W.hideAll_size _ _
def Hw{h:bC}{H:Hp}{o:eN}(e:h.get? b=O o)(n:H b=B):(rB h H).get? b=O o:=j5 _ e λa=>by have q:(H b).isSome=true:=(eV.mp a).2;rw[n]at q;simp at q
def OB   {o:eN}(e:(rB h H).get? b=O o):h.get? b=O o/\H b=B:=by
 have a:h.get? b=O o:=kh (uR h H) e;refine⟨a,?_⟩;cases q:H b with
|none=>rfl
|some x=>have c:b∈uR h H:=eV.mpr ⟨bW.mpr (aK a),by simp[q]⟩;have z:(rB h H).get? b=B:=fF (uR h H) c;rw[z]at e;cases e
open PySem PySem.Spec PyProof.Rows
structure Mod(K:af)(J:U->Option Z)(S:bC):Prop where
 v8:K.In S
 glob:S.Ns bI J
 blt:∃mb,S.Ns builtinsNs mb/\∀x:U,x≠"__name__"->mb x=dj x
 nolimit:S.NoLimit
structure Cx where
 prog:a9
 w:bg
 K:af
 mg:U->Option Z
 base:bC
 A:bU
 N:List U
 nv:ao
 sH:Hp
 env:jI
 outer:List jI
 stack:List jI
 ex:List G
 fn:U->Bool
 calm:Bool
 pn:List (G×eN)
 xe:Z->ao->Prop
noncomputable def m6(l:List jI):List G:=l.filterMap (·.frame)
noncomputable abbrev Cx.fs(X:Cx):List G:=m6 X.outer
def yC(a:dh)(x:U):Prop:=a.names.lookup x=O .local\/a.names.lookup x=O .cell\/a.names.lookup x=O .free
def Loc(a:dh)(x:U):Prop:=a.names.lookup x=O .local\/a.names.lookup x=O .cell
def Look(a:jI)(h:bC)(m:U->Option Z)(x:U)(u:Z):Prop:=(a.kindOf x=O .local/\m x=O u)\/((a.kindOf x=O .cell\/a.kindOf x=O .free)/\∃c,a.cells.lookup x=O c/\h.IsCell c (O u))
structure Cx.Ok(X:Cx):Prop where
 mod:Mod X.K X.mg X.base
 kind:X.env.scope.kind=.function
 glob:X.env.globals=bI
 blt:X.env.builtins=builtinsNs
 above:X.nv.heap.objs.size<=X.env.locals
 inj:∀x y c,X.env.cells.lookup x=O c->X.env.cells.lookup y=O c->x=y
 has:∀x,(X.env.kindOf x=O .cell\/X.env.kindOf x=O .free)->∃c,X.env.cells.lookup x=O c
 wM:∀x c,X.fn x=true->X.env.cells.lookup x=O c->X.nv.heap.objs.size<=c
 hd:X.calm=true->X.A.handled=B
 frames:X.A.frames=O X.stack
 wX:X.stack=X.outer\/(X.stack=X.env::X.outer/\X.env.frame=O X.env.locals)
 xD:∀b∈X.ex,b≠X.env.locals/\∀x c,X.env.cells.lookup x=O c->c≠b
 bs:∀b o,X.base.get? b=O o->X.nv.heap.get? b=O o/\X.sH b=B
 uu:X.base.objs.size<=X.nv.heap.objs.size
 r_:∀b o,X.base.get? b=O o->b∉X.ex
 so:∀b∈X.ex,b∉X.fs
 oB:X.nv.heap.FunFrames X.base X.outer
 uV:∀b∈X.fs,X.sH b=B
structure Inv(X:Cx)(pins:List (G×eN))(σ:List (Option V))(H:Hp)(s:ao):Prop where
 ok:X.Ok
 os:s.os=X.nv.os
 bare:jc s.gens
 base:Un X.fs X.ex X.sH H X.nv.heap s.heap
 loc:∃m,s.heap.Ns X.env.locals m/\∀(i:Nat)(x:U)(v:V),X.N[i]?=O x->σ[i]?=O (O v)->yC X.env.scope x->∃u,RelV v u/\Look X.env s.heap m x u
 cell:∀x c,X.env.cells.lookup x=O c->∃v,s.heap.IsCell c v
 free:H X.env.locals=B
 mV:∀x c,X.env.cells.lookup x=O c->H c=B
 pin:∀p∈X.pn++pins,s.heap.get? p.1=O p.2/\H p.1=B/\p.1≠X.env.locals/\p.1∉X.fs/\∀v,p.2.data≠.cell v
 lI:ox X.prog X.w H s.heap
 len:σ.length=X.N.length
section
variable {X:Cx}{pins:List (G×eN)}{σ:List (Option V)}{H H':Hp}{s:ao}{h':bC}
def Cx.Ok.A_(ok:X.Ok){o:eN}(e:X.base.get? b=O o):b∉X.fs:=λa=>by have:=(ok.oB.mem a).1;rw[e]at this;cases this
theorem Inv.bs(I:Inv X pins σ H s):∀b o,X.base.get? b=O o->s.heap.get? b=O o/\H b=B:=λb o e=>⟨I.base.keep b o (I.ok.bs b o e).1 (I.ok.bs b o e).2 (I.ok.A_ e) (I.ok.r_ b o e),I.base.free b o (I.ok.bs b o e).1 (I.ok.bs b o e).2 (I.ok.r_ b o e)⟩
def Inv.bk(I:Inv X pins σ H s):∀b o,X.base.get? b=O o->s.heap.get? b=O o:=λb o e=>(I.bs b o e).1
theorem Inv.mod(I:Inv X pins σ H s):Mod X.K X.mg X.base:=I.ok.mod
def Inv.nE(I:Inv X pins σ H s):X.K.In s.heap:=I.ok.mod.v8.keeps I.bk
theorem Inv.lt(I:Inv X pins σ H s):X.env.locals<s.heap.objs.size:=let ⟨_,a,_⟩:=I.loc;a.lt
def Inv.sz(I:Inv X pins σ H s):X.nv.heap.objs.size<=s.heap.objs.size:=aj I.ok.above (eQ I.lt)
def Inv.xk(I:Inv X pins σ H s){a:G}(h:s.heap.objs.size<=a):a∉X.fs:=λc=>by obtain⟨_,o,b,_⟩:=I.ok.oB.mem c;exact zI (aX (aK b) (aj I.sz h)) (dB _)
def Inv.vt(I:Inv X pins σ H s):∀x c,X.env.cells.lookup x=O c->c≠X.env.locals:=λx c e z=>by obtain⟨v,o,d,f⟩:=I.cell x c e;obtain⟨m,⟨g,h,i,a,b,_⟩,_⟩:=I.loc;rw[z,a]at d;cases d;rw[b]at f;cases f
theorem Inv.oB(I:Inv X pins σ H s):s.heap.FunFrames X.base X.outer:=by
 have all:∀(l:List jI),(∀b∈m6 l,b∈X.fs)->X.nv.heap.FunFrames X.base l->s.heap.FunFrames X.base l:=by
  intro l;induction l with
 |nil=>intro _ _;trivial
 |cons p r f=>intro hs j;obtain⟨hk,⟨L,o,a,i,h,n⟩,g⟩:=j;have d:L∈X.fs:=hs L (by unfold m6;rw[fg,a];exact ax);obtain⟨q,e⟩:=I.base.slot L o h (I.ok.uV L d) d λz=>I.ok.so L z d;exact⟨hk,⟨L,_,a,i,e,n⟩,f (λb c=>hs b (by unfold m6;rw[fg,a];exact au _ c)) g⟩
 exact all X.outer (λ_ c=>c) I.ok.oB
theorem Inv.stack(I:Inv X pins σ H s):s.heap.FunFrames X.base X.stack:=by
 rcases I.ok.wX with e|⟨e,b⟩
 .rw[e];exact I.oB
 .rw[e];obtain⟨m,a,_⟩:=I.loc;refine .cons (by rw[I.ok.kind];decide) b a ?_ I.oB;exact iU (aj I.ok.uu I.ok.above)
def Inv.pO(I:Inv X pins σ H s):∀b∈m6 X.stack,b∈X.env.locals::X.fs:=λb a=>by
 rcases I.ok.wX with e|⟨e,c⟩
 .rw[e]at a;exact au _ a
 .rw[e]at a;unfold m6 at a;rw[fg,c]at a;exact a
def Inv.nI(I:Inv X pins σ H s):∀b∈m6 X.stack,H b=B:=λb hb=>by
 rcases ay.mp (I.pO b hb)with e|hb
 .rw[e];exact I.free
 .obtain⟨_,o,a,_⟩:=I.ok.oB.mem hb;exact I.base.free b o a (I.ok.uV b hb) λz=>I.ok.so b z hb
def Inv.step{g':Array GenState}{t':Nat}{d':Drawn}{ch:List G}(I:Inv X pins σ H s)(g:∀b∈ch,(b∈X.ex\/X.nv.heap.objs.size<=b)/\b≠X.env.locals/\(∀x c,X.env.cells.lookup x=O c->c≠b)/\∀p∈X.pn++pins,p.1≠b)(keep:∀b o,b≠X.env.locals->b∉X.fs->b∉ch->s.heap.get? b=O o->H b=B->h'.get? b=O o)(A:∀b o,b≠X.env.locals->b∈X.fs->b∉ch->s.heap.get? b=O o->H b=B->∃sl,h'.get? b=O {o with slots:=sl})(free:∀b o,b∉ch->s.heap.get? b=O o->H b=B->H' b=B)(E:∀b o,b∉ch->s.heap.get? b=O o->∃L,h'.get? b=O L)(P:∀b y,H b=O (.tup y)->H' b=O (.tup y))(T:∀b o u,H b=O (.ti o u)->H' b=O (.ti o u))(Q:∀b W,H b=O (.wF W)->∃more,H' b=O (.wF (W++more)))(ns:∀m,s.heap.Ns X.env.locals m->h'.Ns X.env.locals m)(ab:ox X.prog X.w H' h')(hg:jc g'):Inv X pins σ H' {s with heap:=h',gens:=g',drawn:=d',toks:=t'}:=by
 have N:∀b o,X.nv.heap.get? b=O o->b≠X.env.locals:=λb o e=>bc (aX (aK e) I.ok.above);have t:∀b o,X.nv.heap.get? b=O o->b∉X.ex->b∉ch:=λb o e a C=>by
  rcases(g b C).1 with z|z
  .exact a z
  .exact zI (aX (aK e) z) (dB _)
 have h:∀x c,X.env.cells.lookup x=O c->∀v,s.heap.IsCell c v->h'.IsCell c v:=λx c e v⟨o,F,hd⟩=>by
  have f:c∉ch:=λz=>(g c z).2.2.1 x c e Y;by_cases hc:c∈X.fs
  .obtain⟨sl,q⟩:=A c o (I.vt x c e) hc f F (I.mV x c e);exact⟨_,q,hd⟩
  .exact⟨o,keep c o (I.vt x c e) hc f F (I.mV x c e),hd⟩
 refine⟨I.ok,I.os,hg,⟨λb o e n C a=>?_,λb o e n C a=>?_,λb o e n a=>?_,λb o e a=>?_,λb y e=>P b y (I.base.p8 b y e),λb o y e=>T b o y (I.base.pQ b o y e),λb W e=>?_⟩,?_,λx c e=>?_,?_,λx c e=>?_,λp hp=>?_,ab,I.len⟩
 .exact keep b o (N b o e) C (t b o e a) (I.base.keep b o e n C a) (I.base.free b o e n a)
 .obtain⟨sl,j⟩:=I.base.slot b o e n C a;obtain⟨aa,M⟩:=A b _ (N b o e) C (t b o e a) j (I.base.free b o e n a);exact⟨aa,M⟩
 .obtain⟨L,j⟩:=I.base.there b o e a;exact free b L (t b o e a) j (I.base.free b o e n a)
 .obtain⟨L,j⟩:=I.base.there b o e a;exact E b L (t b o e a) j
 .obtain⟨m1,j⟩:=I.base.p9 b W e;obtain⟨m2,M⟩:=Q b _ j;exact⟨m1++m2,by rw[M,Array.append_assoc]⟩
 .obtain⟨m,hn,hl⟩:=I.loc;refine⟨m,ns m hn,λi x v j M e3=>?_⟩;obtain⟨u,r,l⟩:=hl i x v j M e3;refine⟨u,r,?_⟩;rcases l with l|⟨k,c,e,z⟩
  .exact .inl l
  .exact .inr ⟨k,c,e,h x c e _ z⟩
 .obtain⟨v,z⟩:=I.cell x c e;exact⟨v,h x c e v z⟩
 .obtain⟨m,⟨o,_,_,F,_⟩,_⟩:=I.loc;exact free _ o (λz=>(g _ z).2.1 Y) F I.free
 .obtain⟨v,o,F,hd⟩:=I.cell x c e;exact free c o (λz=>(g c z).2.2.1 x c e Y) F (I.mV x c e)
 .obtain⟨e,n,ne,nf,d⟩:=I.pin p hp;have f:p.1∉ch:=λz=>(g p.1 z).2.2.2 p hp Y;exact⟨keep p.1 p.2 ne nf f e n,free p.1 p.2 f e n,ne,nf,d⟩
def Inv.un{t':Nat}(I:Inv X pins σ H s)(u:Un X.fs [] H H' s.heap h')(d:ox X.prog X.w H' h'):Inv X pins σ H' {s with heap:=h',toks:=t'}:=by
 obtain⟨m,⟨o,x,y,h,r⟩,_⟩:=id I.loc;obtain⟨p,l⟩:=u.any h I.free zE;exact I.step (g':=s.gens) (d':=s.drawn) (ch:=[]) (λ_ z=>nomatch z) (λb o _ c _ e n=>u.keep b o e n c zE) (λb o _ c _ e n=>u.slot b o e n c zE) (λb o _ e n=>u.free b o e n zE) (λb o _ e=>u.there b o e zE) u.p8 u.pQ u.p9 (λt j=>by obtain⟨q,f,g,a,i⟩:=j;rw[h]at a;cases a;exact⟨_,f,g,l,i⟩) d I.bare
def Inv.call{g':Array GenState}{t':Nat}{d':Drawn}{ch:List G}(I:Inv X pins σ H s)(u:Un (m6 X.stack) ch H H' s.heap h')(h:ox X.prog X.w H' h')(y:jc g')(f:∀b∈ch,(b∈X.ex\/X.nv.heap.objs.size<=b)/\b≠X.env.locals/\(∀x c,X.env.cells.lookup x=O c->c≠b)/\∀p∈X.pn++pins,p.1≠b):Inv X pins σ H' {s with heap:=h',gens:=g',drawn:=d',toks:=t'}:=by
 obtain⟨m,⟨o,L,M,l,r⟩,_⟩:=id I.loc;obtain⟨C,g⟩:=u.any l I.free λz=>(f _ z).2.1 Y;exact I.step (ch:=ch) f (λb o g A a e n=>u.keep b o e n (λz=>(ay.mp (I.pO b z)).elim g A) a) (λb o _ _ a e n=>u.any e n a) (λb o a e n=>u.free b o e n a) (λb o a e=>u.there b o e a) u.p8 u.pQ u.p9 (λF t=>by obtain⟨E,i,j,d,q⟩:=t;rw[l]at d;cases d;exact⟨_,i,j,g,q⟩) h y
def Inv.turned{t':Nat}{it:G}(I:Inv X pins σ H s)(k:∀b o,b≠it->s.heap.get? b=O o->h'.get? b=O o)(h:H it=B)(f:it≠X.env.locals)(w:it∈X.ex\/X.nv.heap.objs.size<=it)(t:∀x c,X.env.cells.lookup x=O c->c≠it)(l:∀p∈X.pn++pins,p.1≠it):Inv X pins σ H {s with heap:=h',toks:=t'}:=by
 have d:∀b u,H b=O u->b≠it:=λb u e z=>by rw[z,h]at e;cases e
 refine I.step (g':=s.gens) (d':=s.drawn) (ch:=[it]) (λb j=>?_) (λb o _ _ a e _=>k b o (λz=>a (by simp[z])) e) (λb o _ _ a e _=>⟨o.slots,k b o (λz=>a (by simp[z])) e⟩) (λ_ _ _ _ n=>n) (λb o a e=>⟨o,k b o (λz=>a (by simp[z])) e⟩) (λ_ _ e=>e) (λ_ _ _ e=>e) (λb C e=>⟨#[],by rw[e];simp⟩) (λm i=>?_) (λb u e=>?_) I.bare
 .have e:b=it:=by simpa using j
  subst e;exact⟨w,f,t,l⟩
 .obtain⟨o,y,A,g,r⟩:=i;exact⟨o,y,A,k _ o (dc f) g,r⟩
 .refine(I.lI b u e).o_ (λc v a q=>k c v ?_ q) (λ_ q=>q) λ_ _ q=>q;rcases a with z|z
  .rw[z];exact d b u e
  .exact d c _ z
def Inv.tok(I:Inv X pins σ H s)(t:Nat):Inv X pins σ H {s with toks:=t}:=I.un (h':=s.heap) (t':=t) Un.refl I.lI
theorem Inv.kept{t':Nat}(I:Inv X pins σ H s)(k:∀b u,s.heap.get? b=O u->h'.get? b=O u):Inv X pins σ H {s with heap:=h',toks:=t'}:=I.un (Un.kept k) (I.lI.kept k)
theorem Inv.laid{a:G}{t':Nat}(I:Inv X pins σ H s)(k:∀b u,s.heap.get? b=O u->h'.get? b=O u)(c:s.heap.objs.size<=a)(new:ZY X.prog X.w (upd H a o) h' a o):Inv X pins σ (upd H a o) {s with heap:=h',toks:=t'}:=I.un (Un.laid k c (I.lI.fresh c)) (I.lI.laid k c new)
theorem Inv.write{x e:G}{f:Nat}(I:Inv X pins σ H s)(c:yF (H x))(d:e=x\/H e=O (.own x))(k:∀b u,b≠e->s.heap.get? b=O u->h'.get? b=O u)(a:∃u,h'.get? e=O u)(new:ZY X.prog X.w (upd H x o) h' x o):Inv X pins σ (upd H x o) {s with heap:=h',toks:=f}:=I.un (Un.write c d k a) (I.lI.write c d k a new)
def Inv.qC{a:List (G×eN)}(I:Inv X pins σ H s)(h:∀p∈a,s.heap.get? p.1=O p.2/\H p.1=B/\p.1≠X.env.locals/\p.1∉X.fs/\∀v,p.2.data≠.cell v):Inv X a σ H s:=⟨I.ok,I.os,I.bare,I.base,I.loc,I.cell,I.free,I.mV,λp b=>(ba.mp b).elim (λz=>I.pin p (dv _ z)) (h p),I.lI,I.len⟩
def Gv{N:List U}(hN:N.Nodup){i j:Nat}{x:U}(a:N[i]?=O x)(b:N[j]?=O x):i=j:=by obtain⟨g,d⟩:=aU.mp a;obtain⟨f,c⟩:=aU.mp b;exact(lJ hN).mp (d.trans c.symm)
def QD   {i:Nat}{x:U} {Q:Unit->ao->Prop}(I:Inv X pins σ H s)(hN:X.N.Nodup)(W:X.N[i]?=O x)(l:Loc X.env.scope x)(r:RelV v u)(h:∀s',Inv X pins (σ.set i (O v)) H s'->(∃a,gk a s.heap s'.heap/\(a=X.env.locals\/X.env.cells.lookup x=O a))->Q () s')(hf:X.fn x=true\/X.env.scope.names.lookup x=O .local:=by first|exact .inl Y|exact .inr Y|assumption):aI M A (storeName X.env x u) Q E s:=by
 obtain⟨m,hn,hl⟩:=id I.loc;have ak:(X.env.scope.kind==.class||(X.env.scope.kind==.module&&X.env.locals != X.env.globals))=false:=by rw[I.ok.kind];rfl
 have F:i<σ.length:=by rw[I.len];exact(aU.mp W).1
 have vt:=I.vt;have g:∀{a:G}{h':bC},(∃o,s.heap.get? a=O o/\H a=B)->gk a s.heap h'->ox X.prog X.w H h':=λ{a h'}ha hs b ob e=>by
  obtain⟨_,_,t⟩:=ha;refine(I.lI b ob e).o_ (λc w' hc q=>(hs.2 c ?_).trans q) (λ_ q=>q) λ_ _ q=>q;rintro rfl;rcases hc with rfl|hc
  .rw[t]at e;cases e
  .rw[t]at hc;cases hc
 rcases l with hk|hk
 .refine wpAny_storeName_local hk hn (λh' az hs=>?_) ak;obtain⟨oL,_,_,ar,_⟩:=id hn;refine h _ ⟨I.ok,I.os,I.bare,⟨λb o e n P l=>?_,λb o e n P l=>?_,I.base.free,λb o e l=>?_,I.base.p8,I.base.pQ,I.base.p9⟩,⟨_,az,λj y v' f C e3=>?_⟩,λy c e=>?_,I.free,I.mV,λp hp=>?_,g ⟨oL,ar,I.free⟩ hs,by simpa using I.len⟩ ⟨_,hs,.inl Y⟩
  .exact(hs.2 b (bc (aX (aK e) I.ok.above))).trans (I.base.keep b o e n P l)
  .obtain⟨sl,f⟩:=I.base.slot b o e n P l;exact⟨sl,(hs.2 b (bc (aX (aK e) I.ok.above))).trans f⟩
  .obtain⟨o',f⟩:=I.base.there b o e l;exact⟨o',(hs.2 b (bc (aX (aK e) I.ok.above))).trans f⟩
  .by_cases L:j=i
   .subst L;rw[W]at f;cases f;rw[iA F]at C;cases C;exact⟨u,r,.inl ⟨hk,zE⟩⟩
   .rw[iS (dc L)]at C;obtain⟨u',r',q⟩:=hl j y v' f C e3;refine⟨u',r',?_⟩;rcases q with⟨k,e⟩|⟨k,c,e,z⟩
    .refine .inl ⟨k,?_⟩;have:y≠x:=λe=>L (Gv hN f (e▸W));simp[this,e]
    .exact .inr ⟨k,c,e,z.sameBut hs (vt y c e)⟩
  .obtain⟨w',z⟩:=I.cell y c e;exact⟨w',z.sameBut hs (vt y c e)⟩
  .obtain⟨e,n,ne,nf,d⟩:=I.pin p hp;exact⟨(hs.2 p.1 ne).trans e,n,ne,nf,d⟩
 .have T:X.fn x=true:=by
   rcases hf with z|z
   .exact z
   .rw[z]at hk;cases hk
  obtain⟨c,hc⟩:=I.ok.has x (.inl hk);obtain⟨w',z⟩:=I.cell x c hc;refine wpAny_storeName_cell I.ok.kind hk hc z (λh' ah hs=>?_);obtain⟨oc,aa,ai⟩:=id z;refine h {s with heap:=h'} ⟨I.ok,I.os,I.bare,⟨λb o e n P l=>?_,λb o e n P l=>?_,I.base.free,λb o e l=>?_,I.base.p8,I.base.pQ,I.base.p9⟩,⟨m,hn.sameBut hs (dc (vt x c hc)),λj y v' f C e3=>?_⟩,λy c' e=>?_,I.free,I.mV,λp hp=>?_,g ⟨oc,aa,I.mV x c hc⟩ hs,by simpa using I.len⟩ ⟨c,hs,.inr hc⟩
  .exact(hs.2 b (bc (aX (aK e) (I.ok.wM x c T hc)))).trans (I.base.keep b o e n P l)
  .obtain⟨sl,f⟩:=I.base.slot b o e n P l;exact⟨sl,(hs.2 b (bc (aX (aK e) (I.ok.wM x c T hc)))).trans f⟩
  .obtain⟨o',f⟩:=I.base.there b o e l;exact⟨o',(hs.2 b (bc (aX (aK e) (I.ok.wM x c T hc)))).trans f⟩
  .by_cases L:j=i
   .subst L;rw[W]at f;cases f;rw[iA F]at C;cases C;exact⟨u,r,.inr ⟨.inl hk,c,hc,ah⟩⟩
   .rw[iS (dc L)]at C;obtain⟨u',r',q⟩:=hl j y v' f C e3;refine⟨u',r',?_⟩;rcases q with q|⟨k,c',e,z'⟩
    .exact .inl q
    .refine .inr ⟨k,c',e,z'.sameBut hs ?_⟩;rintro rfl;exact L (Gv hN f (I.ok.inj _ _ _ e hc▸W))
  .by_cases ab:c'=c
   .subst ab;exact⟨_,ah⟩
   .obtain⟨w2,z2⟩:=I.cell y c' e;exact⟨w2,z2.sameBut hs ab⟩
  .obtain⟨e,n,ne,nf,d⟩:=I.pin p hp;refine⟨(hs.2 p.1 ?_).trans e,n,ne,nf,d⟩;intro q;rw[q,aa]at e;have q':oc=p.2:=aJ e;exact d w' (by rw[<-q'];exact ai)
def U7{M:Model}{A:bU}{E:Z->ao->Prop}{i:Nat}{x:U}{v:V}{u:Z}{Q:Unit->ao->Prop}(I:Inv X pins σ H s)(hN:X.N.Nodup)(c:X.N[i]?=O x)(b:Loc X.env.scope x)(r:RelV v u)(h:∀a,Inv X pins (σ.set i (O v)) H a->Q () a)(d:X.fn x=true\/X.env.scope.names.lookup x=O .local:=by first|exact .inl rfl|exact .inr rfl|assumption):aI M A (storeName X.env x u) Q E s:=QD I hN c b r (λa f _=>h a f) d
def Inv.tW{s':ao}(I:Inv X pins σ H s)(h:s'.os=s.os)(u:Un (m6 X.stack) ch H H' s.heap s'.heap)(a:ox X.prog X.w H' s'.heap)(i:jc s'.gens)(d:∀b∈ch,(b∈X.ex\/X.nv.heap.objs.size<=b)/\b≠X.env.locals/\(∀x c,X.env.cells.lookup x=O c->c≠b)/\∀p∈X.pn++pins,p.1≠b):Inv X pins σ H' s':=by obtain⟨h',j,l,f,g⟩:=s';have e:g=s.os:=h;subst e;exact I.call (g':=j) (t':=f) (d':=l) u a i d
end
abbrev XK:=Z->Option G->Hp->Prop
abbrev St:=List (Option V)
abbrev VK:=V->Hp->Prop
abbrev TE:=St->Hp->VK->Prop
abbrev TT:=St->Hp->(Bool->Hp->Prop)->Prop
abbrev TA:=St->Hp->(List V->Hp->Prop)->Prop
structure Ends where
 nx:St->Hp->Prop
 rt:VK
 bk:St->Hp->Prop:=λ_ _=>False
 ct:St->Hp->Prop:=λ_ _=>False
abbrev TS:=Ends->St->Hp->Prop
def EP(X:Cx)(a:List (G×eN))(c:St)(Q:VK)(u:Z)(d:ao):Prop:=∃v b,Inv X a c b d/\RelV v u/\Q v b
def TP(X:Cx)(a:List (G×eN))(d:St)(Q:Bool->Hp->Prop)(b:Bool)(f:ao):Prop:=∃c,Inv X a d c f/\Q b c
def AP(X:Cx)(a:List (G×eN))(d:St)(Q:List V->Hp->Prop)(f:List Z)(g:ao):Prop:=∃b c,Inv X a d c g/\Zt b f/\Q b c
def SP(X:Cx)(b:List (G×eN))(d:Ends)(f:Flow)(g:ao):Prop:=match f with
|.next=>∃a c,Inv X b a c g/\d.nx a c
|.brk=>∃a c,Inv X b a c g/\d.bk a c
|.cont=>∃a c,Inv X b a c g/\d.ct a c
|.ret u=>∃v a c,Inv X b a c g/\RelV v u/\d.rt v c
def PE(X:Cx)(e:bV)(t:TE):Prop:=∀(a:List (G×eN))(s:ao)(b:St)(H:Hp)(Q:VK),Inv X a b H s->t b H Q->aI (aZ X.prog X.w) X.A (cM e X.env) (EP X a b Q) X.xe s
def PT(X:Cx)(e:bV)(t:TT):Prop:=∀(a:List (G×eN))(s:ao)(b:St)(H:Hp)(Q:Bool->Hp->Prop),Inv X a b H s->t b H Q->aI (aZ X.prog X.w) X.A (isTrue e X.env (cM e X.env)) (TP X a b Q) X.xe s
def PW(X:Cx)(e:bV)(t:TT):Prop:=∀(b:Sem Z)(a:List (G×eN))(s:ao)(c:St)(H:Hp)(Q:Bool->Hp->Prop),Inv X a c H s->t c H Q->aI (aZ X.prog X.w) X.A (isTrue e X.env b) (TP X a c Q) X.xe s
def PW.pt   (h:PW X e t):PT X e t:=h _
def PA(X:Cx)(d:List bV)(t:TA):Prop:=∀(c:iG)(a:List (G×eN))(s:ao)(b:St)(H:Hp)(Q:List V->Hp->Prop),Inv X a b H s->t b H Q->aI (aZ X.prog X.w) X.A (spliced (eh c (bf d X.env))) (AP X a b Q) X.xe s
def PS(X:Cx)(st:b_)(t:TS):Prop:=∀(a:List (G×eN))(s:ao)(b:St)(H:Hp)(c:Ends),Inv X a b H s->t c b H->aI (aZ X.prog X.w) X.A (exec st X.env) (SP X a c) X.xe s
def qg(X:Cx)(st:List b_)(t:TS):Prop:=∀(a:List (G×eN))(s:ao)(b:St)(H:Hp)(c:Ends),Inv X a b H s->t c b H->aI (aZ X.prog X.w) X.A (execs st X.env) (SP X a c) X.xe s
def lY{b:Type}{t:Sem b}{Q c:b->ao->Prop}{M:Model}{A:bU}{E:Z->ao->Prop}{s:ao}(h:aI M A t Q E s)(d:∀a s,Q a s->c a s):aI M A t c E s:=dQ h d λ_ _ x=>x
open PySem PySem.Spec PyProof.Rows
section
variable {X:Cx}
def bin{a b:bV}{t r:TE}(P:PE X a t)(N:PE X b r){c:List (G×eN)}{s:ao}{d:St}{H:Hp}{q:V->V->Hp->Prop}(I:Inv X c d H s)(h:t d H λx o=>r d o λy g=>q x y g){p:Type}{Q:p->ao->Prop}{f:Z->Z->Sem p}(M:∀v u l x y g,Inv X c d g l->RelV x v->RelV y u->q x y g->aI (aZ X.prog X.w) X.A (f v u) Q X.xe l):aI (aZ X.prog X.w) X.A (cM a X.env) (λv j=>aI (aZ X.prog X.w) X.A (cM b X.env) (λu i=>aI (aZ X.prog X.w) X.A (f v u) Q X.xe i) X.xe j) X.xe s:=by refine lY (P c s d H _ I h) λv z n=>?_;obtain⟨x,o,W,E,L⟩:=n;refine lY (N c z d o _ W L) λu l n=>?_;obtain⟨y,g,T,C,F⟩:=n;exact M v u l x y g T E C F
def mI(i:Nat):TE:=λa H Q=>∃v,a[i]?=O (O v)/\Q v H
def tC(v:V):TE:=λ_ H Q=>Q v H
def Xj{i:Nat}{x:U}(hN:X.N[i]?=O x)(o:yC X.env.scope x)(f:(x==("__debug__":U))=false:=by decide)(g:(x==("__classdict__":U))=false:=by decide):PE X (.Name x w) (mI i):=by
 intro d s n H Q I h;obtain⟨v,e,h⟩:=h;obtain⟨m,p,t⟩:=I.loc;obtain⟨u,r,l⟩:=t i x v hN e o;have b:EP X d n Q u s:=⟨v,H,I,r,h⟩;rcases l with⟨hk,q⟩|⟨hk,c,j,a⟩
 .exact wpAny_Name (wpAny_loadName_local I.ok.kind hk p q b) f
 .rcases hk with hk|hk
  .exact wpAny_Name (wpAny_loadName_cell I.ok.kind hk j a b) f
  .exact wpAny_Name (wpAny_loadName_free I.ok.kind hk j a b g) f
def Zd{i j a}:PE X (.Constant (.int i) j a) (tC (.int i)):=λ_ _ _ H _ I h=>wpAny_Constant_int ⟨.int i,H,I.tok _,⟨_,Y⟩,h⟩
def VJ{b j a}:PE X (.Constant (.bool b) j a) (tC (.bl b)):=λ_ _ _ H _ I h=>Constant_bool ⟨.bl b,H,I,Y,h⟩
def ZK{j a}:PE X (.Constant .none j a) (tC .non):=λ_ _ _ H _ I h=>Constant_none ⟨.non,H,I,Y,h⟩
def Zf{x j a}:PE X (.Constant (.str x) j a) (tC (.str x)):=λ_ _ _ H _ I h=>Calls.Constant_str ⟨.str x,H,I.tok _,⟨_,Y⟩,h⟩
def Gl(X:Cx)(x:U):Prop:=X.env.kindOf x=O .globalImplicit
def Ji      {u:Z}{Q:Z->ao->Prop}(I:Inv X a g H s)(c:Gl X x)(b:X.mg x=O u)(h:Q u s)(d:(x==("__debug__":U))=false:=by decide):aI (aZ X.prog X.w) X.A (cM (.Name x f) X.env) Q E s:=Calls.Name_function_global I.ok.kind c (Calls.loadGlobal_global (by rw[I.ok.glob];exact I.mod.glob.keeps I.bk) b h) d
def Vl      {u:Z}{Q:Z->ao->Prop}(I:Inv X a n H s)(f:Gl X x)(d:X.mg x=B)(b:dj x=O u)(h:Q u s)(c:x≠"__name__":=by decide)(g:(x==("__debug__":U))=false:=by decide):aI (aZ X.prog X.w) X.A (cM (.Name x l) X.env) Q E s:=by obtain⟨o,j,i⟩:=I.mod.blt;exact Calls.Name_function_global I.ok.kind f (Calls.loadGlobal_builtin (by rw[I.ok.glob];exact I.mod.glob.keeps I.bk) d (by rw[I.ok.blt];exact j.keeps I.bk) ((i x c).trans b) h) g
def Yi  {u:Z}(b:Gl X x)(a:X.mg x=O u)(r:RelV v u)(c:(x==("__debug__":U))=false:=by decide):PE X (.Name x d) (tC v):=λ_ _ _ H _ I h=>Ji I b a ⟨v,H,I,r,h⟩ c
def Rz  {u:Z}(d:Gl X x)(c:X.mg x=B)(a:dj x=O u)(r:RelV v u)(b:x≠"__name__":=by decide)(f:(x==("__debug__":U))=false:=by decide):PE X (.Name x pos) (tC v):=λ_ _ _ H _ I h=>Vl I d c a ⟨v,H,I,r,h⟩ b f
variable {a b:bV}{ta tb:TE}{pos:iG}
def PC(X:Cx)(h:CmpOp)(a b:bV)(t:TE):Prop:=∀(c:List (G×eN))(s:ao)(g:St)(H:Hp)(Q:VK),Inv X c g H s->t g H Q ->aI (aZ X.prog X.w) X.A (cM a X.env) (λv f=>aI (aZ X.prog X.w) X.A (cM b X.env) (λu d=>aI (aZ X.prog X.w) X.A (cF h v u) (EP X c g Q) X.xe d) X.xe f) X.xe s
def tB(t:TE):TT:=λd H Q=>t d H λx f=>∃c,x=.bl c/\Q c f
def BR  (h:PC X f a b t)(j:je f b=false:=by first|exact c _ D D|rfl):PE X (.Compare a [f] [b] pos) t:=λd s g H Q I i=>wpAny_Compare1 (h d s g H Q I i) j
def BN{i:CmpOp}{t:TE}(h:PC X i a b t)(j:je i b=false:=by first|exact f _ D D|rfl):PT X (.Compare a [i] [b] pos) (tB t):=by intro g s l H Q I p;refine wpAny_isTrue_Compare1 (lY (h g s l H _ I p) λv E j=>lY j λu C w=>lY w λc A r=>?_) j;obtain⟨x,z,y,n,o⟩:=r;obtain⟨d,rfl,q⟩:=o;cases n;exact dk ⟨z,y,q⟩
def Yu{e:bV}{t:TE}(h:PE X e t)(n:∀c,isTrue e X.env c=(do let v <-c;standAt e.pos;jx [v] (truthy v)):=by intro _;rfl):PT X e (tB t):=by
 intro f s g H Q I l
 refine isTrue_plain (lY (h f s g H _ I l) λv u o=>?_) (n _);obtain⟨x,r,p,i,j⟩:=o
 obtain⟨d,rfl,q⟩:=j
 cases i
 exact dk ⟨r,p,q⟩
variable {tA yN:TT}{rest:List bV}
def zU(t u:TT):TT:=λd H Q=>t d H λc f=>if c=true then u d f Q else Q false f
def tOr(t u:TT):TT:=λd H Q=>t d H λc f=>if c=true then Q true f else u d f Q
def zO(t:TT):TT:=λd H Q=>t d H λc f=>Q (!c) f
def NN(g:PT X a tA):PW X (.BoolOp .And [a] pos) tA:=by
 intro i d s f H Q I h;refine isTrue_and (lY (g d s f H Q I h) λc j e=>?_);cases c with
|true=>exact isTrue_and_nil e
|false=>exact e
def X7(g:PT X a tA):PW X (.BoolOp .Or [a] pos) tA:=by
 intro i d s f H Q I h;refine isTrue_or (lY (g d s f H Q I h) λc j e=>?_);cases c with
|false=>exact isTrue_or_nil e
|true=>exact e
def Rt(p:PT X a tA)(o:PW X (.BoolOp .And (b::rest) pos) yN):PW X (.BoolOp .And (a::b::rest) pos) (zU tA yN):=by
 intro l d s f H Q I h;refine isTrue_and (lY (p d s f H _ I h) λc n⟨j,i,g⟩=>?_);cases c with
|true=>exact o l d n f j Q i g
|false=>exact⟨j,i,g⟩
def JH(p:PT X a tA)(o:PW X (.BoolOp .Or (b::rest) pos) yN):PW X (.BoolOp .Or (a::b::rest) pos) (tOr tA yN):=by
 intro l d s f H Q I h;refine isTrue_or (lY (p d s f H _ I h) λc n⟨j,i,g⟩=>?_);cases c with
|true=>exact⟨j,i,g⟩
|false=>exact o l d n f j Q i g
def Yn(g:PT X a tA):PT X (.UnaryOp .Not a pos) (zO tA):=by intro d s f H Q I h;exact isTrue_not (g d s f H (λc i=>Q (!c) i) I h)
def Zas(ta tb:TE):TE:=λd H Q=>ta d H λx f=>∃c,x=.bl c/\if c=true then tb d f Q else Q (.bl false) f
def zN(ta tb:TE):TE:=λd H Q=>ta d H λx f=>∃c,x=.bl c/\if c=true then Q (.bl true) f else tb d f Q
def Zan(ta:TE):TE:=λd H Q=>ta d H λx f=>∃c,x=.bl c/\Q (.bl (!c)) f
def XH{f}(h:PE X a t):PE X (.BoolOp f [a] pos) t:=λc s d H Q I g=>BoolOp_one (h c s d H Q I g)
def Uy(p:PE X a ta)(o:PE X (.BoolOp .And (b::rest) pos) tb):PE X (.BoolOp .And (a::b::rest) pos) (Zas ta tb):=by
 intro d s g H Q I h;refine BoolOp_and (lY (p d s g H _ I h) λv l q=>?_);obtain⟨x,j,i,n,f⟩:=q;obtain⟨c,rfl,f⟩:=f;cases n;refine dk ?_;cases c with
|true=>exact o d l g j Q i f
|false=>exact⟨.bl false,j,i,Y,f⟩
def IB(p:PE X a ta)(o:PE X (.BoolOp .Or (b::rest) pos) tb):PE X (.BoolOp .Or (a::b::rest) pos) (zN ta tb):=by
 intro d s g H Q I h;refine BoolOp_or (lY (p d s g H _ I h) λv l q=>?_);obtain⟨x,j,i,n,f⟩:=q;obtain⟨c,rfl,f⟩:=f;cases n;refine dk ?_;cases c with
|false=>exact o d l g j Q i f
|true=>exact⟨.bl true,j,i,Y,f⟩
def Fo(j:PE X a ta):PE X (.UnaryOp .Not a pos) (Zan ta):=by intro d s g H Q I h;refine UnaryOp_ (lY (j d s g H _ I h) λv p l=>?_);obtain⟨x,o,n,i,f⟩:=l;obtain⟨c,rfl,f⟩:=f;cases i;exact not_of (dk ⟨.bl (!c),o,n,Y,f⟩)
def tIf(t:TT)(ta tb:TE):TE:=λd H Q=>t d H λc f=>if c=true then ta d f Q else tb d f Q
def X4{c:bV}(o:PT X c tA)(q:PE X a ta)(p:PE X b tb):PE X (.IfExp c a b pos) (tIf tA ta tb):=by
 intro f s g H Q I h;refine wpAny_IfExp (lY (o f s g H _ I h) λd i⟨n,l,j⟩=>?_);cases d with
|true=>exact q f i g n Q l j
|false=>exact p f i g n Q l j
end
open PySem PySem.Spec PyProof.Rows
def jw(K:af)(H:Hp)(a:G)(c:List V):Prop:=Rd H a (.lst c) \/∃(o:eN)(b:Array Z)(n:Nat),K.lookup a=O o/\o.cls=.type "list"/\o.dict=B/\o.data=.seq b n/\b.size<=sizeLine/\Zt c b.toList
def lR(K:af)(H:Hp)(a:G)(c:List V):Prop:=Rd H a (.tup c) \/∃(o:eN)(b:Array Z)(n:Nat),K.lookup a=O o/\o.cls=.type "tuple"/\o.data=.seq b n/\b.size<=sizeLine/\Zt c b.toList
noncomputable def Y':Z->Option V
|.none=>O .non
|.bool b=>O (.bl b)
|.int i _=>O (.int i)
|.str x _=>O (.str x)
|.bytes b _=>O (.sN b)
|.float b _=>O (.xA b)
|.ref a=>O (.ref a)
|.type n=>O (.ty n)
|_=>B
def RelV.abs  (r:RelV x u):Y' u=O x:=by
 cases x with
|non=>cases r;rfl
|bl _=>cases r;rfl
|int _=>obtain⟨t,rfl⟩:=r;rfl
|str _=>obtain⟨t,rfl⟩:=r;rfl
|sN _=>obtain⟨t,rfl⟩:=r;rfl
|xA _=>obtain⟨t,rfl⟩:=r;rfl
|ref _=>cases r;rfl
|ty _=>cases r;rfl
def RelV.inj{x y:V}{u:Z}(r:RelV x u)(q:RelV y u):x=y:=aJ (r.abs.symm.trans q.abs)
theorem Zt.inj{b a:List V}{c:List Z}(h:Zt b c)(g:Zt a c):b=a:=by
 induction h generalizing a with
|nil=>cases g;rfl
|cons r _ i=>
  cases g with
 |cons f d=>rw[r.inj f,i d]
section
variable {X:Cx}{pins:List (G×eN)}{σ:St}{H:Hp}{s:ao}{a:G}{xs ys:List V}
def jw.of{K:af}(h:H a=O (.lst xs)):jw K H a xs:=.inl (.inl h)
def lR.of{K:af}(h:H a=O (.tup xs)):lR K H a xs:=.inl (.inl h)
def Inv.list(I:Inv X pins σ H s)(h:jw X.K H a xs):∃b:List Z,Zt xs b/\PlainL s.heap a b.toArray/\xs.length<=sizeLine:=by
 rcases h with h|⟨o,b,n,hk,d,c,hs,f,r⟩
 .obtain⟨z,b,n,r,e⟩:=h.ok I.lI;exact⟨b,r,⟨_,n,e,Y,Y,Y⟩,z⟩
 .refine⟨b.toList,r,⟨o,n,I.nE a o hk,d,c,by simpa using hs⟩,?_⟩;have e:=r.length;simp only[ki]at e;omega
def Inv.tuple(I:Inv X pins σ H s)(h:lR X.K H a xs):∃b:List Z,Zt xs b/\IsTup s.heap a b.toArray/\xs.length<=sizeLine:=by
 rcases h with h|⟨o,b,n,hk,c,hs,d,r⟩
 .obtain⟨z,b,r,p⟩:=h.ok I.lI;exact⟨b,r,p,z⟩
 .refine⟨b.toList,r,⟨o,I.nE a o hk,c,n,by simpa using hs⟩,?_⟩;have e:=r.length;simp only[ki]at e;omega
def Inv.vl(I:Inv X pins σ H s)(h:jw X.K H a xs)(j:jw X.K H a ys):xs=ys:=by
 obtain⟨c,r,⟨o,n,e,_,_,d⟩,_⟩:=I.list h;obtain⟨b,i,⟨p,q,f,_,_,g⟩,_⟩:=I.list j;rw[e]at f;cases f;rw[d]at g;injection g with l _;have:c=b:=by simpa using zM Array.toList l
 subst this;exact r.inj i
def Inv.rb(I:Inv X pins σ H s)(h:lR X.K H a xs)(j:lR X.K H a ys):xs=ys:=by
 obtain⟨c,r,⟨o,e,_,n,d⟩,_⟩:=I.tuple h;obtain⟨b,i,⟨p,f,_,q,g⟩,_⟩:=I.tuple j;rw[e]at f;cases f;rw[d]at g;injection g with l _;have:c=b:=by simpa using zM Array.toList l
 subst this;exact r.inj i
end
noncomputable abbrev Cx.qT(X:Cx)(E:Z->ao->Prop):Cx:={X with xe:=E}
noncomputable abbrev Cx.wG(X:Cx):Cx:=X.qT λ_ _=>False
theorem Cx.Ok.qT{X:Cx}(ok:X.Ok)(E:Z->ao->Prop):(X.qT E).Ok:=⟨ok.mod,ok.kind,ok.glob,ok.blt,ok.above,ok.inj,ok.has,ok.wM,ok.hd,ok.frames,ok.wX,ok.xD,ok.bs,ok.uu,ok.r_,ok.so,ok.oB,ok.uV⟩
def Cx.Ok.o9{X:Cx}(ok:(X.qT E).Ok):X.Ok:=⟨ok.mod,ok.kind,ok.glob,ok.blt,ok.above,ok.inj,ok.has,ok.wM,ok.hd,ok.frames,ok.wX,ok.xD,ok.bs,ok.uu,ok.r_,ok.so,ok.oB,ok.uV⟩
section
variable {X:Cx}{pins:List (G×eN)}{σ:St}{H:Hp}{s:ao}{E:Z->ao->Prop}
theorem Inv.qT(I:Inv X pins σ H s)(E:Z->ao->Prop):Inv (X.qT E) pins σ H s:=⟨I.ok.qT E,I.os,I.bare,I.base,I.loc,I.cell,I.free,I.mV,I.pin,I.lI,I.len⟩
theorem Inv.o9(I:Inv (X.qT E) pins σ H s):Inv X pins σ H s:=⟨I.ok.o9,I.os,I.bare,I.base,I.loc,I.cell,I.free,I.mV,I.pin,I.lI,I.len⟩
theorem SP.o9   (h:SP (X.qT E) pins c f d):SP X pins c f d:=by
 cases f with
|next=>obtain⟨a,b,I,q⟩:=h;exact⟨a,b,I.o9,q⟩
|brk=>obtain⟨a,b,I,q⟩:=h;exact⟨a,b,I.o9,q⟩
|cont=>obtain⟨a,b,I,q⟩:=h;exact⟨a,b,I.o9,q⟩
|ret u=>obtain⟨v,a,b,I,r,q⟩:=h;exact⟨v,a,b,I.o9,r,q⟩
theorem qg.wG{st:List b_}{t:TS}(h:qg X.wG st t):qg X st t:=λpins s σ H a I b=>dQ (h pins s σ H a (I.qT _) b) (λ_ _ q=>q.o9) λ_ _ z=>cV z
end
section
variable {X:Cx}{st:b_}{rest:List b_}{t u:TS}{e:bV}{te:TE}{pos:iG}
def Ih:TS:=λb a H=>b.nx a H
def rY(t u:TS):TS:=λa b H=>t {a with nx:=u a} b H
def Zq:qg X [] Ih:=λ_ _ a H _ I h=>ku ⟨a,H,I,h⟩
def Zb(j:PS X st t)(i:qg X rest u):qg X (st::rest) (rY t u):=by
 intro a s d H b I h;refine wpAny_execs_cons (lY (j a s d H {b with nx:=u b} I h) λf g q=>?_);cases f with
|next=>obtain⟨c,n,l,q⟩:=q;exact i a g c n b l q
|ret v=>exact q
|brk=>exact q
|cont=>exact q
def Zi(d:PS X st t):qg X [st] t:=by
 intro a s b H c I h;refine wpAny_execs_cons (lY (d a s b H c I h) λf g q=>?_);cases f with
|next=>exact ku q
|ret v=>exact q
|brk=>exact q
|cont=>exact q
def Inv.quiet{a:List (G×eN)}{b:St}{H:Hp}{s:ao}(I:Inv X a b H s):interactive X.env=false:=by simp[interactive,I.ok.kind]
def KJ(te:TE):TS:=λb a H=>te a H λ_ c=>b.nx a c
def Yc(d:PE X e te)(hs:jA e B pos.line X.env=pure false:=by rfl):PS X (.Expr e pos) (KJ te):=by intro a s b H j I h;refine wpAny_Expr_any (lY (d a s b H _ I h) λv l f=>?_) I.quiet hs;obtain⟨x,i,g,n,c⟩:=f;exact ⟨b,i,g,c⟩
def x_(te:TE):TS:=λb a H=>te a H b.rt
def Zn(f:PE X e te):PS X (.Return (O e) pos) (x_ te):=by intro a s b H l I h;refine wpAny_Return_some (lY (f a s b H _ I h) λv n g=>?_);obtain⟨x,j,i,c,d⟩:=g;exact ⟨x,b,j,i,c,d⟩
def zQ(c:TT)(t u:TS):TS:=λd a H=>c a H λb f=>if b=true then t d a f else u d a f
def ZC{c:bV}{a b:List b_}{j:TT}(q:PT X c j)(w:qg X a t)(r:qg X b u):PS X (.If c a b pos) (zQ j t u):=by
 intro f s g H i I h;refine wpAny_If (lY (q f s g H _ I h) λd l⟨p,o,n⟩=>?_);cases d with
|true=>exact w f l g p i o n
|false=>exact r f l g p i o n
end
abbrev TG:=V->St->Hp->(St->Hp->Prop)->Prop
abbrev wO:=List V->St->Hp->(St->Hp->Prop)->Prop
def PG(X:Cx)(a:bV)(t:TG):Prop:=∀(b:List (G×eN))(s:ao)(d:St)(H:Hp)(v:V)(u:Z)(Q:St->Hp->Prop),Inv X b d H s->RelV v u->t v d H Q ->aI (aZ X.prog X.w) X.A (assign a X.env u) (λ_ g=>∃c f,Inv X b c f g/\Q c f) X.xe s
def xZ(X:Cx)(h:List bV)(t:wO):Prop:=∀(a:List (G×eN))(s:ao)(c:St)(H:Hp)(d:List V)(f:List Z)(Q:St->Hp->Prop),Inv X a c H s->Zt d f->t d c H Q ->aI (aZ X.prog X.w) X.A (assignInOrder ((fL h X.env).map (·.2)) f) (λ_ i=>∃b g,Inv X a b g i/\Q b g) X.xe s
abbrev xO:=V->V->V->Hp->(Hp->Prop)->Prop
def yD(X:Cx)(t:xO):Prop:=∀(a:List (G×eN))(s:ao)(b:St)(H:Hp)(o i v:V)(c iv u:Z)(Q:Hp->Prop),Inv X a b H s->RelV o c->RelV i iv->RelV v u->t o i v H Q ->aI (aZ X.prog X.w) X.A (setItem c iv u) (λ_ f=>∃d,Inv X a b d f/\Q d) X.xe s
section
variable {X:Cx}{pos:iG}
def Vu(i:Nat):TG:=λv a H Q=>Q (a.set i (O v)) H
def Gq{i:Nat}{x:U}(hN:X.N.Nodup)(c:X.N[i]?=O x)(b:Loc X.env.scope x)(d:X.fn x=true\/X.env.scope.names.lookup x=O .local:=by first|exact .inl Y|exact .inr Y|assumption):PG X (.Name x pos) (Vu i):=by intro a s g H v u Q I r h;exact wpAny_assign_Name (U7 I hN c b r (λj f=>⟨_,H,f,h⟩) d)
def xx:wO:=λb a H Q=>b=[]/\Q a H
def Tx(t:TG)(u:wO):wO:=λc b H Q=>∃v r,c=v::r/\t v b H λa d=>u r a d Q
def Yd:xZ X [] xx:=by intro a s b H c d Q I r h;obtain⟨e,h⟩:=h;subst e;cases r;exact assignInOrder_nil ⟨b,H,I,h⟩
def Zx{e:bV}{b:List bV}{t:TG}{u:wO}(n:PG X e t)(l:xZ X b u)(hs:(fL (e::b) X.env).map (·.2)=assign e X.env::(fL b X.env).map (·.2):=by rfl):xZ X (e::b) (Tx t u):=by
 intro a s d H w y Q I r h;obtain⟨v,x,o,h⟩:=h;subst o;cases r with
|cons r g=>rw[hs];refine assignInOrder_cons (lY (n a s d H _ _ _ I r h) λ_ f j=>?_);obtain⟨c,q,p,i⟩:=j;exact l a f c q _ _ Q p g i
def wc(K:af)(n:Nat)(t:wO):TG:=λv c H Q=>∃a b,v=.ref a/\lR K H a b/\b.length=n/\t b c H Q
def XG {k:Nat}{n:Nat}(z:X.calm=true)(h:xZ X f t)(x:(fL f X.env).length=n:=by rfl)(g:(fL f X.env).findIdx? (·.1)=B:=by rfl):PG X (.Tuple f k pos) (wc X.K n t):=by intro c s i H v u Q I r d;obtain⟨a,l,C,w,y,d⟩:=d;subst C;cases r;obtain⟨F,j,q,L⟩:=I.tuple w;refine assign_Tuple_tuple (I.ok.hd z) q (by simp[x,<-y,j.length]) g λA p=>?_;have E:Inv X c i H {s with heap:=A}:=I.kept (t':=s.toks) λb o e=>p b o (bc (aK e)) e;exact h c _ i H l _ Q E (by simpa using j) d
def P_(b c:TE)(t:xO):TG:=λv a H Q=>b a H λo g=>c a g λi f=>t o i v f λd=>Q a d
def Fl{o i:bV}{f g:TE}{t:xO}(A:PE X o f)(C:PE X i g)(hs:yD X t)
  (E:∀v,assign (.Subscript o i pos) X.env v=(do
   let b <-jx [v] (cM o X.env)
   let iv <-jx [v,b] (cM i X.env)
   standAt pos
   jx [v,b,iv] (setItem b iv v)
   release [v,b,iv] []):=by intro _;rfl):PG X (.Subscript o i pos) (P_ f g t):=by
 intro a s c H v u Q I r h
 rw[E]
 refine ae (bL (lY (A a s c H _ I h) λb l d=>?_));obtain⟨x,T,M,p,z⟩:=d
 refine ae (bL (lY (C a l c T _ M z) λiv j d=>?_));obtain⟨y,P,L,n,w⟩:=d
 refine ae (gb (ae (bL (lY (hs a j c P x y v b iv u _ L p n r w) λ_ W⟨N,F,q⟩=>?_))))
 exact wpAny_release ⟨c,N,F,q⟩
def u9(c:TE)(g:TG):TS:=λb a H=>c a H λx d=>g x a d b.nx
def MH{b e:bV}{d:TE}{g:TG}(o:PE X e d)(n:PG X b g)(hs:swapsWithSole [b] e pos.line X.env=pure false:=by rfl)(l:swappedStores [b] e X.env=pure B:=by rfl)(r:(fL [b] X.env).map (·.2)=[assign b X.env]:=by rfl):PS X (.Assign [b] e pos) (u9 d g):=by intro a s c H w I h;refine wpAny_Assign_stores (lY (o a s c H _ I h) λv f p=>?_) hs l;obtain⟨x,u,t,i,j⟩:=p;rw[r];exact lY (n a f c u x v _ t i j) λ_ y q=>q
def Yv{i:Nat}{x:U}{e:bV}{c:TE}{a:iG}(hN:X.N.Nodup)(l:X.N[i]?=O x)(j:Loc X.env.scope x)(o:PE X e c)(hs:jA e (O (.Name x a)) pos.line X.env=pure false:=by rfl)(n:X.fn x=true\/X.env.scope.names.lookup x=O .local:=by first|exact .inl Y|exact .inr Y|assumption):PS X (.Assign [.Name x a] e pos) (u9 c (Vu i)):=by intro b s d H u I h;refine wpAny_Assign_Name (lY (o b s d H _ I h) λv z p=>?_) hs;obtain⟨y,t,r,f,g⟩:=p;exact U7 r hN l j f (λw q=>⟨_,t,q,g⟩) n
end
structure It where
 go:Nat->Hp->Prop
 wD:Nat->Hp->V->Hp->Prop
 stop:Nat->Hp->Prop
def qO(X:Cx)(a:List (G×eN))(H:Hp)(b:G):Prop:=H b=B/\b≠X.env.locals/\b∉X.fs/\(b∈X.ex\/X.nv.heap.objs.size<=b)/\(∀x c,X.env.cells.lookup x=O c->c≠b)/\∀p∈X.pn++a,p.1≠b
def Inv.sk   {H f:Hp}{b:G}(I:Inv X d i H s)(a:s.heap.objs.size<=b)(h:f b=B):qO X d f b:=by
 refine⟨h,df (aX I.lt a),I.xk a,.inr (aj I.sz a),λx c e z=>?_,λp g z=>?_⟩
 .obtain⟨v,q⟩:=I.cell x c e;exact zI (aX q.lt (by rw[z];exact a)) (dB _)
 .exact zI (aX (aK (I.pin p g).1) (by rw[z];exact a)) (dB _)
structure Turn(P:a9)(w:bg)(K:af)(tg:bV)(zA:It)(fp:List G)(it:G)(tn:Nat->bC->Prop):Prop where
 mem:it∈fp
 obj:∀i h,tn i h->∀b∈fp,∃o,h.get? b=O o/\∀v,o.data≠.cell v
 keep:∀i h h',tn i h->(∀b∈fp,∀o,h.get? b=O o->h'.get? b=O o)->tn i h'
 item:∀(X:Cx),X.prog=P->X.w=w->X.K=K->X.calm=true->∀(i:Nat)(pins:List (G×eN))(s:ao)(σ:St)(H:Hp)(E:Z->ao->Prop),Inv X pins σ H s->(∀b∈fp,qO X pins H b)->tn i s.heap->zA.go i H ->
  aI (aZ P w) X.A (jQ (.ref it)) (λr s1=>∃u,r=O u /\
   aI (aZ P w) X.A (kB tg (.ref it) u) (λ_ s2=>∃x H',Inv X pins σ H' s2/\RelV x u/\zA.wD i H x H'/\tn (i+1) s2.heap/\∀b∈fp,H' b=B) E s1) E s
 done:∀(X:Cx),X.prog=P->X.w=w->X.K=K->X.calm=true->∀(i:Nat)(pins:List (G×eN))(s:ao)(σ:St)(H:Hp)(E:Z->ao->Prop),Inv X pins σ H s->(∀b∈fp,qO X pins H b)->tn i s.heap->zA.stop i H ->
  aI (aZ P w) X.A (jQ (.ref it)) (λr s1=>r=B/\Inv X pins σ H s1) E s
 self:∀(A:bU)(i:Nat)(s:ao)(Q:Z->ao->Prop)(E:Z->ao->Prop),tn i s.heap->Q (.ref it) s->aI (aZ P w) A (pyIter (.ref it)) Q E s
abbrev TI:=St->Hp->(It->Hp->Prop)->Prop
def ε(X:Cx)(a:List (G×eN))(j:St)(n:bV)(l:It->Hp->Prop)(d:Z)(h:ao):Prop:=∃(it:G)(i:List G)(g:Nat->bC->Prop)(f:It)(c:Hp),d=.ref it/\Inv X a j c h/\Turn X.prog X.w X.K n f i it g/\g 0 h.heap/\(∀b∈i,qO X a c b)/\l f c
def PI(X:Cx)(f iter:bV)(d:TI):Prop:=∀(a:List (G×eN))(s:ao)(b:St)(H:Hp)(c:It->Hp->Prop),Inv X a b H s->d b H c ->aI (aZ X.prog X.w) X.A (cM iter X.env) (λv g=>aI (aZ X.prog X.w) X.A (pyIter v) (ε X a b f c) X.xe g) X.xe s
def LC   {s:ao}  {o:eN} {Q:Unit->ao->Prop}(d:s.heap.get? it=O o)(i:o.cls=.type n)(g:o.data=.fields b)(f:["enumerate","zip","dict_itemiterator","dict_reverseitemiterator","odict_iterator","itertools.zip_longest","itertools.pairwise"].contains n=false)(a:Q () s):aI M A (kB c (.ref it) u) Q E s:=by
 unfold kB;cases c<;>first
 |exact aE a
 |(cases u<;>first
   |exact aE a
   |(refine ae (wpAny_load d ?_);rw[i,g];show aI M A (if(["enumerate","zip","dict_itemiterator","dict_reverseitemiterator","odict_iterator","itertools.zip_longest","itertools.pairwise"].contains n&&b[0]?==O (dU _))=true then _ else _) Q E s;rw[zG (by intro h;rw[f,fw]at h;cases h)];exact aE a))
noncomputable def qA(K:af)(a:G):It:=⟨λi H=>∃b x,jw K H a b/\b[i]?=O x,λi H x c=>c=H/\∀b,jw K H a b->b[i]?=O x,λi H=>∃b,jw K H a b/\b.length<=i⟩
noncomputable def x5(K:af)(a:G):It:=⟨λi H=>∃b x,lR K H a b/\b[i]?=O x,λi H x c=>c=H/\∀b,lR K H a b->b[i]?=O x,λi H=>∃b,lR K H a b/\b.length<=i⟩
noncomputable def tJ(lo:Int)(n:Nat):It:=⟨λi _=>i<n,λi H x a=>a=H/\x=.int (lo+i),λi _=>n<=i⟩
def Qz{P:a9}{w:bg}{K:af}{tg:bV}(a it:G):Turn P w K tg (qA K a) [it] it (λi h=>h.IsListIter it a i) where
 mem:=by simp
 obj:=λi h st b g=>by
  have e:b=it:=by simpa using g
  subst e
  obtain⟨o,e,c,d⟩:=st
  exact⟨o,e,λv z=>by rw[d]at z;cases z⟩
 keep:=λi h q st k=>st.at λo e=>k it zE o e
 item:=by
  intro X C y F hc i f s σ H E I n st A
  subst C y F
  obtain⟨xs,x,l,t⟩:=A
  obtain⟨W,r,p,hz⟩:=I.list l
  obtain⟨u,hu,ru⟩:=r.get t
  obtain⟨T,Q,f2,N,M,L⟩:=n it zE
  refine wpAny_pyNext_list_item st p.isList (x:=u) (by simpa using hu) λq j sb=>?_
  have I1:Inv X f σ H {s with heap:=q}:=I.turned (t':=s.toks) (λb o g e=>(sb.2 b g).trans e) T Q N M L
  obtain⟨o,e,c,d⟩:=id j
  exact⟨u,Y,LC (s:={s with heap:=q}) e c d D ⟨x,H,I1,ru,⟨Y,λys hy=>by rw[I.vl hy l];exact t⟩,j,λb g=>(n b g).1⟩⟩
 done:=by
  intro X C y F hc i f s σ H E I n st A
  subst C y F
  obtain⟨xs,l,t⟩:=A
  obtain⟨W,r,p,hz⟩:=I.list l
  obtain⟨T,Q,f2,N,M,L⟩:=n it zE
  have hl:=r.length
  exact wpAny_pyNext_list_end (I.ok.hd hc) st p.isList (by simp;omega) λq eb=>⟨Y,I.turned (t':=s.toks) (λb o g e=>eb b o g e) T Q N M L⟩
 self:=λ_ _ _ _ _ st h=>wpAny_pyIter_listiter st h
def Pa{P:a9}{w:bg}{K:af}{tg:bV}(a it:G):Turn P w K tg (x5 K a) [it] it (λi h=>h.IsTupleIter it a i) where
 mem:=by simp
 obj:=λi h st b g=>by
  have e:b=it:=by simpa using g
  subst e
  obtain⟨o,e,c,d⟩:=st
  exact⟨o,e,λv z=>by rw[d]at z;cases z⟩
 keep:=λi h r st k=>st.at λo e=>k it zE o e
 item:=by
  intro X F A L hc i f s σ H E I q st C
  subst F A L
  obtain⟨xs,x,n,y⟩:=C
  obtain⟨j,t,p,hz⟩:=I.tuple n
  obtain⟨u,hu,ru⟩:=t.get y
  obtain⟨W,T,f2,Q,N,M⟩:=q it zE
  refine wpAny_pyNext_tuple_item st (show s.heap.IsTuple a j.toArray from p) (x:=u) (by simpa using hu) λr l sb=>?_
  have I1:Inv X f σ H {s with heap:=r}:=I.turned (t':=s.toks) (λb o g e=>(sb.2 b g).trans e) W T Q N M
  obtain⟨o,e,c,d⟩:=id l
  exact⟨u,Y,LC (s:={s with heap:=r}) e c d D ⟨x,H,I1,ru,⟨Y,λys hy=>by rw[I.rb hy n];exact y⟩,l,λb g=>(q b g).1⟩⟩
 done:=by
  intro X F A L hc i f s σ H E I q st C
  subst F A L
  obtain⟨xs,n,y⟩:=C
  obtain⟨j,t,p,hz⟩:=I.tuple n
  obtain⟨W,T,f2,Q,N,M⟩:=q it zE
  have hl:=t.length
  exact wpAny_pyNext_tuple_end (I.ok.hd hc) st (show s.heap.IsTuple a j.toArray from p) (by simp;omega) λr eb=>⟨Y,I.turned (t':=s.toks) (λb o g e=>eb b o g e) W T Q N M⟩
 self:=λ_ _ _ _ _ st h=>wpAny_pyIter_tupleiter st h
def Wi{P:a9}{w:bg}{K:af}{N:bV}(it:G)(lo:Int)(n:Nat):Turn P w K N (tJ lo n) [it] it (λi h=>IsRangeIter h it (lo+(i:Nat)*1) ((n:Int)-(i:Nat)) 1) where
 mem:=by simp
 obj:=λi h st b c=>by
  have e:b=it:=by simpa using c
  subst e
  exact⟨_,st,λv z=>by
   have M:Data.fields _=Data.cell v:=z
   cases M⟩
 keep:=λi h g st k=>k it zE _ st
 item:=by
  intro X q j r p i a s F H E I f st l
  subst q j r
  obtain⟨C,A,f2,y,x,u⟩:=f it zE
  have W:=Walks.range (prog:=X.prog) (w:=X.w) (I.ok.hd p) it lo 1 n
  refine W.item i s _ _ l st λv g L T d Q=>?_
  obtain⟨t,rfl⟩:=T
  have I1:Inv X a F H {s with heap:=g,toks:=L}:=I.turned (λb o c e=>Q b o (by simpa using c) e) C A y x u
  refine⟨_,Y,LC (s:={s with heap:=g,toks:=L}) (n:="range_iterator") d Y Y D ⟨.int (lo+i),H,I1,⟨t,?_⟩,⟨Y,Y⟩,d,λb c=>(f b c).1⟩⟩
  rw[Int.mul_one]
 done:=by
  intro X q j r p i a s F H E I f st l
  subst q j r
  obtain⟨C,A,f2,y,x,u⟩:=f it zE
  exact wpAny_pyNext_range_end (I.ok.hd p) st (by have:n<=i:=l;omega) λg eb=>⟨Y,I.turned (t':=s.toks) (λb o c e=>eb b o c e) C A y x u⟩
 self:=λ_ _ _ _ _ st h=>wpAny_pyIter_rangeiter st h
open PySem PySem.Spec PyProof.Rows
section
variable {X:Cx}{tg:bV}
def ZaJ(K:af)(g:TE):TI:=λc H d=>g c H λx b=>∃a,x=.ref a/\(∃f,jw K b a f)/\d (qA K a) b
def yu(K:af)(g:TE):TI:=λc H d=>g c H λx b=>∃a,x=.ref a/\(∃f,lR K b a f)/\d (x5 K a) b
def Yy{l:bV}{g:TE}(t:PE X l g):PI X tg l (ZaJ X.K g):=by
 intro c s i H A I h;refine lY (t c s i H _ I h) λv d w=>?_;obtain⟨x,y,f,j,n⟩:=w;obtain⟨a,e,⟨C,r⟩,q⟩:=n;subst e;cases j;obtain⟨z,E,p,F⟩:=f.list r;refine gR p.isList ?_;refine⟨d.heap.objs.size,[d.heap.objs.size],_,_,y,Y,f.kept (t':=d.toks) λb o e=>av _ e,Qz a _,⟨_,aR _ Y,Y,Y⟩,λb u=>?_,q⟩;have e:b=d.heap.objs.size:=by simpa using u
 subst e;exact f.sk (aq _) (f.lI.fresh (aq _))
def MI{l:bV}{i:TE}(u:PE X l i):PI X tg l (yu X.K i):=by
 intro d s j H A I h;refine lY (u d s j H _ I h) λv c y=>?_;obtain⟨x,z,f,n,r⟩:=y;obtain⟨a,e,⟨C,t⟩,q⟩:=r;subst e;cases n;obtain⟨g,E,p,F⟩:=f.tuple t;refine iB (show c.heap.IsTuple a g.toArray from p) ?_;refine⟨c.heap.objs.size,[c.heap.objs.size],_,_,z,Y,f.kept (t':=c.toks) λb o e=>av _ e,Pa a _,⟨_,aR _ Y,Y,Y⟩,λb w=>?_,q⟩;have e:b=c.heap.objs.size:=by simpa using w
 subst e;exact f.sk (aq _) (f.lI.fresh (aq _))
def Fg    {h:It->Hp->Prop}{lo a:Int}{t u v:Tok}{d:Nat}(I:Inv X c g H s)(p:-(2 ^ 62)<=lo)(n:lo<2 ^ 62)(l:-(2 ^ 62)<=a)(j:a<2 ^ 62)(q:h (tJ lo (a-lo).toNat) H):aI (aZ X.prog X.w) X.A (pyIter (.ref s.heap.objs.size)) (ε X c g tg h) E {s with heap:=s.heap.push {cls:=.type "range",data:=.fields #[.int lo t,.int a u,.int 1 v]},toks:=d}:=by
 refine wpAny_pyIter_range (IsRange.new ..) (small_one p n l j) ?_;have f:Inv X c g H {s with heap:=s.heap.push {cls:=.type "range",data:=.fields #[.int lo t,.int a u,.int 1 v]},toks:=d}:=I.kept λb o e=>av _ e;refine⟨(s.heap.push {cls:=.type "range",data:=.fields #[.int lo t,.int a u,.int 1 v]}).objs.size,[(s.heap.push {cls:=.type "range",data:=.fields #[.int lo t,.int a u,.int 1 v]}).objs.size],_,_,H,Y,f.kept (t':=d) λb o e=>av _ e,Wi _ lo (a-lo).toNat,?_,λb i=>?_,q⟩
 .have x:lo+((0:Nat):Int)*1=lo:=by simp
  have r:(((a-lo).toNat:Nat):Int)-((0:Nat):Int)=Builtin.Range.rangeSize lo a 1:=by rw[rangeSize_one];split<;>omega
  show IsRangeIter _ _ (lo+((0:Nat):Int)*1) ((((a-lo).toNat:Nat):Int)-((0:Nat):Int)) 1;rw[x,r];exact aR _ Y
 .have e:b=(s.heap.push {cls:=.type "range",data:=.fields #[.int lo t,.int a u,.int 1 v]}).objs.size:=by simpa using i
  subst e;exact f.sk (aq _) (f.lI.fresh (aq _))
def ZaI(d:TA):TI:=λa H b=>d a H λc f=>∃j:Int,c=[.int j]/\-(2 ^ 62)<=j/\j<2 ^ 62/\b (tJ 0 j.toNat) f
def YB{a:bV}{f:TA}{p b:iG}(u:Gl X "range")(o:X.mg "range"=B)(w:PA X [a] f)(hs:bf [a] X.env=[(false,cM a X.env)]:=by rfl):PI X tg (.Call (.Name "range" p) [a] [] b) (ZaI f):=by
 intro c s g H z I h;refine Call_ (Vl I u o boot_range (c8 (lY (w b c s g H _ I h) λC E x=>?_) hs Y));obtain⟨A,F,y,l,d⟩:=x;obtain⟨j,e,d,n,q⟩:=d;subst e;cases l with
|cons r i=>cases i;obtain⟨t,rfl⟩:=r;exact call_range_1 (Fg y zD zD d n (by simpa using q))
def wC(f:It)(g:TG)(l:TS)(d:Ends)(a:St)(H:Hp):Prop:=∃W:Nat->Nat->St->Hp->Prop,(∃m,W 0 m a H)/\∀i m a H,W i m a H ->(f.stop i H/\d.nx a H)\/(f.go i H/\∃N:St->Hp->Prop,(∀c b,N c b->∃j,j<m/\W (i+1) j c b)/\∀x b,f.wD i H x b->g x a b λh n=>l {d with nx:=N,ct:=N,bk:=d.nx} h n)
def yb(d:TI)(g:TG)(f:TS):TS:=λb a H=>d a H λc h=>wC c g f b a h
def Xy{zA:It}{g:TG}{o:TS}{h:Ends} (n:Nat)(b:Nat->St->Hp->Prop)(s:b 0 a H)(l:∀i a H,i<n->b i a H->zA.go i H)(d:∀a H,b n a H->zA.stop n H)(hs:∀i a H x f,i<n->b i a H->zA.wD i H x f->g x a f λj t=>o {h with nx:=b (i+1),ct:=b (i+1),bk:=h.nx} j t)(r:∀a H,b n a H->h.nx a H):wC zA g o h a H:=by
 refine⟨λi m a H=>m=n-i/\i<=n/\b i a H,⟨n,Y,bK _,s⟩,?_⟩;rintro i m a H ⟨rfl,w,p⟩;by_cases c:i<n
 .exact .inr ⟨l i a H c p,b (i+1),λu f q=>⟨n-(i+1),zD,Y,c,q⟩,λx f y=>hs i a H x f c p y⟩
 .have e:i=n:=by omega
  subst e;exact .inl ⟨d a H p,r a H p⟩
noncomputable def Pr(a:List G)(h:bC):List (G×eN):=a.filterMap λb=>(h.get? b).map λo=>(b,o)
def oH{a:List G}{h:bC}{b:G}{o:eN}(c:b∈a)(e:h.get? b=O o):(b,o)∈Pr a h:=List.mem_filterMap.mpr ⟨b,c,by rw[e];rfl⟩
def Dr  {p:G×eN}(a:p∈Pr d h):p.1∈d/\h.get? p.1=O p.2:=by
 obtain⟨b,c,e⟩:=List.mem_filterMap.mp a;cases q:h.get? b with
|none=>rw[q]at e;cases e
|some o=>rw[q]at e;have f:(b,o)=p:=aJ e;subst f;exact⟨c,q⟩
def Inv.pinned{a:List (G×eN)}{f:St}{H:Hp}{s:ao}{c:List G}(I:Inv X a f H s)(l:∀b∈c,qO X a H b)(j:∀b∈c,∃o,s.heap.get? b=O o/\∀v,o.data≠.cell v):Inv X (a++Pr c s.heap) f H s:=I.qC λp i=>(ba.mp i).elim (λz=>I.pin p (bN _ z)) λz=>by obtain⟨g,e⟩:=Dr z;obtain⟨r,q,n,_⟩:=l p.1 g;obtain⟨o,h,d⟩:=j p.1 g;rw[e]at h;cases h;exact⟨e,r,q,n,d⟩
def Inv.pZ{a c:List (G×eN)}{b:St}{H:Hp}{s:ao}(I:Inv X (a++c) b H s):Inv X a b H s:=I.qC λp d=>I.pin p (bN _ (dv _ d))
def Y9{iter:bV}{E:List b_}{wi:TI}{g:TG}{tb:TS}{ai:iG}(M:PassesOwn (aZ X.prog X.w) X.A X.env X.xe)(hc:X.calm=true)(hi:PI X tg iter wi)(hg:PG X tg g)(j:qg X E tb)(hs:∀x,jN iter X.env x=pure x:=by intro _;rfl):PS X (.For tg iter E [] ai) (yb wi g tb):=by
 intro c s σ H zB I h;refine wpAny_For (lY (hi c s σ H _ I h) λv s1 h1=>lY h1 λaz s2 h2=>?_) hs;obtain⟨it,P,tn,zA,H2,e,I2,T,ah,f2,W,⟨m0,w0⟩,turn⟩:=h2;subst e;have y:∀{z:Hp},(∀b∈P,z b=B)->∀b∈P,qO X c z b:=λhn b j=>⟨hn b j,(f2 b j).2⟩;refine codeAny_forLoop_any (λn s'=>∃i t z,Inv X c t z s'/\tn i s'.heap/\(∀b∈P,z b=B)/\W i n t z) ?_ m0 ⟨0,σ,H2,I2,ah,λb j=>(f2 b j).1,w0⟩;rintro n s3 ⟨i,q,H3,I3,Q,aa,w3⟩;rcases turn i n q H3 w3 with⟨stop,qn⟩|⟨go,N,hN,step⟩
 .refine jr M (lY (T.done X Y Y Y hc i c s3 q H3 X.xe I3 (y aa) Q stop) λr s4⟨hr,I4⟩=>?_);subst hr;exact ku ⟨q,H3,I4,qn⟩
 .refine jr M (lY (T.item X Y Y Y hc i c s3 q H3 X.xe I3 (y aa) Q go) λr s4⟨u,hr,h4⟩=>?_);subst hr;refine jr M (lY h4 λ_ s5 hZ=>?_);obtain⟨x,H5,I5,r5,y5,F,ak⟩:=hZ;have ar:=I5.pinned (y ak) (T.obj _ _ F);refine jr M (lY (hg _ s5 q H5 x u _ ar r5 (step x H5 y5)) λ_ s6 hZ=>?_);obtain⟨ab,H6,I6,q6⟩:=hZ;refine jr M (lY (j _ s6 ab H6 _ I6 q6) λf s7 C=>?_);have again:∀{a:St}{p:Hp},Inv X (c++Pr P s5.heap) a p s7->N a p->∃m,m<n/\∃i t z,Inv X c t z s7/\tn i s7.heap/\(∀b∈P,z b=B)/\W i m t z:=λ{a p}l L=>by obtain⟨m',hm,w7⟩:=hN a p L;refine⟨m',hm,i+1,a,p,l.pZ,T.keep _ _ _ F λb j o e=>(l.pin (b,o) (bN _ (bN _ (oH j e)))).1,λb j=>?_,w7⟩;obtain⟨o,e,d⟩:=T.obj _ _ F b j;exact(l.pin (b,o) (bN _ (bN _ (oH j e)))).2.1
  cases f with
 |next=>obtain⟨a,p,l,L⟩:=C;exact again l L
 |cont=>obtain⟨a,p,l,L⟩:=C;exact again l L
 |brk=>obtain⟨a,p,l,C⟩:=C;exact⟨a,p,l.pZ,C⟩
 |ret v=>obtain⟨x7,a,p,l,r7,C⟩:=C;exact⟨x7,a,p,l.pZ,r7,C⟩
end
def HI{K:af}{a:G}{xs:List V}{g:TG}{l:TS}{d:Ends}{b:St}{H:Hp}(c:Nat->St->Hp->Prop)(o:c 0 b H)(h:∀i b H,i<=xs.length->c i b H->jw K H a xs)(hs:∀i x b H,xs[i]?=O x->c i b H->g x b H λj q=>l {d with nx:=c (i+1),ct:=c (i+1),bk:=d.nx} j q)(n:∀b H,c xs.length b H->d.nx b H):wC (qA K a) g l d b H:=Xy xs.length c o (λi b H f p=>⟨xs,xs[i],h i b H (eQ f) p,by simp[f]⟩) (λb H p=>⟨xs,h _ b H (aq _) p,aq _⟩) (λi b H x r f p y=>by obtain⟨e,y⟩:=y;subst e;exact hs i x b _ (y xs (h i b _ (eQ f) p)) p) n
def DH{lo:Int}{n:Nat}{g:TG}{h:TS}{c:Ends} (b:Nat->St->Hp->Prop)(l:b 0 a H)(hs:∀i a H,i<n->b i a H->g (.int (lo+i)) a H λf o=>h {c with nx:=b (i+1),ct:=b (i+1),bk:=c.nx} f o)(j:∀a H,b n a H->c.nx a H):wC (tJ lo n) g h c a H:=Xy n b l (λ_ _ _ d _=>d) (λ_ _ _=>aq _) (λi a H x q d p y=>by obtain⟨e,y⟩:=y;subst e y;exact hs i a _ d p) j
open PySem PySem.Spec PyProof.Rows
abbrev R2:=V->V->Hp->VK->Prop
def oZ(X:Cx)(f:Z->Z->Sem Z)(r:R2):Prop:=∀(a:List (G×eN))(s:ao)(b:St)(H:Hp)(x y:V)(v u:Z)(Q:VK),Inv X a b H s->RelV x v->RelV y u->r x y H Q ->aI (aZ X.prog X.w) X.A (f v u) (EP X a b Q) X.xe s
def Z'(X:Cx)(f:Z->Sem Z)(r:V->Hp->VK->Prop):Prop:=∀(a:List (G×eN))(s:ao)(b:St)(H:Hp)(x:V)(v:Z)(Q:VK),Inv X a b H s->RelV x v->r x H Q ->aI (aZ X.prog X.w) X.A (f v) (EP X a b Q) X.xe s
def XF(X:Cx)(f:Z)(r:List V->Hp->VK->Prop):Prop:=∀(a:List (G×eN))(s:ao)(b:St)(H:Hp)(c:List V)(d:List Z)(Q:VK),Inv X a b H s->Zt c d->r c H Q ->aI (aZ X.prog X.w) X.A (call f d) (EP X a b Q) X.xe s
def γ(X:Cx)(r:V->Hp->(Bool->Hp->Prop)->Prop):Prop:=∀(a:List (G×eN))(s:ao)(b:St)(H:Hp)(x:V)(v:Z)(Q:Bool->Hp->Prop),Inv X a b H s->RelV x v->r x H Q ->aI (aZ X.prog X.w) X.A (truthy v) (TP X a b Q) X.xe s
def ua(r:R2)(c b:TE):TE:=λa H Q=>c a H λx f=>b a f λy d=>r x y d Q
def ν(r:V->Hp->VK->Prop)(b:TE):TE:=λa H Q=>b a H λx c=>r x c Q
def rI(C:Int->Int->Prop)(g:Int->Int->V):R2:=λx y H Q=>∃i j,x=.int i/\y=.int j/\C i j/\Q (g i j) H
def w5(g:Int->Int->V):R2:=λx y H Q=>∃i j,x=.int i/\y=.int j/\Q (g i j) H
def rU(g:Int->V):V->Hp->VK->Prop:=λx H Q=>∃i,x=.int i/\Q (g i) H
section
variable {X:Cx}{a b c:bV}{ta tb tc:TE}{pos:iG}
def xJ(M:PE X a ta)(L:PE X b tb){d:List (G×eN)}{s:ao}{g:St}{H:Hp}{q:V->V->Hp->Prop}(I:Inv X d g H s)(h:ta g H λx p=>tb g p λy i=>q x y i){Q:Z->ao->Prop}{f:Z->Z->Sem Z}(F:∀v u n x y i,Inv X d g i n->RelV x v->RelV y u->q x y i->aI (aZ X.prog X.w) X.A (f v u) Q X.xe n):aI (aZ X.prog X.w) X.A (cM a X.env) (λv l=>aI (aZ X.prog X.w) X.A (cM b X.env) (λu j=>aI (aZ X.prog X.w) X.A (f v u) Q X.xe j) X.xe l) X.xe s:=by refine lY (M d s g H _ I h) λv r o=>?_;obtain⟨x,p,P,z,E⟩:=o;refine lY (L d r g p _ P E) λu n o=>?_;obtain⟨y,i,N,t,C⟩:=o;exact F v u n x y i N z t C
def Zv{f:Operator}{r:R2}(n:oZ X (gY f) r)(p:PE X a ta)(o:PE X b tb):PE X (.BinOp a f b pos) (ua r ta tb):=by intro d s g H Q I h;exact wpAny_BinOp (xJ p o I h λv u i x y w t l j q=>n d i g w x y v u Q t l j q)
def Fn{g:UnaryOp}{r:V->Hp->VK->Prop}(n:Z' X (unaryOp g) r)(o:PE X a ta):PE X (.UnaryOp g a pos) (ν r ta):=by intro d s f H Q I h;refine UnaryOp_ (lY (o d s f H _ I h) λv i p=>?_);obtain⟨x,t,q,j,l⟩:=p;exact n d i f t x v Q q j l
def yk{f:Z->Z->Sem Z}{C:Int->Int->Prop}{g:Int->Int->Int}(rule:∀(i j:Int)(t u:Tok)(s:ao)(Q:Z->ao->Prop)(E:Z->ao->Prop),C i j->Q (.int (g i j) s.toks) {s with toks:=s.toks+1}->aI (aZ X.prog X.w) X.A (f (.int i t) (.int j u)) Q E s):oZ X f (rI C λi j=>.int (g i j)):=by intro d s r H x y v u Q I o n h;obtain⟨i,j,rfl,rfl,p,q⟩:=h;obtain⟨t,rfl⟩:=o;obtain⟨l,rfl⟩:=n;exact rule i j t l s _ _ p ⟨.int (g i j),H,I.tok _,⟨_,Y⟩,q⟩
def yj{f:Z->Z->Sem Z}{g:Int->Int->Int}(rule:∀(i j:Int)(t u:Tok)(s:ao)(Q:Z->ao->Prop)(E:Z->ao->Prop),Q (.int (g i j) s.toks) {s with toks:=s.toks+1}->aI (aZ X.prog X.w) X.A (f (.int i t) (.int j u)) Q E s):oZ X f (w5 λi j=>.int (g i j)):=by intro d s p H x y v u Q I o n h;obtain⟨i,j,rfl,rfl,q⟩:=h;obtain⟨t,rfl⟩:=o;obtain⟨l,rfl⟩:=n;exact rule i j t l s _ _ ⟨.int (g i j),H,I.tok _,⟨_,Y⟩,q⟩
def xi{f:Z->Z->Sem Z}{g:Int->Int->Bool}(rule:∀(i j:Int)(t u:Tok)(s:ao)(Q:Z->ao->Prop)(E:Z->ao->Prop),Q (.bool (g i j)) s->aI (aZ X.prog X.w) X.A (f (.int i t) (.int j u)) Q E s):oZ X f (w5 λi j=>.bl (g i j)):=by intro d s p H x y v u Q I o n h;obtain⟨i,j,rfl,rfl,q⟩:=h;obtain⟨t,rfl⟩:=o;obtain⟨l,rfl⟩:=n;exact rule i j t l s _ _ ⟨.bl (g i j),H,I,Y,q⟩
def μ(i j:Int):Prop:=0<j/\j<1073741824
def ι(i j:Int):Prop:=0<=j/\j<=1000000/\i.natAbs<2 ^ 64
def xT(i j:Int):Prop:=(-(2 ^ 64)<i/\i<2 ^ 64)\/(-(2 ^ 64)<j/\j<2 ^ 64)
def xT.ok{i j:Int}(h:xT i j):IntMulOk i j:=by
 rcases h with⟨f,d⟩|⟨f,d⟩
 .exact .of_left (intBits_le_64 f d)
 .exact .of_right (intBits_le_64 f d)
def Z3:oZ X (gY .Add) (w5 λi j=>.int (i+j)):=yj λ_ _ _ _ _ _ _ q=>add_int q
def MK:oZ X (gY .Sub) (w5 λi j=>.int (i-j)):=yj λ_ _ _ _ _ _ _ q=>sub_int q
def Uz:oZ X (gY .Mult) (rI xT λi j=>.int (i*j)):=yk λ_ _ _ _ _ _ _ d q=>mul_int q d.ok
def Oz:oZ X (gY .FloorDiv) (rI μ λi j=>.int (i / j)):=yk λi j _ _ _ _ _ d q=>by have g:(0:Int)<j:=d.1;have f:j<1073741824:=d.2;exact floordiv_int zD (by rw[Int.fdiv_eq_ediv_of_nonneg i zD];exact q) (.inl (PyProof.noPylong_small zD))
def Jq:oZ X (gY .Mod) (rI (λ_ j=>0<j) λi j=>.int (i % j)):=yk λi j _ _ _ _ _ d q=>by have f:(0:Int)<j:=d;exact mod_int' zD (by rw[Int.fmod_eq_emod_of_nonneg i zD];exact q)
def BW:oZ X (gY .Pow) (rI ι λi j=>.int (i ^ j.toNat)):=yk λ_ _ _ _ _ _ _ d q=>pow_int_small d.1 d.2.1 d.2.2 q
def unI{f:Z->Sem Z}{g:Int->Int}(rule:∀(i:Int)(t:Tok)(s:ao)(Q:Z->ao->Prop)(E:Z->ao->Prop),Q (.int (g i) s.toks) {s with toks:=s.toks+1}->aI (aZ X.prog X.w) X.A (f (.int i t)) Q E s):Z' X f (rU λi=>.int (g i)):=by intro d s l H x v Q I j h;obtain⟨i,rfl,q⟩:=h;obtain⟨t,rfl⟩:=j;exact rule i t s _ _ ⟨.int (g i),H,I.tok _,⟨_,Y⟩,q⟩
def Wg:Z' X (unaryOp .USub) (rU λi=>.int (-i)):=unI λ_ _ _ _ _ q=>neg_int q
noncomputable def yd:V->V->Bool
|.non,.non=>true|.non,.int _=>true|.int _,.non=>true|.non,.bl _=>true|.bl _,.non=>true|.non,.str _=>true|.str _,.non=>true
|.int _,.int _=>true|.bl _,.bl _=>true|.str _,.str _=>true|.sN _,.sN _=>true
|.int _,.str _=>true|.str _,.int _=>true|.bl _,.str _=>true|.str _,.bl _=>true
|_,_=>false
def rEq:R2:=λx y H Q=>yd x y=true/\Q (.bl (decide (x=y))) H
def rNe:R2:=λx y H Q=>yd x y=true/\Q (.bl (!decide (x=y))) H
def LP{i j:Int}:decide (V.int i=V.int j)=(i==j):=by rw[c_];simp
def HQ :decide (V.bl i=V.bl j)=(i==j):=by rw[c_];simp
def LM :decide (V.str i=V.str j)=(i==j):=by rw[c_];simp
def LQ :decide (V.sN i=V.sN j)=(i.toList==j.toList):=by rw[c_];cases i;cases j;simp
def ZZ    {Q:VK}{k f:Bool}(I:Inv X d g H s)(q:Q (.bl k) H)(e:k=f):EP X d g Q (.bool f) s:=by subst e;exact⟨.bl k,H,I,Y,q⟩
def Ym:oZ X (cF .Eq) rEq:=by
 intro l s n H x y v u Q I g d h;obtain⟨hs,q⟩:=h;cases x with
|non=>
  cases g;cases y with
 |non=>cases d;exact PySem.EqNone.eq_none_none (ZZ I q zE)
 |bl j=>cases d;exact PySem.EqNone.eq_none_bool (ZZ I q zE)
 |int j=>obtain⟨f,rfl⟩:=d;exact PySem.EqNone.eq_none_int (ZZ I q zE)
 |str j=>obtain⟨f,rfl⟩:=d;exact PySem.EqNone.eq_none_str (ZZ I q zE)
 |_=>exact zI (show false=true from hs) aW
|bl i=>
  cases g;cases y with
 |non=>cases d;exact PySem.EqNone.eq_bool_none (ZZ I q zE)
 |bl j=>cases d;exact eq_bool (ZZ I q HQ)
 |str j=>obtain⟨f,rfl⟩:=d;exact PySem.EqMixed.eq_bool_str (ZZ I q zE)
 |_=>exact zI (show false=true from hs) aW
|int i=>
  obtain⟨t,rfl⟩:=g;cases y with
 |non=>cases d;exact PySem.EqNone.eq_int_none (ZZ I q zE)
 |int j=>obtain⟨f,rfl⟩:=d;exact eq_int (ZZ I q LP)
 |str j=>obtain⟨f,rfl⟩:=d;exact PySem.EqMixed.eq_int_str (ZZ I q zE)
 |_=>exact zI (show false=true from hs) aW
|str i=>
  obtain⟨t,rfl⟩:=g;cases y with
 |non=>cases d;exact PySem.EqNone.eq_str_none (ZZ I q zE)
 |bl j=>cases d;exact PySem.EqMixed.eq_str_bool (ZZ I q zE)
 |int j=>obtain⟨f,rfl⟩:=d;exact PySem.EqMixed.eq_str_int (ZZ I q zE)
 |str j=>obtain⟨f,rfl⟩:=d;exact eq_str (ZZ I q LM)
 |_=>exact zI (show false=true from hs) aW
|sN i=>
  obtain⟨t,rfl⟩:=g;cases y with
 |sN j=>obtain⟨f,rfl⟩:=d;exact PySem.W.eq_bytes (ZZ I q LQ)
 |_=>exact zI (show false=true from hs) aW
|_=>cases y<;>exact zI (show false=true from hs) aW
def JK:oZ X (cF .NotEq) rNe:=by
 intro l s n H x y v u Q I g d h;obtain⟨hs,q⟩:=h;cases x with
|non=>
  cases g;cases y with
 |non=>cases d;exact PySem.EqNone.ne_none_none (ZZ I q zE)
 |bl j=>cases d;exact PySem.EqNone.ne_none_bool (ZZ I q zE)
 |int j=>obtain⟨f,rfl⟩:=d;exact PySem.EqNone.ne_none_int (ZZ I q zE)
 |str j=>obtain⟨f,rfl⟩:=d;exact PySem.EqNone.ne_none_str (ZZ I q zE)
 |_=>exact zI (show false=true from hs) aW
|bl i=>
  cases g;cases y with
 |non=>cases d;exact PySem.EqNone.ne_bool_none (ZZ I q zE)
 |bl j=>cases d;exact ne_bool (ZZ I q (zM not HQ))
 |str j=>obtain⟨f,rfl⟩:=d;exact PySem.EqMixed.ne_bool_str (ZZ I q zE)
 |_=>exact zI (show false=true from hs) aW
|int i=>
  obtain⟨t,rfl⟩:=g;cases y with
 |non=>cases d;exact PySem.EqNone.ne_int_none (ZZ I q zE)
 |int j=>obtain⟨f,rfl⟩:=d;exact ne_int (ZZ I q (zM not LP))
 |str j=>obtain⟨f,rfl⟩:=d;exact PySem.EqMixed.ne_int_str (ZZ I q zE)
 |_=>exact zI (show false=true from hs) aW
|str i=>
  obtain⟨t,rfl⟩:=g;cases y with
 |non=>cases d;exact PySem.EqNone.ne_str_none (ZZ I q zE)
 |bl j=>cases d;exact PySem.EqMixed.ne_str_bool (ZZ I q zE)
 |int j=>obtain⟨f,rfl⟩:=d;exact PySem.EqMixed.ne_str_int (ZZ I q zE)
 |str j=>obtain⟨f,rfl⟩:=d;exact ne_str (ZZ I q (zM not LM))
 |_=>exact zI (show false=true from hs) aW
|sN i=>
  obtain⟨t,rfl⟩:=g;cases y with
 |sN j=>obtain⟨f,rfl⟩:=d;exact PySem.W.ne_bytes (ZZ I q (zM not LQ))
 |_=>exact zI (show false=true from hs) aW
|_=>cases y<;>exact zI (show false=true from hs) aW
def Tc:oZ X (cF .Lt) (w5 λi j=>.bl (decide (i<j))):=xi λ_ _ _ _ _ _ _ q=>lt_int q
def VL:oZ X (cF .LtE) (w5 λi j=>.bl (decide (i<=j))):=xi λ_ _ _ _ _ _ _ q=>le_int q
def JW:oZ X (cF .Gt) (w5 λi j=>.bl (decide (j<i))):=xi λ_ _ _ _ _ _ _ q=>gt_int q
def ML:oZ X (cF .In) (λx y H Q=>∃i j,x=.str i/\y=.str j/\Q (.bl (!(bR j i 0 j.length 1).isEmpty)) H):=by intro d s l H x y v u Q I g f h;obtain⟨i,j,rfl,rfl,q⟩:=h;obtain⟨t,rfl⟩:=g;obtain⟨n,rfl⟩:=f;exact in_str (ZZ I q Y)
def Vi:oZ X (cF .Is) (λx y H Q=>y=.non/\Q (.bl (decide (x=.non))) H):=by
 intro f s i H x y v u Q I d g h;obtain⟨rfl,q⟩:=h;cases g;refine is_none_gen (ZZ I q ?_);cases x<;>first
 |(cases d;rfl)
 |(obtain⟨t,rfl⟩:=d;rfl)
def V9:oZ X (cF .IsNot) (λx y H Q=>y=.non/\Q (.bl (!decide (x=.non))) H):=by
 intro f s i H x y v u Q I d g h;obtain⟨rfl,q⟩:=h;cases g;refine isnot_none_gen (ZZ I q ?_);cases x<;>first
 |(cases d;rfl)
 |(obtain⟨t,rfl⟩:=d;rfl)
def Zu(b:bV){d:CmpOp}(h:d≠.In:=by decide)(f:d≠.NotIn:=by decide):je d b=false:=by
 have i:(d==CmpOp.In)=false:=by cases d<;>first|rfl|exact zI Y h
 have g:(d==CmpOp.NotIn)=false:=by cases d<;>first|rfl|exact zI Y f
 cases b<;>simp[je,i,g]
def Z5{f:CmpOp}{r:R2}(n:oZ X (cF f) r)(t:PE X a ta)(p:PE X b tb)(o:je f b=false):PE X (.Compare a [f] [b] pos) (ua r ta tb):=by intro d s g H Q I h;exact wpAny_Compare1 (xJ t p I h λv u i x y z w l j q=>n d i g z x y v u Q w l j q) o
def Ig(t:TE):TT:=λd H Q=>t d H λx f=>∃k,x=.bl k/\Q k f
def Zo{i:CmpOp}{r:R2}(A:oZ X (cF i) r)(F:PE X a ta)(E:PE X b tb)(C:je i b=false):PT X (.Compare a [i] [b] pos) (Ig (ua r ta tb)):=by
 intro d s g H Q I h;refine wpAny_isTrue_Compare1 (lY (F d s g H _ I h) λv l f=>?_) C;obtain⟨x,W,N,p,w⟩:=f;refine lY (E d l g W _ N w) λu j f=>?_;obtain⟨y,T,M,o,t⟩:=f;refine lY (A d j g T x y v u _ M p o t) λc s3 f=>?_;obtain⟨z,P,L,n,k,e,q⟩:=f;subst e;cases n;exact dk ⟨P,L,q⟩
def Ey(r h:R2)(ta tb tc:TE):TE:=λd H Q=>ta d H λx l=>tb d l λy j=>r x y j λz f=>∃k,z=.bl k /\(if k=true then tc d f λg i=>h y g i Q else Q (.bl false) f)
def SV{j g:CmpOp}{r o:R2}(ho:oZ X (cF j) r)(l:oZ X (cF g) o)(ha:PE X a ta)(hb:PE X b tb)(hc:PE X c tc)(hm:lastMarks [j,g] [b,c]=false:=by with_unfolding_all rfl):PE X (.Compare a [j,g] [b,c] pos) (Ey r o ta tb tc):=by
 intro f s i H Q I h;refine Compare_chain (lY (ha f s i H _ I h) λv L g1=>?_) hm;obtain⟨x,H1,I1,P,q1⟩:=g1;refine chain_link (lY (hb f L i H1 _ I1 q1) λu F g2=>?_);obtain⟨y,H2,I2,n,W⟩:=g2;refine lY (ho f F i H2 x y v u _ I2 P n W) λd E g3=>?_;obtain⟨z,t,q,N,k,e,p⟩:=g3;subst e;cases N;refine dk ?_;cases k with
|false=>exact ite_ff ⟨.bl false,t,q,Y,p⟩
|true=>refine ite_tt (chain_last (lY (hc f E i t _ q p) λA C g4=>?_));obtain⟨w,H4,I4,M,T⟩:=g4;exact l f C i H4 y w u A Q I4 n M T
def Gn  (ho:oZ X (cF o) r)(j:oZ X (cF i) T)(ha:PE X a ta)(hb:PE X b tb)(hc:PE X c tc)(hm:lastMarks [o,i] [b,c]=false:=by with_unfolding_all rfl):PT X (.Compare a [o,i] [b,c] pos) (Ig (Ey r T ta tb tc)):=by
 intro f s g H Q I h;refine isTrue_chain (lY (ha f s g H _ I h) λv F g1=>?_) hm;obtain⟨x,H1,I1,P,q1⟩:=g1;refine test_link (lY (hb f F g H1 _ I1 q1) λu E g2=>?_);obtain⟨y,H2,I2,l,q2⟩:=g2;refine lY (ho f E g H2 x y v u _ I2 P l q2) λd C g3=>?_;obtain⟨z,q,p,N,k,e,n⟩:=g3;subst e;cases N;refine dk ?_;cases k with
|false=>obtain⟨k',e',q'⟩:=n;cases e';exact ite_ff ⟨q,p,q'⟩
|true=>refine ite_tt (test_last (lY (hc f C g q _ p n) λw A g4=>?_));obtain⟨t,H4,I4,M,W⟩:=g4;refine lY (j f A g H4 y t u w _ I4 l M W) λd' s5 g5=>?_;obtain⟨z2,H5,I5,L,k2,e2,q5⟩:=g5;subst e2;cases L;exact dk ⟨H5,I5,q5⟩
def xM(K:af)(x:V)(H:Hp)(k:Bool):Prop:=match x with
|.non=>k=false
|.bl b=>k=b
|.int i=>k=(i != 0)
|.str y=>y.length<=sizeLine/\k=((y.length:Int) != 0)
|.sN y=>y.size<=sizeLine/\k=((y.size:Int) != 0)
|.ref p=>(∃d,jw K H p d/\k=!d.isEmpty)\/(∃d,lR K H p d/\k=!d.isEmpty)\/∃f,H p=O (.dK f)/\k=!f.isEmpty
|_=>False
def W4{f:Type}{d:List (f×V)}{g:List (f×Z)}(r:KV d g):(!g.isEmpty)=!d.isEmpty:=by cases r<;>rfl
def P0{f:List V}{d:List Z}(r:Zt f d):(!d.toArray.isEmpty)=!f.isEmpty:=by cases r<;>simp
def VO:(sizeLine:Nat)<2 ^ 63:=by rw[g_];decide
def IY:γ X (λx H Q=>∃k,xM X.K x H k/\Q k H):=by
 intro C s L H x v Q I l h;obtain⟨k,e,q⟩:=h;have M:=VO;have hs:sizeLine=16777216:=g_;cases x with
|non=>cases l;have d:k=false:=e;subst d;exact truthy_none ⟨H,I,q⟩
|bl b=>cases l;have d:k=b:=e;subst d;exact dk ⟨H,I,q⟩
|int i=>obtain⟨t,rfl⟩:=l;have d:k=(i != 0):=e;subst d;exact PySem.P.truthy_int ⟨H,I,q⟩
|str y=>obtain⟨t,rfl⟩:=l;obtain⟨E,d⟩:y.length<=sizeLine/\k=((y.length:Int) != 0):=e;subst d;exact PySem.P.truthy_str zD ⟨H,I.tok _,q⟩
|sN y=>obtain⟨t,rfl⟩:=l;obtain⟨E,d⟩:y.size<=sizeLine/\k=((y.size:Int) != 0):=e;subst d;exact PySem.W.truthy_bytes zD ⟨H,I.tok _,q⟩
|ref p=>
  cases l;have d:(∃j,jw X.K H p j/\k=!j.isEmpty)\/(∃j,lR X.K H p j/\k=!j.isEmpty)\/∃f,H p=O (.dK f)/\k=!f.isEmpty:=e;rcases d with⟨j,n,d⟩|⟨j,n,d⟩|⟨f,n,d⟩
  .subst d;obtain⟨z,r,u,A⟩:=I.list n;have g:=r.length;exact wpAny_truthy_list u.isList (by simp only[aQ];omega) ⟨H,I.tok _,by rw[P0 r];exact q⟩
  .subst d;obtain⟨z,r,u,A⟩:=I.tuple n;have g:=r.length;exact truthy_tuple u (by simp only[aQ];omega) ⟨H,I.tok _,by rw[P0 r];exact q⟩
  .subst d;obtain⟨A,F,o,r,m⟩:f.length<=sizeLine/\(p==fK)=false/\∃o,KV f o/\s.heap.DictOf (Z1 X.prog X.w) p o:=I.lI p _ n;have g:f.length=o.length:=gv r;exact wpAny_truthy_dict F m zD ⟨H,I.tok _,by rw[W4 r];exact q⟩
|_=>exact(show False from e).elim
def ZS:oZ X (gY .Add) (λx y H Q=>∃i j,x=.str i/\y=.str j/\i.length+j.length<=sizeLine/\Q (.str (i++j)) H):=by intro d s o H x y v u Q I l g h;obtain⟨i,j,rfl,rfl,n,q⟩:=h;obtain⟨t,rfl⟩:=l;obtain⟨f,rfl⟩:=g;exact add_str (λf p=>⟨.str (i++j),H,I.tok _,⟨_,Y⟩,q⟩) n
def vals1{x:V}(r:Zt [x] d):∃u,d=[u]/\RelV x u:=by
 cases r with
|cons g f=>cases f;exact⟨_,Y,g⟩
def vals2{x y:V}(r:Zt [x,y] f):∃u d,f=[u,d]/\RelV x u/\RelV y d:=by
 cases r with
|cons j i=>
  cases i with
 |cons h g=>cases g;exact⟨_,_,Y,j,h⟩
def Ei(l:X.calm=true):XF X (.builtin "max") (λf H Q=>∃i j,f=[.int i,.int j]/\Q (.int (if j>i then j else i)) H):=by
 intro g s n H f p Q I r h;obtain⟨i,j,rfl,q⟩:=h;obtain⟨u,o,rfl,⟨t,rfl⟩,⟨x,rfl⟩⟩:=vals2 r;refine max_two_ints (I.ok.hd l) λy w k=>⟨_,H,I.kept k,?_,q⟩;by_cases d:j>i
 .rw[zH d,zH d];exact⟨_,Y⟩
 .rw[zG d,zG d];exact⟨_,Y⟩
def Yj:XF X (.type "int") (λd H Q=>(∃i,d=[.int i]/\Q (.int i) H)\/∃k,d=[.bl k]/\Q (.int (if k then 1 else 0)) H):=by
 intro f s j H d l Q I r h;rcases h with⟨i,rfl,q⟩|⟨k,rfl,q⟩
 .obtain⟨u,rfl,t,rfl⟩:=vals1 r;exact call_int_int ⟨.int i,H,I,⟨_,Y⟩,q⟩
 .obtain⟨u,rfl,g⟩:=vals1 r;cases g;exact call_int_bool ⟨.int (if k then 1 else 0),H,I.tok _,⟨_,Y⟩,q⟩
def Vr:XF X (.type "str") (λd H Q=>∃i,d=[.int i]/\i.natAbs.log2<1920/\Q (.str (toString i)) H):=by intro f s j H d l Q I r h;obtain⟨i,rfl,g,q⟩:=h;obtain⟨u,rfl,t,rfl⟩:=vals1 r;exact PySem.P.str_of_int g ⟨.str _,H,I.tok _,⟨_,Y⟩,q⟩
def η(K:af)(x:V)(H:Hp)(n:Nat):Prop:=match x with
|.str y=>y.length<=sizeLine/\n=y.length
|.sN y=>y.size<=sizeLine/\n=y.size
|.ref p=>(∃d,jw K H p d/\n=d.length)\/∃d,lR K H p d/\n=d.length
|_=>False
def Aq:XF X (.builtin "len") (λd H Q=>∃x n,d=[x]/\η X.K x H n/\Q (.int n) H):=by
 intro z s E H d F Q I r h;obtain⟨x,n,rfl,e,q⟩:=h;obtain⟨u,rfl,i⟩:=vals1 r;have L:=VO;have hs:sizeLine=16777216:=g_;cases x with
|str y=>obtain⟨t,rfl⟩:=i;obtain⟨C,g⟩:y.length<=sizeLine/\n=y.length:=e;subst g;exact len_str zD ⟨.int _,H,I.tok _,⟨_,Y⟩,q⟩
|sN y=>obtain⟨t,rfl⟩:=i;obtain⟨C,g⟩:y.size<=sizeLine/\n=y.size:=e;subst g;exact PySem.W.len_bytes zD ⟨.int _,H,I.tok _,⟨_,Y⟩,q⟩
|ref p=>
  cases i;have g:(∃d,jw X.K H p d/\n=d.length)\/∃d,lR X.K H p d/\n=d.length:=e;rcases g with⟨d,o,g⟩|⟨d,o,g⟩
  .subst g;obtain⟨w,j,l,A⟩:=I.list o;have f:=j.length;exact Calls.call_len_list l.isList (by simp only[aQ];omega) ⟨.int d.length,H,I.tok _,⟨_,by simp only[aQ];rw[f]⟩,q⟩
  .subst g;obtain⟨w,j,l,A⟩:=I.tuple o;have f:=j.length;exact len_tuple l (by simp only[aQ];omega) ⟨.int d.length,H,I.tok _,⟨_,by simp only[aQ];rw[f]⟩,q⟩
|_=>exact(show False from e).elim
end
open PySem PySem.Spec PyProof.Rows
structure tI(h:bC)(x dx C:G)(mA:U->Option Z):Prop where
 obj:h.get? x=O (fE C dx)
 ns:h.Ns1 dx mA
 ne:dx≠x
def QL{h:bC} (n:h.Ns1 p f):∃c,h.get? p=O c/\∀name,jS name c=O (f name):=by
 obtain⟨o,d,s,i,l,hk,_,j⟩:=n;refine⟨o,i,λname=>?_⟩;have e:=j name;unfold nsFind findBy at e;rw[<-Array.find?_toList]at e;unfold jS;rw[l];dsimp only;split
 .rename_i y q;rw[q]at e;exact zM O e
 .rename_i q;rw[q]at e;have a:d.toList.any (·.refKey)=false:=by rw[List.any_eq_false];intro y g;obtain⟨z,t,b⟩:=hk y (Array.mem_toList_iff.mp g);simp[DictEntry.refKey,b]
  have r:¬d.toList.any (·.refKey)=true:=by rw[a];exact aW
  rw[zG r];exact zM O e
def tI.look   (I:tI h x f C b):∃a,lT h x (fE C f) C (O a)/\∀name,jS name a=O (b name):=let ⟨a,c,d⟩:=QL I.ns
 ⟨a,⟨I.obj,Y,Y,c⟩,d⟩
section
variable {prog:a9}{w:bg}{A:bU}{E:Z->ao->Prop}{s:ao}{K:af}{x dx C f:G}{mA:U->Option Z}{name:U}{v:Z}
def Dq {Q:Z->ao->Prop}(X:K.In s.heap)(I:tI s.heap x dx C mA)(j:iD K C name=true)(i:gG K C=true)(l:a_ K (.ref C) name=O B)(d:mA name=O v)(a:kU v=true)(h:Q v {s with toks:=s.toks+1}):aI (aZ prog w) A (getAttr (.ref x) name b) Q E s:=by obtain⟨n,c,g⟩:=I.look;exact PySem.W.get_value X c (j3 j).1 (PySem.W.findObj_own i l Y (by rw[g,d])) a h
def HD {Q:Z×List Z->ao->Prop}(X:K.In s.heap)(I:tI s.heap x dx C mA)(a:iD K C name=true)(j:a_ K (.ref C) name=O (O (.ref f)))(g:jC K (.ref f)=true)(d:mA name=B)(h:Q (.ref f,[.ref x]) s):aI (aZ prog w) A (jX (.ref x) name l) Q E s:=by obtain⟨c,b,i⟩:=I.look;exact PySem.W.method_fn X b (j3 a).1 (j3 a).2 j (beq_iff_eq.mp g) (by show(jS name c).map (·.isSome)=O false;rw[i,d];rfl) h
def AV {Q:Unit->ao->Prop}(X:K.In s.heap)(I:tI s.heap x dx C mA)(hs:a_ K (.ref C) "__setattr__"=O (O (.builtin "object.__setattr__")))(z:kJ K C=true)(u:lj K C name=O B)(F:gG K C=true)(t:gQ mA p)(L:p.length<=sizeLine)(h:∀g,tI g x dx C (λy=>if y=name then O v else mA y)->gk dx s.heap g->Q () {s with heap:=g,toks:=s.toks+2}):aI (aZ prog w) A (setAttr (.ref x) name v) Q E s:=by obtain⟨P,o,hl⟩:=I.look;refine PySem.W.set_plain X o hs (PySem.W.osa_open (s:={s with toks:=s.toks+1}) (r:=B) X o z u λb=>?_);obtain⟨cd,H,l⟩:=PySem.W.any_some F;have q:s.heap.get? x=O ⟨.ref C,O dx,.plain,#[]⟩:=I.obj;refine ae (aE (ae (ae (wpAny_loadPart q (ae (PySem.W.Looks.here (s:={s with toks:=s.toks+1}) (PySem.W.looks_clsIn X H) ?_))))));rw[l];refine aE (a:=O dx) (ae (aE (ae ?_)));refine wpAny_nsSet1 (s:={s with toks:=s.toks+1}) I.ns λg d c=>?_;obtain⟨T,M,N,i,j,n⟩:=d.count (PySem.Within.cons name v t);refine ae (wpAny_lookBehind i (by rw[j];exact pastItsLine_dict (aj n (by rw[aB];omega))) ?_);exact aE (h _ ⟨(c.2 _ (dc I.ne)).trans I.obj,d,I.ne⟩ c)
def FO {a:List Z}{b:List (U×Z)}(X:K.In s.heap)(i:ly K C=true)(j:a_ K (.ref C) "__init__"=O (O (.ref f)))(l:PySem.W.typeIn K (.ref f)=O (.type "function"))(h:iK (aZ prog w) (A.under (.builtin "type.__call__" ⟨.ref C::a,b⟩)) (.call (.ref f) ⟨.ref (s.heap.objs.size+1)::a,b⟩) (PySem.W.InitBack (s.heap.objs.size+1) c) {s with heap:=(s.heap.push dW).push (fE C s.heap.objs.size)}):iK (aZ prog w) A (.call (.ref C) ⟨a,b⟩) c s:=by obtain⟨n,g,d,t,os⟩:=s;exact PySem.W.make_core (PySem.W.makes_of X i) (iI X j) (λself=>PySem.W.bind_fn X self l) (.inl Y) h
end
noncomputable def lZ(f:U)(v:V):List (U×V)->List (U×V)
|[]=>[(f,v)]
|(g,x)::r=>if g=f then(g,v)::r else(g,x)::lZ f v r
theorem ZV(f g:U)(v:V):∀fs:List (U×V),(lZ f v fs).lookup g=if g=f then O v else fs.lookup g
|[]=>by
  show iR g [(f,v)]=_;by_cases h:g=f
  .have a:(g==f)=true:=beq_iff_eq.mpr h;simp only[iR,a,zH h]
  .have a:(g==f)=false:=beq_eq_false_iff_ne.mpr h;simp only[iR,a,zG h]
|(k,x)::r=>by
  have b:=ZV f g v r;rw[show lZ f v ((k,x)::r)=(if k=f then(k,v)::r else(k,x)::lZ f v r)from rfl];by_cases hk:k=f
  .rw[zH hk];by_cases h:g=k
   .have a:(g==k)=true:=beq_iff_eq.mpr h;simp only[iR,a,zH (h.trans hk)]
   .have a:(g==k)=false:=beq_eq_false_iff_ne.mpr h;simp only[iR,a,zG (λe:g=f=>h (e.trans hk.symm))]
  .rw[zG hk];by_cases h:g=k
   .have a:(g==k)=true:=beq_iff_eq.mpr h;simp only[iR,a,zG (λe:g=f=>hk (h.symm.trans e))]
   .have a:(g==k)=false:=beq_eq_false_iff_ne.mpr h;simp only[iR,a];exact b
theorem JY(f:U)(v:V):∀fs:List (U×V),f∈(lZ f v fs).map (·.1)/\∀g,g∈fs.map (·.1)->g∈(lZ f v fs).map (·.1)
|[]=>⟨by simp[lZ],λg h=>by simp at h⟩
|(k,x)::r=>by
  obtain⟨b,a⟩:=JY f v r;rw[show lZ f v ((k,x)::r)=(if k=f then(k,v)::r else(k,x)::lZ f v r)from rfl];by_cases hk:k=f
  .rw[zH hk];subst hk;exact⟨zE,λg h=>by simpa using h⟩
  .rw[zG hk];refine⟨?_,λg h=>?_⟩
   .rw[aH];exact au _ b
   .rw[aH]at h ⊢;rcases ay.mp h with e|e
    .exact ay.mpr (.inl e)
    .exact au _ (a g e)
theorem Xq(f:U)(v:V):∀fs:List (U×V),(lZ f v fs).length<=fs.length+1
|[]=>by simp[lZ]
|(k,x)::r=>by
  have a:=Xq f v r;rw[show lZ f v ((k,x)::r)=(if k=f then(k,v)::r else(k,x)::lZ f v r)from rfl];by_cases hk:k=f
  .rw[zH hk,aB,aB];omega
  .rw[zG hk,aB,aB];omega
def nW.some_of{v:V}(r:nW (O v) o):∃u,o=O u/\RelV v u:=by
 cases o with
|none=>exact(show False from r).elim
|some u=>exact⟨u,Y,r⟩
def nW.none_of (r:nW B o):o=B:=by
 cases o with
|none=>rfl
|some u=>exact(show False from r).elim
def QR  (r:RelV v u):kU u=true:=by
 cases v with
|non=>cases(show u=b9 from r);rfl
|bl b=>cases(show u=kE b from r);rfl
|int i=>obtain⟨t,e⟩:=(show ∃t,u=j7 i t from r);cases e;rfl
|str x=>obtain⟨t,e⟩:=(show ∃t,u=iH x t from r);cases e;rfl
|sN b=>obtain⟨t,e⟩:=(show ∃t,u=Value.bytes b t from r);cases e;rfl
|xA b=>obtain⟨t,e⟩:=(show ∃t,u=Value.float b t from r);cases e;rfl
|ref a=>cases(show u=aN a from r);rfl
|ty n=>cases(show u=fT n from r);rfl
section
variable {P:a9}{w:bg}{H H':Hp}{h h':bC}{a C dx:G}{fs fs':List (U×V)}
def NW(c:ox P w H h)(e:H a=O (.ins C dx fs)):∃b,tI h a dx C b/\(∀f,nW (fs.lookup f) (b f))/\gQ b (fs.map (·.1))/\fs.length<=1000/\H dx=O (.own a):=by obtain⟨d,z,ne,g,b,n,r,q⟩:=(show ZY P w H h a (.ins C dx fs)from c a _ e);exact⟨b,⟨g,n,ne⟩,r,q,z,d⟩
end
structure t8(K:af)(C:G):Prop where
 pg:iD K C d6=true
 hd:gG K C=true
 po:kJ K C=true
 sa:a_ K (.ref C) "__setattr__"=O (O (.builtin "object.__setattr__"))
def t8.get{K:af}{C:G}(c:t8 K C)(f:U):iD K C f=true:=c.pg
def YL(K:af)(C:G)(f:U):Prop:=a_ K (.ref C) f=O B
def YL.x8{K:af}{C:G}{f:U}(n:YL K C f):lj K C f=O B:=by unfold lj;rw[show a_ K (.ref C) f=O B from n];rfl
structure Meth(K:af)(C:G)(m:U)(f:G):Prop where
 at_:a_ K (.ref C) m=O (O (.ref f))
 fn:jC K (.ref f)=true
 kp:cb K (.ref f)=true
section
variable {X:Cx}{pins:List (G×eN)}{σ:St}{H:Hp}{s:ao}{a C dx:G}{fs:List (U×V)}{f:U}{v:V}{A:bU}{E:Z->ao->Prop}
def W6 {Q:Z->ao->Prop}(I:Inv X pins σ H s)(e:H a=O (.ins C dx fs))(c:t8 X.K C)(n:YL X.K C f)(l:fs.lookup f=O v)(h:∀u d,Inv X pins σ H d->RelV v u->Q u d):aI (aZ X.prog X.w) A (getAttr (.ref a) f b) Q E s:=by obtain⟨j,i,r,_,_,_⟩:=NW I.lI e;obtain⟨u,p,g⟩:=nW.some_of (v:=v) (o:=j f) (by rw[<-l];exact r f);exact Dq I.nE i (c.get f) c.hd n p (QR g) (h u _ (I.tok _) g)
def UB   {Q:Z×List Z->ao->Prop}(I:Inv X pins σ H s)(e:H a=O (.ins C dx fs))(c:t8 X.K C)(k:Meth X.K C m g)(l:fs.lookup m=B)(h:Q (.ref g,[.ref a]) s):aI (aZ X.prog X.w) A (jX (.ref a) m j) Q E s:=by obtain⟨d,b,r,_,_,_⟩:=NW I.lI e;have i:d m=B:=nW.none_of (by rw[<-l];exact r m);exact HD I.nE b (c.get m) k.at_ k.fn i h
def Wz  {Q:Unit->ao->Prop}(I:Inv X pins σ H s)(e:H a=O (.ins C dx fs))(c:t8 X.K C)(n:YL X.K C f)(hl:fs.length<1000)(L:RelV y u)(h:∀l,Inv X pins σ (upd H a (.ins C dx (lZ f y fs))) l->Q () l):aI (aZ X.prog X.w) A (setAttr (.ref a) f u) Q E s:=by
 obtain⟨p,d,r,j,_,t⟩:=NW I.lI e;have M:(fs.map (·.1)).length<=sizeLine:=by rw[bH,g_];omega
 refine AV I.nE d c.sa c.po n.x8 c.hd j M λW i F=>h _ ?_;have P:∃o,W.get? dx=O o:=let ⟨o,_,_,e',_⟩:=i.ns;⟨o,e'⟩
 refine I.write (x:=a) (e:=dx) (by rw[e];exact dE) (.inr t) (λb q T z=>(F.2 b T).trans z) P ?_;refine⟨by rw[Zk d.ne];exact t,?_,d.ne,i.obj,_,i.ns,λg=>?_,λg N=>?_⟩
 .have:=Xq f y fs;omega
 .show nW ((lZ f y fs).lookup g) (if g=f then O u else p g);rw[ZV];by_cases q:g=f
  .rw[zH q,zH q];exact L
  .rw[zG q,zG q];exact r g
 .by_cases q:g=f
  .rw[q];exact(JY f y fs).1
  .refine(JY f y fs).2 g (j g λz=>N ?_);show(if g=f then O u else p g)=B;rw[zG q];exact z
def Inv.made(I:Inv X pins σ H s):Inv X pins σ (upd (upd H s.heap.objs.size (.own (s.heap.objs.size+1))) (s.heap.objs.size+1) (.ins C s.heap.objs.size [])) {s with heap:=(s.heap.push dW).push (fE C s.heap.objs.size)}:=by
 have c:(s.heap.push dW).get? s.heap.objs.size=O dW:=aR s.heap Y;have i:((s.heap.push dW).push (fE C s.heap.objs.size)).get? (s.heap.objs.size+1)=O (fE C s.heap.objs.size):=by have:=aR (s.heap.push dW) (o:=fE C s.heap.objs.size) Y;rwa [fZ]at this
 have h:(s.heap.push dW).Ns s.heap.objs.size (λ_=>B):=⟨dW,#[],_,c,Y,(λe g=>zI g zE),λ_=>rfl⟩;have j:=I.laid (a:=s.heap.objs.size) (o:=.own (s.heap.objs.size+1)) (h':=s.heap.push dW) (t':=s.toks) (λb u q=>av _ q) (aq _) ⟨_,c⟩;refine j.laid (a:=s.heap.objs.size+1) (o:=.ins C s.heap.objs.size []) (t':=s.toks) (λb u q=>av _ q) (la (fZ _ _)) ?_;have ne:s.heap.objs.size≠s.heap.objs.size+1:=bc (fv _);refine⟨by rw[Zk ne,Zc],bK _,ne,i,λ_=>B,(Heap.Ns1.of_empty h).at λo q=>av _ q,λ_=>dE,λy d=>zI Y d⟩
def LW        (g:fD e f b (cM e b)=cM e b)(h:aI (aZ c w) A (cM e b) (λo d=>aI (aZ c w) A (getAttr o f true) Q E d) E s):aI (aZ c w) A (cM (.Attribute e f i) b) Q E s:=Attribute_any_ h (by rw[arm_eval_Attribute,g])
end
def u6(K:af)(d:TE)(f:U):TE:=λc H Q=>d c H λx b=>∃a C g fs v,x=.ref a/\b a=O (.ins C g fs)/\t8 K C/\YL K C f/\fs.lookup f=O v/\Q v b
def va(K:af)(i h:TE)(f:U):TS:=λg b H=>h b H λy j=>i b j λx d=>∃a C c fs,x=.ref a/\d a=O (.ins C c fs)/\t8 K C/\YL K C f/\fs.length<1000 /\g.nx b (upd d a (.ins C c (lZ f y fs)))
section
variable {X:Cx}{o e value:bV}{f:U}{pos pos' zm:iG}{ta tv:TE}
def Yw(j:PE X e ta)(p:fD e f X.env (cM e X.env)=cM e X.env):PE X (.Attribute e f pos) (u6 X.K ta f):=by intro b s d H Q I h;refine LW p (lY (j b s d H _ I h) λu L r=>?_);obtain⟨x,A,z,g,a,C,M,fs,v,t,w,c,n,l,q⟩:=r;subst t;obtain rfl:u=aN a:=g;exact W6 z w c n l λE F y i=>⟨v,A,y,i,q⟩
def Ve(z:PE X o ta)(w:PE X value tv)(hs:jA value (O (.Attribute o f pos')) pos.line X.env=pure false):PS X (.Assign [.Attribute o f pos'] value pos) (va X.K ta tv f):=by intro b s d H P I h;refine iX (lY (w b s d H _ I h) λu i g=>?_) hs;obtain⟨y,N,M,j,q⟩:=g;refine lY (z b i d N _ M q) λt T g=>?_;obtain⟨x,H2,L,p,a,C,W,fs,A,E,c,n,l,r⟩:=g;subst A;obtain rfl:t=aN a:=p;exact Wz L E c n l j λQ F=>⟨d,_,F,r⟩
def IC          (L:PE X e y)(I:Inv X b j H s)
  (h:y j H λx n=>∃a C r fs g,x=.ref a/\n a=O (.ins C r fs)/\t8 X.K C/\Meth X.K C m g/\fs.lookup m=B /\
   ∀i,Inv X b j n i->aI (aZ X.prog X.w) X.A (callWith pos (.ref g) [.ref a] (eh pos (bf args X.env)) (iL pos (fY [] X.env))) Q X.xe i)
  (F:cM (.Call (.Attribute e m d) args [] pos) X.env=(do
   let p <-cM e X.env
   standAt d.atName
   let (f,first) <-jx [p] (jX p m E)
   callWith pos f first (eh pos (bf args X.env)) (iL pos (fY [] X.env)))):
  aI (aZ X.prog X.w) X.A (cM (.Call (.Attribute e m d) args [] pos) X.env) Q X.xe s:=by
 refine jL (pl:=E) (lY (L b s j H _ I h) λu i M=>?_) F;obtain⟨x,n,t,z,a,C,r,fs,g,N,P,c,k,l,q⟩:=M
 subst N
 obtain rfl:u=aN a:=z
 exact UB t P c k l (q i t)
end
section
variable {X:Cx}{pins:List (G×eN)}{σ:St}{H:Hp}{s:ao}{A:bU}{E:Z->ao->Prop}{Q:Z->ao->Prop}{c:Z}{b:Bool}
inductive pX(K:af)(H:Hp):V->Z->Prop where
|non:pX K H .non (.type "NoneType")
|bl (x:Bool):pX K H (.bl x) (.type "bool")
|int (i:Int):pX K H (.int i) (.type "int")
|str (x:U):pX K H (.str x) (.type "str")
|xA (x:UInt64):pX K H (.xA x) (.type "float")
|lst {a:G}{xs:List V} (e:H a=O (.lst xs)):pX K H (.ref a) (.type "list")
|ti {a:G}{o:eN}{xs:List V} (e:H a=O (.ti o (.lst xs))):pX K H (.ref a) (.type "list")
|tup {a:G}{xs:List V} (e:H a=O (.tup xs)):pX K H (.ref a) (.type "tuple")
|dK {a:G}{n9:List (Key×V)} (e:H a=O (.dK n9)):pX K H (.ref a) (.type "dict")
|dT {a:G}{n9:List (List Key×V)} (e:H a=O (.dT n9)):pX K H (.ref a) (.type "dict")
|ins {a C dx:G}{fs:List (U×V)} (e:H a=O (.ins C dx fs)) (cl:t8 K C) (ha:a_ K (.ref C) "__class__"=O (O (.builtin "object.__class__")))
   (hn:PySem.W.specialIn K (.builtin "object.__class__") "__get__"=O (O (.builtin "getset_descriptor.__get__"))) (htk:PySem.W.takesIn K (.builtin "object.__class__")=O true)
   (hm:js K C (.type "object")=O true):pX K H (.ref a) (.ref C)
def DA  (I:Inv X pins σ H s)(d:RelV x u)(ty:pX X.K H x t)(e:bw X.K t c=O b)(h:∀P,Q (.bool b) {s with toks:=P}):aI (aZ X.prog X.w) A (call (.builtin "isinstance") [u,c]) Q E s:=by
 cases ty with
|non=>cases(show u=b9 from d);exact dI PySem.W.kitx_none I.nE dE e (λz=>nomatch z) h
|bl y=>cases(show u=kE y from d);exact dI PySem.W.kitx_bool I.nE dE e (λz=>nomatch z) h
|int i=>obtain⟨t,q⟩:=(show ∃t,u=j7 i t from d);cases q;exact dI PySem.W.kitx_int I.nE dE e (λz=>nomatch z) h
|str y=>obtain⟨t,q⟩:=(show ∃t,u=iH y t from d);cases q;exact dI PySem.W.kitx_str I.nE dE e (λz=>nomatch z) h
|xA y=>obtain⟨t,q⟩:=(show ∃t,u=Value.float y t from d);cases q;exact dI PySem.W.kitx_float I.nE dE e (λz=>nomatch z) h
|@lst a l f=>cases(show u=aN a from d);obtain⟨_,_,n,_,g⟩:=(show ZY X.prog X.w H s.heap a (.lst l)from I.lI a _ f);exact dI kL I.nE ⟨_,g,Y⟩ e (λz=>nomatch z) h
|@ti a T l f=>cases(show u=aN a from d);obtain⟨_,_,_,n,_,g⟩:=(show ZY X.prog X.w H s.heap a (.ti T (.lst l))from I.lI a _ f);exact dI kL I.nE ⟨_,g,Y⟩ e (λz=>nomatch z) h
|@tup a l f=>cases(show u=aN a from d);obtain⟨_,_,_,p⟩:=(show ZY X.prog X.w H s.heap a (.tup l)from I.lI a _ f);obtain⟨o,g,r,_⟩:=p;exact dI PySem.W.kitx_tuple I.nE ⟨o,g,r⟩ e (λz=>nomatch z) h
|@dK a j f=>cases(show u=aN a from d);obtain⟨_,_,vs,_,p⟩:=(show ZY X.prog X.w H s.heap a (.dK j)from I.lI a _ f);obtain⟨o,es,ep,g,r,_⟩:=p;exact dI kM I.nE ⟨o,g,r.1⟩ e (λz=>nomatch z) h
|@dT a j f=>cases(show u=aN a from d);obtain⟨_,_,l,_,o,es,ep,g,r,_⟩:=(show ZY X.prog X.w H s.heap a (.dT j)from I.lI a _ f);exact dI kM I.nE ⟨o,g,r.1⟩ e (λz=>nomatch z) h
|@ins a C dx fs f L ha hn F hm=>cases(show u=aN a from d);obtain⟨mA,M,_⟩:=NW I.lI f;obtain⟨od,N,_⟩:=M.look;exact dI (PySem.W.kitx_own (L.get _) L.hd ha hn F hm) I.nE N e (λz=>nomatch z) h
end
open PySem PySem.Spec PyProof.Rows
structure l9(k:Nat)(A:bU):Prop where
 hd:A.handled=B
 dp:A.depth+3*k+5<recursionLimit
 un:A.units+16*k+200<iE
 gd:A.guards=O []
def l9.mono{j k:Nat}(r:l9 k A)(h:j<=k):l9 j A:=⟨r.hd,by have:=r.dp;omega,by have:=r.un;omega,r.gd⟩
theorem l9.deeper{k:Nat}(r:l9 (k+1) A)(a:jI):l9 k (A.deeper a):=⟨r.hd,by have:=r.dp;show A.depth+1+3*k+5<_;omega,by have:=r.un;show A.units+3+16*k+200<_;omega,r.gd⟩
def WY{A:bU}{a:List Z}{b:List (U×Z)}:(A.under (.builtin "type.__call__" ⟨.ref C::a,b⟩)).depth=A.depth+1:=by first|rfl|simp[kO,Code.weight,Code.isCreation,Code.isGuard,Code.isCaller,Code.frames,Code.isFrame,guardIds]
def WX{A:bU}{a:List Z}{b:List (U×Z)}:(A.under (.builtin "type.__call__" ⟨.ref C::a,b⟩)).units=A.units+1:=by first|rfl|simp[kO,Code.cUnits,Code.frames,Code.isFrame]
def Tn{A:bU}{a:List Z}{b:List (U×Z)}:(A.under (.builtin "type.__call__" ⟨.ref C::a,b⟩)).guards=A.guards:=by first|rfl|simp[kO,Code.guards,Code.isGuard,pushGuards,guardIds]
def l9.make{k:Nat}(r:l9 (k+1) A)(C:G)(a:List Z)(b:List (U×Z)):l9 k (A.under (.builtin "type.__call__" ⟨.ref C::a,b⟩)):=⟨r.hd,by have:=r.dp;rw[WY];omega,by have:=r.un;rw[WX];omega,by rw[Tn];exact r.gd⟩
theorem l9.depth{k:Nat}(r:l9 k A):A.depth<recursionLimit:=by have:=r.dp;omega
theorem l9.units{k:Nat}(r:l9 k A):A.units+64<iE:=by have:=r.un;omega
def mq:TA:=λ_ H Q=>Q [] H
def Yg(d:TE)(c:TA):TA:=λa H Q=>d a H λx g=>c a g λb f=>Q (x::b) f
section
variable {X:Cx}{e:bV}{es:List bV}{te:TE}{t:TA}{pos:iG}
def Zg:PA X [] mq:=λ_ _ _ _ H Q I h=>jv ⟨[],H,I,.nil,h⟩
def Zj(o:PE X e te)(n:PA X es t)(hs:bf (e::es) X.env=(false,cM e X.env)::bf es X.env:=by rfl):PA X (e::es) (Yg te t):=by intro pos a s c H Q I h;rw[hs];show aI _ _ (spliced ((false,cM e X.env)::eh pos (bf es X.env))) _ _ s;refine ig (lY (o a s c H _ I h) λu f b=>?_);obtain⟨x,w,q,i,l⟩:=b;refine lY (n pos a f c w _ q l) λy z b=>?_;obtain⟨d,r,p,g,j⟩:=b;exact ⟨x::d,r,p,.cons i g,j⟩
def x9(t:TA):TE:=λc H Q=>t c H λa b=>a.length<=sizeLine/\∀p,b p=B->Q (.ref p) (upd b p (.tup a))
def ya(t:TA):TE:=λc H Q=>t c H λa b=>a.length<=sizeLine/\∀p,b p=B->Q (.ref p) (upd b p (.lst a))
def Yo{l}(h:PA X es t):PE X (.Tuple es l pos) (x9 t):=by intro a s i H Q I o;refine wpAny_Tuple_spliced (lY (h pos a s i H _ I o) λn c g=>?_);obtain⟨j,f,d,r,z,q⟩:=g;refine⟨by rw[<-r.length];exact z,?_⟩;have p:f c.heap.objs.size=B:=d.lI.fresh (aq _);refine⟨.ref c.heap.objs.size,upd f c.heap.objs.size (.tup j),d.laid (t':=c.toks) (λb u e=>av _ e) (aq _) ?_,Y,q _ p⟩;exact⟨z,n,r,⟨_,aR _ Y,Y,_,Y⟩⟩
def Zw(h:PA X es t):PE X (.List es pos) (ya t):=by intro a s i H Q I n;refine wpAny_List_spliced (lY (h pos a s i H _ I n) λl c g=>?_);obtain⟨j,f,d,r,z,q⟩:=g;refine⟨by rw[<-r.length];exact z,?_⟩;have o:f c.heap.objs.size=B:=d.lI.fresh (aq _);refine⟨.ref c.heap.objs.size,upd f c.heap.objs.size (.lst j),d.laid (t':=c.toks) (λb u e=>av _ e) (aq _) ?_,Y,q _ o⟩;exact⟨z,l,0,r,aR _ Y⟩
end
abbrev Sp:=List V->Hp->VK->XK->Prop
abbrev sJ:=List jI->Hp->ao->XK->Z->ao->Prop
structure rK(P:a9)(w:bg)(K:af)(J:U->Option Z)(S:bC)(A:bU)(outer:List jI)(s:ao)(H:Hp):Prop where
 frames:A.frames=O outer
 mod:Mod K J S
 bs:∀b o,S.get? b=O o->s.heap.get? b=O o/\H b=B
 uu:S.objs.size<=s.heap.objs.size
 oB:s.heap.FunFrames S outer
 uV:∀b∈m6 outer,H b=B
 lI:ox P w H s.heap
 bare:jc s.gens
def CE(a:List jI)(P:a9)(w:bg)(H:Hp)(s:ao)(Q:VK)(u:Z)(b:ao):Prop:=∃v c,b.os=s.os/\jc b.gens/\Un (m6 a) [] H c s.heap b.heap/\ox P w c b.heap/\RelV v u/\Q v c
def CR(c:sJ)(a:List jI)(P:a9)(w:bg)(H:Hp)(s:ao)(Q:VK)(E:XK)(r:Result)(b:ao):Prop:=match r with
|.ok (.ret u)=>CE a P w H s Q u b
|.ok _=>False
|.error e=>c a H s E e b
structure m7(P:a9)(w:bg)(K:af)(J:U->Option Z)(S:bC)(CX:sJ)(k:Nat)(f:G)(fd:fe)(ps:List U)(sp:Sp):Prop where
 len:∀vs H Q E,sp vs H Q E->vs.length=ps.length
 run:∀(A:bU)(outer:List jI)(s:ao)(H:Hp)(args:Args)(us:List Z)(vs:List V)(Q:VK)(E:XK),l9 k A->rK P w K J S A outer s H->BindsTo s fd args (ps.zip us)->Zt vs us->sp vs H Q E ->
  iK (aZ P w) A (.call (.ref f) args) (CR CX outer P w H s Q E) s
theorem m7.mono{P:a9}{w:bg}{K:af}{J:U->Option Z}{S:bC}{d:sJ}{j k:Nat}{f:G}{c:fe}{b:List U}{sp:Sp}(F:m7 P w K J S d j f c b sp)(h:j<=k):m7 P w K J S d k f c b sp:=⟨F.len,λA a s H args i g Q E l=>F.run A a s H args i g Q E (l.mono h)⟩
def rK.make{P:a9}{w:bg}{K:af}{J:U->Option Z}{S:bC}{A:bU}{a:List jI}{s:ao}{H:Hp}(e:rK P w K J S A a s H)(C:G)(b:List Z)(c:List (U×Z)):rK P w K J S (A.under (.builtin "type.__call__" ⟨.ref C::b,c⟩)) a s H:=⟨by first|exact e.frames|(simpa[kO,Code.envs,Code.isFrame,pushEnvs]using e.frames),e.mod,e.bs,e.uu,e.oB,e.uV,e.lI,e.bare⟩
section
variable {X:Cx}{pins:List (G×eN)}{σ:St}{H:Hp}{s s':ao}
def Inv.wh(I:Inv X pins σ H s):rK X.prog X.w X.K X.mg X.base X.A X.stack s H:=⟨I.ok.frames,I.ok.mod,I.bs,aj I.ok.uu I.sz,I.stack,I.nI,I.lI,I.bare⟩
def Inv.after  (I:Inv X pins σ H s)(h:CE X.stack X.prog X.w H s Q u s'):EP X pins σ Q u s':=by obtain⟨v,j,os,a,un,f,r,q⟩:=h;obtain⟨i,g,d,t,c⟩:=s';obtain rfl:c=s.os:=os;exact⟨v,j,I.call (h':=i) (g':=g) (d':=d) (t':=t) (ch:=[]) un f a (λb z=>zI z zE),r,q⟩
end
def Ui(sp:Sp)(a:List V)(E:XK)(t:TA):TE:=λb H Q=>t b H λc d=>sp (c++a) d Q E
def QC(C:G)(m:U)(sp:Sp)(b:List V)(E:XK)(g:TE)(t:TA):TE:=λc H Q=>g c H λx d=>∃a h fs,x=.ref a/\d a=O (.ins C h fs)/\fs.lookup m=B /\t c d λf i=>sp (x::(f++b)) i Q E
def Zao(C:G)(sp:Sp)(c:List V)(E:XK)(t:TA):TE:=λd H Q=>t d H λf b=>∀x a,b x=B->b a=B->a≠x ->sp (.ref x::(f++c)) (upd (upd b a (.own x)) x (.ins C a [])) (λv g=>v=.non/\Q (.ref x) g) E
def Binds(K:af)(d:fe)(b:List U)(c:List Z):Prop:=∀(s:ao)(a:List Z),K.In s.heap->(a++c).length=b.length->BindsTo s d ⟨a,[]⟩ (b.zip (a++c))
def Binds.all{K:af}{d:fe}{b:List U}(h:∀a:List Z,a.length=b.length->bindArgs d ⟨a,[]⟩=pure (b.zip a)):Binds K d b []:=λs a _ c=>by rw[bj]at c ⊢;exact .of_eq (h a c)
def Yx(d:sJ)(X:Cx)(E:XK):Prop:=∀(a:List (G×eN))(c:St)(H:Hp)(s:ao)(e:Z)(b:ao),Inv X a c H s->d X.stack H s E e b->X.xe e b
section
variable {X:Cx}{CX:sJ}{k:Nat}{f C:G}{fd:fe}{ps:List U}{sp:Sp}{dvs:List V}{ds:List Z}{E:XK}{x m:U}{p pos apos:iG}{e o:bV}{es:List bV}{ta:TE}{t:TA}
def WE       (F:m7 X.prog X.w X.K X.mg X.base CX k f fd ps sp)(j:l9 k X.A)(q:Binds X.K fd ps ds)(n:Zt dvs ds)(i:Yx CX X E)(I:Inv X a c H s)(r:Zt vs us)(h:sp (vs++dvs) H Q E):aI (aZ X.prog X.w) X.A (call (.ref f) us) (EP X a c Q) X.xe s:=by
 have d:Zt (vs++dvs) (us++ds):=r.append n;have l:(us++ds).length=ps.length:=by rw[<-d.length];exact F.len _ _ _ _ h
 refine jB (iM (F.run X.A X.stack s H ⟨us,[]⟩ (us++ds) (vs++dvs) Q E j I.wh (q s us I.nE l) d h) λr g b=>?_);cases r with
|error e=>exact i a c H s e g I b
|ok y=>
  cases y with
 |ret u=>exact I.after b
 |next=>exact cV b
 |brk=>exact cV b
 |cont=>exact cV b
def Lo(F:m7 X.prog X.w X.K X.mg X.base CX k f fd ps sp)(j:l9 k X.A)(n:Gl X x)(l:X.mg x=O (.ref f))(hk:cb X.K (.ref f)=true)(z:Binds X.K fd ps ds)(y:Zt dvs ds)(i:Yx CX X E)(L:PA X (e::es) t)(c:(x==("__debug__":U))=false:=by decide)(u:bf (e::es) X.env=(false,cM e X.env)::bf es X.env:=by rfl)(b:(eh pos (bf es X.env)).any (·.1)=false:=by rfl):PE X (.Call (.Name x p) (e::es) [] pos) (Ui sp dvs E t):=by intro a s g H Q I h;refine eU (Ji I n l ?_ c);refine gf (h₀:=X.base) I.ok.mod.v8 hk (lY (L pos a s g H _ I h) λP T M=>?_) u b;obtain⟨N,W,d,r,q⟩:=M;refine ⟨d.nE,?_⟩;exact WE F j z y i d r q
def Ow (he:PE X o ta)(c:t8 X.K C)(y:Meth X.K C m f)(F:m7 X.prog X.w X.K X.mg X.base CX k f fd ps sp)(hr:l9 k X.A)(hb:Binds X.K fd ps ds)(hd:Zt dvs ds)(hx:Yx CX X E)(ha:PA X (e::es) t)
  (g:bf (e::es) X.env=(false,cM e X.env)::bf es X.env:=by rfl) (i:(eh pos (bf es X.env)).any (·.1)=false:=by rfl)
  (ht:cM (.Call (.Attribute o m apos) (e::es) [] pos) X.env=(do
   let n <-cM o X.env
   standAt apos.atName
   let (f,first) <-jx [n] (jX n m pl)
   callWith pos f first (eh pos (bf (e::es) X.env)) (iL pos (fY [] X.env))):=by rfl):
  PE X (.Call (.Attribute o m apos) (e::es) [] pos) (QC C m sp dvs E ta t):=by
 intro b s j H Q I h
 refine jL (pl:=pl) (lY (he b s j H _ I h) λu P d=>?_) ht;obtain⟨x,H1,L,T,a,dx,fs,ex,ea,l,q⟩:=d
 subst ex
 obtain rfl:u=aN a:=T
 refine UB L ea c y l ?_
 refine gf (first:=[.ref a]) (h₀:=X.base) I.ok.mod.v8 y.kp (lY (ha pos b P j H1 _ L q) λN s2 d=>?_) g i;obtain⟨M,H2,z,r,W⟩:=d;refine ⟨z.nE,?_⟩
 exact WE (us:=.ref a::N) (vs:=.ref a::M) F hr hb hd hx z (.cons Y r) W
def Fp (M:PE X o ta)(c:t8 X.K C)(i:Meth X.K C m f)(F:m7 X.prog X.w X.K X.mg X.base CX k f fd ps sp)(L:l9 k X.A)(P:Binds X.K fd ps ds)(N:Zt dvs ds)(y:Yx CX X E)
  (z:cM (.Call (.Attribute o m apos) [] [] pos) X.env=(do
   let g <-cM o X.env
   standAt apos.atName
   let (f,first) <-jx [g] (jX g m r)
   callWith pos f first (eh pos (bf [] X.env)) (iL pos (fY [] X.env))):=by rfl):
  PE X (.Call (.Attribute o m apos) [] [] pos) (QC C m sp dvs E ta mq):=by
 intro b s j H Q I h
 refine jL (pl:=r) (lY (M b s j H _ I h) λu s1 T=>?_) z;obtain⟨x,H1,d,n,a,dx,fs,ex,ea,l,q⟩:=T
 subst ex
 obtain rfl:u=aN a:=n
 refine UB d ea c i l ?_
 exact PySem.W.callWith_K0 (first:=[.ref a]) d.nE i.kp (WE (us:=[.ref a]) (vs:=[.ref a]) F L P N y d (.cons Y .nil) q)
structure Mk(K:af)(C f:G):Prop where
 makes:ly K C=true
 init:a_ K (.ref C) "__init__"=O (O (.ref f))
 fn:jC K (.ref f)=true
 kp:cb K (.ref C)=true
end
structure ia(N P:List U)(sc:dh):Prop where
 kind:sc.kind=.function
 co:sc.isCoroutine=false
 gen:sc.isGenerator=false
 nd:N.Nodup
 pre:N.take P.length=P
 par:∀x∈P,sc.names.lookup x=O .local\/sc.names.lookup x=O .cell
 xm:∀y∈sc.names,y.2≠.free
theorem Q3{kindOf:U->Option gZ}{x:U}:∀{binds:List (U×Z)}{m:U->Option Z},(∀v,(x,v)∉binds)->bindL kindOf binds m x=m x
|[],_,_=>rfl
|(n,v)::r,m,h=>by
  unfold bindL;rw[Q3 λw a=>h w (au _ a)];split
  .have:x≠n:=by rintro rfl;exact h v ax
   simp[this]
  .rfl
theorem Q5{kindOf:U->Option gZ}{x:U}:∀{binds:List (U×Z)}{m:U->Option Z},(∀v,(x,v)∉binds)->bindC kindOf binds m x=m x
|[],_,_=>rfl
|(n,v)::r,m,h=>by
  unfold bindC;rw[Q5 λw a=>h w (au _ a)];split
  .rfl
  .have:x≠n:=by rintro rfl;exact h v ax
   simp[this]
theorem Q4{kindOf:U->Option gZ}{x:U}{v:Z}:∀{P:List U}{a:List Z}{i:Nat}{m:U->Option Z},P.Nodup->P[i]?=O x->a[i]?=O v->kindOf x=O .local ->bindL kindOf (P.zip a) m x=O v
|[],_,_,_,_,h,_,_=>by simp at h
|_::_,[],_,_,_,_,h,_=>by simp at h
|p::P,w::a,0,m,d,c,b,hk=>by simp at c b;subst c;subst b;show bindL kindOf ((p,w)::P.zip a) m p=_;unfold bindL;rw[Q3 λv f=>(d9.mp d).1 (gF f).1,zH hk];simp
|p::P,w::a,i+1,m,d,c,b,hk=>by show bindL kindOf ((p,w)::P.zip a) m x=_;unfold bindL;exact Q4 (i:=i) (d9.mp d).2 (by simpa using c) (by simpa using b) hk
theorem Q6{kindOf:U->Option gZ}{x:U}{v:Z}:∀{P:List U}{a:List Z}{i:Nat}{m:U->Option Z},P.Nodup->P[i]?=O x->a[i]?=O v->kindOf x≠O .local ->bindC kindOf (P.zip a) m x=O v
|[],_,_,_,_,h,_,_=>by simp at h
|_::_,[],_,_,_,_,h,_=>by simp at h
|p::P,w::a,0,m,d,c,b,hk=>by simp at c b;subst c;subst b;show bindC kindOf ((p,w)::P.zip a) m p=_;unfold bindC;rw[Q5 λv f=>(d9.mp d).1 (gF f).1,zG hk];simp
|p::P,w::a,i+1,m,d,c,b,hk=>by show bindC kindOf ((p,w)::P.zip a) m x=_;unfold bindC;exact Q6 (i:=i) (d9.mp d).2 (by simpa using c) (by simpa using b) hk
noncomputable def start(N:List U)(a:List V):St:=a.map O++bS (N.length-a.length) B
noncomputable def nr(g:sJ)(P:a9)(w:bg)(K:af)(J:U->Option Z)(S:bC)(N:List U)(c:U)(a:dh)(f:G)(cd:Z)(A:bU)(b:List jI)(s:ao)(H:Hp)(E:XK):Cx where
 prog:=P
 w:=w
 K:=K
 mg:=J
 base:=S
 A:=A.deeper (f_ c a s.heap.objs.size f cd)
 N:=N
 nv:=s
 sH:=H
 env:=f_ c a s.heap.objs.size f cd
 outer:=b
 stack:=f_ c a s.heap.objs.size f cd::b
 ex:=[]
 calm:=true
 fn:=λ_=>true
 pn:=[]
 xe:=λe h=>aI (aZ P w) (A.deeper (f_ c a s.heap.objs.size f cd)) (leaving (f_ c a s.heap.objs.size f cd) e) (λ_ d=>g b H s E e d) (λi d=>g b H s E i d) h
def TV{a:dh}{n:Nat}(h:a.names.lookup x=O .cell):∃c,(cellsFrom n a.names []).lookup x=O c:=by have q:=jD a.names n [] (.inl h);exact eJ.mp q
def QP{CX:sJ}{P:a9}{w:bg}{K:af}{J:U->Option Z}{S:bC}{N F:List U}{j:U}{d:dh}{f:G}{cd:Z}{A:bU}{g:List jI}{s X:ao}{H:Hp}{E:XK}{W:List Z}{C:List V}(t:ia N F d)(hd:A.handled=B)(o:rK P w K J S A g s H)(hl:C.length=F.length)(r:Zt C W)(x:InCallC s s.heap.objs.size (bindL (f_ j d s.heap.objs.size f cd).kindOf (F.zip W) λ_=>B) (cellsFrom (s.heap.objs.size+1) d.names []) (bindC (f_ j d s.heap.objs.size f cd).kindOf (F.zip W) λ_=>B) X):Inv (nr CX P w K J S N j d f cd A g s H E) [] (start N C) H X:=by
 have aa:F.length<=N.length:=by have:=zM d8 t.pre;rw[aY]at this;omega
 obtain⟨T,tk,rfl,hk⟩:=x.done;have I:∀b:G,b∉(nr CX P w K J S N j d f cd A g s H E).ex:=λb z=>zI (show b∈([]:List G)from z) zE;refine⟨⟨o.mod,t.kind,Y,Y,aq _,λy z c T l=>?_,λy hy=>?_,λy c _ h=>?_,λ_=>hd,Around.frames_deeper o.frames,.inr ⟨Y,Y⟩,λb z=>zI z (I b),o.bs,o.uu,λb _ _=>I b,λb z=>zI z (I b),o.oB,o.uV⟩,Y,o.bare,Un.kept hk,⟨_,x.toInCall.ns,λi y v T l h3=>?_⟩,λy c h=>⟨_,x.cell y c h⟩,o.lI.fresh (aq _),λy c h=>?_,λp L=>zI (show p∈([]:List (G×eN))from L) zE,o.lI.kept hk,?_⟩
 .exact name_of_addr x.apart (fW T) (fW l)
 .have hy:d.names.lookup y=O .cell\/d.names.lookup y=O .free:=hy;rcases hy with hy|hy
  .exact TV hy
  .exact zI Y (t.xm _ (fW hy))
 .exact eQ (x.above y c (fW h))
 .have Q:i<C.length:=by
   unfold start at l;by_cases Q:i<C.length
   .exact Q
   .rw[fA (by simpa using Q)]at l;rw[List.getElem?_replicate]at l;split at l<;>cases l
  have ha:C[i]?=O v:=by
   unfold start at l;rw[fJ (by simpa using Q),aT]at l;cases e:C[i]? with
  |none=>rw[e]at l;cases l
  |some a=>rw[e]at l;cases l;rfl
  obtain⟨u,hu,rv⟩:=r.get ha;have L:F[i]?=O y:=by rw[<-t.pre,List.getElem?_take_of_lt zD];exact T
  have M:F.Nodup:=by rw[<-t.pre];exact t.nd.sublist (List.take_sublist _ _)
  refine⟨u,rv,?_⟩;rcases t.par y (cU L)with k|k
  .exact .inl ⟨k,Q4 M L hu k⟩
  .obtain⟨c,e⟩:=TV (n:=s.heap.objs.size+1) k;refine .inr ⟨.inl k,c,e,?_⟩;have q:=x.cell y c e;rw[Q6 M L hu (by show d.names.lookup y≠_;rw[k];decide)]at q;exact q
 .exact o.lI.fresh (eQ (x.above y c (fW h)))
 .unfold start;show _=N.length;rw[aD,bH,eG];omega
def IH   {K:af} {k:Nat}    {dV kV aa pm g ct oc:Z}{an od:Option G}{ab:Array (Option Z)}{sp:Sp}(lk:K.lookup f=O ⟨oc,od,.func (dw name d j z a dV kV aa pm an g ct),ab⟩)(ai:fU K g d=true)(L:ia N ps a)(len:∀h H Q E,sp h H Q E->h.length=ps.length)(F:∀(A:bU)(c:List jI)(s:ao)(H:Hp)(h:List V)(Q:VK)(E:XK),l9 k (A.deeper (f_ d a s.heap.objs.size f g))->sp h H Q E ->∃t,qg (nr CX P w K J S N d a f g A c s H E) z t/\t {nx:=λ_ p=>Q .non p,rt:=Q} (start N h) H):m7 P w K J S CX (k+1) f (dw name d j z a dV kV aa pm an g ct) ps sp:=by
 refine⟨len,λA c s H args us h Q E hr M hb r T=>?_⟩;have hl:=len _ _ _ _ T;have KX:K.In s.heap:=M.mod.v8.keeps λb o e=>(M.bs b o e).1;have ah:s.heap.NoLimit:=M.mod.nolimit.keeps λb o e=>(M.bs b o e).1;have C:∀y∈ps.zip us,a.names.lookup y.1=O .local\/(a.names.lookup y.1=O .cell/\((cellsFrom (s.heap.objs.size+1) a.names []).lookup y.1).isSome=true):=λ⟨n,v⟩hy=>by
  rcases L.par n (gF hy).1 with q|q
  .exact .inl q
  .exact .inr ⟨q,jD _ _ _ (.inl q)⟩
 refine codeAny_call_function hr.depth (KX _ _ lk) Y L.co L.gen Y (PySem.W.codeRec_of KX ai) (hb _ _ _ _ ?_);refine wpAny_newFunctionEnv_cells L.kind C λak he s1 x=>?_;subst he;refine⟨ah.keeps x.toInCall.keep,codeAny_func ?_⟩;obtain⟨t,ht,hq⟩:=F A c s H h Q E (hr.deeper _) T;have I:Inv (nr CX P w K J S N d a f g A c s H E) [] (start N h) H s1:=QP L hr.hd M hl r x;refine dQ (ht [] s1 (start N h) H _ I hq) (λfl s' hs=>?_) λe s' hs=>hs;have X:∀{i:St}{p:Hp}{v:V}{u:Z},Inv (nr CX P w K J S N d a f g A c s H E) [] i p s'->RelV v u->Q v p->CE c P w H s Q u s':=λ{i p v u}l rv q=>⟨v,p,l.os,l.bare,l.base,l.lI,rv,q⟩;cases fl with
|ret u=>obtain⟨v,i,p,l,rv,q⟩:=hs;exact X l rv q
|next=>obtain⟨i,p,l,q⟩:=hs;exact X (v:=V.non) (u:=b9) l Y q
|brk=>obtain⟨_,_,_,q⟩:=hs;exact cV q
|cont=>obtain⟨_,_,_,q⟩:=hs;exact cV q
open PySem PySem.Spec PyProof.Rows
section
variable {X:Cx}{x:U}{p pos:iG}{e:bV}{es:List bV}{t:TA}{id T:String}{r:List V->Hp->VK->Prop}
def yL(r:List V->Hp->VK->Prop)(t:TA):TE:=λa H Q=>t a H λb c=>r b c Q
def Zz(w:XF X (.builtin id) r)(u:Gl X x)(q:X.mg x=B)(n:dj x=O (.builtin id))(y:PA X (e::es) t)(o:x≠"__name__":=by decide)(c:(x==("__debug__":U))=false:=by decide)(he:bf (e::es) X.env=(false,cM e X.env)::bf es X.env:=by rfl)(b:(eh pos (bf es X.env)).any (·.1)=false:=by rfl):PE X (.Call (.Name x p) (e::es) [] pos) (yL r t):=by intro a s d H Q I h;refine eU (Vl I u q n ?_ o c);refine PyProof.Rows.callWith_builtin1 (lY (y pos a s d H _ I h) λg i z=>?_) he b;obtain⟨f,C,A,j,l⟩:=z;exact w a i d C f g Q A j l
def ZE(y:XF X (.type T) r)(u:Gl X x)(q:X.mg x=B)(n:dj x=O (.type T))(z:PA X (e::es) t)(o:x≠"__name__":=by decide)(c:(x==("__debug__":U))=false:=by decide)(w:bf (e::es) X.env=(false,cM e X.env)::bf es X.env:=by rfl)(b:(eh pos (bf es X.env)).any (·.1)=false:=by rfl):PE X (.Call (.Name x p) (e::es) [] pos) (yL r t):=by intro a s d H Q I h;refine eU (Vl I u q n ?_ o c);refine c8 (lY (z pos a s d H _ I h) λg i A=>?_) w b;obtain⟨f,E,C,j,l⟩:=A;exact y a i d E f g Q C j l
end
end L2
namespace HT
open PySem PyProof.Rows
section
variable {prog:a9}{w:bg}{A:bU}{E:Z->ao->Prop}{s:ao}
def wm {c ws:List Z}{Q:Z->ao->Prop}(C:IsTup s.heap t c.toArray)(H:IsTup s.heap b ws.toArray)(q:c≠[])(L:ws=[]->Q (.ref t) s)(I:ws≠[]->Q (.ref s.heap.objs.size) {s with heap:=s.heap.push {cls:=.type "tuple",data:=.seq (c++ws).toArray}})(l:c.length+ws.length<=sizeLine):aI (aZ prog w) A (gY .Add (.ref t) (.ref b)) Q E s:=by
 obtain⟨⟨M,x,y,o⟩,j,u,n,r⟩:=id C;obtain⟨⟨z,h,data2,d⟩,a,g,p,f⟩:=id H;simp only at u r g f;subst u r g f;have e:c.toArray++ws.toArray=(c++ws).toArray:=by simp
 by_cases i:ws=[]
 .exact concat_meets ⟨_,j,Y⟩ ⟨_,a,Y⟩ noFill_tuple_add seq_tuple_add PySem.F.slot_tuple_add PySem.F.entry_tuple_add (PySem.F.args_tuple_add_2 _ _) (tuple_addW1 t b c.toArray ws.toArray n p x h o d (by simpa using q) (by simp[i])) ⟨j,a,L i⟩
 .refine concat_meets ⟨_,j,Y⟩ ⟨_,a,Y⟩ noFill_tuple_add seq_tuple_add PySem.F.slot_tuple_add PySem.F.entry_tuple_add (PySem.F.args_tuple_add_2 _ _) (tuple_addW2 t b c.toArray ws.toArray n p x h o d (by simpa using q) (by simpa using i) (by rw[aQ,aQ];exact l)) ⟨j,a,?_⟩;rw[e];exact I i
noncomputable def mF(n d:Nat):Option Int->Nat
|none=>d
|some v=>if v<0 then(v+(n:Int)).toNat else min v.toNat n
def tR(n d k:Nat):mF n d (O (k:Int))=min k n:=by show(if(k:Int)<0 then((k:Int)+(n:Int)).toNat else min (k:Int).toNat n)=min k n;rw[zG zD,cw]
def BB(n d:Nat)(b:d<=n)(o:Option Int):mF n d o<=n:=by
 cases o with
|none=>exact b
|some v=>
  show(if v<0 then(v+(n:Int)).toNat else min v.toNat n)<=n;by_cases a:v<0
  .rw[zH a];omega
  .rw[zG a];exact Nat.min_le_right _ _
def LU(v:Int)(n d:Nat):(if v<0 then max (v+(n:Int)) 0 else min v (n:Int))=((mF n d (O v):Nat):Int):=by
 show(if v<0 then max (v+(n:Int)) 0 else min v (n:Int))=(((if v<0 then(v+(n:Int)).toNat else min v.toNat n):Nat):Int);by_cases a:v<0
 .simp only[zH a];omega
 .simp only[zG a];omega
def Kw(lo a:Option Int)(n:Nat):iP lo a 1 (n:Int)=(((mF n 0 lo:Nat):Int),((mF n n a:Nat):Int)):=by
 have b:¬((1:Int)<0):=by omega
 unfold iP;simp only[b,if_false];refine iQ ?_ ?_
 .cases lo with
 |none=>rfl
 |some v=>exact LU v n 0
 .cases a with
 |none=>rfl
 |some v=>exact LU v n n
def WH(i j:Nat):gH (i:Int) (j:Int) 1=j-i:=by
 unfold gH;have a:(1:Int)>0:=by omega
 simp only[a,if_true,lb];split<;>omega
def Pf  {Q:Option Int->ao->Prop}(p:IsPart v o)(h:Q o s):aI (aZ prog w) A (Builtin.Slice.slicePartIndex v) Q E s:=by
 cases p with
|none=>exact slicePart_none h
|int i t=>exact slicePart_int h
def ME{g:G}{f d:Z}{lo a:Option Int}{n:Nat}{Q:Int×Int×Nat->ao->Prop}(hs:s.heap.IsSliceOf g f d .none)(j:IsPart f lo)(i:IsPart d a)(h:Q (((mF n 0 lo:Nat):Int),1,mF n n a-mF n 0 lo) s):aI (aZ prog w) A (kN (.ref g) (pure (n:Int))) Q E s:=by
 obtain⟨os,b,l,c⟩:=id hs;unfold kN Builtin.Slice.sliceFields;refine ae (ae (bG b c (x:=f) Y (ae (bG b c (x:=d) Y (ae (bG b c (x:=.none) Y (aE ?_)))))));refine ae (slicePart_none ?_);show aI _ _ (if((1:Int)==0)=true then _ else _) _ _ s;rw[zG D];refine ae (Pf j (ae (Pf i (ae (aE ?_)))));show aI _ _ (match iP lo a 1 (n:Int)with|(lo,a)=>pure (lo,(1:Int),gH lo a 1)) _ _ s
 rw[Kw lo a n];show aI _ _ (pure (((mF n 0 lo:Nat):Int),(1:Int),gH ((mF n 0 lo:Nat):Int) ((mF n n a:Nat):Int) 1)) _ _ s;rw[WH];exact aE h
def Fj(a:Array Z)(i k:Nat):((bB k).filterMap λ(m:Nat)=>a[((i:Int)+(m:Int)*1).toNat]?).toArray=((a.toList.drop i).take k).toArray:=by
 have e:(λ(m:Nat)=>a[((i:Int)+(m:Int)*1).toNat]?)=λm=>a[i+m]?:=by
  funext m;have:((i:Int)+(m:Int)*1).toNat=i+m:=by omega
  rw[this]
 rw[e];have:=pick_run a i k;rw[List.filterMap_map]at this;have b:((λx=>a[x]?) ∘ λx=>i+x)=λm=>a[i+m]?:=rfl;rw[b]at this;rw[this]
def qa{t f:G}{a:Array Z}{o n:Z}{lo c:Option Int}{Q:Z->ao->Prop}(d:IsTup s.heap t a)(hs:s.heap.IsSliceOf f o n .none)(r:IsPart o lo)(p:IsPart n c)(u:¬(mF a.size 0 lo=0/\mF a.size a.size c=a.size))(h:Q (.ref s.heap.objs.size) {s with heap:=s.heap.push {cls:=.type "tuple",data:=.seq ((a.toList.drop (mF a.size 0 lo)).take (mF a.size a.size c-mF a.size 0 lo)).toArray}})(x:a.size<=sizeLine):aI (aZ prog w) A (kX (.ref t) (.ref f)) Q E s:=by
 have b:sizeOk (.seq ((a.toList.drop (mF a.size 0 lo)).take (mF a.size a.size c-mF a.size 0 lo)).toArray):=by show((a.toList.drop (mF a.size 0 lo)).take (mF a.size a.size c-mF a.size 0 lo)).toArray.size<=sizeLine;rw[aQ,aY,cL,ki];omega
 have F:mF a.size a.size c<=a.size:=BB _ _ (aq _) c;obtain⟨os,g,j,y⟩:=id hs;have l:s.TypeIs (.ref f) "slice":=⟨os,g,j⟩;unfold kX;try with_reducible refine bL ?_
 first|refine ae (aE ?_)|skip
 refine ae (wpAny_sequenceKey d.typeIs D ?_);refine ae (dC (name:=bh "__getitem__") d.typeIs ib (eS ib d.typeIs entry_tuple_getitem ?_ (args_tuple_getitem _ _)));show aI _ _ (Builtin.Tuple.tupleItemsOf (.ref t) >>= _) _ _ s;refine ae (tupleItemsOf_ d ?_);refine ae (jy l ?_);rw[zH D];refine ae (ME hs r p ?_);have i:¬((((mF a.size 0 lo:Nat):Int)==0&&(1:Int)==1&&(mF a.size a.size c-mF a.size 0 lo)==a.size)=true):=by intro q;rw[bJ,bJ]at q;have C:((mF a.size 0 lo:Nat):Int)=0:=eq_of_beq q.1.1;have z:mF a.size a.size c-mF a.size 0 lo=a.size:=eq_of_beq q.2;exact u ⟨zD,zD⟩
 show aI _ _ (if(((mF a.size 0 lo:Nat):Int)==0&&(1:Int)==1&&(mF a.size a.size c-mF a.size 0 lo)==a.size)=true then _ else _) _ _ s;rw[zG i,Fj];first
 |exact ae (m:=gL _) (fh (aE ⟨_,Y,aE h⟩) b)
 |exact ae (m:=gL _) (fh (ae (aE (aE ⟨_,Y,aE h⟩))) b)
 |exact ae (ae (m:=gL _) (fh (aE (aE ⟨_,Y,aE h⟩)) b))
 |exact ae (ae (m:=gL _) (fh (aE ⟨_,Y,aE h⟩) b))
end
end HT
namespace L2
open PySem PySem.Spec PyProof.Rows
abbrev TO:=St->Hp->(Option Int->Hp->Prop)->Prop
def PO(X:Cx)(e:Option bV)(t:TO):Prop:=∀(a:List (G×eN))(s:ao)(b:St)(H:Hp)(Q:Option Int->Hp->Prop),Inv X a b H s->t b H Q ->aI (aZ X.prog X.w) X.A (evalPart e X.env) (λu d=>∃o c,Inv X a b c d/\IsPart u o/\Q o c) X.xe s
def AO:TO:=λ_ H Q=>Q B H
def Zam(t:TE):TO:=λa H Q=>t a H λx b=>∃i,x=.int i/\Q (O i) b
def intsAre_of{b:List Int}:∀{a:List Z},Zt (b.map V.int) a->IntsAre a b:=by
 induction b with
|nil=>intro a r;rw[cJ]at r;cases r;exact .nil
|cons n b f=>
  intro a r;rw[aH]at r;cases r with
 |cons d c=>obtain⟨t,e⟩:=d;subst e;exact .cons n t (f c)
section
variable {X:Cx}{e:bV}{te:TE}{lo hi:Option bV}{tl th:TO}{pos p2:iG}
def ZQ:PO X B AO:=by intro a s b H Q I h;rw[evalPart_none];exact aE ⟨B,H,I,.none,h⟩
def ZP(h:PE X e te):PO X (O e) (Zam te):=by intro a s b H Q I f;rw[evalPart_some];refine lY (h a s b H _ I f) λu n g=>?_;obtain⟨x,l,j,c,d⟩:=g;obtain⟨i,rfl,q⟩:=d;obtain⟨t,rfl⟩:=c;exact⟨O i,l,j,.int i t,q⟩
def yQ(X:Cx)(r:V->Option Int->Option Int->Hp->VK->Prop):Prop:=∀(a:List (G×eN))(s:ao)(b:St)(H:Hp)(x:V)(v d c:Z)(lo hi:Option Int)(f:G)(Q:VK),Inv X a b H s->RelV x v->s.heap.IsSliceOf f d c .none->IsPart d lo->IsPart c hi->r x lo hi H Q ->∃T id,lP (.type T) "__getitem__"=pure (O (.builtin id))/\s.TypeIs v T/\aI (aZ X.prog X.w) X.A (kX v (.ref f)) (EP X a b Q) X.xe s
def tSl(r:V->Option Int->Option Int->Hp->VK->Prop)(te:TE)(tl th:TO):TE:=λa H Q=>te a H λx d=>tl a d λl c=>th a c λu b=>r x l u b Q
def ZG (M:yQ X r)(W:PE X e te)(N:PO X lo tl)(F:PO X hi th):PE X (.Subscript e (.Slice lo hi B p2) pos) (tSl r te tl th):=by intro a s d H Q I h;refine Subscript_ (lY (W a s d H _ I h) λv o f=>?_);obtain⟨x,H1,I1,p,z⟩:=f;refine wpAny_Slice (lY (N a o d H1 _ I1 z) λi n f=>?_);obtain⟨l,H2,I2,E,y⟩:=f;refine lY (F a n d H2 _ I2 y) λg c f=>?_;obtain⟨u,j,I3,C,t⟩:=f;rw[evalPart_none];refine aE ?_;have I4:Inv X a d j {c with heap:=c.heap.push {cls:=.type "slice",data:=.fields #[i,g,.none]}}:=I3.kept (t':=c.toks) λb ob q=>av _ q;obtain⟨T,id,hT,L,P⟩:=M a {c with heap:=c.heap.push {cls:=.type "slice",data:=.fields #[i,g,.none]}} d j x v i g l u c.heap.objs.size Q I4 p (Heap.IsSliceOf.new ..) E C t;show aI (aZ X.prog X.w) X.A (subscriptTail e (.Slice lo hi B p2) v (.ref c.heap.objs.size)) (EP X a d Q) X.xe {c with heap:=c.heap.push {cls:=.type "slice",data:=.fields #[i,g,.none]}};exact tail_any (ops:=[.ref c.heap.objs.size,v]) L hT P (by with_unfolding_all rfl)
noncomputable def m_(a:List V)(lo hi:Option Int):List V:=(a.drop (HT.mF a.length 0 lo)).take (HT.mF a.length a.length hi-HT.mF a.length 0 lo)
def VR(a:List V)(lo hi:Option Int):(m_ a lo hi).length<=a.length:=by unfold m_;rw[aY,cL];omega
def wZ(K:af):V->Option Int->Option Int->Hp->VK->Prop:=λx lo hi H Q=>∃a b,x=.ref a/\lR K H a b /\¬(HT.mF b.length 0 lo=0/\HT.mF b.length b.length hi=b.length)/\∀p,H p=B->Q (.ref p) (upd H p (.tup (m_ b lo hi)))
def EW:yQ X (wZ X.K):=by
 intro j s w H x v z y lo hi A Q I l hs p n h;obtain⟨a,d,rfl,t,u,q⟩:=h;cases l;obtain⟨f,r,i,g⟩:=I.tuple t;have c:f.toArray.size=d.length:=by rw[aQ];exact r.length.symm
 refine⟨"tuple",_,ib.lookup,i.typeIs,?_⟩;refine HT.qa i hs p n (by rw[c];exact u) ?_ (by rw[c];exact g);rw[c];refine⟨.ref s.heap.objs.size,_,I.laid (t':=s.toks) (o:=.tup (m_ d lo hi)) (λb C q=>av _ q) (aq _) ?_,Y,q _ (I.lI.fresh (aq _))⟩;exact⟨aj (VR d lo hi) g,_,(r.drop (HT.mF d.length 0 lo)).take (HT.mF d.length d.length hi-HT.mF d.length 0 lo),IsTup.new _ _⟩
def ZaB(K:af):R2:=λx y H Q=>∃a b d c,x=.ref a/\y=.ref b/\lR K H a d/\lR K H b c/\d≠[]/\d.length+c.length<=sizeLine /\(c=[]->Q (.ref a) H)/\(c≠[]->∀p,H p=B->Q (.ref p) (upd H p (.tup (d++c))))
def Zt.ro  (r:Zt a b):b=[]↔a=[]:=by
 cases r with
|nil=>simp
|cons _ _=>simp
def OA:oZ X (gY .Add) (ZaB X.K):=by intro g s L H x y v u Q I p n h;obtain⟨a,b,l,j,rfl,rfl,E,C,A,f,t,r⟩:=h;cases p;cases n;obtain⟨F,d,p1,_⟩:=I.tuple E;obtain⟨i,c,p2,_⟩:=I.tuple C;refine HT.wm p1 p2 (λz=>A (d.ro.mp z)) (λz=>⟨.ref a,H,I,Y,t (c.ro.mp z)⟩) (λz=>?_) (by rw[<-d.length,<-c.length];exact f);refine⟨.ref s.heap.objs.size,_,I.laid (t':=s.toks) (o:=.tup (l++j)) (λb M q=>av _ q) (aq _) ?_,Y,r (λw=>z (c.ro.mpr w)) _ (I.lI.fresh (aq _))⟩;exact⟨by rw[aD];exact f,_,d.append c,IsTup.new _ _⟩
end
open PySem PySem.Spec PyProof.Rows
noncomputable def v9(n:Nat)(i:Int):Option Nat:=if 0<=i then(if i<n then O i.toNat else B)else if -(n:Int)<=i then O (i+n).toNat else B
noncomputable def oY{a:Type}(b:List a)(i:Int):Option a:=(v9 b.length i).bind λj=>b[j]?
def Lw{n:Nat}{i:Int}{j:Nat}(h:v9 n i=O j):seqIndex? i n=O j/\j<n/\-(n:Int)<=i/\i<n:=by
 unfold v9 at h;by_cases b:0<=i
 .rw[zH b]at h;by_cases a:i<n
  .rw[zH a]at h;have e:i.toNat=j:=aJ h;exact⟨by rw[seqIndex_of b a,e],zD,zD,a⟩
  .rw[zG a]at h;cases h
 .rw[zG b]at h;by_cases a:-(n:Int)<=i
  .rw[zH a]at h;have e:(i+n).toNat=j:=aJ h;exact⟨by rw[seqIndex_neg zD a,e],zD,a,zD⟩
  .rw[zG a]at h;cases h
def RO{b:Type}{a:List b}{i:Int}{v:b}(h:oY a i=O v):∃j,seqIndex? i a.length=O j/\a[j]?=O v/\j<a.length/\-(a.length:Int)<=i/\i<a.length:=by
 unfold oY at h;cases e:v9 a.length i with
|none=>rw[e]at h;cases h
|some j=>rw[e]at h;obtain⟨g,f,d,c⟩:=Lw e;exact⟨j,g,h,f,d,c⟩
def Zy{a:Type}{xs:List a}{j:Nat}{v:a}(h:xs[j]?=O v):oY xs (j:Int)=O v:=by
 have b:j<xs.length:=(aU.mp h).1;have e:v9 xs.length (j:Int)=O j:=by unfold v9;rw[zH zD,zH zD];simp
 unfold oY;rw[e];exact h
def T6{b:Type}(a:List b)(v:b):oY (a++[v]) (-1)=O v:=by
 have c:(a++[v]).length=a.length+1:=by simp
 have e:v9 (a++[v]).length (-1)=O a.length:=by unfold v9;rw[c,zG D,zH zD];congr 1;omega
 unfold oY;rw[e];show(a++[v])[a.length]?=O v;simp
def RS(b:bV):Prop:=∀o i,subscripted b false o i=operate [o,i] (kX o i)
def yR(X:Cx)(r:R2):Prop:=∀(c a:bV)(b:List (G×eN))(s:ao)(d:St)(H:Hp)(x y:V)(v u:Z)(Q:VK),Inv X b d H s->RelV x v->RelV y u->r x y H Q ->subscripted a false v u=operate [v,u] (kX v u)->aI (aZ X.prog X.w) X.A (subscriptTail c a v u) (EP X b d Q) X.xe s
def yG(X:Cx)(id:String)(r:V->List V->Hp->VK->Prop):Prop:=∀(a:List (G×eN))(s:ao)(b:St)(H:Hp)(x:V)(c:List V)(v:Z)(d:List Z)(Q:VK),Inv X a b H s->RelV x v->Zt c d->r x c H Q ->aI (aZ X.prog X.w) X.A (call (.builtin id) (v::d)) (EP X a b Q) X.xe s
section
variable {X:Cx}{a b:bV}{ta tb:TE}{pos:iG}
def Yh{r:R2}(j:yR X r)(n:PE X a ta)(l:PE X b tb)(hs:RS b):PE X (.Subscript a b pos) (ua r ta tb):=by intro c s d H Q I h;exact Subscript_ (xJ n l I h λv u f x y p o i g q=>j a b c f d p x y v u Q o i g q (hs _ _))
def vg(K:af):R2:=λx y H Q=>∃p c i v,x=.ref p/\y=.int i/\jw K H p c/\oY c i=O v/\Q v H
def ue(K:af):R2:=λx y H Q=>∃p c i v,x=.ref p/\y=.int i/\lR K H p c/\oY c i=O v/\Q v H
def z6:R2:=λx y H Q=>∃z i c,x=.str z/\y=.int i/\z.length<=sizeLine/\oY z.cps.toList i=O c/\Q (.str ⟨#[c]⟩) H
def OO:yR X (vg X.K):=by
 intro A C c s E H x y v u Q I P N h hs;obtain⟨p,xs,i,z,rfl,rfl,T,he,q⟩:=h;cases P;obtain⟨t,rfl⟩:=N;obtain⟨o,r,g,hz⟩:=I.list T;obtain⟨j,f,h2,h3,h4,h5⟩:=RO he;obtain⟨w,L,n⟩:=r.get h2;have W:=r.length;have hn:=VO;have d:EP X c E Q w s:=⟨z,H,I,n,q⟩;by_cases F:0<=i
 .have l:i.toNat=j:=by rw[seqIndex_of F h5]at f;exact aJ f
  exact item_listR g.isList F zD (by rw[l];simpa using L) d hs
 .have l:(i+(o.toArray.size:Int)).toNat=j:=by rw[seqIndex_neg zD h4]at f;rw[aQ,<-W];exact aJ f
  exact subscriptTail_builtinR (x:=w) g.isList.typeIs slot_list_getitem.lookup (wpAny_getItem_list_neg (Q:=λr M=>r=w/\EP X c E Q r M) g.isList zD (by rw[aQ]<;>omega) zD (by rw[l];simpa using L) ⟨Y,d⟩) hs
def Yl:yR X (ue X.K):=by intro g l c s n H x y v u Q I E C h hs;obtain⟨p,xs,i,z,rfl,rfl,F,M,q⟩:=h;cases E;obtain⟨t,rfl⟩:=C;obtain⟨W,r,o,hz⟩:=I.tuple F;obtain⟨j,P,N,h3,h4,h5⟩:=RO M;obtain⟨w,T,d⟩:=r.get N;have L:=r.length;have hn:=VO;have f:EP X c n Q w s:=⟨z,H,I,d,q⟩;exact subscriptTail_builtinR (x:=w) o.typeIs ib.lookup (getItem_tuple (j:=j) (Q:=λr A=>r=w/\EP X c n Q r A) o zD zD (by rw[aQ,<-L];exact P) (by simpa using T) ⟨Y,f⟩) hs
def VP:yR X z6:=by
 intro d f l s L H x y v u Q I o n h hs;obtain⟨z,i,c,rfl,rfl,N,r,q⟩:=h;obtain⟨t,rfl⟩:=o;obtain⟨M,rfl⟩:=n;obtain⟨j,g,C,T,A,w⟩:=RO r;have p:z.cps.toList.length=z.length:=by simp[Str.length]
 rw[p]at g A w;have P:=VO;exact tail_any (j_ s z t) slot_str_getitem.lookup (getItem_str (c:=c) (by have F:decide (i < -(2 ^ 63:Int))=false:=zK zD;have E:decide (i >= 2 ^ 63)=false:=zK zD;rw[F,E,kG]) (by rw[g];simpa using C) ⟨.str ⟨#[c]⟩,H,I.tok _,⟨_,Y⟩,q⟩) hs
def WW(c:List Z)(n j:Nat)(u:Z):dG (·.setIfInBounds j u) {cls:=.type "list",data:=.seq c.toArray n}={cls:=.type "list",data:=.seq (c.set j u).toArray n}:=by simp[dG]
theorem Inv.lst{d:List (G×eN)}{g:St}{H:Hp}{s:ao}{p:G}{f:List V}(I:Inv X d g H s)(h:H p=O (.lst f)):∃(c:List Z)(n:Nat),Zt f c/\s.heap.get? p=O {cls:=.type "list",data:=.seq c.toArray n}/\f.length<=sizeLine:=by obtain⟨z,c,n,r,e⟩:=I.lI p _ h;exact⟨c,n,r,e,z⟩
def Inv.xp      {d c:List Z}{n i:Nat}{f:eN->eN}(I:Inv X g o H s)(h:H p=O (.lst A))(y:s.heap.get? p=O {cls:=.type "list",data:=.seq d.toArray n})(l:f {cls:=.type "list",data:=.seq d.toArray n}={cls:=.type "list",data:=.seq c.toArray i})(r:Zt j c)(w:j.length<=sizeLine)(t:Nat):Inv X g o (upd H p (.lst j)) {s with heap:=s.heap.update p f,toks:=t}:=by
 have e:(s.heap.update p f).get? p=O {cls:=.type "list",data:=.seq c.toArray i}:=by rw[bF f y (by rw[l]<;>rfl),l]
 refine I.write (x:=p) (e:=p) (by rw[h];trivial) (.inl Y) (λb u z q=>(bq _ _ (dc z)).trans q) ⟨_,e⟩ ?_;exact⟨w,c,i,r,e⟩
def Zay:V->V->V->Hp->(Hp->Prop)->Prop:=λo i v H Q=>∃p c k j,o=.ref p/\i=.int k/\H p=O (.lst c)/\v9 c.length k=O j/\Q (upd H p (.lst (c.set j v)))
def PF:yD X Zay:=by
 intro d s C H o i v T iv u Q I L M F h;obtain⟨p,E,k,j,rfl,rfl,w,P,q⟩:=h;cases L;obtain⟨t,rfl⟩:=M;obtain⟨c,n,r,g,N⟩:=I.lst w;obtain⟨f,h2,y,x⟩:=Lw P;have l:=r.length;have hn:=VO;have A:Inv X d C (upd H p (.lst (E.set j v))) {s with heap:=s.heap.update p (dG (·.setIfInBounds j u))}:=I.xp w g (WW c n j u) (r.set F j) (by rw[List.length_set];exact N) s.toks;by_cases z:0<=k
 .have hk:k.toNat=j:=by rw[seqIndex_of z x]at f;exact aJ f
  exact PySem.W.ki_setAt g z zD (by rw[aQ,<-l];exact x) (by rw[hk];exact⟨_,A,q⟩)
 .have hk:(k+(c.toArray.size:Int)).toNat=j:=by rw[seqIndex_neg zD y]at f;rw[aQ,<-l];exact aJ f
  exact PySem.W.ki_setBack g zD (by rw[aQ,<-l];exact y) zD (by rw[hk];exact⟨_,A,q⟩)
def Rj(lo c:Option Int)(n:Nat):(jg lo c B n).1=((HT.mF n 0 lo:Nat):Int)/\(jg lo c B n).2.1=((HT.mF n n c:Nat):Int)/\(jg lo c B n).2.2=1:=by
 refine⟨?_,?_,Y⟩
 .cases lo with
 |none=>simp[jg,HT.mF]
 |some i=>
   simp only[jg,HT.mF,Option.getD_none,show(1:Int)>0 by decide,if_true];by_cases h:i<0
   .simp only[h,if_true]<;>omega
   .simp only[h,if_false]<;>omega
 .cases c with
 |none=>simp[jg,HT.mF]
 |some i=>
   simp only[jg,HT.mF,Option.getD_none,show(1:Int)>0 by decide,if_true];by_cases h:i<0
   .simp only[h,if_true]<;>omega
   .simp only[h,if_false]<;>omega
def Qn(c:List Z)(lo d:Option Int):slicePick c.toArray lo d B=((c.drop (HT.mF c.length 0 lo)).take (HT.mF c.length c.length d-HT.mF c.length 0 lo)).toArray:=by obtain⟨h,g,f⟩:=Rj lo d c.toArray.size;unfold slicePick;rw[h,g,f];simp only[sliceRange_one,pick_run,aQ]<;>rfl
def ny(K:af):V->Option Int->Option Int->Hp->VK->Prop:=λx lo d H Q=>∃a c,x=.ref a/\jw K H a c/\∀p,H p=B->Q (.ref p) (upd H p (.lst (m_ c lo d)))
def Z0:yQ X (ny X.K):=by intro i s w H x v z y lo f A Q I j hs n l h;obtain⟨a,c,rfl,t,q⟩:=h;cases j;obtain⟨u,r,g,p⟩:=I.list t;have d:=r.length;refine⟨"list",_,slot_list_getitem.lookup,g.isList.typeIs,?_⟩;refine wpAny_getItem_list_slice g.isList hs n l .none zE ?_ (by rw[aQ]<;>omega);rw[Qn,<-d];refine⟨.ref s.heap.objs.size,_,I.laid (t':=s.toks) (o:=.lst (m_ c lo f)) (λb C q=>av _ q) (aq _) ?_,Y,q _ (I.lI.fresh (aq _))⟩;exact⟨aj (VR c lo f) p,_,0,(r.drop (HT.mF c.length 0 lo)).take (HT.mF c.length c.length f-HT.mF c.length 0 lo),aR _ Y⟩
noncomputable def Vv:V->Bool
|.non=>true
|.bl _=>true
|.int _=>true
|.str _=>true
|_=>false
noncomputable def we:V->V->Bool
|.non,.non=>true
|.bl a,.bl b=>a==b
|.bl a,.int b=>(if a then 1 else 0)==b
|.int a,.bl b=>a==(if b then 1 else 0)
|.int a,.int b=>a==b
|.str a,.str b=>a==b
|_,_=>false
def C9    (f:RelV y u)(c:RelV x v)(h:Vv y=true)(g:Vv x=true):kF A s u v (we y x):=by
 cases y with
|non=>
  cases f;cases x with
 |non=>cases c;exact SeqAt.EqAt.same _
 |bl b=>cases c;exact SeqAt.EqAt.none_bool b
 |int b=>obtain⟨t,rfl⟩:=c;exact SeqAt.EqAt.none_int b t
 |str b=>obtain⟨t,rfl⟩:=c;exact SeqAt.EqAt.none_str b t
 |_=>exact zI (show false=true from g) aW
|bl a=>
  cases f;cases x with
 |non=>cases c;exact SeqAt.EqAt.bool_none a
 |bl b=>cases c;exact SeqAt.EqAt.bool_bool a b
 |int b=>obtain⟨t,rfl⟩:=c;exact SeqAt.EqAt.bool_int a b t
 |str b=>obtain⟨t,rfl⟩:=c;exact SeqAt.EqAt.bool_str a b t
 |_=>exact zI (show false=true from g) aW
|int a=>
  obtain⟨d,rfl⟩:=f;cases x with
 |non=>cases c;exact SeqAt.EqAt.int_none a d
 |bl b=>cases c;exact SeqAt.EqAt.int_bool a d b
 |int b=>obtain⟨t,rfl⟩:=c;exact SeqAt.EqAt.int_int a d b t
 |str b=>obtain⟨t,rfl⟩:=c;exact SeqAt.EqAt.int_str a d b t
 |_=>exact zI (show false=true from g) aW
|str a=>
  obtain⟨d,rfl⟩:=f;cases x with
 |non=>cases c;exact SeqAt.EqAt.str_none a d
 |bl b=>cases c;exact SeqAt.EqAt.str_bool a d b
 |int b=>obtain⟨t,rfl⟩:=c;exact SeqAt.EqAt.str_int a d b t
 |str b=>obtain⟨t,rfl⟩:=c;exact SeqAt.EqAt.str_str a d b t
 |_=>exact zI (show false=true from g) aW
|_=>exact zI (show false=true from h) aW
noncomputable def wg(x:V)(u:Z):Bool:=match u with
|.none=>we .non x
|.bool b=>we (.bl b) x
|.int i _=>we (.int i) x
|.str z _=>we (.str z) x
|_=>false
def HL  (r:RelV y u)(f:Vv y=true):wg x u=we y x:=by
 cases y with
|non=>cases r;rfl
|bl b=>cases r;rfl
|int i=>obtain⟨t,rfl⟩:=r;rfl
|str z=>obtain⟨t,rfl⟩:=r;rfl
|_=>exact zI (show false=true from f) aW
theorem RP :∀{c:List V}{d:List Z},Zt c d->c.all Vv=true->d.any (wg x)=c.any λy=>we y x
|_,_,.nil,_=>rfl
|y::c,u::d,.cons r t,f=>by rw[List.all_cons,bJ]at f;rw[eO,eO,HL r f.1,RP t f.2]
theorem PV    (g:RelV x v)(h:Vv x=true):∀{c:List V}{d:List Z},Zt c d->c.all Vv=true->∀u∈d,kF A s u v (wg x u)
|_,_,.nil,_=>λu hu=>by cases hu
|y::c,u::d,.cons r t,f=>λi hu=>by
  rw[List.all_cons,bJ]at f;rcases ay.mp hu with rfl|hu
  .rw[HL r f.1];exact C9 r g f.1 h
  .exact PV g h t f.2 i hu
noncomputable def tV(x:V)(c:List V):Bool:=c.any λy=>we y x
def ο(K:af)(d:Bool):R2:=λx y H Q=>∃p c,y=.ref p/\(jw K H p c\/lR K H p c)/\Vv x=true/\c.all Vv=true/\Q (.bl (if d then !tV x c else tV x c)) H
def JV:oZ X (cF .In) (ο X.K false):=by
 intro j s o H x y v u Q I g l h;obtain⟨p,t,rfl,hq,i,fs,q⟩:=h;cases l;rcases hq with hq|hq
 .obtain⟨c,r,d,n⟩:=I.list hq;refine SeqAt.in_listAt (wg x) d.isList (λw f=>PV g i r fs w (by simpa using f)) ⟨.bl _,H,I,Y,?_⟩;rw[show c.toArray.any (wg x)=c.any (wg x) by simp,RP r fs];exact q
 .obtain⟨c,r,d,n⟩:=I.tuple hq;refine SeqAt.in_tupleAt (wg x) d (λw f=>PV g i r fs w (by simpa using f)) ⟨.bl _,H,I,Y,?_⟩;rw[show c.toArray.any (wg x)=c.any (wg x) by simp,RP r fs];exact q
def Vh:oZ X (cF .NotIn) (λx y H Q=>∃i j,x=.str i/\y=.str j/\Q (.bl (!(!(bR j i 0 j.length 1).isEmpty))) H):=by intro c s g H x y v u Q I f d h;obtain⟨i,j,rfl,rfl,q⟩:=h;obtain⟨t,rfl⟩:=f;obtain⟨l,rfl⟩:=d;exact notIn_str ⟨.bl _,H,I,Y,q⟩
def Vt:XF X (.builtin "len") (λj H Q=>∃p d,j=[.ref p]/\(jw X.K H p d\/lR X.K H p d)/\Q (.int d.length) H):=by
 intro l s t H j w Q I r h;obtain⟨p,d,rfl,hq,q⟩:=h;obtain⟨u,rfl,n⟩:=vals1 r;cases n;have x:=VO;rcases hq with hq|hq
 .obtain⟨i,f,g,o⟩:=I.list hq;have c:=f.length;exact Calls.call_len_list g.isList (by simp only[aQ]<;>omega) ⟨.int d.length,H,I.tok _,⟨s.toks+1,by rw[aQ,c]⟩,q⟩
 .obtain⟨i,f,g,o⟩:=I.tuple hq;have c:=f.length;exact len_tuple g (by simp only[aQ]<;>omega) ⟨.int d.length,H,I.tok _,⟨s.toks+1,by rw[aQ,c]⟩,q⟩
def Jk:XF X (.builtin "len") (λc H Q=>∃z,c=[.str z]/\z.length<=sizeLine/\Q (.int z.length) H):=by intro d s f H c g Q I r h;obtain⟨z,rfl,i,q⟩:=h;obtain⟨u,rfl,t,rfl⟩:=vals1 r;have j:=VO;exact len_str zD ⟨.int z.length,H,I.tok _,⟨_,Y⟩,q⟩
def YH:XF X (.type "tuple") (λx H Q=>∃p f,x=[.ref p]/\((jw X.K H p f/\∀l,H l=B->Q (.ref l) (upd H l (.tup f)))\/(lR X.K H p f/\Q (.ref p) H))):=by
 intro c s t H x L Q I r h;obtain⟨p,f,rfl,h⟩:=h;obtain⟨u,rfl,C⟩:=vals1 r;cases C;rcases h with⟨n,q⟩|⟨n,q⟩
 .obtain⟨d,i,j,y⟩:=I.list n;have A:=i.length;refine call_tuple_list j.isList (λg E=>?_) (by simp only[aQ]<;>omega);have z:Inv X c t H {s with heap:=g}:=I.kept (t':=s.toks) E;have F:Inv X c t (upd H g.objs.size (.tup f)) {s with heap:=g.push {cls:=.type "tuple",data:=.seq d.toArray}}:=z.laid (t':=s.toks) (λb o e=>av _ e) (aq _) (show ZY X.prog X.w _ _ _ (.tup f)from⟨y,d,i,IsTup.new _ _⟩);exact⟨.ref g.objs.size,_,F,Y,q _ (z.lI.fresh (aq _))⟩
 .obtain⟨d,i,j,y⟩:=I.tuple n;exact call_tuple_same j ⟨.ref p,H,I,Y,q⟩
def zj(K:af)(T:String)(x:V)(H:Hp):Prop:=match x with
|.str _=>T="str"
|.int _=>T="int"
|.ref p=>(T="list"/\∃f,jw K H p f)\/(T="tuple"/\∃o,K.lookup p=O o/\o.cls=.type "tuple"/\o.dict=B) \/(T="dict"/\((∃c,H p=O (.dK c))\/∃c,H p=O (.dT c)))\/(T="set"/\∃d n,H p=O (.set d n))
|_=>False
def Er       (I:Inv X q A H s)(r:RelV x v)(ty:zj X.K T x H):s.TypeIs v T/\∀a,v=.ref a->∃l,s.heap.get? a=O l/\l.dict=B:=by
 cases x with
|str z=>obtain⟨t,rfl⟩:=r;cases(show T="str" from ty);exact⟨j_ s z t,λ_ e=>nomatch e⟩
|int i=>obtain⟨t,rfl⟩:=r;cases(show T="int" from ty);exact⟨typeIs_int s i t,λ_ e=>nomatch e⟩
|ref p=>
  cases r;rcases ty with⟨rfl,E,u⟩|⟨rfl,o,hk,w,f⟩|⟨rfl,hk⟩|⟨rfl,C,n,hk⟩
  .obtain⟨y,_,j,_⟩:=I.list u;refine⟨j.isList.typeIs,λa e=>?_⟩;cases e;obtain⟨o,n,e,c,f,_⟩:=j;exact⟨o,e,f⟩
  .refine⟨⟨o,I.nE p o hk,w⟩,λa e=>?_⟩;cases e;exact⟨o,I.nE _ o hk,f⟩
  .have z:∃o,s.heap.get? p=O o/\o.ExactDict:=by
    rcases hk with⟨h,hk⟩|⟨h,hk⟩
    .obtain⟨_,_,_,_,o,_,_,e,d,_⟩:=I.lI p _ hk;exact⟨o,e,d⟩
    .obtain⟨_,_,_,_,o,_,_,e,d,_⟩:=I.lI p _ hk;exact⟨o,e,d⟩
   obtain⟨o,e,d⟩:=z;refine⟨⟨o,e,d.1⟩,λa g=>?_⟩;cases g;exact⟨o,e,d.2.1⟩
  .obtain⟨o,_,_,_,e,d,_⟩:=I.lI p _ hk;refine⟨⟨o,e,d.1⟩,λa g=>?_⟩;cases g;exact⟨o,e,d.2.1⟩
|_=>exact cV ty
def zT(K:af)(T:String)(r:V->List V->Hp->VK->Prop)(f:TE):TE:=λd H Q=>f d H λx c=>zj K T x c/\r x [] c Q
def yM(K:af)(T:String)(r:V->List V->Hp->VK->Prop)(g:TE)(t:TA):TE:=λc H Q=>g c H λx d=>zj K T x d/\t c d λf h=>r x f h Q
variable {o e:bV}{es:List bV}{to:TE}{t:TA}{name:U}{apos mR:iG}{T id:String}{r:V->List V->Hp->VK->Prop}
def BS(u:PlainAttrs T)(g:Slot T name id)(i:typeOf (.builtin id)=pure (.type "method_descriptor"))(y:yG X id r)(w:PE X o to)(f:fD o name X.env (cM o X.env)=cM o X.env:=by rfl)(d:(apos.endLine==mR.line)=true:=by rfl):PE X (.Call (.Attribute o name apos) [] [] mR) (zT X.K T r to):=by intro c s j H Q I h;refine wpAny_Call_method0_late f d (lY (w c s j H _ I h) λv p z=>?_);obtain⟨x,E,n,l,ty,q⟩:=z;obtain⟨C,A⟩:=Er n l ty;exact⟨T,id,u,g,i,C,A,ix Y (PySem.evalArgs_none (y c p j E x [] v [] Q n l .nil q))⟩
def YR(M:PlainAttrs T)(i:Slot T name id)(p:typeOf (.builtin id)=pure (.type "method_descriptor"))(P:yG X id r)(N:PE X o to)(W:PA X (e::es) t)(g:fD o name X.env (cM o X.env)=cM o X.env:=by rfl)(j:((eh mR (bf (e::es) X.env)).all (λx=>!x.1)&&(iL mR (fY [] X.env)).all (λx=>x.1.isSome)&&decide ((e::es).length+([]:List jM).length+(if([]:List jM).isEmpty then 0 else 1)<30))=true:=by rfl)(f:(apos.endLine==mR.line)=true:=by rfl)(hs:bf (e::es) X.env=(false,cM e X.env)::bf es X.env:=by rfl)(d:(eh mR (bf es X.env)).any (·.1)=false:=by rfl):PE X (.Call (.Attribute o name apos) (e::es) [] mR) (yM X.K T r to t):=by
 intro c s l H Q I h;refine wpAny_Call_method_late g j f Y (lY (N c s l H _ I h) λv C n=>?_);obtain⟨x,H1,w,q,ty,L⟩:=n;obtain⟨h1,h2⟩:=Er w q ty;refine⟨T,id,M,i,p,h1,h2,?_⟩;have u:=W mR c C l H1 _ w L;rw[hs]at u ⊢;refine ix (by show(false||(eh mR (bf es X.env)).any (·.1))=false;rw[d]<;>rfl) (j6 ?_)
 refine lY u λz A n=>?_;obtain⟨y,H2,I2,E,F⟩:=n;exact P c A l H2 x y v z Q I2 q E F
end
open PySem PySem.Spec PyProof.Rows
def ζ(X:Cx)(id:String)(r:V->List V->Hp->VK->Prop):Prop:=∀(a:List (G×eN))(s:ao)(b:St)(H:Hp)(x:V)(c:List V)(v:Z)(d:List Z)(Q:VK),Inv X a b H s->RelV x v->Zt c d->r x c H Q ->aI (aZ X.prog X.w) X.A (call (.builtin id) (v::d)) (EP X a b Q) X.xe s
def Zt.one{x:V}{a:List Z}(h:Zt [x] a):∃u,a=[u]/\RelV x u:=by
 cases h with
|cons r t=>cases t;exact⟨_,Y,r⟩
def Zt.zero:∀{a:List Z},Zt [] a->a=[]
|_,.nil=>rfl
section
variable {X:Cx}{pins:List (G×eN)}{σ:St}{H:Hp}{s:ao}{l b:G}{xs ys zs:List V}
def Inv.yp{a its':List Z}{n:Nat}{f:Array Z->Array Z}{c:Nat}(I:Inv X pins σ H s)(o:H l=O (.lst xs))(e:s.heap.get? l=O {cls:=.type "list",data:=.seq a.toArray n})(i:f a.toArray=its'.toArray)(g:Zt ys its')(d:ys.length<=sizeLine):Inv X pins σ (upd H l (.lst ys)) {s with heap:=s.heap.update l (dG f),toks:=c}:=by have q:=PySem.IsL.update e f;rw[i]at q;refine I.write (x:=l) (e:=l) (by rw[o];exact trivial) (.inl Y) (λp u j h=>(bq s.heap (dG f) (dc j)).trans h) ⟨_,q⟩ ?_;exact⟨d,its',_,g,q⟩
def Inv.C1 {t':Nat}(I:Inv X pins σ H s)(d:Zt ys a)(c:ys.length<=sizeLine):Inv X pins σ (upd H s.heap.objs.size (.lst ys)) {s with heap:=s.heap.push {cls:=.type "list",data:=.seq a.toArray},toks:=t'}:=I.laid (λ_ _ q=>av _ q) (aq _) ⟨c,a,0,d,aR _ Y⟩
theorem Inv.fresh(I:Inv X pins σ H s):H s.heap.objs.size=B:=I.lI.fresh (aq _)
def Inv.qH(I:Inv X pins σ H s)(c:H l=O (.lst xs)):xs.length<=sizeLine/\∃(a:List Z)(n:Nat),Zt xs a/\xs.length=a.length/\s.heap.get? l=O {cls:=.type "list",data:=.seq a.toArray n}:=by obtain⟨z,a,n,r,e⟩:=I.lI l _ c;exact⟨z,a,n,r,r.length,e⟩
def FH{n:Nat}(h:n<=sizeLine):fB n=false:=by unfold fB;exact zK zD
end
section
variable {X:Cx}
def Oi:V->List V->Hp->VK->Prop:=λx b H Q=>∃l a y,x=.ref l/\b=[y]/\H l=O (.lst a)/\a.length<sizeLine/\Q .non (upd H l (.lst (a++[y])))
def Y6:ζ X "list.append" Oi:=by intro c s i H x o v p Q I d f h;obtain⟨l,j,y,rfl,rfl,b,t,q⟩:=h;cases d;obtain⟨u,rfl,g⟩:=f.one;obtain⟨z,a,n,r,w,e⟩:=I.qH b;refine g9 F.slot_list_append ⟨_,e,Y⟩ F.entry_list_append (F.args_list_append_2 _ _) (PySem.list_append l a.toArray n u (by rw[aQ];omega)) ⟨e,?_⟩;refine⟨.non,_,I.yp (its':=a++[u]) b e zE (r.append (.cons g .nil)) ?_,Y,q⟩;rw[aD,List.length_singleton];omega
def Le:V->List V->Hp->VK->Prop:=λx d H Q=>∃l b c a,x=.ref l/\d=[.ref b]/\H l=O (.lst c)/\H b=O (.lst a)/\c.length+a.length<=sizeLine/\Q .non (upd H l (.lst (c++a)))
def Ub:ζ X "list.extend" Le:=by
 intro i s E H x P v T Q I j o h;obtain⟨l,b,N,L,rfl,rfl,g,y,W,q⟩:=h;cases j;obtain⟨u,rfl,p⟩:=o.one;cases p;obtain⟨z,c,n,r,hl,e⟩:=I.qH g;obtain⟨M,a,w,t,C,A⟩:=I.qH y;have f:c.toArray.size+a.toArray.size<=sizeLine:=by rw[aQ,aQ];omega
 have d:¬(!c.toArray.isEmpty&&fB (c.toArray.size+a.toArray.size))=true:=by rw[FH f,j9];exact aW
 refine g9 F.slot_list_extend ⟨_,e,Y⟩ F.entry_list_extend (F.args_list_extend_2 _ _) (AutoSeq1.list_extend_list_list_0 l c.toArray n b a.toArray w d (by rw[aQ];omega) zD) ⟨e,A,?_⟩;refine⟨.non,_,I.yp (its':=c++a) g e zE (r.append t) ?_,Y,q⟩;rw[aD];omega
def uf:R2:=λx y H Q=>∃l b c a,x=.ref l/\y=.ref b/\H l=O (.lst c)/\H b=O (.lst a)/\c.length+a.length<=sizeLine/\∀p,H p=B->Q (.ref p) (upd H p (.lst (c++a)))
def Yq:oZ X (gY .Add) uf:=by
 intro d s A H x y v u Q I g f h;obtain⟨l,b,F,C,rfl,rfl,j,o,M,q⟩:=h;cases g;cases f;obtain⟨z,c,n,r,N,e⟩:=I.qH j;obtain⟨E,a,L,i,w,t⟩:=I.qH o;refine PySem.P.add_list e t ?_ (by rw[aQ,aQ];omega);have p:c.toArray++a.toArray=(c++a).toArray:=by simp
 rw[p];exact⟨.ref _,_,I.C1 (t':=s.toks) (r.append i) (by rw[aD];omega),Y,q _ I.fresh⟩
end
end L2
namespace Att
open PySem PySem.W PySem.Calls PyProof.Rows
def Nz  :∀(c:List Int)(d:List Z),WellAll P h d (c.map WData.int)->IntsAre d c:=by
 intro c;induction c with
|nil=>intro d w;rw[cJ]at w;cases w;exact .nil
|cons n c f=>
  intro d w;rw[aH]at w;cases w with
 |cons a b=>cases a;exact .cons _ _ (f _ b)
def Dh{l:OpenLaw}{n:Nat}(A:l.most=O n)(c:l.row.toRowW.claim.pre args=true)(p:WellAll P h f args):∃a t b,f=[aN a]/\args=[WData.list (b.map WData.int)]/\h.get? a=O {cls:=.type "list",data:=.seq t.toArray}/\IntsAre t b/\b.length<=n:=by
 have s:WShape.hasAll [] args [.list .int]=true:=(pre_splitW c).1;have u:l.pre.holds [] {args:=args}=true:=(pre_splitW c).2;obtain⟨d,r,rfl,F,E⟩:=hasAllW_cons s;obtain rfl:=hasAllW_nil E;obtain⟨H,rfl,C⟩:=hasW_list F;obtain⟨b,rfl⟩:=items_int C;have g:b.length<=n:=by
  unfold OpenLaw.pre at u;have o:(WTm.not (.lt (.lit (.int (n:Int))) (.len (.arg 0)))).holds [] {args:=[.list (b.map .int)]}=true:=by have o:=(holds_andW u).1;rw[A]at o;exact o
  have j:=condW_of o (w_not (w_lt w_lit (w_len_list (w_arg Y))));rw[bH]at j;refine Nat.le_of_not_lt λq=>?_;have y:(n:Int)<((b.length:Nat):Int):=by omega
  first
  |(rw[zJ y]at j;exact zI j D)
  |(simp at j;omega)
 cases p with
|cons x w=>
  cases w;cases x with
 |list z i=>exact⟨_,_,b,Y,Y,z,Nz b _ i,g⟩
def Dn(l:OpenLaw)(args:List WData):l.row.toRowW.claim.post args (.bool true) args=true:=postW_of (r:=l.row.toRowW) (X:=(true==true)) (show WShape.has [] (.bool true) .bool=true by first|rfl|decide|simp[WShape.has,WShape.arms,WShape.armsAll]) (show(WTm.eq .res (.lit (.bool true))).value [] {args:=args,res:=O (.bool true),after:=args}=O (.bool (true==true))from w_eq_bool (w_res Y) w_lit) Y
def su{l:OpenLaw}{n:Nat}  {L:bg->bC->Prop}{d:DefRec}(X:l.most=O n)(F:d.params.defaults=[])(call:∀(w:bg)(c b:ao)(J A:U->Option Z)(p:G)(o:eN)(z cd g:Z)(a:G)(j:List Z)(y:List Int),Ground q h [] XP w c J A b.heap->L w b.heap ->b.heap.get? p=O o->o.data=.func (docDef d.name d.params d.body d.scope z cd g)->b.heap.CodeRec cd d.name->J d.name=O (.ref p) ->b.heap.get? a=O {cls:=.type "list",data:=.seq j.toArray}->IntsAre j y->y.length<=n->b.gens=#[] ->iK (aZ l.prog w) callerA (.call (.ref p) ⟨[.ref a],[]⟩) (λr x=>r=.ok (.ret (.bool true))/\OldK b.heap x.heap/\x.os=b.os/\jc x.gens) b):WalkO q h XP L l.row.toRowW d [] (λf j=>PySem.call f j):=by intro w c b J A P Q p o z cd g dV kV W hd H I E hg args M as s N aa C ab;obtain rfl:dV=.none:=Dflts.none I F;obtain rfl:kV=.none:=Dflts.noKw I;obtain⟨a,j,y,rfl,rfl,t,i,u⟩:=Dh X s C;refine enter_call (iM (call w c b J A p o z cd g a j y P Q W (fd_plain hd) H E t i u hg) λr x T=>?_);obtain⟨rfl,h2,h3,h4⟩:=T;exact⟨.inl ⟨.bool true,.bool true,[],Y,λ_=>rfl,.bool true,Dn l _,λ_=>⟨List.Pairwise.nil,λ_ hm=>(nomatch hm)⟩⟩,h2,h3,h4⟩
end Att
namespace L2
open PySem PySem.Spec PyProof.Rows
def L8{a:List Z}{b:List Int}(h:IntsAre a b):Zt (b.map V.int) a:=by
 induction h with
|nil=>exact .nil
|cons n t _ c=>exact .cons ⟨t,Y⟩ c
def xP(H:Hp):Prop:=∀b,H b=B\/∃o a,H b=O (.ti o (.lst a))
def FX  {K:af} {k:Nat} {x:U}{c:ao}{p:List Z}(KX:K.In c.heap)(I:c.heap.Ns bI J)(g:c.heap.Ns builtinsNs mb)(ah:∀x:U,x≠"__name__"->mb x=dj x)(Q:c.heap.NoLimit)(hg:c.gens=#[])(X:c.heap.get? a=O {cls:=.type "list",data:=.seq p.toArray})(hi:IntsAre p W)(hl:W.length<=sizeLine)(hr:l9 k callerA)(F:∀S:bC,K.In S->S.Ns bI J->m7 P w K J S CX k fa fd [x] sp)(t:∀(s:ao)(u:Z),BindsTo s fd ⟨[u],[]⟩ [(x,u)])(ab:∀H:Hp,xP H->jw K H a (W.map V.int)->sp [.ref a] H (λv _=>v=.bl true) λ_ _ _=>False)(ai:∀H e i,CX [] H c (λ_ _ _=>False) e i->False):iK (aZ P w) callerA (.call (.ref fa) ⟨[.ref a],[]⟩) (λr i=>r=.ok (.ret (.bool true))/\OldK c.heap i.heap/\i.os=c.os/\jc i.gens) c:=by
 have rv:=L8 hi;have M:=hi.length;have l:∀H:Hp,xP H->jw K H a (W.map V.int)->ox P w H c.heap->(∀b,H b≠B->b=a)->(H a≠B->K.lookup a=B) ->iK (aZ P w) callerA (.call (.ref fa) ⟨[.ref a],[]⟩) (λr i=>r=.ok (.ret (.bool true))/\OldK c.heap i.heap/\i.os=c.os/\jc i.gens) c:=by
  intro H hO hS E hA hK;have f:∀{b:G}{o:eN},c.heap.get? b=O o->H b=B->(rB c.heap H).get? b=O o:=λe n=>Hw e n;have aa:∀{b:G}{o:eN}{A:Array DictEntry}{C:Nat},c.heap.get? b=O o->o.data=.dict A C->H b=B:=λ{b o A C}e d=>by
   cases q:H b with
  |none=>rfl
  |some u=>have e':b=a:=hA b (by rw[q];simp);subst e';rw[X]at e;cases e;have d':Data.seq p.toArray _=Data.dict A C:=d;cases d'
  have j:∀{b:G}{m:U->Option Z},c.heap.Ns b m->(rB c.heap H).Ns b m:=λ{b m}⟨o,A,C,e,d,r⟩=>⟨o,A,C,f e (aa e d),d,r⟩;have L:K.In (rB c.heap H):=λb o e=>f (KX b o e) (by
   cases q:H b with
  |none=>rfl
  |some u=>have e':b=a:=hA b (by rw[q];simp);subst e';rw[hK (by rw[q];simp)]at e;cases e)
  have hM:Mod K J (rB c.heap H):=⟨L,j I,⟨mb,j g,ah⟩,let ⟨mc,h1,h2⟩:=Q;⟨mc,j h1,h2⟩⟩;have e0:rK P w K J (rB c.heap H) callerA [] c H:=⟨Y,hM,λb o e=>OB e,la (DB _ _),trivial,λb g=>zI (show b∈([]:List G)from g) zE,E,.of_eq hg⟩;refine iM ((F _ L (j I)).run callerA [] c H ⟨[.ref a],[]⟩ [.ref a] [.ref a] _ _ hr e0 (t c (.ref a)) (.cons Y .nil) (ab H hO hS)) λr i h=>?_;cases r with
 |error e=>exact(ai H e i h).elim
 |ok fl=>
   cases fl with
  |next=>exact cV h
  |brk=>exact cV h
  |cont=>exact cV h
  |ret u=>
    obtain⟨v,H',os,T,un,N,r',q⟩:=h;have q':v=.bl true:=q;subst q';obtain rfl:u=kE true:=r';refine⟨Y,OldK.of_keep λb o e=>?_,os,T⟩;cases q:H b with
   |none=>exact un.keep b o e q (by intro z;exact zI (show b∈([]:List G)from z) zE) zE
   |some u=>
     rcases hO b with z|⟨ob,xs,z⟩
     .rw[q]at z;cases z
     .have z2:=un.pQ b ob _ z;obtain⟨e1,_⟩:=E b _ z;obtain⟨e2,_⟩:=N b _ z2;rw[e]at e1;cases e1;exact e2
 cases hk:K.lookup a with
|some o=>have e:=KX a o hk;rw[X]at e;cases e;refine l (λ_=>B) (λ_=>.inl Y) (.inr ⟨_,p.toArray,_,hk,Y,Y,Y,by rw[aQ,M];exact hl,by simpa using rv⟩) (λb u z=>by have y:(B:Option HO)=O u:=z;cases y) (λb z=>zI Y z) λz=>zI Y z
|none=>
  refine l (λb=>if b=a then O (.ti {cls:=.type "list",data:=.seq p.toArray} (.lst (W.map V.int)))else B) (λb=>?_) (.inl (.inr ⟨{cls:=.type "list",data:=.seq p.toArray},zH Y⟩)) (λb u z=>?_) (λb z=>?_) λ_=>hk
  .by_cases g:b=a
   .exact .inr ⟨_,_,zH g⟩
   .exact .inl (zG g)
  .by_cases g:b=a
   .have y:=(zH g).symm.trans z;cases y;subst g;exact⟨X,by rw[bH];exact hl,p,_,rv,X⟩
   .have y:=(zG g).symm.trans z;cases y
  .by_cases g:b=a
   .exact g
   .exact zI (zG g) z
open PySem PySem.Spec PyProof.Rows
noncomputable abbrev rP{K:af}{h:bC}(_:K.In h):af:=K
def AJ{l:lB}{n k:Nat}  {Q:bg->bC->Prop}{d:DefRec}{K:Params->af}{CX:bg->sJ}{sp:bg->Sp}{x:U}(hn:l.most=O n)(E:n<=sizeLine)(L:d.params.defaults=[])(hr:l9 k callerA)(hY:∀(w:bg)(h:bC),Q w h->(K w.params).In h)(F:∀(w:bg)(J:U->Option Z)(y:G)(h:bC),(K w.params).In h->h.Ns bI J->J d.name=O (.ref y) ->∃A:fe,(∀(s:ao)(u:Z),BindsTo s A ⟨[u],[]⟩ [(x,u)]) /\∀S:bC,(K w.params).In S->S.Ns bI J->m7 l.prog w (K w.params) J S (CX w) k y A [x] (sp w))(C:∀(w:bg)(H:Hp)(a:G)(t:List Int),t.length<=n->xP H->jw (K w.params) H a (t.map V.int)->sp w [.ref a] H (λv _=>v=.bl true) λ_ _ _=>False)(M:∀(w:bg)(H:Hp)(s:ao)(e:Z)(z:ao),CX w [] H s (λ_ _ _=>False) e z->False):PySem.W.WalkO q N XP Q l.row.toRowW d [] (λf P=>PySem.call f P):=by refine Att.su hn L λw aa p J mb y o pm cd ah a P t j zf ho hd ab I r i c hg=>?_;have X:=hY w _ zf;obtain⟨A,hb,hF⟩:=F w J y _ X j.T.g I;exact FX X j.T.g j.T.b j.T.builtins j.T.nolimit hg r i (aj c E) hr hF hb (λH hO hS=>C w H a t c hO hS) λH e z=>M w H p e z
open PySem PySem.Spec PyProof.Rows
noncomputable def YX(s:b_)(j:Nat):b_:=match s with
|.ClassDef _ _ _ a _ _ _ _ _ _ _=>a.getD j (.Pass ⟨0,0,0,0⟩)
|_=>.Pass ⟨0,0,0,0⟩
noncomputable def Y7(s:b_):Arguments:=match s with
|.FunctionDef _ a _ _ _ _ _ _ _ _=>a
|_=>{posonlyargs:=[],args:=[],vararg:=B,kwonlyargs:=[],kw_defaults:=[],kwarg:=B,defaults:=[]}
noncomputable def ZT(s:b_):List b_:=match s with
|.FunctionDef _ _ b _ _ _ _ _ _ _=>b
|_=>[]
noncomputable def Ze(s:b_):dh:=match s with
|.FunctionDef _ _ _ _ _ _ a _ _ _=>a
|_=>{kind:=.function,names:=[],isGenerator:=false,isCoroutine:=false}
abbrev qf:sJ:=λ_ _ _ _ _ _=>False
abbrev E0:XK:=λ_ _ _=>False
def Ul :Yx qf X E0:=λ_ _ _ _ _ _ _ h=>h.elim
structure rQ(K:af)(x qual:U)(st:b_)(f:G)(fd:fe):Prop where
 ex:∃(oc:Z)(od:Option G)(kV doc pm:Z)(an:Option G)(Θ ct:Z)(osl:Array (Option Z)),
  fd=dw x qual (Y7 st) (ZT st) (Ze st) .none kV doc pm an Θ ct/\K.lookup f=O ⟨oc,od,.func fd,osl⟩/\fU K Θ qual=true
 kp:cb K (.ref f)=true
section
variable {P:a9}{w:bg}{K:af}{J:U->Option Z}{S:bC}
def rQ.ok{x b:U}{st:b_}{f:G}{n:fe}{N i:List U}{k:Nat}{sp:Sp}(F:rQ K x b st f n)(o:ia N i (Ze st))(len:∀d H Q E,sp d H Q E->d.length=i.length)(g:∀(c:Z)(A:bU)(a:List jI)(s:ao)(H:Hp)(d:List V)(Q:VK)(E:XK),l9 k (A.deeper (f_ b (Ze st) s.heap.objs.size f c))->sp d H Q E ->∃t,qg (nr qf P w K J S N b (Ze st) f c A a s H E).wG (ZT st) t/\t {nx:=λ_ r=>Q .non r,rt:=Q} (start N d) H):m7 P w K J S qf (k+1) f n i sp:=by obtain⟨I,C,kV,y,z,M,c,L,u,rfl,lk,l⟩:=F.ex;refine IH lk l o len λA a s H d Q E p j=>?_;obtain⟨t,h,q⟩:=g c A a s H d Q E p j;exact⟨t,h.wG,q⟩
def rQ.binds{x a:U}{st:b_}{f:G}{n:fe}{g:List U}(F:rQ K x a st f n)(h:∀(kV b i:Z)(l:Option G)(c j:Z)(d:List Z),d.length=g.length->bindArgs (dw x a (Y7 st) (ZT st) (Ze st) .none kV b i l c j) ⟨d,[]⟩=pure (g.zip d)):Binds K n g []:=by obtain⟨r,q,kV,b,i,l,c,j,o,rfl,lk,p⟩:=F.ex;exact .all (h kV b i l c j)
def UC{x a:U}{st:b_}{f:G}{o:Z}{n j:Option G}{g:Array (Option Z)}{kV d h b i:Z}(l:K.lookup f=O ⟨o,n,.func (dw x a (Y7 st) (ZT st) (Ze st) .none kV d h j b i),g⟩)(c:fU K b a=true)(k:cb K (.ref f)=true):rQ K x a st f (dw x a (Y7 st) (ZT st) (Ze st) .none kV d h j b i):=⟨⟨o,n,kV,d,h,j,b,i,g,Y,l,c⟩,k⟩
end
def Xx {k:Nat}(a:l9 k A):A.units+1<iE:=dA (h_ (by decide:1<=64) _) a.units
def YA{n:Nat}(h:n<=1000):n<sizeLine:=dA h D
section
variable {X:Cx}
def R(i:Nat){x:U}(hN:X.N[i]?=O x:=by rfl)(b:yC X.env.scope x:=by first|exact dD Y|exact ir (dD Y)|exact ir (ir Y))(c:(x==("__debug__":U))=false:=by decide)(a:(x==("__classdict__":U))=false:=by decide):PE X (.Name x d) (mI i):=Xj hN b c a
end
def kv{A a:Prop}(h:a):if false=true then A else a:=by rw[zG aW];exact h
def kq{A a:Prop}(h:A):if true=true then A else a:=by rw[zH Y];exact h
def mr{c A a:Prop}[Decidable c](d:c->A)(b:¬c->a):if c then A else a:=by
 by_cases h:c
 .rw[zH h];exact d h
 .rw[zG h];exact b h
def f'(H a:Hp):Prop:=∀b o,H b=O o->a b=O o
def f'.refl(H:Hp):f' H H:=λ_ _ h=>h
def f'.trans (a:f' H f)(b:f' f d):f' H d:=λc o h=>b c o (a c o h)
open PySem PySem.Spec PyProof.Rows
section
variable {κ:Type}[DecidableEq κ]
noncomputable def j2(a:List (κ×V))(k:κ):Option V:=(a.find? λb=>decide (b.1=k)).map (·.2)
noncomputable def Yb(a:List (κ×V))(k:κ)(v:V):List (κ×V):=if(a.any λb=>decide (b.1=k))=true then a.map (λb=>if b.1=k then(b.1,v)else b)else a++[(k,v)]
def Y0{p:κ×V}{r:List (κ×V)}{k:κ}(e:p.1=k):j2 (p::r) k=O p.2:=by simp[j2,ic,e]
def Y1{p:κ×V}{r:List (κ×V)}{k:κ}(e:¬p.1=k):j2 (p::r) k=j2 r k:=by simp[j2,ic,e]
theorem U5(k:κ):∀a:List (κ×V),(a.any λb=>decide (b.1=k))=(j2 a k).isSome
|[]=>rfl
|p::r=>by
  rw[eO];by_cases e:p.1=k
  .simp only[Y0 e,zJ e,k6,Option.isSome_some]
  .rw[Y1 e,zK e,kH];exact U5 k r
theorem R9(k j:κ)(y:V):∀a:List (κ×V),j2 (a.map λb=>if b.1=k then(b.1,y)else b) j=(j2 a j).map λx=>if j=k then y else x
|[]=>rfl
|p::r=>by
  have c:=R9 k j y r;rw[aH];by_cases h:p.1=k
  .rw[zH h];by_cases e:p.1=j
   .rw[Y0 (p:=(p.1,y)) e,Y0 e,jJ,zH (e.symm.trans h)]
   .rw[Y1 (p:=(p.1,y)) e,Y1 e,c]
  .rw[zG h];by_cases e:p.1=j
   .rw[Y0 (p:=p) e,Y0 e,jJ,zG (λz=>h (e.trans z))]
   .rw[Y1 (p:=p) e,Y1 e,c]
theorem Qy(k j:κ)(y:V):∀a:List (κ×V),j2 a k=B->j2 (a++[(k,y)]) j=if j=k then O y else j2 a j
|[],_=>by
  by_cases e:k=j
  .rw[zH e.symm];exact Y0 (p:=(k,y)) e
  .rw[zG (λz=>e z.symm)];exact Y1 (p:=(k,y)) e
|p::r,b=>by
  rw[da];have hk:¬p.1=k:=λz=>by rw[Y0 z]at b;cases b
  rw[Y1 hk]at b;have c:=Qy k j y r b;by_cases e:p.1=j
  .rw[Y0 e,Y0 e,zG (λz=>hk (e.trans z))]
  .rw[Y1 e,Y1 e,c]
def VD(b:List (κ×V))(k j:κ)(y:V):j2 (Yb b k y) j=if j=k then O y else j2 b j:=by
 unfold Yb;by_cases a:(b.any λc=>decide (c.1=k))=true
 .rw[zH a,R9];rw[U5]at a;by_cases e:j=k
  .obtain⟨x,d⟩:=eJ.mp a;rw[zH e,e,d,jJ,zH Y]
  .rw[zG e];cases j2 b j with
  |none=>rfl
  |some x=>rw[jJ,zG e]
 .rw[zG a];refine Qy k j y b ?_;rw[U5]at a;cases q:j2 b k with
 |none=>rfl
 |some x=>rw[q]at a;exact(a Y).elim
def Xp(a:List (κ×V))(k:κ)(v:V):(Yb a k v).length<=a.length+1:=by
 unfold Yb;split
 .rw[bH];omega
 .rw[aD,aB,dz];omega
def nW.oA  (r:nW o u):o.isSome=u.isSome:=by
 cases o with
|none=>cases u with
 |none=>rfl
 |some _=>exact(show False from r).elim
|some _=>cases u with
 |none=>exact(show False from r).elim
 |some _=>rfl
theorem nW.getD    (r:nW o u)(rd:RelV d a):RelV (o.getD d) (u.getD a):=by
 cases o with
|none=>cases u with
 |none=>exact rd
 |some _=>exact(show False from r).elim
|some _=>cases u with
 |none=>exact(show False from r).elim
 |some _=>exact r
def KV.val  (r:KV d g)(k:κ):nW (j2 d k) (valueAt g k):=by
 unfold KV at r;induction r with
|nil=>exact dE
|@cons p q l a h t i=>
  obtain⟨f,j⟩:=h;by_cases e:p.1=k
  .have c:q.1=k:=f.symm.trans e;have b:valueAt (q::a) k=O q.2:=by simp[valueAt,ic,c]
   rw[Y0 e,b];exact j
  .have c:¬q.1=k:=λz=>e (f.trans z);have b:valueAt (q::a) k=valueAt a k:=by simp[valueAt,ic,c]
   rw[Y1 e,b];exact i
theorem KV.any{a:List (κ×V)}{c:List (κ×Z)}(r:KV a c)(k:κ):(a.any λb=>decide (b.1=k))=c.any λb=>decide (b.1=k):=by
 unfold KV at r;induction r with
|nil=>rfl
|cons h t d=>rw[eO,eO,d,h.1]
def KV.wY  (r:KV c d)(k:κ) (f:RelV y u):KV (c.map λa=>if a.1=k then(a.1,y)else a) (d.map λa=>if a.1=k then(a.1,u)else a):=by
 unfold KV at r ⊢;induction r with
|nil=>exact .nil
|@cons p q l j h t g=>
  rw[aH,aH];refine .cons ?_ g;obtain⟨b,i⟩:=h;by_cases e:p.1=k
  .rw[zH e,zH (b.symm.trans e)];exact⟨b,f⟩
  .rw[zG e,zG (λz=>e (b.trans z))];exact⟨b,i⟩
def KV.put  (r:KV a b)(k:κ) (c:RelV y u):KV (Yb a k y) (lL b k u):=by
 unfold Yb lL;rw[r.any k];by_cases e:(b.any λd=>decide (d.1=k))=true
 .rw[zH e,zH e];exact r.wY k c
 .rw[zG e,zG e];exact Paired.snoc r ⟨Y,c⟩
theorem KV.length{a:List (κ×V)}{b:List (κ×Z)}(r:KV a b):a.length=b.length:=gv r
end
def Nv    (r:RelV (kV k) u):(Z1 P w).is k u=true:=by
 cases k with
|inl i=>obtain⟨t,e⟩:=(show ∃t,u=j7 i t from r);subst e;exact Ti P w i t
|inr x=>obtain⟨t,e⟩:=(show ∃t,u=iH x t from r);subst e;exact Tg P w x t
theorem QN  :∀{a:List Key}{b:List Z},Zt (a.map kV) b->ItemsAre (Z1 P w) a b
|[],_,r=>by rw[cJ]at r;cases r;exact .nil
|k::a,_,r=>by
  rw[aH]at r;cases r with
 |cons h t=>exact .cons (Nv h) (QN t)
abbrev KT(H:Hp):List (List Key×V)->List (List Key×G×Z)->Prop:=bX λp q=>p.1=q.1/\H q.2.1=O (.tup (p.1.map kV))/\RelV p.2 q.2.2
def KT.val   (r:KT H d g)(k:List Key):nW (j2 d k) ((atKey g k).map (·.2)):=by
 induction r with
|nil=>exact dE
|@cons p q l a h t i=>
  obtain⟨f,_,j⟩:=h;by_cases e:p.1=k
  .have c:q.1=k:=f.symm.trans e;have b:atKey (q::a) k=O q.2:=by simp[atKey,ic,c]
   rw[Y0 e,b];exact j
  .have c:¬q.1=k:=λz=>e (f.trans z);have b:atKey (q::a) k=atKey a k:=by simp[atKey,ic,c]
   rw[Y1 e,b];exact i
def KT.wY   (r:KT H c f)(k:List Key) (g:RelV y u):KT H (c.map λb=>if b.1=k then(b.1,y)else b) (f.map (putAt k u)):=by
 induction r with
|nil=>exact .nil
|@cons p q n l h t i=>
  rw[aH,aH];refine .cons ?_ i;obtain⟨a,d,j⟩:=h;unfold putAt;by_cases e:p.1=k
  .rw[zH e,zH (a.symm.trans e)];exact⟨a,d,g⟩
  .rw[zG e,zG (λz=>e (a.trans z))];exact⟨a,d,j⟩
def KT.put   (r:KT H a c)(k:List Key)  (g:H b=O (.tup (k.map kV)))(d:RelV y u):KT H (Yb a k y) (storedH c k b u):=by
 have e:(a.any λf=>decide (f.1=k))=(atKey c k).isSome:=by rw[U5,(r.val k).oA,kQ]
 unfold Yb storedH;rw[e];by_cases q:(atKey c k).isSome=true
 .rw[zH q,zH q];exact r.wY k d
 .rw[zG q,zG q];exact Paired.snoc r ⟨Y,g,d⟩
def KT.keeps{H d:Hp} (r:KT H a f)(g:∀b c,H b=O (.tup c)->d b=O (.tup c)):KT d a f:=Paired.nQ r λ_ _ z=>⟨z.1,g _ _ z.2.1,z.2.2⟩
section
variable {P:a9}{w:bg}{H:Hp}{h:bC}{a:G}
def Iw (ok:ox P w H h)(e:Rd H a u):ZY P w H h a u:=e.ok ok
def Qd (ok:ox P w H h)(e:Rd H a (.dK b)):b.length<=sizeLine/\(a==fK)=false/\∃c,KV b c/\h.DictOf (Z1 P w) a c:=show ZY P w H h a (.dK b)from Iw ok e
def IJ (ok:ox P w H h)(e:H a=O (.dK b)):b.length<=sizeLine/\(a==fK)=false/\∃c,KV b c/\h.DictOf (Z1 P w) a c:=Qd ok (.inl e)
def MO{b:List Key}(ok:ox P w H h)(e:H a=O (.tup (b.map kV))):(kY (Z1 P w)).is h b a:=by obtain⟨_,c,r,o,g,f,n,d⟩:=(show ZY P w H h a (.tup (b.map kV))from ok a _ e);exact⟨o,c.toArray,n,g,f,d,by simpa using QN r⟩
def Qc (ok:ox P w H h)(e:Rd H a (.dT b)):b.length<=sizeLine/\(a==fK)=false /\∃c,KT H b c/\h.DictOfH (kY (Z1 P w)) a c:=by
 obtain⟨z,y,c,r,o,u,A,s,n,j,i,g⟩:=(show ZY P w H h a (.dT b)from Iw ok e);refine⟨z,y,c,r,o,u,A,s,n,j,i,λx hx=>?_,g⟩;have all:∀{l:List (List Key×V)}{m:List (List Key×G×Z)},KT H l m->∀x∈m,(kY (Z1 P w)).is h x.1 x.2.1:=by
  intro l m q;induction q with
 |nil=>intro x hx;exact nomatch hx
 |@cons p q E C d t f=>
   intro x hx;rcases ay.mp hx with e|hx
   .subst e;exact MO ok (by rw[<-d.1];exact d.2.1)
   .exact f x hx
 exact all r x hx
def ZaO (ok:ox P w H h)(e:H a=O (.dT b)):b.length<=sizeLine/\(a==fK)=false /\∃c,KT H b c/\h.DictOfH (kY (Z1 P w)) a c:=Qc ok (.inl e)
end
def nY(H:Hp)(a:G)(y:V)(r:Option V):Prop:=(∃c k,Rd H a (.dK c)/\y=kV k/\r=j2 c k)\/∃c k b,Rd H a (.dT c)/\y=.ref b/\H b=O (.tup (k.map kV))/\r=j2 c k
def uO(H:Hp)(a:G)(y v:V)(d:Hp):Prop:=(∃c k,H a=O (.dK c)/\y=kV k/\c.length<sizeLine/\d=upd H a (.dK (Yb c k v))) \/∃c k b,H a=O (.dT c)/\y=.ref b/\H b=O (.tup (k.map kV))/\c.length<sizeLine/\d=upd H a (.dT (Yb c k v))
theorem nY.k{H:Hp}{a:G}{b:List (Key×V)}{k:Key}(e:H a=O (.dK b)):nY H a (kV k) (j2 b k):=.inl ⟨b,k,.inl e,Y,Y⟩
theorem uO.k{H:Hp}{a:G}{b:List (Key×V)}{k:Key}{v:V}(e:H a=O (.dK b))(c:b.length<sizeLine):uO H a (kV k) v (upd H a (.dK (Yb b k v))):=.inl ⟨b,k,e,Y,c,Y⟩
section
variable {X:Cx}{pins:List (G×eN)}{σ:St}{H:Hp}{s:ao}{a:G}{y v:V}{u r:Z}{o:Option V}{A:bU}{E:Z->ao->Prop}
def Inv.big(I:Inv X pins σ H s):fK<s.heap.objs.size:=by have h:bI<s.heap.objs.size:=(I.mod.glob.keeps I.bk).lt;exact Nat.lt_trans D h
def DO{Q:Z->ao->Prop}(M:A.units+1<iE)(I:Inv X pins σ H s)(g:nY H a y (O v))(C:RelV y u)(h:∀f x,Inv X pins σ H x->RelV v f->Q f x):aI (aZ X.prog X.w) A (kX (.ref a) u) Q E s:=by
 rcases g with⟨q,k,e,j,l⟩|⟨q,k,b,e,j,T,l⟩
 .subst j;obtain⟨z,P,L,d,n⟩:=Qd I.lI e;obtain⟨f,i,c⟩:=nW.some_of (v:=v) (o:=valueAt L k) (by rw[l];exact d.val k);exact wpAny_getItem_of (Nv C) n.mapOf i (h f _ (I.tok _) c)
 .subst j;cases(show u=aN b from C);obtain⟨z,P,F,d,n⟩:=Qc I.lI e;obtain⟨f,i,c⟩:=nW.some_of (v:=v) (o:=(atKey F k).map (·.2)) (by rw[l];exact d.val k);obtain⟨p,N,t⟩:=iu.mp i;refine wpAny_getItem_heap (iC M) (MO I.lI T) n N ?_;rw[t];exact h f _ (I.tok _) c
def SF{Q:Z->ao->Prop}(t:A.units+1<iE)(I:Inv X pins σ H s)(g:nY H a y o)(p:RelV y u)(h:∀n,Inv X pins σ H n->Q (.bool o.isSome) n):aI (aZ X.prog X.w) A (cF .In u (.ref a)) Q E s:=by
 rcases g with⟨j,k,e,f,l⟩|⟨j,k,b,e,f,x,l⟩
 .subst f;obtain⟨z,d,F,c,i⟩:=Qd I.lI e;refine wpAny_in_of (Nv p) d i.mapOf ?_;rw[<-(c.val k).oA,<-l];exact h _ (I.tok _)
 .subst f;cases(show u=aN b from p);obtain⟨z,d,C,c,i⟩:=Qc I.lI e;refine wpAny_in_heap (iC t) (MO I.lI x) d i ?_;have q:=(c.val k).oA;rw[kQ]at q;rw[<-q,<-l];exact h _ (I.tok _)
def OY{Q:Z->ao->Prop}(t:A.units+1<iE)(I:Inv X pins σ H s)(g:nY H a y o)(p:RelV y u)(h:∀n,Inv X pins σ H n->Q (.bool (!o.isSome)) n):aI (aZ X.prog X.w) A (cF .NotIn u (.ref a)) Q E s:=by
 rcases g with⟨j,k,e,f,l⟩|⟨j,k,b,e,f,x,l⟩
 .subst f;obtain⟨z,d,F,c,i⟩:=Qd I.lI e;refine wpAny_notIn_of (Nv p) d i.mapOf ?_;rw[<-(c.val k).oA,<-l];exact h _ (I.tok _)
 .subst f;cases(show u=aN b from p);obtain⟨z,d,C,c,i⟩:=Qc I.lI e;refine wpAny_notIn_heap (iC t) (MO I.lI x) d i ?_;have q:=(c.val k).oA;rw[kQ]at q;rw[<-q,<-l];exact h _ (I.tok _)
def RL {f:Nat}(I:Inv X pins σ H s)(g:yF (H a))(hs:gk a s.heap c)(h:∃q,c.get? a=O q)(new:ZY X.prog X.w (upd H a d) c a d):Inv X pins σ (upd H a d) {s with heap:=c,toks:=f}:=I.write (x:=a) (e:=a) g (.inl Y) (λb q i z=>(hs.2 b i).trans z) h new
def Ka   {f:bC}{b:List (Key×V)}(z:b.length<=sizeLine)(g:(a==fK)=false)(c:KV b d)(h:f.DictOf (Z1 P w) a d):ZY P w i f a (.dK b):=⟨z,g,d,c,h⟩
def DN {Q:Unit->ao->Prop}(hu:A.units+1<iE)(I:Inv X pins σ H s)(g:uO H a y v H')(M:RelV y u)(N:RelV v r)(h:∀L,Inv X pins σ H' L->Q () L):aI (aZ X.prog X.w) A (setItem (.ref a) u r) Q E s:=by
 rcases g with⟨f,k,e,x,l,C⟩|⟨f,k,b,e,x,W,l,C⟩
 .subst x C;obtain⟨z,t,vs,d,F⟩:=IJ I.lI e;have n:vs.length<=sizeLine:=by rw[<-d.length];exact z
  have p:(Yb f k v).length<=sizeLine:=by have:=Xp f k v;omega
  refine wpAny_setItem_pairs (hsz:=n) (Nv M) F λP i hs=>h _ ?_;have he:∃q,P.get? a=O q:=let ⟨q,_,_,j,_⟩:=i;⟨q,j⟩
  exact RL I (by rw[e];exact dE) hs he (Ka p t (d.put k N) i)
 .subst x C;cases(show u=aN b from M);obtain⟨z,t,xs,d,F⟩:=ZaO I.lI e;have n:xs.length<=sizeLine:=by rw[<-gv d];exact z
  have p:(Yb f k v).length<=sizeLine:=by have:=Xp f k v;omega
  refine wpAny_setItem_heap (hsz:=n) (iC hu) (MO I.lI W) F λP i hs=>h _ ?_;obtain⟨q,es,ep,j,h2,h3,h4,_,h5⟩:=i;refine RL I (by rw[e];exact dE) hs ⟨q,j⟩ ⟨p,t,_,(d.put k W N).keeps λc ys T=>?_,q,es,ep,j,h2,h3,h4,h5⟩;rw[Zk (nh T e (λz=>nomatch z))];exact T
end
def xQ(i:bV):Prop:=∀a iv,subscripted i false a iv=operate [a,iv] (kX a iv)
def KO{a:a9}{w:bg}{A:bU}{E:Z->ao->Prop}{s:ao}{n:jI}{c b:bV}{t:iG}{T id:String}{Q:Z->ao->Prop}(y:lP (.type T) "__getitem__"=pure (O (.builtin id)))(hs:xQ b)(h:aI (aZ a w) A (cM c n) (λo j=>aI (aZ a w) A (cM b n) (λi d=>d.TypeIs o T/\aI (aZ a w) A (kX o i) Q E d) E j) E s):aI (aZ a w) A (cM (.Subscript c b t) n) Q E s:=by
 refine Subscript_ (dQ h (λo j q=>dQ q (λi d f=>?_) λ_ _ x=>x) λ_ _ x=>x);obtain⟨u,f⟩:=f;unfold subscriptTail;refine ae ?_;rw[getitemInPython_of_ne u.not_modules];refine ae (ko u y ?_);have l:aI (aZ a w) A (subscripted b false o i) (λr g=>aI (aZ a w) A (letTemporaryGo c o r >>= λ_=>pure r) Q E g) E d:=by rw[hs o i];exact wpAny_operating (dQ f (λr g p=>ae (wpAny_letTemporaryGo (aE p))) λ_ _ x=>x)
 first
 |exact aE (ae l)
 |exact ae (aE (ae l))
 |exact ae l
def TQ        (I:Inv X f h H s)(g:nY H a y o):s.TypeIs (.ref a) "dict":=by
 rcases g with⟨d,k,e,_,_⟩|⟨d,k,b,e,_,_,_⟩
 .obtain⟨_,_,j,_,c⟩:=Qd I.lI e;exact c.typeIs
 .obtain⟨_,_,i,_,c⟩:=Qc I.lI e;exact c.typeIs
def Ii(td ty:TE):TE:=λb H Q=>td b H λx d=>ty b d λy c=>∃a v,x=.ref a/\nY c a y (O v)/\Q v c
def zR(ty td:TE):TE:=λb H Q=>ty b H λy d=>td b d λx c=>∃a o,x=.ref a/\nY c a y o/\Q (.bl o.isSome) c
def Ir(td ty f:TE):TS:=λd b H=>f b H λv i=>td b i λx h=>ty b h λy g=>∃a c,x=.ref a/\uO g a y v c/\d.nx b c
section
variable {X:Cx}{o i e value:bV}{pos pos' zm:iG}{td ty tv:TE}
def XS(t:X.A.units+1<iE)(w:PE X o td)(z:PE X i ty)(hs:xQ i):PE X (.Subscript o i pos) (Ii td ty):=by intro b s f H Q I h;refine KO PySem.F.slot_dict_getitem.lookup hs (lY (w b s f H _ I h) λu l c=>?_);obtain⟨x,N,L,p,r⟩:=c;refine lY (z b l f N _ L r) λiv W c=>?_;obtain⟨y,M,j,n,a,v,C,g,q⟩:=c;subst C;obtain rfl:u=aN a:=p;exact⟨TQ j g,DO t j g n λP T E d=>⟨v,M,E,d,q⟩⟩
def Ft(r:X.A.units+1<iE)(w:PE X i ty)(t:PE X o td):PC X .In i o (zR ty td):=by intro b s d H Q I h;refine lY (w b s d H _ I h) λiv f c=>?_;obtain⟨y,M,F,j,p⟩:=c;refine lY (t b f d M _ F p) λu P c=>?_;obtain⟨x,L,E,l,a,q,z,g,n⟩:=c;subst z;obtain rfl:u=aN a:=l;exact SF r E g j λN C=>⟨.bl q.isSome,L,C,Y,n⟩
def NP(C:X.A.units+1<iE)(E:PE X o td)(F:PE X i ty)(z:PE X value tv)(hs:jA value (O (.Subscript o i pos')) pos.line X.env=pure false):PS X (.Assign [.Subscript o i pos'] value pos) (Ir td ty tv):=by intro b s d H zB I h;refine wpAny_Assign_Subscript (lY (z b s d H _ I h) λr j c=>?_) hs;obtain⟨v,H1,Q,p,w⟩:=c;refine lY (E b j d H1 _ Q w) λu f c=>?_;obtain⟨x,W,P,n,t⟩:=c;refine lY (F b f d W _ P t) λiv s3 c=>?_;obtain⟨y,H3,N,l,a,T,L,g,q⟩:=c;subst L;obtain rfl:u=aN a:=n;exact DN C N g l p λs4 M=>⟨d,T,M,q⟩
end
def TN   (h:bC)(a:fK<h.objs.size):ZY P w H (h.push {cls:=.type "dict",data:=.dict #[]}) h.objs.size (.dK []):=⟨bK _,beq_eq_false_iff_ne.mpr (dc (bc a)),[],.nil,Heap.DictOf.new h⟩
def Wo:TE:=λ_ H Q=>∀p,H p=B->Q (.ref p) (upd H p (.dK []))
section
variable {X:Cx}{pos:iG}
def JU:PE X (.Dict [] [] pos) Wo:=λb s c H Q I h=>wpAny_Dict_empty ⟨.ref s.heap.objs.size,_,I.laid (a:=s.heap.objs.size) (o:=.dK []) (t':=s.toks) (λ_ _ q=>av _ q) (aq _) (TN s.heap I.big),Y,h _ (I.lI.fresh (aq _))⟩
end
def Wn:List (TE×TE)->St->Hp->(List (V×V)->Hp->Prop)->Prop
|[],_,H,Q=>Q [] H
|(c,b)::r,a,H,Q=>c a H λx h=>b a h λy g=>Wn r a g λd f=>Q ((x,y)::d) f
abbrev VV:List (V×V)->List (Z×Z)->Prop:=bX λp q=>RelV p.1 q.1/\RelV p.2 q.2
def xY(X:Cx)(g:iG)(c:List (Option bV))(a:List bV)(f:List (TE×TE)):Prop:=∀(b:List (G×eN))(s:ao)(d:St)(H:Hp)(Q:List (V×V)->Hp->Prop),Inv X b d H s->Wn f d H Q ->aI (aZ X.prog X.w) X.A (evalPairs (pairTrees c a X.env g)) (λj l=>∃h i,Inv X b d i l/\VV h j/\Q h i) X.xe s
def Lj{X:Cx}{a:iG}:xY X a [] [] []:=λb s c H Q I h=>pairTrees_nil_walk ⟨[],H,I,.nil,h⟩
def Jp{X:Cx}{c:iG}{k v:bV}{l:List (Option bV)}{g:List bV}{j i:TE}{b:List (TE×TE)}(hk:PE X k j)(A:PE X v i)(C:xY X c l g b):xY X c (O k::l) (v::g) ((j,i)::b):=by intro a s d H Q I h;refine pairTrees_cons_walk (lY (hk a s d H _ I h) λu o L=>?_);obtain⟨x,H1,P,q,w⟩:=L;refine lY (A a o d H1 _ P w) λw2 n F=>?_;obtain⟨y,W,N,p,t⟩:=F;refine lY (C a n d W _ N t) λws s3 E=>?_;obtain⟨z,T,M,f,r⟩:=E;exact⟨(x,y)::z,T,M,.cons ⟨q,p⟩ f,r⟩
noncomputable def UA(a more:List (Key×V)):List (Key×V):=more.foldl (λb c=>Yb b c.1 c.2) a
def KV.merge:∀{more:List (Key×V)}{c:List (Key×Z)}{a:List (Key×V)}{b:List (Key×Z)},KV more c->KV a b->KV (UA a more) (merged b c):=by
 intro more c a b r;unfold KV at r;induction r generalizing a b with
|nil=>intro q;exact q
|@cons p q i g h t f=>
  intro d;have e:KV (Yb a p.1 p.2) (lL b q.1 q.2):=by have:=d.put p.1 h.2;rw[<-h.1];exact this
  exact f e
theorem Um:∀(more a:List (Key×V)),(UA a more).length<=a.length+more.length
|[],a=>by show a.length<=a.length+0;omega
|p::r,a=>by have c:=Um r (Yb a p.1 p.2);have b:=Xp a p.1 p.2;show(UA (Yb a p.1 p.2) r).length<=_;rw[aB];omega
theorem Qg  :∀{d:List (Key×V)}{ws:List (Z×Z)},VV (d.map λg=>(kV g.1,g.2)) ws->∃f,Carries (Z1 P w) ws f/\KV d f
|[],_,r=>by rw[cJ]at r;cases r;exact⟨[],dE,.nil⟩
|p::d,_,r=>by
  rw[aH]at r;cases r with
 |@cons a b l bs h t=>obtain⟨f,c,q⟩:=Qg (P:=P) (w:=w) t;obtain⟨j,i⟩:=b;exact⟨(p.1,i)::f,⟨Nv h.1,Y,c⟩,.cons ⟨Y,h.2⟩ q⟩
def Zar(b:List (TE×TE)):TE:=λf H Q=>∀p,H p=B->Wn b f (upd H p (.dK [])) λg d=>d p=O (.dK [])/\∃a:List (Key×V),g=a.map (λc=>(kV c.1,c.2))/\a.length<=15/\Q (.ref p) (upd d p (.dK (UA [] a)))
def Lm{X:Cx}{g:iG}{b:List (Option bV)}{d:List bV}{f:List (TE×TE)}(h:xY X g b d f)(n:b.all (·.isSome)=true)(M:b.length=d.length)(h0:b≠[])(r:b.length<=15):PE X (.Dict b d g) (Zar f):=by
 intro l s u H Q I q;have L:=I.lI.fresh (aq s.heap.objs.size);have I1:=I.laid (a:=s.heap.objs.size) (o:=.dK []) (h':=s.heap.push {cls:=.type "dict",data:=.dict #[]}) (t':=s.toks) (λ_ _ q=>av _ q) (aq _) (TN s.heap I.big);refine wpAny_Dict_walk (knd:=Z1 X.prog X.w) n M h0 r (lY (h l _ u _ _ I1 (q _ L)) λws s2 W=>?_);obtain⟨ps,H2,t,p,e,i,ep,lk,C⟩:=W;subst ep;obtain⟨x,c,y⟩:=Qg (P:=X.prog) (w:=X.w) p;obtain⟨z,T,aa,A,dd⟩:=IJ t.lI e;cases A;refine⟨x,c,dd,λh' j hs=>⟨.ref s.heap.objs.size,_,?_,Y,C⟩⟩;have E:(UA [] i).length<=sizeLine:=by have h1:=Um i [];rw[dz]at h1;rw[g_];omega
 have N:∃q,h'.get? s.heap.objs.size=O q:=let ⟨q,_,_,F,_⟩:=j;⟨q,F⟩
 exact RL t (by rw[e];exact dE) hs N (Ka E T (y.merge .nil) j)
structure M1(X:Cx)(o:bV)(m:U)(apos:iG)(e:bV)(mR:iG):Prop where
 base:fD o m X.env (cM o X.env)=cM o X.env
 R':((eh mR (bf [e] X.env)).all (λx=>!x.1)&&(iL mR (fY [] X.env)).all (λx=>x.1.isSome)
 &&decide (([e]:List bV).length+([]:List jM).length+(if([]:List jM).isEmpty then 0 else 1)<30))=true
 line:(apos.endLine==mR.line)=true
 trees:eh mR (bf [e] X.env)=[(false,cM e X.env)]
structure M2(X:Cx)(o:bV)(m:U)(apos:iG)(e f:bV)(mR:iG):Prop where
 base:fD o m X.env (cM o X.env)=cM o X.env
 R':((eh mR (bf [e,f] X.env)).all (λx=>!x.1)&&(iL mR (fY [] X.env)).all (λx=>x.1.isSome)
 &&decide (([e,f]:List bV).length+([]:List jM).length+(if([]:List jM).isEmpty then 0 else 1)<30))=true
 line:(apos.endLine==mR.line)=true
 trees:eh mR (bf [e,f] X.env)=[(false,cM e X.env),(false,cM f X.env)]
def Ω(H:Hp)(a:G):Prop:=(∃b,Rd H a (.dK b))\/∃b,Rd H a (.dT b)
def C4      (I:Inv X l n H s)(d:Ω H a):s.TypeIs (.ref a) "dict"/\(∀b,aN a=.ref b->∃c,s.heap.get? b=O c/\c.dict=B)/\(a==fK)=false:=by
 rcases d with⟨j,e⟩|⟨j,e⟩
 .obtain⟨_,g,p,_,f⟩:=Qd I.lI e;refine⟨f.typeIs,λb q=>?_,g⟩;cases q;obtain⟨c,_,_,i,h,_⟩:=f;exact⟨c,i,h.2.1⟩
 .obtain⟨_,g,o,_,f⟩:=Qc I.lI e;refine⟨f.typeIs,λb q=>?_,g⟩;cases q;obtain⟨c,_,_,i,h,_⟩:=f;exact⟨c,i,h.2.1⟩
section
variable {X:Cx}{pins:List (G×eN)}{σ:St}{H:Hp}{s:ao}{a:G}{y d:V}{u r:Z}{o:Option V}{A:bU}{E:Z->ao->Prop}
def Zac{Q:Z->ao->Prop}(C:A.units+1<iE)(I:Inv X pins σ H s)(g:nY H a y o)(t:RelV y u)(rd:RelV d r)(h:∀p q,Inv X pins σ H q->RelV (o.getD d) p->Q p q):aI (aZ X.prog X.w) A (call (.builtin "dict.get") [.ref a,u,r]) Q E s:=by
 rcases g with⟨n,k,e,j,l⟩|⟨n,k,b,e,j,L,l⟩
 .subst j;obtain⟨z,i,M,c,f⟩:=Qd I.lI e;refine call_meetsIn gD f.typeIs jE (PySem.F.args_dict_get_3 _ _ _) (meets_dict_get_default (Z1 X.prog X.w) a (Nv t) i r) ⟨_,f.mapOf,h _ _ (I.tok _) ?_⟩;rw[l];exact(c.val k).getD rd
 .subst j;cases(show u=aN b from t);obtain⟨z,i,x,c,f⟩:=Qc I.lI e;refine call_meetsIn gD f.typeIs jE (PySem.F.args_dict_get_3 _ _ _) (meetsH_dict_get_default (kY (Z1 X.prog X.w)) a b i r) ⟨iC C,k,x,MO I.lI L,f,h _ _ (I.tok _) ?_⟩;rw[l];exact(c.val k).getD rd
end
def Bc(td ty f:TE):TE:=λb H Q=>td b H λx d=>∃a,x=.ref a/\Ω d a/\ty b d λy g=>f b g λz c=>∃o,nY c a y o/\Q (o.getD z) c
section
variable {X:Cx}{o e f:bV}{apos mR:iG}{td ty tx:TE}
def Fs(N:X.A.units+1<iE)(P:PE X o td)(W:PE X e ty)(T:PE X f tx)(m:M2 X o "get" apos e f mR):PE X (.Call (.Attribute o "get" apos) [e,f] [] mR) (Bc td ty tx):=by
 intro b s i H Q I h;refine wpAny_Call_method m.base m.R' m.line PySem.F.plainAttrs_dict gD PySem.F.type_dict_get (lY (P b s i H _ I h) λu r c=>?_);obtain⟨x,H1,l,C,a,ex,d,M⟩:=c;subst ex;obtain rfl:u=aN a:=C;obtain⟨p,n,_⟩:=C4 l d;refine⟨p,n,?_⟩;rw[m.trees];refine ix Y (j6 (ig (lY (W b r i H1 _ l M) λiv q c=>?_)));obtain⟨y,H2,I2,w,L⟩:=c;refine ig (lY (T b q i H2 _ I2 L) λfv s3 c=>?_);obtain⟨z,H3,I3,t,ov,g,E⟩:=c;refine jv ?_;exact Zac N I3 g w t λw' s4 I4 j=>⟨_,H3,I4,j,E⟩
end
open PySem PySem.Spec PyProof.Rows
section
variable {X:Cx}{pins:List (G×eN)}{σ:List (Option V)}{H H':Hp}{s:ao}{h':bC}{tk:Nat}{ch:List G}
def Inv.χ(I:Inv X pins σ H s)(f:∀b∈ch,qO X pins H b)(d:∀b o,b∉ch->s.heap.get? b=O o->h'.get? b=O o)(free:∀b o,s.heap.get? b=O o->H b=B->H' b=B)(up:∀b u,H b=O u->H' b=O u)(new:∀b u,H' b=O u->H b=B->ZY X.prog X.w H' h' b u):Inv X pins σ H' {s with heap:=h',toks:=tk}:=by
 refine I.step (g':=s.gens) (d':=s.drawn) (ch:=ch) (λb a=>?_) (λb o _ _ a q _=>d b o a q) (λb o _ _ a q _=>⟨o.slots,d b o a q⟩) (λb o _=>free b o) (λb o a q=>⟨o,d b o a q⟩) (λ_ _=>up _ _) (λ_ _ _=>up _ _) (λb z q=>⟨#[],by rw[up _ _ q];simp⟩) (λm i=>?_) (λb u q=>?_) I.bare
 .obtain⟨_,p,_,l,j⟩:=f b a;exact⟨l,p,j⟩
 .obtain⟨o,t,x,h,r⟩:=i;exact⟨o,t,x,d _ o (λa=>(f _ a).2.1 Y) h,r⟩
 .cases e:H b with
 |none=>exact new b u q e
 |some v=>
   rw[up _ _ e]at q;cases q;refine(I.lI b _ e).o_ (λc y hc g=>d c y (λa=>?_) g) (λ_=>up _ _) λ_ _=>up _ _;have n:=(f _ a).1;rcases hc with rfl|hc
   .rw[n]at e;cases e
   .rw[n]at hc;cases hc
def Inv.mv(I:Inv X pins σ H s)(c:∀b∈ch,qO X pins H b)(a:∀b o,b∉ch->s.heap.get? b=O o->h'.get? b=O o):Inv X pins σ H {s with heap:=h',toks:=tk}:=I.χ c a (λ_ _ _ n=>n) (λ_ _ q=>q) λb u q n=>by rw[n]at q;cases q
def Inv.υ{T:G} (I:Inv X pins σ H s)(i:∀b∈ch,qO X pins H b)(d:∀b o,b∉ch->s.heap.get? b=O o->h'.get? b=O o)(c:s.heap.objs.size<=T)(r:Zt xs a)(f:h'.IsTuple T a.toArray)(h:xs.length<=sizeLine):Inv X pins σ (upd H T (.tup xs)) {s with heap:=h',toks:=tk}:=by
 have g:H T=B:=I.lI.fresh c;refine I.χ i d (λb o q n=>by rw[Zk (bc (aX (aK q) c))];exact n) (λb u q=>by rw[Zk (Zp q g)];exact q) λb u q n=>?_;by_cases e:b=T
 .subst e;rw[Zc]at q;cases q;exact⟨h,a,r,f⟩
 .rw[Zk e,n]at q;cases q
end
def J9(z:U):jf z="str_ascii_iterator"\/jf z="str_iterator":=by
 unfold jf;split
 .exact .inl Y
 .exact .inr Y
def Qu  {A:bU}(a:A.handled=B)(it:G)(x:U)(t:Tok):Walks P w A it [it] [it] x.cps.size (SignAt x) (λi h=>h.IsStrIter it (jf x) x t i):=by
 rcases J9 x with e|e
 .rw[e];exact Walks.strAscii a it x t
 .rw[e];exact Walks.strWide a it x t
noncomputable def yH(z:U):It:=⟨λi _=>i<z.length,λi H x a=>a=H/\∃c,z.cps.toList[i]?=O c/\x=.str ⟨#[c]⟩,λi _=>z.length<=i⟩
def Et{P:a9}{w:bg}{K:af}{tg:bV}(z:U)(t:Tok)(it:G):
  Turn P w K tg (yH z) [it] it (λi h=>i<=z.length/\h.IsStrIter it (jf z) z t i) where
 mem:=by simp
 obj:=λi h st b f=>by
  have e:b=it:=by simpa using f
  subst e
  obtain⟨_,o,e,c,d⟩:=st
  exact⟨o,e,λv z=>by rw[d]at z;cases z⟩
 keep:=λi h q st k=>by
  obtain⟨l,o,e,r⟩:=st
  exact⟨l,o,k it zE o e,r⟩
 item:=by
  intro X L C M F i a s σ H E I p st n
  subst L C M
  obtain⟨f0,f1,f2,f3,T,N⟩:=p it zE
  have W:=Qu (P:=X.prog) (w:=X.w) (I.ok.hd F) it z t
  refine W.item i s _ _ n st.2 λv q x hv g y=>?_
  obtain⟨c,u,j,rfl⟩:=hv
  have I1:Inv X a σ H {s with heap:=q,toks:=x}:=I.turned (λb o f e=>y b o (by simpa using f) e) f0 f1 f3 T N
  obtain⟨o,e,c',d⟩:=id g
  refine⟨_,Y,LC (s:={s with heap:=q,toks:=x}) e c' d ?_ ⟨.str ⟨#[c]⟩,H,I1,⟨u,Y⟩,⟨Y,c,by simpa using j,Y⟩,⟨n,g⟩,λb f=>(p b f).1⟩⟩
  rcases J9 z with e|e<;>rw[e]<;>decide
 done:=by
  intro X L C M F i a s σ H E I p st n
  subst L C M
  obtain⟨f0,f1,f2,f3,T,N⟩:=p it zE
  have W:=Qu (P:=X.prog) (w:=X.w) (I.ok.hd F) it z t
  obtain⟨hl,st⟩:=st
  have e:i=z.length:=Nat.le_antisymm hl n
  subst e
  exact W.done s _ _ st λq x y=>⟨Y,I.turned (λb o f e=>y b o (by simpa using f) e) f0 f1 f3 T N⟩
 self:=λA i s Q E st h=>by
  obtain⟨_,st⟩:=st
  rcases J9 z with e|e
  .rw[e]at st;exact wpAny_pyIter_striter_ascii st h
  .rw[e]at st;exact wpAny_pyIter_striter_wide st h
def DL  {A:bU}(a:A.handled=B)(it:G)(x:U)(t:Tok):Draws P w A it [it] x.cps.size (λi v=>∃c u,x.cps[i]?=O c/\v=.str ⟨#[c]⟩ u) (λi h=>h.IsStrIter it (jf x) x t i):=by
 rcases J9 x with e|e
 .rw[e];exact Draws.strAscii a it x t
 .rw[e];exact Draws.strWide a it x t
section
variable {X:Cx}{tg:bV}
def J_(c:TE):TI:=λa H b=>c a H λx d=>∃z,x=.str z/\b (yH z) d
def WI{l:bV}{f:TE}(n:PE X l f):PI X tg l (J_ f):=by
 intro a s g H w I h;refine lY (n a s g H _ I h) λv c r=>?_;obtain⟨x,u,d,i,j⟩:=r;obtain⟨z,e,q⟩:=j;subst e;obtain⟨t,rfl⟩:=i;refine wpAny_pyIter_strU ?_;refine⟨c.heap.objs.size,[c.heap.objs.size],_,_,u,Y,d.kept (t':=c.toks) λb o e=>av _ e,Et z t _,⟨bK _,_,aR _ Y,Y,Y⟩,λb p=>?_,q⟩;have e:b=c.heap.objs.size:=by simpa using p
 subst e;exact d.sk (aq _) (d.lI.fresh (aq _))
end
def JX{b:Type}{n:Nat}{l:List b}(h:l.length=n+1):∃a t,l=a::t/\t.length=n:=by
 cases l with
|nil=>cases h
|cons a t=>exact⟨a,t,Y,Nat.succ.inj h⟩
def rz{b:Type}{l:List b}(h:l.length=1):∃a,l=[a]:=by obtain⟨a,t,rfl,c⟩:=JX h;exact⟨a,by rw[lV c]⟩
def p_{c:Type}{l:List c}(h:l.length=2):∃a b,l=[a,b]:=by obtain⟨a,t,rfl,d⟩:=JX h;obtain⟨b,rfl⟩:=rz d;exact⟨a,b,Y⟩
def sf{d:Type}{l:List d}(h:l.length=3):∃a b c,l=[a,b,c]:=by obtain⟨a,t,rfl,f⟩:=JX h;obtain⟨b,c,rfl⟩:=p_ f;exact⟨a,b,c,Y⟩
def qY{f:Type}{l:List f}(h:l.length=4):∃a b c d,l=[a,b,c,d]:=by obtain⟨a,t,rfl,g⟩:=JX h;obtain⟨b,c,d,rfl⟩:=sf g;exact⟨a,b,c,d,Y⟩
def rp{f:Type}{l:List f}(h:l.length=5):∃a b c d e,l=[a,b,c,d,e]:=by obtain⟨a,t,rfl,g⟩:=JX h;obtain⟨b,c,d,e,rfl⟩:=qY g;exact⟨a,b,c,d,e,Y⟩
def v7{g:Type}{l:List g}(h:l.length=6):∃a b c d e f,l=[a,b,c,d,e,f]:=by obtain⟨a,t,rfl,i⟩:=JX h;obtain⟨b,c,d,e,f,rfl⟩:=rp i;exact⟨a,b,c,d,e,f,Y⟩
section
variable {prog:a9}{w:bg}{A:bU}{zv:Result->ao->Prop}{s:ao}
abbrev vE:Z->ao->Prop:=λ_ _=>False
def IQ{a:Type}{M:Model}{t:Sem a}{Q:a->ao->Prop}{E:Z->ao->Prop}(h:aI M A t Q vE s):aI M A t Q E s:=dQ h (λ_ _ q=>q) λ_ _ x=>x.elim
def TR{u a iter:bV}{t:List bV}{g:dh}{z:iG}{it y:Z}{b:jI}(I:Nat->ao->Prop)
  (turn:∀n s,I n s->aI (aZ prog w) A (jQ it) (λr f=>match r with
  |none=>zv (.ok .next) f
  |some v=>aI (aZ prog w) A (kB a it v) (λ_ o=>aI (aZ prog w) A (assign a b v) (λ_ l=>
     aI (aZ prog w) A (forIn t true λc r=>if r=true then do let ok <-isTrue c b (cM c b);pure (gS ok)else pure (gS r)) (λok d=>
      if ok=true then aI (aZ prog w) A (cM u b) (λx j=>aI (aZ prog w) A (call (.builtin "list.append") [y,x]) (λ_ i=>∃m,m<n/\I m i) vE j) vE d
      else ∃m,m<n/\I m d) vE l) vE o) vE f) vE s)
  (n:Nat) (h:I n s):
  iK (aZ prog w) A (.compLoop (.ListComp u [⟨a,iter,t,0⟩] g z) 0 it y b) zv s:=by
 refine codeAny_loop Y I (λn s L=>?_) n h
 show aI _ A ((compTurn (.ListComp u [⟨a,iter,t,0⟩] g z) 0 it y b).onRaise (λx=>do noteFrame x b;theTreesLotGoes x)) _ _ s
 refine wpAny_noted (IQ ?_)
 rw[compTurn_list]
 refine ae (gb (ae (lY (turn n s L) (λr f q=>?_))))
 cases r with
|none=>exact aE q
|some v=>
  refine ae (lY q λ_ o H=>?_)
  refine ae (lY H λ_ l F=>ae (lY F λok d p=>?_))
  cases ok with
 |false=>exact aE ⟨Y,p⟩
 |true=>exact ae (ae (lY p λx j E=>ae (lY E λ_ i C=>aE (aE ⟨Y,C⟩))))
end
noncomputable def rE(a:jI):List (U×gZ)->List (U×G)->List (U×G)
|[],b=>b
|(n,k)::r,b=>rE a r (if k==.free then(n,(a.cells.lookup n).getD 0)::b else b)
noncomputable def sq(a:dh)(b:jI):List (U×G):=rE b a.names []
theorem U3{env:jI}:∀(a:List (U×gZ))(d:List (U×G)),(∀x∈a,x.2=.free->∃c,env.cells.lookup x.1=O c) ->
  (forIn a d λ(x:U×gZ)(r:List (U×G))=>(match x with
  |(name,b)=>if(b==.free)=true then(do let c <-cellOf env name;pure (gS ((name,c)::r)))else pure (gS r):Sem (ForInStep (List (U×G)))))
   = pure (rE env a d)
|[],d,_=>rfl
|(n,k)::r,d,h=>by
  rw[iZ]
  cases hk:k==dS with
 |true=>
   obtain⟨c,g⟩:=h (n,k) ax (by simpa using hk)
   have e:cellOf env n=pure c:=by unfold cellOf;rw[show env.cells.lookup n=O c from g]
   simp only[hk,if_true,e,rE,pure_bind]
   rw[show env.cells.lookup n=O c from g]
   exact U3 r _ λx f=>h x (au _ f)
 |false=>
   simp only[hk,dm,if_false,rE,pure_bind]
   exact U3 r _ λx f=>h x (au _ f)
def Kd{a:dh}{b:jI}(h:∀x∈a.names,x.2=.free->∃c,b.cells.lookup x.1=O c):closureFor a b=pure (sq a b):=by have e:=U3 (env:=b) a.names [] h;unfold closureFor sq;rw[<-e];simp only[bind_pure]
def QZ{f:jI}:∀(d:List (U×gZ))(g:List (U×G)),(∀y∈d,y.2=.free->∃c,f.cells.lookup y.1=O c)->(∀c,g.lookup x=O c->f.cells.lookup x=O c) ->(∀c,(rE f d g).lookup x=O c->f.cells.lookup x=O c)/\(((x,dS)∈d\/(g.lookup x).isSome=true)->((rE f d g).lookup x).isSome=true):=by
 intro d;induction d with
|nil=>intro g _ h;exact⟨h,λz=>z.elim (λz=>zI z zE) id⟩
|cons p r s=>
  obtain⟨n,k⟩:=p;intro g u h;have t:∀y∈r,y.2=dS->∃c,f.cells.lookup y.1=O c:=λy w=>u y (au _ w);show(∀c,(rE f r (if k==.free then(n,(f.cells.lookup n).getD 0)::g else g)).lookup x=O c->_)/\(_->((rE f r (if k==.free then(n,(f.cells.lookup n).getD 0)::g else g)).lookup x).isSome=true);cases hk:k==dS with
 |true=>
   obtain⟨l,o⟩:=u (n,k) ax (by simpa using hk);have i:f.cells.lookup n=O l:=o;simp only[if_true,i,Option.getD_some];have A:∀c,((n,l)::g).lookup x=O c->f.cells.lookup x=O c:=λc q=>by
    rw[f7]at q;cases j:x==n with
   |true=>
     rw[j]at q;have e:x=n:=by simpa using j
     subst e;cases q;exact i
   |false=>rw[j]at q;exact h c q
   obtain⟨a,b⟩:=s ((n,l)::g) t A;refine⟨a,λz=>b ?_⟩;by_cases j:x=n
   .right;subst j;simp
   .rcases z with z|z
    .rcases ay.mp z with e|z
     .exact zI (zM Prod.fst e) j
     .exact .inl z
    .right;have:(x==n)=false:=by simpa using j
     rw[f7,this];exact z
 |false=>
   simp only[dm,if_false];obtain⟨a,b⟩:=s g t h;refine⟨a,λz=>b ?_⟩;rcases z with z|z
   .rcases ay.mp z with e|z
    .have:k=.free:=(zM Prod.snd e).symm;rw[this]at hk;exact zI hk D
    .exact .inl z
   .exact .inr z
structure i4(scope sc:dh):Prop where
 kind:scope.kind=.function
 s_:∀y∈scope.names,y.2≠.cell
 loc:∀y∈scope.names,y.2=.local->scope.names.lookup y.1=O .local
 free:∀y∈scope.names,y.2=.free->sc.names.lookup y.1=O .cell\/sc.names.lookup y.1=O .free
def Gm{b:dh} (p:∀y∈b.names,y.2≠.cell):∀{k:gZ},(relabel b c).names.lookup x=O k->(k=.cell\/k=.free)->(x,dS)∈b.names:=by
 have go:∀(a:List (U×gZ)),(∀y∈a,y.2≠jl)->∀{k:gZ},(a.map λ(n,k)=>if(k==dS&&c.scope.kind==.function&&c.kindOf n==O .cell)then(n,jl)else(n,k)).lookup x=O k->(k=.cell\/k=.free)->(x,dS)∈a:=by
  intro a;induction a with
 |nil=>intro _ k h _;simp at h
 |cons y r l=>
   intro o k h hk;obtain⟨n,g⟩:=y;have f:∀y∈r,y.2≠jl:=λy q=>o y (au _ q);have j:g≠jl:=o (n,g) ax;rw[aH]at h;by_cases i:(g==dS&&c.scope.kind==.function&&c.kindOf n==O .cell)=true
   .simp only[i,if_true]at h;rw[f7]at h;cases d:x==n with
   |true=>
     have e:x=n:=by simpa using d
     have s:g=.free:=by simp only[bJ]at i;simpa using i.1.1
     subst e s;exact ax
   |false=>rw[d]at h;exact au _ (l f h hk)
   .simp only[i]at h;simp only[if_false,dm]at h;rw[f7]at h;cases d:x==n with
   |true=>
     rw[d]at h;cases h;have e:x=n:=by simpa using d
     subst e;rcases hk with e|e
     .exact zI e j
     .rw[e];exact ax
   |false=>rw[d]at h;exact au _ (l f h hk)
 intro k h hk;exact go b.names p h hk
def Qp   :(relabel b c).names.lookup x=O .local->b.names.lookup x=O .local:=by
 have go:∀(a:List (U×gZ)),(a.map λ(n,k)=>if(k==dS&&c.scope.kind==.function&&c.kindOf n==O .cell)then(n,jl)else(n,k)).lookup x=O .local->a.lookup x=O .local:=by
  intro a;induction a with
 |nil=>intro h;simp at h
 |cons y r f=>
   intro h;obtain⟨n,i⟩:=y;rw[aH]at h;rw[f7];by_cases g:(i==dS&&c.scope.kind==.function&&c.kindOf n==O .cell)=true
   .simp only[g,if_true]at h;rw[f7]at h;cases d:x==n with
   |true=>rw[d]at h;cases h
   |false=>rw[d]at h;exact f h
   .simp only[g]at h;simp only[if_false,dm]at h;rw[f7]at h;cases d:x==n with
   |true=>rw[d]at h;exact h
   |false=>rw[d]at h;exact f h
 exact go b.names
noncomputable def Jt(X:Cx)(a:dh)(N:List U)(C:G)(s:ao)(H:Hp)(b:List G)(pn:List (G×eN)):Cx where
 prog:=X.prog
 w:=X.w
 K:=X.K
 mg:=X.mg
 base:=X.base
 A:=X.A
 N:=N
 nv:=s
 sH:=H
 env:=compEnvC a (sq a X.env) C X.env
 outer:=X.stack
 stack:=X.stack
 ex:=b
 calm:=X.calm
 fn:=λ_=>false
 pn:=pn
 xe:=vE
noncomputable def inner(b:List (Option Nat))(a:St):St:=b.map λo=>o.bind λj=>(a[j]?).join
structure i3(N0:List U)(scope:dh)(N:List U)(cp:List (Option Nat)):Prop where
 len:cp.length=N.length
 at_:∀(i j:Nat)(x:U),cp[i]?=O (O j)->N[i]?=O x->N0[j]?=O x/\scope.names.lookup x=O .free
noncomputable def namesOk(c:List U)(a:dh)(N:List U)(b:List (Option Nat)):Bool:=(b.length==N.length)&&(bB b.length).all λi=>match b[i]?,N[i]? with
 |some (O j),O x=>c[j]?==O x&&a.names.lookup x==O .free
 |_,_=>true
def i3.mk'    (h:namesOk g a N c=true):i3 g a N c:=by unfold namesOk at h;rw[bJ,bY]at h;refine⟨by simpa using h.1,λi j x b f=>?_⟩;have d:i<c.length:=(aU.mp b).1;have q:=h.2 i (bW.mpr d);rw[b,f]at q;simpa using q
section
variable {X:Cx}{pins:List (G×eN)}{σ:St}{H:Hp}{s:ao}
def TU (I:Inv X pins σ H s)(b:i4 a X.env.scope):∀y∈a.names,y.2=.free->∃c,X.env.cells.lookup y.1=O c:=λy d e=>I.ok.has y.1 (b.free y d e)
def F9   {P:List G}{f:eN}{L:bC}{tk:Nat}(F:i4 a X.env.scope)(CN:i3 X.N a N cp)(I:Inv X pins σ H s)(E:∀b∈P,qO X pins H b)(aP:∀b∈P,∃o,s.heap.get? b=O o)(az:∀v,f.data≠.cell v)(aC:L.Ns (s.heap.push f).objs.size (λx=>([]:List (U×Z)).reverse.lookup x))(hk:∀b o,(s.heap.push f).get? b=O o->L.get? b=O o)(aM:f.isFreed=false):Inv (Jt X a N (s.heap.push f).objs.size {s with heap:=s.heap.push f} H (s.heap.objs.size::P) (X.pn++pins)) [(s.heap.objs.size,f)] (inner cp σ) H {s with heap:=L,toks:=tk}:=by
 have cl:=TU I F;have look:∀x c,(sq a X.env).lookup x=O c->X.env.cells.lookup x=O c:=λx=>(QZ a.names [] cl (λc q=>by simp at q)).1;have r:∀x,(x,dS)∈a.names->∃c,(sq a X.env).lookup x=O c:=λx l=>
  eJ.mp ((QZ a.names [] cl (λc q=>by simp at q)).2 (.inl l));have kp:∀b o,s.heap.get? b=O o->(s.heap.push f).get? b=O o:=λb o e=>av _ e;have A:∀b o,s.heap.get? b=O o->L.get? b=O o:=λb o e=>hk b o (kp b o e);have hz:(s.heap.push f).objs.size=s.heap.objs.size+1:=fZ ..;have Q:Inv X pins σ H {s with heap:=s.heap.push f}:=I.kept (t':=s.toks) kp;have hD:H s.heap.objs.size=B:=I.lI.fresh (aq _);have hC:H (s.heap.push f).objs.size=B:=Q.lI.fresh (aq _);have a3:L.get? s.heap.objs.size=O f:=hk _ _ (aR _ aM);have T:∀b∈m6 X.stack,b<s.heap.objs.size:=λb hb=>by
  rcases ay.mp (I.pO b hb)with e|e
  .rw[e];exact I.lt
  .exact Nat.lt_of_not_le λz=>I.xk z e
 have a4:∀b∈P,b∉m6 X.stack:=λb hb hs=>by
  obtain⟨_,g1,g2,_⟩:=E b hb;rcases ay.mp (I.pO b hs)with e|e
  .exact g1 e
  .exact g2 e
 have ah:∀b∈P,b<s.heap.objs.size:=λb hb=>let ⟨o,e⟩:=aP b hb;aK e
 refine⟨⟨I.ok.mod,F.kind,I.ok.glob,I.ok.blt,aq _,λx y c C M=>I.ok.inj x y c (look x c C) (look y c M),λx l=>?_,λx c hf _=>(by cases hf),I.ok.hd,I.ok.frames,.inl Y,λb hb=>?_,Q.bs,aj I.ok.uu Q.sz,λb o e hb=>?_,λb hb=>?_,Q.stack,Q.nI⟩,Y,I.bare,Un.kept hk,⟨_,aC,λi x v C M h3=>?_⟩,λx c l=>?_,hC,λx c l=>I.mV x c (look x c l),λp hp=>?_,I.lI.kept A,?_⟩
 .have ak:(relabel a X.env).names.lookup x=O .cell\/(relabel a X.env).names.lookup x=O .free:=l;rcases ak with e|e
  .exact r x (Gm F.s_ e (.inl Y))
  .exact r x (Gm F.s_ e (.inr Y))
 .show b≠(s.heap.push f).objs.size/\∀x c,(sq a X.env).lookup x=O c->c≠b;rcases ay.mp hb with e|hb
  .subst e;refine⟨by rw[hz];exact bc (fv _),λx c l z=>?_⟩;obtain⟨v,q⟩:=I.cell x c (look x c l);exact zI q.lt (by rw[z];exact dB _)
  .exact⟨by rw[hz];exact bc (eZ (ah b hb)),λx c l=>(E b hb).2.2.2.2.1 x c (look x c l)⟩
 .rcases ay.mp hb with z|hb
  .subst z;have C:=aK (I.bk _ _ e);exact dB _ C
  .obtain⟨_,_,_,g3,_⟩:=E b hb;rcases g3 with g3|g3
   .exact I.ok.r_ b o e g3
   .have C:=aK e;have M:=I.ok.uu;exact zI (aX C (aj M g3)) (dB _)
 .show b∉m6 X.stack;rcases ay.mp hb with z|hb
  .subst z;exact λz=>dB _ (T _ z)
  .exact a4 b hb
 .have g:(inner cp σ)[i]?=O (O v):=M;unfold inner at g;rw[aT]at g;cases hc:cp[i]? with
 |none=>rw[hc]at g;cases g
 |some oj=>
   rw[hc]at g;cases oj with
  |none=>have:(B:Option V)=O v:=aJ g;cases this
  |some j=>
    have h:(σ[j]?).join=O v:=aJ g;have ai:σ[j]?=O (O v):=by
     cases q:σ[j]? with
    |none=>rw[q]at h;cases h
    |some o=>rw[q]at h;exact zM O h
    obtain⟨hN,t⟩:=CN.at_ i j x hc C;have w:(x,dS)∈a.names:=fW t;have W:=F.free _ w Y;obtain⟨m,hn,hl⟩:=I.loc;have ab:yC X.env.scope x:=W.elim (λz=>.inr (.inl z)) λz=>.inr (.inr z);obtain⟨u,ru,lk⟩:=hl j x v hN ai ab;refine⟨u,ru,?_⟩;rcases lk with⟨z,_⟩|⟨_,c,aS,cc⟩
    .rcases W with q|q<;>(have z':=z.symm.trans q;cases z')
    .obtain⟨c2,aa⟩:=r x w;have a0:c2=c:=by have:=(look x c2 aa).symm.trans aS;exact aJ this
     subst a0;obtain⟨o,ho,hd⟩:=cc;refine .inr ⟨?_,c2,aa,⟨o,A _ _ ho,hd⟩⟩;rcases h3 with q|q|q
     .have q':=(Qp q).symm.trans t;cases q'
     .exact .inl q
     .exact .inr q
 .obtain⟨v,o,ho,hd⟩:=I.cell x c (look x c l);exact⟨v,o,A _ _ ho,hd⟩
 .have ar:p∈(X.pn++pins)++[(s.heap.objs.size,f)]:=hp;rcases ba.mp ar with K_|K_
  .obtain⟨e,n,ne,nf,d⟩:=I.pin p K_;have aF:=aK e;refine⟨A _ _ e,n,by show p.1≠(s.heap.push f).objs.size;rw[hz];exact bc (eZ aF),λhb=>?_,d⟩;rcases ay.mp (I.pO _ hb)with z|z
   .exact ne z
   .exact nf z
  .have e:p=(s.heap.objs.size,f):=by simpa using K_
   subst e;exact⟨a3,hD,by show s.heap.objs.size≠(s.heap.push f).objs.size;rw[hz];exact bc (fv _),λz=>dB _ (T _ z),az⟩
 .show(inner cp σ).length=N.length;unfold inner;rw[bH];exact CN.len
end
noncomputable def Z2(a:List Z)(k:Nat):eN:={cls:=.type "list",data:=.seq a.toArray k}
def Nu {k:Nat}:∀v,(Z2 a k).data≠.cell v:=λv z=>by have b:Data.seq a.toArray k=Data.cell v:=z;cases b
section
variable {X:Cx}
def xX(X:Cx)(d:List bV)(t:TT):Prop:=
 ∀(a:List (G×eN))(s:ao)(b:St)(H:Hp)(Q:Bool->Hp->Prop),Inv X a b H s->t b H Q ->
  aI (aZ X.prog X.w) X.A (forIn d true λc r=>if r=true then do let ok <-isTrue c X.env (cM c X.env);pure (gS ok)else pure (gS r)) (TP X a b Q) X.xe s
def vS:TT:=λ_ H Q=>Q true H
def ZW:xX X [] vS:=λ_ _ _ H _ I h=>wpAny_tests_nil ⟨H,I,h⟩
def V4  (h:PT X c t):xX X [c] t:=λa s b H Q I d=>wpAny_tests_one (h a s b H Q I d)
def L4(j:It)(g:TG)(s:TT)(r:TE)(l:St)(w:Hp)(q:List V->Hp->Prop):Prop:=∃W:Nat->Nat->List V->St->Hp->Prop,(∃m,W 0 m [] l w)/\∀i m c n H,W i m c n H ->(j.stop i H/\q c H)\/(j.go i H/\c.length<sizeLine/\∃N:List V->St->Hp->Prop,(∀h f d,N h f d->∃o,o<m/\W (i+1) o h f d) /\∀x d,j.wD i H x d->g x n d λa u=>s a u λb p=>if b=true then r a p λy t=>N (c++[y]) a t else N c a p)
def KL(i:List (Option Nat))(d:TI)(g:TG)(h:TT)(f:TE):TE:=λa H Q=>d a H λb j=>L4 b g h f (inner i a) j λc H=>∀l,H l=B->Q (.ref l) (upd H l (.lst c))
def Vp{zA:It}{g:TG}{t:TT}{s:TE} {r:List V->Hp->Prop}(n:Nat)(N:n<=sizeLine)(d:Nat->List V->St->Hp->Prop)(C:d 0 [] o I)(z:∀i a c H,d i a c H->a.length<=i)(q:∀i a c H,i<n->d i a c H->zA.go i H)(j:∀a c H,d n a c H->zA.stop n H)(hs:∀i a c H x l,i<n->d i a c H->zA.wD i H x l->g x c l λf F=>t f F λb u=>if b=true then s f u λy E=>d (i+1) (a++[y]) f E else d (i+1) a f u)(A:∀a c H,d n a c H->r a H):L4 zA g t s o I r:=by
 refine⟨λi m a c H=>m=n-i/\i<=n/\d i a c H,⟨n,Y,bK _,C⟩,?_⟩;rintro i m a c H ⟨rfl,P,p⟩;by_cases h:i<n
 .refine .inr ⟨q i a c H h p,?_,d (i+1),λM L l w=>⟨n-(i+1),zD,Y,h,w⟩,λx l y=>hs i a c H x l h p y⟩;have:=z i a c H p;omega
 .have e:i=n:=by omega
  subst e;exact .inl ⟨j a c H p,A a c H p⟩
def ZX{zA:It}{g:TG}{o:TE} {l:List V->Hp->Prop}(n:Nat)(q:n<=sizeLine)(c:Nat->List V->St->Hp->Prop)(t:c 0 [] h z)(r:∀i a b H,c i a b H->a.length<=i)(j:∀i a b H,i<n->c i a b H->zA.go i H)(d:∀a b H,c n a b H->zA.stop n H)(hs:∀i a b H x p,i<n->c i a b H->zA.wD i H x p->g x b p λf w=>o f w λy u=>c (i+1) (a++[y]) f u)(s:∀a b H,c n a b H->l a H):L4 zA g vS o h z l:=Vp n q c t r j d hs s
def QY                 (hc:X.calm=true)(hS:i4 f X.env.scope)(hN:i3 X.N f N cp)(hi:PI X tg iter wi)(hg:∀C s H ex pn,PG (Jt X f N C s H ex pn) tg g)(ht:∀C s H ex pn,xX (Jt X f N C s H ex pn) aP tc)(he:∀C s H ex pn,PE (Jt X f N C s H ex pn) a4 te)(hs:∀x,jN iter X.env x=pure x)(I:Inv X L σ H s)(h:KL cp wi g tc te σ H Q)(ck:∀(zB C:G)(H5:Hp)(s4:ao)(m:U->Option Z),Inv X L σ H5 s4->s4.heap.Ns C m->C≠X.env.locals->(∀y c,X.env.cells.lookup y=O c->c≠C)->H5 C=B->X.nv.heap.objs.size<=C->(∀p∈X.pn++L,p.1≠C)->Q (.ref zB) H5->compPost (aZ X.prog X.w) X.A X.xe use zv (.ref zB) C (.ok .next) s4):aI (aZ X.prog X.w) X.A (comprehension (.ListComp a4 [⟨tg,iter,aP,0⟩] f cj) f X.env cT (newList []) false (cM iter X.env) use) zv X.xe s:=by
 refine wpAny_comprehension_free (use:=use) (cl:=sq f X.env) Y hs (Kd (TU I hS)) hS.kind hS.loc (lY (hi L s σ H _ I h) λv s1 h1=>lY h1 λcX a h2=>?_);obtain⟨it,fp,tn,zA,H2,rfl,I2,T,aM,f2,W,⟨m0,w0⟩,turn⟩:=h2;refine fh (wpAny_newFunctionEnv hS.s_ (by intro y hy;simp at hy) (λh4 bM bx=>?_) hS.kind);dsimp only at bM bx ⊢;have hz:(a.heap.push (Z2 [] 0)).objs.size=a.heap.objs.size+1:=fZ ..;have aS:∀b o,(a.heap.push (Z2 [] 0)).get? b=O o->h4.get? b=O o:=λb o e=>bx.extBut b o (bc (aK e)) (av _ e);have b0:∀b∈fp,∃o,a.heap.get? b=O o:=λb j=>let ⟨o,e,_⟩:=T.obj _ _ aM b j;⟨o,e⟩
 have aC:∀b∈fp,b<a.heap.objs.size:=λb j=>let ⟨o,e⟩:=b0 b j;aK e
 generalize l:Jt X f N (a.heap.push (Z2 [] 0)).objs.size {a with heap:=a.heap.push (Z2 [] 0)} H2 (a.heap.objs.size::fp) (X.pn++L)=t;have J0:∀tk,Inv t [(a.heap.objs.size,Z2 [] 0)] (inner cp σ) H2 {a with heap:=h4,toks:=tk}:=λtk=>by rw[<-l];exact F9 hS hN I2 f2 b0 Nu bM aS Y
 have cy:PG t tg g:=l▸hg _ _ _ _ _;have cx:xX t aP tc:=l▸ht _ _ _ _ _;have cB:PE t a4 te:=l▸he _ _ _ _ _;have eP:t.prog=X.prog:=by rw[<-l];rfl
 have eW:t.w=X.w:=by rw[<-l];rfl
 have eK:t.K=X.K:=by rw[<-l];rfl
 have eA:t.A=X.A:=by rw[<-l];rfl
 have eC:t.calm=true:=by rw[<-l];exact hc
 have eX:t.xe=vE:=by rw[<-l];rfl
 have eE:t.env=compEnvC f (sq f X.env) (a.heap.push (Z2 [] 0)).objs.size X.env:=by rw[<-l];rfl
 have eL:t.env.locals=(a.heap.push (Z2 [] 0)).objs.size:=by rw[eE];rfl
 have b6:t.fs=m6 X.stack:=by rw[<-l];rfl
 have aa:t.ex=a.heap.objs.size::fp:=by rw[<-l];rfl
 have cR:t.sH=H2:=by rw[<-l];rfl
 have b4:t.nv={a with heap:=a.heap.push (Z2 [] 0)}:=by rw[<-l];rfl
 have b5:t.pn=X.pn++L:=by rw[<-l];rfl
 have cc:∀b∈m6 X.stack,b<a.heap.objs.size:=λb j=>by
  rcases ay.mp (I2.pO b j)with e|e
  .rw[e];exact I2.lt
  .exact Nat.lt_of_not_le λz=>I2.xk z e
 have az:a.heap.objs.size≠t.env.locals:=by rw[eL,hz];exact bc (fv _)
 have b7:a.heap.objs.size∉t.fs:=by rw[b6];exact λz=>dB _ (cc _ z)
 have cE:∀p∈t.pn,p.1≠a.heap.objs.size:=λp hp=>by rw[b5]at hp;exact bc (aK (I2.pin p hp).1)
 have cG:∀{τ:St}{H':Hp}{s':ao}{ps:List (G×eN)},Inv t ps τ H' s'->∀x c,t.env.cells.lookup x=O c->c≠a.heap.objs.size:=λI' x c e=>(I'.ok.xD _ (by rw[aa];exact ax)).2 x c e;have ak:∀{τ:St}{H':Hp}{s':ao}{ps:List (G×eN)}{o:eN},Inv t ps τ H' s'->(∀b∈fp,H' b=B)->∀b∈fp,qO t [(a.heap.objs.size,o)] H' b:=λI' hn b j=>by
  have q:=I'.ok.xD b (by rw[aa];exact au _ j);refine⟨hn b j,q.1,I'.ok.so b (by rw[aa];exact au _ j),.inl (by rw[aa];exact au _ j),q.2,λp hp=>?_⟩;rcases ba.mp hp with hp|hp
  .rw[b5]at hp;exact(f2 b j).2.2.2.2.2 p hp
  .have e:p.1=a.heap.objs.size:=by rw[aL]at hp;rw[hp]
   rw[e];exact df (aC b j)
 have run:∀s5:ao,(∃tk,s5={a with heap:=h4,toks:=tk})->iK (aZ X.prog X.w) X.A (.compLoop (.ListComp a4 [⟨tg,iter,aP,0⟩] f cj) 0 (.ref it) (.ref a.heap.objs.size) t.env) (compPost (aZ X.prog X.w) X.A X.xe use zv (.ref a.heap.objs.size) (a.heap.push (Z2 [] 0)).objs.size) s5:=by
  rintro s5 ⟨tk,rfl⟩;refine TR (λn s'=>∃i ys τ H' E k,Inv t [(a.heap.objs.size,Z2 E k)] τ H' s'/\Zt ys E/\tn i s'.heap/\(∀b∈fp,H' b=B)/\W i n ys τ H'/\ys.length<=sizeLine) ?_ m0 ⟨0,[],inner cp σ,H2,[],0,J0 tk,.nil,T.keep _ _ _ aM λb j o e=>aS b o (av _ e),λb j=>(f2 b j).1,w0,bK _⟩;rintro n s3 ⟨i,ys,τ,H3,E,k,I3,rv,a6,b2,w3,bT⟩;rcases turn i n ys τ H3 w3 with⟨stop,qn⟩|⟨go,hl,Nw,b1,step⟩
  .have dn:=T.done t eP eW eK eC i _ s3 τ H3 vE I3 (ak I3 b2) a6 stop;rw[eA]at dn;refine lY dn λr s4⟨hr,I4⟩=>?_;subst hr;obtain⟨m,hn,_⟩:=id I4.loc;rw[eL]at hn;have ai:gk (a.heap.push (Z2 [] 0)).objs.size s4.heap s4.heap:=jT ..;obtain⟨eD,nD,_⟩:=I4.pin (a.heap.objs.size,Z2 E k) (bN _ ax);have u4:=I4.base;rw[b6,aa,cR,b4]at u4;have a0:H2 a.heap.objs.size=B:=I2.lI.fresh (aq _);have M:=I4.free;rw[eL]at M;have kp:∀b o,a.heap.get? b=O o->(a.heap.push (Z2 [] 0)).get? b=O o:=λb o e=>av _ e;have a7:∀b o,a.heap.get? b=O o->b≠a.heap.objs.size:=λb o e=>bc (aK e);have ah:∀b o,a.heap.get? b=O o->b≠(a.heap.push (Z2 [] 0)).objs.size:=λb o e=>by rw[hz];exact bc (eZ (aK e))
   have ar:∀b o,a.heap.get? b=O o->b∉fp->b∉a.heap.objs.size::fp:=λb o e j z=>(ay.mp z).elim (a7 b o e) j;have I5:Inv X L σ (upd H3 a.heap.objs.size (.lst ys)) s4:=by
    refine I2.tW (s':=s4) (ch:=fp) ?_ ⟨λb o e n j hx=>?_,λb o e n j hx=>?_,λb o e n hx=>?_,λb o e hx=>?_,λb xs q=>?_,λb o u q=>?_,λb ps q=>?_⟩ ?_ I4.bare λb j=>?_
    .have:=I4.os;rw[b4]at this;exact this
    .exact(ai.2 b (ah b o e)).trans (u4.keep b o (kp b o e) n j (ar b o e hx))
    .obtain⟨sl,q⟩:=u4.slot b o (kp b o e) n j (ar b o e hx);exact⟨sl,(ai.2 b (ah b o e)).trans q⟩
    .rw[Zk (a7 b o e)];exact u4.free b o (kp b o e) n (ar b o e hx)
    .obtain⟨o',q⟩:=u4.there b o (kp b o e) (ar b o e hx);exact⟨o',(ai.2 b (ah b o e)).trans q⟩
    .rw[Zk (Zp q a0)];exact u4.p8 b xs q
    .rw[Zk (Zp q a0)];exact u4.pQ b o u q
    .rw[Zk (Zp q a0)];exact u4.p9 b ps q
    .intro b ob q;have a5:∀c v,H3 c≠B->s4.heap.get? c=O v->s4.heap.get? c=O v:=λc v hc q=>(ai.2 c (λz=>hc (by rw[z];exact M))).trans q;by_cases j:b=a.heap.objs.size
     .subst j;rw[Zc]at q;cases q;exact⟨bT,E,k,rv,(ai.2 _ (by rw[hz];exact bc (fv _))).trans eD⟩
     .rw[Zk j]at q;have cm:ZY X.prog X.w H3 s4.heap b ob:=by have:=I4.lI b ob q;rw[eP,eW]at this;exact this
      refine cm.o_ (λc v M_ q'=>a5 c v ?_ q') (λc q'=>by rw[Zk (Zp q' nD)];exact q') λc xs q'=>by rw[Zk (Zp q' nD)];exact q'
      rcases M_ with rfl|M_
      .rw[q];simp
      .rw[M_];simp
    .obtain⟨g0,g1,g2,g3,g4,g5⟩:=f2 b j;exact⟨g3,g1,g4,g5⟩
   have cH:(a.heap.push (Z2 [] 0)).objs.size≠X.env.locals:=by rw[hz];exact df (eZ I2.lt)
   have cI:∀y c,X.env.cells.lookup y=O c->c≠(a.heap.push (Z2 [] 0)).objs.size:=λy c e=>by obtain⟨v,o,ho,_⟩:=I2.cell y c e;exact ah c o ho
   have cK:upd H3 a.heap.objs.size (.lst ys) (a.heap.push (Z2 [] 0)).objs.size=B:=by rw[Zk (by rw[hz];exact Nat.succ_ne_self _)];exact M
   exact ck _ _ _ _ m I5 hn cH cI cK (by rw[hz];exact Nat.le_succ_of_le I2.sz) (λp hp=>ah p.1 p.2 (I2.pin p hp).1) (qn _ nD)
  .have bb:=T.item t eP eW eK eC i _ s3 τ H3 vE I3 (ak I3 b2) a6 go;rw[eA]at bb;refine lY bb λr s4⟨u,hr,cN⟩=>?_;subst hr;refine lY cN λ_ s5 hZ=>?_;obtain⟨x,H5,I5,r5,y5,aF,cP⟩:=hZ;have cS:=I5.pinned (ak I5 cP) (T.obj _ _ aF);have a1:=cy _ s5 τ H5 x u _ cS r5 (step x H5 y5);rw[eP,eW,eA,eX]at a1;refine lY a1 λ_ s6 hZ=>?_;obtain⟨ab,H6,I6,q6⟩:=hZ;have a2:=cx _ s6 ab H6 _ I6 q6;rw[eP,eW,eA,eX]at a2;refine lY a2 λok s7⟨H7,I7,q7⟩=>?_;have P:∀{b8:St}{H':Hp}{s':ao},Inv t ([(a.heap.objs.size,Z2 E k)]++Pr fp s5.heap) b8 H' s'->tn (i+1) s'.heap/\∀b∈fp,H' b=B:=λI'=>
    ⟨T.keep _ _ _ aF λb j o e=>(I'.pin (b,o) (bN _ (bN _ (oH j e)))).1,λb j=>by
     obtain⟨o,e,d⟩:=T.obj _ _ aF b j;exact(I'.pin (b,o) (bN _ (bN _ (oH j e)))).2.1⟩;cases ok with
  |false=>rw[zG aW]at q7;rw[zG aW];obtain⟨m',hm,w7⟩:=b1 _ _ _ q7;exact⟨m',hm,i+1,ys,ab,H7,E,k,I7.pZ,rv,(P I7).1,(P I7).2,w7,bT⟩
  |true=>
    rw[zH Y]at q7;rw[zH Y];have a3:=cB _ s7 ab H7 _ I7 q7;rw[eP,eW,eA,eX]at a3;refine lY a3 λv s8 hZ=>?_;obtain⟨y,H8,I8,r8,q8⟩:=hZ;obtain⟨m',hm,w8⟩:=b1 _ _ _ q8;obtain⟨eD,nD,_⟩:=I8.pin (a.heap.objs.size,Z2 E k) (bN _ (dv _ ax));have cW:=rv.length;refine g9 F.slot_list_append ⟨_,eD,Y⟩ F.entry_list_append (F.args_list_append_2 _ _) (PySem.list_append a.heap.objs.size E.toArray k v (by rw[aQ];omega)) ⟨eD,?_⟩;have q0:=PySem.IsL.update eD (·.push v);obtain⟨k',q⟩:∃k',(s8.heap.update a.heap.objs.size (dG (·.push v))).get? a.heap.objs.size=O (Z2 (E++[v]) k'):=⟨_,by
     have e:(E++[v]).toArray=E.toArray.push v:=by simp
     unfold Z2;rw[e];exact q0⟩;have I9:Inv t [] ab H8 s8:=I8.qC λp hp=>zI (show p∈([]:List (G×eN))from hp) zE;refine⟨m',hm,i+1,ys++[y],ab,H8,E++[v],k',?_,rv.append (.cons r8 .nil),T.keep _ _ _ (P I8).1 λb j o e=>?_,(P I8).2,w8,?_⟩
    .refine Inv.qC (pins:=[]) (I9.turned (t':=s8.toks) (it:=a.heap.objs.size) (λb o j e=>(bq _ _ (dc j)).trans e) nD az (.inl (by rw[aa];exact ax)) (cG I9) (λp hp=>cE p (by simpa using hp))) λp hp=>?_;have e:p=(a.heap.objs.size,Z2 (E++[v]) k'):=by simpa using hp
     subst e;exact⟨q,nD,az,b7,Nu⟩
    .exact(bq _ _ (df (aC b j))).trans e
    .rw[aD,List.length_singleton];omega
 have cf:tn 0 h4:=T.keep _ _ _ aM λb j o e=>aS b o (av _ e);have b3:=codeAny_compStart_list (run _ ⟨_,Y⟩) (T.self X.A 0 {a with heap:=h4,toks:=a.toks+([]:List (U×Z)).length} _ (notedBy (aZ X.prog X.w) X.A t.env λex s'=>(compPost (aZ X.prog X.w) X.A X.xe use zv (.ref a.heap.objs.size) (a.heap.push (Z2 [] 0)).objs.size) (.error ex) s') cf (run _ ⟨_,Y⟩));rw[eE]at b3;exact b3
def Yp          (T:X.calm=true) (j:i4 scope z)(l:i3 N0 scope N cp)(L:PI X p iter u)(M:∀C s H a pn,PG (Jt X scope N C s H a pn) p g)(E:∀C s H a pn,xX (Jt X scope N C s H a pn) c y)(P:∀C s H a pn,PE (Jt X scope N C s H a pn) n w)(f:X.env.scope=z:=by rfl)(d:X.N=N0:=by rfl)(hs:∀x,jN iter X.env x=pure x:=by intro _;rfl):PE X (.ListComp n [⟨p,iter,c,0⟩] scope aa) (KL cp u g y w):=by subst f d;intro r s σ H Q I h;rw[eval_ListComp];exact QY (use:=B) T j l L M E P hs I h λt C H5 A m I5 F h1 h2 h3 h4 h5 q=>⟨m,F,λh' i=>⟨.ref t,_,I5.turned (t':=A.toks) (it:=C) (λb o W e=>(i.2 b W).trans e) h3 h1 (.inr h4) h2 h5,Y,q⟩⟩
def AK{bs:List Bool}:∀{a:List Z},Zt (bs.map V.bl) a->∀(i:Nat)(v:Z),a[i]?=O v->∃b,bs[i]?=O b/\v=.bool b:=by
 induction bs with
|nil=>intro a r i v e;rw[cJ]at r;cases r;simp at e
|cons b bs f=>
  intro a r i v e;rw[aH]at r;cases r with
 |cons d c=>
   cases i with
  |zero=>simp at e;subst e;exact⟨b,Y,d⟩
  |succ i=>obtain⟨j,h,g⟩:=f c i v (by simpa using e);exact⟨j,by simpa using h,g⟩
def all_range(bs:List Bool):(bB bs.length).all (λi=>bs.getD i true)=bs.all id:=by
 rw[c_,bY,bY];constructor
 .intro h b d;obtain⟨i,c⟩:=cD.mp d;have a:i<bs.length:=(aU.mp c).1;have:=h i (bW.mpr a);rw[bQ,c]at this;exact this
 .intro h i c;have a:=bW.mp c;rw[bQ,List.getElem?_eq_getElem a];exact h _ (bo a)
def Au(F:X.calm=true):XF X (.builtin "all") (λj H Q=>∃(p:G)(bs:List Bool),j=[.ref p]/\jw X.K H p (bs.map V.bl)/\Q (.bl (bs.all id)) H):=by
 intro w s N H j P Q I r h;obtain⟨p,bs,rfl,C,q⟩:=h;obtain⟨u,rfl,y⟩:=vals1 r;cases y;obtain⟨a,l,f,W⟩:=I.list C;have t:=l.length;rw[bH]at t;refine call_all_walk (gR f.isList ?_);have g:p≠s.heap.objs.size:=by obtain⟨o,n,e,_⟩:=f;exact bc (aK e)
 refine⟨s.heap.objs.size,_,_,_,_,_,λi=>bs.getD i true,Y,Walks.list (A:=X.A.in1) (I.ok.hd F) s.heap.objs.size p g a.toArray,⟨⟨_,aR _ Y,Y,Y⟩,?_⟩,λi v T Q' E' E M=>?_,λh' x z=>?_⟩
 .obtain⟨o,e,c,n,d⟩:=f.isList;exact⟨o,av _ e,c,n,d⟩
 .obtain⟨b,L,rfl⟩:=AK l i v (by simpa using E);have:bs.getD i true=b:=by rw[bQ,L];rfl
  exact dk (this▸M)
 .have e:(bB a.toArray.size).all (λi=>bs.getD i true)=bs.all id:=by rw[aQ,<-t];exact all_range bs
  rw[e];refine⟨.bl (bs.all id),H,I.kept (t':=x) λb o q=>?_,Y,q⟩;exact z b o (by simp;exact bc (aK q)) (av _ q)
def AQ{a:List U}:∀{b:List Z},Zt (a.map V.str) b->StrsAre b a:=by
 induction a with
|nil=>intro b r;rw[cJ]at r;cases r;exact .nil
|cons y a f=>
  intro b r;rw[aH]at r;cases r with
 |cons d c=>obtain⟨t,e⟩:=d;subst e;exact .cons y t (f c)
def Gy:yG X "str.join" (λx c H Q=>∃(z:U)(p:G)(a:List U),x=.str z/\c=[.ref p]/\jw X.K H p (a.map V.str)/\(a.map (·.length)).sum+a.length*z.length<=16777216/\Q (.str (Txt.join z a)) H):=by intro b s w H x y v A Q I f j h;obtain⟨z,p,a,rfl,rfl,o,n,q⟩:=h;obtain⟨t,rfl⟩:=f;obtain⟨u,rfl,i⟩:=vals1 j;cases i;obtain⟨r,g,l,C⟩:=I.list o;exact join_list l.isList (by simpa using AQ g) n λd k=>⟨.str (Txt.join z a),H,I.tok k,⟨d,Y⟩,q⟩
def Q2:XF X (.type "int") (λa H Q=>∃z n,a=[.str z]/\jZ z=O n/\z.length<=640/\Q (.int n) H):=by intro b s g H a i Q I r h;obtain⟨z,n,rfl,d,f,q⟩:=h;obtain⟨u,rfl,c⟩:=vals1 r;obtain⟨t,rfl⟩:=c;exact PySem.W.KIN.call_text d f ⟨.int n,H,I.tok _,⟨_,Y⟩,q⟩
def Rk:yQ X (λx lo d H Q=>∃z,x=.str z/\z.length<=sizeLine/\Q (.str (Txt.slice z lo d)) H):=by
 intro b s y H x v L F lo d M Q I A hs C w h;obtain⟨z,rfl,E,q⟩:=h;obtain⟨t,rfl⟩:=A;have a:∀p k,EP X b y Q (.str (Txt.slice z lo d) p) {s with toks:=k}:=λp k=>⟨.str _,H,I.tok k,⟨p,Y⟩,q⟩;have len:=aj (Txt.slice_le z lo d) E;refine⟨"str",_,PyProof.Rows.slot_str_getitem.lookup,j_ _ _ _,?_⟩;obtain⟨o,c,g,f⟩:=hs;cases C with
|none=>
  cases w with
 |none=>exact iF (l:=B) (u:=B) (st:=B) ⟨o,c,g,f⟩ Y (kA ⟨len,a⟩)
 |int j n=>exact iF (l:=B) (u:=O (j,n)) (st:=B) ⟨o,c,g,f⟩ Y (kA ⟨len,a⟩)
|int i r=>
  cases w with
 |none=>exact iF (l:=O (i,r)) (u:=B) (st:=B) ⟨o,c,g,f⟩ Y (kA ⟨len,a⟩)
 |int j n=>exact iF (l:=O (i,r)) (u:=O (j,n)) (st:=B) ⟨o,c,g,f⟩ Y (kA ⟨len,a⟩)
def ZaT(i j:Int):Prop:=0<j/\j.natAbs.log2<9000
def FA:oZ X (gY .FloorDiv) (rI ZaT λi j=>.int (i / j)):=yk λi j _ _ _ _ _ a q=>by have b:(0:Int)<j:=a.1;exact floordiv_int zD (by rw[Int.fdiv_eq_ediv_of_nonneg i zD];exact q) (.inl (PyProof.noPylong_of_log2 a.2))
def Ar:XF X (.builtin "isinstance") (λd H Q=>∃x c t b,d=[x,.ty c]/\pX X.K H x t/\bw X.K t (.type c)=O b/\Q (.bl b) H):=by intro f s j H d n Q I r h;obtain⟨x,c,t,b,rfl,ty,e,q⟩:=h;obtain⟨u,l,rfl,i,a⟩:=vals2 r;cases a;exact DA I i ty e λg=>⟨.bl b,H,I.tok g,Y,q⟩
end
def Y2:dj "int"=O (.type "int"):=by decide +kernel
def O6:dj "bool"=O (.type "bool"):=by decide +kernel
def JQ:dj "str"=O (.type "str"):=by decide +kernel
def Df(K:af)(J:U->Option Z)(x:U)(st:b_)(b:List U):Prop:=∃f a,rQ K x x st f a/\J x=O (.ref f)/\Binds K a b []
def l8(P:a9)(w:bg)(K:af)(J:U->Option Z)(S:bC)(k:Nat)(x:U)(a:List U)(sp:Sp):Prop:=∃f b,m7 P w K J S qf k f b a sp/\J x=O (.ref f)/\cb K (.ref f)=true/\Binds K b a []
section
variable {P:a9}{w:bg}{K:af}{J:U->Option Z}{S:bC}
theorem l8.mono{j k:Nat}  (C:l8 P w K J S j x a sp)(h:j<=k):l8 P w K J S k x a sp:=by obtain⟨f,b,F,r⟩:=C;exact⟨f,b,F.mono h,r⟩
def Df.ur{x:U}{st:b_}{N i:List U}{k:Nat}{sp:Sp}(l:Df K J x st i)(j:ia N i (Ze st))(len:∀d H Q E,sp d H Q E->d.length=i.length)(g:∀(f:G)(c:Z)(A:bU)(a:List jI)(s:ao)(H:Hp)(d:List V)(Q:VK)(E:XK),l9 k (A.deeper (f_ x (Ze st) s.heap.objs.size f c))->sp d H Q E ->∃t,qg (nr qf P w K J S N x (Ze st) f c A a s H E).wG (ZT st) t/\t {nx:=λ_ p=>Q .non p,rt:=Q} (start N d) H):l8 P w K J S (k+1) x i sp:=by obtain⟨f,o,F,m,b⟩:=l;exact⟨f,o,F.ok j len (λc A a s H d Q E n h=>g f c A a s H d Q E n h),m,F.kp,b⟩
end
section
variable {X:Cx}
def Z9{k:Nat}   {e:bV}{a:List bV}(C:l8 X.prog X.w X.K X.mg X.base k x o sp)(i:l9 k X.A)(j:Gl X x)(n:PA X (e::a) t)(g:(x==("__debug__":U))=false:=by decide)(l:bf (e::a) X.env=(false,cM e X.env)::bf a X.env:=by rfl)(d:(eh c (bf a X.env)).any (·.1)=false:=by rfl):PE X (.Call (.Name x p) (e::a) [] c) (Ui sp [] E0 t):=by obtain⟨f,q,F,m,h,b⟩:=C;exact Lo F i j m h b .nil Ul n g l d
end
inductive Th(H:Hp):V->String->Prop where
|non:Th H .non "NoneType"
|bl (b:Bool):Th H (.bl b) "bool"
|int (i:Int):Th H (.int i) "int"
|str (z:U) (h:z.length<=1000):Th H (.str z) "str"
|lst {a:G}{xs:List V} (e:H a=O (.lst xs)):Th H (.ref a) "list"
|tup {a:G}{xs:List V} (e:H a=O (.tup xs)):Th H (.ref a) "tuple"
|dK {a:G}{n9:List (Key×V)} (e:H a=O (.dK n9)):Th H (.ref a) "dict"
def Th.ty{K:af}{H:Hp}{v:V}{T:String}(h:Th H v T):pX K H v (.type T):=by
 cases h with
|non=>exact .non
|bl b=>exact .bl b
|int i=>exact .int i
|str z h=>exact .str z
|lst e=>exact .lst e
|tup e=>exact .tup e
|dK e=>exact .dK e
def Th.same (s:f' H a) (h:Th H v T):Th a v T:=by
 cases h with
|non=>exact .non
|bl b=>exact .bl b
|int i=>exact .int i
|str z h=>exact .str z h
|lst e=>exact .lst (s _ _ e)
|tup e=>exact .tup (s _ _ e)
|dK e=>exact .dK (s _ _ e)
section
variable (K:af)
def Cn:bw K (.type "NoneType") (.type "int")=O false:=by kernel_rfl
def Co:bw K (.type "NoneType") (.type "bool")=O false:=by kernel_rfl
def Cm:bw K (.type "NoneType") (.type "str")=O false:=by kernel_rfl
def CQ:bw K (.type "bool") (.type "int")=O true:=by kernel_rfl
def CU:bw K (.type "bool") (.type "bool")=O true:=by kernel_rfl
def CJ:bw K (.type "bool") (.type "str")=O false:=by kernel_rfl
def Ct:bw K (.type "int") (.type "int")=O true:=by kernel_rfl
def Cu:bw K (.type "int") (.type "bool")=O false:=by kernel_rfl
def Cs:bw K (.type "int") (.type "str")=O false:=by kernel_rfl
def Cj:bw K (.type "str") (.type "int")=O false:=by kernel_rfl
def Ck:bw K (.type "str") (.type "bool")=O false:=by kernel_rfl
def FZ:bw K (.type "str") (.type "str")=O true:=by kernel_rfl
def Cq:bw K (.type "list") (.type "int")=O false:=by kernel_rfl
def Cr:bw K (.type "list") (.type "bool")=O false:=by kernel_rfl
def Cp:bw K (.type "list") (.type "str")=O false:=by kernel_rfl
def Cg:bw K (.type "tuple") (.type "int")=O false:=by kernel_rfl
def Ci:bw K (.type "tuple") (.type "bool")=O false:=by kernel_rfl
def Cf:bw K (.type "tuple") (.type "str")=O false:=by kernel_rfl
def Cw:bw K (.type "dict") (.type "int")=O false:=by kernel_rfl
def Cz:bw K (.type "dict") (.type "bool")=O false:=by kernel_rfl
def Cv:bw K (.type "dict") (.type "str")=O false:=by kernel_rfl
end
noncomputable def C3:V->Bool
|.str _=>true
|_=>false
noncomputable def F6:V->Bool
|.int _=>true
|_=>false
noncomputable def IG:V->Bool
|.bl _=>true
|_=>false
def Th.xu{K:af}{H:Hp}{v:V}{T:String}(h:Th H v T):bw K (.type T) (.type "str")=O (C3 v):=by
 cases h with
|non=>exact Cm K
|bl b=>exact CJ K
|int i=>exact Cs K
|str z h=>exact FZ K
|lst e=>exact Cp K
|tup e=>exact Cf K
|dK e=>exact Cv K
def Th.G_{K:af}{H:Hp}{v:V}{T:String}(h:Th H v T):bw K (.type T) (.type "bool")=O (IG v):=by
 cases h with
|non=>exact Co K
|bl b=>exact CU K
|int i=>exact Cu K
|str z h=>exact Ck K
|lst e=>exact Cr K
|tup e=>exact Ci K
|dK e=>exact Cz K
def Th.F'{K:af}{H:Hp}{v:V}{T:String}(h:Th H v T):bw K (.type T) (.type "int")=O (F6 v||IG v):=by
 cases h with
|non=>exact Cn K
|bl b=>exact CQ K
|int i=>exact Ct K
|str z h=>exact Cj K
|lst e=>exact Cq K
|tup e=>exact Cg K
|dK e=>exact Cw K
section
variable {X:Cx}
def zP(K:af)(c:String)(d:TE):TE:=yL (λa H Q=>∃x c t b,a=[x,.ty c]/\pX K H x t/\bw K t (.type c)=O b/\Q (.bl b) H) (Yg d (Yg (tC (.ty c)) mq))
def MJ    {p p2 b:iG}(l:PE X e g)(j:Gl X "isinstance")(i:X.mg "isinstance"=B)(f:Gl X a)(d:X.mg a=B)(o:dj a=O (.type c))(h:a≠"__name__":=by decide)(n:(a==("__debug__":U))=false:=by decide)(hs:bf [e,.Name a p2] X.env=(false,cM e X.env)::bf [.Name a p2] X.env:=by rfl):PE X (.Call (.Name "isinstance" p) [e,.Name a p2] [] b) (zP X.K c g):=Zz (p:=p) (pos:=b) (Ar (X:=X)) j i kD (Zj l (Zj (Rz (v:=V.ty c) (pos:=p2) f d o Y h n) Zg) hs) (he:=hs)
end
noncomputable def LS:Z->Z
|.int n _=>.ref n.toNat
|c=>c
noncomputable def cv(a:Bool)(C:G):Z:=match a with
|true=>.ref C
|false=>.int (C:Int) 0
def RM(a:Bool)(C:G):LS (cv a C)=.ref C:=by cases a<;>rfl
def Hz(c:Z)(a:Array Z):Prop:=1<a.size/\(LS c=c->a[2]?=O .none)
def uN(g:bC)(x:G)(c:Z)(i:Option G)(f:Z)(h:bC):Prop:=∃o a,h.get? x=O o/\o.cls=LS c/\o.dict=i/\o.data=.fields a/\Hz c a /\((a[1]?=O .none/\f=.none)\/∃T d b,a[1]?=O (.ref T)/\g.get? T=B/\T≠x/\h.get? T=O d/\d.data=.fields b/\b[3]?=O f)
structure qe(zw:bC)(l:List jI)(x:G)(c:Z)(dd:Option G)(fl:Z)(h:bC):Prop where
 keep:zw.StaysIn h
 new:zw.get? x=B
 frames:h.FunFrames zw l
 row:uN zw x c dd fl h
def Dt(o:eN)(f:Array Z->Array Z):(o.mapFields f).dict=o.dict:=by obtain⟨c,d,a,b⟩:=o;cases a<;>rfl
def XI{h:bC}{o a:eN}(c:h.get? b=O o)(g:∀d,o.data≠.fields d)(j:h.get? T=O a)(i:a.data=.fields f):b≠T:=by rintro rfl;rw[j]at c;cases c;exact g f i
section
variable {M:Model}{A:bU}{E:Z->ao->Prop}{s:ao}{zw:bC}{env:jI}{outer:List jI}{L x:G}{c:Z}{dd:Option G}{Q:Unit->ao->Prop}
def QT{o:eN}  (I:A.frames=O (env::outer))(hf:env.frame=O L)(z:s.heap.FunFrames zw (env::outer))(hk:zw.StaysIn s.heap)(hn:zw.get? x=B)
  (y:s.heap.get? x=O o) (hc:o.cls=LS c) (N:o.dict=dd) (j:o.data=.fields W) (w:Hz c W)
  (hQ:∀F,qe zw (env::outer) x c dd (dU L) F->s.heap.UpToSlots F->Q () {s with heap:=F}):
  aI M A (do let fr <-frameOf env;let i <-entryPlaceOf L aa;let t <-EntryCells.newEntry h fr .none (dU L) .none i;setField (.ref x) 1 t) Q E s:=by
 have xf:x∉(env::outer).filterMap (·.frame):=λC=>by
  obtain⟨_,u,hu,f⟩:=z.mem C
  rw[y]at hu
  cases hu
  exact f W j
 refine ae (wpAny_frameOf_fun I z hf λd p=>?_)
 refine ae (wpAny_entryPlaceOf λi l=>?_)
 unfold EntryCells.newEntry newFields
 refine ae (fh ?_ (l.sizeOk5 _ _ _ _ _))
 have T:d.get? x=O o:=(p.2.1 x xf).trans y
 have k1:zw.StaysIn d:=λb u a=>(p.2.1 b λC=>by rw[(z.mem C).1]at a;cases a).trans (hk b u a)
 generalize n:({cls:=.type "traceback",dict:=B,data:=.fields ([h,.ref L,.none,dU L,.none]++(if i.isEmpty then bS 6 b9 else i)).toArray}:eN)=r
 have P:(d.push r).get? x=O o:=av _ T
 have nT:d.objs.size≠x:=df (aK T)
 have d3:=ik j (·.setIfInBounds 1 (aN d.objs.size))
 have x3:=bF (cQ (·.setIfInBounds 1 (aN d.objs.size))) P (iJ d3)
 refine ff P j w.1 (hQ _ ?_ ?_)
 .have g:∀b u,b≠x->d.get? b=O u->((d.push r).update x (cQ (·.setIfInBounds 1 (aN d.objs.size)))).get? b=O u:=λb u a q=>by
   rw[bq _ _ (dc a)]
   exact av _ q
  refine⟨λb u a=>g b u (λq=>by rw[q,hn]at a;cases a) (k1 b u a),hn,z.of_keeps λb u a f=>?_,?_⟩
  .obtain⟨X,q⟩:=p.2.2 b u a
   exact⟨_,g b _ (XI a f y j) q,Y⟩
  .have H:r.isFreed=false:=by rw[<-n];rfl
   refine⟨_,_,x3,(Obj.cls_mapFields _ _).trans hc,(Dt _ _).trans N,d3,⟨by simpa using w.1,λq=>by rw[<-w.2 q];exact di D⟩,.inr ⟨d.objs.size,r,([h,.ref L,.none,dU L,.none]++(if i.isEmpty then bS 6 b9 else i)).toArray,by simp[w.1],k1.fresh,nT,?_,by rw[<-n],?_⟩⟩
   .rw[bq _ _ (dc nT)]
    exact aR d H
   .first
    |(simp;done)
    |(rcases l with rfl|⟨_,_,_,_,_,_,_,rfl⟩<;>simp)
 .intro b u a f
  obtain⟨X,q⟩:=p.2.2 b u a
  refine⟨X,?_⟩
  rw[bq _ _ (dc (XI a f y j))]
  exact av _ q
def P8(i:A.frames=O (env::outer))(r:env.frame=O L)(F:qe zw (env::outer) x c dd .none s.heap)(z:∀h,qe zw (env::outer) x c dd (dU L) h->s.heap.UpToSlots h->Q () {s with heap:=h}):aI M A (noteFrame (.ref x) env) Q E s:=by
 obtain⟨o,X,l,y,j,n,w,I⟩:=F.row;unfold noteFrame;simp only[r];rcases I with⟨t,_⟩|⟨T,oT,ts,t,P,N,p,g,C⟩
 .refine ae (bG l n t ?_);rw[zG D];exact QT i r F.frames F.keep F.new l y j n w z
 .refine ae (bG l n t ?_);rw[zH (show(aN T != b9)=true from by simp)];refine ae (bG p g C ?_);rw[zG (show ¬((b9==dU L)=true)from by simp[dU])];refine ae (ff p g (gO.mp C).1 ?_);have a:∀b,b≠T->(s.heap.update T (cQ (·.setIfInBounds 3 b9))).get? b=s.heap.get? b:=λb d=>bq _ _ (dc d);refine QT i r (F.frames.of_keeps λb u d f=>⟨u,(a b (XI d f p g)).trans d,Y⟩) (λb u d=>(a b λq=>by rw[q,P]at d;cases d).trans (F.keep b u d)) F.new ((a x (dc N)).trans l) y j n w λh W H=>z h W λb u d f=>H b u ((a b (XI d f p g)).trans d) f
def P9  (F:qe zw l x c dd fl s.heap)(z:∀r,qe zw l x c dd .none r->s.heap.UpToSlots r->Q () {s with heap:=r}):aI M A (kZ (.ref x) B) Q E s:=by
 obtain⟨o,H,n,W,t,p,P,N⟩:=F.row;unfold kZ;rcases N with⟨j,e⟩|⟨T,oT,I,j,C,y,i,g,X⟩
 .subst e;refine ae (bG n p j ?_);rw[zG D];exact aE (z _ F (.refl _))
 .have w:3<I.size:=(gO.mp X).1;refine ae (bG n p j ?_);rw[zH (show(aN T != b9)=true from by simp)];have a:∀b,b≠T->(s.heap.update T (cQ (·.setIfInBounds 3 ((B:Option G).elim b9 λf=>dU f)))).get? b=s.heap.get? b:=λb d=>bq _ _ (dc d);refine ff i g w (z _ ⟨λb u d=>(a b λq=>by rw[q,C]at d;cases d).trans (F.keep b u d),F.new,F.frames.of_keeps λb u d h=>⟨u,(a b (XI d h i g)).trans d,Y⟩,?_⟩ λb u d h=>⟨u.slots,(a b (XI d h i g)).trans d⟩);exact⟨o,H,(a x (dc y)).trans n,W,t,p,P,.inr ⟨T,_,_,j,C,y,bF _ i (iJ (ik g _)),ik g _,by simp[w]⟩⟩
def DI(d:A.frames=O (env::outer))(f:env.frame=O L)(F:qe zw (env::outer) x c dd .none s.heap)(g:∀b,qe zw outer x c dd .none b->s.heap.UpToSlots b->Q () {s with heap:=b}):aI M A (leaving env (.ref x)) Q E s:=by unfold leaving;refine ae (P8 d f F λi n l=>?_);refine P9 (s:={s with heap:=i}) n λh a j=>?_;exact g h ⟨a.keep,a.new,a.frames.2.2,a.row⟩ (l.trans j)
end
structure pD(zw:bC)(fs:List G)(x:G)(H H':Hp)(h:bC):Prop where
 uR:∀b u,H' b=O u->∃o,zw.get? b=O o
 old:∀b o,h.get? b=O o->H b=B->b∉fs->zw.get? b=O o
 all:∀b o,h.get? b=O o->b∈fs\/b=x\/∃o',zw.get? b=O o'
 xn:H' x=B
def oV(P:a9)(w:bg):sJ:=λa H s E e b=>∃(x:G)(c:Z)(g:Option G)(f:bC)(d:Hp),e=.ref x/\b.os=s.os/\jc b.gens/\Un (m6 a) [] H d s.heap b.heap/\ox P w d b.heap /\qe f a x c g .none b.heap/\pD f (m6 a) x H d s.heap/\E c g d
def GD   {h d a:bC}(ok:ox P w H h)(uR:∀b u,H b=O u->∃o,a.get? b=O o)(k:a.StaysIn h)(j:a.StaysIn d):ox P w H d:=λb u e=>by
 have go:∀c v,H c≠B->h.get? c=O v->d.get? c=O v:=λc v hc q=>by
  cases g:H c with
 |none=>exact zI g hc
 |some i=>obtain⟨o,f⟩:=uR c i g;have:=k c o f;rw[q]at this;cases this;exact j c _ f
 refine(ok b u e).o_ (λc v hc q=>go c v ?_ q) (λ_ q=>q) λ_ _ q=>q;rcases hc with rfl|hc
 .rw[e];simp
 .rw[hc];simp
section
variable {P:a9}{w:bg}{K:af}{J:U->Option Z}{S:bC}{N:List U}{qual:U}{scope:dh}{f:G}{cd:Z}{A:bU}{outer:List jI}{s:ao}{H:Hp}{E:XK}
def FW        (I:Inv (nr (oV P w) P w K J S N qual scope f cd A outer s H E) W σ p r)(F:qe C (nr (oV P w) P w K J S N qual scope f cd A outer s H E).stack x c T .none r.heap)(b:pD C (m6 outer) x H p s.heap)(hE:E c T p):(nr (oV P w) P w K J S N qual scope f cd A outer s H E).xe (.ref x) r:=by
 refine DI (L:=s.heap.objs.size) I.ok.frames Y F λh2 h M=>?_;have un:Un (m6 outer) [] H p s.heap r.heap:=I.base;refine⟨x,c,T,C,p,Y,I.os,I.bare,⟨λd o e n l _=>h.keep d o (b.old d o e n l),λd o e n l _=>?_,un.free,λd o e _=>?_,un.p8,un.pQ,un.p9⟩,GD I.lI b.uR F.keep h.keep,h,b,hE⟩
 .obtain⟨X,q⟩:=un.slot d o e n l zE;obtain⟨_,g,y,a⟩:=I.ok.oB.mem l;have eo:g=o:=by have:s.heap.get? d=O g:=y;rw[e]at this;exact(aJ this).symm
  subst eo;obtain⟨i,t⟩:=M d _ q a;exact⟨i,t⟩
 .rcases b.all d o e with z|z|⟨g,z⟩
  .obtain⟨_,Q,u,a⟩:=I.ok.oB.mem z;have j:s.heap.get? d=O Q:=u;obtain⟨X,q⟩:=un.slot d Q j (I.ok.uV d z) z zE;obtain⟨i,t⟩:=M d _ q a;exact⟨_,t⟩
  .subst z;obtain⟨o3,_,q,_⟩:=h.row;exact⟨o3,q⟩
  .exact⟨g,h.keep d g z⟩
def pD.up       (I:Inv X g r q i)(a:X.ex=[])(b:pD h (m6 X.stack) x q p i.heap):pD h X.fs x X.sH p X.nv.heap:=by
 have low:∀d o,X.nv.heap.get? d=O o->d∈m6 X.stack->d∈X.fs:=λd o e c=>by
  rcases ay.mp (I.pO d c)with z|z
  .exact zI (aX (aK e) I.ok.above) (by rw[z];exact dB _)
  .exact z
 refine⟨b.uR,λd o e n c=>?_,λd o e=>?_,b.xn⟩
 .exact b.old d o (I.base.keep d o e n c (by rw[a];simp)) (I.base.free d o e n (by rw[a];simp)) λz=>c (low d o e z)
 .obtain⟨j,l⟩:=I.base.there d o e (by rw[a];simp);rcases b.all d j l with z|z|z
  .exact .inl (low d o e z)
  .exact .inr (.inl z)
  .exact .inr (.inr z)
def Y8:Yx (oV P w) (nr (oV P w) P w K J S N qual scope f cd A outer s H E) E:=by intro a i t q e j I h;obtain⟨x,c,r,p,o,rfl,os,d,un,g,F,b,l⟩:=h;have n:Inv (nr (oV P w) P w K J S N qual scope f cd A outer s H E) a i o j:=I.tW os un g d λb z=>zI z zE;exact FW n F (pD.up I Y b) l
end
noncomputable abbrev qD:List Z:=[.type "ValueError",.type "Exception",.type "BaseException",.type "object"]
structure XC(K:af)(C fI Qa:G):Prop where
 obj:∃nm q N bs sn sub ab col dd k0 k1 k2 k3 k5,K.lookup C=O (excClassObj nm q C N bs (.ref Qa::qD) true sn sub ab col dd k0 k1 k2 k3 k5 "ValueError.__new__") /\
  i9 K N=true/\br K N "__init__"=O (O (.ref fI))
 tail:i8 K qD (.ref Qa::qD)=true
 fn:∃o,K.lookup fI=O o/\o.cls=.type "function"
 sa:a_ K (.ref C) "__setattr__"=O (O (.builtin "object.__setattr__"))
 ob:js K C (.type "object")=O true
def WV{K:af}   {v:Z}(X:K.In h)(a:h.Ns N J)(e:br K N n=O (O v)):J n=O v:=by
 obtain⟨o,r,s,b,i,_,f⟩:=a;unfold br at e;split at e
 .rename_i c d j p l q;have this:=X _ _ q;rw[b]at this;cases this;cases i;split at e
  .rename_i t g;cases e;rw[<-f];unfold nsFind findBy;rw[<-Array.find?_toList,g];rfl
  .split at e<;>cases e
 .cases e
section
variable {prog:a9}{w:bg}{A:bU}{E:Z->ao->Prop}{K:af}{C fI Qa:G}{h:bC}{g:Array GenState}{d:Drawn}{t:Nat}{os:de}{rest:List Z}
def Wb{Q:Fin->ao->Prop}(X:K.In h)(c:XC K C fI Qa)(M:rest.length<=sizeLine)(hq:∀H e,h.objs.size<=e->Heap.MadeExcOf h H e (.ref C) rest->aI (aZ prog w) A (call (.ref fI) (.ref e::rest)) (λr y=>r=.none/\Q (.done (.ret (.ref e))) y) E ⟨H,g,d,t,os⟩):aI (aZ prog w) A (fX.«type.__call__» ⟨.ref C::rest,[]⟩) Q E ⟨h,g,d,t,os⟩:=by
 obtain⟨nm,q,N,bs,sn,sub,ab,aa,dd,k0,k1,k2,k3,k5,lk,s,u⟩:=c.obj;obtain⟨oI,L,cI⟩:=c.fn;have f:=PySem.F.excBase_ValueError;have j:=X _ _ lk;have hN:h.Ns N (h.nsMap N):=.of_isNs (PySem.W.isNs_of_in X s);have hI:h.nsMap N "__init__"=O (.ref fI):=WV X hN u;have p:OwnTail h qD (.ref Qa::qD):=PySem.W.tail_of_in X c.tail;repeat (first|with_reducible refine cC j ?_|(with_reducible refine wpAny_madeBy_exc j ?_)|wp_step)
 refine codeAny_call_builtin_code (Code.quiet_builtin _ f.quiet) (wpAny_check_new_subU f f.hasB p j ?_);refine codeAny_exc_new_subU f f.hasB f p j ?_ M;show aI _ _ _ _ _ _;generalize i:(h.push {cls:=.type "tuple",data:=.seq rest.toArray}).push {cls:=.ref C,data:=.fields #[.ref h.objs.size,.none,.none,.none,.bool false,.none]}=l;have a:∀b o,h.get? b=O o->l.get? b=O o:=λb o e=>by rw[<-i];exact av _ (av _ e)
 have I:l.get? (h.objs.size+1)=O {cls:=.ref C,data:=.fields #[.ref h.objs.size,.none,.none,.none,.bool false,.none]}:=by rw[<-i];heap_get
 have gt:l.get? h.objs.size=O {cls:=.type "tuple",data:=.seq rest.toArray}:=by rw[<-i];exact av _ (Heap.get?_push_at Y Y)
 have n:=a _ _ j;have x:(aN C::.ref Qa::qD).contains (.ref C)=true:=by simp
 unfold lQ;repeat (first|with_reducible refine cC I ?_|(with_reducible refine gm n ?_;rw[x])|wp_step)
 show aI _ _ (lP (.ref C) _) _ _ _;refine wpAny_typeLookup_tail n (hN.keeps a) (p.keeps a) f.mroIs f.init.lookup ?_;rw[hI];refine bL (ae (m:=bindSpecial _ _) ?_);unfold bindSpecial;refine ae (jy (T:="function") ⟨_,a _ _ (X _ _ L),cI⟩ ?_);rw[zH D];have mk:Heap.MadeExcOf h l (h.objs.size+1) (.ref C) rest:=⟨a,iU (iV _),h.objs.size,I,iU (aq _),gt⟩;refine aE (ae (dQ (hq l _ (iV _) mk) (λr y P=>?_) λ_ _ z=>z));obtain⟨rfl,hQ⟩:=P;wp_walk;exact hQ
def Ic{Q:Z->ao->Prop}(X:K.In h)(c:XC K C fI Qa)(i:rest.length<=sizeLine)(j:∀a e,h.objs.size<=e->Heap.MadeExcOf h a e (.ref C) rest->aI (aZ prog w) (A.under (.builtin "type.__call__" ⟨.ref C::rest,[]⟩)) (call (.ref fI) (.ref e::rest)) (λr f=>r=.none/\Q (.ref e) f) E ⟨a,g,d,t,os⟩):aI (aZ prog w) A (call (.ref C) rest) Q E ⟨h,g,d,t,os⟩:=by
 obtain⟨x,q,N,bs,u,sub,W,s,T,I,H,F,z,y,lk,o,p⟩:=id c.obj;have b:=X _ _ lk;have P:=tc_lookup;have M:=tc_bind (.ref C);have L:(⟨h,g,d,t,os⟩:ao).TypeIs (.ref C) "type":=⟨_,b,Y⟩;refine jB (codeAny_of_tree ?_);show aI _ _ (callAny (.ref C) _) _ _ _;repeat (any_goals (first|assumption|with_reducible refine cC b ?_|wp_step))
 refine⟨Y,codeAny_call_builtin_at (Code.quiet_builtin _ zC) entry_typeCall (wpAny_check_type_call_sub b ?_)⟩;exact Wb X c i λa e n l=>j a e n l
def Q8  {v:Z} {Q:Fin->ao->Prop}(X:K.In h)(c:XC K C fI Qa)(az:a_ K (.ref C) name=O B)(I:h.Inst x C mA)(hw:Within mA ns)(hz:ns.length<=1000)(hq:∀h' ai,h'.Inst x C (λy=>if y=name then O v else mA y) ->(∀b o,b≠x->(∀a r,h.get? x=O a->a.dict=O r->b≠r)->h.get? b=O o->h'.get? b=O o) ->(∀a,h.get? x=O a->∃f n,h'.get? x=O f/\f.cls=a.cls/\f.data=a.data/\f.dict=O n/\((a.dict=O n)\/(a.dict=B/\h.get? n=B)))->Q (.done (.ret .none)) ⟨h',g,d,ai,os⟩):aI (aZ prog w) A (fX.«object.__setattr__» ⟨[.ref x,.str name tk,v],[]⟩) Q E ⟨h,g,d,t,os⟩:=by
 obtain⟨nm,q,N,bs,sn,sub,ab,a5,dd,k0,k1,k2,k3,k5,lk,a3,a4⟩:=c.obj;have hC:=X _ _ lk;obtain⟨o,p,hc,z,hd⟩:=I;have T:=PySem.F.store_ValueError.passes (.ref x);have LN:=iI (M:=aZ prog w) X az;unfold fX.«object.__setattr__»;repeat (first|rw[refuse_eq]|(rw[refuseLoop_ref,refuseLoop_ref,T])|(with_reducible refine cC p ?_;rw[hc])|(with_reducible refine wpAny_mroOf_exc hC ?_)|(with_reducible refine LN.at ?_)|wp_step)
 rcases hd with⟨ah,aC⟩|⟨r,i,aa,ar⟩
 .rw[ah,zG (by simp[typeHasDict])];split
  .rename_i L;cases L
  split
  .rename_i cc L;exact zI L (z cc)
  .have xs:x≠h.objs.size:=bc (aK p);have dn:h.get? h.objs.size=B:=iU (aq _);have x1:(h.push {cls:=.type "dict",data:=.dict #[]}).get? x=O o:=av _ p;refine ae (wpAny_alloc' (ae (wpAny_update' x1 (aE ?_))));generalize hU:(h.push {cls:=.type "dict",data:=.dict #[]}).update x (λo=>{cls:=o.cls,dict:=O h.objs.size,data:=o.data,slots:=o.slots})=hu;have gd:hu.get? h.objs.size=O {cls:=.type "dict",data:=.dict #[]}:=by rw[<-hU];exact(Heap.get?_update_ne _ _ _ _ xs.symm).trans (Heap.get?_push_at Y Y)
   have gx:hu.get? x=O {cls:=o.cls,dict:=O h.objs.size,data:=o.data,slots:=o.slots}:=by rw[<-hU];refine bF _ x1 ?_;have aF:=(Heap.get?_some_iff.mp p).2;obtain⟨oc,od,ak,a0⟩:=o;cases ak<;>first|rfl|exact aF
   have nd:hu.Ns h.objs.size (λ_=>B):=⟨_,#[],_,gd,Y,λe he=>zI he zE,λ_=>rfl⟩;have ob:∀b u,b≠x->h.get? b=O u->hu.get? b=O u:=λb u hb e=>by rw[<-hU];exact(Heap.get?_update_ne _ _ _ _ hb).trans (av _ e)
   show aI _ _ (ft h.objs.size (.str name tk) name v) _ _ _;unfold ft jH;refine ae (aE (ae (wpAny_nsSet1 (Heap.Ns1.of_empty nd) λh2 n2 W=>?_)));obtain⟨oD,aP,aS,s,H,P⟩:=n2.count (Within.cons name v Within.nil);refine ae (wpAny_lookBehind s (by rw[H];exact pastItsLine_dict (aj P (by rw[aB,dz,g_];omega))) ?_);wp_walk;have j:h2.get? x=O {cls:=o.cls,dict:=O h.objs.size,data:=o.data,slots:=o.slots}:=(W.2 x xs).trans gx;refine hq h2 _ ⟨_,j,hc,z,.inr ⟨h.objs.size,Y,xs.symm,?_⟩⟩ (λb u hb _ e=>(W.2 b (bc (aK e))).trans (ob b u hb e)) λa l=>?_
   .obtain⟨o',es,ep,e1,e2,e3,eu,e4⟩:=n2;exact⟨o',es,ep,e1,e2,e3,eu,λy=>by rw[e4 y];by_cases hy:y=name<;>simp[hy,aC]⟩
   .have eo:o=a:=aJ (p.symm.trans l);subst eo;exact⟨_,h.objs.size,j,Y,Y,Y,.inr ⟨ah,dn⟩⟩
 .rw[i];refine aE ?_;show aI _ _ (ft r (.str name tk) name v) _ _ _;unfold ft jH;refine ae (aE (ae (wpAny_nsSet1 ar λh2 n2 W=>?_)));obtain⟨oD,aP,aS,s,H,P⟩:=n2.count (Within.cons name v hw);refine ae (wpAny_lookBehind s (by rw[H];exact pastItsLine_dict (aj P (by rw[aB,g_];omega))) ?_);wp_walk;have j:=(W.2 x aa.symm).trans p;refine hq h2 _ ⟨o,j,hc,z,.inr ⟨r,i,aa,n2⟩⟩ (λb u _ aM e=>(W.2 b (aM o r p i)).trans e) λa l=>?_;have eo:o=a:=aJ (p.symm.trans l);subst eo;exact⟨_,r,j,Y,Y,i,.inl i⟩
end
noncomputable def mS(x C:G)(b:Option G):HO:=.ext λh=>∃o a,h.get? x=O o/\o.cls=.ref C/\o.dict=b/\o.data=.fields a/\1<a.size/\a[1]?=O .none/\a.size=6/\a[2]?=O .none
noncomputable def XD(d:G)(fs:List (U×V)):HO:=.ext λh=>∃a,h.Ns1 d a/\(∀f,nW (fs.lookup f) (a f))/\gQ a (fs.map (·.1))/\fs.length<=1000
section
variable {P:a9}{w:bg}{H:Hp}{h:bC}{x C d:G}{dd:Option G}{fs:List (U×V)}
def XU:ZY P w H h x (mS x C dd)↔∃o a,h.get? x=O o/\o.cls=.ref C/\o.dict=dd/\o.data=.fields a/\1<a.size/\a[1]?=O .none/\a.size=6/\a[2]?=O .none:=by
 constructor
 .intro z;exact z.1
 .rintro ⟨o,a,c,r⟩;exact⟨⟨o,a,c,r⟩,⟨o,c⟩,λj i⟨g,b,e,f⟩k=>⟨g,b,k _ e,f⟩⟩
def Kx:ZY P w H h d (XD d fs)↔∃a,h.Ns1 d a/\(∀f,nW (fs.lookup f) (a f))/\gQ a (fs.map (·.1))/\fs.length<=1000:=by
 constructor
 .intro z;exact z.1
 .rintro ⟨a,⟨o,l,n,e,r⟩,q⟩;exact⟨⟨a,⟨o,l,n,e,r⟩,q⟩,⟨o,e⟩,λt s⟨m,⟨j,b,c,p,g⟩,i⟩k=>⟨m,⟨j,b,c,k _ p,g⟩,i⟩⟩
end
section
variable {X:Cx}{pins:List (G×eN)}{σ:St}{H:Hp}{s:ao}{x C fI Qa:G}{name:U}{y:V}{u:Z}{Q:Unit->ao->Prop}
def RY    (I:Inv X pins σ H s)(c:XC X.K C fI Qa)(L:a_ X.K (.ref C) name=O B)(In:s.heap.Inst x C P)(hw:gQ P ns)(hz:ns.length<=1000)(hq:∀l j,l.Inst x C (λz=>if z=name then O u else P z) ->(∀b o,b≠x->(∀a p,s.heap.get? x=O a->a.dict=O p->b≠p)->s.heap.get? b=O o->l.get? b=O o) ->(∀a,s.heap.get? x=O a->∃f i,l.get? x=O f/\f.cls=a.cls/\f.data=a.data/\f.dict=O i/\((a.dict=O i)\/(a.dict=B/\s.heap.get? i=B)))->Q () {s with heap:=l,toks:=j}):aI (aZ X.prog X.w) A (setAttr (.ref x) name u) Q E s:=by
 have q:=I.nE;obtain⟨o,T,hc,r,hd⟩:=id In;have N:jR o=true:=by
  unfold jR;split
  .rename_i cc e;exact zI e (r cc)
  .rfl
 obtain⟨M,IA⟩:∃M,lT s.heap x o C M:=by
  rcases hd with⟨e,_⟩|⟨p,e,_,oD,es,ep,hD,_⟩
  .exact⟨B,T,hc,N,by rw[e];trivial⟩
  .exact⟨O oD,T,hc,N,by rw[e];exact hD⟩
 have n:=PySem.F.store_object;refine PySem.W.set_plain q IA c.sa ?_;have sub:PySem.W.Looks (aZ X.prog X.w) s.heap (lQ (.ref x) (.type "object")) true:=IA.type.andThen (PySem.W.looks_mroIn q c.ob);refine codeAny_call_builtin n.slot.plain n.entry (@PySem.W.check_slot (aZ X.prog X.w) _ _ {s with toks:=s.toks+1} "object.__setattr__" "object" "__setattr__" (.ref x) [.str name s.toks,u] [] _ n.kind n.split sub (n.args (.ref x) (.str name s.toks) u) ?_);exact Q8 (h:=s.heap) (g:=s.gens) (d:=s.drawn) (t:=s.toks+1) (os:=s.os) q c L In hw hz λl j I' kk same=>hq l j I' kk same
end
def VC(H:Hp)(h:bC)(d:G):Prop:=(H d=B/\h.get? d=B)\/∃a,H d=O (.ext a)
section
variable {P:a9}{w:bg}{H:Hp}{h h':bC}{x d:G}{o1 o2:HO}{fs:List G}
def VC.ne {u:HO}(q:VC H h d)(e:H b=O u)(c:∀a,u≠.ext a):b≠d:=by
 rintro rfl;rcases q with⟨z,_⟩|⟨a,z⟩
 .rw[e]at z;cases z
 .rw[e]at z;cases z;exact c a Y
def Uu{b:G}(a:b≠x)(c:b≠d):upd (upd H d o1) x o2 b=H b:=by rw[Zk a,Zk c]
def PM  (z:ZY P w H h a o):∃b,h.get? a=O b:=by
 induction o with
|lst g=>obtain⟨_,_,_,_,e⟩:=z;exact⟨_,e⟩
|tup g=>obtain⟨_,_,_,b,e,_⟩:=z;exact⟨_,e⟩
|dK c=>obtain⟨_,_,_,_,b,_,_,e,_⟩:=z;exact⟨_,e⟩
|dT c=>obtain⟨_,_,_,_,b,_,_,e,_⟩:=z;exact⟨_,e⟩
|set j n=>obtain⟨b,_,_,_,e,_⟩:=z;exact⟨_,e⟩
|ins C r fs=>obtain⟨_,_,_,e,_⟩:=z;exact⟨_,e⟩
|own y=>exact z
|xd fs=>obtain⟨_,⟨b,_,_,e,_⟩,_⟩:=z;exact⟨_,e⟩
|yO lo q=>obtain⟨_,_,_,e⟩:=z;exact⟨_,e⟩
|ti b u p=>exact⟨_,z.1⟩
|wF l=>exact⟨_,z⟩
|met f y=>exact⟨_,z⟩
|ext i=>exact z.2.1
def Ep(c:VC H h x)(f:VC H h d)(k:∀b o,b≠x->b≠d->h.get? b=O o->h'.get? b=O o)(j:∃o,h'.get? x=O o)(l:∃o,h'.get? d=O o):Un fs [] H (upd (upd H d o1) x o2) h h':=by
 have a:∀{z:G},VC H h z->∀b o,h.get? b=O o->H b=B->b≠z:=by
  intro z q b o e n;rintro rfl;rcases q with⟨_,y⟩|⟨p,y⟩
  .rw[e]at y;cases y
  .rw[n]at y;cases y
 refine⟨λb o e n _ _=>k b o (a c b o e n) (a f b o e n) e,λb o e n _ _=>⟨o.slots,k b o (a c b o e n) (a f b o e n) e⟩,λb o e n _=>(Uu (a c b o e n) (a f b o e n)).trans n,λb o e _=>?_,λb r e=>(Uu (c.ne e zE) (f.ne e zE)).trans e,λb o u e=>(Uu (c.ne e zE) (f.ne e zE)).trans e,λb s e=>⟨#[],(Uu (c.ne e zE) (f.ne e zE)).trans (by simpa using e)⟩⟩;by_cases g:b=x
 .exact g▸j
 .by_cases i:b=d
  .exact i▸l
  .exact⟨o,k b o g i e⟩
def Lx(ok:ox P w H h)(a:VC H h x)(f:VC H h d)(ne:d≠x)(k:∀b o,b≠x->b≠d->h.get? b=O o->h'.get? b=O o)(j:ZY P w (upd (upd H d o1) x o2) h' x o2)(l:ZY P w (upd (upd H d o1) x o2) h' d o1):ox P w (upd (upd H d o1) x o2) h':=λb u e=>by
 by_cases g:b=x
 .subst g;rw[Zc]at e;cases e;exact j
 .by_cases i:b=d
  .subst i;rw[Zk ne,Zc]at e;cases e;exact l
  .rw[Uu g i]at e;refine(ok b u e).o_ (λc v hc q=>?_) (λc q=>(Uu (a.ne q zE) (f.ne q zE)).trans q) λc n q=>(Uu (a.ne q zE) (f.ne q zE)).trans q;rcases hc with rfl|hc
   .exact k _ v g i q
   .exact k _ v (a.ne hc zE) (f.ne hc zE) q
end
section
variable {X:Cx}{pins:List (G×eN)}{σ:St}{H:Hp}{s:ao}{x C fI Qa:G}{f:U}{y:V}{u:Z}{Q:Unit->ao->Prop}
def QU  (e:H x=O (mS x C a)):VC H h x:=.inr ⟨_,e⟩
def SO{fs:List (U×V)}{mA:U->Option Z}(r:∀g,nW (fs.lookup g) (mA g))(a:RelV y u)(g:U):nW ((lZ f y fs).lookup g) (if g=f then O u else mA g):=by
 rw[ZV];by_cases q:g=f
 .rw[zH q,zH q];exact a
 .rw[zG q,zG q];exact r g
def N8{fs:List (U×V)}(b:gQ a (fs.map (·.1))):gQ (λg=>if g=f then O u else a g) ((lZ f y fs).map (·.1)):=λg c=>by
 by_cases q:g=f
 .rw[q];exact(JY f y fs).1
 .refine(JY f y fs).2 g (b g λz=>c ?_);show(if g=f then O u else a g)=B;rw[zG q];exact z
def El  (I:Inv X pins σ H s)(c:XC X.K C fI Qa)(N:a_ X.K (.ref C) f=O B)(e:H x=O (mS x C B))(ry:RelV y u)(h:∀d W,d≠x->H d=B->Inv X pins σ (upd (upd H d (XD d [(f,y)])) x (mS x C (O d))) W->Q () W):aI (aZ X.prog X.w) A (setAttr (.ref x) f u) Q E s:=by
 obtain⟨o,vs,r,hc,l,hd,hz,h1⟩:=XU.mp (I.lI x _ e);have In:s.heap.Inst x C (λ_=>B):=⟨o,r,hc,(λcc q=>by rw[hd]at q;cases q),.inl ⟨l,λ_=>rfl⟩⟩;refine RY (ns:=[]) I c N In (λg t=>zI Y t) (bK _) λF ab I' k same=>?_;obtain⟨p,a,j,c1,T,n,sd⟩:=same o r;have dn:s.heap.get? a=B:=by
  rcases sd with z|⟨_,z⟩
  .rw[l]at z;cases z
  .exact z
 obtain⟨o',L,_,_,P⟩:=I';have eo:o'=p:=aJ (L.symm.trans j);subst eo;have Hd:H a=B:=by
  cases q:H a with
 |none=>rfl
 |some v=>
   obtain⟨i,z⟩:∃i,s.heap.get? a=O i:=by have:=I.lI _ _ q;exact PM this
   rw[dn]at z;cases z
 rcases P with⟨z,_⟩|⟨dx,z,ne,ns⟩
 .rw[n]at z;cases z
 .have ed:a=dx:=by rw[n]at z;exact aJ z
  subst ed;have kk:∀b i,b≠x->b≠a->s.heap.get? b=O i->F.get? b=O i:=λb i hb _ q=>k b i hb (λaa ah e0 e1=>by rw[r]at e0;cases e0;rw[l]at e1;cases e1) q;have qx:VC H s.heap x:=QU e;have qd:VC H s.heap a:=.inl ⟨Hd,dn⟩;have nd:ZY X.prog X.w (upd (upd H a (XD a [(f,y)])) x (mS x C (O a))) F a (XD a [(f,y)]):=Kx.mpr ⟨_,ns,λg=>SO (fs:=[]) (mA:=λ_=>B) (λ_=>dE) ry g,N8 (fs:=[]) λg t=>zI Y t,zE⟩;have nx:ZY X.prog X.w (upd (upd H a (XD a [(f,y)])) x (mS x C (O a))) F x (mS x C (O a)):=XU.mpr ⟨o',vs,j,c1.trans hc,n,T.trans hd,hz,h1⟩;obtain⟨oD,_,_,M,_⟩:=id ns;exact h a _ ne Hd (I.un (Ep qx qd kk ⟨_,j⟩ ⟨_,M⟩) (Lx I.lI qx qd ne kk nx nd))
def L5  {d:G}(I:Inv X pins σ H s)(c:XC X.K C fI Qa)(T:a_ X.K (.ref C) f=O B)(e:H x=O (mS x C (O d)))(ed:H d=O (XD d fs))(ne:d≠x)(hl:fs.length<1000)(ry:RelV y u)(h:∀s',Inv X pins σ (upd (upd H d (XD d (lZ f y fs))) x (mS x C (O d))) s'->Q () s'):aI (aZ X.prog X.w) A (setAttr (.ref x) f u) Q E s:=by
 obtain⟨o,vs,L,hc,i,hd,hz,h1⟩:=XU.mp (I.lI x _ e);obtain⟨mA,ns,r,wi,_⟩:=Kx.mp (I.lI d _ ed);have In:s.heap.Inst x C mA:=⟨o,L,hc,(λcc q=>by rw[hd]at q;cases q),.inr ⟨d,i,ne,ns⟩⟩;refine RY (ns:=fs.map (·.1)) I c T In wi (by rw[bH];omega) λM ak I' k same=>?_;obtain⟨p,a,j,c1,ah,l,sd⟩:=same o L;have F:a=d:=by
  rcases sd with z|⟨z,_⟩
  .rw[i]at z;exact(aJ z).symm
  .rw[i]at z;cases z
 subst F;obtain⟨o',N,_,_,W⟩:=I';have eo:o'=p:=aJ (N.symm.trans j);subst eo;rcases W with⟨z,_⟩|⟨dx,z,_,n⟩
 .rw[l]at z;cases z
 .have ab:a=dx:=by rw[l]at z;exact aJ z
  subst ab;have kk:∀b t,b≠x->b≠a->s.heap.get? b=O t->M.get? b=O t:=λb t hb aa q=>k b t hb (λai ar e0 F=>by rw[L]at e0;cases e0;rw[i]at F;cases F;exact aa) q;have qx:VC H s.heap x:=QU e;have qd:VC H s.heap a:=.inr ⟨_,ed⟩;have nd:ZY X.prog X.w (upd (upd H a (XD a (lZ f y fs))) x (mS x C (O a))) M a (XD a (lZ f y fs)):=Kx.mpr ⟨_,n,λg=>SO r ry g,N8 wi,by have:=Xq f y fs;omega⟩;have nx:ZY X.prog X.w (upd (upd H a (XD a (lZ f y fs))) x (mS x C (O a))) M x (mS x C (O a)):=XU.mpr ⟨o',vs,j,c1.trans hc,l,ah.trans hd,hz,h1⟩;obtain⟨oD,_,_,P,_⟩:=id n;exact h _ (I.un (Ep qx qd kk ⟨_,j⟩ ⟨_,P⟩) (Lx I.lI qx qd ne kk nx nd))
def Zaw(K:af)(h g:TE)(f:U):TS:=λc σ H=>g σ H λy i=>h σ i λx b=>∃a C fI Qa,x=.ref a/\b a=O (mS a C B)/\XC K C fI Qa/\a_ K (.ref C) f=O B /\∀d,d≠a->b d=B->c.nx σ (upd (upd b d (XD d [(f,y)])) a (mS a C (O d)))
def Zax(K:af)(h g:TE)(f:U):TS:=λc σ H=>g σ H λy i=>h σ i λx b=>∃a C fI Qa d fs,x=.ref a/\b a=O (mS a C (O d))/\b d=O (XD d fs)/\d≠a/\fs.length<1000/\XC K C fI Qa/\a_ K (.ref C) f=O B /\c.nx σ (upd (upd b d (XD d (lZ f y fs))) a (mS a C (O d)))
section
variable {o value:bV}{pos pos':iG}{ta tv:TE}
def Ru(w:PE X o ta)(r:PE X value tv)(hs:jA value (O (.Attribute o f pos')) pos.line X.env=pure false):PS X (.Assign [.Attribute o f pos'] value pos) (Zaw X.K ta tv f):=by intro pins s σ H N I h;refine iX (lY (r pins s σ H _ I h) λu g b=>?_) hs;obtain⟨y,M,L,i,q⟩:=b;refine lY (w pins g σ M _ L q) λp T b=>?_;obtain⟨x,W,F,j,a,C,fI,Qa,z,A,c,n,l⟩:=b;subst z;obtain rfl:p=aN a:=j;exact El F c n A i λd P ne t E=>⟨σ,_,E,l d ne t⟩
def NO(w:PE X o ta)(r:PE X value tv)(hs:jA value (O (.Attribute o f pos')) pos.line X.env=pure false):PS X (.Assign [.Attribute o f pos'] value pos) (Zax X.K ta tv f):=by intro pins s σ H P I h;refine iX (lY (r pins s σ H _ I h) λu g b=>?_) hs;obtain⟨y,N,M,i,q⟩:=b;refine lY (w pins g σ N _ M q) λp W b=>?_;obtain⟨x,H2,L,j,a,C,fI,Qa,d,fs,z,E,A,ne,t,c,n,l⟩:=b;subst z;obtain rfl:p=aN a:=j;exact L5 L c n E A ne t i λT F=>⟨σ,_,F,l⟩
end
end
section
variable {X:Cx}{CX:sJ}{k:Nat}{f C Qa:G}{fd:fe}{ps:List U}{sp:Sp}{dvs:List V}{ds:List Z}{E:XK}{x m:U}{p pos apos:iG}{e o:bV}{es:List bV}{ta:TE}{t:TA}
def Di    {Q:VK} (c:XC X.K C f Qa)(F:m7 X.prog X.w X.K X.mg X.base CX k f fd ps sp)(hr:l9 (k+1) X.A)(hb:Binds X.K fd ps ds)(hd:Zt dvs ds)(hx:Yx CX X E)(I:Inv X i n H s)(r:Zt q j)(hz:j.length<=sizeLine)(h:∀x,H x=B->sp (.ref x::(q++dvs)) (upd H x (mS x C B)) (λv H2=>v=.non/\Q (.ref x) H2) E):aI (aZ X.prog X.w) X.A (call (.ref C) j) (EP X i n Q) X.xe s:=by
 refine Ic (h:=s.heap) (g:=s.gens) (d:=s.drawn) (t:=s.toks) (os:=s.os) I.nE c hz λM a L mk=>?_;obtain⟨kk,_,T,ge,_,_⟩:=mk;have z:=h a (I.lI.fresh L);have l:Inv X i n (upd H a (mS a C B)) {s with heap:=M}:=I.laid (t':=s.toks) kk L (XU.mpr ⟨_,_,ge,Y,Y,Y,zE,zE⟩);have y:Zt (V.ref a::(q++dvs)) (aN a::(j++ds)):=.cons Y (r.append hd);have hl:(aN a::j++ds).length=ps.length:=by have e:=y.length;rw[F.len _ _ _ _ z]at e;exact e.symm
 refine jB (iM (F.run _ X.stack {s with heap:=M} _ ⟨aN a::j,[]⟩ (aN a::(j++ds)) _ _ E (hr.make C j []) (l.wh.make C j []) (hb _ (aN a::j) l.nE hl) y z) λr N b=>?_);cases r with
|error e=>exact hx i n _ _ e N l b
|ok fl=>
  cases fl with
 |ret u=>obtain⟨v,H',I3,P,ev,W⟩:=l.after b;subst ev;exact⟨P,⟨V.ref a,H',I3,Y,W⟩⟩
 |next=>exact cV b
 |brk=>exact cV b
 |cont=>exact cV b
end
noncomputable def del(H:Hp)(a:G):Hp:=λb=>if b=a then B else H b
def Xz  :del H a a=B:=by simp[del]
def YJ {a b:G}(h:b≠a):del H a b=H b:=by simp[del,h]
section
variable {M:Model}{A:bU}{E:Z->ao->Prop}{env:jI}{K:af}
def Dk   (u:A.handled=B)(h:aI M A x (λv a=>∃e i C r j b,v=.ref e/\XC K C r j/\K.In a.heap/\a.heap.get? e=O i/\i.cls=.ref C/\i.data=.fields b/\b[1]?=O .none/\E (.ref e) a) E s):aI M A (raiseStmt env (O x) B) Q E s:=by
 unfold raiseStmt;refine ae (dQ h (λv a f=>?_) λ_ _ x=>x);obtain⟨e,⟨t,od,l,I⟩,C,r,j,b,rfl,c,H,w,y,n,F,z⟩:=f;obtain rfl:t=.ref C:=y;obtain rfl:l=.fields b:=n;obtain⟨hp,g,d,W,os⟩:=a;obtain⟨nm,q,N,bs,X,sub,ab,T,dd,k0,k1,k2,k3,k5,lk,L,P⟩:=id c.obj;have p:=H _ _ lk;have o:(aN C::.ref j::qD).contains (.type "BaseException")=true:=by rw[gn,gn,show qD.contains (.type "BaseException")=true from by decide,iy,iy]
 repeat (first|with_reducible refine cC w ?_|with_reducible refine cC p ?_|(with_reducible refine gm p ?_;rw[o])|wp_step)
 show aI M A (match b[1]? with|some x=>pure x|none=>unsupported "internal:no-such-field") _ _ _
 rw[F];refine aE ?_;show aI M A (if(b9 != b9)=true then _ else pure ()) _ _ _;rw[zG D];exact aE (wpAny_raiseNew_none u z)
end
section
variable {X:Cx}{pins:List (G×eN)}{σ:St}{H:Hp}{s:ao}{a C:G}{dd:Option G}{E:XK}
def raised(I:Inv X pins σ H s)(e:H a=O (mS a C dd))(hE:E (.ref C) dd (del H a)):oV X.prog X.w X.stack H s E (.ref a) s:=by
 obtain⟨o,M,hx,hc,p,hd,W,y⟩:=XU.mp (I.lI a _ e);have g:∀b u,H b=O u->(∀A,u≠.ext A)->b≠a:=λb u q n z=>by subst z;rw[e]at q;cases q;exact n _ Y
 have fr:a∉m6 X.stack:=λz=>by rw[I.nI a z]at e;cases e
 have i:∀b f,s.heap.get? b=O f->b≠a->b∉m6 X.stack->(gj s.heap (a::m6 X.stack)).get? b=O f:=λb f q Q P=>j5 _ q λz=>by
  rcases ay.mp z with z|z
  .exact Q z
  .exact P z
 refine⟨a,.ref C,dd,gj s.heap (a::m6 X.stack),del H a,Y,Y,I.bare,⟨λb o q _ _ _=>q,λb o q _ _ _=>⟨o.slots,q⟩,λb o q n _=>?_,λb o q _=>⟨o,q⟩,λb F q=>(YJ (g b _ q zE)).trans q,λb o u q=>(YJ (g b _ q zE)).trans q,λb ps q=>⟨#[],by rw[YJ (g b _ q zE)];simpa using q⟩⟩,?_,?_,?_,hE⟩
 .by_cases d:b=a
  .rw[d];exact Xz
  .rw[YJ d];exact n
 .intro b u q;have d:b≠a:=λz=>by rw[z,Xz]at q;cases q
  rw[YJ d]at q;exact(I.lI b u q).o_ (λ_ _ _ z=>z) (λc z=>(YJ (g c _ z zE)).trans z) λc F z=>(YJ (g c _ z zE)).trans z
 .refine⟨λb u q=>kh _ q,fF _ (.head _),?_,o,M,hx,hc,p,hd,⟨W,λ_=>y.2.2⟩,.inl ⟨y.1,Y⟩⟩;have go:∀l:List jI,(∀b∈m6 l,b∈a::m6 X.stack)->s.heap.FunFrames X.base l->s.heap.FunFrames (gj s.heap (a::m6 X.stack)) l:=by
   intro l;induction l with
  |nil=>intro _ _;trivial
  |cons t r T=>
    intro hs ⟨hk,⟨L,N,h,hn,ho,j⟩,hr⟩;have x:m6 (t::r)=L::m6 r:=by unfold m6;rw[fg,h]
    exact⟨hk,⟨L,N,h,fF _ (hs L (by rw[x];exact .head _)),ho,j⟩,T (λb d=>hs b (by rw[x];exact .tail _ d)) hr⟩
  exact go X.stack (λb d=>.tail _ d) I.stack
 .refine⟨λb u q=>?_,λb f q n d=>i b f q (λz=>by rw[z,e]at n;cases n) d,λb f q=>?_,Xz⟩
  .have d:b≠a:=λz=>by rw[z,Xz]at q;cases q
   rw[YJ d]at q;obtain⟨f,z⟩:=PM (I.lI b u q);exact⟨f,i b f z d λm=>by rw[I.nI b m]at q;cases q⟩
  .by_cases d:b=a
   .exact .inr (.inl d)
   .by_cases h:b∈m6 X.stack
    .exact .inl h
    .exact .inr (.inr ⟨f,i b f q d h⟩)
end
noncomputable def oS(c:Bool)(x C:G)(b:Option G):HO:=.ext λh=>∃o a,h.get? x=O o/\o.cls=.ref C/\o.dict=b/\o.data=.fields a/\(c=true->a[2]?=O .none)
structure XB(K:af)(zB:G):Prop where
 obj:∃nm q N bs bm hd sn sub ab col dd k0 k1 k2 k3 k5 nid,K.lookup zB=O (excClassObj nm q zB N bs bm hd sn sub ab col dd k0 k1 k2 k3 k5 nid)/\bm.contains (.type "BaseException")=true
def RK       :ZY P w H h x (oS i x C g)↔∃o a,h.get? x=O o/\o.cls=.ref C/\o.dict=g/\o.data=.fields a/\(i=true->a[2]?=O .none):=by
 constructor
 .intro z;exact z.1
 .rintro ⟨o,a,c,r⟩;exact⟨⟨o,a,c,r⟩,⟨o,c⟩,λl j⟨f,b,e,d⟩k=>⟨f,b,k _ e,d⟩⟩
section
variable {M:Model}{A:bU}{E:Z->ao->Prop}{K:af}{C zB fI Qa e:G}{h:bC}{g:Array GenState}{d:Drawn}{t:Nat}{os:de}{oe:eN}
def VQ{Q:Bool->ao->Prop}(u:K.In h)(c:XC K C fI Qa)(b:XB K zB)(z:h.get? e=O oe)(a:oe.cls=.ref C)(i:Q ((aN C::.ref Qa::qD).contains (.ref zB)) ⟨h,g,d,t,os⟩):aI M A (excMatches (.ref e) (.ref zB)) Q E ⟨h,g,d,t,os⟩:=by
 obtain⟨nm,q,N,bs,sn,sub,ab,ar,dd,k0,k1,k2,k3,k5,lk,I,ah⟩:=id c.obj;obtain⟨L,q',N',az,p,ai,H,w,aC,y,ak,aa,X,W,T,P,x,j,o⟩:=b.obj;have s:=u _ _ lk;have r:=u _ _ j;have n:(aN zB::p).contains (.type "BaseException")=true:=by rw[gn,o,iy]
 have f:=tc_notTuple;generalize l:(aN C::.ref Qa::qD).contains (.ref zB)=F at i;unfold excMatches;repeat (first|(with_reducible refine cC z ?_;rw[a])|with_reducible refine cC s ?_|with_reducible refine cC r ?_|(with_reducible refine gm r ?_;rw[n])|(with_reducible refine gm s ?_;rw[l])|wp_step)
 first
 |exact i
 |(cases F<;>(wp_walk;exact i))
def IE    {s:ao}{Q:Unit->ao->Prop}(F:uN zw x c dd .none s.heap)(L:∀N,(∀b o,s.heap.get? b=O o->N.get? b=O o)->Q () {s with heap:=N}):aI M A (kZ (.ref x) B) Q E s:=by
 obtain⟨o,vs,H,hc,aa,I,hz,W⟩:=F;unfold kZ;rcases W with⟨n,_⟩|⟨T,p,l,n,bT,nT,r,a,w⟩
 .refine ae (bG H I n ?_);rw[zG D];exact aE (L _ λ_ _ z=>z)
 .have y:3<l.size:=(gO.mp w).1;refine ae (bG H I n ?_);rw[zH (show(aN T != b9)=true from by simp)];refine ff r a y (L _ λb u q=>?_);by_cases j:b=T
  .subst j;rw[r]at q;cases q;have X:l.setIfInBounds 3 b9=l:=by
    apply Array.ext
    .simp
    .intro i n h2;rw[Array.getElem_setIfInBounds]
     .split
      .rename_i e3;subst e3;rw[fG y]at w;exact(aJ w).symm
      .rfl
   have P:cQ (·.setIfInBounds 3 ((B:Option G).elim b9 λf=>dU f)) p=p:=by obtain⟨a1,a2,a3,a4⟩:=p;cases a;show(⟨a1,a2,.fields (l.setIfInBounds 3 b9),a4⟩:eN)=_;rw[X]
   have:=bF (cQ (·.setIfInBounds 3 ((B:Option G).elim b9 λf=>dU f))) r (by rw[P];exact iJ a);rw[this,P]
  .rw[bq _ _ (dc j)];exact q
end
noncomputable abbrev Cx.qR(X:Cx)(e:Z):Cx:={X with A:=X.A.mark (O e),calm:=false,xe:=λ_ _=>False}
section
variable {X:Cx}{pins:List (G×eN)}{σ:St}{H:Hp}{s:ao}{e:Z}
theorem Cx.Ok.qR(ok:X.Ok)(e:Z):(X.qR e).Ok:=⟨ok.mod,ok.kind,ok.glob,ok.blt,ok.above,ok.inj,ok.has,ok.wM,(λz=>zI (show false=true from z) D),ok.frames,ok.wX,ok.xD,ok.bs,ok.uu,ok.r_,ok.so,ok.oB,ok.uV⟩
theorem Inv.qR(I:Inv X pins σ H s)(e:Z):Inv (X.qR e) pins σ H s:=⟨I.ok.qR e,I.os,I.bare,I.base,I.loc,I.cell,I.free,I.mV,I.pin,I.lI,I.len⟩
def Inv.rV(ok:X.Ok)(I:Inv (X.qR e) pins σ H s):Inv X pins σ H s:=⟨ok,I.os,I.bare,I.base,I.loc,I.cell,I.free,I.mV,I.pin,I.lI,I.len⟩
def X5   {i:Nat}{n:U}{Q:Unit->ao->Prop}(I:Inv X pins σ H s)(hN:X.N.Nodup)(L:X.N[i]?=O n)(hk:X.env.scope.names.lookup n=O .local)
  (h:∀F,Inv X pins (σ.set i B) H F->Q () F):aI M A (do bindName X.env n .none;unbindBehindTheSuite X.env n aa) Q E s:=by
 obtain⟨m,hn,hl⟩:=id I.loc
 have r:(X.env.scope.kind==.class||(X.env.scope.kind==.module&&X.env.locals != X.env.globals))=false:=by rw[I.ok.kind];rfl
 have l:i<σ.length:=by rw[I.len];exact(aU.mp L).1
 refine wpAny_nameGoes_keeps hk hn r λh' v x hs=>?_
 have up:∀b o,X.nv.heap.get? b=O o->b≠X.env.locals:=λb o q=>bc (aX (aK q) I.ok.above)
 refine h _ ⟨I.ok,I.os,I.bare,⟨λb o q f w g=>(hs.2 b (up b o q)).trans (I.base.keep b o q f w g),λb o q f w g=>?_,I.base.free,λb o q g=>?_,I.base.p8,I.base.pQ,I.base.p9⟩,⟨_,x,λj y P a t e3=>?_⟩,λy c q=>?_,I.free,I.mV,λp hp=>?_,λb ob q=>?_,by simpa using I.len⟩
 .obtain⟨W,a⟩:=I.base.slot b o q f w g
  exact⟨W,(hs.2 b (up b o q)).trans a⟩
 .obtain⟨o',a⟩:=I.base.there b o q g
  exact⟨o',(hs.2 b (up b o q)).trans a⟩
 .by_cases u:j=i
  .subst u
   rw[iA l]at t
   cases t
  .rw[iS (dc u)]at t
   obtain⟨T,r',q⟩:=hl j y P a t e3
   refine⟨T,r',?_⟩
   rcases q with⟨k,q⟩|⟨k,c,q,z⟩
   .refine .inl ⟨k,?_⟩
    have:y≠n:=λz=>u (Gv hN a (z▸L))
    simp[this,q]
   .exact .inr ⟨k,c,q,z.sameBut hs (I.vt y c q)⟩
 .obtain⟨C,z⟩:=I.cell y c q
  exact⟨C,z.sameBut hs (I.vt y c q)⟩
 .obtain⟨q,f,ne,nf,d⟩:=I.pin p hp
  exact⟨(hs.2 p.1 ne).trans q,f,ne,nf,d⟩
 .refine(I.lI b ob q).o_ (λc C hc z=>(hs.2 c ?_).trans z) (λ_ z=>z) λ_ _ z=>z
  rintro rfl
  rcases hc with rfl|hc
  .rw[I.free]at q;cases q
  .rw[I.free]at hc;cases hc
end
section
variable {X:Cx}{pins:List (G×eN)}{σ:St}{H:Hp}{s:ao}{x C fI Qa Dc:G}{dd:Option G}{zw:bC}{cn n:U}{i:Nat}{p pos:iG}{qz:b_}{oW:List b_}{rest:List iw}{ts:TS}{zB:Ends}
noncomputable def vk(i:Nat)(zB:Ends):Ends:={nx:=λσ H=>zB.nx (σ.set i B) H,rt:=zB.rt,bk:=λσ H=>zB.bk (σ.set i B) H,ct:=λσ H=>zB.ct (σ.set i B) H}
def Qf  (I:Inv X pins σ H s)(a:uN zw x (cv L C) dd .none s.heap)(c:XC X.K C fI Qa)(b:XB X.K Dc)(r:Gl X cn)(l:X.mg cn=O (.ref Dc))(f:(aN C::.ref Qa::qD).contains (.ref Dc)=false)(h:aI (aZ X.prog X.w) X.A (handleBy (.ref x) X.env rest) (SP X pins zB) X.xe s)(t:(cn==("__debug__":U))=false:=by decide):aI (aZ X.prog X.w) X.A (handleBy (.ref x) X.env (.ExceptHandler (O (.Name cn p)) E (qz::oW) pos::rest)) (SP X pins zB) X.xe s:=by obtain⟨o,y,j,u,_⟩:=a;refine lh (kI ?_) (by intro q;cases q);refine Ji (X:=X.qR (.ref x)) (I.qR _) r l ?_ t;obtain⟨F,g,d,z,os⟩:=s;refine VQ I.nE c b j (u.trans (RM _ _)) ?_;rw[f];exact h
def DQ (I:Inv X pins σ H s)(L:uN zw x (cv cl C) dd .none s.heap)(c:XC X.K C fI Qa)(b:XB X.K Dc)(W:Gl X cn)(T:X.mg cn=O (.ref Dc))(F:(aN C::.ref Qa::qD).contains (.ref Dc)=true)(hN:X.N.Nodup)(y:X.N[i]?=O n)(hk:X.env.scope.names.lookup n=O .local)(hs:qg (X.qR (.ref x)) (qz::oW) ts)(h:ts (vk i zB) (σ.set i (O (.ref x))) H)(hd:(cn==("__debug__":U))=false:=by decide):aI (aZ X.prog X.w) X.A (handleBy (.ref x) X.env (.ExceptHandler (O (.Name cn p)) (O n) (qz::oW) pos::rest)) (SP X pins zB) X.xe s:=by
 obtain⟨o,vs,Q,hc,_⟩:=id L;refine lh (kI ?_) (by intro q;cases q);refine Ji (X:=X.qR (.ref x)) (I.qR _) W T ?_ hd;obtain⟨hh,g,d,M,os⟩:=s;refine VQ I.nE c b Q (hc.trans (RM _ _)) ?_;rw[F];refine codeAny_handlers_suite_as (IE L λh' k=>?_);have I2:Inv X pins σ H ⟨h',g,d,M,os⟩:=I.kept (t':=M) k;refine U7 (X:=X.qR (.ref x)) (v:=.ref x) (I2.qR _) hN y (.inl hk) Y (λP I3=>?_) (.inr hk);refine dQ (hs pins P _ H (vk i zB) I3 h) (λf s4 q=>?_) λ_ _ z=>cV z;cases f with
|next=>obtain⟨t,l,a,q⟩:=q;exact X5 (a.rV I.ok) hN y hk λE j=>⟨_,l,j,q⟩
|brk=>obtain⟨t,l,a,q⟩:=q;exact X5 (a.rV I.ok) hN y hk λE j=>⟨_,l,j,q⟩
|cont=>obtain⟨t,l,a,q⟩:=q;exact X5 (a.rV I.ok) hN y hk λE j=>⟨_,l,j,q⟩
|ret u=>obtain⟨v,t,l,a,r,q⟩:=q;exact X5 (a.rV I.ok) hN y hk λE j=>⟨v,_,l,j,r,q⟩
end
section
variable {X:Cx}{pins:List (G×eN)}{σ:St}{H1 H2:Hp}{s1 s2:ao}{x C:G}{dd:Option G}{zw h':bC}{fl:Z}{cl:Bool}
def OM(I:Inv X pins σ H1 s1)(os:s2.os=s1.os)(r:jc s2.gens)(un:Un (m6 X.stack) [] H1 H2 s1.heap s2.heap)(A:ox X.prog X.w H2 s2.heap)(F:qe zw X.stack x (cv cl C) dd .none s2.heap)(b:pD zw (m6 X.stack) x H1 H2 s1.heap)(j:qe zw X.stack x (cv cl C) dd fl h')(E:s2.heap.UpToSlots h'):Inv X pins σ (upd H2 x (oS cl x C dd)) {s2 with heap:=h'}:=by
 have W:∀d o,s1.heap.get? d=O o->H1 d=B->d≠x:=by
  rintro d o e n rfl;by_cases a:d∈m6 X.stack
  .obtain⟨_,N,g,i⟩:=I.stack.mem a;rw[e]at g;cases g;obtain⟨L,q⟩:=un.slot d o e n a zE;obtain⟨M,t,s,_,_,y,_⟩:=F.row;rw[q]at s;cases s;exact i t y
  .have:=b.old d o e n a;rw[F.new]at this;cases this
 have f:∀d u,H2 d=O u->d≠x:=by rintro d u e rfl;rw[b.xn]at e;cases e
 have p:ox X.prog X.w H2 h':=GD A b.uR F.keep j.keep;refine I.tW (s':={s2 with heap:=h'}) (ch:=[]) os ⟨λd o e n a _=>j.keep d o (b.old d o e n a),λd o e n a _=>?_,λd o e n hx=>?_,λd o e _=>?_,λd H e=>?_,λd o u e=>?_,λd T e=>?_⟩ (λd u e=>?_) r λd z=>zI z zE
 .obtain⟨L,q⟩:=un.slot d o e n a zE;obtain⟨_,N,g,i⟩:=I.stack.mem a;rw[e]at g;cases g;obtain⟨l,h⟩:=E d _ q i;exact⟨l,h⟩
 .rw[Zk (W d o e n)];exact un.free d o e n hx
 .rcases b.all d o e with z|z|⟨P,z⟩
  .obtain⟨_,N,g,i⟩:=I.stack.mem z;rw[e]at g;cases g;obtain⟨L,q⟩:=un.slot d o e (I.nI d z) z zE;obtain⟨l,h⟩:=E d _ q i;exact⟨_,h⟩
  .subst z;obtain⟨M,_,q,_⟩:=j.row;exact⟨M,q⟩
  .exact⟨P,j.keep d P z⟩
 .have:=un.p8 d H e;rw[Zk (f d _ this)];exact this
 .have:=un.pQ d o u e;rw[Zk (f d _ this)];exact this
 .obtain⟨more,this⟩:=un.p9 d T e;exact⟨more,by rw[Zk (f d _ this)];exact this⟩
 .by_cases a:d=x
  .subst a;rw[Zc]at e;cases e;obtain⟨o,t,Q,h,s,y,q5,_⟩:=j.row;exact RK.mpr ⟨o,t,Q,h.trans (RM _ _),s,y,λe=>q5.2 (by subst e;rfl)⟩
  .rw[Zk a]at e;exact(p d u e).o_ (λ_ _ _ q=>q) (λc q=>by rw[Zk (f c _ q)];exact q) λc H q=>by rw[Zk (f c _ q)];exact q
end
noncomputable abbrev Cx.uX(X:Cx)(E:Z->ao->Prop)(a:List (G×eN)):Cx:={X with xe:=E,pn:=a}
section
variable {X:Cx}{pins yi:List (G×eN)}{σ:St}{H:Hp}{s:ao}{E:Z->ao->Prop}
def Inv.try(I:Inv X pins σ H s)(E:Z->ao->Prop):Inv (X.uX E (X.pn++pins)) [] σ H s:=⟨⟨I.ok.mod,I.ok.kind,I.ok.glob,I.ok.blt,I.ok.above,I.ok.inj,I.ok.has,I.ok.wM,I.ok.hd,I.ok.frames,I.ok.wX,I.ok.xD,I.ok.bs,I.ok.uu,I.ok.r_,I.ok.so,I.ok.oB,I.ok.uV⟩,I.os,I.bare,I.base,I.loc,I.cell,I.free,I.mV,λp a=>I.pin p (by simpa using a),I.lI,I.len⟩
def Inv.rT(ok:X.Ok)(I:Inv (X.uX E (X.pn++pins)) yi σ H s):Inv X pins σ H s:=⟨ok,I.os,I.bare,I.base,I.loc,I.cell,I.free,I.mV,λp a=>I.pin p (dv _ a),I.lI,I.len⟩
end
def J5(d:sJ)(X:Cx)(E:XK)(p:St->Prop):Prop:=∀(a:List (G×eN))(b:St)(H:Hp)(s:ao)(e:Z)(c:ao),p b->Inv X a b H s->d X.stack H s E e c->X.xe e c
def Hd(X:Cx)(hs:List iw)(h:G->G->Option G->TS):Prop:=∀(a:List (G×eN))(s:ao)(c:St)(H:Hp)(d:Ends)(f:Bool)(x C:G)(b:Option G)(g:bC),Inv X a c H s->H x=O (oS f x C b)->uN g x (cv f C) b .none s.heap->h x C b d c H ->aI (aZ X.prog X.w) X.A (handleBy (.ref x) X.env hs) (SP X a d) X.xe s
def yw:G->G->Option G->TS:=λ_ _ _ _ _ _=>False
def M'(K:af)(d:G)(i:Nat)(f:G->TS)(r:G->G->Option G->TS):G->G->Option G->TS:=λx C h c b H=>∃g a,XC K C g a /\(((aN C::.ref a::qD).contains (.ref d)=true/\f x (vk i c) (b.set i (O (.ref x))) H)\/((aN C::.ref a::qD).contains (.ref d)=false/\r x C h c b H))
def zX(j:(St->Prop)->XK->TS)(i:G->G->Option G->TS):TS:=λg a H=>∃E:XK,j (λf=>f=a) E g a H/\∀c b d,E c b d->∃h C,c=cv h C/\∀x,d x=B->i x C b g a (upd d x (oS h x C b))
section
variable {X:Cx}{Dc:G}{cn n:U}{i:Nat}{p pos:iG}{qz:b_}{oW:List b_}{rest:List iw}{ts:G->TS}{r th:G->G->Option G->TS}
def Hy:Hd X [] yw:=λ_ _ _ _ _ _ _ _ _ _ _ _ _ h=>cV h
def ZaL(b:XB X.K Dc)(j:Gl X cn)(g:X.mg cn=O (.ref Dc))(hN:X.N.Nodup)(y:X.N[i]?=O n)(hk:X.env.scope.names.lookup n=O .local)(hs:∀x,qg (X.qR (.ref x)) (qz::oW) (ts x))(w:Hd X rest r)(l:(cn==("__debug__":U))=false:=by decide):Hd X (.ExceptHandler (O (.Name cn p)) (O n) (qz::oW) pos::rest) (M' X.K Dc i ts r):=by
 rintro a s o H t E x C A q I z d ⟨F,L,c,⟨f,h⟩|⟨u,h⟩⟩
 .exact DQ I d c b j g f hN y hk (hs x) h l
 .exact Qf I d c b j g u (w a s o H t E x C A q I z d h) l
def Fh {g:iw}{hs:List iw}{tb:(St->Prop)->XK->TS}(j:X.stack=X.env::X.outer/\X.env.frame=O X.env.locals)(hb:∀(o:Z->ao->Prop)(z:List (G×eN))(p:St->Prop)(E:XK),J5 (oV X.prog X.w) (X.uX o z) E p->qg (X.uX o z) P (tb p E))(hh:Hd X (g::hs) th):PS X (.Try P (g::hs) [] [] pos) (zX tb th):=by
 rintro d s σ H zB I ⟨E,t,hE⟩;refine wpAny_Try_except ?_;generalize ah:(λ(e:Z)(N:ao)=>aI (aZ X.prog X.w) X.A (noteFrame e X.env) (λ_ M=>aI (aZ X.prog X.w) X.A (kZ e B) (λ_ L=>aI (aZ X.prog X.w) X.A (handleBy e X.env (g::hs)) (SP X d zB) X.xe L) X.xe M) X.xe N)=o;have hp:J5 (oV X.prog X.w) (X.uX o (X.pn++d)) E (λa=>a=σ):=by
  rintro ar a H1 s1 e T ai h ⟨x,c,y,zw,H2,rfl,os,Q,un,ab,F,b,hc⟩;subst ai;obtain⟨W,C,rfl,aa⟩:=hE c y H2 hc;show o (.ref x) T;rw[<-ah];have J':Inv X d a H1 s1:=h.rT I.ok;have fr:X.A.frames=O (X.env::X.outer):=by rw[J'.ok.frames,j.1]
  have FF:qe zw (X.env::X.outer) x (cv W C) y .none T.heap:=by rw[<-j.1];exact F
  refine P8 fr j.2 FF λh1 F1 U1=>?_;refine P9 (s:={T with heap:=h1}) F1 λh2 F2 U2=>?_;have ak:qe zw X.stack x (cv W C) y .none h2:=by rw[j.1];exact F2
  have I2:Inv X d a (upd H2 x (oS W x C y)) {T with heap:=h2}:=OM J' os Q un ab F b ak (U1.trans U2);exact hh d _ a _ zB W x C y zw I2 (Zc ..) F2.row (aa x b.xn)
 refine dQ (hb o (X.pn++d) _ E hp [] s σ H zB (I.try o) t) (λf s1 q=>?_) λe s1 q=>?_
 .cases f with
 |next=>obtain⟨a,l,h,q⟩:=q;exact ku ⟨a,l,h.rT I.ok,q⟩
 |brk=>obtain⟨a,l,h,q⟩:=q;exact⟨a,l,h.rT I.ok,q⟩
 |cont=>obtain⟨a,l,h,q⟩:=q;exact⟨a,l,h.rT I.ok,q⟩
 |ret u=>obtain⟨v,a,l,h,r,q⟩:=q;exact⟨v,a,l,h.rT I.ok,r,q⟩
 .exact q
end
def ξ(p:St->Prop)(t:TE):TE:=λa H Q=>p a/\t a H Q
section
variable {X:Cx}{CX:sJ}{k:Nat}{f C Qa:G}{fd:fe}{ps:List U}{sp:Sp}{dvs:List V}{ds:List Z}{E:XK}{x m:U}{pp pos apos:iG}{e o:bV}{es:List bV}{ta:TE}{t:TA}{p:St->Prop}
def Qk(CX:sJ)(X:Cx)(E:XK)(c:St):Prop:=∀(a:List (G×eN))(H:Hp)(s:ao)(e:Z)(b:ao),Inv X a c H s->CX X.stack H s E e b->X.xe e b
def J5.at (h:J5 CX X E p)(g:p b):Qk CX X E b:=λa H s e d I c=>h a b H s e d g I c
def ZaN       (F:m7 X.prog X.w X.K X.mg X.base CX k f fd ps sp)(q:l9 k X.A)(L:Binds X.K fd ps ds)(z:Zt dvs ds)(n:Qk CX X E i)(I:Inv X b i H s)(r:Zt d c)(h:sp (d++dvs) H Q E):aI (aZ X.prog X.w) X.A (call (.ref f) c) (EP X b i Q) X.xe s:=by
 have j:Zt (d++dvs) (c++ds):=r.append z;have y:(c++ds).length=ps.length:=(j.length).symm.trans (F.len _ _ _ _ h);refine jB (iM (F.run X.A X.stack s H ⟨c,[]⟩ (c++ds) (d++dvs) Q E q I.wh (L s c I.nE y) j h) λg l a=>?_);match g,a with
|.error e,a=>exact n b H s e l I a
|.ok (.ret u),a=>exact I.after a
|.ok .next,a=>exact a.elim
|.ok .brk,a=>exact a.elim
|.ok .cont,a=>exact a.elim
def OH    {Q:VK} (M:Mk X.K C f)(F:m7 X.prog X.w X.K X.mg X.base CX k f fd ps sp)(W:l9 (k+1) X.A)(hb:Binds X.K fd ps ds)(hd:Zt dvs ds)(T:Qk CX X E l)(I:Inv X c l H s)(r:Zt q b)(h:∀x i,H x=B->H i=B->i≠x->sp (.ref x::(q++dvs)) (upd (upd H i (.own x)) x (.ins C i [])) (λv H2=>v=.non/\Q (.ref x) H2) E):aI (aZ X.prog X.w) X.A (call (.ref C) b) (EP X c l Q) X.xe s:=by
 generalize g:s.heap.objs.size=n;have z:=h (n+1) n (I.lI.fresh (by rw[g];exact iV _)) (I.lI.fresh (by rw[g];exact aq _)) (bc (fv _));have d:=Inv.made (C:=C) I;rw[g]at d;have y:Zt (V.ref (n+1)::(q++dvs)) (aN (n+1)::(b++ds)):=.cons Y (r.append hd);have hl:(aN (n+1)::b++ds).length=ps.length:=(y.length).symm.trans (F.len _ _ _ _ z);refine jB (FO (f:=f) I.nE M.makes M.init (beq_iff_eq.mp M.fn) ?_);rw[g];refine iM (F.run _ X.stack _ _ ⟨aN (n+1)::b,[]⟩ (aN (n+1)::(b++ds)) _ _ E (W.make C b []) (d.wh.make C b []) (hb _ (aN (n+1)::b) d.nE hl) y z) λj L a=>?_;match j,a with
|.error e,a=>exact T c _ _ e L d a
|.ok (.ret u),a=>obtain⟨v,H',I3,N,ev,P⟩:=d.after a;subst ev;exact⟨N,⟨V.ref (n+1),H',I3,Y,P⟩⟩
|.ok .next,a=>exact a.elim
|.ok .brk,a=>exact a.elim
|.ok .cont,a=>exact a.elim
def WL(F:m7 X.prog X.w X.K X.mg X.base CX k f fd ps sp)(j:l9 k X.A)(u:Gl X x)(n:X.mg x=O (.ref f))(hk:cb X.K (.ref f)=true)(L:Binds X.K fd ps ds)(z:Zt dvs ds)(i:J5 CX X E p)(M:PA X (e::es) t)(c:(x==("__debug__":U))=false:=by decide)(y:bf (e::es) X.env=(false,cM e X.env)::bf es X.env:=by rfl)(b:(eh pos (bf es X.env)).any (·.1)=false:=by rfl):PE X (.Call (.Name x pp) (e::es) [] pos) (ξ p (Ui sp dvs E t)):=by rintro a s g H Q I ⟨l,h⟩;refine eU (Ji I u n ?_ c);refine gf (h₀:=X.base) I.ok.mod.v8 hk (lY (M pos a s g H _ I h) λT W N=>?_) y b;obtain⟨P,H1,d,r,q⟩:=N;refine ⟨d.nE,?_⟩;exact ZaN F j L z (i.at l) d r q
def WJ(M:Mk X.K C f)(F:m7 X.prog X.w X.K X.mg X.base CX k f fd ps sp)(j:l9 (k+1) X.A)(u:Gl X x)(n:X.mg x=O (.ref C))(L:Binds X.K fd ps ds)(z:Zt dvs ds)(i:J5 CX X E p)(N:PA X (e::es) t)(c:(x==("__debug__":U))=false:=by decide)(y:bf (e::es) X.env=(false,cM e X.env)::bf es X.env:=by rfl)(b:(eh pos (bf es X.env)).any (·.1)=false:=by rfl):PE X (.Call (.Name x pp) (e::es) [] pos) (ξ p (Zao C sp dvs E t)):=by rintro a s g H Q I ⟨l,h⟩;refine eU (Ji I u n ?_ c);refine gf (h₀:=X.base) I.ok.mod.v8 M.kp (lY (N pos a s g H _ I h) λW s1 P=>?_) y b;obtain⟨T,H1,d,r,q⟩:=P;refine ⟨d.nE,?_⟩;exact OH M F j L z (i.at l) d r q
end
structure XR(K:af)(C:G):Prop where
 ga:a_ K (.ref C) "__getattribute__"=O (O (.builtin "BaseException.__getattribute__"))
 gg:a_ K (.ref C) "__getattr__"=O B
 hd:gG K C=true
 be:js K C (.type "BaseException")=O true
section
variable {prog:a9}{w:bg}{A:bU}{E:Z->ao->Prop}{K:af}{s:ao}{x C d:G}{o:eN}{mA:U->Option Z}{f:U}{v:Z}{expr:Bool}{Q:Z->ao->Prop}
def zd(X:K.In s.heap)(r:XR K C)(p:s.heap.get? x=O o)(N:o.cls=.ref C)(b:∃i,o.data=.fields i)(c:o.dict=O d)(z:s.heap.Ns1 d mA)(P:a_ K (.ref C) f=O B)(q:mA f=O v)(L:kU v=true)(h:Q v {s with toks:=s.toks+1}):aI (aZ prog w) A (getAttr (.ref x) f expr) Q E s:=by
 obtain⟨l,y,H⟩:=QL z;have n:jR o=true:=by obtain⟨i,e⟩:=b;unfold jR;rw[e]
 have I:lT s.heap x o C (O l):=⟨p,N,n,by rw[c];exact y⟩;have j:=PySem.F.attrBase_ValueError;obtain⟨u,g,dr,t,os⟩:=s;have a:=I.type (M:=aZ prog w);have L1:=iI (M:=aZ prog w) X r.ga;have L2:=iI (M:=aZ prog w) X r.gg;have T:=PySem.W.looks_find (M:=aZ prog w) X I (PySem.W.findObj_own r.hd P Y (by rw[H,q]));have sub:PySem.W.Looks (aZ prog w) u (lQ (.ref x) (.type "BaseException")) true:=a.andThen (PySem.W.looks_mroIn X r.be);unfold getAttr getAttrBy;refine ae (wpAny_mkText (bL (ae (a.at (ae (L1.at ?_))))));show aI _ _ (if(onTheHeap (aN C)&&Value.builtin "BaseException.__getattribute__"==Value.builtin "object.__getattribute__")=true then _ else _) _ _ _;rw[zG zE];unfold getAttrByItsOwn hookBefore;rw[zH (show onTheHeap (aN C)=true from rfl)];refine ae (L2.at ?_);refine ae (gP (bL ?_));unfold callGetattribute;rw[zG (show ¬((expr&&onTheHeap (Value.builtin "BaseException.__getattribute__"))=true)from by cases expr<;>simp[onTheHeap])];unfold boundAndCalled;rw[j.ga.bind];refine ae (aE ?_);refine jB (codeAny_call_builtin j.ga.plain PySem.F.entry_bexc_ga (@PySem.W.check_slot (aZ prog w) _ _ _ "BaseException.__getattribute__" "BaseException" "__getattribute__" (.ref x) [.str f t] [] _ zC zC sub (PySem.F.args_bexc_ga (.ref x) (.str f t)) ?_));unfold fX.«object.__getattribute__»;refine ae (aE (ae (aE (ae (a.at (ae (T.at (aE ?_))))))));show aI _ _ (handedOut v) _ _ _;rw[PySem.W.handedOut_of L];exact aE h
end
def AD(H:Hp)(a C d:G):Prop:=(∃b,H a=O (oS b a C (O d)))\/H a=O (mS a C (O d))
def AD.obj     (e:AD H a C d)(ok:ox P w H h):∃o b,h.get? a=O o/\o.cls=.ref C/\o.dict=O d/\o.data=.fields b:=by
 rcases e with e|e
 .obtain⟨j,e⟩:=e;obtain⟨o,b,i,g,f,c,_⟩:=RK.mp (ok a _ e);exact⟨o,b,i,g,f,c⟩
 .obtain⟨o,b,i,g,f,c,_⟩:=XU.mp (ok a _ e);exact⟨o,b,i,g,f,c⟩
def QB(K:af)(g:TE)(f:U):TE:=λc H Q=>g c H λx b=>∃a C d fs v,x=.ref a/\AD b a C d/\b d=O (XD d fs)/\XR K C/\YL K C f/\fs.lookup f=O v/\Q v b
section
variable {X:Cx}{o:bV}{ta:TE}{f:U}{pos:iG}
def Rx(F:PE X o ta)(E:fD o f X.env (cM o X.env)=cM o X.env:=by rfl):PE X (.Attribute o f pos) (QB X.K ta f):=by intro b s j H Q I h;refine LW E (lY (F b s j H _ I h) λw s1 L=>?_);obtain⟨x,H1,g,t,a,C,d,fs,v,W,ea,ed,c,n,l,q⟩:=L;subst W;obtain rfl:w=aN a:=t;obtain⟨ob,p,T,P,N,M⟩:=ea.obj g.lI;obtain⟨z,y,r,_⟩:=Kx.mp (g.lI d _ ed);obtain⟨u,A,i⟩:=nW.some_of (v:=v) (o:=z f) (by rw[<-l];exact r f);exact zd g.nE c T P ⟨p,M⟩ N y n A (QR i) ⟨v,H1,g.tok _,i,q⟩
end
section
variable {P:a9}{w:bg}{K:af}{J:U->Option Z}{S:bC}
def rQ.z8{x b:U}{st:b_}{f:G}{l:fe}{N h:List U}{k:Nat}{sp:Sp}(F:rQ K x b st f l)(n:ia N h (Ze st))(len:∀d H Q E,sp d H Q E->d.length=h.length)(g:∀(c:Z)(A:bU)(a:List jI)(s:ao)(H:Hp)(d:List V)(Q:VK)(E:XK),l9 k (A.deeper (f_ b (Ze st) s.heap.objs.size f c))->sp d H Q E ->∃t,qg (nr (oV P w) P w K J S N b (Ze st) f c A a s H E) (ZT st) t/\t {nx:=λ_ p=>Q .non p,rt:=Q} (start N d) H):m7 P w K J S (oV P w) (k+1) f l h sp:=by obtain⟨z,y,kV,r,u,I,c,C,q,rfl,lk,j⟩:=F.ex;exact IH lk j n len λA a s H d Q E o i=>g c A a s H d Q E o i
def oU(P:a9)(w:bg)(K:af)(J:U->Option Z)(S:bC)(k:Nat)(x:U)(a:List U)(sp:Sp):Prop:=∃f b,m7 P w K J S (oV P w) k f b a sp/\J x=O (.ref f)/\cb K (.ref f)=true/\Binds K b a []
theorem oU.mono{j k:Nat}  (C:oU P w K J S j x a sp)(h:j<=k):oU P w K J S k x a sp:=by obtain⟨f,b,F,r⟩:=C;exact⟨f,b,F.mono h,r⟩
def Df.uq{x:U}{st:b_}{N i:List U}{k:Nat}{sp:Sp}(l:Df K J x st i)(j:ia N i (Ze st))(len:∀d H Q E,sp d H Q E->d.length=i.length)(g:∀(f:G)(c:Z)(A:bU)(a:List jI)(s:ao)(H:Hp)(d:List V)(Q:VK)(E:XK),l9 k (A.deeper (f_ x (Ze st) s.heap.objs.size f c))->sp d H Q E ->∃t,qg (nr (oV P w) P w K J S N x (Ze st) f c A a s H E) (ZT st) t/\t {nx:=λ_ p=>Q .non p,rt:=Q} (start N d) H):oU P w K J S (k+1) x i sp:=by obtain⟨f,o,F,m,b⟩:=l;exact⟨f,o,F.z8 j len (λc A a s H d Q E n h=>g f c A a s H d Q E n h),m,F.kp,b⟩
end
section
variable {X:Cx}{E:XK}
def Xv{k:Nat}   {e:bV}{a:List bV}(C:oU X.prog X.w X.K X.mg X.base k x q sp)(i:Yx (oV X.prog X.w) X E)(j:l9 k X.A)(l:Gl X x)(o:PA X (e::a) t)(g:(x==("__debug__":U))=false:=by decide)(n:bf (e::a) X.env=(false,cM e X.env)::bf a X.env:=by rfl)(d:(eh c (bf a X.env)).any (·.1)=false:=by rfl):PE X (.Call (.Name x p) (e::a) [] c) (Ui sp [] E t):=by obtain⟨f,r,F,m,h,b⟩:=C;exact Lo F j l m h b .nil i o g n d
end
def Pe(C:G)(c:List U):Sp:=λh H Q _=>∃a g,h=.ref a::g/\g.length=c.length/\H a=O (mS a C B) /\∀f d,d≠a->H d=B->f a=O (mS a C (O d))->f d=O (XD d (c.zip g))->(∀b,b≠a->b≠d->f b=H b)->Q .non f
structure wR(P:a9)(w:bg)(K:af)(J:U->Option Z)(S:bC)(x:U)(names:List U)(C:G):Prop where
 xc:∃fI Qa fd ps,XC K C fI Qa/\m7 P w K J S qf 1 fI fd ps (Pe C names)/\ps.length<=1000/\Binds K fd ps []
 xr:XR K C
 mg:J x=O (.ref C)
 kp:cb K (.ref C)=true
section
variable {X:Cx}{E:XK}{x:U}{names:List U}{C:G}{p mR pos:iG}{e:bV}{es:List bV}{t:TA}
def Oa(C:G)(names:List U)(t:TA)(E:XK):TS:=λ_ g H=>t g H λc f=>c.length=names.length/\∀a d,f d=B->a d=O (XD d (names.zip c))->(∀b,b≠d->a b=f b)->E (.ref C) (O d) a
def Xm(M:wR X.prog X.w X.K X.mg X.base x names C)(hx:Yx (oV X.prog X.w) X E)(g:X.calm=true)(hr:l9 2 X.A)(hg:Gl X x)(ha:PA X (e::es) t)(ah:(x==("__debug__":U))=false:=by decide)(he:bf (e::es) X.env=(false,cM e X.env)::bf es X.env:=by rfl)(ab:(eh mR (bf es X.env)).any (·.1)=false:=by rfl):PS X (.Raise (O (.Call (.Name x p) (e::es) [] mR)) B pos) (Oa C names t E):=by
 obtain⟨fI,Qa,fd,ps,xc,F,hn,P⟩:=M.xc;intro f s σ H zB I h;rw[arm_exec_Raise];refine ae (gb ?_);refine Dk (K:=X.K) (I.ok.hd g) (ae (dQ (eU (Ji I hg M.mg ?_ ah)) (λu n q=>ae (gb (aE q))) λ_ _ z=>z));refine gf (h₀:=X.base) I.ok.mod.v8 M.kp (lY (ha mR f s σ H _ I h) λus n hZ=>?_) he ab;obtain⟨l,H1,I1,r,hl,q⟩:=hZ;refine ⟨I1.nE,?_⟩;refine lY (Di (k:=1) (E:=E0) (Q:=λv L=>∃a d i,v=.ref a/\L a=O (mS a C (O d))/\del L a=i/\E (.ref C) (O d) i) (dvs:=[]) (ds:=[]) xc F hr P .nil Ul I1 r ?_ λa ai=>?_) λu s2 q2=>?_
 .rw[g_];have e1:=r.length;have e2:=F.len (.ref n.heap.objs.size::l) (upd H1 n.heap.objs.size (mS n.heap.objs.size C B)) (λ_ _=>True) E0 ⟨_,l,Y,hl,Zc ..,λ_ _ _ _ _ _ _=>trivial⟩;rw[aB]at e2;have e3:us.length=l.length:=e1.symm;show us.length<=_;omega
 .rw[bj];refine⟨a,l,Y,hl,Zc ..,λi d j N T h2 h3=>⟨Y,a,d,_,Y,T,Y,q (del i a) d ?_ ?_ ?_⟩⟩
  .rwa [Zk j]at N
  .rw[YJ j];exact h2
  .intro b P;by_cases c:b=a
   .rw[c,Xz,ai]
   .rw[YJ c,h3 b c P,Zk c]
 .obtain⟨v,L,y,rv,a,d,i,ev,ea,eH,hE⟩:=q2;subst ev;obtain rfl:u=aN a:=rv;obtain⟨o,W,aa,hc,ak,N,hz,T⟩:=XU.mp (y.lI a _ ea);exact⟨a,o,C,fI,Qa,W,Y,xc,y.nE,aa,hc,N,T.1,hx f σ L s2 _ s2 y (raised y ea (by rw[eH];exact hE))⟩
end
noncomputable def Vd(f v:U)(p1 p2 b a:iG):b_:=.Assign [.Attribute (.Name mG p1) f p2] (.Name v b) a
def Xu  (a:ia N c b){x:U}(h:x∈c):yC b x:=by
 rcases a.par x h with z|z
 .exact .inl z
 .exact .inr (.inl z)
section
variable {P:a9}{w:bg}{K:af}{J:U->Option Z}{S:bC}{fI C Qa:G}{fd:fe}{qual f1 v1 f2 v2 f3 v3:U}{st:b_}{p1 p2 p3 p4 q1 q2 q3 q4 r1 r2 r3 r4:iG}
def Vg(x:U):Prop:=(x==("__debug__":U))=false/\(x==("__classdict__":U))=false
def ZaH(F:rQ K "__init__" qual st fI fd)(f:ia [mG,v1,v2] [mG,v1,v2] (Ze st))(M:ZT st=[Vd f1 v1 p1 p2 p3 p4,Vd f2 v2 q1 q2 q3 q4])(j:Vg v1)(g:Vg v2)(r:XC K C fI Qa)(I:YL K C f1)(x:YL K C f2)(p:f1≠f2):m7 P w K J S qf 1 fI fd [mG,v1,v2] (Pe C [f1,f2]):=by
 refine F.ok (k:=0) f (λu H Q E h=>?_) λT A q s H u Q E W h=>?_
 .obtain⟨a,t,rfl,o,_⟩:=h;rw[aB,o];rfl
 .obtain⟨a,t,rfl,o,N,k⟩:=h;obtain⟨y,z,rfl⟩:=p_ o;rw[M];refine⟨_,Zb (Ru (Xj (i:=0) Y (Xu f zE) D D) (Xj (i:=1) Y (Xu f zE) j.1 j.2) Y) (Zi (NO (Xj (i:=0) Y (Xu f zE) D D) (Xj (i:=2) Y (Xu f zE) g.1 g.2) Y)),?_⟩;refine⟨y,Y,.ref a,Y,a,C,fI,Qa,Y,N,r,I,λd c L=>?_⟩;refine⟨z,Y,.ref a,Y,a,C,fI,Qa,d,[(f1,y)],Y,Zc ..,by rw[Zk c,Zc],c,zE,r,x,?_⟩;refine k _ d c L (Zc ..) ?_ λb n l=>by rw[Zk n,Zk l,Zk n,Zk l]
  rw[Zk c,Zc];show O (XD d (lZ f2 z [(f1,y)]))=_;simp[lZ,p]
def ZaG(F:rQ K "__init__" qual st fI fd)(f:ia [mG,v1,v2,v3] [mG,v1,v2,v3] (Ze st))(hb:ZT st=[Vd f1 v1 p1 p2 p3 p4,Vd f2 v2 q1 q2 q3 q4,Vd f3 v3 r1 r2 r3 r4])(o:Vg v1)(n:Vg v2)(l:Vg v3)(q:XC K C fI Qa)(W:YL K C f1)(T:YL K C f2)(N:YL K C f3)(p:f1≠f2)(x:f1≠f3)(t:f2≠f3):m7 P w K J S qf 1 fI fd [mG,v1,v2,v3] (Pe C [f1,f2,f3]):=by
 refine F.ok (k:=0) f (λM H Q E h=>?_) λaa A I s H M Q E hr h=>?_
 .obtain⟨a,L,rfl,r,_⟩:=h;rw[aB,r];rfl
 .obtain⟨a,L,rfl,r,hH,k⟩:=h;obtain⟨y,z,u,rfl⟩:=sf r;rw[hb];refine⟨_,Zb (Ru (Xj (i:=0) Y (Xu f zE) D D) (Xj (i:=1) Y (Xu f zE) o.1 o.2) Y) (Zb (NO (Xj (i:=0) Y (Xu f zE) D D) (Xj (i:=2) Y (Xu f zE) n.1 n.2) Y) (Zi (NO (Xj (i:=0) Y (Xu f zE) D D) (Xj (i:=3) Y (Xu f zE) l.1 l.2) Y))),?_⟩;refine⟨y,Y,.ref a,Y,a,C,fI,Qa,Y,hH,q,W,λd c X=>?_⟩;refine⟨z,Y,.ref a,Y,a,C,fI,Qa,d,[(f1,y)],Y,Zc ..,by rw[Zk c,Zc],c,zE,q,T,?_⟩;refine⟨u,Y,.ref a,Y,a,C,fI,Qa,d,lZ f2 z [(f1,y)],Y,Zc ..,by rw[Zk c,Zc],c,by simp[lZ,p],q,N,?_⟩;refine k _ d c X (Zc ..) ?_ λb j g=>by rw[Zk j,Zk g,Zk j,Zk g,Zk j,Zk g]
  rw[Zk c,Zc];show O (XD d (lZ f3 u (lZ f2 z [(f1,y)])))=_;simp[lZ,p,x,t]
end
structure yP(K:af)(J:U->Option Z)(x:U)(C fI Qa:G):Prop where
 xc:XC K C fI Qa
 xr:XR K C
 xb:XB K C
 mg:J x=O (.ref C)
 kp:cb K (.ref C)=true
section
variable {K:af}{σ:St}{H:Hp}{Q:VK}{i:Nat}{n:Int}{p:G}{xs:List V}{v:V}
def xw(b:H p=O (.lst xs))(c:oY xs n=O v)(k:Q v H)(a:σ[i]?=O (O (.ref p)):=by rfl):ua (vg K) (mI i) (tC (.int n)) σ H Q:=⟨_,a,p,xs,n,v,Y,Y,jw.of b,c,k⟩
def iaT(b:H p=O (.tup xs))(c:oY xs n=O v)(k:Q v H)(a:σ[i]?=O (O (.ref p)):=by rfl):ua (ue K) (mI i) (tC (.int n)) σ H Q:=⟨_,a,p,xs,n,v,Y,Y,lR.of b,c,k⟩
def rA(j:Nat)(b:H p=O (.lst xs))(c:xs[j]?=O v)(k:Q v H)(a:σ[i]?=O (O (.ref p)):=by rfl):ua (vg K) (mI i) (tC (.int j)) σ H Q:=xw b (Zy c) k a
def H_(j:Nat)(b:H p=O (.tup xs))(c:xs[j]?=O v)(k:Q v H)(a:σ[i]?=O (O (.ref p)):=by rfl):ua (ue K) (mI i) (tC (.int j)) σ H Q:=iaT b (Zy c) k a
def vj  {sp:Sp}{a:List V}{b:TA}(f:H t=O (.ins C h fs))(g:fs.lookup m=B)(k:b σ H λc j=>sp (.ref t::(c++a)) j Q E)(d:σ[i]?=O (O (.ref t)):=by rfl):QC C m sp a E (mI i) b σ H Q:=⟨_,d,t,h,fs,Y,f,g,k⟩
end
section
variable {X:Cx}{a b e:bV}{es:List bV}{ta tb te:TE}{t:TA}{pos:iG}
noncomputable def Y5:bV->Bool
|.Starred ..=>false
|_=>true
def Wu (h:Y5 e=true):bf (e::es) c=(false,cM e c)::bf es c:=by cases e<;>first|rfl|cases h
def Za(f:PE X e te)(c:PA X es t)(d:Y5 e=true:=by rfl):PA X (e::es) (Yg te t):=Zj f c (Wu d)
def me(d:PE X e te)(c:Y5 e=true:=by rfl):PA X [e] (Yg te mq):=Za d Zg c
def o7(f:PE X e te)(d:PE X a ta)(c:(Y5 e&&Y5 a)=true:=by rfl):PA X [e,a] (Yg te (Yg ta mq)):=Za f (me d (fR.mp c).2) (fR.mp c).1
def qX(g:PE X e te)(f:PE X a ta)(d:PE X b tb)(c:(Y5 e&&(Y5 a&&Y5 b))=true:=by rfl):PA X [e,a,b] (Yg te (Yg ta (Yg tb mq))):=Za g (o7 f d (fR.mp c).2) (fR.mp c).1
def mH(i:Nat){x:U}(hN:X.N.Nodup)(d:X.N[i]?=O x:=by rfl)(c:Loc X.env.scope x:=by exact dD Y)(f:X.fn x=true\/X.env.scope.names.lookup x=O .local:=by first|exact .inl Y|exact .inr Y|assumption):PG X (.Name x pos) (Vu i):=Gq hN d c f
def il(K:af)(d:PE X a ta)(c:PE X b tb)(f:X.K=K:=by rfl)(hs:RS b:=by exact λ_ _=>rfl):PE X (.Subscript a b pos) (ua (vg K) ta tb):=by subst f;exact Yh OO d c hs
def it(K:af)(d:PE X a ta)(c:PE X b tb)(f:X.K=K:=by rfl)(hs:RS b:=by exact λ_ _=>rfl):PE X (.Subscript a b pos) (ua (ue K) ta tb):=by subst f;exact Yh Yl d c hs
def cn{k j:Nat}   (C:l8 X.prog X.w X.K X.mg X.base k x l sp)(f:l9 j X.A)(i:PA X (e::es) t)(hk:k<=j:=by decide)(g:Gl X x:=by rfl)(d:(x==("__debug__":U))=false:=by decide)(h:bf (e::es) X.env=(false,cM e X.env)::bf es X.env:=by rfl)(c:(eh pos (bf es X.env)).any (·.1)=false:=by rfl):PE X (.Call (.Name x p) (e::es) [] pos) (Ui sp [] E0 t):=Z9 C (f.mono hk) g i d h c
def st(i:Nat){x:U}{p:iG}(hN:X.N.Nodup)(g:PE X e te)(d:X.N[i]?=O x:=by rfl)(c:Loc X.env.scope x:=by exact dD Y)(hs:jA e (O (.Name x p)) pos.line X.env=pure false:=by rfl)(f:X.fn x=true\/X.env.scope.names.lookup x=O .local:=by first|exact .inl Y|exact .inr Y):PS X (.Assign [.Name x p] e pos) (u9 te (Vu i)):=Yv hN d c g hs f
end
def l9.m{j k:Nat}(r:l9 k A)(h:j<=k:=by decide):l9 j A:=r.mono h
def zl{n:Nat}(h:Nat.ble n 1000=true:=by rfl):n<=sizeLine:=aj (eI h) D
def gE{a:Type}{l:List a}{i:Nat}(h:i<l.length):l[i]?=O l[i]:=List.getElem?_eq_getElem h
def lm{a b:Type}{f:a->b}{l:List a}:(l.map f).length=l.length:=bH f
def nc{N P:List U}{a:dh}(h:a.kind=.function/\a.isCoroutine=false/\a.isGenerator=false/\N.Nodup/\N.take P.length=P/\(∀x∈P,a.names.lookup x=O .local\/a.names.lookup x=O .cell)/\∀y∈a.names,y.2≠.free:=by decide +kernel):ia N P a:=⟨h.1,h.2.1,h.2.2.1,h.2.2.2.1,h.2.2.2.2.1,h.2.2.2.2.2.1,h.2.2.2.2.2.2⟩
noncomputable def pL(l:List (U×gZ)):dh:={kind:=.function,names:=l,isGenerator:=false,isCoroutine:=false,more:=[]}
section
variable {P:a9}{w:bg}{K:af}{J:U->Option Z}{S:bC}{x:U}{st:b_}{N ps:List U}{k:Nat}{sp:Sp}
def Df.cn(i:Df K J x st ps)(g:ia N ps (Ze st))(j:∀(f:G)(d:Z)(A:bU)(b:List jI)(s:ao)(H:Hp)(c:List V)(Q:VK)(E:XK),l9 k (A.deeper (f_ x (Ze st) s.heap.objs.size f d))->sp c H Q E->∃t,qg (nr qf P w K J S N x (Ze st) f d A b s H E).wG (ZT st) t/\t {nx:=λ_ l=>Q .non l,rt:=Q} (start N c) H)(len:∀c H Q E,sp c H Q E->c.length=ps.length:=by intro _ _ _ _ h;repeat (obtain⟨a,h⟩:=h;first|(subst a;rfl)|skip)):l8 P w K J S (k+1) x ps sp:=i.ur g len j
def Df.xF(i:Df K J x st ps)(g:ia N ps (Ze st))(j:∀(f:G)(d:Z)(A:bU)(b:List jI)(s:ao)(H:Hp)(c:List V)(Q:VK)(E:XK),l9 k (A.deeper (f_ x (Ze st) s.heap.objs.size f d))->sp c H Q E->∃t,qg (nr (oV P w) P w K J S N x (Ze st) f d A b s H E) (ZT st) t/\t {nx:=λ_ l=>Q .non l,rt:=Q} (start N c) H)(len:∀c H Q E,sp c H Q E->c.length=ps.length:=by intro _ _ _ _ h;repeat (obtain⟨a,h⟩:=h;first|(subst a;rfl)|skip)):oU P w K J S (k+1) x ps sp:=i.uq g len j
end
def tq{a b:TS}  (h:∀f:Ends,(∀c d,b i c d->f.nx c d)->a f g H):rY a b i g H:=h _ λ_ _ x=>x
def tQ{a:St}{p:(Nat->Option V)->St}(h:a=p λi=>a.getD i B):∃o,a=p o:=⟨_,h⟩
def td{a:TS}{c:Ends} (h:∀f:Ends,(∀b d,c.nx b d->f.nx b d)->a f g H):a c g H:=h _ λ_ _ x=>x
def uS{a b:TS}  (h:∀f:Ends,(∀d c,b g d c->f.nx d c)->(∀v c,g.rt v c->f.rt v c)->a f i H):rY a b g i H:=h _ (λ_ _ x=>x) (λ_ _ x=>x)
def Je(K:af)(w:bg)(a:G)(z:U)(v:V):Prop:=∃b n u,K.lookup a=O ⟨.type "dict",B,.dict b n,#[]⟩/\iO w.params b.toList/\br K a z=O (O u)/\RelV v u
def Zaq(K:af)(w:bg)(td ty:TE):TE:=λb H Q=>td b H λx d=>ty b d λy c=>∃a z v,x=.ref a/\y=.str z/\Je K w a z v/\Q v c
section
variable {X:Cx}{o i:bV}{td ty:TE}{pos:iG}
def NS(E:PE X o td)(M:PE X i ty)(hs:xQ i):PE X (.Subscript o i pos) (Zaq X.K X.w td ty):=by intro b s d H Q I h;refine KO PySem.F.slot_dict_getitem.lookup hs (lY (E b s d H _ I h) λu l c=>?_);obtain⟨x,H1,T,q,C⟩:=c;refine lY (M b l d H1 _ T C) λiv s2 c=>?_;obtain⟨y,H2,j,p,a,z,v,P,N,⟨es,n,u',g,hk,L,r⟩,A⟩:=c;subst P N;obtain rfl:u=aN a:=q;obtain⟨t,rfl⟩:=(show ∃t,iv=iH z t from p);have f:=ll (prog:=X.prog) j.nE g hk;exact⟨f.typeIs,wpAny_getItem_of (strKind_is X.prog X.w z t) f (PySem.W.find_K g L) ⟨v,H2,j.tok _,r,A⟩⟩
end
open PySem.AutoSeq1 (wpAny_loadPart')
section
variable {prog:a9}{w:bg}{A:bU}{E:Z->ao->Prop}{s:ao}
def OC{it t:G}{i:Nat}{a:Array Z}{x:Z}{Q:Z->ao->Prop}(b:s.heap.IsTupleIter it t i)(l:s.heap.IsTuple t a)(j:a[i]?=O x)(p:∀f,f.IsTupleIter it t (i+1)->gk it s.heap f->Q x {s with heap:=f}):aI (aZ prog w) A (bE (.ref it)) Q E s:=by obtain⟨o,d,n,c⟩:=id b;obtain⟨q,g,_,nl,h⟩:=id l;unfold bE;refine ae (dC (name:=bh "__next__") b.typeIs F.slot_tuple_iterator_next (eS F.slot_tuple_iterator_next b.typeIs F.entry_tuple_iterator_next ?_ (F.args_tuple_iterator_next_1 _)));show aI (aZ prog w) _ (kR (.ref it) 0 >>= _) _ _ s;refine ae (bG (x:=.ref t) d c Y ?_);show aI (aZ prog w) _ (if(aN t==b9)=true then _ else _) _ _ s;rw[zG (by exact aW)];show aI (aZ prog w) _ (kR (.ref it) 1 >>= _) _ _ s;refine ae (bG (x:=.int i 0) d c Y ?_);show aI (aZ prog w) _ (seqItems? (.ref t) >>= _) _ _ s;refine ae (eB g h ?_);simp only[j,cw];refine ae (ff d c zE (aE ⟨x,Y,aE (p _ ⟨_,bF _ d (iJ (ik c _)),(Obj.cls_mapFields ..).trans n,by rw[ik c];simp[dU]⟩ (gI ..))⟩))
def FC{it t:G}{i:Nat}{b:Array Z}{Q:Z->ao->Prop}(l:A.handled=B)(c:s.heap.IsTupleIter it t i)(p:s.heap.IsTuple t b)(n:b[i]?=B)(q:∀g e,Heap.ExtBut it s.heap g->(∃o,g.get? e=O o/\o.cls=.type "StopIteration")->E (.ref e) {s with heap:=g}):aI (aZ prog w) A (bE (.ref it)) Q E s:=by
 obtain⟨o,d,u,f⟩:=id c;obtain⟨r,h,_,nl,j⟩:=id p;unfold bE;refine ae (dC (name:=bh "__next__") c.typeIs F.slot_tuple_iterator_next (eS F.slot_tuple_iterator_next c.typeIs F.entry_tuple_iterator_next ?_ (F.args_tuple_iterator_next_1 _)));show aI (aZ prog w) _ (kR (.ref it) 0 >>= _) _ _ s;refine ae (bG (x:=.ref t) d f Y ?_);show aI (aZ prog w) _ (if(aN t==b9)=true then _ else _) _ _ s;rw[zG (by exact aW)];show aI (aZ prog w) _ (kR (.ref it) 1 >>= _) _ _ s;refine ae (bG (x:=.int i 0) d f Y ?_);show aI (aZ prog w) _ (seqItems? (.ref t) >>= _) _ _ s;refine ae (eB h j ?_);simp only[n,cw];refine ae (lO (ae (ff d f zE ?_)));show aI (aZ prog w) _ (newExc (.type "StopIteration") [] >>= _) _ _ _;refine ae ?_;simp only[newTuple,newExc];refine ae (fh (ae (m:=firstArgMember _ _) (wpAny_of_eq (a:=b9) (by first|rfl|(simp only[firstArgMember];rfl)) (fh ?_ (by size_fits)))) (by size_fits))
 simp only[raiseNew];refine ae (wpAny_handled ?_);first|rw[show A.in1.handled=B from l]|rw[l]
 refine ae (aE (wpAny_throw ?_));exact q _ _ (((gI ..).extBut.push _).push _) ⟨_,aR _ Y,Y⟩
end
def DK{prog:a9}{w:bg}{A:bU}(p:A.handled=B)(it t:G)(g:t≠it)(a:Array Z):
  Draws prog w A it [it,t] a.size (λi v=>a[i]?=O v) (λi h=>h.IsTupleIter it t i/\h.IsTuple t a) where
 live:=λ_ _ st=>by obtain⟨⟨o,d,_⟩,_⟩:=st;exact⟨o,d⟩
 frame:=λ_ _ _ st hk=>by
  obtain⟨⟨o,d,r⟩,⟨j,f,n⟩⟩:=st
  exact⟨⟨o,hk it zE o d,r⟩,⟨j,hk t zE j f,n⟩⟩
 item:=λi s Q E l st q=>OC st.1 st.2 (x:=a[i]) (by simp[l]) λy c b=>q _ y s.toks (by simp[l]) ⟨c,st.2.extBut b.extBut g⟩ b
 done:=λs Q E st u=>FC p st.1 st.2 zE u
structure sD(P:a9)(w:bg)(K:af)(it:G)(f:List G)(zu:Nat->bC->Prop)(zr:Hp->List V->Prop):Prop where
 obj:∀i h,zu i h->∃o,h.get? it=O o/\∀v,o.data≠.cell v
 keep:∀i h h',zu i h->(∀o,h.get? it=O o->h'.get? it=O o)->zu i h'
 dr:∀(X:Cx),X.prog=P->X.w=w->X.K=K->X.calm=true->∀pins s σ H,Inv X pins σ H s->∀xs,zr H xs->(∀ys,zr H ys->ys=xs)/\∃Pv S',Draws P w X.A.in1 it f xs.length Pv S'/\(∀k,zu k s.heap->S' k s.heap)/\(∀k h,S' k h->zu k h)/\∀k u a,Pv k u->xs[k]?=O a->RelV a u
section
variable {P:a9}{w:bg}{K:af}{it l:G}
def SD(g:l≠it):sD P w K it [it,l] (λi h=>h.IsListIter it l i) λH n=>H l=O (.lst n) where
 obj:=λ_ _⟨o,f,_,d⟩=>⟨o,f,λv z=>by rw[d]at z;cases z⟩
 keep:=λ_ _ _⟨o,f,r⟩k=>⟨o,k o f,r⟩
 dr:=λX M E N F y s Q H I n t=>by
  subst M E N
  obtain⟨b,p,C,_⟩:=I.list (jw.of t)
  have j:=Draws.list (prog:=X.prog) (w:=X.w) (A:=X.A.in1) (I.ok.hd F) it l g b.toArray
  rw[aQ,<-p.length]at j
  refine⟨λT q=>by rw[t]at q;cases q;rfl,_,_,j,λk h=>⟨h,C.isList⟩,λk h z=>z.1,λk u a c L=>?_⟩
  obtain⟨u2,x,r⟩:=p.get L
  have c:b[k]?=O u:=by simpa using c
  rw[c]at x
  cases x
  exact r
def SA{p:Hp->List V->Prop}(j:∀H c,p H c->lR K H l c)(n:l≠it):sD P w K it [it,l] (λi h=>h.IsTupleIter it l i) p where
 obj:=λ_ _⟨o,g,_,d⟩=>⟨o,g,λv z=>by rw[d]at z;cases z⟩
 keep:=λ_ _ _⟨o,g,r⟩k=>⟨o,k o g,r⟩
 dr:=λX Q L T M C s W H I c x=>by
  subst Q L T
  obtain⟨b,t,E,_⟩:=I.tuple (j _ _ x)
  have q:=DK (prog:=X.prog) (w:=X.w) (A:=X.A.in1) (I.ok.hd M) it l n b.toArray
  rw[aQ,<-t.length]at q
  refine⟨λys F=>I.rb (j _ _ F) (j _ _ x),_,_,q,λk h=>⟨h,E⟩,λk h z=>z.1,λk u a f N=>?_⟩
  obtain⟨u2,y,r⟩:=t.get N
  have f:b[k]?=O u:=by simpa using f
  rw[f]at y
  cases y
  exact r
noncomputable def rj(x:U):List V:=x.cps.toList.map λc=>.str ⟨#[c]⟩
def EX(x:U)(t:Tok):sD P w K it [it] (λi h=>h.IsStrIter it (jf x) x t i) λ_ n=>n=rj x where
 obj:=λ_ _⟨o,b,_,d⟩=>⟨o,b,λv z=>by rw[d]at z;cases z⟩
 keep:=λ_ _ _⟨o,b,r⟩k=>⟨o,k o b,r⟩
 dr:=λX F y M E p s L H I n q=>by
  subst F y q
  have j:=DL (P:=X.prog) (w:=X.w) (A:=X.A.in1) (I.ok.hd E) it x t
  rw[show x.cps.size=(rj x).length by simp[rj]]at j
  refine⟨λ_ h=>h,_,_,j,λ_ h=>h,λ_ _ h=>h,λk u a C f=>?_⟩
  obtain⟨c,v,g,rfl⟩:=C
  unfold rj at f
  rw[aT,show x.cps.toList[k]?=O c by simpa using g]at f
  cases f
  exact⟨v,Y⟩
end
noncomputable def yT(b:Hp->List V->Prop):It:=⟨λi H=>∃a,b H a/\i<a.length,λi H x c=>∃(T:G)(a:List V)(y:V),H T=B/\b H a/\a[i]?=O y/\x=.ref T/\c=upd H T (.tup [.int i,y]),λi H=>∃a,b H a/\i=a.length⟩
def Dd{P:a9}{w:bg}{K:af}{es:List bV}{k:Nat}{pt:iG}{e it:G}{f:List G}{zu:Nat->bC->Prop}{zr:Hp->List V->Prop}(M:sD P w K it f zu zr)(F:e≠it)(hf:e∉f)(hi:it∈f):
  Turn P w K (.Tuple es k pt) (yT zr) [e,it] e (λi h=>(∃j,IsEnum h e it i j)/\zu i h) where
 mem:=by simp
 obj:=λi h st b g=>by
  obtain⟨⟨j,d⟩,st⟩:=st
  have aa:b=e\/b=it:=by simpa using g
  rcases aa with rfl|rfl
  .exact⟨_,d,λv z=>by cases z⟩
  .exact M.obj _ _ st
 keep:=λi h h' st n=>⟨st.1.imp λ_ d=>n e zE _ d,M.keep _ _ _ st.2 λo ho=>n it zE o ho⟩
 item:=by
  intro X x t hK hc i a s σ H E I c st hg
  obtain⟨p,N,l⟩:=hg
  obtain⟨d,hs⟩:=st
  obtain⟨_,Pv,S',zB,d1,d2,d3⟩:=M.dr X x t hK hc a s σ H I p N
  have W:=WalksT.enumerateD zB e F hf hi
  subst x t
  refine W.item i s _ _ l ⟨d,d1 _ hs⟩ λT ab h' tk hv hT ht hm n=>?_
  obtain⟨ah,u,hu,rfl⟩:=hv
  refine⟨_,Y,W.go es k pt i T {s with heap:=h',toks:=tk} _ _ hm λh2 y C=>?_⟩
  have L:=W.apart i T h' hm
  obtain⟨o,h1,r⟩:=ht
  refine⟨.ref T,_,I.υ (xs:=[.int i,p[i]]) c (λb o g q=>C b o g (n b o g q)) hT (.cons ⟨_,Y⟩ (.cons (d3 _ _ _ hu (gE l)) .nil)) ⟨o,C _ _ L h1,r⟩ zl,Y,⟨T,p,_,I.lI.fresh hT,N,gE l,Y,Y⟩,⟨y.1,d2 _ _ y.2⟩,λb g=>?_⟩
  rw[Zk (λz=>L (by rw[<-z];exact g))]
  exact(c b g).1
 done:=by
  intro X x t hK hc i a s σ H E I c st hg
  obtain⟨p,N,rfl⟩:=hg
  obtain⟨_,Pv,S',zB,d1,_⟩:=M.dr X x t hK hc a s σ H I p N
  have W:=WalksT.enumerateD zB e F hf hi
  subst x t
  exact W.done s _ _ ⟨st.1,d1 _ st.2⟩ λh' tk n=>⟨Y,I.mv c n⟩
 self:=λA i s Q E st h=>by
  obtain⟨⟨j,d⟩,_⟩:=st
  exact wpAny_pyIter_enum d h
section
variable {X:Cx}{pins:List (G×eN)}{σ:List (Option V)}{H:Hp}{s:ao}{h':bC}{es:List bV}{k:Nat}{pt:iG}
def Tz{f:List G}{g:Nat->bC->Prop}{i:Hp->List V->Prop}{d:It->Hp->Prop}(I:Inv X pins σ H s)(n:sD X.prog X.w X.K s.heap.objs.size f g i)(t:∀b∈f,b<=s.heap.objs.size)(r:s.heap.objs.size∈f)(j:IsEnum h' (s.heap.objs.size+1) s.heap.objs.size 0 .none)(c:g 0 h')(p:∀b o,s.heap.get? b=O o->h'.get? b=O o)(q:d (yT i) H):aI (aZ X.prog X.w) X.A (pyIter (.ref (s.heap.objs.size+1))) (ε X pins σ (.Tuple es k pt) d) X.xe {s with heap:=h'}:=by
 refine wpAny_pyIter_enum j ⟨_,_,_,_,H,Y,I.kept (t':=s.toks) p,Dd n (Nat.succ_ne_self _) (λz=>Nat.not_succ_le_self _ (t _ z)) r,⟨⟨_,j⟩,c⟩,λb l=>?_,q⟩;have a:s.heap.objs.size<=b:=by
  simp at l;rcases l with h|h<;>rw[h]
  .exact iV _
  .exact aq _
 exact I.sk a (I.lI.fresh a)
end
def DJ(l:G)(a:Array Z)(n:Nat)(f:Option G)(r:Array (Option Z)):Meets (fX.«enumerate.__new__» ⟨[.type "enumerate",.ref l],[]⟩) (λ_ i s=>s.heap.get? l=O {cls:=.type "tuple",dict:=f,data:=.seq a n,slots:=r} /\i (.ok (.ret (.ref (s.heap.push {cls:=.type "tuple_iterator",data:=.fields #[.ref l,.int 0 0]}).objs.size))) {s with heap:=(s.heap.push {cls:=.type "tuple_iterator",data:=.fields #[.ref l,.int 0 0]}).push {cls:=.type "enumerate",data:=.fields #[.none,.bool false,.ref s.heap.objs.size,dU 0,.none,.none]}}):=.of_wp λo w A i s h=>by
  obtain⟨t,g,d,q,os⟩:=s;obtain⟨b,h⟩:=h;have p:=sub_enumerate;have j:Heap.IsTuple (Shared.heap ⟨t,g,d,q,os⟩) l a:=⟨_,b,Y,n,Y⟩;wp_walk using fV b;refine wpAny_stack_any λst=>aE ?_;split
  .rename_i c _ _ _ _ _;cases(c==fT "enumerate")<;>(wp_walk using fV b,iB j;exact⟨_,Y,h⟩)
  .wp_walk using fV b,iB j;exact⟨_,Y,h⟩
def Ko    {s:ao} {Q:Z->ao->Prop}(u:s.heap.IsTuple l a)(h:∀d,IsEnum d (s.heap.objs.size+1) s.heap.objs.size 0 .none->d.IsTupleIter s.heap.objs.size l 0->(∀b o,s.heap.get? b=O o->d.get? b=O o)->Q (.ref (s.heap.objs.size+1)) {s with heap:=d}):aI (aZ q w) A (call (.type "enumerate") [.ref l]) Q E s:=by
 obtain⟨⟨c,f,y,r⟩,t,p,n,j⟩:=u;simp only at p j;subst p j;refine callType_new F.called_enumerate D (F.typeCall_enumerate_1 _) (F.newCall_enumerate_1 _) (λobj=>F.args_object_init_2 obj _) F.entry_enumerate_new (DJ l a n f r) ⟨t,?_⟩;have g:(s.heap.push {cls:=.type "tuple_iterator",data:=.fields #[.ref l,.int 0 0]}).objs.size=s.heap.objs.size+1:=fZ ..;show _/\_;rw[g];have i:IsEnum ((s.heap.push {cls:=.type "tuple_iterator",data:=.fields #[.ref l,.int 0 0]}).push {cls:=.type "enumerate",data:=.fields #[.none,.bool false,.ref s.heap.objs.size,dU 0,.none,.none]}) (s.heap.objs.size+1) s.heap.objs.size 0 .none:=by have:=aR (s.heap.push {cls:=.type "tuple_iterator",data:=.fields #[.ref l,.int 0 0]}) (o:={cls:=.type "enumerate",data:=.fields #[.none,.bool false,.ref s.heap.objs.size,dU 0,.none,.none]}) Y;rwa [g]at this
 exact⟨⟨_,i,Y⟩,h _ i ⟨_,av _ (aR _ Y),Y,Y⟩ λb o x=>av _ (av _ x)⟩
noncomputable def xR(l:G):It:=yT λH a=>H l=O (.tup a)
section
variable {X:Cx}
def yv(g:TA):TI:=λb H c=>g b H λf a=>∃(l:G)(d:List V),f=[.ref l]/\a l=O (.tup d)/\c (xR l) a
def Gp{a:bV}{p c pt:iG}{k:Nat}(z:Gl X "enumerate")(y:X.mg "enumerate"=B)(C:PA X [a] o)(f:dj "enumerate"=O (.type "enumerate"))(hs:bf [a] X.env=[(false,cM a X.env)]:=by rfl):PI X (.Tuple es k pt) (.Call (.Name "enumerate" p) [a] [] c) (yv o):=by
 intro d s n H L I h;refine Call_ (Vl I z y f (c8 (lY (C c d s n H _ I h) λP Q E=>?_) hs Y));obtain⟨N,H1,g,t,l,M,e,j,q⟩:=E;subst e;obtain⟨u,rfl,r⟩:=vals1 t;cases r;obtain⟨F,T,w,_⟩:=g.tuple (lR.of j);have lt:=g.lI.lt j;refine Ko w λW A i x=>Tz g (SA (λ_ _=>lR.of) (bc lt)) (λb f=>?_) zE A i x q;simp at f;rcases f with rfl|rfl
 .exact aq _
 .exact eQ lt
end
def Qq:entryFor table "proto.unchain"=O fX.«proto.unchain»:=PySem.entryFor_of_tree (by kernel_rfl)
section
variable {prog:a9}{w:bg}{A:bU}{E:Z->ao->Prop}{s:ao}
def Qm{a:Result->ao->Prop}{v:Z}{b:eN}(d:s.heap.get? y=O b)(f:b.data=.fields c)(g:c[2]?=O .none)(h:a (.ok (.ret .none)) s):iK (aZ prog w) A (.builtin "proto.unchain" ⟨[v,.ref y,.ref y,.bool false],[]⟩) a s:=by refine gN Qq ?_;unfold fX.«proto.unchain»;refine ae (bG d f g ?_);rw[zH D];exact aE h
def Rq{c:Type}{Q:c->ao->Prop}{x y:G}{i g:eN}{f d:Array Z}(o:A.handled=O (.ref y))(a:y≠x)(l:s.heap.get? y=O g)(p:g.data=.fields d)(q:d[2]?=O .none)
  (n:s.heap.get? x=O i) (b:i.data=.fields f) (j:2<f.size) (h:E (.ref x) {s with heap:=s.heap.update x (cQ (·.setIfInBounds 2 (.ref y)))}):aI (aZ prog w) A (raiseNew (.ref x):Sem c) Q E s:=by
 unfold raiseNew
 refine ae (wpAny_handled ?_)
 rw[o]
 show aI _ _ (do
  if(aN y != aN x)=true then
   let _ <-jx [aN x] (runValue (.builtin "proto.unchain" ⟨[.ref x,.ref y,.ref y,.bool false],[]⟩))
   updateField x 2 (.ref y)
  throw (aN x)) Q E s
 rw[zH (by simp[a])]
 exact ae (bL (wpAny_runValue (Qm l p q (ae (show aI _ _ (setField (.ref x) 2 (.ref y)) _ _ _ from ff n b j (wpAny_throw h))))))
def WG{K:af}{aF:jI}{x c:Sem Z}{Q:Flow->ao->Prop}{y:G}(hh:A.handled=O (.ref y))(hc:∀s Q,Q .none s->aI (aZ prog w) A c Q E s)(h:aI (aZ prog w) A x (λv a=>∃e X C fI Qa f W T,v=.ref e/\XC K C fI Qa/\K.In a.heap/\a.heap.get? e=O X/\X.cls=.ref C/\X.data=.fields f/\f[1]?=O .none/\f.size=6/\y≠e/\a.heap.get? y=O W/\W.data=.fields T/\T[2]?=O .none /\E (.ref e) {a with heap:=((a.heap.update e (cQ (·.setIfInBounds 3 .none))).update e (cQ (·.setIfInBounds 4 (.bool true)))).update e (cQ (·.setIfInBounds 2 (.ref y)))}) E s):aI (aZ prog w) A (raiseStmt aF (O x) (O c)) Q E s:=by
 unfold raiseStmt;refine ae (dQ h (λv a L=>?_) λ_ _ x=>x);obtain⟨e,⟨oc,od,aa,r⟩,C,fI,Qa,f,W,T,rfl,cx,KI,M,aC,ak,h1,ar,u,hy,az,ah,hE⟩:=L;obtain rfl:oc=.ref C:=aC;obtain rfl:aa=.fields f:=ak;obtain⟨o,g,d,tk,os⟩:=a;obtain⟨nm,q,N,bs,sn,sub,ab,aS,dd,k0,k1,k2,k3,k5,lk,aM,aP⟩:=id cx.obj;have p:=KI _ _ lk;have H:(aN C::.ref Qa::qD).contains (.type "BaseException")=true:=by rw[gn,gn,show qD.contains (.type "BaseException")=true from by decide,iy,iy]
 refine ae (bL (hc _ _ (ae (aE ?_))));have ex:aI (aZ prog w) A (excFromValue (.ref e) "exceptions must derive from BaseException") (λv s=>v=.ref e/\s=⟨o,g,d,tk,os⟩) E ⟨o,g,d,tk,os⟩:=by
  unfold excFromValue;repeat (first|with_reducible refine cC M ?_|with_reducible refine cC p ?_|(with_reducible refine gm p ?_;rw[H])|wp_step)
  exact⟨Y,Y⟩
 refine ae (bL (dQ ex (λv s q=>?_) λ_ _ x=>x));obtain⟨rfl,rfl⟩:=q;generalize l:o.update e (cQ (·.setIfInBounds 3 b9))=i at hE;have F:i.get? e=O ⟨.ref C,od,.fields (f.setIfInBounds 3 .none),r⟩:=by rw[<-l];exact bF _ M Y
 have o1:∀b,b≠e->i.get? b=o.get? b:=λb P=>by rw[<-l];exact bq _ _ (dc P)
 generalize j:i.update e (cQ (·.setIfInBounds 4 (.bool true)))=t at hE;have n:t.get? e=O ⟨.ref C,od,.fields ((f.setIfInBounds 3 .none).setIfInBounds 4 (.bool true)),r⟩:=by rw[<-j];exact bF _ F Y
 have o2:∀b,b≠e->t.get? b=o.get? b:=λb P=>by rw[<-j];exact(bq _ _ (dc P)).trans (o1 b P)
 have nC:C≠e:=λz=>by rw[z,M]at p;cases p
 have I:=(o2 C nC).trans p;refine ae (aE ?_);refine ae (ff M Y zD ?_);rw[l];refine ae (ff F Y (by simp;omega) ?_);rw[j];have f1:((f.setIfInBounds 3 .none).setIfInBounds 4 (.bool true))[1]?=O .none:=by rw[di D,di D,h1]
 generalize ai:(f.setIfInBounds 3 .none).setIfInBounds 4 (.bool true)=vv at n f1;have zz:vv.size=6:=by rw[<-ai];simpa using ar
 repeat (first|with_reducible refine cC n ?_|with_reducible refine cC I ?_|(with_reducible refine gm I ?_;rw[H])|wp_step)
 rw[f1];refine aE ?_;rw[zG D];exact aE (Rq hh u ((o2 y u).trans hy) az ah n Y zD hE)
end
structure t6(P:a9)(w:bg)(K:af)(J:U->Option Z)(S:bC)(k:Nat)(f:G)(fd:fe)(ps:List U)(sp:Sp):Prop where
 len:∀vs H Q E,sp vs H Q E->vs.length=ps.length
 run:∀(A:bU)(e:Z)(outer:List jI)(s:ao)(H:Hp)(args:Args)(us:List Z)(vs:List V)(Q:VK),l9 k A->rK P w K J S A outer s H->BindsTo s fd args (ps.zip us)->Zt vs us->sp vs H Q E0 ->
  iK (aZ P w) (A.mark (O e)) (.call (.ref f) args) (CR qf outer P w H s Q E0) s
section
variable {P:a9}{w:bg}{K:af}{J:U->Option Z}{S:bC}
theorem rQ.qR{x c:U}{st:b_}{f:G}{fd:fe}{N L:List U}{k:Nat}{sp:Sp}(F:rQ K x c st f fd)(l:ia N L (Ze st))(len:∀h H Q E,sp h H Q E->h.length=L.length)(j:∀(g:Z)(A:bU)(e:Z)(a:List jI)(s:ao)(H:Hp)(h:List V)(Q:VK),l9 k (A.deeper (f_ c (Ze st) s.heap.objs.size f g))->sp h H Q E0 ->∃t,qg ((nr qf P w K J S N c (Ze st) f g A a s H E0).qR e) (ZT st) t/\t {nx:=λ_ z=>Q .non z,rt:=Q} (start N h) H):t6 P w K J S (k+1) f fd L sp:=by
 refine⟨len,λA e a s H args us h Q M p hb r C=>?_⟩;obtain⟨oc,od,kV,ai,pm,an,g,ct,ab,rfl,lk,aa⟩:=F.ex;have hl:=len _ _ _ _ C;have KX:K.In s.heap:=p.mod.v8.keeps λb o e=>(p.bs b o e).1;have X:s.heap.NoLimit:=p.mod.nolimit.keeps λb o e=>(p.bs b o e).1;have i:∀y∈L.zip us,(Ze st).names.lookup y.1=O .local\/((Ze st).names.lookup y.1=O .cell/\((cellsFrom (s.heap.objs.size+1) (Ze st).names []).lookup y.1).isSome=true):=λ⟨n,v⟩hy=>by
  rcases l.par n (gF hy).1 with q|q
  .exact .inl q
  .exact .inr ⟨q,jD _ _ _ (.inl q)⟩
 refine codeAny_call_function M.depth (KX _ _ lk) Y l.co l.gen Y (PySem.W.codeRec_of KX aa) (hb _ _ _ _ ?_);refine wpAny_newFunctionEnv_cells l.kind i λah he s1 x=>?_;subst he;refine⟨X.keeps x.toInCall.keep,codeAny_func ?_⟩;obtain⟨t,ht,hq⟩:=j g A e a s H h Q (M.deeper _) C;have I:=(QP (CX:=qf) (E:=E0) l M.hd p hl r x).qR e;refine dQ (ht [] s1 (start N h) H _ I hq) (λfl s' hs=>?_) λe s' hs=>cV hs;cases fl with
|ret u=>obtain⟨v,T,z,d,rv,q⟩:=hs;exact⟨v,z,d.os,d.bare,d.base,d.lI,rv,q⟩
|next=>obtain⟨T,z,d,q⟩:=hs;exact⟨V.non,z,d.os,d.bare,d.base,d.lI,Y,q⟩
|brk=>obtain⟨_,_,_,q⟩:=hs;exact cV q
|cont=>obtain⟨_,_,_,q⟩:=hs;exact cV q
def C5{n C I:G}{T:fe}{u f l o j:U}{st:b_}{p1 p2 p3 p4 q1 q2 q3 q4:iG}(F:rQ K "__init__" u st n T)(g:ia [mG,l,j] [mG,l,j] (Ze st))(hb:ZT st=[Vd f l p1 p2 p3 p4,Vd o j q1 q2 q3 q4])(q:Vg l)(p:Vg j)(N:XC K C n I)(n1:YL K C f)(n2:YL K C o)(L:f≠o):t6 P w K J S 1 n T [mG,l,j] (Pe C [f,o]):=by
 refine F.qR (k:=0) g (λX H Q E h=>?_) λaa A e M s H X Q hr h=>?_
 .obtain⟨a,W,rfl,x,_⟩:=h;rw[aB,x];rfl
 .obtain⟨a,W,rfl,x,hH,k⟩:=h;obtain⟨y,z,rfl⟩:=p_ x;rw[hb];refine⟨_,Zb (Ru (Xj (i:=0) Y (Xu g zE) D D) (Xj (i:=1) Y (Xu g zE) q.1 q.2) Y) (Zi (NO (Xj (i:=0) Y (Xu g zE) D D) (Xj (i:=2) Y (Xu g zE) p.1 p.2) Y)),?_⟩;refine⟨y,Y,.ref a,Y,a,C,n,I,Y,hH,N,n1,λd c hd=>?_⟩;refine⟨z,Y,.ref a,Y,a,C,n,I,d,[(f,y)],Y,Zc ..,by rw[Zk c,Zc],c,zE,N,n2,?_⟩;refine k _ d c hd (Zc ..) ?_ λb t r=>by rw[Zk t,Zk r,Zk t,Zk r]
  rw[Zk c,Zc];show O (XD d (lZ o z [(f,y)]))=_;simp[lZ,L]
end
noncomputable abbrev Cx.o4(X:Cx)(e:Z)(a:Z->ao->Prop):Cx:={X with A:=X.A.mark (O e),calm:=false,xe:=a}
section
variable {X:Cx}{pins:List (G×eN)}{σ:St}{H:Hp}{s:ao}{e:Z}{xe':Z->ao->Prop}
theorem Cx.Ok.o4(ok:X.Ok)(e:Z)(xe':Z->ao->Prop):(X.o4 e xe').Ok:=⟨ok.mod,ok.kind,ok.glob,ok.blt,ok.above,ok.inj,ok.has,ok.wM,(λz=>zI (show false=true from z) D),ok.frames,ok.wX,ok.xD,ok.bs,ok.uu,ok.r_,ok.so,ok.oB,ok.uV⟩
theorem Inv.o4(I:Inv X pins σ H s)(e:Z)(xe':Z->ao->Prop):Inv (X.o4 e xe') pins σ H s:=⟨I.ok.o4 e xe',I.os,I.bare,I.base,I.loc,I.cell,I.free,I.mV,I.pin,I.lI,I.len⟩
def Inv.qF(ok:X.Ok)(I:Inv (X.o4 e xe') pins σ H s):Inv X pins σ H s:=⟨ok,I.os,I.bare,I.base,I.loc,I.cell,I.free,I.mV,I.pin,I.lI,I.len⟩
def WC{k:Nat}   {Q:VK} (c:XC X.K C f Qa)(F:t6 X.prog X.w X.K X.mg X.base k f fd q sp)(P:l9 (k+1) X.A)(hb:Binds X.K fd q [])(I:Inv (X.o4 e xe') pins σ H s)(r:Zt o j)(N:j.length<=sizeLine)(h:∀x,H x=B->sp (.ref x::o) (upd H x (mS x C B)) (λv H2=>v=.non/\Q (.ref x) H2) E0):aI (aZ X.prog X.w) (X.A.mark (O e)) (call (.ref C) j) (EP (X.o4 e xe') pins σ Q) xe' s:=by
 refine Ic (h:=s.heap) (g:=s.gens) (d:=s.drawn) (t:=s.toks) (os:=s.os) I.nE c N λn a z mk=>?_;obtain⟨M,_,T,ge,_,_⟩:=mk;have y:=h a (I.lI.fresh z);have b:Inv (X.o4 e xe') pins σ (upd H a (mS a C B)) {s with heap:=n}:=I.laid (t':=s.toks) M z (XU.mpr ⟨_,_,ge,Y,Y,Y,zE,zE⟩);have p:Zt (V.ref a::o) (aN a::j):=.cons Y r;have W:(aN a::j).length=q.length:=by have e:=p.length;rw[F.len _ _ _ _ y]at e;exact e.symm
 have e0:rK X.prog X.w X.K X.mg X.base X.A X.stack {s with heap:=n} (upd H a (mS a C B)):=⟨b.ok.frames,b.ok.mod,b.bs,aj b.ok.uu b.sz,b.stack,b.nI,b.lI,b.bare⟩;have l:=hb {s with heap:=n} (aN a::j) b.nE (by rw[bj];exact W);rw[bj]at l;refine jB (iM (F.run (X.A.under (.builtin "type.__call__" ⟨.ref C::j,[]⟩)) e X.stack {s with heap:=n} _ ⟨aN a::j,[]⟩ (aN a::j) _ _ (P.make C j []) (e0.make C j []) l p y) λr s' i=>?_);cases r with
|error e=>exact i.elim
|ok fl=>
  cases fl with
 |ret u=>obtain⟨v,H',I3,E,ev,L⟩:=b.after i;subst ev;exact⟨E,⟨V.ref a,H',I3,Y,L⟩⟩
 |next=>exact cV i
 |brk=>exact cV i
 |cont=>exact cV i
end
section
variable {X:Cx}{pins:List (G×eN)}{σ:St}{H:Hp}{s:ao}{a C:G}{dd:Option G}{E:XK}{h2:bC}{o':eN}{yK:Array Z}
def Og(I:Inv X pins σ H s)(e:H a=O (mS a C dd))(f:∀b,b≠a->h2.get? b=s.heap.get? b)(P:h2.get? a=O o')(F:o'.cls=.ref C)(i:o'.dict=dd)(A:o'.data=.fields yK)(x:1<yK.size)(M:yK[1]?=O .none)(hE:E (cv false C) dd (del H a)):oV X.prog X.w X.stack H s E (.ref a) {s with heap:=h2}:=by
 have g:∀b u,H b=O u->(∀Q,u≠.ext Q)->b≠a:=λb u q n z=>by subst z;rw[e]at q;cases q;exact n _ Y
 have j:∀b,H b=B->b≠a:=λb q z=>by rw[z,e]at q;cases q
 have fr:a∉m6 X.stack:=λz=>by rw[I.nI a z]at e;cases e
 have t:∀b o',s.heap.get? b=O o'->b≠a->b∉m6 X.stack->(gj s.heap (a::m6 X.stack)).get? b=O o':=λb o' q n1 n2=>j5 _ q λz=>by
  rcases ay.mp z with z|z
  .exact n1 z
  .exact n2 z
 refine⟨a,cv false C,dd,gj s.heap (a::m6 X.stack),del H a,Y,Y,I.bare,⟨λb o q n _ _=>(f b (j b n)).trans q,λb o q n _ _=>⟨o.slots,(f b (j b n)).trans q⟩,λb o q n _=>?_,λb o q _=>?_,λb T q=>(YJ (g b _ q zE)).trans q,λb o u q=>(YJ (g b _ q zE)).trans q,λb ps q=>⟨#[],by rw[YJ (g b _ q zE)];simpa using q⟩⟩,?_,?_,?_,hE⟩
 .rw[YJ (j b n)];exact n
 .by_cases d:b=a
  .exact⟨o',by rw[d];exact P⟩
  .exact⟨o,(f b d).trans q⟩
 .intro b u q;have d:b≠a:=λz=>by rw[z,Xz]at q;cases q
  rw[YJ d]at q;refine(I.lI b u q).o_ (λc v hc z=>(f c ?_).trans z) (λc z=>(YJ (g c _ z zE)).trans z) λc T z=>(YJ (g c _ z zE)).trans z;rcases hc with rfl|hc
  .exact d
  .exact g c _ hc zE
 .refine⟨λb u q=>(f b λz=>by rw[z,fF _ (.head _)]at q;cases q).trans (kh _ q),fF _ (.head _),?_,o',yK,P,F,i,A,⟨x,λq=>by cases q⟩,.inl ⟨M,Y⟩⟩;have go:∀l:List jI,(∀b∈m6 l,b∈a::m6 X.stack/\b≠a)->s.heap.FunFrames X.base l->h2.FunFrames (gj s.heap (a::m6 X.stack)) l:=by
   intro l;induction l with
  |nil=>intro _ _;trivial
  |cons N r ih=>
    intro hs ⟨hk,⟨L,W,h,hn,ho,y⟩,hr⟩;have p:m6 (N::r)=L::m6 r:=by unfold m6;rw[fg,h]
    exact⟨hk,⟨L,W,h,fF _ (hs L (by rw[p];exact .head _)).1,(f L (hs L (by rw[p];exact .head _)).2).trans ho,y⟩,ih (λb d=>hs b (by rw[p];exact .tail _ d)) hr⟩
  exact go X.stack (λb d=>⟨.tail _ d,λz=>fr (z▸d)⟩) I.stack
 .refine⟨λb u q=>?_,λb o' q n d=>t b o' q (j b n) d,λb o' q=>?_,Xz⟩
  .have d:b≠a:=λz=>by rw[z,Xz]at q;cases q
   rw[YJ d]at q;obtain⟨o',z⟩:=PM (I.lI b u q);exact⟨o',t b o' z d λm=>by rw[I.nI b m]at q;cases q⟩
  .by_cases d:b=a
   .exact .inr (.inl d)
   .by_cases h:b∈m6 X.stack
    .exact .inl h
    .exact .inr (.inr ⟨o',t b o' q d h⟩)
end
section
variable {M:Model}{A:bU}{E:Z->ao->Prop}{s:ao}{zw:bC}{env:jI}{outer:List jI}{L x:G}{c:Z}{dd:Option G}{Q:Unit->ao->Prop}
def qe.wH  (F:qe zw l x c dd (dU L) h):∃o a T d b,h.get? x=O o/\o.data=.fields a/\a[1]?=O (.ref T)/\h.get? T=O d/\d.data=.fields b/\b[3]?=O (dU L):=by
 obtain⟨o,a,j,w,r,n,u,i⟩:=F.row;rcases i with⟨g,e⟩|⟨T,d,b,g,y,t,p,f,q⟩
 .cases e
 .exact⟨o,a,T,d,b,j,n,g,p,f,q⟩
def W7(g:env.frame=O L)(F:qe zw (env::outer) x c dd (dU L) s.heap)(j:∀b,qe zw outer x c dd .none b->s.heap.UpToSlots b->Q () {s with heap:=b}):aI M A (leaving env (.ref x)) Q E s:=by unfold leaving;obtain⟨o,r,T,u,t,f,h,p,i,d,l⟩:=F.wH;refine ae (wpAny_noteFrame_inFlight g f h p i d l ?_);exact P9 F λn a q=>j n ⟨a.keep,a.new,a.frames.2.2,a.row⟩ q
def qe.but{h p:bC} (F:qe zw (env::outer) x c dd fl h)(g:env.frame=O L)(n:∀b,b≠L->p.get? b=h.get? b)(C:p.Ns L m)(no:∀b∈m6 outer,b≠L):qe zw (env::outer) x c dd fl p:=by
 obtain⟨hk,⟨L',W,i,hB,y,f⟩,w⟩:=F.frames;rw[g]at i;cases i;obtain⟨oD,es,ep,hD,I,_⟩:=id C;have X:∀b o a,h.get? b=O o->o.data=.fields a->b≠L:=λb o a q d z=>by rw[z,y]at q;cases q;exact f a d
 refine⟨λb u q=>(n b λz=>by rw[z,hB]at q;cases q).trans (F.keep b u q),F.new,⟨hk,⟨L,oD,g,hB,hD,λa q=>by rw[I]at q;cases q⟩,?_⟩,?_⟩
 .have go:∀l:List jI,(∀b∈m6 l,b≠L)->h.FunFrames zw l->p.FunFrames zw l:=by
   intro l;induction l with
  |nil=>intro _ _;trivial
  |cons env r ih=>
    intro hs ⟨hk,⟨t,W,g,C,y,f⟩,w⟩;have hL:m6 (env::r)=t::m6 r:=by unfold m6;rw[fg,g]
    exact⟨hk,⟨t,W,g,C,(n t (hs t (by rw[hL];exact .head _))).trans y,f⟩,ih (λb hb=>hs b (by rw[hL];exact .tail _ hb)) w⟩
  exact go outer no w
 .obtain⟨o,a,hx,hc,H,hd,hz,tr⟩:=F.row;refine⟨o,a,(n x (X x o a hx hd)).trans hx,hc,H,hd,hz,?_⟩;rcases tr with z|⟨T,P,N,h1,bT,nT,hT,j,h3⟩
  .exact .inl z
  .exact .inr ⟨T,P,N,h1,bT,nT,(n T (X T P N hT j)).trans hT,j,h3⟩
end
noncomputable def tN(x:G):HO:=.ext λh=>∃o a,h.get? x=O o/\o.data=.fields a
def OV   {h:bC}(z:∃o a,h.get? x=O o/\o.data=.fields a):ZY P w H h x (tN x):=by obtain⟨o,a,c,r⟩:=z;exact⟨⟨o,a,c,r⟩,⟨o,c⟩,λi g⟨f,b,e,d⟩k=>⟨f,b,k _ e,d⟩⟩
section
variable {X:Cx}{pins:List (G×eN)}{σ:St}{H1 H2:Hp}{s1 s2:ao}{x:G}{c:Z}{dd:Option G}{zw h':bC}{fl:Z}
def FY(I:Inv X pins σ H1 s1)(os:s2.os=s1.os)(p:jc s2.gens)(un:Un (m6 X.stack) [] H1 H2 s1.heap s2.heap)(A:ox X.prog X.w H2 s2.heap)(F:qe zw X.stack x c dd .none s2.heap)(b:pD zw (m6 X.stack) x H1 H2 s1.heap)(i:qe zw X.stack x c dd fl h')(C:s2.heap.UpToSlots h'):Inv X pins σ (upd H2 x (tN x)) {s2 with heap:=h'}:=by
 have T:∀d o,s1.heap.get? d=O o->H1 d=B->d≠x:=by
  rintro d o e n rfl;by_cases a:d∈m6 X.stack
  .obtain⟨_,M,g,h⟩:=I.stack.mem a;rw[e]at g;cases g;obtain⟨H,q⟩:=un.slot d o e n a zE;obtain⟨L,s,y,_,_,t,_⟩:=F.row;rw[q]at y;cases y;exact h s t
  .have:=b.old d o e n a;rw[F.new]at this;cases this
 have f:∀d u,H2 d=O u->d≠x:=by rintro d u e rfl;rw[b.xn]at e;cases e
 have l:ox X.prog X.w H2 h':=GD A b.uR F.keep i.keep;refine I.tW (s':={s2 with heap:=h'}) (ch:=[]) os ⟨λd o e n a _=>i.keep d o (b.old d o e n a),λd o e n a _=>?_,λd o e n W=>?_,λd o e _=>?_,λd E e=>?_,λd o u e=>?_,λd Q e=>?_⟩ (λd u e=>?_) p λd z=>zI z zE
 .obtain⟨H,q⟩:=un.slot d o e n a zE;obtain⟨_,M,g,h⟩:=I.stack.mem a;rw[e]at g;cases g;obtain⟨j,r⟩:=C d _ q h;exact⟨j,r⟩
 .rw[Zk (T d o e n)];exact un.free d o e n W
 .rcases b.all d o e with z|z|⟨N,z⟩
  .obtain⟨_,M,g,h⟩:=I.stack.mem z;rw[e]at g;cases g;obtain⟨H,q⟩:=un.slot d o e (I.nI d z) z zE;obtain⟨j,r⟩:=C d _ q h;exact⟨_,r⟩
  .subst z;obtain⟨L,_,q,_⟩:=i.row;exact⟨L,q⟩
  .exact⟨N,i.keep d N z⟩
 .have:=un.p8 d E e;rw[Zk (f d _ this)];exact this
 .have:=un.pQ d o u e;rw[Zk (f d _ this)];exact this
 .obtain⟨more,this⟩:=un.p9 d Q e;exact⟨more,by rw[Zk (f d _ this)];exact this⟩
 .by_cases a:d=x
  .subst a;rw[Zc]at e;cases e;obtain⟨o,s,P,r,y,t,_⟩:=i.row;exact OV ⟨o,s,P,t⟩
  .rw[Zk a]at e;exact(l d u e).o_ (λ_ _ _ q=>q) (λc q=>by rw[Zk (f c _ q)];exact q) λc E q=>by rw[Zk (f c _ q)];exact q
def Inv.vQ  (I:Inv X pins σ (upd H x (tN x)) s)(g:H x=B):Inv X pins σ H s:=by
 have d:∀b,upd H x (tN x) b=B->H b=B:=λb q=>by
  by_cases a:b=x
  .rw[a];exact g
  .rwa [Zk a]at q
 have ne:∀b u,upd H x (tN x) b=O u->(∀i,u≠.ext i)->H b=O u:=λb u q n=>by
  by_cases a:b=x
  .rw[a,Zc]at q;cases q;exact zI Y (n _)
  .rwa [Zk a]at q
 have w:∀b u,H b=O u->upd H x (tN x) b=O u:=λb u q=>by rw[Zk (λz=>by rw[z,g]at q;cases q)];exact q
 refine⟨I.ok,I.os,I.bare,⟨I.base.keep,I.base.slot,λb o e n h=>d b (I.base.free b o e n h),I.base.there,λb f e=>ne b _ (I.base.p8 b f e) zE,λb o u e=>ne b _ (I.base.pQ b o u e) zE,λb j e=>?_⟩,I.loc,I.cell,d _ I.free,λy c q=>d _ (I.mV y c q),λp t=>?_,λb u q=>?_,I.len⟩
 .obtain⟨more,z⟩:=I.base.p9 b j e;exact⟨more,ne b _ z zE⟩
 .obtain⟨q,l,r⟩:=I.pin p t;exact⟨q,d _ l,r⟩
 .exact(I.lI b u (w b u q)).o_ (λ_ _ _ z=>z) (λc z=>ne c _ z zE) λc f z=>ne c _ z zE
def OR     {i:Nat}{n:U}{Q:Unit->ao->Prop}(I:Inv X pins σ H s)(hN:X.N.Nodup)(P:X.N[i]?=O n)(hk:X.env.scope.names.lookup n=O .local)
  (h:∀h' L,(∃m,h'.Ns X.env.locals m)->(∀b,b≠X.env.locals->h'.get? b=s.heap.get? b)->Inv X pins (σ.set i B) H {s with heap:=h',toks:=L}->Q () {s with heap:=h',toks:=L}):aI M A (do bindName X.env n .none;unbindBehindTheSuite X.env n aa) Q E s:=by
 obtain⟨m,hn,hl⟩:=id I.loc
 have t:(X.env.scope.kind==.class||(X.env.scope.kind==.module&&X.env.locals != X.env.globals))=false:=by rw[I.ok.kind];rfl
 have r:i<σ.length:=by rw[I.len];exact(aU.mp P).1
 refine wpAny_nameGoes_keeps hk hn t λh' v l hs=>?_
 have up:∀b o,X.nv.heap.get? b=O o->b≠X.env.locals:=λb o q=>bc (aX (aK q) I.ok.above)
 refine h _ _ ⟨_,l⟩ hs.2 ⟨I.ok,I.os,I.bare,⟨λb o q f C g=>(hs.2 b (up b o q)).trans (I.base.keep b o q f C g),λb o q f C g=>?_,I.base.free,λb o q g=>?_,I.base.p8,I.base.pQ,I.base.p9⟩,⟨_,l,λj y T a u e3=>?_⟩,λy c q=>?_,I.free,I.mV,λp hp=>?_,λb ob q=>?_,by simpa using I.len⟩
 .obtain⟨sl,a⟩:=I.base.slot b o q f C g
  exact⟨sl,(hs.2 b (up b o q)).trans a⟩
 .obtain⟨o',a⟩:=I.base.there b o q g
  exact⟨o',(hs.2 b (up b o q)).trans a⟩
 .by_cases w:j=i
  .subst w
   rw[iA r]at u
   cases u
  .rw[iS (dc w)]at u
   obtain⟨W,r',q⟩:=hl j y T a u e3
   refine⟨W,r',?_⟩
   rcases q with⟨k,q⟩|⟨k,c,q,z⟩
   .refine .inl ⟨k,?_⟩
    have:y≠n:=λz=>w (Gv hN a (z▸P))
    simp[this,q]
   .exact .inr ⟨k,c,q,z.sameBut hs (I.vt y c q)⟩
 .obtain⟨F,z⟩:=I.cell y c q
  exact⟨F,z.sameBut hs (I.vt y c q)⟩
 .obtain⟨q,f,ne,nf,d⟩:=I.pin p hp
  exact⟨(hs.2 p.1 ne).trans q,f,ne,nf,d⟩
 .refine(I.lI b ob q).o_ (λc F hc z=>(hs.2 c ?_).trans z) (λ_ z=>z) λ_ _ z=>z
  rintro rfl
  rcases hc with rfl|hc
  .rw[I.free]at q;cases q
  .rw[I.free]at hc;cases hc
end
def RT(X:Cx)(E:XK):Prop:=∀(a:List (G×eN))(f:St)(H:Hp)(s:ao)(x:G)(c:Z)(d:Option G)(b:bC)(v:Z),Inv X a f H s->qe b X.stack x c d (dU X.env.locals) s.heap->pD b X.fs x X.sH H X.nv.heap->E c d H ->notedBy (aZ X.prog X.w) (X.A.mark (O v)) X.env (cameBackBy (aZ X.prog X.w) X.A X.env X.xe) (.ref x) s
section
variable {P:a9}{w:bg}{K:af}{J:U->Option Z}{S:bC}{N:List U}{qual:U}{scope:dh}{f:G}{cd:Z}{A:bU}{outer:List jI}{s:ao}{H:Hp}{E:XK}
def Dv        (I:Inv (nr (oV P w) P w K J S N qual scope f cd A outer s H E) W σ p r)(F:qe C (nr (oV P w) P w K J S N qual scope f cd A outer s H E).stack x c T (dU s.heap.objs.size) r.heap)(b:pD C (m6 outer) x H p s.heap)(hE:E c T p):(nr (oV P w) P w K J S N qual scope f cd A outer s H E).xe (.ref x) r:=by
 refine W7 (L:=s.heap.objs.size) Y F λh2 h M=>?_;have un:Un (m6 outer) [] H p s.heap r.heap:=I.base;refine⟨x,c,T,C,p,Y,I.os,I.bare,⟨λd o e n l _=>h.keep d o (b.old d o e n l),λd o e n l _=>?_,un.free,λd o e _=>?_,un.p8,un.pQ,un.p9⟩,GD I.lI b.uR F.keep h.keep,h,b,hE⟩
 .obtain⟨X,q⟩:=un.slot d o e n l zE;obtain⟨_,g,y,a⟩:=I.ok.oB.mem l;have eo:g=o:=by have:s.heap.get? d=O g:=y;rw[e]at this;exact(aJ this).symm
  subst eo;obtain⟨i,t⟩:=M d _ q a;exact⟨i,t⟩
 .rcases b.all d o e with z|z|⟨g,z⟩
  .obtain⟨_,Q,u,a⟩:=I.ok.oB.mem z;have j:s.heap.get? d=O Q:=u;obtain⟨X,q⟩:=un.slot d Q j (I.ok.uV d z) z zE;obtain⟨i,t⟩:=M d _ q a;exact⟨_,t⟩
  .subst z;obtain⟨o3,_,q,_⟩:=h.row;exact⟨o3,q⟩
  .exact⟨g,h.keep d g z⟩
def ZaD:RT (nr (oV P w) P w K J S N qual scope f cd A outer s H E) E:=λa g l i x c j h v I F b d=>PassesOwnAt.leaving _ _ (Dv I F b d)
end
section
variable {X:Cx}{pins:List (G×eN)}{σ:St}{H:Hp}{s:ao}{x C fI Qa Dc:G}{dd:Option G}{zw:bC}{cn n:U}{i:Nat}{p pos:iG}{qz:b_}{oW:List b_}{rest:List iw}{ts:TS}{zB:Ends}{E:XK}
def Ke (I:Inv X pins σ H s)(zv:uN zw x (cv cl C) dd .none s.heap)(c:XC X.K C fI Qa)(b:XB X.K Dc)(hg:Gl X cn)(hm:X.mg cn=O (.ref Dc))(ak:(aN C::.ref Qa::qD).contains (.ref Dc)=true)(a:X.stack=X.env::X.outer/\X.env.frame=O X.env.locals)(aC:X.ex=[])(hP:RT X E)(hN:X.N.Nodup)(Q:X.N[i]?=O n)(hk:X.env.scope.names.lookup n=O .local)(hs:∀aa,Yx (oV X.prog X.w) (X.o4 (.ref x) aa) E->qg (X.o4 (.ref x) aa) (qz::oW) ts)(h:ts (vk i zB) (σ.set i (O (.ref x))) H)(hd:(cn==("__debug__":U))=false:=by decide):aI (aZ X.prog X.w) X.A (handleBy (.ref x) X.env (.ExceptHandler (O (.Name cn p)) (O n) (qz::oW) pos::rest)) (SP X pins zB) X.xe s:=by
 obtain⟨o,vs,hx,hc,_⟩:=id zv;refine lh (kI ?_) (by intro q;cases q);refine Ji (X:=X.qR (.ref x)) (I.qR _) hg hm ?_ hd;obtain⟨hh,g,d,tk,os⟩:=s;refine VQ I.nE c b hx (hc.trans (RM _ _)) ?_;rw[ak];refine codeAny_handlers_suite_as (IE zv λh' k=>?_);have I2:Inv X pins σ H ⟨h',g,d,tk,os⟩:=I.kept (t':=tk) k;refine U7 (X:=X.qR (.ref x)) (v:=.ref x) (I2.qR _) hN Q (.inl hk) Y (λs3 I3=>?_) (.inr hk);have aF:Inv X pins _ H s3:=I3.rV I.ok;refine dQ (hs _ ?_ pins s3 _ H (vk i zB) (aF.o4 _ _) h) (λf s4 q=>?_) λ_ _ z=>z
 .intro j l H1 s1 e s2 M hc;obtain⟨y,W,t,B',H2,rfl,os,ai,un,az,F,b',hE⟩:=hc;have L:Inv X j l H1 s1:=M.qF I.ok;have F0:qe B' X.stack y W t .none s2.heap:=F;have fr:(X.A.mark (O (.ref x))).frames=O (X.env::X.outer):=by show X.A.frames=_;rw[L.ok.frames,a.1]
  have FF:qe B' (X.env::X.outer) y W t .none s2.heap:=by rw[<-a.1];exact F0
  refine P8 fr a.2 FF λh1 F1 U1=>?_;have aP:qe B' X.stack y W t (dU X.env.locals) h1:=by rw[a.1];exact F1
  have I4:Inv X j l (upd H2 y (tN y)) {s2 with heap:=h1}:=FY L os ai un az F0 b' aP U1;refine OR I4 hN Q hk λh5 t5 hn ot I5=>?_;obtain⟨m,hn⟩:=hn;have nl:∀b∈m6 X.outer,b≠X.env.locals:=λb hb=>by obtain⟨_,o,q,_⟩:=I.ok.oB.mem hb;exact bc (aX (aK q) I.ok.above)
  have F5:qe B' (X.env::X.outer) y W t (dU X.env.locals) h5:=F1.but a.2 ot hn nl;obtain⟨oy,ys,T,oT,ar,hy,ab,y1,hT,ah,t3⟩:=F5.wH;unfold PySem.passOn;refine ae (bG hy ab y1 ?_);rw[zG zE];refine ae ?_;unfold kZ;refine ae (bG hy ab y1 ?_);rw[zH zE];refine ff hT ah (gO.mp t3).1 ?_;rw[a.2];show aI _ _ _ _ _ {s2 with heap:=h5.update T (cQ (·.setIfInBounds 3 (dU X.env.locals))),toks:=t5};rw[Heap.update_setField_same h5 T oT ar 3 (dU X.env.locals) hT ah t3];refine wpAny_throw ?_;have aM:qe B' X.stack y W t (dU X.env.locals) h5:=by rw[a.1];exact F5
  exact hP j _ H2 _ y W t B' (.ref x) (I5.vQ b'.xn) aM (pD.up L aC b') hE
 .cases f with
 |next=>obtain⟨l,P,M,q⟩:=q;exact X5 (M.qF I.ok) hN Q hk λs' L=>⟨_,P,L,q⟩
 |brk=>obtain⟨l,P,M,q⟩:=q;exact X5 (M.qF I.ok) hN Q hk λs' L=>⟨_,P,L,q⟩
 |cont=>obtain⟨l,P,M,q⟩:=q;exact X5 (M.qF I.ok) hN Q hk λs' L=>⟨_,P,L,q⟩
 |ret u=>obtain⟨v,l,P,M,r,q⟩:=q;exact X5 (M.qF I.ok) hN Q hk λs' L=>⟨v,_,P,L,r,q⟩
end
section
variable {X:Cx}{Dc:G}{cn n:U}{i:Nat}{p pos:iG}{qz:b_}{oW:List b_}{rest:List iw}{ts:G->TS}{r th:G->G->Option G->TS}{E:XK}
def C7(b:XB X.K Dc)(q:Gl X cn)(o:X.mg cn=O (.ref Dc))(j:X.stack=X.env::X.outer/\X.env.frame=O X.env.locals)(l:X.ex=[])(M:RT X E)(hN:X.N.Nodup)(L:X.N[i]?=O n)(hk:X.env.scope.names.lookup n=O .local)(hs:∀x a,Yx (oV X.prog X.w) (X.o4 (.ref x) a) E->qg (X.o4 (.ref x) a) (qz::oW) (ts x))(F:Hd X rest r)(t:(cn==("__debug__":U))=false:=by decide):Hd X (.ExceptHandler (O (.Name cn p)) (O n) (qz::oW) pos::rest) (M' X.K Dc i ts r):=by
 rintro d s u H z T x C Q y I P f ⟨W,Qa,c,⟨g,h⟩|⟨A,h⟩⟩
 .exact Ke I f c b q o g j l M hN L hk (hs x) h t
 .exact Qf I f c b q o A (F d s u H z T x C Q y I P f h) t
end
structure xS(P:a9)(w:bg)(K:af)(J:U->Option Z)(S:bC)(x:U)(names:List U)(C:G):Prop where
 xc:∃fI Qa fd ps,XC K C fI Qa/\t6 P w K J S 1 fI fd ps (Pe C names)/\ps.length<=1000/\Binds K fd ps []
 mg:J x=O (.ref C)
 kp:cb K (.ref C)=true
section
variable {X:Cx}{E:XK}{x:U}{names:List U}{C y:G}{p mR pos pn:iG}{jn:Option U}{e:bV}{es:List bV}{t:TA}{xe':Z->ao->Prop}
def K6(C y:G)(names:List U)(t:TA)(E:XK):TS:=λ_ g H=>t g H λf a=>f.length=names.length/\(∃i h,a y=O (oS true y i h))/\∀c d,a d=B->c d=O (XD d (names.zip f))->(∀b,b≠d->c b=a b)->E (cv false C) (O d) c
def Dm{jn}(zv:xS X.prog X.w X.K X.mg X.base x names C)(hx:Yx (oV X.prog X.w) (X.o4 (.ref y) xe') E)(hr:l9 2 X.A)(hg:Gl X x)(ha:PA (X.o4 (.ref y) xe') (e::es) t)(a0:(x==("__debug__":U))=false:=by decide)(he:bf (e::es) X.env=(false,cM e X.env)::bf es X.env:=by rfl)(aC:(eh mR (bf es X.env)).any (·.1)=false:=by rfl):PS (X.o4 (.ref y) xe') (.Raise (O (.Call (.Name x p) (e::es) [] mR)) (O (.Constant .none jn pn)) pos) (K6 C y names t E):=by
 obtain⟨fI,Qa,fd,ps,xc,F,hn,c⟩:=zv.xc;intro i s σ H zB I h;rw[arm_exec_Raise];refine ae (gb ?_);refine WG (K:=X.K) (y:=y) Y (λs Q q=>ae (Constant_none (ae (gb (aE q))))) (ae (dQ (eU (Ji I hg zv.mg ?_ a0)) (λu s1 q=>ae (gb (aE q))) λ_ _ z=>z));refine gf (h₀:=X.base) I.ok.mod.v8 zv.kp (lY (ha mR i s σ H _ I h) λus s1 hZ=>?_) he aC;obtain⟨vs,H1,I1,r,hl,⟨Cy,dy,hy⟩,q⟩:=hZ;refine ⟨I1.nE,?_⟩;refine lY (WC (X:=X) (e:=.ref y) (xe':=xe') (k:=1) (Q:=λv W=>∃a d H',v=.ref a/\y≠a/\W a=O (mS a C (O d))/\W y=O (oS true y Cy dy)/\del W a=H'/\E (cv false C) (O d) H') xc F hr c I1 r ?_ λa L=>?_) λu N q2=>?_
 .rw[g_];have e1:=r.length;have e2:=F.len (.ref s1.heap.objs.size::vs) (upd H1 s1.heap.objs.size (mS s1.heap.objs.size C B)) (λ_ _=>True) E0 ⟨_,vs,Y,hl,Zc ..,λ_ _ _ _ _ _ _=>trivial⟩;rw[aB]at e2;have e3:us.length=vs.length:=e1.symm;show us.length<=_;omega
 .have M:y≠a:=λz=>by rw[<-z,hy]at L;cases L
  refine⟨a,vs,Y,hl,Zc ..,λH' d ah P h1 h2 h3=>⟨Y,a,d,_,Y,M,h1,?_,Y,q (del H' a) d ?_ ?_ ?_⟩⟩
  .rw[h3 y M (λz=>by rw[<-z,Zk M,hy]at P;cases P),Zk M,hy]
  .rwa [Zk ah]at P
  .rw[YJ ah];exact h2
  .intro b c;by_cases g:b=a
   .rw[g,Xz,L]
   .rw[YJ g,h3 b g c,Zk g]
 .obtain⟨v,W,T,rv,a,d,H',ev,M,ea,ey,eH,hE⟩:=q2;subst ev;obtain rfl:u=aN a:=rv;obtain⟨o,f,aa,hc,aS,P,hz,h1,h6,h2⟩:=XU.mp (T.lI a _ ea);obtain⟨oy,ys,gy,_,_,a3,cy⟩:=RK.mp (T.lI y _ ey);obtain⟨oc,od,az,j⟩:=o;obtain rfl:az=.fields f:=P;refine⟨a,_,C,fI,Qa,f,oy,ys,Y,xc,T.nE,aa,hc,Y,h1,h6,M,gy,a3,cy Y,?_⟩;generalize ar:N.heap.update a (cQ (·.setIfInBounds 3 b9))=n;have aP:n.get? a=O ⟨oc,od,.fields (f.setIfInBounds 3 .none),j⟩:=by rw[<-ar];exact bF _ aa Y
  have o1:∀b,b≠a->n.get? b=N.heap.get? b:=λb c=>by rw[<-ar];exact bq _ _ (dc c)
  generalize ak:n.update a (cQ (·.setIfInBounds 4 (.bool true)))=l;have aM:l.get? a=O ⟨oc,od,.fields ((f.setIfInBounds 3 .none).setIfInBounds 4 (.bool true)),j⟩:=by rw[<-ak];exact bF _ aP Y
  have o2:∀b,b≠a->l.get? b=N.heap.get? b:=λb c=>by rw[<-ak];exact(bq _ _ (dc c)).trans (o1 b c)
  generalize ai:l.update a (cQ (·.setIfInBounds 2 (.ref y)))=ab;have aF:ab.get? a=O ⟨oc,od,.fields (((f.setIfInBounds 3 .none).setIfInBounds 4 (.bool true)).setIfInBounds 2 (.ref y)),j⟩:=by rw[<-ai];exact bF _ aM Y
  have o3:∀b,b≠a->ab.get? b=N.heap.get? b:=λb c=>by rw[<-ai];exact(bq _ _ (dc c)).trans (o2 b c)
  refine hx i σ W N _ _ T (Og (X:=X.o4 (.ref y) xe') T ea o3 aF hc aS Y (by simp;omega) ?_ (by rw[eH];exact hE));rw[di D,di D,di D,h1]
end
end L2
namespace T
open PySem L2
noncomputable def top(i:Nat):b_:=ag.main.body.getD i (.Pass ⟨0,0,0,0⟩)
noncomputable abbrev nH:b_:=YX (top 3) 0
noncomputable abbrev nR:b_:=YX (top 4) 0
noncomputable abbrev qJ:b_:=top 13
noncomputable abbrev qs:b_:=top 14
noncomputable abbrev qb:b_:=top 15
noncomputable abbrev rg:b_:=top 16
noncomputable abbrev oX:b_:=top 17
noncomputable abbrev qr:b_:=top 18
noncomputable abbrev pR:b_:=top 26
noncomputable abbrev qj:b_:=top 27
noncomputable abbrev mW:b_:=top 28
noncomputable abbrev nM:b_:=top 29
noncomputable abbrev oh:b_:=top 30
noncomputable abbrev nK:b_:=top 31
noncomputable abbrev n_:b_:=top 32
noncomputable abbrev oi:b_:=top 33
noncomputable abbrev oM:b_:=top 34
noncomputable abbrev kx:b_:=YX (top 35) 0
noncomputable abbrev mL:b_:=YX (top 35) 1
noncomputable abbrev mN:b_:=YX (top 35) 2
noncomputable abbrev mU:b_:=YX (top 35) 3
noncomputable abbrev mM:b_:=YX (top 35) 4
noncomputable abbrev oJ:b_:=YX (top 35) 5
noncomputable abbrev m9:b_:=YX (top 35) 6
noncomputable abbrev nA:b_:=YX (top 35) 7
noncomputable abbrev oK:b_:=top 39
noncomputable abbrev oP:b_:=top 40
noncomputable abbrev mz:b_:=top 41
noncomputable abbrev pf:b_:=top 42
noncomputable abbrev oO:b_:=top 43
noncomputable abbrev ph:b_:=top 44
noncomputable abbrev mB:b_:=top 45
noncomputable abbrev oN:b_:=top 46
noncomputable abbrev pC:b_:=top 48
noncomputable abbrev pV:b_:=top 49
noncomputable abbrev pz:b_:=top 50
noncomputable abbrev mi:b_:=top 51
noncomputable abbrev oo:b_:=top 52
noncomputable abbrev pA:b_:=top 53
noncomputable abbrev nk:b_:=top 54
noncomputable abbrev pB:b_:=top 55
noncomputable abbrev pS:b_:=top 56
noncomputable abbrev oR:b_:=top 57
noncomputable abbrev mC:b_:=top 58
noncomputable abbrev nN:b_:=top 59
noncomputable abbrev pq:b_:=top 60
noncomputable abbrev mO:b_:=top 61
noncomputable abbrev om:b_:=top 62
noncomputable abbrev oa:b_:=top 63
noncomputable abbrev mX:b_:=top 64
noncomputable abbrev pU:b_:=top 65
noncomputable abbrev nV:b_:=top 66
noncomputable abbrev mY:b_:=top 67
noncomputable abbrev nU:b_:=top 68
noncomputable abbrev pv:b_:=top 69
noncomputable abbrev og:b_:=top 70
noncomputable abbrev ni:b_:=top 71
noncomputable abbrev oQ:b_:=top 72
noncomputable abbrev pK:b_:=top 73
end T
namespace K1
noncomputable def pN:List Nat:=[97,98,99,100,101,102,103,104,105,106,107,108,109,110,111,112,113,114,115,116,117,118,119,120,121,122]
noncomputable def qE:List Nat:=[48,49,50,51,52,53,54,55,56,57]
noncomputable def qy(n:Int)(y:List Nat):Bool:=decide ((1:Int)<=y.length)&&decide ((y.length:Int)<=n)
noncomputable def YC(n:Int)(a y:List Nat):Bool:=qy n y&&y.all λc=>decide (c∈a)
noncomputable def VN(n:Int)(a y:List Nat):Bool:=YC n a y&&decide (y.getD 0 0∈pN)
noncomputable def xC(y:List Nat):Nat:=y.foldl (λa c=>a*10+(c-48)) 0
noncomputable def n8(y:List Nat):Option Int:=if YC 4 qE y=true then(if y.getD 0 0=48/\y≠[48]then B else O (xC y:Int))else B
def OT{c:Nat}(h:c∈qE):48<=c/\c<=57:=by unfold qE at h;simp at h;omega
open PySem L2
noncomputable abbrev Fb:b_:=T.qJ
noncomputable abbrev K5:b_:=T.qs
noncomputable abbrev Rp:b_:=T.qb
noncomputable abbrev Iq:b_:=T.rg
noncomputable abbrev Fc:b_:=T.oX
noncomputable def qh:U:="abcdefghijklmnopqrstuvwxyz"
noncomputable def qG:U:="0123456789"
noncomputable def m8:U:="abcdefghijklmnopqrstuvwxyz0123456789"
noncomputable def mD:U:="abcdefghijklmnopqrstuvwxyz0123456789."
structure Txt(K:af)(J:U->Option Z):Prop where
 lets:∃t,J "LETTERS"=O (.str qh t)
 names:∃t,J "NAME_SIGNS"=O (.str m8 t)
 groups:∃t,J "GROUP_SIGNS"=O (.str mD t)
 ln:∃t,J "LONGEST_NAME"=O (.int 8 t)
 lg:∃t,J "LONGEST_GROUP_NAME"=O (.int 12 t)
 xv:J "isinstance"=B
 int:J "int"=B
 bool:J "bool"=B
 str:J "str"=B
 len:J "len"=B
 all:J "all"=B
noncomputable def Eo(x:V):Bool:=F6 x
noncomputable def ZD(x:V)(lo a:Int):Bool:=match x with
|.int i=>decide (lo<=i)&&decide (i<=a)
|_=>false
noncomputable def codes(z:U):List Nat:=z.cps.toList
noncomputable def Pb(x:V)(n:Int)(z:U):Bool:=match x with
|.str y=>YC n (codes z) (codes y)
|_=>false
noncomputable def Gx(x:V)(n:Int)(z:U):Bool:=match x with
|.str y=>VN n (codes z) (codes y)
|_=>false
noncomputable def rn:Option Int->V
|some i=>.int i
|none=>.non
noncomputable def vY(x:V):V:=match x with
|.str y=>rn (n8 (codes y))
|_=>.non
def KQ:Sp:=λa H Q _=>∃x T,a=[x]/\Th H x T/\Q (.bl (Eo x)) H
def JR:Sp:=λb H Q _=>∃x T lo a,b=[x,.int lo,.int a]/\Th H x T/\Q (.bl (ZD x lo a)) H
def U8:Sp:=λb H Q _=>∃x T n z,b=[x,.int n,.str z]/\Th H x T/\∀a,f' H a->Q (.bl (Pb x n z)) a
def MD(n:Int)(z:U):Sp:=λb H Q _=>∃x T,b=[x]/\Th H x T/\∀a,f' H a->Q (.bl (Gx x n z)) a
def Sw:Sp:=λb H Q _=>∃x T,b=[x]/\Th H x T/\∀a,f' H a->Q (vY x) a
def sS{z:U}(h:z.length<=1000):z.length<=sizeLine:=eQ (YA h)
def xG(z:U):(codes z).length=z.length:=by simp[codes,Str.length]
section
variable {P:a9}{w:bg}{K:af}{J:U->Option Z}{S:bC}
def A6:ia [mJ] [mJ] (Ze Fb):=⟨Y,Y,Y,zC,Y,zC,zC⟩
def DS(T:Txt K J)(i:Df K J "is_whole" Fb [mJ]):l8 P w K J S 1 "is_whole" [mJ] KQ:=by
 refine i.ur A6 (λj H Q E h=>?_) (λf n A g s H j Q E o h=>?_)
 .obtain⟨x,l,rfl,_⟩:=h;rfl
 .obtain⟨x,l,rfl,a,k⟩:=h;refine⟨_,Zi (Zn (Uy (MJ (c:="int") (R 0) Y T.xv Y T.int Y2) (XH (Fo (MJ (c:="bool") (R 0) Y T.xv Y T.bool O6))))),?_⟩;refine⟨_,Y,_,_,_,_,Y,a.ty,a.F',_,Y,?_⟩;have d:∀b,b=Eo x->Q (.bl b) H:=λb e=>e▸k;refine mr (λe=>?_) (λe=>d _ ?_)
  .refine⟨_,Y,_,_,_,_,Y,a.ty,a.G_,_,Y,d _ ?_⟩;cases a<;>first|rfl|(exact zI (show false=true from e) aW)
  .cases a<;>first|rfl|(exact zI Y e)
def E1:ia [mJ,"low","high"] [mJ,"low","high"] (Ze K5):=⟨Y,Y,Y,zC,Y,zC,zC⟩
def Kg(n:Df K J "is_within" K5 [mJ,"low","high"])(r:l8 P w K J S 1 "is_whole" [mJ] KQ):l8 P w K J S 2 "is_within" [mJ,"low","high"] JR:=by
 refine n.ur E1 (λo H Q E h=>?_) (λf t A j s H o Q E p h=>?_)
 .obtain⟨x,l,lo,c,rfl,_⟩:=h;rfl
 .obtain⟨x,l,lo,c,rfl,d,k⟩:=h;refine⟨_,Zi (Zn (Uy (Z9 r p Y (Zj (R 0) Zg)) (XH (SV VL VL (R 1) (R 0) (R 2))))),?_⟩;refine⟨_,Y,x,l,Y,d,_,Y,?_⟩;have a:∀b,b=ZD x lo c->Q (.bl b) H:=λb e=>e▸k;refine mr (λe=>?_) (λe=>a _ ?_)
  .cases d with
  |int i=>
    refine⟨_,Y,_,Y,_,_,Y,Y,_,Y,?_⟩;refine mr (λg=>?_) (λg=>a _ ?_)
    .refine⟨_,Y,_,_,Y,Y,a _ ?_⟩;show _=(decide (lo<=i)&&decide (i<=c));rw[g,cO]
    .show false=(decide (lo<=i)&&decide (i<=c));have q:decide (lo<=i)=false:=by simpa using g
     rw[q,fw]
  |_=>exact zI (show false=true from e) aW
  .cases d<;>first|rfl|(exact zI Y e)
def E4:ia [mJ,"longest","signs"] [mJ,"longest","signs"] (Ze Rp):=⟨Y,Y,Y,zC,Y,zC,zC⟩
noncomputable def S_:dh:={kind:=.function,names:=[(bh ".0",.local),(bh "sign",.local),(bh "signs",.free)],isGenerator:=false,isCoroutine:=false,more:=[]}
def Zae:i4 S_ (Ze Rp):=⟨Y,zC,zC,zC⟩
def Zag:(["sign","signs"]:List U).Nodup:=by decide +kernel
def Zaf:i3 [mJ,"longest","signs"] S_ ["sign","signs"] [B,O 2]:=.mk' zC
def MQ(z:U)(c:Nat):(!(bR z ⟨#[c]⟩ 0 z.length 1).isEmpty)=decide (c∈codes z):=PySem.StrLaws.found_one z c
def WS{a b:Type}(l:List a)(p:a->b)(i:Nat)(c:a)(h:l[i]?=O c):(l.take (i+1)).map p=(l.take i).map p++[p c]:=by rw[List.take_add_one,h,aA];rfl
def Qh(T:Txt K J)(zB:Df K J "is_text_of" Rp [mJ,"longest","signs"]):l8 P w K J S 1 "is_text_of" [mJ,"longest","signs"] U8:=by
 refine zB.ur E4 (λvs H Q E h=>?_) (λf aa A M s H vs Q E hr h=>?_)
 .obtain⟨x,T',n,z,rfl,_⟩:=h;rfl
 .obtain⟨x,T',n,z,rfl,u,k⟩:=h;refine⟨_,Zb (ZC (PW.pt (JH (Yn (Yu (MJ (c:="str") (R 0) Y T.xv Y T.str JQ))) (X7 (Yn (Gn VL VL Zd (Zz Aq Y T.len bt (Zj (R 0) Zg)) (R 1)))))) (Zi (Zn VJ)) Zq) (Zi (Zn (Zz (Au Y) Y T.all PyProof.Rows.boot_all (Zj (Yp (scope:=S_) (N:=["sign","signs"]) (cp:=[B,O 2]) Y Zae Zaf (WI (R 0)) (λC s H ex pn=>Gq (i:=0) Zag Y (dD Y)) (λC s H ex pn=>ZW) (λC s H ex pn=>Z5 ML (R 0) (R 1) (by with_unfolding_all rfl))) Zg)))),?_⟩;have d:∀b F,f' H F->b=Pb x n z->Q (.bl b) F:=λb F sm e=>e▸k F sm;refine⟨_,Y,_,_,_,_,Y,u.ty,u.xu,_,Y,?_⟩;refine mr (λe=>?_) (λe=>?_)
  .refine kq (d _ _ (f'.refl _) ?_);cases u<;>first|rfl|(exact zI (show false=true from e) aW)
  .cases u with
  |str y W=>
    have a:(codes y).length=y.length:=xG y;refine⟨_,Y,_,_,Y,⟨sS W,Y⟩,_,_,Y,Y,_,Y,?_⟩;refine mr (λL=>?_) (λL=>?_)
    .refine⟨_,Y,_,_,Y,Y,_,Y,?_⟩;refine mr (λI=>?_) (λI=>?_)
     .refine d _ _ (f'.refl _) ?_;show false=YC n (codes z) (codes y);unfold YC qy;have t:decide ((y.length:Int)<=n)=false:=by simpa using I
      rw[a,t,j9,fw]
     .have t:decide ((y.length:Int)<=n)=true:=by simpa using I
      refine⟨_,Y,y,Y,ZX (zA:=yH y) y.length (sS W) (λi j g r=>r=H/\j=((codes y).take i).map (λc=>V.bl (decide (c∈codes z)))/\∃v,g=[v,O (.str z)]) ⟨Y,Y,B,Y⟩ (λi j g r p=>?_) (λi j g r X p=>X) (λj g r p=>aq _) (λi j g r x' H2 X p yl=>?_) (λj g r p l hl=>?_)⟩
      .rw[p.2.1,bH,aY];omega
      .obtain⟨rfl,rfl,v,rfl⟩:=p;obtain⟨rfl,c,hc,rfl⟩:=yl;refine⟨_,Y,_,Y,_,_,Y,Y,Y,?_,_,Y⟩;rw[MQ];exact(WS (codes y) (λc=>V.bl (decide (c∈codes z))) i c hc).symm
      .obtain⟨rfl,rfl,v,rfl⟩:=p;refine⟨l,(codes y).map (λc=>decide (c∈codes z)),Y,jw.of ?_,d _ _ (λb o q=>?_) ?_⟩
       .rw[Zc,<-a,cg,cY];rfl
       .rw[Zk (Zp q hl)];exact q
       .show _=YC n (codes z) (codes y);unfold YC qy;rw[a,L,t,cO,cO,List.all_map];rfl
    .refine⟨_,Y,kq (d _ _ (f'.refl _) ?_)⟩;show false=YC n (codes z) (codes y);unfold YC qy;have t:decide ((1:Int)<=y.length)=false:=by simpa using L
     rw[a,t,fw,fw]
  |_=>exact zI Y e
def vu:codes qh=pN:=by decide +kernel
def xH:codes qG=qE:=by decide +kernel
def ZaQ:codes m8=pN++qE++[]:=by decide +kernel
def Zah:codes mD=pN++qE++[46]:=by decide +kernel
def MC {n:Int}(h:Pb x n z=true):∃y c r,x=.str y/\codes y=c::r:=by
 cases x with
|str y=>
  have a:YC n (codes z) (codes y)=true:=h;unfold YC qy at a;rw[bJ,bJ]at a;have b:=zL a.1.1;cases e:codes y with
 |nil=>rw[e]at b;simp at b
 |cons c r=>exact⟨y,c,r,Y,e⟩
|_=>exact zI (show false=true from h) aW
def RN {c:Nat}{r:List Nat}(e:codes y=c::r):oY y.cps.toList 0=O c:=by have a:y.cps.toList=c::r:=e;rw[a];exact Zy (j:=0) Y
def _root_.L2.Th.ri   (h:Th H (.str y) T):y.length<=1000:=by
 cases h with
|str z h=>exact h
def Nl {n:Int}(h:Pb x n z=false):Gx x n z=false:=by
 cases x with
|str y=>have a:YC n (codes z) (codes y)=false:=h;show(YC n (codes z) (codes y)&&_)=false;rw[a,fw]
|_=>rfl
def AZ:ia [mJ] [mJ] (Ze Iq):=⟨Y,Y,Y,zC,Y,zC,zC⟩
def TY(T:Txt K J)(n:Df K J "is_name" Iq [mJ])(L:l8 P w K J S 1 "is_text_of" [mJ,"longest","signs"] U8):l8 P w K J S 2 "is_name" [mJ] (MD 8 m8):=by
 refine n.ur AZ (λo H Q E h=>?_) (λf M A d s H o Q E u h=>?_)
 .obtain⟨x,j,rfl,_⟩:=h;rfl
 .obtain⟨x,j,rfl,g,k⟩:=h;obtain⟨t,F⟩:=T.ln;obtain⟨q,C⟩:=T.names;obtain⟨p,z⟩:=T.lets;refine⟨_,Zi (Zn (Uy (Z9 L u Y (Zj (R 0) (Zj (Yi (v:=V.int 8) Y F ⟨t,Y⟩) (Zj (Yi (v:=V.str m8) Y C ⟨q,Y⟩) Zg)))) (XH (Z5 ML (Yh VP (R 0) Zd (λ_ _=>rfl)) (Yi (v:=V.str qh) Y z ⟨p,Y⟩) (by with_unfolding_all rfl))))),?_⟩;refine⟨_,Y,x,j,8,m8,Y,g,λl sm=>⟨_,Y,?_⟩⟩;have a:∀b,b=Gx x 8 m8->Q (.bl b) l:=λb e=>e▸k l sm;refine mr (λe=>?_) (λe=>a _ ?_)
  .obtain⟨y,c,r,rfl,i⟩:=MC e;refine⟨_,Y,y,0,c,Y,Y,sS g.ri,RN i,_,_,Y,Y,a _ ?_⟩;have I:YC 8 (codes m8) (codes y)=true:=e;show _=(YC 8 (codes m8) (codes y)&&decide ((codes y).getD 0 0∈pN));rw[MQ,I,cO,vu,i];rfl
  .exact(Nl (by simpa using e)).symm
def EZ:ia [mJ] [mJ] (Ze Fc):=⟨Y,Y,Y,zC,Y,zC,zC⟩
def Q0(T:Txt K J)(n:Df K J "is_group_name" Fc [mJ])(L:l8 P w K J S 1 "is_text_of" [mJ,"longest","signs"] U8):l8 P w K J S 2 "is_group_name" [mJ] (MD 12 mD):=by
 refine n.ur EZ (λo H Q E h=>?_) (λf M A d s H o Q E u h=>?_)
 .obtain⟨x,j,rfl,_⟩:=h;rfl
 .obtain⟨x,j,rfl,g,k⟩:=h;obtain⟨t,F⟩:=T.lg;obtain⟨q,C⟩:=T.groups;obtain⟨p,z⟩:=T.lets;refine⟨_,Zi (Zn (Uy (Z9 L u Y (Zj (R 0) (Zj (Yi (v:=V.int 12) Y F ⟨t,Y⟩) (Zj (Yi (v:=V.str mD) Y C ⟨q,Y⟩) Zg)))) (XH (Z5 ML (Yh VP (R 0) Zd (λ_ _=>rfl)) (Yi (v:=V.str qh) Y z ⟨p,Y⟩) (by with_unfolding_all rfl))))),?_⟩;refine⟨_,Y,x,j,12,mD,Y,g,λl sm=>⟨_,Y,?_⟩⟩;have a:∀b,b=Gx x 12 mD->Q (.bl b) l:=λb e=>e▸k l sm;refine mr (λe=>?_) (λe=>a _ ?_)
  .obtain⟨y,c,r,rfl,i⟩:=MC e;refine⟨_,Y,y,0,c,Y,Y,sS g.ri,RN i,_,_,Y,Y,a _ ?_⟩;have I:YC 12 (codes mD) (codes y)=true:=e;show _=(YC 12 (codes mD) (codes y)&&decide ((codes y).getD 0 0∈pN));rw[MQ,I,cO,vu,i];rfl
  .exact(Nl (by simpa using e)).symm
end
end K1
namespace TB
open PySem L2 PySem.Spec PyProof.Rows
def uQ(C:G)(p a y:V)(H:Hp)(E:XK):Prop:=∀c d,H d=B->c d=O (XD d [("part",p),("at",a),("why",y)])->(∀b,b≠d->c b=H b)->E (.ref C) (O d) c
def JS(C:G):Sp:=λb H Q E=>∃p a y,b=[p,a,y]/\((y=.non/\Q .non H)\/(y≠.non/\uQ C p a y H E))
section
variable {P:a9}{w:bg}{K:af}{J:U->Option Z}{S:bC}{C:G}
def E5:ia ["part","at","why"] ["part","at","why"] (Ze T.oM):=nc
def Kj(c:wR P w K J S "BadTable" ["part","at","why"] C)(d:Df K J "refuse_row" T.oM ["part","at","why"]):oU P w K J S 3 "refuse_row" ["part","at","why"] (JS C):=by
 refine d.xF E5 λf j A b s H l Q E g h=>?_;obtain⟨p,a,y,rfl,h⟩:=h;refine⟨_,Zi (ZC (Zo V9 (R 2) ZK (Zu _)) (Zi (Xm (E:=E) c Y8 Y g Y (Zj (R 0) (Zj (R 1) (Zj (R 2) Zg))))) Zq),?_⟩;refine⟨_,Y,Y,_,Y,?_⟩;rcases h with⟨rfl,h⟩|⟨i,h⟩
 .exact kv h
 .rw[zH (by simp[i])];exact⟨_,Y,_,Y,_,Y,Y,h⟩
structure Txt(K:af)(J:U->Option Z):Prop where
 turns:∃t,J "MOST_TURNS"=O (.int 50 t)
 room:∃t,J "MOST_ROOM"=O (.int 1000 t)
 way:∃t,J "LONGEST_WAY"=O (.int 50 t)
 xg:∃t,J "MOST_PEOPLE"=O (.int 300 t)
 xv:J "isinstance"=B
 str:J "str"=B
 tup:J "tuple"=B
 lst:J "list"=B
 len:J "len"=B
noncomputable def XX(r:V):V:=if(decide (r=.non)||K1.ZD r 0 1000)=true then .non else .str "number"
def Su:Sp:=λa H Q _=>∃p n r T,a=[.ref p]/\H p=O (.tup [n,r])/\Th H r T/\Q (XX r) H
def E2:ia ["row"] ["row"] (Ze T.oh):=nc
def Kf(d:Txt K J)(g:Df K J "wrong_place" T.oh ["row"])(t:l8 P w K J S 2 "is_within" [mJ,"low","high"] K1.JR):l8 P w K J S 3 "wrong_place" ["row"] Su:=by
 obtain⟨j,o⟩:=d.room;refine g.cn E2 λf u A b s H x Q E l h=>?_;obtain⟨p,n,r,q,rfl,c,i,k⟩:=h;refine⟨_,Zb (ZC (PW.pt (JH (Zo Vi (Yh Yl (R 0) Zd (λ_ _=>rfl)) ZK (Zu _)) (X7 (Yu (Z9 t l Y (Zj (Yh Yl (R 0) Zd (λ_ _=>rfl)) (Zj Zd (Zj (Yi (v:=V.int 1000) Y o ⟨j,Y⟩) Zg)))))))) (Zi (Zn ZK)) Zq) (Zi (Zn Zf)),?_⟩;refine⟨_,Y,p,[n,r],1,r,Y,Y,lR.of c,Y,Y,_,Y,?_⟩;unfold XX at k;refine mr (λe=>?_) (λe=>?_)
 .rw[zH (by simp[e])]at k;exact kq k
 .refine⟨_,Y,p,[n,r],1,r,Y,Y,lR.of c,Y,r,q,0,1000,Y,i,_,Y,?_⟩;refine mr (λa=>?_) (λa=>?_)
  .rw[zH (by simp[a])]at k;exact k
  .rw[zG (by simpa using⟨by simpa using e,by simpa using a⟩)]at k;exact k
noncomputable def Yk(x:V)(a:List (Key×V)):Bool:=match x with
|.str z=>(j2 a (.inr z)).isSome
|_=>false
def KZ:Sp:=λb H Q _=>∃x T d a,b=[x,.ref d]/\Th H x T/\H d=O (.dK a)/\Q (.bl (Yk x a)) H
def A8:ia [mJ,"names"] [mJ,"names"] (Ze T.pR):=nc
def Eg(l:Txt K J)(n:Df K J "is_known" T.pR [mJ,"names"]):l8 P w K J S 1 "is_known" [mJ,"names"] KZ:=by
 refine n.cn A8 λf q A j s H r Q E o h=>?_;obtain⟨x,t,d,g,rfl,a,p,k⟩:=h;refine⟨_,Zi (Zn (Uy (MJ (c:="str") (R 0) Y l.xv Y l.str JQ) (XH (BR (Ft (Xx o) (R 0) (R 1)))))),?_⟩;refine⟨_,Y,_,_,_,_,Y,a.ty,a.xu,_,Y,?_⟩;have i:∀b,b=Yk x g->Q (.bl b) H:=λb e=>e▸k;refine mr (λe=>?_) (λe=>i _ ?_)
 .obtain⟨z,rfl⟩:∃z,x=.str z:=by cases a<;>first|exact⟨_,Y⟩|(exact zI (show false=true from e) aW)
  exact⟨_,Y,_,Y,d,_,Y,nY.k (k:=gM z) p,k⟩
 .cases a<;>first|rfl|(exact zI Y e)
end
end TB
namespace L2
open PySem PySem.Spec PyProof.Rows
def XA:dj "tuple"=O (.type "tuple"):=by decide +kernel
def LV:dj "list"=O (.type "list"):=by decide +kernel
def Th.yt{K:af}{H:Hp}{v:V}{T:String}(h:Th H v T):bw K (.type T) (.type "tuple")=O (decide (T="tuple")):=by cases h<;>(unfold bw;first|rfl|decide +kernel|(show _=_;simp;rfl))
end L2
namespace TB
open PySem L2 PySem.Spec PyProof.Rows
noncomputable def ZM(g:Bool)(x:V):Bool:=if g=true then K1.Gx x 12 K1.mD else K1.Gx x 8 K1.m8
noncomputable def qK(g:Bool)(n:Nat)(b:List (Key×V))(a:List V):V:=if a.length≠n then .str "form" else if ZM g (a.getD 0 .non)=false then .str "name" else if Yk (a.getD 0 .non) b=true then .str "double" else .non
def Row(H:Hp)(v:V)(r:Option (List V)):Prop:=match r with
|none=>∃T,Th H v T/\T≠"tuple"
|some a=>∃p,v=.ref p/\H p=O (.tup a)/\∀x∈a,∃T,Th H x T
noncomputable def pW(g:Bool)(n:Nat)(a:List (Key×V)):Option (List V)->V
|none=>.str "form"
|some b=>qK g n a b
structure sC(K:af)(w:bg)(J:U->Option Z):Prop where
 at_:∃a,J "ROW_SIZES"=O (.ref a)/\Je K w a "places" (.int 2)/\Je K w a "rides" (.int 6)/\Je K w a "ways" (.int 5)/\Je K w a "groups" (.int 4)
noncomputable def SW:List (U×Nat):=[("places",2),("rides",6),("ways",5),("groups",4)]
def Jo:Sp:=λc H Q _=>∃z n row r d a,c=[.str z,row,.ref d]/\(z,n)∈SW/\Row H row r/\H d=O (.dK a)/\∀b,f' H b->Q (pW (decide (z="groups")) n a r) b
section
variable {P:a9}{w:bg}{K:af}{J:U->Option Z}{S:bC}{C:G}
def E3:ia ["part","row","names_ahead","fits"] ["part","row","names_ahead"] (Ze T.mW):=nc
def Ki(zr:Txt K J)(zo:sC K w J)(zB:Df K J "wrong_beginning" T.mW ["part","row","names_ahead"])(CN:l8 P w K J S 2 "is_name" [mJ] (K1.MD 8 K1.m8))(CG:l8 P w K J S 2 "is_group_name" [mJ] (K1.MD 12 K1.mD)):l8 P w K J S 3 "wrong_beginning" ["part","row","names_ahead"] Jo:=by
 obtain⟨aS,hS,k1,k2,k3,k4⟩:=zo.at_;have nd:(["part","row","names_ahead","fits"]:List U).Nodup:=by decide +kernel
 refine zB.cn E3 λf ab A aa s H vs Q E hr h=>?_;obtain⟨z,n,row,r,d,M,rfl,hz,t,hd,k⟩:=h;have hK:Je K w aS z (.int n):=by simp only[SW,ay,jt,a8,or_false]at hz;rcases hz with⟨rfl,rfl⟩|⟨rfl,rfl⟩|⟨rfl,rfl⟩|⟨rfl,rfl⟩<;>assumption
 refine⟨_,Zb (ZC (PW.pt (JH (Yn (Yu (MJ (c:="tuple") (R 1) Y zr.xv Y zr.tup XA))) (X7 (Zo JK (Zz Vt Y zr.len bt (Zj (R 1) Zg)) (NS (Yi (v:=V.ref aS) Y hS Y) (R 0) (λ_ _=>rfl)) (Zu _))))) (Zi (Zn Zf)) Zq) (Zb (Yv (i:=3) nd Y (dD Y) (X4 (Zo Ym (R 0) Zf (Zu _)) (Z9 CG hr Y (Zj (Yh Yl (R 1) Zd (λ_ _=>rfl)) Zg)) (Z9 CN hr Y (Zj (Yh Yl (R 1) Zd (λ_ _=>rfl)) Zg)))) (Zb (ZC (Yn (Yu (R 3))) (Zi (Zn Zf)) Zq) (Zb (ZC (BN (Ft (Xx hr) (Yh Yl (R 1) Zd (λ_ _=>rfl)) (R 2))) (Zi (Zn Zf)) Zq) (Zi (Zn ZK))))),?_⟩;cases r with
|none=>obtain⟨T',L,hT⟩:=t;refine⟨_,Y,_,_,_,_,Y,L.ty,L.yt,_,Y,?_⟩;rw[zK hT];refine kq ?_;exact k H (f'.refl H)
|some F=>
  obtain⟨p,rfl,I,hx⟩:=t;have L:Th H (.ref p) "tuple":=.tup I;refine⟨_,Y,_,_,_,_,Y,L.ty,L.yt,_,Y,?_⟩;refine kv ?_;refine⟨_,Y,p,F,Y,.inr (lR.of I),_,Y,aS,z,.int n,Y,Y,hK,Y,_,Y,?_⟩;refine mr (λe=>?_) (λe=>?_)
  .have X:F.length≠n:=λq=>by rw[q]at e;simp at e
   show Q (.str "form") H;have q:=k H (f'.refl H);simpa[pW,qK,X]using q
  .have X:F.length=n:=by
    have e':(F.length:Int)=n:=by simpa using e
    omega
   obtain⟨x,r,rfl⟩:∃x r,F=x::r:=by
    cases F with
   |nil=>simp only[SW,ay,jt,a8,or_false]at hz;simp at X;omega
   |cons x r=>exact⟨x,r,Y⟩
   obtain⟨T',tx⟩:=hx x zE;have a0:∀(u:V)(l:List V),oY (u::l) 0=O u:=λu l=>Zy (xs:=u::l) (j:=0) Y;have W:∀b o,f' H o->b=ZM (decide (z="groups")) x->(if(!b)=true then Q (.str "name") o else if Yk x M=true then Q (.str "double") o else Q .non o):=by
    rintro b o sm rfl;have q:=k o sm;simp only[pW,qK,X,ne_eq,not_true_eq_false,if_false,List.getD_cons_zero]at q;cases g:ZM (decide (z="groups")) x with
   |false=>rw[zH D];rw[g,zH Y]at q;exact q
   |true=>
     rw[zG D];rw[g,zG D]at q;by_cases hk:Yk x M=true
     .rw[zH hk]at q ⊢;exact q
     .rw[zG hk]at q ⊢;exact q
   have N:∀b,b=ZM (decide (z="groups")) x->b=true->∃y,x=.str y:=by
    rintro _ rfl g;unfold ZM at g;cases x with
   |str y=>exact⟨y,Y⟩
   |_=>split at g<;>cases g
   refine⟨_,Y,Y,_,Y,?_⟩;refine mr (λe2=>?_) (λe2=>?_)
   .refine⟨_,Y,p,x::r,0,x,Y,Y,lR.of I,a0 x r,x,T',Y,tx,λo sm=>?_⟩;have g:K1.Gx x 12 K1.mD=ZM (decide (z="groups")) x:=by
     have a:z="groups":=by simpa using e2
     simp[ZM,a]
    have q:=W _ o sm g;refine⟨_,Y,_,Y,?_⟩;refine mr (λa=>?_) (λa=>?_)
    .rw[zH a]at q;exact q
    .rw[zG a]at q;obtain⟨y,rfl⟩:=N _ g (by simpa using a);exact⟨_,Y,p,_::r,0,_,Y,Y,lR.of (sm _ _ I),a0 _ r,_,Y,d,_,Y,nY.k (k:=gM y) (sm _ _ hd),_,Y,q⟩
   .refine⟨_,Y,p,x::r,0,x,Y,Y,lR.of I,a0 x r,x,T',Y,tx,λo sm=>?_⟩;have g:K1.Gx x 8 K1.m8=ZM (decide (z="groups")) x:=by
     have a:z≠"groups":=by simpa using e2
     simp[ZM,a]
    have q:=W _ o sm g;refine⟨_,Y,_,Y,?_⟩;refine mr (λa=>?_) (λa=>?_)
    .rw[zH a]at q;exact q
    .rw[zG a]at q;obtain⟨y,rfl⟩:=N _ g (by simpa using a);exact⟨_,Y,p,_::r,0,_,Y,Y,lR.of (sm _ _ I),a0 _ r,_,Y,d,_,Y,nY.k (k:=gM y) (sm _ _ hd),_,Y,q⟩
end
end TB
namespace L2
open PySem PySem.Spec PyProof.Rows
def qQ(K:af)(C:G)(m a:U)(st:b_)(c:List U):Prop:=∃f b,rQ K m a st f b/\Meth K C m f/\Binds K b c []
def nG(P:a9)(w:bg)(K:af)(J:U->Option Z)(S:bC)(c:sJ)(k:Nat)(C:G)(m:U)(a:List U)(sp:Sp):Prop:=∃f b,m7 P w K J S c k f b a sp/\Meth K C m f/\Binds K b a []
section
variable {P:a9}{w:bg}{K:af}{J:U->Option Z}{S:bC}{C:G}{m qual:U}{st:b_}{N ps:List U}{k:Nat}{sp:Sp}
theorem nG.mono{j:Nat}(c:nG P w K J S b j C m ps sp)(h:j<=k):nG P w K J S b k C m ps sp:=by obtain⟨f,a,F,r⟩:=c;exact⟨f,a,F.mono h,r⟩
def qQ.ur(j:qQ K C m qual st ps)(i:ia N ps (Ze st))(len:∀d H Q E,sp d H Q E->d.length=ps.length)(g:∀(f:G)(c:Z)(A:bU)(a:List jI)(s:ao)(H:Hp)(d:List V)(Q:VK)(E:XK),l9 k (A.deeper (f_ qual (Ze st) s.heap.objs.size f c))->sp d H Q E ->∃t,qg (nr qf P w K J S N qual (Ze st) f c A a s H E).wG (ZT st) t/\t {nx:=λ_ p=>Q .non p,rt:=Q} (start N d) H):nG P w K J S qf (k+1) C m ps sp:=by obtain⟨f,o,F,l,b⟩:=j;exact⟨f,o,F.ok i len (λc A a s H d Q E n h=>g f c A a s H d Q E n h),l,b⟩
def qQ.uq(j:qQ K C m qual st ps)(i:ia N ps (Ze st))(len:∀d H Q E,sp d H Q E->d.length=ps.length)(g:∀(f:G)(c:Z)(A:bU)(a:List jI)(s:ao)(H:Hp)(d:List V)(Q:VK)(E:XK),l9 k (A.deeper (f_ qual (Ze st) s.heap.objs.size f c))->sp d H Q E ->∃t,qg (nr (oV P w) P w K J S N qual (Ze st) f c A a s H E) (ZT st) t/\t {nx:=λ_ p=>Q .non p,rt:=Q} (start N d) H):nG P w K J S (oV P w) (k+1) C m ps sp:=by obtain⟨f,o,F,l,b⟩:=j;exact⟨f,o,F.z8 i len (λc A a s H d Q E n h=>g f c A a s H d Q E n h),l,b⟩
def qQ.cn(j:qQ K C m qual st ps)(i:ia N ps (Ze st))(c:∀(f:G)(g:Z)(A:bU)(b:List jI)(s:ao)(H:Hp)(d:List V)(Q:VK)(E:XK),l9 k (A.deeper (f_ qual (Ze st) s.heap.objs.size f g))->sp d H Q E ->∃t,qg (nr qf P w K J S N qual (Ze st) f g A b s H E).wG (ZT st) t/\t {nx:=λ_ l=>Q .non l,rt:=Q} (start N d) H)(len:∀d H Q E,sp d H Q E->d.length=ps.length:=by intro _ _ _ _ h;repeat (obtain⟨a,h⟩:=h;first|(subst a;rfl)|skip)):nG P w K J S qf (k+1) C m ps sp:=j.ur i len c
def qQ.xF(j:qQ K C m qual st ps)(i:ia N ps (Ze st))(c:∀(f:G)(g:Z)(A:bU)(b:List jI)(s:ao)(H:Hp)(d:List V)(Q:VK)(E:XK),l9 k (A.deeper (f_ qual (Ze st) s.heap.objs.size f g))->sp d H Q E ->∃t,qg (nr (oV P w) P w K J S N qual (Ze st) f g A b s H E) (ZT st) t/\t {nx:=λ_ l=>Q .non l,rt:=Q} (start N d) H)(len:∀d H Q E,sp d H Q E->d.length=ps.length:=by intro _ _ _ _ h;repeat (obtain⟨a,h⟩:=h;first|(subst a;rfl)|skip)):nG P w K J S (oV P w) (k+1) C m ps sp:=j.uq i len c
end
section
variable {X:Cx}{CX:sJ}{k:Nat}{C:G}{ps:List U}{sp:Sp}{E:XK}{m:U}{pos apos:iG}{e o:bV}{es:List bV}{ta:TE}{t:TA}
def Jh (c:nG X.prog X.w X.K X.mg X.base CX k C m ps sp)(q:t8 X.K C)(i:Yx CX X E)(l:l9 k X.A)(n:PE X o ta)(p:PA X (e::es) t)
  (a:bf (e::es) X.env=(false,cM e X.env)::bf es X.env:=by rfl) (d:(eh pos (bf es X.env)).any (·.1)=false:=by rfl)
  (j:cM (.Call (.Attribute o m apos) (e::es) [] pos) X.env=(do
   let g <-cM o X.env
   standAt apos.atName
   let (f,first) <-jx [g] (jX g m r)
   callWith pos f first (eh pos (bf (e::es) X.env)) (iL pos (fY [] X.env))):=by rfl):
  PE X (.Call (.Attribute o m apos) (e::es) [] pos) (QC C m sp [] E ta t):=by
 obtain⟨f,s,F,h,b⟩:=c
 exact Ow n q h F l b .nil i p a d j
end
end L2
namespace TB
open PySem L2 PySem.Spec PyProof.Rows
noncomputable def fields:List U:=["turns","places",rN,"rides","ride_by_name","ways","way_by_name","groups","group_by_name"]
structure rH(K:af)(C:G):Prop where
 cl:t8 K C
 na:∀f∈fields,YL K C f
structure Tab(H:Hp)(C t:G)(fs:List (U×V)):Prop where
 at_:∃dx,H t=O (.ins C dx fs)
 only:∀g,g∉fields->fs.lookup g=B
section
variable {P:a9}{w:bg}{K:af}{J:U->Option Z}{S:bC}{C:G}
def K0(C:G)(fld:U):Sp:=λb H Q _=>∃t x T fs d a,b=[.ref t,x]/\Tab H C t fs/\fs.lookup fld=O (.ref d)/\H d=O (.dK a)/\Th H x T/\Q (.bl (Yk x a)) H
def Zau:ia [mG,mJ] [mG,mJ] (Ze T.m9):=nc
def TZ(c:rH K C)(g:qQ K C "is_place" "Table.is_place" T.m9 [mG,mJ])(r:l8 P w K J S 1 "is_known" [mJ,"names"] KZ):nG P w K J S qf 2 C "is_place" [mG,mJ] (K0 C rN):=by refine g.cn Zau λf u A b s H y Q E l h=>?_;obtain⟨t,x,q,fs,d,a,rfl,⟨⟨p,j⟩,_⟩,n,o,i,k⟩:=h;refine⟨_,Zi (Zn (Z9 r l Y (Zj (R 1) (Zj (Yw (R 0) Y) Zg)))),?_⟩;exact⟨_,Y,_,Y,t,C,p,fs,_,Y,j,c.cl,c.na _ (by simp[fields]),n,x,q,d,a,Y,i,o,k⟩
noncomputable def QQ(x:V)(a:List (Key×V)):Bool:=match x with
|.str z=>decide (j2 a (.inr z)=O .non)
|_=>false
def Uc  (h:Yk x a=true):∃z v,x=.str z/\j2 a (.inr z)=O v:=by
 cases x with
|str z=>have b:(j2 a (.inr z)).isSome=true:=h;exact⟨z,_,Y,(Option.some_get b).symm⟩
|_=>cases h
def W5  (h:Yk x a=false):QQ x a=false:=by
 cases x with
|str z=>
  have b:(j2 a (.inr z)).isSome=false:=h;show decide (j2 a (.inr z)=O .non)=false;cases e:j2 a (.inr z)with
 |none=>simp
 |some v=>rw[e]at b;cases b
|_=>rfl
def Sz(C:G):Sp:=λb H Q _=>∃t x T fs d a,b=[.ref t,x]/\Tab H C t fs/\fs.lookup (rN:U)=O (.ref d)/\H d=O (.dK a)/\Th H x T/\Q (.bl (QQ x a)) H
def E8:ia [mG,mJ] [mG,mJ] (Ze T.nA):=nc
def Kn(g:rH K C)(r:qQ K C "is_home" "Table.is_home" T.nA [mG,mJ])(L:nG P w K J S qf 2 C "is_place" [mG,mJ] (K0 C rN)):nG P w K J S qf 3 C "is_home" [mG,mJ] (Sz C):=by
 refine r.cn E8 λf M A j s H N Q E o h=>?_;obtain⟨t,x,I,fs,d,a,rfl,i,p,q,u,k⟩:=h;obtain⟨F,n⟩:=id i.at_;refine⟨_,Zi (Zn (Uy (Jh L g.cl Ul o (R 0) (Zj (R 1) Zg)) (XH (Z5 Vi (XS (Xx o) (Yw (R 0) Y) (R 1) (λ_ _=>rfl)) ZK (by with_unfolding_all rfl))))),?_⟩;refine vj n (i.only _ zC) ⟨_,Y,t,x,I,fs,d,a,Y,i,p,q,u,_,Y,?_⟩;have c:∀b,b=QQ x a->Q (.bl b) H:=λb e=>e▸k;refine mr (λe=>?_) (λe=>c _ ?_)
 .obtain⟨z,v,rfl,l⟩:=Uc e;refine⟨_,Y,t,C,F,fs,_,Y,n,g.cl,g.na _ (by simp[fields]),p,_,Y,d,v,Y,(by rw[<-l];exact nY.k (k:=gM z) q),Y,c _ ?_⟩;show decide (v=.non)=decide (j2 a (.inr z)=O .non);rw[l];simp
 .have y:Yk x a=false:=by simpa using e
  exact(W5 y).symm
noncomputable def Xf(a:List (Key×V))(s g:V):V:=if(!Yk s a||!Yk g a)=true then .str "place" else if QQ s a=true then .str "home" else if g=s then .str "alike" else .non
def Wx(C:G):Sp:=λb H Q _=>∃t x y T c fs d a,b=[.ref t,x,y]/\Tab H C t fs/\fs.lookup (rN:U)=O (.ref d)/\H d=O (.dK a)/\Th H x T/\Th H y c/\Q (Xf a x y) H
def BA:ia [nu,"start","goal"] [nu,"start","goal"] (Ze T.nM):=nc
def Ao(g:rH K C)(N:Df K J "wrong_ends" T.nM [nu,"start","goal"])(M:nG P w K J S qf 2 C "is_place" [mG,mJ] (K0 C rN))(X:nG P w K J S qf 3 C "is_home" [mG,mJ] (Sz C)):l8 P w K J S 4 "wrong_ends" [nu,"start","goal"] (Wx C):=by
 refine N.cn BA λf q A r s H vs Q E I h=>?_;obtain⟨t,x,y,L,W,fs,d,a,rfl,b,j,l,u,ty,k⟩:=h;obtain⟨dx,i⟩:=id b.at_;have c:l9 2 (A.deeper (f_ "wrong_ends" (Ze T.nM) s.heap.objs.size f q)):=I.mono D;refine⟨_,Zb (ZC (PW.pt (JH (Yn (Yu (Jh M g.cl Ul c (R 0) (Zj (R 1) Zg)))) (X7 (Yn (Yu (Jh M g.cl Ul c (R 0) (Zj (R 2) Zg))))))) (Zi (Zn Zf)) Zq) (Zb (ZC (Yu (Jh X g.cl Ul I (R 0) (Zj (R 1) Zg))) (Zi (Zn Zf)) Zq) (Zb (ZC (Zo Ym (R 2) (R 1) (Zu _)) (Zi (Zn Zf)) Zq) (Zi (Zn ZK)))),?_⟩;unfold Xf at k;refine vj i (b.only _ zC) ⟨_,Y,t,x,L,fs,d,a,Y,b,j,l,u,_,Y,?_⟩;refine mr (λe=>?_) (λe=>?_)
 .rw[zH (by rw[e];rfl)]at k;exact kq k
 .refine vj i (b.only _ zC) ⟨_,Y,t,y,W,fs,d,a,Y,b,j,l,ty,_,Y,?_⟩;refine mr (λp=>?_) (λp=>?_)
  .rw[zH (by rw[p];simp)]at k;exact k
  .have F:Yk x a=true:=by simpa using e
   have z:Yk y a=true:=by simpa using p
   rw[zG (by rw[F,z];decide)]at k;refine vj i (b.only _ zC) ⟨_,Y,t,x,L,fs,d,a,Y,b,j,l,u,_,Y,?_⟩;refine mr (λo=>?_) (λo=>?_)
   .rw[zH o]at k;exact k
   .rw[zG o]at k;obtain⟨zx,_,rfl,_⟩:=Uc F;obtain⟨zy,_,rfl,_⟩:=Uc z;refine⟨_,Y,_,Y,Y,_,Y,?_⟩;refine mr (λn=>?_) (λn=>?_)
    .rw[zH (by simpa using n)]at k;exact k
    .rw[zG (by simpa using n)]at k;exact k
noncomputable def Nt(b:List (Key×V))(n:Int)(s l g a m:V):V:=if Xf b s g≠.non then Xf b s g else match l with
 |.int i=>if(!K1.ZD (.int i) 0 (n-1)||!K1.ZD a (i+1) n)=true then .str "turn" else if(!K1.ZD m 0 1000)=true then .str "number" else .non
 |_=>.str "turn"
noncomputable def rh(a:List (Key×V))(s g l m:V):V:=if Xf a s g≠.non then Xf a s g else if(!K1.ZD l 1 50||!K1.ZD m 0 1000)=true then .str "number" else .non
def qc{a:Type}{b:List a}(j:Nat){v:a}(h:b[j]?=O v):oY b (j:Int)=O v:=Zy h
def EF(C:G):Sp:=λj H Q _=>∃t p i h g f c b fs d a n,j=[.ref t,.ref p]/\Tab H C t fs/\fs.lookup (rN:U)=O (.ref d)/\fs.lookup ("turns":U)=O (.int n)/\H d=O (.dK a) /\H p=O (.tup [i,h,g,f,c,b])/\(∀x∈[i,h,g,f,c,b],∃T,Th H x T)/\Q (Nt a n h g f c b) H
def Bz:ia [nu,"row","leave","why"] [nu,"row"] (Ze T.nK):=nc
def Ae(zr:Txt K J)(y:rH K C)(zB:Df K J "wrong_ride" T.nK [nu,"row"])(M:l8 P w K J S 2 "is_within" [mJ,"low","high"] K1.JR)(CE:l8 P w K J S 4 "wrong_ends" [nu,"start","goal"] (Wx C)):l8 P w K J S 5 "wrong_ride" [nu,"row"] (EF C):=by
 obtain⟨t1,h1⟩:=zr.room;have nd:([nu,"row","leave","why"]:List U).Nodup:=by decide +kernel
 refine zB.cn Bz λf ah A ai s H vs Q E hr h=>?_;obtain⟨t,p,x0,r,j,o,g,l,fs,d,b,n,rfl,tb,hl,hn,hd,x,u,k⟩:=h;obtain⟨dx,ht⟩:=id tb.at_;obtain⟨T1,ab⟩:=u r zE;obtain⟨T2,aa⟩:=u j zE;obtain⟨T3,X⟩:=u o zE;obtain⟨T4,W⟩:=u g zE;obtain⟨T5,N⟩:=u l zE;have c:l9 2 (A.deeper (f_ "wrong_ride" (Ze T.nK) s.heap.objs.size f ah)):=hr.mono D;refine⟨_,Zb (Yv (i:=2) nd Y (dD Y) (Yh Yl (R 1) Zd (λ_ _=>rfl))) (Zb (Yv (i:=3) nd Y (dD Y) (Z9 CE hr Y (Zj (R 0) (Zj (Yh Yl (R 1) Zd (λ_ _=>rfl)) (Zj (Yh Yl (R 1) Zd (λ_ _=>rfl)) Zg))))) (Zb (ZC (Zo V9 (R 3) ZK (Zu _)) (Zi (Zn (R 3))) Zq) (Zb (ZC (PW.pt (JH (Yn (Yu (Z9 M c Y (Zj (R 2) (Zj Zd (Zj (Zv MK (Yw (R 0) Y) Zd) Zg)))))) (X7 (Yn (Yu (Z9 M c Y (Zj (Yh Yl (R 1) Zd (λ_ _=>rfl)) (Zj (Zv Z3 (R 2) Zd) (Zj (Yw (R 0) Y) Zg))))))))) (Zi (Zn Zf)) Zq) (Zb (ZC (Yn (Yu (Z9 M c Y (Zj (Yh Yl (R 1) Zd (λ_ _=>rfl)) (Zj Zd (Zj (Yi (v:=V.int 1000) Y h1 ⟨t1,Y⟩) Zg)))))) (Zi (Zn Zf)) Zq) (Zi (Zn ZK)))))),?_⟩;refine⟨_,Y,p,_,2,j,Y,Y,lR.of x,qc 2 Y,?_⟩;refine⟨_,Y,_,Y,p,_,1,r,Y,Y,lR.of x,qc 1 Y,_,Y,p,_,3,o,Y,Y,lR.of x,qc 3 Y,t,r,o,T1,T3,fs,d,b,Y,tb,hl,hd,ab,X,?_⟩;unfold Nt at k;refine⟨_,Y,Y,_,Y,?_⟩;refine mr (λe=>?_) (λe=>?_)
 .have L:Xf b r o≠.non:=by simpa using e
  rw[zH L]at k;exact⟨_,Y,k⟩
 .have L:¬Xf b r o≠.non:=by simpa using e
  rw[zG L]at k;refine⟨_,Y,_,Y,t,C,dx,fs,_,Y,ht,y.cl,y.na _ (by simp[fields]),hn,_,_,Y,Y,j,T2,0,n-1,Y,aa,_,Y,?_⟩;refine mr (λz=>?_) (λz=>?_)
  .have q:Q (.str "turn") H:=by
    cases j with
   |int i=>
     have a:Q (if(!K1.ZD (.int i) 0 (n-1)||!K1.ZD g (i+1) n)=true then V.str "turn" else if(!K1.ZD l 0 1000)=true then .str "number" else .non) H:=k
     rw[zH (by rw[z];rfl)]at a;exact a
   |_=>exact k
   exact kq q
  .obtain⟨i,rfl⟩:∃i,j=.int i:=by
    cases j with
   |int i=>exact⟨i,Y⟩
   |_=>exact zI Y z
   have a:Q (if(!K1.ZD (.int i) 0 (n-1)||!K1.ZD g (i+1) n)=true then V.str "turn" else if(!K1.ZD l 0 1000)=true then .str "number" else .non) H:=k
   have w1:K1.ZD (.int i) 0 (n-1)=true:=by simpa using z
   rw[w1]at a;refine⟨_,Y,p,_,4,g,Y,Y,lR.of x,qc 4 Y,_,Y,_,_,Y,Y,_,Y,t,C,dx,fs,_,Y,ht,y.cl,y.na _ (by simp[fields]),hn,g,T4,i+1,n,Y,W,_,Y,?_⟩;refine mr (λI=>?_) (λI=>?_)
   .rw[zH (by rw[I];rfl)]at a;exact a
   .have w2:K1.ZD g (i+1) n=true:=by simpa using I
    rw[w2,zG D]at a;refine⟨_,Y,p,_,5,l,Y,Y,lR.of x,qc 5 Y,l,T5,0,1000,Y,N,_,Y,?_⟩;refine mr (λF=>?_) (λF=>?_)
    .rw[zH F]at a;exact a
    .rw[zG F]at a;exact a
noncomputable def Js(a:List (Key×V))(n b:Int)(p t m:V):V:=if(!Yk p a)=true then .str "place" else if(!K1.ZD t 0 n)=true then .str "turn" else match m with
 |.int i=>if(!K1.ZD (.int i) 0 300)=true then .str "number" else if b+i>300 then .str "people" else .non
 |_=>.str "number"
def Ik(C:G):Sp:=λi H Q _=>∃t p h g f c b fs d a,i=[.ref t,.ref p]/\Tab H C t fs/\fs.lookup (rN:U)=O (.ref d)/\H d=O (.dK a) /\H p=O (.tup [h,g,f,c,b])/\(∀x∈[h,g,f,c,b],∃T,Th H x T)/\Q (rh a g f c b) H
def Zat:ia [nu,"row","why"] [nu,"row"] (Ze T.n_):=nc
def O0(M:Txt K J)(zo:rH K C)(zB:Df K J "wrong_way" T.n_ [nu,"row"])(X:l8 P w K J S 2 "is_within" [mJ,"low","high"] K1.JR)(CE:l8 P w K J S 4 "wrong_ends" [nu,"start","goal"] (Wx C)):l8 P w K J S 5 "wrong_way" [nu,"row"] (Ik C):=by
 obtain⟨t1,h1⟩:=M.room;obtain⟨t2,h2⟩:=M.way;have nd:([nu,"row","why"]:List U).Nodup:=by decide +kernel
 refine zB.cn Zat λf I A L s H vs Q E W h=>?_;obtain⟨t,p,x0,c,b,l,j,fs,d,a,rfl,N,hl,hd,o,n,k⟩:=h;obtain⟨dx,ht⟩:=id N.at_;obtain⟨T1,F⟩:=n c zE;obtain⟨T2,z⟩:=n b zE;obtain⟨T3,y⟩:=n l zE;obtain⟨T4,x⟩:=n j zE;have g:l9 2 (A.deeper (f_ "wrong_way" (Ze T.n_) s.heap.objs.size f I)):=W.mono D;refine⟨_,Zb (Yv (i:=2) nd Y (dD Y) (Z9 CE W Y (Zj (R 0) (Zj (Yh Yl (R 1) Zd (λ_ _=>rfl)) (Zj (Yh Yl (R 1) Zd (λ_ _=>rfl)) Zg))))) (Zb (ZC (Zo V9 (R 2) ZK (Zu _)) (Zi (Zn (R 2))) Zq) (Zb (ZC (PW.pt (JH (Yn (Yu (Z9 X g Y (Zj (Yh Yl (R 1) Zd (λ_ _=>rfl)) (Zj Zd (Zj (Yi (v:=V.int 50) Y h2 ⟨t2,Y⟩) Zg)))))) (X7 (Yn (Yu (Z9 X g Y (Zj (Yh Yl (R 1) Zd (λ_ _=>rfl)) (Zj Zd (Zj (Yi (v:=V.int 1000) Y h1 ⟨t1,Y⟩) Zg))))))))) (Zi (Zn Zf)) Zq) (Zi (Zn ZK)))),?_⟩;refine⟨_,Y,_,Y,p,_,1,c,Y,Y,lR.of o,qc 1 Y,_,Y,p,_,2,b,Y,Y,lR.of o,qc 2 Y,t,c,b,T1,T2,fs,d,a,Y,N,hl,hd,F,z,?_⟩;unfold rh at k;refine⟨_,Y,Y,_,Y,?_⟩;refine mr (λe=>?_) (λe=>?_)
 .have u:Xf a c b≠.non:=by simpa using e
  rw[zH u]at k;exact⟨_,Y,k⟩
 .have u:¬Xf a c b≠.non:=by simpa using e
  rw[zG u]at k;refine⟨_,Y,p,_,3,l,Y,Y,lR.of o,qc 3 Y,l,T3,1,50,Y,y,_,Y,?_⟩;refine mr (λr=>?_) (λr=>?_)
  .rw[zH (by rw[r];rfl)]at k;exact kq k
  .have w1:K1.ZD l 1 50=true:=by simpa using r
   rw[w1]at k;refine⟨_,Y,p,_,4,j,Y,Y,lR.of o,qc 4 Y,j,T4,0,1000,Y,x,_,Y,?_⟩;refine mr (λq=>?_) (λq=>?_)
   .rw[zH (by rw[q];rfl)]at k;exact k
   .have w2:K1.ZD j 0 1000=true:=by simpa using q
    rw[w2,zG D]at k;exact k
def K3(C:G):Sp:=λi H Q _=>∃t p g f c b fs d a n h,i=[.ref t,.ref p,.int h]/\Tab H C t fs/\fs.lookup (rN:U)=O (.ref d)/\fs.lookup ("turns":U)=O (.int n)/\H d=O (.dK a) /\H p=O (.tup [g,f,c,b])/\(∀x∈[g,f,c,b],∃T,Th H x T)/\Q (Js a n h f c b) H
def A9:ia [nu,"row","people_ahead"] [nu,"row","people_ahead"] (Ze T.oi):=nc
def Kh(zr:Txt K J)(j:rH K C)(zB:Df K J "wrong_group" T.oi [nu,"row","people_ahead"])(CI:l8 P w K J S 2 "is_within" [mJ,"low","high"] K1.JR)(CP:nG P w K J S qf 2 C "is_place" [mG,mJ] (K0 C rN)):l8 P w K J S 3 "wrong_group" [nu,"row","people_ahead"] (K3 C):=by
 obtain⟨N,h1⟩:=zr.xg;refine zB.cn A9 λf aa A M s H vs Q E u h=>?_;obtain⟨t,p,x0,o,l,b,fs,d,z,n,W,rfl,q,hl,hn,hd,c,r,k⟩:=h;obtain⟨dx,X⟩:=id q.at_;obtain⟨T1,L⟩:=r o zE;obtain⟨T2,I⟩:=r l zE;obtain⟨T3,F⟩:=r b zE;refine⟨_,Zb (ZC (Yn (Yu (Jh CP j.cl Ul u (R 0) (Zj (Yh Yl (R 1) Zd (λ_ _=>rfl)) Zg)))) (Zi (Zn Zf)) Zq) (Zb (ZC (Yn (Yu (Z9 CI u Y (Zj (Yh Yl (R 1) Zd (λ_ _=>rfl)) (Zj Zd (Zj (Yw (R 0) Y) Zg)))))) (Zi (Zn Zf)) Zq) (Zb (ZC (Yn (Yu (Z9 CI u Y (Zj (Yh Yl (R 1) Zd (λ_ _=>rfl)) (Zj Zd (Zj (Yi (v:=V.int 300) Y h1 ⟨N,Y⟩) Zg)))))) (Zi (Zn Zf)) Zq) (Zb (ZC (Zo JW (Zv Z3 (R 2) (Yh Yl (R 1) Zd (λ_ _=>rfl))) (Yi (v:=V.int 300) Y h1 ⟨N,Y⟩) (Zu _)) (Zi (Zn Zf)) Zq) (Zi (Zn ZK))))),?_⟩;unfold Js at k;refine vj X (q.only _ zC) ⟨_,Y,p,_,1,o,Y,Y,lR.of c,qc 1 Y,t,o,T1,fs,d,z,Y,q,hl,hd,L,_,Y,?_⟩;refine mr (λe=>?_) (λe=>?_)
 .rw[zH e]at k;exact k
 rw[zG e]at k;refine⟨_,Y,p,_,2,l,Y,Y,lR.of c,qc 2 Y,_,Y,t,C,dx,fs,_,Y,X,j.cl,j.na _ (by simp[fields]),hn,l,T2,0,n,Y,I,_,Y,?_⟩;refine mr (λy=>?_) (λy=>?_)
 .rw[zH y]at k;exact k
 rw[zG y]at k;refine⟨_,Y,p,_,3,b,Y,Y,lR.of c,qc 3 Y,b,T3,0,300,Y,F,_,Y,?_⟩;refine mr (λg=>?_) (λg=>?_)
 .cases b with
 |int i=>have a:Q (if(!K1.ZD (.int i) 0 300)=true then V.str "number" else if W+i>300 then .str "people" else .non) H:=k;rw[zH g]at a;exact a
 |_=>exact k
 .obtain⟨i,rfl⟩:∃i,b=.int i:=by
   cases b with
  |int i=>exact⟨i,Y⟩
  |_=>exact zI Y g
  have a:Q (if(!K1.ZD (.int i) 0 300)=true then V.str "number" else if W+i>300 then .str "people" else .non) H:=k;rw[zG g]at a;refine⟨_,Y,_,Y,p,_,3,_,Y,Y,lR.of c,qc 3 Y,_,_,Y,Y,_,_,Y,Y,_,Y,?_⟩;refine mr (λx=>?_) (λx=>?_)
  .rw[zH (by simpa using x)]at a;exact a
  .rw[zG (by simpa using x)]at a;exact a
end
end TB
namespace L2
open PySem PySem.Spec PyProof.Rows
def Zh   (x:f' H a)(b:a l=B):f' H (upd a l o):=λc u h=>by rw[Zk (Zp (x c u h) b)];exact x c u h
def nl {H:Hp}{o:HO}{zr:Hp->Prop}(h:H c=B)(k:∀a,f' H a->a c=O o->zr a):zr (upd H c o):=k _ (Zh (λ_ _ e=>e) h) Zc
def nlE {H:Hp}{o b:HO}{zr:Hp->Prop}(e:o=b)(h:H c=B)(k:∀a,f' H a->a c=O b->zr a):zr (upd H c o):=k _ (Zh (λ_ _ e=>e) h) (by rw[Zc,e])
def nZ{c:G}{H:Hp}{o:HO}{b:Type}{q:b}{zr:Hp->b->Prop}(h:H c=B)(k:∀a,f' H a->a c=O o->zr a q):zr (upd H c o) q:=nl (zr:=λH=>zr H q) h k
theorem KC:∀{a:List String}{b:List Z},Zt (a.map V.ty) b->b=a.map fT
|[],_,h=>by cases h;rfl
|c::a,_,h=>by
  cases h with
 |cons r t=>have e:=KC t;cases(show _=fT c from r);rw[e];rfl
section
variable {X:Cx}
def Ej:XF X (.builtin "isinstance") (λg H Q=>∃(x:V)(p:G)(A:List String)(T:String)(b:Bool),g=[x,.ref p]/\Th H x T/\H p=O (.tup (A.map V.ty))/\lS X.K (.type T) (A.map fT)=O b/\Q (.bl b) H):=by
 intro C s σ H g us Q I r h;obtain⟨x,p,A,T,b,rfl,th,hp,e,q⟩:=h;obtain⟨u,w',rfl,d,L⟩:=vals2 r;cases(show w'=aN p from L);obtain⟨_,ab,rv,⟨oc,od,M,aa⟩,f,hc,n,P⟩:=(show ZY X.prog X.w H s.heap p (.tup (A.map V.ty))from I.lI p _ hp);have ei:=KC rv;subst ei;obtain rfl:oc=.type "tuple":=hc;obtain rfl:M=.seq (A.map fT).toArray n:=P;have c:∀E,EP X C σ Q (.bool b) {s with toks:=E}:=λE=>⟨.bl b,H,I.tok E,Y,q⟩;cases th with
|non=>cases(show u=b9 from d);exact gi PySem.W.kitx_none I.nE dE f e (λz=>nomatch z) c
|bl y=>cases(show u=kE y from d);exact gi PySem.W.kitx_bool I.nE dE f e (λz=>nomatch z) c
|int i=>obtain⟨t,z⟩:=(show ∃t,u=j7 i t from d);cases z;exact gi PySem.W.kitx_int I.nE dE f e (λz=>nomatch z) c
|str y _=>obtain⟨t,z⟩:=(show ∃t,u=iH y t from d);cases z;exact gi PySem.W.kitx_str I.nE dE f e (λz=>nomatch z) c
|@lst a g l=>cases(show u=aN a from d);obtain⟨_,_,n',_,j⟩:=(show ZY X.prog X.w H s.heap a (.lst g)from I.lI a _ l);exact gi kL I.nE ⟨_,j,Y⟩ f e (λz=>nomatch z) c
|@tup a g l=>cases(show u=aN a from d);obtain⟨_,_,_,o,j,F,_⟩:=(show ZY X.prog X.w H s.heap a (.tup g)from I.lI a _ l);exact gi PySem.W.kitx_tuple I.nE ⟨o,j,F⟩ f e (λz=>nomatch z) c
|@dK a N l=>cases(show u=aN a from d);obtain⟨_,_,vs,_,o,es,ep,j,F,_⟩:=(show ZY X.prog X.w H s.heap a (.dK N)from I.lI a _ l);exact gi kM I.nE ⟨o,j,F.1⟩ f e (λz=>nomatch z) c
end
def Th.wL{K:af}{H:Hp}{v:V}{T:String}(h:Th H v T):lS K (.type T) (["list","tuple"].map fT)=O (decide (T="list"\/T="tuple")):=by cases h<;>(first|kernel_rfl|(unfold lS;rfl))
end L2
namespace TB
open PySem L2 PySem.Spec PyProof.Rows
structure sE(K:af)(w:bg)(J:U->Option Z):Prop where
 at_:∃a,J "MOST_ROWS"=O (.ref a)/\Je K w a "places" (.int 14)/\Je K w a "rides" (.int 80)/\Je K w a "ways" (.int 40)/\Je K w a "groups" (.int 300)
noncomputable def SX:List (U×Nat):=[("places",14),("rides",80),("ways",40),("groups",300)]
def WT(H:Hp)(v:V)(r:Option (List V)):Prop:=match r with
|none=>∃T,Th H v T/\T≠"list"/\T≠"tuple"
|some a=>∃p,v=.ref p/\(H p=O (.lst a)\/H p=O (.tup a))
def Rg(C:G):Sp:=λc H Q E=>∃z n v r,c=[.str z,v]/\(z,n)∈SX/\WT H v r/\match r with
|none=>∀a,f' H a->uQ C (.str z) .non (.str "form") a E
|some b=>if b.length>n then ∀a,f' H a->uQ C (.str z) (.int n) (.str "many") a E else ∀a l,f' H a->a l=O (.tup b)->Q (.ref l) a
section
variable {P:a9}{w:bg}{K:af}{J:U->Option Z}{S:bC}{C:G}
def By:ia ["part","rows"] ["part","rows"] (Ze T.qj):=nc
def Ad(c:Txt K J)(M:sE K w J)(t:wR P w K J S "BadTable" ["part","at","why"] C)(L:Df K J "rows_of" T.qj ["part","rows"]):oU P w K J S 3 "rows_of" ["part","rows"] (Rg C):=by
 obtain⟨g,y,k1,k2,k3,k4⟩:=M.at_;refine L.xF By λf aa A q s H vs Q E x h=>?_;obtain⟨z,n,v,r,rfl,u,hp,h⟩:=h;have F:Je K w g z (.int n):=by simp only[SX,ay,jt,a8,or_false]at u;rcases u with⟨rfl,rfl⟩|⟨rfl,rfl⟩|⟨rfl,rfl⟩|⟨rfl,rfl⟩<;>assumption
 refine⟨_,Zb (ZC (Yn (Yu (Zz Ej Y c.xv kD (Zj (R 1) (Zj (Yo (Zj (Rz (v:=V.ty "list") Y c.lst LV Y) (Zj (Rz (v:=V.ty "tuple") Y c.tup XA Y) Zg))) Zg))))) (Zi (Xm (E:=E) t Y8 Y x Y (Zj (R 0) (Zj ZK (Zj Zf Zg))))) Zq) (Zb (ZC (Zo JW (Zz Vt Y c.len bt (Zj (R 1) Zg)) (NS (Yi (v:=V.ref g) Y y Y) (R 0) (λ_ _=>rfl)) (Zu _)) (Zi (Xm (E:=E) t Y8 Y x Y (Zj (R 0) (Zj (NS (Yi (v:=V.ref g) Y y Y) (R 0) (λ_ _=>rfl)) (Zj Zf Zg))))) Zq) (Zi (Zn (ZE YH Y c.tup XA (Zj (R 1) Zg))))),?_⟩;cases r with
|none=>obtain⟨a,d,W,N⟩:=hp;refine⟨_,Y,zl,λl i=>?_⟩;have sm:f' H (upd H l (.tup [V.ty "list",V.ty "tuple"])):=Zh (f'.refl H) i;refine⟨v,l,["list","tuple"],a,_,Y,d.same sm,Zc ..,(d.same sm).wL,_,Y,?_⟩;rw[zK (by simp[W,N])];refine kq ?_;exact⟨_,Y,Y,h _ sm⟩
|some b=>
  obtain⟨p,rfl,hp⟩:=hp;obtain⟨a,d,hT⟩:∃a,Th H (.ref p) a/\(a="list"\/a="tuple"):=by
   rcases hp with hp|hp
   .exact⟨_,.lst hp,.inl Y⟩
   .exact⟨_,.tup hp,.inr Y⟩
  refine⟨_,Y,zl,λl i=>?_⟩;have sm:f' H (upd H l (.tup [V.ty "list",V.ty "tuple"])):=Zh (f'.refl H) i;refine⟨.ref p,l,["list","tuple"],a,_,Y,d.same sm,Zc ..,(d.same sm).wL,_,Y,?_⟩;rw[zJ hT];refine kv ?_;generalize upd H l (.tup [V.ty "list",V.ty "tuple"])=I at sm ⊢;have hs:jw K I p b\/lR K I p b:=by
   rcases hp with hp|hp
   .exact .inl (jw.of (sm _ _ hp))
   .exact .inr (lR.of (sm _ _ hp))
  refine⟨_,Y,p,b,Y,hs,_,Y,g,z,.int n,Y,Y,F,_,_,Y,Y,_,Y,?_⟩;dsimp only at h;refine mr (λe=>?_) (λe=>?_)
  .have j:b.length>n:=by simpa using e
   rw[zH j]at h;exact⟨_,Y,_,Y,g,z,.int n,Y,Y,F,Y,h _ sm⟩
  .have j:¬b.length>n:=by simpa using e
   rw[zG j]at h;refine⟨_,Y,p,b,Y,?_⟩;rcases hp with hp|hp
   .exact .inl ⟨jw.of (sm _ _ hp),λX o=>h _ X (Zh sm o) (Zc ..)⟩
   .exact .inr ⟨lR.of (sm _ _ hp),h _ p sm (sm _ _ hp)⟩
end
end TB
namespace L2
open PySem PySem.Spec PyProof.Rows
def NZ:dj "enumerate"=O (.type "enumerate"):=by decide +kernel
def wW(K:af)(d c:TE):TE:=λb H Q=>d b H λx a=>∃k,xM K x a k/\if k=true then Q x a else c b a Q
def Ry {a b:bV}{f:List bV} (C:PE X a t)(A:PE X (.BoolOp .Or (b::f) j) r):PE X (.BoolOp .Or (a::b::f) j) (wW X.K t r):=by
 intro d s g H Q I h;refine BoolOp_or (lY (C d s g H _ I h) λv w i=>?_);obtain⟨x,q,L,l,k,y,n⟩:=i;refine lY (IY d w g q x v (λz M=>M=q/\z=k) L l ⟨k,y,Y,Y⟩) λc u i=>?_;obtain⟨p,o,F,E⟩:=i;subst F E;cases c with
|false=>exact A d u g p Q o n
|true=>exact⟨x,p,o,l,n⟩
def Zr(b:G)(H a:Hp):Prop:=∀c o,H c=O o->c≠b->a c=O o
def Zr.refl(b:G)(H:Hp):Zr b H H:=λ_ _ h _=>h
def Zr.trans  (x:Zr b H f)(y:Zr b f d):Zr b H d:=λc o h a=>y c o (x c o h a) a
theorem Zr.upd   (x:Zr b H d):Zr b H (upd d b o):=λc u h a=>by rw[Zk a];exact x c u h a
def Zr.of  (x:f' H a):Zr b H a:=λc u h _=>x c u h
def Th.nO{H c:Hp} (a:H t=O (.ins C d fs))(s:Zr t H c) (h:Th H v T):Th c v T:=by
 cases h with
|non=>exact .non
|bl b=>exact .bl b
|int i=>exact .int i
|str z h=>exact .str z h
|lst e=>exact .lst (s _ _ e (nh e a (by intro z;cases z)))
|tup e=>exact .tup (s _ _ e (nh e a (by intro z;cases z)))
|dK e=>exact .dK (s _ _ e (nh e a (by intro z;cases z)))
end L2
namespace TB
open PySem L2 PySem.Spec PyProof.Rows
theorem Row.nO{H f:Hp} (b:H t=O (.ins C l fs))(s:Zr t H f) (h:Row H v r):Row f v r:=by
 cases r with
|none=>obtain⟨T,a,i⟩:=h;exact⟨T,a.nO b s,i⟩
|some j=>obtain⟨p,rfl,d,g⟩:=h;exact⟨p,Y,s _ _ d (nh d b (by intro z;cases z)),λx c=>let ⟨T,a⟩:=g x c;⟨T,a.nO b s⟩⟩
def YK(H:Hp)(a:List V)(b:List (Option (List V))):Prop:=a.length=b.length/\∀(i:Nat)x r,a[i]?=O x->b[i]?=O r->Row H x r
def Qi{g:Bool}{n:Nat}{d:List (Key×V)}{r:Option (List V)}(h:pW g n d r=.non):∃a y,r=O a/\a.length=n/\a.getD 0 .non=.str y:=by
 cases r with
|none=>cases h
|some a=>
  have c:qK g n d a=.non:=h;unfold qK at c;by_cases i:a.length≠n
  .rw[zH i]at c;cases c
  .rw[zG i]at c;by_cases f:ZM g (a.getD 0 .non)=false
   .rw[zH f]at c;cases c
   .have b:ZM g (a.getD 0 .non)=true:=by simpa using f
    unfold ZM at b;cases e:a.getD 0 .non with
   |str y=>exact⟨a,y,Y,zD,e⟩
   |_=>rw[e]at b;split at b<;>cases b
def LZ(v:V):Prop:=v=.non\/∃z:U,v=.str z/\z.length<=1000/\z.length≠0
def LZ.tru{K:af}{v:V}{H:Hp}(h:LZ v):xM K v H (decide (v≠.non)):=by
 rcases h with rfl|⟨z,rfl,b,a⟩
 .exact Y
 .refine⟨eQ (YA b),?_⟩;rw[zJ (by intro q;cases q)];simp[a]
def Ia(g:Bool)(n:Nat)(a:List (Key×V))(r:Option (List V)):LZ (pW g n a r):=by
 cases r with
|none=>exact .inr ⟨_,Y,zC,zC⟩
|some b=>
  show LZ (qK g n a b);unfold qK;split
  .exact .inr ⟨_,Y,zC,zC⟩
  .split
   .exact .inr ⟨_,Y,zC,zC⟩
   .split
    .exact .inr ⟨_,Y,zC,zC⟩
    .exact .inl Y
noncomputable def Zl(a:List V):U:=match a.getD 0 .non with
|.str y=>y
|_=>d6
noncomputable def at_(a:List V)(i:Nat):V:=a.getD i .non
noncomputable def Iu(b:List (Key×V))(n:Int)(a:List V):V:=Nt b n (at_ a 1) (at_ a 2) (at_ a 3) (at_ a 4) (at_ a 5)
noncomputable def zh(b:List (Key×V))(a:List V):V:=rh b (at_ a 1) (at_ a 2) (at_ a 3) (at_ a 4)
noncomputable def HB(b:List (Key×V))(n c:Int)(a:List V):V:=Js b n c (at_ a 1) (at_ a 2) (at_ a 3)
noncomputable def ZH(a:List V):Int:=match a.getD 3 .non with
|.int i=>i
|_=>0
section
variable {yq:List (Key×V)}{nT pp:Int}
def DE{n d c b:V}(h:HB yq nT pp [n,d,c,b]=.non):∃i,b=.int i:=by
 have a:Js yq nT pp d c b=.non:=h;unfold Js at a;split at a
 .cases a
 .split at a
  .cases a
  .cases b with
  |int i=>exact⟨i,Y⟩
  |_=>cases a
end
noncomputable def rM:Nat->Nat
|1=>2|2=>6|3=>5|_=>4
noncomputable def qZ:Nat->U
|1=>rN|2=>"ride_by_name"|3=>"way_by_name"|_=>"group_by_name"
noncomputable def l_:Nat->Nat
|1=>14|2=>80|3=>40|_=>300
noncomputable def Yz:Nat->U
|1=>"places"|2=>"rides"|3=>"ways"|_=>"groups"
noncomputable def gJ(j:Nat):Bool:=decide (j=4)
abbrev Kv:=List (Key×V)
noncomputable def qU(j:Nat)(b:Kv)(n c:Int)(a:List V):V:=match j with
|1=>XX (at_ a 1)
|2=>Iu b n a
|3=>zh b a
|_=>HB b n c a
noncomputable def oq(j:Nat)(d:Kv)(n c:Int)(a:Kv)(r:Option (List V)):V:=if pW (gJ j) (rM j) a r≠.non then pW (gJ j) (rM j) a r else match r with
 |some b=>qU j d n c b
 |none=>.str "form"
noncomputable def Xs(j:Nat)(d:Kv)(n:Int):Nat->Int->Kv->List (V×Option (List V))->Sum (Nat×V) Kv
|_,_,a,[]=>.inr a
|i,c,a,(x,r)::f=>if oq j d n c a r≠.non then .inl (i,oq j d n c a r)else match r with
 |some b=>Xs j d n (i+1) (c+ZH b) (Yb a (.inr (Zl b)) (if j=1 then at_ b 1 else x)) f
 |none=>.inl (i,.str "form")
def GH{j:Nat}{c:Kv}{n b:Int}{a:Kv}{r:Option (List V)}(h:pW (gJ j) (rM j) a r≠.non):oq j c n b a r=pW (gJ j) (rM j) a r:=by unfold oq;rw[zH h]
def NX{j:Nat}{d:Kv}{n c:Int}{a:Kv}{b:List V}(h:pW (gJ j) (rM j) a (O b)=.non):oq j d n c a (O b)=qU j d n c b:=by unfold oq;rw[zG (λz=>z h)]
def GG{j:Nat}{n a:Int}:oq j c n a b B=.str "form":=GH (by show V.str "form"≠.non;intro z;cases z)
def RH{j:Nat}{n:Int}{i:Nat}{b:Int}{x:V}{d:List (V×Option (List V))}(h:oq j c n b a r≠.non):Xs j c n i b a ((x,r)::d)=.inl (i,oq j c n b a r):=by unfold Xs;rw[zH h]
def P6{j:Nat}{n:Int}{i:Nat}{c:Int}{x:V}{a:List V}{d:List (V×Option (List V))}(h:oq j f n c b (O a)=.non):Xs j f n i c b ((x,O a)::d)=Xs j f n (i+1) (c+ZH a) (Yb b (.inr (Zl a)) (if j=1 then at_ a 1 else x)) d:=by
 conv=>lhs;unfold Xs
 rw[zG (λz=>z h)]
def IT{j:Nat}(h:j≠4)(f:j=1\/j=2\/j=3\/j=4)(b:Kv)(n d c:Int)(a:List V):qU j b n d a=qU j b n c a:=by
 rcases f with rfl|rfl|rfl|rfl
 .rfl
 .rfl
 .rfl
 .exact zI Y h
section
variable {P:a9}{w:bg}{K:af}{J:U->Option Z}{S:bC}{C Cb:G}
def Z7(j:Nat)(C Cb:G):Sp:=λs H Q E=>∃(t l p q:G)(a:List V)(h:List (Option (List V)))(fs:List (U×V))(o:Kv)(n:Int),s=[.ref t,.ref l]/\H t=O (.ins C p fs)/\(∀g,g∉fields->fs.lookup g=B)/\fs.length<=20 /\(j≠1->fs.lookup (rN:U)=O (.ref q)/\H q=O (.dK o)/\fs.lookup ("turns":U)=O (.int n))/\H l=O (.tup a)/\a.length<=1000/\YK H a h /\match Xs j o n 0 0 [] (a.zip h)with
|.inl (i,c)=>∀r,Zr t H r->uQ Cb (.str (Yz j)) (.int i) c r E
|.inr f=>∀b d,Zr t H b->H d=B->d≠t->b d=O (.dK f)->b t=O (.ins C p (lZ (qZ j) (.ref d) (lZ (Yz j) (.ref l) fs)))->Q .non b
variable {t l dx d:G}{fs F2:List (U×V)}{H H3:Hp}{σ:L2.St}{zB:Ends}{rest:TS}{z b:U}{j a:Nat}{tw tv:TE}{n9 k1:Kv}{n pp:Int}{y:V}{r:Option (List V)}{Q:VK}{E:XK}
def QA(i:rH K C)(u:z∈fields)(A:b∈fields)(x:H t=O (.ins C dx fs))(I:fs.length<=20)(s:σ[0]?=O (O (.ref t)))(F:σ[1]?=O (O (.ref l)))(k:∀p d,Zr t H p->H d=B->d≠t->p t=O (.ins C dx (lZ b (.ref d) (lZ z (.ref l) fs)))->p d=O (.dK [])->rest zB σ p):rY (va K (mI 0) (mI 1) z) (rY (va K (mI 0) Wo b) rest) zB σ H:=by
 have L:=Xq z (V.ref l) fs;refine⟨_,F,_,s,t,C,dx,_,Y,x,i.cl,i.na _ u,zD,λd g=>?_⟩;have f:d≠t:=λe=>by rw[e,Zc]at g;cases g
 rw[Zk f]at g;refine⟨_,s,t,C,dx,_,Y,by rw[Zk f.symm,Zc],i.cl,i.na _ A,zD,?_⟩;exact k _ d (λc o h q=>by rw[Zk q,Zk (λe=>by rw[e,g]at h;cases h),Zk q];exact h) g f Zc (by rw[Zk f,Zc])
def Fy(u:rH K C)(I:(z,rM j)∈SW)(eg:decide (z="groups")=gJ j)(W:b∈fields)(h0:σ[0]?=O (O (.ref t)))(X:σ[a]?=O (O y))(F:H3 t=O (.ins C dx F2))(lk:F2.lookup b=O (.ref d))(d3:H3 d=O (.dK n9))(g:Row H3 y r)(L:∀c f q x,f' H3 c->r=O f->y=.ref q->c q=O (.tup f)->(∀x∈f,∃T,Th c x T)->f.length=rM j->f.getD 0 .non=.str x->Q (qU j k1 n pp f) c->tw σ c Q)(k:∀c,f' H3 c->Q (oq j k1 n pp n9 r) c):wW K (Ui Jo [] E0 (Yg (tC (.str z)) (Yg (mI a) (Yg (u6 K (mI 0) b) mq)))) tw σ H3 Q:=by
 refine⟨_,X,_,h0,t,C,dx,_,_,Y,F,u.cl,u.na _ W,lk,z,rM j,y,r,d,n9,Y,I,g,d3,λc i=>⟨_,(Ia _ _ _ _).tru,?_⟩⟩;have o:=k c i;rw[eg];by_cases h:pW (gJ j) (rM j) n9 r=.non
 .rw[h];refine kv ?_;obtain⟨f,x,rfl,N,p⟩:=Qi h;obtain⟨q,rfl,M,s⟩:=g;rw[NX h]at o;exact L c f q x i Y Y (i _ _ M) (λx p=>let ⟨T,A⟩:=s x p;⟨T,A.same i⟩) N p o
 .rw[GH h]at o;rw[zJ h];exact kq o
structure Lks(fs F2:List (U×V))(j:Nat)(d:G):Prop where
 yA:F2.lookup (qZ j)=O (.ref d)
 old:∀g,g≠qZ j->g≠Yz j->F2.lookup g=fs.lookup g
def C_ {j:Nat}:Lks fs (lZ (qZ j) (.ref d) (lZ (Yz j) (.ref l) fs)) j d:=⟨by rw[ZV,zH Y],λg f c=>by rw[ZV,zG f,ZV,zG c]⟩
def xB{j:Nat}(c:j=1\/j=2\/j=3\/j=4):(Yz j∈fields/\qZ j∈fields)/\(Yz j,rM j)∈SW/\decide (Yz j="groups")=gJ j/\(("turns":U)≠qZ j/\("turns":U)≠Yz j)/\(j≠1->(rN:U)≠qZ j/\(rN:U)≠Yz j):=by rcases c with rfl|rfl|rfl|rfl<;>decide +kernel
def Z_(j:Nat)(C:G)(t:G)(F2:List (U×V))(k1:Kv)(n pp:Int)(s:Nat)(tw:TE):Prop:=∀(c:Hp)(σ:L2.St)(f:List V)(q:G)(x:U)(g:G)(h:VK),σ[0]?=O (O (.ref t))->σ[s]?=O (O (.ref q))->Tab c C t F2->(j≠1->F2.lookup (rN:U)=O (.ref g)/\c g=O (.dK k1)/\F2.lookup ("turns":U)=O (.int n)) ->c q=O (.tup f)->(∀x∈f,∃T,Th c x T)->f.length=rM j->f.getD 0 .non=.str x->h (qU j k1 n pp f) c->tw σ c h
def Rb{j m:Nat}(hj:j=1\/j=2\/j=3\/j=4)(h4:j≠4)(zo:rH K C){tw tv:TE}   (h:Z7 j C Cb vs H Q E)(hm:m=2)(hw:∀t F2 k1 n,Z_ j C t F2 k1 n 0 3 tw)(hv:∀(X:Hp)(σ:L2.St)(q:G)(u:List V)(Qv:VK),σ[3]?=O (O (.ref q))->X q=O (.tup u)->u.length=rM j->Qv (if j=1 then at_ u 1 else .ref q) X->tv σ X Qv)(aF:start ps vs=[vs[0]?,vs[1]?,B,B]):rY (va K (mI 0) (mI 1) (Yz j)) (rY (va K (mI 0) Wo (qZ j)) (yb (yv (Yg (mI 1) mq)) (wc K m (Tx (Vu 2) (Tx (Vu 3) xx))) (rY (KJ (Ui (JS Cb) [] E (Yg (tC (.str (Yz j))) (Yg (mI 2) (Yg (wW K (Ui Jo [] E0 (Yg (tC (.str (Yz j))) (Yg (mI 3) (Yg (u6 K (mI 0) (qZ j)) mq)))) tw) mq))))) (Ir (u6 K (mI 0) (qZ j)) (ua (ue K) (mI 3) (tC (.int 0))) tv)))) {nx:=λ_ f=>Q .non f,rt:=Q} (start ps vs) H:=by
 obtain⟨t,l,dx,dP,A,M,fs,k1,n,rfl,ht,ai,a6,hP,hl,bM,I,k⟩:=h;subst hm;obtain⟨⟨hz,hb⟩,a0,eg,hT,hR⟩:=xB hj;rw[aF];refine QA zo hz hb ht a6 Y Y λH2 d s2 az ar t2 d2=>?_;have kk:∀N,Xs j k1 n 0 0 [] (A.zip M)=N->(match N with
 |.inl (i,aC)=>∀H1,Zr t H H1->uQ Cb (.str (Yz j)) (.int i) aC H1 E
 |.inr n9=>∀f,Zr t H f->f d=O (.dK n9)->f t=O (.ins C dx (lZ (qZ j) (.ref d) (lZ (Yz j) (.ref l) fs)))->Q .non f):=λN e=>by
   rw[e]at k;cases N with
  |inl p=>exact k
  |inr n9=>exact λf h1 h2 h3=>k f d h1 az ar h2 h3
 clear k;have L:=C_ (fs:=fs) (j:=j) (d:=d) (l:=l);have hO:∀g,g∉fields->(lZ (qZ j) (.ref d) (lZ (Yz j) (.ref l) fs)).lookup g=B:=λg hg=>by rw[L.old g (λe=>hg (e▸hb)) (λe=>hg (e▸hz))];exact ai g hg
 generalize lZ (qZ j) (.ref d) (lZ (Yz j) (.ref l) fs)=F2 at t2 kk L hO;have T:l≠t:=nh hl ht (by intro z;cases z);refine⟨_,Y,l,A,Y,s2 _ _ hl T,Xy (zA:=xR l) A.length (λi σ f=>∃(n9:Kv)(pp:Int)(v2 v3:Option V),σ=[O (.ref t),O (.ref l),v2,v3]/\Zr t H f/\f t=O (.ins C dx F2)/\f d=O (.dK n9)/\Xs j k1 n 0 0 [] (A.zip M)=Xs j k1 n i pp n9 ((A.zip M).drop i)/\n9.length<=i) ⟨[],0,B,B,Y,s2,t2,d2,Y,aq _⟩ (λi σ f hi p=>?_) (λσ f p=>?_) (λi σ f x b2 hi p yl=>?_) (λσ f p=>?_)⟩
 .obtain⟨_,_,_,_,_,sm,_⟩:=p;exact⟨A,sm _ _ hl T,hi⟩
 .obtain⟨_,_,_,_,_,sm,_⟩:=p;exact⟨A,sm _ _ hl T,Y⟩
 .obtain⟨n9,pp,v2,v3,rfl,sm,tt,dd,s,b1⟩:=p;obtain⟨Tt,b0,y,bx,e1,hy,rfl,rfl⟩:=yl;rw[sm _ _ hl T]at e1;cases e1;have a5:i<M.length:=by rw[<-I.1];exact hi
  have aM:i<(A.zip M).length:=by rw[c9];omega
  have aP:A[i]=y:=by rw[gE hi]at hy;exact aJ hy
  rw[show(A.zip M).drop i=(y,M[i])::(A.zip M).drop (i+1) by rw[eF aM,jF,aP]]at s;have F:=I.2 i y M[i] hy (gE a5);generalize M[i]=r at s F;refine⟨Tt,_,Y,lR.of Zc,Y,_,_,Y,_,_,Y,Y,?_⟩;refine nl bx λH3 s3 _=>?_;have ab:=sm.trans (Zr.of s3);refine td λD' a7=>?_;refine⟨_,Y,Fy (k1:=k1) (n:=n) (pp:=pp) zo a0 eg hb Y Y (s3 _ _ tt) L.yA (s3 _ _ dd) (F.nO ht ab) (λX u q x s4 e1 e2 hq hx a4 hn Hq=>?_) λX s4=>?_⟩
  .rw[IT h4 hj k1 n pp 0]at Hq;subst e2;refine hw t F2 k1 n X _ u q x dP _ Y Y ⟨⟨dx,s4 _ _ (s3 _ _ tt)⟩,hO⟩ (λnj=>?_) hq hx a4 hn Hq;obtain⟨a1,a2,a3⟩:=hP nj;exact⟨by rw[L.old _ (hR nj).1 (hR nj).2];exact a1,s4 _ _ (ab _ _ a2 (nh a2 ht (by intro z;cases z))),by rw[L.old _ hT.1 hT.2];exact a3⟩
  have aa:=ab.trans (Zr.of s4);by_cases W:oq j k1 n pp n9 r=.non
  .refine⟨_,_,_,Y,.inl ⟨W,?_⟩⟩;cases r with
  |none=>rw[GG]at W;cases W
  |some u=>
    rw[P6 W]at s;have bb:pW (gJ j) (rM j) n9 (O u)=.non:=jb λe=>by rw[GH e]at W;exact e W
    obtain⟨bT,x,e0,aS,ah⟩:=Qi bb;cases e0;obtain⟨q,rfl,hq,_⟩:=F;have ak:=aa _ _ hq (nh hq ht (by intro z;cases z));have d4:=s4 _ _ (s3 _ _ dd);have t4:=s4 _ _ (s3 _ _ tt);refine hv X _ q u _ Y ak aS ?_;refine⟨_,Y,t,C,dx,_,_,Y,t4,zo.cl,zo.na _ hb,L.yA,_,Y,q,_,0,.str x,Y,Y,lR.of ak,?_,d,_,Y,uO.k (k:=gM x) d4 (YA zD),?_⟩
    .cases u with
    |nil=>cases ah
    |cons y0 yr=>cases ah;exact qc 0 Y
    refine a7 _ _ ⟨_,pp+ZH u,_,_,Y,λc o h hc=>?_,(by rw[Zk ar.symm];exact t4),Zc,?_,?_⟩
    .rw[Zk (λz=>by rw[z,az]at h;cases h)];exact aa c o h hc
    .rw[s,show Zl u=x by unfold Zl;rw[ah]]
    .have:=Xp n9 (gM x) (if j=1 then at_ u 1 else V.ref q);omega
  .refine⟨_,_,_,Y,.inr ⟨W,?_⟩⟩;exact kk (.inl (i,oq j k1 n pp n9 r)) (by rw[s,RH W]) X aa
 .obtain⟨n9,pp,v2,v3,rfl,sm,tt,dd,s,_⟩:=p;rw[List.drop_eq_nil_iff.mpr (by rw[c9];omega),Xs]at s;exact kk (.inr n9) s f sm dd tt
def Ro:ia [mG,"places","at","row"] [mG,"places"] (Ze T.mL):=nc
def Rn:ia [mG,"rides","at","row"] [mG,"rides"] (Ze T.mN):=nc
def Rm:ia [mG,"ways","at","row"] [mG,"ways"] (Ze T.mU):=nc
def Jl{j:Nat}   (h:Z7 j C Cb c H Q E):∃x y,c=[x,y]:=by obtain⟨t,l,_,_,_,_,_,_,_,rfl,_⟩:=h;exact⟨_,_,Y⟩
def DV(F:rH K C)(W:J "enumerate"=B)(zB:qQ K C "take_places" "Table.take_places" T.mL [mG,"places"])(CB:l8 P w K J S 3 "wrong_beginning" ["part","row","names_ahead"] Jo)(CW:l8 P w K J S 3 "wrong_place" ["row"] Su)(CR:oU P w K J S 3 "refuse_row" ["part","at","why"] (JS Cb)):nG P w K J S (oV P w) 4 C "take_places" [mG,"places"] (Z7 1 C Cb):=by
 refine zB.xF Ro (λf aa A p s H vs Q E c h=>?_) λ_ _ _ _ h=>by obtain⟨x,y,rfl⟩:=Jl h;rfl
 refine⟨_,Zb (Ve (R 0) (R 1) Y) (Zb (Ve (R 0) JU Y) (Zi (Y9 ie Y (Gp Y W (Zj (R 1) Zg) NZ) (XG Y (Zx (mH 2 Ro.nd) (Zx (mH 3 Ro.nd) Yd))) (Zb (Yc (Xv CR Y8 c Y (Zj Zf (Zj (R 2) (Zj (Ry (Z9 CB c Y (Zj Zf (Zj (R 3) (Zj (Yw (R 0) Y) Zg)))) (XH (Z9 CW c Y (Zj (R 3) Zg)))) Zg))))) (Zi (NP (Xx c) (Yw (R 0) Y) (Yh Yl (R 3) Zd (λ_ _=>rfl)) (Yh Yl (R 3) Zd (λ_ _=>rfl)) Y)))))),?_⟩;refine Rb (j:=1) (.inl Y) D F h Y (λt F2 k1 n X σ I q x dP Qw h0 o tb hP g N i hn k=>?_) (λX σ q I Qv o g i k=>?_) (by obtain⟨x,y,rfl⟩:=Jl h;rfl)
 .obtain⟨L,u,rfl⟩:=p_ i;obtain⟨T,M⟩:=N u zE;exact⟨_,o,q,_,_,T,Y,g,M,k⟩
 .obtain⟨L,u,rfl⟩:=p_ i;exact⟨_,o,q,_,1,_,Y,Y,lR.of g,qc 1 Y,k⟩
def DU(F:rH K C)(he:J "enumerate"=B)(zB:qQ K C "take_rides" "Table.take_rides" T.mN [mG,"rides"])(CB:l8 P w K J S 3 "wrong_beginning" ["part","row","names_ahead"] Jo)(CW:l8 P w K J S 5 "wrong_ride" [nu,"row"] (EF C))(CR:oU P w K J S 3 "refuse_row" ["part","at","why"] (JS Cb)):nG P w K J S (oV P w) 6 C "take_rides" [mG,"rides"] (Z7 2 C Cb):=by
 refine zB.xF Rn (λf aa A o s H vs Q E g h=>?_) λ_ _ _ _ h=>by obtain⟨x,y,rfl⟩:=Jl h;rfl
 have c:=g.mono (by decide:3<=5);refine⟨_,Zb (Ve (R 0) (R 1) Y) (Zb (Ve (R 0) JU Y) (Zi (Y9 ie Y (Gp Y he (Zj (R 1) Zg) NZ) (XG Y (Zx (mH 2 Rn.nd) (Zx (mH 3 Rn.nd) Yd))) (Zb (Yc (Xv CR Y8 c Y (Zj Zf (Zj (R 2) (Zj (Ry (Z9 CB c Y (Zj Zf (Zj (R 3) (Zj (Yw (R 0) Y) Zg)))) (XH (Z9 CW g Y (Zj (R 0) (Zj (R 3) Zg))))) Zg))))) (Zi (NP (Xx g) (Yw (R 0) Y) (Yh Yl (R 3) Zd (λ_ _=>rfl)) (R 3) Y)))))),?_⟩;refine Rb (j:=2) (.inr (.inl Y)) D F h Y (λt F2 k1 n H4 σ I q x dP Qw h0 i tb hP p hx u hn k=>?_) (λH4 σ q I Qv i p u k=>⟨_,i,k⟩) (by obtain⟨x,y,rfl⟩:=Jl h;rfl);obtain⟨y0,X,W,N,M,L,rfl⟩:=v7 u;obtain⟨a1,a2,a3⟩:=hP D;exact⟨_,h0,_,i,t,q,y0,X,W,N,M,L,F2,dP,k1,n,Y,tb,a1,a3,a2,p,hx,k⟩
def DT(F:rH K C)(he:J "enumerate"=B)(zB:qQ K C "take_ways" "Table.take_ways" T.mU [mG,"ways"])(CB:l8 P w K J S 3 "wrong_beginning" ["part","row","names_ahead"] Jo)(CW:l8 P w K J S 5 "wrong_way" [nu,"row"] (Ik C))(CR:oU P w K J S 3 "refuse_row" ["part","at","why"] (JS Cb)):nG P w K J S (oV P w) 6 C "take_ways" [mG,"ways"] (Z7 3 C Cb):=by
 refine zB.xF Rm (λf aa A o s H vs Q E g h=>?_) λ_ _ _ _ h=>by obtain⟨x,y,rfl⟩:=Jl h;rfl
 have c:=g.mono (by decide:3<=5);refine⟨_,Zb (Ve (R 0) (R 1) Y) (Zb (Ve (R 0) JU Y) (Zi (Y9 ie Y (Gp Y he (Zj (R 1) Zg) NZ) (XG Y (Zx (mH 2 Rm.nd) (Zx (mH 3 Rm.nd) Yd))) (Zb (Yc (Xv CR Y8 c Y (Zj Zf (Zj (R 2) (Zj (Ry (Z9 CB c Y (Zj Zf (Zj (R 3) (Zj (Yw (R 0) Y) Zg)))) (XH (Z9 CW g Y (Zj (R 0) (Zj (R 3) Zg))))) Zg))))) (Zi (NP (Xx g) (Yw (R 0) Y) (Yh Yl (R 3) Zd (λ_ _=>rfl)) (R 3) Y)))))),?_⟩;refine Rb (j:=3) (.inr (.inr (.inl Y))) D F h Y (λt F2 k1 n H4 σ I q x dP Qw h0 i tb hP p hx u hn k=>?_) (λH4 σ q I Qv i p u k=>⟨_,i,k⟩) (by obtain⟨x,y,rfl⟩:=Jl h;rfl);obtain⟨X,W,N,M,L,rfl⟩:=rp u;obtain⟨a1,a2,a3⟩:=hP D;exact⟨_,h0,_,i,t,q,X,W,N,M,L,F2,dP,k1,Y,tb,a1,a2,p,hx,k⟩
def V3:ia [mG,"groups","people","at","row","why"] [mG,"groups"] (Ze T.mM):=nc
def DW(zo:rH K C)(he:J "enumerate"=B)(zB:qQ K C "take_groups" "Table.take_groups" T.mM [mG,"groups"])(CB:l8 P w K J S 3 "wrong_beginning" ["part","row","names_ahead"] Jo)(CW:l8 P w K J S 3 "wrong_group" [nu,"row","people_ahead"] (K3 C))(CR:oU P w K J S 3 "refuse_row" ["part","at","why"] (JS Cb)):nG P w K J S (oV P w) 4 C "take_groups" [mG,"groups"] (Z7 4 C Cb):=by
 refine zB.xF V3 (λf b5 A b0 s H vs Q E hr h=>?_) λ_ _ _ _ h=>by obtain⟨x,y,rfl⟩:=Jl h;rfl
 obtain⟨t,l,dx,dP,I,W,fs,k1,n,rfl,ht,az,bx,hP,hl,b1,N,k⟩:=h;refine⟨_,Zb (Ve (R 0) (R 1) Y) (Zb (Ve (R 0) JU Y) (Zb (Yv (i:=2) V3.nd Y (dD Y) Zd) (Zi (Y9 ie Y (Gp Y he (Zj (R 1) Zg) NZ) (XG Y (Zx (mH 3 V3.nd) (Zx (mH 4 V3.nd) Yd))) (Zb (Yv (i:=5) V3.nd Y (dD Y) (Ry (Z9 CB hr Y (Zj Zf (Zj (R 4) (Zj (Yw (R 0) Y) Zg)))) (XH (Z9 CW hr Y (Zj (R 0) (Zj (R 4) (Zj (R 2) Zg))))))) (Zb (Yc (Xv CR Y8 hr Y (Zj Zf (Zj (R 3) (Zj (R 5) Zg))))) (Zb (NP (Xx hr) (Yw (R 0) Y) (Yh Yl (R 4) Zd (λ_ _=>rfl)) (R 4) Y) (Zi (Yv (i:=2) V3.nd Y (dD Y) (Zv Z3 (R 2) (Yh Yl (R 4) Zd (λ_ _=>rfl)))))))))))),?_⟩;obtain⟨⟨hz,hb⟩,a5,eg,hT,hR⟩:=xB (j:=4) (.inr (.inr (.inr Y)));obtain⟨a1,a2,a3⟩:=hP D;have hR:=hR D;refine QA (z:=Yz 4) (b:=qZ 4) zo hz hb ht bx Y Y λH2 d s2 aF aC t2 d2=>?_;have kk:∀aa,Xs 4 k1 n 0 0 [] (I.zip W)=aa->(match aa with
 |.inl (i,aP)=>∀H1,Zr t H H1->uQ Cb (.str (Yz 4)) (.int i) aP H1 E
 |.inr n9=>∀F,Zr t H F->F d=O (.dK n9)->F t=O (.ins C dx (lZ (qZ 4) (.ref d) (lZ (Yz 4) (.ref l) fs)))->Q .non F):=λaa e=>by
   rw[e]at k;cases aa with
  |inl p=>exact k
  |inr n9=>exact λF h1 h2 h3=>k F d h1 aF aC h2 h3
 clear k;have L:=C_ (fs:=fs) (j:=4) (d:=d) (l:=l);have hO:∀g,g∉fields->(lZ (qZ 4) (.ref d) (lZ (Yz 4) (.ref l) fs)).lookup g=B:=λg hg=>by rw[L.old g (λe=>hg (e▸hb)) (λe=>hg (e▸hz))];exact az g hg
 generalize lZ (qZ 4) (.ref d) (lZ (Yz 4) (.ref l) fs)=F2 at t2 kk L hO;have ab:l≠t:=nh hl ht (by intro z;cases z);refine⟨_,Y,l,I,Y,s2 _ _ hl ab,Xy (zA:=xR l) I.length (λi σ F=>∃(n9:Kv)(pp:Int)(v3 v4 v5:Option V),σ=[O (.ref t),O (.ref l),O (.int pp),v3,v4,v5]/\Zr t H F/\F t=O (.ins C dx F2)/\F d=O (.dK n9)/\Xs 4 k1 n 0 0 [] (I.zip W)=Xs 4 k1 n i pp n9 ((I.zip W).drop i)/\n9.length<=i) ⟨[],0,B,B,B,Y,s2,t2,d2,Y,aq _⟩ (λi σ F hi p=>?_) (λσ F p=>?_) (λi σ F x b6 hi p yl=>?_) (λσ F p=>?_)⟩
 .obtain⟨_,_,_,_,_,_,sm,_⟩:=p;exact⟨I,sm _ _ hl ab,hi⟩
 .obtain⟨_,_,_,_,_,_,sm,_⟩:=p;exact⟨I,sm _ _ hl ab,Y⟩
 .obtain⟨n9,pp,v3,v4,v5,rfl,sm,tt,dd,u,b4⟩:=p;obtain⟨Tt,b3,y,bT,e1,hy,rfl,rfl⟩:=yl;rw[sm _ _ hl ab]at e1;cases e1;have bb:i<W.length:=by rw[<-N.1];exact hi
  have aS:i<(I.zip W).length:=by rw[c9];omega
  have a0:I[i]=y:=by rw[gE hi]at hy;exact aJ hy
  rw[show(I.zip W).drop i=(y,W[i])::(I.zip W).drop (i+1) by rw[eF aS,jF,a0]]at u;have M:=N.2 i y W[i] hy (gE bb);generalize W[i]=r at u M;refine⟨Tt,_,Y,lR.of Zc,Y,_,_,Y,_,_,Y,Y,?_⟩;refine nl bT λH3 s3 _=>?_;have ai:=sm.trans (Zr.of s3);refine td λD' bM=>?_;refine tq λD2 a7=>Fy (j:=4) (k1:=k1) (n:=n) (pp:=pp) zo a5 eg hb Y Y (s3 _ _ tt) L.yA (s3 _ _ dd) (M.nO ht ai) (λH4 ys q x s4 e1 e2 hq hx a6 hn Hq=>?_) λH4 s4=>a7 _ _ ?_
  .subst e2;obtain⟨y0,y1,y2,y3,rfl⟩:=qY a6;exact⟨_,Y,_,Y,_,Y,t,q,y0,y1,y2,y3,F2,dP,k1,n,pp,Y,⟨⟨dx,s4 _ _ (s3 _ _ tt)⟩,hO⟩,by rw[L.old _ hR.1 hR.2];exact a1,by rw[L.old _ hT.1 hT.2];exact a3,s4 _ _ (ai _ _ a2 (nh a2 ht (by intro z;cases z))),hq,hx,Hq⟩
  have ah:=ai.trans (Zr.of s4);refine⟨_,Y,_,Y,?_⟩;by_cases X:oq 4 k1 n pp n9 r=.non
  .refine⟨_,_,_,Y,.inl ⟨X,?_⟩⟩;cases r with
  |none=>rw[GG]at X;cases X
  |some ys=>
    rw[P6 X,zG D]at u;have aM:pW (gJ 4) (rM 4) n9 (O ys)=.non:=jb λe=>by rw[GH e]at X;exact e X
    rw[NX aM]at X;obtain⟨b2,x,e0,a4,ak⟩:=Qi aM;cases e0;obtain⟨y0,y1,y2,y3,rfl⟩:=qY a4;have ak:y0=.str x:=ak;subst ak;obtain⟨mm,rfl⟩:=DE X;obtain⟨q,rfl,hq,_⟩:=M;have ar:=ah _ _ hq (nh hq ht (by intro z;cases z));have d4:=s4 _ _ (s3 _ _ dd);have t4:=s4 _ _ (s3 _ _ tt);refine⟨_,Y,_,Y,t,C,dx,_,_,Y,t4,zo.cl,zo.na _ hb,L.yA,_,Y,q,_,0,_,Y,Y,lR.of ar,qc 0 Y,d,_,Y,uO.k (k:=gM x) d4 (YA zD),?_⟩;refine⟨_,Y,_,Y,q,_,3,.int mm,Y,Y,lR.of (by rw[Zk (nh ar d4 (by intro z;cases z))];exact ar),qc 3 Y,_,_,Y,Y,?_⟩;refine bM _ _ ⟨_,pp+mm,_,_,_,Y,λc o h hc=>?_,(by rw[Zk aC.symm];exact t4),Zc,u,?_⟩
    .rw[Zk (λz=>by rw[z,aF]at h;cases h)];exact ah c o h hc
    .have:=Xp n9 (gM x) (V.ref q);omega
  .refine⟨_,_,_,Y,.inr ⟨X,?_⟩⟩;exact kk (.inl (i,oq 4 k1 n pp n9 r)) (by rw[u,RH X]) H4 ah
 .obtain⟨n9,pp,v3,v4,v5,rfl,sm,tt,dd,u,_⟩:=p;rw[List.drop_eq_nil_iff.mpr (by rw[c9];omega),Xs]at u;exact kk (.inr n9) u F sm dd tt
end
abbrev PR:=Option (List V×List (Option (List V)))
def X6(H:Hp)(v:V)(r:PR):Prop:=match r with
|none=>WT H v B
|some (a,b)=>WT H v (O a)/\YK H a b
theorem YK.nO{H c:Hp} (g:H t=O (.ins C j fs))(s:Zr t H c) (h:YK H d f):YK c d f:=⟨h.1,λi x r a b=>(h.2 i x r a b).nO g s⟩
theorem X6.nO{H c:Hp} (b:H t=O (.ins C j fs))(s:Zr t H c) (h:X6 H v r):X6 c v r:=by
 cases r with
|none=>obtain⟨T,d,a⟩:=h;exact⟨T,d.nO b s,a⟩
|some p=>
  obtain⟨g,i⟩:=p;obtain⟨⟨p,rfl,hp⟩,f⟩:=h;refine⟨⟨p,Y,?_⟩,f.nO b s⟩;rcases hp with hp|hp
  .exact .inl (s _ _ hp (nh hp b (by intro z;cases z)))
  .exact .inr (s _ _ hp (nh hp b (by intro z;cases z)))
noncomputable def ZR(n:Nat)(go:List V->List (Option (List V))->Sum (Nat×V) (List (Key×V)))(r:PR):Sum (V×V) (List (Key×V)):=match r with
|none=>.inl (.non,.str "form")
|some (c,d)=>if c.length>n then .inl (.int n,.str "many")else match go c d with
 |.inl (i,a)=>.inl (.int i,a)
 |.inr b=>.inr b
noncomputable def o8(j:Nat)(c:Kv)(n:Int)(a:List V)(b:List (Option (List V))):Sum (Nat×V) Kv:=Xs j c n 0 0 [] (a.zip b)
abbrev Ks:=List (Key×V)×List (Key×V)×List (Key×V)×List (Key×V)
noncomputable def named(z:U)(r:Sum (V×V) (List (Key×V)))(k:List (Key×V)->Sum (V×V×V) Ks):Sum (V×V×V) Ks:=match r with
|.inl (a,y)=>.inl (.str z,a,y)
|.inr b=>k b
noncomputable def Jm(b:V)(g f d c:PR):Sum (V×V×V) Ks:=match b with
|.int n=>if(decide (1<=n)&&decide (n<=50))=true then named "places" (ZR 14 (o8 1 [] n) g) λa=>named "rides" (ZR 80 (o8 2 a n) f) λj=>named "ways" (ZR 40 (o8 3 a n) d) λi=>named "groups" (ZR 300 (o8 4 a n) c) λh=>.inr (a,j,i,h)else .inl (.str "turns",.non,.str "number")
|_=>.inl (.str "turns",.non,.str "number")
def XE(H:Hp)(fs:List (U×V))(f g:U)(r:PR)(k:List (Key×V)):Prop:=∃l d a b,fs.lookup f=O (.ref l)/\fs.lookup g=O (.ref d)/\r=O (a,b)/\H l=O (.tup a)/\H d=O (.dK k)
structure TabOf(H:Hp)(C t:G)(fs:List (U×V))(n:Int)(r1 r2 r3 r4:PR)(k:Ks):Prop where
 tab:Tab H C t fs
 turns:fs.lookup ("turns":U)=O (.int n)
 p:XE H fs "places" rN r1 k.1
 r:XE H fs "rides" "ride_by_name" r2 k.2.1
 w:XE H fs "ways" "way_by_name" r3 k.2.2.1
 g:XE H fs "groups" "group_by_name" r4 k.2.2.2
def Rc(C u:G):Sp:=λr H Q E=>∃(t s:G)(b:V)(T:String)(o l j i:V)(g f d c:PR),r=[.ref t,b,o,l,j,i]/\H t=O (.ins C s [])/\Th H b T/\X6 H o g/\X6 H l f/\X6 H j d/\X6 H i c /\match Jm b g f d c with
|.inl (p,a,y)=>∀q,Zr t H q->uQ u p a y q E
|.inr k=>∀h fs n,Zr t H h->b=.int n->TabOf h C t fs n g f d c k->Q .non h
section
variable {C Cb:G}
structure wB(H Hc:Hp)(C t dx:G)(fs:List (U×V))(n:Int)(m:Nat):Prop where
 sm:Zr t H Hc
 at_:Hc t=O (.ins C dx fs)
 only:∀g,g∉fields->fs.lookup g=B
 len:fs.length<=m
 turns:fs.lookup ("turns":U)=O (.int n)
def wB.same   {n:Int}{m:Nat}(M:wB H b C t a fs n m)(s:f' b c):wB H c C t a fs n m:=⟨M.sm.trans (Zr.of s),s _ _ M.at_,M.only,M.len,M.turns⟩
def wB.next   {n:Int}{m:Nat}(M:wB H q C t b fs n m)(s:Zr t q c)(h:c t=O (.ins C b (lZ g (.ref d) (lZ f (.ref l) fs))))(p:f∈fields)(o:g∈fields)(j:("turns":U)≠f)(i:("turns":U)≠g):wB H c C t b (lZ g (.ref d) (lZ f (.ref l) fs)) n (m+2):=by
 refine⟨M.sm.trans s,h,λx a=>?_,?_,?_⟩
 .rw[ZV,zG (λz=>a (by rw[z];exact o)),ZV,zG (λz=>a (by rw[z];exact p))];exact M.only x a
 .have u:=Xq f (V.ref l) fs;have r:=Xq g (V.ref d) (lZ f (V.ref l) fs);have:=M.len;omega
 .rw[ZV,zG i,ZV,zG j];exact M.turns
def XE.keep{H n:Hp}{b fs a:List (U×V)}  (c:H t=O (.ins C A b))(s:Zr t H n)(h:XE H fs f g r k)(u:a.lookup f=fs.lookup f)(q:a.lookup g=fs.lookup g):XE n a f g r k:=by obtain⟨l,d,o,p,y,x,w,j,i⟩:=h;exact⟨l,d,o,p,u.trans y,q.trans x,w,s _ _ j (nh j c (by intro z;cases z)),s _ _ i (nh i c (by intro z;cases z))⟩
def XE.new{H:Hp}{f g:U} {b:List (Option (List V))}(h:H l=O (.tup a))(c:H d=O (.dK k))(n:f≠g):XE H (lZ g (.ref d) (lZ f (.ref l) fs)) f g (O (a,b)) k:=⟨l,d,a,b,by rw[ZV,zG n,ZV,zH Y],by rw[ZV,zH Y],Y,h,c⟩
def Dp {z:U}{n:Nat}(w:(z,n)∈SX) {o:Hp}  {A:VK}(H:o t=O (.ins C M fs))(u:X6 o v r)(d:∀a y,ZR n go r=.inl (a,y)->∀c,Zr t o c->uQ Cb (.str z) a y c E)(x:∀b j c l,r=O (b,j)->b.length<=1000->f' o c->c l=O (.tup b)->YK c b j->(∀i f,go b j=.inl (i,f)->∀F,Zr t o F->uQ Cb (.str z) (.int i) f F E)->(∀g,go b j=.inr g->ZR n go r=.inr g)->A (.ref l) c):Rg Cb [.str z,v] o A E:=by
 have L:n<=300:=by simp only[SX,ay,jt,a8,or_false]at w;omega
 cases r with
|none=>exact⟨z,n,v,B,Y,w,u,λc s=>d _ _ Y c (Zr.of s)⟩
|some q=>
  obtain⟨b,j⟩:=q;obtain⟨u,I⟩:=u;refine⟨z,n,v,O b,Y,w,u,?_⟩;dsimp only;by_cases p:b.length>n
  .rw[zH p];exact λc s=>d _ _ (by show(if b.length>n then _ else _)=_;rw[zH p]) c (Zr.of s)
  .rw[zG p];refine λc l s h=>x b j c l Y zD s h (I.nO H (Zr.of s)) (λi f e=>?_) (λg e=>?_)
   .exact d _ _ (by show(if b.length>n then _ else _)=_;rw[zG p,e])
   .show(if b.length>n then _ else _)=_;rw[zG p,e]
end
section
variable {P:a9}{w:bg}{K:af}{J:U->Option Z}{S:bC}{C Cb:G}
def A7:ia [mG,"turns","places","rides","ways","groups"] [mG,"turns","places","rides","ways","groups"] (Ze T.kx):=nc
def V8{j:Nat}(F:j=1\/j=2\/j=3\/j=4)  {n:Int}{m:Nat}  {mn:U}{x:L2.St}{zB:Ends}(M:wB H o C t I fs n m)(hm:m<=7)(aa:mn∉fields)(hP:j≠1->fs.lookup (rN:U)=O (.ref dP)/\o dP=O (.dK k1))(hp:X6 o v r)(h0:x[0]?=O (O (.ref t)))(hv:x[j+1]?=O (O v))(bad:∀a y,ZR (l_ j) (o8 j k1 n) r=.inl (a,y)->∀g,Zr t H g->uQ Cb (.str (Yz j)) a y g E)(good:∀b p c d,ZR (l_ j) (o8 j k1 n) r=.inr b->wB H p C t I c n (m+2)->Zr t o p->XE p c (Yz j) (qZ j) r b->(∀f,f≠qZ j->f≠Yz j->c.lookup f=fs.lookup f)->c.lookup (qZ j)=O (.ref d)->p d=O (.dK b)->d≠t->zB.nx x p):KJ (QC C mn (Z7 j C Cb) [] E (mI 0) (Yg (Ui (Rg Cb) [] E (Yg (tC (.str (Yz j))) (Yg (mI (j+1)) mq))) mq)) zB x o:=by
 obtain⟨⟨hz,hb⟩,_,_,hT,hR⟩:=xB F;have X:(Yz j,l_ j)∈SX:=by rcases F with rfl|rfl|rfl|rfl<;>decide +kernel
 have Q:Yz j≠qZ j:=by rcases F with rfl|rfl|rfl|rfl<;>decide +kernel
 refine⟨_,h0,t,I,fs,Y,M.at_,M.only _ aa,_,hv,?_⟩;dsimp only[mq];refine Dp (go:=o8 j k1 n) X M.at_ hp (λa y e g i=>bad a y e g (M.sm.trans i)) (λxs rs g l er hl i A W ah hk=>?_);have M1:=M.same i;refine⟨t,l,I,dP,xs,rs,fs,k1,n,Y,M1.at_,M1.only,by have:=M1.len;omega,λnj=>⟨(hP nj).1,i _ _ (hP nj).2,M1.turns⟩,A,hl,W,?_⟩;have s:Zr t o g:=Zr.of i;cases e1:Xs j k1 n 0 0 [] (xs.zip rs)with
|inl q=>exact λN h=>ah q.1 q.2 e1 N (s.trans h)
|inr b=>intro N d h ai ab u T;have L:=C_ (fs:=fs) (j:=j) (d:=d) (l:=l);exact good b N _ d (hk b e1) (M1.next h T hz hb hT.2 hT.1) (s.trans h) (by rw[er];exact XE.new (h _ _ A (nh A M1.at_ (by intro z;cases z))) u Q) L.old L.yA u ab
def Kr(zr:Txt K J)(L:rH K C)(zw:wR P w K J S "BadTable" ["part","at","why"] Cb)(CI:l8 P w K J S 6 "is_within" [mJ,"low","high"] K1.JR)(o:oU P w K J S 6 "rows_of" ["part","rows"] (Rg Cb))(CP:nG P w K J S (oV P w) 6 C "take_places" [mG,"places"] (Z7 1 C Cb))(CR:nG P w K J S (oV P w) 6 C "take_rides" [mG,"rides"] (Z7 2 C Cb))(CW:nG P w K J S (oV P w) 6 C "take_ways" [mG,"ways"] (Z7 3 C Cb))(CG:nG P w K J S (oV P w) 6 C "take_groups" [mG,"groups"] (Z7 4 C Cb)){A:bU}{s:ao}   (i:l9 6 (A.deeper (f_ "Table.__init__" (Ze T.kx) s.heap.objs.size f aF)))(h:Rc C Cb vs H Q E):∃t,qg (nr (oV P w) P w K J S [mG,"turns","places","rides","ways","groups"] "Table.__init__" (Ze T.kx) f aF A aM s H E) (ZT T.kx) t/\t {nx:=λ_ H'=>Q .non H',rt:=Q} (start [mG,"turns","places","rides","ways","groups"] vs) H:=by
 obtain⟨t,X,l,T',v1,v2,v3,v4,x,u,r,q,rfl,W,ah,p1,p2,p3,p4,k⟩:=h;obtain⟨t1,h1⟩:=zr.turns;refine⟨_,Zb (ZC (Yn (Yu (Z9 CI i Y (Zj (R 1) (Zj Zd (Zj (Yi (v:=V.int 50) Y h1 ⟨t1,Y⟩) Zg)))))) (Zi (Xm (E:=E) zw Y8 Y (i.mono zD) Y (Zj Zf (Zj ZK (Zj Zf Zg))))) Zq) (Zb (Ve (R 0) (R 1) Y) (Zb (Yc (Jh CP L.cl Y8 i (R 0) (Zj (Xv o Y8 i Y (Zj Zf (Zj (R 2) Zg))) Zg))) (Zb (Yc (Jh CR L.cl Y8 i (R 0) (Zj (Xv o Y8 i Y (Zj Zf (Zj (R 3) Zg))) Zg))) (Zb (Yc (Jh CW L.cl Y8 i (R 0) (Zj (Xv o Y8 i Y (Zj Zf (Zj (R 4) Zg))) Zg))) (Zi (Yc (Jh CG L.cl Y8 i (R 0) (Zj (Xv o Y8 i Y (Zj Zf (Zj (R 5) Zg))) Zg)))))))),?_⟩;have b:∀I,Jm l x u r q=I->(match I with
 |.inl (p,a,y)=>∀H1,Zr t H H1->uQ Cb p a y H1 E
 |.inr k=>∀H' fs n,Zr t H H'->l=.int n->TabOf H' C t fs n x u r q k->Q .non H'):=λI e=>by rw[<-e];exact k
 clear k;refine⟨_,Y,l,T',1,50,Y,ah,_,Y,?_⟩;by_cases hw:K1.ZD l 1 50=true
 .rw[hw];refine kv ?_;obtain⟨n,rfl⟩:∃n,l=.int n:=by
   cases l with
  |int n=>exact⟨n,Y⟩
  |_=>cases hw
  have ai:(decide (1<=n)&&decide (n<=50))=true:=hw;have ek:Jm (.int n) x u r q=named "places" (ZR 14 (o8 1 [] n) x) λc=>named "rides" (ZR 80 (o8 2 c n) u) λk2=>named "ways" (ZR 40 (o8 3 c n) r) λk3=>named "groups" (ZR 300 (o8 4 c n) q) λk4=>.inr (c,k2,k3,k4):=by show(if(decide (1<=n)&&decide (n<=50))=true then _ else _)=_;rw[zH ai]
  rw[ek]at b;dsimp only[Ih];refine tq λD1 aC=>?_;refine⟨_,Y,_,Y,t,C,X,_,Y,W,L.cl,L.na _ (by simp[fields]),D,?_⟩;have M0:wB H (upd H t (.ins C X (lZ "turns" (.int n) []))) C t X (lZ "turns" (.int n) []) n 1:=⟨(Zr.refl t H).upd,Zc,λg hg=>by rw[ZV,zG (λz=>hg (by rw[z];simp[fields]))];rfl,aq _,by rw[ZV,zH Y]⟩;generalize upd H t (.ins C X (lZ "turns" (.int n) []))=H0 at M0 ⊢;generalize lZ "turns" (.int n) []=F0 at M0;refine aC _ _ (tq λD2 az=>?_);refine V8 (j:=1) (dP:=t) (k1:=[]) (.inl Y) M0 D zC (λh=>zI Y h) (p1.nO W M0.sm) Y Y (λa y e=>by rw[show ZR 14 (o8 1 [] n) x=_ from e]at b;exact b _ Y) λc H1 F1 d e M1 s1 A1 _ lk F ab=>?_;rw[show ZR 14 (o8 1 [] n) x=_ from e]at b;dsimp only[named]at b;refine az _ _ (tq λD3 ar=>?_);refine V8 (j:=2) (.inr (.inl Y)) M1 D zC (λ_=>⟨lk,F⟩) (p2.nO W M1.sm) Y Y (λa y e=>by rw[show ZR 80 (o8 2 c n) u=_ from e]at b;exact b _ Y) λk2 H2 F2 _ e M2 s2 A2 o2 _ _ _=>?_;rw[show ZR 80 (o8 2 c n) u=_ from e]at b;dsimp only at b;refine ar _ _ (tq λD4 ak=>?_);have A1:=A1.keep M1.at_ s2 (o2 _ zC zC) (o2 _ zC zC);have lk:=(o2 _ zC zC).trans lk;have F:=s2 _ _ F ab;refine V8 (j:=3) (.inr (.inr (.inl Y))) M2 D zC (λ_=>⟨lk,F⟩) (p3.nO W M2.sm) Y Y (λa y e=>by rw[show ZR 40 (o8 3 c n) r=_ from e]at b;exact b _ Y) λk3 H3 F3 _ e M3 s3 A3 N _ _ _=>?_;rw[show ZR 40 (o8 3 c n) r=_ from e]at b;dsimp only at b;refine ak _ _ ?_;have A1:=A1.keep M2.at_ s3 (N _ zC zC) (N _ zC zC);have A2:=A2.keep M2.at_ s3 (N _ zC zC) (N _ zC zC);have lk:=(N _ zC zC).trans lk;have F:=s3 _ _ F ab;refine V8 (j:=4) (.inr (.inr (.inr Y))) M3 D zC (λ_=>⟨lk,F⟩) (p4.nO W M3.sm) Y Y (λa y e=>by rw[show ZR 300 (o8 4 c n) q=_ from e]at b;exact b _ Y) λk4 H4 F4 _ e M4 s4 A4 M _ _ _=>?_;rw[show ZR 300 (o8 4 c n) q=_ from e]at b;dsimp only at b;exact b _ Y H4 F4 n M4.sm Y ⟨⟨⟨X,M4.at_⟩,M4.only⟩,M4.turns,A1.keep M3.at_ s4 (M _ zC zC) (M _ zC zC),A2.keep M3.at_ s4 (M _ zC zC) (M _ zC zC),A3.keep M3.at_ s4 (M _ zC zC) (M _ zC zC),A4⟩
 .have aa:K1.ZD l 1 50=false:=by simpa using hw
  rw[aa];refine kq ?_;have ek:Jm l x u r q=.inl (.str "turns",.non,.str "number"):=by
   cases l with
  |int n=>show(if(decide (1<=n)&&decide (n<=50))=true then _ else _)=_;rw[zG (by rw[show(decide (1<=n)&&decide (n<=50))=false from aa];decide)]
  |_=>rfl
  exact⟨Y,b _ ek H (Zr.refl t H)⟩
end
end TB
namespace L2
open PySem PySem.Spec PyProof.Rows
section
variable {X:Cx}{CX:sJ}{k:Nat}{C:G}{ps:List U}{sp:Sp}{E:XK}{m:U}{pos apos:iG}{o:bV}{ta:TE}
def Px (c:nG X.prog X.w X.K X.mg X.base CX k C m ps sp)(l:t8 X.K C)(g:Yx CX X E)(i:l9 k X.A)(j:PE X o ta)
  (h:cM (.Call (.Attribute o m apos) [] [] pos) X.env=(do
   let a <-cM o X.env
   standAt apos.atName
   let (f,first) <-jx [a] (jX a m n)
   callWith pos f first (eh pos (bf [] X.env)) (iL pos (fY [] X.env))):=by rfl):
  PE X (.Call (.Attribute o m apos) [] [] pos) (QC C m sp [] E ta mq):=by
 obtain⟨f,p,F,d,b⟩:=c
 exact Fp j l d F i b .nil g h
end
end L2
namespace TB
open PySem L2 PySem.Spec PyProof.Rows
section
variable {P:a9}{w:bg}{K:af}{J:U->Option Z}{S:bC}{C Cb:G}
def Ww(C:G):Sp:=λr H Q _=>∃(t:G)(fs:List (U×V))(n:Int)(i h g f:PR)(k:Ks),r=[.ref t]/\TabOf H C t fs n i h g f k /\∀q p o l j d c b a y x u s,i=O (d,y)->h=O (c,x)->g=O (b,u)->f=O (a,s)->H p=O (.tup d)->H o=O (.tup c)->H l=O (.tup b)->H j=O (.tup a)->H q=B->Q (.ref q) (upd H q (.tup [.int n,.ref p,.ref o,.ref l,.ref j]))
def Bx:ia [mG] [mG] (Ze T.oJ):=nc
def HX(a:rH K C)(j:qQ K C "told" "Table.told" T.oJ [mG]):nG P w K J S qf 1 C "told" [mG] (Ww C):=by refine j.cn Bx λf aa A i s H vs Q E hr h=>?_;obtain⟨t,fs,n,r1,r2,r3,r4,k,rfl,b,X⟩:=h;refine⟨_,Zi (Zn (Yo (Zj (Yw (R 0) Y) (Zj (Yw (R 0) Y) (Zj (Yw (R 0) Y) (Zj (Yw (R 0) Y) (Zj (Yw (R 0) Y) Zg))))))),?_⟩;obtain⟨d,c⟩:=b.tab.at_;obtain⟨W,d1,x,I,a1,_,e1,b1,_⟩:=b.p;obtain⟨N,d2,u,F,a2,_,e2,b2,_⟩:=b.r;obtain⟨M,d3,q,z,a3,_,e3,b3,_⟩:=b.w;obtain⟨L,d4,o,y,a4,_,e4,b4,_⟩:=b.g;refine⟨_,Y,t,C,d,fs,_,Y,c,a.cl,a.na _ (by simp[fields]),b.turns,_,Y,t,C,d,fs,_,Y,c,a.cl,a.na _ (by simp[fields]),a1,_,Y,t,C,d,fs,_,Y,c,a.cl,a.na _ (by simp[fields]),a2,_,Y,t,C,d,fs,_,Y,c,a.cl,a.na _ (by simp[fields]),a3,_,Y,t,C,d,fs,_,Y,c,a.cl,a.na _ (by simp[fields]),a4,zl,λl hl=>?_⟩;exact X l W N M L x u q o I F z y e1 e2 e3 e4 b1 b2 b3 b4 hl
structure Ξ(P:a9)(w:bg)(K:af)(J:U->Option Z)(S:bC)(C Cb:G):Prop where
 made:∃f fd,Mk K C f/\m7 P w K J S (oV P w) 7 f fd [mG,"turns","places","rides","ways","groups"] (Rc C Cb)/\Binds K fd [mG,"turns","places","rides","ways","groups"] []
 mg:J "Table"=O (.ref C)
def Nr{H f:Hp} (g:H t=B)(a:H d=B)(s:Zr t (upd (upd H d o) t i) f):f' H f:=λc u e=>by
 have b:c≠t:=λz=>by rw[z,g]at e;cases e
 have h:c≠d:=λz=>by rw[z,a]at e;cases e
 exact s c u (by rw[Zk b,Zk h];exact e) b
end
end TB
namespace L2
open PySem PySem.Spec PyProof.Rows
section
variable {prog:a9}{w:bg}{A:bU}{E:Z->ao->Prop}{s:ao}
def R8  {Q:Option eN->ao->Prop}(h:Q (s.heap.get? a) s):aI M A (loadIfAlive a) Q E s:=λb p _=>by show Sem.wp M b (.loadIfAlive a .pure) _ _ p s;rw[Sem.wp_loadIfAlive,Sem.wp_pure];exact h
abbrev U4(h:bC)(z TI TO T0:G)(a:Bool):Prop:=h.get? z=O {cls:=.type "zip",dict:=B,data:=.fields #[dU T0,.bool a,.bool false,.ref TI,.ref TO],slots:=#[]}
def Qr{z TI TO T0:G}{c:Bool}{Q:Bool->ao->Prop}(a:U4 s.heap z TI TO T0 c)(i:∃o,s.heap.get? T0=O o)(g:∀b,U4 b z TI TO T0 true->gk z s.heap b->Q false {s with heap:=b}):aI (aZ prog w) A (bO (.ref z)) Q E s:=by
 obtain⟨o,h⟩:=i;unfold bO;refine ae (bG a Y (x:=dU T0) Y ?_);show aI _ _ (loadIfAlive ((T0:Int).toNat) >>= _) _ _ _;refine ae (R8 ?_);have e:(T0:Int).toNat=T0:=cw T0;rw[e,h];show aI _ _ (kR (.ref z) 1 >>= _) _ _ _;refine ae (bG a Y (x:=.bool c) Y ?_);cases c with
|false=>show aI _ _ (setField (.ref z) 1 (.bool true) >>= _) _ _ _;refine ae (fP a zE λj d f=>aE (g j d f))
|true=>exact aE (g s.heap a (jT ..))
def N7{z TI TO T0 h t u C:G}{f1:Bool}{F H:Nat}{W T:Array Z}{x y:Z}{Q:Z->ao->Prop}(g:jV z TI TO h t u C)(I:U4 s.heap z TI TO T0 f1)(hT:∃o,s.heap.get? T0=O o)(N:fj s.heap TI (.ref h) (.ref t))(h1:s.heap.IsListIter h u F)(h2:s.heap.IsListIter t C H)(M:s.heap.IsList u W)(L:s.heap.IsList C T)(hx:W[F]?=O x)(hy:T[H]?=O y)(hQ:∀i,U4 i z TI TO T0 true->i.IsListIter h u (F+1)->i.IsListIter t C (H+1)->fj i s.heap.objs.size x y->i.objs.size=s.heap.objs.size+1 ->(∀c o,c≠z->c≠TO->c≠h->c≠t->s.heap.get? c=O o->i.get? c=O o)->Q (.ref s.heap.objs.size) {s with heap:=i}):aI (aZ prog w) A (fX.«zip.__next__» ⟨[.ref z],[]⟩) (λP s'=>∃v,P=.done (.ret v)/\Q v s') E s:=by
 show aI _ _ (kR (.ref z) 2 >>= _) _ _ _;refine ae (bG I Y (x:=.bool false) Y ?_);show aI _ _ (kR (.ref z) 3 >>= _) _ _ _;refine ae (bG I Y (x:=.ref TI) Y ?_);refine ae (eB N Y ?_);show aI _ _ (bO (.ref z) >>= _) _ _ _;refine ae (Qr I hT λaa n a=>?_);simp only[dm,if_false];refine ae ?_;simp only[List.forIn_toArray,iZ,j8];refine ae (ae (bL ?_));show aI _ _ (bE (.ref h) >>= _) _ _ _;refine ae (ka (h1.extBut a.extBut g.i1z) (M.extBut a.extBut g.l1z) hx λX r b=>aE (aE ?_));refine ae (ae (bL ?_));show aI _ _ (bE (.ref t) >>= _) _ _ _;refine ae (ka ((h2.extBut a.extBut g.i2z).extBut b.extBut g.i12.symm) ((L.extBut a.extBut g.l2z).extBut b.extBut g.l2i1) hy λd p f=>aE (aE (aE ?_)));have j:d.objs.size=s.heap.objs.size:=by rw[f.1,b.1,a.1]
 have l:U4 d z TI TO T0 true:=f.extBut _ _ g.i2z.symm (b.extBut _ _ g.i1z.symm n);have q:d.IsListIter h u (F+1):=r.extBut f.extBut g.i12;refine ae (wpAny_newTuple (hsz:=(zl)) ?_);refine aE ⟨_,Y,?_⟩;show Q (.ref d.objs.size) _;rw[j];refine hQ _ (av _ l) (q.at λo e=>av _ e) (p.at λo e=>av _ e) ?_ ?_ λc o c1 c2 c3 c4 e=>av _ (f.extBut _ _ c4 (b.extBut _ _ c3 (a.extBut _ _ c1 e)))
 .have this:(d.push {cls:=.type "tuple",data:=.seq #[x,y]}).get? d.objs.size=O _:=aR _ Y;rw[j]at this;exact this
 .rw[fZ,j]
def Ql{z TI TO T0 j i u t:G}{f1:Bool}{C y:Nat}{r q:Array Z}{Q:Fin->ao->Prop}(hh:A.handled=B)(d:jV z TI TO j i u t)(F:U4 s.heap z TI TO T0 f1)(hT:∃o,s.heap.get? T0=O o)(T:fj s.heap TI (.ref j) (.ref i))(h1:s.heap.IsListIter j u C)(h2:s.heap.IsListIter i t y)(l:s.heap.IsList u r)(P:s.heap.IsList t q)(p:r[C]?=B\/q[y]?=B)(hE:∀L e,(∀c o,c≠z->c≠TO->c≠j->c≠i->s.heap.get? c=O o->L.get? c=O o)->(∃o,L.get? e=O o/\o.cls=.type "StopIteration")->E (.ref e) {s with heap:=L}):aI (aZ prog w) A (fX.«zip.__next__» ⟨[.ref z],[]⟩) Q E s:=by
 show aI _ _ (kR (.ref z) 2 >>= _) _ _ _;refine ae (bG F Y (x:=.bool false) Y ?_);show aI _ _ (kR (.ref z) 3 >>= _) _ _ _;refine ae (bG F Y (x:=.ref TI) Y ?_);refine ae (eB T Y ?_);show aI _ _ (bO (.ref z) >>= _) _ _ _;refine ae (Qr F hT λaa W a=>?_);simp only[dm,if_false];refine ae ?_;simp only[List.forIn_toArray,iZ,j8];refine ae (ae (bL ?_));show aI _ _ (bE (.ref j) >>= _) _ _ _;cases H:r[C]? with
|none=>exact ae (wpAny_nextOf_list_end hh (h1.extBut a.extBut d.i1z) (l.extBut a.extBut d.l1z) H λf e b I=>hE f e (λc o N _ M _ x=>b _ _ M (a.extBut _ _ N x)) I)
|some x=>
  have hy:q[y]?=B:=by rcases p with h|h;rw[H]at h;cases h;exact h
  refine ae (ka (h1.extBut a.extBut d.i1z) (l.extBut a.extBut d.l1z) H λf X b=>aE (aE ?_));refine ae (ae (bL ?_));show aI _ _ (bE (.ref i) >>= _) _ _ _;exact ae (wpAny_nextOf_list_end hh ((h2.extBut a.extBut d.i2z).extBut b.extBut d.i12.symm) ((P.extBut a.extBut d.l2z).extBut b.extBut d.l2i1) hy λn e g I=>hE n e (λc o N c2 M c4 x=>g _ _ c4 (b.extBut _ _ M (a.extBut _ _ N x))) I)
def VA(n:Nat)(h:bC)(z TI TO g f d c:G)(j i:Array Z)(k:Nat):Prop:=((jU h z TI TO .none/\∃a b,fj h TO a b)\/∃T0 l,U4 h z TI TO T0 l/\(∃o,h.get? T0=O o)/\n<=T0) /\fj h TI (.ref g) (.ref f)/\h.IsListIter g d k/\h.IsListIter f c k/\h.IsList d j/\h.IsList c i
def VA.type{i:Nat}{z TI TO h g f d:G}{c b:Array Z}{k:Nat}(st:VA i s.heap z TI TO h g f d c b k):s.TypeIs (.ref z) "zip":=by
 obtain⟨⟨a,_⟩|⟨T0,j,a,_⟩,_⟩:=st
 .exact⟨_,a,Y⟩
 .exact⟨_,a,Y⟩
def RX{l:Nat}{z TI TO i h C u:G}(j:z<l/\TO<l/\i<l/\h<l)(hN:l<=s.heap.objs.size){k:Nat}{x y:Z}{Q:Option Z->ao->Prop}(f:jV z TI TO i h C u)(st:VA l s.heap z TI TO i h C u L I k)(hx:L[k]?=O x)(hy:I[k]?=O y)(hQ:∀d,VA l d z TI TO i h C u L I (k+1)->fj d s.heap.objs.size x y->(∀c o,c≠z->c≠TO->c≠i->c≠h->s.heap.get? c=O o->d.get? c=O o)->Q (O (.ref s.heap.objs.size)) {s with heap:=d}):aI (aZ prog w) A (jQ (.ref z)) Q E s:=by
 have hT:s.TypeIs (.ref z) "zip":=st.type;obtain⟨ha,q,X,W,p,n⟩:=st;have keep:∀d,(∀c o,c≠z->c≠TO->c≠i->c≠h->s.heap.get? c=O o->d.get? c=O o)->fj d TI (.ref i) (.ref h)/\d.IsList C L/\d.IsList u I:=λd hk=>⟨hk _ _ f.TIz f.TITO f.TIi1 f.TIi2 q,p.at λo e=>hk _ o f.l1z f.l1TO f.l1i1 f.l1i2 e,n.at λo e=>hk _ o f.l2z f.l2TO f.l2i1 f.l2i2 e⟩;have lt:∀{c o},s.heap.get? c=O o->s.heap.objs.size≠c:=λe=>df (aK e);have n1:s.heap.objs.size≠i:=by obtain⟨_,e,_⟩:=X;exact lt e
 have n2:s.heap.objs.size≠h:=by obtain⟨_,e,_⟩:=W;exact lt e
 unfold jQ;refine ae (gP (dC (name:=bh "__next__") hT F.slot_zip_next (eS F.slot_zip_next hT F.entry_zip_next ?_ (F.args_zip_next_1 _))));rcases ha with⟨T,a,b,aa⟩|⟨T0,f1,T,⟨o0,t⟩,t0⟩
 .refine zip_next_item f T q aa X W p n hx hy λd a1 a2 a3 a4 H a6 r=>aE ?_;obtain⟨P,N,M⟩:=keep d r;exact hQ d ⟨.inr ⟨_,false,a1,⟨_,H⟩,hN⟩,P,a3,a4,N,M⟩ H r
 .refine N7 f T ⟨o0,t⟩ q X W p n hx hy λd a1 a3 a4 H a6 r=>aE ?_;obtain⟨P,N,M⟩:=keep d r;have g:∀c:G,c<l->T0≠c:=λc hc=>df (aX hc t0);exact hQ d ⟨.inr ⟨T0,true,a1,⟨_,r _ _ (g z j.1) (g TO j.2.1) (g i j.2.2.1) (g h j.2.2.2) t⟩,t0⟩,P,a3,a4,N,M⟩ H r
def Wa{N0:Nat}{z TI TO n l I H:G}{k:Nat}{C y:Array Z}{Q:Option Z->ao->Prop}(L:A.handled=B)(x:jV z TI TO n l I H)(st:VA N0 s.heap z TI TO n l I H C y k)(f:C[k]?=B\/y[k]?=B)(hQ:∀d,(∀c o,c≠z->c≠TO->c≠n->c≠l->s.heap.get? c=O o->d.get? c=O o)->Q B {s with heap:=d}):aI (aZ prog w) A (jQ (.ref z)) Q E s:=by
 have p:s.TypeIs (.ref z) "zip":=st.type;obtain⟨X,i,N,M,h,g⟩:=st;unfold jQ;have j:∀d e,(∀c o,c≠z->c≠TO->c≠n->c≠l->s.heap.get? c=O o->d.get? c=O o)->(∃o,d.get? e=O o/\o.cls=.type "StopIteration")->aI (aZ prog w) A (lQ (.ref e) (.type "StopIteration") >>= λok=>if ok=true then pure B else throw (.ref e)) Q E {s with heap:=d}:=by rintro d e hk ⟨o,P,W⟩;refine ae (jY (T:="StopIteration") (b:=true) ⟨o,P,W⟩ isSubtype_stop ?_);exact aE (hQ _ hk)
 rcases X with⟨q,a,b,t⟩|⟨T0,f1,q,u,t0⟩
 .refine ae (gP (dC (name:=bh "__next__") p F.slot_zip_next (eS F.slot_zip_next p F.entry_zip_next (zip_next_end L x q i t N M h g f λd e hk r=>j d e hk r) (F.args_zip_next_1 _))))
 .refine ae (gP (dC (name:=bh "__next__") p F.slot_zip_next (eS F.slot_zip_next p F.entry_zip_next (Ql L x q u i N M h g f λd e hk r=>j d e hk r) (F.args_zip_next_1 _))))
end
def T9:lP (.type "zip") "__len__"=pure B:=by rw[typeLookup_type,builtinLookup_eq_fast];kernel_rfl
def RU:lP (.type "zip") "__length_hint__"=pure B:=by rw[typeLookup_type,builtinLookup_eq_fast];kernel_rfl
def VA.keep{p:Nat}{h C:bC}{z TI TO j i g f:G}{y x:Array Z}{k:Nat}{c:G}(st:VA p h z TI TO j i g f y x k)(d:∀b o,b≠c->h.get? b=O o->C.get? b=O o)(n:z≠c/\TI≠c/\TO≠c/\j≠c/\i≠c/\g≠c/\f≠c)(F:c<p):VA p C z TI TO j i g f y x k:=by
 obtain⟨Q,w,W,T,s,r⟩:=st;obtain⟨A,P,N,M,L,I,H⟩:=n;refine⟨?_,d _ _ P w,W.at λo e=>d _ o M e,T.at λo e=>d _ o L e,s.at λo e=>d _ o I e,r.at λo e=>d _ o H e⟩;rcases Q with⟨l,a,b,u⟩|⟨T0,X,l,⟨E,q⟩,t⟩
 .exact .inl ⟨d _ _ A l,a,b,d _ _ N u⟩
 .exact .inr ⟨T0,X,d _ _ A l,⟨E,d _ _ (df (aX F t)) q⟩,t⟩
section
variable {prog:a9}{w:bg}{A:bU}{E:Z->ao->Prop}{zv:Result->ao->Prop}
def Pairs(h:bC)(d:Nat)(c b:Array Z)(a:List G):Prop:=a.Nodup/\(∀T∈a,d<=T/\T<h.objs.size)/\∀(j:Nat)T,a[j]?=O T->∃x y,c[j]?=O x/\b[j]?=O y/\fj h T x y
def W9{z TI TO I H l1 l2 d:G}{q p:Array Z}{t:Nat}(hh:A.handled=B)(zB:jV z TI TO I H l1 l2)(nS:z≠d/\TI≠d/\TO≠d/\I≠d/\H≠d/\l1≠d/\l2≠d)(W:Z)(lt:z<t/\TO<t/\I<t/\H<t/\d<t)(aS:min q.size p.size<=sizeLine):∀(k i:Nat)(s:ao)(l:List G)(c:Nat),min q.size p.size-i=k->i<=min q.size p.size->l.length=i->t<=s.heap.objs.size->VA t s.heap z TI TO I H l1 l2 q p i ->s.heap.get? d=O {cls:=.type "list",dict:=B,data:=.seq (l.map aN).toArray c,slots:=#[]}->Pairs s.heap t q p l ->(∀r C c',(∀b o,b≠d->b≠z->b≠TO->b≠I->b≠H->s.heap.get? b=O o->r.get? b=O o)->r.get? d=O {cls:=.type "list",dict:=B,data:=.seq (C.map aN).toArray c',slots:=#[]}->C.length=min q.size p.size->Pairs r t q p C->zv (.ok (.ret W)) {s with heap:=r}) ->iK (aZ prog w) A (.builtin "list.extend.loop" ⟨[.ref d,.ref z,W],[]⟩) zv s:=by
 intro k;induction k with
|zero=>
  intro i s l c hk hi hl hN st hS hp hR;have ai:i=min q.size p.size:=by omega
  refine gN F.entry_extend_loop ?_;rw[fH F.plain_extend_loop _];show aI _ A.in1 (jQ (.ref z) >>= _) _ _ s;have ar:q[i]?=B\/p[i]?=B:=by
   rcases Nat.le_total q.size p.size with h|h
   .exact .inl (by rw[ai,i_ h];exact Array.getElem?_eq_none (aq _))
   .exact .inr (by rw[ai,jK h];exact Array.getElem?_eq_none (aq _))
  refine ae (Wa hh zB st ar λr n=>?_);obtain⟨n1,n2,n3,n4,n5,n6,n7⟩:=nS;refine aE (hR r l c (λb o _ b1 b2 b3 b4 e=>n b o b1 b2 b3 b4 e) (n d _ n1.symm n3.symm n4.symm n5.symm hS) zD ?_);obtain⟨p1,p2,P⟩:=hp;have Q:∀T∈l,∀o,s.heap.get? T=O o->r.get? T=O o:=λT sM o e=>by have g:∀c:G,c<t->T≠c:=λc hc=>df (aX hc (p2 T sM).1);exact n T o (g z lt.1) (g TO lt.2.1) (g I lt.2.2.1) (g H lt.2.2.2.1) e
  refine⟨p1,λT sM=>⟨(p2 T sM).1,?_⟩,λj T f=>?_⟩
  .obtain⟨j,f⟩:=cD.mp sM;obtain⟨x,y,_,_,e⟩:=P j T f;exact aK (Q T sM _ e)
  .obtain⟨x,y,N,M,e⟩:=P j T f;exact⟨x,y,N,M,Q T (cU f) _ e⟩
|succ k ih=>
  intro i s l c hk hi hl hN st hS hp hR;have L:i<min q.size p.size:=by omega
  have ah:i<q.size:=aX L (Nat.min_le_left ..);have ab:i<p.size:=aX L (Nat.min_le_right ..);refine gN F.entry_extend_loop ?_;rw[fH F.plain_extend_loop _];show aI _ A.in1 (jQ (.ref z) >>= _) _ _ s;refine ae (RX ⟨lt.1,lt.2.1,lt.2.2.1,lt.2.2.2.1⟩ hN zB st (fG ah) (fG ab) λr az aa n=>?_);obtain⟨n1,n2,n3,n4,n5,n6,n7⟩:=id nS;have ak:=n d _ n1.symm n3.symm n4.symm n5.symm hS;show aI _ A.in1 (updateSeq d (·.push (.ref s.heap.objs.size)) >>= _) _ _ _;refine ae ?_;have X:d<s.heap.objs.size:=aK hS;obtain⟨p1,p2,P⟩:=hp;have u:∀b o,b≠d->r.get? b=O o->(r.update d (dG (·.push (.ref s.heap.objs.size)))).get? b=O o:=λb o hb e=>(bq _ _ (dc hb)).trans e;have eT:(l.map aN).toArray.push (aN s.heap.objs.size)=((l++[s.heap.objs.size]).map aN).toArray:=by simp
  obtain⟨c2,aM⟩:∃c2,(r.update d (dG (·.push (.ref s.heap.objs.size)))).get? d=O {cls:=.type "list",dict:=B,data:=.seq ((l++[s.heap.objs.size]).map aN).toArray c2,slots:=#[]}:=⟨_,(bF _ ak Y).trans (by rw[<-eT];rfl)⟩;refine kn ak Y (aE ⟨jd F.plain_extend_loop _,ih (i+1) _ (l++[s.heap.objs.size]) c2 zD L (by simp[hl]) ?_ (az.keep u nS lt.2.2.2.2) aM ?_ λaP C c' N M q3 q4=>hR aP C c' (λb o b0 b1 b2 b3 b4 e=>N b o b0 b1 b2 b3 b4 (u b o b0 (n b o b1 b2 b3 b4 e))) M q3 q4⟩) (by simp only[aQ,bH];omega) (by simp only[Array.size_push,aQ,bH];omega)
  .have:=aK (u _ _ (df X) aa);exact eQ (dA hN this)
  .have Q:∀T∈l,∀o,s.heap.get? T=O o->(r.update d (dG (·.push (.ref s.heap.objs.size)))).get? T=O o:=λT sM o e=>by have g:∀c:G,c<t->T≠c:=λc hc=>df (aX hc (p2 T sM).1);exact u T o (g d lt.2.2.2.2) (n T o (g z lt.1) (g TO lt.2.1) (g I lt.2.2.1) (g H lt.2.2.2.1) e)
   have new:=u _ _ (df X) aa;refine⟨?_,λT sM=>?_,λj T f=>?_⟩
   .rw[k7];refine⟨p1,zE,λa ha b hb=>?_⟩;rw[aL]at hb;subst hb;exact bc (p2 a ha).2
   .rcases ba.mp sM with sM|sM
    .obtain⟨j,f⟩:=cD.mp sM;obtain⟨x,y,_,_,e⟩:=P j T f;exact⟨(p2 T sM).1,aK (Q T sM _ e)⟩
    .rw[aL]at sM;subst sM;exact⟨hN,aK new⟩
   .rcases Nat.lt_or_ge j l.length with K'|K'
    .rw[fJ K']at f;obtain⟨x,y,N,M,e⟩:=P j T f;exact⟨x,y,N,M,Q T (cU f) _ e⟩
    .rw[fA K']at f;have aF:j-l.length=0:=by
      rcases ju (j-l.length)with h|h
      .exact h
      .rw[List.getElem?_eq_none (by simp;omega)]at f;cases f
     rw[aF]at f;have e:s.heap.objs.size=T:=by simpa using f
     subst e;have aC:j=i:=by omega
     subst aC;exact⟨_,_,fG ah,fG ab,new⟩
end
section
variable {prog:a9}{w:bg}{A:bU}{E:Z->ao->Prop}{s:ao}
def Pairs.nil{h:bC}{f:Nat}{b a:Array Z}:Pairs h f b a []:=⟨iz,λT d=>(by cases d),λj T c=>by simp at c⟩
def VA.iter{j:Nat}{z TI TO i g f d:G}{c b:Array Z}{k:Nat}{Q:Z->ao->Prop}(st:VA j s.heap z TI TO i g f d c b k)(h:Q (.ref z) s):aI (aZ prog w) A (pyIter (.ref z)) Q E s:=by have a:s.TypeIs (.ref z) "zip":=st.type;refine wpAny_pyIter_slot a F.slot_zip_iter (eS F.slot_zip_iter a F.entry_zip_iter ?_ (F.args_zip_iter_1 _));show aI _ _ (ret (.ref z)) _ _ s;exact aE ⟨_,Y,"zip",_,a,F.slot_zip_next.lookup,h⟩
def NA{x:Result->ao->Prop}{z TI TO q p H C a:G}{n l:Array Z}{N0:Nat}(hh:A.handled=B)(Q:jV z TI TO q p H C)(nS:z≠a/\TI≠a/\TO≠a/\q≠a/\p≠a/\H≠a/\C≠a)(g:Z)(u:Nat)(lt:z<N0/\TO<N0/\q<N0/\p<N0/\a<N0)(hN:N0<=s.heap.objs.size)(I:min n.size l.size<=sizeLine)(st:VA N0 s.heap z TI TO q p H C n l 0)(N:s.heap.get? a=O {cls:=.type "list",data:=.seq #[] u})(hR:∀i c j,(∀b o,b≠a->b≠z->b≠TO->b≠q->b≠p->s.heap.get? b=O o->i.get? b=O o)->i.get? a=O {cls:=.type "list",dict:=B,data:=.seq (c.map aN).toArray j,slots:=#[]}->c.length=min n.size l.size->Pairs i N0 n l c->x (.ok (.ret g)) {s with heap:=i}):aI (aZ prog w) A.in1 (gh (.ref a) (.ref z) g) (λL y=>match L with|.done f=>x (.ok f) y|.again j=>j.quiet=true/\iK (aZ prog w) A j x y) (λe y=>x (.error e) y) s:=by
 obtain⟨n1,n2,n3,n4,n5,n6,n7⟩:=id nS;unfold gh;refine ae (jy st.type ?_);have h1:k8 (.ref a) (.ref z)=false:=by simp[k8,n1.symm]
 have h2:(fT "zip"==fT "list")=false:=by decide
 have h3:(fT "zip"==fT "tuple")=false:=by decide
 simp only[h1,h2,h3,kG,dm,if_false];refine ae (st.iter ?_);refine ae (bL ?_);unfold Builtin.List.listLengthHint;refine ae (ko st.type T9 ?_);show aI _ A.in1 (specialOf (aN z) (bh "__length_hint__") >>= _) _ _ _;refine ae (ko st.type RU ?_);refine aE ?_;show aI _ A.in1 (rule "list.extend.makes-room" >>= λ_=>Builtin.List.listTouch (.ref a) >>= λ_=>
  again (.builtin "list.extend.loop" ⟨[.ref a,.ref z,g],[]⟩)) _ _ _;refine ae (lO ?_);refine ae ?_;show aI _ A.in1 (updateSeq a (·.push .none) >>= λ_=>updateSeq a (·.pop)) _ _ _;refine ae (kn N Y ?_);have d:=bF (dG (·.push b9)) N Y;refine kn (hz:=by seq_fits) d Y ?_;have h:=bF (dG (·.pop)) d Y;have r:∀b o,b≠a->s.heap.get? b=O o->((s.heap.update a (dG (·.push b9))).update a (dG (·.pop))).get? b=O o:=λb o M e=>(bq _ _ (dc M)).trans ((bq _ _ (dc M)).trans e);have t:((s.heap.update a (dG (·.push b9))).update a (dG (·.pop))).objs.size=s.heap.objs.size:=by
  rw[(gI ..).1,(gI ..).1]
 refine aE ⟨jd F.plain_extend_loop _,W9 hh Q nS g lt I (min n.size l.size) 0 _ [] _ zD (bK _) Y (by rw[t];exact hN) (st.keep r nS lt.2.2.2.2) h Pairs.nil λi c j q1 X W T=>?_⟩;exact hR i c j (λb o P b1 b2 b3 b4 e=>q1 b o P b1 b2 b3 b4 (r b o P e)) X W T
def Nk{Q:Z->ao->Prop}{z TI TO n l t r:G}{xs ys:Array Z}(hh:A.handled=B)(zB:jV z TI TO n l t r)(lt:z<s.heap.objs.size/\TI<s.heap.objs.size/\TO<s.heap.objs.size/\n<s.heap.objs.size/\l<s.heap.objs.size/\t<s.heap.objs.size/\r<s.heap.objs.size)
  (M:min xs.size ys.size<=sizeLine) (hz:jU s.heap z TI TO .none) (T:fj s.heap TI (.ref n) (.ref l)) (g:∃a b,fj s.heap TO a b) (h1:s.heap.IsListIter n t 0) (h2:s.heap.IsListIter l r 0) (P:s.heap.IsList t xs) (N:s.heap.IsList r ys)
  (hQ:∀j d I,(∀b o,b≠z->b≠TO->b≠n->b≠l->s.heap.get? b=O o->j.get? b=O o)->j.get? s.heap.objs.size=O {cls:=.type "list",dict:=B,data:=.seq (d.map aN).toArray I,slots:=#[]}->d.length=min xs.size ys.size->Pairs j (s.heap.objs.size+1) xs ys d->Q (.ref s.heap.objs.size) {s with heap:=j}):
  aI (aZ prog w) A (call (.type "list") [.ref z]) Q E s:=by
 have ne:∀{b:G},b<s.heap.objs.size->b≠s.heap.objs.size:=λh=>bc h
 refine callType_codes (Q₁:=λobj f=>obj=.ref s.heap.objs.size/\f={s with heap:=s.heap.push {cls:=.type "list",data:=.seq #[]}}) F.called_list (F.typeCall_list_1 _) F.entry_list_init
  (code_list_new _ ⟨Y,Y⟩) λobj f p=>?_
 obtain⟨rfl,rfl⟩:=p
 have u:(s.heap.push {cls:=.type "list",data:=.seq #[]}).get? s.heap.objs.size=O {cls:=.type "list",data:=.seq #[]}:=aR _ Y
 refine⟨⟨_,u,Y⟩,F.args_list_init_2 _ _,?_⟩
 show aI _ A.in1.in1 (do let L <-lK (.ref s.heap.objs.size);Builtin.List.listUpdate (.ref s.heap.objs.size) (λ_=>#[]);letGo L.toList.reverse;gh (.ref s.heap.objs.size) (.ref z) .none) _ _ _
 refine ae ?_
 unfold lK
 refine ae (eB u Y (aE ?_))
 show aI _ A.in1.in1 (updateSeq s.heap.objs.size (λ_=>#[]) >>= λ_=>letGo (#[]:Array Z).toList.reverse >>= λ_=>gh (.ref s.heap.objs.size) (.ref z) .none) _ _ _
 refine ae (kn u Y ?_)
 have i:=bF (dG (λ_=>(#[]:Array Z))) u Y
 have c:∀b o,b≠s.heap.objs.size->s.heap.get? b=O o->((s.heap.push {cls:=.type "list",data:=.seq #[]}).update s.heap.objs.size (dG (λ_=>(#[]:Array Z)))).get? b=O o:=
  λb o hb e=>(bq _ _ (dc hb)).trans (av _ e)
 refine ae (wpAny_letGo ?_)
 have q:((s.heap.push {cls:=.type "list",data:=.seq #[]}).update s.heap.objs.size (dG (λ_=>(#[]:Array Z)))).objs.size=s.heap.objs.size+1:=by rw[(gI ..).1,fZ]
 obtain⟨H,t2,C,y,x,X,W⟩:=lt
 obtain⟨a,b,g⟩:=g
 refine NA (N0:=s.heap.objs.size+1) (A:=A.in1) hh zB ⟨ne H,ne t2,ne C,ne y,ne x,ne X,ne W⟩ .none _ ⟨eZ H,eZ C,eZ y,eZ x,fv _⟩ (by rw[q];exact aq _) M
  ⟨.inl ⟨c _ _ (ne H) hz,a,b,c _ _ (ne C) g⟩,c _ _ (ne t2) T,h1.at λo e=>c _ o (ne y) e,h2.at λo e=>c _ o (ne x) e,P.at λo e=>c _ o (ne X) e,N.at λo e=>c _ o (ne W) e⟩ i λj d I q1 q2 q3 q4=>?_
 exact⟨Y,hQ j d I (λb o b1 b2 b3 b4 e=>q1 b o (bc (aK e)) b1 b2 b3 b4 (c b o (bc (aK e)) e)) q2 q3 q4⟩
end
noncomputable def GC(H b:Hp):Hp:=λa=>match b a with|some o=>O o|none=>H a
def Ud{H b:Hp}{a:G}(h:b a=B):GC H b a=H a:=by unfold GC;rw[h]
def MP{H b:Hp}{a:G}{o:HO}(h:b a=O o):GC H b a=O o:=by unfold GC;rw[h]
section
variable {X:Cx}{pins:List (G×eN)}{σ:List (Option V)}{H:Hp}{s:ao}{h':bC}
def Inv.more{d:Hp}{i:Nat}(I:Inv X pins σ H s)(k:∀b u,s.heap.get? b=O u->h'.get? b=O u)(j:∀a o,d a=O o->s.heap.objs.size<=a)(new:∀a o,d a=O o->ZY X.prog X.w (GC H d) h' a o):Inv X pins σ (GC H d) {s with heap:=h',toks:=i}:=by
 have g:∀b,b<s.heap.objs.size->d b=B:=λb l=>by
  cases e:d b with
 |none=>rfl
 |some o=>exact zI (aX l (j b o e)) (dB _)
 have f:∀b u,H b=O u->GC H d b=O u:=λb u e=>by rw[Ud (g b (I.lI.lt e))];exact e
 refine I.un ⟨λb u q _ _ _=>k b u q,λb u q _ _ _=>⟨u.slots,k b u q⟩,λb u q n _=>by rw[Ud (g b (aK q))];exact n,λb u q _=>⟨u,k b u q⟩,λb h q=>f _ _ q,λb o u q=>f _ _ q,λb p q=>⟨#[],by rw[f _ _ q];simp⟩⟩ λb u q=>?_;cases e:d b with
|some o=>rw[MP e]at q;cases q;exact new b _ e
|none=>rw[Ud e]at q;exact(I.lI b u q).o_ (λc v _ q=>k c v q) (λc q=>f _ _ q) λc h q=>f _ _ q
end
def AB(H d:Hp)(l:G)(b:List (List V)):Prop:=f' H d/\H l=B/\∃c:List G,d l=O (.lst (c.map V.ref))/\c.length=b.length/\(∀a∈c,H a=B)/\∀(i:Nat)a r,c[i]?=O a->b[i]?=O r->d a=O (.tup r)
section
variable {X:Cx}{a b:bV}{ta:TA}{p p2 pos vX:iG}
def Zap(ta:TA):TE:=λj H Q=>ta j H λn c=>∃(h g:G)(f d:List V),n=[.ref h,.ref g]/\c h=O (.lst f)/\c g=O (.lst d)/\∀i l,AB c i l ((f.zip d).map λq=>[q.1,q.2])->Q (.ref l) i
def KG{d:List V}{f:List Z}(r:Zt d f){j:Nat}{u:Z}(h:f[j]?=O u):∃x,d[j]?=O x/\RelV x u:=by
 have i:j<f.length:=(aU.mp h).1;have c:j<d.length:=by rw[r.length];exact i
 obtain⟨l,e,g⟩:=r.get (gE c);rw[h]at e;cases e;exact⟨_,gE c,g⟩
def WK(w:X.calm=true)(hg:Gl X "list")(hm:X.mg "list"=B)(bb:Gl X "zip")(a6:X.mg "zip"=B)(ha:PA X [a,b] ta)(hs:bf [a,b] X.env=[(false,cM a X.env),(false,cM b X.env)]:=by rfl)(ak:bf [b] X.env=[(false,cM b X.env)]:=by rfl)(ai:bf [.Call (.Name "zip" p2) [a,b] [] vX] X.env=[(false,cM (.Call (.Name "zip" p2) [a,b] [] vX) X.env)]:=by rfl):PE X (.Call (.Name "list" p) [.Call (.Name "zip" p2) [a,b] [] vX] [] pos) (Zap ta):=by
 intro P s σ H Q I h;refine eU (Vl I hg hm LV (c8 ?_ (by rw[ai];rfl) zF));rw[ai];refine ig ?_;refine Call_ (Vl I bb a6 boot_zip (c8 (lY (ha vX P s σ H _ I h) λus E hZ=>?_) (by rw[hs,ak]) (by rw[ak];rfl)));obtain⟨vs,H1,I1,r1,q1⟩:=hZ;obtain⟨l1,l2,xs,ys,e,hx,hy,q⟩:=q1;subst e;cases r1 with
|cons r rr=>
  cases rr with
 |cons r' rr=>
   cases rr;cases r;cases r';obtain⟨z1,ah,n,rv,hl,e⟩:=I1.qH hx;obtain⟨z2,W,n2,aF,a7,e2⟩:=I1.qH hy;refine call_zip_2 (xs:=ah.toArray) (ys:=W.toArray) ⟨_,e,Y,_,Y⟩ ⟨_,e2,Y,_,Y⟩ λt a1 a2 a3 a4 a5 aS kk=>?_;refine jv ?_;have C:=aK e;have A:=aK e2;have zB:jV (E.heap.objs.size+4) (E.heap.objs.size+2) (E.heap.objs.size+3) E.heap.objs.size (E.heap.objs.size+1) l1 l2:=by
    generalize E.heap.objs.size=N at C A;have g:∀(c:Nat)(k:Nat),c<N->c≠N+k:=λc k w=>by omega
    have M:∀i j:Nat,i≠j->N+i≠N+j:=λi j h e=>h (Nat.add_left_cancel e);exact⟨M 2 4 D,M 3 4 D,M 0 4 D,M 1 4 D,M 2 3 D,M 2 0 D,M 2 1 D,M 3 0 D,M 3 1 D,M 0 1 D,g _ 4 C,g _ 3 C,g _ 0 C,g _ 1 C,g _ 4 A,g _ 3 A,g _ 0 A,g _ 1 A⟩
   have sz:t.objs.size=E.heap.objs.size+5:=aS;refine Nk (s:={E with heap:=t}) (xs:=ah.toArray) (ys:=W.toArray) (I1.ok.hd w) zB ?_ ?_ a1 a2 ⟨_,_,a3⟩ a4 a5 ⟨_,kk _ _ e,Y,_,Y⟩ ⟨_,kk _ _ e2,Y,_,Y⟩ λaz d c' k2 hS ab hp=>?_
   .show _<t.objs.size/\_<t.objs.size/\_<t.objs.size/\_<t.objs.size/\_<t.objs.size/\_<t.objs.size/\_<t.objs.size;rw[sz];generalize E.heap.objs.size=N at C A;have g:∀k:Nat,k<5->N+k<N+5:=λk hk=>by omega
    exact⟨g 4 D,g 2 D,g 3 D,g 0 D,g 1 D,aX C (gU _ _),aX A (gU _ _)⟩
   .simp only[aQ];omega
   .have aC:∀b o,E.heap.get? b=O o->az.get? b=O o:=λb o q=>by have hb:=aK q;have g:∀k:Nat,b≠E.heap.objs.size+k:=λk=>bc (aX hb (gU _ _));exact k2 b o (g 4) (g 3) (g 0) (g 1) (kk b o q)
    obtain⟨p1,p2,p3⟩:=hp;simp only[aQ]at ab;have L:d.length=min xs.length ys.length:=by rw[ab,hl,a7]
    let f:=(xs.zip ys).map λq=>[q.1,q.2]
    let u:Hp:=λc=>if c=t.objs.size then O (HO.lst (d.map V.ref))else if c∈d then O (HO.tup (f.getD (d.idxOf c) []))else B
    have bx:t.objs.size∉d:=λz=>Nat.not_succ_le_self _ (p2 _ z).1;have nS:u t.objs.size=O (.lst (d.map V.ref)):=zH Y;have nT:∀c∈d,u c=O (.tup (f.getD (d.idxOf c) [])):=λc w=>by have zc:c≠t.objs.size:=λz=>bx (by rw[<-z];exact w);show(if c=t.objs.size then O (HO.lst (d.map V.ref))else if c∈d then O (HO.tup (f.getD (d.idxOf c) []))else B)=_;rw[zG zc,zH w]
    have F:E.heap.objs.size<=t.objs.size:=by rw[sz];exact gU _ _
    have aa:∀(i:Nat)T r,d[i]?=O T->f[i]?=O r->f.getD (d.idxOf T) []=r:=λi T r h1 h2=>by
     have hi:i<d.length:=(aU.mp h1).1;have ei:d.idxOf T=i:=by have e:d[i]=T:=(aU.mp h1).2;rw[<-e];exact p1.idxOf_getElem i hi
     rw[ei,bQ,h2];rfl
    have I2:Inv X P σ (GC H1 u) {E with heap:=az,toks:=E.toks}:=I1.more aC (λc o w=>?_) (λc o w=>?_)
    .refine⟨.ref t.objs.size,GC H1 u,I2,Y,q _ _ ⟨λc o ho=>?_,I1.lI.fresh F,d,MP nS,?_,λc w=>I1.lI.fresh (aj F (lC (p2 c w).1)),λi T r h1 h2=>?_⟩⟩
     .rw[Ud ?_]
      .exact ho
      .have ar:=I1.lI.lt ho;have zc:c≠t.objs.size:=bc (aX ar F);have zt:c∉d:=λz=>dB _ (aX ar (aj F (lC (p2 c z).1)));show(if c=t.objs.size then O (HO.lst (d.map V.ref))else if c∈d then O (HO.tup (f.getD (d.idxOf c) []))else B)=_;rw[zG zc,zG zt]
     .rw[L,lm,c9]
     .rw[MP (nT T (cU h1)),aa i T r h1 h2]
    .by_cases z:c=t.objs.size
     .rw[z];exact F
     .by_cases zz:c∈d
      .exact aj F (lC (p2 c zz).1)
      .have:u c=B:=by show(if c=t.objs.size then O (HO.lst (d.map V.ref))else if c∈d then O (HO.tup (f.getD (d.idxOf c) []))else B)=_;rw[zG z,zG zz]
       rw[this]at w;cases w
    .by_cases z:c=t.objs.size
     .subst z;rw[nS]at w;cases w;refine⟨by rw[lm,L];omega,d.map aN,c',?_,hS⟩;generalize d=l;induction l with
     |nil=>exact .nil
     |cons a l ih=>exact .cons Y ih
     .by_cases zz:c∈d
      .rw[nT c zz]at w;cases w;obtain⟨j,hj⟩:=cD.mp zz;obtain⟨x,y,aP,aM,a0⟩:=p3 j c hj;obtain⟨vx,ex,rx⟩:=KG rv (j:=j) (by simpa using aP);obtain⟨vy,ey,ry⟩:=KG aF (j:=j) (by simpa using aM);have er:f[j]?=O [vx,vy]:=by show((xs.zip ys).map λq=>[q.1,q.2])[j]?=_;rw[aT,List.getElem?_zip_eq_some (z:=(vx,vy)) |>.mpr ⟨ex,ey⟩];rfl
       rw[aa j c _ hj er];exact⟨zl,[x,y],.cons rx (.cons ry .nil),⟨_,a0,Y,_,Y⟩⟩
      .have:u c=B:=by show(if c=t.objs.size then O (HO.lst (d.map V.ref))else if c∈d then O (HO.tup (f.getD (d.idxOf c) []))else B)=_;rw[zG z,zG zz]
       rw[this]at w;cases w
end
section
variable {prog:a9}{w:bg}{A:bU}{E:Z->ao->Prop}
theorem QX{it l:G}(h:l≠it):∀(n i:Nat)(s:ao)(Q:List Z->ao->Prop),s.heap.IsListIter it l i->s.heap.IsList l a->i+n<=a.size ->(∀r,r.IsListIter it l (i+n)->gk it s.heap r->Q ((a.toList.drop i).take n) {s with heap:=r})->aI (aZ prog w) A (draw (.ref it) n) Q E s
|0,i,s,Q,f,_,_,q=>by show aI _ _ (pure []) Q E s;exact aE (by simpa using q s.heap f (jT ..))
|n+1,i,s,Q,f,t,z,q=>by
  have j:i<a.size:=by omega
  show aI _ _ (jQ (.ref it) >>= _) Q E s;refine ae (wpAny_pyNext_list_item f t (x:=a[i]) (by simp[j]) λu d b=>?_);refine ae (bL (QX h n (i+1) _ _ d (t.at λo e=>b.extBut _ _ h e) zD λp c g=>aE ?_));have y:a.toList.drop i=a[i]::a.toList.drop (i+1):=by simp[eF,j]
  have:=q p (by rw[show i+(n+1)=i+1+n by omega];exact c) (b.trans g);rw[y,List.take_succ_cons]at this;exact this
def My{s:ao} {Q:List Z->ao->Prop}(x:A.handled=B)(p:s.heap.IsList t a)(y:∀r,Heap.ExtBut s.heap.objs.size s.heap r->Q a.toList {s with heap:=r}):aI (aZ prog w) A (unpackItems (.ref t) a.size B) Q E s:=by
 have i:t≠s.heap.objs.size:=by obtain⟨o,u,_⟩:=p;exact bc (aK u)
 unfold unpackItems;refine ae ?_
 .unfold notIterableAtAll;refine ae (ko p.typeIs slot_list_iter.lookup ?_);refine aE ?_;simp only[dm,if_false];refine ae (bL (gR p ?_));have h:(s.heap.push {cls:=.type "list_iterator",data:=.fields #[.ref t,.int 0 0]}).IsList t a:=p.at λo e=>av _ e;refine ae (bL (QX i a.size 0 _ _ ⟨_,aR _ Y,Y,Y⟩ h zD λl d c=>?_));have n:List.take a.size (List.drop 0 a.toList)=a.toList:=by rw[jm];exact bp zE
  rw[n];rw[zG zE];have f:l.IsList t a:=h.at λo e=>c.extBut _ _ i e;refine ae (bL (wpAny_pyNext_list_end x d f zE λj g=>?_));simp only[Option.isSome_none,dm,if_false];refine aE (y j λb o q e=>g b o q (c.extBut b o q (av _ e)))
def Mx{s:ao} {g}   (l:A.handled=B)(i:s.heap.IsList t b)(j:(fL a c).length=b.size)(d:(fL a c).findIdx? (·.1)=B)(h:∀f,Heap.ExtBut s.heap.objs.size s.heap f->aI (aZ prog w) A (assignInOrder ((fL a c).map (·.2)) b.toList) Q E {s with heap:=f}):aI (aZ prog w) A (assign (.Tuple a g n) c (.ref t)) Q E s:=by rw[assign_Tuple];refine ae (gb ?_);unfold unpack;rw[j,d];exact ae (bL (My l i h))
end
section
variable {X:Cx}{pos:iG}
def P'(K:af)(n:Nat)(t:wO):TG:=λv c H Q=>∃a b,v=.ref a/\jw K H a b/\b.length=n/\t b c H Q
def Fm {k:Nat}{n:Nat}(z:X.calm=true)(h:xZ X f t)(x:(fL f X.env).length=n:=by rfl)(g:(fL f X.env).findIdx? (·.1)=B:=by rfl):PG X (.Tuple f k pos) (P' X.K n t):=by intro c s i H v u Q I r d;obtain⟨a,l,C,w,y,d⟩:=d;subst C;cases r;obtain⟨F,j,q,L⟩:=I.list w;refine Mx (I.ok.hd z) q.isList (by simp[x,<-y,j.length]) g λA p=>?_;have E:Inv X c i H {s with heap:=A}:=I.kept (t':=s.toks) λb o e=>p b o (bc (aK e)) e;exact h c _ i H l _ Q E (by simpa using j) d
def nJ(K:af):List V->Hp->VK->Prop:=λb H Q=>∃p a,b=[.ref p]/\(jw K H p a\/lR K H p a)/\Q (.int a.length) H
def ZO:XF X (.builtin "len") (nJ X.K):=Vt
def zY(K:af):List V->Hp->VK->Prop:=λb H Q=>∃(p:G)(a:List Int),b=[.ref p]/\jw K H p (a.map V.int)/\Q (.int a.sum) H
def Q1(t:X.calm=true):XF X (.builtin "sum") (zY X.K):=by intro f s w H x y Q I r h;obtain⟨p,b,rfl,n,q⟩:=h;obtain⟨u,rfl,i⟩:=vals1 r;cases i;obtain⟨a,j,l,A⟩:=I.list n;have d:IntsAre a b:=intsAre_of j;obtain⟨c,e⟩:=(show AllInts a.toArray from d.allInts).items;have o:s.heap.IsList p (intItems c):=e▸l.isList;refine sum_intListG (I.ok.hd t) o λC z g hk=>⟨.int b.sum,H,I.kept hk,⟨g,?_⟩,q⟩;rw[preSum_eq,bp zE,<-nums_intItems,<-e];have:numsOf a=b:=d.numsOf;rw[show a.toArray.toList=a from rfl,this]
end
mutual
inductive Is(H:Hp):V->gu->Prop
|non:Is H .non .none
|bl (b:Bool):Is H (.bl b) (.bool b)
|int (i:Int):Is H (.int i) (.int i)
|str (z:U):Is H (.str z) (.str z)
|lst {a:G}{xs:List V}{ds:List gu} (e:H a=O (.lst xs)) (r:nt H xs ds):Is H (.ref a) (.list ds)
|tup {a:G}{xs:List V}{ds:List gu} (e:H a=O (.tup xs)) (r:nt H xs ds):Is H (.ref a) (.tuple ds)
inductive nt(H:Hp):List V->List gu->Prop
|nil:nt H [] []
|cons {x:V}{xs:List V}{d:gu}{ds:List gu} (h:Is H x d) (r:nt H xs ds):nt H (x::xs) (d::ds)
end
section
variable {P:a9}{w:bg}{H:Hp}{h:bC}
mutual
theorem Is.reads(ok:ox P w H h){x:V}{d:gu}{v:Z}(q:Is H x d)(r:RelV x v):∃g,Reads h v d g:=by
 cases q with
|non=>cases r;exact⟨_,.none⟩
|bl b=>cases r;exact⟨_,.bool b⟩
|int i=>obtain⟨t,rfl⟩:=r;exact⟨_,.int i t⟩
|str z=>obtain⟨t,rfl⟩:=r;exact⟨_,.str z t⟩
|lst e q=>cases r;obtain⟨_,j,n,a,f⟩:=ok _ _ e;obtain⟨g,c⟩:=nt.reads ok q a;exact⟨_,.list f Y Y (by simpa using c)⟩
|tup e q=>cases r;obtain⟨_,j,a,o,f,p,n,l⟩:=ok _ _ e;obtain⟨g,c⟩:=nt.reads ok q a;exact⟨_,.tuple f p l (by simpa using c)⟩
theorem nt.reads(ok:ox P w H h){c:List V}{f:List gu}{d:List Z}(q:nt H c f)(r:Zt c d):∃g,ReadsAll h d f g:=by
 cases q with
|nil=>cases r;exact⟨_,.nil⟩
|cons a b=>
  cases r with
 |cons j i=>obtain⟨g,n⟩:=Is.reads ok a j;obtain⟨bs,l⟩:=nt.reads ok b i;exact⟨_,.cons n l⟩
end
mutual
theorem Is.nodict{x:V}{d:gu}(h:Is H x d):d.hasDict=false:=by
 cases h with
|lst e q=>simp only[PyData.hasDict];exact nt.nodict q
|tup e q=>simp only[PyData.hasDict];exact nt.nodict q
|_=>simp only[PyData.hasDict]
theorem nt.nodict{d:List V}{c:List gu}(h:nt H d c):kP c=false:=by
 cases h with
|nil=>simp only[kP]
|cons a b=>simp only[kP,Is.nodict a,nt.nodict b,kG]
end
end
section
variable {X:Cx}
noncomputable def Zaz:List V->Hp->VK->Prop:=λb H Q=>∃a d,b=[.ref a]/\Is H (.ref a) d/\d.showable=true/\d.depth<=64/\d.shown.length<=sizeLine/\Q (.str d.shown) H
def Vs{k:Nat}(c:l9 k X.A):XF X (.builtin "repr") Zaz:=by intro g s l H n o Q I r h;obtain⟨a,d,rfl,f,hs,j,i,q⟩:=h;obtain⟨u,rfl,b⟩:=vals1 r;obtain⟨w,rd⟩:=f.reads I.lI b;cases b;exact repr_of_reads' rd hs (PyData.noDict_hsm f.nodict) c.gd (by have:=c.un;omega) (λ_ _ e=>e) (λt u p hk=>⟨.str d.shown,H,I.kept hk,⟨u,Y⟩,q⟩) i
end
def Zr.mK   (x:Zr b H d)(f:d l=B):Zr b H (L2.upd d l o):=λc u h a=>by rw[Zk (Zp (x c u h a) f)];exact x c u h a
def Zr.put   (x:Zr b H d):Zr b H (L2.upd d b o):=λc u h a=>by rw[Zk a];exact x c u h a
def JJ{b:Type}{xs:List b}{r:Int}(c:0<=r)(f:r<(xs.length:Int)):∃v,oY xs r=O v/\v∈xs:=by
 have d:((r.toNat:Nat):Int)=r:=d7 c;have a:r.toNat<xs.length:=by omega
 refine⟨xs[r.toNat],?_,bo a⟩;have h:=Zy (xs:=xs) (gE a);rwa [d]at h
end L2
namespace WD
open PySem L2 PySem.Spec PyProof.Rows TB
noncomputable def mE:List U:=["len","range","int","list","tuple","zip","sum","repr","max","isinstance","bool","str","enumerate"]
def bm{J:U->Option Z}(a:∀x∈mE,J x=B){x:U}(h:x∈mE:=by decide +kernel):J x=B:=a x h
noncomputable def xI(x y z:Int):HO:=.lst [.int x,.int y,.int z]
def ZJ(H:Hp)(b:G):Prop:=∃x y z:Int,H b=O (xI x y z)
def ZJ.new   (h:ZJ H b)(a:H l=B):ZJ (upd H l o) b:=by obtain⟨x,y,z,e⟩:=h;exact⟨x,y,z,by rw[Zk (Zp e a)];exact e⟩
def ZJ.ne  (h:ZJ H b)(a:H l=B):l≠b:=by obtain⟨x,y,z,e⟩:=h;exact(Zp e a).symm
def ZJ.same  (h:ZJ H b)(s:f' H a):ZJ a b:=by obtain⟨x,y,z,e⟩:=h;exact⟨x,y,z,s _ _ e⟩
def Ip:Sp:=λb H Q _=>∃c:Int,b=[.int c]/\∀l a,H l=B->ZJ a l->f' H a->Q (.ref l) a
def Z7:Sp:=λc H Q _=>∃(b:G)(n:Int),c=[.ref b,.int n]/\ZJ H b/\0<n/\n.natAbs.log2<9000/\∀(r:Int)a,0<=r->r<n->ZJ a b->Zr b H a->Q (.int r) a
def Rf:Sp:=λc H Q _=>∃(b:G),c=[.ref b]/\ZJ H b/\∀(r:Int)a,0<=r->r<=1000->ZJ a b->Zr b H a->Q (.int r) a
def QE(a m:Int)(h:0<m)(b:m<2 ^ 64):-(2 ^ 64)<a % m/\a % m<2 ^ 64:=by have d:=Int.emod_nonneg a (by omega:m≠0);have c:=kW a h;omega
def Z6{n:Int}(h:0<=n)(a:n<=1000):n.natAbs.log2<9000:=dA (gT _) zD
def qB {i:Nat}{n:Int}{c:L2.St}{Q:VK}(g:ZJ H b)(k:∀(r:Int)a,0<=r->r<n->ZJ a b->Zr b H a->Q (.int r) a)(h:0<n:=by decide)(f:n.natAbs.log2<9000:=by exact Z6 D D)(d:c[i]?=O (O (.ref b)):=by rfl):Ui Z7 [] E (Yg (mI i) (Yg (tC (.int n)) mq)) c H Q:=⟨_,d,b,n,Y,g,h,f,k⟩
def Xr{p:Bool}{A a:Prop}(c:p=true->A)(b:p=false->a):if p=true then A else a:=by
 cases p
 .exact b Y
 .exact c Y
section
variable {P:a9}{w:bg}{K:af}{J:U->Option Z}{S:bC}
def WB:ia [w_] [w_] (Ze T.pV):=nc
def O4(d:∀x∈mE,J x=B)(g:Df K J "_law_box" T.pV [w_]):l8 P w K J S 1 "_law_box" [w_] Ip:=by refine g.cn WB λf i A a s H j Q E l h=>?_;obtain⟨c,rfl,k⟩:=h;refine⟨_,(Zi (Zn (Zw (Za (Zz (Ei Y) Y (bm d) PyProof.Rows.boot_max (Za Zd (Za (Zv MK (R 0) (Zv BW Zd Zd)) Zg))) (Za (Zv Jq (R 0) Zd) (Za Zd Zg)))))),?_⟩;refine⟨_,Y,_,_,Y,Y,⟨D,D,D⟩,_,_,Y,Y,_,_,Y,_,Y,_,_,Y,Y,(by show(0:Int)<2147483647;decide),(zl),λp b=>?_⟩;exact k p _ b ⟨_,_,_,Zc⟩ (Zh (f'.refl _) b)
def JE:ia [ky,pP,"_law_digit","_law_number"] [ky,pP] (Ze T.pz):=nc
def HY(t:Df K J rl T.pz [ky,pP]):l8 P w K J S 1 rl [ky,pP] Z7:=by
 refine t.cn JE λf N A l s H W Q E X h=>?_;obtain⟨b,n,rfl,⟨x,y,z,a⟩,c,g,u⟩:=h;have k:∀r q p o:Int,0<=r->r<n->Q (.int r) (upd H b (xI q p o)):=λr q p o F C=>u r _ F C ⟨_,_,_,Zc⟩ (Zr.refl b H).put;refine⟨_,(Zb (ZC (Zo JW (il K (R 0) Zd) Zd (Zu _)) (Zb (st 2 JE.nd (Zv Jq (il K (R 0) Zd) (R 1))) (Zb (MH (Zv FA (il K (R 0) Zd) (R 1)) (Fl (R 0) Zd PF)) (Zi (Zn (R 2))))) Zq) (Zb (MH (Zv Z3 (il K (R 0) Zd) Zd) (Fl (R 0) Zd PF)) (Zb (st 3 JE.nd (Zv Jq (Zv Z3 (Zv Z3 (Zv Uz (il K (R 0) Zd) Zd) (Zv Uz Zd (il K (R 0) Zd))) Zd) Zd)) (Zb (st 3 JE.nd (Zv Jq (Zv Uz (Zv Jq (Zv Uz (R 3) (R 3)) Zd) Zd) Zd)) (Zi (Zn (Zv Jq (Zv Oz (Zv Jq (Zv Uz (R 3) (R 3)) Zd) Zd) (R 1)))))))),?_⟩;have i:oY [V.int x,V.int y,V.int z] 0=O (.int x):=Zy (j:=0) Y;refine xw a i ⟨_,_,Y,Y,_,Y,?_⟩;refine mr (λe=>?_) (λe=>?_)
 .refine xw a i ⟨_,Y,_,_,Y,Y,c,?_⟩;refine xw a i ⟨_,Y,_,_,Y,Y,⟨c,g⟩,?_⟩;refine⟨_,Y,b,_,0,0,Y,Y,a,Y,_,Y,?_⟩;exact k _ _ _ _ (Int.emod_nonneg _ zD) (kW _ c)
 .have M:oY [V.int x,V.int y,V.int z] 2=O (.int z):=Zy (j:=2) Y;refine xw a M ⟨_,_,Y,Y,?_⟩;refine⟨_,Y,b,_,2,2,Y,Y,a,Y,?_⟩;have d:upd H b (.lst ([V.int x,V.int y,V.int z].set 2 (.int (z+1)))) b=O (xI x y (z+1)):=Zc;have L:oY [V.int x,V.int y,V.int (z+1)] 1=O (.int y):=Zy (j:=1) Y;have I:oY [V.int x,V.int y,V.int (z+1)] 2=O (.int (z+1)):=Zy (j:=2) Y;refine xw d L ⟨_,_,Y,Y,.inr ⟨D,D⟩,xw d I ⟨_,_,Y,Y,.inl ⟨D,D⟩,_,_,Y,Y,_,_,Y,Y,_,_,Y,Y,(by show(0:Int)<2147483629;decide),?_⟩⟩;refine⟨_,Y,_,Y,_,_,Y,Y,.inl (QE _ _ D D),_,_,Y,Y,(by show(0:Int)<2147483587;decide),_,_,Y,Y,.inr ⟨D,D⟩,_,_,Y,Y,(by show(0:Int)<2147483647;decide),?_⟩;refine⟨_,Y,_,Y,_,_,Y,Y,.inl (QE _ _ D D),_,_,Y,Y,(by show(0:Int)<2147483629;decide),_,_,Y,Y,⟨D,D⟩,_,Y,_,_,Y,Y,c,?_⟩;exact k _ _ _ _ (Int.emod_nonneg _ zD) (kW _ c)
def Nq:ia [ky,uT] [ky] (Ze T.pA):=nc
def HZ(q:l8 P w K J S 1 rl [ky,pP] Z7)(C:Df K J "_law_size" T.pA [ky]):l8 P w K J S 2 "_law_size" [ky] Rf:=by
 refine C.cn Nq λf L A x s H M Q E o h=>?_;obtain⟨b,rfl,I,k⟩:=h;refine⟨_,(Zb (st 1 Nq.nd (cn q o (Za (R 0) (Za Zd Zg)))) (Zb (ZC (Zo Ym (R 1) Zd (Zu _)) (Zi (Zn (il K (Zw (Za Zd (Za Zd (Za Zd Zg)))) (cn q o (Za (R 0) (Za Zd Zg)))))) Zq) (Zi (Zn (cn q o (Za (R 0) (Za Zd Zg))))))),?_⟩;refine qB I (λr X W N t z=>?_);refine⟨_,Y,Y,_,Y,?_⟩;refine mr (λe=>?_) (λe=>?_)
 .refine⟨zl,λl p=>?_⟩;have u:=t.ne p;refine qB (t.new p) (λn c a g d i=>?_);obtain⟨v,F,y⟩:=JJ (xs:=[V.int 0,.int 1000,.int 999]) a g;refine⟨l,_,n,v,Y,Y,jw.of (i _ _ Zc u),F,?_⟩;have j:Zr b H c:=(z.mK p).trans i;simp only[ay,a8,or_false]at y;rcases y with rfl|rfl|rfl
  .exact k 0 c D D d j
  .exact k 1000 c D D d j
  .exact k 999 c D D d j
 .refine qB t (λn c a g d i=>?_);exact k n c a zD d (z.trans i)
end
noncomputable abbrev codes:=K1.codes
noncomputable abbrev pN:=K1.pN
def J4(a b:U):codes (a++b)=codes a++codes b:=by show(a.cps++b.cps).toList=_;simp[K1.codes]
theorem DP(c:Nat):codes ⟨#[c]⟩=[c]:=rfl
theorem Vc{c:Type}(b:List c)(a:Nat):∀k,a+k<=b.length->((bB k).map λi=>a+i).filterMap (λi=>b[i]?)=(b.drop a).take k
|0,_=>by simp
|k+1,h=>by
  rw[dR,aA,List.filterMap_append,Vc b a k zD];have hk:a+k<b.length:=by omega
  rw[cq];congr 1;simp[hk]
def Ht(n:Nat)(j:Int)(h:0<=j):dN B (O j) 1 n=(bB (min j.toNat n)).map λi=>0+i:=by
 unfold dN sliceRange;obtain⟨m,rfl⟩:=e_ h;simp only[show(1:Int)>0 by decide,if_true,show ¬(m:Int)<0 by omega,if_false];rw[show max 0 (min (m:Int) n)=((min m n:Nat):Int) by omega,cw];generalize min m n=t;have e:(if(0:Int)<t then((t:Int)-0+1-1) / 1 else 0).toNat=t:=by rw[lb];split<;>omega
 rw[e];apply ja;intro k _;omega
def Hv(n:Nat)(j:Int)(h:0<=j)(a:j<=n):dN (O j) B 1 n=(bB (n-j.toNat)).map λi=>j.toNat+i:=by
 unfold dN sliceRange;obtain⟨m,rfl⟩:=e_ h;simp only[show(1:Int)>0 by decide,if_true,show ¬(m:Int)<0 by omega,if_false];rw[show max 0 (min (m:Int) n)=m by omega,cw];have e:(if(m:Int)<(n:Int)then((n:Int)-m+1-1) / 1 else 0).toNat=n-m:=by rw[lb];split<;>omega
 rw[e];apply ja;intro k _;omega
def Pt(x:U)(l:List Nat):(l.filterMap (x.cps[·]?))=l.filterMap (λi=>(codes x)[i]?):=by congr 1;funext i;simp[K1.codes]
def ZF(x:U):(codes x).length=x.length:=K1.xG x
def U0(x:U)(j:Int)(h:0<=j):codes (Txt.slice x B (O j))=(codes x).take j.toNat:=by
 unfold Txt.slice;rw[Ht _ _ h];split
 .rename_i a;have:min j.toNat x.length=x.length:=by simpa using a
  rw[bp (by rw[ZF];omega)]
 .show(List.filterMap _ _)=_;rw[Pt,Vc _ 0 _ (by rw[ZF];omega),jm];rcases Nat.le_total j.toNat x.length with hh|hh
  .rw[i_ hh]
  .rw[jK hh,bp (by rw[ZF];exact aq _),bp (by rw[ZF];omega)]
def Kc(x:U)(j:Int)(h:0<=j)(b:j<=x.length):codes (Txt.slice x (O j) B)=(codes x).drop j.toNat:=by
 unfold Txt.slice;rw[Hv _ _ h b];split
 .rename_i a;have:x.length-j.toNat=x.length:=by simpa using a
  have c:=ZF x;rcases ju x.length with e|e
  .have:codes x=[]:=lV zD;rw[this];simp
  .have:j.toNat=0:=by omega
   rw[this,jm]
 .show(List.filterMap _ _)=_;rw[Pt,Vc _ j.toNat _ (by rw[ZF];omega),bp (by rw[cL,ZF];omega)]
theorem Qe:∀(b:List U),codes (Txt.join d6 b)=(b.map codes).flatten
|[]=>rfl
|[t]=>by show codes (Txt.join d6 [t])=_;unfold Txt.join;rw[gA];show codes t=_;simp
|t::u::r=>by have a:=Qe (u::r);unfold Txt.join at a ⊢;rw[gA]at a ⊢;show codes (t++d6++Str.join d6 (u::r))=_;rw[J4,J4,a];simp[K1.codes,d6]
def Nm(t:U):Prop:=1<=(codes t).length/\(codes t).length<=8/\∀c∈codes t,c∈pN
def Bs(n:Nat)(t:U):Prop:=(codes t).length=n/\∀c∈codes t,c∈pN
theorem Bs.join{d:List U}(h:∀t∈d,Bs 1 t):Bs d.length (Txt.join d6 d):=by
 unfold Bs;rw[Qe];induction d with
|nil=>simp
|cons t r f=>
  obtain⟨a,b⟩:=h t ax;obtain⟨j,i⟩:=f λu g=>h u (au _ g);refine⟨by simp only[aH,fQ,aD,aB];omega,λc hc=>?_⟩;rw[aH,fQ]at hc;rcases ba.mp hc with hc|hc
  .exact b c hc
  .exact i c hc
noncomputable def sL:List U:=["home","ride","turns","place","way","group","out","wait"]
noncomputable def pE(a n:Nat):List U:=(bB n).map λk=>sL.getD ((a+k) % 8) ""
def IV:∀a<8,∀n<9,(pE a n).Nodup:=by decide +kernel
def IU:∀t∈sL,1<=(codes t).length/\(codes t).length<=8/\∀c∈codes t,c∈pN:=by decide +kernel
def Wf(a n:Nat):∀t∈pE a n,Nm t:=λt b=>by obtain⟨k,_,rfl⟩:=aG.mp b;have:(a+k) % 8<sL.length:=Nat.mod_lt _ D;rw[bQ,gE this];exact IU _ (bo this)
noncomputable def uv(S:U)(sz n:Nat):List U:=(bB n).map λk=>Txt.slice S B (O ((1+(k+sz) % 8:Nat):Int))
def O8 (a:Bs 8 S)(sz n:Nat):∀t∈uv S sz n,Nm t:=λt b=>by obtain⟨k,_,rfl⟩:=aG.mp b;unfold Nm;rw[U0 _ _ zD];refine⟨by rw[aY,a.1];omega,by rw[aY,a.1];omega,λc d=>a.2 c (du d)⟩
theorem nodup_map_on{c g:Type}{f:c->g}:∀{l:List c},l.Nodup->(∀a∈l,∀b∈l,f a=f b->a=b)->(l.map f).Nodup
|[],_,_=>iz
|a::l,h,i=>by rw[aH,d9];rw[d9]at h;refine⟨λo=>?_,nodup_map_on h.2 λx n y j e=>i x (au _ n) y (au _ j) e⟩;obtain⟨b,d,e⟩:=aG.mp o;exact h.1 (i b (au _ d) a ax e▸d)
def O9 (d:Bs 8 S)(sz:Nat){n:Nat}(h:n<=8):(uv S sz n).Nodup:=by refine nodup_map_on lH λa f b c e=>?_;rw[bW]at f c;have g:=zM (λt=>(codes t).length) e;simp only[U0 _ _ (Int.natCast_nonneg _),aY,d.1,cw]at g;omega
noncomputable def put(S:U)(at_:Nat)(c:Nat):U:=Txt.slice S B (O (at_:Int))++⟨#[c]⟩++Txt.slice S (O (at_:Int)) B
def Nj{S:U}{a:Nat}(h:a<=S.length)(c:Nat):codes (put S a c)=(codes S).take a++[c]++(codes S).drop a:=by unfold put;rw[J4,J4,U0 _ _ zD,Kc _ _ zD zD,DP];simp
noncomputable def sgn(f k:Nat):Nat:=pN.getD ((f+5*k) % 26) 0
def AU(f k:Nat):sgn f k∈pN:=by have:(f+5*k) % 26<pN.length:=Nat.mod_lt _ D;unfold sgn;rw[bQ,gE this];exact bo this
def Bv:∀f<26,∀n<14,((bB n).map (sgn f)).Nodup:=by decide +kernel
noncomputable def uh(S:U)(a f n:Nat):List U:=(bB n).map λk=>put S a (sgn f k)
def Om {sz:Nat}(b:Bs sz S)(hs:sz<=7){a:Nat}(h:a<=sz)(f n:Nat):∀t∈uh S a f n,Nm t:=λt d=>by
 obtain⟨k,_,rfl⟩:=aG.mp d;have g:S.length=sz:=by rw[<-ZF];exact b.1
 unfold Nm;rw[Nj zD];refine⟨by simp;omega,by simp[b.1];omega,λc hc=>?_⟩;simp only[ba,aL]at hc;rcases hc with(hc|hc)|hc
 .exact b.2 c (du hc)
 .rw[hc];exact AU f k
 .exact b.2 c (eR hc)
def Oo {sz:Nat}(j:Bs sz S){a:Nat}(q:a<=sz){f n:Nat}(i:f<26)(h:n<14):(uh S a f n).Nodup:=by
 have p:S.length=sz:=by rw[<-ZF];exact j.1
 refine nodup_map_on lH λx d y c e=>?_;have b:=zM codes e;rw[Nj zD,Nj zD]at b;have o:sgn f x=sgn f y:=by rw[bu,bu]at b;have:=ip b;simpa using this
 have g:=Bv f i n h;rw[bW]at d c;have l:((bB n).map (sgn f))[x]'(by simpa using d)=((bB n).map (sgn f))[y]'(by simpa using c):=by simpa using o
 exact(lJ g).mp l
end WD
namespace L2
open PySem PySem.Spec PyProof.Rows
section
variable {X:Cx}
def YZ{i:Nat}{x:U}{c d:iG}         (Q:X.N.Nodup)(F:X.N[i]?=O x)(E:Loc X.env.scope x)(hc:X.calm=true) (P:i4 scope sc)(T:i3 N0 scope N cp)
  (hi:PI X u iter wi) (hg:∀C s H n pn,PG (Jt X scope N C s H n pn) u g) (ht:∀C s H n pn,xX (Jt X scope N C s H n pn) f tc) (he:∀C s H n pn,PE (Jt X scope N C s H n pn) l te)
  (z:jA (.ListComp l [⟨u,iter,f,0⟩] scope p) (O (.Name x c)) d.line X.env=pure true:=by with_unfolding_all rfl) (L:X.fn x=true\/X.env.scope.names.lookup x=O .local:=by first|exact .inl Y|exact .inr Y|assumption)
  (A:X.env.scope=sc:=by rfl) (y:X.N=N0:=by rfl) (hs:∀x,jN iter X.env x=pure x:=by intro _;rfl):PS X (.Assign [.Name x c] (.ListComp l [⟨u,iter,f,0⟩] scope p) d) (u9 (KL cp wi g tc te) (Vu i)):=by
 subst A y
 intro r s σ H zB I h
 rw[exec_Assign_Name_used _ _ _ _ z]
 refine ae (gb (ae ?_))
 show aI _ _ (do let _ <-comprehension (.ListComp l [⟨u,iter,f,0⟩] scope p) scope X.env _ (newList []) false (cM iter X.env) (O (assign (.Name x c) X.env))) _ _ s
 refine ae (dQ (QY (zv:=λ_ w=>SP X r zB .next w) (use:=O (assign (.Name x c) X.env)) hc P T hi hg ht he hs I h λD' C H5 s4 m I5 hn h1 W h3 h4 h5 q=>?_) (λ_ w hq=>aE (aE hq)) λ_ _ e=>e)
 refine wpAny_assign_Name (QD I5 Q F E (v:=.ref D') Y (λw I6 j=>?_) L)
 obtain⟨a,j,ha⟩:=j
 have M:C≠a:=by
  rcases ha with rfl|ha
  .exact h1
  .exact(W _ _ ha).symm
 exact⟨m,hn.sameBut j M,λaa t=>⟨_,_,I6.turned (t':=w.toks) (it:=C) (λb o hb e=>(t.2 b hb).trans e) h3 h1 (.inr h4) W h5,q⟩⟩
end
end L2
namespace WD
open PySem L2 PySem.Spec PyProof.Rows TB
def Rh:Sp:=λd H Q _=>∃(b:G)(n:Int),d=[.ref b,.int n]/\ZJ H b/\1<=n/\n<=13/\∀c l(a:List U),ZJ c b->Zr b H c->c l=O (.lst (a.map V.str))->l≠b->(a.length:Int)=n->a.Nodup->(∀t∈a,Nm t)->Q (.ref l) c
def xo{x:Int}{k n:Nat}(h:x=k):x % (n:Int)=((k % n:Nat):Int):=by rw[h];rfl
def LR{p:Bool}{C a A:Prop}(c:p=true->a->C)(b:a):if p=true then C else(if false=true then A else a):=by
 cases p
 .exact b
 .exact c Y b
def Ax{r:Int}(b:0<=r)(a:r<26):∃c,oY (codes K1.qh) r=O c/\c∈pN:=by obtain⟨c,h,m⟩:=JJ (xs:=codes K1.qh) b (by rw[show codes K1.qh=pN from K1.vu];exact a);rw[show codes K1.qh=pN from K1.vu]at m;exact⟨c,h,m⟩
def XN{a:Type}{b:List a}{i:Int}{j:Nat}{v:a}(e:i=(j:Int))(h:b[j]?=O v):oY b i=O v:=by rw[e];exact Zy h
def Q7{b:G}{H H1:Hp}{i:Nat}{a:List U}{c:Nat}(e:a.length=i)(h:∀t∈a,Bs 1 t)(g:c∈pN):(a++[(⟨#[c]⟩:U)]).length=i+1/\∀t∈a++[(⟨#[c]⟩:U)],Bs 1 t:=by
 refine⟨by simp[e],λt ht=>?_⟩;rcases ba.mp ht with ht|ht
 .exact h t ht
 .rw[aL]at ht;subst ht;exact⟨Y,λd f=>by rw[aL.mp f];exact g⟩
theorem Wq:∀(a:List U),(∀t∈a,Bs 1 t)->(a.map (·.length)).sum=a.length
|[],_=>rfl
|t::r,h=>by have b:=(h t ax).1;rw[ZF]at b;rw[aH,dM,b,Wq r λu c=>h u (au _ c),aB];omega
def IW(a i:Nat):(sL.map V.str)[(a+i) % 8]?=O (.str (sL.getD ((a+i) % 8) "")):=by have:(a+i) % 8<sL.length:=Nat.mod_lt _ D;rw[aT,bQ,gE this];rfl
def Bw(f i:Nat):(codes K1.qh)[(f+5*i) % 26]?=O (sgn f i):=by have:(f+5*i) % 26<pN.length:=Nat.mod_lt _ D;rw[show codes K1.qh=pN from K1.vu,sgn,bQ,gE this];rfl
section
variable {P:a9}{w:bg}{K:af}{J:U->Option Z}{S:bC}
def Z4:ia [ky,pP,rZ,uT,sY,qv,vM,ug,vh,"_law_signs"] [ky,pP] (Ze T.mi):=nc
noncomputable def VX:dh:=pL [(".0",.local),(oG,.local),(qv,.free),(sY,.free)]
def Mi:i4 VX (Ze T.mi):=⟨Y,zC,zC,zC⟩
def Ml:([oG,qv,sY]:List U).Nodup:=by decide +kernel
def Mj:i3 [ky,pP,rZ,uT,sY,qv,vM,ug,vh,"_law_signs"] VX [oG,qv,sY] [B,O 5,O 4]:=.mk' zC
noncomputable def VW:dh:=pL [(".0",.local),(oG,.local),(rl,.globalImplicit),(ky,.free),(rZ,.free)]
def Mf:i4 VW (Ze T.mi):=⟨Y,zC,zC,zC⟩
def Mh:([oG,ky,rZ]:List U).Nodup:=by decide +kernel
def Mg:i3 [ky,pP,rZ,uT,sY,qv,vM,ug,vh,"_law_signs"] VW [oG,ky,rZ] [B,O 0,O 2]:=.mk' zC
noncomputable def VU:dh:=pL [(".0",.local),(oG,.local),(ug,.free),(vM,.free)]
def Mc:i4 VU (Ze T.mi):=⟨Y,zC,zC,zC⟩
def Me:([oG,ug,vM]:List U).Nodup:=by decide +kernel
def Md:i3 [ky,pP,rZ,uT,sY,qv,vM,ug,vh,"_law_signs"] VU [oG,ug,vM] [B,O 7,O 6]:=.mk' zC
noncomputable def VT:dh:=pL [(".0",.local),(oG,.local),(rl,.globalImplicit),(ky,.free),(rZ,.free)]
def G9:i4 VT (Ze T.mi):=⟨Y,zC,zC,zC⟩
def Mb:([oG,ky,rZ]:List U).Nodup:=by decide +kernel
def Ma:i3 [ky,pP,rZ,uT,sY,qv,vM,ug,vh,"_law_signs"] VT [oG,ky,rZ] [B,O 0,O 2]:=.mk' zC
noncomputable def JC:dh:=pL [(".0",.local),(oG,.local),(vh,.free),(rZ,.free)]
def G6:i4 JC (Ze T.mi):=⟨Y,zC,zC,zC⟩
def G8:([oG,vh,rZ]:List U).Nodup:=by decide +kernel
def G7:i3 [ky,pP,rZ,uT,sY,qv,vM,ug,vh,"_law_signs"] JC [oG,vh,rZ] [B,O 8,O 2]:=.mk' zC
noncomputable def VS:dh:=pL [(".0",.local),(vI,.local),(qv,.free),(ug,.free)]
def GY:i4 VS (Ze T.mi):=⟨Y,zC,zC,zC⟩
def G5:([vI,qv,ug]:List U).Nodup:=by decide +kernel
def GZ:i3 [ky,pP,rZ,uT,sY,qv,vM,ug,vh,"_law_signs"] VS [vI,qv,ug] [B,O 5,O 7]:=.mk' zC
def Ea(zw:∀x∈mE,J x=B)(CT:l8 P w K J S 1 rl [ky,pP] Z7)(zB:Df K J "_law_names" T.mi [ky,pP]):l8 P w K J S 2 "_law_names" [ky,pP] Rh:=by
 refine zB.cn Z4 λf b2 A a5 s H vs Q E hr h=>?_;obtain⟨b,n,rfl,hb,a7,a6,k⟩:=h;have aa:n.toNat<=sizeLine:=aj (by omega:n.toNat<=1000) D;refine⟨_,(Zb (Yv (i:=2) Z4.nd Y (ir Y) Zf) (Zb (st 3 Z4.nd (cn CT hr (Za (R 0) (Za Zd Zg)))) (Zb (ZC (PW.pt (Rt (Zo Ym (R 3) Zd (Zu _)) (NN (Zo Tc (R 1) Zd (Zu _))))) (Zb (Yv (i:=4) Z4.nd Y (ir Y) (Zw (Za Zf (Za Zf (Za Zf (Za Zf (Za Zf (Za Zf (Za Zf (Za Zf Zg)))))))))) (Zb (Yv (i:=5) Z4.nd Y (ir Y) (cn CT hr (Za (R 0) (Za Zd Zg)))) (Zi (Zn (Yp Y Mi Mj (YB Y (bm zw) (Za (R 1) Zg)) (λC s H F pn=>(mH 0 Ml)) (λC s H F pn=>ZW) (λC s H F pn=>(il K (R 2) (Zv Jq (Zv Z3 (R 1) (R 0)) Zd)))))))) Zq) (Zb (Yv (i:=6) Z4.nd Y (ir Y) (cn CT hr (Za (R 0) (Za Zd Zg)))) (Zb (ZC (PW.pt (Rt (Zo Ym (R 3) Zd (Zu _)) (NN (Zo Tc (R 1) Zd (Zu _))))) (Zb (Yv (i:=7) Z4.nd Y (ir Y) (YR bP gC gB Gy Zf (Za (Yp Y Mf Mg (YB Y (bm zw) (Za Zd Zg)) (λC s H F pn=>(mH 0 Mh)) (λC s H F pn=>ZW) (λC s H F pn=>(Yh VP (R 2) (cn CT hr (Za (R 1) (Za Zd Zg))) (λ_ _=>rfl)))) Zg))) (Zi (Zn (Yp Y Mc Md (YB Y (bm zw) (Za (R 1) Zg)) (λC s H F pn=>(mH 0 Me)) (λC s H F pn=>ZW) (λC s H F pn=>(ZG Rk (R 1) ZQ (ZP (Zv Z3 Zd (Zv Jq (Zv Z3 (R 0) (R 2)) Zd))))))))) Zq) (Zb (Yv (i:=5) Z4.nd Y (ir Y) (cn CT hr (Za (R 0) (Za (Zv Z3 (R 6) Zd) Zg)))) (Zb (Yv (i:=7) Z4.nd Y (ir Y) (YR bP gC gB Gy Zf (Za (Yp Y G9 Ma (YB Y (bm zw) (Za (R 6) Zg)) (λC s H F pn=>(mH 0 Mb)) (λC s H F pn=>ZW) (λC s H F pn=>(Yh VP (R 2) (cn CT hr (Za (R 1) (Za Zd Zg))) (λ_ _=>rfl)))) Zg))) (Zb (Yv (i:=8) Z4.nd Y (ir Y) (cn CT hr (Za (R 0) (Za Zd Zg)))) (Zb (YZ (i:=9) Z4.nd Y (dD Y) (scope:=JC) (N:=[oG,vh,rZ]) (cp:=[B,O 8,O 2]) Y G6 G7 (YB Y (bm zw) (Za (R 1) Zg)) (λC s H F pn=>(mH 0 G8)) (λC s H F pn=>ZW) (λC s H F pn=>(Yh VP (R 2) (Zv Jq (Zv Z3 (R 1) (Zv Uz Zd (R 0))) Zd) (λ_ _=>rfl)))) (Zi (Zn (Yp Y GY GZ (Yy (R 9)) (λC s H F pn=>(mH 0 G5)) (λC s H F pn=>ZW) (λC s H F pn=>(Zv ZS (Zv ZS (ZG Rk (R 2) ZQ (ZP (R 1))) (R 0)) (ZG Rk (R 2) (ZP (R 1)) ZQ))))))))))))))),?_⟩;refine qB hb (λr H1 h0 h1 B1 S1=>?_);refine⟨_,Y,Y,_,Y,?_⟩;refine LR (λe M=>⟨_,Y,_,_,Y,Y,_,Y,mr (λe2=>?_) (λe2=>M)⟩) ?_
 .have aM:n<9:=zL e2;refine⟨zl,λl hl=>?_⟩;have aF:=B1.ne hl;refine qB (B1.new hl) (λr2 H2 aS aP B2 S2=>?_);have hw:H2 l=O (.lst (sL.map V.str)):=S2 _ _ Zc aF;refine⟨_,Y,n,Y,zD,zD,ZX (zA:=tJ 0 n.toNat) n.toNat aa
   (λi g d a=>a=H2/\g=(pE r2.toNat i).map V.str/\∃v,d=[v,O (.int r2),O (.ref l)]) ⟨Y,Y,B,Y⟩ (λi g d a p=>?_) (λi g d a y p=>y) (λg d a p=>aq _) (λi g d a x' H3 y p L=>?_) (λg d a p q W=>?_)⟩
  .obtain⟨_,rfl,_⟩:=p;simp[pE]
  .obtain⟨rfl,rfl,v,rfl⟩:=p;obtain⟨rfl,rfl⟩:=L;refine⟨_,Y,_,Y,_,Y,_,_,Y,Y,_,_,Y,Y,(by show(0:Int)<8;decide),l,_,_,_,Y,Y,jw.of hw,XN (j:=(r2.toNat+i) % 8) (xo (n:=8) zD) (IW _ _),Y,?_,_,Y⟩;simp[pE,dR]
  .obtain⟨rfl,rfl,v,rfl⟩:=p;exact k _ q _ (B2.new W) (((S1.mK hl).trans S2).mK W) Zc (B2.ne W) (by simp[pE];omega) (IV _ zD _ zD) (Wf _ _)
 .refine qB B1 (λsz H2 aS aP B2 S2=>?_);have aC:=S1.trans S2;refine⟨_,Y,Y,_,Y,?_⟩;refine LR (λe M=>⟨_,Y,_,_,Y,Y,_,Y,mr (λe2=>?_) (λe2=>M)⟩) ?_
  .have aM:n<9:=zL e2;refine⟨Y,8,Y,D,D,ZX (zA:=tJ 0 8) 8 D
    (λi g d a=>ZJ a b/\Zr b H a/\(∃o:List U,g=o.map V.str/\o.length=i/\∀t∈o,Bs 1 t)/\∃v,d=[v,O (.ref b),O (.str K1.qh)]) ⟨B2,aC,⟨[],Y,Y,zE⟩,B,Y⟩ (λi g d a p=>?_) (λi g d a y p=>y) (λg d a p=>aq _) (λi g d a x' H3 y p L=>?_) (λg d a p q W=>?_)⟩
   .obtain⟨_,_,⟨o,rfl,e,_⟩,_⟩:=p;rw[lm,e];exact aq _
   .obtain⟨bx,sm,⟨o,rfl,e,X⟩,v,rfl⟩:=p;obtain⟨rfl,rfl⟩:=L;refine⟨_,Y,qB bx (λr4 H4 ar ak B4 S4=>?_)⟩;obtain⟨c,ai,hc⟩:=Ax ar ak;obtain⟨g1,g2⟩:=Q7 (b:=b) (H:=H) (H1:=H) e X hc;exact⟨_,r4,c,Y,Y,zC,ai,B4,sm.trans S4,⟨o++[⟨#[c]⟩],by rw[aA];rfl,g1,g2⟩,_,Y⟩
   .obtain⟨bx,sm,⟨o,rfl,e,X⟩,v,rfl⟩:=p;refine⟨_,q,o,Y,Y,jw.of Zc,by rw[Wq _ X,e];decide,?_⟩;have u:=Bs.join X;rw[e]at u;have az:(Txt.join d6 o).length=8:=by rw[<-ZF];exact u.1
    refine⟨_,Y,n,Y,zD,zD,ZX (zA:=tJ 0 n.toNat) n.toNat aa
     (λi g d H3=>H3=upd a q (.lst (o.map V.str))/\g=(uv (Txt.join d6 o) sz.toNat i).map V.str/\∃v,d=[v,O (.str (Txt.join d6 o)),O (.int sz)]) ⟨Y,Y,B,Y⟩ (λi g d a p=>?_) (λi g d a y p=>y) (λg d a p=>aq _) (λi g d a x' H3 y p L=>?_) (λg d a p q2 I=>?_)⟩
    .obtain⟨_,rfl,_⟩:=p;simp[uv]
    .obtain⟨rfl,rfl,v,rfl⟩:=p;obtain⟨rfl,rfl⟩:=L;refine⟨_,Y,_,Y,_,Y,_,_,Y,Y,_,_,Y,Y,(by show(0:Int)<8;decide),_,_,Y,Y,_,Y,_,Y,by rw[az];decide,Y,?_,_,Y⟩;have e5:(1+(0+(i:Int)+sz) % 8)=((1+(i+sz.toNat) % 8:Nat):Int):=zM (1+·) (xo (k:=i+sz.toNat) (n:=8) zD);rw[e5];simp[uv,dR]
    .obtain⟨rfl,rfl,v,rfl⟩:=p;exact k _ q2 _ ((bx.new W).new I) ((sm.mK W).mK I) Zc ((bx.new W).ne I) (by simp[uv];omega) (O9 u _ zD) (O8 u _ _)
  .refine⟨_,Y,_,Y,_,_,Y,Y,b,sz+1,Y,B2,zD,Z6 zD zD,λat_ H3 b1 bT B3 S3=>?_⟩;have a4:=aC.trans S3;refine⟨Y,_,Y,sz,Y,zD,zD,ZX (zA:=tJ 0 sz.toNat) sz.toNat (aj (by omega:sz.toNat<=8) D)
    (λi g d a=>ZJ a b/\Zr b H a/\(∃o:List U,g=o.map V.str/\o.length=i/\∀t∈o,Bs 1 t)/\∃v,d=[v,O (.ref b),O (.str K1.qh)]) ⟨B3,a4,⟨[],Y,Y,zE⟩,B,Y⟩ (λi g d a p=>?_) (λi g d a y p=>y) (λg d a p=>aq _) (λi g d a x' H3 y p L=>?_) (λg d a p q W=>?_)⟩
   .obtain⟨_,_,⟨o,rfl,e,_⟩,_⟩:=p;rw[lm,e];exact aq _
   .obtain⟨bx,sm,⟨o,rfl,e,X⟩,v,rfl⟩:=p;obtain⟨rfl,rfl⟩:=L;refine⟨_,Y,qB bx (λr4 H4 ar ak B4 S4=>?_)⟩;obtain⟨c,ai,hc⟩:=Ax ar ak;obtain⟨g1,g2⟩:=Q7 (b:=b) (H:=H) (H1:=H) e X hc;exact⟨_,r4,c,Y,Y,zC,ai,B4,sm.trans S4,⟨o++[⟨#[c]⟩],by rw[aA];rfl,g1,g2⟩,_,Y⟩
   .obtain⟨bx,sm,⟨o,rfl,e,X⟩,v,rfl⟩:=p;refine⟨_,q,o,Y,Y,jw.of Zc,?_,?_⟩
    .rw[Wq _ X,e];show sz.toNat+sz.toNat*0<=16777216;omega
    have u:=Bs.join X;rw[e]at u;have az:(Txt.join d6 o).length=sz.toNat:=by rw[<-ZF];exact u.1
    refine qB (bx.new W) (λfi H5 b0 bM B5 S5=>?_);have a3:=(sm.mK W).trans S5;refine⟨_,Y,n,Y,zD,zD,ZX (zA:=tJ 0 n.toNat) n.toNat aa
     (λi g d a=>a=H5/\g=((bB i).map λk=>V.str ⟨#[sgn fi.toNat k]⟩)/\∃v,d=[v,O (.int fi),O (.str K1.qh)]) ⟨Y,Y,B,Y⟩ (λi g d a p=>?_) (λi g d a y p=>y) (λg d a p=>aq _) (λi g d a x' H3 y p L=>?_) (λg d a p q2 I=>?_)⟩
    .obtain⟨_,rfl,_⟩:=p;simp
    .obtain⟨rfl,rfl,v,rfl⟩:=p;obtain⟨rfl,rfl⟩:=L;refine⟨_,Y,_,Y,_,Y,_,_,Y,Y,.inl ⟨D,D⟩,_,_,Y,Y,_,_,Y,Y,(by show(0:Int)<26;decide),_,_,_,Y,Y,zC,XN (j:=(fi.toNat+5*i) % 26) (xo (n:=26) zD) (Bw _ _),Y,?_,_,Y⟩;simp[dR]
    .obtain⟨rfl,rfl,v,rfl⟩:=p;refine⟨_,Y,q2,Y,⟨_,jw.of Zc⟩,?_⟩;generalize eH:upd a q2 (.lst ((bB n.toNat).map λk=>V.str ⟨#[sgn fi.toNat k]⟩))=H6;have ab:H6 q2=O (.lst ((bB n.toNat).map λk=>V.str ⟨#[sgn fi.toNat k]⟩)):=by rw[<-eH];exact Zc
     have B6:ZJ H6 b:=by rw[<-eH];exact B5.new I
     have a0:Zr b H H6:=by rw[<-eH];exact a3.mK I
     refine ZX (zA:=qA K q2) n.toNat aa (λi g d a=>a=H6/\g=(uh (Txt.join d6 o) at_.toNat fi.toNat i).map V.str/\∃v,d=[v,O (.int at_),O (.str (Txt.join d6 o))]) ⟨Y,Y,B,Y⟩ (λi g d a p=>?_) (λi g d a y p=>?_) (λg d a p=>?_) (λi g d a x' H3 y p L=>?_) (λg d a p q3 ah=>?_)
     .obtain⟨_,rfl,_⟩:=p;simp[uh]
     .obtain⟨rfl,_⟩:=p;exact⟨_,V.str ⟨#[sgn fi.toNat i]⟩,jw.of ab,by simp[y]⟩
     .obtain⟨rfl,_⟩:=p;exact⟨_,jw.of ab,zE⟩
     .obtain⟨rfl,rfl,v,rfl⟩:=p;obtain⟨rfl,hy⟩:=L;have hx:x'=V.str ⟨#[sgn fi.toNat i]⟩:=by have:=hy _ (jw.of ab);simp[y]at this;exact this.symm
      subst hx;have bb:(Txt.join d6 o).length<=8:=by omega
      have e1:=Txt.slice_le (Txt.join d6 o) B (O at_);have e2:=Txt.slice_le (Txt.join d6 o) (O at_) B;have z:(100:Nat)<=sizeLine:=by decide
      refine⟨_,Y,_,Y,_,Y,_,Y,zD,_,Y,_,_,Y,Y,?_,_,Y,_,Y,_,Y,_,Y,zD,_,_,Y,Y,?_,Y,?_,_,Y⟩
      .show _+1<=_;omega
      .rw[Str.length_append];show _+1+_<=_;omega
      .have e5:at_=((at_.toNat:Nat):Int):=by omega
       simp[uh,dR,put,<-e5]
     .obtain⟨rfl,rfl,v,rfl⟩:=p;exact k _ q3 _ (B6.new ah) (a0.mK ah) Zc (B6.ne ah) (by simp[uh];omega) (Oo u zD zD zD) (Om u zD zD _ _)
abbrev Pl:=List (U×Option Int)
noncomputable def Jd:Option Int->V
|none=>.non
|some i=>.int i
noncomputable def YQ(p:U×Option Int):List V:=[.str p.1,Jd p.2]
def Yr(b:G)(H:Hp)(l:G)(c:List (List V)):Prop:=l≠b/\∃d:List G,H l=O (.lst (d.map V.ref))/\d.length=c.length/\∀(i:Nat)a r,d[i]?=O a->c[i]?=O r->a≠b/\H a=O (.tup r)
def Yr.same    (s:Zr b H o)(h:Yr b H l c):Yr b o l c:=by obtain⟨n,j,e,d,r⟩:=h;exact⟨n,j,s _ _ e n,d,λi a q g f=>let ⟨x,y⟩:=r i a q g f;⟨x,s _ _ y x⟩⟩
def Yr.at    (h:Yr b H l d){i:Nat}{r:List V}(f:d[i]?=O r):∃a,a≠b/\H a=O (.tup r)/\∃c:List G,H l=O (.lst (c.map V.ref))/\c[i]?=O a/\c.length=d.length:=by
 obtain⟨n,c,e,g,q⟩:=h;have j:i<c.length:=by rw[g];exact(aU.mp f).1
 obtain⟨x,y⟩:=q i c[i] r (gE j) f;exact⟨c[i],x,y,c,e,gE j,g⟩
def ZJ.vU {b q:G}(h:ZJ H b)(n:q≠b):ZJ (upd H q o) b:=by obtain⟨x,y,z,e⟩:=h;exact⟨x,y,z,by rw[Zk n.symm];exact e⟩
def Dl{b q:G} (s:Zr b H g)(f:Zr b H i)(j:q≠b)(d:i q=B):Zr b H (upd g q o):=λc u h a=>by
 have:c≠q:=λz=>by rw[z]at h a;rw[f _ _ h a]at d;cases d
 rw[Zk this];exact s c u h a
structure qo(ps:Pl):Prop where
 lo:3<=ps.length
 hi:ps.length<=6
 nd:(ps.map (·.1)).Nodup
 nm:∀p∈ps,Nm p.1
 room:∀p∈ps,∀i,p.2=O i->0<=i/\i<=1000
 one:∃p∈ps,∃i,p.2=O i
def zip_rows(b:List U)(a:List (Option Int)):((b.map V.str).zip (a.map Jd)).map (λq=>[q.1,q.2])=(b.zip a).map YQ:=by rw[List.zip_map,cY];rfl
theorem RV{f g:Type}:∀(d:List f)(b:List g)(s:f),d.length=b.length->(d++[s]).zip b=d.zip b
|[],[],_,_=>rfl
|[],_::_,_,h=>by cases h
|_::_,[],_,h=>by cases h
|a::t,c::r,s,h=>by rw[da,ij,RV t r s (by simpa using h),ij]
def Sv:Sp:=λd H Q _=>∃(b:G),d=[.ref b]/\ZJ H b/\∀a q l s(c:Pl),ZJ a b->Zr b H a->a q=O (.lst [.ref l,.str s])->q≠b->Yr b a l (c.map YQ)->qo c->Nm s->s∉c.map (·.1)->Q (.ref q) a
def To    (h:AB H p l c)(d:ZJ H b):Yr b p l c:=by obtain⟨s,g,o,e,len,n,r⟩:=h;exact⟨d.ne g,o,e,len,λi a q f j=>⟨d.ne (n a (cU f)),r i a q f j⟩⟩
def XQ:ia [ky,xU,"_law_rooms",oG] [ky] (Ze T.oo):=nc
def Kk(zw:∀x∈mE,J x=B)(CT:l8 P w K J S 1 rl [ky,pP] Z7)(CN:l8 P w K J S 2 "_law_names" [ky,pP] Rh)(CS:l8 P w K J S 2 "_law_size" [ky] Rf)(zB:Df K J "_law_places" T.oo [ky]):l8 P w K J S 3 "_law_places" [ky] Sv:=by
 refine zB.cn XQ λf bM A a0 s H vs Q E hr h=>?_;obtain⟨b,rfl,hb,k⟩:=h;refine⟨_,(Zb (st 1 XQ.nd (cn CN hr (Za (R 0) (Za (Zv Z3 Zd (cn CT hr (Za (R 0) (Za Zd Zg)))) Zg)))) (Zb (st 2 XQ.nd (Zw (Za (cn CS hr (Za (R 0) Zg)) (Za (cn CS hr (Za (R 0) Zg)) (Za ZK Zg))))) (Zb (Y9 dH Y (YB Y (bm zw) (Za (Zv MK (Zz (r:=nJ K) ZO Y (bm zw) bt (Za (R 1) Zg)) Zd) Zg)) (mH 3 XQ.nd) (Zi (Yc (YR bD cA cz Y6 (R 2) (Za (il K (Zw (Za ZK (Za (cn CS hr (Za (R 0) Zg)) Zg))) (cn CT hr (Za (R 0) (Za Zd Zg)))) Zg))))) (Zi (Zn (Zw (Za (WK Y Y (bm zw) Y (bm zw) (Za (R 1) (Za (R 2) Zg))) (Za (il K (R 1) (Fn Wg Zd)) Zg)))))))),?_⟩;refine⟨_,Y,qB hb (λr H1 h0 h1 B1 S1=>?_)⟩;refine⟨_,_,Y,Y,b,4+r,Y,B1,zD,zD,λH2 l ts B2 S2 hl g C aC ah=>?_⟩;refine⟨_,Y,b,Y,B2,λr3 H3 bb a5 B3 S3=>?_⟩;refine⟨_,Y,b,Y,B3,λr4 H4 a7 a4 B4 S4=>?_⟩;refine⟨zl,λq hq=>?_⟩;have ar:=((S1.trans S2).trans S3).trans S4;have X:=S4 _ _ (S3 _ _ hl g) g;have W:q≠l:=(Zp X hq).symm;refine⟨_,Y,l,_,Y,.inl (jw.of (by rw[Zk W.symm];exact X)),_,_,Y,Y,r,?_,zD,zD,?_⟩
 .have:((List.map V.str ts).length:Int)-4=r:=by rw[lm];omega
  exact zM (λx=>[V.int x]) this
 refine DH (n:=r.toNat) (λi N M=>ZJ M b/\Zr b H M/\M l=O (.lst (ts.map V.str))/\q≠b/\(∃a:List (Option Int),M q=O (.lst (a.map Jd))/\a.length=3+i/\a[0]?=O (O r3)/\a[2]?=O B/\∀x∈a,∀j,x=O j->0<=j/\j<=1000)/\∃v,N=[O (.ref b),O (.ref l),O (.ref q),v]) ⟨B4.new hq,ar.mK hq,by rw[Zk W.symm];exact X,B4.ne hq,⟨[O r3,O r4,B],Zc,Y,Y,Y,?_⟩,B,Y⟩ (λi N M hi p=>?_) (λN M p=>?_)
 .intro x hx j e;subst e;simp only[ay,Option.some.injEq,a8,or_false,reduceCtorEq]at hx;omega
 .obtain⟨bx,sm,u,c,⟨a,t,len,z0,z2,ok⟩,v,rfl⟩:=p;refine⟨_,Y,.inl ⟨Y,_,jw.of t⟩,_,Y,b,Y,bx,λr5 H5 aP aM B5 S5=>?_⟩;refine⟨zl,λq2 o=>?_⟩;have n2:=B5.ne o;refine qB (B5.new o) (λr6 L a6 a3 B6 S6=>?_);have e6:L q2=O (.lst [.non,.int r5]):=S6 _ _ Zc n2;have ab:L q=O (.lst (a.map Jd)):=S6 _ _ (by rw[Zk (Zp (S5 _ _ t c) o)];exact S5 _ _ t c) c;have aF:L l=O (.lst (ts.map V.str)):=S6 _ _ (by rw[Zk (Zp (S5 _ _ u g) o)];exact S5 _ _ u g) g;have aS:Zr b H L:=((sm.trans S5).mK o).trans S6;have hz:(a.map Jd).length<sizeLine:=by rw[lm,len];exact aX (by omega:3+i<1000) D
  have ak:∀x:Option Int,(∀j,x=O j->0<=j/\j<=1000)->_:=λx hx=>(⟨B6.vU c,Dl aS ar c hq,by rw[Zk W.symm];exact aF,c,⟨a++[x],by rw[Zc,aA];rfl,by simp[len];omega,by rw[fJ zD];exact z0,by rw[fJ zD];exact z2,λy hy j e=>by
    rcases ba.mp hy with hy|hy
    .exact ok y hy j e
    .rw[aL]at hy;subst hy;exact hx j e⟩,_,Y⟩:ZJ (upd L q (.lst (a.map Jd++[Jd x]))) b/\Zr b H (upd L q (.lst (a.map Jd++[Jd x])))/\(upd L q (.lst (a.map Jd++[Jd x]))) l=O (.lst (ts.map V.str))/\q≠b/\(∃d:List (Option Int),(upd L q (.lst (a.map Jd++[Jd x]))) q=O (.lst (d.map Jd))/\d.length=3+(i+1)/\d[0]?=O (O r3)/\d[2]?=O B/\∀x∈d,∀j,x=O j->0<=j/\j<=1000)/\∃v',[O (.ref b),O (.ref l),O (.ref q),O (.int (0+i))]=[O (V.ref b),O (.ref l),O (.ref q),v'])
  have c6:r6=0\/r6=1:=by omega
  rcases c6 with rfl|rfl
  .exact⟨q2,_,0,.non,Y,Y,jw.of e6,Zy (j:=0) Y,q,_,_,Y,Y,ab,hz,ak B (λj e=>by cases e)⟩
  .exact⟨q2,_,1,.int r5,Y,Y,jw.of e6,Zy (j:=1) Y,q,_,_,Y,Y,ab,hz,ak (O r5) (λj e=>by cases e;exact⟨aP,aM⟩)⟩
 .obtain⟨bx,sm,u,c,⟨a,t,len,z0,z2,ok⟩,v,rfl⟩:=p;refine⟨_,Y,_,Y,l,q,_,_,Y,u,t,λH7 l7 L7=>?_⟩;have S7:f' M H7:=L7.1;obtain⟨F,s,rfl⟩:∃F s,ts=F++[s]:=⟨_,_,(i7 (l:=ts) (by intro z;rw[z]at C;simp at C;omega)).symm⟩;have az:F.length=a.length:=by have:((F++[s]).length:Int)=4+r:=C;rw[aD]at this;simp at this;omega
  refine⟨_,Y,_,Y,l,_,-1,.str s,Y,Y,jw.of (S7 _ _ u),by rw[aA];exact T6 _ _,zl,λq8 I=>?_⟩;have B7:ZJ H7 b:=bx.same S7;have R7:=To L7 bx;rw[zip_rows,RV F a s az]at R7;have ai:(F.zip a).map (·.1)=F:=List.map_fst_zip zD;have aa:=k7.mp aC;refine k _ q8 l7 s (F.zip a) (B7.new I) ((sm.trans (Zr.of S7)).mK I) Zc (B7.ne I) (R7.same ((Zr.refl b H7).mK I)) ?_ (ah s zE) ?_
  .refine⟨by rw[c9];omega,by rw[c9];omega,by rw[ai];exact aa.1,λp hp=>ah _ (dv _ (gF hp).1),λp hp i e=>ok _ (gF hp).2 i e,?_⟩
   .have h3:0<F.length:=by omega
    have h4:0<a.length:=by omega
    refine⟨(F[0],a[0]),List.mem_iff_getElem.mpr ⟨0,by rw[c9];omega,zE⟩,r3,?_⟩;rw[gE h4]at z0;exact aJ z0
  .rw[ai];intro z;exact aa.2.2 s z s zE Y
end
end WD
namespace L2
open PySem PySem.Spec PyProof.Rows
def Vf{X:Cx}{b:iG}{K:af}{a:List bV}{k:Nat}{t:wO}{n:Nat}(g:X.K=K)(f:X.calm=true)(h:xZ X a t)(d:(fL a X.env).length=n:=by rfl)(c:(fL a X.env).findIdx? (·.1)=B:=by rfl):PG X (.Tuple a k b) (wc K n t):=by subst g;exact XG f h d c
end L2
namespace WD
open PySem L2 PySem.Spec PyProof.Rows TB
def Ri:Sp:=λd H Q _=>∃(b l:G)(a:Pl),d=[.ref b,.ref l]/\ZJ H b/\Yr b H l (a.map YQ)/\qo a/\∀c q s g,ZJ c b->Zr b H c->c q=O (.tup [.str s,.str g])->q≠b->(∃i,(s,O i)∈a)->(∃r,(g,r)∈a)->s≠g->Q (.ref q) c
def YM{b:Type}(p:b->Bool)(l:List b){i:Nat}{a:b}(h:l[i]?=O a):(l.take (i+1)).filter p=(l.take i).filter p++(if p a=true then[a]else[]):=by rw[cq,h,jo];simp only[Option.toList_some];cases c:p a<;>simp[c]
def Ku{ts:List U}{r:Int}(f:0<=r)(d:r<(ts.length:Int)):∃t,oY (ts.map V.str) r=O (.str t)/\t∈ts:=by obtain⟨v,a,c⟩:=JJ (xs:=ts.map V.str) f (by rw[lm];exact d);obtain⟨t,b,rfl⟩:=aG.mp c;exact⟨t,a,b⟩
def Dj(r:Option Int):(!decide (Jd r=.non))=r.isSome:=by cases r<;>rfl
theorem Yr.go{K:af}{b:G}{H:Hp}{l:G}{a:List (List V)}(h:Yr b H l a){i:Nat}(d:i<a.length):(qA K l).go i H:=by obtain⟨n,f,e,c,r⟩:=h;exact⟨_,.ref (f[i]' zD),jw.of e,by simp[c,d]⟩
theorem Yr.stop{K:af}{b:G}{H:Hp}{l:G}{a:List (List V)}(h:Yr b H l a):(qA K l).stop a.length H:=by obtain⟨n,d,e,c,r⟩:=h;exact⟨_,jw.of e,by simp[c]⟩
def Yr.item{K:af}{b:G}{H:Hp}{l:G}{c:List (List V)}(h:Yr b H l c){i:Nat}{r:List V}(f:c[i]?=O r){x:V}{d:Hp}(y:(qA K l).wD i H x d):d=H/\∃a,x=.ref a/\a≠b/\H a=O (.tup r):=by obtain⟨a,n,e,o,g,j,len⟩:=h.at f;obtain⟨rfl,q⟩:=y;have:=q _ (jw.of g);rw[aT,j]at this;exact⟨Y,a,(aJ this).symm,n,e⟩
section
variable {P:a9}{w:bg}{K:af}{J:U->Option Z}{S:bC}
def JG:ia [ky,mQ,"_law_starts",sW,"_law_goals"] [ky,mQ] (Ze T.nk):=nc
noncomputable def JP:dh:=pL [(".0",.local),(vK,.local),(vH,.local)]
def Nh:i4 JP (Ze T.nk):=⟨Y,zC,zC,zC⟩
def J3:([vK,vH]:List U).Nodup:=by decide +kernel
def Ni:i3 [ky,mQ,"_law_starts",sW,"_law_goals"] JP [vK,vH] [B,B]:=.mk' zC
noncomputable def JO:dh:=pL [(".0",.local),(vK,.local),(vH,.local),(sW,.free)]
def Nf:i4 JO (Ze T.nk):=⟨Y,zC,zC,zC⟩
def J2:([vK,vH,sW]:List U).Nodup:=by decide +kernel
def Ng:i3 [ky,mQ,"_law_starts",sW,"_law_goals"] JO [vK,vH,sW] [B,B,O 3]:=.mk' zC
def Ef(zw:∀x∈mE,J x=B)(CT:l8 P w K J S 1 rl [ky,pP] Z7)(zB:Df K J "_law_ends" T.nk [ky,mQ]):l8 P w K J S 2 "_law_ends" [ky,mQ] Ri:=by
 refine zB.cn JG λf b1 A bb s H vs Q E hr h=>?_;obtain⟨b,l,c,rfl,hb,hp,gp,k⟩:=h;have ar:(c.map YQ).length<=sizeLine:=aj (by rw[lm];have:=gp.hi;omega:(c.map YQ).length<=1000) D;refine⟨_,(Zb (YZ (i:=2) JG.nd Y (dD Y) (scope:=JP) (N:=[vK,vH]) (cp:=[B,B]) Y Nh Ni (Yy (R 1)) (λC s H ex pn=>(Vf (K:=K) (n:=2) Y Y (Zx (mH 0 J3) (Zx (mH 1 J3) Yd)))) (λC s H ex pn=>(V4 (Zo V9 (R 1) ZK (Zu _)))) (λC s H ex pn=>(R 0))) (Zb (Yv (i:=3) JG.nd Y (ir Y) (il K (R 2) (cn CT hr (Za (R 0) (Za (Zz (r:=nJ K) ZO Y (bm zw) bt (Za (R 2) Zg)) Zg))))) (Zb (YZ (i:=4) JG.nd Y (dD Y) (scope:=JO) (N:=[vK,vH,sW]) (cp:=[B,B,O 3]) Y Nf Ng (Yy (R 1)) (λC s H ex pn=>(Vf (K:=K) (n:=2) Y Y (Zx (mH 0 J2) (Zx (mH 1 J2) Yd)))) (λC s H ex pn=>(V4 (Zo JK (R 0) (R 2) (Zu _)))) (λC s H ex pn=>(R 0))) (Zi (Zn (Yo (Za (R 3) (Za (il K (R 4) (cn CT hr (Za (R 0) (Za (Zz (r:=nJ K) ZO Y (bm zw) bt (Za (R 4) Zg)) Zg)))) Zg)))))))),?_⟩;refine⟨_,Y,l,Y,⟨_,jw.of hp.2.choose_spec.1⟩,?_⟩;refine Vp (zA:=qA K l) (c.map YQ).length ar (λi u j d=>d=H/\u=((c.take i).filter λp=>p.2.isSome).map (λp=>V.str p.1)/\∃v1 v2,j=[v1,v2]) ⟨Y,Y,B,B,Y⟩ (λi u j d p=>?_) (λi u j d y p=>?_) (λu j d p=>?_) (λi u j d x H2 y p yl=>?_) (λu j H0 p l1 ab=>?_)
 .obtain⟨_,rfl,_⟩:=p;rw[lm];exact aj (dJ _ _) (by rw[aY];omega)
 .obtain⟨rfl,_⟩:=p;exact hp.go y
 .obtain⟨rfl,_⟩:=p;exact hp.stop
 .obtain⟨rfl,rfl,v1,v2,rfl⟩:=p;have ah:i<c.length:=by simpa using y
  have e0:c[i]?=O c[i]:=gE ah;obtain⟨rfl,a,rfl,na,ha⟩:=hp.item (r:=YQ c[i]) (by rw[aT,e0];rfl) yl;refine⟨a,_,Y,lR.of ha,Y,_,_,Y,_,_,Y,Y,_,Y,Y,_,Y,?_⟩;rw[Dj];refine Xr (λe=>?_) (λe=>?_)
  .refine⟨_,Y,Y,?_,_,_,Y⟩;rw[YM _ _ e0,zH e,aA];rfl
  .refine⟨Y,?_,_,_,Y⟩;rw[YM _ _ e0,zG (by rw[e];exact aW),bj]
 .obtain⟨rfl,rfl,v1,v2,rfl⟩:=p;rw[lm,cg];generalize X:(c.filter λp=>p.2.isSome).map (·.1)=M;have e1:(c.filter λp=>p.2.isSome).map (λp=>V.str p.1)=M.map V.str:=by rw[<-X,cY];rfl
  rw[e1];have a3:∀t∈M,∃i,(t,O i)∈c:=λt ht=>by rw[<-X]at ht;obtain⟨p,I,rfl⟩:=aG.mp ht;obtain⟨m1,m2⟩:=eV.mp I;obtain⟨i,y⟩:=eJ.mp m2;exact⟨i,by rw[<-y];exact m1⟩
  have bM:0<M.length:=by
   obtain⟨p,I,i,y⟩:=gp.one;have:p.1∈M:=by rw[<-X];exact aG.mpr ⟨p,eV.mpr ⟨I,by rw[y];rfl⟩,Y⟩
   exact jO this
  have bx:M.length<=6:=by rw[<-X,lm];exact aj (dJ _ _) gp.hi
  have aS:=hb.ne ab;have B1:=hb.new (o:=.lst (M.map V.str)) ab;have S1:Zr b H0 (upd H0 l1 (.lst (M.map V.str))):=(Zr.refl b H0).mK ab;have ak:upd H0 l1 (.lst (M.map V.str)) l1=O (.lst (M.map V.str)):=Zc;generalize upd H0 l1 (.lst (M.map V.str))=H1 at B1 S1 ak ⊢;refine⟨_,Y,_,Y,_,Y,l1,_,Y,.inl (jw.of ak),b,_,Y,B1,by rw[lm];omega,Z6 zD (by rw[lm];omega),λr H2 a6 aF B2 S2=>?_⟩;rw[lm]at aF;obtain⟨st,a4,a0⟩:=Ku a6 aF;refine⟨l1,_,r,_,Y,Y,jw.of (S2 _ _ ak aS),a4,?_⟩;have W:=hp.same (S1.trans S2);have a7:=S1.trans S2;refine⟨_,Y,l,Y,⟨_,jw.of W.2.choose_spec.1⟩,?_⟩;refine Vp (zA:=qA K l) (c.map YQ).length ar (λi u j d=>d=H2/\u=((c.take i).filter λp=>!decide (p.1=st)).map (λp=>V.str p.1)/\∃v1 v2,j=[v1,v2,O (.str st)]) ⟨Y,Y,B,B,Y⟩ (λi u j d p=>?_) (λi u j d y p=>?_) (λu j d p=>?_) (λi u j d x H2 y p yl=>?_) (λu j d p l3 aa=>?_)
  .obtain⟨_,rfl,_⟩:=p;rw[lm];exact aj (dJ _ _) (by rw[aY];omega)
  .obtain⟨rfl,_⟩:=p;exact W.go y
  .obtain⟨rfl,_⟩:=p;exact W.stop
  .obtain⟨rfl,rfl,v1,v2,rfl⟩:=p;have ah:i<c.length:=by simpa using y
   have e0:c[i]?=O c[i]:=gE ah;obtain⟨rfl,a,rfl,na,ha⟩:=W.item (r:=YQ c[i]) (by rw[aT,e0];rfl) yl;refine⟨a,_,Y,lR.of ha,Y,_,_,Y,_,_,Y,Y,_,Y,_,Y,Y,_,Y,?_⟩;have ee:(!decide (V.str c[i].1=V.str st))=!decide (c[i].1=st):=by
    congr 1;by_cases z:c[i].1=st
    .rw[z];simp
    .rw[zK z,zK (λq=>z (by cases q;rfl))]
   refine Xr (λe=>?_) (λe=>?_)
   .have e':=ee.symm.trans e;refine⟨_,Y,Y,?_,_,_,Y⟩;rw[YM _ _ e0,zH e',aA];rfl
   .have e':=ee.symm.trans e;refine⟨Y,?_,_,_,Y⟩;rw[YM _ _ e0,zG (by rw[e'];exact aW),bj]
  .obtain⟨rfl,rfl,v1,v2,rfl⟩:=p;rw[lm,cg];generalize L:(c.filter λp=>!decide (p.1=st)).map (·.1)=F;have e3:(c.filter λp=>!decide (p.1=st)).map (λp=>V.str p.1)=F.map V.str:=by rw[<-L,cY];rfl
   rw[e3];have az:∀t∈F,st≠t/\∃r,(t,r)∈c:=λt ht=>by rw[<-L]at ht;obtain⟨p,I,rfl⟩:=aG.mp ht;obtain⟨m1,m2⟩:=eV.mp I;exact⟨λz=>by simp[z]at m2,p.2,m1⟩
   have b0:0<F.length:=by
    have h3:=gp.lo;have nd:=gp.nd;by_cases z:c[0].1=st
    .have z1:c[1].1≠st:=λq=>by
      have:(c.map (·.1))[0]'(by simp;omega)=(c.map (·.1))[1]'(by simp;omega):=by simp[z,q]
      exact zI ((lJ nd).mp this) D
     have:c[1].1∈F:=by rw[<-L];exact aG.mpr ⟨c[1],eV.mpr ⟨bo _,by simp[z1]⟩,Y⟩
     exact jO this
    .have:c[0].1∈F:=by rw[<-L];exact aG.mpr ⟨c[0],eV.mpr ⟨bo _,by simp[z]⟩,Y⟩
     exact jO this
   have bT:F.length<=6:=by rw[<-L,lm];exact aj (dJ _ _) gp.hi
   have aP:=B2.ne aa;have B3:=B2.new (o:=.lst (F.map V.str)) aa;have S3:Zr b H0 (upd d l3 (.lst (F.map V.str))):=a7.mK aa;have ai:upd d l3 (.lst (F.map V.str)) l3=O (.lst (F.map V.str)):=Zc;generalize upd d l3 (.lst (F.map V.str))=H3 at B3 S3 ai ⊢;refine⟨_,Y,_,Y,_,Y,_,Y,l3,_,Y,.inl (jw.of ai),b,_,Y,B3,by rw[lm];omega,Z6 zD (by rw[lm];omega),λr4 H4 a5 aC B4 S4=>?_⟩;rw[lm]at aC;obtain⟨g,aM,hg⟩:=Ku a5 aC;refine⟨l3,_,r4,_,Y,Y,jw.of (S4 _ _ ai aP),aM,zl,λq hq=>?_⟩;exact k _ q st g (B4.new hq) ((S3.trans S4).mK hq) Zc (B4.ne hq) (a3 st a0) (az g hg).2 (az g hg).1
structure Rd where
 nm:U
 st:U
 lv:Int
 gl:U
 cm:Int
 se:Int
noncomputable def QH(r:Rd):List V:=[.str r.nm,.str r.st,.int r.lv,.str r.gl,.int r.cm,.int r.se]
structure Wy where
 nm:U
 st:U
 gl:U
 lo:Int
 wi:Int
noncomputable def Qs(r:Wy):List V:=[.str r.nm,.str r.st,.str r.gl,.int r.lo,.int r.wi]
structure Gr where
 nm:U
 pl:U
 tu:Int
 ma:Int
noncomputable def QS(r:Gr):List V:=[.str r.nm,.str r.pl,.int r.tu,.int r.ma]
structure Ends(ps:Pl)(s g:U):Prop where
 st:∃i,(s,O i)∈ps
 gl:∃r,(g,r)∈ps
 ne:s≠g
structure tL(n:Int)(ps:Pl)(r:Rd):Prop where
 ends:Ends ps r.st r.gl
 lv0:0<=r.lv
 lv1:r.lv<=n-1
 cm0:r.lv+1<=r.cm
 cm1:r.cm<=n
 se0:0<=r.se
 se1:r.se<=1000
structure tK(ps:Pl)(r:Wy):Prop where
 ends:Ends ps r.st r.gl
 lo0:1<=r.lo
 lo1:r.lo<=50
 wi0:0<=r.wi
 wi1:r.wi<=1000
noncomputable def ub:List U:=["",".","..7",".b"]
structure tM(n:Int)(ps:Pl)(S:U)(r:Gr):Prop where
 nm:∃s∈ub,r.nm=S++s
 pl:∃x,(r.pl,x)∈ps
 tu0:0<=r.tu
 tu1:r.tu<=n
 ma0:0<=r.ma
 ma1:r.ma<=5
def KW:Sp:=λf H Q _=>∃(b l:G)(d:U)(n:Int)(c:Pl),f=[.ref b,.str d,.int n,.ref l]/\ZJ H b/\Yr b H l (c.map YQ)/\qo c/\1<=n/\n<=50/\∀a q(r:Rd),ZJ a b->Zr b H a->a q=O (.tup (QH r))->q≠b->r.nm=d->tL n c r->Q (.ref q) a
def EM:Sp:=λf H Q _=>∃(b l:G)(d:U)(c:Pl),f=[.ref b,.str d,.ref l]/\ZJ H b/\Yr b H l (c.map YQ)/\qo c/\∀a q(r:Wy),ZJ a b->Zr b H a->a q=O (.tup (Qs r))->q≠b->r.nm=d->tK c r->Q (.ref q) a
def Sy:Sp:=λf H Q _=>∃(b l:G)(d:U)(n:Int)(c:Pl),f=[.ref b,.str d,.int n,.ref l]/\ZJ H b/\d.length<=1000/\Yr b H l (c.map YQ)/\qo c/\1<=n/\n<=50/\∀a q(r:Gr),ZJ a b->Zr b H a->a q=O (.tup (QS r))->q≠b->tM n c d r->Q (.ref q) a
def Kt{c:Bool}{x y:Int}:oY [V.int x,.int y] (if c=true then 1 else 0)=O (.int (if c=true then y else x)):=by
 cases c
 .exact Zy (j:=0) Y
 .exact Zy (j:=1) Y
def Mz{x y m:Int}(b:x<=m)(a:y<=m)(c:Bool):(if c=true then y else x)<=m:=by cases c<;>assumption
def MA{x y m:Int}(b:m<=x)(a:m<=y)(c:Bool):m<=(if c=true then y else x):=by cases c<;>assumption
def JF:ia [ky,pF,o5,mQ,sW,"_law_goal","_law_leave"] [ky,pF,o5,mQ] (Ze T.pB):=nc
def Ed(zw:∀x∈mE,J x=B)(r:l8 P w K J S 1 rl [ky,pP] Z7)(CS:l8 P w K J S 2 "_law_size" [ky] Rf)(CE:l8 P w K J S 2 "_law_ends" [ky,mQ] Ri)(u:Df K J "_law_ride" T.pB [ky,pF,o5,mQ]):l8 P w K J S 3 "_law_ride" [ky,pF,o5,mQ] KW:=by refine u.cn JF λf ar A p s H vs Q E g h=>?_;obtain⟨b,l,F,n,C,rfl,M,L,N,ab,aa,k⟩:=h;refine⟨_,(Zb (MH (cn CE g (Za (R 0) (Za (R 3) Zg))) (XG Y (Zx (mH 4 JF.nd) (Zx (mH 5 JF.nd) Yd)))) (Zb (st 6 JF.nd (cn r g (Za (R 0) (Za (R 2) Zg)))) (Zi (Zn (Yo (Za (R 1) (Za (R 4) (Za (R 6) (Za (R 5) (Za (Zv Z3 (Zv Z3 (R 6) Zd) (cn r g (Za (R 0) (Za (Zv MK (R 2) (R 6)) Zg)))) (Za (cn CS g (Za (R 0) Zg)) Zg))))))))))),?_⟩;refine⟨_,Y,_,Y,b,l,C,Y,M,L,N,λH1 q st W B1 S1 I nq X eg ne=>?_⟩;refine⟨q,_,Y,lR.of I,Y,_,_,Y,_,_,Y,Y,?_⟩;refine⟨_,Y,_,Y,b,n,Y,B1,zD,Z6 zD zD,λa H2 o ai B2 S2=>?_⟩;refine⟨_,Y,_,Y,_,Y,_,Y,_,Y,_,_,Y,Y,_,Y,_,Y,_,Y,_,_,Y,Y,b,n-a,Y,B2,zD,Z6 zD zD,λd H3 ak ah B3 S3=>?_⟩;refine⟨_,_,Y,Y,_,Y,b,Y,B3,λy H4 j i t S4=>?_⟩;refine⟨zl,λz c=>?_⟩;exact k _ z ⟨F,st,a,W,a+1+d,y⟩ (t.new c) ((((S1.trans S2).trans S3).trans S4).mK c) Zc (t.ne c) Y ⟨⟨X,eg,ne⟩,o,by show a<=n-1;omega,by show a+1<=a+1+d;omega,by show a+1+d<=n;omega,j,i⟩
def Uw:ia [ky,pF,mQ,sW,"_law_goal"] [ky,pF,mQ] (Ze T.pS):=nc
def Ah(C:∀x∈mE,J x=B)(u:l8 P w K J S 1 rl [ky,pP] Z7)(CS:l8 P w K J S 2 "_law_size" [ky] Rf)(CE:l8 P w K J S 2 "_law_ends" [ky,mQ] Ri)(F:Df K J "_law_way" T.pS [ky,pF,mQ]):l8 P w K J S 3 "_law_way" [ky,pF,mQ] EM:=by
 refine F.cn Uw λf ak A r s H vs Q E d h=>?_;obtain⟨b,l,N,M,rfl,hb,hp,gp,k⟩:=h;refine⟨_,(Zb (MH (cn CE d (Za (R 0) (Za (R 2) Zg))) (XG Y (Zx (mH 3 Uw.nd) (Zx (mH 4 Uw.nd) Yd)))) (Zi (Zn (Yo (Za (R 1) (Za (R 3) (Za (R 4) (Za (Zv Z3 Zd (cn u d (Za (R 0) (Za (il K (Zw (Za Zd (Za Zd Zg))) (ZE Yj Y (bm C) Y2 (Za (Z5 Ym (cn u d (Za (R 0) (Za Zd Zg))) Zd (Zu _)) Zg))) Zg)))) (Za (cn CS d (Za (R 0) Zg)) Zg))))))))),?_⟩;refine⟨_,Y,_,Y,b,l,M,Y,hb,hp,gp,λH1 q st gl z S1 hq nq es eg ne=>?_⟩;refine⟨q,_,Y,lR.of hq,Y,_,_,Y,_,_,Y,Y,?_⟩;refine⟨_,Y,_,Y,_,Y,_,Y,zl,λX c=>?_⟩;have W:=z.ne c;refine qB (z.new c) (λr2 H2 ai ab B2 t=>?_);have n:=t _ _ Zc W;have p:=(S1.mK (o:=.lst [.int 3,.int 50]) c).trans t;refine⟨Y,.inr ⟨_,Y,X,_,_,_,Y,Y,jw.of n,Kt,b,_,Y,B2,?_,?_,λlo H3 ah i B3 S3=>?_⟩⟩
 .exact gz (by decide:(0:Int)<3) (MA D D _)
 .exact Z6 (Int.le_trans (by decide:(0:Int)<=3) (MA D D _)) (Mz D D _)
 .have aa:lo<50:=gz i (Mz D D _);refine⟨_,_,Y,Y,_,Y,b,Y,B3,λI H4 j g y S4=>?_⟩;refine⟨zl,λL a=>?_⟩;exact k _ L ⟨N,st,gl,1+lo,I⟩ (y.new a) (((p.trans S3).trans S4).mK a) Zc (y.ne a) Y ⟨⟨es,eg,ne⟩,by show 1<=1+lo;omega,by show 1+lo<=50;omega,j,g⟩
def Va:ia [ky,pF,o5,mQ,vK] [ky,pF,o5,mQ] (Ze T.oR):=nc
def Km(zw:∀x∈mE,J x=B)(I:l8 P w K J S 1 rl [ky,pP] Z7)(zB:Df K J "_law_group" T.oR [ky,pF,o5,mQ]):l8 P w K J S 2 "_law_group" [ky,pF,o5,mQ] Sy:=by
 refine zB.cn Va λf a6 A ak s H vs Q E F h=>?_;obtain⟨b,l,nm,n,d,rfl,hb,aM,hp,gp,aS,aP,k⟩:=h;refine⟨_,(Zb (st 1 Va.nd (Zv ZS (R 1) (il K (Zw (Za Zf (Za Zf (Za Zf (Za Zf Zg))))) (cn I F (Za (R 0) (Za Zd Zg)))))) (Zb (st 4 Va.nd (it K (il K (R 3) (cn I F (Za (R 0) (Za (Zz (r:=nJ K) ZO Y (bm zw) bt (Za (R 3) Zg)) Zg)))) Zd)) (Zi (Zn (Yo (Za (R 1) (Za (R 4) (Za (cn I F (Za (R 0) (Za (Zv Z3 (R 2) Zd) Zg))) (Za (cn I F (Za (R 0) (Za Zd Zg))) Zg))))))))),?_⟩;refine⟨_,Y,zl,λl2 g=>?_⟩;have n2:=hb.ne g;refine qB (hb.new g) (λr2 H2 ab W B2 S2=>?_);have ah:=S2 _ _ Zc n2;have z:=((Zr.refl b H).mK (o:=.lst (ub.map V.str)) g).trans S2;obtain⟨p,M,u⟩:=Ku (ts:=ub) ab W;have aF:p.length<=3:=(by decide +kernel:∀t∈ub,t.length<=3) p u;refine⟨l2,_,r2,_,Y,Y,jw.of ah,M,_,_,Y,Y,aj (by omega:nm.length+p.length<=2000) D,?_⟩;have y:=hp.same z;have C:=y;obtain⟨aC,as,el,len,az⟩:=C;have ar:as.length=d.length:=by rw[len,lm]
 have a0:3<=d.length/\d.length<=6:=⟨gp.lo,gp.hi⟩;refine⟨_,Y,_,Y,_,Y,l,_,Y,.inl (jw.of el),b,_,Y,B2,by rw[lm];omega,Z6 zD (by rw[lm];omega),λc H3 a5 N B3 S3=>?_⟩;rw[lm]at N;have hi:c.toNat<d.length:=by omega
 obtain⟨a,na,ha,a7,ai,ea,p_⟩:=(y.same S3).at (i:=c.toNat) (r:=YQ d[c.toNat]) (by rw[aT,gE hi];rfl);refine⟨l,_,c,.ref a,Y,Y,jw.of ai,XN (j:=c.toNat) zD (by rw[aT,ea];rfl),a,_,0,_,Y,Y,lR.of ha,Zy (j:=0) Y,?_⟩;refine⟨_,Y,_,Y,_,Y,_,Y,_,_,Y,Y,b,n+1,Y,B3,zD,Z6 zD zD,λtu H4 aa a4 B4 S4=>?_⟩;refine qB B4 (λma H5 X a3 B5 S5=>?_);refine⟨zl,λq L=>?_⟩;exact k _ q ⟨nm++p,d[c.toNat].1,tu,ma⟩ (B5.new L) ((((z.trans S3).trans S4).trans S5).mK L) Zc (B5.ne L) ⟨⟨p,u,Y⟩,⟨d[c.toNat].2,bo hi⟩,aa,by show tu<=n;omega,X,by show ma<=5;omega⟩
structure Wd where
 n:Int
 ps:Pl
 rs:List Rd
 ws:List Wy
 gs:List Gr
structure pM(ts:List U)(s:U):Prop where
 nd:ts.Nodup
 nm:∀t∈ts,Nm t
 len:ts.length<=12
 snm:Nm s
 s:s∉ts
structure GoodW(W:Wd)(bs:List U):Prop where
 n0:1<=W.n
 n1:W.n<=50
 pl:qo W.ps
 rd:∀r∈W.rs,tL W.n W.ps r
 wy:∀r∈W.ws,tK W.ps r
 len:W.gs.length=bs.length
 gr:∀(i:Nat)b g,bs[i]?=O b->W.gs[i]?=O g->tM W.n W.ps b g
structure rJ(W:Wd)(bs:List U)(s0 s1 s2 s3:U):Prop where
 p:Nm s0/\s0∉W.ps.map (·.1)
 r:pM (W.rs.map (·.nm)) s1
 w:pM (W.ws.map (·.nm)) s2
 g:pM bs s3
structure tY(b:G)(H:Hp)(p:G)(W:Wd)(l1 l2 l3 l4:G):Prop where
 ne:p≠b
 at_:H p=O (.lst [.int W.n,.ref l1,.ref l2,.ref l3,.ref l4])
 pl:Yr b H l1 (W.ps.map YQ)
 rd:Yr b H l2 (W.rs.map QH)
 wy:Yr b H l3 (W.ws.map Qs)
 gr:Yr b H l4 (W.gs.map QS)
def KP:Sp:=λh H Q _=>∃(b:G),h=[.ref b]/\ZJ H b/\∀a q p st n l j i(W:Wd)(bs:List U)(g f d c:U),ZJ a b->Zr b H a->q≠b->a q=O (.lst [.ref p,.ref st])->st≠b->a st=O (.lst [.str g,.str f,.str d,.str c])->tY b a p W n l j i->GoodW W bs->rJ W bs g f d c->Q (.ref q) a
def N6(b:G)(H:Hp)(l:G)(a:List U):Prop:=l≠b/\H l=O (.lst (a.map V.str))/\1<=a.length/\a.length<=13/\a.Nodup/\∀t∈a,Nm t
def N6.same{b:G}{H c:Hp}{l:G}{a:List U}(s:Zr b H c)(h:N6 b H l a):N6 b c l a:=⟨h.1,s _ _ h.2.1 h.1,h.2.2⟩
def xE(a:List V)(h:1<=a.length):m_ a (O 1) B=a.drop 1:=by
 have e:HT.mF a.length 0 (O 1)=1:=by simp[HT.mF];omega
 have b:HT.mF a.length a.length B=a.length:=by simp[HT.mF]
 unfold m_;rw[e,b,bp (by rw[cL];exact aq _)]
def pM.of{a:List U}{s:U}(f:(s::a).length<=13)(b:(s::a).Nodup)(c:∀t∈s::a,Nm t):pM a s:=by rw[d9]at b;exact⟨b.2,λt d=>c t (au _ d),by simp at f;omega,c s ax,b.1⟩
def Made{c:Type}(b:G)(H:Hp)(row:c->List V)(g:U->c->Prop)(l:List U)(i:Nat)(h:List V):Prop:=∃(f:List G)(d:List c),h=f.map V.ref/\f.length=i/\d.length=i/\(∀(j:Nat)a r,f[j]?=O a->d[j]?=O r->a≠b/\H a=O (.tup (row r)))/\∀(j:Nat)r t,d[j]?=O r->l[j]?=O t->g t r
def Made.nil{c:Type}{b:G}{H:Hp}{row:c->List V}{d:U->c->Prop}{f:List U}:Made b H row d f 0 []:=⟨[],[],Y,Y,Y,λj a r h=>by simp at h,λj r t h=>by simp at h⟩
def Made.len{a:Type}{b:G}{H:Hp}{row:a->List V}{d:U->a->Prop}{f:List U}{i:Nat}{c:List V}(m:Made b H row d f i c):c.length<=i:=by obtain⟨j,h,rfl,g,_⟩:=m;rw[lm,g];exact aq _
def NJ{a:Type}{l:List a}{x y:a}{j i:Nat}(b:l.length=i)(h:(l++[x])[j]?=O y):l[j]?=O y\/(j=i/\x=y):=by
 rcases Nat.lt_or_ge j l.length with h1|h1
 .rw[fJ h1]at h;exact .inl h
 .rw[fA h1]at h;rcases ju (j-l.length)with h2|h2
  .rw[h2]at h;exact .inr ⟨zD,by simpa using h⟩
  .rw[List.getElem?_eq_none (by simp;omega)]at h;cases h
def Made.step{h:Type}{b:G}{H u:Hp}{row:h->List V}{l:U->h->Prop}{o:List U}{i:Nat}{x:List V}{a:G}{r:h}{t:U}(m:Made b H row l o i x)(s:Zr b H u)(E:a≠b)(L:u a=O (.tup (row r)))(F:o[i]?=O t)(g:l t r):Made b u row l o (i+1) (x++[.ref a]):=by
 obtain⟨M,z,rfl,q,f,C,A⟩:=m;refine⟨M++[a],z++[r],zE,by simp[q],by simp[f],λj N p d c=>?_,λj p y d c=>?_⟩
 .rcases NJ q d with d|⟨e,rfl⟩
  .have I:j<i:=by rw[<-q];exact(aU.mp d).1
   rcases NJ f c with c|⟨e,rfl⟩
   .obtain⟨n,e⟩:=C j N p d c;exact⟨n,s _ _ e n⟩
   .omega
  .rcases NJ f c with c|⟨e,rfl⟩
   .have I:j<i:=by rw[<-f];exact(aU.mp c).1
    omega
   .exact⟨E,L⟩
 .rcases NJ f d with d|⟨e,rfl⟩
  .exact A j p y d c
  .rw[e,F]at c;cases c;exact g
def Made.done{f:Type}{b:G}{H:Hp}{row:f->List V}{h:U->f->Prop}{d:List U}{o:List V}(m:Made b H row h d d.length o){l:G}(A:ZJ H b)(q:H l=B):∃c:List f,Yr b (upd H l (.lst o)) l (c.map row)/\c.length=d.length/\∀(j:Nat)r t,c[j]?=O r->d[j]?=O t->h t r:=by obtain⟨E,c,rfl,z,p,x,u⟩:=m;refine⟨c,⟨A.ne q,E,Zc,by rw[lm,z,p],λi a r C s=>?_⟩,p,u⟩;rw[aT]at s;obtain⟨y,g,rfl⟩:=iu.mp s;obtain⟨n,e⟩:=x i a y C g;exact⟨n,by rw[Zk (Zp e q)];exact e⟩
def Wr{K:af}{H:Hp}{l:G}{a:List U}(h:H l=O (.lst (a.map V.str))){i:Nat}(b:i<a.length):(qA K l).go i H:=⟨_,.str a[i],jw.of h,by simp[b]⟩
def Pc{K:af}{H:Hp}{l:G}{a:List U}(h:H l=O (.lst (a.map V.str))):(qA K l).stop a.length H:=⟨_,jw.of h,zE⟩
def Pd{K:af}{H b:Hp}{l:G}{a:List U}(h:H l=O (.lst (a.map V.str))){i:Nat}{x:V}(c:i<a.length)(y:(qA K l).wD i H x b):b=H/\x=.str a[i]:=by obtain⟨rfl,q⟩:=y;have:=q _ (jw.of h);rw[aT,gE c]at this;exact⟨Y,(aJ this).symm⟩
def YD:ia [ky,o5,mQ,yg,xU,"_law_rides","_law_ways","_law_groups"] [ky] (Ze T.mC):=nc
noncomputable def JB:dh:=pL [(".0",.local),(oG,.local),("_law_names",.globalImplicit),(rl,.globalImplicit),("int",.globalImplicit),(ky,.free)]
def GV:i4 JB (Ze T.mC):=⟨Y,zC,zC,zC⟩
def GX:([oG,ky]:List U).Nodup:=by decide +kernel
def GW:i3 [ky,o5,mQ,yg,xU,"_law_rides","_law_ways","_law_groups"] JB [oG,ky] [B,O 0]:=.mk' zC
noncomputable def JA:dh:=pL [(".0",.local),(pF,.local),("_law_ride",.globalImplicit),(ky,.free),(mQ,.free),(o5,.free)]
def GQ:i4 JA (Ze T.mC):=⟨Y,zC,zC,zC⟩
def GU:([pF,ky,mQ,o5]:List U).Nodup:=by decide +kernel
def GR:i3 [ky,o5,mQ,yg,xU,"_law_rides","_law_ways","_law_groups"] JA [pF,ky,mQ,o5] [B,O 0,O 2,O 1]:=.mk' zC
noncomputable def Jz:dh:=pL [(".0",.local),(pF,.local),("_law_way",.globalImplicit),(ky,.free),(mQ,.free)]
def GN:i4 Jz (Ze T.mC):=⟨Y,zC,zC,zC⟩
def GP:([pF,ky,mQ]:List U).Nodup:=by decide +kernel
def GO:i3 [ky,o5,mQ,yg,xU,"_law_rides","_law_ways","_law_groups"] Jz [pF,ky,mQ] [B,O 0,O 2]:=.mk' zC
noncomputable def Jy:dh:=pL [(".0",.local),(pF,.local),("_law_group",.globalImplicit),(ky,.free),(mQ,.free),(o5,.free)]
def GJ:i4 Jy (Ze T.mC):=⟨Y,zC,zC,zC⟩
def GL:([pF,ky,mQ,o5]:List U).Nodup:=by decide +kernel
def GK:i3 [ky,o5,mQ,yg,xU,"_law_rides","_law_ways","_law_groups"] Jy [pF,ky,mQ,o5] [B,O 0,O 2,O 1]:=.mk' zC
def DR(zw:∀x∈mE,J x=B)(CT:l8 P w K J S 1 rl [ky,pP] Z7)(CN:l8 P w K J S 2 "_law_names" [ky,pP] Rh)(CP:l8 P w K J S 3 "_law_places" [ky] Sv)(CR:l8 P w K J S 3 "_law_ride" [ky,pF,o5,mQ] KW)(CW:l8 P w K J S 3 "_law_way" [ky,pF,mQ] EM)(CG:l8 P w K J S 2 "_law_group" [ky,pF,o5,mQ] Sy)(zB:Df K J "_law_world" T.mC [ky]):l8 P w K J S 4 "_law_world" [ky] KP:=by
 refine zB.cn YD λf eM A ey s H vs Q E hr h=>?_;obtain⟨b,rfl,hb,k⟩:=h;refine⟨_,(Zb (Yv (i:=1) YD.nd Y (ir Y) (Zv Z3 Zd (cn CT hr (Za (R 0) (Za (il K (Zw (Za Zd (Za Zd Zg))) (ZE Yj Y (bm zw) Y2 (Za (Z5 Ym (cn CT hr (Za (R 0) (Za Zd Zg))) Zd (Zu _)) Zg))) Zg))))) (Zb (MH (cn CP hr (Za (R 0) Zg)) (Fm Y (Zx (Gq (i:=2) YD.nd Y (ir Y)) (Zx (mH 3 YD.nd) Yd)))) (Zb (YZ (i:=4) YD.nd Y (dD Y) (scope:=JB) (N:=[oG,ky]) (cp:=[B,O 0]) Y GV GW (YB Y (bm zw) (Za Zd Zg)) (λC s H ex pn=>(mH 0 GX)) (λC s H ex pn=>ZW) (λC s H ex pn=>(cn CN hr (Za (R 1) (Za (Zv Z3 Zd (cn CT hr (Za (R 1) (Za (il K (Zw (Za Zd (Za Zd Zg))) (ZE Yj Y (bm zw) Y2 (Za (Z5 Ym (cn CT hr (Za (R 1) (Za Zd Zg))) Zd (Zu _)) Zg))) Zg)))) Zg))))) (Zb (YZ (i:=5) YD.nd Y (dD Y) (scope:=JA) (N:=[pF,ky,mQ,o5]) (cp:=[B,O 0,O 2,O 1]) Y GQ GR (Yy (ZG (r:=ny K) Z0 (il K (R 4) Zd) (ZP Zd) ZQ)) (λC s H ex pn=>(mH 0 GU)) (λC s H ex pn=>ZW) (λC s H ex pn=>(cn CR hr (Za (R 1) (Za (R 0) (Za (R 3) (Za (R 2) Zg))))))) (Zb (YZ (i:=6) YD.nd Y (dD Y) (scope:=Jz) (N:=[pF,ky,mQ]) (cp:=[B,O 0,O 2]) Y GN GO (Yy (ZG (r:=ny K) Z0 (il K (R 4) Zd) (ZP Zd) ZQ)) (λC s H ex pn=>(mH 0 GP)) (λC s H ex pn=>ZW) (λC s H ex pn=>(cn CW hr (Za (R 1) (Za (R 0) (Za (R 2) Zg)))))) (Zb (YZ (i:=7) YD.nd Y (dD Y) (scope:=Jy) (N:=[pF,ky,mQ,o5]) (cp:=[B,O 0,O 2,O 1]) Y GJ GK (Yy (ZG (r:=ny K) Z0 (il K (R 4) Zd) (ZP Zd) ZQ)) (λC s H ex pn=>(mH 0 GL)) (λC s H ex pn=>ZW) (λC s H ex pn=>(cn CG hr (Za (R 1) (Za (R 0) (Za (R 3) (Za (R 2) Zg))))))) (Zi (Zn (Zw (Za (Zw (Za (R 1) (Za (R 2) (Za (R 5) (Za (R 6) (Za (R 7) Zg)))))) (Za (Zw (Za (R 3) (Za (il K (il K (R 4) Zd) Zd) (Za (il K (il K (R 4) Zd) Zd) (Za (il K (il K (R 4) Zd) Zd) Zg))))) Zg))))))))))),?_⟩;refine⟨_,Y,zl,λl2 L=>?_⟩;have n2:=hb.ne L;refine qB (hb.new L) (λr2 H2 en el B2 S2=>?_);have aS:=S2 _ _ Zc n2;have dg:=((Zr.refl b H).mK (o:=.lst [.int 6,.int 50]) L).trans S2;refine⟨Y,.inr ⟨_,Y,l2,_,_,_,Y,Y,jw.of aS,Kt,b,_,Y,B2,?_,?_,λW H3 eL cf B3 S3=>?_⟩⟩
 .exact gz (by decide:(0:Int)<6) (MA D D _)
 .exact Z6 (Int.le_trans (by decide:(0:Int)<=6) (MA D D _)) (Mz D D _)
 have eE:W<50:=gz cf (Mz D D _);clear cf;refine⟨_,_,Y,Y,?_⟩;have dd:=dg.trans S3;clear dg S2 S3 aS L;have b6:1<=(1+W):=by omega
 have b5:(1+W)<=50:=by omega
 refine⟨_,Y,b,Y,B3,λH4 q l1 s0 ps B4 S4 hq nq ef gp d0 dV=>?_⟩;refine⟨q,_,Y,jw.of hq,Y,_,_,Y,_,_,Y,Y,?_⟩;have ew:=dd.trans S4;clear dd S4 B3;refine⟨3,Y,D,D,ZX (zA:=tJ 0 3) 3 D
  (λi d y n=>ZJ n b/\Zr b H n/\Yr b n l1 (ps.map YQ)/\(∃ls:List (G×List U),d=ls.map (λp=>V.ref p.1)/\ls.length=i/\∀p∈ls,N6 b n p.1 p.2)/\∃v,y=[v,O (.ref b)]) ⟨B4,ew,ef,⟨[],Y,Y,zE⟩,B,Y⟩ (λi d y n p=>?_) (λi d y n I p=>I) (λd y n p=>aq _) (λi d y n x' H3 I p yl=>?_) (λd y H5 p ln ar=>?_)⟩
 .obtain⟨_,_,_,⟨ls,rfl,e,_⟩,_⟩:=p;rw[lm,e];exact aq _
 .obtain⟨bx,sm,ah,⟨ls,rfl,e,ho⟩,v,rfl⟩:=p;obtain⟨rfl,rfl⟩:=yl;refine⟨_,Y,_,Y,zl,λl2 L=>?_⟩;have n2:=bx.ne L;refine qB (bx.new L) (λr2 H2 en el B2 S2=>?_);have aS:=S2 _ _ Zc n2;have eo:=((Zr.refl b H3).mK (o:=.lst [.int 5,.int 13]) L).trans S2;refine⟨Y,.inr ⟨_,Y,l2,_,_,_,Y,Y,jw.of aS,Kt,b,_,Y,B2,?_,?_,λmn H6 eH ek B6 S6=>?_⟩⟩
  .exact gz (by decide:(0:Int)<5) (MA D D _)
  .exact Z6 (Int.le_trans (by decide:(0:Int)<=5) (MA D D _)) (Mz D D _)
  have cf:mn<13:=gz ek (Mz D D _);refine⟨_,_,Y,Y,b,1+mn,Y,B6,zD,zD,λH7 l7 ts B7 S7 ej d3 ez ei eg=>?_⟩;have cx:=(eo.trans S6).trans S7;refine⟨B7,sm.trans cx,ah.same cx,⟨ls++[(l7,ts)],by rw[aA];rfl,by simp[e],λp hp=>?_⟩,_,Y⟩;rcases ba.mp hp with hp|hp
  .exact(ho p hp).same cx
  .rw[aL]at hp;subst hp;exact⟨d3,ej,by show 1<=ts.length;omega,by show ts.length<=13;omega,ei,eg⟩
 .obtain⟨B5,c6,ah,⟨ls,rfl,e,ho⟩,v,rfl⟩:=p;match ls,e,ho with
 |[(a1,t1),(a2,t2),(a3,t3)],_,ho=>
  have N1:=ho (a1,t1) zE;have N2:=ho (a2,t2) zE;have N3:=ho (a3,t3) zE;clear ho;dsimp only[List.map]at ar ⊢;have aP:=B5.ne ar;have B6:=B5.new (o:=.lst [.ref a1,.ref a2,.ref a3]) ar;have X:Zr b H5 (upd H5 ln (.lst [.ref a1,.ref a2,.ref a3])):=(Zr.refl b H5).mK ar;have z:upd H5 ln (.lst [.ref a1,.ref a2,.ref a3]) ln=O (.lst [.ref a1,.ref a2,.ref a3]):=Zc;generalize upd H5 ln (.lst [.ref a1,.ref a2,.ref a3])=H6 at B6 X z ⊢;have eu:=c6.trans X;have N1:=N1.same X;have N2:=N2.same X;have N3:=N3.same X;have bb:=ah.same X;clear X c6 ah B5 ar;obtain⟨eD,cX,c1,c5,ea,d2⟩:=id N1;obtain⟨h1,u1,rfl⟩:∃h u,t1=h::u:=by
   cases t1 with
  |nil=>simp at c1
  |cons h u=>exact⟨h,u,Y⟩
  refine rA 0 z Y ⟨_,Y,a1,_,Y,jw.of cX,λx1 b3=>?_⟩;rw[xE _ (by rw[lm];exact c1)];have b0:=B6.ne b3;refine⟨x1,Y,⟨_,jw.of Zc⟩,?_⟩;have aF:upd H6 x1 (.lst ((h1::u1).map V.str |>.drop 1)) x1=O (.lst (u1.map V.str)):=Zc
  have cE:=B6.new (o:=.lst ((h1::u1).map V.str |>.drop 1)) b3
  have a5:Zr b H6 (upd H6 x1 (.lst ((h1::u1).map V.str |>.drop 1))):=(Zr.refl b H6).mK b3
  generalize upd H6 x1 (.lst ((h1::u1).map V.str |>.drop 1))=X1 at aF cE a5 ⊢
  have rz:u1.length<=12:=by simp at c5;omega
  refine ZX (zA:=qA K x1) u1.length (aj rz D) (λi d y n=>ZJ n b/\Zr b X1 n/\Made b n QH (λt(r:Rd)=>r.nm=t/\tL (1+W) ps r) u1 i d/\∃v,y=[v,O (.ref b),O (.ref l1),O (.int (1+W))]) ⟨cE,Zr.refl b _,Made.nil,B,Y⟩ (λi d y n p=>p.2.2.1.len) (λi d y n I p=>Wr (p.2.1 _ _ aF b0) I) (λd y n p=>Pc (p.2.1 _ _ aF b0)) (λi d y n x' H3 I p yl=>?_) (λd y dt p lr b8=>?_)
  .obtain⟨bx,sm,md,v,rfl⟩:=p;obtain⟨rfl,rfl⟩:=Pd (sm _ _ aF b0) I yl;exact⟨_,Y,_,Y,_,Y,_,Y,b,l1,_,(1+W),ps,Y,bx,bb.same (a5.trans sm),gp,b6,b5,λH4 q r B4 S4 hq nq e g=>⟨B4,sm.trans S4,md.step S4 nq hq (gE I) ⟨e,g⟩,_,Y⟩⟩
  obtain⟨cm,cI,ed,v,rfl⟩:=p;obtain⟨rs,R1,cR,g1⟩:=ed.done cm b8;have B7:=cm.new (o:=.lst d) b8;have aa:Zr b H6 (upd dt lr (.lst d)):=(a5.trans cI).mK b8;generalize upd dt lr (.lst d)=H7 at B7 aa R1 ⊢;have et:=eu.trans aa;have a7:=bb.same aa;have z:=aa _ _ z aP;have N2:=N2.same aa;have N3:=N3.same aa;clear a5 cI aF cm cE cX;obtain⟨eC,cW,c2,c4,d5,d1⟩:=id N2;obtain⟨h2,u2,rfl⟩:∃h u,t2=h::u:=by
   cases t2 with
  |nil=>simp at c2
  |cons h u=>exact⟨h,u,Y⟩
  refine rA 1 z Y ⟨_,Y,a2,_,Y,jw.of cW,λx2 b2=>?_⟩;rw[xE _ (by rw[lm];exact c2)];have bT:=B7.ne b2;refine⟨x2,Y,⟨_,jw.of Zc⟩,?_⟩;have aC:upd H7 x2 (.lst ((h2::u2).map V.str |>.drop 1)) x2=O (.lst (u2.map V.str)):=Zc
  have cB:=B7.new (o:=.lst ((h2::u2).map V.str |>.drop 1)) b2
  have a4:Zr b H7 (upd H7 x2 (.lst ((h2::u2).map V.str |>.drop 1))):=(Zr.refl b H7).mK b2
  generalize upd H7 x2 (.lst ((h2::u2).map V.str |>.drop 1))=X2 at aC cB a4 ⊢
  have p_:u2.length<=12:=by simp at c4;omega
  refine ZX (zA:=qA K x2) u2.length (aj p_ D) (λi d y n=>ZJ n b/\Zr b X2 n/\Made b n Qs (λt(r:Wy)=>r.nm=t/\tK ps r) u2 i d/\∃v,y=[v,O (.ref b),O (.ref l1)]) ⟨cB,Zr.refl b _,Made.nil,B,Y⟩ (λi d y n p=>p.2.2.1.len) (λi d y n I p=>Wr (p.2.1 _ _ aC bT) I) (λd y n p=>Pc (p.2.1 _ _ aC bT)) (λi d y n x' H3 I p yl=>?_) (λd y dp p lw b7=>?_)
  .obtain⟨bx,sm,md,v,rfl⟩:=p;obtain⟨rfl,rfl⟩:=Pd (sm _ _ aC bT) I yl;exact⟨_,Y,_,Y,_,Y,b,l1,_,ps,Y,bx,a7.same (a4.trans sm),gp,λH4 q r B4 S4 hq nq e g=>⟨B4,sm.trans S4,md.step S4 nq hq (gE I) ⟨e,g⟩,_,Y⟩⟩
  obtain⟨ck,cH,ec,v,rfl⟩:=p;obtain⟨ws,R2,cP,g2⟩:=ec.done ck b7;have B8:=ck.new (o:=.lst d) b7;have M:Zr b H7 (upd dp lw (.lst d)):=(a4.trans cH).mK b7;generalize upd dp lw (.lst d)=H8 at B8 M R2 ⊢;have es:=et.trans M;have a6:=a7.same M;have z:=M _ _ z aP;have N3:=N3.same M;have R1:=R1.same M;clear a4 cH aC ck cB cW;obtain⟨eA,cT,c3,c0,d4,cN⟩:=id N3;obtain⟨h3,u3,rfl⟩:∃h u,t3=h::u:=by
   cases t3 with
  |nil=>simp at c3
  |cons h u=>exact⟨h,u,Y⟩
  refine rA 2 z Y ⟨_,Y,a3,_,Y,jw.of cT,λx3 b1=>?_⟩;rw[xE _ (by rw[lm];exact c3)];have bM:=B8.ne b1;refine⟨x3,Y,⟨_,jw.of Zc⟩,?_⟩;have az:upd H8 x3 (.lst ((h3::u3).map V.str |>.drop 1)) x3=O (.lst (u3.map V.str)):=Zc
  have cy:=B8.new (o:=.lst ((h3::u3).map V.str |>.drop 1)) b1
  have a0:Zr b H8 (upd H8 x3 (.lst ((h3::u3).map V.str |>.drop 1))):=(Zr.refl b H8).mK b1
  generalize upd H8 x3 (.lst ((h3::u3).map V.str |>.drop 1))=X3 at az cy a0 ⊢
  have sf:u3.length<=12:=by simp at c0;omega
  refine ZX (zA:=qA K x3) u3.length (aj sf D) (λi d y n=>ZJ n b/\Zr b X3 n/\Made b n QS (λt(r:Gr)=>tM (1+W) ps t r) u3 i d/\∃v,y=[v,O (.ref b),O (.ref l1),O (.int (1+W))]) ⟨cy,Zr.refl b _,Made.nil,B,Y⟩ (λi d y n p=>p.2.2.1.len) (λi d y n I p=>Wr (p.2.1 _ _ az bM) I) (λd y n p=>Pc (p.2.1 _ _ az bM)) (λi d y n x' H3 I p yl=>?_) (λd y dn p lg cc=>?_)
  .obtain⟨bx,sm,md,v,rfl⟩:=p;obtain⟨rfl,rfl⟩:=Pd (sm _ _ az bM) I yl;exact⟨_,Y,_,Y,_,Y,_,Y,b,l1,_,(1+W),ps,Y,bx,aj (by have:=(cN u3[i] (au _ (bo I))).2.1;rw[ZF]at this;exact this) D,a6.same (a0.trans sm),gp,b6,b5,λH4 q r B4 S4 hq nq g=>⟨B4,sm.trans S4,md.step S4 nq hq (gE I) g,_,Y⟩⟩
  obtain⟨cj,cG,eb,v,rfl⟩:=p;obtain⟨gs,R3,ee,g3⟩:=eb.done cj cc;have B9:=cj.new (o:=.lst d) cc;have F:Zr b H8 (upd dn lg (.lst d)):=(a0.trans cG).mK cc;generalize upd dn lg (.lst d)=H9 at B9 F R3 ⊢;have er:=es.trans F;have dy:=a6.same F;have z:=F _ _ z aP;have R1:=R1.same F;have R2:=R2.same F;have N1:=N1.same ((aa.trans M).trans F);have N2:=N2.same (M.trans F);have N3:=N3.same F;clear a0 cG az cj cy cT;refine⟨_,Y,_,Y,_,Y,_,Y,_,Y,zl,λpw b4=>?_⟩;have cK:=B9.ne b4;have Bp:=B9.new (o:=.lst [.int (1+W),.ref l1,.ref lr,.ref lw,.ref lg]) b4;have Sp:Zr b H9 (upd H9 pw (.lst [.int (1+W),.ref l1,.ref lr,.ref lw,.ref lg])):=(Zr.refl b H9).mK b4;have ep:upd H9 pw (.lst [.int (1+W),.ref l1,.ref lr,.ref lw,.ref lg]) pw=O (.lst [.int (1+W),.ref l1,.ref lr,.ref lw,.ref lg]):=Zc;generalize upd H9 pw (.lst [.int (1+W),.ref l1,.ref lr,.ref lw,.ref lg])=Hp at Bp Sp ep ⊢;have aM:=Sp _ _ z aP;have qc:∀(x:V)(l:List V),oY (x::l) 0=O x:=λx l=>Zy (xs:=x::l) (j:=0) Y;refine⟨_,Y,rA 0 aM Y ⟨a1,_,0,_,Y,Y,jw.of (Sp _ _ N1.2.1 N1.1),qc _ _,rA 1 aM Y ⟨a2,_,0,_,Y,Y,jw.of (Sp _ _ N2.2.1 N2.1),qc _ _,rA 2 aM Y ⟨a3,_,0,_,Y,Y,jw.of (Sp _ _ N3.2.1 N3.1),qc _ _,zl,λai ab=>?_⟩⟩⟩⟩;have dx:=Bp.ne ab;refine⟨zl,λqq ak=>?_⟩;have Bs:=Bp.new (o:=.lst [.str s0,.str h1,.str h2,.str h3]) ab;have Ss:Zr b Hp (upd Hp ai (.lst [.str s0,.str h1,.str h2,.str h3])):=(Zr.refl b Hp).mK ab;have Sq:=(Sp.trans Ss).mK (o:=.lst [.ref pw,.ref ai]) ak;have dO:(upd (upd Hp ai (.lst [.str s0,.str h1,.str h2,.str h3])) qq (.lst [.ref pw,.ref ai])) ai=O (.lst [.str s0,.str h1,.str h2,.str h3]):=by rw[Zk (Zp Zc ak)];exact Zc
  have cS:∀{zv:Type}{f:zv->U}{rs:List zv}{u:List U},rs.length=u.length->(∀(j:Nat)r t,rs[j]?=O r->u[j]?=O t->f r=t)->rs.map f=u:=λ{zv f rs u}hl hf=>by apply List.ext_getElem (by simp[hl]);intro i h1 h2;simp only[List.getElem_map];exact hf i _ _ (gE (by simpa using h1)) (gE h2)
  have f1:rs.map (·.nm)=u1:=cS cR λj r t a c=>(g1 j r t a c).1;have f2:ws.map (·.nm)=u2:=cS cP λj r t a c=>(g2 j r t a c).1;have all:∀{zv:Type}{rs:List zv}{u:List U}{zr:zv->Prop},rs.length=u.length->(∀(j:Nat)r t,rs[j]?=O r->u[j]?=O t->zr r)->∀r∈rs,zr r:=λ{zv rs u zr}hl hf r hr=>by
   obtain⟨j,hj⟩:=cD.mp hr;have:j<u.length:=by rw[<-hl];exact(aU.mp hj).1
   exact hf j r _ hj (gE this)
  refine k _ qq pw ai l1 lr lw lg ⟨(1+W),ps,rs,ws,gs⟩ u3 s0 h1 h2 h3 (Bs.new ak) (er.trans Sq) (Bs.ne ak) Zc dx dO ⟨cK,?_,dy.same Sq,R1.same Sq,R2.same Sq,R3.same Sq⟩ ?_ ?_
  .exact((Zr.refl b Hp).mK ab).mK ak _ _ ep cK
  .exact⟨b6,b5,gp,all cR λj r t a c=>(g1 j r t a c).2,all cP λj r t a c=>(g2 j r t a c).2,ee,λi c g h1 h2=>g3 i g c h2 h1⟩
  .refine⟨⟨d0,dV⟩,?_,?_,pM.of c0 d4 cN⟩
   .show pM (rs.map (·.nm)) h1;rw[f1];exact pM.of c5 ea d2
   .show pM (ws.map (·.nm)) h2;rw[f2];exact pM.of c4 d5 d1
end
end WD
namespace L2
open PySem PySem.W PySem.Spec PyProof.Rows
section
variable {X:Cx}
def yf(d:Bool)(K:af):R2:=λx y H Q=>∃a b c,x=.ref a/\y=.ref b/\jw K H a c/\H b=O (.lst [])/\Q (.bl (if d then !decide (c=[])else decide (c=[]))) H
def PL(T:X.A.units+64<iE):oZ X (cF .Eq) (yf false X.K):=by
 intro c s l H x y v u Q I F E h;obtain⟨a,b,C,rfl,rfl,M,L,q⟩:=h;cases F;cases E;obtain⟨i,n,p1,_⟩:=I.list M;obtain⟨_,t,P,g,_,N⟩:=I.qH L;have f:=g.zero;subst f;have o:s.heap.IsList b #[]:=⟨_,N,Y,_,Y⟩;have p:=n.length;by_cases d:C=[]
 .subst d;have r:=n.zero;subst r;refine SeqAt.RcAt.lists (A:=X.A) (s:=s) (e:=λ_=>true) p1.isList o Y zD (λj r f=>by simp at f) X.prog X.w X.xe (EP X c l Q) ⟨.bl true,H,I,Y,?_⟩;simpa using q
 .refine SeqAt.RcAt.lists_lengths (A:=X.A) (s:=s) p1.isList o ?_ zD X.prog X.w X.xe (EP X c l Q) ⟨.bl false,H,I,Y,?_⟩
  .have:i.length≠0:=by rw[<-p];intro z;exact d (List.length_eq_zero_iff.mp z)
   simpa using λz=>d (by subst z;simpa using p)
  .simpa[d]using q
end
end L2
namespace L2
open PySem PySem.Spec PyProof.Rows
section
variable {X:Cx}
def z7:R2:=λx y H Q=>∃d e,Is H x d/\Is H y e/\fM d=true/\fM e=true/\Q (.bl (km d e)) H
def BY(l:X.A.units+64<iE):oZ X (cF .Eq) z7:=by intro a s p H x y v u Q I g f h;obtain⟨d,e,o,n,c,b,q⟩:=h;obtain⟨r,j⟩:=o.reads I.lI g;obtain⟨bs,i⟩:=n.reads I.lI f;exact SeqAt.compareEq_shaped j i c b l ⟨.bl _,H,I,Y,q⟩
def zZ:R2:=λx y H Q=>∃d e,Is H x d/\Is H y e/\fM d=true/\fM e=true/\Q (.bl (!PyData.eqv d e)) H
def WU(l:X.A.units+64<iE):oZ X (cF .NotEq) zZ:=by intro a s p H x y v u Q I g f h;obtain⟨d,e,o,n,c,b,q⟩:=h;obtain⟨r,j⟩:=o.reads I.lI g;obtain⟨bs,i⟩:=n.reads I.lI f;exact SeqAt.compareNe_shaped j i c b l ⟨.bl _,H,I,Y,q⟩
end
end L2
namespace WD
open PySem L2 PySem.Spec PyProof.Rows TB
theorem HC{j:Nat}(d:j=1\/j=2\/j=3\/j=4){n:Int}{a:List V}{b:List (Option (List V))}(h:a.length=b.length):o8 j c n a b=Xs j c n 0 0 [] (a.zip b):=rfl
def VB(b:Kv)(a:List (List V)):Prop:=∀p∈a,j2 b (.inr (Zl p))=O (at_ p 1)
structure mj(k1:Kv)(t1:List (List V)):Prop where
 has:VB k1 t1
 no:∀z,z∉t1.map Zl->j2 k1 (.inr z)=B
def YI(y:V):Prop:=y=.non\/(∃i,y=.int i)\/∃z,y=.str z/\z.length<=1000
structure qt(j:Nat)(n:Int)(t1:List (List V))(ys:List V):Prop where
 len:ys.length=rM j
 nm:ZM (gJ j) (at_ ys 0)=true
 why:∀k1,(j≠1->VB k1 t1)->∀pp,(j=4->pp+ZH ys<=300)->qU j k1 n pp ys=.non
 ma:j=4->0<=ZH ys
 flat:∀y∈ys,YI y
structure ou(j:Nat)(n:Int)(t1 t:List (List V)):Prop where
 nd:(t.map Zl).Nodup
 row:∀ys∈t,qt j n t1 ys
 sum:j=4->(t.map ZH).sum<=300
def Ca  (h:ZM g v=true):∃z,v=.str z:=by unfold ZM at h;split at h<;>(unfold K1.Gx at h;cases v<;>first|exact⟨_,Y⟩|(exfalso;simp at h))
def qt.name{j:Nat}{n:Int}{b:List (List V)}{a:List V}(h:qt j n b a):a.getD 0 .non=.str (Zl a):=by obtain⟨z,e⟩:=Ca h.nm;have c:a.getD 0 .non=.str z:=e;unfold Zl;rw[c]
theorem Ez:∀{l:List Int},(∀x∈l,0<=x)->0<=l.sum
|[],_=>by simp
|x::l,h=>by rw[dM];have:=h x ax;have:=Ez (l:=l) λy a=>h y (au _ a);omega
def LH{j:Nat}{n:Int}(hk:j≠1->VB k1 H){rest:List (V×Option (List V))}:∀(t:List (List V))(f:List V)(i:Nat)(d:Int)(c:Kv),f.length=t.length->(t.map Zl).Nodup->(∀o∈t,qt j n H o)->(j=4->d+(t.map ZH).sum<=300)->(∀o∈t,j2 c (.inr (Zl o))=B) ->∃a,Xs j k1 n i d c (f.zip (t.map O)++rest)=Xs j k1 n (i+t.length) (d+(t.map ZH).sum) a rest/\(∀z,z∉t.map Zl->j2 a (.inr z)=j2 c (.inr z))/\(j=1->VB a t)/\(∀o∈t,j2 a (.inr (Zl o))≠B)/\(j≠1->∀(m:Nat)y x,t[m]?=O y->f[m]?=O x->j2 a (.inr (Zl y))=O x):=by
 intro t;induction t with
|nil=>
  intro f i d c w _ _ _ _;cases f with
 |nil=>exact⟨c,zE,λ_ _=>rfl,λ_ p hp=>(by cases hp),λp hp=>(by cases hp),λ_ m y x h=>by simp at h⟩
 |cons _ _=>cases w
|cons y t ih=>
  intro f i d c w u M hs N;cases f with
 |nil=>cases w
 |cons x f=>
  have s:=M y ax;have X:=N y ax;have b:pW (gJ j) (rM j) c (O y)=.non:=by show qK _ _ _ _=_;unfold qK;rw[zG (λz=>z s.len),show ZM (gJ j) (y.getD 0 .non)=true from s.nm,zG D,s.name];rw[show Yk (.str (Zl y)) c=false from by show(j2 c _).isSome=false;rw[X];rfl,zG D]
  rw[aH,d9]at u;have L:∀o∈t,qt j n H o:=λq g=>M q (au _ g);have r:j=4->d+ZH y+(t.map ZH).sum<=300:=λe=>by have:=hs e;rw[aH,dM]at this;omega
  have hy:j=4->d+ZH y<=300:=λe=>by
   have:=r e;have:=Ez (l:=t.map ZH) λx hx=>by obtain⟨q,g,rfl⟩:=aG.mp hx;exact(L q g).ma e
   omega
  have hw:qU j k1 n d y=.non:=s.why k1 hk d hy;have Q:∀q∈t,Zl q≠Zl y:=λq g e=>u.1 (e▸aG.mpr ⟨q,g,Y⟩);obtain⟨a,e1,P,e3,e4,e5⟩:=ih f (i+1) (d+ZH y) (Yb c (.inr (Zl y)) (if j=1 then at_ y 1 else x)) (by simpa using w) u.2 L r (λq g=>by rw[VD,zG (λe=>Q q g (by injection e))];exact N q (au _ g));have F:j2 a (.inr (Zl y))=O (if j=1 then at_ y 1 else x):=by rw[P _ u.1,VD,zH Y]
  refine⟨a,?_,λz A=>?_,λe p hp=>?_,λp hp=>?_,λI m T W E C=>?_⟩
  .rw[aH,ij,da,P6 (by rw[NX b];exact hw),e1,aH,dM,aB];congr 1<;>omega
  .rw[aH,ay,not_or]at A;rw[P z A.2,VD,zG (λe=>A.1 (by injection e))]
  .rcases ay.mp hp with rfl|hp
   .rw[F,zH e]
   .exact e3 e p hp
  .rcases ay.mp hp with rfl|hp
   .rw[F];exact λz=>by cases z
   .exact e4 p hp
  .cases m with
  |zero=>simp at E C;subst E C;rw[F,zG I]
  |succ m=>exact e5 I m T W (by simpa using E) (by simpa using C)
def Y3(j:Nat)(n:Int)(a t:List (List V)):Prop:=t.length<=l_ j/\ou j n a t
section
variable {j:Nat}{k1:Kv}{n:Int}{t1:List (List V)}
def Xn(i:j=1\/j=2\/j=3\/j=4)(hk:j≠1->VB k1 t1)(h:Y3 j n t1 t){xs:List V}(d:xs.length=t.length):∃a,ZR (l_ j) (o8 j k1 n) (O (xs,t.map O))=.inr a/\(j=1->mj a t)/\(∀z,z∉t.map Zl->j2 a (.inr z)=B)/\(j≠1->∀(m:Nat)y x,t[m]?=O y->xs[m]?=O x->j2 a (.inr (Zl y))=O x):=by obtain⟨p,g,row,c⟩:=h;obtain⟨a,e,f,o,_,l⟩:=LH (k1:=k1) (n:=n) hk (rest:=[]) t xs 0 0 [] d g row (λe=>by have:=c e;omega) (λ_ _=>rfl);refine⟨a,?_,λe=>⟨o e,λz b=>f z b⟩,λz b=>f z b,l⟩;unfold ZR;simp only;rw[zG zD,HC i (by rw[d,lm])];rw[bj]at e;rw[e];rfl
def Fu(o:j=1\/j=2\/j=3\/j=4)(hk:j≠1->VB k1 t1){pre:List (List V)}{post:List (Option (List V))}{xs:List V}{why:V}(h:(pre.map Zl).Nodup)(row:∀b∈pre,qt j n t1 b)(g:j=4->(pre.map ZH).sum<=300)(w:xs.length=pre.length+(1+post.length))(x:xs.length<=l_ j)(l:why≠.non)(p:∀a,(∀z,z∉pre.map Zl->j2 a (.inr z)=B)->(∀b∈pre,j2 a (.inr (Zl b))≠B)->oq j k1 n (pre.map ZH).sum a r=why):ZR (l_ j) (o8 j k1 n) (O (xs,pre.map O++r::post))=.inl (.int pre.length,why):=by
 have d:(xs.take pre.length).length=pre.length:=by rw[aY];omega
 have c:(xs.drop pre.length).length=1+post.length:=by rw[cL];omega
 obtain⟨y,b,s⟩:∃y b,xs.drop pre.length=y::b:=by
  cases e:xs.drop pre.length with
 |nil=>rw[e]at c;simp at c;omega
 |cons y b=>exact⟨y,b,Y⟩
 obtain⟨a,e,u,_,t,_⟩:=LH (k1:=k1) (n:=n) hk (rest:=(y,r)::b.zip post) pre (xs.take pre.length) 0 0 [] d h row (λe=>by have:=g e;omega) (λ_ _=>rfl);have f:=p a (λz i=>u z i) t;unfold ZR;simp only;rw[zG zD,HC o (by simp;omega)];have q:xs.zip (pre.map O++r::post)=(xs.take pre.length).zip (pre.map O)++(y,r)::b.zip post:=by rw[<-ij,<-s,<-List.zip_append (by rw[d,lm]),fC]
 rw[q,e,RH (by rw[jj,f];exact l)];rw[jj,f,jh]
end
structure Tb where
 n:Int
 t1:List (List V)
 t2:List (List V)
 t3:List (List V)
 t4:List (List V)
noncomputable def Tb.part(T:Tb):Nat->List (List V)
|1=>T.t1|2=>T.t2|3=>T.t3|_=>T.t4
structure ow(T:Tb):Prop where
 n0:1<=T.n
 n1:T.n<=50
 part:∀j,j=1\/j=2\/j=3\/j=4->Y3 j T.n T.t1 (T.part j)
noncomputable def oz(a:List V)(t:List (List V)):PR:=O (a,t.map O)
structure tH(k:Kv)(t:List (List V))(xs:List V):Prop where
 at_:∀(m:Nat)y x,t[m]?=O y->xs[m]?=O x->j2 k (.inr (Zl y))=O x
 no:∀z,z∉t.map Zl->j2 k (.inr z)=B
structure vC(T:Tb)(x2 x3 x4:List V)(k:Ks):Prop where
 p:mj k.1 T.t1
 r:tH k.2.1 T.t2 x2
 w:tH k.2.2.1 T.t3 x3
 g:tH k.2.2.2 T.t4 x4
def Ew (o:ow T){i f c b:List V}(y:i.length=T.t1.length)(x:f.length=T.t2.length)(w:c.length=T.t3.length)(u:b.length=T.t4.length):∃k,Jm (.int T.n) (oz i T.t1) (oz f T.t2) (oz c T.t3) (oz b T.t4)=.inr k/\vC T f c b k:=by obtain⟨a,E,d,_⟩:=Xn (j:=1) (k1:=[]) (n:=T.n) (t1:=T.t1) (.inl Y) (λh=>zI Y h) (o.part 1 (.inl Y)) y;have g:=d Y;obtain⟨q,C,_,t,I⟩:=Xn (j:=2) (k1:=a) (n:=T.n) (t1:=T.t1) (.inr (.inl Y)) (λ_=>g.has) (o.part 2 (.inr (.inl Y))) x;obtain⟨p,A,_,s,H⟩:=Xn (j:=3) (k1:=a) (n:=T.n) (t1:=T.t1) (.inr (.inr (.inl Y))) (λ_=>g.has) (o.part 3 (.inr (.inr (.inl Y)))) w;obtain⟨l,z,_,r,F⟩:=Xn (j:=4) (k1:=a) (n:=T.n) (t1:=T.t1) (.inr (.inr (.inr Y))) (λ_=>g.has) (o.part 4 (.inr (.inr (.inr Y)))) u;refine⟨(a,q,p,l),?_,g,⟨I D,t⟩,⟨H D,s⟩,⟨F D,r⟩⟩;unfold Jm;simp only[show(decide (1<=T.n)&&decide (T.n<=50))=true from by simp[o.n0,o.n1],if_true];rw[show ZR 14 (o8 1 [] T.n) (oz i T.t1)=.inr a from E];simp only[named];rw[show ZR 80 (o8 2 a T.n) (oz f T.t2)=.inr q from C];simp only[named];rw[show ZR 40 (o8 3 a T.n) (oz c T.t3)=.inr p from A];simp only[named];rw[show ZR 300 (o8 4 a T.n) (oz b T.t4)=.inr l from z]
def Dg  (h:K1.ZD v 1 50=false):Jm v f d c b=.inl (.str "turns",.non,.str "number"):=by
 cases v with
|int n=>have a:(decide (1<=n)&&decide (n<=50))=false:=h;unfold Jm;simp only[a,dm,if_false]
|_=>rfl
end WD
namespace L2
open PySem PySem.Spec PyProof.Rows
structure xK(z TI TO i1 i2:G)(f1 f2:List G):Prop where
 a1:TI≠z
 a2:TO≠z
 a3:TI≠TO
 b1:i1≠z/\i1≠TI/\i1≠TO/\i1≠i2
 b2:i2≠z/\i2≠TI/\i2≠TO
 c1:∀b∈f1,b≠z/\b≠TO/\b≠i2
 c2:∀b∈f2,b≠z/\b≠TO/\b≠i1
section
variable {prog:a9}{w:bg}{A:bU}{E:Z->ao->Prop}{s:ao}{z TI TO i1 i2:G}{f1 f2:List G}{n1 n2 k:Nat}{P1 P2:Nat->Z->Prop}{S1 S2:Nat->bC->Prop}{a b:Z}
def _root_.PySem.Draws.on{it:G}{f:List G}{n:Nat}{P:Nat->Z->Prop}{St:Nat->bC->Prop}(g:Draws prog w A it f n P St){i:Nat}{h d:bC}{c:G}(st:St i h)(hs:gk c h d)(j:∀b∈f,b≠c):St i d:=g.frame i h d st λb l o e=>hs.extBut _ _ (j b l) e
def AF{Q:Z->ao->Prop}(j:Draws prog w A i1 f1 n1 P1 S1)(i:Draws prog w A i2 f2 n2 P2 S2)(F:xK z TI TO i1 i2 f1 f2)(u:jU s.heap z TI TO .none)(X:fj s.heap TI (.ref i1) (.ref i2))(W:fj s.heap TO a b)(k1:k<n1)(k2:k<n2)(s1:S1 k s.heap)(s2:S2 k s.heap)(hQ:∀h N x y,P1 k x->P2 k y->jU h z TI TO (dU s.heap.objs.size)->fj h TO x y->S1 (k+1) h->S2 (k+1) h->fj h s.heap.objs.size x y ->(∀c o,c∉[z,TO,i1,i2]->s.heap.get? c=O o->h.get? c=O o)->Q (.ref s.heap.objs.size) {s with heap:=h,toks:=N}):aI (aZ prog w) A (fX.«zip.__next__» ⟨[.ref z],[]⟩) (λaa s'=>∃v,aa=.done (.ret v)/\Q v s') E s:=by
 show aI _ _ (kR (.ref z) 2 >>= _) _ _ _;refine ae (bG u Y (x:=.bool false) Y ?_);show aI _ _ (kR (.ref z) 3 >>= _) _ _ _;refine ae (bG u Y (x:=.ref TI) Y (ae (eB X Y ?_)));show aI _ _ (bO (.ref z) >>= _) _ _ _;refine ae ?_;unfold bO;refine ae (bG u Y (x:=.none) Y (aE ?_));simp only[if_true];refine ae (lO (ae (bG u Y (x:=.ref TO) Y (ae (fP u zE λha M t=>?_)))));have M:jU ha z TI TO .ellipsis:=M;refine ae ?_;simp only[List.zipIdx_cons,List.zipIdx_nil,iZ,j8];refine ae (ae (lE ?_));show aI _ _ (bE (.ref i1) >>= _) _ _ _;refine ae (j.item k {s with heap:=ha} _ _ k1 (j.on s1 t λb d=>(F.c1 b d).1) λx d N px t1 r=>aE ?_);have ob:fj d TO a b:=r.extBut _ _ F.b1.2.2.1.symm (t.extBut _ _ F.a2 W);refine ae (eB ob Y (ae (kT ob λg P p=>ae (wpAny_letGo (aE ?_)))));have P:fj g TO x b:=P;refine ae (ae (lE ?_));show aI _ _ (bE (.ref i2) >>= _) _ _ _;have t2:S2 k g:=i.on (i.on (i.on s2 t λb d=>(F.c2 b d).1) r λb d=>(F.c2 b d).2.2) p λb d=>(F.c2 b d).2.1;refine ae (i.item k {s with heap:=g,toks:=N} _ _ k2 t2 λy hd T py u2 n=>aE ?_);have od:fj hd TO x b:=n.extBut _ _ F.b2.2.2.symm P;refine ae (eB od Y (ae (kT od λf H l=>ae (wpAny_letGo (aE (aE ?_))))));have H:fj f TO x y:=H;refine ae (eB H Y (ae (wpAny_newTuple ?_)));have sz:f.objs.size=s.heap.objs.size:=by rw[l.1,n.1,p.1,r.1,t.1]
 have ze:jU f z TI TO .ellipsis:=l.extBut _ _ F.a2.symm (n.extBut _ _ F.b2.1.symm (p.extBut _ _ F.a2.symm (r.extBut _ _ F.b1.1.symm M)));have ke:∀c o,c∉[z,TO,i1,i2]->s.heap.get? c=O o->f.get? c=O o:=λc o g e=>by simp only[ay,a8,or_false,not_or]at g;exact l.extBut _ _ g.2.1 (n.extBut _ _ g.2.2.2 (p.extBut _ _ g.2.1 (r.extBut _ _ g.2.2.1 (t.extBut _ _ g.1 e))))
 have v1:S1 (k+1) f:=j.on (j.on (j.on t1 p λb d=>(F.c1 b d).2.1) n λb d=>(F.c1 b d).2.2) l λb d=>(F.c1 b d).2.1;have v2:S2 (k+1) f:=i.on u2 l λb d=>(F.c2 b d).2.1;have lz:z<f.objs.size:=aK ze;show aI _ _ (jq (.ref z) (.ref f.objs.size) >>= _) _ _ _;refine ae ?_;unfold jq;refine ae (fP (show jU (f.push {cls:=.type "tuple",data:=.seq #[x,y]}) z TI TO .ellipsis from av _ ze) zE λhg L sg=>?_);have L:jU hg z TI TO (dU f.objs.size):=L;refine fP L zE λI C sh=>?_;have C:jU I z TI TO (dU f.objs.size):=C;have up:∀c o,c≠z->f.get? c=O o->I.get? c=O o:=λc o c1 e=>sh.extBut _ _ c1 (sg.extBut _ _ c1 (av _ e));have pT:fj I f.objs.size x y:=sh.extBut _ _ (df lz) (sg.extBut _ _ (df lz) (aR _ Y));rw[sz]at C pT;refine aE ⟨_,Y,?_⟩;show Q (.ref f.objs.size) _;rw[sz];exact hQ I T x y px py C (up _ _ F.a2 H) (j.frame _ _ _ v1 λb d o e=>up b o (F.c1 b d).1 e) (i.frame _ _ _ v2 λb d o e=>up b o (F.c2 b d).1 e) pT λc o g e=>up c o (λq=>g (by simp[q])) (ke c o g e)
def IK{Q:Fin->ao->Prop}(y:Draws prog w A i1 f1 n1 P1 S1)(u:Draws prog w A i2 f2 n2 P2 S2)(F:xK z TI TO i1 i2 f1 f2)(n:jU s.heap z TI TO .none)(P:fj s.heap TI (.ref i1) (.ref i2))(N:fj s.heap TO a b)(s1:S1 k s.heap)(s2:S2 k s.heap)(p:k=n1\/(k<n1/\k=n2))(hE:∀M e C,(∀c o,c∉[z,TO,i1,i2]->s.heap.get? c=O o->M.get? c=O o)->(∃o,M.get? e=O o/\o.cls=.type "StopIteration")->E (.ref e) {s with heap:=M,toks:=C}):aI (aZ prog w) A (fX.«zip.__next__» ⟨[.ref z],[]⟩) Q E s:=by
 show aI _ _ (kR (.ref z) 2 >>= _) _ _ _;refine ae (bG n Y (x:=.bool false) Y ?_);show aI _ _ (kR (.ref z) 3 >>= _) _ _ _;refine ae (bG n Y (x:=.ref TI) Y (ae (eB P Y ?_)));show aI _ _ (bO (.ref z) >>= _) _ _ _;refine ae ?_;unfold bO;refine ae (bG n Y (x:=.none) Y (aE ?_));simp only[if_true];refine ae (lO (ae (bG n Y (x:=.ref TO) Y (ae (fP n zE λL r l=>?_)))));have r:jU L z TI TO .ellipsis:=r;refine ae ?_;simp only[List.zipIdx_cons,List.zipIdx_nil,iZ,j8];refine ae (ae (lE ?_));show aI _ _ (bE (.ref i1) >>= _) _ _ _;rcases p with rfl|⟨k1,rfl⟩
 .refine ae (y.done {s with heap:=L} _ _ (y.on s1 l λb f=>(F.c1 b f).1) λf e h I=>?_);obtain⟨H,d,g⟩:=I;have W:jU f z TI TO .ellipsis:=h _ _ F.b1.1.symm r;have i:e≠z:=λq=>by subst q;rw[W]at d;cases d;simp at g
  refine fP W zE λt _ j=>hE t e _ (λc o q x=>?_) ⟨H,j.extBut _ _ i d,g⟩;simp only[ay,a8,or_false,not_or]at q;exact j.extBut _ _ q.1 (h _ _ q.2.2.1 (l.extBut _ _ q.1 x))
 .refine ae (y.item k {s with heap:=L} _ _ k1 (y.on s1 l λb f=>(F.c1 b f).1) λx f C px t1 h=>aE ?_);have ob:fj f TO a b:=h.extBut _ _ F.b1.2.2.1.symm (l.extBut _ _ F.a2 N);refine ae (eB ob Y (ae (kT ob λt oc j=>ae (wpAny_letGo (aE ?_)))));refine ae (ae (lE ?_));show aI _ _ (bE (.ref i2) >>= _) _ _ _;have t2:S2 k t:=u.on (u.on (u.on s2 l λb f=>(F.c2 b f).1) h λb f=>(F.c2 b f).2.2) j λb f=>(F.c2 b f).2.1;refine ae (u.done {s with heap:=t,toks:=C} _ _ t2 λhd e sd I=>?_);obtain⟨H,d,g⟩:=I;have T:jU hd z TI TO .ellipsis:=sd _ _ F.b2.1.symm (j.extBut _ _ F.a2.symm (h.extBut _ _ F.b1.1.symm r));have i:e≠z:=λq=>by subst q;rw[T]at d;cases d;simp at g
  refine fP T zE λhf _ X=>hE hf e _ (λc o q x=>?_) ⟨H,X.extBut _ _ i d,g⟩;simp only[ay,a8,or_false,not_or]at q;exact X.extBut _ _ q.1 (sd _ _ q.2.2.2 (j.extBut _ _ q.2.1 (h.extBut _ _ q.2.2.1 (l.extBut _ _ q.1 x))))
end
end L2
namespace L2
open PySem PySem.W PySem.Spec PyProof.Rows
noncomputable def yS(g f:Hp->List V->Prop):It:=⟨λi H=>∃d c,g H d/\f H c/\i<d.length/\i<c.length,λi H x h=>∃(T:G)(a b:V),H T=B/\(∀d,g H d->d[i]?=O a)/\(∀c,f H c->c[i]?=O b)/\x=.ref T/\h=upd H T (.tup [a,b]),λi H=>∃d c,g H d/\f H c/\i=min d.length c.length⟩
def ZSt(z TI TO d c:G)(g f:Nat->bC->Prop)(i:Nat)(h:bC):Prop:=jU h z TI TO .none/\fj h TI (.ref d) (.ref c)/\(∃a b,fj h TO a b)/\g i h/\f i h
section
variable {P:a9}{w:bg}{K:af}{es:List bV}{k:Nat}{pt:iG}{z TI TO i1 i2:G}{f1 f2:List G}{S1 S2:Nat->bC->Prop}{G1 G2:Hp->List V->Prop}
def Es(N:sD P w K i1 f1 S1 G1)(M:sD P w K i2 f2 S2 G2)(j:xK z TI TO i1 i2 f1 f2):Turn P w K (.Tuple es k pt) (yS G1 G2) [z,TI,TO,i1,i2] z (ZSt z TI TO i1 i2 S1 S2) where
 mem:=by simp
 obj:=λi h st b hb=>by
  obtain⟨f,l,⟨a,c,r⟩,p,q5⟩:=st
  have aa:b=z\/b=TI\/b=TO\/b=i1\/b=i2:=by simpa using hb
  rcases aa with rfl|rfl|rfl|rfl|rfl
  .exact⟨_,f,λv e=>by cases e⟩
  .exact⟨_,l,λv e=>by cases e⟩
  .exact⟨_,r,λv e=>by cases e⟩
  .exact N.obj _ _ p
  .exact M.obj _ _ q5
 keep:=λi h h' st g=>by
  obtain⟨f,l,⟨a,c,r⟩,p,q5⟩:=st
  exact⟨g z zE _ f,g TI zE _ l,⟨a,c,g TO zE _ r⟩,N.keep _ _ _ p λo e=>g i1 zE _ e,M.keep _ _ _ q5 λo e=>g i2 zE _ e⟩
 item:=by
  intro X C t hK hc i d s W H E I hf st hg
  obtain⟨xs,ys,hx,hy,l1,l2⟩:=hg
  obtain⟨f,l,⟨a0,b0,r⟩,p,q5⟩:=st
  obtain⟨u1,P1,T1,D1,a1,a2,a3⟩:=N.dr X C t hK hc d s W H I xs hx
  obtain⟨u2,P2,T2,D2,b1,b2,b3⟩:=M.dr X C t hK hc d s W H I ys hy
  subst C t
  have hT:s.TypeIs (.ref z) "zip":=⟨_,f,Y⟩
  unfold jQ
  refine ae (gP (dC (name:=bh "__next__") hT F.slot_zip_next (eS F.slot_zip_next hT F.entry_zip_next (AF D1 D2 j f l r l1 l2 (a1 _ p) (b1 _ q5) λh' tk x y px py m1 m2 m3 m4 m5 g=>aE ⟨_,Y,?_⟩) (F.args_zip_next_1 _))))
  have lt:∀{c o},s.heap.get? c=O o->s.heap.objs.size≠c:=λe=>df (aK e)
  have g1:s.heap.objs.size≠i1:=by obtain⟨_,e,_⟩:=N.obj _ _ p;exact lt e
  have g2:s.heap.objs.size≠i2:=by obtain⟨_,e,_⟩:=M.obj _ _ q5;exact lt e
  have ab:s.heap.objs.size∉[z,TI,TO,i1,i2]:=by simp[lt f,lt l,lt r,g1,g2]
  refine wpAny_letOwnedTupleGo_zip m1 λh2 z2 L=>?_
  have kz:∀c o,c∉[z,TI,TO,i1,i2]->s.heap.get? c=O o->h2.get? c=O o:=λc o u e=>by
   simp only[ay,a8,or_false,not_or]at u
   exact L.extBut _ _ u.1 (g c o (by simp[u]) e)
  have kt:fj h' TI (.ref i1) (.ref i2):=g _ _ (by simp[j.a1,j.a3,j.b1.2.1.symm,j.b2.2.1.symm]) l
  refine⟨.ref s.heap.objs.size,_,I.υ (xs:=[xs[i],ys[i]]) hf kz (aq _) (.cons (a3 _ _ _ px (gE l1)) (.cons (b3 _ _ _ py (gE l2)) .nil)) ⟨_,L.extBut _ _ (lt f) m5,Y,_,Y⟩ zl,Y,⟨_,_,_,I.lI.fresh (aq _),λzs h=>by rw[u1 zs h];exact gE l1,λzs h=>by rw[u2 zs h];exact gE l2,Y,Y⟩,⟨z2,L.extBut _ _ j.a1 kt,⟨_,_,L.extBut _ _ j.a2 m2⟩,N.keep _ _ _ (a2 _ _ m3) λo e=>L.extBut _ _ j.b1.1 e,M.keep _ _ _ (b2 _ _ m4) λo e=>L.extBut _ _ j.b2.1 e⟩,λc n=>?_⟩
  rw[Zk (λq=>ab (by rw[<-q];exact n))]
  exact(hf c n).1
 done:=by
  intro X C t hK hc i d s W H E I hf st hg
  obtain⟨xs,ys,hx,hy,hi⟩:=hg
  obtain⟨f,l,⟨a0,b0,r⟩,p,q5⟩:=st
  obtain⟨u1,P1,T1,D1,a1,_⟩:=N.dr X C t hK hc d s W H I xs hx
  obtain⟨u2,P2,T2,D2,b1,_⟩:=M.dr X C t hK hc d s W H I ys hy
  subst C t
  have hT:s.TypeIs (.ref z) "zip":=⟨_,f,Y⟩
  unfold jQ
  refine ae (gP (dC (name:=bh "__next__") hT F.slot_zip_next (eS F.slot_zip_next hT F.entry_zip_next (IK D1 D2 j f l r (a1 _ p) (b1 _ q5) zD λh' e tk g ee=>?_) (F.args_zip_next_1 _))))
  obtain⟨o,ho,n⟩:=ee
  refine ae (jY (T:="StopIteration") (b:=true) ⟨o,ho,n⟩ isSubtype_stop (aE ⟨Y,I.mv hf λc o u e=>g c o ?_ e⟩))
  simp only[ay,a8,or_false,not_or]at u ⊢
  exact⟨u.1,u.2.2⟩
 self:=λA i s Q E st h=>wpAny_pyIter_zip st.1 h
end
end L2
namespace L2
open PySem PySem.Spec PyProof.Rows
def vF(u:Z)(o:eN)(h:bC):Prop:=∀{a:a9}{w:bg}{A:bU}{E:Z->ao->Prop}{s:ao}{Q:Z->ao->Prop},(∀b x,h.get? b=O x->s.heap.get? b=O x)->Q (.ref s.heap.objs.size) {s with heap:=s.heap.push o}->aI (aZ a w) A (pyIter u) Q E s
noncomputable def zq(h:bC)(a b:eN):bC:=(((h.push a).push b).push {cls:=.type "tuple",data:=.seq #[.ref h.objs.size,.ref (h.push a).objs.size]}).push {cls:=.type "tuple",data:=.seq #[.none,.none]}
noncomputable def zp(h:bC)(a b:eN):bC:=(zq h a b).push {cls:=.type "zip",data:=.fields #[.none,.bool false,.bool false,.ref ((h.push a).push b).objs.size,.ref (((h.push a).push b).push {cls:=.type "tuple",data:=.seq #[.ref h.objs.size,.ref (h.push a).objs.size]}).objs.size]}
def Ek(j u2:Z)(b i:eN):Meets (fX.«zip.__new__» ⟨[.type "zip",j,u2],[]⟩) (λ_ l s=>vF j b s.heap/\vF u2 i s.heap/\l (.ok (.ret (.ref (zq s.heap b i).objs.size))) {s with heap:=zp s.heap b i}):=.of_wp λa w A l s h=>by obtain⟨c,g,d,f,os⟩:=s;obtain⟨t,r,h⟩:=h;have n:=sub_zip;have p:∀{A:bU}{E:Z->ao->Prop}{Q:Z->ao->Prop},Q (.ref c.objs.size) ⟨c.push b,g,d,f,os⟩->aI (aZ a w) A (pyIter j) Q E ⟨c,g,d,f,os⟩:=λq=>t (λ_ _ e=>e) q;have o:∀{A:bU}{E:Z->ao->Prop}{Q:Z->ao->Prop},Q (.ref (c.push b).objs.size) ⟨(c.push b).push i,g,d,f,os⟩->aI (aZ a w) A (pyIter u2) Q E ⟨c.push b,g,d,f,os⟩:=λq=>r (λ_ _ e=>av _ e) q;wp_walk using p,o;exact⟨_,Y,h⟩
def Eh    {s:ao} {Q:Z->ao->Prop}(y:vF j d s.heap)(u:vF u2 f s.heap)(t:d.isFreed=false)(r:f.isFreed=false)(h:∀g,jU g (s.heap.objs.size+4) (s.heap.objs.size+2) (s.heap.objs.size+3) .none->fj g (s.heap.objs.size+2) (.ref s.heap.objs.size) (.ref (s.heap.objs.size+1))->(∃a b,fj g (s.heap.objs.size+3) a b)->g.get? s.heap.objs.size=O d->g.get? (s.heap.objs.size+1)=O f ->(∀c o,s.heap.get? c=O o->g.get? c=O o)->Q (.ref (s.heap.objs.size+4)) {s with heap:=g}):aI (aZ q w) A (call (.type "zip") [j,u2]) Q E s:=by refine callType_new F.called_zip D (F.typeCall_zip_2 _ _) (F.newCall_zip_2 _ _) (λobj=>F.args_object_init_3 obj _ _) F.entry_zip_new (Ek j u2 d f) ⟨y,u,?_⟩;have up:∀{h:bC}{x:eN}{c o},h.get? c=O o->(h.push x).get? c=O o:=λe=>av _ e;have i:(zp s.heap d f).get? (zq s.heap d f).objs.size=O _:=aR _ Y;have l:(zp s.heap d f).get? _=O _:=up (aR (((s.heap.push d).push f).push {cls:=.type "tuple",data:=.seq #[.ref s.heap.objs.size,.ref (s.heap.push d).objs.size]}) (o:={cls:=.type "tuple",data:=.seq #[.none,.none]}) Y);have n:(zp s.heap d f).get? _=O _:=up (up (aR ((s.heap.push d).push f) (o:={cls:=.type "tuple",data:=.seq #[.ref s.heap.objs.size,.ref (s.heap.push d).objs.size]}) Y));have p:(zp s.heap d f).get? _=O _:=up (up (up (aR (s.heap.push d) r)));have z:(zp s.heap d f).get? _=O _:=up (up (up (up (aR s.heap t))));have sz:∀(h:bC)x,(h.push x).objs.size=h.objs.size+1:=λ_ _=>fZ ..;rw[show(zq s.heap d f).objs.size=s.heap.objs.size+4 by unfold zq;rw[sz,sz,sz,sz]]at i ⊢;simp only[sz]at p n l i;exact⟨⟨_,i,Y⟩,h _ i n ⟨_,_,l⟩ z p λc o e=>up (up (up (up (up e))))⟩
inductive Zs(K:af)(H:Hp):V->(Hp->List V->Prop)->Prop
|lst {l:G}{xs:List V} (e:H l=O (.lst xs)):Zs K H (.ref l) λH xs=>H l=O (.lst xs)
|tup {l:G}{xs:List V} (e:lR K H l xs):Zs K H (.ref l) λH xs=>lR K H l xs
|str (x:U):Zs K H (.str x) λ_ xs=>xs=rj x
section
variable {X:Cx}{pins:List (G×eN)}{σ:List (Option V)}{H:Hp}{s:ao}
def Zs.src   (h:Zs X.K H v y)(I:Inv X pins σ H s)(r:RelV v u):∃(o:eN)(f:List G)(n:G->Nat->bC->Prop),o.isFreed=false/\vF u o s.heap/\(∀b∈f,b<s.heap.objs.size) /\∀it,s.heap.objs.size<=it->sD X.prog X.w X.K it (it::f) (n it) y/\∀d,d.get? it=O o->n it 0 d:=by
 have p:∀{l o},s.heap.get? l=O o->(∀b∈[l],b<s.heap.objs.size)/\∀it,s.heap.objs.size<=it->l≠it:=λe=>⟨λb A=>by rw[aL.mp A];exact aK e,λit c=>bc (aX (aK e) c)⟩;cases h with
|lst e=>cases r;obtain⟨j,_,z,_⟩:=I.list (jw.of e);obtain⟨o,a,r⟩:=z.isList;obtain⟨i,g⟩:=p a;exact⟨_,_,_,Y,λk q=>gR ⟨o,k _ _ a,r⟩ q,i,λit c=>⟨SD (g it c),λd e=>⟨_,e,Y,Y⟩⟩⟩
|tup e=>cases r;obtain⟨j,_,⟨o,a,r⟩,_⟩:=I.tuple e;obtain⟨i,g⟩:=p a;exact⟨_,_,_,Y,λk q=>iB ⟨o,k _ _ a,r⟩ q,i,λit c=>⟨SA (λ_ _ h=>h) (g it c),λd e=>⟨_,e,Y,Y⟩⟩⟩
|str x=>obtain⟨t,rfl⟩:=r;exact⟨_,[],_,Y,λk q=>wpAny_pyIter_strU q,nofun,λit _=>⟨EX x t,λd e=>⟨_,e,Y,Y⟩⟩⟩
def I_(K:af)(i:TA):TI:=λσ H g=>i σ H λh a=>∃c b f d,h=[c,b]/\Zs K a c f/\Zs K a b d/\g (yS f d) a
def Ll{a b:bV}{p f pt:iG}{k:Nat}(hg:Gl X "zip")(hm:X.mg "zip"=B)(ha:PA X [a,b] E)(hs:bf [a,b] X.env=[(false,cM a X.env),(false,cM b X.env)]:=by rfl)(l:bf [b] X.env=[(false,cM b X.env)]:=by rfl):PI X (.Tuple es k pt) (.Call (.Name "zip" p) [a,b] [] f) (I_ X.K E):=by
 intro pins s σ H zv I h;refine Call_ (Vl I hg hm boot_zip (c8 (lY (ha f pins s σ H _ I h) λus t hZ=>?_) (by rw[hs,l]) (by rw[l];rfl)));obtain⟨vs,H1,d,P,v1,v2,G1,G2,e,C,A,q⟩:=hZ;subst e;obtain⟨u,u',rfl,M,y⟩:=vals2 P;obtain⟨o1,f1,S1,T,m1,r,x⟩:=C.src d M;obtain⟨o2,f2,S2,Q,W,o,w⟩:=A.src d y;refine Eh m1 W T Q λh' z b2 b3 b4 b5 kk=>wpAny_pyIter_zip z ?_;obtain⟨x,L⟩:=x _ (aq _);obtain⟨w,F⟩:=w _ (iV _);refine⟨_,_,_,_,H1,Y,d.kept (t':=t.toks) kk,Es x w ?_,⟨z,b2,b3,L _ b4,F _ b5⟩,λb hb=>?_,q⟩
 .generalize t.heap.objs.size=N at r o;have g:∀i j:Nat,i≠j->N+i≠N+j:=λi j h e=>h (Nat.add_left_cancel e);have c:∀(b k:Nat),b<N->b≠N+k:=λb k h=>by omega
  refine⟨g 2 4 D,g 3 4 D,g 2 3 D,⟨g 0 4 D,g 0 2 D,g 0 3 D,g 0 1 D⟩,⟨g 1 4 D,g 1 2 D,g 1 3 D⟩,λb hb=>?_,λb hb=>?_⟩
  .rcases ay.mp hb with rfl|hb
   .exact⟨g 0 4 D,g 0 3 D,g 0 1 D⟩
   .exact⟨c b 4 (r b hb),c b 3 (r b hb),c b 1 (r b hb)⟩
  .rcases ay.mp hb with rfl|hb
   .exact⟨g 1 4 D,g 1 3 D,g 1 0 D⟩
   .exact⟨c b 4 (o b hb),c b 3 (o b hb),c b 0 (o b hb)⟩
 .have n:t.heap.objs.size<=b:=by simp at hb;rcases hb with h|h|h|h|h<;>rw[h]<;>first|exact aq _|exact gU _ _
  exact d.sk n (d.lI.fresh n)
end
def KD(K:af)(w:bg)(a:G):Prop:=∃b n,K.lookup a=O ⟨.type "dict",B,.dict b n,#[]⟩/\iO w.params b.toList/\(a==fK)=false
def Bb(K:af)(w:bg)(td ty:TE):TE:=λb H Q=>td b H λx d=>∃a,x=.ref a/\KD K w a/\ty b d λy c=>∃z r v,y=.str z/\br K a z=O r/\RelV v (r.getD .none)/\Q v c
section
variable {X:Cx}
def Fq{o e:bV}{f d:iG}{td ty:TE}(T:PE X o td)(he:PE X e ty)(m:M1 X o "get" f e d):PE X (.Call (.Attribute o "get" f) [e] [] d) (Bb X.K X.w td ty):=by
 intro c s l H Q I h;refine wpAny_Call_method m.base m.R' m.line PySem.F.plainAttrs_dict gD PySem.F.type_dict_get (lY (T c s l H _ I h) λu C i=>?_);obtain⟨x,H1,j,L,a,ex,⟨es,n,g,hk,hs⟩,P⟩:=i;subst ex;obtain rfl:u=aN a:=L;refine⟨(ll (prog:=X.prog) j.nE g hk).typeIs,λb q=>?_,?_⟩
 .cases q;exact⟨_,j.nE _ _ g,Y⟩
 rw[m.trees];refine ix Y (j6 (ig (lY (he c C l H1 _ j P) λiv s2 i=>?_)));obtain⟨y,H2,A,E,z,r,v,ey,hn,M,N⟩:=i;refine jv ?_;subst ey;obtain⟨t,rfl⟩:=(show ∃t,iv=iH z t from E);have p:=ll (prog:=X.prog) A.nE g hk;refine call_meetsIn gD p.typeIs jE (PySem.F.args_dict_get_2 _ _) (meets_dict_get (PySem.strKind X.prog X.w) a (strKind_is X.prog X.w z t) hs) ⟨_,p,?_⟩;rw[PySem.W.find_K g hn];exact⟨v,H2,A.tok _,M,N⟩
theorem Qx:∀{a:List U}{b:List (U×Tok)},b.map (·.1)=a->Zt (a.map V.str) (strValues b)
|[],[],_=>.nil
|y::a,(z,t)::b,h=>by rw[aH]at h;injection h with d c;subst d;exact .cons ⟨t,Y⟩ (Qx c)
def Jr:yG X "str.split" (λx p H Q=>∃z y,x=.str z/\p=[.str y]/\(y.length==0)=false/\z.length<=sizeLine/\(Txt.split z y).length<=sizeLine/\(d_ z (bR z y 0 z.length (z.length+1)) y.length).length<=sizeLine/\∀l,H l=B->Q (.ref l) (upd H l (.lst ((Txt.split z y).map V.str)))):=by
 intro c s o H x E v L Q I r A h;obtain⟨x,y,rfl,rfl,n,j,C,d,q⟩:=h;obtain⟨t,rfl⟩:=r;obtain⟨u,rfl,g,rfl⟩:=vals1 A;have a:∀(l:List (U×Tok))(i:Nat),l.map (·.1)=Txt.split x y->EP X c o Q (.ref s.heap.objs.size) {s with heap:=s.heap.push {cls:=.type "list",data:=.seq (strValues l).toArray},toks:=i}:=λl i e=>⟨.ref s.heap.objs.size,_,I.laid (t':=i) (λ_ _ z=>av _ z) (aq _) (show ZY X.prog X.w _ _ _ (.lst ((Txt.split x y).map V.str))from⟨by rw[lm];exact C,_,_,Qx e,aR _ Y⟩),Y,q _ (I.lI.fresh (aq _))⟩;cases b:(decide (x.length<y.length)||decide (Builtin.Str.strKind x<Builtin.Str.strKind y))
 .cases f:(bR x y 0 x.length (x.length+1)).isEmpty
  .refine g9 F.slot_str_split (j_ _ _ _) F.entry_str_split (F.args_str_split_2 _ _) (meets_str_split_sep x y t g b n f j d) ?_;show wants _ _ _ {s with toks:=_,heap:=s.heap.push {cls:=.type "list",data:=.seq (strsFrom s.toks (d_ x (bR x y 0 x.length (x.length+1)) y.length)).toArray}};rw[strsFrom_eq];exact a (numbered s.toks _) _ ((numbered_texts _ _).trans ((zG (ne_true_of_eq_false b)).trans (zG (ne_true_of_eq_false f))).symm)
  .exact g9 F.slot_str_split (j_ _ _ _) F.entry_str_split (F.args_str_split_2 _ _) (meets_str_split_not_found x y t g b n f) (a [(x,t)] s.toks ((zG (ne_true_of_eq_false b)).trans (zH f)).symm)
 .exact g9 F.slot_str_split (j_ _ _ _) F.entry_str_split (F.args_str_split_2 _ _) (meets_str_split_cannot_occur x y t g b) (a [(x,t)] s.toks (zH b).symm)
end
end L2
namespace TX
open PySem L2 PySem.Spec PyProof.Rows
noncomputable abbrev cd(z:U):List Nat:=z.cps.toList
def Xa (h:cd x=cd y):x=y:=Str.ext' (Array.toList_inj.mp h)
def ZL(x y:U):cd (x++y)=cd x++cd y:=Array.toList_append ..
noncomputable def ZA(c:Nat):List (List Nat)->List Nat
|[]=>[]
|[x]=>x
|x::y::r=>x++c::ZA c (y::r)
theorem Vq(c:Nat):∀a:List U,cd (Str.join ⟨#[c]⟩ a)=ZA c (a.map cd)
|[]=>rfl
|[x]=>rfl
|x::y::r=>by have b:=Vq c (y::r);show cd (x++⟨#[c]⟩++Str.join ⟨#[c]⟩ (y::r))=_;rw[ZL,ZL,b,bu];rfl
theorem HU{c:Nat}:∀{a b A d:List Nat},c∉a->c∉b->a++c::A=b++c::d->a=b/\A=d
|[],[],A,d,_,_,h=>⟨Y,(jk h).2⟩
|[],y::b,A,d,_,f,h=>zI (jk h).1 λe=>f (by rw[e];exact ax)
|x::a,[],A,d,g,_,h=>zI (jk h).1 λe=>g (by rw[<-e];exact ax)
|x::a,y::b,A,d,g,f,h=>by have e:=jk h;obtain⟨j,i⟩:=HU (λq=>g (au _ q)) (λq=>f (au _ q)) e.2;exact⟨by rw[e.1,j],i⟩
theorem Tw{c:Nat}:∀{g bs:List (List Nat)},g≠[]->bs≠[]->(∀a∈g,c∉a)->(∀b∈bs,c∉b)->ZA c g=ZA c bs->g=bs
|[],_,h,_,_,_,_=>zI Y h
|_::_,[],_,h,_,_,_=>zI Y h
|[x],[y],_,_,_,_,h=>by rw[show x=y from h]
|[x],y::z::r,_,_,f,_,h=>zI (by rw[show x=y++c::ZA c (z::r)from h];simp) (f x ax)
|x::z::r,[y],_,_,_,d,h=>zI (by rw[<-show x++c::ZA c (z::r)=y from h];simp) (d y ax)
|x::j::r,y::i::t,_,_,f,d,h=>by obtain⟨n,l⟩:=HU (f x ax) (d y ax) (show x++c::ZA c (j::r)=y++c::ZA c (i::t)from h);rw[n,Tw zE zE (λa h=>f a (au _ h)) (λb h=>d b (au _ h)) l]
def Xd(x y:U):Txt.split x y≠[]:=λh=>by have:=PyProof.Rows.split_pos x y;rw[h]at this;exact zI this D
def YG{c:Nat}{ls:List U}(f:ls≠[])(g:∀l∈ls,c∉cd l):Txt.split (Txt.join ⟨#[c]⟩ ls) ⟨#[c]⟩=ls:=by
 have e:Str.join ⟨#[c]⟩ (Txt.split (Txt.join ⟨#[c]⟩ ls) ⟨#[c]⟩)=Str.join ⟨#[c]⟩ ls:=by rw[StrLaws.join_split];exact gA _ _
 have h:=zM cd e;rw[Vq,Vq]at h;have q:=Tw (λz=>Xd _ _ (dZ.mp z)) (λz=>f (dZ.mp z)) (λa j=>by
  obtain⟨p,d,rfl⟩:=aG.mp j;exact gc _ c p d) (λb i=>by
  obtain⟨p,d,rfl⟩:=aG.mp i;exact g p d) h;exact(List.map_inj_right (λ_ _=>Xa)).mp q
def Py(x y:U):(d_ x (bR x y 0 x.length (x.length+1)) y.length).length<=x.length+2:=by have a:=StrLaws.occ_length_le x y 0 x.length (x.length+1);rw[length_partsBetween];omega
noncomputable abbrev SP:U:=⟨#[32]⟩
noncomputable abbrev NL:U:=⟨#[10]⟩
def Np:(" ":U)=SP:=by decide +kernel
def Gw:("\n":U)=NL:=by decide +kernel
def GA(c:Nat)(a:List U):(Txt.join ⟨#[c]⟩ a).length<=(a.map (·.length)).sum+a.length:=by have h:=StrLaws.join_length_le ⟨#[c]⟩ a;show(i6 ⟨#[c]⟩ a).length<=_;rw[gA];have e:(⟨#[c]⟩:U).length=1:=rfl;rw[e,Nat.mul_one]at h;exact h
end TX
namespace WD
open PySem L2 PySem.Spec PyProof.Rows TB
noncomputable def dF:V->gu
|.int i=>.int i
|.str z=>.str z
|.bl c=>.bool c
|_=>.none
open PySem L2 PySem.Spec PyProof.Rows TB
def GS(z:U):Prop:=z.length<=12/\∀c∈z.cps.toList,c<0x110000
noncomputable instance (z:U):Decidable (GS z):=by unfold GS;infer_instance
inductive qS:V->Prop
|non:qS .non
|int {i:Int} (h:i.natAbs<=1000):qS (.int i)
|str {z:U} (h:GS z):qS (.str z)
def qS.is  (h:qS v):Is H v (dF v):=by
 cases h with
|non=>exact .non
|int h=>exact .int _
|str h=>exact .str _
theorem QO :∀{a:List V},(∀y∈a,qS y)->nt H a (a.map dF)
|[],_=>.nil
|y::a,h=>.cons (h y ax).is (QO λz b=>h z (au _ b))
def qL(a:List V):Prop:=a.length<=6/\∀y∈a,qS y
noncomputable def oF(a:List V):gu:=.tuple (a.map dF)
noncomputable def wV(n:Int)(d c b a:List (List V)):gu:=.tuple [.int n,.tuple (d.map oF),.tuple (c.map oF),.tuple (b.map oF),.tuple (a.map oF)]
structure Sm(d:gu)(k m:Nat):Prop where
 sh:d.showable=true
 lv:d.leavesShort 13=true
 dp:d.depth<=k
 wt:d.weight<=m
def ω{i:Nat}(h:i<=1000):i.log2<=11:=by
 by_cases e:i=0
 .subst e;decide
 .exact Nat.lt_succ_iff.mp ((Nat.log2_lt e).mpr zD)
def SY{i:Int}(h:i.natAbs<=1000):((kj i).shown).length<=13:=by
 have a:∀n:Nat,n<=1000->((kj n).shown).length<=13/\((kj (-(n:Int))).shown).length<=13:=by intro n b;have:=(by decide +kernel:∀k∈bB 1001,((kj (k:Nat)).shown).length<=13/\((kj (-((k:Nat):Int))).shown).length<=13);exact this n (bW.mpr zD)
 rcases Int.natAbs_eq i with e|e
 .rw[e];exact(a _ h).1
 .rw[e];exact(a _ h).2
def qS.sm (h:qS v):Sm (dF v) 0 12:=by
 cases h with
|non=>exact⟨Y,Y,aq _,bK _⟩
|int h=>
  have:=ω h;refine⟨?_,?_,aq _,?_⟩
  .simp only[dF,lG,decide_eq_true_eq];omega
  .simp only[dF,kC,decide_eq_true_eq];exact SY h
  .simp only[dF,PyData.weight];split<;>omega
|str h=>refine⟨by simp only[dF,lG],?_,aq _,h.1⟩;simp only[dF,kC,bY,decide_eq_true_eq];exact λc a=>aX (h.2 c a) D
structure oC(ds:List gu)(k m:Nat):Prop where
 sh:PyData.showableAll ds=true
 lv:PyData.leavesShortAll 13 ds=true
 dp:PyData.depthAll ds<=k
 wt:PyData.weightAll ds<=ds.length*(m+1)
theorem oC.of{k m:Nat}:∀{ds:List gu},(∀d∈ds,Sm d k m)->oC ds k m
|[],_=>⟨Y,Y,bK _,bK _⟩
|d::ds,h=>by
  have b:=h d ax;have a:=oC.of (ds:=ds) λx c=>h x (au _ c);refine⟨?_,?_,?_,?_⟩
  .simp only[PyData.showableAll,b.sh,a.sh,Bool.and_self]
  .simp only[PyData.leavesShortAll,b.lv,a.lv,Bool.and_self]
  .simp only[PyData.depthAll];have:=b.dp;have:=a.dp;omega
  .simp only[PyData.weightAll,aB,Nat.succ_mul];have:=b.wt;have:=a.wt;omega
def oC.tup{ds:List gu}{k m n:Nat}(h:oC ds k m)(a:ds.length<=n):Sm (.tuple ds) (k+1) (n*(m+1)):=by
 refine⟨?_,?_,?_,?_⟩
 .simp only[lG,h.sh]
 .simp only[kC,h.lv]
 .simp only[PyData.depth];have:=h.dp;omega
 .simp only[PyData.weight];exact aj h.wt (Nat.mul_le_mul_right _ a)
def Sm.mono {k m b a:Nat}(h:Sm d k m)(hk:k<=b)(c:m<=a):Sm d b a:=⟨h.sh,h.lv,aj h.dp hk,aj h.wt c⟩
def BD (h:qL a):Sm (oF a) 1 78:=(oC.of (ds:=a.map dF) (k:=0) (m:=12) λd c=>by obtain⟨y,b,rfl⟩:=aG.mp c;exact(h.2 y b).sm).tup (n:=6) (by rw[lm];exact h.1)
def NK{t:List (List V)}(c:t.length<=300)(h:∀a∈t,qL a):Sm (.tuple (t.map oF)) 2 23700:=(oC.of (ds:=t.map oF) (k:=1) (m:=78) λd f=>by obtain⟨y,b,rfl⟩:=aG.mp f;exact BD (h y b)).tup (n:=300) (by rw[lm];exact c)
theorem Sm.shown {k:Nat}(h:Sm d k 200000):d.shown.length<=sizeLine:=by
 have a:=PyData.shown_le 13 D d h.lv;have:=h.wt;exact aj a (by
  have:(15:Nat)*200000+13<=sizeLine:=by decide
  omega)
structure wA(n:Int)(t1 t2 t3 t4:List (List V)):Prop where
 n0:1<=n/\n<=50
 l1:t1.length<=14
 l2:t2.length<=80
 l3:t3.length<=40
 l4:t4.length<=300
 g1:∀ys∈t1,qL ys
 g2:∀ys∈t2,qL ys
 g3:∀ys∈t3,qL ys
 g4:∀ys∈t4,qL ys
theorem wA.sm{n:Int}(h:wA n f c b a):Sm (wV n f c b a) 3 200000:=by
 refine(oC.tup (ds:=[.int n,.tuple (f.map oF),.tuple (c.map oF),.tuple (b.map oF),.tuple (a.map oF)]) (n:=5) (oC.of (k:=2) (m:=23700) λd g=>?_) (aq 5)).mono D D;simp only[ay,a8,or_false]at g;rcases g with rfl|rfl|rfl|rfl|rfl
 .exact(qS.int (i:=n) (by have:=h.n0;omega)).sm.mono D D
 .exact NK (by have:=h.l1;omega) h.g1
 .exact NK (by have:=h.l2;omega) h.g2
 .exact NK (by have:=h.l3;omega) h.g3
 .exact NK h.l4 h.g4
def IZ (i:qS a)(h:qS b)(g:qS c):Sm (.tuple [dF a,dF b,dF c]) 1 200000:=by
 refine(oC.tup (ds:=[dF a,dF b,dF c]) (n:=3) (oC.of (k:=0) (m:=12) λd f=>?_) (aq 3)).mono D D;simp only[ay,a8,or_false]at f;rcases f with rfl|rfl|rfl
 .exact i.sm
 .exact h.sm
 .exact g.sm
theorem Gj :∀{xs:List V}{t:List (List V)},YK H xs (t.map O)->(∀a∈t,qL a)->nt H xs (t.map oF)
|[],[],_,_=>.nil
|[],_::_,h,_=>by cases h.1
|_::_,[],h,_=>by cases h.1
|x::xs,a::t,h,g=>by obtain⟨p,rfl,c,_⟩:=h.2 0 x (O a) Y Y;exact .cons (.tup c (QO (g a ax).2)) (Gj (xs:=xs) (t:=t) ⟨by simpa using h.1,λi x r f d=>h.2 (i+1) x r (by simpa using f) (by simpa using d)⟩ λz b=>g z (au _ b))
def Ba{H:Hp}{n:Int} (g:wA n d c b a)(C:H w=O (.tup j))(A:H u=O (.tup i))(z:H t=O (.tup h))(y:H s=O (.tup f))(r:YK H j (d.map O))(p:YK H i (c.map O))(o:YK H h (b.map O))(l:YK H f (a.map O))(x:H q=O (.tup [.int n,.ref w,.ref u,.ref t,.ref s])):Is H (.ref q) (wV n d c b a):=.tup x (.cons (.int n) (.cons (.tup C (Gj r g.g1)) (.cons (.tup A (Gj p g.g2)) (.cons (.tup z (Gj o g.g3)) (.cons (.tup y (Gj l g.g4)) .nil)))))
def qS.lay (h:qS v):(dF v).canLay0=true:=by
 cases h with
|non=>rfl
|int h=>rfl
|str h=>show(Array.all _ _)=true;rw[Array.all_eq_true'];intro c a;exact zJ (h.2 c (Array.mem_toList_iff.mpr a))
theorem GB:∀{ds:List gu},(∀d∈ds,d.canLay0=true)->PyData.canLayAll0 ds=true
|[],_=>rfl
|d::ds,h=>by show(d.canLay0&&PyData.canLayAll0 ds)=true;rw[h d ax,GB λe a=>h e (au _ a)];rfl
def Oc (h:qL a):(oF a).canLay0=true:=GB (ds:=a.map dF) λd c=>by obtain⟨y,b,rfl⟩:=aG.mp c;exact(h.2 y b).lay
def Gi{t:List (List V)}(h:∀a∈t,qL a):(PyData.tuple (t.map oF)).canLay0=true:=GB (ds:=t.map oF) λd c=>by obtain⟨y,b,rfl⟩:=aG.mp c;exact Oc (h y b)
end WD
namespace TB
open PySem L2 PySem.Spec PyProof.Rows WD
theorem X6.same (sm:f' H n) (h:X6 H v r):X6 n v r:=by
 cases r with
|none=>obtain⟨T,c,a⟩:=h;exact⟨T,c.same sm,a⟩
|some q=>
  obtain⟨s,t⟩:=q;obtain⟨⟨p,rfl,hp⟩,g,f⟩:=h;refine⟨⟨p,Y,?_⟩,g,λi y r l j=>?_⟩
  .rcases hp with hp|hp
   .exact .inl (sm _ _ hp)
   .exact .inr (sm _ _ hp)
  .have:=f i y r l j;cases r with
  |none=>obtain⟨T,c,a⟩:=this;exact⟨T,c.same sm,a⟩
  |some o=>obtain⟨p,rfl,a,b⟩:=this;exact⟨p,Y,sm _ _ a,λy d=>let ⟨T,c⟩:=b y d;⟨T,c.same sm⟩⟩
def T8(C j:G)(c:V)(h g f d:PR)(H:Hp)(Q:VK)(E:XK):Prop:=match Jm c h g f d with
|.inl (z,a,y)=>∀i,f' H i->uQ j z a y i E
|.inr k=>∀b x fs n,f' H b->H x=B->c=.int n->TabOf b C x fs n h g f d k->Q (.ref x) b
def Tj       (p:Th H d T)(p1:X6 H A l)(p2:X6 H y j)(I:X6 H w i)(F:X6 H s h)(k:T8 C M d l j i h H Q E):∀x a,H x=B->H a=B->a≠x->Rc C M [.ref x,d,A,y,w,s] (upd (upd H a (.own x)) x (.ins C a [])) (λv o=>v=.non/\Q (.ref x) o) E:=λx a f b N=>by
 have sm:f' H (upd (upd H a (.own x)) x (.ins C a [])):=λc u e=>by rw[Zk (λz=>by rw[z,f]at e;cases e),Zk (λz=>by rw[z,b]at e;cases e)];exact e
 refine⟨x,a,d,T,A,y,w,s,l,j,i,h,Y,Zc,p.same sm,p1.same sm,p2.same sm,I.same sm,F.same sm,?_⟩;unfold T8 at k;generalize Jm d l j i h=r at k ⊢;cases r with
|inl q=>exact λL g=>k L (Nr f b g)
|inr q=>exact λo fs n g e t=>⟨Y,k o x fs n (Nr f b g) f e t⟩
structure wx(H:Hp)(C t:G)(fs:List (U×V))(n:Int)(r1 r2 r3 r4:PR)(k:Ks):Prop where
 tab:TabOf H C t fs n r1 r2 r3 r4 k
 rows:∀r,r=r1\/r=r2\/r=r3\/r=r4->∀xs rs,r=O (xs,rs)->YK H xs rs
theorem Row.same (s:f' H c) (h:Row H v r):Row c v r:=by
 cases r with
|none=>obtain⟨T,t,n⟩:=h;exact⟨T,t.same s,n⟩
|some d=>obtain⟨p,e,a,t⟩:=h;exact⟨p,e,s _ _ a,λy b=>let ⟨T,u⟩:=t y b;⟨T,u.same s⟩⟩
theorem YK.same (s:f' H f) (h:YK H a b):YK f a b:=⟨h.1,λi x r d c=>(h.2 i x r d c).same s⟩
def XE.same (s:f' H p)   (h:XE H fs f g r k):XE p fs f g r k:=by obtain⟨l,d,a,b,o,n,j,i,c⟩:=h;exact⟨l,d,a,b,o,n,j,s _ _ i,s _ _ c⟩
theorem wx.same   {n:Int} (s:f' H o)(h:wx H C t fs n i f d c k):wx o C t fs n i f d c k:=⟨⟨⟨let ⟨l,e⟩:=h.tab.tab.at_;⟨l,s _ _ e⟩,h.tab.tab.only⟩,h.tab.turns,h.tab.p.same s,h.tab.r.same s,h.tab.w.same s,h.tab.g.same s⟩,λr j a b e=>(h.rows r j a b e).same s⟩
end TB
namespace L2
open PySem PySem.Spec PyProof.Rows
def BU   :Yx (oV P w) X E0:=λ_ _ _ _ _ _ _ h=>by obtain⟨x,c,d,b,f,_,_,_,_,_,_,_,a⟩:=h;exact a.elim
end L2
namespace WD
open PySem L2 PySem.Spec PyProof.Rows TB
def isJ(j:Nat):Prop:=j=1\/j=2\/j=3\/j=4
def C8  (h:YI y):∃T,Th H y T:=by
 rcases h with rfl|⟨i,rfl⟩|⟨z,rfl,a⟩
 .exact⟨_,.non⟩
 .exact⟨_,.int i⟩
 .exact⟨_,.str z a⟩
def wu(H:Hp)(C t:G)(T:Tb):Prop:=∃fs d c b a k,wx H C t fs T.n (oz d T.t1) (oz c T.t2) (oz b T.t3) (oz a T.t4) k/\vC T c b a k
theorem wu.same   (s:f' H g)(h:wu H C t T):wu g C t T:=by obtain⟨fs,f,c,b,a,k,tp,d⟩:=h;exact⟨fs,f,c,b,a,k,tp.same s,d⟩
def FP  {Q:VK} (o:ow T)(q:YK H i (T.t1.map O))(p:YK H h (T.t2.map O))(l:YK H g (T.t3.map O))(j:YK H f (T.t4.map O))(k:∀a x,f' H a->H x=B->wu a C x T->Q (.ref x) a):T8 C F (.int T.n) (oz i T.t1) (oz h T.t2) (oz g T.t3) (oz f T.t4) H Q E:=by
 obtain⟨u,e,d⟩:=Ew o (by rw[q.1,lm]) (by rw[p.1,lm]) (by rw[l.1,lm]) (by rw[j.1,lm]);unfold T8;rw[e];refine λa x fs n s w c t=>k a x s w ⟨fs,i,h,g,f,u,⟨?_,λr y z A b=>?_⟩,d⟩
 .injection c with c;rw[c];exact t
 .rcases y with rfl|rfl|rfl|rfl
  .cases b;exact q.same s
  .cases b;exact p.same s
  .cases b;exact l.same s
  .cases b;exact j.same s
def Fe {n:Int}(h:Nt b n s l g a m=.non):Xf b s g=.non/\∃i,l=.int i/\K1.ZD (.int i) 0 (n-1)=true/\K1.ZD a (i+1) n=true/\K1.ZD m 0 1000=true:=by
 unfold Nt at h;by_cases e:Xf b s g=.non
 .rw[zG (λz=>z e)]at h;refine⟨e,?_⟩;cases l with
 |int i=>dsimp only at h;refine⟨i,Y,?_⟩;cases f:K1.ZD (.int i) 0 (n-1)<;>cases d:K1.ZD a (i+1) n<;>cases c:K1.ZD m 0 1000<;>simp_all
 |_=>cases h
 .rw[zH e]at h;exact zI h e
def KA  (h:rh a s g l m=.non):Xf a s g=.non/\K1.ZD l 1 50=true/\K1.ZD m 0 1000=true:=by
 unfold rh at h;by_cases e:Xf a s g=.non
 .rw[zG (λz=>z e)]at h;refine⟨e,?_⟩;cases c:K1.ZD l 1 50<;>cases b:K1.ZD m 0 1000<;>simp_all
 .rw[zH e]at h;exact zI h e
def DD {n b:Int}(h:Js a n b p t m=.non):Yk p a=true/\K1.ZD t 0 n=true:=by unfold Js at h;cases d:Yk p a<;>cases c:K1.ZD t 0 n<;>simp_all
def GF  (h:Xf a s g=.non):Yk s a=true/\Yk g a=true/\QQ s a=false:=by unfold Xf at h;cases d:Yk s a<;>cases c:Yk g a<;>cases b:QQ s a<;>simp_all
def Lq (o:ow T):∃a,mj a T.t1:=by obtain⟨a,_,d,_⟩:=Xn (j:=1) (k1:=[]) (n:=T.n) (t1:=T.t1) (.inl Y) (λh=>zI Y h) (o.part 1 (.inl Y)) (xs:=T.t1.map λ_=>V.non) (by rw[lm];rfl);exact⟨a,d Y⟩
def Pg:(∀c∈K1.codes K1.m8,c<0x110000)/\∀c∈K1.codes K1.mD,c<0x110000:=by decide +kernel
def OE  (h:ZM g (.str z)=true):GS z:=by
 cases g
 .have a:K1.VN 8 (K1.codes K1.m8) (codes z)=true:=h;unfold K1.VN K1.YC K1.qy at a;simp only[bJ,decide_eq_true_eq,bY]at a;exact⟨by rw[<-ZF];omega,λc b=>Pg.1 c (a.1.2 c b)⟩
 .have a:K1.VN 12 (K1.codes K1.mD) (codes z)=true:=h;unfold K1.VN K1.YC K1.qy at a;simp only[bJ,decide_eq_true_eq,bY]at a;exact⟨by rw[<-ZF];omega,λc b=>Pg.2 c (a.1.2 c b)⟩
def YV {lo a:Int}(h:K1.ZD v lo a=true):∃i,v=.int i/\lo<=i/\i<=a:=by
 cases v with
|int i=>have b:(decide (lo<=i)&&decide (i<=a))=true:=h;simp only[bJ,decide_eq_true_eq]at b;exact⟨i,Y,b.1,b.2⟩
|_=>cases h
def Ut {lo c:Int}(h:K1.ZD v lo c=true)(f:0<=lo)(d:c<=1000):qS v:=by obtain⟨i,rfl,a,b⟩:=YV h;exact .int zD
def Nx {n d:Int}(h:Js f n d p t m=.non):Yk p f=true/\K1.ZD t 0 n=true/\∃i,m=.int i/\0<=i/\i<=300:=by
 obtain⟨c,b⟩:=DD h;refine⟨c,b,?_⟩;unfold Js at h;rw[c,b]at h;cases m with
|int i=>
  cases a:K1.ZD (.int i) 0 300 with
 |true=>exact YV a
 |false=>dsimp only at h;rw[a]at h;cases h
|_=>cases h
def PX  (hk:mj d a)(h:Yk x d=true):∃p∈a,x=.str (Zl p):=by
 obtain⟨z,v,rfl,c⟩:=Uc h;by_cases b:z∈a.map Zl
 .obtain⟨p,f,e⟩:=aG.mp b;exact⟨p,f,by rw[e]⟩
 .rw[hk.no z b]at c;cases c
section
variable {T:Tb}(o:ow T)
include o
def Ux{j:Nat}(b:isJ j){a:List V}(h:a∈T.part j):qt j T.n T.t1 a:=(o.part j b).2.row a h
def PN{j:Nat}(b:isJ j){a:List V}(h:a∈T.part j):at_ a 0=.str (Zl a)/\GS (Zl a):=by have r:=Ux o b h;refine⟨r.name,?_⟩;have:=r.nm;rw[show at_ a 0=.str (Zl a)from r.name]at this;exact OE this
def MN (hk:mj a T.t1)(h:Yk x a=true):qS x:=by obtain⟨p,b,rfl⟩:=PX hk h;exact .str (PN o (j:=1) (.inl Y) b).2
def Rw{d:List V}(h:d∈T.t1):∃p:U×Option Int,d=YQ p/\GS p.1/\∀i,p.2=O i->0<=i/\i<=1000:=by
 have r:=Ux o (j:=1) (.inl Y) h;obtain⟨t,g⟩:=PN o (j:=1) (.inl Y) h;have b:XX (at_ d 1)=.non:=r.why [] (λz=>zI Y z) 0 (λz=>by cases z);obtain⟨a,c,rfl⟩:=p_ r.len;have l:a=.str (Zl [a,c]):=t;have b:XX c=.non:=b;unfold XX at b;by_cases e:c=.non
 .exact⟨(Zl [a,c],B),by rw[e];rw[e]at l;rw[<-l.symm];rfl,g,λi q=>by cases q⟩
 .have f:K1.ZD c 0 1000=true:=by
   cases f:K1.ZD c 0 1000 with
  |true=>rfl
  |false=>rw[f,zK e,kG,zG D]at b;cases b
  obtain⟨i,rfl,s,n⟩:=YV f;exact⟨(Zl [a,.int i],O i),by rw[<-l.symm];rfl,g,λj q=>by cases q;exact⟨s,n⟩⟩
def QG{t:List V}(h:t∈T.t2)(hk:VB w T.t1):∃z s u g p l,t=[.str z,s,.int u,g,.int p,.int l]/\Zl t=z/\Xf w s g=.non/\0<=u/\u<=T.n-1/\u+1<=p/\p<=T.n/\0<=l/\l<=1000:=by have r:=Ux o (j:=2) (.inr (.inl Y)) h;have x:Iu w T.n t=.non:=r.why w (λ_=>hk) 0 (λz=>by cases z);obtain⟨a,b,c,d,e,f,rfl⟩:=v7 r.len;have F:a=.str (Zl [a,b,c,d,e,f]):=r.name;have x:Nt w T.n b c d e f=.non:=x;obtain⟨y,i,rfl,E,C,A⟩:=Fe x;obtain⟨Q,q,P,N⟩:=YV E;cases q;obtain⟨p,rfl,M,L⟩:=YV C;obtain⟨l,rfl,I,H⟩:=YV A;exact⟨_,b,i,d,p,l,zM (λq=>q::[b,.int i,d,.int p,.int l]) F,Y,y,P,N,M,L,I,H⟩
def TM (hk:mj a T.t1)(h:Xf a s g=.non):qS s/\qS g:=⟨MN o hk (GF h).1,MN o hk (GF h).2.1⟩
def VI{j:Nat}(w:isJ j){l:List V}(h:l∈T.part j):qL l:=by
 obtain⟨u,hk⟩:=Lq o;have M:=o.n1;have r:=Ux o w h;obtain⟨I,g⟩:=PN o w h;have qc:qS (at_ l 0):=by rw[I];exact .str g
 have F:=r.why u (λ_=>hk.has);rcases w with rfl|rfl|rfl|rfl
 .obtain⟨p,rfl,g,H⟩:=Rw o h;refine⟨by show 2<=6;decide,λy f=>?_⟩;simp only[YQ,ay,a8,or_false]at f;rcases f with rfl|rfl
  .exact .str g
  .cases e:p.2 with
  |none=>exact .non
  |some i=>have:=H i e;exact .int zD
 .obtain⟨z,s,N,W,X,L,rfl,_,x,a1,a2,b1,b2,c1,c2⟩:=QG o h hk.has;obtain⟨t,q⟩:=TM o hk x;refine⟨by show 6<=6;decide,λy f=>?_⟩;simp only[ay,a8,or_false]at f;rcases f with rfl|rfl|rfl|rfl|rfl|rfl
  .exact qc
  .exact t
  .exact .int zD
  .exact q
  .exact .int zD
  .exact .int zD
 .obtain⟨a,b,c,d,e,rfl⟩:=rp r.len;have E:rh u b c d e=.non:=F 0 (λz=>by cases z);obtain⟨x,C,A⟩:=KA E;obtain⟨t,q⟩:=TM o hk x;refine⟨by show 5<=6;decide,λy f=>?_⟩;simp only[ay,a8,or_false]at f;rcases f with rfl|rfl|rfl|rfl|rfl
  .exact qc
  .exact t
  .exact q
  .exact Ut C D D
  .exact Ut A D D
 .obtain⟨a,b,c,d,rfl⟩:=qY r.len;obtain⟨C,A,i,rfl,Q,P⟩:=Nx (F (300-ZH [a,b,c,d]) (λ_=>by omega):Js u T.n _ b c d=.non);refine⟨by show 4<=6;decide,λy f=>?_⟩;simp only[ay,a8,or_false]at f;rcases f with rfl|rfl|rfl|rfl
  .exact qc
  .exact MN o hk C
  .exact Ut A D zD
  .exact .int zD
def NT:wA T.n T.t1 T.t2 T.t3 T.t4:=⟨⟨o.n0,o.n1⟩,(o.part 1 (.inl Y)).1,(o.part 2 (.inr (.inl Y))).1,(o.part 3 (.inr (.inr (.inl Y)))).1,(o.part 4 (.inr (.inr (.inr Y)))).1,λ_ h=>VI o (.inl Y) h,λ_ h=>VI o (.inr (.inl Y)) h,λ_ h=>VI o (.inr (.inr (.inl Y))) h,λ_ h=>VI o (.inr (.inr (.inr Y))) h⟩
end
end WD
namespace TX
open PySem L2 PySem.Spec PyProof.Rows TB WD
noncomputable def txt:V->U
|.str z=>z
|.int i=>(toString i:String)
|_=>""
noncomputable def hJ(j:Nat):U:=if j=2 then"ride" else if j=3 then"way" else"group"
noncomputable def wJ(j:Nat)(a:List V):List U:=if j=1 then(if at_ a 1=.non then["home",txt (at_ a 0)]else["place",txt (at_ a 0),txt (at_ a 1)])else hJ j::a.map txt
noncomputable def wT(n:Int):List U:=["turns",(toString n:String)]
noncomputable def ZN(z:U):Option (List U):=if z="turns" then O ["number"]else if z="place" then O ["name","number"]else if z="home" then O ["name"]else if z="ride" then O ["name","name","number","name","number","number"]else if z="way" then O ["name","name","name","number","number"]else if z="group" then O ["group name","name","number","number"]else B
noncomputable def ZU(w f:U):V:=if f="number" then K1.vY (.str w)else if ZM (!decide (f="name")) (.str w)=true then .str w else .non
noncomputable def things(r f:List U):List V:=(r.zip f).map λp=>ZU p.1 p.2
def Parse(ws:List U)(a:List V):Prop:=∃z r f,ws=z::r/\ZN z=O f/\r.length=f.length/\(∀v∈things r f,v≠.non)/\a=things r f++(if z="home" then[.non]else[])
def uW(z:U):Prop:=32∉cd z/\10∉cd z/\z.length<=12
noncomputable instance (z:U):Decidable (uW z):=by unfold uW;infer_instance
def Vj:∀n:Nat,n<1001->K1.n8 (K1.codes (toString (n:Int):String))=O (n:Int)/\uW (toString (n:Int):String):=by decide +kernel
def si:∀z∈(["turns","place","home","ride","way","group"]:List U),uW z:=by decide +kernel
def U9:(32∉K1.codes K1.m8/\10∉K1.codes K1.m8)/\32∉K1.codes K1.mD/\10∉K1.codes K1.mD:=by decide +kernel
def Lr  (h:ZM g (.str z)=true):uW z:=by
 cases g
 .have a:K1.VN 8 (K1.codes K1.m8) (codes z)=true:=h;unfold K1.VN K1.YC K1.qy at a;simp only[bJ,decide_eq_true_eq,bY]at a;exact⟨λq=>U9.1.1 (a.1.2 _ q),λq=>U9.1.2 (a.1.2 _ q),by rw[<-ZF];omega⟩
 .have a:K1.VN 12 (K1.codes K1.mD) (codes z)=true:=h;unfold K1.VN K1.YC K1.qy at a;simp only[bJ,decide_eq_true_eq,bY]at a;exact⟨λq=>U9.2.1 (a.1.2 _ q),λq=>U9.2.2 (a.1.2 _ q),by rw[<-ZF];omega⟩
inductive sI:U->V->Prop where
|name {z:U} (h:ZM false (.str z)=true):sI "name" (.str z)
|group {z:U} (h:ZM true (.str z)=true):sI "group name" (.str z)
|num {i:Int} (h0:0<=i) (h1:i<=1000):sI "number" (.int i)
def sI.s9{i:Int}(c:0<=i)(d:i<=1000):K1.vY (.str (toString i:String))=.int i/\uW (toString i:String):=by obtain⟨n,rfl⟩:=e_ c;obtain⟨a,b⟩:=Vj n zD;refine⟨?_,b⟩;show K1.rn (K1.n8 (K1.codes _))=_;rw[a];rfl
def sI.back  (h:sI f v):ZU (txt v) f=v/\v≠.non/\uW (txt v):=by
 cases h with
|@name z h=>refine⟨?_,λe=>(by cases e),Lr h⟩;unfold ZU;rw[zG zC,zJ Y];exact zH h
|@group z h=>refine⟨?_,λe=>(by cases e),Lr h⟩;unfold ZU;rw[zG zC,zK zC];exact zH h
|@num i b a=>refine⟨?_,λe=>(by cases e),(sI.s9 b a).2⟩;unfold ZU;rw[zH Y];exact(sI.s9 b a).1
inductive qp:List U->List V->Prop where
|nil:qp [] []
|cons {f:U}{v:V}{fs:List U}{vs:List V} (h:sI f v) (t:qp fs vs):qp (f::fs) (v::vs)
def qp.len  (h:qp fs a):(a.map txt).length=fs.length:=by
 induction h with
|nil=>rfl
|cons _ _ b=>simpa using b
theorem qp.back  (h:qp fs a):things (a.map txt) fs=a:=by
 induction h with
|nil=>rfl
|cons h _ b=>unfold things at b ⊢;rw[aH,ij,aH,b,h.back.1]
def qp.ne  (h:qp fs a):∀v∈a,v≠.non/\uW (txt v):=by
 induction h with
|nil=>intro v hv;cases hv
|cons h _ b=>
  intro v hv;rcases ay.mp hv with rfl|hv
  .exact h.back.2
  .exact b v hv
def qp.parse   (h:qp fs a)(c:ZN z=O fs):Parse (z::a.map txt) (a++if z="home" then[.non]else[]):=⟨z,a.map txt,fs,Y,c,h.len,λv b=>by rw[h.back]at b;exact(h.ne v b).1,by rw[h.back]⟩
def Us {lo c:Int}(h:K1.ZD v lo c=true)(f:0<=lo)(d:c<=1000):sI "number" v:=by obtain⟨i,rfl,a,b⟩:=YV h;exact .num zD zD
section
variable {T:Tb}(o:ow T)
include o
def MM (hk:mj a T.t1)(h:Yk x a=true):sI "name" x:=by obtain⟨p,b,rfl⟩:=PX hk h;have r:=Ux o (j:=1) (.inl Y) b;have e:=r.name;have n:=r.nm;rw[show at_ p 0=.str (Zl p)from e]at n;exact .name n
def TJ (hk:mj a T.t1)(h:Xf a s g=.non):sI "name" s/\sI "name" g:=⟨MM o hk (GF h).1,MM o hk (GF h).2.1⟩
def SM{j:Nat}(N:isJ j){f:List V}(h:f∈T.part j):Parse (wJ j f) f/\∀w∈wJ j f,uW w:=by
 obtain⟨y,hk⟩:=Lq o;have n1:=o.n1;have r:=Ux o N h;have I:at_ f 0=.str (Zl f):=r.name;have t:=r.nm;rw[I]at t;have hw:=r.why y (λ_=>hk.has);have gen:∀{z:U}{fs:List U}{l:List V},qp fs l->ZN z=O fs->z∈(["turns","place","home","ride","way","group"]:List U)->Parse (z::l.map txt) (l++if z="home" then[.non]else[])/\∀w∈z::l.map txt,uW w:=λ{z fs l}Q hz hm=>⟨Q.parse hz,λw hw=>by
  rcases ay.mp hw with rfl|hw
  .exact si w hm
  .obtain⟨v,hv,rfl⟩:=aG.mp hw;exact(Q.ne v hv).2⟩
 rcases N with rfl|rfl|rfl|rfl
 .obtain⟨p,rfl,g,X⟩:=Rw o h;have M:sI "name" (.str p.1):=.name t;cases e:p.2 with
 |none=>
   have q:=gen (z:="home") (.cons M .nil) zC zC;have F:wJ 1 (YQ p)=("home":U)::[V.str p.1].map txt:=by unfold wJ YQ;rw[e,zH Y];exact zH Y
   rw[F];refine⟨?_,q.2⟩;have:=q.1;rw[zH Y]at this;unfold YQ;rw[e];exact this
 |some i=>
   have P:=X i e;have q:=gen (z:="place") (.cons M (.cons (.num P.1 P.2) .nil)) zC zC;have F:wJ 1 (YQ p)=("place":U)::[V.str p.1,.int i].map txt:=by unfold wJ YQ;rw[e,zH Y];exact zG (λz=>by cases z)
   rw[F];refine⟨?_,q.2⟩;have:=q.1;rw[zG zC,bj]at this;unfold YQ;rw[e];exact this
 .obtain⟨z,s,lv,g',cm,W,rfl,_,A,a1,a2,b1,b2,c1,c2⟩:=QG o h hk.has;obtain⟨x,u⟩:=TJ o hk A;have q:=gen (z:="ride") (.cons (.name (z:=z) t) (.cons x (.cons (.num (i:=lv) a1 zD) (.cons u (.cons (.num (i:=cm) zD zD) (.cons (.num (i:=W) c1 c2) .nil)))))) zC zC;rw[zG zC,bj]at q;exact q
 .obtain⟨a,b,c,d,e,rfl⟩:=rp r.len;have L:rh y b c d e=.non:=hw 0 (λz=>by cases z);obtain⟨A,E,C⟩:=KA L;obtain⟨x,u⟩:=TJ o hk A;have H:a=.str (Zl [a,b,c,d,e]):=I;have q:=gen (z:="way") (.cons (H▸.name t:sI "name" a) (.cons x (.cons u (.cons (Us E D D) (.cons (Us C D D) .nil))))) zC zC;rw[zG zC,bj]at q;exact q
 .obtain⟨a,b,c,d,rfl⟩:=qY r.len;obtain⟨E,C,i,rfl,h0,h3⟩:=Nx (hw (300-ZH [a,b,c,d]) (λ_=>by omega):Js y T.n _ b c d=.non);have H:a=.str (Zl [a,b,c,.int i]):=I;have q:=gen (z:="group") (.cons (H▸.group t:sI "group name" a) (.cons (MM o hk E) (.cons (Us C D zD) (.cons (.num h0 zD) .nil)))) zC zC;rw[zG zC,bj]at q;exact q
def Wh:Parse (wT T.n) [.int T.n]/\∀w∈wT T.n,uW w:=by
 have b:=o.n0;have a:=o.n1;have f:qp ["number"] [.int T.n]:=.cons (.num zD zD) .nil;have q:=f.parse (z:="turns") zC;rw[zG zC,bj]at q;refine⟨q,λw hw=>?_⟩;rcases ay.mp hw with rfl|hw
 .exact si _ zC
 .rw[aL.mp hw];exact(sI.s9 zD zD).2
end
def ED:Sp:=λb H Q _=>∃w f,b=[.str w,.str f]/\w.length<=1000/\∀a,f' H a->Q (ZU w f) a
section
variable {P:a9}{w:bg}{K:af}{J:U->Option Z}{S:bC}
def Gf:ia ["word","form","fits"] ["word","form"] (Ze T.pf):=nc
def HW(o:l8 P w K J S 2 "number_of" [mJ] K1.Sw)(r:l8 P w K J S 2 "is_name" [mJ] (K1.MD 8 K1.m8))(p:l8 P w K J S 2 "is_group_name" [mJ] (K1.MD 12 K1.mD))(l:Df K J "read_word" T.pf ["word","form"]):l8 P w K J S 3 "read_word" ["word","form"] ED:=by
 refine l.ur Gf (λn H Q E h=>by obtain⟨z,f,rfl,_⟩:=h;rfl) λf t A j s H n Q E i h=>?_;obtain⟨z,f,rfl,g,k⟩:=h;refine⟨_,(Zb (ZC (Zo Ym (R 1) Zf (Zu _)) (Zi (Zn (cn o i (Za (R 0) Zg)))) Zq) (Zb (st 2 Gf.nd (X4 (Zo Ym (R 1) Zf (Zu _)) (cn r i (Za (R 0) Zg)) (cn p i (Za (R 0) Zg)))) (Zi (Zn (X4 (Yu (R 2)) (R 0) ZK))))),?_⟩;refine⟨_,Y,Y,_,Y,?_⟩;unfold ZU at k;refine Xr (λe=>?_) (λe=>?_)
 .have e:f="number":=by have:=zL e;injection this
  rw[zH e]at k;exact⟨_,Y,_,_,Y,.str z g,k⟩
 .have e:¬f="number":=λq=>of_decide_eq_false e (by rw[q]);rw[zG e]at k;refine⟨_,Y,Y,_,Y,?_⟩;refine Xr (λb=>?_) (λb=>?_)
  .have b:f="name":=by have:=zL b;injection this
   rw[zJ b]at k;refine⟨_,Y,_,_,Y,.str z g,λd c=>?_⟩;refine⟨_,Y,_,Y,Xr (λa=>?_) (λa=>?_)⟩
   .refine⟨_,Y,?_⟩;have:=k d c;rw[zH (show ZM (!true) (.str z)=true from a)]at this;exact this
   .have:=k d c;rw[zG (λq=>by rw[show ZM (!true) (.str z)=false from a]at q;cases q)]at this;exact this
  .have b:¬f="name":=λq=>of_decide_eq_false b (by rw[q]);rw[zK b]at k;refine⟨_,Y,_,_,Y,.str z g,λd c=>?_⟩;refine⟨_,Y,_,Y,Xr (λa=>?_) (λa=>?_)⟩
   .refine⟨_,Y,?_⟩;have:=k d c;rw[zH (show ZM (!false) (.str z)=true from a)]at this;exact this
   .have:=k d c;rw[zG (λq=>by rw[show ZM (!false) (.str z)=false from a]at q;cases q)]at this;exact this
end
end TX
namespace K1
open PySem L2 PySem.Spec PyProof.Rows
noncomputable abbrev K7:b_:=T.qr
structure wq(K:af)(J:U->Option Z):Prop where
 int:J "int"=B
 mf:∃t,J "MOST_FIGURES"=O (.int 4 t)
 R_:∃t,J "FIGURES"=O (.str qG t)
section
variable {P:a9}{w:bg}{K:af}{J:U->Option Z}{S:bC}
def AR(c:Nat):decide (V.str ⟨#[c]⟩=V.str "0")=decide (c=48):=by
 rw[c_,decide_eq_true_iff,decide_eq_true_iff];constructor
 .intro h;injection h with h;have b:=zM (λz:U=>z.cps.toList) h;have a:[c]=[48]:=b;injection a
 .intro h;subst h;rfl
def EB(y:U):decide (V.str y=V.str "0")=decide (codes y=[48]):=by
 rw[c_,decide_eq_true_iff,decide_eq_true_iff];constructor
 .intro h;injection h with h;subst h;rfl
 .intro h;have b:y=("0":U):=by obtain⟨⟨l⟩⟩:=y;have a:l=[48]:=h;subst a;rfl
  rw[b]
def De {n:Int}(h:Pb (.str y) n qG=true):∀c∈codes y,c∈qE:=by have a:YC n (codes qG) (codes y)=true:=h;unfold YC at a;rw[bJ,bY,xH]at a;exact λc b=>zL (a.2 c b)
def Tr (h:∀c∈codes y,c∈qE)(b:codes y≠[])(d:y.length<=1000):jZ y=O ((xC (codes y):Nat):Int):=PySem.intText_digits (x:=y) (λc a=>OT (h c a)) b zD
def E6:ia [mJ] [mJ] (Ze K7):=nc
def Kl(T:wq K J)(I:Df K J "number_of" K7 [mJ])(CT:l8 P w K J S 1 "is_text_of" [mJ,"longest","signs"] U8):l8 P w K J S 2 "number_of" [mJ] Sw:=by
 refine I.cn E6 λf aa A u s H vs Q E W h=>?_;obtain⟨x,T',rfl,j,k⟩:=h;obtain⟨N,h1⟩:=T.mf;obtain⟨M,h2⟩:=T.R_;refine⟨_,Zb (ZC (Yn (Yu (Z9 CT W Y (Zj (R 0) (Zj (Yi (v:=V.int 4) Y h1 ⟨N,Y⟩) (Zj (Yi (v:=V.str qG) Y h2 ⟨M,Y⟩) Zg)))))) (Zi (Zn ZK)) Zq) (Zb (ZC (PW.pt (Rt (Zo Ym (Yh VP (R 0) Zd (λ_ _=>rfl)) Zf (Zu _)) (NN (Zo JK (R 0) Zf (Zu _))))) (Zi (Zn ZK)) Zq) (Zi (Zn (ZE Q2 Y T.int Y2 (Zj (R 0) Zg))))),?_⟩;refine⟨_,Y,x,T',4,qG,Y,j,λi sm=>⟨_,Y,?_⟩⟩;have d:∀v,v=vY x->Q v i:=λb e=>e▸k i sm;refine mr (λe=>d _ ?_) (λe=>?_)
 .have g:Pb x 4 qG=false:=by simpa using e
  cases x with
 |str y=>have t:YC 4 (codes qG) (codes y)=false:=g;show V.non=rn (n8 (codes y));unfold n8;rw[<-xH,t];rfl
 |_=>rfl
 .have g:Pb x 4 qG=true:=by simpa using e
  obtain⟨y,c,r,rfl,o⟩:=MC g;have t:YC 4 (codes qG) (codes y)=true:=g;have F:n8 (codes y)=if(codes y).getD 0 0=48/\codes y≠[48]then B else O (xC (codes y):Int):=by unfold n8;rw[<-xH,t,zH Y]
  have C:(codes y).getD 0 0=c:=by rw[o];rfl
  refine⟨_,Y,y,0,c,Y,Y,sS j.ri,RN o,Y,_,Y,?_⟩;rw[AR];have a:¬((codes y).getD 0 0=48/\codes y≠[48])->x_ (yL (λL H Q=>∃z n,L=[V.str z]/\jZ z=O n/\z.length<=640/\Q (.int n) H) (Yg (mI 0) mq)) {nx:=λ_ i=>Q .non i,rt:=Q} (L2.start [mJ] [V.str y]) i:=λX=>by
   refine⟨_,Y,y,_,Y,Tr (De g) (by rw[o];simp) j.ri,?_,d _ ?_⟩
   .have l:YC 4 (codes qG) (codes y)=true:=g;unfold YC qy at l;rw[bJ,bJ,xG]at l;have:=zL l.1.2;omega
   .show _=rn (n8 (codes y));rw[F,zG X];rfl
  refine mr (λq=>?_) (λq=>kv ?_)
  .refine⟨_,Y,Y,_,Y,?_⟩;rw[EB];refine mr (λp=>d _ ?_) (λp=>a ?_)
   .show V.non=rn (n8 (codes y));rw[F,zH ⟨C.trans (zL q),by simpa using p⟩];rfl
   .rintro ⟨_,h⟩;exact p (by simpa using h)
  .refine a ?_;rintro ⟨h,_⟩;exact q (zJ (C.symm.trans h))
end
end K1
namespace TX
open PySem L2 PySem.Spec PyProof.Rows TB WD
abbrev Ent:=Nat×List V
noncomputable def wE(e:Ent):List U:=if e.1=0 then["turns",txt (at_ e.2 0)]else wJ e.1 e.2
noncomputable def line(e:Ent):U:=Txt.join SP (wE e)
noncomputable def pn(j:Nat):U:=if j=0 then"turns" else Yz j
noncomputable def mh(j:Nat):List U:=if j=0 then["turns"]else if j=1 then["place","home"]else if j=2 then["ride"]else if j=3 then["way"]else["group"]
structure tO(e:Ent):Prop where
 j:e.1<=4
 pa:Parse (wE e) e.2
 wd:∀w∈wE e,uW w
 hd:∃z r,wE e=z::r/\z∈mh e.1
 sh:(wE e).length<=10
noncomputable def sel(j:Nat)(L:List Ent):List (List V):=(L.filter λe=>decide (e.1=j)).map (·.2)
def YS(j:Nat)(L M:List Ent):sel j (L++M)=sel j L++sel j M:=by unfold sel;rw[jo,aA]
def JD(j:Nat)(e:Ent):sel j [e]=if e.1=j then[e.2]else[]:=by unfold sel;by_cases h:e.1=j<;>simp[h]
def NM (o:ow T){j:Nat}(c:isJ j){d:List V}(h:d∈T.part j):tO (j,d):=by
 obtain⟨a,b⟩:=SM o c h;have r:=Ux o c h;have g:j≠0:=by rcases c with rfl|rfl|rfl|rfl<;>decide
 have f:wE (j,d)=wJ j d:=zG g;refine⟨by rcases c with rfl|rfl|rfl|rfl<;>exact eI Y,by rw[f];exact a,by rw[f];exact b,?_,?_⟩
 .rw[f];rcases c with rfl|rfl|rfl|rfl
  .unfold wJ;rw[zH Y];split
   .exact⟨_,_,Y,show("home":U)∈mh 1 by decide +kernel⟩
   .exact⟨_,_,Y,show("place":U)∈mh 1 by decide +kernel⟩
  .exact⟨_,_,Y,show hJ 2∈mh 2 by decide +kernel⟩
  .exact⟨_,_,Y,show hJ 3∈mh 3 by decide +kernel⟩
  .exact⟨_,_,Y,show hJ 4∈mh 4 by decide +kernel⟩
 .rw[f];have i:=r.len;unfold wJ;split
  .split<;>exact eI Y
  .rw[aB,lm,i];rcases c with rfl|rfl|rfl|rfl<;>(show _<=10;decide)
def L9 (o:ow T):tO (0,[.int T.n]):=by obtain⟨a,b⟩:=Wh o;exact⟨by show 0<=4;decide,a,b,⟨_,_,Y,show("turns":U)∈mh 0 by decide +kernel⟩,by show 2<=10;decide⟩
theorem tO.split (h:tO e):Txt.split (line e) SP=wE e:=by obtain⟨z,r,b,_⟩:=h.hd;exact YG (by rw[b];simp) λw a=>(h.wd w a).1
def Jn{l:List Nat}{m:Nat}(h:∀x∈l,x<=m):l.sum<=l.length*m:=by
 induction l with
|nil=>simp
|cons x l a=>have d:=h x ax;have c:=a λy b=>h y (au _ b);rw[dM,aB,Nat.succ_mul];omega
def tO.len (h:tO e):(line e).length<=130:=by
 have f:=GA 32 (wE e);have d:=h.sh;have c:((wE e).map (·.length)).sum<=((wE e).map (·.length)).length*12:=Jn λx a=>by obtain⟨w,b,rfl⟩:=aG.mp a;exact(h.wd w b).2.2
 rw[lm]at c;show(Txt.join ⟨#[32]⟩ (wE e)).length<=130;omega
theorem LD{c d:Nat}(a:c≠d):∀{l:List (List Nat)},(∀x∈l,d∉x)->d∉ZA c l
|[],_=>by simp[ZA]
|[x],h=>h x ax
|x::y::r,h=>by show d∉x++c::ZA c (y::r);rw[ba,ay,not_or,not_or];exact⟨h x ax,dc a,LD a λz b=>h z (au _ b)⟩
def YW{i f:Type}{zv:i->f->Prop}{a b:List i}{c d:List f}(h:bX zv a c)(g:bX zv b d):bX zv (a++b) (c++d):=by
 induction h with
|nil=>exact g
|cons r _ j=>exact .cons r j
def tO.nl (h:tO e):10∉cd (line e):=by
 have:cd (line e)=ZA 32 ((wE e).map cd):=by show cd (i6 SP (wE e))=_;rw[gA];exact Vq 32 (wE e)
 rw[this];exact LD D λx a=>by obtain⟨w,b,rfl⟩:=aG.mp a;exact(h.wd w b).2.1
end TX
namespace L2
open PySem PySem.Spec PyProof.Rows
noncomputable def LY(l:G):It:=yT λH a=>H l=O (.lst a)
section
variable {X:Cx}
def Kq(g:TA):TI:=λb H c=>g b H λf a=>∃(l:G)(d:List V),f=[.ref l]/\a l=O (.lst d)/\c (LY l) a
def Pu{a:bV}{p c pt:iG}{k:Nat}(z:Gl X "enumerate")(y:X.mg "enumerate"=B)(C:PA X [a] o)(f:dj "enumerate"=O (.type "enumerate"))(hs:bf [a] X.env=[(false,cM a X.env)]:=by rfl):PI X (.Tuple es k pt) (.Call (.Name "enumerate" p) [a] [] c) (Kq o):=by
 intro d s n H L I h;refine Call_ (Vl I z y f (c8 (lY (C c d s n H _ I h) λP Q E=>?_) hs Y));obtain⟨N,H1,g,t,l,M,e,j,q⟩:=E;subst e;obtain⟨u,rfl,r⟩:=vals1 t;cases r;obtain⟨F,T,w,_⟩:=g.list (jw.of j);have lt:=g.lI.lt j;refine call_enumerate_list w.isList λW A i _ x=>Tz g (SD (bc lt)) (λb f=>?_) zE A i x q;simp at f;rcases f with rfl|rfl
 .exact aq _
 .exact eQ lt
end
end L2
namespace TX
open PySem L2 PySem.Spec PyProof.Rows TB WD
theorem LF{c:Nat}:∀(l:List (List Nat)),(∀x∈l,x.length<=(ZA c l).length)/\l.length<=(ZA c l).length+1
|[]=>⟨λx h=>zI h zE,zE⟩
|[x]=>⟨λy h=>by rw[aL.mp h];exact aq _,zE⟩
|x::y::r=>by
  obtain⟨a,b⟩:=LF (c:=c) (y::r);have e:(ZA c (x::y::r)).length=x.length+1+(ZA c (y::r)).length:=by show(x++c::ZA c (y::r)).length=_;rw[aD,aB];omega
  refine⟨λz hz=>?_,?_⟩
  .rcases ay.mp hz with rfl|hz
   .omega
   .have:=a z hz;omega
  .rw[aB];omega
def Xh(l:U)(c:Nat):ZA c ((Txt.split l ⟨#[c]⟩).map cd)=cd l:=by rw[<-Vq,StrLaws.join_split]
def YN{l:U}{c n:Nat}(h:l.length<=n):(∀w∈Txt.split l ⟨#[c]⟩,w.length<=n)/\(Txt.split l ⟨#[c]⟩).length<=n+1:=by
 have e:=Xh l c;obtain⟨b,a⟩:=LF (c:=c) ((Txt.split l ⟨#[c]⟩).map cd);rw[e]at b a;have f:(cd l).length=l.length:=rfl;refine⟨λw d=>?_,?_⟩
 .have:=b (cd w) (aG.mpr ⟨w,d,Y⟩);have g:(cd w).length=w.length:=rfl;omega
 .rw[lm]at a;omega
noncomputable def jW(z:U):Nat:=if z="turns" then 0 else if z="place" then 1 else if z="home" then 1 else if z="ride" then 2 else if z="way" then 3 else 4
noncomputable def mP(ws:List U):Option (List V):=match ws with
|[]=>B
|z::r=>match ZN z with
 |none=>B
 |some f=>if(decide (r.length=f.length)&&!tV .non (things r f))=true then O (things r f++if z="home" then[.non]else[])else B
def RI {f:List U}(h:ZN z=O f):jW z<=4/\z∈mh (jW z):=by
 unfold ZN at h;split at h
 .next e=>subst e;exact⟨zC,zC⟩
 split at h
 .next e=>subst e;exact⟨zC,zC⟩
 split at h
 .next e=>subst e;exact⟨zC,zC⟩
 split at h
 .next e=>subst e;exact⟨zC,zC⟩
 split at h
 .next e=>subst e;exact⟨zC,zC⟩
 split at h
 .next e=>subst e;exact⟨zC,zC⟩
 .cases h
def RF{j:Nat}{z:U}(h:z∈mh j)(a:j<=4):jW z=j:=by rcases(by omega:j=0\/j=1\/j=2\/j=3\/j=4)with rfl|rfl|rfl|rfl|rfl<;>(simp[mh]at h;first|(subst h;decide +kernel)|(rcases h with rfl|rfl<;>decide +kernel))
def L6(w f:U):Vv (ZU w f)=true:=by
 unfold ZU;split
 .show Vv (K1.rn _)=true;cases K1.n8 (K1.codes w)<;>rfl
 .split<;>rfl
theorem P4:∀(l:List V),(∀v∈l,Vv v=true)->(tV .non l=false↔∀v∈l,v≠.non)
|[],_=>⟨λ_ v h=>zI h zE,λ_=>rfl⟩
|v::l,g=>by
  have c:=P4 l λx hx=>g x (au _ hx);unfold tV at c ⊢;rw[eO,Bool.or_eq_false_iff,c];refine⟨λ⟨a,b⟩x hx=>?_,λh=>⟨?_,λx hx=>h x (au _ hx)⟩⟩
  .rcases ay.mp hx with rfl|hx
   .rintro rfl;cases a
   .exact b x hx
  .have:=h v ax;cases v with
  |non=>exact zI Y this
  |_=>rfl
def XY(r f:List U):∀v∈things r f,Vv v=true:=λv a=>by unfold things at a;obtain⟨p,_,rfl⟩:=aG.mp a;exact L6 _ _
def Parse.row  (h:Parse ws a):mP ws=O a:=by obtain⟨z,r,f,rfl,d,c,b,rfl⟩:=h;unfold mP;dsimp only;rw[d];dsimp only;rw[zH];rw[zJ c,(P4 _ (XY r f)).mpr b];rfl
def JT {b:List V}(h:mP ws=O b):Parse ws b:=by
 cases ws with
|nil=>cases h
|cons z r=>
  unfold mP at h;dsimp only at h;cases a:ZN z with
 |none=>rw[a]at h;cases h
 |some f=>
   rw[a]at h;dsimp only at h;split at h
   .next e=>rw[bJ]at e;cases h;exact⟨z,r,f,Y,a,zL e.1,(P4 _ (XY r f)).mp (by simpa using e.2),Y⟩
   .cases h
noncomputable def Ye(l:U):Option Ent:=(mP (Txt.split l SP)).map λa=>(jW ((Txt.split l SP).headD ""),a)
noncomputable def kl:List U->List Ent
|[]=>[]
|l::a=>match Ye l with
 |some e=>e::kl a
 |none=>[]
theorem Rv:∀a,(kl a).length<=a.length
|[]=>aq _
|l::a=>by
  unfold kl;split
  .have:=Rv a;simp;exact this
  .simp
theorem Pp:∀{a:List U}{i:Nat}{l:U},i<(kl a).length->a[i]?=O l->Ye l=(kl a)[i]?
|[],i,l,h,_=>by cases h
|x::a,i,l,h,e=>by
  unfold kl at h ⊢;cases b:Ye x with
 |none=>rw[b]at h;cases h
 |some c=>
   rw[b]at h;cases i with
  |zero=>cases e;rw[b];rfl
  |succ i=>exact Pp (by simpa using h) (by simpa using e)
theorem SR:∀{ls:List U}{l:U},ls[(kl ls).length]?=O l->Ye l=B
|[],l,e=>by cases e
|x::ls,l,e=>by
  unfold kl at e;cases a:Ye x with
 |none=>rw[a]at e;cases e;exact a
 |some b=>rw[a]at e;exact SR (ls:=ls) (by simpa using e)
noncomputable def lW(j:Nat):Nat->List Ent->List (Nat×List V)
|_,[]=>[]
|i,e::L=>if e.1=j then(i,e.2)::lW j (i+1) L else lW j (i+1) L
theorem Ge(j:Nat)(e:Ent):∀(i:Nat)(L:List Ent),lW j i (L++[e])=lW j i L++if e.1=j then[(i+L.length,e.2)]else[]
|i,[]=>by show lW j i [e]=_;unfold lW;split<;>simp[lW]
|i,x::L=>by
  have a:=Ge j e (i+1) L;show lW j i (x::(L++[e]))=lW j i (x::L)++_;have b:i+1+L.length=i+(x::L).length:=by simp;omega
  rw[b]at a;unfold lW;split
  .rw[a];rfl
  .rw[a]
theorem Gd(j:Nat):∀(i:Nat)(L:List Ent),(lW j i L).map (·.2)=sel j L
|i,[]=>rfl
|i,x::L=>by
  have a:=Gd j (i+1) L;unfold lW;have:sel j (x::L)=(if x.1=j then[x.2]else[])++sel j L:=by rw[<-JD,<-YS];rfl
  rw[this];split
  .rw[aH,a];rfl
  .rw[a];rfl
theorem VE(j:Nat):∀(i:Nat)(L:List Ent),(lW j i L).length<=L.length
|i,[]=>aq _
|i,x::L=>by have a:=VE j (i+1) L;unfold lW;split<;>simp<;>omega
def Ny(H:Hp)(x:V)(y:Nat×List V):Prop:=∃(t r:G),x=.ref t/\H t=O (.tup [.int y.1,.ref r])/\H r=O (.tup y.2)
def uK(H:Hp)(q:Nat->G)(L:List Ent):Prop:=∀j,j<=4->∃a,H (q j)=O (.lst a)/\bX (Ny H) a (lW j 0 L)
def Ny.keep{H g:Hp} (f:H a=O (.lst j))(hs:∀c o,H c=O o->c≠a->g c=O o) (h:Ny H x i):Ny g x i:=by obtain⟨t,r,rfl,d,b⟩:=h;exact⟨t,r,Y,hs _ _ d (λz=>by rw[z,f]at d;cases d),hs _ _ b (λz=>by rw[z,f]at b;cases b)⟩
def Ny.same (s:f' H d) (h:Ny H x a):Ny d x a:=by obtain⟨t,r,rfl,c,b⟩:=h;exact⟨t,r,Y,s _ _ c,s _ _ b⟩
theorem uK.same   (s:f' H c)(h:uK H q L):uK c q L:=λj b=>by obtain⟨a,e,p⟩:=h j b;exact⟨a,s _ _ e,Paired.nQ p λ_ _ z=>z.same s⟩
def uK.app   (h:uK H q L)(inj:∀i j,i<=4->j<=4->q i=q j->i=j){e:Ent}(n:e.1<=4) (w:H t=O (.tup [.int (L.length:Nat),.ref r]))(u:H r=O (.tup e.2))(b:H (q e.1)=O (.lst g)):uK (upd H (q e.1) (.lst (g++[.ref t]))) q (L++[e]):=λj a=>by
 obtain⟨l,d,p⟩:=h j a;have keep:∀c o,H c=O o->c≠q e.1->upd H (q e.1) (.lst (g++[.ref t])) c=O o:=λc o z s=>by rw[Zk s];exact z
 rw[Ge];by_cases f:e.1=j
 .subst f;rw[zH Y];rw[b]at d;cases d;refine⟨_,Zc,YW (Paired.nQ p λ_ _ z=>z.keep b keep) (.cons ?_ .nil)⟩;exact Ny.keep b keep ⟨t,r,Y,by rw[jh];exact w,u⟩
 .rw[zG f,bj];refine⟨l,?_,Paired.nQ p λ_ _ z=>z.keep b keep⟩;rw[Zk (λz=>f (inj _ _ n a z.symm)),d]
structure qP(K:af)(w:bg)(J:U->Option Z)(aF:G):Prop where
 mg:J "FORMS"=O (.ref aF)
 kd:KD K w aF
 at_:∀z f,ZN z=O f->∃a,br K aF z=O (O (.ref a))/\∀H,lR K H a (f.map V.str)
 no:∀z,ZN z=B->br K aF z=O B
def vc(Q:VK)(H:Hp)(r:Option (List V)):Prop:=match r with
|none=>Q .non H
|some a=>∀q,H q=O (.tup a)->Q (.ref q) H
def EI:Sp:=λb H Q _=>∃(l:G)(ws:List U),b=[.ref l]/\H l=O (.lst (ws.map V.str))/\ws≠[]/\(∀w∈ws,w.length<=1000)/\ws.length<=1001/\∀a,f' H a->vc Q a (mP ws)
section
variable {P:a9}{w:bg}{K:af}{J:U->Option Z}{S:bC}{aF:G}
def VF:ia ["words","form","things"] ["words"] (Ze T.oO):=nc
noncomputable def JM:dh:=pL [(".0",.local),("word",.local),("wanted",.local),("read_word",.globalImplicit)]
def MV:i4 JM (Ze T.oO):=⟨Y,zC,zC,zC⟩
def JZ:(["word","wanted"]:List U).Nodup:=by decide +kernel
def MW:i3 ["words","form","things"] JM ["word","wanted"] [B,B]:=.mk' zC
def Ac(y:∀x∈mE,J x=B)(I:qP K w J aF)(CW:l8 P w K J S 3 "read_word" ["word","form"] ED)(zB:Df K J "read_row" T.oO ["words"]):l8 P w K J S 4 "read_row" ["words"] EI:=by
 refine zB.ur VF (λvs H Q E h=>by obtain⟨l,ws,rfl,_⟩:=h;rfl) λf aS A aP s H vs Q E hr h=>?_;obtain⟨l,ws,rfl,u,ah,hw,M,k⟩:=h;refine⟨_,(Zb (st 1 VF.nd (Fq (Yi (v:=.ref aF) Y I.mg Y) (il K (R 0) Zd) ⟨Y,Y,Y,Y⟩)) (Zb (ZC (PW.pt (JH (Zo Vi (R 1) ZK (Zu _)) (X7 (Zo JK (Zz (r:=nJ K) ZO Y (bm y) bt (Za (R 0) Zg)) (Zv Z3 (Zz (r:=nJ K) ZO Y (bm y) bt (Za (R 1) Zg)) Zd) (Zu _))))) (Zi (Zn ZK)) Zq) (Zb (YZ (i:=2) VF.nd Y (dD Y) (scope:=JM) (N:=["word","wanted"]) (cp:=[B,B]) Y MV MW (Ll Y (bm y) (Za (ZG (r:=ny K) Z0 (R 0) (ZP Zd) ZQ) (Za (R 1) Zg))) (λC s H ex pn=>(Vf (K:=K) (n:=2) Y Y (Zx (mH 0 JZ) (Zx (mH 1 JZ) Yd)))) (λC s H ex pn=>ZW) (λC s H ex pn=>(cn CW hr (Za (R 0) (Za (R 1) Zg))))) (Zb (ZC (Zo JV ZK (R 2) (by with_unfolding_all rfl)) (Zi (Zn ZK)) Zq) (Zi (Zn (X4 (Zo Ym (il K (R 0) Zd) Zf (Zu _)) (ZE YH Y (bm y) XA (Za (Zv Yq (R 2) (Zw (Za ZK Zg))) Zg)) (ZE YH Y (bm y) XA (Za (R 2) Zg))))))))),?_⟩;cases ws with
|nil=>exact zI Y ah
|cons z r=>
 rw[aH]at u;unfold mP at k;dsimp only at k;cases W:ZN z with
|none=>rw[W]at k;refine⟨_,Y,I.kd,rA 0 u Y ⟨z,B,.non,Y,I.no z W,Y,?_⟩⟩;refine⟨_,Y,Y,_,Y,kq ?_⟩;exact kq (k _ (f'.refl _))
|some f=>
 rw[W]at k;dsimp only at k;obtain⟨a,ab,c⟩:=I.at_ z f W;refine⟨_,Y,I.kd,rA 0 u Y ⟨z,_,.ref a,Y,ab,Y,?_⟩⟩;refine⟨_,Y,Y,_,Y,kv ?_⟩;refine⟨_,Y,l,_,Y,.inl (jw.of u),_,Y,a,_,Y,.inr (c _),_,_,Y,Y,Y,_,Y,?_⟩;by_cases b:r.length=f.length;case neg=>
  have el:decide (V.int ((V.str z::r.map V.str).length:Int)=V.int (((f.map V.str).length:Int)+1))=false:=by rw[aB,lm,lm];refine zK λq=>b ?_;injection q with q;omega
  rw[el];refine kq ?_;have:=k _ (f'.refl _);rw[zK b,fw,zG D]at this;exact this
 have el:decide (V.int ((V.str z::r.map V.str).length:Int)=V.int (((f.map V.str).length:Int)+1))=true:=by rw[aB,lm,lm,b];exact zJ Y
 rw[el];rw[zJ b,cO]at k;refine kv ?_;refine⟨_,Y,_,Y,l,_,Y,jw.of u,λl1 aC=>?_⟩;have ec:m_ (V.str z::r.map V.str) (O 1) B=r.map V.str:=by
  have h1:HT.mF (V.str z::r.map V.str).length 0 (O 1)=1:=by unfold HT.mF;rw[aB,lm];simp;try omega
  unfold m_;rw[h1];show((V.str z::r.map V.str).drop 1).take (_-1)=_;rw[List.drop_one,List.tail_cons];refine bp ?_;show _<=HT.mF _ _ B-1;unfold HT.mF;rw[lm,aB,lm];simp
 rw[ec];dsimp only;refine nZ aC λH1 S1 e1=>?_;refine⟨_,Y,_,_,_,_,Y,.lst e1,.tup (c _),?_⟩;have aa:r.length<=1000:=by rw[aB]at M;omega
 refine ZX (zA:=yS (λH xs=>H l1=O (.lst xs)) λH xs=>lR K H a xs) r.length (aj aa D) (λn j g F=>f' H1 F/\j=(things r f).take n/\n<=r.length/\∃v1 v2,g=[v1,v2]) ⟨f'.refl _,Y,bK _,B,B,Y⟩ (λn j g F p=>by rw[p.2.1,aY];omega) (λn j g F t p=>⟨_,_,p.1 _ _ e1,c _,by rw[lm];exact t,by rw[lm,<-b];exact t⟩) (λj g F p=>⟨_,_,p.1 _ _ e1,c _,by rw[lm,lm,<-b];omega⟩) (λn j g F x H2 t p yl=>?_) (λj g H2 p l2 az=>?_)
 .obtain⟨S2,rfl,_,v1,v2,rfl⟩:=p;obtain⟨Tt,b1,b2,hT,X,hy,rfl,rfl⟩:=yl;have X:=X _ (S2 _ _ e1);have g2:=hy _ (c _);rw[aT,gE t]at X;cases X;have ai:n<f.length:=by omega
  rw[aT,gE ai]at g2;cases g2;have S3:=Zh (o:=.tup [.str r[n],.str f[n]]) S2 hT;refine⟨Tt,_,Y,lR.of Zc,Y,_,_,Y,_,_,Y,Y,?_⟩;refine⟨_,Y,_,Y,_,_,Y,hw _ (au _ (bo t)),λH4 S4=>⟨S3.trans S4,?_,t,_,_,Y⟩⟩;have hz:n<(r.zip f).length:=by rw[c9];omega
  unfold things;rw[cq,aT,gE hz,jF];rfl
 obtain⟨S2,rfl,_,v1,v2,rfl⟩:=p;have et:(things r f).take r.length=things r f:=bp (by unfold things;rw[lm,c9];omega);rw[et];have aM:=XY r f;have tl:(things r f).length<=1000:=by unfold things;rw[lm,c9];omega
 refine nZ az λH3 S3 e3=>?_;refine⟨_,Y,l2,_,Y,.inl (jw.of e3),Y,by rw[bY];exact aM,_,Y,?_⟩;have SS:=(S1.trans S2).trans S3;rw[zG D];cases L:tV .non (things r f)with
|true=>refine kq ?_;have:=k _ SS;rw[L,zG D]at this;exact this
|false=>
 rw[L,zH zF]at k;refine kv ?_;refine rA 0 (SS _ _ u) Y ⟨Y,_,Y,?_⟩;by_cases e:z="home"
 .rw[zH e]at k;rw[zJ (by rw[e])];refine kq ?_;refine⟨_,Y,zl,λl4 ar=>?_⟩;dsimp only;refine nZ ar λH4 S4 e4=>?_;refine⟨l2,l4,_,_,Y,Y,S4 _ _ e3,e4,aj (show(things r f).length+1<=1001 by omega) D,λl5 ak=>?_⟩;dsimp only;refine nZ ak λH5 S5 e5=>?_;exact⟨l5,_,Y,.inl ⟨jw.of e5,λl6 d=>k _ (Zh ((SS.trans S4).trans S5) d) l6 Zc⟩⟩
 .rw[zG e,bj]at k;rw[zK (λq=>e (by injection q))];refine kv ?_;exact⟨_,Y,l2,_,Y,.inl ⟨jw.of e3,λl6 d=>k _ (Zh SS d) l6 Zc⟩⟩
end
end TX
namespace L2
open PySem PySem.Spec PyProof.Rows
def SU{X:Cx}{b:iG}{x:U}{j:Nat}{p p2:iG}{d:List (Option bV)}{c:List bV}{a:List (TE×TE)}(f:xY X b d c a):xY X b (O (.Constant (.str x) j p)::d) (.List [] p2::c) ((tC (.str x),ya mq)::a):=Jp Zf (Zw Zg) f
end L2
namespace TX
open PySem L2 PySem.Spec PyProof.Rows TB WD
structure qM(K:af)(w:bg)(J:U->Option Z)(aP:G):Prop where
 mg:J "PARTS"=O (.ref aP)
 at_:∀j,j<=4->∀z∈mh j,Je K w aP z (.str (pn j))
noncomputable def q5(a b c d e:G):Nat->G
|0=>a
|1=>b
|2=>c
|3=>d
|_=>e
noncomputable def D5(q:Nat->G):List (Key×V):=[(.inr "turns",.ref (q 0)),(.inr "places",.ref (q 1)),(.inr "rides",.ref (q 2)),(.inr "ways",.ref (q 3)),(.inr "groups",.ref (q 4))]
def AE(q:Nat->G):∀j,j<=4->j2 (D5 q) (.inr (pn j))=O (.ref (q j)):=λj a=>by rcases(by omega:j=0\/j=1\/j=2\/j=3\/j=4)with rfl|rfl|rfl|rfl|rfl<;>rfl
def BL(f:Bool)(C:G)(r y:V)(c:Hp)(E:XK):Prop:=∀a d,c d=B->a d=O (XD d [("row",r),("why",y)])->(∀b,b≠d->a b=c b)->E (cv f C) (O d) a
def KR(C:G):Sp:=λd H Q E=>∃(l:G)(a:List U),d=[.ref l]/\H l=O (.lst (a.map V.str))/\(∀z∈a,z.length<=1000)/\a.length<=1000 /\((kl a).length=a.length->∀b p q,f' H b->b p=O (.dK (D5 q))->uK b q (kl a)->Q (.ref p) b) /\((kl a).length≠a.length->∀c,f' H c->BL true C (.int (kl a).length) (.str "form") c E)
def pairs_len{d b:Type}{f:d->b->Prop}{a:List d}{c:List b}(h:bX f a c):a.length=c.length:=gv h
def Gz{z:U}(h:z.length<=1000):(SP.length==0)=false/\z.length<=sizeLine/\(Txt.split z SP).length<=sizeLine/\(d_ z (bR z SP 0 z.length (z.length+1)) SP.length).length<=sizeLine:=⟨zC,aj h D,aj (YN h).2 D,aj (Py _ _) (aj (iW h 2) D)⟩
def Q_{H:Hp}{p b f g l n:G}(hp:H p=B)(h1:upd H p (.dK []) b=B)(h2:upd (upd H p (.dK [])) b (.lst []) f=B)(T:upd (upd (upd H p (.dK [])) b (.lst [])) f (.lst []) g=B)(x:upd (upd (upd (upd H p (.dK [])) b (.lst [])) f (.lst [])) g (.lst []) l=B)(r:upd (upd (upd (upd (upd H p (.dK [])) b (.lst [])) f (.lst [])) g (.lst [])) l (.lst []) n=B):upd (upd (upd (upd (upd (upd H p (.dK [])) b (.lst [])) f (.lst [])) g (.lst [])) l (.lst [])) n (.lst []) p=O (.dK []) /\f' H (upd (upd (upd (upd (upd (upd (upd H p (.dK [])) b (.lst [])) f (.lst [])) g (.lst [])) l (.lst [])) n (.lst [])) p (.dK (D5 (q5 b f g l n)))) /\upd (upd (upd (upd (upd (upd (upd H p (.dK [])) b (.lst [])) f (.lst [])) g (.lst [])) l (.lst [])) n (.lst [])) p (.dK (D5 (q5 b f g l n))) p=O (.dK (D5 (q5 b f g l n))) /\uK (upd (upd (upd (upd (upd (upd (upd H p (.dK [])) b (.lst [])) f (.lst [])) g (.lst [])) l (.lst [])) n (.lst [])) p (.dK (D5 (q5 b f g l n)))) (q5 b f g l n) [] /\(∀i j,i<=4->j<=4->q5 b f g l n i=q5 b f g l n j->i=j)/\∀j,j<=4->H (q5 b f g l n j)=B:=by
 have n0:=Zh (o:=.dK []) (f'.refl H) hp;have e0:upd H p (.dK []) p=O (.dK []):=Zc;generalize upd H p (.dK [])=A0 at *;have n1:=Zh (o:=.lst []) (f'.refl A0) h1;have e1:upd A0 b (.lst []) b=O (.lst []):=Zc;generalize upd A0 b (.lst [])=A1 at *;have W:=Zh (o:=.lst []) (f'.refl A1) h2;have e2:upd A1 f (.lst []) f=O (.lst []):=Zc;generalize upd A1 f (.lst [])=A2 at *;have Q:=Zh (o:=.lst []) (f'.refl A2) T;have e3:upd A2 g (.lst []) g=O (.lst []):=Zc;generalize upd A2 g (.lst [])=A3 at *;have w:=Zh (o:=.lst []) (f'.refl A3) x;have e4:upd A3 l (.lst []) l=O (.lst []):=Zc;generalize upd A3 l (.lst [])=A4 at *;have q:=Zh (o:=.lst []) (f'.refl A4) r;have e5:upd A4 n (.lst []) n=O (.lst []):=Zc;generalize upd A4 n (.lst [])=A5 at *;have b4:=q _ _ e4;have b3:=w _ _ e3;have c3:=q _ _ b3;have b2:=Q _ _ e2;have c2:=w _ _ b2;have d2:=q _ _ c2;have b1:=W _ _ e1;have c1:=Q _ _ b1;have d1:=w _ _ c1;have f1:=q _ _ d1;have b0:=n1 _ _ e0;have c0:=W _ _ b0;have d0:=Q _ _ c0;have f0:=w _ _ d0;have g0:=q _ _ f0;have S1:=n0.trans n1;have S2:=S1.trans W;have S3:=S2.trans Q;have S4:=S3.trans w;have S5:=S4.trans q;have t:∀{X:Hp}{a:G},f' H X->X a=B->H a=B:=λ{X a}s h=>by
  cases e:H a with
 |none=>rfl
 |some o=>rw[s _ _ e]at h;cases h
 have P:=Zp e1 h2;have N:=Zp b1 T;have M:=Zp c1 x;have L:=Zp d1 r;have I:=Zp e2 T;have F:=Zp b2 x;have E:=Zp c2 r;have C:=Zp e3 x;have A:=Zp b3 r;have y:=Zp e4 r;have lp:∀{a:G},A5 a=O (.lst [])->a≠p:=λh z=>by rw[z,g0]at h;cases h
 have lk:∀{a:G}{d:HO},A5 a=O (.lst [])->upd A5 p d a=O (.lst []):=λh=>by rw[Zk (lp h)];exact h
 refine⟨g0,λc u e=>by rw[Zk (Zp e hp)];exact S5 c u e,Zc,?_,?_,?_⟩
 .intro j hj;rcases(by omega:j=0\/j=1\/j=2\/j=3\/j=4)with rfl|rfl|rfl|rfl|rfl
  .exact⟨[],lk f1,.nil⟩
  .exact⟨[],lk d2,.nil⟩
  .exact⟨[],lk c3,.nil⟩
  .exact⟨[],lk b4,.nil⟩
  .exact⟨[],lk e5,.nil⟩
 .intro i j hi hj h;rcases(by omega:i=0\/i=1\/i=2\/i=3\/i=4)with rfl|rfl|rfl|rfl|rfl<;>rcases(by omega:j=0\/j=1\/j=2\/j=3\/j=4)with rfl|rfl|rfl|rfl|rfl<;>simp only[q5]at h <;> first
   |rfl
   |exact zI h P
   |exact zI h N
   |exact zI h M
   |exact zI h L
   |exact zI h I
   |exact zI h F
   |exact zI h E
   |exact zI h C
   |exact zI h A
   |exact zI h y
   |exact zI h.symm P
   |exact zI h.symm N
   |exact zI h.symm M
   |exact zI h.symm L
   |exact zI h.symm I
   |exact zI h.symm F
   |exact zI h.symm E
   |exact zI h.symm C
   |exact zI h.symm A
   |exact zI h.symm y
 .intro j hj;rcases(by omega:j=0\/j=1\/j=2\/j=3\/j=4)with rfl|rfl|rfl|rfl|rfl
  .exact t n0 h1
  .exact t S1 h2
  .exact t S2 T
  .exact t S3 x
  .exact t S4 r
section
variable {P:a9}{w:bg}{K:af}{J:U->Option Z}{S:bC}{aP C:G}
def Y4:ia ["lines","rows_by_part","number","line","words","row"] ["lines"] (Ze T.ph):=nc
def DY(zw:∀x∈mE,J x=B)(PP:qM K w J aP)(EL:wR P w K J S "BadLine" ["row","why"] C)(CR:l8 P w K J S 4 "read_row" ["words"] EI)(zB:Df K J "read_rows" T.ph ["lines"]):oU P w K J S 5 "read_rows" ["lines"] (KR C):=by
 refine zB.uq Y4 (λvs H Q E h=>by obtain⟨l,L,rfl,_⟩:=h;rfl) λf bb A a0 s H vs Q E hr h=>?_;obtain⟨l,g,rfl,hl,hL,hn,kg,kb⟩:=h;refine' ⟨_,@Zb _ _ _ _ _ (@Yv _ _ 1 _ _ _ _ Y4.nd Y (dD Y) ?he ?hs (dD Y)) (Zb ?h2 (Zi (Zn (R 1)))),?rd⟩;case' he=>refine' @Lm _ _ _ _ _ ?hp Y Y zE D
 case' hp=>refine' @SU _ _ _ _ _ _ _ _ _ (@SU _ _ _ _ _ _ _ _ _ (@SU _ _ _ _ _ _ _ _ _ (@SU _ _ _ _ _ _ _ _ _ (@SU _ _ _ _ _ _ _ _ _ (@Lj _ _)))))
 case' hs=>rfl
 case' h2=>refine' (Y9 ie Y (Pu Y (bm zw) (Za (R 0) Zg) zC) (XG Y (Zx (mH 2 Y4.nd) (Zx (mH 3 Y4.nd) Yd))) (Zb (st 4 Y4.nd (YR bP dY dX Jr (R 3) (Za Zf Zg))) (Zb (st 5 Y4.nd (cn CR hr (Za (R 4) Zg))) (Zb (ZC (Zo Vi (R 5) ZK (Zu _)) (Zi (Xm (E:=E) EL Y8 Y hr.m Y (Za (R 2) (Za Zf Zg)))) Zq) (Zi (Yc (YR bD cA cz Y6 (XS (Xx hr) (R 1) (NS (Yi (v:=.ref aP) Y PP.mg Y) (il K (R 4) Zd) (λ_ _=>rfl)) (λ_ _=>rfl)) (Za (Yo (Za (R 2) (Za (R 5) Zg))) Zg))))))))
 refine λp hp=>⟨zl,λq1 h1=>⟨zl,λq2 h2=>⟨zl,λq3 h3=>⟨zl,λq4 h4=>⟨zl,λqq h5=>?_⟩⟩⟩⟩⟩;obtain⟨np,SS,hD,hR,W,X⟩:=Q_ hp h1 h2 h3 h4 h5;refine⟨np,D5 (q5 q1 q2 q3 q4 qq),Y,eI Y,?_⟩;generalize q5 q1 q2 q3 q4 qq=q at hD hR W X SS ⊢;generalize upd (upd (upd (upd (upd (upd H p (.dK [])) q1 (.lst [])) q2 (.lst [])) q3 (.lst [])) q4 (.lst [])) qq (.lst [])=A5 at hD hR X SS ⊢;have em:UA [] (D5 q)=D5 q:=rfl;rw[em];generalize upd A5 p (.dK (D5 q))=H1 at hD hR SS ⊢;clear em h1 h2 h3 h4 h5 np;have a3:=Rv g;refine⟨_,Y,l,_,Y,SS _ _ hl,?_⟩;refine Xy (zA:=LY l) g.length (λi σ n=>i<=(kl g).length/\f' H n/\n p=O (.dK (D5 q))/\uK n q ((kl g).take i)/\∃a b c d,σ=[O (.ref l),O (.ref p),a,b,c,d]) ⟨bK _,SS,hD,hR,B,B,B,B,Y⟩ (λi σ n hi p=>⟨_,p.2.1 _ _ hl,by rw[lm];exact hi⟩) (λσ n p=>⟨_,p.2.1 _ _ hl,by rw[lm]⟩) (λi σ n x H2 hi pp yl=>?_) (λσ n pp=>?_)
 .obtain⟨ai,S3,F,t,a,b,c,d,rfl⟩:=pp;obtain⟨Tt,ys,y,hT,hy,gy,rfl,rfl⟩:=yl;rw[S3 _ _ hl]at hy;cases hy;rw[aT,gE hi]at gy;cases gy;have hz:g[i].length<=1000:=hL _ (bo hi);have j:g[i]?=O g[i]:=gE hi;generalize g[i]=z at hz j ⊢;have SN:=Zh (o:=.tup [.int (i:Nat),.str z]) (f'.refl n) hT;have eT:upd n Tt (.tup [.int (i:Nat),.str z]) Tt=O (.tup [.int (i:Nat),.str z]):=Zc;generalize upd n Tt (.tup [.int (i:Nat),.str z])=H4 at SN eT ⊢;refine⟨Tt,_,Y,lR.of eT,Y,_,_,Y,_,_,Y,Y,?_⟩;obtain⟨c1,c2,c3,c4⟩:=Gz hz;refine⟨_,Y,Y,_,_,Y,Y,c1,c2,c3,c4,λw1 ar=>?_⟩;dsimp only;rw[show(bh " ":U)=SP from Np];refine nZ ar λH5 S5 e5=>?_;obtain⟨s1,s2⟩:=YN (c:=32) hz;refine⟨_,Y,w1,Txt.split z SP,Y,e5,Xd _ _,s1,s2,λH6 S6=>?_⟩;have I:=(SN.trans S5).trans S6;cases er:mP (Txt.split z SP)with
 |none=>
   have en:Ye z=B:=by unfold Ye;rw[er];rfl
   have a4:¬i<(kl g).length:=λr=>by have:=Pp r j;rw[en,gE r]at this;cases this
   have ei:(kl g).length=i:=by omega
   refine⟨_,Y,Y,_,Y,kq ?_⟩;refine⟨_,Y,Y,λn d hd e hs=>?_⟩;have:=kb zD _ (S3.trans I) n d hd;rw[ei]at this;exact this e hs
 |some ys=>
   intro rq e6;obtain⟨M,r0,f0,ez,aS,a6,a5,a7⟩:=JT er;obtain⟨j4,ak⟩:=RI aS;have en:Ye z=O (jW M,ys):=by unfold Ye;rw[er,ez];rfl
   have r:i<(kl g).length:=by
    rcases Nat.lt_or_ge i (kl g).length with h|h
    .exact h
    .have ei:(kl g).length=i:=by omega
     have:=SR (ls:=g) (l:=z) (by rw[ei];exact j);rw[en]at this;cases this
   have aF:(kl g)[i]?=O (jW M,ys):=by rw[<-Pp r j,en]
   refine⟨_,Y,Y,_,Y,kv ?_⟩;have ab:=I _ _ F;have ah:=S6 _ _ e5;rw[ez]at ah;refine⟨_,Y,rA 0 ah Y ⟨aP,M,.str (pn (jW M)),Y,Y,PP.at_ _ j4 M ak,p,.ref (q (jW M)),Y,by rw[<-AE q _ j4];exact nY.k (k:=.inr (pn (jW M))) (I _ _ F),?_⟩⟩;obtain⟨xs,N,aC⟩:=(t.same I) (jW M) j4;refine⟨.inl ⟨Y,xs,jw.of N⟩,_,Y,_,Y,zl,λtp az=>?_⟩;dsimp only;have S7:=Zh (o:=.tup [.int (i:Nat),.ref rq]) (f'.refl H6) az;have e7:upd H6 tp (.tup [.int (i:Nat),.ref rq]) tp=O (.tup [.int (i:Nat),.ref rq]):=Zc;generalize upd H6 tp (.tup [.int (i:Nat),.ref rq])=H7 at S7 e7 ⊢;have aa:=I.trans S7;have lt:((kl g).take i).length=i:=by rw[aY];omega
   have aM:xs.length<sizeLine:=by rw[pairs_len aC];refine YA (aj (VE _ _ _) ?_);omega
   refine⟨q (jW M),xs,_,Y,Y,S7 _ _ N,aM,r,?_,?_,?_,_,_,_,_,Y⟩
   .intro c u ec;rw[Zk (Zp ec (X _ j4))];exact aa _ _ (S3 _ _ ec)
   .rw[Zk (λz=>by rw[z,N]at ab;cases ab)];exact aa _ _ F
   .have:=uK.app (e:=(jW M,ys)) (t.same aa) W j4 (by rw[lt];exact e7) (S7 _ _ e6) (S7 _ _ N);rw[cq,aF];exact this
 .obtain⟨ai,S3,F,t,a,b,c,d,rfl⟩:=pp;have eq:(kl g).length=g.length:=by omega
  rw[<-eq,cg]at t;exact⟨_,Y,kg eq _ _ _ S3 F t⟩
end
section
variable {n:Int}{t:Nat->List (List V)}{x:Nat->List V}
def Ex(F:1<=n)(E:n<=50){j:Nat}(A:isJ j)(R:∀i,isJ i->i<j->Y3 i n (t 1) (t i))(p:∀i,isJ i->(x i).length=(t i).length){a y:V}(h:∀b,(j≠1->mj b (t 1))->ZR (l_ j) (o8 j b n) (oz (x j) (t j))=.inl (a,y)):Jm (.int n) (oz (x 1) (t 1)) (oz (x 2) (t 2)) (oz (x 3) (t 3)) (oz (x 4) (t 4))=.inl (.str (Yz j),a,y):=by
 have w:(decide (1<=n)&&decide (n<=50))=true:=by simp[F,E]
 by_cases u:j=1
 .subst u;have f:=h [] λz=>zI Y z;unfold Jm;simp only[w,if_true];rw[show ZR 14 (o8 1 [] n) (oz (x 1) (t 1))=.inl (a,y)from f];rfl
 have H:1<j:=by rcases A with rfl|rfl|rfl|rfl<;>omega
 obtain⟨b,s,d,_⟩:=Xn (j:=1) (k1:=[]) (n:=n) (t1:=t 1) (.inl Y) (λh=>zI Y h) (R 1 (.inl Y) H) (p 1 (.inl Y));have q:=d Y;have f:=h b λ_=>q;have p2:2<j->∃c,ZR 80 (o8 2 b n) (oz (x 2) (t 2))=.inr c:=λg=>by obtain⟨c,l,_⟩:=Xn (j:=2) (k1:=b) (n:=n) (t1:=t 1) (.inr (.inl Y)) (λ_=>q.has) (R 2 (.inr (.inl Y)) g) (p 2 (.inr (.inl Y)));exact⟨c,l⟩
 have C:3<j->∃o,ZR 40 (o8 3 b n) (oz (x 3) (t 3))=.inr o:=λg=>by obtain⟨o,r,_⟩:=Xn (j:=3) (k1:=b) (n:=n) (t1:=t 1) (.inr (.inr (.inl Y))) (λ_=>q.has) (R 3 (.inr (.inr (.inl Y))) g) (p 3 (.inr (.inr (.inl Y))));exact⟨o,r⟩
 rcases A with rfl|rfl|rfl|rfl<;>(unfold Jm;simp only[w,if_true])
 .exact zI Y u
 .rw[show ZR 14 (o8 1 [] n) (oz (x 1) (t 1))=.inr b from s];simp only[named];rw[show ZR 80 (o8 2 b n) (oz (x 2) (t 2))=.inl (a,y)from f];rfl
 .obtain⟨c,l⟩:=p2 D;rw[show ZR 14 (o8 1 [] n) (oz (x 1) (t 1))=.inr b from s];simp only[named];rw[l];simp only[named];rw[show ZR 40 (o8 3 b n) (oz (x 3) (t 3))=.inl (a,y)from f];rfl
 .obtain⟨c,l⟩:=p2 D;obtain⟨o,r⟩:=C D;rw[show ZR 14 (o8 1 [] n) (oz (x 1) (t 1))=.inr b from s];simp only[named];rw[l];simp only[named];rw[r];simp only[named];rw[show ZR 300 (o8 4 b n) (oz (x 4) (t 4))=.inl (a,y)from f];rfl
inductive tZ(n:Int)(t:Nat->List (List V)):Option (Nat×Nat×U)->Prop where
|turns (h:¬(1<=n/\n<=50)):tZ n t (O (0,0,"number"))
|bad {j:Nat}{pre:List (List V)}{ys:List V}{post:List (List V)}{why:U} (n0:1<=n) (n1:n<=50) (hj:isJ j) (R:∀i,isJ i->i<j->Y3 i n (t 1) (t i)) (e:t j=pre++ys::post) (hl:(t j).length<=l_ j) (ok:ou j n (t 1) pre)
   (hd:∀k1 n9,(j≠1->mj k1 (t 1))->(∀z,z∉pre.map Zl->j2 n9 (.inr z)=B)->(∀ys∈pre,j2 n9 (.inr (Zl ys))≠B)->oq j k1 n (pre.map ZH).sum n9 (O ys)=.str why):tZ n t (O (j,pre.length,why))
|many {j:Nat} (n0:1<=n) (n1:n<=50) (hj:isJ j) (R:∀i,isJ i->i<j->Y3 i n (t 1) (t i)) (hl:l_ j<(t j).length):tZ n t (O (j,l_ j,"many"))
|good (n0:1<=n) (n1:n<=50) (h:∀i,isJ i->Y3 i n (t 1) (t i)):tZ n t B
noncomputable def aV(j i:Nat):V:=if j=0 then .non else .int (i:Nat)
def yh{j:Nat}(a:isJ j):pn j=Yz j/\j≠0/\j<=4:=by rcases a with rfl|rfl|rfl|rfl<;>exact⟨Y,D,D⟩
def tZ.tX{j i:Nat}{f:U}(h:tZ n t (O (j,i,f)))(g:∀i,isJ i->(x i).length=(t i).length):Jm (.int n) (oz (x 1) (t 1)) (oz (x 2) (t 2)) (oz (x 3) (t 3)) (oz (x 4) (t 4))=.inl (.str (pn j),aV j i,.str f)/\j<=4/\(j≠0->i<(t j).length)/\(j=0->i=0):=by
 cases h with
|turns h=>exact⟨Dg (by show(decide (1<=n)&&decide (n<=50))=false;simpa using h),D,λz=>zI Y z,λ_=>rfl⟩
|@bad _ pre w post _ q p d R e o ok y=>obtain⟨a,b,c⟩:=yh d;refine⟨?_,c,λ_=>by rw[e];simp,λz=>zI z b⟩;rw[a,show aV j pre.length=.int (pre.length:Nat)from zG b];refine Ex q p d R g λs hk=>?_;have l:=g j d;have:=Fu (j:=j) (k1:=s) (n:=n) (t1:=t 1) (pre:=pre) (r:=O w) (post:=post.map O) (xs:=x j) (why:=.str f) d (λz=>(hk z).has) ok.nd ok.row ok.sum (by rw[l,e,aD,aB,lm];omega) (by rw[l];exact o) (λz=>by cases z) (λu=>y s u hk);unfold oz;rw[e,aA,aH];exact this
|many q p d R o=>obtain⟨a,b,c⟩:=yh d;refine⟨?_,c,λ_=>o,λz=>zI z b⟩;rw[a,show aV j (l_ j)=.int (l_ j:Nat)from zG b];refine Ex q p d R g λs hk=>?_;unfold ZR oz;dsimp only;rw[zH (by rw[g j d];exact o)]
end
end TX
namespace L2
open PySem PySem.Spec PyProof.Rows
def Gs(K:af){X:Cx}{o:bV}{b:TE}{f:U}{a:iG}(d:PE X o b)(g:X.K=K:=by rfl)(c:fD o f X.env (cM o X.env)=cM o X.env:=by rfl):PE X (.Attribute o f a) (QB K b f):=by subst g;exact Rx d c
end L2
namespace TX
open PySem L2 PySem.Spec PyProof.Rows TB WD
def Rl(H:Hp)(y:V)(r:List V):Prop:=∃p,y=.ref p/\H p=O (.tup r)
def Rl.same{H a:Hp}(s:f' H a){y:V}{r:List V}(h:Rl H y r):Rl a y r:=by obtain⟨p,e,h⟩:=h;exact⟨p,e,s _ _ h⟩
def Yt{d b:Type}{g:d->b->Prop}{a:List d}{c:List b}(h:bX g a c){i:Nat}{x:d}{y:b}(f:a[i]?=O x)(j:c[i]?=O y):g x y:=by
 induction h generalizing i with
|nil=>cases f
|cons h _ l=>
  cases i with
 |zero=>cases f;cases j;exact h
 |succ i=>exact l (by simpa using f) (by simpa using j)
def Gk{H:Hp}{d:List V}{a:List (List V)}(h:bX (Rl H) d a)(j:∀c∈a,∀y∈c,YI y):YK H d (a.map O):=by
 refine⟨by rw[pairs_len h,lm],λi x r l b=>?_⟩;rw[aT]at b;cases e:a[i]? with
|none=>rw[e]at b;cases b
|some c=>rw[e]at b;cases b;obtain⟨p,rfl,g⟩:=Yt h l e;exact⟨p,Y,g,λy f=>C8 (j c (cU e) y f)⟩
def JI{H:Hp}{c:G}{d:List V}{a:List (List V)}(e:H c=O (.lst d))(b:YK H d (a.map O)):X6 H (.ref c) (oz d a):=⟨⟨c,Y,.inl e⟩,b⟩
noncomputable def uY(n:Int)(L:List Ent):Tb:=⟨n,sel 1 L,sel 2 L,sel 3 L,sel 4 L⟩
def Eu(n:Int)(L:List Ent):∀j,isJ j->(uY n L).part j=sel j L:=λj a=>by rcases a with rfl|rfl|rfl|rfl<;>rfl
def tZ.ok{n:Int}{L:List Ent}(h:tZ n (λj=>sel j L) B):ow (uY n L):=by
 cases h with
|good c b h=>exact⟨c,b,λj a=>by rw[Eu n L j a];exact h j a⟩
def tZ.Xl{n:Int}{t:Nat->List (List V)}{j i:Nat}{a:U}(h:tZ n t (O (j,i,a))){f d c b:List V}(q:f.length=(t 1).length)(p:d.length=(t 2).length)(o:c.length=(t 3).length)(l:b.length=(t 4).length):Jm (.int n) (oz f (t 1)) (oz d (t 2)) (oz c (t 3)) (oz b (t 4))=.inl (.str (pn j),aV j i,.str a):=(h.tX (x:=λi=>if i=1 then f else if i=2 then d else if i=3 then c else b) λi g=>by rcases g with rfl|rfl|rfl|rfl<;>assumption).1
def Fx{f d:Type}{g:f->d->Prop}{a:List f}{c:List d}(h:bX g a c){i:Nat}{y:d}(e:c[i]?=O y):∃x,a[i]?=O x/\g x y:=by
 have j:=(aU.mp e).1;have b:i<a.length:=by rw[pairs_len h];exact j
 exact⟨_,gE b,Yt h (gE b) e⟩
def EK(C Cl:G):Sp:=λf H Q E=>∃(p:G)(q:Nat->G)(L:List Ent)(n:Int)(g:Nat)(r:Option (Nat×Nat×U)),f=[.ref p]/\H p=O (.dK (D5 q))/\uK H q L/\lW 0 0 L=[(g,[.int n])]/\L.length<=1000/\(∀e∈L,∀y∈e.2,YI y)/\tZ n (λj=>sel j L) r /\(r=B->∀b x,f' H b->wu b C x (uY n L)->Q (.ref x) b)/\(∀j i a,r=O (j,i,a)->∃m d,(lW j 0 L)[i]?=O (m,d)/\∀c,f' H c->BL false Cl (.int (m:Nat)) (.str a) c E)
def yJ(g:G)(H:Hp)(z a y:V):XK:=λc f b=>c=.ref g/\∃d,f=O d/\b d=O (XD d [("part",z),("at",a),("why",y)])/\f' H b
def Zaj{g:G}{H f:Hp}{z a y:V}(s:f' H f):uQ g z a y f (yJ g H z a y):=λi d b h k=>⟨Y,d,Y,h,λc o e=>by rw[k c (λz=>by rw[z]at e;rw[s d o e]at b;cases b)];exact s c o e⟩
def Gb{L:List Ent}(h:∀e∈L,∀y∈e.2,YI y)(j:Nat):∀a∈sel j L,∀y∈a,YI y:=λa b y d=>by unfold sel at b;obtain⟨e,c,rfl⟩:=aG.mp b;exact h e (eV.mp c).1 y d
def K8{K:af}{H a:Hp}{q:Nat->G}{L:List Ent}{j:Nat}(f:uK H q L)(d:j<=4)(b:f' H a):∃c,jw K a (q j) c:=by obtain⟨x,h,_⟩:=f j d;exact⟨_,jw.of (b _ _ h)⟩
def Mw{K:af}{H c:Hp}{q:Nat->G}{L:List Ent}{j m:Nat}(F:uK H q L)(E:j<=4)(g:L.length<=1000)(f:f' H c)(A:m=2){o:List V->Hp->Prop}(k:∀a,bX (Rl c) a (sel j L)->o a c):L4 (qA K (q j)) (wc K m (Tx (Vu 0) (Tx (Vu 1) xx))) vS (mI 1) [B,B] c o:=by
 obtain⟨x,h,p⟩:=F j E;subst A;have C:(lW j 0 L).length<=1000:=aj (VE _ _ _) g;refine ZX (lW j 0 L).length (aj C D) (λi a b d=>d=c/\bX (Rl c) a (((lW j 0 L).map (·.2)).take i)/\∃u s,b=[u,s]) ⟨Y,.nil,B,B,Y⟩ (λi a b d p=>by rw[pairs_len p.2.1,aY];omega) (λi a b d n q=>?_) (λa b d q=>?_) (λi a b d y N n q w=>?_) (λa b d q=>?_)
 .obtain⟨rfl,_⟩:=q;exact⟨_,x[i]'(by rw[pairs_len p];exact n),jw.of (f _ _ h),gE _⟩
 .obtain⟨rfl,_⟩:=q;exact⟨_,jw.of (f _ _ h),by rw[pairs_len p];exact aq _⟩
 .obtain⟨rfl,l,u,s,rfl⟩:=q;obtain⟨rfl,z⟩:=w;obtain⟨t,r,rfl,M,I⟩:=Yt p (z _ (jw.of (f _ _ h))) (gE n);refine⟨t,_,Y,lR.of (f _ _ M),Y,_,_,Y,_,_,Y,Y,_,Y,Y,?_,_,_,Y⟩;rw[cq,aT,gE n];exact YW l (.cons ⟨r,Y,f _ _ I⟩ .nil)
 .obtain⟨rfl,l,_⟩:=q;rw[bp (by rw[lm];exact aq _),Gd]at l;exact k a l
section
variable {P:a9}{w:bg}{K:af}{J:U->Option Z}{S:bC}{C Cb Cl Δ Ψ:G}
def Ys:ia ["rows_by_part","turns","places","rides","ways","groups","refused","at"] ["rows_by_part"] (Ze T.mB):=nc
noncomputable def Jb:dh:=pL [(".0",.local),("number",.local),("row",.local)]
def UY:i4 Jb (Ze T.mB):=⟨Y,zC,zC,zC⟩
def Jx:(["number","row"]:List U).Nodup:=by decide +kernel
def UZ:i3 ["rows_by_part","turns","places","rides","ways","groups","refused","at"] Jb ["number","row"] [B,B]:=.mk' zC
noncomputable def Ja:dh:=pL [(".0",.local),("number",.local),("row",.local)]
def UW:i4 Ja (Ze T.mB):=⟨Y,zC,zC,zC⟩
def Jw:(["number","row"]:List U).Nodup:=by decide +kernel
def UX:i3 ["rows_by_part","turns","places","rides","ways","groups","refused","at"] Ja ["number","row"] [B,B]:=.mk' zC
noncomputable def X9:dh:=pL [(".0",.local),("number",.local),("row",.local)]
def UT:i4 X9 (Ze T.mB):=⟨Y,zC,zC,zC⟩
def Jv:(["number","row"]:List U).Nodup:=by decide +kernel
def UU:i3 ["rows_by_part","turns","places","rides","ways","groups","refused","at"] X9 ["number","row"] [B,B]:=.mk' zC
noncomputable def X8:dh:=pL [(".0",.local),("number",.local),("row",.local)]
def UR:i4 X8 (Ze T.mB):=⟨Y,zC,zC,zC⟩
def Ju:(["number","row"]:List U).Nodup:=by decide +kernel
def US:i3 ["rows_by_part","turns","places","rides","ways","groups","refused","at"] X8 ["number","row"] [B,B]:=.mk' zC
def Af(M:Ξ P w K J S C Cb)(XB:yP K J "BadTable" Cb Δ Ψ)(nB:YL K Cb "part"/\YL K Cb "at"/\YL K Cb "why")(EH:xS P w K J S "BadLine" ["row","why"] Cl)(zB:Df K J "made_table" T.mB ["rows_by_part"]):oU P w K J S 9 "made_table" ["rows_by_part"] (EK C Cl):=by
 obtain⟨fm,bb,hM,FM,bM⟩:=M.made;refine zB.uq Ys (λvs H Q E h=>by obtain⟨p,q,L,n,k0,r,rfl,_⟩:=h;rfl) λf bx A a5 s H vs Q E F h=>?_;obtain⟨p,q,L,n,k0,az,rfl,hp,u,aM,a,y,hT,kg,kb⟩:=h;obtain⟨x0,h0,p0⟩:=u 0 D;rw[aM]at p0;have dg:∀{I:Hp},f' H I->∀j,j<=4->nY I p (.str (pn j)) (O (.ref (q j))):=λs j hj=>by rw[<-AE q j hj];exact nY.k (k:=.inr (pn j)) (s _ _ hp)
 have hu:=Xx F;refine' ⟨_,(Zb (st 1 Ys.nd (it K (it K (il K (XS (Xx F) (R 0) Zf (λ_ _=>rfl)) Zd) Zd) Zd)) (Zb (YZ (i:=2) Ys.nd Y (dD Y) (scope:=Jb) (N:=["number","row"]) (cp:=[B,B]) Y UY UZ (Yy (XS (Xx F) (R 0) Zf (λ_ _=>rfl))) (λC s H l pn=>(Vf (K:=K) (n:=2) Y Y (Zx (mH 0 Jx) (Zx (mH 1 Jx) Yd)))) (λC s H l pn=>ZW) (λC s H l pn=>(R 1))) (Zb (YZ (i:=3) Ys.nd Y (dD Y) (scope:=Ja) (N:=["number","row"]) (cp:=[B,B]) Y UW UX (Yy (XS (Xx F) (R 0) Zf (λ_ _=>rfl))) (λC s H l pn=>(Vf (K:=K) (n:=2) Y Y (Zx (mH 0 Jw) (Zx (mH 1 Jw) Yd)))) (λC s H l pn=>ZW) (λC s H l pn=>(R 1))) (Zb (YZ (i:=4) Ys.nd Y (dD Y) (scope:=X9) (N:=["number","row"]) (cp:=[B,B]) Y UT UU (Yy (XS (Xx F) (R 0) Zf (λ_ _=>rfl))) (λC s H l pn=>(Vf (K:=K) (n:=2) Y Y (Zx (mH 0 Jv) (Zx (mH 1 Jv) Yd)))) (λC s H l pn=>ZW) (λC s H l pn=>(R 1))) (Zb (YZ (i:=5) Ys.nd Y (dD Y) (scope:=X8) (N:=["number","row"]) (cp:=[B,B]) Y UR US (Yy (XS (Xx F) (R 0) Zf (λ_ _=>rfl))) (λC s H l pn=>(Vf (K:=K) (n:=2) Y Y (Zx (mH 0 Ju) (Zx (mH 1 Ju) Yd)))) (λC s H l pn=>ZW) (λC s H l pn=>(R 1))) (Zi (Fh ⟨Y,Y⟩ (λE' a7 pp E hp=>Zi (Zn (WJ hM FM F Y M.mg bM .nil hp (Za (R 1) (Za (R 2) (Za (R 3) (Za (R 4) (Za (R 5) Zg)))))))) (C7 (i:=6) (E:=E) XB.xb Y XB.mg ⟨Y,Y⟩ Y ZaD Ys.nd Y Y ?hs Hy)))))))),?rd⟩;case' hs=>exact λx a6 hp=>Zb (Yv (i:=7) Ys.nd Y (dD Y) (X4 (Zo Vi (Gs K (R 6)) ZK (Zu _)) Zd (Gs K (R 6)))) (Zi (Dm EH hp F.m Y (Za (it K (il K (XS hu (R 0) (Gs K (R 6)) (λ_ _=>rfl)) (R 7)) Zd) (Za (Gs K (R 6)) Zg))))
 cases p0 with
|cons r0 rt=>
 cases rt;obtain⟨t0,aC,rfl,g1,g2⟩:=r0;refine⟨_,Y,p,_,Y,dg (f'.refl _) 0 D,_,_,0,_,Y,Y,jw.of h0,Zy (j:=0) Y,t0,_,1,_,Y,Y,lR.of g1,Zy (j:=1) Y,aC,_,0,_,Y,Y,lR.of g2,Zy (j:=0) Y,?_⟩;refine⟨_,Y,p,_,Y,dg (f'.refl H) 1 D,_,Y,K8 u D (f'.refl H),Mw u D a (f'.refl H) Y λus u1 c1 a4=>?_⟩;refine nl a4 λH1 N1 e1=>?_;have S1:=N1;refine⟨_,Y,p,_,Y,dg S1 2 D,_,Y,K8 u D S1,Mw u D a S1 Y λus u2 c2 a3=>?_⟩;refine nl a3 λH2 N2 e2=>?_;have S2:=N1.trans N2;refine⟨_,Y,p,_,Y,dg S2 3 D,_,Y,K8 u D S2,Mw u D a S2 Y λus u3 c3 a0=>?_⟩;refine nl a0 λH3 N3 e3=>?_;have S3:=S2.trans N3;refine⟨_,Y,p,_,Y,dg S3 4 D,_,Y,K8 u D S3,Mw u D a S3 Y λus u4 c4 aS=>?_⟩;refine nl aS λH4 N4 e4=>?_;have S4:=S3.trans N4;have ah:=(N2.trans N3).trans N4;have ab:=N3.trans N4;have b1:=Gk (Paired.nQ u1 λ_ _ z=>(z.same N1).same ah) (Gb y 1);have b2:=Gk (Paired.nQ u2 λ_ _ z=>(z.same N2).same ab) (Gb y 2);have b3:=Gk (Paired.nQ u3 λ_ _ z=>(z.same N3).same N4) (Gb y 3);have b4:=Gk (Paired.nQ u4 λ_ _ z=>z.same N4) (Gb y 4);have f1:=ah _ _ e1;have f2:=ab _ _ e2;have f3:=N4 _ _ e3;clear u1 u2 u3 u4 N1 N2 N3 ah ab e1 e2 e3;cases az with
|none=>refine⟨λ_ _ _=>False,?_,λ_ _ _ z=>z.elim⟩;refine⟨Y,_,Y,_,Y,_,Y,_,Y,_,Y,?_⟩;refine Tj (T:="int") (.int _) (JI f1 b1) (JI f2 b2) (JI f3 b3) (JI e4 b4) ?_;exact FP (T:=uY n L) hT.ok b1 b2 b3 b4 λI x s _ ar=>kg Y I x (S4.trans s) ar
|some r3=>
  obtain⟨j,i,W⟩:=r3;obtain⟨m,ys,hm,kb⟩:=kb j i W Y;refine⟨yJ Cb H4 (.str (pn j)) (aV j i) (.str W),?_,?_⟩
  .refine⟨Y,_,Y,_,Y,_,Y,_,Y,_,Y,?_⟩;refine Tj (T:="int") (.int _) (JI f1 b1) (JI f2 b2) (JI f3 b3) (JI e4 b4) ?_;have e:=hT.Xl (b1.1.trans (bH ..)) (b2.1.trans (bH ..)) (b3.1.trans (bH ..)) (b4.1.trans (bH ..));unfold T8;rw[e];exact λH1 s=>Zaj s
  .have lx:∀i,isJ i->((λi=>bS (sel i L).length V.non:Nat->List V) i).length=(sel i L).length:=λi _=>eG;obtain⟨_,j4,ji,j0⟩:=hT.tX lx;rintro c dd H5 ⟨rfl,d,rfl,ak,S5⟩;refine⟨true,Cb,Y,λx hx=>⟨Δ,Ψ,XB.xc,.inl ⟨zE,?_⟩⟩⟩;have o:f' H (upd H5 x (oS true x Cb (O d))):=Zh (S4.trans S5) hx;have b:upd H5 x (oS true x Cb (O d)) x=O (oS true x Cb (O d)):=Zc;have g:upd H5 x (oS true x Cb (O d)) d=O (XD d [("part",.str (pn j)),("at",aV j i),("why",.str W)]):=by rw[Zk (Zp ak hx)];exact ak
   generalize upd H5 x (oS true x Cb (O d))=H6 at o b g;obtain⟨xj,aF,pj⟩:=u j j4;obtain⟨X,hX,t,r,rfl,a1,a2⟩:=Fx pj hm;have ai:∀v,v=V.int (i:Nat)->(K6 Cl x ["row","why"] (Yg (ua (ue K) (ua (vg K) (Ii (mI 0) (QB K (mI 6) "part")) (mI 7)) (tC (V.int 0))) (Yg (QB K (mI 6) "why") mq)) E) {nx:=λx I=>Q V.non I,rt:=Q} [O (.ref p),O (.int n),O (.ref c1),O (.ref c2),O (.ref c3),O (.ref c4),O (.ref x),O v] H6:=by rintro v rfl;refine⟨_,Y,_,Y,x,Cb,d,_,_,Y,.inl ⟨true,b⟩,g,XB.xr,nB.1,Y,p,_,Y,dg o j j4,_,Y,q j,_,(i:Int),_,Y,Y,jw.of (o _ _ aF),Zy (j:=i) hX,t,_,0,_,Y,Y,lR.of (o _ _ a1),Zy (j:=0) Y,?_⟩;refine⟨_,Y,x,Cb,d,_,_,Y,.inl ⟨true,b⟩,g,XB.xr,nB.2.2,Y,?_⟩;exact⟨Y,⟨Cb,O d,b⟩,λI d' aP e hs=>kb H6 o I d' aP e hs⟩
   refine⟨_,Y,x,Cb,d,_,_,Y,.inl ⟨true,b⟩,g,XB.xr,nB.2.1,Y,Y,_,Y,?_⟩;by_cases aa:j=0
   .rw[show aV j i=.non from zH aa];refine kq ?_;exact ai _ (by rw[j0 aa];rfl)
   .rw[show aV j i=.int (i:Nat)from zG aa]at g ⊢;refine kv ?_;exact⟨_,Y,x,Cb,d,_,_,Y,.inl ⟨true,b⟩,g,XB.xr,nB.2.1,Y,ai _ Y⟩
end
inductive q_(ls:List U):Sum (Nat×U) Tb->Prop where
|xy (h:(kl ls).length≠ls.length):q_ ls (.inl ((kl ls).length,"form"))
|non (h:(kl ls).length=ls.length) (e:lW 0 0 (kl ls)=[]):q_ ls (.inl (ls.length,"turns"))
|two (h:(kl ls).length=ls.length) {a b:Nat×List V}{r:List (Nat×List V)} (e:lW 0 0 (kl ls)=a::b::r):q_ ls (.inl (b.1,"turns"))
|bad (h:(kl ls).length=ls.length) {k0:Nat}{n:Int} (e:lW 0 0 (kl ls)=[(k0,[.int n])]) {j i m:Nat}{why:U}{ys:List V} (hT:tZ n (λj=>sel j (kl ls)) (O (j,i,why))) (hm:(lW j 0 (kl ls))[i]?=O (m,ys)):q_ ls (.inl (m,why))
|good (h:(kl ls).length=ls.length) {k0:Nat}{n:Int} (e:lW 0 0 (kl ls)=[(k0,[.int n])]) (hT:tZ n (λj=>sel j (kl ls)) B):q_ ls (.inr (uY n (kl ls)))
def We{w f:U}(h:w.length<=1000):YI (ZU w f):=by
 unfold ZU;split
 .show YI (K1.rn _);cases K1.n8 (K1.codes w)with
 |none=>exact .inl Y
 |some i=>exact .inr (.inl ⟨i,Y⟩)
 .split
  .exact .inr (.inr ⟨w,Y,h⟩)
  .exact .inl Y
def TH{l:U}{e:Ent}(h:l.length<=1000)(a:Ye l=O e):∀y∈e.2,YI y:=by
 unfold Ye at a;cases b:mP (Txt.split l SP)with
|none=>rw[b]at a;cases a
|some i=>
  rw[b]at a;cases a;obtain⟨z,r,f,g,_,_,_,rfl⟩:=JT b;intro y hy;rcases ba.mp hy with hy|hy
  .unfold things at hy;obtain⟨p,d,rfl⟩:=aG.mp hy;exact We ((YN (c:=32) h).1 _ (by rw[show Txt.split l ⟨#[32]⟩=z::r from g];exact au _ (gF d).1))
  .split at hy
   .rw[aL]at hy;exact .inl hy
   .cases hy
theorem V5:∀{a:List U},(∀z∈a,z.length<=1000)->∀e∈kl a,∀y∈e.2,YI y
|[],_,e,he=>zI he (by simp[kl])
|l::a,h,e,he=>by
  unfold kl at he;cases b:Ye l with
 |none=>rw[b]at he;cases he
 |some d=>
   rw[b]at he;rcases ay.mp he with rfl|he
   .exact TH (h l ax) b
   .exact V5 (λz c=>h z (au _ c)) e he
def EG(C Cl:G):Sp:=λf H Q E=>∃v,f=[v]/\((∃h,Th H v h/\(∀z,v≠.str z)/\∀b,f' H b->BL true Cl (.int 0) (.str "form") b E)\/∃(z:U)(a:Sum (Nat×U) Tb),v=.str z/\z.length<=200000/\(∀l∈Txt.split z NL,l.length<=1000)/\(Txt.split z NL).length<=1000/\q_ (Txt.split z NL) a /\(∀m c,a=.inl (m,c)->∀g b,f' H b->BL g Cl (.int (m:Nat)) (.str c) b E)/\∀T,a=.inr T->∀d x,f' H d->wu d C x T->Q (.ref x) d)
def BL.same     (h:∀a,f' f a->BL c C r y a E)(s:f' f d):∀a,f' d a->BL c C r y a E:=λa b=>h a (s.trans b)
section
variable {P:a9}{w:bg}{K:af}{J:U->Option Z}{S:bC}{C Cl:G}
def XO:ia ["text","lines","rows_by_part","turns"] ["text"] (Ze T.oN):=nc
def Ab(o:∀x∈mE,J x=B)(EL:wR P w K J S "BadLine" ["row","why"] Cl)(CR:oU P w K J S 5 "read_rows" ["lines"] (KR Cl))(CM:oU P w K J S 9 "made_table" ["rows_by_part"] (EK C Cl))(zB:Df K J "read_table" T.oN ["text"]):oU P w K J S 10 "read_table" ["text"] (EG C Cl):=by
 refine zB.uq XO (λvs H Q E h=>by obtain⟨v,rfl,_⟩:=h;rfl) λf az A ah s H vs Q E l h=>?_;obtain⟨v,rfl,h⟩:=h;refine⟨_,(Zb (ZC (Yn (Yu (MJ (c:="str") (R 0) Y (bm o) Y (bm o) JQ))) (Zi (Xm (E:=E) EL Y8 Y l.m Y (Za Zd (Za Zf Zg)))) Zq) (Zb (st 1 XO.nd (YR bP dY dX Jr (R 0) (Za Zf Zg))) (Zb (st 2 XO.nd (Xv CR Y8 l.m Y (Za (R 1) Zg))) (Zb (st 3 XO.nd (XS (Xx l) (R 2) Zf (λ_ _=>rfl))) (Zb (ZC (Zo Ym (Zz (r:=nJ K) ZO Y (bm o) bt (Za (R 3) Zg)) Zd (Zu _)) (Zi (Xm (E:=E) EL Y8 Y l.m Y (Za (Zz (r:=nJ K) ZO Y (bm o) bt (Za (R 1) Zg)) (Za Zf Zg)))) Zq) (Zb (ZC (Zo JW (Zz (r:=nJ K) ZO Y (bm o) bt (Za (R 3) Zg)) Zd (Zu _)) (Zi (Xm (E:=E) EL Y8 Y l.m Y (Za (it K (il K (R 3) Zd) Zd) (Za Zf Zg)))) Zq) (Zi (Zn (Xv CM Y8 l.m Y (Za (R 2) Zg)))))))))),?_⟩;rcases h with⟨T',th,ns,k⟩|⟨z,ak,rfl,hz,hl,X,hR,W,kg⟩
 .refine⟨_,Y,_,_,_,_,Y,th.ty,th.xu,_,Y,?_⟩;refine Xr (λe=>?_) (λe=>?_)
  .exact⟨Y,λg d t e hs=>k H (f'.refl _) g d t e hs⟩
  .exfalso;cases th with
  |str z h=>exact ns z Y
  |_=>cases e
 refine⟨_,Y,_,_,_,_,Y,.str _,FZ K,_,Y,kv ?_⟩;refine⟨_,Y,Y,_,_,Y,Y,zC,aj hz D,by rw[show(bh "\n":U)=NL from Gw];exact aj X D,aj (Py _ _) (aj (iW hz 2) D),λl0 ab=>?_⟩;dsimp only;rw[show(bh "\n":U)=NL from Gw];generalize Txt.split z NL=N at hl X hR ⊢;refine nZ ab λH1 S1 e1=>?_;refine⟨_,Y,l0,N,Y,e1,hl,X,λI H2 p q S2 hp hW=>?_,λa H2 S2=>?_⟩;case refine_2=>
  cases hR with
 |xy h=>exact W _ _ Y true H2 (S1.trans S2)
 |non h=>exact zI h a
 |two h=>exact zI h a
 |bad h=>exact zI h a
 |good h=>exact zI h a
 have b:=S1.trans S2;obtain⟨x0,u,p0⟩:=hW 0 D;have M:=pairs_len p0;have y:(kl N).length<=1000:=by rw[I];exact X
 refine⟨_,Y,p,_,Y,by rw[<-AE q 0 D];exact nY.k (k:=.inr (pn 0)) hp,?_⟩;refine⟨_,Y,q 0,_,Y,.inl (jw.of u),Y,_,Y,?_⟩;rw[M];have F:=V5 hl;cases hR with
|xy h=>exact zI I h
|non h e=>rw[e];refine kq ?_;refine⟨_,Y,l0,_,Y,.inl (jw.of (S2 _ _ e1)),?_⟩;refine⟨Y,λg d t e hs=>?_⟩;rw[lm]at e;exact W _ _ Y true H2 b g d t e hs
|two h e=>
  rw[e];refine kv ?_;refine⟨_,Y,q 0,_,Y,.inl (jw.of u),_,_,Y,Y,_,Y,?_⟩;rw[M,e];refine Xr (λ_=>?_) (λz=>?_)
  .rw[e]at p0;cases p0 with
  |cons r0 rt=>
   cases rt with
  |cons r1 rt=>
   obtain⟨t1,ar,rfl,g1,g2⟩:=r1;refine⟨_,Y,q 0,_,1,_,Y,Y,jw.of u,Zy (j:=1) Y,t1,_,0,_,Y,Y,lR.of g1,Zy (j:=0) Y,?_⟩;exact⟨Y,λg d t e hs=>W _ _ Y true H2 b g d t e hs⟩
  .exfalso;simp at z;omega
|@bad _ k0 n e j i m ai ys hT hm=>rw[e];refine kv ?_;refine⟨_,Y,q 0,_,Y,.inl (jw.of u),_,_,Y,Y,_,Y,?_⟩;rw[M,e];refine kv ?_;refine⟨_,Y,p,q,kl N,n,k0,_,Y,hp,hW,e,y,F,hT,λz=>(by cases z),λj' i' L z=>?_⟩;cases z;exact⟨m,ys,hm,BL.same (λH3 s3=>W _ _ Y false H3 s3) b⟩
|@good _ k0 n e hT=>rw[e];refine kv ?_;refine⟨_,Y,q 0,_,Y,.inl (jw.of u),_,_,Y,Y,_,Y,?_⟩;rw[M,e];refine kv ?_;exact⟨_,Y,p,q,kl N,n,k0,_,Y,hp,hW,e,y,F,hT,λ_ g x s aa=>kg _ Y g x (b.trans s) aa,λj' i' L z=>by cases z⟩
end
structure TbL(T:Tb)(L:List Ent):Prop where
 n:sel 0 L=[[.int T.n]]
 p:∀j,isJ j->sel j L=T.part j
noncomputable def text(L:List Ent):U:=Txt.join NL (L.map line)
def Wk{L:List Ent}(h:∀e∈L,tO e)(b:L≠[]):Txt.split (text L) NL=L.map line:=YG (by simpa using b) λz a=>by obtain⟨e,c,rfl⟩:=aG.mp a;exact(h e c).nl
def WR{L:List Ent}(h:∀e∈L,tO e)(g:L.length<=1000):(text L).length<=131000:=by
 have f:=GA 10 (L.map line);have d:((L.map line).map (·.length)).sum<=((L.map line).map (·.length)).length*130:=Jn λx a=>by obtain⟨w,b,rfl⟩:=aG.mp a;obtain⟨e,c,rfl⟩:=aG.mp b;exact(h e c).len
 rw[lm,lm]at d;rw[lm]at f;show(Txt.join ⟨#[10]⟩ (L.map line)).length<=131000;omega
end TX
namespace L2
open PySem PySem.Spec PyProof.Rows
section
variable {X:Cx}{tg:bV}
def ZaK(K:af)(g:TE):TI:=λf H d=>g f H λx b=>∃a,x=.ref a/\(((∃c,jw K b a c)/\d (qA K a) b)\/((∃c,lR K b a c)/\d (x5 K a) b))
def Ov  (C:PE X l w):PI X tg l (ZaK X.K w):=by
 intro g s t H F I h;refine lY (C g s t H _ I h) λv c E=>?_;obtain⟨x,r,d,n,z⟩:=E;obtain⟨a,e,⟨⟨u,i⟩,q⟩|⟨⟨u,i⟩,q⟩⟩:=z
 .subst e;cases n;obtain⟨f,y,p,A⟩:=d.list i;refine gR p.isList ?_;refine⟨c.heap.objs.size,[c.heap.objs.size],_,_,r,Y,d.kept (t':=c.toks) λb o e=>av _ e,Qz a _,⟨_,aR _ Y,Y,Y⟩,λb j=>?_,q⟩;have e:b=c.heap.objs.size:=by simpa using j
  subst e;exact d.sk (aq _) (d.lI.fresh (aq _))
 .subst e;cases n;obtain⟨f,y,p,A⟩:=d.tuple i;refine iB (show c.heap.IsTuple a f.toArray from p) ?_;refine⟨c.heap.objs.size,[c.heap.objs.size],_,_,r,Y,d.kept (t':=c.toks) λb o e=>av _ e,Pa a _,⟨_,aR _ Y,Y,Y⟩,λb j=>?_,q⟩;have e:b=c.heap.objs.size:=by simpa using j
  subst e;exact d.sk (aq _) (d.lI.fresh (aq _))
def Jj:XF X (.type "str") (λa H Q=>(∃i,a=[.int i]/\i.natAbs.log2<1920/\Q (.str (toString i)) H)\/∃z,a=[.str z]/\Q (.str z) H):=by
 intro b s d H a f Q I r h;rcases h with⟨i,rfl,c,q⟩|⟨z,rfl,q⟩
 .obtain⟨u,rfl,t,rfl⟩:=vals1 r;exact PySem.P.str_of_int c ⟨.str _,H,I.tok _,⟨_,Y⟩,q⟩
 .obtain⟨u,rfl,t,rfl⟩:=vals1 r;exact PySem.P.str_of_str ⟨.str _,H,I,⟨_,Y⟩,q⟩
end
end L2
namespace TX
open PySem L2 PySem.Spec PyProof.Rows TB WD
def Wv(v:V):Prop:=(∃z:U,v=.str z/\z.length<=12)\/∃i:Int,v=.int i/\i.natAbs<=1000
def OD:∀n:Nat,n<1000->((toString (Int.negSucc n):String):U).length<=12:=by decide +kernel
def OQ{i:Int}(h:i.natAbs<=1000):((toString i:String):U).length<=12:=by
 cases i with
|ofNat n=>exact(Vj n (by have:n<=1000:=h;omega)).2.2.2
|negSucc n=>exact OD n (by have:n+1<=1000:=h;omega)
def Wv.len (h:Wv v):(txt v).length<=12:=by
 rcases h with⟨z,rfl,h⟩|⟨i,rfl,h⟩
 .exact h
 .exact OQ h
def NI:Sp:=λd H Q _=>∃(z:U)(a:G)(b:List V),d=[.str z,.ref a]/\(H a=O (.lst b)\/H a=O (.tup b))/\z.length<=12/\b.length<=10/\(∀y∈b,Wv y)/\∀c,f' H c->Q (.str (Txt.join SP (z::b.map txt))) c
section
variable {P:a9}{w:bg}{K:af}{J:U->Option Z}{S:bC}{C Cb:G}
def SG:ia ["first","things"] ["first","things"] (Ze T.oK):=nc
noncomputable def Uo:dh:=pL [(".0",.local),(mJ,.local),("str",.globalImplicit)]
def MS:i4 Uo (Ze T.oK):=⟨Y,zC,zC,zC⟩
def MU:([mJ]:List U).Nodup:=by decide +kernel
def MT:i3 ["first","things"] Uo [mJ] [B]:=.mk' zC
def DX(zw:∀x∈mE,J x=B)(zB:Df K J "row_text" T.oK ["first","things"]):l8 P w K J S 1 "row_text" ["first","things"] NI:=by
 refine zB.ur SG (λvs H Q E h=>by obtain⟨z,a,b,rfl,_⟩:=h;rfl) λf ai A ah s H vs Q E hr h=>?_;obtain⟨z,a,b,rfl,ha,hz,hl,M,k⟩:=h;refine⟨_,(Zi (Zn (YR bP gC gB Gy Zf (Za (Zv Yq (Zw (Za (R 0) Zg)) (Yp Y MS MT (Ov (R 1)) (λC s H ex pn=>(mH 0 MU)) (λC s H ex pn=>ZW) (λC s H ex pn=>(ZE Jj Y (bm zw) JQ (Za (R 0) Zg))))) Zg)))),?_⟩;refine⟨Y,_,Y,zl,λc1 ab=>?_⟩;dsimp only;refine nZ ab λH1 S1 e1=>?_;refine⟨_,Y,a,Y,?_⟩;have X:∀o,H1 o=B->uf (V.ref c1) (.ref o) (upd H1 o (.lst ((b.map txt).map V.str))) λx N=>∃(t:U)(p:G)(c:List U),V.str (bh " ")=V.str t/\[x]=[V.ref p]/\jw K N p (c.map V.str)/\(c.map (·.length)).sum+c.length*t.length<=16777216/\Q (.str (Txt.join t c)) N:=λo n=>by
  refine nZ (q:=λx N=>∃(t:U)(p:G)(c:List U),V.str (bh " ")=V.str t/\[x]=[V.ref p]/\jw K N p (c.map V.str)/\(c.map (·.length)).sum+c.length*t.length<=16777216/\Q (.str (Txt.join t c)) N) (zr:=λH q=>uf (V.ref c1) (.ref o) H q) n λW S2 e2=>?_;refine⟨c1,o,_,_,Y,Y,S2 _ _ e1,e2,?_,λc3 aa=>?_⟩
  .rw[lm,lm];exact aj (show 1+b.length<=11 by omega) D
  .refine⟨_,c3,z::b.map txt,Y,Y,jw.of Zc,?_,?_⟩
   .have h3:((z::b.map txt).map (·.length)).sum<=((z::b.map txt).map (·.length)).length*12:=Jn λx F=>by
     obtain⟨u,hu,rfl⟩:=aG.mp F;rcases ay.mp hu with rfl|hu
     .exact hz
     .obtain⟨v,hv,rfl⟩:=aG.mp hu;exact(M v hv).len
    have h4:(bh " ").length=1:=rfl;rw[h4];simp only[bH,aB]at h3 ⊢;omega
   .have:=k (upd W c3 (.lst ([V.str z]++(b.map txt).map V.str))) (Zh (S1.trans S2) aa);rw[<-Np]at this;exact this
 have one:∀(y:V),Wv y->∀{g:Hp}{zv:V->Hp->Prop},zv (.str (txt y)) g->(∃i,[y]=[V.int i]/\i.natAbs.log2<1920/\zv (V.str (bh (toString i))) g)\/∃z,[y]=[V.str z]/\zv (V.str z) g:=λy M g zv h=>by
  rcases M with⟨z,rfl,_⟩|⟨i,rfl,h0⟩
  .exact .inr ⟨z,Y,h⟩
  .exact .inl ⟨i,Y,dA (ω h0) D,h⟩
 have r:∀i(l:i<b.length),((b.take i).map λy=>V.str (txt y))++[V.str (txt b[i])]=(b.take (i+1)).map λy=>V.str (txt y):=λi l=>by rw[cq,gE l,aA];rfl
 have ln:b.length<=sizeLine:=aj hl D;rcases ha with ha|ha
 .have d:=S1 _ _ ha;refine .inl ⟨⟨_,jw.of d⟩,?_⟩;refine ZX (zA:=qA K a) b.length ln (λi c j g=>g=H1/\c=(b.take i).map (λy=>V.str (txt y))/\∃v,j=[v]) ⟨Y,Y,B,Y⟩ (λi c j g p=>by rw[p.2.1,lm,aY];omega) (λi c j g l p=>?_) (λc j g p=>?_) (λi c j g x W l p yl=>?_) (λc j g p o n=>?_)
  .obtain⟨rfl,_⟩:=p;exact⟨_,b[i],jw.of d,gE _⟩
  .obtain⟨rfl,_⟩:=p;exact⟨_,jw.of d,aq _⟩
  .obtain⟨rfl,rfl,v,rfl⟩:=p;obtain⟨rfl,L⟩:=yl;have F:=L _ (jw.of d);rw[gE l]at F;cases F;refine⟨_,Y,?_⟩;dsimp only[mq];exact one _ (M _ (bo l)) (zv:=λy H4=>H4=W/\((b.take i).map λy=>V.str (txt y))++[y]=(b.take (i+1)).map (λy=>V.str (txt y))/\∃I,[v].set 0 (O b[i])=[I]) ⟨Y,r i l,_,Y⟩
  .obtain⟨rfl,rfl,v,rfl⟩:=p;rw[cg];have:=X o n;rw[cY]at this;exact this
 .have d:=S1 _ _ ha;refine .inr ⟨⟨_,lR.of d⟩,?_⟩;refine ZX (zA:=x5 K a) b.length ln (λi c j g=>g=H1/\c=(b.take i).map (λy=>V.str (txt y))/\∃v,j=[v]) ⟨Y,Y,B,Y⟩ (λi c j g p=>by rw[p.2.1,lm,aY];omega) (λi c j g l p=>?_) (λc j g p=>?_) (λi c j g x W l p yl=>?_) (λc j g p o n=>?_)
  .obtain⟨rfl,_⟩:=p;exact⟨_,b[i],lR.of d,gE _⟩
  .obtain⟨rfl,_⟩:=p;exact⟨_,lR.of d,aq _⟩
  .obtain⟨rfl,rfl,v,rfl⟩:=p;obtain⟨rfl,L⟩:=yl;have F:=L _ (lR.of d);rw[gE l]at F;cases F;refine⟨_,Y,?_⟩;dsimp only[mq];exact one _ (M _ (bo l)) (zv:=λy H4=>H4=W/\((b.take i).map λy=>V.str (txt y))++[y]=(b.take (i+1)).map (λy=>V.str (txt y))/\∃I,[v].set 0 (O b[i])=[I]) ⟨Y,r i l,_,Y⟩
  .obtain⟨rfl,rfl,v,rfl⟩:=p;rw[cg];have:=X o n;rw[cY]at this;exact this
def Ay(a:List U)(f:List V->U)(t:List (List V)):a.map V.str++t.map (λy=>V.str (f y))=(a++t.map f).map V.str:=by rw[aA,cY];rfl
def Fv{j:Nat}(n:qL a)(i:Parse (hJ j::a.map txt) a):∀y∈a,Wv y:=λy c=>by
 obtain⟨z,r,f,e,p,o,b,d⟩:=i;have g:z≠"home":=by
  rw[<-(jk e).1];unfold hJ;split
  .decide +kernel
  .split<;>decide +kernel
 rw[zG g,bj]at d;have l:y≠.non:=b y (by rw[<-d];exact c);cases n.2 y c with
|non=>exact zI Y l
|int h=>exact .inr ⟨_,Y,h⟩
|str h=>exact .inl ⟨_,Y,h.1⟩
def BC (o:ow T){j:Nat}(c:isJ j)(f:j≠1){a:List V}(h:a∈T.part j):a.length<=10/\(∀y∈a,Wv y)/\wJ j a=hJ j::a.map txt:=by have d:=VI o c h;have e:wJ j a=hJ j::a.map txt:=zG f;refine⟨aj d.1 D,?_,e⟩;have b:=(SM o c h).1;rw[e]at b;exact Fv d b
def KS:Sp:=λc H Q _=>∃(a:G)(p:U×Option Int),c=[.ref a]/\H a=O (.tup (YQ p))/\p.1.length<=12/\(∀i,p.2=O i->0<=i/\i<=1000)/\∀b,f' H b->Q (.str (Txt.join SP (wJ 1 (YQ p)))) b
noncomputable def ents(T:Tb):List Ent:=(0,[.int T.n])::(T.t1.map (λy=>(1,y))++T.t2.map (λy=>(2,y))++T.t3.map (λy=>(3,y))++T.t4.map (λy=>(4,y)))
def EE(C:G):Sp:=λb H Q _=>∃(t:G)(T:Tb),b=[.ref t]/\wu H C t T/\ow T/\∀a,f' H a->Q (.str (text (ents T))) a
def LK (o:ow T):∀e∈ents T,tO e:=λe b=>by
 unfold ents at b;simp only[ay,ba,aG]at b;rcases b with rfl|((⟨y,a,rfl⟩|⟨y,a,rfl⟩)|⟨y,a,rfl⟩)|⟨y,a,rfl⟩
 .exact L9 o
 .exact NM o (j:=1) (.inl Y) a
 .exact NM o (j:=2) (.inr (.inl Y)) a
 .exact NM o (j:=3) (.inr (.inr (.inl Y))) a
 .exact NM o (j:=4) (.inr (.inr (.inr Y))) a
def TC (o:ow T):(ents T).length<=435:=by have d:T.t1.length<=14:=(o.part 1 (.inl Y)).1;have c:T.t2.length<=80:=(o.part 2 (.inr (.inl Y))).1;have b:T.t3.length<=40:=(o.part 3 (.inr (.inr (.inl Y)))).1;have a:T.t4.length<=300:=(o.part 4 (.inr (.inr (.inr Y)))).1;unfold ents;simp only[aB,aD,bH];omega
def Qo:ia ["row"] ["row"] (Ze T.oP):=nc
def DZ(L:∀x∈mE,J x=B)(q:l8 P w K J S 1 "row_text" ["first","things"] NI)(t:Df K J "place_text" T.oP ["row"]):l8 P w K J S 2 "place_text" ["row"] KS:=by
 refine t.ur Qo (λu H Q E h=>by obtain⟨a,p,rfl,_⟩:=h;rfl) λf I A l s H u Q E n h=>?_;obtain⟨a,p,rfl,b,o,j,k⟩:=h;refine⟨_,(Zb (ZC (Zo Vi (it K (R 0) Zd) ZK (Zu _)) (Zi (Zn (cn q n (Za Zf (Za (ZG (r:=wZ K) EW (R 0) ZQ (ZP Zd)) Zg))))) Zq) (Zi (Zn (cn q n (Za Zf (Za (R 0) Zg)))))),?_⟩;refine H_ 1 b Y ⟨Y,_,Y,?_⟩;obtain⟨z,r⟩:=p;cases r with
|none=>
  refine kq ?_;refine⟨_,Y,_,Y,a,_,Y,lR.of b,(show ¬(HT.mF 2 0 B=0/\HT.mF 2 2 (O 1)=2) by decide),λc F=>?_⟩;refine⟨_,c,[.str z],Y,.inr Zc,zC,(show 1<=10 by decide),λy hy=>?_,λg d=>?_⟩
  .rw[aL.mp hy];exact .inl ⟨z,Y,o⟩
  .exact k g ((Zh (f'.refl H) F).trans d)
|some i=>
  refine kv ?_;refine⟨_,Y,_,a,[.str z,.int i],Y,.inr b,zC,by show 2<=10;decide,λy hy=>?_,λg d=>k g d⟩;rcases ay.mp hy with rfl|hy
  .exact .inl ⟨z,Y,o⟩
  .rw[aL.mp hy];have:=j i Y;exact .inr ⟨i,Y,zD⟩
def Ga{j:Nat}(zo:rH K C){T:Tb}{H A:Hp}  {f:U}{I:List U}{te:TE}{z:L2.St}{zB:Ends}(hf:f∈fields)(ht:H t=O (.ins C dx fs))(a:fs.lookup f=O (.ref l))(b:H l=O (.tup xs))(r:YK H xs ((T.part j).map O))(aa:H E=B)(hl:(T.part j).length<=300)(hz:I.length<=300)(g:f' H A)(R0:A E=O (.lst (I.map V.str)))(h0:z[0]?=O (O (.ref t)))(h1:z[1]?=O (O (.ref E)))(X:∀(d:Hp)(a:G)(L:List V)(Q:VK),L∈T.part j->d a=O (.tup L)->(∀M,f' d M->Q (.str (line (j,L))) M)->te [O (.ref a)] d Q)(k:∀W,f' H W->W E=O (.lst ((I++(T.part j).map λy=>line (j,y)).map V.str))->zB.nx z W):KJ (yM K "list" Le (mI 1) (Yg (KL [B] (yu K (u6 K (mI 0) f)) (Vu 0) vS te) mq)) zB z A:=by
 generalize T.part j=p at *;refine⟨_,h1,.inl ⟨Y,_,jw.of R0⟩,_,h0,t,C,dx,fs,_,Y,g _ _ ht,zo.cl,zo.na _ hf,a,l,Y,⟨_,lR.of (g _ _ b)⟩,?_⟩;refine ZX p.length (aj hl D) (λi n h d=>f' A d/\n=(p.take i).map (λy=>V.str (line (j,y)))/\∃v,h=[v]) ⟨f'.refl _,Y,B,Y⟩ (λi n h d q=>by rw[q.2.1,lm,aY];omega) (λi n h d s q=>?_) (λn h d q=>?_) (λi n h d x H2 s q yl=>?_) (λn h d q c hc=>?_)
 .exact⟨_,xs[i]'(by rw[r.1,lm];exact s),lR.of (q.1 _ _ (g _ _ b)),gE _⟩
 .exact⟨_,lR.of (q.1 _ _ (g _ _ b)),by rw[r.1,lm];exact aq _⟩
 .obtain⟨u,rfl,v,rfl⟩:=q;obtain⟨rfl,hy⟩:=yl;obtain⟨a,rfl,ha,_⟩:=r.2 i _ _ (hy _ (lR.of (u _ _ (g _ _ b)))) (show(p.map O)[i]?=O (O p[i]) by rw[aT,gE s];rfl);refine X _ a p[i] _ (bo s) (u _ _ (g _ _ ha)) λM S3=>⟨u.trans S3,?_,_,Y⟩;rw[cq,gE s,aA];rfl
 obtain⟨u,rfl,v,rfl⟩:=q;rw[cg];dsimp only[mq];have N:=Zh (o:=.lst (p.map λy=>V.str (line (j,y)))) u hc;have ez:upd d c (.lst (p.map λy=>V.str (line (j,y)))) c=O (.lst (p.map λy=>V.str (line (j,y)))):=Zc;generalize upd d c (.lst (p.map λy=>V.str (line (j,y))))=F at N ez ⊢;refine⟨E,c,_,_,Y,Y,N _ _ R0,ez,aj (by rw[lm,lm];show _<=1000;omega) D,k _ (λc o e=>by rw[Zk (Zp e aa)];exact N _ _ (g _ _ e)) ?_⟩;rw[Zc,Ay]
def Uj:ia [nu,"rows"] [nu] (Ze T.mz):=nc
noncomputable def Vz:dh:=pL [(".0",.local),("row",.local),("place_text",.globalImplicit)]
def UO:i4 Vz (Ze T.mz):=⟨Y,zC,zC,zC⟩
def UQ:(["row"]:List U).Nodup:=by decide +kernel
def UP:i3 [nu,"rows"] Vz ["row"] [B]:=.mk' zC
noncomputable def Vy:dh:=pL [(".0",.local),("row",.local),("row_text",.globalImplicit)]
def UL:i4 Vy (Ze T.mz):=⟨Y,zC,zC,zC⟩
def UN:(["row"]:List U).Nodup:=by decide +kernel
def UM:i3 [nu,"rows"] Vy ["row"] [B]:=.mk' zC
noncomputable def Vx:dh:=pL [(".0",.local),("row",.local),("row_text",.globalImplicit)]
def UI:i4 Vx (Ze T.mz):=⟨Y,zC,zC,zC⟩
def UK:(["row"]:List U).Nodup:=by decide +kernel
def UJ:i3 [nu,"rows"] Vx ["row"] [B]:=.mk' zC
noncomputable def Vw:dh:=pL [(".0",.local),("row",.local),("row_text",.globalImplicit)]
def UE:i4 Vw (Ze T.mz):=⟨Y,zC,zC,zC⟩
def UH:(["row"]:List U).Nodup:=by decide +kernel
def UG:i3 [nu,"rows"] Vw ["row"] [B]:=.mk' zC
def Aa(L:rH K C)(zw:∀x∈mE,J x=B)(CT:l8 P w K J S 1 "row_text" ["first","things"] NI)(CP:l8 P w K J S 2 "place_text" ["row"] KS)(zB:Df K J "show_table" T.mz [nu]):l8 P w K J S 3 "show_table" [nu] (EE C):=by
 refine zB.ur Uj (λvs H Q E h=>by obtain⟨t,T,rfl,_⟩:=h;rfl) λf aF A aC s H vs Q E N h=>?_;obtain⟨t,T,rfl,⟨fs,x1,x2,x3,x4,kk,tp,_⟩,ok,k⟩:=h;refine⟨_,(Zb (st 1 Uj.nd (Zw (Za (cn CT N (Za Zf (Za (Zw (Za (Yw (R 0) Y) Zg)) Zg))) Zg))) (Zb (Yc (YR bD gW gV Ub (R 1) (Za (Yp Y UO UP (MI (Yw (R 0) Y)) (λC s H d pn=>(mH 0 UQ)) (λC s H d pn=>ZW) (λC s H d pn=>(cn CP N (Za (R 0) Zg)))) Zg))) (Zb (Yc (YR bD gW gV Ub (R 1) (Za (Yp Y UL UM (MI (Yw (R 0) Y)) (λC s H d pn=>(mH 0 UN)) (λC s H d pn=>ZW) (λC s H d pn=>(cn CT N (Za Zf (Za (R 0) Zg))))) Zg))) (Zb (Yc (YR bD gW gV Ub (R 1) (Za (Yp Y UI UJ (MI (Yw (R 0) Y)) (λC s H d pn=>(mH 0 UK)) (λC s H d pn=>ZW) (λC s H d pn=>(cn CT N (Za Zf (Za (R 0) Zg))))) Zg))) (Zb (Yc (YR bD gW gV Ub (R 1) (Za (Yp Y UE UG (MI (Yw (R 0) Y)) (λC s H d pn=>(mH 0 UH)) (λC s H d pn=>ZW) (λC s H d pn=>(cn CT N (Za Zf (Za (R 0) Zg))))) Zg))) (Zi (Zn (YR bP gC gB Gy Zf (Za (R 1) Zg))))))))),?_⟩;obtain⟨dx,M⟩:=tp.tab.tab.at_;obtain⟨l1,_,y1,_,a1,_,e1,b1,_⟩:=tp.tab.p;obtain⟨l2,_,y2,_,a2,_,e2,b2,_⟩:=tp.tab.r;obtain⟨l3,_,y3,_,a3,_,e3,b3,_⟩:=tp.tab.w;obtain⟨l4,_,y4,_,a4,_,e4,b4,_⟩:=tp.tab.g;cases e1;cases e2;cases e3;cases e4;have r1:=tp.rows _ (.inl Y) _ _ Y;have r2:=tp.rows _ (.inr (.inl Y)) _ _ Y;have r3:=tp.rows _ (.inr (.inr (.inl Y))) _ _ Y;have r4:=tp.rows _ (.inr (.inr (.inr Y))) _ _ Y;have m1:T.t1.length<=14:=(ok.part 1 (.inl Y)).1;have m2:T.t2.length<=80:=(ok.part 2 (.inr (.inl Y))).1;have m3:T.t3.length<=40:=(ok.part 3 (.inr (.inr (.inl Y)))).1;have m4:T.t4.length<=300:=(ok.part 4 (.inr (.inr (.inr Y)))).1;have n0:=ok.n0;have n1:=ok.n1;have fld:∀{b:Hp},f' H b->b t=O (.ins C dx fs):=λs=>s _ _ M;refine⟨_,Y,t,C,dx,fs,_,Y,M,L.cl,L.na _ (by simp[fields]),tp.tab.turns,zl,λX ar=>?_⟩;have Sc:=Zh (o:=.lst [.int T.n]) (f'.refl H) ar;have ec:upd H X (.lst [.int T.n]) X=O (.lst [.int T.n]):=Zc;generalize upd H X (.lst [.int T.n])=Hc at Sc ec ⊢;refine⟨_,X,[.int T.n],Y,.inl ec,zC,(show 1<=10 by decide),λy hy=>?_,λHd Sd=>⟨zl,λF I=>?_⟩⟩
 .rw[aL.mp hy];exact .inr ⟨T.n,Y,zD⟩
 have z:H F=B:=by
  cases e:H F with
 |none=>rfl
 |some o=>rw[(Sc.trans Sd) _ _ e]at I;cases I
 have S0:f' H (upd Hd F (.lst [.str (Txt.join SP ["turns",txt (.int T.n)])])):=Zh (Sc.trans Sd) I;have R0:upd Hd F (.lst [.str (Txt.join SP ["turns",txt (.int T.n)])]) F=O (.lst ([line (0,[.int T.n])].map V.str)):=Zc;generalize W:upd Hd F (.lst [.str (Txt.join SP ["turns",txt (.int T.n)])])=G0 at S0 R0;rw[show(List.map txt [V.int T.n])=[txt (.int T.n)]from rfl];rw[show(bh "turns")=("turns":U)from rfl];dsimp only;rw[W];clear W;have vc:∀j,isJ j->j≠1->(hJ j).length<=12->∀(b:Hp)(a:G)(c:List V)(Q:VK),c∈T.part j->b a=O (.tup c)->(∀H3,f' b H3->Q (.str (line (j,c))) H3)->∀E,NI [.str (hJ j),.ref a] b Q E:=λj hj h1 az b a c Q i l q E=>by
  obtain⟨w1,w2,w3⟩:=BC ok hj h1 i;refine⟨_,a,_,Y,.inr l,az,w1,w2,λH3 S3=>?_⟩;have:=q H3 S3;rw[show line (j,c)=Txt.join SP (wJ j c) by unfold line wE;rcases hj with rfl|rfl|rfl|rfl<;>rfl,w3]at this
  exact this
 refine tq λD1 ak=>Ga (j:=1) L (by simp[fields]) M a1 b1 r1 z (aj m1 D) (by show 1<=300;decide) S0 R0 Y Y (λb a c Q i l q=>?_) λG1 S1 R1=>ak _ _ (tq λD2 ai=>Ga (j:=2) L (by simp[fields]) M a2 b2 r2 z (aj m2 D) ?_ S1 R1 Y Y (λb a c Q i l q=>?_) λG2 S2 R2=>ai _ _ (tq λD3 ah=>Ga (j:=3) L (by simp[fields]) M a3 b3 r3 z (aj m3 D) ?_ S2 R2 Y Y (λb a c Q i l q=>?_) λG3 S3 R3=>ah _ _ (tq λD4 ab=>Ga (j:=4) L (by simp[fields]) M a4 b4 r4 z m4 ?_ S3 R3 Y Y (λb a c Q i l q=>?_) λG4 S4 R4=>ab _ _ ?_)))
 .obtain⟨p,rfl,hg,aa⟩:=Rw ok i;exact⟨_,Y,a,p,Y,l,hg.1,aa,q⟩
 .simp only[aD,bH,aB,dz];exact aj (h_ m1 _) D
 .exact⟨_,Y,vc 2 (.inr (.inl Y)) D zC b a c Q i l q E0⟩
 .simp only[aD,bH,aB,dz];show 1+T.t1.length+T.t2.length<=300;omega
 .exact⟨_,Y,vc 3 (.inr (.inr (.inl Y))) D zC b a c Q i l q E0⟩
 .simp only[aD,bH,aB,dz];show 1+T.t1.length+T.t2.length+T.t3.length<=300;omega
 .exact⟨_,Y,vc 4 (.inr (.inr (.inr Y))) D zC b a c Q i l q E0⟩
 have ea:(((([line (0,[.int T.n])]++T.t1.map λy=>line (1,y))++T.t2.map λy=>line (2,y))++T.t3.map λy=>line (3,y))++T.t4.map λy=>line (4,y))=(ents T).map line:=by unfold ents;simp only[aH,aA,cY,bu,da,fO];rfl
 replace R4:G4 F=O (.lst (((ents T).map line).map V.str)):=by rw[<-ea];exact R4
 have ho:=LK ok;have hl:=TC ok;have h3:(((ents T).map line).map (·.length)).sum<=(((ents T).map line).map (·.length)).length*130:=Jn λx hx=>by obtain⟨u,hu,rfl⟩:=aG.mp hx;obtain⟨e,he,rfl⟩:=aG.mp hu;exact(ho e he).len
 rw[lm,lm]at h3;refine⟨Y,_,Y,_,F,_,Y,Y,jw.of R4,?_,?_⟩
 .rw[show(bh "\n").length=1 from rfl,lm];omega
 .rw[show(bh "\n":U)=NL from Gw];exact k _ S4
end
def tO.ent (h:tO e):Ye (line e)=O e:=by unfold Ye;rw[h.split,h.pa.row];obtain⟨z,r,b,a⟩:=h.hd;rw[b];show O (jW z,e.2)=O e;rw[RF a h.j]
theorem Po:∀{L:List Ent},(∀e∈L,tO e)->kl (L.map line)=L
|[],_=>rfl
|e::L,h=>by rw[aH];unfold kl;rw[(h e ax).ent];dsimp only;rw[Po λx a=>h x (au _ a)]
def XZ(j:Nat)(e:Ent)(L:List Ent):sel j (e::L)=(if e.1=j then[e.2]else[])++sel j L:=by rw[<-JD,<-YS];rfl
def V2(j i:Nat)(t:List (List V)):sel j (t.map λy=>((i,y):Ent))=if i=j then t else[]:=by
 induction t with
|nil=>by_cases h:i=j<;>simp[sel,h]
|cons y t a=>rw[aH,XZ,a];by_cases h:i=j<;>simp[h]
def OW(T:Tb):TbL T (ents T):=by
 have a:∀j,sel j (ents T)=(if 0=j then[[.int T.n]]else[])++((if 1=j then T.t1 else[])++(if 2=j then T.t2 else[])++(if 3=j then T.t3 else[])++if 4=j then T.t4 else[]):=λj=>by unfold ents;rw[XZ,YS,YS,YS,V2,V2,V2,V2]
 refine⟨by rw[a];simp,λj b=>?_⟩;rw[a];rcases b with rfl|rfl|rfl|rfl<;>simp[Tb.part]
def Ph{j:Nat}{y:List V}(h:sel j L=[y]):∃k,lW j 0 L=[(k,y)]:=by
 have e:=Gd j 0 L;rw[h]at e;cases hs:lW j 0 L with
|nil=>rw[hs]at e;cases e
|cons a r=>
  rw[hs]at e;cases r with
 |nil=>cases e;exact⟨a.1,Y⟩
 |cons b r=>cases e
def Of (o:ow T)(h:∀e∈ents T,tO e):q_ ((ents T).map line) (.inr T):=by
 have b:=Po h;have a:=OW T;obtain⟨k,hk⟩:=Ph a.n;have e:uY T.n (kl ((ents T).map line))=T:=by rw[b];unfold uY;rw[a.p 1 (.inl Y),a.p 2 (.inr (.inl Y)),a.p 3 (.inr (.inr (.inl Y))),a.p 4 (.inr (.inr (.inr Y)))];rfl
 have:=q_.good (ls:=(ents T).map line) (k0:=k) (n:=T.n) (by rw[b,lm]) (by rw[b];exact hk) (by rw[b];refine .good o.n0 o.n1 λi c=>?_;show Y3 i T.n (sel 1 (ents T)) (sel i (ents T));rw[a.p i c,a.p 1 (.inl Y)];exact o.part i c);rwa [e]at this
noncomputable def uZ(T:Tb):gu:=wV T.n T.t1 T.t2 T.t3 T.t4
def sA(H:Hp)(a:G)(T:Tb):Prop:=∃j i h g f d c b,H a=O (.tup [.int T.n,.ref j,.ref i,.ref h,.ref g])/\H j=O (.tup f)/\H i=O (.tup d)/\H h=O (.tup c)/\H g=O (.tup b) /\YK H f (T.t1.map O)/\YK H d (T.t2.map O)/\YK H c (T.t3.map O)/\YK H b (T.t4.map O)
def sA.is   (o:ow T)(h:sA H a T):Is H (.ref a) (uZ T):=by obtain⟨w,u,t,s,r,q,p,n,e,l,j,i,g,f,d,c,b⟩:=h;exact Ba (NT o) l j i g f d c b e
theorem sA.same   (s:f' H x)(h:sA H a T):sA x a T:=by obtain⟨q,p,o,n,f,d,c,b,e,w,u,t,r,l,j,i,g⟩:=h;exact⟨q,p,o,n,f,d,c,b,s _ _ e,s _ _ w,s _ _ u,s _ _ t,s _ _ r,l.same s,j.same s,i.same s,g.same s⟩
def Iv  (h:q_ b (.inr T)):ow T:=by
 cases h with
|good h e a=>exact a.ok
def I0 (o:ow T):(uZ T).canLay0=true:=by
 have g:=NT o;refine GB (ds:=[.int T.n,.tuple (T.t1.map oF),.tuple (T.t2.map oF),.tuple (T.t3.map oF),.tuple (T.t4.map oF)]) λd a=>?_;simp only[ay,a8,or_false]at a;rcases a with rfl|rfl|rfl|rfl|rfl
 .rfl
 .exact Gi g.g1
 .exact Gi g.g2
 .exact Gi g.g3
 .exact Gi g.g4
def Wl (o:ow T):fM (uZ T)=true/\km (uZ T) (uZ T)=true:=by have a:=I0 o;refine⟨?_,PySem.SeqAt.eqv_refl _ a⟩;unfold fM;have b:(uZ T).depth<=64:=aj (NT o).sm.dp D;rw[a,zJ b];rfl
def Q9     (c:wu H C t T){i:VK}(k:∀b q,f' H b->sA b q T->i (.ref q) b):Ww C [.ref t] H i E:=by obtain⟨fs,Q,P,N,M,s,tp,td⟩:=c;refine⟨t,fs,T.n,_,_,_,_,s,Y,tp.tab,λq h g f d L I F A s1 s2 X W r p l j z y x w u=>?_⟩;cases r;cases p;cases l;cases j;have a:=Zh (o:=.tup [.int T.n,.ref h,.ref g,.ref f,.ref d]) (f'.refl H) u;exact k _ q a ⟨h,g,f,d,_,_,_,_,Zc,a _ _ z,a _ _ y,a _ _ x,a _ _ w,(tp.rows _ (.inl Y) _ _ Y).same a,(tp.rows _ (.inr (.inl Y)) _ _ Y).same a,(tp.rows _ (.inr (.inr (.inl Y))) _ _ Y).same a,(tp.rows _ (.inr (.inr (.inr Y))) _ _ Y).same a⟩
def Ra    (b:wu H C t T):∃a fs,H t=O (.ins C a fs)/\fs.lookup ("told":U)=B:=by obtain⟨fs,h,g,f,d,i,tp,td⟩:=b;obtain⟨a,c⟩:=tp.tab.tab.at_;exact⟨a,fs,c,tp.tab.tab.only _ zC⟩
def V1:Sp:=λf H Q _=>∃v,f=[v]/\((∃g,Th H v g/\(∀z,v≠.str z)/\∀b q,f' H b->b q=O (.tup [.str "line",.int 0,.str "form"])->Q (.ref q) b)\/∃(z:U)(c:Sum (Nat×U) Tb),v=.str z/\z.length<=200000/\(∀l∈Txt.split z NL,l.length<=1000)/\(Txt.split z NL).length<=1000/\q_ (Txt.split z NL) c /\(∀m d,c=.inl (m,d)->∀b q,f' H b->b q=O (.tup [.str "line",.int (m:Nat),.str d])->Q (.ref q) b)/\∀T,c=.inr T->∀b q a,f' H b->b q=O (.tup [.str nu,.ref a])->sA b a T->Q (.ref q) b)
def LX(Cl:G)(H:Hp)(r y:V):XK:=λc b a=>∃f,c=cv f Cl/\∃d,b=O d/\a d=O (XD d [("row",r),("why",y)])/\f' H a
def Lv{b:Bool}{Cl:G}{H f:Hp}{r y:V}(s:f' H f):BL b Cl r y f (LX Cl H r y):=λg d a h k=>⟨b,Y,d,Y,h,λc o e=>by rw[k c (λz=>by rw[z]at e;rw[s d o e]at a;cases a)];exact s c o e⟩
section
variable {P:a9}{w:bg}{K:af}{J:U->Option Z}{S:bC}{C Cl Γ Φ:G}
def YO:ia [vJ,w9,"_law_table","e"] [vJ] (Ze T.pv):=nc
def Ec(zw:∀x∈mE,J x=B)(zo:rH K C)(XL:yP K J "BadLine" Cl Γ Φ)(nL:YL K Cl "row"/\YL K Cl "why")(CR:oU P w K J S 10 "read_table" ["text"] (EG C Cl))(CS:l8 P w K J S 3 "show_table" [nu] (EE C))(CT:nG P w K J S qf 1 C "told" [mG] (Ww C))(zB:Df K J "_law_told" T.pv [vJ]):l8 P w K J S 11 "_law_told" [vJ] V1:=by
 obtain⟨fm,bT,FM,hm,hk,bM⟩:=id CR;refine zB.cn YO λf b0 A bb s H vs Q E L h=>?_;obtain⟨v,rfl,h⟩:=h;refine' ⟨_,(Zb (st 1 YO.nd ZK) (Zb (st 2 YO.nd ZK) (Zb ?h7 (Zb ?h8 (Zi (Zn (R 1))))))),?rd⟩;case' h8=>refine' (ZC (Zo V9 (R 2) ZK (Zu _)) (Zb ?h3 (Zi ?h4)) Zq)
 case' h7=>refine' (Fh ⟨Y,Y⟩ (λE' bx pp E hp=>Zi (Yv (i:=2) YO.nd Y (dD Y) (WL FM L Y hm hk bM .nil hp (Za (R 0) Zg)))) (ZaL (i:=3) XL.xb Y XL.mg YO.nd Y Y (λx=>Zi (Yv (i:=1) YO.nd Y (dD Y) (Yo (Za Zf (Za (Rx (R 3)) (Za (Rx (R 3)) Zg)))))) Hy))
 case' h4=>refine' (ZC (Zo (WU L.units) (Px CT zo.cl Ul L.m (Xv CR BU L.m Y (me (cn CS L (me (R 2)))))) (Px CT zo.cl Ul L.m (R 2)) (Zu _)) (Zi (st 1 YO.nd ZK)) Zq)
 case' h3=>refine' (st 1 YO.nd (Yo (o7 Zf (Px CT zo.cl Ul L.m (R 2)))))
 case' rd=>
 have err:∀(r y:V)(zB:Ends)(c:Z)(j:Option G)(a:Hp),(∀M q,f' H M->M q=O (.tup [.str "line",r,y])->zB.nx [O v,O (.ref q),O .non,B] M)->LX Cl H r y c j a->∃b C',c=cv b C'/\∀x,a x=B->M' K Cl 3 (λx=>u9 (x9 (Yg (tC (V.str "line")) (Yg (QB K (mI 3) "row") (Yg (QB K (mI 3) "why") mq)))) (Vu 1)) yw x C' j zB [O v,O .non,O .non,B] (upd a x (oS b x C' j)):=by
  rintro r y zB c j a k ⟨b,rfl,d,rfl,ah,S5⟩;refine⟨b,Cl,Y,λx hx=>⟨Γ,Φ,XL.xc,.inl ⟨zE,?_⟩⟩⟩;have S6:f' H (upd a x (oS b x Cl (O d))):=Zh S5 hx;have N:upd a x (oS b x Cl (O d)) x=O (oS b x Cl (O d)):=Zc;have W:upd a x (oS b x Cl (O d)) d=O (XD d [("row",r),("why",y)]):=by rw[Zk (Zp ah hx)];exact ah
  generalize upd a x (oS b x Cl (O d))=H6 at S6 N W;refine⟨_,Y,x,Cl,d,_,_,Y,.inl ⟨b,N⟩,W,XL.xr,nL.1,Y,?_⟩;refine⟨_,Y,x,Cl,d,_,_,Y,.inl ⟨b,N⟩,W,XL.xr,nL.2,Y,zl,λq hq=>?_⟩;exact k _ q (Zh S6 hq) Zc
 rcases h with⟨T',th,ns,k⟩|⟨z,aP,rfl,hz,hl,hn,hR,kb,kg⟩
 .refine⟨LX Cl H (.int 0) (.str "form"),?_,λc j a hE=>err _ _ _ c j a (λM q S' e'=>?_) hE⟩
  .exact⟨Y,_,Y,v,Y,.inl ⟨T',th,ns,λH1 s=>Lv s⟩⟩
  .refine⟨_,Y,Y,_,Y,kv ?_⟩;exact⟨_,Y,k M q S' e'⟩
 cases aP with
|inl mw=>
  obtain⟨m,aF⟩:=mw;refine⟨LX Cl H (.int (m:Nat)) (.str aF),?_,λc j a hE=>err _ _ _ c j a (λM q S' e'=>?_) hE⟩
  .refine⟨Y,_,Y,_,Y,.inr ⟨z,_,Y,hz,hl,hn,hR,λm' n e b H1 s=>?_,λT e=>(by cases e)⟩⟩;cases e;exact Lv s
  .refine⟨_,Y,Y,_,Y,kv ?_⟩;exact⟨_,Y,kb _ _ Y M q S' e'⟩
|inr T=>
  have ok:=Iv hR;refine⟨λ_ _ _=>False,?_,λ_ _ _ z=>z.elim⟩;refine⟨Y,_,Y,_,Y,.inr ⟨z,_,Y,hz,hl,hn,hR,λm' n e=>(by cases e),λT' e H1 t S1 g=>?_⟩⟩;cases e;obtain⟨dx,fs,ht,a3⟩:=Ra g;refine⟨_,Y,Y,_,Y,kq ?_⟩;refine⟨_,Y,t,dx,fs,Y,ht,a3,?_⟩;dsimp only[mq];refine Q9 g λH2 q S2 aM=>?_;refine⟨zl,λp hp=>?_⟩;have S3:=Zh (o:=.tup [.str nu,.ref q]) (f'.refl H2) hp;have e3:upd H2 p (.tup [.str nu,.ref q]) p=O (.tup [.str nu,.ref q]):=Zc;generalize upd H2 p (.tup [.str nu,.ref q])=H3 at S3 e3 ⊢;have aa:=S2.trans S3;refine⟨_,Y,t,T,Y,g.same aa,ok,λH4 S4=>?_⟩;have eo:=LK ok;have el:=TC ok;have ne:ents T≠[]:=λe=>by cases e
  have es:=Wk eo ne;refine⟨_,Y,.inr ⟨text (ents T),.inr T,Y,aj (WR eo (aj el D)) D,λl ab=>?_,by rw[es,lm];exact aj el D,by rw[es];exact Of ok eo,λm' n e=>(by cases e),λT' e a u S5 I=>?_⟩⟩
  .rw[es]at ab;obtain⟨e,he,rfl⟩:=aG.mp ab;exact aj (eo e he).len D
  cases e;obtain⟨a7,a5,a0,aC⟩:=Ra I;refine⟨u,a7,a5,Y,a0,aC,?_⟩;dsimp only[mq];refine Q9 I λH6 q6 S6 ar=>?_;have ai:=(S4.trans S5).trans S6;have F:=g.same (aa.trans ai);obtain⟨a6,a4,aS,az⟩:=Ra F;refine⟨_,Y,t,a6,a4,Y,aS,az,?_⟩;dsimp only[mq];refine Q9 F λH7 q7 S7 ak=>?_;refine⟨uZ T,uZ T,(ar.same S7).is ok,ak.is ok,?_,?_,_,Y,?_⟩
  .exact(Wl ok).1
  .exact(Wl ok).1
  rw[(Wl ok).2];refine kv ?_;have X:=ai.trans S7;exact⟨_,Y,kg T Y H7 p q ((S1.trans aa).trans X) (X _ _ e3) ((aM.same S3).same X)⟩
end
noncomputable def RA(g:Bool):Int:=if g=true then 12 else 8
noncomputable def Xk(g:Bool):U:=if g=true then"." else""
def PQ(g:Bool):codes (Xk g)=if g=true then[46]else[]:=by cases g<;>decide +kernel
def Ds:codes ("abcdefghijklmnopqrstuvwxyz0123456789":U)=pN++K1.qE:=by decide +kernel
def Du:codes ("abcdefghijklmnopqrstuvwxyz":U)=pN:=by decide +kernel
def Ua  :ZM g (.str z)=((decide ((1:Int)<=(codes z).length)&&decide (((codes z).length:Int)<=RA g))&&((codes z).all λc=>decide (c∈pN++K1.qE++codes (Xk g)))&&decide ((codes z).getD 0 0∈pN)):=by
 cases g
 .show K1.VN 8 (K1.codes K1.m8) (codes z)=_;rw[K1.ZaQ,PQ];rfl
 .show K1.VN 12 (K1.codes K1.mD) (codes z)=_;rw[K1.Zah,PQ];rfl
def QJ{l:List Nat} :(l.all p)=decide (((l.filter λc=>!p c).map f)=[]):=by
 rw[c_,bY,decide_eq_true_iff,dZ,jP];constructor
 .intro h a b q;rw[h a b]at q;cases q
 .intro h a b;cases d:p a with
 |true=>rfl
 |false=>exact zI (by rw[d];rfl) (h a b)
def KY:Sp:=λb H Q _=>∃(z:U)(g:Bool),b=[.str z,.int (RA g),.str (Xk g)]/\z.length<=1000/\∀a,f' H a->Q (.bl (ZM g (.str z))) a
section
variable {P:a9}{w:bg}{K:af}{J:U->Option Z}{S:bC}
def SH:ia [pd,"_law_most",rk] [pd,"_law_most",rk] (Ze T.oa):=nc
noncomputable def Up:dh:=pL [(".0",.local),(vI,.local),(rk,.free)]
def MX:i4 Up (Ze T.oa):=⟨Y,zC,zC,zC⟩
def MZ:([vI,rk]:List U).Nodup:=by decide +kernel
def MY:i3 [pd,"_law_most",rk] Up [vI,rk] [B,O 2]:=.mk' zC
def Ee(zw:∀x∈mE,J x=B)(zB:Df K J "_law_name" T.oa [pd,"_law_most",rk]):l8 P w K J S 1 "_law_name" [pd,"_law_most",rk] KY:=by
 refine zB.cn SH λf ab A M s H vs Q E hr h=>?_;obtain⟨z,g,rfl,hz,k⟩:=h;refine⟨_,(Zb (ZC (PW.pt (JH (Yn (Gn VL VL Zd (Zz Jk Y (bm zw) bt (Za (R 0) Zg)) (R 1))) (X7 (Zo Vh (Yh VP (R 0) Zd (λ_ _=>rfl)) Zf (by with_unfolding_all rfl))))) (Zi (Zn VJ)) Zq) (Zi (Zn (Z5 (PL hr.units) (Yp Y MX MY (WI (R 0)) (λC s H ex pn=>(mH 0 MZ)) (λC s H ex pn=>(V4 (Zo Vh (R 0) (Zv ZS Zf (R 1)) (by with_unfolding_all rfl)))) (λC s H ex pn=>(R 0))) (Zw Zg) (Zu _))))),?_⟩;have b:z.length<=sizeLine:=K1.sS hz;have I:(z.length:Int)=(codes z).length:=by rw[ZF]
 have y:ZM g (.str z)=false->Q (.bl false) H:=λe=>by have:=k H (f'.refl H);rw[e]at this;exact this
 refine⟨_,Y,z,Y,b,_,_,Y,Y,_,Y,?_⟩;refine Xr (λu=>?_) (λu=>?_)
 .refine⟨_,Y,_,_,Y,Y,_,Y,?_⟩;cases e2:decide ((z.length:Int)<=RA g)with
 |false=>refine kq (kq (y ?_));rw[Ua,<-I,e2];simp
 |true=>
   refine kv ?_;have h1:1<=z.length:=by have:=zL u;omega
   obtain⟨c,r,ec⟩:∃c r,codes z=c::r:=by
    cases F:codes z with
   |nil=>rw[<-ZF,F]at h1;simp at h1
   |cons c r=>exact⟨c,r,Y⟩
   have qc:oY z.cps.toList 0=O c:=XN (j:=0) Y (by show(codes z)[0]?=_;rw[ec];rfl);have t:(codes z).getD 0 0=c:=by rw[ec];rfl
   refine⟨_,Y,z,0,c,Y,Y,b,qc,_,_,Y,Y,_,Y,?_⟩;rw[K1.MQ,show K1.codes (bh "abcdefghijklmnopqrstuvwxyz")=pN from Du];cases e3:decide (c∈pN)with
  |false=>refine kq (y ?_);rw[Ua,t,e3];simp
  |true=>
    refine kv ?_;have L:∀c:Nat,(!(!(bR (("abcdefghijklmnopqrstuvwxyz0123456789":U)++Xk g) ⟨#[c]⟩ 0 (("abcdefghijklmnopqrstuvwxyz0123456789":U)++Xk g).length 1).isEmpty))=!decide (c∈pN++K1.qE++codes (Xk g)):=λc=>by rw[K1.MQ,show K1.codes (("abcdefghijklmnopqrstuvwxyz0123456789":U)++Xk g)=pN++K1.qE++codes (Xk g)from by rw[show K1.codes _=codes _ from rfl,J4,Ds]]
    have aa:(Xk g).length<=1:=by cases g<;>decide +kernel
    refine⟨_,Y,z,Y,Vp (zA:=yH z) z.length b (λi n l a=>a=H/\n=(((codes z).take i).filter λc=>!decide (c∈pN++K1.qE++codes (Xk g))).map (λc=>V.str ⟨#[c]⟩)/\∃v,l=[v,O (.str (Xk g))]) ⟨Y,Y,B,Y⟩ (λi n l a p=>?_) (λi n l a X p=>X) (λn l a p=>aq _) (λi n l a x H2 X p yl=>?_) (λn l a p q F=>?_)⟩
    .obtain⟨_,rfl,_⟩:=p;rw[lm];exact aj (dJ _ _) (by rw[aY];omega)
    .obtain⟨rfl,rfl,v,rfl⟩:=p;obtain⟨rfl,d,hd,rfl⟩:=yl;have e0:(codes z)[i]?=O d:=hd;refine⟨_,Y,_,Y,_,_,Y,Y,aj (by show 36+(Xk g).length<=100;omega) D,_,_,Y,Y,_,Y,?_⟩;rw[L];refine Xr (λe=>?_) (λe=>?_)
     .refine⟨_,Y,Y,?_,_,Y⟩;rw[YM _ _ e0,zH e,aA];rfl
     .refine⟨Y,?_,_,Y⟩;rw[YM _ _ e0,zG (by rw[e];exact aW),bj]
    .obtain⟨rfl,rfl,v,rfl⟩:=p;refine⟨zl,λN o=>?_⟩;refine⟨q,N,_,Y,Y,jw.of (by rw[Zk (Zp Zc o)];exact Zc),Zc,?_⟩;have sm:f' a (upd (upd a q (.lst ((((codes z).take z.length).filter λc=>!decide (c∈pN++K1.qE++codes (Xk g))).map (λc=>V.str ⟨#[c]⟩)))) N (.lst [])):=Zh (Zh (f'.refl _) F) o;have W:=k _ sm;have ev:ZM g (.str z)=decide ((((codes z).take z.length).filter λc=>!decide (c∈pN++K1.qE++codes (Xk g))).map (λc=>V.str ⟨#[c]⟩)=[]):=by rw[Ua,<-I,t,u,e2,e3,bp (by rw[ZF];exact aq _),<-QJ];simp
     rw[ev]at W;exact W
 .refine⟨_,Y,?_⟩;refine kq (kq (y ?_));rw[Ua,<-I];have:decide ((1:Int)<=(z.length:Int))=false:=u;rw[this];simp
end
end TX
namespace L2
open PySem PySem.Spec PyProof.Rows
noncomputable def uo:bV->Option V
|.Constant (.str x) _ _=>O (.str x)
|.Constant (.int n) _ _=>O (.int n)
|.Constant .none _ _=>O .non
|_=>B
def zS(a:List V):TA:=λ_ H Q=>Q a H
section
variable {X:Cx}
def BQ {v:V}(h:uo e=O v):PE X e (tC v)/\Y5 e=true:=by
 unfold uo at h;split at h
 .cases h;exact⟨Zf,Y⟩
 .cases h;exact⟨Zd,Y⟩
 .cases h;exact⟨ZK,Y⟩
 .cases h
theorem Lp:∀{a:List bV},(a.all λe=>(uo e).isSome)=true->PA X a (zS (a.filterMap uo))
|[],_=>Zg
|e::a,h=>by
  rw[List.all_cons,bJ]at h;obtain⟨v,b⟩:=eJ.mp h.1;obtain⟨c,d⟩:=BQ (X:=X) b;have:=Za c (Lp h.2) d;have f:zS ((e::a).filterMap uo)=Yg (tC v) (zS (a.filterMap uo)):=by rw[fg,b];rfl
  rw[f];exact this
end
def Ta{X:Cx}(T:X.A.units+64<iE):oZ X (cF .NotEq) (yf true X.K):=by
 intro c s i H x y v u Q I C t h;obtain⟨a,b,r,rfl,rfl,L,F,q⟩:=h;cases C;cases t;obtain⟨N,l,p1,_⟩:=I.list L;obtain⟨_,p,P,g,_,M⟩:=I.qH F;have f:=g.zero;subst f;have n:s.heap.IsList b #[]:=⟨_,M,Y,_,Y⟩;have E:=l.length;by_cases d:r=[]
 .subst d;have o:=l.zero;subst o;refine SeqAt.RcNeAt.lists (A:=X.A) (s:=s) (e:=λ_=>true) p1.isList n Y zD (λj o f=>by simp at f) X.prog X.w X.xe (EP X c i Q) ⟨.bl false,H,I,Y,?_⟩;simpa using q
 .refine SeqAt.RcNeAt.lists_lengths (A:=X.A) (s:=s) p1.isList n ?_ zD X.prog X.w X.xe (EP X c i Q) ⟨.bl true,H,I,Y,?_⟩
  .simpa using λz=>d (by subst z;simpa using E)
  .simpa[d]using q
end L2
namespace TX
open PySem L2 PySem.Spec PyProof.Rows TB WD
def W8:codes ("0123456789":U)=K1.qE:=by decide +kernel
def ER:Sp:=λb H Q _=>∃(z:U),b=[.str z]/\z.length<=1000/\∀a,f' H a->Q (.bl (K1.n8 (codes z)).isSome) a
def Gu :(K1.n8 y).isSome=((decide ((1:Int)<=y.length)&&decide ((y.length:Int)<=4))&&(y.all λc=>decide (c∈K1.qE))&&(decide (y=[48])||!decide (y.getD 0 0=48))):=by
 unfold K1.n8 K1.YC K1.qy;cases d:((decide ((1:Int)<=y.length)&&decide ((y.length:Int)<=4))&&(y.all λc=>decide (c∈K1.qE)))with
|false=>rfl
|true=>
  rw[zH Y,cO];by_cases b:y.getD 0 0=48<;>by_cases a:y=[48]
  .rw[zG (λz=>z.2 a),zJ a];rfl
  .rw[zH ⟨b,a⟩,zJ b,zK a];rfl
  .rw[zG (λz=>b z.1),zJ a];rfl
  .rw[zG (λz=>b z.1),zK b,zK a];rfl
section
variable {P:a9}{w:bg}{K:af}{J:U->Option Z}{S:bC}
def Pm:ia [pd] [pd] (Ze T.mX):=nc
noncomputable def J1:dh:=pL [(".0",.local),(vI,.local)]
def Ue:i4 J1 (Ze T.mX):=⟨Y,zC,zC,zC⟩
def Uh:([vI]:List U).Nodup:=by decide +kernel
def Ug:i3 [pd] J1 [vI] [B]:=.mk' zC
def Ak(zw:∀x∈mE,J x=B)(zB:Df K J "_law_figures" T.mX [pd]):l8 P w K J S 1 "_law_figures" [pd] ER:=by
 refine zB.cn Pm λf aa A X s H vs Q E hr h=>?_;obtain⟨z,rfl,hz,k⟩:=h;refine⟨_,(Zb (ZC (PW.pt (JH (Zo Tc (Zz Jk Y (bm zw) bt (Za (R 0) Zg)) Zd (Zu _)) (JH (Zo JW (Zz Jk Y (bm zw) bt (Za (R 0) Zg)) Zd (Zu _)) (X7 (Zo (Ta hr.units) (Yp Y Ue Ug (WI (R 0)) (λC s H ex pn=>(mH 0 Uh)) (λC s H ex pn=>(V4 (Zo Vh (R 0) Zf (by with_unfolding_all rfl)))) (λC s H ex pn=>(R 0))) (Zw Zg) (Zu _)))))) (Zi (Zn VJ)) Zq) (Zi (Zn (IB (Z5 Ym (R 0) Zf (Zu _)) (XH (Z5 JK (Yh VP (R 0) Zd (λ_ _=>rfl)) Zf (Zu _))))))),?_⟩;have b:z.length<=sizeLine:=K1.sS hz;have el:(z.length:Int)=(codes z).length:=by rw[ZF]
 have y:(K1.n8 (codes z)).isSome=false->∀a,f' H a->Q (.bl false) a:=λe a s=>by have:=k a s;rw[e]at this;exact this
 refine⟨_,Y,z,Y,b,_,_,Y,Y,_,Y,?_⟩;refine Xr (λM=>?_) (λM=>?_)
 .refine kq (y ?_ _ (f'.refl _));have:¬(1:Int)<=(codes z).length:=by have:=zL M;omega
  rw[Gu,zK this];rfl
 refine⟨_,Y,z,Y,b,_,_,Y,Y,_,Y,?_⟩;refine Xr (λL=>?_) (λL=>?_)
 .refine kq (y ?_ _ (f'.refl _));have:¬((codes z).length:Int)<=4:=by have:=zL L;omega
  rw[Gu,zK this,j9];rfl
 have N:∀c:Nat,(!(!(bR ("0123456789":U) ⟨#[c]⟩ 0 ("0123456789":U).length 1).isEmpty))=!decide (c∈K1.qE):=λc=>by rw[K1.MQ,show K1.codes ("0123456789":U)=K1.qE from W8]
 refine⟨_,Y,z,Y,Vp (zA:=yH z) z.length b (λi l g a=>a=H/\l=(((codes z).take i).filter λc=>!decide (c∈K1.qE)).map (λc=>V.str ⟨#[c]⟩)/\∃v,g=[v]) ⟨Y,Y,B,Y⟩ (λi l g a p=>?_) (λi l g a hi p=>hi) (λl g a p=>aq _) (λi l g a x H2 hi p yl=>?_) (λl g a p q F=>?_)⟩
 .obtain⟨_,rfl,_⟩:=p;rw[lm];exact aj (dJ _ _) (by rw[aY];omega)
 .obtain⟨rfl,rfl,v,rfl⟩:=p;obtain⟨rfl,d,hd,rfl⟩:=yl;have t:(codes z)[i]?=O d:=hd;refine⟨_,Y,_,_,Y,Y,_,Y,?_⟩;rw[N];refine Xr (λe=>?_) (λe=>?_)
  .refine⟨_,Y,Y,?_,_,Y⟩;rw[YM _ _ t,zH e,aA];rfl
  .refine⟨Y,?_,_,Y⟩;rw[YM _ _ t,zG (by rw[e];exact aW),bj]
 obtain⟨rfl,rfl,v,rfl⟩:=p;refine⟨zl,λu o=>?_⟩;refine⟨q,u,_,Y,Y,jw.of (by rw[Zk (Zp Zc o)];exact Zc),Zc,_,Y,?_⟩;have sm:f' a (upd (upd a q (.lst ((((codes z).take z.length).filter λc=>!decide (c∈K1.qE)).map (λc=>V.str ⟨#[c]⟩)))) u (.lst [])):=Zh (Zh (f'.refl _) F) o;generalize upd (upd a q (.lst ((((codes z).take z.length).filter λc=>!decide (c∈K1.qE)).map (λc=>V.str ⟨#[c]⟩)))) u (.lst [])=H2 at sm;rw[bp (by rw[ZF];exact aq _),zH Y,<-QJ];cases e3:(codes z).all λc=>decide (c∈K1.qE)with
|false=>refine kq (y ?_ _ sm);rw[Gu,e3];simp
|true=>
  refine kv ?_;have I:decide ((1:Int)<=(codes z).length)=true:=by refine zJ ?_;have:=of_decide_eq_false M;omega
  have h2:decide (((codes z).length:Int)<=4)=true:=by refine zJ ?_;have:=of_decide_eq_false L;omega
  obtain⟨c,r,ec⟩:∃c r,codes z=c::r:=by
   cases F:codes z with
  |nil=>rw[F]at I;simp at I
  |cons c r=>exact⟨c,r,Y⟩
  have qc:oY z.cps.toList 0=O c:=XN (j:=0) Y (by show(codes z)[0]?=_;rw[ec];rfl);have W:(codes z).getD 0 0=c:=by rw[ec];rfl
  have n:=k _ sm;rw[Gu,I,h2,e3,cO,cO,cO,W]at n;have t:decide (V.str z=V.str "0")=decide (codes z=[48]):=by
   rw[c_,decide_eq_true_iff,decide_eq_true_iff];constructor
   .intro q;injection q with q;rw[q];decide +kernel
   .intro q;rw[show z="0" from Xa (show codes z=codes ("0":U) by rw[q];decide +kernel)]
  refine⟨_,Y,Y,_,Y,?_⟩;rw[t];cases e4:decide (codes z=[48])with
 |true=>rw[e4,k6]at n;exact kq n
 |false=>
   rw[e4,kH]at n;refine kv ?_;refine⟨_,Y,z,0,c,Y,Y,b,qc,Y,?_⟩;have e5:decide (V.str ⟨#[c]⟩=V.str "0")=decide (c=48):=by
    rw[c_,decide_eq_true_iff,decide_eq_true_iff];constructor
    .intro q;injection q with q;have:codes (⟨#[c]⟩:U)=codes ("0":U):=by rw[q]
     have e:codes ("0":U)=[48]:=by decide +kernel
     rw[e]at this;exact List.head_eq_of_cons_eq this
    .rintro rfl;rfl
   rw[e5];exact n
end
end TX
namespace L2
open PySem PySem.W PySem.Spec PyProof.Rows
section
variable {X:Cx}
def ZaA:R2:=λx y H Q=>∃(a:G)(z:V)(k:Int),x=.ref a/\y=.int k/\H a=O (.lst [z])/\(k=0\/k=1)/\∀p,H p=B->Q (.ref p) (upd H p (.lst (if k=1 then[z]else[])))
def Oy:oZ X (gY .Mult) ZaA:=by
 intro d s E H x y v u Q I j i h;obtain⟨a,z,k,rfl,rfl,p,hk,q⟩:=h;cases j;obtain⟨t,rfl⟩:=i;obtain⟨_,C,n,l,M,e⟩:=I.qH p;obtain⟨c,rfl,g⟩:=Zt.one l;have A:¬(!Builtin.List.listFitsIndex k)=true:=by rcases hk with rfl|rfl<;>decide
 have w:¬(#[c]:Array Z).size*k.toNat>(2 ^ 63-1) / 8:=by rcases hk with rfl|rfl<;>(show ¬(1*_>_);decide)
 have r:¬fB ((#[c]:Array Z).size*k.toNat)=true:=by rcases hk with rfl|rfl<;>(show ¬fB (1*_)=true;decide)
 refine wpAny_binaryOp_repeat_ref (T:="list") (U:="int") D ⟨_,e,Y⟩ (λf=>typeIs_int f k t) noFill_list_mul PySem.F.fills_int_mul PySem.F.slot_int_rmul repeat_list PySem.F.slot_int_index.lookup (g9 PySem.F.slot_int_rmul (typeIs_int s k t) PySem.F.entry_int_rmul (PySem.F.args_int_rmul_2 _ _) (int___rmul___int_list k t a _ n) ⟨e,Y,⟨_,e,Y⟩,?_⟩);refine g9 PySem.F.slot_list_mul ⟨_,e,Y⟩ PySem.F.entry_list_mul (PySem.F.args_list_mul_2 _ _) (PySem.AutoListH.list___mul___list_int_3 a _ n k t A w r) ⟨e,?_⟩;refine⟨.ref s.heap.objs.size,_,I.laid (t':=s.toks) (o:=.lst (if k=1 then[z]else[])) (λb L q=>av _ q) (aq _) ?_,Y,q _ (I.lI.fresh (aq _))⟩;rcases hk with rfl|rfl
 .exact⟨bK _,[],0,.nil,aR _ Y⟩
 .exact⟨zl,[c],0,.cons g .nil,aR _ Y⟩
end
end L2
namespace TX
open PySem L2 PySem.Spec PyProof.Rows TB WD
noncomputable def fS(z:U):U:=if z="turns" then"0" else if z="place" then"n0" else if z="home" then"n" else if z="ride" then"nn0n00" else if z="way" then"nnn00" else if z="group" then"gn00" else""
noncomputable def vO:List (Key×V):=[(.inr "turns",.str "0"),(.inr "place",.str "n0"),(.inr "home",.str "n"),(.inr "ride",.str "nn0n00"),(.inr "way",.str "nnn00"),(.inr "group",.str "gn00")]
noncomputable def sgn(f:U):Nat:=if f="number" then 48 else if f="name" then 110 else 103
def Ce(z:U):(j2 vO (.inr z)).getD (.str "")=.str (fS z):=by
 unfold vO fS;by_cases h:z="turns"
 .subst h;decide +kernel
 by_cases g:z="place"
 .subst g;decide +kernel
 by_cases f:z="home"
 .subst f;decide +kernel
 by_cases d:z="ride"
 .subst d;decide +kernel
 by_cases c:z="way"
 .subst c;decide +kernel
 by_cases b:z="group"
 .subst b;decide +kernel
 rw[zG h,zG g,zG f,zG d,zG c,zG b];have j:∀i∈([(.inr "turns",.str "0"),(.inr "place",.str "n0"),(.inr "home",.str "n"),(.inr "ride",.str "nn0n00"),(.inr "way",.str "nnn00"),(.inr "group",.str "gn00")]:List (Key×V)),¬(decide (i.1=gM z))=true:=λi a e=>by
  have e:=zL e;simp only[ay,a8,or_false]at a;rcases a with rfl|rfl|rfl|rfl|rfl|rfl<;>injection e with e
  .exact h e.symm
  .exact g e.symm
  .exact f e.symm
  .exact d e.symm
  .exact c e.symm
  .exact b e.symm
 unfold j2;rw[List.find?_eq_none.mpr j];rfl
def OU(z:U):(ZN z=B/\fS z="")\/∃f,ZN z=O f/\codes (fS z)=f.map sgn/\fS z≠""/\(∀x∈f,x="number"\/x="name"\/x="group name"):=by
 unfold ZN fS;by_cases a:z="turns"
 .right;rw[zH a,zH a];exact⟨_,Y,zC,zC,zC⟩
 by_cases b:z="place"
 .right;rw[zG a,zG a,zH b,zH b];exact⟨_,Y,zC,zC,zC⟩
 by_cases c:z="home"
 .right;rw[zG a,zG a,zG b,zG b,zH c,zH c];exact⟨_,Y,zC,zC,zC⟩
 by_cases d:z="ride"
 .right;rw[zG a,zG a,zG b,zG b,zG c,zG c,zH d,zH d];exact⟨_,Y,zC,zC,zC⟩
 by_cases g:z="way"
 .right;rw[zG a,zG a,zG b,zG b,zG c,zG c,zG d,zG d,zH g,zH g];exact⟨_,Y,zC,zC,zC⟩
 by_cases h:z="group"
 .right;rw[zG a,zG a,zG b,zG b,zG c,zG c,zG d,zG d,zG g,zG g,zH h,zH h];exact⟨_,Y,zC,zC,zC⟩
 .left;rw[zG a,zG a,zG b,zG b,zG c,zG c,zG d,zG d,zG g,zG g,zG h,zG h];exact⟨Y,Y⟩
def FG {n:Int}(h:K1.n8 (codes z)=O n)(b:z.length<=1000):jZ z=O n/\z.length<=640:=by
 unfold K1.n8 K1.YC K1.qy at h;split at h
 .next e=>
  split at h
  .cases h
  .cases h;simp only[bJ,decide_eq_true_eq,bY]at e;have c:(codes z).length=z.length:=ZF ..;refine⟨K1.Tr e.2 (λq=>?_) b,zD⟩;have a:=e.1.1;rw[show codes z=[]from q]at a;simp at a
 .cases h
def X'(g:Bool):oY [V.int 8,V.int 12] (if g=true then 1 else 0)=O (.int (RA g)):=by cases g<;>rfl
def X_(g:Bool):oY [V.str "",V.str "."] (if g=true then 1 else 0)=O (.str (Xk g)):=by cases g<;>rfl
def ID(Q:VK)(H:Hp)(z:U)(r:Option (List V)):Prop:=match r with
|none=>Q .non H
|some a=>∀q t,H q=O (.tup [.str z,.ref t])->H t=O (.tup a)->Q (.ref q) H
def EO:Sp:=λb H Q _=>∃(z:U),b=[.str z]/\z.length<=1000/\∀a,f' H a->ID Q a ((Txt.split z SP).headD "") (mP (Txt.split z SP))
section
variable {P:a9}{w:bg}{K:af}{J:U->Option Z}{S:bC}
def Xi:ia [qV,sY,"_law_forms","_law_form",tS,pd,vI] [qV] (Ze T.pU):=nc
def Aj(zw:∀x∈mE,J x=B)(CF:l8 P w K J S 1 "_law_figures" [pd] ER)(CN:l8 P w K J S 1 "_law_name" [pd,"_law_most",rk] KY)(zB:Df K J "_law_row" T.pU [qV]):l8 P w K J S 2 "_law_row" [qV] EO:=by
 refine zB.cn Xi λf c0 A cS s H vs Q E hr h=>?_;obtain⟨z,rfl,hz,k⟩:=h;refine' ⟨_,(@Zb _ _ _ _ _ ?cm (@Zb _ _ _ _ _ ?ck (@Zb _ _ _ _ _ ?cj (@Zb _ _ _ _ _ ?cf (@Zb _ _ _ _ _ ?cc (@Zb _ _ _ _ _ ?b8 (@Zi _ _ _ ?b7))))))),?rd⟩;case' b7=>refine' (Zn ?cx)
 case' b8=>refine' (Y9 dH Y (Ll Y (bm zw) (@o7 _ _ _ _ _ (ZG (r:=ny K) Z0 (R 1) (ZP Zd) ZQ) (R 3) zF)) (XG Y (Zx (mH 5 Xi.nd) (Zx (mH 6 Xi.nd) Yd))) (@Zi _ _ _ ?cG))
 case' cc=>refine' (@st _ _ _ _ 4 _ _ Xi.nd ?h4 zF (by exact dD Y) zF (by exact .inl Y))
 case' cf=>refine' (@ZC _ _ _ _ _ _ _ _ (PW.pt (JH (@Zo _ _ _ _ _ _ _ _ Ym (R 3) Zf (Zu _)) (X7 (@Zo _ _ _ _ _ _ _ _ JK (Zz (r:=nJ K) ZO Y (bm zw) bt (@me _ _ _ (R 1) zF)) (Zv Z3 (Zz Jk Y (bm zw) bt (@me _ _ _ (R 3) zF)) Zd) (Zu _))))) (@Zi _ _ _ ?h3) Zq)
 case' cj=>refine' (@st _ _ _ _ 3 _ _ Xi.nd (Fs (Xx hr) (R 2) ?h2 Zf ⟨Y,Y,Y,Y⟩) zF (by exact dD Y) zF (by exact .inl Y))
 case' ck=>refine' (@st _ _ _ _ 2 _ _ Xi.nd ?h1 zF (by exact dD Y) zF (by exact .inl Y))
 case' cm=>refine' (@st _ _ _ _ 1 _ _ Xi.nd (YR bP dY dX Jr (R 0) (@me _ _ _ Zf zF)) zF (by exact dD Y) zF (by exact .inl Y))
 case' cx=>refine' (@Yo _ _ _ _ _ (@o7 _ _ _ _ _ ?cy (ZE YH Y (bm zw) XA (@me _ _ _ (Zv Yq (R 4) (Zv Oy ?cE (ZE Yj Y (bm zw) Y2 (@me _ _ _ (@Z5 _ _ _ _ _ _ _ _ Ym ?cB Zf (Zu _)) zF)))) zF)) zF))
 case' cE=>refine' (@Zw _ _ _ _ (@me _ _ _ ZK zF))
 case' cG=>refine' (@ZC _ _ _ _ _ _ _ _ (@Zo _ _ _ _ _ _ _ _ Ym (R 6) Zf (Zu _)) (@Zb _ _ _ _ _ ?h6 (@Zi _ _ _ ?h7)) (@Zb _ _ _ _ _ ?cI (@Zi _ _ _ ?cH)))
 case' cH=>refine' (Yc (YR bD cA cz Y6 (R 4) (@me _ _ _ (R 5) zF)))
 case' cI=>refine' (@ZC _ _ _ _ _ _ _ _ (Yn (Yu (cn CN hr (@qX _ _ _ _ _ _ _ (R 5) ?cN ?h9 zF)))) (@Zi _ _ _ ?cK) Zq)
 case' cN=>refine' (@il _ _ _ _ _ _ K ?cP (ZE Yj Y (bm zw) Y2 (@me _ _ _ (@Z5 _ _ _ _ _ _ _ _ Ym (R 6) Zf (Zu _)) zF)) zF (by exact λ_ _=>rfl))
 case' cP=>refine' (@Zw _ _ _ _ (@o7 _ _ _ _ _ Zd Zd zF))
 case' h9=>refine' (@il _ _ _ _ _ _ K ?h8 (ZE Yj Y (bm zw) Y2 (@me _ _ _ (@Z5 _ _ _ _ _ _ _ _ Ym (R 6) Zf (Zu _)) zF)) zF (by exact λ_ _=>rfl))
 case' h8=>refine' (@Zw _ _ _ _ (@o7 _ _ _ _ _ Zf Zf zF))
 case' h7=>refine' (Yc (YR bD cA cz Y6 (R 4) (@me _ _ _ (ZE Q2 Y (bm zw) Y2 (@me _ _ _ (R 5) zF)) zF)))
 case' h6=>refine' (@ZC _ _ _ _ _ _ _ _ (Yn (Yu (cn CF hr (@me _ _ _ (R 5) zF)))) (@Zi _ _ _ ?h5) Zq)
 case' h4=>refine' (@Zw _ _ _ _ Zg)
 case' cK|h5|h3=>refine' (Zn ZK)
 case' cy|cB|h2=>refine' (@il _ _ _ _ _ _ K (R 1) Zd zF (by exact λ_ _=>rfl))
 case' h1=>refine' (@Lm _ _ _ _ _ (@Jp _ _ _ _ _ _ _ _ _ Zf Zf (@Jp _ _ _ _ _ _ _ _ _ Zf Zf (@Jp _ _ _ _ _ _ _ _ _ Zf Zf (@Jp _ _ _ _ _ _ _ _ _ Zf Zf (@Jp _ _ _ _ _ _ _ _ _ Zf Zf (@Jp _ _ _ _ _ _ _ _ _ Zf Zf Lj)))))) Y Y (List.cons_ne_nil _ _) D)
 case' rd=>
 obtain⟨c1,c2,c3,c4⟩:=Gz hz;refine⟨_,Y,Y,_,_,Y,Y,c1,c2,c3,c4,λw1 a6=>?_⟩;dsimp only;rw[show(bh " ":U)=SP from Np];refine nZ a6 λH1 S1 e1=>?_;obtain⟨s1,s2⟩:=YN (c:=32) hz;have s1:∀w∈Txt.split z SP,w.length<=1000:=s1;have s2:(Txt.split z SP).length<=1001:=s2;have sn:=Xd z SP;generalize Txt.split z SP=ws at k e1 s1 s2 sn;cases ws with
|nil=>exact zI Y sn
|cons j r=>
 rw[aH]at e1;clear c1 c2 c3 c4 sn;refine λp hp=>⟨Zc,vO,Y,eI Y,?_⟩;have em:UA [] vO=vO:=by decide +kernel
 rw[em];have S2:f' H1 (upd (upd H1 p (.dK [])) p (.dK vO)):=λc o e=>by rw[Zk (Zp e hp),Zk (Zp e hp)];exact e
 have e2:upd (upd H1 p (.dK [])) p (.dK vO) p=O (.dK vO):=Zc;generalize upd (upd H1 p (.dK [])) p (.dK vO)=H2 at S2 e2 ⊢;refine⟨_,Y,p,Y,(.inl ⟨_,.inl e2⟩),rA 0 (S2 _ _ e1) Y ⟨j2 vO (.inr j),nY.k (k:=.inr j) e2,?_⟩⟩;rw[Ce];have ah:=S1.trans S2;rcases OU j with⟨hf,hs⟩|⟨f,hf,hs,bx,a0⟩
 .rw[hs];refine⟨_,Y,Y,_,Y,kq ?_⟩;refine kq ?_;have:=k _ ah;unfold mP at this;dsimp only at this;rw[hf]at this;exact this
 refine⟨_,Y,Y,_,Y,?_⟩;rw[zK (λq=>bx (by injection q))];refine kv ?_;have aC:(fS j).length=f.length:=by rw[<-ZF,hs,lm]
 refine⟨_,Y,w1,_,Y,.inl (jw.of (S2 _ _ e1)),?_⟩;have b5:(fS j).length<=6:=by unfold fS;repeat (first|(split;decide +kernel)|decide +kernel)
 refine⟨_,Y,_,Y,aj b5 D,_,_,Y,Y,Y,_,Y,?_⟩;rw[aC];by_cases I:r.length=f.length;case neg=>
  have el:decide (V.int ((V.str j::r.map V.str).length:Int)=V.int ((f.length:Int)+1))=false:=by rw[aB,lm];refine zK λq=>I ?_;injection q with q;omega
  rw[el];refine kq ?_;have:=k _ ah;unfold mP at this;dsimp only at this;rw[hf]at this;dsimp only at this;rw[zK I,fw,zG D]at this;exact this
 have el:decide (V.int ((V.str j::r.map V.str).length:Int)=V.int ((f.length:Int)+1))=true:=by rw[aB,lm,I];exact zJ Y
 rw[el];refine kv ?_;refine⟨zl,λl hR=>?_⟩;dsimp only;have S3:=Zh (o:=.lst []) (f'.refl H2) hR;have e3:upd H2 l (.lst []) l=O (.lst []):=Zc;have a4:H l=B:=by
  cases e:H l with
 |none=>rfl
 |some o=>rw[ah _ _ e]at hR;cases hR
 generalize upd H2 l (.lst [])=H3 at S3 e3 ⊢;have aM:=S3 _ _ (S2 _ _ e1);have a3:w1≠l:=Zp (S2 _ _ e1) hR;refine⟨_,Y,_,Y,w1,_,Y,jw.of aM,λl1 ai=>?_⟩;have ec:m_ (V.str j::r.map V.str) (O 1) B=r.map V.str:=by
  have h1:HT.mF (V.str j::r.map V.str).length 0 (O 1)=1:=by unfold HT.mF;rw[aB,lm];simp;try omega
  unfold m_;rw[h1];show((V.str j::r.map V.str).drop 1).take (_-1)=_;rw[List.drop_one,List.tail_cons];refine bp ?_;show _<=HT.mF _ _ B-1;unfold HT.mF;rw[lm,aB,lm];simp
 rw[ec];have S4:=Zh (o:=.lst (r.map V.str)) (f'.refl H3) ai;have e4:upd H3 l1 (.lst (r.map V.str)) l1=O (.lst (r.map V.str)):=Zc;have a5:l1≠l:=λz=>by rw[z,e3]at ai;cases ai
 generalize upd H3 l1 (.lst (r.map V.str))=H4 at S4 e4 ⊢;refine⟨_,Y,_,_,_,_,Y,.lst e4,.str (fS j),?_⟩;have cT:r.length<=1000:=by rw[aB]at s2;omega
 have cR:=(ah.trans S3).trans S4;have b1:(things r f).length=r.length:=by unfold things;rw[lm,c9];omega
 have kf:tV .non (things r f)=true->∀d,f' H d->Q .non d:=λhi d s=>by have:=k _ s;unfold mP at this;dsimp only at this;rw[hf]at this;dsimp only at this;rw[hi,Bool.not_true,j9,zG D]at this;exact this
 have ar:(rj (fS j)).length=f.length:=by rw[<-aC];simp[rj,Str.length]
 refine Xy (zA:=yS (λH xs=>H l1=O (.lst xs)) λ_ xs=>xs=rj (fS j)) r.length (λi σ d=>i<=r.length/\f' H d/\d l1=O (.lst (r.map V.str))/\d w1=O (.lst (V.str j::r.map V.str))/\d l=O (.lst ((things r f).take i))/\(∀v∈(things r f).take i,v≠.non)/\∃a b,σ=[O (.str z),O (.ref w1),O (.ref p),O (.str (fS j)),O (.ref l),a,b]) ⟨bK _,cR,e4,S4 _ _ aM,S4 _ _ e3,λv hv=>(by cases hv),B,B,Y⟩ (λi σ d hi q=>⟨_,_,q.2.2.1,Y,by rw[lm];exact hi,by rw[ar,<-I];exact hi⟩) (λσ d q=>⟨_,_,q.2.2.1,Y,by rw[lm,ar];omega⟩) (λi σ d x H5 hi q yl=>?_) (λσ d q=>?_)
 .obtain⟨_,S5,e5,X,aa,W,a,b,rfl⟩:=q;obtain⟨Tt,a',b',hT,ha,L,rfl,rfl⟩:=yl;have ha:=ha _ e5;have L:=L _ Y;unfold rj at L;rw[aT]at L;obtain⟨c,hc,rfl⟩:=iu.mp L;rw[aT,gE hi]at ha;cases ha;have az:i<f.length:=by omega
  have b6:c=sgn f[i]:=by have h1:(codes (fS j))[i]?=O c:=hc;rw[hs,aT,gE az]at h1;exact(aJ h1).symm
  have xV:=a0 f[i] (bo az);have N:(things r f)[i]?=O (ZU r[i] f[i]):=by
   have hz:i<(r.zip f).length:=by rw[c9];omega
   unfold things;rw[aT,gE hz,jF];rfl
  have M:r[i].length<=1000:=s1 _ (au _ (bo hi));subst b6;generalize r[i]=C at N M;generalize f[i]=u at N xV;have S6:=Zh (o:=.tup [.str C,.str ⟨#[sgn u]⟩]) (f'.refl d) hT;have e6:upd d Tt (.tup [.str C,.str ⟨#[sgn u]⟩]) Tt=O (.tup [.str C,.str ⟨#[sgn u]⟩]):=Zc;generalize upd d Tt (.tup [.str C,.str ⟨#[sgn u]⟩])=H6 at S6 e6 ⊢;refine⟨Tt,_,Y,lR.of e6,Y,_,_,Y,_,_,Y,Y,?_⟩;have bad:ZU C u=.non->∀d,f' H6 d->Q .non d:=λe d s=>kf (by
   cases ak:tV .non (things r f)with
  |true=>rfl
  |false=>exact zI e ((P4 _ (XY r f)).mp ak _ (cU N))) _ ((S5.trans S6).trans s)
  have good:∀(y:Hp)(v:V),v=ZU C u->v≠.non->f' H6 y->y l=O (.lst ((things r f).take i))/\(i+1<=r.length/\f' H (upd y l (.lst ((things r f).take i++[v])))/\upd y l (.lst ((things r f).take i++[v])) l1=O (.lst (r.map V.str))/\upd y l (.lst ((things r f).take i++[v])) w1=O (.lst (V.str j::r.map V.str))/\upd y l (.lst ((things r f).take i++[v])) l=O (.lst ((things r f).take (i+1)))/\∀v∈(things r f).take (i+1),v≠.non):=λy v ev hv s7=>by
   have ab:=S6.trans s7;have et:(things r f).take (i+1)=(things r f).take i++[v]:=by rw[cq,N,ev];rfl
   refine⟨ab _ _ aa,hi,λc o e=>?_,?_,?_,?_,?_⟩
   .rw[Zk (Zp e a4)];exact ab _ _ (S5 _ _ e)
   .rw[Zk a5];exact ab _ _ e5
   .rw[Zk a3];exact ab _ _ X
   .rw[Zc,et]
   .rw[et];intro v' a7;rcases ba.mp a7 with h|h
    .exact W v' h
    .rw[aL.mp h];exact hv
  have aF:((things r f).take i).length<sizeLine:=YA (by rw[aY];omega);have sg:∀(x:U)(c:Nat),codes x=[c]->decide (V.str ⟨#[sgn u]⟩=V.str x)=decide (sgn u=c):=λx c hx=>by
   rw[c_,decide_eq_true_iff,decide_eq_true_iff];constructor
   .intro q;injection q with q;have:codes (⟨#[sgn u]⟩:U)=codes x:=by rw[q]
    rw[hx]at this;exact List.head_eq_of_cons_eq this
   .rintro h;rw[show(⟨#[sgn u]⟩:U)=x from Xa (show[sgn u]=codes x by rw[hx,h])]
  refine⟨_,Y,Y,_,Y,?_⟩;rw[sg "0" 48 zC];rcases xV with rfl|xV
  .refine kq ?_;have ew:ZU C "number"=K1.rn (K1.n8 (codes C)):=zH Y;refine⟨_,Y,_,Y,M,λy S7=>?_⟩;refine⟨_,Y,?_⟩;cases hn:K1.n8 (codes C)with
  |none=>refine kq ?_;exact bad (by rw[ew,hn];rfl) y S7
  |some n=>refine kv ?_;obtain⟨ak,b0⟩:=FG hn M;obtain⟨e7,g1,g2,g3,g4,g5,g6⟩:=good y (.int n) (by rw[ew,hn];rfl) (λz=>by cases z) S7;refine⟨_,Y,.inl ⟨Y,_,jw.of e7⟩,_,Y,C,n,Y,ak,b0,?_⟩;exact⟨l,_,_,Y,Y,e7,aF,g1,g2,g3,g4,g5,g6,_,_,Y⟩
  .have cW:u≠"number":=by rcases xV with rfl|rfl<;>decide +kernel
   have bb:sgn u≠48:=by rcases xV with rfl|rfl<;>decide +kernel
   rw[zK bb];refine kv ?_;obtain⟨g,eg,ew⟩:∃g,decide (sgn u=103)=g/\ZU C u=if ZM g (.str C)=true then .str C else .non:=by
    rcases xV with rfl|rfl
    .exact⟨false,zC,by unfold ZU;rw[zG zC,zJ Y];rfl⟩
    .exact⟨true,zC,by unfold ZU;rw[zG zC,zK zC];rfl⟩
   refine⟨_,Y,zl,λlq bT=>?_⟩;refine⟨_,Y,Y,.inr ⟨decide (V.str ⟨#[sgn u]⟩=V.str "g"),Y,?_⟩⟩;rw[sg "g" 103 zC,eg];refine⟨lq,_,_,_,Y,Y,jw.of Zc,X' g,?_⟩;have S7:=Zh (o:=.lst [.int 8,.int 12]) (f'.refl H6) bT;dsimp only;generalize upd H6 lq (.lst [.int 8,.int 12])=y at S7 ⊢;refine⟨zl,λls bM=>?_⟩;refine⟨_,Y,Y,.inr ⟨decide (V.str ⟨#[sgn u]⟩=V.str "g"),Y,?_⟩⟩;rw[sg "g" 103 zC,eg];refine⟨ls,_,_,_,Y,Y,jw.of Zc,X_ g,?_⟩;have S8:=Zh (o:=.lst [.str "",.str "."]) (f'.refl y) bM;dsimp only;generalize upd y ls (.lst [.str "",.str "."])=H8 at S8 ⊢;refine⟨C,g,Y,M,λH9 S9=>?_⟩;have aP:=(S7.trans S8).trans S9;refine⟨_,Y,?_⟩;cases hn:ZM g (.str C)with
  |false=>refine kq ?_;exact bad (by rw[ew,hn];rfl) H9 aP
  |true=>refine kv ?_;obtain⟨e7,g1,g2,g3,g4,g5,g6⟩:=good H9 (.str C) (by rw[ew,hn];rfl) (λz=>by cases z) aP;exact⟨_,Y,.inl ⟨Y,_,jw.of e7⟩,_,Y,l,_,_,Y,Y,e7,aF,g1,g2,g3,g4,g5,g6,_,_,Y⟩
 .obtain⟨_,S5,e5,X,aa,W,a,b,rfl⟩:=q;rw[<-b1,cg]at aa W;have b4:tV .non (things r f)=false:=(P4 _ (XY r f)).mpr W;have kg:∀d,f' H d->∀q t,d q=O (.tup [.str j,.ref t])->d t=O (.tup (things r f++if j="home" then[.non]else[]))->Q (.ref q) d:=λd s=>by have:=k _ s;unfold mP at this;dsimp only at this;rw[hf]at this;dsimp only at this;rw[b4,zJ I,Bool.not_false,Bool.and_true,zH Y]at this;exact this
  refine rA 0 X Y ?_;refine⟨_,Y,?_⟩;refine⟨zl,λlN hN=>?_⟩;have S6:=Zh (o:=.lst [.non]) (f'.refl d) hN;have e6:upd d lN (.lst [.non]) lN=O (.lst [.non]):=Zc;dsimp only;generalize upd d lN (.lst [.non])=H6 at S6 e6 ⊢;refine rA 0 (S6 _ _ X) Y ⟨Y,.inr ⟨decide (V.str j=V.str "home"),Y,lN,.non,_,Y,Y,e6,(by cases decide (V.str j=V.str "home")<;>simp),λlM hM=>?_⟩⟩;have eM:(if(if decide (V.str j=V.str "home")=true then(1:Int)else 0)=1 then[V.non]else[])=if j="home" then[V.non]else[]:=by
   by_cases e:j="home"
   .rw[zJ (by rw[e]),zH e];rfl
   .rw[zK (λq=>e (by injection q)),zG e];rfl
  rw[eM];generalize hE:(if j="home" then[V.non]else[])=F at kg ⊢;have cX:F.length<=1:=by rw[<-hE];split<;>simp
  have S7:=Zh (o:=.lst F) (f'.refl H6) hM;have e7:upd H6 lM (.lst F) lM=O (.lst F):=Zc;generalize upd H6 lM (.lst F)=y at S7 e7 ⊢;have aS:=S6.trans S7;refine⟨l,lM,_,_,Y,Y,aS _ _ aa,e7,aj (show(things r f).length+F.length<=1001 by omega) D,λl5 b3=>?_⟩;dsimp only;have S8:=Zh (o:=.lst (things r f++F)) (f'.refl y) b3;have e8:upd y l5 (.lst (things r f++F)) l5=O (.lst (things r f++F)):=Zc;generalize upd y l5 (.lst (things r f++F))=H8 at S8 e8 ⊢;refine⟨l5,_,Y,.inl ⟨jw.of e8,λl6 b2=>?_⟩⟩;have S9:=Zh (o:=.tup (things r f++F)) (f'.refl H8) b2;have e9:upd H8 l6 (.tup (things r f++F)) l6=O (.tup (things r f++F)):=Zc;generalize upd H8 l6 (.tup (things r f++F))=H9 at S9 e9 ⊢;refine⟨zl,λq hq=>?_⟩;exact kg _ (Zh (((S5.trans aS).trans S8).trans S9) hq) q l6 Zc (by rw[Zk (Zp e9 hq)];exact e9)
end
inductive mZ:Nat->List V->Prop where
|wb {z:U} (h:ZM false (.str z)=true):mZ 1 [.str z,.non]
|place {z:U}{i:Int} (h:ZM false (.str z)=true) (h0:0<=i):mZ 1 [.str z,.int i]
|vd {z s g:U}{lv cm se:Int} (h:ZM false (.str z)=true) (h1:0<=lv) (h2:0<=cm) (h3:0<=se):mZ 2 [.str z,.str s,.int lv,.str g,.int cm,.int se]
|way {z s g:U}{lo wi:Int} (h:ZM false (.str z)=true) (h1:0<=lo) (h2:0<=wi):mZ 3 [.str z,.str s,.str g,.int lo,.int wi]
|group {z p:U}{t m:Int} (h:ZM true (.str z)=true) (h1:0<=t) (h2:0<=m):mZ 4 [.str z,.str p,.int t,.int m]
def Jf (h:ZU w "name"≠.non):ZU w "name"=.str w/\ZM false (.str w)=true:=by
 unfold ZU at h ⊢;rw[zG zC,zJ Y]at h ⊢;by_cases e:ZM (!true) (.str w)=true
 .exact⟨zH e,e⟩
 .exact zI (zG e) h
def Em (h:ZU w "group name"≠.non):ZU w "group name"=.str w/\ZM true (.str w)=true:=by
 unfold ZU at h ⊢;rw[zG zC,zK zC]at h ⊢;by_cases e:ZM (!false) (.str w)=true
 .exact⟨zH e,e⟩
 .exact zI (zG e) h
def J6 (h:ZU w "number"≠.non):∃n:Int,ZU w "number"=.int n/\0<=n:=by
 have e:ZU w "number"=K1.rn (K1.n8 (K1.codes w)):=zH Y;rw[e]at h ⊢;cases a:K1.n8 (K1.codes w)with
|none=>rw[a]at h;exact zI Y h
|some n=>
  refine⟨n,Y,?_⟩;unfold K1.n8 at a;split at a
  .split at a
   .cases a
   .cases a;exact Int.natCast_nonneg _
  .cases a
theorem ZI(w f:U)(r fs:List U):things (w::r) (f::fs)=ZU w f::things r fs:=rfl
def WM{z:U}{r:List U}{t:List V}(h:mP (z::r)=O t):(jW z=0->∃n:Int,t=[.int n])/\(jW z≠0->mZ (jW z) t):=by
 obtain⟨N,P,f,e,i,p,g,rfl⟩:=JT h;cases e;unfold ZN at i;have two:∀{a b:U},r.length=[a,b].length->∃x y,r=[x,y]:=λh=>p_ h;have one:∀{a:U},r.length=[a].length->∃x,r=[x]:=λh=>rz h;split at i
 .next e=>subst e;cases i;obtain⟨x,rfl⟩:=one p;obtain⟨n,e,_⟩:=J6 (g (ZU x "number") (ax ..));refine⟨λ_=>⟨n,?_⟩,λz=>zI (by decide +kernel:jW "turns"=0) z⟩;rw[ZI,e,zG zC];rfl
 split at i
 .next e=>subst e;cases i;obtain⟨x,y,rfl⟩:=two p;obtain⟨l,j⟩:=Jf (g (ZU x "name") (ax ..));obtain⟨n,o,L⟩:=J6 (g (ZU y "number") (by simp[things]));refine⟨λz=>zI z zC,λ_=>?_⟩;rw[ZI,ZI,l,o,zG zC,show jW "place"=1 by decide +kernel];exact .place j L
 split at i
 .next e=>subst e;cases i;obtain⟨x,rfl⟩:=one p;obtain⟨l,j⟩:=Jf (g (ZU x "name") (ax ..));refine⟨λz=>zI z zC,λ_=>?_⟩;rw[ZI,l,zH Y,show jW "home"=1 by decide +kernel];exact .wb j
 split at i
 .next e=>subst e;cases i;obtain⟨a,b,c,d,x,y,rfl⟩:=v7 p;obtain⟨l,j⟩:=Jf (g (ZU a "name") (ax ..));obtain⟨o,_⟩:=Jf (g (ZU b "name") (by simp[things]));obtain⟨H,s,A⟩:=J6 (g (ZU c "number") (by simp[things]));obtain⟨q,_⟩:=Jf (g (ZU d "name") (by simp[things]));obtain⟨E,C,u⟩:=J6 (g (ZU x "number") (by simp[things]));obtain⟨Q,M,I⟩:=J6 (g (ZU y "number") (by simp[things]));refine⟨λz=>zI z zC,λ_=>?_⟩;rw[ZI,ZI,ZI,ZI,ZI,ZI,l,o,s,q,C,M,zG zC,show jW "ride"=2 by decide +kernel];exact .vd j A u I
 split at i
 .next e=>subst e;cases i;obtain⟨a,b,c,d,x,rfl⟩:=rp p;obtain⟨l,j⟩:=Jf (g (ZU a "name") (ax ..));obtain⟨o,_⟩:=Jf (g (ZU b "name") (by simp[things]));obtain⟨s,_⟩:=Jf (g (ZU c "name") (by simp[things]));obtain⟨F,q,w⟩:=J6 (g (ZU d "number") (by simp[things]));obtain⟨E,C,u⟩:=J6 (g (ZU x "number") (by simp[things]));refine⟨λz=>zI z zC,λ_=>?_⟩;rw[ZI,ZI,ZI,ZI,ZI,l,o,s,q,C,zG zC,show jW "way"=3 by decide +kernel];exact .way j w u
 split at i
 .next e=>subst e;cases i;obtain⟨a,b,c,d,rfl⟩:=qY p;obtain⟨l,j⟩:=Em (g (ZU a "group name") (ax ..));obtain⟨o,_⟩:=Jf (g (ZU b "name") (by simp[things]));obtain⟨H,s,A⟩:=J6 (g (ZU c "number") (by simp[things]));obtain⟨F,q,w⟩:=J6 (g (ZU d "number") (by simp[things]));refine⟨λz=>zI z zC,λ_=>?_⟩;rw[ZI,ZI,ZI,ZI,l,o,s,q,zG zC,show jW "group"=4 by decide +kernel];exact .group j A w
 .cases i
noncomputable def iv(v:V):Int:=match v with
|.int i=>i
|_=>0
noncomputable def sv(v:V):U:=match v with
|.str z=>z
|_=>""
noncomputable def mu(a:Kv)(s g:U):U:=if(j2 a (.inr s)).isSome=false then"place" else if(j2 a (.inr g)).isSome=false then"place" else if j2 a (.inr s)=O .non then"home" else if s=g then"alike" else""
noncomputable def pI(j:Nat)(b:Kv)(n:Int)(c:List U)(d:Int)(a:List V):U:=if Zl a∈c then"double" else if j=1 then(if at_ a 1≠.non/\iv (at_ a 1)>1000 then"number" else"")else if j=4 then(if(j2 b (.inr (sv (at_ a 1)))).isSome=false then"place" else if iv (at_ a 2)>n then"turn" else if iv (at_ a 3)>300 then"number" else if iv (at_ a 3)+d>300 then"people" else"")else if mu b (sv (at_ a 1)) (sv (at_ a (if j=3 then 2 else 3)))≠"" then mu b (sv (at_ a 1)) (sv (at_ a (if j=3 then 2 else 3)))else if j=3 then(if ¬(1<=iv (at_ a 3)/\iv (at_ a 3)<=50)\/iv (at_ a 4)>1000 then"number" else"")else if iv (at_ a 2)>n-1\/¬(iv (at_ a 2)<iv (at_ a 4)/\iv (at_ a 4)<=n)then"turn" else if iv (at_ a 5)>1000 then"number" else""
noncomputable def sO(s:U):V:=if s="" then .non else .str s
def Jc{s:U}(h:s≠""):sO s=.str s:=zG h
def TK(a:Kv)(s g:U):Xf a (.str s) (.str g)=sO (mu a s g):=by
 have e:Xf a (.str s) (.str g)=if(!(j2 a (.inr s)).isSome||!(j2 a (.inr g)).isSome)=true then .str "place" else if decide (j2 a (.inr s)=O .non)=true then .str "home" else if V.str g=V.str s then .str "alike" else .non:=rfl
 rw[e];cases i:(j2 a (.inr s)).isSome with
|false=>rw[show mu a s g="place" from zH i,Jc zC];rfl
|true=>
  have f:¬(j2 a (.inr s)).isSome=false:=by rw[i];decide
  cases h:(j2 a (.inr g)).isSome with
 |false=>rw[show mu a s g="place" from(zG f).trans (zH h),Jc zC];rfl
 |true=>
   have j:¬(j2 a (.inr g)).isSome=false:=by rw[h];decide
   have b:mu a s g=(if j2 a (.inr s)=O .non then("home":U)else if s=g then("alike":U)else("":U)):=(zG f).trans (zG j);rw[b,zG D];by_cases d:j2 a (.inr s)=O .non
   .rw[zH (zJ d),zH d,Jc zC]
   .rw[zG (λz=>d (zL z)),zG d];by_cases c:s=g
    .rw[zH (by rw[c]),zH c,Jc zC]
    .rw[zG (λz=>c (by injection z with z;exact z.symm)),zG c];rfl
def HP{j:Nat}(h:mZ j C){n d:Int}{nms:List U}(hk:∀z,(j2 u (.inr z)).isSome=decide (z∈nms)):oq j c n d u (O C)=sO (pI j c n nms d C):=by
 have T:∀{g:Bool}{m:Nat}{z:U}{l:List V},(V.str z::l).length=m->ZM g (.str z)=true->qK g m u (.str z::l)=if z∈nms then .str "double" else .non:=λ{g m z l}P N=>by
  unfold qK;rw[zG (λq=>q P),show(V.str z::l).getD 0 .non=.str z from rfl,N,zG D];show(if(j2 u (.inr z)).isSome=true then _ else _)=_;rw[hk];by_cases e:z∈nms
  .rw[zJ e,zH Y,zH e]
  .rw[zK e,zG D,zG e]
 have w:∀{z:U}{l:List V},(V.str z::l)=C->ZM (gJ j) (.str z)=true->(V.str z::l).length=rM j->(z∉nms->qU j c n d C=sO (pI j c n nms d C))->oq j c n d u (O C)=sO (pI j c n nms d C):=λ{z l}e N P W=>by
  subst e;have b:pW (gJ j) (rM j) u (O (V.str z::l))=if z∈nms then .str "double" else .non:=T P N
  by_cases f:z∈nms
  .rw[GH (by rw[b,zH f];exact λq=>by cases q),b,zH f,show pI j c n nms d (V.str z::l)="double" from zH f,Jc zC]
  .rw[NX (by rw[b,zG f]),W f]
 cases h with
|@wb z h=>refine w Y h Y λf=>?_;rw[show pI 1 c n nms d [V.str z,.non]="" from(zG f).trans ((zH Y).trans (zG λq=>q.1 Y))];rfl
|@place z i h h0=>
  refine w Y h Y λf=>?_;have a:pI 1 c n nms d [V.str z,.int i]=(if i>1000 then("number":U)else("":U)):=(zG f).trans ((zH Y).trans (by
   show(if(V.int i≠.non/\i>1000)then _ else _)=_;by_cases e:i>1000
   .rw[zH ⟨λq=>(by cases q),e⟩,zH e]
   .rw[zG (λq=>e q.2),zG e]));rw[a];show XX (.int i)=_;unfold XX;show(if(decide (V.int i=.non)||(decide (0<=i)&&decide (i<=1000)))=true then V.non else .str "number")=_
  rw[zK (λq=>by cases q),zJ h0,kH,cO];by_cases e:i>1000
  .rw[zK zD,zG D,zH e,Jc zC]
  .rw[zJ zD,zH Y,zG e];rfl
|@vd z s g o r E h M L X=>
  refine w Y h Y λf=>?_;have a:pI 2 c n nms d [.str z,.str s,.int o,.str g,.int r,.int E]=(if mu c s g≠"" then mu c s g else if o>n-1\/¬(o<r/\r<=n)then("turn":U)else if E>1000 then("number":U)else("":U)):=(zG f).trans ((zG D).trans (zG D));rw[a];show Nt c n (.str s) (.int o) (.str g) (.int r) (.int E)=_;unfold Nt;rw[TK];by_cases x:mu c s g=""
  .have Q:sO (mu c s g)=.non:=by rw[x];rfl
   rw[zG (show ¬(sO (mu c s g)≠.non)from λq=>q Q),zG (show ¬(mu c s g≠"")from λq=>q x)];show(if(!(decide (0<=o)&&decide (o<=n-1))||!(decide (o+1<=r)&&decide (r<=n)))=true then V.str "turn" else if(!(decide (0<=E)&&decide (E<=1000)))=true then .str "number" else .non)=_
   rw[zJ M,zJ X,cO,cO];by_cases e:o>n-1\/¬(o<r/\r<=n)
   .rw[zH e,Jc zC,zH];rcases e with e|e
    .rw[zK zD];rfl
    .by_cases y:o<r
     .rw[zK (p:=r<=n) (λq=>e ⟨y,q⟩)];simp
     .rw[zK (p:=o+1<=r) zD];simp
   .have y:o<=n-1:=by omega
    have H:o+1<=r:=by omega
    have F:r<=n:=by omega
    rw[zG e,zJ y,zJ H,zJ F,zG D];by_cases I:E>1000
    .rw[zH I,zK zD,zH zF,Jc zC]
    .rw[zG I,zJ zD,zG D];rfl
  .rw[zH x,zH (by rw[Jc x];exact λq=>by cases q)]
|@way z s g lo A h M L=>
  refine w Y h Y λf=>?_;have a:pI 3 c n nms d [.str z,.str s,.str g,.int lo,.int A]=(if mu c s g≠"" then mu c s g else if ¬(1<=lo/\lo<=50)\/A>1000 then("number":U)else("":U)):=(zG f).trans ((zG D).trans (zG D));rw[a];show rh c (.str s) (.str g) (.int lo) (.int A)=_;unfold rh;rw[TK];by_cases x:mu c s g=""
  .have Q:sO (mu c s g)=.non:=by rw[x];rfl
   rw[zG (show ¬(sO (mu c s g)≠.non)from λq=>q Q),zG (show ¬(mu c s g≠"")from λq=>q x)];show(if(!(decide (1<=lo)&&decide (lo<=50))||!(decide (0<=A)&&decide (A<=1000)))=true then V.str "number" else .non)=_
   rw[zJ L,cO];by_cases e:¬(1<=lo/\lo<=50)\/A>1000
   .rw[zH e,Jc zC,zH];rcases e with e|e
    .by_cases y:1<=lo
     .rw[zK (p:=lo<=50) (λq=>e ⟨y,q⟩)];simp
     .rw[zK y];rfl
    .rw[zK (p:=A<=1000) zD];simp
   .have y:1<=lo:=by omega
    have H:lo<=50:=by omega
    have F:A<=1000:=by omega
    rw[zG e,zJ y,zJ H,zJ F,zG D];rfl
  .rw[zH x,zH (by rw[Jc x];exact λq=>by cases q)]
|@group z p t m h M L=>
  refine w Y h Y λf=>?_;have a:pI 4 c n nms d [.str z,.str p,.int t,.int m]=(if(j2 c (.inr p)).isSome=false then("place":U)else if t>n then("turn":U)else if m>300 then("number":U)else if m+d>300 then("people":U)else("":U)):=(zG f).trans ((zG D).trans (zH Y));rw[a];show(if(!(j2 c (.inr p)).isSome)=true then V.str "place" else if(!(decide (0<=t)&&decide (t<=n)))=true then .str "turn" else if(!(decide (0<=m)&&decide (m<=300)))=true then .str "number" else if d+m>300 then .str "people" else .non)=_;rw[zJ M,zJ L,cO,cO];cases y:(j2 c (.inr p)).isSome with
 |false=>rw[zH zF,zH Y,Jc zC]
 |true=>
   rw[zG (show ¬(!true)=true by decide),zG (show ¬(true=false) by decide)];by_cases H:t>n
   .rw[zK (p:=t<=n) zD,zH (show(!false)=true by rfl),zH H,Jc zC]
   .rw[zJ (p:=t<=n) zD,zG (show ¬(!true)=true by decide),zG H];by_cases F:m>300
    .rw[zK (p:=m<=300) zD,zH (show(!false)=true by rfl),zH F,Jc zC]
    .rw[zJ (p:=m<=300) zD,zG (show ¬(!true)=true by decide),zG F];by_cases I:m+d>300
     .rw[zH zD,zH I,Jc zC]
     .rw[zG zD,zG I];rfl
def W2  (d:mj b a)(h:VB g a)(hs:(j2 b (.inr s)).isSome=true):j2 g (.inr s)=j2 b (.inr s):=by
 by_cases f:s∈a.map Zl
 .obtain⟨p,c,rfl⟩:=aG.mp f;rw[h p c,d.has p c]
 .rw[d.no s f]at hs;cases hs
def Xg{c:Prop}[Decidable c]{a b:U}(f:a≠"")(h:(if c then a else b)=""):¬c/\b="":=by
 by_cases d:c
 .rw[zH d]at h;exact zI h f
 .rw[zG d]at h;exact⟨d,h⟩
def O7  (d:mj a b)(h:VB j b)(e:mu a s g=""):mu j s g="":=by
 unfold mu at e;obtain⟨f,e⟩:=Xg zC e;obtain⟨c,e⟩:=Xg zC e;obtain⟨n,e⟩:=Xg zC e;obtain⟨l,_⟩:=Xg zC e;have b:(j2 a (.inr s)).isSome=true:=by cases q:(j2 a (.inr s)).isSome with|true=>rfl|false=>exact zI q f
 have i:(j2 a (.inr g)).isSome=true:=by cases q:(j2 a (.inr g)).isSome with|true=>rfl|false=>exact zI q c
 unfold mu;rw[W2 d h b,W2 d h i,zG f,zG c,zG n,zG l]
theorem Lu(a:List V):ZH a=iv (at_ a 3):=rfl
def Az{j:Nat}(A:isJ j)(h:mZ j a)(o:∀y∈a,YI y) (d:j≠1->mj k1 f){n pp:Int}(e:pI j k1 n nms pp a=""):qt j n f a/\Zl a∉nms/\(j=4->ZH a+pp<=300):=by
 unfold pI at e;obtain⟨u,e⟩:=Xg zC e;have t:∀b,(j≠1->VB b f)->∀p2,(j=4->p2+ZH a<=300)->pI j b n [] p2 a="":=λb hk p2 l=>by
  unfold pI;rw[zG zE];by_cases g:j=1
  .rw[zH g]at e ⊢;exact e
  rw[zG g]at e ⊢;by_cases i:j=4
  .rw[zH i]at e ⊢;obtain⟨r,e⟩:=Xg zC e;obtain⟨p,e⟩:=Xg zC e;obtain⟨x,e⟩:=Xg zC e;have f:(j2 k1 (.inr (sv (at_ a 1)))).isSome=true:=by cases q:(j2 k1 (.inr (sv (at_ a 1)))).isSome with|true=>rfl|false=>exact zI q r
   have:=l i;rw[Lu]at this;rw[W2 (d g) (hk g) f,zG r,zG p,zG x,zG zD]
  rw[zG i]at e ⊢;by_cases s:mu k1 (sv (at_ a 1)) (sv (at_ a (if j=3 then 2 else 3)))=""
  .rw[zG (λq=>q s)]at e;rw[zG (λq=>q (O7 (d g) (hk g) s))];exact e
  .rw[zH s]at e;exact zI e s
 refine⟨?_,u,λi=>?_⟩
 .have w:∀b,(j≠1->VB b f)->∀p2,(j=4->p2+ZH a<=300)->oq j b n p2 [] (O a)=.non:=λb hk p2 l=>by rw[HP h (nms:=[]) (λz=>rfl),t b hk p2 l];rfl
  have c:∀b,(j≠1->VB b f)->∀p2,(j=4->p2+ZH a<=300)->qU j b n p2 a=.non:=λb hk p2 l=>by
   have:=w b hk p2 l;unfold oq at this;split at this
   .next q=>exact zI this q
   .exact this
  cases h with
 |wb h=>exact⟨Y,h,c,λz=>(by cases z),o⟩
 |place h E=>exact⟨Y,h,c,λz=>(by cases z),o⟩
 |vd h r p x=>exact⟨Y,h,c,λz=>(by cases z),o⟩
 |way h r p=>exact⟨Y,h,c,λz=>(by cases z),o⟩
 |group h r p=>exact⟨Y,h,c,λ_=>p,o⟩
 .rw[zG zD,zH i]at e;obtain⟨_,e⟩:=Xg zC e;obtain⟨_,e⟩:=Xg zC e;obtain⟨_,e⟩:=Xg zC e;obtain⟨C,_⟩:=Xg zC e;rw[Lu];omega
end TX
namespace L2
open PySem PySem.Spec PyProof.Rows
section
variable {X:Cx}
def Oh:R2:=λx y H Q=>∃a o,y=.ref a/\nY H a x o/\Q (.bl (!o.isSome)) H
def QK(f:X.A.units+1<iE):oZ X (cF .NotIn) Oh:=by intro b s j H x y v u Q I d c h;obtain⟨a,o,rfl,g,q⟩:=h;cases c;exact OY f I g d λl i=>⟨.bl (!o.isSome),H,i,Y,q⟩
end
end L2
namespace TX
open PySem L2 PySem.Spec PyProof.Rows TB WD
def ET:Sp:=λc H Q _=>∃(d:G)(a:Kv)(s g:U),c=[.ref d,.str s,.str g]/\H d=O (.dK a)/\∀b,f' H b->Q (.str (mu a s g)) b
def Y_(c:Bool):oY [V.str "",V.str "alike"] (if c=true then 1 else 0)=O (.str (if c=true then"alike" else"")):=by cases c<;>rfl
section
variable {P:a9}{w:bg}{K:af}{J:U->Option Z}{S:bC}
def VH:ia [mQ,sW,"_law_goal",vK] [mQ,sW,"_law_goal"] (Ze T.nV):=nc
def Am(zw:∀x∈mE,J x=B)(zB:Df K J "_law_between" T.nV [mQ,sW,"_law_goal"]):l8 P w K J S 1 "_law_between" [mQ,sW,"_law_goal"] ET:=by
 refine zB.cn VH λf ab A W s H vs Q E hr h=>?_;obtain⟨d,j,a,g,rfl,hd,k⟩:=h;refine⟨_,(Zb (Y9 dH Y (Yy (Zw (Za (R 1) (Za (R 2) Zg)))) (mH 3 VH.nd) (Zi (ZC (Zo (QK (Xx hr)) (R 3) (R 0) (by with_unfolding_all rfl)) (Zi (Zn Zf)) Zq))) (Zb (ZC (Zo Vi (XS (Xx hr) (R 0) (R 1) (λ_ _=>rfl)) ZK (Zu _)) (Zi (Zn Zf)) Zq) (Zi (Zn (il K (Zw (Za Zf (Za Zf Zg))) (ZE Yj Y (bm zw) Y2 (Za (Z5 Ym (R 1) (R 2) (Zu _)) Zg))))))),?_⟩;refine⟨_,Y,_,Y,zl,λl hl=>?_⟩;have t:=Zh (o:=.lst [.str a,.str g]) (f'.refl H) hl;have r:upd H l (.lst [.str a,.str g]) l=O (.lst [.str a,.str g]):=Zc;generalize upd H l (.lst [.str a,.str g])=H1 at t r ⊢;have L:=t _ _ hd;refine⟨l,Y,⟨_,jw.of r⟩,?_⟩;refine Xy (zA:=qA K l) 2 (λi p C=>i<=2/\C=H1/\(1<=i->(j2 j (.inr a)).isSome=true)/\(2<=i->(j2 j (.inr g)).isSome=true)/\∃v,p=[O (.ref d),O (.str a),O (.str g),v]) ⟨zD,Y,λz=>by omega,λz=>by omega,B,Y⟩ (λi p C hi q=>?_) (λp C q=>?_) (λi p C x H2 hi q yl=>?_) (λp C q=>?_)
 .obtain⟨_,rfl,_⟩:=q;exact⟨_,([V.str a,.str g])[i]'hi,jw.of r,gE _⟩
 .obtain⟨_,rfl,_⟩:=q;exact⟨_,jw.of r,aq _⟩
 .obtain⟨_,rfl,c,F,v,rfl⟩:=q;obtain⟨rfl,hy⟩:=yl;have X:=hy _ (jw.of r);obtain⟨y,M,n⟩:∃y,x=V.str y/\((i=0/\y=a)\/(i=1/\y=g)):=by
   rcases(by omega:i=0\/i=1)with rfl|rfl
   .exact⟨a,(aJ X).symm,.inl ⟨Y,Y⟩⟩
   .exact⟨g,(aJ X).symm,.inr ⟨Y,Y⟩⟩
  subst M;refine⟨_,Y,_,Y,d,_,Y,nY.k (k:=.inr y) L,_,Y,?_⟩;cases e:(j2 j (.inr y)).isSome with
 |false=>
   refine kq ?_;have hb:mu j a g="place":=by
    rcases n with⟨_,rfl⟩|⟨I,rfl⟩
    .exact zH e
    .have:=c zD;unfold mu;rw[zG (by rw[this];decide),zH e]
   have:=k _ t;rw[hb]at this;exact this
 |true=>
   refine kv ⟨zD,Y,λ_=>?_,λz2=>?_,_,Y⟩
   .rcases n with⟨_,rfl⟩|⟨I,rfl⟩
    .exact e
    .exact c zD
   .rcases n with⟨aa,rfl⟩|⟨I,rfl⟩
    .omega
    .exact e
 .obtain⟨_,rfl,c,F,v,rfl⟩:=q;have h1:=c D;have h2:=F D;have n1:¬(j2 j (.inr a)).isSome=false:=by rw[h1];decide
  have n2:¬(j2 j (.inr g)).isSome=false:=by rw[h2];decide
  have b:mu j a g=(if j2 j (.inr a)=O .non then("home":U)else if a=g then("alike":U)else("":U)):=(zG n1).trans (zG n2);rw[b]at k;obtain⟨u,hu⟩:=eJ.mp h1;refine⟨_,Y,_,Y,d,u,Y,by rw[<-hu];exact nY.k (k:=.inr a) L,Y,_,Y,?_⟩;rw[hu]at k;by_cases e:u=.non
  .rw[zJ e];rw[zH (by rw[e])]at k;exact kq (k _ t)
  .rw[zK e];rw[zG (λq=>e (aJ q))]at k;refine kv ?_;refine⟨zl,λl2 N=>?_⟩;refine⟨_,Y,_,Y,Y,.inr ⟨decide (V.str a=V.str g),Y,l2,_,_,_,Y,Y,jw.of Zc,Y_ _,?_⟩⟩;have:=k _ (Zh (o:=.lst [.str "",.str "alike"]) t N);by_cases q:a=g
   .rw[zH q]at this;rw[zJ (by rw[q]),zH Y];exact this
   .rw[zG q]at this;rw[zK (λz=>q (by injection z)),zG D];exact this
def mZ.name{j:Nat}{a:List V}(h:mZ j a):∃l,a=.str (Zl a)::l:=by cases h<;>exact⟨_,Y⟩
theorem NU(a:U):∀l:List U,tV (.str a) (l.map V.str)=decide (a∈l)
|[]=>rfl
|x::l=>by
  have b:=NU a l;unfold tV at b ⊢;rw[aH,eO,b];have c:we (.str x) (.str a)=decide (x=a):=rfl;rw[c];by_cases e:x=a
  .rw[zJ e,k6,zJ (by rw[e];exact ax ..)]
  .rw[zK e,kH];by_cases h:a∈l
   .rw[zJ h,zJ (au _ h)]
   .rw[zK h,zK (λq=>by rcases ay.mp q with q|q;exact e q.symm;exact h q)]
def C6 (h:ZN z≠B)(a:jW z≠0):z="place"\/z="home"\/z="ride"\/z="way"\/z="group":=by
 cases e:ZN z with
|none=>exact zI e h
|some f=>
  have:=(RI e).2;have b:=(RI e).1;rcases(by omega:jW z=1\/jW z=2\/jW z=3\/jW z=4)with q|q|q|q<;>rw[q]at this
  .have this:z∈(["place","home"]:List U):=this;simp only[ay,a8,or_false]at this;rcases this with h|h
   .exact .inl h
   .exact .inr (.inl h)
  .exact .inr (.inr (.inl (aL.mp this)))
  .exact .inr (.inr (.inr (.inl (aL.mp this))))
  .exact .inr (.inr (.inr (.inr (aL.mp this))))
def wo(a:U)(c:Bool):oY [V.str "",V.str a] (if c=true then 1 else 0)=O (.str (if c=true then a else"")):=by cases c<;>rfl
def ZaC(z:U):tV (.str z) [V.str "place",V.str "home"]=decide (z∈(["place","home"]:List U)):=NU z ["place","home"]
def Io:Sp:=λi H Q _=>∃(n:Int)(d b f:G)(g:Kv)(z:U)(a:List V)(c:List V)(pre:List (List V)),i=[.int n,.ref d,.str z,.ref b,.ref f]/\H d=O (.dK g)/\H b=O (.tup a)/\H f=O (.lst c)/\bX (Rl H) c pre/\ZN z≠B/\jW z≠0/\mZ (jW z) a/\(∀y∈pre,mZ (jW z) y)/\pre.length<=1000 /\∀h,f' H h->Q (.str (pI (jW z) g n (pre.map Zl) (pre.map ZH).sum a)) h
def Gh:ia [o5,mQ,pd,tS,"_law_ahead","_law_why"] [o5,mQ,pd,tS,"_law_ahead"] (Ze T.mY):=nc
noncomputable def V0:dh:=pL [(".0",.local),("_law_one",.local)]
def Mt:i4 V0 (Ze T.mY):=⟨Y,zC,zC,zC⟩
def Mv:(["_law_one"]:List U).Nodup:=by decide +kernel
def Mu:i3 [o5,mQ,pd,tS,"_law_ahead","_law_why"] V0 ["_law_one"] [B]:=.mk' zC
noncomputable def VZ:dh:=pL [(".0",.local),("_law_one",.local)]
def Mq:i4 VZ (Ze T.mY):=⟨Y,zC,zC,zC⟩
def Ms:(["_law_one"]:List U).Nodup:=by decide +kernel
def Mr:i3 [o5,mQ,pd,tS,"_law_ahead","_law_why"] VZ ["_law_one"] [B]:=.mk' zC
def O3(zw:∀x∈mE,J x=B)(CB:l8 P w K J S 1 "_law_between" [mQ,sW,"_law_goal"] ET)(zB:Df K J "_law_amiss" T.mY [o5,mQ,pd,tS,"_law_ahead"]):l8 P w K J S 2 "_law_amiss" [o5,mQ,pd,tS,"_law_ahead"] Io:=by
 refine zB.cn Gh λf cW A cP s H vs Q E hr h=>?_;obtain⟨n,d,N,lA,k1,z,ys,xa,pre,rfl,hd,aC,hA,pa,hz,hj,hy,hp,a4,k⟩:=h;refine' ⟨_,(Zb ?b8 (Zb ?b7 (Zb ?b6 (Zb ?b5 (Zb ?b4 (Zb ?b3 (Zb ?b2 (Zi ?b1)))))))),?rd⟩;case' b1=>refine' (Zn ?cc)
 case' b2=>refine' (ZC (PW.pt (JH (Zo JW (it K (R 3) Zd) (Zv MK (R 0) Zd) (Zu _)) (X7 (Yn (Gn Tc VL (it K (R 3) Zd) (it K (R 3) Zd) (R 0)))))) (Zi (Zn Zf)) Zq)
 case' b3=>refine' (ZC (Zo Ym (R 2) Zf (Zu _)) (Zi ?cf) Zq)
 case' b4=>refine' (ZC (Zo JK (R 5) Zf (Zu _)) (Zi (Zn (R 5))) Zq)
 case' b5=>refine' (st 5 Gh.nd (cn CB hr (qX (R 1) (it K (R 3) Zd) ?cx)))
 case' b6=>refine' (ZC (Zo Ym (R 2) Zf (Zu _)) (Zb ?cI (Zb ?cH (Zb ?cE (Zi ?cB)))) Zq)
 case' b7=>refine' (ZC (Zo JV (R 2) (Yo (o7 Zf Zf)) (by with_unfolding_all rfl)) (Zi ?h8) Zq)
 case' b8=>refine' (ZC (Zo JV (it K (R 3) Zd) (Yp Y Mt Mu (Yy (R 4)) (λC s H ex pn=>(mH 0 Mv)) (λC s H ex pn=>ZW) (λC s H ex pn=>(it K (R 0) Zd))) (by with_unfolding_all rfl)) (Zi (Zn Zf)) Zq)
 case' cc=>refine' (il K (Zw (o7 Zf Zf)) (ZE Yj Y (bm zw) Y2 (me (Z5 JW (it K (R 3) Zd) Zd (Zu _)))))
 case' cf=>refine' (Zn ?cj)
 case' cj=>refine' (il K (Zw (o7 Zf Zf)) (ZE Yj Y (bm zw) Y2 (me (IB (Fo (SV VL VL Zd (it K (R 3) Zd) Zd)) (XH (Z5 JW (it K (R 3) Zd) Zd (Zu _)))))))
 case' cx=>refine' (it K (R 3) ?cy)
 case' cy=>refine' (il K (Zw (o7 Zd Zd)) (ZE Yj Y (bm zw) Y2 (me (Z5 Ym (R 2) Zf (Zu _)))))
 case' cB=>refine' (Zn ?cK)
 case' cE=>refine' (ZC (Zo JW (it K (R 3) Zd) Zd (Zu _)) (Zi (Zn Zf)) Zq)
 case' cH=>refine' (ZC (Zo JW (it K (R 3) Zd) (R 0) (Zu _)) (Zi (Zn Zf)) Zq)
 case' cI=>refine' (ZC (Zo (QK (Xx hr)) (it K (R 3) Zd) (R 1) (by with_unfolding_all rfl)) (Zi (Zn Zf)) Zq)
 case' cK=>refine' (il K (Zw (o7 Zf Zf)) (ZE Yj Y (bm zw) Y2 (me (Z5 JW (Zv Z3 (it K (R 3) Zd) (Zz (Q1 Y) Y (bm zw) lU (me (Yp Y Mq Mr (Yy (R 4)) (λC s H ex pn=>(mH 0 Ms)) (λC s H ex pn=>ZW) (λC s H ex pn=>(it K (R 0) Zd)))))) Zd (Zu _)))))
 case' h8=>refine' (Zn ?h7)
 case' h7=>refine' (il K (Zw (o7 Zf Zf)) (ZE Yj Y (bm zw) Y2 (me (Uy (Z5 V9 (it K (R 3) Zd) ZK (Zu _)) (XH (Z5 JW (it K (R 3) Zd) Zd (Zu _)))))))
 case' rd=>
 obtain⟨l0,ey⟩:=hy.name;have a0:ys[0]?=O (.str (Zl ys)):=by rw[ey];rfl
 refine uS λX I y=>?_;refine⟨_,Y,N,_,0,_,Y,Y,lR.of aC,Zy (j:=0) a0,?_⟩;refine⟨_,Y,lA,Y,⟨_,jw.of hA⟩,?_⟩;refine ZX (zA:=qA K lA) pre.length (aj a4 D) (λi us τ W=>W=H/\us=((pre.map Zl).take i).map V.str/\∃v,τ=[v]) ⟨Y,Y,B,Y⟩ (λi us τ W q=>by rw[q.2.1,lm,aY,lm];omega) (λi us τ W hi q=>?_) (λus τ W q=>?_) (λi us τ W x H2 hi q yl=>?_) (λus τ W q lN hN=>?_)
 .obtain⟨rfl,_⟩:=q;exact⟨_,xa[i]'(by rw[pairs_len pa];exact hi),jw.of hA,gE _⟩
 .obtain⟨rfl,_⟩:=q;exact⟨_,jw.of hA,by rw[pairs_len pa];exact aq _⟩
 .obtain⟨rfl,rfl,v,rfl⟩:=q;obtain⟨rfl,hx⟩:=yl;have hx:=hx _ (jw.of hA);obtain⟨p,rfl,aF⟩:=Yt pa hx (gE hi);obtain⟨l1,e1⟩:=(hp _ (bo hi)).name;refine⟨_,Y,p,_,0,_,Y,Y,lR.of aF,Zy (j:=0) (by rw[e1];rfl),Y,?_,_,Y⟩;rw[cq,aT,gE hi,aA];rfl
 obtain⟨rfl,rfl,v,rfl⟩:=q;rw[show pre.length=(pre.map Zl).length from(lm ..).symm,cg];have S1:=Zh (o:=.lst ((pre.map Zl).map V.str)) (f'.refl W) hN;have e1:upd W lN (.lst ((pre.map Zl).map V.str)) lN=O (.lst ((pre.map Zl).map V.str)):=Zc;generalize upd W lN (.lst ((pre.map Zl).map V.str))=H1 at S1 e1 ⊢;refine⟨lN,_,Y,.inl (jw.of e1),Y,by rw[bY];intro v hv;obtain⟨x,_,rfl⟩:=aG.mp hv;rfl,_,Y,?_⟩;rw[zG D,NU];by_cases ai:Zl ys∈pre.map Zl
 .rw[zJ ai];refine kq ?_;have:=k _ S1;rw[show pI (jW z) k1 n (pre.map Zl) (pre.map ZH).sum ys="double" from zH ai]at this;exact y _ _ this
 rw[zK ai];refine kv ?_;refine I _ _ ?_;clear I y X;refine uS λX I y=>?_;have cR:=S1 _ _ aC;have cS:=S1 _ _ hd;have cT:=S1 _ _ hA;have aa:pI (jW z) k1 n (pre.map Zl) (pre.map ZH).sum ys=_:=zG ai;refine⟨_,Y,zl,λtq bx=>?_⟩;have S2:=Zh (o:=.tup [.str "place",.str "home"]) (f'.refl H1) bx;have e2:upd H1 tq (.tup [.str "place",.str "home"]) tq=O (.tup [.str "place",.str "home"]):=Zc;dsimp only;generalize upd H1 tq (.tup [.str "place",.str "home"])=H2 at S2 e2 ⊢;refine⟨tq,_,Y,.inr (lR.of e2),Y,Y,_,Y,?_⟩;rw[zG (show ¬(false=true) by decide),ZaC];have u:=S1.trans S2;have r:=u _ _ aC;have a5:=u _ _ hd;have b0:=u _ _ hA;have az:∀(a:U)(H3:Hp)(c:Bool),f' W H3->(∀W,f' H3 W->Q (.str (if c=true then a else"")) W)->∀l,H3 l=B->∃p xs i v,V.ref l=.ref p/\V.int (if c=true then 1 else 0)=.int i/\jw K (upd H3 l (.lst [.str "",.str a])) p xs/\oY xs i=O v/\X.rt v (upd H3 l (.lst [.str "",.str a])):=λa H3 c s q l hl=>⟨l,_,_,_,Y,Y,jw.of Zc,wo a c,y _ _ (q _ (Zh (f'.refl _) hl))⟩;by_cases M:z∈(["place","home"]:List U)
 .rw[zJ M];refine kq ?_;have j1:jW z=1:=RF (j:=1) M D;rw[j1]at hy k aa;refine⟨zl,λl hl=>?_⟩;have S3:=Zh (o:=.lst [.str "",.str "number"]) (f'.refl H2) hl;have b:=S3 _ _ r;dsimp only;cases hy with
 |@wb nz h=>refine⟨_,Y,N,_,1,_,Y,Y,lR.of b,Zy (j:=1) Y,Y,_,Y,?_⟩;refine kv ?_;refine .inr ⟨false,Y,az "number" H2 false u (λH5 s5=>?_) l hl⟩;have:=k _ (u.trans s5);rw[aa,zH Y,zG (λq=>q.1 Y)]at this;exact this
 |@place nz i h h0=>
   refine⟨_,Y,N,_,1,_,Y,Y,lR.of b,Zy (j:=1) Y,Y,_,Y,?_⟩;refine kq ?_;refine⟨_,Y,N,_,1,_,Y,Y,lR.of b,Zy (j:=1) Y,_,_,Y,Y,?_⟩;refine .inr ⟨decide (1000<i),Y,az "number" H2 _ u (λH5 s5=>?_) l hl⟩;have:=k _ (u.trans s5);rw[aa,zH Y]at this;by_cases e:1000<i
   .rw[zH ⟨λq=>(by cases q),e⟩]at this;rw[zJ e,zH Y];exact this
   .rw[zG (λq=>e q.2)]at this;rw[zK e,zG D];exact this
 rw[zK M];refine kv ?_;clear az;refine I _ _ ?_;clear I y X;refine uS λX I y=>?_;refine⟨_,Y,Y,_,Y,?_⟩;by_cases hg:z="group"
 .rw[zJ (by rw[hg])];refine kq ?_;have j4:jW z=4:=by rw[hg];decide +kernel
  rw[j4]at hy k aa hp;rw[aa,zG D,zH Y]at k;clear aa;cases hy with
 |@group nz p tt m h h1 h2=>
  have k:∀t,f' W t->Q (.str (if(j2 k1 (.inr p)).isSome=false then"place" else if tt>n then"turn" else if m>300 then"number" else if m+(pre.map ZH).sum>300 then"people" else"")) t:=k;refine⟨_,Y,N,_,1,_,Y,Y,lR.of r,Zy (j:=1) Y,_,Y,d,_,Y,nY.k (k:=.inr p) a5,_,Y,?_⟩;cases e1:(j2 k1 (.inr p)).isSome with
 |false=>rw[e1,zH Y]at k;exact kq (y _ _ (k _ u))
 |true=>
  rw[e1,zG D]at k;refine kv ?_;refine⟨_,Y,N,_,2,_,Y,Y,lR.of r,Zy (j:=2) Y,_,Y,_,_,Y,Y,_,Y,?_⟩;by_cases e2:tt>n
  .rw[zH e2]at k;rw[zJ e2];exact kq (y _ _ (k _ u))
  rw[zG e2]at k;rw[zK e2];refine kv ?_;refine⟨_,Y,N,_,3,_,Y,Y,lR.of r,Zy (j:=3) Y,_,_,Y,Y,_,Y,?_⟩;by_cases e3:m>300
  .rw[zH e3]at k;rw[zJ e3];exact kq (y _ _ (k _ u))
  rw[zG e3]at k;rw[zK e3];refine kv ?_;refine⟨zl,λl hl=>?_⟩;have S3:=Zh (o:=.lst [.str "",.str "people"]) (f'.refl H2) hl;dsimp only;have b:=S3 _ _ r;have ah:=S3 _ _ b0;have a6:upd H2 l (.lst [.str "",.str "people"]) l=O (.lst [.str "",.str "people"]):=Zc;generalize upd H2 l (.lst [.str "",.str "people"])=H3 at S3 b ah a6 ⊢;have bb:=u.trans S3;refine⟨_,Y,N,_,3,_,Y,Y,lR.of b,Zy (j:=3) Y,?_⟩;refine⟨_,Y,lA,Y,⟨_,jw.of ah⟩,?_⟩;refine ZX (zA:=qA K lA) pre.length (aj a4 D) (λi us τ ab=>ab=H3/\us=((pre.map ZH).take i).map V.int/\∃v,τ=[v]) ⟨Y,Y,B,Y⟩ (λi us τ ab q=>by rw[q.2.1,lm,aY,lm];omega) (λi us τ ab hi q=>?_) (λus τ ab q=>?_) (λi us τ ab x H5 hi q yl=>?_) (λus τ ab q lM hM=>?_)
  .obtain⟨rfl,_⟩:=q;exact⟨_,xa[i]'(by rw[pairs_len pa];exact hi),jw.of ah,gE _⟩
  .obtain⟨rfl,_⟩:=q;exact⟨_,jw.of ah,by rw[pairs_len pa];exact aq _⟩
  .obtain⟨rfl,rfl,v,rfl⟩:=q;obtain⟨rfl,hx⟩:=yl;have hx:=hx _ (jw.of ah);obtain⟨p',rfl,aF⟩:=Yt pa hx (gE hi);have bT:(pre[i])[3]?=O (.int (ZH pre[i])):=by
    have:=hp _ (bo hi);generalize pre[i]=yy at this;cases this with
   |group=>rfl
   refine⟨_,Y,p',_,3,_,Y,Y,lR.of (bb _ _ aF),Zy (j:=3) bT,Y,?_,_,Y⟩;rw[cq,aT,gE hi,aA];rfl
  obtain⟨eH,rfl,v,rfl⟩:=q;replace eH:=eH.symm;subst eH;rw[show pre.length=(pre.map ZH).length from(lm ..).symm,cg];have S4:=Zh (o:=.lst ((pre.map ZH).map V.int)) (f'.refl H3) hM;have e4:upd H3 lM (.lst ((pre.map ZH).map V.int)) lM=O (.lst ((pre.map ZH).map V.int)):=Zc;generalize upd H3 lM (.lst ((pre.map ZH).map V.int))=H4 at S4 e4 ⊢;refine⟨lM,_,Y,jw.of e4,?_⟩;refine⟨_,_,Y,Y,_,_,Y,Y,.inr ⟨_,Y,l,_,_,_,Y,Y,jw.of (S4 _ _ a6),wo "people" _,?_⟩⟩;have:=k _ (bb.trans S4);by_cases e5:m+(pre.map ZH).sum>300
  .rw[zH e5]at this;rw[zJ e5,zH Y];exact y _ _ this
  .rw[zG e5]at this;rw[zK e5,zG D];exact y _ _ this
 rw[zK (λq=>hg (by injection q))];refine kv ?_;refine I _ _ ?_;clear I y X;have bM:z="ride"\/z="way":=by
  rcases C6 hz hj with q|q|q|q|q
  .exact zI (by rw[q];decide +kernel) M
  .exact zI (by rw[q];decide +kernel) M
  .exact .inl q
  .exact .inr q
  .exact zI q hg
 obtain⟨wy,s0,g0,aS,F,cG,ck,cN⟩:∃(wy:Bool)(s0 g0:U),decide (V.str z=V.str "way")=wy/\jW z=(if wy=true then 3 else 2)/\ys[1]?=O (.str s0)/\ys[if wy=true then 2 else 3]?=O (.str g0)/\mu k1 (sv (at_ ys 1)) (sv (at_ ys (if jW z=3 then 2 else 3)))=mu k1 s0 g0:=by
  rcases bM with rfl|rfl
  .rw[show jW "ride"=2 by decide +kernel]at hy ⊢;cases hy with
  |vd=>exact⟨false,_,_,zC,Y,Y,Y,Y⟩
  .rw[show jW "way"=3 by decide +kernel]at hy ⊢;cases hy with
  |way=>exact⟨true,_,_,zC,Y,Y,Y,Y⟩
 have n1:jW z≠1:=by rw[F];cases wy<;>decide
 have n4:jW z≠4:=by rw[F];cases wy<;>decide
 rw[aa,zG n1,zG n4,cN]at k;refine uS λX I y=>?_;refine⟨_,Y,_,Y,N,_,1,_,Y,Y,lR.of r,Zy (j:=1) cG,?_⟩;refine⟨_,Y,zl,λl hl=>?_⟩;have S3:=Zh (o:=.lst [.int 3,.int 2]) (f'.refl H2) hl;have e3:upd H2 l (.lst [.int 3,.int 2]) l=O (.lst [.int 3,.int 2]):=Zc;dsimp only;generalize upd H2 l (.lst [.int 3,.int 2])=H3 at S3 e3 ⊢;have b:=S3 _ _ r;refine⟨_,Y,Y,.inr ⟨_,Y,?_⟩⟩;rw[aS];refine⟨l,_,_,.int (if wy=true then 2 else 3:Nat),Y,Y,jw.of e3,by cases wy<;>rfl,N,_,_,_,Y,Y,lR.of b,Zy (j:=if wy=true then 2 else 3) ck,?_⟩;refine⟨d,k1,s0,g0,Y,S3 _ _ a5,λH4 S4=>?_⟩;have a7:=S3.trans S4;have ak:=u.trans a7;have L:=a7 _ _ r;refine I _ _ ?_;clear I y X;refine uS λX I y=>?_;refine⟨_,Y,Y,_,Y,?_⟩;by_cases hb:mu k1 s0 g0="";case neg=>rw[zH hb]at k;rw[zK (λq=>hb (by injection q))];exact kq ⟨_,Y,y _ _ (k _ ak)⟩
 rw[zG (λq=>q hb)]at k;rw[hb,zJ Y];refine kv ?_;refine I _ _ ?_;clear I y X;refine uS λX I y=>?_;refine⟨_,Y,Y,_,Y,?_⟩;rw[aS];cases wy with
|true=>
  have F:jW z=3:=F;refine kq ?_;rw[F,zH Y]at k;rw[F]at hy;cases hy with
 |@way nz s g lo wi h h1 h2=>
  have k:∀t,f' W t->Q (.str (if ¬(1<=lo/\lo<=50)\/wi>1000 then"number" else"")) t:=k;refine⟨zl,λl2 aM=>?_⟩;have S5:=Zh (o:=.lst [.str "",.str "number"]) (f'.refl H4) aM;have e5:upd H4 l2 (.lst [.str "",.str "number"]) l2=O (.lst [.str "",.str "number"]):=Zc;dsimp only;generalize upd H4 l2 (.lst [.str "",.str "number"])=H5 at S5 e5 ⊢;have ar:=S5 _ _ L;have aP:∀c:Bool,c=decide (¬(1<=lo/\lo<=50)\/wi>1000)->∃p xs i v,V.ref l2=.ref p/\V.int (if c=true then 1 else 0)=.int i/\jw K H5 p xs/\oY xs i=O v/\X.rt v H5:=λc hc=>⟨l2,_,_,_,Y,Y,jw.of e5,wo "number" c,y _ _ <| by
   have:=k _ (ak.trans S5);by_cases e:¬(1<=lo/\lo<=50)\/wi>1000
   .rw[zH e]at this;rw[hc,zJ e,zH Y];exact this
   .rw[zG e]at this;rw[hc,zK e,zG D];exact this⟩
  refine⟨_,Y,N,_,3,_,Y,Y,lR.of ar,Zy (j:=3) Y,_,_,Y,Y,_,Y,?_⟩;by_cases a1:1<=lo
  .rw[zJ a1];refine kq ⟨_,_,Y,Y,_,Y,_,Y,?_⟩;by_cases a2:lo<=50
   .rw[zJ a2];refine kv ?_;refine⟨_,Y,N,_,4,_,Y,Y,lR.of ar,Zy (j:=4) Y,_,_,Y,Y,.inr ⟨_,Y,aP _ ?_⟩⟩;by_cases a3:1000<wi
    .rw[zJ a3,zJ (.inr a3)]
    .rw[zK a3,zK (λq=>q.elim (λq=>q ⟨a1,a2⟩) a3)]
   .rw[zK a2];exact kq (.inr ⟨true,Y,aP true (zJ (.inl λq=>a2 q.2)).symm⟩)
  .rw[zK a1];refine kv ⟨_,Y,_,Y,?_⟩;exact kq (.inr ⟨true,Y,aP true (zJ (.inl λq=>a1 q.1)).symm⟩)
|false=>
  have F:jW z=2:=F;refine kv ?_;refine I _ _ ?_;clear I y X;refine uS λX I y=>?_;rw[F,zG D]at k;rw[F]at hy;cases hy with
 |@vd nz s g lv cm se h h1 h2 h3=>
  have k:∀t,f' W t->Q (.str (if lv>n-1\/¬(lv<cm/\cm<=n)then"turn" else if se>1000 then"number" else"")) t:=k;have bad:(lv>n-1\/¬(lv<cm/\cm<=n))->X.rt (.str "turn") H4:=λe=>y _ _ <| by have:=k _ ak;rw[zH e]at this;exact this
  refine⟨_,Y,N,_,2,_,Y,Y,lR.of L,Zy (j:=2) Y,_,Y,_,_,Y,Y,_,_,Y,Y,_,Y,?_⟩;by_cases a1:n-1<lv
  .rw[zJ a1];exact kq (kq (bad (.inl a1)))
  rw[zK a1];refine kv ?_;refine⟨_,Y,N,_,2,_,Y,Y,lR.of L,Zy (j:=2) Y,_,Y,N,_,4,_,Y,Y,lR.of L,Zy (j:=4) Y,_,_,Y,Y,_,Y,?_⟩;by_cases a2:lv<cm;case neg=>rw[zK a2];exact kv ⟨_,Y,kq (bad (.inr λq=>a2 q.1))⟩
  rw[zJ a2];refine kq ?_;refine⟨_,Y,_,_,Y,Y,_,Y,?_⟩;by_cases a3:cm<=n;case neg=>rw[zK a3];exact kq (bad (.inr λq=>a3 q.2))
  rw[zJ a3];refine kv ?_;refine I _ _ ?_;clear bad I y X;rw[zG (λq=>q.elim a1 λq=>q ⟨a2,a3⟩)]at k;refine⟨zl,λl2 aM=>?_⟩;have S5:=Zh (o:=.lst [.str "",.str "number"]) (f'.refl H4) aM;have e5:upd H4 l2 (.lst [.str "",.str "number"]) l2=O (.lst [.str "",.str "number"]):=Zc;dsimp only;generalize upd H4 l2 (.lst [.str "",.str "number"])=H5 at S5 e5 ⊢;refine⟨_,Y,N,_,5,_,Y,Y,lR.of (S5 _ _ L),Zy (j:=5) Y,_,_,Y,Y,.inr ⟨_,Y,l2,_,_,_,Y,Y,jw.of e5,wo "number" _,?_⟩⟩;have:=k _ (ak.trans S5);by_cases e:se>1000
  .rw[zH e]at this;rw[zJ e,zH Y];exact this
  .rw[zG e]at this;rw[zK e,zG D];exact this
end
end TX
namespace L2
open PySem PySem.Spec PyProof.Rows MeetsSeq
open PySem.AutoSeq1 (wpAny_loadPart')
def PK(l:G)(a:Array Z)(n:Nat)(x:Z)(e:Z->Bool)(b:Int)(j:Nat)(I:j<a.size)(p:(j:Int)<b)(E:e a[j]=true)(k:Nat):∀i:Nat,j-i=k->i<=j->(∀m(H:m<a.size),i<=m->m<j->e a[m]=false)->Meets (fX.«list.index.loop» ⟨[.ref l,x,dU i,dU b],[]⟩) (λA r s=>s.heap.get? l=O {cls:=.type "list",dict:=B,data:=.seq a n,slots:=#[]}/\(∀y,y∈a->kF A.in1 s y x (e y))/\r (.ok (.ret (.int j s.toks))) {s with toks:=s.toks+1}):=by
 induction k with
|zero=>
  intro i hk F f c w A r s h;obtain⟨N,g,d,L,os⟩:=s;obtain⟨t,u,h⟩:=h;have q:i=j:=by omega
  subst q;wp_walk using fV t;have z:(if(i:Int)<b then a[((i:Nat):Int).toNat]? else B)=O a[i]:=by simp[p,I]
  rw[z];refine ae (u _ (Array.getElem_mem I) c w _ _ ?_);rw[E];wp_walk;exact h
|succ k M=>
  intro i hk F f c w A r s h;obtain⟨N,g,d,L,os⟩:=s;obtain⟨t,u,h⟩:=h;have o:i<a.size:=by omega
  have C:(i:Int)<b:=by omega
  wp_walk using fV t;have z:(if(i:Int)<b then a[((i:Nat):Int).toNat]? else B)=O a[i]:=by simp[C,o]
  have P:((i:Int)+1)=((i+1:Nat):Int):=by push_cast;rfl
  rw[z];refine ae (u _ (Array.getElem_mem o) c w _ _ ?_);rw[f i o (aq _) zD];wp_walk;rw[P];exact⟨jd plain_index_loop _,gN entry_index_loop (by rw[fH plain_index_loop _];exact M (i+1) zD zD (λm H T Q=>f m H zD Q) c w A r _ ⟨t,u,h⟩)⟩
def PH(l:G)(a:Array Z)(n:Nat)(x:Z)(e:Z->Bool)(j:Nat)(t:j<a.size)(b:(j:Int)<2 ^ 63-1)(p:e a[j]=true)(o:∀m(q:m<a.size),m<j->e a[m]=false):Meets (fX.«list.index» ⟨[.ref l,x],[]⟩) (λA f s=>s.heap.get? l=O {cls:=.type "list",dict:=B,data:=.seq a n,slots:=#[]}/\(∀y,y∈a->kF A.in1 s y x (e y))/\f (.ok (.ret (.int j s.toks))) {s with toks:=s.toks+1}):=by
 intro c w A f s h;obtain⟨H,g,d,F,os⟩:=s;obtain⟨r,u,h⟩:=h;wp_walk using fV r;have E:((λi:Int=>if i<0 then max 0 (i+(a.size:Int))else i) ((B:Option Int).getD 0))=((0:Nat):Int):=by simp
 have C:((λi:Int=>if i<0 then max 0 (i+(a.size:Int))else i) ((B:Option Int).getD (2 ^ 63-1)))=2 ^ 63-1:=by simp
 rw[E,C];exact⟨jd plain_index_loop _,gN entry_index_loop (by rw[fH plain_index_loop _];exact PK l a n x e (2 ^ 63-1) j t b p _ 0 Y (bK _) (λm q _ z=>o m q z) c w A f _ ⟨r,u,h⟩)⟩
def yE(H:Hp)(u:V):Prop:=u=.non\/∃c r,u=.ref c/\H c=O (.tup r)
noncomputable def rC(v:Z):Bool:=match v with
|.none=>true
|_=>false
noncomputable def PZ(v:V):Bool:=match v with
|.non=>true
|_=>false
section
variable {X:Cx}
def Td   (r:Zt b a)(h:∀u∈b,yE H u):(a.any rC)=b.any PZ/\∀i:Nat,(a.getD i (.bool false) |> rC)=(b.getD i (.bl false) |> PZ):=by
 induction r with
|nil=>exact⟨Y,λ_=>rfl⟩
|@cons u v b a d _ f=>
  have e:rC v=PZ u:=by
   rcases h u ax with rfl|⟨c,r,rfl,_⟩
   .cases d;rfl
   .cases d;rfl
  obtain⟨l,j⟩:=f λx g=>h x (au _ g);refine⟨by rw[eO,eO,l,e],λi=>?_⟩;cases i with
 |zero=>exact e
 |succ i=>simpa using j i
def Te    {A:bU}(I:Inv X f o H s)(l:A.units<iE) (r:Zt b a)(h:∀u∈b,yE H u):∀y,y∈a->kF A s y .none (rC y):=by
 induction r with
|nil=>intro y hy;cases hy
|@cons u v b a d _ i=>
  intro y hy;rcases ay.mp hy with rfl|hy
  .rcases h u ax with rfl|⟨c,r,rfl,n⟩
   .cases d;exact SeqAt.EqAt.same _
   .cases d;obtain⟨g,q,p,_⟩:=I.tuple (lR.of n);exact SeqAt.EqAt.tuple_none p l
  .exact i (λx j=>h x (au _ j)) y hy
def BI:R2:=λx y H Q=>∃(l:G)(a:List V),x=.non/\y=.ref l/\H l=O (.lst a)/\(∀u∈a,yE H u)/\Q (.bl (a.any PZ)) H
def Fz(t:X.A.units+64<iE):oZ X (cF .In) BI:=by intro c s n H x y v u Q I f d h;obtain⟨l,o,rfl,rfl,i,b,q⟩:=h;cases f;cases d;obtain⟨j,a,p,r⟩:=I.list (jw.of i);refine SeqAt.in_listAt rC p.isList (λw g=>Te I (by show X.A.units+1<iE;omega) a b w (by simpa using g)) ⟨.bl _,H,I,Y,?_⟩;rw[<-(Td a b).1]at q;simpa using q
def BH:V->List V->Hp->VK->Prop:=λx b H Q=>∃(l:G)(a:List V)(j:Nat),x=.ref l/\b=[.non]/\H l=O (.lst a)/\(∀u∈a,yE H u)/\a[j]?=O .non/\(∀m,m<j->a[m]?≠O .non)/\Q (.int (j:Nat)) H
def FL(hu:X.A.units+64<iE):ζ X "list.index" BH:=by
 intro C s σ H x vs v us Q I E L h;obtain⟨l,b,j,rfl,rfl,T,i,w,o,q⟩:=h;cases E;obtain⟨u,rfl,M⟩:=L.one;cases M;obtain⟨sz,a,n,r,P,e⟩:=I.qH T;have d:j<a.length:=by rw[<-P];exact(aU.mp w).1
 have aa:j<=sizeLine:=by omega
 obtain⟨_,W⟩:=Td r i;have at_:∀(m:Nat)(f:m<a.length),rC a[m]=PZ (b.getD m (.bl false)):=λm f=>by rw[<-W m];simp[f]
 refine g9 F.slot_list_index ⟨_,e,Y⟩ F.entry_list_index (F.args_list_index_2 _ _) (PH l a.toArray n .none rC j (by simpa using d) ?_ ?_ (λm f t=>?_)) ⟨e,λy N=>Te I (by show X.A.units+1<iE;omega) r i y (by simpa using N),⟨.int j,H,I.tok _,⟨_,Y⟩,q⟩⟩
 .have:(sizeLine:Int)<2 ^ 63-1:=by decide
  omega
 .show rC a.toArray[j]=true;rw[List.getElem_toArray,at_ j d,bQ,w];rfl
 .have p:m<a.length:=by simpa using f
  show rC a.toArray[m]=false;rw[List.getElem_toArray,at_ m p];have:=o m t;cases g:b[m]? with
 |none=>rw[bQ,g];rfl
 |some z=>
   rw[bQ,g];rcases i z (cU g)with rfl|⟨c,r',rfl,_⟩
   .exact zI g this
   .rfl
end
end L2
namespace L2
open PySem PySem.Spec PyProof.Rows
section
variable {prog:a9}{w:bg}{A:bU}{E:Z->ao->Prop}{s:ao}
def Dw{a:G}{j:Array Z}{k:Nat}{r:Array (Option Z)}{Q:Option Z->ao->Prop}(n:s.heap.get? a=O {cls:=.type "list",data:=.seq j k,slots:=r})(C:A.handled=B)(h:∀(f:bC)(l:Nat),(∀b o,s.heap.get? b=O o->f.get? b=O o)->Q B {s with heap:=f,toks:=l}):aI (aZ prog w) A (getAttr? (.ref a) (bh "keys")) Q E s:=by obtain⟨y,g,d,l,os⟩:=s;have p:∀x,Shared.TypeIs {heap:=y,gens:=g,drawn:=d,toks:=x,os:=os} (.ref a) "list":=λx=>⟨_,n,Y⟩;have L:=F.slot_list_getattribute.lookup;have I:=F.slot_list_getattribute.bind (aN a);have H:=am_list_getattr_none;unfold getAttr?;refine ae ?_;unfold mkText;refine ae (wpAny_fresh' (aE ?_));unfold getAttrBy?;refine ae (gP ?_);unfold getAttrBy;refine bL (ae (jy (p _) ?_));refine ae (wpAny_of_eq L ?_);refine kr Y ?_;unfold getAttrByItsOwn;refine ae ?_;unfold hookBefore;refine kr Y (aE ?_);refine ae (gP (bL ?_));unfold callGetattribute;refine kr Y ?_;refine ae (wpAny_of_eq I ?_);refine g9 F.slot_list_getattribute (p _) am_entry_list_getattribute (F.args_list_getattribute_2 _ _) (meets_getattribute_miss_list a j k _ (bh "keys") _ zF D) ⟨n,C,λf i e z=>?_⟩;obtain⟨keeps,new,⟨t,u,c⟩⟩:=z;have q:∀x,Shared.TypeIs {heap:=f,gens:=g,drawn:=d,toks:=x,os:=os} (.ref e) "AttributeError":=λx=>⟨_,c,Y⟩;show aI _ _ (getattributeRaised _ _ _ _ _ _ _) _ _ _;unfold getattributeRaised;refine ae (jY (b:=true) (q _) sub_AttributeError ?_);refine iN Y ?_;refine ae ?_;unfold hookBehind;refine kr Y (wpAny_of_eq H ?_);unfold hookOrError;dsimp only;unfold attributeErrorLeaves;refine iN Y (ae (wpAny_throw ?_));show aI _ _ (lQ _ _ >>= _) _ _ _;refine ae (jY (b:=true) (q _) sub_AttributeError ?_);refine iN Y (aE ?_);exact h f i keeps
def QW:entryFor table "dict.update.loop"=O fX.«dict.update.loop»:=entryFor_of_tree zF
def V6:plainId "dict.update.loop"=true:=by decide +kernel
noncomputable def u_(b:List (Key×Z×Z)):List (Key×Z):=b.foldl (λa p=>lL a p.1 p.2.2) []
def Ws(a:List (Key×Z))(k:Key)(v:Z):(lL a k v).length<=a.length+1:=by
 unfold lL;split
 .rw[lm];omega
 .simp
theorem Sb:∀(b:List (Key×Z×Z))(a:List (Key×Z)),(b.foldl (λa p=>lL a p.1 p.2.2) a).length<=a.length+b.length
|[],a=>by simp
|p::b,a=>by have:=Sb b (lL a p.1 p.2.2);have h:=Ws a p.1 p.2.2;rw[i5,aB];omega
def DM{h0:bC}{I l d:G}{items:Array Z}{ps:List (Key×Z×Z)}{zv:Result->ao->Prop}(hh:A.in1.handled=B)(ak:l≠I)(u:d≠I)(ab:d≠l)(ai:ps.length=items.size)(hz:ps.length<=sizeLine)(aC:∀(i:Nat)p,ps[i]?=O p->∃a o n,items[i]?=O (.ref a)/\h0.get? a=O o/\o.cls=.type "tuple"/\o.data=.seq #[p.2.1,p.2.2] n)(hk:∀p∈ps,(Z1 prog w).is p.1 p.2.1=true)(N:∀b o,h0.get? b=O o->b≠d/\b≠I):∀(k i:Nat)(j:Int)(s:ao),items.size-i=k->i<=items.size->(∀b o,h0.get? b=O o->s.heap.get? b=O o)->s.heap.IsListIter I l i->s.heap.IsList l items->s.heap.DictOf (Z1 prog w) d (u_ (ps.take i)) ->(∀(g:bC)(C:Nat),(∀b o,h0.get? b=O o->g.get? b=O o)->g.DictOf (Z1 prog w) d (u_ ps)->zv (.ok (.ret .none)) {s with heap:=g,toks:=C}) ->iK (aZ prog w) A (Code.builtin "dict.update.loop" {pos:=[.ref d,.ref I,dU j,.none],kw:=[]}) zv s:=by
 have W:=Walks.list (prog:=prog) (w:=w) (A:=A.in1) hh I l ak items;intro k;induction k with
|zero=>
  intro i j s az hi c it L F M;have e:i=items.size:=by omega
  subst e;refine gN QW ?_;rw[fH V6];unfold fX.«dict.update.loop»;refine ae (W.done s _ _ ⟨it,L⟩ λg C mv=>?_);show aI _ _ (k9 d [] >>= _) _ _ _;unfold k9;refine ae (ae (aE (aE ?_)));refine aE (M g C (λb o e=>mv b o (by simpa using(N b o e).2) (c b o e)) ?_);rw[<-ai,cg]at F;obtain⟨o,P,t,y,r⟩:=F;exact⟨o,P,t,mv d o (by simpa using u) y,r⟩
|succ k ih=>
  intro i j s az hi c it L F M;have ar:i<items.size:=by omega
  refine gN QW ?_;rw[fH V6];unfold fX.«dict.update.loop»;refine ae (W.item i s _ _ ar ⟨it,L⟩ λv g C hv st mv=>?_);have q:i<ps.length:=by omega
  have t:ps[i]?=O ps[i]:=gE q;have h:ps[i]∈ps:=bo q;generalize ps[i]=p at t h;obtain⟨a,o,n,ea,y,hc,hd⟩:=aC i p t;rw[ea]at hv;cases hv;have f:∀b o,h0.get? b=O o->g.get? b=O o:=λb o e=>mv b o (by simpa using(N b o e).2) (c b o e);have z:=f _ _ y;have ah:g.DictOf (Z1 prog w) d (u_ (ps.take i)):=by obtain⟨o,P,t,y,r⟩:=F;exact⟨o,P,t,mv d o (by simpa using u) y,r⟩
  refine ae (bL (ae (wpAny_tryCatch ?_)));unfold Builtin.Dict.pairItems;refine ae (jy (T:="tuple") ⟨o,z,hc⟩ ?_);refine iN Y ?_;unfold seqItems?;refine ae (ae (wpAny_load z ?_));rw[hd];refine aE (aE ?_);show aI _ _ (jx [p.2.1,p.2.2] (dictSet d p.2.1 p.2.2)) _ _ _;refine bL (wpAny_dictSet_pairs (k:=p.1) (hsz:=?_) (hk p h) ah (λh2 m2 H=>?_))
  .refine aE ⟨jd V6 _,?_⟩;have x:∀b o,h0.get? b=O o->h2.get? b=O o:=λb o e=>(H.2 b (N b o e).1).trans (f b o e);refine ih (i+1) (j+1) _ zD zD x ?_ ?_ ?_ ?_
   .obtain⟨oI,X,Q⟩:=st.1;exact⟨oI,(H.2 I (dc u)).trans X,Q⟩
   .obtain⟨ol,X,Q⟩:=st.2;exact⟨ol,(H.2 l (dc ab)).trans X,Q⟩
   .rw[cq,t];unfold u_ at m2 ⊢;rw[List.foldl_append];exact m2
   .exact λh3 aa=>M h3 aa
  .have:=Sb (ps.take i) [];rw[aY]at this;unfold u_;have h0:([]:List (Key×Z)).length=0:=rfl;omega
end
section
variable {X:Cx}
noncomputable def Lf(b:List (Key×V)):List (Key×V):=b.foldl (λa p=>Yb a p.1 p.2) []
def BJ(K:af):List V->Hp->VK->Prop:=λf H Q=>∃(l:G)(b:List V)(c:List (Key×V)),f=[.ref l]/\jw K H l b/\bX (λv p=>∃(a:G),v=.ref a/\H a=O (.tup [kV p.1,p.2])) b c/\b.length<=1000 /\∀d,H d=B->Q (.ref d) (upd H d (.dK (Lf c)))
def Cd{d:List (Key×V)}{c:List (Key×Z×Z)}{a:List (Key×V)}{b:List (Key×Z)}(h:bX (λ(p:Key×V)(q:Key×Z×Z)=>p.1=q.1/\RelV (kV p.1) q.2.1/\RelV p.2 q.2.2) d c)(r:KV a b):KV (d.foldl (λa p=>Yb a p.1 p.2) a) (c.foldl (λb p=>lL b p.1 p.2.2) b):=by
 induction h generalizing a b with
|nil=>exact r
|@cons p q d c i _ f=>obtain⟨e,j,g⟩:=i;rw[i5,i5];refine f ?_;rw[<-e];exact r.put p.1 g
theorem Lh:∀(b a:List (Key×V)),(b.foldl (λa p=>Yb a p.1 p.2) a).length<=a.length+b.length
|[],a=>by simp
|p::b,a=>by have d:=Lh b (Yb a p.1 p.2);have c:=Xp a p.1 p.2;rw[i5,aB];omega
def Fw{c:List (G×eN)}{j:St}{H:Hp}{s:ao}(I:Inv X c j H s){b:List V}{g:List Z}{i:List (Key×V)}(d:Zt b g)(h:bX (λv(p:Key×V)=>∃(a:G),v=.ref a/\H a=O (.tup [kV p.1,p.2])) b i):∃f:List (Key×Z×Z),bX (λ(p:Key×V)(q:Key×Z×Z)=>p.1=q.1/\RelV (kV p.1) q.2.1/\RelV p.2 q.2.2) i f/\bX (λu(q:Key×Z×Z)=>∃a o n,u=aN a/\s.heap.get? a=O o/\o.cls=.type "tuple"/\o.data=.seq #[q.2.1,q.2.2] n) g f:=by
 induction h generalizing g with
|nil=>cases d;exact⟨[],.nil,.nil⟩
|@cons v p b i Q _ L=>
  cases d with
 |cons r t=>
   obtain⟨f,P,N⟩:=L t;obtain⟨a,e,M⟩:=Q;subst e;cases r;obtain⟨l,d,⟨o,e1,W,n,T⟩,_⟩:=I.tuple (lR.of M);obtain⟨x,z,rfl,C,A⟩:∃x z,l=[x,z]/\RelV (kV p.1) x/\RelV p.2 z:=by
    cases d with
   |cons F y=>cases y with
    |cons E w=>cases w;exact⟨_,_,Y,F,E⟩
   exact⟨(p.1,x,z)::f,.cons ⟨Y,C,A⟩ P,.cons ⟨a,o,n,Y,e1,W,T⟩ N⟩
def PB{d c:Type}{f:d->c->Prop}{a:List d}{b:List c}(h:bX f a b):∀{i:Nat}{y:c},b[i]?=O y->∃x,a[i]?=O x/\f x y:=by
 induction h with
|nil=>intro i x h;cases h
|cons r _ g=>
  intro i x h;cases i with
 |zero=>cases h;exact⟨_,Y,r⟩
 |succ i=>obtain⟨u,l,j⟩:=g (i:=i) (y:=x) (by simpa using h);exact⟨u,by simpa using l,j⟩
def Kp(hc:X.calm=true):XF X (.type "dict") (BJ X.K):=by
 intro ab s σ H xs us Q I r h;obtain⟨l,ak,P,rfl,hq,pk,hl,q⟩:=h;obtain⟨u,rfl,ru⟩:=vals1 r;cases ru;obtain⟨M,rv,pl,hz⟩:=I.list hq;obtain⟨ps,N,pb⟩:=Fw I rv pk;have ar:=rv.length;have lp:=gv pb;have lk:=gv pk;have ai:=gv N;obtain⟨ol,n0,L,cl,dl,sl⟩:=pl;refine callType_codes F.kt_called_dict (F.kt_typeCall_dict_1 _) F.entry_dict_init (kt_code_dict_new (Q₁:=λobj s1=>obj=.ref s.heap.objs.size/\s1={s with heap:=s.heap.push {cls:=.type "dict",data:=.dict #[]}}) _ ⟨Y,Y⟩) λobj s1⟨e1,e2⟩=>?_;subst e1 e2;have hD:∀(y:bC),(∀b o,(s.heap.push {cls:=.type "dict",data:=.dict #[]}).get? b=O o->y.get? b=O o)->y.DictOf (Z1 X.prog X.w) s.heap.objs.size []:=λy k=>by obtain⟨o,es,ep,ho,r⟩:=Heap.DictOf.new (knd:=Z1 X.prog X.w) s.heap;exact⟨o,es,ep,k _ _ ho,r⟩
 refine⟨⟨_,aR _ Y,Y⟩,F.args_dict_init_2 _ _,?_⟩;have c:∀b o,s.heap.get? b=O o->(s.heap.push {cls:=.type "dict",data:=.dict #[]}).get? b=O o:=λb o e=>av _ e;have z:l<s.heap.objs.size:=aK L;generalize j:s.heap.objs.size=f at *;unfold fX.«dict.__init__»;refine ae ?_;unfold Builtin.Dict.selfAndRest;refine ae (wpAny_notOrdered_dict ⟨_,by rw[<-j];exact aR _ Y,Y⟩ ?_);refine ae (aE (aE ?_));show aI _ _ (lD _ _ _ _ _) _ _ _;unfold lD;refine ae (jy (T:="list") ⟨ol,c _ _ L,cl⟩ ?_);refine iN Y ?_;obtain⟨c0,d0,t0,z0⟩:=ol;subst cl dl sl;have E:X.A.in1.in1.handled=B:=I.ok.hd hc;refine ae (Dw (c _ _ L) E λt ah W=>?_);refine iN Y ?_;refine ae (lO ?_);have C:t.IsList l M.toArray:=⟨_,W _ _ (c _ _ L),Y,_,Y⟩;refine ae (gR C ?_);refine aE ⟨jd V6 _,?_⟩;have g:f<t.objs.size:=aK (W f _ (by rw[<-j];exact aR _ Y));have k2:∀b o,(s.heap.push {cls:=.type "dict",data:=.dict #[]}).get? b=O o->(t.push {cls:=.type "list_iterator",data:=.fields #[.ref l,.int 0 0]}).get? b=O o:=λb o e=>av _ (W _ _ e);refine DM (A:=X.A.in1) (h0:=s.heap) (I:=t.objs.size) (l:=l) (d:=f) (items:=M.toArray) (ps:=ps) E (bc (Nat.lt_trans z g)) (bc g) (df z) (by rw[aQ];omega) (aj (by omega:ps.length<=1000) D) (λi p hp=>?_) (λp hp=>?_) (λb o e=>?_) M.toArray.size 0 0 _ zD (bK _) ?_ ?_ ?_ ?_ (λy tk kk m=>?_)
 .obtain⟨u,aa,a,o,n,e,r1,r2,r3⟩:=PB pb hp;subst e;exact⟨a,o,n,by simpa using aa,r1,r2,r3⟩
 .obtain⟨i,hi⟩:=cD.mp hp;obtain⟨x,_,e,t,_⟩:=PB N hi;rw[<-e];exact Nv t
 .have hb:b<f:=j▸aK e;exact⟨bc hb,bc (Nat.lt_trans hb g)⟩
 .exact λb o e=>k2 _ _ (c _ _ e)
 .exact⟨_,aR _ Y,Y,Y⟩
 .obtain⟨o,e,r⟩:=C;exact⟨o,av _ e,r⟩
 .exact hD _ k2
 .have keep:∀b o,s.heap.get? b=O o->y.get? b=O o:=kk;have hn:H f=B:=I.lI.fresh (la j);have zl:(Lf P).length<=sizeLine:=by have:=Lh P [];exact aj (aj this (by rw[dz];omega:_<=1000)) D
  exact⟨Y,.ref f,upd H f (.dK (Lf P)),I.laid keep (la j) (Ka zl (by rw[<-j];exact beq_eq_false_iff_ne.mpr (dc (bc I.big))) (Cd N .nil) m),Y,q _ hn⟩
end
end L2
namespace TX
open PySem L2 PySem.Spec PyProof.Rows TB WD
noncomputable def qk(j:Nat)(a:Kv)(n:Int):List (List V)->Nat->List Ent->Option (Nat×U)
|_,_,[]=>B
|pre,i,e::L=>if e.1=j then(if pI j a n (pre.map Zl) (pre.map ZH).sum e.2="" then qk j a n (pre++[e.2]) (i+1) L else O (i,pI j a n (pre.map Zl) (pre.map ZH).sum e.2))else qk j a n pre (i+1) L
noncomputable def uU(t:List (List V)):Kv:=Lf (t.map λp=>(.inr (Zl p),at_ p 1))
noncomputable def uj(j:Nat)(L:List Ent):Kv:=if j=1 then[]else uU (sel 1 L)
noncomputable def sj(n:Int)(L:List Ent)(j:Nat):Option (Nat×U):=qk j (uj j L) n [] 0 L
noncomputable def rD(n:Int)(L:List Ent):Option (Nat×U):=match sj n L 1 with
|some p=>O p
|none=>match sj n L 2 with
 |some p=>O p
 |none=>match sj n L 3 with
  |some p=>O p
  |none=>sj n L 4
theorem SQ:∀(t:List (List V))(a:Kv),(t.map Zl).Nodup->(∀p∈t,j2 ((t.map λp=>((.inr (Zl p),at_ p 1):Key×V)).foldl (λa p=>Yb a p.1 p.2) a) (.inr (Zl p))=O (at_ p 1))/\∀z,z∉t.map Zl->j2 ((t.map λp=>((.inr (Zl p),at_ p 1):Key×V)).foldl (λa p=>Yb a p.1 p.2) a) (.inr z)=j2 a (.inr z)
|[],a,_=>⟨λp hp=>zI hp zE,λz _=>rfl⟩
|q::t,a,b=>by
  rw[aH,d9]at b;obtain⟨f,d⟩:=SQ t (Yb a (.inr (Zl q)) (at_ q 1)) b.2;rw[aH,i5];refine⟨λp hp=>?_,λz c=>?_⟩
  .rcases ay.mp hp with rfl|hp
   .rw[d _ b.1,VD,zH Y]
   .exact f p hp
  .rw[aH,ay,not_or]at c;rw[d z c.2,VD,zG (λe=>c.1 (by injection e))]
def Pq{t:List (List V)}(a:(t.map Zl).Nodup):mj (uU t) t:=by obtain⟨d,c⟩:=SQ t [] a;exact⟨d,λz b=>(c z b).trans Y⟩
def Ot  (d:mj g t)(c:mj f t)(z:U):j2 g (.inr z)=j2 f (.inr z):=by
 by_cases a:z∈t.map Zl
 .obtain⟨p,b,rfl⟩:=aG.mp a;rw[d.has p b,c.has p b]
 .rw[d.no z a,c.no z a]
def AA{j:Nat}{n c:Int} (h:j≠1->∀z,j2 d (.inr z)=j2 k2 (.inr z)):pI j d n b c f=pI j k2 n b c f:=by
 unfold pI;by_cases a:j=1
 .rw[zH a,zH a]
 rw[zG a,zG a];have h:=h a;have i:∀s g,mu d s g=mu k2 s g:=λs g=>by unfold mu;rw[h s,h g]
 rw[h,i]
section
variable {j:Nat}{k1:Kv}{n:Int}{t1:List (List V)}
def SK(i:isJ j) (ok:ou j n t1 pre)(h:mZ j c)(l:∀y∈c,YI y)(d:j≠1->mj k1 t1)(e:pI j k1 n (pre.map Zl) (pre.map ZH).sum c=""):ou j n t1 (pre++[c]):=by
 obtain⟨r,q,p⟩:=Az i h l d e;refine⟨?_,λy hy=>?_,λg=>?_⟩
 .rw[aA,k7];refine⟨ok.nd,d9.mpr ⟨zE,iz⟩,λa o b f=>?_⟩;rw[aH,cJ,aL]at f;rintro rfl;exact q (f▸o)
 .rcases ba.mp hy with hy|hy
  .exact ok.row y hy
  .rw[aL.mp hy];exact r
 .have:=p g;rw[aA,iY,aH,cJ,dM,List.sum_nil];omega
theorem RR(b:isJ j)(d:j≠1->mj k1 t1):∀(L:List Ent)(pre:List (List V))(i:Nat),(∀e∈L,e.1=j->mZ j e.2/\∀y∈e.2,YI y)->ou j n t1 pre->qk j k1 n pre i L=B->ou j n t1 (pre++sel j L)
|[],pre,i,_,ok,_=>by rw[show sel j []=[]from rfl,bj];exact ok
|e::L,pre,i,l,ok,h=>by
  unfold qk at h;rw[XZ];have a:∀x∈L,x.1=j->mZ j x.2/\∀y∈x.2,YI y:=λx o=>l x (au _ o);by_cases c:e.1=j
  .rw[zH c]at h ⊢;obtain⟨p,f⟩:=l e ax c;by_cases g:pI j k1 n (pre.map Zl) (pre.map ZH).sum e.2=""
   .rw[zH g]at h;rw[<-bu];exact RR b d L _ _ a (SK b ok p f d g) h
   .rw[zG g]at h;cases h
  .rw[zG c]at h ⊢;exact RR b d L _ _ a ok h
theorem RQ(o:isJ j)(d:j≠1->mj k1 t1){m:Nat}{b:U}:∀(L:List Ent)(pre:List (List V))(i:Nat),(∀e∈L,e.1=j->mZ j e.2/\∀y∈e.2,YI y)->ou j n t1 pre->qk j k1 n pre i L=O (m,b) ->∃p2 c post,sel j L=p2++c::post/\ou j n t1 (pre++p2)/\pI j k1 n ((pre++p2).map Zl) ((pre++p2).map ZH).sum c=b/\b≠""/\(lW j i L)[p2.length]?=O (m,c)/\mZ j c
|[],pre,i,_,ok,h=>by cases h
|e::L,pre,i,q,ok,h=>by
  unfold qk at h;rw[XZ];unfold lW;have g:∀x∈L,x.1=j->mZ j x.2/\∀y∈x.2,YI y:=λx t=>q x (au _ t);by_cases a:e.1=j
  .rw[zH a]at h;rw[zH a,zH a];obtain⟨p,f⟩:=q e ax a;by_cases l:pI j k1 n (pre.map Zl) (pre.map ZH).sum e.2=""
   .rw[zH l]at h;obtain⟨p2,c,post,A,s,r,z,w,u⟩:=RQ o d L _ _ g (SK o ok p f d l) h;refine⟨e.2::p2,c,post,by rw[A];rfl,?_,?_,z,by simpa using w,u⟩
    .rw[bu]at s;exact s
    .rw[bu]at r;exact r
   .rw[zG l]at h;cases h;refine⟨[],e.2,sel j L,Y,by rw[bj];exact ok,by rw[bj],l,Y,p⟩
  .rw[zG a]at h;rw[zG a,zG a];exact RQ o d L _ _ g ok h
end
noncomputable def ve(m:Nat)(L:List Ent):Sum (Nat×U) Tb:=match lW 0 0 L with
|[]=>.inl (m,"turns")
|a::r=>match r with
 |b::_=>.inl (b.1,"turns")
 |[]=>if 1<=iv (at_ a.2 0)/\iv (at_ a.2 0)<=50 then(match rD (iv (at_ a.2 0)) L with
  |some p=>.inl p
  |none=>.inr (uY (iv (at_ a.2 0)) L))else .inl (a.1,"number")
noncomputable def pH(a:List U):Sum (Nat×U) Tb:=if(kl a).length≠a.length then .inl ((kl a).length,"form")else ve a.length (kl a)
def NR {e:Ent}(h:e∈kl ls):(e.1=0->∃n:Int,e.2=[.int n])/\(e.1≠0->mZ e.1 e.2):=by
 induction ls with
|nil=>cases h
|cons l ls d=>
  unfold kl at h;cases a:Ye l with
 |none=>rw[a]at h;cases h
 |some g=>
   rw[a]at h;rcases ay.mp h with rfl|h
   .unfold Ye at a;cases b:mP (Txt.split l SP)with
   |none=>rw[b]at a;cases a
   |some f=>
     rw[b]at a;cases a;cases c:Txt.split l SP with
    |nil=>rw[c]at b;cases b
    |cons z r=>rw[c]at b;exact WM b
   .exact d h
theorem Pj{j:Nat}{y:Nat×List V}:∀{i:Nat}{L:List Ent},y∈lW j i L->(j,y.2)∈L
|i,[],h=>by cases h
|i,e::L,h=>by
  unfold lW at h;by_cases a:e.1=j
  .rw[zH a]at h;rcases ay.mp h with rfl|h
   .rw[<-a];exact ax
   .exact au _ (Pj h)
  .rw[zG a]at h;exact au _ (Pj h)
def AL{n:Int}{L:List Ent}{j m:Nat}{c:U}(w:1<=n)(u:n<=50)(l:isJ j)(x:∀e∈L,isJ e.1->mZ e.1 e.2/\∀y∈e.2,YI y)(R:∀i,isJ i->i<j->Y3 i n (sel 1 L) (sel i L))(C:(sel j L).length<=l_ j)(h:sj n L j=O (m,c)):∃i o,tZ n (λj=>sel j L) (O (j,i,c))/\(lW j 0 L)[i]?=O (m,o):=by
 have d:j≠1->mj (uj j L) (sel 1 L):=λf=>by unfold uj;rw[zG f];exact Pq (R 1 (.inl Y) (by rcases l with rfl|rfl|rfl|rfl<;>omega)).2.nd
 obtain⟨p2,o,post,N,t,s,M,I,H⟩:=RQ l d L [] 0 (λe E r=>r▸x e E (r▸l)) ⟨iz,λ_ h=>(by cases h),λ_=>by simp⟩ h;rw[fO]at t s;refine⟨p2.length,o,.bad w u l R N C t (λP p hk a b=>?_),I⟩;rw[HP H (nms:=p2.map Zl) (λz=>?_),AA (k2:=uj j L) (λf z=>Ot (hk f) (d f) z),s,Jc M];by_cases g:z∈p2.map Zl
 .rw[zJ g];obtain⟨q,A,rfl⟩:=aG.mp g;have:=b q A;cases F:j2 p (.inr (Zl q))with
 |none=>exact zI F this
 |some _=>rfl
 .rw[zK g,a z g];rfl
def V7{n:Int}{L:List Ent}{j:Nat}(a:isJ j)(f:∀e∈L,isJ e.1->mZ e.1 e.2/\∀y∈e.2,YI y)(R:∀i,isJ i->i<j->Y3 i n (sel 1 L) (sel i L))(g:(sel j L).length<=l_ j)(h:sj n L j=B):Y3 j n (sel 1 L) (sel j L):=by
 have d:j≠1->mj (uj j L) (sel 1 L):=λc=>by unfold uj;rw[zG c];exact Pq (R 1 (.inl Y) (by rcases a with rfl|rfl|rfl|rfl<;>omega)).2.nd
 exact⟨g,RR a d L [] 0 (λe l b=>b▸f e l (b▸a)) ⟨iz,λ_ h=>(by cases h),λ_=>by simp⟩ h⟩
def BF{c:List U}(T:∀z∈c,z.length<=1000)(o:∀j,isJ j->(sel j (kl c)).length<=l_ j):q_ c (pH c):=by
 unfold pH;by_cases f:(kl c).length=c.length;case neg=>rw[zH f];exact .xy f
 rw[zG (λq=>q f)];unfold ve;cases hs:lW 0 0 (kl c)with
|nil=>exact .non f hs
|cons a r=>
  cases r with
 |cons b r=>exact .two f hs
 |nil=>
   obtain⟨Q,t⟩:=a;obtain⟨n,e⟩:=(NR (Pj (y:=(Q,t)) (by rw[hs];exact ax))).1 Y;have e:t=[.int n]:=e;subst e;dsimp only;rw[show iv (at_ [V.int n] 0)=n from rfl];have l:∀e∈kl c,isJ e.1->mZ e.1 e.2/\∀y∈e.2,YI y:=λe H ej=>⟨(NR H).2 (by rcases ej with h|h|h|h<;>omega),V5 T e H⟩
   by_cases s:1<=n/\n<=50;case neg=>rw[zG s];exact .bad f hs (.turns s) (by rw[hs];rfl)
   rw[zH s];obtain⟨E,C⟩:=s;have bad:∀j m g,isJ j->(∀i,isJ i->i<j->Y3 i n (sel 1 (kl c)) (sel i (kl c)))->sj n (kl c) j=O (m,g)->q_ c (.inl (m,g)):=λj m g F R h=>by obtain⟨i,t,X,W⟩:=AL E C F l R (o j F) h;exact .bad f hs X W
   unfold rD;cases N:sj n (kl c) 1 with
  |some p=>exact bad 1 p.1 p.2 (.inl Y) (λi d h=>(by rcases d with rfl|rfl|rfl|rfl<;>omega)) N
  |none=>
    have p1:=V7 (.inl Y) l (λi d h=>(by rcases d with rfl|rfl|rfl|rfl<;>omega)) (o 1 (.inl Y)) N
    have x:∀i,isJ i->i<2->Y3 i n (sel 1 (kl c)) (sel i (kl c)):=λi d h=>by
     rcases d with rfl|rfl|rfl|rfl
     .exact p1
     all_goals omega
    cases M:sj n (kl c) 2 with
   |some p=>exact bad 2 p.1 p.2 (.inr (.inl Y)) x M
   |none=>
     have p2:=V7 (.inr (.inl Y)) l x (o 2 (.inr (.inl Y))) M;have w:∀i,isJ i->i<3->Y3 i n (sel 1 (kl c)) (sel i (kl c)):=λi d h=>by
      rcases d with rfl|rfl|rfl|rfl
      .exact p1
      .exact p2
      all_goals omega
     cases L:sj n (kl c) 3 with
    |some p=>exact bad 3 p.1 p.2 (.inr (.inr (.inl Y))) w L
    |none=>
      have A:=V7 (.inr (.inr (.inl Y))) l w (o 3 (.inr (.inr (.inl Y)))) L;have u:∀i,isJ i->i<4->Y3 i n (sel 1 (kl c)) (sel i (kl c)):=λi d h=>by
       rcases d with rfl|rfl|rfl|rfl
       .exact p1
       .exact p2
       .exact A
       all_goals omega
      cases I:sj n (kl c) 4 with
     |some p=>exact bad 4 p.1 p.2 (.inr (.inr (.inr Y))) u I
     |none=>
       have P:=V7 (.inr (.inr (.inr Y))) l u (o 4 (.inr (.inr (.inr Y)))) I;exact .good f hs (.good E C λi d=>by
        rcases d with rfl|rfl|rfl|rfl
        .exact p1
        .exact p2
        .exact A
        .exact P)
def uM(H:Hp)(q:G)(r:Sum (Nat×U) Tb):Prop:=match r with
|.inl p=>H q=O (.tup [.str "line",.int (p.1:Nat),.str p.2])
|.inr T=>∃a,H q=O (.tup [.str nu,.ref a])/\sA H a T
def ES:Sp:=λc H Q _=>∃(l:G)(a:List U),c=[.ref l]/\H l=O (.lst (a.map V.str))/\(∀z∈a,z.length<=1000)/\a.length<=1000/\∀b q,f' H b->uM b q (pH a)->Q (.ref q) b
def O5:dj "dict"=O (.type "dict"):=by decide +kernel
def pY(H:Hp)(u:V)(l:U):Prop:=match mP (Txt.split l SP)with
|none=>u=.non
|some a=>∃q t,u=.ref q/\H q=O (.tup [.str ((Txt.split l SP).headD ""),.ref t])/\H t=O (.tup a)
def pY.same (s:f' H c) (h:pY H u l):pY c u l:=by
 unfold pY at h ⊢;cases e:mP (Txt.split l SP)with
|none=>rw[e]at h;exact h
|some d=>rw[e]at h;obtain⟨q,t,e,b,a⟩:=h;exact⟨q,t,e,s _ _ b,s _ _ a⟩
def pY.ς   (h:pY H u l):yE H u:=by
 unfold pY at h;cases e:mP (Txt.split l SP)with
|none=>rw[e]at h;exact .inl h
|some b=>rw[e]at h;obtain⟨q,t,e,a,c⟩:=h;exact .inr ⟨q,_,e,a⟩
def uL(H:Hp)(u:V)(e:Ent):Prop:=∃q t z,u=.ref q/\H q=O (.tup [.str z,.ref t])/\H t=O (.tup e.2)/\jW z=e.1/\ZN z≠B
def uL.same (s:f' H d) (h:uL H u e):uL d u e:=by obtain⟨q,t,z,e,c,b,a⟩:=h;exact⟨q,t,z,e,s _ _ c,s _ _ b,a⟩
def Fd   (h:bX (pY H) j g):(j.any PZ=false/\(kl g).length=g.length/\bX (uL H) j (kl g))\/(j.any PZ=true/\(kl g).length≠g.length/\j[(kl g).length]?=O .non/\∀m,m<(kl g).length->j[m]?≠O .non):=by
 induction h with
|nil=>exact .inl ⟨Y,Y,.nil⟩
|@cons u l j g i _ s=>
  unfold pY at i;unfold kl Ye;cases o:mP (Txt.split l SP)with
 |none=>rw[o]at i;have i:u=.non:=i;subst i;exact .inr ⟨Y,zE,Y,λm n=>by simp at n⟩
 |some C=>
   rw[o]at i;obtain⟨q,t,rfl,y,x⟩:=i;have p:ZN ((Txt.split l SP).headD "")≠B:=by obtain⟨z,r,f,A,w,_⟩:=JT o;rw[A];show ZN z≠B;rw[w];exact λq=>by cases q
   rcases s with⟨a,b,c⟩|⟨a,b,c,d⟩
   .exact .inl ⟨by rw[eO,a];rfl,by simpa using b,.cons ⟨q,t,_,Y,y,x,Y,p⟩ c⟩
   .refine .inr ⟨by rw[eO,a,iy],by simpa using b,by simpa using c,λm n=>?_⟩;cases m with
   |zero=>simp
   |succ m=>simpa using d m (by simpa using n)
def jW0(z:U):decide (V.str z=V.str "turns")=decide (jW z=0):=by
 by_cases h:z="turns"
 .subst h;rw[zJ Y,zJ zC]
 .rw[zK (λq=>h (by injection q)),zK];unfold jW;rw[zG h];repeat (first|(split;decide)|decide)
def QF{L:List Ent}{i:Nat}{e:Ent}(j:Nat)(h:L[i]?=O e):lW j 0 (L.take (i+1))=lW j 0 (L.take i)++if e.1=j then[(i,e.2)]else[]:=by have a:i<L.length:=(aU.mp h).1;rw[cq,h];show lW j 0 (L.take i++[e])=_;rw[Ge,jh,aY,i_ (eQ a)]
theorem Pk{j:Nat}{y:Nat×List V}:∀{i:Nat}{L:List Ent},y∈lW j i L->∃m,y.1=i+m/\L[m]?=O (j,y.2)
|i,[],h=>by cases h
|i,e::L,h=>by
  unfold lW at h;have go:y∈lW j (i+1) L->∃m,y.1=i+m/\(e::L)[m]?=O (j,y.2):=λh=>by obtain⟨m,c,b⟩:=Pk h;exact⟨m+1,zD,by simpa using b⟩
  by_cases a:e.1=j
  .rw[zH a]at h;rcases ay.mp h with rfl|h
   .exact⟨0,Y,by rw[<-a];rfl⟩
   .exact go h
  .rw[zG a]at h;exact go h
def T7(H:Hp)(v:V)(t:List (List V)):Prop:=∃a b,v=.ref a/\H a=O (.tup b)/\bX (Rl H) b t
def T7.keep{H d:Hp}(hs:∀c b,H c=O (.tup b)->d c=O (.tup b)) (h:T7 H v t):T7 d v t:=by obtain⟨a,f,e,j,i⟩:=h;refine⟨a,f,e,hs _ _ j,Paired.nQ i λ_ _ g=>?_⟩;obtain⟨p,e,h⟩:=g;exact ⟨p,e,hs _ _ h⟩
noncomputable def mT(j:Nat):List V:=(mh j).map V.str
def Ly{j:Nat}(c:j<=4)(b:ZN z≠B):tV (.str z) (mT j)=decide (jW z=j):=by
 unfold mT;rw[NU,c_,decide_eq_true_iff,decide_eq_true_iff];refine⟨λh=>RF h c,λh=>?_⟩;cases a:ZN z with
|none=>exact zI a b
|some f=>rw[<-h];exact(RI a).2
def HN{n:Int}{i:Nat}{p:Nat×U}(a:i<4)(h:∀j,j<i->sj n L (j+1)=B)(e:sj n L (i+1)=O p):rD n L=O p:=by
 unfold rD;rcases(by omega:i=0\/i=1\/i=2\/i=3)with rfl|rfl|rfl|rfl
 .rw[e]
 .rw[h 0 D,e]
 .rw[h 0 D,h 1 D,e]
 .rw[h 0 D,h 1 D,h 2 D,e]
def GG{n:Int}(h:∀j,j<4->sj n L (j+1)=B):rD n L=B:=by unfold rD;rw[h 0 D,h 1 D,h 2 D,h 3 D]
def EY{L:List Ent}{m:Nat}{e:Ent}(j:Nat)(h:L[m]?=O e):sel j (L.take (m+1))=sel j (L.take m)++if e.1=j then[e.2]else[]:=by rw[cq,h];show sel j (L.take m++[e])=_;rw[YS,JD]
def Ib{j:Nat}{n:Int}{L:List Ent}{m:Nat}{e:Ent}(h:L[m]?=O e):qk j a n pre m (L.drop m)=if e.1=j then(if pI j a n (pre.map Zl) (pre.map ZH).sum e.2="" then qk j a n (pre++[e.2]) (m+1) (L.drop (m+1))else O (m,pI j a n (pre.map Zl) (pre.map ZH).sum e.2))else qk j a n pre (m+1) (L.drop (m+1)):=by obtain⟨b,rfl⟩:=aU.mp h;rw[eF b];rfl
def WA{j:Nat}{b:List V}(h:b∈sel j L):(j,b)∈L:=by unfold sel at h;obtain⟨e,a,rfl⟩:=aG.mp h;rw[eV]at a;have:=zL a.2;rw[<-this];exact a.1
def Ou (h:mZ 1 a):a=[.str (Zl a),at_ a 1]:=by cases h<;>rfl
def Od   (h:bX (Rl H) b t)(c:∀y∈t,mZ 1 y):bX (λv(p:Key×V)=>∃a,v=.ref a/\H a=O (.tup [kV p.1,p.2])) b (t.map λp=>(.inr (Zl p),at_ p 1)):=by
 induction h with
|nil=>exact .nil
|@cons v y b t i _ f=>obtain⟨a,e,d⟩:=i;refine .cons ⟨a,e,?_⟩ (f λz g=>c z (au _ g));rw[Ou (c y ax)]at d;exact d
section
variable {P:a9}{w:bg}{K:af}{J:U->Option Z}{S:bC}
def Z8:ia [qw,"_law_rows",qv,w9,o5,"_law_parts",mQ,sY,"_law_part",pd,tS,"_law_why"] [qw] (Ze T.nU):=nc
noncomputable def Mp:dh:=pL [(".0",.local),(qV,.local),("_law_row",.globalImplicit)]
def NF:i4 Mp (Ze T.nU):=⟨Y,zC,zC,zC⟩
def NH:([qV]:List U).Nodup:=by decide +kernel
def NG:i3 [qw,"_law_rows",qv,w9,o5,"_law_parts",mQ,sY,"_law_part",pd,tS,"_law_why"] Mp [qV] [B]:=.mk' zC
noncomputable def Vo:dh:=pL [(".0",.local),(qv,.local),("_law_rows",.free)]
def NB:i4 Vo (Ze T.nU):=⟨Y,zC,zC,zC⟩
def ND:([qv,"_law_rows"]:List U).Nodup:=by decide +kernel
def NC:i3 [qw,"_law_rows",qv,w9,o5,"_law_parts",mQ,sY,"_law_part",pd,tS,"_law_why"] Vo [qv,"_law_rows"] [B,O 1]:=.mk' zC
def Al(zw:∀x∈mE,J x=B)(Bd:J "dict"=B)(CR:l8 P w K J S 2 "_law_row" [qV] EO)(CA:l8 P w K J S 2 "_law_amiss" [o5,mQ,pd,tS,"_law_ahead"] Io)(zB:Df K J "_law_due" T.nU [qw]):l8 P w K J S 3 "_law_due" [qw] ES:=by
 refine zB.cn Z8 λf gx A f5 s H vs Q E hr h=>?_;obtain⟨l,ls,rfl,hl,hz,hn,k⟩:=h;refine' ⟨_,(Zb ?fa (Zb ?eY (Zb ?eX (Zb ?eW (Zb ?eP (Zb ?eM (Zb (st 5 Z8.nd (Zw Zg)) (Zb (st 6 Z8.nd JU) (Zb ?eL (Zi ?eH)))))))))),?rd⟩;case' eH=>refine' (Zn ?fb)
 case' eL=>refine' (Y9 dH Y (Yy ?fy) (mH 7 Z8.nd) (Zb (st 8 Z8.nd (Zw Zg)) (Zb ?fk (Zb ?fi (Zi ?fc)))))
 case' eM=>refine' (ZC (Yn (Gn VL VL Zd (R 4) Zd)) (Zi (Zn (Yo (qX Zf (il K (R 3) Zd) Zf)))) Zq)
 case' eP=>refine' (st 4 Z8.nd (it K (it K (il K (R 1) (il K (R 3) Zd)) Zd) Zd))
 case' eW=>refine' (ZC (Zo JK (Zz (r:=nJ K) ZO Y (bm zw) bt (me (R 3))) Zd (Zu _)) (Zi ?h6) Zq)
 case' eX=>refine' (YZ (i:=3) Z8.nd Y (dD Y) (scope:=Vo) (N:=[qv,"_law_rows"]) (cp:=[B,O 1]) Y NB NC (YB Y (bm zw) (me (Zz (r:=nJ K) ZO Y (bm zw) bt (me (R 1))))) (λC s H ex pn=>(mH 0 ND)) (λC s H ex pn=>(V4 (Zo Ym (it K (il K (R 1) (R 0)) Zd) Zf (Zu _)))) (λC s H ex pn=>(R 0)))
 case' eY=>refine' (ZC (Zo (Fz hr.units) ZK (R 1) (by with_unfolding_all rfl)) (Zi ?h2) Zq)
 case' fa=>refine' (@Yv _ _ 1 _ _ _ _ Z8.nd zF (by exact ir Y) (Yp Y NF NG (Yy (R 0)) (λC s H ex pn=>(mH 0 NH)) (λC s H ex pn=>ZW) (λC s H ex pn=>(cn CR hr (Za (R 0) Zg)))) zF (by exact dD Y))
 case' fb=>refine' (Yo (o7 Zf (Zv OA (Yo (me (R 4))) (ZE YH Y (bm zw) XA (me (R 5))))))
 case' fc=>refine' (Yc (YR bD cA cz Y6 (R 5) (me (ZE YH Y (bm zw) XA (me (R 8))))))
 case' fi=>refine' (ZC (Zo (PL hr.units) (R 5) (Zw Zg) (Zu _)) (Zi ?fl) Zq)
 case' fk=>refine' (Y9 dH Y (Pu Y (bm zw) (me (R 1)) zC) (XG Y (Zx (mH 2 Z8.nd) (Zx (XG Y (Zx (mH 9 Z8.nd) (Zx (mH 10 Z8.nd) Yd))) Yd))) (Zi ?fm))
 case' fl=>refine' (st 6 Z8.nd (ZE (Kp Y) Y Bd O5 (me (R 8))))
 case' fm=>refine' (ZC (Zo JV (R 9) (R 7) (by with_unfolding_all rfl)) (Zb ?fx (Zb ?fp (Zi ?fo))) Zq)
 case' fo=>refine' (Yc (YR bD cA cz Y6 (R 8) (me (R 10))))
 case' fp=>refine' (ZC (Zo JK (R 11) Zf (Zu _)) (Zi (Zn (Yo (qX Zf (R 2) (R 11))))) Zq)
 case' fx=>refine' (st 11 Z8.nd (cn CA hr (Za (R 4) (Za (R 6) (qX (R 9) (R 10) (R 8))))))
 case' fy=>refine' (Zw (Za (Yo (o7 Zf Zf)) (qX (Yo (me Zf)) (Yo (me Zf)) (Yo (me Zf)))))
 case' h6=>refine' (Zn ?h5)
 case' h5=>refine' (Yo (qX Zf (X4 (Zo (PL hr.units) (R 3) (Zw Zg) (Zu _)) (Zz (r:=nJ K) ZO Y (bm zw) bt (me (R 1))) (il K (R 3) Zd)) Zf))
 case' h2=>refine' (Zn ?h1)
 case' h1=>refine' (Yo (qX Zf (YR bD PySem.F.slot_list_index PySem.F.type_list_index (FL hr.units) (R 1) (me ZK)) Zf))
 case' rd=>
 refine tq λD1 g1=>?_;refine⟨_,Y,l,Y,⟨_,jw.of hl⟩,?_⟩;refine ZX (zA:=qA K l) ls.length (aj hn D) (λi I τ d=>f' H d/\bX (pY d) I (ls.take i)/\∃v,τ=[v]) ⟨f'.refl _,.nil,B,Y⟩ (λi I τ d q=>by rw[pairs_len q.2.1,aY];omega) (λi I τ d hi q=>?_) (λI τ d q=>?_) (λi I τ d x H2 hi q yl=>?_) (λI τ d q lr cP=>?_)
 .exact⟨_,V.str ls[i],jw.of (q.1 _ _ hl),by rw[aT,gE hi];rfl⟩
 .exact⟨_,jw.of (q.1 _ _ hl),by rw[lm];exact aq _⟩
 .obtain⟨S1,pa,v,rfl⟩:=q;obtain⟨rfl,hx⟩:=yl;have hx:=hx _ (jw.of (S1 _ _ hl));rw[aT,gE hi]at hx;cases hx;have c2:∀(H3:Hp)(u:V),f' H2 H3->pY H3 u ls[i]->f' H H3/\bX (pY H3) (I++[u]) (ls.take (i+1)):=λH3 u s3 r=>by refine⟨S1.trans s3,?_⟩;rw[cq,gE hi];exact YW (Paired.nQ pa λ_ _ z=>z.same s3) (.cons r .nil)
  refine⟨_,Y,ls[i],Y,hz _ (bo hi),λH3 S3=>?_⟩;unfold ID;cases er:mP (Txt.split ls[i] SP)with
 |none=>obtain⟨k1,k2⟩:=c2 H3 .non S3 (by unfold pY;rw[er]);exact⟨k1,k2,_,Y⟩
 |some ys=>intro q t hq ht;obtain⟨k1,k2⟩:=c2 H3 (.ref q) S3 (by unfold pY;rw[er];exact⟨q,t,Y,hq,ht⟩);exact⟨k1,k2,_,Y⟩
 obtain⟨S0,pa,v,rfl⟩:=q;rw[cg]at pa;have S1:=Zh (o:=.lst I) S0 cP;have e1:upd d lr (.lst I) lr=O (.lst I):=Zc;have me:bX (pY (upd d lr (.lst I))) I ls:=Paired.nQ pa λ_ _ z=>z.same (Zh (f'.refl _) cP);clear pa;generalize upd d lr (.lst I)=H1 at S1 e1 me ⊢;clear S0 cP d v;refine g1 _ _ ?_;clear g1 D1;refine uS λD1 g1 r1=>?_;have cK:I.length=ls.length:=pairs_len me;refine⟨_,Y,lr,I,Y,Y,e1,λu hu=>?_,_,Y,?_⟩
 .obtain⟨i,hi⟩:=cD.mp hu;obtain⟨y,hy⟩:∃y,ls[i]?=O y:=⟨_,gE (by rw[<-cK];exact(aU.mp hi).1)⟩;have r:=Yt me hi hy;exact r.ς
 have done:∀(H2:Hp)(m:Nat)(cH:U),pH ls=.inl (m,cH)->f' H H2->∀t,H2 t=B->Q (.ref t) (upd H2 t (.tup [.str "line",.int (m:Nat),.str cH])):=λH2 m cH er s2 t ht=>k _ t (Zh s2 ht) (by rw[er];exact Zc);rcases Fd me with⟨ha,ar,pe⟩|⟨ha,ar,eD,eC⟩;case inr=>
  rw[ha];refine kq ?_;refine⟨_,Y,.inl ⟨Y,_,jw.of e1⟩,?_⟩;refine⟨lr,I,_,Y,Y,e1,λu hu=>?_,eD,eC,?_⟩
  .obtain⟨i,hi⟩:=cD.mp hu;obtain⟨y,hy⟩:∃y,ls[i]?=O y:=⟨_,gE (by rw[<-cK];exact(aU.mp hi).1)⟩;exact(Yt me hi hy).ς
  refine⟨zl,λt ht=>?_⟩;exact r1 _ _ (done H1 _ _ (by unfold pH;rw[zH ar]) S1 t ht)
 rw[ha];refine kv ?_;refine g1 _ _ ?_;clear g1 r1 D1;refine tq λD1 g1=>?_;have X:pH ls=ve ls.length (kl ls):=zG (λq=>q ar);have hP:∀e∈kl ls,(e.1=0->∃n:Int,e.2=[.int n])/\(e.1≠0->mZ e.1 e.2):=λe he=>NR he;have hF:=V5 hz;generalize kl ls=L at pe ar X hP hF;have cc:I.length=L.length:=pairs_len pe;have dy:L.length<=1000:=by rw[ar];exact hn
 refine⟨_,Y,lr,I,Y,.inl (jw.of e1),?_⟩;dsimp only[mq];rw[cc];refine⟨_,Y,zD,zD,?_⟩;refine Vp (zA:=tJ 0 L.length) L.length (aj dy D) (λi ys τ d=>d=H1/\ys=(lW 0 0 (L.take i)).map (λp=>V.int (p.1:Nat))/\∃v,τ=[v,O (.ref lr)]) ⟨Y,by simp[lW],B,Y⟩ (λi ys τ d q=>?_) (λi ys τ d hi q=>hi) (λys τ d q=>aq _) (λi ys τ d x H2 hi q yl=>?_) (λys τ d q lt b5=>?_)
 .obtain⟨_,rfl,_⟩:=q;have:=VE 0 0 (L.take i);rw[aY]at this;rw[lm];omega
 .obtain⟨rfl,rfl,v,rfl⟩:=q;obtain⟨rfl,rfl⟩:=yl;have dx:L[i]?=O L[i]:=gE hi;have az:I[i]?=O (I[i]' zD):=gE _;obtain⟨q,t,z,eu,h1,h2,h3,h4⟩:=Yt pe az dx;refine⟨_,Y,_,Y,lr,I,_,_,Y,Y,jw.of e1,XN (j:=i) zD az,?_⟩;rw[eu];refine⟨q,_,0,_,Y,Y,lR.of h1,Zy (j:=0) Y,Y,?_⟩;refine⟨_,Y,?_⟩;rw[jW0,h3,QF 0 dx];by_cases e0:L[i].1=0
  .rw[zJ e0,zH e0];refine kq ⟨_,Y,Y,?_,_,Y⟩;rw[aA,jj];rfl
  .rw[zK e0,zG e0];refine kv ⟨Y,?_,_,Y⟩;rw[bj]
 obtain⟨rfl,rfl,v,rfl⟩:=q;rw[cg];have S2:=Zh (o:=.lst ((lW 0 0 L).map λp=>V.int (p.1:Nat))) S1 b5;have e2:upd d lt (.lst ((lW 0 0 L).map λp=>V.int (p.1:Nat))) lt=O (.lst ((lW 0 0 L).map λp=>V.int (p.1:Nat))):=Zc;have aP:upd d lt (.lst ((lW 0 0 L).map λp=>V.int (p.1:Nat))) lr=O (.lst I):=(Zh (f'.refl _) b5) _ _ e1;have b0:bX (uL (upd d lt (.lst ((lW 0 0 L).map λp=>V.int (p.1:Nat))))) I L:=Paired.nQ pe λ_ _ z=>z.same (Zh (f'.refl _) b5);clear pe;generalize upd d lt (.lst ((lW 0 0 L).map λp=>V.int (p.1:Nat)))=H2 at S2 e2 aP b0 ⊢;clear e1 S1 b5 v me ha;refine g1 _ _ ?_;clear g1 D1;refine uS λD1 g1 r1=>?_;unfold ve at X;refine⟨_,Y,lt,_,Y,.inl (jw.of e2),Y,_,Y,?_⟩;rw[lm];cases hs:lW 0 0 L with
|nil=>rw[hs]at X e2;refine kq ?_;refine⟨_,Y,zl,λt0 aa=>?_⟩;refine⟨lt,t0,_,Y,Y,jw.of ((Zh (f'.refl _) aa) _ _ e2),Zc,_,Y,?_⟩;refine kq ?_;have S3:=Zh (o:=.lst []) S2 aa;have e3:=(Zh (o:=.lst []) (f'.refl _) aa) _ _ aP;refine⟨_,Y,lr,I,Y,.inl (jw.of e3),?_⟩;dsimp only[mq];refine⟨zl,λt ht=>?_⟩;rw[cK];exact r1 _ _ (done _ _ _ X S3 t ht)
|cons a r=>
 obtain⟨k0,y0⟩:=a;rw[hs]at X e2;cases r with
|cons b r=>refine kq ?_;refine⟨_,Y,zl,λt0 aa=>?_⟩;have dV:=(Zh (o:=.lst []) (f'.refl _) aa) _ _ e2;refine⟨lt,t0,_,Y,Y,jw.of dV,Zc,_,Y,?_⟩;refine kv ?_;have S3:=Zh (o:=.lst []) S2 aa;refine rA 1 dV Y ?_;refine⟨zl,λt ht=>?_⟩;exact r1 _ _ (done _ _ _ X S3 t ht)
|nil=>
 refine kv ?_;refine g1 _ _ ?_;clear g1 r1 D1;refine tq λD1 g1=>?_;obtain⟨m,em,ab⟩:=Pk (y:=(k0,y0)) (by rw[hs];exact ax);have em:k0=m:=by rw[jh]at em;exact em
 subst em;have ab:L[k0]?=O (0,y0):=ab;obtain⟨n,ey⟩:=(hP _ (cU ab)).1 Y;have ey:y0=[.int n]:=ey;subst ey;have X:pH ls=if 1<=n/\n<=50 then(match rD n L with
 |some p=>.inl p
 |none=>.inr (uY n L))else .inl (k0,"number"):=X
 have az:I[k0]?=O (I[k0]'(by rw[cc];exact(aU.mp ab).1)):=gE _;obtain⟨q0,t0,z0,eu,dp,aa,_,_⟩:=Yt b0 az ab;rw[eu]at az;refine⟨_,Y,rA 0 e2 Y ⟨lr,I,_,_,Y,Y,jw.of aP,XN (j:=k0) Y az,q0,_,1,_,Y,Y,lR.of dp,Zy (j:=1) Y,t0,_,0,_,Y,Y,lR.of aa,Zy (j:=0) Y,?_⟩⟩;clear az eu dp aa ab;refine g1 _ _ ?_;clear g1 D1;refine uS λD1 g1 r1=>?_;refine⟨_,Y,_,_,Y,Y,_,Y,?_⟩;have bT:¬(1<=n/\n<=50)->pH ls=.inl (k0,"number"):=λhn=>by rw[X,zG hn]
 by_cases a1:1<=n;case neg=>rw[zK a1];refine kv ⟨_,Y,?_⟩;refine kq ?_;refine rA 0 e2 Y ?_;refine⟨zl,λt ht=>?_⟩;exact r1 _ _ (done _ _ _ (bT λq=>a1 q.1) S2 t ht)
 rw[zJ a1];refine kq ⟨_,_,Y,Y,_,Y,?_⟩;by_cases a2:n<=50;case neg=>rw[zK a2];refine kq ?_;refine rA 0 e2 Y ?_;refine⟨zl,λt ht=>?_⟩;exact r1 _ _ (done _ _ _ (bT λq=>a2 q.2) S2 t ht)
 rw[zJ a2];refine kv ?_;refine g1 _ _ ?_;clear g1 r1 D1;rw[zH ⟨a1,a2⟩]at X;clear bT a1 a2 hs;refine⟨zl,λlp aM=>?_⟩;have np:H lp=B:=by
  cases e:H lp with
 |none=>rfl
 |some o=>rw[S2 _ _ e]at aM;cases aM
 have a0:lr≠lp:=Zp aP aM;have gq:lt≠lp:=Zp e2 aM;have S3:=Zh (o:=.lst []) (f'.refl H2) aM;have e3:upd H2 lp (.lst []) lp=O (.lst []):=Zc;dsimp only;generalize upd H2 lp (.lst [])=H3 at S3 e3 ⊢;refine λd0 b7=>?_;have gr:d0≠lp:=λz=>by rw[z,e3]at b7;cases b7
 have S4:=Zh (o:=.dK []) (f'.refl H3) b7;have e4:upd H3 d0 (.dK []) d0=O (.dK []):=Zc;dsimp only;generalize upd H3 d0 (.dK [])=H4 at S4 e4 ⊢;refine uS λzB hk ew=>?_;refine⟨zl,λw1 dg=>?_⟩;have S5:=Zh (o:=.tup (mT 1)) (f'.refl H4) dg;have e5:upd H4 w1 (.tup (mT 1)) w1=O (.tup (mT 1)):=Zc;dsimp only;rw[show([V.str "place",V.str "home"]:List V)=mT 1 from rfl];generalize upd H4 w1 (.tup (mT 1))=H5 at S5 e5 ⊢;refine⟨zl,λw2 c6=>?_⟩;have S6:=Zh (o:=.tup (mT 2)) (f'.refl H5) c6;have e6:upd H5 w2 (.tup (mT 2)) w2=O (.tup (mT 2)):=Zc;dsimp only;rw[show([V.str "ride"]:List V)=mT 2 from rfl];generalize upd H5 w2 (.tup (mT 2))=H6 at S6 e6 ⊢;refine⟨zl,λw3 c5=>?_⟩;have S7:=Zh (o:=.tup (mT 3)) (f'.refl H6) c5;have e7:upd H6 w3 (.tup (mT 3)) w3=O (.tup (mT 3)):=Zc;dsimp only;rw[show([V.str "way"]:List V)=mT 3 from rfl];generalize upd H6 w3 (.tup (mT 3))=H7 at S7 e7 ⊢;refine⟨zl,λw4 c4=>?_⟩;have S8:=Zh (o:=.tup (mT 4)) (f'.refl H7) c4;have e8:upd H7 w4 (.tup (mT 4)) w4=O (.tup (mT 4)):=Zc;dsimp only;rw[show([V.str "group"]:List V)=mT 4 from rfl];generalize upd H7 w4 (.tup (mT 4))=H8 at S8 e8 ⊢;refine⟨zl,λlw b4=>?_⟩;have S9:=Zh (o:=.lst [V.ref w1,V.ref w2,V.ref w3,V.ref w4]) (f'.refl H8) b4;have e9:upd H8 lw (.lst [V.ref w1,V.ref w2,V.ref w3,V.ref w4]) lw=O (.lst [V.ref w1,V.ref w2,V.ref w3,V.ref w4]):=Zc;generalize upd H8 lw (.lst [V.ref w1,V.ref w2,V.ref w3,V.ref w4])=H9 at S9 e9 ⊢;have ww:∀i,i<4->∃a,([V.ref w1,V.ref w2,V.ref w3,V.ref w4]:List V)[i]?=O (.ref a)/\H9 a=O (.tup (mT (i+1))):=λi hi=>by
  rcases(by omega:i=0\/i=1\/i=2\/i=3)with rfl|rfl|rfl|rfl
  .exact⟨w1,Y,S9 _ _ (S8 _ _ (S7 _ _ (S6 _ _ e5)))⟩
  .exact⟨w2,Y,S9 _ _ (S8 _ _ (S7 _ _ e6))⟩
  .exact⟨w3,Y,S9 _ _ (S8 _ _ e7)⟩
  .exact⟨w4,Y,S9 _ _ e8⟩
 have cj:=(((S5.trans S6).trans S7).trans S8).trans S9;have ck:=(S3.trans S4).trans cj;have cI:lw≠lp:=λz=>by rw[z,S8 _ _ (S7 _ _ (S6 _ _ (S5 _ _ (S4 _ _ e3))))]at b4;cases b4
 have a7:H9 lp=O (.lst []):=cj _ _ (S4 _ _ e3);have fz:H9 d0=O (.dK []):=cj _ _ e4;have a6:H9 lr=O (.lst I):=ck _ _ aP;have ef:bX (uL H9) I L:=Paired.nQ b0 λ_ _ z=>z.same ck;have d3:=S2.trans ck;clear S3 S4 S5 S6 S7 S8 S9 cj ck e3 e4 e5 e6 e7 e8 aP e2 b0 S2 b4 dg c6 c5 c4 b7 aM;refine⟨lw,Y,⟨_,jw.of e9⟩,?_⟩;generalize hW:([V.ref w1,V.ref w2,V.ref w3,V.ref w4]:List V)=W at ww e9;have eE:W.length=4:=by rw[<-hW];rfl
 clear hW;refine Xy (zA:=qA K lw) 4 (λi σ d=>(∀c o,H9 c=O o->c≠lp->d c=O o)/\(∃ps,d lp=O (.lst ps)/\bX (T7 d) ps ((bB i).map λj=>sel (j+1) L))/\(∀j,j<i->sj n L (j+1)=B)/\∃(dd:G)(o:Nat->Option V),d dd=O (.dK (uj (i+1) L))/\σ=[O (.ref l),O (.ref lr),o 2,O (.ref lt),O (.int n),O (.ref lp),O (.ref dd),o 7,o 8,o 9,o 10,o 11]) ?_ (λi σ d hi q=>?_) (λσ d q=>?_) (λi σ d x aC hi q yl=>?_) (λσ d q=>?_)
 .exact⟨λc o e _=>e,⟨[],a7,.nil⟩,λj hj=>zI hj (Nat.not_lt_zero _),d0,(λ_=>B),fz,Y⟩
 .obtain⟨a,ha,_⟩:=ww i hi;exact⟨_,_,jw.of (q.1 _ _ e9 cI),ha⟩
 .exact⟨_,jw.of (q.1 _ _ e9 cI),by rw[eE];exact aq _⟩
 .obtain⟨K1,⟨ps,a5,pp⟩,b6,dd,o,cS,rfl⟩:=q;obtain⟨rfl,hx⟩:=yl;have hx:=hx _ (jw.of (K1 _ _ e9 cI));obtain⟨a,ha,aF⟩:=ww i hi;rw[ha]at hx;cases hx;refine⟨zl,λlq cR=>?_⟩;have hj:isJ (i+1):=by unfold isJ;omega
  have Sc:=Zh (o:=.lst []) (f'.refl aC) cR;have ec:upd aC lq (.lst []) lq=O (.lst []):=Zc;have fr:aC lq=B:=cR;clear cR;generalize upd aC lq (.lst [])=Hc at Sc ec;dsimp only[Vu];refine uS λD2 dt cB=>?_;have cr:Hc lr=O (.lst I):=Sc _ _ (K1 _ _ a6 a0);refine⟨_,Y,lr,I,Y,cr,?_⟩;have f6:Hc a=O (.tup (mT (i+1))):=Sc _ _ (K1 _ _ aF (λz=>by rw[z,a7]at aF;cases aF));have gg:lr≠lq:=λz=>by rw[<-z,K1 _ _ a6 a0]at fr;cases fr
  refine Xy (zA:=LY lr) L.length (λm σ d=>(∀c o,aC c=O o->d c=O o)/\(∃xs,d lq=O (.lst xs)/\bX (Rl d) xs (sel (i+1) (L.take m)))/\sj n L (i+1)=qk (i+1) (uj (i+1) L) n (sel (i+1) (L.take m)) m (L.drop m)/\∃(o:Nat->Option V),σ=[O (.ref l),O (.ref lr),o 2,O (.ref lt),O (.int n),O (.ref lp),O (.ref dd),O (.ref a),O (.ref lq),o 9,o 10,o 11]) ?_ (λm σ d hm q=>?_) (λσ d q=>?_) (λm σ d x gy hm q yl=>?_) (λσ d q=>?_)
  .exact⟨Sc,⟨[],ec,.nil⟩,Y,o,Y⟩
  .exact⟨I,q.1 _ _ (K1 _ _ a6 a0),by rw[cc];exact hm⟩
  .exact⟨I,q.1 _ _ (K1 _ _ a6 a0),cc.symm⟩
  .obtain⟨K2,⟨xs,a4,px⟩,hg,o',rfl⟩:=q;obtain⟨Tt,gd,y,hT,dn,hy,rfl,rfl⟩:=yl;rw[K2 _ _ (K1 _ _ a6 a0)]at dn;cases dn;have ab:L[m]?=O L[m]:=gE hm;have cy:L[m]∈L:=bo hm;obtain⟨q,tt,z,rfl,hq,b3,a3,c3⟩:=Yt ef hy ab;rw[Ib ab]at hg;have ak:=EY (i+1) ab;generalize L[m]=en at ab cy hg ak b3 a3;have ST:=Zh (o:=.tup [.int (m:Nat),.ref q]) (f'.refl d) hT;have eT:upd d Tt (.tup [.int (m:Nat),.ref q]) Tt=O (.tup [.int (m:Nat),.ref q]):=Zc;clear hT;generalize upd d Tt (.tup [.int (m:Nat),.ref q])=aS at ST eT ⊢;have cx:∀c o,H9 c=O o->c≠lp->aS c=O o:=λc o e ne=>ST _ _ (K2 _ _ (K1 _ _ e ne));have ee:aS q=_:=cx _ _ hq (λz=>by rw[z,a7]at hq;cases hq);have cX:aS tt=_:=cx _ _ b3 (λz=>by rw[z,a7]at b3;cases b3);have ed:aS a=_:=cx _ _ aF (λz=>by rw[z,a7]at aF;cases aF);have cG:=ST _ _ a4;have b2:bX (Rl aS) xs (sel (i+1) (L.take m)):=Paired.nQ px λ_ _ z=>z.same ST;have fI:=ST _ _ (K2 _ _ cS);have d4:∀c o,aC c=O o->aS c=O o:=λc o e=>ST _ _ (K2 _ _ e);clear ST a4 px K2;refine⟨Tt,_,Y,lR.of eT,Y,_,_,Y,_,_,Y,q,_,Y,lR.of ee,Y,_,_,Y,_,_,Y,Y,Y,?_⟩;refine⟨_,Y,_,Y,a,_,Y,.inr (lR.of ed),Y,?_,_,Y,?_⟩
   .rw[bY];intro v hv;unfold mT at hv;obtain⟨x,_,rfl⟩:=aG.mp hv;rfl
   rw[zG D,Ly zD c3,a3];by_cases ej:en.1=i+1;case neg=>rw[zK ej];refine kv ?_;rw[zG ej]at hg ak;rw[bj]at ak;exact⟨d4,⟨xs,cG,by rw[ak];exact b2⟩,by rw[ak];exact hg,tQ Y⟩
   rw[zJ ej];refine kq ?_;rw[zH ej]at hg ak;have cN:mZ (jW z) en.2:=by rw[a3];exact(hP _ cy).2 zD
   have eb:∀y∈sel (i+1) (L.take m),mZ (jW z) y:=λy hy=>by rw[a3,ej];exact(hP _ (du (WA hy))).2 (Nat.succ_ne_zero _)
   have gw:(sel (i+1) (L.take m)).length<=m:=by unfold sel;rw[lm];refine aj (dJ _ _) ?_;rw[aY];omega
   refine⟨_,Y,_,Y,_,Y,_,Y,_,Y,n,dd,tt,lq,_,z,en.2,xs,_,Y,fI,cX,cG,b2,c3,zD,cN,eb,zD,λM g=>?_⟩;rw[show jW z=i+1 from a3.trans ej];refine⟨_,Y,Y,_,Y,?_⟩;by_cases ea:pI (i+1) (uj (i+1) L) n ((sel (i+1) (L.take m)).map Zl) ((sel (i+1) (L.take m)).map ZH).sum en.2="";case neg=>rw[zK (λq=>ea (by injection q))];refine kq ?_;rw[zG ea]at hg;refine⟨_,Y,_,Y,zl,λt ht=>?_⟩;refine cB _ _ (ew _ _ ?_);refine done M m _ ?_ (λc o e=>g _ _ (cx _ _ (d3 _ _ e) (λz=>by rw[z,np]at e;cases e))) t ht;rw[X,HN hi b6 hg]
   rw[ea,zJ Y];refine kv ?_;rw[zH ea]at hg;have cE:=g _ _ cG;have fq:∀c o,aC c=O o->c≠lq:=λc o e z=>by rw[z,fr]at e;cases e
   refine⟨_,Y,.inl ⟨Y,_,jw.of cE⟩,_,Y,lq,_,_,Y,Y,cE,?_,?_,?_,?_,tQ Y⟩
   .rw[pairs_len b2];exact YA zD
   .intro c o e;rw[Zk (fq _ _ e)];exact g _ _ (d4 _ _ e)
   .refine⟨_,Zc,?_⟩;rw[ak];have kp:∀c ys,M c=O (.tup ys)->upd M lq (.lst (xs++[.ref tt])) c=O (.tup ys):=λc ys e=>by rw[Zk (λz=>by rw[z,cE]at e;cases e)];exact e
    refine YW (Paired.nQ b2 λ_ _⟨p,e,h⟩=>⟨p,e,kp _ _ (g _ _ h)⟩) (.cons ⟨tt,Y,kp _ _ (g _ _ cX)⟩ .nil)
   .rw[ak];exact hg
  .obtain⟨K2,⟨xs,a4,px⟩,hg,o',rfl⟩:=q;rw[cg]at px hg;rw[List.drop_length]at hg;have hg:sj n L (i+1)=B:=hg;refine dt _ _ ?_;clear dt cB;have cN:∀y∈sel (i+1) L,mZ (i+1) y:=λy hy=>(hP _ (WA hy)).2 (Nat.succ_ne_zero _);have eg:xs.length<=1000:=by rw[pairs_len px];unfold sel;rw[lm];exact aj (dJ _ _) dy
   have gp:lq≠lp:=λz=>by rw[z,a5]at fr;cases fr
   refine tq λD3 ez=>?_;have dO:∀(cf:G)(M:Hp),f' d M->M cf=O (.dK (uj (i+1+1) L))->D3.nx [O (.ref l),O (.ref lr),o' 2,O (.ref lt),O (.int n),O (.ref lp),O (.ref cf),O (.ref a),O (.ref lq),o' 9,o' 10,o' 11] M:=λcf M g b8=>by
    refine ez _ _ ?_;have b1:=g _ _ (K2 _ _ a5);refine⟨_,Y,.inl ⟨Y,_,jw.of b1⟩,_,Y,lq,_,Y,.inl ⟨jw.of (g _ _ a4),λl6 et=>?_⟩⟩;have ah:=Zh (o:=.tup xs) (f'.refl M) et;have bb:upd M l6 (.tup xs) l6=O (.tup xs):=Zc;generalize upd M l6 (.tup xs)=ai at ah bb ⊢;have c1:=ah _ _ b1;have kp:∀c o,ai c=O o->c≠lp->upd ai lp (.lst (ps++[.ref l6])) c=O o:=λc o e ne=>by rw[Zk ne];exact e
    have kt:∀c ys,ai c=O (.tup ys)->upd ai lp (.lst (ps++[.ref l6])) c=O (.tup ys):=λc ys e=>kp _ _ e (λz=>by rw[z,c1]at e;cases e);have gs:ps.length=i:=by rw[pairs_len pp,lm,bZ]
    refine⟨lp,_,_,Y,Y,c1,YA zD,?_,⟨_,Zc,?_⟩,?_,cf,(λk=>if k=7 then O (.ref a)else if k=8 then O (.ref lq)else o' k),kp _ _ (ah _ _ b8) (λz=>by rw[<-z,b8]at b1;cases b1),Y⟩
    .exact λc o e ne=>kp _ _ (ah _ _ (g _ _ (K2 _ _ (K1 _ _ e ne)))) ne
    .rw[dR,aA];refine YW (Paired.nQ pp λ_ _ z=>z.keep λc ys e=>kt _ _ (ah _ _ (g _ _ (K2 _ _ e)))) (.cons ⟨l6,xs,Y,kt _ _ bb,Paired.nQ px λ_ _⟨p,e,h⟩=>⟨p,e,kt _ _ (ah _ _ (g _ _ h))⟩⟩ .nil)
    .intro j eA;rcases Nat.lt_succ_iff_lt_or_eq.mp eA with h|rfl
     .exact b6 j h
     .exact hg
   refine⟨_,Y,zl,λt0 aa=>?_⟩;have g:=Zh (o:=.lst []) (f'.refl d) aa;have bx:upd d t0 (.lst []) t0=O (.lst []):=Zc;generalize upd d t0 (.lst [])=M at g bx ⊢;refine⟨lp,t0,ps,Y,Y,jw.of (g _ _ (K2 _ _ a5)),bx,_,Y,?_⟩;by_cases i0:i=0
   .subst i0;cases pp;refine kq ?_;refine⟨_,Y,lq,xs,_,Y,jw.of (g _ _ a4),Od (Paired.nQ px λ_ _ z=>z.same g) cN,eg,λd' b8=>?_⟩;exact dO d' _ (Zh g b8) Zc
   .have es:ps≠[]:=λz=>by have:=pairs_len pp;rw[z,lm,bZ]at this;exact i0 this.symm
    rw[zG D,zK es];refine kv ?_;refine dO dd _ g ?_;have ek:uj (i+1+1) L=uj (i+1) L:=by unfold uj;rw[zG zD,zG zD]
    rw[ek];exact g _ _ (K2 _ _ cS)
 .obtain⟨K1,⟨ps,a5,pp⟩,b6,dd,o,cS,rfl⟩:=q;refine hk _ _ ?_;rw[GG b6]at X;refine⟨_,Y,zl,λtn eo=>?_⟩;have g:=Zh (o:=.tup [.int n]) (f'.refl d) eo;have bx:upd d tn (.tup [.int n]) tn=O (.tup [.int n]):=Zc;dsimp only;generalize upd d tn (.tup [.int n])=M at g bx ⊢;refine⟨_,Y,lp,_,Y,.inl ⟨jw.of (g _ _ a5),λtp el=>?_⟩⟩;have ah:=Zh (o:=.tup ps) (f'.refl M) el;have bb:upd M tp (.tup ps) tp=O (.tup ps):=Zc;generalize upd M tp (.tup ps)=ai at ah bb ⊢;have c0:bX (T7 ai) ps ((bB 4).map λj=>sel (j+1) L):=Paired.nQ pp λ_ _ z=>z.keep λc ys e=>ah _ _ (g _ _ e);rw[show((bB 4).map λj=>sel (j+1) L)=[sel 1 L,sel 2 L,sel 3 L,sel 4 L]from rfl]at c0;have f3:f' H ai:=λc o e=>ah _ _ (g _ _ (K1 _ _ (d3 _ _ e) (λz=>by rw[z,np]at e;cases e)));clear pp;cases c0 with
 |cons r1 r=>
  cases r with
 |cons r2 r=>
  cases r with
 |cons r3 r=>
  cases r with
 |cons r4 r=>
  cases r;refine⟨tn,tp,_,_,Y,Y,lR.of (ah _ _ bx),lR.of bb,λz=>(by cases z),zl,λz=>(by cases z),λ_ ta ep=>?_⟩;obtain⟨l1,x1,rfl,h1,y1⟩:=r1;obtain⟨l2,x2,rfl,h2,y2⟩:=r2;obtain⟨l3,x3,rfl,h3,y3⟩:=r3;obtain⟨l4,x4,rfl,h4,y4⟩:=r4;have cT:=Zh (o:=.tup ([.int n]++[.ref l1,.ref l2,.ref l3,.ref l4])) (f'.refl ai) ep;have d2:upd ai ta (.tup ([.int n]++[.ref l1,.ref l2,.ref l3,.ref l4])) ta=O (.tup ([.int n]++[.ref l1,.ref l2,.ref l3,.ref l4])):=Zc;generalize upd ai ta (.tup ([.int n]++[.ref l1,.ref l2,.ref l3,.ref l4]))=cW at cT d2 ⊢;refine⟨zl,λtr ei=>?_⟩;have cm:=Zh (o:=.tup [.str nu,.ref ta]) (f'.refl cW) ei;have d1:upd cW tr (.tup [.str nu,.ref ta]) tr=O (.tup [.str nu,.ref ta]):=Zc;generalize upd cW tr (.tup [.str nu,.ref ta])=d5 at cm d1 ⊢;refine k d5 tr ((f3.trans cT).trans cm) ?_;rw[X];have bM:=cT.trans cm;have rr:∀(j:Nat)(xs:List V),bX (Rl ai) xs (sel j L)->YK d5 xs ((sel j L).map O):=λj xs y=>Gk (Paired.nQ y λ_ _ z=>z.same bM) λys hy=>hF _ (WA hy);exact⟨ta,d1,l1,l2,l3,l4,x1,x2,x3,x4,cm _ _ d2,bM _ _ h1,bM _ _ h2,bM _ _ h3,bM _ _ h4,rr 1 _ y1,rr 2 _ y2,rr 3 _ y3,rr 4 _ y4⟩
end
noncomputable def sr(b:Bool):Nat:=if b=true then 1 else 0
noncomputable def hN:Bool->List Nat->Nat
|b,[]=>sr b
|b,c::a=>if c=32 then hN true a else if c=10 then sr b+hN false a else hN b a
def Qj(b:Bool):sr b<=1:=by cases b<;>decide
theorem LB(b:Bool)(c:Nat)(a:List Nat):hN b (c::a)=if c=32 then hN true a else if c=10 then sr b+hN false a else hN b a:=rfl
def LA(r:List Nat):∀(w:List Nat)(b:Bool),32∉w->hN b (w++r)=if 10∈w then sr b+hN false r else hN b r:=by
 intro w;induction w with
|nil=>intro b _;rfl
|cons c w f=>
  intro b h;rw[ay,not_or]at h;rw[da,LB,zG (λe=>h.1 e.symm)];by_cases d:c=10
  .rw[zH d,f _ h.2,zH (show 10∈c::w by rw[d];exact ax)];split
   .show sr b+(0+_)=_;omega
   .rfl
  .rw[zG d,f _ h.2];have:(10∈c::w)↔10∈w:=by rw[ay];exact⟨λq=>q.resolve_left (λe=>d e.symm),.inr⟩
   by_cases a:10∈w
   .rw[zH a,zH (this.mpr a)]
   .rw[zG a,zG (λq=>a (this.mp q))]
def Tu(r:List Nat):∀(x:List Nat)(b:Bool),10∉x->hN b (x++r)=hN (b||decide (32∈x)) r:=by
 intro x;induction x with
|nil=>intro b _;simp
|cons c x d=>
  intro b h;rw[ay,not_or]at h;rw[da,LB];by_cases a:c=32
  .rw[zH a,d _ h.2,zJ (show 32∈c::x by rw[a];exact ax),iy,k6]
  .rw[zG a,zG (λe=>h.1 e.symm),d _ h.2];have:(32∈c::x)↔32∈x:=by rw[ay];exact⟨λq=>q.resolve_left (λe=>a e.symm),.inr⟩
   rw[show decide (32∈c::x)=decide (32∈x)from c_.mpr (by rw[decide_eq_true_iff,decide_eq_true_iff];exact this)]
noncomputable def hs(c:Nat)(x:List Nat):Bool:=decide (c∈x)
def DC:∀(P:List (List Nat)),P≠[]->(∀x∈P,10∉x)->hN false (ZA 10 P)=(P.filter (hs 32)).length:=by
 intro P;induction P with
|nil=>intro h;exact zI Y h
|cons x P b=>
  intro _ h;have a:=h x ax;have one:sr (hs 32 x)+(P.filter (hs 32)).length=((x::P).filter (hs 32)).length:=by
   rw[f9];unfold sr;split
   .rw[aB];omega
   .omega
  rw[<-one];cases P with
 |nil=>have:=Tu [] x false a;rw[bj]at this;show hN false x=_;rw[this];rfl
 |cons y P=>
   show hN false (x++10::ZA 10 (y::P))=_;rw[Tu _ _ _ a];conv=>lhs;unfold hN
   rw[zG D,zH Y,b zE λz c=>h z (au _ c)];rfl
noncomputable def qW(W:List (List Nat)):Nat:=(W.filter (hs 10)).length
def HA:∀(W:List (List Nat))(b:Bool),W≠[]->(∀w∈W,32∉w)->hN b (ZA 32 W)<=1+qW W.dropLast:=by
 intro W;induction W with
|nil=>intro b h;exact zI Y h
|cons w W f=>
  intro b _ h;have d:=h w ax;cases W with
 |nil=>
   have:=LA [] w b d;rw[bj]at this;show hN b w<=_;rw[this];have:=Qj b;split
   .show sr b+0<=1+0;omega
   .show sr b<=1+0;omega
 |cons y W=>
   show hN b (w++32::ZA 32 (y::W))<=1+qW (w::(y::W).dropLast);have c:∀b,hN b (32::ZA 32 (y::W))<=1+qW (y::W).dropLast:=λb=>by unfold hN;rw[zH Y];exact f true zE λz g=>h z (au _ g)
   rw[LA _ _ _ d];have e:qW (w::(y::W).dropLast)=sr (hs 10 w)+qW (y::W).dropLast:=by
    unfold qW sr;rw[f9];split
    .rw[aB];omega
    .omega
   rw[e];have:=Qj b;by_cases a:10∈w
   .rw[zH a,show hs 10 w=true from zJ a];have:=c false;show _<=1+(1+_);omega
   .rw[zG a,show hs 10 w=false from zK a];have:=c b;show _<=1+(0+_);omega
noncomputable def kd(j:Nat)(l:U):Bool:=decide ((Ye l).map (·.1)=O j)
noncomputable def vL(j:Nat)(l:U):Nat:=((Txt.split l NL).filter (kd j)).length
noncomputable def dq(l:U):Nat:=qW ((Txt.split l SP).map cd).dropLast
def IF{j:Nat}(h:kd j l=true):32∈cd l:=by
 refine jb λd=>?_;have e:Txt.split l SP=[l]:=by have:=YG (c:=32) (ls:=[l]) zE (λx b=>by rw[aL.mp b];exact d);exact this
 have h:=zL h;unfold Ye at h;rw[e]at h;unfold mP at h;dsimp only at h;cases a:ZN l with
|none=>rw[a]at h;cases h
|some f=>
  rw[a]at h;dsimp only at h;have:1<=f.length:=by unfold ZN at a;repeat (first|(split at a;(cases a;decide))|(cases a))
  rw[zK (by rw[dz];omega),fw,zG D]at h;cases h
def HJ{b a:Type}(f:b->a)(p:a->Bool)(l:List b):((l.map f).filter p).length=(l.filter λx=>p (f x)).length:=by rw[List.filter_map,lm];rfl
def OS{b:Type}{p q:b->Bool}(h:∀x,p x=true->q x=true):∀l:List b,(l.filter p).length<=(l.filter q).length:=by
 intro l;induction l with
|nil=>exact aq _
|cons x l c=>
  rw[f9,f9];by_cases a:p x=true
  .rw[zH a,zH (h x a),aB,aB];omega
  .rw[zG a];split
   .rw[aB];omega
   .exact c
def x6(j:Nat)(l:U):vL j l<=1+dq l:=by have b:vL j l<=((Txt.split l NL).filter λz=>hs 32 (cd z)).length:=OS (λz a=>zJ (IF a)) _;rw[<-HJ cd (hs 32)]at b;rw[<-DC _ (λe=>Xd l NL (dZ.mp e)) (λx c=>by obtain⟨z,a,rfl⟩:=aG.mp c;exact gc l 10 z a)]at b;have f:ZA 10 ((Txt.split l NL).map cd)=cd l:=Xh l 10;have d:ZA 32 ((Txt.split l SP).map cd)=cd l:=Xh l 32;rw[f,<-d]at b;exact aj b (HA _ false (λe=>Xd l SP (dZ.mp e)) λx c=>by obtain⟨z,a,rfl⟩:=aG.mp c;exact gc l 32 z a)
def AX(j:Nat):∀a:List U,(sel j (kl a)).length<=(a.filter (kd j)).length:=by
 intro a;induction a with
|nil=>exact aq _
|cons l a d=>
  unfold kl;rw[f9];cases e:Ye l with
 |none=>exact bK _
 |some c=>
   dsimp only;rw[XZ,aD];by_cases b:c.1=j
   .rw[zH b,zH (show kd j l=true from zJ (by rw[e,<-b];rfl))];simp only[aB,dz];omega
   .rw[zG b];show 0+_<=_;split
    .rw[aB];omega
    .omega
def DG(c:Nat):∀(P:List (List (List Nat))),(∀x∈P,x≠[])->ZA c (P.map (ZA c))=ZA c P.flatten:=by
 intro P;induction P with
|nil=>intro _;rfl
|cons x P i=>
  intro h;have app:∀(a b:List (List Nat)),a≠[]->b≠[]->ZA c (a++b)=ZA c a++c::ZA c b:=by
   intro a;induction a with
  |nil=>intro b h;exact zI Y h
  |cons y a j=>
    intro b _ g;cases a with
   |nil=>
     cases b with
    |nil=>exact zI Y g
    |cons z b=>rfl
   |cons f a=>show y++c::ZA c ((f::a)++b)=(y++c::ZA c (f::a))++c::ZA c b;rw[j b zE g,bu];rfl
  have n:=i λz l=>h z (au _ l);cases P with
 |nil=>rw[aH,cJ,fQ,List.flatten_nil,bj];rfl
 |cons y P=>
   have d:(y::P).flatten≠[]:=λe=>by have:=h y (au _ ax);rw[fQ,List.append_eq_nil_iff]at e;exact this e.1
   rw[fQ,app _ _ (h x ax) d,<-n];rfl
def Nn{a:List U}(g:a≠[]):Txt.split (Txt.join NL a) NL=(a.map λl=>Txt.split l NL).flatten:=by
 have h:(a.map λl=>Txt.split l NL).flatten≠[]:=λe=>by
  cases a with
 |nil=>exact g Y
 |cons l a=>rw[aH,fQ,List.append_eq_nil_iff]at e;exact Xd l NL e.1
 have e:Txt.join NL a=Txt.join NL (a.map λl=>Txt.split l NL).flatten:=by
  refine Xa ?_;have d:∀m:List U,cd (Txt.join NL m)=ZA 10 (m.map cd):=λm=>by show cd (i6 NL m)=_;rw[gA];exact Vq 10 m
  rw[d,d,List.map_flatten,<-DG,cY,cY]
  .congr 1;refine ja λl _=>?_;exact(Xh l 10).symm
  .intro x f;obtain⟨y,c,rfl⟩:=aG.mp f;obtain⟨l,_,rfl⟩:=aG.mp c;exact λe=>Xd l NL (dZ.mp e)
 rw[e];exact YG h λz b=>by obtain⟨y,c,b⟩:=List.mem_flatten.mp b;obtain⟨l,_,rfl⟩:=aG.mp c;exact gc l 10 z b
def HV(j:Nat){a:List U}(b:a≠[]):((Txt.split (Txt.join NL a) NL).filter (kd j)).length=(a.map (vL j)).sum:=by
 rw[Nn b];induction a with
|nil=>exact zI Y b
|cons l a c=>
  rw[aH,fQ,jo,aD,aH,dM];cases a with
 |nil=>rfl
 |cons m a=>rw[c zE];rfl
def MG(a b:List (List Nat)):qW (a++b)=qW a+qW b:=by unfold qW;rw[jo,aD]
def Pn(w:List Nat)(b:List (List Nat)):qW (w::b)=sr (hs 10 w)+qW b:=by
 unfold qW sr;rw[f9];split
 .rw[aB];omega
 .omega
def Oj(a:List (List Nat)):qW a.dropLast<=qW a:=(List.dropLast_sublist a).filter _ |>.length_le
def GI(a:List (List Nat)){b:List (List Nat)}(h:b≠[]):(a++b).dropLast=a++b.dropLast:=List.dropLast_append_of_ne_nil h
def XM(c:Nat)(m:List U):cd (Txt.join ⟨#[c]⟩ m)=ZA c (m.map cd):=by show cd (i6 ⟨#[c]⟩ m)=_;rw[gA];exact Vq c m
noncomputable def tP(W:List (List Nat)):Nat:=(W.map λw=>w.length+1).sum
noncomputable def um(W:List (List Nat)):Nat:=(W.map λw=>w.count 10).sum
def J8(a b:List (List Nat)):tP (a++b)=tP a+tP b:=by unfold tP;rw[aA,iY]
def Vn(a b:List (List Nat)):um (a++b)=um a+um b:=by unfold um;rw[aA,iY]
def J7(w:List Nat)(b:List (List Nat)):tP (w::b)=w.length+1+tP b:=by unfold tP;rw[aH,dM]
def Vm(w:List Nat)(b:List (List Nat)):um (w::b)=w.count 10+um b:=by unfold um;rw[aH,dM]
def P5(c:Nat):∀W:List (List Nat),W≠[]->(ZA c W).length+1=tP W:=by
 intro W;induction W with
|nil=>intro h;exact zI Y h
|cons w W a=>
  intro _;rw[J7];cases W with
 |nil=>show w.length+1=w.length+1+0;omega
 |cons y W=>have:=a zE;show(w++c::ZA c (y::W)).length+1=_;rw[aD,aB];omega
def LG:∀W:List (List Nat),(ZA 32 W).count 10=um W:=by
 intro W;induction W with
|nil=>rfl
|cons w W a=>
  rw[Vm];cases W with
 |nil=>show w.count 10=w.count 10+0;omega
 |cons y W=>show(w++32::ZA 32 (y::W)).count 10=_;rw[gK,List.count_cons_of_ne D,a]
def Tv{c x:Nat}:∀{W:List (List Nat)},x∈ZA c W->x=c\/∃w∈W,x∈w:=by
 intro W;induction W with
|nil=>intro h;cases h
|cons w W a=>
  intro h;cases W with
 |nil=>exact .inr ⟨w,ax,h⟩
 |cons y W=>
   have h:x∈w++c::ZA c (y::W):=h;rcases ba.mp h with h|h
   .exact .inr ⟨w,ax,h⟩
   .rcases ay.mp h with h|h
    .exact .inl h
    .rcases a h with h|⟨v,b,h⟩
     .exact .inl h
     .exact .inr ⟨v,au _ b,h⟩
def PU{c x:Nat}:∀{W:List (List Nat)}{w:List Nat},w∈W->x∈w->x∈ZA c W:=by
 intro W;induction W with
|nil=>intro w h;cases h
|cons v W b=>
  intro w hw a;cases W with
 |nil=>rw[aL.mp hw]at a;exact a
 |cons y W=>
   show x∈v++c::ZA c (y::W);rcases ay.mp hw with rfl|hw
   .exact dv _ a
   .exact bN _ (au _ (b hw a))
def As(z:U):Prop:=∀c∈cd z,c<128
structure q9(l l':U):Prop where
 d1:dq l'<=dq l+1
 d0:10∉cd l->dq l'=0
 len:l'.length<=2*l.length+5
 ct:(cd l').count 10<=2*(cd l).count 10+2
 as:As l->As l'
structure wN(w w':U):Prop where
 sp:32∉cd w'
 ct:(cd w').count 10<=(cd w).count 10
 len:w'.length<=w.length+5
 as:As w->As w'
def JL{ws:List U}(h:∀w∈ws,32∉cd w):dq (Txt.join SP ws)=qW (ws.map cd).dropLast:=by
 cases ws with
|nil=>decide +kernel
|cons w ws=>unfold dq;rw[show Txt.split (Txt.join SP (w::ws)) SP=w::ws from YG zE h]
def Tq(ws:List U):(Txt.join SP ws).length<=tP (ws.map cd):=by
 have e:(Txt.join SP ws).length=(ZA 32 (ws.map cd)).length:=by have:=zM d8 (XM 32 ws);exact this
 rw[e];cases ws with
|nil=>exact bK _
|cons w ws=>have:=P5 32 ((w::ws).map cd) zE;omega
def Dz{ws:List U}(h:ws≠[]):(Txt.join SP ws).length+1=tP (ws.map cd):=by
 have e:(Txt.join SP ws).length=(ZA 32 (ws.map cd)).length:=by have:=zM d8 (XM 32 ws);exact this
 rw[e,P5 32 _ (λq=>h (dZ.mp q))]
def RD(ws:List U):(cd (Txt.join SP ws)).count 10=um (ws.map cd):=by rw[show cd (Txt.join SP ws)=ZA 32 (ws.map cd)from XM 32 ws,LG]
def NV{ws:List U}(h:∀w∈ws,As w):As (Txt.join SP ws):=λc a=>by
 rw[show cd (Txt.join SP ws)=ZA 32 (ws.map cd)from XM 32 ws]at a;rcases Tv a with rfl|⟨w,d,a⟩
 .decide
 .obtain⟨z,b,rfl⟩:=aG.mp d;exact h z b c a
section
variable {l:U}{a b:List U}{w:U}(e:Txt.split l SP=a++w::b)
include e
def R5:cd l=ZA 32 ((a++w::b).map cd):=by rw[<-e];exact(Xh l 32).symm
def Wc:l.length+1=tP ((a++w::b).map cd):=by rw[<-P5 32 _ zE,<-R5 e];rfl
def En:(cd l).count 10=um ((a++w::b).map cd):=by rw[<-LG,<-R5 e]
def RZ:∀x∈a++w::b,32∉cd x:=λx c=>gc l 32 x (by rw[show Txt.split l ⟨#[32]⟩=a++w::b from e];exact c)
def R6(h:As l):∀x∈a++w::b,As x:=λx d c f=>h c (by rw[R5 e];exact PU (aG.mpr ⟨x,d,Y⟩) f)
def Qt(h:10∉cd l):∀x∈a++w::b,10∉cd x:=λx c d=>h (by rw[R5 e];exact PU (aG.mpr ⟨x,c,Y⟩) d)
def Ky:dq l=qW (a.map cd)+qW (cd w::b.map cd).dropLast:=by unfold dq;rw[e,aA,aH,GI _ zE,MG]
end
def Rr{W:List (List Nat)}(h:∀w∈W,10∉w):qW W=0:=by unfold qW;rw[List.length_eq_zero_iff,jP];intro w a q;exact h w a (zL q)
def NY{ws:List U}(h:∀x∈ws,10∉cd x):qW (ws.map cd).dropLast=0:=Rr λw b=>by obtain⟨z,a,rfl⟩:=aG.mp (List.dropLast_subset _ b);exact h z a
def Ol(a:List (List Nat))(w:List Nat)(b:List (List Nat)):qW (a++b).dropLast<=qW a+qW (w::b).dropLast:=by
 cases b with
|nil=>rw[bj];exact aj (Oj a) (gU _ _)
|cons y b=>rw[GI _ zE,MG,jG,Pn];omega
def Bt {a b:List U}{w:U}(e:Txt.split l SP=a++w::b):q9 l (Txt.join SP (a++b)):=by
 have hs:=RZ e;have sub:∀x∈a++b,x∈a++w::b:=λx c=>by
  rcases ba.mp c with h|h
  .exact dv _ h
  .exact bN _ (au _ h)
 have d:=Wc e;have f:=En e;rw[aA,aH,J8,J7]at d;rw[aA,aH,Vn,Vm]at f;refine⟨?_,λh=>?_,?_,?_,λh=>NV λx c=>R6 e h x (sub x c)⟩
 .rw[JL λx c=>hs x (sub x c),Ky e,aA];exact Nat.le_succ_of_le (Ol _ _ _)
 .rw[JL λx c=>hs x (sub x c)];exact NY λx c=>Qt e h x (sub x c)
 .have:=Tq (a++b);rw[aA,J8]at this;omega
 .rw[RD,aA,Vn];omega
def Bl {a b:List U}{w:U}(e:Txt.split l SP=a++w::b):q9 l (Txt.join SP (a++[w]++w::b)):=by
 have hs:=RZ e;have sub:∀x∈a++[w]++w::b,x∈a++w::b:=λx c=>by
  simp only[ba,ay,a8,or_false]at c ⊢;rcases c with(h|h)|h
  .exact .inl h
  .exact .inr (.inl h)
  .exact .inr h
 have d:=Wc e;have f:=En e;rw[aA,aH,J8,J7]at d;rw[aA,aH,Vn,Vm]at f;refine⟨?_,λh=>?_,?_,?_,λh=>NV λx c=>R6 e h x (sub x c)⟩
 .rw[JL λx c=>hs x (sub x c),Ky e,aA,aA,aH,aH,cJ,GI _ zE,MG,MG,Pn];have:=Qj (TX.hs 10 (cd w));show qW _+(sr _+0)+_<=_;omega
 .rw[JL λx c=>hs x (sub x c)];exact NY λx c=>Qt e h x (sub x c)
 .have:=Tq (a++[w]++w::b);rw[aA,aA,J8,J8,aH,aH,J7,J7,cJ,show tP []=0 from rfl]at this;omega
 .rw[RD,aA,aA,Vn,Vn,aH,aH,Vm,Vm,cJ,show um []=0 from rfl];omega
def MR(c:Nat)(y:List Nat):∀W:List (List Nat),W≠[]->ZA c (W++[y])=ZA c W++c::y:=by
 intro W;induction W with
|nil=>intro h;exact zI Y h
|cons w W a=>
  intro _;cases W with
 |nil=>rfl
 |cons z W=>show w++c::ZA c ((z::W)++[y])=(w++c::ZA c (z::W))++c::y;rw[a zE,bu];rfl
def DF(c:Nat)(w x:List Nat):∀W:List (List Nat),ZA c (W++[w++x])=ZA c (W++[w])++x:=by
 intro W;cases W with
|nil=>rfl
|cons v W=>rw[MR c _ _ zE,MR c _ _ zE,bu];rfl
def Bu{l x:U}(j:x∈([" ","\n"," 1","\n\n"]:List U)):q9 l (l++x):=by
 obtain⟨a,w,e⟩:∃a w,Txt.split l SP=a++[w]:=⟨_,_,(i7 (Xd l SP)).symm⟩;have hs:=RZ e;have q:∀x∈([" ","\n"," 1","\n\n"]:List U),x.length<=2/\(∀c∈cd x,c<128)/\(cd x).count 10<=2:=by decide +kernel
 obtain⟨E,t,C⟩:=q x j;have s:dq l=qW (a.map cd)+0:=Ky e;have i:=R5 e;have g:dq (l++x)<=dq l+1/\(10∉cd l->dq (l++x)=0):=by
  have sp:∀y:U,32∉cd y->cd x=32::cd y->dq (l++x)<=dq l+1/\(10∉cd l->dq (l++x)=0):=λy u A=>by
   have p:l++x=Txt.join SP ((a++[w])++[y]):=Xa (by
    rw[ZL,A,i,XM,aA (l₂:=[y]),aH,cJ,MR _ _ _ zE]);have o:∀z∈(a++[w])++[y],32∉cd z:=λz b=>by
    rcases ba.mp b with h|h
    .exact hs z h
    .rw[aL.mp h];exact u
   have d:dq (l++x)=qW ((a++[w]).map cd):=by rw[p,JL o,aA,aH,cJ,List.dropLast_concat]
   refine⟨?_,λh=>?_⟩
   .rw[d,aA,MG,s];have:=Qj (TX.hs 10 (cd w));show _+qW (cd w::[])<=_;rw[Pn];show _+(_+0)<=_;omega
   .rw[d];exact Rr λz b=>by obtain⟨v,n,rfl⟩:=aG.mp b;exact Qt e h v n
  have f:32∉cd x->dq (l++x)<=dq l+1/\(10∉cd l->dq (l++x)=0):=λr=>by
   have p:l++x=Txt.join SP (a++[w++x]):=Xa (by
    rw[ZL,i,XM,aA,aA,aH,cJ,aH,cJ,ZL,DF]);have o:∀z∈a++[w++x],32∉cd z:=λz b=>by
    rcases ba.mp b with h|h
    .exact hs z (dv _ h)
    .rw[aL.mp h,ZL,ba,not_or];exact⟨hs w zE,r⟩
   have d:dq (l++x)=qW (a.map cd):=by rw[p,JL o,aA,aH,cJ,List.dropLast_concat]
   refine⟨by rw[d,s];omega,λh=>?_⟩;rw[d];exact Rr λz b=>by obtain⟨v,n,rfl⟩:=aG.mp b;exact Qt e h v (dv _ n)
  simp only[ay,a8,or_false]at j;rcases j with rfl|rfl|rfl|rfl
  .exact sp "" zC zC
  .exact f zC
  .exact sp "1" zC zC
  .exact f zC
 refine⟨g.1,g.2,?_,?_,λh c hc=>?_⟩
 .have:(l++x).length=l.length+x.length:=by have:=zM d8 (ZL l x);rw[aD]at this;exact this
  omega
 .rw[ZL,gK];omega
 .rw[ZL]at hc;rcases ba.mp hc with hc|hc
  .exact h c hc
  .exact t c hc
def Bo {a b:List U}{w c:U}(e:Txt.split l SP=a++w::b)(g:wN w c):q9 l (Txt.join SP (a++[c]++b)):=by
 have hs:=RZ e;have f:∀x∈a++[c]++b,x∈a++w::b\/x=c:=λx d=>by
  simp only[ba,ay,a8,or_false]at d ⊢;rcases d with(h|h)|h
  .exact .inl (.inl h)
  .exact .inr h
  .exact .inl (.inr (.inr h))
 have i:∀x∈a++[c]++b,32∉cd x:=λx d=>by
  rcases f x d with h|rfl
  .exact hs x h
  .exact g.sp
 have n:10∉cd w->10∉cd c:=λh q=>by have:=g.ct;rw[cZ.mpr h]at this;exact zI (cZ.mp (Nat.le_zero.mp this)) (λz=>z q)
 have o:=Wc e;have p:=En e;rw[aA,aH,J8,J7]at o;rw[aA,aH,Vn,Vm]at p;have t:(cd c).length<=(cd w).length+5:=g.len;have u:=g.ct;refine⟨?_,λh=>?_,?_,?_,λh=>NV λx d=>?_⟩
 .rw[JL i,Ky e,bu,aA,GI _ zE,MG];show _+qW (cd c::b.map cd).dropLast<=_;have A:sr (TX.hs 10 (cd c))<=sr (TX.hs 10 (cd w)):=by
   by_cases h:10∈cd w
   .rw[show TX.hs 10 (cd w)=true from zJ h];exact Qj _
   .rw[show TX.hs 10 (cd c)=false from zK (n h)];exact bK _
  cases C:b.map cd with
 |nil=>exact iV _
 |cons y r=>rw[jG,jG,Pn,Pn];omega
 .rw[JL i];refine NY λx d=>?_;rcases f x d with j|rfl
  .exact Qt e h x j
  .exact n (Qt e h w zE)
 .have:=Dz (ws:=a++[c]++b) zE;rw[bu,aA,J8]at this;have s:tP (([c]++b).map cd)=(cd c).length+1+tP (b.map cd):=J7 _ _;rw[bu];omega
 .rw[RD,bu,aA,Vn];have s:um (([c]++b).map cd)=(cd c).count 10+um (b.map cd):=Vm _ _;omega
 .rcases f x d with j|rfl
  .exact R6 e h x j
  .exact g.as (R6 e h w zE)
noncomputable def xq:Nat->Nat
|0=>91
|k+1=>2*xq k+5
noncomputable def yx:Nat->Nat
|0=>0
|k+1=>2*yx k+2
noncomputable def uw:Nat->Nat
|0=>0
|k+1=>uw k+(k+1)
structure sF(k:Nat)(l:U):Prop where
 as:As l
 len:l.length<=xq k
 ct:(cd l).count 10<=yx k
 d:dq l<=k-1
def OX (h:10∉cd l):dq l=0:=by unfold dq;refine NY λx a b=>h ?_;rw[<-Xh l 32];exact PU (aG.mpr ⟨x,a,Y⟩) b
def sF.succ{k:Nat}(h:sF k l):sF (k+1) l:=by
 refine⟨h.as,aj h.len ?_,aj h.ct ?_,aj h.d ?_⟩
 .show _<=2*xq k+5;omega
 .show _<=2*yx k+2;omega
 .omega
def sF.yc{k:Nat}(h:sF k l)(s:q9 l a):sF (k+1) a:=by
 refine⟨s.as h.as,aj s.len ?_,aj s.ct ?_,?_⟩
 .show _<=2*xq k+5;have:=h.len;omega
 .show _<=2*yx k+2;have:=h.ct;omega
 .cases k with
 |zero=>rw[s.d0 (cZ.mp (Nat.le_zero.mp h.ct))];exact bK _
 |succ k=>have:=h.d;have:=s.d1;omega
def sF.v{k:Nat}(h:sF k l)(j:Nat):vL j l<=1+(k-1):=aj (x6 j l) (h_ h.d 1)
def sF.new{k:Nat}(c:As l)(b:l.length<=91)(a:10∉cd l):sF k l:=by
 refine⟨c,aj b ?_,?_,by rw[OX a];exact bK _⟩
 .induction k with
 |zero=>exact aq _
 |succ k d=>show _<=2*xq k+5;omega
 .rw[cZ.mpr a];exact bK _
noncomputable def yB(j:Nat):Nat:=if j=1 then 6 else 12
structure Ln(k:Nat)(ls:List U):Prop where
 e:∀l∈ls,sF k l
 s:∀j,isJ j->(ls.map (vL j)).sum<=yB j+uw k
 n:ls.length<=50+k
def U6(f:U->Nat)(a b:List U):((a++b).map f).sum=(a.map f).sum+(b.map f).sum:=by rw[aA,iY]
def EA(f:U->Nat)(a:List U)(i:Nat):((a.take i).map f).sum+((a.drop i).map f).sum=(a.map f).sum:=by rw[<-U6,fC]
def KN(f:U->Nat){a b:List U}(h:a.Sublist b):(a.map f).sum<=(b.map f).sum:=by
 induction h with
|slnil=>exact aq _
|cons x _ c=>rw[aH,dM];omega
|cons_cons x _ c=>rw[aH,aH,dM,dM];omega
def Ln.turn{k:Nat}(h:Ln k a)(i:Nat):Ln k (a.drop i++a.take i):=by
 refine⟨λl hl=>?_,λj b=>?_,?_⟩
 .rcases ba.mp hl with hl|hl
  .exact h.e l (eR hl)
  .exact h.e l (du hl)
 .have:=EA (vL j) a i;have:=h.s j b;rw[U6];omega
 .have:=h.n;rw[aD,cL,aY];omega
theorem Ln.succ{k:Nat}(h:Ln k a):Ln (k+1) a:=by refine⟨λl b=>(h.e l b).succ,λj c=>aj (h.s j c) ?_,aj h.n zD⟩;show _<=_+(uw k+(k+1));omega
def Ln.cut{k:Nat}(h:Ln k a)(i:Nat):Ln (k+1) (a.take i++a.drop (i+1)):=by
 have hs:(a.take i++a.drop (i+1)).Sublist a:=by
  have d:(a.drop (i+1)).Sublist (a.drop i):=by rw[<-List.drop_drop];exact List.drop_sublist _ _
  have:=List.Sublist.append (List.Sublist.refl (a.take i)) d;rwa [fC]at this
 have h:=h.succ;exact⟨λl b=>h.e l (hs.subset b),λj c=>aj (KN _ hs) (h.s j c),aj hs.length_le h.n⟩
def Ln.put{k:Nat}(h:Ln k a)(d:sF (k+1) x)(i m:Nat)(g:i<=m):Ln (k+1) (a.take i++[x]++a.drop m):=by
 have hs:(a.take i++a.drop m).Sublist a:=by
  have b:(a.drop m).Sublist (a.drop i):=by rw[show m=i+(m-i) by omega,<-List.drop_drop];exact List.drop_sublist _ _
  have:=List.Sublist.append (List.Sublist.refl (a.take i)) b;rwa [fC]at this
 refine⟨λl hl=>?_,λj f=>?_,?_⟩
 .simp only[ba,aL]at hl;rcases hl with(hl|rfl)|hl
  .exact(h.e l (du hl)).succ
  .exact d
  .exact(h.e l (eR hl)).succ
 .have c:=KN (vL j) hs;have b:=h.s j f;have o:vL j x<=1+(k+1-1):=d.v j;rw[U6]at c;rw[U6,U6];show _+(vL j x+0)+_<=_+(uw k+(k+1));omega
 .have c:=hs.length_le;have b:=h.n;rw[aD]at c;rw[aD,aD];show _+1+_<=_;omega
def C2:∀k,k<=3->xq k<=763/\yx k<=14/\uw k<=6:=by decide
def sF.small{k:Nat}(hk:k<=3)(h:sF k l):l.length<=763:=aj h.len (C2 k hk).1
def EC(l:U):(Txt.split l NL).length=(cd l).count 10+1:=by
 have e:ZA 10 ((Txt.split l NL).map cd)=cd l:=Xh l 10;have d:∀x∈(Txt.split l NL).map cd,10∉x:=λx c=>by obtain⟨z,a,rfl⟩:=aG.mp c;exact gc l 10 z a
 have gen:∀W:List (List Nat),W≠[]->(∀x∈W,10∉x)->(ZA 10 W).count 10+1=W.length:=by
  intro W;induction W with
 |nil=>intro h;exact zI Y h
 |cons w W b=>
   intro _ h;have f:=cZ.mpr (h w ax);cases W with
  |nil=>show w.count 10+1=1;omega
  |cons y W=>have:=b zE λz a=>h z (au _ a);show(w++10::ZA 10 (y::W)).count 10+1=_;rw[gK,List.count_cons_self,aB];omega
 have:=gen _ (λq=>Xd l NL (dZ.mp q)) d;rw[e,lm]at this;exact this.symm
structure uJ(z:U):Prop where
 len:z.length<=200000
 ln:∀l∈Txt.split z NL,l.length<=1000
 n:(Txt.split z NL).length<=1000
 cnt:∀j,isJ j->(sel j (kl (Txt.split z NL))).length<=l_ j
def PY{a:List U}{m n:Nat}(h:∀l∈a,l.length<=m)(c:a.length<=n):(Txt.join NL a).length<=n*(m+1):=by
 have i:=GA 10 a;have f:(a.map (·.length)).sum<=(a.map (·.length)).length*m:=Jn λx b=>by obtain⟨l,d,rfl⟩:=aG.mp b;exact h l d
 rw[lm]at f;have g:a.length*m+a.length<=n*(m+1):=by rw[<-Nat.mul_succ];exact Nat.mul_le_mul_right _ c
 show(Txt.join ⟨#[10]⟩ a).length<=_;omega
def Ln.text{k:Nat}(hk:k<=3)(h:Ln k b):uJ (Txt.join NL b):=by
 have w:=h.n;by_cases g:b=[]
 .subst g;have e:Txt.split (Txt.join NL []) NL=([""]:List U):=by decide +kernel
  refine⟨zC,?_,?_,?_⟩
  .rw[e];decide +kernel
  .rw[e];decide
  .rw[e];intro j d;have:kl ([""]:List U)=[]:=by
    unfold kl;have:Ye ""=B:=by
     cases u:Ye "" with
    |none=>rfl
    |some e=>have f:kd e.1 ""=true:=zJ (by rw[u];rfl);exact zI (IF f) zC
    rw[this]
   rw[this];exact bK _
 have o:=Nn g;refine⟨?_,λl a=>?_,?_,λj d=>?_⟩
 .exact aj (PY (m:=763) (n:=53) (λl a=>(h.e l a).small hk) zD) D
 .rw[o]at a;obtain⟨p,t,a⟩:=List.mem_flatten.mp a;obtain⟨z,q,rfl⟩:=aG.mp t;have:=(YN (c:=10) ((h.e z q).small hk)).1 l a;omega
 .rw[o,List.length_flatten,cY];have i:(b.map (d8 ∘ λl=>Txt.split l NL)).sum<=(b.map (d8 ∘ λl=>Txt.split l NL)).length*15:=Jn λx r=>by obtain⟨l,a,rfl⟩:=aG.mp r;show(Txt.split l NL).length<=15;rw[EC];have A:=(h.e l a).ct;have y:=(C2 k hk).2.1;omega
  rw[lm]at i;omega
 .refine aj (AX j _) ?_;rw[HV j g];have f:=h.s j d;have i:=(C2 k hk).2.2;refine aj f ?_;rcases d with rfl|rfl|rfl|rfl
  .show 6+uw k<=14;omega
  .show 12+uw k<=80;omega
  .show 12+uw k<=40;omega
  .show 12+uw k<=300;omega
def uJ.rd (h:uJ z):q_ (Txt.split z NL) (pH (Txt.split z NL)):=BF h.ln h.cnt
def Zal:∀c,c<128->∃d,c7 c=[d]/\d<128/\(d=32->c=32)/\(d=10->c=10):=by
 have:∀c∈bB 128,(c7 c).length=1/\(c7 c).headD 0<128/\((c7 c).headD 0=32->c=32)/\((c7 c).headD 0=10->c=10):=by decide +kernel
 intro c g;obtain⟨h,f,b,a⟩:=this c (bW.mpr g);obtain⟨d,e⟩:=rz h;rw[e]at f b a;exact⟨d,e,f,b,a⟩
def N9(z:U):cd (Txt.upper z)=(cd z).flatMap c7:=by
 show(Array.flatten (z.cps.mapIdx λ_ c=>(c7 c).toArray)).toList=_;rw[Array.toList_flatten];have:(List.map Array.toList (z.cps.mapIdx λ_ c=>(c7 c).toArray).toList)=z.cps.toList.map c7:=by rw[Array.toList_mapIdx];generalize z.cps.toList=l;refine List.ext_getElem zE λi b a=>?_;simp
 rw[this];rfl
def LJ:∀l:List Nat,(∀c∈l,c<128)->(l.flatMap c7).length=l.length/\(∀c∈l.flatMap c7,c<128)/\(32∉l->32∉l.flatMap c7)/\(l.flatMap c7).count 10<=l.count 10:=by
 intro l;induction l with
|nil=>intro _;exact⟨Y,λc n=>(by cases n),λh=>h,aq _⟩
|cons c l f=>
  intro h;obtain⟨d,e,r,p,o⟩:=Zal c (h c ax);obtain⟨j,i,g,s⟩:=f λx hx=>h x (au _ hx);rw[List.flatMap_cons,e];refine⟨?_,λx hx=>?_,λa=>?_,?_⟩
  .simp only[aD,j,aB,dz];omega
  .rcases ba.mp hx with hx|hx
   .rw[aL.mp hx];exact r
   .exact i x hx
  .rw[ay,not_or]at a;rw[ba,not_or,aL];exact⟨λq=>a.1 (p q.symm).symm,g a.2⟩
  .rw[gK];by_cases b:d=10
   .rw[b,o b,List.count_cons_self (l:=l),show List.count 10 [10]=1 from rfl];omega
   .rw[cZ.mpr (λq=>b (aL.mp q).symm)];have:l.count 10<=(c::l).count 10:=(List.sublist_cons_self c l).count_le 10;omega
def IX (h:As w):(Txt.upper w).length=w.length:=by have:=(LJ _ h).1;rw[<-N9]at this;exact this
def IS (h:As w)(b:32∉cd w):wN w (Txt.upper w):=by obtain⟨a,f,d,c⟩:=LJ _ h;rw[<-N9]at a f d c;have a:(Txt.upper w).length=w.length:=a;exact⟨d b,c,zD,λ_=>f⟩
def AH (b:32∉cd w)(h:(cd a).Sublist (cd w)):wN w a:=by have:(cd a).length<=(cd w).length:=h.length_le;have g:a.length<=w.length:=this;exact⟨λq=>b (h.subset q),h.count_le 10,zD,λf c d=>f c (h.subset d)⟩
def Kz (g:32∉cd w)(f:32∉cd a/\10∉cd a/\As a)(d:32∉cd b/\10∉cd b/\As b)(i:a.length+b.length<=5):wN w (a++w++b):=by
 have e:cd (a++w++b)=cd a++cd w++cd b:=by rw[ZL,ZL]
 refine⟨?_,?_,?_,λh c hc=>?_⟩
 .rw[e];simp only[ba,not_or];exact⟨⟨f.1,g⟩,d.1⟩
 .rw[e,gK,gK,cZ.mpr f.2.1,cZ.mpr d.2.1];omega
 .have:=zM d8 e;rw[aD,aD]at this;have this:(a++w++b).length=a.length+w.length+b.length:=this;omega
 .rw[e]at hc;simp only[ba]at hc;rcases hc with(hc|hc)|hc
  .exact f.2.2 c hc
  .exact h c hc
  .exact d.2.2 c hc
def wj(x:U):Prop:=32∉cd x/\10∉cd x/\(∀c∈cd x,c<128)/\x.length<=5
noncomputable instance (x:U):Decidable (wj x):=by unfold wj;infer_instance
def Jg (h:wj x):wN w x:=by obtain⟨c,b,a,d⟩:=h;exact⟨c,by rw[cZ.mpr b];exact bK _,zD,λ_=>a⟩
end TX
namespace L2
open PySem PySem.Spec PyProof.Rows
def FK :yG X "str.upper" (λx b H Q=>∃z,x=.str z/\b=[]/\(Txt.upper z).length<=1000/\Q (.str (Txt.upper z)) H):=by intro a s g H x i v j Q I c d h;obtain⟨z,rfl,rfl,f,q⟩:=h;obtain⟨t,rfl⟩:=c;cases d;exact SC.upper (zK (Nat.not_lt.mpr (eQ (YA f)))) ⟨.str (Txt.upper z),H,I.tok _,⟨s.toks,Y⟩,q⟩
end L2
namespace TX
open PySem L2 PySem.Spec PyProof.Rows TB WD
def Hu(n:Nat):dN B (O (-1)) 1 n=(bB (n-1)).map λi=>0+i:=by
 unfold dN sliceRange;simp only[show(1:Int)>0 by decide,if_true,show(-1:Int)<0 by decide];have e:(if(0:Int)<max 0 (min (-1+(n:Int)) n)then(max 0 (min (-1+(n:Int)) n)-0+1-1) / 1 else 0).toNat=n-1:=by rw[lb];split<;>omega
 rw[e];apply ja;intro k _;omega
def Kb(x:U):codes (Txt.slice x B (O (-1)))=(codes x).take (x.length-1):=by
 unfold Txt.slice;rw[Hu];split
 .rename_i a;have:x.length-1=x.length:=by simpa using a
  rw[this,bp (by rw[ZF];exact aq _)]
 .show(List.filterMap _ _)=_;rw[Pt,Vc _ 0 _ (by rw[ZF];omega),jm]
noncomputable def yz:List U:=["home","51","301","300","50","x","a.b","ride","place","1","2","3"]
noncomputable def vP:List V:=yz.map V.str
def KU:Sp:=λd H Q _=>∃(b:G)(z:U),d=[.ref b,.str z]/\ZJ H b/\As z/\32∉cd z/\z.length<=763/\∀a c,ZJ a b->Zr b H a->wN z c->Q (.str c) a
section
variable {P:a9}{w:bg}{K:af}{J:U->Option Z}{S:bC}
def VG:ia [ky,pd,"_law_some"] [ky,pd] (Ze T.pq):=nc
def Eb(zw:∀x∈mE,J x=B)(CT:l8 P w K J S 1 rl [ky,pP] Z7)(zB:Df K J "_law_word" T.pq [ky,pd]):l8 P w K J S 2 "_law_word" [ky,pd] KU:=by
 refine zB.cn VG λf ai A ah s H vs Q E hr h=>?_;obtain⟨b,z,rfl,hb,ha,d,I,k⟩:=h;refine' ⟨_,(Zb ?h3 (Zb ?h4 (Zi (Zn (il K (R 2) (cn CT hr (o7 (R 0) Zd))))))),?rd⟩;case' h4=>refine' (st 2 VG.nd (Zv Yq (R 2) (Zw (@Lp _ _ zC))))
 case' h3=>refine' (st 2 VG.nd ?L)
 case' L=>refine' (Zw (Za (Zv ZS (R 1) Zf) (Za (ZG Rk (R 1) ZQ (ZP (Fn Wg Zd))) (Za Zf (Za Zf (Za (Zv ZS Zf (R 1)) (Za Zf (Za Zf (Za Zf (Za Zf (qX Zf (BS bP PySem.F.slot_str_upper PySem.F.type_str_upper FK (R 1)) Zf)))))))))))
 case' rd=>
 refine⟨_,Y,z,"a",Y,Y,aj (iW I _) zC,_,Y,1,Y,_,Y,z,Y,aj I D,?_⟩;have lu:(Txt.upper z).length<=1000:=by rw[IX ha];omega
 refine⟨_,Y,"00",z,Y,Y,aj (h_ I _) zC,?_⟩;refine⟨_,Y,Y,z,Y,Y,lu,?_⟩;dsimp only;refine⟨zl,λl X=>?_⟩;generalize hX:([V.str (z++"a"),.str (Txt.slice z B (O (-1))),.str "",.str "0",.str ("00"++z),.str "1001",.str "9999",.str "10000",.str "-1",.str "A",.str (Txt.upper z),.str "turns"]:List V)=a;have lX:a.length=12:=by rw[<-hX];rfl
 have M:=Zh (o:=.lst a) (f'.refl H) X;have e1:upd H l (.lst a) l=O (.lst a):=Zc;generalize upd H l (.lst a)=N at M e1 ⊢;refine⟨_,Y,zl,λj W=>?_⟩;have u:=Zh (o:=.lst vP) (f'.refl N) W;have e2:upd N j (.lst vP) j=O (.lst vP):=Zc;generalize hG:upd N j (.lst vP)=n at u e2;refine Eq.mpr (zM (λh=>(λy n=>uf (V.ref l) y n _) (V.ref j) h) hG) ?_;have aa:=u _ _ e1;refine⟨l,j,a,vP,Y,Y,aa,e2,by rw[lX];exact zl,λi g=>?_⟩;have S3:=Zh (o:=.lst (a++vP)) (f'.refl n) g;have e3:upd n i (.lst (a++vP)) i=O (.lst (a++vP)):=Zc;generalize upd n i (.lst (a++vP))=H3 at S3 e3 ⊢;have p:=(M.trans u).trans S3;have B3:=hb.same p;have n3:i≠b:=λq=>by have:=u _ _ (M _ _ hb.choose_spec.choose_spec.choose_spec);rw[q,this]at g;cases g
 refine⟨_,Y,qB B3 (λr H4 h0 L B4 S4=>?_)⟩;obtain⟨v,hv,hm⟩:=JJ (xs:=a++vP) h0 (by rw[aD,lX];exact L);refine⟨i,_,r,v,Y,Y,jw.of (S4 _ _ e3 n3),hv,?_⟩;have C:∃t,v=.str t/\wN z t:=by
  rcases ba.mp hm with hm|hm
  .rw[<-hX]at hm;simp only[ay,a8,or_false]at hm;have c0:32∉cd ("":U)/\10∉cd ("":U)/\As "":=by unfold As;decide +kernel
   have ca:32∉cd ("a":U)/\10∉cd ("a":U)/\As "a":=by unfold As;decide +kernel
   have ab:32∉cd ("00":U)/\10∉cd ("00":U)/\As "00":=by unfold As;decide +kernel
   rcases hm with rfl|rfl|rfl|rfl|rfl|rfl|rfl|rfl|rfl|rfl|rfl|rfl
   .refine⟨_,Y,?_⟩;have:=Kz d c0 ca zC;rwa [show(("":U)++z)=z from Xa (by rw[ZL];rfl)]at this
   .exact⟨_,Y,AH d (by have:=Kb z;show(codes (Txt.slice z B (O (-1)))).Sublist (codes z);rw[this];exact List.take_sublist _ _)⟩
   .exact⟨_,Y,Jg zC⟩
   .exact⟨_,Y,Jg zC⟩
   .refine⟨_,Y,?_⟩;have:=Kz d ab c0 zC;rwa [show(("00":U)++z++"")="00"++z from Xa (by rw[ZL];exact bj _)]at this
   .exact⟨_,Y,Jg zC⟩
   .exact⟨_,Y,Jg zC⟩
   .exact⟨_,Y,Jg zC⟩
   .exact⟨_,Y,Jg zC⟩
   .exact⟨_,Y,Jg zC⟩
   .exact⟨_,Y,IS ha d⟩
   .exact⟨_,Y,Jg zC⟩
  .have all:∀v∈yz,wj v:=by decide +kernel
   obtain⟨x,hx,rfl⟩:=aG.mp hm;exact⟨x,Y,Jg (all x hx)⟩
 obtain⟨t,rfl,C⟩:=C;exact k H4 t B4 (Zr.trans (λc o e _=>p _ _ e) S4) C
end
end TX
namespace L2
open PySem PySem.Spec PyProof.Rows
def Uk{X:Cx}{o e:bV}{d:TE}{t:TA}{b a:iG}(g:PE X o d)(i:PA X [e] t)(h:fD o (bh "join") X.env (cM o X.env)=cM o X.env/\((eh a (bf [e] X.env)).all (λx=>!x.1)&&(iL a (fY [] X.env)).all (λx=>x.1.isSome)&&decide (([e]:List bV).length+([]:List jM).length+(if([]:List jM).isEmpty then 0 else 1)<30))=true/\(b.endLine==a.line)=true/\bf [e] X.env=(false,cM e X.env)::bf [] X.env/\(eh a (bf [] X.env)).any (·.1)=false):PE X (.Call (.Attribute o (bh "join") b) [e] [] a) (yM X.K "str" (λx f H Q=>∃(z:U)(p:G)(c:List U),x=.str z/\f=[.ref p]/\jw X.K H p (c.map V.str)/\(c.map (·.length)).sum+c.length*z.length<=16777216/\Q (.str (Txt.join z c)) H) d t):=YR bP gC gB Gy g i h.1 h.2.1 h.2.2.1 h.2.2.2.1 h.2.2.2.2
end L2
namespace TX
open PySem L2 PySem.Spec PyProof.Rows TB WD
def Zad(a:List V){i:Int}(b:0<=i):m_ a B (O i)=a.take i.toNat:=by
 obtain⟨n,rfl⟩:=e_ b;show(a.drop 0).take (HT.mF a.length a.length (O (n:Int))-0)=_;rw[HT.tR,jm,Nat.sub_zero,cw];by_cases h:n<=a.length
 .rw[i_ h]
 .rw[jK zD,bp (aq _),bp zD]
def HS(a:List V){i:Int}(b:0<=i):m_ a (O i) B=a.drop i.toNat:=by
 obtain⟨n,rfl⟩:=e_ b;show(a.drop (HT.mF a.length 0 (O (n:Int)))).take (a.length-HT.mF a.length 0 (O (n:Int)))=_;rw[HT.tR,cw];by_cases h:n<=a.length
 .rw[i_ h,bp (by rw[cL];exact aq _)]
 .rw[jK zD,List.drop_of_length_le (aq _),List.drop_of_length_le zD,List.take_nil]
def XW(a:List U){i:Int}{n:Nat}(h:i=n):m_ (a.map V.str) B (O i)=(a.take n).map V.str:=by subst h;rw[Zad _ zD,List.map_take];rfl
def YY(a:List U){i:Int}{n:Nat}(h:i=n):m_ (a.map V.str) (O i) B=(a.drop n).map V.str:=by subst h;rw[HS _ zD,List.map_drop];rfl
def EN:Sp:=λd H Q _=>∃(b:G)(l:U),d=[.ref b,.str l]/\ZJ H b/\As l/\l.length<=400/\∀a c,ZJ a b->Zr b H a->q9 l c->Q (.str c) a
section
variable {P:a9}{w:bg}{K:af}{J:U->Option Z}{S:bC}
def YU:ia [ky,qV,sY,qv,uT] [ky,qV] (Ze T.mO):=nc
def Ai(zw:∀x∈mE,J x=B)(CT:l8 P w K J S 1 rl [ky,pP] Z7)(CW:l8 P w K J S 2 "_law_word" [ky,pd] KU)(zB:Df K J "_law_line_spoilt" T.mO [ky,qV]):l8 P w K J S 3 "_law_line_spoilt" [ky,qV] EN:=by
 refine zB.cn YU λf cj A cf s H vs Q E hr h=>?_;obtain⟨b,z,rfl,hb,ha,hz,k⟩:=h;refine' ⟨_,(Zb ?bb (Zb ?a7 (Zb (st 4 YU.nd (cn CT hr (o7 (R 0) Zd))) (Zb ?a6 (Zb ?a5 (Zb ?a4 (Zi ?a3))))))),?rd⟩;case' a3=>refine' (Zn ?bM)
 case' a4=>refine' (ZC (Zo Ym (R 4) Zd (Zu _)) (Zi ?b2) Zq)
 case' a5=>refine' (ZC (Zo Ym (R 4) Zd (Zu _)) (Zi ?b5) Zq)
 case' a6=>refine' (ZC (Zo Ym (R 4) Zd (Zu _)) (Zi ?h6) Zq)
 case' a7=>refine' (st 3 YU.nd (cn CT hr (o7 (R 0) (Zz (r:=nJ K) ZO Y (bm zw) bt (me (R 2))))))
 case' bb=>refine' (st 2 YU.nd (YR bP dY dX Jr (R 1) (me Zf)))
 case' bM=>refine' (@Uk _ _ _ _ _ _ _ Zf (me ?bT) (by exact⟨Y,Y,Y,Y,Y⟩))
 case' bT=>refine' (Zv Yq ?b1 ?b0)
 case' b1=>refine' (Zv Yq (ZG (r:=ny K) Z0 (R 2) ZQ (ZP (R 3))) (Zw (me (cn CW hr (o7 (R 0) (il K (R 2) (R 3)))))))
 case' b2=>refine' (Zn ?b3)
 case' b3=>refine' (Zv ZS (R 1) ?b4)
 case' b4=>refine' (il K (Zw (Za Zf (qX Zf Zf Zf))) (cn CT hr (o7 (R 0) Zd)))
 case' b5=>refine' (Zn ?b6)
 case' b6=>refine' (@Uk _ _ _ _ _ _ _ Zf (me ?b7) (by exact⟨Y,Y,Y,Y,Y⟩))
 case' b7=>refine' (Zv Yq ?h8 (ZG (r:=ny K) Z0 (R 2) (ZP (R 3)) ZQ))
 case' h8=>refine' (ZG (r:=ny K) Z0 (R 2) ZQ (ZP (Zv Z3 (R 3) Zd)))
 case' h6=>refine' (Zn ?h5)
 case' h5=>refine' (@Uk _ _ _ _ _ _ _ Zf (me ?h4) (by exact⟨Y,Y,Y,Y,Y⟩))
 case' h4=>refine' (Zv Yq (ZG (r:=ny K) Z0 (R 2) ZQ (ZP (R 3))) ?h3)
 case' b0|h3=>refine' (ZG (r:=ny K) Z0 (R 2) (ZP (Zv Z3 (R 3) Zd)) ZQ)
 case' rd=>
 obtain⟨c1,c2,c3,c4⟩:=Gz (aj hz D);refine⟨_,Y,Y,_,_,Y,Y,c1,c2,c3,c4,λX ah=>?_⟩;dsimp only;rw[show(bh " ":U)=SP from Np];refine nZ ah λH1 S1 e1=>?_;have wl:(Txt.split z SP).length<=401:=(YN (c:=32) hz).2;have wn:1<=(Txt.split z SP).length:=by
  have:=Xd z SP;cases h:Txt.split z SP with
 |nil=>exact zI h this
 |cons x r=>exact Nat.succ_le_succ (bK _)
 have wz:∀x∈Txt.split z SP,x.length<=400:=(YN (c:=32) hz).1;have ab:∀n,n<(Txt.split z SP).length->∃w,(Txt.split z SP)[n]?=O w/\As w/\32∉cd w/\w.length<=400/\q9 z (Txt.join SP ((Txt.split z SP).take n++(Txt.split z SP).drop (n+1)))/\q9 z (Txt.join SP ((Txt.split z SP).take (n+1)++(Txt.split z SP).drop n))/\∀w',wN w w'->q9 z (Txt.join SP ((Txt.split z SP).take n++[w']++(Txt.split z SP).drop (n+1))):=λn hn=>by
  have e:Txt.split z SP=(Txt.split z SP).take n++(Txt.split z SP)[n]::(Txt.split z SP).drop (n+1):=by rw[<-eF hn,fC]
  have hm:(Txt.split z SP)[n]∈Txt.split z SP:=bo hn;refine⟨_,gE hn,?_,?_,wz _ hm,Bt e,?_,λw' hw=>Bo e hw⟩
  .exact R6 e ha _ (by rw[<-e];exact hm)
  .exact RZ e _ (by rw[<-e];exact hm)
  .have:=Bl e;rw[<-eF hn]at this;rwa [cq,gE hn]
 generalize Txt.split z SP=ws at e1 wl wn wz ab;have B1:=hb.same S1;have nw:X≠b:=hb.ne ah;clear c1 c2 c3 c4;refine⟨_,Y,_,Y,X,_,Y,.inl (jw.of e1),b,_,Y,B1,by rw[lm];omega,Z6 (by rw[lm];omega) (by rw[lm];omega),λr H2 h0 C B2 S2=>?_⟩;rw[lm]at C;have ar:r=(r.toNat:Int):=(d7 h0).symm;generalize r.toNat=n at ar;subst ar;have hn:n<ws.length:=by omega
 obtain⟨w0,aP,wa,aM,w4,s0,s1,s3⟩:=ab n hn;clear ab h0 C;refine qB B2 (λm H3 _ _ B3 S3=>?_);have e3:=S3 _ _ (S2 _ _ e1 nw) nw;have aC:Zr b H H3:=(Zr.trans (λc o e _=>S1 _ _ e) S2).trans S3;have jn:∀(l:List U),(∀x∈l,x.length<=2000)->l.length<=1000->(l.map (·.length)).sum+l.length*(SP:U).length<=16777216:=λl C h2=>by
  have h3:(l.map (·.length)).sum<=(l.map (·.length)).length*2000:=Jn λx t=>by obtain⟨w,hw,rfl⟩:=aG.mp t;exact C w hw
  rw[lm]at h3;show _+l.length*1<=_;omega
 clear ah S1 S2 S3 e1 B1 B2;refine⟨_,Y,Y,_,Y,?_⟩;have ak:∀x∈ws,x.length<=2000:=λx t=>aj (wz x t) D;have ai:∀(l:List U)(g:Hp)(p:G),g p=O (.lst (l.map V.str))->(∀x∈l,x.length<=2000)->l.length<=1000->ZJ g b->Zr b H3 g->q9 z (Txt.join SP l)->∃(zz:U)(p':G)(ys:List U),V.str (bh " ")=V.str zz/\[V.ref p]=[V.ref p']/\jw K g p' (ys.map V.str)/\(ys.map (·.length)).sum+ys.length*zz.length<=16777216/\Q (.str (Txt.join zz ys)) g:=λl g p e C h2 bx sm ok=>
  ⟨SP,p,l,by rw[show(bh " ":U)=SP from Np],Y,jw.of e,jn l C h2,k g _ bx (aC.trans sm) ok⟩;have aa:∀(u1 u2:List U)(I:Hp)(p1 p2:G)(zv:VK),I p1=O (.lst (u1.map V.str))->I p2=O (.lst (u2.map V.str))->u1.length+u2.length<=1000->(∀N g,g N=O (.lst ((u1++u2).map V.str))->f' I g->zv (.ref N) g)->uf (.ref p1) (.ref p2) I zv:=λu1 u2 I p1 p2 zv C h2 hl q=>
  ⟨p1,p2,_,_,Y,Y,C,h2,aj (by rw[lm,lm];exact hl) D,λN a0=>q N _ (by rw[Zc,aA]) (Zh (f'.refl _) a0)⟩;have sb:∀{Ha Hb:Hp},f' Ha Hb->Zr b Ha Hb:=λs c o e _=>s _ _ e;have tl:∀i,(ws.take i).length<=401:=λi=>by rw[aY];omega
 have dl:∀i,(ws.drop i).length<=401:=λi=>by rw[cL];omega
 have mt:∀i,∀x∈ws.take i,x.length<=2000:=λi x t=>ak x (du t);have md:∀i,∀x∈ws.drop i,x.length<=2000:=λi x t=>ak x (eR t);have mc:∀{a c:List U},(∀x∈a,x.length<=2000)->(∀x∈c,x.length<=2000)->∀x∈a++c,x.length<=2000:=λC h2 x t=>(ba.mp t).elim (C x) (h2 x);refine Xr (λ_=>?_) (λ_=>?_)
 .refine⟨Y,_,Y,_,Y,_,Y,X,_,Y,jw.of e3,λp1 d=>?_⟩;rw[XW ws Y];refine nZ d λH4 W e4=>?_;refine⟨_,Y,_,Y,_,_,Y,Y,_,Y,X,_,Y,jw.of (W _ _ e3),λp2 L=>?_⟩;rw[YY ws (i:=(n:Int)+1) (n:=n+1) Y];refine nZ L λI F e5=>?_;refine aa _ _ I p1 p2 _ (F _ _ e4) e5 (by have:=tl n;have:=dl (n+1);omega) λN g e6 S6=>?_;have M:=(W.trans F).trans S6;exact ai _ g N e6 (mc (mt _) (md _)) (by rw[aD];have:=tl n;have:=dl (n+1);omega) (B3.same M) (sb M) s0
 refine⟨_,Y,Y,_,Y,?_⟩;refine Xr (λ_=>?_) (λ_=>?_)
 .refine⟨Y,_,Y,_,Y,_,_,Y,Y,_,Y,X,_,Y,jw.of e3,λp1 d=>?_⟩;rw[XW ws (i:=(n:Int)+1) (n:=n+1) Y];refine nZ d λH4 W e4=>?_;refine⟨_,Y,_,Y,_,Y,X,_,Y,jw.of (W _ _ e3),λp2 L=>?_⟩;rw[YY ws (n:=n) Y];refine nZ L λI F e5=>?_;refine aa _ _ I p1 p2 _ (F _ _ e4) e5 (by have:=tl (n+1);have:=dl n;omega) λN g e6 S6=>?_;have M:=(W.trans F).trans S6;exact ai _ g N e6 (mc (mt _) (md _)) (by rw[aD];have:=tl (n+1);have:=dl n;omega) (B3.same M) (sb M) s1
 refine⟨_,Y,Y,_,Y,?_⟩;refine Xr (λ_=>?_) (λ_=>?_)
 .refine⟨_,Y,zl,λp1 d=>?_⟩;refine qB (B3.new d) (λr I h0 C B5 F=>?_);obtain⟨v,hv,hm⟩:=JJ (xs:=([" ","\n"," 1","\n\n"]:List U).map V.str) h0 C;refine⟨p1,_,r,v,Y,Y,jw.of (F _ _ Zc (B3.ne d)),hv,?_⟩;obtain⟨x,t,rfl⟩:=aG.mp hm;have xl:∀x∈([" ","\n"," 1","\n\n"]:List U),x.length<=2:=by decide +kernel
  refine⟨z,x,Y,Y,aj (Nat.add_le_add hz (xl x t)) D,?_⟩;exact k I _ B5 (aC.trans ((sb (Zh (f'.refl _) d)).trans F)) (Bu t)
 refine⟨Y,_,Y,_,Y,_,Y,X,_,Y,jw.of e3,λp1 d=>?_⟩;rw[XW ws Y];refine nZ d λH4 W e4=>?_;have B4:=B3.same W;refine⟨_,Y,_,Y,_,Y,X,_,_,_,Y,Y,jw.of (W _ _ e3),XN (j:=n) Y (by rw[aT,aP];rfl),?_⟩;refine⟨b,w0,Y,B4,wa,aM,zD,λI z' B5 F wk=>?_⟩;have aF:z'.length<=2000:=by have:=wk.len;omega
 refine⟨zl,λp2 L=>?_⟩;have n1:p1≠b:=λq=>by rw[q]at d;obtain⟨x,y,u,e⟩:=B3;rw[e]at d;cases d
 have cc:=F _ _ e4 n1;have b8:=F _ _ (W _ _ e3) nw;dsimp only;refine nZ L λg S6 e6=>?_;refine aa (ws.take n) [z'] g p1 p2 _ (S6 _ _ cc) e6 (by have:=tl n;show _+1<=1000;omega) λN H7 e7 S7=>?_;refine⟨_,Y,_,Y,_,_,Y,Y,_,Y,X,_,Y,jw.of (S7 _ _ (S6 _ _ b8)),λp4 aS=>?_⟩;rw[YY ws (i:=(n:Int)+1) (n:=n+1) Y];refine nZ aS λH8 S8 e8=>?_;refine aa _ _ H8 N p4 _ (S8 _ _ e7) e8 (by have:=tl n;have:=dl (n+1);rw[aD];show _+1+_<=1000;omega) λp5 H9 e9 S9=>?_;have az:=((S6.trans S7).trans S8).trans S9;refine ai _ H9 p5 e9 (mc (mc (mt _) (λx t=>by rw[aL.mp t];exact aF)) (md _)) (by rw[aD,aD];have:=tl n;have:=dl (n+1);show _+1+_<=1000;omega) (B5.same az) ((sb W).trans (F.trans (sb az))) (s3 z' wk)
noncomputable def wI:List U:=["","turns 5","turns 0","home zz","place zz 4","ride zz a 0 b 1 2","way zz a b 1 2","group z. a 0 1"]
def OF:∀x∈wI,x.length<=91/\10∉cd x/\∀c∈cd x,c<128:=by decide +kernel
def Il:Sp:=λf H Q _=>∃(b l:G)(d:List U)(n:Nat),f=[.ref b,.ref l]/\ZJ H b/\l≠b/\H l=O (.lst (d.map V.str))/\Ln n d/\n<=2/\d≠[]/\∀c q a,ZJ c b->Zr b H c->q≠b->c q=O (.lst (a.map V.str))->Ln (n+1) a->Q (.ref q) c
def Xe:ia [ky,qw,uT,qv,"_law_other",rk] [ky,qw] (Ze T.om):=nc
def O1(zw:∀x∈mE,J x=B)(CT:l8 P w K J S 1 rl [ky,pP] Z7)(CL:l8 P w K J S 3 "_law_line_spoilt" [ky,qV] EN)(zB:Df K J "_law_spoilt" T.om [ky,qw]):l8 P w K J S 4 "_law_spoilt" [ky,qw] Il:=by
 refine zB.cn Xe λf cR A cK s H vs Q E hr h=>?_;obtain⟨b,l,a,k0,rfl,hb,nw,e1,hL,a5,a3,k⟩:=h;refine' ⟨_,(Zb (st 2 Xe.nd (cn CT hr (o7 (R 0) Zd))) (Zb ?b0 (Zb ?bT (Zb ?bM (Zb ?bx (Zb ?bb (Zb ?a7 (Zi ?a6)))))))),?rd⟩;case' a6=>refine' (Zn ?b1)
 case' a7=>refine' (ZC (Zo Ym (R 2) Zd (Zu _)) (Zi ?b4) Zq)
 case' bb=>refine' (ZC (Zo Ym (R 2) Zd (Zu _)) (Zb ?b7 (Zi ?b6)) Zq)
 case' bx=>refine' (ZC (Zo Ym (R 2) Zd (Zu _)) (Zi ?cm) Zq)
 case' bM=>refine' (ZC (Zo Ym (R 2) Zd (Zu _)) (Zi ?h5) Zq)
 case' bT=>refine' (st 4 Xe.nd (cn CT hr (o7 (R 0) (Zz (r:=nJ K) ZO Y (bm zw) bt (me (R 1))))))
 case' b0=>refine' (st 3 Xe.nd (cn CT hr (o7 (R 0) (Zz (r:=nJ K) ZO Y (bm zw) bt (me (R 1))))))
 case' b1=>refine' (Zv Yq ?b3 ?b2)
 case' b3=>refine' (Zv Yq (ZG (r:=ny K) Z0 (R 1) ZQ (ZP (R 3))) (Zw (me (cn CL hr (o7 (R 0) (il K (R 1) (R 3)))))))
 case' b4=>refine' (Zn ?b5)
 case' b5=>refine' (Zv Yq (ZG (r:=ny K) Z0 (R 1) (ZP (R 3)) ZQ) (ZG (r:=ny K) Z0 (R 1) ZQ (ZP (R 3))))
 case' b6=>refine' (Zn ?b8)
 case' b7=>refine' (st 5 Xe.nd ?ck)
 case' b8=>refine' (Zv Yq ?cc (ZG (r:=ny K) Z0 (R 1) (ZP (R 3)) ZQ))
 case' cc=>refine' (Zv Yq (ZG (r:=ny K) Z0 (R 1) ZQ (ZP (R 3))) ?cf)
 case' cf=>refine' (Zw (me ?cj))
 case' cj=>refine' (il K (Zv Yq (R 5) (Zw (me Zf))) (cn CT hr (o7 (R 0) Zd)))
 case' ck=>refine' (Zw (Za Zf (Za Zf (Za Zf (Za Zf (qX Zf Zf Zf))))))
 case' cm=>refine' (Zn ?cx)
 case' cx=>refine' (Zv Yq ?h9 (ZG (r:=ny K) Z0 (R 1) (ZP (R 3)) ZQ))
 case' h9=>refine' (Zv Yq (ZG (r:=ny K) Z0 (R 1) ZQ (ZP (R 3))) (Zw (me (il K (R 1) (R 4)))))
 case' h5=>refine' (Zn ?h4)
 case' h4=>refine' (Zv Yq (ZG (r:=ny K) Z0 (R 1) ZQ (ZP (R 3))) ?h3)
 case' b2|h3=>refine' (ZG (r:=ny K) Z0 (R 1) (ZP (Zv Z3 (R 3) Zd)) ZQ)
 case' rd=>
 have cP:1<=a.length:=by
  cases a with
 |nil=>exact zI Y a3
 |cons x r=>exact Nat.succ_le_succ (bK _)
 have cN:a.length<=60:=by have:=hL.n;omega
 refine qB hb (λm H1 _ _ B1 S1=>?_);have e2:=S1 _ _ e1 nw;refine⟨_,Y,_,Y,l,_,Y,.inl (jw.of e2),b,_,Y,B1,by rw[lm];omega,Z6 (by rw[lm];omega) (by rw[lm];omega),λr H2 h0 h1 B2 S2=>?_⟩;rw[lm]at h1;have X:r=(r.toNat:Int):=(d7 h0).symm;generalize r.toNat=n at X;subst X;have hn:n<a.length:=by omega
 clear h0 h1;have e3:=S2 _ _ e2 nw;refine⟨_,Y,_,Y,l,_,Y,.inl (jw.of e3),b,_,Y,B2,by rw[lm];omega,Z6 (by rw[lm];omega) (by rw[lm];omega),λr H3 h0 h1 W S3=>?_⟩;rw[lm]at h1;have X:r=(r.toNat:Int):=(d7 h0).symm;generalize r.toNat=o at X;subst X;have ho:o<a.length:=by omega
 clear h0 h1;have M:=S3 _ _ e3 nw;have ab:Zr b H H3:=(S1.trans S2).trans S3;clear e1 e2 e3 S1 S2 S3 B1 B2;have sb:∀{Ha Hb:Hp},f' Ha Hb->Zr b Ha Hb:=λs c o e _=>s _ _ e;have nb:∀{Hx:Hp}{p:G},ZJ Hx b->Hx p=B->p≠b:=λh e=>h.ne e;have y:∀(u1 u2:List U)(I:Hp)(p1 p2:G)(zv:VK),ZJ I b->I p1=O (.lst (u1.map V.str))->I p2=O (.lst (u2.map V.str))->u1.length+u2.length<=1000->(∀C N,C≠b->N C=O (.lst ((u1++u2).map V.str))->f' I N->zv (.ref C) N)->uf (.ref p1) (.ref p2) I zv:=λu1 u2 I p1 p2 zv hb h1 h2 hl q=>⟨p1,p2,_,_,Y,Y,h1,h2,aj (by rw[lm,lm];exact hl) D,λC ai=>q C _ (hb.ne ai) (by rw[Zc,aA]) (Zh (f'.refl _) ai)⟩;have tl:∀i,(a.take i).length<=60:=λi=>by rw[aY];omega
 have dl:∀i,(a.drop i).length<=60:=λi=>by rw[cL];omega
 refine⟨_,Y,Y,_,Y,?_⟩;refine Xr (λ_=>?_) (λ_=>?_)
 .refine⟨_,Y,_,Y,_,Y,l,_,Y,jw.of M,λp1 d=>?_⟩;rw[XW a Y];refine nZ d λH4 t e5=>?_;refine⟨_,Y,_,Y,_,_,Y,Y,_,Y,l,_,Y,jw.of (t _ _ M),λp2 u=>?_⟩;rw[YY a (i:=(n:Int)+1) (n:=n+1) Y];refine nZ u λI z e6=>?_;refine y _ _ I p1 p2 _ (W.same (t.trans z)) (z _ _ e5) e6 (by have:=tl n;have:=dl (n+1);omega) λC N np e7 F=>?_;have g:=(t.trans z).trans F;exact k N C _ (W.same g) (ab.trans (sb g)) np e7 (hL.cut n)
 refine⟨_,Y,Y,_,Y,?_⟩;refine Xr (λ_=>?_) (λ_=>?_)
 .refine⟨_,Y,_,Y,_,Y,l,_,Y,jw.of M,λp1 d=>?_⟩;rw[XW a Y];refine nZ d λH4 t e5=>?_;refine⟨_,Y,_,Y,l,_,_,_,Y,Y,jw.of (t _ _ M),XN (j:=o) Y (by rw[aT,gE ho];rfl),zl,λp2 u=>?_⟩;dsimp only;refine nZ u λI z e6=>?_;refine y (a.take n) [a[o]] I p1 p2 _ (W.same (t.trans z)) (z _ _ e5) e6 (by have:=tl n;show _+1<=1000;omega) λC N _ e7 F=>?_;have g:=(t.trans z).trans F;refine⟨_,Y,_,Y,_,Y,l,_,Y,jw.of (g _ _ M),λp4 aa=>?_⟩;rw[YY a (n:=n) Y];refine nZ aa λH7 S7 e8=>?_;have L:=g.trans S7;refine y _ _ H7 C p4 _ (W.same L) (S7 _ _ e7) e8 (by have:=tl n;have:=dl n;rw[aD];show _+1+_<=1000;omega) λp5 H8 np e9 S8=>?_;have aF:=L.trans S8;exact k H8 p5 _ (W.same aF) (ab.trans (sb aF)) np e9 (hL.put (hL.e _ (bo ho)).succ n n (aq _))
 refine⟨_,Y,Y,_,Y,?_⟩;refine Xr (λ_=>?_) (λ_=>?_)
 .refine⟨zl,λp0 a0=>?_⟩;refine nZ a0 λH4 t e5=>?_;refine⟨_,Y,_,Y,_,Y,l,_,Y,jw.of (t _ _ M),λp1 d=>?_⟩;rw[XW a Y];refine nZ d λI z e6=>?_;refine⟨_,Y,zl,λp2 u=>?_⟩;dsimp only;refine nZ u λN F e7=>?_;have g:=(t.trans z).trans F;refine y ["","turns 5","turns 0","home zz","place zz 4","ride zz a 0 b 1 2","way zz a b 1 2"] ["group z. a 0 1"] N p0 p2 _ (W.same g) (F _ _ (z _ _ e5)) e7 D λC H7 n3 e8 S7=>?_;have L:=g.trans S7;have B7:=W.same L;refine qB B7 (λr H8 h0 h1 B8 S8=>?_);obtain⟨v,hv,hm⟩:=JJ (xs:=wI.map V.str) h0 h1;refine⟨C,_,r,v,Y,Y,jw.of (S8 _ _ e8 n3),hv,?_⟩;obtain⟨x,hx,rfl⟩:=aG.mp hm;obtain⟨x1,x2,x3⟩:=OF x hx;refine⟨zl,λp4 aa=>?_⟩;have n1:p1≠b:=(W.same t).ne d;refine nZ aa λH9 S9 e9=>?_;have f6:=S9 _ _ (S8 _ _ (S7 _ _ (F _ _ e6)) n1);have f4:=S9 _ _ (S8 _ _ (L _ _ M) nw);refine y (a.take n) [x] H9 p1 p4 _ (B8.same S9) f6 e9 (by have:=tl n;show _+1<=1000;omega) λp5 cS _ cE aP=>?_;refine⟨_,Y,_,Y,_,Y,l,_,Y,jw.of (aP _ _ f4),λp6 aS=>?_⟩;rw[YY a (n:=n) Y];refine nZ aS λcI aM cB=>?_;have ar:=(S9.trans aP).trans aM;refine y _ _ cI p5 p6 _ (B8.same ar) (aM _ _ cE) cB (by have:=tl n;have:=dl n;rw[aD];show _+1+_<=1000;omega) λp7 cH np cy cG=>?_;have ak:=ar.trans cG;exact k cH p7 _ (B8.same ak) (ab.trans ((sb L).trans (S8.trans (sb ak)))) np cy (hL.put (sF.new x3 x1 x2) n n (aq _))
 refine⟨_,Y,Y,_,Y,?_⟩;refine Xr (λ_=>?_) (λ_=>?_)
 .refine⟨_,Y,_,Y,_,Y,l,_,Y,jw.of M,λp1 d=>?_⟩;rw[YY a Y];refine nZ d λH4 t e5=>?_;refine⟨_,Y,_,Y,_,Y,l,_,Y,jw.of (t _ _ M),λp2 u=>?_⟩;rw[XW a Y];refine nZ u λI z e6=>?_;refine y _ _ I p1 p2 _ (W.same (t.trans z)) (z _ _ e5) e6 (by have:=tl n;have:=dl n;omega) λC N np e7 F=>?_;have g:=(t.trans z).trans F;exact k N C _ (W.same g) (ab.trans (sb g)) np e7 (hL.turn n).succ
 refine⟨_,Y,_,Y,_,Y,l,_,Y,jw.of M,λp1 d=>?_⟩;rw[XW a Y];refine nZ d λH4 t e5=>?_;have ah:=hL.e _ (bo hn);have a4:a[n].length<=400:=by
  have h1:=ah.len;have h2:∀k,k<=2->xq k<=379:=by decide
  have:=h2 k0 a5;omega
 refine⟨_,Y,_,Y,_,Y,l,_,_,_,Y,Y,jw.of (t _ _ M),XN (j:=n) Y (by rw[aT,gE hn];rfl),?_⟩;refine⟨b,a[n],Y,W.same t,ah.as,a4,λI l' B5 z sp=>?_⟩;have n1:p1≠b:=W.ne d;refine⟨zl,λp2 u=>?_⟩;dsimp only;refine nZ u λN F e6=>?_;have f5:=F _ _ (z _ _ e5 n1);have f4:=F _ _ (z _ _ (t _ _ M) nw);refine y (a.take n) [l'] N p1 p2 _ (B5.same F) f5 e6 (by have:=tl n;show _+1<=1000;omega) λC H7 _ e7 S7=>?_;refine⟨_,Y,_,Y,_,_,Y,Y,_,Y,l,_,Y,jw.of (S7 _ _ f4),λp4 aa=>?_⟩;rw[YY a (i:=(n:Int)+1) (n:=n+1) Y];refine nZ aa λH8 S8 e8=>?_;have aC:=(F.trans S7).trans S8;refine y _ _ H8 C p4 _ (B5.same aC) (S8 _ _ e7) e8 (by have:=tl n;have:=dl (n+1);rw[aD];show _+1+_<=1000;omega) λp5 H9 np e9 S9=>?_;have az:=aC.trans S9;exact k H9 p5 _ (B5.same az) (ab.trans ((sb t).trans (z.trans (sb az)))) np e9 (hL.put (ah.yc sp) n (n+1) (iV _))
def AW(z:U):Prop:=(∀c∈cd z,c<128/\c≠32/\c≠10)/\z.length<=12
noncomputable instance (z:U):Decidable (AW z):=by unfold AW;infer_instance
def B0:∀n:Nat,n<1001->AW (toString (n:Int):String):=by decide +kernel
def Cc:∀c∈pN,c<128/\c≠32/\c≠10:=by decide +kernel
def Bh:∀s∈ub,(∀c∈cd s,c<128/\c≠32/\c≠10)/\s.length<=3:=by decide +kernel
def Tf (h:Nm t):AW t:=⟨λc a=>Cc c (h.2.2 c a),by have:=h.2.1;rw[ZF]at this;omega⟩
def ZaM{t s:U}(h:Nm t)(hs:s∈ub):AW (t++s):=by
 obtain⟨a,b⟩:=Bh s hs;refine⟨λc hc=>?_,?_⟩
 .rw[ZL]at hc;rcases ba.mp hc with hc|hc
  .exact(Tf h).1 c hc
  .exact a c hc
 .have e:=zM d8 (ZL t s);rw[aD]at e;have e:(t++s).length=t.length+s.length:=e;have:=h.2.1;rw[ZF]at this;omega
def Wt(v:V):Prop:=(∃z:U,v=.str z/\AW z)\/∃i:Int,v=.int i/\0<=i/\i<=1000
def RE{i:Int}(a:0<=i)(b:i<=1000):AW (toString i:String):=by obtain⟨n,rfl⟩:=e_ a;exact B0 n zD
def Wt.aw (h:Wt v):AW (txt v):=by
 rcases h with⟨z,rfl,h⟩|⟨i,rfl,b,a⟩
 .exact h
 .exact RE b a
def rO(j:Nat)(l:U):Prop:=∃z r,l=Txt.join SP (z::r)/\z∈mh j/\(∀w∈z::r,AW w)/\r.length<=6/\j<=4
def rO.e{j:Nat}{l:U}(h:rO j l):sF 0 l:=by
 obtain⟨z,r,rfl,_,b,s,_⟩:=h;have f:10∉cd (Txt.join SP (z::r)):=λa=>by
  rw[show cd (Txt.join SP (z::r))=_ from XM 32 _]at a;rcases Tv a with h|⟨w,o,h⟩
  .cases h
  .obtain⟨y,g,rfl⟩:=aG.mp o;exact((b y g).1 10 h).2.2 Y
 refine sF.new (NV λw d c a=>((b w d).1 c a).1) ?_ f;have q:=GA 32 (z::r);have p:((z::r).map (·.length)).sum<=((z::r).map (·.length)).length*12:=Jn λx i=>by obtain⟨u,n,rfl⟩:=aG.mp i;exact(b u n).2
 rw[lm,aB]at p;rw[aB]at q;show(Txt.join ⟨#[32]⟩ (z::r)).length<=91;omega
def rO.v{j:Nat}(h:rO j l)(i:Nat):vL i l<=if j=i then 1 else 0:=by
 have f:=h.e;have n:10∉cd l:=cZ.mp (Nat.le_zero.mp f.ct);have y:Txt.split l NL=[l]:=by have:=YG (c:=10) (ls:=[l]) zE (λx p=>by rw[aL.mp p];exact n);exact this
 by_cases a:j=i
 .rw[zH a];exact aj (x6 i l) (by have:=f.d;omega)
 .rw[zG a];unfold vL;rw[y];obtain⟨z,r,rfl,o,s,C,t⟩:=h;have:kd i (Txt.join SP (z::r))=false:=by
   refine zK λq=>?_;unfold Ye at q;rw[show Txt.split (Txt.join SP (z::r)) SP=z::r from YG zE λw b u=>((s w b).1 32 u).2.1 Y]at q;cases g:mP (z::r)with
  |none=>rw[g]at q;cases q
  |some A=>rw[g]at q;have q:O (jW z)=O i:=q;rw[RF o t]at q;exact a (aJ q)
  rw[f9,this];exact aq _
def OI{b:List Nat}{a:List U}(h:bX rO b a)(i:Nat):(a.map (vL i)).sum<=b.count i:=by
 induction h with
|nil=>exact aq _
|@cons j l b a c _ d=>
  rw[aH,dM,List.count_cons];have:=c.v i;by_cases e:j=i
  .rw[zH e]at this;rw[zH (by rw[e];exact beq_self_eq_true i)];omega
  .rw[zG e]at this;omega
noncomputable def vm(p:Nat)(a:Nat->List (List V))(i:Nat):List Nat:=(0::bS p 1)++(bB i).flatMap λm=>bS (a m).length (m+2)
def ON(p:Nat)(a:Nat->List (List V))(i:Nat):vm p a (i+1)=vm p a i++bS (a i).length (i+2):=by unfold vm;rw[dR,List.flatMap_append,<-bu];simp
def WQ{d c:Type}{f:d->c->Prop}{a:List d}{b:List c}(h:bX f a b):∀y∈b,∃x,f x y:=by
 induction h with
|nil=>intro y hy;cases hy
|cons r _ g=>
  intro y hy;rcases ay.mp hy with rfl|hy
  .exact⟨_,r⟩
  .exact g y hy
def FR{p:Nat}{a:Nat->List (List V)}{c:List U}(g:p<=6)(f:∀m,m<3->(a m).length<=12)(h:bX rO (vm p a 3) c):Ln 0 c/\c≠[]:=by
 have e:vm p a 3=0::(bS p 1++(bS (a 0).length 2++(bS (a 1).length 3++bS (a 2).length 4))):=by unfold vm;simp[dR]
 have o:=f 0 D;have n:=f 1 D;have i:=f 2 D;have b:=pairs_len h;rw[e]at h b;refine⟨⟨λl b=>?_,λj d=>?_,?_⟩,λq=>?_⟩
 .obtain⟨j,d⟩:=WQ h l b;exact d.e
 .refine aj (OI h j) ?_;rcases d with rfl|rfl|rfl|rfl
  .simp[iT,yB,uw];omega
  .simp[iT,yB,uw];omega
  .simp[iT,yB,uw];omega
  .simp[iT,yB,uw];omega
 .simp only[aB,aD,eG]at b;omega
 .rw[q]at b;simp at b
def Lz:∀j,j<=4->∀z∈mh j,AW z:=by decide +kernel
noncomputable def RW(W:Wd)(m:Nat):List (List V):=if m=0 then W.rs.map QH else if m=1 then W.ws.map Qs else W.gs.map QS
def Ob   (g:GoodW W bs)(s:rJ W bs E C A u){m:Nat}(H:m<3):(RW W m).length<=12/\∀r∈RW W m,r.length<=6/\∀v∈r,Wt v:=by
 have pn:∀{z:U}{x:Option Int},(z,x)∈W.ps->Wt (.str z):=λh=>.inl ⟨_,Y,Tf (g.pl.nm _ h)⟩;have c:∀{i:Int},0<=i->i<=1000->Wt (.int i):=λp l=>.inr ⟨_,Y,p,l⟩;have F:=g.n1;rcases(by omega:m=0\/m=1\/m=2)with rfl|rfl|rfl
 .have e:RW W 0=W.rs.map QH:=rfl;rw[e];refine⟨by have:=s.r.len;rw[lm]at this ⊢;exact this,λr f=>?_⟩;obtain⟨x,d,rfl⟩:=aG.mp f;have a:=g.rd x d;obtain⟨i,l⟩:=a.ends.st;obtain⟨y,j⟩:=a.ends.gl;refine⟨aq _,λv b=>?_⟩;simp only[QH,ay,a8,or_false]at b;have:=a.lv0;have:=a.lv1;have:=a.cm0;have:=a.cm1;rcases b with rfl|rfl|rfl|rfl|rfl|rfl
  .exact .inl ⟨_,Y,Tf (s.r.nm _ (aG.mpr ⟨x,d,Y⟩))⟩
  .exact pn l
  .exact c zD zD
  .exact pn j
  .exact c zD zD
  .exact c a.se0 a.se1
 .have e:RW W 1=W.ws.map Qs:=rfl;rw[e];refine⟨by have:=s.w.len;rw[lm]at this ⊢;exact this,λr f=>?_⟩;obtain⟨x,d,rfl⟩:=aG.mp f;have a:=g.wy x d;obtain⟨i,l⟩:=a.ends.st;obtain⟨y,j⟩:=a.ends.gl;refine⟨by show 5<=6;decide,λv b=>?_⟩;simp only[Qs,ay,a8,or_false]at b;have:=a.lo0;have:=a.lo1;rcases b with rfl|rfl|rfl|rfl|rfl
  .exact .inl ⟨_,Y,Tf (s.w.nm _ (aG.mpr ⟨x,d,Y⟩))⟩
  .exact pn l
  .exact pn j
  .exact c zD zD
  .exact c a.wi0 a.wi1
 .have e:RW W 2=W.gs.map QS:=rfl;rw[e];refine⟨by have:=s.g.len;rw[lm,g.len];exact this,λr f=>?_⟩;obtain⟨x,d,rfl⟩:=aG.mp f;obtain⟨i,o⟩:=cD.mp d;have n:i<bs.length:=by rw[<-g.len];exact(aU.mp o).1
  have a:=g.gr i bs[i] x (gE n) o;obtain⟨t,hs,q⟩:=a.nm;obtain⟨y,j⟩:=a.pl;refine⟨by show 4<=6;decide,λv b=>?_⟩;simp only[QS,ay,a8,or_false]at b;have:=a.tu0;have:=a.tu1;have:=a.ma0;have:=a.ma1;rcases b with rfl|rfl|rfl|rfl
  .rw[q];exact .inl ⟨_,Y,ZaM (s.g.nm _ (bo n)) hs⟩
  .exact pn j
  .exact c zD zD
  .exact c zD zD
def FQ{j:Nat}{z:U}{r:List U}(b:j<=4)(a:z∈mh j)(c:∀w∈r,AW w)(d:r.length<=6):rO j (Txt.join SP (z::r)):=⟨z,r,Y,a,λw hw=>by
 rcases ay.mp hw with rfl|hw
 .exact Lz j b _ a
 .exact c w hw,d,b⟩
def Im:Sp:=λd H Q _=>∃(b p o n l j:G)(W:Wd)(bs:List U)(i h g f:U),d=[.ref p]/\ZJ H b/\tY b H p W o n l j/\GoodW W bs/\rJ W bs i h g f/\∀c q a,f' H c->q≠b->c q=O (.lst (a.map V.str))->Ln 0 a->a≠[]->Q (.ref q) c
def YT:ia [w6,qw,pF,vH,oG,pd,tS] [w6] (Ze T.nN):=nc
noncomputable def VY:dh:=pL [(".0",.local),(vJ,.local),("str",.globalImplicit)]
def Mm:i4 VY (Ze T.nN):=⟨Y,zC,zC,zC⟩
def Mo:([vJ]:List U).Nodup:=by decide +kernel
def Mn:i3 [w6,qw,pF,vH,oG,pd,tS] VY [vJ] [B]:=.mk' zC
def O2(zw:∀x∈mE,J x=B)(zB:Df K J "_law_lines" T.nN [w6]):l8 P w K J S 1 "_law_lines" [w6] Im:=by
 refine zB.cn YT λf cN A cH s H vs Q E hr h=>?_;obtain⟨b,p,l1,l2,l3,l4,W,bs,s0,s1,s2,s3,rfl,hb,wa,g,sg,k⟩:=h;refine' ⟨_,(Zb ?cx (Zb ?cm (Zb ?ck (Zi (Zn (R 1)))))),?rd⟩;case' ck=>refine' (Y9 dH Y (Pu Y (bm zw) (me (Zw (qX Zf Zf Zf))) zC) (XG Y (Zx (mH 4 YT.nd) (Zx (mH 5 YT.nd) Yd))) (Zi ?cy))
 case' cm=>refine' (Y9 dH Y (Yy (il K (R 0) Zd)) (XG Y (Zx (mH 2 YT.nd) (Zx (mH 3 YT.nd) Yd))) (Zi ?h8))
 case' cx=>refine' (st 1 YT.nd ?h3)
 case' cy=>refine' (Y9 dH Y (Yy (il K (R 0) (Zv Z3 (R 4) Zd))) (mH 6 YT.nd) (Zi ?cB))
 case' cB=>refine' (Yc (YR bD cA cz Y6 (R 1) (me ?cE)))
 case' cE=>refine' (@Uk _ _ _ _ _ _ _ Zf (me ?cG) (by exact⟨Y,Y,Y,Y,Y⟩))
 case' cG=>refine' (Zv Yq (Zw (me (R 5))) (Yp Y Mm Mn (MI (R 6)) (λC s H ex pn=>(mH 0 Mo)) (λC s H ex pn=>ZW) (λC s H ex pn=>(ZE Jj Y (bm zw) JQ (Za (R 0) Zg)))))
 case' h8=>refine' (Yc (YR bD cA cz Y6 (R 1) (me ?h7)))
 case' h7=>refine' (@Uk _ _ _ _ _ _ _ Zf (me (X4 (Zo Vi (R 3) ZK (Zu _)) (Zw (o7 Zf (R 2))) ?h6)) (by exact⟨Y,Y,Y,Y,Y⟩))
 case' h6=>refine' (Zw (qX Zf (R 2) (ZE Jj Y (bm zw) JQ (me (R 3)))))
 case' h3=>refine' (Zw (me ?h2))
 case' h2=>refine' (Zv ZS Zf (ZE Jj Y (bm zw) JQ (me (il K (R 0) Zd))))
 case' rd=>
 refine rA 0 wa.at_ Y ?_;dsimp only[mq];refine .inl ⟨W.n,Y,dA (gT _) (by have:=g.n0;have:=g.n1;omega),?_⟩;refine⟨_,_,Y,Y,?_,?_⟩
 .have:=(RE (i:=W.n) (by have:=g.n0;omega) (by have:=g.n1;omega)).2;exact aj (h_ this _) D
 refine⟨zl,λt aS=>?_⟩;have nq:H t=B:=aS;have b0:t≠b:=hb.ne aS;have L0:rO 0 ("turns "++(toString W.n:String)):=by
  have:("turns "++(toString W.n:String):U)=Txt.join SP ["turns",(toString W.n:String)]:=Xa (by rw[ZL,show cd (Txt.join SP ["turns",(toString W.n:String)])=_ from XM 32 _];rw[show cd ("turns ":U)=cd "turns"++[32] by decide +kernel,bu];rfl);rw[this];exact FQ (j:=0) D zC (λw hw=>by rw[aL.mp hw];exact RE (by have:=g.n0;omega) (by have:=g.n1;omega)) (by show 1<=6;decide)
 have S1:=Zh (o:=.lst [V.str ("turns "++(toString W.n:String))]) (f'.refl H) aS;have e1:upd H t (.lst [V.str ("turns "++(toString W.n:String))]) t=O (.lst [V.str ("turns "++(toString W.n:String))]):=Zc;generalize ("turns "++(toString W.n:String):U)=t0 at L0 S1 e1 ⊢;generalize upd H t (.lst [V.str t0])=H1 at S1 e1 ⊢;have fq:∀{c o},H c=O o->c≠t:=λe z=>by rw[z,nq]at e;cases e
 have app:∀{N:Hp}{u:List U}{ks:List Nat}{j:Nat}{l:U},bX rO ks u->rO j l->f' H N->f' H (upd N t (.lst (u.map V.str++[.str l])))/\∃a6,upd N t (.lst (u.map V.str++[.str l])) t=O (.lst (a6.map V.str))/\bX rO (ks++[j]) a6:=λ{N u ks j l}h1 h2 h3=>by refine⟨λc o e=>by rw[Zk (fq e)];exact h3 _ _ e,u++[l],by rw[Zc,aA];rfl,YW h1 (.cons h2 .nil)⟩
 have jn:∀{L:List U},(∀x∈L,AW x)->L.length<=7->(L.map (·.length)).sum+L.length*(SP:U).length<=16777216:=λ{L}h1 h2=>by
  have h3:(L.map (·.length)).sum<=(L.map (·.length)).length*12:=Jn λx hx=>by obtain⟨w,hw,rfl⟩:=aG.mp hx;exact(h1 w hw).2
  rw[lm]at h3;show _+L.length*1<=_;omega
 have az:V.str (bh " ")=V.str SP:=by rw[show(bh " ":U)=SP from Np]
 have a0:∀{j:Nat}{z:U}{r:List U},j<=4->z∈mh j->(∀w∈r,AW w)->r.length<=6->((z::r).map (·.length)).sum+(z::r).length*(SP:U).length<=16777216/\rO j (Txt.join SP (z::r)):=λ{j z r}hj hz hr hl=>
  ⟨jn (λx hx=>by
   rcases ay.mp hx with rfl|hx
   .exact Lz j hj _ hz
   .exact hr x hx) (by rw[aB];omega),FQ hj hz hr hl⟩
 refine tq λD1 bb=>?_;obtain⟨_,bx,ai,a7,b1⟩:=wa.pl;have b3:W.ps.length<=6:=g.pl.hi;rw[lm]at a7;refine rA 1 (S1 _ _ wa.at_) Y ⟨l1,Y,⟨_,jw.of (S1 _ _ ai)⟩,?_⟩;refine Xy (zA:=qA K l1) W.ps.length (λi F d=>f' H d/\(∃u:List U,d t=O (.lst (u.map V.str))/\bX rO (0::bS i 1) u)/\∃o:Nat->Option V,F=[O (.ref p),O (.ref t),o 2,o 3,o 4,o 5,o 6]) ?_ (λi F d I q=>?_) (λF d q=>?_) (λi F d x H2 I q yl=>?_) (λF d q=>?_)
 .exact⟨S1,⟨[t0],e1,.cons L0 .nil⟩,tQ Y⟩
 .exact⟨_,V.ref (bx[i]' zD),jw.of (q.1 _ _ ai),by rw[aT,gE zD];rfl⟩
 .exact⟨_,jw.of (q.1 _ _ ai),by rw[lm,a7];exact aq _⟩
 .obtain⟨S2,⟨u,hq,pl⟩,o,rfl⟩:=q;obtain⟨rfl,hx⟩:=yl;have hx:=hx _ (jw.of (S2 _ _ ai));rw[aT,gE zD]at hx;cases hx;have b2:W.ps[i]?=O W.ps[i]:=gE I;have ak:W.ps[i]∈W.ps:=bo I;obtain⟨_,ht⟩:=b1 i (bx[i]' zD) (YQ W.ps[i]) (gE zD) (by rw[aT,b2];rfl);have aC:=Tf (g.pl.nm _ ak);have room:=g.pl.room _ ak;generalize W.ps[i]=pi at ht aC room;obtain⟨nm,rm⟩:=pi;have ht:=S2 _ _ ht;refine⟨_,_,Y,lR.of ht,Y,_,_,Y,_,_,Y,Y,?_⟩;refine⟨_,Y,.inl ⟨Y,_,jw.of hq⟩,Y,_,Y,Y,_,Y,?_⟩;have tl:(u.map V.str).length<sizeLine:=YA (by rw[lm,<-pairs_len pl,aB,eG];omega);have er:bS (i+1) 1=bS i 1++[1]:=List.replicate_succ';have go:∀{N:Hp}{l:U},rO 1 l->f' H2 N->∃(aa:G)(xs:List V)(x:V),V.ref t=.ref aa/\[V.str l]=[x]/\N aa=O (.lst xs)/\xs.length<sizeLine/\(f' H (upd N aa (.lst (xs++[x])))/\(∃u:List U,upd N aa (.lst (xs++[x])) t=O (.lst (u.map V.str))/\bX rO (0::bS (i+1) 1) u)/\∃o':Nat->Option V,([O (V.ref p),O (V.ref t),o 2,o 3,o 4,o 5,o 6].set 2 (O (V.str nm))).set 3 (O (Jd rm))=[O (.ref p),O (.ref t),o' 2,o' 3,o' 4,o' 5,o' 6]):=λ{N l}hl s6=>by obtain⟨a1,a2⟩:=app pl hl (S2.trans s6);rw[er,<-da];exact⟨t,_,_,Y,Y,s6 _ _ hq,tl,a1,a2,tQ Y⟩
  cases rm with
 |none=>refine kq ?_;refine⟨_,Y,zl,λq1 aP=>?_⟩;dsimp only[mq];obtain⟨f1,f2⟩:=a0 (j:=1) (z:="home") (r:=[nm]) D zC (λw hw=>by rw[aL.mp hw];exact aC) (by show 1<=6;decide);exact⟨SP,q1,_,az,Y,jw.of Zc,f1,go f2 (Zh (f'.refl _) aP)⟩
 |some i'=>
   obtain⟨h0,h1⟩:=room i' Y;refine kv ?_;refine⟨_,Y,_,Y,?_⟩;dsimp only[mq];refine .inl ⟨i',Y,dA (gT _) zD,?_⟩;refine⟨zl,λq1 aP=>?_⟩;obtain⟨f1,f2⟩:=a0 (j:=1) (z:="place") (r:=[nm,(toString i':String)]) D zC (λw hw=>by
    simp only[ay,a8,or_false]at hw;rcases hw with rfl|rfl
    .exact aC
    .exact RE h0 h1) (by show 2<=6;decide);exact⟨SP,q1,_,az,Y,jw.of Zc,f1,go f2 (Zh (f'.refl _) aP)⟩
 obtain⟨S2,⟨u,hq,pl⟩,o,rfl⟩:=q;refine bb _ _ ?_;clear bb;have part:∀m,m<3->∃a,([V.int W.n,.ref l1,.ref l2,.ref l3,.ref l4]:List V)[m+2]?=O (.ref a)/\Yr b H a (RW W m)/\([V.str "ride",V.str "way",V.str "group"]:List V)[m]?=O (.str (hJ (m+2)))/\hJ (m+2)∈mh (m+2):=λm hm=>by
  rcases(by omega:m=0\/m=1\/m=2)with rfl|rfl|rfl
  .exact⟨l2,Y,wa.rd,Y,zC⟩
  .exact⟨l3,Y,wa.wy,Y,zC⟩
  .exact⟨l4,Y,wa.gr,Y,zC⟩
 have wt:∀m,m<3->_:=λm hm=>Ob g sg hm;refine tq λD2 b4=>?_;refine⟨zl,λX M=>?_⟩;generalize cj:([V.str "ride",V.str "way",V.str "group"]:List V)=W3 at part;have hW:W3.length=3:=by rw[<-cj];rfl
 have S3:=Zh (o:=.lst W3) (f'.refl d) M;have e3:upd d X (.lst W3) X=O (.lst W3):=Zc;have bT:X≠t:=λz=>by rw[z,hq]at M;cases M
 have cI:H X=B:=by
  cases e:H X with
 |none=>rfl
 |some o=>rw[S2 _ _ e]at M;cases M
 clear M;generalize upd d X (.lst W3)=H3 at S3 e3 ⊢;refine⟨X,W3,Y,e3,?_⟩;refine Xy (zA:=LY X) 3 (λi F d=>f' H d/\d X=O (.lst W3)/\(∃u:List U,d t=O (.lst (u.map V.str))/\bX rO (vm W.ps.length (RW W) i) u)/\∃o:Nat->Option V,F=[O (.ref p),O (.ref t),o 2,o 3,o 4,o 5,o 6]) ?_ (λi F d I q=>?_) (λF d q=>?_) (λi F d x H4 I q yl=>?_) (λF d q=>?_)
 .exact⟨S2.trans S3,e3,⟨u,S3 _ _ hq,by unfold vm;rw[List.range_zero,List.flatMap_nil,bj];exact pl⟩,o,Y⟩
 .exact⟨W3,q.2.1,by rw[hW];exact I⟩
 .exact⟨W3,q.2.1,hW.symm⟩
 .obtain⟨S4,ew,⟨ms,hm,pm⟩,o',rfl⟩:=q;obtain⟨Tt,cP,y,hT,ab,hy,rfl,rfl⟩:=yl;rw[ew]at ab;cases ab;obtain⟨a,ha,ra,hz,hh⟩:=part i I;rw[hz]at hy;cases hy;obtain⟨wl,wr⟩:=wt i I;have S5:=Zh (o:=.tup [.int (i:Nat),.str (hJ (i+2))]) (f'.refl d) hT;have e5:upd d Tt (.tup [.int (i:Nat),.str (hJ (i+2))]) Tt=O (.tup [.int (i:Nat),.str (hJ (i+2))]):=Zc;clear hT;generalize upd d Tt (.tup [.int (i:Nat),.str (hJ (i+2))])=H5 at S5 e5 ⊢;refine⟨Tt,_,Y,lR.of e5,Y,_,_,Y,_,_,Y,Y,?_⟩;obtain⟨cK,as,ah,cf,b8⟩:=ra;have a5:=S4.trans S5;have cc:(((i:Nat):Int)+2)=((i+2:Nat):Int):=rfl;refine⟨_,Y,_,Y,_,_,Y,Y,p,_,_,_,Y,Y,jw.of (a5 _ _ wa.at_),XN (j:=i+2) cc ha,a,Y,⟨_,jw.of (a5 _ _ ah)⟩,?_⟩;refine Xy (zA:=qA K a) (RW W i).length (λm F d=>f' H d/\d X=O (.lst W3)/\(∃u:List U,d t=O (.lst (u.map V.str))/\bX rO (vm W.ps.length (RW W) i++bS m (i+2)) u)/\∃o:Nat->Option V,F=[O (.ref p),O (.ref t),o 2,o 3,o 4,O (.str (hJ (i+2))),o 6]) ?_ (λm F d I q=>?_) (λF d q=>?_) (λm F d x N I q yl=>?_) (λF d q=>?_)
  .exact⟨a5,S5 _ _ ew,⟨ms,S5 _ _ hm,by rw[List.replicate_zero,bj];exact pm⟩,tQ Y⟩
  .exact⟨_,V.ref (as[m]' zD),jw.of (q.1 _ _ ah),by rw[aT,gE zD];rfl⟩
  .exact⟨_,jw.of (q.1 _ _ ah),by rw[lm,cf];exact aq _⟩
  .obtain⟨S6,a3,⟨ns,hn,pn⟩,o6,rfl⟩:=q;obtain⟨rfl,hx⟩:=yl;have hx:=hx _ (jw.of (S6 _ _ ah));rw[aT,gE zD]at hx;cases hx;obtain⟨_,ht⟩:=b8 m (as[m]' zD) (RW W i)[m] (gE zD) (gE I);obtain⟨aM,aF⟩:=wr _ (bo I);generalize as[m]' zD=ar at ht;generalize (RW W i)[m]=row at ht aM aF;have ht:=S6 _ _ ht;refine⟨_,Y,.inl ⟨Y,_,jw.of hn⟩,Y,_,Y,zl,λc1 b7=>?_⟩;dsimp only;refine nZ b7 λH7 S7 e7=>?_;have t7:=S7 _ _ ht;refine⟨_,Y,ar,Y,⟨_,lR.of t7⟩,?_⟩;have one:∀(y:V),Wt y->∀{d:Hp}{zv:V->Hp->Prop},zv (.str (txt y)) d->(∃i,[y]=[V.int i]/\i.natAbs.log2<1920/\zv (V.str (bh (toString i))) d)\/∃z,[y]=[V.str z]/\zv (V.str z) d:=λy hy d zv h=>by
    rcases hy with⟨z,rfl,_⟩|⟨i,rfl,h0,h1⟩
    .exact .inr ⟨z,Y,h⟩
    .exact .inl ⟨i,Y,dA (gT _) zD,h⟩
   refine ZX (zA:=x5 K ar) row.length (aj aM D) (λi L τ d=>d=H7/\L=(row.take i).map (λy=>V.str (txt y))/\∃v,τ=[v]) ⟨Y,Y,B,Y⟩ (λi L τ d q=>by rw[q.2.1,lm,aY];omega) (λi L τ d I q=>?_) (λL τ d q=>?_) (λi L τ d x H2 I q yl=>?_) (λL τ d q c2 b6=>?_)
   .obtain⟨rfl,_⟩:=q;exact⟨_,row[i],lR.of t7,gE _⟩
   .obtain⟨rfl,_⟩:=q;exact⟨_,lR.of t7,aq _⟩
   .obtain⟨rfl,rfl,v,rfl⟩:=q;obtain⟨rfl,ab⟩:=yl;have hx:=ab _ (lR.of t7);rw[gE I]at hx;cases hx;refine⟨_,Y,?_⟩;dsimp only[mq];exact one _ (aF _ (bo I)) (zv:=λy H4=>H4=H2/\((row.take i).map λy=>V.str (txt y))++[y]=(row.take (i+1)).map (λy=>V.str (txt y))/\∃bM,[v].set 0 (O row[i])=[bM]) ⟨Y,by rw[cq,gE I,aA];rfl,_,Y⟩
   obtain⟨rfl,rfl,v,rfl⟩:=q;rw[cg];have S8:=Zh (o:=.lst (row.map λy=>V.str (txt y))) (f'.refl d) b6;have e8:upd d c2 (.lst (row.map λy=>V.str (txt y))) c2=O (.lst (row.map λy=>V.str (txt y))):=Zc;generalize upd d c2 (.lst (row.map λy=>V.str (txt y)))=H8 at S8 e8 ⊢;refine⟨c1,c2,_,_,Y,Y,S8 _ _ e7,e8,aj (by rw[lm];show 1+row.length<=7;omega) D,λc3 b5=>?_⟩;have S9:=Zh (o:=.lst ([V.str (hJ (i+2))]++row.map λy=>V.str (txt y))) (f'.refl H8) b5;have e9:upd H8 c3 (.lst ([V.str (hJ (i+2))]++row.map λy=>V.str (txt y))) c3=O (.lst ((hJ (i+2)::row.map txt).map V.str)):=by rw[Zc,aH,cY];rfl
   generalize upd H8 c3 (.lst ([V.str (hJ (i+2))]++row.map λy=>V.str (txt y)))=H9 at S9 e9 ⊢;obtain⟨f1,f2⟩:=a0 (j:=i+2) (z:=hJ (i+2)) (r:=row.map txt) zD hh (λw hw=>by obtain⟨v,hv,rfl⟩:=aG.mp hw;exact(aF v hv).aw) (by rw[lm];exact aM);have a4:=(S7.trans S8).trans S9;have h9:=a4 _ _ hn;obtain⟨a1,a2⟩:=app pn f2 (S6.trans a4);refine⟨SP,c3,_,az,Y,jw.of e9,f1,t,_,_,Y,Y,h9,?_,a1,?_,?_,tQ Y⟩
   .refine YA ?_;have:=pairs_len pn;rw[lm,<-this,aD,eG];have h3:(vm W.ps.length (RW W) i).length<=7+i*12:=by
     unfold vm;rw[aD,aB,eG,List.length_flatMap];have:((bB i).map λm=>(bS (RW W m).length (m+2)).length).sum<=((bB i).map λm=>(bS (RW W m).length (m+2)).length).length*12:=Jn λx hx=>by obtain⟨m,hm,rfl⟩:=aG.mp hx;rw[eG];exact(wt m (by have:=bW.mp hm;omega)).1
     rw[lm,bZ]at this;omega
    have:(RW W i).length<=12:=wl;omega
   .rw[Zk bT];exact a4 _ _ a3
   .have er:bS (m+1) (i+2)=bS m (i+2)++[i+2]:=List.replicate_succ';rw[er,<-bu];exact a2
  .obtain⟨S6,a3,⟨ns,hn,pn⟩,o6,rfl⟩:=q;exact⟨S6,a3,⟨ns,hn,by rw[ON];exact pn⟩,tQ Y⟩
 obtain⟨S4,ew,⟨ms,hm,pm⟩,o',rfl⟩:=q;refine b4 _ _ ?_;obtain⟨z1,z2⟩:=FR b3 (λm hm=>(wt m hm).1) pm;exact⟨_,Y,k d t ms S4 b0 hm z1 z2⟩
noncomputable def nS(k:Nat):U:=(toString (k:Int):String)
noncomputable def qN(k:Nat):U:="q"++nS k
noncomputable def xN(w k:Nat):U:=if w=3 then"x"++nS k++"." else"x"++nS k
noncomputable def r9(k:Nat):List V:=[.str (qN k),if k % 2=0 then .int 1 else .non]
noncomputable def pG(w k:Nat):List V:=if w=1 then[.str (xN w k),.str "q0",.int 0,.str "q1",.int 1,.int 1]else if w=2 then[.str (xN w k),.str "q0",.str "q1",.int 1,.int 1]else[.str (xN w k),.str "q0",.int 0,.int 1]
noncomputable def vN(k:Nat):List U:=if k % 2=0 then["place",qN k,"1"]else["home",qN k]
noncomputable def vG(w k:Nat):List U:=if w=1 then["ride",xN w k,"q0","0","q1","1","1"]else if w=2 then["way",xN w k,"q0","q1","1","1"]else["group",xN w k,"q0","0","1"]
noncomputable def tT(k:Nat):U:=Txt.join SP (vN k)
noncomputable def rL(w k:Nat):U:=Txt.join SP (vG w k)
noncomputable def qi(w:Nat):U:=if w=0 then"place zz 3" else if w=1 then"ride zz q0 0 q1 1 1" else if w=2 then"way zz q0 q1 1 1" else"group zz q0 0 0"
noncomputable def nP(w:Nat):Nat:=if w=0 then 14 else 4
noncomputable def nX(w:Nat):Nat:=if w=0 then 0 else l_ (w+1)
noncomputable def bl(w:Nat):List U:=(bB (nP w)).map tT++(bB (nX w)).map (rL w)
noncomputable def Pw(w:Nat):List (List V):=(bB (nP w)).map r9
noncomputable def Xw(w:Nat):List (List V):=(bB (nX w)).map (pG w)
noncomputable def EL(w:Nat):List Ent:=(Pw w).map (λy=>((1,y):Ent))++(Xw w).map (λy=>((w+1,y):Ent))
def BM:∀k:Nat,k<14->(mP (vN k)=O (r9 k)/\jW ((vN k).headD "")=1/\(vN k).headD ""∈mh 1)/\(∀w∈vN k,AW w):=by decide +kernel
def xw1:∀k:Nat,k<80->mP (vG 1 k)=O (pG 1 k)/\∀w∈vG 1 k,AW w:=by decide +kernel
def xw2:∀k:Nat,k<40->mP (vG 2 k)=O (pG 2 k)/\∀w∈vG 2 k,AW w:=by decide +kernel
def xw3:∀k:Nat,k<300->mP (vG 3 k)=O (pG 3 k)/\∀w∈vG 3 k,AW w:=by decide +kernel
def IM{w k:Nat}(b:1<=w)(a:w<=3)(hk:k<nX w):mP (vG w k)=O (pG w k)/\∀z∈vG w k,AW z:=by
 rcases(by omega:w=1\/w=2\/w=3)with rfl|rfl|rfl
 .exact xw1 k hk
 .exact xw2 k hk
 .exact xw3 k hk
def TF{z:U}{r:List U}{b:List V}(c:∀w∈z::r,AW w)(h:mP (z::r)=O b):Ye (Txt.join SP (z::r))=O (jW z,b):=by unfold Ye;rw[show Txt.split (Txt.join SP (z::r)) SP=z::r from YG zE λw a d=>((c w a).1 32 d).2.1 Y,h];rfl
structure yI(j:Nat)(l:U)(ys:List V):Prop where
 e:Ye l=O (j,ys)
 b:rO j l
def Iz{k:Nat}(hk:k<14):yI 1 (tT k) (r9 k):=by
 obtain⟨⟨b,a,f⟩,d⟩:=BM k hk;unfold tT;cases c:vN k with
|nil=>rw[c]at b;cases b
|cons z r=>
  rw[c]at b a f d;have a:jW z=1:=a;refine⟨by rw[TF d b,a],z,r,Y,f,d,?_,D⟩;have:(vN k).length<=3:=by unfold vN;split<;>exact eI Y
  rw[c,aB]at this;omega
def xh:∀w,1<=w->w<=3->jW (hJ (w+1))=w+1/\hJ (w+1)∈mh (w+1):=by intro w b a;rcases(by omega:w=1\/w=2\/w=3)with rfl|rfl|rfl<;>decide +kernel
def IL{w:Nat}(b:1<=w)(a:w<=3)(k:Nat):∃r,vG w k=hJ (w+1)::r/\r.length<=6:=by rcases(by omega:w=1\/w=2\/w=3)with rfl|rfl|rfl<;>exact⟨_,Y,eI Y⟩
def Ie{w k:Nat}(c:1<=w)(b:w<=3)(hk:k<nX w):yI (w+1) (rL w k) (pG w k):=by obtain⟨d,a⟩:=IM c b hk;obtain⟨r,h,i⟩:=IL c b k;obtain⟨g,f⟩:=xh w c b;unfold rL;rw[h]at d a ⊢;exact⟨by rw[TF a d,g],_,r,Y,f,a,i,zD⟩
noncomputable def vZ(w:Nat):List V:=if w=0 then[.str "zz",.int 3]else if w=1 then[.str "zz",.str "q0",.int 0,.str "q1",.int 1,.int 1]else if w=2 then[.str "zz",.str "q0",.str "q1",.int 1,.int 1]else[.str "zz",.str "q0",.int 0,.int 0]
def RB:∀w,w<4->Ye (qi w)=O (w+1,vZ w)/\10∉cd (qi w)/\(qi w).length<=91:=by decide +kernel
def Wj:Ye "turns 3"=O (0,[.int 3])/\10∉cd ("turns 3":U)/\("turns 3":U).length<=91:=by decide +kernel
def QI:∀{a:List U}{L:List Ent},bX (λl e=>Ye l=O e) a L->kl a=L:=by
 intro a L h;induction h with
|nil=>rfl
|cons c _ b=>unfold kl;rw[c];dsimp only;rw[b]
def Pz{b d c:Type}{i:d->c->Prop}{f:b->d}{g:b->c}:∀{l:List b},(∀a∈l,i (f a) (g a))->bX i (l.map f) (l.map g):=by
 intro l;induction l with
|nil=>intro _;exact .nil
|cons a l j=>intro h;exact .cons (h a ax) (j λx n=>h x (au _ n))
def Aw{w:Nat}(a:w<=3):bX (λl(e:Ent)=>yI e.1 l e.2) (bl w) (EL w):=by
 unfold bl EL Pw Xw;rw[cY,cY];refine YW (Pz λk hk=>?_) (Pz λk hk=>?_)
 .refine Iz ?_;have:=bW.mp hk;unfold nP at this;split at this<;>omega
 .have:=bW.mp hk;have b:1<=w:=by
   unfold nX at this;split at this
   .omega
   .omega
  exact Ie b a this
def FJ{a b:Nat}(f:a<1001)(d:b<1001)(h:nS a=nS b):a=b:=by have c:=(Vj a f).1;have g:=(Vj b d).1;have h:((toString (a:Int):String):U)=(toString (b:Int):String):=h;rw[h,g]at c;have:=aJ c;omega
def BK{a b:Nat}(d:a<1001)(c:b<1001)(h:qN a=qN b):a=b:=FJ d c (Xa (by have:=zM cd h;unfold qN at this;rw[ZL,ZL]at this;exact ip this))
def IP{w a b:Nat}(d:a<1001)(c:b<1001)(h:xN w a=xN w b):a=b:=FJ d c (Xa (by
 have:=zM cd h;unfold xN at this;split at this
 .rw[ZL,ZL,ZL,ZL]at this;exact ip (List.append_cancel_right this)
 .rw[ZL,ZL]at this;exact ip this))
def FI{f:Nat->U}{n:Nat}(h:∀a b,a<n->b<n->f a=f b->a=b):((bB n).map f).Nodup:=by show List.Pairwise _ _;rw[List.pairwise_map];exact List.Pairwise.imp_of_mem (λ{a b}i g c d=>c (h a b (bW.mp i) (bW.mp g) d)) lH
def AG(w k:Nat):Zl (pG w k)=xN w k:=by unfold pG;split<;>(try split)<;>rfl
def yI.ok{j:Nat} (h:yI j l a)(d:j≠0):mZ j a/\∀y∈a,YI y:=by have c:l.length<=1000:=aj h.b.e.len D;have:=NR (ls:=[l]) (e:=(j,a)) (by unfold kl;rw[h.e];exact ax);exact⟨this.2 d,TH c h.e⟩
def Iy{w:Nat}:ou 1 3 (Pw w) (Pw w):=by
 have hk:∀k∈bB (nP w),k<14:=λk hk=>by have:=bW.mp hk;unfold nP at this;split at this<;>omega
 refine⟨?_,λy g=>?_,λh=>(by cases h)⟩
 .unfold Pw;rw[cY];exact FI λa b j i h=>BK (by have:=hk a (bW.mpr j);omega) (by have:=hk b (bW.mpr i);omega) h
 .unfold Pw at g;obtain⟨k,d,rfl⟩:=aG.mp g;obtain⟨p,f⟩:=(Iz (hk k d)).ok D;refine(Az (k1:=[]) (nms:=[]) (pp:=0) (.inl Y) p f (λh=>zI Y h) ?_).1;unfold pI r9;rw[zG zE,zH Y];refine zG λq=>?_;have c:=q.2;unfold at_ at c;simp only[List.getD_cons_succ,List.getD_cons_zero]at c;split at c
  .exact zI c D
  .exact zI c D
def Fi{w:Nat}:mj (uU (Pw w)) (Pw w):=Pq Iy.nd
def π(w:Nat):j2 (uU (Pw w)) (.inr "q0")=O (.int 1)/\j2 (uU (Pw w)) (.inr "q1")=O .non:=by
 have a:0<nP w/\1<nP w:=by unfold nP;split<;>decide
 have f:r9 0∈Pw w:=aG.mpr ⟨0,bW.mpr a.1,Y⟩;have d:r9 1∈Pw w:=aG.mpr ⟨1,bW.mpr a.2,Y⟩;have c:=Fi.has _ f;have b:=Fi.has _ d;rw[show Zl (r9 0)="q0" by decide +kernel]at c;rw[show Zl (r9 1)="q1" by decide +kernel]at b;exact⟨c,b⟩
def ZaR(w:Nat):mu (uU (Pw w)) "q0" "q1"="":=by obtain⟨a,b⟩:=π w;unfold mu;rw[a,b,zG D,zG D,zG (λq=>by cases q),zG zC]
def zg{w:Nat}(f:1<=w)(d:w<=3)(k:Nat):pI (w+1) (uU (Pw w)) 3 [] 0 (pG w k)="":=by
 obtain⟨a,b⟩:=π w;have c:=ZaR w;unfold pI;rw[zG zE,zG zD];rcases(by omega:w=1\/w=2\/w=3)with rfl|rfl|rfl
 .rw[zG D];have e:mu (uU (Pw 1)) (sv (at_ (pG 1 k) 1)) (sv (at_ (pG 1 k) (if 1+1=3 then 2 else 3)))="":=c;rw[zG (λq=>q e)];rfl
 .rw[zG D];have e:mu (uU (Pw 2)) (sv (at_ (pG 2 k) 1)) (sv (at_ (pG 2 k) (if 2+1=3 then 2 else 3)))="":=c;rw[zG (λq=>q e)];rfl
 .rw[zH Y];have e:(j2 (uU (Pw 3)) (.inr (sv (at_ (pG 3 k) 1)))).isSome=true:=by show(j2 (uU (Pw 3)) (.inr "q0")).isSome=true;rw[a];rfl
  rw[zG (by rw[e];decide)];rfl
def FD(w:Nat):nX w<=300:=by
 unfold nX;split
 .decide
 .unfold l_;split<;>decide
def FN(k:Nat):(((bB k).map (pG 3)).map ZH).sum=(k:Int):=by
 induction k with
|zero=>rfl
|succ k a=>rw[dR,aA,aA,iY,a];show(k:Int)+(1+0)=_;omega
def Zak{w:Nat}(g:1<=w)(d:w<=3):ou (w+1) 3 (Pw w) (Xw w):=by
 refine⟨?_,λy c=>?_,λh=>?_⟩
 .unfold Xw;rw[cY];have:(Zl ∘ pG w)=xN w:=funext λk=>AG w k;rw[this];exact FI λa b j i h=>IP (by have:=FD w;omega) (by have:=FD w;omega) h
 .unfold Xw at c;obtain⟨k,hk,rfl⟩:=aG.mp c;obtain⟨p,f⟩:=(Ie g d (bW.mp hk)).ok zD;exact(Az (k1:=uU (Pw w)) (nms:=[]) (pp:=0) (by unfold isJ;omega) p f (λ_=>Fi) (zg g d k)).1
 .have:w=3:=by omega
  subst this;unfold Xw;rw[FN];decide
def UD{w:Nat}(d:w<=3){j:Nat}(f:isJ j):sel j (EL w)=if j=1 then Pw w else if j=w+1 then Xw w else[]:=by
 unfold EL;rw[YS,V2,V2];by_cases b:j=1
 .rw[zH b.symm,zH b];by_cases c:w=0
  .subst c;rw[show Xw 0=[]from rfl];simp
  .rw[zG zD,bj]
 .rw[zG (λq=>b q.symm),zG b,fO];by_cases a:j=w+1
  .rw[zH a.symm,zH a]
  .rw[zG (λq=>a q.symm),zG a]
def LL{w:Nat}(c:w<=3){j:Nat}(f:isJ j):Y3 j 3 (sel 1 (EL w)) (sel j (EL w)):=by
 rw[UD c (.inl Y),UD c f,zH Y];have d:(Pw w).length<=14:=by unfold Pw nP;rw[lm,bZ];split<;>decide
 by_cases b:j=1
 .rw[zH b];subst b;exact⟨d,Iy⟩
 rw[zG b];by_cases a:j=w+1
 .rw[zH a];subst a;refine⟨?_,Zak zD c⟩;unfold Xw nX;rw[lm,bZ,zG zD];exact aq _
 .rw[zG a];exact⟨bK _,iz,λ_ h=>(by cases h),λ_=>by simp⟩
noncomputable def fu(w i:Nat):List U:=(bl w).take i++([("turns 3":U)]++(bl w).drop i)
noncomputable def FE(w i:Nat):List Ent:=(EL w).take i++([((0,[.int 3]):Ent)]++(EL w).drop i)
def WO{f d:Type}{c:f->d->Prop}{a:List f}{b:List d}(h:bX c a b)(i:Nat):bX c (a.take i) (b.take i)/\bX c (a.drop i) (b.drop i):=by
 induction h generalizing i with
|nil=>rw[List.take_nil,List.take_nil,List.drop_nil,List.drop_nil];exact⟨.nil,.nil⟩
|cons r t g=>
  cases i with
 |zero=>exact⟨.nil,.cons r t⟩
 |succ i=>exact⟨.cons r (g i).1,(g i).2⟩
def P7{w:Nat}(b:w<=3)(i:Nat):bX (λl(e:Ent)=>Ye l=O e) (fu w i) (FE w i):=by obtain⟨f,d⟩:=WO (Aw b) i;exact YW (zv:=λl(e:Ent)=>Ye l=O e) (Paired.nQ f λ_ _ z=>z.e) (YW (zv:=λl(e:Ent)=>Ye l=O e) (a:=[("turns 3":U)]) (c:=[((0,[.int 3]):Ent)]) (.cons Wj.1 .nil) (Paired.nQ d λ_ _ z=>z.e))
def HE{w:Nat}(f:w<=3)(i:Nat):∀l∈fu w i,10∉cd l/\l.length<=91:=λl a=>by
 have c:∀l∈bl w,10∉cd l/\l.length<=91:=λl a=>by
  obtain⟨n,g⟩:=cD.mp a;have d:n<(EL w).length:=by rw[<-pairs_len (Aw f)];exact(aU.mp g).1
  have:=(Yt (Aw f) g (gE d)).b.e;exact⟨cZ.mp (Nat.le_zero.mp this.ct),this.len⟩
 unfold fu at a;simp only[ba,aL]at a;rcases a with h|rfl|h
 .exact c l (du h)
 .exact Wj.2
 .exact c l (eR h)
def Av{w:Nat}(a:w<=3):(bl w).length<=304:=by unfold bl;rw[aD,lm,lm,bZ,bZ];rcases(by omega:w=0\/w=1\/w=2\/w=3)with rfl|rfl|rfl|rfl<;>decide
def HF(w i:Nat):(fu w i).length=(bl w).length+1:=by unfold fu;rw[aD,aD,aY,cL];show _+(1+_)=_;omega
def XJ{w:Nat}{j:Nat}(a:j≠0)(i:Nat):sel j (FE w i)=sel j (EL w):=by unfold FE;rw[YS,YS,JD,zG (λq=>a q.symm),fO,<-YS,fC]
def II{w:Nat}:∀e∈EL w,e.1≠0:=λe a=>by
 unfold EL at a;rcases ba.mp a with h|h
 .obtain⟨y,_,rfl⟩:=aG.mp h;exact λq=>by cases q
 .obtain⟨y,_,rfl⟩:=aG.mp h;exact λq=>by cases q
def SE{j:Nat}{L:List Ent}(h:∀e∈L,e.1≠j):sel j L=[]:=by unfold sel;rw[jP.mpr λe a q=>h e a (zL q)];rfl
def RJ(w i:Nat):sel 0 (FE w i)=[[.int 3]]:=by unfold FE;rw[YS,YS,JD,zH Y,SE λe a=>II e (du a),SE λe a=>II e (eR a)];rfl
def Qb{w:Nat}(a:w<=3):(sel (w+1) (EL w)).length=l_ (w+1):=by
 rw[UD a (by unfold isJ;omega)];rcases(by omega:w=0\/w=1\/w=2\/w=3)with rfl|rfl|rfl|rfl
 .rw[zH Y];unfold Pw;rw[lm,bZ];rfl
 .rw[zG D,zH Y];unfold Xw;rw[lm,bZ];rfl
 .rw[zG D,zH Y];unfold Xw;rw[lm,bZ];rfl
 .rw[zG D,zH Y];unfold Xw;rw[lm,bZ];rfl
def HK{w:Nat}(a:w<=3):(sel 1 (EL w)).length+((sel 2 (EL w)).length+((sel 3 (EL w)).length+(sel 4 (EL w)).length))=(bl w).length:=by rw[UD a (.inl Y),UD a (.inr (.inl Y)),UD a (.inr (.inr (.inl Y))),UD a (.inr (.inr (.inr Y)))];unfold bl Pw Xw;rw[aD,lm,lm,bZ,bZ];rcases(by omega:w=0\/w=1\/w=2\/w=3)with rfl|rfl|rfl|rfl;all_goals simp[nX,nP]
def Oe{w:Nat}(b:w<=3)(i:Nat):q_ (fu w i) (.inr (uY 3 (FE w i))):=by
 have a:=QI (P7 b i);obtain⟨k,hk⟩:=Ph (RJ w i);have:=q_.good (ls:=fu w i) (k0:=k) (n:=3) (by rw[a];exact(pairs_len (P7 b i)).symm) (by rw[a];exact hk) (by
  rw[a];refine .good D D λj c=>?_;show Y3 j 3 (sel 1 (FE w i)) (sel j (FE w i));rw[XJ D,XJ (by rcases c with rfl|rfl|rfl|rfl<;>decide)]
  exact LL b c)
 rw[a]at this;exact this
def AY(j:Nat):∀(L:List Ent)(i:Nat),lW j (i+1) L=(lW j i L).map λp=>(p.1+1,p.2):=by
 intro L;induction L with
|nil=>intro i;rfl
|cons e L a=>
  intro i;unfold lW;split
  .rw[aH,a]
  .rw[a]
def Ls{w:Nat}(d:w<=3) (b:bX (λl(e:Ent)=>Ye l=O e) c L)(h:sel 0 L=[[.int 3]])(hs:∀j,isJ j->j≠w+1->sel j L=sel j (EL w))(g:l_ (w+1)<(sel (w+1) L).length){m:Nat}{ys:List V}(f:(lW (w+1) 0 L)[l_ (w+1)]?=O (m,ys)):q_ c (.inl (m,"many")):=by
 have e:=QI b;obtain⟨k,hk⟩:=Ph h;refine q_.bad (k0:=k) (n:=3) (by rw[e];exact(pairs_len b).symm) (by rw[e];exact hk) (j:=w+1) (i:=l_ (w+1)) (ys:=ys) ?_ (by rw[e];exact f);rw[e];refine .many D D (by unfold isJ;omega) (λi a o=>?_) g;show Y3 i 3 (sel 1 L) (sel i L);rw[hs i a zD,hs 1 (.inl Y) (by rcases a with rfl|rfl|rfl|rfl<;>omega)]
 exact LL d a
def MF(j i:Nat)(L:List Ent):(lW j i L).length=(sel j L).length:=by rw[<-Gd j i L,lm]
def BG{w:Nat}(a:w<=3)(i:Nat):q_ (fu w i++[qi w]) (.inl ((fu w i).length,"many")):=by
 have c:=pairs_len (P7 a i);refine Ls a (L:=FE w i++[(w+1,vZ w)]) (YW (P7 a i) (.cons (RB w zD).1 .nil)) ?_ (λj d b=>?_) ?_ (ys:=vZ w) ?_
 .rw[YS,RJ,JD,zG zE];rfl
 .rw[YS,JD,zG (λq=>b q.symm),bj,XJ (by rcases d with rfl|rfl|rfl|rfl<;>decide)]
 .rw[YS,JD,zH Y,aD,XJ zD,Qb a];exact fv _
 .rw[Ge,zH Y,jh,fA (by rw[MF,XJ zD,Qb a];exact aq _),MF,XJ zD,Qb a,Nat.sub_self,c];rfl
def Ff{w:Nat}(a:w<=3)(i:Nat){m:Nat}{c:List V}(h:(lW (w+1) 0 (FE w i))[l_ (w+1)-1]?=O (m,c)):q_ (qi w::fu w i) (.inl (m+1,"many")):=by
 have g:1<=l_ (w+1):=by rcases(by omega:w=0\/w=1\/w=2\/w=3)with rfl|rfl|rfl|rfl<;>decide
 refine Ls a (L:=(w+1,vZ w)::FE w i) (.cons (RB w zD).1 (P7 a i)) ?_ (λj f b=>?_) ?_ (ys:=c) ?_
 .rw[XZ,zG zE,RJ];rfl
 .rw[XZ,zG (λq=>b q.symm),fO,XJ (by rcases f with rfl|rfl|rfl|rfl<;>decide)]
 .rw[XZ,zH Y,aD,XJ zD,Qb a];show _<1+_;omega
 .unfold lW;rw[zH Y,AY];obtain⟨q,d⟩:∃q,l_ (w+1)=q+1:=⟨l_ (w+1)-1,zD⟩;rw[d]at h ⊢;rw[List.getElem?_cons_succ,aT];rw[show q+1-1=q from rfl]at h;rw[h];rfl
def Oq{k:Nat}(h:k % 2=0):("place q"++nS k++" 1":U)=tT k:=by unfold tT vN;rw[zH h];refine Xa ?_;rw[show cd (Txt.join SP ["place",qN k,"1"])=_ from XM 32 _,ZL,ZL,show cd ("place q":U)=cd "place"++32::cd "q" by decide +kernel,show cd (" 1":U)=32::cd "1" by decide +kernel];show _=cd "place"++32::(cd (qN k)++32::cd "1");unfold qN;rw[ZL];simp only[bu,da]
def BO{k:Nat}(h:¬k % 2=0):("home q"++nS k:U)=tT k:=by unfold tT vN;rw[zG h];refine Xa ?_;rw[show cd (Txt.join SP ["home",qN k])=_ from XM 32 _,ZL,show cd ("home q":U)=cd "home"++32::cd "q" by decide +kernel];show _=cd "home"++32::cd (qN k);unfold qN;rw[ZL];simp only[bu,da]
def y'(k:Nat):("ride "++("x"++nS k)++" q0 0 q1 1 1":U)=rL 1 k:=by refine Xa ?_;rw[show cd (rL 1 k)=_ from XM 32 _,ZL,ZL,ZL,show cd ("ride ":U)=cd "ride"++[32] by decide +kernel,show cd (" q0 0 q1 1 1":U)=32::(cd "q0"++32::(cd "0"++32::(cd "q1"++32::(cd "1"++32::cd "1")))) by decide +kernel];show _=cd "ride"++32::(cd (xN 1 k)++32::(cd "q0"++32::(cd "0"++32::(cd "q1"++32::(cd "1"++32::cd "1")))));rw[show xN 1 k="x"++nS k from rfl,ZL];simp only[bu,da,fO]
def y_(k:Nat):("way "++("x"++nS k)++" q0 q1 1 1":U)=rL 2 k:=by refine Xa ?_;rw[show cd (rL 2 k)=_ from XM 32 _,ZL,ZL,ZL,show cd ("way ":U)=cd "way"++[32] by decide +kernel,show cd (" q0 q1 1 1":U)=32::(cd "q0"++32::(cd "q1"++32::(cd "1"++32::cd "1"))) by decide +kernel];show _=cd "way"++32::(cd (xN 2 k)++32::(cd "q0"++32::(cd "q1"++32::(cd "1"++32::cd "1"))));rw[show xN 2 k="x"++nS k from rfl,ZL];simp only[bu,da,fO]
def yZ(k:Nat):("group "++("x"++nS k)++". q0 0 1":U)=rL 3 k:=by refine Xa ?_;rw[show cd (rL 3 k)=_ from XM 32 _,ZL,ZL,ZL,show cd ("group ":U)=cd "group"++[32] by decide +kernel,show cd (". q0 0 1":U)=cd "."++32::(cd "q0"++32::(cd "0"++32::cd "1")) by decide +kernel];show _=cd "group"++32::(cd (xN 3 k)++32::(cd "q0"++32::(cd "0"++32::cd "1")));rw[show xN 3 k="x"++nS k++"." from rfl,ZL,ZL];simp only[bu,da,fO]
def ym{c:G}{H:Hp}{o o':HO}{d:Type}{q:d}{a:Hp->d->Prop}(e:o=o')(h:H c=B)(k:∀b,f' H b->b c=O o'->a b q):a (upd H c o) q:=nlE (zr:=λH=>a H q) e h k
def EU:Sp:=λd H Q _=>∃(b:G),d=[.ref b]/\ZJ H b/\∀a q c w i,ZJ a b->Zr b H a->w<=3->q≠b->c≠b->a q=O (.lst [.ref c,.str (qi w)])->a c=O (.lst ((fu w i).map V.str))->Q (.ref q) a
def YE:ia [ky,uT,"_law_most",oG,qw,pF,"_law_some",qv,rk] [ky] (Ze T.og):=nc
noncomputable def JN:dh:=pL [(".0",.local),(oG,.local),("str",.globalImplicit)]
def Nb:i4 JN (Ze T.og):=⟨Y,zC,zC,zC⟩
def Nd:([oG]:List U).Nodup:=by decide +kernel
def Nc:i3 [ky,uT,"_law_most",oG,qw,pF,"_law_some",qv,rk] JN [oG] [B]:=.mk' zC
def An(u:∀x∈mE,J x=B)(CT:l8 P w K J S 1 rl [ky,pP] Z7)(zB:Df K J "_law_full" T.og [ky]):l8 P w K J S 2 "_law_full" [ky] EU:=by
 refine zB.cn YE λf cR A cK s H vs Q E hr h=>?_;obtain⟨b,rfl,hb,k⟩:=h;refine' ⟨_,(Zb (st 1 YE.nd (cn CT hr (o7 (R 0) Zd))) (Zb ?b3 (Zb ?b2 (Zb ?b1 (Zb ?b0 (Zb ?bT (Zi ?bM))))))),?rd⟩;case' bM=>refine' (Zn ?b4)
 case' bT=>refine' (st 8 YE.nd (il K (Zw (Za Zf (qX Zf Zf Zf))) (R 1)))
 case' b0=>refine' (st 7 YE.nd (cn CT hr (o7 (R 0) ?b7)))
 case' b1=>refine' (Y9 dH Y (YB Y (bm u) (me ?h6)) (mH 3 YE.nd) (Zb ?cf (Zb ?cc (Zi ?b8))))
 case' b2=>refine' (YZ (i:=4) YE.nd Y (dD Y) (scope:=JN) (N:=[oG]) (cp:=[B]) Y Nb Nc (YB Y (bm u) (me ?h4)) (λC s H ex pn=>(mH 0 Nd)) (λC s H ex pn=>ZW) (λC s H ex pn=>(il K (Zw (Za (Zv ZS (Zv ZS Zf (ZE Vr Y (bm u) JQ (Za (R 0) Zg))) Zf) (Za (Zv ZS Zf (ZE Vr Y (bm u) JQ (Za (R 0) Zg))) Zg))) (Zv Jq (R 0) Zd))))
 case' b3=>refine' (st 2 YE.nd (il K (Zw (Za Zd (qX Zd Zd Zd))) (R 1)))
 case' b4=>refine' (Zw (o7 ?b5 (R 8)))
 case' b5=>refine' (Zv Yq ?b6 (ZG (r:=ny K) Z0 (R 4) (ZP (R 7)) ZQ))
 case' b6=>refine' (Zv Yq (ZG (r:=ny K) Z0 (R 4) ZQ (ZP (R 7))) (Zw (me Zf)))
 case' b7=>refine' (Zv Z3 (Zz (r:=nJ K) ZO Y (bm u) bt (me (R 4))) Zd)
 case' b8=>refine' (Yc (YR bD cA cz Y6 (R 4) (me (il K (R 6) (R 1)))))
 case' cc=>refine' (st 6 YE.nd ?cj)
 case' cf=>refine' (st 5 YE.nd ?F)
 case' cj=>refine' (Zw (Za Zf (qX (Zv ZS (Zv ZS Zf (R 5)) Zf) (Zv ZS (Zv ZS Zf (R 5)) Zf) (Zv ZS (Zv ZS Zf (R 5)) Zf))))
 case' F=>refine' (Zv ZS Zf (ZE Vr Y (bm u) JQ (me (R 3))))
 case' h6=>refine' (il K (Zw (o7 Zd (R 2))) (ZE Yj Y (bm u) Y2 (me (Z5 JW (R 1) Zd (Zu _)))))
 case' h4=>refine' (il K (Zw (o7 Zd Zd)) (ZE Yj Y (bm u) Y2 (me (Z5 Ym (R 1) Zd (Zu _)))))
 case' rd=>
 refine qB hb (λr H1 h0 h1 B1 S1=>?_);have l:r=(r.toNat:Int):=(d7 h0).symm;generalize r.toNat=a at l;subst l;have hw:a<=3:=by omega
 clear h0 h1;refine⟨zl,λq1 a3=>?_⟩;have S2:=Zh (o:=.lst [.int 14,.int 80,.int 40,.int 300]) (f'.refl H1) a3;have e2:upd H1 q1 (.lst [.int 14,.int 80,.int 40,.int 300]) q1=O (.lst [.int 14,.int 80,.int 40,.int 300]):=Zc;dsimp only;generalize upd H1 q1 (.lst [.int 14,.int 80,.int 40,.int 300])=H2 at S2 e2 ⊢;have m4:oY [V.int 14,.int 80,.int 40,.int 300] (a:Int)=O (.int (l_ (a+1):Nat)):=by rcases(by omega:a=0\/a=1\/a=2\/a=3)with rfl|rfl|rfl|rfl<;>rfl
 refine⟨_,Y,q1,_,_,_,Y,Y,jw.of e2,m4,?_⟩;refine⟨zl,λq2 a0=>?_⟩;have S3:=Zh (o:=.lst [.int 4,.int 14]) (f'.refl H2) a0;have e3:upd H2 q2 (.lst [.int 4,.int 14]) q2=O (.lst [.int 4,.int 14]):=Zc;dsimp only;generalize upd H2 q2 (.lst [.int 4,.int 14])=H3 at S3 e3 ⊢;refine⟨_,Y,Y,.inr ⟨decide (V.int (a:Int)=V.int 0),Y,?_⟩⟩;have m2:oY [V.int 4,.int 14] (if decide (V.int (a:Int)=V.int 0)=true then 1 else 0)=O (.int (nP a:Nat)):=by rcases(by omega:a=0\/a=1\/a=2\/a=3)with rfl|rfl|rfl|rfl<;>rfl
 refine⟨q2,_,_,_,Y,Y,jw.of e3,m2,?_⟩;have hP:nP a<=14:=by unfold nP;split<;>decide
 refine⟨_,Y,zD,zD,?_⟩;rw[cw];have t:∀{x y:U},x.length<=100->y.length<=100->x.length+y.length<=sizeLine:=λh1 h2=>aj (Nat.add_le_add h1 h2) D;have al:∀(x y:U),(x++y).length=x.length+y.length:=λx y=>by have:=zM d8 (ZL x y);rw[aD]at this;exact this
 refine ZX (zA:=tJ 0 (nP a)) (nP a) (aj hP D) (λi M L d=>f' H3 d/\M=((bB i).map tT).map V.str/\∃v,L=[v]) ⟨f'.refl _,Y,B,Y⟩ (λi M L d q=>by rw[q.2.1];simp) (λi M L d I q=>I) (λM L d q=>aq _) (λi M L d x H4 I q yl=>?_) (λM L d q g n=>?_)
 .obtain⟨W,rfl,v,rfl⟩:=q;obtain⟨rfl,rfl⟩:=yl;rw[jj];have cN:i<14:=by omega
  have lg:((i:Nat):Int).natAbs.log2<1920:=dA (gT _) zD;have nl:(nS i).length<=12:=(Vj i zD).2.2.2;have nl:(nS i).length<=12:=(Vj i zD).2.2.2;have p7:("place q":U).length<=7/\(" 1":U).length<=7/\("home q":U).length<=7:=by decide +kernel
  refine⟨_,Y,_,Y,lg,_,_,Y,Y,t (y:=nS i) zD zD,_,_,Y,Y,t (x:="place q"++nS i) (by rw[al];omega) zD,?_⟩;refine⟨_,Y,_,Y,lg,_,_,Y,Y,t (y:=nS i) zD zD,zl,λq hq=>?_⟩;refine⟨_,Y,_,_,Y,Y,(by show(0:Int)<2;decide),q,_,_,.str (tT i),Y,Y,jw.of Zc,?_,W.trans (Zh (f'.refl _) hq),?_,_,Y⟩
  .by_cases h:i % 2=0
   .rw[show(((i:Nat):Int) % 2)=((0:Nat):Int) by omega,<-Oq h];exact Zy (j:=0) Y
   .rw[show(((i:Nat):Int) % 2)=((1:Nat):Int) by omega,<-BO h];exact Zy (j:=1) Y
  .rw[dR,aA,aA];rfl
 obtain⟨W,rfl,v,rfl⟩:=q;have B4:=((B1.same S2).same S3).same W;have aM:g≠b:=B4.ne n;have S5:=Zh (o:=.lst (((bB (nP a)).map tT).map V.str)) (f'.refl d) n;have e5:upd d g (.lst (((bB (nP a)).map tT).map V.str)) g=O (.lst (((bB (nP a)).map tT).map V.str)):=Zc;have bb:∀c o,H1 c=O o->c≠g:=λc o e z=>by rw[<-z,W _ _ (S3 _ _ (S2 _ _ e))]at n;cases n
 generalize upd d g (.lst (((bB (nP a)).map tT).map V.str))=H5 at S5 e5 ⊢;have B5:=B4.same S5;have cE:=((S2.trans S3).trans W).trans S5;clear S2 S3 W S5 e2 e3 B4 n m2;refine tq λD1 bx=>?_;refine⟨_,Y,zl,λq3 aS=>?_⟩;have S6:=Zh (o:=.lst [.int 0,.int (l_ (a+1):Nat)]) (f'.refl H5) aS;have e6:upd H5 q3 (.lst [.int 0,.int (l_ (a+1):Nat)]) q3=O (.lst [.int 0,.int (l_ (a+1):Nat)]):=Zc;generalize upd H5 q3 (.lst [.int 0,.int (l_ (a+1):Nat)])=H6 at S6 e6 ⊢;refine⟨_,Y,_,_,Y,Y,.inr ⟨decide ((0:Int)<(a:Int)),Y,?_⟩⟩;have m2:oY [V.int 0,.int (l_ (a+1):Nat)] (if decide ((0:Int)<(a:Int))=true then 1 else 0)=O (.int (nX a:Nat)):=by rcases(by omega:a=0\/a=1\/a=2\/a=3)with rfl|rfl|rfl|rfl<;>rfl
 refine⟨q3,_,_,_,Y,Y,jw.of e6,m2,?_⟩;have hX:=FD a;refine⟨_,Y,zD,zD,?_⟩;rw[cw];refine Xy (zA:=tJ 0 (nX a)) (nX a) (λi X d=>(∀c o,H1 c=O o->d c=O o)/\d g=O (.lst (((bB (nP a)).map tT++(bB i).map (rL a)).map V.str))/\∃o:Nat->Option V,X=[O (.ref b),O (.int (a:Int)),o 2,o 3,O (.ref g),o 5,o 6,o 7,o 8]) ?_ (λi X d I q=>I) (λX d q=>aq _) (λi X d x H7 I q yl=>?_) (λX d q=>?_)
 .exact⟨λc o e=>S6 _ _ (cE _ _ e),by rw[List.range_zero,cJ,bj];exact S6 _ _ e5,tQ Y⟩
 .obtain⟨S7,F,o,rfl⟩:=q;obtain⟨rfl,rfl⟩:=yl;rw[jj];have lg:((i:Nat):Int).natAbs.log2<1920:=dA (gT _) zD;have nl:(nS i).length<=12:=(Vj i zD).2.2.2;have p7:("x":U).length<=1/\("ride ":U).length<=7/\(" q0 0 q1 1 1":U).length<=20/\("way ":U).length<=7/\(" q0 q1 1 1":U).length<=20/\("group ":U).length<=7/\(". q0 0 1":U).length<=20:=by decide +kernel
  obtain⟨c0,c1,c2,c3,c4,c5,c6⟩:=p7;have xl:("x"++nS i:U).length<=13:=by rw[al];omega
  refine⟨_,Y,_,Y,lg,_,_,Y,Y,t (y:=nS i) zD zD,?_⟩;refine⟨_,Y,_,_,Y,Y,t (y:="x"++nS i) zD zD,_,_,Y,Y,t (x:="ride "++("x"++nS i)) (by rw[al];omega) zD,?_⟩;refine⟨_,Y,_,_,Y,Y,t (y:="x"++nS i) zD zD,_,_,Y,Y,t (x:="way "++("x"++nS i)) (by rw[al];omega) zD,?_⟩;refine⟨_,Y,_,_,Y,Y,t (y:="x"++nS i) zD zD,_,_,Y,Y,t (x:="group "++("x"++nS i)) (by rw[al];omega) zD,?_⟩;refine⟨zl,λq hq=>?_⟩;dsimp only;refine ym (o':=.lst [.str "",.str (rL 1 i),.str (rL 2 i),.str (rL 3 i)]) (by rw[<-y',<-y_,<-yZ];rfl) hq λH8 S8 e8=>?_;have h8:=S8 _ _ F;have w0:1<=a:=by
   rcases ju a with h|h
   .rw[h]at I;exact zI I (Nat.not_lt_zero _)
   .exact h
  have mx:oY [V.str "",.str (rL 1 i),.str (rL 2 i),.str (rL 3 i)] (a:Int)=O (.str (rL a i)):=by rcases(by omega:a=1\/a=2\/a=3)with rfl|rfl|rfl<;>rfl
  refine⟨_,Y,.inl ⟨Y,_,jw.of h8⟩,_,Y,_,Y,q,_,_,_,Y,Y,jw.of e8,mx,g,_,_,Y,Y,h8,?_,λc o e=>?_,?_,tQ Y⟩
  .rw[lm,aD,lm,lm,bZ,bZ];exact YA zD
  .rw[Zk (bb _ _ e)];exact S8 _ _ (S7 _ _ e)
  .rw[Zc,dR,aA (l₂:=[i]),<-bu,aA (l₂:=[i].map (rL a))];rfl
 obtain⟨S7,F,o,rfl⟩:=q;refine bx _ _ ?_;have F:d g=O (.lst ((bl a).map V.str)):=F;have cP:=Av hw;have B7:ZJ d b:=by obtain⟨x,y,z,e⟩:=B1;exact⟨x,y,z,S7 _ _ e⟩
 refine⟨_,Y,_,Y,g,_,Y,.inl (jw.of F),_,_,Y,Y,b,_,Y,B7,by rw[lm];omega,Z6 (by rw[lm];omega) (by rw[lm];omega),λr H8 h0 h1 B8 S8=>?_⟩;have l:r=(r.toNat:Int):=(d7 h0).symm;generalize r.toNat=i at l;subst l;have h8:=S8 _ _ F aM;refine⟨zl,λq4 aP=>?_⟩;dsimp only;refine nZ aP λH9 S9 e9=>?_;have mm:oY [V.str "place zz 3",.str "ride zz q0 0 q1 1 1",.str "way zz q0 q1 1 1",.str "group zz q0 0 0"] (a:Int)=O (.str (qi a)):=by rcases(by omega:a=0\/a=1\/a=2\/a=3)with rfl|rfl|rfl|rfl<;>rfl
 refine⟨_,Y,q4,_,_,_,Y,Y,jw.of e9,mm,?_⟩;refine⟨_,Y,_,Y,_,Y,g,_,Y,jw.of (S9 _ _ h8),λp1 a7=>?_⟩;rw[XW (bl a) Y];refine nZ a7 λcX cH cB=>?_;refine⟨zl,λp2 a6=>?_⟩;dsimp only;refine nZ a6 λcW az cy=>?_;refine⟨p1,p2,_,_,Y,Y,az _ _ cB,cy,aj (by rw[lm,aY];show _+1<=1000;omega) D,λp3 a5=>?_⟩;refine nZ a5 λcT cG cx=>?_;have ah:=(cH.trans az).trans cG;refine⟨_,Y,_,Y,_,Y,g,_,Y,jw.of (ah _ _ (S9 _ _ h8)),λp4 a4=>?_⟩;rw[YY (bl a) Y];refine nZ a4 λcS ar cm=>?_;refine⟨p3,p4,_,_,Y,Y,ar _ _ cx,cm,aj (by rw[aD,lm,lm,aY,cL];show _+1+_<=1000;omega) D,λp5 ab=>?_⟩;have ai:=(S9.trans ah).trans ar;have aF:=B8.same ai;have n5:=aF.ne ab;dsimp only;refine ym (o':=.lst ((fu a i).map V.str)) (by unfold fu;rw[aA,aA,<-bu];rfl) ab λcI ak ck=>?_;refine⟨_,Y,zl,λp6 aa=>?_⟩;have aC:=aF.same ak;have p:=Zh (o:=.lst [.ref p5,.str (qi a)]) (f'.refl cI) aa;refine k _ p6 p5 a i (aC.same p) ?_ hw (aC.ne aa) n5 Zc (p _ _ ck);refine(S1.trans ?_).trans (S8.trans ?_)
 .exact λc o e _=>S7 _ _ e
 .exact λc o e _=>p _ _ (ak _ _ (ai _ _ e))
def Sa{z:U} {Q:VK}(j:z.length<=200000)(i:∀l∈Txt.split z NL,l.length<=1000)(h:(Txt.split z NL).length<=1000)(g:q_ (Txt.split z NL) c)(k:∀b q,f' H b->uM b q c->Q (.ref q) b):V1 [.str z] H Q E:=⟨_,Y,.inr ⟨z,c,Y,j,i,h,g,λm n e b q s d=>k b q s (by rw[e];exact d),λT e b q a s d f=>k b q s (by rw[e];exact⟨a,d,f⟩)⟩⟩
def Sk{a:List U}(b:a≠[])(h:∀l∈a,10∉cd l/\l.length<=91):Txt.split (Txt.join NL a) NL=a:=YG b λl c=>(h l c).1
def Uv{b:List U} {Q:VK}(f:b≠[])(h:∀l∈b,10∉cd l/\l.length<=91)(g:b.length<=400)(i:q_ b d)(k:∀c q,f' H c->uM c q d->Q (.ref q) c):V1 [.str (Txt.join NL b)] H Q E:=by have e:=Sk f h;refine Sa (aj (PY (m:=91) (n:=400) (λl a=>(h l a).2) g) D) (by rw[e];exact λl a=>aj (h l a).2 D) (by rw[e];omega) (by rw[e];exact i) k
def VM{a:List U}(h:∀l∈a,l.length<=1000)(f:a.length<=1000):(a.map (·.length)).sum+a.length*(NL:U).length<=16777216:=by
 have d:(a.map (·.length)).sum<=(a.map (·.length)).length*1000:=Jn λx b=>by obtain⟨w,c,rfl⟩:=aG.mp b;exact h w c
 rw[lm]at d;show _+a.length*1<=_;omega
def OG:∀w,w<4->(Txt.split (qi w) SP).head?=O (if w=0 then("place":U)else hJ (w+1)):=by decide +kernel
def Ij:Sp:=λb H Q _=>∃w,w<=3/\b=[.str (qi w)]/\∀a q,f' H a->a q=O (.lst (mT (w+1)))->Q (.ref q) a
def Gg:ia [qV,pd] [qV] (Ze T.oQ):=nc
def OZ(zw:∀x∈mE,J x=B)(t:Df K J "_law_words" T.oQ [qV]):l8 P w K J S 1 "_law_words" [qV] Ij:=by
 refine t.cn Gg λf X A l s H vs Q E hr h=>?_;obtain⟨a,hw,rfl,k⟩:=h;refine' ⟨_,(Zb ?F (Zi ?C)),?rd⟩;case' C=>refine' (Zn (X4 (Zo Ym (R 1) Zf (Zu _)) (Zw (o7 (R 1) Zf)) (Zw (me (R 1)))))
 case' F=>refine' (st 1 Gg.nd ?I)
 case' I=>refine' (il K (YR bP dY dX Jr (R 0) (me Zf)) Zd)
 case' rd=>
 have y:(qi a).length<=1000:=aj (RB a zD).2.2 D;obtain⟨W,N,M,L⟩:=Gz y;have b:=OG a zD;refine⟨_,Y,Y,_,_,Y,Y,W,N,M,L,λu g=>?_⟩;dsimp only;rw[show(bh " ":U)=SP from Np];refine nZ g λH1 p o=>?_;generalize Txt.split (qi a) SP=ws at o b;cases ws with
|nil=>cases b
|cons z r=>
 have b:z=if a=0 then("place":U)else hJ (a+1):=aJ b
 refine⟨u,_,0,_,Y,Y,jw.of o,Zy (j:=0) Y,?_⟩;refine⟨_,Y,Y,_,Y,?_⟩;by_cases n:a=0
 .subst n;have b:z="place":=b;subst b;refine kq ?_;refine⟨_,Y,zl,λq c=>?_⟩;exact k _ q (Zh p c) Zc
 .rw[zG n]at b;subst b;have i:decide (V.str (hJ (a+1))=V.str "place")=false:=by rcases(by omega:a=1\/a=2\/a=3)with rfl|rfl|rfl<;>decide +kernel
  have d:mT (a+1)=[V.str (hJ (a+1))]:=by rcases(by omega:a=1\/a=2\/a=3)with rfl|rfl|rfl<;>rfl
  rw[i];refine kv ?_;refine⟨_,Y,zl,λq c=>?_⟩;exact k _ q (Zh p c) (by rw[d];exact Zc)
def BX{X:Cx}{K:af}(a:X.K=K):oZ X (cF .In) (ο K false):=by subst a;exact JV
def BP{X:Cx}{K:af}{o e:bV}{c:TE}{t:TA}{b a:iG}(f:PE X o c)(g:PA X [e] t)(h:X.K=K/\fD o (bh "split") X.env (cM o X.env)=cM o X.env/\((eh a (bf [e] X.env)).all (λx=>!x.1)&&(iL a (fY [] X.env)).all (λx=>x.1.isSome)&&decide (([e]:List bV).length+([]:List jM).length+(if([]:List jM).isEmpty then 0 else 1)<30))=true/\(b.endLine==a.line)=true/\bf [e] X.env=(false,cM e X.env)::bf [] X.env/\(eh a (bf [] X.env)).any (·.1)=false):PE X (.Call (.Attribute o (bh "split") b) [e] [] a) (yM K "str" (λx d H Q=>∃z y,x=.str z/\d=[.str y]/\(y.length==0)=false/\z.length<=sizeLine/\(Txt.split z y).length<=sizeLine/\(d_ z (bR z y 0 z.length (z.length+1)) y.length).length<=sizeLine/\∀l,H l=B->Q (.ref l) (upd H l (.lst ((Txt.split z y).map V.str)))) c t):=by obtain⟨rfl,h⟩:=h;exact YR bP dY dX Jr f g h.1 h.2.1 h.2.2.1 h.2.2.2.1 h.2.2.2.2
def HM {e:Ent}(h:Ye l=O e):∃z r,Txt.split l SP=z::r/\jW z=e.1/\ZN z≠B:=by
 unfold Ye at h;cases a:mP (Txt.split l SP)with
|none=>rw[a]at h;cases h
|some d=>
  rw[a]at h;cases h;obtain⟨z,r,f,b,c,_⟩:=JT a;refine⟨z,r,b,?_,?_⟩
  .show jW z=jW ((Txt.split l SP).headD "");rw[b];rfl
  .rw[c];exact λq=>by cases q
noncomputable def Xo(m:Nat)(a:U):gu:=.tuple [.str "line",.int (m:Nat),.str a]
def Vk{H:Hp}{m:Nat}(h:H q=O (.tup [.str "line",.int (m:Nat),.str a])):Is H (.ref q) (Xo m a):=.tup h (.cons (.str _) (.cons (.int _) (.cons (.str _) .nil)))
def FU(m:Nat)(c:(PyData.str a).canLay0=true):(Xo m a).canLay0=true:=by
 refine GB λd b=>?_;simp only[ay,a8,or_false]at b;rcases b with rfl|rfl|rfl
 .decide +kernel
 .rfl
 .exact c
def Tp(m:Nat)(c:(PyData.str a).canLay0=true):fM (Xo m a)=true/\km (Xo m a) (Xo m a)=true:=by have b:=FU m c;refine⟨?_,PySem.SeqAt.eqv_refl _ b⟩;unfold fM;rw[b];rfl
def W0{w i k:Nat}{l:U}{e:Ent}(a:w<=3)(b:(fu w i)[k]?=O l)(c:(FE w i)[k]?=O e)(h:l="turns 3"):e.1≠w+1:=by have:=Yt (P7 a i) b c;subst h;rw[Wj.1]at this;cases this;exact λq=>by cases q
def EJ:Sp:=λc H Q _=>∃b,c=[.ref b]/\ZJ H b/\∀a,Zr b H a->Q (.bl true) a
def X0:ia [ky,qw,rk,w9,"_law_last"] [ky] (Ze T.ni):=nc
noncomputable def Ur:dh:=pL [(".0",.local),("_law_part",.local),("len",.globalImplicit)]
def M8:i4 Ur (Ze T.ni):=⟨Y,zC,zC,zC⟩
def Na:(["_law_part"]:List U).Nodup:=by decide +kernel
def M9:i3 [ky,qw,rk,w9,"_law_last"] Ur ["_law_part"] [B]:=.mk' zC
noncomputable def Uq:dh:=pL [(".0",.local),(oG,.local),("_law_words",.globalImplicit),(qw,.free),(rk,.free)]
def M5:i4 Uq (Ze T.ni):=⟨Y,zC,zC,zC⟩
def M7:([oG,qw,rk]:List U).Nodup:=by decide +kernel
def M6:i3 [ky,qw,rk,w9,"_law_last"] Uq [oG,qw,rk] [B,O 1,O 2]:=.mk' zC
def Ag(zw:∀x∈mE,J x=B)(CF:l8 P w K J S 2 "_law_full" [ky] EU)(CT:l8 P w K J S 11 "_law_told" [vJ] V1)(CW:l8 P w K J S 1 "_law_words" [qV] Ij)(zB:Df K J "_law_many" T.ni [ky]):l8 P w K J S 12 "_law_many" [ky] EJ:=by
 refine zB.cn X0 λf cX A cP s H vs Q E hr h=>?_;obtain⟨b,rfl,hb,k⟩:=h;refine' ⟨_,(Zb ?cm (Zb ?ck (Zb ?cj (Zb ?cf (Zb ?cc (Zi ?b8)))))),?rd⟩;case' b8=>refine' (Zn (Z5 (BY hr.units) (cn CT hr (me ?cx)) (Yo (qX Zf (Zv Z3 (R 4) Zd) Zf)) (Zu _)))
 case' cc=>refine' (st 4 X0.nd ?cy)
 case' cf=>refine' (ZC (Zo (WU hr.units) (cn CT hr (me ?h9)) ?cB (Zu _)) (Zi (Zn VJ)) Zq)
 case' cj=>refine' (ZC (PW.pt (JH (Zo Vi (R 3) ZK (Zu _)) (JH (Zo JK (it K (R 3) Zd) Zf (Zu _)) (X7 (Zo JK (Zz (Q1 Y) Y (bm zw) lU (me (Yp Y M8 M9 (MI ?h3) (λC s H ex pn=>(mH 0 Na)) (λC s H ex pn=>ZW) (λC s H ex pn=>(Zz (r:=nJ K) ZO Y (bm zw) bt (Za (R 0) Zg)))))) ?h4 (Zu _)))))) (Zi (Zn VJ)) Zq)
 case' ck=>refine' (st 3 X0.nd (cn CT hr (me ?h1)))
 case' cm=>refine' (MH (cn CF hr (me (R 0))) (Fm Y (Zx (Gq (i:=1) X0.nd Y (ir Y)) (Zx (Gq (i:=2) X0.nd Y (ir Y)) Yd))))
 case' cx=>refine' (@Uk _ _ _ _ _ _ _ Zf (me (Zv Yq (Zw (me (R 2))) (R 1))) (by exact⟨Y,Y,Y,Y,Y⟩))
 case' cy=>refine' (il K (Yp Y M5 M6 (YB Y (bm zw) (me (Zz (r:=nJ K) ZO Y (bm zw) bt (me (R 1))))) (λC s H ex pn=>(mH 0 M7)) (λC s H ex pn=>(V4 (PW.pt (Rt (Zo JK (il K (R 1) (R 0)) Zf (Zu _)) (NN (Zo (BX (K:=K) Y) (il K (@BP _ K _ _ _ _ _ _ (il K (R 1) (R 0)) (Za Zf Zg) (by exact⟨Y,Y,Y,Y,Y,Y⟩)) Zd) (cn CW hr (Za (R 2) Zg)) (by with_unfolding_all rfl))))))) (λC s H ex pn=>(R 0))) (Fn Wg Zd))
 case' cB=>refine' (Yo (qX Zf (Zz (r:=nJ K) ZO Y (bm zw) bt (me (R 1))) Zf))
 case' h9=>refine' (@Uk _ _ _ _ _ _ _ Zf (me (Zv Yq (R 1) (Zw (me (R 2))))) (by exact⟨Y,Y,Y,Y,Y⟩))
 case' h4=>refine' (Zv MK (Zz (r:=nJ K) ZO Y (bm zw) bt (me (R 1))) Zd)
 case' h3=>refine' (ZG (r:=wZ K) EW (it K (R 3) Zd) (ZP Zd) ZQ)
 case' h1=>refine' (@Uk _ _ _ _ _ _ _ Zf (me (R 1)) (by exact⟨Y,Y,Y,Y,Y⟩))
 case' rd=>
 refine tq λD0 a5=>?_;refine⟨_,Y,b,Y,hb,λH1 q lF a i B1 S1 hw nq nF hq hF=>?_⟩;refine⟨q,_,Y,jw.of hq,Y,_,_,Y,_,_,Y,Y,?_⟩;refine a5 _ _ ?_;have hn:fu a i≠[]:=λz=>by have:=HF a i;rw[z]at this;cases this
 have N:=HE hw i;have b6:=HF a i;have cW:=Av hw;have b7:(fu a i).length<=305:=by omega
 have b4:∀l∈fu a i,l.length<=1000:=λl g=>aj (N l g).2 D;refine tq λD1 a4=>?_;refine⟨Y,_,Y,_,lF,_,Y,Y,jw.of hF,VM b4 zD,?_⟩;rw[show(bh "\n":U)=NL from Gw];dsimp only[mq];refine Uv hn N zD (Oe hw i) λH2 q2 S2 r2=>?_;refine a4 _ _ ?_;obtain⟨a2,e2,t2⟩:=r2;have F2:=S2 _ _ hF;refine tq λD2 a3=>?_;refine⟨_,Y,Y,_,Y,?_⟩;refine kv ?_;refine H_ 0 e2 Y ⟨Y,_,Y,?_⟩;refine kv ?_;obtain⟨m1,m2,m3,m4,x1,x2,x3,x4,ea,h1,h2,h3,h4,r1,r2,r3,r4⟩:=t2;refine H_ 1 e2 Y ?_;refine⟨_,Y,a2,_,Y,lR.of ea,(by show ¬(HT.mF 5 0 (O 1)=0/\HT.mF 5 5 B=5);decide),λp hp=>?_⟩;rw[show m_ [V.int (uY 3 (FE a i)).n,.ref m1,.ref m2,.ref m3,.ref m4] (O 1) B=[V.ref m1,.ref m2,.ref m3,.ref m4]from rfl];have S3:=Zh (o:=.tup [V.ref m1,.ref m2,.ref m3,.ref m4]) (f'.refl H2) hp;have e3:upd H2 p (.tup [V.ref m1,.ref m2,.ref m3,.ref m4]) p=O (.tup [V.ref m1,.ref m2,.ref m3,.ref m4]):=Zc;generalize upd H2 p (.tup [V.ref m1,.ref m2,.ref m3,.ref m4])=H3 at S3 e3 ⊢;refine⟨p,Y,⟨_,lR.of e3⟩,?_⟩;have ls:∀(j n:Nat),([x1,x2,x3,x4].map d8)[j]?=O n->∃m x,([V.ref m1,.ref m2,.ref m3,.ref m4]:List V)[j]?=O (V.ref m)/\H3 m=O (.tup x)/\x.length=n:=λj n e=>by
  rcases j with _|_|_|_|j
  .cases e;exact⟨m1,x1,Y,S3 _ _ h1,Y⟩
  .cases e;exact⟨m2,x2,Y,S3 _ _ h2,Y⟩
  .cases e;exact⟨m3,x3,Y,S3 _ _ h3,Y⟩
  .cases e;exact⟨m4,x4,Y,S3 _ _ h4,Y⟩
  .cases e
 have ln:(([x1,x2,x3,x4].map d8).map λn:Nat=>(n:Int)).sum=(bl a).length:=by
  have:=HK hw;rw[<-XJ (j:=1) D i,<-XJ (j:=2) D i,<-XJ (j:=3) D i,<-XJ (j:=4) D i]at this;have y1:x1.length=(sel 1 (FE a i)).length:=by rw[r1.1,lm];rfl
  have y2:x2.length=(sel 2 (FE a i)).length:=by rw[r2.1,lm];rfl
  have y3:x3.length=(sel 3 (FE a i)).length:=by rw[r3.1,lm];rfl
  have y4:x4.length=(sel 4 (FE a i)).length:=by rw[r4.1,lm];rfl
  rw[<-y1,<-y2,<-y3,<-y4]at this;show(x1.length:Int)+(x2.length+(x3.length+(x4.length+0)))=_;omega
 have bb:([x1,x2,x3,x4].map d8).length=4:=rfl;generalize [x1,x2,x3,x4].map d8=c at ls ln bb;refine ZX (zA:=x5 K p) 4 D (λj us u d=>d=H3/\us=((c.take j).map λn=>V.int (n:Nat))/\∃v,u=[v]) ⟨Y,Y,B,Y⟩ (λj us u d q=>by rw[q.2.1,lm,aY];omega) (λj us u d hj q=>?_) (λus u d q=>?_) (λj us u d x H4 hj q yl=>?_) (λus u d q l g=>?_)
 .obtain⟨rfl,_⟩:=q;obtain⟨m,x,e,_⟩:=ls j _ (gE zD);exact⟨_,_,lR.of e3,e⟩
 .obtain⟨rfl,_⟩:=q;exact⟨_,lR.of e3,aq _⟩
 .obtain⟨rfl,rfl,v,rfl⟩:=q;obtain⟨rfl,hx⟩:=yl;obtain⟨m,y,e,hm,g⟩:=ls j _ (gE zD);have hx:=hx _ (lR.of e3);rw[e]at hx;cases hx;refine⟨_,Y,m,_,Y,.inr (lR.of hm),Y,?_,_,Y⟩;rw[cq,gE zD,aA,g];rfl
 obtain⟨rfl,rfl,v,rfl⟩:=q;rw[bp zD];dsimp only[mq];rw[show(c.map λn:Nat=>V.int (n:Nat))=(c.map λn:Nat=>(n:Int)).map V.int by rw[cY];rfl];have S4:=Zh (o:=.lst ((c.map λn:Nat=>(n:Int)).map V.int)) S3 g;have e4:upd d l (.lst ((c.map λn:Nat=>(n:Int)).map V.int)) l=O (.lst ((c.map λn:Nat=>(n:Int)).map V.int)):=Zc;generalize upd d l (.lst ((c.map λn:Nat=>(n:Int)).map V.int))=H4 at S4 e4 ⊢;refine⟨l,_,Y,jw.of e4,?_⟩;rw[ln];have F4:=S4 _ _ F2;refine⟨_,Y,lF,_,Y,.inl (jw.of F4),_,_,Y,Y,Y,_,Y,?_⟩;rw[lm,b6,show(λi j:Int=>V.int (i-j)) (((bl a).length+1:Nat):Int) 1=V.int ((bl a).length:Nat)from zM V.int zD,zJ Y];refine kv ?_;refine a3 _ _ ?_;have cG:f' H2 H4:=S4;clear S3 e3 S4 e4 g ls ln bb h1 h2 h3 h4 r1 r2 r3 r4 ea e2 a3 a4 a5 hp;refine tq λD3 a0=>?_;refine⟨Y,_,Y,_,Y,zl,λp1 ab=>?_⟩;dsimp only;refine nZ ab λH5 S5 e5=>?_;have F5:=S5 _ _ F4;refine⟨lF,p1,_,_,Y,Y,F5,e5,aj (by rw[lm];show _+1<=1000;omega) D,λp2 aa=>?_⟩;dsimp only[mq];rw[show(fu a i).map V.str++[V.str (qi a)]=(fu a i++[qi a]).map V.str by rw[aA];rfl];have S6:=Zh (o:=.lst ((fu a i++[qi a]).map V.str)) (f'.refl H5) aa;have e6:upd H5 p2 (.lst ((fu a i++[qi a]).map V.str)) p2=O (.lst ((fu a i++[qi a]).map V.str)):=Zc;generalize upd H5 p2 (.lst ((fu a i++[qi a]).map V.str))=H6 at S6 e6 ⊢;have mo:=RB a zD;have I:∀l∈fu a i++[qi a],10∉cd l/\l.length<=91:=λl g=>by
  rcases ba.mp g with h|h
  .exact N l h
  .rw[aL]at h;subst h;exact mo.2
 refine⟨_,p2,_,Y,Y,jw.of e6,VM (λl g=>aj (I l g).2 D) (by rw[aD];show _+1<=1000;omega),?_⟩;rw[show(bh "\n":U)=NL from Gw];refine Uv zE I (by rw[aD];show _+1<=400;omega) (BG hw i) λH7 q7 S7 r7=>?_;have aC:=(S5.trans S6).trans S7;have F7:=aC _ _ F4;refine⟨_,Y,lF,_,Y,.inl (jw.of F7),?_⟩;dsimp only[mq];refine⟨zl,λt ht=>?_⟩;rw[lm];have S8:=Zh (o:=.tup [.str "line",.int ((fu a i).length:Nat),.str "many"]) (f'.refl H7) ht;have e8:upd H7 t (.tup [.str "line",.int ((fu a i).length:Nat),.str "many"]) t=O (.tup [.str "line",.int ((fu a i).length:Nat),.str "many"]):=Zc;generalize upd H7 t (.tup [.str "line",.int ((fu a i).length:Nat),.str "many"])=H8 at S8 e8 ⊢;have F:∀m,fM (Xo m "many")=true/\km (Xo m "many") (Xo m "many")=true:=λm=>Tp m zC;refine⟨Xo (fu a i).length "many",Xo (fu a i).length "many",Vk (S8 _ _ r7),Vk e8,(F _).1,(F _).1,_,Y,?_⟩;rw[(F _).2];refine kv ?_;refine a0 _ _ ?_;have F8:=S8 _ _ F7;have b0:=cG.trans (aC.trans S8);clear aC S8 e8 S5 S6 S7 e5 e6 F5 F7 r7 ab aa ht I a0 F4;have en:=P7 hw i;have cT:(FE a i).length=(fu a i).length:=(pairs_len en).symm;refine tq λD4 aS=>?_;refine⟨_,Y,lF,_,Y,.inl (jw.of F8),?_⟩;dsimp only[mq];rw[lm];refine⟨_,Y,zD,zD,?_⟩;rw[cw];refine Vp (zA:=tJ 0 (fu a i).length) (fu a i).length (aj b7 D) (λj ys u d=>f' H8 d/\ys=(lW (a+1) 0 ((FE a i).take j)).map (λp=>V.int (p.1:Nat))/\∃v,u=[v,O (.ref lF),O (.str (qi a))]) ⟨f'.refl _,by simp[lW],B,Y⟩ (λj ys u d q=>?_) (λj ys u d hj q=>hj) (λys u d q=>aq _) (λj ys u d x H9 hj q yl=>?_) (λys u d q lt L=>?_)
 .obtain⟨_,rfl,_⟩:=q;have:=VE (a+1) 0 ((FE a i).take j);rw[aY]at this;rw[lm];omega
 .obtain⟨S9,rfl,v,rfl⟩:=q;obtain⟨rfl,rfl⟩:=yl;have W:(fu a i)[j]?=O (fu a i)[j]:=gE hj;have ar:(FE a i)[j]?=O ((FE a i)[j]' zD):=gE _;have he:=Yt en W ar;have L:=W0 (l:=(fu a i)[j]) hw W ar;rw[QF (a+1) ar];have a7:=(N _ (bo hj)).2;generalize (fu a i)[j]=l at he L W a7;generalize (FE a i)[j]' zD=e at he L ⊢;refine⟨_,Y,_,Y,lF,_,_,_,Y,Y,jw.of (S9 _ _ F8),XN (j:=j) zD (by rw[aT,W];rfl),Y,_,Y,?_⟩;by_cases et:l="turns 3"
  .rw[et,zJ Y,zG (L et),bj];refine kv ?_;exact kv ⟨S9,Y,_,Y⟩
  rw[zK (λz=>et (by cases z;rfl))];refine kq ?_;obtain⟨z,r,ez,jz,fz⟩:=HM he;obtain⟨c1,c2,c3,c4⟩:=Gz (aj a7 D:l.length<=1000);refine⟨_,Y,_,Y,lF,_,_,_,Y,Y,jw.of (S9 _ _ F8),XN (v:=V.str l) (j:=j) zD (by rw[aT,W];rfl),Y,_,_,Y,Y,c1,c2,c3,c4,λp5 b5=>?_⟩;dsimp only;rw[show(bh " ":U)=SP from Np,ez];refine nZ b5 λcI M X=>?_;refine⟨p5,_,0,_,Y,Y,jw.of X,Zy (j:=0) Y,?_⟩;refine⟨_,Y,a,hw,Y,λai b3 ah az=>?_⟩;refine⟨b3,_,Y,.inl (jw.of az),Y,?_,_,Y,?_⟩
  .unfold mT;rw[List.all_map];exact bY.mpr λ_ _=>rfl
  have a6:=Ly (j:=a+1) zD fz;rw[jz]at a6;have bT:=(S9.trans M).trans ah;show(if tV (V.str z) (mT (a+1))=true then _ else _);rw[a6];by_cases e0:e.1=a+1
  .rw[zJ e0,zH e0];refine kq ⟨_,Y,bT,?_,_,Y⟩;rw[aA,jj];rfl
  .rw[zK e0,zG e0];refine kv ⟨bT,?_,_,Y⟩;rw[bj]
 obtain⟨S9,rfl,v,rfl⟩:=q;rw[bp zD];have ak:(lW (a+1) 0 (FE a i)).length=l_ (a+1):=by rw[MF,XJ zD,Qb hw]
 have cS:1<=l_ (a+1):=by rcases(by omega:a=0\/a=1\/a=2\/a=3)with rfl|rfl|rfl|rfl<;>decide
 obtain⟨A0,ml,eA⟩:∃A0 ml,lW (a+1) 0 (FE a i)=A0++[ml]:=⟨_,_,(i7 (λz=>by rw[z,dz]at ak;omega)).symm⟩;have aP:(lW (a+1) 0 (FE a i))[l_ (a+1)-1]?=O ml:=by rw[<-ak,eA,aD];show(A0++[ml])[A0.length+1-1]?=_;rw[Nat.add_sub_cancel,fA (aq _),Nat.sub_self];rfl
 obtain⟨m,my⟩:=ml;have rf:=Ff hw i aP;rw[eA,aA];clear aP eA ak;have M:=Zh (o:=.lst (A0.map (λp=>V.int (p.1:Nat))++[V.int (m:Nat)])) S9 L;have X:upd d lt (.lst (A0.map (λp=>V.int (p.1:Nat))++[V.int (m:Nat)])) lt=O (.lst (A0.map (λp=>V.int (p.1:Nat))++[V.int (m:Nat)])):=Zc;show ν _ _ _ (upd d lt (.lst (A0.map (λp=>V.int (p.1:Nat))++[V.int (m:Nat)]))) _;generalize upd d lt (.lst (A0.map (λp=>V.int (p.1:Nat))++[V.int (m:Nat)]))=cI at M X ⊢;refine⟨1,Y,lt,_,-1,_,Y,Y,jw.of X,T6 _ _,?_⟩;refine aS _ _ ?_;have cN:=M _ _ F8;have cE:=b0.trans M;clear S9 M X L aS b0 F8;refine⟨Y,_,Y,zl,λp1 ab=>?_⟩;dsimp only;refine nZ ab λai ah az=>?_;have cK:=ah _ _ cN;refine⟨_,Y,p1,lF,_,_,Y,Y,az,cK,aj (by rw[lm];show 1+_<=1000;omega) D,λp2 aa=>?_⟩;dsimp only[mq];rw[show[V.str (qi a)]++(fu a i).map V.str=(qi a::fu a i).map V.str from rfl];have b1:=Zh (o:=.lst ((qi a::fu a i).map V.str)) (f'.refl ai) aa;have bM:upd ai p2 (.lst ((qi a::fu a i).map V.str)) p2=O (.lst ((qi a::fu a i).map V.str)):=Zc;generalize upd ai p2 (.lst ((qi a::fu a i).map V.str))=c5 at b1 bM ⊢;have I:∀l∈qi a::fu a i,10∉cd l/\l.length<=91:=λl g=>by
  rcases ay.mp g with h|h
  .subst h;exact mo.2
  .exact N l h
 refine⟨_,p2,_,Y,Y,jw.of bM,VM (λl g=>aj (I l g).2 D) (by rw[aB];omega),?_⟩;rw[show(bh "\n":U)=NL from Gw];refine Uv zE I (by rw[aB];omega) rf λaM cR cH b2=>?_;refine⟨_,Y,_,_,Y,Y,?_⟩;dsimp only[mq];refine⟨zl,λt ht=>?_⟩;rw[show((m:Nat):Int)+1=((m+1:Nat):Int)from rfl];have aF:=Zh (o:=.tup [.str "line",.int ((m+1:Nat):Int),.str "many"]) (f'.refl aM) ht;have bx:upd aM t (.tup [.str "line",.int ((m+1:Nat):Int),.str "many"]) t=O (.tup [.str "line",.int ((m+1:Nat):Int),.str "many"]):=Zc;generalize upd aM t (.tup [.str "line",.int ((m+1:Nat):Int),.str "many"])=c0 at aF bx ⊢;refine⟨Xo (m+1) "many",Xo (m+1) "many",Vk (aF _ _ b2),Vk bx,(F _).1,(F _).1,?_⟩;rw[(F _).2];exact k _ (S1.trans (Zr.of (S2.trans (cE.trans (ah.trans (b1.trans (cH.trans aF)))))))
noncomputable def sL:List U:=["","form","turns","number","double","place","turn","people","home","alike"]
def AI{z:U}(h:z∈sL):qS (.str z):=.str ((by decide +kernel:∀z∈sL,GS z) z h)
def im{d:Type}{c:Prop}[Decidable c]{a b:d}{l:List d}(g:a∈l)(f:b∈l):(if c then a else b)∈l:=by
 split
 .exact g
 .exact f
def Zai(a:Kv)(s g:U):mu a s g∈sL:=by unfold mu;repeat (first|refine im ?_ ?_|decide +kernel)
def ZaS(j:Nat)(b:Kv)(n:Int)(c:List U)(f:Int)(a:List V):pI j b n c f a∈sL:=by have d:=Zai b (sv (at_ a 1)) (sv (at_ a (if j=3 then 2 else 3)));unfold pI;generalize mu b (sv (at_ a 1)) (sv (at_ a (if j=3 then 2 else 3)))=z at d;repeat (first|refine im ?_ ?_|exact d|decide +kernel)
def N5{j:Nat}{n:Int}{m:Nat}{c:U}:∀(L:List Ent)(pre:List (List V))(i:Nat),qk j f n pre i L=O (m,c)->m<i+L.length/\c∈sL:=by
 intro L;induction L with
|nil=>intro pre i h;cases h
|cons e L d=>
  intro pre i h;unfold qk at h;rw[aB];split at h
  .split at h
   .obtain⟨a,b⟩:=d _ _ h;exact⟨zD,b⟩
   .cases h;exact⟨zD,ZaS _ _ _ _ _ _⟩
  .obtain⟨a,b⟩:=d _ _ h;exact⟨zD,b⟩
def Zaa{n:Int}{p:Nat×U}(h:rD n L=O p):p.1<0+L.length/\p.2∈sL:=by
 unfold rD at h;split at h
 .next e=>cases h;exact N5 _ _ _ e
 .split at h
  .next e=>cases h;exact N5 _ _ _ e
  .split at h
   .next e=>cases h;exact N5 _ _ _ e
   .exact N5 _ _ _ h
def K4{j:Nat}{y:Nat×List V}(h:y∈lW j 0 L):y.1<L.length:=by obtain⟨m,e,a⟩:=Pk h;rw[e,jh];exact(aU.mp a).1
def BE {m:Nat}{why:U}(h:pH c=.inl (m,why)):m<=c.length/\why∈sL:=by
 have d:=Rv c;unfold pH at h;split at h
 .cases h;exact⟨d,zC⟩
 .unfold ve at h;split at h
  .cases h;exact⟨aq _,zC⟩
  .next a r e=>
   split at h
   .next b g=>cases h;have:=K4 (y:=b) (by rw[e];exact au _ ax);exact⟨zD,zC⟩
   .split at h
    .split at h
     .next p f=>cases h;have:=Zaa f;exact⟨zD,this.2⟩
     .cases h
    .cases h;have:=K4 (y:=a) (by rw[e];exact ax);exact⟨zD,zC⟩
noncomputable def ye(r:Sum (Nat×U) Tb):gu:=match r with
|.inl p=>Xo p.1 p.2
|.inr T=>.tuple [.str nu,uZ T]
structure δ(d:gu):Prop where
 sh:d.showable=true
 dp:d.depth<=64
 ln:d.shown.length<=sizeLine
def FT{m:Nat}{d:U}(g:m<=1000)(f:d∈sL):δ (Xo m d):=by have s:Sm (Xo m d) 1 200000:=IZ (a:=.str "line") (b:=.int (m:Nat)) (c:=.str d) (.str zC) (.int zD) (AI f);exact⟨s.sh,aj s.dp D,s.shown⟩
def AN (o:ow T):δ (.tuple [.str nu,uZ T]):=by
 have s:=(NT o).sm;have a:Sm (dF (.str nu)) 0 12:=(qS.str (z:=nu) zC).sm;have b:=oC.tup (ds:=[.str nu,uZ T]) (n:=2) (oC.of (k:=3) (m:=200000) λd c=>?_) (aq 2)
 .refine⟨b.sh,aj b.dp D,?_⟩;have f:=PyData.shown_le 13 D _ b.lv;have:=b.wt;exact aj f (by
   have:(15:Nat)*500000+13<=sizeLine:=by decide
   omega)
 .simp only[ay,a8,or_false]at c;rcases c with rfl|rfl
  .exact a.mono D D
  .exact s
def K9{a:List U}(b:a.length<=1000)(ok:∀T,pH a=.inr T->ow T):δ (ye (pH a)):=by
 cases e:pH a with
|inl p=>have:=BE (m:=p.1) (why:=p.2) e;exact FT zD this.2
|inr T=>exact AN (ok T e)
theorem uM.is  {r:Sum (Nat×U) Tb}(ok:∀T,r=.inr T->ow T)(h:uM H q r):Is H (.ref q) (ye r):=by
 cases r with
|inl p=>exact Vk h
|inr T=>obtain⟨a,e,t⟩:=h;exact .tup e (.cons (.str _) (.cons (t.is (ok T Y)) .nil))
def EV(K:af):Sp:=λb H Q _=>∃(a:G)(d:List Int)(k:Nat),b=[.ref a,.int k]/\jw K H a (d.map V.int)/\k<=1000/\∀c:Int,Q (.int c) H
def OP{ns:List Int}{i:Int}(b:0<=i)(a:i<ns.length):∃c,oY (ns.map V.int) i=O (.int c):=by obtain⟨v,h,m⟩:=JJ (xs:=ns.map V.int) b (by rw[lm];exact a);obtain⟨c,_,rfl⟩:=aG.mp m;exact⟨c,h⟩
def SI:ia [sX,oG] [sX,oG] (Ze T.pC):=nc
def Ap(l:∀x∈mE,J x=B)(n:Df K J "_law_cell" T.pC [sX,oG]):l8 P w K J S 1 "_law_cell" [sX,oG] (EV K):=by
 refine n.cn SI λf t A d s H u Q E y h=>?_;obtain⟨a,g,k,rfl,j,hk,q⟩:=h;refine' ⟨_,(Zb ?p (Zi (Zn (Zv Z3 (Zv Uz Zd (R 1)) Zd)))),?rd⟩;case' p=>refine' (ZC (Zo Tc (R 1) (Zz (r:=nJ K) ZO Y (bm l) bt (me (R 0))) (Zu _)) (Zi (Zn (il K (R 0) (R 1)))) Zq)
 case' rd=>
 refine⟨_,Y,_,Y,a,_,Y,.inl j,_,_,Y,Y,_,Y,?_⟩;refine mr (λe=>?_) (λe=>?_)
 .have b:(k:Int)<g.length:=by have:=zL e;rw[lm]at this;exact this
  obtain⟨c,o⟩:=OP (ns:=g) (i:=k) zD b;exact⟨_,Y,_,Y,a,_,_,_,Y,Y,j,o,q c⟩
 .exact⟨_,Y,_,_,Y,Y,.inl ⟨D,D⟩,_,_,Y,Y,q _⟩
def Sx(K:af):Sp:=λc H Q _=>∃(a:G)(b:List Int),c=[.ref a]/\jw K H a (b.map V.int)/\b.length<=63/\∀d,Q (.bl true) d
def HR(b:List Int)(lo d:Option Int):∀v∈m_ (b.map V.int) lo d,∃c,v=.int c:=by intro v a;unfold m_ at a;have f:=eR (du a);obtain⟨c,_,e⟩:=aG.mp f;exact⟨c,e.symm⟩
def jw.same{K:af}{H c:Hp}{a:G}{b:List V}(s:f' H c)(h:jw K H a b):jw K c a b:=by
 rcases h with(h|⟨o,h⟩)|h
 .exact .inl (.inl (s _ _ h))
 .exact .inl (.inr ⟨o,s _ _ h⟩)
 .exact .inr h
def E9 {H d a:Hp}(f:H b=B)(s:f' H d)(t:Zr b d a):f' H a:=λc o e=>t c o (s c o e) (Zp e f)
def KH  {Q:VK}(h:uJ z)(k:∀a q,f' H a->uM a q (pH (Txt.split z NL))->Q (.ref q) a):V1 [.str z] H Q E:=Sa h.len h.ln h.n h.rd k
def Ln.sp (h:Ln 0 a)(b:a≠[]):Txt.split (Txt.join NL a) NL=a:=YG b λl c d=>by have:=(h.e l c).ct;exact zI (List.count_pos_iff.mpr d) (by show ¬0<_;have:(cd l).count 10<=0:=this;omega)
def AM{z:U}(h:z.length<=200000):(NL.length==0)=false/\z.length<=sizeLine/\(Txt.split z NL).length<=sizeLine/\(d_ z (bR z NL 0 z.length (z.length+1)) NL.length).length<=sizeLine:=⟨zC,aj h D,aj (YN h).2 D,aj (Py _ _) (aj (iW h 2) D)⟩
def uJ.ρ (h:uJ z):∀T,pH (Txt.split z NL)=.inr T->ow T:=λT e=>Iv (by rw[<-e];exact h.rd)
def Vb:ia [sX,w_,ky,qw,qv,oG,"_law_text"] [sX] (Ze T.pK):=nc
def BZ{f:G}{fd:fe}(zw:∀x∈mE,J x=B)(CC:l8 P w K J S 1 "_law_cell" [sX,oG] (EV K))(CB:l8 P w K J S 1 "_law_box" [w_] Ip)(CT:l8 P w K J S 1 rl [ky,pP] Z7)(CM:l8 P w K J S 12 "_law_many" [ky] EJ)(CW:l8 P w K J S 4 "_law_world" [ky] KP)(CL:l8 P w K J S 1 "_law_lines" [w6] Im)(CD:l8 P w K J S 3 "_law_due" [qw] ES)(CS:l8 P w K J S 4 "_law_spoilt" [ky,qw] Il)(CO:l8 P w K J S 11 "_law_told" [vJ] V1)(F:rQ K "law" "law" T.pK f fd):m7 P w K J S qf 13 f fd [sX] (Sx K):=by
 refine F.ok Vb (λvs H Q E h=>?_) (λek A ec s H vs Q E d h=>?_)
 .obtain⟨a,M,rfl,_⟩:=h;rfl
 .obtain⟨a,M,rfl,hS,ed,k⟩:=h;refine' ⟨_,(Zb ?dd (Zb ?c6 (Zi (Zn VJ)))),?rd⟩;case' c6=>refine' (@Y9 _ _ _ _ _ _ _ _ dH Y (Yy ?h6) (mH 1 Vb.nd) (Zb (st 2 Vb.nd (cn CB d (me (R 1)))) (Zb ?d0 (Zb ?dV (Zb ?dO (Zb ?dy (Zb ?dx (Zb ?dt (Zb ?dn (Zi ?dg))))))))) (by intro _;rfl))
  case' dd=>refine' (ZC (Yn (Yu (cn CM d (me (cn CB d (me (cn CC d (o7 (R 0) Zd)))))))) (Zi (Zn VJ)) Zq)
  case' dg=>refine' (ZC (Zo (WU d.units) (cn CO d (me ?d1)) (Yo (qX Zf Zd Zf)) (Zu _)) (Zi (Zn VJ)) Zq)
  case' dn=>refine' (ZC (Zo JK (Zz (Vs d) Y (bm zw) gX (me (cn CO d (me (R 6))))) (Zz (Vs d) Y (bm zw) gX (me (cn CD d (me (YR bP dY dX Jr (R 6) (me Zf)))))) (Zu _)) (Zi (Zn VJ)) Zq)
  case' dt=>refine' (st 6 Vb.nd ?d3)
  case' dx=>refine' (@Y9 _ _ _ _ _ _ _ _ dH Y (YB Y (bm zw) (me (cn CT d (o7 (R 2) Zd)))) (mH 5 Vb.nd) (Zi ?d4) (by intro _;rfl))
  case' dy=>refine' (ZC (Zo JK (Zz (Vs d) Y (bm zw) gX (me (cn CO d (me ?d5)))) (Zz (Vs d) Y (bm zw) gX (me (cn CD d (me (R 3))))) (Zu _)) (Zi (Zn VJ)) Zq)
  case' dO=>refine' (st 3 Vb.nd ?ea)
  case' dV=>refine' (st 4 Vb.nd (cn CT d (o7 (R 2) (Zz (r:=nJ K) ZO Y (bm zw) bt (me (R 3))))))
  case' d0=>refine' (st 3 Vb.nd (cn CL d (me (il K (cn CW d (me (R 2))) Zd))))
  case' d1=>refine' (il K ?d2 (cn CT d (o7 (R 2) Zd)))
  case' d2=>refine' (Zw (Za ZK (Za Zd (Za VJ (qX (R 3) (ZE YH Y (bm zw) XA (me (R 3))) JU)))))
  case' d4=>refine' (ZC (Zo (Ta d.units) (R 3) (Zw Zg) (Zu _)) (Zi (st 3 Vb.nd (cn CS d (o7 (R 2) (R 3))))) Zq)
  case' d3|d5=>refine' (@Uk _ _ _ _ _ _ _ Zf (me (R 3)) (by exact⟨Y,Y,Y,Y,Y⟩))
  case' ea=>refine' (Zv Yq (ZG (r:=ny K) Z0 (R 3) (ZP (R 4)) ZQ) (ZG (r:=ny K) Z0 (R 3) ZQ (ZP (R 4))))
  case' h6=>refine' (Zv Yq (ZG (r:=ny K) Z0 (R 0) ZQ (ZP Zd)) (Zw (qX Zd Zd Zd)))
  case' rd=>
  refine tq λD1 cc=>?_;refine⟨_,Y,a,M,0,Y,hS,bK _,λc=>⟨c,Y,λb0 H1 cy cE S1=>⟨b0,Y,cE,λH2 S2=>?_⟩⟩⟩;refine⟨true,Y,kv ?_⟩;refine cc _ _ ?_;have c5:=jw.same (E9 cy S1 S2) hS;clear hS S1 S2 cE cy cc;refine tq λD2 cX=>?_;refine⟨_,Y,_,Y,a,_,Y,c5,λp1 e1=>?_⟩;refine⟨zl,λp2 e2=>?_⟩;have cI:p1≠p2:=Zp (Zc (H:=H2) (a:=p1)) e2;have c0:(m_ (M.map V.int) B (O 30)).length+3<=sizeLine:=by
   have h1:=VR (M.map V.int) B (O 30);rw[lm]at h1;have:(100:Nat)<=sizeLine:=by decide
   omega
  refine⟨p1,p2,_,_,Y,Y,(by rw[Zk cI,Zc]),Zc,c0,λp3 e3=>⟨p3,Y,⟨_,jw.of Zc⟩,?_⟩⟩;have aF:∀v∈m_ (M.map V.int) B (O 30)++[V.int 14,V.int 15,V.int 16],∃c,v=.int c:=λv hv=>by
   rcases ba.mp hv with hv|hv
   .exact HR M _ _ v hv
   .simp only[ay,a8,or_false]at hv;rcases hv with rfl|rfl|rfl<;>exact⟨_,Y⟩
  have L0:upd (upd (upd H2 p1 (.lst (m_ (M.map V.int) B (O 30)))) p2 (.lst [V.int 14,V.int 15,V.int 16])) p3 (.lst (m_ (M.map V.int) B (O 30)++[V.int 14,V.int 15,V.int 16])) p3=O (.lst (m_ (M.map V.int) B (O 30)++[V.int 14,V.int 15,V.int 16])):=Zc;generalize upd (upd (upd H2 p1 (.lst (m_ (M.map V.int) B (O 30)))) p2 (.lst [V.int 14,V.int 15,V.int 16])) p3 (.lst (m_ (M.map V.int) B (O 30)++[V.int 14,V.int 15,V.int 16]))=H0 at L0;generalize m_ (M.map V.int) B (O 30)++[V.int 14,V.int 15,V.int 16]=xs at L0 aF;refine HI (K:=K) (a:=p3) (xs:=xs) (λi σ H1=>H1 p3=O (.lst xs)/\∃o:Nat->Option V,σ=[O (.ref a),o 1,o 2,o 3,o 4,o 5,o 6]) ⟨L0,tQ Y⟩ (λi σ H1 _ p=>jw.of p.1) (λi v σ H1 hi p=>?_) (λσ H1 p=>?_);case refine_2=>refine cX _ _ ?_;exact k _
  obtain⟨L1,o,rfl⟩:=p;obtain⟨cl,rfl⟩:=aF v (cU hi);refine tq λD3 b5=>?_;refine⟨_,Y,cl,Y,λb Ha hb bx sm=>?_⟩;have N:p3≠b:=λz=>by subst z;rw[L1]at hb;cases hb
  have La:=sm _ _ L1;refine b5 _ _ ?_;clear hb sm L1 L0 hi;refine tq λD4 b4=>?_;refine⟨_,Y,b,Y,bx,λHb q pw sd l1 l2 l3 l4 W bs s0 s1 s2 s3 a3 a4 nq hq cG cR wa gw sg=>⟨q,_,0,_,Y,Y,jw.of hq,Zy (j:=0) Y,?_⟩⟩;have Lb:=a4 _ _ La N;refine⟨b,pw,l1,l2,l3,l4,W,bs,s0,s1,s2,s3,Y,a3,wa,gw,sg,λHc ql ls Sc a5 aM az bb=>?_⟩;have Lc:=Sc _ _ Lb;have cB:=a3.same Sc;refine b4 _ _ ?_;clear cR wa gw sg a4 Sc hq cG nq La Lb bx a3;have cT:ls.length<=50:=az.n;have cW:0<ls.length:=List.length_pos_iff.mpr bb;refine tq λD5 b3=>?_;refine⟨_,Y,_,Y,ql,_,Y,.inl (jw.of aM),?_⟩;dsimp only[mq];rw[lm];refine⟨b,_,Y,cB,zD,Z6 zD zD,λr Hd h0 h1 Bd Sd=>?_⟩;have aa:r=(r.toNat:Int):=(d7 h0).symm;generalize r.toNat=i at aa;subst aa;refine b3 _ _ ?_;have aP:=Sd _ _ aM a5;have Ld:=Sd _ _ Lc N;clear Sd aM Lc cB b3 b4 b5;refine tq λD6 b2=>?_;refine⟨_,Y,_,Y,_,Y,ql,_,Y,jw.of aP,λg1 cx=>?_⟩;rw[YY ls Y];refine nZ cx λHe Se ee=>?_;refine⟨_,Y,_,Y,_,Y,ql,_,Y,jw.of (Se _ _ aP),λg2 cm=>?_⟩;rw[XW ls Y];refine nZ cm λHf Sf ef=>?_;refine⟨g1,g2,_,_,Y,Y,Sf _ _ ee,ef,aj (by rw[lm,lm,cL,aY];show _+_<=1000;omega) D,λg3 a0=>?_⟩;have Bf:=(Bd.same Se).same Sf;have n3:=Bf.ne a0;refine b2 _ _ ?_;rw[<-aA];refine nl a0 λHg Sg I=>?_;have y:=az.turn i;have ab:ls.drop i++ls.take i≠[]:=λz=>by have:=zM d8 z;rw[aD,cL,aY,dz]at this;omega
  have Bg:=Bf.same Sg;have Lg:=Sg _ _ (Sf _ _ (Se _ _ Ld));clear Se Sf Sg ee ef cx cm a0 Bf Bd aP Ld b2 h1 az;generalize ls.drop i++ls.take i=ah at y ab I;clear cT cW h0 bb a5 aF;refine tq λD7 b1=>?_;refine⟨Y,_,Y,_,g3,_,Y,Y,jw.of I,VM (λl hl=>aj ((y.e l hl).small D) D) (aj y.n D),?_⟩;rw[show(bh "\n":U)=NL from Gw];dsimp only[mq];refine KH (y.text D) λHh q1 Sh r1=>?_;have u:=(y.text D).ρ;rw[y.sp ab]at r1 u;have a7:∀z∈ah,z.length<=1000:=λl hl=>aj ((y.e l hl).small D) D;have aS:ah.length<=1000:=aj y.n D;have C:=K9 aS u;refine⟨q1,_,Y,r1.is u,C.sh,C.dp,C.ln,?_⟩;refine⟨_,Y,g3,ah,Y,Sh _ _ I,a7,aS,λHi q2 Si r2=>?_⟩;refine⟨q2,_,Y,r2.is u,C.sh,C.dp,C.ln,?_⟩;refine⟨Y,_,Y,?_⟩;rw[zJ Y];refine kv ?_;refine b1 _ _ ?_;have ak:=Sh.trans Si;have Bi:=Bg.same ak;have Li:=ak _ _ Lg;have ei:=ak _ _ I;clear ak Sh Si r1 r2 C u a7 aS b1 Bg Lg I;refine tq λD8 bT=>?_;refine qB Bi (λr Hj h0 h1 Bj Sj=>?_);have aa:r=(r.toNat:Int):=(d7 h0).symm;generalize r.toNat=m at aa;subst aa;have hm:m<=3:=by omega
  clear h0 h1;refine⟨_,Y,zD,zD,?_⟩;rw[cw];refine Xy (zA:=tJ 0 m) m (λj σ H'=>ZJ H' b/\H' p3=O (.lst xs)/\∃g a6,g≠b/\H' g=O (.lst (a6.map V.str))/\Ln j a6/\∃o:Nat->Option V,σ=[O (.ref a),o 1,O (.ref b),O (.ref g),o 4,o 5,o 6]) ?_ (λj σ H' hj q=>hj) (λσ H' q=>aq _) (λj σ H' x Hk hj q yl=>?_) (λσ H' q=>?_)
  .exact⟨Bj,Sj _ _ Li N,g3,ah,n3,Sj _ _ ei n3,y,tQ Y⟩
  .obtain⟨Bk,Lk,g,X,ng,I,L,o,rfl⟩:=q;obtain⟨rfl,rfl⟩:=yl;refine⟨_,Y,zl,λt0 cP=>?_⟩;dsimp only;refine nZ cP λHl Sl el=>?_;refine⟨g,t0,_,Y,Y,jw.of (Sl _ _ I),el,_,Y,?_⟩;rw[zH Y];cases X with
  |nil=>refine kv ?_;exact⟨Bk.same Sl,Sl _ _ Lk,g,[],ng,Sl _ _ I,L.succ,tQ Y⟩
  |cons l0 lr=>refine kq ?_;refine⟨_,Y,_,Y,b,g,_,j,Y,Bk.same Sl,ng,Sl _ _ I,L,zD,zE,λHm gq cK Bm Sm cH em cN=>?_⟩;exact⟨Bm,Sm _ _ (Sl _ _ Lk) N,gq,cK,cH,em,cN,tQ Y⟩
  obtain⟨Bk,Lk,g,X,ng,I,L,o2,rfl⟩:=q;refine bT _ _ ?_;clear bT Bi Li ei Sj Bj y ab n3;have hz:∀l∈X,l.length<=1000:=λl hl=>aj ((L.e l hl).small hm) D;have ej:X.length<=53:=aj L.n zD;have tx:=L.text hm;refine tq λD9 bM=>?_;refine⟨Y,_,Y,_,g,_,Y,Y,jw.of I,VM hz zD,?_⟩;rw[show(bh "\n":U)=NL from Gw];refine bM _ _ ?_;generalize Txt.join NL X=z at tx;refine tq λer ar=>?_;refine⟨_,Y,?_⟩;dsimp only[mq];refine KH tx λHh q1 Sh r1=>?_;have u:=tx.ρ;have C:=K9 tx.n u;refine⟨q1,_,Y,r1.is u,C.sh,C.dp,C.ln,?_⟩;obtain⟨c1,c2,c3,c4⟩:=AM tx.len;refine⟨_,Y,Y,_,_,Y,Y,c1,c2,c3,c4,λg5 ck=>?_⟩;dsimp only[mq];rw[show(bh "\n":U)=NL from Gw];have Si:=Zh (o:=.lst ((Txt.split z NL).map V.str)) Sh ck;have ei:upd Hh g5 (.lst ((Txt.split z NL).map V.str)) g5=O (.lst ((Txt.split z NL).map V.str)):=Zc;generalize upd Hh g5 (.lst ((Txt.split z NL).map V.str))=Hi at Si ei ⊢;refine⟨g5,_,Y,ei,tx.ln,tx.n,λHn q2 Sn r2=>?_⟩;refine⟨q2,_,Y,r2.is u,C.sh,C.dp,C.ln,?_⟩;refine⟨Y,_,Y,?_⟩;rw[zJ Y];refine kv ?_;refine ar _ _ ?_;have zu:=Si.trans Sn;have Bn:=Bk.same zu;have eb:=zu _ _ Lk;have en:=zu _ _ I;clear zu Si Sn r1 r2 C u tx ei ck Sh Bk Lk I bM ar c1 c2 c3 c4;refine⟨_,Y,_,Y,g,_,Y,.inl ⟨jw.of en,λg6 cj=>?_⟩⟩;dsimp only;refine nZ cj λHo So eo=>?_;refine λg7 cf=>?_;dsimp only[mq,Yg];have Sp:=Zh (o:=.dK []) (f'.refl Ho) cf;have ep:upd Ho g7 (.dK []) g7=O (.dK []):=Zc;have b6:=Bn.ne cj;have b7:=(Bn.same So).ne cf;generalize upd Ho g7 (.dK [])=Hp at Sp ep ⊢;refine⟨zl,λg8 ai=>?_⟩;have Sq:=Zh (o:=.lst [V.non,.int 5,.bl true,.ref g,.ref g6,.ref g7]) (So.trans Sp) ai;have eq:upd Hp g8 (.lst [V.non,.int 5,.bl true,.ref g,.ref g6,.ref g7]) g8=O (.lst [V.non,.int 5,.bl true,.ref g,.ref g6,.ref g7]):=Zc;have e6:=(Zh (o:=.lst [V.non,.int 5,.bl true,.ref g,.ref g6,.ref g7]) Sp ai) _ _ eo;have e7:=(Zh (o:=.lst [V.non,.int 5,.bl true,.ref g,.ref g6,.ref g7]) (f'.refl _) ai) _ _ ep;have b8:=(Bn.same (So.trans Sp)).ne ai;have Bq:=Bn.same Sq;generalize upd Hp g8 (.lst [V.non,.int 5,.bl true,.ref g,.ref g6,.ref g7])=Hq at Sq eq e6 e7 Bq ⊢;refine qB Bq (λr Hr h0 h1 Br Sr=>?_);obtain⟨v,hv,mv⟩:=JJ (xs:=[V.non,.int 5,.bl true,.ref g,.ref g6,.ref g7]) h0 h1;refine⟨g8,_,_,_,Y,Y,jw.of (Sr _ _ eq b8),hv,?_⟩;have th:∃T',Th Hr v T'/\∀z,v≠.str z:=by
   simp only[ay,a8,or_false]at mv;rcases mv with rfl|rfl|rfl|rfl|rfl|rfl
   .exact⟨_,.non,λ_ q=>by cases q⟩
   .exact⟨_,.int _,λ_ q=>by cases q⟩
   .exact⟨_,.bl _,λ_ q=>by cases q⟩
   .exact⟨_,.lst (Sr _ _ (Sq _ _ en) ng),λ_ q=>by cases q⟩
   .exact⟨_,.tup (Sr _ _ e6 b6),λ_ q=>by cases q⟩
   .exact⟨_,.dK (Sr _ _ e7 b7),λ_ q=>by cases q⟩
  obtain⟨T',th,cS⟩:=th;refine⟨v,Y,.inl ⟨T',th,cS,λHs q3 Ss e3=>?_⟩⟩;refine⟨zl,λt ht=>?_⟩;have St:=Zh (o:=.tup [.str "line",.int ((0:Nat):Int),.str "form"]) (f'.refl Hs) ht;have et:upd Hs t (.tup [.str "line",.int ((0:Nat):Int),.str "form"]) t=O (.tup [.str "line",.int ((0:Nat):Int),.str "form"]):=Zc;have aC:fM (Xo 0 "form")=true/\km (Xo 0 "form") (Xo 0 "form")=true:=Tp 0 zC;refine⟨Xo 0 "form",Xo 0 "form",Vk (St _ _ e3),Vk et,aC.1,aC.1,_,Y,?_⟩;rw[aC.2];refine kv ?_;exact⟨St _ _ (Ss _ _ (Sr _ _ (Sq _ _ eb) N)),tQ Y⟩
end
end TX
namespace L2
open PySem PySem.Spec PyProof.Rows
section
variable {K:af}{h:bC}{J:U->Option Z}{x:U}
def ZaP{st:b_}{i:List U}{f:G}{s:Z}{r o:Option G}{p:Array (Option Z)}{kV d j b n:Z}(X:K.In h)(q:h.Ns bI J)(a:br K bI x=O (O (.ref f)))(l:K.lookup f=O ⟨s,r,.func (dw x x (Y7 st) (ZT st) (Ze st) .none kV d j o b n),p⟩)(c:fU K b x=true)(k:cb K (.ref f)=true)(t:∀(kV d j:Z)(o:Option G)(b n:Z)(g:List Z),g.length=i.length->bindArgs (dw x x (Y7 st) (ZT st) (Ze st) .none kV d j o b n) ⟨g,[]⟩=pure (i.zip g)):Df K J x st i:=⟨f,_,UC l c k,fN X q a,(UC l c k).binds t⟩
def Zab{C:G}{m b:U}{st:b_}{n:List U}{f:G}{t:Z}{s q:Option G}{r:Array (Option Z)}{kV g o d p:Z}(a:a_ K (.ref C) m=O (O (.ref f)))(i:jC K (.ref f)=true)(l:K.lookup f=O ⟨t,s,.func (dw m b (Y7 st) (ZT st) (Ze st) .none kV g o q d p),r⟩)(c:fU K d b=true)(k:cb K (.ref f)=true)(u:∀(kV g o:Z)(q:Option G)(d p:Z)(j:List Z),j.length=n.length->bindArgs (dw m b (Y7 st) (ZT st) (Ze st) .none kV g o q d p) ⟨j,[]⟩=pure (n.zip j)):qQ K C m b st n:=⟨f,_,UC l c k,⟨a,i,k⟩,(UC l c k).binds u⟩
def PD  (X:K.In h)(b:h.Ns bI J)(a:br K bI x=O (O (.str z t))):∃t,J x=O (.str z t):=⟨t,fN X b a⟩
def PJ{z:Int}(X:K.In h)(b:h.Ns bI J)(a:br K bI x=O (O (.int z t))):∃t,J x=O (.int z t):=⟨t,fN X b a⟩
def LI{w:bg} {n:Nat}{i g f d:Int}(X:K.In h)(j:h.Ns bI J)(r:br K bI x=O (O (.ref a)))(c:K.lookup a=O ⟨.type "dict",B,.dict b n,#[]⟩)(hk:iO w.params b.toList)(y:br K a "places"=O (O (.int i q)))(u:br K a "rides"=O (O (.int g p)))(t:br K a "ways"=O (O (.int f o)))(s:br K a "groups"=O (O (.int d l))):∃a,J x=O (.ref a)/\Je K w a "places" (.int i)/\Je K w a "rides" (.int g)/\Je K w a "ways" (.int f)/\Je K w a "groups" (.int d):=⟨a,fN X j r,⟨b,n,_,c,hk,y,⟨q,Y⟩⟩,⟨b,n,_,c,hk,u,⟨p,Y⟩⟩,⟨b,n,_,c,hk,t,⟨o,Y⟩⟩,⟨b,n,_,c,hk,s,⟨l,Y⟩⟩⟩
end
def MB{K:af}{o:eN}{n:Nat}{c:List U}(f:K.lookup a=O o)(h:o.cls=.type "tuple")(g:o.data=.seq b n)(hs:b.size<=sizeLine)(d:Zt (c.map V.str) b.toList):∀H,lR K H a (c.map V.str):=λ_=>.inr ⟨o,b,n,f,h,g,hs,d⟩
def oE{z:U}{a:List U}(h:Zt (a.map V.str) b):Zt ((z::a).map V.str) (.str z t::b):=.cons ⟨t,Y⟩ h
end L2
namespace TX
open PySem L2 PySem.Spec PyProof.Rows TB WD
def Zav:ia [mG,"part","at","why"] [mG,"part","at","why"] (Ze T.nH):=nc
structure θ(K:af)(J:U->Option Z)(x qual:U)(st:b_)(C Qa:G)(ps:List U):Prop where
 at_:∃fI fd,yP K J x C fI Qa/\rQ K "__init__" qual st fI fd/\Binds K fd ps []
def vR{K:af}{j a:G}{t s:Z}{r q:Option G}{c b:Array (Option Z)}{h:Nat}(n:K.lookup j=O ⟨t,r,.cls i,c⟩)(p:i.ns=a)(l:K.lookup a=O ⟨s,q,.dict g h,b⟩)(d:(g.toList.all λe=>match e.key with|.str _ _=>true|_=>false)=true)(o:br K a "__init__"=O B):i8 K qD (.ref j::qD)=true:=by
 have f:i9 K a=true:=by unfold i9;rw[l];dsimp only;rw[<-Array.all_toList];exact d
 subst p;unfold i8;rw[Bool.or_eq_true];refine .inr ?_;dsimp only;rw[n];dsimp only;rw[f,o];unfold i8;rw[show(qD==qD)=true from by decide];rfl
def vr{p:List U}{K:af}{h:bC}{J:U->Option Z}{x b:U}{st:b_}{C g j N:G}{s q:U}{bs:List Z}{o:List U}{sub:List Z}{I:Bool}{f:Option Bool}{A:Option G}{z y w u t:Option Z}{c1 W:Z}{d1 od H:Option G}{i:Array DictEntry}{T:Nat}{L M:Array (Option Z)}{kV d r c E:Z}(KX:K.In h)(zr:h.Ns bI J)(a:br K bI x=O (O (.ref C)))(l:K.lookup C=O (excClassObj s q C N bs (.ref j::qD) true o sub I f A z y w u t "ValueError.__new__"))(n1:K.lookup N=O ⟨c1,d1,.dict i T,L⟩)(P:(i.toList.all λe=>match e.key with|.str _ _=>true|_=>false)=true)(n2:br K N "__init__"=O (O (.ref g)))(tl:i8 K qD (.ref j::qD)=true)(lf:K.lookup g=O ⟨W,od,.func (dw "__init__" b (Y7 st) (ZT st) (Ze st) .none kV d r H c E),M⟩)(cf:W=.type "function")(cc:fU K c b=true)(ck:cb K (.ref g)=true)(sa:a_ K (.ref C) "__setattr__"=O (O (.builtin "object.__setattr__")))(ob:js K C (.type "object")=O true)(ga:a_ K (.ref C) "__getattribute__"=O (O (.builtin "BaseException.__getattribute__")))(gg:a_ K (.ref C) "__getattr__"=O B)(hd:gG K C=true)(be:js K C (.type "BaseException")=O true)(kp:cb K (.ref C)=true)(hb:∀(kV d r:Z)(H:Option G)(c E:Z)(n:List Z),n.length=p.length->bindArgs (dw "__init__" b (Y7 st) (ZT st) (Ze st) .none kV d r H c E) ⟨n,[]⟩=pure (p.zip n)):θ K J x b st C j p:=by
 have Q:i9 K N=true:=by unfold i9;rw[n1];dsimp only;rw[<-Array.all_toList];exact P
 have F:=UC (st:=st) lf cc ck;have X:yP K J x C g j:=⟨⟨⟨s,q,N,bs,o,sub,I,f,A,z,y,w,u,t,l,Q,n2⟩,tl,⟨_,lf,cf⟩,sa,ob⟩,⟨ga,gg,hd,be⟩,⟨s,q,N,bs,_,true,o,sub,I,f,A,z,y,w,u,t,_,l,by rw[gn];exact Bool.or_eq_true_iff.mpr (.inr D)⟩,fN KX zr a,kp⟩;exact⟨g,_,X,F,F.binds hb⟩
structure uP(K:af)(J:U->Option Z)(Cb Qa:G):Prop where
 at_:θ K J "BadTable" "BadTable.__init__" T.nH Cb Qa [mG,"part","at","why"]
 na:a_ K (.ref Cb) "part"=O B/\a_ K (.ref Cb) "at"=O B/\a_ K (.ref Cb) "why"=O B
def E7:ia [mG,"row","why"] [mG,"row","why"] (Ze T.nR):=nc
structure sG(K:af)(J:U->Option Z)(Cl Qa:G):Prop where
 at_:θ K J "BadLine" "BadLine.__init__" T.nR Cl Qa [mG,"row","why"]
 na:a_ K (.ref Cl) "row"=O B/\a_ K (.ref Cl) "why"=O B
section
variable {P:a9}{w:bg}{K:af}{J:U->Option Z}{S:bC}{C Cb Cl Qa:G}
def uP.err(b:uP K J Cb Qa):wR P w K J S "BadTable" ["part","at","why"] Cb:=by obtain⟨c,a,X,F,d⟩:=b.at_.at_;exact⟨⟨c,Qa,a,[mG,"part","at","why"],X.xc,ZaG F Zav Y ⟨D,D⟩ ⟨D,D⟩ ⟨D,D⟩ X.xc b.na.1 b.na.2.1 b.na.2.2 D D D,D,d⟩,X.xr,X.mg,X.kp⟩
def sG.err(b:sG K J Cl Qa):wR P w K J S "BadLine" ["row","why"] Cl/\xS P w K J S "BadLine" ["row","why"] Cl:=by obtain⟨c,a,X,F,d⟩:=b.at_.at_;exact⟨⟨⟨c,Qa,a,[mG,"row","why"],X.xc,ZaH F E7 Y ⟨D,D⟩ ⟨D,D⟩ X.xc b.na.1 b.na.2 D,D,d⟩,X.xr,X.mg,X.kp⟩,⟨⟨c,Qa,a,[mG,"row","why"],X.xc,C5 F E7 Y ⟨D,D⟩ ⟨D,D⟩ X.xc b.na.1 b.na.2 D,D,d⟩,X.mg,X.kp⟩⟩
structure wQ(K:af)(C:G):Prop where
 rW:qQ K C "take_places" "Table.take_places" T.mL [mG,"places"]
 sR:qQ K C "take_rides" "Table.take_rides" T.mN [mG,"rides"]
 t_:qQ K C "take_ways" "Table.take_ways" T.mU [mG,"ways"]
 rX:qQ K C "take_groups" "Table.take_groups" T.mM [mG,"groups"]
 told:qQ K C "told" "Table.told" T.oJ [mG]
 vo:qQ K C "is_place" "Table.is_place" T.m9 [mG,mJ]
 v_:qQ K C "is_home" "Table.is_home" T.nA [mG,mJ]
structure vD(K:af)(J:U->Option Z)(C:G):Prop where
 cl:rH K C
 init:∃f fd,Mk K C f/\rQ K "__init__" "Table.__init__" T.kx f fd/\Binds K fd [mG,"turns","places","rides","ways","groups"] []
 mg:J "Table"=O (.ref C)
 ms:wQ K C
structure Defs(K:af)(J:U->Option Z):Prop where
 vn:Df K J "is_whole" T.qJ [mJ]
 uk:Df K J "is_within" T.qs [mJ,"low","high"]
 qI:Df K J "is_text_of" T.qb [mJ,"longest","signs"]
 tU:Df K J "is_name" T.rg [mJ]
 pJ:Df K J "is_group_name" T.oX [mJ]
 ui:Df K J "number_of" T.qr [mJ]
 vp:Df K J "is_known" T.pR [mJ,"names"]
 vW:Df K J "rows_of" T.qj ["part","rows"]
 qu:Df K J "wrong_beginning" T.mW ["part","row","names_ahead"]
 sQ:Df K J "wrong_ends" T.nM [nu,"start","goal"]
 rR:Df K J "wrong_place" T.oh ["row"]
 sP:Df K J "wrong_ride" T.nK [nu,"row"]
 t9:Df K J "wrong_way" T.n_ [nu,"row"]
 rS:Df K J "wrong_group" T.oi [nu,"row","people_ahead"]
 sU:Df K J "refuse_row" T.oM ["part","at","why"]
 vb:Df K J "row_text" T.oK ["first","things"]
 sZ:Df K J "place_text" T.oP ["row"]
 sT:Df K J "show_table" T.mz [nu]
 uc:Df K J "read_word" T.pf ["word","form"]
 vf:Df K J "read_row" T.oO ["words"]
 ud:Df K J "read_rows" T.ph ["lines"]
 tf:Df K J "made_table" T.mB ["rows_by_part"]
 sV:Df K J "read_table" T.oN ["text"]
 uI:Df K J "_law_cell" T.pC [sX,oG]
 vB:Df K J "_law_box" T.pV [w_]
 uz:Df K J rl T.pz [ky,pP]
 tD:Df K J "_law_names" T.mi [ky,pP]
 sy:Df K J "_law_places" T.oo [ky]
 uC:Df K J "_law_size" T.pA [ky]
 uH:Df K J "_law_ends" T.nk [ky,mQ]
 uD:Df K J "_law_ride" T.pB [ky,pF,o5,mQ]
 vw:Df K J "_law_way" T.pS [ky,pF,mQ]
 tF:Df K J "_law_group" T.oR [ky,pF,o5,mQ]
 tj:Df K J "_law_world" T.mC [ky]
 tE:Df K J "_law_lines" T.nN [w6]
 ux:Df K J "_law_word" T.pq [ky,pd]
 qm:Df K J "_law_line_spoilt" T.mO [ky,qV]
 sx:Df K J "_law_spoilt" T.om [ky,qw]
 uE:Df K J "_law_name" T.oa [pd,"_law_most",rk]
 rF:Df K J "_law_figures" T.mX [pd]
 vz:Df K J "_law_row" T.pU [qV]
 rG:Df K J "_law_between" T.nV [mQ,sW,"_law_goal"]
 tG:Df K J "_law_amiss" T.mY [o5,mQ,pd,tS,"_law_ahead"]
 vA:Df K J "_law_due" T.nU [qw]
 uy:Df K J "_law_told" T.pv [vJ]
 uG:Df K J "_law_full" T.og [ky]
 uF:Df K J "_law_many" T.ni [ky]
 tm:Df K J "_law_words" T.oQ [qV]
def Wm(W:K1.Txt K J)(c:TB.Txt K J)(Zs:sC K w J)(Zm:sE K w J)(g:J "enumerate"=B)(a:Defs K J)(t:vD K J C)(b:uP K J Cb Qa):Ξ P w K J S C Cb:=by obtain⟨f,y,M,F,bd⟩:=t.init;have l:=b.err (P:=P) (w:=w) (S:=S);have z:=K1.DS (P:=P) (w:=w) (S:=S) W a.vn;have d:=K1.Kg (P:=P) (w:=w) (S:=S) a.uk z;have q:=K1.Qh (P:=P) (w:=w) (S:=S) W a.qI;have I:=K1.TY (P:=P) (w:=w) (S:=S) W a.tU q;have T:=K1.Q0 (P:=P) (w:=w) (S:=S) W a.pJ q;have L:=Eg (P:=P) (w:=w) (S:=S) c a.vp;have n:=TZ (P:=P) (w:=w) (S:=S) t.cl t.ms.vo L;have N:=Kn (P:=P) (w:=w) (S:=S) t.cl t.ms.v_ n;have r:=Ao (P:=P) (w:=w) (S:=S) t.cl a.sQ n N;have j:=Ki (P:=P) (w:=w) (S:=S) c Zs a.qu I T;have i:=Kj (P:=P) (w:=w) (S:=S) l a.sU;have o:=Ad (P:=P) (w:=w) (S:=S) c Zm l a.vW;have c1:=DV (P:=P) (w:=w) (S:=S) t.cl g t.ms.rW j (Kf c a.rR d) i;have c2:=DU (P:=P) (w:=w) (S:=S) t.cl g t.ms.sR j (Ae c t.cl a.sP d r) i;have c3:=DT (P:=P) (w:=w) (S:=S) t.cl g t.ms.t_ j (O0 c t.cl a.t9 d r) i;have X:=DW (P:=P) (w:=w) (S:=S) t.cl g t.ms.rX j (Kh c t.cl a.rS d n) i;refine⟨⟨f,y,M,F.z8 A7 (λu H Q E h=>?_) λaa A p s H u Q E x h=>Kr c t.cl l (d.mono D) (o.mono D) (c1.mono D) (c2.mono D) (c3.mono D) (X.mono D) x h,bd⟩,t.mg⟩;obtain⟨t',dx,vT,T',v1,v2,v3,v4,r1,r2,r3,r4,rfl,_⟩:=h;rfl
def OL  (W:K1.Txt K J)(X:K1.wq K J)(E:TB.Txt K J)(Zs:sC K w J)(M:sE K w J)(c:∀x∈mE,J x=B)(Bd:J "dict"=B)(FF:qP K w J aF)(PP:qM K w J aP)(a:Defs K J)(t:vD K J C)(b:uP K J Cb Qa)(bl:sG K J Cl Qa)(F:rQ K "law" "law" T.pK f I):m7 P w K J S qf 13 f I [sX] (Sx K):=by have H:=Wm (P:=P) (S:=S) W E Zs M (bm c) a t b;have i:=t.cl;have d:=HY (P:=P) (w:=w) (S:=S) (J:=J) a.uz;have l:=HZ (P:=P) (w:=w) (S:=S) (J:=J) d a.uC;have z:=Ea (P:=P) (w:=w) (S:=S) (J:=J) c d a.tD;have A:=Ef (P:=P) (w:=w) (S:=S) (J:=J) c d a.uH;have n:=DR (P:=P) (w:=w) (S:=S) (J:=J) c d z (Kk c d z l a.sy) (Ed c d l A a.uD) (Ah c d l A a.vw) (Km c d a.tF) a.tj;have j:=K1.Qh (P:=P) (w:=w) (S:=S) (J:=J) W a.qI;have o:=HW (P:=P) (w:=w) (S:=S) (J:=J) (K1.Kl X a.ui j) (K1.TY W a.tU j) (K1.Q0 W a.pJ j) a.uc;obtain⟨y,L⟩:=bl.err (P:=P) (w:=w) (S:=S);obtain⟨fb,ab,Q,_,_⟩:=b.at_.at_;obtain⟨fl,aa,N,_,_⟩:=bl.at_.at_;have r:=Ab (P:=P) (w:=w) (S:=S) (J:=J) c y (DY c PP y (Ac c FF o a.vf) a.ud) (Af H Q b.na L a.tf) a.sV;have g:=DX (P:=P) (w:=w) (S:=S) (J:=J) c a.vb;have q:=Aa (P:=P) (w:=w) (S:=S) (J:=J) i c g (DZ c g a.sZ) a.sT;have h:=Ec (P:=P) (w:=w) (S:=S) (J:=J) c i N bl.na r q (HX i t.ms.told) a.uy;have u:=Al (P:=P) (w:=w) (S:=S) (J:=J) c Bd (Aj c (Ak c a.rF) (Ee c a.uE) a.vz) (O3 c (Am c a.rG) a.tG) a.vA;have p:=O1 (P:=P) (w:=w) (S:=S) (J:=J) c d (Ai c d (Eb c d a.ux) a.qm) a.sx;have s:=Ag (P:=P) (w:=w) (S:=S) (J:=J) c (An c d a.uG) h (OZ c a.tm) a.uF;exact BZ c (Ap c a.uI) (O4 c a.vB) d s n (O2 c a.tE) u p h F
def xt{l:lB}{h:bC}{p f:G}(X:K.In h)(A:h.Ns bI J)(j:J "law"=O (.ref p))(Wt:K1.Txt K J)(Gt:TB.Txt K J)(Zs:sC K w J)(W:sE K w J)(z:∀x∈mE,J x=B)(E:Defs K J)(L:∃C,vD K J C)(M:∃Qa Cb Cl,uP K J Cb Qa/\sG K J Cl Qa)(WN:K1.wq K J)(Bd:J "dict"=B)(Q:∃y,qP K w J y)(N:∃u,qM K w J u){I:Z}{H r:Option G}{i:Array (Option Z)}{kV g n d q:Z}(a:br K bI "law"=O (O (.ref f)))(lk:K.lookup f=O ⟨I,H,.func (dw "law" "law" (Y7 T.pK) (ZT T.pK) (Ze T.pK) .none kV g n r d q),i⟩)(c:fU K d "law"=true)(k:cb K (.ref f)=true):∃o:fe,(∀(s:ao)(v:Z),BindsTo s o ⟨[v],[]⟩ [(sX,v)])/\∀S:bC,K.In S->S.Ns bI J->m7 l.prog w K J S qf 13 p o [sX] (Sx K):=by have e:=j.symm.trans (fN X A a);cases e;obtain⟨C,t⟩:=L;obtain⟨Qa,Cb,Cl,b,bl⟩:=M;obtain⟨y,FF⟩:=Q;obtain⟨u,PP⟩:=N;have F:=UC (st:=T.pK) lk c k;exact⟨dw "law" "law" (Y7 T.pK) (ZT T.pK) (Ze T.pK) .none kV g n r d q,λs v=>.of_eq Y,λS _ _=>OL Wt WN Gt Zs W z Bd FF PP E t b bl F⟩
end
def HG{K:af}{c:Z}{d:Option G}{n:Nat}{j:Array (Option Z)}{l:List U}(q:K.lookup a=O ⟨c,d,.dict i n,j⟩)(o:(i.toList.all λe=>match e.key with|.str z _=>l.contains z|_=>false)=true){z:U}(p:z∉l):br K a z=O B:=by
 have f:∀e∈i.toList,e.key.isStr z=false/\e.refKey=false:=λe b=>by
  have h:=bY.mp o e b;obtain⟨r,k,v⟩:=e;cases k with
 |str x t=>
   refine⟨?_,Y⟩;have h:l.contains x=true:=h;cases s:(iH x t).isStr z with
  |false=>rfl
  |true=>exact zI (by rw[<-show x=z by simpa[Value.isStr]using s];simpa using h) p
 |_=>cases h
 unfold br;rw[q];dsimp only;rw[List.find?_eq_none.mpr λe b=>by rw[(f e b).1];exact aW];dsimp only;rw[zG];intro h;obtain⟨e,b,g⟩:=List.any_eq_true.mp h;rw[(f e b).2]at g;cases g
def vq{K:af} {w:bg} {n:Nat}(X:K.In h)(A:h.Ns bI J)(ha:br K bI "FORMS"=O (O (.ref a)))(q:K.lookup a=O ⟨.type "dict",B,.dict c n,#[]⟩)(hk:iO w.params c.toList)(hs:(a==fK)=false)(hz:(c.toList.all λe=>match e.key with|.str z _=>(["turns","place","home","ride","way","group"]:List U).contains z|_=>false)=true)(n0:br K a "turns"=O (O (.ref y)))(M:∀H,lR K H y ((["number"]:List U).map V.str))(W:br K a "place"=O (O (.ref x)))(L:∀H,lR K H x ((["name","number"]:List U).map V.str))(T:br K a "home"=O (O (.ref u)))(I:∀H,lR K H u ((["name"]:List U).map V.str))(Q:br K a "ride"=O (O (.ref t)))(F:∀H,lR K H t ((["name","name","number","name","number","number"]:List U).map V.str))(P:br K a "way"=O (O (.ref s)))(E:∀H,lR K H s ((["name","name","name","number","number"]:List U).map V.str))(N:br K a "group"=O (O (.ref r)))(C:∀H,lR K H r ((["group name","name","number","number"]:List U).map V.str)):∃aF,qP K w J aF:=by
 refine⟨a,fN X A ha,⟨c,n,q,hk,hs⟩,λz f b=>?_,λz b=>HG q hz λp=>?_⟩;rotate_left
 .unfold ZN at b;simp only[ay,a8,or_false]at p;rcases p with rfl|rfl|rfl|rfl|rfl|rfl<;>revert b<;>decide +kernel
 unfold ZN at b;by_cases o:z="turns"
 .rw[zH o]at b;cases b;subst o;exact⟨y,n0,M⟩
 rw[zG o]at b;by_cases l:z="place"
 .rw[zH l]at b;cases b;subst l;exact⟨x,W,L⟩
 rw[zG l]at b;by_cases j:z="home"
 .rw[zH j]at b;cases b;subst j;exact⟨u,T,I⟩
 rw[zG j]at b;by_cases i:z="ride"
 .rw[zH i]at b;cases b;subst i;exact⟨t,Q,F⟩
 rw[zG i]at b;by_cases g:z="way"
 .rw[zH g]at b;cases b;subst g;exact⟨s,P,E⟩
 rw[zG g]at b;by_cases d:z="group"
 .rw[zH d]at b;cases b;subst d;exact⟨r,N,C⟩
 rw[zG d]at b;cases b
def vi{K:af} {w:bg}{p o l i g f:Tok}{n:Nat}(X:K.In h)(q:h.Ns bI J)(A:br K bI "PARTS"=O (O (.ref a)))(d:K.lookup a=O ⟨.type "dict",B,.dict c n,#[]⟩)(hk:iO w.params c.toList)(y:br K a "turns"=O (O (.str "turns" p)))(x:br K a "place"=O (O (.str "places" o)))(u:br K a "home"=O (O (.str "places" l)))(t:br K a "ride"=O (O (.str "rides" i)))(s:br K a "way"=O (O (.str "ways" g)))(r:br K a "group"=O (O (.str "groups" f))):∃C,qM K w J C:=by
 refine⟨a,fN X q A,λj E z b=>?_⟩;have e:j=0\/j=1\/j=2\/j=3\/j=4:=by omega
 unfold mh at b;rcases e with rfl|rfl|rfl|rfl|rfl
 .obtain rfl:=aL.mp b;exact⟨c,n,_,d,hk,y,⟨p,Y⟩⟩
 .have b:z∈(["place","home"]:List U):=b;simp only[ay,a8,or_false]at b;rcases b with rfl|rfl
  .exact⟨c,n,_,d,hk,x,⟨o,Y⟩⟩
  .exact⟨c,n,_,d,hk,u,⟨l,Y⟩⟩
 .obtain rfl:=aL.mp b;exact⟨c,n,_,d,hk,t,⟨i,Y⟩⟩
 .obtain rfl:=aL.mp b;exact⟨c,n,_,d,hk,s,⟨g,Y⟩⟩
 .obtain rfl:=aL.mp b;exact⟨c,n,_,d,hk,r,⟨f,Y⟩⟩
def wU{K:af}  {i:Z}{g j:Option G}{a:Array (Option Z)}(X:K.In h)(n:h.Ns bI J)(A:br K bI "Table"=O (O (.ref C)))(q:iD K C d6=true)(y:gG K C=true)(p:kJ K C=true)(o:a_ K (.ref C) "__setattr__"=O (O (.builtin "object.__setattr__")))(mk:ly K C=true)(t:cb K (.ref C)=true)(y1:a_ K (.ref C) "turns"=O B)(y2:a_ K (.ref C) "places"=O B)(y3:a_ K (.ref C) rN=O B)(y4:a_ K (.ref C) "rides"=O B)(W:a_ K (.ref C) "ride_by_name"=O B)(Q:a_ K (.ref C) "ways"=O B)(P:a_ K (.ref C) "way_by_name"=O B)(N:a_ K (.ref C) "groups"=O B)(M:a_ K (.ref C) "group_by_name"=O B)(E:a_ K (.ref C) "__init__"=O (O (.ref c)))(w:jC K (.ref c)=true)(s:K.lookup c=O ⟨i,g,.func (dw "__init__" "Table.__init__" (Y7 T.kx) (ZT T.kx) (Ze T.kx) .none I l H j b L),a⟩)(z:fU K b "Table.__init__"=true)(u:cb K (.ref c)=true)(r:wQ K C):∃C,vD K J C:=by have F:=UC (st:=T.kx) s z u;refine⟨C,⟨⟨q,y,p,o⟩,λf d=>?_⟩,⟨c,_,⟨mk,E,w,t⟩,F,F.binds λ_ _ _ _ _ _ us x=>by obtain⟨_,_,_,_,_,_,rfl⟩:=v7 x;rfl⟩,fN X n A,r⟩;unfold fields at d;simp only[ay,a8,or_false]at d;rcases d with rfl|rfl|rfl|rfl|rfl|rfl|rfl|rfl|rfl<;>assumption
def walk{l:lB}  {j:bg->bC->Prop}{d:DefRec}{K:Params->af}(r:l.most=O 63)(b:d.params.defaults=[])(y:∀(w:bg)(h:bC),j w h->(K w.params).In h)(F:∀(w:bg)(J:U->Option Z)(i:G)(h:bC),(K w.params).In h->h.Ns bI J->J d.name=O (.ref i) ->∃g:fe,(∀(s:ao)(u:Z),BindsTo s g ⟨[u],[]⟩ [(sX,u)])/\∀S:bC,(K w.params).In S->S.Ns bI J->m7 l.prog w (K w.params) J S qf 13 i g [sX] (Sx (K w.params))):PySem.W.WalkO q c C j l.row.toRowW d [] (λf o=>PySem.call f o):=L2.AJ (n:=63) (k:=13) (x:=sX) (CX:=λ_=>qf) (sp:=λw=>Sx (K w.params)) r D b ⟨Y,D,D,Y⟩ y F (λ_ _ a p t _ A=>⟨a,p,Y,A,t,λ_=>rfl⟩) λ_ _ _ _ _ z=>z
end TX
open PySem PySem.W PyProof.Rows
set_option hygiene false in
local macro_rules
|`(tactic| o_head $H)=>`(tactic| (
   refine holds_open (q:=RG.QV) (loose:=RG.LO) (Xt:=RG.XT) (XP:=XL RG.QV [])
    (Yf:=Hook.obs $H) (Ya:=Hook.val $H) (YP:=Hook.says $H) (N:=14000) ?hl (Hook.of $H) (Hook.keeps $H) (λs e=>xl_of s (fR.mp e).1)
    XL.keeps zF zF zF (λs e=>recFacts_of (fR.mp e).2) zF (by first|assumption|decide +kernel) zC
    ⟨Y,Y,Y,Y,Y,zC⟩ ?hw ?hc
   case' hl=>exact RG.ZaF (by kernel_rfl) (λs=>by kernel_rfl) RG.kfE (λw=>rfl)))
set_option maxRecDepth 100000 in
set_option maxHeartbeats 0 in
theorem PySem.Challenge.cw_homequay_k08_whole_any_text_holds : PySem.Challenge.rw_homequay_k08_whole_any_text.Holds := by
 w_on;refine PySem.W.holds_law RG.ws λsaid=>?_;o_head (kHook RG.hk.heap_1 RG.AS RG.eK);(case hw=>w_witness2);k_fill;refine TX.walk (l:=cu) Y Y (λw h zf=>PySem.W.kIn_of zf) ?F;case F=>
  intro w J fa h KX zr hmg;have zB:TX.Defs (L2.rP KX) J:=by dsimp only[L2.rP];constructor<;>(refine' L2.ZaP KX zr ?a ?l ?c ?k ?b;(case a=>k_is);(case l=>k_is);(case c=>k_is);(case k=>k_is);(case b=>exact λ_ _ _ _ _ _ us hl=>by first|(obtain⟨_,rfl⟩:=L2.rz hl;rfl)|(obtain⟨_,_,rfl⟩:=L2.p_ hl;rfl)|(obtain⟨_,_,_,rfl⟩:=L2.sf hl;rfl)|(obtain⟨_,_,_,_,rfl⟩:=L2.qY hl;rfl)|(obtain⟨_,_,_,_,_,rfl⟩:=L2.rp hl;rfl)))
  have zw:∀x∈WD.mE,J x=B:=by intro x hx;unfold WD.mE at hx;simp only[ay,a8,or_false]at hx;rcases hx with rfl|rfl|rfl|rfl|rfl|rfl|rfl|rfl|rfl|rfl|rfl|rfl|rfl<;>(refine' hV KX zr ?a;(case a=>k_is))
  have W:K1.Txt (L2.rP KX) J:=by constructor<;>((first|refine' hV KX zr ?a|refine' L2.PD KX zr ?a|refine' L2.PJ KX zr ?a);(case a=>k_is))
  have WN:K1.wq (L2.rP KX) J:=by constructor<;>((first|refine' hV KX zr ?a|refine' L2.PD KX zr ?a|refine' L2.PJ KX zr ?a);(case a=>k_is))
  have Gt:TB.Txt (L2.rP KX) J:=by constructor<;>((first|refine' hV KX zr ?a|refine' L2.PD KX zr ?a|refine' L2.PJ KX zr ?a);(case a=>k_is))
  have hF:∃aF,TX.qP (L2.rP KX) w J aF:=by dsimp only[L2.rP];refine' TX.vq KX zr ?a ?l ?k ?s ?hz ?n0 (L2.MB ?l0 ?c0 ?d0 ?z0 ?v0) ?n1 (L2.MB ?l1 ?c1 ?d1 ?z1 ?v1) ?n2 (L2.MB ?l2 ?c2 ?d2 ?z2 ?v2) ?n3 (L2.MB ?l3 ?c3 ?d3 ?z3 ?v3) ?n4 (L2.MB ?l4 ?c4 ?d4 ?z4 ?v4) ?n5 (L2.MB ?l5 ?c5 ?d5 ?z5 ?v5);(case a=>k_is);(case l=>k_is);(case k=>k_keys);(case s=>rfl);(case hz=>rfl);(case n0=>k_is);(case l0=>k_is);(case c0=>rfl);(case d0=>rfl);(case z0=>decide);(case v0=>exact L2.oE (.nil));(case n1=>k_is);(case l1=>k_is);(case c1=>rfl);(case d1=>rfl);(case z1=>decide);(case v1=>exact L2.oE (L2.oE (.nil)));(case n2=>k_is);(case l2=>k_is);(case c2=>rfl);(case d2=>rfl);(case z2=>decide);(case v2=>exact L2.oE (.nil));(case n3=>k_is);(case l3=>k_is);(case c3=>rfl);(case d3=>rfl);(case z3=>decide);(case v3=>exact L2.oE (L2.oE (L2.oE (L2.oE (L2.oE (L2.oE (.nil)))))));(case n4=>k_is);(case l4=>k_is);(case c4=>rfl);(case d4=>rfl);(case z4=>decide);(case v4=>exact L2.oE (L2.oE (L2.oE (L2.oE (L2.oE (.nil))))));(case n5=>k_is);(case l5=>k_is);(case c5=>rfl);(case d5=>rfl);(case z5=>decide);(case v5=>exact L2.oE (L2.oE (L2.oE (L2.oE (.nil)))))
  have hP:∃aP,TX.qM (L2.rP KX) w J aP:=by dsimp only[L2.rP];refine' TX.vi KX zr ?a ?l ?k ?n0 ?n1 ?n2 ?n3 ?n4 ?n5;(case a=>k_is);(case l=>k_is);(case k=>k_keys);(case n0=>k_is);(case n1=>k_is);(case n2=>k_is);(case n3=>k_is);(case n4=>k_is);(case n5=>k_is)
  have Zs:TB.sC (L2.rP KX) w J:=by refine⟨?_⟩;dsimp only[L2.rP];refine' L2.LI KX zr ?a ?l ?k ?h1 ?h2 ?h3 ?h4;(case a=>k_is);(case l=>k_is);(case k=>k_keys);(case h1=>k_is);(case h2=>k_is);(case h3=>k_is);(case h4=>k_is)
  have Zm:TB.sE (L2.rP KX) w J:=by refine⟨?_⟩;dsimp only[L2.rP];refine' L2.LI KX zr ?a ?l ?k ?h1 ?h2 ?h3 ?h4;(case a=>k_is);(case l=>k_is);(case k=>k_keys);(case h1=>k_is);(case h2=>k_is);(case h3=>k_is);(case h4=>k_is)
  have hb:∃Qa Cb Cl,TX.uP (L2.rP KX) J Cb Qa/\TX.sG (L2.rP KX) J Cl Qa:=by
   dsimp only[L2.rP];refine' ⟨_,_,_,⟨TX.vr KX zr ?a_0 ?l_0 ?CK ?yo ?B_ ?tl ?E_ ?U' ?V' ?TL ?zW ?z_ ?O' ?N_ ?L_ ?W' ?F_ ?Xc,?yY,?yW,?yU⟩,⟨TX.vr KX zr ?a_1 ?l_1 ?CH ?yn ?A' ?tl ?D_ ?U_ ?V_ ?Ts ?zV ?z9 ?O_ ?NQ ?L3 ?W_ ?FV ?Xb,?yX,?yV⟩⟩;(case a_0=>k_is);(case l_0=>k_is);(case CK=>k_is);(case yo=>rfl);(case B_=>k_is);(case E_=>k_is);(case U'=>rfl);(case V'=>k_is);(case TL=>k_is);(case zW=>k_is);(case z_=>k_is);(case O'=>k_is);(case N_=>k_is);(case L_=>k_is);(case W'=>k_is);(case F_=>k_is);(case yY=>k_is);(case yW=>k_is);(case yU=>k_is);(case Xc=>exact λ_ _ _ _ _ _ us hl=>by first|(obtain⟨_,rfl⟩:=L2.rz hl;rfl)|(obtain⟨_,_,rfl⟩:=L2.p_ hl;rfl)|(obtain⟨_,_,_,rfl⟩:=L2.sf hl;rfl)|(obtain⟨_,_,_,_,rfl⟩:=L2.qY hl;rfl)|(obtain⟨_,_,_,_,_,rfl⟩:=L2.rp hl;rfl))
   (case a_1=>k_is);(case l_1=>k_is);(case CH=>k_is);(case yn=>rfl);(case A'=>k_is);(case D_=>k_is);(case U_=>rfl);(case V_=>k_is);(case Ts=>k_is);(case zV=>k_is);(case z9=>k_is);(case O_=>k_is);(case NQ=>k_is);(case L3=>k_is);(case W_=>k_is);(case FV=>k_is);(case yX=>k_is);(case yV=>k_is);(case Xb=>exact λ_ _ _ _ _ _ us hl=>by first|(obtain⟨_,rfl⟩:=L2.rz hl;rfl)|(obtain⟨_,_,rfl⟩:=L2.p_ hl;rfl)|(obtain⟨_,_,_,rfl⟩:=L2.sf hl;rfl)|(obtain⟨_,_,_,_,rfl⟩:=L2.qY hl;rfl)|(obtain⟨_,_,_,_,_,rfl⟩:=L2.rp hl;rfl))
   (case tl=>refine' TX.vR ?lq ?eq ?nq ?nqe ?iq;(case lq=>k_is);(case eq=>rfl);(case nq=>k_is);(case nqe=>rfl);(case iq=>k_is))
  have Bd:J "dict"=B:=by refine' hV KX zr ?a;(case a=>k_is)
  have ht:∃C,TX.vD (L2.rP KX) J C:=by dsimp only[L2.rP];refine' TX.wU KX zr ?aC ?pg ?hd ?po ?sa ?mk ?kc ?y1 ?y2 ?y3 ?y4 ?y5 ?y6 ?y7 ?y8 ?y9 ?a1 ?i1 ?l1 ?c1 ?k1 ?ms;(case aC=>k_is);(case pg=>k_is);(case hd=>k_is);(case po=>k_is);(case sa=>k_is);(case mk=>k_is);(case kc=>k_is);(case y1=>k_is);(case y2=>k_is);(case y3=>k_is);(case y4=>k_is);(case y5=>k_is);(case y6=>k_is);(case y7=>k_is);(case y8=>k_is);(case y9=>k_is);(case a1=>k_is);(case i1=>k_is);(case l1=>k_is);(case c1=>k_is);(case k1=>k_is);(case ms=>constructor<;>(refine' L2.Zab ?za ?zi ?zl ?zc ?zk ?zb;(case za=>k_is);(case zi=>k_is);(case zl=>k_is);(case zc=>k_is);(case zk=>k_is);(case zb=>exact λ_ _ _ _ _ _ us hl=>by first|(obtain⟨_,rfl⟩:=L2.rz hl;rfl)|(obtain⟨_,_,rfl⟩:=L2.p_ hl;rfl)|(obtain⟨_,_,_,rfl⟩:=L2.sf hl;rfl)|(obtain⟨_,_,_,_,rfl⟩:=L2.qY hl;rfl)|(obtain⟨_,_,_,_,_,rfl⟩:=L2.rp hl;rfl))))
  refine' TX.xt KX zr hmg W Gt Zs Zm zw zB ht hb WN Bd hF hP ?fa ?fl ?fc ?fk;(case fa=>k_is);(case fl=>k_is);(case fc=>k_is);(case fk=>k_is)
