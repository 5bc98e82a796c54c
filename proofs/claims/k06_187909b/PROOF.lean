import PyProof.Rows.All
import Wide.All
import OpenK.AllK
import Wide.FinOn
import Lean
import PyProof.EqAt
import PyProof.EqKinds
import PyProof.TupleCall
import KE.KIntText
import KE.IntTextLaws
import PyProof.ExcClass3
import PyProof.InstStoreFacts
import PyProof.ExcBaseAll.ValueError
import PyProof.NsDelKeeps
import PyProof.ExcAttrAll.ValueError
import OpenK.KTop
import PyProof.ZipIter
import PyProof.ListNew
import PyProof.ListRange
import PyProof.ReprRoads
import PyProof.Rows.FactsT3
import PyProof.Rows.SumAny
import PyProof.CompUse
import PyProof.EqLayable
import PyProof.CallFns
import PyProof.StrBlock
import PyProof.StrCalls
import PyProof.EnumMake
import PyProof.ReprLen
import PyProof.SeqRoads2
import PySem.Challenge.RW_homequay_k06_tables_made_of_tables
open PySem.W renaming Frag->aa,findIn->aF,kitOne->aR,keepIn->bo,nsIn->bE,fnOf->bO,kia_one->bW,emptyDict->ca,instObj->cJ,codeIn->cY,kia_tup->dg,hasDictIn->dj,mg_of->dE,callWith_K->dL
open PySem renaming Value->ac,Addr->ae,wpAny_bind->af,Shared->ag,wpAny_pure->au,sizeLine->av,Program->aA,wpAny->aB,World->aI,starEach->aO,Heap->aX,Around->ba,Stmt->bc,mainGlobals->bf,boot_len->bt,wpAny_holding->bw,wpAny_field->bD,Scope->bH,mem_of_lookup->cZ,Within->dA,keywordEach->dJ,NameKind->dM
open PySem.Heap renaming get?_push_of_some->ah,lt_size->ap,get?_push_size->aU,get?_update_other->aV,get?_update_self->bz,size_push->da,SameBut->dC
open List renaming getElem?_eq_some_iff->ai,getElem?_map->ak,mem_cons_of_mem->am,mem_cons_self->ao,mem_cons->aq,size_toArray->ar,mem_map->aw,mem_of_getElem?->aG,not_mem_nil->aK,length_take->aL,map_append->aN,mem_append_right->aP,map_cons->aQ,length_append->aT,getElem_mem->aW,mem_iff_getElem?->aY,take_of_length_le->aZ,getD_eq_getElem?_getD->a9,mem_append_left->bg,length_cons->bh,mem_singleton->bi,getElem?_append_left->bj,mem_append->bp,length_map->bA,append_nil->bB,getElem?_append_right->bC,length_drop->bI,range->bN,nodup_cons->bQ,getElem?_set_self->bR,drop_eq_getElem_cons->bS,take_succ->bY,map_map->bZ,take_length->b7,length_zip->cg,getElem?_set_ne->cr,mem_filter->cw,length_set->cy,all_eq_true->cA,length_filter_le->cF,mem_of_mem_take->cO,lookup_cons->db,eq_nil_of_length_eq_zero->dh,nodup_append->dy,mem_range->dz,find?_cons->dS,zip_cons_cons->dW,contains_cons->dX
open Nat renaming le_refl->aj,le_trans->ax,lt_of_lt_of_le->aD,ne_of_lt->aE,lt_irrefl->bJ,lt_succ_of_lt->bK,zero_le->bV,ne_of_gt->b5,lt_of_le_of_lt->b6,lt_succ_self->cq,eq_zero_or_pos->cD
open PySem.Value renaming ref->ay,none->bq,type->cU
open Bool renaming false_ne_true->az,and_eq_true->br,false_eq_true->bG,and_eq_true_iff->cQ,true_and->dR,eq_iff_iff->dU
open Option.some renaming inj->aH
open Or renaming inl->aJ
open Int renaming toNat_natCast->a8,lt_of_lt_of_le->di
open PySem.Builtin.SmallTypes renaming nextOf->bu,ownedTupleIsFree->ci
open Option renaming map_eq_some_iff->bF,map_some->cu,isSome_iff_exists->dI
open Ne renaming symm->bL
open PySem.Obj renaming mapSeq->bP,data_mapFields->dY
open False renaming elim->bU
open PyProof.Rows renaming callWith_type1->bX,boot_repr->dH
open PySem.NameKind renaming free->b9
open True renaming intro->cb
open PySem.Str renaming empty->ce,ofString->cV
open PySem.Builtin renaming bitAnd->cj
open Sum renaming inr->cv
open PySem.Builtin.ObjectAttr renaming storeInDict->cz
open PySem.F renaming slot_list_append->cC,slot_tuple_iterator_next->dG,plainAttrs_list->dQ,slot_zip_next->d5
open PySem.PyData renaming depthAll->cL,str->dN,hasDict->dZ
open Array renaming getElem?_eq_getElem->cM
open PySem.PassesOwn renaming never->dc
open PySem.Builtin.List renaming listExtendWith->de
open PySem.Builtin.Str renaming strSliceIndices->df
open PySem.Builtin.Slice renaming slicePlaces->dm
open PySem.Heap.SameBut renaming update->dq
open PySem.Builtin.Tuple renaming tupleExact->dw
open PySem.SeqAt renaming shaped->dB
open ForInStep renaming yield->dD
open PySem in
abbrev q_b:Str:="_law_box_here"
open PySem in
abbrev q_w:Str:="_law_world_here"
open PySem in
abbrev q_p:Str:="_law_places_here"
open PySem in
abbrev q_s:Str:="_law_strange"
open PySem in
abbrev q_n:Str:="_law_name_here"
open PySem in
abbrev q_t:Str:="_law_table_here"
namespace RG
open PySem PySem.W PyProof.Rows
noncomputable def runG(thr ok:Thread->Bool)(st:SharedT->Thread->Option (SharedT×Thread))(n:Nat):SharedT->Thread->Option SharedT:=@Nat.rec (λ_=>SharedT->Thread->Option SharedT) (λ_ _=>none) (λ_ ih s t=>@Bool.rec (λ_=>Option SharedT) (@Bool.rec (λ_=>Option SharedT) none (@Option.rec (SharedT×Thread) (λ_=>Option SharedT) none (λx=>@Prod.rec SharedT Thread (λ_=>Option SharedT) (λs' t'=>ih s' t') x) (st s t)) (ok t)) (some s) (thr t)) n
theorem QF{tb:String->Option Builtin}{p:aA}{w:aI}{m:Nat}{ann:Option ac}:∀{n:Nat}{s r:SharedT}{t:Thread},runG through (stepOk m ann) (stepT (denote tb) p w) n s t=some r->topRun tb p w m ann n s.abs t=some r.abs
|0,_,_,_,h=>by cases h
|n+1,s,r,t,h=>by
  have h':@Bool.rec (λ_=>Option SharedT) (@Bool.rec (λ_=>Option SharedT) none (@Option.rec (SharedT×Thread) (λ_=>Option SharedT) none (λx=>@Prod.rec SharedT Thread (λ_=>Option SharedT) (λs' t'=>runG through (stepOk m ann) (stepT (denote tb) p w) n s' t') x) (stepT (denote tb) p w s t)) (stepOk m ann t)) (some s) (through t)=some r:=h;unfold topRun;cases ht:through t with
 |true=>rw[ht]at h';cases h';rfl
 |false=>
   rw[ht]at h';cases ho:stepOk m ann t with
  |false=>rw[ho]at h';cases h'
  |true=>
    rw[ho]at h';cases hs:stepT (denote tb) p w s t with
   |none=>rw[hs]at h';cases h'
   |some x=>obtain⟨s',t'⟩:=x;rw[hs]at h';rw[stepT_spec hs];exact QF (n:=n) h'
noncomputable def mkT(l:List Obj):BT:=(l.foldl (λ(x:BT×Nat)o=>(x.1.ins x.2 o,x.2+1)) (BT.nil,0)).1
noncomputable def T0(w:aI)(os:OsState):SharedT:=⟨mkT (boot_heap w.params).objs.toList,11,(boot_heap w.params).life,⟨[]⟩,boot_drawn,boot_toks,os⟩
theorem DN(w:aI)(os:OsState):(T0 w os).abs=⟨boot_heap w.params,⟨[]⟩,boot_drawn,boot_toks,os⟩:=by kernel_rfl
theorem sz(w:aI):((boot_heap w.params).isNs bf&&((⟨[]⟩:Array GenState).size==0),(boot_heap w.params).objs.size,(boot_heap w.params).nsMap bf "__annotations__")=(true,11,some (.ref 6)):=by kernel_rfl
noncomputable def go(p:aA)(n:Nat)(w:aI)(os:OsState):Option SharedT:=runG through (PySem.W.Fast.tw6613529449190102663 11 (some (.ref 6))) (PySem.W.Fast.tw10156331382660048174 (PySem.W.Fast.tw11892475500146522536 PySem.W.Fast.tw14364793385576792824) p w) n (T0 w os) (topStub p)
theorem Fv(p:aA)(n:Nat)(w:aI)(os:OsState):go p n w os=runG through (stepOk 11 (some (.ref 6))) (stepT (denote treeTable) p w) n (T0 w os) (topStub p):=by unfold go;rw[PySem.W.Fast.te6613529449190102663,PySem.W.Fast.te10156331382660048174,PySem.W.Fast.te11892475500146522536,PySem.W.Fast.te14364793385576792824]
noncomputable def chk(p:aA)(w:aI)(s:ag):Bool:=staticsOk (importedModules p.main.body) (boot_heap w.params) s.heap&&namesBound p s.heap&&gensDone s&&laidKept (boot_heap w.params) s.heap
noncomputable def lk(p:aA){α:Type}(F:ag->α)(n:Nat)(w:aI)(os:OsState):Option α:=@Option.rec SharedT (λ_=>Option α) none (λr=>some (F r.abs)) (go p n w os)
noncomputable abbrev lkS(p q:aA)(loose:List Str)(Xt:ag->Bool)(n:Nat)(w:aI)(os:OsState):=lk p (λs=>(chk p w s,PySem.W.Fast.tw4187177175401517315 q loose (PySem.W.Fast.tw5923862056798008813 p.main.body) Xt true s)) n w os
theorem left{p q:aA}{loose:List Str}{Xt:ag->Bool}{α:Type}{Yf:ag->α}{Ya:aI->α}{N:Nat}(row:String)(e1:opening p=plainProg p.main.scope.names)(e2:Nat.ble 600 N=true)(e3:∀s:ag,fenceModules? p s=some s)(hf:∀(w:aI)(os:OsState),lkS p q loose Xt N (w.withFollow row false) os=some (true,openGood q loose))(ht:∀(w:aI)(os:OsState),lkS p q loose Xt N (w.withFollow row true) os=some (true,openGood q loose))(kf:∀(w:aI)(os:OsState),lk p Yf N (w.withFollow row false) os=some (Ya (w.withFollow row false)))(kt:∀(w:aI)(os:OsState),lk p Yf N (w.withFollow row true) os=some (Ya (w.withFollow row true))):LeftO p q loose Xt Yf Ya N:=λw=>by
 have hw:∀os:OsState,lkS p q loose Xt N w os=some (true,openGood q loose):=byRow2 row (P:=λw=>∀os:OsState,lkS p q loose Xt N w os=some (true,openGood q loose)) hf ht w;have kw:∀os:OsState,lk p Yf N w os=some (Ya w):=byRow2 row (P:=λw=>∀os:OsState,lk p Yf N w os=some (Ya w)) kf kt w;obtain⟨⟨h,gs,d,k,os⟩,e,e'⟩:=bF.mp (boot_open e1 e2 e3 w);obtain⟨rfl,rfl,rfl,rfl⟩:h=boot_heap w.params/\gs=⟨[]⟩/\d=boot_drawn/\k=boot_toks:=by simpa using e'
 obtain⟨z1,z2,z3⟩:_/\_/\_:=by simpa only[Prod.mk.injEq]using sz w
 have hl:=hw os;have kl:=kw os;unfold lkS lk at hl;unfold lk at kl;rw[<-PySem.W.Fast.te4187177175401517315,<-PySem.W.Fast.te5923862056798008813]at hl;cases hg:go p N w os with
|none=>rw[hg]at hl;cases hl
|some r=>
  rw[hg]at hl kl;have hl':(chk p w r.abs,openSeen q loose (importedModules p.main.body) Xt true r.abs)=(true,openGood q loose):=aH hl;have kl':Yf r.abs=Ya w:=aH kl;obtain⟨l1,l2⟩:=Prod.mk.inj hl';rw[Fv]at hg;have hr:=QF hg;rw[DN]at hr;have t:topFrom treeTable p w N ⟨boot_heap w.params,⟨[]⟩,boot_drawn,boot_toks,os⟩=some r.abs:=by
   unfold topFrom;dsimp only;rw[z1,z2,z3,hr];show(match chk p w r.abs with|true=>some r.abs|false=>none)=_
   rw[l1]
  unfold openEnds;rw[e];show(topFrom treeTable p w N _).map _=_;rw[t];exact congrArg some (Prod.ext l2 kl')
end RG
set_option Elab.async false
set_option linter.all false
set_option maxRecDepth 100000
set_option maxHeartbeats 4000000
namespace RG
open PySem PySem.W PyProof.Rows
noncomputable def tp(i:Nat):bc:=PySem.Challenge.pw_homequay_k06_tables_made_of_tables.main.body.getD i (.Pass ⟨0,0,0,0⟩)
noncomputable def QV:aA:={PySem.Challenge.pw_homequay_k06_tables_made_of_tables with main:={PySem.Challenge.pw_homequay_k06_tables_made_of_tables.main with body:=[tp 0,tp 2,tp 3,tp 4,tp 5,tp 6,tp 7,tp 8,tp 10,tp 11,tp 12,tp 13,tp 14,tp 15,tp 16,tp 17,tp 18,tp 19,tp 21,tp 22,tp 23,tp 24,tp 25,tp 26,tp 27,tp 28,tp 29,tp 30,tp 31,tp 32,tp 33,tp 34,tp 35,tp 36,tp 38,tp 39,tp 40,tp 41,tp 42,tp 43,tp 44,tp 45,tp 46,tp 47,tp 48,tp 49,tp 50,tp 51,tp 52,tp 53,tp 54,tp 55,tp 56,tp 57,tp 58,tp 59,tp 60,tp 61,tp 62,tp 63,tp 64,tp 65,tp 66,tp 67]}}
noncomputable abbrev LO:List Str:=["MOST_ROWS","ROW_SIZES"]
noncomputable abbrev XT:ag->Bool:=λs=>xlAt QV [] s&&recOk (RowW.records (OpenRow.toRowW (PySem.Challenge.rw_homequay_k06_tables_made_of_tables.row))) s
theorem lf(w:aI)(os:OsState):lkS PySem.Challenge.pw_homequay_k06_tables_made_of_tables QV LO XT 8688 (w.withFollow "special-get-raises" false) os=some (true,openGood QV LO):=by kernel_rfl
theorem lt(w:aI)(os:OsState):lkS PySem.Challenge.pw_homequay_k06_tables_made_of_tables QV LO XT 8688 (w.withFollow "special-get-raises" true) os=some (true,openGood QV LO):=by kernel_rfl
noncomputable def AS:List ae:=[2,3,15,17,18,20,21,22,29,30,31,32,35,42,44,45,47,48,49,50,51,54,61,63,64,66,67,68,69,70,73,80,82,83,85,86,87,88,89,92,99,101,102,104,105,106,107,108,111,118,120,121,123,124,125,126,127,130,137,139,140,142,143,144,145,146,149,151,152,154,155,156,158,159,161,162,163,166,167,168,170,171,173,174,175,177,178,180,181,182,183,184,186,187,189,190,191,193,194,196,197,198,200,201,203,204,205,207,208,210,211,212,214,215,217,218,219,221,222,224,225,226,228,229,231,232,233,235,236,238,239,240,242,243,245,246,254,256,257,259,260,261,263,264,266,267,268,270,271,273,274,275,277,278,280,281,282,284,285,287,288,289,291,292,294,295,296,298,299,301,302,303,305,306,308,309,310,312,313,315,316,317,319,320,322,323,324,326,327,329,330,331,333,334,336,337,338,341,342,343,345,346,348,349,350,352,353,355,356,357,359,360,362,363,364,367,368,369,371,372,374,375,376,379,380,381,383,384,386,387,388,390,391,393,394,395,398,399,400,402,403,405,406,407,409,410,412,413,414,417,418,419,420,421,422,423,433,435,436,438,439,440,442,443,445,446,447,450,451,452,454,455,457,458,459,461,462,464,465,466,469,470,471,473,474,476,477,478,480,481,483,484,485,487,488,490,491,492,495,496,497,499,500,502,503,504,506,507,509,510,511,513,514,516,517,518,520,521,523,524,525,528,529,530,532,533,535,536,537,539,540,542,543,544,546,547,549,550,551,553,554,556,557,558,560,561,563,564,565,567,568,570,571,572,574,575,577,578,579,582,583,584,586,587,589,590,591,593,594,596,597,598,600,601,603,604,605,608,609,610,612,613,615,616,617,620,621]
theorem kA(w:aI)(os:OsState):lk PySem.Challenge.pw_homequay_k06_tables_made_of_tables (λs=>AS.map s.heap.get?) 8688 (w.withFollow "special-get-raises" true) os=lk PySem.Challenge.pw_homequay_k06_tables_made_of_tables (λs=>AS.map s.heap.get?) 8688 (w.withFollow "special-get-raises" false) os:=by kernel_rfl
theorem Fn{p q:aA}{loose:List Str}{Xt:ag->Bool}{α:Type}{Yf:ag->α}{Ya:aI->α}{N:Nat}(row:String)(e1:opening p=plainProg p.main.scope.names)(e2:Nat.ble 600 N=true)(e3:∀s:ag,fenceModules? p s=some s)(hf:∀(w:aI)(os:OsState),lkS p q loose Xt N (w.withFollow row false) os=some (true,openGood q loose))(ht:∀(w:aI)(os:OsState),lkS p q loose Xt N (w.withFollow row true) os=some (true,openGood q loose))(kf:∀(w:aI)(os:OsState),lk p Yf N (w.withFollow row false) os=some (Ya (w.withFollow row false)))(ka:∀(w:aI)(os:OsState),lk p Yf N (w.withFollow row true) os=lk p Yf N (w.withFollow row false) os)(hv:∀w:aI,Ya (w.withFollow row true)=Ya (w.withFollow row false)):LeftO p q loose Xt Yf Ya N:=left row e1 e2 e3 hf ht kf λw os=>by rw[ka w os,kf w os,hv w]
end RG
namespace L2
open PySem PySem.Spec PyProof.Rows
noncomputable abbrev Key:=Sum Int Str
noncomputable def Pa:Key->ac->Bool
|.inl k,v=>Value.isInt k v
|.inr x,v=>Value.isStrOf x v
noncomputable def keyH(w:aI):Key->Int
|.inl k=>hashInt k
|.inr x=>hashStr w x
theorem Ys:∀{k:Key}{v:ac},Pa k v=true->(∃i t,k=Sum.inl i/\v=Value.int i t)\/(∃x t,k=cv x/\v=Value.str x t)
|.inl i,v,h=>by obtain⟨t,e⟩:=Value.isInt_shape (k:=i) (v:=v) h;exact .inl ⟨i,t,rfl,e⟩
|.inr x,v,h=>by obtain⟨t,e⟩:=Value.isStrOf_shape (x:=x) (v:=v) h;exact .inr ⟨x,t,rfl,e⟩
theorem Wr(i:Int)(t:Tok):Pa (.inl i) (.int i t)=true:=by simp[Pa,Value.isInt]
theorem Wq(x:Str)(t:Tok):Pa (.inr x) (.str x t)=true:=by simp[Pa,Value.isStrOf]
theorem EA(a b:Int):decide ((Sum.inl a:Key)=Sum.inl b)=(a==b):=by
 by_cases e:a=b
 ·subst e;simp
 ·have h:¬(Sum.inl a:Key)=Sum.inl b:=λq=>e (Sum.inl.inj q);rw[decide_eq_false h];exact(beq_eq_false_iff_ne.mpr e).symm
theorem Ex(a b:Str):decide ((cv a:Key)=cv b)=decide (a=b):=by
 by_cases e:a=b
 ·subst e;simp
 ·have h:¬(cv a:Key)=cv b:=λq=>e (Sum.inr.inj q);rw[decide_eq_false h,decide_eq_false e]
theorem Ez(a:Int)(b:Str):decide ((Sum.inl a:Key)=cv b)=false:=decide_eq_false (λq=>nomatch q)
theorem Ey(a:Str)(b:Int):decide ((cv a:Key)=Sum.inl b)=false:=decide_eq_false (λq=>nomatch q)
noncomputable def YI(prog:aA)(w:aI):PySem.KeyKind prog w Key where
 is:=Pa
 hash:=keyH w
 inj:=λv a b ha hb=>by
  rcases Ys ha with⟨i,t,rfl,rfl⟩|⟨x,t,rfl,rfl⟩
  ·rcases Ys hb with⟨j,u,rfl,e⟩|⟨y,u,rfl,e⟩
   ·injection e with e1 _;rw[e1]
   ·exact nomatch e
  ·rcases Ys hb with⟨j,u,rfl,e⟩|⟨y,u,rfl,e⟩
   ·exact nomatch e
   ·injection e with e1 _;rw[e1]
 byValue:=λk v h=>by rcases Ys h with⟨i,t,rfl,rfl⟩|⟨x,t,rfl,rfl⟩<;>rfl
 pyHash:=λhv h=>by
  rcases Ys hv with⟨i,t,rfl,rfl⟩|⟨x,t,rfl,rfl⟩
  ·exact wpAny_pyHash_int h
  ·exact wpAny_pyHash_str h
 eqBool:=λhu hv h=>by
  rcases Ys hu with⟨i,t,rfl,rfl⟩|⟨x,t,rfl,rfl⟩
  ·rcases Ys hv with⟨j,u,rfl,rfl⟩|⟨y,u,rfl,rfl⟩
   ·rw[EA]at h;exact wpAny_eqBool_int h
   ·rw[Ez]at h;exact SeqAt.EqAt.int_str i t y u _ _ _ _ h
  ·rcases Ys hv with⟨j,u,rfl,rfl⟩|⟨y,u,rfl,rfl⟩
   ·rw[Ey]at h;exact SeqAt.EqAt.str_int x t j u _ _ _ _ h
   ·rw[Ex]at h;exact wpAny_eqBool_str h
 «strs»:=λk x t v h=>by
  rcases Ys h with⟨i,u,rfl,e⟩|⟨y,u,rfl,e⟩
  ·exact nomatch e
  ·injection e with e1 _
   subst e1
   cases v<;>rfl
theorem QS(prog:aA)(w:aI)(i:Int)(t:Tok):(YI prog w).is (.inl i) (.int i t)=true:=Wr i t
theorem QR(prog:aA)(w:aI)(x:Str)(t:Tok):(YI prog w).is (.inr x) (.str x t)=true:=Wq x t
open PySem PySem.Spec PyProof.Rows
inductive V where
|non|bl (b:Bool)|int (i:Int)|str (x:Str)|byt (b:Array UInt8)|flt (b:UInt64)|ref (a:ae)|ty (n:String)
 deriving DecidableEq
noncomputable def RelV:V->ac->Prop
|.non,u=>u=bq
|.bl b,u=>u=Value.bool b
|.int i,u=>∃t,u=Value.int i t
|.str x,u=>∃t,u=Value.str x t
|.byt b,u=>∃t,u=Value.bytes b t
|.flt b,u=>∃t,u=Value.float b t
|.ref a,u=>u=ay a
|.ty n,u=>u=cU n
noncomputable abbrev Vals:List V->List ac->Prop:=Paired RelV
theorem Vals.length{xs:List V}{us:List ac}(r:Vals xs us):xs.length=us.length:=Paired.length r
theorem Vals.get:∀{xs:List V}{us:List ac}{i:Nat}{x:V},Vals xs us->xs[i]?=some x->∃u,us[i]?=some u/\RelV x u
|_,_,_,_,.nil,e=>by simp at e
|_,_,0,_,.cons r _,e=>by simp at e;subst e;exact⟨_,rfl,r⟩
|_,_,i+1,x,.cons _ t,e=>by obtain⟨u,h1,h2⟩:=Vals.get (i:=i) (x:=x) t (by simpa using e);exact⟨u,by simpa using h1,h2⟩
theorem Vals.set{x:V}{u:ac}(r:RelV x u):∀{xs:List V}{us:List ac}(i:Nat),Vals xs us->Vals (xs.set i x) (us.set i u)
|_,_,_,.nil=>.nil
|_,_,0,.cons _ t=>.cons r t
|_,_,i+1,.cons q t=>.cons q (Vals.set r i t)
theorem Vals.append:∀{xs ys:List V}{us ws:List ac},Vals xs us->Vals ys ws->Vals (xs++ys) (us++ws)
|_,_,_,_,.nil,s=>s
|_,_,_,_,.cons r t,s=>.cons r (Vals.append t s)
theorem Vals.take:∀{xs:List V}{us:List ac}(n:Nat),Vals xs us->Vals (xs.take n) (us.take n)
|_,_,0,_=>.nil
|_,_,_+1,.nil=>.nil
|_,_,n+1,.cons r t=>.cons r (Vals.take n t)
theorem Vals.drop:∀{xs:List V}{us:List ac}(n:Nat),Vals xs us->Vals (xs.drop n) (us.drop n)
|_,_,0,r=>r
|_,_,_+1,.nil=>.nil
|_,_,n+1,.cons _ t=>Vals.drop n t
noncomputable def RelO:Option V->Option ac->Prop
|some v,some u=>RelV v u
|none,none=>True
|_,_=>False
noncomputable def KV{κ:Type}:List (κ×V)->List (κ×ac)->Prop:=Paired λ(p:κ×V)(q:κ×ac)=>p.1=q.1/\RelV p.2 q.2
noncomputable def kV:Key->V
|.inl i=>.int i
|.inr x=>.str x
inductive HO where
|lst (xs:List V)
|tup (xs:List V)
|dK (kvs:List (Key×V))|dT (kvs:List (List Key×V))
|set (S:Int->Bool) (n:Nat)
|ins (C dx:ae) (fs:List (Str×V))
|own (x:ae)
|xd (fs:List (Str×V))
|met (f x:ae)
|rng (lo hi:Int)
|frz (o:Obj) (u:HO)
|tbl (ps:Array ac)
|ext (φ:aX->Prop)
noncomputable abbrev Hp:=ae->Option HO
noncomputable def upd(H:Hp)(a:ae)(o:HO):Hp:=λb=>if b=a then some o else H b
theorem Ze{H:Hp}{a:ae}{o:HO}:upd H a o a=some o:=by unfold upd;rw[if_pos rfl]
theorem Zj{H:Hp}{a b:ae}{o:HO}(h:b≠a):upd H a o b=H b:=by unfold upd;rw[if_neg h]
theorem ne_of{H:Hp}{a b:ae}{o u:HO}(h:H a=some o)(h':H b=some u)(d:o≠u):a≠b:=by intro e;subst e;rw[h]at h';exact d (aH h')
theorem Zk{H:Hp}{a b:ae}{o:HO}(h:H a=some o)(h':H b=none):a≠b:=by intro e;subst e;rw[h]at h';cases h'
section
variable (P:aA)(w:aI)
noncomputable def ZV(H:Hp)(h:aX)(a:ae):HO->Prop
|.lst xs=>xs.length<=av/\∃(its:List ac)(n:Nat),Vals xs its/\h.get? a=some {cls:=.type "list",data:=.seq its.toArray n}
|.tup xs=>xs.length<=av/\∃its:List ac,Vals xs its/\IsTup h a its.toArray
|.dK kvs=>kvs.length<=av/\(a==sysModules)=false/\∃vs,KV kvs vs/\h.DictOf (YI P w) a vs
|.dT kvs=>kvs.length<=av/\(a==sysModules)=false/\∃xs:List (List Key×ae×ac),Paired (λ(p:List Key×V)(q:List Key×ae×ac)=>p.1=q.1/\H q.2.1=some (.tup (p.1.map kV))/\RelV p.2 q.2.2) kvs xs /\∃o es ep,h.get? a=some o/\o.ExactDict/\o.data=.dict es ep/\es.toList=xs.map (entryOfKey (tupleKind (YI P w)))/\(xs.map (·.1)).Nodup
|.set S n=>h.SetOf (intKind P w) a S n
|.ins C dx fs=>H dx=some (.own a)/\fs.length<=1000/\dx≠a/\h.get? a=some (cJ C dx) /\∃mA,h.Ns1 dx mA/\(∀f,RelO (fs.lookup f) (mA f))/\dA mA (fs.map (·.1))
|.own _=>∃o,h.get? a=some o
|.xd fs=>∃mA,h.Ns1 a mA/\∀f,RelO (fs.lookup f) (mA f)
|.rng lo hi=>∃t u v,h.get? a=some {cls:=.type "range",data:=.fields #[.int lo t,.int hi u,.int 1 v]}
|.frz o u=>h.get? a=some o/\ZV H h a u
|.tbl ps=>h.get? a=some {cls:=.none,data:=.fields ps}
|.met f x=>h.get? a=some (PySem.W.methodObj (.ref f) (.ref x))
|.ext φ=>φ h/\(∃o,h.get? a=some o)/\∀h1 h2:aX,φ h1->(∀o,h1.get? a=some o->h2.get? a=some o)->φ h2
def HOk(H:Hp)(h:aX):Prop:=∀a o,H a=some o->ZV P w H h a o
end
section
variable {P:aA}{w:aI}{H H':Hp}{h h':aX}{a:ae}{o:HO}
theorem ZV.lt(x:ZV P w H h a o):a<h.objs.size:=by
 cases o with
|lst xs=>obtain⟨_,_,_,_,e⟩:=x;exact ap e
|tup xs=>obtain⟨_,_,_,p⟩:=x;exact p.lt
|dK kvs=>obtain⟨_,_,_,_,o,_,_,e,_⟩:=x;exact ap e
|dT kvs=>obtain⟨_,_,_,_,o,_,_,e,_⟩:=x;exact ap e
|set S n=>obtain⟨o,_,_,_,e,_⟩:=x;exact ap e
|ins C dx fs=>obtain⟨_,_,_,e,_⟩:=x;exact ap e
|own y=>obtain⟨_,e⟩:=x;exact ap e
|xd fs=>obtain⟨_,⟨_,_,_,e,_⟩,_⟩:=x;exact ap e
|rng lo hi=>obtain⟨_,_,_,e⟩:=x;exact ap e
|frz ob u=>obtain⟨e,_⟩:=x;exact ap e
|tbl ps=>exact ap (show h.get? a=some _ from x)
|met f y=>exact ap (show h.get? a=some _ from x)
|ext φ=>obtain⟨_,⟨_,e⟩,_⟩:=x;exact ap e
theorem Paired.mapP{α β:Type}{F G:α->β->Prop}:∀{l₁:List α}{l₂:List β},Paired F l₁ l₂->(∀a b,F a b->G a b)->Paired G l₁ l₂
|_,_,.nil,_=>.nil
|_,_,.cons r t,f=>.cons (f _ _ r) (Paired.mapP t f)
theorem ZV.stay(x:ZV P w H h a o)(k:∀b u,(b=a\/H b=some (.own a))->h.get? b=some u->h'.get? b=some u)(ho:∀b,H b=some (.own a)->H' b=some (.own a))(ht:∀b xs,H b=some (.tup xs)->H' b=some (.tup xs)):ZV P w H' h' a o:=by
 induction o with
|lst xs=>obtain⟨z,its,n,r,e⟩:=x;exact⟨z,its,n,r,k _ _ (.inl rfl) e⟩
|tup xs=>obtain⟨z,its,r,ob,e,c⟩:=x;exact⟨z,its,r,ob,k _ _ (.inl rfl) e,c⟩
|dK kvs=>obtain⟨z,y,vs,r,ob,es,ep,e,c⟩:=x;exact⟨z,y,vs,r,ob,es,ep,k _ _ (.inl rfl) e,c⟩
|dT kvs=>obtain⟨z,y,xs,r,ob,es,ep,e,c⟩:=x;exact⟨z,y,xs,Paired.mapP r λp q z=>⟨z.1,ht _ _ z.2.1,z.2.2⟩,ob,es,ep,k _ _ (.inl rfl) e,c⟩
|set S n=>obtain⟨ob,es,ep,t,e,c⟩:=x;exact⟨ob,es,ep,t,k _ _ (.inl rfl) e,c⟩
|ins C dx fs=>obtain⟨d,z,ne,e,mA,⟨od,es,ep,e2,c⟩,r⟩:=x;exact⟨ho _ d,z,ne,k _ _ (.inl rfl) e,mA,⟨od,es,ep,k _ _ (.inr d) e2,c⟩,r⟩
|own y=>obtain⟨ob,e⟩:=x;exact⟨ob,k _ _ (.inl rfl) e⟩
|xd fs=>obtain⟨mA,⟨od,es,ep,e,c⟩,r⟩:=x;exact⟨mA,⟨od,es,ep,k _ _ (.inl rfl) e,c⟩,r⟩
|rng lo hi=>obtain⟨t,u,v,e⟩:=x;exact⟨t,u,v,k _ _ (.inl rfl) e⟩
|frz ob u ih=>obtain⟨e,q⟩:=x;exact⟨k _ _ (.inl rfl) e,ih q⟩
|tbl ps=>have e:h.get? a=some {cls:=.none,data:=.fields ps}:=x;show h'.get? a=some {cls:=.none,data:=.fields ps};exact k a _ (.inl rfl) e
|met f y=>have e:h.get? a=some (PySem.W.methodObj (.ref f) (.ref y)):=x;show h'.get? a=some (PySem.W.methodObj (.ref f) (.ref y));exact k a _ (.inl rfl) e
|ext φ=>obtain⟨p,⟨o,e⟩,st⟩:=x;exact⟨st _ _ p λo q=>k _ _ (.inl rfl) q,⟨o,k _ _ (.inl rfl) e⟩,st⟩
theorem HOk.lt(x:HOk P w H h)(e:H a=some o):a<h.objs.size:=(x a o e).lt
theorem HOk.fresh(x:HOk P w H h)(e:h.objs.size<=a):H a=none:=by
 cases q:H a with
|none=>rfl
|some u=>exact absurd (aD (x.lt q) e) (bJ _)
theorem HOk.kept(x:HOk P w H h)(k:∀b u,h.get? b=some u->h'.get? b=some u):HOk P w H h':=λa o e=>(x a o e).stay (λb u _ q=>k b u q) (λ_ q=>q) λ_ _ q=>q
theorem HOk.laid(x:HOk P w H h)(k:∀b u,h.get? b=some u->h'.get? b=some u)(hp:h.objs.size<=a)(new:ZV P w (upd H a o) h' a o):HOk P w (upd H a o) h':=λb u e=>by
 have hn:=x.fresh hp;by_cases hb:b=a
 ·subst hb;rw[Ze]at e;cases e;exact new
 ·rw[Zj hb]at e;exact(x b u e).stay (λc v _ q=>k c v q) (λc q=>by rw[Zj (Zk q hn)];exact q) λc xs q=>by rw[Zj (Zk q hn)];exact q
end
def Rd(H:Hp)(a:ae)(u:HO):Prop:=H a=some u\/∃o,H a=some (.frz o u)
theorem Rd.ok{P:aA}{w:aI}{H:Hp}{h:aX}{a:ae}{u:HO}(r:Rd H a u)(x:HOk P w H h):ZV P w H h a u:=by
 rcases r with r|⟨o,r⟩
 ·exact x a u r
 ·obtain⟨_,q⟩:=x a _ r;exact q
noncomputable def Mut:Option HO->Prop
|some (.lst _)=>True
|some (.dK _)=>True
|some (.dT _)=>True
|some (.set _ _)=>True
|some (.ins _ _ _)=>True
|some (.ext _)=>True
|_=>False
section
variable {P:aA}{w:aI}{H:Hp}{h h':aX}{x e:ae}{o':HO}
theorem HOk.write(ok:HOk P w H h)(mu:Mut (H x))(he:e=x\/H e=some (.own x))(k:∀b u,b≠e->h.get? b=some u->h'.get? b=some u)(heo:∃u,h'.get? e=some u)(new:ZV P w (upd H x o') h' x o'):HOk P w (upd H x o') h':=λb u q=>by
 have nown:∀c y,H c=some (.own y)->c≠x:=λc y r z=>by subst z;rw[r]at mu;exact mu
 have ntup:∀c xs,H c=some (.tup xs)->c≠x:=λc xs r z=>by subst z;rw[r]at mu;exact mu
 by_cases hb:b=x
 ·subst hb;rw[Ze]at q;cases q;exact new
 ·rw[Zj hb]at q;by_cases hbe:b=e
  ·have q':H b=some (.own x):=by
    rcases he with z|z
    ·exact absurd (hbe.trans z) hb
    ·rw[hbe];exact z
   rw[q]at q';cases q';obtain⟨v,hv⟩:=heo;exact⟨v,by rw[hbe];exact hv⟩
  ·refine(ok b u q).stay (λc v hc r=>k c v ?_ r) (λc r=>by rw[Zj (nown c b r)];exact r) λc xs r=>by rw[Zj (ntup c xs r)];exact r
   rcases hc with rfl|hc
   ·exact hbe
   ·rintro rfl;rcases he with z|z
    ·exact nown c b hc z
    ·rw[hc]at z;cases z;exact hb rfl
end
structure Un(fs ex:List ae)(H H':Hp)(h h':aX):Prop where
 keep:∀b o,h.get? b=some o->H b=none->b∉fs->b∉ex->h'.get? b=some o
 slot:∀b o,h.get? b=some o->H b=none->b∈fs->b∉ex->∃sl,h'.get? b=some {o with slots:=sl}
 free:∀b o,h.get? b=some o->H b=none->b∉ex->H' b=none
 there:∀b o,h.get? b=some o->b∉ex->∃o',h'.get? b=some o'
 tups:∀b xs,H b=some (.tup xs)->H' b=some (.tup xs)
 frzs:∀b o u,H b=some (.frz o u)->H' b=some (.frz o u)
 tbls:∀b ps,H b=some (.tbl ps)->∃more,H' b=some (.tbl (ps++more))
section
variable {fs fs' ex ex':List ae}{H H1 H2:Hp}{h h1 h2 h':aX}{a x e:ae}{o:HO}
theorem Un.any(u:Un fs ex H H1 h h1){b:ae}{ob:Obj}(q:h.get? b=some ob)(n:H b=none)(hx:b∉ex):∃sl,h1.get? b=some {ob with slots:=sl}:=by
 by_cases hb:b∈fs
 ·exact u.slot b ob q n hb hx
 ·exact⟨ob.slots,u.keep b ob q n hb hx⟩
theorem Un.kept(k:∀b u,h.get? b=some u->h'.get? b=some u):Un fs ex H H h h':=⟨λb ob q _ _ _=>k b ob q,λb ob q _ _ _=>⟨ob.slots,k b ob q⟩,λ_ _ _ n _=>n,λb ob q _=>⟨ob,k b ob q⟩,λ_ _ q=>q,λ_ _ _ q=>q,λ_ ps q=>⟨#[],by rw[q];simp⟩⟩
theorem Un.refl:Un fs ex H H h h:=Un.kept λ_ _ q=>q
theorem Un.laid(k:∀b u,h.get? b=some u->h'.get? b=some u)(hp:h.objs.size<=a)(hn:H a=none):Un fs ex H (upd H a o) h h' where
 keep:=λb u q _ _ _=>k b u q
 slot:=λb u q _ _ _=>⟨u.slots,k b u q⟩
 free:=λb u q n _=>by rw[Zj (aE (aD (ap q) hp))];exact n
 there:=λb u q _=>⟨u,k b u q⟩
 tups:=λb xs q=>by rw[Zj (Zk q hn)];exact q
 frzs:=λb u xs q=>by rw[Zj (Zk q hn)];exact q
 tbls:=λb ps q=>⟨#[],by rw[Zj (Zk q hn),q];simp⟩
theorem Un.write(mu:Mut (H x))(he:e=x\/H e=some (.own x))(k:∀b u,b≠e->h.get? b=some u->h'.get? b=some u)(heo:∃u,h'.get? e=some u):Un fs ex H (upd H x o) h h':=by
 have hx:∀b,H b=none->b≠x:=λb n z=>by subst z;rw[n]at mu;exact mu
 have hb:∀b,H b=none->b≠e:=λb n z=>by
  subst z;rcases he with r|r
  ·exact hx b n r
  ·rw[n]at r;cases r
 have hm:∀b u,H b=some u->¬Mut (some u)->b≠x:=λb u q nm z=>by subst z;rw[q]at mu;exact nm mu
 refine⟨λb u q n _ _=>k b u (hb b n) q,λb u q n _ _=>⟨u.slots,k b u (hb b n) q⟩,λb u q n _=>by rw[Zj (hx b n)];exact n,λb u q _=>?_,
  λb xs q=>by rw[Zj (hm b _ q λz=>z)];exact q,λb u xs q=>by rw[Zj (hm b _ q λz=>z)];exact q,λb ps q=>⟨#[],by rw[Zj (hm b _ q λz=>z),q];simp⟩⟩;by_cases hbe:b=e
 ·subst hbe;exact heo
 ·exact⟨u,k b u hbe q⟩
end
noncomputable def trk(h:aX)(H:Hp):List ae:=(bN h.objs.size).filter λa=>(H a).isSome
noncomputable def hidT(h:aX)(H:Hp):aX:=PySem.W.hideAll h (trk h H)
theorem Wv(h:aX)(H:Hp):(hidT h H).objs.size=h.objs.size:=PySem.W.hideAll_size _ _
theorem KZ{h:aX}{H:Hp}{b:ae}{o:Obj}(e:h.get? b=some o)(n:H b=none):(hidT h H).get? b=some o:=PySem.W.hideAll_get _ e λhm=>by have q:(H b).isSome=true:=(cw.mp hm).2;rw[n]at q;simp at q
theorem LV{h:aX}{H:Hp}{b:ae}{o:Obj}(e:(hidT h H).get? b=some o):h.get? b=some o/\H b=none:=by
 have e':h.get? b=some o:=PySem.W.of_hideAll (trk h H) e;refine⟨e',?_⟩;cases q:H b with
|none=>rfl
|some x=>have hm:b∈trk h H:=cw.mpr ⟨dz.mpr (ap e'),by simp[q]⟩;have z:(hidT h H).get? b=none:=PySem.W.hideAll_none (trk h H) hm;rw[z]at e;cases e
noncomputable def Dn(g h:aX)(L:ae):List (ae×Obj):=(bN h.objs.size).filterMap λa=>if a=L\/(g.get? a).isSome=true then none else(h.get? a).map λo=>(a,o)
noncomputable def rest(g h:aX)(L d:ae):List (ae×Obj):=(Dn g h L).filter λp=>decide (p.1≠d)
open PySem PySem.Spec PyProof.Rows
structure Mod(K:aa)(mg:Str->Option ac)(base:aX):Prop where
 kin:K.In base
 glob:base.Ns bf mg
 blt:∃mb,base.Ns builtinsNs mb/\∀x:Str,x≠"__name__"->mb x=bootBuiltins x
 nolimit:base.NoLimit
structure Cx where
 prog:aA
 w:aI
 K:aa
 mg:Str->Option ac
 base:aX
 A:ba
 N:List Str
 s₀:ag
 H₀:Hp
 env:Env
 outer:List Env
 stack:List Env
 ex:List ae
 fn:Str->Bool
 calm:Bool
 pn:List (ae×Obj)
 xe:ac->ag->Prop
noncomputable def frs(l:List Env):List ae:=l.filterMap (·.frame)
noncomputable abbrev Cx.fs(X:Cx):List ae:=frs X.outer
def Vis(sc:bH)(x:Str):Prop:=sc.names.lookup x=some .local\/sc.names.lookup x=some .cell\/sc.names.lookup x=some .free
def Loc(sc:bH)(x:Str):Prop:=sc.names.lookup x=some .local\/sc.names.lookup x=some .cell
def Look(env:Env)(h:aX)(m:Str->Option ac)(x:Str)(u:ac):Prop:=(env.kindOf x=some .local/\m x=some u)\/((env.kindOf x=some .cell\/env.kindOf x=some .free)/\∃c,env.cells.lookup x=some c/\h.IsCell c (some u))
structure Cx.Ok(X:Cx):Prop where
 mod:Mod X.K X.mg X.base
 kind:X.env.scope.kind=.function
 glob:X.env.globals=bf
 blt:X.env.builtins=builtinsNs
 above:X.s₀.heap.objs.size<=X.env.locals
 inj:∀x y c,X.env.cells.lookup x=some c->X.env.cells.lookup y=some c->x=y
 has:∀x,(X.env.kindOf x=some .cell\/X.env.kindOf x=some .free)->∃c,X.env.cells.lookup x=some c
 cab:∀x c,X.fn x=true->X.env.cells.lookup x=some c->X.s₀.heap.objs.size<=c
 hd:X.calm=true->X.A.handled=none
 frames:X.A.frames=some X.stack
 stk:X.stack=X.outer\/(X.stack=X.env::X.outer/\X.env.frame=some X.env.locals)
 exf:∀b∈X.ex,b≠X.env.locals/\∀x c,X.env.cells.lookup x=some c->c≠b
 bs:∀b o,X.base.get? b=some o->X.s₀.heap.get? b=some o/\X.H₀ b=none
 bsz:X.base.objs.size<=X.s₀.heap.objs.size
 noex:∀b o,X.base.get? b=some o->b∉X.ex
 exfs:∀b∈X.ex,b∉X.fs
 funs:X.s₀.heap.FunFrames X.base X.outer
 frf:∀b∈X.fs,X.H₀ b=none
structure Inv(X:Cx)(pins:List (ae×Obj))(σ:List (Option V))(H:Hp)(s:ag):Prop where
 ok:X.Ok
 os:s.os=X.s₀.os
 bare:AllBare s.gens
 base:Un X.fs X.ex X.H₀ H X.s₀.heap s.heap
 loc:∃m,s.heap.Ns X.env.locals m/\∀(i:Nat)(x:Str)(v:V),X.N[i]?=some x->σ[i]?=some (some v)->Vis X.env.scope x->∃u,RelV v u/\Look X.env s.heap m x u
 cell:∀x c,X.env.cells.lookup x=some c->∃v,s.heap.IsCell c v
 free:H X.env.locals=none
 freeC:∀x c,X.env.cells.lookup x=some c->H c=none
 pin:∀p∈X.pn++pins,s.heap.get? p.1=some p.2/\H p.1=none/\p.1≠X.env.locals/\p.1∉X.fs/\∀v,p.2.data≠.cell v
 hok:HOk X.prog X.w H s.heap
 len:σ.length=X.N.length
section
variable {X:Cx}{pins:List (ae×Obj)}{σ:List (Option V)}{H H':Hp}{s:ag}{h':aX}
theorem Cx.Ok.nofr(ok:X.Ok){b:ae}{o:Obj}(e:X.base.get? b=some o):b∉X.fs:=λhb=>by have:=(ok.funs.mem hb).1;rw[e]at this;cases this
theorem Inv.bs(I:Inv X pins σ H s):∀b o,X.base.get? b=some o->s.heap.get? b=some o/\H b=none:=λb o e=>⟨I.base.keep b o (I.ok.bs b o e).1 (I.ok.bs b o e).2 (I.ok.nofr e) (I.ok.noex b o e),I.base.free b o (I.ok.bs b o e).1 (I.ok.bs b o e).2 (I.ok.noex b o e)⟩
theorem Inv.bk(I:Inv X pins σ H s):∀b o,X.base.get? b=some o->s.heap.get? b=some o:=λb o e=>(I.bs b o e).1
theorem Inv.mod(I:Inv X pins σ H s):Mod X.K X.mg X.base:=I.ok.mod
theorem Inv.kIn(I:Inv X pins σ H s):X.K.In s.heap:=I.ok.mod.kin.keeps I.bk
theorem Inv.lt(I:Inv X pins σ H s):X.env.locals<s.heap.objs.size:=let ⟨_,hn,_⟩:=I.loc;hn.lt
theorem Inv.sz(I:Inv X pins σ H s):X.s₀.heap.objs.size<=s.heap.objs.size:=ax I.ok.above (Nat.le_of_lt I.lt)
theorem Inv.nofs(I:Inv X pins σ H s){a:ae}(h:s.heap.objs.size<=a):a∉X.fs:=λhb=>by obtain⟨_,o,ho,_⟩:=I.ok.funs.mem hb;exact absurd (aD (ap ho) (ax I.sz h)) (bJ _)
theorem Inv.cne(I:Inv X pins σ H s):∀x c,X.env.cells.lookup x=some c->c≠X.env.locals:=λx c e z=>by obtain⟨v,o,ho,hd⟩:=I.cell x c e;obtain⟨m,⟨o',es,ep,ho',hd',_⟩,_⟩:=I.loc;rw[z,ho']at ho;cases ho;rw[hd']at hd;cases hd
theorem Inv.funs(I:Inv X pins σ H s):s.heap.FunFrames X.base X.outer:=by
 have all:∀(l:List Env),(∀b∈frs l,b∈X.fs)->X.s₀.heap.FunFrames X.base l->s.heap.FunFrames X.base l:=by
  intro l;induction l with
 |nil=>intro _ _;trivial
 |cons env r ih=>intro hs hl;obtain⟨hk,⟨L,o,hf,hn,ho,hd⟩,hr⟩:=hl;have hL:L∈X.fs:=hs L (by unfold frs;rw[List.filterMap_cons,hf];exact ao);obtain⟨sl,e⟩:=I.base.slot L o ho (I.ok.frf L hL) hL λz=>I.ok.exfs L z hL;exact⟨hk,⟨L,_,hf,hn,e,hd⟩,ih (λb hb=>hs b (by unfold frs;rw[List.filterMap_cons,hf];exact am _ hb)) hr⟩
 exact all X.outer (λ_ hb=>hb) I.ok.funs
theorem Inv.stack(I:Inv X pins σ H s):s.heap.FunFrames X.base X.stack:=by
 rcases I.ok.stk with e|⟨e,hf⟩
 ·rw[e];exact I.funs
 ·rw[e];obtain⟨m,hn,_⟩:=I.loc;refine .cons (by rw[I.ok.kind];decide) hf hn ?_ I.funs;exact Heap.get?_none_of_le (ax I.ok.bsz I.ok.above)
theorem Inv.stkSub(I:Inv X pins σ H s):∀b∈frs X.stack,b∈X.env.locals::X.fs:=λb hb=>by
 rcases I.ok.stk with e|⟨e,hf⟩
 ·rw[e]at hb;exact am _ hb
 ·rw[e]at hb;unfold frs at hb;rw[List.filterMap_cons,hf]at hb;exact hb
theorem Inv.stkFree(I:Inv X pins σ H s):∀b∈frs X.stack,H b=none:=λb hb=>by
 rcases aq.mp (I.stkSub b hb)with e|hb
 ·rw[e];exact I.free
 ·obtain⟨_,o,ho,_⟩:=I.ok.funs.mem hb;exact I.base.free b o ho (I.ok.frf b hb) λz=>I.ok.exfs b z hb
theorem Inv.step{g':Array GenState}{t':Nat}{d':Drawn}{ch:List ae}(I:Inv X pins σ H s)(hch:∀b∈ch,(b∈X.ex\/X.s₀.heap.objs.size<=b)/\b≠X.env.locals/\(∀x c,X.env.cells.lookup x=some c->c≠b)/\∀p∈X.pn++pins,p.1≠b)(keep:∀b o,b≠X.env.locals->b∉X.fs->b∉ch->s.heap.get? b=some o->H b=none->h'.get? b=some o)(slot:∀b o,b≠X.env.locals->b∈X.fs->b∉ch->s.heap.get? b=some o->H b=none->∃sl,h'.get? b=some {o with slots:=sl})(free:∀b o,b∉ch->s.heap.get? b=some o->H b=none->H' b=none)(there:∀b o,b∉ch->s.heap.get? b=some o->∃o',h'.get? b=some o')(tups:∀b xs,H b=some (.tup xs)->H' b=some (.tup xs))(frzs:∀b o u,H b=some (.frz o u)->H' b=some (.frz o u))(tbls:∀b ps,H b=some (.tbl ps)->∃more,H' b=some (.tbl (ps++more)))(ns:∀m,s.heap.Ns X.env.locals m->h'.Ns X.env.locals m)(hok:HOk X.prog X.w H' h')(hg:AllBare g'):Inv X pins σ H' {s with heap:=h',gens:=g',drawn:=d',toks:=t'}:=by
 have neL:∀b o,X.s₀.heap.get? b=some o->b≠X.env.locals:=λb o e=>aE (aD (ap e) I.ok.above);have neC:∀b o,X.s₀.heap.get? b=some o->b∉X.ex->b∉ch:=λb o e hx hb=>by
  rcases(hch b hb).1 with z|z
  ·exact hx z
  ·exact absurd (aD (ap e) z) (bJ _)
 have cellK:∀x c,X.env.cells.lookup x=some c->∀v,s.heap.IsCell c v->h'.IsCell c v:=λx c e v⟨o,ho,hd⟩=>by
  have nch:c∉ch:=λz=>(hch c z).2.2.1 x c e rfl;by_cases hc:c∈X.fs
  ·obtain⟨sl,q⟩:=slot c o (I.cne x c e) hc nch ho (I.freeC x c e);exact⟨_,q,hd⟩
  ·exact⟨o,keep c o (I.cne x c e) hc nch ho (I.freeC x c e),hd⟩
 refine⟨I.ok,I.os,hg,⟨λb o e n hb hx=>?_,λb o e n hb hx=>?_,λb o e n hx=>?_,λb o e hx=>?_,λb xs e=>tups b xs (I.base.tups b xs e),λb o xs e=>frzs b o xs (I.base.frzs b o xs e),λb ps e=>?_⟩,?_,λx c e=>?_,?_,λx c e=>?_,λp hp=>?_,hok,I.len⟩
 ·exact keep b o (neL b o e) hb (neC b o e hx) (I.base.keep b o e n hb hx) (I.base.free b o e n hx)
 ·obtain⟨sl,e1⟩:=I.base.slot b o e n hb hx;obtain⟨sl',e2⟩:=slot b _ (neL b o e) hb (neC b o e hx) e1 (I.base.free b o e n hx);exact⟨sl',e2⟩
 ·obtain⟨o',e1⟩:=I.base.there b o e hx;exact free b o' (neC b o e hx) e1 (I.base.free b o e n hx)
 ·obtain⟨o',e1⟩:=I.base.there b o e hx;exact there b o' (neC b o e hx) e1
 ·obtain⟨m1,e1⟩:=I.base.tbls b ps e;obtain⟨m2,e2⟩:=tbls b _ e1;exact⟨m1++m2,by rw[e2,Array.append_assoc]⟩
 ·obtain⟨m,hn,hl⟩:=I.loc;refine⟨m,ns m hn,λi x v e1 e2 e3=>?_⟩;obtain⟨u,r,l⟩:=hl i x v e1 e2 e3;refine⟨u,r,?_⟩;rcases l with l|⟨k,c,e,z⟩
  ·exact .inl l
  ·exact .inr ⟨k,c,e,cellK x c e _ z⟩
 ·obtain⟨v,z⟩:=I.cell x c e;exact⟨v,cellK x c e v z⟩
 ·obtain⟨m,⟨o,_,_,ho,_⟩,_⟩:=I.loc;exact free _ o (λz=>(hch _ z).2.1 rfl) ho I.free
 ·obtain⟨v,o,ho,hd⟩:=I.cell x c e;exact free c o (λz=>(hch c z).2.2.1 x c e rfl) ho (I.freeC x c e)
 ·obtain⟨e,n,ne,nf,d⟩:=I.pin p hp;have nch:p.1∉ch:=λz=>(hch p.1 z).2.2.2 p hp rfl;exact⟨keep p.1 p.2 ne nf nch e n,free p.1 p.2 nch e n,ne,nf,d⟩
theorem Inv.un{t':Nat}(I:Inv X pins σ H s)(u:Un X.fs [] H H' s.heap h')(hok:HOk X.prog X.w H' h'):Inv X pins σ H' {s with heap:=h',toks:=t'}:=by
 obtain⟨m,⟨o,es,ep,ho,r⟩,_⟩:=id I.loc;obtain⟨sl,hL⟩:=u.any ho I.free (by simp);exact I.step (g':=s.gens) (d':=s.drawn) (ch:=[]) (λ_ z=>nomatch z) (λb o _ hb _ e n=>u.keep b o e n hb (by simp)) (λb o _ hb _ e n=>u.slot b o e n hb (by simp)) (λb o _ e n=>u.free b o e n (by simp)) (λb o _ e=>u.there b o e (by simp)) u.tups u.frzs u.tbls (λm' hm=>by obtain⟨o',es',ep',ho',r'⟩:=hm;rw[ho]at ho';cases ho';exact⟨_,es',ep',hL,r'⟩) hok I.bare
theorem Inv.call{g':Array GenState}{t':Nat}{d':Drawn}{ch:List ae}(I:Inv X pins σ H s)(u:Un (frs X.stack) ch H H' s.heap h')(hok:HOk X.prog X.w H' h')(hg:AllBare g')(hch:∀b∈ch,(b∈X.ex\/X.s₀.heap.objs.size<=b)/\b≠X.env.locals/\(∀x c,X.env.cells.lookup x=some c->c≠b)/\∀p∈X.pn++pins,p.1≠b):Inv X pins σ H' {s with heap:=h',gens:=g',drawn:=d',toks:=t'}:=by
 obtain⟨m,⟨o,es,ep,ho,r⟩,_⟩:=id I.loc;obtain⟨sl,hL⟩:=u.any ho I.free λz=>(hch _ z).2.1 rfl;exact I.step (ch:=ch) hch (λb o hL hb hc e n=>u.keep b o e n (λz=>(aq.mp (I.stkSub b z)).elim hL hb) hc) (λb o _ _ hc e n=>u.any e n hc) (λb o hc e n=>u.free b o e n hc) (λb o hc e=>u.there b o e hc) u.tups u.frzs u.tbls (λm' hm=>by obtain⟨o',es',ep',ho',r'⟩:=hm;rw[ho]at ho';cases ho';exact⟨_,es',ep',hL,r'⟩) hok hg
theorem Inv.turned{t':Nat}{it:ae}(I:Inv X pins σ H s)(k:∀b o,b≠it->s.heap.get? b=some o->h'.get? b=some o)(hn:H it=none)(hL:it≠X.env.locals)(h1:it∈X.ex\/X.s₀.heap.objs.size<=it)(h2:∀x c,X.env.cells.lookup x=some c->c≠it)(h3:∀p∈X.pn++pins,p.1≠it):Inv X pins σ H {s with heap:=h',toks:=t'}:=by
 have nit:∀b u,H b=some u->b≠it:=λb u e z=>by rw[z,hn]at e;cases e
 refine I.step (g':=s.gens) (d':=s.drawn) (ch:=[it]) (λb hb=>?_) (λb o _ _ hc e _=>k b o (λz=>hc (by simp[z])) e) (λb o _ _ hc e _=>⟨o.slots,k b o (λz=>hc (by simp[z])) e⟩) (λ_ _ _ _ n=>n) (λb o hc e=>⟨o,k b o (λz=>hc (by simp[z])) e⟩) (λ_ _ e=>e) (λ_ _ _ e=>e) (λb ps e=>⟨#[],by rw[e];simp⟩) (λm hm=>?_) (λb u e=>?_) I.bare
 ·have e:b=it:=by simpa using hb
  subst e;exact⟨h1,hL,h2,h3⟩
 ·obtain⟨o,es,ep,ho,r⟩:=hm;exact⟨o,es,ep,k _ o (bL hL) ho,r⟩
 ·refine(I.hok b u e).stay (λc v hc q=>k c v ?_ q) (λ_ q=>q) λ_ _ q=>q;rcases hc with z|z
  ·rw[z];exact nit b u e
  ·exact nit c _ z
theorem Inv.tok(I:Inv X pins σ H s)(t:Nat):Inv X pins σ H {s with toks:=t}:=I.un (h':=s.heap) (t':=t) Un.refl I.hok
theorem Inv.kept{t':Nat}(I:Inv X pins σ H s)(k:∀b u,s.heap.get? b=some u->h'.get? b=some u):Inv X pins σ H {s with heap:=h',toks:=t'}:=I.un (Un.kept k) (I.hok.kept k)
theorem Inv.laid{a:ae}{o:HO}{t':Nat}(I:Inv X pins σ H s)(k:∀b u,s.heap.get? b=some u->h'.get? b=some u)(hp:s.heap.objs.size<=a)(new:ZV X.prog X.w (upd H a o) h' a o):Inv X pins σ (upd H a o) {s with heap:=h',toks:=t'}:=I.un (Un.laid k hp (I.hok.fresh hp)) (I.hok.laid k hp new)
theorem Inv.write{x e:ae}{o:HO}{t':Nat}(I:Inv X pins σ H s)(mu:Mut (H x))(he:e=x\/H e=some (.own x))(k:∀b u,b≠e->s.heap.get? b=some u->h'.get? b=some u)(heo:∃u,h'.get? e=some u)(new:ZV X.prog X.w (upd H x o) h' x o):Inv X pins σ (upd H x o) {s with heap:=h',toks:=t'}:=I.un (Un.write mu he k heo) (I.hok.write mu he k heo new)
theorem Inv.pins_of{pins':List (ae×Obj)}(I:Inv X pins σ H s)(h:∀p∈pins',s.heap.get? p.1=some p.2/\H p.1=none/\p.1≠X.env.locals/\p.1∉X.fs/\∀v,p.2.data≠.cell v):Inv X pins' σ H s:=⟨I.ok,I.os,I.bare,I.base,I.loc,I.cell,I.free,I.freeC,λp hp=>(bp.mp hp).elim (λz=>I.pin p (bg _ z)) (h p),I.hok,I.len⟩
theorem Na{N:List Str}(hN:N.Nodup){i j:Nat}{x:Str}(a:N[i]?=some x)(b:N[j]?=some x):i=j:=by obtain⟨h1,e1⟩:=ai.mp a;obtain⟨h2,e2⟩:=ai.mp b;exact(List.getElem_inj hN).mp (e1.trans e2.symm)
theorem NZ{M:Model}{A:ba}{E:ac->ag->Prop}{i:Nat}{x:Str}{v:V}{u:ac}{Q:Unit->ag->Prop}(I:Inv X pins σ H s)(hN:X.N.Nodup)(hi:X.N[i]?=some x)(hx:Loc X.env.scope x)(r:RelV v u)(h:∀s',Inv X pins (σ.set i (some v)) H s'->(∃a,dC a s.heap s'.heap/\(a=X.env.locals\/X.env.cells.lookup x=some a))->Q () s')(hf:X.fn x=true\/X.env.scope.names.lookup x=some .local:=by first|exact .inl rfl|exact .inr rfl|assumption):aB M A (storeName X.env x u) Q E s:=by
 obtain⟨m,hn,hl⟩:=id I.loc;have hcls:(X.env.scope.kind==.class||(X.env.scope.kind==.module&&X.env.locals != X.env.globals))=false:=by rw[I.ok.kind];rfl
 have hiσ:i<σ.length:=by rw[I.len];exact(ai.mp hi).1
 have cne:=I.cne;have tracked:∀{a:ae}{h':aX},(∃o,s.heap.get? a=some o/\H a=none)->dC a s.heap h'->HOk X.prog X.w H h':=λ{a h'}ha hs b ob e=>by
  obtain⟨_,_,hfree⟩:=ha;refine(I.hok b ob e).stay (λc w' hc q=>(hs.2 c ?_).trans q) (λ_ q=>q) λ_ _ q=>q;rintro rfl;rcases hc with rfl|hc
  ·rw[hfree]at e;cases e
  ·rw[hfree]at hc;cases hc
 rcases hx with hk|hk
 ·refine wpAny_storeName_local hk hn (λh' hn' hs=>?_) hcls;obtain⟨oL,_,_,hoL,_⟩:=id hn;refine h _ ⟨I.ok,I.os,I.bare,⟨λb o e n hb hx=>?_,λb o e n hb hx=>?_,I.base.free,λb o e hx=>?_,I.base.tups,I.base.frzs,I.base.tbls⟩,⟨_,hn',λj y v' e1 e2 e3=>?_⟩,λy c e=>?_,I.free,I.freeC,λp hp=>?_,tracked ⟨oL,hoL,I.free⟩ hs,by simpa using I.len⟩ ⟨_,hs,.inl rfl⟩
  ·exact(hs.2 b (aE (aD (ap e) I.ok.above))).trans (I.base.keep b o e n hb hx)
  ·obtain⟨sl,e1⟩:=I.base.slot b o e n hb hx;exact⟨sl,(hs.2 b (aE (aD (ap e) I.ok.above))).trans e1⟩
  ·obtain⟨o',e1⟩:=I.base.there b o e hx;exact⟨o',(hs.2 b (aE (aD (ap e) I.ok.above))).trans e1⟩
  ·by_cases hj:j=i
   ·subst hj;rw[hi]at e1;cases e1;rw[bR hiσ]at e2;cases e2;exact⟨u,r,.inl ⟨hk,by simp⟩⟩
   ·rw[cr (bL hj)]at e2;obtain⟨u',r',q⟩:=hl j y v' e1 e2 e3;refine⟨u',r',?_⟩;rcases q with⟨k,e⟩|⟨k,c,e,z⟩
    ·refine .inl ⟨k,?_⟩;have:y≠x:=λe=>hj (Na hN e1 (e▸hi));simp[this,e]
    ·exact .inr ⟨k,c,e,z.sameBut hs (cne y c e)⟩
  ·obtain⟨w',z⟩:=I.cell y c e;exact⟨w',z.sameBut hs (cne y c e)⟩
  ·obtain⟨e,n,ne,nf,d⟩:=I.pin p hp;exact⟨(hs.2 p.1 ne).trans e,n,ne,nf,d⟩
 ·have hfn:X.fn x=true:=by
   rcases hf with z|z
   ·exact z
   ·rw[z]at hk;cases hk
  obtain⟨c,hc⟩:=I.ok.has x (.inl hk);obtain⟨w',z⟩:=I.cell x c hc;refine wpAny_storeName_cell I.ok.kind hk hc z (λh' hc' hs=>?_);obtain⟨oc,hoc,hocd⟩:=id z;refine h {s with heap:=h'} ⟨I.ok,I.os,I.bare,⟨λb o e n hb hx=>?_,λb o e n hb hx=>?_,I.base.free,λb o e hx=>?_,I.base.tups,I.base.frzs,I.base.tbls⟩,⟨m,hn.sameBut hs (bL (cne x c hc)),λj y v' e1 e2 e3=>?_⟩,λy c' e=>?_,I.free,I.freeC,λp hp=>?_,tracked ⟨oc,hoc,I.freeC x c hc⟩ hs,by simpa using I.len⟩ ⟨c,hs,.inr hc⟩
  ·exact(hs.2 b (aE (aD (ap e) (I.ok.cab x c hfn hc)))).trans (I.base.keep b o e n hb hx)
  ·obtain⟨sl,e1⟩:=I.base.slot b o e n hb hx;exact⟨sl,(hs.2 b (aE (aD (ap e) (I.ok.cab x c hfn hc)))).trans e1⟩
  ·obtain⟨o',e1⟩:=I.base.there b o e hx;exact⟨o',(hs.2 b (aE (aD (ap e) (I.ok.cab x c hfn hc)))).trans e1⟩
  ·by_cases hj:j=i
   ·subst hj;rw[hi]at e1;cases e1;rw[bR hiσ]at e2;cases e2;exact⟨u,r,.inr ⟨.inl hk,c,hc,hc'⟩⟩
   ·rw[cr (bL hj)]at e2;obtain⟨u',r',q⟩:=hl j y v' e1 e2 e3;refine⟨u',r',?_⟩;rcases q with q|⟨k,c',e,z'⟩
    ·exact .inl q
    ·refine .inr ⟨k,c',e,z'.sameBut hs ?_⟩;rintro rfl;exact hj (Na hN e1 (I.ok.inj _ _ _ e hc▸hi))
  ·by_cases hcc:c'=c
   ·subst hcc;exact⟨_,hc'⟩
   ·obtain⟨w2,z2⟩:=I.cell y c' e;exact⟨w2,z2.sameBut hs hcc⟩
  ·obtain⟨e,n,ne,nf,d⟩:=I.pin p hp;refine⟨(hs.2 p.1 ?_).trans e,n,ne,nf,d⟩;intro q;rw[q,hoc]at e;have q':oc=p.2:=aH e;exact d w' (by rw[<-q'];exact hocd)
theorem MC{M:Model}{A:ba}{E:ac->ag->Prop}{i:Nat}{x:Str}{v:V}{u:ac}{Q:Unit->ag->Prop}(I:Inv X pins σ H s)(hN:X.N.Nodup)(hi:X.N[i]?=some x)(hx:Loc X.env.scope x)(r:RelV v u)(h:∀s',Inv X pins (σ.set i (some v)) H s'->Q () s')(hf:X.fn x=true\/X.env.scope.names.lookup x=some .local:=by first|exact .inl rfl|exact .inr rfl|assumption):aB M A (storeName X.env x u) Q E s:=NZ I hN hi hx r (λs' I' _=>h s' I') hf
theorem Inv.call'{s':ag}{ch:List ae}(I:Inv X pins σ H s)(ho:s'.os=s.os)(u:Un (frs X.stack) ch H H' s.heap s'.heap)(hok:HOk X.prog X.w H' s'.heap)(hg:AllBare s'.gens)(hch:∀b∈ch,(b∈X.ex\/X.s₀.heap.objs.size<=b)/\b≠X.env.locals/\(∀x c,X.env.cells.lookup x=some c->c≠b)/\∀p∈X.pn++pins,p.1≠b):Inv X pins σ H' s':=by obtain⟨h',g',d',t',o'⟩:=s';have e:o'=s.os:=ho;subst e;exact I.call (g':=g') (t':=t') (d':=d') u hok hg hch
end
noncomputable abbrev XK:=ac->Option ae->Hp->Prop
noncomputable abbrev St:=List (Option V)
noncomputable abbrev VK:=V->Hp->Prop
noncomputable abbrev TE:=St->Hp->VK->Prop
noncomputable abbrev TT:=St->Hp->(Bool->Hp->Prop)->Prop
noncomputable abbrev TA:=St->Hp->(List V->Hp->Prop)->Prop
structure Ends where
 nx:St->Hp->Prop
 rt:VK
 bk:St->Hp->Prop:=λ_ _=>False
 ct:St->Hp->Prop:=λ_ _=>False
noncomputable abbrev TS:=Ends->St->Hp->Prop
def EP(X:Cx)(pins:List (ae×Obj))(σ:St)(Q:VK)(u:ac)(s':ag):Prop:=∃v H',Inv X pins σ H' s'/\RelV v u/\Q v H'
def TP(X:Cx)(pins:List (ae×Obj))(σ:St)(Q:Bool->Hp->Prop)(b:Bool)(s':ag):Prop:=∃H',Inv X pins σ H' s'/\Q b H'
def AP(X:Cx)(pins:List (ae×Obj))(σ:St)(Q:List V->Hp->Prop)(us:List ac)(s':ag):Prop:=∃vs H',Inv X pins σ H' s'/\Vals vs us/\Q vs H'
def SP(X:Cx)(pins:List (ae×Obj))(D:Ends)(f:Flow)(s':ag):Prop:=match f with
|.next=>∃σ' H',Inv X pins σ' H' s'/\D.nx σ' H'
|.brk=>∃σ' H',Inv X pins σ' H' s'/\D.bk σ' H'
|.cont=>∃σ' H',Inv X pins σ' H' s'/\D.ct σ' H'
|.ret u=>∃v σ' H',Inv X pins σ' H' s'/\RelV v u/\D.rt v H'
def PE(X:Cx)(e:Expr)(t:TE):Prop:=∀(pins:List (ae×Obj))(s:ag)(σ:St)(H:Hp)(Q:VK),Inv X pins σ H s->t σ H Q->aB (model X.prog X.w) X.A (eval e X.env) (EP X pins σ Q) X.xe s
def PT(X:Cx)(e:Expr)(t:TT):Prop:=∀(pins:List (ae×Obj))(s:ag)(σ:St)(H:Hp)(Q:Bool->Hp->Prop),Inv X pins σ H s->t σ H Q->aB (model X.prog X.w) X.A (isTrue e X.env (eval e X.env)) (TP X pins σ Q) X.xe s
def PW(X:Cx)(e:Expr)(t:TT):Prop:=∀(whole:Sem ac)(pins:List (ae×Obj))(s:ag)(σ:St)(H:Hp)(Q:Bool->Hp->Prop),Inv X pins σ H s->t σ H Q->aB (model X.prog X.w) X.A (isTrue e X.env whole) (TP X pins σ Q) X.xe s
theorem PW.pt{X:Cx}{e:Expr}{t:TT}(h:PW X e t):PT X e t:=h _
def PA(X:Cx)(es:List Expr)(t:TA):Prop:=∀(pos:Pos)(pins:List (ae×Obj))(s:ag)(σ:St)(H:Hp)(Q:List V->Hp->Prop),Inv X pins σ H s->t σ H Q->aB (model X.prog X.w) X.A (spliced (backTo pos (aO es X.env))) (AP X pins σ Q) X.xe s
def PS(X:Cx)(st:bc)(t:TS):Prop:=∀(pins:List (ae×Obj))(s:ag)(σ:St)(H:Hp)(D:Ends),Inv X pins σ H s->t D σ H->aB (model X.prog X.w) X.A (exec st X.env) (SP X pins D) X.xe s
def PSs(X:Cx)(st:List bc)(t:TS):Prop:=∀(pins:List (ae×Obj))(s:ag)(σ:St)(H:Hp)(D:Ends),Inv X pins σ H s->t D σ H->aB (model X.prog X.w) X.A (execs st X.env) (SP X pins D) X.xe s
theorem thn{α:Type}{t:Sem α}{Q Q':α->ag->Prop}{M:Model}{A:ba}{E:ac->ag->Prop}{s:ag}(h:aB M A t Q E s)(hQ:∀a s,Q a s->Q' a s):aB M A t Q' E s:=wpAny_mono h hQ λ_ _ x=>x
open PySem PySem.Spec PyProof.Rows
section
variable {X:Cx}
def tVar(i:Nat):TE:=λσ H Q=>∃v,σ[i]?=some (some v)/\Q v H
def tC(v:V):TE:=λ_ H Q=>Q v H
theorem JP{i:Nat}{x:Str}{pos:Pos}(hN:X.N[i]?=some x)(hv:Vis X.env.scope x)(hd:(x==("__debug__":Str))=false:=by decide)(hcd:(x==("__classdict__":Str))=false:=by decide):PE X (.Name x pos) (tVar i):=by
 intro pins s σ H Q I h;obtain⟨v,e,h⟩:=h;obtain⟨m,hn,hl⟩:=I.loc;obtain⟨u,r,l⟩:=hl i x v hN e hv;have fin:EP X pins σ Q u s:=⟨v,H,I,r,h⟩;rcases l with⟨hk,hm⟩|⟨hk,c,hc,hcell⟩
 ·exact wpAny_Name (wpAny_loadName_local I.ok.kind hk hn hm fin) hd
 ·rcases hk with hk|hk
  ·exact wpAny_Name (wpAny_loadName_cell I.ok.kind hk hc hcell fin) hd
  ·exact wpAny_Name (wpAny_loadName_free I.ok.kind hk hc hcell fin hcd) hd
theorem Zd{i j pos}:PE X (.Constant (.int i) j pos) (tC (.int i)):=λ_ _ _ H _ I h=>wpAny_Constant_int ⟨.int i,H,I.tok _,⟨_,rfl⟩,h⟩
theorem VO{b j pos}:PE X (.Constant (.bool b) j pos) (tC (.bl b)):=λ_ _ _ H _ I h=>Constant_bool ⟨.bl b,H,I,rfl,h⟩
theorem ZN{j pos}:PE X (.Constant .none j pos) (tC .non):=λ_ _ _ H _ I h=>Constant_none ⟨.non,H,I,rfl,h⟩
theorem Zn{x j pos}:PE X (.Constant (.str x) j pos) (tC (.str x)):=λ_ _ _ H _ I h=>Calls.Constant_str ⟨.str x,H,I.tok _,⟨_,rfl⟩,h⟩
def Gl(X:Cx)(x:Str):Prop:=X.env.kindOf x=some .globalImplicit
theorem JR{E:ac->ag->Prop}{pins:List (ae×Obj)}{s:ag}{σ:St}{H:Hp}{x:Str}{u:ac}{pos:Pos}{Q:ac->ag->Prop}(I:Inv X pins σ H s)(hg:Gl X x)(hm:X.mg x=some u)(h:Q u s)(hd:(x==("__debug__":Str))=false:=by decide):aB (model X.prog X.w) X.A (eval (.Name x pos) X.env) Q E s:=Calls.Name_function_global I.ok.kind hg (Calls.loadGlobal_global (by rw[I.ok.glob];exact I.mod.glob.keeps I.bk) hm h) hd
theorem Vl{E:ac->ag->Prop}{pins:List (ae×Obj)}{s:ag}{σ:St}{H:Hp}{x:Str}{u:ac}{pos:Pos}{Q:ac->ag->Prop}(I:Inv X pins σ H s)(hg:Gl X x)(hm:X.mg x=none)(hv:bootBuiltins x=some u)(h:Q u s)(hn:x≠"__name__":=by decide)(hd:(x==("__debug__":Str))=false:=by decide):aB (model X.prog X.w) X.A (eval (.Name x pos) X.env) Q E s:=by obtain⟨mb,h1,h2⟩:=I.mod.blt;exact Calls.Name_function_global I.ok.kind hg (Calls.loadGlobal_builtin (by rw[I.ok.glob];exact I.mod.glob.keeps I.bk) hm (by rw[I.ok.blt];exact h1.keeps I.bk) ((h2 x hn).trans hv) h) hd
theorem Yx{x:Str}{v:V}{u:ac}{pos:Pos}(hg:Gl X x)(hm:X.mg x=some u)(r:RelV v u)(hd:(x==("__debug__":Str))=false:=by decide):PE X (.Name x pos) (tC v):=λ_ _ _ H _ I h=>JR I hg hm ⟨v,H,I,r,h⟩ hd
theorem P1{x:Str}{v:V}{u:ac}{pos:Pos}(hg:Gl X x)(hm:X.mg x=none)(hv:bootBuiltins x=some u)(r:RelV v u)(hn:x≠"__name__":=by decide)(hd:(x==("__debug__":Str))=false:=by decide):PE X (.Name x pos) (tC v):=λ_ _ _ H _ I h=>Vl I hg hm hv ⟨v,H,I,r,h⟩ hn hd
variable {a b:Expr}{ta tb:TE}{pos:Pos}
def PC(X:Cx)(op:CmpOp)(a b:Expr)(t:TE):Prop:=∀(pins:List (ae×Obj))(s:ag)(σ:St)(H:Hp)(Q:VK),Inv X pins σ H s->t σ H Q ->aB (model X.prog X.w) X.A (eval a X.env) (λv s₁=>aB (model X.prog X.w) X.A (eval b X.env) (λu s₂=>aB (model X.prog X.w) X.A (compareOp op v u) (EP X pins σ Q) X.xe s₂) X.xe s₁) X.xe s
theorem QP(b:Expr){op:CmpOp}(h:op≠.In)(h2:op≠.NotIn):behindInMarks op b=false:=by
 have e1:(op==CmpOp.In)=false:=by cases op<;>first|rfl|exact absurd rfl h
 have e2:(op==CmpOp.NotIn)=false:=by cases op<;>first|rfl|exact absurd rfl h2
 cases b<;>simp[behindInMarks,e1,e2]
def tB(t:TE):TT:=λσ H Q=>t σ H λx H1=>∃c,x=.bl c/\Q c H1
theorem D3{op:CmpOp}{t:TE}(h:PC X op a b t)(h1:behindInMarks op b=false:=by first|exact QP _ (by decide) (by decide)|rfl):PE X (.Compare a [op] [b] pos) t:=λpins s σ H Q I hw=>wpAny_Compare1 (h pins s σ H Q I hw) h1
theorem DZ{op:CmpOp}{t:TE}(h:PC X op a b t)(h1:behindInMarks op b=false:=by first|exact QP _ (by decide) (by decide)|rfl):PT X (.Compare a [op] [b] pos) (tB t):=by intro pins s σ H Q I hw;refine wpAny_isTrue_Compare1 (thn (h pins s σ H _ I hw) λv s1 h1=>thn h1 λu s2 h2=>thn h2 λc s3 h94=>?_) h1;obtain⟨x,H1,I1,r1,q1⟩:=h94;obtain⟨d,rfl,q⟩:=q1;cases r1;exact wpAny_truthy_bool ⟨H1,I1,q⟩
theorem ZX{e:Expr}{t:TE}(h:PE X e t)(he:∀whole,isTrue e X.env whole=(do let v <-whole;standAt e.pos;holding [v] (truthy v)):=by intro _;rfl):PT X e (tB t):=by
 intro pins s σ H Q I hw
 refine isTrue_plain (thn (h pins s σ H _ I hw) λv s1 h95=>?_) (he _)
 obtain⟨x,H1,I1,r1,q1⟩:=h95
 obtain⟨d,rfl,q⟩:=q1
 cases r1
 exact wpAny_truthy_bool ⟨H1,I1,q⟩
variable {tA tB':TT}{rest:List Expr}
def tAnd(t u:TT):TT:=λσ H Q=>t σ H λc H1=>if c=true then u σ H1 Q else Q false H1
def tOr(t u:TT):TT:=λσ H Q=>t σ H λc H1=>if c=true then Q true H1 else u σ H1 Q
def tNot(t:TT):TT:=λσ H Q=>t σ H λc H1=>Q (!c) H1
theorem Uk(ha:PT X a tA):PW X (.BoolOp .And [a] pos) tA:=by
 intro wh pins s σ H Q I h;refine isTrue_and (thn (ha pins s σ H Q I h) λc s1 e=>?_);cases c with
|true=>exact isTrue_and_nil e
|false=>exact e
theorem Y6(ha:PT X a tA):PW X (.BoolOp .Or [a] pos) tA:=by
 intro wh pins s σ H Q I h;refine isTrue_or (thn (ha pins s σ H Q I h) λc s1 e=>?_);cases c with
|false=>exact isTrue_or_nil e
|true=>exact e
theorem MV(ha:PT X a tA)(hb:PW X (.BoolOp .And (b::rest) pos) tB'):PW X (.BoolOp .And (a::b::rest) pos) (tAnd tA tB'):=by
 intro wh pins s σ H Q I h;refine isTrue_and (thn (ha pins s σ H _ I h) λc s1 h96=>?_);obtain⟨H1,I1,q1⟩:=h96;cases c with
|true=>exact hb wh pins s1 σ H1 Q I1 q1
|false=>exact⟨H1,I1,q1⟩
theorem Xv(ha:PT X a tA)(hb:PW X (.BoolOp .Or (b::rest) pos) tB'):PW X (.BoolOp .Or (a::b::rest) pos) (tOr tA tB'):=by
 intro wh pins s σ H Q I h;refine isTrue_or (thn (ha pins s σ H _ I h) λc s1 h97=>?_);obtain⟨H1,I1,q1⟩:=h97;cases c with
|true=>exact⟨H1,I1,q1⟩
|false=>exact hb wh pins s1 σ H1 Q I1 q1
theorem ZW(ha:PT X a tA):PT X (.UnaryOp .Not a pos) (tNot tA):=by intro pins s σ H Q I h;exact isTrue_not (ha pins s σ H (λc H1=>Q (!c) H1) I h)
def E5(ta tb:TE):TE:=λσ H Q=>ta σ H λx H1=>∃c,x=.bl c/\if c=true then tb σ H1 Q else Q (.bl false) H1
def EX(ta:TE):TE:=λσ H Q=>ta σ H λx H1=>∃c,x=.bl c/\Q (.bl (!c)) H1
theorem XN{op}{t:TE}(h:PE X a t):PE X (.BoolOp op [a] pos) t:=λpins s σ H Q I hw=>BoolOp_one (h pins s σ H Q I hw)
theorem V3(ha:PE X a ta)(hb:PE X (.BoolOp .And (b::rest) pos) tb):PE X (.BoolOp .And (a::b::rest) pos) (E5 ta tb):=by
 intro pins s σ H Q I h;refine BoolOp_and (thn (ha pins s σ H _ I h) λv s1 h98=>?_);obtain⟨x,H1,I1,r1,q1⟩:=h98;obtain⟨c,rfl,q1⟩:=q1;cases r1;refine wpAny_truthy_bool ?_;cases c with
|true=>exact hb pins s1 σ H1 Q I1 q1
|false=>exact⟨.bl false,H1,I1,rfl,q1⟩
theorem Ky(ha:PE X a ta):PE X (.UnaryOp .Not a pos) (EX ta):=by intro pins s σ H Q I h;refine UnaryOp_ (thn (ha pins s σ H _ I h) λv s1 h910=>?_);obtain⟨x,H1,I1,r1,q1⟩:=h910;obtain⟨c,rfl,q1⟩:=q1;cases r1;exact not_of (wpAny_truthy_bool ⟨.bl (!c),H1,I1,rfl,q1⟩)
def tIf(t:TT)(ta tb:TE):TE:=λσ H Q=>t σ H λc H1=>if c=true then ta σ H1 Q else tb σ H1 Q
theorem Up{c:Expr}(hc:PT X c tA)(ha:PE X a ta)(hb:PE X b tb):PE X (.IfExp c a b pos) (tIf tA ta tb):=by
 intro pins s σ H Q I h;refine wpAny_IfExp (thn (hc pins s σ H _ I h) λd s1 h911=>?_);obtain⟨H1,I1,q1⟩:=h911;cases d with
|true=>exact ha pins s1 σ H1 Q I1 q1
|false=>exact hb pins s1 σ H1 Q I1 q1
end
open PySem PySem.Spec PyProof.Rows
def SqL(K:aa)(H:Hp)(a:ae)(xs:List V):Prop:=Rd H a (.lst xs) \/∃(o:Obj)(its:Array ac)(n:Nat),K.lookup a=some o/\o.cls=.type "list"/\o.dict=none/\o.data=.seq its n/\its.size<=av/\Vals xs its.toList
def SqT(K:aa)(H:Hp)(a:ae)(xs:List V):Prop:=Rd H a (.tup xs) \/∃(o:Obj)(its:Array ac)(n:Nat),K.lookup a=some o/\o.cls=.type "tuple"/\o.data=.seq its n/\its.size<=av/\Vals xs its.toList
noncomputable def absV:ac->Option V
|.none=>some .non
|.bool b=>some (.bl b)
|.int i _=>some (.int i)
|.str x _=>some (.str x)
|.bytes b _=>some (.byt b)
|.float b _=>some (.flt b)
|.ref a=>some (.ref a)
|.type n=>some (.ty n)
|_=>none
theorem RelV.abs{x:V}{u:ac}(r:RelV x u):absV u=some x:=by
 cases x with
|non=>cases r;rfl
|bl _=>cases r;rfl
|int _=>obtain⟨t,rfl⟩:=r;rfl
|str _=>obtain⟨t,rfl⟩:=r;rfl
|byt _=>obtain⟨t,rfl⟩:=r;rfl
|flt _=>obtain⟨t,rfl⟩:=r;rfl
|ref _=>cases r;rfl
|ty _=>cases r;rfl
theorem RelV.inj{x y:V}{u:ac}(r:RelV x u)(q:RelV y u):x=y:=aH (r.abs.symm.trans q.abs)
theorem Vals.inj:∀{xs ys:List V}{us:List ac},Vals xs us->Vals ys us->xs=ys
|_,_,_,.nil,.nil=>rfl
|_,_,_,.cons r t,.cons r' t'=>by rw[r.inj r',Vals.inj t t']
section
variable {X:Cx}{pins:List (ae×Obj)}{σ:St}{H:Hp}{s:ag}{a:ae}{xs ys:List V}
theorem SqL.of{K:aa}(h:H a=some (.lst xs)):SqL K H a xs:=.inl (.inl h)
theorem SqT.of{K:aa}(h:H a=some (.tup xs)):SqT K H a xs:=.inl (.inl h)
theorem Inv.list(I:Inv X pins σ H s)(h:SqL X.K H a xs):∃its:List ac,Vals xs its/\PlainL s.heap a its.toArray/\xs.length<=av:=by
 rcases h with h|⟨o,its,n,hk,hc,hd,hs,hz,r⟩
 ·obtain⟨z,its,n,r,e⟩:=h.ok I.hok;exact⟨its,r,⟨_,n,e,rfl,rfl,rfl⟩,z⟩
 ·refine⟨its.toList,r,⟨o,n,I.kIn a o hk,hc,hd,by simpa using hs⟩,?_⟩;have e:=r.length;simp only[Array.length_toList]at e;omega
theorem Inv.tuple(I:Inv X pins σ H s)(h:SqT X.K H a xs):∃its:List ac,Vals xs its/\IsTup s.heap a its.toArray/\xs.length<=av:=by
 rcases h with h|⟨o,its,n,hk,hc,hs,hz,r⟩
 ·obtain⟨z,its,r,p⟩:=h.ok I.hok;exact⟨its,r,p,z⟩
 ·refine⟨its.toList,r,⟨o,I.kIn a o hk,hc,n,by simpa using hs⟩,?_⟩;have e:=r.length;simp only[Array.length_toList]at e;omega
theorem Inv.list_inj(I:Inv X pins σ H s)(h:SqL X.K H a xs)(h':SqL X.K H a ys):xs=ys:=by
 obtain⟨its,r,⟨o,n,e,_,_,d⟩,_⟩:=I.list h;obtain⟨its',r',⟨o',n',e',_,_,d'⟩,_⟩:=I.list h';rw[e]at e';cases e';rw[d]at d';injection d' with d1 _;have:its=its':=by simpa using congrArg Array.toList d1
 subst this;exact r.inj r'
theorem Inv.tuple_inj(I:Inv X pins σ H s)(h:SqT X.K H a xs)(h':SqT X.K H a ys):xs=ys:=by
 obtain⟨its,r,⟨o,e,_,n,d⟩,_⟩:=I.tuple h;obtain⟨its',r',⟨o',e',_,n',d'⟩,_⟩:=I.tuple h';rw[e]at e';cases e';rw[d]at d';injection d' with d1 _;have:its=its':=by simpa using congrArg Array.toList d1
 subst this;exact r.inj r'
end
noncomputable abbrev Cx.wish(X:Cx)(E:ac->ag->Prop):Cx:={X with xe:=E}
noncomputable abbrev Cx.nox(X:Cx):Cx:=X.wish λ_ _=>False
theorem Cx.Ok.wish{X:Cx}(ok:X.Ok)(E:ac->ag->Prop):(X.wish E).Ok:=⟨ok.mod,ok.kind,ok.glob,ok.blt,ok.above,ok.inj,ok.has,ok.cab,ok.hd,ok.frames,ok.stk,ok.exf,ok.bs,ok.bsz,ok.noex,ok.exfs,ok.funs,ok.frf⟩
theorem Cx.Ok.unwish{X:Cx}{E:ac->ag->Prop}(ok:(X.wish E).Ok):X.Ok:=⟨ok.mod,ok.kind,ok.glob,ok.blt,ok.above,ok.inj,ok.has,ok.cab,ok.hd,ok.frames,ok.stk,ok.exf,ok.bs,ok.bsz,ok.noex,ok.exfs,ok.funs,ok.frf⟩
section
variable {X:Cx}{pins:List (ae×Obj)}{σ:St}{H:Hp}{s:ag}{E:ac->ag->Prop}
theorem Inv.wish(I:Inv X pins σ H s)(E:ac->ag->Prop):Inv (X.wish E) pins σ H s:=⟨I.ok.wish E,I.os,I.bare,I.base,I.loc,I.cell,I.free,I.freeC,I.pin,I.hok,I.len⟩
theorem Inv.unwish(I:Inv (X.wish E) pins σ H s):Inv X pins σ H s:=⟨I.ok.unwish,I.os,I.bare,I.base,I.loc,I.cell,I.free,I.freeC,I.pin,I.hok,I.len⟩
theorem SP.unwish{D:Ends}{f:Flow}{s':ag}(h:SP (X.wish E) pins D f s'):SP X pins D f s':=by
 cases f with
|next=>obtain⟨σ',H',I,q⟩:=h;exact⟨σ',H',I.unwish,q⟩
|brk=>obtain⟨σ',H',I,q⟩:=h;exact⟨σ',H',I.unwish,q⟩
|cont=>obtain⟨σ',H',I,q⟩:=h;exact⟨σ',H',I.unwish,q⟩
|ret u=>obtain⟨v,σ',H',I,r,q⟩:=h;exact⟨v,σ',H',I.unwish,r,q⟩
theorem PSs.nox{st:List bc}{t:TS}(h:PSs X.nox st t):PSs X st t:=λpins s σ H D I hw=>wpAny_mono (h pins s σ H D (I.wish _) hw) (λ_ _ q=>q.unwish) λ_ _ z=>bU z
end
section
variable {X:Cx}{st:bc}{rest:List bc}{t u:TS}{e:Expr}{te:TE}{pos:Pos}
def EY:TS:=λD σ H=>D.nx σ H
def tSeq(t u:TS):TS:=λD σ H=>t {D with nx:=u D} σ H
theorem Zq:PSs X [] EY:=λ_ _ σ H _ I h=>wpAny_execs_nil ⟨σ,H,I,h⟩
theorem Zf(h1:PS X st t)(h2:PSs X rest u):PSs X (st::rest) (tSeq t u):=by
 intro pins s σ H D I h;refine wpAny_execs_cons (thn (h1 pins s σ H {D with nx:=u D} I h) λf s1 q=>?_);cases f with
|next=>obtain⟨σ',H',I',q⟩:=q;exact h2 pins s1 σ' H' D I' q
|ret v=>exact q
|brk=>exact q
|cont=>exact q
theorem Zi(h1:PS X st t):PSs X [st] t:=by
 intro pins s σ H D I h;refine wpAny_execs_cons (thn (h1 pins s σ H D I h) λf s1 q=>?_);cases f with
|next=>exact wpAny_execs_nil q
|ret v=>exact q
|brk=>exact q
|cont=>exact q
theorem Inv.quiet{pins:List (ae×Obj)}{σ:St}{H:Hp}{s:ag}(I:Inv X pins σ H s):interactive X.env=false:=by simp[interactive,I.ok.kind]
def E3(te:TE):TS:=λD σ H=>te σ H λ_ H1=>D.nx σ H1
theorem Y7(he:PE X e te)(hs:swapsWith e none pos.line X.env=pure false:=by rfl):PS X (.Expr e pos) (E3 te):=by intro pins s σ H D I h;exact wpAny_Expr_any (thn (he pins s σ H _ I h) λv s1 h912=>by obtain⟨x,H1,I1,r1,q1⟩:=h912;exact⟨σ,H1,I1,q1⟩) I.quiet hs
def tRet(te:TE):TS:=λD σ H=>te σ H D.rt
theorem Zl(he:PE X e te):PS X (.Return (some e) pos) (tRet te):=by intro pins s σ H D I h;exact wpAny_Return_some (thn (he pins s σ H _ I h) λv s1 h913=>by obtain⟨x,H1,I1,r1,q1⟩:=h913;exact⟨x,σ,H1,I1,r1,q1⟩)
def tIfS(c:TT)(t u:TS):TS:=λD σ H=>c σ H λb H1=>if b=true then t D σ H1 else u D σ H1
theorem ZC{c:Expr}{a b:List bc}{tc:TT}(hc:PT X c tc)(ha:PSs X a t)(hb:PSs X b u):PS X (.If c a b pos) (tIfS tc t u):=by
 intro pins s σ H D I h;refine wpAny_If (thn (hc pins s σ H _ I h) λd s1 h914=>?_);obtain⟨H1,I1,q1⟩:=h914;cases d with
|true=>exact ha pins s1 σ H1 D I1 q1
|false=>exact hb pins s1 σ H1 D I1 q1
end
noncomputable abbrev TG:=V->St->Hp->(St->Hp->Prop)->Prop
noncomputable abbrev TGs:=List V->St->Hp->(St->Hp->Prop)->Prop
def PG(X:Cx)(target:Expr)(t:TG):Prop:=∀(pins:List (ae×Obj))(s:ag)(σ:St)(H:Hp)(v:V)(u:ac)(Q:St->Hp->Prop),Inv X pins σ H s->RelV v u->t v σ H Q ->aB (model X.prog X.w) X.A (assign target X.env u) (λ_ s'=>∃σ' H',Inv X pins σ' H' s'/\Q σ' H') X.xe s
def PGs(X:Cx)(ts:List Expr)(t:TGs):Prop:=∀(pins:List (ae×Obj))(s:ag)(σ:St)(H:Hp)(vs:List V)(us:List ac)(Q:St->Hp->Prop),Inv X pins σ H s->Vals vs us->t vs σ H Q ->aB (model X.prog X.w) X.A (assignInOrder ((assignEach ts X.env).map (·.2)) us) (λ_ s'=>∃σ' H',Inv X pins σ' H' s'/\Q σ' H') X.xe s
noncomputable abbrev TSet:=V->V->V->Hp->(Hp->Prop)->Prop
def PSet(X:Cx)(t:TSet):Prop:=∀(pins:List (ae×Obj))(s:ag)(σ:St)(H:Hp)(o i v:V)(ov iv u:ac)(Q:Hp->Prop),Inv X pins σ H s->RelV o ov->RelV i iv->RelV v u->t o i v H Q ->aB (model X.prog X.w) X.A (setItem ov iv u) (λ_ s'=>∃H',Inv X pins σ H' s'/\Q H') X.xe s
section
variable {X:Cx}{pos:Pos}
def QY(i:Nat):TG:=λv σ H Q=>Q (σ.set i (some v)) H
theorem Zt{i:Nat}{x:Str}(hN:X.N.Nodup)(hi:X.N[i]?=some x)(hx:Loc X.env.scope x)(hf:X.fn x=true\/X.env.scope.names.lookup x=some .local:=by first|exact .inl rfl|exact .inr rfl|assumption):PG X (.Name x pos) (QY i):=by intro pins s σ H v u Q I r h;exact wpAny_assign_Name (MC I hN hi hx r (λs' I'=>⟨_,H,I',h⟩) hf)
noncomputable def gNil:TGs:=λvs σ H Q=>vs=[]/\Q σ H
noncomputable def Fw(t:TG)(u:TGs):TGs:=λvs σ H Q=>∃v r,vs=v::r/\t v σ H λσ' H'=>u r σ' H' Q
theorem Yd:PGs X [] gNil:=by intro pins s σ H vs us Q I r h;obtain⟨e,h⟩:=h;subst e;cases r;exact assignInOrder_nil ⟨σ,H,I,h⟩
theorem Zz{e:Expr}{es:List Expr}{t:TG}{u:TGs}(h1:PG X e t)(h2:PGs X es u)(hs:(assignEach (e::es) X.env).map (·.2)=assign e X.env::(assignEach es X.env).map (·.2):=by rfl):PGs X (e::es) (Fw t u):=by
 intro pins s σ H vs us Q I r h;obtain⟨v,vr,e1,h⟩:=h;subst e1;cases r with
|cons r rr=>rw[hs];refine assignInOrder_cons (thn (h1 pins s σ H _ _ _ I r h) λ_ s1 h915=>?_);obtain⟨σ1,H1,I1,q1⟩:=h915;exact h2 pins s1 σ1 H1 _ _ Q I1 rr q1
def gTup(K:aa)(n:Nat)(t:TGs):TG:=λv σ H Q=>∃a xs,v=.ref a/\SqT K H a xs/\xs.length=n/\t xs σ H Q
theorem XM{es:List Expr}{k:Nat}{t:TGs}{n:Nat}(hc:X.calm=true)(h:PGs X es t)(hn:(assignEach es X.env).length=n:=by rfl)(hst:(assignEach es X.env).findIdx? (·.1)=none:=by rfl):PG X (.Tuple es k pos) (gTup X.K n t):=by intro pins s σ H v u Q I r hw;obtain⟨a,xs,e1,hq,hl,hw⟩:=hw;subst e1;cases r;obtain⟨its,rv,ht,hz⟩:=I.tuple hq;refine assign_Tuple_tuple (I.ok.hd hc) ht (by simp[hn,<-hl,rv.length]) hst λh' hx=>?_;have I1:Inv X pins σ H {s with heap:=h'}:=I.kept (t':=s.toks) λb o e=>hx b o (aE (ap e)) e;exact h pins _ σ H xs _ Q I1 (by simpa using rv) hw
def gSub(to ti:TE)(t:TSet):TG:=λv σ H Q=>to σ H λo H1=>ti σ H1 λi H2=>t o i v H2 λH3=>Q σ H3
theorem Kw{o i:Expr}{to ti:TE}{t:TSet}(ho:PE X o to)(hi:PE X i ti)(hs:PSet X t)
  (ha:∀v,assign (.Subscript o i pos) X.env v=(do
   let ov <-holding [v] (eval o X.env)
   let iv <-holding [v,ov] (eval i X.env)
   standAt pos
   holding [v,ov,iv] (setItem ov iv v)
   release [v,ov,iv] []):=by intro _;rfl):PG X (.Subscript o i pos) (gSub to ti t):=by
 intro pins s σ H v u Q I r h
 rw[ha]
 refine af (bw (thn (ho pins s σ H _ I h) λov s1 h916=>?_))
 obtain⟨x,H1,I1,r1,q1⟩:=h916
 refine af (bw (thn (hi pins s1 σ H1 _ I1 q1) λiv s2 h917=>?_))
 obtain⟨y,H2,I2,r2,q2⟩:=h917
 refine af (wpAny_standAt (af (bw (thn (hs pins s2 σ H2 x y v ov iv u _ I2 r1 r2 r q2) λ_ s3 h918=>?_))))
 obtain⟨H3,I3,q3⟩:=h918
 exact wpAny_release ⟨σ,H3,I3,q3⟩
def tAsg(te:TE)(g:TG):TS:=λD σ H=>te σ H λx H1=>g x σ H1 D.nx
theorem V2{tg e:Expr}{te:TE}{g:TG}(he:PE X e te)(hg:PG X tg g)(hs:swapsWithSole [tg] e pos.line X.env=pure false:=by rfl)(hw:swappedStores [tg] e X.env=pure none:=by rfl)(h1:(assignEach [tg] X.env).map (·.2)=[assign tg X.env]:=by rfl):PS X (.Assign [tg] e pos) (tAsg te g):=by intro pins s σ H D I h;refine wpAny_Assign_stores (thn (he pins s σ H _ I h) λv s1 h919=>?_) hs hw;obtain⟨x,H1,I1,r1,q1⟩:=h919;rw[h1];exact thn (hg pins s1 σ H1 x v _ I1 r1 q1) λ_ s2 q=>q
theorem ZM{i:Nat}{x:Str}{e:Expr}{te:TE}{pos':Pos}(hN:X.N.Nodup)(hi:X.N[i]?=some x)(hx:Loc X.env.scope x)(he:PE X e te)(hs:swapsWith e (some (.Name x pos')) pos.line X.env=pure false:=by rfl)(hf:X.fn x=true\/X.env.scope.names.lookup x=some .local:=by first|exact .inl rfl|exact .inr rfl|assumption):PS X (.Assign [.Name x pos'] e pos) (tAsg te (QY i)):=by intro pins s σ H D I h;refine wpAny_Assign_Name (thn (he pins s σ H _ I h) λv s1 h920=>?_) hs;obtain⟨y,H1,I1,r1,q1⟩:=h920;exact MC I1 hN hi hx r1 (λs2 I2=>⟨_,H1,I2,q1⟩) hf
end
structure It where
 go:Nat->Hp->Prop
 yld:Nat->Hp->V->Hp->Prop
 stop:Nat->Hp->Prop
def FpOk(X:Cx)(pins:List (ae×Obj))(H:Hp)(b:ae):Prop:=H b=none/\b≠X.env.locals/\b∉X.fs/\(b∈X.ex\/X.s₀.heap.objs.size<=b)/\(∀x c,X.env.cells.lookup x=some c->c≠b)/\∀p∈X.pn++pins,p.1≠b
theorem Inv.fpOk{X:Cx}{pins:List (ae×Obj)}{σ:St}{H H':Hp}{s:ag}{b:ae}(I:Inv X pins σ H s)(hb:s.heap.objs.size<=b)(hn:H' b=none):FpOk X pins H' b:=by
 refine⟨hn,b5 (aD I.lt hb),I.nofs hb,.inr (ax I.sz hb),λx c e z=>?_,λp hp z=>?_⟩
 ·obtain⟨v,q⟩:=I.cell x c e;exact absurd (aD q.lt (by rw[z];exact hb)) (bJ _)
 ·exact absurd (aD (ap (I.pin p hp).1) (by rw[z];exact hb)) (bJ _)
structure Turn(P:aA)(w:aI)(K:aa)(tg:Expr)(J:It)(fp:List ae)(it:ae)(tn:Nat->aX->Prop):Prop where
 mem:it∈fp
 obj:∀i h,tn i h->∀b∈fp,∃o,h.get? b=some o/\∀v,o.data≠.cell v
 keep:∀i h h',tn i h->(∀b∈fp,∀o,h.get? b=some o->h'.get? b=some o)->tn i h'
 item:∀(X:Cx),X.prog=P->X.w=w->X.K=K->X.calm=true->∀(i:Nat)(pins:List (ae×Obj))(s:ag)(σ:St)(H:Hp)(E:ac->ag->Prop),Inv X pins σ H s->(∀b∈fp,FpOk X pins H b)->tn i s.heap->J.go i H ->
  aB (model P w) X.A (pyNext (.ref it)) (λr s1=>∃u,r=some u /\
   aB (model P w) X.A (letOwnedTupleGo tg (.ref it) u) (λ_ s2=>∃x H',Inv X pins σ H' s2/\RelV x u/\J.yld i H x H'/\tn (i+1) s2.heap/\∀b∈fp,H' b=none) E s1) E s
 done:∀(X:Cx),X.prog=P->X.w=w->X.K=K->X.calm=true->∀(i:Nat)(pins:List (ae×Obj))(s:ag)(σ:St)(H:Hp)(E:ac->ag->Prop),Inv X pins σ H s->(∀b∈fp,FpOk X pins H b)->tn i s.heap->J.stop i H ->
  aB (model P w) X.A (pyNext (.ref it)) (λr s1=>r=none/\Inv X pins σ H s1) E s
 self:∀(A:ba)(i:Nat)(s:ag)(Q:ac->ag->Prop)(E:ac->ag->Prop),tn i s.heap->Q (.ref it) s->aB (model P w) A (pyIter (.ref it)) Q E s
noncomputable abbrev TI:=St->Hp->(It->Hp->Prop)->Prop
def PIE(X:Cx)(pins:List (ae×Obj))(σ:St)(tg:Expr)(R:It->Hp->Prop)(itv:ac)(s2:ag):Prop:=∃(it:ae)(fp:List ae)(tn:Nat->aX->Prop)(J:It)(H':Hp),itv=.ref it/\Inv X pins σ H' s2/\Turn X.prog X.w X.K tg J fp it tn/\tn 0 s2.heap/\(∀b∈fp,FpOk X pins H' b)/\R J H'
def PI(X:Cx)(tg iter:Expr)(wi:TI):Prop:=∀(pins:List (ae×Obj))(s:ag)(σ:St)(H:Hp)(R:It->Hp->Prop),Inv X pins σ H s->wi σ H R ->aB (model X.prog X.w) X.A (eval iter X.env) (λv s1=>aB (model X.prog X.w) X.A (pyIter v) (PIE X pins σ tg R) X.xe s1) X.xe s
theorem Tr{M:Model}{A:ba}{E:ac->ag->Prop}{s:ag}{tg:Expr}{it:ae}{u:ac}{o:Obj}{n:String}{vs:Array ac}{Q:Unit->ag->Prop}(ho:s.heap.get? it=some o)(hc:o.cls=.type n)(hd:o.data=.fields vs)(hn:["enumerate","zip","dict_itemiterator","dict_reverseitemiterator","odict_iterator","itertools.zip_longest","itertools.pairwise"].contains n=false)(hQ:Q () s):aB M A (letOwnedTupleGo tg (.ref it) u) Q E s:=by
 unfold letOwnedTupleGo;cases tg<;>first
 |exact au hQ
 |(cases u<;>first
   |exact au hQ
   |(refine af (wpAny_load ho ?_);rw[hc,hd];show aB M A (if(["enumerate","zip","dict_itemiterator","dict_reverseitemiterator","odict_iterator","itertools.zip_longest","itertools.pairwise"].contains n&&vs[0]?==some (rawInt _))=true then _ else _) Q E s;rw[if_neg (by intro h;rw[hn,Bool.false_and]at h;cases h)];exact au hQ))
noncomputable def Itl(K:aa)(a:ae):It:=⟨λi H=>∃xs x,SqL K H a xs/\xs[i]?=some x,λi H x H'=>H'=H/\∀xs,SqL K H a xs->xs[i]?=some x,λi H=>∃xs,SqL K H a xs/\xs.length<=i⟩
noncomputable def Itt(K:aa)(a:ae):It:=⟨λi H=>∃xs x,SqT K H a xs/\xs[i]?=some x,λi H x H'=>H'=H/\∀xs,SqT K H a xs->xs[i]?=some x,λi H=>∃xs,SqT K H a xs/\xs.length<=i⟩
noncomputable def Itr(lo:Int)(n:Nat):It:=⟨λi _=>i<n,λi H x H'=>H'=H/\x=.int (lo+i),λi _=>n<=i⟩
theorem T9{P:aA}{w:aI}{K:aa}{tg:Expr}(a it:ae):Turn P w K tg (Itl K a) [it] it (λi h=>h.IsListIter it a i) where
 mem:=by simp
 obj:=λi h st b hb=>by
  have e:b=it:=by simpa using hb
  subst e
  obtain⟨o,e,c,d⟩:=st
  exact⟨o,e,λv z=>by rw[d]at z;cases z⟩
 keep:=λi h h' st k=>st.at λo e=>k it (by simp) o e
 item:=by
  intro X hP hw hK hc i pins s σ H E I hf st hg
  subst hP hw hK
  obtain⟨xs,x,hq,hx⟩:=hg
  obtain⟨its,rv,p,hz⟩:=I.list hq
  obtain⟨u,hu,ru⟩:=rv.get hx
  obtain⟨f0,f1,f2,f3,f4,f5⟩:=hf it (by simp)
  refine wpAny_pyNext_list_item st p.isList (x:=u) (by simpa using hu) λh' st' sb=>?_
  have I1:Inv X pins σ H {s with heap:=h'}:=I.turned (t':=s.toks) (λb o hb e=>(sb.2 b hb).trans e) f0 f1 f3 f4 f5
  obtain⟨o,e,c,d⟩:=id st'
  exact⟨u,rfl,Tr (s:={s with heap:=h'}) e c d (by decide) ⟨x,H,I1,ru,⟨rfl,λys hy=>by rw[I.list_inj hy hq];exact hx⟩,st',λb hb=>(hf b hb).1⟩⟩
 done:=by
  intro X hP hw hK hc i pins s σ H E I hf st hg
  subst hP hw hK
  obtain⟨xs,hq,hx⟩:=hg
  obtain⟨its,rv,p,hz⟩:=I.list hq
  obtain⟨f0,f1,f2,f3,f4,f5⟩:=hf it (by simp)
  have hl:=rv.length
  exact wpAny_pyNext_list_end (I.ok.hd hc) st p.isList (by simp;omega) λh' eb=>⟨rfl,I.turned (t':=s.toks) (λb o hb e=>eb b o hb e) f0 f1 f3 f4 f5⟩
 self:=λ_ _ _ _ _ st h=>wpAny_pyIter_listiter st h
theorem Rn{P:aA}{w:aI}{K:aa}{tg:Expr}(a it:ae):Turn P w K tg (Itt K a) [it] it (λi h=>h.IsTupleIter it a i) where
 mem:=by simp
 obj:=λi h st b hb=>by
  have e:b=it:=by simpa using hb
  subst e
  obtain⟨o,e,c,d⟩:=st
  exact⟨o,e,λv z=>by rw[d]at z;cases z⟩
 keep:=λi h h' st k=>st.at λo e=>k it (by simp) o e
 item:=by
  intro X hP hw hK hc i pins s σ H E I hf st hg
  subst hP hw hK
  obtain⟨xs,x,hq,hx⟩:=hg
  obtain⟨its,rv,p,hz⟩:=I.tuple hq
  obtain⟨u,hu,ru⟩:=rv.get hx
  obtain⟨f0,f1,f2,f3,f4,f5⟩:=hf it (by simp)
  refine wpAny_pyNext_tuple_item st (show s.heap.IsTuple a its.toArray from p) (x:=u) (by simpa using hu) λh' st' sb=>?_
  have I1:Inv X pins σ H {s with heap:=h'}:=I.turned (t':=s.toks) (λb o hb e=>(sb.2 b hb).trans e) f0 f1 f3 f4 f5
  obtain⟨o,e,c,d⟩:=id st'
  exact⟨u,rfl,Tr (s:={s with heap:=h'}) e c d (by decide) ⟨x,H,I1,ru,⟨rfl,λys hy=>by rw[I.tuple_inj hy hq];exact hx⟩,st',λb hb=>(hf b hb).1⟩⟩
 done:=by
  intro X hP hw hK hc i pins s σ H E I hf st hg
  subst hP hw hK
  obtain⟨xs,hq,hx⟩:=hg
  obtain⟨its,rv,p,hz⟩:=I.tuple hq
  obtain⟨f0,f1,f2,f3,f4,f5⟩:=hf it (by simp)
  have hl:=rv.length
  exact wpAny_pyNext_tuple_end (I.ok.hd hc) st (show s.heap.IsTuple a its.toArray from p) (by simp;omega) λh' eb=>⟨rfl,I.turned (t':=s.toks) (λb o hb e=>eb b o hb e) f0 f1 f3 f4 f5⟩
 self:=λ_ _ _ _ _ st h=>wpAny_pyIter_tupleiter st h
theorem Ro{P:aA}{w:aI}{K:aa}{tg:Expr}(it:ae)(lo:Int)(n:Nat):Turn P w K tg (Itr lo n) [it] it (λi h=>IsRangeIter h it (lo+(i:Nat)*1) ((n:Int)-(i:Nat)) 1) where
 mem:=by simp
 obj:=λi h st b hb=>by
  have e:b=it:=by simpa using hb
  subst e
  exact⟨_,st,λv z=>by
   have z':Data.fields _=Data.cell v:=z
   cases z'⟩
 keep:=λi h h' st k=>k it (by simp) _ st
 item:=by
  intro X hP hw hK hc i pins s σ H E I hf st hg
  subst hP hw hK
  obtain⟨f0,f1,f2,f3,f4,f5⟩:=hf it (by simp)
  have W:=Walks.range (prog:=X.prog) (w:=X.w) (I.ok.hd hc) it lo 1 n
  refine W.item i s _ _ hg st λv h' tk hv st' kk=>?_
  obtain⟨t,rfl⟩:=hv
  have I1:Inv X pins σ H {s with heap:=h',toks:=tk}:=I.turned (λb o hb e=>kk b o (by simpa using hb) e) f0 f1 f3 f4 f5
  refine⟨_,rfl,Tr (s:={s with heap:=h',toks:=tk}) (n:="range_iterator") st' rfl rfl (by decide) ⟨.int (lo+i),H,I1,⟨t,?_⟩,⟨rfl,rfl⟩,st',λb hb=>(hf b hb).1⟩⟩
  rw[Int.mul_one]
 done:=by
  intro X hP hw hK hc i pins s σ H E I hf st hg
  subst hP hw hK
  obtain⟨f0,f1,f2,f3,f4,f5⟩:=hf it (by simp)
  exact wpAny_pyNext_range_end (I.ok.hd hc) st (by have:n<=i:=hg;omega) λh' eb=>⟨rfl,I.turned (t':=s.toks) (λb o hb e=>eb b o hb e) f0 f1 f3 f4 f5⟩
 self:=λ_ _ _ _ _ st h=>wpAny_pyIter_rangeiter st h
open PySem PySem.Spec PyProof.Rows
section
variable {X:Cx}{tg:Expr}
noncomputable def Ft(K:aa)(tl:TE):TI:=λσ H R=>tl σ H λx H1=>∃a,x=.ref a/\(∃xs,SqL K H1 a xs)/\R (Itl K a) H1
noncomputable def iTup(K:aa)(tl:TE):TI:=λσ H R=>tl σ H λx H1=>∃a,x=.ref a/\(∃xs,SqT K H1 a xs)/\R (Itt K a) H1
theorem Yq{l:Expr}{tl:TE}(hl:PE X l tl):PI X tg l (Ft X.K tl):=by
 intro pins s σ H R I h;refine thn (hl pins s σ H _ I h) λv s1 h931=>?_;obtain⟨x,H1,I1,r1,q1⟩:=h931;obtain⟨a,e,⟨xs,hq⟩,q⟩:=q1;subst e;cases r1;obtain⟨its,rv,p,hz⟩:=I1.list hq;refine wpAny_pyIter_list p.isList ?_;refine⟨s1.heap.objs.size,[s1.heap.objs.size],_,_,H1,rfl,I1.kept (t':=s1.toks) λb o e=>ah _ e,T9 a _,⟨_,aU _ rfl,rfl,rfl⟩,λb hb=>?_,q⟩;have e:b=s1.heap.objs.size:=by simpa using hb
 subst e;exact I1.fpOk (aj _) (I1.hok.fresh (aj _))
theorem MX{l:Expr}{tl:TE}(hl:PE X l tl):PI X tg l (iTup X.K tl):=by
 intro pins s σ H R I h;refine thn (hl pins s σ H _ I h) λv s1 h932=>?_;obtain⟨x,H1,I1,r1,q1⟩:=h932;obtain⟨a,e,⟨xs,hq⟩,q⟩:=q1;subst e;cases r1;obtain⟨its,rv,p,hz⟩:=I1.tuple hq;refine wpAny_pyIter_tuple (show s1.heap.IsTuple a its.toArray from p) ?_;refine⟨s1.heap.objs.size,[s1.heap.objs.size],_,_,H1,rfl,I1.kept (t':=s1.toks) λb o e=>ah _ e,Rn a _,⟨_,aU _ rfl,rfl,rfl⟩,λb hb=>?_,q⟩;have e:b=s1.heap.objs.size:=by simpa using hb
 subst e;exact I1.fpOk (aj _) (I1.hok.fresh (aj _))
theorem Kt{pins:List (ae×Obj)}{σ:St}{H:Hp}{s:ag}{R:It->Hp->Prop}{E:ac->ag->Prop}{lo hi:Int}{t u v:Tok}{tk:Nat}(I:Inv X pins σ H s)(h1:-(2 ^ 62)<=lo)(h2:lo<2 ^ 62)(h3:-(2 ^ 62)<=hi)(h4:hi<2 ^ 62)(q:R (Itr lo (hi-lo).toNat) H):aB (model X.prog X.w) X.A (pyIter (.ref s.heap.objs.size)) (PIE X pins σ tg R) E {s with heap:=s.heap.push {cls:=.type "range",data:=.fields #[.int lo t,.int hi u,.int 1 v]},toks:=tk}:=by
 refine wpAny_pyIter_range (IsRange.new ..) (small_one h1 h2 h3 h4) ?_;have I1:Inv X pins σ H {s with heap:=s.heap.push {cls:=.type "range",data:=.fields #[.int lo t,.int hi u,.int 1 v]},toks:=tk}:=I.kept λb o e=>ah _ e;refine⟨(s.heap.push {cls:=.type "range",data:=.fields #[.int lo t,.int hi u,.int 1 v]}).objs.size,[(s.heap.push {cls:=.type "range",data:=.fields #[.int lo t,.int hi u,.int 1 v]}).objs.size],_,_,H,rfl,I1.kept (t':=tk) λb o e=>ah _ e,Ro _ lo (hi-lo).toNat,?_,λb hb=>?_,q⟩
 ·have e1:lo+((0:Nat):Int)*1=lo:=by simp
  have e2:(((hi-lo).toNat:Nat):Int)-((0:Nat):Int)=Builtin.Range.rangeSize lo hi 1:=by rw[rangeSize_one];split<;>omega
  show IsRangeIter _ _ (lo+((0:Nat):Int)*1) ((((hi-lo).toNat:Nat):Int)-((0:Nat):Int)) 1;rw[e1,e2];exact aU _ rfl
 ·have e:b=(s.heap.push {cls:=.type "range",data:=.fields #[.int lo t,.int hi u,.int 1 v]}).objs.size:=by simpa using hb
  subst e;exact I1.fpOk (aj _) (I1.hok.fresh (aj _))
noncomputable def Fs(ta:TA):TI:=λσ H R=>ta σ H λvs H1=>∃j:Int,vs=[.int j]/\-(2 ^ 62)<=j/\j<2 ^ 62/\R (Itr 0 j.toNat) H1
theorem Y1{a:Expr}{ta:TA}{p pos:Pos}(hg:Gl X "range")(hm:X.mg "range"=none)(ha:PA X [a] ta)(hs:aO [a] X.env=[(false,eval a X.env)]:=by rfl):PI X tg (.Call (.Name "range" p) [a] [] pos) (Fs ta):=by
 intro pins s σ H R I h;refine Call_ (Vl I hg hm boot_range (bX (thn (ha pos pins s σ H _ I h) λus s1 h933=>?_) hs rfl));obtain⟨vs,H1,I1,r1,q1⟩:=h933;obtain⟨j,e,q1,q2,q⟩:=q1;subst e;cases r1 with
|cons r rr=>cases rr;obtain⟨t,rfl⟩:=r;exact call_range_1 (Kt I1 (by omega) (by omega) q1 q2 (by simpa using q))
def tFor(wi:TI)(g:TG)(tb:TS):TS:=λD σ H=>wi σ H λJ H1=>∃W:Nat->Nat->St->Hp->Prop,(∃m,W 0 m σ H1)/\∀i m σ H,W i m σ H ->(J.stop i H/\D.nx σ H)\/(J.go i H/\∃N:St->Hp->Prop,(∀σ' H',N σ' H'->∃m',m'<m/\W (i+1) m' σ' H')/\∀x H',J.yld i H x H'->g x σ H' λσ2 H2=>tb {D with nx:=N,ct:=N,bk:=D.nx} σ2 H2)
noncomputable def Gx(fp:List ae)(h:aX):List (ae×Obj):=fp.filterMap λb=>(h.get? b).map λo=>(b,o)
theorem mem_pinsAt{fp:List ae}{h:aX}{b:ae}{o:Obj}(hb:b∈fp)(e:h.get? b=some o):(b,o)∈Gx fp h:=List.mem_filterMap.mpr ⟨b,hb,by rw[e];rfl⟩
theorem Wn{fp:List ae}{h:aX}{p:ae×Obj}(hp:p∈Gx fp h):p.1∈fp/\h.get? p.1=some p.2:=by
 obtain⟨b,hb,e⟩:=List.mem_filterMap.mp hp;cases q:h.get? b with
|none=>rw[q]at e;cases e
|some o=>rw[q]at e;have e':(b,o)=p:=aH e;subst e';exact⟨hb,q⟩
theorem Inv.pinned{pins:List (ae×Obj)}{σ:St}{H:Hp}{s:ag}{fp:List ae}(I:Inv X pins σ H s)(hf:∀b∈fp,FpOk X pins H b)(ho:∀b∈fp,∃o,s.heap.get? b=some o/\∀v,o.data≠.cell v):Inv X (pins++Gx fp s.heap) σ H s:=I.pins_of λp hp=>(bp.mp hp).elim (λz=>I.pin p (aP _ z)) λz=>by obtain⟨hb,e⟩:=Wn z;obtain⟨f0,f1,f2,_⟩:=hf p.1 hb;obtain⟨o,e',d⟩:=ho p.1 hb;rw[e]at e';cases e';exact⟨e,f0,f1,f2,d⟩
theorem Inv.unpinned{pins pl:List (ae×Obj)}{σ:St}{H:Hp}{s:ag}(I:Inv X (pins++pl) σ H s):Inv X pins σ H s:=I.pins_of λp hp=>I.pin p (aP _ (bg _ hp))
theorem XJ{iter:Expr}{body:List bc}{wi:TI}{g:TG}{tb:TS}{pos:Pos}(hp:PassesOwn (model X.prog X.w) X.A X.env X.xe)(hc:X.calm=true)(hi:PI X tg iter wi)(hg:PG X tg g)(hb:PSs X body tb)(hs:∀x,foldedSetIterable iter X.env x=pure x:=by intro _;rfl):PS X (.For tg iter body [] pos) (tFor wi g tb):=by
 intro pins s σ H D I h;refine wpAny_For (thn (hi pins s σ H _ I h) λv s1 h1=>thn h1 λitv s2 h2=>?_) hs;obtain⟨it,fp,tn,J,H2,e,I2,T,st2,f2,W,⟨m0,w0⟩,turn⟩:=h2;subst e;have stat:∀{H':Hp},(∀b∈fp,H' b=none)->∀b∈fp,FpOk X pins H' b:=λhn b hb=>⟨hn b hb,(f2 b hb).2⟩;refine codeAny_forLoop_any (λn s'=>∃i σ' H',Inv X pins σ' H' s'/\tn i s'.heap/\(∀b∈fp,H' b=none)/\W i n σ' H') ?_ m0 ⟨0,σ,H2,I2,st2,λb hb=>(f2 b hb).1,w0⟩;rintro n s3 ⟨i,σ3,H3,I3,st3,fr3,w3⟩;rcases turn i n σ3 H3 w3 with⟨stop,qn⟩|⟨go,N,hN,step⟩
 ·refine wpAny_passesOwn hp (thn (T.done X rfl rfl rfl hc i pins s3 σ3 H3 X.xe I3 (stat fr3) st3 stop) λr s4 h935=>?_);obtain⟨hr,I4⟩:=h935;subst hr;exact wpAny_execs_nil ⟨σ3,H3,I4,qn⟩
 ·refine wpAny_passesOwn hp (thn (T.item X rfl rfl rfl hc i pins s3 σ3 H3 X.xe I3 (stat fr3) st3 go) λr s4 h936=>?_);obtain⟨u,hr,h4⟩:=h936;subst hr;refine wpAny_passesOwn hp (thn h4 λ_ s5 h937=>?_);obtain⟨x,H5,I5,r5,y5,st5,fr5⟩:=h937;have I5':=I5.pinned (stat fr5) (T.obj _ _ st5);refine wpAny_passesOwn hp (thn (hg _ s5 σ3 H5 x u _ I5' r5 (step x H5 y5)) λ_ s6 h938=>?_);obtain⟨σ6,H6,I6,q6⟩:=h938;refine wpAny_passesOwn hp (thn (hb _ s6 σ6 H6 _ I6 q6) λf s7 q7=>?_);have again:∀{σ7:St}{H7:Hp},Inv X (pins++Gx fp s5.heap) σ7 H7 s7->N σ7 H7->∃m,m<n/\∃i σ' H',Inv X pins σ' H' s7/\tn i s7.heap/\(∀b∈fp,H' b=none)/\W i m σ' H':=λ{σ7 H7}I7 n7=>by obtain⟨m',hm,w7⟩:=hN σ7 H7 n7;refine⟨m',hm,i+1,σ7,H7,I7.unpinned,T.keep _ _ _ st5 λb hb o e=>(I7.pin (b,o) (aP _ (aP _ (mem_pinsAt hb e)))).1,λb hb=>?_,w7⟩;obtain⟨o,e,d⟩:=T.obj _ _ st5 b hb;exact(I7.pin (b,o) (aP _ (aP _ (mem_pinsAt hb e)))).2.1
  cases f with
 |next=>obtain⟨σ7,H7,I7,n7⟩:=q7;exact again I7 n7
 |cont=>obtain⟨σ7,H7,I7,n7⟩:=q7;exact again I7 n7
 |brk=>obtain⟨σ7,H7,I7,q7⟩:=q7;exact⟨σ7,H7,I7.unpinned,q7⟩
 |ret v=>obtain⟨x7,σ7,H7,I7,r7,q7⟩:=q7;exact⟨x7,σ7,H7,I7.unpinned,r7,q7⟩
end
theorem K4{K:aa}{a:ae}{xs:List V}{g:TG}{tb:TS}{D:Ends}{σ:St}{H:Hp}(Pv:Nat->St->Hp->Prop)(h0:Pv 0 σ H)(hl:∀i σ H,i<=xs.length->Pv i σ H->SqL K H a xs)(hs:∀i x σ H,xs[i]?=some x->Pv i σ H->g x σ H λσ2 H2=>tb {D with nx:=Pv (i+1),ct:=Pv (i+1),bk:=D.nx} σ2 H2)(hd:∀σ H,Pv xs.length σ H->D.nx σ H):∃W:Nat->Nat->St->Hp->Prop,(∃m,W 0 m σ H)/\∀i m σ H,W i m σ H ->((Itl K a).stop i H/\D.nx σ H)\/((Itl K a).go i H/\∃N:St->Hp->Prop,(∀σ' H',N σ' H'->∃m',m'<m/\W (i+1) m' σ' H')/\∀x H',(Itl K a).yld i H x H'->g x σ H' λσ2 H2=>tb {D with nx:=N,ct:=N,bk:=D.nx} σ2 H2):=by
 refine⟨λi m σ H=>m=xs.length-i/\i<=xs.length/\Pv i σ H,⟨xs.length,by simp,bV _,h0⟩,?_⟩;rintro i m σ H ⟨rfl,hi,p⟩;have q:=hl i σ H hi p;by_cases hlt:i<xs.length
 ·refine .inr ⟨⟨xs,xs[i],q,by simp[hlt]⟩,Pv (i+1),λσ' H' p'=>⟨xs.length-(i+1),by omega,rfl,hlt,p'⟩,λx H' y=>?_⟩;obtain⟨e,y⟩:=y;subst e;exact hs i x σ _ (y xs q) p
 ·have e:i=xs.length:=by omega
  subst e;exact .inl ⟨⟨xs,q,aj _⟩,hd σ H p⟩
theorem Pf{lo:Int}{n:Nat}{g:TG}{tb:TS}{D:Ends}{σ:St}{H:Hp}(Pv:Nat->St->Hp->Prop)(h0:Pv 0 σ H)(hs:∀i σ H,i<n->Pv i σ H->g (.int (lo+i)) σ H λσ2 H2=>tb {D with nx:=Pv (i+1),ct:=Pv (i+1),bk:=D.nx} σ2 H2)(hd:∀σ H,Pv n σ H->D.nx σ H):∃W:Nat->Nat->St->Hp->Prop,(∃m,W 0 m σ H)/\∀i m σ H,W i m σ H ->((Itr lo n).stop i H/\D.nx σ H)\/((Itr lo n).go i H/\∃N:St->Hp->Prop,(∀σ' H',N σ' H'->∃m',m'<m/\W (i+1) m' σ' H')/\∀x H',(Itr lo n).yld i H x H'->g x σ H' λσ2 H2=>tb {D with nx:=N,ct:=N,bk:=D.nx} σ2 H2):=by
 refine⟨λi m σ H=>m=n-i/\i<=n/\Pv i σ H,⟨n,by simp,bV _,h0⟩,?_⟩;rintro i m σ H ⟨rfl,hi,p⟩;by_cases hlt:i<n
 ·refine .inr ⟨hlt,Pv (i+1),λσ' H' p'=>⟨n-(i+1),by omega,rfl,hlt,p'⟩,λx H' y=>?_⟩;obtain⟨e,y⟩:=y;subst e y;exact hs i σ _ hlt p
 ·have e:i=n:=by omega
  subst e;exact .inl ⟨aj _,hd σ H p⟩
open PySem PySem.Spec PyProof.Rows
noncomputable abbrev R2:=V->V->Hp->VK->Prop
def OpR(X:Cx)(f:ac->ac->Sem ac)(r:R2):Prop:=∀(pins:List (ae×Obj))(s:ag)(σ:St)(H:Hp)(x y:V)(v u:ac)(Q:VK),Inv X pins σ H s->RelV x v->RelV y u->r x y H Q ->aB (model X.prog X.w) X.A (f v u) (EP X pins σ Q) X.xe s
def UnR(X:Cx)(f:ac->Sem ac)(r:V->Hp->VK->Prop):Prop:=∀(pins:List (ae×Obj))(s:ag)(σ:St)(H:Hp)(x:V)(v:ac)(Q:VK),Inv X pins σ H s->RelV x v->r x H Q ->aB (model X.prog X.w) X.A (f v) (EP X pins σ Q) X.xe s
def Xo(X:Cx)(f:ac)(r:List V->Hp->VK->Prop):Prop:=∀(pins:List (ae×Obj))(s:ag)(σ:St)(H:Hp)(xs:List V)(us:List ac)(Q:VK),Inv X pins σ H s->Vals xs us->r xs H Q ->aB (model X.prog X.w) X.A (call f us) (EP X pins σ Q) X.xe s
def TruR(X:Cx)(r:V->Hp->(Bool->Hp->Prop)->Prop):Prop:=∀(pins:List (ae×Obj))(s:ag)(σ:St)(H:Hp)(x:V)(v:ac)(Q:Bool->Hp->Prop),Inv X pins σ H s->RelV x v->r x H Q ->aB (model X.prog X.w) X.A (truthy v) (TP X pins σ Q) X.xe s
def tOp(r:R2)(ta tb:TE):TE:=λσ H Q=>ta σ H λx H1=>tb σ H1 λy H2=>r x y H2 Q
def tUn(r:V->Hp->VK->Prop)(ta:TE):TE:=λσ H Q=>ta σ H λx H1=>r x H1 Q
def rI(C:Int->Int->Prop)(g:Int->Int->V):R2:=λx y H Q=>∃i j,x=.int i/\y=.int j/\C i j/\Q (g i j) H
def rI0(g:Int->Int->V):R2:=λx y H Q=>∃i j,x=.int i/\y=.int j/\Q (g i j) H
noncomputable def rU(g:Int->V):V->Hp->VK->Prop:=λx H Q=>∃i,x=.int i/\Q (g i) H
section
variable {X:Cx}{a b c:Expr}{ta tb tc:TE}{pos:Pos}
theorem binT(ha:PE X a ta)(hb:PE X b tb){pins:List (ae×Obj)}{s:ag}{σ:St}{H:Hp}{R:V->V->Hp->Prop}(I:Inv X pins σ H s)(h:ta σ H λx H1=>tb σ H1 λy H2=>R x y H2){Q:ac->ag->Prop}{f:ac->ac->Sem ac}(hf:∀v u s2 x y H2,Inv X pins σ H2 s2->RelV x v->RelV y u->R x y H2->aB (model X.prog X.w) X.A (f v u) Q X.xe s2):aB (model X.prog X.w) X.A (eval a X.env) (λv s₁=>aB (model X.prog X.w) X.A (eval b X.env) (λu s₂=>aB (model X.prog X.w) X.A (f v u) Q X.xe s₂) X.xe s₁) X.xe s:=by refine thn (ha pins s σ H _ I h) λv s1 h939=>?_;obtain⟨x,H1,I1,r1,q1⟩:=h939;refine thn (hb pins s1 σ H1 _ I1 q1) λu s2 h940=>?_;obtain⟨y,H2,I2,r2,q2⟩:=h940;exact hf v u s2 x y H2 I2 r1 r2 q2
theorem Zy{op:Operator}{r:R2}(ho:OpR X (binaryOp op) r)(ha:PE X a ta)(hb:PE X b tb):PE X (.BinOp a op b pos) (tOp r ta tb):=by intro pins s σ H Q I h;exact wpAny_BinOp (binT ha hb I h λv u s2 x y H2 I2 rx ry q=>ho pins s2 σ H2 x y v u Q I2 rx ry q)
theorem Dx{op:UnaryOp}{r:V->Hp->VK->Prop}(ho:UnR X (unaryOp op) r)(ha:PE X a ta):PE X (.UnaryOp op a pos) (tUn r ta):=by intro pins s σ H Q I h;exact UnaryOp_ (thn (ha pins s σ H _ I h) λv s1 h941=>by obtain⟨x,H1,I1,r1,q1⟩:=h941;exact ho pins s1 σ H1 x v Q I1 r1 q1)
theorem opI{f:ac->ac->Sem ac}{C:Int->Int->Prop}{g:Int->Int->Int}(rule:∀(i j:Int)(t u:Tok)(s:ag)(Q:ac->ag->Prop)(E:ac->ag->Prop),C i j->Q (.int (g i j) s.toks) {s with toks:=s.toks+1}->aB (model X.prog X.w) X.A (f (.int i t) (.int j u)) Q E s):OpR X f (rI C λi j=>.int (g i j)):=by intro pins s σ H x y v u Q I rx ry h;obtain⟨i,j,rfl,rfl,hc,q⟩:=h;obtain⟨t,rfl⟩:=rx;obtain⟨t',rfl⟩:=ry;exact rule i j t t' s _ _ hc ⟨.int (g i j),H,I.tok _,⟨_,rfl⟩,q⟩
theorem opI0{f:ac->ac->Sem ac}{g:Int->Int->Int}(rule:∀(i j:Int)(t u:Tok)(s:ag)(Q:ac->ag->Prop)(E:ac->ag->Prop),Q (.int (g i j) s.toks) {s with toks:=s.toks+1}->aB (model X.prog X.w) X.A (f (.int i t) (.int j u)) Q E s):OpR X f (rI0 λi j=>.int (g i j)):=by intro pins s σ H x y v u Q I rx ry h;obtain⟨i,j,rfl,rfl,q⟩:=h;obtain⟨t,rfl⟩:=rx;obtain⟨t',rfl⟩:=ry;exact rule i j t t' s _ _ ⟨.int (g i j),H,I.tok _,⟨_,rfl⟩,q⟩
theorem opB0{f:ac->ac->Sem ac}{g:Int->Int->Bool}(rule:∀(i j:Int)(t u:Tok)(s:ag)(Q:ac->ag->Prop)(E:ac->ag->Prop),Q (.bool (g i j)) s->aB (model X.prog X.w) X.A (f (.int i t) (.int j u)) Q E s):OpR X f (rI0 λi j=>.bl (g i j)):=by intro pins s σ H x y v u Q I rx ry h;obtain⟨i,j,rfl,rfl,q⟩:=h;obtain⟨t,rfl⟩:=rx;obtain⟨t',rfl⟩:=ry;exact rule i j t t' s _ _ ⟨.bl (g i j),H,I,rfl,q⟩
def CDiv(i j:Int):Prop:=0<j/\j<1073741824
def CPow(i j:Int):Prop:=0<=j/\j<=1000000/\i.natAbs<2 ^ 64
def CMul(i j:Int):Prop:=(-(2 ^ 64)<i/\i<2 ^ 64)\/(-(2 ^ 64)<j/\j<2 ^ 64)
theorem CMul.ok{i j:Int}(h:CMul i j):IntMulOk i j:=by
 rcases h with⟨h1,h2⟩|⟨h1,h2⟩
 ·exact .of_left (intBits_le_64 h1 h2)
 ·exact .of_right (intBits_le_64 h1 h2)
theorem Z0:OpR X (binaryOp .Add) (rI0 λi j=>.int (i+j)):=opI0 λ_ _ _ _ _ _ _ q=>add_int q
theorem Jt:OpR X (binaryOp .Sub) (rI0 λi j=>.int (i-j)):=opI0 λ_ _ _ _ _ _ _ q=>sub_int q
theorem Gy:OpR X (binaryOp .Mult) (rI CMul λi j=>.int (i*j)):=opI λ_ _ _ _ _ _ _ hc q=>mul_int q hc.ok
theorem Ta:OpR X (binaryOp .FloorDiv) (rI CDiv λi j=>.int (i / j)):=opI λi j _ _ _ _ _ hc q=>by have h1:(0:Int)<j:=hc.1;have h2:j<1073741824:=hc.2;exact floordiv_int (by omega) (by rw[Int.fdiv_eq_ediv_of_nonneg i (by omega)];exact q) (.inl (PyProof.noPylong_small (by omega)))
theorem XO:OpR X (binaryOp .Mod) (rI (λ_ j=>0<j) λi j=>.int (i % j)):=opI λi j _ _ _ _ _ hc q=>by have h1:(0:Int)<j:=hc;exact mod_int' (by omega) (by rw[Int.fmod_eq_emod_of_nonneg i (by omega)];exact q)
theorem KF:OpR X (binaryOp .Pow) (rI CPow λi j=>.int (i ^ j.toNat)):=opI λ_ _ _ _ _ _ _ hc q=>pow_int_small hc.1 hc.2.1 hc.2.2 q
theorem M9:OpR X (binaryOp .LShift) (rI CPow λi j=>.int (i*2 ^ j.toNat)):=opI λ_ _ _ _ _ _ _ hc q=>lshift_int_small hc.1 hc.2.1 hc.2.2 q
theorem D5:OpR X (binaryOp .BitAnd) (rI0 λi j=>.int (cj i j)):=opI0 λ_ _ _ _ _ _ _ q=>and_int q
theorem unI{f:ac->Sem ac}{g:Int->Int}(rule:∀(i:Int)(t:Tok)(s:ag)(Q:ac->ag->Prop)(E:ac->ag->Prop),Q (.int (g i) s.toks) {s with toks:=s.toks+1}->aB (model X.prog X.w) X.A (f (.int i t)) Q E s):UnR X f (rU λi=>.int (g i)):=by intro pins s σ H x v Q I rx h;obtain⟨i,rfl,q⟩:=h;obtain⟨t,rfl⟩:=rx;exact rule i t s _ _ ⟨.int (g i),H,I.tok _,⟨_,rfl⟩,q⟩
theorem W4:UnR X (unaryOp .USub) (rU λi=>.int (-i)):=unI λ_ _ _ _ _ q=>neg_int q
noncomputable def scal:V->V->Bool
|.non,.non=>true|.non,.int _=>true|.int _,.non=>true|.non,.bl _=>true|.bl _,.non=>true|.non,.str _=>true|.str _,.non=>true
|.int _,.int _=>true|.bl _,.bl _=>true|.str _,.str _=>true|.byt _,.byt _=>true
|.int _,.str _=>true|.str _,.int _=>true|.bl _,.str _=>true|.str _,.bl _=>true
|_,_=>false
def rEq:R2:=λx y H Q=>scal x y=true/\Q (.bl (decide (x=y))) H
def rNe:R2:=λx y H Q=>scal x y=true/\Q (.bl (!decide (x=y))) H
theorem TJ{i j:Int}:decide (V.int i=V.int j)=(i==j):=by rw[dU];simp
theorem Lc{i j:Bool}:decide (V.bl i=V.bl j)=(i==j):=by rw[dU];simp
theorem TH{i j:Str}:decide (V.str i=V.str j)=(i==j):=by rw[dU];simp
theorem TK{i j:Array UInt8}:decide (V.byt i=V.byt j)=(i.toList==j.toList):=by rw[dU];cases i;cases j;simp
theorem ZT{pins:List (ae×Obj)}{σ:St}{H:Hp}{s:ag}{Q:VK}{k k':Bool}(I:Inv X pins σ H s)(q:Q (.bl k) H)(e:k=k'):EP X pins σ Q (.bool k') s:=by subst e;exact⟨.bl k,H,I,rfl,q⟩
theorem Yl:OpR X (compareOp .Eq) rEq:=by
 intro pins s σ H x y v u Q I rx ry h;obtain⟨hs,q⟩:=h;cases x with
|non=>
  cases rx;cases y with
 |non=>cases ry;exact PySem.EqNone.eq_none_none (ZT I q (by simp))
 |bl j=>cases ry;exact PySem.EqNone.eq_none_bool (ZT I q (by simp))
 |int j=>obtain⟨t',rfl⟩:=ry;exact PySem.EqNone.eq_none_int (ZT I q (by simp))
 |str j=>obtain⟨t',rfl⟩:=ry;exact PySem.EqNone.eq_none_str (ZT I q (by simp))
 |_=>exact absurd (show false=true from hs) az
|bl i=>
  cases rx;cases y with
 |non=>cases ry;exact PySem.EqNone.eq_bool_none (ZT I q (by simp))
 |bl j=>cases ry;exact eq_bool (ZT I q Lc)
 |str j=>obtain⟨t',rfl⟩:=ry;exact PySem.EqMixed.eq_bool_str (ZT I q (by simp))
 |_=>exact absurd (show false=true from hs) az
|int i=>
  obtain⟨t,rfl⟩:=rx;cases y with
 |non=>cases ry;exact PySem.EqNone.eq_int_none (ZT I q (by simp))
 |int j=>obtain⟨t',rfl⟩:=ry;exact eq_int (ZT I q TJ)
 |str j=>obtain⟨t',rfl⟩:=ry;exact PySem.EqMixed.eq_int_str (ZT I q (by simp))
 |_=>exact absurd (show false=true from hs) az
|str i=>
  obtain⟨t,rfl⟩:=rx;cases y with
 |non=>cases ry;exact PySem.EqNone.eq_str_none (ZT I q (by simp))
 |bl j=>cases ry;exact PySem.EqMixed.eq_str_bool (ZT I q (by simp))
 |int j=>obtain⟨t',rfl⟩:=ry;exact PySem.EqMixed.eq_str_int (ZT I q (by simp))
 |str j=>obtain⟨t',rfl⟩:=ry;exact eq_str (ZT I q TH)
 |_=>exact absurd (show false=true from hs) az
|byt i=>
  obtain⟨t,rfl⟩:=rx;cases y with
 |byt j=>obtain⟨t',rfl⟩:=ry;exact PySem.W.eq_bytes (ZT I q TK)
 |_=>exact absurd (show false=true from hs) az
|_=>cases y<;>exact absurd (show false=true from hs) az
theorem GY:OpR X (compareOp .NotEq) rNe:=by
 intro pins s σ H x y v u Q I rx ry h;obtain⟨hs,q⟩:=h;cases x with
|non=>
  cases rx;cases y with
 |non=>cases ry;exact PySem.EqNone.ne_none_none (ZT I q (by simp))
 |bl j=>cases ry;exact PySem.EqNone.ne_none_bool (ZT I q (by simp))
 |int j=>obtain⟨t',rfl⟩:=ry;exact PySem.EqNone.ne_none_int (ZT I q (by simp))
 |str j=>obtain⟨t',rfl⟩:=ry;exact PySem.EqNone.ne_none_str (ZT I q (by simp))
 |_=>exact absurd (show false=true from hs) az
|bl i=>
  cases rx;cases y with
 |non=>cases ry;exact PySem.EqNone.ne_bool_none (ZT I q (by simp))
 |bl j=>cases ry;exact ne_bool (ZT I q (congrArg not Lc))
 |str j=>obtain⟨t',rfl⟩:=ry;exact PySem.EqMixed.ne_bool_str (ZT I q (by simp))
 |_=>exact absurd (show false=true from hs) az
|int i=>
  obtain⟨t,rfl⟩:=rx;cases y with
 |non=>cases ry;exact PySem.EqNone.ne_int_none (ZT I q (by simp))
 |int j=>obtain⟨t',rfl⟩:=ry;exact ne_int (ZT I q (congrArg not TJ))
 |str j=>obtain⟨t',rfl⟩:=ry;exact PySem.EqMixed.ne_int_str (ZT I q (by simp))
 |_=>exact absurd (show false=true from hs) az
|str i=>
  obtain⟨t,rfl⟩:=rx;cases y with
 |non=>cases ry;exact PySem.EqNone.ne_str_none (ZT I q (by simp))
 |bl j=>cases ry;exact PySem.EqMixed.ne_str_bool (ZT I q (by simp))
 |int j=>obtain⟨t',rfl⟩:=ry;exact PySem.EqMixed.ne_str_int (ZT I q (by simp))
 |str j=>obtain⟨t',rfl⟩:=ry;exact ne_str (ZT I q (congrArg not TH))
 |_=>exact absurd (show false=true from hs) az
|byt i=>
  obtain⟨t,rfl⟩:=rx;cases y with
 |byt j=>obtain⟨t',rfl⟩:=ry;exact PySem.W.ne_bytes (ZT I q (congrArg not TK))
 |_=>exact absurd (show false=true from hs) az
|_=>cases y<;>exact absurd (show false=true from hs) az
theorem KG:OpR X (compareOp .Lt) (rI0 λi j=>.bl (decide (i<j))):=opB0 λ_ _ _ _ _ _ _ q=>lt_int q
theorem Us:OpR X (compareOp .LtE) (rI0 λi j=>.bl (decide (i<=j))):=opB0 λ_ _ _ _ _ _ _ q=>le_int q
theorem KH:OpR X (compareOp .Gt) (rI0 λi j=>.bl (decide (j<i))):=opB0 λ_ _ _ _ _ _ _ q=>gt_int q
theorem Gz:OpR X (compareOp .In) (λx y H Q=>∃i j,x=.str i/\y=.str j/\Q (.bl (!(Builtin.Str.occurrences j i 0 j.length 1).isEmpty)) H):=by intro pins s σ H x y v u Q I rx ry h;obtain⟨i,j,rfl,rfl,q⟩:=h;obtain⟨t,rfl⟩:=rx;obtain⟨t',rfl⟩:=ry;exact in_str (ZT I q rfl)
theorem Xq:OpR X (compareOp .Is) (λx y H Q=>y=.non/\Q (.bl (decide (x=.non))) H):=by
 intro pins s σ H x y v u Q I rx ry h;obtain⟨rfl,q⟩:=h;cases ry;refine is_none_gen (ZT I q ?_);cases x<;>first
 |(cases rx;rfl)
 |(obtain⟨t,rfl⟩:=rx;rfl)
theorem Mm:OpR X (compareOp .IsNot) (λx y H Q=>y=.non/\Q (.bl (!decide (x=.non))) H):=by
 intro pins s σ H x y v u Q I rx ry h;obtain⟨rfl,q⟩:=h;cases ry;refine isnot_none_gen (ZT I q ?_);cases x<;>first
 |(cases rx;rfl)
 |(obtain⟨t,rfl⟩:=rx;rfl)
theorem Zx(b:Expr){op:CmpOp}(h:op≠.In:=by decide)(h2:op≠.NotIn:=by decide):behindInMarks op b=false:=by
 have e1:(op==CmpOp.In)=false:=by cases op<;>first|rfl|exact absurd rfl h
 have e2:(op==CmpOp.NotIn)=false:=by cases op<;>first|rfl|exact absurd rfl h2
 cases b<;>simp[behindInMarks,e1,e2]
theorem Xi{op:CmpOp}{r:R2}(ho:OpR X (compareOp op) r)(ha:PE X a ta)(hb:PE X b tb)(hm:behindInMarks op b=false):PE X (.Compare a [op] [b] pos) (tOp r ta tb):=by intro pins s σ H Q I h;exact wpAny_Compare1 (binT ha hb I h λv u s2 x y H2 I2 rx ry q=>ho pins s2 σ H2 x y v u Q I2 rx ry q) hm
def Dp(t:TE):TT:=λσ H Q=>t σ H λx H'=>∃k,x=.bl k/\Q k H'
theorem Zr{op:CmpOp}{r:R2}(ho:OpR X (compareOp op) r)(ha:PE X a ta)(hb:PE X b tb)(hm:behindInMarks op b=false):PT X (.Compare a [op] [b] pos) (Dp (tOp r ta tb)):=by
 intro pins s σ H Q I h;refine wpAny_isTrue_Compare1 (thn (ha pins s σ H _ I h) λv s1⟨x,H1,I1,r1,q1⟩=>thn (hb pins s1 σ H1 _ I1 q1) λu s2⟨y,H2,I2,r2,q2⟩=>thn (ho pins s2 σ H2 x y v u _ I2 r1 r2 q2) λc s3⟨z,H3,I3,r3,k,e,q3⟩=>?_) hm;subst e;cases r3;exact wpAny_truthy_bool ⟨H3,I3,q3⟩
def W9(r r':R2)(ta tb tc:TE):TE:=λσ H Q=>ta σ H λx H1=>tb σ H1 λy H2=>r x y H2 λz H3=>∃k,z=.bl k /\(if k=true then tc σ H3 λw' H4=>r' y w' H4 Q else Q (.bl false) H3)
theorem KA{op op':CmpOp}{r r':R2}(ho:OpR X (compareOp op) r)(ho':OpR X (compareOp op') r')(ha:PE X a ta)(hb:PE X b tb)(hc:PE X c tc)(hm:lastMarks [op,op'] [b,c]=false:=by with_unfolding_all rfl):PE X (.Compare a [op,op'] [b,c] pos) (W9 r r' ta tb tc):=by
 intro pins s σ H Q I h;refine Compare_chain (thn (ha pins s σ H _ I h) λv s1⟨x,H1,I1,r1,q1⟩=>chain_link (thn (hb pins s1 σ H1 _ I1 q1) λu s2⟨y,H2,I2,r2,q2⟩=>
  thn (ho pins s2 σ H2 x y v u _ I2 r1 r2 q2) λd s3⟨z,H3,I3,r3,k,e,q3⟩=>?_)) hm;subst e;cases r3;refine wpAny_truthy_bool ?_;cases k with
|false=>exact ite_ff ⟨.bl false,H3,I3,rfl,q3⟩
|true=>exact ite_tt (chain_last (thn (hc pins s3 σ H3 _ I3 q3) λw' s4⟨z',H4,I4,r4,q4⟩=>ho' pins s4 σ H4 y z' u w' Q I4 r2 r4 q4))
theorem Um{op op':CmpOp}{r r':R2}(ho:OpR X (compareOp op) r)(ho':OpR X (compareOp op') r')(ha:PE X a ta)(hb:PE X b tb)(hc:PE X c tc)(hm:lastMarks [op,op'] [b,c]=false:=by with_unfolding_all rfl):PT X (.Compare a [op,op'] [b,c] pos) (Dp (W9 r r' ta tb tc)):=by
 intro pins s σ H Q I h;refine isTrue_chain (thn (ha pins s σ H _ I h) λv s1⟨x,H1,I1,r1,q1⟩=>test_link (thn (hb pins s1 σ H1 _ I1 q1) λu s2⟨y,H2,I2,r2,q2⟩=>
  thn (ho pins s2 σ H2 x y v u _ I2 r1 r2 q2) λd s3⟨z,H3,I3,r3,k,e,q3⟩=>?_)) hm;subst e;cases r3;refine wpAny_truthy_bool ?_;cases k with
|false=>obtain⟨k',e',q'⟩:=q3;cases e';exact ite_ff ⟨H3,I3,q'⟩
|true=>refine ite_tt (test_last (thn (hc pins s3 σ H3 _ I3 q3) λw' s4 h942=>?_));obtain⟨z',H4,I4,r4,q4⟩:=h942;refine thn (ho' pins s4 σ H4 y z' u w' _ I4 r2 r4 q4) λd' s5 h943=>?_;obtain⟨z2,H5,I5,r5,k2,e2,q5⟩:=h943;subst e2;cases r5;exact wpAny_truthy_bool ⟨H5,I5,q5⟩
def TruV(K:aa)(x:V)(H:Hp)(k:Bool):Prop:=match x with
|.non=>k=false
|.bl b=>k=b
|.int i=>k=(i != 0)
|.str y=>y.length<=av/\k=((y.length:Int) != 0)
|.byt y=>y.size<=av/\k=((y.size:Int) != 0)
|.ref p=>(∃xs,SqL K H p xs/\k=!xs.isEmpty)\/(∃xs,SqT K H p xs/\k=!xs.isEmpty)\/∃kvs,H p=some (.dK kvs)/\k=!kvs.isEmpty
|_=>False
theorem RT{κ:Type}{kvs:List (κ×V)}{vs:List (κ×ac)}(r:KV kvs vs):(!vs.isEmpty)=!kvs.isEmpty:=by cases r<;>rfl
theorem Nh{xs:List V}{its:List ac}(r:Vals xs its):(!its.toArray.isEmpty)=!xs.isEmpty:=by cases r<;>simp
theorem V5:(av:Nat)<2 ^ 63:=by rw[sizeLine_eq];decide
theorem DJ:TruR X (λx H Q=>∃k,TruV X.K x H k/\Q k H):=by
 intro pins s σ H x v Q I rx h;obtain⟨k,e,q⟩:=h;have hl:=V5;have hs:av=16777216:=sizeLine_eq;cases x with
|non=>cases rx;have e':k=false:=e;subst e';exact truthy_none ⟨H,I,q⟩
|bl b=>cases rx;have e':k=b:=e;subst e';exact wpAny_truthy_bool ⟨H,I,q⟩
|int i=>obtain⟨t,rfl⟩:=rx;have e':k=(i != 0):=e;subst e';exact PySem.P.truthy_int ⟨H,I,q⟩
|str y=>obtain⟨t,rfl⟩:=rx;obtain⟨hy,e'⟩:y.length<=av/\k=((y.length:Int) != 0):=e;subst e';exact PySem.P.truthy_str (by omega) ⟨H,I.tok _,q⟩
|byt y=>obtain⟨t,rfl⟩:=rx;obtain⟨hy,e'⟩:y.size<=av/\k=((y.size:Int) != 0):=e;subst e';exact PySem.W.truthy_bytes (by omega) ⟨H,I.tok _,q⟩
|ref p=>
  cases rx;have e':(∃xs,SqL X.K H p xs/\k=!xs.isEmpty)\/(∃xs,SqT X.K H p xs/\k=!xs.isEmpty)\/∃kvs,H p=some (.dK kvs)/\k=!kvs.isEmpty:=e;rcases e' with⟨xs,hx,e'⟩|⟨xs,hx,e'⟩|⟨kvs,hx,e'⟩
  ·subst e';obtain⟨its,r,pl,hz⟩:=I.list hx;have hlen:=r.length;exact wpAny_truthy_list pl.isList (by simp only[ar];omega) ⟨H,I.tok _,by rw[Nh r];exact q⟩
  ·subst e';obtain⟨its,r,pl,hz⟩:=I.tuple hx;have hlen:=r.length;exact truthy_tuple pl (by simp only[ar];omega) ⟨H,I.tok _,by rw[Nh r];exact q⟩
  ·subst e';obtain⟨hz,hS,vs,r,m⟩:kvs.length<=av/\(p==sysModules)=false/\∃vs,KV kvs vs/\s.heap.DictOf (YI X.prog X.w) p vs:=I.hok p _ hx;have hlen:kvs.length=vs.length:=Paired.length r;exact wpAny_truthy_dict hS m (by omega) ⟨H,I.tok _,by rw[RT r];exact q⟩
|_=>exact(show False from e).elim
theorem JQ:OpR X (binaryOp .Add) (λx y H Q=>∃i j,x=.str i/\y=.str j/\i.length+j.length<=av/\Q (.str (i++j)) H):=by intro pins s σ H x y v u Q I rx ry h;obtain⟨i,j,rfl,rfl,hz,q⟩:=h;obtain⟨t,rfl⟩:=rx;obtain⟨t',rfl⟩:=ry;exact add_str (λt' tk=>⟨.str (i++j),H,I.tok _,⟨_,rfl⟩,q⟩) hz
theorem vals1{x:V}{us:List ac}(r:Vals [x] us):∃u,us=[u]/\RelV x u:=by
 cases r with
|cons r1 r2=>cases r2;exact⟨_,rfl,r1⟩
theorem vals2{x y:V}{us:List ac}(r:Vals [x,y] us):∃u w',us=[u,w']/\RelV x u/\RelV y w':=by
 cases r with
|cons r1 r2=>
  cases r2 with
 |cons r3 r4=>cases r4;exact⟨_,_,rfl,r1,r3⟩
theorem WZ(hc:X.calm=true):Xo X (.builtin "max") (λxs H Q=>∃i j,xs=[.int i,.int j]/\Q (.int (if j>i then j else i)) H):=by
 intro pins s σ H xs us Q I r h;obtain⟨i,j,rfl,q⟩:=h;obtain⟨u,w',rfl,⟨t,rfl⟩,⟨t',rfl⟩⟩:=vals2 r;refine max_two_ints (I.ok.hd hc) λh' tk k=>⟨_,H,I.kept k,?_,q⟩;by_cases hj:j>i
 ·rw[if_pos hj,if_pos hj];exact⟨_,rfl⟩
 ·rw[if_neg hj,if_neg hj];exact⟨_,rfl⟩
theorem VG:Xo X (.type "int") (λxs H Q=>(∃i,xs=[.int i]/\Q (.int i) H)\/∃k,xs=[.bl k]/\Q (.int (if k then 1 else 0)) H):=by
 intro pins s σ H xs us Q I r h;rcases h with⟨i,rfl,q⟩|⟨k,rfl,q⟩
 ·obtain⟨u,rfl,t,rfl⟩:=vals1 r;exact call_int_int ⟨.int i,H,I,⟨_,rfl⟩,q⟩
 ·obtain⟨u,rfl,r1⟩:=vals1 r;cases r1;exact call_int_bool ⟨.int (if k then 1 else 0),H,I.tok _,⟨_,rfl⟩,q⟩
def LenV(K:aa)(x:V)(H:Hp)(n:Nat):Prop:=match x with
|.str y=>y.length<=av/\n=y.length
|.byt y=>y.size<=av/\n=y.size
|.ref p=>(∃xs,SqL K H p xs/\n=xs.length)\/∃xs,SqT K H p xs/\n=xs.length
|_=>False
theorem Ln:Xo X (.builtin "len") (λxs H Q=>∃x n,xs=[x]/\LenV X.K x H n/\Q (.int n) H):=by
 intro pins s σ H xs us Q I r h;obtain⟨x,n,rfl,e,q⟩:=h;obtain⟨u,rfl,rx⟩:=vals1 r;have hl:=V5;have hs:av=16777216:=sizeLine_eq;cases x with
|str y=>obtain⟨t,rfl⟩:=rx;obtain⟨hy,e'⟩:y.length<=av/\n=y.length:=e;subst e';exact len_str (by omega) ⟨.int _,H,I.tok _,⟨_,rfl⟩,q⟩
|byt y=>obtain⟨t,rfl⟩:=rx;obtain⟨hy,e'⟩:y.size<=av/\n=y.size:=e;subst e';exact PySem.W.len_bytes (by omega) ⟨.int _,H,I.tok _,⟨_,rfl⟩,q⟩
|ref p=>
  cases rx;have e':(∃xs,SqL X.K H p xs/\n=xs.length)\/∃xs,SqT X.K H p xs/\n=xs.length:=e;rcases e' with⟨xs,hx,e'⟩|⟨xs,hx,e'⟩
  ·subst e';obtain⟨its,r',pl,hz⟩:=I.list hx;have hlen:=r'.length;exact Calls.call_len_list pl.isList (by simp only[ar];omega) ⟨.int xs.length,H,I.tok _,⟨_,by simp only[ar];rw[hlen]⟩,q⟩
  ·subst e';obtain⟨its,r',pl,hz⟩:=I.tuple hx;have hlen:=r'.length;exact len_tuple pl (by simp only[ar];omega) ⟨.int xs.length,H,I.tok _,⟨_,by simp only[ar];rw[hlen]⟩,q⟩
|_=>exact(show False from e).elim
end
open PySem PySem.Spec PyProof.Rows
structure ObjM(h:aX)(x dx C:ae)(mA:Str->Option ac):Prop where
 obj:h.get? x=some (cJ C dx)
 ns:h.Ns1 dx mA
 ne:dx≠x
theorem N9{h:aX}{dx:ae}{mA:Str->Option ac}(n:h.Ns1 dx mA):∃od,h.get? dx=some od/\∀name,PySem.W.lookIn name od=some (mA name):=by
 obtain⟨o,es,ep,ho,hd,hk,_,hm⟩:=n;refine⟨o,ho,λname=>?_⟩;have e:=hm name;unfold nsFind findBy at e;rw[<-Array.find?_toList]at e;unfold PySem.W.lookIn;rw[hd];dsimp only;split
 ·rename_i y q;rw[q]at e;exact congrArg some e
 ·rename_i q;rw[q]at e;have a:es.toList.any (·.refKey)=false:=by rw[List.any_eq_false];intro y hy;obtain⟨z,t,hkey⟩:=hk y (Array.mem_toList_iff.mp hy);simp[DictEntry.refKey,hkey]
  have a':¬es.toList.any (·.refKey)=true:=by rw[a];exact az
  rw[if_neg a'];exact congrArg some e
theorem ObjM.look{h:aX}{x dx C:ae}{mA:Str->Option ac}(I:ObjM h x dx C mA):∃od,PySem.W.InstAt h x (cJ C dx) C (some od)/\∀name,PySem.W.lookIn name od=some (mA name):=let ⟨od,ho,hl⟩:=N9 I.ns
 ⟨od,⟨I.obj,rfl,rfl,ho⟩,hl⟩
section
variable {prog:aA}{w:aI}{A:ba}{E:ac->ag->Prop}{s:ag}{K:aa}{x dx C f:ae}{mA:Str->Option ac}{name:Str}{v:ac}
theorem Da{expr:Bool}{Q:ac->ag->Prop}(X:K.In s.heap)(I:ObjM s.heap x dx C mA)(hg:PySem.W.plainGet K C name=true)(hh:dj K C=true)(ha:aF K (.ref C) name=some none)(hv:mA name=some v)(hv':PySem.W.handedIn v=true)(h:Q v {s with toks:=s.toks+1}):aB (model prog w) A (getAttr (.ref x) name expr) Q E s:=by obtain⟨od,J,hl⟩:=I.look;exact PySem.W.get_value X J (PySem.W.plainGet_of hg).1 (PySem.W.findObj_own hh ha rfl (by rw[hl,hv])) hv' h
theorem K3{pl:Sem Bool}{Q:ac×List ac->ag->Prop}(X:K.In s.heap)(I:ObjM s.heap x dx C mA)(hg:PySem.W.plainGet K C name=true)(hf:aF K (.ref C) name=some (some (.ref f)))(ht:PySem.W.isFn K (.ref f)=true)(hv:mA name=none)(h:Q (.ref f,[.ref x]) s):aB (model prog w) A (getMethod (.ref x) name pl) Q E s:=by obtain⟨od,J,hl⟩:=I.look;exact PySem.W.method_fn X J (PySem.W.plainGet_of hg).1 (PySem.W.plainGet_of hg).2 hf (beq_iff_eq.mp ht) (by show(PySem.W.lookIn name od).map (·.isSome)=some false;rw[hl,hv];rfl) h
theorem LD{ns:List Str}{Q:Unit->ag->Prop}(X:K.In s.heap)(I:ObjM s.heap x dx C mA)(hs:aF K (.ref C) "__setattr__"=some (some (.builtin "object.__setattr__")))(hp:PySem.W.plainOver K C=true)(ht:PySem.W.takerIn K C name=some none)(hh:dj K C=true)(hw:dA mA ns)(hsz:ns.length<=av)(h:∀h',ObjM h' x dx C (λy=>if y=name then some v else mA y)->dC dx s.heap h'->Q () {s with heap:=h',toks:=s.toks+2}):aB (model prog w) A (setAttr (.ref x) name v) Q E s:=by obtain⟨od,J,hl⟩:=I.look;refine PySem.W.set_plain X J hs (PySem.W.osa_open (s:={s with toks:=s.toks+1}) (r:=none) X J hp ht λb=>?_);obtain⟨cd,hc,hd'⟩:=PySem.W.any_some hh;have hx:s.heap.get? x=some ⟨.ref C,some dx,.plain,#[]⟩:=I.obj;refine af (au (af (af (wpAny_loadPart hx (af (PySem.W.Looks.here (s:={s with toks:=s.toks+1}) (PySem.W.looks_clsIn X hc) ?_))))));rw[hd'];refine au (a:=some dx) (af (au (af ?_)));refine wpAny_nsSet1 (s:={s with toks:=s.toks+1}) I.ns λh' hn2 hs2=>?_;obtain⟨oD,esD,epD,hoD,hdD,hcD⟩:=hn2.count (PySem.Within.cons name v hw);refine af (wpAny_lookBehind hoD (by rw[hdD];exact pastItsLine_dict (ax hcD (by rw[bh];omega))) ?_);exact au (h _ ⟨(hs2.2 _ (bL I.ne)).trans I.obj,hn2,I.ne⟩ hs2)
theorem KO{R:Result->ag->Prop}{vs:List ac}{kw:List (Str×ac)}(X:K.In s.heap)(hm:PySem.W.makesIn K C=true)(hi:aF K (.ref C) "__init__"=some (some (.ref f)))(hf:PySem.W.typeIn K (.ref f)=some (.type "function"))(h:codeAny (model prog w) (A.under (.builtin "type.__call__" ⟨.ref C::vs,kw⟩)) (.call (.ref f) ⟨.ref (s.heap.objs.size+1)::vs,kw⟩) (PySem.W.InitBack (s.heap.objs.size+1) R) {s with heap:=(s.heap.push ca).push (cJ C s.heap.objs.size)}):codeAny (model prog w) A (.call (.ref C) ⟨vs,kw⟩) R s:=by obtain⟨hh,g,d,t,os⟩:=s;exact PySem.W.make_core (PySem.W.makes_of X hm) (PySem.W.looks_findIn X hi) (λself=>PySem.W.bind_fn X self hf) (.inl rfl) h
end
noncomputable def putF(f:Str)(v:V):List (Str×V)->List (Str×V)
|[]=>[(f,v)]
|(g,x)::r=>if g=f then(g,v)::r else(g,x)::putF f v r
theorem Zo(f g:Str)(v:V):∀fs:List (Str×V),(putF f v fs).lookup g=if g=f then some v else fs.lookup g
|[]=>by
  show List.lookup g [(f,v)]=_;by_cases h:g=f
  ·have hb:(g==f)=true:=beq_iff_eq.mpr h;simp only[List.lookup,hb,if_pos h]
  ·have hb:(g==f)=false:=beq_eq_false_iff_ne.mpr h;simp only[List.lookup,hb,if_neg h]
|(k,x)::r=>by
  have ih:=Zo f g v r;rw[show putF f v ((k,x)::r)=(if k=f then(k,v)::r else(k,x)::putF f v r)from rfl];by_cases hk:k=f
  ·rw[if_pos hk];by_cases h:g=k
   ·have hb:(g==k)=true:=beq_iff_eq.mpr h;simp only[List.lookup,hb,if_pos (h.trans hk)]
   ·have hb:(g==k)=false:=beq_eq_false_iff_ne.mpr h;simp only[List.lookup,hb,if_neg (λe:g=f=>h (e.trans hk.symm))]
  ·rw[if_neg hk];by_cases h:g=k
   ·have hb:(g==k)=true:=beq_iff_eq.mpr h;simp only[List.lookup,hb,if_neg (λe:g=f=>hk (h.symm.trans e))]
   ·have hb:(g==k)=false:=beq_eq_false_iff_ne.mpr h;simp only[List.lookup,hb];exact ih
theorem JG(f:Str)(v:V):∀fs:List (Str×V),f∈(putF f v fs).map (·.1)/\∀g,g∈fs.map (·.1)->g∈(putF f v fs).map (·.1)
|[]=>⟨by simp[putF],λg h=>by simp at h⟩
|(k,x)::r=>by
  obtain⟨i1,i2⟩:=JG f v r;rw[show putF f v ((k,x)::r)=(if k=f then(k,v)::r else(k,x)::putF f v r)from rfl];by_cases hk:k=f
  ·rw[if_pos hk];subst hk;exact⟨by simp,λg h=>by simpa using h⟩
  ·rw[if_neg hk];refine⟨?_,λg h=>?_⟩
   ·rw[aQ];exact am _ i1
   ·rw[aQ]at h ⊢;rcases aq.mp h with e|e
    ·exact aq.mpr (.inl e)
    ·exact am _ (i2 g e)
theorem Yr(f:Str)(v:V):∀fs:List (Str×V),(putF f v fs).length<=fs.length+1
|[]=>by simp[putF]
|(k,x)::r=>by
  have ih:=Yr f v r;rw[show putF f v ((k,x)::r)=(if k=f then(k,v)::r else(k,x)::putF f v r)from rfl];by_cases hk:k=f
  ·rw[if_pos hk,bh,bh];omega
  ·rw[if_neg hk,bh,bh];omega
theorem RelO.some_of{v:V}{o:Option ac}(r:RelO (some v) o):∃u,o=some u/\RelV v u:=by
 cases o with
|none=>exact(show False from r).elim
|some u=>exact⟨u,rfl,r⟩
theorem RelO.none_of{o:Option ac}(r:RelO none o):o=none:=by
 cases o with
|none=>rfl
|some u=>exact(show False from r).elim
theorem Pc{v:V}{u:ac}(r:RelV v u):PySem.W.handedIn u=true:=by
 cases v with
|non=>cases(show u=bq from r);rfl
|bl b=>cases(show u=Value.bool b from r);rfl
|int i=>obtain⟨t,e⟩:=(show ∃t,u=Value.int i t from r);cases e;rfl
|str x=>obtain⟨t,e⟩:=(show ∃t,u=Value.str x t from r);cases e;rfl
|byt b=>obtain⟨t,e⟩:=(show ∃t,u=Value.bytes b t from r);cases e;rfl
|flt b=>obtain⟨t,e⟩:=(show ∃t,u=Value.float b t from r);cases e;rfl
|ref a=>cases(show u=ay a from r);rfl
|ty n=>cases(show u=cU n from r);rfl
section
variable {P:aA}{w:aI}{H H':Hp}{h h':aX}{a C dx:ae}{fs fs':List (Str×V)}
theorem Mp(hok:HOk P w H h)(e:H a=some (.ins C dx fs)):∃mA,ObjM h a dx C mA/\(∀f,RelO (fs.lookup f) (mA f))/\dA mA (fs.map (·.1))/\fs.length<=1000/\H dx=some (.own a):=by obtain⟨d,z,ne,ob,mA,n,r,q⟩:=(show ZV P w H h a (.ins C dx fs)from hok a _ e);exact⟨mA,⟨ob,n,ne⟩,r,q,z,d⟩
end
structure Cls(K:aa)(C:ae):Prop where
 pg:PySem.W.plainGet K C ce=true
 hd:dj K C=true
 po:PySem.W.plainOver K C=true
 sa:aF K (.ref C) "__setattr__"=some (some (.builtin "object.__setattr__"))
theorem Cls.get{K:aa}{C:ae}(c:Cls K C)(f:Str):PySem.W.plainGet K C f=true:=c.pg
def Z8(K:aa)(C:ae)(f:Str):Prop:=aF K (.ref C) f=some none
theorem Z8.taker{K:aa}{C:ae}{f:Str}(n:Z8 K C f):PySem.W.takerIn K C f=some none:=by unfold PySem.W.takerIn;rw[show aF K (.ref C) f=some none from n];rfl
structure Meth(K:aa)(C:ae)(m:Str)(f:ae):Prop where
 at_:aF K (.ref C) m=some (some (.ref f))
 fn:PySem.W.isFn K (.ref f)=true
 kp:bo K (.ref f)=true
section
variable {X:Cx}{pins:List (ae×Obj)}{σ:St}{H:Hp}{s:ag}{a C dx:ae}{fs:List (Str×V)}{f:Str}{v:V}{A:ba}{E:ac->ag->Prop}
theorem RX{b:Bool}{Q:ac->ag->Prop}(I:Inv X pins σ H s)(e:H a=some (.ins C dx fs))(c:Cls X.K C)(n:Z8 X.K C f)(l:fs.lookup f=some v)(h:∀u s',Inv X pins σ H s'->RelV v u->Q u s'):aB (model X.prog X.w) A (getAttr (.ref a) f b) Q E s:=by obtain⟨mA,O,r,_,_,_⟩:=Mp I.hok e;obtain⟨u,hu,ru⟩:=RelO.some_of (v:=v) (o:=mA f) (by rw[<-l];exact r f);exact Da I.kIn O (c.get f) c.hd n hu (Pc ru) (h u _ (I.tok _) ru)
theorem V6{m:Str}{g:ae}{pl:Sem Bool}{Q:ac×List ac->ag->Prop}(I:Inv X pins σ H s)(e:H a=some (.ins C dx fs))(c:Cls X.K C)(k:Meth X.K C m g)(l:fs.lookup m=none)(h:Q (.ref g,[.ref a]) s):aB (model X.prog X.w) A (getMethod (.ref a) m pl) Q E s:=by obtain⟨mA,O,r,_,_,_⟩:=Mp I.hok e;have hn:mA m=none:=RelO.none_of (by rw[<-l];exact r m);exact K3 I.kIn O (c.get m) k.at_ k.fn hn h
theorem RC{y:V}{u:ac}{Q:Unit->ag->Prop}(I:Inv X pins σ H s)(e:H a=some (.ins C dx fs))(c:Cls X.K C)(n:Z8 X.K C f)(hl:fs.length<1000)(ry:RelV y u)(h:∀s',Inv X pins σ (upd H a (.ins C dx (putF f y fs))) s'->Q () s'):aB (model X.prog X.w) A (setAttr (.ref a) f u) Q E s:=by
 obtain⟨mA,O,r,wi,_,ho⟩:=Mp I.hok e;have hz:(fs.map (·.1)).length<=av:=by rw[bA,sizeLine_eq];omega
 refine LD I.kIn O c.sa c.po n.taker c.hd wi hz λh' O' sb=>h _ ?_;have hd:∃o,h'.get? dx=some o:=let ⟨o,_,_,e',_⟩:=O'.ns;⟨o,e'⟩
 refine I.write (x:=a) (e:=dx) (by rw[e];exact cb) (.inr ho) (λb q hb z=>(sb.2 b hb).trans z) hd ?_;refine⟨by rw[Zj O.ne];exact ho,?_,O.ne,O'.obj,_,O'.ns,λg=>?_,λg hg=>?_⟩
 ·have:=Yr f y fs;omega
 ·show RelO ((putF f y fs).lookup g) (if g=f then some u else mA g);rw[Zo];by_cases q:g=f
  ·rw[if_pos q,if_pos q];exact ry
  ·rw[if_neg q,if_neg q];exact r g
 ·by_cases q:g=f
  ·rw[q];exact(JG f y fs).1
  ·refine(JG f y fs).2 g (wi g λz=>hg ?_);show(if g=f then some u else mA g)=none;rw[if_neg q];exact z
theorem Inv.made(I:Inv X pins σ H s):Inv X pins σ (upd (upd H s.heap.objs.size (.own (s.heap.objs.size+1))) (s.heap.objs.size+1) (.ins C s.heap.objs.size [])) {s with heap:=(s.heap.push ca).push (cJ C s.heap.objs.size)}:=by
 have e1:(s.heap.push ca).get? s.heap.objs.size=some ca:=aU s.heap rfl;have e2:((s.heap.push ca).push (cJ C s.heap.objs.size)).get? (s.heap.objs.size+1)=some (cJ C s.heap.objs.size):=by have:=aU (s.heap.push ca) (o:=cJ C s.heap.objs.size) rfl;rwa [da]at this
 have e3:(s.heap.push ca).Ns s.heap.objs.size (λ_=>none):=⟨ca,#[],_,e1,rfl,(λe he=>absurd he (by simp)),λ_=>rfl⟩;have I1:=I.laid (a:=s.heap.objs.size) (o:=.own (s.heap.objs.size+1)) (h':=s.heap.push ca) (t':=s.toks) (λb u q=>ah _ q) (aj _) ⟨_,e1⟩;refine I1.laid (a:=s.heap.objs.size+1) (o:=.ins C s.heap.objs.size []) (t':=s.toks) (λb u q=>ah _ q) (Nat.le_of_eq (da _ _)) ?_;have ne:s.heap.objs.size≠s.heap.objs.size+1:=aE (cq _);refine⟨by rw[Zj ne,Ze],bV _,ne,e2,λ_=>none,(Heap.Ns1.of_empty e3).at λo q=>ah _ q,λ_=>cb,λy hy=>absurd rfl hy⟩
theorem TV{prog:aA}{w:aI}{env:Env}{e:Expr}{f:Str}{pos:Pos}{s:ag}{Q:ac->ag->Prop}(hb:attributeBase e f env (eval e env)=eval e env)(h:aB (model prog w) A (eval e env) (λo s₁=>aB (model prog w) A (getAttr o f true) Q E s₁) E s):aB (model prog w) A (eval (.Attribute e f pos) env) Q E s:=Attribute_any_ h (by rw[arm_eval_Attribute,hb])
end
def tFld(K:aa)(ta:TE)(f:Str):TE:=λσ H Q=>ta σ H λx H1=>∃a C dx fs v,x=.ref a/\H1 a=some (.ins C dx fs)/\Cls K C/\Z8 K C f/\fs.lookup f=some v/\Q v H1
def sFld(K:aa)(ta tv:TE)(f:Str):TS:=λD σ H=>tv σ H λy H1=>ta σ H1 λx H2=>∃a C dx fs,x=.ref a/\H2 a=some (.ins C dx fs)/\Cls K C/\Z8 K C f/\fs.length<1000 /\D.nx σ (upd H2 a (.ins C dx (putF f y fs)))
section
variable {X:Cx}{o e value:Expr}{f:Str}{pos pos' tpos:Pos}{ta tv:TE}
theorem ZG(he:PE X e ta)(hb:attributeBase e f X.env (eval e X.env)=eval e X.env):PE X (.Attribute e f pos) (tFld X.K ta f):=by intro pins s σ H Q I h;refine TV hb (thn (he pins s σ H _ I h) λu s1 h945=>?_);obtain⟨x,H1,I1,rx,a,C,dx,fs,v,ex,ea,c,n,l,q⟩:=h945;subst ex;obtain rfl:u=ay a:=rx;exact RX I1 ea c n l λu' s2 I2 ru=>⟨v,H1,I2,ru,q⟩
theorem JN(ha:PE X o ta)(hv:PE X value tv)(hs:swapsWith value (some (.Attribute o f pos')) pos.line X.env=pure false):PS X (.Assign [.Attribute o f pos'] value pos) (sFld X.K ta tv f):=by intro pins s σ H D I h;refine plainObj_wpAny_Assign_Attribute (thn (hv pins s σ H _ I h) λu s1 h947=>?_) hs;obtain⟨y,H1,I1,ry,q⟩:=h947;refine thn (ha pins s1 σ H1 _ I1 q) λov s2 h948=>?_;obtain⟨x,H2,I2,rx,a,C,dx,fs,ex,ea,c,n,l,q2⟩:=h948;subst ex;obtain rfl:ov=ay a:=rx;exact RC I2 ea c n l ry λs3 I3=>⟨σ,_,I3,q2⟩
theorem Dy{pl:Sem Bool}{m:Str}{apos:Pos}{args:List Expr}{pins:List (ae×Obj)}{s:ag}{σ:St}{H:Hp}{Q:ac->ag->Prop}{te:TE}(he:PE X e te)(I:Inv X pins σ H s)
  (h:te σ H λx H1=>∃a C dx fs g,x=.ref a/\H1 a=some (.ins C dx fs)/\Cls X.K C/\Meth X.K C m g/\fs.lookup m=none /\
   ∀s1,Inv X pins σ H1 s1->aB (model X.prog X.w) X.A (callWith pos (.ref g) [.ref a] (backTo pos (aO args X.env)) (backToKw pos (dJ [] X.env))) Q X.xe s1)
  (ht:eval (.Call (.Attribute e m apos) args [] pos) X.env=(do
   let ov <-eval e X.env
   standAt apos.atName
   let (f,first) <-holding [ov] (getMethod ov m pl)
   callWith pos f first (backTo pos (aO args X.env)) (backToKw pos (dJ [] X.env)))):
  aB (model X.prog X.w) X.A (eval (.Call (.Attribute e m apos) args [] pos) X.env) Q X.xe s:=by
 refine PySem.W.methodCall_KW (pl:=pl) (thn (he pins s σ H _ I h) λu s1 h952=>?_) ht
 obtain⟨x,H1,I1,rx,a,C,dx,fs,g,ex,ea,c,k,l,q⟩:=h952
 subst ex
 obtain rfl:u=ay a:=rx
 exact V6 I1 ea c k l (q s1 I1)
end
section
variable {X:Cx}{pins:List (ae×Obj)}{σ:St}{H:Hp}{s:ag}{A:ba}{E:ac->ag->Prop}{Q:ac->ag->Prop}{c:ac}{b:Bool}
inductive TyOf(K:aa)(H:Hp):V->ac->Prop where
|non:TyOf K H .non (.type "NoneType")
|bl (x:Bool):TyOf K H (.bl x) (.type "bool")
|int (i:Int):TyOf K H (.int i) (.type "int")
|str (x:Str):TyOf K H (.str x) (.type "str")
|flt (x:UInt64):TyOf K H (.flt x) (.type "float")
|lst {a:ae}{xs:List V} (e:H a=some (.lst xs)):TyOf K H (.ref a) (.type "list")
|frz {a:ae}{o:Obj}{xs:List V} (e:H a=some (.frz o (.lst xs))):TyOf K H (.ref a) (.type "list")
|tup {a:ae}{xs:List V} (e:H a=some (.tup xs)):TyOf K H (.ref a) (.type "tuple")
|dK {a:ae}{kvs:List (Key×V)} (e:H a=some (.dK kvs)):TyOf K H (.ref a) (.type "dict")
|dT {a:ae}{kvs:List (List Key×V)} (e:H a=some (.dT kvs)):TyOf K H (.ref a) (.type "dict")
|ins {a C dx:ae}{fs:List (Str×V)} (e:H a=some (.ins C dx fs)) (cl:Cls K C) (ha:aF K (.ref C) "__class__"=some (some (.builtin "object.__class__")))
   (hn:PySem.W.specialIn K (.builtin "object.__class__") "__get__"=some (some (.builtin "getset_descriptor.__get__"))) (htk:PySem.W.takesIn K (.builtin "object.__class__")=some true)
   (hm:PySem.W.mroIn K C (.type "object")=some true):TyOf K H (.ref a) (.ref C)
theorem Ws{x:V}{u t:ac}(I:Inv X pins σ H s)(rx:RelV x u)(ty:TyOf X.K H x t)(e:aR X.K t c=some b)(h:∀tk,Q (.bool b) {s with toks:=tk}):aB (model X.prog X.w) A (call (.builtin "isinstance") [u,c]) Q E s:=by
 cases ty with
|non=>cases(show u=bq from rx);exact bW PySem.W.kitx_none I.kIn cb e (λz=>nomatch z) h
|bl y=>cases(show u=Value.bool y from rx);exact bW PySem.W.kitx_bool I.kIn cb e (λz=>nomatch z) h
|int i=>obtain⟨t,q⟩:=(show ∃t,u=Value.int i t from rx);cases q;exact bW PySem.W.kitx_int I.kIn cb e (λz=>nomatch z) h
|str y=>obtain⟨t,q⟩:=(show ∃t,u=Value.str y t from rx);cases q;exact bW PySem.W.kitx_str I.kIn cb e (λz=>nomatch z) h
|flt y=>obtain⟨t,q⟩:=(show ∃t,u=Value.float y t from rx);cases q;exact bW PySem.W.kitx_float I.kIn cb e (λz=>nomatch z) h
|@lst a xs ea=>cases(show u=ay a from rx);obtain⟨_,_,n,_,h1⟩:=(show ZV X.prog X.w H s.heap a (.lst xs)from I.hok a _ ea);exact bW PySem.W.kitx_list I.kIn ⟨_,h1,rfl⟩ e (λz=>nomatch z) h
|@frz a ob xs ea=>cases(show u=ay a from rx);obtain⟨_,_,_,n,_,h1⟩:=(show ZV X.prog X.w H s.heap a (.frz ob (.lst xs))from I.hok a _ ea);exact bW PySem.W.kitx_list I.kIn ⟨_,h1,rfl⟩ e (λz=>nomatch z) h
|@tup a xs ea=>cases(show u=ay a from rx);obtain⟨_,_,_,p⟩:=(show ZV X.prog X.w H s.heap a (.tup xs)from I.hok a _ ea);obtain⟨o,h1,h2,_⟩:=p;exact bW PySem.W.kitx_tuple I.kIn ⟨o,h1,h2⟩ e (λz=>nomatch z) h
|@dK a kvs ea=>cases(show u=ay a from rx);obtain⟨_,_,vs,_,p⟩:=(show ZV X.prog X.w H s.heap a (.dK kvs)from I.hok a _ ea);obtain⟨o,es,ep,h1,h2,_⟩:=p;exact bW PySem.W.kitx_dict I.kIn ⟨o,h1,h2.1⟩ e (λz=>nomatch z) h
|@dT a kvs ea=>cases(show u=ay a from rx);obtain⟨_,_,xs,_,o,es,ep,h1,h2,_⟩:=(show ZV X.prog X.w H s.heap a (.dT kvs)from I.hok a _ ea);exact bW PySem.W.kitx_dict I.kIn ⟨o,h1,h2.1⟩ e (λz=>nomatch z) h
|@ins a C dx fs ea cl ha hn htk hm=>cases(show u=ay a from rx);obtain⟨mA,O,_⟩:=Mp I.hok ea;obtain⟨od,J,_⟩:=O.look;exact bW (PySem.W.kitx_own (cl.get _) cl.hd ha hn htk hm) I.kIn J e (λz=>nomatch z) h
end
open PySem PySem.Spec PyProof.Rows
structure Room(k:Nat)(A:ba):Prop where
 hd:A.handled=none
 dp:A.depth+3*k+5<recursionLimit
 un:A.units+16*k+200<cLine
 gd:A.guards=some []
theorem Room.mono{j k:Nat}{A:ba}(r:Room k A)(h:j<=k):Room j A:=⟨r.hd,by have:=r.dp;omega,by have:=r.un;omega,r.gd⟩
theorem Room.deeper{k:Nat}{A:ba}(r:Room (k+1) A)(env:Env):Room k (A.deeper env):=⟨r.hd,by have:=r.dp;show A.depth+1+3*k+5<_;omega,by have:=r.un;show A.units+3+16*k+200<_;omega,r.gd⟩
theorem RR{A:ba}{C:ae}{us:List ac}{kw:List (Str×ac)}:(A.under (.builtin "type.__call__" ⟨.ref C::us,kw⟩)).depth=A.depth+1:=by first|rfl|simp[Around.under,Code.weight,Code.isCreation,Code.isGuard,Code.isCaller,Code.frames,Code.isFrame,guardIds]
theorem RQ{A:ba}{C:ae}{us:List ac}{kw:List (Str×ac)}:(A.under (.builtin "type.__call__" ⟨.ref C::us,kw⟩)).units=A.units+1:=by first|rfl|simp[Around.under,Code.cUnits,Code.frames,Code.isFrame]
theorem QT{A:ba}{C:ae}{us:List ac}{kw:List (Str×ac)}:(A.under (.builtin "type.__call__" ⟨.ref C::us,kw⟩)).guards=A.guards:=by first|rfl|simp[Around.under,Code.guards,Code.isGuard,pushGuards,guardIds]
theorem Room.make{k:Nat}{A:ba}(r:Room (k+1) A)(C:ae)(us:List ac)(kw:List (Str×ac)):Room k (A.under (.builtin "type.__call__" ⟨.ref C::us,kw⟩)):=⟨r.hd,by have:=r.dp;rw[RR];omega,by have:=r.un;rw[RQ];omega,by rw[QT];exact r.gd⟩
theorem Room.depth{k:Nat}{A:ba}(r:Room k A):A.depth<recursionLimit:=by have:=r.dp;omega
theorem Room.units{k:Nat}{A:ba}(r:Room k A):A.units+64<cLine:=by have:=r.un;omega
def tNil:TA:=λ_ H Q=>Q [] H
def JZ(ta:TE)(tr:TA):TA:=λσ H Q=>ta σ H λx H1=>tr σ H1 λxs H2=>Q (x::xs) H2
section
variable {X:Cx}{e:Expr}{es:List Expr}{te:TE}{t:TA}{pos:Pos}
theorem Zc:PA X [] tNil:=λ_ _ _ _ H Q I h=>Calls.spliced_nil ⟨[],H,I,.nil,h⟩
theorem Zb(ha:PE X e te)(hr:PA X es t)(hs:aO (e::es) X.env=(false,eval e X.env)::aO es X.env:=by rfl):PA X (e::es) (JZ te t):=by intro pos pins s σ H Q I h;rw[hs];show aB _ _ (spliced ((false,eval e X.env)::backTo pos (aO es X.env))) _ _ s;refine Calls.spliced_cons (thn (ha pins s σ H _ I h) λu s1 h953=>?_);obtain⟨x,H1,I1,r1,q1⟩:=h953;exact thn (hr pos pins s1 σ H1 _ I1 q1) λus s2 h954=>by obtain⟨xs,H2,I2,r2,q2⟩:=h954;exact⟨x::xs,H2,I2,.cons r1 r2,q2⟩
def tTup(t:TA):TE:=λσ H Q=>t σ H λxs H1=>xs.length<=av/\∀p,H1 p=none->Q (.ref p) (upd H1 p (.tup xs))
def tLst(t:TA):TE:=λσ H Q=>t σ H λxs H1=>xs.length<=av/\∀p,H1 p=none->Q (.ref p) (upd H1 p (.lst xs))
theorem Zv{x1}(h:PA X es t):PE X (.Tuple es x1 pos) (tTup t):=by intro pins s σ H Q I hq;refine wpAny_Tuple_spliced (thn (h pos pins s σ H _ I hq) λus s1 h955=>?_);obtain⟨xs,H1,I1,r,z,q⟩:=h955;refine⟨by rw[<-r.length];exact z,?_⟩;have hf:H1 s1.heap.objs.size=none:=I1.hok.fresh (aj _);refine⟨.ref s1.heap.objs.size,upd H1 s1.heap.objs.size (.tup xs),I1.laid (t':=s1.toks) (λb u e=>ah _ e) (aj _) ?_,rfl,q _ hf⟩;exact⟨z,us,r,⟨_,aU _ rfl,rfl,_,rfl⟩⟩
theorem ZO(h:PA X es t):PE X (.List es pos) (tLst t):=by intro pins s σ H Q I hq;refine wpAny_List_spliced (thn (h pos pins s σ H _ I hq) λus s1 h956=>?_);obtain⟨xs,H1,I1,r,z,q⟩:=h956;refine⟨by rw[<-r.length];exact z,?_⟩;have hf:H1 s1.heap.objs.size=none:=I1.hok.fresh (aj _);refine⟨.ref s1.heap.objs.size,upd H1 s1.heap.objs.size (.lst xs),I1.laid (t':=s1.toks) (λb u e=>ah _ e) (aj _) ?_,rfl,q _ hf⟩;exact⟨z,us,0,r,aU _ rfl⟩
end
noncomputable abbrev Sp:=List V->Hp->VK->XK->Prop
noncomputable abbrev CXT:=List Env->Hp->ag->XK->ac->ag->Prop
structure Env0(P:aA)(w:aI)(K:aa)(mg:Str->Option ac)(base:aX)(A:ba)(outer:List Env)(s:ag)(H:Hp):Prop where
 frames:A.frames=some outer
 mod:Mod K mg base
 bs:∀b o,base.get? b=some o->s.heap.get? b=some o/\H b=none
 bsz:base.objs.size<=s.heap.objs.size
 funs:s.heap.FunFrames base outer
 frf:∀b∈frs outer,H b=none
 hok:HOk P w H s.heap
 bare:AllBare s.gens
def CE(outer:List Env)(P:aA)(w:aI)(H:Hp)(s:ag)(Q:VK)(u:ac)(s':ag):Prop:=∃v H',s'.os=s.os/\AllBare s'.gens/\Un (frs outer) [] H H' s.heap s'.heap/\HOk P w H' s'.heap/\RelV v u/\Q v H'
def CR(CX:CXT)(outer:List Env)(P:aA)(w:aI)(H:Hp)(s:ag)(Q:VK)(E:XK)(r:Result)(s':ag):Prop:=match r with
|.ok (.ret u)=>CE outer P w H s Q u s'
|.ok _=>False
|.error e=>CX outer H s E e s'
structure FnOk(P:aA)(w:aI)(K:aa)(mg:Str->Option ac)(base:aX)(CX:CXT)(k:Nat)(f:ae)(fd:FuncData)(ps:List Str)(sp:Sp):Prop where
 len:∀vs H Q E,sp vs H Q E->vs.length=ps.length
 run:∀(A:ba)(outer:List Env)(s:ag)(H:Hp)(args:Args)(us:List ac)(vs:List V)(Q:VK)(E:XK),Room k A->Env0 P w K mg base A outer s H->BindsTo s fd args (ps.zip us)->Vals vs us->sp vs H Q E ->
  codeAny (model P w) A (.call (.ref f) args) (CR CX outer P w H s Q E) s
theorem FnOk.mono{P:aA}{w:aI}{K:aa}{mg:Str->Option ac}{base:aX}{CX:CXT}{j k:Nat}{f:ae}{fd:FuncData}{ps:List Str}{sp:Sp}(F:FnOk P w K mg base CX j f fd ps sp)(h:j<=k):FnOk P w K mg base CX k f fd ps sp:=⟨F.len,λA outer s H args us vs Q E hr=>F.run A outer s H args us vs Q E (hr.mono h)⟩
theorem Env0.make{P:aA}{w:aI}{K:aa}{mg:Str->Option ac}{base:aX}{A:ba}{outer:List Env}{s:ag}{H:Hp}(e:Env0 P w K mg base A outer s H)(C:ae)(us:List ac)(kw:List (Str×ac)):Env0 P w K mg base (A.under (.builtin "type.__call__" ⟨.ref C::us,kw⟩)) outer s H:=⟨by first|exact e.frames|(simpa[Around.under,Code.envs,Code.isFrame,pushEnvs]using e.frames),e.mod,e.bs,e.bsz,e.funs,e.frf,e.hok,e.bare⟩
section
variable {X:Cx}{pins:List (ae×Obj)}{σ:St}{H:Hp}{s s':ag}
theorem Inv.env0(I:Inv X pins σ H s):Env0 X.prog X.w X.K X.mg X.base X.A X.stack s H:=⟨I.ok.frames,I.ok.mod,I.bs,ax I.ok.bsz I.sz,I.stack,I.stkFree,I.hok,I.bare⟩
theorem Inv.after{Q:VK}{u:ac}(I:Inv X pins σ H s)(h:CE X.stack X.prog X.w H s Q u s'):EP X pins σ Q u s':=by obtain⟨v,H',os,bare,un,hok,r,q⟩:=h;obtain⟨hh,g,d,t,os'⟩:=s';obtain rfl:os'=s.os:=os;exact⟨v,H',I.call (h':=hh) (g':=g) (d':=d) (t':=t) (ch:=[]) un hok bare (λb z=>absurd z (by simp)),r,q⟩
end
def NY(sp:Sp)(dvs:List V)(E:XK)(t:TA):TE:=λσ H Q=>t σ H λvs H1=>sp (vs++dvs) H1 Q E
def Qs(C:ae)(m:Str)(sp:Sp)(dvs:List V)(E:XK)(ta:TE)(t:TA):TE:=λσ H Q=>ta σ H λx H1=>∃a dx fs,x=.ref a/\H1 a=some (.ins C dx fs)/\fs.lookup m=none /\t σ H1 λvs H2=>sp (x::(vs++dvs)) H2 Q E
def EZ(C:ae)(sp:Sp)(dvs:List V)(E:XK)(t:TA):TE:=λσ H Q=>t σ H λvs H1=>∀x dx,H1 x=none->H1 dx=none->dx≠x ->sp (.ref x::(vs++dvs)) (upd (upd H1 dx (.own x)) x (.ins C dx [])) (λv H2=>v=.non/\Q (.ref x) H2) E
def Binds(K:aa)(fd:FuncData)(ps:List Str)(ds:List ac):Prop:=∀(s:ag)(us:List ac),K.In s.heap->(us++ds).length=ps.length->BindsTo s fd ⟨us,[]⟩ (ps.zip (us++ds))
theorem Binds.all{K:aa}{fd:FuncData}{ps:List Str}(h:∀us:List ac,us.length=ps.length->bindArgs fd ⟨us,[]⟩=pure (ps.zip us)):Binds K fd ps []:=λs us _ hl=>by rw[bB]at hl ⊢;exact .of_eq (h us hl)
def Y9(CX:CXT)(X:Cx)(E:XK):Prop:=∀(pins:List (ae×Obj))(σ:St)(H:Hp)(s:ag)(e:ac)(s':ag),Inv X pins σ H s->CX X.stack H s E e s'->X.xe e s'
section
variable {X:Cx}{CX:CXT}{k:Nat}{f C:ae}{fd:FuncData}{ps:List Str}{sp:Sp}{dvs:List V}{ds:List ac}{E:XK}{x m:Str}{p pos apos:Pos}{e o:Expr}{es:List Expr}{ta:TE}{t:TA}
theorem RI{pins:List (ae×Obj)}{σ:St}{H:Hp}{s:ag}{Q:VK}{us:List ac}{vs:List V}(F:FnOk X.prog X.w X.K X.mg X.base CX k f fd ps sp)(hr:Room k X.A)(hb:Binds X.K fd ps ds)(hd:Vals dvs ds)(hx:Y9 CX X E)(I:Inv X pins σ H s)(r:Vals vs us)(h:sp (vs++dvs) H Q E):aB (model X.prog X.w) X.A (call (.ref f) us) (EP X pins σ Q) X.xe s:=by
 have r2:Vals (vs++dvs) (us++ds):=r.append hd;have hl:(us++ds).length=ps.length:=by rw[<-r2.length];exact F.len _ _ _ _ h
 refine wpAny_call (codeAny_mono (F.run X.A X.stack s H ⟨us,[]⟩ (us++ds) (vs++dvs) Q E hr I.env0 (hb s us I.kIn hl) r2 h) λr s' hq=>?_);cases r with
|error e=>exact hx pins σ H s e s' I hq
|ok fl=>
  cases fl with
 |ret u=>exact I.after hq
 |next=>exact bU hq
 |brk=>exact bU hq
 |cont=>exact bU hq
theorem SZ(F:FnOk X.prog X.w X.K X.mg X.base CX k f fd ps sp)(hr:Room k X.A)(hg:Gl X x)(hm:X.mg x=some (.ref f))(hk:bo X.K (.ref f)=true)(hb:Binds X.K fd ps ds)(hd:Vals dvs ds)(hx:Y9 CX X E)(ha:PA X (e::es) t)(hdb:(x==("__debug__":Str))=false:=by decide)(he:aO (e::es) X.env=(false,eval e X.env)::aO es X.env:=by rfl)(hpl:(backTo pos (aO es X.env)).any (·.1)=false:=by rfl):PE X (.Call (.Name x p) (e::es) [] pos) (NY sp dvs E t):=by intro pins s σ H Q I h;refine wpAny_Call_Name_kw (JR I hg hm ?_ hdb);refine dL (h₀:=X.base) I.ok.mod.kin hk (thn (ha pos pins s σ H _ I h) λus s1 h957=>?_) he hpl;obtain⟨vs,H1,I1,r,q⟩:=h957;refine⟨I1.kIn,?_⟩;exact RI F hr hb hd hx I1 r q
theorem LQ{pl:Sem Bool}(he:PE X o ta)(c:Cls X.K C)(hm:Meth X.K C m f)(F:FnOk X.prog X.w X.K X.mg X.base CX k f fd ps sp)(hr:Room k X.A)(hb:Binds X.K fd ps ds)(hd:Vals dvs ds)(hx:Y9 CX X E)(ha:PA X (e::es) t)
  (hst:aO (e::es) X.env=(false,eval e X.env)::aO es X.env:=by rfl) (hpl:(backTo pos (aO es X.env)).any (·.1)=false:=by rfl)
  (ht:eval (.Call (.Attribute o m apos) (e::es) [] pos) X.env=(do
   let ov <-eval o X.env
   standAt apos.atName
   let (f,first) <-holding [ov] (getMethod ov m pl)
   callWith pos f first (backTo pos (aO (e::es) X.env)) (backToKw pos (dJ [] X.env))):=by rfl):
  PE X (.Call (.Attribute o m apos) (e::es) [] pos) (Qs C m sp dvs E ta t):=by
 intro pins s σ H Q I h
 refine PySem.W.methodCall_KW (pl:=pl) (thn (he pins s σ H _ I h) λu s1 h958=>?_) ht
 obtain⟨x,H1,I1,rx,a,dx,fs,ex,ea,l,q⟩:=h958
 subst ex
 obtain rfl:u=ay a:=rx
 refine V6 I1 ea c hm l ?_
 refine dL (first:=[.ref a]) (h₀:=X.base) I.ok.mod.kin hm.kp (thn (ha pos pins s1 σ H1 _ I1 q) λus s2 h959=>?_) hst hpl
 obtain⟨vs,H2,I2,r,q2⟩:=h959
 refine⟨I2.kIn,?_⟩
 exact RI (us:=.ref a::us) (vs:=.ref a::vs) F hr hb hd hx I2 (.cons rfl r) q2
theorem Kz{pl:Sem Bool}(he:PE X o ta)(c:Cls X.K C)(hm:Meth X.K C m f)(F:FnOk X.prog X.w X.K X.mg X.base CX k f fd ps sp)(hr:Room k X.A)(hb:Binds X.K fd ps ds)(hd:Vals dvs ds)(hx:Y9 CX X E)
  (ht:eval (.Call (.Attribute o m apos) [] [] pos) X.env=(do
   let ov <-eval o X.env
   standAt apos.atName
   let (f,first) <-holding [ov] (getMethod ov m pl)
   callWith pos f first (backTo pos (aO [] X.env)) (backToKw pos (dJ [] X.env))):=by rfl):
  PE X (.Call (.Attribute o m apos) [] [] pos) (Qs C m sp dvs E ta tNil):=by
 intro pins s σ H Q I h
 refine PySem.W.methodCall_KW (pl:=pl) (thn (he pins s σ H _ I h) λu s1 h960=>?_) ht
 obtain⟨x,H1,I1,rx,a,dx,fs,ex,ea,l,q⟩:=h960
 subst ex
 obtain rfl:u=ay a:=rx
 refine V6 I1 ea c hm l ?_
 exact PySem.W.callWith_K0 (first:=[.ref a]) I1.kIn hm.kp (RI (us:=[.ref a]) (vs:=[.ref a]) F hr hb hd hx I1 (.cons rfl .nil) q)
structure Mk(K:aa)(C f:ae):Prop where
 makes:PySem.W.makesIn K C=true
 init:aF K (.ref C) "__init__"=some (some (.ref f))
 fn:PySem.W.isFn K (.ref f)=true
 kp:bo K (.ref C)=true
theorem Kr{pins:List (ae×Obj)}{σ:St}{H:Hp}{s:ag}{Q:VK}{us:List ac}{vs:List V}(M:Mk X.K C f)(F:FnOk X.prog X.w X.K X.mg X.base CX k f fd ps sp)(hr:Room (k+1) X.A)(hb:Binds X.K fd ps ds)(hd:Vals dvs ds)(hx:Y9 CX X E)(I:Inv X pins σ H s)(r:Vals vs us)(h:∀x dx,H x=none->H dx=none->dx≠x->sp (.ref x::(vs++dvs)) (upd (upd H dx (.own x)) x (.ins C dx [])) (λv H2=>v=.non/\Q (.ref x) H2) E):aB (model X.prog X.w) X.A (call (.ref C) us) (EP X pins σ Q) X.xe s:=by
 have hq:=h (s.heap.objs.size+1) s.heap.objs.size (I.hok.fresh (Nat.le_succ _)) (I.hok.fresh (aj _)) (aE (cq _));have I2:=Inv.made (C:=C) I;have r2:Vals (V.ref (s.heap.objs.size+1)::(vs++dvs)) (ay (s.heap.objs.size+1)::(us++ds)):=.cons rfl (r.append hd);have hl:(ay (s.heap.objs.size+1)::us++ds).length=ps.length:=by have e:=r2.length;rw[F.len _ _ _ _ hq]at e;exact e.symm
 refine wpAny_call (KO (f:=f) I.kIn M.makes M.init (beq_iff_eq.mp M.fn) (codeAny_mono (F.run _ X.stack _ _ ⟨ay (s.heap.objs.size+1)::us,[]⟩ (ay (s.heap.objs.size+1)::(us++ds)) _ _ E (hr.make C us []) (I2.env0.make C us []) (hb _ (ay (s.heap.objs.size+1)::us) I2.kIn hl) r2 hq) λr s' hq'=>?_));cases r with
|error e=>exact hx pins σ _ _ e s' I2 hq'
|ok fl=>
  cases fl with
 |ret u=>obtain⟨v,H',I3,rv,ev,q3⟩:=I2.after hq';subst ev;exact⟨rv,⟨V.ref (s.heap.objs.size+1),H',I3,rfl,q3⟩⟩
 |next=>exact bU hq'
 |brk=>exact bU hq'
 |cont=>exact bU hq'
theorem Mj(M:Mk X.K C f)(F:FnOk X.prog X.w X.K X.mg X.base CX k f fd ps sp)(hr:Room (k+1) X.A)(hg:Gl X x)(hm:X.mg x=some (.ref C))(hb:Binds X.K fd ps ds)(hd:Vals dvs ds)(hx:Y9 CX X E)(ha:PA X (e::es) t)(hdb:(x==("__debug__":Str))=false:=by decide)(he:aO (e::es) X.env=(false,eval e X.env)::aO es X.env:=by rfl)(hpl:(backTo pos (aO es X.env)).any (·.1)=false:=by rfl):PE X (.Call (.Name x p) (e::es) [] pos) (EZ C sp dvs E t):=by intro pins s σ H Q I h;refine wpAny_Call_Name_kw (JR I hg hm ?_ hdb);refine dL (h₀:=X.base) I.ok.mod.kin M.kp (thn (ha pos pins s σ H _ I h) λus s1 h961=>?_) he hpl;obtain⟨vs,H1,I1,r,q⟩:=h961;refine⟨I1.kIn,?_⟩;exact Kr M F hr hb hd hx I1 r q
end
structure FnScope(N P:List Str)(sc:bH):Prop where
 kind:sc.kind=.function
 co:sc.isCoroutine=false
 gen:sc.isGenerator=false
 nd:N.Nodup
 pre:N.take P.length=P
 par:∀x∈P,sc.names.lookup x=some .local\/sc.names.lookup x=some .cell
 nofree:∀y∈sc.names,y.2≠.free
theorem Pq{kindOf:Str->Option dM}{x:Str}:∀{binds:List (Str×ac)}{m:Str->Option ac},(∀v,(x,v)∉binds)->bindL kindOf binds m x=m x
|[],_,_=>rfl
|(n,v)::r,m,h=>by
  unfold bindL;rw[Pq λw hw=>h w (am _ hw)];split
  ·have:x≠n:=by rintro rfl;exact h v ao
   simp[this]
  ·rfl
theorem Ps{kindOf:Str->Option dM}{x:Str}:∀{binds:List (Str×ac)}{m:Str->Option ac},(∀v,(x,v)∉binds)->bindC kindOf binds m x=m x
|[],_,_=>rfl
|(n,v)::r,m,h=>by
  unfold bindC;rw[Ps λw hw=>h w (am _ hw)];split
  ·rfl
  ·have:x≠n:=by rintro rfl;exact h v ao
   simp[this]
theorem Pr{kindOf:Str->Option dM}{x:Str}{v:ac}:∀{P:List Str}{vs:List ac}{i:Nat}{m:Str->Option ac},P.Nodup->P[i]?=some x->vs[i]?=some v->kindOf x=some .local ->bindL kindOf (P.zip vs) m x=some v
|[],_,_,_,_,h,_,_=>by simp at h
|_::_,[],_,_,_,_,h,_=>by simp at h
|p::P,w::vs,0,m,nd,h1,h2,hk=>by simp at h1 h2;subst h1;subst h2;show bindL kindOf ((p,w)::P.zip vs) m p=_;unfold bindL;rw[Pq λv hv=>(bQ.mp nd).1 (List.of_mem_zip hv).1,if_pos hk];simp
|p::P,w::vs,i+1,m,nd,h1,h2,hk=>by show bindL kindOf ((p,w)::P.zip vs) m x=_;unfold bindL;exact Pr (i:=i) (bQ.mp nd).2 (by simpa using h1) (by simpa using h2) hk
theorem Pt{kindOf:Str->Option dM}{x:Str}{v:ac}:∀{P:List Str}{vs:List ac}{i:Nat}{m:Str->Option ac},P.Nodup->P[i]?=some x->vs[i]?=some v->kindOf x≠some .local ->bindC kindOf (P.zip vs) m x=some v
|[],_,_,_,_,h,_,_=>by simp at h
|_::_,[],_,_,_,_,h,_=>by simp at h
|p::P,w::vs,0,m,nd,h1,h2,hk=>by simp at h1 h2;subst h1;subst h2;show bindC kindOf ((p,w)::P.zip vs) m p=_;unfold bindC;rw[Ps λv hv=>(bQ.mp nd).1 (List.of_mem_zip hv).1,if_neg hk];simp
|p::P,w::vs,i+1,m,nd,h1,h2,hk=>by show bindC kindOf ((p,w)::P.zip vs) m x=_;unfold bindC;exact Pt (i:=i) (bQ.mp nd).2 (by simpa using h1) (by simpa using h2) hk
noncomputable def start(N:List Str)(vs:List V):St:=vs.map some++List.replicate (N.length-vs.length) none
noncomputable def cxOf(CX:CXT)(P:aA)(w:aI)(K:aa)(mg:Str->Option ac)(base:aX)(N:List Str)(qual:Str)(scope:bH)(f:ae)(cd:ac)(A:ba)(outer:List Env)(s:ag)(H:Hp)(E:XK):Cx where
 prog:=P
 w:=w
 K:=K
 mg:=mg
 base:=base
 A:=A.deeper (envOfC qual scope s.heap.objs.size f cd)
 N:=N
 s₀:=s
 H₀:=H
 env:=envOfC qual scope s.heap.objs.size f cd
 outer:=outer
 stack:=envOfC qual scope s.heap.objs.size f cd::outer
 ex:=[]
 calm:=true
 fn:=λ_=>true
 pn:=[]
 xe:=λe s'=>aB (model P w) (A.deeper (envOfC qual scope s.heap.objs.size f cd)) (leaving (envOfC qual scope s.heap.objs.size f cd) e) (λ_ s''=>CX outer H s E e s'') (λe' s''=>CX outer H s E e' s'') s'
theorem Ra{sc:bH}{n:Nat}{x:Str}(h:sc.names.lookup x=some .cell):∃c,(cellsFrom n sc.names []).lookup x=some c:=by have q:=PySem.W.cellsFrom_some sc.names n [] (.inl h);exact dI.mp q
theorem Wu{CX:CXT}{P:aA}{w:aI}{K:aa}{mg:Str->Option ac}{base:aX}{N ps:List Str}{qual:Str}{scope:bH}{f:ae}{cd:ac}{A:ba}{outer:List Env}{s s1:ag}{H:Hp}{E:XK}{us:List ac}{vs:List V}(S:FnScope N ps scope)(hd:A.handled=none)(e0:Env0 P w K mg base A outer s H)(hl:vs.length=ps.length)(r:Vals vs us)(x:InCallC s s.heap.objs.size (bindL (envOfC qual scope s.heap.objs.size f cd).kindOf (ps.zip us) λ_=>none) (cellsFrom (s.heap.objs.size+1) scope.names []) (bindC (envOfC qual scope s.heap.objs.size f cd).kindOf (ps.zip us) λ_=>none) s1):Inv (cxOf CX P w K mg base N qual scope f cd A outer s H E) [] (start N vs) H s1:=by
 have hpl:ps.length<=N.length:=by have:=congrArg List.length S.pre;rw[aL]at this;omega
 obtain⟨h1,tk,rfl,hk⟩:=x.done;have noA:∀b:ae,b∉(cxOf CX P w K mg base N qual scope f cd A outer s H E).ex:=λb z=>absurd (show b∈([]:List ae)from z) (by simp);refine⟨⟨e0.mod,S.kind,rfl,rfl,aj _,λy z c h1 h2=>?_,λy hy=>?_,λy c _ h=>?_,λ_=>hd,Around.frames_deeper e0.frames,.inr ⟨rfl,rfl⟩,λb z=>absurd z (noA b),e0.bs,e0.bsz,λb _ _=>noA b,λb z=>absurd z (noA b),e0.funs,e0.frf⟩,rfl,e0.bare,Un.kept hk,⟨_,x.toInCall.ns,λi y v h1 h2 h3=>?_⟩,λy c h=>⟨_,x.cell y c h⟩,e0.hok.fresh (aj _),λy c h=>?_,λp hp=>absurd (show p∈([]:List (ae×Obj))from hp) (by simp),e0.hok.kept hk,?_⟩
 ·exact name_of_addr x.apart (cZ h1) (cZ h2)
 ·have hy:scope.names.lookup y=some .cell\/scope.names.lookup y=some .free:=hy;rcases hy with hy|hy
  ·exact Ra hy
  ·exact absurd rfl (S.nofree _ (cZ hy))
 ·exact Nat.le_of_lt (x.above y c (cZ h))
 ·have hi:i<vs.length:=by
   unfold start at h2;by_cases hi:i<vs.length
   ·exact hi
   ·rw[bC (by simpa using hi)]at h2;rw[List.getElem?_replicate]at h2;split at h2<;>cases h2
  have ha:vs[i]?=some v:=by
   unfold start at h2;rw[bj (by simpa using hi),ak]at h2;cases e:vs[i]? with
  |none=>rw[e]at h2;cases h2
  |some a=>rw[e]at h2;cases h2;rfl
  obtain⟨u,hu,rv⟩:=r.get ha;have hp:ps[i]?=some y:=by rw[<-S.pre,List.getElem?_take_of_lt (by omega)];exact h1
  have ndP:ps.Nodup:=by rw[<-S.pre];exact S.nd.sublist (List.take_sublist _ _)
  refine⟨u,rv,?_⟩;rcases S.par y (aG hp)with k|k
  ·exact .inl ⟨k,Pr ndP hp hu k⟩
  ·obtain⟨c,e⟩:=Ra (n:=s.heap.objs.size+1) k;refine .inr ⟨.inl k,c,e,?_⟩;have q:=x.cell y c e;rw[Pt ndP hp hu (by show scope.names.lookup y≠_;rw[k];decide)]at q;exact q
 ·exact e0.hok.fresh (Nat.le_of_lt (x.above y c (cZ h)))
 ·unfold start;show _=N.length;rw[aT,bA,List.length_replicate];omega
theorem DA{CX:CXT}{P:aA}{w:aI}{K:aa}{mg:Str->Option ac}{base:aX}{k:Nat}{f:ae}{name qual:Str}{params:Arguments}{body:List bc}{scope:bH}{dV kV doc pm cdv ct oc:ac}{an od:Option ae}{osl:Array (Option ac)}{N ps:List Str}{sp:Sp}(lk:K.lookup f=some ⟨oc,od,.func (bO name qual params body scope dV kV doc pm an cdv ct),osl⟩)(hcd:cY K cdv qual=true)(S:FnScope N ps scope)(len:∀vs H Q E,sp vs H Q E->vs.length=ps.length)(hbody:∀(A:ba)(outer:List Env)(s:ag)(H:Hp)(vs:List V)(Q:VK)(E:XK),Room k (A.deeper (envOfC qual scope s.heap.objs.size f cdv))->sp vs H Q E ->∃t,PSs (cxOf CX P w K mg base N qual scope f cdv A outer s H E) body t/\t {nx:=λ_ H'=>Q .non H',rt:=Q} (start N vs) H):FnOk P w K mg base CX (k+1) f (bO name qual params body scope dV kV doc pm an cdv ct) ps sp:=by
 refine⟨len,λA outer s H args us vs Q E hr e0 hb r hsp=>?_⟩;have hl:=len _ _ _ _ hsp;have KX:K.In s.heap:=e0.mod.kin.keeps λb o e=>(e0.bs b o e).1;have lim:s.heap.NoLimit:=e0.mod.nolimit.keeps λb o e=>(e0.bs b o e).1;have hkind:∀y∈ps.zip us,scope.names.lookup y.1=some .local\/(scope.names.lookup y.1=some .cell/\((cellsFrom (s.heap.objs.size+1) scope.names []).lookup y.1).isSome=true):=λ⟨n,v⟩hy=>by
  rcases S.par n (List.of_mem_zip hy).1 with q|q
  ·exact .inl q
  ·exact .inr ⟨q,PySem.W.cellsFrom_some _ _ _ (.inl q)⟩
 refine codeAny_call_function hr.depth (KX _ _ lk) rfl S.co S.gen rfl (PySem.W.codeRec_of KX hcd) (hb _ _ _ _ ?_);refine wpAny_newFunctionEnv_cells S.kind hkind λenv he s1 x=>?_;subst he;refine⟨lim.keeps x.toInCall.keep,codeAny_func ?_⟩;obtain⟨t,ht,hq⟩:=hbody A outer s H vs Q E (hr.deeper _) hsp;have I:Inv (cxOf CX P w K mg base N qual scope f cdv A outer s H E) [] (start N vs) H s1:=Wu S hr.hd e0 hl r x;refine wpAny_mono (ht [] s1 (start N vs) H _ I hq) (λfl s' hs=>?_) λe s' hs=>hs;have fin:∀{σ':St}{H':Hp}{v:V}{u:ac},Inv (cxOf CX P w K mg base N qual scope f cdv A outer s H E) [] σ' H' s'->RelV v u->Q v H'->CE outer P w H s Q u s':=λ{σ' H' v u}J rv q=>⟨v,H',J.os,J.bare,J.base,J.hok,rv,q⟩;cases fl with
|ret u=>obtain⟨v,σ',H',J,rv,q⟩:=hs;exact fin J rv q
|next=>obtain⟨σ',H',J,q⟩:=hs;exact fin (v:=V.non) (u:=bq) J rfl q
|brk=>obtain⟨_,_,_,q⟩:=hs;exact bU q
|cont=>obtain⟨_,_,_,q⟩:=hs;exact bU q
open PySem PySem.Spec PyProof.Rows
section
variable {X:Cx}{x:Str}{p pos:Pos}{e:Expr}{es:List Expr}{t:TA}{id T:String}{r:List V->Hp->VK->Prop}
def tCB(r:List V->Hp->VK->Prop)(t:TA):TE:=λσ H Q=>t σ H λvs H1=>r vs H1 Q
theorem ZJ(hc:Xo X (.builtin id) r)(hg:Gl X x)(hm:X.mg x=none)(hv:bootBuiltins x=some (.builtin id))(ha:PA X (e::es) t)(hn:x≠"__name__":=by decide)(hdb:(x==("__debug__":Str))=false:=by decide)(he:aO (e::es) X.env=(false,eval e X.env)::aO es X.env:=by rfl)(hpl:(backTo pos (aO es X.env)).any (·.1)=false:=by rfl):PE X (.Call (.Name x p) (e::es) [] pos) (tCB r t):=by intro pins s σ H Q I h;refine wpAny_Call_Name_kw (Vl I hg hm hv ?_ hn hdb);exact PyProof.Rows.callWith_builtin1 (thn (ha pos pins s σ H _ I h) λus s1 h966=>by obtain⟨vs,H1,I1,r1,q1⟩:=h966;exact hc pins s1 σ H1 vs us Q I1 r1 q1) he hpl
theorem Z3(hc:Xo X (.type T) r)(hg:Gl X x)(hm:X.mg x=none)(hv:bootBuiltins x=some (.type T))(ha:PA X (e::es) t)(hn:x≠"__name__":=by decide)(hdb:(x==("__debug__":Str))=false:=by decide)(he:aO (e::es) X.env=(false,eval e X.env)::aO es X.env:=by rfl)(hpl:(backTo pos (aO es X.env)).any (·.1)=false:=by rfl):PE X (.Call (.Name x p) (e::es) [] pos) (tCB r t):=by intro pins s σ H Q I h;refine wpAny_Call_Name_kw (Vl I hg hm hv ?_ hn hdb);exact bX (thn (ha pos pins s σ H _ I h) λus s1 h967=>by obtain⟨vs,H1,I1,r1,q1⟩:=h967;exact hc pins s1 σ H1 vs us Q I1 r1 q1) he hpl
end
end L2
namespace HT
open PySem PyProof.Rows
section
variable {prog:aA}{w:aI}{A:ba}{E:ac->ag->Prop}{s:ag}
theorem cat_tup{t b:ae}{vs ws:List ac}{Q:ac->ag->Prop}(ht:IsTup s.heap t vs.toArray)(hb:IsTup s.heap b ws.toArray)(hv:vs≠[])(h1:ws=[]->Q (.ref t) s)(h2:ws≠[]->Q (.ref s.heap.objs.size) {s with heap:=s.heap.push {cls:=.type "tuple",data:=.seq (vs++ws).toArray}})(hsz:vs.length+ws.length<=av):aB (model prog w) A (binaryOp .Add (.ref t) (.ref b)) Q E s:=by
 obtain⟨⟨cls,dd,data,sl⟩,ho,hc,n,hd⟩:=id ht;obtain⟨⟨cls2,dd2,data2,sl2⟩,ho2,hc2,n2,hd2⟩:=id hb;simp only at hc hd hc2 hd2;subst hc hd hc2 hd2;have e:vs.toArray++ws.toArray=(vs++ws).toArray:=by simp
 by_cases hw:ws=[]
 ·exact concat_meets ⟨_,ho,rfl⟩ ⟨_,ho2,rfl⟩ noFill_tuple_add seq_tuple_add PySem.F.slot_tuple_add PySem.F.entry_tuple_add (PySem.F.args_tuple_add_2 _ _) (tuple_addW1 t b vs.toArray ws.toArray n n2 dd dd2 sl sl2 (by simpa using hv) (by simp[hw])) ⟨ho,ho2,h1 hw⟩
 ·refine concat_meets ⟨_,ho,rfl⟩ ⟨_,ho2,rfl⟩ noFill_tuple_add seq_tuple_add PySem.F.slot_tuple_add PySem.F.entry_tuple_add (PySem.F.args_tuple_add_2 _ _) (tuple_addW2 t b vs.toArray ws.toArray n n2 dd dd2 sl sl2 (by simpa using hv) (by simpa using hw) (by rw[ar,ar];exact hsz)) ⟨ho,ho2,?_⟩;rw[e];exact h2 hw
noncomputable def sIx(n d:Nat):Option Int->Nat
|none=>d
|some v=>if v<0 then(v+(n:Int)).toNat else min v.toNat n
theorem DU(n d:Nat)(hd:d<=n)(o:Option Int):sIx n d o<=n:=by
 cases o with
|none=>exact hd
|some v=>
  show(if v<0 then(v+(n:Int)).toNat else min v.toNat n)<=n;by_cases hv:v<0
  ·rw[if_pos hv];omega
  ·rw[if_neg hv];exact Nat.min_le_right _ _
theorem TR(v:Int)(n d:Nat):(if v<0 then max (v+(n:Int)) 0 else min v (n:Int))=((sIx n d (some v):Nat):Int):=by
 show(if v<0 then max (v+(n:Int)) 0 else min v (n:Int))=(((if v<0 then(v+(n:Int)).toNat else min v.toNat n):Nat):Int);by_cases hv:v<0
 ·simp only[if_pos hv];omega
 ·simp only[if_neg hv];omega
theorem SC(lo hi:Option Int)(n:Nat):Builtin.Slice.sliceAdjust lo hi 1 (n:Int)=(((sIx n 0 lo:Nat):Int),((sIx n n hi:Nat):Int)):=by
 have h1:¬((1:Int)<0):=by omega
 unfold Builtin.Slice.sliceAdjust;simp only[h1,if_false];refine Prod.ext ?_ ?_
 ·cases lo with
 |none=>rfl
 |some v=>exact TR v n 0
 ·cases hi with
 |none=>rfl
 |some v=>exact TR v n n
theorem RK(i j:Nat):dm (i:Int) (j:Int) 1=j-i:=by
 unfold dm;have h1:(1:Int)>0:=by omega
 simp only[h1,if_true,Int.ediv_one];split<;>omega
theorem ML{v:ac}{o:Option Int}{Q:Option Int->ag->Prop}(p:IsPart v o)(h:Q o s):aB (model prog w) A (Builtin.Slice.slicePartIndex v) Q E s:=by
 cases p with
|none=>exact slicePart_none h
|int i t=>exact slicePart_int h
theorem Gs{sl:ae}{vl vu:ac}{lo hi:Option Int}{n:Nat}{Q:Int×Int×Nat->ag->Prop}(hs:s.heap.IsSliceOf sl vl vu .none)(pl:IsPart vl lo)(pu:IsPart vu hi)(h:Q (((sIx n 0 lo:Nat):Int),1,sIx n n hi-sIx n 0 lo) s):aB (model prog w) A (Builtin.Slice.sliceApplied (.ref sl) (pure (n:Int))) Q E s:=by
 obtain⟨os,hos,hcs,hds⟩:=id hs;unfold Builtin.Slice.sliceApplied Builtin.Slice.sliceFields;refine af (af (bD hos hds (x:=vl) rfl (af (bD hos hds (x:=vu) rfl (af (bD hos hds (x:=.none) rfl (au ?_)))))));refine af (slicePart_none ?_);show aB _ _ (if((1:Int)==0)=true then _ else _) _ _ s;rw[if_neg (by decide)];refine af (ML pl (af (ML pu (af (au ?_)))));show aB _ _ (match Builtin.Slice.sliceAdjust lo hi 1 (n:Int)with|(lo,hi)=>pure (lo,(1:Int),dm lo hi 1)) _ _ s
 rw[SC lo hi n];show aB _ _ (pure (((sIx n 0 lo:Nat):Int),(1:Int),dm ((sIx n 0 lo:Nat):Int) ((sIx n n hi:Nat):Int) 1)) _ _ s;rw[RK];exact au h
theorem Ku(xs:Array ac)(i k:Nat):((bN k).filterMap λ(m:Nat)=>xs[((i:Int)+(m:Int)*1).toNat]?).toArray=((xs.toList.drop i).take k).toArray:=by
 have e:(λ(m:Nat)=>xs[((i:Int)+(m:Int)*1).toNat]?)=λm=>xs[i+m]?:=by
  funext m;have:((i:Int)+(m:Int)*1).toNat=i+m:=by omega
  rw[this]
 rw[e];have:=pick_run xs i k;rw[List.filterMap_map]at this;have e2:((λx=>xs[x]?) ∘ λx=>i+x)=λm=>xs[i+m]?:=rfl;rw[e2]at this;rw[this]
theorem getItem_tuple_cut{t sl:ae}{items:Array ac}{vl vu:ac}{lo hi:Option Int}{Q:ac->ag->Prop}(ht:IsTup s.heap t items)(hs:s.heap.IsSliceOf sl vl vu .none)(pl:IsPart vl lo)(pu:IsPart vu hi)(hw:¬(sIx items.size 0 lo=0/\sIx items.size items.size hi=items.size))(h:Q (.ref s.heap.objs.size) {s with heap:=s.heap.push {cls:=.type "tuple",data:=.seq ((items.toList.drop (sIx items.size 0 lo)).take (sIx items.size items.size hi-sIx items.size 0 lo)).toArray}})(hsz:items.size<=av):aB (model prog w) A (getItem (.ref t) (.ref sl)) Q E s:=by
 have htake:sizeOk (.seq ((items.toList.drop (sIx items.size 0 lo)).take (sIx items.size items.size hi-sIx items.size 0 lo)).toArray):=by show((items.toList.drop (sIx items.size 0 lo)).take (sIx items.size items.size hi-sIx items.size 0 lo)).toArray.size<=av;rw[ar,aL,bI,Array.length_toList];omega
 have hj:sIx items.size items.size hi<=items.size:=DU _ _ (aj _) hi;obtain⟨os,hos,hcs,hds⟩:=id hs;have hTs:s.TypeIs (.ref sl) "slice":=⟨os,hos,hcs⟩;unfold getItem;try with_reducible refine bw ?_
 first|refine af (au ?_)|skip
 refine af (wpAny_sequenceKey ht.typeIs (by decide) ?_);refine af (wpAny_callSpecial?_slot (name:=cV "__getitem__") ht.typeIs PyProof.Rows.slot_tuple_getitem (wpAny_call_entry PyProof.Rows.slot_tuple_getitem ht.typeIs entry_tuple_getitem ?_ (args_tuple_getitem _ _)));show aB _ _ (Builtin.Tuple.tupleItemsOf (.ref t) >>= _) _ _ s;refine af (tupleItemsOf_ ht ?_);refine af (wpAny_typeOf hTs ?_);rw[if_pos (by decide)];refine af (Gs hs pl pu ?_);have hno:¬((((sIx items.size 0 lo:Nat):Int)==0&&(1:Int)==1&&(sIx items.size items.size hi-sIx items.size 0 lo)==items.size)=true):=by intro q;rw[br,br]at q;have q1:((sIx items.size 0 lo:Nat):Int)=0:=eq_of_beq q.1.1;have q2:sIx items.size items.size hi-sIx items.size 0 lo=items.size:=eq_of_beq q.2;exact hw ⟨by omega,by omega⟩
 show aB _ _ (if(((sIx items.size 0 lo:Nat):Int)==0&&(1:Int)==1&&(sIx items.size items.size hi-sIx items.size 0 lo)==items.size)=true then _ else _) _ _ s;rw[if_neg hno,Ku];first
 |exact af (m:=dw _) (wpAny_newObj_type (au ⟨_,rfl,au h⟩) htake)
 |exact af (m:=dw _) (wpAny_newObj_type (af (au (au ⟨_,rfl,au h⟩))) htake)
 |exact af (af (m:=dw _) (wpAny_newObj_type (au (au ⟨_,rfl,au h⟩)) htake))
 |exact af (af (m:=dw _) (wpAny_newObj_type (au ⟨_,rfl,au h⟩) htake))
end
end HT
namespace L2
open PySem PySem.Spec PyProof.Rows
noncomputable abbrev TO:=St->Hp->(Option Int->Hp->Prop)->Prop
def PO(X:Cx)(e:Option Expr)(t:TO):Prop:=∀(pins:List (ae×Obj))(s:ag)(σ:St)(H:Hp)(Q:Option Int->Hp->Prop),Inv X pins σ H s->t σ H Q ->aB (model X.prog X.w) X.A (evalPart e X.env) (λu s'=>∃o H',Inv X pins σ H' s'/\IsPart u o/\Q o H') X.xe s
noncomputable def LA:TO:=λ_ H Q=>Q none H
noncomputable def My(t:TE):TO:=λσ H Q=>t σ H λx H1=>∃i,x=.int i/\Q (some i) H1
theorem intsAre_of{ns:List Int}:∀{us:List ac},Vals (ns.map V.int) us->IntsAre us ns:=by
 induction ns with
|nil=>intro us r;rw[List.map_nil]at r;cases r;exact .nil
|cons n ns ih=>
  intro us r;rw[aQ]at r;cases r with
 |cons r1 r2=>obtain⟨t,e⟩:=r1;subst e;exact .cons n t (ih r2)
section
variable {X:Cx}{e:Expr}{te:TE}{lo hi:Option Expr}{tl th:TO}{pos p2:Pos}
theorem Yw:PO X none LA:=by intro pins s σ H Q I h;rw[evalPart_none];exact au ⟨none,H,I,.none,h⟩
theorem Yv(h:PE X e te):PO X (some e) (My te):=by intro pins s σ H Q I hw;rw[evalPart_some];refine thn (h pins s σ H _ I hw) λu s1 h968=>?_;obtain⟨x,H1,I1,r1,q1⟩:=h968;obtain⟨i,rfl,q⟩:=q1;obtain⟨t,rfl⟩:=r1;exact⟨some i,H1,I1,.int i t,q⟩
def SlR(X:Cx)(r:V->Option Int->Option Int->Hp->VK->Prop):Prop:=∀(pins:List (ae×Obj))(s:ag)(σ:St)(H:Hp)(x:V)(v vl vu:ac)(lo hi:Option Int)(sl:ae)(Q:VK),Inv X pins σ H s->RelV x v->s.heap.IsSliceOf sl vl vu .none->IsPart vl lo->IsPart vu hi->r x lo hi H Q ->∃T id,typeLookup (.type T) "__getitem__"=pure (some (.builtin id))/\s.TypeIs v T/\aB (model X.prog X.w) X.A (getItem v (.ref sl)) (EP X pins σ Q) X.xe s
def tSl(r:V->Option Int->Option Int->Hp->VK->Prop)(te:TE)(tl th:TO):TE:=λσ H Q=>te σ H λx H1=>tl σ H1 λl H2=>th σ H2 λu H3=>r x l u H3 Q
theorem Yc{r:V->Option Int->Option Int->Hp->VK->Prop}(hr:SlR X r)(he:PE X e te)(hl:PO X lo tl)(hu:PO X hi th):PE X (.Subscript e (.Slice lo hi none p2) pos) (tSl r te tl th):=by intro pins s σ H Q I h;refine Subscript_ (thn (he pins s σ H _ I h) λv s1 h969=>?_);obtain⟨x,H1,I1,r1,q1⟩:=h969;refine wpAny_Slice (thn (hl pins s1 σ H1 _ I1 q1) λvl s2 h970=>?_);obtain⟨l,H2,I2,pl,q2⟩:=h970;refine thn (hu pins s2 σ H2 _ I2 q2) λvu s3 h971=>?_;obtain⟨u,H3,I3,pu,q3⟩:=h971;rw[evalPart_none];refine au ?_;have I4:Inv X pins σ H3 {s3 with heap:=s3.heap.push {cls:=.type "slice",data:=.fields #[vl,vu,.none]}}:=I3.kept (t':=s3.toks) λb ob q=>ah _ q;obtain⟨T,id,hT,ht,hg⟩:=hr pins {s3 with heap:=s3.heap.push {cls:=.type "slice",data:=.fields #[vl,vu,.none]}} σ H3 x v vl vu l u s3.heap.objs.size Q I4 r1 (Heap.IsSliceOf.new ..) pl pu q3;show aB (model X.prog X.w) X.A (subscriptTail e (.Slice lo hi none p2) v (.ref s3.heap.objs.size)) (EP X pins σ Q) X.xe {s3 with heap:=s3.heap.push {cls:=.type "slice",data:=.fields #[vl,vu,.none]}};exact tail_any (ops:=[.ref s3.heap.objs.size,v]) ht hT hg (by with_unfolding_all rfl)
noncomputable def cutV(xs:List V)(lo hi:Option Int):List V:=(xs.drop (HT.sIx xs.length 0 lo)).take (HT.sIx xs.length xs.length hi-HT.sIx xs.length 0 lo)
theorem Vp(xs:List V)(lo hi:Option Int):(cutV xs lo hi).length<=xs.length:=by unfold cutV;rw[aL,bI];omega
noncomputable def rSlT(K:aa):V->Option Int->Option Int->Hp->VK->Prop:=λx lo hi H Q=>∃a xs,x=.ref a/\SqT K H a xs /\¬(HT.sIx xs.length 0 lo=0/\HT.sIx xs.length xs.length hi=xs.length)/\∀p,H p=none->Q (.ref p) (upd H p (.tup (cutV xs lo hi)))
theorem Ke:SlR X (rSlT X.K):=by
 intro pins s σ H x v vl vu lo hi sl Q I rx hs pl pu h;obtain⟨a,xs,rfl,hx,hw,q⟩:=h;cases rx;obtain⟨its,r,ht,hz⟩:=I.tuple hx;have hlen:its.toArray.size=xs.length:=by rw[ar];exact r.length.symm
 refine⟨"tuple",_,PyProof.Rows.slot_tuple_getitem.lookup,ht.typeIs,?_⟩;refine HT.getItem_tuple_cut ht hs pl pu (by rw[hlen];exact hw) ?_ (by rw[hlen];exact hz);rw[hlen];refine⟨.ref s.heap.objs.size,_,I.laid (t':=s.toks) (o:=.tup (cutV xs lo hi)) (λb ob q=>ah _ q) (aj _) ?_,rfl,q _ (I.hok.fresh (aj _))⟩;exact⟨ax (Vp xs lo hi) hz,_,(r.drop (HT.sIx xs.length 0 lo)).take (HT.sIx xs.length xs.length hi-HT.sIx xs.length 0 lo),IsTup.new _ _⟩
def Ff(K:aa):R2:=λx y H Q=>∃a b xs ys,x=.ref a/\y=.ref b/\SqT K H a xs/\SqT K H b ys/\xs≠[]/\xs.length+ys.length<=av /\(ys=[]->Q (.ref a) H)/\(ys≠[]->∀p,H p=none->Q (.ref p) (upd H p (.tup (xs++ys))))
theorem Vals.nil_iff{xs:List V}{us:List ac}(r:Vals xs us):us=[]↔xs=[]:=by
 cases r with
|nil=>simp
|cons _ _=>simp
theorem LS:OpR X (binaryOp .Add) (Ff X.K):=by intro pins s σ H x y v u Q I rx ry h;obtain⟨a,b,xs,ys,rfl,rfl,ha,hb,hx,hz,q1,q2⟩:=h;cases rx;cases ry;obtain⟨its,r1,p1,_⟩:=I.tuple ha;obtain⟨its2,r2,p2,_⟩:=I.tuple hb;refine HT.cat_tup p1 p2 (λz=>hx (r1.nil_iff.mp z)) (λz=>⟨.ref a,H,I,rfl,q1 (r2.nil_iff.mp z)⟩) (λz=>?_) (by rw[<-r1.length,<-r2.length];exact hz);refine⟨.ref s.heap.objs.size,_,I.laid (t':=s.toks) (o:=.tup (xs++ys)) (λb ob q=>ah _ q) (aj _) ?_,rfl,q2 (λw=>z (r2.nil_iff.mpr w)) _ (I.hok.fresh (aj _))⟩;exact⟨by rw[aT];exact hz,_,r1.append r2,IsTup.new _ _⟩
end
open PySem PySem.Spec PyProof.Rows
noncomputable def ixN(n:Nat)(i:Int):Option Nat:=if 0<=i then(if i<n then some i.toNat else none)else if -(n:Int)<=i then some (i+n).toNat else none
noncomputable def atI{α:Type}(xs:List α)(i:Int):Option α:=(ixN xs.length i).bind λj=>xs[j]?
theorem Tj{n:Nat}{i:Int}{j:Nat}(h:ixN n i=some j):seqIndex? i n=some j/\j<n/\-(n:Int)<=i/\i<n:=by
 unfold ixN at h;by_cases h0:0<=i
 ·rw[if_pos h0]at h;by_cases h1:i<n
  ·rw[if_pos h1]at h;have e:i.toNat=j:=aH h;exact⟨by rw[seqIndex_of h0 h1,e],by omega,by omega,h1⟩
  ·rw[if_neg h1]at h;cases h
 ·rw[if_neg h0]at h;by_cases h1:-(n:Int)<=i
  ·rw[if_pos h1]at h;have e:(i+n).toNat=j:=aH h;exact⟨by rw[seqIndex_neg (by omega) h1,e],by omega,h1,by omega⟩
  ·rw[if_neg h1]at h;cases h
theorem Qj{α:Type}{xs:List α}{i:Int}{v:α}(h:atI xs i=some v):∃j,seqIndex? i xs.length=some j/\xs[j]?=some v/\j<xs.length/\-(xs.length:Int)<=i/\i<xs.length:=by
 unfold atI at h;cases e:ixN xs.length i with
|none=>rw[e]at h;cases h
|some j=>rw[e]at h;obtain⟨h1,h2,h3,h4⟩:=Tj e;exact⟨j,h1,h,h2,h3,h4⟩
theorem ZL{α:Type}{xs:List α}{j:Nat}{v:α}(h:xs[j]?=some v):atI xs (j:Int)=some v:=by
 have hj:j<xs.length:=(ai.mp h).1;have e:ixN xs.length (j:Int)=some j:=by unfold ixN;rw[if_pos (by omega),if_pos (by omega)];simp
 unfold atI;rw[e];exact h
theorem Lu{α:Type}(xs:List α)(v:α):atI (xs++[v]) (-1)=some v:=by
 have hl:(xs++[v]).length=xs.length+1:=by simp
 have e:ixN (xs++[v]).length (-1)=some xs.length:=by unfold ixN;rw[hl,if_neg (by decide),if_pos (by omega)];congr 1;omega
 unfold atI;rw[e];show(xs++[v])[xs.length]?=some v;simp
def Qk(b:Expr):Prop:=∀o i,subscripted b false o i=operate [o,i] (getItem o i)
def IxR(X:Cx)(r:R2):Prop:=∀(value slice:Expr)(pins:List (ae×Obj))(s:ag)(σ:St)(H:Hp)(x y:V)(v u:ac)(Q:VK),Inv X pins σ H s->RelV x v->RelV y u->r x y H Q ->subscripted slice false v u=operate [v,u] (getItem v u)->aB (model X.prog X.w) X.A (subscriptTail value slice v u) (EP X pins σ Q) X.xe s
def MtR(X:Cx)(id:String)(r:V->List V->Hp->VK->Prop):Prop:=∀(pins:List (ae×Obj))(s:ag)(σ:St)(H:Hp)(x:V)(xs:List V)(v:ac)(us:List ac)(Q:VK),Inv X pins σ H s->RelV x v->Vals xs us->r x xs H Q ->aB (model X.prog X.w) X.A (call (.builtin id) (v::us)) (EP X pins σ Q) X.xe s
section
variable {X:Cx}{a b:Expr}{ta tb:TE}{pos:Pos}
theorem Yk{r:R2}(hr:IxR X r)(ha:PE X a ta)(hb:PE X b tb)(hs:Qk b):PE X (.Subscript a b pos) (tOp r ta tb):=by intro pins s σ H Q I h;exact Subscript_ (binT ha hb I h λv u s2 x y H2 I2 rx ry q=>hr a b pins s2 σ H2 x y v u Q I2 rx ry q (hs _ _))
def rIxL(K:aa):R2:=λx y H Q=>∃p xs i v,x=.ref p/\y=.int i/\SqL K H p xs/\atI xs i=some v/\Q v H
def rIxT(K:aa):R2:=λx y H Q=>∃p xs i v,x=.ref p/\y=.int i/\SqT K H p xs/\atI xs i=some v/\Q v H
def rIxS:R2:=λx y H Q=>∃z i c,x=.str z/\y=.int i/\z.length<=av/\atI z.cps.toList i=some c/\Q (.str ⟨#[c]⟩) H
theorem L4:IxR X (rIxL X.K):=by
 intro value slice pins s σ H x y v u Q I rx ry h hs;obtain⟨p,xs,i,z,rfl,rfl,hq,he,q⟩:=h;cases rx;obtain⟨t,rfl⟩:=ry;obtain⟨its,r,pl,hz⟩:=I.list hq;obtain⟨j,h1,h2,h3,h4,h5⟩:=Qj he;obtain⟨w,ew,rw'⟩:=r.get h2;have hl:=r.length;have hn:=V5;have fin:EP X pins σ Q w s:=⟨z,H,I,rw',q⟩;by_cases h0:0<=i
 ·have hj:i.toNat=j:=by rw[seqIndex_of h0 h5]at h1;exact aH h1
  exact item_listR pl.isList h0 (by omega) (by rw[hj];simpa using ew) fin hs
 ·have hj:(i+(its.toArray.size:Int)).toNat=j:=by rw[seqIndex_neg (by omega) h4]at h1;rw[ar,<-hl];exact aH h1
  exact subscriptTail_builtinR (x:=w) pl.isList.typeIs slot_list_getitem.lookup (wpAny_getItem_list_neg (Q:=λr s'=>r=w/\EP X pins σ Q r s') pl.isList (by omega) (by rw[ar]<;>omega) (by omega) (by rw[hj];simpa using ew) ⟨rfl,fin⟩) hs
theorem Yb:IxR X (rIxT X.K):=by intro value slice pins s σ H x y v u Q I rx ry h hs;obtain⟨p,xs,i,z,rfl,rfl,hq,he,q⟩:=h;cases rx;obtain⟨t,rfl⟩:=ry;obtain⟨its,r,pl,hz⟩:=I.tuple hq;obtain⟨j,h1,h2,h3,h4,h5⟩:=Qj he;obtain⟨w,ew,rw'⟩:=r.get h2;have hl:=r.length;have hn:=V5;have fin:EP X pins σ Q w s:=⟨z,H,I,rw',q⟩;exact subscriptTail_builtinR (x:=w) pl.typeIs slot_tuple_getitem.lookup (getItem_tuple (j:=j) (Q:=λr s'=>r=w/\EP X pins σ Q r s') pl (by omega) (by omega) (by rw[ar,<-hl];exact h1) (by simpa using ew) ⟨rfl,fin⟩) hs
theorem Ng:IxR X rIxS:=by
 intro value slice pins s σ H x y v u Q I rx ry h hs;obtain⟨z,i,c,rfl,rfl,hz,he,q⟩:=h;obtain⟨t,rfl⟩:=rx;obtain⟨t',rfl⟩:=ry;obtain⟨j,h1,h2,h3,h4,h5⟩:=Qj he;have hl:z.cps.toList.length=z.length:=by simp[Str.length]
 rw[hl]at h1 h4 h5;have hn:=V5;exact tail_any (typeIs_str s z t) slot_str_getitem.lookup (getItem_str (c:=c) (by have e1:decide (i < -(2 ^ 63:Int))=false:=decide_eq_false (by omega);have e2:decide (i >= 2 ^ 63)=false:=decide_eq_false (by omega);rw[e1,e2,Bool.or_false]) (by rw[h1];simpa using h2) ⟨.str ⟨#[c]⟩,H,I.tok _,⟨_,rfl⟩,q⟩) hs
theorem RP(its:List ac)(n j:Nat)(u:ac):bP (·.setIfInBounds j u) {cls:=.type "list",data:=.seq its.toArray n}={cls:=.type "list",data:=.seq (its.set j u).toArray n}:=by simp[bP]
theorem Inv.lst{pins:List (ae×Obj)}{σ:St}{H:Hp}{s:ag}{p:ae}{xs:List V}(I:Inv X pins σ H s)(h:H p=some (.lst xs)):∃(its:List ac)(n:Nat),Vals xs its/\s.heap.get? p=some {cls:=.type "list",data:=.seq its.toArray n}/\xs.length<=av:=by obtain⟨z,its,n,r,e⟩:=I.hok p _ h;exact⟨its,n,r,e,z⟩
theorem Inv.lstUpd{pins:List (ae×Obj)}{σ:St}{H:Hp}{s:ag}{p:ae}{xs ys:List V}{its its':List ac}{n n':Nat}{f:Obj->Obj}(I:Inv X pins σ H s)(h:H p=some (.lst xs))(ho:s.heap.get? p=some {cls:=.type "list",data:=.seq its.toArray n})(hf:f {cls:=.type "list",data:=.seq its.toArray n}={cls:=.type "list",data:=.seq its'.toArray n'})(r:Vals ys its')(hz:ys.length<=av)(t:Nat):Inv X pins σ (upd H p (.lst ys)) {s with heap:=s.heap.update p f,toks:=t}:=by
 have e:(s.heap.update p f).get? p=some {cls:=.type "list",data:=.seq its'.toArray n'}:=by rw[bz f ho (by rw[hf]<;>rfl),hf]
 refine I.write (x:=p) (e:=p) (by rw[h];trivial) (.inl rfl) (λb u hb q=>(aV _ _ (bL hb)).trans q) ⟨_,e⟩ ?_;exact⟨hz,its',n',r,e⟩
noncomputable def Fc:V->V->V->Hp->(Hp->Prop)->Prop:=λo i v H Q=>∃p xs k j,o=.ref p/\i=.int k/\H p=some (.lst xs)/\ixN xs.length k=some j/\Q (upd H p (.lst (xs.set j v)))
theorem set_list:PSet X Fc:=by
 intro pins s σ H o i v ov iv u Q I ro ri rv h;obtain⟨p,xs,k,j,rfl,rfl,hp,hj,q⟩:=h;cases ro;obtain⟨t,rfl⟩:=ri;obtain⟨its,n,r,ho,hz⟩:=I.lst hp;obtain⟨h1,h2,h3,h4⟩:=Tj hj;have hl:=r.length;have hn:=V5;have I':Inv X pins σ (upd H p (.lst (xs.set j v))) {s with heap:=s.heap.update p (bP (·.setIfInBounds j u))}:=I.lstUpd hp ho (RP its n j u) (r.set rv j) (by rw[cy];exact hz) s.toks;by_cases h0:0<=k
 ·have hk:k.toNat=j:=by rw[seqIndex_of h0 h4]at h1;exact aH h1
  exact PySem.W.ki_setAt ho h0 (by omega) (by rw[ar,<-hl];exact h4) (by rw[hk];exact⟨_,I',q⟩)
 ·have hk:(k+(its.toArray.size:Int)).toNat=j:=by rw[seqIndex_neg (by omega) h3]at h1;rw[ar,<-hl];exact aH h1
  exact PySem.W.ki_setBack ho (by omega) (by rw[ar,<-hl];exact h3) (by omega) (by rw[hk];exact⟨_,I',q⟩)
theorem PL(lo hi:Option Int)(n:Nat):(sliceBounds lo hi none n).1=((HT.sIx n 0 lo:Nat):Int)/\(sliceBounds lo hi none n).2.1=((HT.sIx n n hi:Nat):Int)/\(sliceBounds lo hi none n).2.2=1:=by
 refine⟨?_,?_,rfl⟩
 ·cases lo with
 |none=>simp[sliceBounds,HT.sIx]
 |some i=>
   simp only[sliceBounds,HT.sIx,Option.getD_none,show(1:Int)>0 by decide,if_true];by_cases h:i<0
   ·simp only[h,if_true]<;>omega
   ·simp only[h,if_false]<;>omega
 ·cases hi with
 |none=>simp[sliceBounds,HT.sIx]
 |some i=>
   simp only[sliceBounds,HT.sIx,Option.getD_none,show(1:Int)>0 by decide,if_true];by_cases h:i<0
   ·simp only[h,if_true]<;>omega
   ·simp only[h,if_false]<;>omega
theorem NH(its:List ac)(lo hi:Option Int):slicePick its.toArray lo hi none=((its.drop (HT.sIx its.length 0 lo)).take (HT.sIx its.length its.length hi-HT.sIx its.length 0 lo)).toArray:=by obtain⟨h1,h2,h3⟩:=PL lo hi its.toArray.size;unfold slicePick;rw[h1,h2,h3];simp only[sliceRange_one,pick_run,ar]<;>rfl
noncomputable def rSlL(K:aa):V->Option Int->Option Int->Hp->VK->Prop:=λx lo hi H Q=>∃a xs,x=.ref a/\SqL K H a xs/\∀p,H p=none->Q (.ref p) (upd H p (.lst (cutV xs lo hi)))
theorem Y5:SlR X (rSlL X.K):=by intro pins s σ H x v vl vu lo hi sl Q I rx hs pl pu h;obtain⟨a,xs,rfl,hx,q⟩:=h;cases rx;obtain⟨its,r,ht,hz⟩:=I.list hx;have hlen:=r.length;refine⟨"list",_,slot_list_getitem.lookup,ht.isList.typeIs,?_⟩;refine wpAny_getItem_list_slice ht.isList hs pl pu .none (by simp) ?_ (by rw[ar]<;>omega);rw[NH,<-hlen];refine⟨.ref s.heap.objs.size,_,I.laid (t':=s.toks) (o:=.lst (cutV xs lo hi)) (λb ob q=>ah _ q) (aj _) ?_,rfl,q _ (I.hok.fresh (aj _))⟩;exact⟨ax (Vp xs lo hi) hz,_,0,(r.drop (HT.sIx xs.length 0 lo)).take (HT.sIx xs.length xs.length hi-HT.sIx xs.length 0 lo),aU _ rfl⟩
noncomputable def VR:V->Bool
|.non=>true
|.bl _=>true
|.int _=>true
|.str _=>true
|_=>false
noncomputable def eqV:V->V->Bool
|.non,.non=>true
|.bl a,.bl b=>a==b
|.bl a,.int b=>(if a then 1 else 0)==b
|.int a,.bl b=>a==(if b then 1 else 0)
|.int a,.int b=>a==b
|.str a,.str b=>a==b
|_,_=>false
theorem EF{A:ba}{s:ag}{y x:V}{u v:ac}(ry:RelV y u)(rx:RelV x v)(fy:VR y=true)(fx:VR x=true):SeqAt.EqAt A s u v (eqV y x):=by
 cases y with
|non=>
  cases ry;cases x with
 |non=>cases rx;exact SeqAt.EqAt.same _
 |bl b=>cases rx;exact SeqAt.EqAt.none_bool b
 |int b=>obtain⟨t,rfl⟩:=rx;exact SeqAt.EqAt.none_int b t
 |str b=>obtain⟨t,rfl⟩:=rx;exact SeqAt.EqAt.none_str b t
 |_=>exact absurd (show false=true from fx) az
|bl a=>
  cases ry;cases x with
 |non=>cases rx;exact SeqAt.EqAt.bool_none a
 |bl b=>cases rx;exact SeqAt.EqAt.bool_bool a b
 |int b=>obtain⟨t,rfl⟩:=rx;exact SeqAt.EqAt.bool_int a b t
 |str b=>obtain⟨t,rfl⟩:=rx;exact SeqAt.EqAt.bool_str a b t
 |_=>exact absurd (show false=true from fx) az
|int a=>
  obtain⟨t',rfl⟩:=ry;cases x with
 |non=>cases rx;exact SeqAt.EqAt.int_none a t'
 |bl b=>cases rx;exact SeqAt.EqAt.int_bool a t' b
 |int b=>obtain⟨t,rfl⟩:=rx;exact SeqAt.EqAt.int_int a t' b t
 |str b=>obtain⟨t,rfl⟩:=rx;exact SeqAt.EqAt.int_str a t' b t
 |_=>exact absurd (show false=true from fx) az
|str a=>
  obtain⟨t',rfl⟩:=ry;cases x with
 |non=>cases rx;exact SeqAt.EqAt.str_none a t'
 |bl b=>cases rx;exact SeqAt.EqAt.str_bool a t' b
 |int b=>obtain⟨t,rfl⟩:=rx;exact SeqAt.EqAt.str_int a t' b t
 |str b=>obtain⟨t,rfl⟩:=rx;exact SeqAt.EqAt.str_str a t' b t
 |_=>exact absurd (show false=true from fx) az
|_=>exact absurd (show false=true from fy) az
noncomputable def eqU(x:V)(u:ac):Bool:=match u with
|.none=>eqV .non x
|.bool b=>eqV (.bl b) x
|.int i _=>eqV (.int i) x
|.str z _=>eqV (.str z) x
|_=>false
theorem K8{x y:V}{u:ac}(r:RelV y u)(f:VR y=true):eqU x u=eqV y x:=by
 cases y with
|non=>cases r;rfl
|bl b=>cases r;rfl
|int i=>obtain⟨t,rfl⟩:=r;rfl
|str z=>obtain⟨t,rfl⟩:=r;rfl
|_=>exact absurd (show false=true from f) az
theorem Gk{x:V}:∀{xs:List V}{us:List ac},Vals xs us->xs.all VR=true->us.any (eqU x)=xs.any λy=>eqV y x
|_,_,.nil,_=>rfl
|y::xs,u::us,.cons r t,f=>by rw[List.all_cons,br]at f;rw[List.any_cons,List.any_cons,K8 r f.1,Gk t f.2]
theorem Vk{A:ba}{s:ag}{x:V}{v:ac}(rx:RelV x v)(fx:VR x=true):∀{xs:List V}{us:List ac},Vals xs us->xs.all VR=true->∀u∈us,SeqAt.EqAt A s u v (eqU x u)
|_,_,.nil,_=>λu hu=>by cases hu
|y::xs,u::us,.cons r t,f=>λu' hu=>by
  rw[List.all_cons,br]at f;rcases aq.mp hu with rfl|hu
  ·rw[K8 r f.1];exact EF r rx f.1 fx
  ·exact Vk rx fx t f.2 u' hu
noncomputable def inV(x:V)(xs:List V):Bool:=xs.any λy=>eqV y x
def rIn(K:aa)(neg:Bool):R2:=λx y H Q=>∃p xs,y=.ref p/\(SqL K H p xs\/SqT K H p xs)/\VR x=true/\xs.all VR=true/\Q (.bl (if neg then !inV x xs else inV x xs)) H
theorem Wm:OpR X (compareOp .In) (rIn X.K false):=by
 intro pins s σ H x y v u Q I rx ry h;obtain⟨p,xs,rfl,hq,fx,fs,q⟩:=h;cases ry;rcases hq with hq|hq
 ·obtain⟨its,r,pl,hz⟩:=I.list hq;refine SeqAt.in_listAt (eqU x) pl.isList (λw hw=>Vk rx fx r fs w (by simpa using hw)) ⟨.bl _,H,I,rfl,?_⟩;rw[show its.toArray.any (eqU x)=its.any (eqU x) by simp,Gk r fs];exact q
 ·obtain⟨its,r,pl,hz⟩:=I.tuple hq;refine SeqAt.in_tupleAt (eqU x) pl (λw hw=>Vk rx fx r fs w (by simpa using hw)) ⟨.bl _,H,I,rfl,?_⟩;rw[show its.toArray.any (eqU x)=its.any (eqU x) by simp,Gk r fs];exact q
theorem P3:OpR X (compareOp .NotIn) (rIn X.K true):=by
 intro pins s σ H x y v u Q I rx ry h;obtain⟨p,xs,rfl,hq,fx,fs,q⟩:=h;cases ry;rcases hq with hq|hq
 ·obtain⟨its,r,pl,hz⟩:=I.list hq;refine SeqAt.notIn_listAt (eqU x) pl.isList (λw hw=>Vk rx fx r fs w (by simpa using hw)) ⟨.bl _,H,I,rfl,?_⟩;rw[show its.toArray.any (eqU x)=its.any (eqU x) by simp,Gk r fs];exact q
 ·obtain⟨its,r,pl,hz⟩:=I.tuple hq;refine SeqAt.notIn_tupleAt (eqU x) pl (λw hw=>Vk rx fx r fs w (by simpa using hw)) ⟨.bl _,H,I,rfl,?_⟩;rw[show its.toArray.any (eqU x)=its.any (eqU x) by simp,Gk r fs];exact q
theorem JX:Xo X (.builtin "len") (λxs H Q=>∃p ys,xs=[.ref p]/\(SqL X.K H p ys\/SqT X.K H p ys)/\Q (.int ys.length) H):=by
 intro pins s σ H xs us Q I r h;obtain⟨p,ys,rfl,hq,q⟩:=h;obtain⟨u,rfl,rx⟩:=vals1 r;cases rx;have hn:=V5;rcases hq with hq|hq
 ·obtain⟨its,r',pl,hz⟩:=I.list hq;have hlen:=r'.length;exact Calls.call_len_list pl.isList (by simp only[ar]<;>omega) ⟨.int ys.length,H,I.tok _,⟨s.toks+1,by rw[ar,hlen]⟩,q⟩
 ·obtain⟨its,r',pl,hz⟩:=I.tuple hq;have hlen:=r'.length;exact len_tuple pl (by simp only[ar]<;>omega) ⟨.int ys.length,H,I.tok _,⟨s.toks+1,by rw[ar,hlen]⟩,q⟩
theorem JW:Xo X (.type "list") (λxs H Q=>∃p ys,xs=[.ref p]/\(SqL X.K H p ys\/SqT X.K H p ys)/\∀l,H l=none->Q (.ref l) (upd H l (.lst ys))):=by
 intro pins s σ H xs us Q I r h;obtain⟨p,ys,rfl,hq,q⟩:=h;obtain⟨u,rfl,rx⟩:=vals1 r;cases rx;have fin:∀(its:List ac),Vals ys its->ys.length<=av->∀(h':aX)(c':Nat),(∀b o',s.heap.get? b=some o'->h'.get? b=some o') ->h'.get? s.heap.objs.size=some {cls:=.type "list",dict:=none,data:=.seq its.toArray c',slots:=#[]}->EP X pins σ Q (.ref s.heap.objs.size) {s with heap:=h'}:=λits r' hz h' c' kp e=>⟨.ref s.heap.objs.size,_,I.laid (t':=s.toks) kp (aj _) (show ZV X.prog X.w _ h' _ (.lst ys)from⟨hz,its,c',r',e⟩),rfl,q _ (I.hok.fresh (aj _))⟩;rcases hq with hq|hq
 ·obtain⟨its,r',pl,hz⟩:=I.list hq;have hlen:=r'.length;obtain⟨o,ho,hc,n,hd⟩:=pl.isList;exact call_list_seq p (.inl rfl) ho hc hd (λh' c' kp e=>fin its r' hz h' c' kp e) (by simp only[ar]<;>omega)
 ·obtain⟨its,r',pl,hz⟩:=I.tuple hq;have hlen:=r'.length;obtain⟨o,ho,hc,n,hd⟩:=pl;exact call_list_seq p (.inr rfl) ho hc hd (λh' c' kp e=>fin its r' hz h' c' kp e) (by simp only[ar]<;>omega)
theorem Xk:Xo X (.type "tuple") (λxs H Q=>∃p ys,xs=[.ref p]/\((SqL X.K H p ys/\∀l,H l=none->Q (.ref l) (upd H l (.tup ys)))\/(SqT X.K H p ys/\Q (.ref p) H))):=by
 intro pins s σ H xs us Q I r h;obtain⟨p,ys,rfl,h⟩:=h;obtain⟨u,rfl,rx⟩:=vals1 r;cases rx;rcases h with⟨hq,q⟩|⟨hq,q⟩
 ·obtain⟨its,r',pl,hz⟩:=I.list hq;have hlen:=r'.length;refine call_tuple_list pl.isList (λh' kp=>?_) (by simp only[ar]<;>omega);have I1:Inv X pins σ H {s with heap:=h'}:=I.kept (t':=s.toks) kp;have I2:Inv X pins σ (upd H h'.objs.size (.tup ys)) {s with heap:=h'.push {cls:=.type "tuple",data:=.seq its.toArray}}:=I1.laid (t':=s.toks) (λb o e=>ah _ e) (aj _) (show ZV X.prog X.w _ _ _ (.tup ys)from⟨hz,its,r',IsTup.new _ _⟩);exact⟨.ref h'.objs.size,_,I2,rfl,q _ (I1.hok.fresh (aj _))⟩
 ·obtain⟨its,r',pl,hz⟩:=I.tuple hq;exact call_tuple_same pl ⟨.ref p,H,I,rfl,q⟩
def tyV(K:aa)(T:String)(x:V)(H:Hp):Prop:=match x with
|.str _=>T="str"
|.int _=>T="int"
|.ref p=>(T="list"/\∃xs,SqL K H p xs)\/(T="tuple"/\∃o,K.lookup p=some o/\o.cls=.type "tuple"/\o.dict=none) \/(T="dict"/\((∃kvs,H p=some (.dK kvs))\/∃kvs,H p=some (.dT kvs)))\/(T="set"/\∃S n,H p=some (.set S n))
|_=>False
theorem DI{pins:List (ae×Obj)}{σ:St}{H:Hp}{s:ag}{T:String}{x:V}{v:ac}(I:Inv X pins σ H s)(r:RelV x v)(ty:tyV X.K T x H):s.TypeIs v T/\∀a,v=.ref a->∃ob,s.heap.get? a=some ob/\ob.dict=none:=by
 cases x with
|str z=>obtain⟨t,rfl⟩:=r;cases(show T="str" from ty);exact⟨typeIs_str s z t,λ_ e=>nomatch e⟩
|int i=>obtain⟨t,rfl⟩:=r;cases(show T="int" from ty);exact⟨typeIs_int s i t,λ_ e=>nomatch e⟩
|ref p=>
  cases r;rcases ty with⟨rfl,xs,hq⟩|⟨rfl,o,hk,hc,hd⟩|⟨rfl,hk⟩|⟨rfl,S,n,hk⟩
  ·obtain⟨its,_,pl,_⟩:=I.list hq;refine⟨pl.isList.typeIs,λa e=>?_⟩;cases e;obtain⟨o,n,e,c,hd,_⟩:=pl;exact⟨o,e,hd⟩
  ·refine⟨⟨o,I.kIn p o hk,hc⟩,λa e=>?_⟩;cases e;exact⟨o,I.kIn _ o hk,hd⟩
  ·have z:∃o,s.heap.get? p=some o/\o.ExactDict:=by
    rcases hk with⟨kvs,hk⟩|⟨kvs,hk⟩
    ·obtain⟨_,_,_,_,o,_,_,e,ex,_⟩:=I.hok p _ hk;exact⟨o,e,ex⟩
    ·obtain⟨_,_,_,_,o,_,_,e,ex,_⟩:=I.hok p _ hk;exact⟨o,e,ex⟩
   obtain⟨o,e,ex⟩:=z;refine⟨⟨o,e,ex.1⟩,λa e2=>?_⟩;cases e2;exact⟨o,e,ex.2.1⟩
  ·obtain⟨o,_,_,_,e,ex,_⟩:=I.hok p _ hk;refine⟨⟨o,e,ex.1⟩,λa e2=>?_⟩;cases e2;exact⟨o,e,ex.2.1⟩
|_=>exact bU ty
def tBM(K:aa)(T:String)(r:V->List V->Hp->VK->Prop)(to:TE)(t:TA):TE:=λσ H Q=>to σ H λx H1=>tyV K T x H1/\t σ H1 λxs H2=>r x xs H2 Q
variable {o e:Expr}{es:List Expr}{to:TE}{t:TA}{name:Str}{apos cpos:Pos}{T id:String}{r:V->List V->Hp->VK->Prop}
theorem N7(pa:PlainAttrs T)(slot:Slot T name id)(hty:typeOf (.builtin id)=pure (.type "method_descriptor"))(hm:MtR X id r)(ho:PE X o to)(ha:PA X (e::es) t)(hbase:attributeBase o name X.env (eval o X.env)=eval o X.env:=by rfl)(hfew:((backTo cpos (aO (e::es) X.env)).all (λx=>!x.1)&&(backToKw cpos (dJ [] X.env)).all (λx=>x.1.isSome)&&decide ((e::es).length+([]:List Keyword).length+(if([]:List Keyword).isEmpty then 0 else 1)<30))=true:=by rfl)(hline:(apos.endLine==cpos.line)=true:=by rfl)(hs:aO (e::es) X.env=(false,eval e X.env)::aO es X.env:=by rfl)(hplain:(backTo cpos (aO es X.env)).any (·.1)=false:=by rfl):PE X (.Call (.Attribute o name apos) (e::es) [] cpos) (tBM X.K T r to t):=by
 intro pins s σ H Q I h;refine wpAny_Call_method_late hbase hfew hline rfl (thn (ho pins s σ H _ I h) λv s1 h973=>?_);obtain⟨x,H1,I1,r1,ty,q1⟩:=h973;obtain⟨h1,h2⟩:=DI I1 r1 ty;refine⟨T,id,pa,slot,hty,h1,h2,?_⟩;have hA:=ha cpos pins s1 σ H1 _ I1 q1;rw[hs]at hA ⊢;refine Calls.callWith_builtin (by show(false||(backTo cpos (aO es X.env)).any (·.1))=false;rw[hplain]<;>rfl) (Calls.evalArgs_plain ?_)
 exact thn hA λus s2 h974=>by obtain⟨vs,H2,I2,r2,q2⟩:=h974;exact hm pins s2 σ H2 x vs v us Q I2 r1 r2 q2
end
open PySem PySem.Spec PyProof.Rows
def MtM(X:Cx)(id:String)(r:V->List V->Hp->VK->Prop):Prop:=∀(pins:List (ae×Obj))(s:ag)(σ:St)(H:Hp)(x:V)(xs:List V)(v:ac)(us:List ac)(Q:VK),Inv X pins σ H s->RelV x v->Vals xs us->r x xs H Q ->aB (model X.prog X.w) X.A (call (.builtin id) (v::us)) (EP X pins σ Q) X.xe s
theorem Vals.one:∀{x:V}{us:List ac},Vals [x] us->∃u,us=[u]/\RelV x u
|_,_,.cons r .nil=>⟨_,rfl,r⟩
theorem Vals.zero:∀{us:List ac},Vals [] us->us=[]
|_,.nil=>rfl
section
variable {X:Cx}{pins:List (ae×Obj)}{σ:St}{H:Hp}{s:ag}{l b:ae}{xs ys zs:List V}
theorem Inv.lset{its its':List ac}{n:Nat}{f:Array ac->Array ac}{t':Nat}(I:Inv X pins σ H s)(hH:H l=some (.lst xs))(e:s.heap.get? l=some {cls:=.type "list",data:=.seq its.toArray n})(hf:f its.toArray=its'.toArray)(hv:Vals ys its')(hz:ys.length<=av):Inv X pins σ (upd H l (.lst ys)) {s with heap:=s.heap.update l (bP f),toks:=t'}:=by have q:=PySem.IsL.update e f;rw[hf]at q;refine I.write (x:=l) (e:=l) (by rw[hH];exact trivial) (.inl rfl) (λb' u hb hu=>(aV s.heap (bP f) (bL hb)).trans hu) ⟨_,q⟩ ?_;exact⟨hz,its',_,hv,q⟩
theorem Inv.lnew{its:List ac}{t':Nat}(I:Inv X pins σ H s)(hv:Vals ys its)(hz:ys.length<=av):Inv X pins σ (upd H s.heap.objs.size (.lst ys)) {s with heap:=s.heap.push {cls:=.type "list",data:=.seq its.toArray},toks:=t'}:=I.laid (λ_ _ q=>ah _ q) (aj _) ⟨hz,its,0,hv,aU _ rfl⟩
theorem Inv.fresh(I:Inv X pins σ H s):H s.heap.objs.size=none:=I.hok.fresh (aj _)
theorem Inv.lstM(I:Inv X pins σ H s)(hH:H l=some (.lst xs)):xs.length<=av/\∃(its:List ac)(n:Nat),Vals xs its/\xs.length=its.length/\s.heap.get? l=some {cls:=.type "list",data:=.seq its.toArray n}:=by obtain⟨z,its,n,r,e⟩:=I.hok l _ hH;exact⟨z,its,n,r,r.length,e⟩
end
section
variable {X:Cx}
noncomputable def LL:V->List V->Hp->VK->Prop:=λx vs H Q=>∃l xs y,x=.ref l/\vs=[y]/\H l=some (.lst xs)/\xs.length<av/\Q .non (upd H l (.lst (xs++[y])))
theorem GA:MtM X "list.append" LL:=by intro pins s σ H x vs v us Q I rx rv h;obtain⟨l,xs,y,rfl,rfl,hH,hz,q⟩:=h;cases rx;obtain⟨u,rfl,ru⟩:=rv.one;obtain⟨z,its,n,r,hl,e⟩:=I.lstM hH;refine call_meets cC ⟨_,e,rfl⟩ F.entry_list_append (F.args_list_append_2 _ _) (PySem.list_append l its.toArray n u (by rw[ar];omega)) ⟨e,?_⟩;refine⟨.non,_,I.lset (its':=its++[u]) hH e (by simp) (r.append (.cons ru .nil)) ?_,rfl,q⟩;rw[aT,List.length_singleton];omega
def rCat:R2:=λx y H Q=>∃l b xs zs,x=.ref l/\y=.ref b/\H l=some (.lst xs)/\H b=some (.lst zs)/\xs.length+zs.length<=av/\∀p,H p=none->Q (.ref p) (upd H p (.lst (xs++zs)))
theorem Vi:OpR X (binaryOp .Add) rCat:=by
 intro pins s σ H x y v u Q I rx ry h;obtain⟨l,b,xs,zs,rfl,rfl,hH,hB,hz,q⟩:=h;cases rx;cases ry;obtain⟨z,its,n,r,hl,e⟩:=I.lstM hH;obtain⟨z2,its2,n2,r2,hl2,e2⟩:=I.lstM hB;refine PySem.P.add_list e e2 ?_ (by rw[ar,ar];omega);have ea:its.toArray++its2.toArray=(its++its2).toArray:=by simp
 rw[ea];exact⟨.ref _,_,I.lnew (t':=s.toks) (r.append r2) (by rw[aT];omega),rfl,q _ I.fresh⟩
end
end L2
namespace Att
open PySem PySem.W PySem.Calls PyProof.Rows
theorem G7{P:Params}{h:aX}:∀(ns:List Int)(vs:List ac),WellAll P h vs (ns.map WData.int)->IntsAre vs ns:=by
 intro ns;induction ns with
|nil=>intro vs w;rw[List.map_nil]at w;cases w;exact .nil
|cons n ns ih=>
  intro vs w;rw[aQ]at w;cases w with
 |cons a b=>cases a;exact .cons _ _ (ih _ b)
theorem Wc{l:OpenLaw}{n:Nat}(hn:l.most=some n){P:Params}{h:aX}{args:List WData}{vals:List ac}(hpre:l.row.toRowW.claim.pre args=true)(hwl:WellAll P h vals args):∃a vs ns,vals=[ay a]/\args=[WData.list (ns.map WData.int)]/\h.get? a=some {cls:=.type "list",data:=.seq vs.toArray}/\IntsAre vs ns/\ns.length<=n:=by
 have hsh:WShape.hasAll [] args [.list .int]=true:=(pre_splitW hpre).1;have hc:l.pre.holds [] {args:=args}=true:=(pre_splitW hpre).2;obtain⟨d,r,rfl,h1,h2⟩:=hasAllW_cons hsh;obtain rfl:=hasAllW_nil h2;obtain⟨xs,rfl,h3⟩:=hasW_list h1;obtain⟨ns,rfl⟩:=items_int h3;have hlen:ns.length<=n:=by
  unfold OpenLaw.pre at hc;have h4:(WTm.not (.lt (.lit (.int (n:Int))) (.len (.arg 0)))).holds [] {args:=[.list (ns.map .int)]}=true:=by have h4:=(holds_andW hc).1;rw[hn]at h4;exact h4
  have h5:=condW_of h4 (w_not (w_lt w_lit (w_len_list (w_arg rfl))));rw[bA]at h5;refine Nat.le_of_not_lt λq=>?_;have q':(n:Int)<((ns.length:Nat):Int):=by omega
  first
  |(rw[decide_eq_true q']at h5;exact absurd h5 (by decide))
  |(simp at h5;omega)
 cases hwl with
|cons w1 w2=>
  cases w2;cases w1 with
 |list ho hall=>exact⟨_,_,ns,rfl,rfl,ho,G7 ns _ hall,hlen⟩
theorem Wk(l:OpenLaw)(args:List WData):l.row.toRowW.claim.post args (.bool true) args=true:=postW_of (r:=l.row.toRowW) (X:=(true==true)) (show WShape.has [] (.bool true) .bool=true by first|rfl|decide|simp[WShape.has,WShape.arms,WShape.armsAll]) (show(WTm.eq .res (.lit (.bool true))).value [] {args:=args,res:=some (.bool true),after:=args}=some (.bool (true==true))from w_eq_bool (w_res rfl) w_lit) rfl
theorem attach_call{l:OpenLaw}{n:Nat}{q:aA}{loose:List Str}{XP:(Str->Option ac)->aX->Prop}{YP:aI->aX->Prop}{d:DefRec}(hn:l.most=some n)(hdf:d.params.defaults=[])(call:∀(w:aI)(s₀ s₁:ag)(mg mb:Str->Option ac)(fa:ae)(o:Obj)(pm cd doc:ac)(a:ae)(vs:List ac)(ns:List Int),Ground q loose [] XP w s₀ mg mb s₁.heap->YP w s₁.heap ->s₁.heap.get? fa=some o->o.data=.func (docDef d.name d.params d.body d.scope pm cd doc)->s₁.heap.CodeRec cd d.name->mg d.name=some (.ref fa) ->s₁.heap.get? a=some {cls:=.type "list",data:=.seq vs.toArray}->IntsAre vs ns->ns.length<=n->s₁.gens=#[] ->codeAny (model l.prog w) callerA (.call (.ref fa) ⟨[.ref a],[]⟩) (λr s'=>r=.ok (.ret (.bool true))/\OldK s₁.heap s'.heap/\s'.os=s₁.os/\AllBare s'.gens) s₁):WalkO q loose XP YP l.row.toRowW d [] (λf vs=>PySem.call f vs):=by intro w s₀ s₁ mg mb G Y fa o pm cd doc dV kV ho hd hcd hD hmg hg args vals as hpre hlay hrd hwl hlo;obtain rfl:dV=.none:=Dflts.none hD hdf;obtain rfl:kV=.none:=Dflts.noKw hD;obtain⟨a,vs,ns,rfl,rfl,hobj,hints,hlen⟩:=Wc hn hpre hwl;refine enter_call (codeAny_mono (call w s₀ s₁ mg mb fa o pm cd doc a vs ns G Y ho (fd_plain hd) hcd hmg hobj hints hlen hg) λr s' hq=>?_);obtain⟨rfl,h2,h3,h4⟩:=hq;exact⟨.inl ⟨.bool true,.bool true,[],rfl,λ_=>rfl,.bool true,Wk l _,λ_=>⟨List.Pairwise.nil,λ_ hm=>(nomatch hm)⟩⟩,h2,h3,h4⟩
end Att
namespace L2
open PySem PySem.Spec PyProof.Rows
theorem NU:∀{vs:List ac}{ns:List Int},IntsAre vs ns->Vals (ns.map V.int) vs
|_,_,.nil=>.nil
|_,_,.cons n t h=>.cons ⟨t,rfl⟩ (NU h)
def Only(H:Hp):Prop:=∀b,H b=none\/∃o xs,H b=some (.frz o (.lst xs))
theorem KR{P:aA}{w:aI}{K:aa}{mg mb:Str->Option ac}{CX:CXT}{k:Nat}{fa a:ae}{fd:FuncData}{x:Str}{sp:Sp}{s₁:ag}{vs:List ac}{ns:List Int}(KX:K.In s₁.heap)(hns:s₁.heap.Ns bf mg)(hb:s₁.heap.Ns builtinsNs mb)(hbb:∀x:Str,x≠"__name__"->mb x=bootBuiltins x)(hlim:s₁.heap.NoLimit)(hg:s₁.gens=#[])(ha:s₁.heap.get? a=some {cls:=.type "list",data:=.seq vs.toArray})(hi:IntsAre vs ns)(hl:ns.length<=av)(hr:Room k callerA)(F:∀base:aX,K.In base->base.Ns bf mg->FnOk P w K mg base CX k fa fd [x] sp)(hbind:∀(s:ag)(u:ac),BindsTo s fd ⟨[u],[]⟩ [(x,u)])(hsp:∀H:Hp,Only H->SqL K H a (ns.map V.int)->sp [.ref a] H (λv _=>v=.bl true) λ_ _ _=>False)(hCX:∀H e s',CX [] H s₁ (λ_ _ _=>False) e s'->False):codeAny (model P w) callerA (.call (.ref fa) ⟨[.ref a],[]⟩) (λr s'=>r=.ok (.ret (.bool true))/\OldK s₁.heap s'.heap/\s'.os=s₁.os/\AllBare s'.gens) s₁:=by
 have rv:=NU hi;have lenV:=hi.length;have core:∀H:Hp,Only H->SqL K H a (ns.map V.int)->HOk P w H s₁.heap->(∀b,H b≠none->b=a)->(H a≠none->K.lookup a=none) ->codeAny (model P w) callerA (.call (.ref fa) ⟨[.ref a],[]⟩) (λr s'=>r=.ok (.ret (.bool true))/\OldK s₁.heap s'.heap/\s'.os=s₁.os/\AllBare s'.gens) s₁:=by
  intro H hO hS hok hA hK;have base_of:∀{b:ae}{o:Obj},s₁.heap.get? b=some o->H b=none->(hidT s₁.heap H).get? b=some o:=λe n=>KZ e n;have noA:∀{b:ae}{o:Obj}{es:Array DictEntry}{ep:Nat},s₁.heap.get? b=some o->o.data=.dict es ep->H b=none:=λ{b o es ep}e d=>by
   cases q:H b with
  |none=>rfl
  |some u=>have e':b=a:=hA b (by rw[q];simp);subst e';rw[ha]at e;cases e;have d':Data.seq vs.toArray _=Data.dict es ep:=d;cases d'
  have nsK:∀{b:ae}{m:Str->Option ac},s₁.heap.Ns b m->(hidT s₁.heap H).Ns b m:=λ{b m}⟨o,es,ep,e,d,r⟩=>⟨o,es,ep,base_of e (noA e d),d,r⟩;have hKb:K.In (hidT s₁.heap H):=λb o e=>base_of (KX b o e) (by
   cases q:H b with
  |none=>rfl
  |some u=>have e':b=a:=hA b (by rw[q];simp);subst e';rw[hK (by rw[q];simp)]at e;cases e)
  have hM:Mod K mg (hidT s₁.heap H):=⟨hKb,nsK hns,⟨mb,nsK hb,hbb⟩,let ⟨mc,h1,h2⟩:=hlim;⟨mc,nsK h1,h2⟩⟩;have e0:Env0 P w K mg (hidT s₁.heap H) callerA [] s₁ H:=⟨rfl,hM,λb o e=>LV e,Nat.le_of_eq (Wv _ _),trivial,λb hb=>absurd (show b∈([]:List ae)from hb) (by simp),hok,.of_eq hg⟩;refine codeAny_mono ((F _ hKb (nsK hns)).run callerA [] s₁ H ⟨[.ref a],[]⟩ [.ref a] [.ref a] _ _ hr e0 (hbind s₁ (.ref a)) (.cons rfl .nil) (hsp H hO hS)) λr s' h=>?_;cases r with
 |error e=>exact(hCX H e s' h).elim
 |ok fl=>
   cases fl with
  |next=>exact bU h
  |brk=>exact bU h
  |cont=>exact bU h
  |ret u=>
    obtain⟨v,H',os,bare,un,hok',r',q⟩:=h;have q':v=.bl true:=q;subst q';obtain rfl:u=Value.bool true:=r';refine⟨rfl,OldK.of_keep λb o e=>?_,os,bare⟩;cases q:H b with
   |none=>exact un.keep b o e q (by intro z;exact absurd (show b∈([]:List ae)from z) (by simp)) (by simp)
   |some u=>
     rcases hO b with z|⟨ob,xs,z⟩
     ·rw[q]at z;cases z
     ·have z2:=un.frzs b ob _ z;obtain⟨e1,_⟩:=hok b _ z;obtain⟨e2,_⟩:=hok' b _ z2;rw[e]at e1;cases e1;exact e2
 cases hk:K.lookup a with
|some o=>have e:=KX a o hk;rw[ha]at e;cases e;refine core (λ_=>none) (λ_=>.inl rfl) (.inr ⟨_,vs.toArray,_,hk,rfl,rfl,rfl,by rw[ar,lenV];exact hl,by simpa using rv⟩) (λb u z=>by have z':(none:Option HO)=some u:=z;cases z') (λb z=>absurd rfl z) λz=>absurd rfl z
|none=>
  refine core (λb=>if b=a then some (.frz {cls:=.type "list",data:=.seq vs.toArray} (.lst (ns.map V.int)))else none) (λb=>?_) (.inl (.inr ⟨{cls:=.type "list",data:=.seq vs.toArray},if_pos rfl⟩)) (λb u z=>?_) (λb z=>?_) λ_=>hk
  ·by_cases hb:b=a
   ·exact .inr ⟨_,_,if_pos hb⟩
   ·exact .inl (if_neg hb)
  ·by_cases hb:b=a
   ·have z':=(if_pos hb).symm.trans z;cases z';subst hb;exact⟨ha,by rw[bA];exact hl,vs,_,rv,ha⟩
   ·have z':=(if_neg hb).symm.trans z;cases z'
  ·by_cases hb:b=a
   ·exact hb
   ·exact absurd (if_neg hb) z
open PySem PySem.Spec PyProof.Rows
noncomputable abbrev KOf{K:aa}{h:aX}(_:K.In h):aa:=K
theorem Lx{l:PySem.W.OpenLaw}{n k:Nat}{q:aA}{loose:List Str}{XP:(Str->Option ac)->aX->Prop}{YP:aI->aX->Prop}{d:DefRec}{K:Params->aa}{CX:aI->CXT}{sp:aI->Sp}{x:Str}(hn:l.most=some n)(hn2:n<=av)(hdf:d.params.defaults=[])(hr:Room k callerA)(hY:∀(w:aI)(h:aX),YP w h->(K w.params).In h)(F:∀(w:aI)(mg:Str->Option ac)(fa:ae)(h:aX),(K w.params).In h->h.Ns bf mg->mg d.name=some (.ref fa) ->∃fd:FuncData,(∀(s:ag)(u:ac),BindsTo s fd ⟨[u],[]⟩ [(x,u)]) /\∀base:aX,(K w.params).In base->base.Ns bf mg->FnOk l.prog w (K w.params) mg base (CX w) k fa fd [x] (sp w))(hsp:∀(w:aI)(H:Hp)(a:ae)(ns:List Int),ns.length<=n->Only H->SqL (K w.params) H a (ns.map V.int)->sp w [.ref a] H (λv _=>v=.bl true) λ_ _ _=>False)(hCX:∀(w:aI)(H:Hp)(s:ag)(e:ac)(s':ag),CX w [] H s (λ_ _ _=>False) e s'->False):PySem.W.WalkO q loose XP YP l.row.toRowW d [] (λf vs=>PySem.call f vs):=by refine Att.attach_call hn hdf λw s₀ s₁ mg mb fa o pm cd doc a vs ns G Y ho hd hcd hmg hobj hints hlen hg=>?_;have KX:=hY w _ Y;obtain⟨fd,hb,hF⟩:=F w mg fa _ KX G.T.g hmg;exact KR KX G.T.g G.T.b G.T.builtins G.T.nolimit hg hobj hints (ax hlen hn2) hr hF hb (λH hO hS=>hsp w H a ns hlen hO hS) λH e s'=>hCX w H s₁ e s'
open PySem PySem.Spec PyProof.Rows
noncomputable def inClass(s:bc)(j:Nat):bc:=match s with
|.ClassDef _ _ _ body _ _ _ _ _ _ _=>body.getD j (.Pass ⟨0,0,0,0⟩)
|_=>.Pass ⟨0,0,0,0⟩
noncomputable def YQ(s:bc):Arguments:=match s with
|.FunctionDef _ a _ _ _ _ _ _ _ _=>a
|_=>{posonlyargs:=[],args:=[],vararg:=none,kwonlyargs:=[],kw_defaults:=[],kwarg:=none,defaults:=[]}
noncomputable def ZR(s:bc):List bc:=match s with
|.FunctionDef _ _ b _ _ _ _ _ _ _=>b
|_=>[]
noncomputable def Zg(s:bc):bH:=match s with
|.FunctionDef _ _ _ _ _ _ sc _ _ _=>sc
|_=>{kind:=.function,names:=[],isGenerator:=false,isCoroutine:=false}
noncomputable abbrev CX0:CXT:=λ_ _ _ _ _ _=>False
abbrev E0:XK:=λ_ _ _=>False
theorem Xw{X:Cx}:Y9 CX0 X E0:=λ_ _ _ _ _ _ _ h=>h.elim
structure Fun(K:aa)(x qual:Str)(st:bc)(f:ae)(fd:FuncData):Prop where
 ex:∃(oc:ac)(od:Option ae)(kV doc pm:ac)(an:Option ae)(cdv ct:ac)(osl:Array (Option ac)),
  fd=bO x qual (YQ st) (ZR st) (Zg st) .none kV doc pm an cdv ct/\K.lookup f=some ⟨oc,od,.func fd,osl⟩/\cY K cdv qual=true
 kp:bo K (.ref f)=true
section
variable {P:aA}{w:aI}{K:aa}{mg:Str->Option ac}{base:aX}
theorem Fun.ok{x qual:Str}{st:bc}{f:ae}{fd:FuncData}{N ps:List Str}{k:Nat}{sp:Sp}(F:Fun K x qual st f fd)(S:FnScope N ps (Zg st))(len:∀vs H Q E,sp vs H Q E->vs.length=ps.length)(hbody:∀(cdv:ac)(A:ba)(outer:List Env)(s:ag)(H:Hp)(vs:List V)(Q:VK)(E:XK),Room k (A.deeper (envOfC qual (Zg st) s.heap.objs.size f cdv))->sp vs H Q E ->∃t,PSs (cxOf CX0 P w K mg base N qual (Zg st) f cdv A outer s H E).nox (ZR st) t/\t {nx:=λ_ H'=>Q .non H',rt:=Q} (start N vs) H):FnOk P w K mg base CX0 (k+1) f fd ps sp:=by obtain⟨oc,od,kV,doc,pm,an,cdv,ct,osl,rfl,lk,hcd⟩:=F.ex;refine DA lk hcd S len λA outer s H vs Q E hr hsp=>?_;obtain⟨t,h,q⟩:=hbody cdv A outer s H vs Q E hr hsp;exact⟨t,h.nox,q⟩
theorem Fun.binds{x qual:Str}{st:bc}{f:ae}{fd:FuncData}{ps:List Str}(F:Fun K x qual st f fd)(h:∀(kV doc pm:ac)(an:Option ae)(cdv ct:ac)(us:List ac),us.length=ps.length->bindArgs (bO x qual (YQ st) (ZR st) (Zg st) .none kV doc pm an cdv ct) ⟨us,[]⟩=pure (ps.zip us)):Binds K fd ps []:=by obtain⟨oc,od,kV,doc,pm,an,cdv,ct,osl,rfl,lk,hcd⟩:=F.ex;exact .all (h kV doc pm an cdv ct)
theorem V7{x qual:Str}{st:bc}{f:ae}{oc:ac}{od an:Option ae}{osl:Array (Option ac)}{kV doc pm cdv ct:ac}(l:K.lookup f=some ⟨oc,od,.func (bO x qual (YQ st) (ZR st) (Zg st) .none kV doc pm an cdv ct),osl⟩)(c:cY K cdv qual=true)(k:bo K (.ref f)=true):Fun K x qual st f (bO x qual (YQ st) (ZR st) (Zg st) .none kV doc pm an cdv ct):=⟨⟨oc,od,kV,doc,pm,an,cdv,ct,osl,rfl,l,c⟩,k⟩
end
theorem VP{A:ba}{k:Nat}(hr:Room k A):A.units+1<cLine:=b6 (Nat.add_le_add_left (by decide:1<=64) _) hr.units
theorem XH{n:Nat}(h:n<=1000):n<av:=b6 h (by decide)
section
variable {X:Cx}
theorem pv(i:Nat){x:Str}{pos:Pos}(hN:X.N[i]?=some x:=by rfl)(hv:Vis X.env.scope x:=by first|exact aJ rfl|exact Or.inr (aJ rfl)|exact Or.inr (Or.inr rfl))(hd:(x==("__debug__":Str))=false:=by decide)(hcd:(x==("__classdict__":Str))=false:=by decide):PE X (.Name x pos) (tVar i):=JP hN hv hd hcd
end
theorem iteF{A B:Prop}(h:B):if false=true then A else B:=by rw[if_neg az];exact h
theorem iteT{A B:Prop}(h:A):if true=true then A else B:=by rw[if_pos rfl];exact h
theorem ite2{c A B:Prop}[Decidable c](h1:c->A)(h2:¬c->B):if c then A else B:=by
 by_cases h:c
 ·rw[if_pos h];exact h1 h
 ·rw[if_neg h];exact h2 h
def Same(H H':Hp):Prop:=∀b o,H b=some o->H' b=some o
theorem Same.refl(H:Hp):Same H H:=λ_ _ h=>h
theorem Same.trans{H H1 H2:Hp}(a:Same H H1)(b:Same H1 H2):Same H H2:=λc o h=>b c o (a c o h)
open PySem PySem.Spec PyProof.Rows
section
variable {κ:Type}[DecidableEq κ]
noncomputable def valV(kvs:List (κ×V))(k:κ):Option V:=(kvs.find? λkv=>decide (kv.1=k)).map (·.2)
noncomputable def putK(kvs:List (κ×V))(k:κ)(v:V):List (κ×V):=if(kvs.any λkv=>decide (kv.1=k))=true then kvs.map (λkv=>if kv.1=k then(kv.1,v)else kv)else kvs++[(k,v)]
theorem YJ{p:κ×V}{r:List (κ×V)}{k:κ}(e:p.1=k):valV (p::r) k=some p.2:=by simp[valV,dS,e]
theorem YK{p:κ×V}{r:List (κ×V)}{k:κ}(e:¬p.1=k):valV (p::r) k=valV r k:=by simp[valV,dS,e]
theorem Ud(k:κ):∀kvs:List (κ×V),(kvs.any λkv=>decide (kv.1=k))=(valV kvs k).isSome
|[]=>rfl
|p::r=>by
  rw[List.any_cons];by_cases e:p.1=k
  ·simp only[YJ e,decide_eq_true e,Bool.true_or,Option.isSome_some]
  ·rw[YK e,decide_eq_false e,Bool.false_or];exact Ud k r
theorem Qq(k j:κ)(y:V):∀kvs:List (κ×V),valV (kvs.map λkv=>if kv.1=k then(kv.1,y)else kv) j=(valV kvs j).map λx=>if j=k then y else x
|[]=>rfl
|p::r=>by
  have ih:=Qq k j y r;rw[aQ];by_cases h:p.1=k
  ·rw[if_pos h];by_cases e:p.1=j
   ·rw[YJ (p:=(p.1,y)) e,YJ e,cu,if_pos (e.symm.trans h)]
   ·rw[YK (p:=(p.1,y)) e,YK e,ih]
  ·rw[if_neg h];by_cases e:p.1=j
   ·rw[YJ (p:=p) e,YJ e,cu,if_neg (λz=>h (e.trans z))]
   ·rw[YK (p:=p) e,YK e,ih]
theorem NV(k j:κ)(y:V):∀kvs:List (κ×V),valV kvs k=none->valV (kvs++[(k,y)]) j=if j=k then some y else valV kvs j
|[],_=>by
  by_cases e:k=j
  ·rw[if_pos e.symm];exact YJ (p:=(k,y)) e
  ·rw[if_neg (λz=>e z.symm)];exact YK (p:=(k,y)) e
|p::r,hn=>by
  rw[List.cons_append];have hk:¬p.1=k:=λz=>by rw[YJ z]at hn;cases hn
  rw[YK hk]at hn;have ih:=NV k j y r hn;by_cases e:p.1=j
  ·rw[YJ e,YJ e,if_neg (λz=>hk (e.trans z))]
  ·rw[YK e,YK e,ih]
theorem Mx(kvs:List (κ×V))(k j:κ)(y:V):valV (putK kvs k y) j=if j=k then some y else valV kvs j:=by
 unfold putK;by_cases a:(kvs.any λkv=>decide (kv.1=k))=true
 ·rw[if_pos a,Qq];rw[Ud]at a;by_cases e:j=k
  ·obtain⟨x,hx⟩:=dI.mp a;rw[if_pos e,e,hx,cu,if_pos rfl]
  ·rw[if_neg e];cases valV kvs j with
  |none=>rfl
  |some x=>rw[cu,if_neg e]
 ·rw[if_neg a];refine NV k j y kvs ?_;rw[Ud]at a;cases q:valV kvs k with
 |none=>rfl
 |some x=>rw[q]at a;exact(a rfl).elim
theorem Y3(kvs:List (κ×V))(k:κ)(v:V):(putK kvs k v).length<=kvs.length+1:=by
 unfold putK;split
 ·rw[bA];omega
 ·rw[aT,bh,List.length_nil];omega
theorem RelO.isSome_eq{o:Option V}{u:Option ac}(r:RelO o u):o.isSome=u.isSome:=by
 cases o with
|none=>cases u with
 |none=>rfl
 |some _=>exact(show False from r).elim
|some _=>cases u with
 |none=>exact(show False from r).elim
 |some _=>rfl
theorem KV.val{kvs:List (κ×V)}{vs:List (κ×ac)}(r:KV kvs vs)(k:κ):RelO (valV kvs k) (valueAt vs k):=by
 unfold KV at r;induction r with
|nil=>exact cb
|@cons p q ps qs h t ih=>
  obtain⟨h1,h2⟩:=h;by_cases e:p.1=k
  ·have e':q.1=k:=h1.symm.trans e;have b:valueAt (q::qs) k=some q.2:=by simp[valueAt,dS,e']
   rw[YJ e,b];exact h2
  ·have e':¬q.1=k:=λz=>e (h1.trans z);have b:valueAt (q::qs) k=valueAt qs k:=by simp[valueAt,dS,e']
   rw[YK e,b];exact ih
theorem KV.any{kvs:List (κ×V)}{vs:List (κ×ac)}(r:KV kvs vs)(k:κ):(kvs.any λkv=>decide (kv.1=k))=vs.any λkv=>decide (kv.1=k):=by
 unfold KV at r;induction r with
|nil=>rfl
|cons h t ih=>rw[List.any_cons,List.any_cons,ih,h.1]
theorem KV.repl{kvs:List (κ×V)}{vs:List (κ×ac)}(r:KV kvs vs)(k:κ){y:V}{u:ac}(ry:RelV y u):KV (kvs.map λkv=>if kv.1=k then(kv.1,y)else kv) (vs.map λkv=>if kv.1=k then(kv.1,u)else kv):=by
 unfold KV at r ⊢;induction r with
|nil=>exact .nil
|@cons p q ps qs h t ih=>
  rw[aQ,aQ];refine .cons ?_ ih;obtain⟨h1,h2⟩:=h;by_cases e:p.1=k
  ·rw[if_pos e,if_pos (h1.symm.trans e)];exact⟨h1,ry⟩
  ·rw[if_neg e,if_neg (λz=>e (h1.trans z))];exact⟨h1,h2⟩
theorem KV.put{kvs:List (κ×V)}{vs:List (κ×ac)}(r:KV kvs vs)(k:κ){y:V}{u:ac}(ry:RelV y u):KV (putK kvs k y) (stored vs k u):=by
 unfold putK stored;rw[r.any k];by_cases e:(vs.any λkv=>decide (kv.1=k))=true
 ·rw[if_pos e,if_pos e];exact r.repl k ry
 ·rw[if_neg e,if_neg e];exact Paired.snoc r ⟨rfl,ry⟩
theorem KV.length{kvs:List (κ×V)}{vs:List (κ×ac)}(r:KV kvs vs):kvs.length=vs.length:=Paired.length r
end
theorem Ti{P:aA}{w:aI}{k:Key}{u:ac}(r:RelV (kV k) u):(YI P w).is k u=true:=by
 cases k with
|inl i=>obtain⟨t,e⟩:=(show ∃t,u=Value.int i t from r);subst e;exact QS P w i t
|inr x=>obtain⟨t,e⟩:=(show ∃t,u=Value.str x t from r);subst e;exact QR P w x t
theorem Pb{P:aA}{w:aI}:∀{ks:List Key}{us:List ac},Vals (ks.map kV) us->ItemsAre (YI P w) ks us
|[],_,r=>by rw[List.map_nil]at r;cases r;exact .nil
|k::ks,_,r=>by
  rw[aQ]at r;cases r with
 |cons h t=>exact .cons (Ti h) (Pb t)
noncomputable abbrev KT(H:Hp):List (List Key×V)->List (List Key×ae×ac)->Prop:=Paired λp q=>p.1=q.1/\H q.2.1=some (.tup (p.1.map kV))/\RelV p.2 q.2.2
theorem KT.val{H:Hp}{kvs:List (List Key×V)}{xs:List (List Key×ae×ac)}(r:KT H kvs xs)(k:List Key):RelO (valV kvs k) ((atKey xs k).map (·.2)):=by
 induction r with
|nil=>exact cb
|@cons p q ps qs h t ih=>
  obtain⟨h1,_,h2⟩:=h;by_cases e:p.1=k
  ·have e':q.1=k:=h1.symm.trans e;have b:atKey (q::qs) k=some q.2:=by simp[atKey,dS,e']
   rw[YJ e,b];exact h2
  ·have e':¬q.1=k:=λz=>e (h1.trans z);have b:atKey (q::qs) k=atKey qs k:=by simp[atKey,dS,e']
   rw[YK e,b];exact ih
theorem KT.repl{H:Hp}{kvs:List (List Key×V)}{xs:List (List Key×ae×ac)}(r:KT H kvs xs)(k:List Key){y:V}{u:ac}(ry:RelV y u):KT H (kvs.map λkv=>if kv.1=k then(kv.1,y)else kv) (xs.map (putAt k u)):=by
 induction r with
|nil=>exact .nil
|@cons p q ps qs h t ih=>
  rw[aQ,aQ];refine .cons ?_ ih;obtain⟨h1,h2,h3⟩:=h;unfold putAt;by_cases e:p.1=k
  ·rw[if_pos e,if_pos (h1.symm.trans e)];exact⟨h1,h2,ry⟩
  ·rw[if_neg e,if_neg (λz=>e (h1.trans z))];exact⟨h1,h2,h3⟩
theorem KT.put{H:Hp}{kvs:List (List Key×V)}{xs:List (List Key×ae×ac)}(r:KT H kvs xs)(k:List Key){b:ae}{y:V}{u:ac}(hb:H b=some (.tup (k.map kV)))(ry:RelV y u):KT H (putK kvs k y) (storedH xs k b u):=by
 have e:(kvs.any λkv=>decide (kv.1=k))=(atKey xs k).isSome:=by rw[Ud,(r.val k).isSome_eq,Option.isSome_map]
 unfold putK storedH;rw[e];by_cases q:(atKey xs k).isSome=true
 ·rw[if_pos q,if_pos q];exact r.repl k ry
 ·rw[if_neg q,if_neg q];exact Paired.snoc r ⟨rfl,hb,ry⟩
theorem KT.keeps{H H':Hp}{kvs:List (List Key×V)}{xs:List (List Key×ae×ac)}(r:KT H kvs xs)(ht:∀b ys,H b=some (.tup ys)->H' b=some (.tup ys)):KT H' kvs xs:=Paired.mapP r λ_ _ z=>⟨z.1,ht _ _ z.2.1,z.2.2⟩
section
variable {P:aA}{w:aI}{H:Hp}{h:aX}{a:ae}
theorem Dv{u:HO}(ok:HOk P w H h)(e:Rd H a u):ZV P w H h a u:=e.ok ok
theorem TF{kvs:List (Key×V)}(ok:HOk P w H h)(e:Rd H a (.dK kvs)):kvs.length<=av/\(a==sysModules)=false/\∃vs,KV kvs vs/\h.DictOf (YI P w) a vs:=show ZV P w H h a (.dK kvs)from Dv ok e
theorem DC{kvs:List (Key×V)}(ok:HOk P w H h)(e:H a=some (.dK kvs)):kvs.length<=av/\(a==sysModules)=false/\∃vs,KV kvs vs/\h.DictOf (YI P w) a vs:=TF ok (.inl e)
theorem P8{ks:List Key}(ok:HOk P w H h)(e:H a=some (.tup (ks.map kV))):(tupleKind (YI P w)).is h ks a:=by obtain⟨_,its,r,o,h1,h2,n,h3⟩:=(show ZV P w H h a (.tup (ks.map kV))from ok a _ e);exact⟨o,its.toArray,n,h1,h2,h3,by simpa using Pb r⟩
theorem TD{kvs:List (List Key×V)}(ok:HOk P w H h)(e:Rd H a (.dT kvs)):kvs.length<=av/\(a==sysModules)=false /\∃xs,KT H kvs xs/\h.DictOfH (tupleKind (YI P w)) a xs:=by
 obtain⟨z,y,xs,r,o,es,ep,h1,h2,h3,h4,h5⟩:=(show ZV P w H h a (.dT kvs)from Dv ok e);refine⟨z,y,xs,r,o,es,ep,h1,h2,h3,h4,λx hx=>?_,h5⟩;have all:∀{l:List (List Key×V)}{m:List (List Key×ae×ac)},KT H l m->∀x∈m,(tupleKind (YI P w)).is h x.1 x.2.1:=by
  intro l m q;induction q with
 |nil=>intro x hx;exact nomatch hx
 |@cons p q ps qs hq t ih=>
   intro x hx;rcases aq.mp hx with e|hx
   ·subst e;exact P8 ok (by rw[<-hq.1];exact hq.2.1)
   ·exact ih x hx
 exact all r x hx
theorem Fy{kvs:List (List Key×V)}(ok:HOk P w H h)(e:H a=some (.dT kvs)):kvs.length<=av/\(a==sysModules)=false /\∃xs,KT H kvs xs/\h.DictOfH (tupleKind (YI P w)) a xs:=TD ok (.inl e)
end
def DGet(H:Hp)(a:ae)(y:V)(r:Option V):Prop:=(∃kvs k,Rd H a (.dK kvs)/\y=kV k/\r=valV kvs k)\/∃kvs k b,Rd H a (.dT kvs)/\y=.ref b/\H b=some (.tup (k.map kV))/\r=valV kvs k
def DPut(H:Hp)(a:ae)(y v:V)(H':Hp):Prop:=(∃kvs k,H a=some (.dK kvs)/\y=kV k/\kvs.length<av/\H'=upd H a (.dK (putK kvs k v))) \/∃kvs k b,H a=some (.dT kvs)/\y=.ref b/\H b=some (.tup (k.map kV))/\kvs.length<av/\H'=upd H a (.dT (putK kvs k v))
theorem DGet.k{H:Hp}{a:ae}{kvs:List (Key×V)}{k:Key}(e:H a=some (.dK kvs)):DGet H a (kV k) (valV kvs k):=.inl ⟨kvs,k,.inl e,rfl,rfl⟩
theorem DPut.k{H:Hp}{a:ae}{kvs:List (Key×V)}{k:Key}{v:V}(e:H a=some (.dK kvs))(hl:kvs.length<av):DPut H a (kV k) v (upd H a (.dK (putK kvs k v))):=.inl ⟨kvs,k,e,rfl,hl,rfl⟩
section
variable {X:Cx}{pins:List (ae×Obj)}{σ:St}{H:Hp}{s:ag}{a:ae}{y v:V}{u r:ac}{o:Option V}{A:ba}{E:ac->ag->Prop}
theorem Inv.big(I:Inv X pins σ H s):sysModules<s.heap.objs.size:=by have h:bf<s.heap.objs.size:=(I.mod.glob.keeps I.bk).lt;exact Nat.lt_trans (by decide) h
theorem WG{Q:ac->ag->Prop}(hu:A.units+1<cLine)(I:Inv X pins σ H s)(g:DGet H a y (some v))(ry:RelV y u)(h:∀w' s',Inv X pins σ H s'->RelV v w'->Q w' s'):aB (model X.prog X.w) A (getItem (.ref a) u) Q E s:=by
 rcases g with⟨kvs,k,e,ey,l⟩|⟨kvs,k,b,e,ey,eb,l⟩
 ·subst ey;obtain⟨z,hd,vs,rel,dd⟩:=TF I.hok e;obtain⟨w',hw,rw'⟩:=RelO.some_of (v:=v) (o:=valueAt vs k) (by rw[l];exact rel.val k);exact wpAny_getItem_of (Ti ry) dd.mapOf hw (h w' _ (I.tok _) rw')
 ·subst ey;cases(show u=ay b from ry);obtain⟨z,hd,xs,rel,dd⟩:=TD I.hok e;obtain⟨w',hw,rw'⟩:=RelO.some_of (v:=v) (o:=(atKey xs k).map (·.2)) (by rw[l];exact rel.val k);obtain⟨p,hp,hp2⟩:=bF.mp hw;refine wpAny_getItem_heap (tupleKind_room_in1 hu) (P8 I.hok eb) dd hp ?_;rw[hp2];exact h w' _ (I.tok _) rw'
theorem d_in{Q:ac->ag->Prop}(hu:A.units+1<cLine)(I:Inv X pins σ H s)(g:DGet H a y o)(ry:RelV y u)(h:∀s',Inv X pins σ H s'->Q (.bool o.isSome) s'):aB (model X.prog X.w) A (compareOp .In u (.ref a)) Q E s:=by
 rcases g with⟨kvs,k,e,ey,l⟩|⟨kvs,k,b,e,ey,eb,l⟩
 ·subst ey;obtain⟨z,hd,vs,rel,dd⟩:=TF I.hok e;refine wpAny_in_of (Ti ry) hd dd.mapOf ?_;rw[<-(rel.val k).isSome_eq,<-l];exact h _ (I.tok _)
 ·subst ey;cases(show u=ay b from ry);obtain⟨z,hd,xs,rel,dd⟩:=TD I.hok e;refine wpAny_in_heap (tupleKind_room_in1 hu) (P8 I.hok eb) hd dd ?_;have q:=(rel.val k).isSome_eq;rw[Option.isSome_map]at q;rw[<-q,<-l];exact h _ (I.tok _)
theorem TN{h':aX}{t':Nat}{ob:HO}(I:Inv X pins σ H s)(mu:Mut (H a))(hs:dC a s.heap h')(he:∃q,h'.get? a=some q)(new:ZV X.prog X.w (upd H a ob) h' a ob):Inv X pins σ (upd H a ob) {s with heap:=h',toks:=t'}:=I.write (x:=a) (e:=a) mu (.inl rfl) (λb q hb z=>(hs.2 b hb).trans z) he new
theorem EH{P:aA}{w:aI}{H':Hp}{h':aX}{kvs:List (Key×V)}{vs:List (Key×ac)}(z:kvs.length<=av)(hd:(a==sysModules)=false)(rel:KV kvs vs)(dd:h'.DictOf (YI P w) a vs):ZV P w H' h' a (.dK kvs):=⟨z,hd,vs,rel,dd⟩
theorem WF{H':Hp}{Q:Unit->ag->Prop}(hu:A.units+1<cLine)(I:Inv X pins σ H s)(g:DPut H a y v H')(ry:RelV y u)(rv:RelV v r)(h:∀s',Inv X pins σ H' s'->Q () s'):aB (model X.prog X.w) A (setItem (.ref a) u r) Q E s:=by
 rcases g with⟨kvs,k,e,ey,l,eH⟩|⟨kvs,k,b,e,ey,eb,l,eH⟩
 ·subst ey eH;obtain⟨z,hd,vs,rel,dd⟩:=DC I.hok e;have hz:vs.length<=av:=by rw[<-rel.length];exact z
  have hl:(putK kvs k v).length<=av:=by have:=Y3 kvs k v;omega
  refine wpAny_setItem_pairs (hsz:=hz) (Ti ry) dd λh' dd' hs=>h _ ?_;have he:∃q,h'.get? a=some q:=let ⟨q,_,_,hq,_⟩:=dd';⟨q,hq⟩
  exact TN I (by rw[e];exact cb) hs he (EH hl hd (rel.put k rv) dd')
 ·subst ey eH;cases(show u=ay b from ry);obtain⟨z,hd,xs,rel,dd⟩:=Fy I.hok e;have hz:xs.length<=av:=by rw[<-Paired.length rel];exact z
  have hl:(putK kvs k v).length<=av:=by have:=Y3 kvs k v;omega
  refine wpAny_setItem_heap (hsz:=hz) (tupleKind_room_in1 hu) (P8 I.hok eb) dd λh' dd' hs=>h _ ?_;obtain⟨q,es,ep,hq,h2,h3,h4,_,h5⟩:=dd';refine TN I (by rw[e];exact cb) hs ⟨q,hq⟩ ⟨hl,hd,_,(rel.put k eb rv).keeps λc ys ec=>?_,q,es,ep,hq,h2,h3,h4,h5⟩;rw[Zj (ne_of ec e (λz=>nomatch z))];exact ec
end
def NoSl(i:Expr):Prop:=∀ov iv,subscripted i false ov iv=operate [ov,iv] (getItem ov iv)
theorem SK{prog:aA}{w:aI}{A:ba}{E:ac->ag->Prop}{s:ag}{env:Env}{value slice:Expr}{pos:Pos}{T id:String}{Q:ac->ag->Prop}(hl:typeLookup (.type T) "__getitem__"=pure (some (.builtin id)))(hs:NoSl slice)(h:aB (model prog w) A (eval value env) (λo s₁=>aB (model prog w) A (eval slice env) (λi s₂=>s₂.TypeIs o T/\aB (model prog w) A (getItem o i) Q E s₂) E s₁) E s):aB (model prog w) A (eval (.Subscript value slice pos) env) Q E s:=by
 refine Subscript_ (wpAny_mono h (λo s₁ h₁=>wpAny_mono h₁ (λi s₂ h₂=>?_) λ_ _ x=>x) λ_ _ x=>x);obtain⟨hT,h₂⟩:=h₂;unfold subscriptTail;refine af ?_;rw[getitemInPython_of_ne hT.not_modules];refine af (wpAny_specialOf hT hl ?_);have fin:aB (model prog w) A (subscripted slice false o i) (λr s₃=>aB (model prog w) A (letTemporaryGo value o r >>= λ_=>pure r) Q E s₃) E s₂:=by rw[hs o i];exact wpAny_operating (wpAny_mono h₂ (λr s₃ h₃=>af (wpAny_letTemporaryGo (au h₃))) λ_ _ x=>x)
 first
 |exact au (af fin)
 |exact af (au (af fin))
 |exact af fin
theorem Q3{X:Cx}{pins:List (ae×Obj)}{σ:St}{H:Hp}{s:ag}{a:ae}{y:V}{o:Option V}(I:Inv X pins σ H s)(g:DGet H a y o):s.TypeIs (.ref a) "dict":=by
 rcases g with⟨kvs,k,e,_,_⟩|⟨kvs,k,b,e,_,_,_⟩
 ·obtain⟨_,_,vs,_,dd⟩:=TF I.hok e;exact dd.typeIs
 ·obtain⟨_,_,xs,_,dd⟩:=TD I.hok e;exact dd.typeIs
def E4(td ty:TE):TE:=λσ H Q=>td σ H λx H1=>ty σ H1 λy H2=>∃a v,x=.ref a/\DGet H2 a y (some v)/\Q v H2
def tDIn(ty td:TE):TE:=λσ H Q=>ty σ H λy H1=>td σ H1 λx H2=>∃a o,x=.ref a/\DGet H2 a y o/\Q (.bl o.isSome) H2
def Fb(td ty tv:TE):TS:=λD σ H=>tv σ H λv H1=>td σ H1 λx H2=>ty σ H2 λy H3=>∃a H4,x=.ref a/\DPut H3 a y v H4/\D.nx σ H4
section
variable {X:Cx}{o i e value:Expr}{pos pos' tpos:Pos}{td ty tv:TE}
theorem Ml(hu:X.A.units+1<cLine)(ho:PE X o td)(hi:PE X i ty)(hs:NoSl i):PE X (.Subscript o i pos) (E4 td ty):=by intro pins s σ H Q I h;refine SK PySem.F.slot_dict_getitem.lookup hs (thn (ho pins s σ H _ I h) λu s1 h975=>?_);obtain⟨x,H1,I1,rx,q1⟩:=h975;refine thn (hi pins s1 σ H1 _ I1 q1) λiv s2 h976=>?_;obtain⟨y,H2,I2,ry,a,v,ex,g,q2⟩:=h976;subst ex;obtain rfl:u=ay a:=rx;exact⟨Q3 I2 g,WG hu I2 g ry λw' s3 I3 rw'=>⟨v,H2,I3,rw',q2⟩⟩
theorem KB(hu:X.A.units+1<cLine)(hi:PE X i ty)(ho:PE X o td):PC X .In i o (tDIn ty td):=by intro pins s σ H Q I h;refine thn (hi pins s σ H _ I h) λiv s1 h977=>?_;obtain⟨y,H1,I1,ry,q1⟩:=h977;refine thn (ho pins s1 σ H1 _ I1 q1) λu s2 h978=>?_;obtain⟨x,H2,I2,rx,a,ov,ex,g,q2⟩:=h978;subst ex;obtain rfl:u=ay a:=rx;exact d_in hu I2 g ry λs3 I3=>⟨.bl ov.isSome,H2,I3,rfl,q2⟩
theorem Mi(hu:X.A.units+1<cLine)(ho:PE X o td)(hi:PE X i ty)(hv:PE X value tv)(hs:swapsWith value (some (.Subscript o i pos')) pos.line X.env=pure false):PS X (.Assign [.Subscript o i pos'] value pos) (Fb td ty tv):=by intro pins s σ H D I h;refine wpAny_Assign_Subscript (thn (hv pins s σ H _ I h) λr s1 h981=>?_) hs;obtain⟨v,H1,I1,rv,q1⟩:=h981;refine thn (ho pins s1 σ H1 _ I1 q1) λu s2 h982=>?_;obtain⟨x,H2,I2,rx,q2⟩:=h982;refine thn (hi pins s2 σ H2 _ I2 q2) λiv s3 h983=>?_;obtain⟨y,H3,I3,ry,a,H4,ex,g,q3⟩:=h983;subst ex;obtain rfl:u=ay a:=rx;exact WF hu I3 g ry rv λs4 I4=>⟨σ,H4,I4,q3⟩
end
theorem Lb{P:aA}{w:aI}{H:Hp}(h:aX)(hb:sysModules<h.objs.size):ZV P w H (h.push {cls:=.type "dict",data:=.dict #[]}) h.objs.size (.dK []):=⟨bV _,beq_eq_false_iff_ne.mpr (bL (aE hb)),[],.nil,Heap.DictOf.new h⟩
def DM:TE:=λ_ H Q=>∀p,H p=none->Q (.ref p) (upd H p (.dK []))
section
variable {X:Cx}{pos:Pos}
theorem JC:PE X (.Dict [] [] pos) DM:=λpins s σ H Q I h=>wpAny_Dict_empty ⟨.ref s.heap.objs.size,_,I.laid (a:=s.heap.objs.size) (o:=.dK []) (t':=s.toks) (λ_ _ q=>ah _ q) (aj _) (Lb s.heap I.big),rfl,h _ (I.hok.fresh (aj _))⟩
end
structure M1(X:Cx)(o:Expr)(m:Str)(apos:Pos)(e:Expr)(cpos:Pos):Prop where
 base:attributeBase o m X.env (eval o X.env)=eval o X.env
 few:((backTo cpos (aO [e] X.env)).all (λx=>!x.1)&&(backToKw cpos (dJ [] X.env)).all (λx=>x.1.isSome)
 &&decide (([e]:List Expr).length+([]:List Keyword).length+(if([]:List Keyword).isEmpty then 0 else 1)<30))=true
 line:(apos.endLine==cpos.line)=true
 trees:backTo cpos (aO [e] X.env)=[(false,eval e X.env)]
structure M2(X:Cx)(o:Expr)(m:Str)(apos:Pos)(e f:Expr)(cpos:Pos):Prop where
 base:attributeBase o m X.env (eval o X.env)=eval o X.env
 few:((backTo cpos (aO [e,f] X.env)).all (λx=>!x.1)&&(backToKw cpos (dJ [] X.env)).all (λx=>x.1.isSome)
 &&decide (([e,f]:List Expr).length+([]:List Keyword).length+(if([]:List Keyword).isEmpty then 0 else 1)<30))=true
 line:(apos.endLine==cpos.line)=true
 trees:backTo cpos (aO [e,f] X.env)=[(false,eval e X.env),(false,eval f X.env)]
open PySem PySem.Spec PyProof.Rows
theorem VV(z:Str):strIterType z="str_ascii_iterator"\/strIterType z="str_iterator":=by
 unfold strIterType;split
 ·exact .inl rfl
 ·exact .inr rfl
theorem NT{P:aA}{w:aI}{A:ba}(hh:A.handled=none)(it:ae)(x:Str)(t:Tok):Walks P w A it [it] [it] x.cps.size (SignAt x) (λi h=>h.IsStrIter it (strIterType x) x t i):=by
 rcases VV x with e|e
 ·rw[e];exact Walks.strAscii hh it x t
 ·rw[e];exact Walks.strWide hh it x t
noncomputable def Its(z:Str):It:=⟨λi _=>i<z.length,λi H x H'=>H'=H/\∃c,z.cps.toList[i]?=some c/\x=.str ⟨#[c]⟩,λi _=>z.length<=i⟩
theorem W5{P:aA}{w:aI}{K:aa}{tg:Expr}(z:Str)(t:Tok)(it:ae):
  Turn P w K tg (Its z) [it] it (λi h=>i<=z.length/\h.IsStrIter it (strIterType z) z t i) where
 mem:=by simp
 obj:=λi h st b hb=>by
  have e:b=it:=by simpa using hb
  subst e
  obtain⟨_,o,e,c,d⟩:=st
  exact⟨o,e,λv z=>by rw[d]at z;cases z⟩
 keep:=λi h h' st k=>by
  obtain⟨l,o,e,r⟩:=st
  exact⟨l,o,k it (by simp) o e,r⟩
 item:=by
  intro X hP hw hK hc i pins s σ H E I hf st hg
  subst hP hw hK
  obtain⟨f0,f1,f2,f3,f4,f5⟩:=hf it (by simp)
  have W:=NT (P:=X.prog) (w:=X.w) (I.ok.hd hc) it z t
  refine W.item i s _ _ hg st.2 λv h' tk hv st' kk=>?_
  obtain⟨c,u,hcps,rfl⟩:=hv
  have I1:Inv X pins σ H {s with heap:=h',toks:=tk}:=I.turned (λb o hb e=>kk b o (by simpa using hb) e) f0 f1 f3 f4 f5
  obtain⟨o,e,c',d⟩:=id st'
  refine⟨_,rfl,Tr (s:={s with heap:=h',toks:=tk}) e c' d ?_ ⟨.str ⟨#[c]⟩,H,I1,⟨u,rfl⟩,⟨rfl,c,by simpa using hcps,rfl⟩,⟨hg,st'⟩,λb hb=>(hf b hb).1⟩⟩
  rcases VV z with e|e<;>rw[e]<;>decide
 done:=by
  intro X hP hw hK hc i pins s σ H E I hf st hg
  subst hP hw hK
  obtain⟨f0,f1,f2,f3,f4,f5⟩:=hf it (by simp)
  have W:=NT (P:=X.prog) (w:=X.w) (I.ok.hd hc) it z t
  obtain⟨hl,st⟩:=st
  have e:i=z.length:=Nat.le_antisymm hl hg
  subst e
  exact W.done s _ _ st λh' tk kk=>⟨rfl,I.turned (λb o hb e=>kk b o (by simpa using hb) e) f0 f1 f3 f4 f5⟩
 self:=λA i s Q E st h=>by
  obtain⟨_,st⟩:=st
  rcases VV z with e|e
  ·rw[e]at st;exact wpAny_pyIter_striter_ascii st h
  ·rw[e]at st;exact wpAny_pyIter_striter_wide st h
section
variable {X:Cx}{tg:Expr}
noncomputable def iStr(tl:TE):TI:=λσ H R=>tl σ H λx H1=>∃z,x=.str z/\R (Its z) H1
theorem D2{l:Expr}{tl:TE}(hl:PE X l tl):PI X tg l (iStr tl):=by
 intro pins s σ H R I h;refine thn (hl pins s σ H _ I h) λv s1 h90=>?_;obtain⟨x,H1,I1,r1,q1⟩:=h90;obtain⟨z,e,q⟩:=q1;subst e;obtain⟨t,rfl⟩:=r1;refine wpAny_pyIter_strU ?_;refine⟨s1.heap.objs.size,[s1.heap.objs.size],_,_,H1,rfl,I1.kept (t':=s1.toks) λb o e=>ah _ e,W5 z t _,⟨bV _,_,aU _ rfl,rfl,rfl⟩,λb hb=>?_,q⟩;have e:b=s1.heap.objs.size:=by simpa using hb
 subst e;exact I1.fpOk (aj _) (I1.hok.fresh (aj _))
end
theorem JF{α:Type}{n:Nat}{l:List α}(h:l.length=n+1):∃a t,l=a::t/\t.length=n:=by
 cases l with
|nil=>cases h
|cons a t=>exact⟨a,t,rfl,Nat.succ.inj h⟩
theorem len1{α:Type}{l:List α}(h:l.length=1):∃a,l=[a]:=by obtain⟨a,t,rfl,h'⟩:=JF h;exact⟨a,by rw[dh h']⟩
theorem len2{α:Type}{l:List α}(h:l.length=2):∃a b,l=[a,b]:=by obtain⟨a,t,rfl,h'⟩:=JF h;obtain⟨b,rfl⟩:=len1 h';exact⟨a,b,rfl⟩
theorem len3{α:Type}{l:List α}(h:l.length=3):∃a b c,l=[a,b,c]:=by obtain⟨a,t,rfl,h'⟩:=JF h;obtain⟨b,c,rfl⟩:=len2 h';exact⟨a,b,c,rfl⟩
theorem len4{α:Type}{l:List α}(h:l.length=4):∃a b c d,l=[a,b,c,d]:=by obtain⟨a,t,rfl,h'⟩:=JF h;obtain⟨b,c,d,rfl⟩:=len3 h';exact⟨a,b,c,d,rfl⟩
theorem len5{α:Type}{l:List α}(h:l.length=5):∃a b c d e,l=[a,b,c,d,e]:=by obtain⟨a,t,rfl,h'⟩:=JF h;obtain⟨b,c,d,e,rfl⟩:=len4 h';exact⟨a,b,c,d,e,rfl⟩
theorem len6{α:Type}{l:List α}(h:l.length=6):∃a b c d e f,l=[a,b,c,d,e,f]:=by obtain⟨a,t,rfl,h'⟩:=JF h;obtain⟨b,c,d,e,f,rfl⟩:=len5 h';exact⟨a,b,c,d,e,f,rfl⟩
section
variable {prog:aA}{w:aI}{A:ba}{R:Result->ag->Prop}{s:ag}
noncomputable abbrev NoX:ac->ag->Prop:=λ_ _=>False
theorem DE{α:Type}{M:Model}{t:Sem α}{Q:α->ag->Prop}{E:ac->ag->Prop}(h:aB M A t Q NoX s):aB M A t Q E s:=wpAny_mono h (λ_ _ q=>q) λ_ _ x=>x.elim
theorem G2{elt target iter:Expr}{ifs:List Expr}{scope:bH}{pos:Pos}{it acc:ac}{env:Env}(I:Nat->ag->Prop)
  (turn:∀n s,I n s->aB (model prog w) A (pyNext it) (λr s₁=>match r with
  |none=>R (.ok .next) s₁
  |some v=>aB (model prog w) A (letOwnedTupleGo target it v) (λ_ s₀=>aB (model prog w) A (assign target env v) (λ_ s₂=>
     aB (model prog w) A (forIn ifs true λc r=>if r=true then do let ok <-isTrue c env (eval c env);pure (dD ok)else pure (dD r)) (λok s₃=>
      if ok=true then aB (model prog w) A (eval elt env) (λx s₄=>aB (model prog w) A (call (.builtin "list.append") [acc,x]) (λ_ s₅=>∃m,m<n/\I m s₅) NoX s₄) NoX s₃
      else ∃m,m<n/\I m s₃) NoX s₂) NoX s₀) NoX s₁) NoX s)
  (n:Nat) (h:I n s):
  codeAny (model prog w) A (.compLoop (.ListComp elt [⟨target,iter,ifs,0⟩] scope pos) 0 it acc env) R s:=by
 refine codeAny_loop rfl I (λn s hI=>?_) n h
 show aB _ A ((compTurn (.ListComp elt [⟨target,iter,ifs,0⟩] scope pos) 0 it acc env).onRaise (λx=>do noteFrame x env;theTreesLotGoes x)) _ _ s
 refine wpAny_noted (DE ?_)
 rw[compTurn_list]
 refine af (wpAny_standAt (af (thn (turn n s hI) (λr s₁ h₁=>?_))))
 cases r with
|none=>exact au h₁
|some v=>
  refine af (thn h₁ λ_ s₀ h₀=>?_)
  refine af (thn h₀ λ_ s₂ h₂=>af (thn h₂ λok s₃ h₃=>?_))
  cases ok with
 |false=>exact au ⟨rfl,h₃⟩
 |true=>exact af (af (thn h₃ λx s₄ h₄=>af (thn h₄ λ_ s₅ h₅=>au (au ⟨rfl,h₅⟩))))
end
noncomputable def clGo(env:Env):List (Str×dM)->List (Str×ae)->List (Str×ae)
|[],cs=>cs
|(n,k)::r,cs=>clGo env r (if k==.free then(n,(env.cells.lookup n).getD 0)::cs else cs)
noncomputable def clOf(scope:bH)(env:Env):List (Str×ae):=clGo env scope.names []
theorem V9{env:Env}:∀(names:List (Str×dM))(cs:List (Str×ae)),(∀x∈names,x.2=.free->∃c,env.cells.lookup x.1=some c) ->
  (forIn names cs λ(x:Str×dM)(r:List (Str×ae))=>(match x with
  |(name,kind)=>if(kind==.free)=true then(do let c <-cellOf env name;pure (dD ((name,c)::r)))else pure (dD r):Sem (ForInStep (List (Str×ae)))))
   = pure (clGo env names cs)
|[],cs,_=>rfl
|(n,k)::r,cs,h=>by
  rw[List.forIn_cons]
  cases hk:k==b9 with
 |true=>
   obtain⟨c,hc⟩:=h (n,k) ao (by simpa using hk)
   have e:cellOf env n=pure c:=by unfold cellOf;rw[show env.cells.lookup n=some c from hc]
   simp only[hk,if_true,e,clGo,pure_bind]
   rw[show env.cells.lookup n=some c from hc]
   exact V9 r _ λx hx=>h x (am _ hx)
 |false=>
   simp only[hk,bG,if_false,clGo,pure_bind]
   exact V9 r _ λx hx=>h x (am _ hx)
theorem Ny{scope:bH}{env:Env}(h:∀x∈scope.names,x.2=.free->∃c,env.cells.lookup x.1=some c):closureFor scope env=pure (clOf scope env):=by have e:=V9 (env:=env) scope.names [] h;unfold closureFor clOf;rw[<-e];simp only[bind_pure]
theorem VF{env:Env}{x:Str}:∀(names:List (Str×dM))(cs:List (Str×ae)),(∀y∈names,y.2=.free->∃c,env.cells.lookup y.1=some c)->(∀c,cs.lookup x=some c->env.cells.lookup x=some c) ->(∀c,(clGo env names cs).lookup x=some c->env.cells.lookup x=some c)/\(((x,b9)∈names\/(cs.lookup x).isSome=true)->((clGo env names cs).lookup x).isSome=true)
|[],cs,_,h=>⟨h,λz=>z.elim (λz=>absurd z (by simp)) id⟩
|(n,k)::r,cs,hf,h=>by
  have hr:∀y∈r,y.2=b9->∃c,env.cells.lookup y.1=some c:=λy hy=>hf y (am _ hy);show(∀c,(clGo env r (if k==.free then(n,(env.cells.lookup n).getD 0)::cs else cs)).lookup x=some c->_)/\(_->((clGo env r (if k==.free then(n,(env.cells.lookup n).getD 0)::cs else cs)).lookup x).isSome=true);cases hk:k==b9 with
 |true=>
   obtain⟨c0,hc0⟩:=hf (n,k) ao (by simpa using hk);have hc0':env.cells.lookup n=some c0:=hc0;simp only[if_true,hc0',Option.getD_some];have h2:∀c,((n,c0)::cs).lookup x=some c->env.cells.lookup x=some c:=λc q=>by
    rw[db]at q;cases hx:x==n with
   |true=>
     rw[hx]at q;have e:x=n:=by simpa using hx
     subst e;cases q;exact hc0'
   |false=>rw[hx]at q;exact h c q
   obtain⟨a,b⟩:=VF r ((n,c0)::cs) hr h2;refine⟨a,λz=>b ?_⟩;by_cases hx:x=n
   ·right;subst hx;simp
   ·rcases z with z|z
    ·rcases aq.mp z with e|z
     ·exact absurd (congrArg Prod.fst e) hx
     ·exact .inl z
    ·right;have:(x==n)=false:=by simpa using hx
     rw[db,this];exact z
 |false=>
   simp only[bG,if_false];obtain⟨a,b⟩:=VF r cs hr h;refine⟨a,λz=>b ?_⟩;rcases z with z|z
   ·rcases aq.mp z with e|z
    ·have:k=.free:=(congrArg Prod.snd e).symm;rw[this]at hk;exact absurd hk (by decide)
    ·exact .inl z
   ·exact .inr z
structure CompScope(scope sc:bH):Prop where
 kind:scope.kind=.function
 nocell:∀y∈scope.names,y.2≠.cell
 loc:∀y∈scope.names,y.2=.local->scope.names.lookup y.1=some .local
 free:∀y∈scope.names,y.2=.free->sc.names.lookup y.1=some .cell\/sc.names.lookup y.1=some .free
theorem Uj{scope:bH}{env:Env}{x:Str}(nc:∀y∈scope.names,y.2≠.cell):∀{k:dM},(relabel scope env).names.lookup x=some k->(k=.cell\/k=.free)->(x,b9)∈scope.names:=by
 have go:∀(names:List (Str×dM)),(∀y∈names,y.2≠NameKind.cell)->∀{k:dM},(names.map λ(n,k)=>if(k==b9&&env.scope.kind==.function&&env.kindOf n==some .cell)then(n,NameKind.cell)else(n,k)).lookup x=some k->(k=.cell\/k=.free)->(x,b9)∈names:=by
  intro names;induction names with
 |nil=>intro _ k h _;simp at h
 |cons y r ih=>
   intro hn k h hk;obtain⟨n,k'⟩:=y;have hn':∀y∈r,y.2≠NameKind.cell:=λy hy=>hn y (am _ hy);have hk':k'≠NameKind.cell:=hn (n,k') ao;rw[aQ]at h;by_cases hc:(k'==b9&&env.scope.kind==.function&&env.kindOf n==some .cell)=true
   ·simp only[hc,if_true]at h;rw[db]at h;cases hx:x==n with
   |true=>
     have e:x=n:=by simpa using hx
     have e2:k'=.free:=by simp only[br]at hc;simpa using hc.1.1
     subst e e2;exact ao
   |false=>rw[hx]at h;exact am _ (ih hn' h hk)
   ·simp only[hc]at h;simp only[if_false,bG]at h;rw[db]at h;cases hx:x==n with
   |true=>
     rw[hx]at h;cases h;have e:x=n:=by simpa using hx
     subst e;rcases hk with e|e
     ·exact absurd e hk'
     ·rw[e];exact ao
   |false=>rw[hx]at h;exact am _ (ih hn' h hk)
 intro k h hk;exact go scope.names nc h hk
theorem NI{scope:bH}{env:Env}{x:Str}:(relabel scope env).names.lookup x=some .local->scope.names.lookup x=some .local:=by
 have go:∀(names:List (Str×dM)),(names.map λ(n,k)=>if(k==b9&&env.scope.kind==.function&&env.kindOf n==some .cell)then(n,NameKind.cell)else(n,k)).lookup x=some .local->names.lookup x=some .local:=by
  intro names;induction names with
 |nil=>intro h;simp at h
 |cons y r ih=>
   intro h;obtain⟨n,k'⟩:=y;rw[aQ]at h;rw[db];by_cases hc:(k'==b9&&env.scope.kind==.function&&env.kindOf n==some .cell)=true
   ·simp only[hc,if_true]at h;rw[db]at h;cases hx:x==n with
   |true=>rw[hx]at h;cases h
   |false=>rw[hx]at h;exact ih h
   ·simp only[hc]at h;simp only[if_false,bG]at h;rw[db]at h;cases hx:x==n with
   |true=>rw[hx]at h;exact h
   |false=>rw[hx]at h;exact ih h
 exact go scope.names
noncomputable def JU(X:Cx)(scope:bH)(N:List Str)(C:ae)(s:ag)(H:Hp)(ex:List ae)(pn:List (ae×Obj)):Cx where
 prog:=X.prog
 w:=X.w
 K:=X.K
 mg:=X.mg
 base:=X.base
 A:=X.A
 N:=N
 s₀:=s
 H₀:=H
 env:=compEnvC scope (clOf scope X.env) C X.env
 outer:=X.stack
 stack:=X.stack
 ex:=ex
 calm:=X.calm
 fn:=λ_=>false
 pn:=pn
 xe:=NoX
noncomputable def inner(cp:List (Option Nat))(σ:St):St:=cp.map λo=>o.bind λj=>(σ[j]?).join
structure CompNames(N0:List Str)(scope:bH)(N:List Str)(cp:List (Option Nat)):Prop where
 len:cp.length=N.length
 at_:∀(i j:Nat)(x:Str),cp[i]?=some (some j)->N[i]?=some x->N0[j]?=some x/\scope.names.lookup x=some .free
noncomputable def namesOk(N0:List Str)(scope:bH)(N:List Str)(cp:List (Option Nat)):Bool:=(cp.length==N.length)&&(bN cp.length).all λi=>match cp[i]?,N[i]? with
 |some (some j),some x=>N0[j]?==some x&&scope.names.lookup x==some .free
 |_,_=>true
theorem CompNames.mk'{N0:List Str}{scope:bH}{N:List Str}{cp:List (Option Nat)}(h:namesOk N0 scope N cp=true):CompNames N0 scope N cp:=by unfold namesOk at h;rw[br,cA]at h;refine⟨by simpa using h.1,λi j x h1 h2=>?_⟩;have hi:i<cp.length:=(ai.mp h1).1;have q:=h.2 i (dz.mpr hi);rw[h1,h2]at q;simpa using q
section
variable {X:Cx}{pins:List (ae×Obj)}{σ:St}{H:Hp}{s:ag}
theorem Nz{scope:bH}(I:Inv X pins σ H s)(S:CompScope scope X.env.scope):∀y∈scope.names,y.2=.free->∃c,X.env.cells.lookup y.1=some c:=λy hy e=>I.ok.has y.1 (S.free y hy e)
theorem QW{scope:bH}{N:List Str}{cp:List (Option Nat)}{fp:List ae}{od:Obj}{h4:aX}{tk:Nat}(S:CompScope scope X.env.scope)(CN:CompNames X.N scope N cp)(I:Inv X pins σ H s)(hfp:∀b∈fp,FpOk X pins H b)(hfo:∀b∈fp,∃o,s.heap.get? b=some o)(hod:∀v,od.data≠.cell v)(hns:h4.Ns (s.heap.push od).objs.size (λx=>([]:List (Str×ac)).reverse.lookup x))(hk:∀b o,(s.heap.push od).get? b=some o->h4.get? b=some o)(hfr:od.isFreed=false):Inv (JU X scope N (s.heap.push od).objs.size {s with heap:=s.heap.push od} H (s.heap.objs.size::fp) (X.pn++pins)) [(s.heap.objs.size,od)] (inner cp σ) H {s with heap:=h4,toks:=tk}:=by
 have cl:=Nz I S;have look:∀x c,(clOf scope X.env).lookup x=some c->X.env.cells.lookup x=some c:=λx=>(VF scope.names [] cl (λc q=>by simp at q)).1;have hasc:∀x,(x,b9)∈scope.names->∃c,(clOf scope X.env).lookup x=some c:=λx hx=>
  dI.mp ((VF scope.names [] cl (λc q=>by simp at q)).2 (.inl hx));have kp:∀b o,s.heap.get? b=some o->(s.heap.push od).get? b=some o:=λb o e=>ah _ e;have kp4:∀b o,s.heap.get? b=some o->h4.get? b=some o:=λb o e=>hk b o (kp b o e);have hz:(s.heap.push od).objs.size=s.heap.objs.size+1:=da ..;have I3:Inv X pins σ H {s with heap:=s.heap.push od}:=I.kept (t':=s.toks) kp;have hD:H s.heap.objs.size=none:=I.hok.fresh (aj _);have hC:H (s.heap.push od).objs.size=none:=I3.hok.fresh (aj _);have hDo:h4.get? s.heap.objs.size=some od:=hk _ _ (aU _ hfr);have stk:∀b∈frs X.stack,b<s.heap.objs.size:=λb hb=>by
  rcases aq.mp (I.stkSub b hb)with e|e
  ·rw[e];exact I.lt
  ·exact Nat.lt_of_not_le λz=>I.nofs z e
 have fpn:∀b∈fp,b∉frs X.stack:=λb hb hs=>by
  obtain⟨_,g1,g2,_⟩:=hfp b hb;rcases aq.mp (I.stkSub b hs)with e|e
  ·exact g1 e
  ·exact g2 e
 have fplt:∀b∈fp,b<s.heap.objs.size:=λb hb=>let ⟨o,e⟩:=hfo b hb;ap e
 refine⟨⟨I.ok.mod,S.kind,I.ok.glob,I.ok.blt,aj _,λx y c h1 h2=>I.ok.inj x y c (look x c h1) (look y c h2),λx hx=>?_,λx c hf _=>(by cases hf),I.ok.hd,I.ok.frames,.inl rfl,λb hb=>?_,I3.bs,ax I.ok.bsz I3.sz,λb o e hb=>?_,λb hb=>?_,I3.stack,I3.stkFree⟩,rfl,I.bare,Un.kept hk,⟨_,hns,λi x v h1 h2 h3=>?_⟩,λx c hx=>?_,hC,λx c hx=>I.freeC x c (look x c hx),λp hp=>?_,I.hok.kept kp4,?_⟩
 ·have hx':(relabel scope X.env).names.lookup x=some .cell\/(relabel scope X.env).names.lookup x=some .free:=hx;rcases hx' with e|e
  ·exact hasc x (Uj S.nocell e (.inl rfl))
  ·exact hasc x (Uj S.nocell e (.inr rfl))
 ·show b≠(s.heap.push od).objs.size/\∀x c,(clOf scope X.env).lookup x=some c->c≠b;rcases aq.mp hb with e|hb
  ·subst e;refine⟨by rw[hz];exact aE (cq _),λx c hx z=>?_⟩;obtain⟨v,q⟩:=I.cell x c (look x c hx);exact absurd q.lt (by rw[z];exact bJ _)
  ·exact⟨by rw[hz];exact aE (bK (fplt b hb)),λx c hx=>(hfp b hb).2.2.2.2.1 x c (look x c hx)⟩
 ·rcases aq.mp hb with z|hb
  ·subst z;have h1:=ap (I.bk _ _ e);exact bJ _ h1
  ·obtain⟨_,_,_,g3,_⟩:=hfp b hb;rcases g3 with g3|g3
   ·exact I.ok.noex b o e g3
   ·have h1:=ap e;have h2:=I.ok.bsz;exact absurd (aD h1 (ax h2 g3)) (bJ _)
 ·show b∉frs X.stack;rcases aq.mp hb with z|hb
  ·subst z;exact λz=>bJ _ (stk _ z)
  ·exact fpn b hb
 ·have h2':(inner cp σ)[i]?=some (some v):=h2;unfold inner at h2';rw[ak]at h2';cases hc:cp[i]? with
 |none=>rw[hc]at h2';cases h2'
 |some oj=>
   rw[hc]at h2';cases oj with
  |none=>have:(none:Option V)=some v:=aH h2';cases this
  |some j=>
    have h2'':(σ[j]?).join=some v:=aH h2';have hσ:σ[j]?=some (some v):=by
     cases q:σ[j]? with
    |none=>rw[q]at h2'';cases h2''
    |some o=>rw[q]at h2'';exact congrArg some h2''
    obtain⟨hN,hlook⟩:=CN.at_ i j x hc h1;have hfree:(x,b9)∈scope.names:=cZ hlook;have hk2:=S.free _ hfree rfl;obtain⟨m,hn,hl⟩:=I.loc;have hvis:Vis X.env.scope x:=hk2.elim (λz=>.inr (.inl z)) λz=>.inr (.inr z);obtain⟨u,ru,lk⟩:=hl j x v hN hσ hvis;refine⟨u,ru,?_⟩;rcases lk with⟨z,_⟩|⟨_,c,hcl,cc⟩
    ·rcases hk2 with q|q<;>(have z':=z.symm.trans q;cases z')
    ·obtain⟨c2,hc2⟩:=hasc x hfree;have hcc:c2=c:=by have:=(look x c2 hc2).symm.trans hcl;exact aH this
     subst hcc;obtain⟨o,ho,hd⟩:=cc;refine .inr ⟨?_,c2,hc2,⟨o,kp4 _ _ ho,hd⟩⟩;rcases h3 with q|q|q
     ·have q':=(NI q).symm.trans hlook;cases q'
     ·exact .inl q
     ·exact .inr q
 ·obtain⟨v,o,ho,hd⟩:=I.cell x c (look x c hx);exact⟨v,o,kp4 _ _ ho,hd⟩
 ·have hp':p∈(X.pn++pins)++[(s.heap.objs.size,od)]:=hp;rcases bp.mp hp' with hp1|hp1
  ·obtain⟨e,n,ne,nf,d⟩:=I.pin p hp1;have hlt:=ap e;refine⟨kp4 _ _ e,n,by show p.1≠(s.heap.push od).objs.size;rw[hz];exact aE (bK hlt),λhb=>?_,d⟩;rcases aq.mp (I.stkSub _ hb)with z|z
   ·exact ne z
   ·exact nf z
  ·have e:p=(s.heap.objs.size,od):=by simpa using hp1
   subst e;exact⟨hDo,hD,by show s.heap.objs.size≠(s.heap.push od).objs.size;rw[hz];exact aE (cq _),λz=>bJ _ (stk _ z),hod⟩
 ·show(inner cp σ).length=N.length;unfold inner;rw[bA];exact CN.len
end
noncomputable def ZA(its:List ac)(k:Nat):Obj:={cls:=.type "list",data:=.seq its.toArray k}
theorem Jp{its:List ac}{k:Nat}:∀v,(ZA its k).data≠.cell v:=λv z=>by have z':Data.seq its.toArray k=Data.cell v:=z;cases z'
section
variable {X:Cx}
def PTs(X:Cx)(ifs:List Expr)(t:TT):Prop:=
 ∀(pins:List (ae×Obj))(s:ag)(σ:St)(H:Hp)(Q:Bool->Hp->Prop),Inv X pins σ H s->t σ H Q ->
  aB (model X.prog X.w) X.A (forIn ifs true λc r=>if r=true then do let ok <-isTrue c X.env (eval c X.env);pure (dD ok)else pure (dD r)) (TP X pins σ Q) X.xe s
def tYes:TT:=λ_ H Q=>Q true H
theorem Yp:PTs X [] tYes:=λ_ _ _ H _ I h=>wpAny_tests_nil ⟨H,I,h⟩
theorem XF{c:Expr}{t:TT}(h:PT X c t):PTs X [c] t:=λpins s σ H Q I hw=>wpAny_tests_one (h pins s σ H Q I hw)
def Dq(cp:List (Option Nat))(wi:TI)(g:TG)(tc:TT)(te:TE):TE:=λσ H Q=>wi σ H λJ H1=>∃W:Nat->Nat->List V->St->Hp->Prop,(∃m,W 0 m [] (inner cp σ) H1)/\∀i m ys τ H,W i m ys τ H ->(J.stop i H/\∀l,H l=none->Q (.ref l) (upd H l (.lst ys))) \/(J.go i H/\ys.length<av/\∃N:List V->St->Hp->Prop,(∀ys' τ' H',N ys' τ' H'->∃m',m'<m/\W (i+1) m' ys' τ' H') /\∀x H',J.yld i H x H'->g x τ H' λτ2 H2=>tc τ2 H2 λb H3=>if b=true then te τ2 H3 λy H4=>N (ys++[y]) τ2 H4 else N ys τ2 H3)
theorem Xj{J:It}{g:TG}{tc:TT}{te:TE}{τ0:St}{H0:Hp}{R:List V->Hp->Prop}(n:Nat)(hn:n<=av)(Pv:Nat->List V->St->Hp->Prop)(h0:Pv 0 [] τ0 H0)(hl:∀i ys τ H,Pv i ys τ H->ys.length<=i)(hgo:∀i ys τ H,i<n->Pv i ys τ H->J.go i H)(hstop:∀ys τ H,Pv n ys τ H->J.stop n H)(hs:∀i ys τ H x H',i<n->Pv i ys τ H->J.yld i H x H'->g x τ H' λτ2 H2=>tc τ2 H2 λb H3=>if b=true then te τ2 H3 λy H4=>Pv (i+1) (ys++[y]) τ2 H4 else Pv (i+1) ys τ2 H3)(hd:∀ys τ H,Pv n ys τ H->R ys H):∃W:Nat->Nat->List V->St->Hp->Prop,(∃m,W 0 m [] τ0 H0)/\∀i m ys τ H,W i m ys τ H ->(J.stop i H/\R ys H) \/(J.go i H/\ys.length<av/\∃N:List V->St->Hp->Prop,(∀ys' τ' H',N ys' τ' H'->∃m',m'<m/\W (i+1) m' ys' τ' H') /\∀x H',J.yld i H x H'->g x τ H' λτ2 H2=>tc τ2 H2 λb H3=>if b=true then te τ2 H3 λy H4=>N (ys++[y]) τ2 H4 else N ys τ2 H3):=by
 refine⟨λi m ys τ H=>m=n-i/\i<=n/\Pv i ys τ H,⟨n,rfl,bV _,h0⟩,?_⟩;rintro i m ys τ H ⟨rfl,hi,p⟩;by_cases hlt:i<n
 ·refine .inr ⟨hgo i ys τ H hlt p,?_,Pv (i+1),λys' τ' H' p'=>⟨n-(i+1),by omega,rfl,hlt,p'⟩,λx H' y=>hs i ys τ H x H' hlt p y⟩;have:=hl i ys τ H p;omega
 ·have e:i=n:=by omega
  subst e;exact .inl ⟨hstop ys τ H p,hd ys τ H p⟩
theorem Z7{J:It}{g:TG}{te:TE}{τ0:St}{H0:Hp}{R:List V->Hp->Prop}(n:Nat)(hn:n<=av)(Pv:Nat->List V->St->Hp->Prop)(h0:Pv 0 [] τ0 H0)(hl:∀i ys τ H,Pv i ys τ H->ys.length<=i)(hgo:∀i ys τ H,i<n->Pv i ys τ H->J.go i H)(hstop:∀ys τ H,Pv n ys τ H->J.stop n H)(hs:∀i ys τ H x H',i<n->Pv i ys τ H->J.yld i H x H'->g x τ H' λτ2 H2=>te τ2 H2 λy H4=>Pv (i+1) (ys++[y]) τ2 H4)(hd:∀ys τ H,Pv n ys τ H->R ys H):∃W:Nat->Nat->List V->St->Hp->Prop,(∃m,W 0 m [] τ0 H0)/\∀i m ys τ H,W i m ys τ H ->(J.stop i H/\R ys H) \/(J.go i H/\ys.length<av/\∃N:List V->St->Hp->Prop,(∀ys' τ' H',N ys' τ' H'->∃m',m'<m/\W (i+1) m' ys' τ' H') /\∀x H',J.yld i H x H'->g x τ H' λτ2 H2=>tYes τ2 H2 λb H3=>if b=true then te τ2 H3 λy H4=>N (ys++[y]) τ2 H4 else N ys τ2 H3):=Xj (J:=J) (g:=g) (tc:=tYes) (te:=te) n hn Pv h0 hl hgo hstop hs hd
theorem Yy{elt iter tg:Expr}{ifs:List Expr}{scope:bH}{pos:Pos}{N:List Str}{cp:List (Option Nat)}{wi:TI}{g:TG}{tc:TT}{te:TE}(hc:X.calm=true){sc:bH}{N0:List Str}(hS0:CompScope scope sc)(hN0:CompNames N0 scope N cp)(hi:PI X tg iter wi)(hg:∀C s H ex pn,PG (JU X scope N C s H ex pn) tg g)(ht:∀C s H ex pn,PTs (JU X scope N C s H ex pn) ifs tc)(he:∀C s H ex pn,PE (JU X scope N C s H ex pn) elt te)(hsc:X.env.scope=sc:=by rfl)(hxn:X.N=N0:=by rfl)(hs:∀x,foldedSetIterable iter X.env x=pure x:=by intro _;rfl):PE X (.ListComp elt [⟨tg,iter,ifs,0⟩] scope pos) (Dq cp wi g tc te):=by
 subst hsc hxn;have hS:=hS0;have hN:=hN0;intro pins s σ H Q I h;rw[eval_ListComp];refine wpAny_comprehension_free (use:=none) (cl:=clOf scope X.env) rfl hs (Ny (Nz I hS)) hS.kind hS.loc (thn (hi pins s σ H _ I h) λv s1 h1=>thn h1 λitv s2 h2=>?_);obtain⟨it,fp,tn,J,H2,rfl,I2,T,st2,f2,W,⟨m0,w0⟩,turn⟩:=h2;refine wpAny_newObj_type (wpAny_newFunctionEnv hS.nocell (by intro y hy;simp at hy) (λh4 hns hsb=>?_) hS.kind);dsimp only at hns hsb ⊢;have hz:(s2.heap.push (ZA [] 0)).objs.size=s2.heap.objs.size+1:=da ..;have hk4:∀b o,(s2.heap.push (ZA [] 0)).get? b=some o->h4.get? b=some o:=λb o e=>hsb.extBut b o (aE (ap e)) (ah _ e);have hfo:∀b∈fp,∃o,s2.heap.get? b=some o:=λb hb=>let ⟨o,e,_⟩:=T.obj _ _ st2 b hb;⟨o,e⟩
 have fplt:∀b∈fp,b<s2.heap.objs.size:=λb hb=>let ⟨o,e⟩:=hfo b hb;ap e
 generalize hXc:JU X scope N (s2.heap.push (ZA [] 0)).objs.size {s2 with heap:=s2.heap.push (ZA [] 0)} H2 (s2.heap.objs.size::fp) (X.pn++pins)=Xc;have J0:∀tk,Inv Xc [(s2.heap.objs.size,ZA [] 0)] (inner cp σ) H2 {s2 with heap:=h4,toks:=tk}:=λtk=>by rw[<-hXc];exact QW hS hN I2 f2 hfo Jp hns hk4 rfl
 have hg':PG Xc tg g:=hXc▸hg _ _ _ _ _;have ht':PTs Xc ifs tc:=hXc▸ht _ _ _ _ _;have he':PE Xc elt te:=hXc▸he _ _ _ _ _;have eP:Xc.prog=X.prog:=by rw[<-hXc];rfl
 have eW:Xc.w=X.w:=by rw[<-hXc];rfl
 have eK:Xc.K=X.K:=by rw[<-hXc];rfl
 have eA:Xc.A=X.A:=by rw[<-hXc];rfl
 have eC:Xc.calm=true:=by rw[<-hXc];exact hc
 have eX:Xc.xe=NoX:=by rw[<-hXc];rfl
 have eE:Xc.env=compEnvC scope (clOf scope X.env) (s2.heap.push (ZA [] 0)).objs.size X.env:=by rw[<-hXc];rfl
 have eL:Xc.env.locals=(s2.heap.push (ZA [] 0)).objs.size:=by rw[eE];rfl
 have eFs:Xc.fs=frs X.stack:=by rw[<-hXc];rfl
 have eEx:Xc.ex=s2.heap.objs.size::fp:=by rw[<-hXc];rfl
 have eH0:Xc.H₀=H2:=by rw[<-hXc];rfl
 have eS0:Xc.s₀={s2 with heap:=s2.heap.push (ZA [] 0)}:=by rw[<-hXc];rfl
 have ePn:Xc.pn=X.pn++pins:=by rw[<-hXc];rfl
 have stk:∀b∈frs X.stack,b<s2.heap.objs.size:=λb hb=>by
  rcases aq.mp (I2.stkSub b hb)with e|e
  ·rw[e];exact I2.lt
  ·exact Nat.lt_of_not_le λz=>I2.nofs z e
 have hDne:s2.heap.objs.size≠Xc.env.locals:=by rw[eL,hz];exact aE (cq _)
 have hDfs:s2.heap.objs.size∉Xc.fs:=by rw[eFs];exact λz=>bJ _ (stk _ z)
 have hDp:∀p∈Xc.pn,p.1≠s2.heap.objs.size:=λp hp=>by rw[ePn]at hp;exact aE (ap (I2.pin p hp).1)
 have hDc:∀{τ:St}{H':Hp}{s':ag}{ps:List (ae×Obj)},Inv Xc ps τ H' s'->∀x c,Xc.env.cells.lookup x=some c->c≠s2.heap.objs.size:=λI' x c e=>(I'.ok.exf _ (by rw[eEx];exact ao)).2 x c e;have stat:∀{τ:St}{H':Hp}{s':ag}{ps:List (ae×Obj)}{o:Obj},Inv Xc ps τ H' s'->(∀b∈fp,H' b=none)->∀b∈fp,FpOk Xc [(s2.heap.objs.size,o)] H' b:=λI' hn b hb=>by
  have q:=I'.ok.exf b (by rw[eEx];exact am _ hb);refine⟨hn b hb,q.1,I'.ok.exfs b (by rw[eEx];exact am _ hb),.inl (by rw[eEx];exact am _ hb),q.2,λp hp=>?_⟩;rcases bp.mp hp with hp|hp
  ·rw[ePn]at hp;exact(f2 b hb).2.2.2.2.2 p hp
  ·have e:p.1=s2.heap.objs.size:=by rw[bi]at hp;rw[hp]
   rw[e];exact b5 (fplt b hb)
 have run:∀s5:ag,(∃tk,s5={s2 with heap:=h4,toks:=tk})->codeAny (model X.prog X.w) X.A (.compLoop (.ListComp elt [⟨tg,iter,ifs,0⟩] scope pos) 0 (.ref it) (.ref s2.heap.objs.size) Xc.env) (compPost (model X.prog X.w) X.A X.xe none (EP X pins σ Q) (.ref s2.heap.objs.size) (s2.heap.push (ZA [] 0)).objs.size) s5:=by
  rintro s5 ⟨tk,rfl⟩;refine G2 (λn s'=>∃i ys τ H' its k,Inv Xc [(s2.heap.objs.size,ZA its k)] τ H' s'/\Vals ys its/\tn i s'.heap/\(∀b∈fp,H' b=none)/\W i n ys τ H'/\ys.length<=av) ?_ m0 ⟨0,[],inner cp σ,H2,[],0,J0 tk,.nil,T.keep _ _ _ st2 λb hb o e=>hk4 b o (ah _ e),λb hb=>(f2 b hb).1,w0,bV _⟩;rintro n s3 ⟨i,ys,τ,H3,its,k,I3,rv,st3,fr3,w3,hl3⟩;rcases turn i n ys τ H3 w3 with⟨stop,qn⟩|⟨go,hl,Nw,hNw,step⟩
  ·have dn:=T.done Xc eP eW eK eC i _ s3 τ H3 NoX I3 (stat I3 fr3) st3 stop;rw[eA]at dn;refine thn dn λr s4 h90=>?_;obtain⟨hr,I4⟩:=h90;subst hr;obtain⟨m,hn,_⟩:=id I4.loc;rw[eL]at hn;refine⟨m,hn,λh' hs'=>?_⟩;obtain⟨eD,nD,_⟩:=I4.pin (s2.heap.objs.size,ZA its k) (aP _ ao);have u4:=I4.base;rw[eFs,eEx,eH0,eS0]at u4;have hD2:H2 s2.heap.objs.size=none:=I2.hok.fresh (aj _);have hfree:=I4.free;rw[eL]at hfree;have kp:∀b o,s2.heap.get? b=some o->(s2.heap.push (ZA [] 0)).get? b=some o:=λb o e=>ah _ e;have nD':∀b o,s2.heap.get? b=some o->b≠s2.heap.objs.size:=λb o e=>aE (ap e);have nC':∀b o,s2.heap.get? b=some o->b≠(s2.heap.push (ZA [] 0)).objs.size:=λb o e=>by rw[hz];exact aE (bK (ap e))
   have nex:∀b o,s2.heap.get? b=some o->b∉fp->b∉s2.heap.objs.size::fp:=λb o e hb z=>(aq.mp z).elim (nD' b o e) hb;refine⟨.ref s2.heap.objs.size,upd H3 s2.heap.objs.size (.lst ys),?_,rfl,qn _ nD⟩;refine I2.call' (s':={s4 with heap:=h'}) (ch:=fp) ?_ ⟨λb o e n hb hx=>?_,λb o e n hb hx=>?_,λb o e n hx=>?_,λb o e hx=>?_,λb xs q=>?_,λb o u q=>?_,λb ps q=>?_⟩ ?_ I4.bare λb hb=>?_
   ·have:=I4.os;rw[eS0]at this;exact this
   ·exact(hs'.2 b (nC' b o e)).trans (u4.keep b o (kp b o e) n hb (nex b o e hx))
   ·obtain⟨sl,q⟩:=u4.slot b o (kp b o e) n hb (nex b o e hx);exact⟨sl,(hs'.2 b (nC' b o e)).trans q⟩
   ·rw[Zj (nD' b o e)];exact u4.free b o (kp b o e) n (nex b o e hx)
   ·obtain⟨o',q⟩:=u4.there b o (kp b o e) (nex b o e hx);exact⟨o',(hs'.2 b (nC' b o e)).trans q⟩
   ·rw[Zj (Zk q hD2)];exact u4.tups b xs q
   ·rw[Zj (Zk q hD2)];exact u4.frzs b o u q
   ·rw[Zj (Zk q hD2)];exact u4.tbls b ps q
   ·intro b ob q;have keepC:∀c v,H3 c≠none->s4.heap.get? c=some v->h'.get? c=some v:=λc v hc q=>(hs'.2 c (λz=>hc (by rw[z];exact hfree))).trans q;by_cases hb:b=s2.heap.objs.size
    ·subst hb;rw[Ze]at q;cases q;exact⟨hl3,its,k,rv,(hs'.2 _ (by rw[hz];exact aE (cq _))).trans eD⟩
    ·rw[Zj hb]at q;have ok4:ZV X.prog X.w H3 s4.heap b ob:=by have:=I4.hok b ob q;rw[eP,eW]at this;exact this
     refine ok4.stay (λc v hc' q'=>keepC c v ?_ q') (λc q'=>by rw[Zj (Zk q' nD)];exact q') λc xs q'=>by rw[Zj (Zk q' nD)];exact q'
     rcases hc' with rfl|hc'
     ·rw[q];simp
     ·rw[hc'];simp
   ·obtain⟨g0,g1,g2,g3,g4,g5⟩:=f2 b hb;exact⟨g3,g1,g4,g5⟩
  ·have itm:=T.item Xc eP eW eK eC i _ s3 τ H3 NoX I3 (stat I3 fr3) st3 go;rw[eA]at itm;refine thn itm λr s4 h91=>?_;obtain⟨u,hr,h4'⟩:=h91;subst hr;refine thn h4' λ_ s5 h92=>?_;obtain⟨x,H5,I5,r5,y5,st5,fr5⟩:=h92;have I5':=I5.pinned (stat I5 fr5) (T.obj _ _ st5);have a1:=hg' _ s5 τ H5 x u _ I5' r5 (step x H5 y5);rw[eP,eW,eA,eX]at a1;refine thn a1 λ_ s6 h93=>?_;obtain⟨τ6,H6,I6,q6⟩:=h93;have a2:=ht' _ s6 τ6 H6 _ I6 q6;rw[eP,eW,eA,eX]at a2;refine thn a2 λok s7 h94=>?_;obtain⟨H7,I7,q7⟩:=h94;have tnAt:∀{τ':St}{H':Hp}{s':ag},Inv Xc ([(s2.heap.objs.size,ZA its k)]++Gx fp s5.heap) τ' H' s'->tn (i+1) s'.heap/\∀b∈fp,H' b=none:=λI'=>
    ⟨T.keep _ _ _ st5 λb hb o e=>(I'.pin (b,o) (aP _ (aP _ (mem_pinsAt hb e)))).1,λb hb=>by
     obtain⟨o,e,d⟩:=T.obj _ _ st5 b hb;exact(I'.pin (b,o) (aP _ (aP _ (mem_pinsAt hb e)))).2.1⟩;cases ok with
  |false=>rw[if_neg az]at q7;rw[if_neg az];obtain⟨m',hm,w7⟩:=hNw _ _ _ q7;exact⟨m',hm,i+1,ys,τ6,H7,its,k,I7.unpinned,rv,(tnAt I7).1,(tnAt I7).2,w7,hl3⟩
  |true=>
    rw[if_pos rfl]at q7;rw[if_pos rfl];have a3:=he' _ s7 τ6 H7 _ I7 q7;rw[eP,eW,eA,eX]at a3;refine thn a3 λv s8 h95=>?_;obtain⟨y,H8,I8,r8,q8⟩:=h95;obtain⟨m',hm,w8⟩:=hNw _ _ _ q8;obtain⟨eD,nD,_⟩:=I8.pin (s2.heap.objs.size,ZA its k) (aP _ (bg _ ao));have hlen:=rv.length;refine call_meets cC ⟨_,eD,rfl⟩ F.entry_list_append (F.args_list_append_2 _ _) (PySem.list_append s2.heap.objs.size its.toArray k v (by rw[ar];omega)) ⟨eD,?_⟩;have q0:=PySem.IsL.update eD (·.push v);obtain⟨k',q⟩:∃k',(s8.heap.update s2.heap.objs.size (bP (·.push v))).get? s2.heap.objs.size=some (ZA (its++[v]) k'):=⟨_,by
     have e:(its++[v]).toArray=its.toArray.push v:=by simp
     unfold ZA;rw[e];exact q0⟩;have I9:Inv Xc [] τ6 H8 s8:=I8.pins_of λp hp=>absurd (show p∈([]:List (ae×Obj))from hp) (by simp);refine⟨m',hm,i+1,ys++[y],τ6,H8,its++[v],k',?_,rv.append (.cons r8 .nil),T.keep _ _ _ (tnAt I8).1 λb hb o e=>?_,(tnAt I8).2,w8,?_⟩
    ·refine Inv.pins_of (pins:=[]) (I9.turned (t':=s8.toks) (it:=s2.heap.objs.size) (λb o hb e=>(aV _ _ (bL hb)).trans e) nD hDne (.inl (by rw[eEx];exact ao)) (hDc I9) (λp hp=>hDp p (by simpa using hp))) λp hp=>?_;have e:p=(s2.heap.objs.size,ZA (its++[v]) k'):=by simpa using hp
     subst e;exact⟨q,nD,hDne,hDfs,Jp⟩
    ·exact(aV _ _ (b5 (fplt b hb))).trans e
    ·rw[aT,List.length_singleton];omega
 have st4:tn 0 h4:=T.keep _ _ _ st2 λb hb o e=>hk4 b o (ah _ e);have fin:=codeAny_compStart_list (run _ ⟨_,rfl⟩) (T.self X.A 0 {s2 with heap:=h4,toks:=s2.toks+([]:List (Str×ac)).length} _ (notedBy (model X.prog X.w) X.A Xc.env λx s'=>(compPost (model X.prog X.w) X.A X.xe none (EP X pins σ Q) (.ref s2.heap.objs.size) (s2.heap.push (ZA [] 0)).objs.size) (.error x) s') st4 (run _ ⟨_,rfl⟩));rw[eE]at fin;exact fin
theorem Ly{bs:List Bool}:∀{us:List ac},Vals (bs.map V.bl) us->∀(i:Nat)(v:ac),us[i]?=some v->∃b,bs[i]?=some b/\v=.bool b:=by
 induction bs with
|nil=>intro us r i v e;rw[List.map_nil]at r;cases r;simp at e
|cons b bs ih=>
  intro us r i v e;rw[aQ]at r;cases r with
 |cons r1 r2=>
   cases i with
  |zero=>simp at e;subst e;exact⟨b,rfl,r1⟩
  |succ i=>obtain⟨b',h1,h2⟩:=ih r2 i v (by simpa using e);exact⟨b',by simpa using h1,h2⟩
theorem all_range(bs:List Bool):(bN bs.length).all (λi=>bs.getD i true)=bs.all id:=by
 rw[dU,cA,cA];constructor
 ·intro h b hb;obtain⟨i,hi⟩:=aY.mp hb;have hl:i<bs.length:=(ai.mp hi).1;have:=h i (dz.mpr hl);rw[a9,hi]at this;exact this
 ·intro h i hi;have hl:=dz.mp hi;rw[a9,List.getElem?_eq_getElem hl];exact h _ (aW hl)
theorem Lp(hc:X.calm=true):Xo X (.builtin "all") (λxs H Q=>∃(p:ae)(bs:List Bool),xs=[.ref p]/\SqL X.K H p (bs.map V.bl)/\Q (.bl (bs.all id)) H):=by
 intro pins s σ H xs us Q I r h;obtain⟨p,bs,rfl,hq,q⟩:=h;obtain⟨u,rfl,ru⟩:=vals1 r;cases ru;obtain⟨its,rv,pl,hz⟩:=I.list hq;have hl:=rv.length;rw[bA]at hl;refine call_all_walk (wpAny_pyIter_list pl.isList ?_);have hne:p≠s.heap.objs.size:=by obtain⟨o,n,e,_⟩:=pl;exact aE (ap e)
 refine⟨s.heap.objs.size,_,_,_,_,_,λi=>bs.getD i true,rfl,Walks.list (A:=X.A.in1) (I.ok.hd hc) s.heap.objs.size p hne its.toArray,⟨⟨_,aU _ rfl,rfl,rfl⟩,?_⟩,λi v s' Q' E' hp hQ=>?_,λh' tk kk=>?_⟩
 ·obtain⟨o,e,c,n,d⟩:=pl.isList;exact⟨o,ah _ e,c,n,d⟩
 ·obtain⟨b,hb,rfl⟩:=Ly rv i v (by simpa using hp);have:bs.getD i true=b:=by rw[a9,hb];rfl
  exact wpAny_truthy_bool (this▸hQ)
 ·have e:(bN its.toArray.size).all (λi=>bs.getD i true)=bs.all id:=by rw[ar,<-hl];exact all_range bs
  rw[e];refine⟨.bl (bs.all id),H,I.kept (t':=tk) λb o q=>?_,rfl,q⟩;exact kk b o (by simp;exact aE (ap q)) (ah _ q)
theorem LB{ys:List Str}:∀{us:List ac},Vals (ys.map V.str) us->StrsAre us ys:=by
 induction ys with
|nil=>intro us r;rw[List.map_nil]at r;cases r;exact .nil
|cons y ys ih=>
  intro us r;rw[aQ]at r;cases r with
 |cons r1 r2=>obtain⟨t,e⟩:=r1;subst e;exact .cons y t (ih r2)
theorem Tg:MtR X "str.join" (λx vs H Q=>∃(z:Str)(p:ae)(ys:List Str),x=.str z/\vs=[.ref p]/\SqL X.K H p (ys.map V.str)/\(ys.map (·.length)).sum+ys.length*z.length<=16777216/\Q (.str (Txt.join z ys)) H):=by intro pins s σ H x xs v us Q I rx rs h;obtain⟨z,p,ys,rfl,rfl,hq,hz,q⟩:=h;obtain⟨t,rfl⟩:=rx;obtain⟨u,rfl,ru⟩:=vals1 rs;cases ru;obtain⟨its,rv,pl,hl⟩:=I.list hq;exact join_list pl.isList (by simpa using LB rv) hz λt' k=>⟨.str (Txt.join z ys),H,I.tok k,⟨t',rfl⟩,q⟩
theorem RB:SlR X (λx lo hi H Q=>∃z,x=.str z/\z.length<=av/\Q (.str (Txt.slice z lo hi)) H):=by
 intro pins s σ H x v vl vu lo hi sl Q I rx hs pl pu h;obtain⟨z,rfl,hz,q⟩:=h;obtain⟨t,rfl⟩:=rx;have fin:∀t' k,EP X pins σ Q (.str (Txt.slice z lo hi) t') {s with toks:=k}:=λt' k=>⟨.str _,H,I.tok k,⟨t',rfl⟩,q⟩;have len:=ax (Txt.slice_le z lo hi) hz;refine⟨"str",_,PyProof.Rows.slot_str_getitem.lookup,typeIs_str _ _ _,?_⟩;obtain⟨o,ho,hc,hd⟩:=hs;cases pl with
|none=>
  cases pu with
 |none=>exact wpAny_getItem_str_slice (l:=none) (u:=none) (st:=none) ⟨o,ho,hc,hd⟩ rfl (post_val_or_str ⟨len,fin⟩)
 |int j uj=>exact wpAny_getItem_str_slice (l:=none) (u:=some (j,uj)) (st:=none) ⟨o,ho,hc,hd⟩ rfl (post_val_or_str ⟨len,fin⟩)
|int i ui=>
  cases pu with
 |none=>exact wpAny_getItem_str_slice (l:=some (i,ui)) (u:=none) (st:=none) ⟨o,ho,hc,hd⟩ rfl (post_val_or_str ⟨len,fin⟩)
 |int j uj=>exact wpAny_getItem_str_slice (l:=some (i,ui)) (u:=some (j,uj)) (st:=none) ⟨o,ho,hc,hd⟩ rfl (post_val_or_str ⟨len,fin⟩)
def FC(i j:Int):Prop:=0<j/\j.natAbs.log2<9000
theorem KJ:OpR X (binaryOp .FloorDiv) (rI FC λi j=>.int (i / j)):=opI λi j _ _ _ _ _ hc q=>by have h1:(0:Int)<j:=hc.1;exact floordiv_int (by omega) (by rw[Int.fdiv_eq_ediv_of_nonneg i (by omega)];exact q) (.inl (PyProof.noPylong_of_log2 hc.2))
theorem Lo:Xo X (.builtin "isinstance") (λxs H Q=>∃x c t b,xs=[x,.ty c]/\TyOf X.K H x t/\aR X.K t (.type c)=some b/\Q (.bl b) H):=by intro pins s σ H xs us Q I r h;obtain⟨x,c,t,b,rfl,ty,e,q⟩:=h;obtain⟨u,w',rfl,ru,rw'⟩:=vals2 r;cases rw';exact Ws I ru ty e λtk=>⟨.bl b,H,I.tok tk,rfl,q⟩
end
theorem GQ:bootBuiltins "int"=some (.type "int"):=by decide +kernel
theorem TU:bootBuiltins "bool"=some (.type "bool"):=by decide +kernel
theorem Sw:bootBuiltins "str"=some (.type "str"):=by decide +kernel
def Df(K:aa)(mg:Str->Option ac)(x:Str)(st:bc)(ps:List Str):Prop:=∃f fd,Fun K x x st f fd/\mg x=some (.ref f)/\Binds K fd ps []
def Can(P:aA)(w:aI)(K:aa)(mg:Str->Option ac)(base:aX)(k:Nat)(x:Str)(ps:List Str)(sp:Sp):Prop:=∃f fd,FnOk P w K mg base CX0 k f fd ps sp/\mg x=some (.ref f)/\bo K (.ref f)=true/\Binds K fd ps []
section
variable {P:aA}{w:aI}{K:aa}{mg:Str->Option ac}{base:aX}
theorem Can.mono{j k:Nat}{x:Str}{ps:List Str}{sp:Sp}(C:Can P w K mg base j x ps sp)(h:j<=k):Can P w K mg base k x ps sp:=by obtain⟨f,fd,F,r⟩:=C;exact⟨f,fd,F.mono h,r⟩
theorem Df.can{x:Str}{st:bc}{N ps:List Str}{k:Nat}{sp:Sp}(D:Df K mg x st ps)(S:FnScope N ps (Zg st))(len:∀vs H Q E,sp vs H Q E->vs.length=ps.length)(hbody:∀(f:ae)(cdv:ac)(A:ba)(outer:List Env)(s:ag)(H:Hp)(vs:List V)(Q:VK)(E:XK),Room k (A.deeper (envOfC x (Zg st) s.heap.objs.size f cdv))->sp vs H Q E ->∃t,PSs (cxOf CX0 P w K mg base N x (Zg st) f cdv A outer s H E).nox (ZR st) t/\t {nx:=λ_ H'=>Q .non H',rt:=Q} (start N vs) H):Can P w K mg base (k+1) x ps sp:=by obtain⟨f,fd,F,m,b⟩:=D;exact⟨f,fd,F.ok S len (λcdv A outer s H vs Q E hr h=>hbody f cdv A outer s H vs Q E hr h),m,F.kp,b⟩
end
section
variable {X:Cx}
theorem Z2{k:Nat}{x:Str}{ps:List Str}{sp:Sp}{p pos:Pos}{e:Expr}{es:List Expr}{t:TA}(C:Can X.prog X.w X.K X.mg X.base k x ps sp)(hr:Room k X.A)(hg:Gl X x)(ha:PA X (e::es) t)(hdb:(x==("__debug__":Str))=false:=by decide)(he:aO (e::es) X.env=(false,eval e X.env)::aO es X.env:=by rfl)(hpl:(backTo pos (aO es X.env)).any (·.1)=false:=by rfl):PE X (.Call (.Name x p) (e::es) [] pos) (NY sp [] E0 t):=by obtain⟨f,fd,F,m,kp,b⟩:=C;exact SZ F hr hg m kp b .nil Xw ha hdb he hpl
end
inductive Th(H:Hp):V->String->Prop where
|non:Th H .non "NoneType"
|bl (b:Bool):Th H (.bl b) "bool"
|int (i:Int):Th H (.int i) "int"
|str (z:Str) (h:z.length<=1000):Th H (.str z) "str"
|lst {a:ae}{xs:List V} (e:H a=some (.lst xs)):Th H (.ref a) "list"
|tup {a:ae}{xs:List V} (e:H a=some (.tup xs)):Th H (.ref a) "tuple"
|dK {a:ae}{kvs:List (Key×V)} (e:H a=some (.dK kvs)):Th H (.ref a) "dict"
theorem Th.ty{K:aa}{H:Hp}{v:V}{T:String}(h:Th H v T):TyOf K H v (.type T):=by
 cases h with
|non=>exact .non
|bl b=>exact .bl b
|int i=>exact .int i
|str z h=>exact .str z
|lst e=>exact .lst e
|tup e=>exact .tup e
|dK e=>exact .dK e
theorem Th.same{H H':Hp}(s:Same H H'){v:V}{T:String}(h:Th H v T):Th H' v T:=by
 cases h with
|non=>exact .non
|bl b=>exact .bl b
|int i=>exact .int i
|str z h=>exact .str z h
|lst e=>exact .lst (s _ _ e)
|tup e=>exact .tup (s _ _ e)
|dK e=>exact .dK (s _ _ e)
section
variable (K:aa)
theorem Eh:aR K (.type "NoneType") (.type "int")=some false:=by kernel_rfl
theorem Ei:aR K (.type "NoneType") (.type "bool")=some false:=by kernel_rfl
theorem Eg:aR K (.type "NoneType") (.type "str")=some false:=by kernel_rfl
theorem Eu:aR K (.type "bool") (.type "int")=some true:=by kernel_rfl
theorem Ew:aR K (.type "bool") (.type "bool")=some true:=by kernel_rfl
theorem Et:aR K (.type "bool") (.type "str")=some false:=by kernel_rfl
theorem En:aR K (.type "int") (.type "int")=some true:=by kernel_rfl
theorem Eo:aR K (.type "int") (.type "bool")=some false:=by kernel_rfl
theorem Em:aR K (.type "int") (.type "str")=some false:=by kernel_rfl
theorem Ee:aR K (.type "str") (.type "int")=some false:=by kernel_rfl
theorem Ef:aR K (.type "str") (.type "bool")=some false:=by kernel_rfl
theorem Ed:aR K (.type "str") (.type "str")=some true:=by kernel_rfl
theorem Ek:aR K (.type "list") (.type "int")=some false:=by kernel_rfl
theorem El:aR K (.type "list") (.type "bool")=some false:=by kernel_rfl
theorem Ej:aR K (.type "list") (.type "str")=some false:=by kernel_rfl
theorem Eb:aR K (.type "tuple") (.type "int")=some false:=by kernel_rfl
theorem Ec:aR K (.type "tuple") (.type "bool")=some false:=by kernel_rfl
theorem Ea:aR K (.type "tuple") (.type "str")=some false:=by kernel_rfl
theorem Er:aR K (.type "dict") (.type "int")=some false:=by kernel_rfl
theorem Es:aR K (.type "dict") (.type "bool")=some false:=by kernel_rfl
theorem Ep:aR K (.type "dict") (.type "str")=some false:=by kernel_rfl
end
noncomputable def EB:V->Bool
|.str _=>true
|_=>false
noncomputable def KS:V->Bool
|.int _=>true
|_=>false
noncomputable def Dz:V->Bool
|.bl _=>true
|_=>false
theorem Th.kitS{K:aa}{H:Hp}{v:V}{T:String}(h:Th H v T):aR K (.type T) (.type "str")=some (EB v):=by
 cases h with
|non=>exact Eg K
|bl b=>exact Et K
|int i=>exact Em K
|str z h=>exact Ed K
|lst e=>exact Ej K
|tup e=>exact Ea K
|dK e=>exact Ep K
theorem Th.kitB{K:aa}{H:Hp}{v:V}{T:String}(h:Th H v T):aR K (.type T) (.type "bool")=some (Dz v):=by
 cases h with
|non=>exact Ei K
|bl b=>exact Ew K
|int i=>exact Eo K
|str z h=>exact Ef K
|lst e=>exact El K
|tup e=>exact Ec K
|dK e=>exact Es K
theorem Th.kitI{K:aa}{H:Hp}{v:V}{T:String}(h:Th H v T):aR K (.type T) (.type "int")=some (KS v||Dz v):=by
 cases h with
|non=>exact Eh K
|bl b=>exact Eu K
|int i=>exact En K
|str z h=>exact Ee K
|lst e=>exact Ek K
|tup e=>exact Eb K
|dK e=>exact Er K
section
variable {X:Cx}
def tIsi(K:aa)(c:String)(te:TE):TE:=tCB (λxs H Q=>∃x c t b,xs=[x,.ty c]/\TyOf K H x t/\aR K t (.type c)=some b/\Q (.bl b) H) (JZ te (JZ (tC (.ty c)) tNil))
theorem Vh{e:Expr}{te:TE}{c:String}{cx:Str}{p p2 pos:Pos}(he:PE X e te)(hg:Gl X "isinstance")(hm:X.mg "isinstance"=none)(hg2:Gl X cx)(hm2:X.mg cx=none)(hb:bootBuiltins cx=some (.type c))(hn:cx≠"__name__":=by decide)(hd:(cx==("__debug__":Str))=false:=by decide)(hs:aO [e,.Name cx p2] X.env=(false,eval e X.env)::aO [.Name cx p2] X.env:=by rfl):PE X (.Call (.Name "isinstance" p) [e,.Name cx p2] [] pos) (tIsi X.K c te):=ZJ (p:=p) (pos:=pos) (Lo (X:=X)) hg hm PyProof.Rows.boot_isinstance (Zb he (Zb (P1 (v:=V.ty c) (pos:=p2) hg2 hm2 hb rfl hn hd) Zc) hs) (he:=hs)
end
def RecX(B:aX)(x:ae)(c:ac)(dd:Option ae)(fl:ac)(h:aX):Prop:=∃o vs,h.get? x=some o/\o.cls=c/\o.dict=dd/\o.data=.fields vs/\1<vs.size /\((vs[1]?=some .none/\fl=.none)\/∃T oT ts,vs[1]?=some (.ref T)/\B.get? T=none/\T≠x/\h.get? T=some oT/\oT.data=.fields ts/\ts[3]?=some fl)
structure Fly(B:aX)(l:List Env)(x:ae)(c:ac)(dd:Option ae)(fl:ac)(h:aX):Prop where
 keep:B.StaysIn h
 new:B.get? x=none
 frames:h.FunFrames B l
 row:RecX B x c dd fl h
theorem Wp(o:Obj)(f:Array ac->Array ac):(o.mapFields f).dict=o.dict:=by obtain⟨c,d,dt,sl⟩:=o;cases dt<;>rfl
theorem Xb{h:aX}{b T:ae}{o oT:Obj}{ts:Array ac}(hb:h.get? b=some o)(hn:∀vs,o.data≠.fields vs)(hT:h.get? T=some oT)(hd:oT.data=.fields ts):b≠T:=by rintro rfl;rw[hT]at hb;cases hb;exact hn ts hd
section
variable {M:Model}{A:ba}{E:ac->ag->Prop}{s:ag}{B:aX}{env:Env}{outer:List Env}{L x:ae}{c:ac}{dd:Option ae}{Q:Unit->ag->Prop}
theorem Pg{o:Obj}{vs:Array ac}{head:ac}{had:Bool}(hfr:A.frames=some (env::outer))(hf:env.frame=some L)(hl:s.heap.FunFrames B (env::outer))(hk:B.StaysIn s.heap)(hn:B.get? x=none)
  (hx:s.heap.get? x=some o) (hc:o.cls=c) (hdd:o.dict=dd) (hd:o.data=.fields vs) (hz:1<vs.size)
  (hQ:∀h',Fly B (env::outer) x c dd (rawInt L) h'->s.heap.UpToSlots h'->Q () {s with heap:=h'}):
  aB M A (do let fr <-frameOf env;let pl <-entryPlaceOf L had;let t <-EntryCells.newEntry head fr .none (rawInt L) .none pl;setField (.ref x) 1 t) Q E s:=by
 have xf:x∉(env::outer).filterMap (·.frame):=λhm=>by
  obtain⟨_,u,hu,hnf⟩:=hl.mem hm
  rw[hx]at hu
  cases hu
  exact hnf vs hd
 refine af (wpAny_frameOf_fun hfr hl hf λh1 so=>?_)
 refine af (wpAny_entryPlaceOf λpl hpl=>?_)
 unfold EntryCells.newEntry newFields
 refine af (wpAny_newObj_type ?_ (hpl.sizeOk5 _ _ _ _ _))
 have x1:h1.get? x=some o:=(so.2.1 x xf).trans hx
 have k1:B.StaysIn h1:=λb u hb=>(so.2.1 b λhm=>by rw[(hl.mem hm).1]at hb;cases hb).trans (hk b u hb)
 generalize hOT:({cls:=.type "traceback",dict:=none,data:=.fields ([head,.ref L,.none,rawInt L,.none]++(if pl.isEmpty then List.replicate 6 bq else pl)).toArray}:Obj)=oT
 have x2:(h1.push oT).get? x=some o:=ah _ x1
 have nT:h1.objs.size≠x:=b5 (ap x1)
 have d3:=dY hd (·.setIfInBounds 1 (ay h1.objs.size))
 have x3:=bz (Obj.mapFields (·.setIfInBounds 1 (ay h1.objs.size))) x2 (Obj.isFreed_of_fields d3)
 refine wpAny_setField x2 hd hz (hQ _ ?_ ?_)
 ·have other:∀b u,b≠x->h1.get? b=some u->((h1.push oT).update x (Obj.mapFields (·.setIfInBounds 1 (ay h1.objs.size)))).get? b=some u:=λb u hb q=>by
   rw[aV _ _ (bL hb)]
   exact ah _ q
  refine⟨λb u hb=>other b u (λq=>by rw[q,hn]at hb;cases hb) (k1 b u hb),hn,hl.of_keeps λb u hb hnf=>?_,?_⟩
  ·obtain⟨sl,q⟩:=so.2.2 b u hb
   exact⟨_,other b _ (Xb hb hnf hx hd) q,rfl⟩
  ·have oTf:oT.isFreed=false:=by rw[<-hOT];rfl
   refine⟨_,_,x3,(Obj.cls_mapFields _ _).trans hc,(Wp _ _).trans hdd,d3,by simpa using hz,.inr ⟨h1.objs.size,oT,([head,.ref L,.none,rawInt L,.none]++(if pl.isEmpty then List.replicate 6 bq else pl)).toArray,by simp[hz],k1.fresh,nT,?_,by rw[<-hOT],?_⟩⟩
   ·rw[aV _ _ (bL nT)]
    exact aU h1 oTf
   ·first
    |(simp;done)
    |(rcases hpl with rfl|⟨_,_,_,_,_,_,_,rfl⟩<;>simp)
 ·intro b u hb hnf
  obtain⟨sl,q⟩:=so.2.2 b u hb
  refine⟨sl,?_⟩
  rw[aV _ _ (bL (Xb hb hnf hx hd))]
  exact ah _ q
theorem QZ(hfr:A.frames=some (env::outer))(hf:env.frame=some L)(F:Fly B (env::outer) x c dd .none s.heap)(hQ:∀h',Fly B (env::outer) x c dd (rawInt L) h'->s.heap.UpToSlots h'->Q () {s with heap:=h'}):aB M A (noteFrame (.ref x) env) Q E s:=by
 obtain⟨o,vs,hx,hc,hdd,hd,hz,tr⟩:=F.row;unfold noteFrame;simp only[hf];rcases tr with⟨h1,_⟩|⟨T,oT,ts,h1,bT,nT,hT,hdT,h3⟩
 ·refine af (bD hx hd h1 ?_);rw[if_neg (by decide)];exact Pg hfr hf F.frames F.keep F.new hx hc hdd hd hz hQ
 ·refine af (bD hx hd h1 ?_);rw[if_pos (show(ay T != bq)=true from by simp)];refine af (bD hT hdT h3 ?_);rw[if_neg (show ¬((bq==rawInt L)=true)from by simp[rawInt])];refine af (wpAny_setField hT hdT (Array.getElem?_eq_some_iff.mp h3).1 ?_);have other:∀b,b≠T->(s.heap.update T (Obj.mapFields (·.setIfInBounds 3 bq))).get? b=s.heap.get? b:=λb hb=>aV _ _ (bL hb);refine Pg hfr hf (F.frames.of_keeps λb u hb hnf=>⟨u,(other b (Xb hb hnf hT hdT)).trans hb,rfl⟩) (λb u hb=>(other b λq=>by rw[q,bT]at hb;cases hb).trans (F.keep b u hb)) F.new ((other x (bL nT)).trans hx) hc hdd hd hz λh' F' U=>hQ h' F' λb u hb hnf=>U b u ((other b (Xb hb hnf hT hdT)).trans hb) hnf
theorem Q0{l:List Env}{fl:ac}(F:Fly B l x c dd fl s.heap)(hQ:∀h',Fly B l x c dd .none h'->s.heap.UpToSlots h'->Q () {s with heap:=h'}):aB M A (setFlight (.ref x) none) Q E s:=by
 obtain⟨o,vs,hx,hc,hdd,hd,hz,tr⟩:=F.row;unfold setFlight;rcases tr with⟨h1,e⟩|⟨T,oT,ts,h1,bT,nT,hT,hdT,h3⟩
 ·subst e;refine af (bD hx hd h1 ?_);rw[if_neg (by decide)];exact au (hQ _ F (.refl _))
 ·have z3:3<ts.size:=(Array.getElem?_eq_some_iff.mp h3).1;refine af (bD hx hd h1 ?_);rw[if_pos (show(ay T != bq)=true from by simp)];have other:∀b,b≠T->(s.heap.update T (Obj.mapFields (·.setIfInBounds 3 ((none:Option ae).elim bq λf=>rawInt f)))).get? b=s.heap.get? b:=λb hb=>aV _ _ (bL hb);refine wpAny_setField hT hdT z3 (hQ _ ⟨λb u hb=>(other b λq=>by rw[q,bT]at hb;cases hb).trans (F.keep b u hb),F.new,F.frames.of_keeps λb u hb hnf=>⟨u,(other b (Xb hb hnf hT hdT)).trans hb,rfl⟩,?_⟩ λb u hb hnf=>⟨u.slots,(other b (Xb hb hnf hT hdT)).trans hb⟩);exact⟨o,vs,(other x (bL nT)).trans hx,hc,hdd,hd,hz,.inr ⟨T,_,_,h1,bT,nT,bz _ hT (Obj.isFreed_of_fields (dY hdT _)),dY hdT _,by simp[z3]⟩⟩
theorem Wx(hfr:A.frames=some (env::outer))(hf:env.frame=some L)(F:Fly B (env::outer) x c dd .none s.heap)(hQ:∀h',Fly B outer x c dd .none h'->s.heap.UpToSlots h'->Q () {s with heap:=h'}):aB M A (leaving env (.ref x)) Q E s:=by unfold leaving;refine af (QZ hfr hf F λh1 F1 U1=>?_);refine Q0 (s:={s with heap:=h1}) F1 λh2 F2 U2=>?_;exact hQ h2 ⟨F2.keep,F2.new,F2.frames.2.2,F2.row⟩ (U1.trans U2)
end
structure BaseX(B:aX)(fs:List ae)(x:ae)(H H':Hp)(h:aX):Prop where
 trk:∀b u,H' b=some u->∃o,B.get? b=some o
 old:∀b o,h.get? b=some o->H b=none->b∉fs->B.get? b=some o
 all:∀b o,h.get? b=some o->b∈fs\/b=x\/∃o',B.get? b=some o'
 xn:H' x=none
noncomputable def CX1(P:aA)(w:aI):CXT:=λouter H s E e s'=>∃(x:ae)(c:ac)(dd:Option ae)(B:aX)(H':Hp),e=.ref x/\s'.os=s.os/\AllBare s'.gens/\Un (frs outer) [] H H' s.heap s'.heap/\HOk P w H' s'.heap /\Fly B outer x c dd .none s'.heap/\BaseX B (frs outer) x H H' s.heap/\E c dd H'
theorem QX{P:aA}{w:aI}{H:Hp}{h h' B:aX}(ok:HOk P w H h)(trk:∀b u,H b=some u->∃o,B.get? b=some o)(k:B.StaysIn h)(k':B.StaysIn h'):HOk P w H h':=λb u e=>by
 have go:∀c v,H c≠none->h.get? c=some v->h'.get? c=some v:=λc v hc q=>by
  cases e':H c with
 |none=>exact absurd e' hc
 |some u'=>obtain⟨o,ho⟩:=trk c u' e';have:=k c o ho;rw[q]at this;cases this;exact k' c _ ho
 refine(ok b u e).stay (λc v hc q=>go c v ?_ q) (λ_ q=>q) λ_ _ q=>q;rcases hc with rfl|hc
 ·rw[e];simp
 ·rw[hc];simp
section
variable {P:aA}{w:aI}{K:aa}{mg:Str->Option ac}{base:aX}{N:List Str}{qual:Str}{scope:bH}{f:ae}{cd:ac}{A:ba}{outer:List Env}{s:ag}{H:Hp}{E:XK}
theorem KQ{pins:List (ae×Obj)}{σ:St}{H1:Hp}{s1:ag}{x:ae}{c:ac}{dd:Option ae}{B:aX}(I:Inv (cxOf (CX1 P w) P w K mg base N qual scope f cd A outer s H E) pins σ H1 s1)(F:Fly B (cxOf (CX1 P w) P w K mg base N qual scope f cd A outer s H E).stack x c dd .none s1.heap)(b:BaseX B (frs outer) x H H1 s.heap)(hE:E c dd H1):(cxOf (CX1 P w) P w K mg base N qual scope f cd A outer s H E).xe (.ref x) s1:=by
 refine Wx (L:=s.heap.objs.size) I.ok.frames rfl F λh2 F2 U=>?_;have un:Un (frs outer) [] H H1 s.heap s1.heap:=I.base;refine⟨x,c,dd,B,H1,rfl,I.os,I.bare,⟨λd o e n hd _=>F2.keep d o (b.old d o e n hd),λd o e n hd _=>?_,un.free,λd o e _=>?_,un.tups,un.frzs,un.tbls⟩,QX I.hok b.trk F.keep F2.keep,F2,b,hE⟩
 ·obtain⟨sl,q⟩:=un.slot d o e n hd (by simp);obtain⟨_,o',ho',hnf⟩:=I.ok.funs.mem hd;have eo:o'=o:=by have:s.heap.get? d=some o':=ho';rw[e]at this;exact(aH this).symm
  subst eo;obtain⟨sl2,q2⟩:=U d _ q hnf;exact⟨sl2,q2⟩
 ·rcases b.all d o e with z|z|⟨o',z⟩
  ·obtain⟨_,o2,ho2,hnf⟩:=I.ok.funs.mem z;have ho2':s.heap.get? d=some o2:=ho2;obtain⟨sl,q⟩:=un.slot d o2 ho2' (I.ok.frf d z) z (by simp);obtain⟨sl2,q2⟩:=U d _ q hnf;exact⟨_,q2⟩
  ·subst z;obtain⟨o3,_,q,_⟩:=F2.row;exact⟨o3,q⟩
  ·exact⟨o',F2.keep d o' z⟩
theorem BaseX.up{X:Cx}{pins:List (ae×Obj)}{σ:St}{H1 H2:Hp}{s1:ag}{x:ae}{B:aX}(I:Inv X pins σ H1 s1)(hex:X.ex=[])(b:BaseX B (frs X.stack) x H1 H2 s1.heap):BaseX B X.fs x X.H₀ H2 X.s₀.heap:=by
 have low:∀d o,X.s₀.heap.get? d=some o->d∈frs X.stack->d∈X.fs:=λd o e hd=>by
  rcases aq.mp (I.stkSub d hd)with z|z
  ·exact absurd (aD (ap e) I.ok.above) (by rw[z];exact bJ _)
  ·exact z
 refine⟨b.trk,λd o e n hd=>?_,λd o e=>?_,b.xn⟩
 ·exact b.old d o (I.base.keep d o e n hd (by rw[hex];simp)) (I.base.free d o e n (by rw[hex];simp)) λz=>hd (low d o e z)
 ·obtain⟨o1,e1⟩:=I.base.there d o e (by rw[hex];simp);rcases b.all d o1 e1 with z|z|z
  ·exact .inl (low d o e z)
  ·exact .inr (.inl z)
  ·exact .inr (.inr z)
theorem Z1:Y9 (CX1 P w) (cxOf (CX1 P w) P w K mg base N qual scope f cd A outer s H E) E:=by intro pins σ H1 s1 e s2 I h;obtain⟨x,c,dd,B,H2,rfl,os,bare,un,hok,F,b,hE⟩:=h;have I2:Inv (cxOf (CX1 P w) P w K mg base N qual scope f cd A outer s H E) pins σ H2 s2:=I.call' os un hok bare λb z=>absurd z (by simp);exact KQ I2 F (BaseX.up I rfl b) hE
end
noncomputable abbrev bmV:List ac:=[.type "ValueError",.type "Exception",.type "BaseException",.type "object"]
structure XC(K:aa)(C fI Qa:ae):Prop where
 obj:∃nm q N bs sn sub ab col dd k0 k1 k2 k3 k5,K.lookup C=some (excClassObj nm q C N bs (.ref Qa::bmV) true sn sub ab col dd k0 k1 k2 k3 k5 "ValueError.__new__") /\
  PySem.W.nsOkIn K N=true/\bE K N "__init__"=some (some (.ref fI))
 tail:PySem.W.tailIn K bmV (.ref Qa::bmV)=true
 fn:∃o,K.lookup fI=some o/\o.cls=.type "function"
 sa:aF K (.ref C) "__setattr__"=some (some (.builtin "object.__setattr__"))
 ob:PySem.W.mroIn K C (.type "object")=some true
theorem RN{K:aa}{h:aX}{N:ae}{mg:Str->Option ac}{n:Str}{v:ac}(X:K.In h)(G:h.Ns N mg)(e:bE K N n=some (some v)):mg n=some v:=by
 obtain⟨o,es,ep,ho,hd,_,hf⟩:=G;unfold bE at e;split at e
 ·rename_i c d es' n' sl q;have this:=X _ _ q;rw[ho]at this;cases this;cases hd;split at e
  ·rename_i en he;cases e;rw[<-hf];unfold nsFind findBy;rw[<-Array.find?_toList,he];rfl
  ·split at e<;>cases e
 ·cases e
section
variable {prog:aA}{w:aI}{A:ba}{E:ac->ag->Prop}{K:aa}{C fI Qa:ae}{h:aX}{g:Array GenState}{d:Drawn}{t:Nat}{os:OsState}{rest:List ac}
theorem Rl{Q:Fin->ag->Prop}(X:K.In h)(c:XC K C fI Qa)(hz:rest.length<=av)(hq:∀h' e,h.objs.size<=e->Heap.MadeExcOf h h' e (.ref C) rest->aB (model prog w) A (call (.ref fI) (.ref e::rest)) (λr s'=>r=.none/\Q (.done (.ret (.ref e))) s') E ⟨h',g,d,t,os⟩):aB (model prog w) A (Builtin.«type.__call__» ⟨.ref C::rest,[]⟩) Q E ⟨h,g,d,t,os⟩:=by
 obtain⟨nm,q,N,bs,sn,sub,ab,col,dd,k0,k1,k2,k3,k5,lk,nok,hin⟩:=c.obj;obtain⟨oI,lI,cI⟩:=c.fn;have FV:=PySem.F.excBase_ValueError;have hC:=X _ _ lk;have hN:h.Ns N (h.nsMap N):=.of_isNs (PySem.W.isNs_of_in X nok);have hI:h.nsMap N "__init__"=some (.ref fI):=RN X hN hin;have TL:OwnTail h bmV (.ref Qa::bmV):=PySem.W.tail_of_in X c.tail;repeat (first|with_reducible refine wpAny_loadPart_at hC ?_|(with_reducible refine wpAny_madeBy_exc hC ?_)|wp_step)
 refine codeAny_call_builtin_code (Code.quiet_builtin _ FV.quiet) (wpAny_check_new_subU FV FV.hasB TL hC ?_);refine codeAny_exc_new_subU FV FV.hasB FV TL hC ?_ hz;show aB _ _ _ _ _ _;generalize hh1:(h.push {cls:=.type "tuple",data:=.seq rest.toArray}).push {cls:=.ref C,data:=.fields #[.ref h.objs.size,.none,.none,.none,.bool false,.none]}=h1;have k1':∀b o,h.get? b=some o->h1.get? b=some o:=λb o e=>by rw[<-hh1];exact ah _ (ah _ e)
 have ge:h1.get? (h.objs.size+1)=some {cls:=.ref C,data:=.fields #[.ref h.objs.size,.none,.none,.none,.bool false,.none]}:=by rw[<-hh1];heap_get
 have gt:h1.get? h.objs.size=some {cls:=.type "tuple",data:=.seq rest.toArray}:=by rw[<-hh1];exact ah _ (Heap.get?_push_at rfl rfl)
 have hC1:=k1' _ _ hC;have hcC:(ay C::.ref Qa::bmV).contains (.ref C)=true:=by simp
 unfold isInstance;repeat (first|with_reducible refine wpAny_loadPart_at ge ?_|(with_reducible refine wpAny_isSubtype_exc hC1 ?_;rw[hcC])|wp_step)
 show aB _ _ (typeLookup (.ref C) _) _ _ _;refine wpAny_typeLookup_tail hC1 (hN.keeps k1') (TL.keeps k1') FV.mroIs FV.init.lookup ?_;rw[hI];refine bw (af (m:=bindSpecial _ _) ?_);unfold bindSpecial;refine af (wpAny_typeOf (T:="function") ⟨_,k1' _ _ (X _ _ lI),cI⟩ ?_);rw[if_pos (by decide)];have mk:Heap.MadeExcOf h h1 (h.objs.size+1) (.ref C) rest:=⟨k1',Heap.get?_none_of_le (Nat.le_succ _),h.objs.size,ge,Heap.get?_none_of_le (aj _),gt⟩;refine au (af (wpAny_mono (hq h1 _ (Nat.le_succ _) mk) (λr s' hr=>?_) λ_ _ z=>z));obtain⟨rfl,hQ⟩:=hr;wp_walk;exact hQ
theorem ET{Q:ac->ag->Prop}(X:K.In h)(c:XC K C fI Qa)(hz:rest.length<=av)(hq:∀h' e,h.objs.size<=e->Heap.MadeExcOf h h' e (.ref C) rest->aB (model prog w) (A.under (.builtin "type.__call__" ⟨.ref C::rest,[]⟩)) (call (.ref fI) (.ref e::rest)) (λr s'=>r=.none/\Q (.ref e) s') E ⟨h',g,d,t,os⟩):aB (model prog w) A (call (.ref C) rest) Q E ⟨h,g,d,t,os⟩:=by
 obtain⟨nm,q,N,bs,sn,sub,ab,col,dd,k0,k1,k2,k3,k5,lk,nok,hin⟩:=id c.obj;have hC:=X _ _ lk;have f1:=tc_lookup;have f2:=tc_bind (.ref C);have hT:(⟨h,g,d,t,os⟩:ag).TypeIs (.ref C) "type":=⟨_,hC,rfl⟩;refine wpAny_call (codeAny_of_tree ?_);show aB _ _ (callAny (.ref C) _) _ _ _;repeat (any_goals (first|assumption|with_reducible refine wpAny_loadPart_at hC ?_|wp_step))
 refine⟨rfl,codeAny_call_builtin_at (Code.quiet_builtin _ (by decide +kernel)) entry_typeCall (wpAny_check_type_call_sub hC ?_)⟩;exact Rl X c hz λh' e he hm=>hq h' e he hm
theorem Pw{x:ae}{name:Str}{v:ac}{mA:Str->Option ac}{tk:Tok}{Q:Fin->ag->Prop}{ns:List Str}(X:K.In h)(c:XC K C fI Qa)(hna:aF K (.ref C) name=some none)(I:h.Inst x C mA)(hw:Within mA ns)(hz:ns.length<=1000)(hq:∀h' tk',h'.Inst x C (λy=>if y=name then some v else mA y) ->(∀b o,b≠x->(∀o₀ dx,h.get? x=some o₀->o₀.dict=some dx->b≠dx)->h.get? b=some o->h'.get? b=some o) ->(∀o₀,h.get? x=some o₀->∃o₁ d₁,h'.get? x=some o₁/\o₁.cls=o₀.cls/\o₁.data=o₀.data/\o₁.dict=some d₁/\((o₀.dict=some d₁)\/(o₀.dict=none/\h.get? d₁=none)))->Q (.done (.ret .none)) ⟨h',g,d,tk',os⟩):aB (model prog w) A (Builtin.«object.__setattr__» ⟨[.ref x,.str name tk,v],[]⟩) Q E ⟨h,g,d,t,os⟩:=by
 obtain⟨nm,q,N,bs,sn,sub,ab,col,dd,k0,k1,k2,k3,k5,lk,nok,hin⟩:=c.obj;have hC:=X _ _ lk;obtain⟨o,hx,hc,hnc,hd⟩:=I;have hpass:=PySem.F.store_ValueError.passes (.ref x);have LN:=PySem.W.looks_findIn (M:=model prog w) X hna;unfold Builtin.«object.__setattr__»;repeat (first|rw[refuse_eq]|(rw[refuseLoop_ref,refuseLoop_ref,hpass])|(with_reducible refine wpAny_loadPart_at hx ?_;rw[hc])|(with_reducible refine wpAny_mroOf_exc hC ?_)|(with_reducible refine LN.at ?_)|wp_step)
 rcases hd with⟨hdn,hmA⟩|⟨dx,hdx,hne,hns⟩
 ·rw[hdn,if_neg (by simp[typeHasDict])];split
  ·rename_i hcd;cases hcd
  split
  ·rename_i cc hcd;exact absurd hcd (hnc cc)
  ·have xs:x≠h.objs.size:=aE (ap hx);have dn:h.get? h.objs.size=none:=Heap.get?_none_of_le (aj _);have x1:(h.push {cls:=.type "dict",data:=.dict #[]}).get? x=some o:=ah _ hx;refine af (wpAny_alloc' (af (wpAny_update' x1 (au ?_))));generalize hU:(h.push {cls:=.type "dict",data:=.dict #[]}).update x (λo=>{cls:=o.cls,dict:=some h.objs.size,data:=o.data,slots:=o.slots})=hu;have gd:hu.get? h.objs.size=some {cls:=.type "dict",data:=.dict #[]}:=by rw[<-hU];exact(Heap.get?_update_ne _ _ _ _ xs.symm).trans (Heap.get?_push_at rfl rfl)
   have gx:hu.get? x=some {cls:=o.cls,dict:=some h.objs.size,data:=o.data,slots:=o.slots}:=by rw[<-hU];refine bz _ x1 ?_;have hfr:=(Heap.get?_some_iff.mp hx).2;obtain⟨oc,od,odt,osl⟩:=o;cases odt<;>first|rfl|exact hfr
   have nd:hu.Ns h.objs.size (λ_=>none):=⟨_,#[],_,gd,rfl,λe he=>absurd he (by simp),λ_=>rfl⟩;have ob:∀b u,b≠x->h.get? b=some u->hu.get? b=some u:=λb u hb e=>by rw[<-hU];exact(Heap.get?_update_ne _ _ _ _ hb).trans (ah _ e)
   show aB _ _ (cz h.objs.size (.str name tk) name v) _ _ _;unfold cz Builtin.ObjectAttr.newKeyGuard;refine af (au (af (wpAny_nsSet1 (Heap.Ns1.of_empty nd) λh2 n2 s2=>?_)));obtain⟨oD,esD,epD,hoD,hdD,hcD⟩:=n2.count (Within.cons name v Within.nil);refine af (wpAny_lookBehind hoD (by rw[hdD];exact pastItsLine_dict (ax hcD (by rw[bh,List.length_nil,sizeLine_eq];omega))) ?_);wp_walk;have gx2:h2.get? x=some {cls:=o.cls,dict:=some h.objs.size,data:=o.data,slots:=o.slots}:=(s2.2 x xs).trans gx;refine hq h2 _ ⟨_,gx2,hc,hnc,.inr ⟨h.objs.size,rfl,xs.symm,?_⟩⟩ (λb u hb _ e=>(s2.2 b (aE (ap e))).trans (ob b u hb e)) λo₀ e₀=>?_
   ·obtain⟨o',es,ep,e1,e2,e3,eu,e4⟩:=n2;exact⟨o',es,ep,e1,e2,e3,eu,λy=>by rw[e4 y];by_cases hy:y=name<;>simp[hy,hmA]⟩
   ·have eo:o=o₀:=aH (hx.symm.trans e₀);subst eo;exact⟨_,h.objs.size,gx2,rfl,rfl,rfl,.inr ⟨hdn,dn⟩⟩
 ·rw[hdx];refine au ?_;show aB _ _ (cz dx (.str name tk) name v) _ _ _;unfold cz Builtin.ObjectAttr.newKeyGuard;refine af (au (af (wpAny_nsSet1 hns λh2 n2 s2=>?_)));obtain⟨oD,esD,epD,hoD,hdD,hcD⟩:=n2.count (Within.cons name v hw);refine af (wpAny_lookBehind hoD (by rw[hdD];exact pastItsLine_dict (ax hcD (by rw[bh,sizeLine_eq];omega))) ?_);wp_walk;have gx2:=(s2.2 x hne.symm).trans hx;refine hq h2 _ ⟨o,gx2,hc,hnc,.inr ⟨dx,hdx,hne,n2⟩⟩ (λb u _ hbd e=>(s2.2 b (hbd o dx hx hdx)).trans e) λo₀ e₀=>?_;have eo:o=o₀:=aH (hx.symm.trans e₀);subst eo;exact⟨_,dx,gx2,rfl,rfl,hdx,.inl hdx⟩
end
noncomputable def ErrN(x C:ae)(dd:Option ae):HO:=.ext λh=>∃o vs,h.get? x=some o/\o.cls=.ref C/\o.dict=dd/\o.data=.fields vs/\1<vs.size/\vs[1]?=some .none
noncomputable def XD(d:ae)(fs:List (Str×V)):HO:=.ext λh=>∃mA,h.Ns1 d mA/\(∀f,RelO (fs.lookup f) (mA f))/\dA mA (fs.map (·.1))/\fs.length<=1000
section
variable {P:aA}{w:aI}{H:Hp}{h:aX}{x C d:ae}{dd:Option ae}{fs:List (Str×V)}
theorem Jq:ZV P w H h x (ErrN x C dd)↔∃o vs,h.get? x=some o/\o.cls=.ref C/\o.dict=dd/\o.data=.fields vs/\1<vs.size/\vs[1]?=some .none:=by
 constructor
 ·intro z;exact z.1
 ·rintro ⟨o,vs,hx,r⟩;exact⟨⟨o,vs,hx,r⟩,⟨o,hx⟩,λh1 h2⟨o',vs',e,r'⟩k=>⟨o',vs',k _ e,r'⟩⟩
theorem SE:ZV P w H h d (XD d fs)↔∃mA,h.Ns1 d mA/\(∀f,RelO (fs.lookup f) (mA f))/\dA mA (fs.map (·.1))/\fs.length<=1000:=by
 constructor
 ·intro z;exact z.1
 ·rintro ⟨mA,⟨o,es,ep,e,r⟩,q⟩;exact⟨⟨mA,⟨o,es,ep,e,r⟩,q⟩,⟨o,e⟩,λh1 h2⟨m,⟨o',es',ep',e',r'⟩,q'⟩k=>⟨m,⟨o',es',ep',k _ e',r'⟩,q'⟩⟩
end
section
variable {X:Cx}{pins:List (ae×Obj)}{σ:St}{H:Hp}{s:ag}{x C fI Qa:ae}{name:Str}{y:V}{u:ac}{Q:Unit->ag->Prop}
theorem Qo{A:ba}{E:ac->ag->Prop}{mA:Str->Option ac}{ns:List Str}(I:Inv X pins σ H s)(c:XC X.K C fI Qa)(hna:aF X.K (.ref C) name=some none)(In:s.heap.Inst x C mA)(hw:dA mA ns)(hz:ns.length<=1000)(hq:∀h' tk',h'.Inst x C (λz=>if z=name then some u else mA z) ->(∀b o,b≠x->(∀o₀ dx,s.heap.get? x=some o₀->o₀.dict=some dx->b≠dx)->s.heap.get? b=some o->h'.get? b=some o) ->(∀o₀,s.heap.get? x=some o₀->∃o₁ d₁,h'.get? x=some o₁/\o₁.cls=o₀.cls/\o₁.data=o₀.data/\o₁.dict=some d₁/\((o₀.dict=some d₁)\/(o₀.dict=none/\s.heap.get? d₁=none)))->Q () {s with heap:=h',toks:=tk'}):aB (model X.prog X.w) A (setAttr (.ref x) name u) Q E s:=by
 have KX:=I.kIn;obtain⟨o,hx,hc,hnc,hd⟩:=id In;have no:PySem.W.notCls o=true:=by
  unfold PySem.W.notCls;split
  ·rename_i cc e;exact absurd e (hnc cc)
  ·rfl
 obtain⟨od,IA⟩:∃od,PySem.W.InstAt s.heap x o C od:=by
  rcases hd with⟨e,_⟩|⟨dx,e,_,oD,es,ep,hD,_⟩
  ·exact⟨none,hx,hc,no,by rw[e];trivial⟩
  ·exact⟨some oD,hx,hc,no,by rw[e];exact hD⟩
 have SF:=PySem.F.store_object;refine PySem.W.set_plain KX IA c.sa ?_;have sub:PySem.W.Looks (model X.prog X.w) s.heap (isInstance (.ref x) (.type "object")) true:=IA.type.andThen (PySem.W.looks_mroIn KX c.ob);refine codeAny_call_builtin SF.slot.plain SF.entry (@PySem.W.check_slot (model X.prog X.w) _ _ {s with toks:=s.toks+1} "object.__setattr__" "object" "__setattr__" (.ref x) [.str name s.toks,u] [] _ SF.kind SF.split sub (SF.args (.ref x) (.str name s.toks) u) ?_);exact Pw (h:=s.heap) (g:=s.gens) (d:=s.drawn) (t:=s.toks+1) (os:=s.os) KX c hna In hw hz λh' tk' I' kk same=>hq h' tk' I' kk same
end
def J4(H:Hp)(h:aX)(d:ae):Prop:=(H d=none/\h.get? d=none)\/∃φ,H d=some (.ext φ)
section
variable {P:aA}{w:aI}{H:Hp}{h h':aX}{x d:ae}{o1 o2:HO}{fs:List ae}
theorem J4.ne{b:ae}{u:HO}(q:J4 H h d)(e:H b=some u)(hu:∀φ,u≠.ext φ):b≠d:=by
 rintro rfl;rcases q with⟨z,_⟩|⟨φ,z⟩
 ·rw[e]at z;cases z
 ·rw[e]at z;cases z;exact hu φ rfl
theorem VT{b:ae}(hx:b≠x)(hd:b≠d):upd (upd H d o1) x o2 b=H b:=by rw[Zj hx,Zj hd]
theorem QO{a:ae}{o:HO}(z:ZV P w H h a o):∃ob,h.get? a=some ob:=by
 induction o with
|lst xs=>obtain⟨_,_,_,_,e⟩:=z;exact⟨_,e⟩
|tup xs=>obtain⟨_,_,_,ob,e,_⟩:=z;exact⟨_,e⟩
|dK kvs=>obtain⟨_,_,_,_,ob,_,_,e,_⟩:=z;exact⟨_,e⟩
|dT kvs=>obtain⟨_,_,_,_,ob,_,_,e,_⟩:=z;exact⟨_,e⟩
|set S n=>obtain⟨ob,_,_,_,e,_⟩:=z;exact⟨_,e⟩
|ins C dx fs=>obtain⟨_,_,_,e,_⟩:=z;exact⟨_,e⟩
|own y=>exact z
|xd fs=>obtain⟨_,⟨ob,_,_,e,_⟩,_⟩:=z;exact⟨_,e⟩
|rng lo hi=>obtain⟨_,_,_,e⟩:=z;exact⟨_,e⟩
|frz ob u ih=>exact⟨_,z.1⟩
|tbl ps=>exact⟨_,z⟩
|met f y=>exact⟨_,z⟩
|ext φ=>exact z.2.1
theorem W3(qx:J4 H h x)(qd:J4 H h d)(k:∀b o,b≠x->b≠d->h.get? b=some o->h'.get? b=some o)(xo:∃o,h'.get? x=some o)(dO:∃o,h'.get? d=some o):Un fs [] H (upd (upd H d o1) x o2) h h':=by
 have off:∀{z:ae},J4 H h z->∀b o,h.get? b=some o->H b=none->b≠z:=by
  intro z q b o e n;rintro rfl;rcases q with⟨_,y⟩|⟨φ,y⟩
  ·rw[e]at y;cases y
  ·rw[n]at y;cases y
 refine⟨λb o e n _ _=>k b o (off qx b o e n) (off qd b o e n) e,λb o e n _ _=>⟨o.slots,k b o (off qx b o e n) (off qd b o e n) e⟩,λb o e n _=>(VT (off qx b o e n) (off qd b o e n)).trans n,λb o e _=>?_,λb xs e=>(VT (qx.ne e (by simp)) (qd.ne e (by simp))).trans e,λb o u e=>(VT (qx.ne e (by simp)) (qd.ne e (by simp))).trans e,λb ps e=>⟨#[],(VT (qx.ne e (by simp)) (qd.ne e (by simp))).trans (by simpa using e)⟩⟩;by_cases hx:b=x
 ·exact hx▸xo
 ·by_cases hd:b=d
  ·exact hd▸dO
  ·exact⟨o,k b o hx hd e⟩
theorem Tp(ok:HOk P w H h)(qx:J4 H h x)(qd:J4 H h d)(ne:d≠x)(k:∀b o,b≠x->b≠d->h.get? b=some o->h'.get? b=some o)(nx:ZV P w (upd (upd H d o1) x o2) h' x o2)(nd:ZV P w (upd (upd H d o1) x o2) h' d o1):HOk P w (upd (upd H d o1) x o2) h':=λb u e=>by
 by_cases hx:b=x
 ·subst hx;rw[Ze]at e;cases e;exact nx
 ·by_cases hd:b=d
  ·subst hd;rw[Zj ne,Ze]at e;cases e;exact nd
  ·rw[VT hx hd]at e;refine(ok b u e).stay (λc v hc q=>?_) (λc q=>(VT (qx.ne q (by simp)) (qd.ne q (by simp))).trans q) λc xs q=>(VT (qx.ne q (by simp)) (qd.ne q (by simp))).trans q;rcases hc with rfl|hc
   ·exact k _ v hx hd q
   ·exact k _ v (qx.ne hc (by simp)) (qd.ne hc (by simp)) q
end
section
variable {X:Cx}{pins:List (ae×Obj)}{σ:St}{H:Hp}{s:ag}{x C fI Qa:ae}{f:Str}{y:V}{u:ac}{Q:Unit->ag->Prop}
theorem Ph{dd:Option ae}{h:aX}(e:H x=some (ErrN x C dd)):J4 H h x:=.inr ⟨_,e⟩
theorem QG{fs:List (Str×V)}{mA:Str->Option ac}(r:∀g,RelO (fs.lookup g) (mA g))(ry:RelV y u)(g:Str):RelO ((putF f y fs).lookup g) (if g=f then some u else mA g):=by
 rw[Zo];by_cases q:g=f
 ·rw[if_pos q,if_pos q];exact ry
 ·rw[if_neg q,if_neg q];exact r g
theorem Mv{fs:List (Str×V)}{mA:Str->Option ac}(wi:dA mA (fs.map (·.1))):dA (λg=>if g=f then some u else mA g) ((putF f y fs).map (·.1)):=λg hg=>by
 by_cases q:g=f
 ·rw[q];exact(JG f y fs).1
 ·refine(JG f y fs).2 g (wi g λz=>hg ?_);show(if g=f then some u else mA g)=none;rw[if_neg q];exact z
theorem W2{A:ba}{E:ac->ag->Prop}(I:Inv X pins σ H s)(c:XC X.K C fI Qa)(hna:aF X.K (.ref C) f=some none)(e:H x=some (ErrN x C none))(ry:RelV y u)(h:∀d s',d≠x->H d=none->Inv X pins σ (upd (upd H d (XD d [(f,y)])) x (ErrN x C (some d))) s'->Q () s'):aB (model X.prog X.w) A (setAttr (.ref x) f u) Q E s:=by
 obtain⟨o,vs,hx,hc,hdd,hd,hz,h1⟩:=Jq.mp (I.hok x _ e);have In:s.heap.Inst x C (λ_=>none):=⟨o,hx,hc,(λcc q=>by rw[hd]at q;cases q),.inl ⟨hdd,λ_=>rfl⟩⟩;refine Qo (ns:=[]) I c hna In (λg hg=>absurd rfl hg) (bV _) λh' tk' I' k same=>?_;obtain⟨o₁,d₁,hx',c1,dt1,dd1,sd⟩:=same o hx;have dn:s.heap.get? d₁=none:=by
  rcases sd with z|⟨_,z⟩
  ·rw[hdd]at z;cases z
  ·exact z
 obtain⟨o',hx2,_,_,hdx⟩:=I';have eo:o'=o₁:=aH (hx2.symm.trans hx');subst eo;have Hd:H d₁=none:=by
  cases q:H d₁ with
 |none=>rfl
 |some v=>
   obtain⟨ob,z⟩:∃ob,s.heap.get? d₁=some ob:=by have:=I.hok _ _ q;exact QO this
   rw[dn]at z;cases z
 rcases hdx with⟨z,_⟩|⟨dx,z,ne,ns⟩
 ·rw[dd1]at z;cases z
 ·have ed:d₁=dx:=by rw[dd1]at z;exact aH z
  subst ed;have kk:∀b ob,b≠x->b≠d₁->s.heap.get? b=some ob->h'.get? b=some ob:=λb ob hb _ q=>k b ob hb (λo₀ dx' e0 e1=>by rw[hx]at e0;cases e0;rw[hdd]at e1;cases e1) q;have qx:J4 H s.heap x:=Ph e;have qd:J4 H s.heap d₁:=.inl ⟨Hd,dn⟩;have nd:ZV X.prog X.w (upd (upd H d₁ (XD d₁ [(f,y)])) x (ErrN x C (some d₁))) h' d₁ (XD d₁ [(f,y)]):=SE.mpr ⟨_,ns,λg=>QG (fs:=[]) (mA:=λ_=>none) (λ_=>cb) ry g,Mv (fs:=[]) λg hg=>absurd rfl hg,by simp⟩;have nx:ZV X.prog X.w (upd (upd H d₁ (XD d₁ [(f,y)])) x (ErrN x C (some d₁))) h' x (ErrN x C (some d₁)):=Jq.mpr ⟨o',vs,hx',c1.trans hc,dd1,dt1.trans hd,hz,h1⟩;obtain⟨oD,_,_,hoD,_⟩:=id ns;exact h d₁ _ ne Hd (I.un (W3 qx qd kk ⟨_,hx'⟩ ⟨_,hoD⟩) (Tp I.hok qx qd ne kk nx nd))
theorem T8{A:ba}{E:ac->ag->Prop}{d:ae}{fs:List (Str×V)}(I:Inv X pins σ H s)(c:XC X.K C fI Qa)(hna:aF X.K (.ref C) f=some none)(e:H x=some (ErrN x C (some d)))(ed:H d=some (XD d fs))(ne:d≠x)(hl:fs.length<1000)(ry:RelV y u)(h:∀s',Inv X pins σ (upd (upd H d (XD d (putF f y fs))) x (ErrN x C (some d))) s'->Q () s'):aB (model X.prog X.w) A (setAttr (.ref x) f u) Q E s:=by
 obtain⟨o,vs,hx,hc,hdd,hd,hz,h1⟩:=Jq.mp (I.hok x _ e);obtain⟨mA,ns,r,wi,_⟩:=SE.mp (I.hok d _ ed);have In:s.heap.Inst x C mA:=⟨o,hx,hc,(λcc q=>by rw[hd]at q;cases q),.inr ⟨d,hdd,ne,ns⟩⟩;refine Qo (ns:=fs.map (·.1)) I c hna In wi (by rw[bA];omega) λh' tk' I' k same=>?_;obtain⟨o₁,d₁,hx',c1,dt1,dd1,sd⟩:=same o hx;have e1:d₁=d:=by
  rcases sd with z|⟨z,_⟩
  ·rw[hdd]at z;exact(aH z).symm
  ·rw[hdd]at z;cases z
 subst e1;obtain⟨o',hx2,_,_,hdx⟩:=I';have eo:o'=o₁:=aH (hx2.symm.trans hx');subst eo;rcases hdx with⟨z,_⟩|⟨dx,z,_,ns'⟩
 ·rw[dd1]at z;cases z
 ·have ed':d₁=dx:=by rw[dd1]at z;exact aH z
  subst ed';have kk:∀b ob,b≠x->b≠d₁->s.heap.get? b=some ob->h'.get? b=some ob:=λb ob hb hbd q=>k b ob hb (λo₀ dx' e0 e1=>by rw[hx]at e0;cases e0;rw[hdd]at e1;cases e1;exact hbd) q;have qx:J4 H s.heap x:=Ph e;have qd:J4 H s.heap d₁:=.inr ⟨_,ed⟩;have nd:ZV X.prog X.w (upd (upd H d₁ (XD d₁ (putF f y fs))) x (ErrN x C (some d₁))) h' d₁ (XD d₁ (putF f y fs)):=SE.mpr ⟨_,ns',λg=>QG r ry g,Mv wi,by have:=Yr f y fs;omega⟩;have nx:ZV X.prog X.w (upd (upd H d₁ (XD d₁ (putF f y fs))) x (ErrN x C (some d₁))) h' x (ErrN x C (some d₁)):=Jq.mpr ⟨o',vs,hx',c1.trans hc,dd1,dt1.trans hd,hz,h1⟩;obtain⟨oD,_,_,hoD,_⟩:=id ns';exact h _ (I.un (W3 qx qd kk ⟨_,hx'⟩ ⟨_,hoD⟩) (Tp I.hok qx qd ne kk nx nd))
def E9(K:aa)(ta tv:TE)(f:Str):TS:=λD σ H=>tv σ H λy H1=>ta σ H1 λx H2=>∃a C fI Qa,x=.ref a/\H2 a=some (ErrN a C none)/\XC K C fI Qa/\aF K (.ref C) f=some none /\∀d,d≠a->H2 d=none->D.nx σ (upd (upd H2 d (XD d [(f,y)])) a (ErrN a C (some d)))
def Fa(K:aa)(ta tv:TE)(f:Str):TS:=λD σ H=>tv σ H λy H1=>ta σ H1 λx H2=>∃a C fI Qa d fs,x=.ref a/\H2 a=some (ErrN a C (some d))/\H2 d=some (XD d fs)/\d≠a/\fs.length<1000/\XC K C fI Qa/\aF K (.ref C) f=some none /\D.nx σ (upd (upd H2 d (XD d (putF f y fs))) a (ErrN a C (some d)))
section
variable {o value:Expr}{pos pos':Pos}{ta tv:TE}
theorem SW(ha:PE X o ta)(hv:PE X value tv)(hs:swapsWith value (some (.Attribute o f pos')) pos.line X.env=pure false):PS X (.Assign [.Attribute o f pos'] value pos) (E9 X.K ta tv f):=by intro pins s σ H D I h;refine plainObj_wpAny_Assign_Attribute (thn (hv pins s σ H _ I h) λu s1 h90=>?_) hs;obtain⟨y,H1,I1,ry,q⟩:=h90;refine thn (ha pins s1 σ H1 _ I1 q) λov s2 h91=>?_;obtain⟨x,H2,I2,rx,a,C,fI,Qa,ex,ea,c,n,q2⟩:=h91;subst ex;obtain rfl:ov=ay a:=rx;exact W2 I2 c n ea ry λd s3 ne hn I3=>⟨σ,_,I3,q2 d ne hn⟩
theorem SX(ha:PE X o ta)(hv:PE X value tv)(hs:swapsWith value (some (.Attribute o f pos')) pos.line X.env=pure false):PS X (.Assign [.Attribute o f pos'] value pos) (Fa X.K ta tv f):=by intro pins s σ H D I h;refine plainObj_wpAny_Assign_Attribute (thn (hv pins s σ H _ I h) λu s1 h92=>?_) hs;obtain⟨y,H1,I1,ry,q⟩:=h92;refine thn (ha pins s1 σ H1 _ I1 q) λov s2 h93=>?_;obtain⟨x,H2,I2,rx,a,C,fI,Qa,d,fs,ex,ea,ed,ne,hl,c,n,q2⟩:=h93;subst ex;obtain rfl:ov=ay a:=rx;exact T8 I2 c n ea ed ne hl ry λs3 I3=>⟨σ,_,I3,q2⟩
end
end
section
variable {X:Cx}{CX:CXT}{k:Nat}{f C Qa:ae}{fd:FuncData}{ps:List Str}{sp:Sp}{dvs:List V}{ds:List ac}{E:XK}{x m:Str}{p pos apos:Pos}{e o:Expr}{es:List Expr}{ta:TE}{t:TA}
theorem Wh{pins:List (ae×Obj)}{σ:St}{H:Hp}{s:ag}{Q:VK}{us:List ac}{vs:List V}(c:XC X.K C f Qa)(F:FnOk X.prog X.w X.K X.mg X.base CX k f fd ps sp)(hr:Room (k+1) X.A)(hb:Binds X.K fd ps ds)(hd:Vals dvs ds)(hx:Y9 CX X E)(I:Inv X pins σ H s)(r:Vals vs us)(hz:us.length<=av)(h:∀x,H x=none->sp (.ref x::(vs++dvs)) (upd H x (ErrN x C none)) (λv H2=>v=.non/\Q (.ref x) H2) E):aB (model X.prog X.w) X.A (call (.ref C) us) (EP X pins σ Q) X.xe s:=by
 refine ET (h:=s.heap) (g:=s.gens) (d:=s.drawn) (t:=s.toks) (os:=s.os) I.kIn c hz λh' a ha mk=>?_;obtain⟨kk,_,T,ge,_,_⟩:=mk;have hq:=h a (I.hok.fresh ha);have I2:Inv X pins σ (upd H a (ErrN a C none)) {s with heap:=h'}:=I.laid (t':=s.toks) kk ha (Jq.mpr ⟨_,_,ge,rfl,rfl,rfl,by simp,by simp⟩);have r2:Vals (V.ref a::(vs++dvs)) (ay a::(us++ds)):=.cons rfl (r.append hd);have hl:(ay a::us++ds).length=ps.length:=by have e:=r2.length;rw[F.len _ _ _ _ hq]at e;exact e.symm
 refine wpAny_call (codeAny_mono (F.run _ X.stack {s with heap:=h'} _ ⟨ay a::us,[]⟩ (ay a::(us++ds)) _ _ E (hr.make C us []) (I2.env0.make C us []) (hb _ (ay a::us) I2.kIn hl) r2 hq) λr s' hq'=>?_);cases r with
|error e=>exact hx pins σ _ _ e s' I2 hq'
|ok fl=>
  cases fl with
 |ret u=>obtain⟨v,H',I3,rv,ev,q3⟩:=I2.after hq';subst ev;exact⟨rv,⟨V.ref a,H',I3,rfl,q3⟩⟩
 |next=>exact bU hq'
 |brk=>exact bU hq'
 |cont=>exact bU hq'
end
noncomputable def del(H:Hp)(a:ae):Hp:=λb=>if b=a then none else H b
theorem Vn{H:Hp}{a:ae}:del H a a=none:=by simp[del]
theorem Ju{H:Hp}{a b:ae}(h:b≠a):del H a b=H b:=by simp[del,h]
section
variable {M:Model}{A:ba}{E:ac->ag->Prop}{env:Env}{K:aa}
theorem Wj{s:ag}{x:Sem ac}{Q:Flow->ag->Prop}(hh:A.handled=none)(h:aB M A x (λv s₁=>∃e oe C fI Qa vs,v=.ref e/\XC K C fI Qa/\K.In s₁.heap/\s₁.heap.get? e=some oe/\oe.cls=.ref C/\oe.data=.fields vs/\vs[1]?=some .none/\E (.ref e) s₁) E s):aB M A (raiseStmt env (some x) none) Q E s:=by
 unfold raiseStmt;refine af (wpAny_mono h (λv s₁ h₁=>?_) λ_ _ x=>x);obtain⟨e,⟨oc,od,odt,osl⟩,C,fI,Qa,vs,rfl,c,KI,he,hc,hvs,h1,hE⟩:=h₁;obtain rfl:oc=.ref C:=hc;obtain rfl:odt=.fields vs:=hvs;obtain⟨hp,g,d,tk,os⟩:=s₁;obtain⟨nm,q,N,bs,sn,sub,ab,col,dd,k0,k1,k2,k3,k5,lk,nok,hin⟩:=id c.obj;have hC:=KI _ _ lk;have hcB:(ay C::.ref Qa::bmV).contains (.type "BaseException")=true:=by rw[dX,dX,show bmV.contains (.type "BaseException")=true from by decide,Bool.or_true,Bool.or_true]
 repeat (first|with_reducible refine wpAny_loadPart_at he ?_|with_reducible refine wpAny_loadPart_at hC ?_|(with_reducible refine wpAny_isSubtype_exc hC ?_;rw[hcB])|wp_step)
 show aB M A (match vs[1]? with|some x=>pure x|none=>unsupported "internal:no-such-field") _ _ _
 rw[h1];refine au ?_;show aB M A (if(bq != bq)=true then _ else pure ()) _ _ _;rw[if_neg (by decide)];exact au (wpAny_raiseNew_none hh hE)
end
section
variable {X:Cx}{pins:List (ae×Obj)}{σ:St}{H:Hp}{s:ag}{a C:ae}{dd:Option ae}{E:XK}
theorem raised(I:Inv X pins σ H s)(e:H a=some (ErrN a C dd))(hE:E (.ref C) dd (del H a)):CX1 X.prog X.w X.stack H s E (.ref a) s:=by
 obtain⟨o,vs,hx,hc,hdd,hd,hz,h1⟩:=Jq.mp (I.hok a _ e);have na:∀b u,H b=some u->(∀φ,u≠.ext φ)->b≠a:=λb u q n z=>by subst z;rw[e]at q;cases q;exact n _ rfl
 have fr:a∉frs X.stack:=λz=>by rw[I.stkFree a z]at e;cases e
 have hB:∀b o',s.heap.get? b=some o'->b≠a->b∉frs X.stack->(PySem.W.hideAll s.heap (a::frs X.stack)).get? b=some o':=λb o' q n1 n2=>PySem.W.hideAll_get _ q λz=>by
  rcases aq.mp z with z|z
  ·exact n1 z
  ·exact n2 z
 refine⟨a,.ref C,dd,PySem.W.hideAll s.heap (a::frs X.stack),del H a,rfl,rfl,I.bare,⟨λb o q _ _ _=>q,λb o q _ _ _=>⟨o.slots,q⟩,λb o q n _=>?_,λb o q _=>⟨o,q⟩,λb xs q=>(Ju (na b _ q (by simp))).trans q,λb o u q=>(Ju (na b _ q (by simp))).trans q,λb ps q=>⟨#[],by rw[Ju (na b _ q (by simp))];simpa using q⟩⟩,?_,?_,?_,hE⟩
 ·by_cases hb:b=a
  ·rw[hb];exact Vn
  ·rw[Ju hb];exact n
 ·intro b u q;have hb:b≠a:=λz=>by rw[z,Vn]at q;cases q
  rw[Ju hb]at q;exact(I.hok b u q).stay (λ_ _ _ z=>z) (λc z=>(Ju (na c _ z (by simp))).trans z) λc xs z=>(Ju (na c _ z (by simp))).trans z
 ·refine⟨λb u q=>PySem.W.of_hideAll _ q,PySem.W.hideAll_none _ (.head _),?_,o,vs,hx,hc,hdd,hd,hz,.inl ⟨h1,rfl⟩⟩;have go:∀l:List Env,(∀b∈frs l,b∈a::frs X.stack)->s.heap.FunFrames X.base l->s.heap.FunFrames (PySem.W.hideAll s.heap (a::frs X.stack)) l:=by
   intro l;induction l with
  |nil=>intro _ _;trivial
  |cons env r ih=>
    intro hs ⟨hk,⟨L,oL,hf,hn,ho,hnd⟩,hr⟩;have hL:frs (env::r)=L::frs r:=by unfold frs;rw[List.filterMap_cons,hf]
    exact⟨hk,⟨L,oL,hf,PySem.W.hideAll_none _ (hs L (by rw[hL];exact .head _)),ho,hnd⟩,ih (λb hb=>hs b (by rw[hL];exact .tail _ hb)) hr⟩
  exact go X.stack (λb hb=>.tail _ hb) I.stack
 ·refine⟨λb u q=>?_,λb o' q n hb=>hB b o' q (λz=>by rw[z,e]at n;cases n) hb,λb o' q=>?_,Vn⟩
  ·have hb:b≠a:=λz=>by rw[z,Vn]at q;cases q
   rw[Ju hb]at q;obtain⟨o',z⟩:=QO (I.hok b u q);exact⟨o',hB b o' z hb λm=>by rw[I.stkFree b m]at q;cases q⟩
  ·by_cases hb:b=a
   ·exact .inr (.inl hb)
   ·by_cases hf:b∈frs X.stack
    ·exact .inl hf
    ·exact .inr (.inr ⟨o',hB b o' q hb hf⟩)
end
noncomputable def ErrC(x C:ae)(dd:Option ae):HO:=.ext λh=>∃o vs,h.get? x=some o/\o.cls=.ref C/\o.dict=dd/\o.data=.fields vs
structure XB(K:aa)(D:ae):Prop where
 obj:∃nm q N bs bm hd sn sub ab col dd k0 k1 k2 k3 k5 nid,K.lookup D=some (excClassObj nm q D N bs bm hd sn sub ab col dd k0 k1 k2 k3 k5 nid)/\bm.contains (.type "BaseException")=true
theorem Tz{P:aA}{w:aI}{H:Hp}{h:aX}{x C:ae}{dd:Option ae}:ZV P w H h x (ErrC x C dd)↔∃o vs,h.get? x=some o/\o.cls=.ref C/\o.dict=dd/\o.data=.fields vs:=by
 constructor
 ·intro z;exact z.1
 ·rintro ⟨o,vs,hx,r⟩;exact⟨⟨o,vs,hx,r⟩,⟨o,hx⟩,λh1 h2⟨o',vs',e,r'⟩k=>⟨o',vs',k _ e,r'⟩⟩
section
variable {M:Model}{A:ba}{E:ac->ag->Prop}{K:aa}{C D fI Qa e:ae}{h:aX}{g:Array GenState}{d:Drawn}{t:Nat}{os:OsState}{oe:Obj}
theorem G1{Q:Bool->ag->Prop}(KI:K.In h)(c:XC K C fI Qa)(b:XB K D)(he:h.get? e=some oe)(hcls:oe.cls=.ref C)(hq:Q ((ay C::.ref Qa::bmV).contains (.ref D)) ⟨h,g,d,t,os⟩):aB M A (excMatches (.ref e) (.ref D)) Q E ⟨h,g,d,t,os⟩:=by
 obtain⟨nm,q,N,bs,sn,sub,ab,col,dd,k0,k1,k2,k3,k5,lk,nok,hin⟩:=id c.obj;obtain⟨nm',q',N',bs',bm',hd',sn',sub',ab',col',dd',k0',k1',k2',k3',k5',nid',lk',hb'⟩:=b.obj;have hC:=KI _ _ lk;have hD:=KI _ _ lk';have hcB:(ay D::bm').contains (.type "BaseException")=true:=by rw[dX,hb',Bool.or_true]
 have f:=tc_notTuple;generalize hcc:(ay C::.ref Qa::bmV).contains (.ref D)=bb at hq;unfold excMatches;repeat (first|(with_reducible refine wpAny_loadPart_at he ?_;rw[hcls])|with_reducible refine wpAny_loadPart_at hC ?_|with_reducible refine wpAny_loadPart_at hD ?_|(with_reducible refine wpAny_isSubtype_exc hD ?_;rw[hcB])|(with_reducible refine wpAny_isSubtype_exc hC ?_;rw[hcc])|wp_step)
 first
 |exact hq
 |(cases bb<;>(wp_walk;exact hq))
theorem Fo{B:aX}{x:ae}{c:ac}{dd:Option ae}{s:ag}{Q:Unit->ag->Prop}(F:RecX B x c dd .none s.heap)(hQ:∀h',(∀b o,s.heap.get? b=some o->h'.get? b=some o)->Q () {s with heap:=h'}):aB M A (setFlight (.ref x) none) Q E s:=by
 obtain⟨o,vs,hx,hc,hdd,hd,hz,tr⟩:=F;unfold setFlight;rcases tr with⟨h1,_⟩|⟨T,oT,ts,h1,bT,nT,hT,hdT,h3⟩
 ·refine af (bD hx hd h1 ?_);rw[if_neg (by decide)];exact au (hQ _ λ_ _ z=>z)
 ·have z3:3<ts.size:=(Array.getElem?_eq_some_iff.mp h3).1;refine af (bD hx hd h1 ?_);rw[if_pos (show(ay T != bq)=true from by simp)];refine wpAny_setField hT hdT z3 (hQ _ λb u hb=>?_);by_cases hbT:b=T
  ·subst hbT;rw[hT]at hb;cases hb;have es:ts.setIfInBounds 3 bq=ts:=by
    apply Array.ext
    ·simp
    ·intro i h1 h2;rw[Array.getElem_setIfInBounds]
     ·split
      ·rename_i e3;subst e3;rw[cM z3]at h3;exact(aH h3).symm
      ·rfl
   have eo:Obj.mapFields (·.setIfInBounds 3 ((none:Option ae).elim bq λf=>rawInt f)) oT=oT:=by obtain⟨a1,a2,a3,a4⟩:=oT;cases hdT;show(⟨a1,a2,.fields (ts.setIfInBounds 3 bq),a4⟩:Obj)=_;rw[es]
   have:=bz (Obj.mapFields (·.setIfInBounds 3 ((none:Option ae).elim bq λf=>rawInt f))) hT (by rw[eo];exact Obj.isFreed_of_fields hdT);rw[this,eo]
  ·rw[aV _ _ (bL hbT)];exact hb
end
noncomputable abbrev Cx.hot(X:Cx)(e:ac):Cx:={X with A:=X.A.mark (some e),calm:=false,xe:=λ_ _=>False}
section
variable {X:Cx}{pins:List (ae×Obj)}{σ:St}{H:Hp}{s:ag}{e:ac}
theorem Cx.Ok.hot(ok:X.Ok)(e:ac):(X.hot e).Ok:=⟨ok.mod,ok.kind,ok.glob,ok.blt,ok.above,ok.inj,ok.has,ok.cab,(λz=>absurd (show false=true from z) (by decide)),ok.frames,ok.stk,ok.exf,ok.bs,ok.bsz,ok.noex,ok.exfs,ok.funs,ok.frf⟩
theorem Inv.hot(I:Inv X pins σ H s)(e:ac):Inv (X.hot e) pins σ H s:=⟨I.ok.hot e,I.os,I.bare,I.base,I.loc,I.cell,I.free,I.freeC,I.pin,I.hok,I.len⟩
theorem Inv.unhot(ok:X.Ok)(I:Inv (X.hot e) pins σ H s):Inv X pins σ H s:=⟨ok,I.os,I.bare,I.base,I.loc,I.cell,I.free,I.freeC,I.pin,I.hok,I.len⟩
theorem forget{M:Model}{A:ba}{E:ac->ag->Prop}{i:Nat}{n:Str}{pos:Pos}{Q:Unit->ag->Prop}(I:Inv X pins σ H s)(hN:X.N.Nodup)(hi:X.N[i]?=some n)(hk:X.env.scope.names.lookup n=some .local)
  (h:∀s',Inv X pins (σ.set i none) H s'->Q () s'):aB M A (do bindName X.env n .none;unbindBehindTheSuite X.env n pos) Q E s:=by
 obtain⟨m,hn,hl⟩:=id I.loc
 have hcls:(X.env.scope.kind==.class||(X.env.scope.kind==.module&&X.env.locals != X.env.globals))=false:=by rw[I.ok.kind];rfl
 have hiσ:i<σ.length:=by rw[I.len];exact(ai.mp hi).1
 refine wpAny_nameGoes_keeps hk hn hcls λh' v hn' hs=>?_
 have up:∀b o,X.s₀.heap.get? b=some o->b≠X.env.locals:=λb o q=>aE (aD (ap q) I.ok.above)
 refine h _ ⟨I.ok,I.os,I.bare,⟨λb o q n' hb hx=>(hs.2 b (up b o q)).trans (I.base.keep b o q n' hb hx),λb o q n' hb hx=>?_,I.base.free,λb o q hx=>?_,I.base.tups,I.base.frzs,I.base.tbls⟩,⟨_,hn',λj y v' e1 e2 e3=>?_⟩,λy c q=>?_,I.free,I.freeC,λp hp=>?_,λb ob q=>?_,by simpa using I.len⟩
 ·obtain⟨sl,e1⟩:=I.base.slot b o q n' hb hx
  exact⟨sl,(hs.2 b (up b o q)).trans e1⟩
 ·obtain⟨o',e1⟩:=I.base.there b o q hx
  exact⟨o',(hs.2 b (up b o q)).trans e1⟩
 ·by_cases hj:j=i
  ·subst hj
   rw[bR hiσ]at e2
   cases e2
  ·rw[cr (bL hj)]at e2
   obtain⟨u',r',q⟩:=hl j y v' e1 e2 e3
   refine⟨u',r',?_⟩
   rcases q with⟨k,q⟩|⟨k,c,q,z⟩
   ·refine .inl ⟨k,?_⟩
    have:y≠n:=λz=>hj (Na hN e1 (z▸hi))
    simp[this,q]
   ·exact .inr ⟨k,c,q,z.sameBut hs (I.cne y c q)⟩
 ·obtain⟨w',z⟩:=I.cell y c q
  exact⟨w',z.sameBut hs (I.cne y c q)⟩
 ·obtain⟨q,n',ne,nf,d⟩:=I.pin p hp
  exact⟨(hs.2 p.1 ne).trans q,n',ne,nf,d⟩
 ·refine(I.hok b ob q).stay (λc w' hc z=>(hs.2 c ?_).trans z) (λ_ z=>z) λ_ _ z=>z
  rintro rfl
  rcases hc with rfl|hc
  ·rw[I.free]at q;cases q
  ·rw[I.free]at hc;cases hc
end
section
variable {X:Cx}{pins:List (ae×Obj)}{σ:St}{H:Hp}{s:ag}{x C fI Qa Dc:ae}{dd:Option ae}{B:aX}{cn n:Str}{i:Nat}{p pos:Pos}{b₀:bc}{suite:List bc}{rest:List ExceptHandler}{ts:TS}{D:Ends}
noncomputable def lose(i:Nat)(D:Ends):Ends:={nx:=λσ H=>D.nx (σ.set i none) H,rt:=D.rt,bk:=λσ H=>D.bk (σ.set i none) H,ct:=λσ H=>D.ct (σ.set i none) H}
theorem R5{nm:Option Str}(I:Inv X pins σ H s)(R:RecX B x (.ref C) dd .none s.heap)(c:XC X.K C fI Qa)(b:XB X.K Dc)(hg:Gl X cn)(hm:X.mg cn=some (.ref Dc))(no:(ay C::.ref Qa::bmV).contains (.ref Dc)=false)(h:aB (model X.prog X.w) X.A (handleBy (.ref x) X.env rest) (SP X pins D) X.xe s)(hd:(cn==("__debug__":Str))=false:=by decide):aB (model X.prog X.w) X.A (handleBy (.ref x) X.env (.ExceptHandler (some (.Name cn p)) nm (b₀::suite) pos::rest)) (SP X pins D) X.xe s:=by obtain⟨o,vs,hx,hc,_⟩:=R;refine wpAny_handleBy_cons (codeAny_handlers_test ?_) (by intro q;cases q);refine JR (X:=X.hot (.ref x)) (I.hot _) hg hm ?_ hd;obtain⟨hh,g,d,tk,os⟩:=s;refine G1 I.kIn c b hx hc ?_;rw[no];exact h
theorem WI(I:Inv X pins σ H s)(hH:H x=some (ErrC x C dd))(R:RecX B x (.ref C) dd .none s.heap)(c:XC X.K C fI Qa)(b:XB X.K Dc)(hg:Gl X cn)(hm:X.mg cn=some (.ref Dc))(yes:(ay C::.ref Qa::bmV).contains (.ref Dc)=true)(hN:X.N.Nodup)(hi:X.N[i]?=some n)(hk:X.env.scope.names.lookup n=some .local)(hs:PSs (X.hot (.ref x)) (b₀::suite) ts)(h:ts (lose i D) (σ.set i (some (.ref x))) H)(hd:(cn==("__debug__":Str))=false:=by decide):aB (model X.prog X.w) X.A (handleBy (.ref x) X.env (.ExceptHandler (some (.Name cn p)) (some n) (b₀::suite) pos::rest)) (SP X pins D) X.xe s:=by
 obtain⟨o,vs,hx,hc,_⟩:=id R;refine wpAny_handleBy_cons (codeAny_handlers_test ?_) (by intro q;cases q);refine JR (X:=X.hot (.ref x)) (I.hot _) hg hm ?_ hd;obtain⟨hh,g,d,tk,os⟩:=s;refine G1 I.kIn c b hx hc ?_;rw[yes];refine codeAny_handlers_suite_as (Fo R λh' k=>?_);have I2:Inv X pins σ H ⟨h',g,d,tk,os⟩:=I.kept (t':=tk) k;refine MC (X:=X.hot (.ref x)) (v:=.ref x) (I2.hot _) hN hi (.inl hk) rfl (λs3 I3=>?_) (.inr hk);refine wpAny_mono (hs pins s3 _ H (lose i D) I3 h) (λf s4 q=>?_) λ_ _ z=>bU z;cases f with
|next=>obtain⟨σ',H',J,q⟩:=q;exact forget (J.unhot I.ok) hN hi hk λs' J'=>⟨_,H',J',q⟩
|brk=>obtain⟨σ',H',J,q⟩:=q;exact forget (J.unhot I.ok) hN hi hk λs' J'=>⟨_,H',J',q⟩
|cont=>obtain⟨σ',H',J,q⟩:=q;exact forget (J.unhot I.ok) hN hi hk λs' J'=>⟨_,H',J',q⟩
|ret u=>obtain⟨v,σ',H',J,r,q⟩:=q;exact forget (J.unhot I.ok) hN hi hk λs' J'=>⟨v,_,H',J',r,q⟩
end
section
variable {X:Cx}{pins:List (ae×Obj)}{σ:St}{H1 H2:Hp}{s1 s2:ag}{x C:ae}{dd:Option ae}{B h':aX}{fl:ac}
theorem LZ(I:Inv X pins σ H1 s1)(os:s2.os=s1.os)(bare:AllBare s2.gens)(un:Un (frs X.stack) [] H1 H2 s1.heap s2.heap)(hok:HOk X.prog X.w H2 s2.heap)(F:Fly B X.stack x (.ref C) dd .none s2.heap)(b:BaseX B (frs X.stack) x H1 H2 s1.heap)(F':Fly B X.stack x (.ref C) dd fl h')(U:s2.heap.UpToSlots h'):Inv X pins σ (upd H2 x (ErrC x C dd)) {s2 with heap:=h'}:=by
 have nx:∀d o,s1.heap.get? d=some o->H1 d=none->d≠x:=by
  rintro d o e n rfl;by_cases hd:d∈frs X.stack
  ·obtain⟨_,o1,e1,nf⟩:=I.stack.mem hd;rw[e]at e1;cases e1;obtain⟨sl,q⟩:=un.slot d o e n hd (by simp);obtain⟨o3,vs,q3,_,_,q4,_⟩:=F.row;rw[q]at q3;cases q3;exact nf vs q4
  ·have:=b.old d o e n hd;rw[F.new]at this;cases this
 have hne:∀d u,H2 d=some u->d≠x:=by rintro d u e rfl;rw[b.xn]at e;cases e
 have hok':HOk X.prog X.w H2 h':=QX hok b.trk F.keep F'.keep;refine I.call' (s':={s2 with heap:=h'}) (ch:=[]) os ⟨λd o e n hd _=>F'.keep d o (b.old d o e n hd),λd o e n hd _=>?_,λd o e n hx=>?_,λd o e _=>?_,λd xs e=>?_,λd o u e=>?_,λd ps e=>?_⟩ (λd u e=>?_) bare λd z=>absurd z (by simp)
 ·obtain⟨sl,q⟩:=un.slot d o e n hd (by simp);obtain⟨_,o1,e1,nf⟩:=I.stack.mem hd;rw[e]at e1;cases e1;obtain⟨sl2,q2⟩:=U d _ q nf;exact⟨sl2,q2⟩
 ·rw[Zj (nx d o e n)];exact un.free d o e n hx
 ·rcases b.all d o e with z|z|⟨o',z⟩
  ·obtain⟨_,o1,e1,nf⟩:=I.stack.mem z;rw[e]at e1;cases e1;obtain⟨sl,q⟩:=un.slot d o e (I.stkFree d z) z (by simp);obtain⟨sl2,q2⟩:=U d _ q nf;exact⟨_,q2⟩
  ·subst z;obtain⟨o3,_,q,_⟩:=F'.row;exact⟨o3,q⟩
  ·exact⟨o',F'.keep d o' z⟩
 ·have:=un.tups d xs e;rw[Zj (hne d _ this)];exact this
 ·have:=un.frzs d o u e;rw[Zj (hne d _ this)];exact this
 ·obtain⟨more,this⟩:=un.tbls d ps e;exact⟨more,by rw[Zj (hne d _ this)];exact this⟩
 ·by_cases hd:d=x
  ·subst hd;rw[Ze]at e;cases e;obtain⟨o,vs,q1,q2,q3,q4,_⟩:=F'.row;exact Tz.mpr ⟨o,vs,q1,q2,q3,q4⟩
  ·rw[Zj hd]at e;exact(hok' d u e).stay (λ_ _ _ q=>q) (λc q=>by rw[Zj (hne c _ q)];exact q) λc xs q=>by rw[Zj (hne c _ q)];exact q
end
noncomputable abbrev Cx.tryX(X:Cx)(E:ac->ag->Prop)(pn':List (ae×Obj)):Cx:={X with xe:=E,pn:=pn'}
section
variable {X:Cx}{pins pins':List (ae×Obj)}{σ:St}{H:Hp}{s:ag}{E:ac->ag->Prop}
theorem Inv.try(I:Inv X pins σ H s)(E:ac->ag->Prop):Inv (X.tryX E (X.pn++pins)) [] σ H s:=⟨⟨I.ok.mod,I.ok.kind,I.ok.glob,I.ok.blt,I.ok.above,I.ok.inj,I.ok.has,I.ok.cab,I.ok.hd,I.ok.frames,I.ok.stk,I.ok.exf,I.ok.bs,I.ok.bsz,I.ok.noex,I.ok.exfs,I.ok.funs,I.ok.frf⟩,I.os,I.bare,I.base,I.loc,I.cell,I.free,I.freeC,λp hp=>I.pin p (by simpa using hp),I.hok,I.len⟩
theorem Inv.untry(ok:X.Ok)(I:Inv (X.tryX E (X.pn++pins)) pins' σ H s):Inv X pins σ H s:=⟨ok,I.os,I.bare,I.base,I.loc,I.cell,I.free,I.freeC,λp hp=>I.pin p (bg _ hp),I.hok,I.len⟩
end
def Vv(CX:CXT)(X:Cx)(E:XK)(p:St->Prop):Prop:=∀(pins:List (ae×Obj))(σ:St)(H:Hp)(s:ag)(e:ac)(s':ag),p σ->Inv X pins σ H s->CX X.stack H s E e s'->X.xe e s'
def Hd(X:Cx)(hs:List ExceptHandler)(th:ae->ae->Option ae->TS):Prop:=∀(pins:List (ae×Obj))(s:ag)(σ:St)(H:Hp)(D:Ends)(x C:ae)(dd:Option ae)(B:aX),Inv X pins σ H s->H x=some (ErrC x C dd)->RecX B x (.ref C) dd .none s.heap->th x C dd D σ H ->aB (model X.prog X.w) X.A (handleBy (.ref x) X.env hs) (SP X pins D) X.xe s
noncomputable def hNil:ae->ae->Option ae->TS:=λ_ _ _ _ _ _=>False
noncomputable def hAs(K:aa)(Dc:ae)(i:Nat)(ts:ae->TS)(r:ae->ae->Option ae->TS):ae->ae->Option ae->TS:=λx C dd D σ H=>∃fI Qa,XC K C fI Qa /\(((ay C::.ref Qa::bmV).contains (.ref Dc)=true/\ts x (lose i D) (σ.set i (some (.ref x))) H)\/((ay C::.ref Qa::bmV).contains (.ref Dc)=false/\r x C dd D σ H))
def sTry(tb:(St->Prop)->XK->TS)(th:ae->ae->Option ae->TS):TS:=λD σ H=>∃E:XK,tb (λσ'=>σ'=σ) E D σ H/\∀c dd H',E c dd H'->∃C,c=.ref C/\∀x,H' x=none->th x C dd D σ (upd H' x (ErrC x C dd))
section
variable {X:Cx}{Dc:ae}{cn n:Str}{i:Nat}{p pos:Pos}{b₀:bc}{suite:List bc}{rest:List ExceptHandler}{ts:ae->TS}{r th:ae->ae->Option ae->TS}
theorem EC:Hd X [] hNil:=λ_ _ _ _ _ _ _ _ _ _ _ _ h=>bU h
theorem Tq(b:XB X.K Dc)(hg:Gl X cn)(hm:X.mg cn=some (.ref Dc))(hN:X.N.Nodup)(hi:X.N[i]?=some n)(hk:X.env.scope.names.lookup n=some .local)(hs:∀x,PSs (X.hot (.ref x)) (b₀::suite) (ts x))(hr:Hd X rest r)(hd:(cn==("__debug__":Str))=false:=by decide):Hd X (.ExceptHandler (some (.Name cn p)) (some n) (b₀::suite) pos::rest) (hAs X.K Dc i ts r):=by
 rintro pins s σ H D x C dd B I hH R ⟨fI,Qa,c,⟨yes,h⟩|⟨no,h⟩⟩
 ·exact WI I hH R c b hg hm yes hN hi hk (hs x) h hd
 ·exact R5 I R c b hg hm no (hr pins s σ H D x C dd B I hH R h) hd
theorem D1{body:List bc}{h₀:ExceptHandler}{hs:List ExceptHandler}{tb:(St->Prop)->XK->TS}(hst:X.stack=X.env::X.outer/\X.env.frame=some X.env.locals)(hb:∀(E':ac->ag->Prop)(pn':List (ae×Obj))(p:St->Prop)(E:XK),Vv (CX1 X.prog X.w) (X.tryX E' pn') E p->PSs (X.tryX E' pn') body (tb p E))(hh:Hd X (h₀::hs) th):PS X (.Try body (h₀::hs) [] [] pos) (sTry tb th):=by
 rintro pins s σ H D I ⟨E,hbody,hE⟩;refine wpAny_Try_except ?_;generalize hXE:(λ(e:ac)(s₁:ag)=>aB (model X.prog X.w) X.A (noteFrame e X.env) (λ_ s₂=>aB (model X.prog X.w) X.A (setFlight e none) (λ_ s₃=>aB (model X.prog X.w) X.A (handleBy e X.env (h₀::hs)) (SP X pins D) X.xe s₃) X.xe s₂) X.xe s₁)=E';have hp:Vv (CX1 X.prog X.w) (X.tryX E' (X.pn++pins)) E (λσ'=>σ'=σ):=by
  rintro pins' σ' H1 s1 e s2 eσ J ⟨x,c,dd,B,H2,rfl,os,bare,un,hok,F,b,hc⟩;subst eσ;obtain⟨C,rfl,hth⟩:=hE c dd H2 hc;show E' (.ref x) s2;rw[<-hXE];have J':Inv X pins σ' H1 s1:=J.untry I.ok;have fr:X.A.frames=some (X.env::X.outer):=by rw[J'.ok.frames,hst.1]
  have FF:Fly B (X.env::X.outer) x (.ref C) dd .none s2.heap:=by rw[<-hst.1];exact F
  refine QZ fr hst.2 FF λh1 F1 U1=>?_;refine Q0 (s:={s2 with heap:=h1}) F1 λh2 F2 U2=>?_;have F2':Fly B X.stack x (.ref C) dd .none h2:=by rw[hst.1];exact F2
  have I2:Inv X pins σ' (upd H2 x (ErrC x C dd)) {s2 with heap:=h2}:=LZ J' os bare un hok F b F2' (U1.trans U2);exact hh pins _ σ' _ D x C dd B I2 (Ze ..) F2.row (hth x b.xn)
 refine wpAny_mono (hb E' (X.pn++pins) _ E hp [] s σ H D (I.try E') hbody) (λf s1 q=>?_) λe s1 q=>?_
 ·cases f with
 |next=>obtain⟨σ',H',J,q⟩:=q;exact wpAny_execs_nil ⟨σ',H',J.untry I.ok,q⟩
 |brk=>obtain⟨σ',H',J,q⟩:=q;exact⟨σ',H',J.untry I.ok,q⟩
 |cont=>obtain⟨σ',H',J,q⟩:=q;exact⟨σ',H',J.untry I.ok,q⟩
 |ret u=>obtain⟨v,σ',H',J,r,q⟩:=q;exact⟨v,σ',H',J.untry I.ok,r,q⟩
 ·exact q
end
def tAt(p:St->Prop)(t:TE):TE:=λσ H Q=>p σ/\t σ H Q
section
variable {X:Cx}{CX:CXT}{k:Nat}{f C Qa:ae}{fd:FuncData}{ps:List Str}{sp:Sp}{dvs:List V}{ds:List ac}{E:XK}{x m:Str}{pp pos apos:Pos}{e o:Expr}{es:List Expr}{ta:TE}{t:TA}{p:St->Prop}
def Rh(CX:CXT)(X:Cx)(E:XK)(σ:St):Prop:=∀(pins:List (ae×Obj))(H:Hp)(s:ag)(e:ac)(s':ag),Inv X pins σ H s->CX X.stack H s E e s'->X.xe e s'
theorem Vv.at{σ:St}(h:Vv CX X E p)(hp:p σ):Rh CX X E σ:=λpins H s e s' I c=>h pins σ H s e s' hp I c
theorem Fx{pins:List (ae×Obj)}{σ:St}{H:Hp}{s:ag}{Q:VK}{us:List ac}{vs:List V}(F:FnOk X.prog X.w X.K X.mg X.base CX k f fd ps sp)(hr:Room k X.A)(hb:Binds X.K fd ps ds)(hd:Vals dvs ds)(hx:Rh CX X E σ)(I:Inv X pins σ H s)(r:Vals vs us)(h:sp (vs++dvs) H Q E):aB (model X.prog X.w) X.A (call (.ref f) us) (EP X pins σ Q) X.xe s:=by
 have r2:Vals (vs++dvs) (us++ds):=r.append hd;have hl:(us++ds).length=ps.length:=(r2.length).symm.trans (F.len _ _ _ _ h);refine wpAny_call (codeAny_mono (F.run X.A X.stack s H ⟨us,[]⟩ (us++ds) (vs++dvs) Q E hr I.env0 (hb s us I.kIn hl) r2 h) λres s' hq=>?_);match res,hq with
|.error e,hq=>exact hx pins H s e s' I hq
|.ok (.ret u),hq=>exact I.after hq
|.ok .next,hq=>exact hq.elim
|.ok .brk,hq=>exact hq.elim
|.ok .cont,hq=>exact hq.elim
theorem RM(F:FnOk X.prog X.w X.K X.mg X.base CX k f fd ps sp)(hr:Room k X.A)(hg:Gl X x)(hm:X.mg x=some (.ref f))(hk:bo X.K (.ref f)=true)(hb:Binds X.K fd ps ds)(hd:Vals dvs ds)(hx:Vv CX X E p)(ha:PA X (e::es) t)(hdb:(x==("__debug__":Str))=false:=by decide)(he:aO (e::es) X.env=(false,eval e X.env)::aO es X.env:=by rfl)(hpl:(backTo pos (aO es X.env)).any (·.1)=false:=by rfl):PE X (.Call (.Name x pp) (e::es) [] pos) (tAt p (NY sp dvs E t)):=by rintro pins s σ H Q I ⟨hp,h⟩;refine wpAny_Call_Name_kw (JR I hg hm ?_ hdb);refine dL (h₀:=X.base) I.ok.mod.kin hk (thn (ha pos pins s σ H _ I h) λus s1 h90=>?_) he hpl;obtain⟨vs,H1,I1,r,q⟩:=h90;refine⟨I1.kIn,?_⟩;exact Fx F hr hb hd (hx.at hp) I1 r q
end
structure XR(K:aa)(C:ae):Prop where
 ga:aF K (.ref C) "__getattribute__"=some (some (.builtin "BaseException.__getattribute__"))
 gg:aF K (.ref C) "__getattr__"=some none
 hd:dj K C=true
 be:PySem.W.mroIn K C (.type "BaseException")=some true
section
variable {prog:aA}{w:aI}{A:ba}{E:ac->ag->Prop}{K:aa}{s:ag}{x C d:ae}{o:Obj}{mA:Str->Option ac}{f:Str}{v:ac}{expr:Bool}{Q:ac->ag->Prop}
theorem xget(X:K.In s.heap)(r:XR K C)(hx:s.heap.get? x=some o)(hc:o.cls=.ref C)(hdt:∃vs,o.data=.fields vs)(hdd:o.dict=some d)(hn:s.heap.Ns1 d mA)(ha:aF K (.ref C) f=some none)(hv:mA f=some v)(hh:PySem.W.handedIn v=true)(h:Q v {s with toks:=s.toks+1}):aB (model prog w) A (getAttr (.ref x) f expr) Q E s:=by
 obtain⟨od,ho,hl⟩:=N9 hn;have no:PySem.W.notCls o=true:=by obtain⟨vs,e⟩:=hdt;unfold PySem.W.notCls;rw[e]
 have I:PySem.W.InstAt s.heap x o C (some od):=⟨hx,hc,no,by rw[hdd];exact ho⟩;have FB:=PySem.F.attrBase_ValueError;obtain⟨hp,g,dr,t,os⟩:=s;have L0:=I.type (M:=model prog w);have L1:=PySem.W.looks_findIn (M:=model prog w) X r.ga;have L2:=PySem.W.looks_findIn (M:=model prog w) X r.gg;have L3:=PySem.W.looks_find (M:=model prog w) X I (PySem.W.findObj_own r.hd ha rfl (by rw[hl,hv]));have sub:PySem.W.Looks (model prog w) hp (isInstance (.ref x) (.type "BaseException")) true:=L0.andThen (PySem.W.looks_mroIn X r.be);unfold getAttr getAttrBy;refine af (wpAny_mkText (bw (af (L0.at (af (L1.at ?_))))));show aB _ _ (if(onTheHeap (ay C)&&Value.builtin "BaseException.__getattribute__"==Value.builtin "object.__getattribute__")=true then _ else _) _ _ _;rw[if_neg (by simp)];unfold getAttrByItsOwn hookBefore;rw[if_pos (show onTheHeap (ay C)=true from rfl)];refine af (L2.at ?_);refine af (wpAny_attempt (bw ?_));unfold callGetattribute;rw[if_neg (show ¬((expr&&onTheHeap (Value.builtin "BaseException.__getattribute__"))=true)from by cases expr<;>simp[onTheHeap])];unfold boundAndCalled;rw[FB.ga.bind];refine af (au ?_);refine wpAny_call (codeAny_call_builtin FB.ga.plain PySem.F.entry_bexc_ga (@PySem.W.check_slot (model prog w) _ _ _ "BaseException.__getattribute__" "BaseException" "__getattribute__" (.ref x) [.str f t] [] _ (by decide +kernel) (by decide +kernel) sub (PySem.F.args_bexc_ga (.ref x) (.str f t)) ?_));unfold Builtin.«object.__getattribute__»;refine af (au (af (au (af (L0.at (af (L3.at (au ?_))))))));show aB _ _ (handedOut v) _ _ _;rw[PySem.W.handedOut_of hh];exact au h
end
def NF(H:Hp)(a C d:ae):Prop:=H a=some (ErrC a C (some d))\/H a=some (ErrN a C (some d))
theorem NF.obj{P:aA}{w:aI}{H:Hp}{h:aX}{a C d:ae}(e:NF H a C d)(ok:HOk P w H h):∃o vs,h.get? a=some o/\o.cls=.ref C/\o.dict=some d/\o.data=.fields vs:=by
 rcases e with e|e
 ·exact Tz.mp (ok a _ e)
 ·obtain⟨o,vs,h1,h2,h3,h4,_⟩:=Jq.mp (ok a _ e);exact⟨o,vs,h1,h2,h3,h4⟩
def EW(K:aa)(ta:TE)(f:Str):TE:=λσ H Q=>ta σ H λx H1=>∃a C d fs v,x=.ref a/\NF H1 a C d/\H1 d=some (XD d fs)/\XR K C/\Z8 K C f/\fs.lookup f=some v/\Q v H1
section
variable {X:Cx}{o:Expr}{ta:TE}{f:Str}{pos:Pos}
theorem VB(ha:PE X o ta)(hb:attributeBase o f X.env (eval o X.env)=eval o X.env:=by rfl):PE X (.Attribute o f pos) (EW X.K ta f):=by intro pins s σ H Q I h;refine TV hb (thn (ha pins s σ H _ I h) λov s1 h90=>?_);obtain⟨x,H1,I1,rx,a,C,d,fs,v,ex,ea,ed,c,n,l,q⟩:=h90;subst ex;obtain rfl:ov=ay a:=rx;obtain⟨ob,vs,h1,h2,h3,h4⟩:=ea.obj I1.hok;obtain⟨mA,ns,r,_⟩:=SE.mp (I1.hok d _ ed);obtain⟨u,hu,ru⟩:=RelO.some_of (v:=v) (o:=mA f) (by rw[<-l];exact r f);exact xget I1.kIn c h1 h2 ⟨vs,h4⟩ h3 ns n hu (Pc ru) ⟨v,H1,I1.tok _,ru,q⟩
end
section
variable {P:aA}{w:aI}{K:aa}{mg:Str->Option ac}{base:aX}
theorem Fun.okX{x qual:Str}{st:bc}{f:ae}{fd:FuncData}{N ps:List Str}{k:Nat}{sp:Sp}(F:Fun K x qual st f fd)(S:FnScope N ps (Zg st))(len:∀vs H Q E,sp vs H Q E->vs.length=ps.length)(hbody:∀(cdv:ac)(A:ba)(outer:List Env)(s:ag)(H:Hp)(vs:List V)(Q:VK)(E:XK),Room k (A.deeper (envOfC qual (Zg st) s.heap.objs.size f cdv))->sp vs H Q E ->∃t,PSs (cxOf (CX1 P w) P w K mg base N qual (Zg st) f cdv A outer s H E) (ZR st) t/\t {nx:=λ_ H'=>Q .non H',rt:=Q} (start N vs) H):FnOk P w K mg base (CX1 P w) (k+1) f fd ps sp:=by obtain⟨oc,od,kV,doc,pm,an,cdv,ct,osl,rfl,lk,hcd⟩:=F.ex;exact DA lk hcd S len λA outer s H vs Q E hr hsp=>hbody cdv A outer s H vs Q E hr hsp
def CanX(P:aA)(w:aI)(K:aa)(mg:Str->Option ac)(base:aX)(k:Nat)(x:Str)(ps:List Str)(sp:Sp):Prop:=∃f fd,FnOk P w K mg base (CX1 P w) k f fd ps sp/\mg x=some (.ref f)/\bo K (.ref f)=true/\Binds K fd ps []
theorem CanX.mono{j k:Nat}{x:Str}{ps:List Str}{sp:Sp}(C:CanX P w K mg base j x ps sp)(h:j<=k):CanX P w K mg base k x ps sp:=by obtain⟨f,fd,F,r⟩:=C;exact⟨f,fd,F.mono h,r⟩
theorem Df.canX{x:Str}{st:bc}{N ps:List Str}{k:Nat}{sp:Sp}(D:Df K mg x st ps)(S:FnScope N ps (Zg st))(len:∀vs H Q E,sp vs H Q E->vs.length=ps.length)(hbody:∀(f:ae)(cdv:ac)(A:ba)(outer:List Env)(s:ag)(H:Hp)(vs:List V)(Q:VK)(E:XK),Room k (A.deeper (envOfC x (Zg st) s.heap.objs.size f cdv))->sp vs H Q E ->∃t,PSs (cxOf (CX1 P w) P w K mg base N x (Zg st) f cdv A outer s H E) (ZR st) t/\t {nx:=λ_ H'=>Q .non H',rt:=Q} (start N vs) H):CanX P w K mg base (k+1) x ps sp:=by obtain⟨f,fd,F,m,b⟩:=D;exact⟨f,fd,F.okX S len (λcdv A outer s H vs Q E hr h=>hbody f cdv A outer s H vs Q E hr h),m,F.kp,b⟩
end
section
variable {X:Cx}{E:XK}
theorem Jo{k:Nat}{x:Str}{ps:List Str}{sp:Sp}{p pos:Pos}{e:Expr}{es:List Expr}{t:TA}(C:CanX X.prog X.w X.K X.mg X.base k x ps sp)(hx:Y9 (CX1 X.prog X.w) X E)(hr:Room k X.A)(hg:Gl X x)(ha:PA X (e::es) t)(hdb:(x==("__debug__":Str))=false:=by decide)(he:aO (e::es) X.env=(false,eval e X.env)::aO es X.env:=by rfl)(hpl:(backTo pos (aO es X.env)).any (·.1)=false:=by rfl):PE X (.Call (.Name x p) (e::es) [] pos) (NY sp [] E t):=by obtain⟨f,fd,F,m,kp,b⟩:=C;exact SZ F hr hg m kp b .nil hx ha hdb he hpl
end
def Rz(C:ae)(names:List Str):Sp:=λvs H Q _=>∃a xs,vs=.ref a::xs/\xs.length=names.length/\H a=some (ErrN a C none) /\∀H' d,d≠a->H d=none->H' a=some (ErrN a C (some d))->H' d=some (XD d (names.zip xs))->(∀b,b≠a->b≠d->H' b=H b)->Q .non H'
structure Err(P:aA)(w:aI)(K:aa)(mg:Str->Option ac)(base:aX)(x:Str)(names:List Str)(C:ae):Prop where
 xc:∃fI Qa fd ps,XC K C fI Qa/\FnOk P w K mg base CX0 1 fI fd ps (Rz C names)/\ps.length<=1000/\Binds K fd ps []
 xr:XR K C
 mg:mg x=some (.ref C)
 kp:bo K (.ref C)=true
section
variable {X:Cx}{E:XK}{x:Str}{names:List Str}{C:ae}{p cpos pos:Pos}{e:Expr}{es:List Expr}{t:TA}
def LK(C:ae)(names:List Str)(t:TA)(E:XK):TS:=λ_ σ H=>t σ H λvs H1=>vs.length=names.length/\∀H' d,H1 d=none->H' d=some (XD d (names.zip vs))->(∀b,b≠d->H' b=H1 b)->E (.ref C) (some d) H'
theorem YO(R:Err X.prog X.w X.K X.mg X.base x names C)(hx:Y9 (CX1 X.prog X.w) X E)(hcalm:X.calm=true)(hr:Room 2 X.A)(hg:Gl X x)(ha:PA X (e::es) t)(hdb:(x==("__debug__":Str))=false:=by decide)(he:aO (e::es) X.env=(false,eval e X.env)::aO es X.env:=by rfl)(hpl:(backTo cpos (aO es X.env)).any (·.1)=false:=by rfl):PS X (.Raise (some (.Call (.Name x p) (e::es) [] cpos)) none pos) (LK C names t E):=by
 obtain⟨fI,Qa,fd,ps,xc,F,hn,hb⟩:=R.xc;intro pins s σ H D I h;rw[arm_exec_Raise];refine af (wpAny_standAt ?_);refine Wj (K:=X.K) (I.ok.hd hcalm) (af (wpAny_mono (wpAny_Call_Name_kw (JR I hg R.mg ?_ hdb)) (λu s1 q=>af (wpAny_standAt (au q))) λ_ _ z=>z));refine dL (h₀:=X.base) I.ok.mod.kin R.kp (thn (ha cpos pins s σ H _ I h) λus s1 h90=>?_) he hpl;obtain⟨vs,H1,I1,r,hl,q⟩:=h90;refine⟨I1.kIn,?_⟩;refine thn (Wh (k:=1) (E:=E0) (Q:=λv H2=>∃a d H',v=.ref a/\H2 a=some (ErrN a C (some d))/\del H2 a=H'/\E (.ref C) (some d) H') (dvs:=[]) (ds:=[]) xc F hr hb .nil Xw I1 r ?_ λa ha'=>?_) λu s2 q2=>?_
 ·rw[sizeLine_eq];have e1:=r.length;have e2:=F.len (.ref s1.heap.objs.size::vs) (upd H1 s1.heap.objs.size (ErrN s1.heap.objs.size C none)) (λ_ _=>True) E0 ⟨_,vs,rfl,hl,Ze ..,λ_ _ _ _ _ _ _=>trivial⟩;rw[bh]at e2;have e3:us.length=vs.length:=e1.symm;show us.length<=_;omega
 ·rw[bB];refine⟨a,vs,rfl,hl,Ze ..,λH' d hne hd h1 h2 h3=>⟨rfl,a,d,_,rfl,h1,rfl,q (del H' a) d ?_ ?_ ?_⟩⟩
  ·rwa [Zj hne]at hd
  ·rw[Ju hne];exact h2
  ·intro b hb;by_cases hba:b=a
   ·rw[hba,Vn,ha']
   ·rw[Ju hba,h3 b hba hb,Zj hba]
 ·obtain⟨v,H2,I2,rv,a,d,H',ev,ea,eH,hE⟩:=q2;subst ev;obtain rfl:u=ay a:=rv;obtain⟨o,vs',hx',hc,hdd,hd,hz,h1⟩:=Jq.mp (I2.hok a _ ea);exact⟨a,o,C,fI,Qa,vs',rfl,xc,I2.kIn,hx',hc,hd,h1,hx pins σ H2 s2 _ s2 I2 (raised I2 ea (by rw[eH];exact hE))⟩
end
noncomputable def Ul(f v:Str)(p1 p2 p3 p4:Pos):bc:=.Assign [.Attribute (.Name "self" p1) f p2] (.Name v p3) p4
theorem J6{N ps:List Str}{sc:bH}(S:FnScope N ps sc){x:Str}(h:x∈ps):Vis sc x:=by
 rcases S.par x h with z|z
 ·exact .inl z
 ·exact .inr (.inl z)
section
variable {P:aA}{w:aI}{K:aa}{mg:Str->Option ac}{base:aX}{fI C Qa:ae}{fd:FuncData}{qual f1 v1 f2 v2 f3 v3:Str}{st:bc}{p1 p2 p3 p4 q1 q2 q3 q4 r1 r2 r3 r4:Pos}
def Plain(x:Str):Prop:=(x==("__debug__":Str))=false/\(x==("__classdict__":Str))=false
theorem Fq(F:Fun K "__init__" qual st fI fd)(S:FnScope ["self",v1] ["self",v1] (Zg st))(hb:ZR st=[Ul f1 v1 p1 p2 p3 p4])(pl:Plain v1)(xc:XC K C fI Qa)(n1:Z8 K C f1):FnOk P w K mg base CX0 1 fI fd ["self",v1] (Rz C [f1]):=by
 refine F.ok (k:=0) S (λvs H Q E h=>?_) λcdv A outer s H vs Q E hr h=>?_
 ·obtain⟨a,xs,rfl,hl,_⟩:=h;rw[bh,hl];rfl
 ·obtain⟨a,xs,rfl,hl,hH,k⟩:=h;obtain⟨y,rfl⟩:=len1 hl;rw[hb];refine⟨_,Zi (SW (JP (i:=0) rfl (J6 S (by simp)) (by decide) (by decide)) (JP (i:=1) rfl (J6 S (by simp)) pl.1 pl.2) rfl),?_⟩;refine⟨y,rfl,.ref a,rfl,a,C,fI,Qa,rfl,hH,xc,n1,λd hne hd=>?_⟩;exact k _ d hne hd (Ze ..) (by rw[Zj hne,Ze];rfl) λb hb1 hb2=>by rw[Zj hb1,Zj hb2]
theorem Fp(F:Fun K "__init__" qual st fI fd)(S:FnScope ["self",v1,v2,v3] ["self",v1,v2,v3] (Zg st))(hb:ZR st=[Ul f1 v1 p1 p2 p3 p4,Ul f2 v2 q1 q2 q3 q4,Ul f3 v3 r1 r2 r3 r4])(pl1:Plain v1)(pl2:Plain v2)(pl3:Plain v3)(xc:XC K C fI Qa)(n1:Z8 K C f1)(n2:Z8 K C f2)(n3:Z8 K C f3)(h12:f1≠f2)(h13:f1≠f3)(h23:f2≠f3):FnOk P w K mg base CX0 1 fI fd ["self",v1,v2,v3] (Rz C [f1,f2,f3]):=by
 refine F.ok (k:=0) S (λvs H Q E h=>?_) λcdv A outer s H vs Q E hr h=>?_
 ·obtain⟨a,xs,rfl,hl,_⟩:=h;rw[bh,hl];rfl
 ·obtain⟨a,xs,rfl,hl,hH,k⟩:=h;obtain⟨y,z,u,rfl⟩:=len3 hl;rw[hb];refine⟨_,Zf (SW (JP (i:=0) rfl (J6 S (by simp)) (by decide) (by decide)) (JP (i:=1) rfl (J6 S (by simp)) pl1.1 pl1.2) rfl) (Zf (SX (JP (i:=0) rfl (J6 S (by simp)) (by decide) (by decide)) (JP (i:=2) rfl (J6 S (by simp)) pl2.1 pl2.2) rfl) (Zi (SX (JP (i:=0) rfl (J6 S (by simp)) (by decide) (by decide)) (JP (i:=3) rfl (J6 S (by simp)) pl3.1 pl3.2) rfl))),?_⟩;refine⟨y,rfl,.ref a,rfl,a,C,fI,Qa,rfl,hH,xc,n1,λd hne hd=>?_⟩;refine⟨z,rfl,.ref a,rfl,a,C,fI,Qa,d,[(f1,y)],rfl,Ze ..,by rw[Zj hne,Ze],hne,by simp,xc,n2,?_⟩;refine⟨u,rfl,.ref a,rfl,a,C,fI,Qa,d,putF f2 z [(f1,y)],rfl,Ze ..,by rw[Zj hne,Ze],hne,by simp[putF,h12],xc,n3,?_⟩;refine k _ d hne hd (Ze ..) ?_ λb hb1 hb2=>by rw[Zj hb1,Zj hb2,Zj hb1,Zj hb2,Zj hb1,Zj hb2]
  rw[Zj hne,Ze];show some (XD d (putF f3 u (putF f2 z [(f1,y)])))=_;simp[putF,h12,h13,h23]
end
structure XK1(K:aa)(mg:Str->Option ac)(x:Str)(C fI Qa:ae):Prop where
 xc:XC K C fI Qa
 xr:XR K C
 xb:XB K C
 mg:mg x=some (.ref C)
 kp:bo K (.ref C)=true
section
variable {K:aa}{σ:St}{H:Hp}{Q:VK}{i:Nat}{n:Int}{p:ae}{xs:List V}{v:V}
theorem iaL(hp:H p=some (.lst xs))(hj:atI xs n=some v)(k:Q v H)(hv:σ[i]?=some (some (.ref p)):=by rfl):tOp (rIxL K) (tVar i) (tC (.int n)) σ H Q:=⟨_,hv,p,xs,n,v,rfl,rfl,SqL.of hp,hj,k⟩
theorem iaT(hp:H p=some (.tup xs))(hj:atI xs n=some v)(k:Q v H)(hv:σ[i]?=some (some (.ref p)):=by rfl):tOp (rIxT K) (tVar i) (tC (.int n)) σ H Q:=⟨_,hv,p,xs,n,v,rfl,rfl,SqT.of hp,hj,k⟩
theorem ixL(j:Nat)(hp:H p=some (.lst xs))(hj:xs[j]?=some v)(k:Q v H)(hv:σ[i]?=some (some (.ref p)):=by rfl):tOp (rIxL K) (tVar i) (tC (.int j)) σ H Q:=iaL hp (ZL hj) k hv
theorem ixT(j:Nat)(hp:H p=some (.tup xs))(hj:xs[j]?=some v)(k:Q v H)(hv:σ[i]?=some (some (.ref p)):=by rfl):tOp (rIxT K) (tVar i) (tC (.int j)) σ H Q:=iaT hp (ZL hj) k hv
theorem mthV{C t dx:ae}{m:Str}{sp:Sp}{dvs:List V}{E:XK}{ta:TA}{fs:List (Str×V)}(ht:H t=some (.ins C dx fs))(ho:fs.lookup m=none)(k:ta σ H λvs H2=>sp (.ref t::(vs++dvs)) H2 Q E)(hv:σ[i]?=some (some (.ref t)):=by rfl):Qs C m sp dvs E (tVar i) ta σ H Q:=⟨_,hv,t,dx,fs,rfl,ht,ho,k⟩
end
section
variable {X:Cx}{a b e:Expr}{es:List Expr}{ta tb te:TE}{t:TA}{pos:Pos}
noncomputable def Te:Expr->Bool
|.Starred ..=>false
|_=>true
theorem Rw{env:Env}(h:Te e=true):aO (e::es) env=(false,eval e env)::aO es env:=by cases e<;>first|rfl|cases h
theorem Za(ha:PE X e te)(hr:PA X es t)(hn:Te e=true:=by rfl):PA X (e::es) (JZ te t):=Zb ha hr (Rw hn)
theorem il(K:aa)(ha:PE X a ta)(hb:PE X b tb)(hK:X.K=K:=by rfl)(hs:Qk b:=by exact λ_ _=>rfl):PE X (.Subscript a b pos) (tOp (rIxL K) ta tb):=by subst hK;exact Yk L4 ha hb hs
theorem it(K:aa)(ha:PE X a ta)(hb:PE X b tb)(hK:X.K=K:=by rfl)(hs:Qk b:=by exact λ_ _=>rfl):PE X (.Subscript a b pos) (tOp (rIxT K) ta tb):=by subst hK;exact Yk Yb ha hb hs
theorem cn{k j:Nat}{x:Str}{ps:List Str}{sp:Sp}{p:Pos}(C:Can X.prog X.w X.K X.mg X.base k x ps sp)(hr:Room j X.A)(ha:PA X (e::es) t)(hk:k<=j:=by decide)(hg:Gl X x:=by rfl)(hdb:(x==("__debug__":Str))=false:=by decide)(he:aO (e::es) X.env=(false,eval e X.env)::aO es X.env:=by rfl)(hpl:(backTo pos (aO es X.env)).any (·.1)=false:=by rfl):PE X (.Call (.Name x p) (e::es) [] pos) (NY sp [] E0 t):=Z2 C (hr.mono hk) hg ha hdb he hpl
theorem st(i:Nat){x:Str}{p:Pos}(hN:X.N.Nodup)(he:PE X e te)(hi:X.N[i]?=some x:=by rfl)(hx:Loc X.env.scope x:=by exact aJ rfl)(hs:swapsWith e (some (.Name x p)) pos.line X.env=pure false:=by rfl)(hf:X.fn x=true\/X.env.scope.names.lookup x=some .local:=by first|exact .inl rfl|exact .inr rfl):PS X (.Assign [.Name x p] e pos) (tAsg te (QY i)):=ZM hN hi hx he hs hf
end
theorem zl{n:Nat}(h:Nat.ble n 1000=true:=by rfl):n<=av:=ax (Nat.le_of_ble_eq_true h) (by decide)
theorem gE{α:Type}{l:List α}{i:Nat}(h:i<l.length):l[i]?=some l[i]:=List.getElem?_eq_getElem h
theorem lm{α β:Type}{f:α->β}{l:List α}:(l.map f).length=l.length:=bA f
theorem scO{N P:List Str}{sc:bH}(h:sc.kind=.function/\sc.isCoroutine=false/\sc.isGenerator=false/\N.Nodup/\N.take P.length=P/\(∀x∈P,sc.names.lookup x=some .local\/sc.names.lookup x=some .cell)/\∀y∈sc.names,y.2≠.free):FnScope N P sc:=⟨h.1,h.2.1,h.2.2.1,h.2.2.2.1,h.2.2.2.2.1,h.2.2.2.2.2.1,h.2.2.2.2.2.2⟩
noncomputable def csx(l:List (Str×dM)):bH:={kind:=.function,names:=l,isGenerator:=false,isCoroutine:=false,more:=[]}
section
variable {P:aA}{w:aI}{K:aa}{mg:Str->Option ac}{base:aX}{x:Str}{st:bc}{N ps:List Str}{k:Nat}{sp:Sp}
theorem Df.cn(D:Df K mg x st ps)(S:FnScope N ps (Zg st))(hb:∀(f:ae)(cdv:ac)(A:ba)(outer:List Env)(s:ag)(H:Hp)(vs:List V)(Q:VK)(E:XK),Room k (A.deeper (envOfC x (Zg st) s.heap.objs.size f cdv))->sp vs H Q E->∃t,PSs (cxOf CX0 P w K mg base N x (Zg st) f cdv A outer s H E).nox (ZR st) t/\t {nx:=λ_ H'=>Q .non H',rt:=Q} (start N vs) H)(len:∀vs H Q E,sp vs H Q E->vs.length=ps.length:=by intro _ _ _ _ h;repeat (obtain⟨a,h⟩:=h;first|(subst a;rfl)|skip)):Can P w K mg base (k+1) x ps sp:=D.can S len hb
theorem Df.cnX(D:Df K mg x st ps)(S:FnScope N ps (Zg st))(hb:∀(f:ae)(cdv:ac)(A:ba)(outer:List Env)(s:ag)(H:Hp)(vs:List V)(Q:VK)(E:XK),Room k (A.deeper (envOfC x (Zg st) s.heap.objs.size f cdv))->sp vs H Q E->∃t,PSs (cxOf (CX1 P w) P w K mg base N x (Zg st) f cdv A outer s H E) (ZR st) t/\t {nx:=λ_ H'=>Q .non H',rt:=Q} (start N vs) H)(len:∀vs H Q E,sp vs H Q E->vs.length=ps.length:=by intro _ _ _ _ h;repeat (obtain⟨a,h⟩:=h;first|(subst a;rfl)|skip)):CanX P w K mg base (k+1) x ps sp:=D.canX S len hb
end
section
variable {t u:TS}{D:Ends}{σ:St}{H:Hp}
theorem sq(S:St->Hp->Prop)(h1:∀n:St->Hp->Prop,(∀σ' H',S σ' H'->n σ' H')->t {D with nx:=n} σ H)(h2:∀σ' H',S σ' H'->u D σ' H'):tSeq t u D σ H:=h1 _ h2
theorem sqI{c:TT}{a b:TS}(R:Hp->Prop)(h1:∀n:St->Hp->Prop,(∀H',R H'->n σ H')->tIfS c a b {D with nx:=n} σ H)(h2:∀H',R H'->u D σ H'):tSeq (tIfS c a b) u D σ H:=h1 _ h2
end
end L2
namespace T
open PySem L2
noncomputable def top(i:Nat):bc:=PySem.Challenge.pw_homequay_k06_tables_made_of_tables.main.body.getD i (.Pass ⟨0,0,0,0⟩)
noncomputable abbrev m_BadTable___init__:bc:=inClass (top 3) 0
noncomputable abbrev m_NoPlace___init__:bc:=inClass (top 4) 0
noncomputable abbrev m_NoRide___init__:bc:=inClass (top 5) 0
noncomputable abbrev m_NoGroup___init__:bc:=inClass (top 6) 0
noncomputable abbrev m_NoHomes___init__:bc:=inClass (top 7) 0
noncomputable abbrev m_NoTurn___init__:bc:=inClass (top 8) 0
noncomputable abbrev f_is_whole:bc:=top 15
noncomputable abbrev f_is_within:bc:=top 16
noncomputable abbrev f_is_text_of:bc:=top 17
noncomputable abbrev f_is_name:bc:=top 18
noncomputable abbrev f_is_group_name:bc:=top 19
noncomputable abbrev f_is_known:bc:=top 27
noncomputable abbrev f_rows_of:bc:=top 28
noncomputable abbrev f_wrong_beginning:bc:=top 29
noncomputable abbrev f_wrong_ends:bc:=top 30
noncomputable abbrev f_wrong_place:bc:=top 31
noncomputable abbrev f_wrong_ride:bc:=top 32
noncomputable abbrev f_wrong_way:bc:=top 33
noncomputable abbrev f_wrong_group:bc:=top 34
noncomputable abbrev f_refuse_row:bc:=top 35
noncomputable abbrev m_Table___init__:bc:=inClass (top 36) 0
noncomputable abbrev m_Table_take_places:bc:=inClass (top 36) 1
noncomputable abbrev m_Table_take_rides:bc:=inClass (top 36) 2
noncomputable abbrev m_Table_take_ways:bc:=inClass (top 36) 3
noncomputable abbrev m_Table_take_groups:bc:=inClass (top 36) 4
noncomputable abbrev m_Table_told:bc:=inClass (top 36) 5
noncomputable abbrev m_Table_is_place:bc:=inClass (top 36) 6
noncomputable abbrev m_Table_is_home:bc:=inClass (top 36) 7
noncomputable abbrev m_Table_is_ride:bc:=inClass (top 36) 8
noncomputable abbrev m_Table_is_group:bc:=inClass (top 36) 10
noncomputable abbrev m_Table_room_of:bc:=inClass (top 36) 11
noncomputable abbrev m_Table_homes:bc:=inClass (top 36) 12
noncomputable abbrev m_Table_ride_row:bc:=inClass (top 36) 13
noncomputable abbrev m_Table_group_row:bc:=inClass (top 36) 15
noncomputable abbrev m_Table_people:bc:=inClass (top 36) 16
noncomputable abbrev m_Table_with_rides:bc:=inClass (top 36) 17
noncomputable abbrev m_Table_with_ride_as:bc:=inClass (top 36) 18
noncomputable abbrev m_Table_with_ride:bc:=inClass (top 36) 19
noncomputable abbrev m_Table_with_groups:bc:=inClass (top 36) 20
noncomputable abbrev m_Table_without_ride:bc:=inClass (top 36) 21
noncomputable abbrev m_Table_with_seats:bc:=inClass (top 36) 22
noncomputable abbrev m_Table_with_later:bc:=inClass (top 36) 23
noncomputable abbrev m_Table_with_homes:bc:=inClass (top 36) 24
noncomputable abbrev f__law_box:bc:=top 39
noncomputable abbrev f__law_take:bc:=top 40
noncomputable abbrev f__law_names:bc:=top 41
noncomputable abbrev f__law_places:bc:=top 42
noncomputable abbrev f__law_size:bc:=top 43
noncomputable abbrev f__law_ends:bc:=top 44
noncomputable abbrev f__law_ride:bc:=top 45
noncomputable abbrev f__law_way:bc:=top 46
noncomputable abbrev f__law_group:bc:=top 47
noncomputable abbrev f__law_world:bc:=top 48
noncomputable abbrev f__law_table:bc:=top 49
noncomputable abbrev f__law_is_whole:bc:=top 50
noncomputable abbrev f__law_rides:bc:=top 51
noncomputable abbrev f__law_number:bc:=top 52
noncomputable abbrev f__law_name:bc:=top 53
noncomputable abbrev f__law_one:bc:=top 54
noncomputable abbrev f__law_more:bc:=top 55
noncomputable abbrev f__law_less:bc:=top 56
noncomputable abbrev f__law_put:bc:=top 57
noncomputable abbrev f__law_seats:bc:=top 58
noncomputable abbrev f__law_later:bc:=top 59
noncomputable abbrev f__law_groups:bc:=top 60
noncomputable abbrev f__law_homes:bc:=top 61
noncomputable abbrev f__law_deed:bc:=top 62
noncomputable abbrev f__law_made:bc:=top 63
noncomputable abbrev f__law_told:bc:=top 64
noncomputable abbrev f__law_tells:bc:=top 65
noncomputable abbrev f__law_turn:bc:=top 66
noncomputable abbrev f_law:bc:=top 67
end T
namespace L2
open PySem PySem.Spec PyProof.Rows
def Ji(K:aa)(w:aI)(a:ae)(z:Str)(v:V):Prop:=∃es n u,K.lookup a=some ⟨.type "dict",none,.dict es n,#[]⟩/\PySem.W.KeysLit w.params es.toList/\bE K a z=some (some u)/\RelV v u
def E2(K:aa)(w:aI)(td ty:TE):TE:=λσ H Q=>td σ H λx H1=>ty σ H1 λy H2=>∃a z v,x=.ref a/\y=.str z/\Ji K w a z v/\Q v H2
section
variable {X:Cx}{o i:Expr}{td ty:TE}{pos:Pos}
theorem P0(ho:PE X o td)(hi:PE X i ty)(hs:NoSl i):PE X (.Subscript o i pos) (E2 X.K X.w td ty):=by intro pins s σ H Q I h;refine SK PySem.F.slot_dict_getitem.lookup hs (thn (ho pins s σ H _ I h) λu s1 h90=>?_);obtain⟨x,H1,I1,rx,q1⟩:=h90;refine thn (hi pins s1 σ H1 _ I1 q1) λiv s2 h91=>?_;obtain⟨y,H2,I2,ry,a,z,v,ex,ey,⟨es,n,u',hl,hk,hn,rv⟩,q2⟩:=h91;subst ex ey;obtain rfl:u=ay a:=rx;obtain⟨t,rfl⟩:=(show ∃t,iv=Value.str z t from ry);have hm:=PySem.W.mapOf_K (prog:=X.prog) I2.kIn hl hk;exact⟨hm.typeIs,wpAny_getItem_of (strKind_is X.prog X.w z t) hm (PySem.W.find_K hl hn) ⟨v,H2,I2.tok _,rv,q2⟩⟩
end
end L2
namespace K1
noncomputable def LET:List Nat:=[97,98,99,100,101,102,103,104,105,106,107,108,109,110,111,112,113,114,115,116,117,118,119,120,121,122]
noncomputable def FIG:List Nat:=[48,49,50,51,52,53,54,55,56,57]
noncomputable def lenB(n:Int)(y:List Nat):Bool:=decide ((1:Int)<=y.length)&&decide ((y.length:Int)<=n)
noncomputable def YR(n:Int)(zs y:List Nat):Bool:=lenB n y&&y.all λc=>decide (c∈zs)
noncomputable def JE(n:Int)(zs y:List Nat):Bool:=YR n zs y&&decide (y.getD 0 0∈LET)
open PySem L2
noncomputable abbrev Ko:bc:=T.f_is_whole
noncomputable abbrev SU:bc:=T.f_is_within
noncomputable abbrev PY:bc:=T.f_is_text_of
noncomputable abbrev Dt:bc:=T.f_is_name
noncomputable abbrev Kp:bc:=T.f_is_group_name
noncomputable def tLET:Str:="abcdefghijklmnopqrstuvwxyz"
noncomputable def tNAME:Str:="abcdefghijklmnopqrstuvwxyz0123456789"
noncomputable def tGROUP:Str:="abcdefghijklmnopqrstuvwxyz0123456789."
structure Txt(K:aa)(mg:Str->Option ac):Prop where
 lets:∃t,mg "LETTERS"=some (.str tLET t)
 names:∃t,mg "NAME_SIGNS"=some (.str tNAME t)
 groups:∃t,mg "GROUP_SIGNS"=some (.str tGROUP t)
 ln:∃t,mg "LONGEST_NAME"=some (.int 8 t)
 lg:∃t,mg "LONGEST_GROUP_NAME"=some (.int 12 t)
 isi:mg "isinstance"=none
 int:mg "int"=none
 bool:mg "bool"=none
 str:mg "str"=none
 len:mg "len"=none
 all:mg "all"=none
noncomputable def Mw(x:V):Bool:=KS x
noncomputable def Zp(x:V)(lo hi:Int):Bool:=match x with
|.int i=>decide (lo<=i)&&decide (i<=hi)
|_=>false
noncomputable def codes(z:Str):List Nat:=z.cps.toList
noncomputable def SJ(x:V)(n:Int)(z:Str):Bool:=match x with
|.str y=>YR n (codes z) (codes y)
|_=>false
noncomputable def Ut(x:V)(n:Int)(z:Str):Bool:=match x with
|.str y=>JE n (codes z) (codes y)
|_=>false
def Vx:Sp:=λvs H Q _=>∃x T,vs=[x]/\Th H x T/\Q (.bl (Mw x)) H
def Xl:Sp:=λvs H Q _=>∃x T lo hi,vs=[x,.int lo,.int hi]/\Th H x T/\Q (.bl (Zp x lo hi)) H
def MF:Sp:=λvs H Q _=>∃x T n z,vs=[x,.int n,.str z]/\Th H x T/\∀H',Same H H'->Q (.bl (SJ x n z)) H'
def PB(n:Int)(z:Str):Sp:=λvs H Q _=>∃x T,vs=[x]/\Th H x T/\∀H',Same H H'->Q (.bl (Ut x n z)) H'
theorem slen{z:Str}(h:z.length<=1000):z.length<=av:=Nat.le_of_lt (XH h)
theorem clen(z:Str):(codes z).length=z.length:=by simp[codes,Str.length]
section
variable {P:aA}{w:aI}{K:aa}{mg:Str->Option ac}{base:aX}
theorem LG:FnScope ["thing"] ["thing"] (Zg Ko):=⟨rfl,rfl,rfl,by decide +kernel,rfl,by decide +kernel,by decide +kernel⟩
theorem Pn(T:Txt K mg)(D:Df K mg "is_whole" Ko ["thing"]):Can P w K mg base 1 "is_whole" ["thing"] Vx:=by
 refine D.can LG (λvs H Q E h=>?_) (λf cdv A outer s H vs Q E hr h=>?_)
 ·obtain⟨x,T',rfl,_⟩:=h;rfl
 ·obtain⟨x,T',rfl,th,k⟩:=h;refine⟨_,Zi (Zl (V3 (Vh (c:="int") (pv 0) rfl T.isi rfl T.int GQ) (XN (Ky (Vh (c:="bool") (pv 0) rfl T.isi rfl T.bool TU))))),?_⟩;refine⟨_,rfl,_,_,_,_,rfl,th.ty,th.kitI,_,rfl,?_⟩;have fin:∀b,b=Mw x->Q (.bl b) H:=λb e=>e▸k;refine ite2 (λe=>?_) (λe=>fin _ ?_)
  ·refine⟨_,rfl,_,_,_,_,rfl,th.ty,th.kitB,_,rfl,fin _ ?_⟩;cases th<;>first|rfl|(exact absurd (show false=true from e) az)
  ·cases th<;>first|rfl|(exact absurd rfl e)
theorem Kg:FnScope ["thing","low","high"] ["thing","low","high"] (Zg SU):=⟨rfl,rfl,rfl,by decide +kernel,rfl,by decide +kernel,by decide +kernel⟩
theorem NA(D:Df K mg "is_within" SU ["thing","low","high"])(CW:Can P w K mg base 1 "is_whole" ["thing"] Vx):Can P w K mg base 2 "is_within" ["thing","low","high"] Xl:=by
 refine D.can Kg (λvs H Q E h=>?_) (λf cdv A outer s H vs Q E hr h=>?_)
 ·obtain⟨x,T',lo,hi,rfl,_⟩:=h;rfl
 ·obtain⟨x,T',lo,hi,rfl,th,k⟩:=h;refine⟨_,Zi (Zl (V3 (Z2 CW hr rfl (Zb (pv 0) Zc)) (XN (KA Us Us (pv 1) (pv 0) (pv 2))))),?_⟩;refine⟨_,rfl,x,T',rfl,th,_,rfl,?_⟩;have fin:∀b,b=Zp x lo hi->Q (.bl b) H:=λb e=>e▸k;refine ite2 (λe=>?_) (λe=>fin _ ?_)
  ·cases th with
  |int i=>
    refine⟨_,rfl,_,rfl,_,_,rfl,rfl,_,rfl,?_⟩;refine ite2 (λe2=>?_) (λe2=>fin _ ?_)
    ·refine⟨_,rfl,_,_,rfl,rfl,fin _ ?_⟩;show _=(decide (lo<=i)&&decide (i<=hi));rw[e2,dR]
    ·show false=(decide (lo<=i)&&decide (i<=hi));have e3:decide (lo<=i)=false:=by simpa using e2
     rw[e3,Bool.false_and]
  |_=>exact absurd (show false=true from e) az
  ·cases th<;>first|rfl|(exact absurd rfl e)
theorem Kj:FnScope ["thing","longest","signs"] ["thing","longest","signs"] (Zg PY):=⟨rfl,rfl,rfl,by decide +kernel,rfl,by decide +kernel,by decide +kernel⟩
noncomputable def cs1:bH:={kind:=.function,names:=[(cV ".0",.local),(cV "sign",.local),(cV "signs",.free)],isGenerator:=false,isCoroutine:=false,more:=[]}
theorem EJ:CompScope cs1 (Zg PY):=⟨rfl,by decide +kernel,by decide +kernel,by decide +kernel⟩
theorem EL:(["sign","signs"]:List Str).Nodup:=by decide +kernel
theorem EK:CompNames ["thing","longest","signs"] cs1 ["sign","signs"] [none,some 2]:=.mk' (by decide +kernel)
theorem RU(z:Str)(c:Nat):(!(Builtin.Str.occurrences z ⟨#[c]⟩ 0 z.length 1).isEmpty)=decide (c∈codes z):=PySem.StrLaws.found_one z c
theorem take_all{α β:Type}(l:List α)(p:α->β)(i:Nat)(c:α)(h:l[i]?=some c):(l.take (i+1)).map p=(l.take i).map p++[p c]:=by rw[List.take_add_one,h,aN];rfl
theorem Sd(T:Txt K mg)(D:Df K mg "is_text_of" PY ["thing","longest","signs"]):Can P w K mg base 1 "is_text_of" ["thing","longest","signs"] MF:=by
 refine D.can Kj (λvs H Q E h=>?_) (λf cdv A outer s H vs Q E hr h=>?_)
 ·obtain⟨x,T',n,z,rfl,_⟩:=h;rfl
 ·obtain⟨x,T',n,z,rfl,th,k⟩:=h;refine⟨_,Zf (ZC (PW.pt (Xv (ZW (ZX (Vh (c:="str") (pv 0) rfl T.isi rfl T.str Sw))) (Y6 (ZW (Um Us Us Zd (ZJ Ln rfl T.len bt (Zb (pv 0) Zc)) (pv 1)))))) (Zi (Zl VO)) Zq) (Zi (Zl (ZJ (Lp rfl) rfl T.all PyProof.Rows.boot_all (Zb (Yy (scope:=cs1) (N:=["sign","signs"]) (cp:=[none,some 2]) rfl EJ EK (D2 (pv 0)) (λC s H ex pn=>Zt (i:=0) EL rfl (aJ rfl)) (λC s H ex pn=>Yp) (λC s H ex pn=>Xi Gz (pv 0) (pv 1) (by with_unfolding_all rfl))) Zc)))),?_⟩;have fin:∀b H',Same H H'->b=SJ x n z->Q (.bl b) H':=λb H' sm e=>e▸k H' sm;refine⟨_,rfl,_,_,_,_,rfl,th.ty,th.kitS,_,rfl,?_⟩;refine ite2 (λe=>?_) (λe=>?_)
  ·refine iteT (fin _ _ (Same.refl _) ?_);cases th<;>first|rfl|(exact absurd (show false=true from e) az)
  ·cases th with
  |str y hy=>
    have hlen:(codes y).length=y.length:=clen y;refine⟨_,rfl,_,_,rfl,⟨slen hy,rfl⟩,_,_,rfl,rfl,_,rfl,?_⟩;refine ite2 (λe1=>?_) (λe1=>?_)
    ·refine⟨_,rfl,_,_,rfl,rfl,_,rfl,?_⟩;refine ite2 (λe2=>?_) (λe2=>?_)
     ·refine fin _ _ (Same.refl _) ?_;show false=YR n (codes z) (codes y);unfold YR lenB;have e3:decide ((y.length:Int)<=n)=false:=by simpa using e2
      rw[hlen,e3,Bool.and_false,Bool.false_and]
     ·have e3:decide ((y.length:Int)<=n)=true:=by simpa using e2
      refine⟨_,rfl,y,rfl,Z7 (J:=Its y) y.length (slen hy) (λi ys τ H1=>H1=H/\ys=((codes y).take i).map (λc=>V.bl (decide (c∈codes z)))/\∃v,τ=[v,some (.str z)]) ⟨rfl,rfl,none,rfl⟩ (λi ys τ H1 p=>?_) (λi ys τ H1 hi p=>hi) (λys τ H1 p=>aj _) (λi ys τ H1 x' H2 hi p yl=>?_) (λys τ H1 p l hl=>?_)⟩
      ·rw[p.2.1,bA,aL];omega
      ·obtain⟨rfl,rfl,v,rfl⟩:=p;obtain⟨rfl,c,hc,rfl⟩:=yl;refine⟨_,rfl,_,rfl,_,_,rfl,rfl,rfl,?_,_,rfl⟩;rw[RU];exact(take_all (codes y) (λc=>V.bl (decide (c∈codes z))) i c hc).symm
      ·obtain⟨rfl,rfl,v,rfl⟩:=p;refine⟨l,(codes y).map (λc=>decide (c∈codes z)),rfl,SqL.of ?_,fin _ _ (λb o q=>?_) ?_⟩
       ·rw[Ze,<-hlen,b7,bZ];rfl
       ·rw[Zj (Zk q hl)];exact q
       ·show _=YR n (codes z) (codes y);unfold YR lenB;rw[hlen,e1,e3,dR,dR,List.all_map];rfl
    ·refine⟨_,rfl,iteT (fin _ _ (Same.refl _) ?_)⟩;show false=YR n (codes z) (codes y);unfold YR lenB;have e3:decide ((1:Int)<=y.length)=false:=by simpa using e1
     rw[hlen,e3,Bool.false_and,Bool.false_and]
  |_=>exact absurd rfl e
theorem cLET:codes tLET=LET:=by decide +kernel
theorem FA:codes tNAME=LET++FIG++[]:=by decide +kernel
theorem EM:codes tGROUP=LET++FIG++[46]:=by decide +kernel
theorem NW{x:V}{n:Int}{z:Str}(h:SJ x n z=true):∃y c r,x=.str y/\codes y=c::r:=by
 cases x with
|str y=>
  have h':YR n (codes z) (codes y)=true:=h;unfold YR lenB at h';rw[br,br]at h';have h1:=of_decide_eq_true h'.1.1;cases e:codes y with
 |nil=>rw[e]at h1;simp at h1
 |cons c r=>exact⟨y,c,r,rfl,e⟩
|_=>exact absurd (show false=true from h) az
theorem TX{y:Str}{c:Nat}{r:List Nat}(e:codes y=c::r):atI y.cps.toList 0=some c:=by have e':y.cps.toList=c::r:=e;rw[e'];exact ZL (j:=0) rfl
theorem _root_.L2.Th.strLen{H:Hp}{y:Str}{T:String}(h:Th H (.str y) T):y.length<=1000:=by
 cases h with
|str z h=>exact h
theorem GR{x:V}{n:Int}{z:Str}(h:SJ x n z=false):Ut x n z=false:=by
 cases x with
|str y=>have h':YR n (codes z) (codes y)=false:=h;show(YR n (codes z) (codes y)&&_)=false;rw[h',Bool.false_and]
|_=>rfl
theorem LF:FnScope ["thing"] ["thing"] (Zg Dt):=⟨rfl,rfl,rfl,by decide +kernel,rfl,by decide +kernel,by decide +kernel⟩
theorem Li(T:Txt K mg)(D:Df K mg "is_name" Dt ["thing"])(CT:Can P w K mg base 1 "is_text_of" ["thing","longest","signs"] MF):Can P w K mg base 2 "is_name" ["thing"] (PB 8 tNAME):=by
 refine D.can LF (λvs H Q E h=>?_) (λf cdv A outer s H vs Q E hr h=>?_)
 ·obtain⟨x,T',rfl,_⟩:=h;rfl
 ·obtain⟨x,T',rfl,th,k⟩:=h;obtain⟨t1,h1⟩:=T.ln;obtain⟨t2,h2⟩:=T.names;obtain⟨t3,h3⟩:=T.lets;refine⟨_,Zi (Zl (V3 (Z2 CT hr rfl (Zb (pv 0) (Zb (Yx (v:=V.int 8) rfl h1 ⟨t1,rfl⟩) (Zb (Yx (v:=V.str tNAME) rfl h2 ⟨t2,rfl⟩) Zc)))) (XN (Xi Gz (Yk Ng (pv 0) Zd (λ_ _=>rfl)) (Yx (v:=V.str tLET) rfl h3 ⟨t3,rfl⟩) (by with_unfolding_all rfl))))),?_⟩;refine⟨_,rfl,x,T',8,tNAME,rfl,th,λH' sm=>⟨_,rfl,?_⟩⟩;have fin:∀b,b=Ut x 8 tNAME->Q (.bl b) H':=λb e=>e▸k H' sm;refine ite2 (λe=>?_) (λe=>fin _ ?_)
  ·obtain⟨y,c,r,rfl,ey⟩:=NW e;refine⟨_,rfl,y,0,c,rfl,rfl,slen th.strLen,TX ey,_,_,rfl,rfl,fin _ ?_⟩;have e':YR 8 (codes tNAME) (codes y)=true:=e;show _=(YR 8 (codes tNAME) (codes y)&&decide ((codes y).getD 0 0∈LET));rw[RU,e',dR,cLET,ey];rfl
  ·exact(GR (by simpa using e)).symm
theorem Kf:FnScope ["thing"] ["thing"] (Zg Kp):=⟨rfl,rfl,rfl,by decide +kernel,rfl,by decide +kernel,by decide +kernel⟩
theorem WY(T:Txt K mg)(D:Df K mg "is_group_name" Kp ["thing"])(CT:Can P w K mg base 1 "is_text_of" ["thing","longest","signs"] MF):Can P w K mg base 2 "is_group_name" ["thing"] (PB 12 tGROUP):=by
 refine D.can Kf (λvs H Q E h=>?_) (λf cdv A outer s H vs Q E hr h=>?_)
 ·obtain⟨x,T',rfl,_⟩:=h;rfl
 ·obtain⟨x,T',rfl,th,k⟩:=h;obtain⟨t1,h1⟩:=T.lg;obtain⟨t2,h2⟩:=T.groups;obtain⟨t3,h3⟩:=T.lets;refine⟨_,Zi (Zl (V3 (Z2 CT hr rfl (Zb (pv 0) (Zb (Yx (v:=V.int 12) rfl h1 ⟨t1,rfl⟩) (Zb (Yx (v:=V.str tGROUP) rfl h2 ⟨t2,rfl⟩) Zc)))) (XN (Xi Gz (Yk Ng (pv 0) Zd (λ_ _=>rfl)) (Yx (v:=V.str tLET) rfl h3 ⟨t3,rfl⟩) (by with_unfolding_all rfl))))),?_⟩;refine⟨_,rfl,x,T',12,tGROUP,rfl,th,λH' sm=>⟨_,rfl,?_⟩⟩;have fin:∀b,b=Ut x 12 tGROUP->Q (.bl b) H':=λb e=>e▸k H' sm;refine ite2 (λe=>?_) (λe=>fin _ ?_)
  ·obtain⟨y,c,r,rfl,ey⟩:=NW e;refine⟨_,rfl,y,0,c,rfl,rfl,slen th.strLen,TX ey,_,_,rfl,rfl,fin _ ?_⟩;have e':YR 12 (codes tGROUP) (codes y)=true:=e;show _=(YR 12 (codes tGROUP) (codes y)&&decide ((codes y).getD 0 0∈LET));rw[RU,e',dR,cLET,ey];rfl
  ·exact(GR (by simpa using e)).symm
end
end K1
namespace TB
open PySem L2 PySem.Spec PyProof.Rows
def Bad(C:ae)(p a y:V)(H:Hp)(E:XK):Prop:=∀H' d,H d=none->H' d=some (XD d [("part",p),("at",a),("why",y)])->(∀b,b≠d->H' b=H b)->E (.ref C) (some d) H'
def Vb(C:ae):Sp:=λvs H Q E=>∃p a y,vs=[p,a,y]/\((y=.non/\Q .non H)\/(y≠.non/\Bad C p a y H E))
section
variable {P:aA}{w:aI}{K:aa}{mg:Str->Option ac}{base:aX}{C:ae}
theorem Kk:FnScope ["part","at","why"] ["part","at","why"] (Zg T.f_refuse_row):=scO (by decide +kernel)
theorem Se(B:Err P w K mg base "BadTable" ["part","at","why"] C)(D:Df K mg "refuse_row" T.f_refuse_row ["part","at","why"]):CanX P w K mg base 3 "refuse_row" ["part","at","why"] (Vb C):=by
 refine D.cnX Kk λf cdv A outer s H vs Q E hr h=>?_;obtain⟨p,a,y,rfl,h⟩:=h;refine⟨_,Zi (ZC (Zr Mm (pv 2) ZN (Zx _)) (Zi (YO (E:=E) B Z1 rfl hr rfl (Zb (pv 0) (Zb (pv 1) (Zb (pv 2) Zc))))) Zq),?_⟩;try dsimp only[cxOf,Cx.nox]
 refine⟨_,rfl,rfl,_,rfl,?_⟩;rcases h with⟨rfl,h⟩|⟨hn,h⟩
 ·exact iteF h
 ·rw[if_pos (by simp[hn])];exact⟨_,rfl,_,rfl,_,rfl,rfl,h⟩
structure Txt(K:aa)(mg:Str->Option ac):Prop where
 turns:∃t,mg "MOST_TURNS"=some (.int 50 t)
 room:∃t,mg "MOST_ROOM"=some (.int 1000 t)
 way:∃t,mg "LONGEST_WAY"=some (.int 50 t)
 people:∃t,mg "MOST_PEOPLE"=some (.int 300 t)
 isi:mg "isinstance"=none
 str:mg "str"=none
 tup:mg "tuple"=none
 lst:mg "list"=none
 len:mg "len"=none
noncomputable def Yi(r:V):V:=if(decide (r=.non)||K1.Zp r 0 1000)=true then .non else .str "number"
def Qv:Sp:=λvs H Q _=>∃p n r T,vs=[.ref p]/\H p=some (.tup [n,r])/\Th H r T/\Q (Yi r) H
theorem Kh:FnScope ["row"] ["row"] (Zg T.f_wrong_place):=scO (by decide +kernel)
theorem R6(G:Txt K mg)(D:Df K mg "wrong_place" T.f_wrong_place ["row"])(CI:Can P w K mg base 2 "is_within" ["thing","low","high"] K1.Xl):Can P w K mg base 3 "wrong_place" ["row"] Qv:=by
 obtain⟨t1,h1⟩:=G.room;refine D.cn Kh λf cdv A outer s H vs Q E hr h=>?_;obtain⟨p,n,r,T',rfl,hp,th,k⟩:=h;refine⟨_,Zf (ZC (PW.pt (Xv (Zr Xq (Yk Yb (pv 0) Zd (λ_ _=>rfl)) ZN (Zx _)) (Y6 (ZX (Z2 CI hr rfl (Zb (Yk Yb (pv 0) Zd (λ_ _=>rfl)) (Zb Zd (Zb (Yx (v:=V.int 1000) rfl h1 ⟨t1,rfl⟩) Zc)))))))) (Zi (Zl ZN)) Zq) (Zi (Zl Zn)),?_⟩;try dsimp only[cxOf,Cx.nox]
 refine⟨_,rfl,p,[n,r],1,r,rfl,rfl,SqT.of hp,rfl,rfl,_,rfl,?_⟩;unfold Yi at k;refine ite2 (λe=>?_) (λe=>?_)
 ·rw[if_pos (by simp[e])]at k;exact iteT k
 ·refine⟨_,rfl,p,[n,r],1,r,rfl,rfl,SqT.of hp,rfl,r,T',0,1000,rfl,th,_,rfl,?_⟩;refine ite2 (λe2=>?_) (λe2=>?_)
  ·rw[if_pos (by simp[e2])]at k;exact k
  ·rw[if_neg (by simpa using⟨by simpa using e,by simpa using e2⟩)]at k;exact k
noncomputable def ZF(x:V)(kvs:List (Key×V)):Bool:=match x with
|.str z=>(valV kvs (.inr z)).isSome
|_=>false
def Mc:Sp:=λvs H Q _=>∃x T d kvs,vs=[x,.ref d]/\Th H x T/\H d=some (.dK kvs)/\Q (.bl (ZF x kvs)) H
theorem LI:FnScope ["thing","names"] ["thing","names"] (Zg T.f_is_known):=scO (by decide +kernel)
theorem Po(G:Txt K mg)(D:Df K mg "is_known" T.f_is_known ["thing","names"]):Can P w K mg base 1 "is_known" ["thing","names"] Mc:=by
 refine D.cn LI λf cdv A outer s H vs Q E hr h=>?_;obtain⟨x,T',d,kvs,rfl,th,hd,k⟩:=h;refine⟨_,Zi (Zl (V3 (Vh (c:="str") (pv 0) rfl G.isi rfl G.str Sw) (XN (D3 (KB (VP hr) (pv 0) (pv 1)))))),?_⟩;try dsimp only[cxOf,Cx.nox]
 refine⟨_,rfl,_,_,_,_,rfl,th.ty,th.kitS,_,rfl,?_⟩;have fin:∀b,b=ZF x kvs->Q (.bl b) H:=λb e=>e▸k;refine ite2 (λe=>?_) (λe=>fin _ ?_)
 ·obtain⟨z,rfl⟩:∃z,x=.str z:=by cases th<;>first|exact⟨_,rfl⟩|(exact absurd (show false=true from e) az)
  exact⟨_,rfl,_,rfl,d,_,rfl,DGet.k (k:=cv z) hd,k⟩
 ·cases th<;>first|rfl|(exact absurd rfl e)
end
end TB
namespace L2
open PySem PySem.Spec PyProof.Rows
theorem YX:bootBuiltins "tuple"=some (.type "tuple"):=by decide +kernel
theorem Gi:bootBuiltins "list"=some (.type "list"):=by decide +kernel
theorem Th.kitT{K:aa}{H:Hp}{v:V}{T:String}(h:Th H v T):aR K (.type T) (.type "tuple")=some (decide (T="tuple")):=by cases h<;>(unfold aR;first|rfl|decide +kernel|(show _=_;simp;rfl))
end L2
namespace TB
open PySem L2 PySem.Spec PyProof.Rows
noncomputable def Z4(g:Bool)(x:V):Bool:=if g=true then K1.Ut x 12 K1.tGROUP else K1.Ut x 8 K1.tNAME
noncomputable def begV(g:Bool)(n:Nat)(kvs:List (Key×V))(xs:List V):V:=if xs.length≠n then .str "form" else if Z4 g (xs.getD 0 .non)=false then .str "name" else if ZF (xs.getD 0 .non) kvs=true then .str "double" else .non
def Row(H:Hp)(v:V)(r:Option (List V)):Prop:=match r with
|none=>∃T,Th H v T/\T≠"tuple"
|some xs=>∃p,v=.ref p/\H p=some (.tup xs)/\∀x∈xs,∃T,Th H x T
noncomputable def begR(g:Bool)(n:Nat)(kvs:List (Key×V)):Option (List V)->V
|none=>.str "form"
|some xs=>begV g n kvs xs
structure Sizes(K:aa)(w:aI)(mg:Str->Option ac):Prop where
 at_:∃a,mg "ROW_SIZES"=some (.ref a)/\Ji K w a "places" (.int 2)/\Ji K w a "rides" (.int 6)/\Ji K w a "ways" (.int 5)/\Ji K w a "groups" (.int 4)
noncomputable def MY:List (Str×Nat):=[("places",2),("rides",6),("ways",5),("groups",4)]
def Va:Sp:=λvs H Q _=>∃z n row r d kvs,vs=[.str z,row,.ref d]/\(z,n)∈MY/\Row H row r/\H d=some (.dK kvs)/\∀H',Same H H'->Q (begR (decide (z="groups")) n kvs r) H'
section
variable {P:aA}{w:aI}{K:aa}{mg:Str->Option ac}{base:aX}{C:ae}
theorem Ki:FnScope ["part","row","names_ahead","fits"] ["part","row","names_ahead"] (Zg T.f_wrong_beginning):=scO (by decide +kernel)
theorem Sa(G:Txt K mg)(Z:Sizes K w mg)(D:Df K mg "wrong_beginning" T.f_wrong_beginning ["part","row","names_ahead"])(CN:Can P w K mg base 2 "is_name" ["thing"] (K1.PB 8 K1.tNAME))(CG:Can P w K mg base 2 "is_group_name" ["thing"] (K1.PB 12 K1.tGROUP)):Can P w K mg base 3 "wrong_beginning" ["part","row","names_ahead"] Va:=by
 obtain⟨aS,hS,k1,k2,k3,k4⟩:=Z.at_;have nd:(["part","row","names_ahead","fits"]:List Str).Nodup:=by decide +kernel
 refine D.cn Ki λf cdv A outer s H vs Q E hr h=>?_;obtain⟨z,n,row,r,d,kvs,rfl,hz,hrow,hd,k⟩:=h;have hK:Ji K w aS z (.int n):=by simp only[MY,aq,Prod.mk.injEq,aK,or_false]at hz;rcases hz with⟨rfl,rfl⟩|⟨rfl,rfl⟩|⟨rfl,rfl⟩|⟨rfl,rfl⟩<;>assumption
 refine⟨_,Zf (ZC (PW.pt (Xv (ZW (ZX (Vh (c:="tuple") (pv 1) rfl G.isi rfl G.tup YX))) (Y6 (Zr GY (ZJ JX rfl G.len bt (Zb (pv 1) Zc)) (P0 (Yx (v:=V.ref aS) rfl hS rfl) (pv 0) (λ_ _=>rfl)) (Zx _))))) (Zi (Zl Zn)) Zq) (Zf (ZM (i:=3) nd rfl (aJ rfl) (Up (Zr Yl (pv 0) Zn (Zx _)) (Z2 CG hr rfl (Zb (Yk Yb (pv 1) Zd (λ_ _=>rfl)) Zc)) (Z2 CN hr rfl (Zb (Yk Yb (pv 1) Zd (λ_ _=>rfl)) Zc)))) (Zf (ZC (ZW (ZX (pv 3))) (Zi (Zl Zn)) Zq) (Zf (ZC (DZ (KB (VP hr) (Yk Yb (pv 1) Zd (λ_ _=>rfl)) (pv 2))) (Zi (Zl Zn)) Zq) (Zi (Zl ZN))))),?_⟩;try dsimp only[cxOf,Cx.nox]
 cases r with
|none=>obtain⟨T',th,hT⟩:=hrow;refine⟨_,rfl,_,_,_,_,rfl,th.ty,th.kitT,_,rfl,?_⟩;rw[decide_eq_false hT];refine iteT ?_;exact k H (Same.refl H)
|some xs=>
  obtain⟨p,rfl,hp,hx⟩:=hrow;have th:Th H (.ref p) "tuple":=.tup hp;refine⟨_,rfl,_,_,_,_,rfl,th.ty,th.kitT,_,rfl,?_⟩;refine iteF ?_;refine⟨_,rfl,p,xs,rfl,.inr (SqT.of hp),_,rfl,aS,z,.int n,rfl,rfl,hK,rfl,_,rfl,?_⟩;refine ite2 (λe=>?_) (λe=>?_)
  ·have hl:xs.length≠n:=λq=>by rw[q]at e;simp at e
   show Q (.str "form") H;have q:=k H (Same.refl H);simpa[begR,begV,hl]using q
  ·have hl:xs.length=n:=by
    have e':(xs.length:Int)=n:=by simpa using e
    omega
   obtain⟨x,r,rfl⟩:∃x r,xs=x::r:=by
    cases xs with
   |nil=>simp only[MY,aq,Prod.mk.injEq,aK,or_false]at hz;simp at hl;omega
   |cons x r=>exact⟨x,r,rfl⟩
   obtain⟨T',tx⟩:=hx x (by simp);have a0:∀(u:V)(l:List V),atI (u::l) 0=some u:=λu l=>ZL (xs:=u::l) (j:=0) rfl;have fin:∀b H',Same H H'->b=Z4 (decide (z="groups")) x->(if(!b)=true then Q (.str "name") H' else if ZF x kvs=true then Q (.str "double") H' else Q .non H'):=by
    rintro b H' sm rfl;have q:=k H' sm;simp only[begR,begV,hl,ne_eq,not_true_eq_false,if_false,List.getD_cons_zero]at q;cases hb:Z4 (decide (z="groups")) x with
   |false=>rw[if_pos (by decide)];rw[hb,if_pos rfl]at q;exact q
   |true=>
     rw[if_neg (by decide)];rw[hb,if_neg (by decide)]at q;by_cases hk:ZF x kvs=true
     ·rw[if_pos hk]at q ⊢;exact q
     ·rw[if_neg hk]at q ⊢;exact q
   have isS:∀b,b=Z4 (decide (z="groups")) x->b=true->∃y,x=.str y:=by
    rintro _ rfl hb;unfold Z4 at hb;cases x with
   |str y=>exact⟨y,rfl⟩
   |_=>split at hb<;>cases hb
   refine⟨_,rfl,rfl,_,rfl,?_⟩;refine ite2 (λe2=>?_) (λe2=>?_)
   ·refine⟨_,rfl,p,x::r,0,x,rfl,rfl,SqT.of hp,a0 x r,x,T',rfl,tx,λH' sm=>?_⟩;have hb:K1.Ut x 12 K1.tGROUP=Z4 (decide (z="groups")) x:=by
     have e3:z="groups":=by simpa using e2
     simp[Z4,e3]
    have q:=fin _ H' sm hb;refine⟨_,rfl,_,rfl,?_⟩;refine ite2 (λe3=>?_) (λe3=>?_)
    ·rw[if_pos e3]at q;exact q
    ·rw[if_neg e3]at q;obtain⟨y,rfl⟩:=isS _ hb (by simpa using e3);exact⟨_,rfl,p,_::r,0,_,rfl,rfl,SqT.of (sm _ _ hp),a0 _ r,_,rfl,d,_,rfl,DGet.k (k:=cv y) (sm _ _ hd),_,rfl,q⟩
   ·refine⟨_,rfl,p,x::r,0,x,rfl,rfl,SqT.of hp,a0 x r,x,T',rfl,tx,λH' sm=>?_⟩;have hb:K1.Ut x 8 K1.tNAME=Z4 (decide (z="groups")) x:=by
     have e3:z≠"groups":=by simpa using e2
     simp[Z4,e3]
    have q:=fin _ H' sm hb;refine⟨_,rfl,_,rfl,?_⟩;refine ite2 (λe3=>?_) (λe3=>?_)
    ·rw[if_pos e3]at q;exact q
    ·rw[if_neg e3]at q;obtain⟨y,rfl⟩:=isS _ hb (by simpa using e3);exact⟨_,rfl,p,_::r,0,_,rfl,rfl,SqT.of (sm _ _ hp),a0 _ r,_,rfl,d,_,rfl,DGet.k (k:=cv y) (sm _ _ hd),_,rfl,q⟩
end
end TB
namespace L2
open PySem PySem.Spec PyProof.Rows
def DfM(K:aa)(C:ae)(m qual:Str)(st:bc)(ps:List Str):Prop:=∃f fd,Fun K m qual st f fd/\Meth K C m f/\Binds K fd ps []
def CanM(P:aA)(w:aI)(K:aa)(mg:Str->Option ac)(base:aX)(CX:CXT)(k:Nat)(C:ae)(m:Str)(ps:List Str)(sp:Sp):Prop:=∃f fd,FnOk P w K mg base CX k f fd ps sp/\Meth K C m f/\Binds K fd ps []
section
variable {P:aA}{w:aI}{K:aa}{mg:Str->Option ac}{base:aX}{C:ae}{m qual:Str}{st:bc}{N ps:List Str}{k:Nat}{sp:Sp}
theorem CanM.mono{j:Nat}{CX:CXT}(c:CanM P w K mg base CX j C m ps sp)(h:j<=k):CanM P w K mg base CX k C m ps sp:=by obtain⟨f,fd,F,r⟩:=c;exact⟨f,fd,F.mono h,r⟩
theorem DfM.can(D:DfM K C m qual st ps)(S:FnScope N ps (Zg st))(len:∀vs H Q E,sp vs H Q E->vs.length=ps.length)(hbody:∀(f:ae)(cdv:ac)(A:ba)(outer:List Env)(s:ag)(H:Hp)(vs:List V)(Q:VK)(E:XK),Room k (A.deeper (envOfC qual (Zg st) s.heap.objs.size f cdv))->sp vs H Q E ->∃t,PSs (cxOf CX0 P w K mg base N qual (Zg st) f cdv A outer s H E).nox (ZR st) t/\t {nx:=λ_ H'=>Q .non H',rt:=Q} (start N vs) H):CanM P w K mg base CX0 (k+1) C m ps sp:=by obtain⟨f,fd,F,me,b⟩:=D;exact⟨f,fd,F.ok S len (λcdv A outer s H vs Q E hr h=>hbody f cdv A outer s H vs Q E hr h),me,b⟩
theorem DfM.canX(D:DfM K C m qual st ps)(S:FnScope N ps (Zg st))(len:∀vs H Q E,sp vs H Q E->vs.length=ps.length)(hbody:∀(f:ae)(cdv:ac)(A:ba)(outer:List Env)(s:ag)(H:Hp)(vs:List V)(Q:VK)(E:XK),Room k (A.deeper (envOfC qual (Zg st) s.heap.objs.size f cdv))->sp vs H Q E ->∃t,PSs (cxOf (CX1 P w) P w K mg base N qual (Zg st) f cdv A outer s H E) (ZR st) t/\t {nx:=λ_ H'=>Q .non H',rt:=Q} (start N vs) H):CanM P w K mg base (CX1 P w) (k+1) C m ps sp:=by obtain⟨f,fd,F,me,b⟩:=D;exact⟨f,fd,F.okX S len (λcdv A outer s H vs Q E hr h=>hbody f cdv A outer s H vs Q E hr h),me,b⟩
theorem DfM.cn(D:DfM K C m qual st ps)(S:FnScope N ps (Zg st))(hbody:∀(f:ae)(cdv:ac)(A:ba)(outer:List Env)(s:ag)(H:Hp)(vs:List V)(Q:VK)(E:XK),Room k (A.deeper (envOfC qual (Zg st) s.heap.objs.size f cdv))->sp vs H Q E ->∃t,PSs (cxOf CX0 P w K mg base N qual (Zg st) f cdv A outer s H E).nox (ZR st) t/\t {nx:=λ_ H'=>Q .non H',rt:=Q} (start N vs) H)(len:∀vs H Q E,sp vs H Q E->vs.length=ps.length:=by intro _ _ _ _ h;repeat (obtain⟨a,h⟩:=h;first|(subst a;rfl)|skip)):CanM P w K mg base CX0 (k+1) C m ps sp:=D.can S len hbody
theorem DfM.cnX(D:DfM K C m qual st ps)(S:FnScope N ps (Zg st))(hbody:∀(f:ae)(cdv:ac)(A:ba)(outer:List Env)(s:ag)(H:Hp)(vs:List V)(Q:VK)(E:XK),Room k (A.deeper (envOfC qual (Zg st) s.heap.objs.size f cdv))->sp vs H Q E ->∃t,PSs (cxOf (CX1 P w) P w K mg base N qual (Zg st) f cdv A outer s H E) (ZR st) t/\t {nx:=λ_ H'=>Q .non H',rt:=Q} (start N vs) H)(len:∀vs H Q E,sp vs H Q E->vs.length=ps.length:=by intro _ _ _ _ h;repeat (obtain⟨a,h⟩:=h;first|(subst a;rfl)|skip)):CanM P w K mg base (CX1 P w) (k+1) C m ps sp:=D.canX S len hbody
end
section
variable {X:Cx}{CX:CXT}{k:Nat}{C:ae}{ps:List Str}{sp:Sp}{E:XK}{m:Str}{pos apos:Pos}{e o:Expr}{es:List Expr}{ta:TE}{t:TA}
theorem ZK{pl:Sem Bool}(c:CanM X.prog X.w X.K X.mg X.base CX k C m ps sp)(cl:Cls X.K C)(hx:Y9 CX X E)(hr:Room k X.A)(he:PE X o ta)(ha:PA X (e::es) t)
  (hst:aO (e::es) X.env=(false,eval e X.env)::aO es X.env:=by rfl) (hpl:(backTo pos (aO es X.env)).any (·.1)=false:=by rfl)
  (ht:eval (.Call (.Attribute o m apos) (e::es) [] pos) X.env=(do
   let ov <-eval o X.env
   standAt apos.atName
   let (f,first) <-holding [ov] (getMethod ov m pl)
   callWith pos f first (backTo pos (aO (e::es) X.env)) (backToKw pos (dJ [] X.env))):=by rfl):
  PE X (.Call (.Attribute o m apos) (e::es) [] pos) (Qs C m sp [] E ta t):=by
 obtain⟨f,fd,F,me,b⟩:=c
 exact LQ he cl me F hr b .nil hx ha hst hpl ht
end
end L2
namespace TB
open PySem L2 PySem.Spec PyProof.Rows
noncomputable def fields:List Str:=["turns","places","room_by_place","rides","ride_by_name","ways","way_by_name","groups","group_by_name"]
structure TCl(K:aa)(C:ae):Prop where
 cl:Cls K C
 na:∀f∈fields,Z8 K C f
structure Tab(H:Hp)(C t:ae)(fs:List (Str×V)):Prop where
 at_:∃dx,H t=some (.ins C dx fs)
 only:∀g,g∉fields->fs.lookup g=none
section
variable {P:aA}{w:aI}{K:aa}{mg:Str->Option ac}{base:aX}{C:ae}
def VM(C:ae)(fld:Str):Sp:=λvs H Q _=>∃t x T fs d kvs,vs=[.ref t,x]/\Tab H C t fs/\fs.lookup fld=some (.ref d)/\H d=some (.dK kvs)/\Th H x T/\Q (.bl (ZF x kvs)) H
theorem E7:FnScope ["self","thing"] ["self","thing"] (Zg T.m_Table_is_place):=scO (by decide +kernel)
theorem G4(Z:TCl K C)(D:DfM K C "is_place" "Table.is_place" T.m_Table_is_place ["self","thing"])(CK:Can P w K mg base 1 "is_known" ["thing","names"] Mc):CanM P w K mg base CX0 2 C "is_place" ["self","thing"] (VM C "room_by_place"):=by
 refine D.cn E7 λf cdv A outer s H vs Q E hr h=>?_;obtain⟨t,x,T',fs,d,kvs,rfl,⟨⟨dx,ht⟩,_⟩,hl,hd,th,k⟩:=h;refine⟨_,Zi (Zl (Z2 CK hr rfl (Zb (pv 1) (Zb (ZG (pv 0) rfl) Zc)))),?_⟩;try dsimp only[cxOf,Cx.nox]
 exact⟨_,rfl,_,rfl,t,C,dx,fs,_,rfl,ht,Z.cl,Z.na _ (by simp[fields]),hl,x,T',d,kvs,rfl,th,hd,k⟩
noncomputable def VQ(x:V)(kvs:List (Key×V)):Bool:=match x with
|.str z=>decide (valV kvs (.inr z)=some .non)
|_=>false
theorem Xd{x:V}{kvs:List (Key×V)}(h:ZF x kvs=true):∃z v,x=.str z/\valV kvs (.inr z)=some v:=by
 cases x with
|str z=>have h':(valV kvs (.inr z)).isSome=true:=h;exact⟨z,_,rfl,(Option.some_get h').symm⟩
|_=>cases h
theorem RV{x:V}{kvs:List (Key×V)}(h:ZF x kvs=false):VQ x kvs=false:=by
 cases x with
|str z=>
  have h':(valV kvs (.inr z)).isSome=false:=h;show decide (valV kvs (.inr z)=some .non)=false;cases e:valV kvs (.inr z)with
 |none=>simp
 |some v=>rw[e]at h';cases h'
|_=>rfl
def MK(C:ae):Sp:=λvs H Q _=>∃t x T fs d kvs,vs=[.ref t,x]/\Tab H C t fs/\fs.lookup ("room_by_place":Str)=some (.ref d)/\H d=some (.dK kvs)/\Th H x T/\Q (.bl (VQ x kvs)) H
theorem Kn:FnScope ["self","thing"] ["self","thing"] (Zg T.m_Table_is_home):=scO (by decide +kernel)
theorem NC(Z:TCl K C)(D:DfM K C "is_home" "Table.is_home" T.m_Table_is_home ["self","thing"])(CP:CanM P w K mg base CX0 2 C "is_place" ["self","thing"] (VM C "room_by_place")):CanM P w K mg base CX0 3 C "is_home" ["self","thing"] (MK C):=by
 refine D.cn Kn λf cdv A outer s H vs Q E hr h=>?_;obtain⟨t,x,T',fs,d,kvs,rfl,tb,hl,hd,th,k⟩:=h;obtain⟨dx,ht⟩:=id tb.at_;refine⟨_,Zi (Zl (V3 (ZK CP Z.cl Xw hr (pv 0) (Zb (pv 1) Zc)) (XN (Xi Xq (Ml (VP hr) (ZG (pv 0) rfl) (pv 1) (λ_ _=>rfl)) ZN (by with_unfolding_all rfl))))),?_⟩;try dsimp only[cxOf,Cx.nox]
 refine mthV ht (tb.only _ (by decide +kernel)) ⟨_,rfl,t,x,T',fs,d,kvs,rfl,tb,hl,hd,th,_,rfl,?_⟩;have fin:∀b,b=VQ x kvs->Q (.bl b) H:=λb e=>e▸k;refine ite2 (λe=>?_) (λe=>fin _ ?_)
 ·obtain⟨z,v,rfl,hv⟩:=Xd e;refine⟨_,rfl,t,C,dx,fs,_,rfl,ht,Z.cl,Z.na _ (by simp[fields]),hl,_,rfl,d,v,rfl,(by rw[<-hv];exact DGet.k (k:=cv z) hd),rfl,fin _ ?_⟩;show decide (v=.non)=decide (valV kvs (.inr z)=some .non);rw[hv];simp
 ·have e':ZF x kvs=false:=by simpa using e
  exact(RV e').symm
noncomputable def YF(kvs:List (Key×V))(s g:V):V:=if(!ZF s kvs||!ZF g kvs)=true then .str "place" else if VQ s kvs=true then .str "home" else if g=s then .str "alike" else .non
def RA(C:ae):Sp:=λvs H Q _=>∃t x y T T' fs d kvs,vs=[.ref t,x,y]/\Tab H C t fs/\fs.lookup ("room_by_place":Str)=some (.ref d)/\H d=some (.dK kvs)/\Th H x T/\Th H y T'/\Q (YF kvs x y) H
theorem DT:FnScope ["table","start","goal"] ["table","start","goal"] (Zg T.f_wrong_ends):=scO (by decide +kernel)
theorem Lm(Z:TCl K C)(D:Df K mg "wrong_ends" T.f_wrong_ends ["table","start","goal"])(CP:CanM P w K mg base CX0 2 C "is_place" ["self","thing"] (VM C "room_by_place"))(CH:CanM P w K mg base CX0 3 C "is_home" ["self","thing"] (MK C)):Can P w K mg base 4 "wrong_ends" ["table","start","goal"] (RA C):=by
 refine D.cn DT λf cdv A outer s H vs Q E hr h=>?_;obtain⟨t,x,y,T1,T2,fs,d,kvs,rfl,tb,hl,hd,tx,ty,k⟩:=h;obtain⟨dx,ht⟩:=id tb.at_;have hr2:Room 2 (A.deeper (envOfC "wrong_ends" (Zg T.f_wrong_ends) s.heap.objs.size f cdv)):=hr.mono (by decide);refine⟨_,Zf (ZC (PW.pt (Xv (ZW (ZX (ZK CP Z.cl Xw hr2 (pv 0) (Zb (pv 1) Zc)))) (Y6 (ZW (ZX (ZK CP Z.cl Xw hr2 (pv 0) (Zb (pv 2) Zc))))))) (Zi (Zl Zn)) Zq) (Zf (ZC (ZX (ZK CH Z.cl Xw hr (pv 0) (Zb (pv 1) Zc))) (Zi (Zl Zn)) Zq) (Zf (ZC (Zr Yl (pv 2) (pv 1) (Zx _)) (Zi (Zl Zn)) Zq) (Zi (Zl ZN)))),?_⟩;try dsimp only[cxOf,Cx.nox]
 unfold YF at k;refine mthV ht (tb.only _ (by decide +kernel)) ⟨_,rfl,t,x,T1,fs,d,kvs,rfl,tb,hl,hd,tx,_,rfl,?_⟩;refine ite2 (λe=>?_) (λe=>?_)
 ·rw[if_pos (by rw[e];rfl)]at k;exact iteT k
 ·refine mthV ht (tb.only _ (by decide +kernel)) ⟨_,rfl,t,y,T2,fs,d,kvs,rfl,tb,hl,hd,ty,_,rfl,?_⟩;refine ite2 (λe2=>?_) (λe2=>?_)
  ·rw[if_pos (by rw[e2];simp)]at k;exact k
  ·have kx:ZF x kvs=true:=by simpa using e
   have ky:ZF y kvs=true:=by simpa using e2
   rw[if_neg (by rw[kx,ky];decide)]at k;refine mthV ht (tb.only _ (by decide +kernel)) ⟨_,rfl,t,x,T1,fs,d,kvs,rfl,tb,hl,hd,tx,_,rfl,?_⟩;refine ite2 (λe3=>?_) (λe3=>?_)
   ·rw[if_pos e3]at k;exact k
   ·rw[if_neg e3]at k;obtain⟨zx,_,rfl,_⟩:=Xd kx;obtain⟨zy,_,rfl,_⟩:=Xd ky;refine⟨_,rfl,_,rfl,rfl,_,rfl,?_⟩;refine ite2 (λe4=>?_) (λe4=>?_)
    ·rw[if_pos (by simpa using e4)]at k;exact k
    ·rw[if_neg (by simpa using e4)]at k;exact k
noncomputable def Xu(kvs:List (Key×V))(n:Int)(s l g a m:V):V:=if YF kvs s g≠.non then YF kvs s g else match l with
 |.int i=>if(!K1.Zp (.int i) 0 (n-1)||!K1.Zp a (i+1) n)=true then .str "turn" else if(!K1.Zp m 0 1000)=true then .str "number" else .non
 |_=>.str "turn"
noncomputable def wayV(kvs:List (Key×V))(s g l m:V):V:=if YF kvs s g≠.non then YF kvs s g else if(!K1.Zp l 1 50||!K1.Zp m 0 1000)=true then .str "number" else .non
theorem at0{α:Type}{xs:List α}(j:Nat){v:α}(h:xs[j]?=some v):atI xs (j:Int)=some v:=ZL h
def Kc(C:ae):Sp:=λvs H Q _=>∃t p x0 x1 x2 x3 x4 x5 fs d kvs n,vs=[.ref t,.ref p]/\Tab H C t fs/\fs.lookup ("room_by_place":Str)=some (.ref d)/\fs.lookup ("turns":Str)=some (.int n)/\H d=some (.dK kvs) /\H p=some (.tup [x0,x1,x2,x3,x4,x5])/\(∀x∈[x0,x1,x2,x3,x4,x5],∃T,Th H x T)/\Q (Xu kvs n x1 x2 x3 x4 x5) H
theorem DS:FnScope ["table","row","leave","why"] ["table","row"] (Zg T.f_wrong_ride):=scO (by decide +kernel)
theorem Lh(G:Txt K mg)(Z:TCl K C)(D:Df K mg "wrong_ride" T.f_wrong_ride ["table","row"])(CI:Can P w K mg base 2 "is_within" ["thing","low","high"] K1.Xl)(CE:Can P w K mg base 4 "wrong_ends" ["table","start","goal"] (RA C)):Can P w K mg base 5 "wrong_ride" ["table","row"] (Kc C):=by
 obtain⟨t1,h1⟩:=G.room;have nd:(["table","row","leave","why"]:List Str).Nodup:=by decide +kernel
 refine D.cn DS λf cdv A outer s H vs Q E hr h=>?_;obtain⟨t,p,x0,x1,x2,x3,x4,x5,fs,d,kvs,n,rfl,tb,hl,hn,hd,hp,hx,k⟩:=h;obtain⟨dx,ht⟩:=id tb.at_;obtain⟨T1,h01⟩:=hx x1 (by simp);obtain⟨T2,h02⟩:=hx x2 (by simp);obtain⟨T3,h03⟩:=hx x3 (by simp);obtain⟨T4,h04⟩:=hx x4 (by simp);obtain⟨T5,h05⟩:=hx x5 (by simp);have hr2:Room 2 (A.deeper (envOfC "wrong_ride" (Zg T.f_wrong_ride) s.heap.objs.size f cdv)):=hr.mono (by decide);refine⟨_,Zf (ZM (i:=2) nd rfl (aJ rfl) (Yk Yb (pv 1) Zd (λ_ _=>rfl))) (Zf (ZM (i:=3) nd rfl (aJ rfl) (Z2 CE hr rfl (Zb (pv 0) (Zb (Yk Yb (pv 1) Zd (λ_ _=>rfl)) (Zb (Yk Yb (pv 1) Zd (λ_ _=>rfl)) Zc))))) (Zf (ZC (Zr Mm (pv 3) ZN (Zx _)) (Zi (Zl (pv 3))) Zq) (Zf (ZC (PW.pt (Xv (ZW (ZX (Z2 CI hr2 rfl (Zb (pv 2) (Zb Zd (Zb (Zy Jt (ZG (pv 0) rfl) Zd) Zc)))))) (Y6 (ZW (ZX (Z2 CI hr2 rfl (Zb (Yk Yb (pv 1) Zd (λ_ _=>rfl)) (Zb (Zy Z0 (pv 2) Zd) (Zb (ZG (pv 0) rfl) Zc))))))))) (Zi (Zl Zn)) Zq) (Zf (ZC (ZW (ZX (Z2 CI hr2 rfl (Zb (Yk Yb (pv 1) Zd (λ_ _=>rfl)) (Zb Zd (Zb (Yx (v:=V.int 1000) rfl h1 ⟨t1,rfl⟩) Zc)))))) (Zi (Zl Zn)) Zq) (Zi (Zl ZN)))))),?_⟩;try dsimp only[cxOf,Cx.nox]
 refine⟨_,rfl,p,_,2,x2,rfl,rfl,SqT.of hp,at0 2 rfl,?_⟩;refine⟨_,rfl,_,rfl,p,_,1,x1,rfl,rfl,SqT.of hp,at0 1 rfl,_,rfl,p,_,3,x3,rfl,rfl,SqT.of hp,at0 3 rfl,t,x1,x3,T1,T3,fs,d,kvs,rfl,tb,hl,hd,h01,h03,?_⟩;unfold Xu at k;refine⟨_,rfl,rfl,_,rfl,?_⟩;refine ite2 (λe=>?_) (λe=>?_)
 ·have e':YF kvs x1 x3≠.non:=by simpa using e
  rw[if_pos e']at k;exact⟨_,rfl,k⟩
 ·have e':¬YF kvs x1 x3≠.non:=by simpa using e
  rw[if_neg e']at k;refine⟨_,rfl,_,rfl,t,C,dx,fs,_,rfl,ht,Z.cl,Z.na _ (by simp[fields]),hn,_,_,rfl,rfl,x2,T2,0,n-1,rfl,h02,_,rfl,?_⟩;refine ite2 (λe2=>?_) (λe2=>?_)
  ·have q:Q (.str "turn") H:=by
    cases x2 with
   |int i=>
     have k':Q (if(!K1.Zp (.int i) 0 (n-1)||!K1.Zp x4 (i+1) n)=true then V.str "turn" else if(!K1.Zp x5 0 1000)=true then .str "number" else .non) H:=k
     rw[if_pos (by rw[e2];rfl)]at k';exact k'
   |_=>exact k
   exact iteT q
  ·obtain⟨i,rfl⟩:∃i,x2=.int i:=by
    cases x2 with
   |int i=>exact⟨i,rfl⟩
   |_=>exact absurd rfl e2
   have k':Q (if(!K1.Zp (.int i) 0 (n-1)||!K1.Zp x4 (i+1) n)=true then V.str "turn" else if(!K1.Zp x5 0 1000)=true then .str "number" else .non) H:=k
   have w1:K1.Zp (.int i) 0 (n-1)=true:=by simpa using e2
   rw[w1]at k';refine⟨_,rfl,p,_,4,x4,rfl,rfl,SqT.of hp,at0 4 rfl,_,rfl,_,_,rfl,rfl,_,rfl,t,C,dx,fs,_,rfl,ht,Z.cl,Z.na _ (by simp[fields]),hn,x4,T4,i+1,n,rfl,h04,_,rfl,?_⟩;refine ite2 (λe3=>?_) (λe3=>?_)
   ·rw[if_pos (by rw[e3];rfl)]at k';exact k'
   ·have w2:K1.Zp x4 (i+1) n=true:=by simpa using e3
    rw[w2,if_neg (by decide)]at k';refine⟨_,rfl,p,_,5,x5,rfl,rfl,SqT.of hp,at0 5 rfl,x5,T5,0,1000,rfl,h05,_,rfl,?_⟩;refine ite2 (λe4=>?_) (λe4=>?_)
    ·rw[if_pos e4]at k';exact k'
    ·rw[if_neg e4]at k';exact k'
noncomputable def YE(kvs:List (Key×V))(n pa:Int)(p t m:V):V:=if(!ZF p kvs)=true then .str "place" else if(!K1.Zp t 0 n)=true then .str "turn" else match m with
 |.int i=>if(!K1.Zp (.int i) 0 300)=true then .str "number" else if pa+i>300 then .str "people" else .non
 |_=>.str "number"
def Dr(C:ae):Sp:=λvs H Q _=>∃t p x0 x1 x2 x3 x4 fs d kvs,vs=[.ref t,.ref p]/\Tab H C t fs/\fs.lookup ("room_by_place":Str)=some (.ref d)/\H d=some (.dK kvs) /\H p=some (.tup [x0,x1,x2,x3,x4])/\(∀x∈[x0,x1,x2,x3,x4],∃T,Th H x T)/\Q (wayV kvs x1 x2 x3 x4) H
theorem E6:FnScope ["table","row","why"] ["table","row"] (Zg T.f_wrong_way):=scO (by decide +kernel)
theorem De(G:Txt K mg)(Z:TCl K C)(D:Df K mg "wrong_way" T.f_wrong_way ["table","row"])(CI:Can P w K mg base 2 "is_within" ["thing","low","high"] K1.Xl)(CE:Can P w K mg base 4 "wrong_ends" ["table","start","goal"] (RA C)):Can P w K mg base 5 "wrong_way" ["table","row"] (Dr C):=by
 obtain⟨t1,h1⟩:=G.room;obtain⟨t2,h2⟩:=G.way;have nd:(["table","row","why"]:List Str).Nodup:=by decide +kernel
 refine D.cn E6 λf cdv A outer s H vs Q E hr h=>?_;obtain⟨t,p,x0,x1,x2,x3,x4,fs,d,kvs,rfl,tb,hl,hd,hp,hx,k⟩:=h;obtain⟨dx,ht⟩:=id tb.at_;obtain⟨T1,h01⟩:=hx x1 (by simp);obtain⟨T2,h02⟩:=hx x2 (by simp);obtain⟨T3,h03⟩:=hx x3 (by simp);obtain⟨T4,h04⟩:=hx x4 (by simp);have hr2:Room 2 (A.deeper (envOfC "wrong_way" (Zg T.f_wrong_way) s.heap.objs.size f cdv)):=hr.mono (by decide);refine⟨_,Zf (ZM (i:=2) nd rfl (aJ rfl) (Z2 CE hr rfl (Zb (pv 0) (Zb (Yk Yb (pv 1) Zd (λ_ _=>rfl)) (Zb (Yk Yb (pv 1) Zd (λ_ _=>rfl)) Zc))))) (Zf (ZC (Zr Mm (pv 2) ZN (Zx _)) (Zi (Zl (pv 2))) Zq) (Zf (ZC (PW.pt (Xv (ZW (ZX (Z2 CI hr2 rfl (Zb (Yk Yb (pv 1) Zd (λ_ _=>rfl)) (Zb Zd (Zb (Yx (v:=V.int 50) rfl h2 ⟨t2,rfl⟩) Zc)))))) (Y6 (ZW (ZX (Z2 CI hr2 rfl (Zb (Yk Yb (pv 1) Zd (λ_ _=>rfl)) (Zb Zd (Zb (Yx (v:=V.int 1000) rfl h1 ⟨t1,rfl⟩) Zc))))))))) (Zi (Zl Zn)) Zq) (Zi (Zl ZN)))),?_⟩;try dsimp only[cxOf,Cx.nox]
 refine⟨_,rfl,_,rfl,p,_,1,x1,rfl,rfl,SqT.of hp,at0 1 rfl,_,rfl,p,_,2,x2,rfl,rfl,SqT.of hp,at0 2 rfl,t,x1,x2,T1,T2,fs,d,kvs,rfl,tb,hl,hd,h01,h02,?_⟩;unfold wayV at k;refine⟨_,rfl,rfl,_,rfl,?_⟩;refine ite2 (λe=>?_) (λe=>?_)
 ·have e':YF kvs x1 x2≠.non:=by simpa using e
  rw[if_pos e']at k;exact⟨_,rfl,k⟩
 ·have e':¬YF kvs x1 x2≠.non:=by simpa using e
  rw[if_neg e']at k;refine⟨_,rfl,p,_,3,x3,rfl,rfl,SqT.of hp,at0 3 rfl,x3,T3,1,50,rfl,h03,_,rfl,?_⟩;refine ite2 (λe2=>?_) (λe2=>?_)
  ·rw[if_pos (by rw[e2];rfl)]at k;exact iteT k
  ·have w1:K1.Zp x3 1 50=true:=by simpa using e2
   rw[w1]at k;refine⟨_,rfl,p,_,4,x4,rfl,rfl,SqT.of hp,at0 4 rfl,x4,T4,0,1000,rfl,h04,_,rfl,?_⟩;refine ite2 (λe3=>?_) (λe3=>?_)
   ·rw[if_pos (by rw[e3];rfl)]at k;exact k
   ·have w2:K1.Zp x4 0 1000=true:=by simpa using e3
    rw[w2,if_neg (by decide)]at k;exact k
def ST(C:ae):Sp:=λvs H Q _=>∃t p x0 x1 x2 x3 fs d kvs n pa,vs=[.ref t,.ref p,.int pa]/\Tab H C t fs/\fs.lookup ("room_by_place":Str)=some (.ref d)/\fs.lookup ("turns":Str)=some (.int n)/\H d=some (.dK kvs) /\H p=some (.tup [x0,x1,x2,x3])/\(∀x∈[x0,x1,x2,x3],∃T,Th H x T)/\Q (YE kvs n pa x1 x2 x3) H
theorem LJ:FnScope ["table","row","people_ahead"] ["table","row","people_ahead"] (Zg T.f_wrong_group):=scO (by decide +kernel)
theorem R9(G:Txt K mg)(Z:TCl K C)(D:Df K mg "wrong_group" T.f_wrong_group ["table","row","people_ahead"])(CI:Can P w K mg base 2 "is_within" ["thing","low","high"] K1.Xl)(CP:CanM P w K mg base CX0 2 C "is_place" ["self","thing"] (VM C "room_by_place")):Can P w K mg base 3 "wrong_group" ["table","row","people_ahead"] (ST C):=by
 obtain⟨t1,h1⟩:=G.people;refine D.cn LJ λf cdv A outer s H vs Q E hr h=>?_;obtain⟨t,p,x0,x1,x2,x3,fs,d,kvs,n,pa,rfl,tb,hl,hn,hd,hp,hx,k⟩:=h;obtain⟨dx,ht⟩:=id tb.at_;obtain⟨T1,h01⟩:=hx x1 (by simp);obtain⟨T2,h02⟩:=hx x2 (by simp);obtain⟨T3,h03⟩:=hx x3 (by simp);refine⟨_,Zf (ZC (ZW (ZX (ZK CP Z.cl Xw hr (pv 0) (Zb (Yk Yb (pv 1) Zd (λ_ _=>rfl)) Zc)))) (Zi (Zl Zn)) Zq) (Zf (ZC (ZW (ZX (Z2 CI hr rfl (Zb (Yk Yb (pv 1) Zd (λ_ _=>rfl)) (Zb Zd (Zb (ZG (pv 0) rfl) Zc)))))) (Zi (Zl Zn)) Zq) (Zf (ZC (ZW (ZX (Z2 CI hr rfl (Zb (Yk Yb (pv 1) Zd (λ_ _=>rfl)) (Zb Zd (Zb (Yx (v:=V.int 300) rfl h1 ⟨t1,rfl⟩) Zc)))))) (Zi (Zl Zn)) Zq) (Zf (ZC (Zr KH (Zy Z0 (pv 2) (Yk Yb (pv 1) Zd (λ_ _=>rfl))) (Yx (v:=V.int 300) rfl h1 ⟨t1,rfl⟩) (Zx _)) (Zi (Zl Zn)) Zq) (Zi (Zl ZN))))),?_⟩;try dsimp only[cxOf,Cx.nox]
 unfold YE at k;refine mthV ht (tb.only _ (by decide +kernel)) ⟨_,rfl,p,_,1,x1,rfl,rfl,SqT.of hp,at0 1 rfl,t,x1,T1,fs,d,kvs,rfl,tb,hl,hd,h01,_,rfl,?_⟩;refine ite2 (λe=>?_) (λe=>?_)
 ·rw[if_pos e]at k;exact k
 rw[if_neg e]at k;refine⟨_,rfl,p,_,2,x2,rfl,rfl,SqT.of hp,at0 2 rfl,_,rfl,t,C,dx,fs,_,rfl,ht,Z.cl,Z.na _ (by simp[fields]),hn,x2,T2,0,n,rfl,h02,_,rfl,?_⟩;refine ite2 (λe2=>?_) (λe2=>?_)
 ·rw[if_pos e2]at k;exact k
 rw[if_neg e2]at k;refine⟨_,rfl,p,_,3,x3,rfl,rfl,SqT.of hp,at0 3 rfl,x3,T3,0,300,rfl,h03,_,rfl,?_⟩;refine ite2 (λe3=>?_) (λe3=>?_)
 ·cases x3 with
 |int i=>have k':Q (if(!K1.Zp (.int i) 0 300)=true then V.str "number" else if pa+i>300 then .str "people" else .non) H:=k;rw[if_pos e3]at k';exact k'
 |_=>exact k
 ·obtain⟨i,rfl⟩:∃i,x3=.int i:=by
   cases x3 with
  |int i=>exact⟨i,rfl⟩
  |_=>exact absurd rfl e3
  have k':Q (if(!K1.Zp (.int i) 0 300)=true then V.str "number" else if pa+i>300 then .str "people" else .non) H:=k;rw[if_neg e3]at k';refine⟨_,rfl,_,rfl,p,_,3,_,rfl,rfl,SqT.of hp,at0 3 rfl,_,_,rfl,rfl,_,_,rfl,rfl,_,rfl,?_⟩;refine ite2 (λe4=>?_) (λe4=>?_)
  ·rw[if_pos (by simpa using e4)]at k';exact k'
  ·rw[if_neg (by simpa using e4)]at k';exact k'
end
end TB
namespace L2
open PySem PySem.Spec PyProof.Rows
theorem sameNew{l:ae}{H H1:Hp}{o:HO}(x:Same H H1)(hl:H1 l=none):Same H (upd H1 l o):=λc u h=>by rw[Zj (Zk (x c u h) hl)];exact x c u h
theorem nl{c:ae}{H:Hp}{o:HO}{G:Hp->Prop}(h:H c=none)(k:∀H',Same H H'->H' c=some o->G H'):G (upd H c o):=k _ (sameNew (λ_ _ e=>e) h) Ze
theorem nl2{c:ae}{H:Hp}{o:HO}{R:Type}{q:R}{G:Hp->R->Prop}(h:H c=none)(k:∀H',Same H H'->H' c=some o->G H' q):G (upd H c o) q:=nl (G:=λH=>G H q) h k
theorem SH:∀{cs:List String}{us:List ac},Vals (cs.map V.ty) us->us=cs.map cU
|[],_,h=>by cases h;rfl
|c::cs,_,h=>by
  cases h with
 |cons r t=>have e:=SH t;cases(show _=cU c from r);rw[e];rfl
section
variable {X:Cx}
theorem W0:Xo X (.builtin "isinstance") (λxs H Q=>∃(x:V)(p:ae)(cs:List String)(T:String)(b:Bool),xs=[x,.ref p]/\Th H x T/\H p=some (.tup (cs.map V.ty))/\PySem.W.kitAny X.K (.type T) (cs.map cU)=some b/\Q (.bl b) H):=by
 intro pins s σ H xs us Q I r h;obtain⟨x,p,cs,T,b,rfl,th,hp,e,q⟩:=h;obtain⟨u,w',rfl,ru,rw'⟩:=vals2 r;cases(show w'=ay p from rw');obtain⟨_,its,rv,⟨oc,od,odt,osl⟩,h1,hc,n,hdt⟩:=(show ZV X.prog X.w H s.heap p (.tup (cs.map V.ty))from I.hok p _ hp);have ei:=SH rv;subst ei;obtain rfl:oc=.type "tuple":=hc;obtain rfl:odt=.seq (cs.map cU).toArray n:=hdt;have fin:∀tk,EP X pins σ Q (.bool b) {s with toks:=tk}:=λtk=>⟨.bl b,H,I.tok tk,rfl,q⟩;cases th with
|non=>cases(show u=bq from ru);exact dg PySem.W.kitx_none I.kIn cb h1 e (λz=>nomatch z) fin
|bl y=>cases(show u=Value.bool y from ru);exact dg PySem.W.kitx_bool I.kIn cb h1 e (λz=>nomatch z) fin
|int i=>obtain⟨t,z⟩:=(show ∃t,u=Value.int i t from ru);cases z;exact dg PySem.W.kitx_int I.kIn cb h1 e (λz=>nomatch z) fin
|str y _=>obtain⟨t,z⟩:=(show ∃t,u=Value.str y t from ru);cases z;exact dg PySem.W.kitx_str I.kIn cb h1 e (λz=>nomatch z) fin
|@lst a xs ea=>cases(show u=ay a from ru);obtain⟨_,_,n',_,h2⟩:=(show ZV X.prog X.w H s.heap a (.lst xs)from I.hok a _ ea);exact dg PySem.W.kitx_list I.kIn ⟨_,h2,rfl⟩ h1 e (λz=>nomatch z) fin
|@tup a xs ea=>cases(show u=ay a from ru);obtain⟨_,_,_,o,h2,h3,_⟩:=(show ZV X.prog X.w H s.heap a (.tup xs)from I.hok a _ ea);exact dg PySem.W.kitx_tuple I.kIn ⟨o,h2,h3⟩ h1 e (λz=>nomatch z) fin
|@dK a kvs ea=>cases(show u=ay a from ru);obtain⟨_,_,vs,_,o,es,ep,h2,h3,_⟩:=(show ZV X.prog X.w H s.heap a (.dK kvs)from I.hok a _ ea);exact dg PySem.W.kitx_dict I.kIn ⟨o,h2,h3.1⟩ h1 e (λz=>nomatch z) fin
end
theorem Th.kitLT{K:aa}{H:Hp}{v:V}{T:String}(h:Th H v T):PySem.W.kitAny K (.type T) (["list","tuple"].map cU)=some (decide (T="list"\/T="tuple")):=by cases h<;>(first|kernel_rfl|(unfold PySem.W.kitAny;rfl))
end L2
namespace TB
open PySem L2 PySem.Spec PyProof.Rows
structure Mosts(K:aa)(w:aI)(mg:Str->Option ac):Prop where
 at_:∃a,mg "MOST_ROWS"=some (.ref a)/\Ji K w a "places" (.int 14)/\Ji K w a "rides" (.int 80)/\Ji K w a "ways" (.int 40)/\Ji K w a "groups" (.int 300)
noncomputable def GX:List (Str×Nat):=[("places",14),("rides",80),("ways",40),("groups",300)]
def Part(H:Hp)(v:V)(r:Option (List V)):Prop:=match r with
|none=>∃T,Th H v T/\T≠"list"/\T≠"tuple"
|some xs=>∃p,v=.ref p/\(H p=some (.lst xs)\/H p=some (.tup xs))
def Rx(C:ae):Sp:=λvs H Q E=>∃z n v r,vs=[.str z,v]/\(z,n)∈GX/\Part H v r/\match r with
|none=>∀H1,Same H H1->Bad C (.str z) .non (.str "form") H1 E
|some xs=>if xs.length>n then ∀H1,Same H H1->Bad C (.str z) (.int n) (.str "many") H1 E else ∀H1 l,Same H H1->H1 l=some (.tup xs)->Q (.ref l) H1
section
variable {P:aA}{w:aI}{K:aa}{mg:Str->Option ac}{base:aX}{C:ae}
theorem DR:FnScope ["part","rows"] ["part","rows"] (Zg T.f_rows_of):=scO (by decide +kernel)
theorem Lg(G:Txt K mg)(M:Mosts K w mg)(B:Err P w K mg base "BadTable" ["part","at","why"] C)(D:Df K mg "rows_of" T.f_rows_of ["part","rows"]):CanX P w K mg base 3 "rows_of" ["part","rows"] (Rx C):=by
 obtain⟨aM,hM,k1,k2,k3,k4⟩:=M.at_;refine D.cnX DR λf cdv A outer s H vs Q E hr h=>?_;obtain⟨z,n,v,r,rfl,hz,hp,h⟩:=h;have hK:Ji K w aM z (.int n):=by simp only[GX,aq,Prod.mk.injEq,aK,or_false]at hz;rcases hz with⟨rfl,rfl⟩|⟨rfl,rfl⟩|⟨rfl,rfl⟩|⟨rfl,rfl⟩<;>assumption
 refine⟨_,Zf (ZC (ZW (ZX (ZJ W0 rfl G.isi PyProof.Rows.boot_isinstance (Zb (pv 1) (Zb (Zv (Zb (P1 (v:=V.ty "list") rfl G.lst Gi rfl) (Zb (P1 (v:=V.ty "tuple") rfl G.tup YX rfl) Zc))) Zc))))) (Zi (YO (E:=E) B Z1 rfl hr rfl (Zb (pv 0) (Zb ZN (Zb Zn Zc))))) Zq) (Zf (ZC (Zr KH (ZJ JX rfl G.len bt (Zb (pv 1) Zc)) (P0 (Yx (v:=V.ref aM) rfl hM rfl) (pv 0) (λ_ _=>rfl)) (Zx _)) (Zi (YO (E:=E) B Z1 rfl hr rfl (Zb (pv 0) (Zb (P0 (Yx (v:=V.ref aM) rfl hM rfl) (pv 0) (λ_ _=>rfl)) (Zb Zn Zc))))) Zq) (Zi (Zl (Z3 Xk rfl G.tup YX (Zb (pv 1) Zc))))),?_⟩;try dsimp only[cxOf,Cx.nox]
 cases r with
|none=>obtain⟨T',th,n1,n2⟩:=hp;refine⟨_,rfl,zl,λl hl=>?_⟩;have sm:Same H (upd H l (.tup [V.ty "list",V.ty "tuple"])):=sameNew (Same.refl H) hl;refine⟨v,l,["list","tuple"],T',_,rfl,th.same sm,Ze ..,(th.same sm).kitLT,_,rfl,?_⟩;rw[decide_eq_false (by simp[n1,n2])];refine iteT ?_;exact⟨_,rfl,rfl,h _ sm⟩
|some xs=>
  obtain⟨p,rfl,hp⟩:=hp;obtain⟨T',th,hT⟩:∃T',Th H (.ref p) T'/\(T'="list"\/T'="tuple"):=by
   rcases hp with hp|hp
   ·exact⟨_,.lst hp,.inl rfl⟩
   ·exact⟨_,.tup hp,.inr rfl⟩
  refine⟨_,rfl,zl,λl hl=>?_⟩;have sm:Same H (upd H l (.tup [V.ty "list",V.ty "tuple"])):=sameNew (Same.refl H) hl;refine⟨.ref p,l,["list","tuple"],T',_,rfl,th.same sm,Ze ..,(th.same sm).kitLT,_,rfl,?_⟩;rw[decide_eq_true hT];refine iteF ?_;generalize upd H l (.tup [V.ty "list",V.ty "tuple"])=H1 at sm ⊢;have hs:SqL K H1 p xs\/SqT K H1 p xs:=by
   rcases hp with hp|hp
   ·exact .inl (SqL.of (sm _ _ hp))
   ·exact .inr (SqT.of (sm _ _ hp))
  refine⟨_,rfl,p,xs,rfl,hs,_,rfl,aM,z,.int n,rfl,rfl,hK,_,_,rfl,rfl,_,rfl,?_⟩;dsimp only at h;refine ite2 (λe=>?_) (λe=>?_)
  ·have e':xs.length>n:=by simpa using e
   rw[if_pos e']at h;exact⟨_,rfl,_,rfl,aM,z,.int n,rfl,rfl,hK,rfl,h _ sm⟩
  ·have e':¬xs.length>n:=by simpa using e
   rw[if_neg e']at h;refine⟨_,rfl,p,xs,rfl,?_⟩;rcases hp with hp|hp
   ·exact .inl ⟨SqL.of (sm _ _ hp),λl2 hl2=>h _ l2 (sameNew sm hl2) (Ze ..)⟩
   ·exact .inr ⟨SqT.of (sm _ _ hp),h _ p sm (sm _ _ hp)⟩
end
end TB
namespace L2
open PySem PySem.Spec PyProof.Rows
open AutoSeq1 (wpAny_loadPart')
section
variable {prog:aA}{w:aI}{A:ba}{E:ac->ag->Prop}{s:ag}
theorem LW{it t:ae}{i:Nat}{items:Array ac}{x:ac}{Q:ac->ag->Prop}(hit:s.heap.IsTupleIter it t i)(ht:s.heap.IsTuple t items)(hx:items[i]?=some x)(hQ:∀h',h'.IsTupleIter it t (i+1)->dC it s.heap h'->Q x {s with heap:=h'}):aB (model prog w) A (bu (.ref it)) Q E s:=by obtain⟨o,ho,hc,hd⟩:=id hit;obtain⟨ol,hol,_,nl,hdl⟩:=id ht;unfold bu;refine af (wpAny_callSpecial?_slot (name:=cV "__next__") hit.typeIs dG (wpAny_call_entry dG hit.typeIs F.entry_tuple_iterator_next ?_ (F.args_tuple_iterator_next_1 _)));show aB (model prog w) _ (field (.ref it) 0 >>= _) _ _ s;refine af (bD (x:=.ref t) ho hd rfl ?_);show aB (model prog w) _ (if(ay t==bq)=true then _ else _) _ _ s;rw[if_neg (by exact az)];show aB (model prog w) _ (field (.ref it) 1 >>= _) _ _ s;refine af (bD (x:=.int i 0) ho hd rfl ?_);show aB (model prog w) _ (seqItems? (.ref t) >>= _) _ _ s;refine af (wpAny_seqItems hol hdl ?_);simp only[hx,a8];refine af (wpAny_setField ho hd (by simp) (au ⟨x,rfl,au (hQ _ ⟨_,bz _ ho (Obj.isFreed_of_fields (dY hd _)),(Obj.cls_mapFields ..).trans hc,by rw[dY hd];simp[rawInt]⟩ (dq ..))⟩))
theorem KM{it t:ae}{i:Nat}{items:Array ac}{Q:ac->ag->Prop}(hh:A.handled=none)(hit:s.heap.IsTupleIter it t i)(ht:s.heap.IsTuple t items)(hx:items[i]?=none)(hE:∀h' e,Heap.ExtBut it s.heap h'->(∃o,h'.get? e=some o/\o.cls=.type "StopIteration")->E (.ref e) {s with heap:=h'}):aB (model prog w) A (bu (.ref it)) Q E s:=by
 obtain⟨o,ho,hc,hd⟩:=id hit;obtain⟨ol,hol,_,nl,hdl⟩:=id ht;unfold bu;refine af (wpAny_callSpecial?_slot (name:=cV "__next__") hit.typeIs dG (wpAny_call_entry dG hit.typeIs F.entry_tuple_iterator_next ?_ (F.args_tuple_iterator_next_1 _)));show aB (model prog w) _ (field (.ref it) 0 >>= _) _ _ s;refine af (bD (x:=.ref t) ho hd rfl ?_);show aB (model prog w) _ (if(ay t==bq)=true then _ else _) _ _ s;rw[if_neg (by exact az)];show aB (model prog w) _ (field (.ref it) 1 >>= _) _ _ s;refine af (bD (x:=.int i 0) ho hd rfl ?_);show aB (model prog w) _ (seqItems? (.ref t) >>= _) _ _ s;refine af (wpAny_seqItems hol hdl ?_);simp only[hx,a8];refine af (wpAny_rule (af (wpAny_setField ho hd (by simp) ?_)));show aB (model prog w) _ (newExc (.type "StopIteration") [] >>= _) _ _ _;refine af ?_;simp only[newTuple,newExc];refine af (wpAny_newObj_type (af (m:=firstArgMember _ _) (wpAny_of_eq (a:=bq) (by first|rfl|(simp only[firstArgMember];rfl)) (wpAny_newObj_type ?_ (by size_fits)))) (by size_fits))
 simp only[raiseNew];refine af (wpAny_handled ?_);first|rw[show A.in1.handled=none from hh]|rw[hh]
 refine af (au (wpAny_throw ?_));exact hE _ _ (((dq ..).extBut.push _).push _) ⟨_,aU _ rfl,rfl⟩
end
theorem Pi{prog:aA}{w:aI}{A:ba}(hh:A.handled=none)(it t:ae)(hne:t≠it)(items:Array ac):
  Draws prog w A it [it,t] items.size (λi v=>items[i]?=some v) (λi h=>h.IsTupleIter it t i/\h.IsTuple t items) where
 live:=λ_ _ st=>by obtain⟨⟨o,ho,_⟩,_⟩:=st;exact⟨o,ho⟩
 frame:=λ_ _ _ st hk=>by
  obtain⟨⟨o,ho,r⟩,⟨o2,ho2,r2⟩⟩:=st
  exact⟨⟨o,hk it (by simp) o ho,r⟩,⟨o2,hk t (by simp) o2 ho2,r2⟩⟩
 item:=λi s Q E hi st hQ=>LW st.1 st.2 (x:=items[i]) (by simp[hi]) λh' hit' hs'=>hQ _ h' s.toks (by simp[hi]) ⟨hit',st.2.extBut hs'.extBut hne⟩ hs'
 done:=λs Q E st hE=>KM hh st.1 st.2 (by simp) hE
theorem WB(l:ae)(items:Array ac)(n:Nat)(dct:Option ae)(sl:Array (Option ac)):Meets (Builtin.«enumerate.__new__» ⟨[.type "enumerate",.ref l],[]⟩) (λ_ R s=>s.heap.get? l=some {cls:=.type "tuple",dict:=dct,data:=.seq items n,slots:=sl} /\R (.ok (.ret (.ref (s.heap.push {cls:=.type "tuple_iterator",data:=.fields #[.ref l,.int 0 0]}).objs.size))) {s with heap:=(s.heap.push {cls:=.type "tuple_iterator",data:=.fields #[.ref l,.int 0 0]}).push {cls:=.type "enumerate",data:=.fields #[.none,.bool false,.ref s.heap.objs.size,rawInt 0,.none,.none]}}):=.of_wp λprog w A R s h=>by
  obtain⟨hp,g,d,tk,os⟩:=s;obtain⟨hl,h⟩:=h;have hsub:=sub_enumerate;have hT:Heap.IsTuple (Shared.heap ⟨hp,g,d,tk,os⟩) l items:=⟨_,hl,rfl,n,rfl⟩;wp_walk using wpAny_loadPart' hl;refine wpAny_stack_any λst=>au ?_;split
  ·rename_i c _ _ _ _ _;cases(c==cU "enumerate")<;>(wp_walk using wpAny_loadPart' hl,wpAny_pyIter_tuple hT;exact⟨_,rfl,h⟩)
  ·wp_walk using wpAny_loadPart' hl,wpAny_pyIter_tuple hT;exact⟨_,rfl,h⟩
theorem Sv{prog:aA}{w:aI}{A:ba}{E:ac->ag->Prop}{s:ag}{l:ae}{items:Array ac}{Q:ac->ag->Prop}(hL:s.heap.IsTuple l items)(h:∀h',IsEnum h' (s.heap.objs.size+1) s.heap.objs.size 0 .none->h'.IsTupleIter s.heap.objs.size l 0->(∀b o,s.heap.get? b=some o->h'.get? b=some o)->Q (.ref (s.heap.objs.size+1)) {s with heap:=h'}):aB (model prog w) A (call (.type "enumerate") [.ref l]) Q E s:=by
 obtain⟨⟨c,dct,dt,sl⟩,hl,hc,n,hd⟩:=hL;simp only at hc hd;subst hc hd;refine callType_new F.called_enumerate (by decide) (F.typeCall_enumerate_1 _) (F.newCall_enumerate_1 _) (λobj=>F.args_object_init_2 obj _) F.entry_enumerate_new (WB l items n dct sl) ⟨hl,?_⟩;have hz:(s.heap.push {cls:=.type "tuple_iterator",data:=.fields #[.ref l,.int 0 0]}).objs.size=s.heap.objs.size+1:=da ..;show _/\_;rw[hz];have he:IsEnum ((s.heap.push {cls:=.type "tuple_iterator",data:=.fields #[.ref l,.int 0 0]}).push {cls:=.type "enumerate",data:=.fields #[.none,.bool false,.ref s.heap.objs.size,rawInt 0,.none,.none]}) (s.heap.objs.size+1) s.heap.objs.size 0 .none:=by have:=aU (s.heap.push {cls:=.type "tuple_iterator",data:=.fields #[.ref l,.int 0 0]}) (o:={cls:=.type "enumerate",data:=.fields #[.none,.bool false,.ref s.heap.objs.size,rawInt 0,.none,.none]}) rfl;rwa [hz]at this
 exact⟨⟨_,he,rfl⟩,h _ he ⟨_,ah _ (aU _ rfl),rfl,rfl⟩ λb o x=>ah _ (ah _ x)⟩
noncomputable def Iten(l:ae):It:=⟨λi H=>∃xs,H l=some (.tup xs)/\i<xs.length,λi H x H'=>∃(T:ae)(xs:List V)(y:V),H T=none/\H l=some (.tup xs)/\xs[i]?=some y/\x=.ref T/\H'=upd H T (.tup [.int i,y]),λi H=>∃xs,H l=some (.tup xs)/\i=xs.length⟩
theorem Rp{P:aA}{w:aI}{K:aa}{es:List Expr}{k:Nat}{pt:Pos}(l e it:ae)(hei:e≠it)(hle:l≠e)(hli:l≠it):
  Turn P w K (.Tuple es k pt) (Iten l) [e,it] e (λi h=>(∃old,IsEnum h e it i old)/\h.IsTupleIter it l i) where
 mem:=by simp
 obj:=λi h st b hb=>by
  obtain⟨⟨old,he⟩,o,ho,c,d⟩:=st
  have hb':b=e\/b=it:=by simpa using hb
  rcases hb' with rfl|rfl
  ·exact⟨_,he,λv z=>by cases z⟩
  ·exact⟨o,ho,λv z=>by rw[d]at z;cases z⟩
 keep:=λi h h' st kk=>by
  obtain⟨⟨old,he⟩,o,ho,r⟩:=st
  exact⟨⟨old,kk e (by simp) _ he⟩,o,kk it (by simp) o ho,r⟩
 item:=by
  intro X hP hw hK hc i pins s σ H E I hf st hg
  subst hP hw hK
  obtain⟨xs,hx,hi⟩:=hg
  obtain⟨⟨old,he⟩,hs⟩:=st
  obtain⟨its,rv,pl,_⟩:=I.tuple (SqT.of hx)
  have hlen:=rv.length
  have D:=Pi (prog:=X.prog) (w:=X.w) (A:=X.A.in1) (I.ok.hd hc) it l hli its.toArray
  have W:=WalksT.enumerateD D e hei (by simp[hei,bL hle]) (by simp)
  refine W.item i s _ _ (by simp only[ar];omega) ⟨⟨old,he⟩,hs,pl⟩ λT vals h' tk hv hT ht hm kk=>?_
  obtain⟨tk',u,hu,rfl⟩:=hv
  obtain⟨y,hy⟩:∃y,xs[i]?=some y:=⟨xs[i],gE hi⟩
  obtain⟨u2,hu2,ru⟩:=rv.get hy
  have hu':its[i]?=some u:=by simpa using hu
  rw[hu']at hu2;cases hu2
  refine⟨_,rfl,?_⟩
  refine W.go es k pt i T {s with heap:=h',toks:=tk} _ _ hm λh2 st2 kk2=>?_
  have hTn:H T=none:=I.hok.fresh hT
  have hap:=W.apart i T h' hm
  have hb2:∀b,b∉[e,it]->∀o,s.heap.get? b=some o->h2.get? b=some o:=λb hb o q=>kk2 b o hb (kk b o hb q)
  have nb:∀b u,H b=some u->b∉[e,it]:=λb u q hb=>by rw[(hf b hb).1]at q;cases q
  have I1:Inv X pins σ (upd H T (.tup [.int i,y])) {s with heap:=h2,toks:=tk}:=by
   refine I.step (g':=s.gens) (d':=s.drawn) (ch:=[e,it]) (λb hb=>?_) (λb o _ _ hb q _=>hb2 b hb o q) (λb o _ _ hb q _=>⟨o.slots,hb2 b hb o q⟩)
    (λb o hb q n=>?_) (λb o hb q=>⟨o,hb2 b hb o q⟩) (λb xs q=>?_) (λb o u q=>?_) (λb ps q=>?_) (λm hm=>?_) ?_ I.bare
   ·obtain⟨g0,g1,g2,g3,g4,g5⟩:=hf b hb
    exact⟨g3,g1,g4,g5⟩
   ·rw[Zj (aE (aD (ap q) hT))];exact n
   ·rw[Zj (Zk q hTn)];exact q
   ·rw[Zj (Zk q hTn)];exact q
   ·exact⟨#[],by rw[Zj (Zk q hTn),q];simp⟩
   ·obtain⟨o,es',ep,ho,r⟩:=hm
    refine⟨o,es',ep,hb2 _ ?_ o ho,r⟩
    intro hb
    obtain⟨g0,g1,_⟩:=hf _ hb
    exact g1 rfl
   ·intro b ob q
    by_cases hb:b=T
    ·subst hb
     rw[Ze]at q
     cases q
     obtain⟨o,h1,h2',h3⟩:=ht
     exact⟨zl,[.int i tk',u],.cons ⟨_,rfl⟩ (.cons ru .nil),⟨o,kk2 _ _ hap h1,h2',h3⟩⟩
    ·rw[Zj hb]at q
     refine(I.hok b ob q).stay (λc' v hc' q'=>hb2 c' ?_ v q') (λc' q'=>by rw[Zj (Zk q' hTn)];exact q') λc' xs q'=>by rw[Zj (Zk q' hTn)];exact q'
     rcases hc' with rfl|hc'
     ·exact nb _ _ q
     ·exact nb _ _ hc'
  refine⟨.ref T,_,I1,rfl,⟨T,xs,y,hTn,hx,hy,rfl,rfl⟩,⟨st2.1,st2.2.1⟩,λb hb=>?_⟩
  rw[Zj]
  ·exact(hf b hb).1
  ·rintro rfl
   exact hap hb
 done:=by
  intro X hP hw hK hc i pins s σ H E I hf st hg
  subst hP hw hK
  obtain⟨xs,hx,hi⟩:=hg
  obtain⟨⟨old,he⟩,hs⟩:=st
  obtain⟨its,rv,pl,_⟩:=I.tuple (SqT.of hx)
  have hlen:=rv.length
  have D:=Pi (prog:=X.prog) (w:=X.w) (A:=X.A.in1) (I.ok.hd hc) it l hli its.toArray
  have W:=WalksT.enumerateD D e hei (by simp[hei,bL hle]) (by simp)
  have ei:i=its.toArray.size:=by simp only[ar];omega
  subst ei
  refine W.done s _ _ ⟨⟨old,he⟩,hs,pl⟩ λh' tk kk=>⟨rfl,?_⟩
  have nb:∀b u,H b=some u->b∉[e,it]:=λb u q hb=>by rw[(hf b hb).1]at q;cases q
  refine I.step (g':=s.gens) (d':=s.drawn) (ch:=[e,it]) (λb hb=>?_) (λb o _ _ hb q _=>kk b o hb q) (λb o _ _ hb q _=>⟨o.slots,kk b o hb q⟩)
   (λb o hb q n=>n) (λb o hb q=>⟨o,kk b o hb q⟩) (λb xs q=>q) (λb o u q=>q) (λb ps q=>⟨#[],by rw[q];simp⟩) (λm hm=>?_) (λb u q=>?_) I.bare
  ·obtain⟨g0,g1,g2,g3,g4,g5⟩:=hf b hb
   exact⟨g3,g1,g4,g5⟩
  ·obtain⟨o,es',ep,ho,r⟩:=hm
   refine⟨o,es',ep,kk _ o ?_ ho,r⟩
   intro hb
   obtain⟨g0,g1,_⟩:=hf _ hb
   exact g1 rfl
  ·refine(I.hok b u q).stay (λc' v hc' q'=>kk c' v ?_ q') (λ_ q'=>q') λ_ _ q'=>q'
   rcases hc' with rfl|hc'
   ·exact nb _ _ q
   ·exact nb _ _ hc'
 self:=λA i s Q E st h=>by
  obtain⟨⟨old,he⟩,_⟩:=st
  exact wpAny_pyIter_enum he h
section
variable {X:Cx}
noncomputable def iEnT(ta:TA):TI:=λσ H R=>ta σ H λvs H1=>∃(l:ae)(xs:List V),vs=[.ref l]/\H1 l=some (.tup xs)/\R (Iten l) H1
theorem Uo{a:Expr}{ta:TA}{p pos pt:Pos}{es:List Expr}{k:Nat}(hg:Gl X "enumerate")(hm:X.mg "enumerate"=none)(ha:PA X [a] ta)(hb:bootBuiltins "enumerate"=some (.type "enumerate"))(hs:aO [a] X.env=[(false,eval a X.env)]:=by rfl):PI X (.Tuple es k pt) (.Call (.Name "enumerate" p) [a] [] pos) (iEnT ta):=by
 intro pins s σ H R I h;refine Call_ (Vl I hg hm hb (bX (thn (ha pos pins s σ H _ I h) λus s1 h90=>?_) hs rfl));obtain⟨vs,H1,I1,r1,q1⟩:=h90;obtain⟨l,xs,e,hx,q⟩:=q1;subst e;cases r1 with
|cons r rr=>
  cases rr;cases r;obtain⟨its,rv,pl,_⟩:=I1.tuple (SqT.of hx);refine Sv pl λh' he hst kk=>?_;have I2:Inv X pins σ H1 {s1 with heap:=h'}:=I1.kept (t':=s1.toks) kk;refine wpAny_pyIter_enum he ?_;have lt:l<s1.heap.objs.size:=I1.hok.lt hx;refine⟨s1.heap.objs.size+1,[s1.heap.objs.size+1,s1.heap.objs.size],_,_,H1,rfl,I2,Rp l (s1.heap.objs.size+1) s1.heap.objs.size (Nat.succ_ne_self _) (aE (bK lt)) (aE lt),⟨⟨_,he⟩,hst⟩,λb hb=>?_,q⟩;have e:b=s1.heap.objs.size+1\/b=s1.heap.objs.size:=by simpa using hb
  rcases e with e|e<;>subst e
  ·exact I1.fpOk (Nat.le_succ _) (I1.hok.fresh (Nat.le_succ _))
  ·exact I1.fpOk (aj _) (I1.hok.fresh (aj _))
end
theorem Mq:bootBuiltins "enumerate"=some (.type "enumerate"):=by decide +kernel
def tOrX(K:aa)(ta tb:TE):TE:=λσ H Q=>ta σ H λx H1=>∃k,TruV K x H1 k/\if k=true then Q x H1 else tb σ H1 Q
theorem PZ{X:Cx}{a b:Expr}{rest:List Expr}{pos:Pos}{ta tb:TE}(ha:PE X a ta)(hb:PE X (.BoolOp .Or (b::rest) pos) tb):PE X (.BoolOp .Or (a::b::rest) pos) (tOrX X.K ta tb):=by
 intro pins s σ H Q I h;refine BoolOp_or (thn (ha pins s σ H _ I h) λv s1 h90=>?_);obtain⟨x,H1,I1,r1,k,q1,q2⟩:=h90;refine thn (DJ pins s1 σ H1 x v (λk' H'=>H'=H1/\k'=k) I1 r1 ⟨k,q1,rfl,rfl⟩) λc s2 h91=>?_;obtain⟨H2,I2,e1,e2⟩:=h91;subst e1 e2;cases c with
|false=>exact hb pins s2 σ H2 Q I2 q2
|true=>exact⟨x,H2,I2,r1,q2⟩
def Zh(b:ae)(H H':Hp):Prop:=∀c o,H c=some o->c≠b->H' c=some o
theorem Zh.refl(b:ae)(H:Hp):Zh b H H:=λ_ _ h _=>h
theorem Zh.trans{b:ae}{H H1 H2:Hp}(x:Zh b H H1)(y:Zh b H1 H2):Zh b H H2:=λc o h hc=>y c o (x c o h hc) hc
theorem Zh.upd{b:ae}{H H1:Hp}{o:HO}(x:Zh b H H1):Zh b H (upd H1 b o):=λc u h hc=>by rw[Zj hc];exact x c u h hc
theorem Zh.of{b:ae}{H H1:Hp}(x:Same H H1):Zh b H H1:=λc u h _=>x c u h
theorem Th.sameB{H H':Hp}{t C dx:ae}{fs:List (Str×V)}(ht:H t=some (.ins C dx fs))(s:Zh t H H'){v:V}{T:String}(h:Th H v T):Th H' v T:=by
 cases h with
|non=>exact .non
|bl b=>exact .bl b
|int i=>exact .int i
|str z h=>exact .str z h
|lst e=>exact .lst (s _ _ e (ne_of e ht (by intro z;cases z)))
|tup e=>exact .tup (s _ _ e (ne_of e ht (by intro z;cases z)))
|dK e=>exact .dK (s _ _ e (ne_of e ht (by intro z;cases z)))
theorem Vm{J:It}{g:TG}{tb:TS}{D:Ends}{σ:L2.St}{H:Hp}(n:Nat)(Pv:Nat->L2.St->Hp->Prop)(h0:Pv 0 σ H)(hgo:∀i σ H,i<n->Pv i σ H->J.go i H)(hstop:∀σ H,Pv n σ H->J.stop n H)(hs:∀i σ H x H',i<n->Pv i σ H->J.yld i H x H'->g x σ H' λσ2 H2=>tb {D with nx:=Pv (i+1),ct:=Pv (i+1),bk:=D.nx} σ2 H2)(hd:∀σ H,Pv n σ H->D.nx σ H):∃W:Nat->Nat->L2.St->Hp->Prop,(∃m,W 0 m σ H)/\∀i m σ H,W i m σ H ->(J.stop i H/\D.nx σ H)\/(J.go i H/\∃N:L2.St->Hp->Prop,(∀σ' H',N σ' H'->∃m',m'<m/\W (i+1) m' σ' H')/\∀x H',J.yld i H x H'->g x σ H' λσ2 H2=>tb {D with nx:=N,ct:=N,bk:=D.nx} σ2 H2):=by
 refine⟨λi m σ H=>m=n-i/\i<=n/\Pv i σ H,⟨n,rfl,bV _,h0⟩,?_⟩;rintro i m σ H ⟨rfl,hi,p⟩;by_cases hlt:i<n
 ·exact .inr ⟨hgo i σ H hlt p,Pv (i+1),λσ' H' p'=>⟨n-(i+1),by omega,rfl,hlt,p'⟩,λx H' y=>hs i σ H x H' hlt p y⟩
 ·have e:i=n:=by omega
  subst e;exact .inl ⟨hstop σ H p,hd σ H p⟩
end L2
namespace TB
open PySem L2 PySem.Spec PyProof.Rows
theorem Row.sameB{H H':Hp}{t C dx:ae}{fs:List (Str×V)}(ht:H t=some (.ins C dx fs))(s:Zh t H H'){v:V}{r:Option (List V)}(h:Row H v r):Row H' v r:=by
 cases r with
|none=>obtain⟨T,th,hT⟩:=h;exact⟨T,th.sameB ht s,hT⟩
|some xs=>obtain⟨p,rfl,hp,hx⟩:=h;exact⟨p,rfl,s _ _ hp (ne_of hp ht (by intro z;cases z)),λx hx'=>let ⟨T,th⟩:=hx x hx';⟨T,th.sameB ht s⟩⟩
def ZU(H:Hp)(xs:List V)(rs:List (Option (List V))):Prop:=xs.length=rs.length/\∀(i:Nat)x r,xs[i]?=some x->rs[i]?=some r->Row H x r
noncomputable def Yj:Nat->List (Key×V)->List (Option (List V))->Sum (Nat×V) (List (Key×V))
|_,kvs,[]=>.inr kvs
|i,kvs,r::rs=>
  if begR false 2 kvs r≠.non then .inl (i,begR false 2 kvs r)else match r with
  |some [.str n,room]=>if Yi room≠.non then .inl (i,Yi room)else Yj (i+1) (putK kvs (.inr n) room) rs
  |_=>.inl (i,.str "form")
theorem MW{i:Nat}{kvs:List (Key×V)}{r:Option (List V)}{rs:List (Option (List V))}(h:begR false 2 kvs r≠.non):Yj i kvs (r::rs)=.inl (i,begR false 2 kvs r):=by unfold Yj;rw[if_pos h]
theorem Vt{g:Bool}{n:Nat}{kvs:List (Key×V)}{r:Option (List V)}(h:begR g n kvs r=.non):∃xs y,r=some xs/\xs.length=n/\xs.getD 0 .non=.str y:=by
 cases r with
|none=>cases h
|some xs=>
  have h':begV g n kvs xs=.non:=h;unfold begV at h';by_cases h1:xs.length≠n
  ·rw[if_pos h1]at h';cases h'
  ·rw[if_neg h1]at h';by_cases h2:Z4 g (xs.getD 0 .non)=false
   ·rw[if_pos h2]at h';cases h'
   ·have h2':Z4 g (xs.getD 0 .non)=true:=by simpa using h2
    unfold Z4 at h2';cases e:xs.getD 0 .non with
   |str y=>exact⟨xs,y,rfl,by omega,e⟩
   |_=>rw[e]at h2';split at h2'<;>cases h2'
def T7(v:V):Prop:=v=.non\/∃z:Str,v=.str z/\z.length<=1000/\z.length≠0
theorem T7.tru{K:aa}{v:V}{H:Hp}(h:T7 v):TruV K v H (decide (v≠.non)):=by
 rcases h with rfl|⟨z,rfl,h1,h2⟩
 ·exact rfl
 ·refine⟨Nat.le_of_lt (XH h1),?_⟩;rw[decide_eq_true (by intro q;cases q)];simp[h2]
theorem Mr(g:Bool)(n:Nat)(kvs:List (Key×V))(r:Option (List V)):T7 (begR g n kvs r):=by
 cases r with
|none=>exact .inr ⟨_,rfl,by decide +kernel,by decide +kernel⟩
|some xs=>
  show T7 (begV g n kvs xs);unfold begV;split
  ·exact .inr ⟨_,rfl,by decide +kernel,by decide +kernel⟩
  ·split
   ·exact .inr ⟨_,rfl,by decide +kernel,by decide +kernel⟩
   ·split
    ·exact .inr ⟨_,rfl,by decide +kernel,by decide +kernel⟩
    ·exact .inl rfl
section
variable {P:aA}{w:aI}{K:aa}{mg:Str->Option ac}{base:aX}{C Cb:ae}
def SR(C Cb:ae):Sp:=λvs H Q E=>∃(t l dx:ae)(xs:List V)(rs:List (Option (List V)))(fs:List (Str×V)),vs=[.ref t,.ref l]/\H t=some (.ins C dx fs)/\(∀g,g∉fields->fs.lookup g=none)/\fs.length<=20/\H l=some (.tup xs)/\xs.length<=1000/\ZU H xs rs /\match Yj 0 [] rs with
|.inl (i,why)=>∀H1,Zh t H H1->Bad Cb (.str "places") (.int i) why H1 E
|.inr kvs=>∀H' d,Zh t H H'->H d=none->d≠t->H' d=some (.dK kvs)->H' t=some (.ins C dx (putF "room_by_place" (.ref d) (putF "places" (.ref l) fs)))->Q .non H'
theorem PX:FnScope ["self","places","at","row"] ["self","places"] (Zg T.m_Table_take_places):=scO (by decide +kernel)
theorem WN(Z:TCl K C)(he:mg "enumerate"=none)(D:DfM K C "take_places" "Table.take_places" T.m_Table_take_places ["self","places"])(CB:Can P w K mg base 3 "wrong_beginning" ["part","row","names_ahead"] Va)(CW:Can P w K mg base 3 "wrong_place" ["row"] Qv)(CR:CanX P w K mg base 3 "refuse_row" ["part","at","why"] (Vb Cb)):CanM P w K mg base (CX1 P w) 4 C "take_places" ["self","places"] (SR C Cb):=by
 refine D.cnX PX λf cdv A outer s H vs Q E hr h=>?_;obtain⟨t,l,dx,xs,rs,fs,rfl,ht,honly,hfs,hl,hlen,hrows,k⟩:=h;have nP:Z8 K C "places":=Z.na _ (by simp[fields]);have nR:Z8 K C "room_by_place":=Z.na _ (by simp[fields]);have htl:l≠t:=ne_of hl ht (by intro z;cases z);have fl1:(putF "places" (.ref l) fs).length<=21:=by have:=Yr "places" (V.ref l) fs;omega
 refine⟨_,Zf (JN (pv 0) (pv 1) rfl) (Zf (JN (pv 0) JC rfl) (Zi (XJ PassesOwn.leaving rfl (Uo rfl he (Zb (pv 1) Zc) Mq) (XM rfl (Zz (Zt (i:=2) PX.nd rfl (aJ rfl)) (Zz (Zt (i:=3) PX.nd rfl (aJ rfl)) Yd))) (Zf (Y7 (Jo CR Z1 hr rfl (Zb Zn (Zb (pv 2) (Zb (PZ (Z2 CB hr rfl (Zb Zn (Zb (pv 3) (Zb (ZG (pv 0) rfl) Zc)))) (XN (Z2 CW hr rfl (Zb (pv 3) Zc)))) Zc))))) (Zi (Mi (VP hr) (ZG (pv 0) rfl) (Yk Yb (pv 3) Zd (λ_ _=>rfl)) (Yk Yb (pv 3) Zd (λ_ _=>rfl)) rfl)))))),?_⟩;try dsimp only[cxOf,Cx.nox]
 refine⟨_,rfl,_,rfl,t,C,dx,_,rfl,ht,Z.cl,nP,by omega,?_⟩;have s1:Zh t H (upd H t (.ins C dx (putF "places" (.ref l) fs))):=(Zh.refl t H).upd;have t1:upd H t (.ins C dx (putF "places" (.ref l) fs)) t=some (.ins C dx (putF "places" (.ref l) fs)):=Ze;have fr1:∀c,upd H t (.ins C dx (putF "places" (.ref l) fs)) c=none->H c=none/\c≠t:=λc e=>by
  by_cases h:c=t
  ·rw[h,Ze]at e;cases e
  ·rw[Zj h]at e;exact⟨e,h⟩
 generalize upd H t (.ins C dx (putF "places" (.ref l) fs))=H1 at s1 t1 fr1 ⊢;refine λd hd=>⟨_,rfl,t,C,dx,_,rfl,(by rw[Zj (Zk t1 hd)];exact t1),Z.cl,nR,by omega,?_⟩;obtain⟨hd0,hdt⟩:=fr1 d hd;have s2:Zh t H (upd (upd H1 d (.dK [])) t (.ins C dx (putF "room_by_place" (.ref d) (putF "places" (.ref l) fs)))):=λc o h hc=>by rw[Zj hc,Zj (λz=>by rw[z,hd0]at h;cases h)];exact s1 c o h hc
 have t2:upd (upd H1 d (.dK [])) t (.ins C dx (putF "room_by_place" (.ref d) (putF "places" (.ref l) fs))) t=some (.ins C dx (putF "room_by_place" (.ref d) (putF "places" (.ref l) fs))):=Ze;have d2:upd (upd H1 d (.dK [])) t (.ins C dx (putF "room_by_place" (.ref d) (putF "places" (.ref l) fs))) d=some (.dK []):=by rw[Zj hdt,Ze]
 have lk:(putF "room_by_place" (.ref d) (putF "places" (.ref l) fs)).lookup ("room_by_place":Str)=some (.ref d):=by rw[Zo,if_pos rfl]
 generalize upd (upd H1 d (.dK [])) t (.ins C dx (putF "room_by_place" (.ref d) (putF "places" (.ref l) fs)))=H2 at s2 t2 d2 ⊢;have kk:∀res,Yj 0 [] rs=res->(match res with
 |.inl (i,why)=>∀H1,Zh t H H1->Bad Cb (.str "places") (.int i) why H1 E
 |.inr kvs=>∀H' d,Zh t H H'->H d=none->d≠t->H' d=some (.dK kvs)->H' t=some (.ins C dx (putF "room_by_place" (.ref d) (putF "places" (.ref l) fs)))->Q .non H'):=λres e=>by rw[<-e];exact k
 clear k;refine⟨_,rfl,l,xs,rfl,s2 _ _ hl htl,Vm (J:=Iten l) xs.length (λi σ H'=>∃(kvs:List (Key×V))(v2 v3:Option V),σ=[some (.ref t),some (.ref l),v2,v3]/\Zh t H H'/\H' t=some (.ins C dx (putF "room_by_place" (.ref d) (putF "places" (.ref l) fs)))/\H' d=some (.dK kvs)/\Yj 0 [] rs=Yj i kvs (rs.drop i)/\kvs.length<=i) ⟨[],none,none,rfl,s2,t2,d2,rfl,aj _⟩ (λi σ H' hi p=>?_) (λσ H' p=>?_) (λi σ H' x H'' hi p yl=>?_) (λσ H' p=>?_)⟩
 ·obtain⟨kvs,v2,v3,rfl,sm,_⟩:=p;exact⟨xs,sm _ _ hl htl,hi⟩
 ·obtain⟨kvs,v2,v3,rfl,sm,_⟩:=p;exact⟨xs,sm _ _ hl htl,rfl⟩
 ·obtain⟨kvs,v2,v3,rfl,sm,tt,dd,hgo,hkl⟩:=p;obtain⟨Tt,xs',y,hT,e1,hy,rfl,rfl⟩:=yl;rw[sm _ _ hl htl]at e1;cases e1;have hi':i<rs.length:=by rw[<-hrows.1];exact hi
  have hr0:rs[i]?=some rs[i]:=gE hi';have hdrop:rs.drop i=rs[i]::rs.drop (i+1):=bS hi';have hrow0:=hrows.2 i y rs[i] hy hr0;generalize rs[i]=r at hr0 hdrop hrow0;have sm3:Zh t H (upd H' Tt (.tup [.int i,y])):=λc o h hc=>by rw[Zj (Zk (sm c o h hc) hT)];exact sm c o h hc
  have t3:upd H' Tt (.tup [.int i,y]) t=some (.ins C dx (putF "room_by_place" (.ref d) (putF "places" (.ref l) fs))):=by rw[Zj (Zk tt hT)];exact tt
  have d3:upd H' Tt (.tup [.int i,y]) d=some (.dK kvs):=by rw[Zj (Zk dd hT)];exact dd
  refine⟨Tt,_,rfl,SqT.of Ze,rfl,_,_,rfl,_,_,rfl,rfl,?_⟩;generalize upd H' Tt (.tup [.int i,y])=H3 at sm3 t3 d3 ⊢;have hrow3:Row H3 y r:=hrow0.sameB ht sm3;refine⟨_,rfl,_,rfl,_,rfl,t,C,dx,_,_,rfl,t3,Z.cl,nR,lk,"places",2,y,r,d,kvs,rfl,by simp[MY],hrow3,d3,λH4 sm34=>⟨_,(Mr _ _ _ _).tru,?_⟩⟩;have sm4:Zh t H H4:=sm3.trans (Zh.of sm34);have t4:=sm34 _ _ t3;have d4:=sm34 _ _ d3;have eg:decide ((("places":Str))="groups")=false:=by decide +kernel
  rw[eg];rw[hdrop]at hgo;by_cases hb:begR false 2 kvs r=.non
  ·rw[hb];refine iteF ?_;obtain⟨ys,n,rfl,hyl,hyn⟩:=Vt hb;obtain⟨q,rfl,hq,hqx⟩:=hrow3;obtain⟨x0,room,rfl⟩:=len2 hyl;have hx0:x0=.str n:=hyn;subst hx0;have hq4:=sm34 _ _ hq;obtain⟨T5,th5⟩:=hqx room (by simp);refine⟨_,rfl,q,.str n,room,T5,rfl,hq4,th5.same sm34,?_⟩;have hstep:Yj i kvs (some [.str n,room]::rs.drop (i+1))=if Yi room≠.non then .inl (i,Yi room)else Yj (i+1) (putK kvs (.inr n) room) (rs.drop (i+1)):=by rw[Yj,if_neg (by rw[hb];exact λz=>z rfl)]
   by_cases hw:Yi room=.non
   ·refine⟨_,_,_,rfl,.inl ⟨hw,?_⟩⟩;refine⟨_,rfl,q,_,1,room,rfl,rfl,SqT.of hq4,at0 1 rfl,_,rfl,t,C,dx,_,_,rfl,t4,Z.cl,nR,lk,_,rfl,q,_,0,.str n,rfl,rfl,SqT.of hq4,at0 0 rfl,d,_,rfl,DPut.k (k:=cv n) d4 (XH (by omega)),?_⟩;refine⟨putK kvs (.inr n) room,_,_,rfl,λc o h hc=>?_,(by rw[Zj (bL hdt)];exact t4),Ze,?_,?_⟩
    ·rw[Zj (λz=>by rw[z,hd0]at h;cases h)];exact sm4 c o h hc
    ·rw[hgo,hstep,if_neg (λz=>z hw)]
    ·have:=Y3 kvs (cv n) room;omega
   ·refine⟨_,_,_,rfl,.inr ⟨hw,?_⟩⟩;exact kk (.inl (i,Yi room)) (by rw[hgo,hstep,if_pos hw]) H4 sm4
  ·rw[decide_eq_true hb];refine iteT ?_;refine⟨_,_,_,rfl,.inr ⟨hb,?_⟩⟩;exact kk (.inl (i,begR false 2 kvs r)) (by rw[hgo,MW hb]) H4 sm4
 ·obtain⟨kvs,v2,v3,rfl,sm,tt,dd,hgo,hkl⟩:=p;have hd':rs.drop xs.length=[]:=by rw[hrows.1];exact List.drop_length
  rw[hd',Yj]at hgo;exact kk _ hgo H' d sm hd0 hdt dd tt
noncomputable def nameOf(ys:List V):Str:=match ys.getD 0 .non with
|.str y=>y
|_=>ce
noncomputable def Yt(g:Bool)(n:Nat)(why:List V->V):Nat->List (Key×V)->List (V×Option (List V))->Sum (Nat×V) (List (Key×V))
|_,kvs,[]=>.inr kvs
|i,kvs,(x,r)::rs=>
  if begR g n kvs r≠.non then .inl (i,begR g n kvs r)else match r with
  |some ys=>if why ys≠.non then .inl (i,why ys)else Yt g n why (i+1) (putK kvs (.inr (nameOf ys)) x) rs
  |none=>.inl (i,.str "form")
theorem MQ{g:Bool}{n:Nat}{why:List V->V}{i:Nat}{kvs:List (Key×V)}{x:V}{r:Option (List V)}{rs:List (V×Option (List V))}(h:begR g n kvs r≠.non):Yt g n why i kvs ((x,r)::rs)=.inl (i,begR g n kvs r):=by unfold Yt;rw[if_pos h]
theorem Gu{g:Bool}{n:Nat}{why:List V->V}{i:Nat}{kvs:List (Key×V)}{x:V}{ys:List V}{rs:List (V×Option (List V))}(h:begR g n kvs (some ys)=.non):Yt g n why i kvs ((x,some ys)::rs)=if why ys≠.non then .inl (i,why ys)else Yt g n why (i+1) (putK kvs (.inr (nameOf ys)) x) rs:=by
 conv=>lhs;unfold Yt
 rw[if_neg (λz=>z h)]
noncomputable def at_(ys:List V)(i:Nat):V:=ys.getD i .non
noncomputable def Vg(kvs:List (Key×V))(n:Int)(ys:List V):V:=Xu kvs n (at_ ys 1) (at_ ys 2) (at_ ys 3) (at_ ys 4) (at_ ys 5)
noncomputable def wayW(kvs:List (Key×V))(ys:List V):V:=wayV kvs (at_ ys 1) (at_ ys 2) (at_ ys 3) (at_ ys 4)
def SQ(C Cb:ae):Sp:=λvs H Q E=>∃(t l dx dP:ae)(xs:List V)(rs:List (Option (List V)))(fs:List (Str×V))(kvsP:List (Key×V))(nT:Int),vs=[.ref t,.ref l]/\H t=some (.ins C dx fs)/\(∀g,g∉fields->fs.lookup g=none)/\fs.length<=20 /\fs.lookup ("room_by_place":Str)=some (.ref dP)/\H dP=some (.dK kvsP)/\fs.lookup ("turns":Str)=some (.int nT)/\H l=some (.tup xs)/\xs.length<=1000/\ZU H xs rs /\match Yt false 6 (Vg kvsP nT) 0 [] (xs.zip rs)with
|.inl (i,why)=>∀H1,Zh t H H1->Bad Cb (.str "rides") (.int i) why H1 E
|.inr kvs=>∀H' d,Zh t H H'->H d=none->d≠t->H' d=some (.dK kvs)->H' t=some (.ins C dx (putF "ride_by_name" (.ref d) (putF "rides" (.ref l) fs)))->Q .non H'
theorem PV:FnScope ["self","rides","at","row"] ["self","rides"] (Zg T.m_Table_take_rides):=scO (by decide +kernel)
theorem WM(Z:TCl K C)(he:mg "enumerate"=none)(D:DfM K C "take_rides" "Table.take_rides" T.m_Table_take_rides ["self","rides"])(CB:Can P w K mg base 3 "wrong_beginning" ["part","row","names_ahead"] Va)(CW:Can P w K mg base 5 "wrong_ride" ["table","row"] (Kc C))(CR:CanX P w K mg base 3 "refuse_row" ["part","at","why"] (Vb Cb)):CanM P w K mg base (CX1 P w) 6 C "take_rides" ["self","rides"] (SQ C Cb):=by
 refine D.cnX PV λf cdv A outer s H vs Q E hr h=>?_;obtain⟨t,l,dx,dP,xs,rs,fs,kvsP,nT,rfl,ht,honly,hfs,hdP,hkP,hnT,hl,hlen,hrows,k⟩:=h;have hr3:=hr.mono (by decide:3<=5);have nP:Z8 K C "rides":=Z.na _ (by simp[fields]);have nR:Z8 K C "ride_by_name":=Z.na _ (by simp[fields]);have htl:l≠t:=ne_of hl ht (by intro z;cases z);have hdPt:dP≠t:=ne_of hkP ht (by intro z;cases z);have fl1:(putF "rides" (.ref l) fs).length<=21:=by have:=Yr "rides" (V.ref l) fs;omega
 refine⟨_,Zf (JN (pv 0) (pv 1) rfl) (Zf (JN (pv 0) JC rfl) (Zi (XJ PassesOwn.leaving rfl (Uo rfl he (Zb (pv 1) Zc) Mq) (XM rfl (Zz (Zt (i:=2) PV.nd rfl (aJ rfl)) (Zz (Zt (i:=3) PV.nd rfl (aJ rfl)) Yd))) (Zf (Y7 (Jo CR Z1 hr3 rfl (Zb Zn (Zb (pv 2) (Zb (PZ (Z2 CB hr3 rfl (Zb Zn (Zb (pv 3) (Zb (ZG (pv 0) rfl) Zc)))) (XN (Z2 CW hr rfl (Zb (pv 0) (Zb (pv 3) Zc))))) Zc))))) (Zi (Mi (VP hr) (ZG (pv 0) rfl) (Yk Yb (pv 3) Zd (λ_ _=>rfl)) (pv 3) rfl)))))),?_⟩;try dsimp only[cxOf,Cx.nox]
 refine⟨_,rfl,_,rfl,t,C,dx,_,rfl,ht,Z.cl,nP,by omega,?_⟩;have s1:Zh t H (upd H t (.ins C dx (putF "rides" (.ref l) fs))):=(Zh.refl t H).upd;have t1:upd H t (.ins C dx (putF "rides" (.ref l) fs)) t=some (.ins C dx (putF "rides" (.ref l) fs)):=Ze;have fr1:∀c,upd H t (.ins C dx (putF "rides" (.ref l) fs)) c=none->H c=none/\c≠t:=λc e=>by
  by_cases h:c=t
  ·rw[h,Ze]at e;cases e
  ·rw[Zj h]at e;exact⟨e,h⟩
 generalize upd H t (.ins C dx (putF "rides" (.ref l) fs))=H1 at s1 t1 fr1 ⊢;refine λd hd=>⟨_,rfl,t,C,dx,_,rfl,(by rw[Zj (Zk t1 hd)];exact t1),Z.cl,nR,by omega,?_⟩;obtain⟨hd0,hdt⟩:=fr1 d hd;have s2:Zh t H (upd (upd H1 d (.dK [])) t (.ins C dx (putF "ride_by_name" (.ref d) (putF "rides" (.ref l) fs)))):=λc o h hc=>by rw[Zj hc,Zj (λz=>by rw[z,hd0]at h;cases h)];exact s1 c o h hc
 have t2:upd (upd H1 d (.dK [])) t (.ins C dx (putF "ride_by_name" (.ref d) (putF "rides" (.ref l) fs))) t=some (.ins C dx (putF "ride_by_name" (.ref d) (putF "rides" (.ref l) fs))):=Ze;have d2:upd (upd H1 d (.dK [])) t (.ins C dx (putF "ride_by_name" (.ref d) (putF "rides" (.ref l) fs))) d=some (.dK []):=by rw[Zj hdt,Ze]
 have lk:(putF "ride_by_name" (.ref d) (putF "rides" (.ref l) fs)).lookup ("ride_by_name":Str)=some (.ref d):=by rw[Zo,if_pos rfl]
 have lkP:(putF "ride_by_name" (.ref d) (putF "rides" (.ref l) fs)).lookup ("room_by_place":Str)=some (.ref dP):=by rw[Zo,if_neg (by decide +kernel),Zo,if_neg (by decide +kernel)];exact hdP
 have lkT:(putF "ride_by_name" (.ref d) (putF "rides" (.ref l) fs)).lookup ("turns":Str)=some (.int nT):=by rw[Zo,if_neg (by decide +kernel),Zo,if_neg (by decide +kernel)];exact hnT
 have lkO:∀g,g∉fields->(putF "ride_by_name" (.ref d) (putF "rides" (.ref l) fs)).lookup g=none:=λg hg=>by rw[Zo,if_neg (λz=>hg (by rw[z];simp[fields])),Zo,if_neg (λz=>hg (by rw[z];simp[fields]))];exact honly g hg
 have hFin:∀kvs,(∀H' d,Zh t H H'->H d=none->d≠t->H' d=some (.dK kvs)->H' t=some (.ins C dx (putF "ride_by_name" (.ref d) (putF "rides" (.ref l) fs)))->Q .non H')->∀H',Zh t H H'->H' d=some (.dK kvs)->H' t=some (.ins C dx (putF "ride_by_name" (.ref d) (putF "rides" (.ref l) fs)))->Q .non H':=λkvs kf H' h1 h2 h3=>kf H' d h1 hd0 hdt h2 h3;generalize hF2:putF "ride_by_name" (.ref d) (putF "rides" (.ref l) fs)=F2 at s2 t2 d2 lk lkP lkT lkO ⊢;generalize upd (upd H1 d (.dK [])) t (.ins C dx F2)=H2 at s2 t2 d2 ⊢;have kk:∀res,Yt false 6 (Vg kvsP nT) 0 [] (xs.zip rs)=res->(match res with
 |.inl (i,why)=>∀H1,Zh t H H1->Bad Cb (.str "rides") (.int i) why H1 E
 |.inr kvs=>∀H',Zh t H H'->H' d=some (.dK kvs)->H' t=some (.ins C dx F2)->Q .non H'):=λres e=>by
   rw[e]at k;cases res with
  |inl p=>exact k
  |inr kvs=>exact λH' h1 h2 h3=>hFin kvs k H' h1 h2 (by rw[hF2];exact h3)
 clear k;refine⟨_,rfl,l,xs,rfl,s2 _ _ hl htl,Vm (J:=Iten l) xs.length (λi σ H'=>∃(kvs:List (Key×V))(v2 v3:Option V),σ=[some (.ref t),some (.ref l),v2,v3]/\Zh t H H'/\H' t=some (.ins C dx F2)/\H' d=some (.dK kvs)/\Yt false 6 (Vg kvsP nT) 0 [] (xs.zip rs)=Yt false 6 (Vg kvsP nT) i kvs ((xs.zip rs).drop i)/\kvs.length<=i) ⟨[],none,none,rfl,s2,t2,d2,rfl,aj _⟩ (λi σ H' hi p=>?_) (λσ H' p=>?_) (λi σ H' x H'' hi p yl=>?_) (λσ H' p=>?_)⟩
 ·obtain⟨kvs,v2,v3,rfl,sm,_⟩:=p;exact⟨xs,sm _ _ hl htl,hi⟩
 ·obtain⟨kvs,v2,v3,rfl,sm,_⟩:=p;exact⟨xs,sm _ _ hl htl,rfl⟩
 ·obtain⟨kvs,v2,v3,rfl,sm,tt,dd,hgo,hkl⟩:=p;obtain⟨Tt,xs',y,hT,e1,hy,rfl,rfl⟩:=yl;rw[sm _ _ hl htl]at e1;cases e1;have hi':i<rs.length:=by rw[<-hrows.1];exact hi
  have hr0:rs[i]?=some rs[i]:=gE hi';have hzl:i<(xs.zip rs).length:=by rw[cg];omega
  have hyx:xs[i]=y:=by rw[gE hi]at hy;exact aH hy
  have hdrop:(xs.zip rs).drop i=(y,rs[i])::(xs.zip rs).drop (i+1):=by rw[bS hzl,List.getElem_zip,hyx]
  have hrow0:=hrows.2 i y rs[i] hy hr0;generalize rs[i]=r at hr0 hdrop hrow0;have sm3:Zh t H (upd H' Tt (.tup [.int i,y])):=λc o h hc=>by rw[Zj (Zk (sm c o h hc) hT)];exact sm c o h hc
  have t3:upd H' Tt (.tup [.int i,y]) t=some (.ins C dx F2):=by rw[Zj (Zk tt hT)];exact tt
  have d3:upd H' Tt (.tup [.int i,y]) d=some (.dK kvs):=by rw[Zj (Zk dd hT)];exact dd
  refine⟨Tt,_,rfl,SqT.of Ze,rfl,_,_,rfl,_,_,rfl,rfl,?_⟩;generalize upd H' Tt (.tup [.int i,y])=H3 at sm3 t3 d3 ⊢;have hrow3:Row H3 y r:=hrow0.sameB ht sm3;refine⟨_,rfl,_,rfl,_,rfl,t,C,dx,_,_,rfl,t3,Z.cl,nR,lk,"rides",6,y,r,d,kvs,rfl,by simp[MY],hrow3,d3,λH4 sm34=>⟨_,(Mr _ _ _ _).tru,?_⟩⟩;have sm4:Zh t H H4:=sm3.trans (Zh.of sm34);have t4:=sm34 _ _ t3;have d4:=sm34 _ _ d3;have eg:decide ((("rides":Str))="groups")=false:=by decide +kernel
  rw[eg];rw[hdrop]at hgo;by_cases hb:begR false 6 kvs r=.non
  ·rw[hb];refine iteF ?_;obtain⟨ys,n,rfl,hyl,hyn⟩:=Vt hb;obtain⟨q,rfl,hq,hqx⟩:=hrow3;have hq4:=sm34 _ _ hq;have hnm:nameOf ys=n:=by unfold nameOf;rw[hyn]
   have hstep:=Gu (why:=Vg kvsP nT) (i:=i) (x:=.ref q) (rs:=(xs.zip rs).drop (i+1)) hb;rw[hnm]at hstep;obtain⟨x0,x1,x2,x3,x4,x5,rfl⟩:=len6 hyl;have hx0:x0=.str n:=hyn;subst hx0;have tb4:Tab H4 C t F2:=⟨⟨dx,t4⟩,lkO⟩;refine⟨_,rfl,_,rfl,t,q,.str n,x1,x2,x3,x4,x5,F2,dP,kvsP,nT,rfl,tb4,lkP,lkT,sm34 _ _ (sm3 _ _ hkP hdPt),hq4,λx hx=>(let ⟨T,th⟩:=hqx x hx;⟨T,th.same sm34⟩),?_⟩;by_cases hw:Vg kvsP nT [.str n,x1,x2,x3,x4,x5]=.non
   ·refine⟨_,_,_,rfl,.inl ⟨hw,?_⟩⟩;refine⟨_,rfl,_,rfl,t,C,dx,_,_,rfl,t4,Z.cl,nR,lk,_,rfl,q,_,0,.str n,rfl,rfl,SqT.of hq4,at0 0 rfl,d,_,rfl,DPut.k (k:=cv n) d4 (XH (by omega)),?_⟩;refine⟨putK kvs (.inr n) (.ref q),_,_,rfl,λc o h hc=>?_,(by rw[Zj (bL hdt)];exact t4),Ze,?_,?_⟩
    ·rw[Zj (λz=>by rw[z,hd0]at h;cases h)];exact sm4 c o h hc
    ·rw[hgo,hstep,if_neg (λz=>z hw)]
    ·have:=Y3 kvs (cv n) (V.ref q);omega
   ·refine⟨_,_,_,rfl,.inr ⟨hw,?_⟩⟩;exact kk (.inl (i,Vg kvsP nT [.str n,x1,x2,x3,x4,x5])) (by rw[hgo,hstep,if_pos hw]) H4 sm4
  ·rw[decide_eq_true hb];refine iteT ?_;refine⟨_,_,_,rfl,.inr ⟨hb,?_⟩⟩;exact kk (.inl (i,begR false 6 kvs r)) (by rw[hgo,MQ hb]) H4 sm4
 ·obtain⟨kvs,v2,v3,rfl,sm,tt,dd,hgo,hkl⟩:=p;have hd':(xs.zip rs).drop xs.length=[]:=List.drop_eq_nil_iff.mpr (by rw[cg];omega);rw[hd',Yt]at hgo;exact kk (.inr kvs) hgo H' sm dd tt
def SO(C Cb:ae):Sp:=λvs H Q E=>∃(t l dx dP:ae)(xs:List V)(rs:List (Option (List V)))(fs:List (Str×V))(kvsP:List (Key×V))(nT:Int),vs=[.ref t,.ref l]/\H t=some (.ins C dx fs)/\(∀g,g∉fields->fs.lookup g=none)/\fs.length<=20 /\fs.lookup ("room_by_place":Str)=some (.ref dP)/\H dP=some (.dK kvsP)/\fs.lookup ("turns":Str)=some (.int nT)/\H l=some (.tup xs)/\xs.length<=1000/\ZU H xs rs /\match Yt false 5 (wayW kvsP) 0 [] (xs.zip rs)with
|.inl (i,why)=>∀H1,Zh t H H1->Bad Cb (.str "ways") (.int i) why H1 E
|.inr kvs=>∀H' d,Zh t H H'->H d=none->d≠t->H' d=some (.dK kvs)->H' t=some (.ins C dx (putF "way_by_name" (.ref d) (putF "ways" (.ref l) fs)))->Q .non H'
theorem PU:FnScope ["self","ways","at","row"] ["self","ways"] (Zg T.m_Table_take_ways):=scO (by decide +kernel)
theorem WL(Z:TCl K C)(he:mg "enumerate"=none)(D:DfM K C "take_ways" "Table.take_ways" T.m_Table_take_ways ["self","ways"])(CB:Can P w K mg base 3 "wrong_beginning" ["part","row","names_ahead"] Va)(CW:Can P w K mg base 5 "wrong_way" ["table","row"] (Dr C))(CR:CanX P w K mg base 3 "refuse_row" ["part","at","why"] (Vb Cb)):CanM P w K mg base (CX1 P w) 6 C "take_ways" ["self","ways"] (SO C Cb):=by
 refine D.cnX PU λf cdv A outer s H vs Q E hr h=>?_;obtain⟨t,l,dx,dP,xs,rs,fs,kvsP,nT,rfl,ht,honly,hfs,hdP,hkP,hnT,hl,hlen,hrows,k⟩:=h;have hr3:=hr.mono (by decide:3<=5);have nP:Z8 K C "ways":=Z.na _ (by simp[fields]);have nR:Z8 K C "way_by_name":=Z.na _ (by simp[fields]);have htl:l≠t:=ne_of hl ht (by intro z;cases z);have hdPt:dP≠t:=ne_of hkP ht (by intro z;cases z);have fl1:(putF "ways" (.ref l) fs).length<=21:=by have:=Yr "ways" (V.ref l) fs;omega
 refine⟨_,Zf (JN (pv 0) (pv 1) rfl) (Zf (JN (pv 0) JC rfl) (Zi (XJ PassesOwn.leaving rfl (Uo rfl he (Zb (pv 1) Zc) Mq) (XM rfl (Zz (Zt (i:=2) PU.nd rfl (aJ rfl)) (Zz (Zt (i:=3) PU.nd rfl (aJ rfl)) Yd))) (Zf (Y7 (Jo CR Z1 hr3 rfl (Zb Zn (Zb (pv 2) (Zb (PZ (Z2 CB hr3 rfl (Zb Zn (Zb (pv 3) (Zb (ZG (pv 0) rfl) Zc)))) (XN (Z2 CW hr rfl (Zb (pv 0) (Zb (pv 3) Zc))))) Zc))))) (Zi (Mi (VP hr) (ZG (pv 0) rfl) (Yk Yb (pv 3) Zd (λ_ _=>rfl)) (pv 3) rfl)))))),?_⟩;try dsimp only[cxOf,Cx.nox]
 refine⟨_,rfl,_,rfl,t,C,dx,_,rfl,ht,Z.cl,nP,by omega,?_⟩;have s1:Zh t H (upd H t (.ins C dx (putF "ways" (.ref l) fs))):=(Zh.refl t H).upd;have t1:upd H t (.ins C dx (putF "ways" (.ref l) fs)) t=some (.ins C dx (putF "ways" (.ref l) fs)):=Ze;have fr1:∀c,upd H t (.ins C dx (putF "ways" (.ref l) fs)) c=none->H c=none/\c≠t:=λc e=>by
  by_cases h:c=t
  ·rw[h,Ze]at e;cases e
  ·rw[Zj h]at e;exact⟨e,h⟩
 generalize upd H t (.ins C dx (putF "ways" (.ref l) fs))=H1 at s1 t1 fr1 ⊢;refine λd hd=>⟨_,rfl,t,C,dx,_,rfl,(by rw[Zj (Zk t1 hd)];exact t1),Z.cl,nR,by omega,?_⟩;obtain⟨hd0,hdt⟩:=fr1 d hd;have s2:Zh t H (upd (upd H1 d (.dK [])) t (.ins C dx (putF "way_by_name" (.ref d) (putF "ways" (.ref l) fs)))):=λc o h hc=>by rw[Zj hc,Zj (λz=>by rw[z,hd0]at h;cases h)];exact s1 c o h hc
 have t2:upd (upd H1 d (.dK [])) t (.ins C dx (putF "way_by_name" (.ref d) (putF "ways" (.ref l) fs))) t=some (.ins C dx (putF "way_by_name" (.ref d) (putF "ways" (.ref l) fs))):=Ze;have d2:upd (upd H1 d (.dK [])) t (.ins C dx (putF "way_by_name" (.ref d) (putF "ways" (.ref l) fs))) d=some (.dK []):=by rw[Zj hdt,Ze]
 have lk:(putF "way_by_name" (.ref d) (putF "ways" (.ref l) fs)).lookup ("way_by_name":Str)=some (.ref d):=by rw[Zo,if_pos rfl]
 have lkP:(putF "way_by_name" (.ref d) (putF "ways" (.ref l) fs)).lookup ("room_by_place":Str)=some (.ref dP):=by rw[Zo,if_neg (by decide +kernel),Zo,if_neg (by decide +kernel)];exact hdP
 have lkT:(putF "way_by_name" (.ref d) (putF "ways" (.ref l) fs)).lookup ("turns":Str)=some (.int nT):=by rw[Zo,if_neg (by decide +kernel),Zo,if_neg (by decide +kernel)];exact hnT
 have lkO:∀g,g∉fields->(putF "way_by_name" (.ref d) (putF "ways" (.ref l) fs)).lookup g=none:=λg hg=>by rw[Zo,if_neg (λz=>hg (by rw[z];simp[fields])),Zo,if_neg (λz=>hg (by rw[z];simp[fields]))];exact honly g hg
 have hFin:∀kvs,(∀H' d,Zh t H H'->H d=none->d≠t->H' d=some (.dK kvs)->H' t=some (.ins C dx (putF "way_by_name" (.ref d) (putF "ways" (.ref l) fs)))->Q .non H')->∀H',Zh t H H'->H' d=some (.dK kvs)->H' t=some (.ins C dx (putF "way_by_name" (.ref d) (putF "ways" (.ref l) fs)))->Q .non H':=λkvs kf H' h1 h2 h3=>kf H' d h1 hd0 hdt h2 h3;generalize hF2:putF "way_by_name" (.ref d) (putF "ways" (.ref l) fs)=F2 at s2 t2 d2 lk lkP lkT lkO ⊢;generalize upd (upd H1 d (.dK [])) t (.ins C dx F2)=H2 at s2 t2 d2 ⊢;have kk:∀res,Yt false 5 (wayW kvsP) 0 [] (xs.zip rs)=res->(match res with
 |.inl (i,why)=>∀H1,Zh t H H1->Bad Cb (.str "ways") (.int i) why H1 E
 |.inr kvs=>∀H',Zh t H H'->H' d=some (.dK kvs)->H' t=some (.ins C dx F2)->Q .non H'):=λres e=>by
   rw[e]at k;cases res with
  |inl p=>exact k
  |inr kvs=>exact λH' h1 h2 h3=>hFin kvs k H' h1 h2 (by rw[hF2];exact h3)
 clear k;refine⟨_,rfl,l,xs,rfl,s2 _ _ hl htl,Vm (J:=Iten l) xs.length (λi σ H'=>∃(kvs:List (Key×V))(v2 v3:Option V),σ=[some (.ref t),some (.ref l),v2,v3]/\Zh t H H'/\H' t=some (.ins C dx F2)/\H' d=some (.dK kvs)/\Yt false 5 (wayW kvsP) 0 [] (xs.zip rs)=Yt false 5 (wayW kvsP) i kvs ((xs.zip rs).drop i)/\kvs.length<=i) ⟨[],none,none,rfl,s2,t2,d2,rfl,aj _⟩ (λi σ H' hi p=>?_) (λσ H' p=>?_) (λi σ H' x H'' hi p yl=>?_) (λσ H' p=>?_)⟩
 ·obtain⟨kvs,v2,v3,rfl,sm,_⟩:=p;exact⟨xs,sm _ _ hl htl,hi⟩
 ·obtain⟨kvs,v2,v3,rfl,sm,_⟩:=p;exact⟨xs,sm _ _ hl htl,rfl⟩
 ·obtain⟨kvs,v2,v3,rfl,sm,tt,dd,hgo,hkl⟩:=p;obtain⟨Tt,xs',y,hT,e1,hy,rfl,rfl⟩:=yl;rw[sm _ _ hl htl]at e1;cases e1;have hi':i<rs.length:=by rw[<-hrows.1];exact hi
  have hr0:rs[i]?=some rs[i]:=gE hi';have hzl:i<(xs.zip rs).length:=by rw[cg];omega
  have hyx:xs[i]=y:=by rw[gE hi]at hy;exact aH hy
  have hdrop:(xs.zip rs).drop i=(y,rs[i])::(xs.zip rs).drop (i+1):=by rw[bS hzl,List.getElem_zip,hyx]
  have hrow0:=hrows.2 i y rs[i] hy hr0;generalize rs[i]=r at hr0 hdrop hrow0;have sm3:Zh t H (upd H' Tt (.tup [.int i,y])):=λc o h hc=>by rw[Zj (Zk (sm c o h hc) hT)];exact sm c o h hc
  have t3:upd H' Tt (.tup [.int i,y]) t=some (.ins C dx F2):=by rw[Zj (Zk tt hT)];exact tt
  have d3:upd H' Tt (.tup [.int i,y]) d=some (.dK kvs):=by rw[Zj (Zk dd hT)];exact dd
  refine⟨Tt,_,rfl,SqT.of Ze,rfl,_,_,rfl,_,_,rfl,rfl,?_⟩;generalize upd H' Tt (.tup [.int i,y])=H3 at sm3 t3 d3 ⊢;have hrow3:Row H3 y r:=hrow0.sameB ht sm3;refine⟨_,rfl,_,rfl,_,rfl,t,C,dx,_,_,rfl,t3,Z.cl,nR,lk,"ways",5,y,r,d,kvs,rfl,by simp[MY],hrow3,d3,λH4 sm34=>⟨_,(Mr _ _ _ _).tru,?_⟩⟩;have sm4:Zh t H H4:=sm3.trans (Zh.of sm34);have t4:=sm34 _ _ t3;have d4:=sm34 _ _ d3;have eg:decide ((("ways":Str))="groups")=false:=by decide +kernel
  rw[eg];rw[hdrop]at hgo;by_cases hb:begR false 5 kvs r=.non
  ·rw[hb];refine iteF ?_;obtain⟨ys,n,rfl,hyl,hyn⟩:=Vt hb;obtain⟨q,rfl,hq,hqx⟩:=hrow3;have hq4:=sm34 _ _ hq;have hnm:nameOf ys=n:=by unfold nameOf;rw[hyn]
   have hstep:=Gu (why:=wayW kvsP) (i:=i) (x:=.ref q) (rs:=(xs.zip rs).drop (i+1)) hb;rw[hnm]at hstep;obtain⟨x0,x1,x2,x3,x4,rfl⟩:=len5 hyl;have hx0:x0=.str n:=hyn;subst hx0;have tb4:Tab H4 C t F2:=⟨⟨dx,t4⟩,lkO⟩;refine⟨_,rfl,_,rfl,t,q,.str n,x1,x2,x3,x4,F2,dP,kvsP,rfl,tb4,lkP,sm34 _ _ (sm3 _ _ hkP hdPt),hq4,λx hx=>(let ⟨T,th⟩:=hqx x hx;⟨T,th.same sm34⟩),?_⟩;by_cases hw:wayW kvsP [.str n,x1,x2,x3,x4]=.non
   ·refine⟨_,_,_,rfl,.inl ⟨hw,?_⟩⟩;refine⟨_,rfl,_,rfl,t,C,dx,_,_,rfl,t4,Z.cl,nR,lk,_,rfl,q,_,0,.str n,rfl,rfl,SqT.of hq4,at0 0 rfl,d,_,rfl,DPut.k (k:=cv n) d4 (XH (by omega)),?_⟩;refine⟨putK kvs (.inr n) (.ref q),_,_,rfl,λc o h hc=>?_,(by rw[Zj (bL hdt)];exact t4),Ze,?_,?_⟩
    ·rw[Zj (λz=>by rw[z,hd0]at h;cases h)];exact sm4 c o h hc
    ·rw[hgo,hstep,if_neg (λz=>z hw)]
    ·have:=Y3 kvs (cv n) (V.ref q);omega
   ·refine⟨_,_,_,rfl,.inr ⟨hw,?_⟩⟩;exact kk (.inl (i,wayW kvsP [.str n,x1,x2,x3,x4])) (by rw[hgo,hstep,if_pos hw]) H4 sm4
  ·rw[decide_eq_true hb];refine iteT ?_;refine⟨_,_,_,rfl,.inr ⟨hb,?_⟩⟩;exact kk (.inl (i,begR false 5 kvs r)) (by rw[hgo,MQ hb]) H4 sm4
 ·obtain⟨kvs,v2,v3,rfl,sm,tt,dd,hgo,hkl⟩:=p;have hd':(xs.zip rs).drop xs.length=[]:=List.drop_eq_nil_iff.mpr (by rw[cg];omega);rw[hd',Yt]at hgo;exact kk (.inr kvs) hgo H' sm dd tt
end
noncomputable def JS(kvs:List (Key×V))(n pp:Int)(ys:List V):V:=YE kvs n pp (at_ ys 1) (at_ ys 2) (at_ ys 3)
noncomputable def ZQ(ys:List V):Int:=match ys.getD 3 .non with
|.int i=>i
|_=>0
noncomputable def Ym(kvsP:List (Key×V))(nT:Int):Nat->Int->List (Key×V)->List (V×Option (List V))->Sum (Nat×V) (List (Key×V))
|_,_,kvs,[]=>.inr kvs
|i,pp,kvs,(x,r)::rs=>
  if begR true 4 kvs r≠.non then .inl (i,begR true 4 kvs r)else match r with
  |some ys=>if JS kvsP nT pp ys≠.non then .inl (i,JS kvsP nT pp ys)else Ym kvsP nT (i+1) (pp+ZQ ys) (putK kvs (.inr (nameOf ys)) x) rs
  |none=>.inl (i,.str "form")
section
variable {kvsP:List (Key×V)}{nT pp:Int}{i:Nat}{kvs:List (Key×V)}{x:V}{rs:List (V×Option (List V))}
theorem RW{r:Option (List V)}(h:begR true 4 kvs r≠.non):Ym kvsP nT i pp kvs ((x,r)::rs)=.inl (i,begR true 4 kvs r):=by unfold Ym;rw[if_pos h]
theorem GZ{ys:List V}(h:begR true 4 kvs (some ys)=.non):Ym kvsP nT i pp kvs ((x,some ys)::rs)=if JS kvsP nT pp ys≠.non then .inl (i,JS kvsP nT pp ys)else Ym kvsP nT (i+1) (pp+ZQ ys) (putK kvs (.inr (nameOf ys)) x) rs:=by
 conv=>lhs;unfold Ym
 rw[if_neg (λz=>z h)]
theorem Ww{n x1 x2 x3:V}(h:JS kvsP nT pp [n,x1,x2,x3]=.non):∃i,x3=.int i:=by
 have h':YE kvsP nT pp x1 x2 x3=.non:=h;unfold YE at h';split at h'
 ·cases h'
 ·split at h'
  ·cases h'
  ·cases x3 with
  |int i=>exact⟨i,rfl⟩
  |_=>cases h'
end
section
variable {P:aA}{w:aI}{K:aa}{mg:Str->Option ac}{base:aX}{C Cb:ae}
def SS(C Cb:ae):Sp:=λvs H Q E=>∃(t l dx dP:ae)(xs:List V)(rs:List (Option (List V)))(fs:List (Str×V))(kvsP:List (Key×V))(nT:Int),vs=[.ref t,.ref l]/\H t=some (.ins C dx fs)/\(∀g,g∉fields->fs.lookup g=none)/\fs.length<=20 /\fs.lookup ("room_by_place":Str)=some (.ref dP)/\H dP=some (.dK kvsP)/\fs.lookup ("turns":Str)=some (.int nT)/\H l=some (.tup xs)/\xs.length<=1000/\ZU H xs rs /\match Ym kvsP nT 0 0 [] (xs.zip rs)with
|.inl (i,why)=>∀H1,Zh t H H1->Bad Cb (.str "groups") (.int i) why H1 E
|.inr kvs=>∀H' d,Zh t H H'->H d=none->d≠t->H' d=some (.dK kvs)->H' t=some (.ins C dx (putF "group_by_name" (.ref d) (putF "groups" (.ref l) fs)))->Q .non H'
theorem Vz:FnScope ["self","groups","people","at","row","why"] ["self","groups"] (Zg T.m_Table_take_groups):=scO (by decide +kernel)
theorem WO(Z:TCl K C)(he:mg "enumerate"=none)(D:DfM K C "take_groups" "Table.take_groups" T.m_Table_take_groups ["self","groups"])(CB:Can P w K mg base 3 "wrong_beginning" ["part","row","names_ahead"] Va)(CW:Can P w K mg base 3 "wrong_group" ["table","row","people_ahead"] (ST C))(CR:CanX P w K mg base 3 "refuse_row" ["part","at","why"] (Vb Cb)):CanM P w K mg base (CX1 P w) 4 C "take_groups" ["self","groups"] (SS C Cb):=by
 refine D.cnX Vz λf cdv A outer s H vs Q E hr h=>?_;obtain⟨t,l,dx,dP,xs,rs,fs,kvsP,nT,rfl,ht,honly,hfs,hdP,hkP,hnT,hl,hlen,hrows,k⟩:=h;have nP:Z8 K C "groups":=Z.na _ (by simp[fields]);have nR:Z8 K C "group_by_name":=Z.na _ (by simp[fields]);have htl:l≠t:=ne_of hl ht (by intro z;cases z);have hdPt:dP≠t:=ne_of hkP ht (by intro z;cases z);have fl1:(putF "groups" (.ref l) fs).length<=21:=by have:=Yr "groups" (V.ref l) fs;omega
 refine⟨_,Zf (JN (pv 0) (pv 1) rfl) (Zf (JN (pv 0) JC rfl) (Zf (ZM (i:=2) Vz.nd rfl (aJ rfl) Zd) (Zi (XJ PassesOwn.leaving rfl (Uo rfl he (Zb (pv 1) Zc) Mq) (XM rfl (Zz (Zt (i:=3) Vz.nd rfl (aJ rfl)) (Zz (Zt (i:=4) Vz.nd rfl (aJ rfl)) Yd))) (Zf (ZM (i:=5) Vz.nd rfl (aJ rfl) (PZ (Z2 CB hr rfl (Zb Zn (Zb (pv 4) (Zb (ZG (pv 0) rfl) Zc)))) (XN (Z2 CW hr rfl (Zb (pv 0) (Zb (pv 4) (Zb (pv 2) Zc))))))) (Zf (Y7 (Jo CR Z1 hr rfl (Zb Zn (Zb (pv 3) (Zb (pv 5) Zc))))) (Zf (Mi (VP hr) (ZG (pv 0) rfl) (Yk Yb (pv 4) Zd (λ_ _=>rfl)) (pv 4) rfl) (Zi (ZM (i:=2) Vz.nd rfl (aJ rfl) (Zy Z0 (pv 2) (Yk Yb (pv 4) Zd (λ_ _=>rfl)))))))))))),?_⟩;try dsimp only[cxOf,Cx.nox]
 refine⟨_,rfl,_,rfl,t,C,dx,_,rfl,ht,Z.cl,nP,by omega,?_⟩;have s1:Zh t H (upd H t (.ins C dx (putF "groups" (.ref l) fs))):=(Zh.refl t H).upd;have t1:upd H t (.ins C dx (putF "groups" (.ref l) fs)) t=some (.ins C dx (putF "groups" (.ref l) fs)):=Ze;have fr1:∀c,upd H t (.ins C dx (putF "groups" (.ref l) fs)) c=none->H c=none/\c≠t:=λc e=>by
  by_cases h:c=t
  ·rw[h,Ze]at e;cases e
  ·rw[Zj h]at e;exact⟨e,h⟩
 generalize upd H t (.ins C dx (putF "groups" (.ref l) fs))=H1 at s1 t1 fr1 ⊢;refine λd hd=>⟨_,rfl,t,C,dx,_,rfl,(by rw[Zj (Zk t1 hd)];exact t1),Z.cl,nR,by omega,?_⟩;obtain⟨hd0,hdt⟩:=fr1 d hd;have s2:Zh t H (upd (upd H1 d (.dK [])) t (.ins C dx (putF "group_by_name" (.ref d) (putF "groups" (.ref l) fs)))):=λc o h hc=>by rw[Zj hc,Zj (λz=>by rw[z,hd0]at h;cases h)];exact s1 c o h hc
 have t2:upd (upd H1 d (.dK [])) t (.ins C dx (putF "group_by_name" (.ref d) (putF "groups" (.ref l) fs))) t=some (.ins C dx (putF "group_by_name" (.ref d) (putF "groups" (.ref l) fs))):=Ze;have d2:upd (upd H1 d (.dK [])) t (.ins C dx (putF "group_by_name" (.ref d) (putF "groups" (.ref l) fs))) d=some (.dK []):=by rw[Zj hdt,Ze]
 have lk:(putF "group_by_name" (.ref d) (putF "groups" (.ref l) fs)).lookup ("group_by_name":Str)=some (.ref d):=by rw[Zo,if_pos rfl]
 have lkP:(putF "group_by_name" (.ref d) (putF "groups" (.ref l) fs)).lookup ("room_by_place":Str)=some (.ref dP):=by rw[Zo,if_neg (by decide +kernel),Zo,if_neg (by decide +kernel)];exact hdP
 have lkT:(putF "group_by_name" (.ref d) (putF "groups" (.ref l) fs)).lookup ("turns":Str)=some (.int nT):=by rw[Zo,if_neg (by decide +kernel),Zo,if_neg (by decide +kernel)];exact hnT
 have lkO:∀g,g∉fields->(putF "group_by_name" (.ref d) (putF "groups" (.ref l) fs)).lookup g=none:=λg hg=>by rw[Zo,if_neg (λz=>hg (by rw[z];simp[fields])),Zo,if_neg (λz=>hg (by rw[z];simp[fields]))];exact honly g hg
 have hFin:∀kvs,(∀H' d,Zh t H H'->H d=none->d≠t->H' d=some (.dK kvs)->H' t=some (.ins C dx (putF "group_by_name" (.ref d) (putF "groups" (.ref l) fs)))->Q .non H')->∀H',Zh t H H'->H' d=some (.dK kvs)->H' t=some (.ins C dx (putF "group_by_name" (.ref d) (putF "groups" (.ref l) fs)))->Q .non H':=λkvs kf H' h1 h2 h3=>kf H' d h1 hd0 hdt h2 h3;generalize hF2:putF "group_by_name" (.ref d) (putF "groups" (.ref l) fs)=F2 at s2 t2 d2 lk lkP lkT lkO ⊢;generalize upd (upd H1 d (.dK [])) t (.ins C dx F2)=H2 at s2 t2 d2 ⊢;have kk:∀res,Ym kvsP nT 0 0 [] (xs.zip rs)=res->(match res with
 |.inl (i,why)=>∀H1,Zh t H H1->Bad Cb (.str "groups") (.int i) why H1 E
 |.inr kvs=>∀H',Zh t H H'->H' d=some (.dK kvs)->H' t=some (.ins C dx F2)->Q .non H'):=λres e=>by
   rw[e]at k;cases res with
  |inl p=>exact k
  |inr kvs=>exact λH' h1 h2 h3=>hFin kvs k H' h1 h2 (by rw[hF2];exact h3)
 clear k;refine⟨_,rfl,l,xs,rfl,s2 _ _ hl htl,Vm (J:=Iten l) xs.length (λi σ H'=>∃(kvs:List (Key×V))(pp:Int)(v3 v4 v5:Option V),σ=[some (.ref t),some (.ref l),some (.int pp),v3,v4,v5]/\Zh t H H'/\H' t=some (.ins C dx F2)/\H' d=some (.dK kvs)/\Ym kvsP nT 0 0 [] (xs.zip rs)=Ym kvsP nT i pp kvs ((xs.zip rs).drop i)/\kvs.length<=i) ⟨[],0,none,none,none,rfl,s2,t2,d2,rfl,aj _⟩ (λi σ H' hi p=>?_) (λσ H' p=>?_) (λi σ H' x H'' hi p yl=>?_) (λσ H' p=>?_)⟩
 ·obtain⟨kvs,pp,v3,v4,v5,rfl,sm,_⟩:=p;exact⟨xs,sm _ _ hl htl,hi⟩
 ·obtain⟨kvs,pp,v3,v4,v5,rfl,sm,_⟩:=p;exact⟨xs,sm _ _ hl htl,rfl⟩
 ·obtain⟨kvs,pp,v3,v4,v5,rfl,sm,tt,dd,hgo,hkl⟩:=p;obtain⟨Tt,xs',y,hT,e1,hy,rfl,rfl⟩:=yl;rw[sm _ _ hl htl]at e1;cases e1;have hi':i<rs.length:=by rw[<-hrows.1];exact hi
  have hr0:rs[i]?=some rs[i]:=gE hi';have hzl:i<(xs.zip rs).length:=by rw[cg];omega
  have hyx:xs[i]=y:=by rw[gE hi]at hy;exact aH hy
  have hdrop:(xs.zip rs).drop i=(y,rs[i])::(xs.zip rs).drop (i+1):=by rw[bS hzl,List.getElem_zip,hyx]
  have hrow0:=hrows.2 i y rs[i] hy hr0;generalize rs[i]=r at hr0 hdrop hrow0;have sm3:Zh t H (upd H' Tt (.tup [.int i,y])):=λc o h hc=>by rw[Zj (Zk (sm c o h hc) hT)];exact sm c o h hc
  have t3:upd H' Tt (.tup [.int i,y]) t=some (.ins C dx F2):=by rw[Zj (Zk tt hT)];exact tt
  have d3:upd H' Tt (.tup [.int i,y]) d=some (.dK kvs):=by rw[Zj (Zk dd hT)];exact dd
  refine⟨Tt,_,rfl,SqT.of Ze,rfl,_,_,rfl,_,_,rfl,rfl,?_⟩;generalize upd H' Tt (.tup [.int i,y])=H3 at sm3 t3 d3 ⊢;have hrow3:Row H3 y r:=hrow0.sameB ht sm3;refine⟨_,rfl,_,rfl,t,C,dx,_,_,rfl,t3,Z.cl,nR,lk,"groups",4,y,r,d,kvs,rfl,by simp[MY],hrow3,d3,λH4 sm34=>⟨_,(Mr _ _ _ _).tru,?_⟩⟩;have sm4:Zh t H H4:=sm3.trans (Zh.of sm34);have t4:=sm34 _ _ t3;have d4:=sm34 _ _ d3;have eg:decide ((("groups":Str))="groups")=true:=by decide +kernel
  rw[eg];rw[hdrop]at hgo;by_cases hb:begR true 4 kvs r=.non
  ·rw[hb];refine iteF ?_;obtain⟨ys,n,rfl,hyl,hyn⟩:=Vt hb;obtain⟨q,rfl,hq,hqx⟩:=hrow3;have hq4:=sm34 _ _ hq;have hnm:nameOf ys=n:=by unfold nameOf;rw[hyn]
   have hstep:=GZ (kvsP:=kvsP) (nT:=nT) (pp:=pp) (i:=i) (x:=.ref q) (rs:=(xs.zip rs).drop (i+1)) hb;rw[hnm]at hstep;obtain⟨x0,x1,x2,x3,rfl⟩:=len4 hyl;have hx0:x0=.str n:=hyn;subst hx0;have tb4:Tab H4 C t F2:=⟨⟨dx,t4⟩,lkO⟩;refine⟨_,rfl,_,rfl,_,rfl,t,q,.str n,x1,x2,x3,F2,dP,kvsP,nT,pp,rfl,tb4,lkP,lkT,sm34 _ _ (sm3 _ _ hkP hdPt),hq4,λx hx=>(let ⟨T,th⟩:=hqx x hx;⟨T,th.same sm34⟩),?_⟩;refine⟨_,rfl,_,rfl,?_⟩;by_cases hw:JS kvsP nT pp [.str n,x1,x2,x3]=.non
   ·refine⟨_,_,_,rfl,.inl ⟨hw,?_⟩⟩;obtain⟨mm,rfl⟩:=Ww (n:=.str n) hw;refine⟨_,rfl,_,rfl,t,C,dx,_,_,rfl,t4,Z.cl,nR,lk,_,rfl,q,_,0,.str n,rfl,rfl,SqT.of hq4,at0 0 rfl,d,_,rfl,DPut.k (k:=cv n) d4 (XH (by omega)),?_⟩;have hqd:q≠d:=ne_of hq4 d4 (by intro z;cases z);refine⟨_,rfl,_,rfl,q,_,3,.int mm,rfl,rfl,SqT.of (by rw[Zj hqd];exact hq4),at0 3 rfl,_,_,rfl,rfl,?_⟩;refine⟨putK kvs (.inr n) (.ref q),pp+mm,_,_,_,rfl,λc o h hc=>?_,(by rw[Zj (bL hdt)];exact t4),Ze,?_,?_⟩
    ·rw[Zj (λz=>by rw[z,hd0]at h;cases h)];exact sm4 c o h hc
    ·rw[hgo,hstep,if_neg (λz=>z hw)];rfl
    ·have:=Y3 kvs (cv n) (V.ref q);omega
   ·refine⟨_,_,_,rfl,.inr ⟨hw,?_⟩⟩;exact kk (.inl (i,JS kvsP nT pp [.str n,x1,x2,x3])) (by rw[hgo,hstep,if_pos hw]) H4 sm4
  ·rw[decide_eq_true hb];refine iteT ?_;refine⟨_,rfl,_,rfl,?_⟩;refine⟨_,_,_,rfl,.inr ⟨hb,?_⟩⟩;exact kk (.inl (i,begR true 4 kvs r)) (by rw[hgo,RW hb]) H4 sm4
 ·obtain⟨kvs,pp,v3,v4,v5,rfl,sm,tt,dd,hgo,hkl⟩:=p;have hd':(xs.zip rs).drop xs.length=[]:=List.drop_eq_nil_iff.mpr (by rw[cg];omega);rw[hd',Ym]at hgo;exact kk (.inr kvs) hgo H' sm dd tt
end
noncomputable abbrev PR:=Option (List V×List (Option (List V)))
def YC(H:Hp)(v:V)(r:PR):Prop:=match r with
|none=>Part H v none
|some (xs,rs)=>Part H v (some xs)/\ZU H xs rs
theorem ZU.sameB{H H':Hp}{t C dx:ae}{fs:List (Str×V)}(ht:H t=some (.ins C dx fs))(s:Zh t H H'){xs:List V}{rs:List (Option (List V))}(h:ZU H xs rs):ZU H' xs rs:=⟨h.1,λi x r a b=>(h.2 i x r a b).sameB ht s⟩
theorem YC.sameB{H H':Hp}{t C dx:ae}{fs:List (Str×V)}(ht:H t=some (.ins C dx fs))(s:Zh t H H'){v:V}{r:PR}(h:YC H v r):YC H' v r:=by
 cases r with
|none=>obtain⟨T,th,a⟩:=h;exact⟨T,th.sameB ht s,a⟩
|some p=>
  obtain⟨xs,rs⟩:=p;obtain⟨⟨p,rfl,hp⟩,hr⟩:=h;refine⟨⟨p,rfl,?_⟩,hr.sameB ht s⟩;rcases hp with hp|hp
  ·exact .inl (s _ _ hp (ne_of hp ht (by intro z;cases z)))
  ·exact .inr (s _ _ hp (ne_of hp ht (by intro z;cases z)))
noncomputable def ZP(n:Nat)(go:List V->List (Option (List V))->Sum (Nat×V) (List (Key×V)))(r:PR):Sum (V×V) (List (Key×V)):=match r with
|none=>.inl (.non,.str "form")
|some (xs,rs)=>if xs.length>n then .inl (.int n,.str "many")else match go xs rs with
 |.inl (i,why)=>.inl (.int i,why)
 |.inr kvs=>.inr kvs
noncomputable def goP(_:List V)(rs:List (Option (List V))):Sum (Nat×V) (List (Key×V)):=Yj 0 [] rs
noncomputable def goR(k1:List (Key×V))(n:Int)(xs:List V)(rs:List (Option (List V))):Sum (Nat×V) (List (Key×V)):=Yt false 6 (Vg k1 n) 0 [] (xs.zip rs)
noncomputable def goW(k1:List (Key×V))(xs:List V)(rs:List (Option (List V))):Sum (Nat×V) (List (Key×V)):=Yt false 5 (wayW k1) 0 [] (xs.zip rs)
noncomputable def goG(k1:List (Key×V))(n:Int)(xs:List V)(rs:List (Option (List V))):Sum (Nat×V) (List (Key×V)):=Ym k1 n 0 0 [] (xs.zip rs)
noncomputable abbrev Ks:=List (Key×V)×List (Key×V)×List (Key×V)×List (Key×V)
noncomputable def named(z:Str)(r:Sum (V×V) (List (Key×V)))(k:List (Key×V)->Sum (V×V×V) Ks):Sum (V×V×V) Ks:=match r with
|.inl (a,y)=>.inl (.str z,a,y)
|.inr kvs=>k kvs
noncomputable def JY(vT:V)(r1 r2 r3 r4:PR):Sum (V×V×V) Ks:=match vT with
|.int n=>if(decide (1<=n)&&decide (n<=50))=true then named "places" (ZP 14 goP r1) λk1=>named "rides" (ZP 80 (goR k1 n) r2) λk2=>named "ways" (ZP 40 (goW k1) r3) λk3=>named "groups" (ZP 300 (goG k1 n) r4) λk4=>.inr (k1,k2,k3,k4)else .inl (.str "turns",.non,.str "number")
|_=>.inl (.str "turns",.non,.str "number")
def Z5(H:Hp)(fs:List (Str×V))(f g:Str)(r:PR)(k:List (Key×V)):Prop:=∃l d xs rs,fs.lookup f=some (.ref l)/\fs.lookup g=some (.ref d)/\r=some (xs,rs)/\H l=some (.tup xs)/\H d=some (.dK k)
structure TabOf(H:Hp)(C t:ae)(fs:List (Str×V))(n:Int)(r1 r2 r3 r4:PR)(k:Ks):Prop where
 tab:Tab H C t fs
 turns:fs.lookup ("turns":Str)=some (.int n)
 p:Z5 H fs "places" "room_by_place" r1 k.1
 r:Z5 H fs "rides" "ride_by_name" r2 k.2.1
 w:Z5 H fs "ways" "way_by_name" r3 k.2.2.1
 g:Z5 H fs "groups" "group_by_name" r4 k.2.2.2
def Py(C Cb:ae):Sp:=λvs H Q E=>∃(t dx:ae)(vT:V)(T:String)(v1 v2 v3 v4:V)(r1 r2 r3 r4:PR),vs=[.ref t,vT,v1,v2,v3,v4]/\H t=some (.ins C dx [])/\Th H vT T/\YC H v1 r1/\YC H v2 r2/\YC H v3 r3/\YC H v4 r4 /\match JY vT r1 r2 r3 r4 with
|.inl (p,a,y)=>∀H1,Zh t H H1->Bad Cb p a y H1 E
|.inr k=>∀H' fs n,Zh t H H'->vT=.int n->TabOf H' C t fs n r1 r2 r3 r4 k->Q .non H'
section
variable {C Cb:ae}
structure Mid(H Hc:Hp)(C t dx:ae)(fs:List (Str×V))(n:Int)(m:Nat):Prop where
 sm:Zh t H Hc
 at_:Hc t=some (.ins C dx fs)
 only:∀g,g∉fields->fs.lookup g=none
 len:fs.length<=m
 turns:fs.lookup ("turns":Str)=some (.int n)
theorem Mid.same{H Hc H1:Hp}{t dx:ae}{fs:List (Str×V)}{n:Int}{m:Nat}(M:Mid H Hc C t dx fs n m)(s:Same Hc H1):Mid H H1 C t dx fs n m:=⟨M.sm.trans (Zh.of s),s _ _ M.at_,M.only,M.len,M.turns⟩
theorem Mid.next{H Hc H1:Hp}{t dx l d:ae}{fs:List (Str×V)}{n:Int}{m:Nat}{f g:Str}(M:Mid H Hc C t dx fs n m)(s:Zh t Hc H1)(h:H1 t=some (.ins C dx (putF g (.ref d) (putF f (.ref l) fs))))(hf:f∈fields)(hg:g∈fields)(nf:("turns":Str)≠f)(ng:("turns":Str)≠g):Mid H H1 C t dx (putF g (.ref d) (putF f (.ref l) fs)) n (m+2):=by
 refine⟨M.sm.trans s,h,λx hx=>?_,?_,?_⟩
 ·rw[Zo,if_neg (λz=>hx (by rw[z];exact hg)),Zo,if_neg (λz=>hx (by rw[z];exact hf))];exact M.only x hx
 ·have h1:=Yr f (V.ref l) fs;have h2:=Yr g (V.ref d) (putF f (V.ref l) fs);have:=M.len;omega
 ·rw[Zo,if_neg ng,Zo,if_neg nf];exact M.turns
theorem Z5.sameB{H H':Hp}{t C dx:ae}{fs0 fs:List (Str×V)}{f g:Str}{r:PR}{k:List (Key×V)}(ht:H t=some (.ins C dx fs0))(s:Zh t H H')(h:Z5 H fs f g r k):Z5 H' fs f g r k:=by obtain⟨l,d,xs,rs,a1,a2,a3,a4,a5⟩:=h;exact⟨l,d,xs,rs,a1,a2,a3,s _ _ a4 (ne_of a4 ht (by intro z;cases z)),s _ _ a5 (ne_of a5 ht (by intro z;cases z))⟩
theorem Z5.put{H:Hp}{fs:List (Str×V)}{f g f' g':Str}{x y:V}{r:PR}{k:List (Key×V)}(h:Z5 H fs f g r k)(n1:f≠f')(n2:f≠g')(n3:g≠f')(n4:g≠g'):Z5 H (putF g' y (putF f' x fs)) f g r k:=by obtain⟨l,d,xs,rs,a1,a2,a3⟩:=h;exact⟨l,d,xs,rs,by rw[Zo,if_neg n2,Zo,if_neg n1];exact a1,by rw[Zo,if_neg n4,Zo,if_neg n3];exact a2,a3⟩
theorem Z5.new{H:Hp}{fs:List (Str×V)}{f g:Str}{l d:ae}{xs:List V}{rs:List (Option (List V))}{k:List (Key×V)}(h1:H l=some (.tup xs))(h2:H d=some (.dK k))(n:f≠g):Z5 H (putF g (.ref d) (putF f (.ref l) fs)) f g (some (xs,rs)) k:=⟨l,d,xs,rs,by rw[Zo,if_neg n,Zo,if_pos rfl],by rw[Zo,if_pos rfl],rfl,h1,h2⟩
theorem VC{E:XK}{z:Str}{n:Nat}(hz:(z,n)∈GX){t dx:ae}{fs:List (Str×V)}{Hc:Hp}{v:V}{r:PR}{go:List V->List (Option (List V))->Sum (Nat×V) (List (Key×V))}{Kq:VK}(ht:Hc t=some (.ins C dx fs))(hp:YC Hc v r)(hbad:∀a y,ZP n go r=.inl (a,y)->∀H1,Zh t Hc H1->Bad Cb (.str z) a y H1 E)(hgo:∀xs rs H1 l,r=some (xs,rs)->xs.length<=1000->Same Hc H1->H1 l=some (.tup xs)->ZU H1 xs rs->(∀i why,go xs rs=.inl (i,why)->∀H2,Zh t Hc H2->Bad Cb (.str z) (.int i) why H2 E)->(∀kvs,go xs rs=.inr kvs->ZP n go r=.inr kvs)->Kq (.ref l) H1):Rx Cb [.str z,v] Hc Kq E:=by
 have hn:n<=300:=by simp only[GX,aq,Prod.mk.injEq,aK,or_false]at hz;omega
 cases r with
|none=>exact⟨z,n,v,none,rfl,hz,hp,λH1 s=>hbad _ _ rfl H1 (Zh.of s)⟩
|some q=>
  obtain⟨xs,rs⟩:=q;obtain⟨hp,hr⟩:=hp;refine⟨z,n,v,some xs,rfl,hz,hp,?_⟩;dsimp only;by_cases hl:xs.length>n
  ·rw[if_pos hl];exact λH1 s=>hbad _ _ (by show(if xs.length>n then _ else _)=_;rw[if_pos hl]) H1 (Zh.of s)
  ·rw[if_neg hl];refine λH1 l s h=>hgo xs rs H1 l rfl (by omega) s h (hr.sameB ht (Zh.of s)) (λi why e=>?_) (λkvs e=>?_)
   ·exact hbad _ _ (by show(if xs.length>n then _ else _)=_;rw[if_neg hl,e])
   ·show(if xs.length>n then _ else _)=_;rw[if_neg hl,e]
end
section
variable {P:aA}{w:aI}{K:aa}{mg:Str->Option ac}{base:aX}{C Cb:ae}
theorem LH:FnScope ["self","turns","places","rides","ways","groups"] ["self","turns","places","rides","ways","groups"] (Zg T.m_Table___init__):=scO (by decide +kernel)
theorem Sx(G:Txt K mg)(Z:TCl K C)(B:Err P w K mg base "BadTable" ["part","at","why"] Cb)(CI:Can P w K mg base 6 "is_within" ["thing","low","high"] K1.Xl)(CRo:CanX P w K mg base 6 "rows_of" ["part","rows"] (Rx Cb))(CP:CanM P w K mg base (CX1 P w) 6 C "take_places" ["self","places"] (SR C Cb))(CR:CanM P w K mg base (CX1 P w) 6 C "take_rides" ["self","rides"] (SQ C Cb))(CW:CanM P w K mg base (CX1 P w) 6 C "take_ways" ["self","ways"] (SO C Cb))(CG:CanM P w K mg base (CX1 P w) 6 C "take_groups" ["self","groups"] (SS C Cb)){f:ae}{cdv:ac}{A:ba}{outer:List Env}{s:ag}{H:Hp}{vs:List V}{Q:VK}{E:XK}(hr:Room 6 (A.deeper (envOfC "Table.__init__" (Zg T.m_Table___init__) s.heap.objs.size f cdv)))(h:Py C Cb vs H Q E):∃t,PSs (cxOf (CX1 P w) P w K mg base ["self","turns","places","rides","ways","groups"] "Table.__init__" (Zg T.m_Table___init__) f cdv A outer s H E) (ZR T.m_Table___init__) t/\t {nx:=λ_ H'=>Q .non H',rt:=Q} (start ["self","turns","places","rides","ways","groups"] vs) H:=by
 obtain⟨t,dx,vT,T',v1,v2,v3,v4,r1,r2,r3,r4,rfl,ht,thT,p1,p2,p3,p4,k⟩:=h;obtain⟨t1,h1⟩:=G.turns;have kk:∀res,JY vT r1 r2 r3 r4=res->(match res with
 |.inl (p,a,y)=>∀H1,Zh t H H1->Bad Cb p a y H1 E
 |.inr k=>∀H' fs n,Zh t H H'->vT=.int n->TabOf H' C t fs n r1 r2 r3 r4 k->Q .non H'):=λres e=>by rw[<-e];exact k
 clear k;refine⟨_,Zf (ZC (ZW (ZX (Z2 CI hr rfl (Zb (pv 1) (Zb Zd (Zb (Yx (v:=V.int 50) rfl h1 ⟨t1,rfl⟩) Zc)))))) (Zi (YO (E:=E) B Z1 rfl (hr.mono (by omega)) rfl (Zb Zn (Zb ZN (Zb Zn Zc))))) Zq) (Zf (JN (pv 0) (pv 1) rfl) (Zf (Y7 (ZK CP Z.cl Z1 hr (pv 0) (Zb (Jo CRo Z1 hr rfl (Zb Zn (Zb (pv 2) Zc))) Zc))) (Zf (Y7 (ZK CR Z.cl Z1 hr (pv 0) (Zb (Jo CRo Z1 hr rfl (Zb Zn (Zb (pv 3) Zc))) Zc))) (Zf (Y7 (ZK CW Z.cl Z1 hr (pv 0) (Zb (Jo CRo Z1 hr rfl (Zb Zn (Zb (pv 4) Zc))) Zc))) (Zi (Y7 (ZK CG Z.cl Z1 hr (pv 0) (Zb (Jo CRo Z1 hr rfl (Zb Zn (Zb (pv 5) Zc))) Zc)))))))),?_⟩;try dsimp only[cxOf,Cx.nox]
 refine⟨_,rfl,vT,T',1,50,rfl,thT,_,rfl,?_⟩;by_cases hw:K1.Zp vT 1 50=true
 ·rw[hw];refine iteF ?_;obtain⟨n,rfl⟩:∃n,vT=.int n:=by
   cases vT with
  |int n=>exact⟨n,rfl⟩
  |_=>cases hw
  have hw':(decide (1<=n)&&decide (n<=50))=true:=hw;have ek:JY (.int n) r1 r2 r3 r4=named "places" (ZP 14 goP r1) λk1=>named "rides" (ZP 80 (goR k1 n) r2) λk2=>named "ways" (ZP 40 (goW k1) r3) λk3=>named "groups" (ZP 300 (goG k1 n) r4) λk4=>.inr (k1,k2,k3,k4):=by show(if(decide (1<=n)&&decide (n<=50))=true then _ else _)=_;rw[if_pos hw']
  rw[ek]at kk;refine⟨_,rfl,_,rfl,t,C,dx,_,rfl,ht,Z.cl,Z.na _ (by simp[fields]),by decide,?_⟩;have M0:Mid H (upd H t (.ins C dx (putF "turns" (.int n) []))) C t dx (putF "turns" (.int n) []) n 1:=⟨(Zh.refl t H).upd,Ze,λg hg=>by rw[Zo,if_neg (λz=>hg (by rw[z];simp[fields]))];rfl,aj _,by rw[Zo,if_pos rfl]⟩;generalize upd H t (.ins C dx (putF "turns" (.int n) []))=H0 at M0 ⊢;generalize putF "turns" (.int n) []=F0 at M0;refine mthV M0.at_ (M0.only _ (by decide +kernel)) ?_;refine⟨_,rfl,?_⟩;dsimp only[tNil];refine VC (z:="places") (n:=14) (go:=goP) (by simp[GX]) M0.at_ (p1.sameB ht M0.sm) (λa y e H1 s1=>?_) (λxs rs H1 l er hl s1 hx hrs hb hk=>?_)
  ·rw[e]at kk;exact kk _ rfl H1 (M0.sm.trans s1)
  have M1:=M0.same s1;refine⟨t,l,dx,xs,rs,F0,rfl,M1.at_,M1.only,by have:=M1.len;omega,hx,hl,hrs,?_⟩;have s01:Zh t H0 H1:=Zh.of s1;cases e1:Yj 0 [] rs with
 |inl q=>exact λH2 s2=>hb q.1 q.2 e1 H2 (s01.trans s2)
 |inr k1=>
  rw[hk k1 e1]at kk;dsimp only[named]at kk;intro H2 d s2 hd0 hdt hd2 ht2;have A1:Z5 H2 (putF "room_by_place" (.ref d) (putF "places" (.ref l) F0)) "places" "room_by_place" r1 k1:=by rw[er];exact Z5.new (s2 _ _ hx (ne_of hx M1.at_ (by intro z;cases z))) hd2 (by decide +kernel)
  have M2:=M1.next s2 ht2 (by simp[fields]) (by simp[fields]) (by decide +kernel) (by decide +kernel);have lkP:(putF "room_by_place" (.ref d) (putF "places" (.ref l) F0)).lookup ("room_by_place":Str)=some (.ref d):=by rw[Zo,if_pos rfl]
  generalize putF "room_by_place" (.ref d) (putF "places" (.ref l) F0)=F2 at A1 M2 lkP;clear hk hb hrs hx ht2 s2 hd0 hl er e1 M1 s01 s1 M0 ek;refine mthV M2.at_ (M2.only _ (by decide +kernel)) ?_;refine⟨_,rfl,?_⟩;dsimp only[tNil];refine VC (z:="rides") (n:=80) (go:=goR k1 n) (by simp[GX]) M2.at_ (p2.sameB ht M2.sm) (λa y e Hb sb=>?_) (λxs rs H3 l er hl s3 hx hrs hb hk=>?_)
  ·rw[e]at kk;exact kk _ rfl Hb (M2.sm.trans sb)
  have M3:=M2.same s3;refine⟨t,l,dx,d,xs,rs,F2,k1,n,rfl,M3.at_,M3.only,by have:=M3.len;omega,lkP,s3 _ _ hd2,M3.turns,hx,hl,hrs,?_⟩;have sx:Zh t H2 H3:=Zh.of s3;cases e1:Yt false 6 (Vg k1 n) 0 [] (xs.zip rs)with
 |inl q=>exact λHb sb=>hb q.1 q.2 e1 Hb (sx.trans sb)
 |inr k2=>
  rw[hk k2 e1]at kk;dsimp only at kk;intro H4 d2 s4 hd0 hdm hdk ht4;have sy:Zh t H2 H4:=sx.trans s4;have A2:Z5 H4 (putF "ride_by_name" (.ref d2) (putF "rides" (.ref l) F2)) "rides" "ride_by_name" r2 k2:=by rw[er];exact Z5.new (s4 _ _ hx (ne_of hx M3.at_ (by intro z;cases z))) hdk (by decide +kernel)
  have A1:=(A1.sameB M2.at_ sy).put (f':="rides") (g':="ride_by_name") (x:=.ref l) (y:=.ref d2) (by decide +kernel) (by decide +kernel) (by decide +kernel) (by decide +kernel);have hd4:H4 d=some (.dK k1):=sy _ _ hd2 hdt;have M4:=M3.next s4 ht4 (by simp[fields]) (by simp[fields]) (by decide +kernel) (by decide +kernel);have lkP:(putF "ride_by_name" (.ref d2) (putF "rides" (.ref l) F2)).lookup ("room_by_place":Str)=some (.ref d):=by rw[Zo,if_neg (by decide +kernel),Zo,if_neg (by decide +kernel)];exact lkP
  generalize putF "ride_by_name" (.ref d2) (putF "rides" (.ref l) F2)=F4 at A1 A2 M4 lkP;clear hk hb hrs hx ht4 s4 hd0 hl er e1 M3 sx sy s3 M2 hdk;refine mthV M4.at_ (M4.only _ (by decide +kernel)) ?_;refine⟨_,rfl,?_⟩;dsimp only[tNil];refine VC (z:="ways") (n:=40) (go:=goW k1) (by simp[GX]) M4.at_ (p3.sameB ht M4.sm) (λa y e Hb sb=>?_) (λxs rs H5 l er hl s5 hx hrs hb hk=>?_)
  ·rw[e]at kk;exact kk _ rfl Hb (M4.sm.trans sb)
  have M5:=M4.same s5;refine⟨t,l,dx,d,xs,rs,F4,k1,n,rfl,M5.at_,M5.only,by have:=M5.len;omega,lkP,s5 _ _ hd4,M5.turns,hx,hl,hrs,?_⟩;have sx:Zh t H4 H5:=Zh.of s5;cases e1:Yt false 5 (wayW k1) 0 [] (xs.zip rs)with
 |inl q=>exact λHb sb=>hb q.1 q.2 e1 Hb (sx.trans sb)
 |inr k3=>
  rw[hk k3 e1]at kk;dsimp only at kk;intro H6 d3 s6 hd0 hdm hdk ht6;have sy:Zh t H4 H6:=sx.trans s6;have A3:Z5 H6 (putF "way_by_name" (.ref d3) (putF "ways" (.ref l) F4)) "ways" "way_by_name" r3 k3:=by rw[er];exact Z5.new (s6 _ _ hx (ne_of hx M5.at_ (by intro z;cases z))) hdk (by decide +kernel)
  have A1:=(A1.sameB M4.at_ sy).put (f':="ways") (g':="way_by_name") (x:=.ref l) (y:=.ref d3) (by decide +kernel) (by decide +kernel) (by decide +kernel) (by decide +kernel);have A2:=(A2.sameB M4.at_ sy).put (f':="ways") (g':="way_by_name") (x:=.ref l) (y:=.ref d3) (by decide +kernel) (by decide +kernel) (by decide +kernel) (by decide +kernel);have hd6:H6 d=some (.dK k1):=sy _ _ hd4 hdt;have M6:=M5.next s6 ht6 (by simp[fields]) (by simp[fields]) (by decide +kernel) (by decide +kernel);have lkP:(putF "way_by_name" (.ref d3) (putF "ways" (.ref l) F4)).lookup ("room_by_place":Str)=some (.ref d):=by rw[Zo,if_neg (by decide +kernel),Zo,if_neg (by decide +kernel)];exact lkP
  generalize putF "way_by_name" (.ref d3) (putF "ways" (.ref l) F4)=F6 at A1 A2 A3 M6 lkP;clear hk hb hrs hx ht6 s6 hd0 hl er e1 M5 sx sy s5 M4 hdk;refine mthV M6.at_ (M6.only _ (by decide +kernel)) ?_;refine⟨_,rfl,?_⟩;dsimp only[tNil];refine VC (z:="groups") (n:=300) (go:=goG k1 n) (by simp[GX]) M6.at_ (p4.sameB ht M6.sm) (λa y e Hb sb=>?_) (λxs rs H7 l er hl s7 hx hrs hb hk=>?_)
  ·rw[e]at kk;exact kk _ rfl Hb (M6.sm.trans sb)
  have M7:=M6.same s7;refine⟨t,l,dx,d,xs,rs,F6,k1,n,rfl,M7.at_,M7.only,by have:=M7.len;omega,lkP,s7 _ _ hd6,M7.turns,hx,hl,hrs,?_⟩;have sx:Zh t H6 H7:=Zh.of s7;cases e1:Ym k1 n 0 0 [] (xs.zip rs)with
 |inl q=>exact λHb sb=>hb q.1 q.2 e1 Hb (sx.trans sb)
 |inr k4=>
  rw[hk k4 e1]at kk;dsimp only at kk;intro H8 d4 s8 hd0 hdm hdk ht8;have sy:Zh t H6 H8:=sx.trans s8;have A4:Z5 H8 (putF "group_by_name" (.ref d4) (putF "groups" (.ref l) F6)) "groups" "group_by_name" r4 k4:=by rw[er];exact Z5.new (s8 _ _ hx (ne_of hx M7.at_ (by intro z;cases z))) hdk (by decide +kernel)
  have A1:=(A1.sameB M6.at_ sy).put (f':="groups") (g':="group_by_name") (x:=.ref l) (y:=.ref d4) (by decide +kernel) (by decide +kernel) (by decide +kernel) (by decide +kernel);have A2:=(A2.sameB M6.at_ sy).put (f':="groups") (g':="group_by_name") (x:=.ref l) (y:=.ref d4) (by decide +kernel) (by decide +kernel) (by decide +kernel) (by decide +kernel);have A3:=(A3.sameB M6.at_ sy).put (f':="groups") (g':="group_by_name") (x:=.ref l) (y:=.ref d4) (by decide +kernel) (by decide +kernel) (by decide +kernel) (by decide +kernel);have hd8:H8 d=some (.dK k1):=sy _ _ hd6 hdt;have M8:=M7.next s8 ht8 (by simp[fields]) (by simp[fields]) (by decide +kernel) (by decide +kernel);have lkP:(putF "group_by_name" (.ref d4) (putF "groups" (.ref l) F6)).lookup ("room_by_place":Str)=some (.ref d):=by rw[Zo,if_neg (by decide +kernel),Zo,if_neg (by decide +kernel)];exact lkP
  generalize putF "group_by_name" (.ref d4) (putF "groups" (.ref l) F6)=F8 at A1 A2 A3 A4 M8 lkP;clear hk hb hrs hx ht8 s8 hd0 hl er e1 M7 sx sy s7 M6 hdk;exact kk _ rfl H8 F8 n M8.sm rfl ⟨⟨⟨dx,M8.at_⟩,M8.only⟩,M8.turns,A1,A2,A3,A4⟩
 ·have hw0:K1.Zp vT 1 50=false:=by simpa using hw
  rw[hw0];refine iteT ?_;have ek:JY vT r1 r2 r3 r4=.inl (.str "turns",.non,.str "number"):=by
   cases vT with
  |int n=>show(if(decide (1<=n)&&decide (n<=50))=true then _ else _)=_;rw[if_neg (by rw[show(decide (1<=n)&&decide (n<=50))=false from hw0];decide)]
  |_=>rfl
  exact⟨rfl,kk _ ek H (Zh.refl t H)⟩
end
end TB
namespace L2
open PySem PySem.Spec PyProof.Rows
section
variable {X:Cx}{CX:CXT}{k:Nat}{C:ae}{ps:List Str}{sp:Sp}{E:XK}{m:Str}{pos apos:Pos}{o:Expr}{ta:TE}
theorem Uq{pl:Sem Bool}(c:CanM X.prog X.w X.K X.mg X.base CX k C m ps sp)(cl:Cls X.K C)(hx:Y9 CX X E)(hr:Room k X.A)(he:PE X o ta)
  (ht:eval (.Call (.Attribute o m apos) [] [] pos) X.env=(do
   let ov <-eval o X.env
   standAt apos.atName
   let (f,first) <-holding [ov] (getMethod ov m pl)
   callWith pos f first (backTo pos (aO [] X.env)) (backToKw pos (dJ [] X.env))):=by rfl):
  PE X (.Call (.Attribute o m apos) [] [] pos) (Qs C m sp [] E ta tNil):=by
 obtain⟨f,fd,F,me,b⟩:=c
 exact Kz he cl me F hr b .nil hx ht
end
end L2
namespace TB
open PySem L2 PySem.Spec PyProof.Rows
section
variable {P:aA}{w:aI}{K:aa}{mg:Str->Option ac}{base:aX}{C Cb:ae}
theorem DQ:FnScope ["self"] ["self"] (Zg T.m_Table_told):=scO (by decide +kernel)
structure TMk(P:aA)(w:aI)(K:aa)(mg:Str->Option ac)(base:aX)(C Cb:ae):Prop where
 made:∃f fd,Mk K C f/\FnOk P w K mg base (CX1 P w) 7 f fd ["self","turns","places","rides","ways","groups"] (Py C Cb)/\Binds K fd ["self","turns","places","rides","ways","groups"] []
 mg:mg "Table"=some (.ref C)
def BadE(Cb:ae)(H:Hp)(z a y:V):XK:=λc dd H'=>c=.ref Cb/\∃d,dd=some d/\H' d=some (XD d [("part",z),("at",a),("why",y)])/\Same H H'
theorem EN{H H1:Hp}{z a y:V}(s:Same H H1):Bad Cb z a y H1 (BadE Cb H z a y):=λH' d hd h k=>⟨rfl,d,rfl,h,λc o e=>by rw[k c (λz=>by rw[z]at e;rw[s d o e]at hd;cases hd)];exact s c o e⟩
theorem GW{H H1:Hp}{t dx:ae}{o o2:HO}(ht:H t=none)(hdx:H dx=none)(s:Zh t (upd (upd H dx o) t o2) H1):Same H H1:=λc u e=>by
 have h1:c≠t:=λz=>by rw[z,ht]at e;cases e
 have h2:c≠dx:=λz=>by rw[z,hdx]at e;cases e
 exact s c u (by rw[Zj h1,Zj h2];exact e) h1
end
end TB
namespace L2
open PySem PySem.Spec PyProof.Rows
section
variable {prog:aA}{w:aI}{A:ba}{E:ac->ag->Prop}{s:ag}
theorem Qp{M:Model}{a:ae}{Q:Option Obj->ag->Prop}(h:Q (s.heap.get? a) s):aB M A (loadIfAlive a) Q E s:=λΓ p _=>by show Sem.wp M Γ (.loadIfAlive a .pure) _ _ p s;rw[Sem.wp_loadIfAlive,Sem.wp_pure];exact h
abbrev Ub(h:aX)(z TI TO T0:ae)(f1:Bool):Prop:=h.get? z=some {cls:=.type "zip",dict:=none,data:=.fields #[rawInt T0,.bool f1,.bool false,.ref TI,.ref TO],slots:=#[]}
theorem NS{z TI TO T0:ae}{f1:Bool}{Q:Bool->ag->Prop}(hz:Ub s.heap z TI TO T0 f1)(hT:∃o,s.heap.get? T0=some o)(hQ:∀h',Ub h' z TI TO T0 true->dC z s.heap h'->Q false {s with heap:=h'}):aB (model prog w) A (ci (.ref z)) Q E s:=by
 obtain⟨o,ho⟩:=hT;unfold ci;refine af (bD hz rfl (x:=rawInt T0) rfl ?_);show aB _ _ (loadIfAlive ((T0:Int).toNat) >>= _) _ _ _;refine af (Qp ?_);have e:(T0:Int).toNat=T0:=a8 T0;rw[e,ho];show aB _ _ (field (.ref z) 1 >>= _) _ _ _;refine af (bD hz rfl (x:=.bool f1) rfl ?_);cases f1 with
|false=>show aB _ _ (setField (.ref z) 1 (.bool true) >>= _) _ _ _;refine af (wpAny_setField_rec hz (by simp) λh1 hz1 hs1=>au (hQ h1 hz1 hs1))
|true=>exact au (hQ s.heap hz (Heap.SameBut.refl ..))
theorem Mt{z TI TO T0 i1 i2 l1 l2:ae}{f1:Bool}{k1 k2:Nat}{xs ys:Array ac}{x y:ac}{Q:ac->ag->Prop}(D:ZipApart z TI TO i1 i2 l1 l2)(hz:Ub s.heap z TI TO T0 f1)(hT:∃o,s.heap.get? T0=some o)(hTI:IsPair s.heap TI (.ref i1) (.ref i2))(h1:s.heap.IsListIter i1 l1 k1)(h2:s.heap.IsListIter i2 l2 k2)(hl1:s.heap.IsList l1 xs)(hl2:s.heap.IsList l2 ys)(hx:xs[k1]?=some x)(hy:ys[k2]?=some y)(hQ:∀h',Ub h' z TI TO T0 true->h'.IsListIter i1 l1 (k1+1)->h'.IsListIter i2 l2 (k2+1)->IsPair h' s.heap.objs.size x y->h'.objs.size=s.heap.objs.size+1 ->(∀c o,c≠z->c≠TO->c≠i1->c≠i2->s.heap.get? c=some o->h'.get? c=some o)->Q (.ref s.heap.objs.size) {s with heap:=h'}):aB (model prog w) A (Builtin.«zip.__next__» ⟨[.ref z],[]⟩) (λfin s'=>∃v,fin=.done (.ret v)/\Q v s') E s:=by
 show aB _ _ (field (.ref z) 2 >>= _) _ _ _;refine af (bD hz rfl (x:=.bool false) rfl ?_);show aB _ _ (field (.ref z) 3 >>= _) _ _ _;refine af (bD hz rfl (x:=.ref TI) rfl ?_);refine af (wpAny_seqItems hTI rfl ?_);show aB _ _ (ci (.ref z) >>= _) _ _ _;refine af (NS hz hT λh₁ hz₁ hs₁=>?_);simp only[bG,if_false];refine af ?_;simp only[List.forIn_toArray,List.forIn_cons,List.forIn_nil];refine af (af (bw ?_));show aB _ _ (bu (.ref i1) >>= _) _ _ _;refine af (wpAny_nextOf_list_item (h1.extBut hs₁.extBut D.i1z) (hl1.extBut hs₁.extBut D.l1z) hx λh₂ h1₂ hs₂=>au (au ?_));refine af (af (bw ?_));show aB _ _ (bu (.ref i2) >>= _) _ _ _;refine af (wpAny_nextOf_list_item ((h2.extBut hs₁.extBut D.i2z).extBut hs₂.extBut D.i12.symm) ((hl2.extBut hs₁.extBut D.l2z).extBut hs₂.extBut D.l2i1) hy λh₄ h2₄ hs₄=>au (au (au ?_)));have hsz:h₄.objs.size=s.heap.objs.size:=by rw[hs₄.1,hs₂.1,hs₁.1]
 have hz₄:Ub h₄ z TI TO T0 true:=hs₄.extBut _ _ D.i2z.symm (hs₂.extBut _ _ D.i1z.symm hz₁);have h1₄:h₄.IsListIter i1 l1 (k1+1):=h1₂.extBut hs₄.extBut D.i12;refine af (wpAny_newTuple (hsz:=(zl)) ?_);refine au ⟨_,rfl,?_⟩;show Q (.ref h₄.objs.size) _;rw[hsz];refine hQ _ (ah _ hz₄) (h1₄.at λo e=>ah _ e) (h2₄.at λo e=>ah _ e) ?_ ?_ λc o c1 c2 c3 c4 e=>ah _ (hs₄.extBut _ _ c4 (hs₂.extBut _ _ c3 (hs₁.extBut _ _ c1 e)))
 ·have this:(h₄.push {cls:=.type "tuple",data:=.seq #[x,y]}).get? h₄.objs.size=some _:=aU _ rfl;rw[hsz]at this;exact this
 ·rw[da,hsz]
theorem NG{z TI TO T0 i1 i2 l1 l2:ae}{f1:Bool}{k1 k2:Nat}{xs ys:Array ac}{Q:Fin->ag->Prop}(hh:A.handled=none)(D:ZipApart z TI TO i1 i2 l1 l2)(hz:Ub s.heap z TI TO T0 f1)(hT:∃o,s.heap.get? T0=some o)(hTI:IsPair s.heap TI (.ref i1) (.ref i2))(h1:s.heap.IsListIter i1 l1 k1)(h2:s.heap.IsListIter i2 l2 k2)(hl1:s.heap.IsList l1 xs)(hl2:s.heap.IsList l2 ys)(hend:xs[k1]?=none\/ys[k2]?=none)(hE:∀h' e,(∀c o,c≠z->c≠TO->c≠i1->c≠i2->s.heap.get? c=some o->h'.get? c=some o)->(∃o,h'.get? e=some o/\o.cls=.type "StopIteration")->E (.ref e) {s with heap:=h'}):aB (model prog w) A (Builtin.«zip.__next__» ⟨[.ref z],[]⟩) Q E s:=by
 show aB _ _ (field (.ref z) 2 >>= _) _ _ _;refine af (bD hz rfl (x:=.bool false) rfl ?_);show aB _ _ (field (.ref z) 3 >>= _) _ _ _;refine af (bD hz rfl (x:=.ref TI) rfl ?_);refine af (wpAny_seqItems hTI rfl ?_);show aB _ _ (ci (.ref z) >>= _) _ _ _;refine af (NS hz hT λh₁ hz₁ hs₁=>?_);simp only[bG,if_false];refine af ?_;simp only[List.forIn_toArray,List.forIn_cons,List.forIn_nil];refine af (af (bw ?_));show aB _ _ (bu (.ref i1) >>= _) _ _ _;cases hx:xs[k1]? with
|none=>exact af (wpAny_nextOf_list_end hh (h1.extBut hs₁.extBut D.i1z) (hl1.extBut hs₁.extBut D.l1z) hx λh₂ e hs₂ he=>hE h₂ e (λc o c1 _ c3 _ x=>hs₂ _ _ c3 (hs₁.extBut _ _ c1 x)) he)
|some x=>
  have hy:ys[k2]?=none:=by rcases hend with h|h;rw[hx]at h;cases h;exact h
  refine af (wpAny_nextOf_list_item (h1.extBut hs₁.extBut D.i1z) (hl1.extBut hs₁.extBut D.l1z) hx λh₂ h1₂ hs₂=>au (au ?_));refine af (af (bw ?_));show aB _ _ (bu (.ref i2) >>= _) _ _ _;exact af (wpAny_nextOf_list_end hh ((h2.extBut hs₁.extBut D.i2z).extBut hs₂.extBut D.i12.symm) ((hl2.extBut hs₁.extBut D.l2z).extBut hs₂.extBut D.l2i1) hy λh₄ e hs₄ he=>hE h₄ e (λc o c1 c2 c3 c4 x=>hs₄ _ _ c4 (hs₂.extBut _ _ c3 (hs₁.extBut _ _ c1 x))) he)
def J3(N0:Nat)(h:aX)(z TI TO i1 i2 l1 l2:ae)(xs ys:Array ac)(k:Nat):Prop:=((IsZip h z TI TO .none/\∃a b,IsPair h TO a b)\/∃T0 f1,Ub h z TI TO T0 f1/\(∃o,h.get? T0=some o)/\N0<=T0) /\IsPair h TI (.ref i1) (.ref i2)/\h.IsListIter i1 l1 k/\h.IsListIter i2 l2 k/\h.IsList l1 xs/\h.IsList l2 ys
theorem J3.type{N0:Nat}{z TI TO i1 i2 l1 l2:ae}{xs ys:Array ac}{k:Nat}(st:J3 N0 s.heap z TI TO i1 i2 l1 l2 xs ys k):s.TypeIs (.ref z) "zip":=by
 obtain⟨⟨hz,_⟩|⟨T0,f1,hz,_⟩,_⟩:=st
 ·exact⟨_,hz,rfl⟩
 ·exact⟨_,hz,rfl⟩
theorem Qn{N0:Nat}{z TI TO i1 i2 l1 l2:ae}(lt0:z<N0/\TO<N0/\i1<N0/\i2<N0)(hN:N0<=s.heap.objs.size){k:Nat}{xs ys:Array ac}{x y:ac}{Q:Option ac->ag->Prop}(D:ZipApart z TI TO i1 i2 l1 l2)(st:J3 N0 s.heap z TI TO i1 i2 l1 l2 xs ys k)(hx:xs[k]?=some x)(hy:ys[k]?=some y)(hQ:∀h',J3 N0 h' z TI TO i1 i2 l1 l2 xs ys (k+1)->IsPair h' s.heap.objs.size x y->(∀c o,c≠z->c≠TO->c≠i1->c≠i2->s.heap.get? c=some o->h'.get? c=some o)->Q (some (.ref s.heap.objs.size)) {s with heap:=h'}):aB (model prog w) A (pyNext (.ref z)) Q E s:=by
 have hT:s.TypeIs (.ref z) "zip":=st.type;obtain⟨ha,hTI,h1,h2,hl1,hl2⟩:=st;have keep:∀h',(∀c o,c≠z->c≠TO->c≠i1->c≠i2->s.heap.get? c=some o->h'.get? c=some o)->IsPair h' TI (.ref i1) (.ref i2)/\h'.IsList l1 xs/\h'.IsList l2 ys:=λh' hk=>⟨hk _ _ D.TIz D.TITO D.TIi1 D.TIi2 hTI,hl1.at λo e=>hk _ o D.l1z D.l1TO D.l1i1 D.l1i2 e,hl2.at λo e=>hk _ o D.l2z D.l2TO D.l2i1 D.l2i2 e⟩;have lt:∀{c o},s.heap.get? c=some o->s.heap.objs.size≠c:=λe=>b5 (ap e);have n1:s.heap.objs.size≠i1:=by obtain⟨_,e,_⟩:=h1;exact lt e
 have n2:s.heap.objs.size≠i2:=by obtain⟨_,e,_⟩:=h2;exact lt e
 unfold pyNext;refine af (wpAny_attempt (wpAny_callSpecial?_slot (name:=cV "__next__") hT d5 (wpAny_call_entry d5 hT F.entry_zip_next ?_ (F.args_zip_next_1 _))));rcases ha with⟨hz,a,b,hTO⟩|⟨T0,f1,hz,⟨o0,ho0⟩,t0⟩
 ·refine zip_next_item D hz hTI hTO h1 h2 hl1 hl2 hx hy λh' a1 a2 a3 a4 a5 a6 a7=>au ?_;obtain⟨q1,q2,q3⟩:=keep h' a7;exact hQ h' ⟨.inr ⟨_,false,a1,⟨_,a5⟩,hN⟩,q1,a3,a4,q2,q3⟩ a5 a7
 ·refine Mt D hz ⟨o0,ho0⟩ hTI h1 h2 hl1 hl2 hx hy λh' a1 a3 a4 a5 a6 a7=>au ?_;obtain⟨q1,q2,q3⟩:=keep h' a7;have g:∀c:ae,c<N0->T0≠c:=λc hc=>b5 (aD hc t0);exact hQ h' ⟨.inr ⟨T0,true,a1,⟨_,a7 _ _ (g z lt0.1) (g TO lt0.2.1) (g i1 lt0.2.2.1) (g i2 lt0.2.2.2) ho0⟩,t0⟩,q1,a3,a4,q2,q3⟩ a5 a7
theorem Rj{N0:Nat}{z TI TO i1 i2 l1 l2:ae}{k:Nat}{xs ys:Array ac}{Q:Option ac->ag->Prop}(hh:A.handled=none)(D:ZipApart z TI TO i1 i2 l1 l2)(st:J3 N0 s.heap z TI TO i1 i2 l1 l2 xs ys k)(hend:xs[k]?=none\/ys[k]?=none)(hQ:∀h',(∀c o,c≠z->c≠TO->c≠i1->c≠i2->s.heap.get? c=some o->h'.get? c=some o)->Q none {s with heap:=h'}):aB (model prog w) A (pyNext (.ref z)) Q E s:=by
 have hT:s.TypeIs (.ref z) "zip":=st.type;obtain⟨ha,hTI,h1,h2,hl1,hl2⟩:=st;unfold pyNext;have fin:∀h' e,(∀c o,c≠z->c≠TO->c≠i1->c≠i2->s.heap.get? c=some o->h'.get? c=some o)->(∃o,h'.get? e=some o/\o.cls=.type "StopIteration")->aB (model prog w) A (isInstance (.ref e) (.type "StopIteration") >>= λok=>if ok=true then pure none else throw (.ref e)) Q E {s with heap:=h'}:=by rintro h' e hk ⟨o,ho,hc⟩;refine af (wpAny_isInstance (T:="StopIteration") (b:=true) ⟨o,ho,hc⟩ isSubtype_stop ?_);exact au (hQ _ hk)
 rcases ha with⟨hz,a,b,hTO⟩|⟨T0,f1,hz,hT0,t0⟩
 ·refine af (wpAny_attempt (wpAny_callSpecial?_slot (name:=cV "__next__") hT d5 (wpAny_call_entry d5 hT F.entry_zip_next (zip_next_end hh D hz hTI hTO h1 h2 hl1 hl2 hend λh' e hk he=>fin h' e hk he) (F.args_zip_next_1 _))))
 ·refine af (wpAny_attempt (wpAny_callSpecial?_slot (name:=cV "__next__") hT d5 (wpAny_call_entry d5 hT F.entry_zip_next (NG hh D hz hT0 hTI h1 h2 hl1 hl2 hend λh' e hk he=>fin h' e hk he) (F.args_zip_next_1 _))))
end
theorem Ri:typeLookup (.type "zip") "__len__"=pure none:=by rw[typeLookup_type,builtinLookup_eq_fast];kernel_rfl
theorem Ql:typeLookup (.type "zip") "__length_hint__"=pure none:=by rw[typeLookup_type,builtinLookup_eq_fast];kernel_rfl
theorem J3.keep{N0:Nat}{h h':aX}{z TI TO i1 i2 l1 l2:ae}{xs ys:Array ac}{k:Nat}{S:ae}(st:J3 N0 h z TI TO i1 i2 l1 l2 xs ys k)(hS:∀b o,b≠S->h.get? b=some o->h'.get? b=some o)(n:z≠S/\TI≠S/\TO≠S/\i1≠S/\i2≠S/\l1≠S/\l2≠S)(nT:S<N0):J3 N0 h' z TI TO i1 i2 l1 l2 xs ys k:=by
 obtain⟨ha,hTI,h1,h2,hl1,hl2⟩:=st;obtain⟨n1,n2,n3,n4,n5,n6,n7⟩:=n;refine⟨?_,hS _ _ n2 hTI,h1.at λo e=>hS _ o n4 e,h2.at λo e=>hS _ o n5 e,hl1.at λo e=>hS _ o n6 e,hl2.at λo e=>hS _ o n7 e⟩;rcases ha with⟨hz,a,b,hTO⟩|⟨T0,f1,hz,⟨o0,ho0⟩,t⟩
 ·exact .inl ⟨hS _ _ n1 hz,a,b,hS _ _ n3 hTO⟩
 ·exact .inr ⟨T0,f1,hS _ _ n1 hz,⟨o0,hS _ _ (b5 (aD nT t)) ho0⟩,t⟩
section
variable {prog:aA}{w:aI}{A:ba}{E:ac->ag->Prop}{R:Result->ag->Prop}
def Pairs(h:aX)(N0:Nat)(xs ys:Array ac)(Ts:List ae):Prop:=Ts.Nodup/\(∀T∈Ts,N0<=T/\T<h.objs.size)/\∀(j:Nat)T,Ts[j]?=some T->∃x y,xs[j]?=some x/\ys[j]?=some y/\IsPair h T x y
theorem RY{z TI TO i1 i2 l1 l2 S:ae}{xs ys:Array ac}{N0:Nat}(hh:A.handled=none)(D:ZipApart z TI TO i1 i2 l1 l2)(nS:z≠S/\TI≠S/\TO≠S/\i1≠S/\i2≠S/\l1≠S/\l2≠S)(res:ac)(lt:z<N0/\TO<N0/\i1<N0/\i2<N0/\S<N0)(hsz:min xs.size ys.size<=av):∀(k i:Nat)(s:ag)(Ts:List ae)(c:Nat),min xs.size ys.size-i=k->i<=min xs.size ys.size->Ts.length=i->N0<=s.heap.objs.size->J3 N0 s.heap z TI TO i1 i2 l1 l2 xs ys i ->s.heap.get? S=some {cls:=.type "list",dict:=none,data:=.seq (Ts.map ay).toArray c,slots:=#[]}->Pairs s.heap N0 xs ys Ts ->(∀h' Ts' c',(∀b o,b≠S->b≠z->b≠TO->b≠i1->b≠i2->s.heap.get? b=some o->h'.get? b=some o)->h'.get? S=some {cls:=.type "list",dict:=none,data:=.seq (Ts'.map ay).toArray c',slots:=#[]}->Ts'.length=min xs.size ys.size->Pairs h' N0 xs ys Ts'->R (.ok (.ret res)) {s with heap:=h'}) ->codeAny (model prog w) A (.builtin "list.extend.loop" ⟨[.ref S,.ref z,res],[]⟩) R s:=by
 intro k;induction k with
|zero=>
  intro i s Ts c hk hi hl hN st hS hp hR;have hin:i=min xs.size ys.size:=by omega
  refine codeAny_builtin F.entry_extend_loop ?_;rw[Around.under_plainId F.plain_extend_loop _];show aB _ A.in1 (pyNext (.ref z) >>= _) _ _ s;have hend:xs[i]?=none\/ys[i]?=none:=by
   rcases Nat.le_total xs.size ys.size with h|h
   ·exact .inl (by rw[hin,Nat.min_eq_left h];exact Array.getElem?_eq_none (aj _))
   ·exact .inr (by rw[hin,Nat.min_eq_right h];exact Array.getElem?_eq_none (aj _))
  refine af (Rj hh D st hend λh' hk'=>?_);obtain⟨n1,n2,n3,n4,n5,n6,n7⟩:=nS;refine au (hR h' Ts c (λb o _ b1 b2 b3 b4 e=>hk' b o b1 b2 b3 b4 e) (hk' S _ n1.symm n3.symm n4.symm n5.symm hS) (by omega) ?_);obtain⟨p1,p2,p3⟩:=hp;have kt:∀T∈Ts,∀o,s.heap.get? T=some o->h'.get? T=some o:=λT hT' o e=>by have g:∀c:ae,c<N0->T≠c:=λc hc=>b5 (aD hc (p2 T hT').1);exact hk' T o (g z lt.1) (g TO lt.2.1) (g i1 lt.2.2.1) (g i2 lt.2.2.2.1) e
  refine⟨p1,λT hT'=>⟨(p2 T hT').1,?_⟩,λj T hj=>?_⟩
  ·obtain⟨j,hj⟩:=aY.mp hT';obtain⟨x,y,_,_,e⟩:=p3 j T hj;exact ap (kt T hT' _ e)
  ·obtain⟨x,y,q1,q2,e⟩:=p3 j T hj;exact⟨x,y,q1,q2,kt T (aG hj) _ e⟩
|succ k ih=>
  intro i s Ts c hk hi hl hN st hS hp hR;have hlt:i<min xs.size ys.size:=by omega
  have hix:i<xs.size:=aD hlt (Nat.min_le_left ..);have hiy:i<ys.size:=aD hlt (Nat.min_le_right ..);refine codeAny_builtin F.entry_extend_loop ?_;rw[Around.under_plainId F.plain_extend_loop _];show aB _ A.in1 (pyNext (.ref z) >>= _) _ _ s;refine af (Qn ⟨lt.1,lt.2.1,lt.2.2.1,lt.2.2.2.1⟩ hN D st (cM hix) (cM hiy) λh' st' hpr hk'=>?_);obtain⟨n1,n2,n3,n4,n5,n6,n7⟩:=id nS;have hS':=hk' S _ n1.symm n3.symm n4.symm n5.symm hS;show aB _ A.in1 (updateSeq S (·.push (.ref s.heap.objs.size)) >>= _) _ _ _;refine af ?_;have hsS:S<s.heap.objs.size:=ap hS;obtain⟨p1,p2,p3⟩:=hp;have oth:∀b o,b≠S->h'.get? b=some o->(h'.update S (bP (·.push (.ref s.heap.objs.size)))).get? b=some o:=λb o hb e=>(aV _ _ (bL hb)).trans e;have eT:(Ts.map ay).toArray.push (ay s.heap.objs.size)=((Ts++[s.heap.objs.size]).map ay).toArray:=by simp
  obtain⟨c2,hS2⟩:∃c2,(h'.update S (bP (·.push (.ref s.heap.objs.size)))).get? S=some {cls:=.type "list",dict:=none,data:=.seq ((Ts++[s.heap.objs.size]).map ay).toArray c2,slots:=#[]}:=⟨_,(bz _ hS' rfl).trans (by rw[<-eT];rfl)⟩;refine wpAny_updateSeq hS' rfl (au ⟨plainId_quiet F.plain_extend_loop _,ih (i+1) _ (Ts++[s.heap.objs.size]) c2 (by omega) hlt (by simp[hl]) ?_ (st'.keep oth nS lt.2.2.2.2) hS2 ?_ λh'' Ts' c' q1 q2 q3 q4=>hR h'' Ts' c' (λb o b0 b1 b2 b3 b4 e=>q1 b o b0 b1 b2 b3 b4 (oth b o b0 (hk' b o b1 b2 b3 b4 e))) q2 q3 q4⟩) (by simp only[ar,bA];omega) (by simp only[Array.size_push,ar,bA];omega)
  ·have:=ap (oth _ _ (b5 hsS) hpr);exact Nat.le_of_lt (b6 hN this)
  ·have kt:∀T∈Ts,∀o,s.heap.get? T=some o->(h'.update S (bP (·.push (.ref s.heap.objs.size)))).get? T=some o:=λT hT' o e=>by have g:∀c:ae,c<N0->T≠c:=λc hc=>b5 (aD hc (p2 T hT').1);exact oth T o (g S lt.2.2.2.2) (hk' T o (g z lt.1) (g TO lt.2.1) (g i1 lt.2.2.1) (g i2 lt.2.2.2.1) e)
   have new:=oth _ _ (b5 hsS) hpr;refine⟨?_,λT hT'=>?_,λj T hj=>?_⟩
   ·rw[dy];refine⟨p1,by simp,λa ha b hb=>?_⟩;rw[bi]at hb;subst hb;exact aE (p2 a ha).2
   ·rcases bp.mp hT' with hT'|hT'
    ·obtain⟨j,hj⟩:=aY.mp hT';obtain⟨x,y,_,_,e⟩:=p3 j T hj;exact⟨(p2 T hT').1,ap (kt T hT' _ e)⟩
    ·rw[bi]at hT';subst hT';exact⟨hN,ap new⟩
   ·rcases Nat.lt_or_ge j Ts.length with hjl|hjl
    ·rw[bj hjl]at hj;obtain⟨x,y,q1,q2,e⟩:=p3 j T hj;exact⟨x,y,q1,q2,kt T (aG hj) _ e⟩
    ·rw[bC hjl]at hj;have hj0:j-Ts.length=0:=by
      rcases cD (j-Ts.length)with h|h
      ·exact h
      ·rw[List.getElem?_eq_none (by simp;omega)]at hj;cases hj
     rw[hj0]at hj;have e:s.heap.objs.size=T:=by simpa using hj
     subst e;have hji:j=i:=by omega
     subst hji;exact⟨_,_,cM hix,cM hiy,new⟩
end
section
variable {prog:aA}{w:aI}{A:ba}{E:ac->ag->Prop}{s:ag}
theorem Pairs.nil{h:aX}{N0:Nat}{xs ys:Array ac}:Pairs h N0 xs ys []:=⟨List.nodup_nil,λT hT=>(by cases hT),λj T hj=>by simp at hj⟩
theorem J3.iter{N0:Nat}{z TI TO i1 i2 l1 l2:ae}{xs ys:Array ac}{k:Nat}{Q:ac->ag->Prop}(st:J3 N0 s.heap z TI TO i1 i2 l1 l2 xs ys k)(h:Q (.ref z) s):aB (model prog w) A (pyIter (.ref z)) Q E s:=by have hT:s.TypeIs (.ref z) "zip":=st.type;refine wpAny_pyIter_slot hT F.slot_zip_iter (wpAny_call_entry F.slot_zip_iter hT F.entry_zip_iter ?_ (F.args_zip_iter_1 _));show aB _ _ (ret (.ref z)) _ _ s;exact au ⟨_,rfl,"zip",_,hT,F.slot_zip_next.lookup,h⟩
theorem G8{R:Result->ag->Prop}{z TI TO i1 i2 l1 l2 S:ae}{xs ys:Array ac}{N0:Nat}(hh:A.handled=none)(D:ZipApart z TI TO i1 i2 l1 l2)(nS:z≠S/\TI≠S/\TO≠S/\i1≠S/\i2≠S/\l1≠S/\l2≠S)(res:ac)(c₀:Nat)(lt:z<N0/\TO<N0/\i1<N0/\i2<N0/\S<N0)(hN:N0<=s.heap.objs.size)(hsz:min xs.size ys.size<=av)(st:J3 N0 s.heap z TI TO i1 i2 l1 l2 xs ys 0)(hS:s.heap.get? S=some {cls:=.type "list",data:=.seq #[] c₀})(hR:∀h' Ts' c',(∀b o,b≠S->b≠z->b≠TO->b≠i1->b≠i2->s.heap.get? b=some o->h'.get? b=some o)->h'.get? S=some {cls:=.type "list",dict:=none,data:=.seq (Ts'.map ay).toArray c',slots:=#[]}->Ts'.length=min xs.size ys.size->Pairs h' N0 xs ys Ts'->R (.ok (.ret res)) {s with heap:=h'}):aB (model prog w) A.in1 (de (.ref S) (.ref z) res) (λfin s'=>match fin with|.done f=>R (.ok f) s'|.again c'=>c'.quiet=true/\codeAny (model prog w) A c' R s') (λe s'=>R (.error e) s') s:=by
 obtain⟨n1,n2,n3,n4,n5,n6,n7⟩:=id nS;unfold de;refine af (wpAny_typeOf st.type ?_);have h1:Builtin.List.listSameRef (.ref S) (.ref z)=false:=by simp[Builtin.List.listSameRef,n1.symm]
 have h2:(cU "zip"==cU "list")=false:=by decide
 have h3:(cU "zip"==cU "tuple")=false:=by decide
 simp only[h1,h2,h3,Bool.or_false,bG,if_false];refine af (st.iter ?_);refine af (bw ?_);unfold Builtin.List.listLengthHint;refine af (wpAny_specialOf st.type Ri ?_);show aB _ A.in1 (specialOf (ay z) (cV "__length_hint__") >>= _) _ _ _;refine af (wpAny_specialOf st.type Ql ?_);refine au ?_;show aB _ A.in1 (rule "list.extend.makes-room" >>= λ_=>Builtin.List.listTouch (.ref S) >>= λ_=>
  again (.builtin "list.extend.loop" ⟨[.ref S,.ref z,res],[]⟩)) _ _ _;refine af (wpAny_rule ?_);refine af ?_;show aB _ A.in1 (updateSeq S (·.push .none) >>= λ_=>updateSeq S (·.pop)) _ _ _;refine af (wpAny_updateSeq hS rfl ?_);have hS₂:=bz (bP (·.push bq)) hS rfl;refine wpAny_updateSeq (hz:=by seq_fits) hS₂ rfl ?_;have hS₃:=bz (bP (·.pop)) hS₂ rfl;have oth:∀b o,b≠S->s.heap.get? b=some o->((s.heap.update S (bP (·.push bq))).update S (bP (·.pop))).get? b=some o:=λb o hb e=>(aV _ _ (bL hb)).trans ((aV _ _ (bL hb)).trans e);have hsz2:((s.heap.update S (bP (·.push bq))).update S (bP (·.pop))).objs.size=s.heap.objs.size:=by
  rw[(dq ..).1,(dq ..).1]
 refine au ⟨plainId_quiet F.plain_extend_loop _,RY hh D nS res lt hsz (min xs.size ys.size) 0 _ [] _ (by omega) (bV _) rfl (by rw[hsz2];exact hN) (st.keep oth nS lt.2.2.2.2) hS₃ Pairs.nil λh' Ts' c' q1 q2 q3 q4=>?_⟩;exact hR h' Ts' c' (λb o b0 b1 b2 b3 b4 e=>q1 b o b0 b1 b2 b3 b4 (oth b o b0 e)) q2 q3 q4
theorem GP{Q:ac->ag->Prop}{z TI TO i1 i2 l1 l2:ae}{xs ys:Array ac}(hh:A.handled=none)(D:ZipApart z TI TO i1 i2 l1 l2)(lt:z<s.heap.objs.size/\TI<s.heap.objs.size/\TO<s.heap.objs.size/\i1<s.heap.objs.size/\i2<s.heap.objs.size/\l1<s.heap.objs.size/\l2<s.heap.objs.size)
  (hsz:min xs.size ys.size<=av) (hz:IsZip s.heap z TI TO .none) (hTI:IsPair s.heap TI (.ref i1) (.ref i2)) (hTO:∃a b,IsPair s.heap TO a b) (h1:s.heap.IsListIter i1 l1 0) (h2:s.heap.IsListIter i2 l2 0) (hl1:s.heap.IsList l1 xs) (hl2:s.heap.IsList l2 ys)
  (hQ:∀h' Ts' c',(∀b o,b≠z->b≠TO->b≠i1->b≠i2->s.heap.get? b=some o->h'.get? b=some o)->h'.get? s.heap.objs.size=some {cls:=.type "list",dict:=none,data:=.seq (Ts'.map ay).toArray c',slots:=#[]}->Ts'.length=min xs.size ys.size->Pairs h' (s.heap.objs.size+1) xs ys Ts'->Q (.ref s.heap.objs.size) {s with heap:=h'}):
  aB (model prog w) A (call (.type "list") [.ref z]) Q E s:=by
 have ne:∀{b:ae},b<s.heap.objs.size->b≠s.heap.objs.size:=λh=>aE h
 refine callType_codes (Q₁:=λobj s₁=>obj=.ref s.heap.objs.size/\s₁={s with heap:=s.heap.push {cls:=.type "list",data:=.seq #[]}}) F.called_list (F.typeCall_list_1 _) F.entry_list_init
  (code_list_new _ ⟨rfl,rfl⟩) λobj s₁ h₁=>?_
 obtain⟨rfl,rfl⟩:=h₁
 have hS:(s.heap.push {cls:=.type "list",data:=.seq #[]}).get? s.heap.objs.size=some {cls:=.type "list",data:=.seq #[]}:=aU _ rfl
 refine⟨⟨_,hS,rfl⟩,F.args_list_init_2 _ _,?_⟩
 show aB _ A.in1.in1 (do let old <-Builtin.List.listItems (.ref s.heap.objs.size);Builtin.List.listUpdate (.ref s.heap.objs.size) (λ_=>#[]);letGo old.toList.reverse;de (.ref s.heap.objs.size) (.ref z) .none) _ _ _
 refine af ?_
 unfold Builtin.List.listItems
 refine af (wpAny_seqItems hS rfl (au ?_))
 show aB _ A.in1.in1 (updateSeq s.heap.objs.size (λ_=>#[]) >>= λ_=>letGo (#[]:Array ac).toList.reverse >>= λ_=>de (.ref s.heap.objs.size) (.ref z) .none) _ _ _
 refine af (wpAny_updateSeq hS rfl ?_)
 have hS₂:=bz (bP (λ_=>(#[]:Array ac))) hS rfl
 have oth:∀b o,b≠s.heap.objs.size->s.heap.get? b=some o->((s.heap.push {cls:=.type "list",data:=.seq #[]}).update s.heap.objs.size (bP (λ_=>(#[]:Array ac)))).get? b=some o:=
  λb o hb e=>(aV _ _ (bL hb)).trans (ah _ e)
 refine af (wpAny_letGo ?_)
 have hsz2:((s.heap.push {cls:=.type "list",data:=.seq #[]}).update s.heap.objs.size (bP (λ_=>(#[]:Array ac)))).objs.size=s.heap.objs.size+1:=by rw[(dq ..).1,da]
 obtain⟨t1,t2,t3,t4,t5,t6,t7⟩:=lt
 obtain⟨a,b,hTO⟩:=hTO
 refine G8 (N0:=s.heap.objs.size+1) (A:=A.in1) hh D ⟨ne t1,ne t2,ne t3,ne t4,ne t5,ne t6,ne t7⟩ .none _ ⟨bK t1,bK t3,bK t4,bK t5,cq _⟩ (by rw[hsz2];exact aj _) hsz
  ⟨.inl ⟨oth _ _ (ne t1) hz,a,b,oth _ _ (ne t3) hTO⟩,oth _ _ (ne t2) hTI,h1.at λo e=>oth _ o (ne t4) e,h2.at λo e=>oth _ o (ne t5) e,hl1.at λo e=>oth _ o (ne t6) e,hl2.at λo e=>oth _ o (ne t7) e⟩ hS₂ λh' Ts' c' q1 q2 q3 q4=>?_
 exact⟨rfl,hQ h' Ts' c' (λb o b1 b2 b3 b4 e=>q1 b o (aE (ap e)) b1 b2 b3 b4 (oth b o (aE (ap e)) e)) q2 q3 q4⟩
end
noncomputable def Uw(H news:Hp):Hp:=λa=>match news a with|some o=>some o|none=>H a
theorem VE{H news:Hp}{a:ae}(h:news a=none):Uw H news a=H a:=by unfold Uw;rw[h]
theorem GC{H news:Hp}{a:ae}{o:HO}(h:news a=some o):Uw H news a=some o:=by unfold Uw;rw[h]
section
variable {X:Cx}{pins:List (ae×Obj)}{σ:List (Option V)}{H:Hp}{s:ag}{h':aX}
theorem Inv.more{news:Hp}{t':Nat}(I:Inv X pins σ H s)(k:∀b u,s.heap.get? b=some u->h'.get? b=some u)(hp:∀a o,news a=some o->s.heap.objs.size<=a)(new:∀a o,news a=some o->ZV X.prog X.w (Uw H news) h' a o):Inv X pins σ (Uw H news) {s with heap:=h',toks:=t'}:=by
 have old:∀b,b<s.heap.objs.size->news b=none:=λb hb=>by
  cases e:news b with
 |none=>rfl
 |some o=>exact absurd (aD hb (hp b o e)) (bJ _)
 have oldH:∀b u,H b=some u->Uw H news b=some u:=λb u e=>by rw[VE (old b (I.hok.lt e))];exact e
 refine I.un ⟨λb u q _ _ _=>k b u q,λb u q _ _ _=>⟨u.slots,k b u q⟩,λb u q n _=>by rw[VE (old b (ap q))];exact n,λb u q _=>⟨u,k b u q⟩,λb xs q=>oldH _ _ q,λb o u q=>oldH _ _ q,λb ps q=>⟨#[],by rw[oldH _ _ q];simp⟩⟩ λb u q=>?_;cases e:news b with
|some o=>rw[GC e]at q;cases q;exact new b _ e
|none=>rw[VE e]at q;exact(I.hok b u q).stay (λc v _ q=>k c v q) (λc q=>oldH _ _ q) λc xs q=>oldH _ _ q
end
def Lw(H H':Hp)(l:ae)(rows:List (List V)):Prop:=Same H H'/\H l=none/\∃as:List ae,H' l=some (.lst (as.map V.ref))/\as.length=rows.length/\(∀a∈as,H a=none)/\∀(i:Nat)a r,as[i]?=some a->rows[i]?=some r->H' a=some (.tup r)
section
variable {X:Cx}{a b:Expr}{ta:TA}{p p2 pos pos2:Pos}
def E1(ta:TA):TE:=λσ H Q=>ta σ H λvs H1=>∃(l1 l2:ae)(xs ys:List V),vs=[.ref l1,.ref l2]/\H1 l1=some (.lst xs)/\H1 l2=some (.lst ys)/\∀H' l,Lw H1 H' l ((xs.zip ys).map λq=>[q.1,q.2])->Q (.ref l) H'
theorem SI{xs:List V}{us:List ac}(r:Vals xs us){j:Nat}{u:ac}(h:us[j]?=some u):∃x,xs[j]?=some x/\RelV x u:=by
 have hj:j<us.length:=(ai.mp h).1;have hj':j<xs.length:=by rw[r.length];exact hj
 obtain⟨u',e,rr⟩:=r.get (gE hj');rw[h]at e;cases e;exact⟨_,gE hj',rr⟩
theorem RL(hc:X.calm=true)(hg:Gl X "list")(hm:X.mg "list"=none)(hg2:Gl X "zip")(hm2:X.mg "zip"=none)(ha:PA X [a,b] ta)(hs:aO [a,b] X.env=[(false,eval a X.env),(false,eval b X.env)]:=by rfl)(hs2:aO [b] X.env=[(false,eval b X.env)]:=by rfl)(hs3:aO [.Call (.Name "zip" p2) [a,b] [] pos2] X.env=[(false,eval (.Call (.Name "zip" p2) [a,b] [] pos2) X.env)]:=by rfl):PE X (.Call (.Name "list" p) [.Call (.Name "zip" p2) [a,b] [] pos2] [] pos) (E1 ta):=by
 intro pins s σ H Q I h;refine wpAny_Call_Name_kw (Vl I hg hm Gi (bX ?_ (by rw[hs3];rfl) (by rfl)));rw[hs3];refine Calls.spliced_cons ?_;refine Call_ (Vl I hg2 hm2 boot_zip (bX (thn (ha pos2 pins s σ H _ I h) λus s1 h90=>?_) (by rw[hs,hs2]) (by rw[hs2];rfl)));obtain⟨vs,H1,I1,r1,q1⟩:=h90;obtain⟨l1,l2,xs,ys,e,hx,hy,q⟩:=q1;subst e;cases r1 with
|cons r rr=>
  cases rr with
 |cons r' rr=>
   cases rr;cases r;cases r';obtain⟨z1,its,n,rv,hl,e⟩:=I1.lstM hx;obtain⟨z2,its2,n2,rv2,hl2,e2⟩:=I1.lstM hy;refine call_zip_2 (xs:=its.toArray) (ys:=its2.toArray) ⟨_,e,rfl,_,rfl⟩ ⟨_,e2,rfl,_,rfl⟩ λh' a1 a2 a3 a4 a5 hsz kk=>?_;refine Calls.spliced_nil ?_;have lt1:=ap e;have lt2:=ap e2;have D:ZipApart (s1.heap.objs.size+4) (s1.heap.objs.size+2) (s1.heap.objs.size+3) s1.heap.objs.size (s1.heap.objs.size+1) l1 l2:=by
    generalize s1.heap.objs.size=N at lt1 lt2;have g:∀(c:Nat)(k:Nat),c<N->c≠N+k:=λc k hc=>by omega
    have g2:∀i j:Nat,i≠j->N+i≠N+j:=λi j h e=>h (Nat.add_left_cancel e);exact⟨g2 2 4 (by decide),g2 3 4 (by decide),g2 0 4 (by decide),g2 1 4 (by decide),g2 2 3 (by decide),g2 2 0 (by decide),g2 2 1 (by decide),g2 3 0 (by decide),g2 3 1 (by decide),g2 0 1 (by decide),g _ 4 lt1,g _ 3 lt1,g _ 0 lt1,g _ 1 lt1,g _ 4 lt2,g _ 3 lt2,g _ 0 lt2,g _ 1 lt2⟩
   have sz:h'.objs.size=s1.heap.objs.size+5:=hsz;refine GP (s:={s1 with heap:=h'}) (xs:=its.toArray) (ys:=its2.toArray) (I1.ok.hd hc) D ?_ ?_ a1 a2 ⟨_,_,a3⟩ a4 a5 ⟨_,kk _ _ e,rfl,_,rfl⟩ ⟨_,kk _ _ e2,rfl,_,rfl⟩ λh'' Ts c' k2 hS hlen hp=>?_
   ·show _<h'.objs.size/\_<h'.objs.size/\_<h'.objs.size/\_<h'.objs.size/\_<h'.objs.size/\_<h'.objs.size/\_<h'.objs.size;rw[sz];generalize s1.heap.objs.size=N at lt1 lt2;have g:∀k:Nat,k<5->N+k<N+5:=λk hk=>by omega
    exact⟨g 4 (by decide),g 2 (by decide),g 3 (by decide),g 0 (by decide),g 1 (by decide),aD lt1 (Nat.le_add_right _ _),aD lt2 (Nat.le_add_right _ _)⟩
   ·simp only[ar];omega
   ·have kold:∀b o,s1.heap.get? b=some o->h''.get? b=some o:=λb o q=>by have hb:=ap q;have g:∀k:Nat,b≠s1.heap.objs.size+k:=λk=>aE (aD hb (Nat.le_add_right _ _));exact k2 b o (g 4) (g 3) (g 0) (g 1) (kk b o q)
    obtain⟨p1,p2,p3⟩:=hp;simp only[ar]at hlen;have lenxy:Ts.length=min xs.length ys.length:=by rw[hlen,hl,hl2]
    let rows:=(xs.zip ys).map λq=>[q.1,q.2]
    let news:Hp:=λc=>if c=h'.objs.size then some (HO.lst (Ts.map V.ref))else if c∈Ts then some (HO.tup (rows.getD (Ts.idxOf c) []))else none
    have hS':h'.objs.size∉Ts:=λz=>Nat.not_succ_le_self _ (p2 _ z).1;have nS:news h'.objs.size=some (.lst (Ts.map V.ref)):=if_pos rfl;have nT:∀c∈Ts,news c=some (.tup (rows.getD (Ts.idxOf c) [])):=λc hc=>by have zc:c≠h'.objs.size:=λz=>hS' (by rw[<-z];exact hc);show(if c=h'.objs.size then some (HO.lst (Ts.map V.ref))else if c∈Ts then some (HO.tup (rows.getD (Ts.idxOf c) []))else none)=_;rw[if_neg zc,if_pos hc]
    have hge:s1.heap.objs.size<=h'.objs.size:=by rw[sz];exact Nat.le_add_right _ _
    have hrow:∀(i:Nat)T r,Ts[i]?=some T->rows[i]?=some r->rows.getD (Ts.idxOf T) []=r:=λi T r h1 h2=>by
     have hi:i<Ts.length:=(ai.mp h1).1;have ei:Ts.idxOf T=i:=by have e:Ts[i]=T:=(ai.mp h1).2;rw[<-e];exact p1.idxOf_getElem i hi
     rw[ei,a9,h2];rfl
    have I2:Inv X pins σ (Uw H1 news) {s1 with heap:=h'',toks:=s1.toks}:=I1.more kold (λc o hc=>?_) (λc o hc=>?_)
    ·refine⟨.ref h'.objs.size,Uw H1 news,I2,rfl,q _ _ ⟨λc o ho=>?_,I1.hok.fresh hge,Ts,GC nS,?_,λc hc=>I1.hok.fresh (ax hge (Nat.le_of_succ_le (p2 c hc).1)),λi T r h1 h2=>?_⟩⟩
     ·rw[VE ?_]
      ·exact ho
      ·have hlt:=I1.hok.lt ho;have zc:c≠h'.objs.size:=aE (aD hlt hge);have zt:c∉Ts:=λz=>bJ _ (aD hlt (ax hge (Nat.le_of_succ_le (p2 c z).1)));show(if c=h'.objs.size then some (HO.lst (Ts.map V.ref))else if c∈Ts then some (HO.tup (rows.getD (Ts.idxOf c) []))else none)=_;rw[if_neg zc,if_neg zt]
     ·rw[lenxy,lm,cg]
     ·rw[GC (nT T (aG h1)),hrow i T r h1 h2]
    ·by_cases z:c=h'.objs.size
     ·rw[z];exact hge
     ·by_cases zz:c∈Ts
      ·exact ax hge (Nat.le_of_succ_le (p2 c zz).1)
      ·have:news c=none:=by show(if c=h'.objs.size then some (HO.lst (Ts.map V.ref))else if c∈Ts then some (HO.tup (rows.getD (Ts.idxOf c) []))else none)=_;rw[if_neg z,if_neg zz]
       rw[this]at hc;cases hc
    ·by_cases z:c=h'.objs.size
     ·subst z;rw[nS]at hc;cases hc;refine⟨by rw[lm,lenxy];omega,Ts.map ay,c',?_,hS⟩;generalize Ts=l;induction l with
     |nil=>exact .nil
     |cons a l ih=>exact .cons rfl ih
     ·by_cases zz:c∈Ts
      ·rw[nT c zz]at hc;cases hc;obtain⟨j,hj⟩:=aY.mp zz;obtain⟨x,y,hx',hy',hpr⟩:=p3 j c hj;obtain⟨vx,ex,rx⟩:=SI rv (j:=j) (by simpa using hx');obtain⟨vy,ey,ry⟩:=SI rv2 (j:=j) (by simpa using hy');have er:rows[j]?=some [vx,vy]:=by show((xs.zip ys).map λq=>[q.1,q.2])[j]?=_;rw[ak,List.getElem?_zip_eq_some (z:=(vx,vy)) |>.mpr ⟨ex,ey⟩];rfl
       rw[hrow j c _ hj er];exact⟨zl,[x,y],.cons rx (.cons ry .nil),⟨_,hpr,rfl,_,rfl⟩⟩
      ·have:news c=none:=by show(if c=h'.objs.size then some (HO.lst (Ts.map V.ref))else if c∈Ts then some (HO.tup (rows.getD (Ts.idxOf c) []))else none)=_;rw[if_neg z,if_neg zz]
       rw[this]at hc;cases hc
end
section
variable {prog:aA}{w:aI}{A:ba}{E:ac->ag->Prop}
theorem Pj{it l:ae}{items:Array ac}(hne:l≠it):∀(n i:Nat)(s:ag)(Q:List ac->ag->Prop),s.heap.IsListIter it l i->s.heap.IsList l items->i+n<=items.size ->(∀h',h'.IsListIter it l (i+n)->dC it s.heap h'->Q ((items.toList.drop i).take n) {s with heap:=h'})->aB (model prog w) A (draw (.ref it) n) Q E s
|0,i,s,Q,hit,_,_,hQ=>by show aB _ _ (pure []) Q E s;exact au (by simpa using hQ s.heap hit (Heap.SameBut.refl ..))
|n+1,i,s,Q,hit,hl,hle,hQ=>by
  have hlt:i<items.size:=by omega
  show aB _ _ (pyNext (.ref it) >>= _) Q E s;refine af (wpAny_pyNext_list_item hit hl (x:=items[i]) (by simp[hlt]) λh₁ hit₁ hs₁=>?_);refine af (bw (Pj hne n (i+1) _ _ hit₁ (hl.at λo e=>hs₁.extBut _ _ hne e) (by omega) λh₂ hit₂ hs₂=>au ?_));have hd:items.toList.drop i=items[i]::items.toList.drop (i+1):=by simp[bS,hlt]
  have:=hQ h₂ (by rw[show i+(n+1)=i+1+n by omega];exact hit₂) (hs₁.trans hs₂);rw[hd,List.take_succ_cons]at this;exact this
theorem Gm{s:ag}{t:ae}{items:Array ac}{Q:List ac->ag->Prop}(hh:A.handled=none)(ht:s.heap.IsList t items)(hQ:∀h',Heap.ExtBut s.heap.objs.size s.heap h'->Q items.toList {s with heap:=h'}):aB (model prog w) A (unpackItems (.ref t) items.size none) Q E s:=by
 have hlt:t≠s.heap.objs.size:=by obtain⟨o,ho,_⟩:=ht;exact aE (ap ho)
 unfold unpackItems;refine af ?_
 ·unfold notIterableAtAll;refine af (wpAny_specialOf ht.typeIs slot_list_iter.lookup ?_);refine au ?_;simp only[bG,if_false];refine af (bw (wpAny_pyIter_list ht ?_));have ht0:(s.heap.push {cls:=.type "list_iterator",data:=.fields #[.ref t,.int 0 0]}).IsList t items:=ht.at λo e=>ah _ e;refine af (bw (Pj hlt items.size 0 _ _ ⟨_,aU _ rfl,rfl,rfl⟩ ht0 (by omega) λh₁ hit₁ hs₁=>?_));have hall:List.take items.size (List.drop 0 items.toList)=items.toList:=by rw[List.drop_zero];exact aZ (by simp)
  rw[hall];rw[if_neg (by simp)];have ht₁:h₁.IsList t items:=ht0.at λo e=>hs₁.extBut _ _ hlt e;refine af (bw (wpAny_pyNext_list_end hh hit₁ ht₁ (by simp) λh₂ he₂=>?_));simp only[Option.isSome_none,bG,if_false];refine au (hQ h₂ λb o hb e=>he₂ b o hb (hs₁.extBut b o hb (ah _ e)))
theorem Gj{s:ag}{env:Env}{elts:List Expr}{x1}{pos:Pos}{t:ae}{items:Array ac}{Q:Unit->ag->Prop}(hh:A.handled=none)(ht:s.heap.IsList t items)(hn:(assignEach elts env).length=items.size)(hstar:(assignEach elts env).findIdx? (·.1)=none)(h:∀h',Heap.ExtBut s.heap.objs.size s.heap h'->aB (model prog w) A (assignInOrder ((assignEach elts env).map (·.2)) items.toList) Q E {s with heap:=h'}):aB (model prog w) A (assign (.Tuple elts x1 pos) env (.ref t)) Q E s:=by rw[assign_Tuple];refine af (wpAny_standAt ?_);unfold unpack;rw[hn,hstar];exact af (bw (Gm hh ht h))
end
section
variable {X:Cx}{pos:Pos}
def gLst(K:aa)(n:Nat)(t:TGs):TG:=λv σ H Q=>∃a xs,v=.ref a/\SqL K H a xs/\xs.length=n/\t xs σ H Q
theorem Kx{es:List Expr}{k:Nat}{t:TGs}{n:Nat}(hc:X.calm=true)(h:PGs X es t)(hn:(assignEach es X.env).length=n:=by rfl)(hst:(assignEach es X.env).findIdx? (·.1)=none:=by rfl):PG X (.Tuple es k pos) (gLst X.K n t):=by intro pins s σ H v u Q I r hw;obtain⟨a,xs,e1,hq,hl,hw⟩:=hw;subst e1;cases r;obtain⟨its,rv,ht,hz⟩:=I.list hq;refine Gj (I.ok.hd hc) ht.isList (by simp[hn,<-hl,rv.length]) hst λh' hx=>?_;have I1:Inv X pins σ H {s with heap:=h'}:=I.kept (t':=s.toks) λb o e=>hx b o (aE (ap e)) e;exact h pins _ σ H xs _ Q I1 (by simpa using rv) hw
noncomputable def rLen(K:aa):List V->Hp->VK->Prop:=λxs H Q=>∃p ys,xs=[.ref p]/\(SqL K H p ys\/SqT K H p ys)/\Q (.int ys.length) H
theorem Yh:Xo X (.builtin "len") (rLen X.K):=JX
noncomputable def rSum(K:aa):List V->Hp->VK->Prop:=λxs H Q=>∃(p:ae)(ns:List Int),xs=[.ref p]/\SqL K H p (ns.map V.int)/\Q (.int ns.sum) H
theorem Pp(hc:X.calm=true):Xo X (.builtin "sum") (rSum X.K):=by intro pins s σ H xs us Q I r h;obtain⟨p,ns,rfl,hq,q⟩:=h;obtain⟨u,rfl,rx⟩:=vals1 r;cases rx;obtain⟨its,rv,pl,hz⟩:=I.list hq;have hi:IntsAre its ns:=intsAre_of rv;obtain⟨xs',e⟩:=(show AllInts its.toArray from hi.allInts).items;have hl:s.heap.IsList p (intItems xs'):=e▸pl.isList;refine sum_intListG (I.ok.hd hc) hl λh' tk t' hk=>⟨.int ns.sum,H,I.kept hk,⟨t',?_⟩,q⟩;rw[preSum_eq,aZ (by simp),<-nums_intItems,<-e];have:numsOf its=ns:=hi.numsOf;rw[show its.toArray.toList=its from rfl,this]
end
mutual
inductive Is(H:Hp):V->PyData->Prop
|non:Is H .non .none
|bl (b:Bool):Is H (.bl b) (.bool b)
|int (i:Int):Is H (.int i) (.int i)
|str (z:Str):Is H (.str z) (.str z)
|lst {a:ae}{xs:List V}{ds:List PyData} (e:H a=some (.lst xs)) (r:IsAll H xs ds):Is H (.ref a) (.list ds)
|tup {a:ae}{xs:List V}{ds:List PyData} (e:H a=some (.tup xs)) (r:IsAll H xs ds):Is H (.ref a) (.tuple ds)
inductive IsAll(H:Hp):List V->List PyData->Prop
|nil:IsAll H [] []
|cons {x:V}{xs:List V}{d:PyData}{ds:List PyData} (h:Is H x d) (r:IsAll H xs ds):IsAll H (x::xs) (d::ds)
end
section
variable {P:aA}{w:aI}{H:Hp}{h:aX}
mutual
theorem Is.reads(ok:HOk P w H h):∀{x:V}{d:PyData}{v:ac},Is H x d->RelV x v->∃as,Reads h v d as
|_,_,_,.non,r=>by cases r;exact⟨_,.none⟩
|_,_,_,.bl b,r=>by cases r;exact⟨_,.bool b⟩
|_,_,_,.int i,r=>by obtain⟨t,rfl⟩:=r;exact⟨_,.int i t⟩
|_,_,_,.str z,r=>by obtain⟨t,rfl⟩:=r;exact⟨_,.str z t⟩
|_,_,_,.lst e q,r=>by cases r;obtain⟨_,its,n,rv,e2⟩:=ok _ _ e;obtain⟨as,ra⟩:=IsAll.reads ok q rv;exact⟨_,.list e2 rfl rfl (by simpa using ra)⟩
|_,_,_,.tup e q,r=>by cases r;obtain⟨_,its,rv,o,e2,hc,n,hd⟩:=ok _ _ e;obtain⟨as,ra⟩:=IsAll.reads ok q rv;exact⟨_,.tuple e2 hc hd (by simpa using ra)⟩
theorem IsAll.reads(ok:HOk P w H h):∀{xs:List V}{ds:List PyData}{us:List ac},IsAll H xs ds->Vals xs us->∃as,ReadsAll h us ds as
|_,_,_,.nil,r=>by cases r;exact⟨_,.nil⟩
|_,_,_,.cons a b,r=>by
  cases r with
 |cons r1 r2=>obtain⟨as,h1⟩:=Is.reads ok a r1;obtain⟨bs,h2⟩:=IsAll.reads ok b r2;exact⟨_,.cons h1 h2⟩
end
mutual
theorem Is.nodict:∀{x:V}{d:PyData},Is H x d->d.hasDict=false
|_,_,.non=>by simp only[dZ]
|_,_,.bl b=>by simp only[dZ]
|_,_,.int i=>by simp only[dZ]
|_,_,.str z=>by simp only[dZ]
|_,_,.lst e q=>by simp only[dZ];exact IsAll.nodict q
|_,_,.tup e q=>by simp only[dZ];exact IsAll.nodict q
theorem IsAll.nodict:∀{xs:List V}{ds:List PyData},IsAll H xs ds->PyData.hasDictAll ds=false
|_,_,.nil=>by simp only[PyData.hasDictAll]
|_,_,.cons a b=>by simp only[PyData.hasDictAll,Is.nodict a,IsAll.nodict b,Bool.or_false]
end
mutual
theorem Is.same{H':Hp}(s:Same H H'):∀{x:V}{d:PyData},Is H x d->Is H' x d
|_,_,.non=>.non
|_,_,.bl b=>.bl b
|_,_,.int i=>.int i
|_,_,.str z=>.str z
|_,_,.lst e q=>.lst (s _ _ e) (IsAll.same s q)
|_,_,.tup e q=>.tup (s _ _ e) (IsAll.same s q)
theorem IsAll.same{H':Hp}(s:Same H H'):∀{xs:List V}{ds:List PyData},IsAll H xs ds->IsAll H' xs ds
|_,_,.nil=>.nil
|_,_,.cons a b=>.cons (Is.same s a) (IsAll.same s b)
end
end
section
variable {X:Cx}
noncomputable def Fd:List V->Hp->VK->Prop:=λxs H Q=>∃a d,xs=[.ref a]/\Is H (.ref a) d/\d.showable=true/\d.depth<=64/\d.shown.length<=av/\Q (.str d.shown) H
theorem NE{k:Nat}(hr:Room k X.A):Xo X (.builtin "repr") Fd:=by intro pins s σ H xs us Q I r h;obtain⟨a,d,rfl,hd,hs,hdp,hz,q⟩:=h;obtain⟨u,rfl,rx⟩:=vals1 r;obtain⟨as,rd⟩:=hd.reads I.hok rx;cases rx;exact repr_of_reads' rd hs (PyData.noDict_hsm hd.nodict) hr.gd (by have:=hr.un;omega) (λ_ _ e=>e) (λh' u tk hk=>⟨.str d.shown,H,I.kept hk,⟨u,rfl⟩,q⟩) hz
end
theorem Zh.new'{b l:ae}{H H1:Hp}{o:HO}(x:Zh b H H1)(hl:H1 l=none):Zh b H (L2.upd H1 l o):=λc u h hc=>by rw[Zj (Zk (x c u h hc) hl)];exact x c u h hc
theorem Zh.put{b:ae}{H H1:Hp}{o:HO}(x:Zh b H H1):Zh b H (L2.upd H1 b o):=λc u h hc=>by rw[Zj hc];exact x c u h hc
theorem at_of{α:Type}{xs:List α}{r:Int}(h0:0<=r)(h1:r<(xs.length:Int)):∃v,atI xs r=some v/\v∈xs:=by
 have e1:((r.toNat:Nat):Int)=r:=Int.toNat_of_nonneg h0;have hr':r.toNat<xs.length:=by omega
 refine⟨xs[r.toNat],?_,aW hr'⟩;have h:=ZL (xs:=xs) (gE hr');rwa [e1]at h
end L2
namespace WD
open PySem L2 PySem.Spec PyProof.Rows TB
noncomputable def Blts:List Str:=["len","range","int","list","tuple","zip","sum","repr","max","isinstance","bool","str","enumerate"]
noncomputable def boxV(x y z:Int):HO:=.lst [.int x,.int y,.int z]
def Zu(H:Hp)(b:ae):Prop:=∃x y z:Int,H b=some (boxV x y z)
theorem Zu.new{H:Hp}{b l:ae}{o:HO}(h:Zu H b)(hl:H l=none):Zu (upd H l o) b:=by obtain⟨x,y,z,e⟩:=h;exact⟨x,y,z,by rw[Zj (Zk e hl)];exact e⟩
theorem Zu.ne{H:Hp}{b l:ae}(h:Zu H b)(hl:H l=none):l≠b:=by obtain⟨x,y,z,e⟩:=h;exact(Zk e hl).symm
theorem Zu.same{H H':Hp}{b:ae}(h:Zu H b)(s:Same H H'):Zu H' b:=by obtain⟨x,y,z,e⟩:=h;exact⟨x,y,z,s _ _ e⟩
theorem al{b c:ae}{H:Hp}{o:HO}{G:Hp->Prop}(B:Zu H b)(h:H c=none)(k:∀H',Zu H' b->Zh b H H'->H' c=some o->c≠b->G H'):G (upd H c o):=k _ (B.new h) ((Zh.refl b H).new' h) Ze (B.ne h)
theorem al2{b c:ae}{H:Hp}{o:HO}{R:Type}{q:R}{G:Hp->R->Prop}(B:Zu H b)(h:H c=none)(k:∀H',Zu H' b->Zh b H H'->H' c=some o->c≠b->G H' q):G (upd H c o) q:=al (G:=λH=>G H q) B h k
theorem al2E{b c:ae}{H:Hp}{o o':HO}{R:Type}{q:R}{G:Hp->R->Prop}(e:o=o')(B:Zu H b)(h:H c=none)(k:∀H',Zu H' b->Zh b H H'->H' c=some o'->c≠b->G H' q):G (upd H c o) q:=by subst e;exact al2 B h k
theorem alE{b c:ae}{H:Hp}{o o':HO}{G:Hp->Prop}(e:o=o')(B:Zu H b)(h:H c=none)(k:∀H',Zu H' b->Zh b H H'->H' c=some o'->c≠b->G H'):G (upd H c o):=k _ (B.new h) ((Zh.refl b H).new' h) (by rw[Ze,e]) (B.ne h)
def Ds:Sp:=λvs H Q _=>∃c:Int,vs=[.int c]/\∀l H',H l=none->Zu H' l->Same H H'->Q (.ref l) H'
def YS:Sp:=λvs H Q _=>∃(b:ae)(n:Int),vs=[.ref b,.int n]/\Zu H b/\0<n/\n.natAbs.log2<9000/\∀(r:Int)H',0<=r->r<n->Zu H' b->Zh b H H'->Q (.int r) H'
def Pz:Sp:=λvs H Q _=>∃(b:ae),vs=[.ref b]/\Zu H b/\∀(r:Int)H',0<=r->r<=1000->Zu H' b->Zh b H H'->Q (.int r) H'
theorem N4(a m:Int)(h:0<m)(hm:m<2 ^ 64):-(2 ^ 64)<a % m/\a % m<2 ^ 64:=by have h1:=Int.emod_nonneg a (by omega:m≠0);have h2:=Int.emod_lt_of_pos a h;omega
theorem Yz{n:Int}(h:0<=n)(h2:n<=1000):n.natAbs.log2<9000:=b6 (Nat.log2_le_self _) (by omega)
theorem tkC{b:ae}{i:Nat}{n:Int}{σ:L2.St}{H:Hp}{Q:VK}{E:XK}(hb:Zu H b)(k:∀(r:Int)H',0<=r->r<n->Zu H' b->Zh b H H'->Q (.int r) H')(h0:0<n:=by decide)(hl:n.natAbs.log2<9000:=by exact Yz (by decide) (by decide))(hv:σ[i]?=some (some (.ref b)):=by rfl):NY YS [] E (JZ (tVar i) (JZ (tC (.int n)) tNil)) σ H Q:=⟨_,hv,b,n,rfl,hb,h0,hl,k⟩
theorem ZE{p:Bool}{A B:Prop}(h1:p=true->A)(h2:p=false->B):if p=true then A else B:=by
 cases p
 ·exact h2 rfl
 ·exact h1 rfl
section
variable {P:aA}{w:aI}{K:aa}{mg:Str->Option ac}{base:aX}
theorem RF:FnScope ["_law_cell_here"] ["_law_cell_here"] (Zg T.f__law_box):=scO (by decide +kernel)
theorem Dg(B:∀x∈Blts,mg x=none)(D:Df K mg "_law_box" T.f__law_box ["_law_cell_here"]):Can P w K mg base 1 "_law_box" ["_law_cell_here"] Ds:=by
 refine D.cn RF λf cdv A outer s H vs Q E hr h=>?_;obtain⟨c,rfl,k⟩:=h;refine⟨_,(Zi (Zl (ZO (Zb (ZJ (WZ rfl) rfl (B _ (by decide +kernel)) PyProof.Rows.boot_max (Zb Zd (Zb (Zy Jt (pv 0) (Zy KF Zd Zd)) Zc))) (Zb (Zy XO (pv 0) Zd) (Zb Zd Zc)))))),?_⟩;try dsimp only[cxOf,Cx.nox]
 refine⟨_,rfl,_,_,rfl,rfl,⟨by decide,by decide,by decide⟩,_,_,rfl,rfl,_,_,rfl,_,rfl,_,_,rfl,rfl,(by show(0:Int)<2147483647;decide),(zl),λp hp=>?_⟩;exact k p _ hp ⟨_,_,_,Ze⟩ (sameNew (Same.refl _) hp)
theorem Jl:FnScope [q_b,"_law_many","_law_digit","_law_number_here"] [q_b,"_law_many"] (Zg T.f__law_take):=scO (by decide +kernel)
theorem Le(D:Df K mg "_law_take" T.f__law_take [q_b,"_law_many"]):Can P w K mg base 1 "_law_take" [q_b,"_law_many"] YS:=by
 refine D.cn Jl λf cdv A outer s H vs Q E hr h=>?_;obtain⟨b,n,rfl,⟨x,y,z,hb⟩,hn,hlog,k0⟩:=h;have k:∀r x' y' z':Int,0<=r->r<n->Q (.int r) (upd H b (boxV x' y' z')):=λr x' y' z' h0 h1=>k0 r _ h0 h1 ⟨_,_,_,Ze⟩ (Zh.refl b H).put;have a0:atI [V.int x,V.int y,V.int z] 0=some (.int x):=ZL (j:=0) rfl;refine⟨_,(Zf (ZC (Zr KH (il K (pv 0) Zd) Zd (Zx _)) (Zf (ZM (i:=2) Jl.nd rfl (aJ rfl) (Zy XO (il K (pv 0) Zd) (pv 1))) (Zf (V2 (Zy KJ (il K (pv 0) Zd) (pv 1)) (Kw (pv 0) Zd set_list)) (Zi (Zl (pv 2))))) Zq) (Zf (V2 (Zy Z0 (il K (pv 0) Zd) Zd) (Kw (pv 0) Zd set_list)) (Zf (ZM (i:=3) Jl.nd rfl (aJ rfl) (Zy XO (Zy Z0 (Zy Z0 (Zy Gy (il K (pv 0) Zd) Zd) (Zy Gy Zd (il K (pv 0) Zd))) Zd) Zd)) (Zf (ZM (i:=3) Jl.nd rfl (aJ rfl) (Zy XO (Zy Gy (Zy XO (Zy Gy (pv 3) (pv 3)) Zd) Zd) Zd)) (Zi (Zl (Zy XO (Zy Ta (Zy XO (Zy Gy (pv 3) (pv 3)) Zd) Zd) (pv 1)))))))),?_⟩;try dsimp only[cxOf,Cx.nox]
 refine iaL hb a0 ⟨_,_,rfl,rfl,_,rfl,?_⟩;refine ite2 (λe=>?_) (λe=>?_)
 ·refine iaL hb a0 ⟨_,rfl,_,_,rfl,rfl,hn,?_⟩;refine iaL hb a0 ⟨_,rfl,_,_,rfl,rfl,⟨hn,hlog⟩,?_⟩;refine⟨_,rfl,b,_,0,0,rfl,rfl,hb,rfl,_,rfl,?_⟩;exact k _ _ _ _ (Int.emod_nonneg _ (by omega)) (Int.emod_lt_of_pos _ hn)
 ·have a2:atI [V.int x,V.int y,V.int z] 2=some (.int z):=ZL (j:=2) rfl;refine iaL hb a2 ⟨_,_,rfl,rfl,?_⟩;refine⟨_,rfl,b,_,2,2,rfl,rfl,hb,rfl,?_⟩;have hb2:upd H b (.lst ([V.int x,V.int y,V.int z].set 2 (.int (z+1)))) b=some (boxV x y (z+1)):=Ze;have b1:atI [V.int x,V.int y,V.int (z+1)] 1=some (.int y):=ZL (j:=1) rfl;have b2:atI [V.int x,V.int y,V.int (z+1)] 2=some (.int (z+1)):=ZL (j:=2) rfl;refine iaL hb2 b1 ⟨_,_,rfl,rfl,.inr ⟨by decide,by decide⟩,iaL hb2 b2 ⟨_,_,rfl,rfl,.inl ⟨by decide,by decide⟩,_,_,rfl,rfl,_,_,rfl,rfl,_,_,rfl,rfl,(by show(0:Int)<2147483629;decide),?_⟩⟩;refine⟨_,rfl,_,rfl,_,_,rfl,rfl,.inl (N4 _ _ (by decide) (by decide)),_,_,rfl,rfl,(by show(0:Int)<2147483587;decide),_,_,rfl,rfl,.inr ⟨by decide,by decide⟩,_,_,rfl,rfl,(by show(0:Int)<2147483647;decide),?_⟩;refine⟨_,rfl,_,rfl,_,_,rfl,rfl,.inl (N4 _ _ (by decide) (by decide)),_,_,rfl,rfl,(by show(0:Int)<2147483629;decide),_,_,rfl,rfl,⟨by decide,by decide⟩,_,rfl,_,_,rfl,rfl,hn,?_⟩;exact k _ _ _ _ (Int.emod_nonneg _ (by omega)) (Int.emod_lt_of_pos _ hn)
theorem GU:FnScope [q_b,"_law_way_here"] [q_b] (Zg T.f__law_size):=scO (by decide +kernel)
theorem Lf(CT:Can P w K mg base 1 "_law_take" [q_b,"_law_many"] YS)(D:Df K mg "_law_size" T.f__law_size [q_b]):Can P w K mg base 2 "_law_size" [q_b] Pz:=by
 refine D.cn GU λf cdv A outer s H vs Q E hr h=>?_;obtain⟨b,rfl,hb,k⟩:=h;refine⟨_,(Zf (ZM (i:=1) GU.nd rfl (aJ rfl) (cn CT hr (Zb (pv 0) (Zb Zd Zc)))) (Zf (ZC (Zr Yl (pv 1) Zd (Zx _)) (Zi (Zl (il K (ZO (Zb Zd (Zb Zd (Zb Zd Zc)))) (cn CT hr (Zb (pv 0) (Zb Zd Zc)))))) Zq) (Zi (Zl (cn CT hr (Zb (pv 0) (Zb Zd Zc))))))),?_⟩;try dsimp only[cxOf,Cx.nox]
 refine tkC hb (λr H1 h0 h1 B1 S1=>?_);refine⟨_,rfl,rfl,_,rfl,?_⟩;refine ite2 (λe=>?_) (λe=>?_)
 ·refine⟨zl,λl hl=>?_⟩;have nlb:=B1.ne hl;refine tkC (B1.new hl) (λr2 H2 h02 h12 B2 S2=>?_);obtain⟨v,hv,hm⟩:=at_of (xs:=[V.int 0,.int 1000,.int 999]) h02 h12;refine⟨l,_,r2,v,rfl,rfl,SqL.of (S2 _ _ Ze nlb),hv,?_⟩;have S:Zh b H H2:=(S1.new' hl).trans S2;simp only[aq,aK,or_false]at hm;rcases hm with rfl|rfl|rfl
  ·exact k 0 H2 (by decide) (by decide) B2 S
  ·exact k 1000 H2 (by decide) (by decide) B2 S
  ·exact k 999 H2 (by decide) (by decide) B2 S
 ·refine tkC B1 (λr2 H2 h02 h12 B2 S2=>?_);exact k r2 H2 h02 (by omega) B2 (S1.trans S2)
end
noncomputable abbrev codes:=K1.codes
noncomputable abbrev LET:=K1.LET
theorem GO{a b:Str}(h:codes a=codes b):a=b:=by
 obtain⟨x⟩:=a;obtain⟨y⟩:=b;have:x=y:=by simpa[K1.codes]using h
 rw[this]
theorem Y4(a b:Str):codes (a++b)=codes a++codes b:=by show(a.cps++b.cps).toList=_;simp[K1.codes]
theorem WH(c:Nat):codes ⟨#[c]⟩=[c]:=rfl
theorem V0{α:Type}(xs:List α)(a:Nat):∀k,a+k<=xs.length->((bN k).map λi=>a+i).filterMap (λi=>xs[i]?)=(xs.drop a).take k
|0,_=>by simp
|k+1,h=>by
  rw[List.range_succ,aN,List.filterMap_append,V0 xs a k (by omega)];have hk:a+k<xs.length:=by omega
  rw[bY];congr 1;simp[hk]
theorem KU(n:Nat)(j:Int)(h:0<=j):df none (some j) 1 n=(bN (min j.toNat n)).map λi=>0+i:=by
 unfold df sliceRange;obtain⟨m,rfl⟩:=Int.eq_ofNat_of_zero_le h;simp only[show(1:Int)>0 by decide,if_true,show ¬(m:Int)<0 by omega,if_false];rw[show max 0 (min (m:Int) n)=((min m n:Nat):Int) by omega,a8];generalize min m n=t;have e:(if(0:Int)<t then((t:Int)-0+1-1) / 1 else 0).toNat=t:=by rw[Int.ediv_one];split<;>omega
 rw[e];apply List.map_congr_left;intro k _;omega
theorem KW(n:Nat)(j:Int)(h:0<=j)(h2:j<=n):df (some j) none 1 n=(bN (n-j.toNat)).map λi=>j.toNat+i:=by
 unfold df sliceRange;obtain⟨m,rfl⟩:=Int.eq_ofNat_of_zero_le h;simp only[show(1:Int)>0 by decide,if_true,show ¬(m:Int)<0 by omega,if_false];rw[show max 0 (min (m:Int) n)=m by omega,a8];have e:(if(m:Int)<(n:Int)then((n:Int)-m+1-1) / 1 else 0).toNat=n-m:=by rw[Int.ediv_one];split<;>omega
 rw[e];apply List.map_congr_left;intro k _;omega
theorem QH(x:Str)(l:List Nat):(l.filterMap (x.cps[·]?))=l.filterMap (λi=>(codes x)[i]?):=by congr 1;funext i;simp[K1.codes]
theorem ZI(x:Str):(codes x).length=x.length:=K1.clen x
theorem V8(x:Str)(j:Int)(h:0<=j):codes (Txt.slice x none (some j))=(codes x).take j.toNat:=by
 unfold Txt.slice;rw[KU _ _ h];split
 ·rename_i hq;have:min j.toNat x.length=x.length:=by simpa using hq
  rw[aZ (by rw[ZI];omega)]
 ·show(List.filterMap _ _)=_;rw[QH,V0 _ 0 _ (by rw[ZI];omega),List.drop_zero];rcases Nat.le_total j.toNat x.length with hh|hh
  ·rw[Nat.min_eq_left hh]
  ·rw[Nat.min_eq_right hh,aZ (by rw[ZI];exact aj _),aZ (by rw[ZI];omega)]
theorem R4(x:Str)(j:Int)(h:0<=j)(h2:j<=x.length):codes (Txt.slice x (some j) none)=(codes x).drop j.toNat:=by
 unfold Txt.slice;rw[KW _ _ h h2];split
 ·rename_i hq;have:x.length-j.toNat=x.length:=by simpa using hq
  have hl:=ZI x;rcases cD x.length with e|e
  ·have:codes x=[]:=dh (by omega);rw[this];simp
  ·have:j.toNat=0:=by omega
   rw[this,List.drop_zero]
 ·show(List.filterMap _ _)=_;rw[QH,V0 _ j.toNat _ (by rw[ZI];omega),aZ (by rw[bI,ZI];omega)]
theorem Nx:∀(ts:List Str),codes (Txt.join ce ts)=(ts.map codes).flatten
|[]=>rfl
|[t]=>by show codes (Txt.join ce [t])=_;unfold Txt.join;rw[PySem.StrLaws.glued_eq_join];show codes t=_;simp
|t::u::r=>by have ih:=Nx (u::r);unfold Txt.join at ih ⊢;rw[PySem.StrLaws.glued_eq_join]at ih ⊢;show codes (t++ce++Str.join ce (u::r))=_;rw[Y4,Y4,ih];simp[K1.codes,ce]
def Nm(t:Str):Prop:=1<=(codes t).length/\(codes t).length<=8/\∀c∈codes t,c∈LET
def Bs(n:Nat)(t:Str):Prop:=(codes t).length=n/\∀c∈codes t,c∈LET
theorem Bs.join{ts:List Str}(h:∀t∈ts,Bs 1 t):Bs ts.length (Txt.join ce ts):=by
 unfold Bs;rw[Nx];induction ts with
|nil=>simp
|cons t r ih=>
  obtain⟨a,b⟩:=h t ao;obtain⟨a',b'⟩:=ih λu hu=>h u (am _ hu);refine⟨by simp only[aQ,List.flatten_cons,aT,bh];omega,λc hc=>?_⟩;rw[aQ,List.flatten_cons]at hc;rcases bp.mp hc with hc|hc
  ·exact b c hc
  ·exact b' c hc
noncomputable def wds:List Str:=["home","ride","turns","place","way","group","out","wait"]
noncomputable def wdsFrom(a n:Nat):List Str:=(bN n).map λk=>wds.getD ((a+k) % 8) ""
theorem DG:∀a<8,∀n<9,(wdsFrom a n).Nodup:=by decide +kernel
theorem DF:∀t∈wds,1<=(codes t).length/\(codes t).length<=8/\∀c∈codes t,c∈LET:=by decide +kernel
theorem Rm(a n:Nat):∀t∈wdsFrom a n,Nm t:=λt ht=>by obtain⟨k,_,rfl⟩:=aw.mp ht;have:(a+k) % 8<wds.length:=Nat.mod_lt _ (by decide);rw[a9,gE this];exact DF _ (aW this)
noncomputable def begs(base:Str)(sz n:Nat):List Str:=(bN n).map λk=>Txt.slice base none (some ((1+(k+sz) % 8:Nat):Int))
theorem Di{base:Str}(hb:Bs 8 base)(sz n:Nat):∀t∈begs base sz n,Nm t:=λt ht=>by obtain⟨k,_,rfl⟩:=aw.mp ht;unfold Nm;rw[V8 _ _ (by omega)];refine⟨by rw[aL,hb.1];omega,by rw[aL,hb.1];omega,λc hc=>hb.2 c (cO hc)⟩
theorem nodup_map_on{α β:Type}{f:α->β}:∀{l:List α},l.Nodup->(∀a∈l,∀b∈l,f a=f b->a=b)->(l.map f).Nodup
|[],_,_=>List.nodup_nil
|a::l,h,i=>by rw[aQ,bQ];rw[bQ]at h;refine⟨λhm=>?_,nodup_map_on h.2 λx hx y hy e=>i x (am _ hx) y (am _ hy) e⟩;obtain⟨b,hb,e⟩:=aw.mp hm;exact h.1 (i b (am _ hb) a ao e▸hb)
theorem Dj{base:Str}(hb:Bs 8 base)(sz:Nat){n:Nat}(hn:n<=8):(begs base sz n).Nodup:=by refine nodup_map_on List.nodup_range λa ha b hb' e=>?_;rw[dz]at ha hb';have e1:=congrArg (λt=>(codes t).length) e;simp only[V8 _ _ (Int.natCast_nonneg _),aL,hb.1,a8]at e1;omega
noncomputable def put(base:Str)(at_:Nat)(c:Nat):Str:=Txt.slice base none (some (at_:Int))++⟨#[c]⟩++Txt.slice base (some (at_:Int)) none
theorem GN{base:Str}{a:Nat}(h:a<=base.length)(c:Nat):codes (put base a c)=(codes base).take a++[c]++(codes base).drop a:=by unfold put;rw[Y4,Y4,V8 _ _ (by omega),R4 _ _ (by omega) (by omega),WH];simp
noncomputable def sgn(f k:Nat):Nat:=LET.getD ((f+5*k) % 26) 0
theorem LC(f k:Nat):sgn f k∈LET:=by have:(f+5*k) % 26<LET.length:=Nat.mod_lt _ (by decide);unfold sgn;rw[a9,gE this];exact aW this
theorem DO:∀f<26,∀n<14,((bN n).map (sgn f)).Nodup:=by decide +kernel
noncomputable def puts(base:Str)(a f n:Nat):List Str:=(bN n).map λk=>put base a (sgn f k)
theorem LM{base:Str}{sz:Nat}(hb:Bs sz base)(hs:sz<=7){a:Nat}(ha:a<=sz)(f n:Nat):∀t∈puts base a f n,Nm t:=λt ht=>by
 obtain⟨k,_,rfl⟩:=aw.mp ht;have hl:base.length=sz:=by rw[<-ZI];exact hb.1
 unfold Nm;rw[GN (by omega)];refine⟨by simp;omega,by simp[hb.1];omega,λc hc=>?_⟩;simp only[bp,bi]at hc;rcases hc with(hc|hc)|hc
 ·exact hb.2 c (cO hc)
 ·rw[hc];exact LC f k
 ·exact hb.2 c (List.mem_of_mem_drop hc)
theorem LP{base:Str}{sz:Nat}(hb:Bs sz base){a:Nat}(ha:a<=sz){f n:Nat}(hf:f<26)(hn:n<14):(puts base a f n).Nodup:=by
 have hl:base.length=sz:=by rw[<-ZI];exact hb.1
 refine nodup_map_on List.nodup_range λx hx y hy e=>?_;have e1:=congrArg codes e;rw[GN (by omega),GN (by omega)]at e1;have e2:sgn f x=sgn f y:=by rw[List.append_assoc,List.append_assoc]at e1;have:=List.append_cancel_left e1;simpa using this
 have nd:=DO f hf n hn;rw[dz]at hx hy;have h1:((bN n).map (sgn f))[x]'(by simpa using hx)=((bN n).map (sgn f))[y]'(by simpa using hy):=by simpa using e2
 exact(List.getElem_inj nd).mp h1
end WD
namespace L2
open PySem PySem.Spec PyProof.Rows
section
variable {X:Cx}
theorem Xh{i:Nat}{x:Str}{pos' pos2:Pos}{elt iter tg:Expr}{ifs:List Expr}{scope:bH}{pos:Pos}{N:List Str}{cp:List (Option Nat)}{wi:TI}{g:TG}{tc:TT}{te:TE}(hNd:X.N.Nodup)(hix:X.N[i]?=some x)(hlx:Loc X.env.scope x)(hc:X.calm=true){sc:bH}{N0:List Str}(hS0:CompScope scope sc)(hN0:CompNames N0 scope N cp)
  (hi:PI X tg iter wi) (hg:∀C s H ex pn,PG (JU X scope N C s H ex pn) tg g) (ht:∀C s H ex pn,PTs (JU X scope N C s H ex pn) ifs tc) (he:∀C s H ex pn,PE (JU X scope N C s H ex pn) elt te)
  (hsw:swapsWith (.ListComp elt [⟨tg,iter,ifs,0⟩] scope pos) (some (.Name x pos')) pos2.line X.env=pure true:=by with_unfolding_all rfl) (hff:X.fn x=true\/X.env.scope.names.lookup x=some .local:=by first|exact .inl rfl|exact .inr rfl|assumption)
  (hsc:X.env.scope=sc:=by rfl) (hxn:X.N=N0:=by rfl) (hs:∀x,foldedSetIterable iter X.env x=pure x:=by intro _;rfl):PS X (.Assign [.Name x pos'] (.ListComp elt [⟨tg,iter,ifs,0⟩] scope pos) pos2) (tAsg (Dq cp wi g tc te) (QY i)):=by
 subst hsc hxn
 have hS:=hS0
 have hN:=hN0
 intro pins s σ H D I h
 rw[exec_Assign_Name_used _ _ _ _ hsw]
 refine af (wpAny_standAt (af ?_))
 show aB _ _ (do let _ <-comprehension (.ListComp elt [⟨tg,iter,ifs,0⟩] scope pos) scope X.env _ (newList []) false (eval iter X.env) (some (assign (.Name x pos') X.env))) _ _ s
 refine af (wpAny_mono (wpAny_comprehension_free (Q:=λ_ s'=>SP X pins D .next s') (use:=some (assign (.Name x pos') X.env)) (cl:=clOf scope X.env) rfl hs (Ny (Nz I hS)) hS.kind hS.loc (thn (hi pins s σ H _ I h) λv s1 h1=>thn h1 λitv s2 h2=>?_)) (λ_ s' hq=>au (au hq)) λ_ _ e=>e)
 obtain⟨it,fp,tn,J,H2,rfl,I2,T,st2,f2,W,⟨m0,w0⟩,turn⟩:=h2
 refine wpAny_newObj_type (wpAny_newFunctionEnv hS.nocell (by intro y hy;simp at hy) (λh4 hns hsb=>?_) hS.kind)
 dsimp only at hns hsb ⊢
 have hz:(s2.heap.push (ZA [] 0)).objs.size=s2.heap.objs.size+1:=da ..
 have hk4:∀b o,(s2.heap.push (ZA [] 0)).get? b=some o->h4.get? b=some o:=λb o e=>hsb.extBut b o (aE (ap e)) (ah _ e)
 have hfo:∀b∈fp,∃o,s2.heap.get? b=some o:=λb hb=>let ⟨o,e,_⟩:=T.obj _ _ st2 b hb;⟨o,e⟩
 have fplt:∀b∈fp,b<s2.heap.objs.size:=λb hb=>let ⟨o,e⟩:=hfo b hb;ap e
 generalize hXc:JU X scope N (s2.heap.push (ZA [] 0)).objs.size {s2 with heap:=s2.heap.push (ZA [] 0)} H2 (s2.heap.objs.size::fp) (X.pn++pins)=Xc
 have J0:∀tk,Inv Xc [(s2.heap.objs.size,ZA [] 0)] (inner cp σ) H2 {s2 with heap:=h4,toks:=tk}:=λtk=>by
  rw[<-hXc]
  exact QW hS hN I2 f2 hfo Jp hns hk4 rfl
 have hg':PG Xc tg g:=hXc▸hg _ _ _ _ _
 have ht':PTs Xc ifs tc:=hXc▸ht _ _ _ _ _
 have he':PE Xc elt te:=hXc▸he _ _ _ _ _
 have eP:Xc.prog=X.prog:=by rw[<-hXc];rfl
 have eW:Xc.w=X.w:=by rw[<-hXc];rfl
 have eK:Xc.K=X.K:=by rw[<-hXc];rfl
 have eA:Xc.A=X.A:=by rw[<-hXc];rfl
 have eC:Xc.calm=true:=by rw[<-hXc];exact hc
 have eX:Xc.xe=NoX:=by rw[<-hXc];rfl
 have eE:Xc.env=compEnvC scope (clOf scope X.env) (s2.heap.push (ZA [] 0)).objs.size X.env:=by rw[<-hXc];rfl
 have eL:Xc.env.locals=(s2.heap.push (ZA [] 0)).objs.size:=by rw[eE];rfl
 have eFs:Xc.fs=frs X.stack:=by rw[<-hXc];rfl
 have eEx:Xc.ex=s2.heap.objs.size::fp:=by rw[<-hXc];rfl
 have eH0:Xc.H₀=H2:=by rw[<-hXc];rfl
 have eS0:Xc.s₀={s2 with heap:=s2.heap.push (ZA [] 0)}:=by rw[<-hXc];rfl
 have ePn:Xc.pn=X.pn++pins:=by rw[<-hXc];rfl
 have stk:∀b∈frs X.stack,b<s2.heap.objs.size:=λb hb=>by
  rcases aq.mp (I2.stkSub b hb)with e|e
  ·rw[e];exact I2.lt
  ·exact Nat.lt_of_not_le λz=>I2.nofs z e
 have hDne:s2.heap.objs.size≠Xc.env.locals:=by rw[eL,hz];exact aE (cq _)
 have hDfs:s2.heap.objs.size∉Xc.fs:=by rw[eFs];exact λz=>bJ _ (stk _ z)
 have hDp:∀p∈Xc.pn,p.1≠s2.heap.objs.size:=λp hp=>by
  rw[ePn]at hp
  exact aE (ap (I2.pin p hp).1)
 have hDc:∀{τ:St}{H':Hp}{s':ag}{ps:List (ae×Obj)},Inv Xc ps τ H' s'->∀x c,Xc.env.cells.lookup x=some c->c≠s2.heap.objs.size:=λI' x c e=>(I'.ok.exf _ (by rw[eEx];exact ao)).2 x c e
 have stat:∀{τ:St}{H':Hp}{s':ag}{ps:List (ae×Obj)}{o:Obj},Inv Xc ps τ H' s'->(∀b∈fp,H' b=none)->∀b∈fp,FpOk Xc [(s2.heap.objs.size,o)] H' b:=λI' hn b hb=>by
  have q:=I'.ok.exf b (by rw[eEx];exact am _ hb)
  refine⟨hn b hb,q.1,I'.ok.exfs b (by rw[eEx];exact am _ hb),.inl (by rw[eEx];exact am _ hb),q.2,λp hp=>?_⟩
  rcases bp.mp hp with hp|hp
  ·rw[ePn]at hp
   exact(f2 b hb).2.2.2.2.2 p hp
  ·have e:p.1=s2.heap.objs.size:=by
    rw[bi]at hp
    rw[hp]
   rw[e]
   exact b5 (fplt b hb)
 have run:∀s5:ag,(∃tk,s5={s2 with heap:=h4,toks:=tk})->codeAny (model X.prog X.w) X.A (.compLoop (.ListComp elt [⟨tg,iter,ifs,0⟩] scope pos) 0 (.ref it) (.ref s2.heap.objs.size) Xc.env)
   (compPost (model X.prog X.w) X.A X.xe (some (assign (.Name x pos') X.env)) (λ_ s'=>SP X pins D .next s') (.ref s2.heap.objs.size) (s2.heap.push (ZA [] 0)).objs.size) s5:=by
  rintro s5 ⟨tk,rfl⟩
  refine G2 (λn s'=>∃i ys τ H' its k,Inv Xc [(s2.heap.objs.size,ZA its k)] τ H' s'/\Vals ys its/\tn i s'.heap/\(∀b∈fp,H' b=none)/\W i n ys τ H'/\ys.length<=av) ?_ m0
   ⟨0,[],inner cp σ,H2,[],0,J0 tk,.nil,T.keep _ _ _ st2 λb hb o e=>hk4 b o (ah _ e),λb hb=>(f2 b hb).1,w0,bV _⟩
  rintro n s3 ⟨i,ys,τ,H3,its,k,I3,rv,st3,fr3,w3,hl3⟩
  rcases turn i n ys τ H3 w3 with⟨stop,qn⟩|⟨go,hl,Nw,hNw,step⟩
  ·have dn:=T.done Xc eP eW eK eC i _ s3 τ H3 NoX I3 (stat I3 fr3) st3 stop
   rw[eA]at dn
   refine thn dn λr s4 h90=>?_
   obtain⟨hr,I4⟩:=h90
   subst hr
   obtain⟨m,hn,_⟩:=id I4.loc
   rw[eL]at hn
   have hs':dC (s2.heap.push (ZA [] 0)).objs.size s4.heap s4.heap:=Heap.SameBut.refl ..
   obtain⟨eD,nD,_⟩:=I4.pin (s2.heap.objs.size,ZA its k) (aP _ ao)
   have u4:=I4.base
   rw[eFs,eEx,eH0,eS0]at u4
   have hD2:H2 s2.heap.objs.size=none:=I2.hok.fresh (aj _)
   have hfree:=I4.free
   rw[eL]at hfree
   have kp:∀b o,s2.heap.get? b=some o->(s2.heap.push (ZA [] 0)).get? b=some o:=λb o e=>ah _ e
   have nD':∀b o,s2.heap.get? b=some o->b≠s2.heap.objs.size:=λb o e=>aE (ap e)
   have nC':∀b o,s2.heap.get? b=some o->b≠(s2.heap.push (ZA [] 0)).objs.size:=λb o e=>by rw[hz];exact aE (bK (ap e))
   have nex:∀b o,s2.heap.get? b=some o->b∉fp->b∉s2.heap.objs.size::fp:=λb o e hb z=>(aq.mp z).elim (nD' b o e) hb
   have I5:Inv X pins σ (upd H3 s2.heap.objs.size (.lst ys)) s4:=by
    refine I2.call' (s':=s4) (ch:=fp) ?_ ⟨λb o e n hb hx=>?_,λb o e n hb hx=>?_,λb o e n hx=>?_,λb o e hx=>?_,λb xs q=>?_,λb o u q=>?_,λb ps q=>?_⟩ ?_ I4.bare λb hb=>?_
    ·have:=I4.os
     rw[eS0]at this
     exact this
    ·exact(hs'.2 b (nC' b o e)).trans (u4.keep b o (kp b o e) n hb (nex b o e hx))
    ·obtain⟨sl,q⟩:=u4.slot b o (kp b o e) n hb (nex b o e hx)
     exact⟨sl,(hs'.2 b (nC' b o e)).trans q⟩
    ·rw[Zj (nD' b o e)]
     exact u4.free b o (kp b o e) n (nex b o e hx)
    ·obtain⟨o',q⟩:=u4.there b o (kp b o e) (nex b o e hx)
     exact⟨o',(hs'.2 b (nC' b o e)).trans q⟩
    ·rw[Zj (Zk q hD2)]
     exact u4.tups b xs q
    ·rw[Zj (Zk q hD2)]
     exact u4.frzs b o u q
    ·rw[Zj (Zk q hD2)]
     exact u4.tbls b ps q
    ·intro b ob q
     have keepC:∀c v,H3 c≠none->s4.heap.get? c=some v->s4.heap.get? c=some v:=λc v hc q=>(hs'.2 c (λz=>hc (by rw[z];exact hfree))).trans q
     by_cases hb:b=s2.heap.objs.size
     ·subst hb
      rw[Ze]at q
      cases q
      exact⟨hl3,its,k,rv,(hs'.2 _ (by rw[hz];exact aE (cq _))).trans eD⟩
     ·rw[Zj hb]at q
      have ok4:ZV X.prog X.w H3 s4.heap b ob:=by have:=I4.hok b ob q;rw[eP,eW]at this;exact this
      refine ok4.stay (λc v hc' q'=>keepC c v ?_ q') (λc q'=>by rw[Zj (Zk q' nD)];exact q') λc xs q'=>by rw[Zj (Zk q' nD)];exact q'
      rcases hc' with rfl|hc'
      ·rw[q];simp
      ·rw[hc'];simp
    ·obtain⟨g0,g1,g2,g3,g4,g5⟩:=f2 b hb
     exact⟨g3,g1,g4,g5⟩
   have hCn:(s2.heap.push (ZA [] 0)).objs.size≠X.env.locals:=by rw[hz];exact b5 (bK I2.lt)
   have hCc:∀y c,X.env.cells.lookup y=some c->c≠(s2.heap.push (ZA [] 0)).objs.size:=λy c e=>by
    obtain⟨v,o,ho,_⟩:=I2.cell y c e
    exact nC' c o ho
   have hCH:upd H3 s2.heap.objs.size (.lst ys) (s2.heap.push (ZA [] 0)).objs.size=none:=by
    rw[Zj (by rw[hz];exact Nat.succ_ne_self _)]
    exact hfree
   refine wpAny_assign_Name (NZ I5 hNd hix hlx (v:=.ref s2.heap.objs.size) rfl (λs' I6 hsb=>?_) hff)
   obtain⟨a,hsb,ha⟩:=hsb
   have haC:(s2.heap.push (ZA [] 0)).objs.size≠a:=by
    rcases ha with rfl|ha
    ·exact hCn
    ·exact(hCc _ _ ha).symm
   refine⟨m,hn.sameBut hsb haC,λh'' hs''=>⟨_,_,I6.turned (t':=s'.toks) (it:=(s2.heap.push (ZA [] 0)).objs.size) (λb o hb e=>(hs''.2 b hb).trans e) hCH hCn ?_ hCc ?_,qn _ nD⟩⟩
   ·right
    rw[hz]
    exact Nat.le_succ_of_le I2.sz
   ·intro p hp
    exact nC' p.1 p.2 (I2.pin p hp).1
  ·have itm:=T.item Xc eP eW eK eC i _ s3 τ H3 NoX I3 (stat I3 fr3) st3 go
   rw[eA]at itm
   refine thn itm λr s4 h91=>?_
   obtain⟨u,hr,h4'⟩:=h91
   subst hr
   refine thn h4' λ_ s5 h92=>?_
   obtain⟨x,H5,I5,r5,y5,st5,fr5⟩:=h92
   have I5':=I5.pinned (stat I5 fr5) (T.obj _ _ st5)
   have a1:=hg' _ s5 τ H5 x u _ I5' r5 (step x H5 y5)
   rw[eP,eW,eA,eX]at a1
   refine thn a1 λ_ s6 h93=>?_
   obtain⟨τ6,H6,I6,q6⟩:=h93
   have a2:=ht' _ s6 τ6 H6 _ I6 q6
   rw[eP,eW,eA,eX]at a2
   refine thn a2 λok s7 h94=>?_
   obtain⟨H7,I7,q7⟩:=h94
   have tnAt:∀{τ':St}{H':Hp}{s':ag},Inv Xc ([(s2.heap.objs.size,ZA its k)]++Gx fp s5.heap) τ' H' s'->tn (i+1) s'.heap/\∀b∈fp,H' b=none:=λI'=>
    ⟨T.keep _ _ _ st5 λb hb o e=>(I'.pin (b,o) (aP _ (aP _ (mem_pinsAt hb e)))).1,λb hb=>by
     obtain⟨o,e,d⟩:=T.obj _ _ st5 b hb
     exact(I'.pin (b,o) (aP _ (aP _ (mem_pinsAt hb e)))).2.1⟩
   cases ok with
  |false=>
    rw[if_neg az]at q7
    rw[if_neg az]
    obtain⟨m',hm,w7⟩:=hNw _ _ _ q7
    exact⟨m',hm,i+1,ys,τ6,H7,its,k,I7.unpinned,rv,(tnAt I7).1,(tnAt I7).2,w7,hl3⟩
  |true=>
    rw[if_pos rfl]at q7
    rw[if_pos rfl]
    have a3:=he' _ s7 τ6 H7 _ I7 q7
    rw[eP,eW,eA,eX]at a3
    refine thn a3 λv s8 h95=>?_
    obtain⟨y,H8,I8,r8,q8⟩:=h95
    obtain⟨m',hm,w8⟩:=hNw _ _ _ q8
    obtain⟨eD,nD,_⟩:=I8.pin (s2.heap.objs.size,ZA its k) (aP _ (bg _ ao))
    have hlen:=rv.length
    refine call_meets cC ⟨_,eD,rfl⟩ F.entry_list_append (F.args_list_append_2 _ _) (PySem.list_append s2.heap.objs.size its.toArray k v (by rw[ar];omega)) ⟨eD,?_⟩
    have q0:=PySem.IsL.update eD (·.push v)
    obtain⟨k',q⟩:∃k',(s8.heap.update s2.heap.objs.size (bP (·.push v))).get? s2.heap.objs.size=some (ZA (its++[v]) k'):=⟨_,by
     have e:(its++[v]).toArray=its.toArray.push v:=by simp
     unfold ZA
     rw[e]
     exact q0⟩
    have I9:Inv Xc [] τ6 H8 s8:=I8.pins_of λp hp=>absurd (show p∈([]:List (ae×Obj))from hp) (by simp)
    refine⟨m',hm,i+1,ys++[y],τ6,H8,its++[v],k',?_,rv.append (.cons r8 .nil),T.keep _ _ _ (tnAt I8).1 λb hb o e=>?_,(tnAt I8).2,w8,?_⟩
    ·refine Inv.pins_of (pins:=[]) (I9.turned (t':=s8.toks) (it:=s2.heap.objs.size) (λb o hb e=>(aV _ _ (bL hb)).trans e) nD hDne (.inl (by rw[eEx];exact ao)) (hDc I9) (λp hp=>hDp p (by simpa using hp))) λp hp=>?_
     have e:p=(s2.heap.objs.size,ZA (its++[v]) k'):=by simpa using hp
     subst e
     exact⟨q,nD,hDne,hDfs,Jp⟩
    ·exact(aV _ _ (b5 (fplt b hb))).trans e
    ·rw[aT,List.length_singleton]
     omega
 have st4:tn 0 h4:=T.keep _ _ _ st2 λb hb o e=>hk4 b o (ah _ e)
 have fin:=codeAny_compStart_list (run _ ⟨_,rfl⟩) (T.self X.A 0 {s2 with heap:=h4,toks:=s2.toks+([]:List (Str×ac)).length} _ (notedBy (model X.prog X.w) X.A Xc.env λex s'=>(compPost (model X.prog X.w) X.A X.xe (some (assign (.Name x pos') X.env)) (λ_ s'=>SP X pins D .next s') (.ref s2.heap.objs.size) (s2.heap.push (ZA [] 0)).objs.size) (.error ex) s') st4 (run _ ⟨_,rfl⟩))
 rw[eE]at fin
 exact fin
end
end L2
namespace WD
open PySem L2 PySem.Spec PyProof.Rows TB
def Ma:Sp:=λvs H Q _=>∃(b:ae)(n:Int),vs=[.ref b,.int n]/\Zu H b/\1<=n/\n<=13/\∀H' l(ts:List Str),Zu H' b->Zh b H H'->H' l=some (.lst (ts.map V.str))->l≠b->(ts.length:Int)=n->ts.Nodup->(∀t∈ts,Nm t)->Q (.ref l) H'
theorem modN{x:Int}{k n:Nat}(h:x=k):x % (n:Int)=((k % n:Nat):Int):=by rw[h];rfl
theorem TQ{p:Bool}{C B A:Prop}(h1:p=true->B->C)(h2:B):if p=true then C else(if false=true then A else B):=by
 cases p
 ·exact h2
 ·exact h1 rfl h2
theorem Ls{r:Int}(h0:0<=r)(h1:r<26):∃c,atI (codes K1.tLET) r=some c/\c∈LET:=by obtain⟨c,h,m⟩:=at_of (xs:=codes K1.tLET) h0 (by rw[show codes K1.tLET=LET from K1.cLET];exact h1);rw[show codes K1.tLET=LET from K1.cLET]at m;exact⟨c,h,m⟩
theorem Sz{α:Type}{xs:List α}{i:Int}{j:Nat}{v:α}(e:i=(j:Int))(h:xs[j]?=some v):atI xs i=some v:=by rw[e];exact ZL h
theorem Pu{b:ae}{H H1:Hp}{i:Nat}{ts:List Str}{c:Nat}(e:ts.length=i)(h:∀t∈ts,Bs 1 t)(hc:c∈LET):(ts++[(⟨#[c]⟩:Str)]).length=i+1/\∀t∈ts++[(⟨#[c]⟩:Str)],Bs 1 t:=by
 refine⟨by simp[e],λt ht=>?_⟩;rcases bp.mp ht with ht|ht
 ·exact h t ht
 ·rw[bi]at ht;subst ht;exact⟨rfl,λd hd=>by rw[bi.mp hd];exact hc⟩
theorem Ru:∀(ts:List Str),(∀t∈ts,Bs 1 t)->(ts.map (·.length)).sum=ts.length
|[],_=>rfl
|t::r,h=>by have h1:=(h t ao).1;rw[ZI]at h1;rw[aQ,List.sum_cons,h1,Ru r λu hu=>h u (am _ hu),bh];omega
theorem DH(a i:Nat):(wds.map V.str)[(a+i) % 8]?=some (.str (wds.getD ((a+i) % 8) "")):=by have:(a+i) % 8<wds.length:=Nat.mod_lt _ (by decide);rw[ak,a9,gE this];rfl
theorem DP(f i:Nat):(codes K1.tLET)[(f+5*i) % 26]?=some (sgn f i):=by have:(f+5*i) % 26<LET.length:=Nat.mod_lt _ (by decide);rw[show codes K1.tLET=LET from K1.cLET,sgn,a9,gE this];rfl
section
variable {P:aA}{w:aI}{K:aa}{mg:Str->Option ac}{base:aX}
theorem ZZ:FnScope [q_b,"_law_many","_law_letters","_law_way_here","_law_words","_law_at","_law_size_here","_law_base","_law_first","_law_signs"] [q_b,"_law_many"] (Zg T.f__law_names):=scO (by decide +kernel)
noncomputable def Ja:bH:=csx [(".0",.local),("_law_k",.local),("_law_at",.free),("_law_words",.free)]
theorem Gd:CompScope Ja (Zg T.f__law_names):=⟨rfl,by decide +kernel,by decide +kernel,by decide +kernel⟩
theorem Gf:(["_law_k","_law_at","_law_words"]:List Str).Nodup:=by decide +kernel
theorem Ge:CompNames [q_b,"_law_many","_law_letters","_law_way_here","_law_words","_law_at","_law_size_here","_law_base","_law_first","_law_signs"] Ja ["_law_k","_law_at","_law_words"] [none,some 5,some 4]:=.mk' (by decide +kernel)
noncomputable def X9:bH:=csx [(".0",.local),("_law_k",.local),("_law_take",.globalImplicit),(q_b,.free),("_law_letters",.free)]
theorem Ga:CompScope X9 (Zg T.f__law_names):=⟨rfl,by decide +kernel,by decide +kernel,by decide +kernel⟩
theorem Gc:(["_law_k",q_b,"_law_letters"]:List Str).Nodup:=by decide +kernel
theorem Gb:CompNames [q_b,"_law_many","_law_letters","_law_way_here","_law_words","_law_at","_law_size_here","_law_base","_law_first","_law_signs"] X9 ["_law_k",q_b,"_law_letters"] [none,some 0,some 2]:=.mk' (by decide +kernel)
noncomputable def X8:bH:=csx [(".0",.local),("_law_k",.local),("_law_base",.free),("_law_size_here",.free)]
theorem U7:CompScope X8 (Zg T.f__law_names):=⟨rfl,by decide +kernel,by decide +kernel,by decide +kernel⟩
theorem U9:(["_law_k","_law_base","_law_size_here"]:List Str).Nodup:=by decide +kernel
theorem U8:CompNames [q_b,"_law_many","_law_letters","_law_way_here","_law_words","_law_at","_law_size_here","_law_base","_law_first","_law_signs"] X8 ["_law_k","_law_base","_law_size_here"] [none,some 7,some 6]:=.mk' (by decide +kernel)
noncomputable def X7:bH:=csx [(".0",.local),("_law_k",.local),("_law_take",.globalImplicit),(q_b,.free),("_law_letters",.free)]
theorem U4:CompScope X7 (Zg T.f__law_names):=⟨rfl,by decide +kernel,by decide +kernel,by decide +kernel⟩
theorem U6:(["_law_k",q_b,"_law_letters"]:List Str).Nodup:=by decide +kernel
theorem U5:CompNames [q_b,"_law_many","_law_letters","_law_way_here","_law_words","_law_at","_law_size_here","_law_base","_law_first","_law_signs"] X7 ["_law_k",q_b,"_law_letters"] [none,some 0,some 2]:=.mk' (by decide +kernel)
noncomputable def X6:bH:=csx [(".0",.local),("_law_k",.local),("_law_first",.free),("_law_letters",.free)]
theorem UZ:CompScope X6 (Zg T.f__law_names):=⟨rfl,by decide +kernel,by decide +kernel,by decide +kernel⟩
theorem U3:(["_law_k","_law_first","_law_letters"]:List Str).Nodup:=by decide +kernel
theorem U0:CompNames [q_b,"_law_many","_law_letters","_law_way_here","_law_words","_law_at","_law_size_here","_law_base","_law_first","_law_signs"] X6 ["_law_k","_law_first","_law_letters"] [none,some 8,some 2]:=.mk' (by decide +kernel)
noncomputable def X5:bH:=csx [(".0",.local),("_law_sign",.local),("_law_at",.free),("_law_base",.free)]
theorem UW:CompScope X5 (Zg T.f__law_names):=⟨rfl,by decide +kernel,by decide +kernel,by decide +kernel⟩
theorem UY:(["_law_sign","_law_at","_law_base"]:List Str).Nodup:=by decide +kernel
theorem UX:CompNames [q_b,"_law_many","_law_letters","_law_way_here","_law_words","_law_at","_law_size_here","_law_base","_law_first","_law_signs"] X5 ["_law_sign","_law_at","_law_base"] [none,some 5,some 7]:=.mk' (by decide +kernel)
theorem WP(B:∀x∈Blts,mg x=none)(CT:Can P w K mg base 1 "_law_take" [q_b,"_law_many"] YS)(D:Df K mg "_law_names" T.f__law_names [q_b,"_law_many"]):Can P w K mg base 2 "_law_names" [q_b,"_law_many"] Ma:=by
 refine D.cn ZZ λf cdv A outer s H vs Q E hr h=>?_;obtain⟨b,n,rfl,hb,hn1,hn2,k⟩:=h;have hsz:n.toNat<=av:=ax (by omega:n.toNat<=1000) (by decide);refine⟨_,(Zf (ZM (i:=2) ZZ.nd rfl (Or.inr rfl) Zn) (Zf (ZM (i:=3) ZZ.nd rfl (aJ rfl) (cn CT hr (Zb (pv 0) (Zb Zd Zc)))) (Zf (ZC (PW.pt (MV (Zr Yl (pv 3) Zd (Zx _)) (Uk (Zr KG (pv 1) Zd (Zx _))))) (Zf (ZM (i:=4) ZZ.nd rfl (Or.inr rfl) (ZO (Zb Zn (Zb Zn (Zb Zn (Zb Zn (Zb Zn (Zb Zn (Zb Zn (Zb Zn Zc)))))))))) (Zf (ZM (i:=5) ZZ.nd rfl (Or.inr rfl) (cn CT hr (Zb (pv 0) (Zb Zd Zc)))) (Zi (Zl (Yy (scope:=Ja) (N:=["_law_k","_law_at","_law_words"]) (cp:=[none,some 5,some 4]) rfl Gd Ge (Y1 rfl (B _ (by decide +kernel)) (Zb (pv 1) Zc)) (λC s H ex pn=>(Zt (i:=0) Gf rfl (aJ rfl))) (λC s H ex pn=>Yp) (λC s H ex pn=>(il K (pv 2) (Zy XO (Zy Z0 (pv 1) (pv 0)) Zd)))))))) Zq) (Zf (ZM (i:=6) ZZ.nd rfl (Or.inr rfl) (cn CT hr (Zb (pv 0) (Zb Zd Zc)))) (Zf (ZC (PW.pt (MV (Zr Yl (pv 3) Zd (Zx _)) (Uk (Zr KG (pv 1) Zd (Zx _))))) (Zf (ZM (i:=7) ZZ.nd rfl (Or.inr rfl) (N7 PySem.F.plainAttrs_str PySem.F.slot_str_join PySem.F.type_str_join Tg Zn (Zb (Yy (scope:=X9) (N:=["_law_k",q_b,"_law_letters"]) (cp:=[none,some 0,some 2]) rfl Ga Gb (Y1 rfl (B _ (by decide +kernel)) (Zb Zd Zc)) (λC s H ex pn=>(Zt (i:=0) Gc rfl (aJ rfl))) (λC s H ex pn=>Yp) (λC s H ex pn=>(Yk Ng (pv 2) (cn CT hr (Zb (pv 1) (Zb Zd Zc))) (λ_ _=>rfl)))) Zc))) (Zi (Zl (Yy (scope:=X8) (N:=["_law_k","_law_base","_law_size_here"]) (cp:=[none,some 7,some 6]) rfl U7 U8 (Y1 rfl (B _ (by decide +kernel)) (Zb (pv 1) Zc)) (λC s H ex pn=>(Zt (i:=0) U9 rfl (aJ rfl))) (λC s H ex pn=>Yp) (λC s H ex pn=>(Yc RB (pv 1) Yw (Yv (Zy Z0 Zd (Zy XO (Zy Z0 (pv 0) (pv 2)) Zd))))))))) Zq) (Zf (ZM (i:=5) ZZ.nd rfl (Or.inr rfl) (cn CT hr (Zb (pv 0) (Zb (Zy Z0 (pv 6) Zd) Zc)))) (Zf (ZM (i:=7) ZZ.nd rfl (Or.inr rfl) (N7 PySem.F.plainAttrs_str PySem.F.slot_str_join PySem.F.type_str_join Tg Zn (Zb (Yy (scope:=X7) (N:=["_law_k",q_b,"_law_letters"]) (cp:=[none,some 0,some 2]) rfl U4 U5 (Y1 rfl (B _ (by decide +kernel)) (Zb (pv 6) Zc)) (λC s H ex pn=>(Zt (i:=0) U6 rfl (aJ rfl))) (λC s H ex pn=>Yp) (λC s H ex pn=>(Yk Ng (pv 2) (cn CT hr (Zb (pv 1) (Zb Zd Zc))) (λ_ _=>rfl)))) Zc))) (Zf (ZM (i:=8) ZZ.nd rfl (Or.inr rfl) (cn CT hr (Zb (pv 0) (Zb Zd Zc)))) (Zf (Xh (i:=9) ZZ.nd rfl (aJ rfl) (scope:=X6) (N:=["_law_k","_law_first","_law_letters"]) (cp:=[none,some 8,some 2]) rfl UZ U0 (Y1 rfl (B _ (by decide +kernel)) (Zb (pv 1) Zc)) (λC s H ex pn=>(Zt (i:=0) U3 rfl (aJ rfl))) (λC s H ex pn=>Yp) (λC s H ex pn=>(Yk Ng (pv 2) (Zy XO (Zy Z0 (pv 1) (Zy Gy Zd (pv 0))) Zd) (λ_ _=>rfl)))) (Zi (Zl (Yy (scope:=X5) (N:=["_law_sign","_law_at","_law_base"]) (cp:=[none,some 5,some 7]) rfl UW UX (Yq (pv 9)) (λC s H ex pn=>(Zt (i:=0) UY rfl (aJ rfl))) (λC s H ex pn=>Yp) (λC s H ex pn=>(Zy JQ (Zy JQ (Yc RB (pv 2) Yw (Yv (pv 1))) (pv 0)) (Yc RB (pv 2) (Yv (pv 1)) Yw))))))))))))))),?_⟩;try dsimp only[cxOf,Cx.nox]
 refine tkC hb (λr H1 h0 h1 B1 S1=>?_);refine⟨_,rfl,rfl,_,rfl,?_⟩;refine TQ (λe rest=>⟨_,rfl,_,_,rfl,rfl,_,rfl,ite2 (λe2=>?_) (λe2=>rest)⟩) ?_
 ·have hn9:n<9:=of_decide_eq_true e2;refine⟨zl,λl hl=>?_⟩;have nlb:=B1.ne hl;refine tkC (B1.new hl) (λr2 H2 h02 h12 B2 S2=>?_);have hw:H2 l=some (.lst (wds.map V.str)):=S2 _ _ Ze nlb;refine⟨_,rfl,n,rfl,by omega,by omega,Z7 (J:=Itr 0 n.toNat) n.toNat hsz
   (λi ys τ H'=>H'=H2/\ys=(wdsFrom r2.toNat i).map V.str/\∃v,τ=[v,some (.int r2),some (.ref l)]) ⟨rfl,rfl,none,rfl⟩ (λi ys τ H' p=>?_) (λi ys τ H' hi p=>hi) (λys τ H' p=>aj _) (λi ys τ H' x' H3 hi p yl=>?_) (λys τ H' p q hq=>?_)⟩
  ·obtain⟨_,rfl,_⟩:=p;simp[wdsFrom]
  ·obtain⟨rfl,rfl,v,rfl⟩:=p;obtain⟨rfl,rfl⟩:=yl;refine⟨_,rfl,_,rfl,_,rfl,_,_,rfl,rfl,_,_,rfl,rfl,(by show(0:Int)<8;decide),l,_,_,_,rfl,rfl,SqL.of hw,Sz (j:=(r2.toNat+i) % 8) (modN (n:=8) (by omega)) (DH _ _),rfl,?_,_,rfl⟩;simp[wdsFrom,List.range_succ]
  ·obtain⟨rfl,rfl,v,rfl⟩:=p;exact k _ q _ (B2.new hq) (((S1.new' hl).trans S2).new' hq) Ze (B2.ne hq) (by simp[wdsFrom];omega) (DG _ (by omega) _ (by omega)) (Rm _ _)
 ·refine tkC B1 (λsz H2 h02 h12 B2 S2=>?_);have S02:=S1.trans S2;refine⟨_,rfl,rfl,_,rfl,?_⟩;refine TQ (λe rest=>⟨_,rfl,_,_,rfl,rfl,_,rfl,ite2 (λe2=>?_) (λe2=>rest)⟩) ?_
  ·have hn9:n<9:=of_decide_eq_true e2;refine⟨rfl,8,rfl,by decide,by decide,Z7 (J:=Itr 0 8) 8 (by decide)
    (λi ys τ H'=>Zu H' b/\Zh b H H'/\(∃ts:List Str,ys=ts.map V.str/\ts.length=i/\∀t∈ts,Bs 1 t)/\∃v,τ=[v,some (.ref b),some (.str K1.tLET)]) ⟨B2,S02,⟨[],rfl,rfl,by simp⟩,none,rfl⟩ (λi ys τ H' p=>?_) (λi ys τ H' hi p=>hi) (λys τ H' p=>aj _) (λi ys τ H' x' H3 hi p yl=>?_) (λys τ H' p q hq=>?_)⟩
   ·obtain⟨_,_,⟨ts,rfl,e,_⟩,_⟩:=p;rw[lm,e];exact aj _
   ·obtain⟨bx,sm,⟨ts,rfl,e,ho⟩,v,rfl⟩:=p;obtain⟨rfl,rfl⟩:=yl;refine⟨_,rfl,tkC bx (λr4 H4 h04 h14 B4 S4=>?_)⟩;obtain⟨c,hat,hc⟩:=Ls h04 h14;obtain⟨g1,g2⟩:=Pu (b:=b) (H:=H) (H1:=H) e ho hc;exact⟨_,r4,c,rfl,rfl,by decide +kernel,hat,B4,sm.trans S4,⟨ts++[⟨#[c]⟩],by rw[aN];rfl,g1,g2⟩,_,rfl⟩
   ·obtain⟨bx,sm,⟨ts,rfl,e,ho⟩,v,rfl⟩:=p;refine⟨_,q,ts,rfl,rfl,SqL.of Ze,by rw[Ru _ ho,e];decide,?_⟩;have hbs:=Bs.join ho;rw[e]at hbs;have hl8:(Txt.join ce ts).length=8:=by rw[<-ZI];exact hbs.1
    refine⟨_,rfl,n,rfl,by omega,by omega,Z7 (J:=Itr 0 n.toNat) n.toNat hsz
     (λi ys τ H3=>H3=upd H' q (.lst (ts.map V.str))/\ys=(begs (Txt.join ce ts) sz.toNat i).map V.str/\∃v,τ=[v,some (.str (Txt.join ce ts)),some (.int sz)]) ⟨rfl,rfl,none,rfl⟩ (λi ys τ H' p=>?_) (λi ys τ H' hi p=>hi) (λys τ H' p=>aj _) (λi ys τ H' x' H3 hi p yl=>?_) (λys τ H' p q2 hq2=>?_)⟩
    ·obtain⟨_,rfl,_⟩:=p;simp[begs]
    ·obtain⟨rfl,rfl,v,rfl⟩:=p;obtain⟨rfl,rfl⟩:=yl;refine⟨_,rfl,_,rfl,_,rfl,_,_,rfl,rfl,_,_,rfl,rfl,(by show(0:Int)<8;decide),_,_,rfl,rfl,_,rfl,_,rfl,by rw[hl8];decide,rfl,?_,_,rfl⟩;have e5:(1+(0+(i:Int)+sz) % 8)=((1+(i+sz.toNat) % 8:Nat):Int):=congrArg (1+·) (modN (k:=i+sz.toNat) (n:=8) (by omega));rw[e5];simp[begs,List.range_succ]
    ·obtain⟨rfl,rfl,v,rfl⟩:=p;exact k _ q2 _ ((bx.new hq).new hq2) ((sm.new' hq).new' hq2) Ze ((bx.new hq).ne hq2) (by simp[begs];omega) (Dj hbs _ (by omega)) (Di hbs _ _)
  ·refine⟨_,rfl,_,rfl,_,_,rfl,rfl,b,sz+1,rfl,B2,by omega,Yz (by omega) (by omega),λat_ H3 h03 h13 B3 S3=>?_⟩;have S03:=S02.trans S3;refine⟨rfl,_,rfl,sz,rfl,by omega,by omega,Z7 (J:=Itr 0 sz.toNat) sz.toNat (ax (by omega:sz.toNat<=8) (by decide))
    (λi ys τ H'=>Zu H' b/\Zh b H H'/\(∃ts:List Str,ys=ts.map V.str/\ts.length=i/\∀t∈ts,Bs 1 t)/\∃v,τ=[v,some (.ref b),some (.str K1.tLET)]) ⟨B3,S03,⟨[],rfl,rfl,by simp⟩,none,rfl⟩ (λi ys τ H' p=>?_) (λi ys τ H' hi p=>hi) (λys τ H' p=>aj _) (λi ys τ H' x' H3 hi p yl=>?_) (λys τ H' p q hq=>?_)⟩
   ·obtain⟨_,_,⟨ts,rfl,e,_⟩,_⟩:=p;rw[lm,e];exact aj _
   ·obtain⟨bx,sm,⟨ts,rfl,e,ho⟩,v,rfl⟩:=p;obtain⟨rfl,rfl⟩:=yl;refine⟨_,rfl,tkC bx (λr4 H4 h04 h14 B4 S4=>?_)⟩;obtain⟨c,hat,hc⟩:=Ls h04 h14;obtain⟨g1,g2⟩:=Pu (b:=b) (H:=H) (H1:=H) e ho hc;exact⟨_,r4,c,rfl,rfl,by decide +kernel,hat,B4,sm.trans S4,⟨ts++[⟨#[c]⟩],by rw[aN];rfl,g1,g2⟩,_,rfl⟩
   ·obtain⟨bx,sm,⟨ts,rfl,e,ho⟩,v,rfl⟩:=p;refine⟨_,q,ts,rfl,rfl,SqL.of Ze,?_,?_⟩
    ·rw[Ru _ ho,e];show sz.toNat+sz.toNat*0<=16777216;omega
    have hbs:=Bs.join ho;rw[e]at hbs;have hl8:(Txt.join ce ts).length=sz.toNat:=by rw[<-ZI];exact hbs.1
    refine tkC (bx.new hq) (λfi H5 h05 h15 B5 S5=>?_);have S05:=(sm.new' hq).trans S5;refine⟨_,rfl,n,rfl,by omega,by omega,Z7 (J:=Itr 0 n.toNat) n.toNat hsz
     (λi ys τ H'=>H'=H5/\ys=((bN i).map λk=>V.str ⟨#[sgn fi.toNat k]⟩)/\∃v,τ=[v,some (.int fi),some (.str K1.tLET)]) ⟨rfl,rfl,none,rfl⟩ (λi ys τ H' p=>?_) (λi ys τ H' hi p=>hi) (λys τ H' p=>aj _) (λi ys τ H' x' H3 hi p yl=>?_) (λys τ H' p q2 hq2=>?_)⟩
    ·obtain⟨_,rfl,_⟩:=p;simp
    ·obtain⟨rfl,rfl,v,rfl⟩:=p;obtain⟨rfl,rfl⟩:=yl;refine⟨_,rfl,_,rfl,_,rfl,_,_,rfl,rfl,.inl ⟨by decide,by decide⟩,_,_,rfl,rfl,_,_,rfl,rfl,(by show(0:Int)<26;decide),_,_,_,rfl,rfl,by decide +kernel,Sz (j:=(fi.toNat+5*i) % 26) (modN (n:=26) (by omega)) (DP _ _),rfl,?_,_,rfl⟩;simp[List.range_succ]
    ·obtain⟨rfl,rfl,v,rfl⟩:=p;refine⟨_,rfl,q2,rfl,⟨_,SqL.of Ze⟩,?_⟩;generalize eH:upd H' q2 (.lst ((bN n.toNat).map λk=>V.str ⟨#[sgn fi.toNat k]⟩))=H6;have hq6:H6 q2=some (.lst ((bN n.toNat).map λk=>V.str ⟨#[sgn fi.toNat k]⟩)):=by rw[<-eH];exact Ze
     have B6:Zu H6 b:=by rw[<-eH];exact B5.new hq2
     have S06:Zh b H H6:=by rw[<-eH];exact S05.new' hq2
     refine Z7 (J:=Itl K q2) n.toNat hsz (λi ys τ H'=>H'=H6/\ys=(puts (Txt.join ce ts) at_.toNat fi.toNat i).map V.str/\∃v,τ=[v,some (.int at_),some (.str (Txt.join ce ts))]) ⟨rfl,rfl,none,rfl⟩ (λi ys τ H' p=>?_) (λi ys τ H' hi p=>?_) (λys τ H' p=>?_) (λi ys τ H' x' H3 hi p yl=>?_) (λys τ H' p q3 hq3=>?_)
     ·obtain⟨_,rfl,_⟩:=p;simp[puts]
     ·obtain⟨rfl,_⟩:=p;exact⟨_,V.str ⟨#[sgn fi.toNat i]⟩,SqL.of hq6,by simp[hi]⟩
     ·obtain⟨rfl,_⟩:=p;exact⟨_,SqL.of hq6,by simp⟩
     ·obtain⟨rfl,rfl,v,rfl⟩:=p;obtain⟨rfl,hy⟩:=yl;have hx:x'=V.str ⟨#[sgn fi.toNat i]⟩:=by have:=hy _ (SqL.of hq6);simp[hi]at this;exact this.symm
      subst hx;have hbl:(Txt.join ce ts).length<=8:=by omega
      have e1:=Txt.slice_le (Txt.join ce ts) none (some at_);have e2:=Txt.slice_le (Txt.join ce ts) (some at_) none;have z:(100:Nat)<=av:=by decide
      refine⟨_,rfl,_,rfl,_,rfl,_,rfl,by omega,_,rfl,_,_,rfl,rfl,?_,_,rfl,_,rfl,_,rfl,_,rfl,by omega,_,_,rfl,rfl,?_,rfl,?_,_,rfl⟩
      ·show _+1<=_;omega
      ·rw[Str.length_append];show _+1+_<=_;omega
      ·have e5:at_=((at_.toNat:Nat):Int):=by omega
       simp[puts,List.range_succ,put,<-e5]
     ·obtain⟨rfl,rfl,v,rfl⟩:=p;exact k _ q3 _ (B6.new hq3) (S06.new' hq3) Ze (B6.ne hq3) (by simp[puts];omega) (LP hbs (by omega) (by omega) (by omega)) (LM hbs (by omega) (by omega) _ _)
noncomputable abbrev Pl:=List (Str×Option Int)
noncomputable def Yn:Option Int->V
|none=>.non
|some i=>.int i
noncomputable def Zw(p:Str×Option Int):List V:=[.str p.1,Yn p.2]
def ZD(b:ae)(H:Hp)(l:ae)(rows:List (List V)):Prop:=l≠b/\∃as:List ae,H l=some (.lst (as.map V.ref))/\as.length=rows.length/\∀(i:Nat)a r,as[i]?=some a->rows[i]?=some r->a≠b/\H a=some (.tup r)
theorem ZD.same{b:ae}{H H':Hp}{l:ae}{rows:List (List V)}(s:Zh b H H')(h:ZD b H l rows):ZD b H' l rows:=by obtain⟨n,as,e,hl,r⟩:=h;exact⟨n,as,s _ _ e n,hl,λi a q h1 h2=>let ⟨x,y⟩:=r i a q h1 h2;⟨x,s _ _ y x⟩⟩
theorem ZD.at{b:ae}{H:Hp}{l:ae}{rows:List (List V)}(h:ZD b H l rows){i:Nat}{r:List V}(hr:rows[i]?=some r):∃a,a≠b/\H a=some (.tup r)/\∃as:List ae,H l=some (.lst (as.map V.ref))/\as[i]?=some a/\as.length=rows.length:=by
 obtain⟨n,as,e,hl,q⟩:=h;have hi:i<as.length:=by rw[hl];exact(ai.mp hr).1
 obtain⟨x,y⟩:=q i as[i] r (gE hi) hr;exact⟨as[i],x,y,as,e,gE hi,hl⟩
theorem Zu.same_ne{H:Hp}{b q:ae}{o:HO}(h:Zu H b)(n:q≠b):Zu (upd H q o) b:=by obtain⟨x,y,z,e⟩:=h;exact⟨x,y,z,by rw[Zj n.symm];exact e⟩
theorem Gw{b q:ae}{H H4 H6:Hp}{o:HO}(s:Zh b H H6)(s4:Zh b H H4)(nqb:q≠b)(hq:H4 q=none):Zh b H (upd H6 q o):=λc u h hc=>by
 have:c≠q:=λz=>by rw[z]at h hc;rw[s4 _ _ h hc]at hq;cases hq
 rw[Zj this];exact s c u h hc
structure GoodPl(ps:Pl):Prop where
 lo:3<=ps.length
 hi:ps.length<=6
 nd:(ps.map (·.1)).Nodup
 nm:∀p∈ps,Nm p.1
 room:∀p∈ps,∀i,p.2=some i->0<=i/\i<=1000
 one:∃p∈ps,∃i,p.2=some i
theorem zip_rows(ts:List Str)(ρ:List (Option Int)):((ts.map V.str).zip (ρ.map Yn)).map (λq=>[q.1,q.2])=(ts.zip ρ).map Zw:=by rw[List.zip_map,bZ];rfl
theorem Qm{α β:Type}:∀(t0:List α)(ρ:List β)(s:α),t0.length=ρ.length->(t0++[s]).zip ρ=t0.zip ρ
|[],[],_,_=>rfl
|[],_::_,_,h=>by cases h
|_::_,[],_,h=>by cases h
|a::t,c::r,s,h=>by rw[List.cons_append,dW,Qm t r s (by simpa using h),dW]
def Qw:Sp:=λvs H Q _=>∃(b:ae),vs=[.ref b]/\Zu H b/\∀H' q l s(ps:Pl),Zu H' b->Zh b H H'->H' q=some (.lst [.ref l,.str s])->q≠b->ZD b H' l (ps.map Zw)->GoodPl ps->Nm s->s∉ps.map (·.1)->Q (.ref q) H'
theorem QU{b:ae}{H H':Hp}{l:ae}{rows:List (List V)}(h:Lw H H' l rows)(hb:Zu H b):ZD b H' l rows:=by obtain⟨s,hl,as,e,len,n,r⟩:=h;exact⟨hb.ne hl,as,e,len,λi a q h1 h2=>⟨hb.ne (n a (aG h1)),r i a q h1 h2⟩⟩
theorem Xg:FnScope [q_b,"_law_names_here","_law_rooms","_law_k"] [q_b] (Zg T.f__law_places):=scO (by decide +kernel)
theorem Sf(B:∀x∈Blts,mg x=none)(CT:Can P w K mg base 1 "_law_take" [q_b,"_law_many"] YS)(CN:Can P w K mg base 2 "_law_names" [q_b,"_law_many"] Ma)(CS:Can P w K mg base 2 "_law_size" [q_b] Pz)(D:Df K mg "_law_places" T.f__law_places [q_b]):Can P w K mg base 3 "_law_places" [q_b] Qw:=by
 refine D.cn Xg λf cdv A outer s H vs Q E hr h=>?_;obtain⟨b,rfl,hb,k⟩:=h;refine⟨_,(Zf (ZM (i:=1) Xg.nd rfl (aJ rfl) (cn CN hr (Zb (pv 0) (Zb (Zy Z0 Zd (cn CT hr (Zb (pv 0) (Zb Zd Zc)))) Zc)))) (Zf (ZM (i:=2) Xg.nd rfl (aJ rfl) (ZO (Zb (cn CS hr (Zb (pv 0) Zc)) (Zb (cn CS hr (Zb (pv 0) Zc)) (Zb ZN Zc))))) (Zf (XJ dc rfl (Y1 rfl (B _ (by decide +kernel)) (Zb (Zy Jt (ZJ (r:=rLen K) Yh rfl (B _ (by decide +kernel)) bt (Zb (pv 1) Zc)) Zd) Zc)) (Zt (i:=3) Xg.nd rfl (aJ rfl)) (Zi (Y7 (N7 dQ cC PySem.F.type_list_append GA (pv 2) (Zb (il K (ZO (Zb ZN (Zb (cn CS hr (Zb (pv 0) Zc)) Zc))) (cn CT hr (Zb (pv 0) (Zb Zd Zc)))) Zc))))) (Zi (Zl (ZO (Zb (RL rfl rfl (B _ (by decide +kernel)) rfl (B _ (by decide +kernel)) (Zb (pv 1) (Zb (pv 2) Zc))) (Zb (il K (pv 1) (Dx W4 Zd)) Zc)))))))),?_⟩;try dsimp only[cxOf,Cx.nox]
 refine⟨_,rfl,tkC hb (λr H1 h0 h1 B1 S1=>?_)⟩;refine⟨_,_,rfl,rfl,b,4+r,rfl,B1,by omega,by omega,λH2 l ts B2 S2 hl nlb hlen hnd hnm=>?_⟩;refine⟨_,rfl,b,rfl,B2,λr3 H3 h03 h13 B3 S3=>?_⟩;refine⟨_,rfl,b,rfl,B3,λr4 H4 h04 h14 B4 S4=>?_⟩;refine⟨zl,λq hq=>?_⟩;have S04:=((S1.trans S2).trans S3).trans S4;have hl4:=S4 _ _ (S3 _ _ hl nlb) nlb;have nql:q≠l:=(Zk hl4 hq).symm;refine⟨_,rfl,l,_,rfl,.inl (SqL.of (by rw[Zj nql.symm];exact hl4)),_,_,rfl,rfl,r,?_,by omega,by omega,?_⟩
 ·have:((List.map V.str ts).length:Int)-4=r:=by rw[lm];omega
  exact congrArg (λx=>[V.int x]) this
 refine Pf (n:=r.toNat) (λi σ' H'=>Zu H' b/\Zh b H H'/\H' l=some (.lst (ts.map V.str))/\q≠b/\(∃ρ:List (Option Int),H' q=some (.lst (ρ.map Yn))/\ρ.length=3+i/\ρ[0]?=some (some r3)/\ρ[2]?=some none/\∀x∈ρ,∀j,x=some j->0<=j/\j<=1000)/\∃v,σ'=[some (.ref b),some (.ref l),some (.ref q),v]) ⟨B4.new hq,S04.new' hq,by rw[Zj nql.symm];exact hl4,B4.ne hq,⟨[some r3,some r4,none],Ze,rfl,rfl,rfl,?_⟩,none,rfl⟩ (λi σ' H' hi p=>?_) (λσ' H' p=>?_)
 ·intro x hx j e;subst e;simp only[aq,Option.some.injEq,aK,or_false,reduceCtorEq]at hx;omega
 ·obtain⟨bx,sm,hl',nqb,⟨ρ,hq',len,z0,z2,ok⟩,v,rfl⟩:=p;refine⟨_,rfl,.inl ⟨rfl,_,SqL.of hq'⟩,_,rfl,b,rfl,bx,λr5 H5 h05 h15 B5 S5=>?_⟩;refine⟨zl,λq2 hq2=>?_⟩;have n2:=B5.ne hq2;refine tkC (B5.new hq2) (λr6 H6 h06 h16 B6 S6=>?_);have e6:H6 q2=some (.lst [.non,.int r5]):=S6 _ _ Ze n2;have hq6:H6 q=some (.lst (ρ.map Yn)):=S6 _ _ (by rw[Zj (Zk (S5 _ _ hq' nqb) hq2)];exact S5 _ _ hq' nqb) nqb;have hl6:H6 l=some (.lst (ts.map V.str)):=S6 _ _ (by rw[Zj (Zk (S5 _ _ hl' nlb) hq2)];exact S5 _ _ hl' nlb) nlb;have S06:Zh b H H6:=((sm.trans S5).new' hq2).trans S6;have hz:(ρ.map Yn).length<av:=by rw[lm,len];exact aD (by omega:3+i<1000) (by decide)
  have fin:∀x:Option Int,(∀j,x=some j->0<=j/\j<=1000)->_:=λx hx=>(⟨B6.same_ne nqb,Gw S06 S04 nqb hq,by rw[Zj nql.symm];exact hl6,nqb,⟨ρ++[x],by rw[Ze,aN];rfl,by simp[len];omega,by rw[bj (by omega)];exact z0,by rw[bj (by omega)];exact z2,λy hy j e=>by
    rcases bp.mp hy with hy|hy
    ·exact ok y hy j e
    ·rw[bi]at hy;subst hy;exact hx j e⟩,_,rfl⟩:Zu (upd H6 q (.lst (ρ.map Yn++[Yn x]))) b/\Zh b H (upd H6 q (.lst (ρ.map Yn++[Yn x])))/\(upd H6 q (.lst (ρ.map Yn++[Yn x]))) l=some (.lst (ts.map V.str))/\q≠b/\(∃ρ':List (Option Int),(upd H6 q (.lst (ρ.map Yn++[Yn x]))) q=some (.lst (ρ'.map Yn))/\ρ'.length=3+(i+1)/\ρ'[0]?=some (some r3)/\ρ'[2]?=some none/\∀x∈ρ',∀j,x=some j->0<=j/\j<=1000)/\∃v',[some (.ref b),some (.ref l),some (.ref q),some (.int (0+i))]=[some (V.ref b),some (.ref l),some (.ref q),v'])
  have c6:r6=0\/r6=1:=by omega
  rcases c6 with rfl|rfl
  ·exact⟨q2,_,0,.non,rfl,rfl,SqL.of e6,ZL (j:=0) rfl,q,_,_,rfl,rfl,hq6,hz,fin none (λj e=>by cases e)⟩
  ·exact⟨q2,_,1,.int r5,rfl,rfl,SqL.of e6,ZL (j:=1) rfl,q,_,_,rfl,rfl,hq6,hz,fin (some r5) (λj e=>by cases e;exact⟨h05,h15⟩)⟩
 ·obtain⟨bx,sm,hl',nqb,⟨ρ,hq',len,z0,z2,ok⟩,v,rfl⟩:=p;refine⟨_,rfl,_,rfl,l,q,_,_,rfl,hl',hq',λH7 l7 L7=>?_⟩;have S7:Same H' H7:=L7.1;obtain⟨t0,s,rfl⟩:∃t0 s,ts=t0++[s]:=⟨_,_,(List.dropLast_concat_getLast (l:=ts) (by intro z;rw[z]at hlen;simp at hlen;omega)).symm⟩;have len0:t0.length=ρ.length:=by have:((t0++[s]).length:Int)=4+r:=hlen;rw[aT]at this;simp at this;omega
  refine⟨_,rfl,_,rfl,l,_,-1,.str s,rfl,rfl,SqL.of (S7 _ _ hl'),by rw[aN];exact Lu _ _,zl,λq8 hq8=>?_⟩;have B7:Zu H7 b:=bx.same S7;have R7:=QU L7 bx;rw[zip_rows,Qm t0 ρ s len0]at R7;have fst:(t0.zip ρ).map (·.1)=t0:=List.map_fst_zip (by omega);have nd0:=dy.mp hnd;refine k _ q8 l7 s (t0.zip ρ) (B7.new hq8) ((sm.trans (Zh.of S7)).new' hq8) Ze (B7.ne hq8) (R7.same ((Zh.refl b H7).new' hq8)) ?_ (hnm s (by simp)) ?_
  ·refine⟨by rw[cg];omega,by rw[cg];omega,by rw[fst];exact nd0.1,λp hp=>hnm _ (bg _ (List.of_mem_zip hp).1),λp hp i e=>ok _ (List.of_mem_zip hp).2 i e,?_⟩
   ·have h3:0<t0.length:=by omega
    have h4:0<ρ.length:=by omega
    refine⟨(t0[0],ρ[0]),List.mem_iff_getElem.mpr ⟨0,by rw[cg];omega,by simp⟩,r3,?_⟩;rw[gE h4]at z0;exact aH z0
  ·rw[fst];intro z;exact nd0.2.2 s z s (by simp) rfl
end
end WD
namespace L2
open PySem PySem.Spec PyProof.Rows
theorem JO{X:Cx}{pos:Pos}{K:aa}{es:List Expr}{k:Nat}{t:TGs}{n:Nat}(hK:X.K=K)(hc:X.calm=true)(h:PGs X es t)(hn:(assignEach es X.env).length=n:=by rfl)(hst:(assignEach es X.env).findIdx? (·.1)=none:=by rfl):PG X (.Tuple es k pos) (gTup K n t):=by subst hK;exact XM hc h hn hst
end L2
namespace WD
open PySem L2 PySem.Spec PyProof.Rows TB
def PJ:Sp:=λvs H Q _=>∃(b l:ae)(ps:Pl),vs=[.ref b,.ref l]/\Zu H b/\ZD b H l (ps.map Zw)/\GoodPl ps/\∀H' q s g,Zu H' b->Zh b H H'->H' q=some (.tup [.str s,.str g])->q≠b->(∃i,(s,some i)∈ps)->(∃r,(g,r)∈ps)->s≠g->Q (.ref q) H'
theorem YZ{α:Type}(p:α->Bool)(l:List α){i:Nat}{a:α}(h:l[i]?=some a):(l.take (i+1)).filter p=(l.take i).filter p++(if p a=true then[a]else[]):=by rw[bY,h,List.filter_append];simp only[Option.toList_some];cases hp:p a<;>simp[hp]
theorem Qi{ts:List Str}{r:Int}(h0:0<=r)(h1:r<(ts.length:Int)):∃t,atI (ts.map V.str) r=some (.str t)/\t∈ts:=by obtain⟨v,hv,hm⟩:=at_of (xs:=ts.map V.str) h0 (by rw[lm];exact h1);obtain⟨t,ht,rfl⟩:=aw.mp hm;exact⟨t,hv,ht⟩
theorem Wi(r:Option Int):(!decide (Yn r=.non))=r.isSome:=by cases r<;>rfl
theorem ZD.go{K:aa}{b:ae}{H:Hp}{l:ae}{rows:List (List V)}(h:ZD b H l rows){i:Nat}(hi:i<rows.length):(Itl K l).go i H:=by obtain⟨n,as,e,hl,r⟩:=h;exact⟨_,.ref (as[i]'(by omega)),SqL.of e,by simp[hl,hi]⟩
theorem ZD.stop{K:aa}{b:ae}{H:Hp}{l:ae}{rows:List (List V)}(h:ZD b H l rows):(Itl K l).stop rows.length H:=by obtain⟨n,as,e,hl,r⟩:=h;exact⟨_,SqL.of e,by simp[hl]⟩
theorem ZD.item{K:aa}{b:ae}{H:Hp}{l:ae}{rows:List (List V)}(h:ZD b H l rows){i:Nat}{r:List V}(hr:rows[i]?=some r){x:V}{H':Hp}(y:(Itl K l).yld i H x H'):H'=H/\∃a,x=.ref a/\a≠b/\H a=some (.tup r):=by obtain⟨a,n,e,as,el,ea,len⟩:=h.at hr;obtain⟨rfl,q⟩:=y;have:=q _ (SqL.of el);rw[ak,ea]at this;exact⟨rfl,a,(aH this).symm,n,e⟩
section
variable {P:aA}{w:aI}{K:aa}{mg:Str->Option ac}{base:aX}
theorem Jn:FnScope [q_b,q_p,"_law_starts","_law_start","_law_goals"] [q_b,q_p] (Zg T.f__law_ends):=scO (by decide +kernel)
noncomputable def Jx:bH:=csx [(".0",.local),("_law_place",.local),("_law_room",.local)]
theorem GL:CompScope Jx (Zg T.f__law_ends):=⟨rfl,by decide +kernel,by decide +kernel,by decide +kernel⟩
theorem JI:(["_law_place","_law_room"]:List Str).Nodup:=by decide +kernel
theorem GM:CompNames [q_b,q_p,"_law_starts","_law_start","_law_goals"] Jx ["_law_place","_law_room"] [none,none]:=.mk' (by decide +kernel)
noncomputable def Jw:bH:=csx [(".0",.local),("_law_place",.local),("_law_room",.local),("_law_start",.free)]
theorem GJ:CompScope Jw (Zg T.f__law_ends):=⟨rfl,by decide +kernel,by decide +kernel,by decide +kernel⟩
theorem JH:(["_law_place","_law_room","_law_start"]:List Str).Nodup:=by decide +kernel
theorem GK:CompNames [q_b,q_p,"_law_starts","_law_start","_law_goals"] Jw ["_law_place","_law_room","_law_start"] [none,none,some 3]:=.mk' (by decide +kernel)
theorem WV(B:∀x∈Blts,mg x=none)(CT:Can P w K mg base 1 "_law_take" [q_b,"_law_many"] YS)(D:Df K mg "_law_ends" T.f__law_ends [q_b,q_p]):Can P w K mg base 2 "_law_ends" [q_b,q_p] PJ:=by
 refine D.cn Jn λf cdv A outer s H vs Q E hr h=>?_;obtain⟨b,l,ps,rfl,hb,hp,gp,k⟩:=h;have hpl:(ps.map Zw).length<=av:=ax (by rw[lm];have:=gp.hi;omega:(ps.map Zw).length<=1000) (by decide);refine⟨_,(Zf (Xh (i:=2) Jn.nd rfl (aJ rfl) (scope:=Jx) (N:=["_law_place","_law_room"]) (cp:=[none,none]) rfl GL GM (Yq (pv 1)) (λC s H ex pn=>(JO (K:=K) (n:=2) rfl rfl (Zz (Zt (i:=0) JI rfl (aJ rfl)) (Zz (Zt (i:=1) JI rfl (aJ rfl)) Yd)))) (λC s H ex pn=>(XF (Zr Mm (pv 1) ZN (Zx _)))) (λC s H ex pn=>(pv 0))) (Zf (ZM (i:=3) Jn.nd rfl (Or.inr rfl) (il K (pv 2) (cn CT hr (Zb (pv 0) (Zb (ZJ (r:=rLen K) Yh rfl (B _ (by decide +kernel)) bt (Zb (pv 2) Zc)) Zc))))) (Zf (Xh (i:=4) Jn.nd rfl (aJ rfl) (scope:=Jw) (N:=["_law_place","_law_room","_law_start"]) (cp:=[none,none,some 3]) rfl GJ GK (Yq (pv 1)) (λC s H ex pn=>(JO (K:=K) (n:=2) rfl rfl (Zz (Zt (i:=0) JH rfl (aJ rfl)) (Zz (Zt (i:=1) JH rfl (aJ rfl)) Yd)))) (λC s H ex pn=>(XF (Zr GY (pv 0) (pv 2) (Zx _)))) (λC s H ex pn=>(pv 0))) (Zi (Zl (Zv (Zb (pv 3) (Zb (il K (pv 4) (cn CT hr (Zb (pv 0) (Zb (ZJ (r:=rLen K) Yh rfl (B _ (by decide +kernel)) bt (Zb (pv 4) Zc)) Zc)))) Zc)))))))),?_⟩;try dsimp only[cxOf,Cx.nox]
 refine⟨_,rfl,l,rfl,⟨_,SqL.of hp.2.choose_spec.1⟩,?_⟩;refine Xj (J:=Itl K l) (ps.map Zw).length hpl (λi ys τ H'=>H'=H/\ys=((ps.take i).filter λp=>p.2.isSome).map (λp=>V.str p.1)/\∃v1 v2,τ=[v1,v2]) ⟨rfl,rfl,none,none,rfl⟩ (λi ys τ H' p=>?_) (λi ys τ H' hi p=>?_) (λys τ H' p=>?_) (λi ys τ H' x H2 hi p yl=>?_) (λys τ H0 p l1 hl1=>?_)
 ·obtain⟨_,rfl,_⟩:=p;rw[lm];exact ax (cF _ _) (by rw[aL];omega)
 ·obtain⟨rfl,_⟩:=p;exact hp.go hi
 ·obtain⟨rfl,_⟩:=p;exact hp.stop
 ·obtain⟨rfl,rfl,v1,v2,rfl⟩:=p;have hi':i<ps.length:=by simpa using hi
  have e0:ps[i]?=some ps[i]:=gE hi';obtain⟨rfl,a,rfl,na,ha⟩:=hp.item (r:=Zw ps[i]) (by rw[ak,e0];rfl) yl;refine⟨a,_,rfl,SqT.of ha,rfl,_,_,rfl,_,_,rfl,rfl,_,rfl,rfl,_,rfl,?_⟩;rw[Wi];refine ZE (λe=>?_) (λe=>?_)
  ·refine⟨_,rfl,rfl,?_,_,_,rfl⟩;rw[YZ _ _ e0,if_pos e,aN];rfl
  ·refine⟨rfl,?_,_,_,rfl⟩;rw[YZ _ _ e0,if_neg (by rw[e];exact az),bB]
 ·obtain⟨rfl,rfl,v1,v2,rfl⟩:=p;rw[lm,b7];generalize ess:(ps.filter λp=>p.2.isSome).map (·.1)=ss;have e1:(ps.filter λp=>p.2.isSome).map (λp=>V.str p.1)=ss.map V.str:=by rw[<-ess,bZ];rfl
  rw[e1];have hss:∀t∈ss,∃i,(t,some i)∈ps:=λt ht=>by rw[<-ess]at ht;obtain⟨p,hp',rfl⟩:=aw.mp ht;obtain⟨m1,m2⟩:=cw.mp hp';obtain⟨i,hi⟩:=dI.mp m2;exact⟨i,by rw[<-hi];exact m1⟩
  have hs0:0<ss.length:=by
   obtain⟨p,hp',i,hi⟩:=gp.one;have:p.1∈ss:=by rw[<-ess];exact aw.mpr ⟨p,cw.mpr ⟨hp',by rw[hi];rfl⟩,rfl⟩
   exact List.length_pos_of_mem this
  have hs6:ss.length<=6:=by rw[<-ess,lm];exact ax (cF _ _) gp.hi
  have nl1:=hb.ne hl1;have B1:=hb.new (o:=.lst (ss.map V.str)) hl1;have S1:Zh b H0 (upd H0 l1 (.lst (ss.map V.str))):=(Zh.refl b H0).new' hl1;have el1:upd H0 l1 (.lst (ss.map V.str)) l1=some (.lst (ss.map V.str)):=Ze;generalize upd H0 l1 (.lst (ss.map V.str))=H1 at B1 S1 el1 ⊢;refine⟨_,rfl,_,rfl,_,rfl,l1,_,rfl,.inl (SqL.of el1),b,_,rfl,B1,by rw[lm];omega,Yz (by omega) (by rw[lm];omega),λr H2 h02 h12 B2 S2=>?_⟩;rw[lm]at h12;obtain⟨st,hat,hst⟩:=Qi h02 h12;refine⟨l1,_,r,_,rfl,rfl,SqL.of (S2 _ _ el1 nl1),hat,?_⟩;have hp2:=hp.same (S1.trans S2);have S02:=S1.trans S2;refine⟨_,rfl,l,rfl,⟨_,SqL.of hp2.2.choose_spec.1⟩,?_⟩;refine Xj (J:=Itl K l) (ps.map Zw).length hpl (λi ys τ H'=>H'=H2/\ys=((ps.take i).filter λp=>!decide (p.1=st)).map (λp=>V.str p.1)/\∃v1 v2,τ=[v1,v2,some (.str st)]) ⟨rfl,rfl,none,none,rfl⟩ (λi ys τ H' p=>?_) (λi ys τ H' hi p=>?_) (λys τ H' p=>?_) (λi ys τ H' x H2 hi p yl=>?_) (λys τ H' p l3 hl3=>?_)
  ·obtain⟨_,rfl,_⟩:=p;rw[lm];exact ax (cF _ _) (by rw[aL];omega)
  ·obtain⟨rfl,_⟩:=p;exact hp2.go hi
  ·obtain⟨rfl,_⟩:=p;exact hp2.stop
  ·obtain⟨rfl,rfl,v1,v2,rfl⟩:=p;have hi':i<ps.length:=by simpa using hi
   have e0:ps[i]?=some ps[i]:=gE hi';obtain⟨rfl,a,rfl,na,ha⟩:=hp2.item (r:=Zw ps[i]) (by rw[ak,e0];rfl) yl;refine⟨a,_,rfl,SqT.of ha,rfl,_,_,rfl,_,_,rfl,rfl,_,rfl,_,rfl,rfl,_,rfl,?_⟩;have ee:(!decide (V.str ps[i].1=V.str st))=!decide (ps[i].1=st):=by
    congr 1;by_cases z:ps[i].1=st
    ·rw[z];simp
    ·rw[decide_eq_false z,decide_eq_false (λq=>z (by cases q;rfl))]
   refine ZE (λe=>?_) (λe=>?_)
   ·have e':=ee.symm.trans e;refine⟨_,rfl,rfl,?_,_,_,rfl⟩;rw[YZ _ _ e0,if_pos e',aN];rfl
   ·have e':=ee.symm.trans e;refine⟨rfl,?_,_,_,rfl⟩;rw[YZ _ _ e0,if_neg (by rw[e'];exact az),bB]
  ·obtain⟨rfl,rfl,v1,v2,rfl⟩:=p;rw[lm,b7];generalize egs:(ps.filter λp=>!decide (p.1=st)).map (·.1)=gs;have e3:(ps.filter λp=>!decide (p.1=st)).map (λp=>V.str p.1)=gs.map V.str:=by rw[<-egs,bZ];rfl
   rw[e3];have hgs:∀t∈gs,st≠t/\∃r,(t,r)∈ps:=λt ht=>by rw[<-egs]at ht;obtain⟨p,hp',rfl⟩:=aw.mp ht;obtain⟨m1,m2⟩:=cw.mp hp';exact⟨λz=>by simp[z]at m2,p.2,m1⟩
   have hg0:0<gs.length:=by
    have h3:=gp.lo;have nd:=gp.nd;by_cases z:ps[0].1=st
    ·have z1:ps[1].1≠st:=λq=>by
      have:(ps.map (·.1))[0]'(by simp;omega)=(ps.map (·.1))[1]'(by simp;omega):=by simp[z,q]
      exact absurd ((List.getElem_inj nd).mp this) (by decide)
     have:ps[1].1∈gs:=by rw[<-egs];exact aw.mpr ⟨ps[1],cw.mpr ⟨aW _,by simp[z1]⟩,rfl⟩
     exact List.length_pos_of_mem this
    ·have:ps[0].1∈gs:=by rw[<-egs];exact aw.mpr ⟨ps[0],cw.mpr ⟨aW _,by simp[z]⟩,rfl⟩
     exact List.length_pos_of_mem this
   have hg6:gs.length<=6:=by rw[<-egs,lm];exact ax (cF _ _) gp.hi
   have nl3:=B2.ne hl3;have B3:=B2.new (o:=.lst (gs.map V.str)) hl3;have S3:Zh b H0 (upd H' l3 (.lst (gs.map V.str))):=S02.new' hl3;have el3:upd H' l3 (.lst (gs.map V.str)) l3=some (.lst (gs.map V.str)):=Ze;generalize upd H' l3 (.lst (gs.map V.str))=H3 at B3 S3 el3 ⊢;refine⟨_,rfl,_,rfl,_,rfl,_,rfl,l3,_,rfl,.inl (SqL.of el3),b,_,rfl,B3,by rw[lm];omega,Yz (by omega) (by rw[lm];omega),λr4 H4 h04 h14 B4 S4=>?_⟩;rw[lm]at h14;obtain⟨g,hat4,hg⟩:=Qi h04 h14;refine⟨l3,_,r4,_,rfl,rfl,SqL.of (S4 _ _ el3 nl3),hat4,zl,λq hq=>?_⟩;exact k _ q st g (B4.new hq) ((S3.trans S4).new' hq) Ze (B4.ne hq) (hss st hst) (hgs g hg).2 (hgs g hg).1
structure Rd where
 nm:Str
 st:Str
 lv:Int
 gl:Str
 cm:Int
 se:Int
noncomputable def Y0(r:Rd):List V:=[.str r.nm,.str r.st,.int r.lv,.str r.gl,.int r.cm,.int r.se]
structure Wy where
 nm:Str
 st:Str
 gl:Str
 lo:Int
 wi:Int
noncomputable def Uc(r:Wy):List V:=[.str r.nm,.str r.st,.str r.gl,.int r.lo,.int r.wi]
structure Gr where
 nm:Str
 pl:Str
 tu:Int
 ma:Int
noncomputable def grRow(r:Gr):List V:=[.str r.nm,.str r.pl,.int r.tu,.int r.ma]
structure Ends(ps:Pl)(s g:Str):Prop where
 st:∃i,(s,some i)∈ps
 gl:∃r,(g,r)∈ps
 ne:s≠g
structure GoodRd(n:Int)(ps:Pl)(r:Rd):Prop where
 ends:Ends ps r.st r.gl
 lv0:0<=r.lv
 lv1:r.lv<=n-1
 cm0:r.lv+1<=r.cm
 cm1:r.cm<=n
 se0:0<=r.se
 se1:r.se<=1000
structure GoodWy(ps:Pl)(r:Wy):Prop where
 ends:Ends ps r.st r.gl
 lo0:1<=r.lo
 lo1:r.lo<=50
 wi0:0<=r.wi
 wi1:r.wi<=1000
noncomputable def sufs:List Str:=["",".","..7",".b"]
structure GoodGr(n:Int)(ps:Pl)(base:Str)(r:Gr):Prop where
 nm:∃s∈sufs,r.nm=base++s
 pl:∃x,(r.pl,x)∈ps
 tu0:0<=r.tu
 tu1:r.tu<=n
 ma0:0<=r.ma
 ma1:r.ma<=5
def PF:Sp:=λvs H Q _=>∃(b l:ae)(nm:Str)(n:Int)(ps:Pl),vs=[.ref b,.str nm,.int n,.ref l]/\Zu H b/\ZD b H l (ps.map Zw)/\GoodPl ps/\1<=n/\n<=50/\∀H' q(r:Rd),Zu H' b->Zh b H H'->H' q=some (.tup (Y0 r))->q≠b->r.nm=nm->GoodRd n ps r->Q (.ref q) H'
def Kd:Sp:=λvs H Q _=>∃(b l:ae)(nm:Str)(ps:Pl),vs=[.ref b,.str nm,.ref l]/\Zu H b/\ZD b H l (ps.map Zw)/\GoodPl ps/\∀H' q(r:Wy),Zu H' b->Zh b H H'->H' q=some (.tup (Uc r))->q≠b->r.nm=nm->GoodWy ps r->Q (.ref q) H'
def MJ:Sp:=λvs H Q _=>∃(b l:ae)(nm:Str)(n:Int)(ps:Pl),vs=[.ref b,.str nm,.int n,.ref l]/\Zu H b/\nm.length<=1000/\ZD b H l (ps.map Zw)/\GoodPl ps/\1<=n/\n<=50/\∀H' q(r:Gr),Zu H' b->Zh b H H'->H' q=some (.tup (grRow r))->q≠b->GoodGr n ps nm r->Q (.ref q) H'
theorem Sy{c:Bool}{x y:Int}:atI [V.int x,.int y] (if c=true then 1 else 0)=some (.int (if c=true then y else x)):=by
 cases c
 ·exact ZL (j:=0) rfl
 ·exact ZL (j:=1) rfl
theorem Gn{x y m:Int}(h1:x<=m)(h2:y<=m)(c:Bool):(if c=true then y else x)<=m:=by cases c<;>assumption
theorem Gp{x y m:Int}(h1:m<=x)(h2:m<=y)(c:Bool):m<=(if c=true then y else x):=by cases c<;>assumption
theorem Jm:FnScope [q_b,q_n,"_law_turns",q_p,"_law_start","_law_goal","_law_leave"] [q_b,q_n,"_law_turns",q_p] (Zg T.f__law_ride):=scO (by decide +kernel)
theorem WR(B:∀x∈Blts,mg x=none)(CT:Can P w K mg base 1 "_law_take" [q_b,"_law_many"] YS)(CS:Can P w K mg base 2 "_law_size" [q_b] Pz)(CE:Can P w K mg base 2 "_law_ends" [q_b,q_p] PJ)(D:Df K mg "_law_ride" T.f__law_ride [q_b,q_n,"_law_turns",q_p]):Can P w K mg base 3 "_law_ride" [q_b,q_n,"_law_turns",q_p] PF:=by
 refine D.cn Jm λf cdv A outer s H vs Q E hr h=>?_;obtain⟨b,l,nm,n,ps,rfl,hb,hp,gp,hn1,hn2,k⟩:=h;refine⟨_,(Zf (V2 (cn CE hr (Zb (pv 0) (Zb (pv 3) Zc))) (XM rfl (Zz (Zt (i:=4) Jm.nd rfl (aJ rfl)) (Zz (Zt (i:=5) Jm.nd rfl (aJ rfl)) Yd)))) (Zf (ZM (i:=6) Jm.nd rfl (aJ rfl) (cn CT hr (Zb (pv 0) (Zb (pv 2) Zc)))) (Zi (Zl (Zv (Zb (pv 1) (Zb (pv 4) (Zb (pv 6) (Zb (pv 5) (Zb (Zy Z0 (Zy Z0 (pv 6) Zd) (cn CT hr (Zb (pv 0) (Zb (Zy Jt (pv 2) (pv 6)) Zc)))) (Zb (cn CS hr (Zb (pv 0) Zc)) Zc))))))))))),?_⟩;try dsimp only[cxOf,Cx.nox]
 refine⟨_,rfl,_,rfl,b,l,ps,rfl,hb,hp,gp,λH1 q st gl B1 S1 hq nq es eg ne=>?_⟩;refine⟨q,_,rfl,SqT.of hq,rfl,_,_,rfl,_,_,rfl,rfl,?_⟩;refine⟨_,rfl,_,rfl,b,n,rfl,B1,by omega,Yz (by omega) (by omega),λlv H2 h02 h12 B2 S2=>?_⟩;refine⟨_,rfl,_,rfl,_,rfl,_,rfl,_,rfl,_,_,rfl,rfl,_,rfl,_,rfl,_,rfl,_,_,rfl,rfl,b,n-lv,rfl,B2,by omega,Yz (by omega) (by omega),λd H3 h03 h13 B3 S3=>?_⟩;refine⟨_,_,rfl,rfl,_,rfl,b,rfl,B3,λse H4 h04 h14 B4 S4=>?_⟩;refine⟨zl,λq2 hq2=>?_⟩;exact k _ q2 ⟨nm,st,lv,gl,lv+1+d,se⟩ (B4.new hq2) ((((S1.trans S2).trans S3).trans S4).new' hq2) Ze (B4.ne hq2) rfl ⟨⟨es,eg,ne⟩,h02,by show lv<=n-1;omega,by show lv+1<=lv+1+d;omega,by show lv+1+d<=n;omega,h04,h14⟩
theorem VX:FnScope [q_b,q_n,q_p,"_law_start","_law_goal"] [q_b,q_n,q_p] (Zg T.f__law_way):=scO (by decide +kernel)
theorem Lj(B:∀x∈Blts,mg x=none)(CT:Can P w K mg base 1 "_law_take" [q_b,"_law_many"] YS)(CS:Can P w K mg base 2 "_law_size" [q_b] Pz)(CE:Can P w K mg base 2 "_law_ends" [q_b,q_p] PJ)(D:Df K mg "_law_way" T.f__law_way [q_b,q_n,q_p]):Can P w K mg base 3 "_law_way" [q_b,q_n,q_p] Kd:=by
 refine D.cn VX λf cdv A outer s H vs Q E hr h=>?_;obtain⟨b,l,nm,ps,rfl,hb,hp,gp,k⟩:=h;refine⟨_,(Zf (V2 (cn CE hr (Zb (pv 0) (Zb (pv 2) Zc))) (XM rfl (Zz (Zt (i:=3) VX.nd rfl (aJ rfl)) (Zz (Zt (i:=4) VX.nd rfl (aJ rfl)) Yd)))) (Zi (Zl (Zv (Zb (pv 1) (Zb (pv 3) (Zb (pv 4) (Zb (Zy Z0 Zd (cn CT hr (Zb (pv 0) (Zb (il K (ZO (Zb Zd (Zb Zd Zc))) (Z3 VG rfl (B _ (by decide +kernel)) GQ (Zb (Xi Yl (cn CT hr (Zb (pv 0) (Zb Zd Zc))) Zd (Zx _)) Zc))) Zc)))) (Zb (cn CS hr (Zb (pv 0) Zc)) Zc))))))))),?_⟩;try dsimp only[cxOf,Cx.nox]
 refine⟨_,rfl,_,rfl,b,l,ps,rfl,hb,hp,gp,λH1 q st gl B1 S1 hq nq es eg ne=>?_⟩;refine⟨q,_,rfl,SqT.of hq,rfl,_,_,rfl,_,_,rfl,rfl,?_⟩;refine⟨_,rfl,_,rfl,_,rfl,_,rfl,zl,λl2 hl2=>?_⟩;have n2:=B1.ne hl2;refine tkC (B1.new hl2) (λr2 H2 h02 h12 B2 S2=>?_);have el2:=S2 _ _ Ze n2;have S02:=(S1.new' (o:=.lst [.int 3,.int 50]) hl2).trans S2;refine⟨rfl,.inr ⟨_,rfl,l2,_,_,_,rfl,rfl,SqL.of el2,Sy,b,_,rfl,B2,?_,?_,λlo H3 h03 h13 B3 S3=>?_⟩⟩
 ·exact di (by decide:(0:Int)<3) (Gp (by decide) (by decide) _)
 ·exact Yz (Int.le_trans (by decide:(0:Int)<=3) (Gp (by decide) (by decide) _)) (Gn (by decide) (by decide) _)
 ·have h50:lo<50:=di h13 (Gn (by decide) (by decide) _);refine⟨_,_,rfl,rfl,_,rfl,b,rfl,B3,λwi H4 h04 h14 B4 S4=>?_⟩;refine⟨zl,λq2 hq2=>?_⟩;exact k _ q2 ⟨nm,st,gl,1+lo,wi⟩ (B4.new hq2) (((S02.trans S3).trans S4).new' hq2) Ze (B4.ne hq2) rfl ⟨⟨es,eg,ne⟩,by show 1<=1+lo;omega,by show 1+lo<=50;omega,h04,h14⟩
theorem JM:FnScope [q_b,q_n,"_law_turns",q_p,"_law_place"] [q_b,q_n,"_law_turns",q_p] (Zg T.f__law_group):=scO (by decide +kernel)
theorem Su(B:∀x∈Blts,mg x=none)(CT:Can P w K mg base 1 "_law_take" [q_b,"_law_many"] YS)(D:Df K mg "_law_group" T.f__law_group [q_b,q_n,"_law_turns",q_p]):Can P w K mg base 2 "_law_group" [q_b,q_n,"_law_turns",q_p] MJ:=by
 refine D.cn JM λf cdv A outer s H vs Q E hr h=>?_;obtain⟨b,l,nm,n,ps,rfl,hb,hnl,hp,gp,hn1,hn2,k⟩:=h;refine⟨_,(Zf (ZM (i:=1) JM.nd rfl (aJ rfl) (Zy JQ (pv 1) (il K (ZO (Zb Zn (Zb Zn (Zb Zn (Zb Zn Zc))))) (cn CT hr (Zb (pv 0) (Zb Zd Zc)))))) (Zf (ZM (i:=4) JM.nd rfl (aJ rfl) (it K (il K (pv 3) (cn CT hr (Zb (pv 0) (Zb (ZJ (r:=rLen K) Yh rfl (B _ (by decide +kernel)) bt (Zb (pv 3) Zc)) Zc)))) Zd)) (Zi (Zl (Zv (Zb (pv 1) (Zb (pv 4) (Zb (cn CT hr (Zb (pv 0) (Zb (Zy Z0 (pv 2) Zd) Zc))) (Zb (cn CT hr (Zb (pv 0) (Zb Zd Zc))) Zc))))))))),?_⟩;try dsimp only[cxOf,Cx.nox]
 refine⟨_,rfl,zl,λl2 hl2=>?_⟩;have n2:=hb.ne hl2;refine tkC (hb.new hl2) (λr2 H2 h02 h12 B2 S2=>?_);have el2:=S2 _ _ Ze n2;have S02:=((Zh.refl b H).new' (o:=.lst (sufs.map V.str)) hl2).trans S2;obtain⟨sf,hat,hsf⟩:=Qi (ts:=sufs) h02 h12;have hsl:sf.length<=3:=(by decide +kernel:∀t∈sufs,t.length<=3) sf hsf;refine⟨l2,_,r2,_,rfl,rfl,SqL.of el2,hat,_,_,rfl,rfl,ax (by omega:nm.length+sf.length<=2000) (by decide),?_⟩;have hp2:=hp.same S02;have hp2':=hp2;obtain⟨nlb,as,el,len,rws⟩:=hp2';have len':as.length=ps.length:=by rw[len,lm]
 have h36:3<=ps.length/\ps.length<=6:=⟨gp.lo,gp.hi⟩;refine⟨_,rfl,_,rfl,_,rfl,l,_,rfl,.inl (SqL.of el),b,_,rfl,B2,by rw[lm];omega,Yz (by omega) (by rw[lm];omega),λr3 H3 h03 h13 B3 S3=>?_⟩;rw[lm]at h13;have hi:r3.toNat<ps.length:=by omega
 obtain⟨a,na,ha,as',el',ea,len2⟩:=(hp2.same S3).at (i:=r3.toNat) (r:=Zw ps[r3.toNat]) (by rw[ak,gE hi];rfl);refine⟨l,_,r3,.ref a,rfl,rfl,SqL.of el',Sz (j:=r3.toNat) (by omega) (by rw[ak,ea];rfl),a,_,0,_,rfl,rfl,SqT.of ha,ZL (j:=0) rfl,?_⟩;refine⟨_,rfl,_,rfl,_,rfl,_,rfl,_,_,rfl,rfl,b,n+1,rfl,B3,by omega,Yz (by omega) (by omega),λtu H4 h04 h14 B4 S4=>?_⟩;refine tkC B4 (λma H5 h05 h15 B5 S5=>?_);refine⟨zl,λq hq=>?_⟩;exact k _ q ⟨nm++sf,ps[r3.toNat].1,tu,ma⟩ (B5.new hq) ((((S02.trans S3).trans S4).trans S5).new' hq) Ze (B5.ne hq) ⟨⟨sf,hsf,rfl⟩,⟨ps[r3.toNat].2,aW hi⟩,h04,by show tu<=n;omega,h05,by show ma<=5;omega⟩
structure Wd where
 n:Int
 ps:Pl
 rs:List Rd
 ws:List Wy
 gs:List Gr
structure Names(ts:List Str)(s:Str):Prop where
 nd:ts.Nodup
 nm:∀t∈ts,Nm t
 len:ts.length<=12
 snm:Nm s
 s:s∉ts
structure GoodW(W:Wd)(bs:List Str):Prop where
 n0:1<=W.n
 n1:W.n<=50
 pl:GoodPl W.ps
 rd:∀r∈W.rs,GoodRd W.n W.ps r
 wy:∀r∈W.ws,GoodWy W.ps r
 len:W.gs.length=bs.length
 gr:∀(i:Nat)b g,bs[i]?=some b->W.gs[i]?=some g->GoodGr W.n W.ps b g
structure Strange(W:Wd)(bs:List Str)(s0 s1 s2 s3:Str):Prop where
 p:Nm s0/\s0∉W.ps.map (·.1)
 r:Names (W.rs.map (·.nm)) s1
 w:Names (W.ws.map (·.nm)) s2
 g:Names bs s3
structure WorldAt(b:ae)(H:Hp)(p:ae)(W:Wd)(l1 l2 l3 l4:ae):Prop where
 ne:p≠b
 at_:H p=some (.lst [.int W.n,.ref l1,.ref l2,.ref l3,.ref l4])
 pl:ZD b H l1 (W.ps.map Zw)
 rd:ZD b H l2 (W.rs.map Y0)
 wy:ZD b H l3 (W.ws.map Uc)
 gr:ZD b H l4 (W.gs.map grRow)
def SM:Sp:=λvs H Q _=>∃(b:ae),vs=[.ref b]/\Zu H b/\∀H' q p st l1 l2 l3 l4(W:Wd)(bs:List Str)(s0 s1 s2 s3:Str),Zu H' b->Zh b H H'->q≠b->H' q=some (.lst [.ref p,.ref st])->st≠b->H' st=some (.lst [.str s0,.str s1,.str s2,.str s3])->WorldAt b H' p W l1 l2 l3 l4->GoodW W bs->Strange W bs s0 s1 s2 s3->Q (.ref q) H'
def Ms(b:ae)(H:Hp)(l:ae)(ts:List Str):Prop:=l≠b/\H l=some (.lst (ts.map V.str))/\1<=ts.length/\ts.length<=13/\ts.Nodup/\∀t∈ts,Nm t
theorem Ms.same{b:ae}{H H':Hp}{l:ae}{ts:List Str}(s:Zh b H H')(h:Ms b H l ts):Ms b H' l ts:=⟨h.1,s _ _ h.2.1 h.1,h.2.2⟩
theorem cut1(xs:List V)(h:1<=xs.length):cutV xs (some 1) none=xs.drop 1:=by
 have e:HT.sIx xs.length 0 (some 1)=1:=by simp[HT.sIx];omega
 have e2:HT.sIx xs.length xs.length none=xs.length:=by simp[HT.sIx]
 unfold cutV;rw[e,e2,aZ (by rw[bI];exact aj _)]
theorem Names.of{ts:List Str}{s:Str}(h1:(s::ts).length<=13)(h2:(s::ts).Nodup)(h3:∀t∈s::ts,Nm t):Names ts s:=by rw[bQ]at h2;exact⟨h2.2,λt ht=>h3 t (am _ ht),by simp at h1;omega,h3 s ao,h2.1⟩
def Made{R:Type}(b:ae)(H:Hp)(row:R->List V)(G:Str->R->Prop)(tl:List Str)(i:Nat)(ys:List V):Prop:=∃(as:List ae)(rs:List R),ys=as.map V.ref/\as.length=i/\rs.length=i/\(∀(j:Nat)a r,as[j]?=some a->rs[j]?=some r->a≠b/\H a=some (.tup (row r)))/\∀(j:Nat)r t,rs[j]?=some r->tl[j]?=some t->G t r
theorem Made.nil{R:Type}{b:ae}{H:Hp}{row:R->List V}{G:Str->R->Prop}{tl:List Str}:Made b H row G tl 0 []:=⟨[],[],rfl,rfl,rfl,λj a r h=>by simp at h,λj r t h=>by simp at h⟩
theorem Made.len{R:Type}{b:ae}{H:Hp}{row:R->List V}{G:Str->R->Prop}{tl:List Str}{i:Nat}{ys:List V}(m:Made b H row G tl i ys):ys.length<=i:=by obtain⟨as,rs,rfl,l1,_⟩:=m;rw[lm,l1];exact aj _
theorem Md{α:Type}{l:List α}{x y:α}{j i:Nat}(hl:l.length=i)(h:(l++[x])[j]?=some y):l[j]?=some y\/(j=i/\x=y):=by
 rcases Nat.lt_or_ge j l.length with h1|h1
 ·rw[bj h1]at h;exact .inl h
 ·rw[bC h1]at h;rcases cD (j-l.length)with h2|h2
  ·rw[h2]at h;exact .inr ⟨by omega,by simpa using h⟩
  ·rw[List.getElem?_eq_none (by simp;omega)]at h;cases h
theorem Made.step{R:Type}{b:ae}{H H2:Hp}{row:R->List V}{G:Str->R->Prop}{tl:List Str}{i:Nat}{ys:List V}{a:ae}{r:R}{t:Str}(m:Made b H row G tl i ys)(s:Zh b H H2)(na:a≠b)(ha:H2 a=some (.tup (row r)))(ht:tl[i]?=some t)(g:G t r):Made b H2 row G tl (i+1) (ys++[.ref a]):=by
 obtain⟨as,rs,rfl,l1,l2,r1,r2⟩:=m;refine⟨as++[a],rs++[r],by simp,by simp[l1],by simp[l2],λj a' r' h1 h2=>?_,λj r' t' h1 h2=>?_⟩
 ·rcases Md l1 h1 with h1|⟨e,rfl⟩
  ·have hj:j<i:=by rw[<-l1];exact(ai.mp h1).1
   rcases Md l2 h2 with h2|⟨e,rfl⟩
   ·obtain⟨n,e⟩:=r1 j a' r' h1 h2;exact⟨n,s _ _ e n⟩
   ·omega
  ·rcases Md l2 h2 with h2|⟨e,rfl⟩
   ·have hj:j<i:=by rw[<-l2];exact(ai.mp h2).1
    omega
   ·exact⟨na,ha⟩
 ·rcases Md l2 h1 with h1|⟨e,rfl⟩
  ·exact r2 j r' t' h1 h2
  ·rw[e,ht]at h2;cases h2;exact g
theorem Made.done{R:Type}{b:ae}{H:Hp}{row:R->List V}{G:Str->R->Prop}{tl:List Str}{ys:List V}(m:Made b H row G tl tl.length ys){l:ae}(hb:Zu H b)(hl:H l=none):∃rs:List R,ZD b (upd H l (.lst ys)) l (rs.map row)/\rs.length=tl.length/\∀(j:Nat)r t,rs[j]?=some r->tl[j]?=some t->G t r:=by obtain⟨as,rs,rfl,l1,l2,r1,r2⟩:=m;refine⟨rs,⟨hb.ne hl,as,Ze,by rw[lm,l1,l2],λi a r h1 h2=>?_⟩,l2,r2⟩;rw[ak]at h2;obtain⟨r',h2',rfl⟩:=bF.mp h2;obtain⟨n,e⟩:=r1 i a r' h1 h2';exact⟨n,by rw[Zj (Zk e hl)];exact e⟩
theorem Rv{K:aa}{H:Hp}{l:ae}{ts:List Str}(h:H l=some (.lst (ts.map V.str))){i:Nat}(hi:i<ts.length):(Itl K l).go i H:=⟨_,.str ts[i],SqL.of h,by simp[hi]⟩
theorem MA{K:aa}{H:Hp}{l:ae}{ts:List Str}(h:H l=some (.lst (ts.map V.str))):(Itl K l).stop ts.length H:=⟨_,SqL.of h,by simp⟩
theorem MB{K:aa}{H H':Hp}{l:ae}{ts:List Str}(h:H l=some (.lst (ts.map V.str))){i:Nat}{x:V}(hi:i<ts.length)(y:(Itl K l).yld i H x H'):H'=H/\x=.str ts[i]:=by obtain⟨rfl,q⟩:=y;have:=q _ (SqL.of h);rw[ak,gE hi]at this;exact⟨rfl,(aH this).symm⟩
theorem Yo:FnScope [q_b,"_law_turns",q_p,q_s,"_law_names_here","_law_rides_here","_law_ways","_law_groups_here"] [q_b] (Zg T.f__law_world):=scO (by decide +kernel)
noncomputable def XW:bH:=csx [(".0",.local),("_law_k",.local),("_law_names",.globalImplicit),("_law_take",.globalImplicit),("int",.globalImplicit),(q_b,.free)]
theorem UI:CompScope XW (Zg T.f__law_world):=⟨rfl,by decide +kernel,by decide +kernel,by decide +kernel⟩
theorem UK:(["_law_k",q_b]:List Str).Nodup:=by decide +kernel
theorem UJ:CompNames [q_b,"_law_turns",q_p,q_s,"_law_names_here","_law_rides_here","_law_ways","_law_groups_here"] XW ["_law_k",q_b] [none,some 0]:=.mk' (by decide +kernel)
noncomputable def XU:bH:=csx [(".0",.local),(q_n,.local),("_law_ride",.globalImplicit),(q_b,.free),(q_p,.free),("_law_turns",.free)]
theorem UF:CompScope XU (Zg T.f__law_world):=⟨rfl,by decide +kernel,by decide +kernel,by decide +kernel⟩
theorem UH:([q_n,q_b,q_p,"_law_turns"]:List Str).Nodup:=by decide +kernel
theorem UG:CompNames [q_b,"_law_turns",q_p,q_s,"_law_names_here","_law_rides_here","_law_ways","_law_groups_here"] XU [q_n,q_b,q_p,"_law_turns"] [none,some 0,some 2,some 1]:=.mk' (by decide +kernel)
noncomputable def XS:bH:=csx [(".0",.local),(q_n,.local),("_law_way",.globalImplicit),(q_b,.free),(q_p,.free)]
theorem UC:CompScope XS (Zg T.f__law_world):=⟨rfl,by decide +kernel,by decide +kernel,by decide +kernel⟩
theorem UE:([q_n,q_b,q_p]:List Str).Nodup:=by decide +kernel
theorem UD:CompNames [q_b,"_law_turns",q_p,q_s,"_law_names_here","_law_rides_here","_law_ways","_law_groups_here"] XS [q_n,q_b,q_p] [none,some 0,some 2]:=.mk' (by decide +kernel)
noncomputable def XQ:bH:=csx [(".0",.local),(q_n,.local),("_law_group",.globalImplicit),(q_b,.free),(q_p,.free),("_law_turns",.free)]
theorem Uz:CompScope XQ (Zg T.f__law_world):=⟨rfl,by decide +kernel,by decide +kernel,by decide +kernel⟩
theorem UB:([q_n,q_b,q_p,"_law_turns"]:List Str).Nodup:=by decide +kernel
theorem UA:CompNames [q_b,"_law_turns",q_p,q_s,"_law_names_here","_law_rides_here","_law_ways","_law_groups_here"] XQ [q_n,q_b,q_p,"_law_turns"] [none,some 0,some 2,some 1]:=.mk' (by decide +kernel)
theorem WJ(B:∀x∈Blts,mg x=none)(CT:Can P w K mg base 1 "_law_take" [q_b,"_law_many"] YS)(CN:Can P w K mg base 2 "_law_names" [q_b,"_law_many"] Ma)(CP:Can P w K mg base 3 "_law_places" [q_b] Qw)(CR:Can P w K mg base 3 "_law_ride" [q_b,q_n,"_law_turns",q_p] PF)(CW:Can P w K mg base 3 "_law_way" [q_b,q_n,q_p] Kd)(CG:Can P w K mg base 2 "_law_group" [q_b,q_n,"_law_turns",q_p] MJ)(D:Df K mg "_law_world" T.f__law_world [q_b]):Can P w K mg base 4 "_law_world" [q_b] SM:=by
 refine D.cn Yo λf cdv A outer s H vs Q E hr h=>?_;obtain⟨b,rfl,hb,k⟩:=h;refine⟨_,(Zf (ZM (i:=1) Yo.nd rfl (Or.inr rfl) (Zy Z0 Zd (cn CT hr (Zb (pv 0) (Zb (il K (ZO (Zb Zd (Zb Zd Zc))) (Z3 VG rfl (B _ (by decide +kernel)) GQ (Zb (Xi Yl (cn CT hr (Zb (pv 0) (Zb Zd Zc))) Zd (Zx _)) Zc))) Zc))))) (Zf (V2 (cn CP hr (Zb (pv 0) Zc)) (Kx rfl (Zz (Zt (i:=2) Yo.nd rfl (Or.inr rfl)) (Zz (Zt (i:=3) Yo.nd rfl (aJ rfl)) Yd)))) (Zf (Xh (i:=4) Yo.nd rfl (aJ rfl) (scope:=XW) (N:=["_law_k",q_b]) (cp:=[none,some 0]) rfl UI UJ (Y1 rfl (B _ (by decide +kernel)) (Zb Zd Zc)) (λC s H ex pn=>(Zt (i:=0) UK rfl (aJ rfl))) (λC s H ex pn=>Yp) (λC s H ex pn=>(cn CN hr (Zb (pv 1) (Zb (Zy Z0 Zd (cn CT hr (Zb (pv 1) (Zb (il K (ZO (Zb Zd (Zb Zd Zc))) (Z3 VG rfl (B _ (by decide +kernel)) GQ (Zb (Xi Yl (cn CT hr (Zb (pv 1) (Zb Zd Zc))) Zd (Zx _)) Zc))) Zc)))) Zc))))) (Zf (Xh (i:=5) Yo.nd rfl (aJ rfl) (scope:=XU) (N:=[q_n,q_b,q_p,"_law_turns"]) (cp:=[none,some 0,some 2,some 1]) rfl UF UG (Yq (Yc (r:=rSlL K) Y5 (il K (pv 4) Zd) (Yv Zd) Yw)) (λC s H ex pn=>(Zt (i:=0) UH rfl (aJ rfl))) (λC s H ex pn=>Yp) (λC s H ex pn=>(cn CR hr (Zb (pv 1) (Zb (pv 0) (Zb (pv 3) (Zb (pv 2) Zc))))))) (Zf (Xh (i:=6) Yo.nd rfl (aJ rfl) (scope:=XS) (N:=[q_n,q_b,q_p]) (cp:=[none,some 0,some 2]) rfl UC UD (Yq (Yc (r:=rSlL K) Y5 (il K (pv 4) Zd) (Yv Zd) Yw)) (λC s H ex pn=>(Zt (i:=0) UE rfl (aJ rfl))) (λC s H ex pn=>Yp) (λC s H ex pn=>(cn CW hr (Zb (pv 1) (Zb (pv 0) (Zb (pv 2) Zc)))))) (Zf (Xh (i:=7) Yo.nd rfl (aJ rfl) (scope:=XQ) (N:=[q_n,q_b,q_p,"_law_turns"]) (cp:=[none,some 0,some 2,some 1]) rfl Uz UA (Yq (Yc (r:=rSlL K) Y5 (il K (pv 4) Zd) (Yv Zd) Yw)) (λC s H ex pn=>(Zt (i:=0) UB rfl (aJ rfl))) (λC s H ex pn=>Yp) (λC s H ex pn=>(cn CG hr (Zb (pv 1) (Zb (pv 0) (Zb (pv 3) (Zb (pv 2) Zc))))))) (Zi (Zl (ZO (Zb (ZO (Zb (pv 1) (Zb (pv 2) (Zb (pv 5) (Zb (pv 6) (Zb (pv 7) Zc)))))) (Zb (ZO (Zb (pv 3) (Zb (il K (il K (pv 4) Zd) Zd) (Zb (il K (il K (pv 4) Zd) Zd) (Zb (il K (il K (pv 4) Zd) Zd) Zc))))) Zc))))))))))),?_⟩;try dsimp only[cxOf,Cx.nox]
 refine⟨_,rfl,zl,λl2 hl2=>?_⟩;have n2:=hb.ne hl2;refine tkC (hb.new hl2) (λr2 H2 h02 h12 B2 S2=>?_);have el2:=S2 _ _ Ze n2;have S02:=((Zh.refl b H).new' (o:=.lst [.int 6,.int 50]) hl2).trans S2;refine⟨rfl,.inr ⟨_,rfl,l2,_,_,_,rfl,rfl,SqL.of el2,Sy,b,_,rfl,B2,?_,?_,λtu H3 h03 h13 B3 S3=>?_⟩⟩
 ·exact di (by decide:(0:Int)<6) (Gp (by decide) (by decide) _)
 ·exact Yz (Int.le_trans (by decide:(0:Int)<=6) (Gp (by decide) (by decide) _)) (Gn (by decide) (by decide) _)
 have h50:tu<50:=di h13 (Gn (by decide) (by decide) _);clear h13;refine⟨_,_,rfl,rfl,?_⟩;have S03:=S02.trans S3;clear S02 S2 S3 el2 hl2;have hn1:1<=(1+tu):=by omega
 have hn2:(1+tu)<=50:=by omega
 refine⟨_,rfl,b,rfl,B3,λH4 q l1 s0 ps B4 S4 hq nq hpl gp s0n s0p=>?_⟩;refine⟨q,_,rfl,SqL.of hq,rfl,_,_,rfl,_,_,rfl,rfl,?_⟩;have S04:=S03.trans S4;clear S03 S4 B3;refine⟨3,rfl,by decide,by decide,Z7 (J:=Itr 0 3) 3 (by decide)
  (λi ys τ H'=>Zu H' b/\Zh b H H'/\ZD b H' l1 (ps.map Zw)/\(∃ls:List (ae×List Str),ys=ls.map (λp=>V.ref p.1)/\ls.length=i/\∀p∈ls,Ms b H' p.1 p.2)/\∃v,τ=[v,some (.ref b)]) ⟨B4,S04,hpl,⟨[],rfl,rfl,by simp⟩,none,rfl⟩ (λi ys τ H' p=>?_) (λi ys τ H' hi p=>hi) (λys τ H' p=>aj _) (λi ys τ H' x' H3 hi p yl=>?_) (λys τ H5 p ln hln=>?_)⟩
 ·obtain⟨_,_,_,⟨ls,rfl,e,_⟩,_⟩:=p;rw[lm,e];exact aj _
 ·obtain⟨bx,sm,hpl5,⟨ls,rfl,e,ho⟩,v,rfl⟩:=p;obtain⟨rfl,rfl⟩:=yl;refine⟨_,rfl,_,rfl,zl,λl2 hl2=>?_⟩;have n2:=bx.ne hl2;refine tkC (bx.new hl2) (λr2 H2 h02 h12 B2 S2=>?_);have el2:=S2 _ _ Ze n2;have S12:=((Zh.refl b H3).new' (o:=.lst [.int 5,.int 13]) hl2).trans S2;refine⟨rfl,.inr ⟨_,rfl,l2,_,_,_,rfl,rfl,SqL.of el2,Sy,b,_,rfl,B2,?_,?_,λmn H6 h06 h16 B6 S6=>?_⟩⟩
  ·exact di (by decide:(0:Int)<5) (Gp (by decide) (by decide) _)
  ·exact Yz (Int.le_trans (by decide:(0:Int)<=5) (Gp (by decide) (by decide) _)) (Gn (by decide) (by decide) _)
  have h13:mn<13:=di h16 (Gn (by decide) (by decide) _);refine⟨_,_,rfl,rfl,b,1+mn,rfl,B6,by omega,by omega,λH7 l7 ts B7 S7 hl7 nl7 hlen hnd hnm=>?_⟩;have S17:=(S12.trans S6).trans S7;refine⟨B7,sm.trans S17,hpl5.same S17,⟨ls++[(l7,ts)],by rw[aN];rfl,by simp[e],λp hp=>?_⟩,_,rfl⟩;rcases bp.mp hp with hp|hp
  ·exact(ho p hp).same S17
  ·rw[bi]at hp;subst hp;exact⟨nl7,hl7,by show 1<=ts.length;omega,by show ts.length<=13;omega,hnd,hnm⟩
 ·obtain⟨B5,S05,hpl5,⟨ls,rfl,e,ho⟩,v,rfl⟩:=p;match ls,e,ho with
 |[(a1,t1),(a2,t2),(a3,t3)],_,ho=>
  have N1:=ho (a1,t1) (by simp);have N2:=ho (a2,t2) (by simp);have N3:=ho (a3,t3) (by simp);clear ho;dsimp only[List.map]at hln ⊢;have nln:=B5.ne hln;have B6:=B5.new (o:=.lst [.ref a1,.ref a2,.ref a3]) hln;have S56:Zh b H5 (upd H5 ln (.lst [.ref a1,.ref a2,.ref a3])):=(Zh.refl b H5).new' hln;have eln:upd H5 ln (.lst [.ref a1,.ref a2,.ref a3]) ln=some (.lst [.ref a1,.ref a2,.ref a3]):=Ze;generalize upd H5 ln (.lst [.ref a1,.ref a2,.ref a3])=H6 at B6 S56 eln ⊢;have S06:=S05.trans S56;have N1:=N1.same S56;have N2:=N2.same S56;have N3:=N3.same S56;have hpl6:=hpl5.same S56;clear S56 S05 hpl5 B5 hln;obtain⟨na1,ea1,c1,c1',nd1,nm1⟩:=id N1;obtain⟨h1,u1,rfl⟩:∃h u,t1=h::u:=by
   cases t1 with
  |nil=>simp at c1
  |cons h u=>exact⟨h,u,rfl⟩
  refine ixL 0 eln rfl ⟨_,rfl,a1,_,rfl,SqL.of ea1,λx1 hx1=>?_⟩;rw[cut1 _ (by rw[lm];exact c1)];have nx1:=B6.ne hx1;refine⟨x1,rfl,⟨_,SqL.of Ze⟩,?_⟩;have ex1:upd H6 x1 (.lst ((h1::u1).map V.str |>.drop 1)) x1=some (.lst (u1.map V.str)):=Ze
  have Bx1:=B6.new (o:=.lst ((h1::u1).map V.str |>.drop 1)) hx1
  have Sx1:Zh b H6 (upd H6 x1 (.lst ((h1::u1).map V.str |>.drop 1))):=(Zh.refl b H6).new' hx1
  generalize upd H6 x1 (.lst ((h1::u1).map V.str |>.drop 1))=X1 at ex1 Bx1 Sx1 ⊢
  have len1:u1.length<=12:=by simp at c1';omega
  refine Z7 (J:=Itl K x1) u1.length (ax len1 (by decide)) (λi ys τ H'=>Zu H' b/\Zh b X1 H'/\Made b H' Y0 (λt(r:Rd)=>r.nm=t/\GoodRd (1+tu) ps r) u1 i ys/\∃v,τ=[v,some (.ref b),some (.ref l1),some (.int (1+tu))]) ⟨Bx1,Zh.refl b _,Made.nil,none,rfl⟩ (λi ys τ H' p=>p.2.2.1.len) (λi ys τ H' hi p=>Rv (p.2.1 _ _ ex1 nx1) hi) (λys τ H' p=>MA (p.2.1 _ _ ex1 nx1)) (λi ys τ H' x' H3 hi p yl=>?_) (λys τ H70 p lr hlr=>?_)
  ·obtain⟨bx,sm,md,v,rfl⟩:=p;obtain⟨rfl,rfl⟩:=MB (sm _ _ ex1 nx1) hi yl;exact⟨_,rfl,_,rfl,_,rfl,_,rfl,b,l1,_,(1+tu),ps,rfl,bx,hpl6.same (Sx1.trans sm),gp,hn1,hn2,λH4 q r B4 S4 hq nq e g=>⟨B4,sm.trans S4,md.step S4 nq hq (gE hi) ⟨e,g⟩,_,rfl⟩⟩
  obtain⟨bx1,sm1,md1,v,rfl⟩:=p;obtain⟨rs,R1,lr1,g1⟩:=md1.done bx1 hlr;have B7:=bx1.new (o:=.lst ys) hlr;have S1_:Zh b H6 (upd H70 lr (.lst ys)):=(Sx1.trans sm1).new' hlr;generalize upd H70 lr (.lst ys)=H7 at B7 S1_ R1 ⊢;have S07:=S06.trans S1_;have hpl7:=hpl6.same S1_;have eln:=S1_ _ _ eln nln;have N2:=N2.same S1_;have N3:=N3.same S1_;clear Sx1 sm1 ex1 bx1 Bx1 ea1;obtain⟨na2,ea2,c2,c2',nd2,nm2⟩:=id N2;obtain⟨h2,u2,rfl⟩:∃h u,t2=h::u:=by
   cases t2 with
  |nil=>simp at c2
  |cons h u=>exact⟨h,u,rfl⟩
  refine ixL 1 eln rfl ⟨_,rfl,a2,_,rfl,SqL.of ea2,λx2 hx2=>?_⟩;rw[cut1 _ (by rw[lm];exact c2)];have nx2:=B7.ne hx2;refine⟨x2,rfl,⟨_,SqL.of Ze⟩,?_⟩;have ex2:upd H7 x2 (.lst ((h2::u2).map V.str |>.drop 1)) x2=some (.lst (u2.map V.str)):=Ze
  have Bx2:=B7.new (o:=.lst ((h2::u2).map V.str |>.drop 1)) hx2
  have Sx2:Zh b H7 (upd H7 x2 (.lst ((h2::u2).map V.str |>.drop 1))):=(Zh.refl b H7).new' hx2
  generalize upd H7 x2 (.lst ((h2::u2).map V.str |>.drop 1))=X2 at ex2 Bx2 Sx2 ⊢
  have len2:u2.length<=12:=by simp at c2';omega
  refine Z7 (J:=Itl K x2) u2.length (ax len2 (by decide)) (λi ys τ H'=>Zu H' b/\Zh b X2 H'/\Made b H' Uc (λt(r:Wy)=>r.nm=t/\GoodWy ps r) u2 i ys/\∃v,τ=[v,some (.ref b),some (.ref l1)]) ⟨Bx2,Zh.refl b _,Made.nil,none,rfl⟩ (λi ys τ H' p=>p.2.2.1.len) (λi ys τ H' hi p=>Rv (p.2.1 _ _ ex2 nx2) hi) (λys τ H' p=>MA (p.2.1 _ _ ex2 nx2)) (λi ys τ H' x' H3 hi p yl=>?_) (λys τ H80 p lw hlw=>?_)
  ·obtain⟨bx,sm,md,v,rfl⟩:=p;obtain⟨rfl,rfl⟩:=MB (sm _ _ ex2 nx2) hi yl;exact⟨_,rfl,_,rfl,_,rfl,b,l1,_,ps,rfl,bx,hpl7.same (Sx2.trans sm),gp,λH4 q r B4 S4 hq nq e g=>⟨B4,sm.trans S4,md.step S4 nq hq (gE hi) ⟨e,g⟩,_,rfl⟩⟩
  obtain⟨bx2,sm2,md2,v,rfl⟩:=p;obtain⟨ws,R2,lr2,g2⟩:=md2.done bx2 hlw;have B8:=bx2.new (o:=.lst ys) hlw;have S2_:Zh b H7 (upd H80 lw (.lst ys)):=(Sx2.trans sm2).new' hlw;generalize upd H80 lw (.lst ys)=H8 at B8 S2_ R2 ⊢;have S08:=S07.trans S2_;have hpl8:=hpl7.same S2_;have eln:=S2_ _ _ eln nln;have N3:=N3.same S2_;have R1:=R1.same S2_;clear Sx2 sm2 ex2 bx2 Bx2 ea2;obtain⟨na3,ea3,c3,c3',nd3,nm3⟩:=id N3;obtain⟨h3,u3,rfl⟩:∃h u,t3=h::u:=by
   cases t3 with
  |nil=>simp at c3
  |cons h u=>exact⟨h,u,rfl⟩
  refine ixL 2 eln rfl ⟨_,rfl,a3,_,rfl,SqL.of ea3,λx3 hx3=>?_⟩;rw[cut1 _ (by rw[lm];exact c3)];have nx3:=B8.ne hx3;refine⟨x3,rfl,⟨_,SqL.of Ze⟩,?_⟩;have ex3:upd H8 x3 (.lst ((h3::u3).map V.str |>.drop 1)) x3=some (.lst (u3.map V.str)):=Ze
  have Bx3:=B8.new (o:=.lst ((h3::u3).map V.str |>.drop 1)) hx3
  have Sx3:Zh b H8 (upd H8 x3 (.lst ((h3::u3).map V.str |>.drop 1))):=(Zh.refl b H8).new' hx3
  generalize upd H8 x3 (.lst ((h3::u3).map V.str |>.drop 1))=X3 at ex3 Bx3 Sx3 ⊢
  have len3:u3.length<=12:=by simp at c3';omega
  refine Z7 (J:=Itl K x3) u3.length (ax len3 (by decide)) (λi ys τ H'=>Zu H' b/\Zh b X3 H'/\Made b H' grRow (λt(r:Gr)=>GoodGr (1+tu) ps t r) u3 i ys/\∃v,τ=[v,some (.ref b),some (.ref l1),some (.int (1+tu))]) ⟨Bx3,Zh.refl b _,Made.nil,none,rfl⟩ (λi ys τ H' p=>p.2.2.1.len) (λi ys τ H' hi p=>Rv (p.2.1 _ _ ex3 nx3) hi) (λys τ H' p=>MA (p.2.1 _ _ ex3 nx3)) (λi ys τ H' x' H3 hi p yl=>?_) (λys τ H90 p lg hlg=>?_)
  ·obtain⟨bx,sm,md,v,rfl⟩:=p;obtain⟨rfl,rfl⟩:=MB (sm _ _ ex3 nx3) hi yl;exact⟨_,rfl,_,rfl,_,rfl,_,rfl,b,l1,_,(1+tu),ps,rfl,bx,ax (by have:=(nm3 u3[i] (am _ (aW hi))).2.1;rw[ZI]at this;exact this) (by decide),hpl8.same (Sx3.trans sm),gp,hn1,hn2,λH4 q r B4 S4 hq nq g=>⟨B4,sm.trans S4,md.step S4 nq hq (gE hi) g,_,rfl⟩⟩
  obtain⟨bx3,sm3,md3,v,rfl⟩:=p;obtain⟨gs,R3,lr3,g3⟩:=md3.done bx3 hlg;have B9:=bx3.new (o:=.lst ys) hlg;have S3_:Zh b H8 (upd H90 lg (.lst ys)):=(Sx3.trans sm3).new' hlg;generalize upd H90 lg (.lst ys)=H9 at B9 S3_ R3 ⊢;have S09:=S08.trans S3_;have hpl9:=hpl8.same S3_;have eln:=S3_ _ _ eln nln;have R1:=R1.same S3_;have R2:=R2.same S3_;have N1:=N1.same ((S1_.trans S2_).trans S3_);have N2:=N2.same (S2_.trans S3_);have N3:=N3.same S3_;clear Sx3 sm3 ex3 bx3 Bx3 ea3;refine⟨_,rfl,_,rfl,_,rfl,_,rfl,_,rfl,zl,λpw hpw=>?_⟩;have npw:=B9.ne hpw;have Bp:=B9.new (o:=.lst [.int (1+tu),.ref l1,.ref lr,.ref lw,.ref lg]) hpw;have Sp:Zh b H9 (upd H9 pw (.lst [.int (1+tu),.ref l1,.ref lr,.ref lw,.ref lg])):=(Zh.refl b H9).new' hpw;have ep:upd H9 pw (.lst [.int (1+tu),.ref l1,.ref lr,.ref lw,.ref lg]) pw=some (.lst [.int (1+tu),.ref l1,.ref lr,.ref lw,.ref lg]):=Ze;generalize upd H9 pw (.lst [.int (1+tu),.ref l1,.ref lr,.ref lw,.ref lg])=Hp at Bp Sp ep ⊢;have elnp:=Sp _ _ eln nln;have at0:∀(x:V)(l:List V),atI (x::l) 0=some x:=λx l=>ZL (xs:=x::l) (j:=0) rfl;refine⟨_,rfl,ixL 0 elnp rfl ⟨a1,_,0,_,rfl,rfl,SqL.of (Sp _ _ N1.2.1 N1.1),at0 _ _,ixL 1 elnp rfl ⟨a2,_,0,_,rfl,rfl,SqL.of (Sp _ _ N2.2.1 N2.1),at0 _ _,ixL 2 elnp rfl ⟨a3,_,0,_,rfl,rfl,SqL.of (Sp _ _ N3.2.1 N3.1),at0 _ _,zl,λps4 hps4=>?_⟩⟩⟩⟩;have nps4:=Bp.ne hps4;refine⟨zl,λqq hqq=>?_⟩;have Bs:=Bp.new (o:=.lst [.str s0,.str h1,.str h2,.str h3]) hps4;have Ss:Zh b Hp (upd Hp ps4 (.lst [.str s0,.str h1,.str h2,.str h3])):=(Zh.refl b Hp).new' hps4;have Sq:=(Sp.trans Ss).new' (o:=.lst [.ref pw,.ref ps4]) hqq;have st4:(upd (upd Hp ps4 (.lst [.str s0,.str h1,.str h2,.str h3])) qq (.lst [.ref pw,.ref ps4])) ps4=some (.lst [.str s0,.str h1,.str h2,.str h3]):=by rw[Zj (Zk Ze hqq)];exact Ze
  have fst:∀{R:Type}{f:R->Str}{rs:List R}{u:List Str},rs.length=u.length->(∀(j:Nat)r t,rs[j]?=some r->u[j]?=some t->f r=t)->rs.map f=u:=λ{R f rs u}hl hf=>by apply List.ext_getElem (by simp[hl]);intro i h1 h2;simp only[List.getElem_map];exact hf i _ _ (gE (by simpa using h1)) (gE h2)
  have f1:rs.map (·.nm)=u1:=fst lr1 λj r t a c=>(g1 j r t a c).1;have f2:ws.map (·.nm)=u2:=fst lr2 λj r t a c=>(g2 j r t a c).1;have all:∀{R:Type}{rs:List R}{u:List Str}{G:R->Prop},rs.length=u.length->(∀(j:Nat)r t,rs[j]?=some r->u[j]?=some t->G r)->∀r∈rs,G r:=λ{R rs u G}hl hf r hr=>by
   obtain⟨j,hj⟩:=aY.mp hr;have:j<u.length:=by rw[<-hl];exact(ai.mp hj).1
   exact hf j r _ hj (gE this)
  refine k _ qq pw ps4 l1 lr lw lg ⟨(1+tu),ps,rs,ws,gs⟩ u3 s0 h1 h2 h3 (Bs.new hqq) (S09.trans Sq) (Bs.ne hqq) Ze nps4 st4 ⟨npw,?_,hpl9.same Sq,R1.same Sq,R2.same Sq,R3.same Sq⟩ ?_ ?_
  ·exact((Zh.refl b Hp).new' hps4).new' hqq _ _ ep npw
  ·exact⟨hn1,hn2,gp,all lr1 λj r t a c=>(g1 j r t a c).2,all lr2 λj r t a c=>(g2 j r t a c).2,lr3,λi c g h1 h2=>g3 i g c h2 h1⟩
  ·refine⟨⟨s0n,s0p⟩,?_,?_,Names.of c3' nd3 nm3⟩
   ·show Names (rs.map (·.nm)) h1;rw[f1];exact Names.of c1' nd1 nm1
   ·show Names (ws.map (·.nm)) h2;rw[f2];exact Names.of c2' nd2 nm2
end
theorem Tf{t:Str}(h:Nm t):∃c r,codes t=c::r/\c∈LET:=by
 obtain⟨h1,h2,h3⟩:=h;cases e:codes t with
|nil=>rw[e]at h1;simp at h1
|cons c r=>exact⟨c,r,rfl,h3 c (by rw[e];exact ao)⟩
theorem QQ{t:Str}(h:Nm t):Z4 false (.str t)=true:=by
 obtain⟨c,r,e,hc⟩:=Tf h;obtain⟨h1,h2,h3⟩:=h;show K1.JE 8 (K1.codes K1.tNAME) (codes t)=true;unfold K1.JE K1.YR K1.lenB;rw[K1.FA];simp only[br,decide_eq_true_eq,cA];refine⟨⟨⟨by omega,by omega⟩,λd hd=>?_⟩,?_⟩
 ·exact bg _ (bg _ (h3 d hd))
 ·rw[e];exact hc
theorem Ka:∀s∈sufs,(codes s).length<=3/\(∀c∈codes s,c∈LET++K1.FIG++[46])/\((codes s).head?.map λc=>decide (c∈LET))≠some true:=by decide +kernel
theorem ED{t s:Str}(h:Nm t)(hs:s∈sufs):Z4 true (.str (t++s))=true:=by
 obtain⟨c,r,e,hc⟩:=Tf h;obtain⟨h1,h2,h3⟩:=h;obtain⟨s1,s2,_⟩:=Ka s hs;show K1.JE 12 (K1.codes K1.tGROUP) (codes (t++s))=true;unfold K1.JE K1.YR K1.lenB;rw[K1.EM,Y4];simp only[br,decide_eq_true_eq,cA,aT];refine⟨⟨⟨by omega,by omega⟩,λd hd=>?_⟩,?_⟩
 ·rcases bp.mp hd with hd|hd
  ·exact bg _ (bg _ (h3 d hd))
  ·exact s2 d hd
 ·rw[e];exact hc
theorem NX{t s:Str}(h:Nm t)(hs:s∈sufs):(codes (t++s)).takeWhile (λc=>decide (c∈LET))=codes t:=by
 obtain⟨_,_,h3⟩:=h;obtain⟨_,_,s3⟩:=Ka s hs;rw[Y4,List.takeWhile_append_of_pos (λc hc=>decide_eq_true (h3 c hc))];cases e:codes s with
|nil=>simp
|cons c r=>
  rw[e]at s3;have:decide (c∈LET)=false:=by simpa using s3
  rw[List.takeWhile_cons_of_neg (by rw[this];exact az),bB]
theorem Z9{i lo hi:Int}(h1:lo<=i)(h2:i<=hi):K1.Zp (.int i) lo hi=true:=by show(decide (lo<=i)&&decide (i<=hi))=true;simp[h1,h2]
end WD
namespace L2
open PySem PySem.W PySem.Spec PyProof.Rows
section
variable {X:Cx}
def Fg:R2:=λx y H Q=>∃(a b:ae)(xs ys:List V),x=.ref a/\y=.ref b/\H a=some (.tup xs)/\H b=some (.tup ys)/\xs.length+ys.length<=av /\(xs=[]->Q (.ref b) H)/\(ys=[]->Q (.ref a) H)/\(∀p,H p=none->Q (.ref p) (upd H p (.tup (xs++ys))))
theorem LT:OpR X (binaryOp .Add) Fg:=by
 intro pins s σ H x y v u Q I rx ry h;obtain⟨a,b,xs,ys,rfl,rfl,ha,hb,hz,q1,q2,q3⟩:=h;by_cases hx:xs=[]
 ·cases rx;cases ry;obtain⟨its,r1,p1,_⟩:=I.tuple (SqT.of ha);obtain⟨its2,r2,p2,_⟩:=I.tuple (SqT.of hb);obtain⟨⟨cls,dd,data,sl⟩,ho,hc,n,hd⟩:=id p1;obtain⟨⟨cls2,dd2,data2,sl2⟩,ho2,hc2,n2,hd2⟩:=id p2;simp only at hc hd hc2 hd2;subst hc hd hc2 hd2;have h0:its=[]:=r1.nil_iff.mpr hx;exact concat_meets ⟨_,ho,rfl⟩ ⟨_,ho2,rfl⟩ noFill_tuple_add seq_tuple_add PySem.F.slot_tuple_add PySem.F.entry_tuple_add (PySem.F.args_tuple_add_2 _ _) (tuple_addW0 a b its.toArray its2.toArray n n2 dd dd2 sl sl2 (by simp[h0])) ⟨ho,ho2,⟨.ref b,H,I,rfl,q1 hx⟩⟩
 ·exact LS pins s σ H _ _ v u Q I rx ry ⟨a,b,xs,ys,rfl,rfl,SqT.of ha,SqT.of hb,hx,hz,q2,λ_=>q3⟩
def rNil(neg:Bool)(K:aa):R2:=λx y H Q=>∃a b xs,x=.ref a/\y=.ref b/\SqL K H a xs/\H b=some (.lst [])/\Q (.bl (if neg then !decide (xs=[])else decide (xs=[]))) H
theorem QN(hu:X.A.units+64<cLine):OpR X (compareOp .Eq) (rNil false X.K):=by
 intro pins s σ H x y v u Q I rx ry h;obtain⟨a,b,xs,rfl,rfl,ha,hb,q⟩:=h;cases rx;cases ry;obtain⟨its,rv,p1,_⟩:=I.list ha;obtain⟨_,its2,n2,rv2,_,e2⟩:=I.lstM hb;have h2:=rv2.zero;subst h2;have l2:s.heap.IsList b #[]:=⟨_,e2,rfl,_,rfl⟩;have hl:=rv.length;by_cases hx:xs=[]
 ·subst hx;have h1:=rv.zero;subst h1;refine SeqAt.RcAt.lists (A:=X.A) (s:=s) (e:=λ_=>true) p1.isList l2 rfl (by omega) (λj h1 h2=>by simp at h2) X.prog X.w X.xe (EP X pins σ Q) ⟨.bl true,H,I,rfl,?_⟩;simpa using q
 ·refine SeqAt.RcAt.lists_lengths (A:=X.A) (s:=s) p1.isList l2 ?_ (by omega) X.prog X.w X.xe (EP X pins σ Q) ⟨.bl false,H,I,rfl,?_⟩
  ·have:its.length≠0:=by rw[<-hl];intro z;exact hx (List.length_eq_zero_iff.mp z)
   simpa using λz=>hx (by subst z;simpa using hl)
  ·simpa[hx]using q
end
end L2
namespace TB
open PySem L2 PySem.Spec PyProof.Rows WD
def Xz(C Cn:ae)(fld:Str):Sp:=λvs H Q E=>∃t x T fs d kvs,vs=[.ref t,x]/\Tab H C t fs/\fs.lookup fld=some (.ref d)/\H d=some (.dK kvs)/\Th H x T /\(∀z v,x=.str z->valV kvs (.inr z)=some v->Q v H)/\(ZF x kvs=false->∀H' dd,H dd=none->H' dd=some (XD dd [("name",x)])->(∀b,b≠dd->H' b=H b)->E (.ref Cn) (some dd) H')
section
variable {P:aA}{w:aI}{K:aa}{mg:Str->Option ac}{base:aX}{C Cn:ae}
theorem RH:FnScope ["self","thing"] ["self","thing"] (Zg T.m_Table_is_ride):=scO (by decide +kernel)
theorem Rg(Z:TCl K C)(D:DfM K C "is_ride" "Table.is_ride" T.m_Table_is_ride ["self","thing"])(CK:Can P w K mg base 1 "is_known" ["thing","names"] Mc):CanM P w K mg base CX0 2 C "is_ride" ["self","thing"] (VM C "ride_by_name"):=by
 refine D.cn RH λf cdv A outer s H vs Q E hr h=>?_;obtain⟨t,x,T',fs,d,kvs,rfl,⟨⟨dx,ht⟩,_⟩,hl,hd,th,k⟩:=h;refine⟨_,Zi (Zl (Z2 CK hr rfl (Zb (pv 1) (Zb (ZG (pv 0) rfl) Zc)))),?_⟩;try dsimp only[cxOf,Cx.nox]
 exact⟨_,rfl,_,rfl,t,C,dx,fs,_,rfl,ht,Z.cl,Z.na _ (by simp[fields]),hl,x,T',d,kvs,rfl,th,hd,k⟩
theorem QE:FnScope ["self","thing"] ["self","thing"] (Zg T.m_Table_is_group):=scO (by decide +kernel)
theorem Qh(Z:TCl K C)(D:DfM K C "is_group" "Table.is_group" T.m_Table_is_group ["self","thing"])(CK:Can P w K mg base 1 "is_known" ["thing","names"] Mc):CanM P w K mg base CX0 2 C "is_group" ["self","thing"] (VM C "group_by_name"):=by
 refine D.cn QE λf cdv A outer s H vs Q E hr h=>?_;obtain⟨t,x,T',fs,d,kvs,rfl,⟨⟨dx,ht⟩,_⟩,hl,hd,th,k⟩:=h;refine⟨_,Zi (Zl (Z2 CK hr rfl (Zb (pv 1) (Zb (ZG (pv 0) rfl) Zc)))),?_⟩;try dsimp only[cxOf,Cx.nox]
 exact⟨_,rfl,_,rfl,t,C,dx,fs,_,rfl,ht,Z.cl,Z.na _ (by simp[fields]),hl,x,T',d,kvs,rfl,th,hd,k⟩
theorem RD:FnScope ["self","name"] ["self","name"] (Zg T.m_Table_room_of):=scO (by decide +kernel)
theorem Rc(Z:TCl K C)(B:Err P w K mg base "NoPlace" ["name"] Cn)(D:DfM K C "room_of" "Table.room_of" T.m_Table_room_of ["self","name"])(CP:CanM P w K mg base CX0 2 C "is_place" ["self","thing"] (VM C "room_by_place")):CanM P w K mg base (CX1 P w) 3 C "room_of" ["self","name"] (Xz C Cn "room_by_place"):=by
 refine D.cnX RD λf cdv A outer s H vs Q E hr h=>?_;obtain⟨t,x,T',fs,d,kvs,rfl,tb,hl,hd,th,k1,k2⟩:=h;obtain⟨dx,ht⟩:=id tb.at_;refine⟨_,Zf (ZC (ZW (ZX (ZK CP Z.cl Xw hr (pv 0) (Zb (pv 1) Zc)))) (Zi (YO (E:=E) B Z1 rfl (hr.mono (by decide)) rfl (Zb (pv 1) Zc))) Zq) (Zi (Zl (Ml (VP hr) (ZG (pv 0) rfl) (pv 1) (λ_ _=>rfl)))),?_⟩;try dsimp only[cxOf,Cx.nox]
 refine mthV ht (tb.only _ (by decide +kernel)) ⟨_,rfl,t,x,T',fs,d,kvs,rfl,tb,hl,hd,th,_,rfl,?_⟩;cases e:ZF x kvs with
|false=>refine iteT ?_;exact⟨_,rfl,rfl,k2 e⟩
|true=>refine iteF ?_;obtain⟨z,v,rfl,hv⟩:=Xd e;exact⟨_,rfl,t,C,dx,fs,_,rfl,ht,Z.cl,Z.na _ (by simp[fields]),hl,_,rfl,d,v,rfl,(by rw[<-hv];exact DGet.k (k:=cv z) hd),k1 z v rfl hv⟩
theorem QC:FnScope ["self","name"] ["self","name"] (Zg T.m_Table_ride_row):=scO (by decide +kernel)
theorem Qf(Z:TCl K C)(B:Err P w K mg base "NoRide" ["name"] Cn)(D:DfM K C "ride_row" "Table.ride_row" T.m_Table_ride_row ["self","name"])(CP:CanM P w K mg base CX0 2 C "is_ride" ["self","thing"] (VM C "ride_by_name")):CanM P w K mg base (CX1 P w) 3 C "ride_row" ["self","name"] (Xz C Cn "ride_by_name"):=by
 refine D.cnX QC λf cdv A outer s H vs Q E hr h=>?_;obtain⟨t,x,T',fs,d,kvs,rfl,tb,hl,hd,th,k1,k2⟩:=h;obtain⟨dx,ht⟩:=id tb.at_;refine⟨_,Zf (ZC (ZW (ZX (ZK CP Z.cl Xw hr (pv 0) (Zb (pv 1) Zc)))) (Zi (YO (E:=E) B Z1 rfl (hr.mono (by decide)) rfl (Zb (pv 1) Zc))) Zq) (Zi (Zl (Ml (VP hr) (ZG (pv 0) rfl) (pv 1) (λ_ _=>rfl)))),?_⟩;try dsimp only[cxOf,Cx.nox]
 refine mthV ht (tb.only _ (by decide +kernel)) ⟨_,rfl,t,x,T',fs,d,kvs,rfl,tb,hl,hd,th,_,rfl,?_⟩;cases e:ZF x kvs with
|false=>refine iteT ?_;exact⟨_,rfl,rfl,k2 e⟩
|true=>refine iteF ?_;obtain⟨z,v,rfl,hv⟩:=Xd e;exact⟨_,rfl,t,C,dx,fs,_,rfl,ht,Z.cl,Z.na _ (by simp[fields]),hl,_,rfl,d,v,rfl,(by rw[<-hv];exact DGet.k (k:=cv z) hd),k1 z v rfl hv⟩
theorem PQ:FnScope ["self","name"] ["self","name"] (Zg T.m_Table_group_row):=scO (by decide +kernel)
theorem NR(Z:TCl K C)(B:Err P w K mg base "NoGroup" ["name"] Cn)(D:DfM K C "group_row" "Table.group_row" T.m_Table_group_row ["self","name"])(CP:CanM P w K mg base CX0 2 C "is_group" ["self","thing"] (VM C "group_by_name")):CanM P w K mg base (CX1 P w) 3 C "group_row" ["self","name"] (Xz C Cn "group_by_name"):=by
 refine D.cnX PQ λf cdv A outer s H vs Q E hr h=>?_;obtain⟨t,x,T',fs,d,kvs,rfl,tb,hl,hd,th,k1,k2⟩:=h;obtain⟨dx,ht⟩:=id tb.at_;refine⟨_,Zf (ZC (ZW (ZX (ZK CP Z.cl Xw hr (pv 0) (Zb (pv 1) Zc)))) (Zi (YO (E:=E) B Z1 rfl (hr.mono (by decide)) rfl (Zb (pv 1) Zc))) Zq) (Zi (Zl (Ml (VP hr) (ZG (pv 0) rfl) (pv 1) (λ_ _=>rfl)))),?_⟩;try dsimp only[cxOf,Cx.nox]
 refine mthV ht (tb.only _ (by decide +kernel)) ⟨_,rfl,t,x,T',fs,d,kvs,rfl,tb,hl,hd,th,_,rfl,?_⟩;cases e:ZF x kvs with
|false=>refine iteT ?_;exact⟨_,rfl,rfl,k2 e⟩
|true=>refine iteF ?_;obtain⟨z,v,rfl,hv⟩:=Xd e;exact⟨_,rfl,t,C,dx,fs,_,rfl,ht,Z.cl,Z.na _ (by simp[fields]),hl,_,rfl,d,v,rfl,(by rw[<-hv];exact DGet.k (k:=cv z) hd),k1 z v rfl hv⟩
end
end TB
namespace L2
open PySem PySem.Spec PyProof.Rows
section
variable {X:Cx}
def rNeD:R2:=λx y H Q=>∃d e,Is H x d/\Is H y e/\dB d=true/\dB e=true/\Q (.bl (!PyData.eqv d e)) H
theorem P4(hu:X.A.units+64<cLine):OpR X (compareOp .NotEq) rNeD:=by intro pins s σ H x y v u Q I rx ry h;obtain⟨d,e,h1,h2,s1,s2,q⟩:=h;obtain⟨as,r1⟩:=h1.reads I.hok rx;obtain⟨bs,r2⟩:=h2.reads I.hok ry;exact SeqAt.compareNe_shaped r1 r2 s1 s2 hu ⟨.bl _,H,I,rfl,q⟩
noncomputable def DX:List V->Hp->VK->Prop:=λxs H Q=>∃x d,xs=[x]/\Is H x d/\d.showable=true/\d.depth<=64/\d.shown.length<=av/\Q (.str d.shown) H
theorem Ua{k:Nat}(hr:Room k X.A):Xo X (.builtin "repr") DX:=by
 intro pins s σ H xs us Q I r h;obtain⟨x,d,rfl,hd,hs,hdp,hz,q⟩:=h;have q0:=q;cases hd with
|non=>obtain⟨u,rfl,rx⟩:=vals1 r;cases rx;refine PySem.P.repr_of_none ⟨.str (PyData.none).shown,H,I.tok _,⟨s.toks,?_⟩,q⟩;simp only[PyData.shown]
|bl b=>obtain⟨u,rfl,rx⟩:=vals1 r;cases rx;refine PySem.P.repr_of_bool ⟨.str (PyData.bool b).shown,H,I.tok _,⟨s.toks,?_⟩,q⟩;simp only[PyData.shown]
|int i=>obtain⟨u,rfl,t,rfl⟩:=vals1 r;refine PySem.P.repr_of_int (by simpa[PyData.showable]using hs) ⟨.str (PyData.int i).shown,H,I.tok _,⟨s.toks,?_⟩,q⟩;simp only[PyData.shown]
|str z=>obtain⟨u,rfl,t,rfl⟩:=vals1 r;refine PySem.P.repr_of_str ⟨.str (dN z).shown,H,I.tok _,⟨s.toks,?_⟩,q⟩ (by simpa only[PyData.shown]using hz);simp only[PyData.shown]
|lst e ra=>exact NE hr pins s σ H _ us Q I r ⟨_,_,rfl,.lst e ra,hs,hdp,hz,q⟩
|tup e ra=>exact NE hr pins s σ H _ us Q I r ⟨_,_,rfl,.tup e ra,hs,hdp,hz,q⟩
end
end L2
namespace WD
open PySem L2 PySem.Spec PyProof.Rows TB
def Xy(H:Hp)(l:ae)(rows:List (List V)):Prop:=∃xs,H l=some (.tup xs)/\ZU H xs (rows.map some)
theorem Xy.same{H H':Hp}{l:ae}{rows:List (List V)}(s:Same H H')(h:Xy H l rows):Xy H' l rows:=by
 obtain⟨xs,e,r⟩:=h;refine⟨xs,s _ _ e,r.1,λi x r' a b=>?_⟩;have:=r.2 i x r' a b;cases r' with
|none=>obtain⟨T,t,n⟩:=this;exact⟨T,t.same s,n⟩
|some ys=>obtain⟨p,e,hp,q⟩:=this;exact⟨p,e,s _ _ hp,λy hy=>by obtain⟨T,t⟩:=q y hy;exact⟨T,t.same s⟩⟩
theorem Xy.len{H:Hp}{l:ae}{rows:List (List V)}(h:Xy H l rows):∃xs,H l=some (.tup xs)/\xs.length=rows.length:=by obtain⟨xs,e,r⟩:=h;exact⟨xs,e,by have:=r.1;rwa [bA]at this⟩
theorem Xy.go{K:aa}{H:Hp}{l:ae}{rows:List (List V)}(h:Xy H l rows){i:Nat}(hi:i<rows.length):(Itt K l).go i H:=by obtain⟨xs,e,len⟩:=h.len;exact⟨xs,xs[i]'(by omega),SqT.of e,gE _⟩
theorem Xy.stop{K:aa}{H:Hp}{l:ae}{rows:List (List V)}(h:Xy H l rows):(Itt K l).stop rows.length H:=by obtain⟨xs,e,len⟩:=h.len;exact⟨xs,SqT.of e,by omega⟩
theorem Xy.item{K:aa}{H:Hp}{l:ae}{rows:List (List V)}(h:Xy H l rows){i:Nat}{r:List V}(hr:rows[i]?=some r){x:V}{H':Hp}(y:(Itt K l).yld i H x H'):H'=H/\∃a,x=.ref a/\H a=some (.tup r):=by obtain⟨xs,e,q⟩:=h;obtain⟨rfl,z⟩:=y;have hx:=z xs (SqT.of e);obtain⟨p,rfl,hp,_⟩:=q.2 i x (some r) hx (by rw[ak,hr];rfl);exact⟨rfl,p,rfl,hp⟩
theorem VA(r:Option Int):decide (Yn r=.non)=r.isNone:=by cases r<;>rfl
def PK(C:ae):Sp:=λvs H Q _=>∃(t:ae)(fs:List (Str×V))(l:ae)(ps:Pl),vs=[.ref t]/\Tab H C t fs/\fs.lookup ("places":Str)=some (.ref l)/\Xy H l (ps.map Zw)/\ps.length<=1000/\∀q,H q=none->Q (.ref q) (upd H q (.lst ((ps.filter λp=>p.2.isNone).map λp=>V.str p.1)))
section
variable {P:aA}{w:aI}{K:aa}{mg:Str->Option ac}{base:aX}{C:ae}
theorem MN:FnScope ["self"] ["self"] (Zg T.m_Table_homes):=scO (by decide +kernel)
noncomputable def Xe:bH:=csx [(".0",.local),("name",.local),("room",.local)]
theorem VJ:CompScope Xe (Zg T.m_Table_homes):=⟨rfl,by decide +kernel,by decide +kernel,by decide +kernel⟩
theorem Xx:(["name","room"]:List Str).Nodup:=by decide +kernel
theorem VL:CompNames ["self"] Xe ["name","room"] [none,none]:=.mk' (by decide +kernel)
theorem WX(Z:TCl K C)(D:DfM K C "homes" "Table.homes" T.m_Table_homes ["self"]):CanM P w K mg base CX0 1 C "homes" ["self"] (PK C):=by
 refine D.cn MN λf cdv A outer s H vs Q E hr h=>?_;obtain⟨t,fs,l,ps,rfl,tb,hl,hp,hn,k⟩:=h;obtain⟨dx,ht⟩:=id tb.at_;have hpl:(ps.map Zw).length<=av:=ax (by rw[lm];exact hn:(ps.map Zw).length<=1000) (by decide);refine⟨_,(Zi (Zl (Yy (scope:=Xe) (N:=["name","room"]) (cp:=[none,none]) rfl VJ VL (MX (ZG (pv 0) rfl)) (λC s H ex pn=>(JO (K:=K) (n:=2) rfl rfl (Zz (Zt (i:=0) Xx rfl (aJ rfl)) (Zz (Zt (i:=1) Xx rfl (aJ rfl)) Yd)))) (λC s H ex pn=>(XF (Zr Xq (pv 1) ZN (Zx _)))) (λC s H ex pn=>(pv 0))))),?_⟩;try dsimp only[cxOf,Cx.nox]
 refine⟨_,rfl,t,C,dx,fs,_,rfl,ht,Z.cl,Z.na _ (by simp[fields]),hl,l,rfl,⟨_,SqT.of hp.choose_spec.1⟩,?_⟩;refine Xj (J:=Itt K l) (ps.map Zw).length hpl (λi ys τ H'=>H'=H/\ys=((ps.take i).filter λp=>p.2.isNone).map (λp=>V.str p.1)/\∃v1 v2,τ=[v1,v2]) ⟨rfl,rfl,none,none,rfl⟩ (λi ys τ H' p=>?_) (λi ys τ H' hi p=>?_) (λys τ H' p=>?_) (λi ys τ H' x H2 hi p yl=>?_) (λys τ H0 p l1 hl1=>?_)
 ·obtain⟨_,rfl,_⟩:=p;rw[lm];exact ax (cF _ _) (by rw[aL];omega)
 ·obtain⟨rfl,_⟩:=p;exact hp.go hi
 ·obtain⟨rfl,_⟩:=p;exact hp.stop
 ·obtain⟨rfl,rfl,v1,v2,rfl⟩:=p;have hi':i<ps.length:=by simpa using hi
  have e0:ps[i]?=some ps[i]:=gE hi';obtain⟨rfl,a,rfl,ha⟩:=hp.item (r:=Zw ps[i]) (by rw[ak,e0];rfl) yl;refine⟨a,_,rfl,SqT.of ha,rfl,_,_,rfl,_,_,rfl,rfl,_,rfl,rfl,_,rfl,?_⟩;rw[VA];refine ZE (λe=>?_) (λe=>?_)
  ·refine⟨_,rfl,rfl,?_,_,_,rfl⟩;rw[YZ _ _ e0,if_pos e,aN];rfl
  ·refine⟨rfl,?_,_,_,rfl⟩;rw[YZ _ _ e0,if_neg (by rw[e];exact az),bB]
 ·obtain⟨rfl,rfl,v1,v2,rfl⟩:=p;rw[lm,b7];exact k l1 hl1
def Qx(C:ae):Sp:=λvs H Q _=>∃(t:ae)(fs:List (Str×V))(l:ae)(rows:List (List V))(ns:List Int),vs=[.ref t]/\Tab H C t fs/\fs.lookup ("groups":Str)=some (.ref l)/\Xy H l rows/\rows.length<=1000/\rows.map (λr=>atI r 3)=ns.map (λn=>some (V.int n))/\∀H',Same H H'->Q (.int ns.sum) H'
theorem G6:FnScope ["self"] ["self"] (Zg T.m_Table_people):=scO (by decide +kernel)
noncomputable def Y8:bH:=csx [(".0",.local),("row",.local)]
theorem Vq:CompScope Y8 (Zg T.m_Table_people):=⟨rfl,by decide +kernel,by decide +kernel,by decide +kernel⟩
theorem Vs:(["row"]:List Str).Nodup:=by decide +kernel
theorem Vr:CompNames ["self"] Y8 ["row"] [none]:=.mk' (by decide +kernel)
theorem Sg(B:∀x∈Blts,mg x=none)(Z:TCl K C)(D:DfM K C "people" "Table.people" T.m_Table_people ["self"]):CanM P w K mg base CX0 1 C "people" ["self"] (Qx C):=by
 refine D.cn G6 λf cdv A outer s H vs Q E hr h=>?_;obtain⟨t,fs,l,rows,ns,rfl,tb,hl,hp,hn,hns,k⟩:=h;obtain⟨dx,ht⟩:=id tb.at_;have hpl:rows.length<=av:=ax hn (by decide);have hlen:rows.length=ns.length:=by simpa using congrArg List.length hns
 refine⟨_,(Zi (Zl (ZJ (Pp rfl) rfl (B _ (by decide +kernel)) PyProof.Rows.boot_sum (Zb (Yy (scope:=Y8) (N:=["row"]) (cp:=[none]) rfl Vq Vr (MX (ZG (pv 0) rfl)) (λC s H ex pn=>(Zt (i:=0) Vs rfl (aJ rfl))) (λC s H ex pn=>Yp) (λC s H ex pn=>(it K (pv 0) Zd))) Zc)))),?_⟩;try dsimp only[cxOf,Cx.nox]
 refine⟨_,rfl,t,C,dx,fs,_,rfl,ht,Z.cl,Z.na _ (by simp[fields]),hl,l,rfl,⟨_,SqT.of hp.choose_spec.1⟩,?_⟩;refine Z7 (J:=Itt K l) rows.length hpl (λi ys τ H'=>H'=H/\ys=(ns.take i).map V.int/\∃v1,τ=[v1]) ⟨rfl,rfl,none,rfl⟩ (λi ys τ H' p=>?_) (λi ys τ H' hi p=>?_) (λys τ H' p=>?_) (λi ys τ H' x H2 hi p yl=>?_) (λys τ H0 p l1 hl1=>?_)
 ·obtain⟨_,rfl,_⟩:=p;rw[lm,aL];omega
 ·obtain⟨rfl,_⟩:=p;exact hp.go hi
 ·obtain⟨rfl,_⟩:=p;exact hp.stop
 ·obtain⟨rfl,rfl,v1,rfl⟩:=p;have e0:rows[i]?=some rows[i]:=gE hi;have hi2:i<ns.length:=by omega
  obtain⟨rfl,a,rfl,ha⟩:=hp.item e0 yl;have e3:atI rows[i] 3=some (.int ns[i]):=by have:=congrArg (λl=>l[i]?) hns;simpa[gE hi,gE hi2]using this
  refine iaT ha e3 ⟨rfl,?_,_,rfl⟩;show(ns.take i).map V.int++[V.int ns[i]]=(ns.take (i+1)).map V.int;have:ns.take (i+1)=ns.take i++[ns[i]]:=by rw[bY,gE hi2];rfl
  rw[this,aN];rfl
 ·obtain⟨rfl,rfl,v1,rfl⟩:=p;rw[hlen,b7];exact⟨l1,ns,rfl,SqL.of Ze,k _ (sameNew (Same.refl _) hl1)⟩
end
noncomputable def szJ:Nat->Nat
|1=>2|2=>6|3=>5|_=>4
noncomputable def J1:Nat->Nat
|1=>14|2=>80|3=>40|_=>300
noncomputable def EV:Nat->Str
|1=>"places"|2=>"rides"|3=>"ways"|_=>"groups"
noncomputable def gJ(j:Nat):Bool:=decide (j=4)
noncomputable abbrev Kv:=List (Key×V)
noncomputable def whyJ(j:Nat)(k1:Kv)(n pp:Int)(ys:List V):V:=match j with
|1=>Yi (at_ ys 1)
|2=>Vg k1 n ys
|3=>wayW k1 ys
|_=>JS k1 n pp ys
noncomputable def dueJ(j:Nat)(k1:Kv)(n pp:Int)(kvs:Kv)(r:Option (List V)):V:=if begR (gJ j) (szJ j) kvs r≠.non then begR (gJ j) (szJ j) kvs r else match r with
 |some ys=>whyJ j k1 n pp ys
 |none=>.str "form"
noncomputable def J2(j:Nat)(k1:Kv)(n:Int):Nat->Int->Kv->List (V×Option (List V))->Sum (Nat×V) Kv
|_,_,kvs,[]=>.inr kvs
|i,pp,kvs,(x,r)::rs=>if dueJ j k1 n pp kvs r≠.non then .inl (i,dueJ j k1 n pp kvs r)else match r with
 |some ys=>J2 j k1 n (i+1) (pp+ZQ ys) (putK kvs (.inr (nameOf ys)) (if j=1 then at_ ys 1 else x)) rs
 |none=>.inl (i,.str "form")
theorem XG{j:Nat}{k1:Kv}{n pp:Int}{kvs:Kv}{r:Option (List V)}(h:begR (gJ j) (szJ j) kvs r≠.non):dueJ j k1 n pp kvs r=begR (gJ j) (szJ j) kvs r:=by unfold dueJ;rw[if_pos h]
theorem YY{j:Nat}{k1:Kv}{n pp:Int}{kvs:Kv}{ys:List V}(h:begR (gJ j) (szJ j) kvs (some ys)=.non):dueJ j k1 n pp kvs (some ys)=whyJ j k1 n pp ys:=by unfold dueJ;rw[if_neg (λz=>z h)]
theorem K9{j:Nat}{k1:Kv}{n pp:Int}{kvs:Kv}:dueJ j k1 n pp kvs none=.str "form":=XG (by show V.str "form"≠.non;intro z;cases z)
theorem JT{j:Nat}{k1:Kv}{n:Int}{i:Nat}{pp:Int}{kvs:Kv}{x:V}{r:Option (List V)}{rs:List (V×Option (List V))}(h:dueJ j k1 n pp kvs r≠.non):J2 j k1 n i pp kvs ((x,r)::rs)=.inl (i,dueJ j k1 n pp kvs r):=by unfold J2;rw[if_pos h]
theorem Ux{j:Nat}{k1:Kv}{n:Int}{i:Nat}{pp:Int}{kvs:Kv}{x:V}{ys:List V}{rs:List (V×Option (List V))}(h:dueJ j k1 n pp kvs (some ys)=.non):J2 j k1 n i pp kvs ((x,some ys)::rs)=J2 j k1 n (i+1) (pp+ZQ ys) (putK kvs (.inr (nameOf ys)) (if j=1 then at_ ys 1 else x)) rs:=by
 conv=>lhs;unfold J2
 rw[if_neg (λz=>z h)]
theorem Nk{g:Bool}{m:Nat}{why:List V->V}{j:Nat}{k1:Kv}{n:Int}(hg:gJ j=g)(hm:szJ j=m)(hj:j≠1)(hw:∀pp ys,whyJ j k1 n pp ys=why ys):∀(rs:List (V×Option (List V)))(i:Nat)(pp:Int)(kvs:Kv),Yt g m why i kvs rs=J2 j k1 n i pp kvs rs
|[],_,_,_=>rfl
|(x,r)::rs,i,pp,kvs=>by
  subst hg hm;by_cases b:begR (gJ j) (szJ j) kvs r=.non
  ·cases r with
  |none=>cases b
  |some ys=>
    rw[Gu b];by_cases h:why ys=.non
    ·rw[if_neg (λz=>z h),Ux (by rw[YY b,hw];exact h),if_neg hj];exact Nk rfl rfl hj hw rs _ _ _
    ·rw[if_pos h,JT (by rw[YY b,hw];exact h),YY b,hw]
  ·rw[MQ b,JT (by rw[XG b];exact b),XG b]
theorem Nn{k1:Kv}{n:Int}:∀(rs:List (V×Option (List V)))(i:Nat)(pp:Int)(kvs:Kv),Ym k1 n i pp kvs rs=J2 4 k1 n i pp kvs rs
|[],_,_,_=>rfl
|(x,r)::rs,i,pp,kvs=>by
  by_cases b:begR true 4 kvs r=.non
  ·cases r with
  |none=>cases b
  |some ys=>
    have b':begR (gJ 4) (szJ 4) kvs (some ys)=.non:=b;rw[GZ b];by_cases h:JS k1 n pp ys=.non
    ·rw[if_neg (λz=>z h),Ux (by rw[YY b'];exact h),if_neg (by decide)];exact Nn rs _ _ _
    ·rw[if_pos h,JT (by rw[YY b'];exact h),YY b'];rfl
  ·have b':begR (gJ 4) (szJ 4) kvs r≠.non:=b;rw[JT (by rw[XG b'];exact b),XG b'];unfold Ym;rw[if_pos b];rfl
theorem Nl{k1:Kv}{n:Int}:∀(xs:List V)(rs:List (Option (List V)))(i:Nat)(pp:Int)(kvs:Kv),xs.length=rs.length->Yj i kvs rs=J2 1 k1 n i pp kvs (xs.zip rs)
|[],[],_,_,_,_=>rfl
|[],_::_,_,_,_,h=>by cases h
|_::_,[],_,_,_,h=>by cases h
|x::xs,r::rs,i,pp,kvs,hl=>by
  rw[dW];by_cases b:begR false 2 kvs r=.non
  ·obtain⟨ys,y,rfl,h2,h0⟩:=Vt b;have b':begR (gJ 1) (szJ 1) kvs (some ys)=.non:=b;obtain⟨x0,room,rfl⟩:=len2 h2;have hx0:x0=.str y:=h0;subst hx0;conv=>lhs;unfold Yj
   rw[if_neg (λz=>z b)];dsimp only;by_cases h:Yi room=.non
   ·rw[if_neg (λz=>z h),Ux (by rw[YY b'];exact h),if_pos rfl];exact Nl xs rs _ _ _ (by simpa using hl)
   ·rw[if_pos h,JT (by rw[YY b'];exact h),YY b'];rfl
  ·have b':begR (gJ 1) (szJ 1) kvs r≠.non:=b;rw[MW b,JT (by rw[XG b'];exact b),XG b'];rfl
noncomputable def goJ(j:Nat)(k1:Kv)(n:Int):List V->List (Option (List V))->Sum (Nat×V) Kv:=match j with
|1=>goP
|2=>goR k1 n
|3=>goW k1
|_=>goG k1 n
theorem K2{j:Nat}(hj:j=1\/j=2\/j=3\/j=4){k1:Kv}{n:Int}{xs:List V}{rs:List (Option (List V))}(h:xs.length=rs.length):goJ j k1 n xs rs=J2 j k1 n 0 0 [] (xs.zip rs):=by
 rcases hj with rfl|rfl|rfl|rfl
 ·exact Nl xs rs _ _ _ h
 ·exact Nk (j:=2) (k1:=k1) (n:=n) rfl rfl (by decide) (λ_ _=>rfl) _ _ _ _
 ·exact Nk (j:=3) (k1:=k1) (n:=n) rfl rfl (by decide) (λ_ _=>rfl) _ _ _ _
 ·exact Nn _ _ _ _
def Vu(k1:Kv)(t1:List (List V)):Prop:=∀p∈t1,valV k1 (.inr (nameOf p))=some (at_ p 1)
structure PlDict(k1:Kv)(t1:List (List V)):Prop where
 has:Vu k1 t1
 no:∀z,z∉t1.map nameOf->valV k1 (.inr z)=none
def Flat(y:V):Prop:=y=.non\/(∃i,y=.int i)\/∃z,y=.str z/\z.length<=1000
structure RowOk(j:Nat)(n:Int)(t1:List (List V))(ys:List V):Prop where
 len:ys.length=szJ j
 nm:Z4 (gJ j) (at_ ys 0)=true
 why:∀k1,(j≠1->Vu k1 t1)->∀pp,(j=4->pp+ZQ ys<=300)->whyJ j k1 n pp ys=.non
 ma:j=4->0<=ZQ ys
 flat:∀y∈ys,Flat y
structure RowsOk(j:Nat)(n:Int)(t1 t:List (List V)):Prop where
 nd:(t.map nameOf).Nodup
 row:∀ys∈t,RowOk j n t1 ys
 sum:j=4->(t.map ZQ).sum<=300
theorem D8{g:Bool}{v:V}(h:Z4 g v=true):∃z,v=.str z:=by unfold Z4 at h;split at h<;>(unfold K1.Ut at h;cases v<;>first|exact⟨_,rfl⟩|(exfalso;simp at h))
theorem RowOk.name{j:Nat}{n:Int}{t1:List (List V)}{ys:List V}(h:RowOk j n t1 ys):ys.getD 0 .non=.str (nameOf ys):=by obtain⟨z,e⟩:=D8 h.nm;have e':ys.getD 0 .non=.str z:=e;unfold nameOf;rw[e']
theorem Rt:∀{l:List Int},(∀x∈l,0<=x)->0<=l.sum
|[],_=>by simp
|x::l,h=>by rw[List.sum_cons];have:=h x ao;have:=Rt (l:=l) λy hy=>h y (am _ hy);omega
theorem P9{j:Nat}{k1:Kv}{n:Int}{t1:List (List V)}(hk:j≠1->Vu k1 t1){rest:List (V×Option (List V))}:∀(t:List (List V))(xs:List V)(i:Nat)(pp:Int)(kvs:Kv),xs.length=t.length->(t.map nameOf).Nodup->(∀ys∈t,RowOk j n t1 ys)->(j=4->pp+(t.map ZQ).sum<=300)->(∀ys∈t,valV kvs (.inr (nameOf ys))=none) ->∃kvs',J2 j k1 n i pp kvs (xs.zip (t.map some)++rest)=J2 j k1 n (i+t.length) (pp+(t.map ZQ).sum) kvs' rest/\(∀z,z∉t.map nameOf->valV kvs' (.inr z)=valV kvs (.inr z))/\(j=1->Vu kvs' t)/\(∀ys∈t,valV kvs' (.inr (nameOf ys))≠none)/\(j≠1->∀(m:Nat)y x,t[m]?=some y->xs[m]?=some x->valV kvs' (.inr (nameOf y))=some x)
|[],[],i,pp,kvs,_,_,_,_,_=>⟨kvs,by simp,λ_ _=>rfl,λ_ p hp=>(by cases hp),λp hp=>(by cases hp),λ_ m y x h=>by simp at h⟩
|[],_::_,_,_,_,h,_,_,_,_=>by cases h
|_::_,[],_,_,_,h,_,_,_,_=>by cases h
|y::t,x::xs,i,pp,kvs,hl,nd,hr,hs,hn=>by
  have ry:=hr y ao;have ny:=hn y ao;have b:begR (gJ j) (szJ j) kvs (some y)=.non:=by show begV _ _ _ _=_;unfold begV;rw[if_neg (λz=>z ry.len),show Z4 (gJ j) (y.getD 0 .non)=true from ry.nm,if_neg (by decide),ry.name];rw[show ZF (.str (nameOf y)) kvs=false from by show(valV kvs _).isSome=false;rw[ny];rfl,if_neg (by decide)]
  rw[aQ,bQ]at nd;have ht:∀ys∈t,RowOk j n t1 ys:=λq hq=>hr q (am _ hq);have hs':j=4->pp+ZQ y+(t.map ZQ).sum<=300:=λe=>by have:=hs e;rw[aQ,List.sum_cons]at this;omega
  have hy:j=4->pp+ZQ y<=300:=λe=>by
   have:=hs' e;have:=Rt (l:=t.map ZQ) λx hx=>by obtain⟨q,hq,rfl⟩:=aw.mp hx;exact(ht q hq).ma e
   omega
  have hw:whyJ j k1 n pp y=.non:=ry.why k1 hk pp hy;have yn:∀q∈t,nameOf q≠nameOf y:=λq hq e=>nd.1 (e▸aw.mpr ⟨q,hq,rfl⟩);obtain⟨kvs',e1,e2,e3,e4,e5⟩:=P9 hk (rest:=rest) t xs (i+1) (pp+ZQ y) (putK kvs (.inr (nameOf y)) (if j=1 then at_ y 1 else x)) (by simpa using hl) nd.2 ht hs' (λq hq=>by rw[Mx,if_neg (λe=>yn q hq (by injection e))];exact hn q (am _ hq));have eY:valV kvs' (.inr (nameOf y))=some (if j=1 then at_ y 1 else x):=by rw[e2 _ nd.1,Mx,if_pos rfl]
  refine⟨kvs',?_,λz hz=>?_,λe p hp=>?_,λp hp=>?_,λnj m y' x' h1 h2=>?_⟩
  ·rw[aQ,dW,List.cons_append,Ux (by rw[YY b];exact hw),e1,aQ,List.sum_cons,bh];congr 1<;>omega
  ·rw[aQ,aq,not_or]at hz;rw[e2 z hz.2,Mx,if_neg (λe=>hz.1 (by injection e))]
  ·rcases aq.mp hp with rfl|hp
   ·rw[eY,if_pos e]
   ·exact e3 e p hp
  ·rcases aq.mp hp with rfl|hp
   ·rw[eY];exact λz=>by cases z
   ·exact e4 p hp
  ·cases m with
  |zero=>simp at h1 h2;subst h1 h2;rw[eY,if_neg nj]
  |succ m=>exact e5 nj m y' x' (by simpa using h1) (by simpa using h2)
def Xf(j:Nat)(n:Int)(t1 t:List (List V)):Prop:=t.length<=J1 j/\RowsOk j n t1 t
def DueR(j:Nat)(n:Int)(t1:List (List V))(nm:Str)(r:Option (List V))(why:V):Prop:=why≠.non/\∀k1 kvs pp,(j≠1->PlDict k1 t1)->valV kvs (.inr nm)=none->dueJ j k1 n pp kvs r=why
section
variable {j:Nat}{k1:Kv}{n:Int}{t1:List (List V)}
theorem Y2(hj:j=1\/j=2\/j=3\/j=4)(hk:j≠1->Vu k1 t1){t:List (List V)}(h:Xf j n t1 t){xs:List V}(hx:xs.length=t.length):∃kvs,ZP (J1 j) (goJ j k1 n) (some (xs,t.map some))=.inr kvs/\(j=1->PlDict kvs t)/\(∀z,z∉t.map nameOf->valV kvs (.inr z)=none)/\(j≠1->∀(m:Nat)y x,t[m]?=some y->xs[m]?=some x->valV kvs (.inr (nameOf y))=some x):=by obtain⟨hl,nd,row,sum⟩:=h;obtain⟨kvs,e,e2,e3,_,e5⟩:=P9 (k1:=k1) (n:=n) hk (rest:=[]) t xs 0 0 [] hx nd row (λe=>by have:=sum e;omega) (λ_ _=>rfl);refine⟨kvs,?_,λe=>⟨e3 e,λz hz=>e2 z hz⟩,λz hz=>e2 z hz,e5⟩;unfold ZP;simp only;rw[if_neg (by omega),K2 hj (by rw[hx,lm])];rw[bB]at e;rw[e];rfl
theorem QK(hj:j=1\/j=2\/j=3\/j=4)(hk:j≠1->Vu k1 t1){pre:List (List V)}{r:Option (List V)}{post:List (Option (List V))}{xs:List V}{why:V}(nd:(pre.map nameOf).Nodup)(row:∀ys∈pre,RowOk j n t1 ys)(sum:j=4->(pre.map ZQ).sum<=300)(hx:xs.length=pre.length+(1+post.length))(hl:xs.length<=J1 j)(hw:why≠.non)(hd:∀kvs,(∀z,z∉pre.map nameOf->valV kvs (.inr z)=none)->(∀ys∈pre,valV kvs (.inr (nameOf ys))≠none)->dueJ j k1 n (pre.map ZQ).sum kvs r=why):ZP (J1 j) (goJ j k1 n) (some (xs,pre.map some++r::post))=.inl (.int pre.length,why):=by
 have hx1:(xs.take pre.length).length=pre.length:=by rw[aL];omega
 have hx2:(xs.drop pre.length).length=1+post.length:=by rw[bI];omega
 obtain⟨y,ys,ey⟩:∃y ys,xs.drop pre.length=y::ys:=by
  cases e:xs.drop pre.length with
 |nil=>rw[e]at hx2;simp at hx2;omega
 |cons y ys=>exact⟨y,ys,rfl⟩
 obtain⟨kvs,e,e2,_,e4,_⟩:=P9 (k1:=k1) (n:=n) hk (rest:=(y,r)::ys.zip post) pre (xs.take pre.length) 0 0 [] hx1 nd row (λe=>by have:=sum e;omega) (λ_ _=>rfl);have hd':=hd kvs (λz hz=>e2 z hz) e4;unfold ZP;simp only;rw[if_neg (by omega),K2 hj (by simp;omega)];have ez:xs.zip (pre.map some++r::post)=(xs.take pre.length).zip (pre.map some)++(y,r)::ys.zip post:=by rw[<-dW,<-ey,<-List.zip_append (by rw[hx1,lm]),List.take_append_drop]
 rw[ez,e,JT (by rw[Int.zero_add,hd'];exact hw)];rw[Int.zero_add,hd',Nat.zero_add]
end
structure Tb where
 n:Int
 t1:List (List V)
 t2:List (List V)
 t3:List (List V)
 t4:List (List V)
noncomputable def Tb.part(T:Tb):Nat->List (List V)
|1=>T.t1|2=>T.t2|3=>T.t3|_=>T.t4
structure OkTb(T:Tb):Prop where
 n0:1<=T.n
 n1:T.n<=50
 part:∀j,j=1\/j=2\/j=3\/j=4->Xf j T.n T.t1 (T.part j)
noncomputable def prs(xs:List V)(t:List (List V)):PR:=some (xs,t.map some)
structure RwDict(k:Kv)(t:List (List V))(xs:List V):Prop where
 at_:∀(m:Nat)y x,t[m]?=some y->xs[m]?=some x->valV k (.inr (nameOf y))=some x
 no:∀z,z∉t.map nameOf->valV k (.inr z)=none
structure TbDict(T:Tb)(x2 x3 x4:List V)(k:Ks):Prop where
 p:PlDict k.1 T.t1
 r:RwDict k.2.1 T.t2 x2
 w:RwDict k.2.2.1 T.t3 x3
 g:RwDict k.2.2.2 T.t4 x4
theorem W8{T:Tb}(o:OkTb T){x1 x2 x3 x4:List V}(l1:x1.length=T.t1.length)(l2:x2.length=T.t2.length)(l3:x3.length=T.t3.length)(l4:x4.length=T.t4.length):∃k,JY (.int T.n) (prs x1 T.t1) (prs x2 T.t2) (prs x3 T.t3) (prs x4 T.t4)=.inr k/\TbDict T x2 x3 x4 k:=by obtain⟨k1,e1,d,_⟩:=Y2 (j:=1) (k1:=[]) (n:=T.n) (t1:=T.t1) (.inl rfl) (λh=>absurd rfl h) (o.part 1 (.inl rfl)) l1;have hd:=d rfl;obtain⟨k2,e2,_,n2,d2⟩:=Y2 (j:=2) (k1:=k1) (n:=T.n) (t1:=T.t1) (.inr (.inl rfl)) (λ_=>hd.has) (o.part 2 (.inr (.inl rfl))) l2;obtain⟨k3,e3,_,n3,d3⟩:=Y2 (j:=3) (k1:=k1) (n:=T.n) (t1:=T.t1) (.inr (.inr (.inl rfl))) (λ_=>hd.has) (o.part 3 (.inr (.inr (.inl rfl)))) l3;obtain⟨k4,e4,_,n4,d4⟩:=Y2 (j:=4) (k1:=k1) (n:=T.n) (t1:=T.t1) (.inr (.inr (.inr rfl))) (λ_=>hd.has) (o.part 4 (.inr (.inr (.inr rfl)))) l4;refine⟨(k1,k2,k3,k4),?_,hd,⟨d2 (by decide),n2⟩,⟨d3 (by decide),n3⟩,⟨d4 (by decide),n4⟩⟩;unfold JY;simp only[show(decide (1<=T.n)&&decide (T.n<=50))=true from by simp[o.n0,o.n1],if_true];rw[show ZP 14 goP (prs x1 T.t1)=.inr k1 from e1];simp only[named];rw[show ZP 80 (goR k1 T.n) (prs x2 T.t2)=.inr k2 from e2];simp only[named];rw[show ZP 40 (goW k1) (prs x3 T.t3)=.inr k3 from e3];simp only[named];rw[show ZP 300 (goG k1 T.n) (prs x4 T.t4)=.inr k4 from e4]
noncomputable def setR(j:Nat)(r:PR)(q1 q2 q3 q4:PR):PR×PR×PR×PR:=match j with
|1=>(r,q2,q3,q4)
|2=>(q1,r,q3,q4)
|3=>(q1,q2,r,q4)
|_=>(q1,q2,q3,r)
theorem Qr{T:Tb}(o:OkTb T){j:Nat}(hj:j=1\/j=2\/j=3\/j=4){x1 x2 x3 x4:List V}(l1:x1.length=T.t1.length)(l2:x2.length=T.t2.length)(l3:x3.length=T.t3.length)(l4:x4.length=T.t4.length){r:PR}{a y:V}(h:∀k1,(j≠1->PlDict k1 T.t1)->ZP (J1 j) (goJ j k1 T.n) r=.inl (a,y)):(match setR j r (prs x1 T.t1) (prs x2 T.t2) (prs x3 T.t3) (prs x4 T.t4)with|(q1,q2,q3,q4)=>JY (.int T.n) q1 q2 q3 q4)=.inl (.str (EV j),a,y):=by
 obtain⟨k1,e1,d,_⟩:=Y2 (j:=1) (k1:=[]) (n:=T.n) (t1:=T.t1) (.inl rfl) (λh=>absurd rfl h) (o.part 1 (.inl rfl)) l1;have hd:=d rfl;obtain⟨k2,e2,_⟩:=Y2 (j:=2) (k1:=k1) (n:=T.n) (t1:=T.t1) (.inr (.inl rfl)) (λ_=>hd.has) (o.part 2 (.inr (.inl rfl))) l2;obtain⟨k3,e3,_⟩:=Y2 (j:=3) (k1:=k1) (n:=T.n) (t1:=T.t1) (.inr (.inr (.inl rfl))) (λ_=>hd.has) (o.part 3 (.inr (.inr (.inl rfl)))) l3;have hn:(decide (1<=T.n)&&decide (T.n<=50))=true:=by simp[o.n0,o.n1]
 have f:=h k1 λ_=>hd;rcases hj with rfl|rfl|rfl|rfl<;>(simp only[setR];unfold JY;simp only[hn,if_true])
 ·rw[show ZP 14 goP r=.inl (a,y)from f];rfl
 ·rw[show ZP 14 goP (prs x1 T.t1)=.inr k1 from e1];simp only[named];rw[show ZP 80 (goR k1 T.n) r=.inl (a,y)from f];rfl
 ·rw[show ZP 14 goP (prs x1 T.t1)=.inr k1 from e1];simp only[named];rw[show ZP 80 (goR k1 T.n) (prs x2 T.t2)=.inr k2 from e2];simp only[named];rw[show ZP 40 (goW k1) r=.inl (a,y)from f];rfl
 ·rw[show ZP 14 goP (prs x1 T.t1)=.inr k1 from e1];simp only[named];rw[show ZP 80 (goR k1 T.n) (prs x2 T.t2)=.inr k2 from e2];simp only[named];rw[show ZP 40 (goW k1) (prs x3 T.t3)=.inr k3 from e3];simp only[named];rw[show ZP 300 (goG k1 T.n) r=.inl (a,y)from f];rfl
end WD
namespace TB
open PySem L2 PySem.Spec PyProof.Rows WD
theorem YC.same{H H':Hp}(sm:Same H H'){v:V}{r:PR}(h:YC H v r):YC H' v r:=by
 cases r with
|none=>obtain⟨T,th,a⟩:=h;exact⟨T,th.same sm,a⟩
|some q=>
  obtain⟨xs,rs⟩:=q;obtain⟨⟨p,rfl,hp⟩,h1,h2⟩:=h;refine⟨⟨p,rfl,?_⟩,h1,λi y r e1 e2=>?_⟩
  ·rcases hp with hp|hp
   ·exact .inl (sm _ _ hp)
   ·exact .inr (sm _ _ hp)
  ·have:=h2 i y r e1 e2;cases r with
  |none=>obtain⟨T,th,a⟩:=this;exact⟨T,th.same sm,a⟩
  |some ys=>obtain⟨p,rfl,a,b⟩:=this;exact⟨p,rfl,sm _ _ a,λy hy=>let ⟨T,th⟩:=b y hy;⟨T,th.same sm⟩⟩
def Xn(C Cb:ae)(vT:V)(r1 r2 r3 r4:PR)(H:Hp)(Q:VK)(E:XK):Prop:=match JY vT r1 r2 r3 r4 with
|.inl (z,a,y)=>∀H1,Same H H1->Bad Cb z a y H1 E
|.inr k=>∀H' x fs n,Same H H'->H x=none->vT=.int n->TabOf H' C x fs n r1 r2 r3 r4 k->Q (.ref x) H'
theorem Uu{C Cb:ae}{H:Hp}{Q:VK}{E:XK}{vT v1 v2 v3 v4:V}{T:String}{r1 r2 r3 r4:PR}(thT:Th H vT T)(p1:YC H v1 r1)(p2:YC H v2 r2)(p3:YC H v3 r3)(p4:YC H v4 r4)(k:Xn C Cb vT r1 r2 r3 r4 H Q E):∀x dx,H x=none->H dx=none->dx≠x->Py C Cb [.ref x,vT,v1,v2,v3,v4] (upd (upd H dx (.own x)) x (.ins C dx [])) (λv H'=>v=.non/\Q (.ref x) H') E:=λx dx hx hdx hne=>by
 have sm:Same H (upd (upd H dx (.own x)) x (.ins C dx [])):=λc u e=>by rw[Zj (λz=>by rw[z,hx]at e;cases e),Zj (λz=>by rw[z,hdx]at e;cases e)];exact e
 refine⟨x,dx,vT,T,v1,v2,v3,v4,r1,r2,r3,r4,rfl,Ze,thT.same sm,p1.same sm,p2.same sm,p3.same sm,p4.same sm,?_⟩;unfold Xn at k;generalize JY vT r1 r2 r3 r4=res at k ⊢;cases res with
|inl q=>exact λH1 s1=>k H1 (GW hx hdx s1)
|inr q=>exact λH' fs n s1 e t=>⟨rfl,k H' x fs n (GW hx hdx s1) hx e t⟩
structure TabP(H:Hp)(C t:ae)(fs:List (Str×V))(n:Int)(r1 r2 r3 r4:PR)(k:Ks):Prop where
 tab:TabOf H C t fs n r1 r2 r3 r4 k
 rows:∀r,r=r1\/r=r2\/r=r3\/r=r4->∀xs rs,r=some (xs,rs)->ZU H xs rs
theorem Z5.part{H:Hp}{fs:List (Str×V)}{f g:Str}{r:PR}{k:List (Key×V)}(h:Z5 H fs f g r k)(hr:∀xs rs,r=some (xs,rs)->ZU H xs rs):∃l,fs.lookup f=some (.ref l)/\YC H (.ref l) r:=by obtain⟨l,d,xs,rs,a1,a2,rfl,a4,a5⟩:=h;exact⟨l,a1,⟨l,rfl,.inr a4⟩,hr xs rs rfl⟩
def Jj(C Cb:ae):Sp:=λvs H Q E=>∃(t:ae)(v:V)(fs:List (Str×V))(n:Int)(r1 r2 r3 r4 r:PR)(k:Ks),vs=[.ref t,v]/\TabP H C t fs n r1 r2 r3 r4 k/\YC H v r/\Xn C Cb (.int n) r1 r r3 r4 H Q E
def JL(C Cb:ae):Sp:=λvs H Q E=>∃(t:ae)(v:V)(fs:List (Str×V))(n:Int)(r1 r2 r3 r4 r:PR)(k:Ks),vs=[.ref t,v]/\TabP H C t fs n r1 r2 r3 r4 k/\YC H v r/\Xn C Cb (.int n) r1 r2 r3 r H Q E
section
variable {P:aA}{w:aI}{K:aa}{mg:Str->Option ac}{base:aX}{C Cb:ae}
theorem VI:FnScope ["self","rides"] ["self","rides"] (Zg T.m_Table_with_rides):=scO (by decide +kernel)
theorem NN(Z:TCl K C)(M:TMk P w K mg base C Cb)(D:DfM K C "with_rides" "Table.with_rides" T.m_Table_with_rides ["self","rides"]):CanM P w K mg base (CX1 P w) 9 C "with_rides" ["self","rides"] (Jj C Cb):=by
 obtain⟨fm,fdm,hM,FM,bM⟩:=M.made;refine D.cnX VI λf cdv A outer s H vs Q E hr h=>?_;obtain⟨t,v,fs,n,r1,r2,r3,r4,r,k,rfl,tp,pv',kq⟩:=h;obtain⟨dx,ht⟩:=id tp.tab.tab.at_;obtain⟨l1,a1,p1⟩:=tp.tab.p.part (tp.rows _ (.inl rfl));obtain⟨l3,a3,p3⟩:=tp.tab.w.part (tp.rows _ (.inr (.inr (.inl rfl))));obtain⟨l4,a4,p4⟩:=tp.tab.g.part (tp.rows _ (.inr (.inr (.inr rfl))));refine⟨_,(Zi (Zl (Mj hM FM hr rfl M.mg bM .nil Z1 (Za (ZG (pv 0) rfl) (Za (ZG (pv 0) rfl) (Za (pv 1) (Za (ZG (pv 0) rfl) (Za (ZG (pv 0) rfl) Zc)))))))),?_⟩;try dsimp only[cxOf,Cx.nox]
 exact⟨_,rfl,t,C,dx,fs,_,rfl,ht,Z.cl,Z.na _ (by simp[fields]),tp.tab.turns,_,rfl,t,C,dx,fs,_,rfl,ht,Z.cl,Z.na _ (by simp[fields]),a1,_,rfl,_,rfl,t,C,dx,fs,_,rfl,ht,Z.cl,Z.na _ (by simp[fields]),a3,_,rfl,t,C,dx,fs,_,rfl,ht,Z.cl,Z.na _ (by simp[fields]),a4,Uu (.int n) p1 pv' p3 p4 kq⟩
theorem Ve:FnScope ["self","rows"] ["self","rows"] (Zg T.m_Table_with_groups):=scO (by decide +kernel)
theorem NB(Z:TCl K C)(M:TMk P w K mg base C Cb)(D:DfM K C "with_groups" "Table.with_groups" T.m_Table_with_groups ["self","rows"]):CanM P w K mg base (CX1 P w) 9 C "with_groups" ["self","rows"] (JL C Cb):=by
 obtain⟨fm,fdm,hM,FM,bM⟩:=M.made;refine D.cnX Ve λf cdv A outer s H vs Q E hr h=>?_;obtain⟨t,v,fs,n,r1,r2,r3,r4,r,k,rfl,tp,pv',kq⟩:=h;obtain⟨dx,ht⟩:=id tp.tab.tab.at_;obtain⟨l1,a1,p1⟩:=tp.tab.p.part (tp.rows _ (.inl rfl));obtain⟨l2,a2,p2⟩:=tp.tab.r.part (tp.rows _ (.inr (.inl rfl)));obtain⟨l3,a3,p3⟩:=tp.tab.w.part (tp.rows _ (.inr (.inr (.inl rfl))));refine⟨_,(Zi (Zl (Mj hM FM hr rfl M.mg bM .nil Z1 (Za (ZG (pv 0) rfl) (Za (ZG (pv 0) rfl) (Za (ZG (pv 0) rfl) (Za (ZG (pv 0) rfl) (Za (pv 1) Zc)))))))),?_⟩;try dsimp only[cxOf,Cx.nox]
 exact⟨_,rfl,t,C,dx,fs,_,rfl,ht,Z.cl,Z.na _ (by simp[fields]),tp.tab.turns,_,rfl,t,C,dx,fs,_,rfl,ht,Z.cl,Z.na _ (by simp[fields]),a1,_,rfl,t,C,dx,fs,_,rfl,ht,Z.cl,Z.na _ (by simp[fields]),a2,_,rfl,t,C,dx,fs,_,rfl,ht,Z.cl,Z.na _ (by simp[fields]),a3,_,rfl,Uu (.int n) p1 p2 p3 pv' kq⟩
end
end TB
namespace WD
open PySem L2 PySem.Spec PyProof.Rows TB
theorem Vo(xs:List V){i:Int}(h:0<=i)(h2:i<=xs.length):cutV xs none (some i)=xs.take i.toNat:=by
 have e:HT.sIx xs.length 0 none=0:=by simp[HT.sIx]
 have e2:HT.sIx xs.length xs.length (some i)=i.toNat:=by show(if i<0 then _ else min i.toNat _)=_;rw[if_neg (by omega)];omega
 unfold cutV;rw[e,e2,List.drop_zero,Nat.sub_zero]
theorem Uy(xs:List V){i:Int}(h:0<=i)(h2:i<=xs.length):cutV xs (some i) none=xs.drop i.toNat:=by
 have e:HT.sIx xs.length 0 (some i)=i.toNat:=by show(if i<0 then _ else min i.toNat _)=_;rw[if_neg (by omega)];omega
 have e2:HT.sIx xs.length xs.length none=xs.length:=by simp[HT.sIx]
 unfold cutV;rw[e,e2,aZ (by rw[bI];exact aj _)]
theorem Vj{n:Nat}{i:Int}(h:0<=i)(h2:i<n):¬(HT.sIx n 0 none=0/\HT.sIx n n (some i)=n):=by
 have e2:HT.sIx n n (some i)=i.toNat:=by show(if i<0 then _ else min i.toNat _)=_;rw[if_neg (by omega)];omega
 rw[e2];omega
theorem Dd{H:Hp}{Q:VK}{a b:ae}{xs ys:List V}(ha:H a=some (.tup xs))(hb:H b=some (.tup ys))(h:∀H' p,Same H H'->H' p=some (.tup (xs++ys))->Q (.ref p) H'):(xs=[]->Q (.ref b) H)/\(ys=[]->Q (.ref a) H)/\∀p,H p=none->Q (.ref p) (upd H p (.tup (xs++ys))):=⟨λe=>h H b (Same.refl H) (by rw[hb,e,List.nil_append]),λe=>h H a (Same.refl H) (by rw[ha,e,bB]),λp hp=>h _ p (sameNew (Same.refl H) hp) Ze⟩
def Fh:R2:=λx y H Q=>∃(a b:ae)(xs ys:List V),x=.ref a/\y=.ref b/\H a=some (.tup xs)/\H b=some (.tup ys)/\xs.length+ys.length<=av/\∀H' p,Same H H'->H' p=some (.tup (xs++ys))->Q (.ref p) H'
theorem P5{X:Cx}:OpR X (binaryOp .Add) Fh:=by intro pins s σ H x y v u Q I rx ry h;obtain⟨a,b,xs,ys,e1,e2,ha,hb,hz,q⟩:=h;exact LT pins s σ H x y v u Q I rx ry ⟨a,b,xs,ys,e1,e2,ha,hb,hz,Dd ha hb q⟩
end WD
namespace TB
open PySem L2 PySem.Spec PyProof.Rows WD
theorem ZU.snoc{H:Hp}{xs:List V}{rs:List (Option (List V))}{v:V}{r:Option (List V)}(h:ZU H xs rs)(hv:Row H v r):ZU H (xs++[v]) (rs++[r]):=by
 obtain⟨hl,h⟩:=h;refine⟨by simp[hl],λi x q e1 e2=>?_⟩;rcases Nat.lt_or_ge i xs.length with hi|hi
 ·rw[bj hi]at e1;rw[bj (by omega)]at e2;exact h i x q e1 e2
 ·rw[bC hi]at e1;rw[bC (by omega),<-hl]at e2;have:i-xs.length=0:=by
   rcases cD (i-xs.length)with z|z
   ·exact z
   ·rw[List.getElem?_eq_none (by simp;omega)]at e1;cases e1
  rw[this]at e1 e2;cases e1;cases e2;exact hv
theorem Row.same{H H':Hp}(s:Same H H'){v:V}{r:Option (List V)}(h:Row H v r):Row H' v r:=by
 cases r with
|none=>obtain⟨T,t,n⟩:=h;exact⟨T,t.same s,n⟩
|some ys=>obtain⟨p,e,a,t⟩:=h;exact⟨p,e,s _ _ a,λy hy=>let ⟨T,u⟩:=t y hy;⟨T,u.same s⟩⟩
theorem ZU.same{H H':Hp}(s:Same H H'){xs:List V}{rs:List (Option (List V))}(h:ZU H xs rs):ZU H' xs rs:=⟨h.1,λi x r e1 e2=>(h.2 i x r e1 e2).same s⟩
theorem Z5.same{H H':Hp}(s:Same H H'){fs:List (Str×V)}{f g:Str}{r:PR}{k:List (Key×V)}(h:Z5 H fs f g r k):Z5 H' fs f g r k:=by obtain⟨l,d,xs,rs,a1,a2,a3,a4,a5⟩:=h;exact⟨l,d,xs,rs,a1,a2,a3,s _ _ a4,s _ _ a5⟩
theorem TabP.same{H H':Hp}{C t:ae}{fs:List (Str×V)}{n:Int}{r1 r2 r3 r4:PR}{k:Ks}(s:Same H H')(h:TabP H C t fs n r1 r2 r3 r4 k):TabP H' C t fs n r1 r2 r3 r4 k:=⟨⟨⟨let ⟨dx,e⟩:=h.tab.tab.at_;⟨dx,s _ _ e⟩,h.tab.tab.only⟩,h.tab.turns,h.tab.p.same s,h.tab.r.same s,h.tab.w.same s,h.tab.g.same s⟩,λr hr xs rs e=>(h.rows r hr xs rs e).same s⟩
def SD(C Cb:ae)(vT:V)(r1 r2 r3 r4:PR)(H:Hp)(Q:VK)(E:XK):Prop:=∀H0,Same H H0->Xn C Cb vT r1 r2 r3 r4 H0 Q E
def VW(C Cb:ae):Sp:=λvs H Q E=>∃(t:ae)(v:V)(fs:List (Str×V))(n:Int)(r1 r3 r4:PR)(x2:List V)(s2:List (Option (List V)))(r:Option (List V))(k:Ks),vs=[.ref t,v]/\TabP H C t fs n r1 (some (x2,s2)) r3 r4 k/\x2.length<=900/\Row H v r/\SD C Cb (.int n) r1 (some (x2++[v],s2++[r])) r3 r4 H Q E
section
variable {P:aA}{w:aI}{K:aa}{mg:Str->Option ac}{base:aX}{C Cb:ae}
theorem VZ:FnScope ["self","row"] ["self","row"] (Zg T.m_Table_with_ride):=scO (by decide +kernel)
theorem Qe(Z:TCl K C)(CM:CanM P w K mg base (CX1 P w) 9 C "with_rides" ["self","rides"] (Jj C Cb))(D:DfM K C "with_ride" "Table.with_ride" T.m_Table_with_ride ["self","row"]):CanM P w K mg base (CX1 P w) 10 C "with_ride" ["self","row"] (VW C Cb):=by
 refine D.cnX VZ λf cdv A outer s H vs Q E hr h=>?_;obtain⟨t,v,fs,n,r1,r3,r4,x2,s2,r,k,rfl,tp,hx2,hv,kq⟩:=h;obtain⟨dx,ht⟩:=id tp.tab.tab.at_;obtain⟨l2,d2,xs,rs,a1,a2,a3,a4,a5⟩:=id tp.tab.r;cases a3;refine⟨_,(Zi (Zl (ZK CM Z.cl Z1 (hr.mono (by decide)) (pv 0) (Za (Zy P5 (ZG (pv 0) rfl) (Zv (Za (pv 1) Zc))) Zc)))),?_⟩;try dsimp only[cxOf,Cx.nox]
 refine mthV ht (tp.tab.tab.only _ (by decide +kernel)) ⟨_,rfl,t,C,dx,fs,_,rfl,ht,Z.cl,Z.na _ (by simp[fields]),a1,_,rfl,zl,λc1 hc1=>?_⟩;refine nl2 hc1 λH1 S1 e1=>?_;refine⟨l2,c1,x2,[v],rfl,rfl,S1 _ _ a4,e1,ax (by simp;omega:_<=2000) (by decide),λH2 q2 S2 e2=>?_⟩;have S02:=S1.trans S2;have tp2:=tp.same S02;exact⟨t,.ref q2,fs,n,r1,some (x2,s2),r3,r4,some (x2++[v],s2++[r]),k,rfl,tp2,⟨⟨q2,rfl,.inr e2⟩,(tp2.rows _ (.inr (.inl rfl)) x2 s2 rfl).snoc (hv.same S02)⟩,kq H2 S02⟩
noncomputable def asV(nm:Str)(v:V):List V->List (List V)->List V
|x::xs,y::ys=>(if nameOf y=nm then v else x)::asV nm v xs ys
|_,_=>[]
noncomputable def asR(nm:Str)(r:List V)(t:List (List V)):List (List V):=t.map λy=>if nameOf y=nm then r else y
theorem SA{nm:Str}{v:V}:∀{xs:List V}{t:List (List V)}{i:Nat}{x:V}{y:List V},xs[i]?=some x->t[i]?=some y->(asV nm v xs t)[i]?=some (if nameOf y=nm then v else x)
|[],_,_,_,_,h,_=>by simp at h
|_::_,[],_,_,_,_,h=>by simp at h
|x::xs,y::t,0,_,_,h1,h2=>by simp at h1 h2;subst h1 h2;rfl
|x::xs,y::t,i+1,_,_,h1,h2=>by show(asV nm v xs t)[i]?=_;exact SA (by simpa using h1) (by simpa using h2)
theorem VH{nm:Str}{v:V}:∀{xs:List V}{t:List (List V)},xs.length=t.length->(asV nm v xs t).length=xs.length
|[],[],_=>rfl
|[],_::_,h=>by cases h
|_::_,[],h=>by cases h
|x::xs,y::t,h=>by show(asV nm v xs t).length+1=_;rw[VH (by simpa using h)];rfl
theorem TY{H:Hp}{nm:Str}{c:ae}{ys:List V}{xs:List V}{t:List (List V)}(h:ZU H xs (t.map some))(hc:Row H (.ref c) (some ys)):ZU H (asV nm (.ref c) xs t) ((asR nm ys t).map some):=by
 have hl:xs.length=t.length:=by rw[h.1,lm]
 refine⟨by rw[VH hl,lm];unfold asR;rw[lm,hl],λi x r e1 e2=>?_⟩;have hi:i<xs.length:=by rw[<-VH hl (nm:=nm) (v:=.ref c)];exact(ai.mp e1).1
 have ht:t[i]?=some (t[i]'(by omega)):=gE _;rw[SA (gE hi) ht]at e1;unfold asR at e2;rw[ak,ak,ht]at e2;have h0:=h.2 i xs[i] (some (t[i]'(by omega))) (gE hi) (by rw[ak,ht];rfl);cases e1;have e2':r=some (if nameOf (t[i]'(by omega))=nm then ys else t[i]'(by omega)):=(aH e2).symm;subst e2';by_cases hn:nameOf (t[i]'(by omega))=nm
 ·rw[if_pos hn,if_pos hn];exact hc
 ·rw[if_neg hn,if_neg hn];exact h0
def ME(C Cb:ae):Sp:=λvs H Q E=>∃(t:ae)(fs:List (Str×V))(n:Int)(r1 r3 r4:PR)(x2:List V)(t2:List (List V))(c:ae)(ys:List V)(nm:Str)(k:Ks),vs=[.ref t,.ref c]/\TabP H C t fs n r1 (prs x2 t2) r3 r4 k/\x2.length<=900/\(∀y∈t2,y.getD 0 .non=.str (nameOf y))/\H c=some (.tup ys)/\ys.getD 0 .non=.str nm/\(∀y∈ys,∃T,Th H y T)/\SD C Cb (.int n) r1 (prs (asV nm (.ref c) x2 t2) (asR nm ys t2)) r3 r4 H Q E
theorem J5:FnScope ["self","changed"] ["self","changed"] (Zg T.m_Table_with_ride_as):=scO (by decide +kernel)
noncomputable def YB:bH:=csx [(".0",.local),("row",.local),("changed",.free)]
theorem Jf:CompScope YB (Zg T.m_Table_with_ride_as):=⟨rfl,by decide +kernel,by decide +kernel,by decide +kernel⟩
theorem Jh:(["row","changed"]:List Str).Nodup:=by decide +kernel
theorem Jg:CompNames ["self","changed"] YB ["row","changed"] [none,some 1]:=.mk' (by decide +kernel)
theorem R8(Z:TCl K C)(CM:CanM P w K mg base (CX1 P w) 9 C "with_rides" ["self","rides"] (Jj C Cb))(D:DfM K C "with_ride_as" "Table.with_ride_as" T.m_Table_with_ride_as ["self","changed"]):CanM P w K mg base (CX1 P w) 10 C "with_ride_as" ["self","changed"] (ME C Cb):=by
 refine D.cnX J5 λf cdv A outer s H vs Q E hr h=>?_;obtain⟨t,fs,n,r1,r3,r4,x2,t2,c,ys,nm,k,rfl,tp,hx2,hnm,hc,h0,hth,kq⟩:=h;obtain⟨dx,ht⟩:=id tp.tab.tab.at_;obtain⟨l2,d2,xs,rs,a1,a2,a3,a4,a5⟩:=id tp.tab.r;cases a3;have rr:=tp.rows _ (.inr (.inl rfl)) _ _ rfl;have hl:x2.length=t2.length:=by rw[rr.1,lm]
 have hpl:x2.length<=av:=ax hx2 (by decide);have c0:atI ys 0=some (.str nm):=by
  cases ys with
 |nil=>cases h0
 |cons y ys=>have e:y=.str nm:=h0;subst e;exact ZL (j:=0) rfl
 refine⟨_,(Zi (Zl (ZK CM Z.cl Z1 (hr.mono (by decide)) (pv 0) (Za (Yy (scope:=YB) (N:=["row","changed"]) (cp:=[none,some 1]) rfl Jf Jg (MX (ZG (pv 0) rfl)) (λC s H ex pn=>(Zt (i:=0) Jh rfl (aJ rfl))) (λC s H ex pn=>Yp) (λC s H ex pn=>(Up (Zr Yl (it K (pv 0) Zd) (it K (pv 1) Zd) (Zx _)) (pv 1) (pv 0)))) Zc)))),?_⟩;try dsimp only[cxOf,Cx.nox]
 refine mthV ht (tp.tab.tab.only _ (by decide +kernel)) ⟨_,rfl,t,C,dx,fs,_,rfl,ht,Z.cl,Z.na _ (by simp[fields]),a1,l2,rfl,⟨_,SqT.of a4⟩,?_⟩;refine Z7 (J:=Itt K l2) x2.length hpl (λi zs τ H'=>H'=H/\zs=(asV nm (.ref c) x2 t2).take i/\∃v1,τ=[v1,some (.ref c)]) ⟨rfl,rfl,none,rfl⟩ (λi zs τ H' p=>?_) (λi zs τ H' hi p=>?_) (λzs τ H' p=>?_) (λi zs τ H' x H2 hi p yl=>?_) (λzs τ H1 p l1 hl1=>?_)
 ·obtain⟨_,rfl,_⟩:=p;rw[aL];omega
 ·obtain⟨rfl,_⟩:=p;exact⟨_,x2[i],SqT.of a4,gE hi⟩
 ·obtain⟨rfl,_⟩:=p;exact⟨_,SqT.of a4,aj _⟩
 ·obtain⟨rfl,rfl,v1,rfl⟩:=p;obtain⟨rfl,z⟩:=yl;have hx:=z _ (SqT.of a4);rw[gE hi]at hx;cases hx;have ht2:t2[i]?=some (t2[i]'(by omega)):=gE _;have ri:=rr.2 i x2[i] (some (t2[i]'(by omega))) (gE hi) (by rw[ak,ht2];rfl);obtain⟨a,ea,ha,_⟩:=ri;have n0:atI (t2[i]'(by omega)) 0=some (.str (nameOf (t2[i]'(by omega)))):=by
   have hn:=hnm _ (aW (by omega:i<t2.length));cases e:t2[i]'(by omega)with
  |nil=>rw[e]at hn;cases hn
  |cons y r=>rw[e]at hn;have e':y=.str (nameOf (y::r)):=hn;rw[<-e'];exact ZL (j:=0) rfl
  have at_i:=SA (nm:=nm) (v:=.ref c) (gE hi) ht2;have stp:(asV nm (.ref c) x2 t2).take (i+1)=(asV nm (.ref c) x2 t2).take i++[if nameOf (t2[i]'(by omega))=nm then .ref c else x2[i]]:=by rw[bY,at_i];rfl
  rw[ea]at stp ⊢;refine iaT ha n0 (iaT hc c0 ⟨rfl,_,rfl,?_⟩);refine ZE (λe=>?_) (λe=>?_)
  ·have en:nameOf (t2[i]'(by omega))=nm:=by simpa using e
   refine⟨_,rfl,rfl,?_,_,rfl⟩;rw[stp,if_pos en]
  ·have en:¬nameOf (t2[i]'(by omega))=nm:=by simpa using e
   refine⟨_,rfl,rfl,?_,_,rfl⟩;rw[stp,if_neg en]
 ·obtain⟨rfl,rfl,v1,rfl⟩:=p;rw[show(asV nm (.ref c) x2 t2).take x2.length=asV nm (.ref c) x2 t2 from aZ (by rw[VH hl];exact aj _)];refine nl hl1 λH3 S1 e1=>?_;have tp3:=tp.same S1;have rc:Row H3 (.ref c) (some ys):=⟨c,rfl,S1 _ _ hc,λy hy=>let ⟨T,th⟩:=hth y hy;⟨T,th.same S1⟩⟩;exact⟨t,.ref l1,fs,n,r1,prs x2 t2,r3,r4,prs (asV nm (.ref c) x2 t2) (asR nm ys t2),k,rfl,tp3,⟨⟨l1,rfl,.inl e1⟩,TY (tp3.rows _ (.inr (.inl rfl)) _ _ rfl) rc⟩,kq H3 S1⟩
end
def Err1(Cn:ae)(f:Str)(x:V)(H:Hp)(E:XK):Prop:=∀H' dd,H dd=none->H' dd=some (XD dd [(f,x)])->(∀b,b≠dd->H' b=H b)->E (.ref Cn) (some dd) H'
def AsQ(C Cb:ae)(n:Int)(r1 r3 r4:PR)(x2:List V)(t2:List (List V))(nm:Str)(ys:List V)(H:Hp)(Q:VK)(E:XK):Prop:=∀H0 c,Same H H0->H0 c=some (.tup ys)->Xn C Cb (.int n) r1 (prs (asV nm (.ref c) x2 t2) (asR nm ys t2)) r3 r4 H0 Q E
structure Rides(H:Hp)(C t:ae)(fs:List (Str×V))(n:Int)(r1 r3 r4:PR)(x2:List V)(t2:List (List V))(k:Ks):Prop where
 tp:TabP H C t fs n r1 (prs x2 t2) r3 r4 k
 len:x2.length<=900
 dict:RwDict k.2.1 t2 x2
 row:∀y∈t2,y.getD 0 .non=.str (nameOf y)/\y.length=6
def J7(C Cb Cn:ae):Sp:=λvs H Q E=>∃(t:ae)(x sv:V)(Tx Ts:String)(fs:List (Str×V))(n:Int)(r1 r3 r4:PR)(x2:List V)(t2:List (List V))(k:Ks),vs=[.ref t,x,sv]/\Rides H C t fs n r1 r3 r4 x2 t2 k/\Th H x Tx/\Th H sv Ts/\(ZF x k.2.1=false->Err1 Cn "name" x H E)/\∀(m:Nat)y,t2[m]?=some y->x=.str (nameOf y)->AsQ C Cb n r1 r3 r4 x2 t2 (nameOf y) (y.set 5 sv) H Q E
theorem six{y:List V}(h:y.length=6):∃a b c d e f,y=[a,b,c,d,e,f]:=by exact len6 h
section
variable {P:aA}{w:aI}{K:aa}{mg:Str->Option ac}{base:aX}{C Cb Cn:ae}
theorem Xr:FnScope ["self","name","seats","row"] ["self","name","seats"] (Zg T.m_Table_with_seats):=scO (by decide +kernel)
theorem NM(Z:TCl K C)(CM:CanM P w K mg base (CX1 P w) 10 C "with_ride_as" ["self","changed"] (ME C Cb))(CR:CanM P w K mg base (CX1 P w) 3 C "ride_row" ["self","name"] (Xz C Cn "ride_by_name"))(D:DfM K C "with_seats" "Table.with_seats" T.m_Table_with_seats ["self","name","seats"]):CanM P w K mg base (CX1 P w) 11 C "with_seats" ["self","name","seats"] (J7 C Cb Cn):=by
 refine D.cnX Xr λf cdv A outer s H vs Q E hr h=>?_;obtain⟨t,x,sv,Tx,Ts,fs,n,r1,r3,r4,x2,t2,k,rfl,ri,tx,ts,ke,kq⟩:=h;have tp:=ri.tp;obtain⟨dx,ht⟩:=id tp.tab.tab.at_;obtain⟨l2,d2,xs,rs,a1,a2,a3,a4,a5⟩:=id tp.tab.r;cases a3;have rr:=tp.rows _ (.inr (.inl rfl)) _ _ rfl;have hl:x2.length=t2.length:=by rw[rr.1,lm]
 refine⟨_,(Zf (st 3 Xr.nd (ZK CR Z.cl Z1 (hr.mono (by decide)) (pv 0) (Za (pv 1) Zc))) (Zi (Zl (ZK CM Z.cl Z1 (hr.mono (by decide)) (pv 0) (Za (Zv (Za (it K (pv 3) Zd) (Za (it K (pv 3) Zd) (Za (it K (pv 3) Zd) (Za (it K (pv 3) Zd) (Za (it K (pv 3) Zd) (Za (pv 2) Zc))))))) Zc))))),?_⟩;try dsimp only[cxOf,Cx.nox]
 refine mthV ht (tp.tab.tab.only _ (by decide +kernel)) ⟨_,rfl,t,x,Tx,fs,d2,k.2.1,rfl,tp.tab.tab,a2,a5,tx,λz v ez hv=>?_,ke⟩;obtain⟨m,y,hy,en⟩:∃(m:Nat)(y:List V),t2[m]?=some y/\z=nameOf y:=by
  by_cases hz:z∈t2.map nameOf
  ·obtain⟨y,hy,e⟩:=aw.mp hz;obtain⟨m,hm⟩:=aY.mp hy;exact⟨m,y,hm,e.symm⟩
  ·rw[ri.dict.no z hz]at hv;cases hv
 have hm:m<x2.length:=by rw[hl];exact(ai.mp hy).1
 have hv':=ri.dict.at_ m y x2[m] hy (gE hm);rw[<-en,hv]at hv';cases hv';obtain⟨pa,ea,ha,hth⟩:=rr.2 m x2[m] (some y) (gE hm) (by rw[ak,hy];rfl);obtain⟨q0,q1,q2,q3,q4,q5,rfl⟩:=six (ri.row y (aG hy)).2;rw[ea];refine mthV ht (tp.tab.tab.only _ (by decide +kernel)) (ixT 0 ha rfl (ixT 1 ha rfl (ixT 2 ha rfl (ixT 3 ha rfl (ixT 4 ha rfl ⟨_,rfl,zl,λc hc=>?_⟩)))));refine nl hc λH1 S1 e1=>?_;refine⟨t,fs,n,r1,r3,r4,x2,t2,c,_,nameOf [q0,q1,q2,q3,q4,q5],k,rfl,tp.same S1,ri.len,λy hy=>(ri.row y hy).1,e1,(ri.row _ (aG hy)).1,λy' hy'=>?_,λH2 S2=>kq m _ hy (by rw[ez,en]) H2 c (S1.trans S2) (S2 _ _ e1)⟩;simp only[aq,aK,or_false]at hy';rcases hy' with h|h|h|h|h|h;all_goals first|(rw[h];exact⟨Ts,ts.same S1⟩)|(obtain⟨T,th⟩:=hth y' (by simp[h]);exact⟨T,th.same S1⟩)
end
def J8(C Cb Cn Ct:ae):Sp:=λvs H Q E=>∃(t:ae)(x bv:V)(Tx Ts:String)(fs:List (Str×V))(n:Int)(r1 r3 r4:PR)(x2:List V)(t2:List (List V))(k:Ks),vs=[.ref t,x,bv]/\Rides H C t fs n r1 r3 r4 x2 t2 k/\Th H x Tx/\Th H bv Ts/\(ZF x k.2.1=false->Err1 Cn "name" x H E) /\∀(m:Nat)y,t2[m]?=some y->x=.str (nameOf y)->∃lv cm,at_ y 2=.int lv/\at_ y 4=.int cm/\(K1.Zp bv 1 (n-cm)=false->Err1 Ct "found" bv H E)/\∀i,bv=.int i->K1.Zp bv 1 (n-cm)=true->AsQ C Cb n r1 r3 r4 x2 t2 (nameOf y) ((y.set 2 (.int (lv+i))).set 4 (.int (cm+i))) H Q E
section
variable {P:aA}{w:aI}{K:aa}{mg:Str->Option ac}{base:aX}{C Cb Cn Ct:ae}
theorem Xs:FnScope ["self","name","by","row"] ["self","name","by"] (Zg T.m_Table_with_later):=scO (by decide +kernel)
theorem NO(Z:TCl K C)(BT:Err P w K mg base "NoTurn" ["found"] Ct)(CI:Can P w K mg base 2 "is_within" ["thing","low","high"] K1.Xl)(CM:CanM P w K mg base (CX1 P w) 10 C "with_ride_as" ["self","changed"] (ME C Cb))(CR:CanM P w K mg base (CX1 P w) 3 C "ride_row" ["self","name"] (Xz C Cn "ride_by_name"))(D:DfM K C "with_later" "Table.with_later" T.m_Table_with_later ["self","name","by"]):CanM P w K mg base (CX1 P w) 11 C "with_later" ["self","name","by"] (J8 C Cb Cn Ct):=by
 refine D.cnX Xs λf cdv A outer s H vs Q E hr h=>?_;obtain⟨t,x,bv,Tx,Ts,fs,n,r1,r3,r4,x2,t2,k,rfl,ri,tx,ts,ke,kq⟩:=h;have tp:=ri.tp;obtain⟨dx,ht⟩:=id tp.tab.tab.at_;obtain⟨l2,d2,xs,rs,a1,a2,a3,a4,a5⟩:=id tp.tab.r;cases a3;have rr:=tp.rows _ (.inr (.inl rfl)) _ _ rfl;have hl:x2.length=t2.length:=by rw[rr.1,lm]
 refine⟨_,(Zf (st 3 Xs.nd (ZK CR Z.cl Z1 (hr.mono (by decide)) (pv 0) (Za (pv 1) Zc))) (Zf (ZC (ZW (ZX (cn CI hr (Za (pv 2) (Za Zd (Za (Zy Jt (ZG (pv 0) rfl) (it K (pv 3) Zd)) Zc)))))) (Zi (YO (E:=E) BT Z1 rfl (hr.mono (by decide)) rfl (Za (pv 2) Zc))) Zq) (Zi (Zl (ZK CM Z.cl Z1 (hr.mono (by decide)) (pv 0) (Za (Zv (Za (it K (pv 3) Zd) (Za (it K (pv 3) Zd) (Za (Zy Z0 (it K (pv 3) Zd) (pv 2)) (Za (it K (pv 3) Zd) (Za (Zy Z0 (it K (pv 3) Zd) (pv 2)) (Za (it K (pv 3) Zd) Zc))))))) Zc)))))),?_⟩;try dsimp only[cxOf,Cx.nox]
 refine mthV ht (tp.tab.tab.only _ (by decide +kernel)) ⟨_,rfl,t,x,Tx,fs,d2,k.2.1,rfl,tp.tab.tab,a2,a5,tx,λz v ez hv=>?_,ke⟩;obtain⟨m,y,hy,en⟩:∃(m:Nat)(y:List V),t2[m]?=some y/\z=nameOf y:=by
  by_cases hz:z∈t2.map nameOf
  ·obtain⟨y,hy,e⟩:=aw.mp hz;obtain⟨m,hm⟩:=aY.mp hy;exact⟨m,y,hm,e.symm⟩
  ·rw[ri.dict.no z hz]at hv;cases hv
 have hm:m<x2.length:=by rw[hl];exact(ai.mp hy).1
 have hv':=ri.dict.at_ m y x2[m] hy (gE hm);rw[<-en,hv]at hv';cases hv';obtain⟨pa,ea,ha,hth⟩:=rr.2 m x2[m] (some y) (gE hm) (by rw[ak,hy];rfl);obtain⟨lv,cm,el,ec,kb,kg⟩:=kq m y hy (by rw[ez,en]);obtain⟨q0,q1,q2,q3,q4,q5,rfl⟩:=six (ri.row y (aG hy)).2;have el':q2=.int lv:=el;have ec':q4=.int cm:=ec;subst el' ec';rw[ea];refine⟨_,rfl,_,rfl,t,C,dx,fs,_,rfl,ht,Z.cl,Z.na _ (by simp[fields]),tp.tab.turns,ixT 4 ha rfl ⟨_,_,rfl,rfl,bv,Ts,1,n-cm,rfl,ts,_,rfl,?_⟩⟩;cases hw:K1.Zp bv 1 (n-cm)with
|false=>refine iteT ?_;exact⟨_,rfl,rfl,kb hw⟩
|true=>
  refine iteF ?_;obtain⟨i,rfl⟩:∃i,bv=.int i:=by
   cases bv with
  |int i=>exact⟨i,rfl⟩
  |_=>cases hw
  refine mthV ht (tp.tab.tab.only _ (by decide +kernel)) (ixT 0 ha rfl (ixT 1 ha rfl (ixT 2 ha rfl ⟨_,rfl,_,_,rfl,rfl,ixT 3 ha rfl (ixT 4 ha rfl ⟨_,rfl,_,_,rfl,rfl,ixT 5 ha rfl ⟨zl,λc hc=>?_⟩⟩)⟩)));refine nl hc λH1 S1 e1=>?_;refine⟨t,fs,n,r1,r3,r4,x2,t2,c,_,nameOf [q0,q1,.int lv,q3,.int cm,q5],k,rfl,tp.same S1,ri.len,λy hy=>(ri.row y hy).1,e1,(ri.row _ (aG hy)).1,λy' hy'=>?_,λH2 S2=>kg i rfl hw H2 c (S1.trans S2) (S2 _ _ e1)⟩;simp only[aq,aK,or_false]at hy';rcases hy' with h|h|h|h|h|h;all_goals first|(rw[h];exact⟨_,.int _⟩)|(obtain⟨T,th⟩:=hth y' (by simp[h]);exact⟨T,th.same S1⟩)
end
noncomputable def dF:V->PyData
|.int i=>.int i
|.str z=>.str z
|.bl c=>.bool c
|_=>.none
theorem flatIs{H:Hp}{y:V}(h:Flat y):Is H y (dF y):=by
 rcases h with rfl|⟨i,rfl⟩|⟨z,rfl,_⟩
 ·exact .non
 ·exact .int i
 ·exact .str z
theorem Qb{H:Hp}:∀{ys:List V},(∀y∈ys,Flat y)->IsAll H ys (ys.map dF)
|[],_=>.nil
|y::ys,h=>.cons (flatIs (h y ao)) (Qb λx hx=>h x (am _ hx))
structure Layd(y:List V):Prop where
 flat:∀v∈y,Flat v
 lay:(PyData.tuple (y.map dF)).canLay0=true
theorem Np:∀{ys:List V},(∀y∈ys,Flat y)->cL (ys.map dF)=0
|[],_=>rfl
|y::ys,h=>by show max (PyData.depth (dF y)) (cL (ys.map dF))=0;rw[Np λx hx=>h x (am _ hx)];rcases h y ao with rfl|⟨i,rfl⟩|⟨z,rfl,_⟩<;>rfl
theorem Layd.shaped{y:List V}(h:Layd y):dB (.tuple (y.map dF))=true:=by unfold dB;rw[h.lay,dR];refine decide_eq_true ?_;show cL (y.map dF)+1<=64;rw[Np h.flat];decide
theorem WA{y z:List V}(hy:y.getD 0 .non=.str (nameOf y))(hz:z.getD 0 .non=.str (nameOf z))(n:nameOf y≠nameOf z):PyData.eqv (.tuple (y.map dF)) (.tuple (z.map dF))=false:=by
 cases y with
|nil=>cases hy
|cons a y=>
  cases z with
 |nil=>cases hz
 |cons b z=>have ea:a=.str (nameOf (a::y)):=hy;have eb:b=.str (nameOf (b::z)):=hz;show(PyData.eqv (dF a) (dF b)&&PyData.eqvAll (y.map dF) (z.map dF))=false;rw[ea,eb];show((nameOf (a::y)==nameOf (b::z))&&_)=false;rw[show(nameOf (a::y)==nameOf (b::z))=false from by simpa using n];rfl
noncomputable def outV(nm:Str):List V->List (List V)->List V
|x::xs,y::ys=>if nameOf y=nm then outV nm xs ys else x::outV nm xs ys
|_,_=>[]
noncomputable def outR(nm:Str)(t:List (List V)):List (List V):=t.filter λy=>decide (nameOf y≠nm)
theorem QL{nm:Str}:∀{xs:List V}{t:List (List V)}{i:Nat}{x:V}{y:List V},xs[i]?=some x->t[i]?=some y->outV nm (xs.take (i+1)) (t.take (i+1))=outV nm (xs.take i) (t.take i)++(if nameOf y=nm then[]else[x])
|[],_,_,_,_,h,_=>by simp at h
|_::_,[],_,_,_,_,h=>by simp at h
|x::xs,y::t,0,_,_,h1,h2=>by
  simp at h1 h2;subst h1 h2;show(if nameOf y=nm then outV nm [] []else x::outV nm [] [])=_;by_cases e:nameOf y=nm
  ·rw[if_pos e,if_pos e];rfl
  ·rw[if_neg e,if_neg e];rfl
|x::xs,y::t,i+1,x',y',h1,h2=>by
  have ih:=QL (nm:=nm) (xs:=xs) (t:=t) (i:=i) (x:=x') (y:=y') (by simpa using h1) (by simpa using h2);show(if nameOf y=nm then outV nm (xs.take (i+1)) (t.take (i+1))else x::outV nm (xs.take (i+1)) (t.take (i+1)))=(if nameOf y=nm then outV nm (xs.take i) (t.take i)else x::outV nm (xs.take i) (t.take i))++_;by_cases e:nameOf y=nm
  ·rw[if_pos e,if_pos e,ih]
  ·rw[if_neg e,if_neg e,ih];rfl
theorem MZ{H:Hp}{nm:Str}:∀{xs:List V}{t:List (List V)},ZU H xs (t.map some)->ZU H (outV nm xs t) ((outR nm t).map some)
|[],[],_=>⟨rfl,λi x r h=>by simp[outV]at h⟩
|[],_::_,h=>by have:=h.1;simp at this
|_::_,[],h=>by have:=h.1;simp at this
|x::xs,y::t,h=>by
  have h0:=h.2 0 x (some y) rfl rfl;have ht:ZU H xs (t.map some):=⟨by have:=h.1;simpa using this,λi x' r e1 e2=>h.2 (i+1) x' r (by simpa using e1) (by simpa using e2)⟩;have ih:=MZ (nm:=nm) ht;by_cases e:nameOf y=nm
  ·have e1:outV nm (x::xs) (y::t)=outV nm xs t:=by show(if _ then _ else _)=_;rw[if_pos e]
   have e2:outR nm (y::t)=outR nm t:=by unfold outR;rw[List.filter_cons_of_neg (by simp[e])]
   rw[e1,e2];exact ih
  ·have e1:outV nm (x::xs) (y::t)=x::outV nm xs t:=by show(if _ then _ else _)=_;rw[if_neg e]
   have e2:outR nm (y::t)=y::outR nm t:=by unfold outR;rw[List.filter_cons_of_pos (by simp[e])]
   rw[e1,e2,aQ];refine⟨by simp[ih.1],λi x' r g1 g2=>?_⟩;cases i with
  |zero=>simp at g1 g2;subst g1 g2;exact h0
  |succ i=>exact ih.2 i x' r (by simpa using g1) (by simpa using g2)
def Gq(C Cb Cn:ae):Sp:=λvs H Q E=>∃(t:ae)(x:V)(Tx:String)(fs:List (Str×V))(n:Int)(r1 r3 r4:PR)(x2:List V)(t2:List (List V))(k:Ks),vs=[.ref t,x]/\Rides H C t fs n r1 r3 r4 x2 t2 k/\(∀y∈t2,Layd y)/\(t2.map nameOf).Nodup/\Th H x Tx/\(ZF x k.2.1=false->Err1 Cn "name" x H E)/\∀(m:Nat)y,t2[m]?=some y->x=.str (nameOf y)->SD C Cb (.int n) r1 (prs (outV (nameOf y) x2 t2) (outR (nameOf y) t2)) r3 r4 H Q E
section
variable {P:aA}{w:aI}{K:aa}{mg:Str->Option ac}{base:aX}{C Cb Cn:ae}
theorem Xa:FnScope ["self","name","struck"] ["self","name"] (Zg T.m_Table_without_ride):=scO (by decide +kernel)
noncomputable def YA:bH:=csx [(".0",.local),("row",.local),("struck",.free)]
theorem Jc:CompScope YA (Zg T.m_Table_without_ride):=⟨rfl,by decide +kernel,by decide +kernel,by decide +kernel⟩
theorem Je:(["row","struck"]:List Str).Nodup:=by decide +kernel
theorem Jd:CompNames ["self","name","struck"] YA ["row","struck"] [none,some 2]:=.mk' (by decide +kernel)
theorem Rb(Z:TCl K C)(CM:CanM P w K mg base (CX1 P w) 9 C "with_rides" ["self","rides"] (Jj C Cb))(CR:CanM P w K mg base (CX1 P w) 3 C "ride_row" ["self","name"] (Xz C Cn "ride_by_name"))(D:DfM K C "without_ride" "Table.without_ride" T.m_Table_without_ride ["self","name"]):CanM P w K mg base (CX1 P w) 10 C "without_ride" ["self","name"] (Gq C Cb Cn):=by
 refine D.cnX Xa λf cdv A outer s H vs Q E hr h=>?_;obtain⟨t,x,Tx,fs,n,r1,r3,r4,x2,t2,k,rfl,ri,hly,nd,tx,ke,kq⟩:=h;have tp:=ri.tp;obtain⟨dx,ht⟩:=id tp.tab.tab.at_;obtain⟨l2,d2,xs,rs,a1,a2,a3,a4,a5⟩:=id tp.tab.r;cases a3;have rr:=tp.rows _ (.inr (.inl rfl)) _ _ rfl;have hl:x2.length=t2.length:=by rw[rr.1,lm]
 refine⟨_,(Zf (ZM (i:=2) Xa.nd rfl (Or.inr rfl) (ZK CR Z.cl Z1 (hr.mono (by decide)) (pv 0) (Za (pv 1) Zc))) (Zi (Zl (ZK CM Z.cl Z1 (hr.mono (by decide)) (pv 0) (Za (Yy (scope:=YA) (N:=["row","struck"]) (cp:=[none,some 2]) rfl Jc Jd (MX (ZG (pv 0) rfl)) (λC s H ex pn=>(Zt (i:=0) Je rfl (aJ rfl))) (λC s H ex pn=>(XF (Zr (P4 hr.units) (pv 0) (pv 1) (Zx _)))) (λC s H ex pn=>(pv 0))) Zc))))),?_⟩;try dsimp only[cxOf,Cx.nox]
 refine mthV ht (tp.tab.tab.only _ (by decide +kernel)) ⟨_,rfl,t,x,Tx,fs,d2,k.2.1,rfl,tp.tab.tab,a2,a5,tx,λz v ez hv=>?_,ke⟩;obtain⟨m,y,hy,en⟩:∃(m:Nat)(y:List V),t2[m]?=some y/\z=nameOf y:=by
  by_cases hz:z∈t2.map nameOf
  ·obtain⟨y,hy,e⟩:=aw.mp hz;obtain⟨m,hm⟩:=aY.mp hy;exact⟨m,y,hm,e.symm⟩
  ·rw[ri.dict.no z hz]at hv;cases hv
 have hm:m<x2.length:=by rw[hl];exact(ai.mp hy).1
 have hv':=ri.dict.at_ m y x2[m] hy (gE hm);rw[<-en,hv]at hv';cases hv';obtain⟨pa,ea,ha,hth⟩:=rr.2 m x2[m] (some y) (gE hm) (by rw[ak,hy];rfl);have ymem:=aG hy;have ly:=hly y ymem;have isy:Is H (.ref pa) (.tuple (y.map dF)):=.tup ha (Qb ly.flat);rw[ea];have hpl:x2.length<=av:=ax ri.len (by decide);refine mthV ht (tp.tab.tab.only _ (by decide +kernel)) ⟨_,rfl,t,C,dx,fs,_,rfl,ht,Z.cl,Z.na _ (by simp[fields]),a1,l2,rfl,⟨_,SqT.of a4⟩,?_⟩;refine Xj (J:=Itt K l2) x2.length hpl (λi zs τ H'=>H'=H/\zs=outV (nameOf y) (x2.take i) (t2.take i)/\zs.length<=i/\∃v1,τ=[v1,some (.ref pa)]) ⟨rfl,rfl,aj _,none,rfl⟩ (λi zs τ H' p=>p.2.2.1) (λi zs τ H' hi p=>?_) (λzs τ H' p=>?_) (λi zs τ H' x' H2 hi p yl=>?_) (λzs τ H1 p l1 hl1=>?_)
 ·obtain⟨rfl,_⟩:=p;exact⟨_,x2[i],SqT.of a4,gE hi⟩
 ·obtain⟨rfl,_⟩:=p;exact⟨_,SqT.of a4,aj _⟩
 ·obtain⟨rfl,rfl,hz,v1,rfl⟩:=p;obtain⟨rfl,zz⟩:=yl;have hx:=zz _ (SqT.of a4);rw[gE hi]at hx;cases hx;have ht2:t2[i]?=some (t2[i]'(by omega)):=gE _;obtain⟨b,eb,hb,_⟩:=rr.2 i x2[i] (some (t2[i]'(by omega))) (gE hi) (by rw[ak,ht2];rfl);have lb:=hly _ (aW (by omega:i<t2.length));have stp:=QL (nm:=nameOf y) (gE hi) ht2;rw[eb]at stp ⊢;refine⟨_,rfl,_,rfl,_,_,.tup hb (Qb lb.flat),isy,lb.shaped,ly.shaped,_,rfl,?_⟩;by_cases e:nameOf (t2[i]'(by omega))=nameOf y
  ·have eqr:t2[i]'(by omega)=y:=by
    have h1:(t2.map nameOf)[i]?=some (nameOf y):=by rw[ak,ht2,<-e];rfl
    have h2:(t2.map nameOf)[m]?=some (nameOf y):=by rw[ak,hy];rfl
    have hi':i<(t2.map nameOf).length:=by rw[lm];omega
    have him:=(List.getElem?_inj hi' nd).mp (h1.trans h2.symm);subst him;rw[ht2]at hy;exact aH hy
   rw[show PyData.eqv (.tuple ((t2[i]'(by omega)).map dF)) (.tuple (y.map dF))=true from by rw[eqr];exact SeqAt.eqv_refl _ ly.lay];refine iteF ?_;refine⟨rfl,?_,by omega,_,rfl⟩;rw[stp,if_pos e,bB]
  ·rw[WA (ri.row _ (aW (by omega:i<t2.length))).1 (ri.row y ymem).1 e];refine iteT ?_;refine⟨_,rfl,rfl,?_,by rw[aT];simp;omega,_,rfl⟩;rw[stp,if_neg e]
 ·obtain⟨rfl,rfl,_,v1,rfl⟩:=p;rw[b7,show t2.take x2.length=t2 from by rw[hl,b7]];refine nl hl1 λH3 S1 e1=>?_;have tp3:=tp.same S1;exact⟨t,.ref l1,fs,n,r1,prs x2 t2,r3,r4,prs (outV (nameOf y) x2 t2) (outR (nameOf y) t2),k,rfl,tp3,⟨⟨l1,rfl,.inl e1⟩,MZ (tp3.rows _ (.inr (.inl rfl)) _ _ rfl)⟩,kq m y hy (by rw[ez,en]) H3 S1⟩
end
end TB
namespace L2
open PySem PySem.Spec PyProof.Rows
noncomputable def T6(l:ae):It:=⟨λi H=>∃xs,H l=some (.lst xs)/\i<xs.length,λi H x H'=>∃(T:ae)(xs:List V)(y:V),H T=none/\H l=some (.lst xs)/\xs[i]?=some y/\x=.ref T/\H'=upd H T (.tup [.int i,y]),λi H=>∃xs,H l=some (.lst xs)/\i=xs.length⟩
theorem Rq{P:aA}{w:aI}{K:aa}{es:List Expr}{k:Nat}{pt:Pos}(l e it:ae)(hei:e≠it)(hle:l≠e)(hli:l≠it):
  Turn P w K (.Tuple es k pt) (T6 l) [e,it] e (λi h=>(∃old,IsEnum h e it i old)/\h.IsListIter it l i) where
 mem:=by simp
 obj:=λi h st b hb=>by
  obtain⟨⟨old,he⟩,o,ho,c,d⟩:=st
  have hb':b=e\/b=it:=by simpa using hb
  rcases hb' with rfl|rfl
  ·exact⟨_,he,λv z=>by cases z⟩
  ·exact⟨o,ho,λv z=>by rw[d]at z;cases z⟩
 keep:=λi h h' st kk=>by
  obtain⟨⟨old,he⟩,o,ho,r⟩:=st
  exact⟨⟨old,kk e (by simp) _ he⟩,o,kk it (by simp) o ho,r⟩
 item:=by
  intro X hP hw hK hc i pins s σ H E I hf st hg
  subst hP hw hK
  obtain⟨xs,hx,hi⟩:=hg
  obtain⟨⟨old,he⟩,hs⟩:=st
  obtain⟨its,rv,pl,_⟩:=I.list (SqL.of hx)
  have hlen:=rv.length
  have D:=Draws.list (prog:=X.prog) (w:=X.w) (A:=X.A.in1) (I.ok.hd hc) it l hli its.toArray
  have W:=WalksT.enumerateD D e hei (by simp[hei,bL hle]) (by simp)
  refine W.item i s _ _ (by simp only[ar];omega) ⟨⟨old,he⟩,hs,pl.isList⟩ λT vals h' tk hv hT ht hm kk=>?_
  obtain⟨tk',u,hu,rfl⟩:=hv
  obtain⟨y,hy⟩:∃y,xs[i]?=some y:=⟨xs[i],gE hi⟩
  obtain⟨u2,hu2,ru⟩:=rv.get hy
  have hu':its[i]?=some u:=by simpa using hu
  rw[hu']at hu2;cases hu2
  refine⟨_,rfl,?_⟩
  refine W.go es k pt i T {s with heap:=h',toks:=tk} _ _ hm λh2 st2 kk2=>?_
  have hTn:H T=none:=I.hok.fresh hT
  have hap:=W.apart i T h' hm
  have hb2:∀b,b∉[e,it]->∀o,s.heap.get? b=some o->h2.get? b=some o:=λb hb o q=>kk2 b o hb (kk b o hb q)
  have nb:∀b u,H b=some u->b∉[e,it]:=λb u q hb=>by rw[(hf b hb).1]at q;cases q
  have I1:Inv X pins σ (upd H T (.tup [.int i,y])) {s with heap:=h2,toks:=tk}:=by
   refine I.step (g':=s.gens) (d':=s.drawn) (ch:=[e,it]) (λb hb=>?_) (λb o _ _ hb q _=>hb2 b hb o q) (λb o _ _ hb q _=>⟨o.slots,hb2 b hb o q⟩)
    (λb o hb q n=>?_) (λb o hb q=>⟨o,hb2 b hb o q⟩) (λb xs q=>?_) (λb o u q=>?_) (λb ps q=>?_) (λm hm=>?_) ?_ I.bare
   ·obtain⟨g0,g1,g2,g3,g4,g5⟩:=hf b hb
    exact⟨g3,g1,g4,g5⟩
   ·rw[Zj (aE (aD (ap q) hT))];exact n
   ·rw[Zj (Zk q hTn)];exact q
   ·rw[Zj (Zk q hTn)];exact q
   ·exact⟨#[],by rw[Zj (Zk q hTn),q];simp⟩
   ·obtain⟨o,es',ep,ho,r⟩:=hm
    refine⟨o,es',ep,hb2 _ ?_ o ho,r⟩
    intro hb
    obtain⟨g0,g1,_⟩:=hf _ hb
    exact g1 rfl
   ·intro b ob q
    by_cases hb:b=T
    ·subst hb
     rw[Ze]at q
     cases q
     obtain⟨o,h1,h2',h3⟩:=ht
     exact⟨zl,[.int i tk',u],.cons ⟨_,rfl⟩ (.cons ru .nil),⟨o,kk2 _ _ hap h1,h2',h3⟩⟩
    ·rw[Zj hb]at q
     refine(I.hok b ob q).stay (λc' v hc' q'=>hb2 c' ?_ v q') (λc' q'=>by rw[Zj (Zk q' hTn)];exact q') λc' xs q'=>by rw[Zj (Zk q' hTn)];exact q'
     rcases hc' with rfl|hc'
     ·exact nb _ _ q
     ·exact nb _ _ hc'
  refine⟨.ref T,_,I1,rfl,⟨T,xs,y,hTn,hx,hy,rfl,rfl⟩,⟨st2.1,st2.2.1⟩,λb hb=>?_⟩
  rw[Zj]
  ·exact(hf b hb).1
  ·rintro rfl
   exact hap hb
 done:=by
  intro X hP hw hK hc i pins s σ H E I hf st hg
  subst hP hw hK
  obtain⟨xs,hx,hi⟩:=hg
  obtain⟨⟨old,he⟩,hs⟩:=st
  obtain⟨its,rv,pl,_⟩:=I.list (SqL.of hx)
  have hlen:=rv.length
  have D:=Draws.list (prog:=X.prog) (w:=X.w) (A:=X.A.in1) (I.ok.hd hc) it l hli its.toArray
  have W:=WalksT.enumerateD D e hei (by simp[hei,bL hle]) (by simp)
  have ei:i=its.toArray.size:=by simp only[ar];omega
  subst ei
  refine W.done s _ _ ⟨⟨old,he⟩,hs,pl.isList⟩ λh' tk kk=>⟨rfl,?_⟩
  have nb:∀b u,H b=some u->b∉[e,it]:=λb u q hb=>by rw[(hf b hb).1]at q;cases q
  refine I.step (g':=s.gens) (d':=s.drawn) (ch:=[e,it]) (λb hb=>?_) (λb o _ _ hb q _=>kk b o hb q) (λb o _ _ hb q _=>⟨o.slots,kk b o hb q⟩)
   (λb o hb q n=>n) (λb o hb q=>⟨o,kk b o hb q⟩) (λb xs q=>q) (λb o u q=>q) (λb ps q=>⟨#[],by rw[q];simp⟩) (λm hm=>?_) (λb u q=>?_) I.bare
  ·obtain⟨g0,g1,g2,g3,g4,g5⟩:=hf b hb
   exact⟨g3,g1,g4,g5⟩
  ·obtain⟨o,es',ep,ho,r⟩:=hm
   refine⟨o,es',ep,kk _ o ?_ ho,r⟩
   intro hb
   obtain⟨g0,g1,_⟩:=hf _ hb
   exact g1 rfl
  ·refine(I.hok b u q).stay (λc' v hc' q'=>kk c' v ?_ q') (λ_ q'=>q') λ_ _ q'=>q'
   rcases hc' with rfl|hc'
   ·exact nb _ _ q
   ·exact nb _ _ hc'
 self:=λA i s Q E st h=>by
  obtain⟨⟨old,he⟩,_⟩:=st
  exact wpAny_pyIter_enum he h
section
variable {X:Cx}
noncomputable def iEnL(ta:TA):TI:=λσ H R=>ta σ H λvs H1=>∃(l:ae)(xs:List V),vs=[.ref l]/\H1 l=some (.lst xs)/\R (T6 l) H1
theorem QI{a:Expr}{ta:TA}{p pos pt:Pos}{es:List Expr}{k:Nat}(hg:Gl X "enumerate")(hm:X.mg "enumerate"=none)(ha:PA X [a] ta)(hb:bootBuiltins "enumerate"=some (.type "enumerate"))(hs:aO [a] X.env=[(false,eval a X.env)]:=by rfl):PI X (.Tuple es k pt) (.Call (.Name "enumerate" p) [a] [] pos) (iEnL ta):=by
 intro pins s σ H R I h;refine Call_ (Vl I hg hm hb (bX (thn (ha pos pins s σ H _ I h) λus s1 h90=>?_) hs rfl));obtain⟨vs,H1,I1,r1,q1⟩:=h90;obtain⟨l,xs,e,hx,q⟩:=q1;subst e;cases r1 with
|cons r rr=>
  cases rr;cases r;obtain⟨its,rv,pl,_⟩:=I1.list (SqL.of hx);refine call_enumerate_list pl.isList λh' he hst _ kk=>?_;have I2:Inv X pins σ H1 {s1 with heap:=h'}:=I1.kept (t':=s1.toks) kk;refine wpAny_pyIter_enum he ?_;have lt:l<s1.heap.objs.size:=I1.hok.lt hx;refine⟨s1.heap.objs.size+1,[s1.heap.objs.size+1,s1.heap.objs.size],_,_,H1,rfl,I2,Rq l (s1.heap.objs.size+1) s1.heap.objs.size (Nat.succ_ne_self _) (aE (bK lt)) (aE lt),⟨⟨_,he⟩,hst⟩,λb hb=>?_,q⟩;have e:b=s1.heap.objs.size+1\/b=s1.heap.objs.size:=by simpa using hb
  rcases e with e|e<;>subst e
  ·exact I1.fpOk (Nat.le_succ _) (I1.hok.fresh (Nat.le_succ _))
  ·exact I1.fpOk (aj _) (I1.hok.fresh (aj _))
end
theorem D4{X:Cx}{K:aa}(hK:X.K=K):OpR X (compareOp .In) (rIn K false):=hK▸Wm
end L2
namespace TB
open PySem L2 PySem.Spec PyProof.Rows WD
noncomputable def homesOf(ps:Pl):List Str:=(ps.filter λp=>p.2.isNone).map (·.1)
noncomputable def ZS(bits:Int):Nat->List Str->List Str
|_,[]=>[]
|i,z::zs=>if cj bits (1*2 ^ i)=0 then z::ZS bits (i+1) zs else ZS bits (i+1) zs
theorem G3(bits:Int)(z:Str):∀(l:List Str)(j:Nat),ZS bits j (l++[z])=ZS bits j l++(if cj bits (1*2 ^ (j+l.length))=0 then[z]else[])
|[],j=>by show(if _ then _ else _)=_;split<;>simp_all[ZS]
|a::l,j=>by have ih:=G3 bits z l (j+1);rw[show j+1+l.length=j+(a::l).length from by simp;omega]at ih;show(if _ then a::ZS bits (j+1) (l++[z])else ZS bits (j+1) (l++[z]))=(if _ then a::ZS bits (j+1) l else ZS bits (j+1) l)++_;rw[ih];split<;>rfl
noncomputable def ZH(bits:Int)(ps:Pl):Pl:=ps.map λp=>if p.1∈ZS bits 0 (homesOf ps)then(p.1,some 0)else p
def RowN(H:Hp)(v:V)(ys:List V):Prop:=∃p,v=.ref p/\H p=some (.tup ys)
theorem N5{H:Hp}:∀{zs:List V}{rs:List (List V)},Paired (RowN H) zs rs->(∀r∈rs,∀y∈r,∃T,Th H y T)->ZU H zs (rs.map some)
|_,_,.nil,_=>⟨rfl,λi x r h=>by simp at h⟩
|_,_,.cons ⟨p,e,h⟩ t,ht=>by
  have ih:=N5 t λr hr=>ht r (am _ hr);refine⟨by simp[ih.1],λi x r g1 g2=>?_⟩;cases i with
 |zero=>simp at g1 g2;subst g1 g2;exact⟨p,e,h,ht _ ao⟩
 |succ i=>exact ih.2 i x r (by simpa using g1) (by simpa using g2)
theorem N8{α β:Type}{F:α->β->Prop}:∀{l1 l3:List α}{l2 l4:List β},Paired F l1 l2->Paired F l3 l4->Paired F (l1++l3) (l2++l4)
|_,_,_,_,.nil,h=>h
|_,_,_,_,.cons a b,h=>.cons a (N8 b h)
theorem To(z:Str)(l:List Str):inV (.str z) (l.map V.str)=decide (z∈l):=by
 unfold inV;rw[dU,List.any_eq_true,decide_eq_true_iff];constructor
 ·rintro ⟨y,hy,e⟩;obtain⟨s,hs,rfl⟩:=aw.mp hy;have:s=z:=by simpa[eqV]using e
  rw[<-this];exact hs
 ·intro h;exact⟨_,aw.mpr ⟨z,h,rfl⟩,by simp[eqV]⟩
def J9(C Cb Ch:ae):Sp:=λvs H Q E=>∃(t:ae)(bv:V)(Tb:String)(fs:List (Str×V))(n:Int)(r2 r3 r4:PR)(x1:List V)(ps:Pl)(k:Ks),vs=[.ref t,bv]/\TabP H C t fs n (prs x1 (ps.map Zw)) r2 r3 r4 k/\ps.length<=14/\Th H bv Tb/\(K1.Zp bv 0 (1*2 ^ (homesOf ps).length-1)=false->∀H0,Same H H0->Err1 Ch "found" bv H0 E) /\∀bits,bv=.int bits->K1.Zp bv 0 (1*2 ^ (homesOf ps).length-1)=true->∀H0 y1,Same H H0->ZU H0 y1 (((ZH bits ps).map Zw).map some)->Xn C Cb (.int n) (prs y1 ((ZH bits ps).map Zw)) r2 r3 r4 H0 Q E
section
variable {P:aA}{w:aI}{K:aa}{mg:Str->Option ac}{base:aX}{C Cb Ch:ae}
theorem Yu:FnScope ["self","bits","homes","closed","places"] ["self","bits"] (Zg T.m_Table_with_homes):=scO (by decide +kernel)
noncomputable def YH:bH:=csx [(".0",.local),("number",.local),("name",.local),("bits",.free)]
theorem JA:CompScope YH (Zg T.m_Table_with_homes):=⟨rfl,by decide +kernel,by decide +kernel,by decide +kernel⟩
theorem YW:(["number","name","bits"]:List Str).Nodup:=by decide +kernel
theorem JB:CompNames ["self","bits","homes","closed","places"] YH ["number","name","bits"] [none,none,some 1]:=.mk' (by decide +kernel)
noncomputable def YG:bH:=csx [(".0",.local),("name",.local),("room",.local),("closed",.free)]
theorem Jy:CompScope YG (Zg T.m_Table_with_homes):=⟨rfl,by decide +kernel,by decide +kernel,by decide +kernel⟩
theorem YV:(["name","room","closed"]:List Str).Nodup:=by decide +kernel
theorem Jz:CompNames ["self","bits","homes","closed","places"] YG ["name","room","closed"] [none,none,some 3]:=.mk' (by decide +kernel)
theorem NP(B:∀x∈Blts,mg x=none)(Z:TCl K C)(M:TMk P w K mg base C Cb)(BH:Err P w K mg base "NoHomes" ["found"] Ch)(CI:Can P w K mg base 2 "is_within" ["thing","low","high"] K1.Xl)(CH:CanM P w K mg base CX0 1 C "homes" ["self"] (PK C))(D:DfM K C "with_homes" "Table.with_homes" T.m_Table_with_homes ["self","bits"]):CanM P w K mg base (CX1 P w) 9 C "with_homes" ["self","bits"] (J9 C Cb Ch):=by
 obtain⟨fm,fdm,hM,FM,bM⟩:=M.made;refine D.cnX Yu λf cdv A outer s H vs Q E hr h=>?_;obtain⟨t,bv,Tb,fs,n,r2,r3,r4,x1,ps,k,rfl,tp,hlen,tbv,kb,kg⟩:=h;obtain⟨dx,ht⟩:=id tp.tab.tab.at_;obtain⟨l1,d1,xs,rs,a1,a2,a3,a4,a5⟩:=id tp.tab.p;cases a3;have rr:=tp.rows _ (.inl rfl) _ _ rfl;refine⟨_,(Zf (st 2 Yu.nd (Uq CH Z.cl Xw (hr.mono (by decide)) (pv 0))) (Zf (ZC (ZW (ZX (cn CI hr (Za (pv 1) (Za Zd (Za (Zy Jt (Zy M9 Zd (ZJ (r:=rLen K) Yh rfl (B _ (by decide +kernel)) bt (Za (pv 2) Zc))) Zd) Zc)))))) (Zi (YO (E:=E) BH Z1 rfl (hr.mono (by decide)) rfl (Za (pv 1) Zc))) Zq) (Zf (ZM (i:=3) Yu.nd rfl (Or.inr rfl) (Yy (scope:=YH) (N:=["number","name","bits"]) (cp:=[none,none,some 1]) rfl JA JB (QI rfl (B _ (by decide +kernel)) (Za (pv 2) Zc) (by decide +kernel)) (λC s H ex pn=>(JO (K:=K) (n:=2) rfl rfl (Zz (Zt (i:=0) YW rfl (aJ rfl)) (Zz (Zt (i:=1) YW rfl (aJ rfl)) Yd)))) (λC s H ex pn=>(XF (Zr Yl (Zy D5 (pv 2) (Zy M9 Zd (pv 0))) Zd (Zx _)))) (λC s H ex pn=>(pv 1)))) (Zf (Xh (i:=4) Yu.nd rfl (aJ rfl) (scope:=YG) (N:=["name","room","closed"]) (cp:=[none,none,some 3]) rfl Jy Jz (MX (ZG (pv 0) rfl)) (λC s H ex pn=>(JO (K:=K) (n:=2) rfl rfl (Zz (Zt (i:=0) YV rfl (aJ rfl)) (Zz (Zt (i:=1) YV rfl (aJ rfl)) Yd)))) (λC s H ex pn=>Yp) (λC s H ex pn=>(Up (Zr (D4 (K:=K) rfl) (pv 0) (pv 2) (by with_unfolding_all rfl)) (Zv (Za (pv 0) (Za Zd Zc))) (Zv (Za (pv 0) (Za (pv 1) Zc)))))) (Zi (Zl (Mj hM FM hr rfl M.mg bM .nil Z1 (Za (ZG (pv 0) rfl) (Za (pv 4) (Za (ZG (pv 0) rfl) (Za (ZG (pv 0) rfl) (Za (ZG (pv 0) rfl) Zc)))))))))))),?_⟩;try dsimp only[cxOf,Cx.nox]
 refine mthV ht (tp.tab.tab.only _ (by decide +kernel)) ⟨t,fs,l1,ps,rfl,tp.tab.tab,a1,⟨x1,a4,rr⟩,by omega,λq hq=>?_⟩;rw[show((ps.filter λp=>p.2.isNone).map λp=>V.str p.1)=(homesOf ps).map V.str from by unfold homesOf;rw[bZ];rfl];have hhl:(homesOf ps).length<=14:=by unfold homesOf;rw[lm];exact ax (cF _ _) hlen
 refine nl hq λH1 S1 e1=>?_;have cp:∀m:Nat,m<=14->CPow 1 (m:Int):=λm hm=>⟨by omega,by omega,by decide⟩;refine⟨_,rfl,_,rfl,q,_,rfl,.inl (SqL.of e1),_,_,rfl,rfl,cp _ (by rw[lm];exact hhl),_,_,rfl,rfl,bv,Tb,0,_,rfl,tbv.same S1,_,rfl,?_⟩;rw[lm,a8];cases hw:K1.Zp bv 0 (1*2 ^ (homesOf ps).length-1)with
|false=>refine iteT ?_;exact⟨_,rfl,rfl,kb hw H1 S1⟩
|true=>
  refine iteF ?_;obtain⟨bits,rfl⟩:∃i,bv=.int i:=by
   cases bv with
  |int i=>exact⟨i,rfl⟩
  |_=>cases hw
  refine⟨_,rfl,q,_,rfl,e1,?_⟩;refine Xj (J:=T6 q) (homesOf ps).length (ax hhl (by decide)) (λi zs τ H'=>Same H1 H'/\zs=(ZS bits 0 ((homesOf ps).take i)).map V.str/\zs.length<=i/\∃v1 v2,τ=[v1,v2,some (.int bits)]) ⟨Same.refl _,rfl,aj _,none,none,rfl⟩ (λi zs τ H' p=>p.2.2.1) (λi zs τ H' hi p=>⟨_,p.1 _ _ e1,by rw[lm];exact hi⟩) (λzs τ H' p=>⟨_,p.1 _ _ e1,by rw[lm]⟩) (λi zs τ H' x' H2 hi p yl=>?_) (λzs τ H2 p l5 hl5=>?_)
  ·obtain⟨sm,rfl,hz,v1,v2,rfl⟩:=p;obtain⟨Tt,ys,y,hT,hy,gy,rfl,rfl⟩:=yl;rw[sm _ _ e1]at hy;cases hy;rw[ak,gE hi]at gy;cases gy;have sm2:=sameNew (o:=.tup [.int i,.str (homesOf ps)[i]]) sm hT;have stp:ZS bits 0 ((homesOf ps).take (i+1))=ZS bits 0 ((homesOf ps).take i)++(if cj bits (1*2 ^ i)=0 then[(homesOf ps)[i]]else[]):=by
    have:(homesOf ps).take (i+1)=(homesOf ps).take i++[(homesOf ps)[i]]:=by rw[bY,gE hi];rfl
    rw[this,G3,Nat.zero_add,aL,show min i (homesOf ps).length=i from by omega]
   refine⟨Tt,_,rfl,SqT.of Ze,rfl,_,_,rfl,_,_,rfl,rfl,_,rfl,_,rfl,_,_,rfl,rfl,cp i (by omega),_,_,rfl,rfl,rfl,_,rfl,?_⟩;rw[a8];refine ZE (λe=>?_) (λe=>?_)
   ·have e0:cj bits (1*2 ^ i)=0:=by simpa using e
    refine⟨_,rfl,sm2,?_,by rw[aT];exact Nat.add_le_add hz (aj _),_,_,rfl⟩;rw[stp,if_pos e0,aN];rfl
   ·have e0:¬cj bits (1*2 ^ i)=0:=by simpa using e
    refine⟨sm2,?_,by omega,_,_,rfl⟩;rw[stp,if_neg e0,bB]
  obtain⟨sm,rfl,_,v1,v2,rfl⟩:=p;rw[b7];generalize hcl:ZS bits 0 (homesOf ps)=cl;have Sb:=S1.trans sm;have S3:Same H (upd H2 l5 (.lst (cl.map V.str))):=sameNew Sb hl5;have e5:upd H2 l5 (.lst (cl.map V.str)) l5=some (.lst (cl.map V.str)):=Ze;generalize upd H2 l5 (.lst (cl.map V.str))=H5 at S3 e5 ⊢;clear e1 S1 sm hl5 Sb;have tr:Xy H5 l1 (ps.map Zw):=Xy.same S3 ⟨x1,a4,rr⟩;refine⟨_,rfl,t,C,dx,fs,_,rfl,S3 _ _ ht,Z.cl,Z.na _ (by simp[fields]),a1,l1,rfl,⟨_,SqT.of tr.choose_spec.1⟩,?_⟩;refine Z7 (J:=Itt K l1) (ps.map Zw).length (ax (by rw[lm];exact hlen:(ps.map Zw).length<=14) (by decide)) (λi zs τ H'=>Same H5 H'/\Paired (RowN H') zs (((ZH bits ps).take i).map Zw)/\∃v1 v2,τ=[v1,v2,some (.ref l5)]) ⟨Same.refl _,.nil,none,none,rfl⟩ (λi zs τ H' p=>?_) (λi zs τ H' hi p=>(tr.same p.1).go hi) (λzs τ H' p=>(tr.same p.1).stop) (λi zs τ H' x' H6 hi p yl=>?_) (λzs τ H6 p l7 hl7=>?_)
  ·have:=p.2.1.length;rw[this,lm,aL];omega
  ·obtain⟨sm,pr,v1,v2,rfl⟩:=p;have hi':i<ps.length:=by simpa using hi
   have e0:ps[i]?=some ps[i]:=gE hi';obtain⟨rfl,a,rfl,ha⟩:=(tr.same sm).item (r:=Zw ps[i]) (by rw[ak,e0];rfl) yl;have stp:(ZH bits ps).take (i+1)=(ZH bits ps).take i++[if ps[i].1∈cl then(ps[i].1,some 0)else ps[i]]:=by rw[bY];unfold ZH;rw[ak,e0,hcl];rfl
   refine⟨a,_,rfl,SqT.of ha,rfl,_,_,rfl,_,_,rfl,rfl,_,rfl,_,rfl,l5,_,rfl,.inl (SqL.of (sm _ _ e5)),rfl,by simp[VR],_,rfl,?_⟩;rw[if_neg (by decide),To];have fin:∀(r:Option Int)(c:ae),(if ps[i].1∈cl then(ps[i].1,some 0)else ps[i])=(ps[i].1,r)->H6 c=none->Same H5 (upd H6 c (.tup [.str ps[i].1,Yn r]))/\Paired (RowN (upd H6 c (.tup [.str ps[i].1,Yn r]))) (zs++[.ref c]) (((ZH bits ps).take (i+1)).map Zw):=λr c e hc=>by refine⟨sameNew sm hc,?_⟩;rw[stp,aN,e];exact N8 (Paired.mapP pr λ_ _ h90=>by obtain⟨p,e,h⟩:=h90;exact⟨p,e,sameNew (Same.refl _) hc _ _ h⟩) (.cons ⟨c,rfl,Ze⟩ .nil)
   refine ZE (λe=>?_) (λe=>?_)
   ·have hm:ps[i].1∈cl:=by simpa using e
    refine⟨_,rfl,zl,λc hc=>?_⟩;obtain⟨f1,f2⟩:=fin (some 0) c (by rw[if_pos hm]) hc;exact⟨f1,f2,_,_,rfl⟩
   ·have hm:¬ps[i].1∈cl:=by simpa using e
    refine⟨_,rfl,_,rfl,zl,λc hc=>?_⟩;obtain⟨f1,f2⟩:=fin ps[i].2 c (by rw[if_neg hm]) hc;exact⟨f1,f2,_,_,rfl⟩
  obtain⟨sm,pr,v1,v2,rfl⟩:=p;rw[show(ZH bits ps).take (ps.map Zw).length=ZH bits ps from aZ (by unfold ZH;rw[lm,lm];exact aj _)]at pr;have S7:Same H (upd H6 l7 (.lst zs)):=sameNew (S3.trans sm) hl7;have e7:upd H6 l7 (.lst zs) l7=some (.lst zs):=Ze;have pr7:Paired (RowN (upd H6 l7 (.lst zs))) zs ((ZH bits ps).map Zw):=Paired.mapP pr λ_ _⟨p,e,h⟩=>⟨p,e,sameNew (Same.refl _) hl7 _ _ h⟩;generalize upd H6 l7 (.lst zs)=H7 at S7 e7 pr7 ⊢;have hsh:∀p∈ps,p.1.length<=1000:=λp hp=>by
   obtain⟨i,hi⟩:=aY.mp hp;have hx:i<x1.length:=by rw[rr.1,lm,lm];exact(ai.mp hi).1
   obtain⟨_,_,_,th⟩:=rr.2 i x1[i] (some (Zw p)) (gE hx) (by rw[ak,ak,hi];rfl);obtain⟨T,t⟩:=th (.str p.1) ao;cases t with
  |str _ h=>exact h
  have rN:=N5 pr7 (λr hr y hy=>by
   obtain⟨p',hp',rfl⟩:=aw.mp hr;unfold ZH at hp';obtain⟨p,hp,rfl⟩:=aw.mp hp';have hs:=hsh p hp;have:∃r:Option Int,(if p.1∈ZS bits 0 (homesOf ps)then(p.1,some 0)else p)=(p.1,r):=by
    split
    ·exact⟨_,rfl⟩
    ·exact⟨_,rfl⟩
   obtain⟨r,er⟩:=this;rw[er]at hy;simp only[Zw,aq,aK,or_false]at hy;rcases hy with rfl|rfl
   ·exact⟨_,.str _ hs⟩
   ·cases r with
   |none=>exact⟨_,.non⟩
   |some i=>exact⟨_,.int i⟩)
  have p1':YC H7 (.ref l7) (prs zs ((ZH bits ps).map Zw)):=⟨⟨l7,rfl,.inl e7⟩,rN⟩;have tp7:=tp.same S7;obtain⟨dx',ht'⟩:=id tp7.tab.tab.at_;obtain⟨m2,b2,p2⟩:=tp7.tab.r.part (tp7.rows _ (.inr (.inl rfl)));obtain⟨m3,b3,p3⟩:=tp7.tab.w.part (tp7.rows _ (.inr (.inr (.inl rfl))));obtain⟨m4,b4,p4⟩:=tp7.tab.g.part (tp7.rows _ (.inr (.inr (.inr rfl))));exact⟨_,rfl,t,C,dx',fs,_,rfl,ht',Z.cl,Z.na _ (by simp[fields]),tp7.tab.turns,_,rfl,_,rfl,t,C,dx',fs,_,rfl,ht',Z.cl,Z.na _ (by simp[fields]),b2,_,rfl,t,C,dx',fs,_,rfl,ht',Z.cl,Z.na _ (by simp[fields]),b3,_,rfl,t,C,dx',fs,_,rfl,ht',Z.cl,Z.na _ (by simp[fields]),b4,Uu (.int n) p1' p2 p3 p4 (kg bits rfl hw H7 zs S7 rN)⟩
end
theorem Dm(b n:Nat):b &&& 2 ^ n=0↔b / 2 ^ n % 2=0:=by
 have ht:b.testBit n=decide (b / 2 ^ n % 2=1):=Nat.testBit_eq_decide_div_mod_eq;constructor
 ·intro h;have:=congrArg (λx=>Nat.testBit x n) h;simp only[Nat.testBit_and,Nat.testBit_two_pow_self,Bool.and_true,Nat.zero_testBit]at this;rw[ht,decide_eq_false_iff_not]at this;omega
 ·intro h;refine Nat.eq_of_testBit_eq λi=>?_;rw[Nat.testBit_and,Nat.zero_testBit,Nat.testBit_two_pow];by_cases e:n=i
  ·subst e;rw[ht,decide_eq_false (by omega)];rfl
  ·rw[decide_eq_false e,Bool.and_false]
theorem Dh{bits:Int}(h:0<=bits)(n:Nat):(cj bits (1*2 ^ n)=0)↔(bits / (1*2 ^ n) % 2=0):=by
 obtain⟨b,rfl⟩:∃b:Nat,bits=b:=⟨bits.toNat,by omega⟩;have e2:(1*2 ^ n:Int)=((2 ^ n:Nat):Int):=by simp
 rw[e2];generalize hm:2 ^ n=m;have e1:cj (b:Int) (m:Int)=((b &&& m:Nat):Int):=by unfold cj;rw[decide_eq_true (by omega:(0:Int)<=b),decide_eq_true (by omega:(0:Int)<=m)];simp
 rw[e1];have e3:((b:Int) / (m:Int) % 2=0)↔(b / m % 2=0):=by rw[<-Int.natCast_ediv];omega
 have e4:(((b &&& m:Nat):Int)=0)↔(b &&& m=0):=by omega
 rw[e3,e4,<-hm];exact Dm b n
end TB
namespace L2
open PySem PySem.Spec PyProof.Rows
theorem Q5{P:aA}{w:aI}{H:Hp}{h:aX}{a:ae}(ok:HOk P w H h)(e:H a=some (.dK [])):Reads h (.ref a) (.dict []) [a]/\a≠sysModules:=by obtain⟨_,ns,vs,kv,o,es,ep,ho,ex,hd,hk,hp,_⟩:=DC ok e;refine⟨?_,λq=>by simp[q]at ns⟩;cases kv;generalize hl:es.toList=l at hp;cases hp;have:=Reads.dict (h:=h) (a:=a) (o:=o) (es:=es) (n:=ep) (kvs:=[]) (as:=[]) (bs:=[]) ho ex.1 hd (by rw[hl];exact .nil) (by rw[hl];exact .nil);exact this
inductive IsX(H:Hp):V->PyData->Prop
|of {x:V}{d:PyData} (h:Is H x d):IsX H x d
|dk {a:ae} (e:H a=some (.dK [])):IsX H (.ref a) (.dict [])
noncomputable def DW:List V->Hp->VK->Prop:=λxs H Q=>∃x d,xs=[x]/\IsX H x d/\d.showable=true/\d.depth<=64/\d.shown.length<=av/\Q (.str d.shown) H
theorem ND{X:Cx}{k:Nat}(hr:Room k X.A):Xo X (.builtin "repr") DW:=by
 intro pins s σ H xs us Q I r h;obtain⟨x,d,rfl,hd,hs,hdp,hz,q⟩:=h;cases hd with
|of h=>exact Ua hr pins s σ H _ us Q I r ⟨x,d,rfl,h,hs,hdp,hz,q⟩
|@dk a e=>obtain⟨u,rfl,rx⟩:=vals1 r;cases rx;obtain⟨rd,ns⟩:=Q5 I.hok e;exact repr_of_reads' rd hs (λ_ hm=>by simp at hm;exact ns hm.symm) hr.gd (by have:=hr.un;omega) (λ_ _ e=>e) (λh' u tk hk=>⟨.str _,H,I.kept hk,⟨u,rfl⟩,q⟩) hz
end L2
namespace WD
open PySem L2 PySem.Spec PyProof.Rows TB
def GS(z:Str):Prop:=z.length<=12/\∀c∈z.cps.toList,c<0x110000
noncomputable instance (z:Str):Decidable (GS z):=by unfold GS;infer_instance
inductive Atm:V->Prop
|non:Atm .non
|int {i:Int} (h:i.natAbs<=1000):Atm (.int i)
|str {z:Str} (h:GS z):Atm (.str z)
theorem Atm.is{H:Hp}{v:V}(h:Atm v):Is H v (dF v):=by
 cases h with
|non=>exact .non
|int h=>exact .int _
|str h=>exact .str _
theorem GD{H:Hp}:∀{ys:List V},(∀y∈ys,Atm y)->IsAll H ys (ys.map dF)
|[],_=>.nil
|y::ys,h=>.cons (h y ao).is (GD λz hz=>h z (am _ hz))
def RowG(ys:List V):Prop:=ys.length<=6/\∀y∈ys,Atm y
noncomputable def rowD(ys:List V):PyData:=.tuple (ys.map dF)
noncomputable def tabD(n:Int)(t1 t2 t3 t4:List (List V)):PyData:=.tuple [.int n,.tuple (t1.map rowD),.tuple (t2.map rowD),.tuple (t3.map rowD),.tuple (t4.map rowD)]
structure Sm(d:PyData)(k m:Nat):Prop where
 sh:d.showable=true
 lv:d.leavesShort 13=true
 dp:d.depth<=k
 wt:d.weight<=m
theorem lgk{i:Nat}(h:i<=1000):i.log2<=11:=by
 by_cases e:i=0
 ·subst e;decide
 ·exact Nat.lt_succ_iff.mp ((Nat.log2_lt e).mpr (by omega))
theorem shown_int{i:Int}(h:i.natAbs<=1000):((PyData.int i).shown).length<=13:=by
 have key:∀n:Nat,n<=1000->((PyData.int n).shown).length<=13/\((PyData.int (-(n:Int))).shown).length<=13:=by intro n hn;have:=(by decide +kernel:∀k∈bN 1001,((PyData.int (k:Nat)).shown).length<=13/\((PyData.int (-((k:Nat):Int))).shown).length<=13);exact this n (dz.mpr (by omega))
 rcases Int.natAbs_eq i with e|e
 ·rw[e];exact(key _ h).1
 ·rw[e];exact(key _ h).2
theorem Atm.sm{v:V}(h:Atm v):Sm (dF v) 0 12:=by
 cases h with
|non=>exact⟨rfl,rfl,aj _,bV _⟩
|int h=>
  have:=lgk h;refine⟨?_,?_,aj _,?_⟩
  ·simp only[dF,PyData.showable,decide_eq_true_eq];omega
  ·simp only[dF,PyData.leavesShort,decide_eq_true_eq];exact shown_int h
  ·simp only[dF,PyData.weight];split<;>omega
|str h=>refine⟨by simp only[dF,PyData.showable],?_,aj _,h.1⟩;simp only[dF,PyData.leavesShort,cA,decide_eq_true_eq];exact λc hc=>aD (h.2 c hc) (by decide)
structure SmAll(ds:List PyData)(k m:Nat):Prop where
 sh:PyData.showableAll ds=true
 lv:PyData.leavesShortAll 13 ds=true
 dp:cL ds<=k
 wt:PyData.weightAll ds<=ds.length*(m+1)
theorem SmAll.of{k m:Nat}:∀{ds:List PyData},(∀d∈ds,Sm d k m)->SmAll ds k m
|[],_=>⟨rfl,rfl,bV _,bV _⟩
|d::ds,h=>by
  have h1:=h d ao;have h2:=SmAll.of (ds:=ds) λx hx=>h x (am _ hx);refine⟨?_,?_,?_,?_⟩
  ·simp only[PyData.showableAll,h1.sh,h2.sh,Bool.and_self]
  ·simp only[PyData.leavesShortAll,h1.lv,h2.lv,Bool.and_self]
  ·simp only[cL];have:=h1.dp;have:=h2.dp;omega
  ·simp only[PyData.weightAll,bh,Nat.succ_mul];have:=h1.wt;have:=h2.wt;omega
theorem SmAll.tup{ds:List PyData}{k m n:Nat}(h:SmAll ds k m)(hl:ds.length<=n):Sm (.tuple ds) (k+1) (n*(m+1)):=by
 refine⟨?_,?_,?_,?_⟩
 ·simp only[PyData.showable,h.sh]
 ·simp only[PyData.leavesShort,h.lv]
 ·simp only[PyData.depth];have:=h.dp;omega
 ·simp only[PyData.weight];exact ax h.wt (Nat.mul_le_mul_right _ hl)
theorem Sm.mono{d:PyData}{k m k' m':Nat}(h:Sm d k m)(hk:k<=k')(hm:m<=m'):Sm d k' m':=⟨h.sh,h.lv,ax h.dp hk,ax h.wt hm⟩
theorem RJ{ys:List V}(h:RowG ys):Sm (rowD ys) 1 78:=(SmAll.of (ds:=ys.map dF) (k:=0) (m:=12) λd hd=>by obtain⟨y,hy,rfl⟩:=aw.mp hd;exact(h.2 y hy).sm).tup (n:=6) (by rw[lm];exact h.1)
theorem Me{t:List (List V)}(hl:t.length<=300)(h:∀ys∈t,RowG ys):Sm (.tuple (t.map rowD)) 2 23700:=(SmAll.of (ds:=t.map rowD) (k:=1) (m:=78) λd hd=>by obtain⟨y,hy,rfl⟩:=aw.mp hd;exact RJ (h y hy)).tup (n:=300) (by rw[lm];exact hl)
theorem Sm.shown{d:PyData}{k:Nat}(h:Sm d k 200000):d.shown.length<=av:=by
 have h2:=PyData.shown_le 13 (by decide) d h.lv;have:=h.wt;exact ax h2 (by
  have:(15:Nat)*200000+13<=av:=by decide
  omega)
structure TabG(n:Int)(t1 t2 t3 t4:List (List V)):Prop where
 n0:1<=n/\n<=50
 l1:t1.length<=14
 l2:t2.length<=80
 l3:t3.length<=40
 l4:t4.length<=300
 g1:∀ys∈t1,RowG ys
 g2:∀ys∈t2,RowG ys
 g3:∀ys∈t3,RowG ys
 g4:∀ys∈t4,RowG ys
theorem TabG.sm{n:Int}{t1 t2 t3 t4:List (List V)}(h:TabG n t1 t2 t3 t4):Sm (tabD n t1 t2 t3 t4) 3 200000:=by
 refine(SmAll.tup (ds:=[.int n,.tuple (t1.map rowD),.tuple (t2.map rowD),.tuple (t3.map rowD),.tuple (t4.map rowD)]) (n:=5) (SmAll.of (k:=2) (m:=23700) λd hd=>?_) (aj 5)).mono (by decide) (by decide);simp only[aq,aK,or_false]at hd;rcases hd with rfl|rfl|rfl|rfl|rfl
 ·exact(Atm.int (i:=n) (by have:=h.n0;omega)).sm.mono (by decide) (by decide)
 ·exact Me (by have:=h.l1;omega) h.g1
 ·exact Me (by have:=h.l2;omega) h.g2
 ·exact Me (by have:=h.l3;omega) h.g3
 ·exact Me h.l4 h.g4
theorem DK{a b c:V}(ha:Atm a)(hb:Atm b)(hc:Atm c):Sm (.tuple [dF a,dF b,dF c]) 1 200000:=by
 refine(SmAll.tup (ds:=[dF a,dF b,dF c]) (n:=3) (SmAll.of (k:=0) (m:=12) λd hd=>?_) (aj 3)).mono (by decide) (by decide);simp only[aq,aK,or_false]at hd;rcases hd with rfl|rfl|rfl
 ·exact ha.sm
 ·exact hb.sm
 ·exact hc.sm
theorem Ug{H:Hp}:∀{xs:List V}{t:List (List V)},ZU H xs (t.map some)->(∀ys∈t,RowG ys)->IsAll H xs (t.map rowD)
|[],[],_,_=>.nil
|[],_::_,h,_=>by cases h.1
|_::_,[],h,_=>by cases h.1
|x::xs,ys::t,h,g=>by obtain⟨p,rfl,hp,_⟩:=h.2 0 x (some ys) rfl rfl;exact .cons (.tup hp (GD (g ys ao).2)) (Ug (xs:=xs) (t:=t) ⟨by simpa using h.1,λi x r h1 h2=>h.2 (i+1) x r (by simpa using h1) (by simpa using h2)⟩ λz hz=>g z (am _ hz))
theorem W7{H:Hp}{q l1 l2 l3 l4:ae}{n:Int}{x1 x2 x3 x4:List V}{t1 t2 t3 t4:List (List V)}(g:TabG n t1 t2 t3 t4)(h1:H l1=some (.tup x1))(h2:H l2=some (.tup x2))(h3:H l3=some (.tup x3))(h4:H l4=some (.tup x4))(r1:ZU H x1 (t1.map some))(r2:ZU H x2 (t2.map some))(r3:ZU H x3 (t3.map some))(r4:ZU H x4 (t4.map some))(hq:H q=some (.tup [.int n,.ref l1,.ref l2,.ref l3,.ref l4])):Is H (.ref q) (tabD n t1 t2 t3 t4):=.tup hq (.cons (.int n) (.cons (.tup h1 (Ug r1 g.g1)) (.cons (.tup h2 (Ug r2 g.g2)) (.cons (.tup h3 (Ug r3 g.g3)) (.cons (.tup h4 (Ug r4 g.g4)) .nil)))))
theorem Wz:∀c∈K1.LET++K1.FIG++[46],c<0x110000:=by decide +kernel
theorem Nm.gs{t:Str}(h:Nm t):GS t:=by obtain⟨h1,h2,h3⟩:=h;refine⟨by rw[<-ZI];omega,λc hc=>Wz c (bg _ (bg _ (h3 c hc)))⟩
theorem Atm.lay{v:V}(h:Atm v):(dF v).canLay0=true:=by
 cases h with
|non=>rfl
|int h=>rfl
|str h=>show(Array.all _ _)=true;rw[Array.all_eq_true'];intro c hc;exact decide_eq_true (h.2 c (Array.mem_toList_iff.mpr hc))
theorem P7:∀{ds:List PyData},(∀d∈ds,d.canLay0=true)->PyData.canLayAll0 ds=true
|[],_=>rfl
|d::ds,h=>by show(d.canLay0&&PyData.canLayAll0 ds)=true;rw[h d ao,P7 λe he=>h e (am _ he)];rfl
theorem Mg{ys:List V}(h:RowG ys):(rowD ys).canLay0=true:=P7 (ds:=ys.map dF) λd hd=>by obtain⟨y,hy,rfl⟩:=aw.mp hd;exact(h.2 y hy).lay
structure Shw(d:PyData):Prop where
 sh:d.showable=true
 dp:d.depth<=64
 len:d.shown.length<=av
theorem Sm.shw{d:PyData}{k m:Nat}(h:Sm d k m)(hk:k<=64)(hm:m<=200000):Shw d:=⟨h.sh,ax h.dp hk,(h.mono (aj k) hm).shown⟩
def Fl(v:V):Prop:=∃d,(∀H,Is H v d)/\Shw d
theorem Atm.fl{v:V}(h:Atm v):Fl v:=⟨_,λ_=>h.is,h.sm.shw (by decide) (by decide)⟩
theorem DB(c:Bool):Fl (.bl c):=⟨_,λ_=>.bl c,by cases c<;>exact⟨by decide +kernel,by decide +kernel,by decide +kernel⟩⟩
theorem K6:Fl (.int 1001)/\Fl (.int (10 ^ 20)):=⟨⟨_,λ_=>.int _,by decide +kernel,by decide +kernel,by decide +kernel⟩,⟨_,λ_=>.int _,by decide +kernel,by decide +kernel,by decide +kernel⟩⟩
def Dat(b:ae)(H:Hp)(v:V)(d:PyData):Prop:=∀H',Zh b H H'->IsX H' v d
theorem Dat.same{b:ae}{H H':Hp}{v:V}{d:PyData}(s:Zh b H H')(h:Dat b H v d):Dat b H' v d:=λH2 s2=>h H2 (s.trans s2)
def Ue:Sp:=λvs H Q _=>∃(p:ae)(a0 a1 a2 a3 a4 v:V),vs=[.ref p,v]/\H p=some (.lst [a0,a1,a2,a3,a4])/\∀q,H q=none->Q (.ref q) (upd H q (.lst [a0,a1,v,a3,a4]))
def Atom(v:V):Prop:=v=.non\/(∃c,v=.bl c)\/(∃i,v=.int i)\/∃z,v=.str z/\z.length<=1000
def Vy:Sp:=λvs H Q _=>∃(b:ae)(most:Int),vs=[.ref b,.int most]/\Zu H b/\0<=most/\most<=1000/\∀H' v,Zu H' b->Zh b H H'->Atom v->Fl v->Q v H'
section
variable {P:aA}{w:aI}{K:aa}{mg:Str->Option ac}{base:aX}
theorem PN:FnScope [q_w,"_law_rides_here"] [q_w,"_law_rides_here"] (Zg T.f__law_rides):=scO (by decide +kernel)
theorem Sl(D:Df K mg "_law_rides" T.f__law_rides [q_w,"_law_rides_here"]):Can P w K mg base 1 "_law_rides" [q_w,"_law_rides_here"] Ue:=by
 refine D.cn PN λf cdv A outer s H vs Q E hr h=>?_;obtain⟨p,a0,a1,a2,a3,a4,v,rfl,hp,k⟩:=h;refine⟨_,(Zi (Zl (ZO (Za (il K (pv 0) Zd) (Za (il K (pv 0) Zd) (Za (pv 1) (Za (il K (pv 0) Zd) (Za (il K (pv 0) Zd) Zc)))))))),?_⟩;try dsimp only[cxOf,Cx.nox]
 exact ixL 0 hp rfl (ixL 1 hp rfl ⟨_,rfl,ixL 3 hp rfl (ixL 4 hp rfl ⟨zl,k⟩)⟩)
theorem VN:FnScope [q_b,"_law_most","_law_some"] [q_b,"_law_most"] (Zg T.f__law_number):=scO (by decide +kernel)
theorem Re(CT:Can P w K mg base 1 "_law_take" [q_b,"_law_many"] YS)(D:Df K mg "_law_number" T.f__law_number [q_b,"_law_most"]):Can P w K mg base 2 "_law_number" [q_b,"_law_most"] Vy:=by
 refine D.cn VN λf cdv A outer s H vs Q E hr h=>?_;obtain⟨b,most,rfl,hb,h0,h1,k⟩:=h;have lg:(most+1).natAbs.log2<9000:=b6 (Nat.log2_le_self _) (by omega);refine⟨_,(Zf (st 2 VN.nd (ZO (Za (cn CT hr (Za (pv 0) (Za (Zy Z0 (pv 1) Zd) Zc))) (Za (cn CT hr (Za (pv 0) (Za (Zy Z0 (pv 1) Zd) Zc))) (Za (pv 1) (Za (Zy Z0 (pv 1) Zd) (Za Zd (Za (Dx W4 Zd) (Za VO (Za ZN (Za Zn (Za (Zy KF Zd Zd) Zc)))))))))))) (Zi (Zl (il K (pv 2) (cn CT hr (Za (pv 0) (Za Zd Zc))))))),?_⟩;try dsimp only[cxOf,Cx.nox]
 refine⟨_,rfl,_,rfl,_,_,rfl,rfl,b,_,rfl,hb,by omega,lg,λr1 H1 a1 b1 B1 S1=>?_⟩;refine⟨_,rfl,_,rfl,_,_,rfl,rfl,b,_,rfl,B1,by omega,lg,λr2 H2 a2 b2 B2 S2=>?_⟩;refine⟨_,rfl,_,rfl,_,_,rfl,rfl,_,rfl,_,_,rfl,rfl,⟨by decide,by decide,by decide⟩,zl,λl hl=>?_⟩;have nl:=B2.ne hl;refine⟨_,rfl,tkC (B2.new hl) (λr H5 h05 h15 B5 S5=>?_)⟩;obtain⟨v,hv,hm⟩:=at_of (xs:=[V.int r1,.int r2,.int most,.int (most+1),.int 0,.int (-1),.bl true,.non,.str "1",.int (10 ^ 20)]) h05 h15;refine⟨l,_,r,v,rfl,rfl,SqL.of (S5 _ _ Ze nl),hv,k H5 v B5 (((S1.trans S2).new' hl).trans S5) ?_ ?_⟩
 ·simp only[aq,aK,or_false]at hm;rcases hm with rfl|rfl|rfl|rfl|rfl|rfl|rfl|rfl|rfl|rfl;all_goals first|exact .inl rfl|exact .inr (.inl ⟨_,rfl⟩)|exact .inr (.inr (.inl ⟨_,rfl⟩))|exact .inr (.inr (.inr ⟨_,rfl,by decide +kernel⟩))
 ·have i1:∀i:Int,i.natAbs<=1000->Fl (.int i):=λi h=>(Atm.int h).fl;simp only[aq,aK,or_false]at hm;rcases hm with rfl|rfl|rfl|rfl|rfl|rfl|rfl|rfl|rfl|rfl
  ·exact i1 _ (by omega)
  ·exact i1 _ (by omega)
  ·exact i1 _ (by omega)
  ·by_cases e:most=1000
   ·subst e;exact K6.1
   ·exact i1 _ (by omega)
  ·exact i1 _ (by decide)
  ·exact i1 _ (by decide)
  ·exact DB true
  ·exact Atm.non.fl
  ·exact(Atm.str (by decide +kernel)).fl
  ·exact K6.2
noncomputable def oneV(z:Str):Nat->List (List V)->V
|_,[]=>.non
|i,y::t=>if nameOf y=z then .int i else oneV z (i+1) t
noncomputable def Mn(v:V)(i:Nat)(t:List (List V)):V:=match v with
|.str z=>oneV z i t
|_=>.non
noncomputable def Tl(v:V)(t:List (List V)):V:=Mn v 0 t
def PH:Sp:=λvs H Q _=>∃(b p l:ae)(a0 a1 a3 a4 v:V)(T:String)(t2:List (List V)),vs=[.ref p,v]/\H p=some (.lst [a0,a1,.ref l,a3,a4])/\ZD b H l t2/\t2.length<=900/\(∀y∈t2,y.getD 0 .non=.str (nameOf y))/\Th H v T/\∀H',Same H H'->Q (Tl v t2) H'
theorem VY:FnScope [q_w,q_n,"_law_k","_law_row"] [q_w,q_n] (Zg T.f__law_one):=scO (by decide +kernel)
theorem Ll(B:∀x∈Blts,mg x=none)(D:Df K mg "_law_one" T.f__law_one [q_w,q_n]):Can P w K mg base 1 "_law_one" [q_w,q_n] PH:=by
 refine D.cn VY λf cdv A outer s H vs Q E hr h=>?_;obtain⟨b,p,l,a0,a1,a3,a4,v,T,t2,rfl,hp,rw2,hl,hnm,tv,k⟩:=h;obtain⟨nl,as,el,len,rr⟩:=id rw2;refine⟨_,(Zf (XJ dc rfl (QI rfl (B _ (by decide +kernel)) (Za (il K (pv 0) Zd) Zc) (by decide +kernel)) (XM rfl (Zz (Zt (i:=2) VY.nd rfl (aJ rfl)) (Zz (Zt (i:=3) VY.nd rfl (aJ rfl)) Yd))) (Zi (ZC (PW.pt (MV (ZX (Vh (c:="str") (pv 1) rfl (B _ (by decide +kernel)) rfl (B _ (by decide +kernel)) Sw)) (Uk (Zr Yl (it K (pv 3) Zd) (pv 1) (Zx _))))) (Zi (Zl (pv 2))) Zq))) (Zi (Zl ZN))),?_⟩;try dsimp only[cxOf,Cx.nox]
 refine ixL 2 hp rfl ⟨l,_,rfl,el,?_⟩;refine Vm (J:=T6 l) t2.length (λi σ' H'=>Same H H'/\Tl v t2=Mn v i (t2.drop i)/\∃v1 v2,σ'=[some (.ref p),some v,v1,v2]) ⟨Same.refl _,rfl,_,_,rfl⟩ (λi σ' H' hi p=>⟨_,p.1 _ _ el,by rw[lm];omega⟩) (λσ' H' p=>⟨_,p.1 _ _ el,by rw[lm];omega⟩) (λi σ' H' x H2 hi pv yl=>?_) (λσ' H' pv=>?_)
 ·obtain⟨sm,inv,v1,v2,rfl⟩:=pv;obtain⟨Tt,ys,y,hT,hy,gy,rfl,rfl⟩:=yl;rw[sm _ _ el]at hy;cases hy;have hia:i<as.length:=by omega
  rw[ak,gE hia]at gy;cases gy;obtain⟨nc,hc⟩:=rr i as[i] t2[i] (gE hia) (gE hi);have sm2:=sameNew (o:=.tup [.int i,.ref as[i]]) sm hT;have hc2:=sm2 _ _ hc;have dr:t2.drop i=t2[i]::t2.drop (i+1):=bS hi;have n0:atI t2[i] 0=some (.str (nameOf t2[i])):=by
   have hn:=hnm _ (aW hi);cases e:t2[i]with
  |nil=>rw[e]at hn;cases hn
  |cons y r=>rw[e]at hn;have e':y=.str (nameOf (y::r)):=hn;rw[<-e'];exact ZL (j:=0) rfl
  refine⟨Tt,_,rfl,SqT.of Ze,rfl,_,_,rfl,_,_,rfl,rfl,?_⟩;refine⟨_,rfl,_,_,_,_,rfl,(tv.same sm2).ty,(tv.same sm2).kitS,_,rfl,?_⟩;refine ZE (λe=>?_) (λe=>?_)
  ·obtain⟨z,rfl⟩:∃z,v=.str z:=by
    cases v with
   |str z=>exact⟨z,rfl⟩
   |_=>cases e
   refine⟨_,rfl,as[i],_,0,_,rfl,rfl,SqT.of hc2,n0,_,rfl,rfl,_,rfl,?_⟩;refine ZE (λe=>?_) (λe=>?_)
   ·have en:nameOf t2[i]=z:=by simpa using e
    refine⟨_,rfl,?_⟩;have:=k _ sm2;rw[inv,dr]at this;have e2:Mn (.str z) i (t2[i]::t2.drop (i+1))=.int i:=by show(if _ then _ else _)=_;rw[if_pos en]
    rw[e2]at this;exact this
   ·have en:¬nameOf t2[i]=z:=by simpa using e
    refine⟨sm2,?_,_,_,rfl⟩;rw[inv,dr];show(if nameOf t2[i]=z then _ else _)=_;rw[if_neg en];rfl
  ·refine⟨sm2,?_,_,_,rfl⟩;rw[inv];cases v with
  |str z=>cases e
  |_=>rfl
 ·obtain⟨sm,inv,v1,v2,rfl⟩:=pv;rw[List.drop_length]at inv;have:=k H' sm;rw[inv]at this;have e0:Mn v t2.length []=.non:=by cases v<;>rfl
  rw[e0]at this;exact this
end
end WD
namespace L2
open PySem PySem.Spec PyProof.Rows
theorem P2{P:aA}{w:aI}{X:Cx}:Y9 (CX1 P w) X E0:=λ_ _ _ _ _ _ _ h=>by obtain⟨x,c,dd,B,H',_,_,_,_,_,_,_,hE⟩:=h;exact hE.elim
end L2
namespace WD
open PySem L2 PySem.Spec PyProof.Rows TB
def isJ(j:Nat):Prop:=j=1\/j=2\/j=3\/j=4
theorem Qc{H:Hp}{y:V}(h:Flat y):∃T,Th H y T:=by
 rcases h with rfl|⟨i,rfl⟩|⟨z,rfl,hz⟩
 ·exact⟨_,.non⟩
 ·exact⟨_,.int i⟩
 ·exact⟨_,.str z hz⟩
structure TbAt(b:ae)(H:Hp)(p:ae)(T:Tb)(l1 l2 l3 l4:ae):Prop where
 ne:p≠b
 at_:H p=some (.lst [.int T.n,.ref l1,.ref l2,.ref l3,.ref l4])
 pl:ZD b H l1 T.t1
 rd:ZD b H l2 T.t2
 wy:ZD b H l3 T.t3
 gr:ZD b H l4 T.t4
theorem TbAt.same{b:ae}{H H':Hp}{p:ae}{T:Tb}{l1 l2 l3 l4:ae}(s:Zh b H H')(h:TbAt b H p T l1 l2 l3 l4):TbAt b H' p T l1 l2 l3 l4:=⟨h.ne,s _ _ h.at_ h.ne,h.pl.same s,h.rd.same s,h.wy.same s,h.gr.same s⟩
theorem ZD.part{b:ae}{H:Hp}{l:ae}{rows:List (List V)}(h:ZD b H l rows)(hf:∀ys∈rows,∀y∈ys,Flat y):∃xs:List V,xs.length=rows.length/\H l=some (.lst xs)/\(∀x∈xs,∃a,x=.ref a/\a≠b)/\ZU H xs (rows.map some):=by
 obtain⟨n,as,e,hl,r⟩:=h;refine⟨as.map V.ref,by rw[lm,hl],e,λx hx=>?_,by simp[hl],λi x r' e1 e2=>?_⟩
 ·obtain⟨a,ha,rfl⟩:=aw.mp hx;obtain⟨i,hi⟩:=aY.mp ha;have h1:i<rows.length:=by rw[<-hl];exact(ai.mp hi).1
  exact⟨a,rfl,(r i a _ hi (gE h1)).1⟩
 ·rw[ak]at e1 e2;obtain⟨a,ha,rfl⟩:=bF.mp e1;obtain⟨q,hq,rfl⟩:=bF.mp e2;exact⟨a,rfl,(r i a q ha hq).2,λy hy=>Qc (hf q (aG hq) y hy)⟩
theorem OkTb.flat{T:Tb}(o:OkTb T){j:Nat}(hj:isJ j):∀ys∈T.part j,∀y∈ys,Flat y:=λys h=>((o.part j hj).2.row ys h).flat
def Tel(H:Hp)(C t:ae)(T:Tb):Prop:=∃fs x1 x2 x3 x4 k,TabP H C t fs T.n (prs x1 T.t1) (prs x2 T.t2) (prs x3 T.t3) (prs x4 T.t4) k/\TbDict T x2 x3 x4 k
theorem Tel.same{H H':Hp}{C t:ae}{T:Tb}(s:Same H H')(h:Tel H C t T):Tel H' C t T:=by obtain⟨fs,x1,x2,x3,x4,k,tp,d⟩:=h;exact⟨fs,x1,x2,x3,x4,k,tp.same s,d⟩
theorem Uv{C Cb:ae}{H:Hp}{Q:VK}{E:XK}{T:Tb}(o:OkTb T){x1 x2 x3 x4:List V}(r1:ZU H x1 (T.t1.map some))(r2:ZU H x2 (T.t2.map some))(r3:ZU H x3 (T.t3.map some))(r4:ZU H x4 (T.t4.map some))(k:∀H' x,Same H H'->H x=none->Tel H' C x T->Q (.ref x) H'):Xn C Cb (.int T.n) (prs x1 T.t1) (prs x2 T.t2) (prs x3 T.t3) (prs x4 T.t4) H Q E:=by
 obtain⟨kk,e,d⟩:=W8 o (by rw[r1.1,lm]) (by rw[r2.1,lm]) (by rw[r3.1,lm]) (by rw[r4.1,lm]);unfold Xn;rw[e];refine λH' x fs n s hx en tb=>k H' x s hx ⟨fs,x1,x2,x3,x4,kk,⟨?_,λr hr xs rs er=>?_⟩,d⟩
 ·injection en with en;rw[en];exact tb
 ·rcases hr with rfl|rfl|rfl|rfl
  ·cases er;exact r1.same s
  ·cases er;exact r2.same s
  ·cases er;exact r3.same s
  ·cases er;exact r4.same s
def QA(C:ae):Sp:=λvs H Q _=>∃(b p l1 l2 l3 l4:ae)(T:Tb),vs=[.ref p]/\TbAt b H p T l1 l2 l3 l4/\OkTb T/\∀H' t,Same H H'->Tel H' C t T->Q (.ref t) H'
section
variable {P:aA}{w:aI}{K:aa}{mg:Str->Option ac}{base:aX}{C Cb:ae}
theorem PM:FnScope [q_w] [q_w] (Zg T.f__law_table):=scO (by decide +kernel)
theorem Sj(B:∀x∈Blts,mg x=none)(M:TMk P w K mg base C Cb)(D:Df K mg "_law_table" T.f__law_table [q_w]):Can P w K mg base 9 "_law_table" [q_w] (QA C):=by
 obtain⟨fm,fdm,hM,FM,bM⟩:=M.made;refine D.cn PM λf cdv A outer s H vs Q E hr h=>?_;obtain⟨b,p,l1,l2,l3,l4,T,rfl,tb,ok,k⟩:=h;obtain⟨x1,_,h1,_,r1⟩:=tb.pl.part (ok.flat (.inl rfl));obtain⟨x2,_,h2,_,r2⟩:=tb.rd.part (ok.flat (.inr (.inl rfl)));obtain⟨x3,_,h3,_,r3⟩:=tb.wy.part (ok.flat (.inr (.inr (.inl rfl))));obtain⟨x4,_,h4,_,r4⟩:=tb.gr.part (ok.flat (.inr (.inr (.inr rfl))));refine⟨_,(Zi (Zl (Mj hM FM hr rfl M.mg bM .nil P2 (Za (il K (pv 0) Zd) (Za (Z3 JW rfl (B _ (by decide +kernel)) Gi (Za (il K (pv 0) Zd) Zc)) (Za (Z3 Xk rfl (B _ (by decide +kernel)) YX (Za (il K (pv 0) Zd) Zc)) (Za (Z3 JW rfl (B _ (by decide +kernel)) Gi (Za (il K (pv 0) Zd) Zc)) (Za (Z3 Xk rfl (B _ (by decide +kernel)) YX (Za (il K (pv 0) Zd) Zc)) Zc)))))))),?_⟩;try dsimp only[cxOf,Cx.nox]
 refine ixL 0 tb.at_ rfl (ixL 1 tb.at_ rfl ⟨l1,x1,rfl,.inl (SqL.of h1),λc1 hc1=>?_⟩);refine nl2 hc1 λH1 S1 e1=>?_;refine ixL 2 (S1 _ _ tb.at_) rfl ⟨l2,x2,rfl,.inl ⟨SqL.of (S1 _ _ h2),λc2 hc2=>?_⟩⟩;refine nl2 hc2 λH2 S2 e2=>?_;have S02:=S1.trans S2;refine ixL 3 (S02 _ _ tb.at_) rfl ⟨l3,x3,rfl,.inl (SqL.of (S02 _ _ h3)),λc3 hc3=>?_⟩;refine nl2 hc3 λH3 S3 e3=>?_;have S03:=S02.trans S3;refine ixL 4 (S03 _ _ tb.at_) rfl ⟨l4,x4,rfl,.inl ⟨SqL.of (S03 _ _ h4),λc4 hc4=>?_⟩⟩;refine nl hc4 λH4 S4 e4=>?_;have S04:=S03.trans S4;have q1:YC H4 (.ref c1) (prs x1 T.t1):=⟨⟨c1,rfl,.inl (S4 _ _ (S3 _ _ (S2 _ _ e1)))⟩,r1.same S04⟩;have q2:YC H4 (.ref c2) (prs x2 T.t2):=⟨⟨c2,rfl,.inr (S4 _ _ (S3 _ _ e2))⟩,r2.same S04⟩;have q3:YC H4 (.ref c3) (prs x3 T.t3):=⟨⟨c3,rfl,.inl (S4 _ _ e3)⟩,r3.same S04⟩;have q4:YC H4 (.ref c4) (prs x4 T.t4):=⟨⟨c4,rfl,.inr e4⟩,r4.same S04⟩;exact Uu (.int T.n) q1 q2 q3 q4 (Uv ok (r1.same S04) (r2.same S04) (r3.same S04) (r4.same S04) λH' x s _ tl=>k H' x (S04.trans s) tl)
end
theorem LE{xs:List V}{k:Nat}{v:V}(h:k<xs.length):xs.take k++([v]++xs.drop (k+1))=xs.set k v:=by rw[List.set_eq_take_append_cons_drop,if_pos h];rfl
def Ry:Sp:=λvs H Q _=>∃(p l:ae)(a0 a1 a3 a4 v:V)(xs:List V)(k:Nat),vs=[.ref p,.int k,v]/\H p=some (.lst [a0,a1,.ref l,a3,a4])/\H l=some (.lst xs)/\k<xs.length/\xs.length<=900/\∀H' q l',Same H H'->H l'=none->H' l'=some (.lst (xs.set k v))->H' q=some (.lst [a0,a1,.ref l',a3,a4])->H q=none->Q (.ref q) H'
section
variable {P:aA}{w:aI}{K:aa}{mg:Str->Option ac}{base:aX}
theorem RE:FnScope [q_w,"_law_at","_law_row"] [q_w,"_law_at","_law_row"] (Zg T.f__law_put):=scO (by decide +kernel)
theorem Lk(CR:Can P w K mg base 1 "_law_rides" [q_w,"_law_rides_here"] Ue)(D:Df K mg "_law_put" T.f__law_put [q_w,"_law_at","_law_row"]):Can P w K mg base 2 "_law_put" [q_w,"_law_at","_law_row"] Ry:=by
 refine D.cn RE λf cdv A outer s H vs Q E hr h=>?_;obtain⟨p,l,a0,a1,a3,a4,v,xs,k,rfl,hp,hl,hk,h9,kk⟩:=h;have hsz:∀n:Nat,n<=2000->n<=av:=λn h=>ax h (by decide);refine⟨_,(Zi (Zl (cn CR hr (Za (pv 0) (Za (Zy Vi (Zy Vi (Yc (r:=rSlL K) Y5 (il K (pv 0) Zd) Yw (Yv (pv 1))) (ZO (Za (pv 2) Zc))) (Yc (r:=rSlL K) Y5 (il K (pv 0) Zd) (Yv (Zy Z0 (pv 1) Zd)) Yw)) Zc))))),?_⟩;try dsimp only[cxOf,Cx.nox]
 refine⟨_,rfl,ixL 2 hp rfl ⟨_,rfl,_,rfl,l,xs,rfl,SqL.of hl,λc1 hc1=>?_⟩⟩;rw[Vo xs (by omega) (by omega),a8];refine⟨_,rfl,zl,λc2 hc2=>?_⟩;have e1:upd (upd H c1 (.lst (xs.take k))) c2 (.lst [v]) c1=some (.lst (xs.take k)):=by rw[Zj (Zk Ze hc2)];exact Ze
 have e2:upd (upd H c1 (.lst (xs.take k))) c2 (.lst [v]) c2=some (.lst [v]):=Ze;have S2:Same H (upd (upd H c1 (.lst (xs.take k))) c2 (.lst [v])):=sameNew (sameNew (Same.refl H) hc1) hc2;generalize upd (upd H c1 (.lst (xs.take k))) c2 (.lst [v])=H2 at e1 e2 S2 ⊢;refine⟨c1,c2,_,_,rfl,rfl,e1,e2,hsz _ (by rw[aL];simp;omega),λq3 hq3=>?_⟩;have e3:upd H2 q3 (.lst (xs.take k++[v])) q3=some (.lst (xs.take k++[v])):=Ze;have S3:Same H (upd H2 q3 (.lst (xs.take k++[v]))):=sameNew S2 hq3;generalize upd H2 q3 (.lst (xs.take k++[v]))=H3 at e3 S3 ⊢;refine ixL 2 (S3 _ _ hp) rfl ⟨_,rfl,_,_,rfl,rfl,_,rfl,l,xs,rfl,SqL.of (S3 _ _ hl),λc4 hc4=>?_⟩;rw[Uy xs (by omega) (by omega),show((k:Int)+1).toNat=k+1 from by omega];have e4:upd H3 c4 (.lst (xs.drop (k+1))) c4=some (.lst (xs.drop (k+1))):=Ze;have e3':upd H3 c4 (.lst (xs.drop (k+1))) q3=some (.lst (xs.take k++[v])):=by rw[Zj (Zk e3 hc4)];exact e3
 have S4:Same H (upd H3 c4 (.lst (xs.drop (k+1)))):=sameNew S3 hc4;generalize upd H3 c4 (.lst (xs.drop (k+1)))=H4 at e4 e3' S4 ⊢;refine⟨q3,c4,_,_,rfl,rfl,e3',e4,hsz _ (by rw[aT,aL,bI];simp;omega),λq5 hq5=>?_⟩;have S5:Same H (upd H4 q5 (.lst (xs.take k++[v]++xs.drop (k+1)))):=sameNew S4 hq5;have e5:upd H4 q5 (.lst (xs.take k++[v]++xs.drop (k+1))) q5=some (.lst (xs.set k v)):=by rw[Ze,List.append_assoc,LE hk]
 have n5:H q5=none:=by
  cases e:H q5 with
 |none=>rfl
 |some o=>rw[S4 _ _ e]at hq5;cases hq5
 generalize upd H4 q5 (.lst (xs.take k++[v]++xs.drop (k+1)))=H5 at S5 e5 ⊢;refine⟨p,a0,a1,_,a3,a4,.ref q5,rfl,S5 _ _ hp,λq hq=>?_⟩;refine kk _ q q5 (sameNew S5 hq) n5 (sameNew (Same.refl _) hq _ _ e5) Ze ?_;cases e:H q with
|none=>rfl
|some o=>rw[S5 _ _ e]at hq;cases hq
theorem G5:FnScope ["_law_thing"] ["_law_thing"] (Zg T.f__law_is_whole):=scO (by decide +kernel)
theorem Qg(B:∀x∈Blts,mg x=none)(D:Df K mg "_law_is_whole" T.f__law_is_whole ["_law_thing"]):Can P w K mg base 1 "_law_is_whole" ["_law_thing"] K1.Vx:=by
 refine D.cn G5 λf cdv A outer s H vs Q E hr h=>?_;obtain⟨x,T,rfl,th,k⟩:=h;refine⟨_,(Zi (Zl (V3 (Vh (c:="int") (pv 0) rfl (B _ (by decide +kernel)) rfl (B _ (by decide +kernel)) GQ) (XN (Ky (Vh (c:="bool") (pv 0) rfl (B _ (by decide +kernel)) rfl (B _ (by decide +kernel)) TU)))))),?_⟩;try dsimp only[cxOf,Cx.nox]
 refine⟨_,rfl,_,_,_,_,rfl,th.ty,th.kitI,_,rfl,?_⟩;have fin:∀b,b=K1.Mw x->Q (.bl b) H:=λb e=>e▸k;refine ite2 (λe=>?_) (λe=>fin _ ?_)
 ·refine⟨_,rfl,_,_,_,_,rfl,th.ty,th.kitB,_,rfl,fin _ ?_⟩;cases th<;>first|rfl|(exact absurd (show false=true from e) az)
 ·cases th<;>first|rfl|(exact absurd rfl e)
def ThB(b:ae)(H:Hp)(v:V)(T:String):Prop:=Th H v T/\v≠.ref b
theorem ThB.same{b:ae}{H H':Hp}{v:V}{T:String}(s:Zh b H H')(h:ThB b H v T):ThB b H' v T:=by
 obtain⟨h,n⟩:=h;refine⟨?_,n⟩;cases h with
|non=>exact .non
|bl b=>exact .bl b
|int i=>exact .int i
|str z h=>exact .str z h
|lst e=>exact .lst (s _ _ e (λq=>n (by rw[q])))
|tup e=>exact .tup (s _ _ e (λq=>n (by rw[q])))
|dK e=>exact .dK (s _ _ e (λq=>n (by rw[q])))
theorem ThB.int{b:ae}{H:Hp}(i:Int):ThB b H (.int i) "int":=⟨.int i,by intro z;cases z⟩
theorem ThB.non{b:ae}{H:Hp}:ThB b H .non "NoneType":=⟨.non,by intro z;cases z⟩
theorem ThB.bl{b:ae}{H:Hp}(c:Bool):ThB b H (.bl c) "bool":=⟨.bl c,by intro z;cases z⟩
theorem ThB.str{b:ae}{H:Hp}{z:Str}(h:z.length<=1000):ThB b H (.str z) "str":=⟨.str z h,by intro z;cases z⟩
theorem Nm.short{t:Str}(h:Nm t):t.length<=1000:=by have:=h.2.1;rw[ZI]at this;omega
def RowB(b:ae)(H:Hp)(v:V)(r:Option (List V)):Prop:=match r with
|none=>∃T,ThB b H v T/\T≠"tuple"
|some xs=>∃p,v=.ref p/\p≠b/\H p=some (.tup xs)/\∀x∈xs,∃T,ThB b H x T
theorem RowB.same{b:ae}{H H':Hp}{v:V}{r:Option (List V)}(s:Zh b H H')(h:RowB b H v r):RowB b H' v r:=by
 cases r with
|none=>obtain⟨T,t,n⟩:=h;exact⟨T,t.same s,n⟩
|some xs=>obtain⟨p,e,n,hp,hx⟩:=h;exact⟨p,e,n,s _ _ hp n,λx h=>let ⟨T,t⟩:=hx x h;⟨T,t.same s⟩⟩
theorem Zu.tup{H:Hp}{b p:ae}{xs:List V}(h:Zu H b)(hp:H p=some (.tup xs)):p≠b:=by obtain⟨x,y,z,e⟩:=h;exact ne_of hp e (by intro z;cases z)
def Mb:Sp:=λvs H Q _=>∃(b p l:ae)(a0 a1 a3 a4:V)(s:Str)(t2:List (List V)),vs=[.ref b,.ref p,.str s]/\Zu H b/\p≠b/\H p=some (.lst [a0,a1,.ref l,a3,a4])/\ZD b H l t2/\t2.length<=900/\(∀y∈t2,y.getD 0 .non=.str (nameOf y)/\GS (nameOf y))/\Nm s/\∀H' v T d,Zu H' b->Zh b H H'->ThB b H' v T->Dat b H' v d->Shw d->Q v H'
theorem Vc:FnScope [q_b,q_w,q_s,"_law_names_here","_law_some"] [q_b,q_w,q_s] (Zg T.f__law_name):=scO (by decide +kernel)
noncomputable def Jv:bH:=csx [(".0",.local),("_law_row",.local)]
theorem GG:CompScope Jv (Zg T.f__law_name):=⟨rfl,by decide +kernel,by decide +kernel,by decide +kernel⟩
theorem GI:(["_law_row"]:List Str).Nodup:=by decide +kernel
theorem GH:CompNames [q_b,q_w,q_s,"_law_names_here","_law_some"] Jv ["_law_row"] [none]:=.mk' (by decide +kernel)
theorem Sn(B:∀x∈Blts,mg x=none)(CT:Can P w K mg base 1 "_law_take" [q_b,"_law_many"] YS)(D:Df K mg "_law_name" T.f__law_name [q_b,q_w,q_s]):Can P w K mg base 2 "_law_name" [q_b,q_w,q_s] Mb:=by
 refine D.cn Vc λf cdv A outer s H vs Q E hr h=>?_;obtain⟨b,p,l,a0,a1,a3,a4,z,t2,rfl,hb,np,hp,rws,hl,hnm,hz,k⟩:=h;have hpl:t2.length<=av:=ax hl (by decide);refine⟨_,(Zf (Xh (i:=3) Vc.nd rfl (aJ rfl) (scope:=Jv) (N:=["_law_row"]) (cp:=[none]) rfl GG GH (Yq (il K (pv 1) Zd)) (λC s H ex pn=>(Zt (i:=0) GI rfl (aJ rfl))) (λC s H ex pn=>Yp) (λC s H ex pn=>(it K (pv 0) Zd))) (Zf (st 4 Vc.nd (ZO (Za (pv 2) (Za ZN (Za Zd (Za (ZO (Za Zn Zc)) (Za Zn (Za (Zv (Za (pv 2) Zc)) (Za VO (Za JC Zc)))))))))) (Zf (ZC (PW.pt (Xv (Zr (QN hr.units) (pv 3) (ZO Zc) (Zx _)) (Y6 (Zr Yl (cn CT hr (Za (pv 0) (Za Zd Zc))) Zd (Zx _))))) (Zi (Zl (il K (pv 4) (cn CT hr (Za (pv 0) (Za Zd Zc)))))) Zq) (Zi (Zl (il K (pv 3) (cn CT hr (Za (pv 0) (Za (ZJ (r:=rLen K) Yh rfl (B _ (by decide +kernel)) bt (Za (pv 3) Zc)) Zc))))))))),?_⟩;try dsimp only[cxOf,Cx.nox]
 refine ixL 2 hp rfl ⟨l,rfl,⟨_,SqL.of rws.2.choose_spec.1⟩,?_⟩;refine Z7 (J:=Itl K l) t2.length hpl (λi ys τ H'=>H'=H/\ys=((t2.map nameOf).take i).map V.str/\∃v1,τ=[v1]) ⟨rfl,rfl,none,rfl⟩ (λi ys τ H' p=>?_) (λi ys τ H' hi p=>?_) (λys τ H' p=>?_) (λi ys τ H' x H2 hi p yl=>?_) (λys τ H1 p c1 hc1=>?_)
 ·obtain⟨_,rfl,_⟩:=p;rw[lm,aL];omega
 ·obtain⟨rfl,_⟩:=p;exact rws.go hi
 ·obtain⟨rfl,_⟩:=p;exact rws.stop
 ·obtain⟨rfl,rfl,v1,rfl⟩:=p;have e0:t2[i]?=some t2[i]:=gE hi;obtain⟨rfl,a,rfl,na,ha⟩:=rws.item e0 yl;have n0:atI t2[i] 0=some (.str (nameOf t2[i])):=by
   have hn:=(hnm _ (aW hi)).1;cases e:t2[i]with
  |nil=>rw[e]at hn;cases hn
  |cons y r=>rw[e]at hn;have e':y=.str (nameOf (y::r)):=hn;rw[<-e'];exact ZL (j:=0) rfl
  refine iaT ha n0 ⟨rfl,?_,_,rfl⟩;rw[bY,ak,e0,aN];rfl
 obtain⟨rfl,rfl,v1,rfl⟩:=p;rw[show(t2.map nameOf).take t2.length=t2.map nameOf from aZ (by rw[lm];exact aj _)];refine al hb hc1 λH2 B1 S1 e1 n1=>?_;refine⟨_,rfl,zl,λl5 hl5=>?_⟩;refine al2 B1 hl5 λH3 B2 S12 e5 n5=>?_;refine⟨_,rfl,zl,λl6 hl6=>?_⟩;refine al2 B2 hl6 λH4 B3 S23 e6 n6=>?_;intro d hd;refine⟨zl,λl7 hl7=>?_⟩;have nd:=B3.ne hd;have B4:=B3.new (o:=.dK []) hd;have S34:Zh b H4 (upd H4 d (.dK [])):=(Zh.refl b H4).new' hd;have ed:upd H4 d (.dK []) d=some (.dK []):=Ze;generalize upd H4 d (.dK [])=H5 at B4 S34 ed hl7 ⊢;have n7:=B4.ne hl7;have B5:=B4.new (o:=.lst [.str z,.non,.int 7,.ref l5,.str "",.ref l6,.bl true,.ref d]) hl7;have S45:Zh b H5 (upd H5 l7 (.lst [.str z,.non,.int 7,.ref l5,.str "",.ref l6,.bl true,.ref d])):=(Zh.refl b H5).new' hl7;have e7:upd H5 l7 (.lst [.str z,.non,.int 7,.ref l5,.str "",.ref l6,.bl true,.ref d]) l7=some (.lst [.str z,.non,.int 7,.ref l5,.str "",.ref l6,.bl true,.ref d]):=Ze;generalize upd H5 l7 (.lst [.str z,.non,.int 7,.ref l5,.str "",.ref l6,.bl true,.ref d])=H6 at B5 S45 e7 ⊢;have S16:Zh b H1 H6:=(((S1.trans S12).trans S23).trans S34).trans S45;have c16:H6 c1=some (.lst ((t2.map nameOf).map V.str)):=(((S12.trans S23).trans S34).trans S45) _ _ e1 n1;have f5:H6 l5=some (.lst [.str "a"]):=((S23.trans S34).trans S45) _ _ e5 n5;have f6:H6 l6=some (.tup [.str z]):=(S34.trans S45) _ _ e6 n6;have fd:H6 d=some (.dK []):=S45 _ _ ed nd;clear S1 S12 S23 S34 S45 e1 e5 e6 ed B1 B2 B3 B4;have fl:∀{Hx:Hp}{v:V},Fl v->∃d,Dat b Hx v d/\Shw d:=λ⟨d,a,c⟩=>⟨d,λ_ _=>.of (a _),c⟩;have all:∀{Hx:Hp}{v:V},v∈[V.str z,.non,.int 7,.ref l5,.str "",.ref l6,.bl true,.ref d]->Zh b H6 Hx->∃T,ThB b Hx v T/\∃d,Dat b Hx v d/\Shw d:=λ{Hx v}hm sx=>by
  simp only[aq,aK,or_false]at hm;rcases hm with rfl|rfl|rfl|rfl|rfl|rfl|rfl|rfl
  ·exact⟨_,.str hz.short,fl (Atm.str hz.gs).fl⟩
  ·exact⟨_,.non,fl Atm.non.fl⟩
  ·exact⟨_,.int 7,fl (Atm.int (by decide)).fl⟩
  ·exact⟨_,⟨.lst (sx _ _ f5 n5),by intro e;cases e;exact n5 rfl⟩,_,λH' s'=>.of (.lst (s' _ _ (sx _ _ f5 n5) n5) (.cons (.str _) .nil)),by decide +kernel,by decide +kernel,by decide +kernel⟩
  ·exact⟨_,.str (by decide +kernel),fl (Atm.str (by decide +kernel)).fl⟩
  ·exact⟨_,⟨.tup (sx _ _ f6 n6),by intro e;cases e;exact n6 rfl⟩,_,λH' s'=>.of (.tup (s' _ _ (sx _ _ f6 n6) n6) (.cons (.str _) .nil)),(RJ (ys:=[.str z]) ⟨by show 1<=6;decide,λy hy=>by rw[bi]at hy;subst hy;exact .str hz.gs⟩).shw (by decide) (by decide)⟩
  ·exact⟨_,.bl true,fl (DB true)⟩
  ·exact⟨_,⟨.dK (sx _ _ fd nd),by intro e;cases e;exact nd rfl⟩,_,λH' s'=>.dk (s' _ _ (sx _ _ fd nd) nd),by decide +kernel,by decide +kernel,by decide +kernel⟩
 refine⟨_,rfl,zl,λc8 hc8=>?_⟩;refine al2 B5 hc8 λH7 B7 S67 e8 _=>?_;refine⟨c1,c8,_,rfl,rfl,SqL.of (S67 _ _ c16 n1),e8,_,rfl,?_⟩;refine ZE (λe=>?_) (λe=>?_)
 ·refine iteT ?_;refine⟨_,rfl,tkC B7 (λr H8 h08 h18 B8 S8=>?_)⟩;obtain⟨v,hv,hm⟩:=at_of (xs:=[V.str z,.non,.int 7,.ref l5,.str "",.ref l6,.bl true,.ref d]) h08 h18;obtain⟨T,tv,dd,td,sd⟩:=all hm (S67.trans S8);exact⟨l7,_,r,v,rfl,rfl,SqL.of (S8 _ _ (S67 _ _ e7 n7) n7),hv,k H8 v T dd B8 ((S16.trans S67).trans S8) tv td sd⟩
 have ne:0<t2.length:=by
  rcases cD t2.length with h|h
  ·have:t2=[]:=dh h;rw[this]at e;exact absurd e (by simp)
  ·exact h
 refine tkC B7 (λr5 H8 _ _ B8 S8=>⟨rfl,_,rfl,?_⟩);have S68:=S67.trans S8;refine ZE (λe=>?_) (λe=>?_)
 ·refine⟨_,rfl,tkC B8 (λr H9 h09 h19 B9 S9=>?_)⟩;obtain⟨v,hv,hm⟩:=at_of (xs:=[V.str z,.non,.int 7,.ref l5,.str "",.ref l6,.bl true,.ref d]) h09 h19;obtain⟨T,tv,dd,td,sd⟩:=all hm (S68.trans S9);exact⟨l7,_,r,v,rfl,rfl,SqL.of (S9 _ _ (S68 _ _ e7 n7) n7),hv,k H9 v T dd B9 ((S16.trans S68).trans S9) tv td sd⟩
 ·have c18:=S68 _ _ c16 n1;refine⟨_,rfl,_,rfl,_,rfl,c1,_,rfl,.inl (SqL.of c18),b,_,rfl,B8,by rw[lm,lm];omega,b6 (Nat.log2_le_self _) (by rw[lm,lm];omega),λr H9 h09 h19 B9 S9=>?_⟩;rw[lm]at h19;obtain⟨y,hy,hm⟩:=Qi (ts:=t2.map nameOf) h09 h19;obtain⟨q,hq,rfl⟩:=aw.mp hm;exact⟨c1,_,r,_,rfl,rfl,SqL.of (S9 _ _ c18 n1),hy,(let ⟨d',a',c'⟩:=(Atm.str (hnm q hq).2).fl;k H9 _ _ d' B9 ((S16.trans S68).trans S9) (.str (by have:=(hnm q hq).2.1;omega)) (λ_ _=>.of (a' _)) c')⟩
end
theorem W1{ys:List V}{i k:Nat}{v:V}(h:i≠k):at_ (ys.set i v) k=at_ ys k:=by unfold at_;rw[a9,a9,cr h]
theorem EQ{ys:List V}{i:Nat}{v:V}(h:i<ys.length):at_ (ys.set i v) i=v:=by unfold at_;rw[a9,bR h];rfl
theorem VU{z:Str}:V.str z≠.non:=by intro h;cases h
section
variable {j:Nat}{n:Int}{t1:List (List V)}{ys:List V}
theorem La{nm:Str}{r:Option (List V)}(h:∀xs,r=some xs->xs.length≠szJ j):DueR j n t1 nm r (.str "form"):=by
 refine⟨VU,λk1 kvs pp _ _=>?_⟩;cases r with
|none=>exact K9
|some xs=>
  have b:begR (gJ j) (szJ j) kvs (some xs)=.str "form":=by show begV _ _ _ _=_;unfold begV;rw[if_pos (h xs rfl)]
  rw[XG (by rw[b];exact VU),b]
theorem RZ(o:RowOk j n t1 ys){z:Str}{k1 kvs:Kv}{pp:Int}(h0:0<ys.length)(h:Z4 (gJ j) (.str z)=true)(hk:valV kvs (.inr z)≠none):dueJ j k1 n pp kvs (some (ys.set 0 (.str z)))=.str "double":=by
 have b:begR (gJ j) (szJ j) kvs (some (ys.set 0 (.str z)))=.str "double":=by show begV _ _ _ _=_;unfold begV;rw[if_neg (by rw[cy];exact λz=>z o.len),show(ys.set 0 (.str z)).getD 0 .non=.str z from EQ h0,h,if_neg (by decide),if_pos (show ZF (.str z) kvs=true from Option.isSome_iff_ne_none.mpr hk)]
 rw[XG (by rw[b];exact VU),b]
theorem Q2(o:RowOk j n t1 ys){rs:List V}{why:Str}(hl:rs.length=ys.length)(h0:at_ rs 0=at_ ys 0)(h:∀k1 pp,(j≠1->PlDict k1 t1)->whyJ j k1 n pp rs=.str why):DueR j n t1 (nameOf ys) (some rs) (.str why):=by
 refine⟨VU,λk1 kvs pp hk hv=>?_⟩;have b:begR (gJ j) (szJ j) kvs (some rs)=.non:=by show begV _ _ _ _=_;unfold begV;rw[if_neg (by rw[hl];exact λz=>z o.len),show rs.getD 0 .non=at_ ys 0 from h0,o.nm,if_neg (by decide),show at_ ys 0=.str (nameOf ys)from o.name,if_neg (by show ¬(valV kvs _).isSome=true;rw[hv];decide)]
 rw[YY b,h k1 pp hk]
end
theorem MU{k1:Kv}{n:Int}{s l g a m:V}(h:Xu k1 n s l g a m=.non):YF k1 s g=.non/\∃i,l=.int i/\K1.Zp (.int i) 0 (n-1)=true/\K1.Zp a (i+1) n=true/\K1.Zp m 0 1000=true:=by
 unfold Xu at h;by_cases e:YF k1 s g=.non
 ·rw[if_neg (λz=>z e)]at h;refine⟨e,?_⟩;cases l with
 |int i=>dsimp only at h;refine⟨i,rfl,?_⟩;cases h1:K1.Zp (.int i) 0 (n-1)<;>cases h2:K1.Zp a (i+1) n<;>cases h3:K1.Zp m 0 1000<;>simp_all
 |_=>cases h
 ·rw[if_pos e]at h;exact absurd h e
theorem SG{k1:Kv}{s g l m:V}(h:wayV k1 s g l m=.non):YF k1 s g=.non/\K1.Zp l 1 50=true/\K1.Zp m 0 1000=true:=by
 unfold wayV at h;by_cases e:YF k1 s g=.non
 ·rw[if_neg (λz=>z e)]at h;refine⟨e,?_⟩;cases h1:K1.Zp l 1 50<;>cases h2:K1.Zp m 0 1000<;>simp_all
 ·rw[if_pos e]at h;exact absurd h e
theorem Pe{k1:Kv}{n pp:Int}{p t m:V}(h:YE k1 n pp p t m=.non):ZF p k1=true/\K1.Zp t 0 n=true:=by unfold YE at h;cases h1:ZF p k1<;>cases h2:K1.Zp t 0 n<;>simp_all
theorem Nq{k1:Kv}{s g:V}(h:YF k1 s g=.non):ZF s k1=true/\ZF g k1=true/\VQ s k1=false:=by unfold YF at h;cases h1:ZF s k1<;>cases h2:ZF g k1<;>cases h3:VQ s k1<;>simp_all
theorem MS{k1:Kv}{n i:Int}{s g a m:V}(h:YF k1 s g=.non)(hl:K1.Zp (.int i) 0 (n-1)=true)(ha:K1.Zp a (i+1) n=true)(hm:K1.Zp m 0 1000=false):Xu k1 n s (.int i) g a m=.str "number":=by unfold Xu;rw[if_neg (λz=>z h)];dsimp only;rw[hl,ha,hm];simp
theorem K0{k1:Kv}{n pp:Int}{p t m:V}(h:ZF p k1=false):YE k1 n pp p t m=.str "place":=by unfold YE;rw[h];rfl
theorem V4{g:Bool}{z:Str}(h:Z4 g (.str z)=true):z.length<=1000:=by
 have h12:K1.lenB 12 (codes z)=true\/K1.lenB 8 (codes z)=true:=by
  cases g
  ·right;have h':K1.JE 8 (K1.codes K1.tNAME) (codes z)=true:=h;unfold K1.JE K1.YR at h';exact(cQ.mp (cQ.mp h').1).1
  ·left;have h':K1.JE 12 (K1.codes K1.tGROUP) (codes z)=true:=h;unfold K1.JE K1.YR at h';exact(cQ.mp (cQ.mp h').1).1
 unfold K1.lenB at h12;rw[ZI]at h12;simp only[br,decide_eq_true_eq]at h12;omega
theorem Nr{ps:Pl}{s g:Str}(h:Ends ps s g){k1:Kv}(hk:Vu k1 (ps.map Zw)):YF k1 (.str s) (.str g)=.non:=by obtain⟨⟨i,hi⟩,⟨r,hr⟩,ne⟩:=h;have e1:valV k1 (.inr s)=some (.int i):=hk _ (aw.mpr ⟨_,hi,rfl⟩);have e2:valV k1 (.inr g)=some (Yn r):=hk _ (aw.mpr ⟨_,hr,rfl⟩);unfold YF ZF VQ;simp only[e1,e2,Option.isSome_some,Bool.not_true,Bool.or_false,bG,if_false];rw[if_neg (by simp),if_neg (by intro z;injection z with z;exact ne z.symm)]
theorem YL(i:Int):Flat (.int i):=.inr (.inl ⟨i,rfl⟩)
theorem YT{z:Str}(h:z.length<=1000):Flat (.str z):=.inr (.inr ⟨z,rfl,h⟩)
section
variable {n:Int}{ps:Pl}
theorem Dw{p:Str×Option Int}{t1:List (List V)}(hn:Z4 false (.str p.1)=true)(hr:∀i,p.2=some i->0<=i/\i<=1000):RowOk 1 n t1 (Zw p):=by
 refine⟨rfl,hn,λk1 _ pp _=>?_,λz=>(by cases z),λy hy=>?_⟩
 ·show Yi (Yn p.2)=.non;unfold Yi;rw[if_pos];cases e:p.2 with
 |none=>rfl
 |some i=>have:=hr i e;simp[Yn,K1.Zp,this.1,this.2]
 ·simp only[Zw,aq,aK,or_false]at hy;rcases hy with rfl|rfl
  ·exact YT (V4 hn)
  ·cases p.2 with
  |none=>exact .inl rfl
  |some i=>exact YL i
theorem Du(gp:∀p∈ps,p.1.length<=1000){r:Rd}(g:GoodRd n ps r)(hn:Z4 false (.str r.nm)=true):RowOk 2 n (ps.map Zw) (Y0 r):=by
 refine⟨rfl,hn,λk1 hk pp _=>?_,λz=>(by cases z),λy hy=>?_⟩
 ·show Xu k1 n (.str r.st) (.int r.lv) (.str r.gl) (.int r.cm) (.int r.se)=.non;unfold Xu;rw[Nr g.ends (hk (by decide)),if_neg (λz=>z rfl)];dsimp only;rw[Z9 g.lv0 g.lv1,Z9 g.cm0 g.cm1,Z9 g.se0 g.se1];rfl
 ·obtain⟨⟨i,hi⟩,⟨x,hx⟩,_⟩:=g.ends;simp only[Y0,aq,aK,or_false]at hy;rcases hy with rfl|rfl|rfl|rfl|rfl|rfl
  ·exact YT (V4 hn)
  ·exact YT (gp _ hi)
  ·exact YL _
  ·exact YT (gp _ hx)
  ·exact YL _
  ·exact YL _
theorem EU(gp:∀p∈ps,p.1.length<=1000){r:Wy}(g:GoodWy ps r)(hn:Z4 false (.str r.nm)=true):RowOk 3 n (ps.map Zw) (Uc r):=by
 refine⟨rfl,hn,λk1 hk pp _=>?_,λz=>(by cases z),λy hy=>?_⟩
 ·show wayV k1 (.str r.st) (.str r.gl) (.int r.lo) (.int r.wi)=.non;unfold wayV;rw[Nr g.ends (hk (by decide)),if_neg (λz=>z rfl),Z9 g.lo0 g.lo1,Z9 g.wi0 g.wi1];rfl
 ·obtain⟨⟨i,hi⟩,⟨x,hx⟩,_⟩:=g.ends;simp only[Uc,aq,aK,or_false]at hy;rcases hy with rfl|rfl|rfl|rfl|rfl
  ·exact YT (V4 hn)
  ·exact YT (gp _ hi)
  ·exact YT (gp _ hx)
  ·exact YL _
  ·exact YL _
theorem Fu{t1:List (List V)}{r:Gr}{v:V}(hp:∃p∈t1,nameOf p=r.pl)(pl:r.pl.length<=1000)(t0:0<=r.tu)(t1':r.tu<=n)(m0:0<=r.ma)(m1:r.ma<=300)(hn:Z4 true (.str r.nm)=true):RowOk 4 n t1 (grRow r):=by
 refine⟨rfl,hn,λk1 hk pp hpp=>?_,λ_=>m0,λy hy=>?_⟩
 ·show YE k1 n pp (.str r.pl) (.int r.tu) (.int r.ma)=.non;obtain⟨p,hp,e⟩:=hp;have e1:=hk (by decide) p hp;rw[e]at e1;unfold YE;rw[show ZF (.str r.pl) k1=true from by show(valV k1 (.inr r.pl)).isSome=true;rw[e1];rfl,Z9 t0 t1'];dsimp only;rw[Z9 m0 m1];have:=hpp rfl;have em:ZQ (grRow r)=r.ma:=rfl;rw[em]at this;simp only[Bool.not_true,bG,if_false];rw[if_neg (by omega)]
 ·simp only[grRow,aq,aK,or_false]at hy;rcases hy with rfl|rfl|rfl|rfl
  ·exact YT (V4 hn)
  ·exact YT pl
  ·exact YL _
  ·exact YL _
end
theorem Ni{T:Tb}(o:OkTb T){j:Nat}(hj:isJ j){pre post:List (List V)}{r:Option (List V)}{xs:List V}{why:V}(e:T.part j=pre++post)(hx:xs.length=pre.length+(1+post.length))(hl:xs.length<=J1 j)(hw:why≠.non)(hd:∀k1 kvs,(j≠1->PlDict k1 T.t1)->(∀z,z∉pre.map nameOf->valV kvs (.inr z)=none)->(∀ys∈pre,valV kvs (.inr (nameOf ys))≠none)->dueJ j k1 T.n (pre.map ZQ).sum kvs r=why):∀k1,(j≠1->PlDict k1 T.t1)->ZP (J1 j) (goJ j k1 T.n) (some (xs,pre.map some++r::post.map some))=.inl (.int pre.length,why):=λk1 hk=>by
 obtain⟨_,nd,row,sum⟩:=o.part j hj;rw[e]at nd row sum;refine QK hj (λh=>(hk h).has) (by rw[aN]at nd;exact(dy.mp nd).1) (λq hq=>row q (bg _ hq)) (λh4=>?_) (by rw[lm];exact hx) hl hw (λkvs h1 h2=>hd k1 kvs hk h1 h2);have:=sum h4;rw[aN,List.sum_append]at this;have:=Rt (l:=post.map ZQ) λx hx=>by obtain⟨q,hq,rfl⟩:=aw.mp hx;exact(row q (aP _ hq)).ma h4
 omega
theorem Pd{n:Int}{ps:Pl}{gs:List Gr}{bs:List Str}(sh:∀p∈ps,p.1.length<=1000)(nd:bs.Nodup)(nm:∀t∈bs,Nm t)(lb:bs.length<=12)(len:gs.length=bs.length)(g:∀(i:Nat)b r,bs[i]?=some b->gs[i]?=some r->GoodGr n ps b r):Xf 4 n (ps.map Zw) (gs.map grRow)/\((gs.map grRow).map ZQ).sum<=60/\∀z∈(gs.map grRow).map nameOf,∃b∈bs,∃s∈sufs,z=b++s:=by
 have grAt:∀r∈gs,∃b,b∈bs/\GoodGr n ps b r:=λr hr=>by
  obtain⟨i,hi⟩:=aY.mp hr;have:i<bs.length:=by rw[<-len];exact(ai.mp hi).1
  exact⟨bs[i],aW this,g i _ r (gE this) hi⟩
 have e4:(gs.map grRow).map nameOf=gs.map (·.nm):=by rw[bZ];rfl
 have sle:∀rs:List Gr,(∀r∈rs,r.ma<=5)->((rs.map grRow).map ZQ).sum<=5*rs.length:=λrs h=>by
  induction rs with
 |nil=>simp
 |cons r rs ih=>have h1:=h r ao;have h2:=ih λq hq=>h q (am _ hq);have em:ZQ (grRow r)=r.ma:=rfl;rw[aQ,aQ,List.sum_cons,em,bh];omega
 have sm:((gs.map grRow).map ZQ).sum<=60:=by
  have:=sle gs λr hr=>let ⟨b,_,q⟩:=grAt r hr;q.ma1
  omega
 refine⟨⟨by rw[lm];show gs.length<=300;omega,?_,λys hy=>?_,λ_=>by omega⟩,sm,λz hz=>?_⟩
 ·rw[e4];have:∀(i:Nat)r b,gs[i]?=some r->bs[i]?=some b->(codes r.nm).takeWhile (λc=>decide (c∈LET))=codes b:=λi r b h1 h2=>by obtain⟨s,hs,e⟩:=(g i b r h2 h1).nm;rw[e];exact NX (nm b (aG h2)) hs
  rw[List.nodup_iff_pairwise_ne,List.pairwise_iff_getElem];intro i j hi hj hij e;simp only[bA]at hi hj;simp only[List.getElem_map]at e;have b1:=this i _ _ (gE hi) (gE (by rw[<-len];exact hi));have b2:=this j _ _ (gE hj) (gE (by rw[<-len];exact hj));rw[e]at b1;have:=GO (b1.symm.trans b2);exact absurd ((List.getElem_inj nd).mp this) (aE hij)
 ·obtain⟨r,hr,rfl⟩:=aw.mp hy;obtain⟨b,hb,q⟩:=grAt r hr;obtain⟨s,hs,e⟩:=q.nm;obtain⟨x,hx⟩:=q.pl;exact Fu (v:=.non) ⟨_,aw.mpr ⟨_,hx,rfl⟩,rfl⟩ (sh _ hx) q.tu0 q.tu1 q.ma0 (by have:=q.ma1;omega) (by rw[e];exact ED (nm b hb) hs)
 ·rw[e4]at hz;obtain⟨r,hr,rfl⟩:=aw.mp hz;obtain⟨b,hb,q⟩:=grAt r hr;obtain⟨s,hs,e⟩:=q.nm;exact⟨b,hb,s,hs,e⟩
structure LInv(T:Tb)(ps:Pl)(s:Str):Prop where
 ok:OkTb T
 t1:T.t1=ps.map Zw
 pl:GoodPl ps
 len:T.t2.length<=79
 nm:Nm s
 s:s∉T.t2.map nameOf
noncomputable def tbOf(W:Wd):Tb:=⟨W.n,W.ps.map Zw,W.rs.map Y0,W.ws.map Uc,W.gs.map grRow⟩
theorem WorldAt.tb{b:ae}{H:Hp}{p:ae}{W:Wd}{l1 l2 l3 l4:ae}(h:WorldAt b H p W l1 l2 l3 l4):TbAt b H p (tbOf W) l1 l2 l3 l4:=⟨h.ne,h.at_,h.pl,h.rd,h.wy,h.gr⟩
theorem drawn{W:Wd}{bs:List Str}{s0 s1 s2 s3:Str}(g:GoodW W bs)(st:Strange W bs s0 s1 s2 s3):LInv (tbOf W) W.ps s1:=by
 have sh:∀p∈W.ps,p.1.length<=1000:=λp hp=>(g.pl.nm p hp).short;have c1:=g.pl.hi;have c2:=st.r.len;have c3:=st.w.len;rw[lm]at c2 c3;have e2:(W.rs.map Y0).map nameOf=W.rs.map (·.nm):=by rw[bZ];rfl
 have e3:(W.ws.map Uc).map nameOf=W.ws.map (·.nm):=by rw[bZ];rfl
 have e1:(W.ps.map Zw).map nameOf=W.ps.map (·.1):=by rw[bZ];rfl
 refine⟨⟨g.n0,g.n1,λj hj=>?_⟩,rfl,g.pl,by show(W.rs.map Y0).length<=79;rw[lm];omega,st.r.snm,by show _∉(W.rs.map Y0).map nameOf;rw[e2];exact st.r.s⟩;rcases hj with rfl|rfl|rfl|rfl
 ·refine⟨by show(W.ps.map Zw).length<=14;rw[lm];omega,by show((W.ps.map Zw).map nameOf).Nodup;rw[e1];exact g.pl.nd,λys hy=>?_,λz=>by cases z⟩;obtain⟨p,hp,rfl⟩:=aw.mp hy;exact Dw (QQ (g.pl.nm p hp)) (g.pl.room p hp)
 ·refine⟨by show(W.rs.map Y0).length<=80;rw[lm];omega,by show((W.rs.map Y0).map nameOf).Nodup;rw[e2];exact st.r.nd,λys hy=>?_,λz=>by cases z⟩;obtain⟨r,hr,rfl⟩:=aw.mp hy;exact Du sh (g.rd r hr) (QQ (st.r.nm _ (aw.mpr ⟨r,hr,rfl⟩)))
 ·refine⟨by show(W.ws.map Uc).length<=40;rw[lm];omega,by show((W.ws.map Uc).map nameOf).Nodup;rw[e3];exact st.w.nd,λys hy=>?_,λz=>by cases z⟩;obtain⟨r,hr,rfl⟩:=aw.mp hy;exact EU sh (g.wy r hr) (QQ (st.w.nm _ (aw.mpr ⟨r,hr,rfl⟩)))
 ·exact(Pd sh st.g.nd st.g.nm st.g.len g.len g.gr).1
theorem Tc{T:Tb}(o:OkTb T){t:List (List V)}(h:Xf 2 T.n T.t1 t):OkTb {T with t2:=t}:=⟨o.n0,o.n1,λj hj=>by
 rcases hj with rfl|rfl|rfl|rfl
 ·exact o.part 1 (.inl rfl)
 ·exact h
 ·exact o.part 3 (.inr (.inr (.inl rfl)))
 ·exact o.part 4 (.inr (.inr (.inr rfl)))⟩
theorem Fi{T:Tb}(o:OkTb T){t:List (List V)}(h:Xf 4 T.n T.t1 t):OkTb {T with t4:=t}:=⟨o.n0,o.n1,λj hj=>by
 rcases hj with rfl|rfl|rfl|rfl
 ·exact o.part 1 (.inl rfl)
 ·exact o.part 2 (.inr (.inl rfl))
 ·exact o.part 3 (.inr (.inr (.inl rfl)))
 ·exact h⟩
theorem Wl{n:Int}{t1 t:List (List V)}{y:List V}(h:Xf 2 n t1 t)(r:RowOk 2 n t1 y)(hn:nameOf y∉t.map nameOf)(hl:t.length+1<=80):Xf 2 n t1 (t++[y]):=by
 obtain⟨a,nd,row,_⟩:=h;refine⟨by simp;exact hl,?_,λq hq=>?_,λz=>by cases z⟩
 ·rw[aN,aQ,List.map_nil,dy];exact⟨nd,by simp,λx hx y' hy e=>by rw[bi]at hy;exact hn (by rw[<-hy,<-e];exact hx)⟩
 ·rcases bp.mp hq with h|h
  ·exact row q h
  ·rw[bi]at h;subst h;exact r
theorem Wb{t:List (List V)}{k:Nat}{y z:List V}(hy:t[k]?=some y)(hn:nameOf z=nameOf y):(t.set k z).map nameOf=t.map nameOf:=by
 rw[List.map_set,hn];have hk:=(ai.mp hy);refine List.ext_getElem? λi=>?_;by_cases e:k=i
 ·subst e;rw[bR (by rw[lm];exact hk.1),ak,hy];rfl
 ·rw[cr e]
theorem QJ{n:Int}{t1 t:List (List V)}{y z:List V}{k:Nat}(h:Xf 2 n t1 t)(hy:t[k]?=some y)(r:RowOk 2 n t1 z)(hn:nameOf z=nameOf y):Xf 2 n t1 (t.set k z):=by
 obtain⟨a,nd,row,_⟩:=h;refine⟨by rw[cy];exact a,by rw[Wb hy hn];exact nd,λq hq=>?_,λz=>by cases z⟩;rcases List.mem_or_eq_of_mem_set hq with h|h
 ·exact row q h
 ·subst h;exact r
theorem KC{n:Int}{t1 t t':List (List V)}(h:Xf 2 n t1 t)(s:t'.Sublist t):Xf 2 n t1 t':=by obtain⟨a,nd,row,_⟩:=h;exact⟨ax s.length_le a,(s.map nameOf).nodup nd,λq hq=>row q (s.subset hq),λz=>by cases z⟩
theorem RO{t:List (List V)}(nd:(t.map nameOf).Nodup){i k:Nat}{x y:List V}(hi:t[i]?=some x)(hk:t[k]?=some y)(e:nameOf x=nameOf y):i=k:=by
 have hi':i<(t.map nameOf).length:=by rw[lm];exact(ai.mp hi).1
 refine(List.getElem?_inj hi' nd).mp ?_;rw[ak,ak,hi,hk,cu,cu,e]
theorem Lv{t:List (List V)}(nd:(t.map nameOf).Nodup){k:Nat}{y z:List V}(hk:t[k]?=some y):asR (nameOf y) z t=t.set k z:=by
 refine List.ext_getElem? λi=>?_;unfold asR;rw[ak];by_cases e:k=i
 ·subst e;rw[bR (ai.mp hk).1,hk,cu,if_pos rfl]
 ·rw[cr e];cases hi:t[i]? with
 |none=>rfl
 |some x=>rw[cu,if_neg (λq=>e (RO nd hi hk q).symm)]
theorem KD{nm:Str}:∀{t:List (List V)},nm∉t.map nameOf->outR nm t=t
|[],_=>rfl
|y::t,h=>by rw[aQ,aq,not_or]at h;unfold outR;rw[List.filter_cons_of_pos (by simpa using λe=>h.1 e.symm)];exact congrArg _ (KD h.2)
theorem S0:∀{t:List (List V)}(nd:(t.map nameOf).Nodup){k:Nat}{y:List V}(hk:t[k]?=some y),outR (nameOf y) t=t.take k++t.drop (k+1)
|[],_,_,_,h=>by simp at h
|x::t,nd,0,y,h=>by simp at h;subst h;rw[aQ,bQ]at nd;unfold outR;rw[List.filter_cons_of_neg (by simp)];exact KD nd.1
|x::t,nd,k+1,y,h=>by
  have h':t[k]?=some y:=by simpa using h
  rw[aQ,bQ]at nd;have ne:nameOf x≠nameOf y:=λe=>nd.1 (e▸aw.mpr ⟨y,aG h',rfl⟩);unfold outR;rw[List.filter_cons_of_pos (by simpa using ne),List.take_succ_cons,List.drop_succ_cons,List.cons_append];exact congrArg _ (S0 nd.2 h')
theorem KL{z:Str}:∀{t:List (List V)}{i:Nat},(oneV z i t=.non/\z∉t.map nameOf)\/∃k y,oneV z i t=.int ((i+k:Nat):Int)/\t[k]?=some y/\nameOf y=z
|[],i=>.inl ⟨rfl,by simp⟩
|y::t,i=>by
  by_cases e:nameOf y=z
  ·exact .inr ⟨0,y,by show(if _ then _ else _)=_;rw[if_pos e];rfl,rfl,e⟩
  ·have e1:oneV z i (y::t)=oneV z (i+1) t:=by show(if _ then _ else _)=_;rw[if_neg e]
   rw[e1];rcases KL (z:=z) (t:=t) (i:=i+1)with⟨a,b⟩|⟨k,y',a,b,c⟩
   ·exact .inl ⟨a,by rw[aQ,aq,not_or];exact⟨λq=>e q.symm,b⟩⟩
   ·exact .inr ⟨k+1,y',by rw[a];congr 2;omega,by simpa using b,c⟩
theorem RS{v:V}{t:List (List V)}:(Tl v t=.non/\∀z,v=.str z->z∉t.map nameOf)\/∃(k:Nat)(y:List V),Tl v t=.int k/\t[k]?=some y/\v=.str (nameOf y):=by
 cases v with
|str z=>
  rcases KL (z:=z) (t:=t) (i:=0)with⟨a,b⟩|⟨k,y,a,b,c⟩
  ·exact .inl ⟨a,λz' e=>by cases e;exact b⟩
  ·exact .inr ⟨k,y,by show oneV z 0 t=_;rw[a,Nat.zero_add],b,by rw[c]⟩
|_=>exact .inl ⟨rfl,λz e=>by cases e⟩
theorem Mo{T:Tb}(o:OkTb T):∃k1,PlDict k1 T.t1:=by obtain⟨k1,_,d,_⟩:=Y2 (j:=1) (k1:=[]) (n:=T.n) (t1:=T.t1) (.inl rfl) (λh=>absurd rfl h) (o.part 1 (.inl rfl)) (xs:=T.t1.map λ_=>V.non) (by rw[lm];rfl);exact⟨k1,d rfl⟩
theorem MM:(∀c∈K1.codes K1.tNAME,c<0x110000)/\∀c∈K1.codes K1.tGROUP,c<0x110000:=by decide +kernel
theorem LX{g:Bool}{z:Str}(h:Z4 g (.str z)=true):GS z:=by
 cases g
 ·have h':K1.JE 8 (K1.codes K1.tNAME) (codes z)=true:=h;unfold K1.JE K1.YR K1.lenB at h';simp only[br,decide_eq_true_eq,cA]at h';exact⟨by rw[<-ZI];omega,λc hc=>MM.1 c (h'.1.2 c hc)⟩
 ·have h':K1.JE 12 (K1.codes K1.tGROUP) (codes z)=true:=h;unfold K1.JE K1.YR K1.lenB at h';simp only[br,decide_eq_true_eq,cA]at h';exact⟨by rw[<-ZI];omega,λc hc=>MM.2 c (h'.1.2 c hc)⟩
theorem within_int{v:V}{lo hi:Int}(h:K1.Zp v lo hi=true):∃i,v=.int i/\lo<=i/\i<=hi:=by
 cases v with
|int i=>have h':(decide (lo<=i)&&decide (i<=hi))=true:=h;simp only[br,decide_eq_true_eq]at h';exact⟨i,rfl,h'.1,h'.2⟩
|_=>cases h
theorem VS{v:V}{lo hi:Int}(h:K1.Zp v lo hi=true)(h0:0<=lo)(h1:hi<=1000):Atm v:=by obtain⟨i,rfl,a,b⟩:=within_int h;exact .int (by omega)
theorem G0{k1:Kv}{n pp:Int}{p t m:V}(h:YE k1 n pp p t m=.non):ZF p k1=true/\K1.Zp t 0 n=true/\∃i,m=.int i/\0<=i/\i<=300:=by
 obtain⟨h1,h2⟩:=Pe h;refine⟨h1,h2,?_⟩;unfold YE at h;rw[h1,h2]at h;cases m with
|int i=>
  cases hw:K1.Zp (.int i) 0 300 with
 |true=>exact within_int hw
 |false=>dsimp only at h;rw[hw]at h;cases h
|_=>cases h
theorem Nd{k1:Kv}{t1:List (List V)}(hk:PlDict k1 t1){x:V}(h:ZF x k1=true):∃p∈t1,x=.str (nameOf p):=by
 obtain⟨z,v,rfl,hv⟩:=Xd h;by_cases hz:z∈t1.map nameOf
 ·obtain⟨p,hp,e⟩:=aw.mp hz;exact⟨p,hp,by rw[e]⟩
 ·rw[hk.no z hz]at hv;cases hv
section
variable {T:Tb}(o:OkTb T)
include o
theorem XI{j:Nat}(hj:isJ j){ys:List V}(h:ys∈T.part j):RowOk j T.n T.t1 ys:=(o.part j hj).2.row ys h
theorem JD{j:Nat}(hj:isJ j){ys:List V}(h:ys∈T.part j):at_ ys 0=.str (nameOf ys)/\GS (nameOf ys):=by have r:=XI o hj h;refine⟨r.name,?_⟩;have:=r.nm;rw[show at_ ys 0=.str (nameOf ys)from r.name]at this;exact LX this
theorem GB{k1:Kv}(hk:PlDict k1 T.t1){x:V}(h:ZF x k1=true):Atm x:=by obtain⟨p,hp,rfl⟩:=Nd hk h;exact .str (JD o (j:=1) (.inl rfl) hp).2
theorem SY{ys:List V}(h:ys∈T.t1):∃p:Str×Option Int,ys=Zw p/\GS p.1/\∀i,p.2=some i->0<=i/\i<=1000:=by
 have r:=XI o (j:=1) (.inl rfl) h;obtain⟨e0,g⟩:=JD o (j:=1) (.inl rfl) h;have hw:Yi (at_ ys 1)=.non:=r.why [] (λz=>absurd rfl z) 0 (λz=>by cases z);obtain⟨a,c,rfl⟩:=len2 r.len;have ea:a=.str (nameOf [a,c]):=e0;have hw:Yi c=.non:=hw;unfold Yi at hw;by_cases e:c=.non
 ·exact⟨(nameOf [a,c],none),by rw[e];rw[e]at ea;rw[<-ea.symm];rfl,g,λi q=>by cases q⟩
 ·have hb:K1.Zp c 0 1000=true:=by
   cases hb:K1.Zp c 0 1000 with
  |true=>rfl
  |false=>rw[hb,decide_eq_false e,Bool.or_false,if_neg (by decide)]at hw;cases hw
  obtain⟨i,rfl,h0,h1⟩:=within_int hb;exact⟨(nameOf [a,.int i],some i),by rw[<-ea.symm];rfl,g,λj q=>by cases q;exact⟨h0,h1⟩⟩
theorem Fj:∃ps:Pl,T.t1=ps.map Zw/\ps.length<=14:=by
 have key:∀t:List (List V),(∀ys∈t,∃p:Str×Option Int,ys=Zw p)->∃ps:Pl,t=ps.map Zw:=λt=>by
  induction t with
 |nil=>exact λ_=>⟨[],rfl⟩
 |cons y t ih=>intro h;obtain⟨p,rfl⟩:=h y ao;obtain⟨ps,rfl⟩:=ih λq hq=>h q (am _ hq);exact⟨p::ps,rfl⟩
 obtain⟨ps,e⟩:=key T.t1 λys h=>let ⟨p,e,_⟩:=SY o h;⟨p,e⟩
 have:=(o.part 1 (.inl rfl)).1;have h1:T.t1.length<=14:=this;rw[e,lm]at h1;exact⟨ps,e,h1⟩
theorem N6{ys:List V}(h:ys∈T.t2){k1:Kv}(hk:Vu k1 T.t1):∃z s lv g cm se,ys=[.str z,s,.int lv,g,.int cm,.int se]/\nameOf ys=z/\YF k1 s g=.non/\0<=lv/\lv<=T.n-1/\lv+1<=cm/\cm<=T.n/\0<=se/\se<=1000:=by have r:=XI o (j:=2) (.inr (.inl rfl)) h;have hw:Vg k1 T.n ys=.non:=r.why k1 (λ_=>hk) 0 (λz=>by cases z);obtain⟨a,b,c,d,e,f,rfl⟩:=six r.len;have ea:a=.str (nameOf [a,b,c,d,e,f]):=r.name;have hw:Xu k1 T.n b c d e f=.non:=hw;obtain⟨he,i,rfl,h1,h2,h3⟩:=MU hw;obtain⟨i',q,a1,a2⟩:=within_int h1;cases q;obtain⟨cm,rfl,b1,b2⟩:=within_int h2;obtain⟨se,rfl,c1,c2⟩:=within_int h3;exact⟨_,b,i,d,cm,se,congrArg (λq=>q::[b,.int i,d,.int cm,.int se]) ea,rfl,he,a1,a2,b1,b2,c1,c2⟩
theorem Q1{k1:Kv}(hk:PlDict k1 T.t1){s g:V}(h:YF k1 s g=.non):Atm s/\Atm g:=⟨GB o hk (Nq h).1,GB o hk (Nq h).2.1⟩
theorem Vf{j:Nat}(hj:isJ j){ys:List V}(h:ys∈T.part j):RowG ys:=by
 obtain⟨k1,hk⟩:=Mo o;have n1:=o.n1;have r:=XI o hj h;obtain⟨e0,g⟩:=JD o hj h;have at0:Atm (at_ ys 0):=by rw[e0];exact .str g
 have hw:=r.why k1 (λ_=>hk.has);rcases hj with rfl|rfl|rfl|rfl
 ·obtain⟨p,rfl,g,rm⟩:=SY o h;refine⟨by show 2<=6;decide,λy hy=>?_⟩;simp only[Zw,aq,aK,or_false]at hy;rcases hy with rfl|rfl
  ·exact .str g
  ·cases e:p.2 with
  |none=>exact .non
  |some i=>have:=rm i e;exact .int (by omega)
 ·obtain⟨z,s,lv,g',cm,se,rfl,_,he,a1,a2,b1,b2,c1,c2⟩:=N6 o h hk.has;obtain⟨q1,q2⟩:=Q1 o hk he;refine⟨by show 6<=6;decide,λy hy=>?_⟩;simp only[aq,aK,or_false]at hy;rcases hy with rfl|rfl|rfl|rfl|rfl|rfl
  ·exact at0
  ·exact q1
  ·exact .int (by omega)
  ·exact q2
  ·exact .int (by omega)
  ·exact .int (by omega)
 ·obtain⟨a,b,c,d,e,rfl⟩:=len5 r.len;have hw':wayV k1 b c d e=.non:=hw 0 (λz=>by cases z);obtain⟨he,h1,h2⟩:=SG hw';obtain⟨q1,q2⟩:=Q1 o hk he;refine⟨by show 5<=6;decide,λy hy=>?_⟩;simp only[aq,aK,or_false]at hy;rcases hy with rfl|rfl|rfl|rfl|rfl
  ·exact at0
  ·exact q1
  ·exact q2
  ·exact VS h1 (by decide) (by decide)
  ·exact VS h2 (by decide) (by decide)
 ·obtain⟨a,b,c,d,rfl⟩:=len4 r.len;obtain⟨h1,h2,i,rfl,h0,h3⟩:=G0 (hw (300-ZQ [a,b,c,d]) (λ_=>by omega):YE k1 T.n _ b c d=.non);refine⟨by show 4<=6;decide,λy hy=>?_⟩;simp only[aq,aK,or_false]at hy;rcases hy with rfl|rfl|rfl|rfl
  ·exact at0
  ·exact GB o hk h1
  ·exact VS h2 (by decide) (by omega)
  ·exact .int (by omega)
theorem LU:TabG T.n T.t1 T.t2 T.t3 T.t4:=⟨⟨o.n0,o.n1⟩,(o.part 1 (.inl rfl)).1,(o.part 2 (.inr (.inl rfl))).1,(o.part 3 (.inr (.inr (.inl rfl)))).1,(o.part 4 (.inr (.inr (.inr rfl)))).1,λ_ h=>Vf o (.inl rfl) h,λ_ h=>Vf o (.inr (.inl rfl)) h,λ_ h=>Vf o (.inr (.inr (.inl rfl))) h,λ_ h=>Vf o (.inr (.inr (.inr rfl))) h⟩
theorem Td{ys:List V}(h:ys∈T.t2):Layd ys:=⟨(XI o (j:=2) (.inr (.inl rfl)) h).flat,Mg (Vf o (j:=2) (.inr (.inl rfl)) h)⟩
end
section
variable {bits:Int}{ps:Pl}
theorem Lq:(ZH bits ps).map (·.1)=ps.map (·.1):=by unfold ZH;rw[bZ];refine List.map_congr_left λp _=>?_;show(if _ then _ else _:Str×Option Int).1=_;split<;>rfl
theorem Lr{q:Str×Option Int}(h:q∈ZH bits ps):∃p∈ps,q.1=p.1/\(q.2=p.2\/q.2=some 0):=by
 unfold ZH at h;obtain⟨p,hp,rfl⟩:=aw.mp h;refine⟨p,hp,?_⟩;split
 ·exact⟨rfl,.inr rfl⟩
 ·exact⟨rfl,.inl rfl⟩
theorem DD{p:Str×Option Int}(h:p∈ps):∃r,(p.1,r)∈ZH bits ps/\(p.2≠none->r≠none):=by
 by_cases e:p.1∈ZS bits 0 (homesOf ps)
 ·exact⟨some 0,aw.mpr ⟨p,h,by rw[if_pos e]⟩,λ_ z=>by cases z⟩
 ·exact⟨p.2,aw.mpr ⟨p,h,by rw[if_neg e]⟩,λz=>z⟩
theorem Nf{k1 k1':Kv}(hk:PlDict k1 (ps.map Zw))(hk':Vu k1' ((ZH bits ps).map Zw)){x:V}(h:ZF x k1=true):ZF x k1'=true/\(VQ x k1=false->VQ x k1'=false):=by
 obtain⟨q,hq,rfl⟩:=Nd hk h;obtain⟨p,hp,rfl⟩:=aw.mp hq;obtain⟨r,hr,hn⟩:=DD (bits:=bits) hp;have e1:valV k1 (.inr p.1)=some (Yn p.2):=hk.has _ (aw.mpr ⟨p,hp,rfl⟩);have e2:valV k1' (.inr p.1)=some (Yn r):=hk' _ (aw.mpr ⟨_,hr,rfl⟩);refine⟨by show(valV k1' (.inr p.1)).isSome=true;rw[e2];rfl,λhh=>?_⟩;have hh':decide (valV k1 (.inr p.1)=some .non)=false:=hh;show decide (valV k1' (.inr p.1)=some .non)=false;rw[e2];rw[e1]at hh';have np:p.2≠none:=λz=>by rw[z]at hh';exact absurd hh' (by decide)
 have nr:=hn np;cases r with
|none=>exact absurd rfl nr
|some i=>rfl
theorem TC{k1 k1':Kv}(hk:PlDict k1 (ps.map Zw))(hk':Vu k1' ((ZH bits ps).map Zw)){s g:V}(h:YF k1 s g=.non):YF k1' s g=.non:=by obtain⟨a,b,c⟩:=Nq h;obtain⟨a',c'⟩:=Nf hk hk' a;obtain⟨b',_⟩:=Nf hk hk' b;unfold YF at h ⊢;rw[a,b,c]at h;rw[a',b',c' c];exact h
theorem DV{j:Nat}{n:Int}(hj:isJ j)(h1:j≠1){k1:Kv}(hk:PlDict k1 (ps.map Zw)){ys:List V}(h:RowOk j n (ps.map Zw) ys):RowOk j n ((ZH bits ps).map Zw) ys:=by
 refine⟨h.len,h.nm,λk1' hk' pp hp=>?_,h.ma,h.flat⟩;have hw:=h.why k1 (λ_=>hk.has) pp hp;have hp':=hk' h1;rcases hj with rfl|rfl|rfl|rfl
 ·exact absurd rfl h1
 ·have hw:Xu k1 n (at_ ys 1) (at_ ys 2) (at_ ys 3) (at_ ys 4) (at_ ys 5)=.non:=hw;show Xu k1' n (at_ ys 1) (at_ ys 2) (at_ ys 3) (at_ ys 4) (at_ ys 5)=.non;have he:=(MU hw).1;unfold Xu at hw ⊢;rw[he]at hw;rw[TC hk hp' he];exact hw
 ·have hw:wayV k1 (at_ ys 1) (at_ ys 2) (at_ ys 3) (at_ ys 4)=.non:=hw;show wayV k1' (at_ ys 1) (at_ ys 2) (at_ ys 3) (at_ ys 4)=.non;have he:=(SG hw).1;unfold wayV at hw ⊢;rw[he]at hw;rw[TC hk hp' he];exact hw
 ·have hw:YE k1 n pp (at_ ys 1) (at_ ys 2) (at_ ys 3)=.non:=hw;show YE k1' n pp (at_ ys 1) (at_ ys 2) (at_ ys 3)=.non;have he:=(Pe hw).1;unfold YE at hw ⊢;rw[he]at hw;rw[(Nf hk hp' he).1];exact hw
theorem L6(g:GoodPl ps):GoodPl (ZH bits ps):=by
 have el:(ZH bits ps).length=ps.length:=by unfold ZH;rw[lm]
 refine⟨by rw[el];exact g.lo,by rw[el];exact g.hi,by rw[Lq];exact g.nd,λq hq=>?_,λq hq i e=>?_,?_⟩
 ·obtain⟨p,hp,e,_⟩:=Lr hq;rw[e];exact g.nm p hp
 ·obtain⟨p,hp,_,e2⟩:=Lr hq;rcases e2 with e2|e2
  ·exact g.room p hp i (by rw[<-e2];exact e)
  ·rw[e2]at e;cases e;exact⟨by decide,by decide⟩
 ·obtain⟨p,hp,i,e⟩:=g.one;obtain⟨r,hr,hn⟩:=DD (bits:=bits) hp;cases r with
 |none=>exact absurd rfl (hn (by rw[e];intro z;cases z))
 |some j=>exact⟨_,hr,j,rfl⟩
end
theorem LInv.homes{T:Tb}{ps:Pl}{s:Str}(h:LInv T ps s)(bits:Int):LInv {T with t1:=(ZH bits ps).map Zw} (ZH bits ps) s:=by
 obtain⟨k1,hk⟩:=Mo h.ok;have g:=L6 (bits:=bits) h.pl;rw[h.t1]at hk;have up:∀j,isJ j->j≠1->Xf j T.n T.t1 (T.part j)->Xf j T.n ((ZH bits ps).map Zw) (T.part j):=λj hj n1⟨a,b,c,d⟩=>⟨a,b,λys hy=>DV hj n1 hk (by rw[<-h.t1];exact c ys hy),d⟩;refine⟨⟨h.ok.n0,h.ok.n1,λj hj=>?_⟩,rfl,g,h.len,h.nm,h.s⟩;rcases hj with rfl|rfl|rfl|rfl
 ·have hi:=g.hi;refine⟨by show((ZH bits ps).map Zw).length<=14;rw[lm];omega,?_,λys hy=>?_,λz=>by cases z⟩
  ·show(((ZH bits ps).map Zw).map nameOf).Nodup;rw[bZ];exact g.nd
  ·obtain⟨p,hp,rfl⟩:=aw.mp hy;exact Dw (QQ (g.nm p hp)) (g.room p hp)
 ·exact up 2 (.inr (.inl rfl)) (by decide) (h.ok.part 2 (.inr (.inl rfl)))
 ·exact up 3 (.inr (.inr (.inl rfl))) (by decide) (h.ok.part 3 (.inr (.inr (.inl rfl))))
 ·exact up 4 (.inr (.inr (.inr rfl))) (by decide) (h.ok.part 4 (.inr (.inr (.inr rfl))))
section
variable {b:ae}{H H':Hp}
theorem Zu.ins{p C dx:ae}{fs:List (Str×V)}(h:Zu H b)(hp:H p=some (.ins C dx fs)):p≠b:=by obtain⟨x,y,z,e⟩:=h;exact ne_of hp e (by intro z;cases z)
theorem Zu.dK{p:ae}{k:Kv}(h:Zu H b)(hp:H p=some (.dK k)):p≠b:=by obtain⟨x,y,z,e⟩:=h;exact ne_of hp e (by intro z;cases z)
theorem Ur(hb:Zu H b)(s:Zh b H H'){fs:List (Str×V)}{f g:Str}{r:PR}{k:Kv}(h:Z5 H fs f g r k):Z5 H' fs f g r k:=by obtain⟨l,d,xs,rs,a1,a2,a3,a4,a5⟩:=h;exact⟨l,d,xs,rs,a1,a2,a3,s _ _ a4 (hb.tup a4),s _ _ a5 (hb.dK a5)⟩
theorem Uh(hb:Zu H b)(s:Zh b H H'){xs:List V}{t:List (List V)}(hf:∀ys∈t,∀y∈ys,Flat y)(h:ZU H xs (t.map some)):ZU H' xs (t.map some):=⟨h.1,λi x r e1 e2=>by have h0:=h.2 i x r e1 e2;rw[ak]at e2;obtain⟨q,hq,rfl⟩:=bF.mp e2;obtain⟨p,e,hp,_⟩:=h0;exact⟨p,e,s _ _ hp (hb.tup hp),λy hy=>Qc (hf q (aG hq) y hy)⟩⟩
theorem Tel.box{C t:ae}{T:Tb}(hb:Zu H b)(o:OkTb T)(s:Zh b H H')(h:Tel H C t T):Tel H' C t T:=by
 obtain⟨fs,x1,x2,x3,x4,k,tp,d⟩:=h;refine⟨fs,x1,x2,x3,x4,k,⟨⟨⟨let ⟨dx,e⟩:=tp.tab.tab.at_;⟨dx,s _ _ e (hb.ins e)⟩,tp.tab.tab.only⟩,tp.tab.turns,Ur hb s tp.tab.p,Ur hb s tp.tab.r,Ur hb s tp.tab.w,Ur hb s tp.tab.g⟩,λr hr xs rs er=>?_⟩,d⟩;have rr:=tp.rows r hr xs rs er;rcases hr with rfl|rfl|rfl|rfl
 ·cases er;exact Uh hb s (o.flat (.inl rfl)) rr
 ·cases er;exact Uh hb s (o.flat (.inr (.inl rfl))) rr
 ·cases er;exact Uh hb s (o.flat (.inr (.inr (.inl rfl)))) rr
 ·cases er;exact Uh hb s (o.flat (.inr (.inr (.inr rfl)))) rr
theorem RowB.row{v:V}{r:Option (List V)}(h:RowB b H v r):Row H v r:=by
 cases r with
|none=>obtain⟨T,t,n⟩:=h;exact⟨T,t.1,n⟩
|some xs=>obtain⟨p,e,_,hp,hx⟩:=h;exact⟨p,e,hp,λx h=>let ⟨T,t⟩:=hx x h;⟨T,t.1⟩⟩
theorem K5{y:V}(h:Flat y):∃T,ThB b H y T:=by
 rcases h with rfl|⟨i,rfl⟩|⟨z,rfl,hz⟩
 ·exact⟨_,.non⟩
 ·exact⟨_,.int i⟩
 ·exact⟨_,.str hz⟩
end
inductive Out where
|made (T:Tb)
|ride (v:V)
|turn (v:V)
|homes (v:V)
|bad (z a y:V)
structure Cs where
 C:ae
 Cb:ae
 Cn:ae
 Ct:ae
 Ch:ae
def OutQ(c:Cs)(H:Hp)(o:Out)(Q:VK)(E:XK):Prop:=match o with
|.made T=>∀H' x,Same H H'->Tel H' c.C x T->Q (.ref x) H'
|.ride v=>∀H1,Same H H1->Err1 c.Cn "name" v H1 E
|.turn v=>∀H1,Same H H1->Err1 c.Ct "found" v H1 E
|.homes v=>∀H1,Same H H1->Err1 c.Ch "found" v H1 E
|.bad z a y=>∀H1,Same H H1->Bad c.Cb z a y H1 E
def PD(c:Cs):Sp:=λvs H Q E=>∃(t d:ae)(fs:List (Str×V)),vs=[.ref t,.ref d]/\Tab H c.C t fs /\((∃v,H d=some (.tup [.str "more",v])/\VW c.C c.Cb [.ref t,v] H Q E) \/(∃v,H d=some (.tup [.str "less",v])/\Gq c.C c.Cb c.Cn [.ref t,v] H Q E) \/(∃v u,H d=some (.tup [.str "seats",v,u])/\J7 c.C c.Cb c.Cn [.ref t,v,u] H Q E) \/(∃v u,H d=some (.tup [.str "later",v,u])/\J8 c.C c.Cb c.Cn c.Ct [.ref t,v,u] H Q E) \/(∃v,H d=some (.tup [.str "groups",v])/\JL c.C c.Cb [.ref t,v] H Q E) \/(∃v,H d=some (.tup [.str "homes",v])/\J9 c.C c.Cb c.Ch [.ref t,v] H Q E))
def Deed(c:Cs)(b:ae)(H:Hp)(d:ae)(T:Tb)(o:Out):Prop:=∀H0 t Q E,Zh b H H0->Tel H0 c.C t T->OutQ c H0 o Q E->PD c [.ref t,.ref d] H0 Q E
theorem Deed.same{c:Cs}{b:ae}{H H':Hp}{d:ae}{T:Tb}{o:Out}(s:Zh b H H')(h:Deed c b H d T o):Deed c b H' d T o:=λH0 t Q E s0=>h H0 t Q E (s.trans s0)
def JK(b:ae)(H:Hp)(u:ae)(o:Out)(s:Str):Prop:=match o with
|.made T=>∃p l1 l2 l3 l4,H u=some (.tup [.str "made",.ref p])/\TbAt b H p T l1 l2 l3 l4/\OkTb T/\(s∉T.t2.map nameOf->∃ps,LInv T ps s)
|.ride v=>H u=some (.tup [.str "ride",v])/\∃d,Dat b H v d/\Shw d
|.turn v=>H u=some (.tup [.str "turn",v])/\∃d,Dat b H v d/\Shw d
|.homes v=>H u=some (.tup [.str "homes",v])/\∃d,Dat b H v d/\Shw d
|.bad z a y=>∃q,H u=some (.tup [.str "bad",.ref q])/\H q=some (.tup [z,a,y])/\Atm z/\Atm a/\Atm y
theorem JK.same{b:ae}{H H':Hp}{u:ae}{o:Out}{s:Str}(hb:Zu H b)(sb:Zh b H H')(h:JK b H u o s):JK b H' u o s:=by
 cases o with
|made T=>obtain⟨p,l1,l2,l3,l4,a,tb,r⟩:=h;exact⟨p,l1,l2,l3,l4,sb _ _ a (hb.tup a),tb.same sb,r⟩
|ride v=>obtain⟨a,d,e,f⟩:=h;exact⟨sb _ _ a (hb.tup a),d,e.same sb,f⟩
|turn v=>obtain⟨a,d,e,f⟩:=h;exact⟨sb _ _ a (hb.tup a),d,e.same sb,f⟩
|homes v=>obtain⟨a,d,e,f⟩:=h;exact⟨sb _ _ a (hb.tup a),d,e.same sb,f⟩
|bad z a y=>obtain⟨q,a,e,f⟩:=h;exact⟨q,sb _ _ a (hb.tup a),sb _ _ e (hb.tup e),f⟩
theorem Gv{T:Tb}(o:OkTb T):∀y∈T.t2,y.getD 0 .non=.str (nameOf y)/\y.length=6:=λy hy=>⟨(XI o (j:=2) (.inr (.inl rfl)) hy).name,(XI o (j:=2) (.inr (.inl rfl)) hy).len⟩
theorem Xm{H:Hp}{C t:ae}{T:Tb}(o:OkTb T){fs:List (Str×V)}{x1 x2 x3 x4:List V}{k:Ks}(tp:TabP H C t fs T.n (prs x1 T.t1) (prs x2 T.t2) (prs x3 T.t3) (prs x4 T.t4) k)(d:TbDict T x2 x3 x4 k):Rides H C t fs T.n (prs x1 T.t1) (prs x3 T.t3) (prs x4 T.t4) x2 T.t2 k:=by have:=(tp.rows _ (.inr (.inl rfl)) _ _ rfl).1;rw[lm]at this;have l2:=(o.part 2 (.inr (.inl rfl))).1;have l2:T.t2.length<=80:=l2;exact⟨tp,by omega,d.r,Gv o⟩
theorem Mu{T:Tb}{x2:List V}{k:Kv}(hl:x2.length=T.t2.length)(d:RwDict k T.t2 x2){m:Nat}{y:List V}(h:T.t2[m]?=some y):ZF (.str (nameOf y)) k=true:=by
 have hm:m<x2.length:=by rw[hl];exact(ai.mp h).1
 show(valV k (.inr (nameOf y))).isSome=true;rw[d.at_ m y x2[m] h (gE hm)];rfl
section
variable {c:Cs}{H:Hp}{Q:VK}{E:XK}{T:Tb}{x1 x2 x3 x4:List V}{t:ae}{fs:List (Str×V)}{k:Ks}
theorem KP(tp:TabP H c.C t fs T.n (prs x1 T.t1) (prs x2 T.t2) (prs x3 T.t3) (prs x4 T.t4) k){t':List (List V)}(o:OkTb {T with t2:=t'}){H1:Hp}(s:Same H H1){y2:List V}(r:ZU H1 y2 (t'.map some))(q:OutQ c H (.made {T with t2:=t'}) Q E):Xn c.C c.Cb (.int T.n) (prs x1 T.t1) (prs y2 t') (prs x3 T.t3) (prs x4 T.t4) H1 Q E:=by have tp1:=tp.same s;exact Uv o (tp1.rows _ (.inl rfl) _ _ rfl) r (tp1.rows _ (.inr (.inr (.inl rfl))) _ _ rfl) (tp1.rows _ (.inr (.inr (.inr rfl))) _ _ rfl) λH' x s' _ tl=>q H' x (s.trans s') tl
theorem Fk(tp:TabP H c.C t fs T.n (prs x1 T.t1) (prs x2 T.t2) (prs x3 T.t3) (prs x4 T.t4) k){t':List (List V)}(o:OkTb {T with t4:=t'}){y4:List V}(r:ZU H y4 (t'.map some))(q:OutQ c H (.made {T with t4:=t'}) Q E):Xn c.C c.Cb (.int T.n) (prs x1 T.t1) (prs x2 T.t2) (prs x3 T.t3) (prs y4 t') H Q E:=Uv o (tp.rows _ (.inl rfl) _ _ rfl) (tp.rows _ (.inr (.inl rfl)) _ _ rfl) (tp.rows _ (.inr (.inr (.inl rfl))) _ _ rfl) r λH' x s' _ tl=>q H' x s' tl
theorem Fm(tp:TabP H c.C t fs T.n (prs x1 T.t1) (prs x2 T.t2) (prs x3 T.t3) (prs x4 T.t4) k){t':List (List V)}(o:OkTb {T with t1:=t'}){H1:Hp}(s:Same H H1){y1:List V}(r:ZU H1 y1 (t'.map some))(q:OutQ c H (.made {T with t1:=t'}) Q E):Xn c.C c.Cb (.int T.n) (prs y1 t') (prs x2 T.t2) (prs x3 T.t3) (prs x4 T.t4) H1 Q E:=by have tp1:=tp.same s;exact Uv o r (tp1.rows _ (.inr (.inl rfl)) _ _ rfl) (tp1.rows _ (.inr (.inr (.inl rfl))) _ _ rfl) (tp1.rows _ (.inr (.inr (.inr rfl))) _ _ rfl) λH' x s' _ tl=>q H' x (s.trans s') tl
theorem lens(tp:TabP H c.C t fs T.n (prs x1 T.t1) (prs x2 T.t2) (prs x3 T.t3) (prs x4 T.t4) k):x1.length=T.t1.length/\x2.length=T.t2.length/\x3.length=T.t3.length/\x4.length=T.t4.length:=by have a:=(tp.rows _ (.inl rfl) _ _ rfl).1;have b:=(tp.rows _ (.inr (.inl rfl)) _ _ rfl).1;have c:=(tp.rows _ (.inr (.inr (.inl rfl))) _ _ rfl).1;have d:=(tp.rows _ (.inr (.inr (.inr rfl))) _ _ rfl).1;rw[lm]at a b c d;exact⟨a,b,c,d⟩
theorem bad2(tp:TabP H c.C t fs T.n (prs x1 T.t1) (prs x2 T.t2) (prs x3 T.t3) (prs x4 T.t4) k)(o:OkTb T){H1:Hp}(s:Same H H1){r:PR}{a y:V}(h:∀k1,(2≠1->PlDict k1 T.t1)->ZP (J1 2) (goJ 2 k1 T.n) r=.inl (a,y))(q:OutQ c H (.bad (.str "rides") a y) Q E):Xn c.C c.Cb (.int T.n) (prs x1 T.t1) r (prs x3 T.t3) (prs x4 T.t4) H1 Q E:=by obtain⟨l1,l2,l3,l4⟩:=lens tp;have g:=Qr o (j:=2) (.inr (.inl rfl)) l1 l2 l3 l4 h;unfold Xn;rw[show JY (.int T.n) (prs x1 T.t1) r (prs x3 T.t3) (prs x4 T.t4)=.inl (.str "rides",a,y)from g];exact λH2 s2=>q H2 (s.trans s2)
theorem bad4(tp:TabP H c.C t fs T.n (prs x1 T.t1) (prs x2 T.t2) (prs x3 T.t3) (prs x4 T.t4) k)(o:OkTb T){r:PR}{a y:V}(h:∀k1,(4≠1->PlDict k1 T.t1)->ZP (J1 4) (goJ 4 k1 T.n) r=.inl (a,y))(q:OutQ c H (.bad (.str "groups") a y) Q E):Xn c.C c.Cb (.int T.n) (prs x1 T.t1) (prs x2 T.t2) (prs x3 T.t3) r H Q E:=by obtain⟨l1,l2,l3,l4⟩:=lens tp;have g:=Qr o (j:=4) (.inr (.inr (.inr rfl))) l1 l2 l3 l4 h;unfold Xn;rw[show JY (.int T.n) (prs x1 T.t1) (prs x2 T.t2) (prs x3 T.t3) r=.inl (.str "groups",a,y)from g];exact λH2 s2=>q H2 s2
end
section
variable {c:Cs}{b d:ae}{H:Hp}{T:Tb}
theorem WC(hb:Zu H b)(o:OkTb T){v:V}{ys:List V}(hd:H d=some (.tup [.str "more",v]))(hv:RowB b H v (some ys))(ok:OkTb {T with t2:=T.t2++[ys]}):Deed c b H d T (.made {T with t2:=T.t2++[ys]}):=λH0 t Q E s tel q=>by
 obtain⟨fs,x1,x2,x3,x4,k,tp,dd⟩:=tel;have ri:=Xm o tp dd;have hr:=(hv.same s).row;refine⟨t,d,fs,rfl,tp.tab.tab,.inl ⟨v,s _ _ hd (hb.tup hd),t,v,fs,T.n,prs x1 T.t1,prs x3 T.t3,prs x4 T.t4,x2,T.t2.map some,some ys,k,rfl,tp,ri.len,hr,λH1 s1=>?_⟩⟩;have:=KP (y2:=x2++[v]) tp ok s1 (by have:=((tp.same s1).rows _ (.inr (.inl rfl)) _ _ rfl).snoc (hr.same s1);rw[aN];exact this) q;unfold prs at this;rw[aN]at this;exact this
theorem NK(hb:Zu H b)(o:OkTb T){v:V}{r:Option (List V)}{why:V}(hd:H d=some (.tup [.str "more",v]))(hv:RowB b H v r)(hl:T.t2.length<=79)(hw:why≠.non)(h:∀k1 kvs,PlDict k1 T.t1->(∀z,z∉T.t2.map nameOf->valV kvs (.inr z)=none)->(∀ys∈T.t2,valV kvs (.inr (nameOf ys))≠none)->dueJ 2 k1 T.n (T.t2.map ZQ).sum kvs r=why):Deed c b H d T (.bad (.str "rides") (.int T.t2.length) why):=λH0 t Q E s tel q=>by obtain⟨fs,x1,x2,x3,x4,k,tp,dd⟩:=tel;have ri:=Xm o tp dd;have hr:=(hv.same s).row;refine⟨t,d,fs,rfl,tp.tab.tab,.inl ⟨v,s _ _ hd (hb.tup hd),t,v,fs,T.n,prs x1 T.t1,prs x3 T.t3,prs x4 T.t4,x2,T.t2.map some,r,k,rfl,tp,ri.len,hr,λH1 s1=>?_⟩⟩;have l2:=(lens tp).2.1;exact bad2 tp o s1 (Ni o (j:=2) (.inr (.inl rfl)) (pre:=T.t2) (post:=[]) (by rw[bB];rfl) (by simp[l2]) (by show _<=80;simp;omega) hw (λk1 kvs hk h1 h2=>h k1 kvs (hk (by decide)) h1 h2)) q
theorem WE(hb:Zu H b)(o:OkTb T){v:V}{Tv:String}{k:Nat}{y:List V}(hd:H d=some (.tup [.str "less",v]))(tv:ThB b H v Tv)(hk:T.t2[k]?=some y)(hv:v=.str (nameOf y)):Deed c b H d T (.made {T with t2:=T.t2.take k++T.t2.drop (k+1)})/\OkTb {T with t2:=T.t2.take k++T.t2.drop (k+1)}:=by
 obtain⟨a,nd,row,z⟩:=o.part 2 (.inr (.inl rfl));have nd':(T.t2.map nameOf).Nodup:=nd;have ok:OkTb {T with t2:=outR (nameOf y) T.t2}:=Tc o (KC ⟨a,nd,row,z⟩ List.filter_sublist);rw[<-S0 nd' hk];refine⟨λH0 t Q E s tel q=>?_,ok⟩;obtain⟨fs,x1,x2,x3,x4,kk,tp,dd⟩:=tel;have ri:=Xm o tp dd;refine⟨t,d,fs,rfl,tp.tab.tab,.inr (.inl ⟨v,s _ _ hd (hb.tup hd),t,v,Tv,fs,T.n,prs x1 T.t1,prs x3 T.t3,prs x4 T.t4,x2,T.t2,kk,rfl,ri,λy hy=>Td o hy,nd',(tv.same s).1,λh=>?_,λm y' hm e=>?_⟩)⟩
 ·rw[hv,Mu (lens tp).2.1 dd.r hk]at h;cases h
 ·have em:nameOf y=nameOf y':=by rw[hv]at e;injection e
  rw[<-em];exact λH1 s1=>KP tp ok s1 (MZ ((tp.same s1).rows _ (.inr (.inl rfl)) _ _ rfl)) q
theorem Qd(hb:Zu H b)(o:OkTb T){v:V}{Tv:String}(hd:H d=some (.tup [.str "less",v]))(tv:ThB b H v Tv)(hv:∀z,v=.str z->z∉T.t2.map nameOf):Deed c b H d T (.ride v):=λH0 t Q E s tel q=>by obtain⟨fs,x1,x2,x3,x4,kk,tp,dd⟩:=tel;have ri:=Xm o tp dd;refine⟨t,d,fs,rfl,tp.tab.tab,.inr (.inl ⟨v,s _ _ hd (hb.tup hd),t,v,Tv,fs,T.n,prs x1 T.t1,prs x3 T.t3,prs x4 T.t4,x2,T.t2,kk,rfl,ri,λy hy=>Td o hy,(o.part 2 (.inr (.inl rfl))).2.nd,(tv.same s).1,λh=>q H0 (Same.refl _),λm y' hm e=>?_⟩)⟩;exact absurd (aw.mpr ⟨y',aG hm,rfl⟩) (hv _ e)
theorem NJ(hb:Zu H b)(o:OkTb T){v u:V}{Tv Tu:String}(hd:H d=some (.tup [.str "seats",v,u]))(tv:ThB b H v Tv)(tu:ThB b H u Tu)(hv:∀z,v=.str z->z∉T.t2.map nameOf):Deed c b H d T (.ride v):=λH0 t Q E s tel q=>by obtain⟨fs,x1,x2,x3,x4,kk,tp,dd⟩:=tel;refine⟨t,d,fs,rfl,tp.tab.tab,.inr (.inr (.inl ⟨v,u,s _ _ hd (hb.tup hd),t,v,u,Tv,Tu,fs,T.n,prs x1 T.t1,prs x3 T.t3,prs x4 T.t4,x2,T.t2,kk,rfl,Xm o tp dd,(tv.same s).1,(tu.same s).1,λh=>q H0 (Same.refl _),λm y' hm e=>?_⟩))⟩;exact absurd (aw.mpr ⟨y',aG hm,rfl⟩) (hv _ e)
theorem NL(hb:Zu H b)(o:OkTb T){v u:V}{Tv Tu:String}(hd:H d=some (.tup [.str "later",v,u]))(tv:ThB b H v Tv)(tu:ThB b H u Tu)(hv:∀z,v=.str z->z∉T.t2.map nameOf):Deed c b H d T (.ride v):=λH0 t Q E s tel q=>by obtain⟨fs,x1,x2,x3,x4,kk,tp,dd⟩:=tel;refine⟨t,d,fs,rfl,tp.tab.tab,.inr (.inr (.inr (.inl ⟨v,u,s _ _ hd (hb.tup hd),t,v,u,Tv,Tu,fs,T.n,prs x1 T.t1,prs x3 T.t3,prs x4 T.t4,x2,T.t2,kk,rfl,Xm o tp dd,(tv.same s).1,(tu.same s).1,λh=>q H0 (Same.refl _),λm y' hm e=>?_⟩)))⟩;exact absurd (aw.mpr ⟨y',aG hm,rfl⟩) (hv _ e)
theorem TZ{Q:VK}{E:XK}{t:ae}{fs:List (Str×V)}{x1 x2 x3 x4:List V}{kk:Ks}{H0:Hp}(tp:TabP H0 c.C t fs T.n (prs x1 T.t1) (prs x2 T.t2) (prs x3 T.t3) (prs x4 T.t4) kk)(nd:(T.t2.map nameOf).Nodup){k:Nat}{y z:List V}(hk:T.t2[k]?=some y)(hz:∀x∈z,Flat x)(ok:OkTb {T with t2:=T.t2.set k z})(q:OutQ c H0 (.made {T with t2:=T.t2.set k z}) Q E):AsQ c.C c.Cb T.n (prs x1 T.t1) (prs x3 T.t3) (prs x4 T.t4) x2 T.t2 (nameOf y) z H0 Q E:=λH1 p s1 hp=>by have rr:=TY (nm:=nameOf y) ((tp.same s1).rows _ (.inr (.inl rfl)) _ _ rfl) (c:=p) (ys:=z) ⟨p,rfl,hp,λx hx=>Qc (hz x hx)⟩;rw[Lv nd hk]at rr ⊢;exact KP tp ok s1 rr q
theorem ER{Q:VK}{E:XK}{t:ae}{fs:List (Str×V)}{x1 x2 x3 x4:List V}{kk:Ks}{H0:Hp}(o:OkTb T)(tp:TabP H0 c.C t fs T.n (prs x1 T.t1) (prs x2 T.t2) (prs x3 T.t3) (prs x4 T.t4) kk){k:Nat}{y z:List V}(hk:T.t2[k]?=some y){why:Str}(hz:DueR 2 T.n T.t1 (nameOf y) (some z) (.str why))(q:OutQ c H0 (.bad (.str "rides") (.int k) (.str why)) Q E):AsQ c.C c.Cb T.n (prs x1 T.t1) (prs x3 T.t3) (prs x4 T.t4) x2 T.t2 (nameOf y) z H0 Q E:=λH1 p s1 hp=>by
 obtain⟨a,nd,row,_⟩:=o.part 2 (.inr (.inl rfl));have a':T.t2.length<=80:=a;have nd':(T.t2.map nameOf).Nodup:=nd;have l2:=(lens tp).2.1;have hkl:=(ai.mp hk).1;have e2:T.t2=T.t2.take k++y::T.t2.drop (k+1):=by
  have:T.t2.drop k=y::T.t2.drop (k+1):=by rw[bS hkl];rw[gE hkl]at hk;rw[aH hk]
  rw[<-this,List.take_append_drop]
 rw[Lv nd' hk];have es:T.t2.set k z=T.t2.take k++z::T.t2.drop (k+1):=by rw[List.set_eq_take_append_cons_drop,if_pos hkl]
 have tl:(T.t2.take k).length=k:=by rw[aL];omega
 have nn:nameOf y∉(T.t2.take k).map nameOf:=λhm=>by rw[e2,aN,aQ,dy]at nd';exact nd'.2.2 _ hm _ ao rfl
 have ndp:((T.t2.take k).map nameOf).Nodup:=by rw[e2,aN,dy]at nd';exact nd'.1
 refine bad2 tp o s1 (λk1 hk1=>?_) q;have pb:=QK (j:=2) (k1:=k1) (n:=T.n) (t1:=T.t1) (.inr (.inl rfl)) (λh=>(hk1 h).has) (pre:=T.t2.take k) (r:=some z) (post:=(T.t2.drop (k+1)).map some) (xs:=asV (nameOf y) (.ref p) x2 T.t2) (why:=.str why) ndp (λq hq=>row q (cO hq)) (λz=>by cases z) (by rw[VH l2,tl,lm,bI];omega) (by rw[VH l2,l2];exact a) VU (λkvs h1 _=>hz.2 k1 kvs _ (λh=>hk1 h) (h1 _ nn));rw[tl]at pb;unfold prs;rw[es,aN,aQ];exact pb
structure RideF(n:Int)(t1:List (List V))(z:Str)(s g:V)(lv cm:Int):Prop where
 nm:Z4 false (.str z)=true
 ends:∀k1,Vu k1 t1->YF k1 s g=.non
 fs:Flat s
 fg:Flat g
 lv0:0<=lv
 cm0:lv+1<=cm
 cm1:cm<=n
theorem SV{n:Int}{t1:List (List V)}{z:Str}{s g:V}{lv cm se:Int}(h:RideF n t1 z s g lv cm)(h0:0<=se)(h1:se<=1000):RowOk 2 n t1 [.str z,s,.int lv,g,.int cm,.int se]:=by
 refine⟨rfl,h.nm,λk1 hk pp _=>?_,λz=>(by cases z),λy hy=>?_⟩
 ·show Xu k1 n s (.int lv) g (.int cm) (.int se)=.non;have a:=h.lv0;have b:=h.cm0;have c:=h.cm1;unfold Xu;rw[h.ends k1 (hk (by decide)),if_neg (λz=>z rfl)];dsimp only;rw[Z9 a (by omega),Z9 b c,Z9 h0 h1];rfl
 ·simp only[aq,aK,or_false]at hy;rcases hy with rfl|rfl|rfl|rfl|rfl|rfl
  ·exact YT (V4 h.nm)
  ·exact h.fs
  ·exact YL _
  ·exact h.fg
  ·exact YL _
  ·exact YL _
theorem Ui{T:Tb}(o:OkTb T){y:List V}(h:y∈T.t2):∃z s lv g cm se,y=[.str z,s,.int lv,g,.int cm,.int se]/\nameOf y=z/\RideF T.n T.t1 z s g lv cm/\0<=se/\se<=1000:=by obtain⟨k1,hk⟩:=Mo o;obtain⟨z,s,lv,g,cm,se,rfl,_,_,a,_,b,c,d,e⟩:=N6 o h hk.has;have r:=XI o (j:=2) (.inr (.inl rfl)) h;refine⟨z,s,lv,g,cm,se,rfl,rfl,⟨r.nm,λk2 hk2=>?_,r.flat s (by simp),r.flat g (by simp),a,b,c⟩,d,e⟩;have hw:Xu k2 T.n s (.int lv) g (.int cm) (.int se)=.non:=r.why k2 (λ_=>hk2) 0 (λz=>by cases z);exact(MU hw).1
theorem Nt(hb:Zu H b)(o:OkTb T){u:V}{Tu:String}{k:Nat}{y:List V}(hk:T.t2[k]?=some y)(hd:H d=some (.tup [.str "seats",.str (nameOf y),u]))(tu:ThB b H u Tu):(K1.Zp u 0 1000=true->Deed c b H d T (.made {T with t2:=T.t2.set k (y.set 5 u)})/\OkTb {T with t2:=T.t2.set k (y.set 5 u)})/\(K1.Zp u 0 1000=false->Deed c b H d T (.bad (.str "rides") (.int k) (.str "number"))):=by
 obtain⟨z,s,lv,g,cm,se,e,en,rf,_,_⟩:=Ui o (aG hk);have nd:(T.t2.map nameOf).Nodup:=(o.part 2 (.inr (.inl rfl))).2.nd;have all:∀{o':Out},(∀H0 t fs x1 x2 x3 x4 kk Q E,TabP H0 c.C t fs T.n (prs x1 T.t1) (prs x2 T.t2) (prs x3 T.t3) (prs x4 T.t4) kk->OutQ c H0 o' Q E->AsQ c.C c.Cb T.n (prs x1 T.t1) (prs x3 T.t3) (prs x4 T.t4) x2 T.t2 (nameOf y) (y.set 5 u) H0 Q E)->Deed c b H d T o':=λ{o'}h H0 t Q E s0 tel q=>by
  obtain⟨fs,x1,x2,x3,x4,kk,tp,dd⟩:=tel;have sh:(nameOf y).length<=1000:=by rw[en];exact V4 rf.nm
  refine⟨t,d,fs,rfl,tp.tab.tab,.inr (.inr (.inl ⟨_,u,s0 _ _ hd (hb.tup hd),t,_,u,_,Tu,fs,T.n,prs x1 T.t1,prs x3 T.t3,prs x4 T.t4,x2,T.t2,kk,rfl,Xm o tp dd,.str _ sh,(tu.same s0).1,λhh=>?_,λm y' hm em=>?_⟩))⟩
  ·rw[Mu (lens tp).2.1 dd.r hk]at hh;cases hh
  ·have e1:nameOf y=nameOf y':=by injection em
   have:=RO nd hm hk e1.symm;subst this;rw[hm]at hk;cases hk;exact h H0 t fs x1 x2 x3 x4 kk Q E tp q
 constructor
 ·intro hu;obtain⟨i,rfl,i0,i1⟩:=within_int hu;have ro:RowOk 2 T.n T.t1 (y.set 5 (.int i)):=by rw[e];exact SV rf i0 i1
  have nn:nameOf (y.set 5 (.int i))=nameOf y:=by rw[e];rfl
  have ok:OkTb {T with t2:=T.t2.set k (y.set 5 (.int i))}:=Tc o (QJ (o.part 2 (.inr (.inl rfl))) hk ro nn);exact⟨all λH0 t fs x1 x2 x3 x4 kk Q E tp q=>TZ tp nd hk ro.flat ok q,ok⟩
 ·intro hu;have dr:DueR 2 T.n T.t1 (nameOf y) (some (y.set 5 u)) (.str "number"):=Q2 (XI o (j:=2) (.inr (.inl rfl)) (aG hk)) (by rw[cy]) (by rw[W1 (by decide)]) λk1 pp hp=>by have a:=rf.lv0;have b:=rf.cm0;have c:=rf.cm1;rw[e];exact MS (rf.ends k1 (hp (by decide)).has) (Z9 a (by omega)) (Z9 b c) hu
  exact all λH0 t fs x1 x2 x3 x4 kk Q E tp q=>ER o tp hk dr q
theorem R0(hb:Zu H b)(o:OkTb T){u:V}{Tu:String}{k:Nat}{y:List V}(hk:T.t2[k]?=some y)(hd:H d=some (.tup [.str "later",.str (nameOf y),u]))(tu:ThB b H u Tu):∃z s lv g cm se,y=[.str z,s,.int lv,g,.int cm,.int se]/\lv<cm/\0<=lv/\cm<=T.n/\(∀i,u=.int i->K1.Zp u 1 (T.n-cm)=true->Deed c b H d T (.made {T with t2:=T.t2.set k [.str z,s,.int (lv+i),g,.int (cm+i),.int se]})/\OkTb {T with t2:=T.t2.set k [.str z,s,.int (lv+i),g,.int (cm+i),.int se]}/\nameOf [.str z,s,.int (lv+i),g,.int (cm+i),.int se]=nameOf y)/\(K1.Zp u 1 (T.n-cm)=false->Deed c b H d T (.turn u)):=by
 obtain⟨z,s,lv,g,cm,se,e,en,rf,d0,d1⟩:=Ui o (aG hk);have a0:=rf.lv0;have b0:=rf.cm0;have c0:=rf.cm1;have nd:(T.t2.map nameOf).Nodup:=(o.part 2 (.inr (.inl rfl))).2.nd;have all:∀{o':Out},(∀H0 t fs x1 x2 x3 x4 kk Q E,TabP H0 c.C t fs T.n (prs x1 T.t1) (prs x2 T.t2) (prs x3 T.t3) (prs x4 T.t4) kk->OutQ c H0 o' Q E->(K1.Zp u 1 (T.n-cm)=false->Err1 c.Ct "found" u H0 E)/\∀i,u=.int i->K1.Zp u 1 (T.n-cm)=true->AsQ c.C c.Cb T.n (prs x1 T.t1) (prs x3 T.t3) (prs x4 T.t4) x2 T.t2 (nameOf y) ((y.set 2 (.int (lv+i))).set 4 (.int (cm+i))) H0 Q E)->Deed c b H d T o':=λ{o'}h H0 t Q E s0 tel q=>by
  obtain⟨fs,x1,x2,x3,x4,kk,tp,dd⟩:=tel;have sh:(nameOf y).length<=1000:=by rw[en];exact V4 rf.nm
  refine⟨t,d,fs,rfl,tp.tab.tab,.inr (.inr (.inr (.inl ⟨_,u,s0 _ _ hd (hb.tup hd),t,_,u,_,Tu,fs,T.n,prs x1 T.t1,prs x3 T.t3,prs x4 T.t4,x2,T.t2,kk,rfl,Xm o tp dd,.str _ sh,(tu.same s0).1,λhh=>?_,λm y' hm em=>?_⟩)))⟩
  ·rw[Mu (lens tp).2.1 dd.r hk]at hh;cases hh
  ·have e1:nameOf y=nameOf y':=by injection em
   have:=RO nd hm hk e1.symm;subst this;rw[hm]at hk;cases hk;obtain⟨h1,h2⟩:=h H0 t fs x1 x2 x3 x4 kk Q E tp q;exact⟨lv,cm,by rw[e];rfl,by rw[e];rfl,h1,h2⟩
 refine⟨z,s,lv,g,cm,se,e,by omega,a0,c0,λi ei hu=>?_,λhu=>?_⟩
 ·subst ei;obtain⟨i',q',i0,i1⟩:=within_int hu;cases q';have ey:(y.set 2 (.int (lv+i))).set 4 (.int (cm+i))=[.str z,s,.int (lv+i),g,.int (cm+i),.int se]:=by rw[e];rfl
  have ro:RowOk 2 T.n T.t1 [.str z,s,.int (lv+i),g,.int (cm+i),.int se]:=SV ⟨rf.nm,rf.ends,rf.fs,rf.fg,by omega,by omega,by omega⟩ d0 d1;have nn:nameOf [.str z,s,.int (lv+i),g,.int (cm+i),.int se]=nameOf y:=by rw[e];rfl
  have ok:OkTb {T with t2:=T.t2.set k [.str z,s,.int (lv+i),g,.int (cm+i),.int se]}:=Tc o (QJ (o.part 2 (.inr (.inl rfl))) hk ro nn);refine⟨all λH0 t fs x1 x2 x3 x4 kk Q E tp q=>⟨λh=>(by rw[hu]at h;cases h),λi2 e2 _=>?_⟩,ok,nn⟩;cases e2;rw[ey];exact TZ tp nd hk ro.flat ok q
 ·exact all λH0 t fs x1 x2 x3 x4 kk Q E tp q=>⟨λ_=>q H0 (Same.refl _),λi2 e2 h=>by rw[hu]at h;cases h⟩
theorem Q6(hb:Zu H b)(o:OkTb T){v:V}{t':List (List V)}{y4:List V}(hd:H d=some (.tup [.str "groups",v]))(hv:∀H0,Zh b H H0->YC H0 v (prs y4 t'))(ok:OkTb {T with t4:=t'}):Deed c b H d T (.made {T with t4:=t'}):=λH0 t Q E s tel q=>by obtain⟨fs,x1,x2,x3,x4,kk,tp,dd⟩:=tel;have p:=hv H0 s;exact⟨t,d,fs,rfl,tp.tab.tab,.inr (.inr (.inr (.inr (.inl ⟨v,s _ _ hd (hb.tup hd),t,v,fs,T.n,prs x1 T.t1,prs x2 T.t2,prs x3 T.t3,prs x4 T.t4,prs y4 t',kk,rfl,tp,p,Fk tp ok p.2 q⟩))))⟩
theorem G9(hb:Zu H b)(o:OkTb T){v:V}{r:PR}{a y:V}(hd:H d=some (.tup [.str "groups",v]))(hv:∀H0,Zh b H H0->YC H0 v r)(h:∀k1,(4≠1->PlDict k1 T.t1)->ZP (J1 4) (goJ 4 k1 T.n) r=.inl (a,y)):Deed c b H d T (.bad (.str "groups") a y):=λH0 t Q E s tel q=>by obtain⟨fs,x1,x2,x3,x4,kk,tp,dd⟩:=tel;exact⟨t,d,fs,rfl,tp.tab.tab,.inr (.inr (.inr (.inr (.inl ⟨v,s _ _ hd (hb.tup hd),t,v,fs,T.n,prs x1 T.t1,prs x2 T.t2,prs x3 T.t3,prs x4 T.t4,r,kk,rfl,tp,hv H0 s,bad4 tp o h q⟩))))⟩
theorem Nu(hb:Zu H b){ps:Pl}{z:Str}(li:LInv T ps z){u:V}{Tu:String}(hd:H d=some (.tup [.str "homes",u]))(tu:ThB b H u Tu):(∀bits,u=.int bits->K1.Zp u 0 (1*2 ^ (homesOf ps).length-1)=true->Deed c b H d T (.made {T with t1:=(ZH bits ps).map Zw}))/\(K1.Zp u 0 (1*2 ^ (homesOf ps).length-1)=false->Deed c b H d T (.homes u)):=by
 have hi:=li.pl.hi;have all:∀{o':Out},(∀H0 t fs x1 x2 x3 x4 kk Q E,TabP H0 c.C t fs T.n (prs x1 T.t1) (prs x2 T.t2) (prs x3 T.t3) (prs x4 T.t4) kk->OutQ c H0 o' Q E->(K1.Zp u 0 (1*2 ^ (homesOf ps).length-1)=false->∀H1,Same H0 H1->Err1 c.Ch "found" u H1 E)/\∀bits,u=.int bits->K1.Zp u 0 (1*2 ^ (homesOf ps).length-1)=true->∀H1 y1,Same H0 H1->ZU H1 y1 (((ZH bits ps).map Zw).map some)->Xn c.C c.Cb (.int T.n) (prs y1 ((ZH bits ps).map Zw)) (prs x2 T.t2) (prs x3 T.t3) (prs x4 T.t4) H1 Q E)->Deed c b H d T o':=λ{o'}h H0 t Q E s0 tel q=>by obtain⟨fs,x1,x2,x3,x4,kk,tp,dd⟩:=tel;obtain⟨h1,h2⟩:=h H0 t fs x1 x2 x3 x4 kk Q E tp q;refine⟨t,d,fs,rfl,tp.tab.tab,.inr (.inr (.inr (.inr (.inr ⟨u,s0 _ _ hd (hb.tup hd),t,u,Tu,fs,T.n,prs x2 T.t2,prs x3 T.t3,prs x4 T.t4,x1,ps,kk,rfl,?_,by omega,(tu.same s0).1,h1,h2⟩))))⟩;rw[<-li.t1];exact tp
 refine⟨λbits e hu=>?_,λhu=>?_⟩
 ·subst e;refine all λH0 t fs x1 x2 x3 x4 kk Q E tp q=>⟨λh=>(by rw[hu]at h;cases h),λbits' e' _ H1 y1 s1 r1=>?_⟩;cases e';exact Fm tp (li.homes bits).ok s1 r1 q
 ·exact all λH0 t fs x1 x2 x3 x4 kk Q E tp q=>⟨λ_=>q,λbits' e' h=>by rw[hu]at h;cases h⟩
end
def Yg(b:ae)(H:Hp)(xs:List V)(rows:List (List V)):Prop:=xs.length=rows.length/\∀(i:Nat)x r,xs[i]?=some x->rows[i]?=some r->∃a,x=.ref a/\a≠b/\H a=some (.tup r)
section
variable {b:ae}{H:Hp}{xs ys:List V}{rows rows':List (List V)}
theorem ZD.its{l:ae}(h:ZD b H l rows):∃xs,H l=some (.lst xs)/\Yg b H xs rows:=by obtain⟨n,as,e,hl,r⟩:=h;refine⟨_,e,by rw[lm,hl],λi x q h1 h2=>?_⟩;rw[ak]at h1;obtain⟨a,ha,rfl⟩:=bF.mp h1;exact⟨a,rfl,r i a q ha h2⟩
theorem Yg.lst{l:ae}(h:Yg b H xs rows)(n:l≠b)(e:H l=some (.lst xs)):ZD b H l rows:=by
 obtain⟨hl,r⟩:=h;have it:∀(i:Nat)x,xs[i]?=some x->∃a,x=.ref a:=λi x hx=>by
  have hi:i<rows.length:=by rw[<-hl];exact(ai.mp hx).1
  obtain⟨a,ha,_⟩:=r i x _ hx (gE hi);exact⟨a,ha⟩
 let g:V->ae:=λv=>match v with
 |.ref a=>a
 |_=>b
 have ex:xs=(xs.map g).map V.ref:=by
  refine List.ext_getElem? λi=>?_;rw[bZ,ak];cases hx:xs[i]? with
 |none=>rfl
 |some x=>obtain⟨a,rfl⟩:=it i x hx;rfl
 refine⟨n,xs.map g,by rw[<-ex];exact e,by rw[lm,hl],λi a q h1 h2=>?_⟩;rw[ak]at h1;obtain⟨x,hx,rfl⟩:=bF.mp h1;obtain⟨a,rfl,h3⟩:=r i x q hx h2;exact h3
theorem Yg.same{H':Hp}(s:Zh b H H')(h:Yg b H xs rows):Yg b H' xs rows:=⟨h.1,λi x r h1 h2=>let ⟨a,e,n,q⟩:=h.2 i x r h1 h2;⟨a,e,n,s _ _ q n⟩⟩
theorem Yg.one{a:ae}{r:List V}(n:a≠b)(e:H a=some (.tup r)):Yg b H [.ref a] [r]:=⟨rfl,λi x q h1 h2=>by
 cases i with
|zero=>simp at h1 h2;subst h1 h2;exact⟨a,rfl,n,e⟩
|succ i=>simp at h1⟩
theorem Yg.app(h:Yg b H xs rows)(g:Yg b H ys rows'):Yg b H (xs++ys) (rows++rows'):=⟨by rw[aT,aT,h.1,g.1],λi x r h1 h2=>by
 rcases Nat.lt_or_ge i xs.length with hi|hi
 ·rw[bj hi]at h1;rw[bj (by rw[<-h.1];exact hi)]at h2;exact h.2 i x r h1 h2
 ·rw[bC hi]at h1;rw[bC (by rw[<-h.1];exact hi),<-h.1]at h2;exact g.2 _ x r h1 h2⟩
theorem Yg.take(h:Yg b H xs rows)(k:Nat):Yg b H (xs.take k) (rows.take k):=⟨by rw[aL,aL,h.1],λi x r h1 h2=>by
 have hi:i<k:=by have:=(ai.mp h1).1;rw[aL]at this;omega
 rw[List.getElem?_take_of_lt hi]at h1 h2;exact h.2 i x r h1 h2⟩
theorem Yg.drop(h:Yg b H xs rows)(k:Nat):Yg b H (xs.drop k) (rows.drop k):=⟨by rw[bI,bI,h.1],λi x r h1 h2=>by rw[List.getElem?_drop]at h1 h2;exact h.2 _ x r h1 h2⟩
theorem Yg.set(h:Yg b H xs rows)(k:Nat){a:ae}{z:List V}(n:a≠b)(e:H a=some (.tup z)):Yg b H (xs.set k (.ref a)) (rows.set k z):=⟨by rw[cy,cy,h.1],λi x r h1 h2=>by
 by_cases ek:k=i
 ·subst ek;have hi:k<xs.length:=by have:=(ai.mp h1).1;rwa [cy]at this
  rw[bR hi]at h1;rw[bR (by rw[<-h.1];exact hi)]at h2;cases h1;cases h2;exact⟨a,rfl,n,e⟩
 ·rw[cr ek]at h1 h2;exact h.2 i x r h1 h2⟩
theorem Yg.at_(h:Yg b H xs rows){i:Int}(h0:0<=i)(h1:i<(rows.length:Int)):∃a r,atI xs i=some (.ref a)/\a≠b/\H a=some (.tup r)/\rows[i.toNat]?=some r:=by
 have hi:i.toNat<rows.length:=by omega
 have hx:i.toNat<xs.length:=by rw[h.1];exact hi
 obtain⟨a,e,n,q⟩:=h.2 i.toNat _ _ (gE hx) (gE hi);refine⟨a,_,?_,n,q,gE hi⟩;have:atI xs (i.toNat:Int)=some xs[i.toNat]:=ZL (gE hx);rw[show((i.toNat:Nat):Int)=i from by omega,e]at this;exact this
theorem Yg.part(h:Yg b H xs rows)(hf:∀ys∈rows,∀y∈ys,Flat y):ZU H xs (rows.map some):=⟨by rw[lm,h.1],λi x r e1 e2=>by rw[ak]at e2;obtain⟨q,hq,rfl⟩:=bF.mp e2;obtain⟨a,rfl,_,ha⟩:=h.2 i x q e1 hq;exact⟨a,rfl,ha,λy hy=>Qc (hf q (aG hq) y hy)⟩⟩
theorem TbAt.set2{p q l1 l2 l3 l4 l:ae}{T:Tb}{t:List (List V)}(h:TbAt b H p T l1 l2 l3 l4)(n:q≠b)(e:H q=some (.lst [.int T.n,.ref l1,.ref l,.ref l3,.ref l4]))(r:ZD b H l t):TbAt b H q {T with t2:=t} l1 l l3 l4:=⟨n,e,h.pl,r,h.wy,h.gr⟩
end
end WD
namespace L2
open PySem PySem.Spec PyProof.Rows
theorem QM{X:Cx}(hu:X.A.units+64<cLine):OpR X (compareOp .NotEq) (rNil true X.K):=by
 intro pins s σ H x y v u Q I rx ry h;obtain⟨a,b,xs,rfl,rfl,ha,hb,q⟩:=h;cases rx;cases ry;obtain⟨its,rv,p1,_⟩:=I.list ha;obtain⟨_,its2,n2,rv2,_,e2⟩:=I.lstM hb;have h2:=rv2.zero;subst h2;have l2:s.heap.IsList b #[]:=⟨_,e2,rfl,_,rfl⟩;have hl:=rv.length;by_cases hx:xs=[]
 ·subst hx;have h1:=rv.zero;subst h1;refine SeqAt.RcNeAt.lists (A:=X.A) (s:=s) (e:=λ_=>true) p1.isList l2 rfl (by omega) (λj h1 h2=>by simp at h2) X.prog X.w X.xe (EP X pins σ Q) ⟨.bl false,H,I,rfl,?_⟩;simpa using q
 ·refine SeqAt.RcNeAt.lists_lengths (A:=X.A) (s:=s) p1.isList l2 ?_ (by omega) X.prog X.w X.xe (EP X pins σ Q) ⟨.bl true,H,I,rfl,?_⟩
  ·simpa using λz=>hx (by subst z;simpa using hl)
  ·simpa[hx]using q
end L2
namespace WD
open PySem L2 PySem.Spec PyProof.Rows TB
def YM(c:Cs):Sp:=λvs H Q _=>∃(b p l1 l2 l3 l4:ae)(T:Tb)(ps:Pl)(s:Str),vs=[.ref b,.ref p,.str s]/\Zu H b/\TbAt b H p T l1 l2 l3 l4/\LInv T ps s/\∀H' q d u o,Zu H' b->Zh b H H'->H' q=some (.tup [.ref d,.ref u])->Deed c b H' d T o->JK b H' u o s->Q (.ref q) H'
section
variable {P:aA}{w:aI}{K:aa}{mg:Str->Option ac}{base:aX}{c:Cs}
theorem Ye:FnScope [q_b,q_w,q_s,"_law_row","_law_way_here","_law_due"] [q_b,q_w,q_s] (Zg T.f__law_more):=scO (by decide +kernel)
theorem WS(B:∀x∈Blts,mg x=none)(CT:Can P w K mg base 1 "_law_take" [q_b,"_law_many"] YS)(CR:Can P w K mg base 3 "_law_ride" [q_b,q_n,"_law_turns",q_p] PF)(CS:Can P w K mg base 1 "_law_rides" [q_w,"_law_rides_here"] Ue)(D:Df K mg "_law_more" T.f__law_more [q_b,q_w,q_s]):Can P w K mg base 4 "_law_more" [q_b,q_w,q_s] (YM c):=by
 refine D.cn Ye λf cdv A outer s H vs Q E hr h=>?_;obtain⟨b,p,l1,l2,l3,l4,T,ps,z,rfl,hb,tb,li,k⟩:=h;have hp:∀{H':Hp},Zh b H H'->H' p=some (.lst [.int T.n,.ref l1,.ref l2,.ref l3,.ref l4]):=λs=>s _ _ tb.at_ tb.ne;obtain⟨x2,e2,it2⟩:=tb.rd.its;have n2:=tb.rd.1;have h2:∀{H':Hp},Zh b H H'->H' l2=some (.lst x2):=λs=>s _ _ e2 n2;have len2:=li.len;have lx:=it2.1;have pl:ZD b H l1 (ps.map Zw):=by rw[<-li.t1];exact tb.pl
 refine⟨_,(Zf (st 3 Ye.nd (cn CR hr (Za (pv 0) (Za (pv 2) (Za (il K (pv 1) Zd) (Za (il K (pv 1) Zd) Zc)))))) (Zf (st 4 Ye.nd (cn CT hr (Za (pv 0) (Za Zd Zc)))) (Zf (st 5 Ye.nd (Zv (Za Zn (Za (cn CS hr (Za (pv 1) (Za (Zy Vi (il K (pv 1) Zd) (ZO (Za (pv 3) Zc))) Zc))) Zc)))) (Zf (ZC (PW.pt (MV (Zr Yl (pv 4) Zd (Zx _)) (Uk (Zr (QM hr.units) (il K (pv 1) Zd) (ZO Zc) (Zx _))))) (Zf (st 3 Ye.nd (il K (il K (pv 1) Zd) (cn CT hr (Za (pv 0) (Za (ZJ (r:=rLen K) Yh rfl (B _ (by decide +kernel)) bt (Za (il K (pv 1) Zd) Zc)) Zc))))) (Zi (st 5 Ye.nd (Zv (Za Zn (Za (Zv (Za Zn (Za (ZJ (r:=rLen K) Yh rfl (B _ (by decide +kernel)) bt (Za (il K (pv 1) Zd) Zc)) (Za Zn Zc)))) Zc)))))) Zq) (Zf (ZC (Zr Yl (pv 4) Zd (Zx _)) (Zf (st 3 Ye.nd (Zy P5 (Yc (r:=rSlT K) Ke (pv 3) Yw (Yv Zd)) (Zv (Za Zd Zc)))) (Zi (st 5 Ye.nd (Zv (Za Zn (Za (Zv (Za Zn (Za (ZJ (r:=rLen K) Yh rfl (B _ (by decide +kernel)) bt (Za (il K (pv 1) Zd) Zc)) (Za Zn Zc)))) Zc)))))) Zq) (Zf (ZC (Zr Yl (pv 4) Zd (Zx _)) (Zf (st 3 Ye.nd (il K (ZO (Za ZN (Za (Z3 JW rfl (B _ (by decide +kernel)) Gi (Za (pv 3) Zc)) (Za (Zv Zc) (Za Zn Zc))))) (cn CT hr (Za (pv 0) (Za Zd Zc))))) (Zi (st 5 Ye.nd (Zv (Za Zn (Za (Zv (Za Zn (Za (ZJ (r:=rLen K) Yh rfl (B _ (by decide +kernel)) bt (Za (il K (pv 1) Zd) Zc)) (Za Zn Zc)))) Zc)))))) Zq) (Zi (Zl (Zv (Za (Zv (Za Zn (Za (pv 3) Zc))) (Za (pv 5) Zc))))))))))),?_⟩;try dsimp only[cxOf,Cx.nox]
 refine⟨_,rfl,_,rfl,ixL 0 tb.at_ rfl (ixL 1 tb.at_ rfl ⟨b,l1,z,T.n,ps,rfl,hb,pl,li.pl,li.ok.n0,li.ok.n1,λH1 q1 r B1 S1 hq1 nq1 en gr=>?_⟩)⟩;refine tkC B1 (λway H2 w0 w6 B2 S2=>?_);have S02:=S1.trans S2;have hq2:=S2 _ _ hq1 nq1;refine⟨_,rfl,ixL 2 (hp S02) rfl ⟨_,rfl,zl,λc3 hc3=>?_⟩⟩;have B3:=B2.new (o:=.lst [.ref q1]) hc3;have S03:=S02.new' (o:=.lst [.ref q1]) hc3;have S23:=(Zh.refl b H2).new' (o:=.lst [.ref q1]) hc3;have e3:upd H2 c3 (.lst [.ref q1]) c3=some (.lst [.ref q1]):=Ze;generalize upd H2 c3 (.lst [.ref q1])=H3 at B3 S03 S23 e3 ⊢;refine⟨l2,c3,_,_,rfl,rfl,h2 S03,e3,ax (by simp;omega:_<=100) (by decide),λl5 hl5=>?_⟩;have n5:=B3.ne hl5;have B4:=B3.new (o:=.lst (x2++[.ref q1])) hl5;have S04:=S03.new' (o:=.lst (x2++[.ref q1])) hl5;have S24:=S23.new' (o:=.lst (x2++[.ref q1])) hl5;have e5:upd H3 l5 (.lst (x2++[.ref q1])) l5=some (.lst (x2++[.ref q1])):=Ze;generalize upd H3 l5 (.lst (x2++[.ref q1]))=H4 at B4 S04 S24 e5 ⊢;refine⟨p,.int T.n,.ref l1,.ref l2,.ref l3,.ref l4,.ref l5,rfl,hp S04,λp6 hp6=>?_⟩;have n6:=B4.ne hp6;have B5:=B4.new (o:=.lst [.int T.n,.ref l1,.ref l5,.ref l3,.ref l4]) hp6;have S05:=S04.new' (o:=.lst [.int T.n,.ref l1,.ref l5,.ref l3,.ref l4]) hp6;have S25:=S24.new' (o:=.lst [.int T.n,.ref l1,.ref l5,.ref l3,.ref l4]) hp6;have S45:=(Zh.refl b H4).new' (o:=.lst [.int T.n,.ref l1,.ref l5,.ref l3,.ref l4]) hp6;have e6:upd H4 p6 (.lst [.int T.n,.ref l1,.ref l5,.ref l3,.ref l4]) p6=some (.lst [.int T.n,.ref l1,.ref l5,.ref l3,.ref l4]):=Ze;generalize upd H4 p6 (.lst [.int T.n,.ref l1,.ref l5,.ref l3,.ref l4])=H5 at B5 S05 S25 S45 e6 ⊢;refine⟨zl,λu7 hu7=>?_⟩;have B6:=B5.new (o:=.tup [.str "made",.ref p6]) hu7;have S06:=S05.new' (o:=.tup [.str "made",.ref p6]) hu7;have S26:=S25.new' (o:=.tup [.str "made",.ref p6]) hu7;have S46:=S45.new' (o:=.tup [.str "made",.ref p6]) hu7;have S56:=(Zh.refl b H5).new' (o:=.tup [.str "made",.ref p6]) hu7;have e7:upd H5 u7 (.tup [.str "made",.ref p6]) u7=some (.tup [.str "made",.ref p6]):=Ze;generalize upd H5 u7 (.tup [.str "made",.ref p6])=H6 at B6 S06 S26 S46 S56 e7 ⊢;have f1:=S26 _ _ hq2 nq1;have f5:=S46 _ _ e5 n5;have f6:=S56 _ _ e6 n6;clear S1 S2 hq1 hq2 B1 B2 B3 B4 B5 S02 S03 S04 S05 S23 S24 S25 S26 S45 S46 S56 e3 e5 e6 hc3 hl5 hp6 hu7;have sh:∀q∈ps,q.1.length<=1000:=λq hq=>(li.pl.nm q hq).short;have ro:RowOk 2 T.n T.t1 (Y0 r):=by rw[li.t1];exact Du sh gr (by rw[en];exact QQ li.nm)
 have nr:nameOf (Y0 r)=z:=en;have rb:∀{H':Hp},Zh b H6 H'->RowB b H' (.ref q1) (some (Y0 r)):=λs=>⟨q1,rfl,nq1,s _ _ f1 nq1,λx hx=>K5 (ro.flat x hx)⟩;have fin:∀{H7:Hp}{v:V}{u:ae}{o:Out},Zu H7 b->Zh b H H7->(∀H8 d,Zu H8 b->Zh b H7 H8->H8 d=some (.tup [.str "more",v])->Deed c b H8 d T o)->JK b H7 u o z->∀d,H7 d=none->∀q,upd H7 d (.tup [.str "more",v]) q=none->Q (.ref q) (upd (upd H7 d (.tup [.str "more",v])) q (.tup [.ref d,.ref u])):=λ{H7 v u o}B7 S7 dd du d hd q hq=>by have B8:=B7.new (o:=.tup [.str "more",v]) hd;have S8:=(Zh.refl b H7).new' (o:=.tup [.str "more",v]) hd;have S9:=S8.new' (o:=.tup [.ref d,.ref u]) hq;have s89:=(Zh.refl b (upd H7 d (.tup [.str "more",v]))).new' (o:=.tup [.ref d,.ref u]) hq;exact k _ q d u o (B8.new hq) (S7.trans S9) Ze (dd _ d (B8.new hq) S9 (s89 _ _ Ze (B7.ne hd))) (du.same B7 S9)
 have bad:∀{H7:Hp}{v:V}{r':Option (List V)}{why:Str},Zu H7 b->Zh b H H7->RowB b H7 v r'->GS why->(∀k1 kvs,PlDict k1 T.t1->(∀z,z∉T.t2.map nameOf->valV kvs (.inr z)=none)->(∀ys∈T.t2,valV kvs (.inr (nameOf ys))≠none)->dueJ 2 k1 T.n (T.t2.map ZQ).sum kvs r'=.str why)->∀q1,H7 q1=none->∀u,upd H7 q1 (.tup [.str "rides",.int x2.length,.str why]) u=none ->∀d,upd (upd H7 q1 (.tup [.str "rides",.int x2.length,.str why])) u (.tup [.str "bad",.ref q1]) d=none->∀q,upd (upd (upd H7 q1 (.tup [.str "rides",.int x2.length,.str why])) u (.tup [.str "bad",.ref q1])) d (.tup [.str "more",v]) q=none->Q (.ref q) (upd (upd (upd (upd H7 q1 (.tup [.str "rides",.int x2.length,.str why])) u (.tup [.str "bad",.ref q1])) d (.tup [.str "more",v])) q (.tup [.ref d,.ref u])):=λ{H7 v r' why}B7 S7 hv gw hw q1 hq1 u hu d hd q hq=>by have B8:=B7.new (o:=.tup [.str "rides",.int x2.length,.str why]) hq1;have S8:=(Zh.refl b H7).new' (o:=.tup [.str "rides",.int x2.length,.str why]) hq1;have S9:=S8.new' (o:=.tup [.str "bad",.ref q1]) hu;have s89:=(Zh.refl b (upd H7 q1 (.tup [.str "rides",.int x2.length,.str why]))).new' (o:=.tup [.str "bad",.ref q1]) hu;refine fin (o:=.bad (.str "rides") (.int T.t2.length) (.str why)) (B8.new hu) (S7.trans S9) (λH8 d b8 s8 e8=>NK b8 li.ok e8 ((hv.same S9).same s8) li.len VU hw) ⟨q1,Ze,?_,.str (by decide +kernel),.int (by omega),.str gw⟩ d hd q hq;rw[<-lx];exact s89 _ _ Ze (B7.ne hq1)
 have nms:(z:Str)∉T.t2.map nameOf:=li.s;have l80:T.t2.length+1<=80:=by omega
 have mk:∀{H7:Hp},Zu H7 b->Zh b H6 H7->∀d,H7 d=none->∀q,upd H7 d (.tup [.str "more",.ref q1]) q=none->Q (.ref q) (upd (upd H7 d (.tup [.str "more",.ref q1])) q (.tup [.ref d,.ref u7])):=λ{H7}B7 S67 d hd q hq=>by have ok:OkTb {T with t2:=T.t2++[Y0 r]}:=Tc li.ok (Wl (li.ok.part 2 (.inr (.inl rfl))) ro (by rw[nr];exact nms) l80);have S07:=S06.trans S67;have rows:ZD b H7 l5 (T.t2++[Y0 r]):=((it2.same S07).app (.one nq1 (S67 _ _ f1 nq1))).lst n5 (S67 _ _ f5 n5);refine fin (o:=.made {T with t2:=T.t2++[Y0 r]}) B7 S07 (λH8 d b8 s8 e8=>WC b8 li.ok e8 (rb (S67.trans s8)) ok) ⟨p6,l1,l5,l3,l4,S67 _ _ e7 (B6.tup e7),(tb.same S07).set2 n6 (S67 _ _ f6 n6) rows,ok,λh=>?_⟩ d hd q hq;exact absurd (by rw[<-nr];exact aw.mpr ⟨Y0 r,aP _ ao,rfl⟩) h
 by_cases w0':way=0
 ·subst w0';refine⟨_,rfl,rfl,_,rfl,?_⟩;refine ZE (λ_=>?_) (λe=>absurd e (by decide));refine ixL 2 (hp S06) rfl ⟨zl,λc8 hc8=>?_⟩;refine al2 B6 hc8 λH7 B7 S67 e8 _=>?_;have S07:=S06.trans S67;refine⟨l2,c8,x2,rfl,rfl,SqL.of (h2 S07),e8,_,rfl,?_⟩;refine ZE (λe=>?_) (λe=>?_)
  ·have ne:0<x2.length:=by
    rcases cD x2.length with h|h
    ·rw[dh h]at e;exact absurd e (by simp)
    ·exact h
   refine ixL 2 (hp S07) rfl ⟨_,rfl,ixL 2 (hp S07) rfl ⟨l2,x2,rfl,.inl (SqL.of (h2 S07)),b,_,rfl,B7,by omega,b6 (Nat.log2_le_self _) (by omega),λi H8 i0 i1 B8 S78=>?_⟩⟩;have S08:=S07.trans S78;obtain⟨a,y,ea,na,ha,hy⟩:=(it2.same S08).at_ i0 (by omega);refine⟨l2,x2,i,_,rfl,rfl,SqL.of (h2 S08),ea,?_⟩;refine ixL 2 (hp S08) rfl ⟨l2,x2,rfl,.inl (SqL.of (h2 S08)),zl,λq9 hq9=>⟨zl,λu9 hu9=>?_⟩⟩;refine⟨_,rfl,rfl,_,rfl,?_⟩;refine ZE (λe=>absurd e (by decide)) (λ_=>?_);refine⟨_,rfl,rfl,_,rfl,?_⟩;refine ZE (λe=>absurd e (by decide)) (λ_=>?_);have ym:=aG hy;have ry:=XI li.ok (j:=2) (.inr (.inl rfl)) ym;refine⟨_,rfl,zl,λd hd=>⟨_,rfl,zl,λq hq=>?_⟩⟩;refine bad (r':=some y) B8 S08 ⟨a,rfl,na,ha,λx hx=>K5 (ry.flat x hx)⟩ (by decide +kernel) (λk1 kvs _ _ h2=>?_) q9 hq9 u9 hu9 d hd q hq;obtain⟨zz,s',lv,g,cm,se,ey,ez,rf,_⟩:=Ui li.ok ym;have:=RZ (k1:=k1) (pp:=(T.t2.map ZQ).sum) ry (z:=nameOf y) (by rw[ey];exact Nat.zero_lt_succ _) (by rw[ez];exact rf.nm) (h2 y ym);rw[show y.set 0 (.str (nameOf y))=y from by rw[ez,ey];rfl]at this;exact this
  ·refine⟨_,rfl,rfl,_,rfl,?_⟩;refine ZE (λe=>absurd e (by decide)) (λ_=>?_);refine⟨_,rfl,rfl,_,rfl,?_⟩;refine ZE (λe=>absurd e (by decide)) (λ_=>?_);exact⟨_,rfl,zl,λd hd=>⟨_,rfl,zl,λq hq=>mk B7 S67 d hd q hq⟩⟩
 have no:∀{m:Int},way≠m->¬decide (V.int way=V.int m)=true:=λh e=>h (by simpa using e);refine⟨_,rfl,rfl,_,rfl,?_⟩;refine ZE (λe=>absurd e (no w0')) (λ_=>?_);by_cases w1':way=1
 ·subst w1';refine⟨_,rfl,rfl,_,rfl,?_⟩;refine ZE (λ_=>?_) (λe=>absurd e (by decide));refine⟨_,rfl,_,rfl,q1,_,rfl,SqT.of f1,Vj (by decide) (by show(5:Int)<6;decide),λc8 hc8=>?_⟩;refine alE (congrArg _ (Vo _ (by decide) (by show(5:Int)<=6;decide))) B6 hc8 λH7 B7 S67 e8 _=>?_;refine⟨zl,λc9 hc9=>?_⟩;refine al2 B7 hc9 λH8 B8 S78 e9 _=>?_;refine⟨c8,c9,_,_,rfl,rfl,S78 _ _ e8 (B7.tup e8),e9,zl,λH9 c10 S89 e10=>?_⟩;have B9:=B8.same S89;have S09:Zh b H H9:=((S06.trans S67).trans S78).trans (Zh.of S89);refine ixL 2 (hp S09) rfl ⟨l2,x2,rfl,.inl (SqL.of (h2 S09)),zl,λq9 hq9=>⟨zl,λu9 hu9=>?_⟩⟩;refine⟨_,rfl,rfl,_,rfl,?_⟩;refine ZE (λe=>absurd e (by decide)) (λ_=>?_);refine⟨_,rfl,zl,λd hd=>⟨_,rfl,zl,λq hq=>?_⟩⟩;refine bad (r':=some ((Y0 r).take 5++[.int 1001])) B9 S09 ⟨c10,rfl,B9.tup e10,e10,λx hx=>?_⟩ (by decide +kernel) (λk1 kvs hk h1 _=>?_) q9 hq9 u9 hu9 d hd q hq
  ·rcases bp.mp hx with hx|hx
   ·exact K5 (ro.flat x (cO hx))
   ·rw[bi]at hx;subst hx;exact⟨_,.int _⟩
  ·refine(Q2 (why:="number") ro (rs:=(Y0 r).take 5++[.int 1001]) rfl rfl (λk1 pp hp=>?_)).2 k1 kvs _ (λ_=>hk) (h1 _ (by rw[nr];exact nms));have hp':=hp (by decide);rw[li.t1]at hp';exact MS (Nr gr.ends hp'.has) (Z9 gr.lv0 gr.lv1) (Z9 gr.cm0 gr.cm1) rfl
 refine⟨_,rfl,rfl,_,rfl,?_⟩;refine ZE (λe=>absurd e (no w1')) (λ_=>?_);by_cases w2':way=2
 ·subst w2';refine⟨_,rfl,rfl,_,rfl,?_⟩;refine ZE (λ_=>?_) (λe=>absurd e (by decide));refine⟨_,rfl,q1,_,rfl,.inr (SqT.of f1),λc8 hc8=>?_⟩;refine al2 B6 hc8 λH7 B7 S67 e8 n8=>?_;refine⟨zl,λc9 hc9=>?_⟩;refine al B7 hc9 λH8 B8 S78 e9 n9=>?_;refine⟨zl,λc10 hc10=>?_⟩;refine al2 B8 hc10 λH9 B9 S89 e10 n10=>?_;refine tkC B9 (λi H10 i0 i1 B10 S910=>?_);obtain⟨v,hv,hm⟩:=at_of (xs:=[V.non,.ref c8,.ref c9,.str "a"]) i0 i1;have S010:=(((S06.trans S67).trans S78).trans S89).trans S910;refine⟨c10,_,i,v,rfl,rfl,SqL.of (S910 _ _ e10 n10),hv,?_⟩;refine ixL 2 (hp S010) rfl ⟨l2,x2,rfl,.inl (SqL.of (h2 S010)),zl,λq9 hq9=>⟨zl,λu9 hu9=>?_⟩⟩;refine⟨_,rfl,zl,λd hd=>⟨_,rfl,zl,λq hq=>?_⟩⟩;have odd:∃r',RowB b H10 v r'/\∀xs,r'=some xs->xs.length≠szJ 2:=by
   simp only[aq,aK,or_false]at hm;rcases hm with rfl|rfl|rfl|rfl
   ·exact⟨none,⟨_,.non,by decide⟩,λxs e=>by cases e⟩
   ·exact⟨none,⟨_,⟨.lst (((S78.trans S89).trans S910) _ _ e8 n8),by intro e;cases e;exact n8 rfl⟩,by decide⟩,λxs e=>by cases e⟩
   ·exact⟨some [],⟨c9,rfl,n9,(S89.trans S910) _ _ e9 n9,λx hx=>by cases hx⟩,λxs e=>by cases e;decide⟩
   ·exact⟨none,⟨_,.str (by decide +kernel),by decide⟩,λxs e=>by cases e⟩
  obtain⟨r',rb',hr'⟩:=odd;exact bad (r':=r') B10 S010 rb' (by decide +kernel) (λk1 kvs hk h1 _=>(La (nm:=z) hr').2 k1 kvs _ (λ_=>hk) (h1 _ nms)) q9 hq9 u9 hu9 d hd q hq
 refine⟨_,rfl,rfl,_,rfl,?_⟩;refine ZE (λe=>absurd e (no w2')) (λ_=>?_);exact⟨_,rfl,zl,λd hd=>⟨_,rfl,zl,λq hq=>mk B6 (Zh.refl b H6) d hd q hq⟩⟩
theorem YU{c:Cs}{b:ae}{H:Hp}{T:Tb}{z:Str}{Q:VK}(k:∀H' q d u o,Zu H' b->Zh b H H'->H' q=some (.tup [.ref d,.ref u])->Deed c b H' d T o->JK b H' u o z->Q (.ref q) H'){H9:Hp}{d u:ae}{o:Out}(B9:Zu H9 b)(S9:Zh b H H9)(dd:Deed c b H9 d T o)(du:JK b H9 u o z):∀q,H9 q=none->Q (.ref q) (upd H9 q (.tup [.ref d,.ref u])):=λq hq=>by have S:=(Zh.refl b H9).new' (o:=.tup [.ref d,.ref u]) hq;exact k _ q d u o (B9.new hq) (S9.trans S) Ze (dd.same S) (du.same B9 S)
theorem LInv.t2{T:Tb}{ps:Pl}{s:Str}(h:LInv T ps s){t:List (List V)}(ok:OkTb {T with t2:=t})(hl:t.length<=79)(hs:s∉t.map nameOf):LInv {T with t2:=t} ps s:=⟨ok,h.t1,h.pl,hl,h.nm,hs⟩
theorem Nc{T:Tb}(o:OkTb T):∀y∈T.t2,y.getD 0 .non=.str (nameOf y)/\GS (nameOf y):=λy hy=>⟨(Gv o y hy).1,(JD o (j:=2) (.inr (.inl rfl)) hy).2⟩
theorem Wa{T:Tb}{k:Nat}{s:Str}(h:s∉T.t2.map nameOf):s∉(T.t2.take k++T.t2.drop (k+1)).map nameOf:=λhm=>h (by
 obtain⟨y,hy,e⟩:=aw.mp hm;refine aw.mpr ⟨y,?_,e⟩;rcases bp.mp hy with hy|hy
 ·exact cO hy
 ·exact List.mem_of_mem_drop hy)
theorem Vd:FnScope [q_b,q_w,q_s,q_n,"_law_at"] [q_b,q_w,q_s] (Zg T.f__law_less):=scO (by decide +kernel)
theorem WU(B:∀x∈Blts,mg x=none)(CN:Can P w K mg base 2 "_law_name" [q_b,q_w,q_s] Mb)(CO:Can P w K mg base 1 "_law_one" [q_w,q_n] PH)(CS:Can P w K mg base 1 "_law_rides" [q_w,"_law_rides_here"] Ue)(D:Df K mg "_law_less" T.f__law_less [q_b,q_w,q_s]):Can P w K mg base 4 "_law_less" [q_b,q_w,q_s] (YM c):=by
 refine D.cn Vd λf cdv A outer s H vs Q E hr h=>?_;obtain⟨b,p,l1,l2,l3,l4,T,ps,z,rfl,hb,tb,li,k⟩:=h;have hp:∀{H':Hp},Zh b H H'->H' p=some (.lst [.int T.n,.ref l1,.ref l2,.ref l3,.ref l4]):=λs=>s _ _ tb.at_ tb.ne;obtain⟨x2,e2,it2⟩:=tb.rd.its;have h2:∀{H':Hp},Zh b H H'->H' l2=some (.lst x2):=λs=>s _ _ e2 tb.rd.1;have len2:=li.len;have lx:=it2.1;have nms:=Nc li.ok;refine⟨_,(Zf (st 3 Vd.nd (cn CN hr (Za (pv 0) (Za (pv 1) (Za (pv 2) Zc))))) (Zf (st 4 Vd.nd (cn CO hr (Za (pv 1) (Za (pv 3) Zc)))) (Zf (ZC (Zr Xq (pv 4) ZN (Zx _)) (Zi (Zl (Zv (Za (Zv (Za Zn (Za (pv 3) Zc))) (Za (Zv (Za Zn (Za (pv 3) Zc))) Zc))))) Zq) (Zi (Zl (Zv (Za (Zv (Za Zn (Za (pv 3) Zc))) (Za (Zv (Za Zn (Za (cn CS hr (Za (pv 1) (Za (Zy Vi (Yc (r:=rSlL K) Y5 (il K (pv 1) Zd) Yw (Yv (pv 4))) (Yc (r:=rSlL K) Y5 (il K (pv 1) Zd) (Yv (Zy Z0 (pv 4) Zd)) Yw)) Zc))) Zc))) Zc)))))))),?_⟩;try dsimp only[cxOf,Cx.nox]
 refine⟨_,rfl,_,rfl,_,rfl,b,p,l2,_,_,_,_,z,T.t2,rfl,hb,tb.ne,tb.at_,tb.rd,by omega,nms,li.nm,λH1 v Tv dv B1 S1 tv dat shw=>?_⟩;refine⟨_,rfl,_,rfl,b,p,l2,_,_,_,_,v,Tv,T.t2,rfl,hp S1,tb.rd.same S1,by omega,λy hy=>(nms y hy).1,tv.1,λH2 S2'=>?_⟩;have S2:Zh b H1 H2:=Zh.of S2';have B2:=B1.same S2';have S02:=S1.trans S2;have tv2:=tv.same S2;have dat2:=dat.same S2;rcases RS (v:=v) (t:=T.t2)with⟨eo,no⟩|⟨i,y,eo,hy,ev⟩
 ·rw[eo];refine⟨_,rfl,rfl,_,rfl,?_⟩;refine ZE (λ_=>?_) (λe=>absurd e (by decide));refine⟨_,rfl,zl,λd hd=>⟨_,rfl,zl,λu hu=>⟨zl,?_⟩⟩⟩;have B3:=B2.new (o:=.tup [.str "less",v]) hd;have S3:=(Zh.refl b H2).new' (o:=.tup [.str "less",v]) hd;have S4:=(Zh.refl b (upd H2 d (.tup [.str "less",v]))).new' (o:=.tup [.str "ride",v]) hu;exact YU k (B3.new hu) (S02.trans (S3.trans S4)) (o:=.ride v) (Qd (B3.new hu) li.ok (S4 _ _ Ze (B2.ne hd)) (tv2.same (S3.trans S4)) no) ⟨Ze,dv,dat2.same (S3.trans S4),shw⟩
 ·rw[eo];refine⟨_,rfl,rfl,_,rfl,?_⟩;refine ZE (λe=>absurd e (by simp)) (λ_=>?_);have hi:=(ai.mp hy).1;refine⟨_,rfl,zl,λd hd=>?_⟩;refine al2 B2 hd λH3 B3 S23 ed nd=>?_;have S03:=S02.trans S23;refine⟨_,rfl,ixL 2 (hp S03) rfl ⟨_,rfl,_,rfl,l2,x2,rfl,SqL.of (h2 S03),λc4 hc4=>?_⟩⟩;rw[Vo x2 (by omega) (by omega),a8];refine al2 B3 hc4 λH4 B4 S34 e4 n4=>?_;have S04:=S03.trans S34;refine ixL 2 (hp S04) rfl ⟨_,rfl,_,_,rfl,rfl,_,rfl,l2,x2,rfl,SqL.of (h2 S04),λc5 hc5=>?_⟩;rw[Uy x2 (by omega) (by omega),show((i:Int)+1).toNat=i+1 from by omega];refine al2 B4 hc5 λH5 B5 S45 e5 _=>?_;have S05:=S04.trans S45;refine⟨c4,c5,_,_,rfl,rfl,S45 _ _ e4 n4,e5,ax (by rw[aL,bI];omega:_<=1000) (by decide),λl6 hl6=>?_⟩;refine al B5 hl6 λH6 B6 S56 e6 n6=>?_;have S06:=S05.trans S56;refine⟨p,.int T.n,.ref l1,.ref l2,.ref l3,.ref l4,.ref l6,rfl,hp S06,λp7 hp7=>?_⟩;refine al B6 hp7 λH7 B7 S67 e7 n7=>?_;refine⟨zl,λu8 hu8=>⟨zl,?_⟩⟩;have B8:=B7.new (o:=.tup [.str "made",.ref p7]) hu8;have S78:=(Zh.refl b H7).new' (o:=.tup [.str "made",.ref p7]) hu8;have e8:upd H7 u8 (.tup [.str "made",.ref p7]) u8=some (.tup [.str "made",.ref p7]):=Ze;generalize upd H7 u8 (.tup [.str "made",.ref p7])=H8 at B8 S78 e8 ⊢;have S38:=(((S34.trans S45).trans S56).trans S67).trans S78;have S08:=S03.trans S38;obtain⟨dd,ok⟩:=WE (c:=c) B8 li.ok (S38 _ _ ed nd) (tv2.same (S23.trans S38)) hy ev;have rows:=(((it2.take i).app (it2.drop (i+1))).same S08).lst n6 ((S67.trans S78) _ _ e6 n6);exact YU k B8 S08 dd ⟨p7,l1,l6,l3,l4,e8,(tb.same S08).set2 n7 (S78 _ _ e7 n7) rows,ok,λh=>⟨ps,li.t2 ok (by rw[aT,aL,bI];omega) (Wa li.s)⟩⟩
theorem Atom.thB{b:ae}{H:Hp}{v:V}(h:Atom v):∃T,ThB b H v T:=by
 rcases h with rfl|⟨c,rfl⟩|⟨i,rfl⟩|⟨z,rfl,hz⟩
 ·exact⟨_,.non⟩
 ·exact⟨_,.bl c⟩
 ·exact⟨_,.int i⟩
 ·exact⟨_,.str hz⟩
theorem Atom.whole{v:V}(h:Atom v):(K1.Mw v=false/\∀lo hi,K1.Zp v lo hi=false)\/∃i,v=.int i/\K1.Mw v=true/\∀lo hi,K1.Zp v lo hi=(decide (lo<=i)&&decide (i<=hi)):=by
 rcases h with rfl|⟨c,rfl⟩|⟨i,rfl⟩|⟨z,rfl,hz⟩
 ·exact .inl ⟨rfl,λ_ _=>rfl⟩
 ·exact .inl ⟨rfl,λ_ _=>rfl⟩
 ·exact .inr ⟨i,rfl,rfl,λ_ _=>rfl⟩
 ·exact .inl ⟨rfl,λ_ _=>rfl⟩
theorem XE:FnScope [q_b,q_w,q_s,q_n,"_law_at","_law_seats_here"] [q_b,q_w,q_s] (Zg T.f__law_seats):=scO (by decide +kernel)
theorem Sk(B:∀x∈Blts,mg x=none)(CN:Can P w K mg base 2 "_law_name" [q_b,q_w,q_s] Mb)(CO:Can P w K mg base 1 "_law_one" [q_w,q_n] PH)(CU:Can P w K mg base 2 "_law_number" [q_b,"_law_most"] Vy)(CW:Can P w K mg base 1 "_law_is_whole" ["_law_thing"] K1.Vx)(CP:Can P w K mg base 2 "_law_put" [q_w,"_law_at","_law_row"] Ry)(D:Df K mg "_law_seats" T.f__law_seats [q_b,q_w,q_s]):Can P w K mg base 4 "_law_seats" [q_b,q_w,q_s] (YM c):=by
 refine D.cn XE λf cdv A outer s H vs Q E hr h=>?_;obtain⟨b,p,l1,l2,l3,l4,T,ps,z,rfl,hb,tb,li,k⟩:=h;have hp:∀{H':Hp},Zh b H H'->H' p=some (.lst [.int T.n,.ref l1,.ref l2,.ref l3,.ref l4]):=λs=>s _ _ tb.at_ tb.ne;obtain⟨x2,e2,it2⟩:=tb.rd.its;have h2:∀{H':Hp},Zh b H H'->H' l2=some (.lst x2):=λs=>s _ _ e2 tb.rd.1;have len2:=li.len;have lx:=it2.1;have nms:=Nc li.ok;refine⟨_,(Zf (st 3 XE.nd (cn CN hr (Za (pv 0) (Za (pv 1) (Za (pv 2) Zc))))) (Zf (st 4 XE.nd (cn CO hr (Za (pv 1) (Za (pv 3) Zc)))) (Zf (st 5 XE.nd (cn CU hr (Za (pv 0) (Za Zd Zc)))) (Zf (ZC (Zr Xq (pv 4) ZN (Zx _)) (Zi (Zl (Zv (Za (Zv (Za Zn (Za (pv 3) (Za (pv 5) Zc)))) (Za (Zv (Za Zn (Za (pv 3) Zc))) Zc))))) Zq) (Zf (ZC (PW.pt (Xv (ZW (ZX (cn CW hr (Za (pv 5) Zc)))) (Y6 (ZW (Um Us Us Zd (pv 5) Zd))))) (Zi (Zl (Zv (Za (Zv (Za Zn (Za (pv 3) (Za (pv 5) Zc)))) (Za (Zv (Za Zn (Za (Zv (Za Zn (Za (pv 4) (Za Zn Zc)))) Zc))) Zc))))) Zq) (Zi (Zl (Zv (Za (Zv (Za Zn (Za (pv 3) (Za (pv 5) Zc)))) (Za (Zv (Za Zn (Za (cn CP hr (Za (pv 1) (Za (pv 4) (Za (Zy P5 (Yc (r:=rSlT K) Ke (il K (il K (pv 1) Zd) (pv 4)) Yw (Yv Zd)) (Zv (Za (pv 5) Zc))) Zc)))) Zc))) Zc)))))))))),?_⟩;try dsimp only[cxOf,Cx.nox]
 refine⟨_,rfl,_,rfl,_,rfl,b,p,l2,_,_,_,_,z,T.t2,rfl,hb,tb.ne,tb.at_,tb.rd,by omega,nms,li.nm,λH1 v Tv dv B1 S1 tv dat shw=>?_⟩;refine⟨_,rfl,_,rfl,b,p,l2,_,_,_,_,v,Tv,T.t2,rfl,hp S1,tb.rd.same S1,by omega,λy hy=>(nms y hy).1,tv.1,λH2 S2'=>?_⟩;have S2:Zh b H1 H2:=Zh.of S2';have B2:=B1.same S2';refine⟨_,rfl,b,1000,rfl,B2,by decide,by decide,λH3 n B3 S3 an fn=>?_⟩;have S03:=(S1.trans S2).trans S3;have tv3:=(tv.same S2).same S3;have dat3:=(dat.same S2).same S3;obtain⟨Tn,tn⟩:=an.thB (b:=b) (H:=H3);rcases RS (v:=v) (t:=T.t2)with⟨eo,no⟩|⟨i,y,eo,hy,ev⟩
 ·rw[eo];refine⟨_,rfl,rfl,_,rfl,?_⟩;refine ZE (λ_=>?_) (λe=>absurd e (by decide));refine⟨_,rfl,_,rfl,zl,λd hd=>⟨_,rfl,zl,λu hu=>⟨zl,?_⟩⟩⟩;have B4:=B3.new (o:=.tup [.str "seats",v,n]) hd;have S4:=(Zh.refl b H3).new' (o:=.tup [.str "seats",v,n]) hd;have S5:=(Zh.refl b (upd H3 d (.tup [.str "seats",v,n]))).new' (o:=.tup [.str "ride",v]) hu;exact YU k (B4.new hu) (S03.trans (S4.trans S5)) (o:=.ride v) (NJ (B4.new hu) li.ok (S5 _ _ Ze (B3.ne hd)) (tv3.same (S4.trans S5)) (tn.same (S4.trans S5)) no) ⟨Ze,dv,dat3.same (S4.trans S5),shw⟩
 ·rw[eo];subst ev;refine⟨_,rfl,rfl,_,rfl,?_⟩;refine ZE (λe=>absurd e (by simp)) (λ_=>?_);have hi:=(ai.mp hy).1;have bd:K1.Zp n 0 1000=false->∀d,H3 d=none->∀q1,upd H3 d (.tup [.str "seats",.str (nameOf y),n]) q1=none->∀u,upd (upd H3 d (.tup [.str "seats",.str (nameOf y),n])) q1 (.tup [.str "rides",.int i,.str "number"]) u=none->∀q,upd (upd (upd H3 d (.tup [.str "seats",.str (nameOf y),n])) q1 (.tup [.str "rides",.int i,.str "number"])) u (.tup [.str "bad",.ref q1]) q=none->Q (.ref q) (upd (upd (upd (upd H3 d (.tup [.str "seats",.str (nameOf y),n])) q1 (.tup [.str "rides",.int i,.str "number"])) u (.tup [.str "bad",.ref q1])) q (.tup [.ref d,.ref u])):=λhw d hd q1 hq1 u hu=>by have B4:=B3.new (o:=.tup [.str "seats",.str (nameOf y),n]) hd;have S34:=(Zh.refl b H3).new' (o:=.tup [.str "seats",.str (nameOf y),n]) hd;have ed:upd H3 d (.tup [.str "seats",.str (nameOf y),n]) d=some (.tup [.str "seats",.str (nameOf y),n]):=Ze;have nd:=B3.ne hd;generalize upd H3 d (.tup [.str "seats",.str (nameOf y),n])=H4 at B4 S34 ed hq1 hu ⊢;have B5:=B4.new (o:=.tup [.str "rides",.int i,.str "number"]) hq1;have S45:=(Zh.refl b H4).new' (o:=.tup [.str "rides",.int i,.str "number"]) hq1;have e5:upd H4 q1 (.tup [.str "rides",.int i,.str "number"]) q1=some (.tup [.str "rides",.int i,.str "number"]):=Ze;generalize upd H4 q1 (.tup [.str "rides",.int i,.str "number"])=H5 at B5 S45 e5 hu ⊢;have B6:=B5.new (o:=.tup [.str "bad",.ref q1]) hu;have S56:=(Zh.refl b H5).new' (o:=.tup [.str "bad",.ref q1]) hu;have S36:=(S34.trans S45).trans S56;exact YU k B6 (S03.trans S36) (o:=.bad (.str "rides") (.int i) (.str "number")) ((Nt B6 li.ok hy ((S45.trans S56) _ _ ed nd) (tn.same S36)).2 hw) ⟨q1,Ze,S56 _ _ e5 (B5.tup e5),.str (by decide +kernel),.int (by omega),.str (by decide +kernel)⟩
  refine⟨_,rfl,n,Tn,rfl,tn.1,_,rfl,?_⟩;rcases an.whole with⟨w1,w2⟩|⟨m,rfl,w1,w2⟩
  ·rw[w1];refine iteT ?_;exact⟨_,rfl,_,rfl,zl,λd hd=>⟨_,rfl,zl,λq1 hq1=>⟨zl,λu hu=>⟨zl,bd (w2 _ _) d hd q1 hq1 u hu⟩⟩⟩⟩
  ·rw[w1];refine iteF ?_;refine⟨_,rfl,_,_,rfl,rfl,_,rfl,?_⟩;refine ZE (λh0=>?_) (λh0=>?_)
   ·refine⟨_,_,rfl,rfl,_,rfl,?_⟩;cases h1:decide (m<=1000)with
   |false=>refine iteT ?_;exact⟨_,rfl,_,rfl,zl,λd hd=>⟨_,rfl,zl,λq1 hq1=>⟨zl,λu hu=>⟨zl,bd (by rw[w2,h1,Bool.and_false]) d hd q1 hq1 u hu⟩⟩⟩⟩
   |true=>
     refine iteF ?_;have hw:K1.Zp (.int m) 0 1000=true:=by rw[w2,h0,h1];rfl
     refine⟨_,rfl,_,rfl,zl,λd hd=>?_⟩;refine al2 B3 hd λH4 B4 S34 ed nd=>?_;have S04:=S03.trans S34;obtain⟨a,y',ea,na,ha,hy'⟩:=(it2.same S04).at_ (i:=i) (by omega) (by omega);rw[a8,hy]at hy';cases hy';obtain⟨zz,s',lv,g,cm,se,ey,ez,rf,_⟩:=Ui li.ok (aG hy);have l6:y.length=6:=by rw[ey];rfl
     refine⟨_,rfl,_,rfl,ixL 2 (hp S04) rfl ⟨_,rfl,l2,_,i,_,rfl,rfl,SqL.of (h2 S04),ea,_,rfl,a,_,rfl,SqT.of ha,Vj (by decide) (by rw[l6];decide),λc5 hc5=>?_⟩⟩;refine al2E (congrArg _ (Vo _ (by decide) (by rw[l6];decide))) B4 hc5 λH5 B5 S45 e5 _=>?_;refine⟨_,rfl,zl,λc6 hc6=>?_⟩;refine al2 B5 hc6 λH6 B6 S56 e6 _=>?_;refine⟨c5,c6,_,_,rfl,rfl,S56 _ _ e5 (B5.tup e5),e6,ax (by rw[aL];simp;omega:_<=10) (by decide),λH7 c7 S67' e7=>?_⟩;have B7:=B6.same S67';have S67:Zh b H6 H7:=Zh.of S67';have S07:=((S04.trans S45).trans S56).trans S67;have n7:=B7.tup e7;replace e7:H7 c7=some (.tup (y.set 5 (.int m))):=e7.trans (by rw[ey];rfl);refine⟨p,l2,_,_,_,_,.ref c7,x2,i,rfl,hp S07,h2 S07,by omega,by omega,λH8 p8 l8 S78' f8 e8 e9 g8=>?_⟩;have B8:=B7.same S78';have S78:Zh b H7 H8:=Zh.of S78';have n8:=B7.ne f8;have np8:=B7.ne g8;refine⟨zl,λu9 hu9=>⟨zl,?_⟩⟩;have B9:=B8.new (o:=.tup [.str "made",.ref p8]) hu9;have S89:=(Zh.refl b H8).new' (o:=.tup [.str "made",.ref p8]) hu9;have e10:upd H8 u9 (.tup [.str "made",.ref p8]) u9=some (.tup [.str "made",.ref p8]):=Ze;generalize upd H8 u9 (.tup [.str "made",.ref p8])=H9 at B9 S89 e10 ⊢;have S49:=(((S45.trans S56).trans S67).trans S78).trans S89;have S09:=S04.trans S49;obtain⟨dd,ok⟩:=(Nt (c:=c) B9 li.ok hy (S49 _ _ ed nd) (tn.same (S34.trans S49))).1 hw;have rows:=(((it2.same S09).set i n7 ((S78.trans S89) _ _ e7 n7))).lst n8 (S89 _ _ e8 n8);exact YU k B9 S09 dd ⟨p8,l1,l8,l3,l4,e10,(tb.same S09).set2 np8 (S89 _ _ e9 np8) rows,ok,λh=>⟨ps,li.t2 ok (by rw[cy];omega) h⟩⟩
   ·refine⟨_,rfl,?_⟩;refine iteT ?_;exact⟨_,rfl,_,rfl,zl,λd hd=>⟨_,rfl,zl,λq1 hq1=>⟨zl,λu hu=>⟨zl,bd (by rw[w2,h0];rfl) d hd q1 hq1 u hu⟩⟩⟩⟩
theorem YN:FnScope [q_b,q_w,q_s,q_n,"_law_at","_law_row","_law_by","_law_moved"] [q_b,q_w,q_s] (Zg T.f__law_later):=scO (by decide +kernel)
theorem So(B:∀x∈Blts,mg x=none)(CN:Can P w K mg base 2 "_law_name" [q_b,q_w,q_s] Mb)(CO:Can P w K mg base 1 "_law_one" [q_w,q_n] PH)(CU:Can P w K mg base 2 "_law_number" [q_b,"_law_most"] Vy)(CW:Can P w K mg base 1 "_law_is_whole" ["_law_thing"] K1.Vx)(CP:Can P w K mg base 2 "_law_put" [q_w,"_law_at","_law_row"] Ry)(D:Df K mg "_law_later" T.f__law_later [q_b,q_w,q_s]):Can P w K mg base 4 "_law_later" [q_b,q_w,q_s] (YM c):=by
 refine D.cn YN λf cdv A outer s H vs Q E hr h=>?_;obtain⟨b,p,l1,l2,l3,l4,T,ps,z,rfl,hb,tb,li,k⟩:=h;have hp:∀{H':Hp},Zh b H H'->H' p=some (.lst [.int T.n,.ref l1,.ref l2,.ref l3,.ref l4]):=λs=>s _ _ tb.at_ tb.ne;obtain⟨x2,e2,it2⟩:=tb.rd.its;have h2:∀{H':Hp},Zh b H H'->H' l2=some (.lst x2):=λs=>s _ _ e2 tb.rd.1;have len2:=li.len;have lx:=it2.1;have nms:=Nc li.ok;have n50:=li.ok.n1;refine⟨_,(Zf (st 3 YN.nd (cn CN hr (Za (pv 0) (Za (pv 1) (Za (pv 2) Zc))))) (Zf (st 4 YN.nd (cn CO hr (Za (pv 1) (Za (pv 3) Zc)))) (Zf (ZC (Zr Xq (pv 4) ZN (Zx _)) (Zi (Zl (Zv (Za (Zv (Za Zn (Za (pv 3) (Za Zd Zc)))) (Za (Zv (Za Zn (Za (pv 3) Zc))) Zc))))) Zq) (Zf (st 5 YN.nd (il K (il K (pv 1) Zd) (pv 4))) (Zf (st 6 YN.nd (cn CU hr (Za (pv 0) (Za (Zy Jt (il K (pv 1) Zd) (it K (pv 5) Zd)) Zc)))) (Zf (ZC (PW.pt (Xv (ZW (ZX (cn CW hr (Za (pv 6) Zc)))) (Y6 (ZW (Um Us Us Zd (pv 6) (Zy Jt (il K (pv 1) Zd) (it K (pv 5) Zd))))))) (Zi (Zl (Zv (Za (Zv (Za Zn (Za (pv 3) (Za (pv 6) Zc)))) (Za (Zv (Za Zn (Za (pv 6) Zc))) Zc))))) Zq) (Zf (st 7 YN.nd (Zv (Za (it K (pv 5) Zd) (Za (it K (pv 5) Zd) (Za (Zy Z0 (it K (pv 5) Zd) (pv 6)) (Za (it K (pv 5) Zd) (Za (Zy Z0 (it K (pv 5) Zd) (pv 6)) (Za (it K (pv 5) Zd) Zc)))))))) (Zi (Zl (Zv (Za (Zv (Za Zn (Za (pv 3) (Za (pv 6) Zc)))) (Za (Zv (Za Zn (Za (cn CP hr (Za (pv 1) (Za (pv 4) (Za (pv 7) Zc)))) Zc))) Zc)))))))))))),?_⟩;try dsimp only[cxOf,Cx.nox]
 refine⟨_,rfl,_,rfl,_,rfl,b,p,l2,_,_,_,_,z,T.t2,rfl,hb,tb.ne,tb.at_,tb.rd,by omega,nms,li.nm,λH1 v Tv dv B1 S1 tv dat shw=>?_⟩;refine⟨_,rfl,_,rfl,b,p,l2,_,_,_,_,v,Tv,T.t2,rfl,hp S1,tb.rd.same S1,by omega,λy hy=>(nms y hy).1,tv.1,λH2 S2'=>?_⟩;have S2:Zh b H1 H2:=Zh.of S2';have B2:=B1.same S2';have S02:=S1.trans S2;have tv2:=tv.same S2;have dat2:=dat.same S2;rcases RS (v:=v) (t:=T.t2)with⟨eo,no⟩|⟨i,y,eo,hy,ev⟩
 ·rw[eo];refine⟨_,rfl,rfl,_,rfl,?_⟩;refine ZE (λ_=>?_) (λe=>absurd e (by decide));refine⟨_,rfl,zl,λd hd=>⟨_,rfl,zl,λu hu=>⟨zl,?_⟩⟩⟩;have B4:=B2.new (o:=.tup [.str "later",v,.int 1]) hd;have S4:=(Zh.refl b H2).new' (o:=.tup [.str "later",v,.int 1]) hd;have S5:=(Zh.refl b (upd H2 d (.tup [.str "later",v,.int 1]))).new' (o:=.tup [.str "ride",v]) hu;exact YU k (B4.new hu) (S02.trans (S4.trans S5)) (o:=.ride v) (NL (B4.new hu) li.ok (S5 _ _ Ze (B2.ne hd)) (tv2.same (S4.trans S5)) (.int 1) no) ⟨Ze,dv,dat2.same (S4.trans S5),shw⟩
 ·rw[eo];subst ev;refine⟨_,rfl,rfl,_,rfl,?_⟩;refine ZE (λe=>absurd e (by simp)) (λ_=>?_);have hi:=(ai.mp hy).1;obtain⟨a,y',ea,na,ha,hy'⟩:=(it2.same S02).at_ (i:=i) (by omega) (by omega);rw[a8,hy]at hy';cases hy';obtain⟨zz,s',lv,g,cm,se,ey,ez,rf,_⟩:=Ui li.ok (aG hy);have a0:=rf.lv0;have b0:=rf.cm0;have c0:=rf.cm1;rw[ey]at ha;refine ixL 2 (hp S02) rfl ⟨_,rfl,l2,_,i,_,rfl,rfl,SqL.of (h2 S02),ea,?_⟩;refine⟨_,rfl,ixL 0 (hp S02) rfl (ixT 4 ha rfl ⟨_,_,rfl,rfl,b,T.n-cm,rfl,B2,by omega,by omega,λH3 n B3 S3 an fn=>?_⟩)⟩;have S03:=S02.trans S3;have ha3:=S3 _ _ ha na;obtain⟨Tn,tn⟩:=an.thB (b:=b) (H:=H3);have dl:∀{H6:Hp}{d:ae},Zu H6 b->Zh b H3 H6->H6 d=some (.tup [.str "later",.str (nameOf y),n])->(∀m,n=.int m->K1.Zp n 1 (T.n-cm)=true->Deed c b H6 d T (.made {T with t2:=T.t2.set i [.str zz,s',.int (lv+m),g,.int (cm+m),.int se]})/\OkTb {T with t2:=T.t2.set i [.str zz,s',.int (lv+m),g,.int (cm+m),.int se]}/\nameOf [.str zz,s',.int (lv+m),g,.int (cm+m),.int se]=nameOf y)/\(K1.Zp n 1 (T.n-cm)=false->Deed c b H6 d T (.turn n)):=λ{H6 d}B6 S36 e6=>by obtain⟨z1,s1,lv1,g1,cm1,se1,e1,_,_,_,h1,h2⟩:=R0 (c:=c) B6 li.ok hy e6 (tn.same S36);rw[ey]at e1;cases e1;exact⟨h1,h2⟩
  have bd:K1.Zp n 1 (T.n-cm)=false->∀d,H3 d=none->∀u,upd H3 d (.tup [.str "later",.str (nameOf y),n]) u=none->∀q,upd (upd H3 d (.tup [.str "later",.str (nameOf y),n])) u (.tup [.str "turn",n]) q=none->Q (.ref q) (upd (upd (upd H3 d (.tup [.str "later",.str (nameOf y),n])) u (.tup [.str "turn",n])) q (.tup [.ref d,.ref u])):=λhw d hd u hu=>by have B4:=B3.new (o:=.tup [.str "later",.str (nameOf y),n]) hd;have S34:=(Zh.refl b H3).new' (o:=.tup [.str "later",.str (nameOf y),n]) hd;have S45:=(Zh.refl b (upd H3 d (.tup [.str "later",.str (nameOf y),n]))).new' (o:=.tup [.str "turn",n]) hu;obtain⟨dn,fd,fs⟩:=id fn;exact YU k (B4.new hu) (S03.trans (S34.trans S45)) (o:=.turn n) ((dl (B4.new hu) (S34.trans S45) (S45 _ _ Ze (B3.ne hd))).2 hw) ⟨Ze,dn,λ_ _=>.of (fd _),fs⟩
  refine⟨_,rfl,n,Tn,rfl,tn.1,_,rfl,?_⟩;rcases an.whole with⟨w1,w2⟩|⟨m,rfl,w1,w2⟩
  ·rw[w1];refine iteT ?_;exact⟨_,rfl,_,rfl,zl,λd hd=>⟨_,rfl,zl,λu hu=>⟨zl,bd (w2 _ _) d hd u hu⟩⟩⟩
  ·rw[w1];refine iteF ?_;refine⟨_,rfl,_,_,rfl,rfl,_,rfl,?_⟩;refine ZE (λh0=>?_) (λh0=>?_)
   ·refine ixL 0 (hp S03) rfl (ixT 4 ha3 rfl ⟨_,_,rfl,rfl,_,_,rfl,rfl,_,rfl,?_⟩);cases h1:decide (m<=T.n-cm)with
   |false=>refine iteT ?_;exact⟨_,rfl,_,rfl,zl,λd hd=>⟨_,rfl,zl,λu hu=>⟨zl,bd (by rw[w2,h1,Bool.and_false]) d hd u hu⟩⟩⟩
   |true=>
     refine iteF ?_;have hw:K1.Zp (.int m) 1 (T.n-cm)=true:=by rw[w2,h0,h1];rfl
     refine ixT 0 ha3 rfl (ixT 1 ha3 rfl (ixT 2 ha3 rfl ⟨_,rfl,_,_,rfl,rfl,ixT 3 ha3 rfl (ixT 4 ha3 rfl ⟨_,rfl,_,_,rfl,rfl,ixT 5 ha3 rfl ⟨zl,λc4 hc4=>?_⟩⟩)⟩));refine al B3 hc4 λH4 B4 S34 e4 n4=>?_;refine⟨_,rfl,_,rfl,zl,λd hd=>?_⟩;refine al2 B4 hd λH5 B5 S45 ed nd=>?_;have S05:=(S03.trans S34).trans S45;refine⟨_,rfl,_,rfl,_,rfl,p,l2,_,_,_,_,.ref c4,x2,i,rfl,hp S05,h2 S05,by omega,by omega,λH8 p8 l8 S58' f8 e8 e9 g8=>?_⟩;have B8:=B5.same S58';have S58:Zh b H5 H8:=Zh.of S58';have n8:=B5.ne f8;have np8:=B5.ne g8;refine⟨zl,λu9 hu9=>⟨zl,?_⟩⟩;have B9:=B8.new (o:=.tup [.str "made",.ref p8]) hu9;have S89:=(Zh.refl b H8).new' (o:=.tup [.str "made",.ref p8]) hu9;have e10:upd H8 u9 (.tup [.str "made",.ref p8]) u9=some (.tup [.str "made",.ref p8]):=Ze;generalize upd H8 u9 (.tup [.str "made",.ref p8])=H9 at B9 S89 e10 ⊢;have S59:=S58.trans S89;have S09:=S05.trans S59;obtain⟨dd,ok,nn⟩:=(dl B9 ((S34.trans S45).trans S59) (S59 _ _ ed nd)).1 m rfl hw;have rows:=(((it2.same S09).set i n4 ((S45.trans S59) _ _ e4 n4))).lst n8 (S89 _ _ e8 n8);exact YU k B9 S09 dd ⟨p8,l1,l8,l3,l4,e10,(tb.same S09).set2 np8 (S89 _ _ e9 np8) rows,ok,λh=>⟨ps,li.t2 ok (by rw[cy];omega) h⟩⟩
   ·refine⟨_,rfl,?_⟩;refine iteT ?_;exact⟨_,rfl,_,rfl,zl,λd hd=>⟨_,rfl,zl,λu hu=>⟨zl,bd (by rw[w2,h0];rfl) d hd u hu⟩⟩⟩
end
end WD
namespace L2
open PySem PySem.Spec PyProof.Rows
def Fe:R2:=λx y H Q=>∃z n,x=.str z/\y=.int n/\MulOk z n/\Q (.str (Txt.mul z n)) H
theorem LR{X:Cx}:OpR X (binaryOp .Mult) Fe:=by intro pins s σ H x y v u Q I rx ry h;obtain⟨z,n,rfl,rfl,hz,q⟩:=h;obtain⟨t,rfl⟩:=rx;obtain⟨t',rfl⟩:=ry;exact SB.mul hz λt' k=>⟨.str (Txt.mul z n),H,I.tok _,⟨_,rfl⟩,q⟩
end L2
namespace WD
open PySem L2 PySem.Spec PyProof.Rows TB
noncomputable def V1(K:aa):List V->Hp->VK->Prop:=λxs H Q=>∃p ys,xs=[.ref p]/\((SqL K H p ys/\∀l,H l=none->Q (.ref l) (upd H l (.tup ys)))\/(SqT K H p ys/\Q (.ref p) H))
theorem JJ{X:Cx}:Xo X (.type "tuple") (V1 X.K):=Xk
theorem ES:MulOk "z" 9:=by unfold MulOk;decide +kernel
theorem Rk:(Txt.mul "z" 9).length=9:=by decide +kernel
theorem Dl:(codes "a.x").takeWhile (λc=>decide (c∈LET))=codes "a":=by decide +kernel
theorem EO:∀s∈sufs,("a":Str)++s≠"a.x":=by decide +kernel
theorem D7{t s:Str}(h:Nm t)(hs:s∈sufs):t++s≠"a.x":=λe=>by have hb:=NX h hs;rw[e,Dl]at hb;have:=GO hb;subst this;exact EO s hs e
theorem EE{ps:Pl}(gp:GoodPl ps){z:Str}(hz:Nm z){k1:Kv}(hk:PlDict k1 (ps.map Zw)):ZF (.str (z++Txt.mul "z" 9)) k1=false:=by
 show(valV k1 (.inr (z++Txt.mul "z" 9))).isSome=false;rw[hk.no _ (λhm=>?_)]
 ·rfl
 ·obtain⟨q,hq,e⟩:=aw.mp hm;obtain⟨p,hp,rfl⟩:=aw.mp hq;have e':p.1=z++Txt.mul "z" 9:=e;have h1:=(gp.nm p hp).2.1;have h2:=hz.1;rw[e',Y4,aT,ZI (Txt.mul "z" 9),Rk]at h1;omega
theorem EG{n pp:Int}{k1 kvs:Kv}{pl:Str}(hk:valV kvs (.inr "a.x")=none)(hp:ZF (.str pl) k1=false):dueJ 4 k1 n pp kvs (some [.str "a.x",.str pl,.int 0,.int 1])=.str "place":=by
 have b:begR (gJ 4) (szJ 4) kvs (some [.str "a.x",.str pl,.int 0,.int 1])=.non:=by show begV true 4 kvs [.str "a.x",.str pl,.int 0,.int 1]=.non;unfold begV;rw[if_neg (λz=>z rfl),if_neg (by show ¬Z4 true (.str "a.x")=false;decide +kernel),if_neg (by show ¬(valV kvs (.inr "a.x")).isSome=true;rw[hk];decide)]
 rw[YY b];show YE k1 n pp (.str pl) (.int 0) (.int 1)=_;exact K0 hp
theorem Yg.put{b q:ae}{H:Hp}{xs ys zs:List V}{rows:List (List V)}(h:Yg b H xs rows)(hq:H q=some (.lst ys)):Yg b (upd H q (.lst zs)) xs rows:=⟨h.1,λi x r h1 h2=>by obtain⟨a,e,n,ha⟩:=h.2 i x r h1 h2;exact⟨a,e,n,by rw[Zj (ne_of ha hq (by intro z;cases z))];exact ha⟩⟩
theorem Pk{c:Cs}{b:ae}{H:Hp}{T:Tb}{z:Str}{Q:VK}(k:∀H' q d u o,Zu H' b->Zh b H H'->H' q=some (.tup [.ref d,.ref u])->Deed c b H' d T o->JK b H' u o z->Q (.ref q) H'){H7:Hp}{w:Str}{v:V}{u:ae}{o:Out}(B7:Zu H7 b)(S7:Zh b H H7)(dd:∀H8 d,Zu H8 b->Zh b H7 H8->H8 d=some (.tup [.str w,v])->Deed c b H8 d T o)(du:JK b H7 u o z):∀d,H7 d=none->∀q,upd H7 d (.tup [.str w,v]) q=none->Q (.ref q) (upd (upd H7 d (.tup [.str w,v])) q (.tup [.ref d,.ref u])):=λd hd q hq=>by have B8:=B7.new (o:=.tup [.str w,v]) hd;have S8:=(Zh.refl b H7).new' (o:=.tup [.str w,v]) hd;have S9:=S8.new' (o:=.tup [.ref d,.ref u]) hq;have s89:=(Zh.refl b (upd H7 d (.tup [.str w,v]))).new' (o:=.tup [.ref d,.ref u]) hq;exact k _ q d u o (B8.new hq) (S7.trans S9) Ze (dd _ d (B8.new hq) S9 (s89 _ _ Ze (B7.ne hd))) (du.same B7 S9)
section
variable {P:aA}{w:aI}{K:aa}{mg:Str->Option ac}{base:aX}{c:Cs}
theorem ZY:FnScope [q_b,q_w,q_s,"_law_rows",q_n,"_law_way_here","_law_due"] [q_b,q_w,q_s] (Zg T.f__law_groups):=scO (by decide +kernel)
theorem Rf(B:∀x∈Blts,mg x=none)(CT:Can P w K mg base 1 "_law_take" [q_b,"_law_many"] YS)(CN:Can P w K mg base 2 "_law_names" [q_b,"_law_many"] Ma)(CG:Can P w K mg base 2 "_law_group" [q_b,q_n,"_law_turns",q_p] MJ)(D:Df K mg "_law_groups" T.f__law_groups [q_b,q_w,q_s]):Can P w K mg base 4 "_law_groups" [q_b,q_w,q_s] (YM c):=by
 refine D.cn ZY λf cdv A outer s H vs Q E hr h=>?_;obtain⟨b,p,l1,l2,l3,l4,T,ps,z,rfl,hb,tb,li,k⟩:=h;have hp:∀{H':Hp},Zh b H H'->H' p=some (.lst [.int T.n,.ref l1,.ref l2,.ref l3,.ref l4]):=λs=>s _ _ tb.at_ tb.ne;have pl:ZD b H l1 (ps.map Zw):=by rw[<-li.t1];exact tb.pl
 refine⟨_,(Zf (st 3 ZY.nd (ZO Zc)) (Zf (XJ dc rfl (Yq (Yc (r:=rSlL K) Y5 (cn CN hr (Za (pv 0) (Za (Zy Z0 Zd (cn CT hr (Za (pv 0) (Za Zd Zc)))) Zc))) (Yv Zd) Yw)) (Zt (i:=4) ZY.nd rfl (aJ rfl)) (Zi (Y7 (N7 dQ cC PySem.F.type_list_append GA (pv 3) (Za (cn CG hr (Za (pv 0) (Za (pv 4) (Za (il K (pv 1) Zd) (Za (il K (pv 1) Zd) Zc))))) Zc))))) (Zf (st 5 ZY.nd (cn CT hr (Za (pv 0) (Za Zd Zc)))) (Zf (st 6 ZY.nd (Zv (Za Zn (Za (Zy Vi (Yc (r:=rSlL K) Y5 (pv 1) Yw (Yv Zd)) (ZO (Za (pv 3) Zc))) Zc)))) (Zf (ZC (Zr Yl (pv 5) Zd (Zx _)) (Zf (st 3 ZY.nd (Zy Vi (pv 3) (ZO (Za (Zv (Za Zn (Za (Zy JQ (pv 2) (Zy LR Zn Zd)) (Za Zd (Za Zd Zc))))) Zc)))) (Zi (st 6 ZY.nd (Zv (Za Zn (Za (Zv (Za Zn (Za (Zy Jt (ZJ (r:=rLen K) Yh rfl (B _ (by decide +kernel)) bt (Za (pv 3) Zc)) Zd) (Za Zn Zc)))) Zc)))))) Zq) (Zf (ZC (Zr Yl (pv 5) Zd (Zx _)) (Zf (st 3 ZY.nd (il K (ZO (Za ZN (Za Zd (Za Zn (Za JC Zc))))) (cn CT hr (Za (pv 0) (Za Zd Zc))))) (Zi (st 6 ZY.nd (Zv (Za Zn (Za (Zv (Za Zn (Za ZN (Za Zn Zc)))) Zc)))))) (Zi (ZC (Zr Yl (cn CT hr (Za (pv 0) (Za Zd Zc))) Zd (Zx _)) (Zi (st 3 ZY.nd (Z3 (r:=V1 K) JJ rfl (B _ (by decide +kernel)) YX (Za (pv 3) Zc)))) Zq))) (Zi (Zl (Zv (Za (Zv (Za Zn (Za (pv 3) Zc))) (Za (pv 6) Zc))))))))))),?_⟩;try dsimp only[cxOf,Cx.nox]
 refine⟨zl,λq hq=>?_⟩;refine al hb hq λH1 B1 S01 e1 nq=>?_;refine⟨_,rfl,tkC B1 (λm H2 m0 m5 B2 S12=>?_)⟩;refine⟨_,_,rfl,rfl,b,1+m,rfl,B2,by omega,by omega,λH3 l ts B3 S23 hl nl hlen hnd hnm=>?_⟩;refine⟨_,rfl,l,_,rfl,SqL.of hl,λls hls=>?_⟩;obtain⟨t0,ts',rfl⟩:∃t0 ts',ts=t0::ts':=by
  cases ts with
 |nil=>simp at hlen;omega
 |cons t0 ts'=>exact⟨t0,ts',rfl⟩
 rw[show cutV ((t0::ts').map V.str) (some 1) none=ts'.map V.str from Uy _ (by decide) (by simp;omega)];have l5:ts'.length<=4:=by simp at hlen;omega
 have nls:=B3.ne hls;have B4:=B3.new (o:=.lst (ts'.map V.str)) hls;have S34:=(Zh.refl b H3).new' (o:=.lst (ts'.map V.str)) hls;have e4:upd H3 ls (.lst (ts'.map V.str)) ls=some (.lst (ts'.map V.str)):=Ze;have q3:=(S12.trans S23) _ _ e1 nq;have nqls:ls≠q:=(Zk q3 hls).symm;have q4:=S34 _ _ q3 nq;generalize upd H3 ls (.lst (ts'.map V.str))=H4 at B4 S34 e4 q4 ⊢;have S04:=((S01.trans S12).trans S23).trans S34;clear S12 S23 S34 B2 B3 hl q3 hls;refine⟨ls,rfl,⟨_,SqL.of e4⟩,?_⟩;refine Vm (J:=Itl K ls) ts'.length (λi σ' H'=>Zu H' b/\Zh b H H'/\H' ls=some (.lst (ts'.map V.str))/\(∃(gs:List Gr)(xs:List V),gs.length=i/\H' q=some (.lst xs)/\Yg b H' xs (gs.map grRow)/\∀(j:Nat)bn r,ts'[j]?=some bn->gs[j]?=some r->GoodGr T.n ps bn r)/\∃v,σ'=[some (.ref b),some (.ref p),some (.str z),some (.ref q),v,none,none]) ⟨B4,S04,e4,⟨[],[],rfl,q4,⟨rfl,λi x r h=>by simp at h⟩,λj bn r _ h=>by simp at h⟩,none,rfl⟩ (λi σ' H' hi pv=>⟨_,_,SqL.of pv.2.2.1,by rw[ak,gE hi];rfl⟩) (λσ' H' pv=>⟨_,SqL.of pv.2.2.1,by rw[lm];exact aj _⟩) (λi σ' H' x H5 hi pv yl=>?_) (λσ' H' pv=>?_)
 ·obtain⟨bx,sm,hls,⟨gs,xs,lg,hq',its,gg⟩,v,rfl⟩:=pv;obtain⟨rfl,yz⟩:=yl;have hx:=yz _ (SqL.of hls);rw[ak,gE hi]at hx;cases hx;have nmi:Nm ts'[i]:=hnm _ (am _ (aW hi));refine⟨_,rfl,.inl ⟨rfl,_,SqL.of hq'⟩,_,rfl,_,rfl,ixL 0 (hp sm) rfl (ixL 1 (hp sm) rfl ⟨b,l1,ts'[i],T.n,ps,rfl,bx,nmi.short,pl.same sm,li.pl,li.ok.n0,li.ok.n1,λH6 a r B6 S6 ha na gr=>?_⟩)⟩;have hq6:=S6 _ _ hq' nq;have it6:=its.same S6;refine⟨q,xs,_,rfl,rfl,hq6,b6 (by rw[its.1,lm];omega:xs.length<=100) (by decide),B6.same_ne nq,Gw (sm.trans S6) (Zh.refl b H) nq hq,by rw[Zj nqls];exact S6 _ _ hls nls,⟨gs++[r],xs++[.ref a],by rw[aT,lg];rfl,Ze,?_,λj bn r' h1 h2=>?_⟩,_,rfl⟩
  ·rw[aN];exact(it6.app (.one na ha)).put hq6
  ·rcases Nat.lt_or_ge j gs.length with hj|hj
   ·rw[bj hj]at h2;exact gg j bn r' h1 h2
   ·rw[bC hj]at h2;have hj0:j-gs.length=0:=by
     rcases cD (j-gs.length)with h|h
     ·exact h
     ·rw[List.getElem?_eq_none (by simp;omega)]at h2;cases h2
    rw[hj0]at h2;cases h2;have:j=i:=by omega
    subst this;rw[gE hi]at h1;cases h1;exact gr
 ·obtain⟨B5,S05,hls,⟨gs,xs,lg,hq5,its,gg⟩,v,rfl⟩:=pv;clear e4 q4 B4 S04 e1 S01 B1 hls;have sh:∀p∈ps,p.1.length<=1000:=λp hp=>(li.pl.nm p hp).short;obtain⟨pok,smo,gnm⟩:=Pd sh (bQ.mp hnd).2 (λt ht=>hnm t (am _ ht)) (by omega) lg gg;have ok:OkTb {T with t4:=gs.map grRow}:=Fi li.ok (by rw[li.t1];exact pok);refine tkC B5 (λway H6 w0 w6 B6 S56=>?_);have S06:=S05.trans S56;have its:=its.same S56;have hq6:=S56 _ _ hq5 nq;refine⟨_,rfl,_,rfl,p,_,rfl,SqL.of (hp S06),λc7 hc7=>?_⟩;refine al2E (congrArg _ (Vo _ (by decide) (by show(4:Int)<=5;decide))) B6 hc7 λH7 B7 S67 e7 n7=>?_;refine⟨_,rfl,zl,λc8 hc8=>?_⟩;refine al2 B7 hc8 λH8 B8 S78 e8 _=>?_;refine⟨c7,c8,_,_,rfl,rfl,S78 _ _ e7 n7,e8,zl,λp9 hp9=>?_⟩;refine al B8 hp9 λH9 B9 S89 e9 n9=>?_;refine⟨zl,λu10 hu10=>?_⟩;refine al B9 hu10 λH10 B10 S910 e10 _=>?_;have S610:=((S67.trans S78).trans S89).trans S910;have S010:=S06.trans S610;have f9:=S910 _ _ e9 n9;have fq:=S610 _ _ hq6 nq;have its:=its.same S610;clear S67 S78 S89 S910 S610 e7 e8 e9 B6 B7 B8 B9 hq6 hq5 S06 S05 S56 B5;have lx:=its.1;rw[lm]at lx;have hf:∀ys∈gs.map grRow,∀y∈ys,Flat y:=λys hy=>(pok.2.row ys hy).flat
  have mk:∀{H7:Hp},Zu H7 b->Zh b H10 H7->∀v,(∀H0,Zh b H7 H0->YC H0 v (prs xs (gs.map grRow)))->∀d,H7 d=none->∀q,upd H7 d (.tup [.str "groups",v]) q=none->Q (.ref q) (upd (upd H7 d (.tup [.str "groups",v])) q (.tup [.ref d,.ref u10])):=λ{H7}B7 S7 v pv=>by refine Pk k B7 (S010.trans S7) (o:=.made {T with t4:=gs.map grRow}) (λH8 d b8 s8 e8=>Q6 b8 li.ok e8 (λH0 s0=>pv H0 (s8.trans s0)) ok) ⟨p9,l1,l2,l3,q,S7 _ _ e10 (B10.tup e10),?_,ok,λ_=>⟨ps,ok,li.t1,li.pl,li.len,li.nm,li.s⟩⟩;have tb7:=tb.same (S010.trans S7);exact⟨n9,S7 _ _ f9 n9,tb7.pl,tb7.rd,tb7.wy,(its.same S7).lst nq (S7 _ _ fq nq)⟩
  have bad:∀{H7:Hp}{u:ae},Zu H7 b->Zh b H H7->∀(a y v:V)(r:PR),JK b H7 u (.bad (.str "groups") a y) z->(∀H0,Zh b H7 H0->YC H0 v r)->(∀k1,(4≠1->PlDict k1 T.t1)->ZP (J1 4) (goJ 4 k1 T.n) r=.inl (a,y))->∀d,H7 d=none->∀q,upd H7 d (.tup [.str "groups",v]) q=none->Q (.ref q) (upd (upd H7 d (.tup [.str "groups",v])) q (.tup [.ref d,.ref u])):=λ{H7 u}B7 S7 a y v r du pv h=>Pk k B7 S7 (o:=.bad (.str "groups") a y) (λH8 d b8 s8 e8=>G9 b8 li.ok e8 (λH0 s0=>pv H0 (s8.trans s0)) h) du;have no:∀{m:Int},way≠m->¬decide (V.int way=V.int m)=true:=λh e=>h (by simpa using e);by_cases h0:way=0
  ·subst h0;refine⟨_,rfl,rfl,_,rfl,?_⟩;refine ZE (λ_=>?_) (λe=>absurd e (by decide));have zsh:=li.nm.short;refine⟨_,rfl,_,rfl,_,_,rfl,rfl,ES,_,_,rfl,rfl,ax (by rw[Rk];omega:_<=2000) (by decide),zl,λc11 hc11=>?_⟩;refine al B10 hc11 λH11 B11 S11 e11 n11=>?_;refine⟨zl,λc12 hc12=>?_⟩;refine al2 B11 hc12 λH12 B12 S12 e12 _=>?_;refine⟨q,c12,_,_,rfl,rfl,(S11.trans S12) _ _ fq nq,e12,ax (by simp;omega:_<=100) (by decide),λq13 hq13=>?_⟩;refine al B12 hq13 λH13 B13 S13 e13 n13=>?_;refine⟨_,rfl,q13,_,rfl,.inl (SqL.of e13),_,_,rfl,rfl,zl,λq14 hq14=>?_⟩;dsimp only;rw[show((xs++[V.ref c11]).length:Int)-1=xs.length from by simp];refine al2 B13 hq14 λH14 B14 S14 e14 _=>?_;refine⟨zl,λu15 hu15=>?_⟩;refine al B14 hu15 λH15 B15 S15 e15 _=>?_;have S1115:=((S12.trans S13).trans S14).trans S15;have its15:Yg b H15 xs (gs.map grRow):=its.same (S11.trans S1115);have f11:=S1115 _ _ e11 n11;have f13:=(S14.trans S15) _ _ e13 n13;have S015:=S010.trans (S11.trans S1115);have du:JK b H15 u15 (.bad (.str "groups") (.int xs.length) (.str "place")) z:=⟨q14,e15,S15 _ _ e14 (B14.tup e14),.str (by decide +kernel),.int (by omega),.str (by decide +kernel)⟩;have rr:∀H0,Zh b H15 H0->ZU H0 (xs++[.ref c11]) ((gs.map grRow).map some++[some [.str "a.x",.str (z++Txt.mul "z" 9),.int 0,.int 1]]):=λH0 s0=>((its15.same s0).part hf).snoc ⟨c11,rfl,s0 _ _ f11 n11,λx hx=>by
    simp only[aq,aK,or_false]at hx;rcases hx with rfl|rfl|rfl|rfl
    ·exact⟨_,.str _ (by decide +kernel)⟩
    ·refine⟨_,.str _ ?_⟩;rw[<-ZI,Y4,aT,ZI,ZI,Rk];have:=li.nm.2.1;rw[ZI]at this;omega
    ·exact⟨_,.int _⟩
    ·exact⟨_,.int _⟩⟩
   have pgo:∀k1,(4≠1->PlDict k1 T.t1)->ZP (J1 4) (goJ 4 k1 T.n) (some (xs++[.ref c11],(gs.map grRow).map some++[some [.str "a.x",.str (z++Txt.mul "z" 9),.int 0,.int 1]]))=.inl (.int xs.length,.str "place"):=λk1 hk=>by
    have:=Ni ok (j:=4) (.inr (.inr (.inr rfl))) (pre:=gs.map grRow) (post:=[]) (r:=some [.str "a.x",.str (z++Txt.mul "z" 9),.int 0,.int 1]) (xs:=xs++[.ref c11]) (why:=.str "place") (by rw[bB];rfl) (by simp;omega) (by show _<=300;simp;omega) VU (λk1 kvs hk h1 _=>EG (h1 _ λhm=>?_) (EE li.pl li.nm (by rw[<-li.t1];exact hk (by decide)))) k1 hk
    ·rw[lm,<-lx]at this;exact this
    ·obtain⟨bn,hbn,sf,hsf,e⟩:=gnm _ hm;exact D7 (hnm bn (am _ hbn)) hsf e.symm
   refine⟨_,rfl,rfl,_,rfl,?_⟩;refine ZE (λe=>absurd e (by decide)) (λ_=>?_);refine tkC B15 (λt H16 _ _ B16 S16=>⟨rfl,_,rfl,?_⟩);refine ZE (λe=>?_) (λe=>?_)
   ·refine⟨_,rfl,q13,_,rfl,.inl ⟨SqL.of (S16 _ _ f13 n13),λl17 hl17=>?_⟩⟩;have n17:=B16.ne hl17;have S17:=(Zh.refl b H16).new' (o:=.tup (xs++[.ref c11])) hl17;refine⟨_,rfl,zl,λd hd=>⟨_,rfl,zl,λq hq=>?_⟩⟩;exact bad (B16.new hl17) (S015.trans (S16.trans S17)) _ _ (.ref l17) (some (xs++[.ref c11],(gs.map grRow).map some++[some [.str "a.x",.str (z++Txt.mul "z" 9),.int 0,.int 1]])) ((du.same B15 S16).same B16 S17) (λH0 s0=>⟨⟨l17,rfl,.inr (s0 _ _ Ze n17)⟩,rr H0 ((S16.trans S17).trans s0)⟩) pgo d hd q hq
   ·refine⟨_,rfl,zl,λd hd=>⟨_,rfl,zl,λq hq=>?_⟩⟩;exact bad B16 (S015.trans S16) _ _ (.ref q13) (some (xs++[.ref c11],(gs.map grRow).map some++[some [.str "a.x",.str (z++Txt.mul "z" 9),.int 0,.int 1]])) (du.same B15 S16) (λH0 s0=>⟨⟨q13,rfl,.inl (s0 _ _ (S16 _ _ f13 n13) n13)⟩,rr H0 (S16.trans s0)⟩) pgo d hd q hq
  refine⟨_,rfl,rfl,_,rfl,?_⟩;refine ZE (λe=>absurd e (no h0)) (λ_=>?_);by_cases h1:way=1
  ·subst h1;refine⟨_,rfl,rfl,_,rfl,?_⟩;refine ZE (λ_=>?_) (λe=>absurd e (by decide));intro d11 hd11;refine⟨zl,λc12 hc12=>?_⟩;have n11:=B10.ne hd11;have B11:=B10.new (o:=.dK []) hd11;have S11:Zh b H10 (upd H10 d11 (.dK [])):=(Zh.refl b H10).new' hd11;have e11:upd H10 d11 (.dK []) d11=some (.dK []):=Ze;generalize upd H10 d11 (.dK [])=H11 at B11 S11 e11 hc12 ⊢;have n12:=B11.ne hc12;have B12:=B11.new (o:=.lst [.non,.int 5,.str "",.ref d11]) hc12;have S12:Zh b H11 (upd H11 c12 (.lst [.non,.int 5,.str "",.ref d11])):=(Zh.refl b H11).new' hc12;have e12:upd H11 c12 (.lst [.non,.int 5,.str "",.ref d11]) c12=some (.lst [.non,.int 5,.str "",.ref d11]):=Ze;generalize upd H11 c12 (.lst [.non,.int 5,.str "",.ref d11])=H12 at B12 S12 e12 ⊢;refine tkC B12 (λi H13 i0 i1 B13 S13=>?_);obtain⟨v',hv,hm⟩:=at_of (xs:=[V.non,.int 5,.str "",.ref d11]) i0 i1;refine⟨c12,_,i,v',rfl,rfl,SqL.of (S13 _ _ e12 n12),hv,?_⟩;refine⟨zl,λq14 hq14=>⟨zl,λu15 hu15=>?_⟩⟩;have f11:=(S12.trans S13) _ _ e11 n11;have B14:=B13.new (o:=.tup [.str "groups",.non,.str "form"]) hq14;have S14:=(Zh.refl b H13).new' (o:=.tup [.str "groups",.non,.str "form"]) hq14;have e14:upd H13 q14 (.tup [.str "groups",.non,.str "form"]) q14=some (.tup [.str "groups",.non,.str "form"]):=Ze;generalize upd H13 q14 (.tup [.str "groups",.non,.str "form"])=H14 at B14 S14 e14 hu15 ⊢;refine al B14 hu15 λH15 B15 S15 e15 _=>?_;have f11:=(S14.trans S15) _ _ f11 n11;have S015:=S010.trans ((((S11.trans S12).trans S13).trans S14).trans S15);refine⟨_,rfl,zl,λd hd=>⟨_,rfl,zl,λq hq=>?_⟩⟩;refine bad B15 S015 .non (.str "form") v' none ⟨q14,e15,S15 _ _ e14 (B14.tup e14),.str (by decide +kernel),.non,.str (by decide +kernel)⟩ (λH0 s0=>?_) (λk1 _=>rfl) d hd q hq;simp only[aq,aK,or_false]at hm;rcases hm with rfl|rfl|rfl|rfl
   ·exact⟨_,.non,by decide⟩
   ·exact⟨_,.int 5,by decide⟩
   ·exact⟨_,.str _ (by decide +kernel),by decide⟩
   ·exact⟨_,.dK (s0 _ _ f11 n11),by decide⟩
  ·refine⟨_,rfl,rfl,_,rfl,?_⟩;refine ZE (λe=>absurd e (no h1)) (λ_=>?_);refine tkC B10 (λt H16 _ _ B16 S16=>⟨rfl,_,rfl,?_⟩);refine ZE (λe=>?_) (λe=>?_)
   ·refine⟨_,rfl,q,_,rfl,.inl ⟨SqL.of (S16 _ _ fq nq),λl17 hl17=>?_⟩⟩;have n17:=B16.ne hl17;have S17:=(Zh.refl b H16).new' (o:=.tup xs) hl17;refine⟨_,rfl,zl,λd hd=>⟨_,rfl,zl,λq hq=>?_⟩⟩;exact mk (B16.new hl17) (S16.trans S17) (.ref l17) (λH0 s0=>⟨⟨l17,rfl,.inr (s0 _ _ Ze n17)⟩,(its.same ((S16.trans S17).trans s0)).part hf⟩) d hd q hq
   ·refine⟨_,rfl,zl,λd hd=>⟨_,rfl,zl,λq' hq'=>?_⟩⟩;exact mk B16 S16 (.ref q) (λH0 s0=>⟨⟨q,rfl,.inl (s0 _ _ (S16 _ _ fq nq) nq)⟩,(its.same (S16.trans s0)).part hf⟩) d hd q' hq'
end
end WD
namespace L2
open PySem PySem.Spec PyProof.Rows
theorem Vw:∀{hs:List Str}{its:List ac},Vals (hs.map V.str) its->∀(i:Nat)v,its[i]?=some v->∃z t,hs[i]?=some z/\v=.str z t
|[],_,.nil,i,v,h=>by simp at h
|z::hs,_,.cons ⟨t,e⟩ r,0,v,h=>by simp at h;subst h;exact⟨z,t,rfl,e⟩
|z::hs,_,.cons _ r,i+1,v,h=>Vw r i v (by simpa using h)
noncomputable def DY:V->List V->Hp->VK->Prop:=λx vs H Q=>∃(l:ae)(hs:List Str)(z:Str)(j:Nat),x=.ref l/\vs=[.str z]/\H l=some (.lst (hs.map V.str))/\hs[j]?=some z/\(∀m,m<j->hs[m]?≠some z)/\Q (.int (j:Nat)) H
theorem KN{X:Cx}:MtM X "list.index" DY:=by
 intro pins s σ H x vs v us Q I rx rv h;obtain⟨l,hs,z,j,rfl,rfl,hH,hj,hno,q⟩:=h;cases rx;obtain⟨u,rfl,t,rfl⟩:=rv.one;obtain⟨sz,its,n,r,hl,e⟩:=I.lstM hH;have hjl:j<its.length:=by rw[<-hl,lm];exact(ai.mp hj).1
 have hjs:j<=av:=by omega
 let ee:ac->Bool:=λv=>match v with
 |.str x _=>x.cps.toList==z.cps.toList
 |_=>false
 refine call_meets F.slot_list_index ⟨_,e,rfl⟩ F.entry_list_index (F.args_list_index_2 _ _) (MeetsSeq.list_index l its.toArray n (.str z t) ee (λy hy=>?_) j (by simpa using hjl) ?_ ?_ (λm hm hlt=>?_)) ⟨e,⟨.int j,H,I.tok _,⟨_,rfl⟩,q⟩⟩
 ·obtain⟨i,hi⟩:=aY.mp (by simpa using hy:y∈its);obtain⟨x,t',_,rfl⟩:=Vw r i y hi;exact SeqRoads2.EqGives.str x z t' t
 ·have:(av:Int)<2 ^ 63-1:=by decide
  omega
 ·obtain⟨x,t',hx,ex⟩:=Vw r j _ (gE hjl);rw[hj]at hx;cases hx;show ee its.toArray[j]=true;rw[List.getElem_toArray,ex];show(z.cps.toList==z.cps.toList)=true;simp
 ·have hm':m<its.length:=by simpa using hm
  obtain⟨x,t',hx,ex⟩:=Vw r m _ (gE hm');show ee its.toArray[m]=false;rw[List.getElem_toArray,ex];show(x.cps.toList==z.cps.toList)=false;rw[beq_eq_false_iff_ne];intro h;exact hno m hlt (by rw[hx];exact congrArg some (WD.GO h))
end L2
namespace WD
open PySem L2 PySem.Spec PyProof.Rows TB
theorem JV{bits:Int}:∀{l:List Str}{i:Nat}{z:Str},z∈ZS bits i l->z∈l
|[],_,_,h=>by cases h
|y::l,i,z,h=>by
  unfold ZS at h;split at h
  ·rcases aq.mp h with rfl|h
   ·exact ao
   ·exact am _ (JV h)
  ·exact am _ (JV h)
theorem Pm{bits:Int}(hb:0<=bits):∀{hs:List Str}(nd:hs.Nodup){i j:Nat}{z:Str},hs[j]?=some z->(z∈ZS bits i hs↔bits / (1*2 ^ (i+j)) % 2=0)
|[],_,_,_,_,h=>by simp at h
|x::hs,nd,i,j,z,h=>by
  rw[bQ]at nd;cases j with
 |zero=>
   simp at h;subst h;have no:x∉ZS bits (i+1) hs:=λh=>nd.1 (JV h);rw[Nat.add_zero,<-Dh hb i];show x∈(if _ then _ else _)↔_;by_cases e:cj bits (1*2 ^ i)=0
   ·rw[if_pos e];exact⟨λ_=>e,λ_=>ao⟩
   ·rw[if_neg e];exact⟨λh=>absurd h no,λh=>absurd h e⟩
 |succ j=>
   have h':hs[j]?=some z:=by simpa using h
   have ne:z≠x:=λe=>nd.1 (e▸aG h');have ih:=Pm hb nd.2 (i:=i+1) (j:=j) h';rw[show i+1+j=i+(j+1)from by omega]at ih;rw[<-ih];show z∈(if _ then _ else _)↔_;split
   ·rw[aq];exact⟨λh=>h.elim (λe=>absurd e ne) id,.inr⟩
   ·exact Iff.rfl
theorem GE{ps:Pl}{z:Str}:z∈homesOf ps↔(z,none)∈ps:=by
 unfold homesOf;constructor
 ·intro h;obtain⟨p,hp,rfl⟩:=aw.mp h;obtain⟨h1,h2⟩:=cw.mp hp;cases hr:p.2 with
 |none=>rw[<-hr];exact h1
 |some i=>rw[hr]at h2;cases h2
 ·intro h;exact aw.mpr ⟨_,cw.mpr ⟨h,rfl⟩,rfl⟩
theorem KY{ps:Pl}(nd:(ps.map (·.1)).Nodup):(homesOf ps).Nodup:=by unfold homesOf;exact((List.filter_sublist (l:=ps)).map (λq=>q.1)).nodup nd
def QB(c:Cs):Sp:=λvs H Q _=>∃(b p l1 l2 l3 l4:ae)(T:Tb)(ps:Pl)(s:Str),vs=[.ref b,.ref p]/\Zu H b/\TbAt b H p T l1 l2 l3 l4/\LInv T ps s/\∀H' q d u o,Zu H' b->Zh b H H'->H' q=some (.tup [.ref d,.ref u])->Deed c b H' d T o->JK b H' u o s->Q (.ref q) H'
theorem Wo{ps:Pl}(nd:(ps.map (·.1)).Nodup){p:Str×Option Int}{r:Option Int}(hp:p∈ps)(h:(p.1,r)∈ps):p.2=r:=by
 obtain⟨i,hi⟩:=aY.mp hp;obtain⟨j,hj⟩:=aY.mp h;have hi':i<(ps.map (·.1)).length:=by rw[lm];exact(ai.mp hi).1
 have:i=j:=(List.getElem?_inj hi' nd).mp (by rw[ak,ak,hi,hj];rfl);subst this;rw[hi]at hj;exact congrArg (λq=>q.2) (aH hj)
section
variable {P:aA}{w:aI}{K:aa}{mg:Str->Option ac}{base:aX}{c:Cs}
theorem YD:FnScope [q_b,q_w,"_law_place","_law_room","_law_homes_here","_law_bits",q_p] [q_b,q_w] (Zg T.f__law_homes):=scO (by decide +kernel)
noncomputable def Jb:bH:=csx [(".0",.local),("_law_place",.local),("_law_room",.local)]
theorem Gg:CompScope Jb (Zg T.f__law_homes):=⟨rfl,by decide +kernel,by decide +kernel,by decide +kernel⟩
theorem Js:(["_law_place","_law_room"]:List Str).Nodup:=by decide +kernel
theorem Gh:CompNames [q_b,q_w,"_law_place","_law_room","_law_homes_here","_law_bits",q_p] Jb ["_law_place","_law_room"] [none,none]:=.mk' (by decide +kernel)
theorem Sr(B:∀x∈Blts,mg x=none)(CU:Can P w K mg base 2 "_law_number" [q_b,"_law_most"] Vy)(CW:Can P w K mg base 1 "_law_is_whole" ["_law_thing"] K1.Vx)(D:Df K mg "_law_homes" T.f__law_homes [q_b,q_w]):Can P w K mg base 4 "_law_homes" [q_b,q_w] (QB c):=by
 refine D.cn YD λf cdv A outer s H vs Q E hr h=>?_;obtain⟨b,p,l1,l2,l3,l4,T,ps,z,rfl,hb,tb,li,k⟩:=h;have hp:∀{H':Hp},Zh b H H'->H' p=some (.lst [.int T.n,.ref l1,.ref l2,.ref l3,.ref l4]):=λs=>s _ _ tb.at_ tb.ne;have pl:ZD b H l1 (ps.map Zw):=by rw[<-li.t1];exact tb.pl
 have hi6:=li.pl.hi;have hpl:(ps.map Zw).length<=av:=ax (by rw[lm];omega:(ps.map Zw).length<=1000) (by decide);refine⟨_,(Zf (Xh (i:=4) YD.nd rfl (aJ rfl) (scope:=Jb) (N:=["_law_place","_law_room"]) (cp:=[none,none]) rfl Gg Gh (Yq (il K (pv 1) Zd)) (λC s H ex pn=>(JO (K:=K) (n:=2) rfl rfl (Zz (Zt (i:=0) Js rfl (aJ rfl)) (Zz (Zt (i:=1) Js rfl (aJ rfl)) Yd)))) (λC s H ex pn=>(XF (Zr Xq (pv 1) ZN (Zx _)))) (λC s H ex pn=>(pv 0))) (Zf (st 5 YD.nd (cn CU hr (Za (pv 0) (Za (Zy Jt (Zy M9 Zd (ZJ (r:=rLen K) Yh rfl (B _ (by decide +kernel)) bt (Za (pv 4) Zc))) Zd) Zc)))) (Zf (ZC (PW.pt (Xv (ZW (ZX (cn CW hr (Za (pv 5) Zc)))) (Y6 (ZW (Um Us KG Zd (pv 5) (Zy M9 Zd (ZJ (r:=rLen K) Yh rfl (B _ (by decide +kernel)) bt (Za (pv 4) Zc)))))))) (Zi (Zl (Zv (Za (Zv (Za Zn (Za (pv 5) Zc))) (Za (Zv (Za Zn (Za (pv 5) Zc))) Zc))))) Zq) (Zf (st 6 YD.nd (ZO Zc)) (Zf (XJ dc rfl (Yq (il K (pv 1) Zd)) (XM rfl (Zz (Zt (i:=2) YD.nd rfl (aJ rfl)) (Zz (Zt (i:=3) YD.nd rfl (aJ rfl)) Yd))) (Zf (ZC (PW.pt (MV (Zr Xq (pv 3) ZN (Zx _)) (Uk (Zr Yl (Zy XO (Zy Ta (pv 5) (Zy M9 Zd (N7 dQ PySem.F.slot_list_index PySem.F.type_list_index KN (pv 4) (Za (pv 2) Zc)))) Zd) Zd (Zx _))))) (Zi (st 3 YD.nd Zd)) Zq) (Zi (Y7 (N7 dQ cC PySem.F.type_list_append GA (pv 6) (Za (Zv (Za (pv 2) (Za (pv 3) Zc))) Zc)))))) (Zi (Zl (Zv (Za (Zv (Za Zn (Za (pv 5) Zc))) (Za (Zv (Za Zn (Za (Zy Vi (ZO (Za (il K (pv 1) Zd) (Za (pv 6) Zc))) (Yc (r:=rSlL K) Y5 (pv 1) (Yv Zd) Yw)) Zc))) Zc)))))))))),?_⟩;try dsimp only[cxOf,Cx.nox]
 refine ixL 1 tb.at_ rfl ⟨l1,rfl,⟨_,SqL.of pl.2.choose_spec.1⟩,?_⟩;refine Xj (J:=Itl K l1) (ps.map Zw).length hpl (λi ys τ H'=>H'=H/\ys=(homesOf (ps.take i)).map V.str/\ys.length<=i/\∃v1 v2,τ=[v1,v2]) ⟨rfl,rfl,aj _,none,none,rfl⟩ (λi ys τ H' p=>p.2.2.1) (λi ys τ H' hi p=>by obtain⟨rfl,_⟩:=p;exact pl.go hi) (λys τ H' p=>by obtain⟨rfl,_⟩:=p;exact pl.stop) (λi ys τ H' x H2 hi p yl=>?_) (λys τ H1 p c1 hc1=>?_)
 ·obtain⟨rfl,rfl,hz,v1,v2,rfl⟩:=p;have hi':i<ps.length:=by simpa using hi
  have e0:ps[i]?=some ps[i]:=gE hi';obtain⟨rfl,a,rfl,na,ha⟩:=pl.item (r:=Zw ps[i]) (by rw[ak,e0];rfl) yl;have stp:homesOf (ps.take (i+1))=homesOf (ps.take i)++(if ps[i].2.isNone then[ps[i].1]else[]):=by unfold homesOf;rw[bY,e0,List.filter_append,aN];congr 1;cases hn:ps[i].2.isNone<;>simp[hn]
  refine⟨a,_,rfl,SqT.of ha,rfl,_,_,rfl,_,_,rfl,rfl,_,rfl,rfl,_,rfl,?_⟩;rw[VA];refine ZE (λe=>?_) (λe=>?_)
  ·refine⟨_,rfl,rfl,?_,by rw[aT];exact Nat.add_le_add hz (aj _),_,_,rfl⟩;rw[stp,e,if_pos rfl,aN];rfl
  ·refine⟨rfl,?_,by omega,_,_,rfl⟩;rw[stp,e,if_neg (by decide),bB]
 obtain⟨rfl,rfl,hz,v1,v2,rfl⟩:=p;rw[show ps.take (ps.map Zw).length=ps from by rw[lm,b7]]at hz ⊢;rw[lm,lm]at hz;refine al hb hc1 λH2 B1 S01 e1 n1=>?_;have hnd:=KY li.pl.nd;have h14:(homesOf ps).length<=6:=by omega
 have cp:∀m:Nat,m<=14->CPow 1 (m:Int):=λm hm=>⟨by omega,by omega,by decide⟩;have pw:∀m:Nat,m<=6->(1:Int)<=1*2 ^ m/\(1:Int)*2 ^ m<=64:=by decide
 obtain⟨pw1,pw2⟩:=pw _ h14;refine⟨_,rfl,_,rfl,c1,_,rfl,.inl (SqL.of e1),_,_,rfl,rfl,cp _ (by rw[lm];omega),_,_,rfl,rfl,b,_,rfl,B1,?_,?_,λH3 n B3 S13 an fn=>?_⟩
 ·rw[lm,a8];omega
 ·rw[lm,a8];omega
 have S03:=S01.trans S13;have f1:=S13 _ _ e1 n1;obtain⟨Tn,tn⟩:=an.thB (b:=b) (H:=H3);generalize hP:(1:Int)*2 ^ (homesOf ps).length=PP at pw1 pw2;have bd:K1.Zp n 0 (1*2 ^ (homesOf ps).length-1)=false->∀d,H3 d=none->∀u,upd H3 d (.tup [.str "homes",n]) u=none->∀q,upd (upd H3 d (.tup [.str "homes",n])) u (.tup [.str "homes",n]) q=none->Q (.ref q) (upd (upd (upd H3 d (.tup [.str "homes",n])) u (.tup [.str "homes",n])) q (.tup [.ref d,.ref u])):=λhw d hd u hu=>by have B4:=B3.new (o:=.tup [.str "homes",n]) hd;have S34:=(Zh.refl b H3).new' (o:=.tup [.str "homes",n]) hd;have S45:=(Zh.refl b (upd H3 d (.tup [.str "homes",n]))).new' (o:=.tup [.str "homes",n]) hu;obtain⟨dn,fd,fs⟩:=id fn;exact YU k (B4.new hu) (S03.trans (S34.trans S45)) (o:=.homes n) ((Nu (B4.new hu) li (S45 _ _ Ze (B3.ne hd)) (tn.same (S34.trans S45))).2 hw) ⟨Ze,dn,λ_ _=>.of (fd _),fs⟩
 refine⟨_,rfl,n,Tn,rfl,tn.1,_,rfl,?_⟩;rcases an.whole with⟨w1,w2⟩|⟨m,rfl,w1,w2⟩
 ·rw[w1];refine iteT ?_;exact⟨_,rfl,zl,λd hd=>⟨_,rfl,zl,λu hu=>⟨zl,bd (w2 _ _) d hd u hu⟩⟩⟩
 rw[w1];refine iteF ?_;refine⟨_,rfl,_,_,rfl,rfl,_,rfl,?_⟩;refine ZE (λh0=>?_) (λh0=>?_)
 ·refine⟨_,rfl,c1,_,rfl,.inl (SqL.of f1),_,_,rfl,rfl,cp _ (by rw[lm];omega),_,_,rfl,rfl,_,rfl,?_⟩;rw[lm,a8,hP];cases h1:decide (m<PP)with
 |false=>
   refine iteT ?_;exact⟨_,rfl,zl,λd hd=>⟨_,rfl,zl,λu hu=>⟨zl,bd (by rw[w2,hP,decide_eq_false (p:=m<=PP-1) (by have:=of_decide_eq_false h1;omega),Bool.and_false]) d hd u hu⟩⟩⟩
 |true=>
   refine iteF ?_;have m0:0<=m:=of_decide_eq_true h0;have m1:=of_decide_eq_true h1;have hw:K1.Zp (.int m) 0 (1*2 ^ (homesOf ps).length-1)=true:=by rw[w2,h0,hP,decide_eq_true (p:=m<=PP-1) (by omega)];rfl
   have pl3:=pl.same S03;refine⟨zl,λq hq=>?_⟩;refine al B3 hq λH4 B4 S34 e4 nq=>?_;have bl:(ZH m ps).length=ps.length:=by unfold ZH;rw[lm]
   refine ixL 1 (hp (S03.trans S34)) rfl ⟨l1,rfl,⟨_,SqL.of (pl3.same S34).2.choose_spec.1⟩,?_⟩;refine Vm (J:=Itl K l1) (ps.map Zw).length (λi σ' H'=>Zu H' b/\Zh b H3 H'/\(∃xs,H' q=some (.lst xs)/\Yg b H' xs (((ZH m ps).take i).map Zw))/\∃v1 v2,σ'=[some (.ref b),some (.ref p),v1,v2,some (.ref c1),some (.int m),some (.ref q)]) ⟨B4,S34,⟨[],e4,rfl,λi x r h=>by simp at h⟩,none,none,rfl⟩ (λi σ' H' hi pv=>(pl3.same pv.2.1).go hi) (λσ' H' pv=>(pl3.same pv.2.1).stop) (λi σ' H' x H5 hi pv yl=>?_) (λσ' H' pv=>?_)
   ·obtain⟨bx,sm,⟨xs,hq',its⟩,v1,v2,rfl⟩:=pv;have hi':i<ps.length:=by simpa using hi
    have e0:ps[i]?=some ps[i]:=gE hi';obtain⟨rfl,a,rfl,na,ha⟩:=(pl3.same sm).item (r:=Zw ps[i]) (by rw[ak,e0];rfl) yl;have psm:ps[i]∈ps:=aW hi';have c1':=sm _ _ f1 n1;have fin:∀r:Option Int,(if ps[i].1∈ZS m 0 (homesOf ps)then(ps[i].1,some 0)else ps[i])=(ps[i].1,r)->∀a',H5 a'=none->Zu (upd (upd H5 a' (.tup [.str ps[i].1,Yn r])) q (.lst (xs++[.ref a']))) b/\Zh b H3 (upd (upd H5 a' (.tup [.str ps[i].1,Yn r])) q (.lst (xs++[.ref a'])))/\∃ys,upd (upd H5 a' (.tup [.str ps[i].1,Yn r])) q (.lst (xs++[.ref a'])) q=some (.lst ys)/\Yg b (upd (upd H5 a' (.tup [.str ps[i].1,Yn r])) q (.lst (xs++[.ref a']))) ys (((ZH m ps).take (i+1)).map Zw):=λr er a' ha'=>by
     have S6:=(Zh.refl b H5).new' (o:=.tup [.str ps[i].1,Yn r]) ha';refine⟨(bx.new ha').same_ne nq,Gw (sm.trans S6) (Zh.refl b H3) nq hq,_,Ze,?_⟩;have stp:(ZH m ps).take (i+1)=(ZH m ps).take i++[(ps[i].1,r)]:=by rw[bY];unfold ZH;rw[ak,e0,cu,er];rfl
     rw[stp,aN];exact((its.same S6).app (.one (bx.ne ha') Ze)).put (S6 _ _ hq' nq)
    have sz:xs.length<av:=b6 (by rw[its.1,lm,aL];omega:xs.length<=100) (by decide);refine⟨a,_,rfl,SqT.of ha,rfl,_,_,rfl,_,_,rfl,rfl,?_⟩;refine⟨_,rfl,rfl,_,rfl,?_⟩;rw[VA];cases hr:ps[i].2 with
   |some j=>
     refine iteF ?_;have nc:ps[i].1∉ZS m 0 (homesOf ps):=λh=>by have h2:=GE.mp (JV h);have:=Wo li.pl.nd psm h2;rw[hr]at this;cases this
     refine⟨_,rfl,.inl ⟨rfl,_,SqL.of hq'⟩,_,rfl,_,rfl,zl,λa' ha'=>⟨q,xs,_,rfl,rfl,by rw[Zj (Zk hq' ha')];exact hq',sz,?_⟩⟩;obtain⟨g1,g2,g3⟩:=fin (some j) (by rw[if_neg nc,<-hr]) a' ha';exact⟨g1,g2,g3,_,_,rfl⟩
   |none=>
     refine iteT ?_;have hm:ps[i].1∈homesOf ps:=GE.mpr (by rw[<-hr];exact psm);obtain⟨j,hj⟩:=aY.mp hm;have hjl:=(ai.mp hj).1;have first:∀m',m'<j->(homesOf ps)[m']?≠some ps[i].1:=λm' hm' h=>by have:=(List.getElem?_inj (by omega:m'<(homesOf ps).length) hnd).mp (h.trans hj.symm);omega
     have pj:=pw j (by omega);refine⟨_,rfl,_,rfl,.inl ⟨rfl,_,SqL.of c1'⟩,_,rfl,c1,homesOf ps,ps[i].1,j,rfl,rfl,c1',hj,first,_,_,rfl,rfl,cp j (by omega),_,_,rfl,rfl,⟨?_,?_⟩,_,_,rfl,rfl,by show(0:Int)<2;decide,rfl,_,rfl,?_⟩
     ·rw[a8];omega
     ·rw[a8];omega
     rw[a8];have cl:=Pm m0 hnd (i:=0) hj;rw[Nat.zero_add]at cl;refine ZE (λe=>?_) (λe=>?_)
     ·have e':m / (1*2 ^ j) % 2=0:=by simpa using e
      refine⟨_,rfl,.inl ⟨rfl,_,SqL.of hq'⟩,_,rfl,_,rfl,zl,λa' ha'=>⟨q,xs,_,rfl,rfl,by rw[Zj (Zk hq' ha')];exact hq',sz,?_⟩⟩;obtain⟨g1,g2,g3⟩:=fin (some 0) (by rw[if_pos (cl.mpr e')]) a' ha';exact⟨g1,g2,g3,_,_,rfl⟩
     ·have e':¬m / (1*2 ^ j) % 2=0:=by simpa using e
      refine⟨_,rfl,.inl ⟨rfl,_,SqL.of hq'⟩,_,rfl,_,rfl,zl,λa' ha'=>⟨q,xs,_,rfl,rfl,by rw[Zj (Zk hq' ha')];exact hq',sz,?_⟩⟩;obtain⟨g1,g2,g3⟩:=fin none (by rw[if_neg (λh=>e' (cl.mp h)),<-hr]) a' ha';exact⟨g1,g2,g3,_,_,rfl⟩
   ·obtain⟨B5,S35,⟨xs,hq5,its⟩,v1,v2,rfl⟩:=pv;clear e4 S34 B4;rw[show(ZH m ps).take (ps.map Zw).length=ZH m ps from aZ (by rw[lm,bl];exact aj _)]at its;have S05:=S03.trans S35;refine⟨_,rfl,zl,λd hd=>?_⟩;refine al2 B5 hd λH6 B6 S56 ed nd=>?_;have S06:=S05.trans S56;refine ixL 0 (hp S06) rfl ⟨_,rfl,zl,λc7 hc7=>?_⟩;refine al2 B6 hc7 λH7 B7 S67 e7 n7=>?_;have S07:=S06.trans S67;refine⟨_,rfl,_,rfl,p,_,rfl,SqL.of (hp S07),λc8 hc8=>?_⟩;refine al2E (congrArg _ (Uy _ (by decide) (by show(2:Int)<=5;decide))) B7 hc8 λH8 B8 S78 e8 _=>?_;refine⟨c7,c8,_,_,rfl,rfl,S78 _ _ e7 n7,e8,zl,λp9 hp9=>?_⟩;refine al B8 hp9 λH9 B9 S89 e9 n9=>?_;refine⟨zl,λu10 hu10=>⟨zl,?_⟩⟩;have B10:=B9.new (o:=.tup [.str "made",.ref p9]) hu10;have S910:=(Zh.refl b H9).new' (o:=.tup [.str "made",.ref p9]) hu10;have e10:upd H9 u10 (.tup [.str "made",.ref p9]) u10=some (.tup [.str "made",.ref p9]):=Ze;generalize upd H9 u10 (.tup [.str "made",.ref p9])=H10 at B10 S910 e10 ⊢;have S610:=((S67.trans S78).trans S89).trans S910;have S010:=S06.trans S610;have li':=li.homes m;have tb10:=tb.same S010;have rows:ZD b H10 q ((ZH m ps).map Zw):=(its.same (S56.trans S610)).lst nq ((S56.trans S610) _ _ hq5 nq);exact YU k B10 S010 ((Nu (c:=c) B10 li (S610 _ _ ed nd) (.int m)).1 m rfl hw) ⟨p9,q,l2,l3,l4,e10,⟨n9,S910 _ _ e9 n9,rows,tb10.rd,tb10.wy,tb10.gr⟩,li'.ok,λ_=>⟨_,li'⟩⟩
 ·refine⟨_,rfl,?_⟩;refine iteT ?_;exact⟨_,rfl,zl,λd hd=>⟨_,rfl,zl,λu hu=>⟨zl,bd (by rw[w2,h0];rfl) d hd u hu⟩⟩⟩
theorem iteN{p:Prop}[Decidable p]{A B:Prop}(h:¬p)(b:B):if decide p=true then A else B:=by rw[decide_eq_false h];exact b
theorem iteY{p:Prop}[Decidable p]{A B:Prop}(h:p)(a:A):if decide p=true then A else B:=by rw[decide_eq_true h];exact a
theorem GV:FnScope [q_b,q_w,q_s,"_law_way_here"] [q_b,q_w,q_s] (Zg T.f__law_deed):=scO (by decide +kernel)
theorem WW(CT:Can P w K mg base 1 "_law_take" [q_b,"_law_many"] YS)(C0:Can P w K mg base 4 "_law_more" [q_b,q_w,q_s] (YM c))(C1:Can P w K mg base 4 "_law_less" [q_b,q_w,q_s] (YM c))(C2:Can P w K mg base 4 "_law_seats" [q_b,q_w,q_s] (YM c))(C3:Can P w K mg base 4 "_law_later" [q_b,q_w,q_s] (YM c))(C4:Can P w K mg base 4 "_law_groups" [q_b,q_w,q_s] (YM c))(C5:Can P w K mg base 4 "_law_homes" [q_b,q_w] (QB c))(D:Df K mg "_law_deed" T.f__law_deed [q_b,q_w,q_s]):Can P w K mg base 5 "_law_deed" [q_b,q_w,q_s] (YM c):=by
 refine D.cn GV λf cdv A outer s H vs Q E hr h=>?_;obtain⟨b,p,l1,l2,l3,l4,T,ps,z,rfl,hb,tb,li,k⟩:=h;refine⟨_,(Zf (st 3 GV.nd (cn CT hr (Za (pv 0) (Za Zd Zc)))) (Zf (ZC (Zr Yl (pv 3) Zd (Zx _)) (Zi (Zl (cn C0 hr (Za (pv 0) (Za (pv 1) (Za (pv 2) Zc)))))) Zq) (Zf (ZC (Zr Yl (pv 3) Zd (Zx _)) (Zi (Zl (cn C1 hr (Za (pv 0) (Za (pv 1) (Za (pv 2) Zc)))))) Zq) (Zf (ZC (Zr Yl (pv 3) Zd (Zx _)) (Zi (Zl (cn C2 hr (Za (pv 0) (Za (pv 1) (Za (pv 2) Zc)))))) Zq) (Zf (ZC (Zr Yl (pv 3) Zd (Zx _)) (Zi (Zl (cn C3 hr (Za (pv 0) (Za (pv 1) (Za (pv 2) Zc)))))) Zq) (Zf (ZC (Zr Yl (pv 3) Zd (Zx _)) (Zi (Zl (cn C4 hr (Za (pv 0) (Za (pv 1) (Za (pv 2) Zc)))))) Zq) (Zi (Zl (cn C5 hr (Za (pv 0) (Za (pv 1) Zc))))))))))),?_⟩;try dsimp only[cxOf,Cx.nox]
 refine tkC hb (λway H1 w0 w6 B1 S1=>?_);have tb1:=tb.same S1;have k1:∀H' q d u o,Zu H' b->Zh b H1 H'->H' q=some (.tup [.ref d,.ref u])->Deed c b H' d T o->JK b H' u o z->Q (.ref q) H':=λH' q d u o B' S'=>k H' q d u o B' (S1.trans S');have dd:YM c [.ref b,.ref p,.str z] H1 Q E0:=⟨b,p,l1,l2,l3,l4,T,ps,z,rfl,B1,tb1,li,k1⟩;iterate 5
  refine⟨_,rfl,rfl,_,rfl,?_⟩;refine ZE (λ_=>⟨_,rfl,_,rfl,_,rfl,dd⟩) (λ_=>?_)
 exact⟨_,rfl,_,rfl,b,p,l1,l2,l3,l4,T,ps,z,rfl,B1,tb1,li,k1⟩
theorem QD:FnScope [q_t,"_law_deed_here"] [q_t,"_law_deed_here"] (Zg T.f__law_made):=scO (by decide +kernel)
theorem WT(Z:TCl K c.C)(M0:CanM P w K mg base (CX1 P w) 10 c.C "with_ride" ["self","row"] (VW c.C c.Cb))(M1:CanM P w K mg base (CX1 P w) 10 c.C "without_ride" ["self","name"] (Gq c.C c.Cb c.Cn))(M2:CanM P w K mg base (CX1 P w) 11 c.C "with_seats" ["self","name","seats"] (J7 c.C c.Cb c.Cn))(M3:CanM P w K mg base (CX1 P w) 11 c.C "with_later" ["self","name","by"] (J8 c.C c.Cb c.Cn c.Ct))(M4:CanM P w K mg base (CX1 P w) 9 c.C "with_groups" ["self","rows"] (JL c.C c.Cb))(M5:CanM P w K mg base (CX1 P w) 9 c.C "with_homes" ["self","bits"] (J9 c.C c.Cb c.Ch))(D:Df K mg "_law_made" T.f__law_made [q_t,"_law_deed_here"]):CanX P w K mg base 12 "_law_made" [q_t,"_law_deed_here"] (PD c):=by
 refine D.cnX QD λf cdv A outer s H vs Q E hr h=>?_;obtain⟨t,d,fs,rfl,tb,h⟩:=h;obtain⟨dx,ht⟩:=id tb.at_;refine⟨_,(Zf (ZC (Zr Yl (it K (pv 1) Zd) Zn (Zx _)) (Zi (Zl (ZK M0 Z.cl Z1 (hr.mono (by decide)) (pv 0) (Za (it K (pv 1) Zd) Zc)))) Zq) (Zf (ZC (Zr Yl (it K (pv 1) Zd) Zn (Zx _)) (Zi (Zl (ZK M1 Z.cl Z1 (hr.mono (by decide)) (pv 0) (Za (it K (pv 1) Zd) Zc)))) Zq) (Zf (ZC (Zr Yl (it K (pv 1) Zd) Zn (Zx _)) (Zi (Zl (ZK M2 Z.cl Z1 (hr.mono (by decide)) (pv 0) (Za (it K (pv 1) Zd) (Za (it K (pv 1) Zd) Zc))))) Zq) (Zf (ZC (Zr Yl (it K (pv 1) Zd) Zn (Zx _)) (Zi (Zl (ZK M3 Z.cl Z1 (hr.mono (by decide)) (pv 0) (Za (it K (pv 1) Zd) (Za (it K (pv 1) Zd) Zc))))) Zq) (Zf (ZC (Zr Yl (it K (pv 1) Zd) Zn (Zx _)) (Zi (Zl (ZK M4 Z.cl Z1 (hr.mono (by decide)) (pv 0) (Za (it K (pv 1) Zd) Zc)))) Zq) (Zi (Zl (ZK M5 Z.cl Z1 (hr.mono (by decide)) (pv 0) (Za (it K (pv 1) Zd) Zc))))))))),?_⟩;try dsimp only[cxOf,Cx.nox]
 rcases h with⟨v,hd,h⟩|⟨v,hd,h⟩|⟨v,u,hd,h⟩|⟨v,u,hd,h⟩|⟨v,hd,h⟩|⟨v,hd,h⟩
 ·refine ixT 0 hd rfl ⟨rfl,_,rfl,?_⟩;refine iteY rfl ?_;exact mthV ht (tb.only _ (by decide +kernel)) (ixT 1 hd rfl h)
 ·iterate 1
   refine ixT 0 hd rfl ⟨rfl,_,rfl,?_⟩;refine iteN (by decide +kernel) ?_
  refine ixT 0 hd rfl ⟨rfl,_,rfl,?_⟩;refine iteY rfl ?_;exact mthV ht (tb.only _ (by decide +kernel)) (ixT 1 hd rfl h)
 ·iterate 2
   refine ixT 0 hd rfl ⟨rfl,_,rfl,?_⟩;refine iteN (by decide +kernel) ?_
  refine ixT 0 hd rfl ⟨rfl,_,rfl,?_⟩;refine iteY rfl ?_;exact mthV ht (tb.only _ (by decide +kernel)) (ixT 1 hd rfl (ixT 2 hd rfl h))
 ·iterate 3
   refine ixT 0 hd rfl ⟨rfl,_,rfl,?_⟩;refine iteN (by decide +kernel) ?_
  refine ixT 0 hd rfl ⟨rfl,_,rfl,?_⟩;refine iteY rfl ?_;exact mthV ht (tb.only _ (by decide +kernel)) (ixT 1 hd rfl (ixT 2 hd rfl h))
 ·iterate 4
   refine ixT 0 hd rfl ⟨rfl,_,rfl,?_⟩;refine iteN (by decide +kernel) ?_
  refine ixT 0 hd rfl ⟨rfl,_,rfl,?_⟩;refine iteY rfl ?_;exact mthV ht (tb.only _ (by decide +kernel)) (ixT 1 hd rfl h)
 ·iterate 5
   refine ixT 0 hd rfl ⟨rfl,_,rfl,?_⟩;refine iteN (by decide +kernel) ?_
  exact mthV ht (tb.only _ (by decide +kernel)) (ixT 1 hd rfl h)
end
def Do(c:Cs)(H:Hp)(f:ae)(o:Out):Prop:=match o with
|.made T=>∃x,H f=some (.tup [.str "made",.ref x])/\Tel H c.C x T
|.ride v=>H f=some (.tup [.str "ride",v])
|.turn v=>H f=some (.tup [.str "turn",v])
|.homes v=>H f=some (.tup [.str "homes",v])
|.bad z a y=>∃q,H f=some (.tup [.str "bad",.ref q])/\H q=some (.tup [z,a,y])
structure Four(K:aa)(mg:Str->Option ac)(Qa:ae)(c:Cs):Prop where
 x1:∃fI,XK1 K mg "NoRide" c.Cn fI Qa
 n1:Z8 K c.Cn "name"
 x2:∃fI,XK1 K mg "NoTurn" c.Ct fI Qa
 n2:Z8 K c.Ct "found"
 x3:∃fI,XK1 K mg "NoHomes" c.Ch fI Qa
 n3:Z8 K c.Ch "found"
 x4:∃fI,XK1 K mg "BadTable" c.Cb fI Qa
 n4:Z8 K c.Cb "part"/\Z8 K c.Cb "at"/\Z8 K c.Cb "why"
 m21:(ay c.Ct::.ref Qa::bmV).contains (.ref c.Cn)=false
 m31:(ay c.Ch::.ref Qa::bmV).contains (.ref c.Cn)=false
 m32:(ay c.Ch::.ref Qa::bmV).contains (.ref c.Ct)=false
 m41:(ay c.Cb::.ref Qa::bmV).contains (.ref c.Cn)=false
 m42:(ay c.Cb::.ref Qa::bmV).contains (.ref c.Ct)=false
 m43:(ay c.Cb::.ref Qa::bmV).contains (.ref c.Ch)=false
def ErE(Cn:ae)(f:Str)(H:Hp)(x:V):XK:=λc dd H'=>c=.ref Cn/\∃d,dd=some d/\H' d=some (XD d [(f,x)])/\Same H H'
theorem K7{Cn:ae}{f:Str}{H H1:Hp}{x:V}(s:Same H H1):Err1 Cn f x H1 (ErE Cn f H x):=λH' d hd h k=>⟨rfl,d,rfl,h,λc o e=>by rw[k c (λz=>by rw[z]at e;rw[s d o e]at hd;cases hd)];exact s c o e⟩
def Qz(c:Cs):Sp:=λvs H Q _=>∃(t d:ae)(o:Out),vs=[.ref t,.ref d]/\(∀Q E,OutQ c H o Q E->PD c [.ref t,.ref d] H Q E)/\∀H' f,Same H H'->Do c H' f o->Q (.ref f) H'
section
variable {P:aA}{w:aI}{K:aa}{mg:Str->Option ac}{base:aX}{c:Cs}{Qa:ae}
theorem Z6:FnScope [q_t,"_law_deed_here","_law_told_here","e"] [q_t,"_law_deed_here"] (Zg T.f__law_told):=scO (by decide +kernel)
theorem Sh(N:Four K mg Qa c)(CM:CanX P w K mg base 12 "_law_made" [q_t,"_law_deed_here"] (PD c))(D:Df K mg "_law_told" T.f__law_told [q_t,"_law_deed_here"]):Can P w K mg base 13 "_law_told" [q_t,"_law_deed_here"] (Qz c):=by
 obtain⟨fm,fdm,FM,hm,hk,bM⟩:=CM;obtain⟨fI1,X1⟩:=N.x1;obtain⟨fI2,X2⟩:=N.x2;obtain⟨fI3,X3⟩:=N.x3;obtain⟨fI4,X4⟩:=N.x4;refine D.cn Z6 λf cdv A outer s H vs Q E hr h=>?_;obtain⟨t,d,o,rfl,hM,k⟩:=h;have hit:∀{C:ae},(ay C::.ref Qa::bmV).contains (.ref C)=true:=by intro C;rw[dX];simp
 refine⟨_,Zf (ZM (i:=2) Z6.nd rfl (aJ rfl) ZN) (Zf (D1 ⟨rfl,rfl⟩ (λE' pn' pp E hp=>(Zi (ZM (i:=2) Z6.nd rfl (aJ rfl) (Zv (Zb Zn (Zb (RM FM hr rfl hm hk bM .nil hp (Zb (pv 0) (Zb (pv 1) Zc))) Zc)))))) (Tq (i:=3) X1.xb rfl X1.mg Z6.nd rfl rfl (λx=>(Zi (ZM (i:=2) Z6.nd rfl (aJ rfl) (Zv (Zb Zn (Zb (VB (pv 3)) Zc)))))) (Tq (i:=3) X2.xb rfl X2.mg Z6.nd rfl rfl (λx=>(Zi (ZM (i:=2) Z6.nd rfl (aJ rfl) (Zv (Zb Zn (Zb (VB (pv 3)) Zc)))))) (Tq (i:=3) X3.xb rfl X3.mg Z6.nd rfl rfl (λx=>(Zi (ZM (i:=2) Z6.nd rfl (aJ rfl) (Zv (Zb Zn (Zb (VB (pv 3)) Zc)))))) (Tq (i:=3) X4.xb rfl X4.mg Z6.nd rfl rfl (λx=>(Zi (ZM (i:=2) Z6.nd rfl (aJ rfl) (Zv (Zb Zn (Zb (Zv (Zb (VB (pv 3)) (Zb (VB (pv 3)) (Zb (VB (pv 3)) Zc)))) Zc)))))) EC))))) (Zi (Zl (pv 2)))),?_⟩;try dsimp only[cxOf,Cx.nox]
 cases o with
|made T=>refine⟨λ_ _ _=>False,?_,λ_ _ _ z=>z.elim⟩;refine⟨rfl,_,rfl,_,rfl,hM _ _ λH1 x s1 tel=>?_⟩;refine⟨zl,λq hq=>?_⟩;have s2:=sameNew (o:=.tup [.str "made",.ref x]) (Same.refl H1) hq;exact⟨_,rfl,k _ q (s1.trans s2) ⟨x,Ze,tel.same s2⟩⟩
|ride v=>
  refine⟨ErE c.Cn "name" H v,⟨rfl,_,rfl,_,rfl,hM _ _ λH1 s1=>K7 s1⟩,?_⟩;rintro cc dd H' ⟨rfl,d',rfl,hd',sm⟩;refine⟨c.Cn,rfl,λy hy=>?_⟩;refine⟨fI1,Qa,X1.xc,.inl ⟨hit,?_⟩⟩;have hxd:d'≠y:=Zk hd' hy;have hd1:upd H' y (ErrC y c.Cn (some d')) d'=some (XD d' [("name",v)]):=by rw[Zj hxd];exact hd'
  have hx1:NF (upd H' y (ErrC y c.Cn (some d'))) y c.Cn d':=.inl Ze;have sm1:Same H (upd H' y (ErrC y c.Cn (some d'))):=sameNew sm hy;generalize upd H' y (ErrC y c.Cn (some d'))=H1 at hd1 hx1 sm1 ⊢;refine⟨_,rfl,y,c.Cn,d',_,_,rfl,hx1,hd1,X1.xr,N.n1,rfl,zl,λq hq=>?_⟩;exact⟨_,rfl,k _ q (sameNew sm1 hq) Ze⟩
|turn v=>
  refine⟨ErE c.Ct "found" H v,⟨rfl,_,rfl,_,rfl,hM _ _ λH1 s1=>K7 s1⟩,?_⟩;rintro cc dd H' ⟨rfl,d',rfl,hd',sm⟩;refine⟨c.Ct,rfl,λy hy=>?_⟩;refine⟨fI2,Qa,X2.xc,.inr ⟨N.m21,?_⟩⟩;refine⟨fI2,Qa,X2.xc,.inl ⟨hit,?_⟩⟩;have hxd:d'≠y:=Zk hd' hy;have hd1:upd H' y (ErrC y c.Ct (some d')) d'=some (XD d' [("found",v)]):=by rw[Zj hxd];exact hd'
  have hx1:NF (upd H' y (ErrC y c.Ct (some d'))) y c.Ct d':=.inl Ze;have sm1:Same H (upd H' y (ErrC y c.Ct (some d'))):=sameNew sm hy;generalize upd H' y (ErrC y c.Ct (some d'))=H1 at hd1 hx1 sm1 ⊢;refine⟨_,rfl,y,c.Ct,d',_,_,rfl,hx1,hd1,X2.xr,N.n2,rfl,zl,λq hq=>?_⟩;exact⟨_,rfl,k _ q (sameNew sm1 hq) Ze⟩
|homes v=>
  refine⟨ErE c.Ch "found" H v,⟨rfl,_,rfl,_,rfl,hM _ _ λH1 s1=>K7 s1⟩,?_⟩;rintro cc dd H' ⟨rfl,d',rfl,hd',sm⟩;refine⟨c.Ch,rfl,λy hy=>?_⟩;refine⟨fI3,Qa,X3.xc,.inr ⟨N.m31,?_⟩⟩;refine⟨fI3,Qa,X3.xc,.inr ⟨N.m32,?_⟩⟩;refine⟨fI3,Qa,X3.xc,.inl ⟨hit,?_⟩⟩;have hxd:d'≠y:=Zk hd' hy;have hd1:upd H' y (ErrC y c.Ch (some d')) d'=some (XD d' [("found",v)]):=by rw[Zj hxd];exact hd'
  have hx1:NF (upd H' y (ErrC y c.Ch (some d'))) y c.Ch d':=.inl Ze;have sm1:Same H (upd H' y (ErrC y c.Ch (some d'))):=sameNew sm hy;generalize upd H' y (ErrC y c.Ch (some d'))=H1 at hd1 hx1 sm1 ⊢;refine⟨_,rfl,y,c.Ch,d',_,_,rfl,hx1,hd1,X3.xr,N.n3,rfl,zl,λq hq=>?_⟩;exact⟨_,rfl,k _ q (sameNew sm1 hq) Ze⟩
|bad z a yy=>
  refine⟨BadE c.Cb H z a yy,⟨rfl,_,rfl,_,rfl,hM _ _ λH1 s1=>EN s1⟩,?_⟩;rintro cc dd H' ⟨rfl,d',rfl,hd',sm⟩;refine⟨c.Cb,rfl,λy hy=>?_⟩;refine⟨fI4,Qa,X4.xc,.inr ⟨N.m41,?_⟩⟩;refine⟨fI4,Qa,X4.xc,.inr ⟨N.m42,?_⟩⟩;refine⟨fI4,Qa,X4.xc,.inr ⟨N.m43,?_⟩⟩;refine⟨fI4,Qa,X4.xc,.inl ⟨hit,?_⟩⟩;have hxd:d'≠y:=Zk hd' hy;have hd1:upd H' y (ErrC y c.Cb (some d')) d'=some (XD d' [("part",z),("at",a),("why",yy)]):=by rw[Zj hxd];exact hd'
  have hx1:NF (upd H' y (ErrC y c.Cb (some d'))) y c.Cb d':=.inl Ze;have sm1:Same H (upd H' y (ErrC y c.Cb (some d'))):=sameNew sm hy;generalize upd H' y (ErrC y c.Cb (some d'))=H1 at hd1 hx1 sm1 ⊢;refine⟨_,rfl,y,c.Cb,d',_,_,rfl,hx1,hd1,X4.xr,N.n4.1,rfl,_,rfl,y,c.Cb,d',_,_,rfl,hx1,hd1,X4.xr,N.n4.2.1,rfl,_,rfl,y,c.Cb,d',_,_,rfl,hx1,hd1,X4.xr,N.n4.2.2,rfl,zl,λq1 hq1=>⟨zl,λq hq=>?_⟩⟩;have s2:=sameNew (o:=.tup [z,a,yy]) sm1 hq1;have s3:=sameNew (o:=.tup [.str "bad",.ref q1]) (Same.refl (upd H1 q1 (.tup [z,a,yy]))) hq;exact⟨_,rfl,k _ q (s2.trans s3) ⟨q1,Ze,s3 _ _ Ze⟩⟩
end
def My(K:aa)(i:Nat)(j:Int):TE:=tCB (V1 K) (JZ (tOp (rIxL K) (tVar i) (tC (.int j))) tNil)
def tTab(K:aa)(i:Nat):TE:=tTup (JZ (tOp (rIxL K) (tVar i) (tC (.int 0))) (JZ (My K i 1) (JZ (My K i 2) (JZ (My K i 3) (JZ (My K i 4) tNil)))))
theorem VD{K:aa}{σ:L2.St}{H:Hp}{Q:VK}{i j:Nat}{pw l:ae}{us xs:List V}(hv:σ[i]?=some (some (.ref pw)))(hpw:H pw=some (.lst us))(hj:us[j]?=some (.ref l))(hl:H l=some (.lst xs))(k:∀m,H m=none->Q (.ref m) (upd H m (.tup xs))):My K i j σ H Q:=⟨_,hv,pw,_,_,_,rfl,rfl,SqL.of hpw,ZL hj,l,xs,rfl,.inl ⟨SqL.of hl,k⟩⟩
theorem W6{K:aa}{σ:L2.St}{H:Hp}{Q:VK}{i:Nat}{pw l1 l2 l3 l4:ae}{vT:V}{x1 x2 x3 x4:List V}(hv:σ[i]?=some (some (.ref pw)))(hpw:H pw=some (.lst [vT,.ref l1,.ref l2,.ref l3,.ref l4]))(h1:H l1=some (.lst x1))(h2:H l2=some (.lst x2))(h3:H l3=some (.lst x3))(h4:H l4=some (.lst x4))(k:∀H' q m1 m2 m3 m4,Same H H'->H' m1=some (.tup x1)->H' m2=some (.tup x2)->H' m3=some (.tup x3)->H' m4=some (.tup x4)->H' q=some (.tup [vT,.ref m1,.ref m2,.ref m3,.ref m4])->Q (.ref q) H'):tTab K i σ H Q:=by refine⟨_,hv,pw,_,0,_,rfl,rfl,SqL.of hpw,ZL (j:=0) rfl,?_⟩;refine VD (j:=1) hv hpw rfl h1 λm1 f1=>?_;refine nl2 f1 λH1 s1 e1=>?_;refine VD (j:=2) hv (s1 _ _ hpw) rfl (s1 _ _ h2) λm2 f2=>?_;refine nl2 f2 λH2 s2 e2=>?_;refine VD (j:=3) hv (s2 _ _ (s1 _ _ hpw)) rfl (s2 _ _ (s1 _ _ h3)) λm3 f3=>?_;refine nl2 f3 λH3 s3 e3=>?_;refine VD (j:=4) hv (s3 _ _ (s2 _ _ (s1 _ _ hpw))) rfl (s3 _ _ (s2 _ _ (s1 _ _ h4))) λm4 f4=>?_;refine nl f4 λH4 s4 e4=>?_;refine⟨zl,λq hq=>?_⟩;have s5:Same H4 (upd H4 q (.tup [vT,.ref m1,.ref m2,.ref m3,.ref m4])):=sameNew (Same.refl H4) hq;exact k _ q m1 m2 m3 m4 ((((s1.trans s2).trans s3).trans s4).trans s5) (s5 _ _ (s4 _ _ (s3 _ _ (s2 _ _ e1)))) (s5 _ _ (s4 _ _ (s3 _ _ e2))) (s5 _ _ (s4 _ _ e3)) (s5 _ _ e4) Ze
def SN(C:ae):Sp:=λvs H Q _=>∃(t:ae)(fs:List (Str×V))(n:Int)(l1 l2 l3 l4:ae),vs=[.ref t]/\Tab H C t fs/\fs.lookup ("turns":Str)=some (.int n)/\fs.lookup ("places":Str)=some (.ref l1)/\fs.lookup ("rides":Str)=some (.ref l2)/\fs.lookup ("ways":Str)=some (.ref l3)/\fs.lookup ("groups":Str)=some (.ref l4) /\∀q,H q=none->Q (.ref q) (upd H q (.tup [.int n,.ref l1,.ref l2,.ref l3,.ref l4]))
section
variable {P:aA}{w:aI}{K:aa}{mg:Str->Option ac}{base:aX}{C:ae}
theorem WK(Z:TCl K C)(D:DfM K C "told" "Table.told" T.m_Table_told ["self"]):CanM P w K mg base CX0 1 C "told" ["self"] (SN C):=by
 refine D.cn DQ λf cdv A outer s H vs Q E hr h=>?_;obtain⟨t,fs,n,l1,l2,l3,l4,rfl,tb,a0,a1,a2,a3,a4,kq⟩:=h;obtain⟨dx,ht⟩:=tb.at_;refine⟨_,Zi (Zl (Zv (Zb (ZG (pv 0) rfl) (Zb (ZG (pv 0) rfl) (Zb (ZG (pv 0) rfl) (Zb (ZG (pv 0) rfl) (Zb (ZG (pv 0) rfl) Zc))))))),?_⟩;try dsimp only[cxOf,Cx.nox]
 refine⟨_,rfl,t,C,dx,fs,_,rfl,ht,Z.cl,Z.na _ (by simp[fields]),a0,_,rfl,t,C,dx,fs,_,rfl,ht,Z.cl,Z.na _ (by simp[fields]),a1,_,rfl,t,C,dx,fs,_,rfl,ht,Z.cl,Z.na _ (by simp[fields]),a2,_,rfl,t,C,dx,fs,_,rfl,ht,Z.cl,Z.na _ (by simp[fields]),a3,_,rfl,t,C,dx,fs,_,rfl,ht,Z.cl,Z.na _ (by simp[fields]),a4,zl,λl hl=>?_⟩;exact kq l hl
end
theorem Qu{H:Hp}:∀hs:List Str,IsAll H (hs.map V.str) (hs.map dN)
|[]=>.nil
|z::hs=>.cons (.str z) (Qu hs)
theorem SL{H:Hp}{a:ae}{hs:List Str}(e:H a=some (.lst (hs.map V.str))):Is H (.ref a) (.list (hs.map dN)):=.lst e (Qu hs)
theorem Qt{hs:List Str}(h:∀z∈hs,GS z):(PyData.list (hs.map dN)).canLay0=true:=P7 (ds:=hs.map dN) λd hd=>by obtain⟨z,hz,rfl⟩:=aw.mp hd;exact(Atm.str (h z hz)).lay
theorem Mz:∀hs:List Str,cL (hs.map dN)=0
|[]=>rfl
|z::hs=>by show max 0 (cL (hs.map dN))=0;rw[Mz hs];rfl
theorem GT{hs:List Str}(h:∀z∈hs,GS z):dB (.list (hs.map dN))=true:=by unfold dB;rw[Qt h,decide_eq_true (by show cL (hs.map dN)+1<=64;rw[Mz];decide)];rfl
theorem Nj{T:Tb}(o:OkTb T){r:List V}(h:r∈T.t4):atI r 3=some (.int (ZQ r)):=by obtain⟨k1,hk⟩:=Mo o;have ro:=XI o (j:=4) (.inr (.inr (.inr rfl))) h;obtain⟨a,b,c,d,rfl⟩:=len4 ro.len;obtain⟨_,_,i,rfl,_⟩:=G0 (ro.why k1 (λ_=>hk.has) (300-ZQ [a,b,c,d]) (λ_=>by omega):YE k1 T.n _ b c d=.non);exact ZL (j:=3) rfl
theorem Mh{H:Hp}{a:ae}{ys:List V}(h:H a=some (.tup ys))(g:RowG ys):Is H (.ref a) (rowD ys):=.tup h (GD g.2)
theorem Mf{ys:List V}(g:RowG ys):dB (rowD ys)=true:=by unfold dB;rw[Mg g,dR];exact decide_eq_true (ax (RJ g).dp (by decide))
theorem P6{ys:List V}(h:ys.getD 0 .non=.str (nameOf ys)):atI ys 0=some (.str (nameOf ys)):=by
 cases ys with
|nil=>cases h
|cons y r=>have e:y=.str (nameOf (y::r)):=h;rw[<-e];exact ZL (j:=0) rfl
theorem Q4{H:Hp}{k:Kv}{t:List (List V)}{xs:List V}(d:RwDict k t xs)(rr:ZU H xs (t.map some)){i:Nat}{y:List V}(hy:t[i]?=some y):∃a,valV k (.inr (nameOf y))=some (.ref a)/\H a=some (.tup y):=by
 have hi:i<xs.length:=by rw[rr.1,lm];exact(ai.mp hy).1
 obtain⟨a,e,ha,_⟩:=rr.2 i xs[i] (some y) (gE hi) (by rw[ak,hy];rfl);exact⟨a,by rw[d.at_ i y xs[i] hy (gE hi),e],ha⟩
def Px(C:ae):Sp:=λvs H Q _=>∃(b t p l1 l2 l3 l4:ae)(T:Tb),vs=[.ref t,.ref p]/\Tel H C t T/\TbAt b H p T l1 l2 l3 l4/\OkTb T/\∀H',Same H H'->Q (.bl true) H'
section
variable {P:aA}{w:aI}{K:aa}{mg:Str->Option ac}{base:aX}{C Cp Cn Cg:ae}
theorem XA:FnScope [q_t,q_w,"_law_due","_law_place","_law_room"] [q_t,q_w] (Zg T.f__law_tells):=scO (by decide +kernel)
noncomputable def X0:bH:=csx [(".0",.local),("_law_place",.local),("_law_room",.local)]
theorem UU:CompScope X0 (Zg T.f__law_tells):=⟨rfl,by decide +kernel,by decide +kernel,by decide +kernel⟩
theorem Jr:(["_law_place","_law_room"]:List Str).Nodup:=by decide +kernel
theorem UV:CompNames [q_t,q_w,"_law_due","_law_place","_law_room"] X0 ["_law_place","_law_room"] [none,none]:=.mk' (by decide +kernel)
noncomputable def XZ:bH:=csx [(".0",.local),("_law_row",.local)]
theorem UR:CompScope XZ (Zg T.f__law_tells):=⟨rfl,by decide +kernel,by decide +kernel,by decide +kernel⟩
theorem UT:(["_law_row"]:List Str).Nodup:=by decide +kernel
theorem US:CompNames [q_t,q_w,"_law_due","_law_place","_law_room"] XZ ["_law_row"] [none]:=.mk' (by decide +kernel)
noncomputable def XY:bH:=csx [(".0",.local),("_law_row",.local),(q_t,.free)]
theorem UO:CompScope XY (Zg T.f__law_tells):=⟨rfl,by decide +kernel,by decide +kernel,by decide +kernel⟩
theorem UQ:(["_law_row",q_t]:List Str).Nodup:=by decide +kernel
theorem UP:CompNames [q_t,q_w,"_law_due","_law_place","_law_room"] XY ["_law_row",q_t] [none,some 0]:=.mk' (by decide +kernel)
noncomputable def XX:bH:=csx [(".0",.local),("_law_row",.local),(q_t,.free)]
theorem UL:CompScope XX (Zg T.f__law_tells):=⟨rfl,by decide +kernel,by decide +kernel,by decide +kernel⟩
theorem UN:(["_law_row",q_t]:List Str).Nodup:=by decide +kernel
theorem UM:CompNames [q_t,q_w,"_law_due","_law_place","_law_room"] XX ["_law_row",q_t] [none,some 0]:=.mk' (by decide +kernel)
theorem Si(B:∀x∈Blts,mg x=none)(Z:TCl K C)(MT:CanM P w K mg base CX0 1 C "told" ["self"] (SN C))(MH:CanM P w K mg base CX0 1 C "homes" ["self"] (PK C))(MP:CanM P w K mg base CX0 1 C "people" ["self"] (Qx C))(MG:CanM P w K mg base CX0 2 C "is_group" ["self","thing"] (VM C "group_by_name"))(MR:CanM P w K mg base (CX1 P w) 3 C "group_row" ["self","name"] (Xz C Cg "group_by_name"))(MO:CanM P w K mg base (CX1 P w) 3 C "room_of" ["self","name"] (Xz C Cp "room_by_place"))(MI:CanM P w K mg base CX0 3 C "is_home" ["self","thing"] (MK C))(MD:CanM P w K mg base (CX1 P w) 3 C "ride_row" ["self","name"] (Xz C Cn "ride_by_name"))(D:Df K mg "_law_tells" T.f__law_tells [q_t,q_w]):Can P w K mg base 4 "_law_tells" [q_t,q_w] (Px C):=by
 refine D.cn XA λf cdv A outer s H vs Q E hr h=>?_;obtain⟨b,t,p,l1,l2,l3,l4,T,rfl,tel,tb,o,kq⟩:=h;obtain⟨fs,x1,x2,x3,x4,kk,tp,dd⟩:=tel;have g:=LU o;have sml:=g.sm;have shw:=sml.shw (by decide) (aj _);obtain⟨ps,et1,hps⟩:=Fj o;obtain⟨y1,_,h1,_,w1⟩:=tb.pl.part (o.flat (.inl rfl));obtain⟨y2,_,h2,_,w2⟩:=tb.rd.part (o.flat (.inr (.inl rfl)));obtain⟨y3,_,h3,_,w3⟩:=tb.wy.part (o.flat (.inr (.inr (.inl rfl))));obtain⟨y4,_,h4,_,w4⟩:=tb.gr.part (o.flat (.inr (.inr (.inr rfl))));obtain⟨m1,d1,_,_,a1,b1,q,c1,f1⟩:=id tp.tab.p;cases q;obtain⟨m2,d2,_,_,a2,b2,q,c2,f2⟩:=id tp.tab.r;cases q;obtain⟨m3,d3,_,_,a3,b3,q,c3,f3⟩:=id tp.tab.w;cases q;obtain⟨m4,d4,_,_,a4,b4,q,c4,f4⟩:=id tp.tab.g;cases q;have r1:=tp.rows _ (.inl rfl) _ _ rfl;have r2:=tp.rows _ (.inr (.inl rfl)) _ _ rfl;have r3:=tp.rows _ (.inr (.inr (.inl rfl))) _ _ rfl;have r4:=tp.rows _ (.inr (.inr (.inr rfl))) _ _ rfl;obtain⟨dx,ht⟩:=id tp.tab.tab.at_;have tab:∀{H':Hp},Same H H'->Tab H' C t fs:=λs=>⟨⟨dx,s _ _ ht⟩,tp.tab.tab.only⟩;have only:=tp.tab.tab.only;have is1:∀H1 q u1 u2 u3 u4,Same H H1->H1 u1=some (.tup y1)->H1 u2=some (.tup y2)->H1 u3=some (.tup y3)->H1 u4=some (.tup y4)->H1 q=some (.tup [.int T.n,.ref u1,.ref u2,.ref u3,.ref u4])->Is H1 (.ref q) (tabD T.n T.t1 T.t2 T.t3 T.t4):=λH1 q u1 u2 u3 u4 s1 e1 e2 e3 e4 eq=>W7 g e1 e2 e3 e4 (w1.same s1) (w2.same s1) (w3.same s1) (w4.same s1) eq;have is2:∀H1 q,Same H H1->H1 q=some (.tup [.int T.n,.ref m1,.ref m2,.ref m3,.ref m4])->Is H1 (.ref q) (tabD T.n T.t1 T.t2 T.t3 T.t4):=λH1 q s2 eq=>W7 g (s2 _ _ c1) (s2 _ _ c2) (s2 _ _ c3) (s2 _ _ c4) (r1.same s2) (r2.same s2) (r3.same s2) (r4.same s2) eq;clear sml;refine⟨_,(Zf (st 2 XA.nd (Zv (Za (il K (pv 1) Zd) (Za (Z3 (r:=V1 K) JJ rfl (B _ (by decide +kernel)) YX (Za (il K (pv 1) Zd) Zc)) (Za (Z3 (r:=V1 K) JJ rfl (B _ (by decide +kernel)) YX (Za (il K (pv 1) Zd) Zc)) (Za (Z3 (r:=V1 K) JJ rfl (B _ (by decide +kernel)) YX (Za (il K (pv 1) Zd) Zc)) (Za (Z3 (r:=V1 K) JJ rfl (B _ (by decide +kernel)) YX (Za (il K (pv 1) Zd) Zc)) Zc))))))) (Zf (ZC (Zr GY (ZJ (Ua hr) rfl (B _ (by decide +kernel)) dH (Za (Uq MT Z.cl Xw (hr.mono (by decide)) (pv 0)) Zc)) (ZJ (Ua hr) rfl (B _ (by decide +kernel)) dH (Za (pv 2) Zc)) (Zx _)) (Zi (Zl VO)) Zq) (Zf (ZC (Zr (P4 hr.units) (Uq MH Z.cl Xw (hr.mono (by decide)) (pv 0)) (Yy (scope:=X0) (N:=["_law_place","_law_room"]) (cp:=[none,none]) rfl UU UV (Yq (il K (pv 1) Zd)) (λC s H ex pn=>(JO (K:=K) (n:=2) rfl rfl (Zz (Zt (i:=0) Jr rfl (aJ rfl)) (Zz (Zt (i:=1) Jr rfl (aJ rfl)) Yd)))) (λC s H ex pn=>(XF (Zr Xq (pv 1) ZN (Zx _)))) (λC s H ex pn=>(pv 0))) (Zx _)) (Zi (Zl VO)) Zq) (Zf (ZC (Zr GY (Uq MP Z.cl Xw (hr.mono (by decide)) (pv 0)) (ZJ (Pp rfl) rfl (B _ (by decide +kernel)) PyProof.Rows.boot_sum (Za (Yy (scope:=XZ) (N:=["_law_row"]) (cp:=[none]) rfl UR US (Yq (il K (pv 1) Zd)) (λC s H ex pn=>(Zt (i:=0) UT rfl (aJ rfl))) (λC s H ex pn=>Yp) (λC s H ex pn=>(it K (pv 0) Zd))) Zc)) (Zx _)) (Zi (Zl VO)) Zq) (Zf (ZC (Zr (QM hr.units) (Yy (scope:=XY) (N:=["_law_row",q_t]) (cp:=[none,some 0]) rfl UO UP (Yq (il K (pv 1) Zd)) (λC s H ex pn=>(Zt (i:=0) UQ rfl (aJ rfl))) (λC s H ex pn=>(XF (PW.pt (Xv (ZW (ZX (ZK MG Z.cl Xw (hr.mono (by decide)) (pv 1) (Za (it K (pv 0) Zd) Zc)))) (Y6 (Zr (P4 hr.units) (ZK MR Z.cl P2 (hr.mono (by decide)) (pv 1) (Za (it K (pv 0) Zd) Zc)) (pv 0) (Zx _))))))) (λC s H ex pn=>(pv 0))) (ZO Zc) (Zx _)) (Zi (Zl VO)) Zq) (Zf (XJ dc rfl (Yq (il K (pv 1) Zd)) (XM rfl (Zz (Zt (i:=3) XA.nd rfl (aJ rfl)) (Zz (Zt (i:=4) XA.nd rfl (aJ rfl)) Yd))) (Zi (ZC (PW.pt (Xv (Zr GY (ZK MO Z.cl P2 (hr.mono (by decide)) (pv 0) (Za (pv 3) Zc)) (pv 4) (Zx _)) (Y6 (Zr GY (ZK MI Z.cl Xw (hr.mono (by decide)) (pv 0) (Za (pv 3) Zc)) (Xi Xq (pv 4) ZN (Zx _)) (Zx _))))) (Zi (Zl VO)) Zq))) (Zi (Zl (Xi (QN hr.units) (Yy (scope:=XX) (N:=["_law_row",q_t]) (cp:=[none,some 0]) rfl UL UM (Yq (il K (pv 1) Zd)) (λC s H ex pn=>(Zt (i:=0) UN rfl (aJ rfl))) (λC s H ex pn=>(XF (Zr (P4 hr.units) (ZK MD Z.cl P2 (hr.mono (by decide)) (pv 1) (Za (it K (pv 0) Zd) Zc)) (pv 0) (Zx _)))) (λC s H ex pn=>(pv 0))) (ZO Zc) (Zx _)))))))))),?_⟩;try dsimp only[cxOf,Cx.nox]
 generalize tabD T.n T.t1 T.t2 T.t3 T.t4=D0 at shw is1 is2;change tTab K 1 _ H _;refine W6 (i:=1) rfl tb.at_ h1 h2 h3 h4 λH1 q1 u1 u2 u3 u4 s1 e1 e2 e3 e4 eq1=>?_;have id1:=is1 H1 q1 u1 u2 u3 u4 s1 e1 e2 e3 e4 eq1;have lr:∀{H':Hp},Same H H'->ZD b H' l1 (ps.map Zw):=λs=>by rw[<-et1];exact tb.pl.same (Zh.of s)
 have hpl:(ps.map Zw).length<=av:=ax (by rw[lm];omega:(ps.map Zw).length<=1000) (by decide);have l4':T.t4.length<=300:=g.l4;have sz4:T.t4.length<=av:=ax l4' (by decide);have shn:∀{z:Str},GS z->z.length<=1000:=λh=>by have:=h.1;omega
 dsimp only[QY];refine sqI (R:=Same H) (λn hn=>?_) (λH2 s2=>?_)
 ·refine mthV (s1 _ _ ht) (only _ (by decide +kernel)) ⟨t,fs,T.n,m1,m2,m3,m4,rfl,tab s1,tp.tab.turns,a1,a2,a3,a4,λq2 hq2=>?_⟩;have s12:=sameNew (o:=.tup [.int T.n,.ref m1,.ref m2,.ref m3,.ref m4]) (Same.refl H1) hq2;have eq2:upd H1 q2 (.tup [.int T.n,.ref m1,.ref m2,.ref m3,.ref m4]) q2=some (.tup [.int T.n,.ref m1,.ref m2,.ref m3,.ref m4]):=Ze;change tNil _ (upd H1 q2 (.tup [.int T.n,.ref m1,.ref m2,.ref m3,.ref m4])) _;generalize upd H1 q2 (.tup [.int T.n,.ref m1,.ref m2,.ref m3,.ref m4])=H2 at s12 eq2 ⊢;have s2:=s1.trans s12;have id2:=is2 H2 q2 s2 eq2;refine⟨_,D0,rfl,id2,shw.sh,shw.dp,shw.len,_,rfl,_,D0,rfl,id1.same s12,shw.sh,shw.dp,shw.len,rfl,_,rfl,?_⟩;exact ZE (λe=>absurd e (by simp)) (λ_=>hn _ s2)
 clear id1 eq1 is1 is2 e1 e2 e3 e4;refine sqI (R:=Same H) (λn hx=>?_) (λH5 s5=>?_)
 ·have tr1:Xy H2 m1 (ps.map Zw):=⟨x1,s2 _ _ c1,by rw[<-et1];exact r1.same s2⟩;refine mthV (s2 _ _ ht) (only _ (by decide +kernel)) ⟨t,fs,m1,ps,rfl,tab s2,a1,tr1,by omega,λq4 hq4=>?_⟩;rw[show((ps.filter λp=>p.2.isNone).map λp=>V.str p.1)=(homesOf ps).map V.str from by unfold homesOf;rw[bZ];rfl];refine nl2 hq4 λH3 s23 eq4=>?_;have s3:=s2.trans s23;have gh:∀z∈homesOf ps,GS z:=λz hz=>by
   have hm:=GE.mp hz;have hr:RowG (Zw (z,none)):=g.g1 _ (by rw[et1];exact aw.mpr ⟨_,hm,rfl⟩);have ha:=hr.2 (.str z) ao;cases ha with
  |str h=>exact h
  have lr3:=lr s3;refine ixL 1 (s3 _ _ tb.at_) rfl ⟨l1,rfl,⟨_,SqL.of lr3.2.choose_spec.1⟩,?_⟩;refine Xj (J:=Itl K l1) (ps.map Zw).length hpl (λi ys τ H'=>H'=H3/\ys=(homesOf (ps.take i)).map V.str/\ys.length<=i/\∃v1 v2,τ=[v1,v2]) ⟨rfl,rfl,aj _,none,none,rfl⟩ (λi ys τ H' p=>p.2.2.1) (λi ys τ H' hi p=>by obtain⟨rfl,_⟩:=p;exact lr3.go hi) (λys τ H' p=>by obtain⟨rfl,_⟩:=p;exact lr3.stop) (λi ys τ H' x H2 hi p yl=>?_) (λys τ H4 p c5 hc5=>?_)
  ·obtain⟨rfl,rfl,hz,v1,v2,rfl⟩:=p;have hi':i<ps.length:=by simpa using hi
   have e0:ps[i]?=some ps[i]:=gE hi';obtain⟨rfl,a,rfl,na,ha⟩:=lr3.item (r:=Zw ps[i]) (by rw[ak,e0];rfl) yl;have stp:homesOf (ps.take (i+1))=homesOf (ps.take i)++(if ps[i].2.isNone then[ps[i].1]else[]):=by unfold homesOf;rw[bY,e0,List.filter_append,aN];congr 1;cases hn:ps[i].2.isNone<;>simp[hn]
   refine⟨a,_,rfl,SqT.of ha,rfl,_,_,rfl,_,_,rfl,rfl,_,rfl,rfl,_,rfl,?_⟩;rw[VA];refine ZE (λe=>?_) (λe=>?_)
   ·refine⟨_,rfl,rfl,?_,by rw[aT];exact Nat.add_le_add hz (aj _),_,_,rfl⟩;rw[stp,e,if_pos rfl,aN];rfl
   ·refine⟨rfl,?_,by omega,_,_,rfl⟩;rw[stp,e,if_neg (by decide),bB]
  obtain⟨rfl,rfl,_,v1,v2,rfl⟩:=p;rw[show ps.take (ps.map Zw).length=ps from by rw[lm,b7]];refine nl2 hc5 λH5 s34 e5=>?_;have s5:=s3.trans s34;refine⟨_,_,SL (s34 _ _ eq4),SL e5,GT gh,GT gh,_,rfl,?_⟩;rw[SeqAt.eqv_refl _ (Qt gh)];exact ZE (λh=>absurd h (by decide)) (λ_=>hx _ s5)
 refine sqI (R:=Same H) (λn hn=>?_) (λH8 s8=>?_)
 ·have hns:T.t4.map (λr=>atI r 3)=(T.t4.map ZQ).map (λn=>some (V.int n)):=by rw[bZ];exact List.map_congr_left λr hr=>Nj o hr
  refine mthV (s5 _ _ ht) (only _ (by decide +kernel)) ⟨t,fs,m4,T.t4,T.t4.map ZQ,rfl,tab s5,a4,⟨x4,s5 _ _ c4,r4.same s5⟩,by omega,hns,λH6 s56=>?_⟩;have s6:=s5.trans s56;have gr6:ZD b H6 l4 T.t4:=tb.gr.same (Zh.of s6);refine ixL 4 (s6 _ _ tb.at_) rfl ⟨l4,rfl,⟨_,SqL.of gr6.2.choose_spec.1⟩,?_⟩;refine Z7 (J:=Itl K l4) T.t4.length sz4 (λi ys τ H'=>H'=H6/\ys=((T.t4.map ZQ).take i).map V.int/\∃v1,τ=[v1]) ⟨rfl,rfl,none,rfl⟩ (λi ys τ H' p=>by obtain⟨_,rfl,_⟩:=p;rw[lm,aL];omega) (λi ys τ H' hi p=>by obtain⟨rfl,_⟩:=p;exact gr6.go hi) (λys τ H' p=>by obtain⟨rfl,_⟩:=p;exact gr6.stop) (λi ys τ H' x H2 hi p yl=>?_) (λys τ H7 p c8 hc8=>?_)
  ·obtain⟨rfl,rfl,v1,rfl⟩:=p;have e0:T.t4[i]?=some T.t4[i]:=gE hi;obtain⟨rfl,a,rfl,na,ha⟩:=gr6.item e0 yl;refine iaT ha (Nj o (aW hi)) ⟨rfl,?_,_,rfl⟩;rw[bY,ak,e0,aN];rfl
  obtain⟨rfl,rfl,v1,rfl⟩:=p;rw[show(T.t4.map ZQ).take T.t4.length=T.t4.map ZQ from aZ (by rw[lm];exact aj _)];refine nl hc8 λH8 s78 e8=>?_;have s8:=s6.trans s78;refine⟨c8,T.t4.map ZQ,rfl,SqL.of e8,rfl,_,rfl,?_⟩;exact ZE (λe=>absurd e (by simp)) (λ_=>hn _ s8)
 refine sqI (R:=Same H) (λn hn=>?_) (λH11 s11=>?_)
 ·have gr8:ZD b H8 l4 T.t4:=tb.gr.same (Zh.of s8);have ht8:=s8 _ _ ht;refine ixL 4 (s8 _ _ tb.at_) rfl ⟨l4,rfl,⟨_,SqL.of gr8.2.choose_spec.1⟩,?_⟩;refine Xj (J:=Itl K l4) T.t4.length sz4 (λi ys τ H'=>H'=H8/\ys=[]/\∃v1,τ=[v1,some (.ref t)]) ⟨rfl,rfl,none,rfl⟩ (λi ys τ H' p=>by obtain⟨_,rfl,_⟩:=p;exact bV _) (λi ys τ H' hi p=>by obtain⟨rfl,_⟩:=p;exact gr8.go hi) (λys τ H' p=>by obtain⟨rfl,_⟩:=p;exact gr8.stop) (λi ys τ H' x H2 hi p yl=>?_) (λys τ H9 p c9 hc9=>?_)
  ·obtain⟨rfl,rfl,v1,rfl⟩:=p;have e0:T.t4[i]?=some T.t4[i]:=gE hi;have hm:T.t4[i]∈T.t4:=aW hi;obtain⟨rfl,a,rfl,na,ha⟩:=gr8.item e0 yl;have nm:=(JD o (j:=4) (.inr (.inr (.inr rfl))) hm);have n0:=P6 nm.1;obtain⟨a',ev,ha'⟩:=Q4 dd.g r4 e0;have kn:ZF (.str (nameOf T.t4[i])) kk.2.2.2=true:=by show(valV _ _).isSome=true;rw[ev];rfl
   have gg:=g.g4 _ hm;refine mthV ht8 (only _ (by decide +kernel)) (iaT ha n0 ⟨t,_,_,fs,d4,kk.2.2.2,rfl,tab s8,b4,s8 _ _ f4,.str _ (shn nm.2),_,rfl,?_⟩);rw[kn];refine iteF ?_;refine mthV ht8 (only _ (by decide +kernel)) (iaT ha n0 ⟨t,_,_,fs,d4,kk.2.2.2,rfl,tab s8,b4,s8 _ _ f4,.str _ (shn nm.2),λz v ez hv=>?_,λh=>by rw[kn]at h;cases h⟩);cases ez;rw[ev]at hv;cases hv;refine⟨_,rfl,_,_,Mh (s8 _ _ ha') gg,Mh ha gg,Mf gg,Mf gg,_,rfl,?_⟩;rw[SeqAt.eqv_refl _ (Mg gg)];exact ZE (λh=>absurd h (by decide)) (λ_=>⟨rfl,rfl,_,rfl⟩)
  obtain⟨rfl,rfl,v1,rfl⟩:=p;refine nl2 hc9 λH10 s99 e9=>?_;refine⟨zl,λc11 hc11=>?_⟩;refine nl2 hc11 λH11 s1011 e11=>?_;have s11:=(s8.trans s99).trans s1011;refine⟨c9,c11,[],rfl,rfl,SqL.of (s1011 _ _ e9),e11,_,rfl,?_⟩;exact ZE (λe=>absurd e (by decide)) (λ_=>hn _ s11)
 have ht11:=s11 _ _ ht;refine sq (λσ' H'=>H'=H11/\∃v1 v2,σ'=[some (.ref t),some (.ref p),some (.ref q1),v1,v2]) (λn hn=>?_) (λσ' H' pv=>?_)
 ·have lr11:=lr s11;refine ixL 1 (s11 _ _ tb.at_) rfl ⟨l1,rfl,⟨_,SqL.of lr11.2.choose_spec.1⟩,?_⟩;refine Vm (J:=Itl K l1) (ps.map Zw).length (λi σ' H'=>H'=H11/\∃v1 v2,σ'=[some (.ref t),some (.ref p),some (.ref q1),v1,v2]) ⟨rfl,none,none,rfl⟩ (λi σ' H' hi pv=>by obtain⟨rfl,_⟩:=pv;exact lr11.go hi) (λσ' H' pv=>by obtain⟨rfl,_⟩:=pv;exact lr11.stop) (λi σ' H' x H5 hi pv yl=>?_) (λσ' H' pv=>?_)
  ·obtain⟨rfl,v1,v2,rfl⟩:=pv;have hi':i<ps.length:=by simpa using hi
   have e0:ps[i]?=some ps[i]:=gE hi';obtain⟨rfl,a,rfl,na,ha⟩:=lr11.item (r:=Zw ps[i]) (by rw[ak,e0];rfl) yl;have hm:Zw ps[i]∈T.t1:=by rw[et1];exact aw.mpr ⟨_,aW hi',rfl⟩
   have gz:GS ps[i].1:=by
    have h:=(g.g1 _ hm).2 (.str ps[i].1) ao;cases h with
   |str h=>exact h
   have ev:valV kk.1 (.inr ps[i].1)=some (Yn ps[i].2):=dd.p.has _ hm;have kn:ZF (.str ps[i].1) kk.1=true:=by show(valV _ _).isSome=true;rw[ev];rfl
   have hh:VQ (.str ps[i].1) kk.1=decide (Yn ps[i].2=.non):=by show decide (valV kk.1 (.inr ps[i].1)=some .non)=_;rw[ev];exact decide_eq_decide.mpr ⟨λh=>aH h,λh=>congrArg some h⟩
   refine⟨a,_,rfl,SqT.of ha,rfl,_,_,rfl,_,_,rfl,rfl,?_⟩;refine mthV ht11 (only _ (by decide +kernel)) ⟨_,rfl,t,_,_,fs,d1,kk.1,rfl,tab s11,b1,s11 _ _ f1,.str _ (shn gz),λz v ez hv=>?_,λh=>by rw[kn]at h;cases h⟩;cases ez;rw[ev]at hv;cases hv;refine⟨_,rfl,by cases ps[i].2<;>rfl,_,rfl,?_⟩;refine ZE (λe=>absurd e (by simp)) (λ_=>?_);refine mthV ht11 (only _ (by decide +kernel)) ⟨_,rfl,t,_,_,fs,d1,kk.1,rfl,tab s11,b1,s11 _ _ f1,.str _ (shn gz),_,rfl,rfl,rfl,_,rfl,?_⟩;rw[hh];exact ZE (λe=>absurd e (by simp)) (λ_=>⟨rfl,_,_,rfl⟩)
  exact hn _ _ pv
 obtain⟨rfl,v1,v2,rfl⟩:=pv;have rd:ZD b H' l2 T.t2:=tb.rd.same (Zh.of s11);have sz2:T.t2.length<=av:=ax g.l2 (by decide);refine ixL 2 (s11 _ _ tb.at_) rfl ⟨l2,rfl,⟨_,SqL.of rd.2.choose_spec.1⟩,?_⟩;refine Xj (J:=Itl K l2) T.t2.length sz2 (λi ys τ H1=>H1=H'/\ys=[]/\∃v1,τ=[v1,some (.ref t)]) ⟨rfl,rfl,none,rfl⟩ (λi ys τ H' p=>by obtain⟨_,rfl,_⟩:=p;exact bV _) (λi ys τ H' hi p=>by obtain⟨rfl,_⟩:=p;exact rd.go hi) (λys τ H' p=>by obtain⟨rfl,_⟩:=p;exact rd.stop) (λi ys τ H' x H2 hi p yl=>?_) (λys τ H9 p c9 hc9=>?_)
 ·obtain⟨rfl,rfl,v1,rfl⟩:=p;have e0:T.t2[i]?=some T.t2[i]:=gE hi;have hm:T.t2[i]∈T.t2:=aW hi;obtain⟨rfl,a,rfl,na,ha⟩:=rd.item e0 yl;have nm:=(JD o (j:=2) (.inr (.inl rfl)) hm);have n0:=P6 nm.1;obtain⟨a',ev,ha'⟩:=Q4 dd.r r2 e0;have kn:ZF (.str (nameOf T.t2[i])) kk.2.1=true:=by show(valV _ _).isSome=true;rw[ev];rfl
  have gg:=g.g2 _ hm;refine mthV ht11 (only _ (by decide +kernel)) (iaT ha n0 ⟨t,_,_,fs,d2,kk.2.1,rfl,tab s11,b2,s11 _ _ f2,.str _ (shn nm.2),λz v ez hv=>?_,λh=>by rw[kn]at h;cases h⟩);cases ez;rw[ev]at hv;cases hv;refine⟨_,rfl,_,_,Mh (s11 _ _ ha') gg,Mh ha gg,Mf gg,Mf gg,_,rfl,?_⟩;rw[SeqAt.eqv_refl _ (Mg gg)];exact ZE (λh=>absurd h (by decide)) (λ_=>⟨rfl,rfl,_,rfl⟩)
 obtain⟨rfl,rfl,v1,rfl⟩:=p;refine nl2 hc9 λH10 s99 e9=>?_;refine⟨zl,λc11 hc11=>?_⟩;have s1011:=sameNew (o:=.lst []) (Same.refl H10) hc11;exact⟨c9,c11,[],rfl,rfl,SqL.of (s1011 _ _ e9),Ze,kq _ ((s11.trans s99).trans s1011)⟩
end
structure PairAt(c:Cs)(b:ae)(H:Hp)(q:ae)(T:Tb)(t p m1 m2 m3 m4:ae):Prop where
 ne:q≠b
 at_:H q=some (.lst [.ref t,.ref p])
 tel:Tel H c.C t T
 tb:TbAt b H p T m1 m2 m3 m4
 ok:OkTb T
theorem PairAt.same{c:Cs}{b:ae}{H H':Hp}{q:ae}{T:Tb}{t p m1 m2 m3 m4:ae}(hb:Zu H b)(s:Zh b H H')(h:PairAt c b H q T t p m1 m2 m3 m4):PairAt c b H' q T t p m1 m2 m3 m4:=⟨h.ne,s _ _ h.at_ h.ne,h.tel.box hb h.ok s,h.tb.same s,h.ok⟩
def Kb(c:Cs):Sp:=λvs H Q _=>∃(b t p l1 l2 l3 l4:ae)(T:Tb)(ps:Pl)(s:Str),vs=[.ref b,.ref t,.ref p,.str s]/\Zu H b/\Tel H c.C t T/\TbAt b H p T l1 l2 l3 l4/\LInv T ps s/\∀H' q T' t' p' m1 m2 m3 m4,Zu H' b->Zh b H H'->PairAt c b H' q T' t' p' m1 m2 m3 m4->(s∉T'.t2.map nameOf->∃ps',LInv T' ps' s)->Q (.ref q) H'
section
variable {P:aA}{w:aI}{K:aa}{mg:Str->Option ac}{base:aX}{c:Cs}
theorem Jk:FnScope [q_b,q_t,q_w,q_s,"_law_deed_here","_law_due","_law_found"] [q_b,q_t,q_w,q_s] (Zg T.f__law_turn):=scO (by decide +kernel)
theorem WQ(B:∀x∈Blts,mg x=none)(CD:Can P w K mg base 5 "_law_deed" [q_b,q_w,q_s] (YM c))(CO:Can P w K mg base 13 "_law_told" [q_t,"_law_deed_here"] (Qz c))(CL:Can P w K mg base 4 "_law_tells" [q_t,q_w] (Px c.C))(D:Df K mg "_law_turn" T.f__law_turn [q_b,q_t,q_w,q_s]):Can P w K mg base 14 "_law_turn" [q_b,q_t,q_w,q_s] (Kb c):=by
 refine D.cn Jk λf cdv A outer s H vs Q E hr h=>?_;obtain⟨b,t,p,l1,l2,l3,l4,T,ps,z,rfl,hb,tel,tb,li,k⟩:=h;refine⟨_,(Zf (V2 (cn CD hr (Za (pv 0) (Za (pv 2) (Za (pv 3) Zc)))) (XM rfl (Zz (Zt (i:=4) Jk.nd rfl (aJ rfl)) (Zz (Zt (i:=5) Jk.nd rfl (aJ rfl)) Yd)))) (Zf (st 6 Jk.nd (cn CO hr (Za (pv 1) (Za (pv 4) Zc)))) (Zf (ZC (PW.pt (Xv (Zr Xq (pv 6) ZN (Zx _)) (Xv (Zr GY (it K (pv 6) Zd) (it K (pv 5) Zd) (Zx _)) (Y6 (ZW (ZX (cn CL hr (Za (pv 1) (Za (pv 2) Zc))))))))) (Zi (Zl ZN)) Zq) (Zf (ZC (Zr GY (it K (pv 5) Zd) Zn (Zx _)) (Zi (Zl (Up (Zr Yl (ZJ (ND hr) rfl (B _ (by decide +kernel)) dH (Za (it K (pv 6) Zd) Zc)) (ZJ (ND hr) rfl (B _ (by decide +kernel)) dH (Za (it K (pv 5) Zd) Zc)) (Zx _)) (ZO (Za (pv 1) (Za (pv 2) Zc))) ZN))) Zq) (Zf (ZC (ZW (ZX (cn CL hr (Za (it K (pv 6) Zd) (Za (it K (pv 5) Zd) Zc))))) (Zi (Zl ZN)) Zq) (Zi (Zl (ZO (Za (it K (pv 6) Zd) (Za (it K (pv 5) Zd) Zc)))))))))),?_⟩;try dsimp only[cxOf,Cx.nox]
 refine⟨_,rfl,_,rfl,_,rfl,b,p,l1,l2,l3,l4,T,ps,z,rfl,hb,tb,li,λH1 q1 d u o B1 S1 e1 dd du=>?_⟩;refine⟨q1,_,rfl,SqT.of e1,rfl,_,_,rfl,_,_,rfl,rfl,?_⟩;have tel1:=tel.box hb li.ok S1;refine⟨_,rfl,_,rfl,t,d,o,rfl,λQ E oq=>dd H1 t Q E (Zh.refl b H1) tel1 oq,λH2 f2 s12 fo=>?_⟩;have S12:Zh b H1 H2:=Zh.of s12;have S02:=S1.trans S12;have B2:=B1.same s12;have du2:=du.same B1 S12;have tel2:=tel1.same s12;refine⟨_,rfl,rfl,_,rfl,?_⟩;refine ZE (λe=>absurd e (by simp)) (λ_=>?_);have back:∀{H3:Hp},Same H2 H3->∀q,H3 q=none->Q (.ref q) (upd H3 q (.lst [.ref t,.ref p])):=λ{H3}s23 q hq=>by have B3:=B2.same s23;have S03:=S02.trans (Zh.of s23);have S34:=(Zh.refl b H3).new' (o:=.lst [.ref t,.ref p]) hq;exact k _ q T t p l1 l2 l3 l4 (B3.new hq) (S03.trans S34) ⟨B3.ne hq,Ze,(tel2.same s23).same (sameNew (Same.refl H3) hq),tb.same (S03.trans S34),li.ok⟩ (λ_=>⟨ps,li⟩)
 have two:(∃T' x p' m1 m2 m3 m4,H2 f2=some (.tup [.str "made",.ref x])/\Tel H2 c.C x T'/\H2 u=some (.tup [.str "made",.ref p'])/\TbAt b H2 p' T' m1 m2 m3 m4/\OkTb T'/\(z∉T'.t2.map nameOf->∃ps,LInv T' ps z)) \/∃(wd:Str)(v v':V)(dv:PyData),wd≠"made"/\H2 f2=some (.tup [.str wd,v])/\H2 u=some (.tup [.str wd,v'])/\(∀H3,Same H2 H3->IsX H3 v dv/\IsX H3 v' dv)/\Shw dv:=by
  cases o with
 |made T'=>obtain⟨x,ef,telx⟩:=fo;obtain⟨p',m1,m2,m3,m4,eu,tb',ok',lp⟩:=du2;exact .inl ⟨T',x,p',m1,m2,m3,m4,ef,telx,eu,tb',ok',lp⟩
 |ride v=>obtain⟨eu,dv,dat,shw⟩:=du2;exact .inr ⟨"ride",v,v,dv,by decide +kernel,fo,eu,λH3 s3=>⟨dat H3 (Zh.of s3),dat H3 (Zh.of s3)⟩,shw⟩
 |turn v=>obtain⟨eu,dv,dat,shw⟩:=du2;exact .inr ⟨"turn",v,v,dv,by decide +kernel,fo,eu,λH3 s3=>⟨dat H3 (Zh.of s3),dat H3 (Zh.of s3)⟩,shw⟩
 |homes v=>obtain⟨eu,dv,dat,shw⟩:=du2;exact .inr ⟨"homes",v,v,dv,by decide +kernel,fo,eu,λH3 s3=>⟨dat H3 (Zh.of s3),dat H3 (Zh.of s3)⟩,shw⟩
 |bad zz a y=>obtain⟨q,ef,eq⟩:=fo;obtain⟨q',eu,eq',a1,a2,a3⟩:=du2;have ial:∀H3,IsAll H3 [zz,a,y] [dF zz,dF a,dF y]:=λH3=>.cons a1.is (.cons a2.is (.cons a3.is .nil));exact .inr ⟨"bad",.ref q,.ref q',_,by decide +kernel,ef,eu,λH3 s3=>⟨.of (.tup (s3 _ _ eq) (ial H3)),.of (.tup (s3 _ _ eq') (ial H3))⟩,(DK a1 a2 a3).shw (by decide) (aj _)⟩
 rcases two with⟨T',x,p',m1,m2,m3,m4,ef,telx,eu,tb',ok',lp⟩|⟨wd,v,v',dv,nw,ef,eu,ix,shw⟩
 ·refine ixT 0 ef rfl (ixT 0 eu rfl ⟨rfl,_,rfl,?_⟩);refine ZE (λe=>absurd e (by simp)) (λ_=>?_);refine⟨_,rfl,_,rfl,b,t,p,l1,l2,l3,l4,T,rfl,tel2,tb.same S02,li.ok,λH3 s23=>⟨_,rfl,?_⟩⟩;refine iteF ?_;refine ixT 0 (s23 _ _ eu) rfl ⟨rfl,_,rfl,?_⟩;refine ZE (λe=>absurd e (by simp)) (λ_=>?_);have S23:Zh b H2 H3:=Zh.of s23;refine ixT 1 (s23 _ _ ef) rfl (ixT 1 (s23 _ _ eu) rfl ⟨b,x,p',m1,m2,m3,m4,T',rfl,telx.same s23,tb'.same S23,ok',λH4 s34=>⟨_,rfl,?_⟩⟩);refine iteF ?_;have s24:=s23.trans s34;refine ixT 1 (s24 _ _ ef) rfl (ixT 1 (s24 _ _ eu) rfl ⟨zl,λq hq=>?_⟩);have B4:=B2.same s24;have s45:=sameNew (o:=.lst [.ref x,.ref p']) (Same.refl H4) hq;have s25:=s24.trans s45;exact k _ q T' x p' m1 m2 m3 m4 (B4.new hq) (S02.trans (Zh.of s25)) ⟨B4.ne hq,Ze,telx.same s25,tb'.same (Zh.of s25),ok'⟩ lp
 ·refine ixT 0 ef rfl (ixT 0 eu rfl ⟨rfl,_,rfl,?_⟩);refine ZE (λe=>absurd e (by simp)) (λ_=>?_);refine⟨_,rfl,_,rfl,b,t,p,l1,l2,l3,l4,T,rfl,tel2,tb.same S02,li.ok,λH3 s23=>⟨_,rfl,?_⟩⟩;refine iteF ?_;refine ixT 0 (s23 _ _ eu) rfl ⟨rfl,_,rfl,?_⟩;refine ZE (λ_=>?_) (λe=>absurd e (by simp[nw]));obtain⟨i1,i2⟩:=ix H3 s23;refine ixT 1 (s23 _ _ ef) rfl ⟨_,dv,rfl,i1,shw.sh,shw.dp,shw.len,ixT 1 (s23 _ _ eu) rfl ⟨_,dv,rfl,i2,shw.sh,shw.dp,shw.len,rfl,_,rfl,?_⟩⟩;refine ZE (λ_=>?_) (λe=>absurd e (by simp));exact⟨_,rfl,_,rfl,zl,back s23⟩
def Qy(K:aa):Sp:=λvs H Q _=>∃(a:ae)(ns:List Int),vs=[.ref a]/\SqL K H a (ns.map V.int)/\ns.length<=63/\∀H',Q (.bl true) H'
theorem Ld(ns:List Int)(lo hi:Option Int):∀v∈cutV (ns.map V.int) lo hi,∃c,v=.int c:=by intro v hv;unfold cutV at hv;have h1:=List.mem_of_mem_drop (cO hv);obtain⟨c,_,e⟩:=aw.mp h1;exact⟨c,e.symm⟩
def Kept(c:Cs)(b:ae)(H:Hp)(q:ae)(s:Str):Prop:=∃T t p m1 m2 m3 m4 ps,PairAt c b H q T t p m1 m2 m3 m4/\LInv T ps s
theorem Kept.same{c:Cs}{b:ae}{H H':Hp}{q:ae}{s:Str}(hb:Zu H b)(sm:Zh b H H')(h:Kept c b H q s):Kept c b H' q s:=by obtain⟨T,t,p,m1,m2,m3,m4,ps,pr,li⟩:=h;exact⟨T,t,p,m1,m2,m3,m4,ps,pr.same hb sm,li⟩
theorem Xp:FnScope ["_law_script","_law_cell_here",q_b,q_w,q_s,"_law_kept","_law_first","_law_k","_law_back","_law_before","_law_more_here"] ["_law_script"] (Zg T.f_law):=scO (by decide +kernel)
noncomputable def Nv:bH:=csx [(".0",.local),("_law_row",.local)]
theorem Q7:CompScope Nv (Zg T.f_law):=⟨rfl,by decide +kernel,by decide +kernel,by decide +kernel⟩
theorem Q9:(["_law_row"]:List Str).Nodup:=by decide +kernel
theorem Q8:CompNames ["_law_script","_law_cell_here",q_b,q_w,q_s,"_law_kept","_law_first","_law_k","_law_back","_law_before","_law_more_here"] Nv ["_law_row"] [none]:=.mk' (by decide +kernel)
theorem D6{f:ae}{fd:FuncData}(B:∀x∈Blts,mg x=none)(CB:Can P w K mg base 1 "_law_box" ["_law_cell_here"] Ds)(CK:Can P w K mg base 1 "_law_take" [q_b,"_law_many"] YS)(CW:Can P w K mg base 4 "_law_world" [q_b] SM)(CA:Can P w K mg base 9 "_law_table" [q_w] (QA c.C))(CU:Can P w K mg base 14 "_law_turn" [q_b,q_t,q_w,q_s] (Kb c))(CL:Can P w K mg base 4 "_law_tells" [q_t,q_w] (Px c.C))(F:Fun K "law" "law" T.f_law f fd):FnOk P w K mg base CX0 15 f fd ["_law_script"] (Qy K):=by
 refine F.ok Xp (λvs H Q E h=>?_) (λcdv A outer s H vs Q E hr h=>?_)
 ·obtain⟨a,ns,rfl,_⟩:=h;rfl
 ·obtain⟨a,ns,rfl,hS,hlen,k⟩:=h;refine⟨_,(Zf (XJ dc rfl (Yq (Zy Vi (Yc (r:=rSlL K) Y5 (pv 0) Yw (Yv Zd)) (ZO (Za Zd Zc)))) (Zt (i:=1) Xp.nd rfl (aJ rfl)) (Zf (st 2 Xp.nd (cn CB hr (Za (pv 1) Zc))) (Zf (V2 (cn CW hr (Za (pv 2) Zc)) (Kx rfl (Zz (Zt (i:=3) Xp.nd rfl (aJ rfl)) (Zz (Zt (i:=4) Xp.nd rfl (aJ rfl)) Yd)))) (Zf (st 5 Xp.nd (ZO (Za (cn CA hr (Za (pv 3) Zc)) (Za (pv 3) Zc)))) (Zf (st 6 Xp.nd (pv 5)) (Zi (XJ dc rfl (Y1 rfl (B _ (by decide +kernel)) (Za (Zy Z0 Zd (cn CK hr (Za (pv 2) (Za Zd Zc)))) Zc)) (Zt (i:=7) Xp.nd rfl (aJ rfl)) (Zf (st 8 Xp.nd (Xi Yl (cn CK hr (Za (pv 2) (Za Zd Zc))) Zd (Zx _))) (Zf (st 9 Xp.nd (il K (ZO (Za (pv 5) (Za (pv 6) Zc))) (Z3 VG rfl (B _ (by decide +kernel)) GQ (Za (pv 8) Zc)))) (Zf (st 10 Xp.nd (cn CU hr (Za (pv 2) (Za (il K (pv 9) Zd) (Za (il K (pv 9) Zd) (Za (il K (pv 4) Zd) Zc)))))) (Zf (ZC (PW.pt (Xv (Zr Xq (pv 10) ZN (Zx _)) (Xv (ZW (ZX (cn CL hr (Za (il K (pv 6) Zd) (Za (il K (pv 6) Zd) Zc))))) (Y6 (ZW (ZX (cn CL hr (Za (il K (pv 5) Zd) (Za (il K (pv 5) Zd) Zc))))))))) (Zi (Zl VO)) Zq) (Zi (ZC (Zr P3 (il K (pv 4) Zd) (Yy (scope:=Nv) (N:=["_law_row"]) (cp:=[none]) rfl Q7 Q8 (Yq (il K (il K (pv 10) Zd) Zd)) (λC s H ex pn=>(Zt (i:=0) Q9 rfl (aJ rfl))) (λC s H ex pn=>Yp) (λC s H ex pn=>(it K (pv 0) Zd))) (by with_unfolding_all rfl)) (Zi (st 5 Xp.nd (pv 10))) Zq))))))))))))) (Zi (Zl VO))),?_⟩;try dsimp only[cxOf,Cx.nox]
  refine⟨_,rfl,_,rfl,a,_,rfl,hS,λp1 e1=>?_⟩;refine⟨zl,λp2 e2=>?_⟩;have n12:p1≠p2:=Zk (Ze (H:=H) (a:=p1)) e2;have hcl:(cutV (ns.map V.int) none (some 14)).length+1<=av:=by
   have h1:=Vp (ns.map V.int) none (some 14);rw[lm]at h1;have:(100:Nat)<=av:=by decide
   omega
  refine⟨p1,p2,_,_,rfl,rfl,(by rw[Zj n12,Ze]),Ze,hcl,λp3 e3=>⟨p3,rfl,⟨_,SqL.of Ze⟩,?_⟩⟩;have hxs:∀v∈cutV (ns.map V.int) none (some 14)++[V.int 8],∃c,v=.int c:=λv hv=>by
   rcases bp.mp hv with hv|hv
   ·exact Ld ns _ _ v hv
   ·rw[bi]at hv;exact⟨_,hv⟩
  have L0:upd (upd (upd H p1 (.lst (cutV (ns.map V.int) none (some 14)))) p2 (.lst [V.int 8])) p3 (.lst (cutV (ns.map V.int) none (some 14)++[V.int 8])) p3=some (.lst (cutV (ns.map V.int) none (some 14)++[V.int 8])):=Ze;generalize upd (upd (upd H p1 (.lst (cutV (ns.map V.int) none (some 14)))) p2 (.lst [V.int 8])) p3 (.lst (cutV (ns.map V.int) none (some 14)++[V.int 8]))=H0 at L0;generalize cutV (ns.map V.int) none (some 14)++[V.int 8]=xs at L0 hxs;refine K4 (K:=K) (a:=p3) (xs:=xs) (λi σ H1=>H1 p3=some (.lst xs)/\∃o1 o2 o3 o4 o5 o6 o7 o8 o9 o10:Option V,σ=[some (.ref a),o1,o2,o3,o4,o5,o6,o7,o8,o9,o10]) ⟨L0,_,_,_,_,_,_,_,_,_,_,rfl⟩ (λi σ H1 _ p=>SqL.of p.1) (λi v σ H1 hi p=>?_) (λσ H1 p=>k _);obtain⟨L1,o1,o2,o3,o4,o5,o6,o7,o8,o9,o10,rfl⟩:=p;obtain⟨cl,rfl⟩:=hxs v (aG hi);refine⟨_,rfl,cl,rfl,λb H2 hb bx sm2=>?_⟩;refine⟨_,rfl,b,rfl,bx,λH3 q pw sd l1 l2 l3 l4 W bs s0 s1 s2 s3 bx3 sm3 nq hq nst hst wa gw sg=>?_⟩;refine⟨q,_,rfl,SqL.of hq,rfl,_,_,rfl,_,_,rfl,rfl,?_⟩;have np3:p3≠b:=λz=>by subst z;rw[L1]at hb;cases hb
  have L3:H3 p3=some (.lst xs):=sm3 _ _ (sm2 _ _ L1) np3;clear hb sm2 sm3 hq L1 L0;have li0:=drawn gw sg;refine⟨_,rfl,b,pw,l1,l2,l3,l4,tbOf W,rfl,wa.tb,li0.ok,λH4 t s34 tel=>?_⟩;have B4:=bx3.same s34;refine⟨_,rfl,zl,λqk hqk=>?_⟩;have s45:=sameNew (o:=.lst [.ref t,.ref pw]) (Same.refl H4) hqk;have s35:=s34.trans s45;have B5:=B4.new (o:=.lst [.ref t,.ref pw]) hqk;have pk:PairAt c b (upd H4 qk (.lst [.ref t,.ref pw])) qk (tbOf W) t pw l1 l2 l3 l4:=⟨B4.ne hqk,Ze,tel.same s45,wa.tb.same (Zh.of s35),li0.ok⟩;generalize upd H4 qk (.lst [.ref t,.ref pw])=H5 at s45 s35 B5 pk ⊢;have L5:=s35 _ _ L3;have hst5:=s35 _ _ hst;have kp:Kept c b H5 qk s1:=⟨_,_,_,_,_,_,_,_,pk,li0⟩;clear L3 hst tel wa s34 s45 s35 B4 bx3 pk;refine⟨_,rfl,tkC B5 (λm H6 m0 m6 B6 S56=>?_)⟩;refine⟨_,_,rfl,rfl,1+m,rfl,by omega,by omega,?_⟩;have kp6:=kp.same B5 S56;refine Pf (n:=(1+m).toNat) (λi σ' H'=>Zu H' b/\H' p3=some (.lst xs)/\H' sd=some (.lst [.str s0,.str s1,.str s2,.str s3])/\∃(q1 q2:ae)(u7 u8 u9 u10:Option V),Kept c b H' q1 s1/\Kept c b H' q2 s1/\σ'=[some (.ref a),some (.int cl),some (.ref b),some (.ref pw),some (.ref sd),some (.ref q1),some (.ref q2),u7,u8,u9,u10]) ⟨B6,S56 _ _ L5 np3,S56 _ _ hst5 nst,qk,qk,_,_,_,_,kp6,kp6,rfl⟩ (λi2 σ' H' hi2 pv=>?_) (λσ' H' pv=>?_)
  ·obtain⟨B7,L7,hst7,q1,q2,u7,u8,u9,u10,k1,k2,rfl⟩:=pv;clear B5 B6 L5 S56 hst5 kp kp6;refine tkC B7 (λr H8 _ _ B8 S78=>⟨rfl,?_⟩);have L8:=S78 _ _ L7 np3;have hst8:=S78 _ _ hst7 nst;have k1:=k1.same B7 S78;have k2:=k2.same B7 S78;clear B7 L7 hst7 S78;generalize decide (V.int r=V.int 0)=bb;refine⟨_,rfl,_,rfl,zl,λc9 hc9=>?_⟩;have B9:=B8.new (o:=.lst [.ref q1,.ref q2]) hc9;have s89:=sameNew (o:=.lst [.ref q1,.ref q2]) (Same.refl H8) hc9;have e9:upd H8 c9 (.lst [.ref q1,.ref q2]) c9=some (.lst [.ref q1,.ref q2]):=Ze;generalize upd H8 c9 (.lst [.ref q1,.ref q2])=H9 at B9 s89 e9 ⊢;have L9:=s89 _ _ L8;have hst9:=s89 _ _ hst8;have k1:=k1.same B8 (Zh.of s89);have k2:=k2.same B8 (Zh.of s89);obtain⟨qb,eb,kb⟩:∃qb,atI [V.ref q1,.ref q2] (if bb=true then 1 else 0)=some (.ref qb)/\Kept c b H9 qb s1:=by
    cases bb
    ·exact⟨q1,ZL (j:=0) rfl,k1⟩
    ·exact⟨q2,ZL (j:=1) rfl,k2⟩
   refine⟨_,rfl,.inr ⟨bb,rfl,c9,_,_,_,rfl,rfl,SqL.of e9,eb,?_⟩⟩;obtain⟨T,t',p',n1,n2,n3,n4,ps,pr,li⟩:=kb;refine⟨_,rfl,ixL 0 pr.at_ rfl (ixL 1 pr.at_ rfl (ixL 1 hst9 rfl ⟨b,t',p',n1,n2,n3,n4,T,ps,s1,rfl,B9,pr.tel,pr.tb,li,λH10 q10 T10 t10 p10 m1 m2 m3 m4 B10 S910 pr10 lp=>?_⟩))⟩;have L10:=S910 _ _ L9 np3;have hst10:=S910 _ _ hst9 nst;have k1:=k1.same B9 S910;have k2:=k2.same B9 S910;clear pr li L9 L8 hst8 hst9 s89 e9 B8 B9 S910 eb;refine⟨_,rfl,rfl,_,rfl,?_⟩;refine ZE (λe=>absurd e (by simp)) (λ_=>?_);obtain⟨T2,t2,p2',a1,a2,a3,a4,ps2,pr2,li2⟩:=id k2;refine ixL 0 pr2.at_ rfl (ixL 1 pr2.at_ rfl ⟨b,t2,p2',a1,a2,a3,a4,T2,rfl,pr2.tel,pr2.tb,pr2.ok,λH11 s11=>⟨_,rfl,?_⟩⟩);refine iteF ?_;have S11:Zh b H10 H11:=Zh.of s11;have B11:=B10.same s11;have k1:=k1.same B10 S11;have k2:=k2.same B10 S11;obtain⟨T1,t1,p1',c1,c2,c3,c4,ps1,pr1,li1⟩:=id k1;refine ixL 0 pr1.at_ rfl (ixL 1 pr1.at_ rfl ⟨b,t1,p1',c1,c2,c3,c4,T1,rfl,pr1.tel,pr1.tb,pr1.ok,λH12 s12=>⟨_,rfl,?_⟩⟩);refine iteF ?_;have S12:Zh b H11 H12:=Zh.of s12;have B12:=B11.same s12;have S1012:=S11.trans S12;have k1:=k1.same B11 S12;have k2:=k2.same B11 S12;have L12:=S1012 _ _ L10 np3;have hst12:=S1012 _ _ hst10 nst;have pr12:=pr10.same B10 S1012;clear pr1 li1 pr2 li2 pr10 S11 S12 S1012 s11 s12 B10 B11 L10 hst10;have rd:=pr12.tb.rd;have l80:T10.t2.length<=80:=(pr12.ok.part 2 (.inr (.inl rfl))).1;have sz2:T10.t2.length<=av:=ax l80 (by decide);refine ixL 1 hst12 rfl (ixL 1 pr12.at_ rfl ⟨p10,_,2,_,rfl,rfl,SqL.of pr12.tb.at_,ZL (j:=2) rfl,m2,rfl,⟨_,SqL.of rd.2.choose_spec.1⟩,?_⟩);refine Z7 (J:=Itl K m2) T10.t2.length sz2 (λi ys τ H'=>H'=H12/\ys=((T10.t2.map nameOf).take i).map V.str/\∃v1,τ=[v1]) ⟨rfl,rfl,none,rfl⟩ (λi ys τ H' p=>by obtain⟨_,rfl,_⟩:=p;rw[lm,aL];omega) (λi ys τ H' hi p=>by obtain⟨rfl,_⟩:=p;exact rd.go hi) (λys τ H' p=>by obtain⟨rfl,_⟩:=p;exact rd.stop) (λi ys τ H' x H2 hi p yl=>?_) (λys τ H13 p c14 hc14=>?_)
   ·obtain⟨rfl,rfl,v1,rfl⟩:=p;have e0:T10.t2[i]?=some T10.t2[i]:=gE hi;obtain⟨rfl,a',rfl,na,ha⟩:=rd.item e0 yl;refine iaT ha (P6 (Gv pr12.ok _ (aW hi)).1) ⟨rfl,?_,_,rfl⟩;rw[bY,ak,e0,aN];rfl
   obtain⟨rfl,rfl,v1,rfl⟩:=p;rw[show(T10.t2.map nameOf).take T10.t2.length=T10.t2.map nameOf from aZ (by rw[lm];exact aj _)];have B14:=B12.new (o:=.lst ((T10.t2.map nameOf).map V.str)) hc14;have s14:=sameNew (o:=.lst ((T10.t2.map nameOf).map V.str)) (Same.refl H13) hc14;have e14:upd H13 c14 (.lst ((T10.t2.map nameOf).map V.str)) c14=some (.lst ((T10.t2.map nameOf).map V.str)):=Ze;generalize upd H13 c14 (.lst ((T10.t2.map nameOf).map V.str))=H14 at B14 s14 e14 ⊢;have S14:Zh b H13 H14:=Zh.of s14;have k1:=k1.same B12 S14;have k2:=k2.same B12 S14;refine⟨c14,_,rfl,.inl (SqL.of e14),rfl,by simp[VR],_,rfl,?_⟩;refine ZE (λe=>?_) (λe=>?_)
   ·have e':(!inV (.str s1) ((T10.t2.map nameOf).map V.str))=true:=e;rw[To]at e';obtain⟨ps',li'⟩:=lp (by simpa using e');exact⟨_,rfl,B14,s14 _ _ L12,s14 _ _ hst12,q10,q2,_,_,_,_,⟨_,_,_,_,_,_,_,_,pr12.same B12 S14,li'⟩,k2,rfl⟩
   ·exact⟨B14,s14 _ _ L12,s14 _ _ hst12,q1,q2,_,_,_,_,k1,k2,rfl⟩
  ·obtain⟨B7,L7,hst7,q1,q2,u7,u8,u9,u10,k1,k2,rfl⟩:=pv;exact⟨L7,_,_,_,_,_,_,_,_,_,_,rfl⟩
end
end WD
namespace L2
open PySem PySem.Spec PyProof.Rows
section
variable {K:aa}{h:aX}{mg:Str->Option ac}{x:Str}
theorem Fz{st:bc}{ps:List Str}{f:ae}{oc:ac}{od an:Option ae}{osl:Array (Option ac)}{kV doc pm cdv ct:ac}(X:K.In h)(G:h.Ns bf mg)(a:bE K bf x=some (some (.ref f)))(l:K.lookup f=some ⟨oc,od,.func (bO x x (YQ st) (ZR st) (Zg st) .none kV doc pm an cdv ct),osl⟩)(c:cY K cdv x=true)(k:bo K (.ref f)=true)(hb:∀(kV doc pm:ac)(an:Option ae)(cdv ct:ac)(us:List ac),us.length=ps.length->bindArgs (bO x x (YQ st) (ZR st) (Zg st) .none kV doc pm an cdv ct) ⟨us,[]⟩=pure (ps.zip us)):Df K mg x st ps:=⟨f,_,V7 l c k,dE X G a,(V7 l c k).binds hb⟩
theorem EI{C:ae}{m qual:Str}{st:bc}{ps:List Str}{f:ae}{oc:ac}{od an:Option ae}{osl:Array (Option ac)}{kV doc pm cdv ct:ac}(a:aF K (.ref C) m=some (some (.ref f)))(i:PySem.W.isFn K (.ref f)=true)(l:K.lookup f=some ⟨oc,od,.func (bO m qual (YQ st) (ZR st) (Zg st) .none kV doc pm an cdv ct),osl⟩)(c:cY K cdv qual=true)(k:bo K (.ref f)=true)(hb:∀(kV doc pm:ac)(an:Option ae)(cdv ct:ac)(us:List ac),us.length=ps.length->bindArgs (bO m qual (YQ st) (ZR st) (Zg st) .none kV doc pm an cdv ct) ⟨us,[]⟩=pure (ps.zip us)):DfM K C m qual st ps:=⟨f,_,V7 l c k,⟨a,i,k⟩,(V7 l c k).binds hb⟩
theorem str_mk{z:Str}{t:Tok}(X:K.In h)(G:h.Ns bf mg)(a:bE K bf x=some (some (.str z t))):∃t,mg x=some (.str z t):=⟨t,dE X G a⟩
theorem int_mk{z:Int}{t:Tok}(X:K.In h)(G:h.Ns bf mg)(a:bE K bf x=some (some (.int z t))):∃t,mg x=some (.int z t):=⟨t,dE X G a⟩
theorem Tw{w:aI}{a:ae}{es:Array DictEntry}{n:Nat}{n1 n2 n3 n4:Int}{t1 t2 t3 t4:Tok}(X:K.In h)(G:h.Ns bf mg)(ha:bE K bf x=some (some (.ref a)))(hl:K.lookup a=some ⟨.type "dict",none,.dict es n,#[]⟩)(hk:PySem.W.KeysLit w.params es.toList)(h1:bE K a "places"=some (some (.int n1 t1)))(h2:bE K a "rides"=some (some (.int n2 t2)))(h3:bE K a "ways"=some (some (.int n3 t3)))(h4:bE K a "groups"=some (some (.int n4 t4))):∃a,mg x=some (.ref a)/\Ji K w a "places" (.int n1)/\Ji K w a "rides" (.int n2)/\Ji K w a "ways" (.int n3)/\Ji K w a "groups" (.int n4):=⟨a,dE X G ha,⟨es,n,_,hl,hk,h1,⟨t1,rfl⟩⟩,⟨es,n,_,hl,hk,h2,⟨t2,rfl⟩⟩,⟨es,n,_,hl,hk,h3,⟨t3,rfl⟩⟩,⟨es,n,_,hl,hk,h4,⟨t4,rfl⟩⟩⟩
end
end L2
namespace WD
open PySem L2 PySem.Spec PyProof.Rows TB
theorem E8:FnScope ["self","part","at","why"] ["self","part","at","why"] (Zg T.m_BadTable___init__):=scO (by decide +kernel)
structure ErF(K:aa)(mg:Str->Option ac)(x qual:Str)(st:bc)(C Qa:ae)(ps:List Str):Prop where
 at_:∃fI fd,XK1 K mg x C fI Qa/\Fun K "__init__" qual st fI fd/\Binds K fd ps []
section
variable {P:aA}{w:aI}{K:aa}{mg:Str->Option ac}{base:aX}{C Cb Qa:ae}
abbrev BadF(K:aa)(mg:Str->Option ac)(Cb Qa:ae):Prop:=ErF K mg "BadTable" "BadTable.__init__" T.m_BadTable___init__ Cb Qa ["self","part","at","why"]/\aF K (.ref Cb) "part"=some none/\aF K (.ref Cb) "at"=some none/\aF K (.ref Cb) "why"=some none
theorem Dk(b:BadF K mg Cb Qa):Err P w K mg base "BadTable" ["part","at","why"] Cb:=by obtain⟨⟨fI,fd,X,F,bd⟩,n1,n2,n3⟩:=b;exact⟨⟨fI,Qa,fd,["self","part","at","why"],X.xc,Fp F E8 rfl ⟨by decide,by decide⟩ ⟨by decide,by decide⟩ ⟨by decide,by decide⟩ X.xc n1 n2 n3 (by decide) (by decide) (by decide),by decide,bd⟩,X.xr,X.mg,X.kp⟩
abbrev NoF(K:aa)(mg:Str->Option ac)(x qual:Str)(st:bc)(C Qa:ae)(fl:Str):Prop:=ErF K mg x qual st C Qa ["self",fl]/\aF K (.ref C) fl=some none
theorem Nb{x qual fl:Str}{st:bc}{p1 p2 p3 p4:Pos}(b:NoF K mg x qual st C Qa fl)(S:FnScope ["self",fl] ["self",fl] (Zg st))(hb:ZR st=[Ul fl fl p1 p2 p3 p4])(pl:Plain fl):Err P w K mg base x [fl] C:=by obtain⟨⟨fI,fd,X,F,bd⟩,na⟩:=b;exact⟨⟨fI,Qa,fd,["self",fl],X.xc,Fq F S hb pl X.xc na,by show 2<=1000;decide,bd⟩,X.xr,X.mg,X.kp⟩
theorem Km:FnScope ["self","name"] ["self","name"] (Zg T.m_NoRide___init__):=scO (by decide +kernel)
theorem Kl:FnScope ["self","found"] ["self","found"] (Zg T.m_NoTurn___init__):=scO (by decide +kernel)
theorem Wf:FnScope ["self","found"] ["self","found"] (Zg T.m_NoHomes___init__):=scO (by decide +kernel)
theorem We:FnScope ["self","name"] ["self","name"] (Zg T.m_NoPlace___init__):=scO (by decide +kernel)
theorem Wg:FnScope ["self","name"] ["self","name"] (Zg T.m_NoGroup___init__):=scO (by decide +kernel)
structure Errs(K:aa)(mg:Str->Option ac)(Qa Cb Cn Ct Ch Cp Cg:ae):Prop where
 b:BadF K mg Cb Qa
 NoRide:NoF K mg "NoRide" "NoRide.__init__" T.m_NoRide___init__ Cn Qa "name"
 NoTurn:NoF K mg "NoTurn" "NoTurn.__init__" T.m_NoTurn___init__ Ct Qa "found"
 NoHomes:NoF K mg "NoHomes" "NoHomes.__init__" T.m_NoHomes___init__ Ch Qa "found"
 NoPlace:NoF K mg "NoPlace" "NoPlace.__init__" T.m_NoPlace___init__ Cp Qa "name"
 NoGroup:NoF K mg "NoGroup" "NoGroup.__init__" T.m_NoGroup___init__ Cg Qa "name"
 m21:(ay Ct::.ref Qa::bmV).contains (.ref Cn)=false
 m31:(ay Ch::.ref Qa::bmV).contains (.ref Cn)=false
 m32:(ay Ch::.ref Qa::bmV).contains (.ref Ct)=false
 m41:(ay Cb::.ref Qa::bmV).contains (.ref Cn)=false
 m42:(ay Cb::.ref Qa::bmV).contains (.ref Ct)=false
 m43:(ay Cb::.ref Qa::bmV).contains (.ref Ch)=false
theorem Errs.four{Cn Ct Ch Cp Cg:ae}(n:Errs K mg Qa Cb Cn Ct Ch Cp Cg):Four K mg Qa ⟨C,Cb,Cn,Ct,Ch⟩:=by obtain⟨f1,_,x1,_⟩:=n.NoRide.1.at_;obtain⟨f2,_,x2,_⟩:=n.NoTurn.1.at_;obtain⟨f3,_,x3,_⟩:=n.NoHomes.1.at_;obtain⟨f4,_,x4,_⟩:=n.b.1.at_;exact⟨⟨f1,x1⟩,n.NoRide.2,⟨f2,x2⟩,n.NoTurn.2,⟨f3,x3⟩,n.NoHomes.2,⟨f4,x4⟩,n.b.2,n.m21,n.m31,n.m32,n.m41,n.m42,n.m43⟩
structure Meths(K:aa)(C:ae):Prop where
 take_places:DfM K C "take_places" "Table.take_places" T.m_Table_take_places ["self","places"]
 take_rides:DfM K C "take_rides" "Table.take_rides" T.m_Table_take_rides ["self","rides"]
 take_ways:DfM K C "take_ways" "Table.take_ways" T.m_Table_take_ways ["self","ways"]
 take_groups:DfM K C "take_groups" "Table.take_groups" T.m_Table_take_groups ["self","groups"]
 told:DfM K C "told" "Table.told" T.m_Table_told ["self"]
 is_place:DfM K C "is_place" "Table.is_place" T.m_Table_is_place ["self","thing"]
 is_home:DfM K C "is_home" "Table.is_home" T.m_Table_is_home ["self","thing"]
 is_ride:DfM K C "is_ride" "Table.is_ride" T.m_Table_is_ride ["self","thing"]
 is_group:DfM K C "is_group" "Table.is_group" T.m_Table_is_group ["self","thing"]
 room_of:DfM K C "room_of" "Table.room_of" T.m_Table_room_of ["self","name"]
 homes:DfM K C "homes" "Table.homes" T.m_Table_homes ["self"]
 ride_row:DfM K C "ride_row" "Table.ride_row" T.m_Table_ride_row ["self","name"]
 group_row:DfM K C "group_row" "Table.group_row" T.m_Table_group_row ["self","name"]
 people:DfM K C "people" "Table.people" T.m_Table_people ["self"]
 with_rides:DfM K C "with_rides" "Table.with_rides" T.m_Table_with_rides ["self","rides"]
 with_ride_as:DfM K C "with_ride_as" "Table.with_ride_as" T.m_Table_with_ride_as ["self","changed"]
 with_ride:DfM K C "with_ride" "Table.with_ride" T.m_Table_with_ride ["self","row"]
 with_groups:DfM K C "with_groups" "Table.with_groups" T.m_Table_with_groups ["self","rows"]
 without_ride:DfM K C "without_ride" "Table.without_ride" T.m_Table_without_ride ["self","name"]
 with_seats:DfM K C "with_seats" "Table.with_seats" T.m_Table_with_seats ["self","name","seats"]
 with_later:DfM K C "with_later" "Table.with_later" T.m_Table_with_later ["self","name","by"]
 with_homes:DfM K C "with_homes" "Table.with_homes" T.m_Table_with_homes ["self","bits"]
structure TabF(K:aa)(mg:Str->Option ac)(C:ae):Prop where
 cl:TCl K C
 init:∃f fd,Mk K C f/\Fun K "__init__" "Table.__init__" T.m_Table___init__ f fd/\Binds K fd ["self","turns","places","rides","ways","groups"] []
 mg:mg "Table"=some (.ref C)
 ms:Meths K C
structure Defs(K:aa)(mg:Str->Option ac):Prop where
 is_whole:Df K mg "is_whole" T.f_is_whole ["thing"]
 is_within:Df K mg "is_within" T.f_is_within ["thing","low","high"]
 is_text_of:Df K mg "is_text_of" T.f_is_text_of ["thing","longest","signs"]
 is_name:Df K mg "is_name" T.f_is_name ["thing"]
 is_group_name:Df K mg "is_group_name" T.f_is_group_name ["thing"]
 is_known:Df K mg "is_known" T.f_is_known ["thing","names"]
 rows_of:Df K mg "rows_of" T.f_rows_of ["part","rows"]
 wrong_beginning:Df K mg "wrong_beginning" T.f_wrong_beginning ["part","row","names_ahead"]
 wrong_ends:Df K mg "wrong_ends" T.f_wrong_ends ["table","start","goal"]
 wrong_place:Df K mg "wrong_place" T.f_wrong_place ["row"]
 wrong_ride:Df K mg "wrong_ride" T.f_wrong_ride ["table","row"]
 wrong_way:Df K mg "wrong_way" T.f_wrong_way ["table","row"]
 wrong_group:Df K mg "wrong_group" T.f_wrong_group ["table","row","people_ahead"]
 refuse_row:Df K mg "refuse_row" T.f_refuse_row ["part","at","why"]
 _law_box:Df K mg "_law_box" T.f__law_box ["_law_cell_here"]
 _law_take:Df K mg "_law_take" T.f__law_take [q_b,"_law_many"]
 _law_names:Df K mg "_law_names" T.f__law_names [q_b,"_law_many"]
 _law_places:Df K mg "_law_places" T.f__law_places [q_b]
 _law_size:Df K mg "_law_size" T.f__law_size [q_b]
 _law_ends:Df K mg "_law_ends" T.f__law_ends [q_b,q_p]
 _law_ride:Df K mg "_law_ride" T.f__law_ride [q_b,q_n,"_law_turns",q_p]
 _law_way:Df K mg "_law_way" T.f__law_way [q_b,q_n,q_p]
 _law_group:Df K mg "_law_group" T.f__law_group [q_b,q_n,"_law_turns",q_p]
 _law_world:Df K mg "_law_world" T.f__law_world [q_b]
 _law_table:Df K mg "_law_table" T.f__law_table [q_w]
 _law_is_whole:Df K mg "_law_is_whole" T.f__law_is_whole ["_law_thing"]
 _law_rides:Df K mg "_law_rides" T.f__law_rides [q_w,"_law_rides_here"]
 _law_number:Df K mg "_law_number" T.f__law_number [q_b,"_law_most"]
 _law_name:Df K mg "_law_name" T.f__law_name [q_b,q_w,q_s]
 _law_one:Df K mg "_law_one" T.f__law_one [q_w,q_n]
 _law_more:Df K mg "_law_more" T.f__law_more [q_b,q_w,q_s]
 _law_less:Df K mg "_law_less" T.f__law_less [q_b,q_w,q_s]
 _law_put:Df K mg "_law_put" T.f__law_put [q_w,"_law_at","_law_row"]
 _law_seats:Df K mg "_law_seats" T.f__law_seats [q_b,q_w,q_s]
 _law_later:Df K mg "_law_later" T.f__law_later [q_b,q_w,q_s]
 _law_groups:Df K mg "_law_groups" T.f__law_groups [q_b,q_w,q_s]
 _law_homes:Df K mg "_law_homes" T.f__law_homes [q_b,q_w]
 _law_deed:Df K mg "_law_deed" T.f__law_deed [q_b,q_w,q_s]
 _law_made:Df K mg "_law_made" T.f__law_made [q_t,"_law_deed_here"]
 _law_told:Df K mg "_law_told" T.f__law_told [q_t,"_law_deed_here"]
 _law_tells:Df K mg "_law_tells" T.f__law_tells [q_t,q_w]
 _law_turn:Df K mg "_law_turn" T.f__law_turn [q_b,q_t,q_w,q_s]
theorem Rr(W:K1.Txt K mg)(G:TB.Txt K mg)(Zs:Sizes K w mg)(Zm:Mosts K w mg)(he:mg "enumerate"=none)(D:Defs K mg)(t:TabF K mg C)(b:BadF K mg Cb Qa):TMk P w K mg base C Cb:=by obtain⟨f,fd,M,F,bd⟩:=t.init;have B:=Dk (P:=P) (w:=w) (base:=base) b;have cW:=K1.Pn (P:=P) (w:=w) (base:=base) W D.is_whole;have cI:=K1.NA (P:=P) (w:=w) (base:=base) D.is_within cW;have cX:=K1.Sd (P:=P) (w:=w) (base:=base) W D.is_text_of;have cN:=K1.Li (P:=P) (w:=w) (base:=base) W D.is_name cX;have cG:=K1.WY (P:=P) (w:=w) (base:=base) W D.is_group_name cX;have cK:=Po (P:=P) (w:=w) (base:=base) G D.is_known;have cP:=G4 (P:=P) (w:=w) (base:=base) t.cl t.ms.is_place cK;have cH:=NC (P:=P) (w:=w) (base:=base) t.cl t.ms.is_home cP;have cE:=Lm (P:=P) (w:=w) (base:=base) t.cl D.wrong_ends cP cH;have cB:=Sa (P:=P) (w:=w) (base:=base) G Zs D.wrong_beginning cN cG;have cR:=Se (P:=P) (w:=w) (base:=base) B D.refuse_row;have cRo:=Lg (P:=P) (w:=w) (base:=base) G Zm B D.rows_of;have c1:=WN (P:=P) (w:=w) (base:=base) t.cl he t.ms.take_places cB (R6 G D.wrong_place cI) cR;have c2:=WM (P:=P) (w:=w) (base:=base) t.cl he t.ms.take_rides cB (Lh G t.cl D.wrong_ride cI cE) cR;have c3:=WL (P:=P) (w:=w) (base:=base) t.cl he t.ms.take_ways cB (De G t.cl D.wrong_way cI cE) cR;have c4:=WO (P:=P) (w:=w) (base:=base) t.cl he t.ms.take_groups cB (R9 G t.cl D.wrong_group cI cP) cR;refine⟨⟨f,fd,M,F.okX LH (λvs H Q E h=>?_) λcdv A outer s H vs Q E hr h=>Sx G t.cl B (cI.mono (by decide)) (cRo.mono (by decide)) (c1.mono (by decide)) (c2.mono (by decide)) (c3.mono (by decide)) (c4.mono (by decide)) hr h,bd⟩,t.mg⟩;obtain⟨t',dx,vT,T',v1,v2,v3,v4,r1,r2,r3,r4,rfl,_⟩:=h;rfl
theorem LY{f Cn Ct Ch Cp Cg:ae}{fd:FuncData}(W:K1.Txt K mg)(G:TB.Txt K mg)(Zs:Sizes K w mg)(Zm:Mosts K w mg)(B:∀x∈Blts,mg x=none)(D:Defs K mg)(t:TabF K mg C)(n:Errs K mg Qa Cb Cn Ct Ch Cp Cg)(F:Fun K "law" "law" T.f_law f fd):FnOk P w K mg base CX0 15 f fd ["_law_script"] (Qy K):=by have tm:=Rr (P:=P) (base:=base) W G Zs Zm (B _ (by decide +kernel)) D t n.b;have Z:=t.cl;have cT:=Le (P:=P) (w:=w) (base:=base) (mg:=mg) D._law_take;have cS:=Lf (P:=P) (w:=w) (base:=base) (mg:=mg) cT D._law_size;have cN:=WP (P:=P) (w:=w) (base:=base) (mg:=mg) B cT D._law_names;have cE:=WV (P:=P) (w:=w) (base:=base) (mg:=mg) B cT D._law_ends;have cRi:=WR (P:=P) (w:=w) (base:=base) (mg:=mg) B cT cS cE D._law_ride;have cWy:=Lj (P:=P) (w:=w) (base:=base) (mg:=mg) B cT cS cE D._law_way;have cGr:=Su (P:=P) (w:=w) (base:=base) (mg:=mg) B cT D._law_group;have cWo:=WJ (P:=P) (w:=w) (base:=base) (mg:=mg) B cT cN (Sf B cT cN cS D._law_places) cRi cWy cGr D._law_world;have cI:=K1.NA (P:=P) (w:=w) (base:=base) (mg:=mg) D.is_within (K1.Pn W D.is_whole);have cK:=Po (P:=P) (w:=w) (base:=base) (mg:=mg) G D.is_known;have iP:=G4 (P:=P) (w:=w) (base:=base) (mg:=mg) Z t.ms.is_place cK;have iH:=NC (P:=P) (w:=w) (base:=base) (mg:=mg) Z t.ms.is_home iP;have iR:=Rg (P:=P) (w:=w) (base:=base) (mg:=mg) Z t.ms.is_ride cK;have iG:=Qh (P:=P) (w:=w) (base:=base) (mg:=mg) Z t.ms.is_group cK;have mO:=Rc (P:=P) (w:=w) (base:=base) (mg:=mg) Z (Nb n.NoPlace We rfl ⟨by decide,by decide⟩) t.ms.room_of iP;have mR:=Qf (P:=P) (w:=w) (base:=base) (mg:=mg) Z (Nb n.NoRide Km rfl ⟨by decide,by decide⟩) t.ms.ride_row iR;have mG:=NR (P:=P) (w:=w) (base:=base) (mg:=mg) Z (Nb n.NoGroup Wg rfl ⟨by decide,by decide⟩) t.ms.group_row iG;have mH:=WX (P:=P) (w:=w) (base:=base) (mg:=mg) Z t.ms.homes;have wR:=NN (P:=P) (w:=w) (base:=base) (mg:=mg) Z tm t.ms.with_rides;have wA:=R8 (P:=P) (w:=w) (base:=base) (mg:=mg) Z wR t.ms.with_ride_as;have w1:=Qe (P:=P) (w:=w) (base:=base) (mg:=mg) Z wR t.ms.with_ride;have w2:=Rb (P:=P) (w:=w) (base:=base) (mg:=mg) Z wR mR t.ms.without_ride;have w3:=NM (P:=P) (w:=w) (base:=base) (mg:=mg) Z wA mR t.ms.with_seats;have w4:=NO (P:=P) (w:=w) (base:=base) (mg:=mg) Z (Nb n.NoTurn Kl rfl ⟨by decide,by decide⟩) cI wA mR t.ms.with_later;have w5:=NB (P:=P) (w:=w) (base:=base) (mg:=mg) Z tm t.ms.with_groups;have w6:=NP (P:=P) (w:=w) (base:=base) (mg:=mg) B Z tm (Nb n.NoHomes Wf rfl ⟨by decide,by decide⟩) cI mH t.ms.with_homes;have cMd:=WT (c:=⟨C,Cb,Cn,Ct,Ch⟩) (P:=P) (w:=w) (base:=base) (mg:=mg) Z w1 w2 w3 w4 w5 w6 D._law_made;have cTo:=Sh (P:=P) (w:=w) (base:=base) (mg:=mg) n.four cMd D._law_told;have cTl:=Si (P:=P) (w:=w) (base:=base) (mg:=mg) B Z (WK Z t.ms.told) mH (Sg B Z t.ms.people) iG mG mO iH mR D._law_tells;have cRs:=Sl (P:=P) (w:=w) (base:=base) (mg:=mg) D._law_rides;have cNu:=Re (P:=P) (w:=w) (base:=base) (mg:=mg) cT D._law_number;have cNm:=Sn (P:=P) (w:=w) (base:=base) (mg:=mg) B cT D._law_name;have cOn:=Ll (P:=P) (w:=w) (base:=base) (mg:=mg) B D._law_one;have cPu:=Lk (P:=P) (w:=w) (base:=base) (mg:=mg) cRs D._law_put;have cIw:=Qg (P:=P) (w:=w) (base:=base) (mg:=mg) B D._law_is_whole;have cDe:=WW (c:=⟨C,Cb,Cn,Ct,Ch⟩) (P:=P) (w:=w) (base:=base) (mg:=mg) cT (WS B cT cRi cRs D._law_more) (WU B cNm cOn cRs D._law_less) (Sk B cNm cOn cNu cIw cPu D._law_seats) (So B cNm cOn cNu cIw cPu D._law_later) (Rf B cT cN cGr D._law_groups) (Sr B cNu cIw D._law_homes) D._law_deed;have cTu:=WQ (P:=P) (w:=w) (base:=base) (mg:=mg) B cDe cTo cTl D._law_turn;exact D6 (c:=⟨C,Cb,Cn,Ct,Ch⟩) B (Dg B D._law_box) cT cWo (Sj B tm D._law_table) cTu cTl F
theorem D9{l:PySem.W.OpenLaw}{h:aX}{fa f:ae}(X:K.In h)(G:h.Ns bf mg)(hfa:mg "law"=some (.ref fa))(Wt:K1.Txt K mg)(Gt:TB.Txt K mg)(Zs:Sizes K w mg)(Zm:Mosts K w mg)(B:∀x∈Blts,mg x=none)(D:Defs K mg)(ht:∃C,TabF K mg C)(hn:∃Qa Cb Cn Ct Ch Cp Cg,Errs K mg Qa Cb Cn Ct Ch Cp Cg){oc:ac}{od an:Option ae}{osl:Array (Option ac)}{kV doc pm cdv ct:ac}(a:bE K bf "law"=some (some (.ref f)))(lk:K.lookup f=some ⟨oc,od,.func (bO "law" "law" (YQ T.f_law) (ZR T.f_law) (Zg T.f_law) .none kV doc pm an cdv ct),osl⟩)(c:cY K cdv "law"=true)(k:bo K (.ref f)=true):∃fd:FuncData,(∀(s:ag)(v:ac),BindsTo s fd ⟨[v],[]⟩ [("_law_script",v)])/\∀base:aX,K.In base->base.Ns bf mg->FnOk l.prog w K mg base CX0 15 fa fd ["_law_script"] (Qy K):=by have e:=hfa.symm.trans (dE X G a);cases e;obtain⟨C,t⟩:=ht;obtain⟨Qa,Cb,Cn,Ct,Ch,Cp,Cg,n⟩:=hn;have F:=V7 (st:=T.f_law) lk c k;exact⟨bO "law" "law" (YQ T.f_law) (ZR T.f_law) (Zg T.f_law) .none kV doc pm an cdv ct,λs v=>.of_eq rfl,λbase _ _=>LY Wt Gt Zs Zm B D t n F⟩
end
theorem Lz{K:aa}{Qa NQ:ae}{c2 c3:ac}{d2 d3:Option ae}{cdQ:ClassData}{sl2 sl3:Array (Option ac)}{es3:Array DictEntry}{ep3:Nat}(lq:K.lookup Qa=some ⟨c2,d2,.cls cdQ,sl2⟩)(eq:cdQ.ns=NQ)(nq:K.lookup NQ=some ⟨c3,d3,.dict es3 ep3,sl3⟩)(nqe:(es3.toList.all λe=>match e.key with|.str _ _=>true|_=>false)=true)(iq:bE K NQ "__init__"=some none):PySem.W.tailIn K bmV (.ref Qa::bmV)=true:=by
 have nq':PySem.W.nsOkIn K NQ=true:=by unfold PySem.W.nsOkIn;rw[nq];dsimp only;rw[<-Array.all_toList];exact nqe
 subst eq;unfold PySem.W.tailIn;rw[Bool.or_eq_true];refine .inr ?_;dsimp only;rw[lq];dsimp only;rw[nq',iq];unfold PySem.W.tailIn;rw[show(bmV==bmV)=true from by decide];rfl
theorem GF{ps:List Str}{K:aa}{h:aX}{mg:Str->Option ac}{x qual:Str}{st:bc}{C fI Qa N:ae}{nm q:Str}{bs:List ac}{sn:List Str}{sub:List ac}{ab:Bool}{col:Option Bool}{dd:Option ae}{k0 k1 k2 k3 k5:Option ac}{c1 oc:ac}{d1 od an:Option ae}{es1:Array DictEntry}{ep1:Nat}{sl1 osl:Array (Option ac)}{kV doc pm cdv ct:ac}(KX:K.In h)(G:h.Ns bf mg)(a:bE K bf x=some (some (.ref C)))(l:K.lookup C=some (excClassObj nm q C N bs (.ref Qa::bmV) true sn sub ab col dd k0 k1 k2 k3 k5 "ValueError.__new__"))(n1:K.lookup N=some ⟨c1,d1,.dict es1 ep1,sl1⟩)(n1e:(es1.toList.all λe=>match e.key with|.str _ _=>true|_=>false)=true)(n2:bE K N "__init__"=some (some (.ref fI)))(tl:PySem.W.tailIn K bmV (.ref Qa::bmV)=true)(lf:K.lookup fI=some ⟨oc,od,.func (bO "__init__" qual (YQ st) (ZR st) (Zg st) .none kV doc pm an cdv ct),osl⟩)(cf:oc=.type "function")(cc:cY K cdv qual=true)(ck:bo K (.ref fI)=true)(sa:aF K (.ref C) "__setattr__"=some (some (.builtin "object.__setattr__")))(ob:PySem.W.mroIn K C (.type "object")=some true)(ga:aF K (.ref C) "__getattribute__"=some (some (.builtin "BaseException.__getattribute__")))(gg:aF K (.ref C) "__getattr__"=some none)(hd:dj K C=true)(be:PySem.W.mroIn K C (.type "BaseException")=some true)(kp:bo K (.ref C)=true)(hb:∀(kV doc pm:ac)(an:Option ae)(cdv ct:ac)(us:List ac),us.length=ps.length->bindArgs (bO "__init__" qual (YQ st) (ZR st) (Zg st) .none kV doc pm an cdv ct) ⟨us,[]⟩=pure (ps.zip us)):ErF K mg x qual st C Qa ps:=by
 have n1':PySem.W.nsOkIn K N=true:=by unfold PySem.W.nsOkIn;rw[n1];dsimp only;rw[<-Array.all_toList];exact n1e
 have F:=V7 (st:=st) lf cc ck;have X:XK1 K mg x C fI Qa:=⟨⟨⟨nm,q,N,bs,sn,sub,ab,col,dd,k0,k1,k2,k3,k5,l,n1',n2⟩,tl,⟨_,lf,cf⟩,sa,ob⟩,⟨ga,gg,hd,be⟩,⟨nm,q,N,bs,_,true,sn,sub,ab,col,dd,k0,k1,k2,k3,k5,_,l,by rw[dX];exact Bool.or_eq_true_iff.mpr (.inr (by decide))⟩,dE KX G a,kp⟩;exact⟨fI,_,X,F,F.binds hb⟩
theorem DL{K:aa}{h:aX}{mg:Str->Option ac}{C f1:ae}{oc1:ac}{od1 an1:Option ae}{osl1:Array (Option ac)}{kV1 doc1 pm1 cdv1 ct1:ac}(X:K.In h)(G:h.Ns bf mg)(aC:bE K bf "Table"=some (some (.ref C)))(pg:PySem.W.plainGet K C ce=true)(hd:dj K C=true)(po:PySem.W.plainOver K C=true)(sa:aF K (.ref C) "__setattr__"=some (some (.builtin "object.__setattr__")))(mk:PySem.W.makesIn K C=true)(kc:bo K (.ref C)=true)(y1:aF K (.ref C) "turns"=some none)(y2:aF K (.ref C) "places"=some none)(y3:aF K (.ref C) "room_by_place"=some none)(y4:aF K (.ref C) "rides"=some none)(y5:aF K (.ref C) "ride_by_name"=some none)(y6:aF K (.ref C) "ways"=some none)(y7:aF K (.ref C) "way_by_name"=some none)(y8:aF K (.ref C) "groups"=some none)(y9:aF K (.ref C) "group_by_name"=some none)(a1:aF K (.ref C) "__init__"=some (some (.ref f1)))(i1:PySem.W.isFn K (.ref f1)=true)(l1:K.lookup f1=some ⟨oc1,od1,.func (bO "__init__" "Table.__init__" (YQ T.m_Table___init__) (ZR T.m_Table___init__) (Zg T.m_Table___init__) .none kV1 doc1 pm1 an1 cdv1 ct1),osl1⟩)(c1:cY K cdv1 "Table.__init__"=true)(k1:bo K (.ref f1)=true)(ms:Meths K C):∃C,TabF K mg C:=by have F:=V7 (st:=T.m_Table___init__) l1 c1 k1;refine⟨C,⟨⟨pg,hd,po,sa⟩,λf hf=>?_⟩,⟨f1,_,⟨mk,a1,i1,kc⟩,F,F.binds λ_ _ _ _ _ _ us hl=>by obtain⟨_,_,_,_,_,_,rfl⟩:=len6 hl;rfl⟩,dE X G aC,ms⟩;unfold fields at hf;simp only[aq,aK,or_false]at hf;rcases hf with rfl|rfl|rfl|rfl|rfl|rfl|rfl|rfl|rfl<;>assumption
theorem walk{l:PySem.W.OpenLaw}{q:aA}{loose:List Str}{XP:(Str->Option ac)->aX->Prop}{YP:aI->aX->Prop}{d:DefRec}{K:Params->aa}(hn:l.most=some 63)(hdf:d.params.defaults=[])(hY:∀(w:aI)(h:aX),YP w h->(K w.params).In h)(F:∀(w:aI)(mg:Str->Option ac)(fa:ae)(h:aX),(K w.params).In h->h.Ns bf mg->mg d.name=some (.ref fa) ->∃fd:FuncData,(∀(s:ag)(u:ac),BindsTo s fd ⟨[u],[]⟩ [("_law_script",u)])/\∀base:aX,(K w.params).In base->base.Ns bf mg->FnOk l.prog w (K w.params) mg base CX0 15 fa fd ["_law_script"] (Qy (K w.params))):PySem.W.WalkO q loose XP YP l.row.toRowW d [] (λf vs=>PySem.call f vs):=L2.Lx (n:=63) (k:=15) (x:="_law_script") (CX:=λ_=>CX0) (sp:=λw=>Qy (K w.params)) hn (by decide) hdf ⟨rfl,by decide,by decide,rfl⟩ hY F (λ_ _ a ns hl _ hS=>⟨a,ns,rfl,hS,hl,λ_=>rfl⟩) λ_ _ _ _ _ z=>z
end WD
open PySem PySem.W PyProof.Rows
set_option hygiene false in
local macro_rules
|`(tactic| o_head $H)=>`(tactic| (
   refine holds_open (q:=RG.QV) (loose:=RG.LO) (Xt:=RG.XT) (XP:=XL RG.QV [])
    (Yf:=Hook.obs $H) (Ya:=Hook.val $H) (YP:=Hook.says $H) (N:=8688) ?hl (Hook.of $H) (Hook.keeps $H) (λs e=>xl_of s (cQ.mp e).1)
    XL.keeps (by rfl) (by rfl) (by rfl) (λs e=>recFacts_of (cQ.mp e).2) (by rfl) (by first|assumption|decide +kernel) (by decide +kernel)
    ⟨rfl,rfl,rfl,rfl,rfl,by decide +kernel⟩ ?hw ?hc
   case' hl=>exact RG.Fn "special-get-raises" (by kernel_rfl) (by decide) (λs=>by kernel_rfl) RG.lf RG.lt (λw os=>by kernel_rfl) RG.kA (λw=>rfl)))
set_option maxRecDepth 100000 in
set_option maxHeartbeats 0 in
theorem PySem.Challenge.cw_homequay_k06_tables_made_of_tables_holds : PySem.Challenge.rw_homequay_k06_tables_made_of_tables.Holds := by
 w_on;o_law;k_head;(case hw=>w_witness2);k_fill;refine WD.walk (l:=PySem.Challenge.rw_homequay_k06_tables_made_of_tables) rfl rfl (λw h Y=>PySem.W.kIn_of Y) ?F;case F=>
  intro w mg fa h KX G hmg;have D:WD.Defs (L2.KOf KX) mg:=by dsimp only[L2.KOf];constructor<;>(refine' L2.Fz KX G ?a ?l ?c ?k ?b;(case a=>k_is);(case l=>k_is);(case c=>k_is);(case k=>k_is);(case b=>exact λ_ _ _ _ _ _ us hl=>by first|(obtain⟨_,rfl⟩:=L2.len1 hl;rfl)|(obtain⟨_,_,rfl⟩:=L2.len2 hl;rfl)|(obtain⟨_,_,_,rfl⟩:=L2.len3 hl;rfl)|(obtain⟨_,_,_,_,rfl⟩:=L2.len4 hl;rfl)|(obtain⟨_,_,_,_,_,rfl⟩:=L2.len5 hl;rfl)))
  have B:∀x∈WD.Blts,mg x=none:=by intro x hx;unfold WD.Blts at hx;simp only[aq,aK,or_false]at hx;rcases hx with rfl|rfl|rfl|rfl|rfl|rfl|rfl|rfl|rfl|rfl|rfl|rfl|rfl<;>(refine' PySem.W.mg_none_of KX G ?a;(case a=>k_is))
  have W:K1.Txt (L2.KOf KX) mg:=by constructor<;>((first|refine' PySem.W.mg_none_of KX G ?a|refine' L2.str_mk KX G ?a|refine' L2.int_mk KX G ?a);(case a=>k_is))
  have Gt:TB.Txt (L2.KOf KX) mg:=by constructor<;>((first|refine' PySem.W.mg_none_of KX G ?a|refine' L2.str_mk KX G ?a|refine' L2.int_mk KX G ?a);(case a=>k_is))
  have Zs:TB.Sizes (L2.KOf KX) w mg:=by refine⟨?_⟩;dsimp only[L2.KOf];refine' L2.Tw KX G ?a ?l ?k ?h1 ?h2 ?h3 ?h4;(case a=>k_is);(case l=>k_is);(case k=>k_keys);(case h1=>k_is);(case h2=>k_is);(case h3=>k_is);(case h4=>k_is)
  have Zm:TB.Mosts (L2.KOf KX) w mg:=by refine⟨?_⟩;dsimp only[L2.KOf];refine' L2.Tw KX G ?a ?l ?k ?h1 ?h2 ?h3 ?h4;(case a=>k_is);(case l=>k_is);(case k=>k_keys);(case h1=>k_is);(case h2=>k_is);(case h3=>k_is);(case h4=>k_is)
  have hn:∃Qa Cb Cn Ct Ch Cp Cg,WD.Errs (L2.KOf KX) mg Qa Cb Cn Ct Ch Cp Cg:=by
   dsimp only[L2.KOf];refine' ⟨_,_,_,_,_,_,_,⟨⟨WD.GF KX G ?a_0 ?l_0 ?n1_0 ?n1e_0 ?n2_0 ?tl ?lf_0 ?cf_0 ?cc_0 ?ck_0 ?sa_0 ?ob_0 ?ga_0 ?gg_0 ?hd_0 ?be_0 ?kp_0 ?bb_0,?y1_0,?y2_0,?y3_0⟩,⟨WD.GF KX G ?a_1 ?l_1 ?n1_1 ?n1e_1 ?n2_1 ?tl ?lf_1 ?cf_1 ?cc_1 ?ck_1 ?sa_1 ?ob_1 ?ga_1 ?gg_1 ?hd_1 ?be_1 ?kp_1 ?bb_1,?y1_1⟩,⟨WD.GF KX G ?a_2 ?l_2 ?n1_2 ?n1e_2 ?n2_2 ?tl ?lf_2 ?cf_2 ?cc_2 ?ck_2 ?sa_2 ?ob_2 ?ga_2 ?gg_2 ?hd_2 ?be_2 ?kp_2 ?bb_2,?y1_2⟩,⟨WD.GF KX G ?a_3 ?l_3 ?n1_3 ?n1e_3 ?n2_3 ?tl ?lf_3 ?cf_3 ?cc_3 ?ck_3 ?sa_3 ?ob_3 ?ga_3 ?gg_3 ?hd_3 ?be_3 ?kp_3 ?bb_3,?y1_3⟩,⟨WD.GF KX G ?a_4 ?l_4 ?n1_4 ?n1e_4 ?n2_4 ?tl ?lf_4 ?cf_4 ?cc_4 ?ck_4 ?sa_4 ?ob_4 ?ga_4 ?gg_4 ?hd_4 ?be_4 ?kp_4 ?bb_4,?y1_4⟩,⟨WD.GF KX G ?a_5 ?l_5 ?n1_5 ?n1e_5 ?n2_5 ?tl ?lf_5 ?cf_5 ?cc_5 ?ck_5 ?sa_5 ?ob_5 ?ga_5 ?gg_5 ?hd_5 ?be_5 ?kp_5 ?bb_5,?y1_5⟩,?m21,?m31,?m32,?m41,?m42,?m43⟩⟩;(case a_0=>k_is);(case l_0=>k_is);(case n1_0=>k_is);(case n1e_0=>rfl);(case n2_0=>k_is);(case lf_0=>k_is);(case cf_0=>rfl);(case cc_0=>k_is);(case ck_0=>k_is);(case sa_0=>k_is);(case ob_0=>k_is);(case ga_0=>k_is);(case gg_0=>k_is);(case hd_0=>k_is);(case be_0=>k_is);(case kp_0=>k_is);(case y1_0=>k_is);(case y2_0=>k_is);(case y3_0=>k_is);(case bb_0=>exact λ_ _ _ _ _ _ us hl=>by obtain⟨_,_,_,_,rfl⟩:=L2.len4 hl;rfl);(case tl=>refine' WD.Lz ?lq ?eq ?nq ?nqe ?iq;(case lq=>k_is);(case eq=>rfl);(case nq=>k_is);(case nqe=>rfl);(case iq=>k_is));(case a_1=>k_is);(case l_1=>k_is);(case n1_1=>k_is);(case n1e_1=>rfl);(case n2_1=>k_is);(case lf_1=>k_is);(case cf_1=>rfl);(case cc_1=>k_is);(case ck_1=>k_is);(case sa_1=>k_is);(case ob_1=>k_is);(case ga_1=>k_is);(case gg_1=>k_is);(case hd_1=>k_is);(case be_1=>k_is);(case kp_1=>k_is);(case y1_1=>k_is);(case bb_1=>exact λ_ _ _ _ _ _ us hl=>by obtain⟨_,_,rfl⟩:=L2.len2 hl;rfl);(case a_2=>k_is);(case l_2=>k_is);(case n1_2=>k_is);(case n1e_2=>rfl);(case n2_2=>k_is);(case lf_2=>k_is);(case cf_2=>rfl);(case cc_2=>k_is);(case ck_2=>k_is);(case sa_2=>k_is);(case ob_2=>k_is);(case ga_2=>k_is);(case gg_2=>k_is);(case hd_2=>k_is);(case be_2=>k_is);(case kp_2=>k_is);(case y1_2=>k_is);(case bb_2=>exact λ_ _ _ _ _ _ us hl=>by obtain⟨_,_,rfl⟩:=L2.len2 hl;rfl);(case a_3=>k_is);(case l_3=>k_is);(case n1_3=>k_is);(case n1e_3=>rfl);(case n2_3=>k_is);(case lf_3=>k_is);(case cf_3=>rfl);(case cc_3=>k_is);(case ck_3=>k_is);(case sa_3=>k_is);(case ob_3=>k_is);(case ga_3=>k_is);(case gg_3=>k_is);(case hd_3=>k_is);(case be_3=>k_is);(case kp_3=>k_is);(case y1_3=>k_is);(case bb_3=>exact λ_ _ _ _ _ _ us hl=>by obtain⟨_,_,rfl⟩:=L2.len2 hl;rfl);(case a_4=>k_is);(case l_4=>k_is);(case n1_4=>k_is);(case n1e_4=>rfl);(case n2_4=>k_is);(case lf_4=>k_is);(case cf_4=>rfl);(case cc_4=>k_is);(case ck_4=>k_is);(case sa_4=>k_is);(case ob_4=>k_is);(case ga_4=>k_is);(case gg_4=>k_is);(case hd_4=>k_is);(case be_4=>k_is);(case kp_4=>k_is);(case y1_4=>k_is);(case bb_4=>exact λ_ _ _ _ _ _ us hl=>by obtain⟨_,_,rfl⟩:=L2.len2 hl;rfl);(case a_5=>k_is);(case l_5=>k_is);(case n1_5=>k_is);(case n1e_5=>rfl);(case n2_5=>k_is);(case lf_5=>k_is);(case cf_5=>rfl);(case cc_5=>k_is);(case ck_5=>k_is);(case sa_5=>k_is);(case ob_5=>k_is);(case ga_5=>k_is);(case gg_5=>k_is);(case hd_5=>k_is);(case be_5=>k_is);(case kp_5=>k_is);(case y1_5=>k_is);(case bb_5=>exact λ_ _ _ _ _ _ us hl=>by obtain⟨_,_,rfl⟩:=L2.len2 hl;rfl);(case m21=>rfl);(case m31=>rfl);(case m32=>rfl);(case m41=>rfl);(case m42=>rfl);(case m43=>rfl)
  have ht:∃C,WD.TabF (L2.KOf KX) mg C:=by dsimp only[L2.KOf];refine' WD.DL KX G ?aC ?pg ?hd ?po ?sa ?mk ?kc ?y1 ?y2 ?y3 ?y4 ?y5 ?y6 ?y7 ?y8 ?y9 ?a1 ?i1 ?l1 ?c1 ?k1 ?ms;(case aC=>k_is);(case pg=>k_is);(case hd=>k_is);(case po=>k_is);(case sa=>k_is);(case mk=>k_is);(case kc=>k_is);(case y1=>k_is);(case y2=>k_is);(case y3=>k_is);(case y4=>k_is);(case y5=>k_is);(case y6=>k_is);(case y7=>k_is);(case y8=>k_is);(case y9=>k_is);(case a1=>k_is);(case i1=>k_is);(case l1=>k_is);(case c1=>k_is);(case k1=>k_is);(case ms=>constructor<;>(refine' L2.EI ?za ?zi ?zl ?zc ?zk ?zb;(case za=>k_is);(case zi=>k_is);(case zl=>k_is);(case zc=>k_is);(case zk=>k_is);(case zb=>exact λ_ _ _ _ _ _ us hl=>by first|(obtain⟨_,rfl⟩:=L2.len1 hl;rfl)|(obtain⟨_,_,rfl⟩:=L2.len2 hl;rfl)|(obtain⟨_,_,_,rfl⟩:=L2.len3 hl;rfl)|(obtain⟨_,_,_,_,rfl⟩:=L2.len4 hl;rfl)|(obtain⟨_,_,_,_,_,rfl⟩:=L2.len5 hl;rfl))))
  refine' WD.D9 KX G hmg W Gt Zs Zm B D ht hn ?fa ?fl ?fc ?fk;(case fa=>k_is);(case fl=>k_is);(case fc=>k_is);(case fk=>k_is)
