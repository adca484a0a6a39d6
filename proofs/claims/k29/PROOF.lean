import PyProof.Rows.All
import KE.KIntText
import KE.KTryMore
import KE.KDictOf
import KE.KRevSl
import KE.KSortTup
import KE.KItemsList
import PySem.Challenge.RW_lookwords_k29_lists_texts_refused
open Option renaming some->lm,none->lr
open PySem renaming wpAny_bind->lq,Value->lu,Shared->lx,wpAny_pure->ly,starEach->lz,wpAny->lA,bootBuiltins->lB,Program->lC,World->lD,sizeLine_eq->lE,wpAny_newObj_type->lF,Around->lG,wpAny_holding->lH,compareOp->lI,mainGlobals->lJ,wpAny_setState_of->lK,wpAny_call_entry->lL,backTo->lM,rawInt->lN,wpAny_setField->lO,attributeBase->lP,wpAny_callSpecial?_slot->lQ,wpAny_mono->lR,IsTupleKey->lS,keywordEach->lT,wpAny_field->lU,codeAny_builtin->lV,wpAny_askSetting->lW,cLine->lY,wpAny_truthy_bool->lZ,OsState->l0,Keyword->l6,strLen_append->l7,SetTable->l8,sysModules->l9,binaryOp->mf,wpAny_Call_Name_kw->mh,call_meets->mi,swapsWith->mm,wpAny_passesOwn->mn,foldedSetIterable->mq,codeAny->my,backToKw->mz,wpAny_loadPart_at->mB,wpAny_setEntries_of->mC,FuncData->mD,NameKind->mE,wpAny_seqItems->mF,assignEach->mG,wpAny_typeOf->mH,wpAny_pyIter_tuple->mI,wpAny_attempt->mJ,builtinLookup_eq_fast->mK,firstArgMember->mL,codeAny_mono->mO,wpAny_isInstance->mP,Scope->mQ,pyNext->mR,behindInMarks->mS,wpAny_standAt->mT,plainId_quiet->mU,importedModules->mV,tupleKind_room_in1->mW,getattributeRaised->mX,treeTable->mY,sliceBounds->mZ,wpAny_of_eq->m8,pickOrder->m9,wpAny_pyIter_list->ng,wpAny_storeSet_of->nh,fits_of_scanBound->nv,isSubtype_type->ny,IsPart->nz,typeIs_str->nB,noteFrame->nC,setFlight->nD,wpAny_rule->nE,wpAny_execs_nil->nG,letOwnedTupleGo->nH,typeLookup_type->nI,wpAny_loadPart'->nJ,Params->nM,GenState->nN,recursionLimit->nO,typeOf->nP,wpAny_fieldsOf->nQ,setsByText->nR,wpAny_throw->nS,wpAny_handled->nX,wpAny_newList->nY,getMethod->nZ,setField->n5,getAttr?->n8,relayAll->n9,scanBound->og,builtinsNs->oj,concat_meets->om,setAddHashed->oo,setNext->ou,DictEntry->oz,tupleKind->oA,standAt->oB,BindsTo->oC,cellsFrom->oE,getItem->oF,callerA->oG,valueAt->oH,seqItems?->oI,Paired->oK,pyIter->oM,Result->oN,wpAny_call->oO,typeLookup->oP,setEntries->oQ,callWith->oR
open Bool renaming true->lv,false->lw
open PyProof.Rows renaming seqObj->lX,envOfC->mj,AllBare->nK,StrsAre->nU,tail_any->oS
open PySem.W renaming boot_heap->ml,behindTheImports->mM,keepIn->nV,findIn->nW,boot_drawn->oh,topFrame->oy,looseW->oJ
open PySem.Str renaming ofString->aa,empty->ba,cps_append->bR,length->cD,join->eG,ext'->j3
open PySem.Heap renaming get?_push_of_some->ac,get?_push_size->ap,lt_size->ax,SameBut->bh,get?_update_self->bo,size_push->bP,get?_update_other->bT,get?_push_ne->iK,ExtBut->i9
open List renaming mem_cons_of_mem->ae,mem_cons->af,length_cons->ah,mem_cons_self->aj,length_append->am,length_map->aq,size_toArray->au,mem_map->aw,mem_singleton->ay,getElem?_set_ne->aA,range->aB,getElem?_eq_some_iff->aE,map_cons->aF,getElem?_eq_getElem->aG,mem_append_right->aH,mem_append->aI,getElem?_map->aJ,getElem?_set_self->aL,mem_range->aN,all_eq_true->aW,nodup_cons->aZ,length_take->bb,filterMap_cons->br,mem_append_left->bu,length_nil->bv,append_nil->bw,mem_of_getElem?->bA,take_of_length_le->bC,length_range->bD,getElem?_of_mem->bI,pairwise_cons->bK,not_mem_nil->bM,getElem?_replicate->bN,replicate->bQ,lookup_cons->bU,map_map->bV,drop_eq_nil_of_le->bW,foldl_cons->cj,length_drop->cm,getElem?_append_right->cr,append_assoc->cu,getD_eq_getElem?_getD->cx,getElem?_eq_none_iff->cz,pairwise_iff_getElem->cA,take_append_drop->cB,getElem?_eq_none->cC,getElem_mem->cF,map_append->cS,map_nil->cV,lookup->cW,any_cons->cX,find?_eq_none->c8,getElem?_toArray->c9,getElem?_append_left->db,drop_eq_getElem_cons->df,getElem?_zip_eq_some->dh,mem_filter->dj,find?_cons->dn,count_append->dA,replicate_zero->dF,nodup_nil->dI,zip_cons_cons->dU,length_pos_of_mem->dY,length_replicate->d5,length_singleton->d6,nodup_append->d9,pairwise_map->eh,flatMap_cons->ei,mem_iff_getElem->et,toArray->e9,filter_eq_self->fj,toList_toArray->fk,length_erase_of_mem->fB,of_mem_zip->fC,mem_filterMap->fE,count_eq_zero->fH,ext_getElem?->fR,drop_drop->fS,mem_of_mem_erase->fX,cons_lt_cons_iff->fY,any_eq_true->h8,nodup_range->h9,pairwise_append->ic,length_set->ii,nil_append->ij,getElem?_drop->iD,take_sublist->iG,all_cons->iQ,sum_cons->iS,getElem_inj->iT,cons_append->iV,all_map->iX,forIn_cons->i3,sum_append->i5,drop_zero->j5,take_zero->j6,length->lh
open Nat renaming le_refl->ao,ne_of_lt->aD,lt_of_lt_of_le->aK,zero_le->be,le_trans->bn,lt_irrefl->bS,le_of_lt->cH,lt_succ_of_lt->cO,lt_trans->dQ,not_lt_zero->dZ,ne_of_gt->eI,lt_succ_self->eZ,le_of_not_lt->e7,le_add_right->e8,le_of_eq->fL,sub_self->fW,mod_lt->hZ,lt_or_eq_of_le->iC,lt_of_succ_lt->iI,succ_pos->iY,le_succ->lg
open Array renaming length_toList->aM,getElem?_toList->aV,getElem?_eq_some_iff->aY,getElem?_eq_getElem->bY,toList_inj->cY,getElem?_eq_none->dS,toList_append->ip,getD->iB,replicate->i6,mk->i8
open Bool renaming and_eq_true->aO,false_eq_true->bq,false_ne_true->bE,not_eq_true'->d8,or_eq_true->i4,or_false->j7,not_true->k6,and_true->k7
open PySem.Txt renaming partition->aQ,split->dJ,join->fA
open PySem.Value renaming ref->aR,bool->bi,none->bH,isStrOf_shape->cy,str->cM,builtin->d4,isStrOf->fm,int->fZ,type->hJ
open Option renaming map_eq_some_iff->aS,some->aU,isSome_map->iH
open PySem.SetTable renaming below->aX,grown->cK,probe->j4,laid->j9
open PySem.PassesOwn renaming leaving->bf
open PySem.Heap.SameBut renaming update->bg
open Ne renaming symm->bj
open PySem.W renaming hideAll->bp,findIn->bO,emptyDict->ce,excIn->cg,hideAll_none->cI,instObj->cQ,fnOf->cU,kitOne->c6,kia_one->dq,hideAll_get->dE,exmOne->dH,of_hideAll->dN,plainGet->eJ,callWith_K->fF,hasDictIn->fK,cellsFrom_some->fM,makesIn->ig,plainGet_of->im,lookIn->ir,methodObj->iE,plainOver->iF,isFn->iW,takerIn->iZ,OpenLaw->i7
open PySem.Builtin.Str renaming strKind->bt,strSliceIndices->bF
open ForInStep renaming yield->bx
open PySem.Builtin.Frozenset renaming updateFrom->bz
open PySem renaming mem_of_lookup->bG,intText?->iA,Within->k9,call->li
open PySem.Builtin.Slice renaming sliceAdjust->bJ,slicePlaces->ff
open PySem.NameKind renaming free->bL
open Classical renaming byContradiction->bX
open False renaming elim->bZ
open Or renaming inl->ci,inr->iw
open PySem.F renaming called_set->ck,slot_tuple_iterator_next->cw,plainAttrs_list->cP,excBase_ValueError->cZ,slot_tuple_getattribute->fg,args_tuple_add_2->fq,slot_list_getattribute->fz,entry_tuple_add->fI,slot_tuple_add->fN,slot_str_split->fU,type_str_split->fV,args_str_split_2->iu,entry_str_split->iJ,slot_str_split->iU
open PySem.Around renaming under_plainId->cq,under->lb
open Sum renaming inr->cG,inl->ia
open List.Perm renaming refl->cJ,swap->fQ
open PySem.Obj renaming mapSeq->cR,data_mapFields->dR,isFreed_of_fields->d7,putSet->fG,mapFields->ib
open PyProof.Rows renaming callWith_type1->cT,slot_tuple_getitem->dD
open PySem.Builtin.SmallTypes renaming nextOf->dg
open PySem.Calls renaming evalArgs_plain->dw,callWith_builtin->dP,call_function_entry->fh,Constant_str->iq
open PySem.Builtin.Tuple renaming tupleExact->dB
open Prod renaming ext->dG,mk->k8
open Int renaming eq_ofNat_of_zero_le->dL,emod_lt_of_pos->dX,emod_nonneg->fD,toNat_natCast->fO,emod_eq_of_lt->iM,dvd_add->iO
open True renaming intro->dO
open PySem.Builtin.List renaming listTooLong->fy
open PyProof.Rows.F renaming plain_set_update_loop->fJ
open List.Pairwise renaming nil->fP
open Function renaming comp_def->iL
open List.Sublist renaming refl->iN
open PySem.Paired renaming length->iP
open PySem.Shared renaming TypeIs->iR
open PySem.W.KF renaming type_class->j8
open PySem.Code renaming isFrame->lc
open PyProof.Rows.IsTup renaming new->lf
open PySem.Walks renaming list->lj
open PySem.SeqAt renaming EqAt->ll
set_option tactic.hygienic false
theorem Aa{c:Prop}{h:Decidable c}(k:c){a:Sort _}{t e:a}:ite c t e=t:=if_pos k
theorem Ab{c:Prop}{h:Decidable c}(k:¬c){a:Sort _}{t e:a}:ite c t e=e:=if_neg k
theorem Ac{p:Prop}[h:Decidable p](k:¬p):decide p=false:=decide_eq_false k
theorem Ad{p:Prop}[h:Decidable p](k:p):decide p=true:=decide_eq_true k
theorem Ae{p:Prop}[h:Decidable p](k:decide p=true):p:=of_decide_eq_true k
noncomputable section
open PySem.W (Frag nsIn keepIn codeIn mg_of mg_none_of)
set_option compiler.extract_closed false
set_option bootstrap.genMatcherCode false
set_option genSizeOf false
set_option Elab.async false
set_option linter.all false
set_option maxRecDepth 100000
namespace Kx
noncomputable section
open PySem PySem.W PySem.Calls PyProof.Rows
noncomputable def zP:Pos:=⟨0,0,0,0⟩
noncomputable def anV:Option lu:=lm (.ref 6)
noncomputable def hA(P:nM):List Obj:=(ml P).objs.toList++[⟨.type "tuple",lr,.seq #[] 0,#[]⟩,⟨.none,lr,.fields #[],#[]⟩,
 ⟨.type "code",lr,.fields #[.str "<module>" 182,.str "<module>" 183,.str "/claim/cut.py" 184,.int 1 0,.int 0 0,.int 0 0,.int 0 0,.int 0 0,.ref 11,.bool lw,.int 181 0,.ref 12,.none,.none,.none,.none,.int 185 0,.int 1 0,.str "/claim/cut.py" 186],#[]⟩,
 ⟨.type "frame",lr,.plain,#[lm (.ref 13),lm (.ref 3),lm (.ref 3),lr,lm (.str "__main__" 164),lr,lm (.ref 0)]⟩]
noncomputable def enP(p:lC):Env:={ scope:=p.main.scope,locals:=mainNs,globals:=mainNs,cells:=[],code:=.ref 13,frame:=lm 14 }
def cdP(p:lC):Code:=.body (mM p) (enP p)
noncomputable def trA:List Obj->Nat->BT->BT
 |[],_,t=>t
 |o::l,i,t=>trA l (i+1) (t.ins i o)
def SA(w:lD)(os:l0):SharedT:=⟨trA (hA w.params) 0 .nil,15,(ml w.params).life,i8 [],oh,187,os⟩
noncomputable def kH(P:nM)(s:Str)(t:Nat)(v:lu):oz:=⟨PyData.keyHash P s,.str s t,v⟩
noncomputable def eM:lu:=.str "lookwords.errors" 194
noncomputable def eU:Arguments:=⟨[],[⟨"k",lr,⟨1,10,1,11⟩⟩],lr,[],[],lr,[]⟩
noncomputable def eX:FuncBody:=.stmts [.While (.Constant (.bool lv) 0 ⟨2,10,2,14⟩) [.Pass ⟨3,8,3,12⟩] [] ⟨2,4,3,12⟩]
noncomputable def eY:mQ:=⟨.function,[("k",.local)],lw,lw,[]⟩
noncomputable def eT(a:List lu):Obj:=⟨.type "tuple",lr,.seq ⟨a⟩ 0,#[]⟩
noncomputable def eF(c:lu)(a:List lu):Obj:=⟨c,lr,.fields ⟨a⟩,#[]⟩
noncomputable def eB:lu:=.type "builtin_function_or_method"
noncomputable def eD(a:List oz)(n:Nat):Obj:=⟨.type "dict",lr,.dict ⟨a⟩ n,#[]⟩
def eW:List Obj:=[eT [],eF .none [],eT [.str "k" 190],eT [],⟨.none,lr,.func ⟨"_wall","_wall",eU,eX,eY,0,[],.none,.none,.none,.none,lr,.none,.none,0⟩,#[]⟩,
 eF (.type "code") [.str "_wall" 187,.str "_wall" 188,.str "/claim/cut.py" 189,.int 1 0,.int 1 0,.int 0 0,.int 0 0,.int 3 0,.ref 15,.bool lv,.int 181 0,.ref 16,.none,.ref 17,.ref 18,.ref 19,.int 191 0,.int 1 0,.str "/claim/cut.py" 192],
 ⟨.type "function",lr,.func ⟨"_wall","_wall",eU,eX,eY,3,[],.none,.none,.none,.str "__main__" 164,lr,.ref 20,.none,0⟩,#[]⟩]
def eA(P:nM)(s:Str)(b:lu)(n t l:Nat):List Obj:=[eT [b],eF eB [.builtin "type.__prepare__",.type "type"],
 eD [kH P "__module__" (t+7) eM,kH P "__qualname__" (t+9) (.str s (t+8)),kH P "__firstlineno__" (t+11) (.int l (t+10)),kH P "__static_attributes__" (t+12) (.ref (n+7))] 4,
 eT [],eF .none [],eF (.type "code") [.str s (t+2),.str s (t+3),.str "/claim/cut.py" (t+4),.int l 0,.int 0 0,.int 0 0,.int 0 0,.int 0 0,.ref (n+3),.bool lw,.int 181 0,.ref (n+4),.none,.none,.none,.none,.int ((t+5:Nat):Int) 0,.int l 0,.str "/claim/cut.py" (t+6)],
 ⟨.type "frame",lr,.plain,#[lm (.ref (n+5)),lm (.ref 3),lm (.ref (n+2)),lr,lm eM,lr,lm (.ref 0)]⟩,eT []]
noncomputable def eC(s:Str)(b:lu)(n t:Nat)(m sub:List lu):Obj:=⟨.type "type",lr,.cls { name:=s,bases:=[b],mro:=.ref (n+9)::m,ns:=n+8,qualname:=s,subclasses:=sub },#[lm (.ref n),lr,lm (.str s t),lm (.str s (t+8)),lm (.builtin "ValueError.__new__"),lm (.bool lv)]⟩
def eS(a:Nat):List Obj:=[eF (.type "super") [.ref a,.ref a,.ref a],eF eB [.builtin "object.__init_subclass__",.ref a]]
def eK(P:nM)(t l:Nat)(n:Nat):List oz:=[kH P "__module__" (t+7) eM,kH P "__firstlineno__" (t+11) (.int l (t+10)),kH P "__static_attributes__" (t+12) (.ref (n+7))]
noncomputable def eV:List lu:=[.type "ValueError",.type "Exception",.type "BaseException",.type "object"]
def eL(P:nM):List Str->Nat->Nat->Nat->List Obj
 |[],_,_,_=>[]
 |s::r,n,t,l=>eA P s (.ref 31) n t l++eD (eK P t l n++[kH P "__doc__" (t+13) .none]) 2::eC s (.ref 31) n t (.ref 31::eV) []::eS (n+9)++eL P r (n+12) (t+16) (l+2)
def eE(P:nM):List Str->Nat->Nat->List oz
 |[],_,_=>[]
 |s::r,n,t=>kH P s (t+15) (.ref (n+9))::eE P r (n+12) (t+16)
noncomputable def eR:Nat->Nat->List lu
 | 0,_=>[]
 |k+1,n=>.ref n::eR k (n+12)
noncomputable def eQ:Nat->Nat->Nat->List lu
 | 0,_,_=>[]
 |k+1,n,l=>.int l 0::.int 0 0::.ref n::eQ k (n+12) (l+2)
def eO(P:nM)(L:List Str):Obj:=match (boot_o_3 P).data with
 |.dict a _=>eD (kH P "__name__" 165 eM::a.toList.drop 1++kH P "_wall" 193 (.ref 21)::kH P "WordError" 213 (.ref 31)::eE P L 35 214) (L.length+11)
 |_=>eT []
def hC(P:nM)(L:List Str):List Obj:=(hA P).take 3++eO P L::((hA P).drop 4).take 8++eF .none (.int 1 0::.int 0 0::.ref 20::.int 5 0::.int 0 0::.ref 27::eQ L.length 40 7)::(hA P).drop 13++eW ++
 eA P "WordError" (.type "ValueError") 22 196 5++eD (eK P 196 5 22++[kH P "__weakref__" 210 (.ref 32),kH P "__doc__" 211 .none]) 3::eC "WordError" (.type "ValueError") 22 196 eV (eR L.length 44) ::
 eF (.type "getset_descriptor") [.str "__weakref__" 209,.ref 31,.builtin "ExceptionGroup.__weakref__",.none]::eS 31++eL P L 35 214 7
def SC(L:List Str)(w:lD)(os:l0):SharedT:=⟨trA (hC w.params L) 0 .nil,12 * L.length+35,(ml w.params).life,i8 [],oh,16 * L.length+214,os⟩
noncomputable def zC(L:List Str):Pos:=⟨2 * L.length+5,0,2 * L.length+6,8⟩
def Za(L:List Str)(p:lC)(w:lD)(M:Nat)(os:l0):Option (Flow×Code×lx):=
 (segRunT mY p w 11 anV 1 M (SC L w os) (piecesOf ((mM p).drop (L.length+3)) (enP p) (cdP p) (zC L) [oy zP])).bind λr=>
  (topRun mY p w 11 anV 5 r.2.1.abs (restOf [] (enP p) (cdP p) r.2.2.2 [oy zP])).map λs=>(r.1,r.2.2.1,s)
abbrev qeY(p:lC)(w:lD)(x:Flow×Code×lx):=
 (x.1,x.2.1,(staticsOk (mV p.main.body) (ml w.params) x.2.2.heap&&namesBound p x.2.2.heap&&gensDone x.2.2&&laidKept (ml w.params) x.2.2.heap))
set_option tactic.hygienic true in
theorem left_T{L:List Str}{p q:lC}{loose:List Str}{Xt:lx->Bool}{α:Type}{Yf:lx->α}{Ya:lD->α}{N M:Nat}(e:opening p=plainProg p.main.scope.names)(hN:Nat.ble 600 N=lv)(f:∀s,fenceModules? p s=lm s)(size:∀w:lD,((ml w.params).isNs lJ&&(i8 []:Array nN).size == 0,(ml w.params).objs.size,(ml w.params).nsMap lJ "__annotations__")=(lv,11,anV))(pre:∀(w:lD)(os:l0),topGo mY p w 11 anV 12 ⟨ml w.params,i8 [],oh,boot_toks,os⟩ (topStub p)=lm ((SA w os).abs,⟨denote mY (cdP p),cdP p,zP,[oy zP]⟩))(blk:∀(w:lD)(os:l0),segRun mY p w 11 anV 1 1 (SA w os).abs (blockOf (mM p) (enP p) (cdP p) zP [oy zP])=lm (.next,(SA w os).abs,cdP p,zP))(le:Nat.ble (12+(1+(3500+(M+5)))) N=lv)(m6:∀(w:lD)(os:l0),segRunT mY p w 11 anV 1 3500 (SA w os) (piecesOf ((mM p).take (L.length+3)) (enP p) (cdP p) zP [oy zP])=lm (.next,SC L w os,cdP p,zC L))(m0:∀(w:lD)(os:l0),(Za L p w M os).map (qeY p w)=lm (.next,cdP p,lv))(m1:∀(w:lD)(os:l0),(Za L p w M os).map (λx=>seen ((recsOf q).map (·.name)) (ownsOf q) [] { x.2.2 with gens:=#[] })=lm (expectedOf q))(m3:∀(w:lD)(os:l0),(Za L p w M os).map (λx=>x.2.2.heap.bltView)=lm bltViewBooted)(m4:∀(w:lD)(os:l0),(Za L p w M os).map (λx=>x.2.2.heap.keysOk (oJ q loose) ((recsOf q).map (·.name)) ((litsOf q).map (·.1)) ((clssOf q (oJ q loose)).map (·.name))&&x.2.2.heap.accountedOkI (mV p.main.body)&&x.2.2.heap.isNs lJ&&x.2.2.heap.isNs oj&&tablesOk q x.2.2.heap&&Xt x.2.2&&x.2.2.gens.size == 0)=lm lv)(m5:∀(w:lD)(os:l0),(Za L p w M os).map (λx=>(tabsOk q x.2.2,pinSeenD q (drecsOf q) x.2.2,plainSeenE q (oJ q loose) x.2.2))=lm (lv,pinGoodD (drecsOf q),plainGoodE q (oJ q loose)))(m7:∀(w:lD)(os:l0),(Za L p w M os).map (λx=>(plainSeenD q loose x.2.2,wideSeen q x.2.2,clsSeenW q loose x.2.2))=lm (plainGoodD q loose,wideGood q,clsGoodW q loose))(m2:∀(w:lD)(os:l0),(Za L p w M os).map (λx=>Yf x.2.2)=lm (Ya w)):LeftO p q loose Xt Yf Ya N:=λw=>by
 obtain⟨⟨h,gs,d,k,os⟩,a,a'⟩:=aS.mp (boot_open e hN f w)
 obtain⟨rfl,rfl,rfl,rfl⟩:h=ml w.params/\gs=i8 []/\d=oh/\k=boot_toks:=by simpa using a'
 obtain⟨x,hx,hl⟩:=aS.mp (m0 w os)
 have l2:openSeen q loose (mV p.main.body) Xt lv x.2.2=openGood q loose:=by
  have a1:=m1 w os
  have a3:=m3 w os
  have a4:=m4 w os
  have a5:=m5 w os
  have a7:=m7 w os
  rw[hx]at a1 a3 a4 a5 a7
  have b5:=k8.inj (aU.inj a5)
  have c5:=k8.inj b5.2
  have b7:=k8.inj (aU.inj a7)
  have c7:=k8.inj b7.2
  exact dG (aU.inj a1) (dG (aU.inj a3) (dG (aU.inj a4) (dG b5.1 (dG c5.1 (dG c5.2 (dG b7.1 (dG c7.1 c7.2)))))))
 obtain⟨y,hy,hY⟩:=aS.mp (m2 w os)
 obtain rfl:y=x:=aU.inj (hy.symm.trans hx)
 obtain⟨r,hr,hz⟩:=Option.bind_eq_some_iff.mp hx
 obtain⟨s,hs,rfl⟩:=aS.mp hz
 obtain⟨fl,st,co,po⟩:=r
 unfold qeY at hl
 simp only[k8.injEq]at hl
 obtain⟨rfl,rfl,l1⟩:=hl
 have t1:=piece_app (rest:=[]) (segRun_of hr) hs
 rw[bw]at t1
 have t1:=piece_app (segRun_of (m6 w os)) t1
 rw[cB]at t1
 have t2:=piece_block (blk w os) t1
 have t3:=topRun_mono (N - (12+(1+(3500+(M+5))))) _ _ _ _ (go_top (pre w os) t2)
 rw[show 12+(1+(3500+(M+5)))+(N - (12+(1+(3500+(M+5)))))=N by have:=Nat.le_of_ble_eq_true le;omega]at t3
 obtain⟨z1,z2,z3⟩:_/\_/\_:=by simpa only[k8.injEq]using size w
 have t:topFrom mY p w N ⟨ml w.params,i8 [],oh,boot_toks,os⟩=lm s:=by
  unfold topFrom
  dsimp only
  rw[z1,z2,z3,t3]
  show(match staticsOk (mV p.main.body) (ml w.params) s.heap&&namesBound p s.heap&&gensDone s&&laidKept (ml w.params) s.heap with|true=>_|false=>_)=_
  rw[l1]
 unfold openEnds
 rw[a]
 show(topFrom mY p w N _).map _=_
 rw[t]
 exact congrArg lm (dG l2 hY)
end
end Kx
noncomputable section
open PySem PySem.W PyProof.Rows
noncomputable def Kx.vq:lC:=view PySem.Challenge.pw_lookwords_k29_lists_texts_refused [0,2,3,4,5,6,7,8,9,10,11,12,13,14,15,17,18,19,20,21,22,23,24,25,26,27,28,29,30,31,32,33,34,36,37,38,39,40,42,43,44,45,46,47,48,49,50,51,52,53,55,57,58,59,60,61,63,64,65,66,67,68,69,70,71,72,73,74,75,76]
noncomputable def Kx.eN:List Str:=["NoWords","NoLook","NoNumbers","NoRoom","NoWord","NoWorths","Never","Full","Known","NoPlace","NoLetters","NoText","Nothing"]
def Kx.xt(s:lx):Bool:=xlAt Kx.vq [] s&&recOk (RowW.records (OpenRow.toRowW (OpenLaw.row PySem.Challenge.rw_lookwords_k29_lists_texts_refused))) s
set_option tactic.hygienic true in
theorem Kx.m6:∀(w:lD)(os:l0),segRunT mY PySem.Challenge.pw_lookwords_k29_lists_texts_refused w 11 Kx.anV 1 3500 (Kx.SA w os) (piecesOf ((mM PySem.Challenge.pw_lookwords_k29_lists_texts_refused).take (Kx.eN.length+3)) (Kx.enP PySem.Challenge.pw_lookwords_k29_lists_texts_refused) (Kx.cdP PySem.Challenge.pw_lookwords_k29_lists_texts_refused) Kx.zP [oy Kx.zP])=lm (.next,Kx.SC Kx.eN w os,Kx.cdP PySem.Challenge.pw_lookwords_k29_lists_texts_refused,Kx.zC Kx.eN):=by intro w os;kernel_rfl
set_option tactic.hygienic true in
theorem Kx.m0:∀(w:lD)(os:l0),(Kx.Za Kx.eN PySem.Challenge.pw_lookwords_k29_lists_texts_refused w 15000 os).map (Kx.qeY PySem.Challenge.pw_lookwords_k29_lists_texts_refused w)=lm (.next,Kx.cdP PySem.Challenge.pw_lookwords_k29_lists_texts_refused,lv):=by intro w os;kernel_rfl
theorem Kx.m1:∀(w:lD)(os:l0),(Kx.Za Kx.eN PySem.Challenge.pw_lookwords_k29_lists_texts_refused w 15000 os).map (λx=>seen ((recsOf Kx.vq).map (·.name)) (ownsOf Kx.vq) [] { x.2.2 with gens:=#[] })=lm (expectedOf Kx.vq):=by intro w os;kernel_rfl
theorem Kx.m3:∀(w:lD)(os:l0),(Kx.Za Kx.eN PySem.Challenge.pw_lookwords_k29_lists_texts_refused w 15000 os).map (λx=>x.2.2.heap.bltView)=lm (bltViewBooted):=by intro w os;kernel_rfl
theorem Kx.m4:∀(w:lD)(os:l0),(Kx.Za Kx.eN PySem.Challenge.pw_lookwords_k29_lists_texts_refused w 15000 os).map (λx=>x.2.2.heap.keysOk (oJ Kx.vq []) ((recsOf Kx.vq).map (·.name)) ((litsOf Kx.vq).map (·.1)) ((clssOf Kx.vq (oJ Kx.vq [])).map (·.name))&&x.2.2.heap.accountedOkI (mV PySem.Challenge.pw_lookwords_k29_lists_texts_refused.main.body)&&x.2.2.heap.isNs lJ&&x.2.2.heap.isNs oj&&tablesOk Kx.vq x.2.2.heap&&Kx.xt x.2.2&&x.2.2.gens.size == 0)=lm (lv):=by intro w os;kernel_rfl
theorem Kx.m5:∀(w:lD)(os:l0),(Kx.Za Kx.eN PySem.Challenge.pw_lookwords_k29_lists_texts_refused w 15000 os).map (λx=>(tabsOk Kx.vq x.2.2,pinSeenD Kx.vq (drecsOf Kx.vq) x.2.2,plainSeenE Kx.vq (oJ Kx.vq []) x.2.2))=lm (lv,pinGoodD (drecsOf Kx.vq),plainGoodE Kx.vq (oJ Kx.vq [])):=by intro w os;kernel_rfl
theorem Kx.m7:∀(w:lD)(os:l0),(Kx.Za Kx.eN PySem.Challenge.pw_lookwords_k29_lists_texts_refused w 15000 os).map (λx=>(plainSeenD Kx.vq [] x.2.2,wideSeen Kx.vq x.2.2,clsSeenW Kx.vq [] x.2.2))=lm (plainGoodD Kx.vq [],wideGood Kx.vq,clsGoodW Kx.vq []):=by intro w os;kernel_rfl
local macro_rules | `(tactic|o_head $H) => `(tactic|(refine holds_open (q := Kx.vq) (loose := []) (Xt := Kx.xt) (XP := XL Kx.vq []) (Yf := Hook.obs $H) (Ya := Hook.val $H) (YP := Hook.says $H) (N := 20000) ?hl (Hook.of $H) (Hook.keeps $H) (fun s e => xl_of s (Bool.and_eq_true_iff.mp e).1) XL.keeps (by rfl) (by rfl) (by rfl) (fun s e => recFacts_of (Bool.and_eq_true_iff.mp e).2) (by rfl) (by first|assumption|decide +kernel) (by decide +kernel) ⟨rfl, rfl, rfl, rfl, rfl, by decide +kernel⟩ ?hw ?hc;(case hl => refine Kx.left_T (p := PySem.Challenge.pw_lookwords_k29_lists_texts_refused) (M := 15000) ?e rfl ?f ?s ?p ?b rfl Kx.m6 Kx.m0 Kx.m1 Kx.m3 Kx.m4 Kx.m5 Kx.m7 ?m;(case e => kernel_rfl);(case f => intro s;kernel_rfl);(case s => intro w;kernel_rfl);(case p => intro w os;kernel_rfl);(case b => intro w os;kernel_rfl);(case m => intro w os;kernel_rfl))))
set_option maxHeartbeats 0 in
open_top Kx.hd for PySem.Challenge.rw_lookwords_k29_lists_texts_refused
end
open PySem renaming sizeLine->Z8,Addr->Z7,model->Z6,Heap->Z5,Expr->Z4,Stmt->Z3,eval->Z0
open PySem.W renaming Frag->Y9
set_option hygiene false
local macro_rules | `($c:char)=>match c.getChar with
|'a'=>`((by decide +kernel))
|'b'=>`((by lia))
|'c'=>`((Z6 X.prog X.w))
|'d'=>`((Z6 prog w))
|'e'=>`((by decide))
|'f'=>`((by simp))
|'g'=>`((qx (jr rfl) rfl Z.z_len jm vr))
|'h'=>`((tK prog w k))
|'i'=>`((dC (.int 1)))
|'j'=>`((lw,Z0 e X.env))
|'k'=>`((.ref s.heap.objs.size))
|'l'=>`((.lst (ql l)))
|'m'=>`((ca "Words"))
|'n'=>`((dC (.int 0)))
|'o'=>`((.ListComp elt [⟨tg,iter,ifs,0⟩] scope pos))
|'p'=>`((tE C own ma fa))
|'q'=>`((s.heap.objs.size+1))
|'r'=>`(([e].length+([]:List l6).length+(if ([]:List l6).isEmpty then 0 else 1)<30))
|'s'=>`((∀b o,s.heap.get? b=lm o->h'.get? b=lm o))
|_=>Lean.Macro.throwUnsupported
namespace L2
open PySem PySem.Spec PyProof.Rows
abbrev Key:=Sum Int Str
noncomputable def zK:Key->lu->Bool
 |.inl k,v=>Value.isInt k v
 |.inr x,v=>fm x v
noncomputable def qlY(w:lD):Key->Int
 |.inl k=>hashInt k
 |.inr x=>hashStr w x
theorem jk:∀{k:Key}{v:lu},zK k v=lv->(∃i t,k=ia i/\v=fZ i t)\/(∃x t,k=cG x/\v=cM x t)
 |.inl i,v,h=>by obtain⟨t,e⟩:=Value.isInt_shape (k:=i) (v:=v) h;exact .inl ⟨i,t,rfl,e⟩
 |.inr x,v,h=>by obtain⟨t,e⟩:=cy (x:=x) (v:=v) h;exact .inr ⟨x,t,rfl,e⟩
theorem Va(i:Int)(t:Tok):zK (.inl i) (.int i t)=true:=by simp[zK,Value.isInt]
theorem Vb(x:Str)(t:Tok):zK (.inr x) (.str x t)=true:=by simp[zK,fm]
theorem qhH(a b:Int):decide ((ia a:Key)=ia b)=(a == b):=by
 by_cases e:a=b;·subst e;simp
 .have h:¬(ia a:Key)=ia b:=λq=>e (ia.inj q);rw[Ac h];exact(beq_eq_false_iff_ne.mpr e).symm
theorem qhI(a b:Str):decide ((cG a:Key)=cG b)=decide (a=b):=by
 by_cases e:a=b;·subst e;simp
 .have h:¬(cG a:Key)=cG b:=λq=>e (cG.inj q);rw[Ac h,Ac e]
theorem qhJ(a:Int)(b:Str):decide ((ia a:Key)=cG b)=false:=Ac (λq=>nomatch q)
theorem qhK(a:Str)(b:Int):decide ((cG a:Key)=ia b)=false:=Ac (λq=>nomatch q)
def qX(prog:lC)(w:lD):PySem.KeyKind prog w Key where
 is:=zK
 hash:=qlY w
 inj:=λv a b f hb=>by
  rcases jk f with⟨i,t,rfl,rfl⟩|⟨x,t,rfl,rfl⟩
  .rcases jk hb with⟨j,u,rfl,e⟩|⟨y,u,rfl,e⟩
   .injection e with e1 _;rw[e1]
   .exact nomatch e
  .rcases jk hb with⟨j,u,rfl,e⟩|⟨y,u,rfl,e⟩
   .exact nomatch e
   .injection e with e1 _;rw[e1]
 byValue:=λk v h=>by rcases jk h with⟨i,t,rfl,rfl⟩|⟨x,t,rfl,rfl⟩ <;> rfl
 pyHash:=λc h=>by
  rcases jk c with⟨i,t,rfl,rfl⟩|⟨x,t,rfl,rfl⟩
  .exact wpAny_pyHash_int h
  .exact wpAny_pyHash_str h
 eqBool:=λd c h=>by
  rcases jk d with⟨i,t,rfl,rfl⟩|⟨x,t,rfl,rfl⟩
  .rcases jk c with⟨j,u,rfl,rfl⟩|⟨y,u,rfl,rfl⟩
   .rw[qhH]at h;exact wpAny_eqBool_int h
   .rw[qhJ]at h;exact SeqAt.EqAt.int_str i t y u _ _ _ _ h
  .rcases jk c with⟨j,u,rfl,rfl⟩|⟨y,u,rfl,rfl⟩
   .rw[qhK]at h;exact SeqAt.EqAt.str_int x t j u _ _ _ _ h
   .rw[qhI]at h;exact wpAny_eqBool_str h
 «strs»:=λk x t v h=>by
  rcases jk h with⟨i,u,rfl,e⟩|⟨y,u,rfl,e⟩
  .exact nomatch e
  .injection e with e1 _;subst e1;cases v <;> rfl
theorem WS(prog:lC)(w:lD)(i:Int)(t:Tok):(qX prog w).is (.inl i) (.int i t)=true:=Va i t
theorem WU(prog:lC)(w:lD)(x:Str)(t:Tok):(qX prog w).is (.inr x) (.str x t)=true:=Vb x t
inductive V where
 |non|bl (b:Bool)|int (i:Int)|str (x:Str)|byt (b:Array UInt8)|flt (b:UInt64)|ref (a:Z7)|ty (n:String)
 deriving DecidableEq
def RelV:V->lu->Prop
 |.non,u=>u=bH
 |.bl b,u=>u=bi b
 |.int i,u=>∃t,u=fZ i t
 |.str x,u=>∃t,u=cM x t
 |.byt b,u=>∃t,u=Value.bytes b t
 |.flt b,u=>∃t,u=Value.float b t
 |.ref a,u=>u=aR a
 |.ty n,u=>u=hJ n
abbrev Vals:List V->List lu->Prop:=oK RelV
variable{xs:List V}{us:List lu}
theorem Vals.length(r:Vals xs us):xs.length=us.length:=iP r
theorem Vals.get:∀{xs:List V}{us:List lu}{i:Nat}{x:V},Vals xs us->xs[i]?=lm x->∃u,us[i]?=lm u/\RelV x u
 |_,_,_,_,.nil,e=>by simp at e
 |_,_,0,_,.cons r _,e=>by simp at e;subst e;exact⟨_,rfl,r⟩
 |_,_,i+1,x,.cons _ t,e=>by obtain⟨u,h1,h2⟩:=Vals.get (i:=i) (x:=x) t (by simpa using e);exact⟨u,by simpa using h1,h2⟩
theorem Vals.append:∀{xs ys:List V}{us ws:List lu},Vals xs us->Vals ys ws->Vals (xs++ys) (us++ws)
 |_,_,_,_,.nil,s=>s
 |_,_,_,_,.cons r t,s=>.cons r (Vals.append t s)
theorem Vals.take:∀{xs:List V}{us:List lu}(n:Nat),Vals xs us->Vals (xs.take n) (us.take n)
 |_,_,0,_=>.nil
 |_,_,_+1,.nil=>.nil
 |_,_,n+1,.cons r t=>.cons r (Vals.take n t)
theorem Vals.drop:∀{xs:List V}{us:List lu}(n:Nat),Vals xs us->Vals (xs.drop n) (us.drop n)
 |_,_,0,r=>r
 |_,_,_+1,.nil=>.nil
 |_,_,n+1,.cons _ t=>Vals.drop n t
theorem Vals.none_of:∀{xs:List V}{us:List lu}{i:Nat},Vals xs us->xs[i]?=lr->us[i]?=none:=λ{xs us i} r e=>by have h1:=r.length;have h2:xs.length<=i:=cz.mp e;exact cz.mpr 'b'
def RelO:Option V->Option lu->Prop
 |some v,lm u=>RelV v u
 |none,lr=>True
 |_,_=>False
def KV{κ:Type}:List (κ×V)->List (κ×lu)->Prop:=oK λ(p:κ×V)(q:κ×lu)=>p.1=q.1/\RelV p.2 q.2
noncomputable def kV:Key->V
 |.inl i=>.int i
 |.inr x=>.str x
inductive HO where
 /-- a list -/
 |lst (xs:List V)
 /-- a tuple (never changes) -/
 |tup (xs:List V)
 /-- a dict whose keys are ints and texts;one whose keys are tuples of ints and texts (the empty one is both) -/
 |dK (kvs:List (Key×V))|dT (kvs:List (List Key×V))
 /-- a set of ints: its members,its size -/
 |set (S:Int->Bool) (n:Nat)
 /-- an instance of the class at C,its dict at dx,its attributes -/
 |ins (C dx:Z7) (fs:List (Str×V))
 /-- the dict of the instance at x -/
 |own (x:Z7)
 /-- the dict of an exception -/
 |xd (fs:List (Str×V))
 /-- a bound method,f of x -/
 |met (f x:Z7)
 /-- a range object lo,lo+1,.. below hi -/
 |rng (lo hi:Int)
 /-- a thing that is known to the object (the script;a dict while a loop walks it): read,never written while it is so -/
 |frz (o:Obj) (u:HO)
 /-- a code object's table -/
 |tbl (ps:Array lu)
 /-- any other thing,by what is lv of its one object (a def of one's own: SetO a S n:=HO.ext λh=>..) -/
 |ext (φ:Z5->Prop)
abbrev Hp:=Z7->Option HO
noncomputable def upd(H:Hp)(a:Z7)(o:HO):Hp:=λb=>if b=a then lm o else H b
variable{H:Hp}{a:Z7}{o:HO}
theorem qm:upd H a o a=lm o:=by unfold upd;rw[Aa rfl]
variable{b:Z7}
theorem qw(h:b≠a):upd H a o b=H b:=by unfold upd;rw[Ab h]
theorem qj9{u:HO}(h:H a=lm o)(h':H b=lm u)(d:o≠u):a≠b:=by intro e;subst e;rw[h]at h';exact d (aU.inj h')
theorem qE(h:H a=lm o)(h':H b=lr):a≠b:=by intro e;subst e;rw[h]at h';cases h'
section
variable(P:lC)(w:lD)
def ObjOk(H:Hp)(h:Z5)(a:Z7):HO->Prop
 |.lst xs=>xs.length<=Z8/\∃(its:List lu)(n:Nat),Vals xs its/\h.get? a=lm { cls:=.type "list",data:=.seq its.toArray n }
 |.tup xs=>(xs.length<=Z8/\∃o,h.get? a=lm o/\o.dict=lr)/\∃its:List lu,Vals xs its/\IsTup h a its.toArray
 |.dK kvs=>kvs.length<=Z8/\(a == l9)=lw/\∃vs,KV kvs vs/\h.DictOf (qX P w) a vs
 | .dT kvs=>kvs.length<=Z8/\(a == l9)=lw/\∃xs:List (List Key×Z7×lu),oK (λ(p:List Key×V)(q:List Key×Z7×lu)=>p.1=q.1/\H q.2.1=lm (.tup (p.1.map kV))/\RelV p.2 q.2.2) kvs xs /\
   ∃o es ep,h.get? a=lm o/\o.ExactDict/\o.data=.dict es ep/\es.toList=xs.map (entryOfKey (oA (qX P w)))/\(xs.map (·.1)).Nodup
 |.set S n=>h.SetOf (intKind P w) a S n
 | .ins C dx fs=>H dx=lm (.own a)/\fs.length<=1000/\dx≠a/\h.get? a=lm (cQ C dx) /\
   ∃mA,h.Ns1 dx mA/\(∀f,RelO (fs.lookup f) (mA f))/\k9 mA (fs.map (·.1))
 |.own _=>∃o,h.get? a=lm o
 |.xd fs=>∃mA,h.Ns1 a mA/\∀f,RelO (fs.lookup f) (mA f)
 |.rng lo hi=>∃t u v,h.get? a=lm { cls:=.type "range",data:=.fields #[.int lo t,.int hi u,.int 1 v] }
 |.frz o u=>h.get? a=lm o/\ObjOk H h a u
 |.tbl ps=>h.get? a=lm { cls:=.none,data:=.fields ps }
 |.met f x=>h.get? a=lm (iE (.ref f) (.ref x))
 |.ext φ=>φ h/\(∃o,h.get? a=lm o)/\∀h1 h2:Z5,φ h1->(∀o,h1.get? a=lm o->h2.get? a=lm o)->φ h2
def HOk(H:Hp)(h:Z5):Prop:=∀a o,H a=lm o->ObjOk P w H h a o
end
variable{P:lC}{w:lD}{H':Hp}{h h':Z5}{α:Type}
section
theorem ObjOk.lt(x:ObjOk P w H h a o):a<h.objs.size:=by
 cases o with
 |lst xs=>obtain⟨_,_,_,_,e⟩:=x;exact ax e
 |tup xs=>obtain⟨_,_,_,p⟩:=x;exact p.lt
 |dK kvs=>obtain⟨_,_,_,_,o,_,_,e,_⟩:=x;exact ax e
 |dT kvs=>obtain⟨_,_,_,_,o,_,_,e,_⟩:=x;exact ax e
 |set S n=>obtain⟨o,_,_,_,e,_⟩:=x;exact ax e
 |ins C dx fs=>obtain⟨_,_,_,e,_⟩:=x;exact ax e
 |own y=>obtain⟨_,e⟩:=x;exact ax e
 |xd fs=>obtain⟨_,⟨_,_,_,e,_⟩,_⟩:=x;exact ax e
 |rng lo hi=>obtain⟨_,_,_,e⟩:=x;exact ax e
 |frz b u=>obtain⟨e,_⟩:=x;exact ax e
 |tbl ps=>exact ax (show h.get? a=lm _ from x)
 |met f y=>exact ax (show h.get? a=lm _ from x)
 |ext φ=>obtain⟨_,⟨_,e⟩,_⟩:=x;exact ax e
theorem Paired.mapP{β:Type}{F G:α->β->Prop}:∀{c:List α}{l:List β},oK F c l->(∀a b,F a b->G a b)->oK G c l
 |_,_,.nil,_=>.nil
 |_,_,.cons r t,f=>.cons (f _ _ r) (Paired.mapP t f)
theorem ObjOk.stay(x:ObjOk P w H h a o)(k:∀b u,(b=a\/H b=lm (.own a))->h.get? b=lm u->h'.get? b=lm u)(l:∀b,H b=lm (.own a)->H' b=lm (.own a))(ht:∀b xs,H b=lm (.tup xs)->H' b=lm (.tup xs)):ObjOk P w H' h' a o:=by
 induction o with
 |lst xs=>obtain⟨z,its,n,r,e⟩:=x;exact⟨z,its,n,r,k _ _ (.inl rfl) e⟩
 |tup xs=>obtain⟨⟨z,o2,i,d2⟩,its,r,g,e,c⟩:=x;exact⟨⟨z,o2,k _ _ (.inl rfl) i,d2⟩,its,r,g,k _ _ (.inl rfl) e,c⟩
 |dK kvs=>obtain⟨z,y,vs,r,g,es,ep,e,c⟩:=x;exact⟨z,y,vs,r,g,es,ep,k _ _ (.inl rfl) e,c⟩
 |dT kvs=>obtain⟨z,y,xs,r,g,es,ep,e,c⟩:=x;exact⟨z,y,xs,Paired.mapP r λp q z=>⟨z.1,ht _ _ z.2.1,z.2.2⟩,g,es,ep,k _ _ (.inl rfl) e,c⟩
 |set S n=>obtain⟨g,es,ep,t,e,c⟩:=x;exact⟨g,es,ep,t,k _ _ (.inl rfl) e,c⟩
 |ins C dx fs=>obtain⟨d,z,ne,e,mA,⟨od,es,ep,i,c⟩,r⟩:=x;exact⟨l _ d,z,ne,k _ _ (.inl rfl) e,mA,⟨od,es,ep,k _ _ (.inr d) i,c⟩,r⟩
 |own y=>obtain⟨g,e⟩:=x;exact⟨g,k _ _ (.inl rfl) e⟩
 |xd fs=>obtain⟨mA,⟨od,es,ep,e,c⟩,r⟩:=x;exact⟨mA,⟨od,es,ep,k _ _ (.inl rfl) e,c⟩,r⟩
 |rng lo hi=>obtain⟨t,u,v,e⟩:=x;exact⟨t,u,v,k _ _ (.inl rfl) e⟩
 |frz g u j=>obtain⟨e,q⟩:=x;exact⟨k _ _ (.inl rfl) e,j q⟩
 |tbl ps=>have e:h.get? a=lm { cls:=.none,data:=.fields ps }:=x;show h'.get? a=lm { cls:=.none,data:=.fields ps };exact k a _ (.inl rfl) e
 |met f y=>have e:h.get? a=lm (iE (.ref f) (.ref y)):=x;show h'.get? a=lm (iE (.ref f) (.ref y));exact k a _ (.inl rfl) e
 |ext φ=>obtain⟨p,⟨o,e⟩,st⟩:=x;exact⟨st _ _ p λo q=>k _ _ (.inl rfl) q,⟨o,k _ _ (.inl rfl) e⟩,st⟩
theorem HOk.lt(x:HOk P w H h)(e:H a=lm o):a<h.objs.size:=(x a o e).lt
theorem HOk.fresh(x:HOk P w H h)(e:h.objs.size<=a):H a=none:=by
 cases q:H a with
 |none=>rfl
 |some u=>exact absurd (aK (x.lt q) e) (bS _)
theorem HOk.kept(x:HOk P w H h)(k:∀b u,h.get? b=lm u->h'.get? b=lm u):HOk P w H h':=λa o e=>
 (x a o e).stay (λb u _ q=>k b u q) (λ_ q=>q) λ_ _ q=>q
theorem HOk.laid(x:HOk P w H h)(k:∀b u,h.get? b=lm u->h'.get? b=lm u)(hp:h.objs.size<=a)(new:ObjOk P w (upd H a o) h' a o):HOk P w (upd H a o) h':=λb u e=>by
 have n:=x.fresh hp;by_cases hb:b=a;·subst hb;rw[qm]at e;cases e;exact new
 .rw[qw hb]at e;exact(x b u e).stay (λc v _ q=>k c v q) (λc q=>by rw[qw (qE q n)];exact q) λc xs q=>by rw[qw (qE q n)];exact q
end
def Rd(H:Hp)(a:Z7)(u:HO):Prop:=H a=lm u\/∃o,H a=lm (.frz o u)
theorem Rd.ok{u:HO}(r:Rd H a u)(x:HOk P w H h):ObjOk P w H h a u:=by
 rcases r with r|⟨o,r⟩
 .exact x a u r
 .obtain⟨_,q⟩:=x a _ r;exact q
def Mut:Option HO->Prop
 |some (.lst _)=>True
 |some (.dK _)=>True
 |some (.dT _)=>True
 |some (.set _ _)=>True
 |some (.ins _ _ _)=>True
 |some (.ext _)=>True
 |_=>False
section
variable{x e:Z7}{o':HO}
theorem HOk.write(ok:HOk P w H h)(m:Mut (H x))(he:e=x\/H e=lm (.own x))(k:∀b u,b≠e->h.get? b=lm u->h'.get? b=lm u)(o:∃u,h'.get? e=lm u)(new:ObjOk P w (upd H x o') h' x o'):HOk P w (upd H x o') h':=λb u q=>by
 have n:∀c y,H c=lm (.own y)->c≠x:=λc y r z=>by subst z;rw[r]at m;exact m
 have p:∀c xs,H c=lm (.tup xs)->c≠x:=λc xs r z=>by subst z;rw[r]at m;exact m
 by_cases hb:b=x;·subst hb;rw[qm]at q;cases q;exact new
 .rw[qw hb]at q;by_cases a:b=e
  .have f:H b=lm (.own x):=by
    rcases he with z|z;·exact absurd (a.trans z) hb
    .rw[a];exact z
   rw[q]at f;cases f;obtain⟨v,g⟩:=o;exact⟨v,by rw[a];exact g⟩
  .refine(ok b u q).stay (λc v d r=>k c v ?_ r) (λc r=>by rw[qw (n c b r)];exact r) λc xs r=>by rw[qw (p c xs r)];exact r
   rcases d with rfl|d;·exact a
   .rintro rfl;rcases he with z|z;·exact n c b d z
    .rw[d]at z;cases z;exact hb rfl
end
structure Un(fs ex:List Z7)(H H':Hp)(h h':Z5):Prop where
 keep:∀b o,h.get? b=lm o->H b=lr->b∉fs->b∉ex->h'.get? b=lm o
 slot:∀b o,h.get? b=lm o->H b=lr->b∈fs->b∉ex->∃sl,h'.get? b=lm { o with slots:=sl }
 free:∀b o,h.get? b=lm o->H b=lr->b∉ex->H' b=lr
 there:∀b o,h.get? b=lm o->b∉ex->∃o',h'.get? b=lm o'
 tups:∀b xs,H b=lm (.tup xs)->H' b=lm (.tup xs)
 frzs:∀b o u,H b=lm (.frz o u)->H' b=lm (.frz o u)
 tbls:∀b ps,H b=lm (.tbl ps)->∃more,H' b=lm (.tbl (ps++more))
section
variable{fs fs' ex ex':List Z7}{H1 H2:Hp}{h1 h2:Z5}{x e:Z7}
theorem Un.any(u:Un fs ex H H1 h h1){o:Obj}(q:h.get? b=lm o)(n:H b=lr)(hx:b∉ex):∃sl,h1.get? b=lm { o with slots:=sl }:=by
 by_cases hb:b∈fs;·exact u.slot b o q n hb hx
 .exact⟨o.slots,u.keep b o q n hb hx⟩
theorem Un.kept(k:∀b u,h.get? b=lm u->h'.get? b=lm u):Un fs ex H H h h':=
 ⟨λb o q _ _ _=>k b o q,λb o q _ _ _=>⟨o.slots,k b o q⟩,λ_ _ _ n _=>n,λb o q _=>⟨o,k b o q⟩,λ_ _ q=>q,λ_ _ _ q=>q,λ_ ps q=>⟨#[],by rw[q];simp⟩⟩
theorem Un.refl:Un fs ex H H h h:=Un.kept λ_ _ q=>q
theorem Un.laid(k:∀b u,h.get? b=lm u->h'.get? b=lm u)(hp:h.objs.size<=a)(c:H a=lr):Un fs ex H (upd H a o) h h' where
 keep:=λb u q _ _ _=>k b u q
 slot:=λb u q _ _ _=>⟨u.slots,k b u q⟩
 free:=λb u q n _=>by rw[qw (aD (aK (ax q) hp))];exact n
 there:=λb u q _=>⟨u,k b u q⟩
 tups:=λb xs q=>by rw[qw (qE q c)];exact q
 frzs:=λb u xs q=>by rw[qw (qE q c)];exact q
 tbls:=λb ps q=>⟨#[],by rw[qw (qE q c),q];simp⟩
theorem Un.write(m:Mut (H x))(he:e=x\/H e=lm (.own x))(k:∀b u,b≠e->h.get? b=lm u->h'.get? b=lm u)(d:∃u,h'.get? e=lm u):Un fs ex H (upd H x o) h h':=by
 have hx:∀b,H b=lr->b≠x:=λb n z=>by subst z;rw[n]at m;exact m
 have hb:∀b,H b=lr->b≠e:=λb n z=>by
  subst z;rcases he with r|r;·exact hx b n r
  .rw[n]at r;cases r
 have c:∀b u,H b=lm u->¬Mut (lm u)->b≠x:=λb u q nm z=>by subst z;rw[q]at m;exact nm m
 refine⟨λb u q n _ _=>k b u (hb b n) q,λb u q n _ _=>⟨u.slots,k b u (hb b n) q⟩,λb u q n _=>by rw[qw (hx b n)];exact n,λb u q _=>?_,λb xs q=>by rw[qw (c b _ q λz=>z)];exact q,λb u xs q=>by rw[qw (c b _ q λz=>z)];exact q,λb ps q=>⟨#[],by rw[qw (c b _ q λz=>z),q];simp⟩⟩;by_cases a:b=e;·subst a;exact d
 .exact⟨u,k b u a q⟩
end
noncomputable def trk(h:Z5)(H:Hp):List Z7:=(aB h.objs.size).filter λa=>(H a).isSome
def qcv(h:Z5)(H:Hp):Z5:=bp h (trk h H)
theorem Gk(h:Z5)(H:Hp):(qcv h H).objs.size=h.objs.size:=PySem.W.hideAll_size _ _
theorem qcw{o:Obj}(e:h.get? b=lm o)(n:H b=lr):(qcv h H).get? b=lm o:=
 dE _ e λc=>by have q:(H b).isSome=true:=(dj.mp c).2;rw[n]at q;simp at q
theorem qeZ{o:Obj}(e:(qcv h H).get? b=lm o):h.get? b=lm o/\H b=none:=by
 have a:h.get? b=lm o:=dN (trk h H) e;refine⟨a,?_⟩;cases q:H b with
 |none=>rfl
 |some x=>have c:b∈trk h H:=dj.mpr ⟨aN.mpr (ax a),by simp[q]⟩;have z:(qcv h H).get? b=none:=cI (trk h H) c;rw[z]at e;cases e
structure Mod(K:Y9)(mg:Str->Option lu)(base:Z5):Prop where
 kin:K.In base
 glob:base.Ns lJ mg
 blt:∃mb,base.Ns oj mb/\∀x:Str,x ≠ "__name__"->mb x=lB x
 nolimit:base.NoLimit
abbrev Pns:=List (Z7×Obj)
structure Cx where
 prog:lC
 w:lD
 K:Y9
 mg:Str->Option lu
 base:Z5
 A:lG
 N:List Str
 s₀:lx
 H₀:Hp
 env:Env
 outer:List Env
 stack:List Env
 ex:List Z7
 fn:Str->Bool
 calm:Bool
 pn:Pns
 xe:lu->lx->Prop
noncomputable def frs(l:List Env):List Z7:=l.filterMap (·.frame)
abbrev Cx.fs(X:Cx):List Z7:=frs X.outer
def Vis(sc:mQ)(x:Str):Prop:=sc.names.lookup x=lm .local\/sc.names.lookup x=lm .cell\/sc.names.lookup x=lm .free
def Loc(sc:mQ)(x:Str):Prop:=sc.names.lookup x=lm .local\/sc.names.lookup x=lm .cell
def QO(env:Env)(h:Z5)(m:Str->Option lu)(x:Str)(u:lu):Prop:=
 (env.kindOf x=lm .local/\m x=lm u)\/((env.kindOf x=lm .cell\/env.kindOf x=lm .free)/\∃c,env.cells.lookup x=lm c/\h.IsCell c (lm u))
structure Cx.Ok(X:Cx):Prop where
 mod:Mod X.K X.mg X.base
 kind:X.env.scope.kind=.function
 glob:X.env.globals=lJ
 blt:X.env.builtins=oj
 above:X.s₀.heap.objs.size<=X.env.locals
 inj:∀x y c,X.env.cells.lookup x=lm c->X.env.cells.lookup y=lm c->x=y
 has:∀x,(X.env.kindOf x=lm .cell\/X.env.kindOf x=lm .free)->∃c,X.env.cells.lookup x=lm c
 cab:∀x c,X.fn x=lv->X.env.cells.lookup x=lm c->X.s₀.heap.objs.size<=c
 hd:X.calm=lv->X.A.handled=lr
 frames:X.A.frames=lm X.stack
 stk:X.stack=X.outer\/(X.stack=X.env::X.outer/\X.env.frame=lm X.env.locals)
 exf:∀b∈X.ex,b≠X.env.locals/\∀x c,X.env.cells.lookup x=lm c->c≠b
 bs:∀b o,X.base.get? b=lm o->X.s₀.heap.get? b=lm o/\X.H₀ b=lr
 bsz:X.base.objs.size<=X.s₀.heap.objs.size
 noex:∀b o,X.base.get? b=lm o->b∉X.ex
 exfs:∀b∈X.ex,b∉X.fs
 funs:X.s₀.heap.FunFrames X.base X.outer
 frf:∀b∈X.fs,X.H₀ b=lr
structure Inv(X:Cx)(Z9:Pns)(σ:List (Option V))(H:Hp)(s:lx):Prop where
 ok:X.Ok
 os:s.os=X.s₀.os
 bare:nK s.gens
 base:Un X.fs X.ex X.H₀ H X.s₀.heap s.heap
 loc:∃m,s.heap.Ns X.env.locals m/\∀(i:Nat)(x:Str)(v:V),X.N[i]?=lm x->σ[i]?=lm (lm v)->Vis X.env.scope x->∃u,RelV v u/\QO X.env s.heap m x u
 cell:∀x c,X.env.cells.lookup x=lm c->∃v,s.heap.IsCell c v
 free:H X.env.locals=lr
 freeC:∀x c,X.env.cells.lookup x=lm c->H c=lr
 pin:∀p∈X.pn++Z9,s.heap.get? p.1=lm p.2/\H p.1=lr/\p.1≠X.env.locals/\p.1∉X.fs/\∀v,p.2.data≠.cell v
 hok:HOk X.prog X.w H s.heap
 len:σ.length=X.N.length
variable{u:lu}{x:Str}{X:Cx}{Z9:Pns}{s s':lx}{t' i:Nat}{ch:List Z7}{it:Z7}{v:V}
section
variable{σ:List (Option V)}
theorem Cx.Ok.nofr(ok:X.Ok){o:Obj}(e:X.base.get? b=lm o):b∉X.fs:=λhb=>by have:=(ok.funs.mem hb).1;rw[e]at this;cases this
theorem Inv.bs(I:Inv X Z9 σ H s):∀b o,X.base.get? b=lm o->s.heap.get? b=lm o/\H b=none:=λb o e=>
 ⟨I.base.keep b o (I.ok.bs b o e).1 (I.ok.bs b o e).2 (I.ok.nofr e) (I.ok.noex b o e),I.base.free b o (I.ok.bs b o e).1 (I.ok.bs b o e).2 (I.ok.noex b o e)⟩
theorem Inv.bk(I:Inv X Z9 σ H s):∀b o,X.base.get? b=lm o->s.heap.get? b=lm o:=λb o e=>(I.bs b o e).1
theorem Inv.mod(I:Inv X Z9 σ H s):Mod X.K X.mg X.base:=I.ok.mod
theorem Inv.kIn(I:Inv X Z9 σ H s):X.K.In s.heap:=I.ok.mod.kin.keeps I.bk
theorem Inv.fr(I:Inv X Z9 σ H s):∃m,Fr X.base X.env.locals s.heap m:=
 let ⟨m,n,_⟩:=I.loc
 ⟨m,n,I.bk,bn I.ok.bsz I.ok.above⟩
theorem Inv.lt(I:Inv X Z9 σ H s):X.env.locals<s.heap.objs.size:=let ⟨_,n,_⟩:=I.loc;n.lt
theorem Inv.sz(I:Inv X Z9 σ H s):X.s₀.heap.objs.size<=s.heap.objs.size:=bn I.ok.above (cH I.lt)
theorem Inv.nofs(I:Inv X Z9 σ H s)(h:s.heap.objs.size<=a):a∉X.fs:=λhb=>by obtain⟨_,o,l,_⟩:=I.ok.funs.mem hb;exact absurd (aK (ax l) (bn I.sz h)) (bS _)
theorem Inv.cne(I:Inv X Z9 σ H s):∀x c,X.env.cells.lookup x=lm c->c≠X.env.locals:=λx c e z=>by obtain⟨v,o,l,hd⟩:=I.cell x c e;obtain⟨m,⟨o',es,ep,h,a,_⟩,_⟩:=I.loc;rw[z,h]at l;cases l;rw[a]at hd;cases hd
theorem Inv.funs(I:Inv X Z9 σ H s):s.heap.FunFrames X.base X.outer:=by
 have all:∀(l:List Env),(∀b∈frs l,b∈X.fs)->X.s₀.heap.FunFrames X.base l->s.heap.FunFrames X.base l:=by
  intro l
  induction l with
  |nil=>intro _ _;trivial
  |cons env r j=>intro hs hl;obtain⟨k,⟨L,o,h,n,d,hd⟩,c⟩:=hl;have a:L∈X.fs:=hs L (by unfold frs;rw[br,h];exact aj);obtain⟨sl,e⟩:=I.base.slot L o d (I.ok.frf L a) a λz=>I.ok.exfs L z a;exact⟨k,⟨L,_,h,n,e,hd⟩,j (λb hb=>hs b (by unfold frs;rw[br,h];exact ae _ hb)) c⟩
 exact all X.outer (λ_ hb=>hb) I.ok.funs
theorem Inv.stack(I:Inv X Z9 σ H s):s.heap.FunFrames X.base X.stack:=by
 rcases I.ok.stk with e|⟨e,hf⟩
 .rw[e];exact I.funs
 .rw[e];obtain⟨m,n,_⟩:=I.loc;refine .cons (by rw[I.ok.kind];decide) hf n ?_ I.funs;exact Heap.get?_none_of_le (bn I.ok.bsz I.ok.above)
theorem Inv.stkSub(I:Inv X Z9 σ H s):∀b∈frs X.stack,b∈X.env.locals::X.fs:=λb hb=>by
 rcases I.ok.stk with e|⟨e,hf⟩
 .rw[e]at hb;exact ae _ hb
 .rw[e]at hb;unfold frs at hb;rw[br,hf]at hb;exact hb
theorem Inv.stkFree(I:Inv X Z9 σ H s):∀b∈frs X.stack,H b=none:=λb hb=>by
 rcases af.mp (I.stkSub b hb)with e|hb;·rw[e];exact I.free
 .obtain⟨_,o,l,_⟩:=I.ok.funs.mem hb;exact I.base.free b o l (I.ok.frf b hb) λz=>I.ok.exfs b z hb
theorem Inv.step{g':Array nN}{t':Nat}{d':Drawn}{ch:List Z7}(I:Inv X Z9 σ H s)(a:∀b∈ch,(b∈X.ex\/X.s₀.heap.objs.size<=b)/\b≠X.env.locals/\(∀x c,X.env.cells.lookup x=lm c->c≠b)/\∀p∈X.pn++Z9,p.1≠b)(keep:∀b o,b≠X.env.locals->b∉X.fs->b∉ch->s.heap.get? b=lm o->H b=lr->h'.get? b=lm o)(slot:∀b o,b≠X.env.locals->b∈X.fs->b∉ch->s.heap.get? b=lm o->H b=lr->∃sl,h'.get? b=lm { o with slots:=sl })(free:∀b o,b∉ch->s.heap.get? b=lm o->H b=lr->H' b=lr)(there:∀b o,b∉ch->s.heap.get? b=lm o->∃o',h'.get? b=lm o')(tups:∀b xs,H b=lm (.tup xs)->H' b=lm (.tup xs))(frzs:∀b o u,H b=lm (.frz o u)->H' b=lm (.frz o u))(tbls:∀b ps,H b=lm (.tbl ps)->∃more,H' b=lm (.tbl (ps++more)))(ns:∀m,s.heap.Ns X.env.locals m->h'.Ns X.env.locals m)(hok:HOk X.prog X.w H' h')(hg:nK g') :
  Inv X Z9 σ H' { s with heap:=h',gens:=g',drawn:=d',toks:=t' }:=by
 have L:∀b o,X.s₀.heap.get? b=lm o->b≠X.env.locals:=λb o e=>aD (aK (ax e) I.ok.above);have C:∀b o,X.s₀.heap.get? b=lm o->b∉X.ex->b∉ch:=λb o e hx hb=>by
  rcases(a b hb).1 with z|z;·exact hx z
  .exact absurd (aK (ax e) z) (bS _)
 have K:∀x c,X.env.cells.lookup x=lm c->∀v,s.heap.IsCell c v->h'.IsCell c v:=λx c e v ⟨o,f,hd⟩=>by
  have h:c∉ch:=λz=>(a c z).2.2.1 x c e rfl;by_cases y:c∈X.fs;·obtain⟨sl,q⟩:=slot c o (I.cne x c e) y h f (I.freeC x c e);exact⟨_,q,hd⟩
  .exact⟨o,keep c o (I.cne x c e) y h f (I.freeC x c e),hd⟩
 refine⟨I.ok,I.os,hg,⟨λb o e n hb hx=>?_,λb o e n hb hx=>?_,λb o e n hx=>?_,λb o e hx=>?_,λb xs e=>tups b xs (I.base.tups b xs e),λb o xs e=>frzs b o xs (I.base.frzs b o xs e),λb ps e=>?_⟩,?_,λx c e=>?_,?_,λx c e=>?_,λp hp=>?_,hok,I.len⟩;·exact keep b o (L b o e) hb (C b o e hx) (I.base.keep b o e n hb hx) (I.base.free b o e n hx)
 .obtain⟨sl,e1⟩:=I.base.slot b o e n hb hx;obtain⟨j,g⟩:=slot b _ (L b o e) hb (C b o e hx) e1 (I.base.free b o e n hx);exact⟨j,g⟩
 .obtain⟨o',e1⟩:=I.base.there b o e hx;exact free b o' (C b o e hx) e1 (I.base.free b o e n hx)
 .obtain⟨o',e1⟩:=I.base.there b o e hx;exact there b o' (C b o e hx) e1
 .obtain⟨m1,e1⟩:=I.base.tbls b ps e;obtain⟨A,g⟩:=tbls b _ e1;exact⟨m1++A,by rw[g,Array.append_assoc]⟩
 .obtain⟨m,B,hl⟩:=I.loc;refine⟨m,ns m B,λi x v e1 g D=>?_⟩;obtain⟨u,r,l⟩:=hl i x v e1 g D;refine⟨u,r,?_⟩;rcases l with l|⟨k,c,e,z⟩
  .exact .inl l
  .exact .inr ⟨k,c,e,K x c e _ z⟩
 .obtain⟨v,z⟩:=I.cell x c e;exact⟨v,K x c e v z⟩
 .obtain⟨m,⟨o,_,_,f,_⟩,_⟩:=I.loc;exact free _ o (λz=>(a _ z).2.1 rfl) f I.free
 .obtain⟨v,o,f,hd⟩:=I.cell x c e;exact free c o (λz=>(a c z).2.2.1 x c e rfl) f (I.freeC x c e)
 .obtain⟨e,n,ne,t,d⟩:=I.pin p hp;have h:p.1∉ch:=λz=>(a p.1 z).2.2.2 p hp rfl;exact⟨keep p.1 p.2 ne t h e n,free p.1 p.2 h e n,ne,t,d⟩
theorem Inv.un(I:Inv X Z9 σ H s)(u:Un X.fs [] H H' s.heap h')(hok:HOk X.prog X.w H' h'):Inv X Z9 σ H' { s with heap:=h',toks:=t' }:=by obtain⟨m,⟨o,es,ep,l,r⟩,_⟩:=id I.loc;obtain⟨sl,L⟩:=u.any l I.free 'f';exact I.step (g':=s.gens) (d':=s.drawn) (ch:=[]) (λ_ z=>nomatch z) (λb o _ hb _ e n=>u.keep b o e n hb 'f') (λb o _ hb _ e n=>u.slot b o e n hb 'f') (λb o _ e n=>u.free b o e n 'f') (λb o _ e=>u.there b o e 'f') u.tups u.frzs u.tbls (λd c=>by obtain⟨o',es',a,h,r'⟩:=c;rw[l]at h;cases h;exact⟨_,es',a,L,r'⟩) hok I.bare
theorem Inv.call{g':Array nN}{t':Nat}{d':Drawn}(I:Inv X Z9 σ H s)(u:Un (frs X.stack) ch H H' s.heap h')(hok:HOk X.prog X.w H' h')(hg:nK g')(a:∀b∈ch,(b∈X.ex\/X.s₀.heap.objs.size<=b)/\b≠X.env.locals/\(∀x c,X.env.cells.lookup x=lm c->c≠b)/\∀p∈X.pn++Z9,p.1≠b) :
  Inv X Z9 σ H' { s with heap:=h',gens:=g',drawn:=d',toks:=t' }:=by
 obtain⟨m,⟨o,es,ep,l,r⟩,_⟩:=id I.loc;obtain⟨sl,L⟩:=u.any l I.free λz=>(a _ z).2.1 rfl;exact I.step (ch:=ch) a (λb o L hb d e n=>u.keep b o e n (λz=>(af.mp (I.stkSub b z)).elim L hb) d) (λb o _ _ d e n=>u.any e n d) (λb o d e n=>u.free b o e n d) (λb o d e=>u.there b o e d) u.tups u.frzs u.tbls (λi g=>by obtain⟨o',es',f,h,r'⟩:=g;rw[l]at h;cases h;exact⟨_,es',f,L,r'⟩) hok hg
theorem Inv.turned{t':Nat}(I:Inv X Z9 σ H s)(k:∀b o,b≠it->s.heap.get? b=lm o->h'.get? b=lm o)(h:H it=lr)(a:it≠X.env.locals)(h1:it∈X.ex\/X.s₀.heap.objs.size<=it)(h2:∀x c,X.env.cells.lookup x=lm c->c≠it)(g:∀p∈X.pn++Z9,p.1≠it):Inv X Z9 σ H { s with heap:=h',toks:=t' }:=by
 have t:∀b u,H b=lm u->b≠it:=λb u e z=>by rw[z,h]at e;cases e
 refine I.step (g':=s.gens) (d':=s.drawn) (ch:=[it]) (λb hb=>?_) (λb o _ _ d e _=>k b o (λz=>d (by simp[z])) e) (λb o _ _ d e _=>⟨o.slots,k b o (λz=>d (by simp[z])) e⟩) (λ_ _ _ _ n=>n)
  (λb o d e=>⟨o,k b o (λz=>d (by simp[z])) e⟩) (λ_ _ e=>e) (λ_ _ _ e=>e) (λb ps e=>⟨#[],by rw[e];simp⟩) (λm f=>?_) (λb u e=>?_) I.bare
 .have e:b=it:=by simpa using hb
  subst e;exact⟨h1,a,h2,g⟩
 .obtain⟨o,es,ep,l,r⟩:=f;exact⟨o,es,ep,k _ o (bj a) l,r⟩
 .refine(I.hok b u e).stay (λc v d q=>k c v ?_ q) (λ_ q=>q) λ_ _ q=>q;rcases d with z|z;·rw[z];exact t b u e
  .exact t c _ z
theorem Inv.tok(I:Inv X Z9 σ H s)(t:Nat):Inv X Z9 σ H { s with toks:=t }:=I.un (h':=s.heap) (t':=t) Un.refl I.hok
theorem Inv.kept(I:Inv X Z9 σ H s)(k:∀b u,s.heap.get? b=lm u->h'.get? b=lm u):Inv X Z9 σ H { s with heap:=h',toks:=t' }:=I.un (Un.kept k) (I.hok.kept k)
theorem Inv.laid{t':Nat}(I:Inv X Z9 σ H s)(k:∀b u,s.heap.get? b=lm u->h'.get? b=lm u)(hp:s.heap.objs.size<=a)(new:ObjOk X.prog X.w (upd H a o) h' a o):Inv X Z9 σ (upd H a o) { s with heap:=h',toks:=t' }:=I.un (Un.laid k hp (I.hok.fresh hp)) (I.hok.laid k hp new)
theorem Inv.write{x e:Z7}{o:HO}{t':Nat}(I:Inv X Z9 σ H s)(m:Mut (H x))(he:e=x\/H e=lm (.own x))(k:∀b u,b≠e->s.heap.get? b=lm u->h'.get? b=lm u)(h:∃u,h'.get? e=lm u)(new:ObjOk X.prog X.w (upd H x o) h' x o):Inv X Z9 σ (upd H x o) { s with heap:=h',toks:=t' }:=I.un (Un.write m he k h) (I.hok.write m he k h new)
theorem Inv.weak{σ':List (Option V)}(I:Inv X Z9 σ H s)(hl:σ'.length=σ.length)(w:∀(i:Nat) v,σ'[i]?=lm (lm v)->σ[i]?=lm (lm v)):Inv X Z9 σ' H s:=
 ⟨I.ok,I.os,I.bare,I.base,let ⟨m,n,h⟩:=I.loc; ⟨m,n,λi x v e1 e D=>h i x v e1 (w i v e) D⟩,I.cell,I.free,I.freeC,I.pin,I.hok,hl.trans I.len⟩
theorem Inv.pins_of{a:Pns}(I:Inv X Z9 σ H s)(h:∀p∈a,s.heap.get? p.1=lm p.2/\H p.1=lr/\p.1≠X.env.locals/\p.1∉X.fs/\∀v,p.2.data≠.cell v):Inv X a σ H s:=
 ⟨I.ok,I.os,I.bare,I.base,I.loc,I.cell,I.free,I.freeC,λp hp=>(aI.mp hp).elim (λz=>I.pin p (bu _ z)) (h p),I.hok,I.len⟩
theorem Yl{N:List Str}(h:N.Nodup){j:Nat}(a:N[i]?=lm x)(b:N[j]?=lm x):i=j:=by obtain⟨h1,e1⟩:=aE.mp a;obtain⟨h2,e⟩:=aE.mp b;exact(iT h).mp (e1.trans e.symm)
theorem Vc{M:Model}{A:lG}{E:lu->lx->Prop}{Q:Unit->lx->Prop}(I:Inv X Z9 σ H s)(hN:X.N.Nodup)(hi:X.N[i]?=lm x)(hx:Loc X.env.scope x)(r:RelV v u)(h:∀s',Inv X Z9 (σ.set i (lm v)) H s'->(∃a,bh a s.heap s'.heap/\(a=X.env.locals\/X.env.cells.lookup x=lm a))->Q () s')(hf:X.fn x=lv\/X.env.scope.names.lookup x=lm .local:=by first|exact .inl rfl|exact .inr rfl|assumption):lA M A (storeName X.env x u) Q E s:=by
 obtain⟨m,Z,hl⟩:=id I.loc;have L:(X.env.scope.kind == .class||(X.env.scope.kind == .module&&X.env.locals != X.env.globals))=false:=by rw[I.ok.kind];rfl
 have C:i < σ.length:=by rw[I.len];exact(aE.mp hi).1
 have cne:=I.cne;have t:∀{a:Z7}{h':Z5},(∃o,s.heap.get? a=lm o/\H a=lr)->bh a s.heap h'->HOk X.prog X.w H h':=λ{a h'} ha hs b ob e=>by
  obtain⟨_,_,g⟩:=ha;refine(I.hok b ob e).stay (λc R f q=>(hs.2 c ?_).trans q) (λ_ q=>q) λ_ _ q=>q;rintro rfl;rcases f with rfl|f;·rw[g]at e;cases e
  .rw[g]at f;cases f
 rcases hx with B|B
 .refine wpAny_storeName_local B Z (λh' Y hs=>?_) L;obtain⟨oL,_,_,W,_⟩:=id Z;refine h _ ⟨I.ok,I.os,I.bare,⟨λb o e n hb hx=>?_,λb o e n hb hx=>?_,I.base.free,λb o e hx=>?_,I.base.tups,I.base.frzs,I.base.tbls⟩,⟨_,Y,λj y T e1 l F=>?_⟩,λy c e=>?_,I.free,I.freeC,λp hp=>?_,t ⟨oL,W,I.free⟩ hs,by simpa using I.len⟩ ⟨_,hs,.inl rfl⟩;·exact(hs.2 b (aD (aK (ax e) I.ok.above))).trans (I.base.keep b o e n hb hx)
  .obtain⟨sl,e1⟩:=I.base.slot b o e n hb hx;exact⟨sl,(hs.2 b (aD (aK (ax e) I.ok.above))).trans e1⟩
  .obtain⟨o',e1⟩:=I.base.there b o e hx;exact⟨o',(hs.2 b (aD (aK (ax e) I.ok.above))).trans e1⟩
  .by_cases D:j=i;·subst D;rw[hi]at e1;cases e1;rw[aL C]at l;cases l;exact⟨u,r,.inl ⟨B,by simp⟩⟩
   .rw[aA (bj D)]at l;obtain⟨U,r',q⟩:=hl j y T e1 l F;refine⟨U,r',?_⟩;rcases q with⟨k,e⟩|⟨k,c,e,z⟩
    .refine .inl ⟨k,?_⟩;have:y≠x:=λe=>D (Yl hN e1 (e ▸ hi));simp[this,e]
    .exact .inr ⟨k,c,e,z.sameBut hs (cne y c e)⟩
  .obtain⟨R,z⟩:=I.cell y c e;exact⟨R,z.sameBut hs (cne y c e)⟩
  .obtain⟨e,n,ne,V,d⟩:=I.pin p hp;exact⟨(hs.2 p.1 ne).trans e,n,ne,V,d⟩
 .have G:X.fn x=true:=by
   rcases hf with z|z;·exact z
   .rw[z]at B;cases B
  obtain⟨c,f⟩:=I.ok.has x (.inl B);obtain⟨R,z⟩:=I.cell x c f;refine wpAny_storeName_cell I.ok.kind B f z (λh' P hs=>?_);obtain⟨oc,K,J⟩:=id z;refine h { s with heap:=h' } ⟨I.ok,I.os,I.bare,⟨λb o e n hb hx=>?_,λb o e n hb hx=>?_,I.base.free,λb o e hx=>?_,I.base.tups,I.base.frzs,I.base.tbls⟩,⟨m,Z.sameBut hs (bj (cne x c f)),λj y T e1 l F=>?_⟩,λy S e=>?_,I.free,I.freeC,λp hp=>?_,t ⟨oc,K,I.freeC x c f⟩ hs,by simpa using I.len⟩ ⟨c,hs,.inr f⟩;·exact(hs.2 b (aD (aK (ax e) (I.ok.cab x c G f)))).trans (I.base.keep b o e n hb hx)
  .obtain⟨sl,e1⟩:=I.base.slot b o e n hb hx;exact⟨sl,(hs.2 b (aD (aK (ax e) (I.ok.cab x c G f)))).trans e1⟩
  .obtain⟨o',e1⟩:=I.base.there b o e hx;exact⟨o',(hs.2 b (aD (aK (ax e) (I.ok.cab x c G f)))).trans e1⟩
  .by_cases D:j=i;·subst D;rw[hi]at e1;cases e1;rw[aL C]at l;cases l;exact⟨u,r,.inr ⟨.inl B,c,f,P⟩⟩
   .rw[aA (bj D)]at l;obtain⟨U,r',q⟩:=hl j y T e1 l F;refine⟨U,r',?_⟩;rcases q with q|⟨k,S,e,z'⟩
    .exact .inl q
    .refine .inr ⟨k,S,e,z'.sameBut hs ?_⟩;rintro rfl;exact D (Yl hN e1 (I.ok.inj _ _ _ e f ▸ hi))
  .by_cases O:S=c;·subst O;exact⟨_,P⟩
   .obtain⟨w2,z2⟩:=I.cell y S e;exact⟨w2,z2.sameBut hs O⟩
  .obtain⟨e,n,ne,V,d⟩:=I.pin p hp;refine⟨(hs.2 p.1 ?_).trans e,n,ne,V,d⟩;intro q;rw[q,K]at e;have q':oc=p.2:=aU.inj e;exact d R (by rw[<-q'];exact J)
theorem zx{M:Model}{A:lG}{E:lu->lx->Prop}{Q:Unit->lx->Prop}(I:Inv X Z9 σ H s)(a:X.N.Nodup)(hi:X.N[i]?=lm x)(hx:Loc X.env.scope x)(r:RelV v u)(h:∀s',Inv X Z9 (σ.set i (lm v)) H s'->Q () s')(f:X.fn x=lv\/X.env.scope.names.lookup x=lm .local:=by first|exact .inl rfl|exact .inr rfl|assumption):lA M A (storeName X.env x u) Q E s:=
 Vc I a hi hx r (λs' b _=>h s' b) f
theorem Inv.call'(I:Inv X Z9 σ H s)(l:s'.os=s.os)(u:Un (frs X.stack) ch H H' s.heap s'.heap)(hok:HOk X.prog X.w H' s'.heap)(hg:nK s'.gens)(a:∀b∈ch,(b∈X.ex\/X.s₀.heap.objs.size<=b)/\b≠X.env.locals/\(∀x c,X.env.cells.lookup x=lm c->c≠b)/\∀p∈X.pn++Z9,p.1≠b):Inv X Z9 σ H' s':=by
 obtain⟨h',g',d',t',o'⟩:=s';have e:o'=s.os:=l;subst e;exact I.call (g':=g') (t':=t') (d':=d') u hok hg a
end
abbrev XK:=lu->Option Z7->Hp->Prop
abbrev St:=List (Option V)
abbrev VK:=V->Hp->Prop
abbrev TE:=St->Hp->VK->Prop
abbrev TT:=St->Hp->(Bool->Hp->Prop)->Prop
abbrev TA:=St->Hp->(List V->Hp->Prop)->Prop
structure Ends where
 nx:St->Hp->Prop
 rt:VK
 bk:St->Hp->Prop:=λ_ _=>False
 ct:St->Hp->Prop:=λ_ _=>False
abbrev TS:=Ends->St->Hp->Prop
def EP(X:Cx)(Z9:Pns)(σ:St)(Q:VK)(u:lu)(s':lx):Prop:=∃v H',Inv X Z9 σ H' s'/\RelV v u/\Q v H'
def TP(X:Cx)(Z9:Pns)(σ:St)(Q:Bool->Hp->Prop)(b:Bool)(s':lx):Prop:=∃H',Inv X Z9 σ H' s'/\Q b H'
def AP(X:Cx)(Z9:Pns)(σ:St)(Q:List V->Hp->Prop)(us:List lu)(s':lx):Prop:=∃vs H',Inv X Z9 σ H' s'/\Vals vs us/\Q vs H'
set_option tactic.hygienic true in
def SP(X:Cx)(Z9:Pns)(D:Ends)(f:Flow)(s':lx):Prop:=
 match f with
 |.next=>∃σ' H',Inv X Z9 σ' H' s'/\D.nx σ' H'
 |.brk=>∃σ' H',Inv X Z9 σ' H' s'/\D.bk σ' H'
 |.cont=>∃σ' H',Inv X Z9 σ' H' s'/\D.ct σ' H'
 |.ret u=>∃v σ' H',Inv X Z9 σ' H' s'/\RelV v u/\D.rt v H'
structure PE(X:Cx)(e:Z4)(t:TE):Prop where
 run:∀(Z9:Pns)(s:lx)(σ:St)(H:Hp)(Q:VK),Inv X Z9 σ H s->t σ H Q->lA 'c' X.A (Z0 e X.env) (EP X Z9 σ Q) X.xe s
instance{X:Cx}{e:Z4}{t:TE}:CoeFun (PE X e t) (λ_=>∀(Z9:Pns)(s:lx)(σ:St)(H:Hp)(Q:VK),Inv X Z9 σ H s->t σ H Q->lA 'c' X.A (Z0 e X.env) (EP X Z9 σ Q) X.xe s):=⟨λh=>h.run⟩
structure PT(X:Cx)(e:Z4)(t:TT):Prop where
 run:∀(Z9:Pns)(s:lx)(σ:St)(H:Hp)(Q:Bool->Hp->Prop),Inv X Z9 σ H s->t σ H Q->lA 'c' X.A (isTrue e X.env (Z0 e X.env)) (TP X Z9 σ Q) X.xe s
instance{X:Cx}{e:Z4}{t:TT}:CoeFun (PT X e t) (λ_=>∀(Z9:Pns)(s:lx)(σ:St)(H:Hp)(Q:Bool->Hp->Prop),Inv X Z9 σ H s->t σ H Q->lA 'c' X.A (isTrue e X.env (Z0 e X.env)) (TP X Z9 σ Q) X.xe s):=⟨λh=>h.run⟩
structure PW(X:Cx)(e:Z4)(t:TT):Prop where
 run:∀(whole:Sem lu)(Z9:Pns)(s:lx)(σ:St)(H:Hp)(Q:Bool->Hp->Prop),Inv X Z9 σ H s->t σ H Q->lA 'c' X.A (isTrue e X.env whole) (TP X Z9 σ Q) X.xe s
instance{X:Cx}{e:Z4}{t:TT}:CoeFun (PW X e t) (λ_=>∀(whole:Sem lu)(Z9:Pns)(s:lx)(σ:St)(H:Hp)(Q:Bool->Hp->Prop),Inv X Z9 σ H s->t σ H Q->lA 'c' X.A (isTrue e X.env whole) (TP X Z9 σ Q) X.xe s):=⟨λh=>h.run⟩
variable{e:Z4}
theorem PW.pt{t:TT}(h:PW X e t):PT X e t:=⟨h.run _⟩
structure PA(X:Cx)(es:List Z4)(t:TA):Prop where
 run:∀(pos:Pos)(Z9:Pns)(s:lx)(σ:St)(H:Hp)(Q:List V->Hp->Prop),Inv X Z9 σ H s->t σ H Q->lA 'c' X.A (spliced (lM pos (lz es X.env))) (AP X Z9 σ Q) X.xe s
instance{X:Cx}{es:List Z4}{t:TA}:CoeFun (PA X es t) (λ_=>∀(pos:Pos)(Z9:Pns)(s:lx)(σ:St)(H:Hp)(Q:List V->Hp->Prop),Inv X Z9 σ H s->t σ H Q->lA 'c' X.A (spliced (lM pos (lz es X.env))) (AP X Z9 σ Q) X.xe s):=⟨λh=>h.run⟩
structure PS(X:Cx)(st:Z3)(t:TS):Prop where
 run:∀(Z9:Pns)(s:lx)(σ:St)(H:Hp)(D:Ends),Inv X Z9 σ H s->t D σ H->lA 'c' X.A (exec st X.env) (SP X Z9 D) X.xe s
instance{X:Cx}{st:Z3}{t:TS}:CoeFun (PS X st t) (λ_=>∀(Z9:Pns)(s:lx)(σ:St)(H:Hp)(D:Ends),Inv X Z9 σ H s->t D σ H->lA 'c' X.A (exec st X.env) (SP X Z9 D) X.xe s):=⟨λh=>h.run⟩
structure PSs(X:Cx)(st:List Z3)(t:TS):Prop where
 run:∀(Z9:Pns)(s:lx)(σ:St)(H:Hp)(D:Ends),Inv X Z9 σ H s->t D σ H->lA 'c' X.A (execs st X.env) (SP X Z9 D) X.xe s
instance{X:Cx}{st:List Z3}{t:TS}:CoeFun (PSs X st t) (λ_=>∀(Z9:Pns)(s:lx)(σ:St)(H:Hp)(D:Ends),Inv X Z9 σ H s->t D σ H->lA 'c' X.A (execs st X.env) (SP X Z9 D) X.xe s):=⟨λh=>h.run⟩
variable{A:lG}{E:lu->lx->Prop}
theorem thn{t:Sem α}{Q b:α->lx->Prop}{M:Model}(h:lA M A t Q E s)(c:∀a s,Q a s->b a s):lA M A t b E s:=lR h c λ_ _ x=>x
variable{σ:St}{pos:Pos}{Q:lu->lx->Prop}{ta:TE}{c:Z4}
section
def qlZ(i:Nat):TE:=λσ H Q=>∃v,σ[i]?=lm (lm v)/\Q v H
def tC(v:V):TE:=λ_ H Q=>Q v H
abbrev Dbg(x:Str):Prop:=(x == ("__debug__":Str))=lw
abbrev Cdk(x:Str):Prop:=(x == ("__classdict__":Str))=lw
theorem wG(j:X.N[i]?=lm x)(f:Vis X.env.scope x)(hd:Dbg x:=by decide)(d:Cdk x:=by decide):PE X (.Name x pos) (qlZ i):=by
 refine⟨?_⟩;intro Z9 s σ H Q I h;obtain⟨v,e,h⟩:=h;obtain⟨m,n,hl⟩:=I.loc;obtain⟨u,r,l⟩:=hl i x v j e f;have fin:EP X Z9 σ Q u s:=⟨v,H,I,r,h⟩
 rcases l with⟨k,g⟩|⟨k,c,b,a⟩
 .exact wpAny_Name (wpAny_loadName_local I.ok.kind k n g fin) hd
 .rcases k with k|k;·exact wpAny_Name (wpAny_loadName_cell I.ok.kind k b a fin) hd
  .exact wpAny_Name (wpAny_loadName_free I.ok.kind k b a fin d) hd
theorem qhL{i j pos}:PE X (.Constant (.int i) j pos) (tC (.int i)):=⟨λ_ _ _ H _ I h=>wpAny_Constant_int ⟨.int i,H,I.tok _,⟨_,rfl⟩,h⟩⟩
theorem qe0{b j pos}:PE X (.Constant (.bool b) j pos) (tC (.bl b)):=⟨λ_ _ _ H _ I h=>Constant_bool ⟨.bl b,H,I,rfl,h⟩⟩
theorem qhM{j pos}:PE X (.Constant .none j pos) (tC .non):=⟨λ_ _ _ H _ I h=>Constant_none ⟨.non,H,I,rfl,h⟩⟩
theorem qec{x j pos}:PE X (.Constant (.str x) j pos) (tC (.str x)):=⟨λ_ _ _ H _ I h=>iq ⟨.str x,H,I.tok _,⟨_,rfl⟩,h⟩⟩
def Gl(X:Cx)(x:Str):Prop:=X.env.kindOf x=lm .globalImplicit
theorem yd{E:lu->lx->Prop}{pos:Pos}(I:Inv X Z9 σ H s)(hg:Gl X x)(c:X.mg x=lm u)(h:Q u s)(hd:Dbg x:=by decide):lA 'c' X.A (Z0 (.Name x pos) X.env) Q E s:=
 Calls.Name_function_global I.ok.kind hg (Calls.loadGlobal_global (by rw[I.ok.glob];exact I.mod.glob.keeps I.bk) c h) hd
theorem zL{E:lu->lx->Prop}{pos:Pos}(I:Inv X Z9 σ H s)(hg:Gl X x)(m:X.mg x=lr)(c:lB x=lm u)(h:Q u s)(n:x ≠ "__name__":=by decide)(hd:Dbg x:=by decide):lA 'c' X.A (Z0 (.Name x pos) X.env) Q E s:=by
 obtain⟨mb,h1,h2⟩:=I.mod.blt;exact Calls.Name_function_global I.ok.kind hg (Calls.loadGlobal_builtin (by rw[I.ok.glob];exact I.mod.glob.keeps I.bk) m (by rw[I.ok.blt];exact h1.keeps I.bk) ((h2 x n).trans c) h) hd
theorem Gm(hg:Gl X x)(c:X.mg x=lm u)(r:RelV v u)(hd:Dbg x:=by decide):PE X (.Name x pos) (tC v):=⟨λ_ _ _ H _ I h=>yd I hg c ⟨v,H,I,r,h⟩ hd⟩
theorem Gn(hg:Gl X x)(m:X.mg x=lr)(c:lB x=lm u)(r:RelV v u)(n:x ≠ "__name__":=by decide)(hd:Dbg x:=by decide):PE X (.Name x pos) (tC v):=⟨λ_ _ _ H _ I h=>zL I hg m c ⟨v,H,I,r,h⟩ n hd⟩
variable{a b:Z4}{tb:TE}
variable{tA tB':TT}{rest:List Z4}
def ql0(t u:TT):TT:=λσ H Q=>t σ H λc H1=>if c=lv then u σ H1 Q else Q lw H1
def tOr(t u:TT):TT:=λσ H Q=>t σ H λc H1=>if c=lv then Q lv H1 else u σ H1 Q
def ql1(t:TT):TT:=λσ H Q=>t σ H λc H1=>Q (!c) H1
theorem qe1(f:PT X a tA):PW X (.BoolOp .And [a] pos) tA:=by
 refine⟨?_⟩;intro w Z9 s σ H Q I h;refine isTrue_and (thn (f Z9 s σ H Q I h) λc s1 e=>?_);cases c with
 |true=>exact isTrue_and_nil e
 |false=>exact e
theorem qhN(f:PT X a tA):PW X (.BoolOp .Or [a] pos) tA:=by
 refine⟨?_⟩;intro w Z9 s σ H Q I h;refine isTrue_or (thn (f Z9 s σ H Q I h) λc s1 e=>?_);cases c with
 |false=>exact isTrue_or_nil e
 |true=>exact e
theorem qhO(f:PT X a tA)(hb:PW X (.BoolOp .And (b::rest) pos) tB'):PW X (.BoolOp .And (a::b::rest) pos) (ql0 tA tB'):=by
 refine⟨?_⟩;intro w Z9 s σ H Q I h;refine isTrue_and (thn (f Z9 s σ H _ I h) λc s1 z=>?_);obtain⟨H1,d,q⟩:=z;cases c with
 |true=>exact hb w Z9 s1 σ H1 Q d q
 |false=>exact⟨H1,d,q⟩
theorem qka(f:PT X a tA)(hb:PW X (.BoolOp .Or (b::rest) pos) tB'):PW X (.BoolOp .Or (a::b::rest) pos) (tOr tA tB'):=by
 refine⟨?_⟩;intro w Z9 s σ H Q I h;refine isTrue_or (thn (f Z9 s σ H _ I h) λc s1 z=>?_);obtain⟨H1,d,q⟩:=z;cases c with
 |true=>exact⟨H1,d,q⟩
 |false=>exact hb w Z9 s1 σ H1 Q d q
theorem qhP(f:PT X a tA):PT X (.UnaryOp .Not a pos) (ql1 tA):=by refine⟨?_⟩;intro Z9 s σ H Q I h;exact isTrue_not (f Z9 s σ H (λc H1=>Q (!c) H1) I h)
def qkb(ta tb:TE):TE:=λσ H Q=>ta σ H λx H1=>∃c,x=.bl c/\if c=lv then tb σ H1 Q else Q (.bl lw) H1
def ql2(ta tb:TE):TE:=λσ H Q=>ta σ H λx H1=>∃c,x=.bl c/\if c=lv then Q (.bl lv) H1 else tb σ H1 Q
theorem qhQ{op}{t:TE}(h:PE X a t):PE X (.BoolOp op [a] pos) t:=⟨λZ9 s σ H Q I hw=>BoolOp_one (h Z9 s σ H Q I hw)⟩
theorem qhR(f:PE X a ta)(hb:PE X (.BoolOp .And (b::rest) pos) tb):PE X (.BoolOp .And (a::b::rest) pos) (qkb ta tb):=by
 refine⟨?_⟩;intro Z9 s σ H Q I h;refine BoolOp_and (thn (f Z9 s σ H _ I h) λv s1 z=>?_);obtain⟨x,H1,d,r1,q⟩:=z;obtain⟨c,rfl,q⟩:=q;cases r1;refine lZ ?_;cases c with
 |true=>exact hb Z9 s1 σ H1 Q d q
 |false=>exact⟨.bl lw,H1,d,rfl,q⟩
theorem qkc(f:PE X a ta)(hb:PE X (.BoolOp .Or (b::rest) pos) tb):PE X (.BoolOp .Or (a::b::rest) pos) (ql2 ta tb):=by
 refine⟨?_⟩;intro Z9 s σ H Q I h;refine BoolOp_or (thn (f Z9 s σ H _ I h) λv s1 z=>?_);obtain⟨x,H1,d,r1,q⟩:=z;obtain⟨c,rfl,q⟩:=q;cases r1;refine lZ ?_;cases c with
 |false=>exact hb Z9 s1 σ H1 Q d q
 |true=>exact⟨.bl lv,H1,d,rfl,q⟩
def tIf(t:TT)(ta tb:TE):TE:=λσ H Q=>t σ H λc H1=>if c=lv then ta σ H1 Q else tb σ H1 Q
theorem qcx(f:PT X c tA)(g:PE X a ta)(hb:PE X b tb):PE X (.IfExp c a b pos) (tIf tA ta tb):=by
 refine⟨?_⟩;intro Z9 s σ H Q I h;refine wpAny_IfExp (thn (f Z9 s σ H _ I h) λd s1 z=>?_);obtain⟨H1,e,q⟩:=z;cases d with
 |true=>exact g Z9 s1 σ H1 Q e q
 |false=>exact hb Z9 s1 σ H1 Q e q
end
def SqL(K:Y9)(H:Hp)(a:Z7)(xs:List V):Prop:=
 Rd H a (.lst xs) \/
  ∃(o:Obj)(its:Array lu)(n:Nat),K.lookup a=lm o/\o.cls=.type "list"/\o.dict=lr/\o.data=.seq its n/\its.size<=Z8/\Vals xs its.toList
def SqT(K:Y9)(H:Hp)(a:Z7)(xs:List V):Prop:=
 Rd H a (.tup xs) \/
  ∃(o:Obj)(its:Array lu)(n:Nat),K.lookup a=lm o/\(o.cls=.type "tuple"/\o.dict=lr)/\o.data=.seq its n/\its.size<=Z8/\Vals xs its.toList
noncomputable def ql3:lu->Option V
 |.none=>lm .non
 |.bool b=>lm (.bl b)
 |.int i _=>lm (.int i)
 |.str x _=>lm (.str x)
 |.bytes b _=>lm (.byt b)
 |.float b _=>lm (.flt b)
 |.ref a=>lm (.ref a)
 |.type n=>lm (.ty n)
 |_=>lr
theorem RelV.abs{x:V}(r:RelV x u):ql3 u=lm x:=by
 cases x with
 |non=>cases r;rfl
 |bl _=>cases r;rfl
 |int _=>obtain⟨t,rfl⟩:=r;rfl
 |str _=>obtain⟨t,rfl⟩:=r;rfl
 |byt _=>obtain⟨t,rfl⟩:=r;rfl
 |flt _=>obtain⟨t,rfl⟩:=r;rfl
 |ref _=>cases r;rfl
 |ty _=>cases r;rfl
variable{y:V}
theorem RelV.inj{x:V}(r:RelV x u)(q:RelV y u):x=y:=aU.inj (r.abs.symm.trans q.abs)
variable{ys:List V}
theorem Vals.inj(h:Vals xs us)(h':Vals ys us):xs=ys:=by
 induction h generalizing ys with
 |nil=>cases h';rfl
 |cons r t j=>
  cases h' with
  |cons r' t'=>rw[r.inj r',j t']
variable{K:Y9}
section
theorem SqT.of(h:H a=lm (.tup xs)):SqT K H a xs:=.inl (.inl h)
theorem Inv.list(I:Inv X Z9 σ H s)(h:SqL X.K H a xs):∃its:List lu,Vals xs its/\PlainL s.heap a its.toArray/\xs.length<=Z8:=by
 rcases h with h|⟨o,its,n,hk,hc,hd,hs,hz,r⟩
 .obtain⟨z,its,n,r,e⟩:=h.ok I.hok;exact⟨its,r,⟨_,n,e,rfl,rfl,rfl⟩,z⟩
 .refine⟨its.toList,r,⟨o,n,I.kIn a o hk,hc,hd,by simpa using hs⟩,?_⟩;have e:=r.length;simp only[aM]at e
  lia
theorem Inv.tuple(I:Inv X Z9 σ H s)(h:SqT X.K H a xs):∃its:List lu,Vals xs its/\IsTup s.heap a its.toArray/\xs.length<=Z8:=by
 rcases h with h|⟨o,its,n,hk,hc,hs,hz,r⟩
 .obtain⟨⟨z,_⟩,its,r,p⟩:=h.ok I.hok;exact⟨its,r,p,z⟩
 .refine⟨its.toList,r,⟨o,I.kIn a o hk,hc.1,n,by simpa using hs⟩,?_⟩;have e:=r.length;simp only[aM]at e
  lia
theorem Inv.tupleN(I:Inv X Z9 σ H s)(h:SqT X.K H a xs):∃o,s.heap.get? a=lm o/\o.dict=none:=by
 rcases h with h|⟨o,its,n,hk,hc,hs,hz,r⟩
 .obtain⟨⟨z,w⟩,its,r,p⟩:=h.ok I.hok;exact w
 .exact⟨o,I.kIn a o hk,hc.2⟩
theorem Inv.list_inj(I:Inv X Z9 σ H s)(h:SqL X.K H a xs)(h':SqL X.K H a ys):xs=ys:=by
 obtain⟨its,r,⟨o,n,e,_,_,d⟩,_⟩:=I.list h;obtain⟨its',r',⟨o',c,b,_,_,d'⟩,_⟩:=I.list h';rw[e]at b;cases b;rw[d]at d';injection d' with d1 _;have:its=its':=by simpa using congrArg Array.toList d1
 subst this;exact r.inj r'
theorem Inv.tuple_inj(I:Inv X Z9 σ H s)(h:SqT X.K H a xs)(h':SqT X.K H a ys):xs=ys:=by
 obtain⟨its,r,⟨o,e,_,n,d⟩,_⟩:=I.tuple h;obtain⟨its',r',⟨o',b,_,c,d'⟩,_⟩:=I.tuple h';rw[e]at b;cases b;rw[d]at d';injection d' with d1 _;have:its=its':=by simpa using congrArg Array.toList d1
 subst this;exact r.inj r'
end
variable{te:TE}{tc:TT}
section
variable{st:Z3}{rest:List Z3}{t u:TS}
def qkd:TS:=λD σ H=>D.nx σ H
def ql4(t u:TS):TS:=λD σ H=>t { D with nx:=u D } σ H
theorem Go:PSs X [] qkd:=⟨λ_ _ σ H _ I h=>nG ⟨σ,H,I,h⟩⟩
set_option tactic.hygienic true in
theorem Ym(h1:PS X st t)(h2:PSs X rest u):PSs X (st::rest) (ql4 t u):=by
 refine⟨?_⟩;intro Z9 s σ H D I h;refine wpAny_execs_cons (thn (h1 Z9 s σ H { D with nx:=u D } I h) λf s1 q=>?_);cases f with
 |next=>obtain⟨σ',H',b,q⟩:=q;exact h2 Z9 s1 σ' H' D b q
 |ret v=>exact q
 |brk=>exact q
 |cont=>exact q
set_option tactic.hygienic true in
theorem Gp(h1:PS X st t):PSs X [st] t:=by
 refine⟨?_⟩;intro Z9 s σ H D I h;refine wpAny_execs_cons (thn (h1 Z9 s σ H D I h) λf s1 q=>?_);cases f with
 |next=>exact nG q
 |ret v=>exact q
 |brk=>exact q
 |cont=>exact q
theorem Inv.quiet(I:Inv X Z9 σ H s):interactive X.env=false:=by simp[interactive,I.ok.kind]
def qke(te:TE):TS:=λD σ H=>te σ H λ_ H1=>D.nx σ H1
theorem qe2(he:PE X e te)(hs:mm e lr pos.line X.env=pure false:=by rfl):PS X (.Expr e pos) (qke te):=by refine⟨?_⟩;intro Z9 s σ H D I h;exact wpAny_Expr_any (thn (he Z9 s σ H _ I h) λv s1 ⟨x,H1,d,r1,q⟩=>⟨σ,H1,d,q⟩) I.quiet hs
def ql5(te:TE):TS:=λD σ H=>te σ H D.rt
theorem qed(he:PE X e te):PS X (.Return (lm e) pos) (ql5 te):=by refine⟨?_⟩;intro Z9 s σ H D I h;exact wpAny_Return_some (thn (he Z9 s σ H _ I h) λv s1 ⟨x,H1,d,r1,q⟩=>⟨x,σ,H1,d,r1,q⟩)
def ql6(c:TT)(t u:TS):TS:=λD σ H=>c σ H λb H1=>if b=lv then t D σ H1 else u D σ H1
theorem qkf{a b:List Z3}(f:PT X c tc)(g:PSs X a t)(hb:PSs X b u):PS X (.If c a b pos) (ql6 tc t u):=by
 refine⟨?_⟩;intro Z9 s σ H D I h;refine wpAny_If (thn (f Z9 s σ H _ I h) λd s1 z=>?_);obtain⟨H1,e,q⟩:=z;cases d with
 |true=>exact g Z9 s1 σ H1 D e q
 |false=>exact hb Z9 s1 σ H1 D e q
end
abbrev TG:=V->St->Hp->(St->Hp->Prop)->Prop
abbrev TGs:=List V->St->Hp->(St->Hp->Prop)->Prop
structure PG(X:Cx)(target:Z4)(t:TG):Prop where
 run:∀(Z9:Pns)(s:lx)(σ:St)(H:Hp)(v:V)(u:lu)(Q:St->Hp->Prop),Inv X Z9 σ H s->RelV v u->t v σ H Q ->lA 'c' X.A (assign target X.env u) (λ_ s'=>∃σ' H',Inv X Z9 σ' H' s'/\Q σ' H') X.xe s
instance{X:Cx}{target:Z4}{t:TG}:CoeFun (PG X target t) (λ_=>∀(Z9:Pns)(s:lx)(σ:St)(H:Hp)(v:V)(u:lu)(Q:St->Hp->Prop),Inv X Z9 σ H s->RelV v u->t v σ H Q ->lA 'c' X.A (assign target X.env u) (λ_ s'=>∃σ' H',Inv X Z9 σ' H' s'/\Q σ' H') X.xe s):=⟨λh=>h.run⟩
structure PGs(X:Cx)(ts:List Z4)(t:TGs):Prop where
 run:∀(Z9:Pns)(s:lx)(σ:St)(H:Hp)(vs:List V)(us:List lu)(Q:St->Hp->Prop),Inv X Z9 σ H s->Vals vs us->t vs σ H Q ->lA 'c' X.A (assignInOrder ((mG ts X.env).map (·.2)) us) (λ_ s'=>∃σ' H',Inv X Z9 σ' H' s'/\Q σ' H') X.xe s
instance{X:Cx}{ts:List Z4}{t:TGs}:CoeFun (PGs X ts t) (λ_=>∀(Z9:Pns)(s:lx)(σ:St)(H:Hp)(vs:List V)(us:List lu)(Q:St->Hp->Prop),Inv X Z9 σ H s->Vals vs us->t vs σ H Q ->lA 'c' X.A (assignInOrder ((mG ts X.env).map (·.2)) us) (λ_ s'=>∃σ' H',Inv X Z9 σ' H' s'/\Q σ' H') X.xe s):=⟨λh=>h.run⟩
variable{es:List Z4}{pos':Pos}
section
def qhS(i:Nat):TG:=λv σ H Q=>Q (σ.set i (lm v)) H
theorem qe3(a:X.N.Nodup)(hi:X.N[i]?=lm x)(hx:Loc X.env.scope x)(f:X.fn x=lv\/X.env.scope.names.lookup x=lm .local:=by first|exact .inl rfl|exact .inr rfl|assumption):PG X (.Name x pos) (qhS i):=by refine⟨?_⟩;intro Z9 s σ H v u Q I r h;exact wpAny_assign_Name (zx I a hi hx r (λs' b=>⟨_,H,b,h⟩) f)
def ql7:TGs:=λvs σ H Q=>vs=[]/\Q σ H
def qkg(t:TG)(u:TGs):TGs:=λvs σ H Q=>∃v r,vs=v::r/\t v σ H λσ' H'=>u r σ' H' Q
theorem qe4:PGs X [] ql7:=by refine⟨?_⟩;intro Z9 s σ H vs us Q I r h;obtain⟨e,h⟩:=h;subst e;cases r;exact assignInOrder_nil ⟨σ,H,I,h⟩
theorem qcy{t:TG}{u:TGs}(h1:PG X e t)(h2:PGs X es u)(hs:(mG (e::es) X.env).map (·.2)=assign e X.env::(mG es X.env).map (·.2):=by rfl):PGs X (e::es) (qkg t u):=by
 refine⟨?_⟩;intro Z9 s σ H vs us Q I r h;obtain⟨v,vr,e1,h⟩:=h;subst e1;cases r with
 |cons r a=>rw[hs];refine assignInOrder_cons (thn (h1 Z9 s σ H _ _ _ I r h) λ_ s1 z=>?_);obtain⟨σ1,H1,d,q⟩:=z;exact h2 Z9 s1 σ1 H1 _ _ Q d a q
def ql8(K:Y9)(n:Nat)(t:TGs):TG:=λv σ H Q=>∃a xs,v=.ref a/\SqT K H a xs/\xs.length=n/\t xs σ H Q
theorem qhT{k:Nat}{t:TGs}{n:Nat}(g:X.calm=lv)(h:PGs X es t)(f:(mG es X.env).length=n:=by rfl)(c:(mG es X.env).findIdx? (·.1)=none:=by rfl):PG X (.Tuple es k pos) (ql8 X.K n t):=by
 refine⟨?_⟩;intro Z9 s σ H v u Q I r hw;obtain⟨a,xs,e1,hq,hl,hw⟩:=hw;subst e1;cases r;obtain⟨its,d,ht,z⟩:=I.tuple hq;refine assign_Tuple_tuple (I.ok.hd g) ht (by simp[f,<-hl,d.length]) c λh' hx=>?_;have i:Inv X Z9 σ H { s with heap:=h' }:=I.kept (t':=s.toks) λb o e=>hx b o (aD (ax e)) e;exact h Z9 _ σ H xs _ Q i (by simpa using d) hw
def ql9(te:TE)(g:TG):TS:=λD σ H=>te σ H λx H1=>g x σ H1 D.nx
theorem qee(a:X.N.Nodup)(hi:X.N[i]?=lm x)(hx:Loc X.env.scope x)(he:PE X e te)(hs:mm e (lm (.Name x pos')) pos.line X.env=pure false:=by rfl)(f:X.fn x=lv\/X.env.scope.names.lookup x=lm .local:=by first|exact .inl rfl|exact .inr rfl|assumption):PS X (.Assign [.Name x pos'] e pos) (ql9 te (qhS i)):=by refine⟨?_⟩;intro Z9 s σ H D I h;refine wpAny_Assign_Name (thn (he Z9 s σ H _ I h) λv s1 z=>?_) hs;obtain⟨y,H1,d,r1,q⟩:=z;exact zx d a hi hx r1 (λs2 b=>⟨_,H1,b,q⟩) f
end
variable{tb:TS}{body:List Z3}
section
def qhU(c:TT)(tb:TS):TS:=λD σ H=>∃W:Nat->St->Hp->Prop,(∃m,W m σ H)/\∀m σ H,W m σ H ->c σ H λb H1=>if b=lv then ∃N:St->Hp->Prop,(∀σ' H',N σ' H'->∃d,d<m/\W d σ' H')/\tb { D with nx:=N,ct:=N,bk:=D.nx } σ H1 else D.nx σ H1
set_option tactic.hygienic true in
theorem qcz(hp:PassesOwn 'c' X.A X.env X.xe)(u:PT X c tc)(hb:PSs X body tb):PS X (.While c body [] pos) (qhU tc tb):=by
 refine⟨?_⟩;intro Z9 s σ H D I h;obtain⟨W,⟨m0,r⟩,t⟩:=h;refine wpAny_While (codeAny_whileLoop (λn s'=>∃σ' H',Inv X Z9 σ' H' s'/\W n σ' H') ?_ m0 ⟨σ,H,I,r⟩);rintro n s1 ⟨σ1,H1,x,p⟩;refine mn hp (thn (u Z9 s1 σ1 H1 _ x (t n σ1 H1 p)) λb s2 z=>?_);obtain⟨H2,o,e⟩:=z;cases b with
 |true=>
  obtain⟨N,l,e⟩:=e;rw[Aa rfl];refine mn hp (thn (hb Z9 s2 σ1 H2 _ o e) λf s3 q=>?_);cases f with
  |next=>obtain⟨a,d,k,i⟩:=q;obtain⟨m,j,g⟩:=l a d i;exact⟨m,j,a,d,k,g⟩
  |cont=>obtain⟨a,d,k,i⟩:=q;obtain⟨m,j,g⟩:=l a d i;exact⟨m,j,a,d,k,g⟩
  |brk=>exact q
  |ret v=>exact q
 |false=>rw[Ab bE];exact nG ⟨σ1,H2,o,e⟩
end
structure It where
 go:Nat->Hp->Prop
 yld:Nat->Hp->V->Hp->Prop
 stop:Nat->Hp->Prop
def WP(X:Cx)(Z9:Pns)(H:Hp)(b:Z7):Prop:=
 H b=lr/\b≠X.env.locals/\b∉X.fs/\(b∈X.ex\/X.s₀.heap.objs.size<=b)/\(∀x c,X.env.cells.lookup x=lm c->c≠b)/\∀p∈X.pn++Z9,p.1≠b
theorem Inv.fpOk(I:Inv X Z9 σ H s)(hb:s.heap.objs.size<=b)(n:H' b=lr):WP X Z9 H' b:=by
 refine⟨n,eI (aK I.lt hb),I.nofs hb,.inr (bn I.sz hb),λx c e z=>?_,λp hp z=>?_⟩;·obtain⟨v,q⟩:=I.cell x c e;exact absurd (aK q.lt (by rw[z];exact hb)) (bS _)
 .exact absurd (aK (ax (I.pin p hp).1) (by rw[z];exact hb)) (bS _)
structure Turn(P:lC)(w:lD)(K:Y9)(tg:Z4)(J:It)(fp:List Z7)(it:Z7)(tn:Nat->Z5->Prop):Prop where
 mem:it∈fp
 obj:∀i h,tn i h->∀b∈fp,∃o,h.get? b=lm o/\∀v,o.data≠.cell v
 keep:∀i h h',tn i h->(∀b∈fp,∀o,h.get? b=lm o->h'.get? b=lm o)->tn i h'
 item:∀(X:Cx),X.prog=P->X.w=w->X.K=K->X.calm=lv->∀(i:Nat)(Z9:Pns)(s:lx)(σ:St)(H:Hp)(E:lu->lx->Prop),Inv X Z9 σ H s->(∀b∈fp,WP X Z9 H b)->tn i s.heap->J.go i H ->lA (Z6 P w) X.A (mR (.ref it)) (λr s1=>∃u,r=lm u /\
   lA (Z6 P w) X.A (nH tg (.ref it) u) (λ_ s2=>∃x H',Inv X Z9 σ H' s2/\RelV x u/\J.yld i H x H'/\tn (i+1) s2.heap/\∀b∈fp,H' b=lr) E s1) E s
 done:∀(X:Cx),X.prog=P->X.w=w->X.K=K->X.calm=lv->∀(i:Nat)(Z9:Pns)(s:lx)(σ:St)(H:Hp)(E:lu->lx->Prop),Inv X Z9 σ H s->(∀b∈fp,WP X Z9 H b)->tn i s.heap->J.stop i H ->lA (Z6 P w) X.A (mR (.ref it)) (λr s1=>r=lr/\Inv X Z9 σ H s1) E s
 self:∀(A:lG)(i:Nat)(s:lx)(Q:lu->lx->Prop)(E:lu->lx->Prop),tn i s.heap->Q (.ref it) s->lA (Z6 P w) A (oM (.ref it)) Q E s
abbrev TI:=St->Hp->(It->Hp->Prop)->Prop
def PIE(X:Cx)(Z9:Pns)(σ:St)(tg:Z4)(R:It->Hp->Prop)(i:lu)(s2:lx):Prop:=
 ∃(it:Z7)(fp:List Z7)(tn:Nat->Z5->Prop)(J:It)(H':Hp),i=.ref it/\Inv X Z9 σ H' s2/\Turn X.prog X.w X.K tg J fp it tn/\tn 0 s2.heap/\(∀b∈fp,WP X Z9 H' b)/\R J H'
structure PI(X:Cx)(tg iter:Z4)(wi:TI):Prop where
 run:∀(Z9:Pns)(s:lx)(σ:St)(H:Hp)(R:It->Hp->Prop),Inv X Z9 σ H s->wi σ H R ->lA 'c' X.A (Z0 iter X.env) (λv s1=>lA 'c' X.A (oM v) (PIE X Z9 σ tg R) X.xe s1) X.xe s
instance{X:Cx}{tg iter:Z4}{wi:TI}:CoeFun (PI X tg iter wi) (λ_=>∀(Z9:Pns)(s:lx)(σ:St)(H:Hp)(R:It->Hp->Prop),Inv X Z9 σ H s->wi σ H R ->lA 'c' X.A (Z0 iter X.env) (λv s1=>lA 'c' X.A (oM v) (PIE X Z9 σ tg R) X.xe s1) X.xe s):=⟨λh=>h.run⟩
theorem qcA {M:Model} {A:lG} {E:lu->lx->Prop} {tg:Z4} {u:lu} {o:Obj} {n:String} {vs:Array lu} {Q:Unit->lx->Prop} (l:s.heap.get? it=lm o) (d:o.cls=.type n) (hd:o.data=.fields vs)
    (a:["enumerate","zip","dict_itemiterator","dict_reverseitemiterator","odict_iterator","itertools.zip_longest","itertools.pairwise"].contains n=lw) (c:Q () s):lA M A (nH tg (.ref it) u) Q E s:=by
  unfold nH;cases tg <;> first
    |exact ly c
    |(cases u <;> first
        |exact ly c
        | (refine lq (wpAny_load l ?_)
           rw[d,hd];show lA M A (if (["enumerate","zip","dict_itemiterator","dict_reverseitemiterator","odict_iterator","itertools.zip_longest","itertools.pairwise"].contains n&&vs[0]? == lm (lN _))=lv then _ else _) Q E s;rw[Ab (by intro h;rw[a,Bool.false_and]at h;cases h)];exact ly c))
noncomputable def Itl(K:Y9)(a:Z7):It:=
 ⟨λi H=>∃xs x,SqL K H a xs/\xs[i]?=lm x,λi H x H'=>H'=H/\∀xs,SqL K H a xs->xs[i]?=lm x,λi H=>∃xs,SqL K H a xs/\xs.length<=i⟩
noncomputable def Itt(K:Y9)(a:Z7):It:=
 ⟨λi H=>∃xs x,SqT K H a xs/\xs[i]?=lm x,λi H x H'=>H'=H/\∀xs,SqT K H a xs->xs[i]?=lm x,λi H=>∃xs,SqT K H a xs/\xs.length<=i⟩
noncomputable def Itr(lo:Int)(n:Nat):It:=⟨λi _=>i<n,λi H x H'=>H'=H/\x=.int (lo+i),λi _=>n<=i⟩
variable{tg:Z4}
theorem Gq(a it:Z7):Turn P w K tg (Itl K a) [it] it (λi h=>h.IsListIter it a i) where
 mem:=by simp
 obj:=λi h st b hb=>by
  have e:b=it:=by simpa using hb
  subst e;obtain⟨o,e,c,d⟩:=st;exact⟨o,e,λv z=>by rw[d]at z;cases z⟩
 keep:=λi h h' st k=>st.at λo e=>k it 'f' o e
 item:=by intro X j hw l q i Z9 s σ H E I g st hg;subst j hw l;obtain⟨xs,x,hq,hx⟩:=hg;obtain⟨its,r,p,A⟩:=I.list hq;obtain⟨u,C,y⟩:=r.get hx;obtain⟨f0,f1,f2,n,f4,m⟩:=g it 'f';refine wpAny_pyNext_list_item st p.isList (x:=u) (by simpa using C) λh' f t=>?_;have G:Inv X Z9 σ H { s with heap:=h' }:=I.turned (t':=s.toks) (λb o hb e=>(t.2 b hb).trans e) f0 f1 n f4 m;obtain⟨o,e,c,d⟩:=id f;exact⟨u,rfl,qcA (s:={ s with heap:=h' }) e c d 'e' ⟨x,H,G,y,⟨rfl,λys B=>by rw[I.list_inj B hq];exact hx⟩,f,λb hb=>(g b hb).1⟩⟩
 done:=by intro X j hw l q i Z9 s σ H E I g st hg;subst j hw l;obtain⟨xs,hq,hx⟩:=hg;obtain⟨its,r,p,A⟩:=I.list hq;obtain⟨f0,f1,f2,n,f4,m⟩:=g it 'f';have hl:=r.length;exact wpAny_pyNext_list_end (I.ok.hd q) st p.isList (by simp;lia) λh' D=>⟨rfl,I.turned (t':=s.toks) (λb o hb e=>D b o hb e) f0 f1 n f4 m⟩
 self:=λ_ _ _ _ _ st h=>wpAny_pyIter_listiter st h
theorem Zb(a it:Z7):Turn P w K tg (Itt K a) [it] it (λi h=>h.IsTupleIter it a i) where
 mem:=by simp
 obj:=λi h st b hb=>by
  have e:b=it:=by simpa using hb
  subst e;obtain⟨o,e,c,d⟩:=st;exact⟨o,e,λv z=>by rw[d]at z;cases z⟩
 keep:=λi h h' st k=>st.at λo e=>k it 'f' o e
 item:=by intro X j hw l q i Z9 s σ H E I g st hg;subst j hw l;obtain⟨xs,x,hq,hx⟩:=hg;obtain⟨its,r,p,A⟩:=I.tuple hq;obtain⟨u,C,y⟩:=r.get hx;obtain⟨f0,f1,f2,n,f4,m⟩:=g it 'f';refine wpAny_pyNext_tuple_item st (show s.heap.IsTuple a its.toArray from p) (x:=u) (by simpa using C) λh' f t=>?_;have G:Inv X Z9 σ H { s with heap:=h' }:=I.turned (t':=s.toks) (λb o hb e=>(t.2 b hb).trans e) f0 f1 n f4 m;obtain⟨o,e,c,d⟩:=id f;exact⟨u,rfl,qcA (s:={ s with heap:=h' }) e c d 'e' ⟨x,H,G,y,⟨rfl,λys B=>by rw[I.tuple_inj B hq];exact hx⟩,f,λb hb=>(g b hb).1⟩⟩
 done:=by intro X j hw l q i Z9 s σ H E I g st hg;subst j hw l;obtain⟨xs,hq,hx⟩:=hg;obtain⟨its,r,p,A⟩:=I.tuple hq;obtain⟨f0,f1,f2,n,f4,m⟩:=g it 'f';have hl:=r.length;exact wpAny_pyNext_tuple_end (I.ok.hd q) st (show s.heap.IsTuple a its.toArray from p) (by simp;lia) λh' D=>⟨rfl,I.turned (t':=s.toks) (λb o hb e=>D b o hb e) f0 f1 n f4 m⟩
 self:=λ_ _ _ _ _ st h=>wpAny_pyIter_tupleiter st h
theorem Zc(it:Z7)(lo:Int)(n:Nat):Turn P w K tg (Itr lo n) [it] it (λi h=>IsRangeIter h it (lo+(i:Nat) * 1) ((n:Int) - (i:Nat)) 1) where
 mem:=by simp
 obj:=λi h st b hb=>by
  have e:b=it:=by simpa using hb
  subst e;exact⟨_,st,λv z=>by have g:Data.fields _=Data.cell v:=z;cases g⟩
 keep:=λi h h' st k=>k it 'f' _ st
 item:=by intro X j hw l d i Z9 s σ H E I a st hg;subst j hw l;obtain⟨f0,f1,f2,c,f4,m⟩:=a it 'f';have W:=Walks.range (prog:=X.prog) (w:=X.w) (I.ok.hd d) it lo 1 n;refine W.item i s _ _ hg st λv h' tk q f p=>?_;obtain⟨t,rfl⟩:=q;have r:Inv X Z9 σ H { s with heap:=h',toks:=tk }:=I.turned (λb o hb e=>p b o (by simpa using hb) e) f0 f1 c f4 m;refine⟨_,rfl,qcA (s:={ s with heap:=h',toks:=tk }) (n := "range_iterator") f rfl rfl 'e' ⟨.int (lo+i),H,r,⟨t,?_⟩,⟨rfl,rfl⟩,f,λb hb=>(a b hb).1⟩⟩;rw[Int.mul_one]
 done:=by intro X j hw l d i Z9 s σ H E I a st hg;subst j hw l;obtain⟨f0,f1,f2,c,f4,m⟩:=a it 'f';exact wpAny_pyNext_range_end (I.ok.hd d) st (by have:n<=i:=hg;lia) λh' D=>⟨rfl,I.turned (t':=s.toks) (λb o hb e=>D b o hb e) f0 f1 c f4 m⟩
 self:=λ_ _ _ _ _ st h=>wpAny_pyIter_rangeiter st h
variable{p:Pos}{fp:List Z7}
section
theorem Yn{R:It->Hp->Prop}{E:lu->lx->Prop}{lo hi:Int}{t u v:Tok}{tk:Nat}(I:Inv X Z9 σ H s)(h1:-(2 ^ 62)<=lo)(h2:lo<2 ^ 62)(g:-(2 ^ 62)<=hi)(h:hi<2 ^ 62)(q:R (Itr lo (hi - lo).toNat) H):lA 'c' X.A (oM 'k') (PIE X Z9 σ tg R) E { s with heap:=s.heap.push { cls:=.type "range",data:=.fields #[.int lo t,.int hi u,.int 1 v] },toks:=tk }:=by
 refine wpAny_pyIter_range (IsRange.new ..) (small_one h1 h2 g h) ?_;have d:Inv X Z9 σ H { s with heap:=s.heap.push { cls:=.type "range",data:=.fields #[.int lo t,.int hi u,.int 1 v] },toks:=tk }:=I.kept λb o e=>ac _ e;refine⟨(s.heap.push { cls:=.type "range",data:=.fields #[.int lo t,.int hi u,.int 1 v] }).objs.size,[(s.heap.push { cls:=.type "range",data:=.fields #[.int lo t,.int hi u,.int 1 v] }).objs.size],_,_,H,rfl,d.kept (t':=tk) λb o e=>ac _ e,Zc _ lo (hi - lo).toNat,?_,λb hb=>?_,q⟩
 .have e1:lo+((0:Nat):Int) * 1=lo:=by simp
  have i:(((hi - lo).toNat:Nat):Int) - ((0:Nat):Int)=Builtin.Range.rangeSize lo hi 1:=by rw[rangeSize_one];split <;> lia
  show IsRangeIter _ _ (lo+((0:Nat):Int) * 1) ((((hi - lo).toNat:Nat):Int) - ((0:Nat):Int)) 1;rw[e1,i];exact ap _ rfl
 .have e:b=(s.heap.push { cls:=.type "range",data:=.fields #[.int lo t,.int hi u,.int 1 v] }).objs.size:=by simpa using hb
  subst e;exact d.fpOk (ao _) (d.hok.fresh (ao _))
def qkh(ta:TA):TI:=λσ H R=>ta σ H λvs H1=>∃j:Int,vs=[.int j]/\-(2 ^ 62)<=j/\j<2 ^ 62/\R (Itr 0 j.toNat) H1
def qki(ta:TA):TI:=λσ H R=>ta σ H λvs H1=>∃i j:Int,vs=[.int i,.int j]/\(-(2 ^ 62)<=i/\i<2 ^ 62/\-(2 ^ 62)<=j/\j<2 ^ 62)/\R (Itr i (j - i).toNat) H1
theorem Gr{a:Z4}{ta:TA}(hg:Gl X "range")(m:X.mg "range"=lr)(f:PA X [a] ta)(hs:lz [a] X.env=[(lw,Z0 a X.env)]:=by rfl):PI X tg (.Call (.Name "range" p) [a] [] pos) (qkh ta):=by
 refine⟨?_⟩;intro Z9 s σ H R I h;refine Call_ (zL I hg m boot_range (cT (thn (f pos Z9 s σ H _ I h) λus s1 z=>?_) hs rfl));obtain⟨vs,H1,g,r1,b⟩:=z;obtain⟨j,e,b,d,q⟩:=b;subst e;cases r1 with
 |cons r c=>cases c;obtain⟨t,rfl⟩:=r;exact call_range_1 (Yn g 'b' 'b' b d (by simpa using q))
theorem Gs{a b:Z4}{ta:TA}{p pos:Pos}(hg:Gl X "range")(m:X.mg "range"=lr)(n:PA X [a,b] ta)(hs:lz [a,b] X.env=[(lw,Z0 a X.env),(lw,Z0 b X.env)]:=by rfl)(c:lz [b] X.env=[(lw,Z0 b X.env)]:=by rfl):PI X tg (.Call (.Name "range" p) [a,b] [] pos) (qki ta):=by
 refine⟨?_⟩;intro Z9 s σ H R I h;refine Call_ (zL I hg m boot_range (cT (thn (n pos Z9 s σ H _ I h) λus s1 z=>?_) (by rw[hs,c]) (by rw[c];rfl)));obtain⟨vs,H1,o,r1,f⟩:=z;obtain⟨i,j,e,⟨f,l,k,g⟩,q⟩:=f;subst e;cases r1 with
 |cons r d=>
  cases d with
  |cons r' d=>cases d;obtain⟨t,rfl⟩:=r;obtain⟨t',rfl⟩:=r';exact call_range_2 (Yn o f l k g q)
def qma(wi:TI)(g:TG)(tb:TS):TS:=λD σ H=>wi σ H λJ H1=>∃W:Nat->Nat->St->Hp->Prop,(∃m,W 0 m σ H1)/\∀i m σ H,W i m σ H ->(J.stop i H/\D.nx σ H)\/(J.go i H/\∃N:St->Hp->Prop,(∀σ' H',N σ' H'->∃d,d<m/\W (i+1) d σ' H')/\∀x H',J.yld i H x H'->g x σ H' λa H2=>tb { D with nx:=N,ct:=N,bk:=D.nx } a H2)
noncomputable def Vd(fp:List Z7)(h:Z5):Pns:=fp.filterMap λb=>(h.get? b).map λo=>(b,o)
theorem uu{o:Obj}(hb:b∈fp)(e:h.get? b=lm o):(b,o)∈Vd fp h:=fE.mpr ⟨b,hb,by rw[e];rfl⟩
theorem Gt{p:Z7×Obj}(hp:p∈Vd fp h):p.1∈fp/\h.get? p.1=lm p.2:=by
 obtain⟨b,hb,e⟩:=fE.mp hp;cases q:h.get? b with
 |none=>rw[q]at e;cases e
 |some o=>rw[q]at e;have a:(b,o)=p:=aU.inj e;subst a;exact⟨hb,q⟩
theorem Inv.pinned(I:Inv X Z9 σ H s)(h:∀b∈fp,WP X Z9 H b)(l:∀b∈fp,∃o,s.heap.get? b=lm o/\∀v,o.data≠.cell v):Inv X (Z9++Vd fp s.heap) σ H s:=
 I.pins_of λp hp=>(aI.mp hp).elim (λz=>I.pin p (aH _ z)) λz=>by obtain⟨hb,e⟩:=Gt z;obtain⟨f0,f1,f2,_⟩:=h p.1 hb;obtain⟨o,a,d⟩:=l p.1 hb;rw[e]at a;cases a;exact⟨e,f0,f1,f2,d⟩
theorem Inv.unpinned{pl:Pns}(I:Inv X (Z9++pl) σ H s):Inv X Z9 σ H s:=I.pins_of λp hp=>I.pin p (aH _ (bu _ hp))
set_option tactic.hygienic true in
theorem qhV{iter:Z4}{wi:TI}{g:TG}{pos:Pos}(hp:PassesOwn 'c' X.A X.env X.xe)(R:X.calm=lv)(hi:PI X tg iter wi)(hg:PG X tg g)(hb:PSs X body tb)(hs:∀x,mq iter X.env x=pure x:=by intro _;rfl):PS X (.For tg iter body [] pos) (qma wi g tb):=by
 refine⟨?_⟩;intro Z9 s σ H D I h;refine wpAny_For (thn (hi Z9 s σ H _ I h) λv s1 h1=>thn h1 λitv s2 h2=>?_) hs;obtain⟨it,fp,tn,J,H2,e,I2,T,L,f2,W,⟨m0,w0⟩,y⟩:=h2;subst e;have t:∀{H':Hp},(∀b∈fp,H' b=lr)->∀b∈fp,WP X Z9 H' b:=λhn b hb=>⟨hn b hb,(f2 b hb).2⟩
 refine codeAny_forLoop_any (λn s'=>∃i σ' H',Inv X Z9 σ' H' s'/\tn i s'.heap/\(∀b∈fp,H' b=lr)/\W i n σ' H') ?_ m0 ⟨0,σ,H2,I2,L,λb hb=>(f2 b hb).1,w0⟩;rintro n s3 ⟨i,c,G,S,B,E,F⟩;rcases y i n c G F with⟨stop,qn⟩|⟨go,N,hN,step⟩
 .refine mn hp (thn (T.done X rfl rfl rfl R i Z9 s3 c G X.xe S (t E) B stop) λr s4 z=>?_);obtain⟨O,I4⟩:=z;subst O;exact nG ⟨c,G,I4,qn⟩
 .refine mn hp (thn (T.item X rfl rfl rfl R i Z9 s3 c G X.xe S (t E) B go) λr s4 z=>?_);obtain⟨u,O,h4⟩:=z;subst O;refine mn hp (thn h4 λ_ s5 z=>?_);obtain⟨x,U,I5,r5,V,p,P⟩:=z;have Q:=I5.pinned (t P) (T.obj _ _ p);refine mn hp (thn (hg _ s5 c U x u _ Q r5 (step x U V)) λ_ s6 z=>?_);obtain⟨K,H6,I6,q6⟩:=z;refine mn hp (thn (hb _ s6 K H6 _ I6 q6) λf M q=>?_);have j:∀{a:St}{l:Hp},Inv X (Z9++Vd fp s5.heap) a l M->N a l->∃m,m<n/\∃i σ' H',Inv X Z9 σ' H' M/\tn i M.heap/\(∀b∈fp,H' b=lr)/\W i m σ' H':=λ{a l} k C=>by obtain⟨m',hm,Z⟩:=hN a l C;refine⟨m',hm,i+1,a,l,k.unpinned,T.keep _ _ _ p λb hb o e=>(k.pin (b,o) (aH _ (aH _ (uu hb e)))).1,λb hb=>?_,Z⟩;obtain⟨o,e,d⟩:=T.obj _ _ p b hb;exact(k.pin (b,o) (aH _ (aH _ (uu hb e)))).2.1
  cases f with
  |next=>obtain⟨a,l,k,C⟩:=q;exact j k C
  |cont=>obtain⟨a,l,k,C⟩:=q;exact j k C
  |brk=>obtain⟨a,l,k,q⟩:=q;exact⟨a,l,k.unpinned,q⟩
  |ret v=>obtain⟨Y,a,l,k,r7,q⟩:=q;exact⟨Y,a,l,k.unpinned,r7,q⟩
end
abbrev R2:=V->V->Hp->VK->Prop
def OpR(X:Cx)(f:lu->lu->Sem lu)(r:R2):Prop:=
 ∀(Z9:Pns)(s:lx)(σ:St)(H:Hp)(x y:V)(v u:lu)(Q:VK),Inv X Z9 σ H s->RelV x v->RelV y u->r x y H Q ->lA 'c' X.A (f v u) (EP X Z9 σ Q) X.xe s
def UnR(X:Cx)(f:lu->Sem lu)(r:V->Hp->VK->Prop):Prop:=
 ∀(Z9:Pns)(s:lx)(σ:St)(H:Hp)(x:V)(v:lu)(Q:VK),Inv X Z9 σ H s->RelV x v->r x H Q ->lA 'c' X.A (f v) (EP X Z9 σ Q) X.xe s
def vR(X:Cx)(f:lu)(r:List V->Hp->VK->Prop):Prop:=
 ∀(Z9:Pns)(s:lx)(σ:St)(H:Hp)(xs:List V)(us:List lu)(Q:VK),Inv X Z9 σ H s->Vals xs us->r xs H Q ->lA 'c' X.A (call f us) (EP X Z9 σ Q) X.xe s
def qmb(X:Cx)(r:V->Hp->(Bool->Hp->Prop)->Prop):Prop:=
 ∀(Z9:Pns)(s:lx)(σ:St)(H:Hp)(x:V)(v:lu)(Q:Bool->Hp->Prop),Inv X Z9 σ H s->RelV x v->r x H Q ->lA 'c' X.A (truthy v) (TP X Z9 σ Q) X.xe s
def tOp(r:R2)(ta tb:TE):TE:=λσ H Q=>ta σ H λx H1=>tb σ H1 λy H2=>r x y H2 Q
def tUn(r:V->Hp->VK->Prop)(ta:TE):TE:=λσ H Q=>ta σ H λx H1=>r x H1 Q
def rI(C:Int->Int->Prop)(g:Int->Int->V):R2:=λx y H Q=>∃i j,x=.int i/\y=.int j/\C i j/\Q (g i j) H
def rI0(g:Int->Int->V):R2:=λx y H Q=>∃i j,x=.int i/\y=.int j/\Q (g i j) H
def rU(g:Int->V):V->Hp->VK->Prop:=λx H Q=>∃i,x=.int i/\Q (g i) H
variable{r:R2}
section
variable{a b:Z4}{tb tc:TE}
theorem qkj(i:PE X a ta)(hb:PE X b tb){R:V->V->Hp->Prop}(I:Inv X Z9 σ H s)(h:ta σ H λx H1=>tb σ H1 λy H2=>R x y H2){Q:lu->lx->Prop}{f:lu->lu->Sem lu}(g:∀v u s2 x y H2,Inv X Z9 σ H2 s2->RelV x v->RelV y u->R x y H2->lA 'c' X.A (f v u) Q X.xe s2) :
  lA 'c' X.A (Z0 a X.env) (λv d=>lA 'c' X.A (Z0 b X.env) (λu c=>lA 'c' X.A (f v u) Q X.xe c) X.xe d) X.xe s:=by
 refine thn (i Z9 s σ H _ I h) λv s1 z=>?_;obtain⟨x,H1,k,r1,q⟩:=z;refine thn (hb Z9 s1 σ H1 _ k q) λu s2 z=>?_;obtain⟨y,H2,j,r2,e⟩:=z;exact g v u s2 x y H2 j r1 r2 e
theorem qkk{op:Operator}(l:OpR X (mf op) r)(f:PE X a ta)(hb:PE X b tb):PE X (.BinOp a op b pos) (tOp r ta tb):=by refine⟨?_⟩;intro Z9 s σ H Q I h;exact wpAny_BinOp (qkj f hb I h λv u s2 x y H2 e d c q=>l Z9 s2 σ H2 x y v u Q e d c q)
theorem qkl{op:UnaryOp}{r:V->Hp->VK->Prop}(l:UnR X (unaryOp op) r)(f:PE X a ta):PE X (.UnaryOp op a pos) (tUn r ta):=by refine⟨?_⟩;intro Z9 s σ H Q I h;exact UnaryOp_ (thn (f Z9 s σ H _ I h) λv s1 ⟨x,H1,d,r1,q⟩=>l Z9 s1 σ H1 x v Q d r1 q)
theorem opI{f:lu->lu->Sem lu}{C:Int->Int->Prop}{g:Int->Int->Int}(r:∀(i j:Int)(t u:Tok)(s:lx)(Q:lu->lx->Prop)(E:lu->lx->Prop),C i j->Q (.int (g i j) s.toks) { s with toks:=s.toks+1 }->lA 'c' X.A (f (.int i t) (.int j u)) Q E s) :
  OpR X f (rI C λi j=>.int (g i j)):=by
 intro Z9 s σ H x y v u Q I d c h;obtain⟨i,j,rfl,rfl,a,q⟩:=h;obtain⟨t,rfl⟩:=d;obtain⟨t',rfl⟩:=c;exact r i j t t' s _ _ a ⟨.int (g i j),H,I.tok _,⟨_,rfl⟩,q⟩
theorem qlA{f:lu->lu->Sem lu}{g:Int->Int->Int}(r:∀(i j:Int)(t u:Tok)(s:lx)(Q:lu->lx->Prop)(E:lu->lx->Prop),Q (.int (g i j) s.toks) { s with toks:=s.toks+1 }->lA 'c' X.A (f (.int i t) (.int j u)) Q E s) :
  OpR X f (rI0 λi j=>.int (g i j)):=by
 intro Z9 s σ H x y v u Q I d c h;obtain⟨i,j,rfl,rfl,q⟩:=h;obtain⟨t,rfl⟩:=d;obtain⟨t',rfl⟩:=c;exact r i j t t' s _ _ ⟨.int (g i j),H,I.tok _,⟨_,rfl⟩,q⟩
theorem qkm{f:lu->lu->Sem lu}{g:Int->Int->Bool}(r:∀(i j:Int)(t u:Tok)(s:lx)(Q:lu->lx->Prop)(E:lu->lx->Prop),Q (.bool (g i j)) s->lA 'c' X.A (f (.int i t) (.int j u)) Q E s) :
  OpR X f (rI0 λi j=>.bl (g i j)):=by
 intro Z9 s σ H x y v u Q I d c h;obtain⟨i,j,rfl,rfl,q⟩:=h;obtain⟨t,rfl⟩:=d;obtain⟨t',rfl⟩:=c;exact r i j t t' s _ _ ⟨.bl (g i j),H,I,rfl,q⟩
def qmc(i j:Int):Prop:=0<j/\j<1073741824
def CMul(i j:Int):Prop:=(-(2 ^ 64)<i/\i<2 ^ 64)\/(-(2 ^ 64)<j/\j<2 ^ 64)
theorem CMul.ok{i j:Int}(h:CMul i j):IntMulOk i j:=by
 rcases h with⟨h1,h2⟩|⟨h1,h2⟩
 .exact .of_left (intBits_le_64 h1 h2)
 .exact .of_right (intBits_le_64 h1 h2)
theorem qhW:OpR X (mf .Add) (rI0 λi j=>.int (i+j)):=qlA λ_ _ _ _ _ _ _ q=>add_int q
theorem qhX:OpR X (mf .Sub) (rI0 λi j=>.int (i - j)):=qlA λ_ _ _ _ _ _ _ q=>sub_int q
theorem qhY:OpR X (mf .Mult) (rI CMul λi j=>.int (i * j)):=opI λ_ _ _ _ _ _ _ d q=>mul_int q d.ok
theorem qhZ:OpR X (mf .Mod) (rI (λ_ j=>0<j) λi j=>.int (i % j)):=opI λi j _ _ _ _ _ d q=>by have h1:(0:Int)<j:=d;exact mod_int' 'b' (by rw[Int.fmod_eq_emod_of_nonneg i 'b'];exact q)
theorem unI{f:lu->Sem lu}{g:Int->Int}(r:∀(i:Int)(t:Tok)(s:lx)(Q:lu->lx->Prop)(E:lu->lx->Prop),Q (.int (g i) s.toks) { s with toks:=s.toks+1 }->lA 'c' X.A (f (.int i t)) Q E s) :
  UnR X f (rU λi=>.int (g i)):=by
 intro Z9 s σ H x v Q I d h;obtain⟨i,rfl,q⟩:=h;obtain⟨t,rfl⟩:=d;exact r i t s _ _ ⟨.int (g i),H,I.tok _,⟨_,rfl⟩,q⟩
theorem qh0:UnR X (unaryOp .USub) (rU λi=>.int (-i)):=unI λ_ _ _ _ _ q=>neg_int q
end
variable{op op':CmpOp}{r':R2}
section
variable{a b:Z4}{tb tc:TE}
theorem Gu{Q:VK}{k k':Bool}(I:Inv X Z9 σ H s)(q:Q (.bl k) H)(e:k=k'):EP X Z9 σ Q (.bool k') s:=by subst e;exact⟨.bl k,H,I,rfl,q⟩
theorem qkn:OpR X (lI .Lt) (rI0 λi j=>.bl (decide (i<j))):=qkm λ_ _ _ _ _ _ _ q=>lt_int q
theorem qko:OpR X (lI .LtE) (rI0 λi j=>.bl (decide (i<=j))):=qkm λ_ _ _ _ _ _ _ q=>le_int q
theorem qkp:OpR X (lI .GtE) (rI0 λi j=>.bl (decide (j<=i))):=qkm λ_ _ _ _ _ _ _ q=>ge_int q
theorem Gv:OpR X (lI .Lt) (λx y H Q=>∃i j,x=.str i/\y=.str j/\Q (.bl (decide (i.cps.toList<j.cps.toList))) H):=by intro Z9 s σ H x y v u Q I d c h;obtain⟨i,j,rfl,rfl,q⟩:=h;obtain⟨t,rfl⟩:=d;obtain⟨t',rfl⟩:=c;exact lt_str (Gu I q rfl)
theorem qe5:OpR X (lI .IsNot) (λx y H Q=>y=.non/\Q (.bl (!decide (x=.non))) H):=by
 intro Z9 s σ H x y v u Q I d c h;obtain⟨rfl,q⟩:=h;cases c;refine isnot_none_gen (Gu I q ?_);cases x <;> first
  |(cases d;rfl)
  |(obtain⟨t,rfl⟩:=d;rfl)
theorem qef(b:Z4)(h:op≠.In:=by decide)(h2:op≠.NotIn:=by decide):mS op b=false:=by
 have e1:(op == CmpOp.In)=false:=by cases op <;> first|rfl|exact absurd rfl h
 have i:(op == CmpOp.NotIn)=false:=by cases op <;> first|rfl|exact absurd rfl h2
 cases b <;> simp[mS,e1,i]
theorem qe6(l:OpR X (lI op) r)(f:PE X a ta)(hb:PE X b tb)(m:mS op b=lw):PE X (.Compare a [op] [b] pos) (tOp r ta tb):=by refine⟨?_⟩;intro Z9 s σ H Q I h;exact wpAny_Compare1 (qkj f hb I h λv u s2 x y H2 e d c q=>l Z9 s2 σ H2 x y v u Q e d c q) m
def qh1(t:TE):TT:=λσ H Q=>t σ H λx H'=>∃k,x=.bl k/\Q k H'
theorem qe7(l:OpR X (lI op) r)(g:PE X a ta)(hb:PE X b tb)(m:mS op b=lw):PT X (.Compare a [op] [b] pos) (qh1 (tOp r ta tb)):=by
 refine⟨?_⟩;intro Z9 s σ H Q I h;refine wpAny_isTrue_Compare1 (thn (g Z9 s σ H _ I h) λv s1 ⟨x,H1,n,r1,f⟩=>thn (hb Z9 s1 σ H1 _ n f) λu s2 ⟨y,H2,j,r2,d⟩=>
  thn (l Z9 s2 σ H2 x y v u _ j r1 r2 d) λc s3 ⟨z,o,i,r3,k,e,q⟩=>?_) m
 subst e;cases r3;exact lZ ⟨o,i,q⟩
def Gw(r r':R2)(ta tb tc:TE):TE:=λσ H Q=>ta σ H λx H1=>tb σ H1 λy H2=>r x y H2 λz d=>∃k,z=.bl k /\
 (if k=lv then tc σ d λR a=>r' y R a Q else Q (.bl lw) d)
theorem qcB(o:OpR X (lI op) r)(f:OpR X (lI op') r')(w:PE X a ta)(hb:PE X b tb)(t:PE X c tc)(p:lastMarks [op,op'] [b,c]=false:=by with_unfolding_all rfl):PE X (.Compare a [op,op'] [b,c] pos) (Gw r r' ta tb tc):=by
 refine⟨?_⟩;intro Z9 s σ H Q I h;refine Compare_chain (thn (w Z9 s σ H _ I h) λv s1 ⟨x,H1,C,r1,n⟩=>chain_link (thn (hb Z9 s1 σ H1 _ C n) λu s2 ⟨y,H2,B,r2,m⟩=>
  thn (o Z9 s2 σ H2 x y v u _ B r1 r2 m) λd s3 ⟨z,i,g,r3,k,e,q⟩=>?_)) p
 subst e;cases r3;refine lZ ?_;cases k with
 |false=>exact ite_ff ⟨.bl lw,i,g,rfl,q⟩
 |true=>exact ite_tt (chain_last (thn (t Z9 s3 σ i _ g q) λR s4 ⟨j,D,A,r4,l⟩=>f Z9 s4 σ D y j u R Q A r2 r4 l))
theorem qcC(w:OpR X (lI op) r)(f:OpR X (lI op') r')(C:PE X a ta)(hb:PE X b tb)(B:PE X c tc)(A:lastMarks [op,op'] [b,c]=false:=by with_unfolding_all rfl):PT X (.Compare a [op,op'] [b,c] pos) (qh1 (Gw r r' ta tb tc)):=by
 refine⟨?_⟩;intro Z9 s σ H Q I h;refine isTrue_chain (thn (C Z9 s σ H _ I h) λv s1 ⟨x,H1,L,r1,p⟩=>test_link (thn (hb Z9 s1 σ H1 _ L p) λu s2 ⟨y,H2,K,r2,o⟩=>
  thn (w Z9 s2 σ H2 x y v u _ K r1 r2 o) λd s3 ⟨z,i,g,r3,k,e,q⟩=>?_)) A
 subst e;cases r3;refine lZ ?_;cases k with
 |false=>obtain⟨k',E,t⟩:=q;cases E;exact ite_ff ⟨i,g,t⟩
 |true=>refine ite_tt (test_last (thn (B Z9 s3 σ i _ g q) λR s4 ⟨l,M,J,r4,n⟩=>thn (f Z9 s4 σ M y l u R _ J r2 r4 n) λd' s5 j=>?_));obtain⟨N,U,G,r5,k2,D,m⟩:=j;subst D;cases r5;exact lZ ⟨U,G,m⟩
def qkq(K:Y9)(x:V)(H:Hp)(k:Bool):Prop:=
 match x with
 |.non=>k=lw
 |.bl b=>k=b
 |.int i=>k=(i != 0)
 |.str y=>y.length<=Z8/\k=((y.length:Int) != 0)
 |.byt y=>y.size<=Z8/\k=((y.size:Int) != 0)
 |.ref p=>(∃xs,SqL K H p xs/\k=!xs.isEmpty)\/(∃xs,SqT K H p xs/\k=!xs.isEmpty)\/∃kvs,H p=lm (.dK kvs)/\k=!kvs.isEmpty
 |_=>False
theorem Zd{κ:Type}{kvs:List (κ×V)}{vs:List (κ×lu)}(r:KV kvs vs):(!vs.isEmpty)=!kvs.isEmpty:=by cases r <;> rfl
theorem QP{its:List lu}(r:Vals xs its):(!its.toArray.isEmpty)=!xs.isEmpty:=by cases r <;> simp
theorem Ve:(Z8:Nat)<2 ^ 63:=by rw[lE];decide
theorem qh2:qmb X (λx H Q=>∃k,qkq X.K x H k/\Q k H):=by
 intro Z9 s σ H x v Q I d h;obtain⟨k,e,q⟩:=h;have hl:=Ve;have hs:Z8=16777216:=lE;cases x with
 |non=>cases d;have a:k=false:=e;subst a;exact truthy_none ⟨H,I,q⟩
 |bl b=>cases d;have a:k=b:=e;subst a;exact lZ ⟨H,I,q⟩
 |int i=>obtain⟨t,rfl⟩:=d;have a:k=(i != 0):=e;subst a;exact PySem.P.truthy_int ⟨H,I,q⟩
 |str y=>obtain⟨t,rfl⟩:=d;obtain⟨hy,a⟩:y.length<=Z8/\k=((y.length:Int) != 0):=e;subst a;exact PySem.P.truthy_str 'b' ⟨H,I.tok _,q⟩
 |byt y=>obtain⟨t,rfl⟩:=d;obtain⟨hy,a⟩:y.size<=Z8/\k=((y.size:Int) != 0):=e;subst a;exact PySem.W.truthy_bytes 'b' ⟨H,I.tok _,q⟩
 |ref p=>
  cases d;have a:(∃xs,SqL X.K H p xs/\k=!xs.isEmpty)\/(∃xs,SqT X.K H p xs/\k=!xs.isEmpty)\/∃kvs,H p=lm (.dK kvs)/\k=!kvs.isEmpty:=e;rcases a with⟨xs,hx,a⟩|⟨xs,hx,a⟩|⟨kvs,hx,a⟩
  .subst a;obtain⟨its,r,pl,z⟩:=I.list hx;have n:=r.length;exact wpAny_truthy_list pl.isList (by simp only[au];lia) ⟨H,I.tok _,by rw[QP r];exact q⟩
  .subst a;obtain⟨its,r,pl,z⟩:=I.tuple hx;have n:=r.length;exact truthy_tuple pl (by simp only[au];lia) ⟨H,I.tok _,by rw[QP r];exact q⟩
  .subst a;obtain⟨z,hS,vs,r,m⟩:kvs.length<=Z8/\(p == l9)=lw/\∃vs,KV kvs vs/\s.heap.DictOf (qX X.prog X.w) p vs:=I.hok p _ hx;have n:kvs.length=vs.length:=iP r;exact wpAny_truthy_dict hS m 'b' ⟨H,I.tok _,by rw[Zd r];exact q⟩
 |_=>exact(show False from e).elim
theorem qcD(f:PE X a ta)(he:∀whole,isTrue a X.env whole=(do let v <-whole;oB a.pos;holding [v] (truthy v))):PT X a (λσ H Q=>ta σ H λx H'=>∃k,qkq X.K x H' k/\Q k H'):=by refine⟨?_⟩;intro Z9 s σ H Q I h;exact isTrue_plain (thn (f Z9 s σ H _ I h) λv s1 ⟨x,H1,d,r1,q⟩=>qh2 Z9 s1 σ H1 x v Q d r1 q) (he _)
theorem Ze:OpR X (mf .Add) (λx y H Q=>∃i j,x=.str i/\y=.str j/\i.length+j.length<=Z8/\Q (.str (i++j)) H):=by intro Z9 s σ H x y v u Q I d c h;obtain⟨i,j,rfl,rfl,z,q⟩:=h;obtain⟨t,rfl⟩:=d;obtain⟨t',rfl⟩:=c;exact add_str (λt' tk=>⟨.str (i++j),H,I.tok _,⟨_,rfl⟩,q⟩) z
theorem wl{x:V}(r:Vals [x] us):∃u,us=[u]/\RelV x u:=by
 cases r with
 |cons r1 r2=>cases r2;exact⟨_,rfl,r1⟩
theorem qcE{x:V}(r:Vals [x,y] us):∃u R,us=[u,R]/\RelV x u/\RelV y R:=by
 cases r with
 |cons r1 r2=>
  cases r2 with
  |cons r3 r4=>cases r4;exact⟨_,_,rfl,r1,r3⟩
theorem Gx(d:X.calm=lv):vR X (.builtin "max") (λxs H Q=>∃i j,xs=[.int i,.int j]/\Q (.int (if j > i then j else i)) H):=by
 intro Z9 s σ H xs us Q I r h;obtain⟨i,j,rfl,q⟩:=h;obtain⟨u,R,rfl,⟨t,rfl⟩,⟨t',rfl⟩⟩:=qcE r;refine max_two_ints (I.ok.hd d) λh' tk k=>⟨_,H,I.kept k,?_,q⟩
 by_cases D:j > i;·rw[Aa D,Aa D];exact⟨_,rfl⟩
 .rw[Ab D,Ab D];exact⟨_,rfl⟩
theorem Gy(d:X.calm=lv):vR X (.builtin "min") (λxs H Q=>∃i j,xs=[.int i,.int j]/\Q (.int (if j<i then j else i)) H):=by
 intro Z9 s σ H xs us Q I r h;obtain⟨i,j,rfl,q⟩:=h;obtain⟨u,R,rfl,⟨t,rfl⟩,⟨t',rfl⟩⟩:=qcE r;refine min_two_ints (I.ok.hd d) λh' tk k=>⟨_,H,I.kept k,?_,q⟩
 by_cases D:j<i;·rw[Aa D,Aa D];exact⟨_,rfl⟩
 .rw[Ab D,Ab D];exact⟨_,rfl⟩
theorem Vf:vR X (.type "str") (λxs H Q=>∃i,xs=[.int i]/\i.natAbs.log2<1920/\Q (.str (toString i)) H):=by intro Z9 s σ H xs us Q I r h;obtain⟨i,rfl,z,q⟩:=h;obtain⟨u,rfl,t,rfl⟩:=wl r;exact PySem.P.str_of_int z ⟨.str _,H,I.tok _,⟨_,rfl⟩,q⟩
def qmd(K:Y9)(x:V)(H:Hp)(n:Nat):Prop:=
 match x with
 |.str y=>y.length<=Z8/\n=y.length
 |.byt y=>y.size<=Z8/\n=y.size
 |.ref p=>(∃xs,SqL K H p xs/\n=xs.length)\/∃xs,SqT K H p xs/\n=xs.length
 |_=>False
theorem JH:vR X (.builtin "len") (λxs H Q=>∃x n,xs=[x]/\qmd X.K x H n/\Q (.int n) H):=by
 intro Z9 s σ H xs us Q I r h;obtain⟨x,n,rfl,e,q⟩:=h;obtain⟨u,rfl,d⟩:=wl r;have hl:=Ve;have hs:Z8=16777216:=lE;cases x with
 |str y=>obtain⟨t,rfl⟩:=d;obtain⟨hy,b⟩:y.length<=Z8/\n=y.length:=e;subst b;exact len_str 'b' ⟨.int _,H,I.tok _,⟨_,rfl⟩,q⟩
 |byt y=>obtain⟨t,rfl⟩:=d;obtain⟨hy,b⟩:y.size<=Z8/\n=y.size:=e;subst b;exact PySem.W.len_bytes 'b' ⟨.int _,H,I.tok _,⟨_,rfl⟩,q⟩
 |ref p=>
  cases d;have b:(∃xs,SqL X.K H p xs/\n=xs.length)\/∃xs,SqT X.K H p xs/\n=xs.length:=e;rcases b with⟨xs,hx,b⟩|⟨xs,hx,b⟩
  .subst b;obtain⟨its,r',pl,z⟩:=I.list hx;have a:=r'.length;exact Calls.call_len_list pl.isList (by simp only[au];lia) ⟨.int xs.length,H,I.tok _,⟨_,by simp only[au];rw[a]⟩,q⟩
  .subst b;obtain⟨its,r',pl,z⟩:=I.tuple hx;have a:=r'.length;exact len_tuple pl (by simp only[au];lia) ⟨.int xs.length,H,I.tok _,⟨_,by simp only[au];rw[a]⟩,q⟩
 |_=>exact(show False from e).elim
end
structure ObjM(h:Z5)(x dx C:Z7)(mA:Str->Option lu):Prop where
 obj:h.get? x=lm (cQ C dx)
 ns:h.Ns1 dx mA
 ne:dx≠x
variable{dx:Z7}{mA:Str->Option lu}
set_option tactic.hygienic true in
theorem Gz(n:h.Ns1 dx mA):∃od,h.get? dx=lm od/\∀name,ir name od=lm (mA name):=by
 obtain⟨o,es,ep,l,hd,k,_,c⟩:=n;refine⟨o,l,λname=>?_⟩;have e:=c name;unfold nsFind findBy at e;rw[<-Array.find?_toList]at e;unfold ir;rw[hd];dsimp only;split;·rename_i y q;rw[q]at e;exact congrArg lm e
 .rename_i q;rw[q]at e;have a:es.toList.any (·.refKey)=false:=by rw[List.any_eq_false];intro y B;obtain⟨z,t,b⟩:=k y (Array.mem_toList_iff.mp B);simp[DictEntry.refKey,b]
  have d:¬es.toList.any (·.refKey)=true:=by rw[a];exact bE
  rw[Ab d];exact congrArg lm e
variable{C:Z7}
theorem ObjM.look{x:Z7}(I:ObjM h x dx C mA):∃od,PySem.W.InstAt h x (cQ C dx) C (lm od)/\∀name,ir name od=lm (mA name):=
 let ⟨od,l,hl⟩:=Gz I.ns
 ⟨od,⟨I.obj,rfl,rfl,l⟩,hl⟩
section
variable{prog:lC}{x f:Z7}{name:Str}{v:lu}
theorem qe8{e:Bool}{Q:lu->lx->Prop}(X:K.In s.heap)(I:ObjM s.heap x dx C mA)(hg:eJ K C name=lv)(b:fK K C=lv)(f:bO K (.ref C) name=lm lr)(c:mA name=lm v)(a:PySem.W.handedIn v=lv)(h:Q v { s with toks:=s.toks+1 }) :
  lA 'd' A (getAttr (.ref x) name e) Q E s:=by
 obtain⟨od,J,hl⟩:=I.look;exact PySem.W.get_value X J (im hg).1 (PySem.W.findObj_own b f rfl (by rw[hl,c])) a h
theorem qcF{pl:Sem Bool}{Q:lu×List lu->lx->Prop}(X:K.In s.heap)(I:ObjM s.heap x dx C mA)(hg:eJ K C name=lv)(a:bO K (.ref C) name=lm (lm (.ref f)))(ht:iW K (.ref f)=lv)(c:mA name=lr)(h:Q (.ref f,[.ref x]) s) :
  lA 'd' A (nZ (.ref x) name pl) Q E s:=by
 obtain⟨od,J,hl⟩:=I.look;exact PySem.W.method_fn X J (im hg).1 (im hg).2 a (beq_iff_eq.mp ht) (by show(ir name od).map (·.isSome)=lm lw;rw[hl,c];rfl) h
theorem qe9{ns:List Str}{Q:Unit->lx->Prop}(X:K.In s.heap)(I:ObjM s.heap x dx C mA)(hs:bO K (.ref C) "__setattr__"=lm (lm (.builtin "object.__setattr__")))(hp:iF K C=lv)(ht:iZ K C name=lm lr)(i:fK K C=lv)(hw:k9 mA ns)(hsz:ns.length<=Z8)(h:∀h',ObjM h' x dx C (λy=>if y=name then lm v else mA y)->bh dx s.heap h'->Q () { s with heap:=h',toks:=s.toks+2 }) :
  lA 'd' A (setAttr (.ref x) name v) Q E s:=by
 obtain⟨od,J,hl⟩:=I.look;refine PySem.W.set_plain X J hs (PySem.W.osa_open (s:={ s with toks:=s.toks+1 }) (r:=lr) X J hp ht λb=>?_);obtain⟨cd,j,f⟩:=PySem.W.any_some i;have hx:s.heap.get? x=lm ⟨.ref C,lm dx,.plain,#[]⟩:=I.obj;refine lq (ly (lq (lq (wpAny_loadPart hx (lq (PySem.W.Looks.here (s:={ s with toks:=s.toks+1 }) (PySem.W.looks_clsIn X j) ?_))))));rw[f];refine ly (a:=lm dx) (lq (ly (lq ?_)));refine wpAny_nsSet1 (s:={ s with toks:=s.toks+1 }) I.ns λh' d c=>?_;obtain⟨o,k,l,D,e,g⟩:=d.count (PySem.Within.cons name v hw);refine lq (wpAny_lookBehind D (by rw[e];exact pastItsLine_dict (bn g (by rw[ah];lia))) ?_);exact ly (h _ ⟨(c.2 _ (bj I.ne)).trans I.obj,d,I.ne⟩ c)
theorem qcG{R:oN->lx->Prop}{vs:List lu}{kw:List (Str×lu)}(X:K.In s.heap)(c:ig K C=lv)(hi:bO K (.ref C) "__init__"=lm (lm (.ref f)))(a:PySem.W.typeIn K (.ref f)=lm (.type "function"))
  (h:my 'd' (A.under (.builtin "type.__call__" ⟨.ref C::vs,kw⟩)) (.call (.ref f) ⟨.ref 'q'::vs,kw⟩) (PySem.W.InitBack 'q' R)
   { s with heap:=(s.heap.push ce).push (cQ C s.heap.objs.size) }) :
  my 'd' A (.call (.ref C) ⟨vs,kw⟩) R s:=by
 obtain⟨b,g,d,t,os⟩:=s;exact PySem.W.make_core (PySem.W.makes_of X c) (PySem.W.looks_findIn X hi) (λself=>PySem.W.bind_fn X self a) (.inl rfl) h
end
noncomputable def JI(f:Str)(v:V):List (Str×V)->List (Str×V)
 |[]=>[(f,v)]
 |(g,x)::r=>if g=f then(g,v)::r else(g,x)::JI f v r
theorem zM(f g:Str)(v:V):∀fs:List (Str×V),(JI f v fs).lookup g=if g=f then lm v else fs.lookup g
 |[]=>by
  show cW g [(f,v)]=_;by_cases h:g=f;·have hb:(g == f)=true:=beq_iff_eq.mpr h;simp only[cW,hb,Aa h]
  .have hb:(g == f)=false:=beq_eq_false_iff_ne.mpr h;simp only[cW,hb,Ab h]
 | (k,x)::r=>by
  have j:=zM f g v r;rw[show JI f v ((k,x)::r)=(if k=f then(k,v)::r else(k,x)::JI f v r)from rfl];by_cases a:k=f
  .rw[Aa a];by_cases h:g=k;·have hb:(g == k)=true:=beq_iff_eq.mpr h;simp only[cW,hb,Aa (h.trans a)]
   .have hb:(g == k)=false:=beq_eq_false_iff_ne.mpr h;simp only[cW,hb,Ab (λe:g=f=>h (e.trans a.symm))]
  .rw[Ab a];by_cases h:g=k;·have hb:(g == k)=true:=beq_iff_eq.mpr h;simp only[cW,hb,Ab (λe:g=f=>a (h.symm.trans e))]
   .have hb:(g == k)=false:=beq_eq_false_iff_ne.mpr h;simp only[cW,hb];exact j
theorem zN(f:Str)(v:V):∀fs:List (Str×V),f∈(JI f v fs).map (·.1)/\∀g,g∈fs.map (·.1)->g∈(JI f v fs).map (·.1)
 |[]=>⟨by simp[JI],λg h=>by simp at h⟩
 | (k,x)::r=>by
  obtain⟨i1,i2⟩:=zN f v r;rw[show JI f v ((k,x)::r)=(if k=f then(k,v)::r else(k,x)::JI f v r)from rfl];by_cases a:k=f;·rw[Aa a];subst a;exact⟨by simp,λg h=>by simpa using h⟩
  .rw[Ab a];refine⟨?_,λg h=>?_⟩;·rw[aF];exact ae _ i1
   .rw[aF]at h ⊢;rcases af.mp h with e|e;·exact af.mpr (.inl e)
    .exact ae _ (i2 g e)
theorem zO(f:Str)(v:V):∀fs:List (Str×V),(JI f v fs).length<=fs.length+1
 |[]=>by simp[JI]
 |(k,x)::r=>by
  have j:=zO f v r;rw[show JI f v ((k,x)::r)=(if k=f then(k,v)::r else(k,x)::JI f v r)from rfl];by_cases h:k=f;·rw[Aa h,ah,ah];lia
  .rw[Ab h,ah,ah];lia
theorem RelO.some_of{o:Option lu}(r:RelO (lm v) o):∃u,o=lm u/\RelV v u:=by
 cases o with
 |none=>exact(show False from r).elim
 |some u=>exact⟨u,rfl,r⟩
theorem RelO.none_of{o:Option lu}(r:RelO lr o):o=none:=by
 cases o with
 |none=>rfl
 |some u=>exact(show False from r).elim
theorem GA(r:RelV v u):PySem.W.handedIn u=true:=by
 cases v with
 |non=>cases(show u=bH from r);rfl
 |bl b=>cases(show u=bi b from r);rfl
 |int i=>obtain⟨t,e⟩:=(show ∃t,u=fZ i t from r);cases e;rfl
 |str x=>obtain⟨t,e⟩:=(show ∃t,u=cM x t from r);cases e;rfl
 |byt b=>obtain⟨t,e⟩:=(show ∃t,u=Value.bytes b t from r);cases e;rfl
 |flt b=>obtain⟨t,e⟩:=(show ∃t,u=Value.float b t from r);cases e;rfl
 |ref a=>cases(show u=aR a from r);rfl
 |ty n=>cases(show u=hJ n from r);rfl
section
variable{fs fs':List (Str×V)}
theorem WV(hok:HOk P w H h)(e:H a=lm (.ins C dx fs)):∃mA,ObjM h a dx C mA/\(∀f,RelO (fs.lookup f) (mA f))/\k9 mA (fs.map (·.1))/\fs.length<=1000/\H dx=lm (.own a):=by
 obtain⟨d,z,ne,b,mA,n,r,q⟩:=(show ObjOk P w H h a (.ins C dx fs)from hok a _ e)
 exact⟨mA,⟨b,n,ne⟩,r,q,z,d⟩
end
structure Cls(K:Y9)(C:Z7):Prop where
 pg:eJ K C ba=lv
 hd:fK K C=lv
 po:iF K C=lv
 sa:bO K (.ref C) "__setattr__"=lm (lm (.builtin "object.__setattr__"))
theorem Cls.get(c:Cls K C)(f:Str):eJ K C f=true:=c.pg
def NoAttr(K:Y9)(C:Z7)(f:Str):Prop:=bO K (.ref C) f=lm lr
variable{f:Str}
theorem NoAttr.taker(n:NoAttr K C f):iZ K C f=lm none:=by unfold iZ;rw[show bO K (.ref C) f=lm lr from n];rfl
structure Meth(K:Y9)(C:Z7)(m:Str)(f:Z7):Prop where
 at_:bO K (.ref C) m=lm (lm (.ref f))
 fn:iW K (.ref f)=lv
 kp:nV K (.ref f)=lv
variable{m:Str}
section
variable{fs:List (Str×V)}
theorem Zf{b:Bool}{Q:lu->lx->Prop}(I:Inv X Z9 σ H s)(e:H a=lm (.ins C dx fs))(c:Cls X.K C)(n:NoAttr X.K C f)(l:fs.lookup f=lm v)(h:∀u s',Inv X Z9 σ H s'->RelV v u->Q u s'):lA 'c' A (getAttr (.ref a) f b) Q E s:=by
 obtain⟨mA,O,r,_,_,_⟩:=WV I.hok e;obtain⟨u,d,y⟩:=RelO.some_of (v:=v) (o:=mA f) (by rw[<-l];exact r f);exact qe8 I.kIn O (c.get f) c.hd n d (GA y) (h u _ (I.tok _) y)
theorem QQ{g:Z7}{pl:Sem Bool}{Q:lu×List lu->lx->Prop}(I:Inv X Z9 σ H s)(e:H a=lm (.ins C dx fs))(c:Cls X.K C)(k:Meth X.K C m g)(l:fs.lookup m=lr)(h:Q (.ref g,[.ref a]) s):lA 'c' A (nZ (.ref a) m pl) Q E s:=by
 obtain⟨mA,O,r,_,_,_⟩:=WV I.hok e;have n:mA m=none:=RelO.none_of (by rw[<-l];exact r m);exact qcF I.kIn O (c.get m) k.at_ k.fn n h
theorem Zg{Q:Unit->lx->Prop}(I:Inv X Z9 σ H s)(e:H a=lm (.ins C dx fs))(c:Cls X.K C)(n:NoAttr X.K C f)(hl:fs.length<1000)(i:RelV y u)(h:∀s',Inv X Z9 σ (upd H a (.ins C dx (JI f y fs))) s'->Q () s'):lA 'c' A (setAttr (.ref a) f u) Q E s:=by
 obtain⟨mA,O,r,wi,_,l⟩:=WV I.hok e;have j:(fs.map (·.1)).length<=Z8:=by rw[aq,lE];lia
 refine qe9 I.kIn O c.sa c.po n.taker c.hd wi j λh' d t=>h _ ?_;have hd:∃o,h'.get? dx=lm o:=let ⟨o,_,_,k,_⟩:=d.ns; ⟨o,k⟩
 refine I.write (x:=a) (e:=dx) (by rw[e];exact dO) (.inr l) (λb q hb z=>(t.2 b hb).trans z) hd ?_;refine⟨by rw[qw O.ne];exact l,?_,O.ne,d.obj,_,d.ns,λg=>?_,λg hg=>?_⟩;·have:=zO f y fs;lia
 .show RelO ((JI f y fs).lookup g) (if g=f then lm u else mA g);rw[zM];by_cases q:g=f;·rw[Aa q,Aa q];exact i
  .rw[Ab q,Ab q];exact r g
 .by_cases q:g=f;·rw[q];exact(zN f y fs).1
  .refine(zN f y fs).2 g (wi g λz=>hg ?_);show(if g=f then lm u else mA g)=lr;rw[Ab q];exact z
theorem Inv.made(I:Inv X Z9 σ H s):Inv X Z9 σ (upd (upd H s.heap.objs.size (.own 'q')) 'q' (.ins C s.heap.objs.size []))
  { s with heap:=(s.heap.push ce).push (cQ C s.heap.objs.size) }:=by
 have e1:(s.heap.push ce).get? s.heap.objs.size=lm ce:=ap s.heap rfl;have i:((s.heap.push ce).push (cQ C s.heap.objs.size)).get? 'q'=lm (cQ C s.heap.objs.size):=by have:=ap (s.heap.push ce) (o:=cQ C s.heap.objs.size) rfl;rwa [bP]at this
 have D:(s.heap.push ce).Ns s.heap.objs.size (λ_=>lr):=⟨ce,#[],_,e1,rfl,(λe he=>absurd he 'f'),λ_=>rfl⟩
 have d:=I.laid (a:=s.heap.objs.size) (o:=.own 'q') (h':=s.heap.push ce) (t':=s.toks) (λb u q=>ac _ q) (ao _) ⟨_,e1⟩;refine d.laid (a:=s.heap.objs.size+1) (o:=.ins C s.heap.objs.size []) (t':=s.toks) (λb u q=>ac _ q) (fL (bP _ _)) ?_;have ne:s.heap.objs.size≠s.heap.objs.size+1:=aD (eZ _);refine⟨by rw[qw ne,qm],be _,ne,i,λ_=>lr,(Heap.Ns1.of_empty D).at λo q=>ac _ q,λ_=>dO,λy B=>absurd rfl B⟩
theorem qfa{prog:lC}{w:lD}{env:Env}{f:Str}{pos:Pos}{s:lx}{Q:lu->lx->Prop}(hb:lP e f env (Z0 e env)=Z0 e env)(h:lA 'd' A (Z0 e env) (λo d=>lA 'd' A (getAttr o f lv) Q E d) E s):lA 'd' A (Z0 (.Attribute e f pos) env) Q E s:=
 Attribute_any_ h (by rw[arm_eval_Attribute,hb])
end
def qme(K:Y9)(ta:TE)(f:Str):TE:=λσ H Q=>ta σ H λx H1=>∃a C dx fs v,x=.ref a/\H1 a=lm (.ins C dx fs)/\Cls K C/\NoAttr K C f/\fs.lookup f=lm v/\Q v H1
def qmf(K:Y9)(ta tv:TE)(f:Str):TS:=λD σ H=>tv σ H λy H1=>ta σ H1 λx H2=>∃a C dx fs,x=.ref a/\H2 a=lm (.ins C dx fs)/\Cls K C/\NoAttr K C f/\fs.length<1000 /\
 D.nx σ (upd H2 a (.ins C dx (JI f y fs)))
section
variable{o value:Z4}{tpos:Pos}{tv:TE}
theorem qh3(he:PE X e ta)(hb:lP e f X.env (Z0 e X.env)=Z0 e X.env):PE X (.Attribute e f pos) (qme X.K ta f):=by refine⟨?_⟩;intro Z9 s σ H Q I h;refine qfa hb (thn (he Z9 s σ H _ I h) λu s1 z=>?_);obtain⟨x,H1,i,d,a,C,dx,fs,v,ex,b,c,n,l,q⟩:=z;subst ex;obtain rfl:u=aR a:=d;exact Zf i b c n l λU s2 g y=>⟨v,H1,g,y,q⟩
theorem qh4(g:PE X o ta)(b:PE X value tv)(hs:mm value (lm (.Attribute o f pos')) pos.line X.env=pure lw):PS X (.Assign [.Attribute o f pos'] value pos) (qmf X.K ta tv f):=by refine⟨?_⟩;intro Z9 s σ H D I h;refine plainObj_wpAny_Assign_Attribute (thn (b Z9 s σ H _ I h) λu s1 ⟨y,H1,m,r,q⟩=>thn (g Z9 s1 σ H1 _ m q) λv s2 z=>?_) hs;obtain⟨x,H2,j,d,a,C,dx,fs,ex,i,c,n,l,e⟩:=z;subst ex;obtain rfl:v=aR a:=d;exact Zg j i c n l r λs3 k=>⟨σ,_,k,e⟩
end
structure Room(k:Nat)(A:lG):Prop where
 hd:A.handled=lr
 dp:A.depth+3 * k+5<nO
 un:A.units+16 * k+200<lY
theorem Room.mono{j k:Nat}(r:Room k A)(h:j<=k):Room j A:=⟨r.hd,by have:=r.dp;lia,by have:=r.un;lia⟩
theorem Room.deeper{k:Nat}(r:Room (k+1) A)(env:Env):Room k (A.deeper env):=
 ⟨r.hd,by have:=r.dp;show A.depth+1+3 * k+5<_;lia,by have:=r.un;show A.units+3+16 * k+200<_;lia⟩
variable{kw:List (Str×lu)}
theorem Zh:(A.under (.builtin "type.__call__" ⟨.ref C::us,kw⟩)).depth=A.depth+1:=by first|rfl|simp[lb,Code.weight,Code.isCreation,Code.isGuard,Code.isCaller,Code.frames,lc,guardIds]
theorem Zi:(A.under (.builtin "type.__call__" ⟨.ref C::us,kw⟩)).units=A.units+1:=by first|rfl|simp[lb,Code.cUnits,Code.frames,lc]
theorem Room.make{k:Nat}(r:Room (k+1) A)(C:Z7)(us:List lu)(kw:List (Str×lu)):Room k (A.under (.builtin "type.__call__" ⟨.ref C::us,kw⟩)):=
 ⟨r.hd,by have:=r.dp;rw[Zh];lia,by have:=r.un;rw[Zi];lia⟩
theorem Room.depth{k:Nat}(r:Room k A):A.depth<nO:=by have:=r.dp;lia
theorem Room.units{k:Nat}(r:Room k A):A.units+64<lY:=by have:=r.un;lia
def qh5:TA:=λ_ H Q=>Q [] H
def Zj(ta:TE)(t:TA):TA:=λσ H Q=>ta σ H λx H1=>t σ H1 λxs H2=>Q (x::xs) H2
variable{t:TA}
section
theorem jq:PA X [] qh5:=⟨λ_ _ _ _ H Q I h=>Calls.spliced_nil ⟨[],H,I,.nil,h⟩⟩
theorem qI(f:PE X e te)(c:PA X es t)(hs:lz (e::es) X.env='j'::lz es X.env:=by rfl):PA X (e::es) (Zj te t):=by refine⟨?_⟩;intro pos Z9 s σ H Q I h;rw[hs];show lA _ _ (spliced ('j'::lM pos (lz es X.env))) _ _ s;refine Calls.spliced_cons (thn (f Z9 s σ H _ I h) λu s1 z=>?_);obtain⟨x,H1,d,r1,a⟩:=z;exact thn (c pos Z9 s1 σ H1 _ d a) λus s2 ⟨xs,H2,b,r2,q⟩=>⟨x::xs,H2,b,.cons r1 r2,q⟩
def qmg(t:TA):TE:=λσ H Q=>t σ H λxs H1=>xs.length<=Z8/\∀p,H1 p=lr->Q (.ref p) (upd H1 p (.tup xs))
def qmh(t:TA):TE:=λσ H Q=>t σ H λxs H1=>xs.length<=Z8/\∀p,H1 p=lr->Q (.ref p) (upd H1 p (.lst xs))
theorem qh6{x1}(h:PA X es t):PE X (.Tuple es x1 pos) (qmg t):=by refine⟨?_⟩;intro Z9 s σ H Q I hq;refine wpAny_Tuple_spliced (thn (h pos Z9 s σ H _ I hq) λus s1 ⟨xs,H1,d,r,z,q⟩=>⟨by rw[<-r.length];exact z,?_⟩);have f:H1 s1.heap.objs.size=none:=d.hok.fresh (ao _);refine⟨.ref s1.heap.objs.size,upd H1 s1.heap.objs.size (.tup xs),d.laid (t':=s1.toks) (λb u e=>ac _ e) (ao _) ?_,rfl,q _ f⟩;exact⟨⟨z,_,ap _ rfl,rfl⟩,us,r,⟨_,ap _ rfl,rfl,_,rfl⟩⟩
theorem qh7(h:PA X es t):PE X (.List es pos) (qmh t):=by refine⟨?_⟩;intro Z9 s σ H Q I hq;refine wpAny_List_spliced (thn (h pos Z9 s σ H _ I hq) λus s1 ⟨xs,H1,d,r,z,q⟩=>⟨by rw[<-r.length];exact z,?_⟩);have f:H1 s1.heap.objs.size=none:=d.hok.fresh (ao _);refine⟨.ref s1.heap.objs.size,upd H1 s1.heap.objs.size (.lst xs),d.laid (t':=s1.toks) (λb u e=>ac _ e) (ao _) ?_,rfl,q _ f⟩;exact⟨z,us,0,r,ap _ rfl⟩
end
abbrev Sp:=List V->Hp->VK->XK->Prop
abbrev CXT:=List Env->Hp->lx->XK->lu->lx->Prop
structure Env0(P:lC)(w:lD)(K:Y9)(mg:Str->Option lu)(base:Z5)(A:lG)(outer:List Env)(s:lx)(H:Hp):Prop where
 frames:A.frames=lm outer
 mod:Mod K mg base
 bs:∀b o,base.get? b=lm o->s.heap.get? b=lm o/\H b=lr
 bsz:base.objs.size<=s.heap.objs.size
 funs:s.heap.FunFrames base outer
 frf:∀b∈frs outer,H b=lr
 hok:HOk P w H s.heap
 bare:nK s.gens
def CE(outer:List Env)(P:lC)(w:lD)(H:Hp)(s:lx)(Q:VK)(u:lu)(s':lx):Prop:=
 ∃v H',s'.os=s.os/\nK s'.gens/\Un (frs outer) [] H H' s.heap s'.heap/\HOk P w H' s'.heap/\RelV v u/\Q v H'
def CR(CX:CXT)(outer:List Env)(P:lC)(w:lD)(H:Hp)(s:lx)(Q:VK)(E:XK)(r:oN)(s':lx):Prop:=
 match r with
 |.ok (.ret u)=>CE outer P w H s Q u s'
 |.ok _=>False
 |.error e=>CX outer H s E e s'
structure FnOk(P:lC)(w:lD)(K:Y9)(mg:Str->Option lu)(base:Z5)(CX:CXT)(k:Nat)(f:Z7)(fd:mD)(ps:List Str)(sp:Sp):Prop where
 len:∀vs H Q E,sp vs H Q E->vs.length=ps.length
 run:∀(A:lG)(outer:List Env)(s:lx)(H:Hp)(args:Args)(us:List lu)(vs:List V)(Q:VK)(E:XK),Room k A->Env0 P w K mg base A outer s H->oC s fd args (ps.zip us)->Vals vs us->sp vs H Q E ->my (Z6 P w) A (.call (.ref f) args) (CR CX outer P w H s Q E) s
variable{mg:Str->Option lu}{base:Z5}{CX:CXT}{fd:mD}{ps:List Str}{sp:Sp}
theorem FnOk.imp{k:Nat}{f:Z7}{a:Sp}(F:FnOk P w K mg base CX k f fd ps sp)(h:∀vs H Q E,a vs H Q E->sp vs H Q E):FnOk P w K mg base CX k f fd ps a:=
 ⟨λvs H Q E q=>F.len vs H Q E (h _ _ _ _ q),λA outer s H args us vs Q E r he hb c hs=>F.run A outer s H args us vs Q E r he hb c (h _ _ _ _ hs)⟩
theorem Env0.make{outer:List Env}(e:Env0 P w K mg base A outer s H)(C:Z7)(us:List lu)(kw:List (Str×lu)):Env0 P w K mg base (A.under (.builtin "type.__call__" ⟨.ref C::us,kw⟩)) outer s H:=⟨by first|exact e.frames|(simpa[lb,Code.envs,lc,pushEnvs]using e.frames),e.mod,e.bs,e.bsz,e.funs,e.frf,e.hok,e.bare⟩
section
theorem Inv.env0(I:Inv X Z9 σ H s):Env0 X.prog X.w X.K X.mg X.base X.A X.stack s H:=
 ⟨I.ok.frames,I.ok.mod,I.bs,bn I.ok.bsz I.sz,I.stack,I.stkFree,I.hok,I.bare⟩
theorem Inv.after{Q:VK}(I:Inv X Z9 σ H s)(h:CE X.stack X.prog X.w H s Q u s'):EP X Z9 σ Q u s':=by obtain⟨v,H',os,bare,un,hok,r,q⟩:=h;obtain⟨a,g,d,t,o⟩:=s';obtain rfl:o=s.os:=os;exact⟨v,H',I.call (h':=a) (g':=g) (d':=d) (t':=t) (ch:=[]) un hok bare (λb z=>absurd z 'f'),r,q⟩
end
def qkr(sp:Sp)(dvs:List V)(E:XK)(t:TA):TE:=λσ H Q=>t σ H λvs H1=>sp (vs++dvs) H1 Q E
def qh8(C:Z7)(m:Str)(sp:Sp)(dvs:List V)(E:XK)(ta:TE)(t:TA):TE:=λσ H Q=>ta σ H λx H1=>∃a dx fs,x=.ref a/\H1 a=lm (.ins C dx fs)/\fs.lookup m=lr /\
 t σ H1 λvs H2=>sp (x::(vs++dvs)) H2 Q E
def qks(C:Z7)(sp:Sp)(dvs:List V)(E:XK)(t:TA):TE:=λσ H Q=>t σ H λvs H1=>∀x dx,H1 x=lr->H1 dx=lr->dx≠x ->sp (.ref x::(vs++dvs)) (upd (upd H1 dx (.own x)) x (.ins C dx [])) (λv H2=>v=.non/\Q (.ref x) H2) E
def Binds(K:Y9)(fd:mD)(ps:List Str)(ds:List lu):Prop:=
 ∀(s:lx)(us:List lu),K.In s.heap->(us++ds).length=ps.length->oC s fd ⟨us,[]⟩ (ps.zip (us++ds))
theorem Binds.all(h:∀us:List lu,us.length=ps.length->bindArgs fd ⟨us,[]⟩=pure (ps.zip us)):Binds K fd ps []:=λs us _ hl=>by rw[bw]at hl ⊢;exact .of_eq (h us hl)
def jJ(CX:CXT)(X:Cx)(E:XK):Prop:=∀(Z9:Pns)(σ:St)(H:Hp)(s:lx)(e:lu)(s':lx),Inv X Z9 σ H s->CX X.stack H s E e s'->X.xe e s'
variable{apos:Pos}
section
variable{k:Nat}{f:Z7}{dvs:List V}{ds:List lu}{E:XK}{o:Z4}
set_option tactic.hygienic true in
theorem GB{Z9:Pns}{σ:St}{H:Hp}{s:lx}{Q:VK}{us:List lu}{vs:List V}(F:FnOk X.prog X.w X.K X.mg X.base CX k f fd ps sp)(c:Room k X.A)(hb:Binds X.K fd ps ds)(hd:Vals dvs ds)(hx:jJ CX X E)(I:Inv X Z9 σ H s)(r:Vals vs us)(h:sp (vs++dvs) H Q E):lA 'c' X.A (call (.ref f) us) (EP X Z9 σ Q) X.xe s:=by
 have r2:Vals (vs++dvs) (us++ds):=r.append hd;have hl:(us++ds).length=ps.length:=by rw[<-r2.length];exact F.len _ _ _ _ h
 refine oO (mO (F.run X.A X.stack s H ⟨us,[]⟩ (us++ds) (vs++dvs) Q E c I.env0 (hb s us I.kIn hl) r2 h) λr s' hq=>?_);cases r with
 |error e=>exact hx Z9 σ H s e s' I hq
 |ok fl=>
  cases fl with
  |ret u=>exact I.after hq
  |next=>exact bZ hq
  |brk=>exact bZ hq
  |cont=>exact bZ hq
theorem qfb(F:FnOk X.prog X.w X.K X.mg X.base CX k f fd ps sp)(c:Room k X.A)(hg:Gl X x)(m:X.mg x=lm (.ref f))(a:nV X.K (.ref f)=lv)(hb:Binds X.K fd ps ds)(hd:Vals dvs ds)(hx:jJ CX X E)(g:PA X (e::es) t)(b:Dbg x:=by decide)(he:lz (e::es) X.env='j'::lz es X.env:=by rfl)(l:(lM pos (lz es X.env)).any (·.1)=false:=by rfl) :
  PE X (.Call (.Name x p) (e::es) [] pos) (qkr sp dvs E t):=by
 refine⟨?_⟩;intro Z9 s σ H Q I h;refine mh (yd I hg m ?_ b);refine fF (h₀:=X.base) I.ok.mod.kin a (thn (g pos Z9 s σ H _ I h) λus s1 ⟨vs,H1,d,r,q⟩=>⟨d.kIn,?_⟩) he l;exact GB F c hb hd hx d r q
theorem qfc{pl:Sem Bool}(he:PE X o ta)(c:Cls X.K C)(g:Meth X.K C m f)(F:FnOk X.prog X.w X.K X.mg X.base CX k f fd ps sp)(v:Room k X.A)(hb:Binds X.K fd ps ds)(hd:Vals dvs ds)(hx:jJ CX X E)(y:PA X (e::es) t)(b:lz (e::es) X.env='j'::lz es X.env:=by rfl)(d:(lM pos (lz es X.env)).any (·.1)=false:=by rfl)
  (ht:Z0 (.Call (.Attribute o m apos) (e::es) [] pos) X.env=(do
   let ov <-Z0 o X.env
   oB apos.atName
   let (f,first) <-holding [ov] (nZ ov m pl)
   oR pos f first (lM pos (lz (e::es) X.env)) (mz pos (lT [] X.env))):=by rfl) :
  PE X (.Call (.Attribute o m apos) (e::es) [] pos) (qh8 C m sp dvs E ta t):=by
 refine⟨?_⟩;intro Z9 s σ H Q I h;refine PySem.W.methodCall_KW (pl:=pl) (thn (he Z9 s σ H _ I h) λu s1 z=>?_) ht;obtain⟨x,H1,j,n,a,dx,fs,ex,B,l,q⟩:=z;subst ex;obtain rfl:u=aR a:=n;refine QQ j B c g l ?_;refine fF (first:=[.ref a]) (h₀:=X.base) I.ok.mod.kin g.kp (thn (y pos Z9 s1 σ H1 _ j q) λus s2 ⟨vs,H2,i,r,p⟩=>⟨i.kIn,?_⟩) b d;exact GB (us:=.ref a::us) (vs:=.ref a::vs) F v hb hd hx i (.cons rfl r) p
theorem qcH{pl:Sem Bool}(he:PE X o ta)(c:Cls X.K C)(b:Meth X.K C m f)(F:FnOk X.prog X.w X.K X.mg X.base CX k f fd ps sp)(e:Room k X.A)(hb:Binds X.K fd ps ds)(hd:Vals dvs ds)(hx:jJ CX X E)
  (ht:Z0 (.Call (.Attribute o m apos) [] [] pos) X.env=(do
   let ov <-Z0 o X.env
   oB apos.atName
   let (f,first) <-holding [ov] (nZ ov m pl)
   oR pos f first (lM pos (lz [] X.env)) (mz pos (lT [] X.env))):=by rfl) :
  PE X (.Call (.Attribute o m apos) [] [] pos) (qh8 C m sp dvs E ta qh5):=by
 refine⟨?_⟩;intro Z9 s σ H Q I h;refine PySem.W.methodCall_KW (pl:=pl) (thn (he Z9 s σ H _ I h) λu s1 z=>?_) ht;obtain⟨x,H1,d,r,a,dx,fs,ex,g,l,q⟩:=z;subst ex;obtain rfl:u=aR a:=r;refine QQ d g c b l ?_;exact PySem.W.callWith_K0 (first:=[.ref a]) d.kIn b.kp (GB (us:=[.ref a]) (vs:=[.ref a]) F e hb hd hx d (.cons rfl .nil) q)
structure Mk(K:Y9)(C f:Z7):Prop where
 makes:ig K C=lv
 init:bO K (.ref C) "__init__"=lm (lm (.ref f))
 fn:iW K (.ref f)=lv
 kp:nV K (.ref C)=lv
set_option tactic.hygienic true in
theorem qcI{Z9:Pns}{σ:St}{H:Hp}{s:lx}{Q:VK}{us:List lu}{vs:List V}(M:Mk X.K C f)(F:FnOk X.prog X.w X.K X.mg X.base CX k f fd ps sp)(c:Room (k+1) X.A)(hb:Binds X.K fd ps ds)(hd:Vals dvs ds)(hx:jJ CX X E)(I:Inv X Z9 σ H s)(r:Vals vs us)(h:∀x dx,H x=lr->H dx=lr->dx≠x->sp (.ref x::(vs++dvs)) (upd (upd H dx (.own x)) x (.ins C dx [])) (λv H2=>v=.non/\Q (.ref x) H2) E) :
  lA 'c' X.A (call (.ref C) us) (EP X Z9 σ Q) X.xe s:=by
 have hq:=h 'q' s.heap.objs.size (I.hok.fresh (lg _)) (I.hok.fresh (ao _)) (aD (eZ _));have b:=Inv.made (C:=C) I;have r2:Vals (V.ref 'q'::(vs++dvs)) (aR 'q'::(us++ds)):=.cons rfl (r.append hd);have hl:(aR 'q'::us++ds).length=ps.length:=by have e:=r2.length;rw[F.len _ _ _ _ hq]at e;exact e.symm
 refine oO (qcG (f:=f) I.kIn M.makes M.init (beq_iff_eq.mp M.fn) (mO (F.run _ X.stack _ _ ⟨aR 'q'::us,[]⟩ (aR 'q'::(us++ds)) _ _ E (c.make C us [])
  (b.env0.make C us []) (hb _ (aR 'q'::us) b.kIn hl) r2 hq) λr s' a=>?_))
 cases r with
 |error e=>exact hx Z9 σ _ _ e s' b a
 |ok fl=>
  cases fl with
  |ret u=>obtain⟨v,H',g,d,ev,q⟩:=b.after a;subst ev;exact⟨d,⟨V.ref 'q',H',g,rfl,q⟩⟩
  |next=>exact bZ a
  |brk=>exact bZ a
  |cont=>exact bZ a
theorem qfd(M:Mk X.K C f)(F:FnOk X.prog X.w X.K X.mg X.base CX k f fd ps sp)(c:Room (k+1) X.A)(hg:Gl X x)(m:X.mg x=lm (.ref C))(hb:Binds X.K fd ps ds)(hd:Vals dvs ds)(hx:jJ CX X E)(a:PA X (e::es) t)(b:Dbg x:=by decide)(he:lz (e::es) X.env='j'::lz es X.env:=by rfl)(l:(lM pos (lz es X.env)).any (·.1)=false:=by rfl) :
  PE X (.Call (.Name x p) (e::es) [] pos) (qks C sp dvs E t):=by
 refine⟨?_⟩;intro Z9 s σ H Q I h;refine mh (yd I hg m ?_ b);refine fF (h₀:=X.base) I.ok.mod.kin M.kp (thn (a pos Z9 s σ H _ I h) λus s1 ⟨vs,H1,d,r,q⟩=>⟨d.kIn,?_⟩) he l;exact qcI M F c hb hd hx d r q
end
section
variable{k:Nat}{f:Z7}{ks:List Str}{E:XK}{kpos:Pos}{o:Z4}{kws:List l6}{tk:TA}{nm:Option Str}
variable{g:List lu->List lu->List lu}{gV:List V->List V->List V}
end
structure FnScope(N P:List Str)(sc:mQ):Prop where
 kind:sc.kind=.function
 co:sc.isCoroutine=lw
 gen:sc.isGenerator=lw
 nd:N.Nodup
 pre:N.take P.length=P
 par:∀x∈P,sc.names.lookup x=lm .local\/sc.names.lookup x=lm .cell
 nofree:∀y∈sc.names,y.2≠.free
variable{kindOf:Str->Option mE}
theorem Vg:∀{binds:List (Str×lu)}{m:Str->Option lu},(∀v,(x,v)∉binds)->bindL kindOf binds m x=m x
 |[],_,_=>rfl
 | (n,v)::r,m,h=>by
  unfold bindL;rw[Vg λw hw=>h w (ae _ hw)];split
  .have:x≠n:=by rintro rfl;exact h v aj
   simp[this]
  .rfl
theorem Vh:∀{binds:List (Str×lu)}{m:Str->Option lu},(∀v,(x,v)∉binds)->bindC kindOf binds m x=m x
 |[],_,_=>rfl
 | (n,v)::r,m,h=>by
  unfold bindC;rw[Vh λw hw=>h w (ae _ hw)];split;·rfl
  .have:x≠n:=by rintro rfl;exact h v aj
   simp[this]
theorem zQ{kindOf:Str->Option mE}{x:Str}{v:lu}:∀{P:List Str}{vs:List lu}{i:Nat}{m:Str->Option lu},P.Nodup->P[i]?=lm x->vs[i]?=lm v->kindOf x=lm .local ->bindL kindOf (P.zip vs) m x=lm v
 |[],_,_,_,_,h,_,_=>by simp at h
 |_::_,[],_,_,_,_,h,_=>by simp at h
 |p::P,w::vs,0,m,nd,h1,h2,hk=>by simp at h1 h2;subst h1;subst h2;show bindL kindOf ((p,w)::P.zip vs) m p=_;unfold bindL;rw[Vg λv c=>(aZ.mp nd).1 (fC c).1,Aa hk];simp
 |p::P,w::vs,i+1,m,nd,h1,h2,hk=>by show bindL kindOf ((p,w)::P.zip vs) m x=_;unfold bindL;exact zQ (i:=i) (aZ.mp nd).2 (by simpa using h1) (by simpa using h2) hk
theorem zR{kindOf:Str->Option mE}{x:Str}{v:lu}:∀{P:List Str}{vs:List lu}{i:Nat}{m:Str->Option lu},P.Nodup->P[i]?=lm x->vs[i]?=lm v->kindOf x≠lm .local ->bindC kindOf (P.zip vs) m x=lm v
 |[],_,_,_,_,h,_,_=>by simp at h
 |_::_,[],_,_,_,_,h,_=>by simp at h
 |p::P,w::vs,0,m,nd,h1,h2,hk=>by simp at h1 h2;subst h1;subst h2;show bindC kindOf ((p,w)::P.zip vs) m p=_;unfold bindC;rw[Vh λv c=>(aZ.mp nd).1 (fC c).1,Ab hk];simp
 |p::P,w::vs,i+1,m,nd,h1,h2,hk=>by show bindC kindOf ((p,w)::P.zip vs) m x=_;unfold bindC;exact zR (i:=i) (aZ.mp nd).2 (by simpa using h1) (by simpa using h2) hk
noncomputable def vJ(N:List Str)(vs:List V):St:=vs.map lm++bQ (N.length - vs.length) lr
def qfe(CX:CXT)(P:lC)(w:lD)(K:Y9)(mg:Str->Option lu)(base:Z5)(N:List Str)(qual:Str)(scope:mQ)(f:Z7)(cd:lu)(A:lG)(outer:List Env)(s:lx)(H:Hp)(E:XK):Cx where
 prog:=P
 w:=w
 K:=K
 mg:=mg
 base:=base
 A:=A.deeper (mj qual scope s.heap.objs.size f cd)
 N:=N
 s₀:=s
 H₀:=H
 env:=mj qual scope s.heap.objs.size f cd
 outer:=outer
 stack:=mj qual scope s.heap.objs.size f cd::outer
 ex:=[]
 calm:=lv
 fn:=λ_=>lv
 pn:=[]
 xe:=λe s'=>lA (Z6 P w) (A.deeper (mj qual scope s.heap.objs.size f cd)) (leaving (mj qual scope s.heap.objs.size f cd) e) (λ_ a=>CX outer H s E e a) (λb a=>CX outer H s E b a) s'
theorem zy{sc:mQ}{n:Nat}(h:sc.names.lookup x=lm .cell):∃c,(oE n sc.names []).lookup x=lm c:=by have q:=fM sc.names n [] (.inl h);exact Option.isSome_iff_exists.mp q
theorem GC{CX:CXT}{P:lC}{w:lD}{K:Y9}{mg:Str->Option lu}{base:Z5}{N ps:List Str}{qual:Str}{scope:mQ}{f:Z7}{cd:lu}{A:lG}{outer:List Env}{s s1:lx}{H:Hp}{E:XK}{us:List lu}{vs:List V}(S:FnScope N ps scope)(hd:A.handled=lr)(e0:Env0 P w K mg base A outer s H)(hl:vs.length=ps.length)(r:Vals vs us)(x:InCallC s s.heap.objs.size (bindL (mj qual scope s.heap.objs.size f cd).kindOf (ps.zip us) λ_=>lr) (oE 'q' scope.names []) (bindC (mj qual scope s.heap.objs.size f cd).kindOf (ps.zip us) λ_=>lr) s1) :
  Inv (qfe CX P w K mg base N qual scope f cd A outer s H E) [] (vJ N vs) H s1:=by
 have o:ps.length<=N.length:=by have:=congrArg lh S.pre;rw[bb]at this;lia
 obtain⟨h1,tk,rfl,l⟩:=x.done;have d:∀b:Z7,b∉(qfe CX P w K mg base N qual scope f cd A outer s H E).ex:=λb z=>absurd (show b∈([]:List Z7)from z) 'f';refine⟨⟨e0.mod,S.kind,rfl,rfl,ao _,λy z c h1 h2=>?_,λy B=>?_,λy c _ h=>?_,λ_=>hd,Around.frames_deeper e0.frames,.inr ⟨rfl,rfl⟩,λb z=>absurd z (d b),e0.bs,e0.bsz,λb _ _=>d b,λb z=>absurd z (d b),e0.funs,e0.frf⟩,rfl,e0.bare,Un.kept l,⟨_,x.toInCall.ns,λi y v h1 h2 C=>?_⟩,λy c h=>⟨_,x.cell y c h⟩,e0.hok.fresh (ao _),λy c h=>?_,λp hp=>absurd (show p∈([]:Pns)from hp) 'f',e0.hok.kept l,?_⟩;·exact name_of_addr x.apart (bG h1) (bG h2)
 .have B:scope.names.lookup y=lm .cell\/scope.names.lookup y=lm .free:=B;rcases B with B|B;·exact zy B
  .exact absurd rfl (S.nofree _ (bG B))
 .exact cH (x.above y c (bG h))
 .have hi:i<vs.length:=by
   unfold vJ at h2;by_cases hi:i<vs.length;·exact hi
   .rw[cr (by simpa using hi)]at h2;rw[bN]at h2;split at h2 <;> cases h2
  have t:vs[i]?=lm v:=by
   unfold vJ at h2;rw[db (by simpa using hi),aJ]at h2;cases e:vs[i]? with
   |none=>rw[e]at h2;cases h2
   |some a=>rw[e]at h2;cases h2;rfl
  obtain⟨u,j,m⟩:=r.get t;have hp:ps[i]?=lm y:=by rw[<-S.pre,List.getElem?_take_of_lt 'b'];exact h1
  have g:ps.Nodup:=by rw[<-S.pre];exact S.nd.sublist (iG _ _)
  refine⟨u,m,?_⟩;rcases S.par y (bA hp)with k|k;·exact .inl ⟨k,zQ g hp j k⟩
  .obtain⟨c,e⟩:=zy (n:=s.heap.objs.size+1) k;refine .inr ⟨.inl k,c,e,?_⟩;have q:=x.cell y c e;rw[zR g hp j (by show scope.names.lookup y≠_;rw[k];decide)]at q;exact q
 .exact e0.hok.fresh (cH (x.above y c (bG h)))
 .unfold vJ;show _=N.length;rw[am,aq,d5]
  lia
set_option tactic.hygienic true in
theorem qkt{CX:CXT}{P:lC}{w:lD}{K:Y9}{mg:Str->Option lu}{base:Z5}{k:Nat}{f:Z7}{name qual:Str}{params:Arguments}{body:List Z3}{scope:mQ}{i kV doc pm cdv ct oc:lu}{an od:Option Z7}{osl:Array (Option lu)}{N ps:List Str}{sp:Sp}(j:K.lookup f=lm ⟨oc,od,.func (cU name qual params body scope i kV doc pm an cdv ct),osl⟩)(g:codeIn K cdv qual=lv)(S:FnScope N ps scope)(len:∀vs H Q E,sp vs H Q E->vs.length=ps.length)(a:∀(A:lG)(outer:List Env)(s:lx)(H:Hp)(vs:List V)(Q:VK)(E:XK),Room k (A.deeper (mj qual scope s.heap.objs.size f cdv))->sp vs H Q E ->∃t,PSs (qfe CX P w K mg base N qual scope f cdv A outer s H E) body t/\t { nx:=λ_ H'=>Q .non H',rt:=Q } (vJ N vs) H) :
  FnOk P w K mg base CX (k+1) f (cU name qual params body scope i kV doc pm an cdv ct) ps sp:=by
 refine⟨len,λA outer s H args us vs Q E c e0 hb r p=>?_⟩;have hl:=len _ _ _ _ p;have X:K.In s.heap:=e0.mod.kin.keeps λb o e=>(e0.bs b o e).1;have l:s.heap.NoLimit:=e0.mod.nolimit.keeps λb o e=>(e0.bs b o e).1;have h:∀y∈ps.zip us,scope.names.lookup y.1=lm .local\/(scope.names.lookup y.1=lm .cell/\((oE 'q' scope.names []).lookup y.1).isSome=lv):=λ⟨n,v⟩ B=>by
  rcases S.par n (fC B).1 with q|q;·exact .inl q
  .exact .inr ⟨q,fM _ _ _ (.inl q)⟩
 refine codeAny_call_function c.depth (X _ _ j) rfl S.co S.gen rfl (PySem.W.codeRec_of X g) (hb _ _ _ _ ?_);refine wpAny_newFunctionEnv_cells S.kind h λenv he s1 x=>?_;subst he;refine⟨l.keeps x.toInCall.keep,codeAny_func ?_⟩;obtain⟨t,ht,hq⟩:=a A outer s H vs Q E (c.deeper _) p;have I:Inv (qfe CX P w K mg base N qual scope f cdv A outer s H E) [] (vJ N vs) H s1:=GC S c.hd e0 hl r x;refine lR (ht [] s1 (vJ N vs) H _ I hq) (λfl s' hs=>?_) λe s' hs=>hs;have fin:∀{σ':St}{H':Hp}{v:V}{u:lu},Inv (qfe CX P w K mg base N qual scope f cdv A outer s H E) [] σ' H' s'->RelV v u->Q v H'->CE outer P w H s Q u s':=
  λ{σ' H' v u} J d q=>⟨v,H',J.os,J.bare,J.base,J.hok,d,q⟩
 cases fl with
 |ret u=>obtain⟨v,σ',H',J,d,q⟩:=hs;exact fin J d q
 |next=>obtain⟨σ',H',J,q⟩:=hs;exact fin (v:=V.non) (u:=bH) J rfl q
 |brk=>obtain⟨_,_,_,q⟩:=hs;exact bZ q
 |cont=>obtain⟨_,_,_,q⟩:=hs;exact bZ q
section
variable{id T:String}{r:List V->Hp->VK->Prop}
def tCB(r:List V->Hp->VK->Prop)(t:TA):TE:=λσ H Q=>t σ H λvs H1=>r vs H1 Q
theorem vw(d:vR X (.builtin id) r)(hg:Gl X x)(m:X.mg x=lr)(c:lB x=lm (.builtin id))(f:PA X (e::es) t)(n:x ≠ "__name__":=by decide)(b:Dbg x:=by decide)(he:lz (e::es) X.env='j'::lz es X.env:=by rfl)(l:(lM pos (lz es X.env)).any (·.1)=false:=by rfl):PE X (.Call (.Name x p) (e::es) [] pos) (tCB r t):=by
 refine⟨?_⟩;intro Z9 s σ H Q I h;refine mh (zL I hg m c ?_ n b);exact PyProof.Rows.callWith_builtin1 (thn (f pos Z9 s σ H _ I h) λus s1 ⟨vs,H1,a,r1,q⟩=>d Z9 s1 σ H1 vs us Q a r1 q) he l
theorem vS(d:vR X (.type T) r)(hg:Gl X x)(m:X.mg x=lr)(c:lB x=lm (.type T))(f:PA X (e::es) t)(n:x ≠ "__name__":=by decide)(b:Dbg x:=by decide)(he:lz (e::es) X.env='j'::lz es X.env:=by rfl)(l:(lM pos (lz es X.env)).any (·.1)=false:=by rfl):PE X (.Call (.Name x p) (e::es) [] pos) (tCB r t):=by
 refine⟨?_⟩;intro Z9 s σ H Q I h;refine mh (zL I hg m c ?_ n b);exact cT (thn (f pos Z9 s σ H _ I h) λus s1 ⟨vs,H1,a,r1,q⟩=>d Z9 s1 σ H1 vs us Q a r1 q) he l
end
end L2
namespace HT
open PySem PyProof.Rows
section
open PySem.SeqAt
open PySem.AutoSeq1 (wpAny_loadPart')
open PySem.MeetsSeq PySem.MeetsSeq2 PySem.MeetsSeq3
end
section
variable{prog:lC}{w:lD}{A:lG}{E:lu->lx->Prop}{s:lx}
theorem cat_tup{t b:Z7}{vs ws:List lu}{Q:lu->lx->Prop}(ht:IsTup s.heap t vs.toArray)(hb:IsTup s.heap b ws.toArray)(v:vs≠[])(h1:ws=[]->Q (.ref t) s)(h2:ws≠[]->Q 'k' { s with heap:=s.heap.push { cls:=.type "tuple",data:=.seq (vs++ws).toArray } })(hsz:vs.length+ws.length<=Z8):lA 'd' A (mf .Add (.ref t) (.ref b)) Q E s:=by
 obtain⟨⟨cls,dd,data,sl⟩,l,g,n,hd⟩:=id ht;obtain⟨⟨i,d,f,a⟩,h,c,n2,hd2⟩:=id hb;simp only at g hd c hd2;subst g hd c hd2;have e:vs.toArray++ws.toArray=(vs++ws).toArray:=by simp
 by_cases hw:ws=[]
 .exact om ⟨_,l,rfl⟩ ⟨_,h,rfl⟩ noFill_tuple_add seq_tuple_add fN fI (fq _ _)
   (tuple_addW1 t b vs.toArray ws.toArray n n2 dd d sl a (by simpa using v) (by simp[hw])) ⟨l,h,h1 hw⟩
 .refine om ⟨_,l,rfl⟩ ⟨_,h,rfl⟩ noFill_tuple_add seq_tuple_add fN fI (fq _ _)
   (tuple_addW2 t b vs.toArray ws.toArray n n2 dd d sl a (by simpa using v) (by simpa using hw) (by rw[au,au];exact hsz)) ⟨l,h,?_⟩
  rw[e];exact h2 hw
noncomputable def sIx(n d:Nat):Option Int->Nat
 |none=>d
 |some v=>if v<0 then(v+(n:Int)).toNat else min v.toNat n
theorem sIx_none(n d:Nat):sIx n d lr=d:=rfl
theorem sIx_nat(n d k:Nat):sIx n d (lm (k:Int))=min k n:=by show(if (k:Int)<0 then((k:Int)+(n:Int)).toNat else min (k:Int).toNat n)=min k n;rw[Ab 'b',fO]
theorem slicePart_{v:lu}{o:Option Int}{Q:Option Int->lx->Prop}(p:nz v o)(h:Q o s):lA 'd' A (Builtin.Slice.slicePartIndex v) Q E s:=by
 cases p with
 |none=>exact slicePart_none h
 |int i t=>exact slicePart_int h
end
end HT
namespace L2
open PySem PySem.Spec PyProof.Rows
abbrev TO:=St->Hp->(Option Int->Hp->Prop)->Prop
def PO(X:Cx)(e:Option Z4)(t:TO):Prop:=
 ∀(Z9:Pns)(s:lx)(σ:St)(H:Hp)(Q:Option Int->Hp->Prop),Inv X Z9 σ H s->t σ H Q ->lA 'c' X.A (evalPart e X.env) (λu s'=>∃o H',Inv X Z9 σ H' s'/\nz u o/\Q o H') X.xe s
def qff:TO:=λ_ H Q=>Q lr H
def qku(t:TE):TO:=λσ H Q=>t σ H λx H1=>∃i,x=.int i/\Q (lm i) H1
variable{X:Cx}{e:Z4}{pos:Pos}{xs:List V}{us:List lu}
section
variable{te:TE}{lo hi:Option Z4}{tl th:TO}{p2:Pos}
theorem qfg:PO X lr qff:=by intro Z9 s σ H Q I h;rw[evalPart_none];exact ly ⟨lr,H,I,.none,h⟩
theorem qfh(h:PE X e te):PO X (lm e) (qku te):=by intro Z9 s σ H Q I hw;rw[evalPart_some];refine thn (h Z9 s σ H _ I hw) λu s1 z=>?_;obtain⟨x,H1,d,r1,a⟩:=z;obtain⟨i,rfl,q⟩:=a;obtain⟨t,rfl⟩:=r1;exact⟨lm i,H1,d,.int i t,q⟩
def SlR(X:Cx)(r:V->Option Int->Option Int->Hp->VK->Prop):Prop:=
 ∀(Z9:Pns)(s:lx)(σ:St)(H:Hp)(x:V)(v vl u:lu)(lo hi:Option Int)(sl:Z7)(Q:VK),Inv X Z9 σ H s->RelV x v->s.heap.IsSliceOf sl vl u .none->nz vl lo->nz u hi->r x lo hi H Q ->∃T id,oP (.type T) "__getitem__"=pure (lm (.builtin id))/\s.TypeIs v T/\lA 'c' X.A (oF v (.ref sl)) (EP X Z9 σ Q) X.xe s
def tSl(r:V->Option Int->Option Int->Hp->VK->Prop)(te:TE)(tl th:TO):TE:=λσ H Q=>te σ H λx H1=>tl σ H1 λl H2=>th σ H2 λu d=>r x l u d Q
theorem qcJ{r:V->Option Int->Option Int->Hp->VK->Prop}(j:SlR X r)(he:PE X e te)(hl:PO X lo tl)(i:PO X hi th):PE X (.Subscript e (.Slice lo hi lr p2) pos) (tSl r te tl th):=by refine⟨?_⟩;intro Z9 s σ H Q I h;refine Subscript_ (thn (he Z9 s σ H _ I h) λv s1 z=>?_);obtain⟨x,H1,t,r1,g⟩:=z;refine wpAny_Slice (thn (hl Z9 s1 σ H1 _ t g) λvl s2 ⟨l,H2,o,pl,f⟩=>thn (i Z9 s2 σ H2 _ o f) λa s3 z=>?_);obtain⟨u,d,n,p,c⟩:=z;rw[evalPart_none];refine ly ?_;have m:Inv X Z9 σ d { s3 with heap:=s3.heap.push { cls:=.type "slice",data:=.fields #[vl,a,.none] } }:=n.kept (t':=s3.toks) λb y q=>ac _ q;obtain⟨T,id,k,ht,hg⟩:=j Z9 { s3 with heap:=s3.heap.push { cls:=.type "slice",data:=.fields #[vl,a,.none] } } σ d x v vl a l u s3.heap.objs.size Q m r1 (Heap.IsSliceOf.new ..) pl p c;show lA 'c' X.A (subscriptTail e (.Slice lo hi lr p2) v (.ref s3.heap.objs.size)) (EP X Z9 σ Q) X.xe { s3 with heap:=s3.heap.push { cls:=.type "slice",data:=.fields #[vl,a,.none] } };exact oS (ops:=[.ref s3.heap.objs.size,v]) ht k hg (by with_unfolding_all rfl)
def qfi(xs:List V)(lo hi:Option Int):List V:=(xs.drop (HT.sIx xs.length 0 lo)).take (HT.sIx xs.length xs.length hi - HT.sIx xs.length 0 lo)
theorem WW(xs:List V)(lo hi:Option Int):(qfi xs lo hi).length<=xs.length:=by
 unfold qfi;rw[bb,cm]
 lia
def qkv(K:Y9):R2:=λx y H Q=>∃a b xs ys,x=.ref a/\y=.ref b/\SqT K H a xs/\SqT K H b ys/\xs≠[]/\xs.length+ys.length<=Z8 /\
 (ys=[]->Q (.ref a) H)/\(ys≠[]->∀p,H p=lr->Q (.ref p) (upd H p (.tup (xs++ys))))
theorem Vals.nil_iff(r:Vals xs us):us=[]↔xs=[]:=by
 cases r with
 |nil=>simp
 |cons _ _=>simp
theorem qfj:OpR X (mf .Add) (qkv X.K):=by intro Z9 s σ H x y v u Q I d r h;obtain⟨a,b,xs,ys,rfl,rfl,g,hb,hx,c,f,e⟩:=h;cases d;cases r;obtain⟨its,r1,p1,_⟩:=I.tuple g;obtain⟨i,r2,p2,_⟩:=I.tuple hb;refine HT.cat_tup p1 p2 (λz=>hx (r1.nil_iff.mp z)) (λz=>⟨.ref a,H,I,rfl,f (r2.nil_iff.mp z)⟩) (λz=>?_) (by rw[<-r1.length,<-r2.length];exact c);refine⟨.ref s.heap.objs.size,_,I.laid (t':=s.toks) (o:=.tup (xs++ys)) (λb j q=>ac _ q) (ao _) ?_,rfl,e (λw=>z (r2.nil_iff.mpr w)) _ (I.hok.fresh (ao _))⟩;exact⟨⟨by rw[am];exact c,_,ap _ rfl,rfl⟩,_,r1.append r2,lf _ _⟩
end
noncomputable def ixN(n:Nat)(i:Int):Option Nat:=if 0<=i then(if i<n then lm i.toNat else lr)else if -(n:Int)<=i then lm (i+n).toNat else lr
variable{α:Type}
def atI(xs:List α)(i:Int):Option α:=(ixN xs.length i).bind λj=>xs[j]?
variable{n:Nat}{i:Int}
theorem qfk{j:Nat}(h:ixN n i=lm j):seqIndex? i n=lm j/\j<n/\-(n:Int)<=i/\i<n:=by
 unfold ixN at h;by_cases a:0<=i
 .rw[Aa a]at h;by_cases h1:i<n;·rw[Aa h1]at h;have e:i.toNat=j:=aU.inj h;exact⟨by rw[seqIndex_of a h1,e],by lia,by lia,h1⟩
  .rw[Ab h1]at h;cases h
 .rw[Ab a]at h;by_cases h1:-(n:Int)<=i;·rw[Aa h1]at h;have e:(i+n).toNat=j:=aU.inj h;exact⟨by rw[seqIndex_neg 'b' h1,e],by lia,h1,by lia⟩
  .rw[Ab h1]at h;cases h
theorem WX{xs:List α}{v:α}(h:atI xs i=lm v):∃j,seqIndex? i xs.length=lm j/\xs[j]?=lm v/\j<xs.length/\-(xs.length:Int)<=i/\i<xs.length:=by
 unfold atI at h;cases e:ixN xs.length i with
 |none=>rw[e]at h;cases h
 |some j=>rw[e]at h;obtain⟨h1,h2,g,a⟩:=qfk e;exact⟨j,h1,h,h2,g,a⟩
def WY(b:Z4):Prop:=∀o i,subscripted b lw o i=operate [o,i] (oF o i)
def IxR(X:Cx)(r:R2):Prop:=
 ∀(value e:Z4)(Z9:Pns)(s:lx)(σ:St)(H:Hp)(x y:V)(v u:lu)(Q:VK),Inv X Z9 σ H s->RelV x v->RelV y u->r x y H Q ->subscripted e lw v u=operate [v,u] (oF v u)->lA 'c' X.A (subscriptTail value e v u) (EP X Z9 σ Q) X.xe s
def MtR(X:Cx)(id:String)(r:V->List V->Hp->VK->Prop):Prop:=
 ∀(Z9:Pns)(s:lx)(σ:St)(H:Hp)(x:V)(xs:List V)(v:lu)(us:List lu)(Q:VK),Inv X Z9 σ H s->RelV x v->Vals xs us->r x xs H Q ->lA 'c' X.A (call (.builtin id) (v::us)) (EP X Z9 σ Q) X.xe s
variable{Z9:Pns}{σ:St}{H:Hp}{s:lx}{T:String}{x:V}
section
variable{a b:Z4}{ta tb:TE}
theorem IxR.or{r r':R2}(h:IxR X r)(h':IxR X r'):IxR X (λx y H Q=>r x y H Q\/r' x y H Q):=by
 intro value e Z9 s σ H x y v u Q I d c q hs;rcases q with q|q;·exact h value e Z9 s σ H x y v u Q I d c q hs
 .exact h' value e Z9 s σ H x y v u Q I d c q hs
theorem qkw{r:R2}(e:IxR X r)(f:PE X a ta)(hb:PE X b tb)(hs:WY b):PE X (.Subscript a b pos) (tOp r ta tb):=by refine⟨?_⟩;intro Z9 s σ H Q I h;exact Subscript_ (qkj f hb I h λv u s2 x y H2 g d c q=>e a b Z9 s2 σ H2 x y v u Q g d c q (hs _ _))
def qlB(K:Y9):R2:=λx y H Q=>∃p xs i v,x=.ref p/\y=.int i/\SqL K H p xs/\atI xs i=lm v/\Q v H
def qlC(K:Y9):R2:=λx y H Q=>∃p xs i v,x=.ref p/\y=.int i/\SqT K H p xs/\atI xs i=lm v/\Q v H
def qlD:R2:=λx y H Q=>∃z i c,x=.str z/\y=.int i/\z.length<=Z8/\atI z.cps.toList i=lm c/\Q (.str ⟨#[c]⟩) H
theorem qfl:IxR X (qlB X.K):=by
 intro value e Z9 s σ H x y v u Q I f d h hs;obtain⟨p,xs,i,z,rfl,rfl,hq,he,q⟩:=h;cases f;obtain⟨t,rfl⟩:=d;obtain⟨its,r,pl,l⟩:=I.list hq;obtain⟨j,h1,h2,m,k,g⟩:=WX he;obtain⟨w,c,a⟩:=r.get h2;have hl:=r.length;have n:=Ve;have fin:EP X Z9 σ Q w s:=⟨z,H,I,a,q⟩
 by_cases b:0<=i
 .have D:i.toNat=j:=by rw[seqIndex_of b g]at h1;exact aU.inj h1
  exact item_listR pl.isList b 'b' (by rw[D];simpa using c) fin hs
 .have D:(i+(its.toArray.size:Int)).toNat=j:=by rw[seqIndex_neg 'b' k]at h1;rw[au,<-hl];exact aU.inj h1
  exact subscriptTail_builtinR (x:=w) pl.isList.typeIs slot_list_getitem.lookup
   (wpAny_getItem_list_neg (Q:=λr s'=>r=w/\EP X Z9 σ Q r s') pl.isList 'b' (by rw[au] <;> lia) 'b' (by rw[D];simpa using c) ⟨rfl,fin⟩) hs
theorem qh9:IxR X (qlC X.K):=by
 intro value e Z9 s σ H x y v u Q I d c h hs;obtain⟨p,xs,i,z,rfl,rfl,hq,he,q⟩:=h;cases d;obtain⟨t,rfl⟩:=c;obtain⟨its,r,pl,f⟩:=I.tuple hq;obtain⟨j,h1,h2,l,k,g⟩:=WX he;obtain⟨w,b,a⟩:=r.get h2;have hl:=r.length;have n:=Ve;have fin:EP X Z9 σ Q w s:=⟨z,H,I,a,q⟩
 exact subscriptTail_builtinR (x:=w) pl.typeIs slot_tuple_getitem.lookup
  (getItem_tuple (j:=j) (Q:=λr s'=>r=w/\EP X Z9 σ Q r s') pl 'b' 'b' (by rw[au,<-hl];exact h1) (by simpa using b) ⟨rfl,fin⟩) hs
theorem qia:IxR X qlD:=by
 intro value e Z9 s σ H x y v u Q I d r h hs;obtain⟨z,i,c,rfl,rfl,f,he,q⟩:=h;obtain⟨t,rfl⟩:=d;obtain⟨t',rfl⟩:=r;obtain⟨j,h1,h2,k,a,g⟩:=WX he;have hl:z.cps.toList.length=z.length:=by simp[cD]
 rw[hl]at h1 a g;have n:=Ve;exact oS (nB s z t) slot_str_getitem.lookup (getItem_str (c:=c) (by have e1:decide (i < -(2 ^ 63:Int))=false:=Ac 'b';have b:decide (i ≥ 2 ^ 63)=false:=Ac 'b';rw[e1,b,j7]) (by rw[h1];simpa using h2) ⟨.str ⟨#[c]⟩,H,I.tok _,⟨_,rfl⟩,q⟩) hs
def rIx(K:Y9):R2:=λx y H Q=>qlB K x y H Q\/qlC K x y H Q\/qlD x y H Q
theorem qib:IxR X (rIx X.K):=qfl.or (qh9.or qia)
theorem Vi(lo hi:Option Int)(n:Nat):(mZ lo hi lr n).1=((HT.sIx n 0 lo:Nat):Int)/\(mZ lo hi lr n).2.1=((HT.sIx n n hi:Nat):Int)/\(mZ lo hi lr n).2.2=1:=by
 refine⟨?_,?_,rfl⟩
 .cases lo with
  |none=>simp[mZ,HT.sIx]
  |some i=>
   simp only[mZ,HT.sIx,Option.getD_none,show(1:Int) > 0 by decide,if_true];by_cases h:i<0;·simp only[h,if_true] <;> lia
   .simp only[h,if_false] <;> lia
 .cases hi with
  |none=>simp[mZ,HT.sIx]
  |some i=>
   simp only[mZ,HT.sIx,Option.getD_none,show(1:Int) > 0 by decide,if_true];by_cases h:i<0;·simp only[h,if_true] <;> lia
   .simp only[h,if_false] <;> lia
theorem JJ(its:List lu)(lo hi:Option Int):slicePick its.toArray lo hi lr=((its.drop (HT.sIx its.length 0 lo)).take (HT.sIx its.length its.length hi - HT.sIx its.length 0 lo)).toArray:=by obtain⟨h1,h2,g⟩:=Vi lo hi its.toArray.size;unfold slicePick;rw[h1,h2,g];simp only[sliceRange_one,pick_run,au] <;> rfl
def qmi(K:Y9):V->Option Int->Option Int->Hp->VK->Prop:=λx lo hi H Q=>∃a xs,x=.ref a/\SqL K H a xs/\∀p,H p=lr->Q (.ref p) (upd H p (.lst (qfi xs lo hi)))
theorem qfm:SlR X (qmi X.K):=by intro Z9 s σ H x v vl u lo hi sl Q I d hs pl p h;obtain⟨a,xs,rfl,hx,q⟩:=h;cases d;obtain⟨its,r,ht,z⟩:=I.list hx;have n:=r.length;refine⟨"list",_,slot_list_getitem.lookup,ht.isList.typeIs,?_⟩;refine wpAny_getItem_list_slice ht.isList hs pl p .none 'f' ?_ (by rw[au] <;> lia);rw[JJ,<-n];refine⟨.ref s.heap.objs.size,_,I.laid (t':=s.toks) (o:=.lst (qfi xs lo hi)) (λb c q=>ac _ q) (ao _) ?_,rfl,q _ (I.hok.fresh (ao _))⟩;exact⟨bn (WW xs lo hi) z,_,0,(r.drop (HT.sIx xs.length 0 lo)).take (HT.sIx xs.length xs.length hi - HT.sIx xs.length 0 lo),ap _ rfl⟩
theorem xI:vR X (.type "list") (λxs H Q=>∃p ys,xs=[.ref p]/\(SqL X.K H p ys\/SqT X.K H p ys)/\∀l,H l=lr->Q (.ref l) (upd H l (.lst ys))):=by
 intro Z9 s σ H xs us Q I r h;obtain⟨p,ys,rfl,hq,q⟩:=h;obtain⟨u,rfl,x⟩:=wl r;cases x;have fin:∀(its:List lu),Vals ys its->ys.length<=Z8->∀(h':Z5)(S:Nat),(∀b o',s.heap.get? b=lm o'->h'.get? b=lm o') ->h'.get? s.heap.objs.size=lm { cls:=.type "list",dict:=lr,data:=.seq its.toArray S,slots:=#[] }->EP X Z9 σ Q 'k' { s with heap:=h' }:=λits r' z h' S kp e=>
  ⟨.ref s.heap.objs.size,_,I.laid (t':=s.toks) kp (ao _) (show ObjOk X.prog X.w _ h' _ (.lst ys)from⟨z,its,S,r',e⟩),rfl,q _ (I.hok.fresh (ao _))⟩
 rcases hq with hq|hq;·obtain⟨its,r',pl,z⟩:=I.list hq;have a:=r'.length;obtain⟨o,c,d,n,hd⟩:=pl.isList;exact call_list_seq p (.inl rfl) c d hd (λh' S kp e=>fin its r' z h' S kp e) (by simp only[au] <;> lia)
 .obtain⟨its,r',pl,z⟩:=I.tuple hq;have a:=r'.length;obtain⟨o,c,d,n,hd⟩:=pl;exact call_list_seq p (.inr rfl) c d hd (λh' S kp e=>fin its r' z h' S kp e) (by simp only[au] <;> lia)
theorem yv:vR X (.type "tuple") (λxs H Q=>∃p ys,xs=[.ref p]/\((SqL X.K H p ys/\∀l,H l=lr->Q (.ref l) (upd H l (.tup ys)))\/(SqT X.K H p ys/\Q (.ref p) H))):=by
 intro Z9 s σ H xs us Q I r h;obtain⟨p,ys,rfl,h⟩:=h;obtain⟨u,rfl,x⟩:=wl r;cases x;rcases h with⟨hq,q⟩|⟨hq,q⟩
 .obtain⟨its,r',pl,z⟩:=I.list hq;have n:=r'.length;refine call_tuple_list pl.isList (λh' kp=>?_) (by simp only[au] <;> lia);have d:Inv X Z9 σ H { s with heap:=h' }:=I.kept (t':=s.toks) kp;have a:Inv X Z9 σ (upd H h'.objs.size (.tup ys)) { s with heap:=h'.push { cls:=.type "tuple",data:=.seq its.toArray } }:=
   d.laid (t':=s.toks) (λb o e=>ac _ e) (ao _) (show ObjOk X.prog X.w _ _ _ (.tup ys)from⟨⟨z,_,ap _ rfl,rfl⟩,its,r',lf _ _⟩)
  exact⟨.ref h'.objs.size,_,a,rfl,q _ (d.hok.fresh (ao _))⟩
 .obtain⟨its,r',pl,z⟩:=I.tuple hq;exact call_tuple_same pl ⟨.ref p,H,I,rfl,q⟩
def tyV(K:Y9)(T:String)(x:V)(H:Hp):Prop:=match x with
 |.str _=>T = "str"
 |.int _=>T = "int"
 | .ref p=>(T = "list"/\∃xs,SqL K H p xs)\/(T = "tuple"/\∃o,K.lookup p=lm o/\o.cls=.type "tuple"/\o.dict=lr) \/
   (T = "dict"/\((∃kvs,H p=lm (.dK kvs))\/∃kvs,H p=lm (.dT kvs)))\/(T = "set"/\∃S n,H p=lm (.set S n))
 |_=>False
theorem qic{v:lu}(I:Inv X Z9 σ H s)(r:RelV x v)(ty:tyV X.K T x H):s.TypeIs v T/\∀a,v=.ref a->∃d,s.heap.get? a=lm d/\d.dict=none:=by
 cases x with
 |str z=>obtain⟨t,rfl⟩:=r;cases(show T = "str" from ty);exact⟨nB s z t,λ_ e=>nomatch e⟩
 |int i=>obtain⟨t,rfl⟩:=r;cases(show T = "int" from ty);exact⟨typeIs_int s i t,λ_ e=>nomatch e⟩
 | ref p=>
  cases r;rcases ty with⟨rfl,xs,hq⟩|⟨rfl,o,k,h,hd⟩|⟨rfl,k⟩|⟨rfl,S,n,k⟩
  .obtain⟨its,_,pl,_⟩:=I.list hq;refine⟨pl.isList.typeIs,λa e=>?_⟩;cases e;obtain⟨o,n,e,c,hd,_⟩:=pl;exact⟨o,e,hd⟩
  .refine⟨⟨o,I.kIn p o k,h⟩,λa e=>?_⟩;cases e;exact⟨o,I.kIn _ o k,hd⟩
  .have z:∃o,s.heap.get? p=lm o/\o.ExactDict:=by
    rcases k with⟨kvs,k⟩|⟨kvs,k⟩
    .obtain⟨_,_,_,_,o,_,_,e,ex,_⟩:=I.hok p _ k;exact⟨o,e,ex⟩
    .obtain⟨_,_,_,_,o,_,_,e,ex,_⟩:=I.hok p _ k;exact⟨o,e,ex⟩
   obtain⟨o,e,ex⟩:=z;refine⟨⟨o,e,ex.1⟩,λa b=>?_⟩;cases b;exact⟨o,e,ex.2.1⟩
  .obtain⟨o,_,_,_,e,ex,_⟩:=I.hok p _ k;refine⟨⟨o,e,ex.1⟩,λa b=>?_⟩;cases b;exact⟨o,e,ex.2.1⟩
 |_=>exact bZ ty
def tBM(K:Y9)(T:String)(r:V->List V->Hp->VK->Prop)(to:TE)(t:TA):TE:=λσ H Q=>to σ H λx H1=>tyV K T x H1/\t σ H1 λxs H2=>r x xs H2 Q
variable{o:Z4}{es:List Z4}{to:TE}{t:TA}{name:Str}{apos cpos:Pos}{id:String}{r:V->List V->Hp->VK->Prop}
theorem WZ(pa:PlainAttrs T)(slot:Slot T name id)(y:nP (.builtin id)=pure (.type "method_descriptor"))(m:MtR X id r)(l:PE X o to)(f:PA X (e::es) t)(b:lP o name X.env (Z0 o X.env)=Z0 o X.env:=by rfl)
  (w:((lM cpos (lz (e::es) X.env)).all (λx=>!x.1)&&(mz cpos (lT [] X.env)).all (λx=>x.1.isSome)
   && decide ((e::es).length+([]:List l6).length+(if ([]:List l6).isEmpty then 0 else 1)<30))=true:=by rfl)
  (a:(apos.endLine == cpos.line)=true:=by rfl) (hs:lz (e::es) X.env='j'::lz es X.env:=by rfl) (n:(lM cpos (lz es X.env)).any (·.1)=false:=by rfl) :
  PE X (.Call (.Attribute o name apos) (e::es) [] cpos) (tBM X.K T r to t):=by
 refine⟨?_⟩;intro Z9 s σ H Q I h;refine wpAny_Call_method_late b w a rfl (thn (l Z9 s σ H _ I h) λv s1 z=>?_);obtain⟨x,H1,d,r1,ty,c⟩:=z;obtain⟨h1,h2⟩:=qic d r1 ty;refine⟨T,id,pa,slot,y,h1,h2,?_⟩;have hA:=f cpos Z9 s1 σ H1 _ d c;rw[hs]at hA ⊢;refine dP (by show(lw||(lM cpos (lz es X.env)).any (·.1))=lw;rw[n] <;> rfl) (dw ?_);exact thn hA λus s2 ⟨vs,H2,g,r2,q⟩=>m Z9 s2 σ H2 x vs v us Q g r1 r2 q
end
def MtM(X:Cx)(id:String)(r:V->List V->Hp->VK->Prop):Prop:=
 ∀(Z9:Pns)(s:lx)(σ:St)(H:Hp)(x:V)(xs:List V)(v:lu)(us:List lu)(Q:VK),Inv X Z9 σ H s->RelV x v->Vals xs us->r x xs H Q ->lA 'c' X.A (call (.builtin id) (v::us)) (EP X Z9 σ Q) X.xe s
theorem Vals.one(h:Vals [x] us):∃u,us=[u]/\RelV x u:=by
 cases h with
 |cons r t=>cases t;exact⟨_,rfl,r⟩
section
variable{l b:Z7}{ys zs:List V}
theorem Inv.lset{its its':List lu}{n:Nat}{f:Array lu->Array lu}{t':Nat}(I:Inv X Z9 σ H s)(a:H l=lm (.lst xs))(e:s.heap.get? l=lm { cls:=.type "list",data:=.seq its.toArray n })(h:f its.toArray=its'.toArray)(c:Vals ys its')(z:ys.length<=Z8) :
  Inv X Z9 σ (upd H l (.lst ys)) { s with heap:=s.heap.update l (cR f),toks:=t' }:=by
 have q:=PySem.IsL.update e f;rw[h]at q;refine I.write (x:=l) (e:=l) (by rw[a];exact trivial) (.inl rfl) (λb u hb d=>(bT s.heap (cR f) (bj hb)).trans d) ⟨_,q⟩ ?_;exact⟨z,its',_,c,q⟩
theorem Inv.lnew{its:List lu}{t':Nat}(I:Inv X Z9 σ H s)(c:Vals ys its)(z:ys.length<=Z8):Inv X Z9 σ (upd H s.heap.objs.size (.lst ys)) { s with heap:=s.heap.push { cls:=.type "list",data:=.seq its.toArray },toks:=t' }:=
 I.laid (λ_ _ q=>ac _ q) (ao _) ⟨z,its,0,c,ap _ rfl⟩
theorem Inv.fresh(I:Inv X Z9 σ H s):H s.heap.objs.size=none:=I.hok.fresh (ao _)
theorem Inv.lstM(I:Inv X Z9 σ H s)(a:H l=lm (.lst xs)):xs.length<=Z8/\∃(its:List lu)(n:Nat),Vals xs its/\xs.length=its.length/\s.heap.get? l=lm { cls:=.type "list",data:=.seq its.toArray n }:=by obtain⟨z,its,n,r,e⟩:=I.hok l _ a;exact⟨z,its,n,r,r.length,e⟩
theorem qcK(h:n<=Z8):fy n=false:=by unfold fy;exact Ac 'b'
end
section
def Ua:V->List V->Hp->VK->Prop:=λx vs H Q=>∃l xs y,x=.ref l/\vs=[y]/\H l=lm (.lst xs)/\xs.length<Z8/\Q .non (upd H l (.lst (xs++[y])))
theorem Vj:MtM X "list.append" Ua:=by
 intro Z9 s σ H x vs v us Q I d b h;obtain⟨l,xs,y,rfl,rfl,a,f,q⟩:=h;cases d;obtain⟨u,rfl,c⟩:=b.one;obtain⟨z,its,n,r,hl,e⟩:=I.lstM a;refine mi F.slot_list_append ⟨_,e,rfl⟩ F.entry_list_append (F.args_list_append_2 _ _) (PySem.list_append l its.toArray n u (by rw[au];lia)) ⟨e,?_⟩;refine⟨.non,_,I.lset (its':=its++[u]) a e 'f' (r.append (.cons c .nil)) ?_,rfl,q⟩;rw[am,d6]
 lia
def qfn:V->List V->Hp->VK->Prop:=λx vs H Q=>∃l b xs zs,x=.ref l/\vs=[.ref b]/\H l=lm (.lst xs)/\H b=lm (.lst zs)/\xs.length+zs.length<=Z8/\Q .non (upd H l (.lst (xs++zs)))
theorem GD:MtM X "list.extend" qfn:=by
 intro Z9 s σ H x vs v us Q I d c h;obtain⟨l,b,xs,zs,rfl,rfl,a,B,k,q⟩:=h;cases d;obtain⟨u,rfl,y⟩:=c.one;cases y;obtain⟨z,its,n,r,hl,e⟩:=I.lstM a;obtain⟨N,i,n2,r2,f,j⟩:=I.lstM B;have hsz:its.toArray.size+i.toArray.size<=Z8:=by rw[au,au];lia
 have g:¬(!its.toArray.isEmpty&&fy (its.toArray.size+i.toArray.size))=true:=by rw[qcK hsz,Bool.and_false];exact bE
 refine mi F.slot_list_extend ⟨_,e,rfl⟩ F.entry_list_extend (F.args_list_extend_2 _ _)
  (AutoSeq1.list_extend_list_list_0 l its.toArray n b i.toArray n2 g (by rw[au];lia) 'b') ⟨e,j,?_⟩
 refine⟨.non,_,I.lset (its':=its++i) a e 'f' (r.append r2) ?_,rfl,q⟩;rw[am]
 lia
end
end L2
namespace Att
open PySem PySem.W PySem.Calls PyProof.Rows
theorem zS{P:nM}{h:Z5}:∀(ns:List Int)(vs:List lu),WellAll P h vs (ns.map WData.int)->IntsAre vs ns:=by
 intro ns
 induction ns with
 |nil=>intro vs w;rw[cV]at w;cases w;exact .nil
 |cons n ns j=>
  intro vs w;rw[aF]at w;cases w with
  |cons a b=>cases a;exact .cons _ _ (j _ b)
theorem GE{l:OpenLaw}{n:Nat}(s:l.most=lm n){P:nM}{h:Z5}{args:List WData}{v:List lu}(e:l.row.toRowW.claim.pre args=lv)(i:WellAll P h v args) :
  ∃a vs ns,v=[aR a]/\args=[WData.list (ns.map WData.int)]/\h.get? a=lm { cls:=.type "list",data:=.seq vs.toArray }/\IntsAre vs ns/\ns.length<=n:=by
 have j:WShape.hasAll [] args [.list .int]=true:=(pre_splitW e).1;have k:l.pre.holds [] { args:=args }=true:=(pre_splitW e).2;obtain⟨d,r,rfl,h1,h2⟩:=hasAllW_cons j;obtain rfl:=hasAllW_nil h2;obtain⟨xs,rfl,t⟩:=hasW_list h1;obtain⟨ns,rfl⟩:=items_int t;have b:ns.length<=n:=by
  unfold OpenLaw.pre at k;have f:(WTm.not (.lt (.lit (.int (n:Int))) (.len (.arg 0)))).holds [] { args:=[.list (ns.map .int)] }=true:=by have f:=(holds_andW k).1;rw[s]at f;exact f
  have g:=condW_of f (w_not (w_lt w_lit (w_len_list (w_arg rfl))));rw[aq]at g;refine e7 λq=>?_;have m:(n:Int)<((ns.length:Nat):Int):=by omega
  first
   |(rw[Ad m]at g;exact absurd g 'e')
   |(simp at g;omega)
 cases i with
 |cons p w=>
  cases w;cases p with
  |list o c=>exact⟨_,_,ns,rfl,rfl,o,zS ns _ c,b⟩
theorem GF(l:OpenLaw)(args:List WData):l.row.toRowW.claim.post args (.bool lv) args=true:=
 postW_of (r:=l.row.toRowW) (X:=(lv == lv))
  (show WShape.has [] (.bool lv) .bool=lv by first|rfl|decide|simp[WShape.has,WShape.arms,WShape.armsAll])
  (show(WTm.eq .res (.lit (.bool lv))).value [] { args:=args,res:=lm (.bool lv),after:=args }=lm (.bool (lv == lv))from w_eq_bool (w_res rfl) w_lit) rfl
theorem attach_call{l:OpenLaw}{n:Nat}{q:lC}{loose:List Str}{XP:(Str->Option lu)->Z5->Prop}{YP:lD->Z5->Prop}{d:DefRec}(p:l.most=lm n)(hdf:d.params.defaults=[])(call:∀(w:lD)(s₀ s:lx)(mg mb:Str->Option lu)(fa:Z7)(o:Obj)(pm cd doc:lu)(a:Z7)(vs:List lu)(ns:List Int),Ground q loose [] XP w s₀ mg mb s.heap->YP w s.heap ->s.heap.get? fa=lm o->o.data=.func (docDef d.name d.params d.body d.scope pm cd doc)->s.heap.CodeRec cd d.name->mg d.name=lm (.ref fa) ->s.heap.get? a=lm { cls:=.type "list",data:=.seq vs.toArray }->IntsAre vs ns->ns.length<=n->s.gens=#[] ->my (Z6 l.prog w) oG (.call (.ref fa) ⟨[.ref a],[]⟩) (λr s'=>r=.ok (.ret (.bool lv))/\OldK s.heap s'.heap/\s'.os=s.os/\nK s'.gens) s) :
  WalkO q loose XP YP l.row.toRowW d [] (λf vs=>li f vs):=by
 intro w s₀ s mg mb G Y fa o pm cd doc V kV m hd c D g hg args v as e y k i u;obtain rfl:V=.none:=Dflts.none D hdf;obtain rfl:kV=.none:=Dflts.noKw D;obtain⟨a,vs,ns,rfl,rfl,j,h,b⟩:=GE p e i;refine enter_call (mO (call w s₀ s mg mb fa o pm cd doc a vs ns G Y m (fd_plain hd) c g j h b hg) λr s' hq=>?_);obtain⟨rfl,h2,z,x⟩:=hq;exact⟨.inl ⟨.bool lv,.bool lv,[],rfl,λ_=>rfl,.bool lv,GF l _,λ_=>⟨fP,λ_ t=>(nomatch t)⟩⟩,h2,z,x⟩
end Att
namespace L2
open PySem PySem.Spec PyProof.Rows
theorem Vk:∀{vs:List lu}{ns:List Int},IntsAre vs ns->Vals (ns.map V.int) vs
 |_,_,.nil=>.nil
 |_,_,.cons n t h=>.cons ⟨t,rfl⟩ (Vk h)
def qkx(H:Hp):Prop:=∀b,H b=lr\/∃o xs,H b=lm (.frz o (.lst xs))
set_option tactic.hygienic true in
theorem qcL{P:lC}{w:lD}{K:Y9}{mg mb:Str->Option lu}{CX:CXT}{k:Nat}{fa a:Z7}{fd:mD}{x:Str}{sp:Sp}{c:lx}{vs:List lu}{ns:List Int}(M:K.In c.heap)(y:c.heap.Ns lJ mg)(hb:c.heap.Ns oj mb)(I:∀x:Str,x ≠ "__name__"->mb x=lB x)(A:c.heap.NoLimit)(hg:c.gens=#[])(C:c.heap.get? a=lm { cls:=.type "list",data:=.seq vs.toArray })(hi:IntsAre vs ns)(hl:ns.length<=Z8)(R:Room k oG)(F:∀base:Z5,K.In base->base.Ns lJ mg->FnOk P w K mg base CX k fa fd [x] sp)(j:∀(s:lx)(u:lu),oC s fd ⟨[u],[]⟩ [(x,u)])(E:∀H:Hp,qkx H->SqL K H a (ns.map V.int)->sp [.ref a] H (λv _=>v=.bl lv) λ_ _ _=>False)(X:∀H e s',CX [] H c (λ_ _ _=>False) e s'->False) :
  my (Z6 P w) oG (.call (.ref fa) ⟨[.ref a],[]⟩) (λr s'=>r=.ok (.ret (.bool lv))/\OldK c.heap s'.heap/\s'.os=c.os/\nK s'.gens) c:=by
 have L:=Vk hi;have p:=hi.length;have i:∀H:Hp,qkx H->SqL K H a (ns.map V.int)->HOk P w H c.heap->(∀b,H b≠lr->b=a)->(H a≠lr->K.lookup a=lr) ->my (Z6 P w) oG (.call (.ref fa) ⟨[.ref a],[]⟩) (λr s'=>r=.ok (.ret (.bool lv))/\OldK c.heap s'.heap/\s'.os=c.os/\nK s'.gens) c:=by
  intro H O S hok hA U;have f:∀{b:Z7}{o:Obj},c.heap.get? b=lm o->H b=lr->(qcv c.heap H).get? b=lm o:=λe n=>qcw e n;have D:∀{b:Z7}{o:Obj}{es:Array oz}{ep:Nat},c.heap.get? b=lm o->o.data=.dict es ep->H b=none:=λ{b o es ep} e d=>by
   cases q:H b with
   |none=>rfl
   |some u=>have J:b=a:=hA b (by rw[q];simp);subst J;rw[C]at e;cases e;have d':Data.seq vs.toArray _=Data.dict es ep:=d;cases d'
  have g:∀{b:Z7}{m:Str->Option lu},c.heap.Ns b m->(qcv c.heap H).Ns b m:=λ{b m} ⟨o,es,ep,e,d,r⟩=>⟨o,es,ep,f e (D e d),d,r⟩
  have B:K.In (qcv c.heap H):=λb o e=>f (M b o e) (by
   cases q:H b with
   |none=>rfl
   |some u=>have J:b=a:=hA b (by rw[q];simp);subst J;rw[U (by rw[q];simp)]at e;cases e)
  have T:Mod K mg (qcv c.heap H):=⟨B,g y,⟨mb,g hb,I⟩,let ⟨mc,h1,h2⟩:=A; ⟨mc,g h1,h2⟩⟩
  have e0:Env0 P w K mg (qcv c.heap H) oG [] c H:=⟨rfl,T,λb o e=>qeZ e,fL (Gk _ _),trivial,λb hb=>absurd (show b∈([]:List Z7)from hb) 'f',hok,.of_eq hg⟩
  refine mO ((F _ B (g y)).run oG [] c H ⟨[.ref a],[]⟩ [.ref a] [.ref a] _ _ R e0 (j c (.ref a)) (.cons rfl .nil) (E H O S)) λr s' h=>?_;cases r with
  |error e=>exact(X H e s' h).elim
  | ok fl=>
   cases fl with
   |next=>exact bZ h
   |brk=>exact bZ h
   |cont=>exact bZ h
   | ret u=>
    obtain⟨v,H',os,bare,un,t,r',q⟩:=h;have Q:v=.bl true:=q;subst Q;obtain rfl:u=bi true:=r';refine⟨rfl,OldK.of_keep λb o e=>?_,os,bare⟩;cases q:H b with
    |none=>exact un.keep b o e q (by intro z;exact absurd (show b∈([]:List Z7)from z) 'f') 'f'
    |some u=>
     rcases O b with z|⟨ob,xs,z⟩
     .rw[q]at z;cases z
     .have N:=un.frzs b ob _ z;obtain⟨e1,_⟩:=hok b _ z;obtain⟨W,_⟩:=t b _ N;rw[e]at e1;cases e1;exact W
 cases G:K.lookup a with
 |some o=>have e:=M a o G;rw[C]at e;cases e;refine i (λ_=>lr) (λ_=>.inl rfl) (.inr ⟨_,vs.toArray,_,G,rfl,rfl,rfl,by rw[au,p];exact hl,by simpa using L⟩) (λb u z=>by have l:(lr:Option HO)=lm u:=z;cases l) (λb z=>absurd rfl z) λz=>absurd rfl z
 | none=>
  refine i (λb=>if b=a then lm (.frz { cls:=.type "list",data:=.seq vs.toArray } (.lst (ns.map V.int)))else lr) (λb=>?_) (.inl (.inr ⟨{ cls:=.type "list",data:=.seq vs.toArray },Aa rfl⟩)) (λb u z=>?_) (λb z=>?_) λ_=>G
  .by_cases hb:b=a;·exact .inr ⟨_,_,Aa hb⟩
   .exact .inl (Ab hb)
  .by_cases hb:b=a;·have l:=(Aa hb).symm.trans z;cases l;subst hb;exact⟨C,by rw[aq];exact hl,vs,_,L,C⟩
   .have l:=(Ab hb).symm.trans z;cases l
  .by_cases hb:b=a;·exact hb
   .exact absurd (Ab hb) z
noncomputable def JK(s:Z3)(j:Nat):Z3:=match s with
 |.ClassDef _ _ _ body _ _ _ _ _ _ _=>body.getD j (.Pass ⟨0,0,0,0⟩)
 |_=>.Pass ⟨0,0,0,0⟩
noncomputable def xp(s:Z3):Arguments:=match s with
 |.FunctionDef _ a _ _ _ _ _ _ _ _=>a
 |_=>{ posonlyargs:=[],args:=[],vararg:=lr,kwonlyargs:=[],kw_defaults:=[],kwarg:=lr,defaults:=[] }
noncomputable def jZ(s:Z3):List Z3:=match s with
 |.FunctionDef _ _ b _ _ _ _ _ _ _=>b
 |_=>[]
noncomputable def qB(s:Z3):mQ:=match s with
 |.FunctionDef _ _ _ _ _ _ sc _ _ _=>sc
 |_=>{ kind:=.function,names:=[],isGenerator:=lw,isCoroutine:=lw }
structure Fun(K:Y9)(x qual:Str)(st:Z3)(f:Z7)(fd:mD):Prop where
 ex:∃(oc:lu)(od:Option Z7)(kV doc pm:lu)(an:Option Z7)(cdv ct:lu)(osl:Array (Option lu)),fd=cU x qual (xp st) (jZ st) (qB st) .none kV doc pm an cdv ct/\K.lookup f=lm ⟨oc,od,.func fd,osl⟩/\codeIn K cdv qual=lv
 kp:nV K (.ref f)=lv
variable{P:lC}{w:lD}{K:Y9}{qual:Str}{st:Z3}{f:Z7}
section
variable{mg:Str->Option lu}{base:Z5}
theorem Fun.binds{x:Str}{fd:mD}{ps:List Str}(F:Fun K x qual st f fd)(h:∀(kV doc pm:lu)(an:Option Z7)(cdv ct:lu)(us:List lu),us.length=ps.length->bindArgs (cU x qual (xp st) (jZ st) (qB st) .none kV doc pm an cdv ct) ⟨us,[]⟩=pure (ps.zip us)):Binds K fd ps []:=by
 obtain⟨oc,od,kV,doc,pm,an,cdv,ct,osl,rfl,j,d⟩:=F.ex;exact .all (h kV doc pm an cdv ct)
theorem zT{x:Str}{oc:lu}{od an:Option Z7}{osl:Array (Option lu)}{kV doc pm cdv ct:lu}(l:K.lookup f=lm ⟨oc,od,.func (cU x qual (xp st) (jZ st) (qB st) .none kV doc pm an cdv ct),osl⟩)(c:codeIn K cdv qual=lv)(k:nV K (.ref f)=lv):Fun K x qual st f (cU x qual (xp st) (jZ st) (qB st) .none kV doc pm an cdv ct):=⟨⟨oc,od,kV,doc,pm,an,cdv,ct,osl,rfl,l,c⟩,k⟩
end
def Same(H H':Hp):Prop:=∀b o,H b=lm o->H' b=lm o
theorem Same.refl(H:Hp):Same H H:=λ_ _ h=>h
variable{H:Hp}
theorem Same.trans{H1 H2:Hp}(a:Same H H1)(b:Same H1 H2):Same H H2:=λc o h=>b c o (a c o h)
variable{H':Hp}
theorem Same.free(e:Same H H'){l:Z7}(h:H' l=Option.none):H l=Option.none:=by
 cases q:H l with
 |none=>rfl
 |some o=>rw[e l o q]at h;cases h
variable{a:Z7}
theorem Same.seq{xs:List V}(e:Same H H')(h:SqL K H a xs):SqL K H' a xs:=by
 rcases h with(h|⟨o,h⟩)|h;·exact .inl (.inl (e _ _ h))
 .exact .inl (.inr ⟨o,e _ _ h⟩)
 .exact .inr h
variable{o:Option V}{u:lu}{y:V}
section
variable{κ:Type}[DecidableEq κ]
noncomputable def Zk(kvs:List (κ×V))(k:κ):Option V:=(kvs.find? λkv=>decide (kv.1=k)).map (·.2)
noncomputable def Qw(kvs:List (κ×V))(k:κ)(v:V):List (κ×V):=
 if (kvs.any λkv=>decide (kv.1=k))=lv then kvs.map (λkv=>if kv.1=k then(kv.1,v)else kv)else kvs++[(k,v)]
theorem zz{p:κ×V}{r:List (κ×V)}{k:κ}(e:p.1=k):Zk (p::r) k=lm p.2:=by simp[Zk,dn,e]
theorem zA{p:κ×V}{r:List (κ×V)}{k:κ}(e:¬p.1=k):Zk (p::r) k=Zk r k:=by simp[Zk,dn,e]
theorem JL(k:κ):∀kvs:List (κ×V),(kvs.any λkv=>decide (kv.1=k))=(Zk kvs k).isSome
 |[]=>rfl
 |p::r=>by
  rw[cX];by_cases e:p.1=k;·simp only[zz e,Ad e,Bool.true_or,Option.isSome_some]
  .rw[zA e,Ac e,Bool.false_or];exact JL k r
theorem ye(kvs:List (κ×V))(k:κ)(v:V):(Qw kvs k v).length<=kvs.length+1:=by
 unfold Qw;split;·rw[aq];lia
 .rw[am,ah,bv];lia
theorem RelO.isSome_eq{u:Option lu}(r:RelO o u):o.isSome=u.isSome:=by
 cases o with
 |none=>cases u with
  |none=>rfl
  |some _=>exact(show False from r).elim
 |some _=>cases u with
  |none=>exact(show False from r).elim
  |some _=>rfl
theorem KV.val{kvs:List (κ×V)}{vs:List (κ×lu)}(r:KV kvs vs)(k:κ):RelO (Zk kvs k) (oH vs k):=by
 unfold KV at r
 induction r with
 |nil=>exact dO
 | @cons p q ps qs h t ih=>
  obtain⟨h1,h2⟩:=h;by_cases e:p.1=k
  .have a:q.1=k:=h1.symm.trans e;have b:oH (q::qs) k=lm q.2:=by simp[oH,dn,a]
   rw[zz e,b];exact h2
  .have a:¬q.1=k:=λz=>e (h1.trans z);have b:oH (q::qs) k=oH qs k:=by simp[oH,dn,a]
   rw[zA e,b];exact ih
theorem KV.any{kvs:List (κ×V)}{vs:List (κ×lu)}(r:KV kvs vs)(k:κ):(kvs.any λkv=>decide (kv.1=k))=vs.any λkv=>decide (kv.1=k):=by
 unfold KV at r
 induction r with
 |nil=>rfl
 |cons h t j=>rw[cX,cX,j,h.1]
theorem KV.repl{kvs:List (κ×V)}{vs:List (κ×lu)}(r:KV kvs vs)(k:κ)(c:RelV y u):KV (kvs.map λkv=>if kv.1=k then(kv.1,y)else kv) (vs.map λkv=>if kv.1=k then(kv.1,u)else kv):=by
 unfold KV at r ⊢
 induction r with
 |nil=>exact .nil
 |@cons p q ps qs h t ih=>
  rw[aF,aF];refine .cons ?_ ih;obtain⟨h1,h2⟩:=h;by_cases e:p.1=k;·rw[Aa e,Aa (h1.symm.trans e)];exact⟨h1,c⟩
  .rw[Ab e,Ab (λz=>e (h1.trans z))];exact⟨h1,h2⟩
theorem KV.put{kvs:List (κ×V)}{vs:List (κ×lu)}(r:KV kvs vs)(k:κ)(c:RelV y u):KV (Qw kvs k y) (stored vs k u):=by
 unfold Qw stored;rw[r.any k];by_cases e:(vs.any λkv=>decide (kv.1=k))=lv;·rw[Aa e,Aa e];exact r.repl k c
 .rw[Ab e,Ab e];exact Paired.snoc r ⟨rfl,c⟩
theorem KV.length{kvs:List (κ×V)}{vs:List (κ×lu)}(r:KV kvs vs):kvs.length=vs.length:=iP r
end
theorem GG{k:Key}(r:RelV (kV k) u):(qX P w).is k u=true:=by
 cases k with
 |inl i=>obtain⟨t,e⟩:=(show ∃t,u=fZ i t from r);subst e;exact WS P w i t
 |inr x=>obtain⟨t,e⟩:=(show ∃t,u=cM x t from r);subst e;exact WU P w x t
theorem wR:∀{ks:List Key}{us:List lu},Vals (ks.map kV) us->ItemsAre (qX P w) ks us
 |[],_,r=>by rw[cV]at r;cases r;exact .nil
 |k::ks,_,r=>by
  rw[aF]at r;cases r with
  |cons h t=>exact .cons (GG h) (wR t)
abbrev KT(H:Hp):List (List Key×V)->List (List Key×Z7×lu)->Prop:=oK λp q=>p.1=q.1/\H q.2.1=lm (.tup (p.1.map kV))/\RelV p.2 q.2.2
variable{xs:List (List Key×Z7×lu)}{kvs:List (List Key×V)}
theorem KT.val(r:KT H kvs xs)(k:List Key):RelO (Zk kvs k) ((atKey xs k).map (·.2)):=by
 induction r with
 |nil=>exact dO
 | @cons p q ps qs h t ih=>
  obtain⟨h1,_,h2⟩:=h;by_cases e:p.1=k
  .have a:q.1=k:=h1.symm.trans e;have b:atKey (q::qs) k=lm q.2:=by simp[atKey,dn,a]
   rw[zz e,b];exact h2
  .have a:¬q.1=k:=λz=>e (h1.trans z);have b:atKey (q::qs) k=atKey qs k:=by simp[atKey,dn,a]
   rw[zA e,b];exact ih
theorem KT.repl(r:KT H kvs xs)(k:List Key)(c:RelV y u):KT H (kvs.map λkv=>if kv.1=k then(kv.1,y)else kv) (xs.map (putAt k u)):=by
 induction r with
 |nil=>exact .nil
 |@cons p q ps qs h t ih=>
  rw[aF,aF];refine .cons ?_ ih;obtain⟨h1,h2,g⟩:=h;unfold putAt;by_cases e:p.1=k;·rw[Aa e,Aa (h1.symm.trans e)];exact⟨h1,h2,c⟩
  .rw[Ab e,Ab (λz=>e (h1.trans z))];exact⟨h1,h2,g⟩
theorem KT.put(r:KT H kvs xs)(k:List Key){b:Z7}(hb:H b=lm (.tup (k.map kV)))(c:RelV y u):KT H (Qw kvs k y) (storedH xs k b u):=by
 have e:(kvs.any λkv=>decide (kv.1=k))=(atKey xs k).isSome:=by rw[JL,(r.val k).isSome_eq,iH]
 unfold Qw storedH;rw[e];by_cases q:(atKey xs k).isSome=lv;·rw[Aa q,Aa q];exact r.repl k c
 .rw[Ab q,Ab q];exact Paired.snoc r ⟨rfl,hb,c⟩
theorem KT.keeps(r:KT H kvs xs)(ht:∀b ys,H b=lm (.tup ys)->H' b=lm (.tup ys)):KT H' kvs xs:=
 Paired.mapP r λ_ _ z=>⟨z.1,ht _ _ z.2.1,z.2.2⟩
section
variable{h:Z5}
theorem qid{u:HO}(ok:HOk P w H h)(e:Rd H a u):ObjOk P w H h a u:=e.ok ok
theorem Ub{kvs:List (Key×V)}(ok:HOk P w H h)(e:Rd H a (.dK kvs)):kvs.length<=Z8/\(a == l9)=lw/\∃vs,KV kvs vs/\h.DictOf (qX P w) a vs:=
 show ObjOk P w H h a (.dK kvs)from qid ok e
theorem qky{kvs:List (Key×V)}(ok:HOk P w H h)(e:H a=lm (.dK kvs)):kvs.length<=Z8/\(a == l9)=lw/\∃vs,KV kvs vs/\h.DictOf (qX P w) a vs:=Ub ok (.inl e)
theorem zU{ks:List Key}(ok:HOk P w H h)(e:H a=lm (.tup (ks.map kV))):(oA (qX P w)).is h ks a:=by
 obtain⟨_,its,r,o,h1,h2,n,g⟩:=(show ObjOk P w H h a (.tup (ks.map kV))from ok a _ e)
 exact⟨o,its.toArray,n,h1,h2,g,by simpa using wR r⟩
theorem Zl(ok:HOk P w H h)(e:Rd H a (.dT kvs)):kvs.length<=Z8/\(a == l9)=lw /\
  ∃xs,KT H kvs xs/\h.DictOfH (oA (qX P w)) a xs:=by
 obtain⟨z,y,xs,r,o,es,ep,h1,h2,c,b,g⟩:=(show ObjOk P w H h a (.dT kvs)from qid ok e)
 refine⟨z,y,xs,r,o,es,ep,h1,h2,c,b,λx hx=>?_,g⟩;have all:∀{l:List (List Key×V)}{m:List (List Key×Z7×lu)},KT H l m->∀x∈m,(oA (qX P w)).is h x.1 x.2.1:=by
  intro l m q
  induction q with
  |nil=>intro x hx;exact nomatch hx
  |@cons p q ps qs hq t ih=>
   intro x hx;rcases af.mp hx with e|hx
   .subst e;exact zU ok (by rw[<-hq.1];exact hq.2.1)
   .exact ih x hx
 exact all r x hx
theorem qkz(ok:HOk P w H h)(e:H a=lm (.dT kvs)):kvs.length<=Z8/\(a == l9)=lw /\
  ∃xs,KT H kvs xs/\h.DictOfH (oA (qX P w)) a xs:=Zl ok (.inl e)
end
def DGet(H:Hp)(a:Z7)(y:V)(r:Option V):Prop:=
 (∃kvs k,Rd H a (.dK kvs)/\y=kV k/\r=Zk kvs k)\/∃kvs k b,Rd H a (.dT kvs)/\y=.ref b/\H b=lm (.tup (k.map kV))/\r=Zk kvs k
def DPut(H:Hp)(a:Z7)(y v:V)(H':Hp):Prop:=
 (∃kvs k,H a=lm (.dK kvs)/\y=kV k/\kvs.length<Z8/\H'=upd H a (.dK (Qw kvs k v))) \/
 ∃kvs k b,H a=lm (.dT kvs)/\y=.ref b/\H b=lm (.tup (k.map kV))/\kvs.length<Z8/\H'=upd H a (.dT (Qw kvs k v))
theorem DGet.k{kvs:List (Key×V)}{k:Key}(e:H a=lm (.dK kvs)):DGet H a (kV k) (Zk kvs k):=.inl ⟨kvs,k,.inl e,rfl,rfl⟩
variable{v:V}
theorem DPut.k{kvs:List (Key×V)}{k:Key}(e:H a=lm (.dK kvs))(hl:kvs.length<Z8):DPut H a (kV k) v (upd H a (.dK (Qw kvs k v))):=.inl ⟨kvs,k,e,rfl,hl,rfl⟩
variable{X:Cx}{Z9:Pns}{σ:St}{s:lx}{A:lG}{E Q:lu->lx->Prop}{h':Z5}
section
variable{r:lu}
theorem Inv.big(I:Inv X Z9 σ H s):l9<s.heap.objs.size:=by have h:lJ<s.heap.objs.size:=(I.mod.glob.keeps I.bk).lt;exact dQ 'e' h
theorem GH(i:A.units+1<lY)(I:Inv X Z9 σ H s)(g:DGet H a y (lm v))(f:RelV y u)(h:∀R s',Inv X Z9 σ H s'->RelV v R->Q R s'):lA 'c' A (oF (.ref a) u) Q E s:=by
 rcases g with⟨kvs,k,e,d,l⟩|⟨kvs,k,b,e,d,D,l⟩
 .subst d;obtain⟨z,hd,vs,rel,dd⟩:=Ub I.hok e;obtain⟨R,hw,r⟩:=RelO.some_of (v:=v) (o:=oH vs k) (by rw[l];exact rel.val k);exact wpAny_getItem_of (GG f) dd.mapOf hw (h R _ (I.tok _) r)
 .subst d;cases(show u=aR b from f);obtain⟨z,hd,xs,rel,dd⟩:=Zl I.hok e;obtain⟨R,hw,r⟩:=RelO.some_of (v:=v) (o:=(atKey xs k).map (·.2)) (by rw[l];exact rel.val k);obtain⟨p,hp,c⟩:=aS.mp hw;refine wpAny_getItem_heap (mW i) (zU I.hok D) dd hp ?_;rw[c];exact h R _ (I.tok _) r
theorem qmj(f:A.units+1<lY)(I:Inv X Z9 σ H s)(g:DGet H a y o)(c:RelV y u)(h:∀s',Inv X Z9 σ H s'->Q (.bool o.isSome) s'):lA 'c' A (lI .In u (.ref a)) Q E s:=by
 rcases g with⟨kvs,k,e,d,l⟩|⟨kvs,k,b,e,d,D,l⟩
 .subst d;obtain⟨z,hd,vs,rel,dd⟩:=Ub I.hok e;refine wpAny_in_of (GG c) hd dd.mapOf ?_;rw[<-(rel.val k).isSome_eq,<-l];exact h _ (I.tok _)
 .subst d;cases(show u=aR b from c);obtain⟨z,hd,xs,rel,dd⟩:=Zl I.hok e;refine wpAny_in_heap (mW f) (zU I.hok D) hd dd ?_;have q:=(rel.val k).isSome_eq;rw[iH]at q;rw[<-q,<-l];exact h _ (I.tok _)
theorem qfo(f:A.units+1<lY)(I:Inv X Z9 σ H s)(g:DGet H a y o)(c:RelV y u)(h:∀s',Inv X Z9 σ H s'->Q (.bool (!o.isSome)) s'):lA 'c' A (lI .NotIn u (.ref a)) Q E s:=by
 rcases g with⟨kvs,k,e,d,l⟩|⟨kvs,k,b,e,d,D,l⟩
 .subst d;obtain⟨z,hd,vs,rel,dd⟩:=Ub I.hok e;refine wpAny_notIn_of (GG c) hd dd.mapOf ?_;rw[<-(rel.val k).isSome_eq,<-l];exact h _ (I.tok _)
 .subst d;cases(show u=aR b from c);obtain⟨z,hd,xs,rel,dd⟩:=Zl I.hok e;refine wpAny_notIn_heap (mW f) (zU I.hok D) hd dd ?_;have q:=(rel.val k).isSome_eq;rw[iH]at q;rw[<-q,<-l];exact h _ (I.tok _)
theorem GI{t':Nat}{o:HO}(I:Inv X Z9 σ H s)(m:Mut (H a))(hs:bh a s.heap h')(he:∃q,h'.get? a=lm q)(new:ObjOk X.prog X.w (upd H a o) h' a o):Inv X Z9 σ (upd H a o) { s with heap:=h',toks:=t' }:=
 I.write (x:=a) (e:=a) m (.inl rfl) (λb q hb z=>(hs.2 b hb).trans z) he new
theorem GJ{H':Hp}{kvs:List (Key×V)}{vs:List (Key×lu)}(z:kvs.length<=Z8)(hd:(a == l9)=lw)(rel:KV kvs vs)(dd:h'.DictOf (qX P w) a vs):ObjOk P w H' h' a (.dK kvs):=⟨z,hd,vs,rel,dd⟩
theorem GK{Q:Unit->lx->Prop}(p:A.units+1<lY)(I:Inv X Z9 σ H s)(g:DPut H a y v H')(m:RelV y u)(n:RelV v r)(h:∀s',Inv X Z9 σ H' s'->Q () s'):lA 'c' A (setItem (.ref a) u r) Q E s:=by
 rcases g with⟨kvs,k,e,i,l,j⟩|⟨kvs,k,b,e,i,D,l,j⟩
 .subst i j;obtain⟨z,hd,vs,rel,dd⟩:=qky I.hok e;have f:vs.length<=Z8:=by rw[<-rel.length];exact z
  have hl:(Qw kvs k v).length<=Z8:=by have:=ye kvs k v;lia
  refine wpAny_setItem_pairs (hsz:=f) (GG m) dd λh' d hs=>h _ ?_;have he:∃q,h'.get? a=lm q:=let ⟨q,_,_,hq,_⟩:=d; ⟨q,hq⟩
  exact GI I (by rw[e];exact dO) hs he (GJ hl hd (rel.put k n) d)
 .subst i j;cases(show u=aR b from m);obtain⟨z,hd,xs,rel,dd⟩:=qkz I.hok e;have f:xs.length<=Z8:=by rw[<-iP rel];exact z
  have hl:(Qw kvs k v).length<=Z8:=by have:=ye kvs k v;lia
  refine wpAny_setItem_heap (hsz:=f) (mW p) (zU I.hok D) dd λh' d hs=>h _ ?_;obtain⟨q,es,ep,hq,h2,B,x,_,t⟩:=d;refine GI I (by rw[e];exact dO) hs ⟨q,hq⟩ ⟨hl,hd,_,(rel.put k D n).keeps λc ys o=>?_,q,es,ep,hq,h2,B,x,t⟩;rw[qw (qj9 o e (λz=>nomatch z))];exact o
end
section
variable{kvs:List (Key×V)}{k:Key}
theorem qkA(I:Inv X Z9 σ H s)(e:Rd H a (.dK kvs))(h:∀t s',Inv X Z9 σ H s'->Q (.int kvs.length t) s'):lA 'c' A (call (.builtin "len") [.ref a]) Q E s:=by obtain⟨z,hd,vs,rel,dd⟩:=Ub I.hok e;refine call_len_dict hd dd (by rw[<-rel.length];rw[lE]at z;lia) ?_;rw[<-rel.length];exact h _ _ (I.tok _)
end
theorem Uc(I:Inv X Z9 σ H s)(g:DGet H a y o):s.TypeIs (.ref a) "dict":=by
 rcases g with⟨kvs,k,e,_,_⟩|⟨kvs,k,b,e,_,_,_⟩
 .obtain⟨_,_,vs,_,dd⟩:=Ub I.hok e;exact dd.typeIs
 .obtain⟨_,_,xs,_,dd⟩:=Zl I.hok e;exact dd.typeIs
def qkB(td ty tv:TE):TS:=λD σ H=>tv σ H λv H1=>td σ H1 λx H2=>ty σ H2 λy d=>∃a b,x=.ref a/\DPut d a y v b/\D.nx σ b
variable{pos:Pos}
section
variable{o i e value:Z4}{pos' tpos:Pos}{td ty tv:TE}
theorem qfp(k:X.A.units+1<lY)(l:PE X o td)(hi:PE X i ty)(j:PE X value tv)(hs:mm value (lm (.Subscript o i pos')) pos.line X.env=pure lw):PS X (.Assign [.Subscript o i pos'] value pos) (qkB td ty tv):=by refine⟨?_⟩;intro Z9 s σ H D I h;refine wpAny_Assign_Subscript (thn (j Z9 s σ H _ I h) λr s1 ⟨v,H1,t,b,f⟩=>thn (l Z9 s1 σ H1 _ t f) λu s2 ⟨x,H2,p,d,e⟩=>thn (hi Z9 s2 σ H2 _ p e) λB s3 z=>?_) hs;obtain⟨y,C,n,c,a,w,ex,g,q⟩:=z;subst ex;obtain rfl:u=aR a:=d;exact GK k n g c b λs4 m=>⟨σ,w,m,q⟩
end
theorem qcM(h:Z5)(hb:l9<h.objs.size):ObjOk P w H (h.push { cls:=.type "dict",data:=.dict #[] }) h.objs.size (.dK []):=
 ⟨be _,beq_eq_false_iff_ne.mpr (bj (aD hb)),[],.nil,Heap.DictOf.new h⟩
def qie:TE:=λ_ H Q=>∀p,H p=lr->Q (.ref p) (upd H p (.dK []))
section
theorem qcN:PE X (.Dict [] [] pos) qie:=⟨λZ9 s σ H Q I h=>
 wpAny_Dict_empty ⟨.ref s.heap.objs.size,_,I.laid (a:=s.heap.objs.size) (o:=.dK []) (t':=s.toks) (λ_ _ q=>ac _ q) (ao _) (qcM s.heap I.big),rfl,h _ (I.hok.fresh (ao _))⟩⟩
end
def IsD(H:Hp)(a:Z7):Prop:=(∃kvs,Rd H a (.dK kvs))\/∃kvs,Rd H a (.dT kvs)
theorem qif(I:Inv X Z9 σ H s)(d:IsD H a):s.TypeIs (.ref a) "dict"/\(∀b,aR a=.ref b->∃o,s.heap.get? b=lm o/\o.dict=lr)/\(a == l9)=false:=by
 rcases d with⟨kvs,e⟩|⟨kvs,e⟩
 .obtain⟨_,hd,vs,_,dd⟩:=Ub I.hok e;refine⟨dd.typeIs,λb q=>?_,hd⟩;cases q;obtain⟨o,_,_,h1,h2,_⟩:=dd;exact⟨o,h1,h2.2.1⟩
 .obtain⟨_,hd,xs,_,dd⟩:=Zl I.hok e;refine⟨dd.typeIs,λb q=>?_,hd⟩;cases q;obtain⟨o,_,_,h1,h2,_⟩:=dd;exact⟨o,h1,h2.2.1⟩
section
theorem GM:vR X (.builtin "len") (λxs H Q=>∃a kvs,xs=[V.ref a]/\H a=lm (.dK kvs)/\Q (.int kvs.length) H):=by intro Z9 s σ H xs us Q I r h;obtain⟨a,kvs,rfl,f,q⟩:=h;obtain⟨u,rfl,y⟩:=wl r;cases y;exact qkA I (.inl f) λt s' b=>⟨.int kvs.length,H,b,⟨t,rfl⟩,q⟩
end
end L2
namespace L2.D2
open PySem PySem.Spec PyProof.Rows
variable{b:List Nat}
theorem jK{a:List Nat}(h:(a.all λi=>decide (i∈b))=lv):∀i∈a,i∈b:=λi hi=>Ae (aW.mp h i hi)
theorem yw{i:Nat}(h:decide (i∈b)=lw):i∉b:=of_decide_eq_false h
noncomputable def Zm:Z4->Bool
 |.Starred ..=>lw
 |_=>lv
variable{e:Z4}{env:Env}
theorem qV{es:List Z4}(h:Zm e=lv):lz (e::es) env=(lw,Z0 e env)::lz es env:=by cases e <;> first|rfl|cases h
theorem qF(h:Zm e=lv):lz [e] env=[(lw,Z0 e env)]:=qV h
theorem qcO{a b:Z4}(h:Zm a=lv)(k:Zm b=lv):lz [a,b] env=[(lw,Z0 a env),(lw,Z0 b env)]:=by rw[qV h,qF k]
variable{pos:Pos}
theorem vx:∀{es:List Z4},es.all Zm=lv->(lM pos (lz es env)).any (·.1)=lw
 |[],_=>rfl
 |e::es,h=>by rw[iQ,aO]at h;rw[qV h.1];exact vx h.2
theorem vy(h:Zm e=lv):((lM pos (lz [e] env)).all (λx=>!x.1)&&(mz pos (lT [] env)).all (λx=>x.1.isSome)
   && decide 'r')=true:=by rw[qF h];rfl
inductive D where
 |non|bl (b:Bool)|int (i:Int)|str (x:Str)
 |tup (xs:List D)|lst (xs:List D)|dct (kvs:List (Key×D))|raw (v:V)
 |xcp (C:Z7)|ins (C:Z7) (fs:List (Str×D))|at_ (a:Z7) (xs:List D)
 deriving Inhabited
abbrev Sl:=List (Option D)
inductive Out(α:Type) where
 |ok (a:α)|exc (c:Str) (o:Sl)|bad
variable{α β:Type}
noncomputable def Out.bind(o:Out α)(k:α->Out β):Out β:=match o with
 |.ok a=>k a
 |.exc c o=>.exc c o
 |.bad=>.bad
@[simp] theorem Out.oX(a:α)(k:α->Out β):(Out.ok a).bind k=k a:=rfl
@[simp] theorem Out.exc_bind(c:Str)(o:Sl)(k:α->Out β):(Out.exc c o:Out α).bind k=.exc c o:=rfl
@[simp] theorem Out.bad_bind(k:α->Out β):(Out.bad:Out α).bind k=.bad:=rfl
noncomputable def Ud(a C:Z7):HO:=.ext λh=>∃oe vs,h.get? a=lm oe/\oe.cls=.ref C/\oe.data=.fields vs
mutual
/-- the value v is the data d,all its objects in F -/
inductive Is(K:Y9)(F:Hp):V->D->Prop
 |non:Is K F .non .non
 |bl (b:Bool):Is K F (.bl b) (.bl b)
 |int (i:Int):Is K F (.int i) (.int i)
 |str {x:Str} (h:x.length<=Z8):Is K F (.str x) (.str x)
 |tup {a:Z7} {xs:List V} {ds:List D} (h:SqT K F a xs) (t:IsL K F xs ds):Is K F (.ref a) (.tup ds)
 |lst {a:Z7} {xs:List V} {ds:List D} (h:SqL K F a xs) (t:IsL K F xs ds):Is K F (.ref a) (.lst ds)
 |dct {a:Z7} {kv:List (Key×V)} {kvs:List (Key×D)} (h:F a=lm (.dK kv)) (t:IsK K F kv kvs):Is K F (.ref a) (.dct kvs)
 |raw (v:V):Is K F v (.raw v)
 |xcp {a C:Z7} (h:F a=lm (Ud a C)):Is K F (.ref a) (.xcp C)
 |ins {a C dx:Z7} {fv:List (Str×V)} {fs:List (Str×D)} (h:F a=lm (.ins C dx fv)) (t:IsF K F fv fs):Is K F (.ref a) (.ins C fs)
 |at_ {a:Z7} {xs:List V} {ds:List D} (h:SqL K F a xs) (t:IsL K F xs ds):Is K F (.ref a) (.at_ a ds)
inductive IsL(K:Y9)(F:Hp):List V->List D->Prop
 |nil:IsL K F [] []
 |cons {v:V} {d:D} {vs:List V} {ds:List D} (h:Is K F v d) (t:IsL K F vs ds):IsL K F (v::vs) (d::ds)
inductive IsK(K:Y9)(F:Hp):List (Key×V)->List (Key×D)->Prop
 |nil:IsK K F [] []
 |cons {k:Key} {v:V} {d:D} {vs:List (Key×V)} {ds:List (Key×D)} (h:Is K F v d) (t:IsK K F vs ds):IsK K F ((k,v)::vs) ((k,d)::ds)
inductive IsF(K:Y9)(F:Hp):List (Str×V)->List (Str×D)->Prop
 |nil:IsF K F [] []
 |cons {k:Str} {v:V} {d:D} {vs:List (Str×V)} {ds:List (Str×D)} (h:Is K F v d) (t:IsF K F vs ds):IsF K F ((k,v)::vs) ((k,d)::ds)
end
theorem qY{K:Y9}{H H':Hp}{a:Z7}{xs:List V}(e:Same H H')(h:SqT K H a xs):SqT K H' a xs:=by
 rcases h with(h|⟨o,h⟩)|h;·exact .inl (.inl (e _ _ h))
 .exact .inl (.inr ⟨o,e _ _ h⟩)
 .exact .inr h
mutual
theorem Is.mono{K:Y9}{F F':Hp}(e:Same F F'):∀{v:V}{d:D},Is K F v d->Is K F' v d
 |_,_,.non=>.non
 |_,_,.bl b=>.bl b
 |_,_,.int i=>.int i
 |_,_,.str h=>.str h
 |_,_,.tup h t=>.tup (qY e h) (IsL.mono e t)
 |_,_,.lst h t=>.lst (e.seq h) (IsL.mono e t)
 |_,_,.dct h t=>.dct (e _ _ h) (IsK.mono e t)
 |_,_,.raw v=>.raw v
 |_,_,.xcp h=>.xcp (e _ _ h)
 |_,_,.ins h t=>.ins (e _ _ h) (IsF.mono e t)
 |_,_,.at_ h t=>.at_ (e.seq h) (IsL.mono e t)
theorem IsL.mono{K:Y9}{F F':Hp}(e:Same F F'):∀{vs:List V}{ds:List D},IsL K F vs ds->IsL K F' vs ds
 |_,_,.nil=>.nil
 |_,_,.cons h t=>.cons (Is.mono e h) (IsL.mono e t)
theorem IsK.mono{K:Y9}{F F':Hp}(e:Same F F'):∀{vs:List (Key×V)}{ds:List (Key×D)},IsK K F vs ds->IsK K F' vs ds
 |_,_,.nil=>.nil
 |_,_,.cons h t=>.cons (Is.mono e h) (IsK.mono e t)
theorem IsF.mono{K:Y9}{F F':Hp}(e:Same F F'):∀{vs:List (Str×V)}{ds:List (Str×D)},IsF K F vs ds->IsF K F' vs ds
 |_,_,.nil=>.nil
 |_,_,.cons h t=>.cons (Is.mono e h) (IsF.mono e t)
end
theorem IsL.length{K:Y9}{F:Hp}:∀{vs:List V}{ds:List D},IsL K F vs ds->vs.length=ds.length
 |_,_,.nil=>rfl
 |_,_,.cons _ t=>congrArg (·+1) (IsL.length t)
theorem IsL.get{K:Y9}{F:Hp}:∀{vs:List V}{ds:List D}{i:Nat}{v:V},IsL K F vs ds->vs[i]?=lm v->∃d,ds[i]?=lm d/\Is K F v d
 |_,_,_,_,.nil,e=>by simp at e
 |_,_,0,_,.cons h _,e=>by simp at e;subst e;exact⟨_,rfl,h⟩
 |_,_,i+1,v,.cons _ t,e=>by obtain⟨d,h1,h2⟩:=IsL.get (i:=i) (v:=v) t (by simpa using e);exact⟨d,by simpa using h1,h2⟩
theorem IsL.getD{K:Y9}{F:Hp}:∀{vs:List V}{ds:List D}{i:Nat}{d:D},IsL K F vs ds->ds[i]?=lm d->∃v,vs[i]?=lm v/\Is K F v d
 |_,_,_,_,.nil,e=>by simp at e
 |_,_,0,_,.cons h _,e=>by simp at e;subst e;exact⟨_,rfl,h⟩
 |_,_,i+1,v,.cons _ t,e=>by obtain⟨d,h1,h2⟩:=IsL.getD (i:=i) (d:=v) t (by simpa using e);exact⟨d,by simpa using h1,h2⟩
theorem IsL.append{K:Y9}{F:Hp}:∀{vs ws:List V}{ds es:List D},IsL K F vs ds->IsL K F ws es->IsL K F (vs++ws) (ds++es)
 |_,_,_,_,.nil,s=>s
 |_,_,_,_,.cons h t,s=>.cons h (IsL.append t s)
theorem IsL.drop{K:Y9}{F:Hp}:∀{vs:List V}{ds:List D}(n:Nat),IsL K F vs ds->IsL K F (vs.drop n) (ds.drop n)
 |_,_,0,r=>r
 |_,_,_+1,.nil=>.nil
 |_,_,n+1,.cons _ t=>IsL.drop n t
theorem IsL.take{K:Y9}{F:Hp}:∀{vs:List V}{ds:List D}(n:Nat),IsL K F vs ds->IsL K F (vs.take n) (ds.take n)
 |_,_,0,_=>.nil
 |_,_,_+1,.nil=>.nil
 |_,_,n+1,.cons h t=>.cons h (IsL.take n t)
def OwnIs(K:Y9)(F H:Hp)(a:Z7):D->Prop
 |.lst ds=>∃xs,H a=lm (.lst xs)/\IsL K F xs ds
 |.dct kvs=>∃kv,H a=lm (.dK kv)/\IsK K F kv kvs
 |.ins C fs=>∃dx fv,H a=lm (.ins C dx fv)/\IsF K F fv fs
 |.at_ b ds=>b=a/\∃xs,H a=lm (.lst xs)/\IsL K F xs ds
 |_=>False
def TopIs(K:Y9)(F H:Hp)(v:V)(d:D):Prop:=Is K F v d\/∃a,v=.ref a/\OwnIs K F H a d
inductive Mo where
 |sh|fr|any
def MoIs(K:Y9)(m:Mo)(H0 F H:Hp)(v:V)(d:D):Prop:=match m with
 |.sh=>Is K F v d
 |.fr=>∃a,v=.ref a/\H0 a=lr/\F a=lr/\OwnIs K F H a d
 |.any=>TopIs K F H v d
theorem MoIs.top{K:Y9}{m:Mo}{H0 F H:Hp}{v:V}{d:D}(h:MoIs K m H0 F H v d):TopIs K F H v d:=by
 cases m with
 |sh=>exact .inl h
 |fr=>obtain⟨a,e,_,_,o⟩:=h;exact .inr ⟨a,e,o⟩
 |any=>exact h
structure Chg(A:Z7->Prop)(F H F' H':Hp):Prop where
 keep:∀b o,H b=lm o->¬A b->H' b=lm o
 stay:∀b,H b≠lr->H' b≠lr
 grow:Same F F'
 new:∀b,F' b≠lr->F b≠lr\/H b=lr\/A b
theorem Chg.refl{A:Z7->Prop}{F H:Hp}:Chg A F H F H:=⟨λ_ _ e _=>e,λ_ h=>h,Same.refl _,λ_ h=>.inl h⟩
theorem Chg.trans{A A1:Z7->Prop}{F H F1 H1 c H2:Hp}(a:Chg A F H F1 H1)(b:Chg A1 F1 H1 c H2)(hA:∀x,A1 x->A x\/H x=lr):Chg A F H c H2 where
 keep:=λx o e n=>b.keep x o (a.keep x o e n) λz=>(hA x z).elim n λq=>by rw[e]at q;cases q
 stay:=λx h=>b.stay x (a.stay x h)
 grow:=a.grow.trans b.grow
 new:=λx h=>by
  rcases b.new x h with q|q|q;·exact a.new x q
  .refine .inr (.inl ?_);cases e:H x with
   |none=>rfl
   |some o=>exact absurd q (a.stay x (by rw[e];simp))
  .rcases hA x q with z|z;·exact .inr (.inr z)
   .exact .inr (.inl z)
theorem Chg.trans'{A:Z7->Prop}{F H F1 H1 c H2:Hp}(a:Chg A F H F1 H1)(b:Chg A F1 H1 c H2):Chg A F H c H2:=a.trans b λ_ z=>.inl z
theorem Chg.mono{A c:Z7->Prop}{F H F1 H1:Hp}(a:Chg A F H F1 H1)(h:∀x,A x->c x):Chg c F H F1 H1:=
 ⟨λb o e n=>a.keep b o e λz=>n (h b z),a.stay,a.grow,λb z=>(a.new b z).imp id (Or.imp id (h b))⟩
abbrev No:Z7->Prop:=λ_=>False
theorem Chg.ofNo{A:Z7->Prop}{F H F1 H1:Hp}(a:Chg No F H F1 H1):Chg A F H F1 H1:=a.mono λ_ z=>z.elim
structure Rep(K:Y9)(own:List Nat)(F H:Hp)(σ:St)(ρ:Sl):Prop where
 sub:Same F H
 len:σ.length=ρ.length
 val:∀i d,i∉own->ρ[i]?=lm (lm d)->∃v,σ[i]?=lm (lm v)/\Is K F v d
 ow:∀i d,i∈own->ρ[i]?=lm (lm d)->∃a,σ[i]?=lm (lm (.ref a))/\F a=lr/\OwnIs K F H a d
 opn:∀i,i∈own->∃d,ρ[i]?=lm (lm d)
 dis:∀i j a,i∈own->j∈own->σ[i]?=lm (lm (V.ref a))->σ[j]?=lm (lm (V.ref a))->i=j
def OA(own:List Nat)(σ:St):Z7->Prop:=λb=>∃i∈own,σ[i]?=lm (lm (V.ref b))
theorem OwnIs.there{K:Y9}{F H:Hp}{a:Z7}{d:D}(h:OwnIs K F H a d):H a≠none:=by
 cases d with
 |lst ds=>obtain⟨xs,e,_⟩:=h;rw[e];simp
 |dct ds=>obtain⟨xs,e,_⟩:=h;rw[e];simp
 |ins C fs=>obtain⟨dx,xs,e,_⟩:=h;rw[e];simp
 |at_ b ds=>obtain⟨_,xs,e,_⟩:=h;rw[e];simp
 |_=>exact h.elim
theorem OwnIs.grow{K:Y9}{F H F' H':Hp}{a:Z7}{d:D}(h:OwnIs K F H a d)(g:Same F F')(k:∀o,H a=lm o->H' a=lm o):OwnIs K F' H' a d:=by
 cases d with
 |lst ds=>obtain⟨xs,e,t⟩:=h;exact⟨xs,k _ e,t.mono g⟩
 |dct ds=>obtain⟨xs,e,t⟩:=h;exact⟨xs,k _ e,t.mono g⟩
 |ins C fs=>obtain⟨dx,xs,e,t⟩:=h;exact⟨dx,xs,k _ e,t.mono g⟩
 |at_ b ds=>obtain⟨c,xs,e,t⟩:=h;exact⟨c,xs,k _ e,t.mono g⟩
 |_=>exact h.elim
theorem Rep.OA_there{K:Y9}{own:List Nat}{F H:Hp}{σ:St}{ρ:Sl}(r:Rep K own F H σ ρ){b:Z7}(h:OA own σ b):H b≠lr/\F b=none:=by obtain⟨i,hi,e⟩:=h;obtain⟨d,hd⟩:=r.opn i hi;obtain⟨a,e1,c,o⟩:=r.ow i d hi hd;rw[e]at e1;cases e1;exact⟨o.there,c⟩
theorem Rep.grow{K:Y9}{own:List Nat}{F H F' H':Hp}{σ:St}{ρ:Sl}(r:Rep K own F H σ ρ)(c:Chg No F H F' H')(s:Same F' H'):Rep K own F' H' σ ρ where
 sub:=s
 len:=r.len
 val:=λi d hi e=>let ⟨v,h1,h2⟩:=r.val i d hi e; ⟨v,h1,h2.mono c.grow⟩
 ow:=λi d hi e=>by
  obtain⟨a,h1,h2,g⟩:=r.ow i d hi e;refine⟨a,h1,?_,g.grow c.grow λo q=>c.keep a o q λz=>z⟩;cases q:F' a with
  |none=>rfl
  |some o=>
   rcases c.new a (by rw[q];simp)with z|z|z;·exact absurd h2 z
   .exact absurd z g.there
   .exact z.elim
 opn:=r.opn
 dis:=r.dis
theorem MoIs.grow{K:Y9}{A:Z7->Prop}{m:Mo}{H0 F H F' H':Hp}{v:V}{d:D}(h:MoIs K m H0 F H v d)(f:m≠.any)(c:Chg A F H F' H')(hA:∀x,A x->H0 x≠lr):MoIs K m H0 F' H' v d:=by
 cases m with
 |sh=>exact Is.mono c.grow h
 | fr=>
  obtain⟨a,e,b,g,o⟩:=h;have n:¬A a:=λz=>hA a z b;refine⟨a,e,b,?_,o.grow c.grow λo q=>c.keep a o q n⟩;cases q:F' a with
  |none=>rfl
  |some u=>
   rcases c.new a (by rw[q];simp)with z|z|z;·exact absurd g z
   .exact absurd z o.there
   .exact absurd z n
 |any=>exact absurd rfl f
def Yo(K:Y9)(io:List Nat)(F H:Hp)(σ:St)(ρ:Sl):Prop:=∀i∈io,∃d a,ρ[i]?=lm (lm d)/\σ[i]?=lm (lm (V.ref a))/\F a=lr/\OwnIs K F H a d
theorem Rep.ioIs{K:Y9}{own io:List Nat}{F H:Hp}{σ:St}{ρ:Sl}(r:Rep K own F H σ ρ)(h:∀i∈io,i∈own):Yo K io F H σ ρ:=λi hi=>by obtain⟨d,hd⟩:=r.opn i (h i hi);obtain⟨a,h1,h2,g⟩:=r.ow i d (h i hi) hd;exact⟨d,a,hd,h1,h2,g⟩
structure Ct where
 K:Y9
 cv:Str->lu
 E:XK
 io:List Nat
 mr:Mo
 ol:List Nat
 ox:List Nat
 oxs:∀i∈ox,i∈io
abbrev Vl:=Out (D×Sl)
def Po(C:Ct)(own:List Nat)(m:Mo)(σ:St)(F H:Hp)(r:Vl)(Q:VK):Prop:=match r with
 |.ok (d,ρ')=>∀v F' H',Rep C.K own F' H' σ ρ'->Chg (OA own σ) F H F' H'->MoIs C.K m H F' H' v d->Q v H'
 |.exc c ρ'=>∀F' H',Same F' H'->Yo C.K C.ox F' H' σ ρ'->Chg (OA own σ) F H F' H'->C.E (C.cv c) lr H'
 |.bad=>False
abbrev qW:=Sl->Vl
def tE(C:Ct)(own:List Nat)(m:Mo)(f:qW):TE:=λσ H Q=>∃F ρ,Rep C.K own F H σ ρ/\Po C own m σ F H (f ρ) Q
theorem MoIs.back{K:Y9}{m:Mo}{A:Z7->Prop}{H0 F H F1 H1:Hp}{f Ha:Hp}{v:V}{d:D}(c:Chg A f H0 F1 H1)(h:MoIs K m H1 F H v d):MoIs K m H0 F H v d:=by
 cases m with
 |sh=>exact h
 |fr=>
  obtain⟨a,e,b,r⟩:=h;refine⟨a,e,?_,r⟩;cases q:H0 a with
  |none=>rfl
  |some o=>exact absurd b (c.stay a (by rw[q];simp))
 |any=>exact h
theorem Po.shift{C:Ct}{own:List Nat}{m:Mo}{σ:St}{F H F1 H1:Hp}{r:Vl}{Q:VK}(h:Po C own m σ F H r Q)(c:Chg (OA own σ) F H F1 H1):Po C own m σ F1 H1 r Q:=by
 cases r with
 |ok p=>exact λv F' H' a S mo=>h v F' H' a (c.trans' S) (MoIs.back (Ha:=H1) c mo)
 |exc x=>exact λF' H' s io S=>h F' H' s io (c.trans' S)
 |bad=>exact h.elim
theorem Po.bind{C:Ct}{own:List Nat}{m ma:Mo}{σ:St}{F H:Hp}{o:Vl}{k:D×Sl->Vl}{Q R:VK}(hp:Po C own m σ F H (o.bind k) Q)(h:∀v F1 H1 d ρ1,Rep C.K own F1 H1 σ ρ1->Chg (OA own σ) F H F1 H1->MoIs C.K ma H F1 H1 v d->Po C own m σ F1 H1 (k (d,ρ1)) Q->R v H1):Po C own ma σ F H o R:=by
 cases o with
 |ok p=>obtain⟨d,ρ1⟩:=p;exact λv F1 H1 a c mo=>h v F1 H1 d ρ1 a c mo (Po.shift (show Po C own m σ F H (k (d,ρ1)) Q from hp) c)
 |exc x=>exact hp
 |bad=>exact hp.elim
def PoV(C:Ct)(m:Mo)(F H:Hp)(r:Out D)(Q:VK):Prop:=match r with
 |.ok d=>∀v F' H',Same F' H'->Chg No F H F' H'->MoIs C.K m H F' H' v d->Q v H'
 |_=>False
def OpD(X:Cx)(C:Ct)(m:Mo)(f:lu->lu->Sem lu)(g:D->D->Out D):Prop:=
 OpR X f (λx y H Q=>∃F dx d,Same F H/\TopIs C.K F H x dx/\TopIs C.K F H y d/\PoV C m F H (g dx d) Q)
def UnD(X:Cx)(C:Ct)(m:Mo)(f:lu->Sem lu)(g:D->Out D):Prop:=
 UnR X f (λx H Q=>∃F dx,Same F H/\TopIs C.K F H x dx/\PoV C m F H (g dx) Q)
noncomputable def Out.plain{α:Type}:Out α->Out α
 |.ok a=>.ok a
 |_=>.bad
theorem PoV.of{C:Ct}{own:List Nat}{m:Mo}{σ:St}{F H:Hp}{o:Out D}{ρ:Sl}{Q:VK}(a:Rep C.K own F H σ ρ)(h:Po C own m σ F H (o.plain.bind λd=>.ok (d,ρ)) Q):PoV C m F H o Q:=by
 cases o with
 |ok d=>exact λv F' H' s c mo=>h v F' H' (a.grow c s) c.ofNo mo
 |exc c=>exact h.elim
 |bad=>exact h.elim
def d2(g:D->D->Out D)(fa fb:qW):qW:=λρ=>(fa ρ).bind λp=>(fb p.2).bind λq=>(g p.1 q.1).plain.bind λd=>.ok (d,q.2)
def d1(g:D->Out D)(fa:qW):qW:=λρ=>(fa ρ).bind λp=>(g p.1).plain.bind λd=>.ok (d,p.2)
section
variable{X:Cx}{C:Ct}{own:List Nat}{a b:Z4}{fa fb:qW}{m ma mb:Mo}{pos:Pos}
theorem Vm{g:D->D->Out D}{σ:St}{H:Hp}{Q:VK}(f:ma≠.any)(h:tE C own m (d2 g fa fb) σ H Q):tE C own ma fa σ H λx H1=>tE C own mb fb σ H1 λy H2=>∃F dx i,Same F H2/\TopIs C.K F H2 x dx/\TopIs C.K F H2 y i/\PoV C m F H2 (g dx i) Q:=by obtain⟨F,ρ,p,h⟩:=h;refine⟨F,ρ,p,Po.bind h λv F1 H1 d ρ1 a c1 c h1=>⟨F1,ρ1,a,Po.bind h1 λw j H2 e ρ2 r c2 b h2=>?_⟩⟩;exact⟨j,d,e,r.sub,(c.grow f c2 λx z=>(p.OA_there z).1).top,b.top,PoV.of r h2⟩
theorem JM{g:D->Out D}{σ:St}{H:Hp}{Q:VK}(h:tE C own m (d1 g fa) σ H Q):tE C own ma fa σ H λx H1=>∃F dx,Same F H1/\TopIs C.K F H1 x dx/\PoV C m F H1 (g dx) Q:=by obtain⟨F,ρ,r,h⟩:=h;refine⟨F,ρ,r,Po.bind h λv F1 H1 d ρ1 a c1 c h1=>?_⟩;exact⟨F1,d,a.sub,c.top,PoV.of a h1⟩
theorem jp{e:Z4}{t t':TE}(h:PE X e t)(i:∀σ H Q,t' σ H Q->t σ H Q):PE X e t':=⟨λZ9 s σ H Q I hw=>h Z9 s σ H Q I (i σ H Q hw)⟩
theorem qcP{e:Z4}{t t':TT}(h:PT X e t)(i:∀σ H Q,t' σ H Q->t σ H Q):PT X e t':=⟨λZ9 s σ H Q I hw=>h Z9 s σ H Q I (i σ H Q hw)⟩
theorem jx{op:Operator}{g:D->D->Out D}(l:OpD X C m (mf op) g)(c:PE X a 'p')(hb:PE X b (tE C own mb fb))(f:ma≠.any:=by decide):PE X (.BinOp a op b pos) (tE C own m (d2 g fa fb)):=
 jp (qkk l c hb) λ_ _ _ h=>Vm f h
theorem wH{op:CmpOp}{g:D->D->Out D}(l:OpD X C m (lI op) g)(c:PE X a 'p')(hb:PE X b (tE C own mb fb))(f:ma≠.any:=by decide)(k:mS op b=false:=by first|exact qef _|with_unfolding_all rfl):PE X (.Compare a [op] [b] pos) (tE C own m (d2 g fa fb)):=
 jp (qe6 l c hb k) λ_ _ _ h=>Vm f h
theorem qfq{op:UnaryOp}{g:D->Out D}(l:UnD X C m (unaryOp op) g)(f:PE X a 'p'):PE X (.UnaryOp op a pos) (tE C own m (d1 g fa)):=
 jp (qkl l f) λ_ _ _ h=>JM h
end
instance:DecidableEq Mo:=λa b=>by cases a <;> cases b <;> first|exact isTrue rfl|exact isFalse (by intro h;cases h)
theorem qcQ{K:Y9}{own:List Nat}{H0 F H:Hp}{σ:St}{ρ:Sl}{v:V}{d:D}(r:Rep K own F H σ ρ)(hA:∀b,OA own σ b->H0 b≠lr)(h:MoIs K .fr H0 F H v d):∃F',Rep K own F' H σ ρ/\Same F F'/\Is K F' v d/\∀b,F' b≠lr->F b≠lr\/H0 b=none:=by
 obtain⟨a,rfl,f,g,o⟩:=h;obtain⟨u,hu⟩:∃u,H a=lm u:=by
  cases q:H a with
  |none=>exact absurd q o.there
  |some u=>exact⟨u,rfl⟩
 have gr:Same F (upd F a u):=λb w e=>by rw[qw (qE e g)];exact e
 have s:Same (upd F a u) H:=λb w e=>by
  by_cases q:b=a;·subst q;rw[qm]at e;cases e;exact hu
  .rw[qw q]at e;exact r.sub b w e
 refine⟨upd F a u,⟨s,r.len,λi d hi e=>?_,λi d hi e=>?_,r.opn,r.dis⟩,gr,?_,λb hb=>?_⟩;·obtain⟨v,h1,h2⟩:=r.val i d hi e;exact⟨v,h1,h2.mono gr⟩
 .obtain⟨c,h1,h2,j⟩:=r.ow i d hi e;refine⟨c,h1,?_,j.grow gr λ_ q=>q⟩;have n:c≠a:=λq=>by subst q;exact hA c ⟨i,hi,h1⟩ f
  rw[qw n];exact h2
 .cases d with
  |lst ds=>obtain⟨xs,e,t⟩:=o;rw[hu]at e;cases e;exact .lst (.inl (.inl qm)) (t.mono gr)
  |dct ds=>obtain⟨xs,e,t⟩:=o;rw[hu]at e;cases e;exact .dct qm (t.mono gr)
  |ins C fs=>obtain⟨dx,xs,e,t⟩:=o;rw[hu]at e;cases e;exact .ins qm (t.mono gr)
  |at_ b ds=>obtain⟨k,xs,e,t⟩:=o;rw[hu]at e;cases e;subst k;exact .at_ (.inl (.inl qm)) (t.mono gr)
  |_=>exact o.elim
 .by_cases q:b=a;·exact .inr (by rw[q];exact f)
  .rw[qw q]at hb;exact .inl hb
theorem Po.toSh{C:Ct}{own:List Nat}{m:Mo}{σ:St}{F H:Hp}{d:Sl}{r:Vl}{Q:VK}(f:Rep C.K own F H σ d)(g:m≠.any)(h:Po C own .sh σ F H r Q):Po C own m σ F H r Q:=by
 cases r with
 | ok p=>
  intro v F' H' a c mo;cases m with
  |sh=>exact h v F' H' a c mo
  |fr=>
   obtain⟨i,e,gr,is,n⟩:=qcQ a (λb z=>(f.OA_there z).1) mo;refine h v i H' e ⟨c.keep,c.stay,c.grow.trans gr,λb hb=>?_⟩ is;rcases n b hb with z|z;·exact c.new b z
   .exact .inr (.inl z)
  |any=>exact absurd rfl g
 |exc x=>exact h
 |bad=>exact h.elim
section
variable{X:Cx}{C:Ct}{own:List Nat}{a b e:Z4}{f fa fb:qW}{m ma mb:Mo}{pos:Pos}
theorem yx(h:PE X e (tE C own m f))(c:m≠.any):PE X e (tE C own .sh f):=jp h λ_ _ _ ⟨F,ρ,a,p⟩=>⟨F,ρ,a,p.toSh a c⟩
noncomputable def qc(i:Nat):qW:=λρ=>match ρ[i]? with
 |some (lm d)=>.ok (d,ρ)
 |_=>.bad
noncomputable def dC(d:D):qW:=λρ=>.ok (d,ρ)
theorem qig{i:Nat}{x:Str}(b:X.N[i]?=lm x)(c:Vis X.env.scope x)(l:i∉own)(hd:Dbg x:=by decide)(a:Cdk x:=by decide):PE X (.Name x pos) (tE C own .sh (qc i)):=by
 refine jp (wG b c hd a) λσ H Q z=>?_;obtain⟨F,ρ,r,h⟩:=z;unfold qc at h;cases e:ρ[i]? with
 |none=>rw[e]at h;exact h.elim
 |some o=>
  cases o with
  |none=>rw[e]at h;exact h.elim
  |some d=>rw[e]at h;obtain⟨v,h1,h2⟩:=r.val i d l e;exact⟨v,h1,h v F H r .refl h2⟩
theorem qfr{i:Nat}{x:Str}(f:X.N[i]?=lm x)(c:Vis X.env.scope x)(l:i∈own)(hd:Dbg x:=by decide)(b:Cdk x:=by decide):PE X (.Name x pos) (tE C own .any (qc i)):=by
 refine jp (wG f c hd b) λσ H Q z=>?_;obtain⟨F,ρ,r,h⟩:=z;unfold qc at h;cases e:ρ[i]? with
 |none=>rw[e]at h;exact h.elim
 |some o=>
  cases o with
  |none=>rw[e]at h;exact h.elim
  |some d=>rw[e]at h;obtain⟨a,h1,h2,g⟩:=r.ow i d l e;exact⟨_,h1,h _ F H r .refl (.inr ⟨a,rfl,g⟩)⟩
theorem qih{v:V}{d:D}(h:PE X e (tC v))(i:∀F,Is C.K F v d):PE X e (tE C own .sh (dC d)):=jp h λσ H Q ⟨F,ρ,a,h⟩=>h v F H a .refl (i F)
theorem qp{i j pos}:PE X (.Constant (.int i) j pos) (tE C own .sh (dC (.int i))):=qih qhL λ_=>.int i
theorem uK{i j pos}:PE X (.Constant (.bool i) j pos) (tE C own .sh (dC (.bl i))):=qih qe0 λ_=>.bl i
theorem Yp{j pos}:PE X (.Constant .none j pos) (tE C own .sh (dC .non)):=qih qhM λ_=>.non
theorem qv{x j pos}(h:cD x<=Z8:=by decide):PE X (.Constant (.str x) j pos) (tE C own .sh (dC (.str x))):=qih qec λ_=>.str h
theorem qfs{x:Str}{v:V}{d:D}{u:lu}(hg:Gl X x)(c:X.mg x=lm u)(r:RelV v u)(i:∀F,Is C.K F v d)(hd:Dbg x:=by decide):PE X (.Name x pos) (tE C own .sh (dC d)):=qih (Gm hg c r hd) i
noncomputable def KU(g:Int->Int->Out D):D->D->Out D
 |.int i,.int j=>g i j
 |_,_=>.bad
theorem TopIs.int{K:Y9}{F H:Hp}{v:V}{i:Int}(h:TopIs K F H v (.int i)):v=.int i:=by
 rcases h with h|⟨a,_,h⟩
 .cases h;rfl
 .exact h.elim
theorem TopIs.str{K:Y9}{F H:Hp}{v:V}{x:Str}(h:TopIs K F H v (.str x)):v=.str x/\x.length<=Z8:=by
 rcases h with h|⟨a,_,h⟩
 .cases h;exact⟨rfl,by assumption⟩
 .exact h.elim
theorem TopIs.bl{K:Y9}{F H:Hp}{v:V}{x:Bool}(h:TopIs K F H v (.bl x)):v=.bl x:=by
 rcases h with h|⟨a,_,h⟩
 .cases h;rfl
 .exact h.elim
theorem TopIs.non{K:Y9}{F H:Hp}{v:V}(h:TopIs K F H v .non):v=.non:=by
 rcases h with h|⟨a,_,h⟩
 .cases h;rfl
 .exact h.elim
theorem TopIs.lst{K:Y9}{F H:Hp}{v:V}{ds:List D}(s:Same F H)(h:TopIs K F H v (.lst ds)):∃a xs,v=.ref a/\SqL K H a xs/\IsL K F xs ds:=by
 rcases h with h|⟨a,e,h⟩
 .cases h with
  |lst h t=>exact⟨_,_,rfl,s.seq h,t⟩
 .obtain⟨xs,i,t⟩:=h;exact⟨a,xs,e,.inl (.inl i),t⟩
theorem TopIs.tup{K:Y9}{F H:Hp}{v:V}{ds:List D}(s:Same F H)(h:TopIs K F H v (.tup ds)):∃a xs,v=.ref a/\SqT K H a xs/\IsL K F xs ds:=by
 rcases h with h|⟨a,e,h⟩
 .cases h with
  |tup h t=>exact⟨_,_,rfl,qY s h,t⟩
 .exact h.elim
theorem TopIs.dct{K:Y9}{F H:Hp}{v:V}{ds:List (Key×D)}(s:Same F H)(h:TopIs K F H v (.dct ds)):∃a kv,v=.ref a/\H a=lm (.dK kv)/\IsK K F kv ds:=by
 rcases h with h|⟨a,e,h⟩
 .cases h with
  |dct h t=>exact⟨_,_,rfl,s _ _ h,t⟩
 .obtain⟨xs,i,t⟩:=h;exact⟨a,xs,e,i,t⟩
set_option tactic.hygienic true in
theorem GN{fn:lu->lu->Sem lu}{P:Int->Int->Prop}[∀i j,Decidable (P i j)]{g:Int->Int->V}{d:Int->Int->D}(l:OpR X fn (rI P g))(hg:∀F i j,Is C.K F (g i j) (d i j)):OpD X C .sh fn (KU λi j=>if P i j then .ok (d i j)else .bad):=by
 intro Z9 s σ H x y v u Q I r c h;obtain⟨F,dx,a,b,t,ty,po⟩:=h;cases dx <;> try exact po.elim
 cases a <;> try exact po.elim
 rename_i i j;have po:PoV C .sh F H (if P i j then .ok (d i j)else .bad) Q:=po;obtain rfl:=t.int;obtain rfl:=ty.int;by_cases q:P i j;·rw[Aa q]at po;exact l Z9 s σ H _ _ v u Q I r c ⟨i,j,rfl,rfl,q,po (g i j) F H b .refl (hg F i j)⟩
 .rw[Ab q]at po;exact po.elim
set_option tactic.hygienic true in
theorem GO{fn:lu->lu->Sem lu}{g:Int->Int->V}{d:Int->Int->D}(l:OpR X fn (rI0 g))(hg:∀F i j,Is C.K F (g i j) (d i j)):OpD X C .sh fn (KU λi j=>.ok (d i j)):=by
 intro Z9 s σ H x y v u Q I r c h;obtain⟨F,dx,a,b,t,ty,po⟩:=h;cases dx <;> try exact po.elim
 cases a <;> try exact po.elim
 rename_i i j;obtain rfl:=t.int;obtain rfl:=ty.int;exact l Z9 s σ H _ _ v u Q I r c ⟨i,j,rfl,rfl,po (g i j) F H b .refl (hg F i j)⟩
def qeg:D->D->Out D:=KU λi j=>.ok (.int (i - j))
theorem QR:OpD X C .sh (mf .Sub) qeg:=GO qhX λ_ _ _=>.int _
instance:∀i j,Decidable (CMul i j):=λi j=>inferInstanceAs (Decidable (_\/_))
instance:∀i j,Decidable (qmc i j):=λi j=>inferInstanceAs (Decidable (_/\_))
def qhw:D->D->Out D:=KU λi j=>if CMul i j then .ok (.int (i * j))else .bad
theorem GP:OpD X C .sh (mf .Mult) qhw:=GN qhY λ_ _ _=>.int _
def qcs:D->D->Out D:=KU λi j=>if 0<j then .ok (.int (i % j))else .bad
theorem QS:OpD X C .sh (mf .Mod) qcs:=GN qhZ λ_ _ _=>.int _
noncomputable def wO(x y:Str):Bool:=decide (x.cps.toList<y.cps.toList)
def ltD:D->D->Out D
 |.int i,.int j=>.ok (.bl (decide (i<j)))
 |.str x,.str y=>.ok (.bl (wO x y))
 |_,_=>.bad
theorem GQ:OpD X C .sh (lI .Lt) ltD:=by
 intro Z9 s σ H x y v u Q I d c h;obtain⟨F,dx,a,b,t,ty,po⟩:=h;cases dx <;> try exact po.elim
 .cases a <;> try exact po.elim
  obtain rfl:=t.int;obtain rfl:=ty.int;exact qkn Z9 s σ H _ _ v u Q I d c ⟨_,_,rfl,rfl,po _ F H b .refl (.bl _)⟩
 .cases a <;> try exact po.elim
  obtain⟨rfl,_⟩:=t.str;obtain⟨rfl,_⟩:=ty.str;exact Gv Z9 s σ H _ _ v u Q I d c ⟨_,_,rfl,rfl,po _ F H b .refl (.bl _)⟩
end
noncomputable def eqS(a b:D):Option Bool:=match a with
 |.int x=>match b with
  |.int y=>lm (x == y)
  |_=>lr
 |.str x=>match b with
  |.str y=>lm (x == y)
  |_=>lr
 |_=>lr
def wI(f:D->D->Option Bool):List D->List D->Option Bool
 |x::xs,y::ys=>(f x y).bind λa=>(wI f xs ys).bind λb=>lm (a&&b)
 |_,_=>lm lv
def eqN:Nat->D->D->Option Bool
 |n+1,.tup xs,.tup ys=>(wI (eqN n) xs ys).map λb=>b&&xs.length == ys.length
 |n+1,.lst xs,.lst ys=>if xs.length=ys.length then wI (eqN n) xs ys else lm lw
 |_,a,b=>eqS a b
theorem Yq{n:Nat}{a b:D}(h1:∀xs ys,a=.tup xs->b≠.tup ys)(h2:∀xs ys,a=.lst xs->b≠.lst ys):eqN n a b=eqS a b:=by
 cases n with
 |zero=>rfl
 | succ n=>
  cases a with
  |tup xs=>cases b with
   |tup ys=>exact absurd rfl (h1 xs ys rfl)
   |_=>rfl
  |lst xs=>cases b with
   |lst ys=>exact absurd rfl (h2 xs ys rfl)
   |_=>rfl
  |_=>rfl
def itE(f:D->D->Option Bool)(xs ys:List D)(j:Nat):Bool:=((xs[j]?).bind λx=>(ys[j]?).bind λy=>f x y).getD lw
theorem vU{f:D->D->Option Bool}:∀{xs ys:List D}{b:Bool},wI f xs ys=lm b->b=(aB (min xs.length ys.length)).all (itE f xs ys)
 |[],ys,b,h=>by simp[wI]at h ⊢;exact h
 |x::xs,[],b,h=>by simp[wI]at h ⊢;exact h
 | x::xs,y::ys,b,h=>by
  unfold wI at h;cases e:f x y with
  |none=>rw[e]at h;simp at h
  | some a=>
   cases i:wI f xs ys with
   |none=>rw[e,i]at h;simp at h
   |some c=>
    rw[e,i]at h;have h:(a&&c)=b:=by simpa using h
    have d:=vU i;have m:min (x::xs).length (y::ys).length=min xs.length ys.length+1:=by simp only[ah];lia
    rw[m,List.range_succ_eq_map,iQ,iX];have e0:itE f (x::xs) (y::ys) 0=a:=by simp[itE,e]
    have e1:(itE f (x::xs) (y::ys)) ∘ Nat.succ=itE f xs ys:=by funext j;simp[itE]
    rw[e0,e1,<-d];exact h.symm
theorem GR{f:D->D->Option Bool}:∀{xs ys:List D}{b:Bool},wI f xs ys=lm b->∀(j:Nat)(x y:D),xs[j]?=lm x->ys[j]?=lm y->f x y=lm (itE f xs ys j)
 |[],ys,b,_,j,x,y,hx,_=>by simp at hx
 |x::xs,[],b,_,j,_,y,_,hy=>by simp at hy
 |x::xs,y::ys,b,h,0,x',y',hx,hy=>by
  simp at hx hy;subst hx hy;unfold wI at h;cases e:f x y with
  |none=>rw[e]at h;simp at h
  |some a=>simp[itE,e]
 | x::xs,y::ys,b,h,j+1,x',y',hx,hy=>by
  unfold wI at h;cases e:f x y with
  |none=>rw[e]at h;simp at h
  |some a=>
   cases i:wI f xs ys with
   |none=>rw[e,i]at h;simp at h
   |some c=>have q:=GR i j x' y' (by simpa using hx) (by simpa using hy);rw[q];simp[itE]
section
variable{X:Cx}{Z9:Pns}{σ:St}{F H:Hp}{s:lx}
noncomputable def smp:D->Bool
 |.int _|.str _|.tup _|.lst _=>lv
 |_=>lw
theorem qft{n:Nat}{d e:D}{b:Bool}(h:eqN n d e=lm b):smp d=true:=by cases d <;> first|rfl|(cases n <;> exact nomatch (show lr=lm b from h))
theorem qkC{n:Nat}{d e:D}{b:Bool}(h:eqN n d e=lm b):smp e=true:=by cases e <;> first|rfl|(cases n <;> cases d <;> exact nomatch (show lr=lm b from h))
theorem qcR(I:Inv X Z9 σ H s)(t:Same F H){a:Z7}{xs ys:List V}(p:SqT X.K F a xs)(q:SqL X.K F a ys):False:=by obtain⟨_,_,b,_⟩:=I.list (t.seq q);obtain⟨_,_,e,_⟩:=I.tuple (qY t p);exact absurd rfl (PySem.SeqAt.ne_of_list_tuple b.isList e)
theorem zV{f:D->D->Option Bool}{x y:D}{xs ys:List D}{b:Bool}(h:wI f (x::xs) (y::ys)=lm b):∃a c,f x y=lm a/\wI f xs ys=lm c/\b=(a&&c):=by
 unfold wI at h;cases e:f x y with
 |none=>rw[e]at h;cases h
 |some a=>
  cases i:wI f xs ys with
  |none=>rw[e,i]at h;cases h
  |some c=>rw[e,i]at h;exact⟨a,c,rfl,rfl,(aU.inj h).symm⟩
theorem zW{n:Nat}{xs ys:List D}{b:Bool}(h:eqN (n+1) (.tup xs) (.tup ys)=lm b):∃c,wI (eqN n) xs ys=lm c/\b=(c&&xs.length == ys.length):=by
 have h:((wI (eqN n) xs ys).map λb=>b&&xs.length == ys.length)=lm b:=h;cases e:wI (eqN n) xs ys with
 |none=>rw[e]at h;cases h
 |some c=>rw[e]at h;exact⟨c,rfl,(aU.inj h).symm⟩
theorem GS(I:Inv X Z9 σ H s)(g:Same F H):∀(n:Nat){v:V}{d e:D}{b:Bool},Is X.K F v d->Is X.K F v e->eqN n d e=lm b->b=true:=by
 have base:∀{n:Nat}{v:V}{d e:D}{b:Bool},Is X.K F v d->Is X.K F v e->eqN n d e=lm b->(∀a xs ds es,Is X.K F (.ref a) (.tup ds)->SqT X.K F a xs->IsL X.K F xs ds->IsL X.K F xs es->eqN n (.tup ds) (.tup es)=lm b->b=lv)->(∀a xs ds es,SqL X.K F a xs->IsL X.K F xs ds->IsL X.K F xs es->eqN n (.lst ds) (.lst es)=lm b->b=lv)->b=true:=by
  intro n v d e b h1 h2 h ht hl;have s1:=qft h;have s2:=qkC h;cases h1 with
  |int x=>cases h2 with
   |int=>cases n <;> exact(aU.inj h).symm.trans (beq_self_eq_true x)
   |raw=>cases s2
  |str _=>cases h2 with
   |str _=>cases n <;> exact(aU.inj h).symm.trans (beq_self_eq_true _)
   |raw=>cases s2
  |tup p1 f=>cases h2 with
   |tup p2 t=>have q:=I.tuple_inj (qY g p1) (qY g p2);subst q;exact ht _ _ _ _ (.tup p1 f) p1 f t h
   |lst p2 t=>exact(qcR I g p1 p2).elim
   |_=>cases s2
  |lst p1 f=>cases h2 with
   |lst p2 t=>have q:=I.list_inj (g.seq p1) (g.seq p2);subst q;exact hl _ _ _ _ p1 f t h
   |tup p2 t=>exact(qcR I g p2 p1).elim
   |_=>cases s2
  |_=>cases s1
 intro n
 induction n with
 |zero=>exact λ{_ _ _ _} h1 h2 h=>base h1 h2 h (λ_ _ _ _ _ _ _ _ h=>nomatch (show lr=lm _ from h)) λ_ _ _ _ _ _ _ h=>nomatch (show lr=lm _ from h)
 | succ n k=>
  have l:∀{xs:List V}{ds es:List D}{b:Bool},IsL X.K F xs ds->IsL X.K F xs es->wI (eqN n) ds es=lm b->b=true:=by
   intro xs
   induction xs with
   |nil=>intro ds es b h1 h2 h;cases h1;cases h2;exact(aU.inj h).symm
   | cons x xs i=>
    intro ds es b h1 h2 h;cases h1 with
    |cons o f=>
     cases h2 with
     |cons m t=>obtain⟨a,c,q,j,rfl⟩:=zV h;rw[k o m q,i f t j];rfl
  intro v d e b h1 h2 h;refine base h1 h2 h (λa xs ds es _ _ f t h=>?_) λa xs ds es _ f t h=>?_;·obtain⟨c,q,rfl⟩:=zW h;rw[l f t q,f.length.symm.trans t.length,beq_self_eq_true];rfl
  .have h:(if ds.length=es.length then wI (eqN n) ds es else lm lw)=lm _:=h;rw[Aa (f.length.symm.trans t.length)]at h;exact l f t h
end
open PySem.SeqAt
section
variable{X:Cx}{Z9:Pns}{σ:St}{F H:Hp}{s:lx}
theorem Vals.getE{xs:List V}{us:List lu}(r:Vals xs us){j:Nat}(h:j<us.length):∃x,xs[j]?=lm x/\RelV x us[j]:=by
 have hl:=r.length;have D:j<xs.length:=by lia
 obtain⟨u,e1,e⟩:=Vals.get (i:=j) (x:=xs[j]) r (by simp[D]);refine⟨xs[j],by simp[D],?_⟩;rw[aG h]at e1;cases e1;exact e
theorem uw{A:lG}{n:Nat}{xs ys:List V}{ds es:List D}{us ws:List lu}{b:Bool}(g:∀{v w:V}{d e:D}{u t:lu}{b:Bool},Is X.K F v d->Is X.K F w e->RelV v u->RelV w t->eqN n d e=lm b->EqAt A s u t b)(r1:Vals xs us)(r2:Vals ys ws)(i1:IsL X.K F xs ds)(i2:IsL X.K F ys es)(h:wI (eqN n) ds es=lm b) :
  ∀j (h1:j<us.toArray.size) (h2:j<ws.toArray.size),EqAt A s us.toArray[j] ws.toArray[j] (itE (eqN n) ds es j):=by
 intro j h1 h2;have c:j<us.length:=by simpa using h1
 have a:j<ws.length:=by simpa using h2
 obtain⟨x,ex,f⟩:=Vals.getE r1 c;obtain⟨y,l,r⟩:=Vals.getE r2 a;obtain⟨d,o,i⟩:=i1.get ex;obtain⟨e,m,k⟩:=i2.get l;have q:=GR h j d e o m;simpa using g i k f r q
theorem Yr{A:lG}{n:Nat}{a c:Z7}{xs ys:List V}{ds es:List D}{b:Bool}(I:Inv X Z9 σ H s)(j:∀{v w:V}{d e:D}{u t:lu}{b:Bool},Is X.K F v d->Is X.K F w e->RelV v u->RelV w t->eqN n d e=lm b->EqAt A.in1 s u t b)(p1:SqT X.K H a xs)(p2:SqT X.K H c ys)(i1:IsL X.K F xs ds)(i2:IsL X.K F ys es)(h:eqN (n+1) (.tup ds) (.tup es)=lm b)(m:A.units<lY):RcAt A s (.ref a) (.ref c) b:=by
 obtain⟨us,r1,g,_⟩:=I.tuple p1;obtain⟨ws,r2,f,_⟩:=I.tuple p2;simp only[eqN]at h;cases q:wI (eqN n) ds es with
 |none=>rw[q]at h;simp at h
 |some k=>
  rw[q]at h;have i:us.toArray.size=ds.length:=by rw[au,<-r1.length,i1.length]
  have l:ws.toArray.size=es.length:=by rw[au,<-r2.length,i2.length]
  have z:=RcAt.tuples (A:=A) g f m (uw (A:=A.in1) j r1 r2 i1 i2 q);rw[i,l,<-vU q]at z;have e:b=(k&&ds.length == es.length):=by simpa using h.symm
  rw[e];exact z
theorem Ys{A:lG}{n:Nat}{a c:Z7}{xs ys:List V}{ds es:List D}{b:Bool}(I:Inv X Z9 σ H s)(k:∀{v w:V}{d e:D}{u t:lu}{b:Bool},Is X.K F v d->Is X.K F w e->RelV v u->RelV w t->eqN n d e=lm b->EqAt A.in1 s u t b)(p1:SqL X.K H a xs)(p2:SqL X.K H c ys)(i1:IsL X.K F xs ds)(i2:IsL X.K F ys es)(h:eqN (n+1) (.lst ds) (.lst es)=lm b)(j:A.units<lY):RcAt A s (.ref a) (.ref c) b:=by
 obtain⟨us,r1,g,_⟩:=I.list p1;obtain⟨ws,r2,f,_⟩:=I.list p2;have i:us.toArray.size=ds.length:=by rw[au,<-r1.length,i1.length]
 have l:ws.toArray.size=es.length:=by rw[au,<-r2.length,i2.length]
 simp only[eqN]at h;by_cases hl:ds.length=es.length;·rw[Aa hl]at h;have z:=RcAt.lists (A:=A) g.isList f.isList 'b' j (uw (A:=A.in1) k r1 r2 i1 i2 h);have e:=vU h;rw[i]at z;rw[e,show min ds.length es.length=ds.length by lia];exact z
 .rw[Ab hl]at h;cases h;exact RcAt.lists_lengths g.isList f.isList (bne_iff_ne.mpr (by rw[i,l];exact hl)) j
def Kd(s:lx):D->lu->Prop
 |.int i,u=>∃t,u=.int i t
 |.str x,u=>∃t,u=.str x t
 |_,_=>True
theorem Zn(I:Inv X Z9 σ H s)(b:Same F H){v:V}{d:D}{u:lu}(t:TopIs X.K F H v d)(r:RelV v u):Kd s d u:=by
 cases d with
 |int=>obtain rfl:=t.int;exact r
 |str=>obtain⟨rfl,_⟩:=t.str;exact r
 |_=>trivial
theorem qii{A:lG}{d e:D}{u t:lu}{b:Bool}(a:A.units<lY)(k1:Kd s d u)(k2:Kd s e t)(h:eqS d e=lm b):EqAt A s u t b:=by
 cases d <;> cases e <;> try (cases h;done)
 all_goals
  cases h;obtain⟨_,rfl⟩:=k1;obtain⟨_,rfl⟩:=k2
  with_reducible first|exact EqAt.int_int _ _ _ _|exact EqAt.str_str _ _ _ _
set_option tactic.hygienic true in
theorem GT(I:Inv X Z9 σ H s)(f:Same F H):∀(n:Nat){A:lG}{v w:V}{d e:D}{u t:lu}{b:Bool},A.units+n<lY->Is X.K F v d->Is X.K F w e->RelV v u->RelV w t->eqN n d e=lm b->EqAt A s u t b:=by
 intro n
 induction n with
 |zero=>exact λB h1 h2 x r h=>qii 'b' (Zn I f (.inl h1) x) (Zn I f (.inl h2) r) h
 | succ n p=>
  intro A v w d e u t b B h1 h2 x r h;have j:A.in1.units+n<lY:=by show A.units+1+n<lY;lia
  by_cases both:(∃xs ys,d=.tup xs/\e=.tup ys)\/(∃xs ys,d=.lst xs/\e=.lst ys)
  .rcases both with⟨ds,es,rfl,rfl⟩|⟨ds,es,rfl,rfl⟩
   .have i:=h1;have g:=h2;cases h1 with
    | tup p1 l=>
     cases h2 with
     |tup p2 k=>
      rename_i a xs c ys;cases x;cases r;by_cases ne:a=c;·subst ne;rw[GS I f (n+1) i g h];exact EqAt.same _
      .exact EqAt.of_refs ne (Yr I (λo m z y q=>p j o m z y q) (qY f p1) (qY f p2) l k h 'b')
   .have i:=h1;have g:=h2;cases h1 with
    | lst p1 l=>
     cases h2 with
     |lst p2 k=>
      rename_i a xs c ys;cases x;cases r;by_cases ne:a=c;·subst ne;rw[GS I f (n+1) i g h];exact EqAt.same _
      .exact EqAt.of_refs ne (Ys I (λo m z y q=>p j o m z y q) (f.seq p1) (f.seq p2) l k h 'b')
  .have e1:eqN (n+1) d e=eqS d e:=Yq (λxs ys o m=>both (.inl ⟨xs,ys,o,m⟩)) (λxs ys o m=>both (.inr ⟨xs,ys,o,m⟩));have C:eqN n d e=eqS d e:=Yq (λxs ys o m=>both (.inl ⟨xs,ys,o,m⟩)) (λxs ys o m=>both (.inr ⟨xs,ys,o,m⟩));exact p 'b' h1 h2 x r (by rw[C,<-e1];exact h)
end
variable{X:Cx}{A:lG}{n:Nat}{b:Bool}
section
variable{Z9:Pns}{σ:St}{F H:Hp}{s:lx}
theorem qcS{a c:Z7}{xs ys:List V}{ds es:List D}(I:Inv X Z9 σ H s)(j:∀{v w:V}{d e:D}{u t:lu}{b:Bool},Is X.K F v d->Is X.K F w e->RelV v u->RelV w t->eqN n d e=lm b->EqAt A.in1 s u t b)(p1:SqT X.K H a xs)(p2:SqT X.K H c ys)(i1:IsL X.K F xs ds)(i2:IsL X.K F ys es)(h:eqN (n+1) (.tup ds) (.tup es)=lm b)(m:A.units<lY):RcNeAt A s (.ref a) (.ref c) (!b):=by
 obtain⟨us,r1,g,_⟩:=I.tuple p1;obtain⟨ws,r2,f,_⟩:=I.tuple p2;simp only[eqN]at h;cases q:wI (eqN n) ds es with
 |none=>rw[q]at h;simp at h
 |some k=>
  rw[q]at h;have i:us.toArray.size=ds.length:=by rw[au,<-r1.length,i1.length]
  have l:ws.toArray.size=es.length:=by rw[au,<-r2.length,i2.length]
  have z:=RcNeAt.tuples (A:=A) g f m (uw (A:=A.in1) j r1 r2 i1 i2 q);rw[i,l,<-vU q]at z;have e:b=(k&&ds.length == es.length):=by simpa using h.symm
  rw[e];exact z
theorem qcT{a c:Z7}{xs ys:List V}{ds es:List D}(I:Inv X Z9 σ H s)(k:∀{v w:V}{d e:D}{u t:lu}{b:Bool},Is X.K F v d->Is X.K F w e->RelV v u->RelV w t->eqN n d e=lm b->EqAt A.in1 s u t b)(p1:SqL X.K H a xs)(p2:SqL X.K H c ys)(i1:IsL X.K F xs ds)(i2:IsL X.K F ys es)(h:eqN (n+1) (.lst ds) (.lst es)=lm b)(j:A.units<lY):RcNeAt A s (.ref a) (.ref c) (!b):=by
 obtain⟨us,r1,g,_⟩:=I.list p1;obtain⟨ws,r2,f,_⟩:=I.list p2;have i:us.toArray.size=ds.length:=by rw[au,<-r1.length,i1.length]
 have l:ws.toArray.size=es.length:=by rw[au,<-r2.length,i2.length]
 simp only[eqN]at h;by_cases hl:ds.length=es.length;·rw[Aa hl]at h;have z:=RcNeAt.lists (A:=A) g.isList f.isList 'b' j (uw (A:=A.in1) k r1 r2 i1 i2 h);have e:=vU h;rw[i]at z;rw[e,show min ds.length es.length=ds.length by lia];exact z
 .rw[Ab hl]at h;cases h;exact RcNeAt.lists_lengths g.isList f.isList (bne_iff_ne.mpr (by rw[i,l];exact hl)) j
theorem qij(I:Inv X Z9 σ H s)(f:Same F H){v w:V}{d e:D}{u t:lu}(l:A.units+n+1<lY)(i:TopIs X.K F H v d)(g:TopIs X.K F H w e)(x:RelV v u)(r:RelV w t)(h:eqN (n+1) d e=lm b):RcAt A s u t b:=by
 have k:A.units<lY:=by lia
 have j:∀{v w:V}{d e:D}{u t:lu}{b:Bool},Is X.K F v d->Is X.K F w e->RelV v u->RelV w t->eqN n d e=lm b->EqAt A.in1 s u t b:=λo m z y q=>GT I f n (by show A.units+1+n<lY;lia) o m z y q;have k1:=Zn I f i x;have k2:=Zn I f g r;cases d <;> cases e <;> try (cases h;done)
 case tup.tup=>
  obtain⟨a,xs,rfl,p1,i1⟩:=i.tup f;obtain⟨c,ys,rfl,p2,i2⟩:=g.tup f;cases x;cases r;exact Yr I j p1 p2 i1 i2 h k
 case lst.lst=>
  obtain⟨a,xs,rfl,p1,i1⟩:=i.lst f;obtain⟨c,ys,rfl,p2,i2⟩:=g.lst f;cases x;cases r;exact Ys I j p1 p2 i1 i2 h k
 all_goals
  cases h;clear x r i g;obtain⟨_,rfl⟩:=k1;obtain⟨_,rfl⟩:=k2
  with_reducible first|exact RcAt.int_int _ _ _ _|exact RcAt.str_str _ _ _ _
theorem qik(I:Inv X Z9 σ H s)(f:Same F H){v w:V}{d e:D}{u t:lu}(l:A.units+n+1<lY)(i:TopIs X.K F H v d)(g:TopIs X.K F H w e)(x:RelV v u)(r:RelV w t)(h:eqN (n+1) d e=lm b):RcNeAt A s u t (!b):=by
 have k:A.units<lY:=by lia
 have j:∀{v w:V}{d e:D}{u t:lu}{b:Bool},Is X.K F v d->Is X.K F w e->RelV v u->RelV w t->eqN n d e=lm b->EqAt A.in1 s u t b:=λo m z y q=>GT I f n (by show A.units+1+n<lY;lia) o m z y q;have k1:=Zn I f i x;have k2:=Zn I f g r;cases d <;> cases e <;> try (cases h;done)
 case tup.tup=>
  obtain⟨a,xs,rfl,p1,i1⟩:=i.tup f;obtain⟨c,ys,rfl,p2,i2⟩:=g.tup f;cases x;cases r;exact qcS I j p1 p2 i1 i2 h k
 case lst.lst=>
  obtain⟨a,xs,rfl,p1,i1⟩:=i.lst f;obtain⟨c,ys,rfl,p2,i2⟩:=g.lst f;cases x;cases r;exact qcT I j p1 p2 i1 i2 h k
 all_goals
  cases h;clear x r i g;obtain⟨_,rfl⟩:=k1;obtain⟨_,rfl⟩:=k2
  with_reducible first|exact RcNeAt.int_int _ _ _ _|exact RcNeAt.str_str _ _ _ _
end
def eqD(a b:D):Out D:=match eqN 8 a b with
 |some c=>.ok (.bl c)
 |none=>.bad
def neD(a b:D):Out D:=match eqN 8 a b with
 |some c=>.ok (.bl (!c))
 |none=>.bad
section
variable{C:Ct}
theorem wP(l:C.K=X.K)(f:X.A.units+64<lY):OpD X C .sh (lI .Eq) eqD:=by
 intro Z9 s σ H x y v u Q I d r h;obtain⟨F,dx,a,b,t,ty,po⟩:=h;rw[l]at t ty;unfold eqD at po;cases e:eqN 8 dx a with
 |none=>rw[e]at po;exact po.elim
 |some c=>rw[e]at po;exact qij I b (n:=7) 'b' t ty d r e _ _ _ _ ⟨.bl c,H,I,rfl,po _ F H b .refl (.bl _)⟩
theorem Vn(l:C.K=X.K)(f:X.A.units+64<lY):OpD X C .sh (lI .NotEq) neD:=by
 intro Z9 s σ H x y v u Q I d r h;obtain⟨F,dx,a,b,t,ty,po⟩:=h;rw[l]at t ty;unfold neD at po;cases e:eqN 8 dx a with
 |none=>rw[e]at po;exact po.elim
 |some c=>rw[e]at po;exact qik I b (n:=7) 'b' t ty d r e _ _ _ _ ⟨.bl _,H,I,rfl,po _ F H b .refl (.bl _)⟩
end
variable{X:Cx}{Z9:Pns}{σ:St}{F H:Hp}{s:lx}{n:Nat}{v:V}{d e:D}{b:Bool}
section
theorem qfu(I:Inv X Z9 σ H s)(j:Same F H):∀(n:Nat){v:V}{d d' e:D}{b f:Bool},Is X.K F v d->Is X.K F v d'->eqN n d e=lm b->eqN n d' e=lm f->b=f:=by
 intro n
 induction n with
 | zero=>
  intro v d d' e b f h1 h2 e1 i;cases d with
  |int=>cases h1;cases h2 with
   |int=>exact aU.inj (e1.symm.trans i)
   |raw=>exact nomatch (show lr=lm f from i)
  |str=>cases h1;cases h2 with
   |str=>exact aU.inj (e1.symm.trans i)
   |raw=>exact nomatch (show lr=lm f from i)
  |_=>exact nomatch (show lr=lm b from e1)
 | succ n r=>
  have l:∀{xs:List V}{ds g es:List D}{b f:Bool},IsL X.K F xs ds->IsL X.K F xs g->wI (eqN n) ds es=lm b->wI (eqN n) g es=lm f->b=f:=by
   intro xs
   induction xs with
   |nil=>intro ds g es b f h1 h2 e1 i;cases h1;cases h2;exact aU.inj (e1.symm.trans i)
   | cons x xs o=>
    intro ds g es b f h1 h2 e1 i;cases h1 with
    | cons w h=>
     cases h2 with
     |cons u t=>
      cases es with
      |nil=>exact aU.inj (e1.symm.trans i)
      |cons e es=>obtain⟨a,c,q,p,rfl⟩:=zV e1;obtain⟨y,S,m,k,rfl⟩:=zV i;rw[r w u q m,o h t p k]
  intro v d d' e b f h1 h2 e1 i;have s1:=qft e1;have s2:=qft i;cases h1 with
  | tup p1 h=>
   cases h2 with
   |tup p2 t=>
    have q:=I.tuple_inj (qY j p1) (qY j p2);subst q;have hl:=h.length.symm.trans t.length;cases e with
    |tup es=>obtain⟨c,q,rfl⟩:=zW e1;obtain⟨S,m,rfl⟩:=zW i;rw[l h t q m,hl]
    |_=>exact nomatch (show lr=lm b from e1)
   |lst p2 t=>exact(qcR I j p1 p2).elim
   |_=>cases s2
  | lst p1 h=>
   cases h2 with
   | lst p2 t=>
    have q:=I.list_inj (j.seq p1) (j.seq p2);subst q;have hl:=h.length.symm.trans t.length;cases e with
    |lst es=>
     have e1:(if _=es.length then wI (eqN n) _ es else lm lw)=lm b:=e1;have i:(if _=es.length then wI (eqN n) _ es else lm lw)=lm f:=i;rw[hl]at e1;split at i;·rw[Aa (by assumption)]at e1;exact l h t e1 i
     .rw[Ab (by assumption)]at e1;exact aU.inj (e1.symm.trans i)
    |_=>exact nomatch (show lr=lm b from e1)
   |tup p2 t=>exact(qcR I j p2 p1).elim
   |_=>cases s2
  |int=>cases h2 with
   |int=>exact aU.inj (e1.symm.trans i)
   |raw=>cases s2
  |str=>cases h2 with
   |str=>exact aU.inj (e1.symm.trans i)
   |raw=>cases s2
  |_=>cases s1
open Classical in
def Gf(X:Cx)(F:Hp)(n:Nat)(e:D)(u:lu):Bool:=decide (∃v d,Is X.K F v d/\RelV v u/\eqN n d e=lm lv)
open Classical in
theorem GU(I:Inv X Z9 σ H s)(t:Same F H){u:lu}(h:Is X.K F v d)(r:RelV v u)(q:eqN n d e=lm b):Gf X F n e u=b:=by
 unfold Gf;cases b with
 |true=>exact Ad ⟨v,d,h,r,q⟩
 |false=>refine Ac ?_;rintro⟨w,d',h',r',f⟩;have e:=r.inj r';subst e;exact absurd (qfu I t n h h' q f) 'e'
def QT(n:Nat)(e:D):List D->Option Bool
 |[]=>lm lw
 |d::ds=>(eqN n d e).bind λa=>(QT n e ds).bind λb=>lm (a||b)
theorem Vo{ds:List D}(h:QT n e (d::ds)=lm b):∃a c,eqN n d e=lm a/\QT n e ds=lm c/\b=(a||c):=by
 unfold QT at h;cases q:eqN n d e with
 |none=>rw[q]at h;simp at h
 |some a=>
  cases f:QT n e ds with
  |none=>rw[q,f]at h;simp at h
  |some c=>rw[q,f]at h;exact⟨a,c,rfl,rfl,(aU.inj h).symm⟩
theorem GV(I:Inv X Z9 σ H s)(k:Same F H):∀{vs:List V}{ds:List D}{us:List lu}{b:Bool},IsL X.K F vs ds->Vals vs us->QT n e ds=lm b->us.any (Gf X F n e)=b/\∀u∈us,∃v d a,Is X.K F v d/\RelV v u/\eqN n d e=lm a/\Gf X F n e u=a
 |_,_,_,b,.nil,.nil,h=>⟨by simpa using(aU.inj h),λu f=>nomatch f⟩
 |_,_,_,b,.cons i t,.cons r rs,h=>by
  obtain⟨a,c,q,l,rfl⟩:=Vo h;obtain⟨j,g⟩:=GV I k t rs l;have e1:=GU I k i r q;refine⟨by rw[cX,e1,j],λu f=>?_⟩;rcases af.mp f with rfl|f;·exact⟨_,_,a,i,r,q,e1⟩
  .exact g u f
end
def inD(x y:D):Out Bool:=match y with
 |.lst ds=>match QT 7 x ds with
  |some b=>.ok b
  |none=>.bad
 |.tup ds=>match QT 7 x ds with
  |some b=>.ok b
  |none=>.bad
 |_=>.bad
def qil(x y:D):Out D:=(inD x y).bind λb=>.ok (.bl b)
def Ue(x y:D):Out D:=(inD x y).bind λb=>.ok (.bl (!b))
theorem TopIs.is{K:Y9}(s:Same F H)(h:TopIs K F H v d):∃F',Same F F'/\Same F' H/\Is K F' v d:=by
 rcases h with h|⟨a,rfl,o⟩
 .exact⟨F,Same.refl _,s,h⟩
 .obtain⟨u,hu⟩:∃u,H a=lm u:=by
   cases q:H a with
   |none=>exact absurd q o.there
   |some u=>exact⟨u,rfl⟩
  by_cases g:F a=lr
  .have gr:Same F (upd F a u):=λb w e=>by rw[qw (qE e g)];exact e
   refine⟨upd F a u,gr,λb w e=>?_,?_⟩
   .by_cases q:b=a;·subst q;rw[qm]at e;cases e;exact hu
    .rw[qw q]at e;exact s b w e
   .cases d with
    |lst ds=>obtain⟨xs,e,t⟩:=o;rw[hu]at e;cases e;exact .lst (.inl (.inl qm)) (t.mono gr)
    |dct ds=>obtain⟨xs,e,t⟩:=o;rw[hu]at e;cases e;exact .dct qm (t.mono gr)
    |ins C fs=>obtain⟨dx,xs,e,t⟩:=o;rw[hu]at e;cases e;exact .ins qm (t.mono gr)
    |at_ b ds=>obtain⟨D,xs,e,t⟩:=o;rw[hu]at e;cases e;subst D;exact .at_ (.inl (.inl qm)) (t.mono gr)
    |_=>exact o.elim
  .obtain⟨w,hw⟩:∃w,F a=lm w:=by
    cases q:F a with
    |none=>exact absurd q g
    |some w=>exact⟨w,rfl⟩
   have e:=s a w hw;cases d with
   |lst ds=>obtain⟨xs,c,t⟩:=o;rw[c]at e;cases e;exact⟨F,Same.refl _,s,.lst (.inl (.inl hw)) t⟩
   |dct ds=>obtain⟨xs,c,t⟩:=o;rw[c]at e;cases e;exact⟨F,Same.refl _,s,.dct hw t⟩
   |ins C fs=>obtain⟨dx,xs,c,t⟩:=o;rw[c]at e;cases e;exact⟨F,Same.refl _,s,.ins hw t⟩
   |at_ b ds=>obtain⟨D,xs,c,t⟩:=o;rw[c]at e;cases e;subst D;exact⟨F,Same.refl _,s,.at_ (.inl (.inl hw)) t⟩
   |_=>exact o.elim
section
variable{C:Ct}
theorem Vp{A:lG}{y x:V}{dx:D}{ds:List D}{b:Bool}{u v:lu}{a:Z7}{us:List lu}{xs:List V}(I:Inv X Z9 σ H s)(g:A.units+64<lY)(t:Same F H)(ix:Is X.K F x dx)(c:RelV x v)(i:IsL X.K F xs ds)(r:Vals xs us)(h:QT 7 dx ds=lm b):us.any (Gf X F 7 dx)=b/\∀w,w∈us.toArray->EqAt A.in1 s w v (Gf X F 7 dx w):=by
 obtain⟨h1,h2⟩:=GV I t i r h;refine⟨h1,λw hw=>?_⟩;obtain⟨f,d,k,i1,r1,q,e⟩:=h2 w (by simpa using hw);rw[e];exact GT I t 7 (by show A.units+1+7<lY;lia) i1 ix r1 c q
theorem qkD(l:C.K=X.K)(j:X.A.units+64<lY):OpD X C .sh (lI .In) qil:=by
 intro Z9 s σ H x y v u Q I g f h;obtain⟨F,dx,k,t,d,ty,po⟩:=h;rw[l]at d ty;unfold qil inD at po;obtain⟨F',g',c,ix⟩:=d.is t;cases k with
 |lst ds=>
  cases e:QT 7 dx ds with
  |none=>simp only[e]at po;exact po.elim
  |some b=>simp only[e]at po;obtain⟨a,xs,rfl,p,i⟩:=ty.lst t;cases f;obtain⟨us,r,pl,_⟩:=I.list p;obtain⟨h1,h2⟩:=Vp (A:=X.A) (y:=.non) (a:=a) (u:=.none) I j c ix g (i.mono g') r e;refine in_listAt (Gf X F' 7 dx) pl.isList h2 ⟨.bl b,H,I,by show _=_;rw[<-h1];simp,po _ F H t .refl (.bl _)⟩
 |tup ds=>
  cases e:QT 7 dx ds with
  |none=>simp only[e]at po;exact po.elim
  |some b=>simp only[e]at po;obtain⟨a,xs,rfl,p,i⟩:=ty.tup t;cases f;obtain⟨us,r,pl,_⟩:=I.tuple p;obtain⟨h1,h2⟩:=Vp (A:=X.A) (y:=.non) (a:=a) (u:=.none) I j c ix g (i.mono g') r e;refine in_tupleAt (Gf X F' 7 dx) pl h2 ⟨.bl b,H,I,by show _=_;rw[<-h1];simp,po _ F H t .refl (.bl _)⟩
 |_=>exact po.elim
theorem qcU(l:C.K=X.K)(j:X.A.units+64<lY):OpD X C .sh (lI .NotIn) Ue:=by
 intro Z9 s σ H x y v u Q I g f h;obtain⟨F,dx,k,t,d,ty,po⟩:=h;rw[l]at d ty;unfold Ue inD at po;obtain⟨F',g',c,ix⟩:=d.is t;cases k with
 |lst ds=>
  cases e:QT 7 dx ds with
  |none=>simp only[e]at po;exact po.elim
  |some b=>simp only[e]at po;obtain⟨a,xs,rfl,p,i⟩:=ty.lst t;cases f;obtain⟨us,r,pl,_⟩:=I.list p;obtain⟨h1,h2⟩:=Vp (A:=X.A) (y:=.non) (a:=a) (u:=.none) I j c ix g (i.mono g') r e;refine notIn_listAt (Gf X F' 7 dx) pl.isList h2 ⟨.bl (!b),H,I,by show _=_;rw[<-h1];simp,po _ F H t .refl (.bl _)⟩
 |tup ds=>
  cases e:QT 7 dx ds with
  |none=>simp only[e]at po;exact po.elim
  |some b=>simp only[e]at po;obtain⟨a,xs,rfl,p,i⟩:=ty.tup t;cases f;obtain⟨us,r,pl,_⟩:=I.tuple p;obtain⟨h1,h2⟩:=Vp (A:=X.A) (y:=.non) (a:=a) (u:=.none) I j c ix g (i.mono g') r e;refine notIn_tupleAt (Gf X F' 7 dx) pl h2 ⟨.bl (!b),H,I,by show _=_;rw[<-h1];simp,po _ F H t .refl (.bl _)⟩
 |_=>exact po.elim
end
end L2.D2
namespace L2.D2
open PySem PySem.Spec PyProof.Rows
def PoT(C:Ct)(own:List Nat)(σ:St)(F H:Hp)(r:Out (Bool×Sl))(Q:Bool->Hp->Prop):Prop:=match r with
 |.ok (b,ρ')=>∀F' H',Rep C.K own F' H' σ ρ'->Chg (OA own σ) F H F' H'->Q b H'
 |.exc c ρ'=>∀F' H',Same F' H'->Yo C.K C.ox F' H' σ ρ'->Chg (OA own σ) F H F' H'->C.E (C.cv c) lr H'
 |.bad=>False
abbrev yu:=Sl->Out (Bool×Sl)
def tT(C:Ct)(own:List Nat)(f:yu):TT:=λσ H Q=>∃F ρ,Rep C.K own F H σ ρ/\PoT C own σ F H (f ρ) Q
variable{C:Ct}{own:List Nat}{σ:St}{F H F1 H1:Hp}{Q:Bool->Hp->Prop}
theorem PoT.shift{r:Out (Bool×Sl)}(h:PoT C own σ F H r Q)(c:Chg (OA own σ) F H F1 H1):PoT C own σ F1 H1 r Q:=by
 cases r with
 |ok p=>exact λF' H' a S=>h F' H' a (c.trans' S)
 |exc x=>exact λF' H' s io S=>h F' H' s io (c.trans' S)
 |bad=>exact h.elim
theorem PoT.bindV{ma:Mo}{o:Vl}{k:D×Sl->Out (Bool×Sl)}{R:VK}(hp:PoT C own σ F H (o.bind k) Q)(h:∀v F1 H1 d ρ1,Rep C.K own F1 H1 σ ρ1->Chg (OA own σ) F H F1 H1->MoIs C.K ma H F1 H1 v d->PoT C own σ F1 H1 (k (d,ρ1)) Q->R v H1):Po C own ma σ F H o R:=by
 cases o with
 |ok p=>obtain⟨d,ρ1⟩:=p;exact λv F1 H1 a c mo=>h v F1 H1 d ρ1 a c mo (PoT.shift (show PoT C own σ F H (k (d,ρ1)) Q from hp) c)
 |exc x=>exact hp
 |bad=>exact hp.elim
variable{o:Out (Bool×Sl)}
theorem PoT.bindT{k:Bool×Sl->Out (Bool×Sl)}{R:Bool->Hp->Prop}(hp:PoT C own σ F H (o.bind k) Q)(h:∀F1 H1 b ρ1,Rep C.K own F1 H1 σ ρ1->Chg (OA own σ) F H F1 H1->PoT C own σ F1 H1 (k (b,ρ1)) Q->R b H1):PoT C own σ F H o R:=by
 cases o with
 |ok p=>obtain⟨d,ρ1⟩:=p;exact λF1 H1 a c=>h F1 H1 d ρ1 a c (PoT.shift (show PoT C own σ F H (k (d,ρ1)) Q from hp) c)
 |exc x=>exact hp
 |bad=>exact hp.elim
variable{m:Mo}
theorem Po.bindT{k:Bool×Sl->Vl}{Q:VK}{R:Bool->Hp->Prop}(hp:Po C own m σ F H (o.bind k) Q)(h:∀F1 H1 b ρ1,Rep C.K own F1 H1 σ ρ1->Chg (OA own σ) F H F1 H1->Po C own m σ F1 H1 (k (b,ρ1)) Q->R b H1):PoT C own σ F H o R:=by
 cases o with
 |ok p=>obtain⟨d,ρ1⟩:=p;exact λF1 H1 a c=>h F1 H1 d ρ1 a c (Po.shift (show Po C own m σ F H (k (d,ρ1)) Q from hp) c)
 |exc x=>exact hp
 |bad=>exact hp.elim
noncomputable def Gg:D->Out Bool
 |.non=>.ok lw
 |.bl b=>.ok b
 |.int i=>.ok (i != 0)
 |.str x=>.ok ((x.length:Int) != 0)
 |.tup xs=>.ok (!xs.isEmpty)
 |.lst xs=>.ok (!xs.isEmpty)
 |.dct xs=>.ok (!xs.isEmpty)
 |.raw _=>.bad
 |.xcp _=>.bad
 |.ins _ _=>.bad
 |.at_ _ _=>.bad
def wS(f:qW):yu:=λρ=>(f ρ).bind λp=>(Gg p.1).bind λb=>.ok (b,p.2)
variable{K:Y9}{vs:List V}{ds:List D}
theorem IsL.isEmpty(h:IsL K F vs ds):vs.isEmpty=ds.isEmpty:=by cases h <;> rfl
theorem IsK.isEmpty{vs:List (Key×V)}{ds:List (Key×D)}(h:IsK K F vs ds):vs.isEmpty=ds.isEmpty:=by cases h <;> rfl
variable{v:V}{d:D}
theorem qfv{b:Bool}(s:Same F H)(h:TopIs K F H v d)(e:Gg d=.ok b):qkq K v H b:=by
 cases d with
 |non=>obtain rfl:=h.non;cases e;rfl
 |bl x=>obtain rfl:=h.bl;cases e;rfl
 |int x=>obtain rfl:=h.int;cases e;rfl
 |str x=>obtain⟨rfl,q⟩:=h.str;cases e;exact⟨q,rfl⟩
 |tup x=>obtain⟨a,xs,rfl,p,t⟩:=h.tup s;cases e;exact .inr (.inl ⟨xs,p,by rw[t.isEmpty]⟩)
 |lst x=>obtain⟨a,xs,rfl,p,t⟩:=h.lst s;cases e;exact .inl ⟨xs,p,by rw[t.isEmpty]⟩
 |dct x=>obtain⟨a,xs,rfl,p,t⟩:=h.dct s;cases e;exact .inr (.inr ⟨xs,p,by rw[t.isEmpty]⟩)
 |raw x=>cases e
 |xcp x=>cases e
 |ins x y=>cases e
 |at_ x y=>cases e
def qK(f:qW):yu:=λρ=>(f ρ).bind λp=>match p.1 with
 |.bl b=>.ok (b,p.2)
 |_=>.bad
variable{X:Cx}{c e t:Z4}{ma mb:Mo}{pos:Pos}{op op':CmpOp}{g g':D->D->Out D}{ρ:Sl}
section
variable{a b:Z4}{f fa fb fc:qW}{ft fu:yu}{mc:Mo}{rest:List Z4}
theorem qfw(l:C.K=X.K)(h:PE X e (tE C own m f))(he:∀whole,isTrue e X.env whole=(do let v <-whole;oB e.pos;holding [v] (truthy v))):PT X e (tT C own (wS f)):=by
 refine qcP (qcD h he) λσ H Q ⟨F,ρ,r,h⟩=>⟨F,ρ,r,PoT.bindV h λv F1 H1 d ρ1 a c1 c h1=>?_⟩
 cases q:Gg d with
 |ok k=>have h1:PoT C own σ F1 H1 ((Gg d).bind λb=>.ok (b,ρ1)) Q:=h1;rw[q]at h1;exact⟨k,by rw[<-l];exact qfv a.sub c.top q,h1 F1 H1 a .refl⟩
 |exc x=>have h1:PoT C own σ F1 H1 ((Gg d).bind λb=>.ok (b,ρ1)) Q:=h1;cases d <;> cases q
 |bad=>have h1:PoT C own σ F1 H1 ((Gg d).bind λb=>.ok (b,ρ1)) Q:=h1;rw[q]at h1;exact h1.elim
theorem GW(h:tT C own (qK f) σ H Q):tE C own .sh f σ H λx H'=>∃k,x=.bl k/\Q k H':=by
 obtain⟨F,ρ,r,h⟩:=h;refine⟨F,ρ,r,PoT.bindV h λv F1 H1 d ρ1 a c1 c h1=>?_⟩;cases d with
 |bl k=>have c:Is C.K F1 v (.bl k):=c;cases c;exact⟨k,rfl,h1 F1 H1 a .refl⟩
 |_=>exact h1.elim
theorem qG(l:OpD X C .sh (lI op) g)(c:PE X a 'p')(hb:PE X b (tE C own mb fb))(f:ma≠.any:=by decide)(k:mS op b=false:=by first|exact qef _|with_unfolding_all rfl):PT X (.Compare a [op] [b] pos) (tT C own (qK (d2 g fa fb))):=by
 refine qcP (qe7 l c hb k) λσ H Q h=>?_;exact Vm f (GW h)
def uN(ft:yu):yu:=λρ=>(ft ρ).bind λp=>.ok (!p.1,p.2)
theorem qZ(h:PT X a (tT C own ft)):PT X (.UnaryOp .Not a pos) (tT C own (uN ft)):=by refine qcP (qhP h) λσ H Q ⟨F,ρ,p,h⟩=>⟨F,ρ,p,PoT.bindT h λF1 H1 b ρ1 r c1 h1=>h1 F1 H1 r .refl⟩
theorem qim{e:Z4}{t t':TT}(h:PW X e t)(i:∀σ H Q,t' σ H Q->t σ H Q):PW X e t':=⟨λw Z9 s σ H Q I hw=>h w Z9 s σ H Q I (i σ H Q hw)⟩
def qin(ft fu:yu):yu:=λρ=>(ft ρ).bind λp=>if p.1=lv then fu p.2 else .ok (lw,p.2)
def dOr(ft fu:yu):yu:=λρ=>(ft ρ).bind λp=>if p.1=lv then .ok (lv,p.2)else fu p.2
theorem kF{op}(h:PT X a (tT C own ft)):PW X (.BoolOp op [a] pos) (tT C own ft):=by
 cases op;·exact qe1 h
 .exact qhN h
theorem GX(f:PT X a (tT C own ft))(hb:PW X (.BoolOp .And (b::rest) pos) (tT C own fu)):PW X (.BoolOp .And (a::b::rest) pos) (tT C own (qin ft fu)):=by
 refine qim (qhO f hb) λσ H Q ⟨F,ρ,p,h⟩=>⟨F,ρ,p,PoT.bindT h λF1 H1 k ρ1 r c1 h1=>?_⟩
 cases k with
 |true=>exact⟨F1,ρ1,r,h1⟩
 |false=>exact h1 F1 H1 r .refl
theorem wT(f:PT X a (tT C own ft))(hb:PW X (.BoolOp .Or (b::rest) pos) (tT C own fu)):PW X (.BoolOp .Or (a::b::rest) pos) (tT C own (dOr ft fu)):=by
 refine qim (qka f hb) λσ H Q ⟨F,ρ,p,h⟩=>⟨F,ρ,p,PoT.bindT h λF1 H1 k ρ1 r c1 h1=>?_⟩
 cases k with
 |true=>exact h1 F1 H1 r .refl
 |false=>exact⟨F1,ρ1,r,h1⟩
def Qx(fa fb:qW):qW:=λρ=>(fa ρ).bind λp=>match p.1 with
 |.bl lv=>fb p.2
 |.bl lw=>.ok (.bl lw,p.2)
 |_=>.bad
def qjJ(fa fb:qW):qW:=λρ=>(fa ρ).bind λp=>match p.1 with
 |.bl lv=>.ok (.bl lv,p.2)
 |.bl lw=>fb p.2
 |_=>.bad
theorem QU{op}(h:PE X a (tE C own m f)):PE X (.BoolOp op [a] pos) (tE C own m f):=qhQ h
theorem QV(f:PE X a (tE C own .sh fa))(hb:PE X (.BoolOp .And (b::rest) pos) (tE C own .sh fb)):PE X (.BoolOp .And (a::b::rest) pos) (tE C own .sh (Qx fa fb)):=by
 refine jp (qhR f hb) λσ H Q ⟨F,ρ,p,h⟩=>⟨F,ρ,p,Po.bind h λv F1 H1 d ρ1 r c1 c h1=>?_⟩
 cases d with
 |bl k=>
  have c:Is C.K F1 v (.bl k):=c;cases c;refine⟨k,rfl,?_⟩;cases k with
  |true=>exact⟨F1,ρ1,r,h1⟩
  |false=>exact h1 _ F1 H1 r .refl (.bl _)
 |_=>exact h1.elim
theorem qkE(f:PE X a (tE C own .sh fa))(hb:PE X (.BoolOp .Or (b::rest) pos) (tE C own .sh fb)):PE X (.BoolOp .Or (a::b::rest) pos) (tE C own .sh (qjJ fa fb)):=by
 refine jp (qkc f hb) λσ H Q ⟨F,ρ,p,h⟩=>⟨F,ρ,p,Po.bind h λv F1 H1 d ρ1 r c1 c h1=>?_⟩
 cases d with
 |bl k=>
  have c:Is C.K F1 v (.bl k):=c;cases c;refine⟨k,rfl,?_⟩;cases k with
  |true=>exact h1 _ F1 H1 r .refl (.bl _)
  |false=>exact⟨F1,ρ1,r,h1⟩
 |_=>exact h1.elim
def dIf(ft:yu)(fa fb:qW):qW:=λρ=>(ft ρ).bind λp=>if p.1=lv then fa p.2 else fb p.2
theorem GY(ht:PT X t (tT C own ft))(f:PE X a 'p')(hb:PE X b (tE C own mb fb))(h1:ma≠.any:=by decide)(h2:mb≠.any:=by decide):PE X (.IfExp t a b pos) (tE C own .sh (dIf ft fa fb)):=by
 refine jp (qcx ht (yx f h1) (yx hb h2)) λσ H Q ⟨F,ρ,p,h⟩=>⟨F,ρ,p,Po.bindT h λF1 H1 k ρ1 r c1 h1=>?_⟩
 cases k with
 |true=>exact⟨F1,ρ1,r,h1⟩
 |false=>exact⟨F1,ρ1,r,h1⟩
def wU(g g':D->D->Out D)(fa fb fc:qW):qW:=λρ=>(fa ρ).bind λp=>(fb p.2).bind λq=>(g p.1 q.1).plain.bind λz=>match z with
 |.bl lv=>(fc q.2).bind λr=>(g' q.1 r.1).plain.bind λd=>.ok (d,r.2)
 |.bl lw=>.ok (.bl lw,q.2)
 |_=>.bad
theorem PoV.bind{o:Out D}{k:D->Vl}{Q R:VK}(a:Rep C.K own F H σ ρ)(h:Po C own m σ F H (o.plain.bind k) Q)(b:∀v F1 H1 d,Rep C.K own F1 H1 σ ρ->Chg No F H F1 H1->MoIs C.K ma H F1 H1 v d->Po C own m σ F1 H1 (k d) Q->R v H1):PoV C ma F H o R:=by
 cases o with
 |ok d=>exact λv F1 H1 s c mo=>b v F1 H1 d (a.grow c s) c mo (Po.shift (show Po C own m σ F H (k d) Q from h) c.ofNo)
 |exc c=>exact h.elim
 |bad=>exact h.elim
theorem Yt{Q:VK}(s:ma≠.any)(l:mb≠.any)(h:tE C own .sh (wU g g' fa fb fc) σ H Q):Gw (λx y H Q=>∃F dx n,Same F H/\TopIs C.K F H x dx/\TopIs C.K F H y n/\PoV C .sh F H (g dx n) Q) (λx y H Q=>∃F dx n,Same F H/\TopIs C.K F H x dx/\TopIs C.K F H y n/\PoV C .sh F H (g' dx n) Q)
   'p' (tE C own mb fb) (tE C own mc fc) σ H Q:=by
 obtain⟨F,ρ,A,h⟩:=h;refine⟨F,ρ,A,Po.bind h λv F1 H1 d ρ1 i c1 q h1=>⟨F1,ρ1,i,Po.bind h1 λw M H2 e ρ2 f c2 j h2=>?_⟩⟩;have oa:∀x,OA own σ x->H x≠none:=λx z=>(A.OA_there z).1;have o:∀x,OA own σ x->H1 x≠none:=λx z=>(i.OA_there z).1;refine⟨M,d,e,f.sub,(q.grow s c2 oa).top,j.top,PoV.bind (m:=.sh) f h2 λz u J E c I a t=>?_⟩;cases E with
 |bl k=>
  have a:Is C.K u z (.bl k):=a;cases a;refine⟨k,rfl,?_⟩;cases k with
  |true=>refine⟨u,ρ2,c,Po.bind t λR L N r B b G p D=>?_⟩;exact⟨L,e,r,b.sub,((j.grow l (I.ofNo) o).grow l G o).top,p.top,PoV.of b D⟩
  |false=>exact t _ u J c .refl (.bl _)
 |_=>exact t.elim
theorem Yu(o:OpD X C .sh (lI op) g)(d:OpD X C .sh (lI op') g')(i:PE X a 'p')(hb:PE X b (tE C own mb fb))(e:PE X c (tE C own mc fc))(f:ma≠.any:=by decide)(l:mb≠.any:=by decide)(m:lastMarks [op,op'] [b,c]=false:=by with_unfolding_all rfl):PE X (.Compare a [op,op'] [b,c] pos) (tE C own .sh (wU g g' fa fb fc)):=jp (qcB o d i hb e m) λ_ _ _ h=>Yt f l h
theorem zX(o:OpD X C .sh (lI op) g)(d:OpD X C .sh (lI op') g')(i:PE X a 'p')(hb:PE X b (tE C own mb fb))(e:PE X c (tE C own mc fc))(f:ma≠.any:=by decide)(l:mb≠.any:=by decide)(m:lastMarks [op,op'] [b,c]=false:=by with_unfolding_all rfl):PT X (.Compare a [op,op'] [b,c] pos) (tT C own (qK (wU g g' fa fb fc))):=qcP (qcC o d i hb e m) λ_ _ _ h=>Yt f l (GW h)
theorem GZ:OpR X (lI .LtE) (λx y H Q=>∃i j,x=.str i/\y=.str j/\Q (.bl (!wO j i)) H):=by intro Z9 s σ H x y v u Q I d c h;obtain⟨i,j,rfl,rfl,q⟩:=h;obtain⟨t,rfl⟩:=d;obtain⟨t',rfl⟩:=c;exact PySem.P.le_str (Gu I q (by simp[wO]))
def leD:D->D->Out D
 |.int i,.int j=>.ok (.bl (decide (i<=j)))
 |.str x,.str y=>.ok (.bl (!wO y x))
 |_,_=>.bad
theorem zY:OpD X C .sh (lI .LtE) leD:=by
 intro Z9 s σ H x y v u Q I d c h;obtain⟨F,dx,a,b,t,ty,po⟩:=h;cases dx <;> try exact po.elim
 .cases a <;> try exact po.elim
  obtain rfl:=t.int;obtain rfl:=ty.int;exact qko Z9 s σ H _ _ v u Q I d c ⟨_,_,rfl,rfl,po _ F H b .refl (.bl _)⟩
 .cases a <;> try exact po.elim
  obtain⟨rfl,_⟩:=t.str;obtain⟨rfl,_⟩:=ty.str;exact GZ Z9 s σ H _ _ v u Q I d c ⟨_,_,rfl,rfl,po _ F H b .refl (.bl _)⟩
def gtD:D->D->Out D:=KU λi j=>.ok (.bl (decide (j<i)))
def geD:D->D->Out D:=KU λi j=>.ok (.bl (decide (j<=i)))
theorem qfx:OpD X C .sh (lI .GtE) geD:=GO qkp λ_ _ _=>.bl _
noncomputable def qkF:D->D->Out D
 |.non,.non=>.ok (.bl lv)
 |.raw _,.non=>.bad
 |_,.non=>.ok (.bl lw)
 |_,_=>.bad
noncomputable def qaa:D->D->Out D
 |.non,.non=>.ok (.bl lw)
 |.raw _,.non=>.bad
 |_,.non=>.ok (.bl lv)
 |_,_=>.bad
theorem TopIs.notN(h:TopIs K F H v d)(h1:d≠.non)(h2:∀u,d≠.raw u):v≠.non:=by
 rintro rfl;rcases h with h|⟨a,e,_⟩
 .cases h;·exact h1 rfl
  .exact h2 _ rfl
 .cases e
theorem qfy:OpD X C .sh (lI .IsNot) qaa:=by
 intro Z9 s σ H x y v u Q I r c h;obtain⟨F,dx,d,b,t,ty,po⟩:=h;have B:d=.non:=by cases d <;> first|rfl|(cases dx <;> exact po.elim)
 subst B;obtain rfl:=ty.non;refine qe5 Z9 s σ H x .non v u Q I r c ⟨rfl,?_⟩;cases dx with
 |non=>obtain rfl:=t.non;exact po _ F H b .refl (.bl _)
 |raw _=>exact po.elim
 |_=>rw[Ac (t.notN (by intro z;cases z) (by intro _ z;cases z))];exact po _ F H b .refl (.bl _)
end
inductive Fl where
 |nx|rt (d:D)|bk|ct
structure Nx(C:Ct)(own own':List Nat)(σ:St)(F H:Hp)(ρ':Sl)(σ':St)(F' H':Hp):Prop where
 rep:Rep C.K own' F' H' σ' ρ'
 chg:Chg (OA own σ) F H F' H'
 oa:∀b,OA own' σ' b->OA own σ b\/H b=lr
 io:∀i∈C.io,σ'[i]?=σ[i]?
def PoS(C:Ct)(own own':List Nat)(σ:St)(F H:Hp)(r:Out (Fl×Sl))(D:Ends):Prop:=match r with
 |.ok (.nx,ρ')=>∀σ' F' H',Nx C own own' σ F H ρ' σ' F' H'->D.nx σ' H'
 |.ok (.rt d,ρ')=>∀v σ' F' H',Same F' H'->Yo C.K C.io F' H' σ' ρ'->Chg (OA own σ) F H F' H'->(∀i∈C.io,σ'[i]?=σ[i]?)->MoIs C.K C.mr H F' H' v d->D.rt v H'
 |.ok (.bk,ρ')=>∀σ' F' H',Nx C own C.ol σ F H ρ' σ' F' H'->D.bk σ' H'
 |.ok (.ct,ρ')=>∀σ' F' H',Nx C own C.ol σ F H ρ' σ' F' H'->D.ct σ' H'
 |.exc c ρ'=>∀F' H',Same F' H'->Yo C.K C.ox F' H' σ ρ'->Chg (OA own σ) F H F' H'->C.E (C.cv c) lr H'
 |.bad=>False
abbrev qM:=Sl->Out (Fl×Sl)
def tSt(C:Ct)(own own':List Nat)(f:qM):TS:=λD σ H=>∃F ρ,Rep C.K own F H σ ρ/\PoS C own own' σ F H (f ρ) D
variable{o1 o2 o3:List Nat}{σ1:St}{ρ1:Sl}
theorem Nx.then{c:St}{d H2:Hp}{ρ2:Sl}(a:Nx C o1 o2 σ F H ρ1 σ1 F1 H1)(b:Nx C o2 o3 σ1 F1 H1 ρ2 c d H2):Nx C o1 o3 σ F H ρ2 c d H2 where
 rep:=b.rep
 chg:=a.chg.trans b.chg a.oa
 oa:=λx h=>by
  rcases b.oa x h with z|z;·exact a.oa x z
  .refine .inr ?_;cases q:H x with
   |none=>rfl
   |some o=>exact absurd z (a.chg.stay x (by rw[q];simp))
 io:=λi hi=>(b.io i hi).trans (a.io i hi)
theorem PoS.shift{r:Out (Fl×Sl)}{D:Ends}(h:PoS C o1 o3 σ F H r D)(a:Nx C o1 o2 σ F H ρ1 σ1 F1 H1):PoS C o2 o3 σ1 F1 H1 r D:=by
 cases r with
 |ok p=>
  obtain⟨fl,ρ'⟩:=p;cases fl with
  |nx=>exact λσ' F' H' n=>h σ' F' H' (a.then n)
  |rt d=>exact λv σ' F' H' s io c e mo=>h v σ' F' H' s io (a.chg.trans c a.oa) (λi hi=>(e i hi).trans (a.io i hi)) (MoIs.back (Ha:=H1) a.chg mo)
  |bk=>exact λσ' F' H' n=>h σ' F' H' (a.then n)
  |ct=>exact λσ' F' H' n=>h σ' F' H' (a.then n)
 |exc c=>exact λF' H' s io S=>h F' H' s (λi hi=>by obtain⟨d,b,e1,g,f⟩:=io i hi;exact⟨d,b,e1,by rw[<-a.io i (C.oxs i hi)];exact g,f⟩) (a.chg.trans S a.oa)
 |bad=>exact h.elim
theorem Nx.ofE(r:Rep C.K own F1 H1 σ ρ1)(c:Chg (OA own σ) F H F1 H1):Nx C own own σ F H ρ1 σ F1 H1:=⟨r,c,λ_ h=>.inl h,λ_ _=>rfl⟩
variable{own':List Nat}
theorem PoS.bindE{m:Mo}{o:Vl}{k:D×Sl->Out (Fl×Sl)}{D:Ends}{R:VK}(hp:PoS C own own' σ F H (o.bind k) D)(h:∀v F1 H1 d ρ1,Rep C.K own F1 H1 σ ρ1->Chg (OA own σ) F H F1 H1->MoIs C.K m H F1 H1 v d->PoS C own own' σ F1 H1 (k (d,ρ1)) D->R v H1):Po C own m σ F H o R:=by
 cases o with
 |ok p=>obtain⟨d,ρ1⟩:=p;exact λv F1 H1 a c mo=>h v F1 H1 d ρ1 a c mo (PoS.shift (show PoS C own own' σ F H (k (d,ρ1)) D from hp) (.ofE a c))
 |exc x=>exact hp
 |bad=>exact hp.elim
theorem PoS.bindT{k:Bool×Sl->Out (Fl×Sl)}{D:Ends}{R:Bool->Hp->Prop}(hp:PoS C own own' σ F H (o.bind k) D)(h:∀F1 H1 b ρ1,Rep C.K own F1 H1 σ ρ1->Chg (OA own σ) F H F1 H1->PoS C own own' σ F1 H1 (k (b,ρ1)) D->R b H1):PoT C own σ F H o R:=by
 cases o with
 |ok p=>obtain⟨d,ρ1⟩:=p;exact λF1 H1 a c=>h F1 H1 d ρ1 a c (PoS.shift (show PoS C own own' σ F H (k (d,ρ1)) D from hp) (.ofE a c))
 |exc x=>exact hp
 |bad=>exact hp.elim
variable{b a:Z7}{t':TS}{st:Z3}{i:Nat}{x:Str}{pos':Pos}
section
variable{sts rest:List Z3}{f g:qM}{fe:qW}{ft:yu}
theorem Qy{t:TS}(h:PS X st t)(i:∀D σ H,t' D σ H->t D σ H):PS X st t':=⟨λZ9 s σ H D I hw=>h Z9 s σ H D I (i D σ H hw)⟩
theorem Vq{t:TS}(h:PSs X sts t)(i:∀D σ H,t' D σ H->t D σ H):PSs X sts t':=⟨λZ9 s σ H D I hw=>h Z9 s σ H D I (i D σ H hw)⟩
noncomputable def jd:qM:=λρ=>.ok (.nx,ρ)
def qH(f g:qM):qM:=λρ=>(f ρ).bind λp=>match p.1 with
 |.nx=>g p.2
 |fl=>.ok (fl,p.2)
theorem Nx.refl(r:Rep C.K own F H σ ρ):Nx C own own σ F H ρ σ F H:=.ofE r .refl
theorem qC:PSs X [] (tSt C own own jd):=Vq Go λD σ H ⟨F,ρ,a,h⟩=>h σ F H (.refl a)
theorem qio{D:Ends}(h:tSt C o1 o3 (qH f g) D σ H):tSt C o1 o2 f { D with nx:=tSt C o2 o3 g D } σ H:=by
 obtain⟨F,ρ,a,h⟩:=h;refine⟨F,ρ,a,?_⟩;unfold qH at h;cases q:f ρ with
 |ok p=>
  rw[q]at h;obtain⟨fl,ρ1⟩:=p;cases fl with
  |nx=>exact λσ' F' H' n=>⟨F',ρ1,n.rep,PoS.shift (show PoS C o1 o3 σ F H (g ρ1) D from h) n⟩
  |rt d=>exact h
  |bk=>exact h
  |ct=>exact h
 |exc c=>rw[q]at h;exact h
 |bad=>rw[q]at h;exact h.elim
theorem qe(h1:PS X st (tSt C o1 o2 f))(h2:PSs X rest (tSt C o2 o3 g)):PSs X (st::rest) (tSt C o1 o3 (qH f g)):=Vq (Ym h1 h2) λD σ H h=>qio h
theorem qf(h1:PS X st (tSt C o1 o2 f)):PSs X [st] (tSt C o1 o2 f):=Gp h1
theorem Rep.weak{K:Y9}{F H:Hp}{σ:St}{ρ:Sl}:∀(drop:List Nat){own own':List Nat},(∀i,i∈own'↔i∈own/\i∉drop)->Rep K own F H σ ρ->∃F',Rep K own' F' H σ ρ/\Chg (OA own σ) F H F' H
 |[],own,own',hs,rp=>⟨F,⟨rp.sub,rp.len,λi d hi=>rp.val i d λz=>hi ((hs i).mpr ⟨z,by simp⟩),λi d hi=>rp.ow i d ((hs i).mp hi).1,λi hi=>rp.opn i ((hs i).mp hi).1,λi j a hi D=>rp.dis i j a ((hs i).mp hi).1 ((hs j).mp D).1⟩,.refl⟩
 | k::r,own,own',hs,rp=>by
  obtain⟨F1,c,c1⟩:=Rep.weak r (own:=own) (own':=own.filter λi=>decide (i∉r)) (λi=>by simp) rp;by_cases f:k∈own/\k∉r
  .obtain⟨d,hd⟩:=c.opn k (by simp[f.1,f.2]);obtain⟨a,h1,h2,g⟩:=c.ow k d (by simp[f.1,f.2]) hd;obtain⟨u,hu⟩:∃u,H a=lm u:=by
    cases q:H a with
    |none=>exact absurd q g.there
    |some u=>exact⟨u,rfl⟩
   have gr:Same F1 (upd F1 a u):=λb w e=>by rw[qw (qE e h2)];exact e
   refine⟨upd F1 a u,⟨λb w e=>?_,c.len,λi d' hi e=>?_,λi d' hi e=>?_,λi hi=>?_,λi j b hi D=>?_⟩,?_⟩
   .by_cases q:b=a;·subst q;rw[qm]at e;cases e;exact hu
    .rw[qw q]at e;exact c.sub b w e
   .by_cases q:i=k
    .subst q;rw[hd]at e;cases e;refine⟨_,h1,?_⟩;cases d with
     |lst ds=>obtain⟨xs,e,t⟩:=g;rw[hu]at e;cases e;exact .lst (.inl (.inl qm)) (t.mono gr)
     |dct ds=>obtain⟨xs,e,t⟩:=g;rw[hu]at e;cases e;exact .dct qm (t.mono gr)
     |ins C fs=>obtain⟨dx,xs,e,t⟩:=g;rw[hu]at e;cases e;exact .ins qm (t.mono gr)
     |at_ b ds=>obtain⟨y,xs,e,t⟩:=g;rw[hu]at e;cases e;subst y;exact .at_ (.inl (.inl qm)) (t.mono gr)
     |_=>exact g.elim
    .obtain⟨v,n,o⟩:=c.val i d' (λz=>by simp at z;exact hi ((hs i).mpr ⟨z.1,by simp[q,z.2]⟩)) e;exact⟨v,n,o.mono gr⟩
   .have h:=(hs i).mp hi;have p:i≠k:=λz=>h.2 (by simp[z]);have m:i∉r:=λz=>h.2 (by simp[z]);obtain⟨b,n,o,s⟩:=c.ow i d' (by simp[h.1,m]) e;refine⟨b,n,?_,s.grow gr λ_ z=>z⟩;have x:b≠a:=λz=>by subst z;exact p (c.dis i k b (by simp[h.1,m]) (by simp[f.1,f.2]) n h1)
    rw[qw x];exact o
   .have h:=(hs i).mp hi;exact c.opn i (by simp[h.1];exact λz=>h.2 (by simp[z]))
   .have h:=(hs i).mp hi;have l:=(hs j).mp D;exact c.dis i j b (by simp[h.1];exact λz=>h.2 (by simp[z])) (by simp[l.1];exact λz=>l.2 (by simp[z]))
   .refine⟨c1.keep,c1.stay,c1.grow.trans gr,λb hb=>?_⟩;by_cases q:b=a;·exact .inr (.inr ⟨k,f.1,by rw[q];exact h1⟩)
    .rw[qw q]at hb;exact c1.new b hb
  .refine⟨F1,⟨c.sub,c.len,λi d hi=>c.val i d λz=>?_,λi d hi=>c.ow i d ?_,λi hi=>c.opn i ?_,λi j a hi D=>c.dis i j a ?_ ?_⟩,c1⟩;·simp at z;refine hi ((hs i).mpr ⟨z.1,?_⟩);simp only[af,not_or];exact⟨λq=>f (by subst q;exact z),z.2⟩
   all_goals
    first
     |(have q:=(hs _).mp hi;simp only[dj,decide_eq_true_eq];exact⟨q.1,λz=>q.2 (by simp[z])⟩)
     |(have q:=(hs _).mp D;simp only[dj,decide_eq_true_eq];exact⟨q.1,λz=>q.2 (by simp[z])⟩)
theorem OA.sub(h:∀i∈own',i∈own)(q:OA own' σ b):OA own σ b:=let ⟨i,hi,e⟩:=q; ⟨i,h i hi,e⟩
theorem Nx.drop(drop:List Nat)(hs:∀i,i∈own'↔i∈own/\i∉drop)(r:Rep C.K own F H σ ρ):∃F',Nx C own own' σ F H ρ σ F' H:=by obtain⟨F',a,c⟩:=Rep.weak drop hs r;exact⟨F',a,c,λb q=>.inl (OA.sub (λi hi=>((hs i).mp hi).1) q),λ_ _=>rfl⟩
noncomputable def vK(own drop:List Nat):List Nat:=own.filter λi=>decide (i∉drop)
theorem jg{own drop:List Nat}(i:Nat):i∈vK own drop↔i∈own/\i∉drop:=by simp[vK]
theorem kn(drop:List Nat)(h:PSs X sts (tSt C (vK own drop) o2 f)):PSs X sts (tSt C own o2 f):=Vq h λD σ H ⟨F,ρ,a,h⟩=>by obtain⟨F',n⟩:=Nx.drop (C:=C) drop (λi=>jg (own:=own) i) a;exact⟨F',ρ,n.rep,h.shift n⟩
def sIf(ft:yu)(f g:qM):qM:=λρ=>(ft ρ).bind λp=>if p.1=lv then f p.2 else g p.2
theorem qR{a b:List Z3}(d:PT X c (tT C own ft))(e:PSs X a (tSt C own own' f))(hb:PSs X b (tSt C own own' g)):PS X (.If c a b pos) (tSt C own own' (sIf ft f g)):=by
 refine Qy (qkf d e hb) λD σ H ⟨F,ρ,p,h⟩=>⟨F,ρ,p,PoS.bindT h λF1 H1 k ρ1 r c1 h1=>?_⟩
 cases k with
 |true=>exact⟨F1,ρ1,r,h1⟩
 |false=>exact⟨F1,ρ1,r,h1⟩
def kG(fe:qW):qM:=λρ=>(fe ρ).bind λp=>.ok (.nx,p.2)
theorem ji(he:PE X e (tE C own m fe))(hs:mm e lr pos.line X.env=pure false:=by rfl):PS X (.Expr e pos) (tSt C own own (kG fe)):=by refine Qy (qe2 he hs) λD σ H ⟨F,ρ,r,h⟩=>⟨F,ρ,r,PoS.bindE h λv F1 H1 d ρ1 a c1 c h1=>h1 σ F1 H1 (.refl a)⟩
def jl(fe:qW):qM:=λρ=>(fe ρ).bind λp=>.ok (.rt p.1,p.2)
theorem qfz(he:PE X e (tE C own C.mr fe))(o:∀i∈C.io,i∈own:=by exact jK rfl):PS X (.Return (lm e) pos) (tSt C own own' (jl fe)):=by
 refine Qy (qed he) λD σ H ⟨F,ρ,r,h⟩=>⟨F,ρ,r,?_⟩
 unfold jl at h;cases q:fe ρ with
 |ok p=>rw[q]at h;obtain⟨d,ρ1⟩:=p;exact λv F1 H1 a c1 m=>h v σ F1 H1 a.sub (a.ioIs o) c1 (λ_ _=>rfl) m
 |exc c=>rw[q]at h;exact h
 |bad=>rw[q]at h;exact h.elim
theorem qg(he:PE X e (tE C own m fe))(h:m≠.any:=by decide)(c:C.mr=.sh:=by rfl)(o:∀i∈C.io,i∈own:=by exact jK rfl):PS X (.Return (lm e) pos) (tSt C own own' (jl fe)):=qfz (by rw[c];exact yx he h) o
theorem Rep.put(r:Rep K own F H σ ρ)(hi:i < ρ.length)(is:Is K F v d):Rep K (vK own [i]) F H (σ.set i (lm v)) (ρ.set i (lm d)) where
 sub:=r.sub
 len:=by simp[r.len]
 val:=λj d' D e=>by
  by_cases q:j=i;·subst q;rw[aL hi]at e;cases e;exact⟨v,aL (by rw[r.len];exact hi),is⟩
  .rw[aA (bj q)]at e;obtain⟨w,h1,h2⟩:=r.val j d' (λz=>D ((jg j).mpr ⟨z,by simp[q]⟩)) e;exact⟨w,by rw[aA (bj q)];exact h1,h2⟩
 ow:=λj d' D e=>by have l:=(jg j).mp D;have q:j≠i:=λz=>l.2 (by simp[z]);rw[aA (bj q)]at e;obtain⟨a,h1,h2⟩:=r.ow j d' l.1 e;exact⟨a,by rw[aA (bj q)];exact h1,h2⟩
 opn:=λj D=>by have l:=(jg j).mp D;have q:j≠i:=λz=>l.2 (by simp[z]);obtain⟨d',e⟩:=r.opn j l.1;exact⟨d',by rw[aA (bj q)];exact e⟩
 dis:=λj k a D c e1 b=>by have l:=(jg j).mp D;have h:=(jg k).mp c;rw[aA (λz=>l.2 (by simp[z]))]at e1;rw[aA (λz=>h.2 (by simp[z]))]at b;exact r.dis j k a l.1 h.1 e1 b
theorem OA.put(h:OA (vK own [i]) (σ.set i (lm v)) b):OA own σ b:=by obtain⟨j,D,e⟩:=h;have l:=(jg j).mp D;rw[aA (λz=>l.2 (by simp[z]))]at e;exact⟨j,l.1,e⟩
def jz(i:Nat)(fe:qW):qM:=λρ=>(fe ρ).bind λp=>if i<p.2.length then .ok (.nx,p.2.set i (lm p.1))else .bad
theorem qfA(l:X.N.Nodup)(hi:X.N[i]?=lm x)(hx:Loc X.env.scope x)(he:PE X e (tE C own m fe))(f:m≠.any:=by decide)(o:i∉C.io:=by exact yw rfl)(hs:mm e (lm (.Name x pos')) pos.line X.env=pure false:=by rfl)(k:X.fn x=lv\/X.env.scope.names.lookup x=lm .local:=by first|exact .inl rfl|exact .inr rfl):PS X (.Assign [.Name x pos'] e pos) (tSt C own (vK own [i]) (jz i fe)):=by
 refine Qy (qee l hi hx (yx he f) hs k) λD σ H ⟨F,ρ,r,h⟩=>⟨F,ρ,r,PoS.bindE h λv F1 H1 d ρ1 a c1 c h1=>?_⟩
 by_cases q:i < ρ1.length;·have h1:PoS C own (vK own [i]) σ F1 H1 (if i < ρ1.length then .ok (.nx,ρ1.set i (lm d))else .bad) D:=h1;rw[Aa q]at h1;exact h1 _ F1 H1 ⟨a.put q c,.refl,λb z=>.inl (OA.put z),λj g=>aA λz=>o (by rw[z];exact g)⟩
 .have h1:PoS C own (vK own [i]) σ F1 H1 (if i < ρ1.length then .ok (.nx,ρ1.set i (lm d))else .bad) D:=h1;rw[Ab q]at h1;exact h1.elim
theorem Rep.putO(r:Rep K own F H σ ρ)(hi:i < ρ.length)(s:F a=lr)(n:¬OA own σ a)(o:OwnIs K F H a d):Rep K (i::vK own [i]) F H (σ.set i (lm (.ref a))) (ρ.set i (lm d)) where
 sub:=r.sub
 len:=by simp[r.len]
 val:=λj d' D e=>by have q:j≠i:=λz=>D (by simp[z]);rw[aA (bj q)]at e;obtain⟨w,h1,h2⟩:=r.val j d' (λz=>D (ae _ ((jg j).mpr ⟨z,by simp[q]⟩))) e;exact⟨w,by rw[aA (bj q)];exact h1,h2⟩
 ow:=λj d' D e=>by
  by_cases q:j=i;·subst q;rw[aL hi]at e;cases e;exact⟨a,aL (by rw[r.len];exact hi),s,o⟩
  .have l:=(jg j).mp ((af.mp D).resolve_left q);rw[aA (bj q)]at e;obtain⟨b,h1,h2⟩:=r.ow j d' l.1 e;exact⟨b,by rw[aA (bj q)];exact h1,h2⟩
 opn:=λj D=>by
  by_cases q:j=i;·subst q;exact⟨d,aL hi⟩
  .have l:=(jg j).mp ((af.mp D).resolve_left q);obtain⟨d',e⟩:=r.opn j l.1;exact⟨d',by rw[aA (bj q)];exact e⟩
 dis:=λj k b D p e1 f=>by
  have m:i < σ.length:=by rw[r.len];exact hi
  by_cases g:j=i
  .by_cases c:k=i;·rw[g,c]
   .subst g;have h:=(jg k).mp ((af.mp p).resolve_left c);rw[aL m]at e1;cases e1;rw[aA (bj c)]at f;exact absurd ⟨k,h.1,f⟩ n
  .have l:=(jg j).mp ((af.mp D).resolve_left g);by_cases c:k=i;·subst c;rw[aL m]at f;cases f;rw[aA (bj g)]at e1;exact absurd ⟨j,l.1,e1⟩ n
   .have h:=(jg k).mp ((af.mp p).resolve_left c);rw[aA (bj g)]at e1;rw[aA (bj c)]at f;exact r.dis j k b l.1 h.1 e1 f
theorem qcV(u:X.N.Nodup)(hi:X.N[i]?=lm x)(hx:Loc X.env.scope x)(he:PE X e (tE C own .fr fe))(k:i∉C.io:=by exact yw rfl)(hs:mm e (lm (.Name x pos')) pos.line X.env=pure false:=by rfl)(t:X.fn x=lv\/X.env.scope.names.lookup x=lm .local:=by first|exact .inl rfl|exact .inr rfl):PS X (.Assign [.Name x pos'] e pos) (tSt C own (i::vK own [i]) (jz i fe)):=by
 refine Qy (qee u hi hx he hs t) λD σ H ⟨F,ρ,n,h⟩=>⟨F,ρ,n,?_⟩
 unfold jz at h;cases q:fe ρ with
 | ok p=>
  rw[q]at h;obtain⟨d,ρ1⟩:=p;intro v F1 H1 r c1 m;obtain⟨a,rfl,s,w,o⟩:=m;by_cases z:i < ρ1.length
  .have h1:PoS C own (i::vK own [i]) σ F H (if i < ρ1.length then .ok (.nx,ρ1.set i (lm d))else .bad) D:=h;rw[Aa z]at h1;refine h1 _ F1 H1 ⟨r.putO z w (λy=>(n.OA_there y).1 s) o,c1,λb y=>?_,λj f=>aA λy=>k (by rw[y];exact f)⟩;obtain⟨j,f,e⟩:=y;by_cases g:j=i;·subst g;rw[aL (by rw[r.len];exact z)]at e;cases e;exact .inr s
   .have l:=(jg j).mp ((af.mp f).resolve_left g);rw[aA (bj g)]at e;exact .inl ⟨j,l.1,e⟩
  .have h1:PoS C own (i::vK own [i]) σ F H (if i < ρ1.length then .ok (.nx,ρ1.set i (lm d))else .bad) D:=h;rw[Ab z]at h1;exact h1.elim
 |exc c=>rw[q]at h;exact h
 |bad=>rw[q]at h;exact h.elim
end
inductive AK where
 |vl|sl (i:Nat)|fr
 deriving DecidableEq
def ArgV(K:Y9)(H0 F H:Hp)(σ:St):List AK->List V->List D->Prop
 |[],[],[]=>True
 |.vl::as,v::vs,d::ds=>Is K F v d/\ArgV K H0 F H σ as vs ds
 |.sl i::as,v::vs,d::ds=>σ[i]?=lm (lm v)/\d=.non/\ArgV K H0 F H σ as vs ds
 |.fr::as,v::vs,d::ds=>MoIs K .fr H0 F H v d/\ArgV K H0 F H σ as vs ds
 |_,_,_=>False
variable{H0 F' H':Hp}
theorem ArgV.grow{A:Z7->Prop}(c:Chg A F H F' H')(hA:∀x,A x->H0 x≠lr):∀{as:List AK}{vs:List V}{ds:List D},ArgV K H0 F H σ as vs ds->ArgV K H0 F' H' σ as vs ds
 |[],[],[],h=>trivial
 |.vl::as,v::vs,d::ds,h=>⟨h.1.mono c.grow,ArgV.grow c hA h.2⟩
 |.sl i::as,v::vs,d::ds,h=>⟨h.1,h.2.1,ArgV.grow c hA h.2.2⟩
 |.fr::as,v::vs,d::ds,h=>⟨h.1.grow 'e' c hA,ArgV.grow c hA h.2⟩
 |[],_::_,_,h=>h.elim
 |[],[],_::_,h=>h.elim
 |.vl::_,[],_,h=>h.elim
 |.vl::_,_::_,[],h=>h.elim
 |.sl _::_,[],_,h=>h.elim
 |.sl _::_,_::_,[],h=>h.elim
 |.fr::_,[],_,h=>h.elim
 |.fr::_,_::_,[],h=>h.elim
theorem ArgV.back{A:Z7->Prop}{F0:Hp}(c:Chg A F0 H0 F1 H1):∀{as:List AK}{vs:List V}{ds:List D},ArgV K H1 F H σ as vs ds->ArgV K H0 F H σ as vs ds
 |[],[],[],h=>trivial
 |.vl::as,v::vs,d::ds,h=>⟨h.1,ArgV.back c h.2⟩
 |.sl i::as,v::vs,d::ds,h=>⟨h.1,h.2.1,ArgV.back c h.2.2⟩
 |.fr::as,v::vs,d::ds,h=>⟨MoIs.back (Ha:=H1) c h.1,ArgV.back c h.2⟩
 |[],_::_,_,h=>h.elim
 |[],[],_::_,h=>h.elim
 |.vl::_,[],_,h=>h.elim
 |.vl::_,_::_,[],h=>h.elim
 |.sl _::_,[],_,h=>h.elim
 |.sl _::_,_::_,[],h=>h.elim
 |.fr::_,[],_,h=>h.elim
 |.fr::_,_::_,[],h=>h.elim
def PoA(C:Ct)(own:List Nat)(as:List AK)(σ:St)(F H:Hp)(r:Out (List D×Sl))(Q:List V->Hp->Prop):Prop:=match r with
 |.ok (ds,ρ')=>∀vs F' H',Rep C.K own F' H' σ ρ'->Chg (OA own σ) F H F' H'->ArgV C.K H F' H' σ as vs ds->Q vs H'
 |.exc c ρ'=>∀F' H',Same F' H'->Yo C.K C.ox F' H' σ ρ'->Chg (OA own σ) F H F' H'->C.E (C.cv c) lr H'
 |.bad=>False
abbrev vV:=Sl->Out (List D×Sl)
def tAr(C:Ct)(own:List Nat)(as:List AK)(f:vV):TA:=λσ H Q=>∃F ρ,Rep C.K own F H σ ρ/\PoA C own as σ F H (f ρ) Q
variable{as:List AK}
theorem PoA.bindV{ma:Mo}{o:Vl}{k:D×Sl->Out (List D×Sl)}{Q:List V->Hp->Prop}{R:VK}(hp:PoA C own as σ F H (o.bind k) Q)(h:∀v F1 H1 d ρ1,Rep C.K own F1 H1 σ ρ1->Chg (OA own σ) F H F1 H1->MoIs C.K ma H F1 H1 v d->PoA C own as σ F H (k (d,ρ1)) Q->R v H1):Po C own ma σ F H o R:=by
 cases o with
 |ok p=>obtain⟨d,ρ1⟩:=p;exact λv F1 H1 a c mo=>h v F1 H1 d ρ1 a c mo hp
 |exc x=>exact hp
 |bad=>exact hp.elim
theorem Po.bindA{as:List AK}{o:Out (List D×Sl)}{k:List D×Sl->Vl}{Q:VK}{R:List V->Hp->Prop}(hp:Po C own m σ F H (o.bind k) Q)(h:∀vs F1 H1 ds ρ1,Rep C.K own F1 H1 σ ρ1->Chg (OA own σ) F H F1 H1->ArgV C.K H F1 H1 σ as vs ds->Po C own m σ F1 H1 (k (ds,ρ1)) Q->R vs H1):PoA C own as σ F H o R:=by
 cases o with
 |ok p=>obtain⟨d,ρ1⟩:=p;exact λvs F1 H1 a c v=>h vs F1 H1 d ρ1 a c v (Po.shift (show Po C own m σ F H (k (d,ρ1)) Q from hp) c)
 |exc x=>exact hp
 |bad=>exact hp.elim
noncomputable def qA:vV:=λρ=>.ok ([],ρ)
def qb(fe:qW)(fr:vV):vV:=λρ=>(fe ρ).bind λp=>(fr p.2).bind λq=>.ok (p.1::q.1,q.2)
def kx(fr:vV):vV:=λρ=>(fr ρ).bind λq=>.ok (D.non::q.1,q.2)
variable{es:List Z4}{p:Z7}{u:HO}
section
variable{fe:qW}{fr:vV}
theorem qcW{t t':TA}(h:PA X es t)(i:∀σ H Q,t' σ H Q->t σ H Q):PA X es t':=⟨λpos Z9 s σ H Q I hw=>h pos Z9 s σ H Q I (i σ H Q hw)⟩
theorem qd:PA X [] (tAr C own [] qA):=qcW jq λσ H Q ⟨F,ρ,a,h⟩=>h [] F H a .refl trivial
theorem yy{a:AK}{Q:List V->Hp->Prop}{v:V}(h:∀x,OA own σ x->H x≠lr)(e:Rep C.K own F1 H1 σ ρ1)(c1:Chg (OA own σ) F H F1 H1)(hp:PoA C own (a::as) σ F H ((fr ρ1).bind λq=>.ok (d::q.1,q.2)) Q)(f:∀b H2 vs ds,Chg (OA own σ) F1 H1 b H2->ArgV C.K H b H2 σ as vs ds->ArgV C.K H b H2 σ (a::as) (v::vs) (d::ds)):tAr C own as fr σ H1 λxs H2=>Q (v::xs) H2:=by
 refine⟨F1,ρ1,e,?_⟩;cases q:fr ρ1 with
 |ok p=>rw[q]at hp;obtain⟨ds,ρ2⟩:=p;exact λvs b H2 r c2 g=>hp (v::vs) b H2 r (c1.trans' c2) (f b H2 vs ds c2 (ArgV.back c1 g))
 |exc c=>rw[q]at hp;exact λF' H' s io S=>hp F' H' s io (c1.trans' S)
 |bad=>rw[q]at hp;exact hp.elim
theorem qa(g:PE X e (tE C own m fe))(b:PA X es (tAr C own as fr))(f:m≠.any:=by decide)(hs:lz (e::es) X.env='j'::lz es X.env:=by exact qV rfl):PA X (e::es) (tAr C own (.vl::as) (qb fe fr)):=by
 refine qcW (qI (yx g f) b hs) λσ H Q ⟨F,ρ,r,h⟩=>⟨F,ρ,r,PoA.bindV h λv F1 H1 d ρ1 a c1 c h1=>?_⟩
 exact yy (λx z=>(r.OA_there z).1) a c1 h1 λj H2 vs ds c2 i=>⟨Is.mono c2.grow c,i⟩
theorem qab(f:PE X e (tE C own .fr fe))(b:PA X es (tAr C own as fr))(hs:lz (e::es) X.env='j'::lz es X.env:=by exact qV rfl):PA X (e::es) (tAr C own (.fr::as) (qb fe fr)):=by
 refine qcW (qI f b hs) λσ H Q ⟨F,ρ,r,h⟩=>⟨F,ρ,r,PoA.bindV h λv F1 H1 d ρ1 a c1 c h1=>?_⟩
 have oa:∀x,OA own σ x->H x≠none:=λx z=>(r.OA_there z).1;exact yy oa a c1 h1 λi H2 vs ds c2 g=>⟨c.grow 'e' c2 oa,g⟩
theorem JN{px:Pos}(f:X.N[i]?=lm x)(v:Vis X.env.scope x)(l:i∈own)(e:PA X es (tAr C own as fr))(hs:lz (.Name x px::es) X.env=(lw,Z0 (.Name x px) X.env)::lz es X.env:=by rfl)(hd:Dbg x:=by decide)(b:Cdk x:=by decide):PA X (.Name x px::es) (tAr C own (.sl i::as) (kx fr)):=by
 refine qcW (qI (wG f v hd b) e hs) λσ H Q c=>?_;obtain⟨F,ρ,r,h⟩:=c;obtain⟨d,hd⟩:=r.opn i l;obtain⟨a,h1,h2,j⟩:=r.ow i d l hd;exact⟨_,h1,yy (λx z=>(r.OA_there z).1) r .refl h λk H2 vs ds c2 g=>⟨h1,rfl,g⟩⟩
theorem ArgV.isL:∀{as:List AK}{vs:List V}{ds:List D},(as.all λa=>decide (a=.vl))=lv->ArgV K H0 F H σ as vs ds->IsL K F vs ds
 |[],[],[],_,_=>.nil
 |.vl::as,v::vs,d::ds,h,a=>.cons a.1 (ArgV.isL (by simpa using h) a.2)
 |.sl i::as,_,_,h,a=>by simp at h
 |.fr::as,_,_,h,a=>by simp at h
 |[],_::_,_,_,h=>h.elim
 |[],[],_::_,_,h=>h.elim
 |.vl::_,[],_,_,h=>h.elim
 |.vl::_,_::_,[],_,h=>h.elim
def zD(fr:vV):qW:=λρ=>(fr ρ).bind λp=>if p.1.length<=Z8 then .ok (.tup p.1,p.2)else .bad
def xq(fr:vV):qW:=λρ=>(fr ρ).bind λp=>if p.1.length<=Z8 then .ok (.lst p.1,p.2)else .bad
theorem qip(a:Rep C.K own F H σ ρ)(hp:H p=lr):Rep C.K own (upd F p u) (upd H p u) σ ρ/\Chg No F H (upd F p u) (upd H p u):=by
 have g:F p=none:=by
  cases q:F p with
  |none=>rfl
  |some o=>rw[a.sub p o q]at hp;cases hp
 have c:Chg No F H (upd F p u) (upd H p u):=⟨λb o e _=>by rw[qw (qE e hp)];exact e,λb e=>by
  by_cases q:b=p;·rw[q,qm];simp
  .rw[qw q];exact e,λb o e=>by rw[qw (qE e g)];exact e,λb e=>by
  by_cases q:b=p;·exact .inr (.inl (by rw[q];exact hp))
  .rw[qw q]at e;exact .inl e⟩
 refine⟨a.grow c λb o e=>?_,c⟩;by_cases q:b=p;·subst q;rw[qm]at e ⊢;exact e
 .rw[qw q]at e ⊢;exact a.sub b o e
theorem qac(a:Rep C.K own F H σ ρ)(hp:H p=lr):Rep C.K own F (upd H p u) σ ρ/\Chg No F H F (upd H p u)/\F p=none:=by
 have g:F p=none:=by
  cases q:F p with
  |none=>rfl
  |some o=>rw[a.sub p o q]at hp;cases hp
 have c:Chg No F H F (upd H p u):=⟨λb o e _=>by rw[qw (qE e hp)];exact e,λb e=>by
  by_cases q:b=p;·rw[q,qm];simp
  .rw[qw q];exact e,Same.refl _,λb e=>.inl e⟩
 exact⟨a.grow c λb o e=>by rw[qw (qE e g)];exact a.sub b o e,c,g⟩
theorem kN{x1}(h:PA X es (tAr C own as fr))(f:(as.all λa=>decide (a=.vl))=true:=by decide):PE X (.Tuple es x1 pos) (tE C own .sh (zD fr)):=by
 refine jp (qh6 h) λσ H Q ⟨F,ρ,c,h⟩=>⟨F,ρ,c,Po.bindA h λvs F1 H1 ds ρ1 b c1 v h1=>?_⟩
 have i:=v.isL f;have h1:Po C own .sh σ F1 H1 (if ds.length<=Z8 then .ok (.tup ds,ρ1)else .bad) Q:=h1;by_cases z:ds.length<=Z8;·rw[Aa z]at h1;refine⟨by rw[i.length];exact z,λp hp=>?_⟩;obtain⟨r,c2⟩:=qip (u:=.tup vs) b hp;exact h1 _ _ _ r c2.ofNo (.tup (.inl (.inl qm)) (i.mono c2.grow))
 .rw[Ab z]at h1;exact h1.elim
theorem jL(h:PA X es (tAr C own as fr))(f:(as.all λa=>decide (a=.vl))=true:=by decide):PE X (.List es pos) (tE C own .fr (xq fr)):=by
 refine jp (qh7 h) λσ H Q ⟨F,ρ,c,h⟩=>⟨F,ρ,c,Po.bindA h λvs F1 H1 ds ρ1 b c1 v h1=>?_⟩
 have i:=v.isL f;have h1:Po C own .fr σ F1 H1 (if ds.length<=Z8 then .ok (.lst ds,ρ1)else .bad) Q:=h1;by_cases z:ds.length<=Z8;·rw[Aa z]at h1;refine⟨by rw[i.length];exact z,λp hp=>?_⟩;obtain⟨r,c2,g⟩:=qac (u:=.lst vs) b hp;exact h1 _ _ _ r c2.ofNo ⟨p,rfl,hp,g,vs,qm,i⟩
 .rw[Ab z]at h1;exact h1.elim
theorem Yv:PE X (.Dict [] [] pos) (tE C own .fr (dC (.dct []))):=by refine jp qcN λσ H Q z p hp=>?_;obtain⟨F,ρ,a,h⟩:=z;obtain⟨r,c2,g⟩:=qac (u:=.dK []) a hp;exact h _ _ _ r c2.ofNo ⟨p,rfl,hp,g,[],qm,.nil⟩
def ixD:D->D->Out D
 |.lst xs,.int i=>match atI xs i with
  |some d=>.ok d
  |none=>.bad
 |.tup xs,.int i=>match atI xs i with
  |some d=>.ok d
  |none=>.bad
 |.str x,.int i=>match atI x.cps.toList i with
  |some c=>.ok (.str ⟨#[c]⟩)
  |none=>.bad
 |.dct kvs,.str x=>match (kvs.find? λkv=>decide (kv.1=cG x))with
  |some kv=>.ok kv.2
  |none=>.bad
 |.dct kvs,.int x=>match (kvs.find? λkv=>decide (kv.1=ia x))with
  |some kv=>.ok kv.2
  |none=>.bad
 |_,_=>.bad
theorem IsL.atI{i:Int}(h:IsL K F vs ds)(e:L2.atI ds i=lm d):∃v,L2.atI vs i=lm v/\Is K F v d:=by
 unfold L2.atI at e ⊢;rw[h.length];cases q:ixN ds.length i with
 |none=>rw[q]at e;cases e
 |some j=>rw[q]at e;exact h.getD e
theorem IsK.find{k:Key}:∀{vs:List (Key×V)}{ds:List (Key×D)}{d:Key×D},IsK K F vs ds->(ds.find? λkv=>decide (kv.1=k))=lm d->∃v,Zk vs k=lm v/\Is K F v d.2
 |_,_,_,.nil,e=>by simp at e
 |_,_,d,.cons (k:=k') (vs:=vs) h t,e=>by
  by_cases q:k'=k;·rw[List.find?_cons_of_pos (by simp[q])]at e;cases e;exact⟨_,zz q,h⟩
  .rw[List.find?_cons_of_neg (by simp[q])]at e;obtain⟨v,h1,h2⟩:=IsK.find t e;exact⟨v,by rw[zA q];exact h1,h2⟩
theorem Yw(c:Nat):(⟨#[c]⟩:Str).length<=Z8:=by show 1<=Z8;rw[lE];decide
def qlE(K:Y9):R2:=λx y H Q=>rIx K x y H Q\/∃a v,x=.ref a/\DGet H a y (lm v)/\Q v H
theorem qiq(b:X.A.units+1<lY):IxR X (qlE X.K):=by
 refine IxR.or qib ?_;intro value e Z9 s σ H x y v u Q I d c h hs;obtain⟨a,w,rfl,g,q⟩:=h;cases d;obtain⟨T,ht⟩:∃T,s.TypeIs (.ref a) T/\T = "dict":=⟨_,Uc I g,rfl⟩
 obtain⟨ht,rfl⟩:=ht;exact oS ht PySem.slot_dict_getitem.lookup (GH b I g c λR s' f r=>⟨w,H,f,r,q⟩) hs
end
variable{T:String}
section
variable{a b:Z4}{f fa fb:qW}
set_option tactic.hygienic true in
theorem qir{σ:St}{x y:V}{dx b:D}{Q:VK}(l:C.K=X.K)(s:Same F H)(f:TopIs C.K F H x dx)(ty:TopIs C.K F H y b)(po:PoV C .sh F H (ixD dx b) Q):qlE X.K x y H Q:=by
 rw[l]at f ty;cases dx with
 |lst xs=>
  cases b <;> try exact po.elim
  rename_i i;obtain rfl:=ty.int;obtain⟨a,vs,rfl,p,t⟩:=f.lst s;unfold ixD at po;cases e:L2.atI xs i with
  |none=>simp only[e]at po;exact po.elim
  |some d=>simp only[e]at po;obtain⟨v,h1,h2⟩:=t.atI e;exact .inl (.inl ⟨a,vs,i,v,rfl,rfl,p,h1,po v F H s .refl (by rw[l];exact h2)⟩)
 |tup xs=>
  cases b <;> try exact po.elim
  rename_i i;obtain rfl:=ty.int;obtain⟨a,vs,rfl,p,t⟩:=f.tup s;unfold ixD at po;cases e:L2.atI xs i with
  |none=>simp only[e]at po;exact po.elim
  |some d=>simp only[e]at po;obtain⟨v,h1,h2⟩:=t.atI e;exact .inl (.inr (.inl ⟨a,vs,i,v,rfl,rfl,p,h1,po v F H s .refl (by rw[l];exact h2)⟩))
 |str z=>
  cases b <;> try exact po.elim
  rename_i i;obtain rfl:=ty.int;obtain⟨rfl,h⟩:=f.str;unfold ixD at po;cases e:L2.atI z.cps.toList i with
  |none=>simp only[e]at po;exact po.elim
  |some c=>simp only[e]at po;exact .inl (.inr (.inr ⟨z,i,c,rfl,rfl,h,e,po _ F H s .refl (.str (Yw c))⟩))
 | dct kvs=>
  obtain⟨a,kv,rfl,p,t⟩:=f.dct s;cases b with
  |int i=>
   obtain rfl:=ty.int;unfold ixD at po;cases e:(kvs.find? λkv=>decide (kv.1=ia i))with
   |none=>simp only[e]at po;exact po.elim
   |some d=>simp only[e]at po;obtain⟨v,h1,h2⟩:=t.find e;exact .inr ⟨a,v,rfl,by rw[<-h1];exact DGet.k (k:=ia i) p,po v F H s .refl (by rw[l];exact h2)⟩
  |str z=>
   obtain⟨rfl,_⟩:=ty.str;unfold ixD at po;cases e:(kvs.find? λkv=>decide (kv.1=cG z))with
   |none=>simp only[e]at po;exact po.elim
   |some d=>simp only[e]at po;obtain⟨v,h1,h2⟩:=t.find e;exact .inr ⟨a,v,rfl,by rw[<-h1];exact DGet.k (k:=cG z) p,po v F H s .refl (by rw[l];exact h2)⟩
  |_=>exact po.elim
 |_=>exact po.elim
theorem qkG(o:C.K=X.K)(z:X.A.units+64<lY)(n:PE X a 'p')(hb:PE X b (tE C own mb fb))(hs:WY b)(j:ma≠.any:=by decide):PE X (.Subscript a b pos) (tE C own .sh (d2 ixD fa fb)):=by
 refine jp (qkw (qiq 'b') n hb hs) λσ H Q h=>?_;obtain⟨F,ρ,l,h⟩:=Vm (mb:=mb) j h;refine⟨F,ρ,l,?_⟩;cases q:fa ρ with
 |ok p=>
  rw[q]at h;obtain⟨d,ρ1⟩:=p;intro v F1 H1 f c1 i;obtain⟨y,ρ2,e,h2⟩:=h v F1 H1 f c1 i;refine⟨y,ρ2,e,?_⟩;cases g:fb ρ2 with
  |ok p=>rw[g]at h2;obtain⟨d',k⟩:=p;intro w x u r I m;obtain⟨L,dx,B,s,t,ty,po⟩:=h2 w x u r I m;exact qir (σ:=σ) o s t ty po
  |exc c=>rw[g]at h2;exact h2
  |bad=>rw[g]at h2;exact h2.elim
 |exc c=>rw[q]at h;exact h
 |bad=>rw[q]at h;exact h.elim
def xu(X:Cx)(C:Ct)(m:Mo)(f:lu)(g:D->Out D):Prop:=vR X f (λxs H Q=>∃x F dx,xs=[x]/\Same F H/\TopIs C.K F H x dx/\PoV C m F H (g dx) Q)
theorem xw{Q:VK}{g:D->Out D}(h:tE C own m (d1 g fa) σ H Q):Zj 'p' qh5 σ H λxs H1=>∃x F dx,xs=[x]/\Same F H1/\TopIs C.K F H1 x dx/\PoV C m F H1 (g dx) Q:=by
 obtain⟨F,ρ,r,h⟩:=JM (ma:=ma) h;refine⟨F,ρ,r,?_⟩;cases q:fa ρ with
 |ok p=>rw[q]at h;obtain⟨d,ρ1⟩:=p;intro v F1 H1 a c1 b;obtain⟨e,dx,s,t,po⟩:=h v F1 H1 a c1 b;exact⟨v,e,dx,rfl,s,t,po⟩
 |exc c=>rw[q]at h;exact h
 |bad=>rw[q]at h;exact h.elim
theorem qx{id:String}{p:Pos}{g:D->Out D}(d:xu X C m (.builtin id) g)(hg:Gl X x)(a:X.mg x=lr)(c:lB x=lm (.builtin id))(f:PE X e 'p')(n:x ≠ "__name__":=by decide)(b:Dbg x:=by decide)(he:lz [e] X.env=['j']:=by exact qF rfl):PE X (.Call (.Name x p) [e] [] pos) (tE C own m (d1 g fa)):=
 jp (vw d hg a c (qI f jq he) n b (by rw[he];rfl) rfl) λ_ _ _ h=>xw h
theorem jh{p:Pos}{g:D->Out D}(d:xu X C m (.type T) g)(hg:Gl X x)(a:X.mg x=lr)(c:lB x=lm (.type T))(f:PE X e 'p')(n:x ≠ "__name__":=by decide)(b:Dbg x:=by decide)(he:lz [e] X.env=['j']:=by exact qF rfl):PE X (.Call (.Name x p) [e] [] pos) (tE C own m (d1 g fa)):=
 jp (vS d hg a c (qI f jq he) n b (by rw[he];rfl) rfl) λ_ _ _ h=>xw h
noncomputable def kO:D->Out D
 |.str x=>.ok (.int x.length)
 |.lst xs=>.ok (.int xs.length)
 |.tup xs=>.ok (.int xs.length)
 |.dct xs=>.ok (.int xs.length)
 |_=>.bad
theorem IsK.length:∀{vs:List (Key×V)}{ds:List (Key×D)},IsK K F vs ds->vs.length=ds.length
 |_,_,.nil=>rfl
 |_,_,.cons _ t=>congrArg (·+1) (IsK.length t)
theorem jr(l:C.K=X.K):xu X C .sh (.builtin "len") kO:=by
 intro Z9 s σ H xs us Q I r h;obtain⟨x,F,dx,rfl,b,c,po⟩:=h;cases dx with
 |str z=>obtain⟨rfl,d⟩:=c.str;exact JH Z9 s σ H _ us Q I r ⟨_,_,rfl,⟨d,rfl⟩,po _ F H b .refl (.int _)⟩
 |lst ds=>obtain⟨a,vs,rfl,p,t⟩:=c.lst b;exact JH Z9 s σ H _ us Q I r ⟨_,ds.length,rfl,.inl ⟨vs,by rw[<-l];exact p,t.length.symm⟩,po _ F H b .refl (.int _)⟩
 |tup ds=>obtain⟨a,vs,rfl,p,t⟩:=c.tup b;exact JH Z9 s σ H _ us Q I r ⟨_,ds.length,rfl,.inr ⟨vs,by rw[<-l];exact p,t.length.symm⟩,po _ F H b .refl (.int _)⟩
 |dct ds=>obtain⟨a,vs,rfl,p,t⟩:=c.dct b;refine GM Z9 s σ H _ us Q I r ⟨a,vs,rfl,p,?_⟩;rw[t.length];exact po _ F H b .refl (.int _)
 |_=>exact po.elim
noncomputable def ko:D->D->Out D
 |.int i,.int j=>.ok (.int (i+j))
 |.str x,.str y=>if x.length+y.length<=Z8 then .ok (.str (x++y))else .bad
 |.lst xs,.lst ys=>if xs.length+ys.length<=Z8 then .ok (.lst (xs++ys))else .bad
 |.tup xs,.tup ys=>if xs.length+ys.length<=Z8 then .ok (.tup (xs++ys))else .bad
 |_,_=>.bad
theorem wm(t:Same F H)(hp:H p=lr):Same (upd F p u) (upd H p u)/\Chg No F H (upd F p u) (upd H p u):=by
 have g:F p=none:=by
  cases q:F p with
  |none=>rfl
  |some o=>rw[t p o q]at hp;cases hp
 refine⟨λb o e=>?_,⟨λb o e _=>by rw[qw (qE e hp)];exact e,λb e=>?_,λb o e=>by rw[qw (qE e g)];exact e,λb e=>?_⟩⟩
 .by_cases q:b=p;·subst q;rw[qm]at e ⊢;exact e
  .rw[qw q]at e ⊢;exact t b o e
 .by_cases q:b=p;·rw[q,qm];simp
  .rw[qw q];exact e
 .by_cases q:b=p;·exact .inr (.inl (by rw[q];exact hp))
  .rw[qw q]at e;exact .inl e
theorem ke(t:Same F H)(hp:H p=lr):Same F (upd H p u)/\Chg No F H F (upd H p u)/\F p=none:=by
 have g:F p=none:=by
  cases q:F p with
  |none=>rfl
  |some o=>rw[t p o q]at hp;cases hp
 refine⟨λb o e=>by rw[qw (qE e g)];exact t b o e,⟨λb o e _=>by rw[qw (qE e hp)];exact e,λb e=>?_,Same.refl _,λb e=>.inl e⟩,g⟩;by_cases q:b=p;·rw[q,qm];simp
 .rw[qw q];exact e
theorem Uf(x y:Str):(x++y).length=x.length+y.length:=by show(x.cps++y.cps).size=_;simp[cD]
theorem qfB:OpR X (mf .Add) (λx y H Q=>∃l b xs zs,x=.ref l/\y=.ref b/\SqL X.K H l xs/\SqL X.K H b zs/\xs.length+zs.length<=Z8/\∀p,H p=lr->Q (.ref p) (upd H p (.lst (xs++zs)))):=by
 intro Z9 s σ H x y v u Q I k r h;obtain⟨l,b,xs,zs,rfl,rfl,h1,h2,z,q⟩:=h;cases k;cases r;obtain⟨its,r1,p1,_⟩:=I.list h1;obtain⟨i,r2,p2,_⟩:=I.list h2;obtain⟨⟨cls,dd,data,sl⟩,o,g,n,hd⟩:=id p1.isList;obtain⟨⟨j,e,f,d⟩,a,c,n2,hd2⟩:=id p2.isList;simp only at g hd c hd2;subst g hd c hd2;have t:=r1.length;have m:=r2.length;refine om ⟨_,o,rfl⟩ ⟨_,a,rfl⟩ noFill_list_add seq_list_add PySem.F.slot_list_add PySem.F.entry_list_add (PySem.F.args_list_add_2 _ _)
  (list_addW l b its.toArray i.toArray n n2 dd e sl d (by simp only[au];lia)) ⟨o,a,?_⟩
 have w:its.toArray++i.toArray=(its++i).toArray:=by simp
 rw[w];exact⟨.ref _,_,I.lnew (t':=s.toks) (r1.append r2) (by rw[am];exact z),rfl,q _ I.fresh⟩
theorem qfC:OpR X (mf .Add) (λx y H Q=>∃a b ys,x=.ref a/\y=.ref b/\SqT X.K H a []/\SqT X.K H b ys/\Q (.ref b) H):=by
 intro Z9 s σ H x y v u Q I m r h;obtain⟨a,b,ys,rfl,rfl,h1,h2,q⟩:=h;cases m;cases r;obtain⟨its,r1,p1,_⟩:=I.tuple h1;obtain⟨i,r2,p2,_⟩:=I.tuple h2;cases r1;obtain⟨⟨cls,dd,data,sl⟩,l,j,n,hd⟩:=id p1;obtain⟨⟨k,f,g,e⟩,c,d,n2,hd2⟩:=id p2;simp only at j hd d hd2;subst j hd d hd2;exact om ⟨_,l,rfl⟩ ⟨_,c,rfl⟩ noFill_tuple_add seq_tuple_add fN fI (fq _ _)
  (tuple_addW0 a b _ _ n n2 dd f sl e rfl) ⟨l,c,⟨.ref b,H,I,rfl,q⟩⟩
set_option tactic.hygienic true in
theorem jG(l:C.K=X.K):OpD X C .sh (mf .Add) ko:=by
 intro Z9 s σ H x y v u Q I g r h;obtain⟨F,dx,j,t,c,ty,po⟩:=h;cases dx with
 |int i=>
  cases j <;> try exact po.elim
  obtain rfl:=c.int;obtain rfl:=ty.int;exact qhW Z9 s σ H _ _ v u Q I g r ⟨_,_,rfl,rfl,po _ F H t .refl (.int _)⟩
 |str a=>
  cases j <;> try exact po.elim
  rename_i b;obtain⟨rfl,_⟩:=c.str;obtain⟨rfl,_⟩:=ty.str;have po:PoV C .sh F H (if a.length+b.length<=Z8 then .ok (.str (a++b))else .bad) Q:=po;by_cases z:a.length+b.length<=Z8;·rw[Aa z]at po;exact Ze Z9 s σ H _ _ v u Q I g r ⟨_,_,rfl,rfl,z,po _ F H t .refl (.str (by rw[Uf];exact z))⟩
  .rw[Ab z]at po;exact po.elim
 |lst xs=>
  cases j <;> try exact po.elim
  rename_i ys;obtain⟨a,vs,rfl,p1,f⟩:=c.lst t;obtain⟨b,ws,rfl,p2,d⟩:=ty.lst t;have po:PoV C .sh F H (if xs.length+ys.length<=Z8 then .ok (.lst (xs++ys))else .bad) Q:=po;by_cases z:xs.length+ys.length<=Z8;·rw[Aa z]at po;refine qfB Z9 s σ H _ _ v u Q I g r ⟨a,b,vs,ws,rfl,rfl,by rw[<-l];exact p1,by rw[<-l];exact p2,by rw[f.length,d.length];exact z,λp hp=>?_⟩;obtain⟨s2,c2⟩:=wm (u:=.lst (vs++ws)) t hp;exact po _ _ _ s2 c2 (.lst (.inl (.inl qm)) ((f.append d).mono c2.grow))
  .rw[Ab z]at po;exact po.elim
 | tup xs=>
  cases j <;> try exact po.elim
  rename_i ys;obtain⟨a,vs,rfl,p1,f⟩:=c.tup t;obtain⟨b,ws,rfl,p2,d⟩:=ty.tup t;have po:PoV C .sh F H (if xs.length+ys.length<=Z8 then .ok (.tup (xs++ys))else .bad) Q:=po;by_cases z:xs.length+ys.length<=Z8
  .rw[Aa z]at po;cases vs with
   |nil=>
    cases f;rcases ty with ty|⟨_,_,ty⟩
    .exact qfC Z9 s σ H _ _ v u Q I g r ⟨a,b,ws,rfl,rfl,by rw[<-l];exact p1,by rw[<-l];exact p2,po _ F H t .refl ty⟩
    .exact ty.elim
   | cons k vs=>
    refine qfj Z9 s σ H _ _ v u Q I g r ⟨a,b,k::vs,ws,rfl,rfl,by rw[<-l];exact p1,by rw[<-l];exact p2,by simp,by rw[f.length,d.length];exact z,λe=>?_,λe p hp=>?_⟩
    .subst e;cases d;rcases c with c|⟨_,_,c⟩
     .refine po _ F H t .refl ?_;rw[bw];exact c
     .exact c.elim
    .obtain⟨s2,c2⟩:=wm (u:=.tup (k::vs++ws)) t hp;exact po _ _ _ s2 c2 (.tup (.inl (.inl qm)) ((f.append d).mono c2.grow))
  .rw[Ab z]at po;exact po.elim
 |_=>exact po.elim
end
inductive PM where
 |val|io|tk
 deriving DecidableEq
noncomputable def yz:List PM->List V->List Z7
 |.val::ms,_::vs=>yz ms vs
 |.io::ms,.ref a::vs=>a::yz ms vs
 |.tk::ms,.ref a::vs=>a::yz ms vs
 |_::ms,_::vs=>yz ms vs
 |_,_=>[]
def ArgsIs(K:Y9)(F H:Hp):List PM->List V->List D->Prop
 |[],[],[]=>True
 |.val::ms,v::vs,d::ds=>Is K F v d/\ArgsIs K F H ms vs ds
 |.io::ms,v::vs,d::ds=>(∃a,v=.ref a/\F a=lr/\OwnIs K F H a d)/\ArgsIs K F H ms vs ds
 |.tk::ms,v::vs,d::ds=>(∃a,v=.ref a/\F a=lr/\OwnIs K F H a d)/\ArgsIs K F H ms vs ds
 |_,_,_=>False
def uO(K:Y9)(F H:Hp):List PM->List V->List D->Prop
 |[],_,_=>True
 |.io::ms,v::vs,d::ds=>(∃a,v=.ref a/\F a=lr/\OwnIs K F H a d)/\uO K F H ms vs ds
 |_::ms,_::vs,_::ds=>uO K F H ms vs ds
 |_,_,_=>False
abbrev LA(ms:List PM)(vs:List V):Z7->Prop:=λb=>b∈yz ms vs
def PoG(K:Y9)(cv:Str->lu)(ms:List PM)(mr:Mo)(vs:List V)(F H:Hp)(Q:VK)(E:XK)(o:Out (D×List D)):Prop:=match o with
 |.ok (d,outs)=>∀v F' H',Same F' H'->Chg (LA ms vs) F H F' H'->uO K F' H' ms vs outs->MoIs K mr H F' H' v d->Q v H'
 |.exc c o=>∀F' H',Same F' H'->Chg (LA ms vs) F H F' H'->uO K F' H' ms vs (o.map (·.getD .non))->E (cv c) lr H'
 |.bad=>False
abbrev jy:=List D->Out (D×List D)
def spD(K:Y9)(cv:Str->lu)(ms:List PM)(mr:Mo)(G:jy):Sp:=λvs H Q E=>∃F ds,Same F H/\ArgsIs K F H ms vs ds/\(yz ms vs).Nodup/\PoG K cv ms mr vs F H Q E (G ds)
theorem ArgsIs.length:∀{ms:List PM}{vs:List V}{ds:List D},ArgsIs K F H ms vs ds->vs.length=ms.length/\ds.length=ms.length
 |[],[],[],_=>⟨rfl,rfl⟩
 |.val::ms,v::vs,d::ds,h=>by have:=ArgsIs.length h.2;simp[this]
 |.io::ms,v::vs,d::ds,h=>by have:=ArgsIs.length h.2;simp[this]
 |.tk::ms,v::vs,d::ds,h=>by have:=ArgsIs.length h.2;simp[this]
 |[],_::_,_,h=>h.elim
 |[],[],_::_,h=>h.elim
 |.val::_,[],_,h=>h.elim
 |.val::_,_::_,[],h=>h.elim
 |.io::_,[],_,h=>h.elim
 |.io::_,_::_,[],h=>h.elim
 |.tk::_,[],_,h=>h.elim
 |.tk::_,_::_,[],h=>h.elim
noncomputable def jM(n:Nat):List PM->List Nat
 |[]=>[]
 |.val::ms=>jM (n+1) ms
 |_::ms=>n::jM (n+1) ms
noncomputable def KW(n:Nat):List PM->List Nat
 |[]=>[]
 |.io::ms=>n::KW (n+1) ms
 |_::ms=>KW (n+1) ms
variable{n:Nat}
theorem yA:∀{ms:List PM}{i:Nat},i∈jM n ms->n<=i/\i<n+ms.length:=by
 intro ms
 induction ms generalizing n with
 |nil=>intro i h;simp[jM]at h
 | cons m ms j=>
  intro i h;cases m with
  |val=>have:=j (n:=n+1) h;simp only[ah];lia
  |io=>
   rcases af.mp h with e|h;·simp only[ah];lia
   .have:=j (n:=n+1) h;simp only[ah];lia
  |tk=>
   rcases af.mp h with e|h;·simp only[ah];lia
   .have:=j (n:=n+1) h;simp only[ah];lia
theorem qcX:∀{ms:List PM}{i:Nat},i∈KW n ms->i∈jM n ms:=by
 intro ms
 induction ms generalizing n with
 |nil=>intro i h;simp[KW]at h
 | cons m ms j=>
  intro i h;cases m with
  |val=>exact j (n:=n+1) h
  |io=>
   rcases af.mp h with e|h;·exact af.mpr (.inl e)
   .exact ae _ (j (n:=n+1) h)
  |tk=>exact ae _ (j (n:=n+1) h)
theorem Zo:∀{ms:List PM}{vs:List V}{ds:List D}{n:Nat},ArgsIs K F H ms vs ds ->(∀j d,ds[j]?=lm d->n+j∉jM n ms->∃v,vs[j]?=lm v/\Is K F v d) /\
  (∀j d,ds[j]?=lm d->n+j∈jM n ms->∃a,vs[j]?=lm (.ref a)/\F a=lr/\OwnIs K F H a d):=by
 intro ms
 induction ms with
 |nil=>intro vs ds n h;cases vs <;> cases ds <;> first|exact h.elim|(refine⟨λj d e=>?_,λj d e=>?_⟩ <;> simp at e)
 | cons m ms i=>
  intro vs ds n h;cases vs with
  |nil=>cases m <;> exact h.elim
  | cons v vs=>
   cases ds with
   |nil=>cases m <;> exact h.elim
   | cons d ds=>
    cases m with
    | val=>
     obtain⟨h1,h2⟩:=h;obtain⟨i1,i2⟩:=i (n:=n+1) h2;refine⟨λj e b c=>?_,λj e b c=>?_⟩
     .cases j with
      |zero=>simp at b;subst b;exact⟨v,rfl,h1⟩
      |succ j=>simpa using i1 j e (by simpa using b) (by rw[show n+1+j=n+(j+1) by lia];exact c)
     .cases j with
      |zero=>have:=yA (n:=n+1) c;lia
      |succ j=>simpa using i2 j e (by simpa using b) (by rw[show n+1+j=n+(j+1) by lia];exact c)
    | io=>
     obtain⟨⟨a,rfl,h1⟩,h2⟩:=h;obtain⟨i1,i2⟩:=i (n:=n+1) h2;refine⟨λj e b c=>?_,λj e b c=>?_⟩
     .cases j with
      |zero=>exact absurd (af.mpr (.inl rfl)) c
      |succ j=>simpa using i1 j e (by simpa using b) (λz=>c (ae _ (by rw[show n+(j+1)=n+1+j by lia];exact z)))
     .cases j with
      |zero=>simp at b;subst b;exact⟨a,rfl,h1⟩
      | succ j=>
       have f:n+1+j∈jM (n+1) ms:=by
        rcases af.mp c with z|z
        .lia
        .rw[show n+1+j=n+(j+1) by lia];exact z
       simpa using i2 j e (by simpa using b) f
    | tk=>
     obtain⟨⟨a,rfl,h1⟩,h2⟩:=h;obtain⟨i1,i2⟩:=i (n:=n+1) h2;refine⟨λj e b c=>?_,λj e b c=>?_⟩
     .cases j with
      |zero=>exact absurd (af.mpr (.inl rfl)) c
      |succ j=>simpa using i1 j e (by simpa using b) (λz=>c (ae _ (by rw[show n+(j+1)=n+1+j by lia];exact z)))
     .cases j with
      |zero=>simp at b;subst b;exact⟨a,rfl,h1⟩
      | succ j=>
       have f:n+1+j∈jM (n+1) ms:=by
        rcases af.mp c with z|z
        .lia
        .rw[show n+1+j=n+(j+1) by lia];exact z
       simpa using i2 j e (by simpa using b) f
theorem qad:∀{ms:List PM}{vs:List V}{j:Nat}{a:Z7},n+j∈jM n ms->vs[j]?=lm (.ref a)->a∈yz ms vs:=by
 intro ms
 induction ms generalizing n with
 |nil=>intro vs j a h;simp[jM]at h
 | cons m ms i=>
  intro vs j a h e;cases vs with
  |nil=>simp at e
  | cons v vs=>
   cases j with
   |zero=>
    simp at e;subst e;cases m with
    |val=>have:=yA (n:=n+1) h;omega
    |io=>exact af.mpr (.inl rfl)
    |tk=>exact af.mpr (.inl rfl)
   | succ j=>
    have b:vs[j]?=lm (.ref a):=by simpa using e
    have sub:n+1+j∈jM (n+1) ms:=by
     rw[show n+1+j=n+(j+1) by omega];cases m with
     |val=>exact h
     |io=>exact(af.mp h).resolve_left (by omega)
     |tk=>exact(af.mp h).resolve_left (by omega)
    have q:=i (n:=n+1) sub b;cases m <;> cases v <;> first|exact q|exact ae _ q
theorem qae:∀{ms:List PM}{vs:List V}{a:Z7},a∈yz ms vs->∃j,n+j∈jM n ms/\vs[j]?=lm (.ref a):=by
 intro ms
 induction ms generalizing n with
 |nil=>intro vs a h;cases vs <;> simp[yz]at h
 | cons m ms i=>
  intro vs a h;cases vs with
  |nil=>cases m <;> simp[yz]at h
  | cons v vs=>
   have up:∀{b},b∈yz ms vs->∃j,n+j∈jM n (m::ms)/\(v::vs)[j]?=lm (.ref b):=λhb=>by
    obtain⟨j,h1,h2⟩:=i (n:=n+1) hb;refine⟨j+1,?_,by simpa using h2⟩;rw[show n+(j+1)=n+1+j by lia];cases m with
    |val=>exact h1
    |io=>exact ae _ h1
    |tk=>exact ae _ h1
   cases m with
   |val=>exact up (by cases v <;> exact h)
   | io=>
    cases v with
    |ref c=>
     rcases af.mp h with e|h;·subst e;exact⟨0,af.mpr (.inl rfl),rfl⟩
     .exact up h
    |_=>exact up h
   | tk=>
    cases v with
    |ref c=>
     rcases af.mp h with e|h;·subst e;exact⟨0,af.mpr (.inl rfl),rfl⟩
     .exact up h
    |_=>exact up h
theorem qcY:∀{ms:List PM}{vs:List V}{i j:Nat}{a:Z7},(yz ms vs).Nodup->n+i∈jM n ms->n+j∈jM n ms->vs[i]?=lm (.ref a)->vs[j]?=lm (.ref a)->i=j:=by
 intro ms
 induction ms generalizing n with
 |nil=>intro vs i j a _ h;simp[jM]at h
 | cons m ms f=>
  intro vs i j a nd hi D e1 e;cases vs with
  |nil=>simp at e1
  | cons v vs=>
   have sub:∀{k},n+(k+1)∈jM n (m::ms)->n+1+k∈jM (n+1) ms:=λ{k} h=>by
    rw[show n+1+k=n+(k+1) by lia];cases m with
    |val=>exact h
    |io=>exact(af.mp h).resolve_left 'b'
    |tk=>exact(af.mp h).resolve_left 'b'
   have d:(yz ms vs).Nodup:=by cases m <;> cases v <;> first|exact nd|exact(aZ.mp nd).2
   have c:∀{k b},n+0∈jM n (m::ms)->v=.ref b->n+(k+1)∈jM n (m::ms)->vs[k]?=lm (.ref b)->False:=λ{k b} o g l p=>by
    subst g;have q:=qad (n:=n+1) (sub l) p;cases m with
    |val=>have:=yA (n:=n+1) o;lia
    |io=>exact(aZ.mp nd).1 q
    |tk=>exact(aZ.mp nd).1 q
   cases i with
   |zero=>
    cases j with
    |zero=>rfl
    |succ j=>exact(c hi (by simpa using e1) D (by simpa using e)).elim
   |succ i=>
    cases j with
    |zero=>exact(c D (by simpa using e) hi (by simpa using e1)).elim
    |succ j=>exact congrArg (·+1) (f (n:=n+1) d (sub hi) (sub D) (by simpa using e1) (by simpa using e))
noncomputable def qr(N:List Str)(ds:List D):Sl:=ds.map lm++bQ (N.length - ds.length) lr
variable{α:Type}{N:List Str}
theorem jN{xs:List α}{x:α}:(xs.map lm++bQ (N.length - xs.length) lr)[i]?=lm (lm x)↔xs[i]?=lm x:=by
 by_cases h:i<xs.length
 .rw[db (by simpa using h),aJ];cases e:xs[i]? with
  |none=>simp
  |some y=>simp
 .rw[cr (by simpa using h),bN];have e:xs[i]?=none:=cz.mpr 'b';rw[e];split <;> simp
variable{ms:List PM}
theorem qaf(t:Same F H)(r:ArgsIs K F H ms vs ds)(nd:(yz ms vs).Nodup):Rep K (jM 0 ms) F H (vJ N vs) (qr N ds):=by
 obtain⟨h1,h2⟩:=Zo (n:=0) r;obtain⟨c,l⟩:=r.length;refine⟨t,by simp[vJ,qr,c,l],λi d hi e=>?_,λi d hi e=>?_,λi hi=>?_,λi j a hi D e1 f=>?_⟩;·obtain⟨v,a,b⟩:=h1 i d (jN.mp e) (by simpa using hi);exact⟨v,jN.mpr a,b⟩
 .obtain⟨v,a,b⟩:=h2 i d (jN.mp e) (by simpa using hi);exact⟨v,jN.mpr a,b⟩
 .have q:=yA hi;have hl:i<ds.length:=by lia
  exact⟨ds[i],jN.mpr (by simp[hl])⟩
 .exact qcY (n:=0) nd (by simpa using hi) (by simpa using D) (jN.mp e1) (jN.mp f)
theorem qcZ:OA (jM 0 ms) (vJ N vs) b↔LA ms vs b:=by
 constructor;·rintro⟨i,hi,e⟩;exact qad (n:=0) (by simpa using hi) (jN.mp e)
 .intro h;obtain⟨j,h1,h2⟩:=qae (n:=0) h;exact⟨j,by simpa using h1,jN.mpr h2⟩
noncomputable def jC(ρ:Sl):Nat->List PM->List D
 |_,[]=>[]
 |n,.io::ms=>((ρ[n]?).getD lr).getD .non::jC ρ (n+1) ms
 |n,_::ms=>.non::jC ρ (n+1) ms
theorem qfD{σ:St}{N:List Str}:∀{ms:List PM}{vs:List V}{n:Nat},vs.length=ms.length->(∀i∈KW n ms,∃d a,ρ[i]?=lm (lm d)/\vs[i - n]?=lm (V.ref a)/\F a=lr/\OwnIs K F H a d)->uO K F H ms vs (jC ρ n ms):=by
 intro ms
 induction ms with
 |nil=>intro vs n _ _;trivial
 | cons m ms j=>
  intro vs n hl h;cases vs with
  |nil=>simp at hl
  |cons v vs=>
   have rest:(∀i∈KW (n+1) ms,i∈KW n (m::ms))->uO K F H ms vs (jC ρ (n+1) ms):=λhs=>by refine j (by simpa using hl) λi hi=>?_;obtain⟨d,a,e1,e,D⟩:=h i (hs i hi);have q:=yA (qcX hi);refine⟨d,a,e1,?_,D⟩;rw[show i - n=(i - (n+1))+1 by lia]at e;simpa using e
   cases m with
   |val=>exact rest λi hi=>hi
   |io=>obtain⟨d,a,e1,e,D⟩:=h n (af.mpr (.inl rfl));refine⟨⟨a,by simpa using e,D.1,?_⟩,rest λi hi=>ae _ hi⟩;rw[e1];exact D.2
   |tk=>exact rest λi hi=>hi
noncomputable def Fl.val:Fl->Option D
 |.nx=>lm .non
 |.rt d=>lm d
 |_=>lr
def jI(N:List Str)(ms:List PM)(f:qM)(ds:List D):Out (D×List D):=match f (qr N ds)with
 |.ok (.nx,ρ)=>.ok (.non,jC ρ 0 ms)
 |.ok (.rt d,ρ)=>.ok (d,jC ρ 0 ms)
 |.ok _=>.bad
 |.exc c ρ=>.exc c ((jC ρ 0 ms).map lm)
 |.bad=>.bad
theorem Yx:∀(l:List D),(l.map lm).map (λx:Option D=>x.getD .non)=l
 |[]=>rfl
 |a::l=>congrArg (a::·) (Yx l)
def Out.le{α:Type}(a b:Out α):Prop:=a=.bad\/a=b
theorem qag{f:qM}{Q:VK}{o:Out (D×List D)}(j:C.io=KW 0 ms)(l:C.ox=C.io)(hmr:C.mr=.sh\/∀ρ,(f (qr N ds))≠.ok (.nx,ρ))(g:∀i∈KW 0 ms,i∈own')(t:Same F H)(r:ArgsIs C.K F H ms vs ds)(nd:(yz ms vs).Nodup)(G:Out.le o (jI N ms f ds))(h:PoG C.K C.cv ms C.mr vs F H Q C.E o):tSt C (jM 0 ms) own' f { nx:=λ_ H'=>Q .non H',rt:=Q } (vJ N vs) H:=by
 refine⟨F,qr N ds,qaf t r nd,?_⟩;have hl:=r.length.1;have ch:∀{F' H'},Chg (OA (jM 0 ms) (vJ N vs)) F H F' H'->Chg (LA ms vs) F H F' H':=λc=>c.mono λx z=>qcZ.mp z;have b:∀{σ':St}{ρ':Sl}{F' H':Hp},Yo C.K C.io F' H' σ' ρ'->(∀i∈C.io,σ'[i]?=(vJ N vs)[i]?)->uO C.K F' H' ms vs (jC ρ' 0 ms):=λ{σ' ρ' F' H'} io e=>by
  refine qfD (N:=N) (σ:=σ') hl λi hi=>?_;have k:i∈C.io:=by rw[j];exact hi
  obtain⟨d,a,e1,m,w⟩:=io i k;refine⟨d,a,e1,?_,w⟩;rw[e i k]at m;exact jN.mp m
 rcases G with e|e;·subst e;exact h.elim
 .subst e;unfold jI at h;cases q:f (qr N ds)with
  |ok p=>
   rw[q]at h;obtain⟨fl,ρ'⟩:=p;cases fl with
   |nx=>have u:C.mr=.sh:=hmr.resolve_right λz=>z ρ' q;exact λσ' F' H' n=>h .non F' H' n.rep.sub (ch n.chg) (b (n.rep.ioIs (by rw[j];exact g)) n.io) (by rw[u];exact .non)
   |rt d=>exact λv σ' F' H' s io c e mo=>h v F' H' s (ch c) (b io e) mo
   |bk=>exact h.elim
   |ct=>exact h.elim
  |exc c ρ'=>rw[q]at h;exact λF' H' s io S=>h F' H' s (ch S) (by rw[Yx];exact b (σ':=vJ N vs) (by rw[<-l];exact io) λ_ _=>rfl)
  |bad=>rw[q]at h;exact h.elim
def qc0(K:Y9)(cv:Str->lu)(E:XK)(ms:List PM)(mr:Mo):Ct:=⟨K,cv,E,KW 0 ms,mr,[],KW 0 ms,λ_ h=>h⟩
theorem qjK{P:lC}{w:lD}{K:Y9}{mg:Str->Option lu}{base:Z5}{CX:CXT}{x qual:Str}{st:Z3}{f:Z7}{fd:mD}{N ps:List Str}{k:Nat}{cv:Str->lu}{ms:List PM}{mr:Mo}{own':List Nat}{fb:qM}{G:jy}(F:Fun K x qual st f fd)(S:FnScope N ps (qB st))(hl:ms.length=ps.length)(g:∀i∈KW 0 ms,i∈own')(hmr:mr=.sh\/∀ds ρ,(fb (qr N ds))≠.ok (.nx,ρ))(a:∀(cdv:lu)(A:lG)(outer:List Env)(s:lx)(H:Hp)(E:XK),Room k (A.deeper (mj qual (qB st) s.heap.objs.size f cdv)) ->PSs (qfe CX P w K mg base N qual (qB st) f cdv A outer s H E) (jZ st) (tSt (qc0 K cv E ms mr) (jM 0 ms) own' fb))(b:∀ds,Out.le (G ds) (jI N ms fb ds)):FnOk P w K mg base CX (k+1) f fd ps (spD K cv ms mr G):=by
 obtain⟨oc,od,kV,doc,pm,an,cdv,ct,osl,rfl,j,d⟩:=F.ex;refine qkt j d S (λvs H Q E h=>?_) λA outer s H vs Q E c p=>?_;·obtain⟨F,ds,_,r,_⟩:=h;rw[r.length.1,hl]
 .obtain⟨F1,ds,t,r,nd,h⟩:=p;refine⟨_,a cdv A outer s H E c,?_⟩;exact qag (C:=qc0 K cv E ms mr) rfl rfl (hmr.imp id λz ρ=>z ds ρ) g t r nd (b ds) h
def yB:AK->PM
 |.vl=>.val
 |.sl _=>.io
 |.fr=>.tk
noncomputable def kf:List AK->List D->Sl->Option (List D)
 |[],[],_=>lm []
 |.sl i::as,_::ds,ρ=>match ρ[i]? with
  |some (lm d)=>(kf as ds ρ).map (d::·)
  |_=>lr
 |.vl::as,d::ds,ρ=>(kf as ds ρ).map (d::·)
 |.fr::as,d::ds,ρ=>(kf as ds ρ).map (d::·)
 |_,_,_=>lr
noncomputable def xJ:List AK->List D->Sl->Sl
 |.sl i::as,d::outs,ρ=>xJ as outs (ρ.set i (lm d))
 |_::as,_::outs,ρ=>xJ as outs ρ
 |_,_,ρ=>ρ
noncomputable def qS:List AK->List Nat
 |[]=>[]
 |.sl i::as=>i::qS as
 |_::as=>qS as
noncomputable def frA:List AK->Nat
 |[]=>0
 |.fr::as=>frA as+1
 |_::as=>frA as
section
theorem yC:∀{as:List AK}{vs:List V}{ds g:List D},Rep K own F H σ ρ->(∀i∈qS as,i∈own)->ArgV K H0 F H σ as vs ds->kf as ds ρ=lm g->ArgsIs K F H (as.map yB) vs g
 |[],vs,ds,g,rp,hs,av,e=>by cases vs <;> cases ds <;> first|exact av.elim|(simp[kf]at e;subst e;trivial)
 |a::as,[],ds,g,rp,hs,av,e=>by cases a <;> exact av.elim
 |a::as,v::vs,[],g,rp,hs,av,e=>by cases a <;> exact av.elim
 | .vl::as,v::vs,d::ds,g,rp,hs,av,e=>by
  cases q:kf as ds ρ with
  |none=>simp[kf,q]at e
  |some l=>
   have e:d::l=g:=by simpa[kf,q]using e
   subst e;exact⟨av.1,yC rp hs av.2 q⟩
 | .fr::as,v::vs,d::ds,g,rp,hs,av,e=>by
  cases q:kf as ds ρ with
  |none=>simp[kf,q]at e
  |some l=>
   have e:d::l=g:=by simpa[kf,q]using e
   subst e;obtain⟨a,h1,_,h2,c⟩:=av.1;exact⟨⟨a,h1,h2,c⟩,yC rp hs av.2 q⟩
 | .sl i::as,v::vs,d::ds,g,rp,hs,av,e=>by
  obtain⟨h1,_,b⟩:=av;have hi:i∈own:=hs i (af.mpr (.inl rfl));obtain⟨d',hd⟩:=rp.opn i hi;obtain⟨a,e1,k,f⟩:=rp.ow i d' hi hd;rw[h1]at e1;cases e1;cases q:kf as ds ρ with
  |none=>simp[kf,q,hd]at e
  |some l=>
   have e:d'::l=g:=by simpa[kf,q,hd]using e
   subst e;exact⟨⟨a,rfl,k,f⟩,yC rp (λj h=>hs j (ae _ h)) b q⟩
theorem vb:∀{as:List AK}{vs:List V}{ds:List D}{b:Z7},ArgV K H0 F H σ as vs ds->b∈yz (as.map yB) vs->(∃i∈qS as,σ[i]?=lm (lm (V.ref b)))\/(H0 b=lr/\frA as≠0/\H b≠lr/\F b=lr)
 |[],vs,ds,b,av,h=>by cases vs <;> simp[yz]at h
 |a::as,[],ds,b,av,h=>by cases a <;> exact av.elim
 |a::as,v::vs,[],b,av,h=>by cases a <;> exact av.elim
 |.vl::as,v::vs,d::ds,b,av,h=>by
  have h:b∈yz (as.map yB) vs:=by cases v <;> exact h
  exact vb (as:=as) av.2 h
 | .fr::as,v::vs,d::ds,b,av,h=>by
  obtain⟨⟨a,rfl,f,g,o⟩,c⟩:=av;have h:b∈a::yz (as.map yB) vs:=h;rcases af.mp h with e|h;·subst e;exact .inr ⟨f,by simp[frA],o.there,g⟩
  .rcases vb c h with z|⟨z,_,z2⟩
   .exact .inl z
   .exact .inr ⟨z,by simp[frA],z2⟩
 | .sl i::as,v::vs,d::ds,b,av,h=>by
  obtain⟨h1,_,c⟩:=av;have up:b∈yz (as.map yB) vs->(∃j∈qS (.sl i::as),σ[j]?=lm (lm (V.ref b)))\/(H0 b=lr/\frA (.sl i::as)≠0/\H b≠lr/\F b=lr):=λh=>by
   rcases vb c h with⟨j,hj,e⟩|z;·exact .inl ⟨j,ae _ hj,e⟩
   .exact .inr z
  cases v with
  |ref a=>
   have h:b∈a::yz (as.map yB) vs:=h;rcases af.mp h with e|h;·subst e;exact .inl ⟨i,af.mpr (.inl rfl),h1⟩
   .exact up h
  |_=>exact up h
theorem ux:∀{as:List AK}{vs:List V}{ds:List D},Rep K own F H σ ρ->(∀x,OA own σ x->H0 x≠lr)->(∀i∈qS as,i∈own)->(qS as).Nodup->frA as<=1->ArgV K H0 F H σ as vs ds->(yz (as.map yB) vs).Nodup
 |[],vs,ds,rp,h0,hs,nd,hf,av=>by cases vs <;> simp[yz]
 |a::as,[],ds,rp,h0,hs,nd,hf,av=>by cases a <;> exact av.elim
 |a::as,v::vs,[],rp,h0,hs,nd,hf,av=>by cases a <;> exact av.elim
 |.vl::as,v::vs,d::ds,rp,h0,hs,nd,hf,av=>by have q:=ux (as:=as) rp h0 hs nd hf av.2;cases v <;> exact q
 |.fr::as,v::vs,d::ds,rp,h0,hs,nd,hf,av=>by
  have g:frA as=0:=by simp only[frA]at hf;lia
  obtain⟨⟨a,rfl,l,m,o⟩,b⟩:=av;show(a::yz (as.map yB) vs).Nodup;refine aZ.mpr ⟨λz=>?_,ux rp h0 hs nd 'b' b⟩;rcases vb b z with⟨i,hi,e⟩|⟨_,n,_⟩
  .exact h0 a ⟨i,hs i hi,e⟩ l
  .exact n g
 | .sl i::as,v::vs,d::ds,rp,h0,hs,nd,hf,av=>by
  obtain⟨h1,_,b⟩:=av;have h:∀j∈qS as,j∈own:=λj c=>hs j (ae _ c);have hi:i∈own:=hs i (af.mpr (.inl rfl));obtain⟨k,f⟩:=aZ.mp nd;have q:=ux rp h0 h f hf b;cases v with
  |ref a=>
   show(a::yz (as.map yB) vs).Nodup;refine aZ.mpr ⟨λz=>?_,q⟩;rcases vb b z with⟨j,c,e⟩|⟨n,_⟩
   .exact k (by rw[rp.dis i j a hi (h j c) h1 e];exact c)
   .exact h0 a ⟨i,hi,h1⟩ n
  |_=>exact q
theorem wn:∀{as:List AK}{b:List D}{ρ:Sl}{i:Nat},i∉qS as->(xJ as b ρ)[i]?=ρ[i]?
 |[],b,ρ,i,h=>by cases b <;> rfl
 |a::as,[],ρ,i,h=>by cases a <;> rfl
 |.vl::as,d::b,ρ,i,h=>wn (as:=as) h
 |.fr::as,d::b,ρ,i,h=>wn (as:=as) h
 |.sl j::as,d::b,ρ,i,h=>by
  have h':i≠j/\i∉qS as:=by simpa[qS]using h
  show(xJ as b (ρ.set j (lm d)))[i]?=_;rw[wn h'.2,aA (bj h'.1)]
theorem zE:∀{as:List AK}{b:List D}{ρ:Sl},(xJ as b ρ).length=ρ.length
 |[],b,ρ=>by cases b <;> rfl
 |a::as,[],ρ=>by cases a <;> rfl
 |.vl::as,d::b,ρ=>zE (as:=as)
 |.fr::as,d::b,ρ=>zE (as:=as)
 |.sl j::as,d::b,ρ=>by show(xJ as b (ρ.set j (lm d))).length=_;rw[zE,ii]
theorem JO{F' H':Hp}:∀{as:List AK}{vs:List V}{ds b:List D}{ρ:Sl},(qS as).Nodup->(∀i∈qS as,i < ρ.length)->ArgV K H0 F H σ as vs ds->uO K F' H' (as.map yB) vs b->∀i∈qS as,∃d a,(xJ as b ρ)[i]?=lm (lm d)/\σ[i]?=lm (lm (V.ref a))/\F' a=lr/\OwnIs K F' H' a d
 |[],vs,ds,b,ρ,nd,hl,av,o,i,hi=>by simp[qS]at hi
 |a::as,[],ds,b,ρ,nd,hl,av,o,i,hi=>by cases a <;> exact av.elim
 |a::as,v::vs,[],b,ρ,nd,hl,av,o,i,hi=>by cases a <;> exact av.elim
 |a::as,v::vs,d::ds,[],ρ,nd,hl,av,o,i,hi=>by cases a <;> exact o.elim
 |.vl::as,v::vs,d::ds,u::b,ρ,nd,hl,av,o,i,hi=>JO (as:=as) nd hl av.2 o i hi
 |.fr::as,v::vs,d::ds,u::b,ρ,nd,hl,av,o,i,hi=>JO (as:=as) nd hl av.2 o i hi
 |.sl j::as,v::vs,d::ds,u::b,ρ,nd,hl,av,o,i,hi=>by
  obtain⟨f,n⟩:=aZ.mp nd;obtain⟨h1,_,c⟩:=av;obtain⟨⟨a,e,g,ow⟩,o2⟩:=o;subst e;rcases af.mp hi with e|hi;·subst e;refine⟨u,a,?_,h1,g,ow⟩;show(xJ as b (ρ.set i (lm u)))[i]?=_;rw[wn f,aL (hl i (af.mpr (.inl rfl)))]
  .exact JO (as:=as) (ρ:=ρ.set j (lm u)) n (λk h=>by rw[ii];exact hl k (ae _ h)) c o2 i hi
end
def qt(as:List AK)(G:jy)(fr:vV):qW:=λρ=>(fr ρ).bind λp=>match kf as p.1 p.2 with
 |some ds=>match G ds with
  |.ok q=>.ok (q.1,xJ as q.2 p.2)
  |.exc c o=>.exc c (xJ as (o.map (·.getD .non)) p.2)
  |.bad=>.bad
 |none=>.bad
variable{mr:Mo}{CX:CXT}{f:Z7}{fd:mD}{ps:List Str}
section
variable{G:jy}{fr:vV}
theorem Yy{F' H':Hp}{b:List D}(r:Rep C.K own F H σ ρ)(m:∀x,OA own σ x->H0 x≠lr)(hs:∀i∈qS as,i∈own)(nd:(qS as).Nodup)(k:ArgV C.K H0 F H σ as vs ds)(t:Same F' H')(c:Chg (LA (as.map yB) vs) F H F' H')(o:uO C.K F' H' (as.map yB) vs b):Rep C.K own F' H' σ (xJ as b ρ):=by
 have pin:=JO (ρ:=ρ) nd (λi hi=>by obtain⟨d,e⟩:=r.opn i (hs i hi);exact(aE.mp e).1) k o;refine⟨t,by rw[zE];exact r.len,λi d hi e=>?_,λi d hi e=>?_,λi hi=>?_,r.dis⟩;·rw[wn (λz=>hi (hs i z))]at e;obtain⟨v,h1,h2⟩:=r.val i d hi e;exact⟨v,h1,h2.mono c.grow⟩
 .by_cases q:i∈qS as;·obtain⟨d',a,e1,w,s,p⟩:=pin i q;rw[e1]at e;cases e;exact⟨a,w,s,p⟩
  .rw[wn q]at e;obtain⟨a,h1,h2,g⟩:=r.ow i d hi e;have l:¬LA (as.map yB) vs a:=λz=>by
    rcases vb k z with⟨j,h,y⟩|⟨n,_⟩
    .exact q (by rw[r.dis i j a hi (hs j h) h1 y];exact h)
    .exact m a ⟨i,hi,h1⟩ n
   refine⟨a,h1,?_,g.grow c.grow λo' f=>c.keep a o' f l⟩;cases f:F' a with
   |none=>rfl
   |some u=>
    rcases c.new a (by rw[f];simp)with z|z|z;·exact absurd h2 z
    .exact absurd z g.there
    .exact absurd z l
 .by_cases q:i∈qS as;·obtain⟨d',a,e1,_⟩:=pin i q;exact⟨d',e1⟩
  .rw[wn q];exact r.opn i hi
theorem Ug{Q:VK}(l:∀i∈C.ox,i∈own)(hs:∀i∈qS as,i∈own)(nd:(qS as).Nodup)(s:frA as<=1)(h:tE C own mr (qt as G fr) σ H Q):tAr C own as fr σ H λvs H1=>spD C.K C.cv (as.map yB) mr G (vs++[]) H1 Q C.E:=by
 obtain⟨F,ρ,r,h⟩:=h;have m:∀x,OA own σ x->H x≠none:=λx z=>(r.OA_there z).1;refine⟨F,ρ,r,?_⟩;unfold qt at h;cases k:fr ρ with
 | ok p=>
  rw[k]at h;obtain⟨ds,ρ1⟩:=p;intro vs F1 H1 a c1 f;rw[bw];have h1:Po C own mr σ F H (match kf as ds ρ1 with|some ds=>(match G ds with|.ok q=>.ok (q.1,xJ as q.2 ρ1)|.exc c o=>.exc c (xJ as (o.map (·.getD .non)) ρ1)|.bad=>.bad)|none=>.bad) Q:=h;cases q:kf as ds ρ1 with
  |none=>simp only[q]at h1;exact h1.elim
  | some g=>
   simp only[q]at h1;have lo:∀x,LA (as.map yB) vs x->OA own σ x\/H x=none:=λx z=>by
    rcases vb f z with⟨i,hi,e⟩|⟨n,_⟩
    .exact .inl ⟨i,hs i hi,e⟩
    .exact .inr n
   refine⟨F1,g,a.sub,yC a hs f q,ux a m hs nd s f,?_⟩;cases j:G g with
   |ok p=>rw[j]at h1;obtain⟨d,b⟩:=p;exact λv F' H' t c o mo=>h1 v F' H' (Yy a m hs nd f t c o) (c1.trans c lo) (MoIs.back (Ha:=H1) c1 mo)
   |exc x o=>rw[j]at h1;exact λF' H' t c b=>h1 F' H' t ((Yy a m hs nd f t c b).ioIs l) (c1.trans c lo)
   |bad=>rw[j]at h1;exact h1.elim
 |exc c=>rw[k]at h;exact h
 |bad=>rw[k]at h;exact h.elim
theorem qfE{k:Nat}{p pos:Pos}(F:FnOk X.prog X.w X.K X.mg X.base CX k f fd ps (spD C.K C.cv ms mr G))(c:Room k X.A)(hg:Gl X x)(m:X.mg x=lm (.ref f))(a:nV X.K (.ref f)=lv)(hb:Binds X.K fd ps [])(hx:jJ CX X C.E)(g:PA X (e::es) (tAr C own as fr))(s:ms=as.map yB:=by rfl)(hs:∀i∈qS as,i∈own:=by decide)(nd:(qS as).Nodup:=by decide)(d:frA as<=1:=by decide)(o:∀i∈C.ox,i∈own:=by exact jK rfl)(b:Dbg x:=by decide)(he:lz (e::es) X.env='j'::lz es X.env:=by exact qV rfl)(l:(lM pos (lz es X.env)).any (·.1)=false:=by exact vx rfl):PE X (.Call (.Name x p) (e::es) [] pos) (tE C own mr (qt as G fr)):=by
 subst s;exact jp (qfb F c hg m a hb .nil hx g b he l) λσ H Q h=>Ug o hs nd d h
end
structure ItIs(K:Y9)(F:Hp)(J:It)(ds:List D):Prop where
 go:∀i H,i<ds.length->Same F H->J.go i H
 yld:∀i Fi H x H' d,ds[i]?=lm d->Same F Fi->Same Fi H->J.yld i H x H'->∃F',Chg No Fi H F' H'/\Same F' H'/\Is K F' x d
 stop:∀i H,ds.length<=i->Same F H->J.stop i H
def PoI(C:Ct)(own:List Nat)(σ:St)(F H:Hp)(r:Out (List D×Sl))(R:It->Hp->Prop):Prop:=match r with
 |.ok (ds,ρ')=>∀J F' H',Rep C.K own F' H' σ ρ'->Chg (OA own σ) F H F' H'->ItIs C.K F' J ds->R J H'
 |.exc c ρ'=>∀F' H',Same F' H'->Yo C.K C.ox F' H' σ ρ'->Chg (OA own σ) F H F' H'->C.E (C.cv c) lr H'
 |.bad=>False
def tIt(C:Ct)(own:List Nat)(f:vV):TI:=λσ H R=>∃F ρ,Rep C.K own F H σ ρ/\PoI C own σ F H (f ρ) R
noncomputable def Uh:D->Out (List D)
 |.lst xs=>.ok xs
 |.tup xs=>.ok xs
 |_=>.bad
def qmk(f:qW):vV:=λρ=>(f ρ).bind λp=>(Uh p.1).bind λds=>.ok (ds,p.2)
theorem PoI.bindV{m:Mo}{o:Vl}{k:D×Sl->Out (List D×Sl)}{Q:It->Hp->Prop}{R:VK}(hp:PoI C own σ F H (o.bind k) Q)(h:∀v F1 H1 d ρ1,Rep C.K own F1 H1 σ ρ1->Chg (OA own σ) F H F1 H1->MoIs C.K m H F1 H1 v d->PoI C own σ F H (k (d,ρ1)) Q->R v H1):Po C own m σ F H o R:=by
 cases o with
 |ok p=>exact λv F1 H1 a c mo=>h v F1 H1 p.1 p.2 a c mo hp
 |exc x=>exact hp
 |bad=>exact hp.elim
variable{tg iter:Z4}{xs:List V}{gs:List D->Sl->Out Sl}
section
variable{f:qW}
theorem qc1{t t':TI}(h:PI X tg e t)(i:∀σ H Q,t' σ H Q->t σ H Q):PI X tg e t':=⟨λZ9 s σ H R I hw=>h Z9 s σ H R I (i σ H R hw)⟩
theorem qis(p:SqL K F a xs)(t:IsL K F xs ds):ItIs K F (Itl K a) ds where
 go:=λi H hi s=>by
  have hx:i<xs.length:=by rw[t.length];exact hi
  exact⟨xs,xs[i],s.seq p,by simp[hx]⟩
 yld:=λi Fi H x H' d e s1 s2 y=>by obtain⟨rfl,y⟩:=y;obtain⟨v,h1,h2⟩:=t.getD e;have q:=y xs ((s1.trans s2).seq p);rw[h1]at q;cases q;exact⟨Fi,.refl,s2,h2.mono s1⟩
 stop:=λi H hi s=>⟨xs,s.seq p,by rw[t.length];exact hi⟩
theorem qit(p:SqT K F a xs)(t:IsL K F xs ds):ItIs K F (Itt K a) ds where
 go:=λi H hi s=>by
  have hx:i<xs.length:=by rw[t.length];exact hi
  exact⟨xs,xs[i],qY s p,by simp[hx]⟩
 yld:=λi Fi H x H' d e s1 s2 y=>by obtain⟨rfl,y⟩:=y;obtain⟨v,h1,h2⟩:=t.getD e;have q:=y xs (qY (s1.trans s2) p);rw[h1]at q;cases q;exact⟨Fi,.refl,s2,h2.mono s1⟩
 stop:=λi H hi s=>⟨xs,qY s p,by rw[t.length];exact hi⟩
noncomputable def Qz(lo:Int)(n:Nat):List D:=(aB n).map λk=>.int (lo+(k:Nat))
theorem qeh{lo:Int}:ItIs K F (Itr lo n) (Qz lo n) where
 go:=λi H hi _=>by
  have:i<n:=by simpa[Qz]using hi
  exact this
 yld:=λi Fi H x H' d e s1 s2 y=>by
  obtain⟨rfl,rfl⟩:=y;have e:d=.int (lo+i):=by
   unfold Qz at e;rw[aJ]at e;cases q:(aB n)[i]? with
   |none=>rw[q]at e;cases e
   |some k=>
    rw[q]at e;have h:k=i:=by have:=aE.mp q;obtain⟨_,z⟩:=this;simpa using z.symm
    subst h;exact(aU.inj e).symm
  subst e;exact⟨Fi,.refl,s2,.int _⟩
 stop:=λi H hi _=>by
  have:n<=i:=by simpa[Qz]using hi
  exact this
def kg(f:qW):vV:=λρ=>(f ρ).bind λp=>match p.1 with
 |.int j=>if -(2 ^ 62)<=j/\j<2 ^ 62 then .ok (Qz 0 j.toNat,p.2)else .bad
 |_=>.bad
theorem vW{p:Pos}(hg:Gl X "range")(b:X.mg "range"=lr)(h:PE X e (tE C own m f))(hs:lz [e] X.env=['j']:=by exact qF rfl):PI X tg (.Call (.Name "range" p) [e] [] pos) (tIt C own (kg f)):=by
 refine qc1 (Gr hg b (qI h jq hs) hs) λσ H R ⟨F,ρ,r,h⟩=>⟨F,ρ,r,PoI.bindV h λv F1 H1 d ρ1 a c1 c h1=>?_⟩
 cases d with
 |int j=>
  obtain rfl:=c.top.int;have h1:PoI C own σ F H (if -(2 ^ 62)<=j/\j<2 ^ 62 then .ok (Qz 0 j.toNat,ρ1)else .bad) R:=h1;by_cases z:-(2 ^ 62)<=j/\j<2 ^ 62;·rw[Aa z]at h1;exact⟨j,rfl,z.1,z.2,h1 _ F1 H1 a c1 qeh⟩
  .rw[Ab z]at h1;exact h1.elim
 |_=>exact h1.elim
def tGd(C:Ct)(own:List Nat)(g:D->Sl->Out Sl):TG:=λv σ H Q=>∃F ρ d,Rep C.K own F H σ ρ/\Is C.K F v d/\∃ρ',g d ρ=.ok ρ'/\∀σ',Rep C.K own F H σ' ρ'->(∀b,OA own σ' b->OA own σ b)->(∀i∈C.io,σ'[i]?=σ[i]?)->Q σ' H
def qjL(C:Ct)(own:List Nat)(g:List D->Sl->Out Sl):TGs:=λvs σ H Q=>∃F ρ ds,Rep C.K own F H σ ρ/\IsL C.K F vs ds/\∃ρ',g ds ρ=.ok ρ'/\∀σ',Rep C.K own F H σ' ρ'->(∀b,OA own σ' b->OA own σ b)->(∀i∈C.io,σ'[i]?=σ[i]?)->Q σ' H
theorem qiu{t t':TG}(h:PG X e t)(i:∀v σ H Q,t' v σ H Q->t v σ H Q):PG X e t':=⟨λZ9 s σ H v u Q I r hw=>h Z9 s σ H v u Q I r (i v σ H Q hw)⟩
theorem qei{t t':TGs}(h:PGs X es t)(i:∀v σ H Q,t' v σ H Q->t v σ H Q):PGs X es t':=⟨λZ9 s σ H v u Q I r hw=>h Z9 s σ H v u Q I r (i v σ H Q hw)⟩
noncomputable def gNm(i:Nat):D->Sl->Out Sl:=λd ρ=>if i < ρ.length then .ok (ρ.set i (lm d))else .bad
theorem QW{own:List Nat}(h:i∉own):vK own [i]=own:=by unfold vK;rw[fj];intro j D;simp only[ay,decide_eq_true_eq];exact λz=>h (by rw[<-z];exact D)
theorem Yz(c:X.N.Nodup)(hi:X.N[i]?=lm x)(hx:Loc X.env.scope x)(l:i∉own:=by decide)(o:i∉C.io:=by exact yw rfl)(h:X.fn x=lv\/X.env.scope.names.lookup x=lm .local:=by first|exact .inl rfl|exact .inr rfl):PG X (.Name x pos) (tGd C own (gNm i)):=by
 refine qiu (qe3 c hi hx h) λv σ H Q a=>?_;obtain⟨F,ρ,d,r,is,ρ',e,k⟩:=a;unfold gNm at e;by_cases z:i < ρ.length
 .rw[Aa z]at e;cases e;have r2:=r.put z is;rw[QW l]at r2;refine k _ r2 (λb q=>?_) λj D=>aA λq=>o (by rw[q];exact D);have f:OA (vK own [i]) (σ.set i (lm v)) b:=by rw[QW l];exact q
  exact f.put
 .rw[Ab z]at e;cases e
noncomputable def zp:List D->Sl->Out Sl
 |[],ρ=>.ok ρ
 |_::_,_=>.bad
def jO(g:D->Sl->Out Sl)(gs:List D->Sl->Out Sl):List D->Sl->Out Sl
 |d::ds,ρ=>(g d ρ).bind λρ1=>gs ds ρ1
 |[],_=>.bad
theorem YA:PGs X [] (qjL C own zp):=by
 refine qei qe4 λvs σ H Q a=>?_;obtain⟨F,ρ,ds,r,is,ρ',e,k⟩:=a;cases is with
 |nil=>cases e;exact⟨rfl,k σ r (λ_ z=>z) λ_ _=>rfl⟩
 |cons _ _=>cases e
theorem yD{g:D->Sl->Out Sl}(h1:PG X e (tGd C own g))(h2:PGs X es (qjL C own gs))(hs:(mG (e::es) X.env).map (·.2)=assign e X.env::(mG es X.env).map (·.2):=by rfl):PGs X (e::es) (qjL C own (jO g gs)):=by
 refine qei (qcy h1 h2 hs) λvs σ H Q n=>?_;obtain⟨F,ρ,ds,p,is,ρ',e,k⟩:=n;cases is with
 |nil=>cases e
 |@cons v d vs ds a t=>
  have e:(g d ρ).bind (λρ1=>gs ds ρ1)=.ok ρ':=e;cases q:g d ρ with
  |ok ρ1=>rw[q]at e;exact⟨v,vs,rfl,F,ρ,d,p,a,ρ1,q,λσ1 h j m=>⟨F,ρ1,ds,h,t,ρ',e,λf r o l=>k f r (λb z=>j b (o b z)) λi hi=>(l i hi).trans (m i hi)⟩⟩
  |exc c=>rw[q]at e;cases e
  |bad=>rw[q]at e;cases e
noncomputable def zq(n:Nat)(gs:List D->Sl->Out Sl):D->Sl->Out Sl
 |.tup ds,ρ=>if ds.length=n then gs ds ρ else .bad
 |_,_=>.bad
theorem qah{k:Nat}(l:C.K=X.K)(g:X.calm=lv)(h:PGs X es (qjL C own gs))(f:(mG es X.env).length=n:=by rfl)(c:(mG es X.env).findIdx? (·.1)=none:=by rfl):PG X (.Tuple es k pos) (tGd C own (zq n gs)):=by
 refine qiu (qhT g h f c) λv σ H Q b=>?_;obtain⟨F,ρ,d,r,is,ρ',e,k⟩:=b;cases is with
 |@tup a xs ds p t=>
  have e:(if ds.length=n then gs ds ρ else .bad)=.ok ρ':=e;by_cases z:ds.length=n;·rw[Aa z]at e;exact⟨a,xs,rfl,by rw[<-l];exact qY r.sub p,by rw[t.length];exact z,F,ρ,ds,r,t,ρ',e,k⟩
  .rw[Ab z]at e;cases e
 |_=>cases e
def qml(fe:qW)(g:D->Sl->Out Sl):qM:=λρ=>(fe ρ).bind λp=>match g p.1 p.2 with
 |.ok ρ'=>.ok (.nx,ρ')
 |_=>.bad
def jU(g:D->Sl->Out Sl)(fb:qM):List D->qM
 |[],ρ=>.ok (.nx,ρ)
 |d::ds,ρ=>(g d ρ).plain.bind λρ1=>(fb ρ1).bind λp=>match p.1 with
  |.nx=>jU g fb ds p.2
  |.ct=>jU g fb ds p.2
  |.bk=>.ok (.nx,p.2)
  |.rt v=>.ok (.rt v,p.2)
def QX(fi:vV)(g:D->Sl->Out Sl)(fb:qM):qM:=λρ=>(fi ρ).bind λp=>jU g fb p.1 p.2
theorem kI{body:List Z3}{fi:vV}{g:D->Sl->Out Sl}{fb:qM}(hp:PassesOwn 'c' X.A X.env X.xe)(R:X.calm=lv)(hi:PI X tg iter (tIt C own fi))(hg:PG X tg (tGd C own g))(hb:PSs X body (tSt { C with ol:=own } own own fb))(hs:∀x,mq iter X.env x=pure x:=by intro _;rfl):PS X (.For tg iter body [] pos) (tSt C own own (QX fi g fb)):=by
 refine Qy (qhV hp R hi hg hb hs) λD σ H ⟨F,ρ,P,h⟩=>⟨F,ρ,P,?_⟩
 unfold QX at h;cases I:fi ρ with
 |exc c=>rw[I]at h;exact h
 |bad=>rw[I]at h;exact h.elim
 | ok p=>
  rw[I]at h;obtain⟨ds,ρ1⟩:=p;intro J F1 H1 u c1 it;have h:PoS C own own σ F H (jU g fb ds ρ1) D:=h;refine⟨λi m σ' H'=>m=ds.length - i/\i<=ds.length/\∃F' ρ',Nx C own own σ F H ρ' σ' F' H'/\Same F1 F'/\PoS C own own σ' F' H' (jU g fb (ds.drop i) ρ') D,⟨ds.length,by simp,be _,F1,ρ1,.ofE u c1,Same.refl _,h.shift (.ofE u c1)⟩,?_⟩;rintro i m σ' H' ⟨rfl,Q,F',ρ',nx,gr,po⟩;by_cases t:i<ds.length
  .have hd:ds.drop i=ds[i]::ds.drop (i+1):=df t;rw[hd]at po;have po:PoS C own own σ' F' H' ((g ds[i] ρ').plain.bind λρ1=>(fb ρ1).bind λp=>match p.1 with|.nx=>jU g fb (ds.drop (i+1)) p.2|.ct=>jU g fb (ds.drop (i+1)) p.2|.bk=>.ok (.nx,p.2)|.rt v=>.ok (.rt v,p.2)) D:=po;refine .inr ⟨it.go i H' t (gr.trans nx.rep.sub),λl H2=>ds.length - (i+1)=ds.length - (i+1)/\i+1<=ds.length/\∃F' ρ',Nx C own own σ F H ρ' l F' H2/\Same F1 F'/\PoS C own own l F' H2 (jU g fb (ds.drop (i+1)) ρ') D,λl H2 q=>⟨ds.length - (i+1),by omega,q⟩,λx H2 y=>?_⟩;obtain⟨o,c2,s2,N⟩:=it.yld i F' H' x H2 ds[i] (by simp[t]) gr nx.rep.sub y;cases E:g ds[i] ρ' with
   |exc c=>rw[E]at po;exact po.elim
   |bad=>rw[E]at po;exact po.elim
   | ok ρ2=>
    rw[E]at po;refine⟨o,ρ',ds[i],nx.rep.grow c2 s2,N,ρ2,E,λj r K O=>⟨o,ρ2,r,?_⟩⟩;have M:Nx C own own σ' F' H' ρ2 j o H2:=⟨r,c2.ofNo,λb z=>.inl (K b z),O⟩
    have a:=PoS.shift (show PoS C own own σ' F' H' ((fb ρ2).bind λp=>match p.1 with|.nx=>jU g fb (ds.drop (i+1)) p.2|.ct=>jU g fb (ds.drop (i+1)) p.2|.bk=>.ok (.nx,p.2)|.rt v=>.ok (.rt v,p.2)) D from po) M;have up:∀{B f L k},Nx { C with ol:=own } own own j o H2 B f L k->Nx C own own j o H2 B f L k:=λz=>⟨z.rep,z.chg,z.oa,z.io⟩
    cases G:fb ρ2 with
    |exc c=>rw[G]at a;exact a
    |bad=>rw[G]at a;exact a.elim
    |ok p=>
     rw[G]at a;obtain⟨fl,B⟩:=p;cases fl with
     |nx=>exact λf L k n=>⟨rfl,t,L,B,(nx.then M).then (up n),(gr.trans c2.grow).trans n.chg.grow,PoS.shift (show PoS C own own j o H2 (jU g fb (ds.drop (i+1)) B) D from a) (up n)⟩
     |ct=>exact λf L k n=>⟨rfl,t,L,B,(nx.then M).then (up n),(gr.trans c2.grow).trans n.chg.grow,PoS.shift (show PoS C own own j o H2 (jU g fb (ds.drop (i+1)) B) D from a) (up n)⟩
     |bk=>exact λf L k n=>a f L k (up n)
     |rt d=>exact λv f L k s io c e mo=>a v f L k s io c e mo
  .have e:i=ds.length:=by omega
   subst e;rw[List.drop_length]at po;exact .inl ⟨it.stop _ H' (ao _) (gr.trans nx.rep.sub),po σ' F' H' (.refl nx.rep)⟩
def jb(ft:yu)(fb:qM):Nat->qM
 | 0,_=>.bad
 |n+1,ρ=>(ft ρ).bind λq=>if q.1=lv then(fb q.2).bind λp=>match p.1 with
  |.nx=>jb ft fb n p.2
  |.ct=>jb ft fb n p.2
  |.bk=>.ok (.nx,p.2)
  |.rt v=>.ok (.rt v,p.2)
  else .ok (.nx,q.2)
theorem zZ{body:List Z3}{ft:yu}{fb:qM}(n:Nat)(hp:PassesOwn 'c' X.A X.env X.xe)(ht:PT X t (tT C own ft))(hb:PSs X body (tSt { C with ol:=own } own own fb)):PS X (.While t body [] pos) (tSt C own own (jb ft fb n)):=by
 refine Qy (qcz hp ht hb) λD σ H u=>?_;obtain⟨F,ρ,x,h⟩:=u;refine⟨λm σ' H'=>∃F' ρ',Rep C.K own F' H' σ' ρ'/\PoS C own own σ' F' H' (jb ft fb m ρ') D,⟨n,F,ρ,x,h⟩,?_⟩;rintro m σ1 H1 ⟨F1,ρ1,j,po⟩;refine⟨F1,ρ1,j,?_⟩;cases m with
 |zero=>exact po.elim
 | succ m=>
  have po:PoS C own own σ1 F1 H1 ((ft ρ1).bind λq=>if q.1=lv then(fb q.2).bind λp=>match p.1 with|.nx=>jb ft fb m p.2|.ct=>jb ft fb m p.2|.bk=>.ok (.nx,p.2)|.rt v=>.ok (.rt v,p.2)else .ok (.nx,q.2)) D:=po;refine PoS.bindT po λi H2 k ρ2 r c2 h2=>?_;cases k with
  |false=>exact h2 σ1 i H2 (.refl r)
  | true=>
   refine⟨λb o=>∃F' ρ',Rep C.K own F' o b ρ'/\PoS C own own b F' o (jb ft fb m ρ') D,λb o q=>⟨m,by omega,q⟩,i,ρ2,r,?_⟩;have h2:PoS C own own σ1 i H2 ((fb ρ2).bind λp=>match p.1 with|.nx=>jb ft fb m p.2|.ct=>jb ft fb m p.2|.bk=>.ok (.nx,p.2)|.rt v=>.ok (.rt v,p.2)) D:=h2;have up:∀{B f L a},Nx { C with ol:=own } own own σ1 i H2 B f L a->Nx C own own σ1 i H2 B f L a:=λz=>⟨z.rep,z.chg,z.oa,z.io⟩
   cases l:fb ρ2 with
   |exc c=>rw[l]at h2;exact h2
   |bad=>rw[l]at h2;exact h2.elim
   |ok p=>
    rw[l]at h2;obtain⟨fl,B⟩:=p;cases fl with
    |nx=>exact λf L a g=>⟨L,B,g.rep,PoS.shift (show PoS C own own σ1 i H2 (jb ft fb m B) D from h2) (up g)⟩
    |ct=>exact λf L a g=>⟨L,B,g.rep,PoS.shift (show PoS C own own σ1 i H2 (jb ft fb m B) D from h2) (up g)⟩
    |bk=>exact λf L a g=>h2 f L a (up g)
    |rt d=>exact λv f L a s io c e mo=>h2 v f L a s io c e mo
end
noncomputable def KY(cells:List (Str×Z7)):List (Str×mE)->List (Str×Z7)->List (Str×Z7)
 |[],acc=>acc
 |(n,k)::r,acc=>if (k == .free)=lv then KY cells r ((n,(cells.lookup n).getD 0)::acc)else KY cells r acc
variable{env:Env}
theorem wV:∀(names:List (Str×mE))(acc:List (Str×Z7)),(∀x∈names,x.2=.free->∃c,env.cells.lookup x.1=lm c) ->(forIn names acc λ(x:Str×mE)(cs:List (Str×Z7))=>if (x.2 == bL)=lv then(do let a <-cellOf env x.1;pure (bx ((x.1,a)::cs)))else pure (bx cs):Sem (List (Str×Z7)))=pure (KY env.cells names acc)
 |[],acc,_=>rfl
 | (n,k)::r,acc,h=>by
  rw[i3];by_cases q:(k == bL)=lv
  .obtain⟨c,d⟩:=h (n,k) aj (by simpa using q);have e:cellOf env n=pure c:=by unfold cellOf;rw[d]
   simp only[q,if_true,e];have j:=wV r ((n,c)::acc) (λx hx=>h x (ae _ hx));simp only[KY,q,if_true,d,Option.getD_some];exact j
  .simp only[q,if_false,KY];exact wV r acc (λx hx=>h x (ae _ hx))
variable{scope:mQ}
theorem QY(h:∀x∈scope.names,x.2=.free->∃c,env.cells.lookup x.1=lm c):closureFor scope env=pure (KY env.cells scope.names []):=by have:=wV scope.names [] h;unfold closureFor;simp only[bind_pure];exact this
variable{cells:List (Str×Z7)}
theorem yf:∀{names:List (Str×mE)}{acc:List (Str×Z7)}{x:Str}{c:Z7},(∀y∈names,y.2=.free->∃c,cells.lookup y.1=lm c)->(KY cells names acc).lookup x=lm c->cells.lookup x=lm c\/acc.lookup x=lm c
 |[],acc,x,c,_,h=>.inr h
 | (n,k)::r,acc,x,c,hf,h=>by
  unfold KY at h;by_cases q:(k == bL)=lv
  .rw[Aa q]at h;obtain⟨S,d⟩:=hf (n,k) aj (by simpa using q);rcases yf (λy B=>hf y (ae _ B)) h with z|z;·exact .inl z
   .rw[bU]at z;have d:cells.lookup n=lm S:=d;by_cases e:(x == n)=lv
    .rw[e]at z;simp only[d,Option.getD_some]at z;have:x=n:=by simpa using e
     subst this;rw[d];exact .inl z
    .have e:(x == n)=false:=by simpa using e
     rw[e]at z;exact .inr z
  .rw[Ab q]at h;exact yf (λy B=>hf y (ae _ B)) h
theorem JP:∀{names:List (Str×mE)}{acc:List (Str×Z7)}{x:Str},(∃c,acc.lookup x=lm c)->∃c,(KY cells names acc).lookup x=lm c
 |[],_,_,h=>h
 | (n,k)::r,acc,x,h=>by
  unfold KY;by_cases q:(k == bL)=lv
  .rw[Aa q];refine JP ?_;obtain⟨c,d⟩:=h;rw[bU];by_cases e:(x == n)=lv;·rw[e];exact⟨_,rfl⟩
   .have e:(x == n)=false:=by simpa using e
    rw[e];exact⟨c,d⟩
  .rw[Ab q];exact JP h
theorem zF:∀{names:List (Str×mE)}{acc:List (Str×Z7)}{x:Str},(x,bL)∈names->∃c,(KY cells names acc).lookup x=lm c
 | (n,k)::r,acc,x,h=>by
  unfold KY;rcases af.mp h with e|h
  .cases e;rw[Aa (by rfl)];refine JP ?_;rw[bU,beq_self_eq_true];exact⟨_,rfl⟩
  .by_cases q:(k == bL)=lv;·rw[Aa q];exact zF h
   .rw[Ab q];exact zF h
def jt(X:Cx)(scope:mQ)(N:List Str)(fp:List Z7)(L:Z7)(s:lx)(H:Hp):Cx:=
 { X with N:=N,s₀:=s,H₀:=H,env:=compEnvC scope (KY X.env.cells scope.names []) L X.env,outer:=X.stack,stack:=X.stack,ex:=fp,fn:=λ_=>lw,pn:=[],xe:=λ_ _=>False }
structure ScOk(X:Cx)(scope:mQ):Prop where
 kind:scope.kind=.function
 nocell:∀y∈scope.names,y.2≠.cell
 names:∀y∈scope.names,y.2=.local->scope.names.lookup y.1=lm .local
 free:∀y∈scope.names,y.2=.free->X.env.kindOf y.1=lm .cell\/X.env.kindOf y.1=lm .free
 frl:∀y∈scope.names,y.2=.free->scope.names.lookup y.1=lm .free
theorem uy{a:α}:∀{l:List (Str×α)},l.lookup x=lm a->(x,a)∈l
 |[],h=>by simp at h
 | (n,k)::r,h=>by
  rw[bU]at h;by_cases e:(x == n)=lv
  .rw[e]at h;have h:lm k=lm a:=h;cases h;have:x=n:=by simpa using e
   subst this;exact aj
  .have e:(x == n)=false:=by simpa using e
   rw[e]at h;exact ae _ (uy h)
theorem xK{k:mE}(h:(relabel scope env).names.lookup x=lm k)(b:k=.cell\/k=.free)(a:∀y∈scope.names,y.2≠.cell):(x,bL)∈scope.names:=by
 have m:=uy h;obtain⟨⟨n,k'⟩,c,e⟩:=aw.mp m;dsimp only at e;by_cases q:(k' == bL&&env.scope.kind == .function&&env.kindOf n == lm .cell)=lv
 .rw[Aa q]at e;cases e;have:k'=.free:=by rw[aO,aO]at q;simpa using q.1.1
  subst this;exact c
 .rw[Ab q]at e;cases e;rcases b with rfl|rfl;·exact absurd rfl (a _ c)
  .exact c
theorem Vr(h:Vis (relabel scope env) x):∃k,(x,k)∈scope.names:=by
 have go:∀{k:mE},(relabel scope env).names.lookup x=lm k->∃k,(x,k)∈scope.names:=λ{k} h=>by
  obtain⟨⟨n,k'⟩,c,e⟩:=aw.mp (uy h);dsimp only at e;by_cases q:(k' == bL&&env.scope.kind == .function&&env.kindOf n == lm .cell)=lv;·rw[Aa q]at e;cases e;exact⟨_,c⟩
  .rw[Ab q]at e;cases e;exact⟨_,c⟩
 rcases h with h|h|h <;> exact go h
variable{Z9:Pns}{σc:St}{s s':lx}{fp:List Z7}{h':Z5}
section
theorem gb(I:Inv X Z9 σ H s)(S:ScOk X scope):∀y∈scope.names,y.2=.free->∃c,X.env.cells.lookup y.1=lm c:=λy B e=>I.ok.has y.1 (S.free y B e)
theorem qc2(I:Inv X Z9 σ H s)(S:ScOk X scope)(G:∀b∈fp,WP X Z9 H b)(R:∀b∈fp,b<s.heap.objs.size)(B:h'.Ns s.heap.objs.size (λ_=>lr))(l:∀b o,s.heap.get? b=lm o->h'.get? b=lm o)(hl:σc.length=N.length)(A:∀(j:Nat)(x:Str)(v:V),N[j]?=lm x->σc[j]?=lm (lm v)->(∃k,(x,k)∈scope.names)->∃i:Nat,X.N[i]?=lm x/\σ[i]?=lm (lm v)/\Vis X.env.scope x/\(x,bL)∈scope.names){t:Nat} :
  Inv (jt X scope N fp s.heap.objs.size s H) [] σc H { s with heap:=h',toks:=t }:=by
 have E:=gb I S;have cl:∀x c,(KY X.env.cells scope.names []).lookup x=lm c->X.env.cells.lookup x=lm c:=λx c e=>(yf E e).resolve_right 'f';have w:∀b∈fp,b∉frs X.stack:=λb hb z=>by
  obtain⟨f0,f1,f2,_⟩:=G b hb;rcases af.mp (I.stkSub b z)with e|e;·exact f1 e
  .exact f2 e
 refine⟨⟨I.ok.mod,?_,I.ok.glob,I.ok.blt,ao _,λx y c h1 h2=>I.ok.inj x y c (cl x c h1) (cl y c h2),λx hx=>?_,λx c h=>absurd h (by show ¬(lw=lv);exact bE),I.ok.hd,I.ok.frames,.inl rfl,λb hb=>⟨aD (R b hb),λx c e z=>?_⟩,I.bs,bn I.ok.bsz I.sz,λb o e hb=>?_,w,I.stack,I.stkFree⟩,rfl,I.bare,Un.kept l,⟨_,B,λj x v e1 g P=>?_⟩,λx c e=>?_,I.hok.fresh (ao _),λx c e=>I.freeC x c (cl x c e),λp hp=>absurd (show p∈([]:Pns)from hp) 'f',I.hok.kept l,hl⟩;·exact S.kind
 .refine zF ?_;rcases hx with hx|hx;·exact xK hx (.inl rfl) S.nocell
  .exact xK hx (.inr rfl) S.nocell
 .exact(G b hb).2.2.2.2.1 x c (cl x c e) z
 .rcases(G b hb).2.2.2.1 with z|z;·exact I.ok.noex b o e z
  .have C:=ax e;exact absurd (aK C (bn I.ok.bsz z)) (bS _)
 .obtain⟨i,g1,W,U,K⟩:=A j x v e1 g (Vr P);obtain⟨m,Y,D⟩:=I.loc;obtain⟨u,r,look⟩:=D i x v g1 W U;refine⟨u,r,?_⟩;obtain⟨L,f⟩:=zF (cells:=X.env.cells) (acc:=[]) K;have J:=cl x L f;have kd:(jt X scope N fp s.heap.objs.size s H).env.kindOf x=lm .cell\/(jt X scope N fp s.heap.objs.size s H).env.kindOf x=lm .free\/(jt X scope N fp s.heap.objs.size s H).env.kindOf x=lm .local:=by
   rcases P with z|z|z;·exact .inr (.inr z)
   .exact .inl z
   .exact .inr (.inl z)
  rcases look with⟨k,_⟩|⟨k,c,O,z⟩
  .rcases S.free _ K rfl with q|q;·have q:X.env.kindOf x=lm .cell:=q;rw[k]at q;cases q
   .have q:X.env.kindOf x=lm .free:=q;rw[k]at q;cases q
  .rw[J]at O;cases O;obtain⟨oc,d,a⟩:=z;rcases kd with q|q|q;·exact .inr ⟨.inl q,L,f,⟨oc,l _ _ d,a⟩⟩
   .exact .inr ⟨.inr q,L,f,⟨oc,l _ _ d,a⟩⟩
   .refine absurd q ?_;intro q;have Q:=uy (show(relabel scope X.env).names.lookup x=lm .local from q);obtain⟨⟨n,k'⟩,T,e⟩:=aw.mp Q;dsimp only at e;by_cases M:(k' == bL&&X.env.scope.kind == .function&&X.env.kindOf n == lm .cell)=lv;·rw[Aa M]at e;cases e
    .rw[Ab M]at e;cases e;have e1:=S.names _ T rfl;have g:=S.frl _ K rfl;have e1:scope.names.lookup x=lm .local:=e1;have g:scope.names.lookup x=lm .free:=g;rw[e1]at g;cases g
 .obtain⟨v,oc,d,a⟩:=I.cell x c (cl x c e);exact⟨v,oc,l _ _ d,a⟩
theorem qc3{H1:Hp}{s1:lx}{L:Z7}(I:Inv X Z9 σ H s)(h:∀b∈fp,WP X Z9 H b)(J:Inv (jt X scope N fp s.heap.objs.size s H) [] σc H' s')(t:bh s.heap.objs.size s'.heap h'):Inv X Z9 σ H' { s' with heap:=h' }:=by
 have a:H' s.heap.objs.size=none:=J.free;have ne:∀b o,s.heap.get? b=lm o->b≠s.heap.objs.size:=λb o e=>aD (ax e);have U:Un (frs X.stack) fp H H' s.heap s'.heap:=J.base;refine I.call' (s':={ s' with heap:=h' }) (ch:=fp) J.os ⟨λb o e n h1 h2=>(t.2 b (ne b o e)).trans (U.keep b o e n h1 h2),λb o e n h1 h2=>?_,U.free,λb o e h2=>?_,U.tups,U.frzs,U.tbls⟩ (λb u e=>?_) J.bare λb hb=>?_;·obtain⟨sl,q⟩:=U.slot b o e n h1 h2;exact⟨sl,(t.2 b (ne b o e)).trans q⟩
 .obtain⟨o',q⟩:=U.there b o e h2;exact⟨o',(t.2 b (ne b o e)).trans q⟩
 .refine(J.hok b u e).stay (λc w d q=>(t.2 c ?_).trans q) (λ_ q=>q) λ_ _ q=>q;rintro rfl;rcases d with z|z;·rw[<-z,a]at e;cases e
  .rw[a]at z;cases z
 .obtain⟨f0,f1,f2,f,f4,m⟩:=h b hb;exact⟨f,f1,f4,m⟩
end
set_option tactic.hygienic true in
theorem JQ{prog:lC}{w:lD}{A:lG}{R:oN->lx->Prop}{s:lx}{elt target iter:Z4}{ifs:List Z4}{scope:mQ}{pos:Pos}{it acc:lu}{env:Env}(I:Nat->lx->Prop)
  (l:∀ n s,I n s->lA 'd' A (mR it) (λr d=>match r with
   |none=>R (.ok .next) d
   | some v=>lA 'd' A (nH target it v) (λ_ e=>lA 'd' A (assign target env v) (λ_ i=>
     lA 'd' A (forIn ifs lv λc r=>if r=lv then do let ok <-isTrue c env (Z0 c env);pure (bx ok)else pure (bx r)) (λok b=>
      if ok=lv then lA 'd' A (Z0 elt env) (λx g=>
       lA 'd' A (call (.builtin "list.append") [acc,x]) (λ_ f=>∃m,m<n/\I m f) (λ_ _=>False) g) (λ_ _=>False) b
      else ∃m,m<n/\I m b) (λ_ _=>False) i) (λ_ _=>False) e) (λ_ _=>False) d) (λ_ _=>False) s)
  (n:Nat) (h:I n s):my 'd' A (.compLoop (.ListComp elt [⟨target,iter,ifs,0⟩] scope pos) 0 it acc env) R s:=by
 have no:∀{α:Type}{t:Sem α}{Q y:α->lx->Prop}{E:lu->lx->Prop}{s:lx},lA 'd' A t Q (λ_ _=>False) s->(∀a s,Q a s->y a s)->lA 'd' A t y E s:=λh k=>lR h k λ_ _ z=>z.elim;refine codeAny_loop rfl I (λn s B=>?_) n h;show lA _ A ((compTurn (.ListComp elt [⟨target,iter,ifs,0⟩] scope pos) 0 it acc env).onRaise (λx=>do nC x env;theTreesLotGoes x)) _ _ s;refine wpAny_noted ?_;rw[compTurn_list];refine lq (mT (lq (no (l n s B) λr d h₁=>?_)));cases r with
 |none=>exact ly h₁
 |some v=>
  refine lq (no h₁ λ_ e o=>lq (no o λ_ i u=>lq (no u λok b j=>?_)));cases ok with
  |false=>exact ly ⟨rfl,j⟩
  |true=>exact lq (lq (no j λx g q=>lq (no q λ_ f p=>ly (ly ⟨rfl,p⟩))))
structure PTs(Y:Cx)(ifs:List Z4)(t:TT):Prop where
 run:∀(Z9:Pns)(s:lx)(σ:St)(H:Hp)(Q:Bool->Hp->Prop),Inv Y Z9 σ H s->t σ H Q ->lA (Z6 Y.prog Y.w) Y.A (forIn ifs lv λc r=>if r=lv then do let ok <-isTrue c Y.env (Z0 c Y.env);pure (bx ok)else pure (bx r)) (TP Y Z9 σ Q) Y.xe s
instance{Y:Cx}{ifs:List Z4}{t:TT}:CoeFun (PTs Y ifs t) (λ_=>∀(Z9:Pns)(s:lx)(σ:St)(H:Hp)(Q:Bool->Hp->Prop),Inv Y Z9 σ H s->t σ H Q ->lA (Z6 Y.prog Y.w) Y.A (forIn ifs lv λc r=>if r=lv then do let ok <-isTrue c Y.env (Z0 c Y.env);pure (bx ok)else pure (bx r)) (TP Y Z9 σ Q) Y.xe s):=⟨λh=>h.run⟩
variable{Y:Cx}
theorem qfF:PTs Y [] (λ_ H Q=>Q lv H):=⟨λ_ _ _ H _ I h=>wpAny_tests_nil ⟨H,I,h⟩⟩
theorem gc{t:TT}(h:PT Y c t):PTs Y [c] t:=⟨λZ9 s σ H Q I q=>wpAny_tests_one (h Z9 s σ H Q I q)⟩
variable{ifs:List Z4}{te:TE}{E:lu->lx->Prop}
section
variable{it:Z7}{tn:Nat->Z5->Prop}{J:It}{elt:Z4}{g:TG}{tt:TT}
set_option tactic.hygienic true in
theorem qc4(I:Inv X Z9 σ H s)(P:X.calm=lv)(S:ScOk X scope)(T:Turn X.prog X.w X.K tg J fp it tn)(st0:tn 0 s.heap)(hf:∀b∈fp,WP X Z9 H b)(hg:∀fp L s' H',PG (jt X scope N fp L s' H') tg g)(ht:∀fp L s' H',PTs (jt X scope N fp L s' H') ifs tt)(he:∀fp L s' H',PE (jt X scope N fp L s' H') elt te)(hl:σc.length=N.length)(hσ:∀(j:Nat)(x:Str)(v:V),N[j]?=lm x->σc[j]?=lm (lm v)->(∃k,(x,k)∈scope.names)->∃i:Nat,X.N[i]?=lm x/\σ[i]?=lm (lm v)/\Vis X.env.scope x/\(x,bL)∈scope.names)(W:Z7->Nat->Nat->St->Hp->Prop)(Fin:Z7->Hp->Prop)(w0:∀p,H p=lr->∃m,W p 0 m σc (upd H p (.lst [])))(F:∀p i m σ1 H1,W p i m σ1 H1->(J.stop i H1/\Fin p H1)\/(J.go i H1/\∀x H2,J.yld i H1 x H2->g x σ1 H2 λC H3=>tt C H3 λb H4=>if b=lv then te C H4 λy H5=>∃xs,H5 p=lm (.lst xs)/\xs.length<Z8/\∃f,f<m/\W p (i+1) f C (upd H5 p (.lst (xs++[y])))else ∃f,f<m/\W p (i+1) f C H4))(RR:lu->Z7->oN->lx->Prop)(hRR:∀p L H' s',Fin p H'->(∃m,s'.heap.Ns L m)->WP X Z9 H' L->(∀h',bh L s'.heap h'->Inv X Z9 σ H' { s' with heap:=h' })->RR (.ref p) L (.ok .next) s') :
  lA 'c' X.A (newList []) (λacc s₃=>lA 'c' X.A (newFunctionEnv scope X.env.globals (KY X.env.cells scope.names []) [] X.env.qual lr .none (lm X.env)) (λG s₄=>
   my 'c' X.A (.compStart 'o' 0 (.ref it) acc { G with scope:=relabel scope X.env }) (RR acc G.locals) s₄) E s₃) E s:=by
 have hfo:∀b∈fp,b<s.heap.objs.size:=λb hb=>let ⟨o,e,_⟩:=T.obj 0 _ st0 b hb;ax e;have D:=I.fresh;have I3:Inv X Z9 σ (upd H s.heap.objs.size (.lst [])) { s with heap:=s.heap.push { cls:=.type "list",data:=.seq ([]:List lu).toArray } }:=I.lnew (t':=s.toks) (ys:=[]) (its:=[]) .nil (be _);have O:∀b∈fp,WP X Z9 (upd H s.heap.objs.size (.lst [])) b:=λb hb=>⟨by rw[qw (aD (hfo b hb))];exact(hf b hb).1,(hf b hb).2⟩
 have st3:tn 0 (s.heap.push { cls:=.type "list",data:=.seq ([]:List lu).toArray }):=T.keep 0 _ _ st0 λb hb o e=>ac _ e;refine lF (wpAny_newFunctionEnv S.nocell (λy hy=>by simp at hy) (λh₁ a h=>?_) S.kind);dsimp only at a h ⊢;generalize hs3:({ s with heap:=s.heap.push { cls:=.type "list",data:=.seq ([]:List lu).toArray } }:lx)=s3 at I3;have e3:s3.heap=s.heap.push { cls:=.type "list",data:=.seq ([]:List lu).toArray }:=by rw[<-hs3]
 rw[<-e3]at a h st3 ⊢;have keep:∀b o,s3.heap.get? b=lm o->h₁.get? b=lm o:=λb o e=>(h.2 b (aD (ax e))).trans (ac _ e);have ho3:∀b∈fp,b<s3.heap.objs.size:=λb hb=>by rw[e3,bP];exact cO (hfo b hb)
 have J1:Inv (jt X scope N fp s3.heap.objs.size s3 (upd H s.heap.objs.size (.lst []))) [] σc (upd H s.heap.objs.size (.lst [])) { s3 with heap:=h₁,toks:=s.toks+0 }:=
  qc2 I3 S O ho3 (by simpa using a) keep hl hσ
 have st4:tn 0 h₁:=T.keep 0 _ _ st3 λb hb o e=>keep b o e;have loop:∀s4:lx,s4={ s3 with heap:=h₁,toks:=s.toks+0 }->my 'c' X.A (.compLoop 'o' 0 (.ref it) 'k' (compEnvC scope (KY X.env.cells scope.names []) s3.heap.objs.size X.env)) (RR 'k' s3.heap.objs.size) s4:=by
  rintro s4 rfl;generalize c:jt X scope N fp s3.heap.objs.size s3 (upd H s.heap.objs.size (.lst []))=Y at J1;have eP:Y.prog=X.prog:=by rw[<-c];rfl
  have ew:Y.w=X.w:=by rw[<-c];rfl
  have eA:Y.A=X.A:=by rw[<-c];rfl
  have ee:Y.env=compEnvC scope (KY X.env.cells scope.names []) s3.heap.objs.size X.env:=by rw[<-c];rfl
  have eK:Y.K=X.K:=by rw[<-c];rfl
  have ec:Y.calm=true:=by rw[<-c];exact P
  have ex:Y.xe=λ_ _=>False:=by rw[<-c];rfl
  have hgY:PG Y tg g:=by rw[<-c];exact hg fp _ _ _
  have htY:PTs Y ifs tt:=by rw[<-c];exact ht fp _ _ _
  have heY:PE Y elt te:=by rw[<-c];exact he fp _ _ _
  have t:∀{H1:Hp},(∀b∈fp,H1 b=lr)->∀b∈fp,WP Y [] H1 b:=λhn b hb=>by have q:=J1.ok.exf b (by rw[<-c];exact hb);refine⟨hn b hb,q.1,J1.ok.exfs b (by rw[<-c];exact hb),.inl (by rw[<-c];exact hb),q.2,λp hp=>?_⟩;rw[<-c]at hp;exact absurd (show p∈([]:Pns)from hp) 'f'
  obtain⟨m0,hm0⟩:=w0 s.heap.objs.size D;refine JQ (λn s'=>∃i σ1 H1,Inv Y [] σ1 H1 s'/\tn i s'.heap/\(∀b∈fp,H1 b=lr)/\W s.heap.objs.size i n σ1 H1) ?_ m0 ⟨0,σc,_,J1,st4,λb hb=>(O b hb).1,hm0⟩;rintro n s5 ⟨i,σ1,H1,J5,st5,fr5,w5⟩;rw[<-eP,<-ew,<-eA,<-ee];have TY:Turn Y.prog Y.w Y.K tg J fp it tn:=by rw[eP,ew,eK];exact T
  rcases F _ i n σ1 H1 w5 with⟨stop,fin⟩|⟨go,step⟩
  .refine thn (TY.done Y rfl rfl rfl ec i [] s5 σ1 H1 _ J5 (t fr5) st5 stop) λr s6 z=>?_;obtain⟨hr,J6⟩:=z;subst hr;have Q:Inv (jt X scope N fp s3.heap.objs.size s3 (upd H s.heap.objs.size (.lst []))) [] σ1 H1 s6:=by rw[c];exact J6
   exact hRR _ _ H1 s6 fin (let ⟨m,hn,_⟩:=Q.loc; ⟨m,hn⟩) (I3.fpOk (ao _) Q.free) λh' sb=>qc3 (s1:=s6) (H1:=H1) (L:=0) I3 O Q sb
  .refine thn (TY.item Y rfl rfl rfl ec i [] s5 σ1 H1 _ J5 (t fr5) st5 go) λr s6 z=>?_;obtain⟨u,hr,h6⟩:=z;subst hr;refine thn h6 λ_ s7 z=>?_;obtain⟨x,H7,J7,r7,y7,M,fr7⟩:=z;have J7':=J7.pinned (t fr7) (TY.obj _ _ M);have back:∀{l:St}{Z:Hp}{R:lx},Inv Y ([]++Vd fp s7.heap) l Z R->(∃f,f<n/\W s.heap.objs.size (i+1) f l Z)->∃m,m<n/\∃i σ1 H1,Inv Y [] σ1 H1 R/\tn i R.heap/\(∀b∈fp,H1 b=lr)/\W s.heap.objs.size i m σ1 H1:=λ{l Z R} U ⟨f,hm,w9⟩=>by refine⟨f,hm,i+1,l,Z,U.unpinned,TY.keep _ _ _ M λb hb o e=>(U.pin (b,o) (aH _ (aH _ (uu hb e)))).1,λb hb=>?_,w9⟩;obtain⟨o,e,d⟩:=TY.obj _ _ M b hb;exact(U.pin (b,o) (aH _ (aH _ (uu hb e)))).2.1
   rw[<-ex];refine thn (hgY _ s7 σ1 H7 x u _ J7' r7 (step x H7 y7)) λ_ s8 z=>?_;obtain⟨B,H8,J8,q8⟩:=z;refine thn (htY _ s8 B H8 _ J8 q8) λok R z=>?_;obtain⟨Z,U,q9⟩:=z;cases ok with
   |false=>exact back U q9
   |true=>refine thn (heY _ R B Z _ U q9) λv s10 z=>?_;obtain⟨y,H10,J10,r10,xs,hx,hlen,q10⟩:=z;exact thn (Vj _ s10 B H10 'k' [y] 'k' [v] (λ_ H11=>∃f,f<n/\W s.heap.objs.size (i+1) f B H11) J10 rfl (.cons r10 .nil) ⟨_,xs,y,rfl,rfl,hx,hlen,q10⟩) λ_ s11 ⟨_,H11,J11,_,q11⟩=>back J11 q11
 have e4:({ heap:=h₁,gens:=s.gens,drawn:=s.drawn,toks:=s.toks+([]:List (Str×lu)).length,os:=s.os }:lx)={ s3 with heap:=h₁,toks:=s.toks+0 }:=by rw[<-hs3];rfl
 exact codeAny_compStart_list (loop _ e4) (T.self _ 0 _ _ _ st4 (loop _ e4))
end
noncomputable def kQ(nt:Nat)(cap:List Nat)(ρ:List (Option α)):List (Option α):=bQ nt lr++cap.map λk=>(ρ[k]?).getD lr
noncomputable def wQ(own:List Nat):Nat->List Nat->List Nat
 |_,[]=>[]
 |n,k::cap=>if k∈own then n::wQ own (n+1) cap else wQ own (n+1) cap
noncomputable def ioC(nt len:Nat):List Nat:=(aB len).map (nt + ·)
noncomputable def jP(own:List Nat)(ρc:Sl):Nat->List Nat->Sl->Sl
 |_,[],ρ=>ρ
 |n,k::cap,ρ=>if k∈own then jP own ρc (n+1) cap (ρ.set k ((ρc[n]?).getD lr))else jP own ρc (n+1) cap ρ
variable{nt:Nat}{cap:List Nat}
theorem vd{ρ:List (Option α)}{d:α}:(kQ nt cap ρ)[i]?=lm (lm d)↔∃j k,i=nt+j/\cap[j]?=lm k/\ρ[k]?=lm (lm d):=by
 unfold kQ;constructor
 .intro h;by_cases hi:i<nt;·rw[db (by simpa using hi),bN]at h;split at h <;> cases h
  .rw[cr (by simpa using hi),d5,aJ]at h;cases q:cap[i - nt]? with
   |none=>rw[q]at h;cases h
   |some k=>
    rw[q]at h;have h:(ρ[k]?).getD lr=lm d:=aU.inj h;refine⟨i - nt,k,by lia,q,?_⟩;cases e:ρ[k]? with
    |none=>rw[e]at h;cases h
    |some o=>rw[e]at h;exact congrArg lm h
 .rintro⟨j,k,rfl,h1,h2⟩;rw[cr 'f',d5,aJ,show nt+j - nt=j by lia,h1];simp[h2]
theorem jV{own:List Nat}:∀{n:Nat}{cap:List Nat}{i:Nat},i∈wQ own n cap↔∃j k,i=n+j/\cap[j]?=lm k/\k∈own
 |n,[],i=>by simp[wQ]
 | n,k::cap,i=>by
  have a:=@jV own (n+1) cap i;unfold wQ;by_cases h:k∈own
  .rw[Aa h,af,a];constructor
   .rintro(rfl|⟨j,k',e,h1,h2⟩);·exact⟨0,k,rfl,rfl,h⟩
    .exact⟨j+1,k',by lia,by simpa using h1,h2⟩
   .rintro⟨j,k',e,h1,h2⟩;cases j with
    |zero=>exact .inl 'b'
    |succ j=>exact .inr ⟨j,k',by lia,by simpa using h1,h2⟩
  .rw[Ab h,a];constructor;·rintro⟨j,k',e,h1,h2⟩;exact⟨j+1,k',by lia,by simpa using h1,h2⟩
   .rintro⟨j,k',e,h1,h2⟩;cases j with
    |zero=>simp at h1;subst h1;exact absurd h2 h
    |succ j=>exact⟨j,k',by lia,by simpa using h1,h2⟩
theorem JR{len:Nat}:i∈ioC nt len↔∃j,j<len/\i=nt+j:=by
 unfold ioC;rw[aw];constructor;·rintro⟨j,h1,h2⟩;exact⟨j,aN.mp h1,h2.symm⟩
 .rintro⟨j,h1,h2⟩;exact⟨j,aN.mpr h1,h2.symm⟩
variable{ρc:Sl}
theorem xx:∀{n:Nat}{cap:List Nat}{ρ:Sl},(jP own ρc n cap ρ).length=ρ.length
 |_,[],_=>rfl
 |n,k::cap,ρ=>by
  unfold jP;by_cases h:k∈own;·rw[Aa h,xx,ii]
  .rw[Ab h,xx]
theorem kZ:∀{n:Nat}{cap:List Nat}{ρ:Sl}{i:Nat},¬(i∈cap/\i∈own)->(jP own ρc n cap ρ)[i]?=ρ[i]?
 |_,[],_,_,_=>rfl
 |n,k::cap,ρ,i,h=>by
  unfold jP;have h':¬(i∈cap/\i∈own):=λz=>h ⟨ae _ z.1,z.2⟩;by_cases a:k∈own;·rw[Aa a,kZ h',aA (λe=>h ⟨af.mpr (.inl e.symm),by rw[<-e];exact a⟩)]
  .rw[Ab a,kZ h']
theorem yE:∀{n:Nat}{cap:List Nat}{ρ:Sl}{j k:Nat}{d:D},cap.Nodup->cap[j]?=lm k->k∈own->k < ρ.length->ρc[n+j]?=lm (lm d)->(jP own ρc n cap ρ)[k]?=lm (lm d)
 |_,[],_,_,_,_,_,h,_,_,_=>by simp at h
 |n,k0::cap,ρ,0,k,d,nd,h,hk,hl,e=>by simp at h;subst h;obtain⟨n1,n2⟩:=aZ.mp nd;unfold jP;rw[Aa hk,kZ (λz=>n1 z.1),aL hl];have e:ρc[n]?=lm (lm d):=e;rw[e];rfl
 |n,k0::cap,ρ,j+1,k,d,nd,h,hk,hl,e=>by
  obtain⟨n1,n2⟩:=aZ.mp nd;have h:cap[j]?=lm k:=by simpa using h
  have e:ρc[n+1+j]?=lm (lm d):=by rw[show n+1+j=n+(j+1) by lia];exact e
  unfold jP;by_cases a:k0∈own;·rw[Aa a];exact yE n2 h hk (by rw[ii];exact hl) e
  .rw[Ab a];exact yE n2 h hk hl e
section
theorem Ui{ρ:List (Option α)}:(kQ nt cap ρ).length=nt+cap.length:=by simp[kQ]
theorem qai{l:List Nat}(h:l.Nodup){j k:Nat}(a:l[i]?=lm k)(b:l[j]?=lm k):i=j:=by obtain⟨h1,e1⟩:=aE.mp a;obtain⟨h2,e⟩:=aE.mp b;exact(iT h).mp (e1.trans e.symm)
theorem qfG(r:Rep K own F H σ ρ)(nd:cap.Nodup):Rep K (wQ own nt cap) F H (kQ nt cap σ) (kQ nt cap ρ) where
 sub:=r.sub
 len:=by rw[Ui,Ui]
 val:=λi d hi e=>by obtain⟨j,k,rfl,h1,h2⟩:=vd.mp e;obtain⟨v,g1,W⟩:=r.val k d (λz=>hi (jV.mpr ⟨j,k,rfl,h1,z⟩)) h2;exact⟨v,vd.mpr ⟨j,k,rfl,h1,g1⟩,W⟩
 ow:=λi d hi e=>by
  obtain⟨j,k,rfl,h1,h2⟩:=vd.mp e;obtain⟨j',k',l,c,h⟩:=jV.mp hi;have:j=j':=by lia
  subst this;rw[h1]at c;cases c;obtain⟨a,g1,W⟩:=r.ow k d h h2;exact⟨a,vd.mpr ⟨j,k,rfl,h1,g1⟩,W⟩
 opn:=λi hi=>by obtain⟨j,k,rfl,h1,h2⟩:=jV.mp hi;obtain⟨d,e⟩:=r.opn k h2;exact⟨d,vd.mpr ⟨j,k,rfl,h1,e⟩⟩
 dis:=λi t a hi f e l=>by
  obtain⟨j,k,rfl,h1,h2⟩:=jV.mp hi;obtain⟨j',k',rfl,c,h⟩:=jV.mp f;obtain⟨x,y,s,g,n⟩:=vd.mp e;obtain⟨m,p,o,q,b⟩:=vd.mp l;have:x=j:=by lia
  subst this;have:m=j':=by lia
  subst this;rw[h1]at g;cases g;rw[c]at q;cases q;have e:=r.dis k k' a h2 h n b;subst e;rw[qai nd h1 c]
theorem qaj(o:∀i∈ioC nt cap.length,σ1[i]?=(kQ nt cap σ)[i]?)(h:OA (wQ own nt cap) σ1 b):OA own σ b:=by
 obtain⟨i,hi,e⟩:=h;obtain⟨j,k,rfl,h1,h2⟩:=jV.mp hi;rw[o _ (JR.mpr ⟨j,(aE.mp h1).1,rfl⟩)]at e;obtain⟨x,y,c,q,a⟩:=vd.mp e;have:x=j:=by lia
 subst this;rw[h1]at q;cases q;exact⟨k,h2,a⟩
theorem qak(p:Rep K own F H σ ρ)(nd:cap.Nodup)(r:Rep K (wQ own nt cap) F' H' σ1 ρ1)(g:∀i∈ioC nt cap.length,σ1[i]?=(kQ nt cap σ)[i]?)(c:Chg (OA (wQ own nt cap) σ1) F H F' H'):Rep K own F' H' σ (jP own ρ1 nt cap ρ) where
 sub:=r.sub
 len:=by rw[xx];exact p.len
 val:=λi d hi e=>by rw[kZ (λz=>hi z.2)]at e;obtain⟨v,h1,h2⟩:=p.val i d hi e;exact⟨v,h1,h2.mono c.grow⟩
 ow:=λi d hi e=>by
  by_cases q:i∈cap
  .obtain⟨j,D⟩:=bI q;have m:nt+j∈wQ own nt cap:=jV.mpr ⟨j,i,rfl,D,hi⟩;obtain⟨d',h⟩:=r.opn _ m;obtain⟨A,b⟩:=p.opn i hi;rw[yE nd D hi (aE.mp b).1 h]at e;cases e;obtain⟨a,h1,h2⟩:=r.ow _ _ m h;rw[g _ (JR.mpr ⟨j,(aE.mp D).1,rfl⟩)]at h1;obtain⟨x,y,w,f,l⟩:=vd.mp h1;have:x=j:=by lia
   subst this;rw[D]at f;cases f;exact⟨a,l,h2⟩
  .rw[kZ (λz=>q z.1)]at e;obtain⟨a,h1,h2,s⟩:=p.ow i d hi e;have na:¬OA (wQ own nt cap) σ1 a:=λz=>by
    obtain⟨B,n,t⟩:=z;obtain⟨j,k,rfl,g1,W⟩:=jV.mp n;rw[g _ (JR.mpr ⟨j,(aE.mp g1).1,rfl⟩)]at t;obtain⟨x,y,w,f,l⟩:=vd.mp t;have:x=j:=by lia
    subst this;rw[g1]at f;cases f;have e:=p.dis i k a hi W h1 l;subst e;exact q (bA g1)
   refine⟨a,h1,?_,s.grow c.grow λo z=>c.keep a o z na⟩;cases M:F' a with
   |none=>rfl
   |some u=>
    rcases c.new a (by rw[M];simp)with z|z|z;·exact absurd h2 z
    .exact absurd z s.there
    .exact absurd z na
 opn:=λi hi=>by
  by_cases q:i∈cap;·obtain⟨j,D⟩:=bI q;have m:nt+j∈wQ own nt cap:=jV.mpr ⟨j,i,rfl,D,hi⟩;obtain⟨d',h⟩:=r.opn _ m;obtain⟨A,b⟩:=p.opn i hi;exact⟨d',yE nd D hi (aE.mp b).1 h⟩
  .rw[kZ (λz=>q z.1)];exact p.opn i hi
 dis:=p.dis
end
def JS(g:D->Sl->Out Sl)(ft:yu)(fe:qW)(d:D)(ρ:Sl):Out (Option D×Sl):=
 (g d ρ).plain.bind λρ1=>(ft ρ1).plain.bind λq=>if q.1=lv then(fe q.2).plain.bind λr=>.ok (lm r.1,r.2)else .ok (lr,q.2)
def jY(g:D->Sl->Out Sl)(ft:yu)(fe:qW):List D->vV
 |[],ρ=>.ok ([],ρ)
 |d::ds,ρ=>(JS g ft fe d ρ).bind λp=>(jY g ft fe ds p.2).bind λq=>.ok (p.1.toList++q.1,q.2)
def qP(own:List Nat)(nt:Nat)(cap:List Nat)(fi:vV)(g:D->Sl->Out Sl)(ft:yu)(fe:qW):qW:=λρ=>(fi ρ).bind λp=>
 if p.1.length<=Z8 then(jY g ft fe p.1 (kQ nt cap p.2)).bind λq=>.ok (.lst q.1,jP own q.2 nt cap p.2)else .bad
def ctC(C:Ct)(nt len:Nat):Ct:=⟨C.K,C.cv,λ_ _ _=>False,ioC nt len,.sh,[],[],λ_ h=>absurd h 'f'⟩
noncomputable def ftT:yu:=λρ=>.ok (lv,ρ)
theorem YB:PTs Y [] (tT C own ftT):=⟨λZ9 s σ H Q I ⟨F,ρ,a,h⟩=>qfF Z9 s σ H Q I (h F H a .refl)⟩
structure CW(C:Ct)(own:List Nat)(nt:Nat)(cap:List Nat)(σ:St)(F H F0:Hp)(g:D->Sl->Out Sl)(ft:yu)(fe:qW)(ds ys:List D)(ρe:Sl)(p:Z7)(i:Nat)(σ1:St)(H1:Hp)(F1:Hp)(ρi:Sl)(accD:List D)(xs:List V)(rest:List D):Prop where
 rep:Rep C.K (wQ own nt cap) F1 H1 σ1 ρi
 io:∀i∈ioC nt cap.length,σ1[i]?=(kQ nt cap σ)[i]?
 chg:Chg (OA (wQ own nt cap) σ1) F H F1 H1
 gr:Same F0 F1
 at_:H1 p=lm (.lst xs)
 nF:F1 p=lr
 is:IsL C.K F1 xs accD
 le:accD.length<=i
 run:jY g ft fe (ds.drop i) ρi=.ok (rest,ρe)
 all:accD++rest=ys
variable{ρe:Sl}
theorem Zp{g:D->Sl->Out Sl}{ft:yu}{fe:qW}{rest:List D}(h:jY g ft fe (d::ds) ρ=.ok (rest,ρe)):∃ρ1,g d ρ=.ok ρ1/\∃b ρ2,ft ρ1=.ok (b,ρ2)/\((b=lv/\∃y k r,fe ρ2=.ok (y,k)/\jY g ft fe ds k=.ok (r,ρe)/\rest=y::r)\/(b=lw/\jY g ft fe ds ρ2=.ok (rest,ρe))):=by
 unfold jY JS at h;cases f:g d ρ with
 |exc c=>rw[f]at h;cases h
 |bad=>rw[f]at h;cases h
 | ok ρ1=>
  rw[f]at h;refine⟨ρ1,rfl,?_⟩;simp only[Out.plain,Out.oX]at h;cases e:ft ρ1 with
  |exc c=>rw[e]at h;cases h
  |bad=>rw[e]at h;cases h
  | ok p=>
   obtain⟨b,ρ2⟩:=p;rw[e]at h;refine⟨b,ρ2,rfl,?_⟩;simp only[Out.plain,Out.oX]at h;cases b with
   | true=>
    refine .inl ⟨rfl,?_⟩;simp only[if_true]at h;cases a:fe ρ2 with
    |exc c=>rw[a]at h;cases h
    |bad=>rw[a]at h;cases h
    |ok p=>
     obtain⟨y,k⟩:=p;rw[a]at h;simp only[Out.plain,Out.oX]at h;cases q:jY g ft fe ds k with
     |exc c=>rw[q]at h;cases h
     |bad=>rw[q]at h;cases h
     |ok p=>obtain⟨r,B⟩:=p;rw[q]at h;simp only[Out.oX]at h;cases h;exact⟨y,k,r,rfl,q,rfl⟩
   |false=>
    refine .inr ⟨rfl,?_⟩;simp only[bq,if_false,Out.oX]at h;cases q:jY g ft fe ds ρ2 with
    |exc c=>rw[q]at h;cases h
    |bad=>rw[q]at h;cases h
    |ok p=>obtain⟨r,B⟩:=p;rw[q]at h;simp only[Out.oX]at h;cases h;rfl
section
variable{elt:Z4}{fi:vV}{g:D->Sl->Out Sl}{ft:yu}{fe:qW}{me:Mo}
structure CapOk(X:Cx)(scope:mQ)(N:List Str)(nt:Nat)(cap:List Nat):Prop where
 nd:cap.Nodup
 len:N.length=nt+cap.length
 at_:∀(j k:Nat),cap[j]?=lm k->∃x,N[nt+j]?=lm x/\X.N[k]?=lm x/\((Vis X.env.scope x/\(x,bL)∈scope.names)\/∀k',(x,k')∉scope.names)
set_option tactic.hygienic true in
theorem Vs{F:Hp}{ρ1:Sl}{it:Z7}{fp:List Z7}{tn:Nat->Z5->Prop}{J:It}{E:lu->lx->Prop}{ds ys:List D}{ρe:Sl}(I:Inv X Z9 σ H s)(U:X.calm=lv)(S:ScOk X scope)(CO:CapOk X scope N nt cap)(T:Turn X.prog X.w X.K tg J fp it tn)(st0:tn 0 s.heap)(hf:∀b∈fp,WP X Z9 H b)(rp:Rep C.K own F H σ ρ1)(O:ItIs C.K F J ds)(hz:ds.length<=Z8)(hg:∀fp L s' H',PG (jt X scope N fp L s' H') tg (tGd (ctC C nt cap.length) (wQ own nt cap) g))(ht:∀fp L s' H',PTs (jt X scope N fp L s' H') ifs (tT (ctC C nt cap.length) (wQ own nt cap) ft))(he:∀fp L s' H',PE (jt X scope N fp L s' H') elt (tE (ctC C nt cap.length) (wQ own nt cap) me fe))(hme:me≠.any)(hrun:jY g ft fe ds (kQ nt cap ρ1)=.ok (ys,ρe))(RR:lu->Z7->oN->lx->Prop)(hRR:∀p L s' F' H',H p=lr->Rep C.K own F' H' σ (jP own ρe nt cap ρ1)->Chg (OA own σ) F H F' H'->F' p=lr->OwnIs C.K F' H' p (.lst ys)->(∃m,s'.heap.Ns L m)->WP X Z9 H' L->(∀h',bh L s'.heap h'->Inv X Z9 σ H' { s' with heap:=h' })->RR (.ref p) L (.ok .next) s') :
  lA 'c' X.A (newList []) (λacc s₃=>lA 'c' X.A (newFunctionEnv scope X.env.globals (KY X.env.cells scope.names []) [] X.env.qual lr .none (lm X.env)) (λG s₄=>
   my 'c' X.A (.compStart 'o' 0 (.ref it) acc { G with scope:=relabel scope X.env }) (RR acc G.locals) s₄) E s₃) E s:=by
 have oaH:∀{σ1:St}{b:Z7},(∀i∈ioC nt cap.length,σ1[i]?=(kQ nt cap σ)[i]?)->OA (wQ own nt cap) σ1 b->H b≠none:=λR z=>(rp.OA_there (qaj R z)).1;refine qc4 (σc:=kQ nt cap σ) I U S T st0 hf hg ht (λfp L s' H'=>yx (he fp L s' H') hme) (by rw[Ui,CO.len]) (λj x v e1 e2 e3=>?_)
  (λp i m σ1 H1=>H p=lr/\m=ds.length - i/\i<=ds.length/\∃F1 ρi accD xs rest,CW C own nt cap σ F H F g ft fe ds ys ρe p i σ1 H1 F1 ρi accD xs rest)
  (λp H1=>H p=lr/\∃σ1 F1 xs,Rep C.K (wQ own nt cap) F1 H1 σ1 ρe/\(∀i∈ioC nt cap.length,σ1[i]?=(kQ nt cap σ)[i]?)/\Chg (OA (wQ own nt cap) σ1) F H F1 H1/\H1 p=lm (.lst xs)/\F1 p=lr/\IsL C.K F1 xs ys) (λp hp=>?_) ?_ RR ?_
 .obtain⟨j',k,rfl,h1,h2⟩:=vd.mp e2;obtain⟨y,g1,g2,g3⟩:=CO.at_ j' k h1;rw[g1]at e1;cases e1;obtain⟨k',hk'⟩:=e3;rcases g3 with⟨g3,g4⟩|g3;·exact⟨k,g2,h2,g3,g4⟩
  .exact absurd hk' (g3 k')
 .obtain⟨r1,c1,hF⟩:=qac (C:=C) (u:=.lst []) (qfG (nt:=nt) rp CO.nd) hp;exact⟨ds.length,hp,by simp,be _,F,kQ nt cap ρ1,[],[],ys,r1,λ_ _=>rfl,c1.ofNo,Same.refl _,qm,hF,.nil,ao _,by simpa using hrun,rfl⟩
 .rintro p i m σ1 H1 ⟨hp,rfl,hle,F1,ρi,accD,xs,rest,w⟩;by_cases t:i<ds.length
  .have hd:ds.drop i=ds[i]::ds.drop (i+1):=df t;have run:=w.run;rw[hd]at run;obtain⟨Z,ea,b,Y,eb,hrest⟩:=Zp run;have sub1:Same F H1:=w.gr.trans w.rep.sub;refine .inr ⟨O.go i H1 t sub1,λx H2 y=>?_⟩;obtain⟨F2,c2,s2,is2⟩:=O.yld i F1 H1 x H2 ds[i] (by simp[t]) w.gr w.rep.sub y;have rp2:=w.rep.grow c2 s2;have M:∀{W:St},(∀i∈ioC nt cap.length,W[i]?=(kQ nt cap σ)[i]?)->¬OA (wQ own nt cap) W p:=λR z=>oaH R z hp;have P:∀{A:Z7->Prop}{Fa Ha Fb Hb:Hp}{zs:List V},Chg A Fa Ha Fb Hb->¬A p->Ha p=lm (.lst zs)->Fa p=lr->Hb p=lm (.lst zs)/\Fb p=none:=λ{A Fa Ha Fb Hb zs} c na e1 e2=>by
    refine⟨c.keep p _ e1 na,?_⟩;cases q:Fb p with
    |none=>rfl
    |some u=>
     rcases c.new p (by rw[q];simp)with z|z|z;·exact absurd e2 z
     .rw[e1]at z;cases z
     .exact absurd z na
   obtain⟨at2,nF2⟩:=P c2 (λz=>z) w.at_ w.nF;refine⟨F2,ρi,ds[i],rp2,is2,Z,ea,λl rp3 oa3 io3=>?_⟩;have f:∀i∈ioC nt cap.length,l[i]?=(kQ nt cap σ)[i]?:=λi hi=>(io3 i hi).trans (w.io i hi);refine⟨F2,Z,rp3,?_⟩;rw[eb];intro F4 H4 rp4 c4;obtain⟨at4,nF4⟩:=P c4 (M f) at2 nF2;have B:Chg (OA (wQ own nt cap) l) F H F4 H4:=by
    have q1:Chg (OA own σ) F H F1 H1:=w.chg.mono λb z=>qaj w.io z;have mv:∀{b},OA (wQ own nt cap) σ1 b->OA (wQ own nt cap) l b:=λ{b} z=>by obtain⟨i',hi',e'⟩:=z;obtain⟨j,k,rfl,g1,g2⟩:=jV.mp hi';have hm:nt+j∈ioC nt cap.length:=JR.mpr ⟨j,(aE.mp g1).1,rfl⟩;exact⟨nt+j,hi',by rw[f _ hm,<-w.io _ hm];exact e'⟩
    exact((w.chg.mono λb z=>mv z).trans' c2.ofNo).trans' c4
   have gr4:Same F F4:=(w.gr.trans c2.grow).trans c4.grow;have Q:IsL C.K F4 xs accD:=(w.is.mono c2.grow).mono c4.grow;rcases hrest with⟨rfl,y',ρc,r,ec,er,hr⟩|⟨rfl,er⟩
   .rw[Aa rfl];refine⟨F4,Y,rp4,?_⟩;rw[ec];intro v F5 H5 h c5 mo5;obtain⟨at5,nF5⟩:=P c5 (M f) at4 nF4;have hlen:xs.length=accD.length:=Q.length;refine⟨xs,at5,by have:=w.le;lia,ds.length - (i+1),by lia,hp,rfl,t,F5,ρc,accD++[y'],xs++[v],r,?_⟩;have cp:Chg (λb=>b=p) F5 H5 F5 (upd H5 p (.lst (xs++[v]))):=⟨λb o e n=>by rw[qw n];exact e,λb e=>by
     by_cases q:b=p;·rw[q,qm];simp
     .rw[qw q];exact e,Same.refl _,λb e=>.inl e⟩
    have sb5:Same F5 (upd H5 p (.lst (xs++[v]))):=λb o e=>by rw[qw (qE e nF5)];exact h.sub b o e
    have rp6:Rep C.K (wQ own nt cap) F5 (upd H5 p (.lst (xs++[v]))) l ρc:=by
     refine⟨sb5,h.len,h.val,λi d hi e=>?_,h.opn,h.dis⟩;obtain⟨a,h1,h2,h3⟩:=h.ow i d hi e;have na:a≠p:=λz=>by subst z;exact M f ⟨i,hi,h1⟩
     exact⟨a,h1,h2,h3.grow (Same.refl _) λo z=>by rw[qw na];exact z⟩
    refine⟨rp6,f,?_,(gr4.trans c5.grow),qm,nF5,(Q.mono c5.grow).append (.cons mo5 .nil),by simp only[am,ah,bv];have:=w.le;lia,er,?_⟩;·exact(B.trans' c5).trans cp λb z=>.inr (by rw[z];exact hp)
    .rw[cu,<-w.all,hr];rfl
   .rw[Ab bE];exact⟨ds.length - (i+1),by lia,hp,rfl,t,F4,Y,accD,xs,rest,rp4,f,B,gr4,at4,nF4,Q,by have:=w.le;lia,er,w.all⟩
  .have e:i=ds.length:=by lia
   subst e;have run:=w.run;rw[List.drop_length]at run;unfold jY at run;cases run;have ha:=w.all;rw[bw]at ha;subst ha;exact .inl ⟨O.stop _ H1 (ao _) (w.gr.trans w.rep.sub),hp,σ1,F1,xs,w.rep,w.io,w.chg,w.at_,w.nF,w.is⟩
 .rintro p L H' s' ⟨hp,σ1,F1,xs,r1,io1,c1,e1,n1,is1⟩ hns hfp hinv;exact hRR p L s' F1 H' hp (qak rp CO.nd r1 io1 c1) (c1.mono λb z=>qaj io1 z) n1 ⟨xs,e1,is1⟩ hns hfp hinv
theorem Uj:∀(ds:List D)(ρ:Sl)(c:Str)(o:Sl),jY g ft fe ds ρ≠.exc c o:=by
 intro ds
 induction ds with
 |nil=>intro ρ c o z;cases z
 | cons d ds j=>
  intro ρ c o z;unfold jY JS at z;cases b:g d ρ with
  |exc c=>rw[b]at z;cases z
  |bad=>rw[b]at z;cases z
  | ok ρ1=>
   rw[b]at z;simp only[Out.plain,Out.oX]at z;cases e:ft ρ1 with
   |exc c=>rw[e]at z;cases z
   |bad=>rw[e]at z;cases z
   | ok p=>
    rw[e]at z;simp only[Out.plain,Out.oX]at z;by_cases hb:p.1=lv
    .rw[Aa hb]at z;cases a:fe p.2 with
     |exc c=>rw[a]at z;cases z
     |bad=>rw[a]at z;cases z
     |ok r=>
      rw[a]at z;simp only[Out.plain,Out.oX]at z;cases q:jY g ft fe ds r.2 with
      |exc c=>exact j _ _ _ q
      |bad=>rw[q]at z;cases z
      |ok t=>rw[q]at z;cases z
    .rw[Ab hb]at z;simp only[Out.oX]at z;cases q:jY g ft fe ds p.2 with
     |exc c=>exact j _ _ _ q
     |bad=>rw[q]at z;cases z
     |ok t=>rw[q]at z;cases z
theorem Vt{α:Type}{Z:Vl->Prop}(r:Rep C.K own F H σ ρ)(hb:¬Z .bad)(hx:∀c ρ',Z (.exc c ρ')->∀F' H',Same F' H'->Yo C.K C.ox F' H' σ ρ'->Chg (OA own σ) F H F' H'->C.E (C.cv c) lr H')(h:Z (qP own nt cap fi g ft fe ρ)):tIt C own fi σ H λJ H1=>∃ds ρ1 ys ρe F1,ds.length<=Z8/\jY g ft fe ds (kQ nt cap ρ1)=.ok (ys,ρe)/\Rep C.K own F1 H1 σ ρ1/\Chg (OA own σ) F H F1 H1/\ItIs C.K F1 J ds/\Z (.ok (.lst ys,jP own ρe nt cap ρ1)):=by
 refine⟨F,ρ,r,?_⟩;unfold qP at h;cases q:fi ρ with
 |exc c=>rw[q]at h;exact hx c _ h
 |bad=>rw[q]at h;exact(hb h).elim
 | ok p=>
  obtain⟨ds,ρ1⟩:=p;rw[q]at h;have h:Z (if ds.length<=Z8 then(jY g ft fe ds (kQ nt cap ρ1)).bind λq=>.ok (.lst q.1,jP own q.2 nt cap ρ1)else .bad):=h;by_cases z:ds.length<=Z8
  .rw[Aa z]at h;cases e:jY g ft fe ds (kQ nt cap ρ1)with
   |exc c=>exact absurd e (Uj _ _ _ _)
   |bad=>rw[e]at h;exact(hb h).elim
   |ok p=>obtain⟨ys,ρe⟩:=p;rw[e]at h;exact λJ F1 H1 a c1 it=>⟨ds,ρ1,ys,ρe,F1,z,e,a,c1,it,h⟩
  .rw[Ab z]at h;exact(hb h).elim
theorem qfH(P:X.calm=lv)(S:ScOk X scope)(K:CapOk X scope N nt cap)(hi:PI X tg iter (tIt C own fi))(hg:∀fp L s' H',PG (jt X scope N fp L s' H') tg (tGd (ctC C nt cap.length) (wQ own nt cap) g))(ht:∀fp L s' H',PTs (jt X scope N fp L s' H') ifs (tT (ctC C nt cap.length) (wQ own nt cap) ft))(he:∀fp L s' H',PE (jt X scope N fp L s' H') elt (tE (ctC C nt cap.length) (wQ own nt cap) me fe))(i:me≠.any:=by decide)(hs:∀x,mq iter X.env x=pure x:=by intro _;rfl) :
  PE X 'o' (tE C own .fr (qP own nt cap fi g ft fe)):=by
 refine⟨?_⟩;rintro Z9 s σ H Q I ⟨F,ρ,j,h⟩;rw[eval_ListComp];have n:=Vt (α:=Unit) (Z:=λr=>Po C own .fr σ F H r Q) j (λz=>z) (λc _ z=>z) h;refine wpAny_comprehension_free (use:=lr) rfl hs (QY (gb I S)) S.kind S.names (thn (hi Z9 s σ H _ I n) λR s1 h1=>thn h1 λk s2 h2=>?_);obtain⟨it,fp,tn,J,H2,e,G,T,b,f2,ds,ρ1,ys,ρe,F1,l,a,d,c1,O,po⟩:=h2;subst e;refine Vs (RR:=λacc M=>compPost 'c' X.A X.xe lr (EP X Z9 σ Q) acc M) G P S K T b f2 d O l hg ht he i a λp L s' F' H' hp f E nF o y D v=>?_;obtain⟨m,B⟩:=y;refine⟨m,B,λh' t=>⟨.ref p,H',v h' t,rfl,?_⟩⟩;refine po (.ref p) F' H' f (c1.trans' E) ⟨p,rfl,?_,nF,o⟩;cases q:H p with
 |none=>rfl
 |some u=>exact absurd hp (c1.stay p (by rw[q];simp))
set_option tactic.hygienic true in
theorem qc5{pos' spos:Pos}(hN:X.N.Nodup)(V:X.N[i]?=lm x)(hx:Loc X.env.scope x)(P:X.calm=lv)(S:ScOk X scope)(CO:CapOk X scope N nt cap)(hi:PI X tg iter (tIt C own fi))(hg:∀fp L s' H',PG (jt X scope N fp L s' H') tg (tGd (ctC C nt cap.length) (wQ own nt cap) g))(ht:∀fp L s' H',PTs (jt X scope N fp L s' H') ifs (tT (ctC C nt cap.length) (wQ own nt cap) ft))(he:∀fp L s' H',PE (jt X scope N fp L s' H') elt (tE (ctC C nt cap.length) (wQ own nt cap) me fe))(M:me≠.any:=by decide)(W:i∉C.io:=by exact yw rfl)(G:mm 'o' (lm (.Name x pos')) spos.line X.env=pure true:=by rfl)(hs:∀x,mq iter X.env x=pure x:=by intro _;rfl)(Y:X.fn x=lv\/X.env.scope.names.lookup x=lm .local:=by first|exact .inl rfl|exact .inr rfl) :
  PS X (.Assign [.Name x pos'] 'o' spos) (tSt C own (i::vK own [i]) (jz i (qP own nt cap fi g ft fe))):=by
 refine⟨?_⟩;rintro Z9 s σ H D I ⟨F,ρ,rp,h⟩;rw[exec_Assign_Name_used _ _ _ _ G];refine lq (mT (lq ?_));show lA _ X.A (do let _ <-comprehension 'o' scope X.env _ (newList []) lw (Z0 iter X.env) (lm (assign (.Name x pos') X.env))) _ _ s;have n:=Vt (α:=Unit) (Z:=λr=>PoS C own (i::vK own [i]) σ F H (r.bind λp=>if i<p.2.length then .ok (.nx,p.2.set i (lm p.1))else .bad) D) rp (λz=>z) (λc _ z=>z) h;refine lq (lR (wpAny_comprehension_free (use:=lm (assign (.Name x pos') X.env)) (Q:=λ_ s'=>SP X Z9 D .next s') rfl hs (QY (gb I S)) S.kind S.names (thn (hi Z9 s σ H _ I n) λxv s1 h1=>thn h1 λitv s2 h2=>?_)) (λ_ s' hq=>ly (ly hq)) λ_ _ e=>e);obtain⟨it,fp,tn,J,H2,e,I2,T,l,f2,ds,ρ1,ys,ρe,F1,hz,f,B,c1,O,po⟩:=h2;subst e;refine Vs (RR:=λacc C'=>compPost 'c' X.A X.xe (lm (assign (.Name x pos') X.env)) (λ_ s'=>SP X Z9 D .next s') acc C') I2 P S CO T l f2 B O hz hg ht he M f λp L s' F' H' hp d c' nF o K hfp k=>?_;obtain⟨m,hn⟩:=K;have I3:Inv X Z9 σ H' s':=by simpa using k s'.heap (.refl ..)
 have hH:H p=none:=by
  cases q:H p with
  |none=>rfl
  |some u=>exact absurd hp (c1.stay p (by rw[q];simp))
 show lA _ X.A (assign (.Name x pos') X.env (.ref p)) _ _ s';refine wpAny_assign_Name (Vc I3 hN V hx (v:=.ref p) rfl (λs4 I4 z9=>?_) Y);obtain⟨a,t,ha⟩:=z9;obtain⟨f0,f1,f2',f3,f4,f5⟩:=hfp;have nL:L≠a:=by
  rcases ha with z|z;·rw[z];exact f1
  .exact λq=>f4 x a z q.symm
 refine⟨m,hn.sameBut t nL,λh' sb=>?_⟩;have I5:Inv X Z9 (σ.set i (lm (.ref p))) H' { s4 with heap:=h' }:=by have:=I4.turned (h':=h') (t':=s4.toks) (it:=L) (λb o hb e=>(sb.2 b hb).trans e) f0 f1 f3 f4 f5;exact this
 refine⟨_,H',I5,?_⟩;have po:PoS C own (i::vK own [i]) σ F H (if i<(jP own ρe nt cap ρ1).length then .ok (.nx,(jP own ρe nt cap ρ1).set i (lm (.lst ys)))else .bad) D:=po;by_cases z:i<(jP own ρe nt cap ρ1).length
 .rw[Aa z]at po;refine po _ F' H' ⟨d.putO z nF (λy=>(rp.OA_there y).1 hH) o,c1.trans' c',λb y=>?_,λj U=>aA λy=>W (by rw[y];exact U)⟩;obtain⟨j,U,e⟩:=y;by_cases E:j=i;·subst E;rw[aL (by rw[d.len];exact z)]at e;cases e;exact .inr hH
  .have R:=(jg j).mp ((af.mp U).resolve_left E);rw[aA (bj E)]at e;exact .inl ⟨j,R.1,e⟩
 .rw[Ab z]at po;exact po.elim
end
def Tr(h:Z5)(e T:Z7)(cls fl c:lu):Prop:=∃oe vs o ts,h.get? e=lm oe/\oe.cls=cls/\oe.data=.fields vs/\vs[1]?=lm (.ref T)/\T≠e/\h.get? T=lm o/\o.data=.fields ts/\ts[3]?=lm fl/\vs[2]?=lm c
def Tn(h:Z5)(e:Z7)(cls c:lu):Prop:=∃oe vs,h.get? e=lm oe/\oe.cls=cls/\oe.data=.fields vs/\vs[1]?=lm .none/\vs[2]?=lm c
def Okc(mg:Str->Option lu)(cls c:lu):Prop:=c=.none\/mg "NoText"=lm cls
def Fly(mg:Str->Option lu)(h:Z5)(ex T:Z7)(cls:lu):Prop:=∃c,Tr h ex T cls .none c/\Okc mg cls c
variable{h:Z5}{cls fl:lu}
theorem Tr.at_{e T:Z7}{c:lu}(t:Tr h e T cls fl c):∃oe vs,h.get? e=lm oe/\oe.cls=cls/\oe.data=.fields vs:=let ⟨oe,vs,_,_,a,b,c,_⟩:=t; ⟨oe,vs,a,b,c⟩
variable{A:lG}{base:Z5}{outer:List Env}{oe:Obj}
section
variable{M:Model}{l:List Env}{e T L:Z7}{c:lu}{Q:Unit->lx->Prop}
theorem YC{v:lu}(n:base.get? T=lr)(m:base.StaysIn s.heap)(fr:s.heap.FunFrames base l)(r:Tr s.heap e T cls fl c)(k:∀h',base.StaysIn h'->h'.FunFrames base l->Tr h' e T cls v c->s.heap.UpToSlots h'->Q () { s with heap:=h' }):lA M A (n5 (.ref T) 3 v) Q E s:=by
 obtain⟨oe,vs,q,ts,g1,W,U,K,j,d,g,p,h⟩:=r;have a:=(aY.mp p).1;have t:∀{f:Obj->Obj} b,b≠T->(s.heap.update T f).get? b=s.heap.get? b:=λb hb=>bT _ _ (bj hb);have i:∀b o,s.heap.get? b=lm o->(∀ws,o.data≠.fields ws)->b≠T:=λb o hb n z=>by subst z;rw[d]at hb;cases hb;exact n _ g
 refine lO d g a (k _ (λb o hb=>(t b λz=>by rw[z,n]at hb;cases hb).trans (m b o hb)) (fr.of_keeps λb o hb n=>⟨o,(t b (i b o hb n)).trans hb,rfl⟩) ?_ λb o hb n=>⟨o.slots,(t b (i b o hb n)).trans hb⟩);exact⟨oe,vs,_,_,(t e (bj j)).trans g1,W,U,K,j,bo _ d (d7 (dR g _)),dR g _,by simp[a],h⟩
theorem QZ{fo:Option Z7}(n:base.get? T=lr)(m:base.StaysIn s.heap)(fr:s.heap.FunFrames base l)(t:Tr s.heap e T cls fl c)(k:∀h',base.StaysIn h'->h'.FunFrames base l->Tr h' e T cls (fo.elim bH λf=>lN f) c->s.heap.UpToSlots h'->Q () { s with heap:=h' }):lA M A (nD (.ref e) fo) Q E s:=by
 obtain⟨oe,vs,o,ts,g1,W,U,K,_⟩:=id t;unfold nD;refine lq (lU g1 U K ?_);rw[Aa (by simp:(aR T != bH)=lv)];exact YC n m fr t k
theorem qfI{h1:Z5}{tb:Obj}{vs ts:Array lu}{g:Array nN}{d:Drawn}{tk:Nat}{os:l0}(h:base.get? e=lr)(m:base.StaysIn h1)(g1:h1.get? e=lm oe)(W:oe.data=.fields vs)(U:vs[2]?=lm c)(t:tb.data=.fields ts)(i:ts[3]?=lm fl)(k:∀h',base.StaysIn h'->Tr h' e h1.objs.size oe.cls fl c->(∀b o,b≠e->h1.get? b=lm o->h'.get? b=lm o)->Q () ⟨h',g,d,tk,os⟩):lA M A (n5 (.ref e) 1 (.ref h1.objs.size)) Q E ⟨h1.push tb,g,d,tk,os⟩:=by
 have z:=(aY.mp U).1;have ne:h1.objs.size≠e:=eI (ax g1);have kp:∀{f:Obj->Obj} b o,b≠e->h1.get? b=lm o->((h1.push tb).update e f).get? b=lm o:=λb o hb q=>by rw[bT _ _ (bj hb)];exact ac _ q
 have a:=dR W (·.setIfInBounds 1 (aR h1.objs.size));refine lO (ac tb g1) W (iI z) (k _ (λb o hb=>kp b o (λq=>by rw[q,h]at hb;cases hb) (m b o hb)) ⟨_,_,tb,ts,bo _ (ac tb g1) (d7 a),Obj.cls_mapFields _ _,a,by simp[iI z],ne,?_,t,i,?_⟩ kp);·rw[bT _ _ (bj ne)];exact ap _ (d7 t)
 .rw[Array.getElem?_setIfInBounds_ne 'e'];exact U
theorem ent{vs:Array lu}{hd:lu}{nx:Bool}(hA:A.frames=lm (env::outer))(g:env.frame=lm L)(d:base.get? e=lr)(m:base.StaysIn s.heap)(fr:s.heap.FunFrames base (env::outer))(g1:s.heap.get? e=lm oe)(W:oe.data=.fields vs)(U:vs[2]?=lm c)(k:∀h' T,base.StaysIn h'->h'.FunFrames base (env::outer)->Tr h' e T oe.cls (lN L) c->base.get? T=lr->s.heap.UpToSlots h'->Q () { s with heap:=h' }) :
  lA M A (do let a <-frameOf env;let p <-entryPlaceOf L nx;let b <-EntryCells.newEntry hd a .none (lN L) .none p;n5 (.ref e) 1 b) Q E s:=by
 have ne:e∉(env::outer).filterMap (·.frame):=λh=>by obtain⟨_,o,f,n⟩:=fr.mem h;rw[g1]at f;cases f;exact n vs W
 refine lq (wpAny_frameOf_fun hA fr g λh1 so=>?_);refine lq (wpAny_entryPlaceOf λpl l=>?_);unfold EntryCells.newEntry newFields;refine lq (lF ?_ (l.sizeOk5 _ _ _ _ _));have kb1:base.StaysIn h1:=λb o hb=>(so.2.1 b λh=>by rw[(fr.mem h).1]at hb;cases hb).trans (m b o hb);refine qfI d kb1 ((so.2.1 e ne).trans g1) W U rfl (fl:=lN L) (by first|(simp;done)|(rcases l with rfl|⟨_,_,_,_,_,_,_,rfl⟩ <;> simp)) λh' i t k1=>?_;have r:∀b o,s.heap.get? b=lm o->(∀ws,o.data≠.fields ws)->∃sl,h'.get? b=lm { o with slots:=sl }:=λb o hb n=>by obtain⟨sl,q⟩:=so.2.2 b o hb;exact⟨sl,k1 b _ (λz=>by rw[z,g1]at hb;cases hb;exact n _ W) q⟩
 exact k h' _ i (fr.of_keeps λb o hb n=>let ⟨_,q⟩:=r b o hb n; ⟨_,q,rfl⟩) t kb1.fresh r
theorem YD(hA:A.frames=lm (env::outer))(f:env.frame=lm L)(h:base.get? e=lr)(m:base.StaysIn s.heap)(fr:s.heap.FunFrames base (env::outer))(tn:Tn s.heap e cls c)(k:∀h' T,base.StaysIn h'->h'.FunFrames base (env::outer)->Tr h' e T cls (lN L) c->base.get? T=lr->s.heap.UpToSlots h'->Q () { s with heap:=h' }):lA M A (nC (.ref e) env) Q E s:=by
 obtain⟨oe,vs,g1,rfl,U,K,g⟩:=tn;unfold nC;simp only[f];refine lq (lU g1 U K ?_);rw[Ab 'e'];exact ent hA f h m fr g1 U g k
theorem YE(hA:A.frames=lm (env::outer))(f:env.frame=lm L)(h:base.get? e=lr)(n:base.get? T=lr)(m:base.StaysIn s.heap)(fr:s.heap.FunFrames base (env::outer))(t:Tr s.heap e T cls fl c)(k:∀h' T,base.StaysIn h'->h'.FunFrames base (env::outer)->Tr h' e T cls (lN L) c->base.get? T=lr->s.heap.UpToSlots h'->Q () { s with heap:=h' }):lA M A (nC (.ref e) env) Q E s:=by
 obtain⟨oe,vs,D,ts,g1,W,U,K,G,r,o,p,v⟩:=id t;unfold nC;simp only[f];refine lq (lU g1 U K ?_);rw[Aa (by simp:(aR T != bH)=lv)];refine lq (lU r o p ?_);by_cases q:fl=lN L;·subst q;rw[Aa 'f'];exact ly (k s.heap T m fr t n (.refl _))
 .rw[Ab (by simpa using q)];refine lq (YC n m fr t λh1 x f1 d a=>?_);obtain⟨o1,C,B,z,l,j,i,_,_,_,_,_,g⟩:=d;exact ent hA f h x f1 l i g λh' y w f2 b n2 u=>k h' y w f2 (j ▸ b) n2 (a.trans u)
end
def CXk(P:lC)(w:lD)(mg:Str->Option lu):CXT:=λouter H s E e s'=>∃ex T C H',e=.ref ex/\s'.os=s.os/\nK s'.gens/\Un (frs outer) [] H H' s.heap s'.heap/\HOk P w H' s'.heap/\Fly mg s'.heap ex T (.ref C)/\H' ex=lr/\H' T=lr/\s.heap.get? ex=lr/\s.heap.get? T=lr/\E (.ref C) lr H'
def InB(X:Cx)(H:Hp)(s:lx)(ex:Z7)(cls:lu):Prop:=H ex=lr/\X.s₀.heap.get? ex=lr/\∃c,Okc X.mg cls c /\
 (Tn s.heap ex cls c\/∃T fl,Tr s.heap ex T cls fl c/\H T=lr/\X.s₀.heap.get? T=lr)
variable{ex:Z7}{T0:Option Z7}
section
def uL(ex:Z7)(T:Option Z7)(X:Cx):List Z7:=ex::(T.toList++frs X.stack)
theorem wo(I:Inv X Z9 σ H s)(hb:b∈frs X.stack):∃o,s.heap.get? b=lm o/\∀vs,o.data≠.fields vs:=(I.stack.mem hb).2
theorem Vu(hs:X.stack=X.env::X.outer):∀env∈X.stack,∀b,env.frame=lm b->b∈frs X.stack:=λenv he b hb=>fE.mpr ⟨env,he,hb⟩
structure Gone(X:Cx)(H:Hp)(s:lx)(ex:Z7)(cls:lu)(h2:Z5):Prop where
 keep:∀b o,s.heap.get? b=lm o->H b≠lr\/(X.s₀.heap.get? b≠lr/\b∉frs X.stack)->h2.get? b=lm o
 slot:∀b o,s.heap.get? b=lm o->b∈frs X.stack->∃sl,h2.get? b=lm { o with slots:=sl }
 ok:HOk X.prog X.w H h2
 un:Un (frs X.stack) [] H H s.heap h2\/True
theorem qfJ{h2:Z5}(I:Inv X Z9 σ H s)(hex:H ex=lr)(k:∀T,T0=lm T->H T=lr)(n1:X.s₀.heap.get? ex=lr)(n2:∀T,T0=lm T->X.s₀.heap.get? T=lr)(st:(bp s.heap (uL ex T0 X)).StaysIn h2)(sl:∀b o,s.heap.get? b=lm o->(∀vs,o.data≠.fields vs)->∃sl,h2.get? b=lm { o with slots:=sl }):Gone X H s ex cls h2:=by
 have keep:∀b o,s.heap.get? b=lm o->b≠ex->(∀T,T0=lm T->b≠T)->b∉frs X.stack->h2.get? b=lm o:=λb o e h1 h2 g=>st b o (dE _ e λm=>by
  rcases af.mp m with q|m;·exact h1 q
  .rcases aI.mp m with q|q;·exact h2 b (Option.mem_toList.mp q) rfl
   .exact g q)
 have k1:∀b o,s.heap.get? b=lm o->H b≠lr->h2.get? b=lm o:=λb o e n=>keep b o e (λq=>n (by rw[q];exact hex)) (λT h q=>n (by rw[q];exact k T h)) λq=>n (I.stkFree b q);refine⟨λb o e hb=>?_,λb o e hb=>?_,λb u e=>?_,.inr trivial⟩
 .rcases hb with hb|⟨hb,hf⟩
  .exact k1 b o e hb
  .exact keep b o e (λq=>hb (by rw[q];exact n1)) (λT h q=>hb (by rw[q];exact n2 T h)) hf
 .obtain⟨o',a,t⟩:=wo I hb;rw[e]at a;cases a;exact sl b o e t
 .refine(I.hok b u e).stay (λc v d q=>k1 c v q ?_) (λ_ q=>q) λ_ _ q=>q;rcases d with z|z;·rw[z,e];simp
  .rw[z];simp
theorem qal{h2:Z5}{c:lu}{T:Z7}(I:Inv X Z9 σ H s)(x:∀T,T0=lm T->H T=lr)(n2:∀T,T0=lm T->X.s₀.heap.get? T=lr)(g:Gone X H s ex cls h2)(h:X.ex=[])(k:(bp s.heap (uL ex T0 X)).get? T=lr)(t:Tr h2 ex T cls .none c)(ok:Okc X.mg cls c):∃T,Fly X.mg h2 ex T cls/\H T=lr/\X.s₀.heap.get? T=none:=by
 obtain⟨oe,vs,J,ts,O,N,M,L,D,B,A,K,E⟩:=id t;have d:∀o,s.heap.get? T=lm o->(∃q,T0=lm q/\T=q):=λo e=>by
  have m:T∈uL ex T0 X:=by refine bX λr=>?_;rw[dE _ e r]at k;cases k
  rcases af.mp m with q|m;·exact absurd q D
  .rcases aI.mp m with q|q;·exact⟨T,Option.mem_toList.mp q,rfl⟩
   .obtain⟨o',i,p⟩:=wo I q;obtain⟨sl,j⟩:=g.slot T o' i q;rw[B]at j;cases j;exact absurd A (p ts)
 refine⟨T,⟨c,t,ok⟩,?_,?_⟩
 .cases q:H T with
  |none=>rfl
  | some u=>
   have w:=I.hok.lt q;obtain⟨o,e⟩:∃o,s.heap.get? T=lm o:=by
    have:=(I.hok T u q)
    have st:=this.stay (H':=H) (h':=s.heap) (λb v _ z=>z) (λ_ z=>z) λ_ _ z=>z;cases z:s.heap.get? T with
    |some o=>exact⟨o,rfl⟩
    |none=>
     exfalso;cases u with
     |lst xs=>obtain⟨_,_,_,_,e⟩:=st;rw[z]at e;cases e
     |tup xs=>obtain⟨_,_,_,_,e,_⟩:=st;rw[z]at e;cases e
     |dK kvs=>obtain⟨_,_,_,_,o,_,_,e,_⟩:=st;rw[z]at e;cases e
     |dT kvs=>obtain⟨_,_,_,_,o,_,_,e,_⟩:=st;rw[z]at e;cases e
     |set S n=>obtain⟨o,_,_,_,e,_⟩:=st;rw[z]at e;cases e
     |ins C dx fs=>obtain⟨_,_,_,e,_⟩:=st;rw[z]at e;cases e
     |own y=>obtain⟨_,e⟩:=st;rw[z]at e;cases e
     |xd fs=>obtain⟨_,⟨_,_,_,e,_⟩,_⟩:=st;rw[z]at e;cases e
     |rng lo hi=>obtain⟨_,_,_,e⟩:=st;rw[z]at e;cases e
     |frz G u=>obtain⟨e,_⟩:=st;rw[z]at e;cases e
     |tbl ps=>have e:s.heap.get? T=lm _:=st;rw[z]at e;cases e
     |met f y=>have e:s.heap.get? T=lm _:=st;rw[z]at e;cases e
     |ext φ=>obtain⟨_,⟨_,e⟩,_⟩:=st;rw[z]at e;cases e
   obtain⟨l,a,rfl⟩:=d o e;rw[x _ a]at q;cases q
 .cases q:X.s₀.heap.get? T with
  |none=>rfl
  |some o=>obtain⟨o',i⟩:=I.base.there T o q (by rw[h];simp);obtain⟨l,a,rfl⟩:=d o' i;rw[n2 _ a]at q;cases q
theorem Zq{E:lu->lx->Prop}{Q:Unit->lx->Prop}(I:Inv X Z9 σ H s)(hstk:X.stack=X.env::X.outer)(hfr:X.env.frame=lm X.env.locals)(h:X.ex=[])(x:InB X H s ex cls)(k:∀h2 T,Gone X H s ex cls h2->Fly X.mg h2 ex T cls->H T=lr->X.s₀.heap.get? T=lr->Q () { s with heap:=h2 }):lA 'c' X.A (leaving X.env (.ref ex)) Q E s:=by
 obtain⟨hex,n1,c,ok,hx⟩:=x;have F:X.A.frames=lm (X.env::X.outer):=by rw[I.ok.frames,hstk]
 have B:∀as,(bp s.heap as).StaysIn s.heap:=λas b o e=>dN as e;have hl:∀T0,s.heap.FunFrames (bp s.heap (uL ex T0 X)) (X.env::X.outer):=λT0=>by rw[<-hstk];exact PySem.W.funFrames_hide I.stack λenv he b hb=>ae _ (aH _ (Vu hstk env he b hb))
 have n:∀T0,(bp s.heap (uL ex T0 X)).get? ex=none:=λT0=>cI _ (af.mpr (.inl rfl));have fin:∀T0:Option Z7,(∀T,T0=lm T->H T=lr)->(∀T,T0=lm T->X.s₀.heap.get? T=lr)->∀h1 T,(bp s.heap (uL ex T0 X)).StaysIn h1->h1.FunFrames (bp s.heap (uL ex T0 X)) (X.env::X.outer)->Tr h1 ex T cls (lN X.env.locals) c ->(bp s.heap (uL ex T0 X)).get? T=lr->s.heap.UpToSlots h1->lA 'c' X.A (nD (.ref ex) lr) Q E { s with heap:=h1 }:=λT0 i y h1 T p f1 l m1 j=>
  QZ m1 p f1 l λh2 m f2 t u=>by have g:Gone X H s ex cls h2:=qfJ I hex i n1 y m (j.trans u);obtain⟨r,d,a,f⟩:=qal I i y g h m1 t ok;exact k h2 r g d a f
 unfold leaving;rcases hx with tn|⟨T,fl,tr,hT,n2⟩
 .exact lq (YD F hfr (n lr) (B _) (hl lr) tn (fin lr (λ_ z=>nomatch z) λ_ z=>nomatch z))
 .exact lq (YE F hfr (n (lm T)) (cI _ (ae _ (bu _ 'f'))) (B _) (hl (lm T)) tr (fin (lm T) (λq z=>by cases z;exact hT) λq z=>by cases z;exact n2))
end
variable{P:lC}{w:lD}{mg:Str->Option lu}{qual:Str}{cd:lu}{s0:lx}
section
variable{E:XK}
abbrev cxk(P:lC)(w:lD)(K:Y9)(mg:Str->Option lu)(base:Z5)(N:List Str)(qual:Str)(scope:mQ)(f:Z7)(cd:lu)(A:lG)(outer:List Env)(s0:lx)(H0:Hp)(E:XK):Cx:=qfe (CXk P w mg) P w K mg base N qual scope f cd A outer s0 H0 E
theorem qiv{C:Z7}(I:Inv (cxk P w K mg base N qual scope f cd A outer s0 H0 E) Z9 σ H s)(x:InB (cxk P w K mg base N qual scope f cd A outer s0 H0 E) H s ex (.ref C))(j:E (.ref C) lr H):(cxk P w K mg base N qual scope f cd A outer s0 H0 E).xe (.ref ex) s:=by
 refine Zq I rfl rfl rfl x λh2 T g fl k h=>?_;have a:=I.base;have L:∀b o,s0.heap.get? b=lm o->b≠(cxk P w K mg base N qual scope f cd A outer s0 H0 E).env.locals:=λb o e=>aD (aK (ax e) I.ok.above);have t:∀b o,s0.heap.get? b=lm o->b∉frs outer->b∉frs (cxk P w K mg base N qual scope f cd A outer s0 H0 E).stack:=λb o e hb z=>by
  rcases af.mp (I.stkSub b z)with q|q;·exact L b o e q
  .exact hb q
 have i:∀b,b∈frs outer->b∈frs (cxk P w K mg base N qual scope f cd A outer s0 H0 E).stack:=λb hb=>by show b∈frs (_::outer);unfold frs;rw[br];exact ae _ hb
 refine⟨ex,T,C,H,rfl,I.os,I.bare,⟨λb o e n hb hx=>?_,λb o e n hb hx=>?_,a.free,λb o e hx=>?_,a.tups,a.frzs,a.tbls⟩,g.ok,fl,x.1,k,x.2.1,h,j⟩;·exact g.keep b o (a.keep b o e n hb hx) (.inr ⟨by show s0.heap.get? b≠lr;rw[e];simp,t b o e hb⟩)
 .obtain⟨sl,q⟩:=a.slot b o e n hb hx;obtain⟨c,d⟩:=g.slot b _ q (i b hb);exact⟨c,d⟩
 .obtain⟨o',q⟩:=a.there b o e hx;by_cases hb:b∈frs (cxk P w K mg base N qual scope f cd A outer s0 H0 E).stack;·obtain⟨sl,d⟩:=g.slot b o' q hb;exact⟨_,d⟩
  .exact⟨o',g.keep b o' q (.inr ⟨by show s0.heap.get? b≠lr;rw[e];simp,hb⟩)⟩
theorem qfK{e:lu}(a:X.ex=[])(I:Inv X Z9 σ H s)(h:CXk X.prog X.w X.mg X.stack H s E e s'):∃ex C H',e=.ref ex/\Inv X Z9 σ H' s'/\InB X H' s' ex (.ref C)/\E (.ref C) lr H':=by
 obtain⟨ex,T,C,H',rfl,os,bare,un,hok,fl,e1,i,n1,n2,j⟩:=h;have old:∀b,s.heap.get? b=lr->X.s₀.heap.get? b=none:=λb hb=>by
  cases q:X.s₀.heap.get? b with
  |none=>rfl
  |some o=>obtain⟨o',d⟩:=I.base.there b o q (by rw[a];simp);rw[hb]at d;cases d
 obtain⟨c,t,ok⟩:=fl;exact⟨ex,C,H',rfl,I.call' (ch:=[]) os un hok bare (λb z=>absurd z 'f'),⟨e1,old ex n1,c,ok,.inr ⟨T,_,t,i,old T n2⟩⟩,j⟩
theorem Zr:jJ (CXk P w mg) (cxk P w K mg base N qual scope f cd A outer s0 H0 E) E:=λZ9 σ H s e s' I h=>by obtain⟨ex,C,H',rfl,b,x,j⟩:=qfK rfl I h;exact qiv b x j
set_option tactic.hygienic true in
theorem Uk{C:Z7}{b:List lu}{d:String}(kin:K.In h)(c:mg x=lm (.ref C))(q:cg K C b d=lv):OwnCls x C b d mg h:=by
 refine⟨c,?_⟩;unfold cg at q;split at q
 case h_2=>cases q
 case h_1 dd cd sl lk=>
  split at q
  case h_2=>cases q
  case h_1 C' bm a0 a1 a2 a3 n a5 em es=>
   have f:=q;simp only[aO,beq_iff_eq,d8]at f;obtain⟨⟨⟨⟨⟨e1,i⟩,l⟩,tl⟩,k⟩,t⟩:=f;obtain⟨nm,bs,mro,ns,a,hd,sn,sub,ab,col,del⟩:=cd;dsimp only at em l k t;obtain⟨s⟩:=sl;dsimp only at es;subst em l es e1 i;exact⟨bm,ns,nm,a,bs,hd,sn,sub,ab,col,dd,a0,a1,a2,a3,a5,_,kin _ _ lk,.of_isNs (PySem.W.isNs_of_in kin k),PySem.W.nsMap_none_of_in kin k t,PySem.W.tail_of_in kin tl⟩
end
theorem qam{T:Z7}(hok:HOk P w H h)(q:H T=lm u):∃o,h.get? T=lm o:=by
 have st:=hok T u q;cases z:h.get? T with
 |some o=>exact⟨o,rfl⟩
 |none=>
  exfalso;cases u with
  |lst xs=>obtain⟨_,_,_,_,e⟩:=st;rw[z]at e;cases e
  |tup xs=>obtain⟨_,_,_,_,e,_⟩:=st;rw[z]at e;cases e
  |dK kvs=>obtain⟨_,_,_,_,o,_,_,e,_⟩:=st;rw[z]at e;cases e
  |dT kvs=>obtain⟨_,_,_,_,o,_,_,e,_⟩:=st;rw[z]at e;cases e
  |set S n=>obtain⟨o,_,_,_,e,_⟩:=st;rw[z]at e;cases e
  |ins C dx fs=>obtain⟨_,_,_,e,_⟩:=st;rw[z]at e;cases e
  |own y=>obtain⟨_,e⟩:=st;rw[z]at e;cases e
  |xd fs=>obtain⟨_,⟨_,_,_,e,_⟩,_⟩:=st;rw[z]at e;cases e
  |rng lo hi=>obtain⟨_,_,_,e⟩:=st;rw[z]at e;cases e
  |frz b u=>obtain⟨e,_⟩:=st;rw[z]at e;cases e
  |tbl ps=>have e:h.get? T=lm _:=st;rw[z]at e;cases e
  |met f y=>have e:h.get? T=lm _:=st;rw[z]at e;cases e
  |ext φ=>obtain⟨_,⟨_,e⟩,_⟩:=st;rw[z]at e;cases e
abbrev bmV:List lu:=[.type "ValueError",.type "Exception",.type "BaseException",.type "object"]
def qU(x:Str)(fr:vV):qM:=λρ=>(fr ρ).bind λp=>.exc x p.2
theorem PoS.bindA{as:List AK}{o:Out (List D×Sl)}{k:List D×Sl->Out (Fl×Sl)}{D:Ends}{R:List V->Hp->Prop}(hp:PoS C own own' σ F H (o.bind k) D)(h:∀vs F1 H1 ds ρ1,Rep C.K own F1 H1 σ ρ1->Chg (OA own σ) F H F1 H1->ArgV C.K H F1 H1 σ as vs ds->PoS C own own' σ F1 H1 (k (ds,ρ1)) D->R vs H1):PoA C own as σ F H o R:=by
 cases o with
 |ok p=>obtain⟨ds,ρ1⟩:=p;exact λvs F1 H1 a c v=>h vs F1 H1 ds ρ1 a c v (PoS.shift (show PoS C own own' σ F H (k (ds,ρ1)) D from hp) (.ofE a c))
 |exc x=>exact hp
 |bad=>exact hp.elim
def Vv(X:Cx)(C:Ct):Prop:=∀(Z9:Pns)(σ:St)(H:Hp)(s:lx)(ex A:Z7),Inv X Z9 σ H s->InB X H s ex (.ref A)->C.E (.ref A) lr H->X.xe (.ref ex) s
theorem qiw:Vv (cxk P w K mg base N qual scope f cd A outer s0 H0 C.E) C:=λZ9 σ H s ex A I x j=>qiv I x j
variable{Cc:Z7}{cpos:Pos}
section
variable{fr:vV}{np:Pos}
theorem ArgV.len:∀{as:List AK}{vs:List V}{ds:List D},ArgV K H0 F H σ as vs ds->vs.length=as.length
 |[],[],[],_=>rfl
 |.vl::as,v::vs,d::ds,h=>congrArg (·+1) (ArgV.len h.2)
 |.sl i::as,v::vs,d::ds,h=>congrArg (·+1) (ArgV.len h.2.2)
 |.fr::as,v::vs,d::ds,h=>congrArg (·+1) (ArgV.len h.2)
 |[],_::_,_,h=>h.elim
 |[],[],_::_,h=>h.elim
 |.vl::_,[],_,h=>h.elim
 |.vl::_,_::_,[],h=>h.elim
 |.sl _::_,[],_,h=>h.elim
 |.sl _::_,_::_,[],h=>h.elim
 |.fr::_,[],_,h=>h.elim
 |.fr::_,_::_,[],h=>h.elim
theorem qan(hx0:X.ex=[])(ht:Vv X C)(P:X.calm=lv)(hg:Gl X x)(m:X.mg x=lm (.ref Cc))(v:C.cv x=.ref Cc)(q:cg X.K Cc bmV "ValueError.__new__"=lv)(w:PA X (e::es) (tAr C own as fr))(hsz:as.length<=1000:=by decide)(f:∀i∈C.ox,i∈own:=by exact jK rfl)(hd:Dbg x:=by decide)(he:lz (e::es) X.env='j'::lz es X.env:=by exact qV rfl)(l:(lM cpos (lz es X.env)).any (·.1)=false:=by rfl) :
  PS X (.Raise (lm (.Call (.Name x np) (e::es) [] cpos)) lr pos) (tSt C own own' (qU x fr)):=by
 refine⟨?_⟩;rintro Z9 s σ H D I ⟨F,ρ,r,h⟩;obtain⟨tl,N,nm,k,bs,hdct,sn,sub,ab,col,dd,k0,k1,k2,k3,k5,mN,hC,A,d,T⟩:=(Uk I.ok.mod.kin m q).obj;refine wpAny_Raise_call_subT (C:=Cc) (nm:=nm) (q:=k) (N:=N) (bs:=bs) (bm:=tl) (hdct:=hdct) (sn:=sn) (sub:=sub) (ab:=ab) (col:=col) (dd:=dd) (k0:=k0) (k1:=k1) (k2:=k2) (k3:=k3) (k5:=k5)
  cZ (mN:=mN) (T.hasType cZ.hasBase) (I.ok.hd P) (by rw[he];show(lw||(lM cpos (lz es X.env)).any (·.1))=lw;rw[l];rfl) d (yd I hg m ⟨rfl,?_⟩ hd)
 have n:tAr C own as fr σ H λvs H1=>vs.length<=Z8/\C.E (.ref Cc) lr H1:=by
  refine⟨F,ρ,r,PoS.bindA h λvs F1 H1 ds ρ1 a c1 G h1=>⟨?_,?_⟩⟩;·rw[G.len];exact bn hsz (by rw[lE];decide)
  .rw[<-v];exact h1 F1 H1 a.sub (a.ioIs f) .refl
 have run:=w cpos Z9 s σ H _ I n;rw[he]at run ⊢;refine dw (lR run (λus s2 z=>?_) λ_ _ y=>y);obtain⟨vs,H2,b,r2,j,B⟩:=z;refine⟨rfl,by rw[<-r2.length];exact j,b.bk _ _ hC,A.keeps b.bk,T.keeps b.bk,λh' ex mk=>?_⟩;have J:Inv X Z9 σ H2 { s2 with heap:=h' }:=b.kept (t':=s2.toks) mk.keeps;obtain⟨t,h1,h2,L⟩:=mk.there;refine ht Z9 σ H2 _ ex Cc J ⟨?_,?_,.none,.inl rfl,.inl ⟨_,_,h1,rfl,rfl,rfl,rfl⟩⟩ B
 .cases c:H2 ex with
  |none=>rfl
  |some u=>have p:=b.hok.lt c;refine absurd mk.new ?_;obtain⟨o,e⟩:=qam b.hok c;rw[e];simp
 .cases c:X.s₀.heap.get? ex with
  |none=>rfl
  |some o=>obtain⟨o',g⟩:=b.base.there ex o c (by rw[hx0];simp);rw[mk.new]at g;cases g
end
structure Fre(X:Cx)(Z9:Pns)(H:Hp)(s:lx)(b:Z7):Prop where
 dat:∃o vs,s.heap.get? b=lm o/\o.data=.fields vs
 hb:H b=lr
 n:X.s₀.heap.get? b=lr
 pp:∀p∈X.pn++Z9,p.1≠b
structure Caught(X:Cx)(Z9:Pns)(H:Hp)(s:lx)(ex T Cc:Z7):Prop where
 fly:Fly X.mg s.heap ex T (.ref Cc)
 fe:Fre X Z9 H s ex
 fT:Fre X Z9 H s T
variable{xe:lu->lx->Prop}
section
variable{T:Z7}
theorem YF{h2:Z5}(I:Inv X Z9 σ H s)(hstk:X.stack=X.env::X.outer)(hfr:X.env.frame=lm X.env.locals)(f1:Fre X Z9 H s ex)(f2:Fre X Z9 H s T)(keep:∀b o,s.heap.get? b=lm o->b≠ex->b≠T->b∉frs X.stack->h2.get? b=lm o)(slot:∀b o,s.heap.get? b=lm o->b∈frs X.stack->∃sl,h2.get? b=lm { o with slots:=sl }):Inv X Z9 σ H { s with heap:=h2 }:=by
 obtain⟨oe,ve,he,M⟩:=f1.dat;obtain⟨S,R,G,dT⟩:=f2.dat;have B:∀b o,s.heap.get? b=lm o->(∀vs,o.data≠.fields vs)->b≠ex/\b≠T:=λb o e n=>by
  constructor;·rintro rfl;rw[he]at e;cases e;exact n _ M
  .rintro rfl;rw[G]at e;cases e;exact n _ dT
 have Q:X.env.locals∈frs X.stack:=by rw[hstk];unfold frs;rw[br,hfr];exact aj
 have L:∀b o,X.s₀.heap.get? b=lm o->b≠X.env.locals:=λb o e=>aD (aK (ax e) I.ok.above);have t:∀b o,X.s₀.heap.get? b=lm o->b∉X.fs->b∉frs X.stack:=λb o e hb z=>by
  rcases af.mp (I.stkSub b z)with q|q;·exact L b o e q
  .exact hb q
 have h:∀b,b∈X.fs->b∈frs X.stack:=λb hb=>by rw[hstk];unfold frs;rw[br,hfr];exact ae _ hb
 have c:∀b o,X.s₀.heap.get? b=lm o->b≠ex/\b≠T:=λb o e=>⟨(by rintro rfl;rw[f1.n]at e;cases e),(by rintro rfl;rw[f2.n]at e;cases e)⟩
 have j:∀{a:Z7}{v:Option lu},s.heap.IsCell a v->h2.IsCell a v:=λ{a v} ⟨oc,e1,f⟩=>by
  have q:=B a oc e1 λvs z=>by rw[f]at z;cases z
  by_cases hb:a∈frs X.stack;·obtain⟨sl,z⟩:=slot a oc e1 hb;exact⟨_,z,f⟩
  .exact⟨oc,keep a oc e1 q.1 q.2 hb,f⟩
 refine⟨I.ok,I.os,I.bare,⟨λb o e n hb hx=>?_,λb o e n hb hx=>?_,I.base.free,λb o e hx=>?_,I.base.tups,I.base.frzs,I.base.tbls⟩,?_,λx a e=>?_,I.free,I.freeC,λp hp=>?_,λb u e=>?_,I.len⟩;·exact keep b o (I.base.keep b o e n hb hx) (c b o e).1 (c b o e).2 (t b o e hb)
 .obtain⟨sl,q⟩:=I.base.slot b o e n hb hx;obtain⟨g,A⟩:=slot b _ q (h b hb);exact⟨g,A⟩
 .obtain⟨o',q⟩:=I.base.there b o e hx;by_cases hb:b∈frs X.stack;·obtain⟨sl,z⟩:=slot b o' q hb;exact⟨_,z⟩
  .exact⟨o',keep b o' q (c b o e).1 (c b o e).2 hb⟩
 .obtain⟨m,⟨o,es,ep,D,r⟩,hl⟩:=I.loc;obtain⟨sl,J⟩:=slot _ o D Q;refine⟨m,⟨_,es,ep,J,r⟩,λi x v e1 f K=>?_⟩;obtain⟨u,w,C⟩:=hl i x v e1 f K;refine⟨u,w,?_⟩;rcases C with z|⟨k,a,e,z⟩
  .exact .inl z
  .exact .inr ⟨k,a,e,j z⟩
 .obtain⟨v,z⟩:=I.cell x a e;exact⟨v,j z⟩
 .obtain⟨P,O,l,y,N⟩:=I.pin p hp;refine⟨keep p.1 p.2 P (f1.pp p hp) (f2.pp p hp) λz=>?_,O,l,y,N⟩;rcases af.mp (I.stkSub p.1 z)with q|q;·exact l q
  .exact y q
 .refine(I.hok b u e).stay (λd v E q=>?_) (λ_ q=>q) λ_ _ q=>q;have hd:H d≠none:=by
   rcases E with z|z;·rw[z,e];simp
   .rw[z];simp
  exact keep d v q (λz=>hd (by rw[z];exact f1.hb)) (λz=>hd (by rw[z];exact f2.hb)) λz=>hd (I.stkFree d z)
theorem qao{h2:Z5}{y:Z7}{cls fl c:lu}(I:Inv X Z9 σ H s)(hstk:X.stack=X.env::X.outer)(hfr:X.env.frame=lm X.env.locals)(hx0:X.ex=[])(f1:Fre X Z9 H s ex)(f2:Fre X Z9 H s T)(st:(bp s.heap (uL ex (lm T) X)).StaysIn h2)(u:s.heap.UpToSlots h2)(j:(bp s.heap (uL ex (lm T) X)).get? y=lr)(r:Tr h2 ex y cls fl c) :
  Inv X Z9 σ H { s with heap:=h2 }/\Fre X Z9 H { s with heap:=h2 } ex/\Fre X Z9 H { s with heap:=h2 } y:=by
 obtain⟨oe,vs,z,ts,x,C,v,B,m,g,f,A,w⟩:=r;have slot:∀b o,s.heap.get? b=lm o->b∈frs X.stack->∃sl,h2.get? b=lm { o with slots:=sl }:=λb o e hb=>by obtain⟨o',a,t⟩:=wo I hb;rw[e]at a;cases a;exact u b o e t
 have d:∀o,s.heap.get? y=lm o->y=T:=λo e=>by
  have h:y∈uL ex (lm T) X:=by refine bX λk=>?_;rw[dE _ e k]at j;cases j
  rcases af.mp h with q|h;·exact absurd q m
  .rcases aI.mp h with q|q;·simpa using q
   .obtain⟨o',a,t⟩:=wo I q;obtain⟨sl,i⟩:=slot y o' a q;rw[g]at i;cases i;exact absurd f (t ts)
 refine⟨YF I hstk hfr f1 f2 (λb o e h1 h2 l=>st b o (dE _ e λh=>?_)) slot,⟨⟨_,_,x,v⟩,f1.hb,f1.n,f1.pp⟩,⟨_,_,g,f⟩,?_,?_,λp hp=>?_⟩
 .rcases af.mp h with q|h;·exact h1 q
  .rcases aI.mp h with q|q;·exact h2 (by simpa using q)
   .exact l q
 .cases q:H y with
  |none=>rfl
  |some u=>obtain⟨o,e⟩:=qam I.hok q;rw[d o e,f2.hb]at q;cases q
 .cases q:X.s₀.heap.get? y with
  |none=>rfl
  |some o=>obtain⟨o',a⟩:=I.base.there y o q (by rw[hx0];simp);rw[d o' a,f2.n]at q;cases q
 .rintro rfl;exact f2.pp p hp (d _ (I.pin p hp).1)
theorem xy(I:Inv X Z9 σ H s)(hstk:X.stack=X.env::X.outer):s.heap.FunFrames (bp s.heap (uL ex (lm T) X)) (X.env::X.outer):=by rw[<-hstk];exact PySem.W.funFrames_hide I.stack λenv he b hb=>ae _ (aH _ (Vu hstk env he b hb))
theorem hid:(bp s.heap (uL ex (lm T) X)).get? T=none:=cI _ (ae _ (bu _ 'f'))
section
variable{Q:Unit->lx->Prop}{c:lu}(I:Inv X Z9 σ H s)(hstk:X.stack=X.env::X.outer)(hfr:X.env.frame=lm X.env.locals)(hx0:X.ex=[])
include I hstk hfr hx0
theorem fl1{fo:Option Z7}(f1:Fre X Z9 H s ex)(f2:Fre X Z9 H s T)(r:Tr s.heap ex T cls fl c)(k:∀s',Inv X Z9 σ H s'->Fre X Z9 H s' ex->Fre X Z9 H s' T->Tr s'.heap ex T cls (fo.elim bH λf=>lN f) c->Q () s'):lA 'c' A (nD (.ref ex) fo) Q E s:=
 QZ hid (λb o e=>dN _ e) (xy I hstk) r λh2 d a t u=>by obtain⟨i,p,q⟩:=qao I hstk hfr hx0 f1 f2 d u hid t;exact k _ i p q t
theorem qfL(hA:A.frames=lm X.stack)(f1:Fre X Z9 H s ex)(f2:Fre X Z9 H s T)(t:Tn s.heap ex cls c\/Tr s.heap ex T cls fl c)(k:∀s' y,Inv X Z9 σ H s'->Fre X Z9 H s' ex->Fre X Z9 H s' y->Tr s'.heap ex y cls (lN X.env.locals) c->Q () s'):lA 'c' A (nC (.ref ex) X.env) Q E s:=by
 have h:∀h2 y,(bp s.heap (uL ex (lm T) X)).StaysIn h2->h2.FunFrames (bp s.heap (uL ex (lm T) X)) (X.env::X.outer)->Tr h2 ex y cls (lN X.env.locals) c->(bp s.heap (uL ex (lm T) X)).get? y=lr->s.heap.UpToSlots h2->Q () { s with heap:=h2 }:=λh2 y d _ a m u=>by obtain⟨i,p,q⟩:=qao I hstk hfr hx0 f1 f2 d u m a;exact k _ y i p q a
 rcases t with t|t;·exact YD (hA.trans (by rw[hstk])) hfr (cI _ (af.mpr (.inl rfl))) (λb o e=>dN _ e) (xy I hstk) t h
 .exact YE (hA.trans (by rw[hstk])) hfr (cI _ (af.mpr (.inl rfl))) hid (λb o e=>dN _ e) (xy I hstk) t h
theorem ge(c:Caught X Z9 H s ex T Cc)(k:∀s' y,Inv X Z9 σ H s'->Caught X Z9 H s' ex y Cc->Q () s'):lA 'c' A (nD (.ref ex) lr) Q E s:=by
 obtain⟨_,t,o⟩:=c.fly;exact fl1 I hstk hfr hx0 c.fe c.fT t λs' i p q t'=>k s' T i ⟨⟨_,t',o⟩,p,q⟩
theorem qap(hA:A.frames=lm X.stack)(c:Caught X Z9 H s ex T Cc)(k:∀s' y,Inv X Z9 σ H s'->Caught X Z9 H s' ex y Cc->Q () s'):lA 'c' A (nC (.ref ex) X.env) (λ_ s1=>lA 'c' A (nD (.ref ex) lr) Q E s1) E s:=by
 obtain⟨_,t,o⟩:=c.fly;exact qfL I hstk hfr hx0 hA c.fe c.fT (.inr t) λs' y i p q t'=>fl1 i hstk hfr hx0 p q t' λs2 i2 p2 e a=>k s2 y i2 ⟨⟨_,a,o⟩,p2,e⟩
end
theorem qkH(I:Inv X Z9 σ H s)(c:Caught X Z9 H s ex T Cc):Inv X Z9 σ (upd H ex (Ud ex Cc)) s:=by
 obtain⟨_,t,_⟩:=c.fly;obtain⟨oe,vs,f,y,h⟩:=t.at_;have g:∀b o,s.heap.get? b=lm o->(∀vs,o.data≠.fields vs)->b≠ex:=λb o e n=>by rintro rfl;rw[f]at e;cases e;exact n _ h
 have up:∀{b:Z7}{u:HO},H b=lm u->upd H ex (Ud ex Cc) b=lm u:=λ{b u} e=>by rw[qw (qE e c.fe.hb)];exact e
 refine⟨I.ok,I.os,I.bare,⟨I.base.keep,I.base.slot,λb o e n hx=>?_,I.base.there,λb xs e=>up (I.base.tups b xs e),λb o u e=>up (I.base.frzs b o u e),λb ps e=>?_⟩,I.loc,I.cell,?_,λx a e=>?_,λp hp=>?_,λb u e=>?_,I.len⟩;·rw[qw (by rintro rfl;rw[c.fe.n]at e;cases e)];exact I.base.free b o e n hx
 .obtain⟨more,z⟩:=I.base.tbls b ps e;exact⟨more,up z⟩
 .obtain⟨m,⟨o,es,ep,l,hd,_⟩,_⟩:=I.loc;rw[qw (g _ o l λvs z=>by rw[hd]at z;cases z)];exact I.free
 .obtain⟨v,oc,e1,i⟩:=I.cell x a e;rw[qw (g _ oc e1 λvs z=>by rw[i]at z;cases z)];exact I.freeC x a e
 .obtain⟨r,w,j⟩:=I.pin p hp;refine⟨r,?_,j⟩;rw[qw (c.fe.pp p hp)];exact w
 .by_cases q:b=ex;·subst q;rw[qm]at e;cases e;refine⟨⟨oe,vs,f,y,h⟩,⟨oe,f⟩,λh1 h2 ⟨o1,C,e1,i,D⟩ k=>⟨o1,C,k _ e1,i,D⟩⟩
  .rw[qw q]at e;exact(I.hok b u e).stay (λ_ _ _ z=>z) (λd z=>up z) λd xs z=>up z
def gf(X:Cx)(pn:Pns)(xe:lu->lx->Prop):Cx:={ X with pn:=pn,xe:=xe }
theorem qfM(I:Inv X Z9 σ H s):Inv (gf X (X.pn++Z9) xe) [] σ H s:=
 ⟨⟨I.ok.mod,I.ok.kind,I.ok.glob,I.ok.blt,I.ok.above,I.ok.inj,I.ok.has,I.ok.cab,I.ok.hd,I.ok.frames,I.ok.stk,I.ok.exf,I.ok.bs,I.ok.bsz,I.ok.noex,I.ok.exfs,I.ok.funs,I.ok.frf⟩,I.os,I.bare,I.base,I.loc,I.cell,I.free,I.freeC,λp hp=>I.pin p (by simpa[gf]using hp),I.hok,I.len⟩
theorem wW{a:Pns}(I:Inv (gf X (X.pn++Z9) xe) a σ H s):Inv X Z9 σ H s:=
 ⟨⟨I.ok.mod,I.ok.kind,I.ok.glob,I.ok.blt,I.ok.above,I.ok.inj,I.ok.has,I.ok.cab,I.ok.hd,I.ok.frames,I.ok.stk,I.ok.exf,I.ok.bs,I.ok.bsz,I.ok.noex,I.ok.exfs,I.ok.funs,I.ok.frf⟩,I.os,I.bare,I.base,I.loc,I.cell,I.free,I.freeC,λp hp=>I.pin p (bu _ hp),I.hok,I.len⟩
noncomputable def qct(X:Cx)(e:lu):Cx:={ X with A:=X.A.mark (lm e),calm:=lw,xe:=λ_ _=>False }
theorem Vw{e:lu}(I:Inv X Z9 σ H s):Inv (qct X e) Z9 σ H s:=
 ⟨⟨I.ok.mod,I.ok.kind,I.ok.glob,I.ok.blt,I.ok.above,I.ok.inj,I.ok.has,I.ok.cab,λz=>absurd z (by show ¬(lw=lv);exact bE),I.ok.frames,I.ok.stk,I.ok.exf,I.ok.bs,I.ok.bsz,I.ok.noex,I.ok.exfs,I.ok.funs,I.ok.frf⟩,I.os,I.bare,I.base,I.loc,I.cell,I.free,I.freeC,I.pin,I.hok,I.len⟩
theorem Ul{e:lu}(hok:X.Ok)(I:Inv (qct X e) Z9 σ H s):Inv X Z9 σ H s:=
 ⟨hok,I.os,I.bare,I.base,I.loc,I.cell,I.free,I.freeC,I.pin,I.hok,I.len⟩
theorem Ja{g:Str->Option lu}{t:Nat}(I:Inv X Z9 σ H s)(hstk:X.stack=X.env::X.outer)(hfr:X.env.frame=lm X.env.locals)(y:h'.Ns X.env.locals g)(c:bh X.env.locals s.heap h'):Inv X Z9 (σ.map λ_=>lr) H { s with heap:=h',toks:=t }:=by
 have L:∀b o,X.s₀.heap.get? b=lm o->b≠X.env.locals:=λb o e=>aD (aK (ax e) I.ok.above);obtain⟨m,⟨B,es,ep,W,h,_⟩,_⟩:=id I.loc;have l:∀{a:Z7}{v:Option lu},s.heap.IsCell a v->a≠X.env.locals:=λ{a v} ⟨oc,e1,f⟩=>by rintro rfl;rw[W]at e1;cases e1;rw[h]at f;cases f
 refine⟨I.ok,I.os,I.bare,⟨λb o e n hb hx=>(c.2 b (L b o e)).trans (I.base.keep b o e n hb hx),λb o e n hb hx=>?_,I.base.free,λb o e hx=>?_,I.base.tups,I.base.frzs,I.base.tbls⟩,⟨g,y,λi x v e1 f=>?_⟩,λx a e=>?_,I.free,I.freeC,λp hp=>?_,λb u e=>?_,by simp[I.len]⟩;·obtain⟨sl,q⟩:=I.base.slot b o e n hb hx;exact⟨sl,(c.2 b (L b o e)).trans q⟩
 .obtain⟨o',q⟩:=I.base.there b o e hx;exact⟨o',(c.2 b (L b o e)).trans q⟩
 .simp only[aJ]at f;cases q:σ[i]? <;> rw[q]at f <;> cases f
 .obtain⟨v,z⟩:=I.cell x a e;exact⟨v,z.sameBut c (l z)⟩
 .obtain⟨A,w,j,r⟩:=I.pin p hp;exact⟨(c.2 p.1 j).trans A,w,j,r⟩
 .refine(I.hok b u e).stay (λd v k q=>(c.2 d ?_).trans q) (λ_ q=>q) λ_ _ q=>q;rintro rfl;rcases k with z|z;·rw[<-z,I.free]at e;cases e
  .rw[I.free]at z;cases z
end
def qix(C:Ct)(own:List Nat)(E:XK):Ct:=⟨C.K,C.cv,E,own,C.mr,C.ol,own,λ_ h=>h⟩
noncomputable def exC(C:Ct):Ct:=⟨C.K,C.cv,λ_ _ _=>False,[],C.mr,[],[],λ_ h=>h⟩
noncomputable def qfN(n:Nat)(j:Option Nat)(hit:Str->Option Z7)(fb fs:qM):qM:=λρ=>match fb ρ with
 | .exc c ρe=>match hit c with
  |some Cc=>match fs (match j with|some j=>(bQ n lr).set j (lm (.xcp Cc))|none=>bQ n lr)with
   |.ok (.rt d,_)=>.ok (.rt d,ρe)
   |_=>.bad
  |none=>.bad
 |o=>o
def qkI(C:Ct)(own:List Nat)(σ:St)(F H:Hp)(r:Out (Fl×Sl)):XK:=λcls _ H'=>∃c ρe F',r=.exc c ρe/\cls=C.cv c/\Same F' H'/\Yo C.K own F' H' σ ρe/\Chg (OA own σ) F H F' H'
def qkJ(X:Cx)(Z9:Pns)(E:XK):lu->lx->Prop:=λe s'=>∃σ ex T Cc H',e=.ref ex/\Inv X Z9 σ H' s'/\Caught X Z9 H' s' ex T Cc/\E (.ref Cc) lr H'
section
variable{fb fs:qM}
theorem Zs{E:XK}(hx0:X.ex=[]):jJ (CXk X.prog X.w X.mg) (gf X (X.pn++Z9) (qkJ X Z9 E)) E:=λa σ H s e s' I h=>by
 obtain⟨ex,T,Cc,H',rfl,os,bare,un,hok,fl,e1,i,n1,n2,j⟩:=h;have old:∀b,s.heap.get? b=lr->X.s₀.heap.get? b=none:=λb hb=>by
  cases q:X.s₀.heap.get? b with
  |none=>rfl
  |some o=>obtain⟨o',c⟩:=I.base.there b o q (by show b∉X.ex;rw[hx0];simp);rw[hb]at c;cases c
 have k:Inv (gf X (X.pn++Z9) (qkJ X Z9 E)) a σ H' s':=I.call' (ch:=[]) os un hok bare (λb z=>absurd z 'f');have pp:∀b,s.heap.get? b=lr->∀p∈X.pn++Z9,p.1≠b:=λb n p hp z=>by have q:=(I.pin p (bu _ hp)).1;rw[z,n]at q;cases q
 obtain⟨_,⟨oe,vs,d,ts,g,m,f,y,l,D,B,_⟩,_⟩:=id fl;exact⟨σ,ex,T,Cc,H',rfl,wW k,⟨fl,⟨⟨oe,vs,g,f⟩,e1,old ex n1,pp ex n1⟩,⟨⟨d,ts,D,B⟩,i,old T n2,pp T n2⟩⟩,j⟩
theorem Nx.untry{E:XK}{σ':St}{ρ':Sl}(g:∀i∈C.io,i∈own)(n:Nx (qix C own E) o1 o2 σ F H ρ' σ' F' H'):Nx C o1 o2 σ F H ρ' σ' F' H':=⟨n.rep,n.chg,n.oa,λi hi=>n.io i (g i hi)⟩
theorem qc6{ft:qM}{D:Ends}(g:∀i∈C.io,i∈own)(hok:∀ρ r,fb ρ=r->(∀c ρe,r≠.exc c ρe)->ft ρ=r)(a:Rep C.K own F H σ ρ)(h:PoS C own own' σ F H (ft ρ) D):tSt (qix C own (qkI C own σ F H (fb ρ))) own own' fb D σ H:=by
 refine⟨F,ρ,a,?_⟩;cases q:fb ρ with
 |ok p=>
  rw[hok _ _ q λ_ _ z=>nomatch z]at h;obtain⟨fl,ρ'⟩:=p;cases fl with
  |nx=>exact λσ' F' H' n=>h σ' F' H' (n.untry g)
  |rt d=>exact λv σ' F' H' s io c e mo=>h v σ' F' H' s (λi hi=>io i (g i hi)) c (λi hi=>e i (g i hi)) mo
  |bk=>exact λσ' F' H' n=>h σ' F' H' (n.untry g)
  |ct=>exact λσ' F' H' n=>h σ' F' H' (n.untry g)
 |exc c ρe=>exact λF' H' s io ch=>⟨c,ρe,F',rfl,rfl,s,io,ch⟩
 |bad=>rw[hok _ _ q λ_ _ z=>nomatch z]at h;exact h.elim
set_option tactic.hygienic true in
theorem qaq{cn:Str}{np d pos:Pos}{body b:List Z3}{O:Z3}{nm:Option Str}{cls:lu}{hit:Str->Option Z7}{ft:qM}(hx0:X.ex=[])(hstk:X.stack=X.env::X.outer)(hfr:X.env.frame=lm X.env.locals)(hg:Gl X cn)(R:X.mg cn=lm cls)(t:∀c Cc,hit c=lm Cc->C.cv c=.ref Cc/\dH X.K (.ref Cc) cls=lm lv)(hok:∀ρ r,fb ρ=r->(∀c ρe,r≠.exc c ρe)->ft ρ=r)(y:∀ρ c ρe,fb ρ=.exc c ρe->hit c=lr->ft ρ=.bad)(hb:∀pn xe E,jJ (CXk X.prog X.w X.mg) (gf X pn xe) E->PSs (gf X pn xe) body (tSt (qix C own E) own own' fb))(k:∀i∈C.io,i∈own)(hd:Dbg cn)
  (hs:∀{Z9:Pns}{σ σ1:St}{F H F1 H1:Hp}{ρ ρe:Sl}{D:Ends}{s:lx}{ex T Cc:Z7}{c:Str},PoS C own own' σ F H (ft ρ) D->fb ρ=.exc c ρe->hit c=lm Cc->Same F1 H1->Yo C.K own F1 H1 σ ρe->Chg (OA own σ) F H F1 H1->X.Ok->Inv X Z9 σ1 H1 s->Caught X Z9 H1 s ex T Cc ->
   my 'c' (X.A.mark (lm (.ref ex))) (.handlers (.ref ex) [.ExceptHandler lr nm (O::b) d] X.env) (λr a=>match r with
     |.ok f=>(match nm with
      |none=>SP X Z9 D f a
      |some n=>lA 'c' X.A (do bindName X.env n .none;unbindBehindTheSuite X.env n d) (λ_ j=>SP X Z9 D f j) X.xe a)
     |.error x=>cameBackBy 'c' X.A X.env X.xe x a) s) :
  PS X (.Try body [.ExceptHandler (lm (.Name cn np)) nm (O::b) d] [] [] pos) (tSt C own own' ft):=by
 refine⟨?_⟩;rintro Z9 s σ H D I ⟨F,ρ,Q,h⟩;have run:=hb (X.pn++Z9) (qkJ X Z9 (qkI C own σ F H (fb ρ))) (qkI C own σ F H (fb ρ)) (Zs hx0) [] s σ H D (qfM I) (qc6 k hok Q h);refine wpAny_Try_except (lR run (λf s1 l=>?_) λe s1 he=>?_)
 .cases f with
  |next=>obtain⟨σ',H',g,q⟩:=l;exact Go Z9 s1 σ' H' D (wW g) q
  |brk=>obtain⟨σ',H',g,q⟩:=l;exact⟨σ',H',wW g,q⟩
  |cont=>obtain⟨σ',H',g,q⟩:=l;exact⟨σ',H',wW g,q⟩
  |ret u=>obtain⟨v,σ',H',g,r,q⟩:=l;exact⟨v,σ',H',wW g,r,q⟩
 .obtain⟨σ1,ex,T,Cc,H1,rfl,P,c1,c,ρe,F1,N,L,m,p,J⟩:=he;refine qap P hstk hfr hx0 P.ok.frames c1 λs2 Y M c2=>?_;cases o:hit c with
  |none=>rw[y _ _ _ N o]at h;exact h.elim
  |some Ch=>
   obtain⟨G,B⟩:=t c Ch o;rw[G]at L;obtain rfl:Cc=Ch:=by injection L
   refine wpAny_handleBy_cons (codeAny_handlers_test (yd (X:=qct X (.ref ex)) (Vw M) hg R ?_ hd)) (by intro q;cases q);obtain⟨_,tt,_⟩:=c2.fly;obtain⟨oe,vs,U,S,V⟩:=tt.at_;have LT:PySem.W.Looks 'c' s2.heap (nP (.ref ex)) (.ref Cc):=by rw[<-S];exact(PySem.W.Looks.ld U).andThen .now
   exact(PySem.W.exm_one M.kIn LT B) _ _ _ _ (λ_ _ z=>z) (hs h N o m p J I.ok M c2)
theorem qar{f e:Hp}{Cc:Z7}{D:Ends}{d:D2.D}{v:V}{w:St}(g:∀i∈C.io,i∈own)(h:PoS C own own' σ F H (.ok (.rt d,ρe)) D)(n:H1 ex=lr)(t:Same F1 H1)(io:Yo C.K own F1 H1 σ ρe)(ch:Chg (OA own σ) F H F1 H1)(s3:Same f e)(I:Chg (OA [] w) (upd F1 ex (Ud ex Cc)) (upd H1 ex (Ud ex Cc)) f e)(mo:MoIs C.K C.mr (upd H1 ex (Ud ex Cc)) f e v d):D.rt v e:=by
 obtain⟨s,c2⟩:=wm (u:=Ud ex Cc) t n;have no:∀{b},OA [] w b->False:=λ⟨i,hi,_⟩=>by simp at hi
 have j:Chg No (upd F1 ex (Ud ex Cc)) (upd H1 ex (Ud ex Cc)) f e:=I.mono λx z=>no z;have c:Chg No F1 H1 f e:=c2.trans j λ_ z=>z.elim;refine h v σ f e s3 (λi hi=>?_) (ch.trans c λ_ z=>z.elim) (λ_ _=>rfl) (MoIs.back (Ha:=e) (ch.trans c2 λ_ z=>z.elim) mo);obtain⟨d',a,e1,l,k,p⟩:=io i (g i hi);refine⟨d',a,e1,l,?_,p.grow c.grow λo q=>c.keep a o q λz=>z⟩;cases q:f a with
 |none=>rfl
 |some u=>
  rcases c.new a (by rw[q];simp)with z|z|z;·exact absurd k z
  .exact absurd z p.there
  .exact z.elim
set_option tactic.hygienic true in
theorem qfO{cn en:Str}{np t pos:Pos}{body b:List Z3}{U:Z3}{cls:lu}{n j:Nat}{hit:Str->Option Z7}{own2:List Nat}(hx0:X.ex=[])(hstk:X.stack=X.env::X.outer)(hfr:X.env.frame=lm X.env.locals)(hg:Gl X cn)(hm:X.mg cn=lm cls)(x:∀c Cc,hit c=lm Cc->C.cv c=.ref Cc/\dH X.K (.ref Cc) cls=lm lv)(hN:X.N.Nodup)(T:X.N[j]?=lm en)(hx:X.env.scope.names.lookup en=lm .local)(P:X.N.length=n)(hb:∀pn xe E,jJ (CXk X.prog X.w X.mg) (gf X pn xe) E->PSs (gf X pn xe) body (tSt (qix C own E) own own' fb))(hs:∀e,PSs (qct X e) (U::b) (tSt (exC C) [] own2 fs))(k:∀i∈C.io,i∈own:=by exact jK rfl)(hd:Dbg cn:=by decide) :
  PS X (.Try body [.ExceptHandler (lm (.Name cn np)) (lm en) (U::b) t] [] [] pos) (tSt C own own' (qfN n (lm j) hit fb fs)):=by
 refine qaq hx0 hstk hfr hg hm x (λρ r e n=>by unfold qfN;rw[e];cases r with|exc c ρe=>exact absurd rfl (n c ρe)|_=>rfl) (λρ c ρe e q=>by unfold qfN;simp only[e,q]) hb k hd λ{Z9 σ σ1 F H F1 H1 ρ ρe D s2 ex T2 Cc c} h hr qh s M Q ok I2 c2=>?_;unfold qfN at h;simp only[hr,qh]at h;refine codeAny_handlers_suite_as (ge I2 hstk hfr hx0 c2 λs3 T3 S R=>?_);have I4:=qkH S R;refine zx I4 hN T (.inl hx) (v:=.ref ex) rfl (λs5 I5=>?_) (.inr hx);have g:j<n:=by rw[<-P];exact(aE.mp T).1
 have I6:Inv X Z9 ((bQ n lr).set j (lm (.ref ex))) (upd H1 ex (Ud ex Cc)) s5:=I5.weak (by simp[S.len,P]) λi v e=>by
  by_cases l:i=j;·subst l;rw[aL (by simpa using g)]at e;rw[aL (by rw[S.len,P];exact g)];exact e
  .rw[aA (bj l),bN]at e;split at e <;> cases e
 obtain⟨B,cc2⟩:=wm (u:=Ud ex Cc) s c2.fe.hb;have J:Rep C.K [] (upd F1 ex (Ud ex Cc)) (upd H1 ex (Ud ex Cc)) ((bQ n lr).set j (lm (V.ref ex))) ((bQ n lr).set j (lm (.xcp Cc))):=by
  refine⟨B,by simp,λi d hi e=>?_,λi d hi=>by simp at hi,λi hi=>by simp at hi,λi j a hi=>by simp at hi⟩;by_cases l:i=j;·subst l;rw[aL (by simpa using g)]at e;cases e;exact⟨.ref ex,by rw[aL (by simpa using g)],.xcp qm⟩
  .rw[aA (bj l),bN]at e;split at e <;> cases e
 have o:tSt (exC C) [] own2 fs { nx:=λ_ _=>False,rt:=D.rt } ((bQ n lr).set j (lm (V.ref ex))) (upd H1 ex (Ud ex Cc)):=by
  refine⟨_,_,J,?_⟩;cases L:fs ((bQ n lr).set j (lm (.xcp Cc)))with
  |ok p=>
   obtain⟨fl,Z⟩:=p;rw[L]at h;cases fl with
   |rt d=>exact λv σ' F3 H3 s3 io R e mo=>qar (own':=own') (D:=D) (ex:=ex) (Cc:=Cc) k h c2.fe.hb s M Q s3 R mo
   |nx=>exact h.elim
   |bk=>exact h.elim
   |ct=>exact h.elim
  |exc _ _=>rw[L]at h;exact h.elim
  |bad=>rw[L]at h;exact h.elim
 refine lR (hs (.ref ex) Z9 s5 _ _ _ (Vw I6) o) (λf s7 y=>?_) λ_ _ z=>z.elim;cases f with
 |next=>obtain⟨_,_,_,q⟩:=y;exact q.elim
 |brk=>obtain⟨_,_,_,q⟩:=y;exact q.elim
 |cont=>obtain⟨_,_,_,q⟩:=y;exact q.elim
 |ret u=>obtain⟨v,A,W,I7,r7,q7⟩:=y;have I:Inv X Z9 A W s7:=Ul ok I7;obtain⟨m,O,_⟩:=id I.loc;refine wpAny_nameGoes hx O (by rw[ok.kind];rfl) λh' m' Y G=>?_;exact⟨v,_,W,Ja I hstk hfr Y G,r7,q7⟩
end
structure RoomQ(k:Nat)(A:lG):Prop where
 dp:A.depth+3 * k+5<nO
 un:A.units+16 * k+200<lY
theorem RoomQ.deeper{k:Nat}(r:RoomQ (k+1) A)(env:Env):RoomQ k (A.deeper env):=
 ⟨by have:=r.dp;show A.depth+1+3 * k+5<_;lia,by have:=r.un;show A.units+3+16 * k+200<_;lia⟩
theorem RoomQ.depth{k:Nat}(r:RoomQ k A):A.depth<nO:=by have:=r.dp;lia
theorem RoomQ.units{k:Nat}(r:RoomQ k A):A.units+64<lY:=by have:=r.un;lia
theorem _root_.L2.Room.quiet{k:Nat}(r:Room k A):RoomQ k A:=⟨r.dp,r.un⟩
theorem RoomQ.mark{k:Nat}(r:RoomQ k A)(e:Option lu):RoomQ k (A.mark e):=⟨r.dp,r.un⟩
structure FnQ(P:lC)(w:lD)(K:Y9)(mg:Str->Option lu)(base:Z5)(CX:CXT)(k:Nat)(f:Z7)(fd:mD)(ps:List Str)(sp:Sp):Prop where
 len:∀vs H Q E,sp vs H Q E->vs.length=ps.length
 run:∀(A:lG)(outer:List Env)(s:lx)(H:Hp)(args:Args)(us:List lu)(vs:List V)(Q:VK)(E:XK),RoomQ k A->Env0 P w K mg base A outer s H->oC s fd args (ps.zip us)->Vals vs us->sp vs H Q E ->my (Z6 P w) A (.call (.ref f) args) (CR CX outer P w H s Q E) s
def cxQ(CX:CXT)(P:lC)(w:lD)(K:Y9)(mg:Str->Option lu)(base:Z5)(N:List Str)(qual:Str)(scope:mQ)(f:Z7)(cd:lu)(A:lG)(outer:List Env)(s:lx)(H:Hp)(E:XK):Cx where
 prog:=P
 w:=w
 K:=K
 mg:=mg
 base:=base
 A:=A.deeper (mj qual scope s.heap.objs.size f cd)
 N:=N
 s₀:=s
 H₀:=H
 env:=mj qual scope s.heap.objs.size f cd
 outer:=outer
 stack:=mj qual scope s.heap.objs.size f cd::outer
 ex:=[]
 calm:=lw
 fn:=λ_=>lv
 pn:=[]
 xe:=λe s'=>lA (Z6 P w) (A.deeper (mj qual scope s.heap.objs.size f cd)) (leaving (mj qual scope s.heap.objs.size f cd) e) (λ_ a=>CX outer H s E e a) (λb a=>CX outer H s E b a) s'
theorem Zu{CX:CXT}{P:lC}{w:lD}{K:Y9}{mg:Str->Option lu}{base:Z5}{N ps:List Str}{qual:Str}{scope:mQ}{f:Z7}{cd:lu}{A:lG}{outer:List Env}{s s1:lx}{H:Hp}{E:XK}{us:List lu}{vs:List V}(S:FnScope N ps scope)(e0:Env0 P w K mg base A outer s H)(hl:vs.length=ps.length)(r:Vals vs us)(x:InCallC s s.heap.objs.size (bindL (mj qual scope s.heap.objs.size f cd).kindOf (ps.zip us) λ_=>lr) (oE 'q' scope.names []) (bindC (mj qual scope s.heap.objs.size f cd).kindOf (ps.zip us) λ_=>lr) s1) :
  Inv (cxQ CX P w K mg base N qual scope f cd A outer s H E) [] (vJ N vs) H s1:=by
 have o:ps.length<=N.length:=by have:=congrArg lh S.pre;rw[bb]at this;lia
 obtain⟨h1,tk,rfl,l⟩:=x.done;have d:∀b:Z7,b∉(cxQ CX P w K mg base N qual scope f cd A outer s H E).ex:=λb z=>absurd (show b∈([]:List Z7)from z) 'f';refine⟨⟨e0.mod,S.kind,rfl,rfl,ao _,λy z c h1 h2=>?_,λy B=>?_,λy c _ h=>?_,λz=>absurd z (by show ¬(lw=lv);exact bE),Around.frames_deeper e0.frames,.inr ⟨rfl,rfl⟩,λb z=>absurd z (d b),e0.bs,e0.bsz,λb _ _=>d b,λb z=>absurd z (d b),e0.funs,e0.frf⟩,rfl,e0.bare,Un.kept l,⟨_,x.toInCall.ns,λi y v h1 h2 C=>?_⟩,λy c h=>⟨_,x.cell y c h⟩,e0.hok.fresh (ao _),λy c h=>?_,λp hp=>absurd (show p∈([]:Pns)from hp) 'f',e0.hok.kept l,?_⟩;·exact name_of_addr x.apart (bG h1) (bG h2)
 .have B:scope.names.lookup y=lm .cell\/scope.names.lookup y=lm .free:=B;rcases B with B|B;·exact zy B
  .exact absurd rfl (S.nofree _ (bG B))
 .exact cH (x.above y c (bG h))
 .have hi:i<vs.length:=by
   unfold vJ at h2;by_cases hi:i<vs.length;·exact hi
   .rw[cr (by simpa using hi)]at h2;rw[bN]at h2;split at h2 <;> cases h2
  have t:vs[i]?=lm v:=by
   unfold vJ at h2;rw[db (by simpa using hi),aJ]at h2;cases e:vs[i]? with
   |none=>rw[e]at h2;cases h2
   |some a=>rw[e]at h2;cases h2;rfl
  obtain⟨u,j,m⟩:=r.get t;have hp:ps[i]?=lm y:=by rw[<-S.pre,List.getElem?_take_of_lt 'b'];exact h1
  have g:ps.Nodup:=by rw[<-S.pre];exact S.nd.sublist (iG _ _)
  refine⟨u,m,?_⟩;rcases S.par y (bA hp)with k|k;·exact .inl ⟨k,zQ g hp j k⟩
  .obtain⟨c,e⟩:=zy (n:=s.heap.objs.size+1) k;refine .inr ⟨.inl k,c,e,?_⟩;have q:=x.cell y c e;rw[zR g hp j (by show scope.names.lookup y≠_;rw[k];decide)]at q;exact q
 .exact e0.hok.fresh (cH (x.above y c (bG h)))
 .unfold vJ;show _=N.length;rw[am,aq,d5]
  lia
set_option tactic.hygienic true in
theorem qiy{CX:CXT}{P:lC}{w:lD}{K:Y9}{mg:Str->Option lu}{base:Z5}{k:Nat}{f:Z7}{name qual:Str}{params:Arguments}{body:List Z3}{scope:mQ}{i kV doc pm cdv ct oc:lu}{an od:Option Z7}{osl:Array (Option lu)}{N ps:List Str}{sp:Sp}(j:K.lookup f=lm ⟨oc,od,.func (cU name qual params body scope i kV doc pm an cdv ct),osl⟩)(c:codeIn K cdv qual=lv)(S:FnScope N ps scope)(len:∀vs H Q E,sp vs H Q E->vs.length=ps.length)(a:∀(A:lG)(outer:List Env)(s:lx)(H:Hp)(vs:List V)(Q:VK)(E:XK),RoomQ k (A.deeper (mj qual scope s.heap.objs.size f cdv))->sp vs H Q E ->∃t,PSs (cxQ CX P w K mg base N qual scope f cdv A outer s H E) body t/\t { nx:=λ_ H'=>Q .non H',rt:=Q } (vJ N vs) H) :
  FnQ P w K mg base CX (k+1) f (cU name qual params body scope i kV doc pm an cdv ct) ps sp:=by
 refine⟨len,λA outer s H args us vs Q E g e0 hb r p=>?_⟩;have hl:=len _ _ _ _ p;have X:K.In s.heap:=e0.mod.kin.keeps λb o e=>(e0.bs b o e).1;have l:s.heap.NoLimit:=e0.mod.nolimit.keeps λb o e=>(e0.bs b o e).1;have h:∀y∈ps.zip us,scope.names.lookup y.1=lm .local\/(scope.names.lookup y.1=lm .cell/\((oE 'q' scope.names []).lookup y.1).isSome=lv):=λ⟨n,v⟩ B=>by
  rcases S.par n (fC B).1 with q|q;·exact .inl q
  .exact .inr ⟨q,fM _ _ _ (.inl q)⟩
 refine codeAny_call_function g.depth (X _ _ j) rfl S.co S.gen rfl (PySem.W.codeRec_of X c) (hb _ _ _ _ ?_);refine wpAny_newFunctionEnv_cells S.kind h λenv he s1 x=>?_;subst he;refine⟨l.keeps x.toInCall.keep,codeAny_func ?_⟩;obtain⟨t,ht,hq⟩:=a A outer s H vs Q E (g.deeper _) p;have I:Inv (cxQ CX P w K mg base N qual scope f cdv A outer s H E) [] (vJ N vs) H s1:=Zu S e0 hl r x;refine lR (ht [] s1 (vJ N vs) H _ I hq) (λfl s' hs=>?_) λe s' hs=>hs;have fin:∀{σ':St}{H':Hp}{v:V}{u:lu},Inv (cxQ CX P w K mg base N qual scope f cdv A outer s H E) [] σ' H' s'->RelV v u->Q v H'->CE outer P w H s Q u s':=
  λ{σ' H' v u} J d q=>⟨v,H',J.os,J.bare,J.base,J.hok,d,q⟩
 cases fl with
 |ret u=>obtain⟨v,σ',H',J,d,q⟩:=hs;exact fin J d q
 |next=>obtain⟨σ',H',J,q⟩:=hs;exact fin (v:=V.non) (u:=bH) J rfl q
 |brk=>obtain⟨_,_,_,q⟩:=hs;exact bZ q
 |cont=>obtain⟨_,_,_,q⟩:=hs;exact bZ q
theorem qkK{P:lC}{w:lD}{K:Y9}{mg:Str->Option lu}{base:Z5}{CX:CXT}{x qual:Str}{st:Z3}{f:Z7}{fd:mD}{N ps:List Str}{k:Nat}{cv:Str->lu}{ms:List PM}{mr:Mo}{own':List Nat}{fb:qM}{G:jy}(F:Fun K x qual st f fd)(S:FnScope N ps (qB st))(hl:ms.length=ps.length)(g:∀i∈KW 0 ms,i∈own')(hmr:mr=.sh\/∀ds ρ,(fb (qr N ds))≠.ok (.nx,ρ))(a:∀(cdv:lu)(A:lG)(outer:List Env)(s:lx)(H:Hp)(E:XK),RoomQ k (A.deeper (mj qual (qB st) s.heap.objs.size f cdv)) ->PSs (cxQ CX P w K mg base N qual (qB st) f cdv A outer s H E) (jZ st) (tSt (qc0 K cv E ms mr) (jM 0 ms) own' fb))(b:∀ds,Out.le (G ds) (jI N ms fb ds)):FnQ P w K mg base CX (k+1) f fd ps (spD K cv ms mr G):=by
 obtain⟨oc,od,kV,doc,pm,an,cdv,ct,osl,rfl,j,d⟩:=F.ex;refine qiy j d S (λvs H Q E h=>?_) λA outer s H vs Q E c p=>?_;·obtain⟨F,ds,_,r,_⟩:=h;rw[r.length.1,hl]
 .obtain⟨F1,ds,t,r,nd,h⟩:=p;refine⟨_,a cdv A outer s H E c,?_⟩;exact qag (C:=qc0 K cv E ms mr) rfl rfl (hmr.imp id λz ρ=>z ds ρ) g t r nd (b ds) h
section
variable{G:jy}{fr:vV}
set_option tactic.hygienic true in
theorem qfP{k:Nat}{sp:Sp}{E:XK}{Z9:Pns}{σ:St}{H:Hp}{s:lx}{Q:VK}{us:List lu}{vs:List V}(F:FnQ X.prog X.w X.K X.mg X.base CX k f fd ps sp)(c:RoomQ k X.A)(hb:Binds X.K fd ps [])(hx:jJ CX X E)(I:Inv X Z9 σ H s)(r:Vals vs us)(h:sp (vs++[]) H Q E):lA 'c' X.A (call (.ref f) us) (EP X Z9 σ Q) X.xe s:=by
 have r2:Vals (vs++[]) (us++[]):=r.append .nil;have hl:(us++[]).length=ps.length:=by rw[<-r2.length];exact F.len _ _ _ _ h
 refine oO (mO (F.run X.A X.stack s H ⟨us,[]⟩ (us++[]) (vs++[]) Q E c I.env0 (hb s us I.kIn hl) r2 h) λr s' hq=>?_);cases r with
 |error e=>exact hx Z9 σ H s e s' I hq
 |ok fl=>
  cases fl with
  |ret u=>exact I.after hq
  |next=>exact bZ hq
  |brk=>exact bZ hq
  |cont=>exact bZ hq
theorem qc7{k:Nat}{p pos:Pos}(F:FnQ X.prog X.w X.K X.mg X.base CX k f fd ps (spD C.K C.cv ms mr G))(c:RoomQ k X.A)(hg:Gl X x)(m:X.mg x=lm (.ref f))(g:nV X.K (.ref f)=lv)(hb:Binds X.K fd ps [])(hx:jJ CX X C.E)(n:PA X (e::es) (tAr C own as fr))(a:ms=as.map yB:=by rfl)(hs:∀i∈qS as,i∈own:=by decide)(nd:(qS as).Nodup:=by decide)(j:frA as<=1:=by decide)(o:∀i∈C.ox,i∈own:=by exact jK rfl)(b:Dbg x:=by decide)(he:lz (e::es) X.env='j'::lz es X.env:=by exact qV rfl)(l:(lM pos (lz es X.env)).any (·.1)=false:=by exact vx rfl):PE X (.Call (.Name x p) (e::es) [] pos) (tE C own mr (qt as G fr)):=by
 subst a;refine⟨?_⟩;intro Z9 s σ H Q I h;refine mh (yd I hg m ?_ b);refine fF (h₀:=X.base) I.ok.mod.kin g (thn (n pos Z9 s σ H _ I (Ug o hs nd j h)) λus s1 ⟨vs,H1,d,r,q⟩=>⟨d.kIn,?_⟩) he l;exact qfP F c hb hx d r q
end
def qas(P:lC)(w:lD)(K:Y9)(mg:Str->Option lu)(base:Z5)(cv:Str->lu)(k:Nat)(x:Str)(ps:List Str)(ms:List PM)(mr:Mo)(G:jy):Prop:=
 ∃f fd,FnOk P w K mg base (CXk P w mg) k f fd ps (spD K cv ms mr G)/\mg x=lm (.ref f)/\nV K (.ref f)=lv/\Binds K fd ps []
def qkL(P:lC)(w:lD)(K:Y9)(mg:Str->Option lu)(base:Z5)(cv:Str->lu)(k:Nat)(x:Str)(ps:List Str)(ms:List PM)(mr:Mo)(G:jy):Prop:=
 ∃f fd,FnQ P w K mg base (CXk P w mg) k f fd ps (spD K cv ms mr G)/\mg x=lm (.ref f)/\nV K (.ref f)=lv/\Binds K fd ps []
def qiz(K:Y9)(mg:Str->Option lu)(x:Str)(st:Z3)(ps:List Str):Prop:=∃f fd,Fun K x x st f fd/\mg x=lm (.ref f)/\Binds K fd ps []
theorem qat{P:lC}{w:lD}{base:Z5}{cv:Str->lu}{k:Nat}{ms:List PM}{mr:Mo}{own':List Nat}{fb:qM}(T:qiz K mg x st ps)(S:FnScope N ps (qB st))(a:∀(cdv:lu)(f:Z7)(A:lG)(outer:List Env)(s:lx)(H:Hp)(E:XK),Room k (A.deeper (mj x (qB st) s.heap.objs.size f cdv)) ->PSs (cxk P w K mg base N x (qB st) f cdv A outer s H E) (jZ st) (tSt (qc0 K cv E ms mr) (jM 0 ms) own' fb))(hl:ms.length=ps.length:=by rfl)(g:∀i∈KW 0 ms,i∈own':=by exact jK rfl)(hmr:mr=.sh\/∀ds ρ,(fb (qr N ds))≠.ok (.nx,ρ):=by exact .inl rfl):qas P w K mg base cv (k+1) x ps ms mr (jI N ms fb):=by
 obtain⟨f,fd,F,h,hb⟩:=T;exact⟨f,fd,qjK F S hl g hmr (λcdv A outer s H E c=>a cdv f A outer s H E c) λ_=>.inr rfl,h,F.kp,hb⟩
theorem qkM{P:lC}{w:lD}{base:Z5}{cv:Str->lu}{k:Nat}{ms:List PM}{mr:Mo}{own':List Nat}{fb:qM}(T:qiz K mg x st ps)(S:FnScope N ps (qB st))(a:∀(cdv:lu)(f:Z7)(A:lG)(outer:List Env)(s:lx)(H:Hp)(E:XK),RoomQ k (A.deeper (mj x (qB st) s.heap.objs.size f cdv)) ->PSs (cxQ (CXk P w mg) P w K mg base N x (qB st) f cdv A outer s H E) (jZ st) (tSt (qc0 K cv E ms mr) (jM 0 ms) own' fb))(hl:ms.length=ps.length:=by rfl)(g:∀i∈KW 0 ms,i∈own':=by exact jK rfl)(hmr:mr=.sh\/∀ds ρ,(fb (qr N ds))≠.ok (.nx,ρ):=by exact .inl rfl):qkL P w K mg base cv (k+1) x ps ms mr (jI N ms fb):=by
 obtain⟨f,fd,F,h,hb⟩:=T;exact⟨f,fd,qkK F S hl g hmr (λcdv A outer s H E c=>a cdv f A outer s H E c) λ_=>.inr rfl,h,F.kp,hb⟩
section
variable{G:jy}{fr:vV}{p:Pos}{k j:Nat}{cv:Str->lu}
theorem ja(F:qas X.prog X.w X.K X.mg X.base cv j x ps ms mr G)(c:Room k X.A)(D:j<=k)(hx:jJ (CXk X.prog X.w X.mg) X C.E)(hg:Gl X x)(g:PA X (e::es) (tAr C own as fr))(v:C.cv=cv:=by rfl)(h:C.K=X.K:=by rfl)(s:ms=as.map yB:=by rfl)(hs:∀i∈qS as,i∈own:=by decide)(nd:(qS as).Nodup:=by decide)(d:frA as<=1:=by decide)(o:∀i∈C.ox,i∈own:=by exact jK rfl)(b:Dbg x:=by decide)(he:lz (e::es) X.env='j'::lz es X.env:=by exact qV rfl)(l:(lM pos (lz es X.env)).any (·.1)=false:=by exact vx rfl):PE X (.Call (.Name x p) (e::es) [] pos) (tE C own mr (qt as G fr)):=by
 subst v;obtain⟨f,fd,F,m,a,hb⟩:=F;rw[<-h]at F;exact qfE (by rw[<-h];exact F) (c.mono D) hg m a hb hx g s hs nd d o b he l
theorem qau(F:qkL X.prog X.w X.K X.mg X.base cv j x ps ms mr G)(c:RoomQ j X.A)(hx:jJ (CXk X.prog X.w X.mg) X C.E)(hg:Gl X x)(d:PA X (e::es) (tAr C own as fr))(v:C.cv=cv:=by rfl)(h:C.K=X.K:=by rfl)(s:ms=as.map yB:=by rfl)(hs:∀i∈qS as,i∈own:=by decide)(nd:(qS as).Nodup:=by decide)(a:frA as<=1:=by decide)(o:∀i∈C.ox,i∈own:=by exact jK rfl)(b:Dbg x:=by decide)(he:lz (e::es) X.env='j'::lz es X.env:=by exact qV rfl)(l:(lM pos (lz es X.env)).any (·.1)=false:=by exact vx rfl):PE X (.Call (.Name x p) (e::es) [] pos) (tE C own mr (qt as G fr)):=by
 subst v;obtain⟨f,fd,F,m,k,hb⟩:=F;rw[<-h]at F;exact qc7 (by rw[<-h];exact F) c hg m k hb hx d s hs nd a o b he l
noncomputable def qfQ:D->Out D
 |.int i=>.ok (.int (-i))
 |_=>.bad
theorem qav:UnD X C .sh (unaryOp .USub) qfQ:=by
 intro Z9 s σ H x v Q I d h;obtain⟨F,dx,b,t,po⟩:=h;cases dx <;> try exact po.elim
 obtain rfl:=t.int;exact qh0 Z9 s σ H _ v Q I d ⟨_,rfl,po _ F H b .refl (.int _)⟩
end
noncomputable def zr:Option (Option D)->Bool
 |some (lm (.lst _))=>lv
 |_=>lw
def Qu(i:Nat)(g:List D->D->Out (List D))(fe:qW):qW:=λρ=>if zr ρ[i]?=lv then(fe ρ).bind λp=>match p.2[i]? with
 |some (lm (.lst xs))=>match g xs p.1 with
  |.ok ys=>.ok (.non,p.2.set i (lm (.lst ys)))
  |_=>.bad
 |_=>.bad
 else .bad
noncomputable def YG(xs:List D)(d:D):Out (List D):=if xs.length<Z8 then .ok (xs++[d])else .bad
noncomputable def qej(xs:List D):D->Out (List D)
 |.lst ys=>if xs.length+ys.length<=Z8 then .ok (xs++ys)else .bad
 |.tup ys=>if xs.length+ys.length<=Z8 then .ok (xs++ys)else .bad
 |_=>.bad
section
variable{fe:qW}
theorem Rep.write(r:Rep K own F H σ ρ)(hi:i∈own)(f:σ[i]?=lm (lm (V.ref a)))(ow:OwnIs K F (upd H a u) a d):Rep K own F (upd H a u) σ (ρ.set i (lm d))/\Chg (OA own σ) F H F (upd H a u):=by
 obtain⟨A,h⟩:=r.opn i hi;obtain⟨l,e1,g,k⟩:=r.ow i A hi h;rw[f]at e1;cases e1;have hl:i < ρ.length:=(aE.mp h).1;refine⟨⟨λb o e=>by rw[qw (qE e g)];exact r.sub b o e,by simp[r.len],λj d' D e=>?_,λj d' D e=>?_,λj D=>?_,r.dis⟩,⟨λb o e n=>?_,λb e=>?_,Same.refl _,λb e=>.inl e⟩⟩;·rw[aA (λz=>D (by rw[<-z];exact hi))]at e;exact r.val j d' D e
 .by_cases q:j=i;·subst q;rw[aL hl]at e;cases e;exact⟨a,f,g,ow⟩
  .rw[aA (bj q)]at e;obtain⟨b,h1,h2,c⟩:=r.ow j d' D e;have x:b≠a:=λz=>by subst z;exact q (r.dis j i b D hi h1 f)
   exact⟨b,h1,h2,c.grow (Same.refl _) λo z=>by rw[qw x];exact z⟩
 .by_cases q:j=i;·subst q;exact⟨d,aL hl⟩
  .rw[aA (bj q)];exact r.opn j D
 .have x:b≠a:=λz=>n (by rw[z];exact⟨i,hi,f⟩);rw[qw x];exact e
 .by_cases q:b=a;·rw[q,qm];simp
  .rw[qw q];exact e
theorem YH{o:Option (Option D)}(h:zr o=lv):∃xs,o=lm (lm (.lst xs)):=by
 unfold zr at h;split at h;·exact⟨_,rfl⟩
 .cases h
theorem YI{g:List D->D->Out (List D)}{R:V->V->Hp->VK->Prop}{σ:St}{H:Hp}{Q:VK}(l:i∈own)(w:m≠.any)(j:∀(a:Z7)(xs:List V)(ds ys:List D)(v:V)(d:D)(F H:Hp),Same F H->H a=lm (.lst xs)->F a=lr->IsL C.K F xs ds->Is C.K F v d->g ds d=.ok ys->(∀zs,IsL C.K F zs ys->Q .non (upd H a (.lst zs)))->R (.ref a) v H Q)(h:tE C own .sh (Qu i g fe) σ H Q):∃a xs,σ[i]?=lm (lm (V.ref a))/\H a=lm (.lst xs)/\tE C own .sh fe σ H λv H1=>R (.ref a) v H1 Q:=by
 obtain⟨F,ρ,p,h⟩:=h;unfold Qu at h;by_cases q:zr ρ[i]?=lv
 ·rw [Aa q]at h;obtain⟨ds,hd⟩:=YH q;obtain⟨a,h1,h2,xs,k,x⟩:=p.ow i _ l hd;refine⟨a,xs,h1,k,F,ρ,p,Po.bind h λv F1 H1 d ρ1 r c1 f po=>?_⟩;cases b:ρ1[i]? with
  |none=>simp only[b]at po;exact po.elim
  | some o=>
   cases o with
   |none=>simp only[b]at po;exact po.elim
   | some dd=>
    simp only[b]at po;cases dd with
    |lst es=>
     simp only at po;cases e:g es d with
     |ok ys=>simp only[e]at po;obtain⟨y,e1,t,vs,s,n⟩:=r.ow i _ l b;rw[h1]at e1;cases e1;refine j a vs es ys v d F1 H1 r.sub s t n f e λzs z=>?_;obtain⟨r2,c2⟩:=r.write (u:=.lst zs) (d:=.lst ys) l h1 ⟨zs,qm,z⟩;exact po .non F1 _ r2 c2 .non
     |exc c o=>simp only[e]at po;exact po.elim
     |bad=>simp only[e]at po;exact po.elim
    |_=>exact po.elim
 .rw[Ab q]at h;exact h.elim
theorem yF{px apos cpos:Pos}(r:C.K=X.K)(p:X.N[i]?=lm x)(l:Vis X.env.scope x)(o:i∈own)(he:PE X e (tE C own m fe))(j:m≠.any:=by decide)(hd:Dbg x:=by decide)(f:Cdk x:=by decide)(c:lP (.Name x px) "append" X.env (Z0 (.Name x px) X.env)=Z0 (.Name x px) X.env:=by rfl)
  (w:((lM cpos (lz [e] X.env)).all (λx=>!x.1)&&(mz cpos (lT [] X.env)).all (λx=>x.1.isSome)
   && decide 'r')=true:=by exact vy rfl)
  (b:(apos.endLine == cpos.line)=true:=by rfl) (hs:lz [e] X.env=['j']:=by exact qF rfl) :
  PE X (.Call (.Attribute (.Name x px) "append" apos) [e] [] cpos) (tE C own .sh (Qu i YG fe)):=by
 refine jp (WZ cP PySem.F.slot_list_append PySem.F.type_list_append Vj (wG p l hd f) (qI (yx he j) jq hs) c w b hs rfl) λσ H Q h=>?_;have n:∀(a:Z7)(xs:List V)(ds ys:List D)(v:V)(d:D)(F H:Hp),Same F H->H a=lm (.lst xs)->F a=lr->IsL C.K F xs ds->Is C.K F v d->YG ds d=.ok ys->(∀zs,IsL C.K F zs ys->Q .non (upd H a (.lst zs)))->Ua (.ref a) [v] H Q:=λa xs ds ys v d F H t q s ix B g k=>by
  unfold YG at g;split at g;·cases g;exact⟨a,xs,v,rfl,rfl,q,by rw[ix.length];assumption,k _ (ix.append (.cons B .nil))⟩
  .cases g
 obtain⟨a,xs,h1,h2,k⟩:=YI (R:=λx v H Q=>Ua x [v] H Q) o j n h;exact⟨.ref a,h1,.inl ⟨rfl,xs,.inl (.inl h2)⟩,k⟩
theorem gh{px apos cpos:Pos}(G:X.N[i]?=lm x)(A:Vis X.env.scope x)(l:i∈own)(he:PE X e (tE C own .fr fe))(hd:Dbg x:=by decide)(j:Cdk x:=by decide)(f:lP (.Name x px) "extend" X.env (Z0 (.Name x px) X.env)=Z0 (.Name x px) X.env:=by rfl)
  (w:((lM cpos (lz [e] X.env)).all (λx=>!x.1)&&(mz cpos (lT [] X.env)).all (λx=>x.1.isSome)
   && decide 'r')=true:=by exact vy rfl)
  (c:(apos.endLine == cpos.line)=true:=by rfl) (hs:lz [e] X.env=['j']:=by exact qF rfl) :
  PE X (.Call (.Attribute (.Name x px) "extend" apos) [e] [] cpos) (tE C own .sh (Qu i qej fe)):=by
 refine jp (WZ cP PySem.F.slot_list_extend PySem.F.type_list_extend GD (wG G A hd j) (qI he jq hs) f w c hs rfl) λσ H Q t=>?_;obtain⟨F,ρ,p,h⟩:=t;unfold Qu at h;by_cases q:zr ρ[i]?=lv
 ·rw [Aa q]at h;obtain⟨ds,hd⟩:=YH q;obtain⟨a,h1,h2,xs,I,K⟩:=p.ow i _ l hd;refine⟨.ref a,h1,.inl ⟨rfl,xs,.inl (.inl I)⟩,F,ρ,p,Po.bind h λv F1 H1 d ρ1 r c1 m po=>?_⟩;obtain⟨b,rfl,E,B,k⟩:=m;cases g:ρ1[i]? with
  |none=>simp only[g]at po;exact po.elim
  | some o=>
   cases o with
   |none=>simp only[g]at po;exact po.elim
   | some dd=>
    simp only[g]at po;cases dd with
    | lst es=>
     simp only at po;obtain⟨M,e1,L,vs,J,s⟩:=r.ow i _ l g;rw[h1]at e1;cases e1;cases d with
     |lst ys=>
      obtain⟨zs,y,n⟩:=k;have po:Po C own .sh σ F1 H1 (match (if es.length+ys.length<=Z8 then .ok (es++ys)else .bad:Out (List D))with|.ok ys=>.ok (.non,ρ1.set i (lm (.lst ys)))|_=>.bad) Q:=po;by_cases z:es.length+ys.length<=Z8;·rw[Aa z]at po;refine⟨a,b,vs,zs,rfl,rfl,J,y,by rw[s.length,n.length];exact z,?_⟩;obtain⟨r2,c2⟩:=r.write (u:=.lst (vs++zs)) (d:=.lst (es++ys)) l h1 ⟨_,qm,s.append n⟩;exact po .non F1 _ r2 c2 .non
      .rw[Ab z]at po;exact po.elim
     |dct ys=>exact po.elim
     |ins _ _=>exact po.elim
     |at_ _ _=>exact po.elim
     |_=>exact k.elim
    |_=>exact po.elim
 .rw[Ab q]at h;exact h.elim
end
noncomputable def scB(names:List (Str×mE))(scope:mQ):Bool:=decide (scope.kind=.function)&&scope.names.all λy=>decide (y.2≠.cell)&&(!decide (y.2=.local)||decide (scope.names.lookup y.1=lm .local)) &&
 (!decide (y.2=.free)||((decide (names.lookup y.1=lm .cell)||decide (names.lookup y.1=lm .free))&&decide (scope.names.lookup y.1=lm .free)))
variable{names:List (Str×mE)}
theorem qiA(h:X.env.scope.names=names)(b:scB names scope=lv):ScOk X scope:=by
 subst h;unfold scB at b;rw[aO,aW]at b;obtain⟨O,i⟩:=b;refine⟨Ae O,λy B=>?_,λy B e=>?_,λy B e=>?_,λy B e=>?_⟩;all_goals
  have q:=i y B;simp only[aO,i4,d8,decide_eq_true_eq,decide_eq_false_iff_not]at q
 .exact q.1.1
 .exact q.1.2.resolve_left λz=>z e
 .exact(q.2.resolve_left λz=>z e).1
 .exact(q.2.resolve_left λz=>z e).2
noncomputable def qjM(names:List (Str×mE))(N:List Str)(scope:mQ)(c:List Str)(nt:Nat)(cap:List Nat):Bool:=decide cap.Nodup&&decide (c.length=nt+cap.length)&&(aB cap.length).all λj=>match cap[j]? with
 |some k=>match c[nt+j]? with
  |some x=>decide (N[k]?=lm x)&&(((decide (names.lookup x=lm .local)||decide (names.lookup x=lm .cell)||decide (names.lookup x=lm .free))&&decide ((x,bL)∈scope.names))||scope.names.all λy=>decide (y.1≠x))
  |none=>lw
 |none=>lw
theorem qek{c:List Str}(a:X.env.scope.names=names)(d:X.N=N)(b:qjM names N scope c nt cap=lv):CapOk X scope c nt cap:=by
 subst a d;unfold qjM at b;rw[aO,aO,aW]at b;obtain⟨⟨O,i⟩,w⟩:=b;refine⟨Ae O,Ae i,λj k D=>?_⟩;have q:=w j (aN.mpr (aE.mp D).1);rw[D]at q;cases e:c[nt+j]? with
 |none=>simp only[e]at q;cases q
 | some x=>
  simp only[e,aO,i4,decide_eq_true_eq]at q;refine⟨x,rfl,q.1,?_⟩;rcases q.2 with⟨z,q2⟩|z
  .refine .inl ⟨?_,q2⟩;rcases z with(z|z)|z;·exact .inl z
   .exact .inr (.inl z)
   .exact .inr (.inr z)
  .refine .inr λk' h=>?_;rw[aW]at z;exact Ae (z (x,k') h) rfl
theorem yg:jJ (CXk P w mg) X (λ_ _ _=>False):=λ_ _ _ _ _ _ _ h=>by obtain⟨_,_,_,_,_,_,_,_,_,_,_,_,_,_,j⟩:=h;exact j.elim
def qkN(f:qW):qW:=λρ=>(qK f ρ).bind λp=>.ok (.bl (!p.1),p.2)
section
variable{i:Int}
theorem kq(h:∃t,X.mg x=lm (.int i t))(hg:Gl X x)(hd:Dbg x:=by decide):PE X (.Name x pos) (tE C own .sh (dC (.int i))):=by obtain⟨t,h⟩:=h;exact qfs (v:=.int i) hg h ⟨t,rfl⟩ (λ_=>.int i) hd
end
variable{us:List lu}
section
variable{a b:Z4}{f fa fb:qW}
noncomputable def wJ:D->Out D
 |.lst xs=>.ok (.tup xs)
 |.tup xs=>.ok (.tup xs)
 |_=>.bad
noncomputable def Um:D->Out D
 |.lst xs=>.ok (.lst xs)
 |.tup xs=>.ok (.lst xs)
 |_=>.bad
theorem zG(d:C.K=X.K):xu X C .sh (.type "tuple") wJ:=by
 intro Z9 s σ H xs us Q I r h;obtain⟨x,F,dx,rfl,b,a,po⟩:=h;cases dx with
 |lst ds=>obtain⟨p,vs,rfl,hq,t⟩:=a.lst b;refine yv Z9 s σ H _ us Q I r ⟨p,vs,rfl,.inl ⟨by rw[<-d];exact hq,λl hl=>?_⟩⟩;obtain⟨s2,c2⟩:=wm (u:=.tup vs) b hl;exact po _ _ _ s2 c2 (.tup (.inl (.inl qm)) (t.mono c2.grow))
 | tup ds=>
  rcases a with a|⟨_,_,a⟩
  .have c:=a;cases a with
   |tup hq t=>exact yv Z9 s σ H _ us Q I r ⟨_,_,rfl,.inr ⟨by rw[<-d];exact qY b hq,po _ F H b .refl c⟩⟩
  .exact a.elim
 |_=>exact po.elim
theorem Uo(c:C.K=X.K):xu X C .fr (.type "list") Um:=by
 intro Z9 s σ H xs us Q I r h;obtain⟨x,F,dx,rfl,b,a,po⟩:=h;cases dx with
 |lst ds=>obtain⟨p,vs,rfl,hq,t⟩:=a.lst b;refine xI Z9 s σ H _ us Q I r ⟨p,vs,rfl,.inl (by rw[<-c];exact hq),λl hl=>?_⟩;obtain⟨s2,c2,g⟩:=ke (u:=.lst vs) b hl;exact po _ _ _ s2 c2 ⟨l,rfl,hl,g,vs,qm,t⟩
 |tup ds=>obtain⟨p,vs,rfl,hq,t⟩:=a.tup b;refine xI Z9 s σ H _ us Q I r ⟨p,vs,rfl,.inr (by rw[<-c];exact hq),λl hl=>?_⟩;obtain⟨s2,c2,g⟩:=ke (u:=.lst vs) b hl;exact po _ _ _ s2 c2 ⟨l,rfl,hl,g,vs,qm,t⟩
 |_=>exact po.elim
def qaw(X:Cx)(C:Ct)(m:Mo)(f:lu)(g:D->D->Out D):Prop:=vR X f (λxs H Q=>∃x y F dx d,xs=[x,y]/\Same F H/\TopIs C.K F H x dx/\TopIs C.K F H y d/\PoV C m F H (g dx d) Q)
theorem qc8{Q:VK}(k:ma≠.any)(h:tE C own m (d2 g fa fb) σ H Q):Zj 'p' (Zj (tE C own mb fb) qh5) σ H λxs H1=>∃x y F dx a,xs=[x,y]/\Same F H1/\TopIs C.K F H1 x dx/\TopIs C.K F H1 y a/\PoV C m F H1 (g dx a) Q:=by
 obtain⟨F,ρ,n,h⟩:=Vm (mb:=mb) k h;refine⟨F,ρ,n,?_⟩;cases q:fa ρ with
 |ok p=>
  rw[q]at h;obtain⟨d,ρ1⟩:=p;intro v F1 H1 e c1 j;obtain⟨s,ρ2,b,h2⟩:=h v F1 H1 e c1 j;refine⟨s,ρ2,b,?_⟩;cases f:fb ρ2 with
  |ok p=>rw[f]at h2;obtain⟨d',l⟩:=p;intro w u o r I i;obtain⟨L,dx,a,z⟩:=h2 w u o r I i;exact⟨v,w,L,dx,a,rfl,z⟩
  |exc c=>rw[f]at h2;exact h2
  |bad=>rw[f]at h2;exact h2.elim
 |exc c=>rw[q]at h;exact h
 |bad=>rw[q]at h;exact h.elim
theorem Vx{id:String}{p:Pos}(e:qaw X C m (.builtin id) g)(hg:Gl X x)(d:X.mg x=lr)(v:lB x=lm (.builtin id))(i:PE X a 'p')(hb:PE X b (tE C own mb fb))(f:ma≠.any:=by decide)(n:x ≠ "__name__":=by decide)(c:Dbg x:=by decide)(h1:lz [a,b] X.env=(lw,Z0 a X.env)::lz [b] X.env:=by rfl)(h2:lz [b] X.env=[(lw,Z0 b X.env)]:=by exact qF rfl):PE X (.Call (.Name x p) [a,b] [] pos) (tE C own m (d2 g fa fb)):=
 jp (vw e hg d v (qI i (qI hb jq h2) h1) n c (by rw[h1]) (by rw[h2];rfl)) λ_ _ _ h=>qc8 f h
def qjN:D->D->Out D:=KU λi j=>.ok (.int (if j > i then j else i))
def qjO:D->D->Out D:=KU λi j=>.ok (.int (if j<i then j else i))
theorem qiB(d:X.calm=lv):qaw X C .sh (.builtin "max") qjN:=by
 intro Z9 s σ H xs us Q I r h;obtain⟨x,y,F,dx,a,rfl,b,t,ty,po⟩:=h;cases dx <;> try exact po.elim
 cases a <;> try exact po.elim
 obtain rfl:=t.int;obtain rfl:=ty.int;exact Gx d Z9 s σ H _ us Q I r ⟨_,_,rfl,po _ F H b .refl (.int _)⟩
theorem qiC(d:X.calm=lv):qaw X C .sh (.builtin "min") qjO:=by
 intro Z9 s σ H xs us Q I r h;obtain⟨x,y,F,dx,a,rfl,b,t,ty,po⟩:=h;cases dx <;> try exact po.elim
 cases a <;> try exact po.elim
 obtain rfl:=t.int;obtain rfl:=ty.int;exact Gy d Z9 s σ H _ us Q I r ⟨_,_,rfl,po _ F H b .refl (.int _)⟩
noncomputable def Uq(a T:String):Option Bool:=if (hJ a == hJ T)=lv then lm lv else if PySem.W.kitMeta T=lv then(fastBuiltinMro a).map (·.contains (.type T))else lr
theorem qc9(K:Y9)(a T:String):c6 K (.type a) (.type T)=Uq a T:=rfl
noncomputable def tyN:D->Option String
 |.non=>lm "NoneType"
 |.bl _=>lm "bool"
 |.int _=>lm "int"
 |.str _=>lm "str"
 |.tup _=>lm "tuple"
 |.lst _=>lm "list"
 |.dct _=>lm "dict"
 |_=>lr
def xL(T:String)(d:D):Out D:=match tyN d with
 |some a=>match Uq a T with
  |some b=>.ok (.bl b)
  |none=>.bad
 |none=>.bad
theorem qda(l:C.K=X.K):vR X (.builtin "isinstance") (λxs H Q=>∃x F d,xs=[x,.ty T]/\Same F H/\TopIs C.K F H x d/\PoV C .sh F H (xL T d) Q):=by
 intro Z9 s σ H xs us Q I r h;obtain⟨x,F,d,rfl,i,f,po⟩:=h;obtain⟨u,c,rfl,g,k⟩:=qcE r;cases k;cases q:tyN d with
 |none=>unfold xL at po;rw[q]at po;exact po.elim
 | some a=>
  cases j:Uq a T with
  |none=>unfold xL at po;rw[q]at po;simp only[j]at po;exact po.elim
  | some b=>
   have po:PoV C .sh F H (.ok (.bl b)) Q:=by unfold xL at po;rw[q]at po;simp only[j]at po;exact po
   have fin:∀tk,EP X Z9 σ Q (.bool b) { s with toks:=tk }:=λtk=>⟨.bl b,H,I.tok tk,rfl,po _ F H i .refl (.bl b)⟩
   have e:c6 X.K (.type a) (.type T)=lm b:=(qc9 X.K a T).trans j;cases d with
   |non=>obtain rfl:=f.non;cases g;cases q;exact dq PySem.W.kitx_none I.kIn dO e (λz=>nomatch z) fin
   |bl y=>obtain rfl:=f.bl;cases g;cases q;exact dq PySem.W.kitx_bool I.kIn dO e (λz=>nomatch z) fin
   |int y=>obtain rfl:=f.int;obtain⟨t,rfl⟩:=g;cases q;exact dq PySem.W.kitx_int I.kIn dO e (λz=>nomatch z) fin
   |str y=>obtain⟨rfl,_⟩:=f.str;obtain⟨t,rfl⟩:=g;cases q;exact dq PySem.W.kitx_str I.kIn dO e (λz=>nomatch z) fin
   |tup y=>obtain⟨p,vs,rfl,hq,t⟩:=f.tup i;cases g;cases q;obtain⟨its,_,⟨o,h1,h2,_⟩,_⟩:=I.tuple (show SqT X.K H p vs by rw[<-l];exact hq);exact dq PySem.W.kitx_tuple I.kIn ⟨o,h1,h2⟩ e (λz=>nomatch z) fin
   |lst y=>obtain⟨p,vs,rfl,hq,t⟩:=f.lst i;cases g;cases q;obtain⟨its,_,⟨o,n,h1,h2,_⟩,_⟩:=I.list (show SqL X.K H p vs by rw[<-l];exact hq);exact dq PySem.W.kitx_list I.kIn ⟨o,h1,h2⟩ e (λz=>nomatch z) fin
   |dct y=>
    obtain⟨p,vs,rfl,hq,t⟩:=f.dct i;cases g;cases q;obtain⟨_,_,ws,_,o,es,ep,h1,h2,_⟩:=(show ObjOk X.prog X.w H s.heap p (.dK vs)from I.hok p _ hq)
    exact dq PySem.W.kitx_dict I.kIn ⟨o,h1,h2.1⟩ e (λz=>nomatch z) fin
   |_=>cases q
theorem yG{tn:Str}{p t:Pos}(l:C.K=X.K)(hg:Gl X "isinstance")(j:X.mg "isinstance"=lr)(i:lB "isinstance"=lm (.builtin "isinstance"))(ht:Gl X tn)(e:X.mg tn=lr)(b:lB tn=lm (.type T))(k:PE X a 'p')(n:tn ≠ "__name__":=by decide)(f:Dbg tn:=by decide)(h1:lz [a,.Name tn t] X.env=(lw,Z0 a X.env)::lz [.Name tn t] X.env:=by rfl)(h2:lz [.Name tn t] X.env=[(lw,Z0 (.Name tn t) X.env)]:=by rfl):PE X (.Call (.Name "isinstance" p) [a,.Name tn t] [] pos) (tE C own .sh (d1 (xL T) fa)):=by
 refine jp (vw (qda (T:=T) l) hg j i (qI k (qI (Gn (v:=.ty T) ht e b rfl n f) jq h2) h1) 'e' 'e' (by rw[h1]) (by rw[h2];rfl)) λσ H Q h=>?_;obtain⟨F,ρ,g,h⟩:=JM (ma:=ma) h;refine⟨F,ρ,g,?_⟩;cases q:fa ρ with
 |ok p=>rw[q]at h;obtain⟨d,ρ1⟩:=p;intro v F1 H1 r c1 m;obtain⟨o,dx,z⟩:=h v F1 H1 r c1 m;exact⟨v,o,dx,rfl,z⟩
 |exc c=>rw[q]at h;exact h
 |bad=>rw[q]at h;exact h.elim
noncomputable def vX:List D->Option (List Bool)
 |[]=>lm []
 |.bl b::ds=>(vX ds).map (b::·)
 |_::_=>lr
def YJ:D->Out D
 |.lst ds=>match vX ds with
  |some bs=>.ok (.bl (bs.all id))
  |none=>.bad
 |_=>.bad
theorem JT{bs:List Bool}(a:IsL K F vs ds)(l:Vals vs us)(e:vX ds=lm bs):us=bs.map bi:=by
 induction ds generalizing vs us bs with
 |nil=>cases a;cases l;cases e;rfl
 | cons d ds j=>
  cases a with
  | cons i a=>
   cases l with
   |cons r l=>
    cases d with
    |bl b=>obtain⟨c,e1,rfl⟩:=aS.mp (show(vX ds).map (b::·)=lm bs from e);cases i;cases r;rw[j a l e1];rfl
    |_=>cases e
set_option tactic.hygienic true in
theorem gi(m:C.K=X.K)(k:X.calm=lv):xu X C .sh (.builtin "all") YJ:=by
 intro Z9 s σ H xs us Q I r h;obtain⟨x,F,dx,rfl,d,f,po⟩:=h;cases dx <;> try exact po.elim
 rename_i ds;obtain⟨p,vs,rfl,hq,t⟩:=f.lst d;obtain⟨u,rfl,y⟩:=wl r;cases y;unfold YJ at po;cases q:vX ds with
 |none=>simp only[q]at po;exact po.elim
 | some bs=>
  simp only[q]at po;obtain⟨its,g,pl,z⟩:=I.list (show SqL X.K H p vs by rw[<-m];exact hq);have D:=JT t g q;subst D;have hp:p<s.heap.objs.size:=let ⟨o,h1,_⟩:=pl.isList;ax h1;refine call_all_walk (ng pl.isList ?_);have W:Walks X.prog X.w X.A.in1 s.heap.objs.size [s.heap.objs.size,p] [s.heap.objs.size] (bs.map bi).toArray.size (λi v=>(bs.map bi).toArray[i]?=lm v) (λi h=>h.IsListIter s.heap.objs.size p i/\h.IsList p (bs.map bi).toArray):=lj (A:=X.A.in1) (show X.A.in1.handled=lr from I.ok.hd k) s.heap.objs.size p (aD hp) _;have st:(s.heap.push { cls:=.type "list_iterator",data:=.fields #[.ref p,.int 0 0] }).IsListIter s.heap.objs.size p 0/\(s.heap.push { cls:=.type "list_iterator",data:=.fields #[.ref p,.int 0 0] }).IsList p (bs.map bi).toArray:=⟨⟨_,ap _ rfl,rfl,rfl⟩,let ⟨o,h1,h2⟩:=pl.isList; ⟨o,ac _ h1,h2⟩⟩
  refine⟨_,_,_,_,_,_,λi=>(bs[i]?).getD lw,rfl,W,st,λi v s' n E j c=>?_,λh' tk kp=>?_⟩
  .have j:(bs.map bi).toArray[i]?=lm v:=j;rw[c9,aJ]at j;cases l:bs[i]? with
   |none=>rw[l]at j;cases j
   |some b=>have a:n ((bs[i]?).getD lw) s':=c;rw[l]at j a;cases j;exact lZ a
  .have e:(aB (bs.map bi).toArray.size).all (λi=>(bs[i]?).getD lw)=bs.all id:=by
    rw[au,aq,Bool.eq_iff_iff,aW,aW];constructor;·intro h b hb;obtain⟨i,hi,e⟩:=et.mp hb;have:=h i (aN.mpr hi);rw[aG hi,e]at this;exact this
    .intro h i hi;have hi:=aN.mp hi;rw[aG hi];exact h _ (cF hi)
   rw[e];refine⟨.bl (bs.all id),H,?_,rfl,po _ F H d .refl (.bl _)⟩;have k2:∀b o,s.heap.get? b=lm o->h'.get? b=lm o:=λb o D=>kp b o (by simp;exact aD (ax D)) (ac _ D);exact I.kept (t':=tk) k2
end
noncomputable def vY(idx:List Nat)(xs:List α):List α:=idx.filterMap λk=>xs[k]?
theorem IsL.pick(h:IsL K F vs ds):∀(idx:List Nat),IsL K F (vY idx vs) (vY idx ds)
 |[]=>.nil
 |k::idx=>by
  unfold vY;rw[br,br];cases e:vs[k]? with
  |none=>have a:ds[k]?=none:=cz.mpr (by rw[<-h.length];exact cz.mp e);rw[a];exact IsL.pick h idx
  |some v=>obtain⟨d,a,i⟩:=h.get e;rw[a];exact .cons i (IsL.pick h idx)
theorem gj(h:Vals vs us):∀(idx:List Nat),Vals (vY idx vs) (vY idx us)
 |[]=>.nil
 |k::idx=>by
  unfold vY;rw[br,br];cases e:vs[k]? with
  |none=>rw[h.none_of e];exact gj h idx
  |some v=>obtain⟨u,i,r⟩:=h.get e;rw[i];exact .cons r (gj h idx)
theorem qdb(xs:List α):vY (aB xs.length) xs=xs:=by unfold vY;have:=PySem.W.krv_all xs.toArray;simpa using this
noncomputable def Vy(n:Nat)(lo hi:Option Int)(st:Int):List Nat:=(aB (ff (bJ lo hi st n).1 (bJ lo hi st n).2 st)).map λ(k:Nat)=>((bJ lo hi st n).1+(k:Int) * st).toNat
noncomputable def vz(x:Str)(lo hi:Option Int)(st:Int):Str:=if (st == 1&&(bF lo hi st x.length).length == x.length)=lv then x else⟨((bF lo hi st x.length).filterMap (x.cps[·]?)).toArray⟩
def slD(lo hi st:Option Int):D->Out D
 |.tup xs=>if st.getD 1≠0/\(vY (Vy xs.length lo hi (st.getD 1)) xs).length<=Z8 then .ok (.tup (vY (Vy xs.length lo hi (st.getD 1)) xs))else .bad
 |.str x=>if st.getD 1≠0/\(vz x lo hi (st.getD 1)).length<=Z8 then .ok (.str (vz x lo hi (st.getD 1)))else .bad
 |_=>.bad
def qlF(X:Cx)(r:V->Option Int->Option Int->Option Int->Hp->VK->Prop):Prop:=
 ∀(Z9:Pns)(s:lx)(σ:St)(H:Hp)(x:V)(v vl u k:lu)(lo hi st:Option Int)(sl:Z7)(Q:VK),Inv X Z9 σ H s->RelV x v->s.heap.IsSliceOf sl vl u k->nz vl lo->nz u hi->nz k st->r x lo hi st H Q ->∃T id,oP (.type T) "__getitem__"=pure (lm (.builtin id))/\s.TypeIs v T/\lA 'c' X.A (oF v (.ref sl)) (EP X Z9 σ Q) X.xe s
section
variable{prog:lC}
theorem QA{sl:Z7}{vl u k:lu}{lo hi st:Option Int}{n:Nat}{Q:Int×Int×Nat->lx->Prop}(hs:s.heap.IsSliceOf sl vl u k)(pl:nz vl lo)(p:nz u hi)(c:nz k st)(e:st.getD 1≠0)(h:Q ((bJ lo hi (st.getD 1) n).1,st.getD 1,ff (bJ lo hi (st.getD 1) n).1 (bJ lo hi (st.getD 1) n).2 (st.getD 1)) s):lA 'd' A (Builtin.Slice.sliceApplied (.ref sl) (pure (n:Int))) Q E s:=by
 obtain⟨os,a,d,b⟩:=id hs;unfold Builtin.Slice.sliceApplied Builtin.Slice.sliceFields;refine lq (lq (lU a b (x:=vl) rfl (lq (lU a b (x:=u) rfl (lq (lU a b (x:=k) rfl (ly ?_)))))));refine lq (HT.slicePart_ c ?_);show lA _ _ (if (st.getD 1 == 0)=lv then _ else _) _ _ s;rw[Ab (by simpa using e)];refine lq (HT.slicePart_ pl (lq (HT.slicePart_ p (lq (ly ?_)))));exact ly h
theorem gk{t sl:Z7}{items:Array lu}{vl u v:lu}{lo hi st:Option Int}{Q:lu->lx->Prop}(ht:IsTup s.heap t items)(hs:s.heap.IsSliceOf sl vl u v)(pl:nz vl lo)(p:nz u hi)(j:nz v st)(o:st.getD 1≠0)(hw:Vy items.size lo hi (st.getD 1)=aB items.size->Q (.ref t) s)(h:Q 'k' { s with heap:=s.heap.push { cls:=.type "tuple",data:=.seq (vY (Vy items.size lo hi (st.getD 1)) items.toList).toArray } })(hsz:(vY (Vy items.size lo hi (st.getD 1)) items.toList).length<=Z8):lA 'd' A (oF (.ref t) (.ref sl)) Q E s:=by
 obtain⟨os,b,d,l⟩:=id hs;have f:s.TypeIs (.ref sl) "slice":=⟨os,b,d⟩
 unfold oF;try with_reducible refine lH ?_
 first|refine lq (ly ?_)|skip
 refine lq (wpAny_sequenceKey ht.typeIs 'e' ?_);refine lq (lQ (name:=aa "__getitem__") ht.typeIs dD
  (lL dD ht.typeIs entry_tuple_getitem ?_ (args_tuple_getitem _ _)))
 show lA _ _ (Builtin.Tuple.tupleItemsOf (.ref t) >>= _) _ _ s;refine lq (tupleItemsOf_ ht ?_);refine lq (mH f ?_);rw[Aa 'e'];refine lq (QA hs pl p j o ?_);generalize hA:bJ lo hi (st.getD 1) items.size=A0;generalize N:ff A0.1 A0.2 (st.getD 1)=N0;have ep:vY (Vy items.size lo hi (st.getD 1)) items.toList=(aB N0).filterMap λ(k:Nat)=>items[(A0.1+(k:Int) * st.getD 1).toNat]?:=by unfold vY Vy;rw[hA,N,List.filterMap_map];congr 1;funext k;simp
 rw[ep]at h hsz;by_cases c:(A0.1 == 0&&st.getD 1 == 1&&N0 == items.size)=lv
 .have P:=c;rw[aO,aO]at P;have i:A0.1=0:=eq_of_beq P.1.1;have g:st.getD 1=1:=eq_of_beq P.1.2;have q:N0=items.size:=eq_of_beq P.2;have whole:Vy items.size lo hi (st.getD 1)=aB items.size:=by
   unfold Vy;rw[hA,N,i,g,q];have e:(λ(k:Nat)=>((0:Int)+(k:Int) * 1).toNat)=id:=by
    funext k;show((0:Int)+(k:Int) * 1).toNat=k
    lia
   rw[e,List.map_id]
  have n:=hw whole;show lA _ _ (if (A0.1 == 0&&st.getD 1 == 1&&N0 == items.size)=lv then _ else _) _ _ s;rw[Aa c];unfold Builtin.Tuple.tupleIsExact;refine lq (lq (mH ht.typeIs (ly ?_)));rw[Aa 'e'];exact lq (nE (ly ⟨_,rfl,ly n⟩))
 .show lA _ _ (if (A0.1 == 0&&st.getD 1 == 1&&N0 == items.size)=lv then _ else _) _ _ s;rw[Ab c];have a:sizeOk (.seq ((aB N0).filterMap λ(k:Nat)=>items[(A0.1+(k:Int) * st.getD 1).toNat]?).toArray):=by show(((aB N0).filterMap λ(k:Nat)=>items[(A0.1+(k:Int) * st.getD 1).toNat]?).toArray).size<=Z8;rw[au];exact hsz
  first
   |exact lq (m:=dB _) (lF (ly ⟨_,rfl,ly h⟩) a)
   |exact lq (m:=dB _) (lF (lq (ly (ly ⟨_,rfl,ly h⟩))) a)
   |exact lq (lq (m:=dB _) (lF (ly (ly ⟨_,rfl,ly h⟩)) a))
   |exact lq (lq (m:=dB _) (lF (ly ⟨_,rfl,ly h⟩) a))
end
def PoO(C:Ct)(own:List Nat)(σ:St)(F H:Hp)(r:Out (Option Int×Sl))(Q:Option Int->Hp->Prop):Prop:=match r with
 |.ok (b,ρ')=>∀F' H',Rep C.K own F' H' σ ρ'->Chg (OA own σ) F H F' H'->Q b H'
 |.exc c ρ'=>∀F' H',Same F' H'->Yo C.K C.ox F' H' σ ρ'->Chg (OA own σ) F H F' H'->C.E (C.cv c) lr H'
 |.bad=>False
def tO(C:Ct)(own:List Nat)(f:Sl->Out (Option Int×Sl)):TO:=λσ H Q=>∃F ρ,Rep C.K own F H σ ρ/\PoO C own σ F H (f ρ) Q
def wq:Option (qW)->Sl->Out (Option Int×Sl)
 |none,ρ=>.ok (lr,ρ)
 |some f,ρ=>(f ρ).bind λp=>match p.1 with
  |.int i=>.ok (lm i,p.2)
  |_=>.bad
theorem Po.bindO{o:Out (Option Int×Sl)}{k:Option Int×Sl->Vl}{Q:VK}{R:Option Int->Hp->Prop}(hp:Po C own m σ F H (o.bind k) Q)(h:∀F1 H1 b ρ1,Rep C.K own F1 H1 σ ρ1->Chg (OA own σ) F H F1 H1->Po C own m σ F1 H1 (k (b,ρ1)) Q->R b H1):PoO C own σ F H o R:=by
 cases o with
 |ok p=>obtain⟨d,ρ1⟩:=p;exact λF1 H1 a c=>h F1 H1 d ρ1 a c (Po.shift (show Po C own m σ F H (k (d,ρ1)) Q from hp) c)
 |exc x=>exact hp
 |bad=>exact hp.elim
def yH(fa:qW)(l u k:Option (qW)):qW:=λρ=>(fa ρ).bind λp=>(wq l p.2).bind λa=>(wq u a.2).bind λb=>(wq k b.2).bind λc=>(slD a.1 b.1 c.1 p.1).plain.bind λd=>.ok (d,c.2)
section
variable{a:Z4}{fa f:qW}{p2:Pos}
theorem kt:PO X lr (tO C own (wq lr)):=by rintro Z9 s σ H Q I ⟨F,ρ,a,h⟩;exact qfg Z9 s σ H Q I (h F H a .refl)
theorem wt(h:PE X e (tE C own m f)):PO X (lm e) (tO C own (wq (lm f))):=by
 rintro Z9 s σ H Q I ⟨F,ρ,r,hp⟩;refine qfh h Z9 s σ H Q I ⟨F,ρ,r,?_⟩;have hp:PoO C own σ F H ((f ρ).bind λp=>match p.1 with|.int i=>.ok (lm i,p.2)|_=>.bad) Q:=hp;cases q:f ρ with
 |ok p=>
  rw[q]at hp;obtain⟨d,ρ1⟩:=p;cases d with
  |int i=>exact λv F1 H1 a c1 b=>⟨i,b.top.int,hp F1 H1 a c1⟩
  |_=>exact hp.elim
 |exc c=>rw[q]at hp;exact hp
 |bad=>rw[q]at hp;exact hp.elim
theorem qax{r:V->Option Int->Option Int->Option Int->Hp->VK->Prop}{tl th tk:TO}{lo hi st:Option Z4}(y:qlF X r)(he:PE X e te)(hl:PO X lo tl)(t:PO X hi th)(B:PO X st tk):PE X (.Subscript e (.Slice lo hi st p2) pos) (λσ H Q=>te σ H λx H1=>tl σ H1 λl H2=>th σ H2 λu f=>tk σ f λk d=>r x l u k d Q):=by
 refine⟨?_⟩;intro Z9 s σ H Q I h;refine Subscript_ (thn (he Z9 s σ H _ I h) λv s1 z=>?_);obtain⟨x,H1,J,r1,n⟩:=z;refine wpAny_Slice (thn (hl Z9 s1 σ H1 _ J n) λvl s2 ⟨l,H2,E,pl,m⟩=>thn (t Z9 s2 σ H2 _ E m) λa s3 ⟨u,f,D,p,j⟩=>thn (B Z9 s3 σ f _ D j) λc s4 z=>?_);obtain⟨k,d,C,o,i⟩:=z;have G:Inv X Z9 σ d { s4 with heap:=s4.heap.push { cls:=.type "slice",data:=.fields #[vl,a,c] } }:=C.kept (t':=s4.toks) λb K q=>ac _ q;obtain⟨T,id,g,ht,hg⟩:=y Z9 { s4 with heap:=s4.heap.push { cls:=.type "slice",data:=.fields #[vl,a,c] } } σ d x v vl a c l u k s4.heap.objs.size Q G r1 (Heap.IsSliceOf.new ..) pl p o i;show lA 'c' X.A (subscriptTail e (.Slice lo hi st p2) v (.ref s4.heap.objs.size)) (EP X Z9 σ Q) X.xe { s4 with heap:=s4.heap.push { cls:=.type "slice",data:=.fields #[vl,a,c] } };cases st with
 |none=>exact oS (ops:=[.ref s4.heap.objs.size,v]) ht g hg (by with_unfolding_all rfl)
 |some st=>exact oS (ops:=[v,.ref s4.heap.objs.size]) ht g hg (by with_unfolding_all rfl)
theorem JU{v:lu}{o:Option Int}(h:nz v o):∃l:Option (Int×Tok),v=partValue l/\l.map (·.1)=o:=by
 cases h with
 |none=>exact⟨lr,rfl,rfl⟩
 |int i t=>exact⟨lm (i,t),rfl,rfl⟩
theorem qmm(D:C.K=X.K):qlF X (λx lo hi st H Q=>∃F d,Same F H/\Is C.K F x d/\PoV C .sh F H (slD lo hi st d) Q):=by
 intro Z9 s σ H x v vl G J lo hi st sl Q I m hs pl w y h;obtain⟨F,d,f,is,po⟩:=h;cases d with
 | tup ds=>
  have i:=is;cases is with
  | @tup a xs _ hq t=>
   cases m;have g:SqT X.K H a xs:=by rw[<-D];exact qY f hq
   obtain⟨its,r,ht,M⟩:=I.tuple g;have n:its.length=ds.length:=r.length.symm.trans t.length;have po:PoV C .sh F H (if st.getD 1≠0/\(vY (Vy ds.length lo hi (st.getD 1)) ds).length<=Z8 then .ok (.tup (vY (Vy ds.length lo hi (st.getD 1)) ds))else .bad) Q:=po;by_cases c:st.getD 1≠0/\(vY (Vy ds.length lo hi (st.getD 1)) ds).length<=Z8
   .rw[Aa c]at po;have B:=t.pick (Vy ds.length lo hi (st.getD 1));have p:=gj r (Vy ds.length lo hi (st.getD 1));refine⟨"tuple",_,dD.lookup,ht.typeIs,gk ht hs pl w y c.1 (λe=>?_) ?_ ?_⟩;·rw[au,n]at e;refine⟨.ref a,H,I,rfl,po _ F H f .refl ?_⟩;rw[e,qdb];exact i
    .simp only[au,n];have j:(vY (Vy ds.length lo hi (st.getD 1)) xs).length<=Z8:=by rw[B.length];exact c.2
     refine⟨.ref s.heap.objs.size,_,I.laid (t':=s.toks) (o:=.tup (vY (Vy ds.length lo hi (st.getD 1)) xs)) (λb L q=>ac _ q) (ao _) ⟨⟨j,⟨_,ap _ rfl,rfl⟩⟩,_,p,lf _ _⟩,rfl,?_⟩;obtain⟨s2,c2⟩:=wm (u:=.tup (vY (Vy ds.length lo hi (st.getD 1)) xs)) f (I.hok.fresh (ao _));exact po _ _ _ s2 c2 (.tup (.inl (.inl qm)) (B.mono c2.grow))
    .simp only[au,n];rw[<-p.length,B.length];exact c.2
   .rw[Ab c]at po;exact po.elim
 | str z=>
  cases is;obtain⟨t,rfl⟩:=m;have po:PoV C .sh F H (if st.getD 1≠0/\(vz z lo hi (st.getD 1)).length<=Z8 then .ok (.str (vz z lo hi (st.getD 1)))else .bad) Q:=po;by_cases c:st.getD 1≠0/\(vz z lo hi (st.getD 1)).length<=Z8
  .rw[Aa c]at po;obtain⟨l,rfl,el⟩:=JU pl;obtain⟨u,rfl,E⟩:=JU w;obtain⟨k,rfl,A⟩:=JU y;refine⟨"str",_,PySem.F.slot_str_getitem.lookup,nB s z t,wpAny_getItem_str_slice (l:=l) (u:=u) (st:=k) hs (by rw[A];simpa using c.1) ?_⟩;have c2:=c.2;unfold sliceMade slicePicked;rw[el,E,A];unfold vz at c2 po;by_cases q:(st.getD 1 == 1&&(bF lo hi (st.getD 1) z.length).length == z.length)=lv;·rw[Aa q]at c2 po ⊢;exact⟨.str z,H,I,⟨t,rfl⟩,po _ F H f .refl (.str c2)⟩
   .rw[Ab q]at c2 po ⊢;exact⟨c2,.str _,H,I.tok _,⟨_,rfl⟩,po _ F H f .refl (.str c2)⟩
  .rw[Ab c]at po;exact po.elim
 |_=>exact po.elim
theorem JV{lo hi st:Option Z4}{l u k:Option (qW)}(s:C.K=X.K)(he:PE X e 'p')(hl:PO X lo (tO C own (wq l)))(o:PO X hi (tO C own (wq u)))(q:PO X st (tO C own (wq k)))(n:ma≠.any:=by decide):PE X (.Subscript e (.Slice lo hi st p2) pos) (tE C own .sh (yH fa l u k)):=by
 refine jp (qax (qmm (C:=C) s) (yx he n) hl o q) λσ H Q ⟨F,ρ,p,h⟩=>⟨F,ρ,p,Po.bind h λv F1 H1 d ρ1 j c1 m h1=>?_⟩
 refine⟨F1,ρ1,j,Po.bindO h1 λy H2 a ρ2 i c2 h2=>⟨y,ρ2,i,Po.bindO h2 λx A b f g I w=>⟨x,f,g,Po.bindO w λL z c B r G t=>?_⟩⟩⟩;exact⟨L,d,r.sub,((m.mono c2.grow).mono I.grow).mono G.grow,PoV.of r t⟩
end
noncomputable def Its(x:Str):It:=⟨λi _=>i<x.cps.size,λi H v H'=>H'=H/\∃c,x.cps[i]?=lm c/\v=.str ⟨#[c]⟩,λi _=>x.cps.size<=i⟩
noncomputable def xz(x:Str):List D:=x.cps.toList.map λc=>.str ⟨#[c]⟩
theorem YK{P:lC}{w:lD}{K:Y9}{tg:Z4}(it:Z7)(x:Str)(t:Tok)(ty:String)(q:["enumerate","zip","dict_itemiterator","dict_reverseitemiterator","odict_iterator","itertools.zip_longest","itertools.pairwise"].contains ty=lw)(W:∀A:lG,A.handled=lr->Walks P w A it [it] [it] x.cps.size (SignAt x) (λi h=>h.IsStrIter it ty x t i))(p:∀(A:lG)(i:Nat)(s:lx)(Q:lu->lx->Prop)(E:lu->lx->Prop),s.heap.IsStrIter it ty x t i->Q (.ref it) s->lA (Z6 P w) A (oM (.ref it)) Q E s) :
  Turn P w K tg (Its x) [it] it (λi h=>h.IsStrIter it ty x t i/\i<=x.cps.size) where
 mem:=by simp
 obj:=λi h st b hb=>by
  have e:b=it:=by simpa using hb
  subst e;obtain⟨o,e,c,d⟩:=st.1;exact⟨o,e,λv z=>by rw[d]at z;cases z⟩
 keep:=λi h h' st k=>by obtain⟨⟨o,e,r⟩,hi⟩:=st;exact⟨⟨o,k it 'f' o e,r⟩,hi⟩
 item:=by
  intro X j hw l g i Z9 s σ H E I a st hg;subst j hw l;obtain⟨f0,f1,f2,n,f4,m⟩:=a it 'f';refine(W X.A (I.ok.hd g)).item i s _ _ hg st.1 λv h' tk j f kp=>?_;have y:Inv X Z9 σ H { s with heap:=h',toks:=tk }:=I.turned (t':=tk) (λb o hb e=>kp b o (by simpa using hb) e) f0 f1 n f4 m;obtain⟨o,e,c,d⟩:=id f;obtain⟨S,u,h1,h2⟩:∃S u,x.cps[i]?=lm S/\v=cM ⟨#[S]⟩ u:=by
   unfold SignAt at j;first
    |exact j
    |(obtain⟨S,u,h1,h2⟩:=j;exact⟨S,u,h1,h2⟩)
    |(obtain⟨S,h1,u,h2⟩:=j;exact⟨S,u,h1,h2⟩)
    |(obtain⟨u,S,h1,h2⟩:=j;exact⟨S,u,h1,h2⟩)
  subst h2;exact⟨_,rfl,qcA (s:={ s with heap:=h',toks:=tk }) e c d q ⟨.str ⟨#[S]⟩,H,y,⟨u,rfl⟩,⟨rfl,S,h1,rfl⟩,⟨f,hg⟩,λb hb=>(a b hb).1⟩⟩
 done:=by intro X j hw l g i Z9 s σ H E I a st hg;subst j hw l;obtain⟨f0,f1,f2,n,f4,m⟩:=a it 'f';have hi:i=x.cps.size:=Nat.le_antisymm st.2 hg;subst hi;exact(W X.A (I.ok.hd g)).done s _ _ st.1 λh' tk kp=>⟨rfl,I.turned (t':=tk) (λb o hb e=>kp b o (by simpa using hb) e) f0 f1 n f4 m⟩
 self:=λA i s Q E st h=>p A i s Q E st.1 h
theorem qiD:ItIs K F (Its x) (xz x) where
 go:=λi H hi _=>by
  have:i<x.cps.size:=by simpa[xz]using hi
  exact this
 yld:=λi Fi H v H' d e s1 s2 y=>by
  obtain⟨rfl,c,h1,rfl⟩:=y;have e:d=.str ⟨#[c]⟩:=by
   unfold xz at e;rw[aJ]at e;have h1:x.cps.toList[i]?=lm c:=by simpa using h1
   rw[h1]at e;exact(aU.inj e).symm
  subst e;exact⟨Fi,.refl,s2,.str (Yw c)⟩
 stop:=λi H hi _=>by
  have:x.cps.size<=i:=by simpa[xz]using hi
  exact this
def ju:D->Out (List D)
 |.lst xs=>.ok xs
 |.tup xs=>.ok xs
 |.str x=>.ok (xz x)
 |_=>.bad
def jv(f:qW):vV:=λρ=>(f ρ).bind λp=>(ju p.1).bind λds=>.ok (ds,p.2)
section
variable{f:qW}
theorem qiE{l:Z4}{tl:TE}(hl:PE X l tl):PI X tg l (λσ H R=>tl σ H λx H1=>(∃a,x=.ref a/\(((∃xs,SqL X.K H1 a xs)/\R (Itl X.K a) H1)\/((∃xs,SqT X.K H1 a xs)/\R (Itt X.K a) H1)))\/∃z,x=.str z/\R (Its z) H1):=by
 refine⟨?_⟩;intro Z9 s σ H R I h;refine thn (hl Z9 s σ H _ I h) λv s1 c=>?_;obtain⟨x,H1,d,r1,g⟩:=c;have fp:∀b∈[s1.heap.objs.size],WP X Z9 H1 b:=λb hb=>by
  have e:b=s1.heap.objs.size:=by simpa using hb
  subst e;exact d.fpOk (ao _) (d.hok.fresh (ao _))
 rcases g with⟨a,rfl,q⟩|⟨z,rfl,q⟩
 .cases r1;rcases q with⟨⟨xs,hq⟩,q⟩|⟨⟨xs,hq⟩,q⟩
  .obtain⟨its,r,p,j⟩:=d.list hq;refine ng p.isList ?_;exact⟨s1.heap.objs.size,[s1.heap.objs.size],_,_,H1,rfl,d.kept (t':=s1.toks) λb o e=>ac _ e,Gq a _,⟨_,ap _ rfl,rfl,rfl⟩,fp,q⟩
  .obtain⟨its,r,p,j⟩:=d.tuple hq;refine mI (show s1.heap.IsTuple a its.toArray from p) ?_;exact⟨s1.heap.objs.size,[s1.heap.objs.size],_,_,H1,rfl,d.kept (t':=s1.toks) λb o e=>ac _ e,Zb a _,⟨_,ap _ rfl,rfl,rfl⟩,fp,q⟩
 .obtain⟨t,rfl⟩:=r1;cases f:z.cps.all (· < 128)with
  |true=>refine wpAny_pyIter_ascii f ?_;exact⟨s1.heap.objs.size,[s1.heap.objs.size],_,_,H1,rfl,d.kept (t':=s1.toks) λb o e=>ac _ e,YK _ z t "str_ascii_iterator" 'e' (λA hA=>Walks.strAscii hA _ z t) (λA i s Q E st h=>wpAny_pyIter_striter_ascii st h),⟨⟨_,ap _ rfl,rfl,rfl⟩,be _⟩,fp,q⟩
  |false=>refine wpAny_pyIter_wide f ?_;exact⟨s1.heap.objs.size,[s1.heap.objs.size],_,_,H1,rfl,d.kept (t':=s1.toks) λb o e=>ac _ e,YK _ z t "str_iterator" 'e' (λA hA=>Walks.strWide hA _ z t) (λA i s Q E st h=>wpAny_pyIter_striter_wide st h),⟨⟨_,ap _ rfl,rfl,rfl⟩,be _⟩,fp,q⟩
theorem qL(l:C.K=X.K)(h:PE X e (tE C own m f))(b:m≠.any:=by decide):PI X tg e (tIt C own (jv f)):=by
 refine qc1 (qiE (yx h b)) λσ H R ⟨F,ρ,r,h⟩=>⟨F,ρ,r,PoI.bindV h λv F1 H1 d ρ1 a c1 c h1=>?_⟩
 have c:Is C.K F1 v d:=c;cases c with
 |lst p t=>exact .inl ⟨_,rfl,.inl ⟨⟨_,by rw[<-l];exact a.sub.seq p⟩,by rw[<-l];exact h1 _ F1 H1 a c1 (qis p t)⟩⟩
 |tup p t=>exact .inl ⟨_,rfl,.inr ⟨⟨_,by rw[<-l];exact qY a.sub p⟩,by rw[<-l];exact h1 _ F1 H1 a c1 (qit p t)⟩⟩
 |str z=>exact .inr ⟨_,rfl,h1 _ F1 H1 a c1 qiD⟩
 |_=>exact h1.elim
end
def YL(b:Bool):D->Out D
 |.lst ds=>match vX ds with
  |some bs=>.ok (.int (bs.countP (· == b):Nat))
  |none=>.bad
 |_=>.bad
def YM(b:Bool):D->Out D
 | .lst ds=>match vX ds with
  |some bs=>match bs.findIdx? (· == b)with
   |some j=>.ok (.int (j:Nat))
   |none=>.bad
  |none=>.bad
 |_=>.bad
section
variable{o:Z4}{fo:qW}{apos:Pos}{b:Bool}
theorem Vz(A:lG)(s:lx)(c b:Bool):ll A s (.bool c) (.bool b) (c == b):=SeqAt.EqAt.bool_bool _ _
theorem qdc:MtR X "list.count" (λx vs H Q=>∃(a:Z7)(xs:List V)(bs:List Bool)(b:Bool),x=.ref a/\vs=[.bl b]/\SqL X.K H a xs/\(∀us,Vals xs us->us=bs.map bi)/\Q (.int (bs.countP (· == b):Nat)) H):=by
 intro Z9 s σ H x vs v us Q I f g h;obtain⟨a,xs,bs,b,rfl,rfl,hq,hb,q⟩:=h;cases f;obtain⟨u,rfl,i⟩:=g.one;cases i;obtain⟨its,r,pl,z⟩:=I.list hq;have e:=hb its r;subst e;obtain⟨⟨cls,dd,data,sl⟩,n,l,d,hd,t⟩:=pl;simp only at d hd t;subst d t;refine mi PySem.F.slot_list_count ⟨_,l,rfl⟩ PySem.F.entry_list_count (PySem.F.args_list_count_2 _ _) (SeqAt.list_countAt a _ n dd sl (.bool b) (λv=>v == .bool b)) ⟨l,λy B=>?_,?_⟩
 .have B:y∈bs.map bi:=by simpa using B
  obtain⟨c,_,rfl⟩:=aw.mp B;have e:(bi c == bi b)=(c == b):=by cases c <;> cases b <;> rfl
  show ll _ s (.bool c) (.bool b) (bi c == bi b);rw[e];exact Vz _ s c b
 .refine⟨.int (bs.countP (· == b):Nat),H,I.tok _,⟨s.toks,?_⟩,q⟩;have e:(bs.map bi).toArray.toList.countP (λv=>v == bi b)=bs.countP (· == b):=by rw[fk,List.countP_map];congr 1;funext c;cases c <;> cases b <;> rfl
  rw[e]
theorem qdd:MtR X "list.index" (λx vs H Q=>∃(a:Z7)(xs:List V)(bs:List Bool)(b:Bool)(j:Nat),x=.ref a/\vs=[.bl b]/\SqL X.K H a xs/\(∀us,Vals xs us->us=bs.map bi)/\bs.findIdx? (· == b)=lm j/\Q (.int (j:Nat)) H):=by
 intro Z9 s σ H x vs v us Q I o p h;obtain⟨a,xs,bs,b,j,rfl,rfl,hq,hb,D,q⟩:=h;cases o;obtain⟨u,rfl,w⟩:=p.one;cases w;obtain⟨its,r,pl,z⟩:=I.list hq;have e:=hb its r;subst e;obtain⟨⟨cls,dd,data,sl⟩,n,l,k,hd,t⟩:=pl;simp only at k hd t;subst k t;obtain⟨i,g,f⟩:=List.findIdx?_eq_some_iff_getElem.mp D;have d:bs.length<=Z8:=by have:=r.length;simp at this;lia
 have ev:∀c:Bool,(bi c == bi b)=(c == b):=λc=>by cases c <;> cases b <;> rfl
 refine mi PySem.F.slot_list_index ⟨_,l,rfl⟩ PySem.F.entry_list_index (PySem.F.args_list_index_2 _ _) (SeqAt.list_indexAt a _ n dd sl (.bool b) (λv=>v == .bool b) j (by simpa using i) (by rw[lE]at d;lia) (by simp[ev];simpa using g) λm A h1=>?_) ⟨l,λy B=>?_,?_⟩;·have:=f m h1;simp[ev];simpa using this
 .have B:y∈bs.map bi:=by simpa using B
  obtain⟨c,_,rfl⟩:=aw.mp B;show ll _ s (.bool c) (.bool b) (bi c == bi b);rw[ev];exact Vz _ s c b
 .exact⟨.int (j:Nat),H,I.tok _,⟨_,rfl⟩,q⟩
set_option tactic.hygienic true in
theorem qde{c1 c2}(y:C.K=X.K)(u:PE X o (tE C own m fo))(f:lP o "count" X.env (Z0 o X.env)=Z0 o X.env:=by rfl)
  (w:((lM cpos (lz [.Constant (.bool b) c1 c2] X.env)).all (λx=>!x.1)&&(mz cpos (lT [] X.env)).all (λx=>x.1.isSome)
   && decide ([Expr.Constant (.bool b) c1 c2].length+([]:List l6).length+(if ([]:List l6).isEmpty then 0 else 1)<30))=true:=by exact vy rfl)
  (e:(apos.endLine == cpos.line)=true:=by rfl) (hs:lz [.Constant (.bool b) c1 c2] X.env=[(lw,Z0 (.Constant (.bool b) c1 c2) X.env)]:=by exact qF rfl) :
  PE X (.Call (.Attribute o "count" apos) [.Constant (.bool b) c1 c2] [] cpos) (tE C own .sh (d1 (YL b) fo)):=by
 refine jp (WZ cP PySem.F.slot_list_count PySem.F.type_list_count qdc u (qI qe0 jq hs) f w e hs rfl) λσ H Q h=>?_;obtain⟨F,ρ,n,h⟩:=JM (ma:=m) h;refine⟨F,ρ,n,?_⟩;cases q:fo ρ with
 | ok p=>
  rw[q]at h;obtain⟨d,ρ1⟩:=p;intro v F1 H1 i c1 k;obtain⟨z,dx,s,l,po⟩:=h v F1 H1 i c1 k;cases dx <;> try exact po.elim
  rename_i ds;unfold YL at po;cases j:vX ds with
  |none=>simp only[j]at po;exact po.elim
  |some bs=>
   simp only[j]at po;obtain⟨a,vs,rfl,hq,t⟩:=l.lst s;have g:SqL X.K H1 a vs:=by rw[<-y];exact hq
   exact⟨.inl ⟨rfl,vs,g⟩,a,vs,bs,b,rfl,rfl,g,λus r=>JT t r j,po _ z H1 s .refl (.int _)⟩
 |exc c=>rw[q]at h;exact h
 |bad=>rw[q]at h;exact h.elim
set_option tactic.hygienic true in
theorem qdf{c1 c2}(A:C.K=X.K)(z:PE X o (tE C own m fo))(f:lP o "index" X.env (Z0 o X.env)=Z0 o X.env:=by rfl)
  (w:((lM cpos (lz [.Constant (.bool b) c1 c2] X.env)).all (λx=>!x.1)&&(mz cpos (lT [] X.env)).all (λx=>x.1.isSome)
   && decide ([Expr.Constant (.bool b) c1 c2].length+([]:List l6).length+(if ([]:List l6).isEmpty then 0 else 1)<30))=true:=by exact vy rfl)
  (e:(apos.endLine == cpos.line)=true:=by rfl) (hs:lz [.Constant (.bool b) c1 c2] X.env=[(lw,Z0 (.Constant (.bool b) c1 c2) X.env)]:=by exact qF rfl) :
  PE X (.Call (.Attribute o "index" apos) [.Constant (.bool b) c1 c2] [] cpos) (tE C own .sh (d1 (YM b) fo)):=by
 refine jp (WZ cP PySem.F.slot_list_index PySem.F.type_list_index qdd z (qI qe0 jq hs) f w e hs rfl) λσ H Q h=>?_;obtain⟨F,ρ,y,h⟩:=JM (ma:=m) h;refine⟨F,ρ,y,?_⟩;cases q:fo ρ with
 | ok p=>
  rw[q]at h;obtain⟨d,ρ1⟩:=p;intro v F1 H1 i c1 n;obtain⟨B,dx,s,u,po⟩:=h v F1 H1 i c1 n;cases dx <;> try exact po.elim
  rename_i ds;unfold YM at po;cases l:vX ds with
  |none=>simp only[l]at po;exact po.elim
  | some bs=>
   simp only[l]at po;cases k:bs.findIdx? (· == b)with
   |none=>simp only[k]at po;exact po.elim
   |some j=>
    simp only[k]at po;obtain⟨a,vs,rfl,hq,t⟩:=u.lst s;have g:SqL X.K H1 a vs:=by rw[<-A];exact hq
    exact⟨.inl ⟨rfl,vs,g⟩,a,vs,bs,b,j,rfl,rfl,g,λus r=>JT t r l,k,po _ B H1 s .refl (.int _)⟩
 |exc c=>rw[q]at h;exact h
 |bad=>rw[q]at h;exact h.elim
end
end L2.D2
namespace L2.D2
open PySem PySem.Spec PySem.Calls PyProof.Rows PySem.W Builtin Builtin.ObjectAttr Builtin.Getset_descriptor
variable{K:Y9}{R:oN->lx->Prop}
section
variable{prog:lC}{w:lD}{A:lG}{E:lu->lx->Prop}{h:Z5}{g:Array nN}{d:Drawn}{t:Nat}{os:l0}{a C:Z7}{o:Obj}
theorem qiF(X:K.In h)(b:Looks 'd' h (nP (.ref a)) (.ref C))(c:mroIn K C (.type "object")=lm lv)(hq:R (.ok (.ret (.ref C))) ⟨h,g,d,t,os⟩):my 'd' A (.call (.builtin "getset_descriptor.__get__") ⟨[.builtin "object.__class__",.ref a,.ref C],[]⟩) R ⟨h,g,d,t,os⟩:=by
 have L:=looks_mroIn (M:=Z6 prog w) X c;refine codeAny_call_builtin KF.slot_gs.plain KF.entry_gs (KF.slot_gs.check _ _ _ _ _ _ _ _ j8 (KF.args_gs _ _ _) ?_);unfold Builtin.«getset_descriptor.__get__» descrGet;rw[dga_obj];refine lq (ly ?_);unfold descrGetter descrCheckInstance descrNameAndClass isInstance;simp only[KF.owner_class];repeat lk
 refine⟨Code.quiet_builtin _ 'a',lV KF.entry_class ?_⟩;unfold Builtin.«object.__class__» shownTypeOf;repeat lk
 exact hq
theorem qdg{n:lu}{Q:Unit->lx->Prop}(X:K.In h)(c:Looks 'd' h (nP (.ref a)) (.ref C))(hs:subIn K (.ref C) (.type "BaseException")=lm lv)(hq:Q () ⟨h,g,d,t,os⟩):lA 'd' A (checkBuiltinCall "BaseException.__getattribute__" ⟨[.ref a,n],[]⟩) Q E ⟨h,g,d,t,os⟩:=by
 have k:builtinKind "BaseException.__getattribute__"=lm .slot:=by decide +kernel
 have b:splitId "BaseException.__getattribute__"=lm ("BaseException","__getattribute__"):=by decide +kernel
 have f:=F.args_bexc_ga (.ref a) n;have L:Looks 'd' h (isInstance (.ref a) (.type "BaseException")) true:=c.andThen (looks_subIn X hs);simp only[checkBuiltinCall,k,b];refine lq (L.at ?_);repeat (first|assumption|wp_step)
theorem qdh{tk:Tok}{Q:Fin->lx->Prop}(X:K.In h)(b:Looks 'd' h (nP (.ref a)) (.ref C))(U:nW K (.ref C) "__class__"=lm (lm (.builtin "object.__class__")))(c:mroIn K C (.type "object")=lm lv)(hq:Q (.done (.ret (.ref C))) ⟨h,g,d,t,os⟩):lA 'd' A (Builtin.«object.__getattribute__» ⟨[.ref a,.str "__class__" tk],[]⟩) Q E ⟨h,g,d,t,os⟩:=by
 have L:=looks_findIn (M:=Z6 prog w) X U;have e:(⟨h,g,d,t,os⟩:lx).TypeIs (.builtin "object.__class__") "getset_descriptor":=j8;have m:=j8;have i:=F.slot_gs_get.lookup;have f:=F.slot_gs_set.lookup;repeat (any_goals (first|assumption|with_reducible refine b.at ?_|with_reducible refine L.at ?_|wp_step))
 refine qiF X b c ?_;repeat (any_goals (first|assumption|wp_step))
theorem qfR{tk:Tok}(X:K.In h)(b:Looks 'd' h (nP (.ref a)) (.ref C))(hs:subIn K (.ref C) (.type "BaseException")=lm lv)(U:nW K (.ref C) "__class__"=lm (lm (.builtin "object.__class__")))(c:mroIn K C (.type "object")=lm lv)(hq:R (.ok (.ret (.ref C))) ⟨h,g,d,t,os⟩):my 'd' A (.call (.builtin "BaseException.__getattribute__") ⟨[.ref a,.str "__class__" tk],[]⟩) R ⟨h,g,d,t,os⟩:=
 codeAny_call_builtin F.excAttr_ValueError.ga.plain F.entry_bexc_ga (qdg X b hs (qdh X b U c hq))
theorem qkO{tk:Tok}{f e:Bool}{Q:lu->lx->Prop}(X:K.In h)(L:Looks 'd' h (nP (.ref a)) (.ref C))(hs:subIn K (.ref C) (.type "BaseException")=lm lv)(g1:nW K (.ref C) "__getattribute__"=lm (lm (.builtin "BaseException.__getattribute__")))(W:nW K (.ref C) "__getattr__"=lm lr)(U:nW K (.ref C) "__class__"=lm (lm (.builtin "object.__class__")))(m:mroIn K C (.type "object")=lm lv)(hq:Q (.ref C) ⟨h,g,d,t,os⟩) :
  lA 'd' A (getAttrBy (.ref a) (.str "__class__" tk) f e) Q E ⟨h,g,d,t,os⟩:=by
 have i:=looks_findIn (M:=Z6 prog w) X g1;have L2:=looks_findIn (M:=Z6 prog w) X W;have n:=F.excAttr_ValueError.ga.bind (.ref a);have hx0:(e&&onTheHeap (d4 "BaseException.__getattribute__"))=false:=by cases e <;> rfl
 have b:(d4 "BaseException.__getattribute__" == d4 "object.__getattribute__")=false:=by decide +kernel
 have c:(onTheHeap (aR C)&&d4 "BaseException.__getattribute__" == d4 "object.__getattribute__")=false:=by rw[b];rfl
 repeat (any_goals (first|assumption|with_reducible refine L.at ?_|with_reducible refine i.at ?_|with_reducible refine L2.at ?_|wp_step))
 refine qfR X L hs U m ?_;repeat (any_goals (first|assumption|wp_step))
theorem qfS{Q:Option lu->lx->Prop}(X:K.In h)(b:Looks 'd' h (nP (.ref a)) (.ref C))(hs:subIn K (.ref C) (.type "BaseException")=lm lv)(g1:nW K (.ref C) "__getattribute__"=lm (lm (.builtin "BaseException.__getattribute__")))(W:nW K (.ref C) "__getattr__"=lm lr)(U:nW K (.ref C) "__class__"=lm (lm (.builtin "object.__class__")))(c:mroIn K C (.type "object")=lm lv)(hq:Q (lm (.ref C)) ⟨h,g,d,t+1,os⟩) :
  lA 'd' A (n8 (.ref a) "__class__") Q E ⟨h,g,d,t,os⟩:=by
 unfold n8 getAttrBy?;exact lq (wpAny_mkText (lq (mJ (qkO X b hs g1 W U c (ly hq)))))
end
noncomputable def xcB(K:Y9)(C:Z7):Bool:=decide (subIn K (.ref C) (.type "BaseException")=lm lv)&&decide (nW K (.ref C) "__getattribute__"=lm (lm (.builtin "BaseException.__getattribute__")))&&decide (nW K (.ref C) "__getattr__"=lm lr) &&
 decide (nW K (.ref C) "__class__"=lm (lm (.builtin "object.__class__")))&&decide (mroIn K C (.type "object")=lm lv)&&(clsIn K C).isSome
def qfT(a C:Z7)(h:Z5):Prop:=∃oe vs,h.get? a=lm oe/\oe.cls=.ref C/\oe.data=.fields vs
set_option tactic.hygienic true in
theorem qdi{a C:Z7}(b:xcB K C=lv):KitX K (.ref a) (.ref C) (qfT a C):=by
 unfold xcB at b;simp only[aO,decide_eq_true_eq]at b;obtain⟨⟨⟨⟨⟨o,f⟩,v⟩,B⟩,e⟩,m⟩:=b;have ty:∀(M:Model)(h:Z5),qfT a C h->Looks M h (nP (.ref a)) (.ref C):=λM h ⟨oe,vs,e1,i,D⟩=>by rw[<-i];exact(Looks.ld e1).andThen .now
 refine⟨λM h _ x=>ty M h x,λM h X _=>?_,λh p dd its n sl X ht=>?_,λ{prog w A E Q s} X x hq=>?_⟩
 .unfold clsIn at m;split at m;·rename_i S d' c j l;intro y r u s' k q;unfold isType loadHead;exact lq (wpAny_loadPart (k _ _ (X _ _ l)) (ly q))
  .cases m
 .refine Bool.eq_false_iff.mpr λq=>?_;have q:aR C=aR p:=beq_iff_eq.mp q;cases q;unfold clsIn at m;split at m;·rename_i S d' c j l;rw[X _ _ l]at ht;cases ht
  .cases m
 .obtain⟨h,g,d,t,os⟩:=s;exact qfS X (ty _ h x) o f v B e hq
noncomputable def QB(ans:Z7->Option Bool):D->Out D
 |.xcp C=>match ans C with
  |some b=>.ok (.bl b)
  |none=>.bad
 |_=>.bad
section
variable{X:Cx}{C:Ct}{own:List Nat}{a:Z4}{fa:qW}{ma:Mo}{pos:Pos}{cls:lu}{vc:V}{ans:Z7->Option Bool}
theorem YN(g:∀Cc b,ans Cc=lm b->xcB X.K Cc=lv/\kitOne X.K (.ref Cc) cls=lm b)(k:RelV vc cls):vR X (.builtin "isinstance") (λxs H Q=>∃x F d,xs=[x,vc]/\Same F H/\TopIs C.K F H x d/\PoV C .sh F H (QB ans d) Q):=by
 intro Z9 s σ H xs us Q I r h;obtain⟨x,F,d,rfl,i,f,po⟩:=h;obtain⟨u,c,rfl,y,a⟩:=qcE r;cases d with
 | xcp Cc=>
  unfold QB at po;cases q:ans Cc with
  |none=>simp only[q]at po;exact po.elim
  | some b=>
   simp only[q]at po;obtain⟨h1,h2⟩:=g Cc b q;rcases f with f|⟨_,_,f⟩
   .cases f with
    | @xcp ad _ hF=>
     cases y;have hx:qfT ad Cc s.heap:=(show ObjOk X.prog X.w H s.heap ad (Ud ad Cc)from I.hok ad _ (i _ _ hF)).1;have e:cls=c:=by
      cases vc with
      |ref z=>exact(show cls=aR z from k).trans (show c=aR z from a).symm
      |ty z=>exact(show cls=hJ z from k).trans (show c=hJ z from a).symm
      |non=>exact(show cls=bH from k).trans (show c=bH from a).symm
      |bl z=>exact(show cls=bi z from k).trans (show c=bi z from a).symm
      |int z=>obtain⟨t,rfl⟩:=k;unfold kitOne kitCls at h2;simp at h2
      |str z=>obtain⟨t,rfl⟩:=k;unfold kitOne kitCls at h2;simp at h2
      |byt z=>obtain⟨t,rfl⟩:=k;unfold kitOne kitCls at h2;simp at h2
      |flt z=>obtain⟨t,rfl⟩:=k;unfold kitOne kitCls at h2;simp at h2
     subst e;exact kia_one (qdi h1) I.kIn hx h2 (λz=>nomatch z) λtk=>⟨.bl b,H,I.tok tk,rfl,po _ F H i .refl (.bl b)⟩
   .exact f.elim
 |_=>exact po.elim
theorem YO{σ:St}{H:Hp}{Q:VK}(h:tE C own .sh (d1 (QB ans) fa) σ H Q):Zj 'p' (Zj (tC vc) qh5) σ H λxs H1=>∃x F d,xs=[x,vc]/\Same F H1/\TopIs C.K F H1 x d/\PoV C .sh F H1 (QB ans d) Q:=by
 obtain⟨F,ρ,r,h⟩:=JM (ma:=ma) h;refine⟨F,ρ,r,?_⟩;cases q:fa ρ with
 |ok p=>rw[q]at h;obtain⟨d,ρ1⟩:=p;intro v F1 H1 a c1 m;obtain⟨b,dx,z⟩:=h v F1 H1 a c1 m;exact⟨v,b,dx,rfl,z⟩
 |exc c=>rw[q]at h;exact h
 |bad=>rw[q]at h;exact h.elim
theorem vZ{cn:Str}{Ct:Z7}{p t:Pos}(hg:Gl X "isinstance")(m:X.mg "isinstance"=lr)(d:lB "isinstance"=lm (.builtin "isinstance"))(ht:Gl X cn)(e:X.mg cn=lm (.ref Ct))(g:∀Cc b,ans Cc=lm b->xcB X.K Cc=lv/\kitOne X.K (.ref Cc) (.ref Ct)=lm b)(f:PE X a 'p')(c:Dbg cn:=by decide)(h1:lz [a,.Name cn t] X.env=(lw,Z0 a X.env)::lz [.Name cn t] X.env:=by rfl)(h2:lz [.Name cn t] X.env=[(lw,Z0 (.Name cn t) X.env)]:=by rfl):PE X (.Call (.Name "isinstance" p) [a,.Name cn t] [] pos) (tE C own .sh (d1 (QB ans) fa)):=
 jp (vw (YN (vc:=.ref Ct) g rfl) hg m d (qI f (qI (Gm (v:=.ref Ct) ht e rfl c) jq h2) h1) 'e' 'e' (by rw[h1]) (by rw[h2];rfl)) λσ H Q h=>YO h
theorem qfU{cn:Str}{T:String}{p t:Pos}(hg:Gl X "isinstance")(m:X.mg "isinstance"=lr)(f:lB "isinstance"=lm (.builtin "isinstance"))(ht:Gl X cn)(e:X.mg cn=lr)(c:lB cn=lm (.type T))(g:∀Cc b,ans Cc=lm b->xcB X.K Cc=lv/\kitOne X.K (.ref Cc) (.type T)=lm b)(i:PE X a 'p')(n:cn ≠ "__name__":=by decide)(d:Dbg cn:=by decide)(h1:lz [a,.Name cn t] X.env=(lw,Z0 a X.env)::lz [.Name cn t] X.env:=by rfl)(h2:lz [.Name cn t] X.env=[(lw,Z0 (.Name cn t) X.env)]:=by rfl):PE X (.Call (.Name "isinstance" p) [a,.Name cn t] [] pos) (tE C own .sh (d1 (QB ans) fa)):=
 jp (vw (YN (vc:=.ty T) g rfl) hg m f (qI i (qI (Gn (v:=.ty T) ht e c rfl n d) jq h2) h1) 'e' 'e' (by rw[h1]) (by rw[h2];rfl)) λσ H Q h=>YO h
end
end L2.D2
namespace L2.D2
open PySem PySem.Spec PyProof.Rows
variable{P:lC}{w:lD}{K:Y9}{N:List Str}{A:lG}{C:Ct}
theorem qel{mg:Str->Option lu}{base:Z5}{qual:Str}{scope:mQ}{f:Z7}{cd:lu}{outer:List Env}{s0:lx}{H0:Hp}{E:XK}(h:C.E=E):Vv (cxk P w K mg base N qual scope f cd A outer s0 H0 E) C:=by subst h;exact qiw
theorem RoomQ.mono{j k:Nat}(r:RoomQ k A)(h:j<=k):RoomQ j A:=⟨by have:=r.dp;lia,by have:=r.un;lia⟩
noncomputable def qiG(ca:Str->Z7)(cs:List Str)(c:Str):Option Z7:=if c∈cs then lm (ca c)else lr
noncomputable def VA(ca:Str->Z7)(cs:List Str)(x:Str)(C:Z7):Option Bool:=if C∈cs.map ca then lm (decide (C=ca x))else lr
noncomputable def qiH(ca:Str->Z7)(cs:List Str)(C:Z7):Option Bool:=if C∈cs.map ca then lm lv else lr
structure Xs(K:Y9)(cv:Str->lu)(ca:Str->Z7)(cs:List Str)(top:Str):Prop where
 val:∀c∈cs,cv c=.ref (ca c)
 own:∀c∈cs,dH K (.ref (ca c)) (cv top)=lm lv
 cls:∀c∈cs,xcB K (ca c)=lv
 kit:∀c∈cs,∀d∈cs,c6 K (.ref (ca c)) (.ref (ca d))=lm (decide (ca c=ca d))
 ve:∀c∈cs,c6 K (.ref (ca c)) (.type "ValueError")=lm lv
variable{x:Str}
section
variable{cv:Str->lu}{ca:Str->Z7}{cs:List Str}{top:Str}
theorem Xs.hit(z:Xs K cv ca cs top):∀c Cc,qiG ca cs c=lm Cc->cv c=.ref Cc/\dH K (.ref Cc) (cv top)=lm true:=λc Cc h=>by
 unfold qiG at h;split at h;·cases h;exact⟨z.val c (by assumption),z.own c (by assumption)⟩
 .cases h
set_option tactic.hygienic true in
theorem Xs.ans(z:Xs K cv ca cs top)(hx:x∈cs):∀Cc b,VA ca cs x Cc=lm b->xcB K Cc=lv/\c6 K (.ref Cc) (.ref (ca x))=lm b:=λCc b h=>by
 unfold VA at h;split at h;·rename_i m;obtain⟨c,d,rfl⟩:=aw.mp m;cases h;exact⟨z.cls c d,z.kit c d x hx⟩
 .cases h
set_option tactic.hygienic true in
theorem Xs.ansV(z:Xs K cv ca cs top):∀Cc b,qiH ca cs Cc=lm b->xcB K Cc=lv/\c6 K (.ref Cc) (.type "ValueError")=lm b:=λCc b h=>by
 unfold qiH at h;split at h;·rename_i m;obtain⟨c,d,rfl⟩:=aw.mp m;cases h;exact⟨z.cls c d,z.ve c d⟩
 .cases h
end
inductive SK where
 |l|t
noncomputable def SK.itc:SK->String
 |.l => "list_iterator"
 |.t => "tuple_iterator"
def SeqK(h:Z5)(a:Z7):SK->Array lu->Prop
 |.l,xs=>h.IsList a xs
 |.t,xs=>h.IsTuple a xs
def ItK(h:Z5)(it a:Z7):SK->Nat->Prop
 |.l,i=>h.IsListIter it a i
 |.t,i=>h.IsTupleIter it a i
def SqK(K:Y9)(H:Hp)(a:Z7):SK->List V->Prop
 |.l,xs=>SqL K H a xs
 |.t,xs=>SqT K H a xs
variable{h h':Z5}{a:Z7}{xs:Array lu}
theorem SeqK.at:∀{k:SK},SeqK h a k xs->(∀o,h.get? a=lm o->h'.get? a=lm o)->SeqK h' a k xs
 |.l,⟨o,e,c⟩,k=>⟨o,k _ e,c⟩
 |.t,⟨o,e,c⟩,k=>⟨o,k _ e,c⟩
theorem SeqK.lt:∀{k:SK},SeqK h a k xs->a<h.objs.size
 |.l,⟨o,e,c⟩=>ax e
 |.t,⟨o,e,c⟩=>ax e
variable{it:Z7}{i:Nat}
theorem ItK.obj:∀{k:SK},ItK h it a k i->∃o,h.get? it=lm o/\o.cls=.type k.itc/\o.data=.fields #[.ref a,.int i 0]
 |.l,⟨o,e,c,d⟩=>⟨o,e,c,d⟩
 |.t,⟨o,e,c,d⟩=>⟨o,e,c,d⟩
theorem ItK.of:∀{k:SK},(∃o,h.get? it=lm o/\o.cls=.type k.itc/\o.data=.fields #[.ref a,.int i 0])->ItK h it a k i
 |.l,⟨o,e,c,d⟩=>⟨o,e,c,d⟩
 |.t,⟨o,e,c,d⟩=>⟨o,e,c,d⟩
variable{E:lu->lx->Prop}{prog:lC}{s:lx}{Q:Option lu->lx->Prop}{l:Z7}{items:Array lu}{o:Obj}{n:Nat}
section
theorem qiI{k:SK}{Q:lu->lx->Prop}(h:SeqK s.heap a k xs)(c:Q 'k' { s with heap:=s.heap.push { cls:=.type k.itc,data:=.fields #[.ref a,.int 0 0] } }):lA 'd' A (oM (.ref a)) Q E s:=by
 cases k with
 |l=>exact ng h c
 |t=>exact mI h c
noncomputable def SK.cl:SK->String
 |.l => "list"
 |.t => "tuple"
theorem qay{k:SK}(b:A.handled=lr)(hi:ItK s.heap it l k i)(hl:SeqK s.heap l k items)(hx:items[i]?=lr)(c:∀h',i9 it s.heap h'->Q lr { s with heap:=h' }):lA 'd' A (mR (.ref it)) Q E s:=by
 cases k with
 |l=>exact wpAny_pyNext_list_end b hi hl hx c
 |t=>exact wpAny_pyNext_tuple_end b hi hl hx c
theorem Zv{k:SK}{x:lu}(hi:ItK s.heap it l k i)(hl:SeqK s.heap l k items)(hx:items[i]?=lm x)(c:∀h',ItK h' it l k (i+1)->bh it s.heap h'->Q (lm x) { s with heap:=h' }):lA 'd' A (mR (.ref it)) Q E s:=by
 cases k with
 |l=>exact wpAny_pyNext_list_item hi hl hx c
 |t=>exact wpAny_pyNext_tuple_item hi hl hx c
theorem SeqK.of(e:h.get? a=lm o)(d:o.data=.seq xs n):∀{k:SK},o.cls=.type k.cl->SeqK h a k xs
 |.l,c=>⟨o,e,c,n,d⟩
 |.t,c=>⟨o,e,c,n,d⟩
end
section
theorem Zw:oP (.type "tuple") "keys"=pure none:=by rw[nI,mK];kernel_rfl
theorem QC{k:Nat}{Q:Option lu->lx->Prop}(n:A.handled=lr)(hx:s.heap.get? a=lm o)(l:o.cls=.type "tuple")(t:o.data=.seq xs k)(hd:o.dict=lr)(h:∀h' tk,(∀b j,s.heap.get? b=lm j->h'.get? b=lm j)->Q lr { s with heap:=h',toks:=tk }):lA 'd' A (n8 (.ref a) "keys") Q E s:=by
 obtain⟨c,dct,dat,sl⟩:=o;simp only at l t hd;subst l t hd;obtain⟨hp,g,d,tk,os⟩:=s;have T:∀f,(⟨hp,g,d,f,os⟩:lx).TypeIs (.ref a) "tuple":=λ_=>⟨_,hx,rfl⟩
 have f1:=sub_AttributeError;have r:=fg.lookup;have f4:=fg.bind (.ref a);have q:=am_tuple_getattr_none;have p:=Zw;have m:(["__module__","__name__","__qualname__","__doc__","__annotations__"]:List Str).contains ("keys":Str)=false:=by decide +kernel
 have hsz:("keys":Str).length+100<=Z8:=by rw[lE];decide +kernel
 unfold n8 getAttrBy?;refine lq (wpAny_mkText (lq (mJ ?_)));unfold getAttrBy;repeat (any_goals (first|assumption|exact T _|((with_reducible show lA _ _ (call (d4 "tuple.__getattribute__") _ _) _ _ _);refine mi fg (T _) am_entry_tuple_getattribute (F.args_tuple_getattribute_2 _ _) (meets_getattribute_miss_tuple a xs k sl "keys" _ p m hsz) ⟨hx,n,λh' f e i=>?_⟩)|wp_step))
 obtain⟨t',U,he⟩:=i.there;show lA _ _ (mX _ _ _ _ _ _ _) _ _ _;unfold mX;repeat (any_goals (first|assumption|wp_step))
 exact h h' f i.keeps
theorem Zx:oP (.type "list") "keys"=pure none:=by rw[nI,mK];kernel_rfl
theorem gm{k:Nat}{Q:Option lu->lx->Prop}(n:A.handled=lr)(hx:s.heap.get? a=lm o)(l:o.cls=.type "list")(t:o.data=.seq xs k)(hd:o.dict=lr)(h:∀h' tk,(∀b j,s.heap.get? b=lm j->h'.get? b=lm j)->Q lr { s with heap:=h',toks:=tk }):lA 'd' A (n8 (.ref a) "keys") Q E s:=by
 obtain⟨c,dct,dat,sl⟩:=o;simp only at l t hd;subst l t hd;obtain⟨hp,g,d,tk,os⟩:=s;have T:∀f,(⟨hp,g,d,f,os⟩:lx).TypeIs (.ref a) "list":=λ_=>⟨_,hx,rfl⟩
 have f1:=sub_AttributeError;have r:=fz.lookup;have f4:=fz.bind (.ref a);have q:=am_list_getattr_none;have p:=Zx;have m:(["__module__","__name__","__qualname__","__doc__","__annotations__"]:List Str).contains ("keys":Str)=false:=by decide +kernel
 have hsz:("keys":Str).length+100<=Z8:=by rw[lE];decide +kernel
 unfold n8 getAttrBy?;refine lq (wpAny_mkText (lq (mJ ?_)));unfold getAttrBy;repeat (any_goals (first|assumption|exact T _|((with_reducible show lA _ _ (call (d4 "list.__getattribute__") _ _) _ _ _);refine mi fz (T _) am_entry_list_getattribute (F.args_list_getattribute_2 _ _) (meets_getattribute_miss_list a xs k sl "keys" _ p m hsz) ⟨hx,n,λh' f e i=>?_⟩)|wp_step))
 obtain⟨t',U,he⟩:=i.there;show lA _ _ (mX _ _ _ _ _ _ _) _ _ _;unfold mX;repeat (any_goals (first|assumption|wp_step))
 exact h h' f i.keeps
theorem xM:entryFor table "dict.update.loop"=lm Builtin.«dict.update.loop»:=entryFor_of_tree (by kernel_rfl)
theorem ku:plainId "dict.update.loop"=true:=by decide +kernel
def qaz(h:Z5)(v key val:lu):Prop:=∃p o n,v=.ref p/\h.get? p=lm o/\o.cls=.type "tuple"/\o.data=.seq #[key,val] n
theorem qdj{sk:SK}{R:oN->lx->Prop}{d t:Z7}(hh:A.in1.handled=lr)(O:d≠t)(m:d≠it)(K:t≠it):∀(n i:Nat)(s:lx)(kvs:List (Key×lu))(ps:List (Key×lu×lu)),items.size - i=n->i<=items.size ->ItK s.heap it t sk i->SeqK s.heap t sk items->s.heap.DictOf (qX prog w) d kvs->ps.length=n->(∀j p,ps[j]?=lm p->∃v,items[i+j]?=lm v/\zK p.1 p.2.1=lv/\qaz s.heap v p.2.1 p.2.2)->kvs.length+n<=Z8 ->(∀h' tk,h'.DictOf (qX prog w) d (ps.foldl (λl p=>stored l p.1 p.2.2) kvs)->(∀b o,b≠d->b≠it->s.heap.get? b=lm o->h'.get? b=lm o)->R (.ok (.ret .none)) { s with heap:=h',toks:=tk }) ->my 'd' A (.builtin "dict.update.loop" ⟨[.ref d,.ref it,lN i,.none],[]⟩) R s:=by
 intro n
 induction n with
 |zero=>intro i s kvs ps hn hi st ht hd hl hp F T;have e:ps=[]:=List.length_eq_zero_iff.mp hl;subst e;refine lV xM ?_;rw[cq ku _];show lA _ A.in1 (mR (.ref it) >>= _) _ _ s;refine lq (qay hh st ht (by simp;lia) λh' W=>?_);show lA _ A.in1 (ret bH) _ _ _;refine ly (T h' s.toks ?_ λb o _ h2 e=>W b o h2 e);obtain⟨o,es,ep,C,r⟩:=hd;exact⟨o,es,ep,W d o m C,r⟩
 | succ n Z=>
  intro i s kvs ps hn hi st ht hd hl hp F T;cases ps with
  |nil=>simp at hl
  | cons p ps=>
   obtain⟨v,hv,hk,q,U,nq,rfl,hq,M,a⟩:=hp 0 p rfl;obtain⟨od,es,ep,f,hdx,hrest⟩:=id hd;have Y:q≠d:=λz=>by subst z;rw[hq]at f;cases f;rw[hrest.1]at a;cases a
   obtain⟨oi,c,hic,hid⟩:=st.obj;have H:q≠it:=λz=>by subst z;rw[hq]at c;cases c;rw[hid]at a;cases a
   refine lV xM ?_;rw[cq ku _];show lA _ A.in1 (mR (.ref it) >>= _) _ _ s;refine lq (Zv st ht (x:=.ref q) (by simpa using hv) λh' E D=>?_);have B:h'.get? q=lm U:=(D.2 q H).trans hq;have S:iR { s with heap:=h' } (.ref q) "tuple":=⟨U,B,M⟩
   have Q:h'.DictOf (qX prog w) d kvs:=by obtain⟨o,es,ep,C,r⟩:=hd;exact⟨o,es,ep,(D.2 d m).trans C,r⟩
   have L:SeqK h' t sk items:=ht.at λo C=>(D.2 t K).trans C;dsimp only;refine lq (lH (lq ?_));refine wpAny_tryCatch ?_;unfold Builtin.Dict.pairItems;refine lq (mH S ?_);rw[Aa 'e'];refine lq (mF B a (ly ?_));show lA _ A.in1 (holding [p.2.1,p.2.2] (dictSet d p.2.1 p.2.2)) _ _ _;refine lH (wpAny_dictSet_pairs (knd:=qX prog w) hk Q (λh2 hd2 g=>?_) 'b');have keep:∀b o,b≠d->b≠it->s.heap.get? b=lm o->h2.get? b=lm o:=λb o n1 n2 e=>(g.2 b n1).trans ((D.2 b n2).trans e);have V:(stored kvs p.1 p.2.2).length<=kvs.length+1:=by unfold stored;split <;> simp
   refine ly ⟨mU ku _,?_⟩;have ec:lN ((i:Int)+1)=lN ((i+1:Nat):Int):=by push_cast;rfl
   rw[ec];refine Z (i+1) _ (stored kvs p.1 p.2.2) ps 'b' 'b' ?_ ?_ hd2 (by simpa using hl) (λj X e=>?_) 'b' λh3 tk P k3=>?_;·obtain⟨o,e,r⟩:=E.obj;exact .of ⟨o,(g.2 it (bj m)).trans e,r⟩
   .exact L.at λo e=>(g.2 t (bj O)).trans e
   .obtain⟨v',J,N,G,u,I,rfl,k,y,h⟩:=hp (j+1) X (by simpa using e);refine⟨.ref G,by rw[show i+1+j=i+(j+1) by lia];exact J,N,G,u,I,rfl,keep G u (λz=>?_) (λz=>?_) k,y,h⟩;·subst z;rw[k]at f;cases f;rw[hrest.1]at h;cases h
    .subst z;rw[k]at c;cases c;rw[hid]at h;cases h
   .exact T h3 tk P λb o n1 n2 e=>k3 b o n1 n2 (keep b o n1 n2 e)
theorem gp{sk:SK}{t:Z7}{ps:List (Key×lu×lu)}{Q:lu->lx->Prop}(J:A.handled=lr){m:Obj}{nt:Nat}(z:s.heap.get? t=lm m)(d:m.cls=.type sk.cl)(n:m.dict=lr)(f:m.data=.seq items nt)(hl:ps.length=items.size)(hp:∀(j:Nat)(p:Key×lu×lu),ps[j]?=lm p->∃v,items[j]?=lm v/\zK p.1 p.2.1=lv/\qaz s.heap v p.2.1 p.2.2)(M:items.size<=Z8)(h:∀h' tk,h'.DictOf (qX prog w) s.heap.objs.size (ps.foldl (λl p=>stored l p.1 p.2.2) [])->'s'->Q 'k' { s with heap:=h',toks:=tk }) :
  lA 'd' A (call (.type "dict") [.ref t]) Q E s:=by
 refine callType_codes (Q₁:=λobj k=>obj=.ref s.heap.objs.size/\k={ s with heap:=s.heap.push { cls:=.type "dict",data:=.dict #[] } }) F.kt_called_dict (F.kt_typeCall_dict_1 _) F.entry_dict_init (kt_code_dict_new _ ⟨rfl,rfl⟩) ?_;rintro obj k ⟨rfl,rfl⟩;have i:(s.heap.push { cls:=.type "dict",data:=.dict #[] }).DictOf (qX prog w) s.heap.objs.size []:=Heap.DictOf.new s.heap;refine⟨i.typeIs,F.args_dict_init_2 _ _,?_⟩;unfold Builtin.«dict.__init__»;refine lq ?_;unfold Builtin.Dict.selfAndRest;refine lq (wpAny_notOrdered_dict i.typeIs ?_);show lA _ _ (pure (s.heap.objs.size,[aR t])) _ _ _;refine ly ?_;show lA _ _ (Builtin.Dict.updateFrom "dict.__init__" s.heap.objs.size (.ref t) [] .none) _ _ _;unfold Builtin.Dict.updateFrom;have g:(s.heap.push { cls:=.type "dict",data:=.dict #[] }).get? t=lm m:=ac _ z;have C:t<s.heap.objs.size:=ax z;refine lq (mH (T:=sk.cl) ⟨m,g,d⟩ ?_);rw[Aa (by cases sk <;> decide)];have P:∀{K:Option lu->lx->Prop}{A1:lG}{R:lu->lx->Prop}{s1:lx},A1.handled=lr->s1.heap.get? t=lm m->(∀h' tk,(∀b I,s1.heap.get? b=lm I->h'.get? b=lm I)->K lr { s1 with heap:=h',toks:=tk })->lA 'd' A1 (n8 (.ref t) "keys") K R s1:=λa b c=>by
  cases sk with
  |l=>exact gm a b d f n c
  |t=>exact QC a b d f n c
 refine lq (P (by exact J) g λh1 H k1=>?_);rw[Aa (show(lr:Option lu).isNone=lv from rfl)];refine lq (nE ?_);have y:h1.get? t=lm m:=k1 _ _ g;have D:h1.DictOf (qX prog w) s.heap.objs.size []:=by obtain⟨o,es,ep,B,r⟩:=i;exact⟨o,es,ep,k1 _ _ B,r⟩
 have x:SeqK h1 t sk items:=.of y f d;refine lq (qiI (s:={ s with heap:=h1,toks:=H }) x ?_);have u:s.heap.objs.size<h1.objs.size:=let ⟨o,es,ep,B,r⟩:=D;ax B;have up:∀b o,s.heap.get? b=lm o->(h1.push { cls:=.type sk.itc,data:=.fields #[.ref t,.int 0 0] }).get? b=lm o:=λb o e=>ac _ (k1 _ _ (ac _ e));refine ly ⟨mU ku _,?_⟩;refine qdj (items:=items) (t:=t) (A:=A.in1) (show A.in1.in1.handled=lr from J) (eI C) (aD u) (aD (dQ C u)) items.size 0 _ [] ps 'b' (be _) (.of ⟨_,ap _ rfl,rfl,rfl⟩) ?_ ?_ hl (λj p e=>?_) (by simpa using M) λh2 G hd2 k2=>⟨rfl,h h2 G hd2 λb o e=>?_⟩
 .exact .of (ac _ y) f d
 .obtain⟨o,es,ep,B,r⟩:=D;exact⟨o,es,ep,ac _ B,r⟩
 .obtain⟨v,N,O,q,U,L,rfl,hq,r⟩:=hp j p e;exact⟨.ref q,by simpa using N,O,q,U,L,rfl,up q U hq,r⟩
 .have hb:=ax e;exact k2 b o (aD hb) (aD (dQ hb u)) (up b o e)
end
noncomputable def WQ:D->Option Key
 |.int i=>lm (.inl i)
 |.str x=>lm (.inr x)
 |_=>lr
noncomputable def wk(kvs:List (Key×D))(k:Key)(d:D):List (Key×D):=if kvs.any (λp=>decide (p.1=k))then kvs.map λp=>if p.1=k then(p.1,d)else p else kvs++[(k,d)]
def qdk:D->Option (Key×D)
 |.tup [k,v]=>(WQ k).map λk=>(k,v)
 |_=>lr
def uP:List D->Option (List (Key×D))
 |[]=>lm []
 |d::ds=>match qdk d,uP ds with
  |some p,lm ps=>lm (p::ps)
  |_,_=>lr
def qdl:D->Out D
 |.tup ds=>match uP ds with
  |some ps=>.ok (.dct (ps.foldl (λl p=>wk l p.1 p.2) []))
  |none=>.bad
 |_=>.bad
def qiJ(d:D):Out D:=(Uh d).bind λds=>match uP ds with
 |some ps=>.ok (.dct (ps.foldl (λl p=>wk l p.1 p.2) []))
 |none=>.bad
variable{d:D}{F H:Hp}{v:V}{ds:List D}
theorem qaA(s:Same F H)(h:TopIs K F H v d)(e:Uh d=.ok ds):∃a k xs,v=.ref a/\SqK K H a k xs/\IsL K F xs ds:=by
 cases d with
 |lst es=>cases e;obtain⟨a,xs,rfl,q,t⟩:=h.lst s;exact⟨a,.l,xs,rfl,q,t⟩
 |tup es=>cases e;obtain⟨a,xs,rfl,q,t⟩:=h.tup s;exact⟨a,.t,xs,rfl,q,t⟩
 |_=>cases e
theorem IsK.any{k:Key}:∀{kv:List (Key×V)}{ks:List (Key×D)},IsK K F kv ks->(kv.any λp=>decide (p.1=k))=(ks.any λp=>decide (p.1=k))
 |_,_,.nil=>rfl
 |_,_,.cons h t=>by rw[cX,cX,IsK.any t]
theorem IsK.repl{k:Key}(i:Is K F v d):∀{kv:List (Key×V)}{ks:List (Key×D)},IsK K F kv ks->IsK K F (kv.map λp=>if p.1=k then(p.1,v)else p) (ks.map λp=>if p.1=k then(p.1,d)else p)
 |_,_,.nil=>.nil
 |_,_,.cons (k:=k') h t=>by
  rw[aF,aF];by_cases e:k'=k;·simp only[e,if_true];exact .cons i (IsK.repl i t)
  .simp only[e,if_false];exact .cons h (IsK.repl i t)
theorem IsK.snoc{k:Key}(i:Is K F v d):∀{kv:List (Key×V)}{ks:List (Key×D)},IsK K F kv ks->IsK K F (kv++[(k,v)]) (ks++[(k,d)])
 |_,_,.nil=>.cons i .nil
 |_,_,.cons h t=>.cons h (IsK.snoc i t)
variable{kv:List (Key×V)}
theorem IsK.put{k:Key}{ks:List (Key×D)}(h:IsK K F kv ks)(i:Is K F v d):IsK K F (Qw kv k v) (wk ks k d):=by
 unfold Qw wk;rw[h.any];by_cases e:(ks.any λp=>decide (p.1=k))=lv;·rw[Aa e,Aa e];exact IsK.repl i h
 .rw[Ab e,Ab e];exact IsK.snoc i h
theorem YQ:∀{v:List (Key×V)}{ps:List (Key×D)}{kv:List (Key×V)}{ks:List (Key×D)},IsK K F v ps->IsK K F kv ks->IsK K F (v.foldl (λl p=>Qw l p.1 p.2) kv) (ps.foldl (λl p=>wk l p.1 p.2) ks)
 |_,_,_,_,.nil,h=>h
 |_,_,_,_,.cons i t,h=>by rw[cj,cj];exact YQ t (h.put i)
def qlG(p:Key×V)(q:Key×lu×lu):Prop:=p.1=q.1/\RelV p.2 q.2.2
theorem qaB:∀{v:List (Key×V)}{a:List (Key×lu×lu)}{kv:List (Key×V)}{vs:List (Key×lu)},oK qlG v a->KV kv vs->KV (v.foldl (λl p=>Qw l p.1 p.2) kv) (a.foldl (λl p=>stored l p.1 p.2.2) vs)
 |_,_,_,_,.nil,h=>h
 |_,_,_,_,.cons r t,h=>by rw[cj,cj];refine qaB t ?_;rw[r.1];exact h.put _ r.2
theorem YR:∀{v:List (Key×V)}{kv:List (Key×V)},(v.foldl (λl p=>Qw l p.1 p.2) kv).length<=kv.length+v.length
 |[],kv=>ao _
 |p::v,kv=>by
  have h1:=@YR v (Qw kv p.1 p.2);have h2:=ye kv p.1 p.2;rw[cj,ah]
  lia
variable{X:Cx}{Z9:Pns}{σ:St}{u:lu}{vs:List V}
section
theorem zU{k:Key}(i:Is C.K F v d)(r:RelV v u)(e:WQ d=lm k):zK k u=true:=by
 cases d with
 |int z=>cases i;cases e;obtain⟨t,rfl⟩:=r;exact Va z t
 |str z=>cases i;cases e;obtain⟨t,rfl⟩:=r;exact Vb z t
 |_=>cases e
set_option tactic.hygienic true in
theorem YS (m:C.K=X.K) (I:Inv X Z9 σ H s) (l:Same F H):∀{vs:List V}{us:List lu}{ds:List D}{ps:List (Key×D)},IsL C.K F vs ds->Vals vs us->uP ds=lm ps ->∃(f:List (Key×V))(c:List (Key×lu×lu)),IsK C.K F f ps/\oK qlG f c/\c.length=us.length/\f.length=us.length/\∀(j:Nat)(p:Key×lu×lu),c[j]?=lm p->∃v,us[j]?=lm v/\zK p.1 p.2.1=lv/\qaz s.heap v p.2.1 p.2.2
 |_,_,_,_,.nil,.nil,e=>by cases e;exact⟨[],[],.nil,.nil,rfl,rfl,λj p e=>by simp at e⟩
 | _,_,_,_,.cons (d:=d) (ds:=ds) i t,.cons (b:=u) r rs,e=>by
  unfold uP at e;cases q:qdk d with
  |none=>rw[q]at e;cases e
  | some kd=>
   cases g:uP ds with
   |none=>rw[q,g]at e;cases e
   | some rest=>
    rw[q,g]at e;cases e;obtain⟨f,c,h1,h2,B,h,A⟩:=YS m I l t rs g;unfold qdk at q;split at q
    .rename_i G E;obtain⟨k,y,rfl⟩:=aS.mp q;cases i with
     | @tup a xs _ hq il=>
      cases il with
      | @cons xk _ xr _ ik il2=>
       cases il2 with
       | @cons xv _ xr2 _ iv il3=>
        cases il3;cases r;obtain⟨its,w,⟨o,x,z,n,hd⟩,_⟩:=I.tuple (show SqT X.K H a [xk,xv] by rw[<-m];exact qY l hq);cases w with
        | @cons _ uk _ _ rk rv2=>
         cases rv2 with
         |@cons _ uv _ _ rv3 rv4=>
          cases rv4;refine⟨(k,xv)::f,(k,uk,uv)::c,.cons iv h1,.cons ⟨rfl,rv3⟩ h2,by simp[B],by simp[h],λj p e=>?_⟩;cases j with
          |zero=>simp at e;subst e;exact⟨_,rfl,zU ik rk y,a,o,n,rfl,x,z,hd⟩
          |succ j=>simpa using A j p (by simpa using e)
    .cases q
theorem Jb(I:Inv X Z9 σ H s):∀{k:SK},SqK X.K H a k vs->∃its o n,Vals vs its/\s.heap.get? a=lm o/\o.cls=.type k.cl/\o.dict=lr/\o.data=.seq its.toArray n/\vs.length<=Z8
 |.l,h=>let ⟨its,r,⟨o,n,e,c,b,hd⟩,z⟩:=I.list h; ⟨its,o,n,r,e,c,b,hd,z⟩
 |.t,h=>by obtain⟨its,r,⟨o,e,c,n,hd⟩,z⟩:=I.tuple h;obtain⟨o2,d,b⟩:=I.tupleN h;rw[e]at d;cases d;exact⟨its,o,n,r,e,c,b,hd,z⟩
theorem qdm (y:C.K=X.K) (E:X.calm=lv):xu X C .fr (.type "dict") qiJ:=by
  intro Z9 s σ H xs us Q I r h;obtain⟨x,F,dx,rfl,f,z,po⟩:=h;unfold qiJ at po;cases e:Uh dx with
  |bad=>rw[e]at po;exact po.elim
  |exc c o=>cases dx <;> cases e
  | ok ds=>
   rw[e]at po;have po:PoV C .fr F H (match uP ds with|some ps=>.ok (.dct (ps.foldl (λl p=>wk l p.1 p.2) []))|none=>.bad) Q:=po;cases q:uP ds with
   |none=>simp only[q]at po;exact po.elim
   |some ps=>
    simp only[q]at po;obtain⟨a,sk,vs,rfl,hq,t⟩:=qaA f z e;obtain⟨u,rfl,B⟩:=wl r;cases B;rw[y]at hq;obtain⟨its,o,n,m,D,k,g,hd,O⟩:=Jb I hq;obtain⟨d,A,h1,h2,M,L,J⟩:=YS y I f t m q;have w:=m.length;refine gp (ps:=A) (I.ok.hd E) D k g hd (by simp[M]) (λj p e=>?_) (by simp;lia) λh' tk i kp=>?_;· obtain⟨v,e1,N⟩:=J j p e;exact⟨v,by simpa using e1,N⟩
    . have hp:H s.heap.objs.size=none:=I.hok.fresh (ao _);obtain⟨s2,c2,G⟩:=ke (u:=.dK (d.foldl (λl p=>Qw l p.1 p.2) [])) f hp;have hl:(d.foldl (λl p=>Qw l p.1 p.2) ([]:List (Key×V))).length<=Z8:=by
        have:=@YR d [];simp at this
        lia
      have b:(s.heap.objs.size == l9)=false:=beq_eq_false_iff_ne.mpr (eI I.big);refine⟨.ref s.heap.objs.size,_,I.laid (o:=.dK (d.foldl (λl p=>Qw l p.1 p.2) [])) (t':=tk) kp (ao _) (GJ hl b (qaB h2 .nil) i),rfl,po _ F _ s2 c2 ⟨_,rfl,hp,G,_,qm,YQ h1 .nil⟩⟩
theorem qfV(l:C.K=X.K)(d:X.calm=lv):xu X C .fr (.type "dict") qdl:=by
 intro Z9 s σ H xs us Q I r h;obtain⟨x,F,dx,rfl,b,t,po⟩:=h;cases dx <;> try exact po.elim
 exact qdm l d Z9 s σ H _ us Q I r ⟨x,F,_,rfl,b,t,po⟩
noncomputable def kR(kvs:List (Key×D))(k:Key):Bool:=kvs.any λp=>decide (p.1=k)
def inA:D->D->Out D
 |x,.dct kvs=>match WQ x with
  |some k=>.ok (.bl (kR kvs k))
  |none=>.bad
 |x,y=>qil x y
def Jc:D->D->Out D
 |x,.dct kvs=>match WQ x with
  |some k=>.ok (.bl (!kR kvs k))
  |none=>.bad
 |x,y=>Ue x y
theorem YT{ks:List (Key×D)}{k:Key}(h:IsK K F kv ks):(Zk kv k).isSome=kR ks k:=by rw[<-JL,h.any];rfl
theorem qkP{k:Key}(h:TopIs C.K F H v d)(e:WQ d=lm k):v=kV k:=by
 cases d with
 |int z=>cases e;exact h.int
 |str z=>cases e;exact h.str.1
 |_=>cases e
theorem YU(l:C.K=X.K)(f:X.A.units+64<lY):OpD X C .sh (lI .In) inA:=by
 intro Z9 s σ H x y v u Q I r c h;obtain⟨F,dx,d,t,b,ty,po⟩:=h;by_cases hd:∃kvs,d=.dct kvs
 .obtain⟨kvs,rfl⟩:=hd;cases q:WQ dx with
  |none=>unfold inA at po;simp only[q]at po;exact po.elim
  |some k=>
   unfold inA at po;simp only[q]at po;obtain⟨a,kv,rfl,g,i⟩:=ty.dct t;cases c;have ex:=qkP b q;subst ex;refine qmj 'b' I (DGet.k (k:=k) g) r λs' j=>⟨.bl _,H,j,rfl,?_⟩
   rw[YT i];exact po _ F H t .refl (.bl _)
 .have e:inA dx d=qil dx d:=by cases d <;> first|rfl|exact absurd ⟨_,rfl⟩ hd
  rw[e]at po;exact qkD l f Z9 s σ H x y v u Q I r c ⟨F,dx,d,t,b,ty,po⟩
theorem wX(l:C.K=X.K)(f:X.A.units+64<lY):OpD X C .sh (lI .NotIn) Jc:=by
 intro Z9 s σ H x y v u Q I r c h;obtain⟨F,dx,d,t,b,ty,po⟩:=h;by_cases hd:∃kvs,d=.dct kvs
 .obtain⟨kvs,rfl⟩:=hd;cases q:WQ dx with
  |none=>unfold Jc at po;simp only[q]at po;exact po.elim
  |some k=>
   unfold Jc at po;simp only[q]at po;obtain⟨a,kv,rfl,g,i⟩:=ty.dct t;cases c;have ex:=qkP b q;subst ex;refine qfo 'b' I (DGet.k (k:=k) g) r λs' j=>⟨.bl _,H,j,rfl,?_⟩
   rw[YT i];exact po _ F H t .refl (.bl _)
 .have e:Jc dx d=Ue dx d:=by cases d <;> first|rfl|exact absurd ⟨_,rfl⟩ hd
  rw[e]at po;exact qcU l f Z9 s σ H x y v u Q I r c ⟨F,dx,d,t,b,ty,po⟩
end
theorem qfW(t:l8)(es:Array (Int×lu))(h:Int)(x:lu):(layNew t es h x).2.1.led=t.led:=by
 unfold layNew;cases t.freeSlot h with
 |none=>rfl
 |some p=>obtain⟨sl,w⟩:=p;show(SetTable.orStandIn (t.put sl).1 _).led=t.led;unfold SetTable.orStandIn;split <;> rfl
variable{t:l8}
theorem qfX{m f v:Nat}{l p:Bool}{hs:Array Int}{o:Array Nat}(h:j9 m f v l p hs=lm (t,o)):t.led=l/\t.plain=p:=by
 unfold j9 at h;cases e:SetTable.layClean m hs with
 |none=>rw[e]at h;cases h
 |some ow=>rw[e]at h;have h2:=congrArg Prod.fst (aU.inj h);subst h2;exact⟨rfl,rfl⟩
theorem Ur(t:l8)(es:Array (Int×lu))(n:Nat):(n9 t es n).2.1.led=t.led/\(t.plain=lw->(n9 t es n).2.1.plain=lw):=by
 unfold n9;cases e:t.relaid (es.map (·.1)) n with
 |none=>exact⟨rfl,λ_=>rfl⟩
 |some q=>
  obtain⟨t',o⟩:=q;have k:=qfX (show j9 _ _ _ _ _ _=lm (t',o)from e);dsimp only;split;·exact⟨k.1,λz=>k.2.trans z⟩
  .exact⟨rfl,λ_=>rfl⟩
variable{κ:Type}
noncomputable def wa[DecidableEq κ](ks:List κ)(x:κ):List κ:=if x∈ks then ks else ks++[x]
noncomputable def QD(ks:List Str)(x:Str):List Str:=if x∈ks then ks else ks++[x]
noncomputable def jA(es:Array (Int×lu))(ep:Nat)(t:l8):Obj:={ cls:=.type "set",dict:=lr,data:=.set es ep t,slots:=#[] }
structure KP(κ:Type)[DecidableEq κ] where
 kd:∀(p:lC)(w:lD),PySem.KeyKind p w κ
 of:lu->κ
 pb:Bool
 ofi:∀{p:lC}{w:lD}{x:κ}{v:lu},(kd p w).is x v=lv->of v=x
 sc:∀{p:lC}{w:lD}{x:κ}{v:lu},(kd p w).is x v=lv->v.scannable=lv
 pl:∀{p:lC}{w:lD}{x:κ}{v:lu},(kd p w).is x v=lv->pb=lv->plainKind v=lw
noncomputable def KpS:KP Str where
 kd:=PySem.strKind
 of:=strOf
 pb:=lv
 ofi:=λh=>let ⟨_,e⟩:=cy h;by rw[e];rfl
 sc:=λh=>let ⟨_,e⟩:=cy h;by rw[e];rfl
 pl:=λh _=>let ⟨_,e⟩:=cy h;by rw[e];rfl
structure SetG{κ:Type}[DecidableEq κ](T:KP κ)(prog:lC)(w:lD)(es:Array (Int×lu))(t:l8)(ks:List κ):Prop where
 el:ElemsOf (T.kd prog w) es.toList
 perm:(es.toList.map λe=>T.of e.2).Perm ks
 nd:ks.Nodup
 bd:es.size<og
 fits:t.fits es.size=lv
 led:t.led=!(w.params.followText "set-order")
 plain:T.pb=lv->ks≠[]->t.plain=lw
def SetK{κ:Type}[DecidableEq κ](T:KP κ)(prog:lC)(w:lD)(h:Z5)(a:Z7)(ks:List κ):Prop:=∃es ep t,h.get? a=lm (jA es ep t)/\SetG T prog w es t ks
variable{es:Array (Int×lu)}{ep:Nat}
section
theorem qiK{l:List (Int×lu)}(h:ElemsOf (PySem.strKind prog w) l){e:Int×lu}(he:e∈l):∃x t,e.2=.str x t:=by obtain⟨⟨k,a,_⟩,_⟩:=h e he;obtain⟨t,ht⟩:=cy a;exact⟨k,t,ht⟩
variable[DecidableEq κ]{T:KP κ}
theorem SetG.mem{ks:List κ}(h:SetG T prog w es t ks){x:κ}:x∈ks↔∃e∈es.toList,(T.kd prog w).is x e.2=true:=by
 rw[<-h.perm.mem_iff,aw];constructor;·rintro⟨e,he,z⟩;obtain⟨⟨k,a,_⟩,_⟩:=h.el e he;rw[T.ofi a]at z;exact⟨e,he,z ▸ a⟩
 .rintro⟨e,he,z⟩;exact⟨e,he,T.ofi z⟩
theorem SetG.size{ks:List κ}(h:SetG T prog w es t ks):es.size=ks.length:=by have e:=h.perm.length_eq;simpa using e
theorem YV{es':Array (Int×lu)}{t':l8}(l:h.get? a=lm (jA es ep t)):(h.update a (fG es' t')).get? a=lm (jA es' (ep+1) t'):=by have e:=bo (fG es' t') l (by rw[putSet_of (o:=jA es ep t) es' t' rfl];rfl);rw[putSet_of (o:=jA es ep t) es' t' rfl]at e;exact e
theorem SetG.more{e:Array (Int×lu)}{f:l8}{ks:List κ}{x:κ}{v:lu}(h:SetG T prog w es t ks)(c:(T.kd prog w).is x v=lv)(nx:x∉ks)(r:ks.length+1<og)(hp:e.toList.Perm (es.toList++[((T.kd prog w).hash x,v)]))(g:f.fits e.size=lv)(hl:f.led=t.led)(hq:T.pb=lv->f.plain=lw):SetG T prog w e f (wa ks x):=by
 have ex:wa ks x=ks++[x]:=Ab nx;have d:e.size=ks.length+1:=by rw[<-aM,hp.length_eq,am,aM,h.size];rfl
 rw[ex];refine⟨(h.el.push c (T.sc c)).perm hp,?_,?_,?_,g,hl.trans h.led,λb _=>hq b⟩;·refine(hp.map _).trans ?_;rw[cS,List.map_singleton,T.ofi c];exact h.perm.append (cJ _)
 .exact d9.mpr ⟨h.nd,by simp,λa i b hb=>by rw[ay.mp hb];exact λz=>nx (z ▸ i)⟩
 .rw[d];exact r
theorem qfY{ks:List κ}{x:κ}{v:lu}{Q:Bool->lx->Prop}(m:(T.kd prog w).is x v=lv)(S:SetK T prog w s.heap a ks)(J:ks.length+1<og)(h:∀h' b,bh a s.heap h'->SetK T prog w h' a (wa ks x)->Q b { s with heap:=h' }):lA 'd' A (oo a v ((T.kd prog w).hash x)) Q E s:=by
 obtain⟨es,ep,t,o,d⟩:=S;unfold oo setAddHashedIn;refine lH (lq (lK o rfl d.fits ?_));dsimp only;rw[byScan_of (T.sc m) d.bd d.el,Aa rfl];unfold setAddByScan;refine lq (lq (nE (lq (wpAny_setScan_of m o rfl d.fits d.el ?_))));cases hq:es.toList.findIdx? (λe=>(T.kd prog w).is x e.2)with
 |some j=>obtain⟨N,hp,_⟩:=List.findIdx?_eq_some_iff_getElem.mp hq;have hx:x∈ks:=d.mem.mpr ⟨_,cF N,hp⟩;have q:=h s.heap lw (Heap.SameBut.refl a s.heap) ⟨es,ep,t,o,by rw[show wa ks x=ks from Aa hx];exact d⟩;dsimp only;exact ly (ly q)
 | none=>
  have hx:x∉ks:=λz=>by obtain⟨e,he,q⟩:=d.mem.mp z;have:=List.findIdx?_eq_none_iff.mp hq e he;rw[q]at this;cases this
  dsimp only;have hp:=layNew_perm t es ((T.kd prog w).hash x) v;have n:=layNew_fits t es ((T.kd prog w).hash x) v;have hl:=qfW t es ((T.kd prog w).hash x) v;generalize layNew t es ((T.kd prog w).hash x) v=L at hp n hl ⊢;obtain⟨c,u,M,P⟩:=L;dsimp only at hp n hl ⊢;rw[Array.toList_push]at hp;have l:∀f:l8,f.fits c.size=lv->f.led=t.led->(T.pb=lv->f.plain=lw)->lA 'd' A (do
    storeSet a c f
    if (!M&&f.tooFull)=lv then do
      (match (n9 f c (cK c.size)).2.2 with|true=>rule "set.scan.the-table-gave-way"|false=>pure ())
      storeSet a (n9 f c (cK c.size)).1 (n9 f c (cK c.size)).2.1
      pure (lm lv)
     else pure (lm lv)) (λr s'=>∃h',s'={ s with heap:=h' }/\r=lm lv/\bh a s.heap h'/\SetK T prog w h' a (wa ks x)) E s:=by
   intro f f2 I p2;have d2:=d.more m hx J hp f2 I p2;refine lq (nh o rfl ?_ (nv d2.bd));have i:=YV (es':=c) (t':=f) o;have y:=bg s.heap a (fG c f);split
   .have C:=relayAll_perm f c (cK c.size);have D:=relayAll_fits f c (cK c.size);have B:=Ur f c (cK c.size);generalize n9 f c (cK c.size)=R at C D B ⊢;obtain⟨p,H,W⟩:=R;dsimp only at C D B ⊢;have K:=d.more m hx J (C.trans hp) D (B.1.trans I) (λb=>B.2 (p2 b));refine lq ?_;have go:lA 'd' A (storeSet a p H >>= λ_=>pure (lm lv)) (λr s'=>∃h',s'={ s with heap:=h' }/\r=lm lv/\bh a s.heap h'/\SetK T prog w h' a (wa ks x)) E { s with heap:=s.heap.update a (fG c f) }:=
     lq (nh i rfl (ly ⟨_,rfl,rfl,y.trans (bg _ a _),p,_,H,YV i,K⟩) (nv K.bd))
    cases W;·exact ly go
    .exact nE go
   .exact ly ⟨_,rfl,rfl,y,c,_,f,i,d2⟩
  have fin:∀(r:Option Bool)(s':lx),(∃h',s'={ s with heap:=h' }/\r=lm lv/\bh a s.heap h'/\SetK T prog w h' a (wa ks x)) ->lA 'd' A (match r with|some k=>pure k|none=>setAddHashedIn a v ((T.kd prog w).hash x) 99999) Q E s':=by rintro r s' ⟨h',rfl,rfl,y,S⟩;exact ly (h h' lv y S)
  have O:∀(b:Bool){g:lx}{G:Unit->lx->Prop},G () g->lA 'd' A (match b with|true=>rule "set.scan.the-table-gave-way"|false=>pure ()) G E g:=λb g G q=>by
   cases b;·exact ly q
   .exact nE q
  refine lq (O _ ?_);cases e1:u.plain with
  |true=>rw[Aa rfl,hashByValue_scannable 8 (T.sc m)];refine lq (ly ?_);exact lR (l (if plainKind v=lv then u else{ u with plain:=lw }) (by split;exact n;exact SetTable.fits_plain_off n) (by split <;> exact hl) (λb=>by rw[T.pl m b];rfl)) fin λ_ _ z=>z
  |false=>rw[Ab 'f'];refine lq (ly ?_);exact lR (l u n hl λ_=>e1) fin λ_ _ z=>z
end
theorem qdn[DecidableEq κ](ks:List κ)(x:κ):(wa ks x).length<=ks.length+1:=by
 unfold wa;split
 .lia
 .rw[am];exact ao _
theorem wY[DecidableEq κ]:∀(l ks:List κ),(l.foldl wa ks).length<=ks.length+l.length
 |[],ks=>ao _
 |x::l,ks=>by
  have h1:=wY l (wa ks x);have h2:=qdn ks x;rw[cj,ah]
  lia
theorem YW:(wa:List Str->Str->List Str)=QD:=by funext ks x;unfold wa QD;congr
theorem VB(l ks:List Str):(l.foldl QD ks).length<=ks.length+l.length:=by rw[<-YW];exact wY l ks
theorem SetK.at[DecidableEq κ]{T:KP κ}{ks:List κ}(S:SetK T prog w h a ks)(k:∀o,h.get? a=lm o->h'.get? a=lm o):SetK T prog w h' a ks:=
 let ⟨es,ep,t,l,d⟩:=S; ⟨es,ep,t,k _ l,d⟩
section
variable[DecidableEq κ]{T:KP κ}{R:oN->lx->Prop}{I:Z7}{fp wr:List Z7}{P:Nat->lu->Prop}{St:Nat->lx->Prop}
theorem qaC{G:Array nN->Array nN->Prop}(W:WalksS prog w A.in1 I fp wr G n P St)(S:Z7)(j:S∉fp)(PS:Nat->Z5->Prop)(mv:∀i s h',St i s->PS i s.heap->(∀b o,b∉wr->s.heap.get? b=lm o->h'.get? b=lm o)->PS i h')(add:∀(i:Nat)(v:lu)(s:lx)(Q:Bool->lx->Prop)(E:lu->lx->Prop),i<n->P i v->PS i s.heap->(∀h' b tk,s.toks<=tk->bh S s.heap h'->PS (i+1) h'->Q b { s with heap:=h',toks:=tk })->lA 'd' A.in1 (setAdd S v) Q E s) :
  ∀(k i:Nat)(s:lx),n - i=k->i<=n->St i s->PS i s.heap->(∀s',Moved (S::wr) G s s'->PS n s'.heap->R (.ok (.ret .none)) s')->my 'd' A (.builtin "set.update.loop" ⟨[.ref S,.ref I],[]⟩) R s:=by
 have up:∀b∈wr,b∈S::wr:=λb hb=>ae _ hb;intro k
 induction k with
 |zero=>
  intro i s x hi c p q;have g:i=n:=by lia
  subst g;refine lV F.entry_set_update_loop ?_;rw[cq fJ _];show lA _ A.in1 (mR (.ref I) >>= _) _ _ s;exact lq (W.done s _ _ c λs' m=>ly (q s' (m.mono up) (mv _ s _ c p m.heap)))
 |succ k u=>
  intro i s x hi c p q;have t:i<n:=by lia
  refine lV F.entry_set_update_loop ?_;rw[cq fJ _];show lA _ A.in1 (mR (.ref I) >>= _) _ _ s;refine lq (W.item i s _ _ t c λv s' y h m=>?_);show lA _ A.in1 (holding [v] (setAdd S v) >>= _) _ _ s';refine lq (lH (add i v s' _ _ t y (mv i s _ c p m.heap) λh' b tk ht r l=>?_));refine ly ⟨mU fJ _,u (i+1) _ 'b' t (W.frame _ s' _ _ h ht λb hb o e=>?_) l λf a d=>?_⟩;·rw[r.2 b λz:b=S=>j (z ▸ hb)];exact e
  .refine q f (Moved.trans W.gtrans ((m.mono up).then_heap ht λb o hb e=>?_) a) d;rw[r.2 b λz:b=S=>hb (z ▸ aj)];exact e
theorem VC{ss:List κ}{x:κ}(hx:ss[i]?=lm x):wa ((ss.take i).foldl wa []) x=(ss.take (i+1)).foldl wa []/\((ss.take i).foldl wa []).length<=i:=by
 refine⟨by rw[List.take_add_one,hx,List.foldl_append];rfl,?_⟩;have h1:=wY (ss.take i) [];rw[bb,bv]at h1
 lia
end
section
variable[DecidableEq κ]{T:KP κ}
abbrev qfZ(w:lD):Obj:=jA #[] 0 (.fresh 0 0 (!(w.params.followText "set-order")))
theorem qaD(e:h.get? a=lm (qfZ w)):SetK T prog w h a []:=
 ⟨_,_,_,e,⟨λe he=>by simp at he,by simp,dI,by decide,by rfl,rfl,λ_ z=>absurd rfl z⟩⟩
theorem qf0(a:lu){Q₁:lu->lx->Prop}(h:Q₁ 'k' { s with heap:=s.heap.push (qfZ w) }):my 'd' A (.call (.builtin "set.__new__") ⟨[.type "set",a],[]⟩) (wants Q₁ E) s:=by
 refine codeAny_of_tree ?_;show lA _ A.in1 (do checkBuiltinCall "set.__new__" ⟨[.type "set",a],[]⟩;again (.builtin "set.__new__" ⟨[.type "set",a],[]⟩)) _ _ s;refine lq (m8 (PySem.F.newCall_set_1 a) (ly ⟨mU PySem.F.plain_set_new _,lV PySem.F.entry_set_new ?_⟩));rw[cq PySem.F.plain_set_new _];unfold Builtin.«set.__new__» Builtin.Frozenset.newClass;have b:=sub_set_self;obtain⟨hp,g,d,tk,os⟩:=s;dsimp only;wp_walk
 refine lW (ly ?_);dsimp only;simp only[newObj];exact lq (wpAny_alloc (ly (ly h)))
theorem Us:isSubtype (.type "tuple") (.type "set")=pure false:=by rw[ny];kernel_rfl
theorem QE:isSubtype (.type "tuple") (.type "frozenset")=pure false:=by rw[ny];kernel_rfl
theorem qdo:∀sk:SK,isSubtype (.type sk.cl) (.type "set")=pure lw
 |.l=>PySem.F.sub_list_set
 |.t=>Us
theorem Ut:∀sk:SK,isSubtype (.type sk.cl) (.type "frozenset")=pure lw
 |.l=>PySem.F.sub_list_frozenset
 |.t=>QE
theorem qiL(b:A.handled=lr)(sk:SK)(it l:Z7)(e:l≠it)(items:Array lu):Walks prog w A it [it,l] [it] items.size (λi v=>items[i]?=lm v) (λi h=>ItK h it l sk i/\SeqK h l sk items):=by
 cases sk with
 |l=>exact lj b it l e items
 |t=>exact Walks.tuple b it l e items
theorem SeqK.ty:∀{sk:SK},SeqK s.heap a sk xs->s.TypeIs (.ref a) sk.cl
 |.l,⟨o,e,c,_⟩=>⟨o,e,c⟩
 |.t,⟨o,e,c,_⟩=>⟨o,e,c⟩
theorem qlH{sk:SK}{S:Z7}{PS:Nat->Z5->Prop}{Q:Unit->lx->Prop}(q:A.handled=lr)(hl:SeqK s.heap l sk items)(r:S<s.heap.objs.size)(g:l≠S)(t:∀n,PS 0 (s.heap.push n))(mv:∀i (s':lx) h',ItK s'.heap s.heap.objs.size l sk i->PS i s'.heap->(∀b o,b≠s.heap.objs.size->s'.heap.get? b=lm o->h'.get? b=lm o)->PS i h')(add:∀(i:Nat)(v:lu)(s:lx)(Q:Bool->lx->Prop)(E:lu->lx->Prop),items[i]?=lm v->PS i s.heap->(∀h' b tk,s.toks<=tk->bh S s.heap h'->PS (i+1) h'->Q b { s with heap:=h',toks:=tk })->lA 'd' A.in1 (setAdd S v) Q E s)(h:∀h' tk,PS items.size h'->(∀b o,b≠S->s.heap.get? b=lm o->h'.get? b=lm o)->Q () { s with heap:=h',toks:=tk }) :
  lA 'd' A (bz "set.__init__" S (.ref l)) Q E s:=by
 have T:=hl.ty;unfold bz;refine lq (m:=Builtin.Frozenset.isAnySet _) ?_;unfold Builtin.Frozenset.isAnySet;refine lq (mP T (qdo sk) ?_);refine mP T (Ut sk) ?_;rw[Ab 'e'];refine lq (mH T ?_);rw[Ab (by cases sk <;> decide)];refine lq (qiI hl ?_);have d:l≠s.heap.objs.size:=aD hl.lt;refine lq (wpAny_runValue (qaC ((qiL (A:=A.in1) q sk _ l d items).toS) S ?_ PS (λi s' h' st p k=>mv i s' h' st.1 p λb o x=>k b o (by simpa using x)) (λi v s' Q E _=>add i v s' Q E) items.size 0 _ 'b' (be _) ⟨.of ⟨_,ap _ rfl,rfl,rfl⟩,hl.at λo e=>ac _ e⟩ (t _) ?_))
 .intro z;rcases af.mp z with z|z;·exact aD r z
  .exact g (ay.mp z).symm
 .intro s' c j;obtain⟨h',g',d',f,a⟩:=s';have y:g'=s.gens:=c.gens;have B:d'=s.drawn:=c.drawn;have u:a=s.os:=c.os;subst y B u;refine ly (h h' f j λb o hb e=>c.heap b o ?_ (ac _ e));intro z;rcases af.mp z with z|z;·exact hb z
  .rw[ay.mp z]at e;exact bS _ (ax e)
theorem qmn{sk:SK}{S:Z7}{ss:List κ}{Q:Unit->lx->Prop}(m:A.handled=lr)(g:SetK T prog w s.heap S [])(hl:SeqK s.heap l sk items)(n:ss.length=items.size)(hi:∀(i:Nat)(v:lu),items[i]?=lm v->∃x,ss[i]?=lm x/\(T.kd prog w).is x v=lv)(hb:items.size+1<og)(a:l≠S)(h:∀h' tk,SetK T prog w h' S (ss.foldl wa [])->(∀b o,b≠S->s.heap.get? b=lm o->h'.get? b=lm o)->Q () { s with heap:=h',toks:=tk }) :
  lA 'd' A (bz "set.__init__" S (.ref l)) Q E s:=by
 have lt:S<s.heap.objs.size:=let ⟨_,_,_,j,_⟩:=g;ax j;refine qlH (PS:=λi h=>SetK T prog w h S ((ss.take i).foldl wa [])) m hl lt a (λu=>g.at λo e=>ac _ e) (λi s' h' _ p k=>p.at λo=>k S o (aD lt)) (λi v s' Q E d p q=>?_) λh' tk p k=>h h' tk (by rw[bC (fL n)]at p;exact p) k;obtain⟨x,hx,f⟩:=hi i v d;obtain⟨r,y⟩:=VC hx;have:=(aY.mp d).1;unfold setAdd;exact lH (lq ((T.kd prog w).pyHash f (qfY (s:={ s' with toks:=s'.toks+1 }) f p 'b' λh' b t c=>q h' b _ (lg _) t (by rw[<-r];exact c))))
set_option maxHeartbeats 3200000 in
theorem VD{l:Z7}{PS:Z5->Prop}{Q:lu->lx->Prop}(p:∀(A1:lG)(K:Unit->lx->Prop)(C:lu->lx->Prop),A1.handled=A.handled->A1.units<=A.units+9->(∀h' tk,PS h'->'s'->K () { s with heap:=h',toks:=tk }) ->lA 'd' A1 (bz "set.__init__" s.heap.objs.size (.ref l)) K C { s with heap:=s.heap.push (qfZ w) })(h:∀h' tk,PS h'->'s'->Q 'k' { s with heap:=h',toks:=tk }) :
  lA 'd' A (call (.type "set") [.ref l]) Q E s:=by
 have i:∀{Q₁:lu->lx->Prop},Q₁ 'k' { s with heap:=s.heap.push (qfZ w) }->my 'd' A.in1 (.call (.builtin "set.__new__") ⟨[.type "set",.ref l],[]⟩) (wants Q₁ E) s:=λh=>qf0 (.ref l) h;unfold qfZ jA at i p;generalize (!(w.params.followText "set-order"))=led at i p;obtain⟨c,tl,u⟩:=ck.mro;have n:=ck.made;have t:=ck.sub;refine oO (codeAny_of_tree ?_);show lA _ _ (callAny (.type "set") _) _ _ _;refine ly ⟨Code.quiet_builtin _ 'a',lV PySem.F.entry_type_call ?_⟩;rw[Around.under_plain (weight_type_call_type "set" [.ref l] []) rfl];have h1:=ck.notType;have h2:=ck.canCreate;have y:=PySem.F.typeCall_set_1 (.ref l);repeat (any_goals (first|assumption|wp_step))
 refine mO (i (Q₁:=λobj f=>obj=.ref s.heap.objs.size/\f={ s with heap:=s.heap.push { cls:=.type "set",dict:=lr,data:=.set #[] 0 (.fresh 0 0 led) } }) ⟨rfl,rfl⟩) λr f m=>?_;cases r with
 |error e=>exact m
 | ok fl=>
  cases fl with
  | ret obj=>
   obtain⟨rfl,rfl⟩:=m;have S:(s.heap.push { cls:=.type "set",dict:=lr,data:=.set #[] 0 (.fresh 0 0 led) }).get? s.heap.objs.size=lm { cls:=.type "set",dict:=lr,data:=.set #[] 0 (.fresh 0 0 led) }:=ap _ rfl;have T:iR { s with heap:=s.heap.push { cls:=.type "set",dict:=lr,data:=.set #[] 0 (.fresh 0 0 led) } } 'k' "set":=⟨_,S,rfl⟩
   have v:=ck.init.lookup;have z:=ck.init.bind 'k';repeat (any_goals (first|assumption|wp_step))
   refine mO (codeAny_call_builtin (R:=wants (λr d=>r=.none/\∃h' tk,d={ s with heap:=h',toks:=tk }/\PS h'/\'s') E) ck.init.plain PySem.F.entry_set_init (check_set_init_1 T ?_)) λk d a=>?_
   .unfold Builtin.«set.__init__» noKeywords;generalize B:bz=U;wp_walk
    subst B;refine p _ _ _ rfl (by first|exact Nat.le_add_right_of_le (ao _)|(simp only[Around.in1_units];lia)) λh' tk j x=>?_;exact ly ⟨rfl,h',tk,rfl,j,x⟩
   .cases k with
    |error e=>exact a
    | ok g=>
     cases g with
     |ret r=>
      obtain⟨rfl,h',tk,rfl,j,q⟩:=a;repeat (any_goals (first|assumption|wp_step))
      exact h _ _ j q
     |_=>exact a.elim
  |_=>exact m.elim
theorem qaE{l:Z7}{ks:List κ}{Q:lu->lx->Prop}(p:∀(A1:lG)(K:Unit->lx->Prop)(R:lu->lx->Prop),A1.handled=A.handled->(∀h' tk,SetK T prog w h' s.heap.objs.size ks->'s'->K () { s with heap:=h',toks:=tk }) ->lA 'd' A1 (bz "set.__init__" s.heap.objs.size (.ref l)) K R { s with heap:=s.heap.push (qfZ w) })(h:∀h' tk,SetK T prog w h' s.heap.objs.size ks->'s'->Q 'k' { s with heap:=h',toks:=tk }) :
  lA 'd' A (call (.type "set") [.ref l]) Q E s:=VD (λA1 K R e _=>p A1 K R e) h
end
theorem xA{α:Type}:∀{xs:List α}{i:Nat}(h:i<xs.length),(xs[i]::xs.eraseIdx i).Perm xs
 |[],_,h=>absurd h (dZ _)
 |x::xs,0,h=>cJ _
 |x::xs,i+1,h=>(fQ _ _ _).trans ((xA (xs:=xs) (i:=i) (Nat.lt_of_succ_lt_succ h)).cons x)
variable{M:Model}
theorem Zy{c:Source}{Q:Nat->lx->Prop}(a:n≠0)(h:∀i d',i<n->Q i { s with drawn:=d' }):lA M A (choose c n) Q E s:=
 λ_ _ _=>⟨a,h _ _ (hZ _ (Nat.pos_of_ne_zero a))⟩
variable{α:Type}
theorem qaF:∀(n:Nat)(xs:List α)(s:lx){Q:List α->lx->Prop},n=xs.length->(∀ys d',ys.Perm xs->Q ys { s with drawn:=d' })->lA M A (drawOrder n xs) Q E s
 | 0,xs,s,Q,hn,h=>by
  cases xs with
  |nil=>exact ly (h [] s.drawn (cJ _))
  |cons x l=>cases hn
 |n+1,[],s,Q,hn,h=>by cases hn
 |n+1,x::l,s,Q,hn,h=>by show lA M A (choose .order (x::l).length >>= _) Q E s;refine lq (Zy 'f' λi d' hi=>?_);have e:(x::l)[i]?=lm (x::l)[i]:=aG hi;rw[e];refine lq (qaF n _ _ (by rw[List.length_eraseIdx_of_lt hi];simp only[ah]at hn ⊢;lia) λys d2 hp=>ly (h _ d2 ?_));exact(hp.cons _).trans (xA hi)
set_option tactic.hygienic true in
theorem qaG(next:Nat->Nat):∀(f k:Nat)(left:List α)(out:Array α),f=left.length->(pickOrder.go next f k left out).toList.Perm (out.toList++left)
 | 0,k,left,out,hf=>by
  cases left with
  |nil=>rw[bw];exact cJ _
  |cons x l=>cases hf
 |f+1,k,left,out,hf=>by have t:next k % left.length<left.length:=hZ _ 'b';have e:left[next k % left.length]?=lm left[next k % left.length]:=aG t;unfold pickOrder.go;rw[e];refine(qaG next f (k+1) _ _ (by rw[List.length_eraseIdx_of_lt t];lia)).trans ?_;rw[Array.toList_push,cu];exact List.Perm.append_left _ (xA t)
set_option tactic.hygienic true in
theorem gq(next:Nat->Nat)(xs:Array α):(m9 next xs).toList.Perm xs.toList:=by unfold m9;exact qaG next _ _ _ _ 'f'
noncomputable def wZ(first:lu)(i:Nat)(a:Z7)(n ep:Nat):Obj:={ cls:=.type "set_iterator",data:=.fields #[first,lN i,.ref a,lN n,lN ep] }
theorem qO:Slot "set_iterator" "__next__" "set_iterator.__next__":=
 .of (owner := "set_iterator") (n := "__next__") (by rw[nI,mK];kernel_rfl) 'a' 'a' 'a' (by first|exact .inl 'a'|exact .inr 'a') (by rw[ny];kernel_rfl)
theorem xN:Slot "set_iterator" "__iter__" "set_iterator.__iter__":=
 .of (owner := "set_iterator") (n := "__iter__") (by rw[nI,mK];kernel_rfl) 'a' 'a' 'a' (by first|exact .inl 'a'|exact .inr 'a') (by rw[ny];kernel_rfl)
theorem vA(a:lu):argsOk "set_iterator.__next__" ⟨[a],[]⟩:=by unfold argsOk;kernel_rfl
theorem VE(a:lu):argsOk "set_iterator.__iter__" ⟨[a],[]⟩:=by unfold argsOk;kernel_rfl
theorem kS:entryFor table "set_iterator.__next__"=lm Builtin.«set_iterator.__next__»:=entryFor_of_tree (by kernel_rfl)
theorem JW:entryFor table "set_iterator.__iter__"=lm Builtin.«dict_keyiterator.__iter__»:=entryFor_alias (id' := "dict_keyiterator.__iter__") (by kernel_rfl) rfl 'a' (by kernel_rfl)
theorem VF:entryFor table "set.__iter__"=lm Builtin.«frozenset.__iter__»:=entryFor_alias (id' := "frozenset.__iter__") (by kernel_rfl) rfl 'a' (by kernel_rfl)
variable{ks:List Str}{p:Z7}{b:Bool}{ps:List Nat}
section
theorem vf(hb:w.params.followText "set-order"=b):({ program:=(Z6 prog w).prog,params:=(Z6 prog w).w.params }:Setting).params.followText "set-order"=b:=hb
theorem VG{sl nx:Nat}{x:lu}{Q:Option lu->lx->Prop}(hi:s.heap.get? it=lm (wZ (lN sl) i a n ep))(b:s.heap.get? a=lm (jA es ep t))(f:t.fits es.size=lv)(z:es.size=n)(h:∀(A1:lG)(K:Option (lu×Nat)->lx->Prop)(R:lu->lx->Prop),K (lm (x,nx)) s->lA 'd' A1 (ou a sl i ep) K R s)(c:∀h',h'.get? it=lm (wZ (lN nx) (i+1) a n ep)->bh it s.heap h'->Q (lm x) { s with heap:=h' }):lA 'd' A (mR (.ref it)) Q E s:=by
 have k:s.TypeIs (.ref it) "set_iterator":=⟨_,hi,rfl⟩
 unfold mR;refine lq (mJ (lQ (name:=aa "__next__") k qO (lL qO k kS ?_ (vA _))));show lA _ _ (fieldsOf (.ref it) >>= _) _ _ s;refine lq (nQ hi rfl ?_);show lA _ _ (oQ a >>= _) _ _ s;refine lq (mC b rfl f ?_);rw[Ab (by rw[z];simp)];show lA _ _ (ou a sl i ep >>= _) _ _ s;refine lq (h _ _ _ ?_);show lA _ _ (n5 (.ref it) 0 (lN nx) >>= _) _ _ s;refine lq (lO hi rfl 'f' ?_);have h1:(s.heap.update it (ib (·.setIfInBounds 0 (lN nx)))).get? it=lm (wZ (lN nx) i a n ep):=bo _ hi rfl;refine lq (lO h1 rfl 'f' (ly ⟨x,rfl,ly (c _ ?_ ((bg ..).trans (bg ..)))⟩));exact bo _ h1 rfl
theorem VH{sl:Nat}{Q:Option lu->lx->Prop}(h:A.handled=lr)(hi:s.heap.get? it=lm (wZ (lN sl) i a n ep))(d:s.heap.get? a=lm (jA es ep t))(f:t.fits es.size=lv)(z:es.size=n)(c:∀(A1:lG)(K:Option (lu×Nat)->lx->Prop)(R:lu->lx->Prop),K lr s->lA 'd' A1 (ou a sl i ep) K R s)(e:∀h',i9 it s.heap h'->Q lr { s with heap:=h' }):lA 'd' A (mR (.ref it)) Q E s:=by
 have k:s.TypeIs (.ref it) "set_iterator":=⟨_,hi,rfl⟩
 unfold mR;refine lq (mJ (lQ (name:=aa "__next__") k qO (lL qO k kS ?_ (vA _))));show lA _ _ (fieldsOf (.ref it) >>= _) _ _ s;refine lq (nQ hi rfl ?_);show lA _ _ (oQ a >>= _) _ _ s;refine lq (mC d rfl f ?_);rw[Ab (by rw[z];simp)];show lA _ _ (ou a sl i ep >>= _) _ _ s;refine lq (c _ _ _ ?_);show lA _ _ (n5 (.ref it) 2 bH >>= _) _ _ s;refine lq (lO hi rfl 'f' ?_);show lA _ _ (newExc (.type "StopIteration") [] >>= _) _ _ _;refine lq ?_;simp only[newExc,newTuple];refine lq (lF ?_ (by size_fits));refine lq (m:=mL _ _) (m8 (a:=bH) (by first|rfl|(simp only[mL];rfl)) ?_);refine lF ?_ (by size_fits);simp only[raiseNew];refine lq (nX ?_);first|rw[show A.in1.handled=lr from h]|rw[h]
 refine lq (ly (nS ?_));refine lq (mP (T := "StopIteration") (b:=lv) ⟨_,ap _ rfl,rfl⟩ isSubtype_stop ?_);exact ly (e _ (((bg ..).extBut.push _).push _))
theorem Zz{pl m:Nat}{hx:Int}{x:lu}{ps:Array lu}{Q:Option lu->lx->Prop}(hi:s.heap.get? it=lm (wZ (.ref p) i a n ep))(f:s.heap.get? a=lm (jA es ep t))(h:t.fits es.size=lv)(z:es.size=n)(hp:s.heap.get? p=lm { cls:=.type "tuple",data:=.seq ps m })(l:ps[i]?=lm (lN pl))(hx:es[pl]?=lm (hx,x))(c:∀h',h'.get? it=lm (wZ (.ref p) (i+1) a n ep)->bh it s.heap h'->Q (lm x) { s with heap:=h' }):lA 'd' A (mR (.ref it)) Q E s:=by
 have k:s.TypeIs (.ref it) "set_iterator":=⟨_,hi,rfl⟩
 unfold mR;refine lq (mJ (lQ (name:=aa "__next__") k qO (lL qO k kS ?_ (vA _))));show lA _ _ (fieldsOf (.ref it) >>= _) _ _ s;refine lq (nQ hi rfl ?_);show lA _ _ (oQ a >>= _) _ _ s;refine lq (mC f rfl h ?_);rw[Ab (by rw[z];simp)];show lA _ _ (oI (.ref p) >>= _) _ _ s;refine lq (mF hp rfl ?_);dsimp only;rw[show ps[Int.toNat (i:Int)]?=lm (lN pl)from l];show lA _ _ (setNextDrawn a pl ep >>= _) _ _ s;refine lq ?_;unfold setNextDrawn;refine lq (lK f rfl h ?_);dsimp only;rw[Ab 'f',hx];refine ly ?_;show lA _ _ (n5 (.ref it) 1 (lN (i+1)) >>= _) _ _ s;refine lq (lO hi rfl 'f' (ly ⟨x,rfl,ly (c _ ?_ (bg ..))⟩));exact bo _ hi rfl
theorem qaH{m:Nat}{ps:Array lu}{Q:Option lu->lx->Prop}(h:A.handled=lr)(hi:s.heap.get? it=lm (wZ (.ref p) i a n ep))(c:s.heap.get? a=lm (jA es ep t))(f:t.fits es.size=lv)(z:es.size=n)(hp:s.heap.get? p=lm { cls:=.type "tuple",data:=.seq ps m })(l:ps[i]?=lr)(d:∀h',i9 it s.heap h'->Q lr { s with heap:=h' }):lA 'd' A (mR (.ref it)) Q E s:=by
 have k:s.TypeIs (.ref it) "set_iterator":=⟨_,hi,rfl⟩
 unfold mR;refine lq (mJ (lQ (name:=aa "__next__") k qO (lL qO k kS ?_ (vA _))));show lA _ _ (fieldsOf (.ref it) >>= _) _ _ s;refine lq (nQ hi rfl ?_);show lA _ _ (oQ a >>= _) _ _ s;refine lq (mC c rfl f ?_);rw[Ab (by rw[z];simp)];show lA _ _ (oI (.ref p) >>= _) _ _ s;refine lq (mF hp rfl ?_);dsimp only;rw[show ps[Int.toNat (i:Int)]?=lr from l];show lA _ _ (n5 (.ref it) 0 (lN 0) >>= _) _ _ s;refine lq (lO hi rfl 'f' ?_);have h1:(s.heap.update it (ib (·.setIfInBounds 0 (lN 0)))).get? it=lm (wZ (lN 0) i a n ep):=bo _ hi rfl;refine lq (lO h1 rfl 'f' ?_);show lA _ _ (newExc (.type "StopIteration") [] >>= _) _ _ _;refine lq ?_;simp only[newExc,newTuple];refine lq (lF ?_ (by size_fits));refine lq (m:=mL _ _) (m8 (a:=bH) (by first|rfl|(simp only[mL];rfl)) ?_);refine lF ?_ (by size_fits);simp only[raiseNew];refine lq (nX ?_);first|rw[show A.in1.handled=lr from h]|rw[h]
 refine lq (ly (nS ?_));refine lq (mP (T := "StopIteration") (b:=lv) ⟨_,ap _ rfl,rfl⟩ isSubtype_stop ?_);exact ly (d _ (((((bg ..).trans (bg ..))).extBut.push _).push _))
theorem gt{Q:lu->lx->Prop}(hi:s.heap.get? it=lm o)(d:o.cls=.type "set_iterator")(h:Q (.ref it) s):lA 'd' A (oM (.ref it)) Q E s:=by
 have k:s.TypeIs (.ref it) "set_iterator":=⟨_,hi,d⟩
 refine wpAny_pyIter_slot k xN (lL xN k JW ?_ (VE _));show lA _ _ (ret (.ref it)) _ _ s;exact ly ⟨_,rfl,"set_iterator",_,k,qO.lookup,h⟩
theorem qaI{ep:Nat}(r:A.handled=lr)(hb:w.params.followText "set-order"=lv)(f:t.fits es.size=lv)(g:a≠it):Walks prog w A it [it,a] [it] es.size (λi v=>((m9 (w.params.setOrder a ep) es).toList.map (·.2))[i]?=lm v) (λi h=>h.get? it=lm (wZ (lN 0) i a es.size ep)/\h.get? a=lm (jA es ep t)) where
 sub:=λb hb=>by simp at hb;simp[hb]
 frame:=λ_ _ _ st p=>⟨p it 'f' _ st.1,p a 'f' _ st.2⟩
 item:=λi s Q E hi st c=>by
  have n:(m9 (w.params.setOrder a ep) es).size=es.size:=by have:=(gq (w.params.setOrder a ep) es).length_eq;simpa using this
  have j:i<(m9 (w.params.setOrder a ep) es).size:=by lia
  obtain⟨e,he⟩:∃e,(m9 (w.params.setOrder a ep) es)[i]?=lm e:=⟨_,bY j⟩
  refine VG (x:=e.2) (nx:=0) st.1 st.2 f rfl (λA1 K R q=>?_) λh' k l=>c e.2 h' s.toks ?_ ⟨k,?_⟩ λb o d u=>?_;·unfold ou;refine lq (lK st.2 rfl f ?_);dsimp only;refine lq (m:=nR) (lq (lW (ly ?_)));rw[vf hb,Aa rfl,Ab 'f'];refine lq ?_;unfold setWalk;refine lq (lK st.2 rfl f ?_);dsimp only;refine lq (m:=nR) (lq (lW (ly ?_)));rw[vf hb,Aa rfl];refine lq (lW (ly ?_));refine ly ?_;rw[show(m9 ((⟨(Z6 prog w).prog,(Z6 prog w).w.params⟩:Setting).params.setOrder a ep) es)[i]?=lm e from he];exact q
  .rw[aJ,aV,he];rfl
  .rw[l.2 a g];exact st.2
  .rw[l.2 b (λz=>d (by simp[z]))];exact u
 done:=λs Q E st c=>by
  have n:(m9 (w.params.setOrder a ep) es).size=es.size:=by have:=(gq (w.params.setOrder a ep) es).length_eq;simpa using this
  refine VH r st.1 st.2 f rfl (λA1 K R q=>?_) λh' D=>c h' s.toks λb o d u=>D b o (λz=>d (by simp[z])) u;unfold ou;refine lq (lK st.2 rfl f ?_);dsimp only;refine lq (m:=nR) (lq (lW (ly ?_)));rw[vf hb,Aa rfl,Ab 'f'];refine lq ?_;unfold setWalk;refine lq (lK st.2 rfl f ?_);dsimp only;refine lq (m:=nR) (lq (lW (ly ?_)));rw[vf hb,Aa rfl];refine lq (lW (ly ?_));refine ly ?_;rw[show(m9 ((⟨(Z6 prog w).prog,(Z6 prog w).w.params⟩:Setting).params.setOrder a ep) es)[es.size]?=lr from dS (fL n)];exact q
 self:=λi s Q E st c=>gt st.1 rfl c
noncomputable def yh(t:l8)(i:Nat):Nat:=if i=0 then 0 else t.place.getD 0 0+1
theorem VI(j k:Nat):aX #[j] k=if j<k then 1 else 0:=by unfold aX;show aX.go #[j] k 1 0 1=_;unfold aX.go;rw[Aa 'b'];show(if (#[j]:Array Nat).getD 0 k<k then aX.go #[j] k 0 1 1 else aX.go #[j] k 0 0 0)=_;show(if j<k then aX.go #[j] k 0 1 1 else aX.go #[j] k 0 0 0)=_;split <;> rfl
theorem YX{Q:Option (lu×Nat)->lx->Prop}(hb:w.params.followText "set-order"=lw)(f:t.fits es.size=lv)(hl:t.led=lv)(c:es.size<=1)(d:s.heap.get? a=lm (jA es ep t))(hi:i<=es.size)(q:Q (match es[i]? with|some e=>lm (e.2,yh t (i+1))|none=>lr) s):lA 'd' A (ou a (yh t i) i ep) Q E s:=by
 have h:t.place.size=es.size:=by have:=f;simp only[SetTable.fits,aO,beq_iff_eq]at this;exact this.1
 unfold ou;refine lq (lK d rfl f ?_);dsimp only;refine lq (m:=nR) (lq (lW (ly ?_)));rw[vf hb,Ab 'f'];show lA _ _ (if (!t.plain&&decide (es.size > 1))=lv then _ else _) _ _ _;rw[Ab (by simp;intro _;lia)];refine lq ?_;show lA _ _ (if (!t.led&&!es.isEmpty)=lv then _ else _) _ _ _;rw[hl,Ab 'f'];refine ly (ly ?_);have e:(match es[aX t.place (yh t i)]?,t.place[aX t.place (yh t i)]? with|some (_,x),lm j=>lm (x,j+1)|_,_=>lr)=(match es[i]? with|some e=>lm (e.2,yh t (i+1))|none=>lr:Option (lu×Nat)):=by
  obtain⟨l⟩:=es;obtain⟨mask,⟨pl⟩,u,fi,le,mo,pn⟩:=t;cases l with
  |nil=>simp
  | cons e0 l=>
   cases l with
   |cons _ _=>exact absurd c 'f'
   | nil=>
    cases pl with
    |nil=>exact absurd h 'f'
    | cons j pl=>
     cases pl with
     |cons _ _=>exact absurd h 'f'
     |nil=>
      have b:i=0\/i=1:=by simp at hi;lia
      rcases b with rfl|rfl;·show(match (#[e0]:Array (Int×lu))[aX #[j] 0]?,(#[j]:Array Nat)[aX #[j] 0]? with|some (_,x),lm j=>lm (x,j+1)|_,_=>lr)=lm (e0.2,j+1);rw[VI,Ab 'b'];rfl
      .show(match (#[e0]:Array (Int×lu))[aX #[j] (j+1)]?,(#[j]:Array Nat)[aX #[j] (j+1)]? with|some (_,x),lm j=>lm (x,j+1)|_,_=>lr)=lr;rw[VI,Aa 'b'];rfl
 exact Eq.mp (congrArg (λz=>Q z s) e.symm) q
theorem qdp{ep:Nat}(l:A.handled=lr)(hb:w.params.followText "set-order"=lw)(f:t.fits es.size=lv)(hl:t.led=lv)(j:es.size<=1)(e:a≠it):Walks prog w A it [it,a] [it] es.size (λi v=>(es.toList.map (·.2))[i]?=lm v) (λi h=>h.get? it=lm (wZ (lN (yh t i)) i a es.size ep)/\h.get? a=lm (jA es ep t)) where
 sub:=λb hb=>by simp at hb;simp[hb]
 frame:=λ_ _ _ st k=>⟨k it 'f' _ st.1,k a 'f' _ st.2⟩
 item:=λi s Q E hi st c=>by
  have he:es[i]?=lm es[i]:=bY hi;refine VG (x:=es[i].2) (nx:=yh t (i+1)) st.1 st.2 f rfl (λA1 K R q=>YX hb f hl j st.2 (cH hi) (by rw[he];exact q)) λh' d g=>c es[i].2 h' s.toks ?_ ⟨d,?_⟩ λb o n u=>?_;·rw[aJ,aV,he];rfl
  .rw[g.2 a e];exact st.2
  .rw[g.2 b (λz=>n (by simp[z]))];exact u
 done:=λs Q E st c=>VH l st.1 st.2 f rfl (λA1 K R q=>YX hb f hl j st.2 (ao _) (by rw[dS (ao _)];exact q)) λh' D=>c h' s.toks λb o n u=>D b o (λz=>n (by simp[z])) u
 self:=λi s Q E st c=>gt st.1 rfl c
noncomputable def qiM(es:Array (Int×lu))(ps:List Nat):List lu:=ps.map λk=>(es[k]?.map (·.2)).getD .none
theorem qaJ(h:ps.Perm (aB es.size)):(qiM es ps).Perm (es.toList.map (·.2)):=by
 have e:qiM es (aB es.size)=es.toList.map (·.2):=by
  apply fR;intro i;unfold qiM;rw[aJ,aJ,show es.toList[i]?=es[i]? from aV];by_cases hi:i<es.size;·rw[List.getElem?_range hi,bY hi];simp[hi]
  .rw[cC (by rw[bD];lia),dS 'b'];rfl
 rw[<-e];exact h.map _
theorem ZA{ep m:Nat}(r:A.handled=lr)(q:t.fits es.size=lv)(hp:ps.Perm (aB es.size))(g:a≠it)(f:p≠it):Walks prog w A it [it,a,p] [it] es.size (λi v=>(qiM es ps)[i]?=lm v) (λi h=>h.get? it=lm (wZ (.ref p) i a es.size ep)/\h.get? a=lm (jA es ep t)/\h.get? p=lm { cls:=.type "tuple",data:=.seq (ps.map λ(i:Nat)=>lN i).toArray m }) where
 sub:=λb hb=>by simp at hb;simp[hb]
 frame:=λ_ _ _ st k=>⟨k it 'f' _ st.1,k a 'f' _ st.2.1,k p 'f' _ st.2.2⟩
 item:=λi s Q E hi st c=>by
  have n:ps.length=es.size:=by rw[hp.length_eq,bD]
  have l:i<ps.length:=by lia
  have k:ps[i]<es.size:=aN.mp (hp.mem_iff.mp (cF l));have he:es[ps[i]]?=lm es[ps[i]]:=bY k;refine Zz (x:=es[ps[i]].2) (hx:=es[ps[i]].1) (pl:=ps[i]) st.1 st.2.1 q rfl st.2.2 ?_ he λh' j d=>c es[ps[i]].2 h' s.toks ?_ ⟨j,?_,?_⟩ λb o e u=>?_;·rw[c9,aJ,aG l];rfl
  .unfold qiM;rw[aJ,aG l];simp[he]
  .rw[d.2 a g];exact st.2.1
  .rw[d.2 p f];exact st.2.2
  .rw[d.2 b (λz=>e (by simp[z]))];exact u
 done:=λs Q E st c=>by
  have n:ps.length=es.size:=by rw[hp.length_eq,bD]
  refine qaH r st.1 st.2.1 q rfl st.2.2 ?_ λh' D=>c h' s.toks λb o e u=>D b o (λz=>e (by simp[z])) u;rw[c9,cC (by simp;lia)]
 self:=λi s Q E st c=>gt st.1 rfl c
theorem qdq{A1:lG}{Q:lu->lx->Prop}(k:A1.handled=lr)(f:s.heap.get? a=lm (jA es ep t))(d:SetG KpS prog w es t ks)(n:∀(it:Z7)(h':Z5)(r:Drawn)(ord:List lu)(fp:List Z7)(St:Nat->Z5->Prop),'s'->ord.Perm (es.toList.map (·.2))->Walks prog w A1 it fp [it] es.size (λi v=>ord[i]?=lm v) St->St 0 h' ->(∀b∈fp,b=a\/s.heap.objs.size<=b)->s.heap.objs.size<=it->Q (.ref it) { s with heap:=h',drawn:=r }):lA 'd' A (oM (.ref a)) Q E s:=by
 have T:s.TypeIs (.ref a) "set":=⟨_,f,rfl⟩
 have c:a<s.heap.objs.size:=ax f;refine wpAny_pyIter_slot T PySem.F.slot_set_iter (lL PySem.F.slot_set_iter T VF ?_ (PySem.F.args_set_iter_1 _));show lA _ _ (Builtin.Frozenset.sizeOf a >>= _) _ _ s;refine lq (m:=Builtin.Frozenset.sizeOf a) (lq (mC f rfl d.fits (ly ?_)));refine lq (m:=setDrawn a) ?_;unfold setDrawn;refine lq (lK f rfl d.fits ?_);dsimp only;refine lq (m:=nR) (lq (lW (ly ?_)));refine ly ?_;cases hb:w.params.followText "set-order" with
 |true=>
  rw[vf hb,Ab 'f'];refine lq (ly ?_);refine lq (m:=setEpoch a) (wpAny_setEpoch_of f rfl d.fits ?_);refine lq (lF (ly ⟨_,rfl,"set_iterator",_,⟨_,ap _ rfl,rfl⟩,qO.lookup,?_⟩));refine n _ _ s.drawn _ _ _ (λb o e=>ac _ e) ((gq (w.params.setOrder a ep) es).map _) (qaI k hb d.fits (aD c)) ⟨ap _ rfl,ac _ f⟩ ?_ (ao _);intro b hb;rcases af.mp hb with z|z;·exact .inr (z ▸ ao _)
  .exact .inl (ay.mp z)
 | false=>
  have j:t.led=true:=by rw[d.led,hb];rfl
  rw[vf hb];show lA _ _ (if (!false&&(!t.plain&&decide (es.size > 1)))=lv then _ else _) _ _ _;by_cases q:es.size<=1
  .rw[Ab (by simp;intro _;lia)];refine lq (ly ?_);refine lq (m:=setEpoch a) (wpAny_setEpoch_of f rfl d.fits ?_);refine lq (lF (ly ⟨_,rfl,"set_iterator",_,⟨_,ap _ rfl,rfl⟩,qO.lookup,?_⟩));refine n _ _ s.drawn _ _ _ (λb o e=>ac _ e) (cJ _) (qdp k hb d.fits j q (aD c)) ⟨ap _ rfl,ac _ f⟩ ?_ (ao _);intro b hb;rcases af.mp hb with z|z;·exact .inr (z ▸ ao _)
   .exact .inl (ay.mp z)
  .have l:t.plain=false:=d.plain rfl λz=>by
    have u:=d.size;rw[z,bv]at u
    lia
   rw[Aa (by rw[l];simp;lia)];refine lq (qaF es.size (aB es.size) s 'f' λps r hp=>?_);have g:ps.length=es.size:=by rw[hp.length_eq,bD]
   have hsz:(ps.map λ(i:Nat)=>lN i).length<=Z8:=by rw[aq,g];exact nv d.bd
   refine lq (wpAny_newTuple ?_ hsz);refine lq (m:=setEpoch a) (wpAny_setEpoch_of (ac _ f) rfl d.fits ?_);refine lq (lF (ly ⟨_,rfl,"set_iterator",_,⟨_,ap _ rfl,rfl⟩,qO.lookup,?_⟩));have h:s.heap.objs.size<(s.heap.push ({ cls:=.type "tuple",data:=.seq (ps.map λ(i:Nat)=>lN i).toArray }:Obj)).objs.size:=by rw[bP];exact eZ _
   refine n _ _ r _ _ _ (λb o e=>ac _ (ac _ e)) (qaJ hp) (ZA (p:=s.heap.objs.size) k d.fits hp (aD (dQ c h)) (aD h)) ⟨ap _ rfl,ac _ (ac _ f),ac _ (ap _ rfl)⟩ ?_ (cH h);intro b hb;rcases af.mp hb with z|z;·exact .inr (z ▸ cH h)
   .rcases af.mp z with z|z;·exact .inl z
    .exact .inr (fL (ay.mp z).symm)
end
section
theorem qdr{ord:List lu}{acc:Array lu}(hl:ord.length=n)(h:ItemsOf (λi v=>ord[i]?=lm v) acc n):acc.toList=ord:=by
 apply fR;intro i;rw[show acc.toList[i]?=acc[i]? from aV];by_cases hi:i<acc.size;·rw[bY hi];exact(h.2 i _ (bY hi)).symm
 .rw[dS 'b',cC (by have:=h.1;lia)]
theorem Uu{Q:List lu->lx->Prop}(L:A.handled=lr)(I:s.heap.get? a=lm (jA es ep t))(d:SetG KpS prog w es t ks)(M:∀h' v tk ord,'s'->ord.Perm (es.toList.map (·.2))->Q ord { s with heap:=h',drawn:=v,toks:=tk }):lA 'd' A (collect (.ref a)) Q E s:=by
 have k:a<s.heap.objs.size:=ax I;unfold collect;refine lq (wpAny_runValue (lV PySem.F.entry_proto_collect ?_));rw[cq PySem.F.plain_proto_collect _];show lA _ A.in1 (newList [] >>= λl=>again (.builtin "list.__iadd__" ⟨[l,.ref a],[]⟩)) _ _ s;refine lq (lF ?_);refine ly ⟨mU PySem.F.plain_list_iadd _,lV PySem.F.entry_list_iadd ?_⟩;rw[cq PySem.F.plain_list_iadd _];have c:(s.heap.push { cls:=.type "list",data:=.seq ([]:List lu).toArray }).get? a=lm (jA es ep t):=ac _ I;have T:iR { s with heap:=s.heap.push { cls:=.type "list",data:=.seq ([]:List lu).toArray } } (.ref a) "set":=⟨_,c,rfl⟩
 show lA _ A.in1 (Builtin.List.listExtendWith 'k' (.ref a) 'k') _ _ _;unfold Builtin.List.listExtendWith;refine lq (mH T ?_);have h1:Builtin.List.listSameRef 'k' (.ref a)=false:=by simp[Builtin.List.listSameRef,eI k]
 rw[Ab (by rw[h1];decide)];refine lq (qdq (A1:=A.in1) L c d λit h2 v ord fp St k2 hp W B D hit=>?_);have r:h2.get? s.heap.objs.size=lm { cls:=.type "list",data:=.seq ([]:List lu).toArray }:=k2 _ _ (ap _ rfl);have C:h2.get? a=lm (jA es ep t):=k2 _ _ c;refine lq (lH ?_);unfold Builtin.List.listLengthHint;have f:iR { s with heap:=h2,drawn:=v } (.ref a) "set":=⟨_,C,rfl⟩
 refine lq (wpAny_specialOf f PySem.F.slot_set_len.lookup ?_)
 (generalize hid:("set.__len__":String)=id0;(fail_if_success (clear hid id0));wp_delta;rw[show splitId id0=lm ("set","__len__")from by subst hid;decide +kernel];subst hid)
 refine lq (mP (b:=lv) f (by rw[ny];kernel_rfl) ?_);refine lq (m:=nP (.ref a)) (mH f ?_);refine ly ?_;show lA _ A.in1 (rule "list.extend.makes-room" >>= λ_=>Builtin.List.listTouch 'k' >>= λ_=>again (.builtin "list.extend.loop" ⟨[.ref s.heap.objs.size,.ref it,.ref s.heap.objs.size],[]⟩)) _ _ _;refine lq (nE (lq ?_));show lA _ A.in1 (updateSeq s.heap.objs.size (·.push .none) >>= λ_=>updateSeq s.heap.objs.size (·.pop)) _ _ _;refine lq (wpAny_updateSeq r rfl ?_);have h:=bo (cR (·.push bH)) r rfl;refine wpAny_updateSeq h rfl ?_;have g:=bo (cR (·.pop)) h rfl;have j:(s.heap.push ({ cls:=.type "list",data:=.seq ([]:List lu).toArray }:Obj)).objs.size=s.heap.objs.size+1:=bP ..;have i:∀b o,b≠s.heap.objs.size->h2.get? b=lm o->((h2.update s.heap.objs.size (cR (·.push bH))).update s.heap.objs.size (cR (·.pop))).get? b=lm o:=λb o hb e=>(bT _ _ (bj hb)).trans ((bT _ _ (bj hb)).trans e);have H:s.heap.objs.size∉fp:=λz=>by
  rcases D _ z with q|q;·exact eI k q
  .exact Nat.not_succ_le_self _ (j ▸ q)
 have n:ord.length=es.size:=by rw[hp.length_eq];simp
 refine ly ⟨mU PySem.F.plain_extend_loop _,codeAny_extend_loopS W.toS (nv d.bd) _ H _ es.size 0 _ _ _ rfl (be _) (W.frame 0 h2 _ B λb hb o e=>i b o (λz=>H (z ▸ hb)) e) g (ItemsOf.nil _) λs' K S u G p=>?_⟩;show lA _ A (load s.heap.objs.size >>= _) _ _ s';refine lq (wpAny_load G (ly ?_));rw[qdr n p];obtain⟨h',g',d',x,y⟩:=s';have O:g'=s.gens:=u.gens;have P:d'=v:=u.drawn;have N:y=s.os:=u.os;subst O P N;refine M h' d' x ord (λb o e=>?_) hp;have hb:=ax e;refine u.heap b o (λz=>?_) (i b o (aD hb) (k2 b o (ac _ e)));rcases af.mp z with z|z;·exact aD hb z
 .have J:s.heap.objs.size+1<=it:=j ▸ hit;rw[<-ay.mp z]at J;exact bS _ (dQ hb J)
theorem ZC{Q:lu->lx->Prop}(l:A.handled=lr)(S:SetK KpS prog w s.heap a ks)(i:ks.length<64)(q:∀(h1 h':Z5) r tk vs e ss,(∀b o,s.heap.get? b=lm o->h1.get? b=lm o)->(∀b o,h1.get? b=lm o->h'.get? b=lm o)->h'.get? h1.objs.size=lm (lX "list" vs e)->nU vs.toList ss->ss.Perm ks->sortedS ss=lv->Q (.ref h1.objs.size) { s with heap:=h',drawn:=r,toks:=tk }) :
  lA 'd' A (call (.builtin "sorted") [.ref a]) Q E s:=by
 obtain⟨es,ep,t,p,d⟩:=S;refine fh kind_sorted plain_sorted entry_sorted (args_sorted1 _) ?_;unfold Builtin.«sorted»;refine lq (m:=checkCount "sorted" 1 1 _) (ly ?_);refine lq (Uu (by exact l) p d λh1 r tk ord k1 hp=>?_);have c:nU ord (ord.map strOf):=strsAre_map ord λv k=>by obtain⟨e,he,rfl⟩:=aw.mp (hp.mem_iff.mp k);exact qiK d.el he
 have h:(ord.map strOf).Perm ks:=(hp.map strOf).trans (by rw[bV];exact d.perm);have n:ord.length=ks.length:=by have:=h.length_eq;rwa [aq]at this
 refine lq (nY ?_ (by rw[n,lE];lia));have W:(h1.push (lX "list" ord.toArray 0)).get? h1.objs.size=lm (lX "list" ord.toArray 0):=ap _ rfl;refine lq (lH (lL slot_list_sort (s:={ s with heap:=h1.push (lX "list" ord.toArray 0),drawn:=r,toks:=tk }) ⟨_,W,rfl⟩ entry_list_sort (list_sort_treeK strKind_oneLt W c.keysOf (λv₁ j rest e=>keyKind_strs (by rw[<-e];exact c)) (by rw[n];exact i) λf B z=>⟨_,rfl,?_⟩) (args_list_sort _)));obtain⟨g,y,x,u⟩:=sorted_out_str c B z;obtain⟨e,he⟩:=sortedHeap_at (out:=(arrOf f).map (·.2)) W;refine ly ⟨_,rfl,q h1 _ r tk _ e g k1 (λb o D=>?_) he y (x.trans h) u⟩;have hb:=ax D;rw[sortedHeap_old (aD hb) (by rw[bP];exact cO hb)];exact ac _ D
end
section
theorem VJ{x:lu}{Q:lu->lx->Prop}(hit:s.heap.IsTupleIter it l i)(hl:s.heap.IsTuple l items)(hx:items[i]?=lm x)(c:∀h',h'.IsTupleIter it l (i+1)->bh it s.heap h'->Q x { s with heap:=h' }):lA 'd' A (dg (.ref it)) Q E s:=by
 obtain⟨o,h,d,hd⟩:=id hit;obtain⟨ol,a,_,n,b⟩:=hl;unfold dg;refine lq (lQ (name:=aa "__next__") hit.typeIs cw (lL cw hit.typeIs PySem.F.entry_tuple_iterator_next ?_ (PySem.F.args_tuple_iterator_next_1 _)));show lA _ _ (field (.ref it) 0 >>= _) _ _ s;refine lq (lU h hd (x:=.ref l) rfl ?_);show lA _ _ (if (aR l == bH)=lv then _ else _) _ _ s;rw[Ab (show ¬((aR l == bH)=lv)from bE)];show lA _ _ (field (.ref it) 1 >>= _) _ _ s;refine lq (lU h hd (x:=.int i 0) rfl ?_);show lA _ _ (oI (.ref l) >>= _) _ _ s;refine lq (mF a b ?_);simp only[fO,hx];refine lq (lO h hd 'f' (ly ⟨x,rfl,ly (c _ ?_ (bg ..))⟩));exact⟨_,bo _ h (d7 (dR hd _)),(Obj.cls_mapFields ..).trans d,by rw[dR hd];simp[lN]⟩
theorem zt{Q:lu->lx->Prop}(d:A.handled=lr)(hit:s.heap.IsTupleIter it l i)(hl:s.heap.IsTuple l items)(hx:items[i]?=lr)(j:∀h' e,i9 it s.heap h'->(∃o,h'.get? e=lm o/\o.cls=.type "StopIteration")->E (.ref e) { s with heap:=h' }):lA 'd' A (dg (.ref it)) Q E s:=by
 obtain⟨o,b,f,hd⟩:=id hit;obtain⟨ol,h,_,n,c⟩:=hl;unfold dg;refine lq (lQ (name:=aa "__next__") hit.typeIs cw (lL cw hit.typeIs PySem.F.entry_tuple_iterator_next ?_ (PySem.F.args_tuple_iterator_next_1 _)));show lA _ _ (field (.ref it) 0 >>= _) _ _ s;refine lq (lU b hd (x:=.ref l) rfl ?_);show lA _ _ (if (aR l == bH)=lv then _ else _) _ _ s;rw[Ab (show ¬((aR l == bH)=lv)from bE)];show lA _ _ (field (.ref it) 1 >>= _) _ _ s;refine lq (lU b hd (x:=.int i 0) rfl ?_);show lA _ _ (oI (.ref l) >>= _) _ _ s;refine lq (mF h c ?_);simp only[fO,hx];refine lq (nE (lq (lO b hd 'f' ?_)));show lA _ _ (newExc (.type "StopIteration") [] >>= _) _ _ _;refine lq ?_;simp only[newExc,newTuple];refine lq (lF ?_ (by size_fits));refine lq (m:=mL _ _) (m8 (a:=bH) (by first|rfl|(simp only[mL];rfl)) ?_);refine lF ?_ (by size_fits);simp only[raiseNew];refine lq (nX ?_);first|rw[show A.in1.handled=lr from d]|rw[d]
 refine lq (ly (nS ?_));exact j _ _ (((bg ..).extBut.push _).push _) ⟨_,ap _ rfl,rfl⟩
theorem Uv(g:A.handled=lr)(it l:Z7)(d:l≠it)(items:Array lu):Draws prog w A it [it,l] items.size (λi v=>items[i]?=lm v) (λi h=>h.IsTupleIter it l i/\h.IsTuple l items) where
 live:=λ_ _ st=>let ⟨o,f,_⟩:=st.1; ⟨o,f⟩
 frame:=λ_ _ _ st k=>⟨st.1.at λo e=>k it 'f' o e,let ⟨o,e,c⟩:=st.2; ⟨o,k l 'f' o e,c⟩⟩
 item:=λi s Q E hi st j=>by refine VJ st.1 st.2 (x:=items[i]) (by simp[hi]) λh' b a=>j _ h' s.toks (by simp[hi]) ⟨b,?_⟩ a;obtain⟨o,e,c⟩:=st.2;exact⟨o,(a.2 l d).trans e,c⟩
 done:=λs Q E st m=>zt g st.1 st.2 'f' m
variable{z TI TO i1 i2:Z7}{fp1 fp2:List Z7}{n1 n2:Nat}{P1 P2:Nat->lu->Prop}{S1 S2:Nat->Z5->Prop}{a b:lu}
end
section
theorem qem(b:A.handled=lr)(k:SK)(it l:Z7)(e:l≠it)(items:Array lu):Draws prog w A it [it,l] items.size (λi v=>items[i]?=lm v) (λi h=>ItK h it l k i/\SeqK h l k items):=by
 cases k with
 |l=>exact Draws.list b it l e items
 |t=>exact Uv b it l e items
end
variable{t':Nat}
section
theorem qaK{ch:List Z7}(I:Inv X Z9 σ H s)(k:∀b o,b∉ch->s.heap.get? b=lm o->h'.get? b=lm o)(h:∀b∈ch,WP X Z9 H b):Inv X Z9 σ H { s with heap:=h',toks:=t' }:=by
 have t:∀b u,H b=lm u->b∉ch:=λb u e z=>by rw[(h b z).1]at e;cases e
 refine I.step (g':=s.gens) (d':=s.drawn) (ch:=ch) (λb hb=>?_) (λb o _ _ d e _=>k b o d e) (λb o _ _ d e _=>⟨o.slots,k b o d e⟩) (λ_ _ _ _ n=>n) (λb o d e=>⟨o,k b o d e⟩) (λ_ _ e=>e) (λ_ _ _ e=>e) (λb ps e=>⟨#[],by rw[e];simp⟩) (λm a=>?_) (λb u e=>?_) I.bare;·obtain⟨f0,f1,f2,g,f4,f⟩:=h b hb;exact⟨g,f1,f4,f⟩
 .obtain⟨o,es,ep,l,r⟩:=a;exact⟨o,es,ep,k _ o (λz=>(h _ z).2.1 rfl) l,r⟩
 .refine(I.hok b u e).stay (λc v d q=>k c v ?_ q) (λ_ q=>q) λ_ _ q=>q;rcases d with z|z
  .rw[z];exact t b u e
  .exact t c _ z
theorem qmo{d':Drawn}(I:Inv X Z9 σ H s)(k:∀b u,s.heap.get? b=lm u->h'.get? b=lm u):Inv X Z9 σ H { s with heap:=h',drawn:=d',toks:=t' }:=by refine I.step (g':=s.gens) (d':=d') (ch:=[]) (λ_ z=>nomatch z) (λb o _ _ _ e _=>k b o e) (λb o _ _ _ e _=>⟨o.slots,k b o e⟩) (λ_ _ _ _ n=>n) (λb o _ e=>⟨o,k b o e⟩) (λ_ _ e=>e) (λ_ _ _ e=>e) (λb ps e=>⟨#[],by rw[e];simp⟩) (λm c=>?_) (I.hok.kept k) I.bare;obtain⟨o,es,ep,l,r⟩:=c;exact⟨o,es,ep,k _ o l,r⟩
end
variable{us:List lu}
theorem qaL{xs:List V}(r:Vals xs us)(h:us[i]?=lm u):∃x,xs[i]?=lm x/\RelV x u:=by
 have hi:i<us.length:=(aE.mp h).1;have hx:i<xs.length:=by rw[r.length];exact hi
 obtain⟨U,h1,h2⟩:=r.get (aG hx);rw[h]at h1;cases h1;exact⟨xs[i],aG hx,h2⟩
def leS(x y:Str):Prop:=¬y.cps.toList<x.cps.toList
def qhx(x:Str):List Str->List Str
 |[]=>[x]
 |y::l=>if wO y x=lv then y::qhx x l else x::y::l
def vt:List Str->List Str
 |[]=>[]
 |x::l=>qhx x (vt l)
variable{y:Str}
theorem VL{z:Str}(a:leS x y)(b:leS y z):leS x z:=List.le_trans (α:=Nat) a b
theorem qaM(x y:Str):leS x y\/leS y x:=List.le_total (α:=Nat) x.cps.toList y.cps.toList
theorem qds(a:leS x y)(b:leS y x):x=y:=by have e:=List.le_antisymm (α:=Nat) (as:=x.cps.toList) (bs:=y.cps.toList) a b;obtain⟨⟨l⟩⟩:=x;obtain⟨⟨m⟩⟩:=y;simp at e;rw[e]
theorem gu:wO y x=lw↔leS x y:=by unfold wO leS;exact decide_eq_false_iff_not
theorem gx(x:Str):∀l,(qhx x l).Perm (x::l)
 |[]=>cJ _
 |y::l=>by
  unfold qhx;split;·exact((gx x l).cons y).trans (fQ _ _ _)
  .exact cJ _
theorem qN:∀l,(vt l).Perm l
 |[]=>cJ _
 |x::l=>(gx x _).trans ((qN l).cons x)
set_option tactic.hygienic true in
theorem gy(x:Str):∀l,l.Pairwise leS->(qhx x l).Pairwise leS
 |[],_=>List.pairwise_singleton _ _
 | y::l,h=>by
  have d:=bK.mp h;unfold qhx;split
  .rename_i t;have c:leS y x:=by
    rcases qaM y x with q|q;·exact q
    .rw[<-gu]at q;rw[q]at t;cases t
   refine bK.mpr ⟨λz a=>?_,gy x l d.2⟩;rcases af.mp ((gx x l).mem_iff.mp a)with rfl|a;·exact c
   .exact d.1 z a
  .rename_i t;have b:leS x y:=gu.mp (by cases e:wO y x with|true=>exact absurd e t|false=>rfl);refine bK.mpr ⟨λz a=>?_,h⟩;rcases af.mp a with rfl|a;·exact b
   .exact VL b (d.1 z a)
theorem jQ:∀l,(vt l).Pairwise leS
 |[]=>fP
 |x::l=>gy x _ (jQ l)
theorem yI:∀{l m:List Str},l.Perm m->l.Pairwise leS->m.Pairwise leS->l=m
 |[],m,p,_,_=>p.nil_eq
 |x::l,[],p,_,_=>absurd p.length_eq 'f'
 | x::l,y::m,p,hl,hm=>by
  have a:=bK.mp hl;have b:=bK.mp hm;have c:x=y:=by
   have h1:y∈x::l:=p.mem_iff.mpr (aj ..);have h2:x∈y::m:=p.mem_iff.mp (aj ..);rcases af.mp h1 with e|e;·exact e.symm
   .rcases af.mp h2 with d|d;·exact d
    .exact qds (a.1 y e) (b.1 x d)
  subst c;rw[yI p.cons_inv a.2 b.2]
theorem Jd:∀(x:Str)(l:List Str),risingS x l=lv->(x::l).Pairwise leS
 |x,[],_=>List.pairwise_singleton _ _
 |x,y::l,h=>by
  have h:(!ltCps y.cps.toList x.cps.toList&&risingS y l)=true:=h;rw[aO]at h;have j:=Jd y l h.2;have b:leS x y:=by have h1:=h.1;rw[ltCps_eq]at h1;unfold leS;simpa using h1
  refine bK.mpr ⟨λz a=>?_,j⟩;rcases af.mp a with rfl|a;·exact b
  .exact VL b ((bK.mp j).1 z a)
theorem Uw:∀(l:List Str),sortedS l=lv->l.Pairwise leS
 |[],_=>fP
 |x::l,h=>Jd x l h
variable{ss:List Str}
theorem VM(p:ss.Perm ks)(h:sortedS ss=lv):ss=vt ks:=yI (p.trans (qN ks).symm) (Uw ss h) (jQ ks)
noncomputable def yi:List D->Option (List Str)
 |[]=>lm []
 |.str x::l=>(yi l).map (x::·)
 |_::_=>lr
def wK:D->Option (List Str)
 |.lst ds=>yi ds
 |.tup ds=>yi ds
 |_=>lr
noncomputable def qhy[DecidableEq κ](T:KP κ)(P:lC)(w:lD)(p:Z7)(ks:List κ):HO:=.ext λh=>SetK T P w h p ks
theorem qf1[DecidableEq κ]{T:KP κ}{ks:List κ}(x:SetK T P w h p ks):ObjOk P w H h p (qhy T P w p ks):=
 ⟨x,let ⟨_,_,_,e,_⟩:=x; ⟨_,e⟩,λ_ _ a k=>a.at k⟩
structure KD{κ:Type}[DecidableEq κ](T:KP κ) where
 sqd:D->Option (List κ)
 ok:κ->Prop
 get:∀{K:Y9}{F:Hp}{dx:D}{ss:List κ},sqd dx=lm ss->∃ds,Uh dx=.ok ds/\∀{vs:List V}{us:List lu},IsL K F vs ds->Vals vs us->us.length=ss.length/\(∀(i:Nat)(v:lu),us[i]?=lm v->∃x,ss[i]?=lm x/\∀p w,(T.kd p w).is x v=lv)/\∀x∈ss,ok x
theorem gz(a:IsL K F vs ds)(l:Vals vs us)(e:yi ds=lm ss):nU us ss/\∀x∈ss,x.length<=Z8:=by
 induction ds generalizing vs us ss with
 |nil=>cases a;cases l;cases e;exact⟨.nil,λx h=>nomatch h⟩
 | cons d ds j=>
  cases a with
  | cons i a=>
   cases l with
   | cons r l=>
    cases d with
    |str x=>
     obtain⟨sl,q,rfl⟩:=aS.mp (show(yi ds).map (x::·)=lm ss from e);cases i with
     |str b=>obtain⟨t,rfl⟩:=r;obtain⟨i1,i2⟩:=j a l q;exact⟨.cons x t i1,λy B=>(af.mp B).elim (λz=>z ▸ b) (i2 y)⟩
    |_=>cases e
section
variable{own:List Nat}{e:Z4}{fa:qW}{ma:Mo}{pos:Pos}
theorem VN:∀(l ks:List Str){x:Str},x∈l.foldl QD ks->x∈ks\/x∈l
 |[],ks,x,h=>.inl h
 | y::l,ks,x,h=>by
  rcases VN l (QD ks y) h with q|q
  .unfold QD at q;split at q;·exact .inl q
   .rcases aI.mp q with q|q;·exact .inl q
    .exact .inr (by rw[ay.mp q];exact aj ..)
  .exact .inr (ae _ q)
theorem YY(e:yi ds=lm ss)(l:IsL K F vs ds)(d:Vals vs us):us.length=ss.length/\(∀(i:Nat)(v:lu),us[i]?=lm v->∃x,ss[i]?=lm x/\∀p w,(KpS.kd p w).is x v=lv)/\∀x∈ss,x.length<=Z8:=by obtain⟨st,B⟩:=gz l d e;refine⟨st.length,λi v h=>?_,B⟩;obtain⟨y,t,e1,a⟩:=st.item i v h;refine⟨y,a,λp w=>?_⟩;rw[e1];show fm y (.str y t)=lv;simp[fm]
def KdS:KD KpS where
 sqd:=wK
 ok:=λy=>y.length<=Z8
 get:=λ{K F dx ss} e=>by
  cases dx with
  |lst ds=>exact⟨ds,rfl,YY e⟩
  |tup ds=>exact⟨ds,rfl,YY e⟩
  |_=>cases e
theorem qen[DecidableEq κ]{T:KP κ}(U:KD T)(E:C.K=X.K)(A:X.calm=lv):vR X (.type "set") (λxs H Q=>∃x F dx ss,xs=[x]/\Same F H/\TopIs C.K F H x dx/\U.sqd dx=lm ss/\ss.length<4000/\((∀y∈ss,U.ok y)->∀p,H p=lr->Q (.ref p) (upd H p (qhy T X.prog X.w p (ss.foldl wa []))))):=by
 intro Z9 s σ H xs us Q I r h;obtain⟨x,F,dx,ss,rfl,f,t,es,hl,q⟩:=h;obtain⟨u,rfl,j⟩:=wl r;obtain⟨ds,e,hg⟩:=U.get (K:=C.K) (F:=F) es;obtain⟨a,sk,vs,rfl,hq,m⟩:=qaA f t e;cases j;rw[E]at hq;obtain⟨its,o,n,g,l,c,z,hd,G⟩:=Jb I hq;obtain⟨d,hi,B⟩:=hg m g;refine qaE (T:=T) (λA1 J R hA k=>?_) λh' tk S kp=>⟨.ref s.heap.objs.size,_,I.laid (t':=tk) kp (ao _) (qf1 S),rfl,q B _ (I.hok.fresh (ao _))⟩
 exact qmn (sk:=sk) (items:=its.toArray) (hA.trans (I.ok.hd A)) (qaD (ap _ rfl)) (.of (ac _ l) hd c) (by simp[d]) (λi v e=>(hi i v (by simpa using e)).imp λx h=>⟨h.1,h.2 _ _⟩) (by rw[au,d];unfold og;lia) (aD (ax l)) λh' tk S kp=>k h' tk S λb o D=>kp b o (aD (ax D)) (ac _ D)
theorem yJ:∀{us:List lu}{ss:List Str},nU us ss->Vals (ss.map V.str) us
 |_,_,.nil=>.nil
 |_,_,.cons y t h=>.cons ⟨t,rfl⟩ (yJ h)
theorem qaN(c:X.calm=lv):vR X (.builtin "sorted") (λxs H Q=>∃a ks,xs=[.ref a]/\H a=lm (qhy KpS X.prog X.w a ks)/\ks.length<64/\∀p,H p=lr->Q (.ref p) (upd H p (.lst ((vt ks).map V.str)))):=by
 intro Z9 s σ H xs us Q I r h;obtain⟨a,ks,rfl,f,i,q⟩:=h;obtain⟨u,rfl,y⟩:=wl r;cases y;have S:SetK KpS X.prog X.w s.heap a ks:=(I.hok a _ f).1;refine ZC (I.ok.hd c) S i λh1 h' b tk vs e ss k1 k2 hp st pm so=>?_;rw[VM pm so]at st;have d:Inv X Z9 σ H { s with heap:=h1,drawn:=b,toks:=tk }:=qmo I k1;have z:(vt ks).length<=Z8:=by
  rw[(qN ks).length_eq,lE]
  lia
 refine⟨.ref h1.objs.size,_,d.laid (t':=tk) (o:=.lst ((vt ks).map V.str)) k2 (ao _) ⟨by rw[aq];exact z,vs.toList,e,yJ st,by simpa[lX]using hp⟩,rfl,q _ (d.hok.fresh (ao _))⟩
theorem qf2[DecidableEq κ]{T:KP κ}:vR X (.builtin "len") (λxs H Q=>∃a ks,xs=[.ref a]/\H a=lm (qhy T X.prog X.w a ks)/\Q (.int ks.length) H):=by intro Z9 s σ H xs us Q I r h;obtain⟨a,ks,rfl,f,q⟩:=h;obtain⟨u,rfl,y⟩:=wl r;cases y;obtain⟨es,ep,t,l,d⟩:SetK T X.prog X.w s.heap a ks:=(I.hok a _ f).1;have hb:=d.bd;refine call_len_set l ⟨rfl,rfl,rfl⟩ rfl d.fits (by unfold og at hb;lia) ?_;exact⟨.int ks.length,H,I.tok _,⟨_,by rw[d.size]⟩,q⟩
theorem gA{m:Mo}{f:qW}{Q R:VK}(h:tE C own m f σ H Q)(i:∀v H1,Q v H1->R v H1):tE C own m f σ H R:=by
 obtain⟨F,ρ,r,po⟩:=h;refine⟨F,ρ,r,?_⟩;cases q:f ρ with
 |ok p=>rw[q]at po;obtain⟨d,ρ1⟩:=p;exact λv F1 H1 a b c=>i _ _ (po v F1 H1 a b c)
 |exc c ρ1=>rw[q]at po;exact po
 |bad=>rw[q]at po;exact po.elim
def uz(d:D):Out D:=match wK d with
 |some ss=>if ss.length<64 then .ok (.lst ((vt (ss.foldl QD [])).map D.str))else .bad
 |none=>.bad
def gB(d:D):Out D:=match wK d with
 |some ss=>if ss.length<4000 then .ok (.int (ss.foldl QD []).length)else .bad
 |none=>.bad
theorem yK:∀{ss:List Str},(∀x∈ss,x.length<=Z8)->IsL K F (ss.map V.str) (ss.map D.str)
 |[],_=>.nil
 |x::l,h=>.cons (.str (h x (aj ..))) (yK λy B=>h y (ae _ B))
theorem Je{p p2 a:Pos}(r:C.K=X.K)(j:X.calm=lv)(hg:Gl X "sorted")(n:X.mg "sorted"=lr)(v:lB "sorted"=lm (.builtin "sorted"))(i:Gl X "set")(g:X.mg "set"=lr)(d:lB "set"=lm (.type "set"))(o:PE X e 'p')(he:lz [e] X.env=['j']:=by exact qF rfl)(c:lz [.Call (.Name "set" p2) [e] [] a] X.env=[(lw,Z0 (.Call (.Name "set" p2) [e] [] a) X.env)]:=by exact qF rfl) :
  PE X (.Call (.Name "sorted" p) [.Call (.Name "set" p2) [e] [] a] [] pos) (tE C own .fr (d1 uz fa)):=by
 refine jp (vw (qaN j) hg n v (qI (vS (qen KdS r j) i g d (qI o jq he) 'e' 'e' (by rw[he];rfl) rfl) jq c) 'e' 'e' (by rw[c];rfl) rfl) λσ H Q h=>?_;refine gA (xw (ma:=ma) h) λx H1 k=>?_;obtain⟨A,F,dx,ex,s,m,po⟩:=k;cases ex;unfold uz at po;cases es:wK dx with
 |none=>rw[es]at po;exact po.elim
 | some ss=>
  rw[es]at po;by_cases hl:ss.length<64
  .have po:PoV C .fr F H1 (if ss.length<64 then .ok (.lst ((vt (ss.foldl QD [])).map D.str))else .bad) Q:=po;rw[Aa hl,<-YW]at po;refine⟨x,F,dx,ss,rfl,s,m,es,by lia,λB q hq=>⟨q,_,rfl,qm,?_,λl f=>?_⟩⟩
   .have:=wY ss [];rw[bv]at this
    lia
   .obtain⟨s1,c1,f1⟩:=ke (u:=qhy KpS X.prog X.w q (ss.foldl wa [])) s hq;obtain⟨s2,c2,f2⟩:=ke (u:=.lst ((vt (ss.foldl wa [])).map V.str)) s1 f;have t:H1 l=none:=by
     by_cases z:l=q;·rw[z]at f;rw[qm]at f;cases f
     .rwa [qw z]at f
    refine po _ _ _ s2 (c1.trans' c2) ⟨l,rfl,t,f2,_,qm,yK λy b=>B y ?_⟩;rw[YW]at b;rcases VN ss [] ((qN _).mem_iff.mp b)with z|z;·cases z
    .exact z
  .have po:PoV C .fr F H1 (if ss.length<64 then .ok (.lst ((vt (ss.foldl QD [])).map D.str))else .bad) Q:=po;rw[Ab hl]at po;exact po.elim
noncomputable def qjP[DecidableEq κ]{T:KP κ}(U:KD T)(add:List κ->κ->List κ)(d:D):Out D:=match U.sqd d with
 |some ss=>if ss.length<4000 then .ok (.int (ss.foldl add []).length)else .bad
 |none=>.bad
theorem ZD[DecidableEq κ]{T:KP κ}(U:KD T){p p2 a:Pos}(l:C.K=X.K)(f:X.calm=lv)(hg:Gl X "len")(m:X.mg "len"=lr)(v:lB "len"=lm (.builtin "len"))(i:Gl X "set")(g:X.mg "set"=lr)(d:lB "set"=lm (.type "set"))(j:PE X e 'p')(he:lz [e] X.env=['j']:=by exact qF rfl)(c:lz [.Call (.Name "set" p2) [e] [] a] X.env=[(lw,Z0 (.Call (.Name "set" p2) [e] [] a) X.env)]:=by exact qF rfl) :
  PE X (.Call (.Name "len" p) [.Call (.Name "set" p2) [e] [] a] [] pos) (tE C own .sh (d1 (qjP U wa) fa)):=by
 refine jp (vw (qf2 (T:=T)) hg m v (qI (vS (qen U l f) i g d (qI j jq he) 'e' 'e' (by rw[he];rfl) rfl) jq c) 'e' 'e' (by rw[c];rfl) rfl) λσ H Q h=>?_;refine gA (xw (ma:=ma) h) λx H1 z=>?_;obtain⟨k,F,dx,ex,t,b,po⟩:=z;cases ex;unfold qjP at po;cases es:U.sqd dx with
 |none=>rw[es]at po;exact po.elim
 |some ss=>
  rw[es]at po;have po:PoV C .sh F H1 (if ss.length<4000 then .ok (.int (ss.foldl wa []).length)else .bad) Q:=po;by_cases hl:ss.length<4000;·rw[Aa hl]at po;refine⟨x,F,dx,ss,rfl,t,b,es,hl,λB q hq=>⟨q,_,rfl,qm,?_⟩⟩;obtain⟨s1,c1,f1⟩:=ke (u:=qhy T X.prog X.w q (ss.foldl wa [])) t hq;exact po _ _ _ s1 c1 (.int _)
  .rw[Ab hl]at po;exact po.elim
theorem qaO{p p2 a:Pos}(l:C.K=X.K)(b:X.calm=lv)(hg:Gl X "len")(m:X.mg "len"=lr)(v:lB "len"=lm (.builtin "len"))(i:Gl X "set")(g:X.mg "set"=lr)(h:lB "set"=lm (.type "set"))(f:PE X e 'p')(he:lz [e] X.env=['j']:=by exact qF rfl)(c:lz [.Call (.Name "set" p2) [e] [] a] X.env=[(lw,Z0 (.Call (.Name "set" p2) [e] [] a) X.env)]:=by exact qF rfl) :
  PE X (.Call (.Name "len" p) [.Call (.Name "set" p2) [e] [] a] [] pos) (tE C own .sh (d1 gB fa)):=by
 rw[show gB=qjP KdS wa by rw[YW];funext d;have q:KdS.sqd d=wK d:=rfl;unfold gB qjP;rw[q];cases wK d <;> rfl];exact ZD KdS l b hg m v i g h f he c
end
variable{β:Type}
@[simp] theorem ky{a:α}{k:α->Out β}:(Out.ok a).bind k=k a:=rfl
@[simp] theorem qlI{c:Str}{o:Sl}{k:α->Out β}:(Out.exc c o:Out α).bind k=.exc c o:=rfl
@[simp] theorem qlJ{k:α->Out β}:(Out.bad:Out α).bind k=.bad:=rfl
@[simp] theorem qiN{a:α}:(Out.ok a).plain=.ok a:=rfl
@[simp] theorem qlK:(Out.bad:Out α).plain=.bad:=rfl
variable{c:Prop}
@[simp] theorem qlL[Decidable c]{a b:Out α}{k:α->Out β}:(if c then a else b).bind k=if c then a.bind k else b.bind k:=by split <;> rfl
@[simp] theorem qlM[Decidable c]{a b:Out α}:(if c then a else b).plain=if c then a.plain else b.plain:=by split <;> rfl
noncomputable def qdt(d:D)(A B:Out α):Out α:=match d with
 |.bl b=>if b=lv then A else B
 |_=>.bad
@[simp] theorem qjQ{A B:Out α}:qdt (.bl b) A B=if b=lv then A else B:=rfl
noncomputable def qlN(p:D×Sl):Out (Bool×Sl):=match p.1 with
 |.bl b=>.ok (b,p.2)
 |_=>.bad
variable{ρ:Sl}
@[simp] theorem qkQ:qlN (.bl b,ρ)=.ok (b,ρ):=rfl
def Jf(ms:List PM):Out (Fl×Sl)->Out (D×List D)
 |.ok (.nx,ρ)=>.ok (.non,jC ρ 0 ms)
 |.ok (.rt d,ρ)=>.ok (d,jC ρ 0 ms)
 |.ok _=>.bad
 |.exc c ρ=>.exc c ((jC ρ 0 ms).map lm)
 |.bad=>.bad
variable{ms:List PM}
theorem qo{f:qM}:jI N ms f ds=Jf ms (f (qr N ds)):=by unfold jI Jf;rfl
@[simp] theorem qlO:Jf ms (.ok (.rt d,ρ))=.ok (d,jC ρ 0 ms):=rfl
@[simp] theorem qlP:Jf ms (.ok (.nx,ρ))=.ok (.non,jC ρ 0 ms):=rfl
@[simp] theorem qkR{c:Str}:Jf ms (.exc c ρ)=.exc c ((jC ρ 0 ms).map lm):=rfl
@[simp] theorem qkS[Decidable c]{a b:Out (Fl×Sl)}:Jf ms (if c then a else b)=if c then Jf ms a else Jf ms b:=by split <;> rfl
def ZE(as:List AK)(ρ:Sl):Out (D×List D)->Vl
 |.ok q=>.ok (q.1,xJ as q.2 ρ)
 |.exc c o=>.exc c (xJ as (o.map (·.getD .non)) ρ)
 |.bad=>.bad
variable{as:List AK}
@[simp] theorem qjR{q:D×List D}:ZE as ρ (.ok q)=.ok (q.1,xJ as q.2 ρ):=rfl
@[simp] theorem qiO{c:Str}{o:Sl}:ZE as ρ (.exc c o)=.exc c (xJ as (o.map (·.getD .non)) ρ):=rfl
@[simp] theorem qiP[Decidable c]{a b:Out (D×List D)}:ZE as ρ (if c then a else b)=if c then ZE as ρ a else ZE as ρ b:=by split <;> rfl
variable{ρ:Sl}
@[simp] theorem qf3:qc i ρ=match ρ[i]? with|some (lm d)=>.ok (d,ρ)|_=>.bad:=rfl
@[simp] theorem qmp:dC d ρ=.ok (d,ρ):=rfl
variable{gg:D->Sl->Out Sl}
section
variable{g g':D->D->Out D}{g1:D->Out D}{fa fb fc f:qW}{ft fu:yu}{fr:vV}{fs ft1:qM}{fi:vV}{G:jy}
@[simp] theorem yL:d1 g1 fa ρ=(fa ρ).bind λp=>(g1 p.1).plain.bind λd=>.ok (d,p.2):=rfl
@[simp] theorem qkT:d2 g fa fb ρ=(fa ρ).bind λp=>(fb p.2).bind λq=>(g p.1 q.1).plain.bind λd=>.ok (d,q.2):=rfl
@[simp] theorem qkU:wS f ρ=(f ρ).bind λp=>(Gg p.1).bind λb=>.ok (b,p.2):=rfl
@[simp] theorem qjS:qK f ρ=(f ρ).bind qlN:=rfl
@[simp] theorem qkV:uN ft ρ=(ft ρ).bind λp=>.ok (!p.1,p.2):=rfl
@[simp] theorem qjT:qkN f ρ=(qK f ρ).bind λp=>.ok (.bl (!p.1),p.2):=rfl
@[simp] theorem qkW:qin ft fu ρ=(ft ρ).bind λp=>if p.1=lv then fu p.2 else .ok (lw,p.2):=rfl
@[simp] theorem qlQ:dOr ft fu ρ=(ft ρ).bind λp=>if p.1=lv then .ok (lv,p.2)else fu p.2:=rfl
set_option tactic.hygienic true in
@[simp] theorem qjU:Qx fa fb ρ=(fa ρ).bind λp=>qdt p.1 (fb p.2) (.ok (.bl lw,p.2)):=by
 unfold Qx;cases fa ρ with
 |ok p=>
  obtain⟨d,r⟩:=p;cases d <;> try rfl
  rename_i b;cases b <;> rfl
 |exc c o=>rfl
 |bad=>rfl
set_option tactic.hygienic true in
@[simp] theorem qkX:qjJ fa fb ρ=(fa ρ).bind λp=>qdt p.1 (.ok (.bl lv,p.2)) (fb p.2):=by
 unfold qjJ;cases fa ρ with
 |ok p=>
  obtain⟨d,r⟩:=p;cases d <;> try rfl
  rename_i b;cases b <;> rfl
 |exc c o=>rfl
 |bad=>rfl
@[simp] theorem qlR:dIf ft fa fb ρ=(ft ρ).bind λp=>if p.1=lv then fa p.2 else fb p.2:=rfl
set_option tactic.hygienic true in
@[simp] theorem qiQ:wU g g' fa fb fc ρ=(fa ρ).bind λp=>(fb p.2).bind λq=>(g p.1 q.1).plain.bind λz=>qdt z ((fc q.2).bind λr=>(g' q.1 r.1).plain.bind λd=>.ok (d,r.2)) (.ok (.bl lw,q.2)):=by
 unfold wU;congr 1;funext p;congr 1;funext q;congr 1;funext z;cases z <;> try rfl
 rename_i b;cases b <;> rfl
@[simp] theorem qkY:qA ρ=.ok ([],ρ):=rfl
@[simp] theorem qjV:qb fa fr ρ=(fa ρ).bind λp=>(fr p.2).bind λq=>.ok (p.1::q.1,q.2):=rfl
@[simp] theorem qjW:kx fr ρ=(fr ρ).bind λq=>.ok (D.non::q.1,q.2):=rfl
@[simp] theorem qkZ:zD fr ρ=(fr ρ).bind λp=>if p.1.length<=Z8 then .ok (.tup p.1,p.2)else .bad:=rfl
@[simp] theorem qk0:xq fr ρ=(fr ρ).bind λp=>if p.1.length<=Z8 then .ok (.lst p.1,p.2)else .bad:=rfl
@[simp] theorem qjX:jd ρ=.ok (.nx,ρ):=rfl
@[simp] theorem ua:qH fs ft1 ρ=(fs ρ).bind λp=>match p.1 with|.nx=>ft1 p.2|_=>.ok p:=by
 show _=_;unfold qH;cases fs ρ with
 |ok p=>obtain⟨fl,r⟩:=p;cases fl <;> rfl
 |exc c o=>rfl
 |bad=>rfl
@[simp] theorem qlS:sIf ft fs ft1 ρ=(ft ρ).bind λp=>if p.1=lv then fs p.2 else ft1 p.2:=rfl
@[simp] theorem qjY:kG f ρ=(f ρ).bind λp=>.ok (.nx,p.2):=rfl
@[simp] theorem Ux:jl f ρ=(f ρ).bind λp=>.ok (.rt p.1,p.2):=rfl
@[simp] theorem Uy:jz i f ρ=(f ρ).bind λp=>if i<p.2.length then .ok (.nx,p.2.set i (lm p.1))else .bad:=rfl
@[simp] theorem qjZ:qt as G fr ρ=(fr ρ).bind λp=>match kf as p.1 p.2 with|some ds=>ZE as p.2 (G ds)|none=>.bad:=rfl
@[simp] theorem qk1:qmk f ρ=(f ρ).bind λp=>(Uh p.1).bind λds=>.ok (ds,p.2):=rfl
@[simp] theorem qk2:jv f ρ=(f ρ).bind λp=>(ju p.1).bind λds=>.ok (ds,p.2):=rfl
@[simp] theorem qlT:gNm i d ρ=if i < ρ.length then .ok (ρ.set i (lm d))else .bad:=rfl
@[simp] theorem vL:QX fi gg fs ρ=(fi ρ).bind λp=>jU gg fs p.1 p.2:=rfl
@[simp] theorem qk3:qml f gg ρ=(f ρ).bind λp=>match gg p.1 p.2 with|.ok ρ'=>.ok (.nx,ρ')|_=>.bad:=rfl
@[simp] theorem qk4{gg:List D->D->Out (List D)}:Qu i gg f ρ=if zr ρ[i]?=lv then(f ρ).bind λp=>(match p.2[i]? with|some (lm (.lst xs))=>(match gg xs p.1 with|.ok ys=>.ok (.non,p.2.set i (lm (.lst ys)))|_=>.bad)|_=>.bad)else .bad:=rfl
@[simp] theorem qlU:ftT ρ=.ok (lv,ρ):=rfl
end
def qj0(i j:Int):Prop:=(0<=j/\j<=64)/\-4611686018427387904<i/\i<4611686018427387904
instance:∀i j,Decidable (qj0 i j):=λi j=>inferInstanceAs (Decidable (_/\_))
variable{X:Cx}{C:Ct}
section
theorem qiR:OpR X (mf .Pow) (rI qj0 λi j=>.int (i ^ j.toNat)):=opI λi j _ _ _ _ _ d q=>by obtain⟨⟨a,h1⟩,h2,g⟩:=d;exact pow_int_small a (by omega) (by omega) q
def qk5:D->D->Out D:=KU λi j=>if qj0 i j then .ok (.int (i ^ j.toNat))else .bad
theorem qiS:OpD X C .sh (mf .Pow) qk5:=GN qiR λ_ _ _=>.int _
end
def QF(sep:Str):D->Out D
 |.lst ds=>match yi ds with
  |some ss=>if (ss.map (·.length)).sum+ss.length * sep.length<=16777216/\(fA sep ss).length<=Z8 then .ok (.str (fA sep ss))else .bad
  |none=>.bad
 |_=>.bad
variable{own:List Nat}{e:Z4}{m:Mo}
section
variable{fe:qW}{apos cpos:Pos}{sep:Str}
theorem qf4:MtR X "str.join" (λx vs H Q=>∃(sep:Str)(a:Z7)(xs:List V)(ss:List Str),x=.str sep/\vs=[.ref a]/\SqL X.K H a xs/\(∀us,Vals xs us->nU us ss)/\(ss.map (·.length)).sum+ss.length * sep.length<=16777216/\Q (.str (fA sep ss)) H):=by intro Z9 s σ H x vs v us Q I d c h;obtain⟨sep,a,xs,ss,rfl,rfl,hq,hb,z,q⟩:=h;obtain⟨t,rfl⟩:=d;obtain⟨u,rfl,y⟩:=c.one;cases y;obtain⟨its,r,pl,_⟩:=I.list hq;obtain⟨o,n,l,e,hd,b⟩:=pl;exact join_list ⟨o,l,e,n,b⟩ (by simpa using hb its r) z λt' k=>⟨.str (fA sep ss),H,I.tok _,⟨_,rfl⟩,q⟩
set_option tactic.hygienic true in
theorem Uz{c1 c2}(o:C.K=X.K)(he:PE X e (tE C own m fe))(f:lP (.Constant (.str sep) c1 c2) "join" X.env (Z0 (.Constant (.str sep) c1 c2) X.env)=Z0 (.Constant (.str sep) c1 c2) X.env:=by rfl)
  (w:((lM cpos (lz [e] X.env)).all (λx=>!x.1)&&(mz cpos (lT [] X.env)).all (λx=>x.1.isSome)
   && decide 'r')=true:=by exact vy rfl)
  (b:(apos.endLine == cpos.line)=true:=by rfl) (hs:lz [e] X.env=['j']:=by exact qF rfl) :
  PE X (.Call (.Attribute (.Constant (.str sep) c1 c2) "join" apos) [e] [] cpos) (tE C own .sh (d1 (QF sep) fe)):=by
 refine jp (WZ PySem.F.plainAttrs_str PySem.F.slot_str_join PySem.F.type_str_join qf4 qec (qI he jq hs) f w b hs rfl) λσ H Q h=>?_;refine⟨rfl,?_⟩;obtain⟨F,ρ,n,h⟩:=JM (ma:=m) h;refine⟨F,ρ,n,?_⟩;cases q:fe ρ with
 | ok p=>
  rw[q]at h;obtain⟨d,ρ1⟩:=p;intro v F1 H1 g c1 j;obtain⟨u,dx,s,l,po⟩:=h v F1 H1 g c1 j;cases dx <;> try exact po.elim
  rename_i ds;unfold QF at po;cases i:yi ds with
  |none=>simp only[i]at po;exact po.elim
  | some ss=>
   simp only[i]at po;by_cases z:(ss.map (·.length)).sum+ss.length * sep.length<=16777216/\(fA sep ss).length<=Z8
   .rw[Aa z]at po;obtain⟨a,vs,rfl,hq,t⟩:=l.lst s;have k:SqL X.K H1 a vs:=by rw[<-o];exact hq
    exact⟨sep,a,vs,ss,rfl,rfl,k,λus r=>(gz t r i).1,z.1,po _ u H1 s .refl (.str z.2)⟩
   .rw[Ab z]at po;exact po.elim
 |exc c=>rw[q]at h;exact h
 |bad=>rw[q]at h;exact h.elim
end
def dM(k:D->Bool)(g:D->D->Out D)(fo fa:qW):qW:=λρ=>(fo ρ).bind λp=>if k p.1 then(fa p.2).bind λq=>(g p.1 q.1).plain.bind λd=>.ok (d,q.2)else .bad
variable{a b:Z4}{ma mb:Mo}{pos:Pos}{σ:St}{F H:Hp}
section
variable{fa fb:qW}
theorem Po.imp{r:Vl}{Q R:VK}(h:Po C own m σ F H r Q)(i:∀v H',Q v H'->R v H'):Po C own m σ F H r R:=by
 cases r with
 |ok p=>exact λv F' H' a c mo=>i v H' (h v F' H' a c mo)
 |exc x=>exact h
 |bad=>exact h.elim
theorem UA{k:D->Bool}{g:D->D->Out D}{Q:VK}(f:ma≠.any)(h:tE C own m (dM k g fa fb) σ H Q):tE C own ma fa σ H λx H1=>(∃F dx,Same F H1/\TopIs C.K F H1 x dx/\k dx=lv)/\tE C own mb fb σ H1 λy H2=>∃F dx j,Same F H2/\TopIs C.K F H2 x dx/\TopIs C.K F H2 y j/\PoV C m F H2 (g dx j) Q:=by
 obtain⟨F,ρ,p,h⟩:=h;refine⟨F,ρ,p,Po.bind h λv F1 H1 d ρ1 a c1 c h1=>?_⟩;cases i:k d with
 |false=>simp only[i]at h1;exact h1.elim
 |true=>simp only[i,if_true]at h1;exact⟨⟨F1,d,a.sub,c.top,i⟩,F1,ρ1,a,Po.bind h1 λw l H2 e ρ2 r c2 b h2=>⟨l,d,e,r.sub,(c.grow f c2 λx z=>(p.OA_there z).1).top,b.top,PoV.of r h2⟩⟩
def MtD(X:Cx)(C:Ct)(m:Mo)(id:String)(g:D->D->Out D):Prop:=
 MtR X id (λx vs H Q=>∃y F dx d,vs=[y]/\Same F H/\TopIs C.K F H x dx/\TopIs C.K F H y d/\PoV C m F H (g dx d) Q)
end
variable{Z9:Pns}{s:lx}{n:Nat}
theorem qaP(I:Inv X Z9 σ H s)(f:Same F H){e:D}:∀{vs:List V}{ds:List D}{us:List lu}{b:Bool},IsL X.K F vs ds->Vals vs us->QT n e ds=lm b ->us.map (Gf X F n e)=ds.map λd=>eqN n d e == lm lv
 |_,_,_,b,.nil,.nil,h=>rfl
 |_,_,_,b,.cons i t,.cons r rs,h=>by obtain⟨a,c,q,g,rfl⟩:=Vo h;rw[aF,aF,qaP I f t rs g,GU I f i r q,q];cases a <;> rfl
variable{w:lD}
section
variable{prog:lC}{A:lG}{E:lu->lx->Prop}
theorem UB{l:Z7}{T:String}{o:Obj}{its:List lu}{ss:List Str}{Q:lu->lx->Prop}(k:T = "list"\/T = "tuple")(h:s.heap.get? l=lm o)(d:o.cls=.type T)(hd:o.data=.seq its.toArray n)(c:nU its ss)(i:its.length<64)(a:∀(h1 h':Z5) vs e g,(∀b o,s.heap.get? b=lm o->h1.get? b=lm o)->(∀b o,h1.get? b=lm o->h'.get? b=lm o)->h'.get? h1.objs.size=lm (lX "list" vs e)->nU vs.toList g->g.Perm ss->sortedS g=lv->Q (.ref h1.objs.size) { s with heap:=h' }) :
  lA 'd' A (call (.builtin "sorted") [.ref l]) Q E s:=by
 refine fh kind_sorted plain_sorted entry_sorted (args_sorted1 _) ?_;unfold Builtin.«sorted»;refine lq (m:=checkCount "sorted" 1 1 _) (ly ?_);refine lq (wpAny_collect_seq l k h d hd (λh1 k1=>?_) (by rw[au,lE];lia));show lA _ _ _ _ _ { s with heap:=h1 };refine lq (nY ?_ (by rw[fk,lE];lia));rw[fk];have W:(h1.push (lX "list" its.toArray 0)).get? h1.objs.size=lm (lX "list" its.toArray 0):=ap _ rfl;refine lq (lH (lL slot_list_sort (s:={ s with heap:=h1.push (lX "list" its.toArray 0) }) ⟨_,W,rfl⟩ entry_list_sort (list_sort_treeK strKind_oneLt W c.keysOf (λv₁ j rest e=>keyKind_strs (by rw[<-e];exact c)) i λf t r=>⟨_,rfl,?_⟩) (args_list_sort _)));obtain⟨g,q,p,v⟩:=sorted_out_str c t r;obtain⟨e,he⟩:=sortedHeap_at (out:=(arrOf f).map (·.2)) W;refine ly ⟨_,rfl,a h1 _ _ e g k1 (λb o D=>?_) he q p v⟩;have hb:=ax D;rw[sortedHeap_old (aD hb) (by rw[bP];exact cO hb)];exact ac _ D
end
def ub(d:D):Out D:=match wK d with
 |some ss=>if ss.length<64 then .ok (.lst ((vt ss).map D.str))else .bad
 |none=>.bad
section
theorem qaQ(m:C.K=X.K):xu X C .fr (.builtin "sorted") ub:=by
 intro Z9 s σ H xs us Q I r h;obtain⟨x,F,dx,rfl,g,j,po⟩:=h;obtain⟨u,rfl,k⟩:=wl r;unfold ub at po;cases es:wK dx with
 |none=>rw[es]at po;exact po.elim
 | some ss=>
  rw[es]at po;by_cases hl:ss.length<64
  .have po:PoV C .fr F H (if ss.length<64 then .ok (.lst ((vt ss).map D.str))else .bad) Q:=po;rw[Aa hl]at po;have fin:∀{l:Z7}{T:String}{o:Obj}{its:List lu}{n:Nat},T = "list"\/T = "tuple"->s.heap.get? l=lm o->o.cls=.type T->o.data=.seq its.toArray n->nU its ss->(∀y∈ss,y.length<=Z8)->lA 'c' X.A (call (.builtin "sorted") [.ref l]) (EP X Z9 σ Q) X.xe s:=by
    intro l T o its n E d f hd c B;refine UB E d f hd c (by rw[c.length];exact hl) λh1 h' vs e q k1 k2 hp st pm so=>?_;rw[VM pm so]at st;have p:Inv X Z9 σ H { s with heap:=h1 }:=I.kept (t':=s.toks) k1;have z:(vt ss).length<=Z8:=by
     rw[(qN ss).length_eq,lE]
     lia
    have hq:H h1.objs.size=none:=p.hok.fresh (ao _);obtain⟨s2,c2,f2⟩:=ke (u:=.lst ((vt ss).map V.str)) g hq;exact⟨.ref h1.objs.size,_,p.laid (t':=s.toks) (o:=.lst ((vt ss).map V.str)) k2 (ao _) ⟨by rw[aq];exact z,vs.toList,e,yJ st,by simpa[lX]using hp⟩,rfl,po _ _ _ s2 c2 ⟨_,rfl,hq,f2,_,qm,yK λy i=>B y ((qN _).mem_iff.mp i)⟩⟩
   cases dx with
   |lst ds=>obtain⟨a,vs,rfl,hq,t⟩:=j.lst g;rw[m]at hq;cases k;obtain⟨its,v,pl,_⟩:=I.list hq;obtain⟨o,n,d,f,hd,b⟩:=pl;obtain⟨st,B⟩:=gz t v es;exact fin (.inl rfl) d f b st B
   |tup ds=>obtain⟨a,vs,rfl,hq,t⟩:=j.tup g;rw[m]at hq;cases k;obtain⟨its,v,pl,_⟩:=I.tuple hq;obtain⟨o,d,f,n,b⟩:=pl;obtain⟨st,B⟩:=gz t v es;exact fin (.inr rfl) d f b st B
   |_=>cases es
  .have po:PoV C .fr F H (if ss.length<64 then .ok (.lst ((vt ss).map D.str))else .bad) Q:=po;rw[Ab hl]at po;exact po.elim
end
noncomputable def qlV:qM:=λ_=>.bad
section
variable{own':List Nat}{sts:List Z3}
theorem qf5:PSs X sts (tSt C own own' qlV):=by refine⟨?_⟩;intro Z9 s σ H D I h;obtain⟨_,_,_,h⟩:=h;exact h.elim
end
theorem PoI.shift{F1 H1:Hp}{r:Out (List D×Sl)}{R:It->Hp->Prop}(h:PoI C own σ F H r R)(c:Chg (OA own σ) F H F1 H1):PoI C own σ F1 H1 r R:=by
 cases r with
 |ok p=>exact λJ F' H' a S j=>h J F' H' a (c.trans' S) j
 |exc x=>exact λF' H' s io S=>h F' H' s io (c.trans' S)
 |bad=>exact h.elim
def qeo(i j:Int):Prop:=(-(2 ^ 62)<=i/\i<2 ^ 62)/\-(2 ^ 62)<=j/\j<2 ^ 62
instance:∀i j,Decidable (qeo i j):=λi j=>inferInstanceAs (Decidable (_/\_))
def UC(fa fb:qW):vV:=λρ=>(fa ρ).bind λp=>(fb p.2).bind λq=>match p.1,q.1 with
 |.int i,.int j=>if qeo i j then .ok (Qz i (j - i).toNat,q.2)else .bad
 |_,_=>.bad
variable{lo:Int}{K:Y9}
section
variable{tg:Z4}{fa fb:qW}
theorem ZF{p:Pos}(hg:Gl X "range")(l:X.mg "range"=lr)(n:PE X a (tE C own .sh fa))(hb:PE X b (tE C own mb fb))(hs:lz [a,b] X.env=[(lw,Z0 a X.env),(lw,Z0 b X.env)]:=by exact qcO rfl rfl)(f:lz [b] X.env=[(lw,Z0 b X.env)]:=by exact qF rfl):PI X tg (.Call (.Name "range" p) [a,b] [] pos) (tIt C own (UC fa fb)):=by
 refine qc1 (Gs hg l (qI n (qI hb jq f) (by rw[hs,f])) hs f) λσ H R ⟨F,ρ,k,h⟩=>⟨F,ρ,k,PoI.bindV h λv F1 H1 d ρ1 g c1 c h1=>⟨F1,ρ1,g,PoI.bindV (h1.shift c1) λw o H2 e ρ2 r c2 m h2=>?_⟩⟩
 have c:Is C.K F1 v d:=c;cases d with
 | int i=>
  cases e with
  |int j=>
   cases c;obtain rfl:=m.top.int;have h2:PoI C own σ F1 H1 (if qeo i j then .ok (Qz i (j - i).toNat,ρ2)else .bad) R:=h2;by_cases z:qeo i j;·rw[Aa z]at h2;exact⟨i,j,rfl,⟨z.1.1,z.1.2,z.2.1,z.2.2⟩,h2 _ o H2 r c2 qeh⟩
   .rw[Ab z]at h2;exact h2.elim
  |_=>exact h2.elim
 |_=>exact h2.elim
theorem qaR:∀{xs:List V}{us:List lu},xs.length=us.length->(∀(j:Nat)(x:V)(u:lu),xs[j]?=lm x->us[j]?=lm u->RelV x u)->Vals xs us
 |[],[],_,_=>.nil
 |x::xs,u::us,hl,h=>.cons (h 0 x u rfl rfl) (qaR (Nat.succ.inj hl) λj y w a b=>h (j+1) y w (by simpa using a) (by simpa using b))
 |[],_::_,hl,_=>nomatch hl
 |_::_,[],hl,_=>nomatch hl
noncomputable def qj1(p:Z7)(lo hi:Int):HO:=.ext λh=>∃t u v,IsRange h p lo hi 1 t u v
theorem qf6{P:lC}{h:Z5}{p:Z7}{hi:Int}{t u v:Tok}(x:IsRange h p lo hi 1 t u v):ObjOk P w H h p (qj1 p lo hi):=
 ⟨⟨t,u,v,x⟩,⟨_,x⟩,λ_ _ ⟨t,u,v,x⟩ k=>⟨t,u,v,k _ x⟩⟩
theorem qaS:vR X (.type "range") (λxs H Q=>∃j:Int,xs=[.int j]/\∀p,H p=lr->Q (.ref p) (upd H p (qj1 p 0 j))):=by intro Z9 s σ H xs us Q I r h;obtain⟨j,rfl,q⟩:=h;obtain⟨u,rfl,y⟩:=wl r;obtain⟨t,rfl⟩:=y;exact call_range_1 ⟨.ref s.heap.objs.size,_,I.laid (t':=s.toks+1+1) (λb o e=>ac _ e) (ao _) (qf6 (IsRange.new ..)),rfl,q _ (I.hok.fresh (ao _))⟩
theorem qdu(e:X.calm=lv):vR X (.type "list") (λxs H Q=>∃r lo hi,xs=[.ref r]/\H r=lm (qj1 r lo hi)/\(qeo lo hi/\hi - lo<=1000000)/\∀p,H p=lr->Q (.ref p) (upd H p (.lst ((aB (hi - lo).toNat).map λk=>V.int (lo+(k:Nat)))))):=by
 intro Z9 s σ H xs us Q I r h;obtain⟨a,lo,hi,rfl,f,z,q⟩:=h;obtain⟨u,rfl,y⟩:=wl r;cases y;obtain⟨t,u,v,d⟩:=(I.hok a _ f).1;have l:Builtin.Range.rangeSize lo hi 1=(((hi - lo).toNat:Nat):Int):=by rw[rangeSize_one];split <;> lia
 refine call_list_range (n:=(hi - lo).toNat) (I.ok.hd e) d (small_one z.1.1.1 z.1.1.2 z.1.2.1 z.1.2.2) l 'b' λh' tk acc c k hp b=>?_;refine⟨.ref s.heap.objs.size,_,I.laid (t':=tk) (o:=.lst ((aB (hi - lo).toNat).map λk=>V.int (lo+(k:Nat)))) k (ao _) ⟨by rw[aq,bD,lE];lia,acc.toList,c,?_,by simpa using hp⟩,rfl,q _ (I.hok.fresh (ao _))⟩;refine qaR (by rw[aq,bD,aM,b.1]) λj x w ex g=>?_;rw[aJ]at ex;obtain⟨k,i,rfl⟩:=aS.mp ex;obtain⟨D,rfl⟩:=aE.mp i;obtain⟨t,rfl⟩:=b.2 j w (by simpa using g);exact⟨t,by simp⟩
def uA:D->Out D
 |.int j=>if qeo 0 j/\j - 0<=1000000 then .ok (.lst (Qz 0 (j - 0).toNat))else .bad
 |_=>.bad
theorem qaT:∀l:List Nat,IsL K F (l.map λk=>V.int (lo+(k:Nat))) (l.map λk=>D.int (lo+(k:Nat)))
 |[]=>.nil
 |k::l=>.cons (.int _) (qaT l)
set_option tactic.hygienic true in
theorem ZG{p p2 a:Pos}(r:X.calm=lv)(hg:Gl X "list")(o:X.mg "list"=lr)(v:lB "list"=lm (.type "list"))(i:Gl X "range")(g:X.mg "range"=lr)(d:lB "range"=lm (.type "range"))(w:PE X e 'p')(he:lz [e] X.env=['j']:=by exact qF rfl)(c:lz [.Call (.Name "range" p2) [e] [] a] X.env=[(lw,Z0 (.Call (.Name "range" p2) [e] [] a) X.env)]:=by exact qF rfl) :
  PE X (.Call (.Name "list" p) [.Call (.Name "range" p2) [e] [] a] [] pos) (tE C own .fr (d1 uA fa)):=by
 refine jp (vS (qdu r) hg o v (qI (vS qaS i g d (qI w jq he) 'e' 'e' (by rw[he];rfl) rfl) jq c) 'e' 'e' (by rw[c];rfl) rfl) λσ H Q h=>?_;refine gA (xw (ma:=ma) h) λx H1 m=>?_;obtain⟨y,F,dx,ex,s,n,po⟩:=m;cases ex;cases dx <;> try exact po.elim
 rename_i j;unfold uA at po;by_cases b:qeo 0 j/\j - 0<=1000000
 .simp only[Aa b]at po;obtain rfl:=n.int;refine⟨j,rfl,λq hq=>⟨q,0,j,rfl,qm,b,λl f=>?_⟩⟩;obtain⟨s1,c1,f1⟩:=ke (u:=qj1 q 0 j) s hq;obtain⟨s2,c2,f2⟩:=ke (u:=.lst ((aB (j - 0).toNat).map λk=>V.int (0+(k:Nat)))) s1 f;have t:H1 l=none:=by
   by_cases z:l=q;·rw[z]at f;rw[qm]at f;cases f
   .rwa [qw z]at f
  exact po _ _ _ s2 (c1.trans' c2) ⟨l,rfl,t,f2,_,qm,qaT _⟩
 .simp only[Ab b]at po;exact po.elim
end
theorem qaU:lB "enumerate"=lm (.type "enumerate"):=by decide +kernel
noncomputable def VO(xs:List D):List D:=(xs.zipIdx).map λp=>.tup [.int (p.2:Nat),p.1]
def qaV(f:qW):vV:=λρ=>(f ρ).bind λp=>match p.1 with
 |.lst xs=>.ok (VO xs,p.2)
 |_=>.bad
noncomputable def txI(i:Int):Str:=toString i
def CTx(i:Int):Prop:=i.natAbs.log2<1920/\(txI i).length<=Z8
instance:∀i,Decidable (CTx i):=λi=>inferInstanceAs (Decidable (_/\_))
def qep:D->Out D
 |.int i=>if CTx i then .ok (.str (txI i))else .bad
 |_=>.bad
section
set_option tactic.hygienic true in
theorem qaW:xu X C .sh (.type "str") qep:=by
 intro Z9 s σ H xs us Q I r h;obtain⟨x,F,dx,rfl,b,t,po⟩:=h;cases dx <;> try exact po.elim
 rename_i i;have po:PoV C .sh F H (if CTx i then .ok (.str (txI i))else .bad) Q:=po;by_cases d:CTx i;·rw[Aa d]at po;cases t.int;exact Vf Z9 s σ H _ us Q I r ⟨i,rfl,d.1,po _ F H b .refl (.str d.2)⟩
 .rw[Ab d]at po;exact po.elim
end
def qdv:D->Option Str
 |.str x=>lm x
 |.int i=>if CTx i then lm (txI i)else lr
 |_=>lr
inductive Fmt:V->Str->Prop
 |str {x:Str} (h:x.length<=Z8):Fmt (.str x) x
 |int {i:Int} (h:CTx i):Fmt (.int i) (txI i)
variable{v:V}{x:Str}
theorem Fmt.len(h:Fmt v x):x.length<=Z8:=by
 cases h with
 |str h=>exact h
 |int h=>exact h.2
theorem uQ(x:Str):ba++x=x:=by apply j3;show(#[]:Array Nat)++x.cps=x.cps;simp
theorem qaX{d:D}(t:TopIs K F H v d)(h:qdv d=lm x):Fmt v x:=by
 cases d <;> try (cases h;done)
 .have h:(if CTx _ then lm (txI _)else lr)=lm x:=h;split at h;·cases h;cases t.int;exact .int (by assumption)
  .cases h
 .cases h;obtain⟨rfl,z⟩:=t.str;exact .str z
section
variable{fa fb:qW}{p1 p2:Pos}
theorem qeq{u:lu}{Q:lu->lx->Prop}(I:Inv X Z9 σ H s)(r:RelV v u)(f:Fmt v x)(h:∀t k,Q (.str x t) { s with toks:=k }):lA 'c' X.A (formatField u ba) Q X.xe s:=by
 cases f with
 |str z=>obtain⟨t,rfl⟩:=r;exact wpAny_formatField_str (h t s.toks) (h _ _) z
 |int d=>obtain⟨t,rfl⟩:=r;exact wpAny_formatField_int d.1 (h _ _)
end
end L2.D2
namespace PySem
open Builtin Builtin.Str
theorem ZH{prog:lC}{w:lD}{A:lG}{E:lu->lx->Prop}{s:lx}{x y:Str}{t u:Tok}{Q:lu->lx->Prop}(B:(y.length == 0)=lw)(hx:x.length<=Z8)(n:(dJ x y).length<=Z8)(hq:∀(l:List (Str×Tok))(k:Nat),l.map (·.1)=dJ x y->Q 'k' { s with toks:=k,heap:=s.heap.push { cls:=.type "list",data:=.seq (strValues l).toArray } }) :
  lA 'd' A (call (.builtin "str.split") [.str x t,.str y u]) Q E s:=by
 cases h1:(decide (x.length<y.length)||decide (bt x<bt y))
 .cases h:(occurrences x y 0 x.length (x.length+1)).isEmpty;·have e:dJ x y=partsBetween x (occurrences x y 0 x.length (x.length+1)) y.length:=(Ab (ne_true_of_eq_false h1)).trans (Ab (ne_true_of_eq_false h));rw[e]at n;refine mi iU (nB _ _ _) iJ (iu _ _) (meets_str_split_sep x y t u h1 B h hx n) ?_;show wants Q E _ { s with toks:=_,heap:=s.heap.push { cls:=.type "list",data:=.seq (strsFrom s.toks (partsBetween x (occurrences x y 0 x.length (x.length+1)) y.length)).toArray } };rw[strsFrom_eq];exact hq (numbered s.toks _) _ ((numbered_texts _ _).trans e.symm)
  .exact mi iU (nB _ _ _) iJ (iu _ _) (meets_str_split_not_found x y t u h1 B h) (hq [(x,t)] s.toks ((Ab (ne_true_of_eq_false h1)).trans (Aa h)).symm)
 .exact mi iU (nB _ _ _) iJ (iu _ _) (meets_str_split_cannot_occur x y t u h1) (hq [(x,t)] s.toks (Aa h1).symm)
end PySem
namespace L2.D2
open PySem PySem.Spec PyProof.Rows
def qiT(x y:Str):Prop:=(y.length == 0)=lw/\(dJ x y).length<=Z8/\∀z∈dJ x y,z.length<=Z8
instance:∀x y,Decidable (qiT x y):=λx y=>inferInstanceAs (Decidable (_/\_))
noncomputable def VP:D->D->Out D
 |.str x,.str y=>if qiT x y then .ok (.lst ((dJ x y).map D.str))else .bad
 |_,_=>.bad
noncomputable def ZI:D->Bool
 |.str _=>lv
 |_=>lw
variable{X:Cx}{C:Ct}{own:List Nat}{pos:Pos}
section
variable{a b:Z4}{fa fb:qW}{m ma mb:Mo}
set_option tactic.hygienic true in
theorem JX:MtD X C .fr "str.split" VP:=by
 intro Z9 s σ H x vs v us Q I r j h;obtain⟨y,F,dx,p,rfl,i,g,ty,po⟩:=h;obtain⟨u,rfl,m⟩:=j.one;cases dx <;> try exact po.elim
 rename_i c;cases p <;> try exact po.elim
 rename_i a;obtain⟨rfl,f⟩:=g.str;obtain⟨rfl,n⟩:=ty.str;obtain⟨t,rfl⟩:=r;obtain⟨t',rfl⟩:=m;have po:PoV C .fr F H (if qiT c a then .ok (.lst ((dJ c a).map D.str))else .bad) Q:=po;by_cases d:qiT c a;·rw[Aa d]at po;refine ZH d.1 f d.2.1 λl k e=>?_;have hq:H s.heap.objs.size=none:=I.hok.fresh (ao _);obtain⟨s2,c2,f2⟩:=ke (u:=.lst ((dJ c a).map V.str)) i hq;have st:=strsAre_of_values l;rw[e]at st;exact⟨.ref s.heap.objs.size,_,I.laid (t':=k) (o:=.lst ((dJ c a).map V.str)) (λb o hb=>ac _ hb) (ao _) ⟨by rw[aq];exact d.2.1,strValues l,0,yJ st,ap _ rfl⟩,rfl,po _ _ _ s2 c2 ⟨_,rfl,hq,f2,_,qm,yK d.2.2⟩⟩
 .rw[Ab d]at po;exact po.elim
theorem zH{name:Str}{id:String}{g:D->D->Out D}{apos cpos:Pos}(slot:Slot "str" name id)(d:nP (.builtin id)=pure (.type "method_descriptor"))(i:MtD X C m id g)(n:C.K=X.K)(j:PE X a 'p')(hb:PE X b (tE C own mb fb))(f:ma≠.any:=by decide)(c:lP a name X.env (Z0 a X.env)=Z0 a X.env:=by rfl)
  (w:((lM cpos (lz [b] X.env)).all (λx=>!x.1)&&(mz cpos (lT [] X.env)).all (λx=>x.1.isSome)
   && decide ([b].length+([]:List l6).length+(if ([]:List l6).isEmpty then 0 else 1)<30))=true:=by exact vy rfl)
  (e:(apos.endLine == cpos.line)=true:=by rfl) (hs:lz [b] X.env=[(lw,Z0 b X.env)]:=by exact qF rfl) :
  PE X (.Call (.Attribute a name apos) [b] [] cpos) (tE C own m (dM ZI g fa fb)):=by
 refine jp (WZ PySem.F.plainAttrs_str slot d i j (qI hb jq hs) c w e hs rfl) λσ H Q h=>?_;obtain⟨F,ρ,p,h⟩:=UA (ma:=ma) (mb:=mb) f h;refine⟨F,ρ,p,Po.imp h λx H1 h1=>?_⟩;obtain⟨⟨F1,dx,s,t,k⟩,h2⟩:=h1;refine⟨?_,?_⟩
 .cases dx <;> try (cases k;done)
  obtain⟨rfl,z⟩:=t.str;rfl
 .obtain⟨l,ρ2,r,h2⟩:=h2;exact⟨l,ρ2,r,Po.imp h2 λy H2 q=>⟨y,q.choose,q.choose_spec.choose,q.choose_spec.choose_spec.choose,rfl,q.choose_spec.choose_spec.choose_spec⟩⟩
end
inductive IntsAre:List lu->List Int->Prop
 |nil:IntsAre [] []
 |cons (y:Int) (t:Tok) {vs:List lu} {ys:List Int} (h:IntsAre vs ys):IntsAre (fZ y t::vs) (y::ys)
theorem IntsAre.length:∀{vs:List lu}{ys:List Int},IntsAre vs ys->vs.length=ys.length
 |_,_,.nil=>rfl
 |_,_,.cons _ _ h=>congrArg (·+1) h.length
theorem IntsAre.item:∀{vs:List lu}{ys:List Int},IntsAre vs ys->∀(i:Nat)(v:lu),vs[i]?=lm v->∃y t,v=fZ y t/\ys[i]?=lm y
 |_,_,.nil,i,v,e=>by simp at e
 |_,_,.cons y t h,0,v,e=>by simp at e;subst e;exact⟨y,t,rfl,rfl⟩
 |_,_,.cons y t h,i+1,v,e=>by obtain⟨z,t',e1,a⟩:=h.item i v (by simpa using e);exact⟨z,t',e1,by simpa using a⟩
noncomputable def JY:List D->Option (List Int)
 |[]=>lm []
 |.int x::l=>(JY l).map (x::·)
 |_::_=>lr
variable{K:Y9}{F:Hp}{vs:List V}
theorem qf7{us:List lu}{ds:List D}{ss:List Int}(a:IsL K F vs ds)(l:Vals vs us)(e:JY ds=lm ss):IntsAre us ss:=by
 induction ds generalizing vs us ss with
 |nil=>cases a;cases l;cases e;exact .nil
 | cons d ds j=>
  cases a with
  | cons i a=>
   cases l with
   |cons r l=>
    cases d with
    |int x=>obtain⟨sl,q,rfl⟩:=aS.mp (show(JY ds).map (x::·)=lm ss from e);cases i;obtain⟨t,rfl⟩:=r;exact .cons x t (j a l q)
    |_=>cases e
noncomputable def gD(f:Str)(d:D):List (Str×D)->List (Str×D)
 |[]=>[(f,d)]
 |(g,x)::r=>if g=f then(g,d)::r else(g,x)::gD f d r
variable{f:Str}{v:V}{d:D}{H:Hp}{c:Z7}
section
theorem IsF.put(h:Is K F v d):∀{fv:List (Str×V)}{fs:List (Str×D)},IsF K F fv fs->IsF K F (JI f v fv) (gD f d fs)
 |_,_,.nil=>.cons h .nil
 |_,_,.cons (k:=k) q t=>by
  unfold JI gD;by_cases z:k=f;·rw[Aa z,Aa z];exact .cons h t
  .rw[Ab z,Ab z];exact .cons q (IsF.put h t)
theorem IsF.get:∀{fv:List (Str×V)}{fs:List (Str×D)},IsF K F fv fs->fs.lookup f=lm d->∃v,fv.lookup f=lm v/\Is K F v d
 |_,_,.nil,e=>by cases e
 |_,_,.cons (k:=k) q t,e=>by
  rw[bU]at e ⊢;cases z:f == k with
  |true=>rw[z]at e;cases e;exact⟨_,rfl,q⟩
  |false=>rw[z]at e;exact IsF.get t e
theorem IsF.non:∀{fv:List (Str×V)}{fs:List (Str×D)},IsF K F fv fs->fs.lookup f=lr->fv.lookup f=lr
 |_,_,.nil,e=>rfl
 |_,_,.cons (k:=k) q t,e=>by
  rw[bU]at e ⊢;cases z:f == k with
  |true=>rw[z]at e;cases e
  |false=>rw[z]at e;exact IsF.non t e
theorem IsF.length:∀{fv:List (Str×V)}{fs:List (Str×D)},IsF K F fv fs->fv.length=fs.length
 |_,_,.nil=>rfl
 |_,_,.cons _ t=>congrArg (·+1) t.length
theorem TopIs.ins{fs:List (Str×D)}(s:Same F H)(h:TopIs K F H v (.ins c fs)):∃a dx fv,v=.ref a/\H a=lm (.ins c dx fv)/\IsF K F fv fs:=by
 rcases h with h|⟨a,rfl,dx,fv,e,t⟩
 .cases h with
  |ins e t=>exact⟨_,_,_,rfl,s _ _ e,t⟩
 .exact⟨a,dx,fv,rfl,e,t⟩
end
noncomputable def KZ(c:Z7)(f:Str):D->Out D
 |.ins k fs=>if k=c then(match fs.lookup f with|some d=>.ok d|none=>.bad)else .bad
 |_=>.bad
def gE(c:Z7)(i:Nat)(f:Str)(fe:qW):qM:=λρ=>(fe ρ).bind λp=>match p.2[i]? with
 |some (lm (.ins k fs))=>if k=c/\fs.length<1000 then .ok (.nx,p.2.set i (lm (.ins k (gD f p.1 fs))))else .bad
 |_=>.bad
variable{i:Nat}{x:Str}{ms:List PM}{ps:List Str}{cv:Str->lu}
section
variable{m mo:Mo}{e o:Z4}{es:List Z4}{fa fe fo:qW}{p1 p2:Pos}
theorem yM(o:C.K=X.K)(i:Cls X.K c)(n:NoAttr X.K c f)(he:PE X e (tE C own m fa))(hb:lP e f X.env (Z0 e X.env)=Z0 e X.env:=by rfl):PE X (.Attribute e f pos) (tE C own .sh (d1 (KZ c f) fa)):=by
 refine jp (qh3 he hb) λσ H Q h=>gA (JM (ma:=m) h) λx H1 b=>?_;obtain⟨F,dx,s,g,po⟩:=b;cases dx with
 | ins k fs=>
  replace po:PoV C .sh F H1 (if k=c then(match fs.lookup f with|some d=>.ok d|none=>.bad)else .bad) Q:=po;by_cases z:k=c
  .subst z;rw[Aa rfl]at po;cases q:fs.lookup f with
   |none=>rw[q]at po;exact po.elim
   |some d=>rw[q]at po;obtain⟨a,dx,fv,rfl,j,t⟩:=g.ins s;obtain⟨v,l,is⟩:=t.get q;exact⟨a,k,dx,fv,v,rfl,j,i,n,l,po v F H1 s .refl is⟩
  .rw[Ab z]at po;exact po.elim
 |_=>exact po.elim
theorem yj(G:C.K=X.K)(B:Cls X.K c)(w:NoAttr X.K c f)(hi:X.N[i]?=lm x)(s:Vis X.env.scope x)(l:i∈own)(he:PE X e (tE C own m fe))(y:m≠.any:=by decide)(hd:Dbg x:=by decide)(n:Cdk x:=by decide)(hs:mm e (lm (.Attribute (.Name x p1) f p2)) pos.line X.env=pure false:=by rfl):PS X (.Assign [.Attribute (.Name x p1) f p2] e pos) (tSt C own own (gE c i f fe)):=by
 refine Qy (qh4 (wG hi s hd n) (yx he y) hs) λD σ H ⟨F,ρ,p,h⟩=>⟨F,ρ,p,PoS.bindE h λv F1 H1 d ρ1 r c1 j h1=>?_⟩
 obtain⟨A,b⟩:=r.opn i l;obtain⟨a,e1,I,q⟩:=r.ow i A l b;simp only[b]at h1;cases A with
 |ins k fs=>
  by_cases z:k=c/\fs.length<1000;·simp only[Aa z]at h1;obtain⟨rfl,hl⟩:=z;obtain⟨dx,fv,E,t⟩:=q;obtain⟨g,o⟩:=r.write (u:=.ins k dx (JI f v fv)) (d:=.ins k (gD f d fs)) l e1 ⟨dx,_,qm,t.put j⟩;exact⟨_,e1,a,k,dx,fv,rfl,E,B,w,by rw[t.length];exact hl,h1 σ F1 _ ⟨g,o,λ_ z=>.inl z,λ_ _=>rfl⟩⟩
  .simp only[Ab z]at h1;exact h1.elim
 |_=>exact h1.elim
def qaY(c:Z7)(G:jy)(fr:vV):qW:=λρ=>(fr ρ).bind λp=>match G (.ins c []::p.1)with
 |.ok (.non,q::_)=>.ok (q,p.2)
 |.exc x _=>.exc x p.2
 |_=>.bad
def YZ(P:lC)(w:lD)(K:Y9)(mg:Str->Option lu)(base:Z5)(cv:Str->lu)(k:Nat)(c:Z7)(x:Str)(ps:List Str)(ms:List PM)(mr:Mo)(G:jy):Prop:=
 ∃f fd,FnOk P w K mg base (CXk P w mg) k f fd ps (spD K cv ms mr G)/\Meth K c x f/\Binds K fd ps []
def qaZ(P:lC)(w:lD)(K:Y9)(mg:Str->Option lu)(base:Z5)(cv:Str->lu)(k:Nat)(c:Z7)(ps:List Str)(ms:List PM)(G:jy):Prop:=
 ∃f fd,FnOk P w K mg base (CXk P w mg) k f fd ps (spD K cv ms .sh G)/\Mk K c f/\Binds K fd ps []
noncomputable def qk6:List AK->Bool
 |[]=>lv
 |.vl::l=>qk6 l
 |_::_=>lw
theorem qiU{K:Y9}{H0 F F' H H':Hp}{σ:St}(g:Same F F'):∀{as:List AK}{vs:List V}{ds:List D},qk6 as=lv->ArgV K H0 F H σ as vs ds->ArgsIs K F' H' (as.map yB) vs ds/\yz (as.map yB) vs=[]
 |[],[],[],_,_=>⟨trivial,rfl⟩
 |.vl::as,v::vs,d::ds,h,a=>by have j:=qiU (H':=H') g (as:=as) h a.2;exact⟨⟨a.1.mono g,j.1⟩,j.2⟩
 |[],_::_,_,_,a=>a.elim
 |[],[],_::_,_,a=>a.elim
 |.vl::_,[],_,_,a=>a.elim
 |.vl::_,_::_,[],_,a=>a.elim
 |.sl _::_,_,_,h,_=>by cases h
 |.fr::_,_,_,h,_=>by cases h
theorem qk7{x:Z7}{q:D}{os:List D}(h:uO K F H (.io::ms) (.ref x::vs) (q::os)):F x=lr/\OwnIs K F H x q:=by obtain⟨⟨a,e,h1,h2⟩,_⟩:=h;cases e;exact⟨h1,h2⟩
theorem qf8{as:List AK}{fr:vV}{k j:Nat}{p:Pos}{G:jy}(MF:qaZ X.prog X.w X.K X.mg X.base cv j c ps ms G)(hr:Room k X.A)(hj:j+1<=k)(hx:jJ (CXk X.prog X.w X.mg) X C.E)(hg:Gl X x)(hm:X.mg x=lm (.ref c))(ha:PA X (e::es) (tAr C own as fr))(O:C.cv=cv:=by rfl)(T:C.K=X.K:=by rfl)(J:ms=.io::as.map yB:=by rfl)(hv:qk6 as=true:=by rfl)(L:∀i∈C.ox,i∈own:=by exact jK rfl)(N:Dbg x:=by decide)(he:lz (e::es) X.env='j'::lz es X.env:=by exact qV rfl)(I:(lM pos (lz es X.env)).any (·.1)=false:=by exact vx rfl):PE X (.Call (.Name x p) (e::es) [] pos) (tE C own .fr (qaY c G fr)):=by
 subst O;obtain⟨f,fd,F0,M,hb⟩:=MF;refine jp (qfd M F0 (hr.mono hj) hg hm hb .nil hx ha N he I) λσ H Q ⟨F,ρ,U,h⟩=>⟨F,ρ,U,?_⟩
 unfold qaY at h;cases u:fr ρ with
 |exc c=>rw[u]at h;exact h
 |bad=>rw[u]at h;exact h.elim
 | ok W=>
  rw[u]at h;obtain⟨ds,ρ1⟩:=W;intro vs F1 H1 a c1 av x dx hx0 m ne;rw[bw];have P:H x=none:=by
   cases q:H x with
   |none=>rfl
   |some o=>exact absurd hx0 (c1.stay x (by rw[q];simp))
  have nF:∀{z:Z7},H1 z=lr->F1 z=none:=λ{z} l=>a.sub.free l;have ex:(upd (upd H1 dx (.own x)) x (.ins c dx [])) x=lm (.ins c dx []):=qm;have c2:Chg No F1 H1 F1 (upd (upd H1 dx (.own x)) x (.ins c dx [])):=⟨λb o D _=>by
    rw[qw (λz=>by rw[z,hx0]at D;cases D),qw (λz=>by rw[z,m]at D;cases D)];exact D,λb nb=>by
    by_cases z:b=x;·rw[z,ex];simp
    .rw[qw z];by_cases R:b=dx;·rw[R,qm];simp
     .rw[qw R];exact nb,Same.refl _,λb hb=>.inl hb⟩
  have s2:Same F1 (upd (upd H1 dx (.own x)) x (.ins c dx [])):=λb o D=>by rw[qw (λz=>by rw[z,nF hx0]at D;cases D),qw (λz=>by rw[z,nF m]at D;cases D)];exact a.sub b o D
  obtain⟨ar,le⟩:=qiU (H':=upd (upd H1 dx (.own x)) x (.ins c dx [])) (Same.refl F1) hv av;have S:yz (PM.io::as.map yB) (V.ref x::vs)=[x]:=by show x::yz (as.map yB) vs=[x];rw[le]
  subst J;refine⟨F1,.ins c []::ds,s2,⟨⟨x,rfl,nF hx0,dx,[],ex,.nil⟩,by rw[<-T];exact ar⟩,by rw[S];simp,?_⟩;have n:∀{F' H':Hp},Chg (LA (PM.io::as.map yB) (V.ref x::vs)) F1 (upd (upd H1 dx (.own x)) x (.ins c dx [])) F' H'->Chg No F1 H1 F' H':=λ{F' H'} g=>by
   have g:Chg (λz=>z=x) F1 (upd (upd H1 dx (.own x)) x (.ins c dx [])) F' H':=g.mono λz l=>by have l:z∈yz (PM.io::as.map yB) (V.ref x::vs):=l;rw[S]at l;simpa using l
   exact c2.trans g λz l=>.inr (by rw[l];exact hx0)
  have h:Po C own .fr σ F H (match G (.ins c []::ds)with|.ok (.non,q::_)=>.ok (q,ρ1)|.exc x _=>.exc x ρ1|_=>.bad) Q:=h;cases r:G (.ins c []::ds)with
  |bad=>rw[r]at h;exact h.elim
  |exc y o=>rw[r]at h;exact λF' H' t g _=>h F' H' t ((a.grow (n g) t).ioIs L) (c1.trans' (n g).ofNo)
  | ok Y=>
   rw[r]at h;obtain⟨d,s⟩:=Y;cases d with
   | non=>
    cases s with
    |nil=>exact h.elim
    |cons q os=>
     intro v F' H' t g Z mo;have B:v=.non:=by have mo:Is _ F' v .non:=mo;cases mo;rfl
     obtain⟨fx,ow⟩:=qk7 Z;refine⟨B,h (.ref x) F' H' (a.grow (n g) t) (c1.trans' (n g).ofNo) ⟨x,rfl,P,fx,?_⟩⟩;rw[T];exact ow
   |_=>exact h.elim
end
def qa0(K:Y9)(c:Z7)(x qual:Str)(st:Z3)(ps:List Str):Prop:=∃f fd,Fun K x qual st f fd/\Meth K c x f/\Binds K fd ps []
def qf9(K:Y9)(c:Z7)(qual:Str)(st:Z3)(ps:List Str):Prop:=∃f fd,Fun K "__init__" qual st f fd/\Mk K c f/\Binds K fd ps []
section
variable{P:lC}{w:lD}{mg:Str->Option lu}{base:Z5}{qual:Str}{st:Z3}{N:List Str}{k:Nat}{mr:Mo}{own':List Nat}{fb:qM}
theorem UD(T:qa0 K c x qual st ps)(S:FnScope N ps (qB st))(a:∀(cdv:lu)(f:Z7)(A:lG)(outer:List Env)(s:lx)(H:Hp)(E:XK),Room k (A.deeper (mj qual (qB st) s.heap.objs.size f cdv)) ->PSs (cxk P w K mg base N qual (qB st) f cdv A outer s H E) (jZ st) (tSt (qc0 K cv E ms mr) (jM 0 ms) own' fb))(hl:ms.length=ps.length:=by rfl)(g:∀i∈KW 0 ms,i∈own':=by exact jK rfl)(hmr:mr=.sh\/∀ds ρ,(fb (qr N ds))≠.ok (.nx,ρ):=by exact .inl rfl):YZ P w K mg base cv (k+1) c x ps ms mr (jI N ms fb):=by
 obtain⟨f,fd,F,m,hb⟩:=T;exact⟨f,fd,qjK F S hl g hmr (λcdv A outer s H E h=>a cdv f A outer s H E h) λ_=>.inr rfl,m,hb⟩
theorem qga(T:qf9 K c qual st ps)(S:FnScope N ps (qB st))(a:∀(cdv:lu)(f:Z7)(A:lG)(outer:List Env)(s:lx)(H:Hp)(E:XK),Room k (A.deeper (mj qual (qB st) s.heap.objs.size f cdv)) ->PSs (cxk P w K mg base N qual (qB st) f cdv A outer s H E) (jZ st) (tSt (qc0 K cv E ms .sh) (jM 0 ms) own' fb))(hl:ms.length=ps.length:=by rfl)(g:∀i∈KW 0 ms,i∈own':=by exact jK rfl):qaZ P w K mg base cv (k+1) c ps ms (jI N ms fb):=by
 obtain⟨f,fd,F,m,hb⟩:=T;exact⟨f,fd,qjK F S hl g (.inl rfl) (λcdv A outer s H E h=>a cdv f A outer s H E h) λ_=>.inr rfl,m,hb⟩
end
section
theorem vr(h:X.N[i]?=lm x:=by rfl)(c:Vis X.env.scope x:=by first|exact ci rfl|exact iw (ci rfl)|exact iw (iw rfl))(l:i∉own:=by decide)(hd:Dbg x:=by decide)(d:Cdk x:=by decide):PE X (.Name x pos) (tE C own .sh (qc i)):=qig h c l hd d
end
theorem qiV{f:qW}{ρ ρ':Sl}:jl f ρ≠.ok (.nx,ρ'):=by
 unfold jl;cases f ρ with
 |ok p=>intro h;cases h
 |exc c o=>intro h;cases h
 |bad=>intro h;cases h
theorem gF(ks:List Int):∀n,n<=ks.length->preSum (λi=>ks.getD i 0) n=(ks.take n).sum
 | 0,_=>rfl
 |n+1,h=>by
  have j:=gF ks n 'b';show preSum (λi=>ks.getD i 0) n+ks.getD n 0=_;rw[j,List.take_add_one,i5];have:ks[n]?=lm (ks.getD n 0):=by rw[cx,aG 'b'];rfl
  rw[this];simp
theorem qer:∀(ks:List Int),(ks.all λk=>decide (0<=k/\k<=100000))=lv->0<=ks.sum/\ks.sum<=100000 * ks.length
 |[],_=>by simp
 |k::ks,h=>by rw[iQ,aO]at h;have h1:=Ae h.1;have j:=qer ks h.2;rw[iS,ah];omega
noncomputable def yN:D->Out D
 |.str x=>(match iA x with
  |some n=>if x.length<=640 then .ok (.int n)else .bad
  |none=>.bad)
 |_=>.bad
noncomputable def qj2(x y:Str):Bool:=!(Builtin.Str.occurrences x y 0 x.length 1).isEmpty
def qhz:D->D->Out D
 |.str y,.str x=>.ok (.bl (!qj2 x y))
 |_,_=>.bad
section
set_option tactic.hygienic true in
theorem qes:xu X C .sh (.type "int") yN:=by
 intro Z9 s σ H xs us Q I r h;obtain⟨x,F,dx,rfl,b,a,po⟩:=h;cases dx <;> try exact po.elim
 rename_i x;have po:PoV C .sh F H (match iA x with|some n=>if x.length<=640 then .ok (.int n)else .bad|none=>.bad) Q:=po;obtain⟨rfl,z⟩:=a.str;cases e:iA x with
 |none=>rw[e]at po;exact po.elim
 |some n=>
  rw[e]at po;have po:PoV C .sh F H (if x.length<=640 then .ok (.int n)else .bad) Q:=po;by_cases hl:x.length<=640;·rw[Aa hl]at po;obtain⟨u,rfl,t,rfl⟩:=wl r;exact PySem.W.KIN.call_text e hl ⟨.int n,H,I.tok _,⟨_,rfl⟩,po _ F H b .refl (.int n)⟩
  .rw[Ab hl]at po;exact po.elim
set_option tactic.hygienic true in
theorem qa1:OpD X C .sh (lI .NotIn) qhz:=by
 intro Z9 s σ H x y v u Q I d c h;obtain⟨F,dx,e,b,a,ty,po⟩:=h;cases dx <;> try exact po.elim
 cases e <;> try exact po.elim
 rename_i y x;obtain⟨rfl,_⟩:=a.str;obtain⟨rfl,_⟩:=ty.str;obtain⟨t,rfl⟩:=d;obtain⟨t',rfl⟩:=c;exact PyProof.Rows.notIn_str ⟨.bl (!qj2 x y),H,I,rfl,po _ F H b .refl (.bl _)⟩
end
def VQ(n:Nat)(fw fx:qW):qM:=λρ=>(fw ρ).bind λp=>(fx p.2).bind λq=>match (q.2[n]?:Option (Option D))with
 |some (lm (.dct kvs))=>(match WQ q.1 with
  |some k=>if kvs.length<Z8 then .ok (.nx,q.2.set n (lm (.dct (wk kvs k p.1))))else .bad
  |none=>.bad)
 |_=>.bad
section
variable{w ix:Z4}{fw fx:qW}{mw mx:Mo}{p1 p2 p3:Pos}
theorem JZ{n:Nat}(M:X.A.units+64<lY)(y:X.N[n]?=lm x)(t:Vis X.env.scope x)(l:n∈own)(hw:PE X w (tE C own mw fw))(hx:PE X ix (tE C own mx fx))(f:mw≠.any:=by decide)(hd:Dbg x:=by decide)(j:Cdk x:=by decide)(hs:mm w (lm (.Subscript (.Name x p1) ix p2)) p3.line X.env=pure false:=by rfl) :
  PS X (.Assign [.Subscript (.Name x p1) ix p2] w p3) (tSt C own own (VQ n fw fx)):=by
 refine Qy (qfp 'b' (wG y t hd j) hx (yx hw f) hs) λQ σ H ⟨F,ρ,s,h⟩=>⟨F,ρ,s,PoS.bindE h λv F1 H1 d ρ1 b c1 c h1=>?_⟩
 have c:Is C.K F1 v d:=c;obtain⟨E,i⟩:=b.opn n l;obtain⟨a,e1,O,J⟩:=b.ow n E l i;refine⟨_,e1,F1,ρ1,b,PoS.bindE h1 λL G H2 D ρ2 r c2 m h2=>?_⟩;obtain⟨d2,hd2⟩:=r.opn n l;obtain⟨P,p,B,o2⟩:=r.ow n d2 l hd2;rw[e1]at p;cases p;simp only[hd2]at h2;cases d2 with
 | dct kvs=>
  cases q:WQ D with
  |none=>simp only[q]at h2;exact h2.elim
  |some k=>
   simp only[q]at h2;have g:=qkP m.top q;subst g;obtain⟨kv,ex,o⟩:=o2;by_cases e:kvs.length<Z8;·simp only[Aa e]at h2;obtain⟨r3,I⟩:=r.write (u:=.dK (Qw kv k v)) (d:=.dct (wk kvs k d)) l e1 ⟨_,qm,o.put (c.mono c2.grow)⟩;exact⟨a,_,rfl,DPut.k ex (by rw[o.length];exact e),h2 σ G _ ⟨r3,I,λ_ z=>.inl z,λ_ _=>rfl⟩⟩
   .simp only[Ab e]at h2;exact h2.elim
 |_=>exact h2.elim
end
end L2.D2
namespace L2.D2
open PySem PySem.Spec PyProof.Rows PySem.W
variable{α:Type}
noncomputable def UE:List (Key×α)->Option (List Str)
 |[]=>lm []
 |(.inr x,_)::l=>(UE l).map (x::·)
 |(.inl _,_)::_=>lr
theorem Xa:∀{l:List (Key×α)}{ss:List Str},UE l=lm ss->l.map (·.1)=ss.map cG
 |[],ss,h=>by cases h;rfl
 |(.inr x,_)::l,ss,h=>by obtain⟨g,e,rfl⟩:=aS.mp (show(UE l).map (x::·)=lm ss from h);rw[aF,aF,Xa e]
 |(.inl _,_)::_,ss,h=>by cases h
theorem IsK.keys{K:Y9}{F:Hp}:∀{kv:List (Key×V)}{ks:List (Key×D)},IsK K F kv ks->kv.map (·.1)=ks.map (·.1)
 |_,_,.nil=>rfl
 |_,_,.cons h t=>by rw[aF,aF,IsK.keys t]
theorem KV.keys:∀{kv:List (Key×V)}{vs:List (Key×lu)},KV kv vs->kv.map (·.1)=vs.map (·.1)
 |_,_,.nil=>rfl
 |_,_,.cons h t=>by rw[aF,aF,h.1,KV.keys t]
end L2.D2
namespace PySem.F
end PySem.F
namespace L2.D2
open PySem PySem.Spec PyProof.Rows PySem.W
end L2.D2
namespace L2.D2
open PySem PySem.Spec PyProof.Rows
def Ka:D->Out D
 |.lst ds=>(match JY ds with
  |some ks=>if ks.length<=1000/\(ks.all λk=>decide (0<=k/\k<=100000))=lv then .ok (.int ks.sum)else .bad
  |none=>.bad)
 |_=>.bad
section
variable{X:Cx}{C:Ct}{own:List Nat}{mb mx:Mo}{b ix:Z4}{fb:qW}{pos apos cpos px:Pos}
theorem UF(S:C.K=X.K)(R:X.calm=lv):xu X C .sh (.builtin "sum") Ka:=by
 intro Z9 s σ H xs us Q I r h;obtain⟨x,F,dx,rfl,J,M,po⟩:=h;cases dx with
 | lst ds=>
  obtain⟨u,rfl,O⟩:=wl r;obtain⟨a,vs,rfl,hq,P⟩:=M.lst J;cases O;rw[S]at hq;obtain⟨its,N,p,V⟩:=I.list hq;have pl:s.heap.IsList a its.toArray:=by obtain⟨o,n,f,G,_,w⟩:=p;exact⟨o,f,G,n,w⟩
  cases e:JY ds with
  |none=>have po:PoV C .sh F H (match JY ds with|some ks=>if ks.length<=1000/\(ks.all λk=>decide (0<=k/\k<=100000))=lv then .ok (.int ks.sum)else .bad|none=>.bad) Q:=po;rw[e]at po;exact po.elim
  | some ks=>
   have po:PoV C .sh F H (match JY ds with|some ks=>if ks.length<=1000/\(ks.all λk=>decide (0<=k/\k<=100000))=lv then .ok (.int ks.sum)else .bad|none=>.bad) Q:=po;rw[e]at po;by_cases m:ks.length<=1000/\(ks.all λk=>decide (0<=k/\k<=100000))=lv
   .have po:PoV C .sh F H (if ks.length<=1000/\(ks.all λk=>decide (0<=k/\k<=100000))=lv then .ok (.int ks.sum)else .bad) Q:=po;rw[Aa m]at po;have st:=qf7 P N e;have d:a<s.heap.objs.size:=let ⟨o,f,_⟩:=pl;ax f;have L:its.length=ks.length:=st.length;refine call_sum_walk (ng (show s.heap.IsList a its.toArray from pl) ?_);refine⟨s.heap.objs.size,_,_,_,_,_,λi=>ks.getD i 0,rfl,lj (A:=X.A.in1) (I.ok.hd R) _ a (aD d) its.toArray,⟨⟨_,ap _ rfl,rfl,rfl⟩,?_⟩,?_,λi v ev=>?_,λj D=>?_,λh' tk t' kp=>?_⟩;·obtain⟨o,e,c⟩:=pl;exact⟨o,ac _ e,c⟩
    .intro z b;rw[bP];simp only[af,bM,or_false]at b;rcases b with rfl|rfl;·exact eZ _
     .exact cO d
    .obtain⟨y,t,e1,T⟩:=st.item i v (by simpa using ev);exact⟨t,by rw[e1];show fZ y t=fZ (ks.getD i 0) t;rw[cx,T];rfl⟩
    .rw[au,L]at D;have l:=m.2;rw[aW]at l;have h1:=Ae (l (ks.getD j 0) (by rw[cx,aG D];exact cF D));have h2:=qer (ks.take (j+1)) (aW.mpr λk g=>l k (List.mem_of_mem_take g));have W:(ks.take (j+1)).length<=1000:=by rw[bb];lia
     have E:=gF ks (j+1) D;refine⟨⟨by show(-2 ^ 63:Int)<=ks.getD j 0;lia,by show ks.getD j 0<(2 ^ 63:Int);lia⟩,?_⟩;rw[E];exact⟨by lia,by lia⟩
    .have U:Inv X Z9 σ H { s with heap:=h',toks:=tk }:=I.kept (t':=tk) λz o B=>kp z o (λq=>by rw[ay.mp q]at B;exact bS _ (ax B)) (ac _ B);have E:preSum (λi=>ks.getD i 0) its.toArray.size=ks.sum:=by rw[au,L,gF ks _ (ao _),List.take_length]
     exact⟨.int ks.sum,H,U,⟨t',by rw[E]⟩,po _ F H J .refl (.int _)⟩
   .have po:PoV C .sh F H (if ks.length<=1000/\(ks.all λk=>decide (0<=k/\k<=100000))=lv then .ok (.int ks.sum)else .bad) Q:=po;rw[Ab m]at po;exact po.elim
 |_=>exact po.elim
end
open PySem.SeqAt
open AutoSeq1 (wpAny_loadPart')
open MeetsSeq MeetsSeq2 MeetsSeq3
end L2.D2
namespace L2.D2
open PySem PySem.Spec PyProof.Rows
open PySem.SeqAt
end L2.D2
namespace L2.D2
open PySem PySem.Spec PyProof.Rows
open AutoSeq1 (wpAny_loadPart')
set_option tactic.hygienic true in
theorem qa2(l:Z7)(items:Array lu)(n:Nat)(dct:Option Z7)(sl:Array (Option lu)):Meets (Builtin.«enumerate.__new__» ⟨[.type "enumerate",.ref l],[]⟩) (λ_ R s=>s.heap.get? l=lm { cls:=.type "tuple",dict:=dct,data:=.seq items n,slots:=sl } /\
   R (.ok (.ret (.ref (s.heap.push { cls:=.type "tuple_iterator",data:=.fields #[.ref l,.int 0 0] }).objs.size)))
    { s with heap:=(s.heap.push { cls:=.type "tuple_iterator",data:=.fields #[.ref l,.int 0 0] }).push { cls:=.type "enumerate",data:=.fields #[.none,.bool lw,.ref s.heap.objs.size,lN 0,.none,.none] } }):=
 .of_wp λprog w A R s h=>by
  obtain⟨hp,g,d,tk,os⟩:=s;obtain⟨hl,h⟩:=h;have b:=sub_enumerate;have a:Heap.IsTuple (Shared.heap ⟨hp,g,d,tk,os⟩) l items:=⟨_,hl,rfl,n,rfl⟩
  wp_walk using nJ hl
  refine wpAny_stack_any λst=>ly ?_;split
  .rename_i c _ _ _ _ _;cases(c == hJ "enumerate")
   .wp_walk using nJ hl,mI a
    exact⟨_,rfl,h⟩
   .wp_walk using nJ hl,mI a
    exact⟨_,rfl,h⟩
  .wp_walk using nJ hl,mI a
   exact⟨_,rfl,h⟩
variable{s:lx}{l:Z7}{items:Array lu}
theorem uM{prog:lC}{w:lD}{A:lG}{E:lu->lx->Prop}{Q:lu->lx->Prop}(a:s.heap.IsTuple l items)(h:∀h',IsEnum h' 'q' s.heap.objs.size 0 .none->h'.IsTupleIter s.heap.objs.size l 0->h'.objs.size=s.heap.objs.size+2 ->'s'->Q (.ref 'q') { s with heap:=h' }) :
  lA 'd' A (call (.type "enumerate") [.ref l]) Q E s:=by
 obtain⟨⟨c,dct,t,sl⟩,hl,d,n,hd⟩:=a;replace d:c=.type "tuple":=d;replace hd:t=.seq items n:=hd;subst d hd;refine callType_new F.called_enumerate 'e' (F.typeCall_enumerate_1 _) (F.newCall_enumerate_1 _) (λobj=>F.args_object_init_2 obj _) F.entry_enumerate_new (qa2 l items n dct sl) ⟨hl,?_⟩;have z:(s.heap.push { cls:=.type "tuple_iterator",data:=.fields #[.ref l,.int 0 0] }).objs.size=s.heap.objs.size+1:=bP ..;show _/\_;rw[z];have he:IsEnum ((s.heap.push { cls:=.type "tuple_iterator",data:=.fields #[.ref l,.int 0 0] }).push { cls:=.type "enumerate",data:=.fields #[.none,.bool lw,.ref s.heap.objs.size,lN 0,.none,.none] }) 'q' s.heap.objs.size 0 .none:=by have:=ap (s.heap.push { cls:=.type "tuple_iterator",data:=.fields #[.ref l,.int 0 0] }) (o:={ cls:=.type "enumerate",data:=.fields #[.none,.bool lw,.ref s.heap.objs.size,lN 0,.none,.none] }) rfl;rw[z]at this;exact this
 exact⟨⟨_,he,rfl⟩,h _ he ⟨_,ac _ (ap _ rfl),rfl,rfl⟩ (by rw[bP,z]) λb o x=>ac _ (ac _ x)⟩
theorem ZJ{prog:lC}{w:lD}{A:lG}{E:lu->lx->Prop}{k:SK}{Q:lu->lx->Prop}(L:SeqK s.heap l k items)(h:∀h',IsEnum h' 'q' s.heap.objs.size 0 .none->ItK h' s.heap.objs.size l k 0->'s'->Q (.ref 'q') { s with heap:=h' }) :
  lA 'd' A (call (.type "enumerate") [.ref l]) Q E s:=by
 cases k with
 |l=>exact call_enumerate_list L λh' a b _ c=>h h' a b c
 |t=>exact uM L λh' a b _ c=>h h' a b c
variable{K:Y9}{a:Z7}{xs:List V}
theorem Xb{H H':Hp}(e:Same H H'):∀{k:SK},SqK K H a k xs->SqK K H' a k xs
 |.l,p=>e.seq p
 |.t,p=>qY e p
def qj3(k:SK)(K:Y9)(a:Z7)(xs:List V):It:=
 ⟨λi H=>i<xs.length/\SqK K H a k xs,λi H v H'=>∃x p,xs[i]?=lm x/\H p=lr/\v=.ref p/\H'=upd H p (.tup [.int (i:Nat),x]),λi H=>xs.length<=i/\SqK K H a k xs⟩
theorem ZK{P:lC}{w:lD}{K:Y9}{k:SK}{u:List Z4}{B}{pos:Pos}(b a:Nat)(xs:List V)(h1:a<b):Turn P w K (.Tuple u B pos) (qj3 k K a xs) [b+1,b] (b+1) (λi h=>(∃old,IsEnum h (b+1) b i old)/\ItK h b a k i/\i<=xs.length) where
 mem:=by simp
 obj:=λi h st c d=>by
  obtain⟨⟨old,he⟩,hit,Q⟩:=st;obtain⟨o,p,l,hd⟩:=hit.obj;simp only[af,bM,or_false]at d;rcases d with rfl|rfl;·exact⟨_,he,λv z=>by cases z⟩
  .exact⟨o,p,λv z=>by rw[hd]at z;cases z⟩
 keep:=λi h h' st k=>by obtain⟨⟨old,he⟩,hit,Q⟩:=st;obtain⟨o,p,l,hd⟩:=hit.obj;exact⟨⟨old,k _ 'f' _ he⟩,.of ⟨o,k _ 'f' _ p,l,hd⟩,Q⟩
 item:=by
  intro X J hw L d i Z9 s σ H E I t st hg;subst J hw L;obtain⟨⟨old,he⟩,hit,Q⟩:=st;obtain⟨hl,q⟩:=hg;obtain⟨its,W,n,r,e0,O,_,N,_⟩:=Jb I q;have pl:=SeqK.of e0 N O;have hi:i<its.length:=by rw[<-r.length];exact hl
  have hx:its.toArray[i]?=lm its[i]:=by simp[hi]
  have D:a≠b:=aD h1;refine wpAny_pyNext_enum_itemD (qem (A:=X.A.in1) (I.ok.hd d) k b a D its.toArray) he ⟨hit,pl⟩ (by simpa using hi) (Nat.succ_ne_self b) (by
   intro z;simp only[af,bM,or_false]at z;have h1:@LT.lt Nat _ a b:=h1;rcases z with z|z
   .have z:@Eq Nat _ _:=z
    lia
   .have z:@Eq Nat _ _:=z
    lia) λB h' tk f Z C T hz kp=>?_
  have M:B=its[i]:=by have f:its.toArray[i]?=lm B:=f;rw[hx]at f;exact(aU.inj f).symm
  subst M;refine⟨_,rfl,wpAny_letOwnedTupleGo_enum Z λhq e2 j=>?_⟩;obtain⟨x,ex,U⟩:=qaL r (aG hi);have Y:H s.heap.objs.size=none:=I.hok.fresh (ao _);have y:b+1<s.heap.objs.size:=ax he;have fT:∀c∈[b+1,b],c≠s.heap.objs.size:=λc d=>by
   simp only[af,bM,or_false]at d;have lt':b+1<s.heap.objs.size:=y;generalize s.heap.objs.size=m at lt';intro z
   lia
  have I1:Inv X Z9 σ (upd H s.heap.objs.size (.tup [.int (i:Nat),x])) { s with heap:=s.heap.push { cls:=.type "tuple",data:=.seq #[.int i tk,its[i]] } }:=
   I.laid (t':=s.toks) (λ_ _ e=>ac _ e) (ao _) ⟨⟨by simp only[ah,bv];rw[lE];decide,_,ap _ rfl,rfl⟩,[.int i tk,its[i]],.cons ⟨_,rfl⟩ (.cons U .nil),⟨_,ap _ rfl,rfl,_,rfl⟩⟩
  have I2:Inv X Z9 σ (upd H s.heap.objs.size (.tup [.int (i:Nat),x])) { s with heap:=hq,toks:=tk+1 }:=by
   refine qaK (s:={ s with heap:=s.heap.push { cls:=.type "tuple",data:=.seq #[.int i tk,its[i]] } }) (ch:=[b+1,b]) I1 (λc o g e=>?_) λc d=>⟨by rw[qw (fT c d)];exact(t c d).1,(t c d).2⟩
   simp only[af,bM,or_false,not_or]at g;rw[j.2 c g.1];by_cases R:c=s.heap.objs.size;·subst R;have S:(s.heap.push ({ cls:=.type "tuple",data:=.seq #[.int i tk,its[i]] }:Obj)).get? s.heap.objs.size=lm { cls:=.type "tuple",data:=.seq #[.int i tk,its[i]] }:=ap _ rfl;rw[show(s.heap.push ({ cls:=.type "tuple",data:=.seq #[.int i tk,its[i]] }:Obj)).get? s.heap.objs.size=lm o from e]at S;rw[S];exact T
   .have F:s.heap.get? c=lm o:=by have:=e;rwa [show(s.heap.push ({ cls:=.type "tuple",data:=.seq #[.int i tk,its[i]] }:Obj)).get? c=s.heap.get? c from iK _ _ _ R]at this
    exact kp c o g.1 g.2 F
  refine⟨.ref s.heap.objs.size,_,I2,rfl,⟨x,_,ex,Y,rfl,rfl⟩,⟨⟨_,by simpa using e2⟩,?_,hl⟩,λc d=>by rw[qw (fT c d)];exact(t c d).1⟩;obtain⟨o,p,l,hd⟩:=C.1.obj;exact .of ⟨o,(j.2 _ (Nat.succ_ne_self b).symm).trans p,l,hd⟩
 done:=by
  intro X J hw L d i Z9 s σ H E I t st hg;subst J hw L;obtain⟨⟨old,he⟩,hit,Q⟩:=st;obtain⟨hl,q⟩:=hg;obtain⟨its,W,n,r,e0,O,_,N,_⟩:=Jb I q;have pl:=SeqK.of e0 N O;have G:i=its.toArray.size:=by rw[au,<-r.length];exact Nat.le_antisymm Q hl
  subst G;refine wpAny_pyNext_enum_endD (qem (A:=X.A.in1) (I.ok.hd d) k b a (aD h1) its.toArray) he ⟨hit,pl⟩ λh' ex=>⟨rfl,qaK (t':=s.toks) (ch:=[b+1,b]) I (λc o g e=>?_) t⟩
  simp only[af,bM,or_false,not_or]at g;exact ex c o g.2 e
 self:=λ_ _ _ _ _ st h=>wpAny_pyIter_enum st.1.choose_spec h
theorem qgb{k:SK}{F:Hp}{ds:List D}(p:SqK K F a k xs)(t:IsL K F xs ds):ItIs K F (qj3 k K a xs) (VO ds) where
 go:=λi H hi s=>by unfold VO at hi;rw[aq,List.length_zipIdx]at hi;exact⟨by rw[t.length];exact hi,Xb s p⟩
 yld:=λi Fi H v H' d e s1 s2 y=>by
  obtain⟨x,q,hx,n,rfl,rfl⟩:=y;obtain⟨d1,e1,i1⟩:=t.get hx;have o:d=.tup [.int (i:Nat),d1]:=by unfold VO at e;rw[aJ,List.getElem?_zipIdx,e1]at e;simpa using e.symm
  subst o;obtain⟨g1,W⟩:=wm (u:=.tup [.int (i:Nat),x]) s2 n;exact⟨_,W,g1,.tup (.of qm) (.cons (.int _) (.cons ((i1.mono s1).mono W.grow) .nil))⟩
 stop:=λi H hi s=>by unfold VO at hi;rw[aq,List.length_zipIdx]at hi;exact⟨by rw[t.length];exact hi,Xb s p⟩
section
variable{X:Cx}{C:Ct}{own:List Nat}{a:Z4}{fa:qW}{ma:Mo}{pos:Pos}
theorem qdw{k:SK}{ta:TA}{p tpos:Pos}{u:List Z4}{x1}(hg:Gl X "enumerate")(m:X.mg "enumerate"=lr)(f:PA X [a] ta)(hs:lz [a] X.env=[(lw,Z0 a X.env)]):PI X (.Tuple u x1 tpos) (.Call (.Name "enumerate" p) [a] [] pos) (λσ H R=>ta σ H λvs H1=>∃o xs,vs=[.ref o]/\SqK X.K H1 o k xs/\R (qj3 k X.K o xs) H1):=by
 refine⟨?_⟩;intro Z9 s σ H R I h;refine Call_ (zL I hg m qaU (cT (thn (f pos Z9 s σ H _ I h) λus s1 z=>?_) hs rfl));obtain⟨vs,H1,d,r1,c⟩:=z;obtain⟨o,xs,rfl,w,q⟩:=c;obtain⟨e,rfl,e1⟩:=wl r1;cases e1;obtain⟨its,U,n,C,e0,L,_,A,_⟩:=Jb d w;have pl:=SeqK.of e0 A L;have t:o<s1.heap.objs.size:=pl.lt;refine ZJ pl λh' he hit kp=>?_;refine wpAny_pyIter_enum he ?_;refine⟨s1.heap.objs.size+1,_,_,qj3 k X.K o xs,H1,rfl,d.kept (t':=s1.toks) kp,ZK s1.heap.objs.size o xs t,⟨⟨_,he⟩,hit,be _⟩,λb hb=>?_,q⟩;have Q:s1.heap.objs.size<=b:=by
  simp only[af,bM,or_false]at hb;rcases hb with rfl|rfl;·exact e8 _ _
  .exact ao _
 exact d.fpOk Q (d.hok.fresh Q)
theorem Xd{p tpos:Pos}{u:List Z4}{x1}(b:C.K=X.K)(hg:Gl X "enumerate")(m:X.mg "enumerate"=lr)(f:PE X a 'p')(h1:ma≠.any:=by decide)(hs:lz [a] X.env=[(lw,Z0 a X.env)]:=by exact qF rfl):PI X (.Tuple u x1 tpos) (.Call (.Name "enumerate" p) [a] [] pos) (tIt C own (qaV fa)):=by
 refine qc1 (qdw (k:=.l) hg m (qI (yx f h1) jq hs) hs) λσ H R ⟨F,ρ,e,h⟩=>⟨F,ρ,e,PoI.bindV h λv F1 H1 d ρ1 r c1 c h1=>?_⟩
 have c:Is C.K F1 v d:=c;cases c with
 |lst p t=>exact⟨_,_,rfl,by rw[<-b];exact r.sub.seq p,by rw[<-b];exact h1 _ F1 H1 r c1 (qgb (k:=.l) p t)⟩
 |_=>exact h1.elim
end
end L2.D2
namespace L2.D2
open PySem PySem.Spec PyProof.Rows
section
variable{X:Cx}{C:Ct}{own:List Nat}{m ma mb:Mo}{a b e:Z4}{fa fb fe:qW}{apos cpos px:Pos}
noncomputable def qj4(y:Str):lu->Bool
 |.str x _=>x.cps.toList == y.cps.toList
 |_=>lw
theorem qet{y:Str}:∀(ss:List Str)(its:List lu),Vals (ss.map V.str) its->y∈ss->∃j,∃D:j<its.length,qj4 y its[j]=lv/\(∀m (c:m<its.length),m<j->qj4 y its[m]=lw)/\Vals ((ss.erase y).map V.str) (its.eraseIdx j)
 | x::ss,u::its,.cons r rs,hy=>by
  obtain⟨t,rfl⟩:=(show ∃t,u=cM x t from r)
  by_cases q:x=y;·subst q;refine⟨0,by simp,by simp[qj4],λm c h=>absurd h (dZ _),?_⟩;rw[List.erase_cons_head];exact rs
  .obtain⟨j,D,h1,h2,g⟩:=qet ss its rs ((af.mp hy).resolve_left λz=>q z.symm);refine⟨j+1,by simp;omega,h1,λm c h=>?_,?_⟩
   .cases m with
    |zero=>show(x.cps.toList == y.cps.toList)=lw;refine beq_eq_false_iff_ne.mpr λz=>q ?_;obtain⟨x⟩:=x;obtain⟨y⟩:=y;have z:x.toList=y.toList:=z;rw[cY.mp z]
    |succ m=>exact h2 m (by simpa using c) (by omega)
   .rw[List.erase_cons_tail (by simpa using q)];exact .cons ⟨t,rfl⟩ g
def qk8:V->List V->Hp->VK->Prop:=λx vs H Q=>∃(l:Z7)(ss:List Str)(y:Str),x=.ref l/\vs=[.str y]/\H l=lm (.lst (ss.map V.str))/\y∈ss/\Q .non (upd H l (.lst ((ss.erase y).map V.str)))
theorem qiW:MtM X "list.remove" qk8:=by
 intro Z9 s σ H x vs v us Q I d g h;obtain⟨l,ss,y,rfl,rfl,c,B,q⟩:=h;cases d;obtain⟨u,rfl,k⟩:=g.one;obtain⟨t,rfl⟩:=k;obtain⟨z,its,n,r,hl,e⟩:=I.lstM c;obtain⟨j,D,h1,h2,p⟩:=qet ss its r B;refine mi PySem.F.slot_list_remove ⟨_,e,rfl⟩ PySem.F.entry_list_remove (PySem.F.args_list_remove_2 _ _)
  (MeetsSeq.list_remove l its.toArray n (.str y t) (qj4 y) (λw hw=>?_) j (by simpa using D) (by simpa using h1) (λm o b=>by simpa using h2 m (by simpa using o) b) (by rw[au];lia)) ⟨e,?_⟩
 .obtain⟨i,hi,rfl⟩:=et.mp (show w∈its by simpa using hw);obtain⟨x,ex,d⟩:=Vals.getE r hi;rw[aJ]at ex;obtain⟨f,_,rfl⟩:=aS.mp ex;obtain⟨t',A⟩:=(show ∃t,its[i]=cM f t from d)
  rw[A];exact SeqRoads2.EqGives.str _ _ _ _
 .refine⟨.non,_,I.lset (its':=its.eraseIdx j) c e ?_ p ?_,rfl,q⟩;·show its.toArray.eraseIdxIfInBounds j=(its.eraseIdx j).toArray;rw[List.eraseIdxIfInBounds_toArray]
  .have:=List.length_erase_le (a:=y) (l:=ss);rw[aq]at z ⊢
   lia
def qgc(ds:List D)(d:D):Out (List D):=match yi ds,d with
 |some ss,.str y=>if y∈ss then .ok ((ss.erase y).map D.str)else .bad
 |_,_=>.bad
theorem qiX{K:Y9}{F:Hp}{vs:List V}{ds:List D}{ss:List Str}(l:IsL K F vs ds)(e:yi ds=lm ss):vs=ss.map V.str/\∀x∈ss,x.length<=Z8:=by
 induction ds generalizing vs ss with
 |nil=>cases l;cases e;exact⟨rfl,λx h=>nomatch h⟩
 | cons d ds j=>
  cases l with
  | cons i l=>
   cases d with
   |str x=>
    obtain⟨s2,q,rfl⟩:=aS.mp (show(yi ds).map (x::·)=lm ss from e);obtain⟨h1,h2⟩:=j l q;cases i with
    |str a=>exact⟨by rw[h1];rfl,λy B=>(af.mp B).elim (λz=>z ▸ a) (h2 y)⟩
   |_=>cases e
set_option tactic.hygienic true in
theorem qa3{i:Nat}{x:Str}{px apos cpos:Pos}(r:X.N[i]?=lm x)(o:Vis X.env.scope x)(p:i∈own)(he:PE X e (tE C own m fe))(j:m≠.any:=by decide)(hd:Dbg x:=by decide)(f:Cdk x:=by decide)(c:lP (.Name x px) "remove" X.env (Z0 (.Name x px) X.env)=Z0 (.Name x px) X.env:=by rfl)
  (w:((lM cpos (lz [e] X.env)).all (λx=>!x.1)&&(mz cpos (lT [] X.env)).all (λx=>x.1.isSome)
   && decide 'r')=true:=by exact vy rfl)
  (b:(apos.endLine == cpos.line)=true:=by rfl) (hs:lz [e] X.env=['j']:=by exact qF rfl) :
  PE X (.Call (.Attribute (.Name x px) "remove" apos) [e] [] cpos) (tE C own .sh (Qu i qgc fe)):=by
 refine jp (WZ cP PySem.F.slot_list_remove PySem.F.type_list_remove qiW (wG r o hd f) (qI (yx he j) jq hs) c w b hs rfl) λσ H Q h=>?_;have q:∀(a:Z7)(xs:List V)(ds ys:List D)(v:V)(d:D)(F H:Hp),Same F H->H a=lm (.lst xs)->F a=lr->IsL C.K F xs ds->Is C.K F v d->qgc ds d=.ok ys->(∀zs,IsL C.K F zs ys->Q .non (upd H a (.lst zs)))->qk8 (.ref a) [v] H Q:=λa xs ds ys v d F H t s u ix B g k=>by
  unfold qgc at g;split at g
  .rename_i ss y e1;split at g;·rename_i n;cases g;cases B;obtain⟨hx,hl⟩:=qiX ix e1;subst hx;exact⟨a,ss,y,rfl,rfl,s,n,k _ (yK λz l=>hl z (fX l))⟩
   .cases g
  .cases g
 obtain⟨a,xs,h1,h2,k⟩:=YI (R:=λx v H Q=>qk8 x [v] H Q) p j q h;exact⟨.ref a,h1,.inl ⟨rfl,xs,.inl (.inl h2)⟩,k⟩
theorem qiY{o e:Z4}{to:TE}{t:TA}{name:Str}{id:String}{r:V->List V->Hp->VK->Prop}(slot:Slot "tuple" name id)(y:nP (.builtin id)=pure (.type "method_descriptor"))(m:MtR X id r)(l:PE X o to)(j:PA X [e] t)(c:lP o name X.env (Z0 o X.env)=Z0 o X.env)
  (w:((lM cpos (lz [e] X.env)).all (λx=>!x.1)&&(mz cpos (lT [] X.env)).all (λx=>x.1.isSome)
   && decide 'r')=lv)
  (b:(apos.endLine == cpos.line)=lv) (hs:lz [e] X.env=['j']) :
  PE X (.Call (.Attribute o name apos) [e] [] cpos) (λσ H Q=>to σ H λx H1=>(∃p xs,x=.ref p/\SqT X.K H1 p xs)/\t σ H1 λxs H2=>r x xs H2 Q):=by
 refine⟨?_⟩;intro Z9 s σ H Q I h;refine wpAny_Call_method_late c w b rfl (thn (l Z9 s σ H _ I h) λv s1 f=>?_);obtain⟨x,H1,d,r1,ty,g⟩:=f;obtain⟨p,xs,rfl,hq⟩:=ty;cases r1;obtain⟨o',e1,k⟩:=d.tupleN hq;obtain⟨its,u,⟨o2,D,i,_⟩,_⟩:=d.tuple hq;refine⟨"tuple",id,PySem.F.plainAttrs_tuple,slot,y,⟨o2,D,i⟩,λa z=>by cases z;exact⟨o',e1,k⟩,?_⟩;have hA:=j cpos Z9 s1 σ H1 _ d g;rw[hs]at hA ⊢;refine dP rfl (dw ?_);exact thn hA λus s2 ⟨vs,H2,n,r2,q⟩=>m Z9 s2 σ H2 (.ref p) vs _ us Q n rfl r2 q
noncomputable def qhA:D->Bool
 |.tup _=>lv
 |_=>lw
def uR:D->D->Out D
 |.tup ds,e=>match QT 7 e ds with
  |some _=>.ok (.int ((ds.map λd=>eqN 7 d e == lm lv).countP id:Nat))
  |none=>.bad
 |_,_=>.bad
set_option tactic.hygienic true in
theorem qa4(E:C.K=X.K)(B:X.A.units+64<lY):MtD X C .sh "tuple.count" uR:=by
 intro Z9 s σ H x vs v us Q I k m h;obtain⟨y,F,dx,g,rfl,f,i,ty,po⟩:=h;rw[E]at i ty;obtain⟨u,rfl,q⟩:=m.one;unfold uR at po;cases dx <;> try exact po.elim
 rename_i ds;cases e:QT 7 g ds with
 |none=>simp only[e]at po;exact po.elim
 |some b=>simp only[e]at po;obtain⟨F',g',c,z⟩:=ty.is f;obtain⟨a,xs,rfl,p,l⟩:=i.tup f;cases k;obtain⟨its,r,pl,G⟩:=I.tuple p;obtain⟨h1,h2⟩:=Vp (A:=X.A) (y:=.non) (a:=a) (u:=.none) I B c z q (l.mono g') r e;have D:=qaP I c (l.mono g') r e;obtain⟨⟨cls,dd,data,sl⟩,o,j,n,t⟩:=pl;simp only at j t;subst j t;refine mi PySem.F.slot_tuple_count ⟨_,o,rfl⟩ PySem.F.entry_tuple_count (PySem.F.args_tuple_count_2 _ _) (SeqAt.tuple_countAt a _ n dd sl u (Gf X F' 7 g)) ⟨o,λw hw=>h2 w hw,?_⟩;refine⟨.int ((ds.map λd=>eqN 7 d g == lm lv).countP id:Nat),H,I.tok _,⟨s.toks,?_⟩,po _ F H f .refl (.int _)⟩;rw[<-D,List.countP_map];rfl
theorem qa5(l:C.K=X.K)(u:X.A.units+64<lY)(g:PE X a 'p')(hb:PE X b (tE C own mb fb))(f:ma≠.any:=by decide)(c:lP a "count" X.env (Z0 a X.env)=Z0 a X.env:=by rfl)
  (w:((lM cpos (lz [b] X.env)).all (λx=>!x.1)&&(mz cpos (lT [] X.env)).all (λx=>x.1.isSome)
   && decide ([b].length+([]:List l6).length+(if ([]:List l6).isEmpty then 0 else 1)<30))=true:=by exact vy rfl)
  (e:(apos.endLine == cpos.line)=true:=by rfl) (hs:lz [b] X.env=[(lw,Z0 b X.env)]:=by exact qF rfl) :
  PE X (.Call (.Attribute a "count" apos) [b] [] cpos) (tE C own .sh (dM qhA uR fa fb)):=by
 refine jp (qiY PySem.F.slot_tuple_count PySem.F.type_tuple_count (qa4 l u) g (qI hb jq hs) c w e hs) λσ H Q h=>?_;obtain⟨F,ρ,p,h⟩:=UA (ma:=ma) (mb:=mb) f h;refine⟨F,ρ,p,Po.imp h λx H1 h1=>?_⟩;obtain⟨⟨F1,dx,s,d,k⟩,h2⟩:=h1;refine⟨?_,?_⟩
 .cases dx <;> try (cases k;done)
  obtain⟨a,vs,rfl,hq,t⟩:=d.tup s;exact⟨a,vs,rfl,by rw[<-l];exact hq⟩
 .obtain⟨i,ρ2,r,h2⟩:=h2;exact⟨i,ρ2,r,Po.imp h2 λy H2 q=>⟨y,q.choose,q.choose_spec.choose,q.choose_spec.choose_spec.choose,rfl,q.choose_spec.choose_spec.choose_spec⟩⟩
end
end L2.D2
namespace L2.D2
open PySem PySem.Spec PyProof.Rows PySem.W
variable{N:Nat}{s:lx}
theorem qeu{cmp:Nat->Nat->(Bool->lx->Prop)->lx->Prop}{Q:Nat->lx->Prop}(d:∀i,i+1<N->∀C:Bool->lx->Prop,C lw s->cmp (i+1) i C s):∀(f n:Nat),1<=n->n+f<=N->Q (n+f) s->(kas_asc (e9 (aB N)) f n).kasWp cmp Q s
 | 0,n,_,_,h=>h
 |f+1,n,h1,h2,h=>by
  obtain⟨m,rfl⟩:∃m,n=m+1:=⟨n - 1,by lia⟩
  have e1:(e9 (aB N)).getD (m+1) 0=m+1:=by simp[iB,show m+1<N by lia]
  have e:(e9 (aB N)).getD (m+1 - 1) 0=m:=by simp[iB,show m<N by lia]
  show cmp ((e9 (aB N)).getD (m+1) 0) ((e9 (aB N)).getD (m+1 - 1) 0) _ s;rw[e1,e];refine d m 'b' _ ?_;have h:Q (m+1+1+f) s:=by rw[show m+1+1+f=m+1+(f+1) by lia];exact h
  exact qeu d f (m+1+1) 'b' 'b' h
theorem qgd{cmp:Nat->Nat->(Bool->lx->Prop)->lx->Prop}{G:Array Nat->lx->Prop}(a:1<=N)(d:∀i,i+1<N->∀C:Bool->lx->Prop,C lw s->cmp (i+1) i C s)(h:G (e9 (aB N)) s):(kas_sort N).kasWp cmp G s:=by unfold kas_sort kas_count;rw[KasT.kasWp_bind,KasT.kasWp_bind];refine qeu d (N - 1) 1 (ao _) 'b' ?_;rw[show 1+(N - 1)=N by lia,Aa 'f'];show(if N<N then _ else KasT.ret _:KasT (Array Nat)).kasWp cmp G s;rw[Ab (bS _)];exact h
section
variable{prog:lC}{w:lD}{A:lG}{E:lu->lx->Prop}
theorem Kb{a:Z7}{vs:List lu}{n:Nat}{P:PySem.Fin->lx->Prop}(l:s.heap.get? a=lm (lX "list" vs.toArray n))(j:vs.length<64)(k:2<=vs.length->∀h':Z5,(∀b o,b≠a->s.heap.get? b=lm o->h'.get? b=lm o)->∃κ,(∀Q:SortKind->lx->Prop,Q κ { s with heap:=h' }->lA 'd' A (keyKind' vs.toArray) Q (λ_ _=>False) { s with heap:=h' })/\∀i,i+1<vs.length->∀C:Bool->lx->Prop,C lw { s with heap:=h' }->kas_ask prog w A κ vs (i+1) i C { s with heap:=h' })(h:P (.done (.ret .none)) { s with heap:=sortedHeap s.heap a vs vs.toArray }) :
  lA 'd' A (Builtin.«list.sort» ⟨[.ref a],[]⟩) P E s:=by
 rw[list_sort_plain];have m:a<s.heap.objs.size:=ax l;refine lq (listItems_at l rfl ?_);refine lq (listUpdate_at l rfl ?_ (by rw[au,lE];lia) (be _));obtain⟨e1,ho1⟩:∃e1,(s.heap.update a (cR λ_=>#[])).get? a=lm (lX "list" #[] e1):=⟨_,get?_update_seq l (λ_=>#[])⟩
 refine lq (seqEpoch_at ho1 rfl ?_);refine lq (wpAny_newTuple ?_ (by show vs.length<=_;rw[lE];lia));refine lq (nY ?_ (be _));refine lH ?_;have c:(((s.heap.update a (cR λ_=>#[])).push (lX "tuple" vs.toArray 0)).push (lX "list" #[] 0)).get? a=lm (lX "list" #[] e1):=by rw[iK _ _ _ (by rw[size_push',Heap.size_update];exact aD (cO m)),iK _ _ _ (by rw[Heap.size_update];exact aD m)];exact ho1
 have keep:∀b o,b≠a->s.heap.get? b=lm o->(((s.heap.update a (cR λ_=>#[])).push (lX "tuple" vs.toArray 0)).push (lX "list" #[] 0)).get? b=lm o:=λb o hb e=>
  ac _ (ac _ (by rw[Heap.get?_update_ne _ _ _ _ hb];exact e))
 show lA 'd' A _ P E { s with heap:=((s.heap.update a (cR λ_=>#[])).push (lX "tuple" vs.toArray 0)).push (lX "list" #[] 0) };dsimp only;have hsz:vs.toArray.size=vs.length:=by simp
 have g:(vs.toArray.zip vs.toArray).map (·.2)=vs.toArray:=by apply cY.mp;rw[Array.toList_map,Array.toList_zip];exact List.map_snd_zip (ao _)
 by_cases h2:vs.toArray.size<2;·rw[Aa h2,Aa h2];refine lq (ly ?_);rw[StateT.run_pure];refine lq (ly ?_);dsimp only;have v:arrOf (SortSt.mk' general' (vs.toArray.zip vs.toArray) #[] 7 lr)=vs.toArray.zip vs.toArray:=rfl;refine lq (seqEpoch_at c rfl ?_);rw[v,g];refine lq (listUpdate_at c rfl ?_ (be _) (by rw[hsz,lE];lia));simp only[bne_self_eq_false,bq,if_false];exact ly h
 .rw[Ab h2,Ab h2];rw[hsz]at h2;obtain⟨κ,r,u⟩:=k 'b' _ keep;refine lq (lR (r (λd s'=>d=κ/\s'={ s with heap:=((s.heap.update a (cR λ_=>#[])).push (lX "tuple" vs.toArray 0)).push (lX "list" #[] 0) }) ⟨rfl,rfl⟩) (λd s' q=>?_) λ_ _ x=>x.elim);obtain⟨rfl,rfl⟩:=q;refine lq (lR (kat_run (Q:=λf s'=>(arrOf f).map (·.2)=vs.toArray/\failedOf f=lr/\s'={ s with heap:=((s.heap.update a (cR λ_=>#[])).push (lX "tuple" vs.toArray 0)).push (lX "list" #[] 0) })
   (G:=λp s'=>p=e9 (aB vs.length)/\s'={ s with heap:=((s.heap.update a (cR λ_=>#[])).push (lX "tuple" vs.toArray 0)).push (lX "list" #[] 0) })
   rfl 'b' j (λX f s' D B z y=>⟨?_,z,y.2⟩) (qgd 'b' u ⟨rfl,rfl⟩)) ?_ λ_ _ e=>e)
  .rw[kat_snds rfl B,y.1];congr 1;refine fR λi=>?_;by_cases hi:i<vs.length;·simp[hi]
   .simp[hi]
  .rintro⟨⟨⟩,f⟩ s' ⟨hp,t,rfl⟩;dsimp only;refine lq (seqEpoch_at c rfl ?_);rw[hp];refine lq (listUpdate_at c rfl ?_ (be _) (by rw[hsz,lE];lia));rw[t];simp only[bne_self_eq_false,bq,if_false];exact ly h
end
theorem VR:∀l:List Int,JY (l.map D.int)=lm l
 |[]=>rfl
 |x::l=>by show(JY (l.map D.int)).map (x::·)=lm (x::l);rw[VR l];rfl
end L2.D2
namespace L2.D2
open PySem PySem.Spec PyProof.Rows
noncomputable def VS:D->Out D
 |.dct kvs=>.ok (.dct kvs)
 |_=>.bad
variable{X:Cx}{C:Ct}
set_option tactic.hygienic true in
theorem Xe(l:C.K=X.K):xu X C .fr (.type "dict") VS:=by
 intro Z9 s σ H xs us Q I r h;obtain⟨x,F,dx,rfl,t,g,po⟩:=h;cases dx <;> try exact po.elim
 rename_i ks;have po:PoV C .fr F H (.ok (.dct ks)) Q:=po;obtain⟨a,kv,rfl,hq,i⟩:=g.dct t;obtain⟨u,rfl,y⟩:=wl r;cases y;obtain⟨z,S,vs,B,hd⟩:=(show ObjOk X.prog X.w H s.heap a (.dK kv)from I.hok a _ hq)
 have hl:=B.length;refine kt_call_dict S hd 'b' λh' f d=>?_;have kp:∀b o,s.heap.get? b=lm o->h'.get? b=lm o:=λb o e=>(d.2 b (aD (ax e))).trans (ac _ e);have hp:H s.heap.objs.size=none:=I.hok.fresh (ao _);obtain⟨s2,c2,j⟩:=ke (u:=.dK kv) t hp;have c:(s.heap.objs.size == l9)=false:=beq_eq_false_iff_ne.mpr (eI I.big);exact⟨.ref s.heap.objs.size,_,I.laid (o:=.dK kv) (t':=s.toks) kp (ao _) (GJ z c B f),rfl,po _ F _ s2 c2 ⟨_,rfl,hp,j,_,qm,i⟩⟩
def Gh{α:Type}(ds:List α)(lo hi:Option Int):List α:=(ds.drop (HT.sIx ds.length 0 lo)).take (HT.sIx ds.length ds.length hi - HT.sIx ds.length 0 lo)
def qhB(lo hi:Option Int):D->Out D
 |.lst ds=>.ok (.lst (Gh ds lo hi))
 |_=>.bad
def jH(fa:qW)(l u:Option (qW)):qW:=λρ=>(fa ρ).bind λp=>(wq l p.2).bind λa=>(wq u a.2).bind λb=>(qhB a.1 b.1 p.1).plain.bind λd=>.ok (d,b.2)
section
variable{own:List Nat}{e:Z4}{fa:qW}{ma:Mo}{pos p2:Pos}
theorem qk9(l:C.K=X.K):SlR X (λx lo hi H Q=>∃F d,Same F H/\Is C.K F x d/\PoV C .sh F H (qhB lo hi d) Q):=by
 intro Z9 s σ H x v vl c lo hi sl Q I r hs pl e h;obtain⟨F,d,b,is,po⟩:=h;cases d with
 | lst ds=>
  cases is with
  |@lst a xs _ hq t=>
   have po:PoV C .sh F H (.ok (.lst (Gh ds lo hi))) Q:=po;refine qfm Z9 s σ H _ v vl c lo hi sl Q I r hs pl e ⟨a,xs,rfl,by rw[<-l];exact b.seq hq,λp hp=>?_⟩;obtain⟨s2,c2⟩:=wm (u:=.lst (qfi xs lo hi)) b hp;have B:IsL C.K F (qfi xs lo hi) (Gh ds lo hi):=by unfold qfi Gh;rw[t.length];exact IsL.take _ (IsL.drop _ t)
   exact po _ _ _ s2 c2 (.lst (.inl (.inl qm)) (B.mono c2.grow))
 |_=>exact po.elim
theorem yO{lo hi:Option Z4}{l u:Option (qW)}(j:C.K=X.K)(he:PE X e 'p')(hl:PO X lo (tO C own (wq l)))(i:PO X hi (tO C own (wq u)))(g:ma≠.any:=by decide):PE X (.Subscript e (.Slice lo hi lr p2) pos) (tE C own .sh (jH fa l u)):=by
 refine jp (qcJ (qk9 (C:=C) j) (yx he g) hl i) λσ H Q ⟨F,ρ,p,h⟩=>⟨F,ρ,p,Po.bind h λv F1 H1 d ρ1 f c1 m h1=>?_⟩
 refine⟨F1,ρ1,f,Po.bindO h1 λq H2 a ρ2 r c2 h2=>⟨q,ρ2,r,Po.bindO h2 λo s b k c I n=>?_⟩⟩;exact⟨o,d,c.sub,(m.mono c2.grow).mono I.grow,PoV.of c n⟩
end
theorem fsc{N P:List Str}{sc:mQ}(a:sc.kind=.function:=by rfl)(b:sc.isCoroutine=false:=by rfl)(c:sc.isGenerator=false:=by rfl)(d:N.Nodup:=by decide +kernel)(e:N.take P.length=P:=by rfl)(f:∀x∈P,sc.names.lookup x=lm .local\/sc.names.lookup x=lm .cell:=by decide +kernel)(g:∀y∈sc.names,y.2≠.free:=by decide +kernel):FnScope N P sc:=⟨a,b,c,d,e,f,g⟩
end L2.D2
namespace L2.D2
open PySem PySem.Spec PyProof.Rows PySem.W
noncomputable def jw(H:Hp)(l:List (Z7×List V)):Hp:=λb=>match l.lookup b with
 |some xs=>lm (.tup xs)
 |none=>H b
variable{α:Type}
theorem qa6{x:Z7}{a:α}:∀{l:List (Z7×α)},l.lookup x=lm a->(x,a)∈l
 |[],h=>by simp at h
 | (n,k)::r,h=>by
  rw[bU]at h;by_cases e:(x == n)=lv
  .rw[e]at h;have h:lm k=lm a:=h;cases h;have:x=n:=by simpa using e
   rw[this];exact aj ..
  .rw[Bool.not_eq_true]at e;rw[e]at h;exact ae _ (qa6 h)
variable{H:Hp}{l:List (Z7×List V)}{b:Z7}
theorem Xf(h:∀p∈l,p.1≠b):jw H l b=H b:=by
 unfold jw;cases e:l.lookup b with
 |none=>rfl
 |some xs=>exact absurd rfl (h _ (qa6 e))
theorem kz{o:HO}(n:∀p∈l,H p.1=lr)(e:H b=lm o):jw H l b=lm o:=by rw[Xf λp hp q=>?_,e];have:=n p hp;rw[q,e]at this;cases this
variable{X:Cx}{s:lx}
section
variable{Z9:Pns}{σ:St}{F:Hp}{h':Z5}
theorem Inv.lays{t':Nat}(I:Inv X Z9 σ H s)(k:∀b u,s.heap.get? b=lm u->h'.get? b=lm u)(hp:∀p∈l,s.heap.objs.size<=p.1)(new:∀b xs,l.lookup b=lm xs->(xs.length<=Z8/\∃o,h'.get? b=lm o/\o.dict=lr)/\∃its:List lu,Vals xs its/\IsTup h' b its.toArray):Inv X Z9 σ (jw H l) { s with heap:=h',toks:=t' }:=by
 have h:∀p∈l,H p.1=none:=λp hq=>I.hok.fresh (hp p hq);refine I.un ⟨λb u q _ _ _=>k b u q,λb u q _ _ _=>⟨u.slots,k b u q⟩,λb u q n _=>?_,λb u q _=>⟨u,k b u q⟩,λb xs q=>kz h q,λb u xs q=>kz h q,λb ps q=>⟨#[],by rw[kz h q];simp⟩⟩ λb u e=>?_
 .rw[Xf λp hq z=>?_];·exact n
  .exact absurd (ax q) (by rw[<-z];exact Nat.not_lt.mpr (hp p hq))
 .cases q:l.lookup b with
  |some xs=>have e:jw H l b=lm u:=e;unfold jw at e;rw[q]at e;cases e;exact new b xs q
  |none=>have e:jw H l b=lm u:=e;unfold jw at e;rw[q]at e;exact(I.hok b u e).stay (λc v _ q=>k c v q) (λc q=>kz h q) λc xs q=>kz h q
theorem qdx(t:Same F H)(n:∀p∈l,H p.1=lr):Same (jw F l) (jw H l)/\Chg No F H (jw F l) (jw H l):=by
 have g:∀p∈l,F p.1=none:=λp hp=>by
  cases q:F p.1 with
  |none=>rfl
  |some o=>have:=n p hp;rw[t _ o q]at this;cases this
 refine⟨λb o e=>?_,⟨λb o e _=>kz n e,λb e=>?_,λb o e=>kz g e,λb e=>?_⟩⟩
 .unfold jw at e ⊢;cases q:l.lookup b with
  |some xs=>rw[q]at e;exact e
  |none=>rw[q]at e;exact t b o e
 .cases q:H b with
  |none=>exact absurd q e
  |some o=>rw[kz n q];simp
 .cases q:l.lookup b with
  |some xs=>exact .inr (.inl (n _ (qa6 q)))
  |none=>have e:jw F l b≠none:=e;unfold jw at e;rw[q]at e;exact .inl e
end
variable{prog:lC}{w:lD}{A:lG}{E:lu->lx->Prop}
section
theorem VT{K:Type}[DecidableEq K]{knd:KeyKind prog w K}{r d:Z7}{kvs:List (K×lu)}{ep:Nat}{Q:lu->lx->Prop}(t:A.handled=lr)(v:s.heap.IsItemsView r d)(p:s.heap.DictAt knd d kvs ep)(g:kvs.length<64)(c:2<=kvs.length->∀(as:List Z7)(s':lx)(n:lG),as.length=kvs.length->KdxG knd kvs s.heap.objs.size s'.heap as->∃κ,(∀Q:SortKind->lx->Prop,Q κ s'->lA 'd' n (keyKind' (as.map aR).toArray) Q (λ_ _=>False) s')/\∀i,i+1<kvs.length->∀C:Bool->lx->Prop,C lw s'->kas_ask prog w n κ (as.map aR) (i+1) i C s')(u:∀(h1 h':Z5)(tk e:Nat)(as:List Z7),(∀b o,s.heap.get? b=lm o->h1.get? b=lm o)->(∀b o,h1.get? b=lm o->h'.get? b=lm o)->as.length=kvs.length->KdxG knd kvs s.heap.objs.size h1 as->h'.get? h1.objs.size=lm (lX "list" (as.map aR).toArray e)->Q (.ref h1.objs.size) { s with heap:=h',toks:=tk }) :
  lA 'd' A (call (.builtin "sorted") [.ref r]) Q E s:=by
 refine fh kind_sorted plain_sorted entry_sorted (args_sorted1 _) ?_;unfold Builtin.«sorted»;refine lq (m:=checkCount "sorted" 1 1 _) (ly ?_);refine lq (kdx_collect (A:=A.in1) (knd:=knd) (kvs:=kvs) (ep:=ep) t v p (by rw[lE];lia) λh1 tk as k1 hl G=>?_);have h:(as.map aR).length=kvs.length:=by rw[aq];exact hl
 refine lq (nY ?_ (by rw[h,lE];lia));have W:(h1.push (lX "list" (as.map aR).toArray 0)).get? h1.objs.size=lm (lX "list" (as.map aR).toArray 0):=ap _ rfl;have y:∀h2:Z5,(∀b o,b≠h1.objs.size->(h1.push (lX "list" (as.map aR).toArray 0)).get? b=lm o->h2.get? b=lm o)->KdxG knd kvs s.heap.objs.size h2 as:=λh2 k2=>
  ⟨G.rise,G.above,λj a q=>by obtain⟨key,k,x,e1,z,l⟩:=G.pairs j a q;exact⟨key,k,x,e1,z,k2 a _ (aD (ax l)) (ac _ l)⟩⟩
 refine lq (lH (lL slot_list_sort (s:={ s with heap:=h1.push (lX "list" (as.map aR).toArray 0),toks:=tk }) ⟨_,W,rfl⟩ entry_list_sort (Kb W (by rw[h];exact g) (λf h2 k2=>by rw[h]at f ⊢;exact c f as { s with heap:=h2,toks:=tk } _ hl (y h2 k2)) ⟨_,rfl,?_⟩) (args_list_sort _)));obtain⟨e,he⟩:=sortedHeap_at (out:=(as.map aR).toArray) W;refine ly ⟨_,rfl,u h1 _ tk e as k1 (λb o D=>?_) hl G he⟩;have hb:=ax D;rw[sortedHeap_old (aD hb) (by rw[bP];exact cO hb)];exact ac _ D
end
noncomputable def kD:Key->D
 |.inl i=>.int i
 |.inr x=>.str x
noncomputable def qge:List Str->Bool
 |x::y::r=>decide (y≠x)&&!decide (y.cps.toList<x.cps.toList)&&qge (y::r)
 |_=>lv
theorem qa7:∀{ss:List Str},qge ss=lv->∀i x y,ss[i]?=lm x->ss[i+1]?=lm y->y≠x/\¬y.cps.toList<x.cps.toList
 |[],_,i,x,y,h1,_=>by simp at h1
 |[_],_,i,x,y,_,h2=>by simp at h2
 |a::b::r,h,i,x,y,h1,h2=>by
  unfold qge at h;simp only[aO,decide_eq_true_eq,d8,decide_eq_false_iff_not]at h;cases i with
  |zero=>cases h1;cases h2;exact h.1
  |succ i=>exact qa7 h.2 i x y h1 h2
def Xg(kvs:List (Key×D)):List D:=kvs.map λkv=>.tup [kD kv.1,kv.2]
def va:D->Out D
 |.dct kvs=>(match UE kvs with
  |some ss=>if ss.length<64/\qge ss=lv/\(ss.all λy=>decide (y.length<=Z8))=lv then .ok (.lst (Xg kvs))else .bad
  |none=>.bad)
 |_=>.bad
theorem qev{κ:Type}:∀{kv:List (κ×V)}{vs:List (κ×lu)},KV kv vs->∀(j:Nat)(k:κ)(x:lu),vs[j]?=lm (k,x)->∃v,kv[j]?=lm (k,v)/\RelV v x
 |_,_,.nil,j,k,x,h=>by simp at h
 |_,_,.cons (a:=p) (b:=q) r t,j,k,x,h=>by
  cases j with
  |zero=>cases h;obtain⟨p1,p2⟩:=p;obtain⟨rfl,r2⟩:=r;exact⟨p2,rfl,r2⟩
  |succ j=>exact qev t j k x h
theorem qew:∀{as:List Z7}{ys:List α}{b:Z7}{y:α},(as.zip ys).lookup b=lm y->∃j:Nat,as[j]?=lm b/\ys[j]?=lm y
 |[],_,b,y,h=>by simp at h
 |_::_,[],b,y,h=>by simp at h
 | a::as,z::ys,b,y,h=>by
  rw[dU,bU]at h;by_cases e:(b == a)=lv
  .rw[e]at h;have h:lm z=lm y:=h;cases h;have:b=a:=by simpa using e
   rw[this];exact⟨0,rfl,rfl⟩
  .rw[Bool.not_eq_true]at e;rw[e]at h;obtain⟨j,h1,h2⟩:=qew h;exact⟨j+1,h1,h2⟩
theorem qex:∀{as:List Z7}{ys:List α}{j:Nat}{b:Z7}{y:α},as.Nodup->as[j]?=lm b->ys[j]?=lm y->(as.zip ys).lookup b=lm y
 |[],_,j,b,y,_,h,_=>by simp at h
 |_::_,[],j,b,y,_,_,h=>by simp at h
 |a::as,z::ys,0,b,y,_,h1,h2=>by cases h1;cases h2;rw[dU,bU];simp
 |a::as,z::ys,j+1,b,y,n,h1,h2=>by
  rw[dU,bU];have n:=aZ.mp n;have:(b == a)=false:=by rw[beq_eq_false_iff_ne];intro q;rw[q]at h1;exact n.1 (List.mem_iff_getElem?.mpr ⟨j,h1⟩)
  rw[this];exact qex n.2 h1 h2
theorem VU:∀as:List Z7,Vals (as.map V.ref) (as.map aR)
 |[]=>.nil
 |_::as=>.cons rfl (VU as)
theorem VV{K:Y9}{F F':Hp}(g:Same F F'):∀{kv:List (Key×V)}{ks:List (Key×D)}{as:List Z7},IsK K F kv ks->as.length=kv.length->(∀k∈ks.map (·.1),∃x:Str,k=.inr x/\x.length<=Z8) ->(∀(j:Nat)(a:Z7)(p:Key×V),as[j]?=lm a->kv[j]?=lm p->F' a=lm (.tup [kV p.1,p.2]))->IsL K F' (as.map V.ref) (Xg ks)
 |_,_,[],.nil,_,_,_=>.nil
 |_,_,_::_,.nil,h,_,_=>by simp at h
 |_,_,[],.cons _ _,h,_,_=>by simp at h
 |_,_,a::as,.cons (k:=k) (v:=v) (d:=d) h t,hl,hk,hF=>by obtain⟨x,rfl,hx⟩:=hk _ (aj ..);have e:=hF 0 a (.inr x,v) rfl rfl;exact .cons (.tup (.inl (.inl e)) (.cons (.str hx) (.cons (h.mono g) .nil))) (VV g t (by simpa using hl) (λk b=>hk k (ae _ b)) λj a p h1 h2=>hF (j+1) a p h1 h2)
section
variable{C:Ct}{own:List Nat}{o:Z4}{fa:qW}{ma:Mo}{pos p apos cpos:Pos}
theorem VW (hK:C.K=X.K) (hc:X.calm=lv) (hg:Gl X "sorted") (hm:X.mg "sorted"=lr) (c:lB "sorted"=lm (.builtin "sorted")) (ha:PE X o 'p')
  (m:lP o "items" X.env (Z0 o X.env)=Z0 o X.env:=by rfl) (g:(apos.endLine == cpos.line)=true:=by rfl)
  (he2:lz [.Call (.Attribute o "items" apos) [] [] cpos] X.env=[(lw,Z0 (.Call (.Attribute o "items" apos) [] [] cpos) X.env)]:=by exact qF rfl) :
  PE X (.Call (.Name "sorted" p) [.Call (.Attribute o "items" apos) [] [] cpos] [] pos) (tE C own .fr (d1 va fa)):=by
 refine⟨?_⟩;intro Z9 s σ H Q I h;refine mh (zL I hg hm c ?_ 'e' 'e');rw[he2];refine dP rfl (dw (Calls.spliced_cons ?_));refine wpAny_Call_method m rfl g PySem.F.plainAttrs_dict PySem.F.slot_dict_items PySem.F.type_dict_items (thn (ha Z9 s σ H _ I (JM (ma:=ma) h)) λu s1 z9=>?_);obtain⟨x,H1,R,rx,F,dx,sb,tx,po⟩:=z9;cases dx with
 | dct kvs=>
  obtain⟨a,kv,rfl,hH,Y⟩:=tx.dct sb;obtain rfl:u=aR a:=rx;obtain⟨t1,t2,f⟩:=qif R (.inl ⟨kv,.inl hH⟩);refine⟨t1,t2,?_⟩;refine dP rfl (PySem.evalArgs_none ?_);cases q:UE kvs with
  |none=>simp only[va,q]at po;exact po.elim
  | some ss=>
   simp only[va,q]at po;by_cases hl:ss.length<64/\qge ss=lv/\(ss.all λy=>decide (y.length<=Z8))=lv
   ·rw [Aa hl]at po;obtain⟨l1,l2,l3⟩:=hl;obtain⟨hz,f,vs,rel,dd⟩:=(show ObjOk X.prog X.w H1 s1.heap a (.dK kv)from R.hok a _ hH)
    have hk:vs.map (·.1)=ss.map cG:=by rw[<-KV.keys rel,Y.keys,Xa q]
    have hlen:vs.length=ss.length:=by have:=congrArg lh hk;simpa using this
    have hlk:kv.length=vs.length:=rel.length;refine call_meetsIn PySem.F.slot_dict_items dd.typeIs PySem.F.entry_dict_items (PySem.F.args_dict_items_1 _) (meets_dict_items (qX X.prog X.w) a f) ⟨⟨vs,dd⟩,?_⟩;refine Calls.spliced_nil ?_;obtain⟨ep,da⟩:=dd.dictAt;have J:∀(j:Nat)(k:Key)(x:lu),vs[j]?=lm (k,x)->∃y,ss[j]?=lm y/\k=.inr y:=λj k x e=>by
     have D:(vs.map (·.1))[j]?=lm k:=by rw[aJ,e];rfl
     rw[hk,aJ]at D;obtain⟨y,P,A⟩:=aS.mp D;exact⟨y,P,A.symm⟩
    have r:∀{lo:Z7}{h:Z5}{as:List Z7},KdxG (qX X.prog X.w) vs lo h as->∀(j:Nat)(b:Z7),as[j]?=lm b->∃y t x,ss[j]?=lm y/\vs[j]?=lm (.inr y,x)/\h.get? b=lm { cls:=.type "tuple",data:=.seq #[.str y t,x] }:=λG j b hj=>by
     obtain⟨key,k,x,e1,e2,D⟩:=G.pairs j b hj;obtain⟨y,P,rfl⟩:=J j k x e1;rcases jk (show zK (cG y) key=lv from e2)with⟨i,t,A,_⟩|⟨z,t,A,rfl⟩
     .cases A
     .cases A;exact⟨_,t,x,P,e1,D⟩
    refine VT (knd:=qX X.prog X.w) (d:=a) (kvs:=vs) (ep:=ep) (I.ok.hd hc) ⟨_,ap _ rfl,rfl,rfl⟩ (da.push _) 'b' (λh2 as s' A' hla n=>?_) λh1 h' tk e as k1 k2 hla n hp=>?_
    .refine⟨tuples' lv,λQ' hQ'=>?_,λi hi C' hC=>?_⟩
     .obtain⟨fs,f1,f2,O⟩:∃fs:List lu,KatTups s'.heap (as.map aR) fs/\fs.length=as.length/\∀v∈fs,∃y t,v=cM y t:=by
       have go:∀(l:List Z7),(∀b∈l,∃y t x,s'.heap.get? b=lm { cls:=.type "tuple",data:=.seq #[cM y t,x] })->∃fs:List lu,KatTups s'.heap (l.map aR) fs/\fs.length=l.length/\∀v∈fs,∃y t,v=cM y t:=by
        intro l
        induction l with
        |nil=>intro _;exact⟨[],.nil,rfl,λv c=>by cases c⟩
        |cons b l ih=>
         intro c;obtain⟨y,t,x,ho⟩:=c b (aj ..);obtain⟨fs,f1,f2,O⟩:=ih λU h'=>c U (ae _ h');refine⟨cM y t::fs,.cons ho rfl rfl 'f' f1,by simp[f2],λU h'=>?_⟩;rcases af.mp h' with rfl|h';·exact⟨_,_,rfl⟩
         .exact O U h'
       refine go as λb hb=>?_;obtain⟨j,hj⟩:=List.mem_iff_getElem?.mp hb;obtain⟨y,t,x,_,_,D⟩:=r n j b hj;exact⟨y,t,x,D⟩
      refine kat_kind (T:=.type "str") f1 'b' (λv c=>?_) 'e' hQ';obtain⟨y,t,rfl⟩:=O v c;exact .now
     .have M:as[i+1]?=lm (as[i+1]'(by lia)):=aG _;have N:as[i]?=lm (as[i]'(by lia)):=aG _;obtain⟨y1,u1,x1,g1,_,g2⟩:=r n (i+1) _ M;obtain⟨y0,u0,x0,g3,_,g4⟩:=r n i _ N;obtain⟨n1,n2⟩:=qa7 l2 i y0 y1 g3 g1;unfold kas_ask;rw[show(as.map aR).getD (i+1) .none=.ref (as[i+1]'(by lia)) by rw[cx,aJ,M];rfl,show(as.map aR).getD i .none=.ref (as[i]'(by lia)) by rw[cx,aJ,N];rfl];refine kat_lt g2 rfl g4 rfl (kat_cons (wpAny_eqBool_str ?_));rw[Ac n1];refine kat_no (oneLt_str ?_);rw[Ac n2];exact hC
    .have B:∀b o,s1.heap.get? b=lm o->h1.get? b=lm o:=λb o eb=>k1 b o (ac _ eb);have hsz:(s1.heap.push { cls:=.type "dict_items",data:=.fields #[.ref a] }).objs.size=s1.heap.objs.size+1:=bP ..;have hab:∀b∈as,s1.heap.objs.size<=b:=λb hb=>by have:=n.above b hb;have this:(s1.heap.push { cls:=.type "dict_items",data:=.fields #[.ref a] }).objs.size<b:=this;rw[hsz]at this;exact cH (iI this)
     have hnd:as.Nodup:=n.rise.imp λz=>aD z;have hlz:as.length=(kv.map λp=>[kV p.1,p.2]).length:=by rw[aq];lia
     have E:∀q∈as.zip (kv.map λp=>[kV p.1,p.2]),s1.heap.objs.size<=q.1:=λq hq=>hab _ (fC hq).1;have I2:Inv X Z9 σ (jw H1 (as.zip (kv.map λp=>[kV p.1,p.2]))) { s1 with heap:=h1,toks:=tk }:=Inv.lays R B E λb xs hb=>by obtain⟨j,W,S⟩:=qew hb;obtain⟨y,t,x,e1,e2,D⟩:=r n j b W;obtain⟨v,P,A⟩:=qev rel j _ x e2;rw[aJ,P]at S;cases S;exact⟨⟨by show 2<=_;rw[lE];decide,_,D,rfl⟩,[.str y t,x],.cons ⟨t,rfl⟩ (.cons A .nil),_,D,rfl,_,rfl⟩
     have hq0:H1 h1.objs.size=none:=(R.kept (t':=tk) B).hok.fresh (ao _);have Z:jw H1 (as.zip (kv.map λp=>[kV p.1,p.2])) h1.objs.size=none:=I2.hok.fresh (ao _);obtain⟨s2,c2⟩:=qdx (l:=as.zip (kv.map λp=>[kV p.1,p.2])) sb λq hq=>R.hok.fresh (E q hq);obtain⟨s3,c3,O⟩:=ke (u:=.lst (as.map V.ref)) s2 Z;have il:=VV (as:=as) c2.grow Y 'b' (λk L=>by
      rw[<-Y.keys,KV.keys rel,hk]at L;obtain⟨y,hy,rfl⟩:=aw.mp L;exact⟨y,rfl,Ae (aW.mp l3 y hy)⟩) λj b q W S=>by
      unfold jw;rw[qex hnd W (by rw[aJ,S];rfl)]
     exact⟨.ref h1.objs.size,_,I2.laid (t':=tk) (o:=.lst (as.map V.ref)) k2 (ao _) ⟨by rw[aq,lE];lia,as.map aR,e,VU as,by simpa[lX]using hp⟩,rfl,po _ _ _ s3 (c2.trans' c3) ⟨_,rfl,hq0,O,_,qm,il⟩⟩
   .rw[Ab hl]at po;exact po.elim
 |_=>exact po.elim
end
section
variable{z TI TO i1 i2:Z7}{fp1 fp2:List Z7}{n1 n2 i:Nat}{P1 P2:Nat->lu->Prop}{S1 S2:Nat->Z5->Prop}{a b:lu}
end
end L2.D2
namespace L2.D2
open PySem PySem.Spec PyProof.Rows
noncomputable def UG(c:Z7)(n:Str):Option (Option D)->Bool
 |some (lm (.ins k fs))=>decide (k=c)&&(fs.lookup n).isNone
 |_=>lw
def kP(c:Z7)(i:Nat)(n:Str)(as:List AK)(G:jy)(fr:vV):qW:=λρ=>if UG c n ρ[i]?=lv then qt (.sl i::as) G (kx fr) ρ else .bad
variable{X:Cx}{C:Ct}{own:List Nat}{as:List AK}{mr:Mo}{e:Z4}{es:List Z4}{x:Str}{pos:Pos}{ms:List PM}{ps:List Str}{i:Nat}{cv:Str->lu}
section
variable{fr:vV}{n:Str}{apos px:Pos}{c:Z7}{G:jy}{k j:Nat}
theorem Xh{σ:St}{H:Hp}{Q:VK}(l:i∈own)(o:∀i∈C.ox,i∈own)(hs:∀j∈qS (.sl i::as),j∈own)(nd:(qS (.sl i::as)).Nodup)(f:frA (.sl i::as)<=1)(h:tE C own mr (kP c i n as G fr) σ H Q):∃a dx fv,σ[i]?=lm (lm (.ref a))/\H a=lm (.ins c dx fv)/\fv.lookup n=lr/\tAr C own as fr σ H λvs H1=>spD C.K C.cv ((AK.sl i::as).map yB) mr G (.ref a::vs++[]) H1 Q C.E:=by
 obtain⟨F,ρ,p,h⟩:=h;obtain⟨d,hd⟩:=p.opn i l;obtain⟨a,h1,h2,g⟩:=p.ow i d l hd;unfold kP at h;rw[hd]at h;cases d with
 |ins k fs=>
  by_cases z:UG c n (lm (lm (.ins k fs)))=lv;·rw[Aa z]at h;have z:(decide (k=c)&&(fs.lookup n).isNone)=true:=z;rw[aO]at z;obtain⟨b,N⟩:=z;have b:=Ae b;subst b;obtain⟨dx,fv,e,t⟩:=g;refine⟨a,dx,fv,h1,e,t.non (by cases q:fs.lookup n with|none=>rfl|some y=>rw[q]at N;cases N),?_⟩;obtain⟨F',ρ',r,h'⟩:=Ug (as:=.sl i::as) o hs nd f ⟨F,ρ,p,h⟩;exact yy (a:=.sl i) (v:=.ref a) (λx z=>(r.OA_there z).1) r .refl h' λs H2 vs ds c2 m=>⟨h1,rfl,m⟩
  .rw[Ab z]at h;exact h.elim
 |_=>exact h.elim
theorem Xi{pl:Sem Bool}(q:Cls X.K c)(F:YZ X.prog X.w X.K X.mg X.base cv j c n ps ms mr G)(r:Room k X.A)(D:j<=k)(hx:jJ (CXk X.prog X.w X.mg) X C.E)(y:X.N[i]?=lm x)(b:Vis X.env.scope x)(m:i∈own)(u:PA X (e::es) (tAr C own as fr))(v:C.cv=cv:=by rfl)(z:C.K=X.K:=by rfl)(s:ms=(AK.sl i::as).map yB:=by rfl)(hs:∀j∈qS (.sl i::as),j∈own:=by decide)(nd:(qS (.sl i::as)).Nodup:=by decide)(p:frA (.sl i::as)<=1:=by decide)(o:∀i∈C.ox,i∈own:=by exact jK rfl)(hd:Dbg x:=by decide)(d:Cdk x:=by decide)(t:lz (e::es) X.env='j'::lz es X.env:=by exact qV rfl)(l:(lM pos (lz es X.env)).any (·.1)=false:=by exact vx rfl)
  (ht:Z0 (.Call (.Attribute (.Name x px) n apos) (e::es) [] pos) X.env=(do
   let ov <-Z0 (.Name x px) X.env
   oB apos.atName
   let (f,first) <-holding [ov] (nZ ov n pl)
   oR pos f first (lM pos (lz (e::es) X.env)) (mz pos (lT [] X.env))):=by rfl):PE X (.Call (.Attribute (.Name x px) n apos) (e::es) [] pos) (tE C own mr (kP c i n as G fr)):=by
 subst v s;obtain⟨f,fd,F0,M,hb⟩:=F;refine jp (qfc (pl:=pl) (wG y b hd d) q M F0 (r.mono D) hb .nil hx u t l ht) λσ H Q h=>?_;obtain⟨a,dx,fv,h1,h2,B,g⟩:=Xh m o hs nd p h;rw[z]at g;exact⟨_,h1,a,dx,fv,rfl,h2,B,g⟩
theorem qa8{pl:Sem Bool}(m:Cls X.K c)(F:YZ X.prog X.w X.K X.mg X.base cv j c n ps ms mr G)(g:Room k X.A)(D:j<=k)(hx:jJ (CXk X.prog X.w X.mg) X C.E)(p:X.N[i]?=lm x)(b:Vis X.env.scope x)(l:i∈own)(v:C.cv=cv:=by rfl)(q:C.K=X.K:=by rfl)(s:ms=[.io]:=by rfl)(o:∀i∈C.ox,i∈own:=by exact jK rfl)(hd:Dbg x:=by decide)(d:Cdk x:=by decide)
  (ht:Z0 (.Call (.Attribute (.Name x px) n apos) [] [] pos) X.env=(do
   let ov <-Z0 (.Name x px) X.env
   oB apos.atName
   let (f,first) <-holding [ov] (nZ ov n pl)
   oR pos f first (lM pos (lz [] X.env)) (mz pos (lT [] X.env))):=by rfl):PE X (.Call (.Attribute (.Name x px) n apos) [] [] pos) (tE C own mr (kP c i n [] G qA)):=by
 subst v s;obtain⟨f,fd,F0,M,hb⟩:=F;refine jp (qcH (pl:=pl) (wG p b hd d) m M F0 (g.mono D) hb .nil hx ht) λσ H Q h=>?_;obtain⟨a,dx,fv,h1,h2,t,F',ρ',r,e⟩:=Xh (as:=[]) l o (λj D=>by
  rcases af.mp D with rfl|D;·exact l
  .cases D) (by simp[qS]) (by simp[frA]) h
 rw[q]at e;exact⟨_,h1,a,dx,fv,rfl,h2,t,e [] F' H r .refl trivial⟩
end
variable{pos':Pos}
section
variable{own':List Nat}{G:jy}{fr:vV}{m ma mb:Mo}{a b:Z4}{p px:Pos}{k j:Nat}{fe f fa fb:qW}
theorem cN(F:qas X.prog X.w X.K X.mg X.base cv j x ps ms mr G)(f:PA X (e::es) (tAr C own as fr))(c:Room k X.A:=by assumption)(D:j<=k:=by decide)(hx:jJ (CXk X.prog X.w X.mg) X C.E:=by exact Zr)(hg:Gl X x:=by rfl)(v:C.cv=cv:=by rfl)(a:C.K=X.K:=by rfl)(s:ms=as.map yB:=by rfl)(hs:∀i∈qS as,i∈own:=by decide)(nd:(qS as).Nodup:=by decide)(h:frA as<=1:=by decide)(o:∀i∈C.ox,i∈own:=by exact jK rfl)(b:Dbg x:=by decide)(he:lz (e::es) X.env='j'::lz es X.env:=by exact qV rfl)(l:(lM pos (lz es X.env)).any (·.1)=false:=by exact vx rfl):PE X (.Call (.Name x p) (e::es) [] pos) (tE C own mr (qt as G fr)):=
 ja F c D hx hg f v a s hs nd h o b he l
theorem sl{x:Str}{px:Pos}(f:PA X es (tAr C own as fr))(h:X.N[i]?=lm x:=by rfl)(c:Vis X.env.scope x:=by exact ci rfl)(l:i∈own:=by decide)(hs:lz (.Name x px::es) X.env=(lw,Z0 (.Name x px) X.env)::lz es X.env:=by rfl)(hd:Dbg x:=by decide)(d:Cdk x:=by decide):PA X (.Name x px::es) (tAr C own (.sl i::as) (kx fr)):=JN h c l f hs hd d
theorem vO{x:Str}(h:X.N[i]?=lm x:=by rfl)(c:Vis X.env.scope x:=by exact ci rfl)(l:i∈own:=by decide)(hd:Dbg x:=by decide)(d:Cdk x:=by decide):PE X (.Name x pos) (tE C own .any (qc i)):=qfr h c l hd d
theorem se{x:Str}{pos':Pos}(he:PE X e (tE C own m fe))(a:decide X.N.Nodup=true:=by kernel_rfl)(hi:X.N[i]?=lm x:=by rfl)(hx:Loc X.env.scope x:=by first|exact ci rfl|exact iw rfl)(c:m≠.any:=by decide)(o:i∉C.io:=by exact yw rfl)(hs:mm e (lm (.Name x pos')) pos.line X.env=pure false:=by rfl)(h:X.fn x=lv\/X.env.scope.names.lookup x=lm .local:=by first|exact .inl rfl|exact .inr rfl):PS X (.Assign [.Name x pos'] e pos) (tSt C own (vK own [i]) (jz i fe)):=qfA (Ae a) hi hx he c o hs h
theorem sO{x:Str}{pos':Pos}(he:PE X e (tE C own .fr fe))(a:decide X.N.Nodup=true:=by kernel_rfl)(hi:X.N[i]?=lm x:=by rfl)(hx:Loc X.env.scope x:=by first|exact ci rfl|exact iw rfl)(o:i∉C.io:=by exact yw rfl)(hs:mm e (lm (.Name x pos')) pos.line X.env=pure false:=by rfl)(h:X.fn x=lv\/X.env.scope.names.lookup x=lm .local:=by first|exact .inl rfl|exact .inr rfl):PS X (.Assign [.Name x pos'] e pos) (tSt C own (i::vK own [i]) (jz i fe)):=qcV (Ae a) hi hx he o hs h
theorem gn{x:Str}(a:decide X.N.Nodup=true:=by kernel_rfl)(hi:X.N[i]?=lm x:=by rfl)(hx:Loc X.env.scope x:=by first|exact ci rfl|exact iw rfl)(l:i∉own:=by decide)(o:i∉C.io:=by exact yw rfl)(h:X.fn x=lv\/X.env.scope.names.lookup x=lm .local:=by first|exact .inl rfl|exact .inr rfl):PG X (.Name x pos) (tGd C own (gNm i)):=Yz (Ae a) hi hx l o h
theorem ix(h:PE X a 'p')(hb:PE X b (tE C own mb fb))(c:Room k X.A:=by assumption)(hs:WY b:=by exact λ_ _=>rfl)(l:C.K=X.K:=by rfl)(f:ma≠.any:=by decide):PE X (.Subscript a b pos) (tE C own .sh (d2 ixD fa fb)):=qkG l c.units h hb hs f
theorem tv(h:PE X e (tE C own m f))(l:C.K=X.K:=by rfl)(he:∀whole,isTrue e X.env whole=(do let v <-whole;oB e.pos;holding [v] (truthy v)):=by exact λ_=>rfl):PT X e (tT C own (wS f)):=qfw l h he
end
noncomputable def tgN:Z4->List Str
 |.Name x _=>[x]
 |.Tuple es _ _=>es.flatMap λe=>match e with
  |.Name x _=>[x]
  |_=>[]
 |_=>[]
def cNm(tg:Z4)(N:List Str)(cap:List Nat):List Str:=tgN tg++cap.map λk=>N.getD k ba
section
variable{elt iter tg:Z4}{ifs:List Z4}{scope:mQ}{spos:Pos}{fi:vV}{g:D->Sl->Out Sl}{ft:yu}{fe:qW}{me:Mo}{nt:Nat}{cap:List Nat}
theorem gC(a:decide X.N.Nodup=true:=by kernel_rfl)(hi:X.N[i]?=lm x:=by rfl)(hx:Loc X.env.scope x:=by first|exact ci rfl|exact iw rfl)(l:i∉own:=by decide)(o:i∉C.io:=by exact yw rfl)(h:X.fn x=lv\/X.env.scope.names.lookup x=lm .local:=by first|exact .inl rfl|exact .inr rfl):PG X (.Name x pos) (tGd C own (gNm i)):=Yz (Ae a) hi hx l o h
theorem cmp(hi:PI X tg iter (tIt C own fi))(he:∀fp L s' H',PE (jt X scope (cNm tg X.N cap) fp L s' H') elt (tE (ctC C nt cap.length) (wQ own nt cap) me fe))(hg:∀fp L s' H',PG (jt X scope (cNm tg X.N cap) fp L s' H') tg (tGd (ctC C nt cap.length) (wQ own nt cap) g):=by exact λ_ _ _ _=>gC)(ht:∀fp L s' H',PTs (jt X scope (cNm tg X.N cap) fp L s' H') ifs (tT (ctC C nt cap.length) (wQ own nt cap) ft):=by exact λ_ _ _ _=>YB)(P:X.calm=true:=by rfl)(bs:scB X.env.scope.names scope=true:=by kernel_rfl)(b:qjM X.env.scope.names X.N scope (cNm tg X.N cap) nt cap=true:=by kernel_rfl)(i:me≠.any:=by decide)(hs:∀x,mq iter X.env x=pure x:=by intro _;rfl) :
  PE X 'o' (tE C own .fr (qP own nt cap fi g ft fe)):=qfH P (qiA rfl bs) (qek rfl rfl b) hi hg ht he i hs
theorem qhC{i:Nat}{x:Str}(hi:PI X tg iter (tIt C own fi))(he:∀fp L s' H',PE (jt X scope (cNm tg X.N cap) fp L s' H') elt (tE (ctC C nt cap.length) (wQ own nt cap) me fe))(hg:∀fp L s' H',PG (jt X scope (cNm tg X.N cap) fp L s' H') tg (tGd (ctC C nt cap.length) (wQ own nt cap) g):=by exact λ_ _ _ _=>gC)(ht:∀fp L s' H',PTs (jt X scope (cNm tg X.N cap) fp L s' H') ifs (tT (ctC C nt cap.length) (wQ own nt cap) ft):=by exact λ_ _ _ _=>YB)(a:decide X.N.Nodup=true:=by kernel_rfl)(V:X.N[i]?=lm x:=by rfl)(hx:Loc X.env.scope x:=by first|exact ci rfl|exact iw rfl)(P:X.calm=true:=by rfl)(bs:scB X.env.scope.names scope=true:=by kernel_rfl)(b:qjM X.env.scope.names X.N scope (cNm tg X.N cap) nt cap=true:=by kernel_rfl)(h:me≠.any:=by decide)(o:i∉C.io:=by exact yw rfl)(G:mm 'o' (lm (.Name x pos')) spos.line X.env=pure true:=by rfl)(hs:∀x,mq iter X.env x=pure x:=by intro _;rfl)(Y:X.fn x=lv\/X.env.scope.names.lookup x=lm .local:=by first|exact .inl rfl|exact .inr rfl) :
  PS X (.Assign [.Name x pos'] 'o' spos) (tSt C own (i::vK own [i]) (jz i (qP own nt cap fi g ft fe))):=qc5 (Ae a) V hx P (qiA rfl bs) (qek rfl rfl b) hi hg ht he h o G hs Y
end
section
variable{P:lC}{w:lD}{K:Y9}{mg:Str->Option lu}{base:Z5}{st:Z3}{N:List Str}{k:Nat}{fb:qM}
theorem dW(own':List Nat)(T:qiz K mg x st ps)(a:∀{cdv:lu}{f:Z7}{A:lG}{outer:List Env}{s:lx}{H:Hp}{E:XK},Room k (A.deeper (mj x (qB st) s.heap.objs.size f cdv)) ->PSs (cxk P w K mg base N x (qB st) f cdv A outer s H E) (jZ st) (tSt (qc0 K cv E ms mr) (jM 0 ms) own' fb))(S:FnScope N ps (qB st):=by exact fsc)(hl:ms.length=ps.length:=by rfl)(g:∀i∈KW 0 ms,i∈own':=by exact jK rfl)(hmr:mr=.sh\/∀ds ρ,(fb (qr N ds))≠.ok (.nx,ρ):=by exact .inl rfl):qas P w K mg base cv (k+1) x ps ms mr (jI N ms fb):=qat T S (λ_ _ _ _ _ _ _=>a) hl g hmr
end
end L2.D2
namespace L2.D2
open PySem
def Gi(l:List Nat):Prop:=l.Pairwise (· < ·)
variable{xs:Array Nat}
theorem UH(c:Gi xs.toList){p q x y:Nat}(h:p<q)(hp:xs[p]?=lm x)(hq:xs[q]?=lm y):x<y:=by rw[<-aV]at hp hq;obtain⟨h1,rfl⟩:=aE.mp hp;obtain⟨h2,rfl⟩:=aE.mp hq;exact cA.mp c p q h1 h2 h
theorem mid{lo hi:Nat}(h:lo<hi):lo<=(lo+hi) / 2/\(lo+hi) / 2<hi:=by omega
variable{j:Nat}
theorem Kc(r:Gi xs.toList):∀(f lo hi:Nat),hi<=f+lo->hi<=xs.size->(∀k,k<lo->∀x,xs[k]?=lm x->x<j)->(∀k,hi<=k->∀x,xs[k]?=lm x->j<=x) ->(∀k,k<aX.go xs j f lo hi->∀x,xs[k]?=lm x->x<j)/\(∀k,aX.go xs j f lo hi<=k->∀x,xs[k]?=lm x->j<=x)
 | 0,lo,hi,h1,h3,a,b=>⟨a,λk c=>b k (by rw[Nat.zero_add]at h1;exact bn h1 c)⟩
 | f+1,lo,hi,h1,h3,a,b=>by
  unfold aX.go;by_cases h:lo<hi
  .rw[Aa h];obtain⟨m1,A⟩:=mid h;dsimp only;generalize (lo+hi) / 2=m at *;have d:m<xs.size:=aK A h3;have i:xs[m]?=lm xs[m]:=by simp[d]
   have hg:xs.getD m j=xs[m]:=by simp[iB,d]
   rw[hg];by_cases hl:xs[m]<j
   .rw[Aa hl];refine Kc r f _ hi 'b' h3 (λk c x hx=>?_) b;rcases iC (Nat.le_of_lt_succ c)with e|rfl;·exact dQ (UH r e hx i) hl
    .rw[i]at hx;cases hx;exact hl
   .rw[Ab hl];refine Kc r f lo _ 'b' (cH d) a λk c x hx=>?_;rcases iC c with e|rfl;·exact bn (e7 hl) (cH (UH r e i hx))
    .rw[i]at hx;cases hx;exact e7 hl
  .rw[Ab h];exact⟨a,λk c=>b k (bn (e7 h) c)⟩
theorem Xj(c:Gi xs.toList):(∀k,k<aX xs j->∀x,xs[k]?=lm x->x<j)/\(∀k,aX xs j<=k->∀x,xs[k]?=lm x->j<=x):=
 Kc c xs.size 0 xs.size (ao _) (ao _) (λk h=>absurd h (dZ _)) λk h x hx=>absurd (aY.mp hx).1 (Nat.not_lt.mpr h)
theorem qa9{i:Nat}(c:Gi xs.toList)(h:xs[i]?=lm j):aX xs j=i:=by
 obtain⟨a,b⟩:=Xj (j:=j) c;have h1:aX xs j<=i:=e7 λz=>bS _ (a i z j h);rcases iC h1 with e|e
 .have t:aX xs j<xs.size:=dQ e (aY.mp h).1;have hx:xs[aX xs j]?=lm xs[aX xs j]:=by simp[t]
  exact absurd (b _ (ao _) _ hx) (Nat.not_le.mpr (UH c e hx h))
 .exact e
variable{t:l8}
theorem wb{i:Nat}(c:Gi t.place.toList)(h:t.place[i]?=lm j):t.slot j=.live i:=by unfold SetTable.slot;rw[qa9 c h];dsimp only;rw[h];simp
theorem ZL(hd:t.dummies=#[])(h:j∉t.place.toList):t.slot j=.empty:=by
 unfold SetTable.slot;have h1:¬(t.place[aX t.place j]? == lm j)=true:=λz=>h (by
  have z:t.place[aX t.place j]?=lm j:=by simpa using z
  rw[<-aV]at z;exact bA z)
 dsimp only;rw[Ab h1,hd];rfl
end L2.D2
namespace L2.D2
open PySem PySem.SetTable
noncomputable def adv(m:Nat)(p:Probe):Probe:=if p.more > 0 then{ p with j:=p.j+1,more:=p.more - 1 }else{ p with j:=(leap m p.i p.perturb).1,more:=runEnd m (leap m p.i p.perturb).1 - (leap m p.i p.perturb).1,i:=(leap m p.i p.perturb).1,perturb:=(leap m p.i p.perturb).2 }
noncomputable def atL(m i q:Nat):Probe:={ j:=i,more:=runEnd m i - i,i:=i,perturb:=q,dummy:=lr }
def pth(m:Nat)(h:Int):Nat->Probe
 | 0=>atL m (bits h % (m+1)) (bits h)
 |n+1=>adv m (pth m h n)
noncomputable def lp(m:Nat)(h:Int):Nat->Nat×Nat
 | 0=>(bits h % (m+1),bits h)
 |c+1=>leap m (lp m h c).1 (lp m h c).2
theorem qba(m i:Nat):runEnd m i - i<=9/\i<=runEnd m i:=by unfold runEnd;split <;> lia
variable{m n:Nat}{h:Int}
theorem Jg{i q:Nat}(e:pth m h n=atL m i q):∀k,k<=runEnd m i - i->pth m h (n+k)={ j:=i+k,more:=runEnd m i - i - k,i:=i,perturb:=q,dummy:=lr }
 | 0,_=>e
 |k+1,hk=>by have a:=Jg e k 'b';show adv m (pth m h (n+k))=_;rw[a];unfold adv;rw[Aa (by show runEnd m i - i - k > 0;lia)];rfl
theorem qbb(m:Nat)(h:Int):∀c,∃n,n<=10 * c/\pth m h n=atL m (lp m h c).1 (lp m h c).2
 | 0=>⟨0,ao _,rfl⟩
 |c+1=>by obtain⟨n,a,e⟩:=qbb m h c;have r:=(qba m (lp m h c).1).1;have i:=Jg e _ (ao _);refine⟨n+(runEnd m (lp m h c).1 - (lp m h c).1)+1,by lia,?_⟩;show adv m (pth m h (n+(runEnd m (lp m h c).1 - (lp m h c).1)))=_;rw[i];unfold adv;rw[Ab (by show ¬runEnd m (lp m h c).1 - (lp m h c).1 - (runEnd m (lp m h c).1 - (lp m h c).1) > 0;lia)];rfl
theorem qlW(m:Nat)(h:Int):∀c,(lp m h c).2=bits h / 32 ^ c
 | 0=>by show bits h=_;simp
 |c+1=>by show(lp m h c).2 / 32=_;rw[qlW m h c,Nat.div_div_eq_div_mul,Nat.pow_succ]
theorem qla(m:Nat)(h:Int):∀c,(lp m h c).1<m+1
 | 0=>hZ _ (iY _)
 |c+1=>hZ _ (iY _)
theorem qgf(h:Int):bits h<2 ^ 64:=by
 unfold bits;have h1:0<=h % (2 ^ 64:Int):=fD _ 'e';have h2:h % (2 ^ 64:Int)<2 ^ 64:=dX _ 'e'
 lia
theorem qgg(m:Nat)(h:Int)(c:Nat):(lp m h (13+c)).2=0:=by rw[qlW];refine Nat.div_eq_of_lt (aK (qgf h) ?_);rw[Nat.pow_add];exact bn (by decide:2 ^ 64<=32 ^ 13) (Nat.le_mul_of_pos_right _ (Nat.pow_pos 'e'))
noncomputable def stp(m i:Nat):Nat:=(i * 5+1) % (m+1)
def its(m:Nat):Nat->Nat->Nat
 | 0,i=>i
 |k+1,i=>stp m (its m k i)
theorem qbc(m:Nat)(h:Int):∀k,(lp m h (13+k)).1=its m k (lp m h 13).1
 | 0=>rfl
 |k+1=>by show((lp m h (13+k)).1 * 5+1+(lp m h (13+k)).2 / 32) % (m+1)=stp m (its m k (lp m h 13).1);rw[qgg,qbc m h k];rfl
def qey(m:Nat):Bool:=(aB (m+1)).all λi=>(aB (m+1)).all λj=>(aB (m+1)).any λk=>its m k i == j
def Mk(m:Nat):Prop:=m=7\/m=31
variable{j:Nat}
theorem qez(h:Mk m){i:Nat}(hi:i<m+1)(D:j<m+1):∃k,k<m+1/\its m k i=j:=by
 have c:qey m=true:=by rcases h with rfl|rfl <;> decide +kernel
 unfold qey at c;have c1:=aW.mp (aW.mp c i (aN.mpr hi)) j (aN.mpr D);obtain⟨k,a,e⟩:=h8.mp c1;exact⟨k,aN.mp a,by simpa using e⟩
theorem qiZ(b:Mk m)(h:Int)(D:j<m+1):∃n c,n<=10 * c/\c<=13+m/\(pth m h n).j=j:=by obtain⟨k,d,e⟩:=qez b (qla m h 13) D;obtain⟨n,a,i⟩:=qbb m h (13+k);refine⟨n,13+k,a,by lia,?_⟩;rw[i];show(lp m h (13+k)).1=j;rw[qbc,e]
theorem UI:∀(a b:List Nat),a.Nodup->(∀x∈a,x∈b)->a.length<=b.length
 |[],b,_,_=>be _
 |x::a,b,nd,s=>by
  have hx:=s x aj;obtain⟨n1,n2⟩:=aZ.mp nd;have j:=UI a (b.erase x) n2 λy B=>(List.mem_erase_of_ne (show y≠x from λz=>n1 (by rw[<-z];exact B))).mpr (s y (ae _ B));rw[fB hx]at j;have:=dY hx;rw[ah]
  lia
variable{l:List Nat}
theorem qgh(c:Gi l)(hl:l.length<=m):∃j,j<m+1/\j∉l:=by
 by_cases h:∃j,j<m+1/\j∉l;·exact h
 .exfalso;have sub:∀j∈aB (m+1),j∈l:=λj D=>by
   by_cases z:j∈l;·exact z
   .exact absurd ⟨j,aN.mp D,z⟩ h
  have:=UI _ l (h9 (n:=m+1)) sub;rw[bD]at this
  lia
theorem qdy(b:Mk m)(h:Int)(r:Gi l)(hl:l.length<=m):∃n,n<10 * turns m/\(pth m h n).j∉l:=by obtain⟨j,D,a⟩:=qgh r hl;obtain⟨n,c,h1,h2,e⟩:=qiZ b h D;refine⟨n,by unfold turns;lia,by rw[e];exact a⟩
theorem VX(m:Nat)(h:Int):∀n,(pth m h n).dummy=lr
 | 0=>rfl
 |n+1=>by show(adv m (pth m h n)).dummy=lr;unfold adv;split <;> exact VX m h n
variable{t:l8}
theorem qi0(hd:t.dummies=#[])(c:Gi t.place.toList){hashAt:Nat->Int}:∀(f n e:Nat),n<=e->e<n+f->(pth t.mask h e).j∉t.place.toList ->∃n1,n<=n1/\n1<=e/\(∀k,n<=k->k<n1->(pth t.mask h k).j∈t.place.toList/\∀i,t.place[i]?=lm (pth t.mask h k).j->hashAt i≠h) /\
   ((j4.go t hashAt h f (pth t.mask h n)=lm (.empty (pth t.mask h n1).j lr)/\(pth t.mask h n1).j∉t.place.toList) \/
    ∃i,t.place[i]?=lm (pth t.mask h n1).j/\hashAt i=h/\j4.go t hashAt h f (pth t.mask h n)=lm (.candidate (pth t.mask h n1).j i (pth t.mask h (n1+1))))
 | 0,n,e,h1,h2,_=>by lia
 | f+1,n,e,h1,h2,h3=>by
  unfold j4.go;by_cases g:(pth t.mask h n).j∈t.place.toList
  .obtain⟨i,hi⟩:=bI g;rw[aV]at hi;rw[wb c hi];dsimp only;by_cases hq:hashAt i=h;·rw[Aa (by simpa using hq)];refine⟨n,ao _,h1,λk a b=>absurd b 'b',.inr ⟨i,hi,hq,rfl⟩⟩
   .rw[Ab (by simpa using hq)];have m:n≠e:=λz=>h3 (z ▸ g);obtain⟨n1,s,p,o,y⟩:=qi0 hd c f (n+1) e 'b' 'b' h3;refine⟨n1,by lia,p,λk r w=>?_,y⟩;by_cases z:k=n;·subst z;refine⟨g,λq d=>?_⟩;have e1:=wb c hi;have l:=wb c d;rw[e1]at l;cases l;exact hq
    .exact o k 'b' w
  .rw[ZL hd g];dsimp only;refine⟨n,ao _,h1,λk a b=>absurd b 'b',.inl ⟨by rw[VX],g⟩⟩
theorem qeA{m:Nat}{h:Int}:∀n,(pth m h n).j+(pth m h n).more<=m
 | 0=>by have:bits h % (m+1)<m+1:=hZ _ (iY m);show bits h % (m+1)+(runEnd m (bits h % (m+1)) - bits h % (m+1))<=m;unfold runEnd;split <;> lia
 | n+1=>by
  have a:=qeA (m:=m) (h:=h) n;show(adv m (pth m h n)).j+(adv m (pth m h n)).more<=m;unfold adv;split
  .show(pth m h n).j+1+((pth m h n).more - 1)<=m
   lia
  .have:(leap m (pth m h n).i (pth m h n).perturb).1<m+1:=hZ _ (iY m);show(leap m (pth m h n).i (pth m h n).perturb).1+(runEnd m (leap m (pth m h n).i (pth m h n).perturb).1 - (leap m (pth m h n).i (pth m h n).perturb).1)<=m;unfold runEnd;split <;> lia
def Rch(m:Nat)(L:Nat->Prop)(j:Nat)(h:Int):Prop:=∃n,(pth m h n).j=j/\∀k,k<n->L (pth m h k).j
theorem Rch.mono{L b:Nat->Prop}(r:Rch m L j h)(k:∀x,L x->b x):Rch m b j h:=let ⟨n,e,a⟩:=r; ⟨n,e,λi hi=>k _ (a i hi)⟩
structure TabOk(t:l8)(es:List (Int×lu)):Prop where
 km:Mk t.mask
 dm:t.dummies=#[]
 rise:Gi t.place.toList
 le:∀j∈t.place.toList,j<=t.mask
 sz:t.place.size=es.length
 rch:∀q∈t.place.toList.zip es,Rch t.mask (·∈t.place.toList) q.1 q.2.1
variable{α:Type}
noncomputable def WR(l:List α)(p:Nat)(x:α):List α:=l.take p++x::l.drop p
variable{p:Nat}
theorem Xk{l:List α}{x y:α}:y∈WR l p x↔y=x\/y∈l:=by
 unfold WR
 conv=>rhs;rw[<-cB p l]
 simp only[aI,af];constructor
 .rintro(h|h|h);·exact .inr (.inl h)
  .exact .inl h
  .exact .inr (.inr h)
 .rintro(h|h|h);·exact .inr (.inl h)
  .exact .inl h
  .exact .inr (.inr h)
variable{β:Type}
theorem Xl{a:List α}{b:List β}{x:α}{y:β}(hl:a.length=b.length){q:α×β}(h:q∈(WR a p x).zip (WR b p y)):q=(x,y)\/q∈a.zip b:=by
 unfold WR at h;rw[List.zip_append (by rw[bb,bb,hl]),dU]at h;rw[<-cB p a,<-cB p b,List.zip_append (by rw[bb,bb,hl])];rcases aI.mp h with h|h;·exact .inr (bu _ h)
 .rcases af.mp h with h|h;·exact .inl h
  .exact .inr (aH _ h)
variable{es:Array (Int×lu)}
set_option tactic.hygienic true in
theorem qbd{v:lu}(T:TabOk t es.toList)(hl:∀k,k<n->(pth t.mask h k).j∈t.place.toList)(he:(pth t.mask h n).j∉t.place.toList):TabOk (t.put (pth t.mask h n).j).1 (insertAt es (t.put (pth t.mask h n).j).2 (h,v)).toList/\(t.put (pth t.mask h n).j).1.mask=t.mask/\(t.put (pth t.mask h n).j).1.led=t.led/\(t.put (pth t.mask h n).j).1.plain=t.plain/\(t.put (pth t.mask h n).j).1.moves=t.moves:=by
 have hp:(t.put (pth t.mask h n).j).1.place.toList=WR t.place.toList (below t.place (pth t.mask h n).j) (pth t.mask h n).j:=toList_insertAt ..;have hq:(insertAt es (t.put (pth t.mask h n).j).2 (h,v)).toList=WR es.toList (below t.place (pth t.mask h n).j) (h,v):=toList_insertAt ..;have hd:(t.put (pth t.mask h n).j).1.dummies=#[]:=by show(if has t.dummies _ then _ else t.dummies)=_;rw[T.dm];rfl
 obtain⟨l,w⟩:=Xj (j:=(pth t.mask h n).j) T.rise;have i:t.place.toList.length=es.toList.length:=by rw[aM,T.sz]
 refine⟨⟨T.km,hd,?_,λj D=>?_,?_,λq d=>?_⟩,rfl,rfl,rfl,rfl⟩
 .rw[hp];unfold WR Gi;rw[ic];refine⟨T.rise.sublist (iG _ _),?_,λa f b hb=>?_⟩
  .rw[bK];refine⟨λa f=>?_,T.rise.sublist (List.drop_sublist _ _)⟩;obtain⟨k,c⟩:=bI f;rw[iD,aV]at c;have h1:=w _ (e8 _ k) a c;have h2:a≠(pth t.mask h n).j:=λz=>he (z ▸ List.mem_of_mem_drop f);show(pth t.mask h n).j<a
   lia
  .obtain⟨k,c⟩:=bI f;rw[List.getElem?_take]at c;split at c
   .rename_i g;rw[aV]at c;have h1:=l k g a c;rcases af.mp hb with rfl|hb;·exact h1
    .obtain⟨k2,e⟩:=bI hb;rw[iD,aV]at e;exact aK h1 (w _ (e8 _ k2) b e)
   .cases c
 .rw[hp]at D;rcases Xk.mp D with rfl|D
  .have:=qeA (m:=t.mask) (h:=h) n;show(pth t.mask h n).j<=t.mask
   lia
  .exact T.le j D
 .rw[<-aM,hp,hq];unfold WR;simp only[am,ah,bb,cm,i]
 .rw[hp,hq]at d;have up:∀x,x∈t.place.toList->x∈(t.put (pth t.mask h n).j).1.place.toList:=λx hx=>by rw[hp];exact Xk.mpr (.inr hx)
  rcases Xl i d with rfl|d;·exact⟨n,rfl,λk c=>up _ (hl k c)⟩
  .exact(T.rch q d).mono up
def ZM(ow:Array (Option Nat))(x:Nat):Prop:=∃y,ow[x]?=lm (lm y)
variable{ow:Array (Option Nat)}{x:Nat}
theorem yP(hx:x<ow.size):((ow.getD x (lm 0)).isNone=lv↔ow[x]?=lm lr)/\((ow.getD x (lm 0)).isNone=lw↔ZM ow x):=by
 have e:ow[x]?=lm ow[x]:=by simp[hx]
 have i:ow.getD x (lm 0)=ow[x]:=by simp[iB,hx]
 unfold ZM;rw[e,i];cases ow[x] <;> simp
theorem qbe{L:Nat}(hs:ow.size=m+1)(u:ow[(lp m h L).1]?=lm lr):∀(f c n:Nat),pth m h n=atL m (lp m h c).1 (lp m h c).2->(∀k,k<n->ZM ow (pth m h k).j)->c<=L->L<c+f ->∃n1,layClean.free m ow f (lp m h c).1 (lp m h c).2=lm (pth m h n1).j/\ow[(pth m h n1).j]?=lm lr/\∀k,k<n1->ZM ow (pth m h k).j
 | 0,c,n,_,_,h1,h2=>by lia
 | f+1,c,n,e,ho,h1,h2=>by
  unfold layClean.free;have hi:=qla m h c;have s:=qba m (lp m h c).1;have Q:∀k,k<=runEnd m (lp m h c).1 - (lp m h c).1->(lp m h c).1+k<ow.size:=λk a=>by rw[hs];unfold runEnd at a;split at a <;> lia
  cases q:(aB (runEnd m (lp m h c).1+1 - (lp m h c).1)).find? λk=>(ow.getD ((lp m h c).1+k) (lm 0)).isNone with
  | some k=>
   obtain⟨l,i,g⟩:=List.find?_range_eq_some.mp q;have a:k<=runEnd m (lp m h c).1 - (lp m h c).1:=by
    have:=aN.mp i
    lia
   have b:=Jg e k a;refine⟨n+k,by rw[b],?_,λk' p=>?_⟩;·rw[b];exact(yP (Q k a)).1.mp l
   .by_cases z:k' < n;·exact ho k' z
    .obtain⟨d,rfl⟩:∃d,k'=n+d:=⟨k' - n,by lia⟩
     rw[Jg e d 'b'];have:=g d 'b';exact(yP (Q d 'b')).2.mp (by simpa using this)
  | none=>
   have all:∀d,d<=runEnd m (lp m h c).1 - (lp m h c).1->ZM ow ((lp m h c).1+d):=λd hd=>by have:=c8.mp q d (aN.mpr 'b');exact(yP (Q d hd)).2.mp (by cases z:(ow.getD ((lp m h c).1+d) (lm 0)).isNone with|true=>exact absurd z this|false=>rfl)
   have o:c≠L:=λz=>by subst z;obtain⟨y,B⟩:=all 0 (be _);rw[Nat.add_zero,u]at B;cases B
   have r:=Jg e _ (ao _);have D:pth m h (n+(runEnd m (lp m h c).1 - (lp m h c).1)+1)=atL m (lp m h (c+1)).1 (lp m h (c+1)).2:=by show adv m (pth m h (n+(runEnd m (lp m h c).1 - (lp m h c).1)))=_;rw[r];unfold adv;rw[Ab (by show ¬runEnd m (lp m h c).1 - (lp m h c).1 - (runEnd m (lp m h c).1 - (lp m h c).1) > 0;lia)];rfl
   exact qbe hs u f (c+1) _ D (λk a=>by
    by_cases z:k<n;·exact ho k z
    .obtain⟨d,rfl⟩:∃d,k=n+d:=⟨k - n,by lia⟩
     rw[Jg e d 'b'];exact all d 'b') 'b' 'b'
structure Ow(m:Nat)(ow:Array (Option Nat))(hs:List Int)(k:Nat):Prop where
 size:ow.size=m+1
 rch:∀(j k':Nat),ow[j]?=lm (lm k')->k' < k/\∃h,hs[k']?=lm h/\Rch m (ZM ow) j h
 all:∀k',k' < k->∃j:Nat,ow[j]?=lm (lm k')
 one:∀(j j' k':Nat),ow[j]?=lm (lm k')->ow[j']?=lm (lm k')->j=j'
 few:∃l:List Nat,l.length=k/\∀j,ZM ow j->j∈l
variable{hs:List Int}
set_option tactic.hygienic true in
theorem qdz{k:Nat}(v:Mk m)(O:Ow m ow hs k)(A:k<=m)(E:hs[k]?=lm h):∃j,layClean.free m ow (turns m) (bits h % (m+1)) (bits h)=lm j/\Ow m (ow.setIfInBounds j (lm k)) hs (k+1):=by
 obtain⟨l,hl,g⟩:=O.few;have un:∃j,j<m+1/\¬ZM ow j:=by
  by_cases p:∃j,j<m+1/\¬ZM ow j;·exact p
  .exfalso;have:=UI (aB (m+1)) l h9 λj D=>by
    by_cases z:ZM ow j;·exact g j z
    .exact absurd ⟨j,aN.mp D,z⟩ p
   rw[bD]at this
   lia
 obtain⟨o,N,f⟩:=un;obtain⟨c,H,e⟩:=qez v (qla m h 13) N;have D:(lp m h (13+c)).1=o:=by rw[qbc,e]
 have u:ow[(lp m h (13+c)).1]?=lm none:=by
  rw[D];have t:o<ow.size:=by rw[O.size];exact N
  cases q:(ow.getD o (lm 0)).isNone with
  |true=>exact(yP t).1.mp q
  |false=>exact absurd ((yP t).2.mp q) f
 obtain⟨n,f1,f2,G⟩:=qbe O.size u (turns m) 0 0 rfl (λk A=>by lia) 'b' (by unfold turns;lia);have C:(pth m h n).j<ow.size:=(aY.mp f2).1;have get:∀x,(ow.setIfInBounds (pth m h n).j (lm k))[x]?=if (pth m h n).j=x then lm (lm k)else ow[x]?:=λx=>by
  rw[Array.getElem?_setIfInBounds];split;·rfl
  .rfl
 have up:∀x,ZM ow x->ZM (ow.setIfInBounds (pth m h n).j (lm k)) x:=λx hx=>by
  unfold ZM;rw[get];split;·exact⟨k,rfl⟩
  .exact hx
 refine⟨(pth m h n).j,f1,⟨by rw[Array.size_setIfInBounds,O.size],λj k' D=>?_,λk' w=>?_,λj j' k' a b=>?_,(pth m h n).j::l,by rw[ah,hl],λj D=>?_⟩⟩
 .rw[get]at D;split at D;·rename_i z;cases D;exact⟨eZ _,h,E,n,z,λi hi=>up _ (G i hi)⟩
  .obtain⟨a,h',b,r⟩:=O.rch j k' D;exact⟨cO a,h',b,r.mono up⟩
 .by_cases z:k'=k;·subst z;exact⟨(pth m h n).j,by rw[get,Aa rfl]⟩
  .obtain⟨j,D⟩:=O.all k' 'b';refine⟨j,?_⟩;rw[get];split;·rename_i d;rw[<-d,f2]at D;cases D
   .exact D
 .rw[get]at a b;split at a
  .rename_i s;cases a;split at b;·rename_i d;exact s.symm.trans d
   .exact absurd (O.rch j' k b).1 (bS _)
  .split at b;·cases b;exact absurd (O.rch j k a).1 (bS _)
   .exact O.one j j' k' a b
 .by_cases z:(pth m h n).j=j;·exact af.mpr (.inl z.symm)
  .refine ae _ (g j ?_);obtain⟨y,B⟩:=D;rw[get,Ab z]at B;exact⟨y,B⟩
theorem qbf(c:Mk m)(hl:hs.length<=m+1):∀(rest:List Int)(ow:Array (Option Nat))(k:Nat),hs.drop k=rest->k+rest.length=hs.length->Ow m ow hs k ->∃o,rest.foldl (λ(acc:Option (Array (Option Nat)×Nat)) h=>do
   let (owner,k) <-acc
   let j <-layClean.free m owner (turns m) (bits h % (m+1)) (bits h)
   pure (owner.setIfInBounds j (lm k),k+1)) (lm (ow,k))=lm (o,hs.length)/\Ow m o hs hs.length
 |[],ow,k,_,e,O=>by
  have:k=hs.length:=by simpa using e
  subst this;exact⟨ow,rfl,O⟩
 | h::rest,ow,k,d,e,O=>by
  have g:k<hs.length:=by rw[ah]at e;lia
  have b:hs[k]?=lm h:=by
   have:(hs.drop k)[0]?=lm h:=by rw[d];rfl
   rw[iD]at this;simpa using this
  obtain⟨j,f,a⟩:=qdz c O 'b' b;rw[cj];show ∃o,rest.foldl _ (do let j <-layClean.free m ow (turns m) (bits h % (m+1)) (bits h);pure (ow.setIfInBounds j (lm k),k+1))=_/\_;rw[f];exact qbf c hl rest _ (k+1) (by rw[<-fS,d];rfl) (by rw[ah]at e;lia) a
theorem qbg(c:Mk m){hs:Array Int}(hl:hs.size<=m+1):∃ow,layClean m hs=lm ow/\Ow m ow hs.toList hs.size:=by
 have a:Ow m (i6 (m+1) lr) hs.toList 0:=by
  have no:∀(j y:Nat),(i6 (m+1) (lr:Option Nat))[j]?=lm (lm y)->False:=λj y h=>by rw[Array.getElem?_replicate]at h;split at h <;> cases h
  exact⟨by simp,λj k' h=>(no _ _ h).elim,λk' h=>by lia,λj j' k' h=>(no _ _ h).elim,[],rfl,λj ⟨y,h⟩=>(no _ _ h).elim⟩
 obtain⟨ow,e,O⟩:=qbf c (by rw[aM];exact hl) hs.toList (i6 (m+1) lr) 0 rfl 'f' a;rw[aM]at e O;refine⟨ow,?_,O⟩;unfold layClean;rw[<-Array.foldl_toList];rw[e];rfl
theorem qeB{α:Type}{g:Nat->Option α}:∀{L:List (Nat×Nat)},(∀p∈L,∃e,g p.2=lm e)->((L.map (·.2)).filterMap g).length=L.length/\∀q∈(L.map (·.1)).zip ((L.map (·.2)).filterMap g),∃p∈L,q.1=p.1/\g p.2=lm q.2
 |[],_=>⟨rfl,λq hq=>by simp at hq⟩
 |p::L,h=>by
  obtain⟨e,he⟩:=h p aj;obtain⟨i1,i2⟩:=qeB (L:=L) λp hp=>h p (ae _ hp);rw[aF,aF,List.filterMap_cons_some he];refine⟨by rw[ah,ah,i1],λq hq=>?_⟩;rw[dU]at hq;rcases af.mp hq with rfl|hq;·exact⟨p,aj,rfl,he⟩
  .obtain⟨X,hp,r⟩:=i2 q hq;exact⟨X,ae _ hp,r⟩
theorem qgi{f v:Nat}{ld pl:Bool}(w:Mk m)(hl:es.size<=m):∃t' o,laid m f v ld pl (es.map (·.1))=lm (t',o)/\(o.filterMap (es[·]?)).toList.Perm es.toList/\TabOk t' (o.filterMap (es[·]?)).toList/\t'.mask=m/\t'.led=ld/\t'.plain=pl:=by
 obtain⟨ow,e,O⟩:=qbg w (hs:=es.map (·.1)) (by rw[Array.size_map];lia);rw[Array.size_map]at O;generalize u:((aB (m+1)).filterMap λj=>(ow.getD j lr).map (j,·))=L;have d:laid m f v ld pl (es.map (·.1))=lm ({ mask:=m,place:=(L.map (·.1)).toArray,dummies:=#[],finger:=f,led:=ld,moves:=v,plain:=pl },(L.map (·.2)).toArray):=by unfold laid;rw[e,<-u];rfl
 have mem:∀j k,(j,k)∈L↔ow[j]?=lm (lm k):=λj k=>by
  rw[<-u,fE];constructor
  .rintro⟨a,s,h⟩;have t:a<ow.size:=by rw[O.size];exact aN.mp s
   have e1:ow.getD a lr=ow[a]:=by simp[iB,t]
   rw[e1]at h;cases q:ow[a]with
   |none=>rw[q]at h;cases h
   |some y=>rw[q]at h;cases h;simp[t,q]
  .intro h;have t:j<ow.size:=(aY.mp h).1;have e1:ow.getD j lr=lm k:=by have:=(aY.mp h).2;simp[iB,t,this]
   refine⟨j,aN.mpr (by rw[<-O.size];exact t),?_⟩;rw[e1];rfl
 have rise:L.Pairwise λa b=>a.1<b.1:=by rw[<-u];refine List.Pairwise.filterMap _ (λa M n b hb K l=>?_) List.pairwise_lt_range;obtain⟨y,_,rfl⟩:=aS.mp hb;obtain⟨J,_,rfl⟩:=aS.mp l;exact n
 have nd:(L.map (·.2)).Nodup:=by
  unfold List.Nodup;rw[eh];refine rise.imp_of_mem λ{a b} s hb H z=>?_;have h1:=(mem a.1 a.2).mp s;have h2:=(mem b.1 b.2).mp hb;rw[<-z]at h2;have:=O.one _ _ _ h1 h2
  lia
 have inr:∀k,k∈L.map (·.2)↔k∈aB es.size:=λk=>by
  rw[aN,aw];constructor;·rintro⟨p,hp,rfl⟩;exact(O.rch _ _ ((mem p.1 p.2).mp hp)).1
  .intro E;obtain⟨j,D⟩:=O.all k E;exact⟨(j,k),(mem j k).mpr D,rfl⟩
 have perm:(L.map (·.2)).Perm (aB es.size):=(List.perm_ext_iff_of_nodup nd h9).mpr inr;have get:∀p∈L,∃e,es[p.2]?=lm e:=λp hp=>by have:=aN.mp ((inr p.2).mp (aw.mpr ⟨p,hp,rfl⟩));exact⟨es[p.2],by simp[this]⟩
 obtain⟨B,N⟩:=qeB (g:=λi=>es[i]?) get;have c:((L.map (·.2)).toArray.filterMap (es[·]?)).toList=(L.map (·.2)).filterMap λi=>es[i]?:=by rw[Array.toList_filterMap]
 refine⟨_,_,d,?_,⟨w,rfl,?_,λj D=>?_,?_,λq hq=>?_⟩,rfl,rfl,rfl⟩;·rw[c];exact(perm.filterMap _).trans (by rw[filterMap_getElem?_range])
 .show Gi (L.map (·.1)).toArray.toList;unfold Gi;rw[fk,eh];exact rise
 .obtain⟨p,hp,rfl⟩:=aw.mp (show j∈L.map (·.1)from D);have:=(aY.mp ((mem p.1 p.2).mp hp)).1;rw[O.size]at this;show p.1<=m
  lia
 .rw[c,B];show(L.map (·.1)).toArray.size=_;rw[au,aq]
 .rw[c]at hq;obtain⟨p,hp,e1,I⟩:=N q hq;obtain⟨a,h,b,r⟩:=O.rch _ _ ((mem p.1 p.2).mp hp);have G:h=q.2.1:=by rw[aV,Array.getElem?_map,I]at b;exact(aU.inj b).symm
  rw[e1,<-G];refine r.mono λx A=>?_;obtain⟨y,C⟩:=A;exact aw.mpr ⟨(x,y),(mem x y).mpr C,rfl⟩
abbrev tK(prog:lC)(w:lD)(k:List Str):Int:=tupleKeyHash (strKind prog w) k
def ElT(prog:lC)(w:lD)(h:Z5)(e:Int×lu)(k:List Str):Prop:=∃b,e=(tK prog w k,.ref b)/\lS (strKind prog w) h k b
structure SetT(prog:lC)(w:lD)(h:Z5)(es:Array (Int×lu))(t:l8)(kl:List (List Str)):Prop where
 tab:TabOk t es.toList
 few:es.size<=t.mask
 len:kl.length=es.size
 el:∀(i:Nat)(e:Int×lu)(k:List Str),es[i]?=lm e->kl[i]?=lm k->ElT prog w h e k
variable{prog:lC}{w:lD}{A:lG}{E:lu->lx->Prop}{s:lx}{kl:List (List Str)}{a:Z7}{Q:Bool->lx->Prop}
section
theorem SetT.fits{h:Z5}(S:SetT prog w h es t kl):t.fits es.size=true:=by have h1:=S.tab.sz;have h2:=S.few;rw[aM]at h1;unfold SetTable.fits SetTable.fill;rw[S.tab.dm];simp[h1,h2]
theorem SetT.stays{h:Z5}(S:SetT prog w h es t kl):t.gaveWay=false:=by unfold SetTable.gaveWay;rcases S.tab.km with e|e <;> rw[e] <;> rfl
theorem Xm{k:List Str}(f:lS (strKind prog w) s.heap k a)(h:Q lw s):lA 'd' A (ofAClassStatement 8 (.ref a)) Q E s:=by
 have T:=f.typeIs;obtain⟨o,items,n,l,_,hd,hi⟩:=f;unfold ofAClassStatement;refine lq (mH T ?_);dsimp only;rw[Aa 'e'];refine lq (ly ?_);simp only[k6,bq,if_false];refine lq (mF l hd ?_);dsimp only;refine lq ?_;rw[<-Array.forIn_toList];refine wpAny_forIn_list _ (λrest r s'=>r.1=lr/\s'=s/\∀v∈rest,∃x t,v=cM x t) _ ?_ ?_ _ _ ⟨rfl,rfl,?_⟩;·rintro v rest r s' ⟨d,rfl,c⟩;obtain⟨x,t,rfl⟩:=c v aj;refine lq (m8 (a:=lw) (by unfold ofAClassStatement;rfl) ?_);simp only[bq,if_false];exact ly ⟨rfl,rfl,λu g=>c u (ae _ g)⟩
 .rintro⟨r1,r2⟩ s' ⟨d,rfl,_⟩;simp only at d;subst d;exact ly h
 .intro v b;have:∀{ks:List Str}{vs:List lu},ItemsAre (strKind prog w) ks vs->∀v∈vs,∃x t,v=cM x t:=by
   intro ks vs hi
   induction hi with
   |nil=>intro v b;cases b
   |cons h1 _ j=>
    intro v b;rcases af.mp b with rfl|b
    .obtain⟨t,e⟩:=cy h1;exact⟨_,t,e⟩
    .exact j v b
  exact this hi v b
theorem qi1{k:List Str}(e:lS (strKind prog w) s.heap k a){l:List lu}(hl:∀v∈l,∃b k',v=.ref b/\lS (strKind prog w) s.heap k' b)(h:Q lw s):lA 'd' A (searchCouldBeSeen (.ref a) l) Q E s:=by
 unfold searchCouldBeSeen;refine lq ?_;refine wpAny_forIn_list _ (λrest r s'=>r.1=lr/\s'=s/\∀v∈rest,∃b k',v=.ref b/\lS (strKind prog w) s.heap k' b) _ ?_ ?_ _ _ ⟨rfl,rfl,hl⟩
 .rintro v rest r s' ⟨d,rfl,c⟩;obtain⟨b,k',rfl,hb⟩:=c v aj;have nx:∀u∈rest,∃b k',u=.ref b/\lS (strKind prog w) s'.heap k' b:=λu f=>c u (ae _ f);dsimp only;split;·exact ly ⟨rfl,rfl,nx⟩
  .refine lq (wpAny_eqIsQuiet_tuple e ?_);simp only[k6,bq,if_false];refine lq (wpAny_eqIsQuiet_tuple hb ?_);simp only[k6,bq,if_false];refine lq (Xm e ?_);simp only[bq,if_false];refine lq (Xm hb ?_);simp only[bq,if_false];exact ly ⟨rfl,rfl,nx⟩
 .rintro⟨r1,r2⟩ s' ⟨d,rfl,_⟩;simp only at d;subst d;exact ly h
end
variable{ep:Nat}
section
theorem qgj{k:List Str}{Q:SetFound->lx->Prop}{G:Sem SetFound}{hs:Int}{c:Bool}(hx:lS (strKind prog w) s.heap k x)(S:SetT prog w s.heap es t kl)(h:lA 'd' A G Q E s):lA 'd' A (if c=lv then searchCouldBeSeen (.ref x) ((es.filter (·.1 == hs)).toList.map (·.2)) >>= λb=>if b=lv then(unsupported "set:the-search-would-show-the-table":Sem PUnit) >>= λ_=>G else G else G) Q E s:=by
 split
 .refine lq (qi1 hx (λv d=>?_) ?_)
  .obtain⟨f,a,rfl⟩:=aw.mp d;have a:=Array.mem_filter.mp (Array.mem_toList_iff.mp a);obtain⟨j,D⟩:=Array.getElem?_of_mem a.1;have g:j<kl.length:=by rw[S.len];exact(aY.mp D).1
   obtain⟨i,q,e⟩:=S.el j f kl[j] D (by simp[g]);exact⟨i,kl[j],by rw[q],e⟩
  .simp only[bq,if_false];exact h
 .exact h
set_option tactic.hygienic true in
theorem VY{a:Nat}{k:List Str}{Q:SetFound->lx->Prop}(M:A.units<lY)(C:s.heap.get? a=lm (jA es ep t))(S:SetT prog w s.heap es t kl)(hx:lS (strKind prog w) s.heap k x)(h1:k∈kl->Q (.there lr) s)(h2:k∉kl->∀n,(∀i,i<n->(pth t.mask 'h' i).j∈t.place.toList)->(pth t.mask 'h' n).j∉t.place.toList->Q (.free (pth t.mask 'h' n).j lw) s)(e:Nat)(he:e<10 * turns t.mask)(g:(pth t.mask 'h' e).j∉t.place.toList):∀(f n:Nat)(st:Option Probe),st.getD (t.probeStart 'h')=pth t.mask 'h' n->n<=e->e<n+f->(∀i,i<n->(pth t.mask 'h' i).j∈t.place.toList)->(∀i,i<n->∀j:Nat,t.place[j]?=lm (pth t.mask 'h' i).j->kl[j]?≠lm k) ->
  lA 'd' A (setSearchFrom a (.ref x) 'h' lv f st) Q E s
 | 0,n,st,_,c1,c2,_,_=>by lia
 | f+1,n,st,hst,c1,c2,live,seen=>by
  have I:∀{j:Nat}{p:Nat},t.place[j]?=lm p->∃b k',es[j]?=lm (tK prog w k',.ref b)/\kl[j]?=lm k'/\lS (strKind prog w) s.heap k' b:=λ{j p} hp=>by
   have D:j<t.place.size:=(aY.mp hp).1;have B:=S.tab.sz;rw[aM]at B;have l:j<es.size:=by lia
   have q:j<kl.length:=by rw[S.len];exact l
   obtain⟨b,e1,d⟩:=S.el j es[j] kl[j] (by simp[l]) (by simp[q]);exact⟨b,kl[j],by rw[<-e1];simp[l],by simp[q],d⟩
  obtain⟨n1,g1,W,U,T⟩:=qi0 (hashAt:=λi=>(es[i]?.map (·.1)).getD 0) (h:=tK prog w k) S.tab.dm S.tab.rise (10 * turns t.mask) n e c1 'b' g;have c:∀i,i<n1->(pth t.mask 'h' i).j∈t.place.toList/\∀j:Nat,t.place[j]?=lm (pth t.mask 'h' i).j->kl[j]?≠lm k:=λi hi=>by
   by_cases z:i<n;·exact⟨live i z,seen i z⟩
   .obtain⟨v,L⟩:=U i 'b' hi;refine⟨v,λj D N=>L j D ?_⟩;obtain⟨b,k',e1,d,_⟩:=I D;rw[N]at d;cases d;rw[e1];rfl
  unfold setSearchFrom;refine lq (lK C rfl S.fits ?_);dsimp only;rw[S.stays,hst];simp only[bq,if_false];rcases T with⟨e1,d⟩|⟨i,e1,d,u⟩
  .have e1:t.probe (λi=>(es[i]?.map (·.1)).getD 0) 'h' (pth t.mask 'h' n)=lm (.empty (pth t.mask 'h' n1).j lr):=e1;split
   .rename_i met m;obtain rfl:met=.empty (pth t.mask 'h' n1).j none:=aU.inj (m.symm.trans e1);dsimp only;refine ly (h2 (λz=>?_) n1 (λi hi=>(c i hi).1) d);obtain⟨i,hi⟩:=bI z;have r:i<es.size:=by rw[<-S.len];exact(aE.mp hi).1
    have B:=S.tab.sz;rw[aM]at B;have o:i<t.place.size:=by lia
    obtain⟨b,v,L⟩:=S.el i es[i] k (by simp[r]) hi;obtain⟨n2,r1,r2⟩:=S.tab.rch (t.place[i],es[i]) (bA (i:=i) (by simp[dh,r,o]));rw[v]at r1 r2;have r1:(pth t.mask 'h' n2).j=t.place[i]:=r1;have G:n2<n1:=by
     by_cases y:n2<n1;·exact y
     .exfalso;by_cases O:n2=n1;·subst O;exact d (by rw[r1];exact Array.getElem_mem_toList o)
      .exact d (r2 n1 'b')
    exact(c n2 G).2 i (by rw[r1];simp[o]) hi
   .rename_i m;exact absurd e1 (m _)
  .have u:t.probe (λi=>(es[i]?.map (·.1)).getD 0) 'h' (pth t.mask 'h' n)=lm (.candidate (pth t.mask 'h' n1).j i (pth t.mask 'h' (n1+1))):=u;obtain⟨b,k',K,J,P⟩:=I e1;have R:t.sameMemory t.moves t.mask=lm true:=by unfold SetTable.sameMemory;simp
   split
   .rename_i met m;obtain rfl:met=.candidate (pth t.mask 'h' n1).j i (pth t.mask 'h' (n1+1)):=aU.inj (m.symm.trans u);dsimp only;refine qgj hx S ?_;rw[K];dsimp only;refine lq (lH (wpAny_eqBool_tuple M P hx ?_));refine lq (lK C rfl S.fits ?_);dsimp only;by_cases H:k'=k;·subst H;simp only[decide_true,Bool.and_self,if_true];exact ly (h1 (bA J))
    .simp only[H,decide_false,Bool.and_false,bq,if_false,R,if_true,wb S.tab.rise e1,K];refine lq (wpAny_isSame_ref_self (lq (ly ?_)));simp only[if_true];refine VY M C S hx h1 h2 e he g f (n1+1) _ rfl ?_ 'b' (λi hi=>?_) λi hi j D=>?_
     .have:n1≠e:=λz=>g (by rw[<-z];exact bA (by rw[aV];exact e1))
      lia
     .by_cases z:i<n1;·exact(c i z).1
      .have:i=n1:=by lia
       subst this;exact bA (by rw[aV];exact e1)
     .by_cases z:i<n1;·exact(c i z).2 j D
      .have:i=n1:=by lia
       subst this;have s1:=wb S.tab.rise e1;rw[wb S.tab.rise D]at s1;cases s1;rw[J];intro z;cases z;exact H rfl
   .rename_i m;exact absurd u (m _)
end
theorem qdA{f:α->β}{a b:List β}(h:a.Perm b):∀l:List α,b=l.map f->∃c:List α,c.Perm l/\c.map f=a:=by
 induction h with
 |nil=>
  intro l e;cases l with
  |nil=>exact⟨[],.nil,rfl⟩
  |cons=>cases e
 |cons x _ k=>
  intro l e;cases l with
  |nil=>cases e
  |cons y l=>rw[aF]at e;injection e with e1 e2;obtain⟨c,h1,h2⟩:=k l e2;exact⟨y::c,h1.cons y,by rw[aF,h2,e1]⟩
 | swap x y t=>
  intro l e;cases l with
  |nil=>cases e
  |cons p l=>
   cases l with
   |nil=>rw[aF]at e;injection e with e1 e2;cases e2
   |cons q l=>rw[aF,aF]at e;injection e with e1 e2;injection e2 with e2 e3;exact⟨q::p::l,fQ ..,by rw[aF,aF,<-e1,<-e2,<-e3]⟩
 |trans _ _ j g=>intro l e;obtain⟨i,h1,h2⟩:=g l e;obtain⟨d,n,m⟩:=j i h2.symm;exact⟨d,n.trans h1,m⟩
def SetTT(prog:lC)(w:lD)(h:Z5)(a:Z7)(ks:List (List Str)):Prop:=∃es ep t kl,h.get? a=lm (jA es ep t)/\SetT prog w h es t kl/\kl.Perm ks/\ks.Nodup/\(t.mask=7->es.size<=4)
variable{h':Z5}
section
theorem Ke{h:Z5}{b:Z7}{k:List Str}(f:lS (strKind prog w) h k b)(l:h.get? a=lm (jA es ep t))(s:bh a h h'):lS (strKind prog w) h' k b:=by obtain⟨o,items,n,e,c,d,i⟩:=f;refine⟨o,items,n,(s.2 b λz=>?_).trans e,c,d,i⟩;subst z;rw[e]at l;cases l;cases d
theorem qdB{k:List Str}(f:lS (strKind prog w) s.heap k a)(h:∀b,Q b s):lA 'd' A (hashByValue 8 (.ref a)) Q E s:=by
 have T:=f.typeIs;obtain⟨o,items,n,g,_,hd,hi⟩:=f;unfold hashByValue;refine lq (wpAny_specialOf T F.slot_tuple_hash.lookup ?_);show lA _ _ (oI (.ref a) >>= _) _ _ s;refine lq (mF g hd ?_);refine lq ?_;show lA _ _ (forIn items _ _) _ _ s;rw[<-Array.forIn_toList];have key:∀{ks:List Str}{vs:List lu},ItemsAre (strKind prog w) ks vs->∀v∈vs,∃x t,v=cM x t:=by
  intro ks vs hi
  induction hi with
  |nil=>intro v c;cases c
  |cons h1 _ j=>
   intro v c;rcases af.mp c with rfl|c
   .obtain⟨t,e⟩:=cy h1;exact⟨_,t,e⟩
   .exact j v c
 refine wpAny_forIn_list _ (λrest r s'=>r.1=lr/\s'=s/\∀v∈rest,∃x t,v=cM x t) _ ?_ ?_ _ _ ⟨rfl,rfl,key hi⟩;·rintro v rest r s' ⟨d,rfl,l⟩;obtain⟨x,t,rfl⟩:=l v aj;refine lq (m8 (a:=lw) (by unfold hashByValue;rfl) ?_);exact ly (ly (h lw))
 .rintro⟨r1,r2⟩ s' ⟨d,rfl,_⟩;simp only at d;subst d;exact ly (h lv)
theorem SetT.put{h:Z5}{k:List Str}(S:SetT prog w h es t kl)(l:h.get? a=lm (jA es ep t))(s:bh a h h')(hx:lS (strKind prog w) h k x)(hl:∀i,i<n->(pth t.mask 'h' i).j∈t.place.toList)(he:(pth t.mask 'h' n).j∉t.place.toList)(f:es.size<t.mask)(pl:Bool):∃c,SetT prog w h' (insertAt es (t.put (pth t.mask 'h' n).j).2 (tK prog w k,.ref x)) { (t.put (pth t.mask 'h' n).j).1 with plain:=pl } c/\c.Perm (kl++[k]):=by
 obtain⟨T,m1,_⟩:=qbd (v:=.ref x) S.tab hl he;have hq:(insertAt es (t.put (pth t.mask 'h' n).j).2 (tK prog w k,.ref x)).toList=WR es.toList (below t.place (pth t.mask 'h' n).j) (tK prog w k,.ref x):=toList_insertAt ..;have z:(insertAt es (t.put (pth t.mask 'h' n).j).2 (tK prog w k,.ref x)).size=es.size+1:=by rw[<-aM,hq];unfold WR;simp only[am,ah,bb,cm,aM];omega
 have d:kl.length=es.toList.length:=by rw[aM];exact S.len
 refine⟨WR kl (below t.place (pth t.mask 'h' n).j) k,⟨⟨T.km,T.dm,T.rise,T.le,T.sz,T.rch⟩,?_,?_,λi e k' h1 h2=>?_⟩,?_⟩;·rw[z];exact f
 .rw[z,<-S.len];unfold WR;simp only[am,ah,bb,cm];omega
 .rw[<-aV,hq]at h1;have m:(e,k')∈(WR es.toList (below t.place (pth t.mask 'h' n).j) (tK prog w k,aR x)).zip (WR kl (below t.place (pth t.mask 'h' n).j) k):=bA (i:=i) (by rw[dh];exact⟨h1,h2⟩);rcases Xl d.symm m with e1|e1
  .cases e1;exact⟨x,rfl,Ke hx l s⟩
  .obtain⟨j,D⟩:=bI e1;obtain⟨q,p⟩:=dh.mp D;obtain⟨b,o,g⟩:=S.el j e k' (by rw[<-aV];exact q) p;exact⟨b,o,Ke g l s⟩
 .unfold WR;refine List.perm_middle.trans ?_;rw[cB];exact(List.perm_append_singleton k kl).symm
set_option tactic.hygienic true in
theorem qdC{a:Nat}{ks:List (List Str)}{k:List Str}{Q:Bool->lx->Prop}(hu:A.units<lY)(hS:SetTT prog w s.heap a ks)(hx:lS (strKind prog w) s.heap k x)(hb:ks.length<=17)(h:∀h' b,bh a s.heap h'->SetTT prog w h' a (wa ks k)->Q b { s with heap:=h' }):lA 'd' A (oo a (.ref x) 'h') Q E s:=by
 obtain⟨es,ep,t,kl,D,S,H,nd,few⟩:=hS;have hsz:es.size=ks.length:=by rw[<-S.len,H.length_eq]
 unfold oo setAddHashedIn;refine lH (lq (lK D rfl S.fits ?_));dsimp only;rw[Ab (by show ¬(lw&&_&&_)=lv;simp)];have U:t.place.toList.length<=t.mask:=by
  have:=S.tab.sz;have h2:=S.few;rw[aM]at this ⊢
  lia
 obtain⟨e,he,V⟩:=qdy S.tab.km 'h' S.tab.rise U;have W:t.mask=7\/t.mask=31:=S.tab.km;have hm:es.size<t.mask:=by
  rcases W with z|z;·have:=few z;lia
  .lia
 refine lq (VY (f:=100000) (n:=0) (st:=lr) hu D S hx (λu=>?_) (λu n hl hn=>?_) e he V rfl (be _) ?_ (λi hi=>by lia) (λi hi=>by lia));·exact ly (by have:=h s.heap lw (Heap.SameBut.refl a s.heap) ⟨es,ep,t,kl,D,S,by rw[show wa ks k=ks from Aa (H.mem_iff.mp u)];exact H,by rw[show wa ks k=ks from Aa (H.mem_iff.mp u)];exact nd,few⟩;exact this)
 .have Z:k∉ks:=λz=>u (H.mem_iff.mpr z);have P:wa ks k=ks++[k]:=Ab Z;have K:(ks++[k]).Nodup:=d9.mpr ⟨nd,by simp,λy hy z hz=>by rw[ay.mp hz];exact λq=>Z (q ▸ hy)⟩;dsimp only;refine lq (lK D rfl S.fits ?_);dsimp only;have g:∀pl:Bool,lA 'd' A (do
    storeSet a (insertAt es (t.put (pth t.mask 'h' n).j).2 (tK prog w k,.ref x)) { (t.put (pth t.mask 'h' n).j).1 with plain:=pl }
    if (!false&&({ (t.put (pth t.mask 'h' n).j).1 with plain:=pl }:l8).tooFull)=lv then(do
      setRelay a (cK (es.size+1))
      pure lv)
     else pure lv) Q E s:=by
   intro pl;obtain⟨r,p,J⟩:=S.put D (bg s.heap a (fG (insertAt es (t.put (pth t.mask 'h' n).j).2 (tK prog w k,.ref x)) { (t.put (pth t.mask 'h' n).j).1 with plain:=pl })) hx hl hn hm pl;have G:({ (t.put (pth t.mask 'h' n).j).1 with plain:=pl }:l8).mask=t.mask:=rfl;have ps:r.Perm (ks++[k]):=J.trans (H.append (cJ _));have c:(insertAt es (t.put (pth t.mask 'h' n).j).2 (tK prog w k,aR x)).size=es.size+1:=by rw[<-p.len,J.length_eq,am,S.len];rfl
   generalize ({ (t.put (pth t.mask 'h' n).j).1 with plain:=pl }:l8)=t1 at p G ⊢;generalize insertAt es (t.put (pth t.mask 'h' n).j).2 (tK prog w k,aR x)=es1 at p c ⊢;have Y:=bg s.heap a (fG es1 t1);refine lq (nh D rfl ?_ (by rw[c,lE];lia));have o:=YV (es':=es1) (t':=t1) D;have B:t1.fill=es.size+1:=by unfold SetTable.fill;rw[p.tab.dm,p.tab.sz,aM,c];rfl
   split
   .rename_i l;have l:t1.tooFull=true:=by simpa using l
    have M:(es.size+1) * 5 ≥ t1.mask * 3:=by unfold SetTable.tooFull at l;rw[B]at l;simpa using l
    have O:es.size=4:=by
     rcases W with z|z
     .have:=few z;rw[G,z]at M
      lia
     .rw[G,z]at M
      lia
    obtain⟨C,od,l1,R,l3,F,_,_⟩:=qgi (m:=31) (f:=t1.finger) (v:=t1.movedTo 31) (ld:=t1.led) (pl:=t1.plain) (es:=es1) (.inr rfl) (by rw[c,O];decide);have L:t1.relaid (es1.map (·.1)) (cK (es.size+1))=lm (C,od):=by rw[O];exact l1
    obtain⟨L2,p1,p2⟩:=qdA R (es1.toList.zip r) (by rw[List.map_fst_zip];rw[aM,p.len];exact ao _);have d:(od.filterMap (es1[·]?)).size=es1.size:=by rw[<-aM,R.length_eq,aM]
    have T:L2.map (·.2) |>.Perm r:=by have:=p1.map (·.2);rw[List.map_snd_zip (by have:=p.len;have e:=aM (xs:=es1);lia)]at this;exact this
    refine lq ?_;unfold setRelay;refine lq (lK o rfl p.fits ?_);dsimp only;rw[Ab (by rw[O,lE];decide),L];refine lq (m8 (a:=(od.filterMap (es1[·]?),C)) ?_ ?_)
    .show(if ((od.filterMap (es1[·]?)).size != es1.size)=lv then(unsupported "internal:set-table-lost-an-element":Sem PUnit) >>= λ_=>pure (od.filterMap (es1[·]?),C)else pure (od.filterMap (es1[·]?),C))=pure (od.filterMap (es1[·]?),C);rw[Ab (by simp[d])]
    .dsimp only;refine nh o rfl ?_ (by rw[d,c,lE];lia);have I:=bg (s.heap.update a (fG es1 t1)) a (fG (od.filterMap (es1[·]?)) C);refine ly (h _ lv (Y.trans I) ⟨_,_,C,L2.map (·.2),YV o,⟨l3,?_,?_,λi e' k' N X=>?_⟩,?_,by rw[P];exact K,λz=>by rw[F]at z;cases z⟩);·rw[d,F,c,O];decide
     .rw[aq,d,<-aM (xs:=es1),<-R.length_eq,<-p2,aq]
     .rw[<-aV,<-p2,aJ]at N;rw[aJ]at X;cases q:L2[i]? with
      |none=>rw[q]at N;cases N
      |some y=>rw[q]at N X;cases N;cases X;obtain⟨j,hj⟩:=bI (p1.mem_iff.mp (bA q));obtain⟨b1,b2⟩:=dh.mp hj;obtain⟨b,c1,c2⟩:=p.el j y.1 y.2 (by rw[<-aV];exact b1) b2;exact⟨b,c1,Ke c2 o I⟩
     .rw[P];exact T.trans ps
   .rename_i l;have l:t1.tooFull=false:=by simpa using l
    refine ly (h _ lv Y ⟨es1,_,t1,r,o,p,by rw[P];exact ps,by rw[P];exact K,λz=>?_⟩);unfold SetTable.tooFull at l;rw[B,z]at l;rw[c];have:¬(es.size+1) * 5 ≥ 7 * 3:=by simpa using l
    lia
  have ep1:(t.put (pth t.mask 'h' n).j).1.plain=t.plain:=rfl;cases e1:(t.put (pth t.mask 'h' n).j).1.plain with
  |true=>
   rw[Aa rfl];refine lq (qdB hx λb=>?_);cases b with
   |false=>exact g lw
   |true=>have:=g lv;rw[show({ (t.put (pth t.mask 'h' n).j).1 with plain:=lv }:l8)=(t.put (pth t.mask 'h' n).j).1 by rw[<-e1]]at this;exact this
  |false=>rw[Ab 'f'];refine lq (ly ?_);have:=g lw;rw[show({ (t.put (pth t.mask 'h' n).j).1 with plain:=lw }:l8)=(t.put (pth t.mask 'h' n).j).1 by rw[<-e1]]at this;exact this
 .have:turns t.mask<=46:=by rcases W with z|z <;> rw[z] <;> decide
  lia
end
end L2.D2
namespace L2.D2
open PySem PySem.Spec PyProof.Rows
variable{prog:lC}{w:lD}{h:Z5}{a:Z7}
theorem SetTT.at{h':Z5}{ks:List (List Str)}(g:SetTT prog w h a ks)(f:∀o,h.get? a=lm o->h'.get? a=lm o)(k:∀b o (n:Nat) items,h.get? b=lm o->o.cls=.type "tuple"->o.data=.seq items n->h'.get? b=lm o):SetTT prog w h' a ks:=by obtain⟨es,ep,t,kl,l,S,r⟩:=g;refine⟨es,ep,t,kl,f _ l,⟨S.tab,S.few,S.len,λi e x h1 h2=>?_⟩,r⟩;obtain⟨b,e1,o,items,n,j,c,d,q⟩:=S.el i e x h1 h2;exact⟨b,e1,o,items,n,k b o n items j c d,c,d,q⟩
variable{s:lx}{kss:List (List Str)}
section
variable{A:lG}{E:lu->lx->Prop}
theorem ZN(e:h.get? a=lm (qfZ w)):SetTT prog w h a []:=
 ⟨_,_,_,[],e,⟨⟨.inl rfl,rfl,fP,(λ_ z=>nomatch z),rfl,(λ_ z=>nomatch z)⟩,be _,rfl,λi e k h1 _=>by simp at h1⟩,.nil,dI,λ_=>be _⟩
theorem qmq{sk:SK}{S l:Z7}{items:Array lu}{Q:Unit->lx->Prop}(I:A.handled=lr)(u:A.in1.units<lY)(B:SetTT prog w s.heap S [])(hl:SeqK s.heap l sk items)(H:kss.length=items.size)(hi:∀(i:Nat)(v:lu),items[i]?=lm v->∃k b,kss[i]?=lm k/\v=.ref b/\b≠S/\lS (strKind prog w) s.heap k b)(hb:items.size<=17)(j:l≠S)(h:∀h' tk,SetTT prog w h' S (kss.foldl wa [])->(∀b o,b≠S->s.heap.get? b=lm o->h'.get? b=lm o)->Q () { s with heap:=h',toks:=tk }) :
  lA 'd' A (bz "set.__init__" S (.ref l)) Q E s:=by
 have lt:S<s.heap.objs.size:=let ⟨_,_,_,_,G,_⟩:=B;ax G;refine qlH (PS:=λi h=>(∀(i:Nat)(v:lu),items[i]?=lm v->∃k b,kss[i]?=lm k/\v=.ref b/\b≠S/\lS (strKind prog w) h k b)/\SetTT prog w h S ((kss.take i).foldl wa [])) I hl lt j (λK=>⟨λi v a=>?_,B.at (λo e=>ac _ e) λb o m its e _ _=>ac _ e⟩) (λi s' h' it p k=>?_) (λi v s' Q E a p q=>?_) λh' tk p k=>h h' tk (by have p:=p.2;rw[bC (fL H)]at p;exact p) k;·obtain⟨k,b,e1,d,D,o,its,m,f,r⟩:=hi i v a;exact⟨k,b,e1,d,D,o,its,m,ac _ f,r⟩
 .have nt:∀b o,s'.heap.get? b=lm o->o.cls=.type "tuple"->h'.get? b=lm o:=λb o e c=>k b o (λz=>by rw[z]at e;obtain⟨o',C,g,_⟩:=it.obj;rw[e]at C;cases C;rw[c]at g;injection g with g;cases sk <;> exact absurd g 'e') e;refine⟨λi v a=>?_,p.2.at (λo=>k S o (aD lt)) λb o m its e c _=>nt b o e c⟩;obtain⟨k,b,e1,d,D,o,its,m,f,c,r⟩:=p.1 i v a;exact⟨k,b,e1,d,D,o,its,m,nt b o f c,c,r⟩
 .obtain⟨x,b,hx,rfl,L,y⟩:=p.1 i v a;obtain⟨d,M⟩:=VC hx;have:=(aY.mp a).1;unfold setAdd;refine lH (lq (wpAny_pyHash_tuple u y (qdC (s:={ s' with toks:=s'.toks+(x.length+1) }) u p.2 y 'b' λh' J t n=>q h' J _ (e8 _ _) t ⟨λi v a=>?_,by rw[<-d];exact n⟩)));obtain⟨k,b,e1,d,D,o,its,m,f,r⟩:=p.1 i v a;exact⟨k,b,e1,d,D,o,its,m,(t.2 b D).trans f,r⟩
end
def qeC:List D->Option (List (List Str))
 |[]=>lm []
 |.tup xs::l=>(yi xs).bind λk=>(qeC l).map (k::·)
 |_::_=>lr
def VZ:D->Option (List (List Str))
 |.lst ds=>qeC ds
 |.tup ds=>qeC ds
 |_=>lr
def szO(p:Z7)(n:Nat):HO:=.ext λh=>∃es ep t,h.get? p=lm (jA es ep t)/\t.fits es.size=lv/\es.size=n
def uB(d:D):Out D:=match VZ d with
 |some ss=>if ss.length<=17 then .ok (.int (ss.foldl wa []).length)else .bad
 |none=>.bad
theorem qbh{d:D}(h:VZ d=lm kss):∃ds,Uh d=.ok ds/\qeC ds=lm kss:=by
 cases d with
 |lst ds=>exact⟨ds,rfl,h⟩
 |tup ds=>exact⟨ds,rfl,h⟩
 |_=>cases h
theorem wR:∀{us:List lu}{ss:List Str},nU us ss->ItemsAre (strKind prog w) ss us
 |_,_,.nil=>.nil
 |_,_,.cons x t h=>.cons (by show fm x (.str x t)=lv;simp[fm]) (wR h)
variable{X:Cx}{C:Ct}{own:List Nat}{ma:Mo}{pos:Pos}{σ:St}
section
variable{e:Z4}{fa:qW}
theorem qgk{Z9:Pns}{F H:Hp}(x:C.K=X.K)(I:Inv X Z9 σ H s)(m:Same F H):∀{ds:List D}{vs:List V}{us:List lu}{kss:List (List Str)},IsL C.K F vs ds->Vals vs us->qeC ds=lm kss->us.length=kss.length/\∀(i:Nat)(v:lu),us[i]?=lm v->∃k b,kss[i]?=lm k/\v=.ref b/\lS (strKind X.prog X.w) s.heap k b:=by
 intro ds
 induction ds with
 |nil=>intro vs us kss c l e;cases c;cases l;cases e;exact⟨rfl,λi v h=>by simp at h⟩
 | cons d ds q=>
  intro vs us kss c l e;cases c with
  | cons i c=>
   cases l with
   | cons r l=>
    cases d with
    | tup xs=>
     have e:((yi xs).bind λk=>(qeC ds).map (k::·))=lm kss:=e;obtain⟨k,e1,z⟩:=Option.bind_eq_some_iff.mp e;obtain⟨A,y,rfl⟩:=aS.mp z;obtain⟨h1,h2⟩:=q c l y;refine⟨by rw[ah,ah,h1],λj v f=>?_⟩;cases j with
     |zero=>
      rw[List.getElem?_cons_zero]at f;cases f;cases i with
      |@tup a ys _ hq t=>cases r;have hq:=qY m hq;rw[x]at hq;obtain⟨its,p,⟨o,u,g,n,hd⟩,_⟩:=I.tuple hq;obtain⟨st,_⟩:=gz t p e1;exact⟨k,a,rfl,rfl,o,its.toArray,n,u,g,hd,by simpa using wR st⟩
     |succ j=>rw[List.getElem?_cons_succ]at f ⊢;exact h2 j v f
    |_=>cases e
theorem qgl(m:C.K=X.K)(M:X.calm=lv)(Z:X.A.units+10<lY):vR X (.type "set") (λxs H Q=>∃x F dx kss,xs=[x]/\Same F H/\TopIs C.K F H x dx/\VZ dx=lm kss/\kss.length<=17/\∀p,H p=lr->Q (.ref p) (upd H p (szO p (kss.foldl wa []).length))):=by
 intro Z9 s σ H xs us Q I r h;obtain⟨x,F,dx,kss,rfl,f,z,es,hl,q⟩:=h;obtain⟨u,rfl,E⟩:=wl r;obtain⟨ds,e,O⟩:=qbh es;obtain⟨a,sk,vs,rfl,hq,J⟩:=qaA f z e;cases E;rw[m]at hq;obtain⟨its,o,n,B,g,l,L,hd,Y⟩:=Jb I hq;obtain⟨j,hi⟩:=qgk m I f J B O;refine VD (PS:=λh'=>SetTT X.prog X.w h' s.heap.objs.size (kss.foldl wa [])) (λA1 Q1 E1 hA N k=>?_) λh' tk d kp=>⟨.ref s.heap.objs.size,_,I.laid (t':=tk) kp (ao _) ?_,rfl,q _ (I.hok.fresh (ao _))⟩
 .exact qmq (sk:=sk) (items:=its.toArray) (hA.trans (I.ok.hd M)) (by rw[Around.in1_units];lia) (ZN (ap _ rfl)) (.of (ac _ g) hd l) (by simp[j]) (λi v e=>by obtain⟨k1,b,e1,P,o1,i1,n1,y,r⟩:=hi i v (by simpa using e);exact⟨k1,b,e1,P,aD (ax y),o1,i1,n1,ac _ y,r⟩) (by rw[au,j];exact hl) (aD (ax g)) λh' tk d kp=>k h' tk d λb o D=>kp b o (aD (ax D)) (ac _ D)
 .obtain⟨es',ep,t,kl,c,S,G,_⟩:=d;exact⟨⟨es',ep,t,c,S.fits,by rw[<-S.len,G.length_eq]⟩,⟨_,c⟩,λh1 h2 ⟨W,V,U,T,R⟩ k=>⟨W,V,U,k _ T,R⟩⟩
theorem qgm:vR X (.builtin "len") (λxs H Q=>∃a n,xs=[.ref a]/\H a=lm (szO a n)/\n<=100/\Q (.int n) H):=by intro Z9 s σ H xs us Q I r h;obtain⟨a,n,rfl,b,c,q⟩:=h;obtain⟨u,rfl,y⟩:=wl r;cases y;obtain⟨es,ep,t,l,f,rfl⟩:=(I.hok a _ b).1;refine call_len_set l ⟨rfl,rfl,rfl⟩ rfl f 'b' ?_;exact⟨.int es.size,H,I.tok _,⟨_,rfl⟩,q⟩
theorem ZO{p p2 a:Pos}(l:C.K=X.K)(f:X.calm=lv)(n:X.A.units+64<lY)(hg:Gl X "len")(m:X.mg "len"=lr)(v:lB "len"=lm (.builtin "len"))(i:Gl X "set")(g:X.mg "set"=lr)(d:lB "set"=lm (.type "set"))(j:PE X e 'p')(he:lz [e] X.env=['j']:=by exact qF rfl)(c:lz [.Call (.Name "set" p2) [e] [] a] X.env=[(lw,Z0 (.Call (.Name "set" p2) [e] [] a) X.env)]:=by exact qF rfl) :
  PE X (.Call (.Name "len" p) [.Call (.Name "set" p2) [e] [] a] [] pos) (tE C own .sh (d1 uB fa)):=by
 refine jp (vw qgm hg m v (qI (vS (qgl l f 'b') i g d (qI j jq he) 'e' 'e' (by rw[he];rfl) rfl) jq c) 'e' 'e' (by rw[c];rfl) rfl) λσ H Q h=>?_;refine gA (xw (ma:=ma) h) λx H1 z=>?_;obtain⟨k,F,dx,ex,t,b,po⟩:=z;cases ex;unfold uB at po;cases es:VZ dx with
 |none=>rw[es]at po;exact po.elim
 | some ss=>
  rw[es]at po;have po:PoV C .sh F H1 (if ss.length<=17 then .ok (.int (ss.foldl wa []).length)else .bad) Q:=po;by_cases hl:ss.length<=17
  .rw[Aa hl]at po;refine⟨x,F,dx,ss,rfl,t,b,es,hl,λq hq=>⟨q,_,rfl,qm,?_,?_⟩⟩
   .have:=wY ss [];rw[bv]at this
    lia
   .obtain⟨s1,c1,f1⟩:=ke (u:=szO q (ss.foldl wa []).length) t hq;exact po _ _ _ s1 c1 (.int _)
  .rw[Ab hl]at po;exact po.elim
end
def PoSF(C:Ct)(own own':List Nat)(σ:St)(F H:Hp)(r:Out (Fl×Sl))(D:Ends):Prop:=match r with
 |.ok (.rt d,ρ')=>∀v σ' F' H',Same F' H'->Yo C.K C.io F' H' σ' ρ'->Chg (OA own σ) F H F' H'->(∀i∈C.io,σ'[i]?=σ[i]?)->(∃a,v=.ref a/\(H a=lr\/OA own σ a)/\F' a=lr/\OwnIs C.K F' H' a d)->D.rt v H'
 |r=>PoS C own own' σ F H r D
def qj5(C:Ct)(own own':List Nat)(f:qM):TS:=λD σ H=>∃F ρ,Rep C.K own F H σ ρ/\PoSF C own own' σ F H (f ρ) D
variable{x:Str}
section
variable{own' o1 o2 o3:List Nat}{st:Z3}{sts rest:List Z3}{f g:qM}
theorem PoSF.shift{σ1:St}{F H F1 H1:Hp}{ρ1:Sl}{r:Out (Fl×Sl)}{D:Ends}(h:PoSF C o1 o3 σ F H r D)(a:Nx C o1 o2 σ F H ρ1 σ1 F1 H1):PoSF C o2 o3 σ1 F1 H1 r D:=by
 cases r with
 | ok p=>
  obtain⟨fl,ρ'⟩:=p;cases fl with
  | rt d=>
   rintro v σ' F' H' s io c e ⟨x,b,hx,g,l⟩;refine h v σ' F' H' s io (a.chg.trans c a.oa) (λi hi=>(e i hi).trans (a.io i hi)) ⟨x,b,?_,g,l⟩;rcases hx with hx|hx
   .refine .inl ?_;cases q:H x with
    |none=>rfl
    |some o=>exact absurd hx (a.chg.stay x (by rw[q];simp))
   .exact(a.oa x hx).symm
  |nx=>exact PoS.shift (o3:=o3) (r:=.ok (.nx,ρ')) h a
  |bk=>exact PoS.shift (o3:=o3) (r:=.ok (.bk,ρ')) h a
  |ct=>exact PoS.shift (o3:=o3) (r:=.ok (.ct,ρ')) h a
 |exc c=>exact PoS.shift (o3:=o3) (D:=D) (r:=.exc c _) h a
 |bad=>exact h.elim
theorem yQ(m:C.mr=.fr)(h1:PS X st (tSt C o1 o2 f))(h2:PSs X rest (qj5 C o2 o3 g)):PSs X (st::rest) (qj5 C o1 o3 (qH f g)):=Vq (Ym h1 h2) λD σ H h=>by
 obtain⟨F,ρ,r,h⟩:=h;refine⟨F,ρ,r,?_⟩;unfold qH at h;cases q:f ρ with
 |ok p=>
  rw[q]at h;obtain⟨fl,ρ1⟩:=p;cases fl with
  |nx=>exact λσ' F' H' n=>⟨F',ρ1,n.rep,PoSF.shift (show PoSF C o1 o3 σ F H (g ρ1) D from h) n⟩
  |rt d=>exact λv σ' F' H' s io c e mo=>h v σ' F' H' s io c e (by rw[m]at mo;obtain⟨a,e1,i,b⟩:=mo;exact⟨a,e1,.inl i,b⟩)
  |bk=>exact h
  |ct=>exact h
 |exc c=>rw[q]at h;exact h
 |bad=>rw[q]at h;exact h.elim
theorem qgn{i:Nat}{p:Pos}(e:X.N[i]?=lm x:=by rfl)(c:Vis X.env.scope x:=by exact ci rfl)(l:i∈own:=by decide)(o:∀i∈C.io,i∈own:=by exact jK rfl)(hd:Dbg x:=by decide)(b:Cdk x:=by decide):PSs X [.Return (lm (.Name x p)) pos] (qj5 C own own' (jl (qc i))):=Gp (Qy (qed (wG e c hd b)) λD σ H ⟨F,ρ,r,h⟩=>by obtain⟨d,hd⟩:=r.opn i l;obtain⟨a,h1,h2,g⟩:=r.ow i d l hd;unfold jl qc at h;rw[hd]at h;exact⟨.ref a,h1,h (.ref a) σ F H r.sub (r.ioIs o) .refl (λ_ _=>rfl) ⟨a,rfl,.inr ⟨i,l,h1⟩,h2,g⟩⟩)
theorem qi2(m:C.mr=.fr)(h:PSs X sts (qj5 C [] own' f)):PSs X sts (tSt C [] own' f):=Vq h λD σ H ⟨F,ρ,r,h⟩=>⟨F,ρ,r,by
 cases q:f ρ with
 |ok p=>
  rw[q]at h;obtain⟨fl,ρ1⟩:=p;cases fl with
  |rt d=>exact λv σ' F' H' s io c e ⟨a,e1,i,b⟩=>h v σ' F' H' s io c e (by rw[m];exact⟨a,e1,i.resolve_right (λ⟨_,z,_⟩=>by cases z),b⟩)
  |_=>exact h
 |exc c=>rw[q]at h;exact h
 |bad=>rw[q]at h;exact h.elim⟩
theorem Wa(h:∀ρ ρ',g ρ≠.ok (.nx,ρ'))(ρ ρ':Sl):qH f g ρ≠.ok (.nx,ρ'):=by
 unfold qH;cases f ρ with
 |ok p=>
  obtain⟨fl,ρ1⟩:=p;cases fl with
  |nx=>exact h ρ1 ρ'
  |_=>intro z;cases z
 |exc c o=>intro z;cases z
 |bad=>intro z;cases z
end
def qhD(x y:Str):Prop:=(y.length == 0)=lw/\(aQ x y).1.length<=Z8/\(aQ x y).2.1.length<=Z8/\(aQ x y).2.2.length<=Z8
instance:∀x y,Decidable (qhD x y):=λx y=>inferInstanceAs (Decidable (_/\_))
noncomputable def qgo:D->D->Out D
 |.str x,.str y=>if qhD x y then .ok (.tup [.str (aQ x y).1,.str (aQ x y).2.1,.str (aQ x y).2.2])else .bad
 |_,_=>.bad
section
variable{a b c1 c2:Z4}{fa fb:qW}{m mb:Mo}{p1 p2:Pos}
theorem qbi{prog:lC}{w:lD}{A:lG}{E:lu->lx->Prop}{s:lx}{y:Str}{t u:Tok}{Q:lu->lx->Prop}(B:(y.length == 0)=lw)(hx:x.length<=Z8)(h:∀ta tb tc k,Q 'k' { s with toks:=k,heap:=s.heap.push { cls:=.type "tuple",data:=.seq [.str (aQ x y).1 ta,.str (aQ x y).2.1 tb,.str (aQ x y).2.2 tc].toArray } }) :
  lA 'd' A (call (.builtin "str.partition") [.str x t,.str y u]) Q E s:=by
 refine mi F.slot_str_partition (nB _ _ _) F.entry_str_partition (F.args_str_partition_2 _ _) (meets_str_partition x y t u B hx) ?_;have h':=h;unfold aQ at h';revert h';cases Builtin.Str.occurrences x y 0 x.length 1 with
 |nil=>intro h';exact h' _ _ _ _
 |cons i r=>intro h';exact h' _ _ _ _
theorem qgp:MtD X C .sh "str.partition" qgo:=by
 intro Z9 s σ H x vs v us Q I r j h;obtain⟨y,F,dx,m,rfl,i,g,ty,po⟩:=h;obtain⟨u,rfl,l⟩:=j.one;cases dx with
 | str c=>
  cases m with
  | str a=>
   obtain⟨rfl,f⟩:=g.str;obtain⟨rfl,n⟩:=ty.str;obtain⟨t,rfl⟩:=r;obtain⟨t',rfl⟩:=l;have po:PoV C .sh F H (if qhD c a then .ok (.tup [.str (aQ c a).1,.str (aQ c a).2.1,.str (aQ c a).2.2])else .bad) Q:=po;by_cases d:qhD c a
   .rw[Aa d]at po;refine qbi d.1 f λta tb tc k=>?_;have p:Inv X Z9 σ (upd H s.heap.objs.size (.tup [.str (aQ c a).1,.str (aQ c a).2.1,.str (aQ c a).2.2])) _:=
     I.laid (t':=k) (λb o e=>ac _ e) (ao _) (show ObjOk X.prog X.w _ _ _ (.tup [.str (aQ c a).1,.str (aQ c a).2.1,.str (aQ c a).2.2])from⟨⟨by show 3<=_;rw[lE];decide,_,ap _ rfl,rfl⟩,[.str (aQ c a).1 ta,.str (aQ c a).2.1 tb,.str (aQ c a).2.2 tc],.cons ⟨ta,rfl⟩ (.cons ⟨tb,rfl⟩ (.cons ⟨tc,rfl⟩ .nil)),lf s.heap _⟩)
    obtain⟨s2,c2⟩:=wm (u:=.tup [.str (aQ c a).1,.str (aQ c a).2.1,.str (aQ c a).2.2]) i (I.hok.fresh (ao _));exact⟨.ref s.heap.objs.size,_,p,rfl,po _ _ _ s2 c2 (.tup (.inl (.inl qm)) (.cons (.str d.2.1) (.cons (.str d.2.2.1) (.cons (.str d.2.2.2) .nil))))⟩
   .rw[Ab d]at po;exact po.elim
  |_=>exact po.elim
 |_=>exact po.elim
def k4(p:Str)(d:D):Bool:=match qdv d with
 |some x=>decide ((x++p).length<=Z8)
 |none=>lw
def Wb(p q:Str)(a b:D):Out D:=match qdv a,qdv b with
 |some x,lm y=>if (x++p++y++q).length<=Z8 then .ok (.str (x++p++y++q))else .bad
 |_,_=>.bad
theorem qdD{p q:Str}{j1 j2}{f m:Pos}(G:PE X a 'p')(hb:PE X b (tE C own mb fb))(o:ma≠.any:=by decide):PE X (.JoinedStr [.FormattedValue a (-1) lr p1,.Constant (.str p) j1 f,.FormattedValue b (-1) lr p2,.Constant (.str q) j2 m] pos) (tE C own .sh (dM (k4 p) (Wb p q) fa fb)):=by
 refine⟨?_⟩;intro Z9 s σ H Q I h;have h:=UA (ma:=ma) (mb:=mb) o h;refine wpAny_JoinedStr ?_;refine wpAny_FormattedValue_plain (thn (G Z9 s σ H _ I h) λv s1 g=>?_);obtain⟨x,H1,B,r1,f⟩:=g;obtain⟨⟨F1,dx,E,j,c⟩,f⟩:=f;unfold k4 at c;cases ex:qdv dx with
 |none=>rw[ex]at c;cases c
 | some d=>
  rw[ex]at c;have c:=Ae c;have f1:=qaX j ex;refine qeq B r1 f1 λt k=>⟨d,t,rfl,by rw[uQ];exact f1.len,?_⟩
  rw[uQ];refine iq ⟨p,_,rfl,c,?_⟩;refine wpAny_FormattedValue_plain (thn (hb Z9 _ σ H1 _ ((B.tok k).tok _) f) λu s2 g=>?_);obtain⟨y,H2,A,r2,m⟩:=g;obtain⟨F,w,K,l,i,ty,po⟩:=m;unfold Wb at po;cases e1:qdv w with
  |none=>simp only[e1]at po;exact po.elim
  | some D=>
   cases r:qdv K with
   |none=>simp only[e1,r]at po;exact po.elim
   | some e=>
    simp only[e1,r]at po;have f2:=qaX i e1;have J:=qaX ty r;have hx:d=D:=by cases f1 <;> cases f2 <;> rfl
    subst hx;by_cases z:(d++p++e++q).length<=Z8
    .rw[Aa z]at po;have n:(d++p++e).length<=Z8:=bn (by rw[l7 (d++p++e)];exact e8 _ _) z;refine qeq A r2 J λt' k'=>⟨e,t',rfl,n,?_⟩
     refine iq ⟨q,_,rfl,z,z,?_⟩;exact⟨.str (d++p++e++q),H2,((A.tok k').tok _).tok _,⟨_,rfl⟩,po _ F H2 l .refl (.str z)⟩
    .rw[Ab z]at po;exact po.elim
end
end L2.D2
namespace PySem
open Sem (wp)
open Builtin PySem.Spec PyProof.Rows
end PySem
namespace L2.D2
open PySem PySem.Spec PyProof.Rows
def Xc(h:Z5)(C:Z7):Prop:=∃nm q N bs bm hdct sn sub ab col dd k0 k1 k2 k3 k5 n,h.get? C=lm (excClassObj nm q C N bs bm hdct sn sub ab col dd k0 k1 k2 k3 k5 n)/\bm.contains (.type "BaseException")=lv
variable{h h':Z5}{e:Z7}{vs:Array lu}
theorem Xc.same{C:Z7}{oe:Obj}(x:Xc h C)(he:h.get? e=lm oe)(hd:oe.data=.fields vs)(k:∀b,b≠e->h'.get? b=h.get? b):Xc h' C:=by obtain⟨nm,q,N,bs,bm,hdct,sn,sub,ab,col,dd,k0,k1,k2,k3,k5,n,hC,hb⟩:=x;refine⟨nm,q,N,bs,bm,hdct,sn,sub,ab,col,dd,k0,k1,k2,k3,k5,n,(k C ?_).trans hC,hb⟩;rintro rfl;rw[hC]at he;cases he;cases hd
variable{A:lG}{E Q:lu->lx->Prop}{t:Nat}{ex:Z7}
section
variable{M:Model}{g:Array nN}{d:Drawn}{os:l0}{C:Z7}{od:Option Z7}{sl:Array (Option lu)}
theorem qeD{m:String}(he:h.get? e=lm ⟨.ref C,od,.fields vs,sl⟩)(x:Xc h C)(hq:Q (.ref e) ⟨h,g,d,t,os⟩):lA M A (excFromValue (.ref e) m) Q E ⟨h,g,d,t,os⟩:=by
 obtain⟨nm,q,N,bs,bm,hdct,sn,sub,ab,col,dd,k0,k1,k2,k3,k5,n,hC,hb⟩:=x;have B:(aR C::bm).contains (.type "BaseException")=true:=by rw[List.contains_cons,hb,Bool.or_true]
 unfold excFromValue;repeat (first|with_reducible refine mB he ?_|with_reducible refine mB hC ?_|(with_reducible refine wpAny_isSubtype_exc hC ?_;rw[B])|wp_step)
 exact hq
theorem qlb{Q:Bool->lx->Prop}(he:h.get? e=lm ⟨.ref C,od,.fields vs,sl⟩)(x:Xc h C)(hq:Q lw ⟨h,g,d,t,os⟩):lA M A (isType (.ref e)) Q E ⟨h,g,d,t,os⟩:=by
 obtain⟨nm,q,N,bs,bm,hdct,sn,sub,ab,col,dd,k0,k1,k2,k3,k5,n,hC,hb⟩:=x;unfold isType;repeat (first|with_reducible refine mB he ?_|with_reducible refine mB hC ?_|(with_reducible refine wpAny_isSubtype_exc hC ?_)|wp_step)
 exact hq
theorem qgq(he:h.get? e=lm ⟨.ref C,od,.fields vs,sl⟩)(x:Xc h C)(hq:Q (.ref e) ⟨h,g,d,t,os⟩):lA M A (raisedInstance (.ref e)) Q E ⟨h,g,d,t,os⟩:=by
 obtain⟨nm,q,N,bs,bm,hdct,sn,sub,ab,col,dd,k0,k1,k2,k3,k5,n,hC,hb⟩:=x;unfold raisedInstance;repeat (first|with_reducible refine mB he ?_|with_reducible refine mB hC ?_|wp_step)
 exact hq
theorem unchain{o:Obj}{ws:Array lu}{prog:lC}{w:lD}(he:h.get? ex=lm o)(hd:o.data=.fields ws)(h2:ws[2]?=lm .none)(hq:Q .none ⟨h,g,d,t,os⟩):lA 'd' A (runValue (.builtin "proto.unchain" ⟨[.ref e,.ref ex,.ref ex,.bool lw],[]⟩)) Q E ⟨h,g,d,t,os⟩:=by refine wpAny_runValue (lV (b:=Builtin.«proto.unchain») (entryFor_of_fast (by kernel_rfl)) ?_);show lA _ _ (field (.ref ex) 2 >>= _) _ _ _;refine lq (lU he hd h2 ?_);rw[Aa 'e'];first|exact ly hq|(refine lq (ly ?_);exact ly hq)
theorem qgr{prog:lC}{w:lD}{env:Env}{s:lx}{x c:Sem lu}{Q:Flow->lx->Prop}(r:A.handled=lm (.ref ex))
  (H:lA 'd' A x (λv s1=>lA 'd' A c (λu s2=>∃e od sl o C,v=.ref e/\u=.ref ex/\e≠ex/\Xc s2.heap C/\s2.heap.get? e=lm ⟨.ref C,od,.fields #[o,.none,.none,.none,.bool lw,.none],sl⟩ /\
   (∃l o2 ws n,Xc s2.heap l/\s2.heap.get? ex=lm ⟨.ref l,o2,.fields ws,n⟩/\ws[2]?=lm .none)/\∀h',(∀b,b≠e->h'.get? b=s2.heap.get? b)->Tn h' e (.ref C) (.ref ex)->E (.ref e) { s2 with heap:=h' }) E s1) E s) :
  lA 'd' A (raiseStmt env (lm x) (lm c)) Q E s:=by
 unfold raiseStmt;refine lq (lR H (λv s1 h1=>?_) λ_ _ z=>z);refine lq (lH (lR h1 (λu s2 h2=>lq (ly ?_)) λ_ _ z=>z));obtain⟨e,od,sl,o,C,rfl,rfl,ne,B,he,⟨l,o2,ws,n,p,hx,h2⟩,k⟩:=h2;obtain⟨hp,g,d,tk,os⟩:=s2;refine lq (lH (qeD he B ?_));have t:∀{h:Z5}{f:Obj->Obj} b,b≠e->(h.update e f).get? b=h.get? b:=λb hb=>bT _ _ (bj hb);have up:∀{h:Z5}{vs:Array lu}(i:Nat)(y:lu),h.get? e=lm ⟨.ref C,od,.fields vs,sl⟩->(h.update e (ib (·.setIfInBounds i y))).get? e=lm ⟨.ref C,od,.fields (vs.setIfInBounds i y),sl⟩:=λi y q=>bo _ q rfl;dsimp only;rw[Ab 'f'];refine lq (lH (qeD hx p ?_));refine lq (lO he rfl (by decide:3<6) ?_);have j:=up 3 (.ref ex) he;refine lq (lO j rfl (by decide:4<6) ?_);have a:=up 4 (.bool lv) j;have k4:∀b,b≠e->_:=λb hb=>(t (f:=ib (·.setIfInBounds 4 (bi lv))) (h:=hp.update e (ib (·.setIfInBounds 3 (aR ex)))) b hb).trans (t (h:=hp) b hb);have m:=B.same he rfl k4;refine lq (qlb a m ?_);rw[Ab 'e'];refine lq (qgq a m ?_);unfold nD;refine lq (lq (lU a rfl (x:=.none) rfl ?_));rw[Ab 'e'];refine ly ?_;unfold raiseNew;refine lq (nX ?_);rw[r];dsimp only;rw[Aa (by simpa using bj ne)];refine lq (lH (unchain ((k4 ex (bj ne)).trans hx) rfl h2 ?_));refine lq (lO (i:=2) (x:=.ref ex) a rfl (by decide:2<6) ?_);exact nS (k _ (λb hb=>(t b hb).trans (k4 b hb)) ⟨_,_,up 2 (.ref ex) a,rfl,rfl,rfl,rfl⟩)
end
noncomputable def qhE(ca:Str->Z7)(cs:List Str)(x c:Str):Option Z7:=if c∈cs/\c≠x then lm (ca c)else lr
set_option tactic.hygienic true in
theorem qgs{K:Y9}{cv:Str->lu}{ca:Str->Z7}{cs:List Str}{top x:Str}(z:Xs K cv ca cs top)(xin:∀c∈cs,cg K (ca c) bmV "ValueError.__new__"=lv)(inj:∀x∈cs,∀y∈cs,ca x=ca y->x=y)(hx:x∈cs)(c:Str)(Cc:Z7)(h:qhE ca cs x c=lm Cc):(cv c=.ref Cc/\dH K (.ref Cc) (cv top)=lm lv)/\cg K Cc bmV "ValueError.__new__"=lv/\Cc≠ca x:=by
 unfold qhE at h;split at h
 case isFalse=>cases h
 case isTrue q=>
  cases h;exact⟨⟨z.val c q.1,z.own c q.1⟩,xin c q.1,λy=>q.2 (inj c q.1 x hx y)⟩
noncomputable def Wc(hit:Str->Option Z7)(x:Str)(fb:qM):qM:=λρ=>match fb ρ with
 |.exc c ρe=>match hit c with
  |some _=>.exc x ρe
  |none=>.bad
 |o=>o
section
variable{X:Cx}{C:Ct}{own own':List Nat}{fb:qM}
theorem qi3{x:Str}{Cc:Z7}(kin:X.K.In h)(q:cg X.K Cc bmV "ValueError.__new__"=lv):Xc h Cc:=by obtain⟨tl,N,nm,a,bs,hdct,sn,sub,ab,col,dd,k0,k1,k2,k3,k5,mN,hC,b,d,T⟩:=(Uk (mg:=λ_=>lm (.ref Cc)) (x := "") kin rfl q).obj;exact⟨nm,a,N,bs,tl,hdct,sn,sub,ab,col,dd,k0,k1,k2,k3,k5,_,hC,T.hasType cZ.hasBase⟩
theorem qdE{x en:Str}{np cpos M m:Pos}{arg:Z4}{Cn ex Cc:Z7}{j:Nat}{dm:D}{Z9:Pns}{s:lx}{σ:St}{H F:Hp}{ρ:Sl}{Q:Flow->lx->Prop}{E:lu->lx->Prop}{oe:Obj}{ws:Array lu}(hx0:X.ex=[])(hstk:X.stack=X.env::X.outer)(hfr:X.env.frame=lm X.env.locals)(hg:Gl X x)(hm:X.mg x=lm (.ref Cn))(q:cg X.K Cn bmV "ValueError.__new__"=lv)(q2:cg X.K Cc bmV "ValueError.__new__"=lv)(hj:X.N[j]?=lm en)(hx:X.env.scope.names.lookup en=lm .local)(ha:∀e,PA (qct X e) [arg] (tAr (exC C) [] [.vl] (qb (dC dm) qA)))(I:Inv X Z9 σ H s)(rp:Rep C.K [] F H σ ρ)(O:σ[j]?=lm (lm (V.ref ex)))(hp:(ex,oe)∈Z9)(c1:oe.cls=.ref Cc)(c2:oe.data=.fields ws)(c3:ws[2]?=lm .none)(hE:∀s' H' e F',Inv X Z9 σ H' s'->Same F' H'->Chg No F H F' H'->Fre X Z9 H' s' e->Tn s'.heap e (.ref Cn) (.ref ex)->E (.ref e) s')(hd:Dbg x:=by decide)(hde:Dbg en:=by decide)(hdc:Cdk en:=by decide)(he:lz [arg] X.env=(lw,Z0 arg X.env)::lz [] X.env:=by exact qV rfl) :
  lA 'c' (X.A.mark (lm (.ref ex))) (exec (.Raise (lm (.Call (.Name x np) [arg] [] cpos)) (lm (.Name en M)) m) X.env) Q E s:=by
 obtain⟨tl,N,nm,qn,bs,hdct,sn,sub,ab,col,dd,k0,k1,k2,k3,k5,mN,hC,hN,R,T⟩:=(Uk I.ok.mod.kin hm q).obj;have B:tAr (exC C) [] [.vl] (qb (dC dm) qA) σ H λvs H1=>vs.length<=Z8/\∃F',Same F' H1/\Chg No F H F' H1:=by refine⟨F,ρ,rp,?_⟩;show ∀vs F' H',_->_->_->_;intro vs F' H' J c av;exact⟨by rw[av.len];exact bn (by decide:1<=1000) (by rw[lE];decide),F',J.sub,c.mono λb ⟨i,hi,_⟩=>by simp at hi⟩
 rw[arm_exec_Raise];refine lq (mT (qgr rfl ?_));refine lq (lR (wpAny_Call_ofName (yd (X:=qct X (.ref ex)) (Vw I) hg hm ?_ hd)) (λv s3 h3=>lq (mT (ly h3))) λ_ _ z=>z);unfold oR;have run:lA 'c' (X.A.mark (lm (.ref ex))) (spliced (lM cpos (lz [arg] X.env))) (AP (qct X (.ref ex)) Z9 σ _) (λ_ _=>False) s:=ha (.ref ex) cpos Z9 s σ H _ (Vw I) B;have P:(lM cpos (lz [arg] X.env)).any (·.1)=false:=by rw[he];rfl
 have r:lA 'c' (X.A.mark (lm (.ref ex))) (evalArgs (.ref Cn) lv (lM cpos (lz [arg] X.env)) []) (λa s2=>a.kw=[]/\∃vs H2,Inv X Z9 σ H2 s2/\Vals vs a.pos/\vs.length<=Z8/\∃F',Same F' H2/\Chg No F H F' H2) E s:=by rw[he]at run ⊢;exact dw (lR run (λus s2 ⟨vs,H2,f,r2,z⟩=>⟨rfl,vs,H2,Ul I.ok f,r2,z⟩) λ_ _ y=>y.elim)
 refine lq (lH (lR r (λa s2 h2=>lq (mT ?_)) λ_ _ z=>z));obtain⟨apos,U⟩:=a;obtain⟨S,vs,H2,f,r2,z2,F',sb,ch⟩:=h2;obtain rfl:U=[]:=S;simp only[P];have G:=f.bk _ _ hC;have hl:apos.length<=Z8:=by have:=r2.length;rw[<-this];exact z2
 obtain⟨h0,g,d,tk,os⟩:=s2;refine lq (wpAny_keeperOf_exc G ?_);refine lq (wpAny_call_exc_subT (hrest:=hl) cZ (T.keeps f.bk) G (hN.keeps f.bk) R λh' e mk=>lq (lH (wpAny_point (ly ?_))));have I3:Inv X Z9 σ H2 ⟨h',g,d,tk,os⟩:=f.kept (t':=tk) mk.keeps;obtain⟨t,ht,_⟩:=mk.there;have n:∀b o,h0.get? b=lm o->b≠e:=λb o z y=>by rw[y,mk.new]at z;cases z
 have W:H2 e=none:=by
  cases y:H2 e with
  |none=>rfl
  |some u=>obtain⟨o,z⟩:=qam f.hok y;exact absurd rfl (n e o z)
 have n0:X.s₀.heap.get? e=none:=by
  cases y:X.s₀.heap.get? e with
  |none=>rfl
  |some o=>obtain⟨o',z⟩:=f.base.there e o y (by rw[hx0];simp);exact absurd rfl (n e o' z)
 have Z:e≠X.env.locals/\e∉X.fs:=by have y:∀b∈frs X.stack,e≠b:=λb hb z=>let ⟨o,l,_⟩:=wo f hb;n b o l z.symm;rw[hstk]at y;unfold frs at y;rw[br,hfr]at y;exact⟨y _ (aj ..),λz=>y e (ae _ z) rfl⟩
 have I4:Inv (qct X (.ref ex)) (Z9++[(e,_)]) σ H2 ⟨h',g,d,tk,os⟩:=(Vw I3).pins_of λp h=>by
  rcases aI.mp h with z|z;·exact I3.pin p (aH _ z)
  .obtain rfl:=ay.mp z;exact⟨ht,W,Z.1,Z.2,λv y=>by cases y⟩
 refine lq (lR (wG (X:=qct X (.ref ex)) hj (.inl hx) hde hdc _ _ _ _ (λv H=>v=V.ref ex/\H=H2) I4 ⟨_,O,rfl,rfl⟩) (λu s4 ⟨v,Y,I5,r5,e1,e2⟩=>lq (mT (ly ?_))) λ_ _ z=>z.elim);subst e1 e2;obtain rfl:u=.ref ex:=r5;have k:=Ul I.ok I5;have L:=(k.pin (e,_) (aH _ (aH _ (ay.mpr rfl)))).1;have px:=(k.pin (ex,oe) (aH _ (bu _ hp))).1;obtain⟨c0,od,dt,sl⟩:=oe;obtain rfl:c0=_:=c1;obtain rfl:dt=_:=c2;have ne:e≠ex:=λz=>n ex _ (f.pin _ (aH _ hp)).1 z.symm;refine⟨e,_,_,_,Cn,rfl,rfl,ne,qi3 (X:=X) (x:=x) k.kIn q,L,⟨Cc,od,ws,sl,qi3 (X:=X) (x:=x) k.kIn q2,px,c3⟩,λh'' kk tn=>?_⟩;have I0:Inv X Z9 σ Y s4:=k.pins_of λp h=>k.pin p (aH _ (bu _ h));have fe:Fre X Z9 Y s4 e:=⟨⟨_,_,L,rfl⟩,W,n0,λp h=>n p.1 _ (f.pin p h).1⟩
 have nf:∀b∈frs X.stack,b≠e:=λb hb z=>by obtain⟨o,l,y⟩:=wo I0 hb;rw[z,L]at l;cases l;exact y _ rfl
 obtain⟨o8,v8,k1,k2,k3,k4⟩:=id tn;exact hE _ Y e F' (YF I0 hstk hfr fe fe (λb o z y _ _=>(kk b y).trans z) λb o z y=>⟨o.slots,(kk b (nf b y)).trans z⟩) sb ch ⟨⟨o8,v8,k1,k3⟩,W,n0,fe.pp⟩ tn
def Up(X:Cx)(Z9:Pns)(H:Hp)(s:lx)(e:Z7)(cls c:lu):Prop:=(∃σ,Inv X Z9 σ H s)/\Fre X Z9 H s e/\∃T fl,Tr s.heap e T cls fl c/\Fre X Z9 H s T
section
variable{Z9:Pns}{H:Hp}{s:lx}{cls c:lu}{Q:Unit->lx->Prop}(hx0:X.ex=[])(hstk:X.stack=X.env::X.outer)(hfr:X.env.frame=lm X.env.locals)
include hx0 hstk hfr
theorem qgt(hA:A.frames=lm X.stack)(u:Up X Z9 H s e cls c)(k:∀s',Up X Z9 H s' e cls c->Q () s'):lA 'c' A (nC (.ref e) X.env) Q E s:=by obtain⟨⟨σ,I⟩,fe,T,fl,t,fT⟩:=u;exact qfL I hstk hfr hx0 hA fe fT (.inr t) λs' y i p q t'=>k s' ⟨⟨σ,i⟩,p,y,_,t',q⟩
theorem qi4{fo:Option Z7}(u:Up X Z9 H s e cls c)(k:∀s',Up X Z9 H s' e cls c->Q () s'):lA 'c' A (nD (.ref e) fo) Q E s:=by obtain⟨⟨σ,I⟩,fe,T,fl,t,fT⟩:=u;exact fl1 I hstk hfr hx0 fe fT t λs' i p q t'=>k s' ⟨⟨σ,i⟩,p,T,_,t',q⟩
theorem qgu{E:lu->lx->Prop}(u:Up X Z9 H s e cls c)(k:∀s',Up X Z9 H s' e cls c->E (.ref e) s'):cameBackBy 'c' A X.env E (.ref e) s:=by obtain⟨_,_,T,fl,⟨oe,vs,o,ts,g1,W,U,K,_⟩,_⟩:=id u;unfold cameBackBy;refine lq (lU g1 U K ?_);rw[Ab 'f'];exact qi4 hx0 hstk hfr u k
theorem qgv{R:String}{Q:Flow->lx->Prop}(u:Up X Z9 H s e cls c)(k:∀s',Up X Z9 H s' e cls c->E (.ref e) s'):lA 'c' A (PySem.passOn R (.ref e) X.env) Q E s:=by obtain⟨_,_,T,fl,⟨oe,vs,o,ts,g1,W,g,K,_⟩,_⟩:=id u;unfold PySem.passOn;refine lq (lU g1 g K ?_);rw[Ab 'f'];exact lq (qi4 hx0 hstk hfr u λs' U=>nS (k s' U))
theorem qgw{g:Str->Option lu}(u:Up X Z9 H s e cls c)(h:h'.Ns X.env.locals g)(f:bh X.env.locals s.heap h'):Up X Z9 H { s with heap:=h',toks:=t } e cls c:=by obtain⟨⟨σ,I⟩,fe,T,fl,⟨oe,vs,a,ts,g1,l,U,K,k,j,d,i,p⟩,fT⟩:=u;obtain⟨m,⟨B,es,ep,W,L,_⟩,_⟩:=id I.loc;have ne:∀b o ws,s.heap.get? b=lm o->o.data=.fields ws->h'.get? b=lm o:=λb o ws z y=>(f.2 b (by rintro rfl;rw[W]at z;cases z;rw[L]at y;cases y)).trans z;exact⟨⟨_,Ja I hstk hfr h f⟩,⟨⟨oe,vs,ne e oe vs g1 U,U⟩,fe.hb,fe.n,fe.pp⟩,T,fl,⟨oe,vs,a,ts,ne e oe vs g1 U,l,U,K,k,ne T a ts j d,d,i,p⟩,⟨a,ts,ne T a ts j d,d⟩,fT.hb,fT.n,fT.pp⟩
end
theorem qdF{cn en:Str}{np T S cpos s x pos:Pos}{body:List Z3}{arg:Z4}{cls:lu}{n j:Nat}{hit:Str->Option Z7}{dm:D}{Cn:Z7}(hx0:X.ex=[])(hstk:X.stack=X.env::X.outer)(hfr:X.env.frame=lm X.env.locals)(ht:Vv X C)(hg:Gl X cn)(hm:X.mg cn=lm cls)(hg2:Gl X "NoText")(k:X.mg "NoText"=lm (.ref Cn))(hcv:C.cv "NoText"=.ref Cn)(q:cg X.K Cn bmV "ValueError.__new__"=lv)(t:∀c Cc,hit c=lm Cc->(C.cv c=.ref Cc/\dH X.K (.ref Cc) cls=lm lv)/\cg X.K Cc bmV "ValueError.__new__"=lv/\Cc≠Cn)(hN:X.N.Nodup)(hj:X.N[j]?=lm en)(hx:X.env.scope.names.lookup en=lm .local)(hn:X.N.length=n)(hb:∀pn xe E,jJ (CXk X.prog X.w X.mg) (gf X pn xe) E->PSs (gf X pn xe) body (tSt (qix C own E) own own' fb))(ha:∀e,PA (qct X e) [arg] (tAr (exC C) [] [.vl] (qb (dC dm) qA)))(g:∀i∈C.io,i∈own:=by exact jK rfl)(hd:Dbg cn:=by decide)(hde:Dbg en:=by decide)(hdc:Cdk en:=by decide)(he:lz [arg] X.env=(lw,Z0 arg X.env)::lz [] X.env:=by exact qV rfl) :
  PS X (.Try body [.ExceptHandler (lm (.Name cn np)) (lm en) [.Raise (lm (.Call (.Name "NoText" T) [arg] [] cpos)) (lm (.Name en S)) s] x] [] [] pos) (tSt C own own' (Wc hit "NoText" fb)):=by
 refine qaq hx0 hstk hfr hg hm (λc Cc e=>(t c Cc e).1) (λρ r e n=>by unfold Wc;rw[e];cases r with|exc c ρe=>exact absurd rfl (n c ρe)|_=>rfl) (λρ c ρe e q=>by unfold Wc;simp only[e,q]) hb g hd λ{Z9 σ σ1 F H F1 H1 ρ ρe D s2 ex T2 Cc c} h hr qh O U ch1 l I2 c2=>?_;obtain⟨_,hc3,hc4⟩:=t c Cc qh;unfold Wc at h;simp only[hr,qh]at h;refine codeAny_handlers_suite_as (ge I2 hstk hfr hx0 c2 λs3 T3 I c3=>?_);obtain⟨cc,⟨oe,vs,oT,ts,g1,g2,g3,g4,g5,g6,g7,g8,g9⟩,ok⟩:=c3.fly;obtain rfl:cc=.none:=ok.resolve_right λz=>hc4 (by rw[k]at z;cases z;rfl);have nL:ex≠X.env.locals/\ex∉X.fs:=by
  have y:∀b∈frs X.stack,ex≠b:=λb hb z=>by obtain⟨o,B,y⟩:=wo I hb;rw[<-z,g1]at B;cases B;exact y _ g3
  rw[hstk]at y;unfold frs at y;rw[br,hfr]at y;exact⟨y _ (aj ..),λz=>y ex (ae _ z) rfl⟩
 have I4:Inv X (Z9++[(ex,oe)]) σ1 H1 s3:=I.pins_of λp W=>by
  rcases aI.mp W with z|z;·exact I.pin p (aH _ z)
  .obtain rfl:=ay.mp z;exact⟨g1,c3.fe.hb,nL.1,nL.2,λv y=>by rw[g3]at y;cases y⟩
 refine zx I4 hN hj (.inl hx) (v:=.ref ex) rfl (λs5 I5=>?_) (.inr hx);have hjn:j < σ1.length:=by rw[I.len];exact(aE.mp hj).1
 have R:Rep C.K [] F1 H1 (σ1.set j (lm (V.ref ex))) (bQ σ1.length lr):=⟨O,by simp,λi d hi e=>by(rw[bN]at e;split at e <;> cases e),λi d hi=>by simp at hi,λi hi=>by simp at hi,λi j a hi=>by simp at hi⟩
 refine wpAny_execs_cons (qdE hx0 hstk hfr hg2 k q hc3 hj hx ha I5 R (aL hjn) (aH _ (ay.mpr rfl)) g2 g3 g9 (λs6 H6 e F6 I6 M f fe tn=>?_) (hde:=hde) (hdc:=hdc) (he:=he));have hA:(X.A.mark (lm (.ref ex))).frames=lm X.stack:=l.frames;refine qfL I6 hstk hfr hx0 hA fe fe (fl:=.none) (.inl tn) λs7 T7 I7 f7 fT7 t7=>?_;have u7:Up X (Z9++[(ex,oe)]) H6 s7 e (.ref Cn) (.ref ex):=⟨⟨_,I7⟩,f7,T7,_,t7,fT7⟩
 obtain⟨m,Y,_⟩:=id I7.loc;refine wpAny_nameGoes hx Y (by rw[l.kind];rfl) λh' m' Z P=>?_;refine qgv hx0 hstk hfr (qgw hx0 hstk hfr u7 Z P) λs8 u8=>?_;refine qgt hx0 hstk hfr hA u8 λs9 u9=>qgu hx0 hstk hfr u9 λQ L=>?_;obtain⟨⟨J,I9⟩,f9,T9,fl9,t9,G⟩:=L;refine ht _ J H6 Q e Cn I9 ⟨f9.hb,f9.n,_,.inr k,.inr ⟨T9,fl9,t9,G.hb,G.n⟩⟩ ?_;rw[<-hcv];refine h F6 H6 M (λi hi=>?_) (ch1.trans f λ_ z=>z.elim);obtain⟨d',a,e1,e2,e3,e4⟩:=U i (g i (C.oxs i hi));refine⟨d',a,e1,e2,?_,e4.grow f.grow λo q=>f.keep a o q λz=>z⟩;cases q:F6 a with
 |none=>rfl
 |some u=>
  rcases f.new a (by rw[q];simp)with z|z|z;·exact absurd e3 z
  .exact absurd z e4.there
  .exact z.elim
end
end L2.D2
set_option maxHeartbeats 4000000
namespace Kx
open PySem PySem.Spec PyProof.Rows L2 L2.D2
noncomputable def top(i:Nat):Z3:=PySem.Challenge.pw_lookwords_k29_lists_texts_refused.main.body.getD i (.Pass ⟨0,0,0,0⟩)
noncomputable def CS:List Str:=["NoWords","NoLook","NoNumbers","NoRoom","NoWord","NoWorths","Never","Full","Known","NoPlace","NoLetters","NoText","Nothing"]
noncomputable def FS:List Str:=[]
structure Zt(K:Y9)(mg:Str->Option lu)(cv:Str->lu)(ca:Str->Z7):Prop where
 xs:Xs K cv ca CS "WordError"
 mref:∀c∈CS,mg c=lm (.ref (ca c))
 xin:∀c∈CS,cg K (ca c) bmV "ValueError.__new__"=lv
 fref:∀x∈FS,mg x=lm (.ref (ca x))
 m_WordError:mg "WordError"=lm (cv "WordError")
 z_ValueError:mg "ValueError"=lr
 z_all:mg "all"=lr
 z_bool:mg "bool"=lr
 z_dict:mg "dict"=lr
 z_enumerate:mg "enumerate"=lr
 z_int:mg "int"=lr
 z_isinstance:mg "isinstance"=lr
 z_len:mg "len"=lr
 z_list:mg "list"=lr
 z_max:mg "max"=lr
 z_min:mg "min"=lr
 z_range:mg "range"=lr
 z_set:mg "set"=lr
 z_sorted:mg "sorted"=lr
 z_str:mg "str"=lr
 z_sum:mg "sum"=lr
 z_tuple:mg "tuple"=lr
 c_LEAST_PLACE:∃t,mg "LEAST_PLACE"=lm (.int (-3) t)
 c_MOST_LETTERS:∃t,mg "MOST_LETTERS"=lm (.int 6 t)
 c_MOST_PLACE:∃t,mg "MOST_PLACE"=lm (.int 2 t)
 c_MOST_ROOM:∃t,mg "MOST_ROOM"=lm (.int 99 t)
 c_MOST_WORDS:∃t,mg "MOST_WORDS"=lm (.int 6 t)
 m_Words:mg "Words"=lm (.ref 'm')
 b_cls:Cls K 'm'
 b_no:∀f∈(["look","came","width","held"]:List Str),NoAttr K 'm' f
 inj:∀x∈CS,∀y∈CS,ca x=ca y->x=y
theorem Kf:lB "ValueError"=lm (.type "ValueError"):=by decide +kernel
theorem gG:lB "all"=lm (.builtin "all"):=by decide +kernel
theorem qgx:lB "bool"=lm (.type "bool"):=by decide +kernel
theorem UJ:lB "dict"=lm (.type "dict"):=by decide +kernel
theorem qbj:lB "int"=lm (.type "int"):=by decide +kernel
theorem qu:lB "isinstance"=lm (.builtin "isinstance"):=by decide +kernel
theorem jm:lB "len"=lm (.builtin "len"):=by decide +kernel
theorem Kg:lB "list"=lm (.type "list"):=by decide +kernel
theorem qi5:lB "max"=lm (.builtin "max"):=by decide +kernel
theorem qi6:lB "min"=lm (.builtin "min"):=by decide +kernel
theorem qdG:lB "range"=lm (.type "range"):=by decide +kernel
theorem Xn:lB "set"=lm (.type "set"):=by decide +kernel
theorem yR:lB "sorted"=lm (.builtin "sorted"):=by decide +kernel
theorem Jh:lB "str"=lm (.type "str"):=by decide +kernel
theorem qbk:lB "sum"=lm (.builtin "sum"):=by decide +kernel
theorem vB:lB "tuple"=lm (.type "tuple"):=by decide +kernel
variable{ca:Str->Z7}
theorem rz{X:Cx}{C:Ct}{own own':List Nat}{as:List AK}{e:Z4}{es:List Z4}{fr:vV}{np cpos pos:Pos}(Z:Zt X.K X.mg C.cv ca)(c:Str)(f:PA X (e::es) (tAr C own as fr))(h:c∈CS:=by decide +kernel)(hx0:X.ex=[]:=by rfl)(ht:Vv X C:=by exact qel rfl)(P:X.calm=true:=by rfl)(hg:Gl X c:=by rfl)(hsz:as.length<=1000:=by decide)(o:∀i∈C.ox,i∈own:=by exact jK rfl)(hd:Dbg c:=by decide)(he:lz (e::es) X.env='j'::lz es X.env:=by exact qV rfl)(l:(lM cpos (lz es X.env)).any (·.1)=false:=by rfl):PS X (.Raise (lm (.Call (.Name c np) (e::es) [] cpos)) lr pos) (tSt C own own' (qU c fr)):=
 qan hx0 ht P hg (Z.mref c h) (Z.xs.val c h) (Z.xin c h) f hsz o hd he l
instance{α:Type}:Inhabited (Out α):=⟨.bad⟩
structure Ev where
 P:lC
 w:lD
 K:Y9
 mg:Str->Option lu
 base:Z5
 cv:Str->lu
abbrev qD(e0:Ev):=qas e0.P e0.w e0.K e0.mg e0.base e0.cv
abbrev qlc(e0:Ev):=qkL e0.P e0.w e0.K e0.mg e0.base e0.cv
abbrev qgy(e0:Ev):=qaZ e0.P e0.w e0.K e0.mg e0.base e0.cv
abbrev UK(e0:Ev):=YZ e0.P e0.w e0.K e0.mg e0.base e0.cv
abbrev kT(e0:Ev):=qiz e0.K e0.mg
abbrev ZtE(e0:Ev)(ca:Str->Z7):=Zt e0.K e0.mg e0.cv ca
section
variable{e0:Ev}
abbrev Ji:Z3:=top 63
abbrev ZP:List Str:=["_law_script","_law_k"]
def uC:qM:=(qH (sIf (qK (d2 ltD (qc 1) (d1 kO (qc 0)))) (jl (d2 ixD (qc 0) (qc 1))) jd)
  (qH (sIf (qK (d2 eqD (qc 0) (xq qA))) (jl 'n') jd)
  (jl (d2 ko (d2 qhw (d2 ixD (qc 0) (d2 qcs (qc 1) (d1 kO (qc 0)))) (dC (.int 31))) (qc 1)))))
abbrev xB:jy:=jI ZP [.val,.val] (uC)
abbrev gH(e0:Ev):=qD e0 1 "_law_cell_at" ["_law_script","_law_k"] [.val,.val] .sh (xB)
theorem UL(Z:ZtE e0 ca)(T:kT e0 "_law_cell_at" Ji ["_law_script","_law_k"]):gH e0:=
 dW [] T λc=>(qe (qR (qG GQ vr 'g') (qf (qg (ix vr vr))) qC)
  (qe (qR (qG (wP rfl c.units) vr (jL qd)) (qf (qg qp)) qC)
  (qf (qg (jx (jG rfl) (jx GP (ix vr (jx QS vr 'g')) qp) vr)))))
abbrev Xo:Z3:=top 64
abbrev qdH:List Str:=["_law_script","_law_k","_law_many","_law_drawn"]
def Xp:qM:=(qH (jz 3 (d2 qcs (d2 ko (d2 ko (d2 qhw (qt [.vl,.vl] xB (qb (qc 0) (qb (qc 1) qA))) (dC (.int 1103515245))) (d2 qhw (dC (.int 7919)) (qc 1))) (dC (.int 12345))) (dC (.int 2147483647))))
  (jl (d2 qcs (d2 qcs (d2 qcs (d2 qk5 (qc 3) (dC (.int 5))) (dC (.int 2147483647))) (dC (.int 999983))) (qc 2))))
abbrev Kh:jy:=jI qdH [.val,.val,.val] (Xp)
abbrev We(e0:Ev):=qD e0 2 "_law_mixed" ["_law_script","_law_k","_law_many"] [.val,.val,.val] .sh (Kh)
theorem qbl(Z:ZtE e0 ca)(T:kT e0 "_law_mixed" Xo ["_law_script","_law_k","_law_many"])(O:gH e0):We e0:=
 dW [] T λc=>(qe (se (jx QS (jx (jG rfl) (jx (jG rfl) (jx GP (cN O (qa vr (qa vr qd))) qp) (jx GP qp vr)) qp) qp))
  (qf (qg (jx QS (jx QS (jx QS (jx qiS vr qp) qp) qp) vr))))
abbrev qbm:Z3:=top 65
abbrev qgz:List Str:=["_law_script","_law_town","_law_many"]
def qbn:qM:=(qH (kG (Qu 1 YG 'n'))
  (jl (qt [.vl,.vl,.vl] Kh (qb (qc 0) (qb (d1 kO (qc 1)) (qb (qc 2) qA))))))
abbrev vg:jy:=jI qgz [.val,.io,.val] (qbn)
abbrev uD(e0:Ev):=qD e0 3 "_law_draw" ["_law_script","_law_town","_law_many"] [.val,.io,.val] .sh (vg)
theorem qdI(Z:ZtE e0 ca)(T:kT e0 "_law_draw" qbm ["_law_script","_law_town","_law_many"])(O:We e0):uD e0:=
 dW [1] T λc=>(qe (ji (yF (i:=1) rfl rfl (ci rfl) 'e' qp))
  (qf (qg (cN O (qa vr (qa (qx (jr rfl) rfl Z.z_len jm vO) (qa vr qd)))))))
abbrev qbo:Z3:=top 66
abbrev qgA:List Str:=["_law_script","_law_town","_law_some"]
def qbp:qM:=(jl (d2 ixD (qc 2) (qt [.vl,.sl 1,.vl] vg (qb (qc 0) (kx (qb (d1 kO (qc 2)) qA))))))
abbrev uc:jy:=jI qgA [.val,.io,.val] (qbp)
abbrev zI(e0:Ev):=qD e0 4 "_law_pick" ["_law_script","_law_town","_law_some"] [.val,.io,.val] .sh (uc)
theorem qdJ(Z:ZtE e0 ca)(T:kT e0 "_law_pick" qbo ["_law_script","_law_town","_law_some"])(o:uD e0):zI e0:=
 dW [1] T λc=>(qf (qg (ix vr (cN o (qa vr (sl (qa 'g' qd)))))))
abbrev qbq:Z3:=top 67
abbrev qgB:List Str:=["_law_script","_law_town","_law_letters_here","_law_most"]
def qbr:qM:=(jl (d1 (QF "") (qP [1] 1 [0,1,2] (kg (d2 ko 'i' (qt [.vl,.sl 1,.vl] vg (qb (qc 0) (kx (qb (qc 3) qA)))))) (gNm 0) ftT (qt [.vl,.sl 2,.vl] uc (qb (qc 1) (kx (qb (qc 3) qA)))))))
abbrev Ki:jy:=jI qgB [.val,.io,.val,.val] (qbr)
abbrev Xq(e0:Ev):=qD e0 5 "_law_word" ["_law_script","_law_town","_law_letters_here","_law_most"] [.val,.io,.val,.val] .sh (Ki)
theorem qdK(Z:ZtE e0 ca)(T:kT e0 "_law_word" qbq ["_law_script","_law_town","_law_letters_here","_law_most"])(U:uD e0)(o:zI e0):Xq e0:=
 dW [1] T λc=>(qf (qg (Uz rfl (cmp (vW rfl Z.z_range (jx (jG rfl) qp (cN U (qa vr (JN (i:=1) rfl (iw (ci rfl)) 'e' (qa vr qd)))))) (λ_ _ _ _=>(ja o c 'e' yg rfl (qa vr (JN (i:=2) rfl (by first|exact iw (iw rfl)|exact iw (ci rfl)) 'e' (qa vr qd)))))))))
abbrev Xr:Z3:=top 68
abbrev qdL:List Str:=["_law_script","_law_town","_law_most","_law_letters_here","_law_made","_law_k","_law_word_here"]
def Xu:qM:=(qH (jz 3 (qt [.vl,.sl 1,.vl] uc (qb (qc 0) (kx (qb (xq (qb (xq (qb (dC (.str "a")) (qb (dC (.str "b")) qA))) (qb (xq (qb (dC (.str "a")) (qb (dC (.str "b")) (qb (dC (.str "c")) qA)))) (qb (xq (qb (dC (.str "a")) (qb (dC (.str "b")) (qb (dC (.str "c")) (qb (dC (.str "d")) qA))))) (qb (xq (qb (dC (.str "k")) (qb (dC (.str "m")) (qb (dC (.str "z")) (qb (dC (.str "a")) (qb (dC (.str "e")) qA)))))) qA))))) qA)))))
  (qH (jz 4 (xq qA))
  (qH (QX (kg (d2 ko 'i' (qt [.vl,.sl 1,.vl] vg (qb (qc 0) (kx (qb (qc 2) qA)))))) (gNm 5)
  (qH (jz 6 (qt [.vl,.sl 1,.vl,.vl] Ki (qb (qc 0) (kx (qb (qc 3) (qb (dC (.int 6)) qA))))))
  (sIf (qK (d2 Jc (qc 6) (qc 4))) (kG (Qu 4 YG (qc 6))) jd)))
  (jl (d1 wJ (qc 4))))))
abbrev Kj:jy:=jI qdL [.val,.io,.val] (Xu)
abbrev Wf(e0:Ev):=qD e0 6 "_law_words" ["_law_script","_law_town","_law_most"] [.val,.io,.val] .sh (Kj)
theorem qbs(Z:ZtE e0 ca)(T:kT e0 "_law_words" Xr ["_law_script","_law_town","_law_most"])(U:uD e0)(o:zI e0)(O:Xq e0):Wf e0:=
 dW [1] T λc=>(qe (se (cN o (qa vr (sl (qa (jL (qa (jL (qa qv (qa qv qd))) (qa (jL (qa qv (qa qv (qa qv qd)))) (qa (jL (qa qv (qa qv (qa qv (qa qv qd))))) (qa (jL (qa qv (qa qv (qa qv (qa qv (qa qv qd)))))) qd))))) qd)))))
  (qe (sO (jL qd))
  (qe (kI bf rfl (vW rfl Z.z_range (jx (jG rfl) qp (cN U (qa vr (sl (qa vr qd)))))) gn
  (qe (se (cN O (qa vr (sl (qa vr (qa qp qd))))))
  (qf (qR (qG (wX rfl c.units) vr vO) (qf (ji (yF (i:=4) rfl rfl (ci rfl) 'e' vr))) qC))))
  (qf (qg (jh (zG rfl) rfl Z.z_tuple vB vO))))))
abbrev qbt:Z3:=top 69
abbrev qgC:List Str:=["_law_script","_law_town"]
def qbu:qM:=(jl (zD (qb (d2 qeg (qt [.vl,.sl 1,.vl] vg (qb (qc 0) (kx (qb (dC (.int 6)) qA)))) (dC (.int 3))) (qb (d2 qeg (qt [.vl,.sl 1,.vl] vg (qb (qc 0) (kx (qb (dC (.int 6)) qA)))) (dC (.int 3))) qA))))
abbrev Kk:jy:=jI qgC [.val,.io] (qbu)
abbrev Xv(e0:Ev):=qD e0 4 "_law_look" ["_law_script","_law_town"] [.val,.io] .sh (Kk)
theorem qdM(Z:ZtE e0 ca)(T:kT e0 "_law_look" qbt ["_law_script","_law_town"])(o:uD e0):Xv e0:=
 dW [1] T λc=>(qf (qg (kN (qa (jx QR (cN o (qa vr (sl (qa qp qd)))) qp) (qa (jx QR (cN o (qa vr (sl (qa qp qd)))) qp) qd)))))
abbrev wu:Z3:=JK (top 55) 1
abbrev yS:List Str:=["self"]
theorem QG:FnScope yS ["self"] (qB wu):=fsc
def wv(ca:Str->Z7):qM:=(jl (d1 (KZ 'm' "came") (qc 0)))
abbrev ww(ca:Str->Z7):jy:=jI yS [.io] (wv ca)
abbrev uS(ca:Str->Z7)(e0:Ev):=UK e0 1 'm' "words" ["self"] [.io] .sh (ww ca)
theorem QH(Z:ZtE e0 ca)(T:qa0 e0.K 'm' "words" "Words.words" wu ["self"]):uS ca e0:=
 UD (k:=0) (own':=[0]) (fb:=wv ca) T QG λcdv f A outer s H E c=>(qf (qg (yM rfl Z.b_cls (Z.b_no "came" 'a') vO)))
abbrev gI:Z3:=top 58
abbrev UM:List Str:=["some","first","second"]
def gJ(ca:Str->Z7):qM:=(qH (jz 1 (d2 ixD (d1 (KZ 'm' "look") (qc 0)) 'n'))
  (qH (jz 2 (d2 ixD (d1 (KZ 'm' "look") (qc 0)) 'i'))
  (jl (d1 (QF " ") (d2 ko (xq (qb (dM (k4 " ") (Wb " " ":") (qc 1) (qc 2)) qA)) (d1 Um (kP 'm' 0 "words" [] (ww ca) qA)))))))
abbrev yk(ca:Str->Z7):jy:=jI UM [.tk] (gJ ca)
abbrev xO(ca:Str->Z7)(e0:Ev):=qD e0 2 "list_text" ["some"] [.tk] .sh (yk ca)
theorem Wg(Z:ZtE e0 ca)(T:kT e0 "list_text" gI ["some"])(O:uS ca e0):xO ca e0:=
 dW [] T λc=>(qe (se (ix (yM rfl Z.b_cls (Z.b_no "look" 'a') vO) qp))
  (qe (se (ix (yM rfl Z.b_cls (Z.b_no "look" 'a') vO) qp))
  (qf (qg (Uz rfl (jx (jG rfl) (jL (qa (qdD vr vr) qd)) (jh (Uo rfl) rfl Z.z_list Kg (qa8 (i:=0) Z.b_cls O c 'e' Zr rfl (ci rfl) 'e'))))))))
abbrev xP:Z3:=top 34
abbrev Wh:List Str:=["thing"]
def ud:qM:=(sIf (uN (wS (d1 (xL "str") (qc 0)))) (qU "NoText" (qb (dC (.str "this is no text")) qA)) jd)
abbrev vC:jy:=jI Wh [.val] (ud)
abbrev yT(e0:Ev):=qD e0 1 "check_text" ["thing"] [.val] .sh (vC)
theorem Kl(Z:ZtE e0 ca)(T:kT e0 "check_text" xP ["thing"]):yT e0:=
 dW [] T λc=>(qf (qR (qZ (tv (yG rfl rfl Z.z_isinstance qu rfl Z.z_str Jh vr))) (qf (rz Z "NoText" (qa qv qd))) qC))
abbrev gK:Z3:=top 23
abbrev UN:List Str:=["thing"]
def yl:qM:=(jl (Qx (d1 (xL "str") (qc 0)) (Qx (d2 eqD (d1 kO (qc 0)) 'i') (wU leD leD (dC (.str "a")) (qc 0) (dC (.str "z"))))))
abbrev vh:jy:=jI UN [.val] (yl)
abbrev ue(e0:Ev):=qD e0 1 "is_letter" ["thing"] [.val] .sh (vh)
theorem Wi(Z:ZtE e0 ca)(T:kT e0 "is_letter" gK ["thing"]):ue e0:=
 dW [] T λc=>(qf (qg (QV (yG rfl rfl Z.z_isinstance qu rfl Z.z_str Jh vr) (QV (wH (wP rfl c.units) 'g' qp) (QU (Yu zY zY qv vr qv))))))
abbrev Wj:Z3:=top 24
abbrev qbv:List Str:=["thing"]
def yU:qM:=(qH (sIf (dOr (uN (wS (d1 (xL "str") (qc 0)))) (uN (qK (wU leD leD 'i' (d1 kO (qc 0)) (dC (.int 6)))))) (jl (dC (.bl lw))) jd)
  (jl (d1 YJ (qP [] 1 [] (jv (qc 0)) (gNm 0) ftT (qt [.vl] vh (qb (qc 0) qA))))))
abbrev vi:jy:=jI qbv [.val] (yU)
abbrev xC(e0:Ev):=qD e0 2 "is_word" ["thing"] [.val] .sh (vi)
theorem ZQ(Z:ZtE e0 ca)(T:kT e0 "is_word" Wj ["thing"])(o:ue e0):xC e0:=
 dW [] T λc=>(qe (qR (PW.pt (wT (qZ (tv (yG rfl rfl Z.z_isinstance qu rfl Z.z_str Jh vr))) (kF (qZ (zX zY zY qp 'g' (kq Z.c_MOST_LETTERS rfl)))))) (qf (qg uK)) qC)
  (qf (qg (qx (gi rfl rfl) rfl Z.z_all gG (cmp (qL rfl vr) (λ_ _ _ _=>(ja o c 'e' yg rfl (qa vr qd))))))))
abbrev Jj:Z3:=top 25
abbrev ZR:List Str:=["thing"]
def Jk:qM:=(qH (sIf (dOr (uN (wS (d1 (xL "tuple") (qc 0)))) (uN (qK (wU leD leD 'i' (d1 kO (qc 0)) (dC (.int 6)))))) (jl (dC (.bl lw))) jd)
  (jl (Qx (d1 YJ (qP [] 1 [] (jv (qc 0)) (gNm 0) ftT (qt [.vl] vi (qb (qc 0) qA)))) (d2 eqD (d1 gB (qc 0)) (d1 kO (qc 0))))))
abbrev xD:jy:=jI ZR [.val] (Jk)
abbrev gL(e0:Ev):=qD e0 3 "is_words" ["thing"] [.val] .sh (xD)
theorem UO(Z:ZtE e0 ca)(T:kT e0 "is_words" Jj ["thing"])(O:xC e0):gL e0:=
 dW [] T λc=>(qe (qR (PW.pt (wT (qZ (tv (yG rfl rfl Z.z_isinstance qu rfl Z.z_tuple vB vr))) (kF (qZ (zX zY zY qp 'g' (kq Z.c_MOST_WORDS rfl)))))) (qf (qg uK)) qC)
  (qf (qg (QV (qx (gi rfl rfl) rfl Z.z_all gG (cmp (qL rfl vr) (λ_ _ _ _=>(ja O c 'e' yg rfl (qa vr qd))))) (QU (wH (wP rfl c.units) (qaO rfl rfl rfl Z.z_len jm rfl Z.z_set Xn vr) 'g'))))))
abbrev yV:Z3:=top 29
abbrev Km:List Str:=["thing"]
def yW:qM:=(sIf (uN (wS (qt [.vl] xD (qb (qc 0) qA)))) (qU "NoWords" (qb (dC (.str "words are a tuple of 1 to 6 unlike words of 1 to 6 letters from a to z")) qA)) jd)
abbrev wx:jy:=jI Km [.val] (yW)
abbrev uT(e0:Ev):=qD e0 4 "check_words" ["thing"] [.val] .sh (wx)
theorem QI(Z:ZtE e0 ca)(T:kT e0 "check_words" yV ["thing"])(O:gL e0):uT e0:=
 dW [] T λc=>(qf (qR (qZ (tv (cN O (qa vr qd)))) (qf (rz Z "NoWords" (qa qv qd))) qC))
abbrev xQ:Z3:=top 22
abbrev Wk:List Str:=["thing","least","most"]
def xR:qM:=(qH (sIf (dOr (uN (wS (d1 (xL "int") (qc 0)))) (wS (d1 (xL "bool") (qc 0)))) (jl (dC (.bl lw))) jd)
  (jl (wU leD leD (qc 1) (qc 0) (qc 2))))
abbrev jR:jy:=jI Wk [.val,.val,.val] (xR)
abbrev kU(e0:Ev):=qD e0 1 "is_between" ["thing","least","most"] [.val,.val,.val] .sh (jR)
theorem Kn(Z:ZtE e0 ca)(T:kT e0 "is_between" xQ ["thing","least","most"]):kU e0:=
 dW [] T λc=>(qe (qR (PW.pt (wT (qZ (tv (yG rfl rfl Z.z_isinstance qu rfl Z.z_int qbj vr))) (kF (tv (yG rfl rfl Z.z_isinstance qu rfl Z.z_bool qgx vr))))) (qf (qg uK)) qC)
  (qf (qg (Yu zY zY vr vr vr))))
abbrev Wl:Z3:=top 26
abbrev qbw:List Str:=["thing"]
def Wm:qM:=(qH (sIf (dOr (uN (wS (d1 (xL "tuple") (qc 0)))) (qK (d2 neD (d1 kO (qc 0)) (dC (.int 2))))) (jl (dC (.bl lw))) jd)
  (jl (d1 YJ (qP [] 1 [] (jv (qc 0)) (gNm 0) ftT (qt [.vl,.vl,.vl] jR (qb (qc 0) (qb (dC (.int (-3))) (qb (dC (.int 2)) qA))))))))
abbrev gM:jy:=jI qbw [.val] (Wm)
abbrev Jl(e0:Ev):=qD e0 2 "is_look" ["thing"] [.val] .sh (gM)
theorem ZT(Z:ZtE e0 ca)(T:kT e0 "is_look" Wl ["thing"])(o:kU e0):Jl e0:=
 dW [] T λc=>(qe (qR (PW.pt (wT (qZ (tv (yG rfl rfl Z.z_isinstance qu rfl Z.z_tuple vB vr))) (kF (qG (Vn rfl c.units) 'g' qp)))) (qf (qg uK)) qC)
  (qf (qg (qx (gi rfl rfl) rfl Z.z_all gG (cmp (qL rfl vr) (λ_ _ _ _=>(ja o c 'e' yg rfl (qa vr (qa (kq Z.c_LEAST_PLACE rfl) (qa (kq Z.c_MOST_PLACE rfl) qd))))))))))
abbrev xS:Z3:=top 31
abbrev Wn:List Str:=["thing"]
def xT:qM:=(sIf (uN (wS (qt [.vl] gM (qb (qc 0) qA)))) (qU "NoLook" (qb (dC (.str "a look is a tuple of two places from -3 to 2")) qA)) jd)
abbrev vD:jy:=jI Wn [.val] (xT)
abbrev wy(e0:Ev):=qD e0 3 "check_look" ["thing"] [.val] .sh (vD)
theorem Ko(Z:ZtE e0 ca)(T:kT e0 "check_look" xS ["thing"])(O:Jl e0):wy e0:=
 dW [] T λc=>(qf (qR (qZ (tv (cN O (qa vr qd)))) (qf (rz Z "NoLook" (qa qv qd))) qC))
abbrev gN:Z3:=top 36
abbrev UP:List Str:=["word","place","at"]
def ym:qM:=(qH (jz 2 (dIf (qK (d2 geD (qc 1) 'n')) (qc 1) (d2 ko (d1 kO (qc 0)) (qc 1))))
  (jl (d2 ixD (qc 0) (d2 qjN 'n' (d2 qjO (qc 2) (d2 qeg (d1 kO (qc 0)) 'i'))))))
abbrev vj:jy:=jI UP [.val,.val] (ym)
abbrev xU(e0:Ev):=qD e0 1 "letter_at" ["word","place"] [.val,.val] .sh (vj)
theorem Wo(Z:ZtE e0 ca)(T:kT e0 "letter_at" gN ["word","place"]):xU e0:=
 dW [] T λc=>(qe (se (GY (qG qfx vr qp) vr (jx (jG rfl) 'g' vr)))
  (qf (qg (ix vr (Vx (qiB rfl) rfl Z.z_max qi5 qp (Vx (qiC rfl) rfl Z.z_min qi6 vr (jx QR 'g' qp)))))))
abbrev qbx:Z3:=top 37
abbrev qgD:List Str:=["words","look"]
def qby:qM:=(qH (kG (qt [.vl] wx (qb (qc 0) qA)))
  (qH (kG (qt [.vl] vD (qb (qc 1) qA)))
  (jl (qP [] 1 [1] (jv (qc 0)) (gNm 0) ftT (zD (qb (qt [.vl,.vl] vj (qb (qc 0) (qb (d2 ixD (qc 1) 'n') qA))) (qb (qt [.vl,.vl] vj (qb (qc 0) (qb (d2 ixD (qc 1) 'i') qA))) qA)))))))
abbrev gO:jy:=jI qgD [.val,.val] (qby)
abbrev Kp(e0:Ev):=qD e0 5 "pairs" ["words","look"] [.val,.val] .sh (gO)
theorem qdN(Z:ZtE e0 ca)(T:kT e0 "pairs" qbx ["words","look"])(l:uT e0)(o:wy e0)(O:xU e0):Kp e0:=
 dW [] T λc=>(qe (ji (cN l (qa vr qd)))
  (qe (ji (cN o (qa vr qd)))
  (qf (qg (cmp (qL rfl vr) (λ_ _ _ _=>(kN (qa (ja O c 'e' yg rfl (qa vr (qa (ix vr qp) qd))) (qa (ja O c 'e' yg rfl (qa vr (qa (ix vr qp) qd))) qd)))))))))
abbrev xV:Z3:=top 32
abbrev Wp:List Str:=["thing"]
def xW:qM:=(sIf (uN (wS (qt [.vl,.vl,.vl] jR (qb (qc 0) (qb 'i' (qb (dC (.int 99)) qA)))))) (qU "NoRoom" (qb (dC (.str "a room is a whole number from 1 to 99")) qA)) jd)
abbrev uf:jy:=jI Wp [.val] (xW)
abbrev yX(e0:Ev):=qD e0 2 "check_room" ["thing"] [.val] .sh (uf)
theorem Kq(Z:ZtE e0 ca)(T:kT e0 "check_room" xV ["thing"])(o:kU e0):yX e0:=
 dW [] T λc=>(qf (qR (qZ (tv (cN o (qa vr (qa qp (qa (kq Z.c_MOST_ROOM rfl) qd)))))) (qf (rz Z "NoRoom" (qa qv qd))) qC))
abbrev Jm:Z3:=top 27
abbrev ZU:List Str:=["thing","room"]
def Jn:qM:=(qH (sIf (dOr (uN (wS (d1 (xL "tuple") (qc 0)))) (qK (d2 neD (d1 kO (qc 0)) (dC (.int 2))))) (jl (dC (.bl lw))) jd)
  (jl (Qx (qt [.vl] vh (qb (d2 ixD (qc 0) 'n') qA)) (qt [.vl,.vl,.vl] jR (qb (d2 ixD (qc 0) 'i') (qb 'n' (qb (d2 qeg (qc 1) 'i') qA)))))))
abbrev uE:jy:=jI ZU [.val,.val] (Jn)
abbrev gP(e0:Ev):=qD e0 2 "is_worth" ["thing","room"] [.val,.val] .sh (uE)
theorem UQ(Z:ZtE e0 ca)(T:kT e0 "is_worth" Jm ["thing","room"])(o:kU e0)(a:ue e0):gP e0:=
 dW [] T λc=>(qe (qR (PW.pt (wT (qZ (tv (yG rfl rfl Z.z_isinstance qu rfl Z.z_tuple vB vr))) (kF (qG (Vn rfl c.units) 'g' qp)))) (qf (qg uK)) qC)
  (qf (qg (QV (cN a (qa (ix vr qp) qd)) (QU (cN o (qa (ix vr qp) (qa qp (qa (jx QR vr qp) qd)))))))))
abbrev gQ:Z3:=top 28
abbrev UR:List Str:=["thing","room","letters"]
def gR:qM:=(qH (sIf (dOr (uN (wS (d1 (xL "tuple") (qc 0)))) (uN (wS (d1 YJ (qP [] 1 [1] (jv (qc 0)) (gNm 0) ftT (qt [.vl,.vl] uE (qb (qc 0) (qb (qc 1) qA)))))))) (jl (dC (.bl lw))) jd)
  (qH (jz 2 (qP [] 1 [] (jv (qc 0)) (gNm 0) ftT (d2 ixD (qc 0) 'n')))
  (jl (d2 eqD (qc 2) (d1 uz (qc 2))))))
abbrev vm:jy:=jI UR [.val,.val] (gR)
abbrev xX(e0:Ev):=qD e0 3 "is_worths" ["thing","room"] [.val,.val] .sh (vm)
theorem Wq(Z:ZtE e0 ca)(T:kT e0 "is_worths" gQ ["thing","room"])(O:gP e0):xX e0:=
 dW [] T λc=>(qe (qR (PW.pt (wT (qZ (tv (yG rfl rfl Z.z_isinstance qu rfl Z.z_tuple vB vr))) (kF (qZ (tv (qx (gi rfl rfl) rfl Z.z_all gG (cmp (qL rfl vr) (λ_ _ _ _=>(ja O c 'e' yg rfl (qa vr (qa vr qd))))))))))) (qf (qg uK)) qC)
  (qe (qhC (qL rfl vr) (λ_ _ _ _=>(ix vr qp)))
  (kn [2] (qf (qg (wH (wP rfl c.units) vr (Je rfl rfl rfl Z.z_sorted yR rfl Z.z_set Xn vr)))))))
abbrev uU:Z3:=top 33
abbrev QJ:List Str:=["thing","room"]
def uV:qM:=(sIf (uN (wS (qt [.vl,.vl] vm (qb (qc 0) (qb (qc 1) qA))))) (qU "NoWorths" (qb (dC (.str "worths are a rising tuple of unlike letters, each with a number within the room")) qA)) jd)
abbrev vM:jy:=jI QJ [.val,.val] (uV)
abbrev ug(e0:Ev):=qD e0 4 "check_worths" ["thing","room"] [.val,.val] .sh (vM)
theorem gS(Z:ZtE e0 ca)(T:kT e0 "check_worths" uU ["thing","room"])(O:xX e0):ug e0:=
 dW [] T λc=>(qf (qR (qZ (tv (cN O (qa vr (qa vr qd))))) (qf (rz Z "NoWorths" (qa qv qd))) qC))
abbrev xY:Z3:=top 38
abbrev Wr:List Str:=["seen"]
def xZ:qM:=(jl (d1 uz (d2 ko (qP [] 1 [] (jv (qc 0)) (gNm 0) ftT (d2 ixD (qc 0) 'n')) (qP [] 1 [] (jv (qc 0)) (gNm 0) ftT (d2 ixD (qc 0) 'i')))))
abbrev jj:jy:=jI Wr [.val] (xZ)
abbrev kW(e0:Ev):=qD e0 1 "letters_of" ["seen"] [.val] .sh (jj)
theorem Kr(Z:ZtE e0 ca)(T:kT e0 "letters_of" xY ["seen"]):kW e0:=
 dW [] T λc=>(qf (qg (Je rfl rfl rfl Z.z_sorted yR rfl Z.z_set Xn (jx (jG rfl) (cmp (qL rfl vr) (λ_ _ _ _=>(ix vr qp))) (cmp (qL rfl vr) (λ_ _ _ _=>(ix vr qp)))))))
abbrev Xw:Z3:=top 39
abbrev qdO:List Str:=["total","room"]
def Xx:qM:=(jl (dIf (qK (d2 geD (qc 0) (qc 1))) (d2 qeg (qc 0) (qc 1)) (qc 0)))
abbrev zJ:jy:=jI qdO [.val,.val] (Xx)
abbrev Ws(e0:Ev):=qD e0 1 "within" ["total","room"] [.val,.val] .sh (zJ)
theorem qbz(Z:ZtE e0 ca)(T:kT e0 "within" Xw ["total","room"]):Ws e0:=
 dW [] T λc=>(qf (qg (GY (qG qfx vr vr) (jx QR vr vr) vr)))
abbrev Jo:Z3:=top 40
abbrev ZV:List Str:=["words","look","room","worths","seen","worth_of"]
def Jp:qM:=(qH (jz 4 (qt [.vl,.vl] gO (qb (qc 0) (qb (qc 1) qA))))
  (qH (kG (qt [.vl] uf (qb (qc 2) qA)))
  (qH (kG (qt [.vl,.vl] vM (qb (qc 3) (qb (qc 2) qA))))
  (qH (jz 5 (d1 qdl (qc 3)))
  (qH (sIf (uN (wS (d1 YJ (qP [] 1 [5] (jv (qt [.vl] jj (qb (qc 4) qA))) (gNm 0) ftT (d2 inA (qc 0) (qc 1)))))) (qU "NoWorths" (qb (dC (.str "a letter that is seen has no worth")) qA)) jd)
  (jl (d1 wJ (qP [] 1 [2,5] (jv (qc 4)) (gNm 0) ftT (qt [.vl,.vl] zJ (qb (d2 ko (d2 ixD (qc 2) (d2 ixD (qc 0) 'n')) (d2 ixD (qc 2) (d2 ixD (qc 0) 'i'))) (qb (qc 1) qA)))))))))))
abbrev uF:jy:=jI ZV [.val,.val,.val,.val] (Jp)
abbrev gT(e0:Ev):=qD e0 6 "numbered" ["words","look","room","worths"] [.val,.val,.val,.val] .sh (uF)
theorem US(Z:ZtE e0 ca)(T:kT e0 "numbered" Jo ["words","look","room","worths"])(O:yX e0)(j:ug e0)(g:Kp e0)(o:kW e0)(a:Ws e0):gT e0:=
 dW [] T λc=>(qe (se (cN g (qa vr (qa vr qd))))
  (qe (ji (cN O (qa vr qd)))
  (qe (ji (cN j (qa vr (qa vr qd))))
  (qe (se (jh (qfV rfl rfl) rfl Z.z_dict UJ vr))
  (qe (qR (qZ (tv (qx (gi rfl rfl) rfl Z.z_all gG (cmp (qL rfl (cN o (qa vr qd))) (λ_ _ _ _=>(wH (YU rfl c.units) vr vr)))))) (qf (rz Z "NoWorths" (qa qv qd))) qC)
  (qf (qg (jh (zG rfl) rfl Z.z_tuple vB (cmp (qL rfl vr) (λ_ _ _ _=>(ja a c 'e' yg rfl (qa (jx (jG rfl) (ix vr (ix vr qp)) (ix vr (ix vr qp))) (qa vr qd)))))))))))))
abbrev gU:Z3:=top 42
abbrev UT:List Str:=["one","two"]
def yn:qM:=(jl (qjJ (d2 eqD (qc 0) (qc 1)) (d2 eqD (qc 0) (zD (qb (d2 ixD (qc 1) 'i') (qb (d2 ixD (qc 1) 'n') qA))))))
abbrev wz:jy:=jI UT [.val,.val] (yn)
abbrev za(e0:Ev):=qD e0 1 "are_alike" ["one","two"] [.val,.val] .sh (wz)
theorem Wt(Z:ZtE e0 ca)(T:kT e0 "are_alike" gU ["one","two"]):za e0:=
 dW [] T λc=>(qf (qg (qkE (wH (wP rfl c.units) vr vr) (QU (wH (wP rfl c.units) vr (kN (qa (ix vr qp) (qa (ix vr qp) qd))))))))
abbrev Jq:Z3:=top 43
abbrev ZW:List Str:=["seen","later","pair","ahead"]
def Jr:qM:=(qH (QX (qaV (qc 0)) (zq 2 (jO (gNm 1) (jO (gNm 2) zp)))
  (QX (kg (qc 1)) (gNm 3)
  (sIf (wS (qt [.vl,.vl] wz (qb (d2 ixD (qc 0) (qc 3)) (qb (qc 2) qA)))) (jl (zD (qb (qc 3) (qb (qc 1) qA)))) jd)))
  (jl (dC .non)))
abbrev uG:jy:=jI ZW [.val] (Jr)
abbrev gW(e0:Ev):=qD e0 2 "clash_of" ["seen"] [.val] .sh (uG)
theorem UU(Z:ZtE e0 ca)(T:kT e0 "clash_of" Jq ["seen"])(O:za e0):gW e0:=
 dW [] T λc=>(qe (kI bf rfl (Xd rfl rfl Z.z_enumerate vr) (qah rfl rfl (yD gn (yD gn YA)))
  (qf (kI bf rfl (vW rfl Z.z_range vr) gn
  (qf (qR (tv (cN O (qa (ix vr vr) (qa vr qd)))) (qf (qg (kN (qa vr (qa vr qd))))) qC)))))
  (qf (qg Yp)))
abbrev Ks:Z3:=top 49
abbrev Kt:List Str:=["fixed","letter","worth","more"]
def yY:qM:=(qH (jz 3 (d1 VS (qc 0)))
  (qH (VQ 3 (qc 2) (qc 1))
  (jl (qc 3))))
abbrev kX:jy:=jI Kt [.io,.val,.val] (yY)
abbrev uW(e0:Ev):=qD e0 1 "with_worth" ["fixed","letter","worth"] [.io,.val,.val] .sh (kX)
theorem QK(Z:ZtE e0 ca)(T:kT e0 "with_worth" Ks ["fixed","letter","worth"]):uW e0:=
 dW [0] T λc=>(qe (sO (jh (Xe rfl) rfl Z.z_dict UJ vO))
  (qe (JZ (n:=3) c.units rfl (ci rfl) 'e' vr vr)
  (kn [3] (qf (qg vr)))))
abbrev Js:Z3:=top 44
abbrev ZX:List Str:=["pair","seen","fixed","letter"]
def Jt:qM:=(qH (QX (jv (qc 0)) (gNm 3)
  (sIf (qin (qK (d2 Jc (qc 3) (qc 2))) (qK (d2 eqD (d1 Ka (qP [] 1 [3] (jv (qc 1)) (gNm 0) ftT (dM qhA uR (qc 0) (qc 1)))) 'i'))) (jl (dC (.bl lv))) jd))
  (jl (dC (.bl lw))))
abbrev jS:jy:=jI ZX [.val,.val,.val] (Jt)
abbrev gX(e0:Ev):=qD e0 1 "is_loose" ["pair","seen","fixed"] [.val,.val,.val] .sh (jS)
theorem UV(Z:ZtE e0 ca)(T:kT e0 "is_loose" Js ["pair","seen","fixed"]):gX e0:=
 dW [] T λc=>(qe (kI bf rfl (qL rfl vr) gn
  (qf (qR (PW.pt (GX (qG (wX rfl c.units) vr vr) (kF (qG (wP rfl c.units) (qx (UF rfl rfl) rfl Z.z_sum qbk (cmp (qL rfl vr) (λ_ _ _ _=>(qa5 rfl c.units vr vr)))) qp)))) (qf (qg uK)) qC)))
  (qf (qg uK)))
abbrev yZ:Z3:=top 45
abbrev xa:List Str:=["seen","fixed","kept","rest"]
def xb:qM:=(qH (jz 2 (qc 0))
  (qH (jz 3 (qP [] 1 [2,1] (jv (qc 2)) (gNm 0) (uN (wS (qt [.vl,.vl,.vl] jS (qb (qc 0) (qb (qc 1) (qb (qc 2) qA)))))) (qc 0)))
  (qH (jb (qK (d2 ltD (d1 kO (qc 3)) (d1 kO (qc 2))))
  (qH (jz 2 (qc 3))
  (qH (jz 3 (qP [] 1 [2,1] (jv (qc 2)) (gNm 0) (uN (wS (qt [.vl,.vl,.vl] jS (qb (qc 0) (qb (qc 1) (qb (qc 2) qA)))))) (qc 0))) jd)) 20)
  (jl (qc 2)))))
abbrev wA:jy:=jI xa [.val,.val] (xb)
abbrev uX(e0:Ev):=qD e0 2 "bound_pairs" ["seen","fixed"] [.val,.val] .sh (wA)
theorem QL(Z:ZtE e0 ca)(T:kT e0 "bound_pairs" yZ ["seen","fixed"])(O:gX e0):uX e0:=
 dW [] T λc=>(qe (se vr)
  (qe (qhC (qL rfl vr) (λ_ _ _ _=>vr) (ht:=λ_ _ _ _=>(gc (qZ (tv (ja O c 'e' yg rfl (qa vr (qa vr (qa vr qd)))))))))
  (kn [3] (qe (zZ 20 bf (qG GQ 'g' 'g')
  (qe (se vr)
  (qe (qhC (qL rfl vr) (λ_ _ _ _=>vr) (ht:=λ_ _ _ _=>(gc (qZ (tv (ja O c 'e' yg rfl (qa vr (qa vr (qa vr qd)))))))))
  (kn [3] qC))))
  (qf (qg vr))))))
abbrev Ju:Z3:=top 46
abbrev Jv:List Str:=["one","two","first","second","letter"]
def Jw:qM:=(qH (jz 2 (d1 Um (qc 0)))
  (qH (jz 3 (xq qA))
  (qH (QX (jv (qc 1)) (gNm 4)
  (sIf (qK (d2 inA (qc 4) (qc 2))) (kG (Qu 2 qgc (qc 4))) (kG (Qu 3 YG (qc 4)))))
  (jl (zD (qb (qc 2) (qb (qc 3) qA)))))))
abbrev kh:jy:=jI Jv [.val,.val] (Jw)
abbrev gY(e0:Ev):=qD e0 1 "unshared" ["one","two"] [.val,.val] .sh (kh)
theorem UW(Z:ZtE e0 ca)(T:kT e0 "unshared" Ju ["one","two"]):gY e0:=
 dW [] T λc=>(qe (sO (jh (Uo rfl) rfl Z.z_list Kg vr))
  (qe (sO (jL qd))
  (qe (kI bf rfl (qL rfl vr) gn
  (qf (qR (qG (YU rfl c.units) vr vO) (qf (ji (qa3 (i:=2) rfl (ci rfl) 'e' vr))) (qf (ji (yF (i:=3) rfl rfl (ci rfl) 'e' vr))))))
  (kn [2,3] (qf (qg (kN (qa vr (qa vr qd)))))))))
abbrev uY:Z3:=top 47
abbrev QM:List Str:=["seen","found","later","pair"]
def uZ:qM:=(qH (jz 1 (xq qA))
  (qH (QX (qaV (qc 0)) (zq 2 (jO (gNm 2) (jO (gNm 3) zp)))
  (kG (Qu 1 qej (qP [1] 1 [3] (jv (jH (qc 0) lr (lm (qc 2)))) (gNm 0) ftT (qt [.vl,.vl] kh (qb (qc 0) (qb (qc 1) qA)))))))
  (jl (qc 1))))
abbrev vN:jy:=jI QM [.val] (uZ)
abbrev uh(e0:Ev):=qD e0 2 "contrasts_of" ["seen"] [.val] .sh (vN)
theorem gZ(Z:ZtE e0 ca)(T:kT e0 "contrasts_of" uY ["seen"])(O:gY e0):uh e0:=
 dW [] T λc=>(qe (sO (jL qd))
  (qe (kI bf rfl (Xd rfl rfl Z.z_enumerate vr) (qah rfl rfl (yD gn (yD gn YA)))
  (qf (ji (gh (i:=1) rfl (ci rfl) 'e' (cmp (qL rfl (yO rfl vr kt (wt vr))) (λ_ _ _ _=>(ja O c 'e' yg rfl (qa vr (qa vr qd)))))))))
  (kn [1] (qf (qg vr)))))
abbrev zb:Z3:=top 48
abbrev zc:List Str:=["contrast","room","fixed","first","second"]
def zd:qM:=(qH (jz 3 (d2 ixD (qc 0) 'n'))
  (qH (jz 4 (d2 ixD (qc 0) 'i'))
  (qH (sIf (uN (wS (d1 YJ (qP [] 1 [2] (jv (d2 ko (qc 3) (qc 4))) (gNm 0) ftT (d2 inA (qc 0) (qc 1)))))) (jl (dC (.bl lv))) jd)
  (jl (d2 neD (d2 qcs (d2 qeg (d1 Ka (qP [] 1 [2] (jv (qc 3)) (gNm 0) ftT (d2 ixD (qc 1) (qc 0)))) (d1 Ka (qP [] 1 [2] (jv (qc 4)) (gNm 0) ftT (d2 ixD (qc 1) (qc 0))))) (qc 1)) 'n')))))
abbrev kA:jy:=jI zc [.val,.val,.val] (zd)
abbrev wB(e0:Ev):=qD e0 1 "may_differ" ["contrast","room","fixed"] [.val,.val,.val] .sh (kA)
theorem Ku(Z:ZtE e0 ca)(T:kT e0 "may_differ" zb ["contrast","room","fixed"]):wB e0:=
 dW [] T λc=>(qe (se (ix vr qp))
  (qe (se (ix vr qp))
  (qe (qR (qZ (tv (qx (gi rfl rfl) rfl Z.z_all gG (cmp (qL rfl (jx (jG rfl) vr vr)) (λ_ _ _ _=>(wH (YU rfl c.units) vr vr)))))) (qf (qg uK)) qC)
  (qf (qg (wH (Vn rfl c.units) (jx QS (jx QR (qx (UF rfl rfl) rfl Z.z_sum qbk (cmp (qL rfl vr) (λ_ _ _ _=>(ix vr vr)))) (qx (UF rfl rfl) rfl Z.z_sum qbk (cmp (qL rfl vr) (λ_ _ _ _=>(ix vr vr))))) vr) qp))))))
abbrev ze:Z3:=top 49
abbrev Wu:List Str:=["fixed","letter","worth","more"]
def zf:qM:=(qH (jz 3 (d1 VS (qc 0)))
  (qH (VQ 3 (qc 2) (qc 1))
  (jl (qc 3))))
abbrev vE:jy:=jI Wu [.val,.val,.val] (zf)
abbrev wC(e0:Ev):=qD e0 1 "with_worth" ["fixed","letter","worth"] [.val,.val,.val] .sh (vE)
theorem Kv(Z:ZtE e0 ca)(T:kT e0 "with_worth" ze ["fixed","letter","worth"]):wC e0:=
 dW [] T λc=>(qe (sO (jh (Xe rfl) rfl Z.z_dict UJ vr))
  (qe (JZ (n:=3) c.units rfl (ci rfl) 'e' vr vr)
  (kn [3] (qf (qg vr)))))
abbrev jW:Z3:=top 50
abbrev jD:List Str:=["contrasts","room","fixed","letters","choices","worth"]
abbrev jX:List Str:=["contrasts","room","fixed","letters"]
theorem zu:FnScope jD jX (qB jW):=fsc
def jn(gr:jy):qM:=(qH (sIf (uN (wS (d1 YJ (qP [] 1 [1,2] (jv (qc 0)) (gNm 0) ftT (qt [.vl,.vl,.vl] kA (qb (qc 0) (qb (qc 1) (qb (qc 2) qA)))))))) (jl (dC (.bl lw))) jd)
  (qH (sIf (qK (d2 eqD (d1 kO (qc 3)) 'n')) (jl (dC (.bl lv))) jd)
  (qH (jz 4 (dIf (qK (d2 eqD (d1 kO (qc 2)) 'n')) (xq (qb 'n' qA)) (d1 uA (qc 1))))
  (qH (QX (jv (qc 4)) (gNm 5)
  (sIf (wS (qt [.vl,.vl,.vl,.vl] gr (qb (qc 0) (qb (qc 1) (qb (qt [.vl,.vl,.vl] vE (qb (qc 2) (qb (d2 ixD (qc 3) 'n') (qb (qc 5) qA)))) (qb (jH (qc 3) (lm 'i') lr) qA)))))) (jl (dC (.bl lv))) jd))
  (jl (dC (.bl lw)))))))
def qT:Nat->jy
 | 0=>jI jD [.val,.val,.val,.val] qlV
 |n+1=>jI jD [.val,.val,.val,.val] (jn (qT n))
abbrev ui:jy:=qT 14
abbrev wL(e0:Ev):=qD e0 16 "can_be_filled" jX [.val,.val,.val,.val] .sh ui
theorem zv(Z:ZtE e0 ca)(T:kT e0 "can_be_filled" jW jX)(b:wB e0)(a:wC e0)(n:Nat):qD e0 (2+n) "can_be_filled" ["contrasts","room","fixed","letters"] [.val,.val,.val,.val] .sh (qT n):=by
 induction n with
 |zero=>exact dW [] T λc=>qf5
 |succ n o=>exact qat (k:=2+n) (own':=[]) (fb:=jn (qT n)) T zu λcdv f A outer s H E c=>(qe (qR (qZ (tv (qx (gi rfl rfl) rfl Z.z_all gG (cmp (qL rfl vr) (λ_ _ _ _=>(ja b c (by omega) yg rfl (qa vr (qa vr (qa vr qd))))))))) (qf (qg uK)) qC)
  (qe (qR (qG (wP rfl c.units) 'g' qp) (qf (qg uK)) qC)
  (qe (se (GY (qG (wP rfl c.units) 'g' qp) (jL (qa qp qd)) (ZG rfl rfl Z.z_list Kg rfl Z.z_range qdG vr)))
  (qe (kI bf rfl (qL rfl vr) gn
  (qf (qR (tv (ja o c (by omega) Zr rfl (qa vr (qa vr (qa (ja a c (by omega) Zr rfl (qa vr (qa (ix vr qp) (qa vr qd)))) (qa (yO rfl vr (wt qp) kt) qd)))))) (qf (qg uK)) qC)))
  (qf (qg uK))))))
theorem zw(Z:ZtE e0 ca)(T:kT e0 "can_be_filled" jW jX)(b:wB e0)(a:wC e0):wL e0:=zv Z T b a 14
abbrev zg:Z3:=top 51
abbrev zh:List Str:=["seen","room","fixed","bound","letters"]
def vF:qM:=(qH (sIf (qK (d2 ltD (qc 1) (d1 kO (qc 0)))) (jl (dC (.bl lw))) jd)
  (qH (jz 3 (qt [.vl,.vl] wA (qb (qc 0) (qb (qc 2) qA))))
  (qH (jz 4 (qP [] 1 [2] (jv (qt [.vl] jj (qb (qc 3) qA))) (gNm 0) (qK (d2 Jc (qc 0) (qc 1))) (qc 0)))
  (jl (qt [.vl,.vl,.vl,.vl] ui (qb (qt [.vl] vN (qb (qc 3) qA)) (qb (qc 1) (qb (qc 2) (qb (qc 4) qA)))))))))
abbrev jc:jy:=jI zh [.val,.val,.val] (vF)
abbrev wD(e0:Ev):=qD e0 17 "can_differ" ["seen","room","fixed"] [.val,.val,.val] .sh (jc)
theorem Kw(Z:ZtE e0 ca)(T:kT e0 "can_differ" zg ["seen","room","fixed"])(W:kW e0)(O:uX e0)(i:uh e0)(o:wL e0):wD e0:=
 dW [] T λc=>(qe (qR (qG GQ vr 'g') (qf (qg uK)) qC)
  (qe (se (cN O (qa vr (qa vr qd))))
  (qe (qhC (qL rfl (cN W (qa vr qd))) (λ_ _ _ _=>vr) (ht:=λ_ _ _ _=>(gc (qG (wX rfl c.units) vr vr))))
  (kn [4] (qf (qg (cN o (qa (cN i (qa vr qd)) (qa vr (qa vr (qa vr qd)))))))))))
abbrev ya:Z3:=top 52
abbrev yb:List Str:=["seen","room","fixed","letter","worth"]
def yc:qM:=(qH (jz 2 (dC (.dct [])))
  (qH (QX (jv (qt [.vl] jj (qb (qc 0) qA))) (gNm 3)
  (qH (jz 4 'n')
  (qH (jb (qin (qK (d2 ltD (qc 4) (qc 1))) (uN (wS (qt [.vl,.vl,.vl] jc (qb (qc 0) (qb (qc 1) (qb (qt [.sl 2,.vl,.vl] kX (kx (qb (qc 3) (qb (qc 4) qA)))) qA)))))))
  (jz 4 (d2 ko (qc 4) 'i')) 102)
  (qH (sIf (qK (d2 eqD (qc 4) (qc 1))) (jl (dC .non)) jd)
  (VQ 2 (qc 4) (qc 3))))))
  (jl (d1 wJ (d1 va (qc 2))))))
abbrev vP:jy:=jI yb [.val,.val] (yc)
abbrev uj(e0:Ev):=qD e0 18 "least_worths" ["seen","room"] [.val,.val] .sh (vP)
theorem Qa(Z:ZtE e0 ca)(T:kT e0 "least_worths" ya ["seen","room"])(o:kW e0)(O:uW e0)(a:wD e0):uj e0:=
 dW [] T λc=>(qe (sO Yv)
  (qe (kI bf rfl (qL rfl (cN o (qa vr qd))) gn
  (qe (se qp)
  (qe (zZ 102 bf (PW.pt (GX (qG GQ vr vr) (kF (qZ (tv (cN a (qa vr (qa vr (qa (cN O (sl (qa vr (qa vr qd)))) qd)))))))))
  (qf (se (jx (jG rfl) vr qp))))
  (qe (qR (qG (wP rfl c.units) vr vr) (qf (qg Yp)) qC)
  (qf (JZ (n:=2) c.units rfl (ci rfl) 'e' vr vr))))))
  (qf (qg (jh (zG rfl) rfl Z.z_tuple vB (VW rfl rfl rfl Z.z_sorted yR vO))))))
abbrev Qb:Z3:=top 53
abbrev Qc:List Str:=["seen","room","found"]
def Qd:qM:=(qH (jz 2 (qc 1))
  (qH (jb (uN (wS (qt [.vl,.vl,.vl] jc (qb (qc 0) (qb (qc 2) (qb (dC (.dct [])) qA))))))
  (jz 2 (d2 ko (qc 2) 'i')) 100)
  (jl (qc 2))))
abbrev yo:jy:=jI Qc [.val,.val] (Qd)
abbrev zi(e0:Ev):=qD e0 18 "room_from" ["seen","room"] [.val,.val] .sh (yo)
theorem Wv(Z:ZtE e0 ca)(T:kT e0 "room_from" Qb ["seen","room"])(a:wD e0):zi e0:=
 dW [] T λc=>(qe (se vr)
  (qe (zZ 100 bf (qZ (tv (cN a (qa vr (qa vr (qa Yv qd))))))
  (qf (se (jx (jG rfl) vr qp))))
  (qf (qg vr))))
abbrev zj:Z3:=top 30
abbrev Ww:List Str:=["thing"]
def ul:qM:=(sIf (uN (wS (qt [.vl] vi (qb (qc 0) qA)))) (qU "NoWord" (qb (dC (.str "a word has 1 to 6 letters from a to z")) qA)) jd)
abbrev vG:jy:=jI Ww [.val] (ul)
abbrev xc(e0:Ev):=qD e0 3 "check_word" ["thing"] [.val] .sh (vG)
theorem Ky(Z:ZtE e0 ca)(T:kT e0 "check_word" zj ["thing"])(O:xC e0):xc e0:=
 dW [] T λc=>(qf (qR (qZ (tv (cN O (qa vr qd)))) (qf (rz Z "NoWord" (qa qv qd))) qC))
abbrev ki:Z3:=JK (top 55) 3
abbrev wc:List Str:=["self","word"]
abbrev kj:List Str:=["self","word"]
theorem xf:FnScope wc kj (qB ki):=fsc
def je(ca:Str->Z7):qM:=(qH (kG (qt [.vl] vG (qb (qc 1) qA)))
  (qH (sIf (qK (d2 inA (qc 1) (d1 (KZ 'm' "came") (qc 0)))) (qU "Known" (qb (dC (.str "the word is there")) qA)) jd)
  (sIf (qK (d2 eqD (d1 kO (d1 (KZ 'm' "came") (qc 0))) (dC (.int 6)))) (qU "Full" (qb (dC (.str "there are 6 words")) qA)) jd)))
abbrev jo(ca:Str->Z7):jy:=jI wc [.io,.val] (je ca)
abbrev vH(ca:Str->Z7)(e0:Ev):=UK e0 4 'm' "check_new" kj [.io,.val] .sh (jo ca)
theorem xg(Z:ZtE e0 ca)(T:qa0 e0.K 'm' "check_new" "Words.check_new" ki kj)(O:xc e0):vH ca e0:=
 UD (k:=3) (own':=[0]) (fb:=je ca) T xf λcdv f A outer s H E c=>(qe (ji (cN O (qa vr qd)))
  (qe (qR (qG (YU rfl c.units) vr (yM rfl Z.b_cls (Z.b_no "came" 'a') vO)) (qf (rz Z "Known" (qa qv qd))) qC)
  (qf (qR (qG (wP rfl c.units) (qx (jr rfl) rfl Z.z_len jm (yM rfl Z.b_cls (Z.b_no "came" 'a') vO)) (kq Z.c_MOST_WORDS rfl)) (qf (rz Z "Full" (qa qv qd))) qC))))
abbrev um:Z3:=JK (top 55) 4
abbrev vI:List Str:=["self","word","words","seen","width"]
abbrev uo:List Str:=["self","word"]
theorem Kz:FnScope vI uo (qB um):=fsc
def jE(ca:Str->Z7):qM:=(qH (kG (kP 'm' 0 "check_new" [.vl] (jo ca) (qb (qc 1) qA)))
  (qH (jz 2 (d2 ko (d1 (KZ 'm' "came") (qc 0)) (zD (qb (qc 1) qA))))
  (qH (jz 3 (qt [.vl,.vl] gO (qb (qc 2) (qb (d1 (KZ 'm' "look") (qc 0)) qA))))
  (qH (sIf (qK (d2 qaa (qt [.vl] uG (qb (qc 3) qA)) (dC .non))) (qU "Never" (qb (dC (.str "the word is seen as the same two letters as one that is there")) qA)) jd)
  (qH (jz 4 (qt [.vl,.vl] yo (qb (qc 3) (qb (d1 (KZ 'm' "width") (qc 0)) qA))))
  (qH (gE 'm' 0 "held" (qt [.vl,.vl,.vl,.vl] uF (qb (qc 2) (qb (d1 (KZ 'm' "look") (qc 0)) (qb (qc 4) (qb (qt [.vl,.vl] vP (qb (qc 3) (qb (qc 4) qA))) qA))))))
  (qH (gE 'm' 0 "came" (qc 2))
  (qH (gE 'm' 0 "width" (qc 4))
  (jl (qc 4))))))))))
abbrev kB(ca:Str->Z7):jy:=jI vI [.io,.val] (jE ca)
abbrev xh(ca:Str->Z7)(e0:Ev):=UK e0 19 'm' "come" uo [.io,.val] .sh (kB ca)
theorem KA(Z:ZtE e0 ca)(T:qa0 e0.K 'm' "come" "Words.come" um uo)(g:Kp e0)(C:gT e0)(a:gW e0)(h:uj e0)(O:zi e0)(d:vH ca e0):xh ca e0:=
 UD (k:=18) (own':=[0]) (fb:=jE ca) T Kz λcdv f A outer s H E c=>(qe (ji (Xi (i:=0) Z.b_cls d c 'e' Zr rfl (ci rfl) 'e' (qa vr qd)))
  (qe (se (jx (jG rfl) (yM rfl Z.b_cls (Z.b_no "came" 'a') vO) (kN (qa vr qd))))
  (qe (se (cN g (qa vr (qa (yM rfl Z.b_cls (Z.b_no "look" 'a') vO) qd))))
  (qe (qR (qG qfy (cN a (qa vr qd)) Yp) (qf (rz Z "Never" (qa qv qd))) qC)
  (qe (se (cN O (qa vr (qa (yM rfl Z.b_cls (Z.b_no "width" 'a') vO) qd))))
  (qe (yj rfl Z.b_cls (Z.b_no "held" 'a') (i:=0) rfl (ci rfl) 'e' (cN C (qa vr (qa (yM rfl Z.b_cls (Z.b_no "look" 'a') vO) (qa vr (qa (cN h (qa vr (qa vr qd))) qd))))))
  (qe (yj rfl Z.b_cls (Z.b_no "came" 'a') (i:=0) rfl (ci rfl) 'e' vr)
  (qe (yj rfl Z.b_cls (Z.b_no "width" 'a') (i:=0) rfl (ci rfl) 'e' vr)
  (qf (qg vr))))))))))
abbrev kJ:Z3:=JK (top 55) 0
abbrev wM:List Str:=["self","look"]
abbrev wN:List Str:=["self","look"]
theorem xE:FnScope wM wN (qB kJ):=fsc
def kK(ca:Str->Z7):qM:=(qH (kG (qt [.vl] vD (qb (qc 1) qA)))
  (qH (gE 'm' 0 "look" (qc 1))
  (qH (gE 'm' 0 "came" (zD qA))
  (qH (gE 'm' 0 "width" 'n')
  (gE 'm' 0 "held" (zD qA))))))
abbrev kL(ca:Str->Z7):jy:=jI wM [.io,.val] (kK ca)
abbrev we(ca:Str->Z7)(e0:Ev):=qgy e0 4 'm' ["self","look"] [.io,.val] (kL ca)
theorem xF(Z:ZtE e0 ca)(T:qf9 e0.K 'm' "Words.__init__" kJ wN)(o:wy e0):we ca e0:=
 qga (k:=3) (own':=[0]) (fb:=kK ca) T xE λcdv f A outer s H E c=>(qe (ji (cN o (qa vr qd)))
  (qe (yj rfl Z.b_cls (Z.b_no "look" 'a') (i:=0) rfl (ci rfl) 'e' vr)
  (qe (yj rfl Z.b_cls (Z.b_no "came" 'a') (i:=0) rfl (ci rfl) 'e' (kN qd))
  (qe (yj rfl Z.b_cls (Z.b_no "width" 'a') (i:=0) rfl (ci rfl) 'e' qp)
  (qf (yj rfl Z.b_cls (Z.b_no "held" 'a') (i:=0) rfl (ci rfl) 'e' (kN qd)))))))
abbrev Qe:Z3:=top 57
abbrev UX:List Str:=["text","least","most","number"]
def yp:qM:=(qH (QX (UC (qc 1) (d2 ko (qc 2) 'i')) (gNm 3)
  (sIf (qK (d2 eqD (d1 qep (qc 3)) (qc 0))) (jl (qc 3)) jd))
  (qU "NoText" (qb (dC (.str "this writes no number within its bounds")) qA)))
abbrev jF:jy:=jI UX [.val,.val,.val] (yp)
abbrev zk(e0:Ev):=qD e0 1 "number_in" ["text","least","most"] [.val,.val,.val] .sh (jF)
theorem Wx(Z:ZtE e0 ca)(T:kT e0 "number_in" Qe ["text","least","most"]):zk e0:=
 dW [] T λc=>(qe (kI bf rfl (ZF rfl Z.z_range vr (jx (jG rfl) vr qp)) gn
  (qf (qR (qG (wP rfl c.units) (jh (qaW) rfl Z.z_str Jh vr) vr) (qf (qg vr)) qC)))
  (qf (rz Z "NoText" (qa qv qd))))
abbrev Wy:Z3:=top 59
abbrev Wz:List Str:=["text","parts"]
def Qf:qM:=(qH (jz 1 (dM ZI VP (qc 0) (dC (.str " "))))
  (qH (sIf (qK (d2 neD (d1 kO (qc 1)) (dC (.int 2)))) (qU "NoText" (qb (dC (.str "a look is written as two places, a blank between")) qA)) jd)
  (jl (zD (qb (qt [.vl,.vl,.vl] jF (qb (d2 ixD (qc 1) 'n') (qb (dC (.int (-3))) (qb (dC (.int 2)) qA)))) (qb (qt [.vl,.vl,.vl] jF (qb (d2 ixD (qc 1) 'i') (qb (dC (.int (-3))) (qb (dC (.int 2)) qA)))) qA))))))
abbrev vn:jy:=jI Wz [.val] (Qf)
abbrev Jx(e0:Ev):=qD e0 2 "look_in" ["text"] [.val] .sh (vn)
theorem ZY(Z:ZtE e0 ca)(T:kT e0 "look_in" Wy ["text"])(O:zk e0):Jx e0:=
 dW [] T λc=>(qe (se (zH fU fV JX rfl vr qv))
  (qe (qR (qG (Vn rfl c.units) 'g' qp) (qf (rz Z "NoText" (qa qv qd))) qC)
  (qf (qg (kN (qa (cN O (qa (ix vr qp) (qa (kq Z.c_LEAST_PLACE rfl) (qa (kq Z.c_MOST_PLACE rfl) qd)))) (qa (cN O (qa (ix vr qp) (qa (kq Z.c_LEAST_PLACE rfl) (qa (kq Z.c_MOST_PLACE rfl) qd)))) qd)))))))
abbrev Jy:Z3:=top 60
abbrev ZZ:List Str:=["text","parts"]
def xG:qM:=(qH (jz 1 (dM ZI VP (qc 0) (dC (.str " "))))
  (qH (sIf (qK (d2 neD (d2 ixD (qc 1) 'n') (dC (.str "")))) (qU "NoText" (qb (dC (.str "a blank is ahead of each word")) qA)) jd)
  (jl (jH (qc 1) (lm 'i') lr))))
abbrev wf:jy:=jI ZZ [.val] (xG)
abbrev Qg(e0:Ev):=qD e0 1 "words_in" ["text"] [.val] .sh (wf)
theorem UY(Z:ZtE e0 ca)(T:kT e0 "words_in" Jy ["text"]):Qg e0:=
 dW [] T λc=>(qe (se (zH fU fV JX rfl vr qv))
  (qe (qR (qG (Vn rfl c.units) (ix vr qp) qv) (qf (rz Z "NoText" (qa qv qd))) qC)
  (qf (qg (yO rfl vr (wt qp) kt)))))
abbrev Qh:Z3:=top 61
abbrev Qi:List Str:=["text","parts","some","word","refusal"]
theorem Jz:FnScope Qi ["text"] (qB Qh):=fsc
def kC(ca:Str->Z7):qM:=(qH (kG (qt [.vl] vC (qb (qc 0) qA)))
  (qH (jz 1 (dM ZI qgo (qc 0) (dC (.str ":"))))
  (qH (sIf (qK (d2 eqD (d2 ixD (qc 1) 'i') (dC (.str "")))) (qU "NoText" (qb (dC (.str "`:` is behind the look")) qA)) jd)
  (qH (jz 2 (qaY 'm' (kL ca) (qb (qt [.vl] vn (qb (d2 ixD (qc 1) 'n') qA)) qA)))
  (qH (QX (jv (qt [.vl] wf (qb (d2 ixD (qc 1) (dC (.int 2))) qA))) (gNm 3)
  (Wc (qhE ca CS "NoText") "NoText" (kG (kP 'm' 2 "come" [.vl] (kB ca) (qb (qc 3) qA)))))
  (jl (qc 2)))))))
abbrev vo(ca:Str->Z7):jy:=jI Qi [.val] (kC ca)
abbrev JA(ca:Str->Z7)(e0:Ev):=qD e0 20 "list_of" ["text"] [.val] .fr (vo ca)
theorem Ga(Z:ZtE e0 ca)(T:kT e0 "list_of" Qh ["text"])(a:yT e0)(O:xh ca e0)(b:we ca e0)(N:Jx e0)(d:Qg e0):JA ca e0:=
 qat (k:=19) (own':=[]) (fb:=kC ca) (hmr:=.inr λ_=>(Wa (Wa (Wa (Wa (Wa (λ_ _=>qiV)))))) _) T Jz λcdv f A outer s H E c=>(qi2 rfl (yQ rfl (ji (cN a (qa vr qd)))
  (yQ rfl (se (zH PySem.F.slot_str_partition PySem.F.type_str_partition qgp rfl vr qv))
  (yQ rfl (qR (qG (wP rfl c.units) (ix vr qp) qv) (qf (rz Z "NoText" (qa qv qd))) qC)
  (yQ rfl (sO (qf8 b c 'e' Zr rfl Z.m_Words (qa (cN N (qa (ix vr qp) qd)) qd)))
  (yQ rfl (kI bf rfl (qL rfl (cN d (qa (ix vr qp) qd))) gn
  (qf (qdF (n:=5) (j:=4) rfl rfl rfl (qel rfl) rfl Z.m_WordError rfl (Z.mref "NoText" 'a') (Z.xs.val "NoText" 'a') (Z.xin "NoText" 'a') (qgs Z.xs Z.xin Z.inj 'a') Jz.nd rfl rfl rfl (λpn xe E hx=>(qf (ji (Xi (i:=2) Z.b_cls O c 'e' hx rfl (ci rfl) 'e' (qa vr qd))))) (λe=>(qa qv qd)))))
  qgn))))))
abbrev KB:Z3:=top 73
abbrev Xy:List Str:=["_law_e","_law_own"]
theorem qbA:FnScope Xy ["_law_e"] (qB KB):=fsc
def KC(ca:Str->Z7):qM:=(qH (jz 1 (xq (qb (d1 (QB (VA ca CS "NoWords")) (qc 0)) (qb (d1 (QB (VA ca CS "NoLook")) (qc 0)) (qb (d1 (QB (VA ca CS "NoNumbers")) (qc 0)) (qb (d1 (QB (VA ca CS "NoRoom")) (qc 0)) qA))))))
  (qH (kG (Qu 1 qej (xq (qb (d1 (QB (VA ca CS "NoWord")) (qc 0)) (qb (d1 (QB (VA ca CS "NoWorths")) (qc 0)) (qb (d1 (QB (VA ca CS "Never")) (qc 0)) (qb (d1 (QB (VA ca CS "Full")) (qc 0)) qA)))))))
  (qH (kG (Qu 1 qej (xq (qb (d1 (QB (VA ca CS "Known")) (qc 0)) (qb (d1 (QB (VA ca CS "NoPlace")) (qc 0)) (qb (d1 (QB (VA ca CS "NoLetters")) (qc 0)) (qb (d1 (QB (VA ca CS "NoText")) (qc 0)) qA)))))))
  (qH (kG (Qu 1 YG (d1 (QB (VA ca CS "Nothing")) (qc 0))))
  (qH (sIf (dOr (qK (d2 neD (d1 (YL lv) (qc 1)) 'i')) (uN (wS (d1 (QB (qiH ca CS)) (qc 0))))) (jl (zD (qb (dC (.str "refused")) (qb (d1 qfQ 'i') qA)))) jd)
  (jl (zD (qb (dC (.str "refused")) (qb (d1 (YM lv) (qc 1)) qA)))))))))
abbrev KG(ca:Str->Z7):jy:=jI Xy [.val] (KC ca)
abbrev WA(ca:Str->Z7)(e0:Ev):=qlc e0 1 "_law_which" ["_law_e"] [.val] .sh (KG ca)
theorem qbB(Z:ZtE e0 ca)(T:kT e0 "_law_which" KB ["_law_e"]):WA ca e0:=
 qkM (k:=0) (own':=[]) (fb:=KC ca) T qbA λcdv f A outer s H E c=>(qe (sO (jL (qa (vZ rfl Z.z_isinstance qu rfl (Z.mref "NoWords" 'a') (Z.xs.ans 'a') vr) (qa (vZ rfl Z.z_isinstance qu rfl (Z.mref "NoLook" 'a') (Z.xs.ans 'a') vr) (qa (vZ rfl Z.z_isinstance qu rfl (Z.mref "NoNumbers" 'a') (Z.xs.ans 'a') vr) (qa (vZ rfl Z.z_isinstance qu rfl (Z.mref "NoRoom" 'a') (Z.xs.ans 'a') vr) qd))))))
  (qe (ji (gh (i:=1) rfl (ci rfl) 'e' (jL (qa (vZ rfl Z.z_isinstance qu rfl (Z.mref "NoWord" 'a') (Z.xs.ans 'a') vr) (qa (vZ rfl Z.z_isinstance qu rfl (Z.mref "NoWorths" 'a') (Z.xs.ans 'a') vr) (qa (vZ rfl Z.z_isinstance qu rfl (Z.mref "Never" 'a') (Z.xs.ans 'a') vr) (qa (vZ rfl Z.z_isinstance qu rfl (Z.mref "Full" 'a') (Z.xs.ans 'a') vr) qd)))))))
  (qe (ji (gh (i:=1) rfl (ci rfl) 'e' (jL (qa (vZ rfl Z.z_isinstance qu rfl (Z.mref "Known" 'a') (Z.xs.ans 'a') vr) (qa (vZ rfl Z.z_isinstance qu rfl (Z.mref "NoPlace" 'a') (Z.xs.ans 'a') vr) (qa (vZ rfl Z.z_isinstance qu rfl (Z.mref "NoLetters" 'a') (Z.xs.ans 'a') vr) (qa (vZ rfl Z.z_isinstance qu rfl (Z.mref "NoText" 'a') (Z.xs.ans 'a') vr) qd)))))))
  (qe (ji (yF (i:=1) rfl rfl (ci rfl) 'e' (vZ rfl Z.z_isinstance qu rfl (Z.mref "Nothing" 'a') (Z.xs.ans 'a') vr)))
  (kn [1] (qe (qR (PW.pt (wT (qG (Vn rfl c.units) (qde rfl vr) qp) (kF (qZ (tv (qfU rfl Z.z_isinstance qu rfl Z.z_ValueError Kf Z.xs.ansV vr)))))) (qf (qg (kN (qa qv (qa (qfq qav qp) qd))))) qC)
  (qf (qg (kN (qa qv (qa (qdf rfl vr) qd)))))))))))
abbrev qbC:Z3:=top 74
abbrev qeE:List Str:=["_law_text","_law_e"]
theorem qgE:FnScope qeE ["_law_text"] (qB qbC):=fsc
def qbD(ca:Str->Z7):qM:=(qfN 2 (lm 1) (qiG ca CS) (jl (qt [.fr] (yk ca) (qb (qt [.vl] (vo ca) (qb (qc 0) qA)) qA))) (jl (qt [.vl] (KG ca) (qb (qc 1) qA))))
abbrev Qj(ca:Str->Z7):jy:=jI qeE [.val] (qbD ca)
abbrev qbE(ca:Str->Z7)(e0:Ev):=qD e0 21 "_law_ask" ["_law_text"] [.val] .sh (Qj ca)
theorem qgF(Z:ZtE e0 ca)(T:kT e0 "_law_ask" qbC ["_law_text"])(O:xO ca e0)(M:JA ca e0)(S:WA ca e0):qbE ca e0:=
 dW [] T λc=>(qf (qfO (own2:=[]) (n:=2) (j:=1) rfl rfl rfl rfl Z.m_WordError Z.xs.hit qgE.nd rfl rfl rfl (λpn xe E hx=>(qf (qg (ja O c 'e' hx rfl (qab (ja M c 'e' hx rfl (qa vr qd)) qd))))) (λe=>(qf (qg (qau S ((c.quiet.mono 'e').mark _) yg rfl (qa vr qd)))))))
abbrev qi7:Z3:=top 70
abbrev qld:List Str:=["_law_word_here","_law_place","_law_spots"]
def qle:qM:=(qH (jz 2 (qP [] 1 [1,0] (kg (d1 kO (qc 0))) (gNm 0) (dOr (qK (d2 eqD (qc 0) (qc 1))) (qK (d2 eqD (qc 0) (d2 ko (qc 1) (d1 kO (qc 2)))))) (qc 0)))
  (qH (sIf (qK (d2 neD (qc 2) (xq qA))) (jl (d2 ixD (qc 0) (d2 ixD (qc 2) 'n'))) jd)
  (jl (dIf (qK (d2 geD (qc 1) 'n')) (d2 ixD (qc 0) (d1 qfQ 'i')) (d2 ixD (qc 0) 'n')))))
abbrev qbF:jy:=jI qld [.val,.val] (qle)
abbrev qeF(e0:Ev):=qD e0 1 "_law_at" ["_law_word_here","_law_place"] [.val,.val] .sh (qbF)
theorem qi8(Z:ZtE e0 ca)(T:kT e0 "_law_at" qi7 ["_law_word_here","_law_place"]):qeF e0:=
 dW [] T λc=>(qe (qhC (vW rfl Z.z_range 'g') (λ_ _ _ _=>vr) (ht:=λ_ _ _ _=>(gc (PW.pt (wT (qG (wP rfl c.units) vr vr) (kF (qG (wP rfl c.units) vr (jx (jG rfl) vr 'g'))))))))
  (kn [2] (qe (qR (qG (Vn rfl c.units) vr (jL qd)) (qf (qg (ix vr (ix vr qp)))) qC)
  (qf (qg (GY (qG qfx vr qp) (ix vr (qfq qav qp)) (ix vr qp)))))))
abbrev qbG:Z3:=top 71
abbrev qbH:List Str:=["_law_words_here","_law_look_here"]
def qbI:qM:=(jl (qP [] 1 [1] (jv (qc 0)) (gNm 0) ftT (zD (qb (qt [.vl,.vl] qbF (qb (qc 0) (qb (d2 ixD (qc 1) 'n') qA))) (qb (qt [.vl,.vl] qbF (qb (qc 0) (qb (d2 ixD (qc 1) 'i') qA))) qA)))))
abbrev yq:jy:=jI qbH [.val,.val] (qbI)
abbrev Xz(e0:Ev):=qD e0 2 "_law_seen" ["_law_words_here","_law_look_here"] [.val,.val] .sh (yq)
theorem qdP(Z:ZtE e0 ca)(T:kT e0 "_law_seen" qbG ["_law_words_here","_law_look_here"])(O:qeF e0):Xz e0:=
 dW [] T λc=>(qf (qg (cmp (qL rfl vr) (λ_ _ _ _=>(kN (qa (ja O c 'e' yg rfl (qa vr (qa (ix vr qp) qd))) (qa (ja O c 'e' yg rfl (qa vr (qa (ix vr qp) qd))) qd)))))))
abbrev qbJ:Z3:=top 75
abbrev qbK:List Str:=["_law_text","_law_words_here","_law_places","_law_look_here","_law_names","_law_word_here","_law_views"]
def qbL:qM:=(qH (jz 1 (dM ZI VP (qc 0) (dC (.str " "))))
  (qH (jz 2 (xq (qb (dC (.str "-3")) (qb (dC (.str "-2")) (qb (dC (.str "-1")) (qb (dC (.str "0")) (qb (dC (.str "1")) (qb (dC (.str "2")) qA))))))))
  (qH (sIf (dOr (qK (d2 ltD (d1 kO (qc 1)) (dC (.int 2)))) (dOr (qK (d2 Jc (d2 ixD (qc 1) 'n') (qc 2))) (qK (d2 Jc (d2 ixD (qc 1) 'i') (qP [] 1 [] (jv (qc 2)) (gNm 0) ftT (d2 ko (qc 0) (dC (.str ":")))))))) (jl (dC (.bl lw))) jd)
  (qH (jz 3 (zD (qb (d1 yN (d2 ixD (qc 1) 'n')) (qb (d1 yN (yH (d2 ixD (qc 1) 'i') lr (lm (d1 qfQ 'i')) lr)) qA))))
  (qH (jz 4 (jH (qc 1) (lm (dC (.int 2))) lr))
  (qH (QX (jv (qc 4)) (gNm 5)
  (sIf (dOr (uN (qK (wU leD leD 'i' (d1 kO (qc 5)) (dC (.int 6))))) (qK (d2 neD (qP [] 1 [] (jv (qc 5)) (gNm 0) (qK (d2 qhz (qc 0) (dC (.str "abcdefghijklmnopqrstuvwxyz")))) (qc 0)) (xq qA)))) (jl (dC (.bl lw))) jd))
  (qH (jz 6 (qP [] 1 [] (jv (qt [.vl,.vl] yq (qb (qc 4) (qb (qc 3) qA)))) (gNm 0) ftT (d1 wJ (d1 ub (qc 0)))))
  (jl (Qx (d2 eqD (d1 uB (qc 6)) (d1 kO (qc 6))) (d2 leD (d1 kO (qc 4)) (dC (.int 6))))))))))))
abbrev yr:jy:=jI qbK [.val] (qbL)
abbrev XA(e0:Ev):=qD e0 3 "_law_good" ["_law_text"] [.val] .sh (yr)
theorem qdQ(Z:ZtE e0 ca)(T:kT e0 "_law_good" qbJ ["_law_text"])(O:Xz e0):XA e0:=
 dW [] T λc=>(qe (se (zH fU fV JX rfl vr qv))
  (qe (se (jL (qa qv (qa qv (qa qv (qa qv (qa qv (qa qv qd))))))))
  (qe (qR (PW.pt (wT (qG GQ 'g' qp) (wT (qG (wX rfl c.units) (ix vr qp) vr) (kF (qG (wX rfl c.units) (ix vr qp) (cmp (qL rfl vr) (λ_ _ _ _=>(jx (jG rfl) vr qv)))))))) (qf (qg uK)) qC)
  (qe (se (kN (qa (jh qes rfl Z.z_int qbj (ix vr qp)) (qa (jh qes rfl Z.z_int qbj (JV rfl (ix vr qp) kt (wt (qfq qav qp)) kt)) qd))))
  (qe (se (yO rfl vr (wt qp) kt))
  (qe (kI bf rfl (qL rfl vr) gn
  (qf (qR (PW.pt (wT (qZ (zX zY zY qp 'g' qp)) (kF (qG (Vn rfl c.units) (cmp (qL rfl vr) (λ_ _ _ _=>vr) (ht:=λ_ _ _ _=>(gc (qG qa1 vr qv)))) (jL qd))))) (qf (qg uK)) qC)))
  (qe (qhC (qL rfl (cN O (qa vr (qa vr qd)))) (λ_ _ _ _=>(jh (zG rfl) rfl Z.z_tuple vB (qx (qaQ rfl) rfl Z.z_sorted yR vr))))
  (qf (qg (QV (wH (wP rfl c.units) (ZO rfl rfl c.units rfl Z.z_len jm rfl Z.z_set Xn vO) (qx (jr rfl) rfl Z.z_len jm vO)) (QU (wH zY 'g' qp))))))))))))
abbrev qdR:Z3:=top 76
abbrev qgG:List Str:=["_law_script","_law_town","_law_times","_law_look_here","_law_text","_law_k","_law_odd","_law_at_here","_law_put"]
abbrev qi9:List Str:=["_law_script"]
theorem qja:FnScope qgG qi9 (qB qdR):=fsc
def qgH(ca:Str->Z7):qM:=(qH (jz 1 (xq qA))
  (qH (jz 2 (qt [.vl,.sl 1,.vl] vg (qb (qc 0) (kx (qb (dC (.int 3)) qA)))))
  (qH (jz 3 (qt [.vl,.sl 1] Kk (qb (qc 0) (kx qA))))
  (qH (jz 4 (d1 (QF " ") (d2 ko (xq (qb (d1 qep (d2 ixD (qc 3) 'n')) (qb (d2 ko (d1 qep (d2 ixD (qc 3) 'i')) (dC (.str ":"))) qA))) (d1 Um (qt [.vl,.sl 1,.vl] Kj (qb (qc 0) (kx (qb (dC (.int 6)) qA))))))))
  (qH (QX (kg (qc 2)) (gNm 5)
  (qH (jz 7 (qt [.vl,.sl 1,.vl] vg (qb (qc 0) (kx (qb (d2 ko (d1 kO (qc 4)) 'i') qA)))))
  (qH (jz 8 (qt [.vl,.sl 1,.vl] uc (qb (qc 0) (kx (qb (xq (qb (dC (.str "")) (qb (dC (.str "a")) (qb (dC (.str "b")) (qb (dC (.str " ")) (qb (dC (.str "-")) (qb (dC (.str ":")) (qb (dC (.str "1")) (qb (dC (.str "3")) (qb (dC (.str "A")) (qb (dC (.str " c")) (qb (dC (.str "0 ")) (qb (dC (.str "  ")) qA))))))))))))) qA)))))
  (jz 4 (d2 ko (d2 ko (yH (qc 4) lr (lm (qc 7)) lr) (qc 8)) (yH (qc 4) (lm (d2 ko (qc 7) (qt [.vl,.sl 1,.vl] vg (qb (qc 0) (kx (qb (dC (.int 2)) qA)))))) lr lr))))))
  (qH (jz 6 (xq (qb (dC .non) (qb (dC (.str "")) (qb (dC (.int 5)) (qb (dC (.str "0")) (qb (dC (.str "0 0")) (qb (dC (.str "0: 0")) (qb (dC (.str "0 3:")) (qb (dC (.str "-4 0:")) (qb (dC (.str "00 0:")) (qb (dC (.str "-0 0:")) (qb (zD (qb (dC (.str "0 0:")) qA)) (qb (dC (.str "0 0: a a")) qA))))))))))))))
  (qH (jz 6 (qt [.vl,.sl 1,.vl] uc (qb (qc 0) (kx (qb (qc 6) qA)))))
  (jl (Qx (d2 eqD (qt [.vl] (Qj ca) (qb (qc 6) qA)) (zD (qb (dC (.str "refused")) (qb (dC (.int 11)) qA)))) (d2 eqD (qt [.vl] (Qj ca) (qb (qc 4) qA)) (dIf (wS (qt [.vl] yr (qb (qc 4) qA))) (qc 4) (zD (qb (dC (.str "refused")) (qb (dC (.int 11)) qA))))))))))))))
abbrev qgI(ca:Str->Z7):jy:=jI qgG [.val] (qgH ca)
theorem qjb{f:Z7}{fd:mD}(Z:ZtE e0 ca)(F:Fun e0.K "law" "law" qdR f fd)(o:uD e0)(a:zI e0)(Q:Wf e0)(X:Xv e0)(O:qbE ca e0)(V:XA e0):FnOk e0.P e0.w e0.K e0.mg e0.base (CXk e0.P e0.w e0.mg) 22 f fd qi9 (spD e0.K e0.cv [.val] .sh (qgI ca)):=
 qjK (k:=21) (own':=[]) (fb:=qgH ca) F qja rfl (jK rfl) (.inl rfl) (λcdv A outer s H E c=>(qe (sO (jL qd))
  (qe (se (cN o (qa vr (sl (qa qp qd)))))
  (qe (se (cN X (qa vr (sl qd))))
  (qe (se (Uz rfl (jx (jG rfl) (jL (qa (jh (qaW) rfl Z.z_str Jh (ix vr qp)) (qa (jx (jG rfl) (jh (qaW) rfl Z.z_str Jh (ix vr qp)) qv) qd))) (jh (Uo rfl) rfl Z.z_list Kg (cN Q (qa vr (sl (qa qp qd))))))))
  (qe (kI bf rfl (vW rfl Z.z_range vr) gn
  (qe (se (cN o (qa vr (sl (qa (jx (jG rfl) 'g' qp) qd)))))
  (qe (se (cN a (qa vr (sl (qa (jL (qa qv (qa qv (qa qv (qa qv (qa qv (qa qv (qa qv (qa qv (qa qv (qa qv (qa qv (qa qv qd))))))))))))) qd)))))
  (qf (se (jx (jG rfl) (jx (jG rfl) (JV rfl vr kt (wt vr) kt) vr) (JV rfl vr (wt (jx (jG rfl) vr (cN o (qa vr (sl (qa qp qd)))))) kt kt)))))))
  (qe (se (jL (qa Yp (qa qv (qa qp (qa qv (qa qv (qa qv (qa qv (qa qv (qa qv (qa qv (qa (kN (qa qv qd)) (qa qv qd))))))))))))))
  (qe (se (cN a (qa vr (sl (qa vr qd)))))
  (qf (qg (QV (wH (wP rfl c.units) (cN O (qa vr qd)) (kN (qa qv (qa qp qd)))) (QU (wH (wP rfl c.units) (cN O (qa vr qd)) (GY (tv (cN V (qa vr qd))) vr (kN (qa qv (qa qp qd))))))))))))))))) λ_=>.inr rfl
end
end Kx
namespace Kx
open PySem PySem.Spec L2 L2.D2
variable{ρ:Sl}{ds:List D}{d:D}{ms:List PM}{n:Nat}{i:Int}{x y:Str}{b:Bool}
section
variable{as:List AK}{os:List D}{j:Int}{ks:List (Key×D)}
@[simp] theorem qmB:kf [] [] ρ=lm []:=rfl
@[simp] theorem qmC:kf (.sl n::as) (d::ds) ρ=match ρ[n]? with|some (lm d)=>(kf as ds ρ).map (d::·)|_=>none:=rfl
@[simp] theorem qmD:kf (.vl::as) (d::ds) ρ=(kf as ds ρ).map (d::·):=rfl
@[simp] theorem qmE:kf (.fr::as) (d::ds) ρ=(kf as ds ρ).map (d::·):=rfl
@[simp] theorem qmF:xJ [] [] ρ=ρ:=rfl
@[simp] theorem qmG:xJ (.sl n::as) (d::ds) ρ=xJ as ds (ρ.set n (lm d)):=rfl
@[simp] theorem qmH:xJ (.vl::as) (d::ds) ρ=xJ as ds ρ:=rfl
@[simp] theorem qmI:xJ (.fr::as) (d::ds) ρ=xJ as ds ρ:=rfl
@[simp] theorem qmJ:jC ρ n []=[]:=rfl
@[simp] theorem qmK:jC ρ n (.io::ms)=((ρ[n]?).getD lr).getD .non::jC ρ (n+1) ms:=rfl
@[simp] theorem qmL:jC ρ n (.val::ms)=.non::jC ρ (n+1) ms:=rfl
@[simp] theorem qmM:jC ρ n (.tk::ms)=.non::jC ρ (n+1) ms:=rfl
@[simp] theorem qmN:ko (.int i) (.int j)=.ok (.int (i+j)):=rfl
@[simp] theorem qmO:ko (.str x) (.str y)=if x.length+y.length<=Z8 then .ok (.str (x++y))else .bad:=rfl
@[simp] theorem qmr:ko (.lst ds) (.lst os)=if ds.length+os.length<=Z8 then .ok (.lst (ds++os))else .bad:=rfl
@[simp] theorem qmP:ko (.tup ds) (.tup os)=if ds.length+os.length<=Z8 then .ok (.tup (ds++os))else .bad:=rfl
@[simp] theorem qmQ:qkF .non .non=.ok (.bl lv):=rfl
@[simp] theorem qmR:qkF (.tup ds) .non=.ok (.bl lw):=rfl
@[simp] theorem qmS:qkF (.dct ks) .non=.ok (.bl lw):=rfl
@[simp] theorem qmT:qaa .non .non=.ok (.bl lw):=rfl
@[simp] theorem qmU:qaa (.tup ds) .non=.ok (.bl lv):=rfl
@[simp] theorem ylI:ltD (.int i) (.int j)=.ok (.bl (decide (i<j))):=rfl
@[simp] theorem ylS:ltD (.str x) (.str y)=.ok (.bl (wO x y)):=rfl
@[simp] theorem yeI:leD (.int i) (.int j)=.ok (.bl (decide (i<=j))):=rfl
@[simp] theorem yeS:leD (.str x) (.str y)=.ok (.bl (!wO y x)):=rfl
@[simp] theorem ygI:gtD (.int i) (.int j)=.ok (.bl (decide (j<i))):=rfl
@[simp] theorem ysI:qeg (.int i) (.int j)=.ok (.int (i - j)):=rfl
@[simp] theorem ytB:Gg (.bl b)=.ok b:=rfl
@[simp] theorem ytI:Gg (.int i)=.ok (i != 0):=rfl
@[simp] theorem ytN:Gg .non=.ok false:=rfl
@[simp] theorem ytL:Gg (.lst ds)=.ok (!ds.isEmpty):=rfl
@[simp] theorem ytT:Gg (.tup ds)=.ok (!ds.isEmpty):=rfl
@[simp] theorem ynS:kO (.str x)=.ok (.int x.length):=rfl
@[simp] theorem ynL:kO (.lst ds)=.ok (.int ds.length):=rfl
@[simp] theorem ynT:kO (.tup ds)=.ok (.int ds.length):=rfl
@[simp] theorem ynD:kO (.dct ks)=.ok (.int ks.length):=rfl
end
variable{α:Type}
theorem uq(xs:List α)(k:Nat):atI xs (k:Int)=xs[k]?:=by
 unfold atI ixN;rw[Aa 'b'];by_cases h:k<xs.length;·rw[Aa 'b'];simp
 .rw[Ab 'b',cC 'b'];rfl
theorem qjc{xs:List α}(a:0<=i)(h1:i<xs.length):∃d,atI xs i=lm d/\d∈xs:=by
 obtain⟨k,rfl⟩:=dL a;have h:k<xs.length:=by lia
 exact⟨xs[k],by rw[uq,aG h],cF h⟩
theorem big:2000<=Z8:=by rw[lE];decide
abbrev scr(ns:List Int):D:=.lst (ns.map .int)
theorem qgJ(ns:List Int)(k:Nat):∃i,xB [scr ns,.int k]=.ok (.int i,[.non,.non]):=by
 by_cases h:k<ns.length;·refine⟨ns[k],?_⟩;refine qo.trans ?_;simp[uC,qr,ixD,h,uq]
 .by_cases a:ns=[]
  .subst a;have b:¬((k:Int)<0):=by lia
   exact⟨0,by refine qo.trans ?_;simp[uC,qr,ixD,eqD,eqN,wI,b]⟩
  .have hp:0<ns.length:=List.length_pos_iff.mpr a;have c:k % ns.length<ns.length:=hZ _ hp;have e:atI (ns.map D.int) ((k:Int) % (ns.length:Int))=lm (.int ns[k % ns.length]):=by rw[show((k:Int) % (ns.length:Int))=((k % ns.length:Nat):Int) by simp,uq,aJ,aG c];rfl
   refine⟨ns[k % ns.length] * 31+k,?_⟩;refine qo.trans ?_;simp[uC,qr,ixD,eqD,eqN,h,a,qcs,qhw,KU,hp,e,CMul]
variable{many:Int}
theorem qdS(ns:List Int)(k:Nat)(h:0<many):∃r,0<=r/\r<many/\Kh [scr ns,.int k,.int many]=.ok (.int r,[.non,.non,.non]):=by
 obtain⟨c,a⟩:=qgJ ns k;have h1:=fD (c * 1103515245+7919 * k+12345) (show(2147483647:Int)≠0 by decide);have h2:=dX (c * 1103515245+7919 * k+12345) (show(0:Int)<2147483647 by decide);generalize hd:(c * 1103515245+7919 * (k:Int)+12345) % 2147483647=d at h1 h2;have c1:L2.D2.qj0 d 5:=⟨⟨by lia,by lia⟩,by lia,by lia⟩
 refine⟨d ^ 5 % 2147483647 % 999983 % many,fD _ 'b',dX _ h,?_⟩;refine qo.trans ?_;simp[Xp,qr,a,qhw,qcs,qk5,KU,h,hd,c1,show ∀j,CMul 7919 j from λj=>.inl ⟨by lia,by lia⟩,show ∀i,CMul i 1103515245 from λi=>.inr ⟨by lia,by lia⟩]
theorem ur(ns:List Int)(t:List D)(c:0<many)(ht:t.length<1000):∃r,0<=r/\r<many/\vg [scr ns,.lst t,.int many]=.ok (.int r,[.non,.lst (t++[.int 0]),.non]):=by obtain⟨r,a,h1,h⟩:=qdS ns (t.length+1) c;have hl:t.length<Z8:=aK (dQ ht 'e') big;refine⟨r,a,h1,?_⟩;simp at h;refine qo.trans ?_;simp[qbn,qr,zr,YG,hl,h]
theorem KH(ns:List Int)(t xs:List D)(hx:xs≠[])(ht:t.length<1000):∃d,d∈xs/\uc [scr ns,.lst t,.lst xs]=.ok (d,[.non,.lst (t++[.int 0]),.non]):=by have hp:0<xs.length:=List.length_pos_iff.mpr hx;obtain⟨r,a,h1,h⟩:=ur ns t (many:=(xs.length:Int)) 'b' ht;obtain⟨d,e,hd⟩:=qjc (xs:=xs) a h1;refine⟨d,hd,?_⟩;refine qo.trans ?_;simp[qbp,qr,h,ixD,e]
def az(c:Nat):Prop:=97<=c/\c<=122
def KI(w:Str):Prop:=1<=w.length/\w.length<=6/\∀c∈w.cps.toList,az c
theorem Qk(x:Str):x.length=x.cps.size:=rfl
theorem qbM(x y:Str):(x++y).cps=x.cps++y.cps:=rfl
def qj6(ls:List Str):Prop:=ls≠[]/\∀x∈ls,∃c,az c/\x=⟨#[c]⟩
theorem qbN:∀cs:List Nat,fA (aa "") (cs.map λc=>(⟨#[c]⟩:Str))=⟨cs.toArray⟩:=by
 intro cs;have e:∀cs:List Nat,eG (aa "") (cs.map λc=>(⟨#[c]⟩:Str))=⟨cs.toArray⟩:=by
  intro cs
  induction cs with
  |nil=>rfl
  | cons c cs j=>
   cases cs with
   |nil=>rfl
   | cons d ds=>
    show(⟨#[c]⟩:Str)++aa ""++eG (aa "") ((d::ds).map λc=>(⟨#[c]⟩:Str))=_;rw[j];have:((⟨#[c]⟩:Str)++aa ""++(⟨(d::ds).toArray⟩:Str)).cps=(c::d::ds).toArray:=by
     rw[qbM,qbM];have:(aa "").cps=#[]:=by decide +kernel
     rw[this];simp
    generalize h:(⟨#[c]⟩:Str)++aa ""++(⟨(d::ds).toArray⟩:Str)=x at this;obtain⟨y⟩:=x;simp only at this;rw[this]
 unfold fA;rw[StrLaws.glued_eq_join];exact e cs
theorem XB:∀cs:List Nat,((cs.map λc=>(⟨#[c]⟩:Str)).map (·.length)).sum=cs.length
 |[]=>rfl
 |c::cs=>by
  have j:=XB cs;rw[aF,aF,iS,j,ah];show 1 + _=_
  lia
theorem kE:∀ws:List Str,yi (ws.map D.str)=lm ws
 |[]=>rfl
 |w::ws=>by simp[yi,kE ws]
variable{ls:List Str}
theorem WB(ns:List Int)(hl:qj6 ls):∀(ds:List D)(t:List D)(k:Option D),t.length+ds.length<1000 ->∃(cs:List Nat)(a:List D)(k':Option D),a.length=t.length+ds.length/\cs.length=ds.length/\(∀c∈cs,az c) /\
   jY (gNm 0) ftT (qt [.vl,.sl 2,.vl] uc (qb (qc 1) (kx (qb (qc 3) qA)))) ds [k,lm (scr ns),lm (.lst t),lm (.lst (ls.map D.str))]
    = .ok ((cs.map λc=>(⟨#[c]⟩:Str)).map D.str,[k',lm (scr ns),lm (.lst a),lm (.lst (ls.map D.str))])
 |[],t,k,_=>⟨[],t,k,by simp,rfl,by simp,rfl⟩
 | d::ds,t,k,ht=>by
  rw[ah]at ht;obtain⟨e,he,hp⟩:=KH ns t (ls.map D.str) (by simpa using hl.1) 'b';obtain⟨x,hx,rfl⟩:=aw.mp he;obtain⟨c,h,rfl⟩:=hl.2 x hx;obtain⟨cs,a,k',o,m,z,b⟩:=WB ns hl ds (t++[.int 0]) (lm d) (by rw[am];simp;lia);refine⟨c::cs,a,k',?_,by simp[m],?_,?_⟩
  .rw[o,am,ah];simp
   lia
  .intro y B;rcases af.mp B with rfl|B;·exact h
   .exact z y B
  .simp[jY,JS,hp,b]
theorem qgK(ns:List Int)(t:List D)(hl:qj6 ls)(ht:t.length<900):∃w a,KI w/\a.length<=t.length+8/\Ki [scr ns,.lst t,.lst (ls.map D.str),.int 6]=.ok (.str w,[.non,.lst a,.non,.non]):=by
 obtain⟨r,r0,r1,h⟩:=ur ns t (many:=6) 'b' 'b';have n:(Qz 0 (1+r).toNat).length=(1+r).toNat:=by simp[Qz]
 obtain⟨cs,a,k',o,m,b,y⟩:=WB ns hl (Qz 0 (1+r).toNat) (t++[.int 0]) lr (by rw[n,am];simp;lia);rw[n]at o m;rw[am]at o;simp at o;refine⟨⟨cs.toArray⟩,a,⟨?_,?_,?_⟩,by lia,?_⟩;·show 1<=cs.toArray.size;simp;lia
 .show cs.toArray.size<=6;simp;lia
 .simpa using b
 .refine qo.trans ?_;have c1:-(2 ^ 62:Int)<=1+r/\1+r<2 ^ 62:=by lia
  have hb:=big;have z:(Qz 0 (1+r).toNat).length<=Z8:=by rw[n];lia
  have e0:cD (aa "")=0:=by decide +kernel
  have hs:=XB cs;have j:QF (aa "") (.lst ((cs.map λc=>(⟨#[c]⟩:Str)).map D.str))=.ok (.str ⟨cs.toArray⟩):=by unfold QF;simp only[kE,qbN,hs];rw[Aa ⟨by simp[e0];lia,by show cs.toArray.size<=_;simp;lia⟩]
  simp only[qbr,qr,Ux,yL,qP];simp[-bV,h,kg,-Int.reducePow,c1,z,kQ,y,jP,j]
theorem vp(w:Str):∀ws:List Str,QT 7 (.str w) (ws.map D.str)=lm (decide (w∈ws))
 |[]=>by simp[QT]
 |a::ws=>by
  have j:=vp w ws;simp only[aF,QT,j];simp[eqN,eqS];by_cases h:a=w;·simp[h]
  .simp[h,bj h]
def vQ(ws:List Str):Prop:=1<=ws.length/\ws.length<=6/\ws.Nodup/\∀w∈ws,KI w
abbrev qbO:qM:=(qH (jz 6 (qt [.vl,.sl 1,.vl,.vl] Ki (qb (qc 0) (kx (qb (qc 3) (qb (dC (.int 6)) qA))))))
  (sIf (qK (d2 Jc (qc 6) (qc 4))) (kG (Qu 4 YG (qc 6))) jd))
theorem xH(ns:List Int)(m:D)(h:qj6 ls):∀(ds:List D)(n:List D)(ws:List Str)(k u:Option D),n.length+8 * ds.length<900->ws.length+ds.length<=100->ws.Nodup->(∀w∈ws,KI w) ->∃(t:List D)(c:List Str)(k' U:Option D),t.length<=n.length+8 * ds.length/\c.length<=ws.length+ds.length/\ws.length<=c.length/\(ds≠[]->1<=c.length)/\c.Nodup/\(∀w∈c,KI w) /\
   jU (gNm 5) qbO ds [lm (scr ns),lm (.lst n),lm m,lm (.lst (ls.map D.str)),lm (.lst (ws.map D.str)),k,u]=.ok (.nx,[lm (scr ns),lm (.lst t),lm m,lm (.lst (ls.map D.str)),lm (.lst (c.map D.str)),k',U])
 |[],n,ws,k,u,_,_,hn,hw=>⟨n,ws,k,u,by simp,by simp,by simp,by simp,hn,hw,rfl⟩
 | d::ds,n,ws,k,u,ht,hl,hn,hw=>by
  rw[ah]at ht hl;obtain⟨w,j,W,y,hg⟩:=qgK ns n h 'b';have hb:=big;have l:ws.length<Z8:=by lia
  by_cases e:w∈ws
  .obtain⟨t,c,k',U,r,i,f,p,q,g,B⟩:=xH ns m h ds j ws (lm d) (lm (.str w)) 'b' 'b' hn hw;refine⟨t,c,k',U,by rw[ah];lia,by rw[ah];lia,f,λ_=>?_,q,g,?_⟩
   .have:0<ws.length:=dY e
    lia
   .rw[<-B];simp[jU,qbO,hg,Jc,Ue,inD,vp,e]
  .obtain⟨t,c,k',U,r,i,f,p,q,g,B⟩:=xH ns m h ds j (ws++[w]) (lm d) (lm (.str w)) 'b' (by rw[am];simp;lia) (d9.mpr ⟨hn,by simp,λa o b hb=>by
    rw[ay.mp hb];exact λz=>e (z ▸ o)⟩) (λx hx=>by
    rcases aI.mp hx with hx|hx;·exact hw x hx
    .rw[ay.mp hx];exact W)
   rw[am]at i f;simp at i f;refine⟨t,c,k',U,by rw[ah];lia,by rw[ah];lia,by lia,λ_=>by lia,q,g,?_⟩;rw[<-B];simp[jU,qbO,hg,Jc,Ue,inD,vp,e,zr,YG,l]
noncomputable def qhF:List (List Str):=[["a","b"],["a","b","c"],["a","b","c","d"],["k","m","z","a","e"]]
theorem qgL:∀ls∈qhF,qj6 ls:=by
 have h1:∀ls∈qhF,∀x∈ls,x∈(["a","b","c","d","k","m","z","e"]:List Str):=by decide +kernel
 have h2:∀ls∈qhF,ls≠[]:=by decide +kernel
 intro ls h;refine⟨h2 ls h,λx hx=>?_⟩;have g:=h1 ls h x hx;simp only[af,bM,or_false]at g;rcases g with rfl|rfl|rfl|rfl|rfl|rfl|rfl|rfl;·exact⟨97,by unfold az;decide,by decide +kernel⟩
 .exact⟨98,by unfold az;decide,by decide +kernel⟩
 .exact⟨99,by unfold az;decide,by decide +kernel⟩
 .exact⟨100,by unfold az;decide,by decide +kernel⟩
 .exact⟨107,by unfold az;decide,by decide +kernel⟩
 .exact⟨109,by unfold az;decide,by decide +kernel⟩
 .exact⟨122,by unfold az;decide,by decide +kernel⟩
 .exact⟨101,by unfold az;decide,by decide +kernel⟩
theorem qdT(ns:List Int)(t:List D)(ht:t.length<700):∃ws a,vQ ws/\ws.length<=6/\a.length<=t.length+50/\Kj [scr ns,.lst t,.int 6]=.ok (.tup (ws.map D.str),[.non,.lst a,.non]):=by
 obtain⟨d,hd,hp⟩:=KH ns t (qhF.map λl=>.lst (l.map D.str)) (by simp[qhF]) 'b';obtain⟨ls,s,rfl⟩:=aw.mp hd;have hl:=qgL ls s;obtain⟨r,r0,r1,g⟩:=ur ns (t++[.int 0]) (many:=6) 'b' (by rw[am];simp;lia);have n:(Qz 0 (1+r).toNat).length=(1+r).toNat:=by simp[Qz]
 obtain⟨a,c,k',U,o,m,k,y,q,j,B⟩:=xH ns (.int 6) hl (Qz 0 (1+r).toNat) (t++[.int 0]++[.int 0]) [] lr lr (by rw[n,am,am];simp;lia) (by rw[n];simp;lia) dI 'f';have f:Qz 0 (1+r).toNat≠[]:=λz=>by
  rw[z]at n;simp at n
  lia
 refine⟨c,a,⟨y f,?_,q,j⟩,?_,?_,?_⟩
 .rw[n]at m;simp at m
  lia
 .rw[n]at m;simp at m
  lia
 .rw[n,am,am]at o;simp at o
  lia
 .refine qo.trans ?_;have c1:-(2 ^ 62:Int)<=1+r/\1+r<2 ^ 62:=by lia
  have hb:=big;have i:4<=Z8:=by lia
  have e:2<=Z8:=by lia
  have b:3<=Z8:=by lia
  have h:5<=Z8:=by lia
  simp only[cu,iV,ij,cV]at B g;simp only[qhF,aF,cV]at hp;simp[Xu,qr,hp,g,kg,-Int.reducePow,c1,i,e,b,h,B,wJ]
def QO(p q:Int):Prop:=(-3<=p/\p<=2)/\-3<=q/\q<=2
theorem qgM(ns:List Int)(t:List D)(ht:t.length<900):∃p q a,QO p q/\a.length=t.length+2/\Kk [scr ns,.lst t]=.ok (.tup [.int p,.int q],[.non,.lst a]):=by
 obtain⟨r,r0,r1,c⟩:=ur ns t (many:=6) 'b' 'b';obtain⟨u,e,b,d⟩:=ur ns (t++[.int 0]) (many:=6) 'b' (by rw[am];simp;lia);have hb:=big;have z:2<=Z8:=by lia
 refine⟨r - 3,u - 3,t++[.int 0,.int 0],⟨⟨by lia,by lia⟩,by lia,by lia⟩,by simp,?_⟩;refine qo.trans ?_;simp only[cu,iV,ij]at d;simp[qbu,qr,c,d,KU,z]
noncomputable def xi(n:Nat)(p:Int):Nat:=(max 0 (min (if 0<=p then p else(n:Int)+p) ((n:Int) - 1))).toNat
def Gj(w:Str)(p:Int):Str:=⟨#[(w.cps.toList[xi w.length p]?).getD 0]⟩
variable{w:Str}
theorem zm(hw:KI w)(p:Int):vj [.str w,.int p]=.ok (.str (Gj w p),[.non,.non]):=by
 have h1:=hw.1;have h:(w.cps.toList.length:Int)=w.length:=by simp[Qk]
 have key:∀q:Int,q=(if 0<=p then p else(w.length:Int)+p)->atI w.cps.toList (if 0<(if (w.length:Int) - 1<q then(w.length:Int) - 1 else q)then(if (w.length:Int) - 1<q then(w.length:Int) - 1 else q)else 0)=lm ((w.cps.toList[xi w.length p]?).getD 0):=by
  intro q hq;have e:(if 0<(if (w.length:Int) - 1<q then(w.length:Int) - 1 else q)then(if (w.length:Int) - 1<q then(w.length:Int) - 1 else q)else 0)=(xi w.length p:Int):=by
   unfold xi;rw[<-hq];have:1<=(w.length:Int):=by omega
   generalize (w.length:Int)=n at *;split <;> split <;> omega
  have hl:xi w.length p<w.cps.toList.length:=by
   have Y:w.cps.toList.length=w.length:=by simp[Qk]
   rw[Y];unfold xi;omega
  rw[e,uq,aG hl];rfl
 refine qo.trans ?_;by_cases hp:0<=p;·have k:=key p (by rw[Aa hp]);simp[ym,qr,geD,KU,hp,qjN,qjO,ixD,k,Gj]
 .have k:=key (w.length+p) (by rw[Ab hp]);simp[ym,qr,geD,KU,hp,qjN,qjO,ixD,k,Gj]
theorem qbP(h:KI w):(∃a,w=⟨#[a]⟩)\/(∃a b,w=⟨#[a,b]⟩)\/(∃a b c,w=⟨#[a,b,c]⟩)\/(∃a b c d,w=⟨#[a,b,c,d]⟩)\/(∃a b c d e,w=⟨#[a,b,c,d,e]⟩)\/∃a b c d e f,w=⟨#[a,b,c,d,e,f]⟩:=by
 obtain⟨⟨l⟩⟩:=w;have h1:1<=l.length:=h.1;have h2:l.length<=6:=h.2.1
 match l,h1,h2 with
 |[a],_,_=>exact .inl ⟨a,rfl⟩
 |[a,b],_,_=>exact .inr (.inl ⟨a,b,rfl⟩)
 |[a,b,c],_,_=>exact .inr (.inr (.inl ⟨a,b,c,rfl⟩))
 |[a,b,c,d],_,_=>exact .inr (.inr (.inr (.inl ⟨a,b,c,d,rfl⟩)))
 |[a,b,c,d,e],_,_=>exact .inr (.inr (.inr (.inr (.inl ⟨a,b,c,d,e,rfl⟩))))
 |[a,b,c,d,e,f],_,_=>exact .inr (.inr (.inr (.inr (.inr ⟨a,b,c,d,e,f,rfl⟩))))
variable{p:Int}
theorem WC(hw:KI w)(h:-3<=p)(h1:p<=2):qbF [.str w,.int p]=.ok (.str (Gj w p),[.non,.non]):=by
 have hp:p=-3\/p=-2\/p=-1\/p=0\/p=1\/p=2:=by lia
 rcases qbP hw with⟨a,rfl⟩|⟨a,b,rfl⟩|⟨a,b,c,rfl⟩|⟨a,b,c,d,rfl⟩|⟨a,b,c,d,e,rfl⟩|⟨a,b,c,d,e,f,rfl⟩ <;> rcases hp with rfl|rfl|rfl|rfl|rfl|rfl <;> kernel_rfl
variable{own:List Nat}
theorem uH(ρc:Sl):∀(cap:List Nat)(n:Nat)(ρ:Sl),(∀k∈cap,k∉own)->jP own ρc n cap ρ=ρ
 |[],n,ρ,_=>rfl
 |k::cap,n,ρ,h=>by unfold jP;rw[Ab (h k (aj ..))];exact uH ρc cap (n+1) ρ λx hx=>h x (ae _ hx)
theorem qjd{fe:qW}{ft:yu}{P:D->Bool}{F:D->D}{c:Sl}:∀(ds:List D)(x:Option D),(∀d∈ds,ft (lm d::c)=.ok (P d,lm d::c))->(∀d∈ds,P d=lv->fe (lm d::c)=.ok (F d,lm d::c))->∃m,jY (gNm 0) ft fe ds (x::c)=.ok ((ds.filter P).map F,m::c)
 |[],x,_,_=>⟨x,rfl⟩
 |d::ds,x,h,h'=>by
  obtain⟨m,e⟩:=qjd ds (lm d) (λd' hd=>h d' (ae _ hd)) λd' hd=>h' d' (ae _ hd);refine⟨m,?_⟩;have h1:=h d (aj ..);have h2:=h' d (aj ..);cases q:P d with
  |true=>simp[jY,JS,h1,q,h2 q,e]
  |false=>simp[jY,JS,h1,q,e]
variable{cap:List Nat}{ρ1:Sl}
theorem qbQ{fi:vV}{fe:qW}{ft:yu}(P:D->Bool)(F:D->D)(l:∀k∈cap,k∉own)(h:fi ρ=.ok (ds,ρ1))(hl:ds.length<=Z8)(ht:∀d∈ds,ft (lm d::cap.map λk=>(ρ1[k]?).getD lr)=.ok (P d,lm d::cap.map λk=>(ρ1[k]?).getD lr))(he:∀d∈ds,P d=lv->fe (lm d::cap.map λk=>(ρ1[k]?).getD lr)=.ok (F d,lm d::cap.map λk=>(ρ1[k]?).getD lr)) :
  qP own 1 cap fi (gNm 0) ft fe ρ=.ok (.lst ((ds.filter P).map F),ρ1):=by
 obtain⟨m,e⟩:=qjd ds lr ht he;unfold qP;rw[h];simp only[ky];rw[Aa hl,show kQ 1 cap ρ1=lr::cap.map λk=>(ρ1[k]?).getD lr from rfl,e];simp only[ky,uH _ _ _ _ l]
theorem qbR{fi:vV}{fe:qW}(F:D->D)(l:∀k∈cap,k∉own)(h:fi ρ=.ok (ds,ρ1))(hl:ds.length<=Z8)(ht:∀d∈ds,fe (lm d::cap.map λk=>(ρ1[k]?).getD lr)=.ok (F d,lm d::cap.map λk=>(ρ1[k]?).getD lr)):qP own 1 cap fi (gNm 0) ftT fe ρ=.ok (.lst (ds.map F),ρ1):=by have e:=qbQ (ft:=ftT) (λ_=>lv) F l h hl (λ_ _=>rfl) λd hd _=>ht d hd;rw[fj.mpr λ_ _=>rfl]at e;exact e
theorem wg{fi:vV}{fe:qW}(F:D->D)(h:fi ρ=.ok (ds,ρ1))(hl:ds.length<=Z8)(ht:∀d∈ds,fe (lm d::cap.map λk=>(ρ1[k]?).getD lr)=.ok (F d,lm d::cap.map λk=>(ρ1[k]?).getD lr)):qP [] 1 cap fi (gNm 0) ftT fe ρ=.ok (.lst (ds.map F),ρ1):=qbR F (λ_ _=>by simp) h hl ht
def qQ(ws:List Str)(p q:Int):List (Str×Str):=ws.map λw=>(Gj w p,Gj w q)
noncomputable def ql(l:List (Str×Str)):List D:=l.map λx=>.tup [.str x.1,.str x.2]
theorem qJ(h:n<=2000):n<=Z8:=bn h big
abbrev Wd(ws:List Str):D:=.tup (ws.map D.str)
abbrev Ld(p q:Int):D:=.tup [.int p,.int q]
variable{ws:List Str}{S:D}{q:Int}
theorem JB{G:jy}(h:ju S=.ok (ws.map D.str))(n:ws.length<=17)(a:∀w∈ws,G [.str w,.int p]=.ok (.str (Gj w p),[.non,.non])/\G [.str w,.int q]=.ok (.str (Gj w q),[.non,.non])):qP [] 1 [1] (jv (qc 0)) (gNm 0) ftT (zD (qb (qt [.vl,.vl] G (qb (qc 0) (qb (d2 ixD (qc 1) 'n') qA))) (qb (qt [.vl,.vl] G (qb (qc 0) (qb (d2 ixD (qc 1) 'i') qA))) qA))) [lm S,lm (Ld p q)]
   = .ok (.lst (ql (qQ ws p q)),[lm S,lm (Ld p q)]):=by
 have e:=wg (cap:=[1]) (fi:=jv (qc 0)) (ρ:=[lm S,lm (Ld p q)]) (ρ1:=[lm S,lm (Ld p q)]) (ds:=ws.map D.str)
  (fe:=(zD (qb (qt [.vl,.vl] G (qb (qc 0) (qb (d2 ixD (qc 1) 'n') qA))) (qb (qt [.vl,.vl] G (qb (qc 0) (qb (d2 ixD (qc 1) 'i') qA))) qA))))
  (λd=>match d with|.str w=>.tup [.str (Gj w p),.str (Gj w q)]|d=>d) (by simp[h]) (by rw[aq];exact qJ 'b') (λd hd=>by obtain⟨w,c,rfl⟩:=aw.mp hd;obtain⟨h1,h2⟩:=a w c;have z:2<=Z8:=qJ 'b';simp[ixD,atI,ixN,h1,h2,z])
 rw[e];simp[ql,qQ]
theorem UZ(hw:∀w∈ws,KI w)(n:ws.length<=17)(hl:QO p q):yq [.lst (ws.map D.str),Ld p q]=.ok (.lst (ql (qQ ws p q)),[.non,.non]):=by
 refine qo.trans ?_;have e:=JB (G:=qbF) (S:=.lst (ws.map D.str)) rfl n (p:=p) (q:=q) λw c=>⟨WC (hw w c) hl.1.1 hl.1.2,WC (hw w c) hl.2.1 hl.2.2⟩
 unfold qbI;rw[Ux,show qr qbH [.lst (ws.map D.str),Ld p q]=[lm (.lst (ws.map D.str)),lm (Ld p q)]from rfl,e];rfl
@[simp] theorem kk3:Uq "int" "int"=lm true:=by decide +kernel
@[simp] theorem kb3:Uq "int" "bool"=lm false:=by decide +kernel
@[simp] theorem ks4:Uq "str" "str"=lm true:=by decide +kernel
@[simp] theorem kt5:Uq "tuple" "tuple"=lm true:=by decide +kernel
def Ql:D->Bool
 |.str x=>decide (x.length=1)&&(!wO x "a"&&!wO "z" x)
 |_=>lw
theorem zn(x:Str):vh [.str x]=.ok (.bl (Ql (.str x)),[.non]):=by
 refine qo.trans ?_;by_cases h1:x.length=1
 .have c:(x.length:Int)=1:=by lia
  cases h2:wO x "a" <;> simp[yl,qr,xL,tyN,eqD,eqN,eqS,Ql,h1,c,h2]
 .have c:¬(x.length:Int)=1:=by lia
  simp[yl,qr,xL,tyN,eqD,eqN,eqS,Ql,h1,c]
theorem kY{lo hi:Int}(h:lo<=i/\i<=hi):jR [.int i,.int lo,.int hi]=.ok (.bl lv,[.non,.non,.non]):=by refine qo.trans ?_;simp[xR,qr,xL,tyN,h.1,h.2]
theorem qbS{c:Nat}(h:az c):Ql (.str ⟨#[c]⟩)=true:=by
 have f:(aa "a").cps.toList=[97]:=by decide +kernel
 have z:(aa "z").cps.toList=[122]:=by decide +kernel
 obtain⟨h1,h2⟩:=h;have i:¬([c]:List Nat) < [97]:=by rw[fY];simp;omega
 have l:¬([122]:List Nat) < [c]:=by rw[fY];simp;omega
 have e1:wO ⟨#[c]⟩ (aa "a")=false:=by unfold wO;rw[f];exact Ac i
 have e:wO (aa "z") ⟨#[c]⟩=false:=by unfold wO;rw[z];exact Ac l
 simp[Ql,Qk,e1,e]
theorem JC(f:α->Bool):∀l:List α,vX (l.map λx=>.bl (f x))=lm (l.map f)
 |[]=>rfl
 |a::l=>by have j:=JC f l;simp[vX,j]
theorem uI(f:α->Bool)(l:List α):YJ (.lst (l.map λx=>.bl (f x)))=.ok (.bl (l.all f)):=by simp only[YJ,JC];simp[iX,iL]
theorem qbT(hw:KI w)(p:Int):∃c,az c/\Gj w p=⟨#[c]⟩:=by
 have n:w.cps.toList.length=w.length:=by simp[Qk]
 have hl:xi w.length p<w.cps.toList.length:=by have:=hw.1;rw[n];unfold xi;omega
 refine⟨w.cps.toList[xi w.length p],hw.2.2 _ (cF hl),?_⟩;unfold Gj;rw[aG hl];rfl
def wdB(x:Str):Bool:=(decide (1<=x.length)&&decide (x.length<=6))&&(xz x).all Ql
theorem qbU{c:Nat}(h:Ql (.str ⟨#[c]⟩)=lv):az c:=by
 have f:(aa "a").cps.toList=[97]:=by decide +kernel
 have z:(aa "z").cps.toList=[122]:=by decide +kernel
 simp only[Ql,wO,f,z,aO,d8,decide_eq_false_iff_not]at h;obtain⟨_,h1,h2⟩:=h;simp[fY]at h1 h2;exact⟨by lia,by lia⟩
theorem KJ:wdB w=lv↔KI w:=by simp only[wdB,aO,decide_eq_true_eq,aW];refine⟨λh=>⟨h.1.1,h.1.2,λc a=>qbU (h.2 _ (aw.mpr ⟨c,a,rfl⟩))⟩,λh=>⟨⟨h.1,h.2.1⟩,λd hd=>?_⟩⟩;obtain⟨c,a,rfl⟩:=aw.mp hd;exact qbS (h.2.2 c a)
theorem Qm(x:Str):vi [.str x]=.ok (.bl (wdB x),[.non]):=by
 refine qo.trans ?_;by_cases h1:1<=x.length
 .have h:(1:Int)<=x.length:=by lia
  by_cases b:x.length<=6
  .have e:=wg (cap:=[]) (fi:=jv (qc 0)) (ρ:=[lm (.str x)]) (ρ1:=[lm (.str x)]) (ds:=xz x) (fe:=qt [.vl] vh (qb (qc 0) qA)) (λd=>.bl (Ql d)) (by simp[ju]) (by
    simp[xz,<-Qk];exact qJ 'b') (λd hd=>by
    obtain⟨c,f,rfl⟩:=aw.mp hd;have h1:=zn ⟨#[c]⟩;simp[h1])
   have a:(x.length:Int)<=6:=by lia
   have w:wdB x=(xz x).all Ql:=by simp[wdB,h1,b]
   rw[w];simp only[yU,qr,aF,cV,ah,bv,Nat.reduceAdd,fW,dF,bw];simp[xL,tyN,h,a,e,uI]
  .have a:¬(x.length:Int)<=6:=by lia
   simp[yU,qr,xL,tyN,wdB,b,h,a]
 .have h:¬(1:Int)<=x.length:=by lia
  simp[yU,qr,xL,tyN,wdB,h1,h]
theorem JD(hw:KI w):vi [.str w]=.ok (.bl lv,[.non]):=by rw[Qm,KJ.mpr hw]
theorem yt:∀(ws ks:List Str),ws.Nodup->(∀x∈ws,x∉ks)->ws.foldl QD ks=ks++ws
 |[],ks,_,_=>by simp
 | w::ws,ks,hn,hd=>by
  have h1:=aZ.mp hn;rw[cj,show QD ks w=ks++[w]from Ab (hd w (aj ..)),yt ws (ks++[w]) h1.2 ?_];·simp
  .intro x hx z;rcases aI.mp z with z|z;·exact hd x (ae _ hx) z
   .rw[ay.mp z]at hx;exact h1.1 hx
set_option tactic.hygienic true in
theorem Qn(ws:List Str):∀ks:List Str,ks.Nodup->(ws.foldl QD ks).Nodup/\∀x,x∈ws.foldl QD ks↔x∈ks\/x∈ws:=by
 induction ws with
 |nil=>intro ks n;exact⟨n,λx=>by simp⟩
 | cons w ws j=>
  intro ks n;have d:(QD ks w).Nodup:=by
   unfold QD;split;·exact n
   .rename_i h;exact d9.mpr ⟨n,by simp,λa f b hb=>by rw[ay.mp hb];exact λz=>h (z ▸ f)⟩
  obtain⟨a,b⟩:=j (QD ks w) d;refine⟨a,λx=>?_⟩;rw[cj,b x];unfold QD;split
  .rename_i h;constructor
   .rintro(q|q);·exact .inl q
    .exact .inr (ae _ q)
   .rintro(q|q);·exact .inl q
    .rcases af.mp q with rfl|q;·exact .inl h
     .exact .inr q
  .simp[aI,or_assoc]
theorem Yb(hw:vQ ws):xD [.tup (ws.map D.str)]=.ok (.bl lv,[.non]):=by
 refine qo.trans ?_;have e:=wg (cap:=[]) (fi:=jv (qc 0)) (ρ:=[lm (.tup (ws.map D.str))]) (ρ1:=[lm (.tup (ws.map D.str))]) (ds:=ws.map D.str) (fe:=qt [.vl] vi (qb (qc 0) qA)) (λd=>.bl lv) (by simp[ju]) (by
   rw[aq];exact qJ (by have:=hw.2.1;lia)) (λd hd=>by
   obtain⟨w,c,rfl⟩:=aw.mp hd;have h1:=JD (hw.2.2.2 w c);simp[h1])
 have h1:(1:Int)<=ws.length:=by have:=hw.1;lia
 have b:(ws.length:Int)<=6:=by have:=hw.2.1;lia
 have h:ws.foldl QD []=ws:=by rw[yt ws [] hw.2.2.1 'f'];simp
 have a:ws.length<4000:=by lia
 have f:=uI (λ_:D=>lv) (ws.map D.str);simp only[Jk,qr,aF,cV,ah,bv,Nat.reduceAdd,fW,dF,bw];simp[-bV,xL,tyN,h1,b,e,f,gB,wK,kE,h,a,eqD,eqN,eqS]
theorem QN(hw:vQ ws):wx [.tup (ws.map D.str)]=.ok (.non,[.non]):=by refine qo.trans ?_;have h:=Yb hw;simp[yW,qr,h]
theorem Gb(hl:QO p q):gM [.tup [.int p,.int q]]=.ok (.bl lv,[.non]):=by
 refine qo.trans ?_;have e:=wg (cap:=[]) (fi:=jv (qc 0)) (ρ:=[lm (.tup [.int p,.int q])]) (ρ1:=[lm (.tup [.int p,.int q])]) (ds:=[.int p,.int q]) (fe:=qt [.vl,.vl,.vl] jR (qb (qc 0) (qb (dC (.int (-3))) (qb (dC (.int 2)) qA)))) (λ_=>.bl lv) (by simp[ju]) (qJ 'f') (λd hd=>by
   have hd:d=.int p\/d=.int q:=by simpa using hd
   have h1:=kY hl.1;have h2:=kY hl.2;rcases hd with rfl|rfl;·simp[h1]
   .simp[h2])
 simp only[Wm,qr,aF,cV,ah,bv,Nat.reduceAdd,fW,dF,bw];simp[xL,tyN,neD,eqN,eqS,e,YJ,vX]
theorem xj(hl:QO p q):vD [.tup [.int p,.int q]]=.ok (.non,[.non]):=by refine qo.trans ?_;have h:=Gb hl;simp[xT,qr,h]
theorem XD(hw:vQ ws)(hl:QO p q):gO [Wd ws,Ld p q]=.ok (.lst (ql (qQ ws p q)),[.non,.non]):=by
 refine qo.trans ?_;have e:=JB (G:=vj) (S:=Wd ws) rfl (by have:=hw.2.1;lia) (p:=p) (q:=q) λw c=>⟨zm (hw.2.2.2 w c) p,zm (hw.2.2.2 w c) q⟩
 have c1:=QN hw;have c2:=xj hl;simp only[qby,qr,aF,cV,ah,bv,Nat.reduceAdd,fW,dF,bw];simp[c1,c2,e]
def LS(l:List (Str×Str)):List Str:=vt ((l.map (·.1)++l.map (·.2)).foldl QD [])
variable{l:List (Str×Str)}
theorem xl:x∈LS l↔∃p∈l,x=p.1\/x=p.2:=by
 unfold LS;rw[(qN _).mem_iff,(Qn _ [] dI).2];simp only[bM,false_or,aI,aw];constructor
 .rintro(⟨p,hp,rfl⟩|⟨p,hp,rfl⟩);·exact⟨p,hp,.inl rfl⟩
  .exact⟨p,hp,.inr rfl⟩
 .rintro⟨p,hp,rfl|rfl⟩;·exact .inl ⟨p,hp,rfl⟩
  .exact .inr ⟨p,hp,rfl⟩
theorem wE(hl:l.length<=20):jj [.lst (ql l)]=.ok (.lst ((LS l).map D.str),[.non]):=by
 refine qo.trans ?_;have z:(ql l).length<=Z8:=by unfold ql;rw[aq];exact qJ 'b'
 have e1:=wg (cap:=[]) (fi:=jv (qc 0)) (ρ:=[lm 'l']) (ρ1:=[lm 'l']) (ds:=ql l) (fe:=d2 ixD (qc 0) 'n') (λd=>match d with|.tup [a,b]=>a|d=>d) (by simp[ju]) z (λd hd=>by obtain⟨x,hx,rfl⟩:=aw.mp hd;simp[ixD,atI,ixN]);have e:=wg (cap:=[]) (fi:=jv (qc 0)) (ρ:=[lm 'l']) (ρ1:=[lm 'l']) (ds:=ql l) (fe:=d2 ixD (qc 0) 'i') (λd=>match d with|.tup [a,b]=>b|d=>d) (by simp[ju]) z (λd hd=>by obtain⟨x,hx,rfl⟩:=aw.mp hd;simp[ixD,atI,ixN]);have f1:(ql l).map (λd=>match d with|.tup [a,b]=>a|d=>d)=(l.map (·.1)).map D.str:=by simp[ql]
 have f2:(ql l).map (λd=>match d with|.tup [a,b]=>b|d=>d)=(l.map (·.2)).map D.str:=by simp[ql]
 rw[f1]at e1;rw[f2]at e;have hs:l.length+l.length<=Z8:=qJ 'b';have i:l.length+l.length<64:=by lia
 simp only[xZ,qr,aF,cV,ah,bv,Nat.reduceAdd,fW,dF,bw,Ux,yL,qkT,e1,e,ky];simp only[qmr,aq,Aa hs,qiN,ky,<-cS,uz,wK,kE,am,Aa i];simp[LS]
variable{a:D}
theorem at0{l:List D}:atI (a::l) 0=lm a:=by have:=uq (a::l) 0;simpa using this
theorem at1{b:D}{l:List D}:atI (a::b::l) 1=lm b:=by have:=uq (a::b::l) 1;simpa using this
variable{r:Int}
theorem KK(h:1<=r/\r<=99):uf [.int r]=.ok (.non,[.non]):=by refine qo.trans ?_;simp[xW,qr,kY h]
theorem qy{f g:qM}(h:f ρ=.ok (.nx,ρ1)):Jf ms (qH f g ρ)=Jf ms (g ρ1):=by rw[ua,h];rfl
theorem qeG(hw:vQ ws)(p q:Int):(LS (qQ ws p q)).length<=12:=by
 have hs:(qQ ws p q).length<=6:=by simp[qQ];exact hw.2.1
 unfold LS;rw[(qN _).length_eq];have:=VB ((qQ ws p q).map (·.1)++(qQ ws p q).map (·.2)) [];simp only[am,aq,bv]at this
 lia
theorem qje(hw:vQ ws)(p q:Int):∀x∈LS (qQ ws p q),∃c,az c/\x=⟨#[c]⟩:=λx hx=>by
 obtain⟨y,B,h⟩:=xl.mp hx;obtain⟨w,m,rfl⟩:=aw.mp B;rcases h with rfl|rfl;·exact qbT (hw.2.2.2 w m) p
 .exact qbT (hw.2.2.2 w m) q
theorem qdU(l:List (Str×Str)):(LS l).Nodup:=(qN _).nodup_iff.mpr (Qn _ [] dI).1
noncomputable def prL(l:List (Str×Int)):List D:=l.map λx=>.tup [.str x.1,.int x.2]
def OkW(room:Int)(l:List (Str×Int)):Prop:=∀x∈l,Ql (.str x.1)=lv/\0<=x.2/\x.2<room
variable{room:Int}
theorem Yc(h:Ql (.str x)=lv/\0<=i/\i<room):uE [.tup [.str x,.int i],.int room]=.ok (.bl lv,[.non,.non]):=by refine qo.trans ?_;have h2:=kY (show 0<=i/\i<=room - 1 by lia);simp[Jn,qr,xL,tyN,neD,eqN,eqS,ixD,at0,at1,zn,h.1,h2,KU]
noncomputable def jB(l:List (Str×Int)):List Str:=l.map (·.1)
theorem qbV(a:List Str):wI (eqN 7) (a.map D.str) (a.map D.str)=lm true:=by
 induction a with
 |nil=>simp[wI]
 |cons a l j=>simp[wI,j,eqN,eqS]
theorem WD{l:List (Str×Int)}(hw:OkW room l)(hs:vt ((jB l).foldl QD [])=jB l)(hl:l.length<=12):vm [.tup (prL l),.int room]=.ok (.bl lv,[.non,.non]):=by
 have z:(prL l).length<=Z8:=by simp[prL];exact qJ 'b'
 have e1:=wg (cap:=[1]) (fi:=jv (qc 0)) (ρ:=[lm (.tup (prL l)),lm (.int room),lr]) (ρ1:=[lm (.tup (prL l)),lm (.int room),lr]) (ds:=prL l) (fe:=qt [.vl,.vl] uE (qb (qc 0) (qb (qc 1) qA))) (λ_=>.bl lv) (by simp[ju]) z (λd hd=>by obtain⟨x,hx,rfl⟩:=aw.mp hd;have h1:=Yc (hw x hx);simp[h1]);have f:=uI (λ_=>lv) (prL l);have e:=wg (cap:=[]) (fi:=jv (qc 0)) (ρ:=[lm (.tup (prL l)),lm (.int room),lr]) (ρ1:=[lm (.tup (prL l)),lm (.int room),lr]) (ds:=prL l) (fe:=d2 ixD (qc 0) 'n') (λd=>match d with|.tup [a,b]=>a|d=>d) (by simp[ju]) z (λd hd=>by obtain⟨x,hx,rfl⟩:=aw.mp hd;simp[ixD,at0]);have f2:(prL l).map (λd=>match d with|.tup [a,b]=>a|d=>d)=(jB l).map D.str:=by simp[prL,jB]
 rw[f2]at e;have i:(jB l).length<64:=by
  simp[jB]
  lia
 have m:eqD (.lst ((jB l).map D.str)) (.lst ((jB l).map D.str))=.ok (.bl lv):=by simp[-bV,eqD,eqN,qbV]
 refine qo.trans ?_;simp[-bV,gR,qr,xL,tyN,e1,f,e,uz,wK,kE,i,hs,m]
noncomputable def bk(l:List (Str×Int)):List (Key×D):=l.map λx=>(.inr x.1,.int x.2)
theorem WE:∀l:List (Str×Int),uP (prL l)=lm (bk l)
 |[]=>rfl
 |x::l=>by have j:=WE l;unfold prL at j ⊢;rw[aF];simp[uP,qdk,WQ,j,bk]
theorem qbW:∀(l:List (Str×Int))(a:List (Key×D)),(jB l).Nodup->(∀x∈l,∀p∈a,p.1≠.inr x.1)->(bk l).foldl (λa p=>wk a p.1 p.2) a=a++bk l
 |[],a,_,_=>by simp[bk]
 | x::l,a,hn,hd=>by
  have h1:=aZ.mp (show(x.1::jB l).Nodup from hn);have hp:wk a (.inr x.1) (.int x.2)=a++[(.inr x.1,.int x.2)]:=by unfold wk;rw[Ab];simp only[h8,decide_eq_true_eq,not_exists,not_and];exact λp hp=>hd x (aj ..) p hp
  have j:=qbW l (a++[(.inr x.1,.int x.2)]) h1.2 (λy B p hp=>by
   rcases aI.mp hp with hp|hp;·exact hd y (ae _ B) p hp
   .rw[ay.mp hp];intro z;have z:x.1=y.1:=cG.inj z;exact h1.1 (z ▸ aw.mpr ⟨y,B,rfl⟩))
  show((bk l).foldl (λa p=>wk a p.1 p.2) (wk a (.inr x.1) (.int x.2)))=a++(.inr x.1,.int x.2)::bk l;rw[hp,j];simp
theorem qgN{l:List (Str×Int)}(h:(jB l).Nodup):qdl (.tup (prL l))=.ok (.dct (bk l)):=by have e:=qbW l [] h (λ_ _ p hp=>by cases hp);simp at e;simp[qdl,WE,e]
theorem XE(l:List (Str×Int))(x:Str):kR (bk l) (.inr x)=decide (x∈jB l):=by
 unfold kR bk jB;rw[List.any_map]
 induction l with
 |nil=>simp
 |cons a l j=>
  simp only[cX,aF,af,j];by_cases h:a.1=x;·simp[h]
  .simp[h,bj h]
noncomputable def Qv(l:List (Str×Int))(x:Str):Int:=((l.find? λy=>decide (y.1=x)).map (·.2)).getD 0
theorem KL:∀{l:List (Str×Int)}{x:Str},x∈jB l->(x,Qv l x)∈l/\(bk l).find? (λkv=>decide (kv.1=cG x))=lm (.inr x,.int (Qv l x))
 |[],x,h=>by cases h
 | a::l,x,h=>by
  by_cases e:a.1=x
  .have c:Qv (a::l) x=a.2:=by simp[Qv,e]
   rw[c];refine⟨?_,?_⟩;·rw[<-e];exact aj ..
   .simp[bk,e]
  .have hx:x∈jB l:=by
    rcases af.mp (show x∈a.1::jB l from h)with z|z;·exact absurd z.symm e
    .exact z
   obtain⟨h1,h2⟩:=KL hx;have c:Qv (a::l) x=Qv l x:=by simp[Qv,e]
   rw[c];refine⟨ae _ h1,?_⟩;rw[<-h2];simp[bk,e]
theorem qjf{l:List (Str×Int)}(h:x∈jB l):ixD (.dct (bk l)) (.str x)=.ok (.int (Qv l x)):=by simp[ixD,(KL h).2]
theorem qeH{l:List (Str×Int)}(hw:OkW room l)(h:x∈jB l):0<=Qv l x/\Qv l x<room:=(hw _ (KL h).1).2
theorem Qo(h:vm [d,.int room]=.ok (.bl lv,[.non,.non])):vM [d,.int room]=.ok (.non,[.non,.non]):=by refine qo.trans ?_;simp[uV,qr,h]
theorem qbX(t room:Int):zJ [.int t,.int room]=.ok (.int (if room<=t then t - room else t),[.non,.non]):=by refine qo.trans ?_;by_cases h:room<=t <;> simp[Xx,qr,geD,KU,h]
section
variable(hw:vQ ws)(hl:QO p q)
include hw hl
def qj7(l:List (Str×Int))(s:List (Str×Str))(r:Int):List D:=s.map λx=>.int ((Qv l x.1+Qv l x.2) % r)
omit hw hl in
theorem qms{a b:Int}(f:0<=a/\a<r)(hb:0<=b/\b<r):(if r<=a+b then a+b - r else a+b)=(a+b) % r:=by
 split;·rw[<-Int.sub_emod_right,iM 'b' 'b']
 .rw[iM 'b' 'b']
theorem Yd{l:List (Str×Int)}(c:1<=r/\r<=99)(o:OkW r l)(hs:jB l=LS (qQ ws p q))(h:vm [.tup (prL l),.int r]=.ok (.bl lv,[.non,.non])):uF [Wd ws,Ld p q,.int r,.tup (prL l)]=.ok (.tup (qj7 l (qQ ws p q) r),[.non,.non,.non,.non]):=by
 refine qo.trans ?_;have h1:=XD hw hl;have h2:=KK c;have k:=Qo h;have j:=qgN (l:=l) (by rw[hs];exact qdU _);have m:(qQ ws p q).length<=6:=by simp[qQ];exact hw.2.1
 have e:=wE (l:=qQ ws p q) (by omega);have n:=qeG hw p q;have e1:=wg (cap:=[5]) (fi:=jv (qt [.vl] jj (qb (qc 4) qA))) (ρ:=[lm (Wd ws),lm (Ld p q),lm (.int r),lm (.tup (prL l)),lm (.lst (ql (qQ ws p q))),lm (.dct (bk l))]) (ρ1:=[lm (Wd ws),lm (Ld p q),lm (.int r),lm (.tup (prL l)),lm (.lst (ql (qQ ws p q))),lm (.dct (bk l))]) (ds:=(LS (qQ ws p q)).map D.str)
  (fe:=d2 inA (qc 0) (qc 1)) (λ_=>.bl lv) (by simp[e,ju]) (by rw[aq];exact qJ 'b') (λd hd=>by obtain⟨x,hx,rfl⟩:=aw.mp hd;simp[inA,WQ,XE,hs,hx])
 have f:=uI (λ_=>lv) ((LS (qQ ws p q)).map D.str);have g:∀x∈qQ ws p q,x.1∈jB l/\x.2∈jB l:=λx hx=>by rw[hs];exact⟨xl.mpr ⟨x,hx,.inl rfl⟩,xl.mpr ⟨x,hx,.inr rfl⟩⟩
 have i:=wg (cap:=[2,5]) (fi:=jv (qc 4)) (ρ:=[lm (Wd ws),lm (Ld p q),lm (.int r),lm (.tup (prL l)),lm (.lst (ql (qQ ws p q))),lm (.dct (bk l))]) (ρ1:=[lm (Wd ws),lm (Ld p q),lm (.int r),lm (.tup (prL l)),lm (.lst (ql (qQ ws p q))),lm (.dct (bk l))]) (ds:=ql (qQ ws p q))
  (fe:=qt [.vl,.vl] zJ (qb (d2 ko (d2 ixD (qc 2) (d2 ixD (qc 0) 'n')) (d2 ixD (qc 2) (d2 ixD (qc 0) 'i'))) (qb (qc 1) qA))) (λd=>match d with|.tup [.str a,.str b]=>.int ((Qv l a+Qv l b) % r)|d=>d) (by simp[ju]) (by simp[ql];exact qJ (by omega)) (λd hd=>by
   obtain⟨x,hx,rfl⟩:=aw.mp hd;obtain⟨i1,i2⟩:=g x hx;have W:=qjf i1;have S:=qjf i2;have wr:=qms (qeH o i1) (qeH o i2);have wi:=qbX (Qv l x.1+Qv l x.2) r;rw[wr]at wi;have k0:ixD (.tup [.str x.1,.str x.2]) (.int 0)=.ok (.str x.1):=by simp[ixD,at0]
   have k1:ixD (.tup [.str x.1,.str x.2]) (.int 1)=.ok (.str x.2):=by simp[ixD,at1]
   simp[k0,k1,W,S,wi])
 have f2:(ql (qQ ws p q)).map (λd=>match d with|.tup [.str a,.str b]=>.int ((Qv l a+Qv l b) % r)|d=>d)=qj7 l (qQ ws p q) r:=by simp[ql,qj7]
 rw[f2]at i;simp[-bV,Jp,qr,h1,h2,k,j,e1,f,i,wJ]
end
def qgO(ca:Str->Z7):Prop:=∀x∈CS,∀y∈CS,ca x=ca y->x=y
variable{ca:Str->Z7}
theorem wj(h:qgO ca)(hx:x∈CS)(B:y∈CS)(e:decide (y=x)=b):VA ca CS x (ca y)=lm b:=by
 unfold VA;rw[Aa (aw.mpr ⟨y,B,rfl⟩),<-e];by_cases z:y=x;·simp[z]
 .have:ca y≠ca x:=λw=>z (h y B x hx w);simp[z,this]
theorem qgP(B:y∈CS):qiH ca CS (ca y)=lm true:=by unfold qiH;rw[Aa (aw.mpr ⟨y,B,rfl⟩)]
theorem qjg(B:y∈CS):qiG ca CS y=lm (ca y):=by unfold qiG;rw[Aa B]
abbrev pD(x:Str×Str):D:=.tup [.str x.1,.str x.2]
noncomputable def al(x y:Str×Str):Bool:=decide (x=y)||decide (x=(y.2,y.1))
theorem qjh{x y:Str×Str}:al x y=lv↔x=y\/x=(y.2,y.1):=by simp[al]
noncomputable def pa(l:List (Str×Str))(i:Nat):Str×Str:=(l[i]?).getD ("","")
theorem qeI{i:Nat}(h:i<l.length):(ql l)[i]?=lm (pD (pa l i)):=by unfold ql pa;rw[aJ,aG h];rfl
theorem WF(x y:Str×Str):wz [pD x,pD y]=.ok (.bl (al x y),[.non,.non]):=by
 obtain⟨a,b⟩:=x;obtain⟨c,d⟩:=y;refine qo.trans ?_;have e:2<=Z8:=qJ 'b';by_cases h1:a=c/\b=d;·obtain⟨rfl,rfl⟩:=h1;simp[yn,qr,pD,eqD,eqN,wI,eqS,al]
 .have e1:(a == c&&b == d)=false:=by
   cases q:(a == c&&b == d)with
   |false=>rfl
   |true=>simp at q;exact absurd q h1
  have i:¬((a,b)=(c,d)):=λz=>h1 ⟨congrArg Prod.fst z,congrArg Prod.snd z⟩;have D:(a == d&&b == c)=decide ((a,b)=(d,c)):=by
   by_cases q:(a,b)=(d,c)
   .rw[Ad q];cases q;simp
   .rw[Ac q];cases f:(a == d&&b == c)with
    |false=>rfl
    |true=>simp at f;exact absurd (by rw[f.1,f.2]) q
  have h:al (a,b) (c,d)=decide ((a,b)=(d,c)):=by unfold al;rw[Ac i];rfl
  rw[h,<-D];simp[yn,qr,pD,eqD,eqN,wI,eqS,e1,ixD,atI,ixN,e]
theorem XF:VO (ql l)=(aB l.length).map λ(j:Nat)=>.tup [.int j,pD (pa l j)]:=by
 refine fR λj=>?_;unfold VO;rw[aJ,aJ,List.getElem?_zipIdx];by_cases h:j<l.length;·rw[qeI h,List.getElem?_range h];simp
 .have n:(ql l).length=l.length:=by simp[ql]
  rw[cC 'b',cC (by simp;lia)];rfl
theorem XG(ws:List Str)(p q:Int):(qQ ws p q).length=ws.length:=by simp[qQ]
abbrev qdV:qM:=(sIf (wS (qt [.vl,.vl] wz (qb (d2 ixD (qc 0) (qc 3)) (qb (qc 2) qA)))) (jl (zD (qb (qc 3) (qb (qc 1) qA)))) jd)
abbrev qdW:qM:=(QX (kg (qc 1)) (gNm 3) qdV)
abbrev clP(l:List (Str×Str))(i j:Nat):Bool:=al (pa l j) (pa l i)
theorem XH{i:Nat}:∀(s:List Nat)(x:Option D),(∀j∈s,j<l.length) ->(∃m,jU (gNm 3) qdV (s.map λ(j:Nat)=>.int j) [lm 'l',lm (.int i),lm (pD (pa l i)),x]=.ok (.nx,[lm 'l',lm (.int i),lm (pD (pa l i)),m])/\s.find? (clP l i)=lr)
  \/ ∃a ρ',s.find? (clP l i)=lm a/\jU (gNm 3) qdV (s.map λ(j:Nat)=>.int j) [lm 'l',lm (.int i),lm (pD (pa l i)),x]=.ok (.rt (.tup [.int a,.int i]),ρ')
 |[],x,_=>.inl ⟨x,rfl,rfl⟩
 | j::s,x,hj=>by
  have h:=WF (pa l j) (pa l i);have hg:=qeI (hj j (aj ..));have z:2<=Z8:=qJ 'b';rw[dn];cases q:al (pa l j) (pa l i)with
  |true=>rw[q]at h;have q:clP l i j=true:=q;rw[q];exact .inr ⟨j,_,rfl,by simp[jU,qdV,ixD,uq,hg,h,z];rfl⟩
  |false=>
   rw[q]at h;have q:clP l i j=false:=q;rw[q];have s1:jU (gNm 3) qdV ((j::s).map λ(j:Nat)=>.int j) [lm 'l',lm (.int i),lm (pD (pa l i)),x]=jU (gNm 3) qdV (s.map λ(j:Nat)=>.int j) [lm 'l',lm (.int i),lm (pD (pa l i)),lm (.int j)]:=by simp[jU,qdV,ixD,uq,hg,h]
   rw[s1];exact XH s (lm (.int j)) (λk b=>hj k (ae _ b))
theorem qlX(n:Nat):Qz 0 n=(aB n).map λ(j:Nat)=>.int j:=by unfold Qz;simp
theorem iR0{f:qW}{k:Int}(a:0<=k)(h1:k<=2000)(h:f ρ=.ok (.int k,ρ1)):kg f ρ=.ok (Qz 0 k.toNat,ρ1):=by
 have c1:-(2 ^ 62:Int)<=k/\k<2 ^ 62:=by lia
 simp[kg,h,-Int.reducePow,c1]
theorem iR1{f:qW}(h:f ρ=.ok (.int n,ρ1))(a:n<=2000):kg f ρ=.ok ((aB n).map λ(j:Nat)=>.int j,ρ1):=by rw[iR0 'b' 'b' h,qlX,fO]
abbrev clS(l:List (Str×Str))(i:Nat)(z:Option D):Sl:=[lm 'l',lm (.int i),lm (pD (pa l i)),z]
theorem qdX(hl:l.length<=100){i:Nat}(hi:i<l.length)(z:Option D):(∃m,qdW (clS l i z)=.ok (.nx,clS l i m)/\(aB i).find? (clP l i)=lr)
  \/ ∃a ρ',(aB i).find? (clP l i)=lm a/\qdW (clS l i z)=.ok (.rt (.tup [.int a,.int i]),ρ'):=by
 have c:=iR1 (f:=qc 1) (ρ:=clS l i z) (ρ1:=clS l i z) (n:=i) rfl 'b';have e0:qdW (clS l i z)=jU (gNm 3) qdV ((aB i).map λ(j:Nat)=>.int j) (clS l i z):=by show(kg (qc 1) (clS l i z)).bind (λp=>jU (gNm 3) qdV p.1 p.2)=_;rw[c,ky]
 rw[e0];exact XH (l:=l) (i:=i) (aB i) z (λj h=>by have:=aN.mp h;lia)
noncomputable def clF(l:List (Str×Str))(i:Nat):Option (Nat×Nat):=((aB i).find? (clP l i)).map λa=>(a,i)
theorem qbY{B:qM}(o:∀i,i<l.length->∀z,(∃m,B (clS l i z)=.ok (.nx,clS l i m)/\(aB i).find? (clP l i)=lr)
  \/ ∃a ρ',(aB i).find? (clP l i)=lm a/\B (clS l i z)=.ok (.rt (.tup [.int a,.int i]),ρ')):∀(is:List Nat)(x y z:Option D),(∀i∈is,i<l.length) ->
  (∃m p g,jU (zq 2 (jO (gNm 1) (jO (gNm 2) zp))) B (is.map λ(j:Nat)=>.tup [.int j,pD (pa l j)]) [lm 'l',x,y,z]=.ok (.nx,[lm 'l',m,p,g])/\is.findSome? (clF l)=lr)
  \/ ∃(a b:Nat)(ρ':Sl),is.findSome? (clF l)=lm (a,b)/\jU (zq 2 (jO (gNm 1) (jO (gNm 2) zp))) B (is.map λ(j:Nat)=>.tup [.int j,pD (pa l j)]) [lm 'l',x,y,z]=.ok (.rt (.tup [.int a,.int b]),ρ'):=by
 intro is
 induction is with
 |nil=>exact λx y z _=>.inl ⟨x,y,z,rfl,rfl⟩
 | cons i is h=>
  intro x y z hi;rw[List.findSome?_cons];rcases o i (hi i (aj ..)) z with⟨m,e,n⟩|⟨a,ρ',f,e⟩
  .have s1:jU (zq 2 (jO (gNm 1) (jO (gNm 2) zp))) B ((i::is).map λ(j:Nat)=>.tup [.int j,pD (pa l j)]) [lm 'l',x,y,z]=jU (zq 2 (jO (gNm 1) (jO (gNm 2) zp))) B (is.map λ(j:Nat)=>.tup [.int j,pD (pa l j)]) (clS l i m):=by simp[jU,zq,jO,zp,e]
   have c:clF l i=none:=by unfold clF;rw[n];rfl
   rw[s1,c];exact h (lm (.int i)) (lm (pD (pa l i))) m (λk d=>hi k (ae _ d))
  .have c:clF l i=lm (a,i):=by unfold clF;rw[f];rfl
   rw[c];refine .inr ⟨a,i,ρ',rfl,?_⟩;simp[jU,zq,jO,zp,e]
def clo(l:List (Str×Str)):Option (Nat×Nat):=(aB l.length).findSome? (clF l)
noncomputable def clD:Option (Nat×Nat)->D
 |none=>.non
 |some x=>.tup [.int x.1,.int x.2]
theorem Ye(hl:l.length<=100):uG [.lst (ql l)]=.ok (clD (clo l),[.non]):=by
 refine qo.trans ?_;rcases qbY (l:=l) (B:=qdW) (λi hi z=>qdX (by omega) hi z) (aB l.length) lr lr lr (λj D=>aN.mp D)with⟨m,p,g,e,n⟩|⟨a,b,ρ',n,e⟩
 all_goals
  rw[<-XF]at e;have n:clo l=_:=n;rw[n];simp[Jr,qr,qaV,e,clD]
noncomputable def co(x:Str×Str)(c:Str):Int:=(if x.1=c then 1 else 0)+if x.2=c then 1 else 0
def cn(K:List (Str×Str))(c:Str):Int:=(K.map λx=>co x c).sum
theorem qdY(x:Str×Str)(c:Str):0<=co x c/\co x c<=2:=by unfold co;split <;> split <;> lia
theorem qbZ(x:Str×Str)(c:Str):uR (pD x) (.str c)=.ok (.int (co x c)):=by obtain⟨a,b⟩:=x;have h:=vp c [a,b];have h:QT 7 (.str c) [.str a,.str b]=lm (decide (c∈[a,b])):=h;unfold uR co;simp only[h];by_cases q:a=c <;> by_cases e:b=c <;> simp[eqN,eqS,q,e]
theorem qb0{l:List Int}(h1:l.length<=1000)(h2:∀k∈l,0<=k/\k<=100000):Ka (.lst (l.map D.int))=.ok (.int l.sum):=by
 have:l.length<=1000/\(l.all λk=>decide (0<=k/\k<=100000))=true:=⟨h1,aW.mpr λk h=>Ad (h2 k h)⟩
 simp only[Ka,VR,Aa this]
variable{K:List (Str×Str)}
theorem qgQ(l:K.length<=100)(c:Str)(a b:Option D):qP [] 1 [3] (jv (qc 1)) (gNm 0) ftT (dM qhA uR (qc 0) (qc 1)) [a,lm (.lst (ql K)),b,lm (.str c)]=.ok (.lst ((K.map λx=>co x c).map D.int),[a,lm (.lst (ql K)),b,lm (.str c)]):=by have e:=wg (cap:=[3]) (fi:=jv (qc 1)) (ρ:=[a,lm (.lst (ql K)),b,lm (.str c)]) (ρ1:=[a,lm (.lst (ql K)),b,lm (.str c)]) (ds:=ql K) (fe:=dM qhA uR (qc 0) (qc 1)) (λd=>match d with|.tup [.str x,.str y]=>.int (co (x,y) c)|d=>d) (by simp[ju]) (by unfold ql;rw[aq];exact qJ 'b') (λd hd=>by obtain⟨x,hx,rfl⟩:=aw.mp hd;have h:=qbZ x c;have h:uR (.tup [.str x.1,.str x.2]) (.str c)=.ok (.int (co x c)):=h;simp[dM,qhA,h]);rw[e];congr 2;simp[ql]
theorem qeJ(K L:List (Str×Str))(c:Str):cn (K++L) c=cn K c+cn L c:=by unfold cn;rw[cS,i5]
theorem qji(K:List (Str×Str))(c:Str):0<=cn K c:=by
 induction K with
 |nil=>exact Int.le_refl _
 |cons x K j=>
  have:=qdY x c;show 0<=co x c+cn K c
  lia
theorem qjj:∀{K L:List (Str×Str)},K.Sublist L->∀c,cn K c<=cn L c:=by
 intro K L h
 induction h with
 |slnil=>intro c;exact Int.le_refl _
 |cons x h j=>
  intro c;have:=qdY x c;have:=j c;show _<=co x c+cn _ c
  lia
 |cons_cons x h j=>
  intro c;have:=j c;show co x c+cn _ c<=co x c+cn _ c
  lia
def NA(K:List (Str×Str)):Prop:=K.Pairwise λx y=>al x y=lw
abbrev Cn:=List Str×List Str
abbrev sE(l:List Str):D:=.lst (l.map D.str)
noncomputable def cE(c:Cn):D:=.tup [sE c.1,sE c.2]
noncomputable def st1(c:Cn)(y:Str):Cn:=if y∈c.1 then(c.1.erase y,c.2)else(c.1,c.2++[y])
def un(x y:Str×Str):Cn:=st1 (st1 ([x.1,x.2],[]) y.1) y.2
abbrev unB:qM:=(sIf (qK (d2 inA (qc 4) (qc 2))) (kG (Qu 2 qgc (qc 4))) (kG (Qu 3 YG (qc 4))))
theorem qlf(y:Str)(l:List Str):inA (.str y) (sE l)=.ok (.bl (decide (y∈l))):=by show(inD (.str y) (.lst (l.map D.str))).bind _=_;unfold inD;simp only[vp];rfl
variable{c:Cn}
theorem qb1{a b:Option D}(h2:c.2.length<=2)(y:Str):unB [a,b,lm (sE c.1),lm (sE c.2),lm (.str y)]=.ok (.nx,[a,b,lm (sE (st1 c y).1),lm (sE (st1 c y).2),lm (.str y)]):=by
 have h:=qlf y c.1;have z:c.2.length<Z8:=aK 'b' big;unfold st1;by_cases q:y∈c.1
 .rw[Aa q];have r:qgc (c.1.map D.str) (.str y)=.ok ((c.1.erase y).map D.str):=by unfold qgc;simp only[kE,Aa q]
  simp[unB,h,q,Qu,zr,sE,r]
 .rw[Ab q];have f:YG (c.2.map D.str) (.str y)=.ok ((c.2++[y]).map D.str):=by unfold YG;rw[aq,Aa z];simp
  simp[unB,h,q,Qu,zr,sE,f]
theorem Yg(c:Cn)(y:Str):(st1 c y).1.length<=c.1.length/\(st1 c y).2.length<=c.2.length+1:=by
 unfold st1;split;·exact⟨List.length_erase_le,lg _⟩
 .simp
theorem qjk(x y:Str×Str):(un x y).1.length<=2/\(un x y).2.length<=2:=by
 have h1:=Yg ([x.1,x.2],[]) y.1;have h2:=Yg (st1 ([x.1,x.2],[]) y.1) y.2;unfold un;simp at h1
 lia
variable{g:D->Sl->Out Sl}
theorem qmt{B:qM}{d1 d2:D}{d ρ2 k a:Sl}(h1:g d1 d=.ok ρ1)(h2:B ρ1=.ok (.nx,ρ2))(b:g d2 ρ2=.ok k)(h:B k=.ok (.nx,a)):jU g B [d1,d2] d=.ok (.nx,a):=by simp[jU,h1,h2,b,h]
theorem Yh(x y:Str×Str):kh [pD x,pD y]=.ok (cE (un x y),[.non,.non]):=by
 refine qo.trans ?_;have h1:=Yg ([x.1,x.2],[]) y.1;have e1:=qb1 (a:=lm (pD x)) (b:=lm (pD y)) (c:=([x.1,x.2],[])) 'f' y.1;have i:=qb1 (a:=lm (pD x)) (b:=lm (pD y)) (c:=st1 ([x.1,x.2],[]) y.1) (by simp at h1;lia) y.2;have z:2<=Z8:=qJ 'b';have h:0<=Z8:=be _;have D:jU (gNm 4) unB [.str y.1,.str y.2] [lm (pD x),lm (pD y),lm (sE [x.1,x.2]),lm (sE []),lr]=.ok (.nx,[lm (pD x),lm (pD y),lm (sE (un x y).1),lm (sE (un x y).2),lm (.str y.2)]):=by have e:unB [lm (pD x),lm (pD y),lm (sE [x.1,x.2]),lm (sE []),lm (.str y.1)]=_:=e1;exact qmt rfl e rfl i
 unfold Jw;rw[show qr Jv [pD x,pD y]=[lm (pD x),lm (pD y),lr,lr,lr]from rfl];refine(qy (ρ1:=[lm (pD x),lm (pD y),lm (sE [x.1,x.2]),lr,lr]) (by simp[Um,sE,z])).trans ?_;refine(qy (ρ1:=[lm (pD x),lm (pD y),lm (sE [x.1,x.2]),lm (sE []),lr]) (by simp[sE])).trans ?_;refine(qy (ρ1:=[lm (pD x),lm (pD y),lm (sE (un x y).1),lm (sE (un x y).2),lm (.str y.2)]) (by rw[vL,show jv (qc 1) [lm (pD x),lm (pD y),lm (sE [x.1,x.2]),lm (sE []),lr]=.ok ([.str y.1,.str y.2],[lm (pD x),lm (pD y),lm (sE [x.1,x.2]),lm (sE []),lr])from rfl,ky];exact D)).trans ?_;simp[cE,z]
def CT(l:List (Str×Str)):List Cn:=(aB l.length).flatMap λj=>(l.take j).map λa=>un a (pa l j)
abbrev ctB:qM:=(kG (Qu 1 qej (qP [1] 1 [3] (jv (jH (qc 0) lr (lm (qc 2)))) (gNm 0) ftT (qt [.vl,.vl] kh (qb (qc 0) (qb (qc 1) qA))))))
theorem qgR(hl:l.length<=10){j:Nat}(b:j<l.length)(f:Option D):qP [1] 1 [3] (jv (jH (qc 0) lr (lm (qc 2)))) (gNm 0) ftT (qt [.vl,.vl] kh (qb (qc 0) (qb (qc 1) qA))) [lm 'l',f,lm (.int j),lm (pD (pa l j))]
  = .ok (.lst (((l.take j).map λa=>un a (pa l j)).map cE),[lm 'l',f,lm (.int j),lm (pD (pa l j))]):=by
 have c:Gh (ql l) lr (lm (j:Int))=ql (l.take j):=by
  unfold Gh;rw[HT.sIx_none,HT.sIx_nat];have:(ql l).length=l.length:=by simp[ql]
  rw[this,show min j l.length - 0=j by lia];simp[ql]
 have hi:jv (jH (qc 0) lr (lm (qc 2))) [lm 'l',f,lm (.int j),lm (pD (pa l j))]=.ok (ql (l.take j),[lm 'l',f,lm (.int j),lm (pD (pa l j))]):=by simp[jv,jH,wq,qhB,c,ju]
 have e:=qbR (own:=[1]) (cap:=[3]) (fi:=jv (jH (qc 0) lr (lm (qc 2)))) (ρ:=[lm 'l',f,lm (.int j),lm (pD (pa l j))]) (ρ1:=[lm 'l',f,lm (.int j),lm (pD (pa l j))]) (ds:=ql (l.take j)) (fe:=qt [.vl,.vl] kh (qb (qc 0) (qb (qc 1) qA))) (λd=>match d with|.tup [.str x,.str y]=>cE (un (x,y) (pa l j))|d=>d) 'f' hi (by simp only[ql,aq,bb];exact qJ 'b') (λd hd=>by obtain⟨x,hx,rfl⟩:=aw.mp hd;have h:=Yh x (pa l j);have h:kh [.tup [.str x.1,.str x.2],pD (pa l j)]=.ok (cE (un x (pa l j)),[.non,.non]):=h;simp[h]);rw[e];congr 2;unfold ql;rw[bV,bV];rfl
theorem qb2(hl:l.length<=10):∀(s:List Nat)(f:List Cn)(x y:Option D),(∀j∈s,j<l.length)->f.length+10 * s.length<=500 ->∃m p,jU (zq 2 (jO (gNm 2) (jO (gNm 3) zp))) ctB (s.map λ(j:Nat)=>.tup [.int j,pD (pa l j)]) [lm 'l',lm (.lst (f.map cE)),x,y]
   = .ok (.nx,[lm 'l',lm (.lst ((f++s.flatMap λj=>(l.take j).map λa=>un a (pa l j)).map cE)),m,p])
 |[],f,x,y,_,_=>⟨x,y,by simp[jU]⟩
 |j::s,f,x,y,hj,hf=>by
  rw[ah]at hf;have h:=hj j (aj ..);have ht:(l.take j).length<=10:=by rw[bb];lia
  obtain⟨m,p,e⟩:=qb2 hl s (f++(l.take j).map λa=>un a (pa l j)) (lm (.int j)) (lm (pD (pa l j))) (λi hi=>hj i (ae _ hi)) (by rw[am,aq];lia);refine⟨m,p,?_⟩;rw[ei,<-cu,<-e];have d:=qgR hl h (lm (.lst (f.map cE)));have z:(f.map cE).length+(((l.take j).map λa=>un a (pa l j)).map cE).length<=Z8:=by rw[aq,aq,aq];exact qJ 'b'
  have hx:qej (f.map cE) (.lst (((l.take j).map λa=>un a (pa l j)).map cE))=.ok ((f++(l.take j).map λa=>un a (pa l j)).map cE):=by unfold qej;simp only[Aa z,<-cS]
  generalize ((l.take j).map λa=>un a (pa l j)).map cE=M at d hx;generalize (f++(l.take j).map λa=>un a (pa l j)).map cE=M2 at hx ⊢;generalize f.map cE=M1 at d hx ⊢;generalize D.lst (ql l)=Z at d ⊢;simp[jU,zq,jO,zp,ctB,Qu,zr,d,hx]
theorem WG(hl:l.length<=10):vN [.lst (ql l)]=.ok (.lst ((CT l).map cE),[.non]):=by refine qo.trans ?_;obtain⟨m,p,e⟩:=qb2 hl (aB l.length) [] lr lr (λj D=>aN.mp D) (by simp;lia);rw[<-XF]at e;have e:jU (zq 2 (jO (gNm 2) (jO (gNm 3) zp))) ctB (VO (ql l)) [lm 'l',lm (.lst []),lr,lr]=.ok (.nx,[lm 'l',lm (.lst ((CT l).map cE)),m,p]):=e;have h:0<=Z8:=be _;generalize (CT l).map cE=M at e ⊢;simp[uZ,qr,qaV,e]
theorem qjl(l:List (Str×Str))(hl:l.length<=10):(CT l).length<=100:=by
 unfold CT;have:∀s:List Nat,(s.flatMap λj=>(l.take j).map λa=>un a (pa l j)).length<=10 * s.length:=λs=>by
  induction s with
  |nil=>simp
  |cons j s i=>
   rw[ei,am,aq,bb,ah]
   lia
 have:=this (aB l.length);rw[bD]at this
 lia
theorem qeK(h:c∈CT l):c.1.length<=2/\c.2.length<=2:=by obtain⟨j,_,h⟩:=List.mem_flatMap.mp h;obtain⟨a,_,rfl⟩:=aw.mp h;exact qjk a _
abbrev Fx:=List (Key×D)
def qcu(k:Fx):Prop:=∀kv∈k,∃v:Int,kv.2=.int v/\0<=v/\v<=1000
noncomputable def vl(k:Fx)(x:Str):Int:=match k.find? λkv=>decide (kv.1=cG x)with
 |some (_,.int v)=>v
 |_=>0
theorem qjm{k:Fx}(a:qcu k)(h:kR k (.inr x)=lv):ixD (.dct k) (.str x)=.ok (.int (vl k x))/\0<=vl k x/\vl k x<=1000:=by
 unfold kR at h;cases q:k.find? λkv=>decide (kv.1=cG x)with
 |none=>rw[c8]at q;obtain⟨p,hp,h⟩:=h8.mp h;exact absurd h (q p hp)
 |some kv=>
  obtain⟨v,e,h1,h2⟩:=a kv (List.mem_of_find?_eq_some q);obtain⟨k0,d⟩:=kv;have e:d=.int v:=e;subst e;have i:vl k x=v:=by unfold vl;simp only[q]
  rw[i];exact⟨by unfold ixD;simp only[q],h1,h2⟩
theorem qlg{Cs:List α}{cap:List Nat}{fi:vV}{fe:qW}(A B:α->D)(h:fi ρ=.ok (Cs.map A,ρ))(hl:Cs.length<=Z8)(ht:∀c∈Cs,fe (lm (A c)::cap.map λk=>(ρ[k]?).getD lr)=.ok (B c,lm (A c)::cap.map λk=>(ρ[k]?).getD lr)):qP [] 1 cap fi (gNm 0) ftT fe ρ=.ok (.lst (Cs.map B),ρ):=by
 have key:∀(l:List α)(x:Option D),(∀c∈l,c∈Cs)->∃m,jY (gNm 0) ftT fe (l.map A) (x::cap.map λk=>(ρ[k]?).getD lr)=.ok (l.map B,m::cap.map λk=>(ρ[k]?).getD lr):=by
  intro l
  induction l with
  |nil=>intro x _;exact⟨x,rfl⟩
  |cons c l j=>intro x a;obtain⟨m,e⟩:=j (lm (A c)) λd hd=>a d (ae _ hd);have h1:=ht c (a c (aj ..));exact⟨m,by simp[jY,JS,h1,e]⟩
 obtain⟨m,e⟩:=key Cs lr λ_ h=>h;unfold qP;rw[h];simp only[ky];rw[Aa (by rw[aq];exact hl),show kQ 1 cap ρ=lr::cap.map λk=>(ρ[k]?).getD lr from rfl,e];simp only[ky];rw[uH (own:=[]) _ cap 1 ρ λ_ _=>bM]
def md(r:Int)(k:Fx)(c:Cn):Bool:=if ((c.1++c.2).all λx=>kR k (.inr x))=lv then decide (¬((c.1.map (vl k)).sum - (c.2.map (vl k)).sum) % r=0)else lv
theorem XI{k:Fx}(a:qcu k)(j:Nat){l:List Str}(hl:l.length<=2)(f:∀x∈l,kR k (.inr x)=lv)(h1:ρ[j]?=lm (lm (sE l)))(h2:ρ[2]?=lm (lm (.dct k))):d1 Ka (qP [] 1 [2] (jv (qc j)) (gNm 0) ftT (d2 ixD (qc 1) (qc 0))) ρ=.ok (.int (l.map (vl k)).sum,ρ):=by
 have e:=wg (cap:=[2]) (fi:=jv (qc j)) (ρ:=ρ) (ρ1:=ρ) (ds:=l.map D.str) (fe:=d2 ixD (qc 1) (qc 0)) (λd=>match d with|.str x=>.int (vl k x)|d=>d) (by simp[h1,ju]) (by rw[aq];exact qJ (by omega)) (λd hd=>by obtain⟨x,hx,rfl⟩:=aw.mp hd;have h:=(qjm a (f x hx)).1;simp[h2,h]);have b:(l.map D.str).map (λd=>match d with|.str x=>.int (vl k x)|d=>d)=(l.map (vl k)).map D.int:=by rw[bV,bV];rfl
 rw[b]at e;have hs:=qb0 (l:=l.map (vl k)) (by rw[aq];omega) λi hi=>by obtain⟨x,hx,rfl⟩:=aw.mp hi;have:=(qjm a (f x hx)).2;omega
 rw[yL,e];simp only[ky];rw[hs];rfl
theorem qjn(h1:c.1.length<=2)(h2:c.2.length<=2)(f:0<r){k:Fx}(a:qcu k):kA [cE c,.int r,.dct k]=.ok (.bl (md r k c),[.non,.non,.non]):=by
 refine qo.trans ?_;have z:(c.1.map D.str).length+(c.2.map D.str).length<=Z8:=by rw[aq,aq];exact qJ 'b'
 have hi:jv (d2 ko (qc 3) (qc 4)) [lm (cE c),lm (.int r),lm (.dct k),lm (sE c.1),lm (sE c.2)]=.ok ((c.1++c.2).map D.str,[lm (cE c),lm (.int r),lm (.dct k),lm (sE c.1),lm (sE c.2)]):=by
  have:ko (sE c.1) (sE c.2)=.ok (.lst ((c.1++c.2).map D.str)):=by unfold ko;simp only[Aa z,cS]
  generalize sE c.1=U at this ⊢;generalize sE c.2=V at this ⊢;simp[this,ju]
 have e:=wg (cap:=[2]) (fi:=jv (d2 ko (qc 3) (qc 4))) (ρ:=[lm (cE c),lm (.int r),lm (.dct k),lm (sE c.1),lm (sE c.2)]) (ρ1:=[lm (cE c),lm (.int r),lm (.dct k),lm (sE c.1),lm (sE c.2)]) (ds:=(c.1++c.2).map D.str) (fe:=d2 inA (qc 0) (qc 1)) (λd=>match d with|.str x=>.bl (kR k (.inr x))|d=>d) hi (by rw[aq,am];exact qJ 'b') (λd hd=>by obtain⟨x,hx,rfl⟩:=aw.mp hd;simp[inA,WQ]);have i:((c.1++c.2).map D.str).map (λd=>match d with|.str x=>.bl (kR k (.inr x))|d=>d)=(c.1++c.2).map λx=>D.bl (kR k (.inr x)):=by rw[bV];rfl
 rw[i]at e;have g:=uI (λx=>kR k (.inr x)) (c.1++c.2);have hA:d1 YJ (qP [] 1 [2] (jv (d2 ko (qc 3) (qc 4))) (gNm 0) ftT (d2 inA (qc 0) (qc 1))) [lm (cE c),lm (.int r),lm (.dct k),lm (sE c.1),lm (sE c.2)]=.ok (.bl ((c.1++c.2).all λx=>kR k (.inr x)),[lm (cE c),lm (.int r),lm (.dct k),lm (sE c.1),lm (sE c.2)]):=by rw[yL,e];simp only[ky];rw[g];rfl
 unfold zd md;rw[show qr zc [cE c,.int r,.dct k]=[lm (cE c),lm (.int r),lm (.dct k),lr,lr]from rfl];refine(qy (ρ1:=[lm (cE c),lm (.int r),lm (.dct k),lm (sE c.1),lr]) (by simp[cE,ixD,at0])).trans ?_;refine(qy (ρ1:=[lm (cE c),lm (.int r),lm (.dct k),lm (sE c.1),lm (sE c.2)]) (by simp[cE,ixD,at1])).trans ?_;cases q:(c.1++c.2).all λx=>kR k (.inr x)with
 |false=>rw[q]at hA;simp[-yL,hA]
 |true=>rw[q]at hA;have h:=aW.mp q;have s1:=XI a 3 h1 (λx hx=>h x (aI.mpr (.inl hx))) (ρ:=[lm (cE c),lm (.int r),lm (.dct k),lm (sE c.1),lm (sE c.2)]) rfl rfl;have s2:=XI a 4 h2 (λx hx=>h x (aI.mpr (.inr hx))) (ρ:=[lm (cE c),lm (.int r),lm (.dct k),lm (sE c.1),lm (sE c.2)]) rfl rfl;refine(qy (ρ1:=[lm (cE c),lm (.int r),lm (.dct k),lm (sE c.1),lm (sE c.2)]) (by simp[-yL,hA])).trans ?_;by_cases b:((c.1.map (vl k)).sum - (c.2.map (vl k)).sum) % r=0 <;> simp[-yL,s1,s2,qcs,KU,f,neD,eqN,eqS,b]
theorem qgS{k:Fx}(hl:k.length<=100)(x:Str)(v:Int):vE [.dct k,.str x,.int v]=.ok (.dct (wk k (.inr x) (.int v)),[.non,.non,.non]):=by refine qo.trans ?_;have z:k.length<Z8:=aK 'b' big;simp[zf,qr,VS,VQ,WQ,z]
theorem qb3(k:Fx)(x:Key)(d:D):(wk k x d).length<=k.length+1:=by unfold wk;split <;> simp
theorem qbd{k:Fx}(b:qcu k)(x:Key){v:Int}(c:0<=v)(h1:v<=1000):qcu (wk k x (.int v)):=by
 unfold wk;intro kv a;split at a
 .obtain⟨p,hp,rfl⟩:=aw.mp a;split;·exact⟨v,rfl,c,h1⟩
  .exact b p hp
 .rcases aI.mp a with h|h;·exact b kv h
  .rw[ay.mp h];exact⟨v,rfl,c,h1⟩
abbrev cfB(gr:jy):qM:=(sIf (wS (qt [.vl,.vl,.vl,.vl] gr (qb (qc 0) (qb (qc 1) (qb (qt [.vl,.vl,.vl] vE (qb (qc 2) (qb (d2 ixD (qc 3) 'n') (qb (qc 5) qA)))) (qb (jH (qc 3) (lm 'i') lr) qA)))))) (jl (dC (.bl lv))) jd)
theorem XJ(x:Str)(ls:List Str):ixD (sE (x::ls)) (.int 0)=.ok (.str x)/\qhB (lm 1) lr (sE (x::ls))=.ok (sE ls):=by
 refine⟨by simp[ixD,at0],?_⟩;have:Gh ((x::ls).map D.str) (lm 1) lr=ls.map D.str:=by unfold Gh;rw[HT.sIx_none,show(lm (1:Int))=lm ((1:Nat):Int)from rfl,HT.sIx_nat];simp;exact bC 'f'
 show Out.ok (D.lst (Gh ((x::ls).map D.str) (lm 1) lr))=_;rw[this]
variable{Cs:List Cn}
theorem qgT(hC:∀c∈Cs,c.1.length<=2/\c.2.length<=2)(n:Cs.length<=100)(f:0<r){k:Fx}(g:qcu k)(a b c:Option D):d1 YJ (qP [] 1 [1,2] (jv (qc 0)) (gNm 0) ftT (qt [.vl,.vl,.vl] kA (qb (qc 0) (qb (qc 1) (qb (qc 2) qA))))) [lm (.lst (Cs.map cE)),lm (.int r),lm (.dct k),a,b,c]=.ok (.bl (Cs.all (md r k)),[lm (.lst (Cs.map cE)),lm (.int r),lm (.dct k),a,b,c]):=by
 have e:=qlg (Cs:=Cs) (ρ:=[lm (.lst (Cs.map cE)),lm (.int r),lm (.dct k),a,b,c]) (cap:=[1,2]) (fi:=jv (qc 0)) (fe:=qt [.vl,.vl,.vl] kA (qb (qc 0) (qb (qc 1) (qb (qc 2) qA)))) cE (λc=>.bl (md r k c)) (by simp[ju]) (qJ 'b') λc d=>by have h:=qjn (hC c d).1 (hC c d).2 f g;generalize cE c=Z at h ⊢;simp[h]
 rw[yL,e];simp only[ky];rw[uI];rfl
theorem qdZ(n:Nat):Qz 0 n=((aB n).map λ(j:Nat)=>(j:Int)).map D.int:=by rw[qlX,bV];rfl
theorem qeL(l:List (Str×Str)):(LS l).length<=2 * l.length:=by
 unfold LS;rw[(qN _).length_eq];have:=VB (l.map (·.1)++l.map (·.2)) [];simp only[am,aq,bv]at this
 lia
noncomputable def nu(v:Str->Int)(p:Str×Str):Int:=v p.1+v p.2
def Ds(r:Int)(v:Str->Int)(K:List (Str×Str)):Prop:=K.Pairwise λp q=>¬r ∣ nu v p - nu v q
def Ext(k:Fx)(v:Str->Int):Prop:=∀x,kR k (.inr x)=lv->v x=vl k x
def OKs(r:Int)(k:Fx)(K:List (Str×Str)):Prop:=∃v,Ext k v/\Ds r v K
theorem qgU{a b:Int}(h:¬r ∣ a - b):¬r ∣ b - a:=λz=>h (by have:=Int.dvd_neg.mpr z;rwa [Int.neg_sub]at this)
variable{v:Str->Int}
theorem qjo{A C:List (Str×Str)}{x:Str×Str}:Ds r v (A++x::C)↔(∀p∈A++C,¬r ∣ nu v x - nu v p)/\Ds r v (A++C):=by unfold Ds;rw[List.pairwise_middle λh=>qgU h,bK]
theorem qeM{α:Type}[DecidableEq α]:∀{a b:List α},a.Nodup->(∀x∈a,x∈b)->a.length<=b.length
 |[],_,_,_=>be _
 |x::a,b,hn,h=>by
  obtain⟨h1,h2⟩:=aZ.mp hn;have hx:=h x (aj ..);have j:=qeM (b:=b.erase x) h2 λy B=>(List.mem_erase_of_ne λ(z:y=x)=>h1 (z ▸ B)).mpr (h y (ae _ B));rw[fB hx]at j;have:=dY hx;rw[ah]
  lia
theorem XM(f:1<=r)(bad:List Int)(h:(bad.length:Int)<r):∃t:Int,0<=t/\t<r/\t∉bad:=by
 refine bX λz=>?_;have c:∀t∈(aB r.toNat).map λ(j:Nat)=>(j:Int),t∈bad:=λt ht=>by obtain⟨j,D,rfl⟩:=aw.mp ht;have:=aN.mp D;exact bX λq=>z ⟨j,by lia,by lia,q⟩
 have d:((aB r.toNat).map λ(j:Nat)=>(j:Int)).Nodup:=eh.mpr (h9.imp λ{a b} H e=>H 'b');have:=qeM d c;rw[aq,bD]at this
 lia
def loK(k:Fx)(K:List (Str×Str))(x:Str×Str):Bool:=(!kR k (.inr x.1)&&decide (cn K x.1=1))||(!kR k (.inr x.2)&&decide (cn K x.2=1))
theorem qeN(A C:List (Str×Str))(x:Str×Str)(c:Str):cn (A++x::C) c=co x c+cn (A++C) c:=by
 rw[qeJ,qeJ];show cn A c+(co x c+cn C c)=_
 lia
theorem qgV{c:Str}(h:cn K c=0):∀p∈K,p.1≠c/\p.2≠c:=λp hp=>by
 obtain⟨A,C,rfl⟩:=List.append_of_mem hp;rw[qeN]at h;have h1:=qji (A++C) c;have h2:=qdY p c;have g:co p c=0:=by lia
 unfold co at g;refine⟨λz=>?_,λz=>?_⟩;·rw[Aa z]at g;split at g <;> lia
 .rw[Aa z]at g;split at g <;> lia
variable{K0:List (Str×Str)}
theorem qjp(u:1<=r){k:Fx}{A C:List (Str×Str)}{x:Str×Str}(hs:(A++x::C).Sublist K0)(hl:loK k K0 x=lv)(E:((A++x::C).length:Int)<=r)(h:OKs r k (A++C)):OKs r k (A++x::C):=by
 obtain⟨v,s,hd⟩:=h;have key:∀c d:Str,(∀w:Str->Int,nu w x=w c+w d)->(c=x.1\/c=x.2)->kR k (.inr c)=lw->cn K0 c=1->OKs r k (A++x::C):=λc d f I G h1=>by
  have Q:=qjj hs c;rw[qeN]at Q;have D:=qji (A++C) c;have H:1<=co x c:=by
   unfold co;rcases I with rfl|rfl
   .rw[Aa rfl];split <;> lia
   .rw[Aa (rfl:x.2=x.2)];split <;> lia
  have J:cn (A++C) c=0:=by lia
  have j:=qgV J;have hdc:d≠c:=λz=>by
   have e:=f λy=>if y=c then 1 else 0
   subst z;unfold nu at e;have:co x d=2:=by unfold co;simpa using e
   lia
  obtain⟨t,o,n,ht⟩:=XM u ((A++C).map λp=>(nu v p - v d) % r) (by
   rw[aq];rw[am,ah]at E;rw[am]
   lia)
  refine⟨λy=>if y=c then t else v y,λy B=>?_,qjo.mpr ⟨λp hp=>?_,?_⟩⟩
  .have:y≠c:=λz=>by rw[z,G]at B;cases B
   show(if y=c then t else v y)=_;rw[Ab this];exact s y B
  .have e1:nu (λy=>if y=c then t else v y) x=t+v d:=by rw[f];simp[hdc]
   have m:nu (λy=>if y=c then t else v y) p=nu v p:=by obtain⟨i,g⟩:=j p hp;simp[nu,i,g]
   rw[e1,m];intro z;refine ht (aw.mpr ⟨p,hp,?_⟩);have:r ∣ (nu v p - v d) - t:=by have:=Int.dvd_neg.mpr z;rw[show -(t+v d - nu v p)=nu v p - v d - t by lia]at this;exact this
   have K:(nu v p - v d) % r=t % r:=Int.emod_eq_emod_iff_emod_sub_eq_zero.mpr (Int.emod_eq_zero_of_dvd this);exact K.trans (iM o n)
  .refine hd.imp_of_mem λ{p q} hp hq l=>?_;obtain⟨p1,p2⟩:=j p hp;obtain⟨i,g⟩:=j q hq;have e1:nu (λy=>if y=c then t else v y) p=nu v p:=by simp[nu,p1,p2]
   have m:nu (λy=>if y=c then t else v y) q=nu v q:=by simp[nu,i,g]
   rw[e1,m];exact l
 unfold loK at hl;rw[i4,aO,aO]at hl;rcases hl with⟨a,b⟩|⟨a,b⟩
 .exact key x.1 x.2 (λw=>rfl) (.inl rfl) (by simpa using a) (Ae b)
 .exact key x.2 x.1 (λw=>Int.add_comm _ _) (.inr rfl) (by simpa using a) (Ae b)
def peK(k:Fx)(K:List (Str×Str)):List (Str×Str):=K.filter λx=>!loK k K x
theorem qgW(c:1<=r){k:Fx}(a:(K0.length:Int)<=r):∀(M A:List (Str×Str)),(A++M).Sublist K0->OKs r k (A++M.filter λx=>!loK k K0 x)->OKs r k (A++M)
 |[],A,_,h=>h
 | x::M,A,hs,h=>by
  have n:((A++x::M).length:Int)<=r:=by
   have:=hs.length_le
   lia
  cases q:loK k K0 x with
  |false=>rw[List.filter_cons_of_pos (by simp[q])]at h;have:=qgW c a M (A++[x]) (by simpa using hs) (by simpa using h);simpa using this
  |true=>rw[List.filter_cons_of_neg (by simp[q])]at h;exact qjp c hs q n (qgW c a M A ((iN A).append (List.sublist_cons_self x M) |>.trans hs) h)
theorem qjq(c:1<=r){k:Fx}(n:(K.length:Int)<=r):OKs r k (peK k K)↔OKs r k K:=
 ⟨λh=>qgW c n K [] (iN _) h,λ⟨v,a,b⟩=>⟨v,a,List.Pairwise.sublist List.filter_sublist b⟩⟩
noncomputable def sv(v:Str->Int)(l:List Str):Int:=(l.map v).sum
def Dc(v:Str->Int)(c:Cn):Int:=sv v c.1 - sv v c.2
theorem qjr(v:Str->Int)(a b:List Str):sv v (a++b)=sv v a+sv v b:=by unfold sv;rw[cS,i5]
theorem XN(v:Str->Int):∀{l:List Str}{y:Str},y∈l->sv v (l.erase y)=sv v l - v y
 | x::l,y,h=>by
  by_cases q:x=y
  .subst q;rw[List.erase_cons_head];show _=v x+sv v l - v x
   lia
  .rw[List.erase_cons_tail (by simpa using q)];have j:=XN v ((af.mp h).resolve_left λz=>q z.symm);show v x+sv v (l.erase y)=v x+sv v l - v y
   lia
set_option tactic.hygienic true in
theorem qjs(v:Str->Int)(c:Cn)(y:Str):Dc v (st1 c y)=Dc v c - v y:=by
 unfold st1 Dc;split
 .rename_i h;show sv v (c.1.erase y) - sv v c.2=_;rw[XN v h]
  lia
 .show sv v c.1 - sv v (c.2++[y])=_;rw[qjr,show sv v [y]=v y by simp[sv]]
  lia
theorem qlh(v:Str->Int)(x y:Str×Str):Dc v (un x y)=nu v x - nu v y:=by
 unfold un;rw[qjs,qjs];simp[Dc,sv,nu]
 lia
set_option tactic.hygienic true in
theorem qjt(c:Cn)(y:Str):((st1 c y).1.length:Int) - (st1 c y).2.length=(c.1.length:Int) - c.2.length - 1:=by
 unfold st1;split
 .rename_i h;show((c.1.erase y).length:Int) - c.2.length=_;rw[fB h];have:=dY h
  lia
 .show(c.1.length:Int) - (c.2++[y]).length=_;rw[am];simp
  lia
theorem qmu(x y:Str×Str):(un x y).1.length=(un x y).2.length:=by
 have h1:=qjt ([x.1,x.2],[]) y.1;have h2:=qjt (st1 ([x.1,x.2],[]) y.1) y.2;unfold un;simp at h1
 lia
variable{P:Str->Prop}
theorem qeO(h1:∀z∈c.1++c.2,P z)(h2:P y):∀z∈(st1 c y).1++(st1 c y).2,P z:=by
 unfold st1;split;·exact λz h=>(aI.mp h).elim (λq=>h1 z (aI.mpr (.inl (fX q)))) λq=>h1 z (aI.mpr (.inr q))
 .intro z h;rcases aI.mp h with q|q;·exact h1 z (aI.mpr (.inl q))
  .rcases aI.mp q with q|q;·exact h1 z (aI.mpr (.inr q))
   .rw[ay.mp q];exact h2
theorem qli{x y:Str×Str}(h1:P x.1)(h2:P x.2)(g:P y.1)(a:P y.2):∀z∈(un x y).1++(un x y).2,P z:=
 qeO (qeO (λz h=>by
  simp at h;rcases h with rfl|rfl;·exact h1
  .exact h2) g) a
theorem JE:c∈CT l↔∃i j,∃(hi:i<l.length)(D:j<l.length),i<j/\c=un l[i] l[j]:=by
 unfold CT;rw[List.mem_flatMap];constructor
 .rintro⟨j,D,h⟩;have D:=aN.mp D;obtain⟨a,f,rfl⟩:=aw.mp h;obtain⟨i,hi,rfl⟩:=List.mem_take_iff_getElem.mp f;refine⟨i,j,by lia,D,by lia,?_⟩;have:pa l j=l[j]:=by unfold pa;rw[aG D];rfl
  rw[this]
 .rintro⟨i,j,hi,D,b,rfl⟩;refine⟨j,aN.mpr D,aw.mpr ⟨l[i],List.mem_take_iff_getElem.mpr ⟨i,by lia,rfl⟩,?_⟩⟩;have:pa l j=l[j]:=by unfold pa;rw[aG D];rfl
  rw[this]
theorem qgX:Ds r v l↔∀c∈CT l,¬r ∣ Dc v c:=by
 unfold Ds;rw[cA];constructor;·intro h c d;obtain⟨i,j,hi,D,b,rfl⟩:=JE.mp d;rw[qlh];exact h i j hi D b
 .intro h i j hi D b;have:=h _ (JE.mpr ⟨i,j,hi,D,b,rfl⟩);rw[qlh]at this;exact this
theorem qju(h:c∈CT l):∀z∈c.1++c.2,z∈LS l:=by obtain⟨i,j,hi,D,_,rfl⟩:=JE.mp h;have m1:=cF hi;have A:=cF D;exact qli (xl.mpr ⟨_,m1,.inl rfl⟩) (xl.mpr ⟨_,m1,.inr rfl⟩) (xl.mpr ⟨_,A,.inl rfl⟩) (xl.mpr ⟨_,A,.inr rfl⟩)
theorem qmv(h:c∈CT l):c.1.length=c.2.length:=by obtain⟨i,j,hi,D,_,rfl⟩:=JE.mp h;exact qmu _ _
theorem Qp{k:Fx}(h:kR k (.inr x)=lw)(d:D):wk k (.inr x) d=k++[(.inr x,d)]:=by unfold wk;unfold kR at h;rw[h];rfl
theorem ut{k:Fx}(h:kR k (.inr x)=lw)(d:D)(y:Str):kR (wk k (.inr x) d) (.inr y)=(kR k (.inr y)||decide (x=y)):=by rw[Qp h];unfold kR;rw[List.any_append];simp
theorem WH{k:Fx}(h:kR k (.inr x)=lw)(w:Int):vl (wk k (.inr x) (.int w)) x=w/\∀y,y≠x->vl (wk k (.inr x) (.int w)) y=vl k y:=by
 rw[Qp h];unfold vl;refine⟨?_,λy B=>?_⟩
 .have:(k.find? λkv=>decide (kv.1=cG x))=none:=by rw[c8];intro p hp z;unfold kR at h;rw[List.any_eq_false]at h;exact h p hp z
  rw[List.find?_append,this];simp
 .rw[List.find?_append];have:([(cG x,D.int w)]:Fx).find? (λkv=>decide (kv.1=cG y))=none:=by rw[c8];intro p hp z;rw[ay.mp hp]at z;have:=Ae z;exact B (cG.inj this).symm
  rw[this,Option.or_none]
theorem qjv{w:Str->Int}{l:List Str}(h:∀x∈l,v x=w x):sv v l=sv w l:=by unfold sv;rw[List.map_congr_left h]
theorem qgY{w:Str->Int}(h:∀x∈c.1++c.2,v x=w x):Dc v c=Dc w c:=by unfold Dc;rw[qjv λx hx=>h x (aI.mpr (.inl hx)),qjv λx hx=>h x (aI.mpr (.inr hx))]
theorem qgZ{w:Str->Int}(h:∀x,r ∣ v x - w x):∀l:List Str,r ∣ sv v l - sv w l
 |[]=>by simp[sv]
 |x::l=>by have j:=qgZ h l;show r ∣ (v x+sv v l) - (w x+sv w l);rw[show(v x+sv v l) - (w x+sv w l)=(v x - w x)+(sv v l - sv w l) by lia];exact iO (h x) j
theorem qlj{w:Str->Int}(h:∀x,r ∣ v x - w x)(d:¬r ∣ Dc v c):¬r ∣ Dc w c:=λz=>d (by
 have h1:=qgZ h c.1;have h2:=qgZ h c.2;have:Dc v c=(sv v c.1 - sv w c.1) - (sv v c.2 - sv w c.2)+Dc w c:=by unfold Dc;lia
 rw[this];exact iO (Int.dvd_sub h1 h2) z)
theorem XO{k:Fx}:md r k c=lv↔((∀y∈c.1++c.2,kR k (.inr y)=lv)->¬r ∣ Dc (vl k) c):=by
 unfold md;cases q:(c.1++c.2).all λx=>kR k (.inr x)with
 |false=>
  have:¬∀y∈c.1++c.2,kR k (.inr y)=true:=λz=>by rw[aW.mpr z]at q;cases q
  exact⟨λ_ z=>absurd z this,λ_=>rfl⟩
 |true=>rw[Aa rfl,decide_eq_true_eq];have l:=aW.mp q;exact⟨λh _ z=>h (Int.emod_eq_zero_of_dvd z),λh z=>h l (Int.dvd_of_emod_eq_zero z)⟩
noncomputable def chs(r:Int)(k:Fx):List Int:=if k=[]then[0]else(aB r.toNat).map λ(j:Nat)=>(j:Int)
def cf(r:Int)(Cs:List Cn):Nat->List Str->Fx->Bool
 | 0,_,_=>lw
 |n+1,ls,k=>Cs.all (md r k)&&(match ls with
  |[]=>lv
  |x::ls=>(chs r k).any λw=>cf r Cs n ls (wk k (.inr x) (.int w)))
def qhG(r:Int)(Cs:List Cn)(v:Str->Int):Prop:=∀c∈Cs,¬r ∣ Dc v c
theorem qb4{r:Int}(i:1<=r){Cs:List Cn}:∀(n:Nat)(ls:List Str)(k:Fx),ls.length<n->k≠[]->ls.Nodup->(∀y∈ls,kR k (.inr y)=lw)->(∀c∈Cs,∀y∈c.1++c.2,kR k (.inr y)=lv\/y∈ls)->(cf r Cs n ls k=lv↔∃v,Ext k v/\qhG r Cs v)
 | 0,ls,k,h,_,_,_,_=>absurd h (dZ _)
 | n+1,ls,k,h,hk,hnd,hno,hin=>by
  have e:∀v,Ext k v->qhG r Cs v->Cs.all (md r k)=true:=λv a hg=>aW.mpr λc d=>XO.mpr λl=>by rw[<-qgY λy B=>a y (l y B)];exact hg c d
  cases ls with
  |nil=>show(Cs.all (md r k)&&lv)=lv↔_;rw[k7];refine⟨λh=>⟨vl k,λ_ _=>rfl,λc d=>XO.mp (aW.mp h c d) λy B=>(hin c d y B).resolve_right λz=>by cases z⟩,λ⟨v,a,hg⟩=>e v a hg⟩
  | cons x ls=>
   have hx:=hno x (aj ..);obtain⟨g,b⟩:=aZ.mp hnd;have j:=λw=>qb4 i (Cs:=Cs) n ls (wk k (.inr x) (.int w)) (by rw[ah]at h;lia) (by rw[Qp hx];simp) b (λy B=>by
    rw[ut hx,hno y (ae _ B)];simp;exact λz=>g (z ▸ B)) λc d y B=>by
    rw[ut hx];rcases hin c d y B with q|q;·exact .inl (by rw[q];rfl)
    .rcases af.mp q with q|q;·exact .inl (by simp[q])
     .exact .inr q
   show(Cs.all (md r k)&&(chs r k).any λw=>cf r Cs n ls (wk k (.inr x) (.int w)))=lv↔_;rw[aO,h8];constructor
   .rintro⟨_,w,_,hw⟩;obtain⟨v,a,hg⟩:=(j w).mp hw;refine⟨v,λy B=>?_,hg⟩;have f:y≠x:=λz=>by rw[z,hx]at B;cases B
    rw[a y (by rw[ut hx,B];rfl),(WH hx w).2 y f]
   .rintro⟨v,a,hg⟩;refine⟨e v a hg,v x % r,?_,(j _).mpr ⟨λy=>if y=x then v x % r else v y,λy B=>?_,λc d=>qlj (λy=>?_) (hg c d)⟩⟩;·unfold chs;rw[Ab hk];have h1:=fD (v x) (show r≠0 by lia);have h2:=dX (v x) (show 0<r by lia);exact aw.mpr ⟨(v x % r).toNat,aN.mpr 'b',by lia⟩
    .show(if y=x then v x % r else v y)=_;by_cases q:y=x;·rw[Aa q,q,(WH hx _).1]
     .rw[Ab q,(WH hx _).2 y q];rw[ut hx]at B;refine a y ?_;simpa[show ¬x=y from λz=>q z.symm]using B
    .show r ∣ v y - (if y=x then v x % r else v y);by_cases q:y=x;·rw[Aa q,q];exact Int.dvd_self_sub_of_emod_eq rfl
     .rw[Ab q,Int.sub_self];exact Int.dvd_zero r
theorem KM(v:Str->Int)(t:Int):∀l:List Str,sv (λy=>v y - t) l=sv v l - t * l.length
 |[]=>by simp[sv]
 |x::l=>by
  have j:=KM v t l;show(v x - t)+sv (λy=>v y - t) l=(v x+sv v l) - t * ((l.length+1:Nat):Int);rw[j,Int.natCast_add,Int.mul_add];simp
  lia
theorem qd0(v:Str->Int)(t:Int)(h:c.1.length=c.2.length):Dc (λy=>v y - t) c=Dc v c:=by
 unfold Dc;rw[KM,KM,h]
 lia
theorem qg0(k:1<=r)(o:∀c∈Cs,c.1.length=c.2.length)(n:Nat)(ls:List Str)(h:ls.length<n)(i:ls.Nodup)(g:∀c∈Cs,∀y∈c.1++c.2,y∈ls):cf r Cs n ls []=lv↔∃v,qhG r Cs v:=by
 obtain⟨n,rfl⟩:∃m,n=m+1:=⟨n - 1,by lia⟩
 have a:∀y:Str,kR [] (.inr y)=false:=λy=>rfl;have e:∀v,qhG r Cs v->Cs.all (md r [])=true:=λv hg=>aW.mpr λc d=>XO.mpr λl=>by rw[qgY (w:=v) λy B=>absurd (l y B) (by rw[a];simp)];exact hg c d
 cases ls with
 |nil=>show(Cs.all (md r [])&&lv)=lv↔_;rw[k7];exact⟨λh=>⟨vl [],λc d=>XO.mp (aW.mp h c d) λy B=>by cases g c d y B⟩,λ⟨v,hg⟩=>e v hg⟩
 | cons x ls=>
  obtain⟨f,b⟩:=aZ.mp i;have j:=qb4 k (Cs:=Cs) n ls (wk [] (.inr x) (.int 0)) (by rw[ah]at h;lia) (by rw[Qp (a x)];simp) b (λy B=>by
   rw[ut (a x),a];simp;exact λz=>f (z ▸ B)) λc d y B=>by
   rw[ut (a x),a];rcases af.mp (g c d y B)with q|q;·exact .inl (by simp[q])
   .exact .inr q
  show(Cs.all (md r [])&&(chs r []).any λw=>cf r Cs n ls (wk [] (.inr x) (.int w)))=lv↔_;rw[show chs r []=[0]from Aa rfl,aO];simp only[cX,List.any_nil,j7];rw[j];constructor;·rintro⟨_,v,_,hg⟩;exact⟨v,hg⟩
  .rintro⟨v,hg⟩;refine⟨e v hg,λy=>v y - v x,λy B=>?_,λc d=>?_⟩
   .rw[ut (a x),a]at B;have:x=y:=by simpa using B
    subst this;rw[(WH (a x) 0).1];show v x - v x=0
    lia
   .rw[qd0 v (v x) (o c d)];exact hg c d
set_option tactic.hygienic true in
theorem qeP(h:∀z∈c.1,z∉c.2)(y:Str):∀z∈(st1 c y).1,z∉(st1 c y).2:=by
 unfold st1;split;·exact λz a=>h z (fX a)
 .rename_i B;intro z a q;rcases aI.mp q with q|q;·exact h z a q
  .rw[ay.mp q]at a;exact B a
theorem qlk(x y:Str×Str):∀z∈(un x y).1,z∉(un x y).2:=qeP (qeP (λz _ q=>by cases q) _) _
theorem qjw{x y:Str×Str}(h:un x y=([],[])):al x y=true:=by
 have e:∀v,nu v x=nu v y:=λv=>by
  have:=qlh v x y;rw[h]at this;simp[Dc,sv]at this
  lia
 obtain⟨a,b⟩:=x;obtain⟨c,d⟩:=y;have h1:=e λz=>if z=a then 1 else 0
 simp only[nu,if_true]at h1;have f:c=a\/d=a:=by refine bX λz=>?_;have g:¬c=a:=λq=>z (.inl q);have N:¬d=a:=λq=>z (.inr q);rw[Ab g,Ab N]at h1;split at h1 <;> lia
 have one:∀s t:Str,(∀v:Str->Int,v s=v t)->s=t:=λs t q=>by
  refine bX λz=>?_;have:=q λy=>if y=s then 1 else 0
  rw[Aa rfl,Ab λw=>z w.symm]at this;cases this
 refine qjh.mpr ?_;rcases f with rfl|rfl
 .refine .inl ?_;have:=one b d λv=>by
   have:=e v;simp only[nu]at this
   lia
  rw[this]
 .refine .inr ?_;have:=one b c λv=>by
   have:=e v;simp only[nu]at this
   lia
  rw[this]
noncomputable def up(v:Str->Int)(x:Str)(t:Int)(y:Str):Int:=if y=x then t else v y
theorem qg1(v:Str->Int)(x:Str)(t:Int):∀l:List Str,sv (up v x t) l=sv (up v x 0) l+t * (l.count x:Nat)
 |[]=>by simp[sv]
 | y::l=>by
  have j:=qg1 v x t l;show up v x t y+sv (up v x t) l=(up v x 0 y+sv (up v x 0) l)+t * ((y::l).count x:Nat);rw[j,List.count_cons];by_cases q:y=x
  .subst q;simp only[up,if_true,beq_self_eq_true,Int.natCast_add,Int.mul_add];simp
   lia
  .have f:(y == x)=false:=beq_false_of_ne q;simp only[up,Ab q,f,bq,if_false,Nat.add_zero]
   lia
noncomputable def bd(e D:Int):Int:=if e=1 then(-D) % 97 else if e=-1 then D % 97 else if e=2 then(-D * 49) % 97 else(D * 49) % 97
theorem qll{e D t:Int}(he:e=1\/e=-1\/e=2\/e=-2)(o:0<=t)(f:t<97)(h:t≠bd e D):¬(97:Int) ∣ D+t * e:=by
 unfold bd at h;rcases he with rfl|rfl|rfl|rfl
 .simp at h;omega
 .simp at h;omega
 .simp at h;omega
 .simp at h;omega
theorem qeQ(hd:∀c∈Cs,∀z∈c.1,z∉c.2)(h2:∀c∈Cs,c.1.length<=2/\c.2.length<=2)(hl:Cs.length<97):∀(ls S:List Str)(v:Str->Int),(∀c∈Cs,(∀y∈c.1++c.2,y∈S)->¬(97:Int) ∣ Dc v c)->(∀c∈Cs,∀y∈c.1++c.2,y∈S\/y∈ls)->∃w,qhG 97 Cs w
 |[],S,v,h,hin=>⟨v,λc d=>h c d λy B=>(hin c d y B).resolve_right λz=>by cases z⟩
 | x::ls,S,v,h,hin=>by
  obtain⟨t,o,f,ht⟩:=XM (r:=97) 'b' (Cs.map λc=>bd ((c.1.count x:Int) - (c.2.count x:Int)) (Dc (up v x 0) c)) (by rw[aq];lia);refine qeQ hd h2 hl ls (x::S) (if x∈S then v else up v x t) (λc d l=>?_) λc d y B=>?_
  .by_cases b:x∈S;·rw[Aa b];exact h c d λy B=>(af.mp (l y B)).elim (λz=>z ▸ b) id
   .rw[Ab b];by_cases a:x∈c.1++c.2
    .have e:Dc (up v x t) c=Dc (up v x 0) c+t * ((c.1.count x:Int) - (c.2.count x:Int)):=by
      unfold Dc;rw[qg1 v x t c.1,qg1 v x t c.2,Int.mul_sub]
      lia
     rw[e];have hb:t≠bd ((c.1.count x:Int) - (c.2.count x:Int)) (Dc (up v x 0) c):=λz=>ht (aw.mpr ⟨c,d,z.symm⟩);refine qll ?_ o f hb;have c1:c.1.count x<=c.1.length:=List.count_le_length;have c2:c.2.count x<=c.2.length:=List.count_le_length;have g:=h2 c d;rcases aI.mp a with q|q
     .have z:c.2.count x=0:=fH.mpr (hd c d x q);have p:0<c.1.count x:=List.count_pos_iff.mpr q
      lia
     .have z:c.1.count x=0:=fH.mpr λz=>hd c d x z q;have p:0<c.2.count x:=List.count_pos_iff.mpr q
      lia
    .rw[qgY (w:=v) λy B=>by have:y≠x:=λz=>a (z ▸ B);simp[up,this]];exact h c d λy B=>(af.mp (l y B)).resolve_left λz=>a (z ▸ B)
  .rcases hin c d y B with q|q;·exact .inl (ae _ q)
   .rcases af.mp q with q|q;·exact .inl (by rw[q];exact aj ..)
    .exact .inr q
theorem qg2(hl:l.length<=6):(CT l).length<97:=by
 unfold CT;have:∀s:List Nat,(s.flatMap λj=>(l.take j).map λa=>un a (pa l j)).length<=6 * s.length:=λs=>by
  induction s with
  |nil=>simp
  |cons j s i=>
   rw[ei,am,aq,bb,ah]
   lia
 have:=this (aB l.length);rw[bD]at this
 lia
theorem qmw(a:NA l)(f:l.length<=6):∃v,Ds 97 v l:=by
 obtain⟨w,hw⟩:=qeQ (Cs:=CT l) (λc d=>by
  obtain⟨i,j,hi,D,_,rfl⟩:=JE.mp d;exact qlk _ _) (λc d=>qeK d) (qg2 f) (LS l) [] (λ_=>0) (λc d h=>by
  obtain⟨i,j,hi,D,b,rfl⟩:=JE.mp d;exfalso;have e:(un l[i] l[j]).1++(un l[i] l[j]).2=[]:=by
   cases q:(un l[i] l[j]).1++(un l[i] l[j]).2 with
   |nil=>rfl
   |cons z t=>cases h z (by rw[q];exact aj ..)
  obtain⟨e1,g⟩:=List.append_eq_nil_iff.mp e;have:=qjw (x:=l[i]) (y:=l[j]) (dG e1 g);rw[cA.mp a i j hi D b]at this;cases this) λc d y B=>.inr (qju d y B)
 exact⟨w,qgX.mpr hw⟩
theorem qd1(l:K.length<=100)(c:Str)(a:Option D)(b:D):d1 Ka (qP [] 1 [3] (jv (qc 1)) (gNm 0) ftT (dM qhA uR (qc 0) (qc 1))) [a,lm (.lst (ql K)),lm b,lm (.str c)]=.ok (.int (cn K c),[a,lm (.lst (ql K)),lm b,lm (.str c)]):=by
 have hs:Ka (.lst ((K.map λx=>co x c).map D.int))=.ok (.int (cn K c)):=qb0 (by rw[aq];lia) λk h=>by
  obtain⟨y,_,rfl⟩:=aw.mp h;have:=qdY y c
  lia
 rw[yL,qgQ l c a (lm b)];simp only[ky];rw[hs];rfl
theorem qg3(l:K.length<=100)(k:Fx)(x:Str×Str):jS [pD x,.lst (ql K),.dct k]=.ok (.bl (loK k K x),[.non,.non,.non]):=by refine qo.trans ?_;have h:=λc=>qd1 l c (lm (pD x)) (.dct k);have n:∀c:Str,Jc (.str c) (.dct k)=.ok (.bl (!kR k (.inr c))):=λc=>rfl;generalize D.lst (ql K)=Z at h ⊢;generalize D.dct k=Y at h n ⊢;obtain⟨a,b⟩:=x;unfold loK;cases d:kR k (.inr a) <;> cases e:kR k (.inr b) <;> by_cases q:cn K a=1 <;> by_cases g:cn K b=1 <;> simp[Jt,qr,ju,jU,n,d,e,-yL,h,eqD,eqN,eqS,q,g]
theorem XQ(l:K.length<=100)(k:Fx)(a b:Option D):qP [] 1 [2,1] (jv (qc 2)) (gNm 0) (uN (wS (qt [.vl,.vl,.vl] jS (qb (qc 0) (qb (qc 1) (qb (qc 2) qA)))))) (qc 0) [a,lm (.dct k),lm (.lst (ql K)),b]=.ok (.lst (ql (peK k K)),[a,lm (.dct k),lm (.lst (ql K)),b]):=by have e:=qbQ (own:=[]) (cap:=[2,1]) (fi:=jv (qc 2)) (ρ:=[a,lm (.dct k),lm (.lst (ql K)),b]) (ρ1:=[a,lm (.dct k),lm (.lst (ql K)),b]) (ds:=ql K) (ft:=uN (wS (qt [.vl,.vl,.vl] jS (qb (qc 0) (qb (qc 1) (qb (qc 2) qA)))))) (fe:=qc 0) (λd=>match d with|.tup [.str x,.str y]=>!loK k K (x,y)|d=>lw) (λd=>d) 'f' (by simp[ju]) (by unfold ql;rw[aq];exact qJ 'b') (λd hd=>by obtain⟨x,hx,rfl⟩:=aw.mp hd;have h:=qg3 l k x;have h:jS [.tup [.str x.1,.str x.2],.lst (ql K),.dct k]=.ok (.bl (loK k K x),[.non,.non,.non]):=h;simp[h]) (λd hd _=>rfl);rw[e];congr 2;unfold peK;rw[List.map_id'];unfold ql;rw[List.filter_map];rfl
theorem WI{r:Int}(c:1<=r)(k:Fx){a:Option D}:∀(n:Nat)(K:List (Str×Str)),K.length<n->K.length<=100->(K.length:Int)<=r->∃B R,(OKs r k B↔OKs r k K)/\B.Sublist K /\
  jb (qK (d2 ltD (d1 kO (qc 3)) (d1 kO (qc 2))))
   (qH (jz 2 (qc 3))
   (qH (jz 3 (qP [] 1 [2,1] (jv (qc 2)) (gNm 0) (uN (wS (qt [.vl,.vl,.vl] jS (qb (qc 0) (qb (qc 1) (qb (qc 2) qA)))))) (qc 0))) jd)) n [a,lm (.dct k),lm (.lst (ql K)),lm (.lst (ql (peK k K)))]=.ok (.nx,[a,lm (.dct k),lm (.lst (ql B)),lm (.lst R)])
 | 0,K,h,_,_=>absurd h (dZ _)
 |n+1,K,h,hK,hKr=>by
  have h1:kO (.lst (ql K))=.ok (.int K.length):=by simp[ql]
  have h2:kO (.lst (ql (peK k K)))=.ok (.int (peK k K).length):=by simp[ql]
  have Q:(peK k K).length<=K.length:=List.length_filter_le _ _;by_cases q:(peK k K).length<K.length;·obtain⟨B,R,n1,n2,e⟩:=WI c k (a:=a) n (peK k K) 'b' 'b' 'b';refine⟨B,R,n1.trans (qjq c hKr),n2.trans List.filter_sublist,?_⟩;have d:=XQ (K:=peK k K) 'b' k a (lm (.lst (ql (peK k K))));rw[<-e];generalize D.lst (ql (peK k (peK k K)))=Z2 at d ⊢;generalize D.lst (ql (peK k K))=Z1 at h2 d ⊢;generalize D.lst (ql K)=Z at h1 ⊢;generalize D.dct k=Y at d ⊢;simp[jb,h1,h2,q,d]
  .refine⟨K,ql (peK k K),Iff.rfl,iN _,?_⟩;generalize D.lst (ql (peK k K))=Z1 at h2 ⊢;generalize D.lst (ql K)=Z at h1 ⊢;simp[jb,h1,h2,q]
theorem qg4(c:1<=r)(k:Fx)(l:K.length<=10)(h:(K.length:Int)<=r):∃B,(OKs r k B↔OKs r k K)/\B.Sublist K/\wA [.lst (ql K),.dct k]=.ok (.lst (ql B),[.non,.non]):=by obtain⟨B,R,n1,n2,e⟩:=WI c k (a:=lm (.lst (ql K))) 20 K 'b' 'b' h;refine⟨B,n1,n2,?_⟩;have d:=XQ (K:=K) 'b' k (lm (.lst (ql K))) lr;refine qo.trans ?_;unfold xb;rw[show qr xa [.lst (ql K),.dct k]=[lm (.lst (ql K)),lm (.dct k),lr,lr]from rfl];refine(qy (ρ1:=[lm (.lst (ql K)),lm (.dct k),lm (.lst (ql K)),lr]) 'f').trans ?_;refine(qy (ρ1:=[lm (.lst (ql K)),lm (.dct k),lm (.lst (ql K)),lm (.lst (ql (peK k K)))]) (by rw[Uy,d];rfl)).trans ?_;refine(qy e).trans ?_;simp
theorem XR{gr:jy}{C S1:D}{k:Fx}(hl:k.length<=100){ch:Option D}(hi:ixD S (.int 0)=.ok (.str x))(hs:qhB (lm 1) lr S=.ok S1)(P:Int->Bool):∀(vs:List Int)(y:Option D),(∀v∈vs,gr [C,.int r,.dct (wk k (.inr x) (.int v)),S1]=.ok (.bl (P v),[.non,.non,.non,.non])) ->(vs.any P=lv/\∃ρ,jU (gNm 5) (cfB gr) (vs.map D.int) [lm C,lm (.int r),lm (.dct k),lm S,ch,y]=.ok (.rt (.bl lv),lm C::lm (.int r)::lm (.dct k)::lm S::ρ))\/(vs.any P=lw/\∃p,jU (gNm 5) (cfB gr) (vs.map D.int) [lm C,lm (.int r),lm (.dct k),lm S,ch,y]=.ok (.nx,[lm C,lm (.int r),lm (.dct k),lm S,ch,p]))
 |[],y,_=>.inr ⟨rfl,y,rfl⟩
 | v::vs,y,h=>by
  have hb:=h v (aj ..);have hw:=qgS hl x v;cases q:P v with
  |true=>rw[q]at hb;refine .inl ⟨by simp[q],[ch,lm (.int v)],?_⟩;simp[jU,cfB,hw,hi,jH,wq,hs,hb]
  |false=>
   rw[q]at hb;have s1:jU (gNm 5) (cfB gr) ((v::vs).map D.int) [lm C,lm (.int r),lm (.dct k),lm S,ch,y]=jU (gNm 5) (cfB gr) (vs.map D.int) [lm C,lm (.int r),lm (.dct k),lm S,ch,lm (.int v)]:=by simp[jU,cfB,hw,hi,jH,wq,hs,hb]
   rw[s1,cX,q,Bool.false_or];exact XR hl hi hs P vs _ λu d=>h u (ae _ d)
theorem qg5(r:Int)(Cs:List Cn)(n:Nat)(x:Str)(ls:List Str)(k:Fx):cf r Cs (n+1) (x::ls) k=(Cs.all (md r k)&&(chs r k).any λw=>cf r Cs n ls (wk k (.inr x) (.int w))):=rfl
theorem JF(hC:∀c∈Cs,c.1.length<=2/\c.2.length<=2)(z:Cs.length<=100)(y:0<r)(m:r<=99):∀(n:Nat)(ls:List Str)(k:Fx),ls.length<n->qcu k->k.length+ls.length<=100 ->qT n [.lst (Cs.map cE),.int r,.dct k,sE ls]=.ok (.bl (cf r Cs n ls k),[.non,.non,.non,.non])
 | 0,ls,k,h,_,_=>absurd h (dZ _)
 | n+1,ls,k,h,hk,hl=>by
  have hA:=λa b c=>qgT hC z y hk a b c;show jI jD [.val,.val,.val,.val] (jn (qT n)) [.lst (Cs.map cE),.int r,.dct k,sE ls]=_;have t:qr jD [.lst (Cs.map cE),.int r,.dct k,sE ls]=[lm (.lst (Cs.map cE)),lm (.int r),lm (.dct k),lm (sE ls),lr,lr]:=rfl;cases q:Cs.all (md r k)with
  |false=>
   refine qo.trans ?_;have u:cf r Cs (n+1) ls k=false:=by cases ls <;> (unfold cf;rw[q];rfl)
   rw[q]at hA;rw[t,u];simp[jn,-yL,hA]
  | true=>
   rw[q]at hA;have hA:=hA (lm (sE ls)) lr lr;cases ls with
   |nil=>refine qo.trans ?_;rw[show cf r Cs (n+1) [] k=lv by unfold cf;rw[q];rfl];rw[t];unfold jn;refine(qy (ρ1:=[lm (.lst (Cs.map cE)),lm (.int r),lm (.dct k),lm (sE []),lr,lr]) (by simp[-yL,hA])).trans ?_;simp[eqD,eqN,eqS]
   | cons x ls=>
    rw[ah]at h hl;rw[qg5,q,Bool.true_and];obtain⟨hi,hs⟩:=XJ x ls;have d:∀v∈chs r k,0<=v/\v<r:=λv d=>by
     unfold chs at d;split at d;·rw[ay.mp d];lia
     .obtain⟨j,B,rfl⟩:=aw.mp d;have:=aN.mp B
      lia
    have s:dIf (qK (d2 eqD (d1 kO (qc 2)) 'n')) (xq (qb 'n' qA)) (d1 uA (qc 1)) [lm (.lst (Cs.map cE)),lm (.int r),lm (.dct k),lm (sE (x::ls)),lr,lr]=.ok (.lst ((chs r k).map D.int),[lm (.lst (Cs.map cE)),lm (.int r),lm (.dct k),lm (sE (x::ls)),lr,lr]):=by
     unfold chs;by_cases l:k=[];·have A:1<=Z8:=qJ 'b';simp[eqD,eqN,eqS,l,A]
     .rw[Ab l];have g:uA (.int r)=.ok (.lst (((aB r.toNat).map λ(j:Nat)=>(j:Int)).map D.int)):=by
       unfold uA;have c1:qeo 0 r/\r<=1000000:=⟨⟨by decide,by lia⟩,by lia⟩
       simp only[Int.sub_zero,Aa c1];rw[qdZ]
      generalize ((aB r.toNat).map λ(j:Nat)=>(j:Int)).map D.int=M at g ⊢;simp[eqD,eqN,eqS,l,g]
    have p:=XR (gr:=qT n) (C:=.lst (Cs.map cE)) (r:=r) (k:=k) (ch:=lm (.lst ((chs r k).map D.int))) 'b' hi hs (λw=>cf r Cs n ls (wk k (.inr x) (.int w))) (chs r k) lr λv f=>
     JF hC z y m n ls (wk k (.inr x) (.int v)) 'b' (qbd hk _ (d v f).1 (by have:=(d v f).2;lia)) (by have:=qb3 k (.inr x) (.int v);lia)
    have i:kO (sE (x::ls))=.ok (.int ((ls.length:Int)+1)):=by simp
    have o:¬((ls.length:Int)+1=0):=by lia
    generalize G:sE (x::ls)=S at *;generalize D.lst (Cs.map cE)=C at *;have fin:Jf [.val,.val,.val,.val] ((qH (QX (jv (qc 4)) (gNm 5) (cfB (qT n))) (jl (dC (.bl lw)))) [lm C,lm (.int r),lm (.dct k),lm S,lm (.lst ((chs r k).map D.int)),lr])=.ok (.bl ((chs r k).any λw=>cf r Cs n ls (wk k (.inr x) (.int w))),[.non,.non,.non,.non]):=by
     have hit:jv (qc 4) [lm C,lm (.int r),lm (.dct k),lm S,lm (.lst ((chs r k).map D.int)),lr]=.ok ((chs r k).map D.int,[lm C,lm (.int r),lm (.dct k),lm S,lm (.lst ((chs r k).map D.int)),lr]):=by simp[ju]
     generalize (chs r k).map D.int=M at hit p ⊢;rcases p with⟨e0,ρ,e⟩|⟨e0,E,e⟩
     .rw[e0,ua,vL,hit,ky,e];rfl
     .rw[e0,ua,vL,hit,ky,e];rfl
    refine qo.trans ?_;rw[t];unfold jn;refine(qy (ρ1:=[lm C,lm (.int r),lm (.dct k),lm S,lr,lr]) (by simp[-yL,hA])).trans ?_;refine(qy (ρ1:=[lm C,lm (.int r),lm (.dct k),lm S,lr,lr]) (by simp[i,eqD,eqN,eqS,o])).trans ?_;refine(qy (ρ1:=[lm C,lm (.int r),lm (.dct k),lm S,lm (.lst ((chs r k).map D.int)),lr]) (by rw[Uy,s];rfl)).trans ?_;exact fin
theorem JG(G:l.length<=6)(p:1<=r)(s:r<=99){k:Fx}(A:qcu k)(w:k.length<=50):∃b,jc [.lst (ql l),.int r,.dct k]=.ok (.bl b,[.non,.non,.non])/\(b=lv↔(l.length:Int)<=r/\OKs r k l):=by
 have n:kO 'l'=.ok (.int l.length):=by simp[ql]
 by_cases m:r<(l.length:Int);·refine⟨lw,?_,⟨(λz=>by cases z),λz=>absurd z.1 'b'⟩⟩;refine qo.trans ?_;generalize D.lst (ql l)=Z at n ⊢;simp[vF,qr,n,m]
 .have g:(l.length:Int)<=r:=by lia
  obtain⟨B,n1,n2,hb⟩:=qg4 p k (K:=l) 'b' g;have H:B.length<=6:=bn n2.length_le G;have L:=wE (l:=B) 'b';have f:=WG (l:=B) 'b';have u:=qeL B;have M:((LS B).filter λx=>!kR k (.inr x)).length<=12:=by
   have:=List.length_filter_le (λx=>!kR k (.inr x)) (LS B)
   lia
  have E:=JF (Cs:=CT B) (λc f=>qeK f) (qjl B 'b') (r:=r) 'b' s 14 ((LS B).filter λx=>!kR k (.inr x)) k 'b' A 'b';refine⟨cf r (CT B) 14 ((LS B).filter λx=>!kR k (.inr x)) k,?_,?_⟩
  .refine qo.trans ?_;have e:=qbQ (own:=[]) (cap:=[2]) (fi:=jv (qt [.vl] jj (qb (qc 3) qA))) (ρ:=[lm 'l',lm (.int r),lm (.dct k),lm (.lst (ql B)),lr]) (ρ1:=[lm 'l',lm (.int r),lm (.dct k),lm (.lst (ql B)),lr]) (ds:=(LS B).map D.str) (ft:=qK (d2 Jc (qc 0) (qc 1))) (fe:=qc 0) (λd=>match d with|.str x=>!kR k (.inr x)|_=>lw) (λd=>d) 'f' (by
     generalize D.lst (ql B)=Z at L ⊢;simp[L,ju]) (by rw[aq];exact qJ 'b') (λd hd=>by
     obtain⟨x,hx,rfl⟩:=aw.mp hd;simp[Jc,WQ]) (λd hd _=>rfl)
   rw[List.map_id',List.filter_map]at e;have e:qP [] 1 [2] (jv (qt [.vl] jj (qb (qc 3) qA))) (gNm 0) (qK (d2 Jc (qc 0) (qc 1))) (qc 0) [lm 'l',lm (.int r),lm (.dct k),lm (.lst (ql B)),lr]=.ok (sE ((LS B).filter λx=>!kR k (.inr x)),[lm 'l',lm (.int r),lm (.dct k),lm (.lst (ql B)),lr]):=e;unfold vF;rw[show qr zh [.lst (ql l),.int r,.dct k]=[lm 'l',lm (.int r),lm (.dct k),lr,lr]from rfl];generalize D.lst (ql l)=Z at *;generalize D.lst (ql B)=ZB at *;generalize D.dct k=Y at *;refine(qy (ρ1:=[lm Z,lm (.int r),lm Y,lr,lr]) (by simp[n,m])).trans ?_;refine(qy (ρ1:=[lm Z,lm (.int r),lm Y,lm ZB,lr]) (by simp[hb])).trans ?_;refine(qy (ρ1:=[lm Z,lm (.int r),lm Y,lm ZB,lm (sE ((LS B).filter λx=>!kR k (.inr x)))]) (by rw[Uy,e];rfl)).trans ?_;generalize sE ((LS B).filter λx=>!kR k (.inr x))=S at *;generalize D.lst ((CT B).map cE)=C at *;simp[f,E]
  .have j:((LS B).filter λx=>!kR k (.inr x)).Nodup:=((qN _).nodup_iff.mpr (Qn _ [] dI).1).filter _;have hok:(∃v,Ext k v/\qhG r (CT B) v)↔OKs r k B:=⟨λ⟨v,a,b⟩=>⟨v,a,qgX.mpr b⟩,λ⟨v,a,b⟩=>⟨v,a,qgX.mp b⟩⟩
   rw[<-n1,<-hok];have o:∀c∈CT B,∀y∈c.1++c.2,kR k (.inr y)=lv\/y∈(LS B).filter λx=>!kR k (.inr x):=λc f y i=>by
    cases q:kR k (.inr y)with
    |true=>exact .inl rfl
    |false=>exact .inr (dj.mpr ⟨qju f y i,by rw[q];rfl⟩)
   by_cases t:k=[];·subst t;rw[qg0 p (λc f=>qmv f) 14 _ 'b' j λc f y i=>(o c f y i).resolve_left λz=>by cases z];exact⟨λ⟨v,h⟩=>⟨g,v,(λx hx=>by cases hx),h⟩,λ⟨_,v,_,h⟩=>⟨v,h⟩⟩
   .rw[qb4 p 14 _ k 'b' t j (λy i=>by simpa using(dj.mp i).2) o];exact⟨λh=>⟨g,h⟩,λh=>h.2⟩
abbrev rfT:yu:=(uN (wS (qt [.vl,.vl,.vl] jc (qb (qc 0) (qb (qc 2) (qb (dC (.dct [])) qA))))))
abbrev rfB:qM:=(jz 2 (d2 ko (qc 2) 'i'))
variable{Z:D}
theorem KN{P:Int->Prop}(hd:∀r,1<=r->r<=99->∃b,jc [Z,.int r,.dct []]=.ok (.bl b,[.non,.non,.non])/\(b=lv↔P r)){m:Int}(c:P m)(h:m<=97){a:Option D}:∀(n:Nat)(f:Int),1<=f->f<=m->m<f+n ->∃R,f<=R/\P R/\R<=m/\jb rfT rfB n [lm Z,a,lm (.int f)]=.ok (.nx,[lm Z,a,lm (.int R)])
 | 0,f,h1,h2,h3=>by lia
 | n+1,f,h1,h2,h3=>by
  obtain⟨b,e,hb⟩:=hd f h1 'b';cases b with
  |true=>exact⟨f,by lia,hb.mp rfl,h2,by simp[jb,e]⟩
  | false=>
   have g:¬P f:=λz=>by have:=hb.mpr z;cases this
   have d:f≠m:=λz=>g (by rw[z];exact c);obtain⟨R,r1,r2,r3,r4⟩:=KN hd c h n (f+1) 'b' 'b' 'b';refine⟨R,by lia,r2,r3,?_⟩
   .have s1:jb rfT rfB (n+1) [lm Z,a,lm (.int f)]=jb rfT rfB n [lm Z,a,lm (.int (f+1))]:=by simp[jb,e]
    rw[s1];exact r4
theorem qb5(h:clo l=lr):NA l:=by
 unfold NA;rw[cA];intro i j hi D b;have h1:=List.findSome?_eq_none_iff.mp h j (aN.mpr D);unfold clF at h1;rw[Option.map_eq_none_iff,c8]at h1;have h2:=h1 i (aN.mpr b);have e1:pa l i=l[i]:=by simp[pa,hi]
 have e:pa l j=l[j]:=by simp[pa,D]
 rw[<-e1,<-e];simpa using h2
theorem qjx{k:Fx}(hl:k.length<=100)(x:Str)(v:Int):kX [.dct k,.str x,.int v]=.ok (.dct (wk k (.inr x) (.int v)),[.dct k,.non,.non]):=by have z:k.length<Z8:=aK (show k.length<2000 by lia) big;refine qo.trans ?_;simp[yY,qr,VS,VQ,WQ,z]
set_option tactic.hygienic true in
theorem qg6(d:1<=r){k:Fx}(hx:kR k (.inr x)=lw)(h:OKs r k l):∃w,0<=w/\w<r/\OKs r (wk k (.inr x) (.int w)) l:=by
 obtain⟨v,b,hd⟩:=h;refine⟨v x % r,fD _ 'b',dX _ 'b',up v x (v x % r),λy B=>?_,?_⟩
 .rw[ut hx]at B;obtain⟨h1,h2⟩:=WH hx (v x % r);unfold up;by_cases q:y=x;·rw[Aa q,q,h1]
  .rw[Ab q,h2 y q];refine b y ?_;have:decide (x=y)=false:=Ac λz=>q z.symm;rw[this,j7]at B;exact B
 .have c:∀y,r ∣ v y - up v x (v x % r) y:=λy=>by
   unfold up;split;·rename_i q;rw[q];exact Int.dvd_self_sub_emod
   .rw[Int.sub_self];exact Int.dvd_zero _
  unfold Ds at hd ⊢;refine hd.imp λ{p q} a z=>a ?_;have e:nu v p - nu v q=(nu (up v x (v x % r)) p - nu (up v x (v x % r)) q)+((v p.1 - up v x (v x % r) p.1)+(v p.2 - up v x (v x % r) p.2)) - ((v q.1 - up v x (v x % r) q.1)+(v q.2 - up v x (v x % r) q.2)):=by
   unfold nu
   lia
  rw[e];exact Int.dvd_sub (iO z (iO (c _) (c _))) (iO (c _) (c _))
abbrev lwT:yu:=(qin (qK (d2 ltD (qc 4) (qc 1))) (uN (wS (qt [.vl,.vl,.vl] jc (qb (qc 0) (qb (qc 1) (qb (qt [.sl 2,.vl,.vl] kX (kx (qb (qc 3) (qb (qc 4) qA)))) qA)))))))
abbrev lwB:qM:=(jz 4 (d2 ko (qc 4) 'i'))
theorem XS{k:Fx}(hl:k.length<=100){P:Int->Prop}(hd:∀w,0<=w->w<r->∃b,jc [Z,.int r,.dct (wk k (.inr x) (.int w))]=.ok (.bl b,[.non,.non,.non])/\(b=lv↔P w)){m:Int}(c:P m)(hmr:m<r):∀(n:Nat)(f:Int),0<=f->f<=m->m<f+n ->∃R,f<=R/\R<r/\P R/\jb lwT lwB n [lm Z,lm (.int r),lm (.dct k),lm (.str x),lm (.int f)]=.ok (.nx,[lm Z,lm (.int r),lm (.dct k),lm (.str x),lm (.int R)])
 | 0,f,h1,h2,h3=>by lia
 | n+1,f,h1,h2,h3=>by
  obtain⟨b,e,hb⟩:=hd f h1 'b';have hw:=qjx hl x f;have hfr:f<r:=by lia
  cases b with
  |true=>refine⟨f,by lia,hfr,hb.mp rfl,?_⟩;generalize D.dct (wk k (.inr x) (.int f))=Y at *;simp[jb,hw,e,hfr]
  | false=>
   have a:¬P f:=λz=>by have:=hb.mpr z;cases this
   have h:f≠m:=λz=>a (by rw[z];exact c);obtain⟨R,r1,r0,r2,r4⟩:=XS hl hd c hmr n (f+1) 'b' 'b' 'b';refine⟨R,by lia,r0,r2,?_⟩
   .have s1:jb lwT lwB (n+1) [lm Z,lm (.int r),lm (.dct k),lm (.str x),lm (.int f)]=jb lwT lwB n [lm Z,lm (.int r),lm (.dct k),lm (.str x),lm (.int (f+1))]:=by generalize D.dct (wk k (.inr x) (.int f))=Y at *;simp[jb,hw,e,hfr]
    rw[s1];exact r4
theorem sq{f g:qM}(h:f ρ=.ok (.nx,ρ1)):qH f g ρ=g ρ1:=by unfold qH;rw[h];rfl
theorem fnx{fb:qM}{ρ2:Sl}(h1:g d ρ=.ok ρ1)(h2:fb ρ1=.ok (.nx,ρ2)):jU g fb (d::ds) ρ=jU g fb ds ρ2:=by simp[jU,h1,h2]
variable{m:List (Str×Int)}
theorem qb6(h:x∉jB m)(w:Int):wk (bk m) (.inr x) (.int w)=bk (m++[(x,w)]):=by rw[Qp (by rw[XE];exact Ac h)];simp[bk]
theorem qlm(s:r<=99)(h:∀e∈m,0<=e.2/\e.2<r):qcu (bk m):=λkv a=>by obtain⟨e,he,rfl⟩:=aw.mp a;have:=h e he;exact⟨e.2,rfl,this.1,by lia⟩
theorem qd2(m:List (Str×Int))(x:Str)(w:Int):jB (m++[(x,w)])=jB m++[x]:=by simp[jB]
abbrev lwL:qM:=(qH (jz 4 'n')
  (qH (jb lwT lwB 102)
  (qH (sIf (qK (d2 eqD (qc 4) (qc 1))) (jl (dC .non)) jd)
  (VQ 2 (qc 4) (qc 3)))))
theorem qb7(n:l.length<=6)(c:1<=r)(s:r<=99)(a:(l.length:Int)<=r):∀(xs:List Str)(m:List (Str×Int))(y z:Option D),xs.Nodup->(∀x∈xs,x∉jB m)->m.length+xs.length<=40->(∀e∈m,0<=e.2/\e.2<r)->OKs r (bk m) l ->∃ws p b,jB ws=xs/\(∀e∈ws,0<=e.2/\e.2<r)/\OKs r (bk (m++ws)) l/\jU (gNm 3) lwL (xs.map D.str) [lm 'l',lm (.int r),lm (.dct (bk m)),y,z]=.ok (.nx,[lm 'l',lm (.int r),lm (.dct (bk (m++ws))),p,b])
 |[],m,y,z,_,_,_,_,hok=>⟨[],y,z,rfl,by simp,by simpa using hok,by simp[jU]⟩
 | x::xs,m,y,z,d,hnm,hlen,hm,hok=>by
  rw[ah]at hlen;have hx:x∉jB m:=hnm x (aj ..);have d:=aZ.mp d;have A:(bk m).length<=40:=by simp[bk];lia
  have g:∀w,0<=w->w<r->∀e∈m++[(x,w)],0<=e.2/\e.2<r:=λw i o e he=>by
   rcases aI.mp he with he|he;·exact hm e he
   .rw[ay.mp he];exact⟨i,o⟩
  obtain⟨i,J,I,H⟩:=qg6 c (x:=x) (by rw[XE];exact Ac hx) hok;obtain⟨R,r0,r1,r2,r4⟩:=XS (Z:=.lst (ql l)) (r:=r) (k:=bk m) 'b' (x:=x) (P:=λw=>(l.length:Int)<=r/\OKs r (wk (bk m) (.inr x) (.int w)) l) (λw u t=>by have j:=qlm s (g w u t);rw[<-qb6 hx]at j;exact JG n c s j (bn (qb3 _ _ _) 'b')) ⟨a,H⟩ I 102 0 'b' J 'b';have h:OKs r (bk (m++[(x,R)])) l:=by rw[<-qb6 hx];exact r2.2
  obtain⟨ws,p,b,G,E,C,B⟩:=qb7 n c s a xs (m++[(x,R)]) (lm (.str x)) (lm (.int R)) d.2 (λe he=>by
   rw[qd2];intro q;rcases aI.mp q with q|q;·exact hnm e (ae _ he) q
   .rw[ay.mp q]at he;exact d.1 he) (by rw[am,d6];lia) (g R r0 r1) h
  refine⟨(x,R)::ws,p,b,?_,λe he=>?_,by simpa using C,?_⟩;·show x::jB ws=_;rw[G]
  .rcases af.mp he with rfl|he;·exact⟨r0,r1⟩
   .exact E e he
  .have v:(bk m).length<Z8:=aK (show(bk m).length<2000 by lia) big;have f:¬R=r:=by lia
   have st:lwL [lm 'l',lm (.int r),lm (.dct (bk m)),lm (.str x),z]=.ok (.nx,[lm 'l',lm (.int r),lm (.dct (bk (m++[(x,R)]))),lm (.str x),lm (.int R)]):=by generalize D.lst (ql l)=Z at *;refine(sq (ρ1:=[lm Z,lm (.int r),lm (.dct (bk m)),lm (.str x),lm (.int 0)]) rfl).trans ?_;refine(sq r4).trans ?_;refine(sq (ρ1:=[lm Z,lm (.int r),lm (.dct (bk m)),lm (.str x),lm (.int R)]) (by simp[eqD,eqN,eqS,f])).trans ?_;rw[<-qb6 hx];simp[VQ,WQ,v]
   rw[aF];refine(fnx (ρ1:=[lm 'l',lm (.int r),lm (.dct (bk m)),lm (.str x),z]) rfl st).trans ?_;rw[B,cu];rfl
theorem qeR:∀{L:List Str},L.Pairwise (λx y=>leS x y/\x≠y)->qge L=lv
 |[],_=>rfl
 |[_],_=>rfl
 |x::y::r,h=>by obtain⟨h1,h2⟩:=bK.mp h;obtain⟨a,b⟩:=h1 y (aj ..);unfold qge;rw[qeR h2,Ad (bj b),Ac (show ¬y.cps.toList<x.cps.toList from a)];rfl
theorem qjy(l:List (Str×Str)):(LS l).Pairwise (λx y=>leS x y/\x≠y):=(jQ _).and (qdU l)
theorem XT:∀m:List (Str×Int),UE (bk m)=lm (jB m)
 |[]=>rfl
 |e::m=>by have:=XT m;simp[bk,jB,UE]at this ⊢;exact this
theorem qd3(m:List (Str×Int)):Xg (bk m)=prL m:=by unfold Xg bk prL;rw[bV];rfl
def qj8(l:List (Str×Str))(r:Int)(ws:List (Str×Int)):Prop:=jB ws=LS l/\(∀e∈ws,0<=e.2/\e.2<r)/\OKs r (bk ws) l
theorem Qq(e:l.length<=6)(z:∀x∈LS l,∃c,az c/\x=⟨#[c]⟩)(d:1<=r)(s:r<=99)(m:(l.length:Int)<=r)(hok:OKs r [] l):∃ws,qj8 l r ws/\vP [.lst (ql l),.int r]=.ok (.tup (prL ws),[.non,.non]):=by
 have a:=wE (l:=l) 'b';have u:=qeL l;obtain⟨ws,p,g,i,w,b,j⟩:=qb7 e d s m (LS l) [] lr lr (qdU l) (λx _=>by simp[jB]) (by simp;lia) 'f' hok;rw[ij]at b j;refine⟨ws,⟨i,w,b⟩,?_⟩;have hs:va (.dct (bk ws))=.ok (.lst (prL ws)):=by
  have h:((LS l).all λy=>decide (y.length<=Z8))=true:=by rw[aW];intro x hx;obtain⟨c,_,rfl⟩:=z x hx;exact Ad (show(1:Nat)<=Z8 from qJ 'b')
  have k:=XT ws;rw[i]at k;simp only[va,k];rw[Aa ⟨by lia,qeR (qjy l),h⟩,qd3]
 refine qo.trans ?_;unfold yc;rw[show qr yb [.lst (ql l),.int r]=[lm 'l',lm (.int r),lr,lr,lr]from rfl];refine(qy (ρ1:=[lm 'l',lm (.int r),lm (.dct (bk [])),lr,lr]) rfl).trans ?_;have hi:jv (qt [.vl] jj (qb (qc 0) qA)) [lm 'l',lm (.int r),lm (.dct (bk [])),lr,lr]=.ok ((LS l).map D.str,[lm 'l',lm (.int r),lm (.dct (bk [])),lr,lr]):=by generalize D.lst (ql l)=Z at a ⊢;simp[a,ju]
 refine(qy (ρ1:=[lm 'l',lm (.int r),lm (.dct (bk ws)),p,g]) (by rw[vL,hi,ky];exact j)).trans ?_;generalize D.lst (ql l)=Z;generalize D.dct (bk ws)=B at hs ⊢;simp[hs,wJ]
theorem qln(h:x∈jB m):vl (bk m) x=Qv m x:=by unfold vl;rw[(KL h).2]
theorem qlo{w:Str->Int}(h:∀x∈LS l,v x=w x)(hd:Ds r v l):Ds r w l:=by
 unfold Ds at hd ⊢;refine List.Pairwise.imp_of_mem (λ{p q} hp hq a=>?_) hd;have e:∀p∈l,nu v p=nu w p:=λp hp=>by unfold nu;rw[h p.1 (xl.mpr ⟨p,hp,.inl rfl⟩),h p.2 (xl.mpr ⟨p,hp,.inr rfl⟩)]
 rw[<-e p hp,<-e q hq];exact a
theorem qg7{ws:List (Str×Int)}(h:qj8 l r ws):Ds r (Qv ws) l:=by obtain⟨h1,h2,v,c,hd⟩:=h;refine qlo (λx hx=>?_) hd;rw[<-h1]at hx;rw[c x (by rw[XE];exact Ad hx),qln hx]
theorem qg8:(l.map λx=>(v x.1+v x.2) % r).Nodup↔Ds r v l:=by
 unfold Ds List.Nodup;rw[eh];have e:∀p q:Str×Str,(v p.1+v p.2) % r≠(v q.1+v q.2) % r↔¬r ∣ nu v p - nu v q:=λp q=>by unfold nu;rw[Ne,Int.emod_eq_emod_iff_emod_sub_eq_zero,Int.dvd_iff_emod_eq_zero]
 simp only[e]
theorem WJ{k:Nat}:∀ds:List D,(∀d∈ds,eqN k d d=lm lv)->wI (eqN k) ds ds=lm lv
 |[],_=>rfl
 |d::ds,h=>by have e:=h d (aj ..);have j:=WJ ds λd' hd=>h d' (ae _ hd);simp[wI,e,j]
theorem zW{k:Nat}(h:∀d∈ds,eqN k d d=lm lv):eqN (k+1) (.tup ds) (.tup ds)=lm true:=by have e:=WJ ds h;simp[eqN,e]
theorem XU(k:Nat)(x:Str):eqN k (.str x) (.str x)=lm true:=by cases k <;> simp[eqN,eqS]
theorem qb8(k:Nat)(x:Int):eqN k (.int x) (.int x)=lm true:=by cases k <;> simp[eqN,eqS]
theorem qb9(h:eqN 8 d d=lm lv):neD d d=.ok (.bl lw):=by simp[neD,h]
theorem KO(h:eqN 8 d d=lm lv):eqD d d=.ok (.bl lv):=by simp[eqD,h]
abbrev wdF(p q:Int)(ws:List Str)(r:Int)(hs:List Int):List (Str×D):=[("look",Ld p q),("came",Wd ws),("width",.int r),("held",.tup (hs.map D.int))]
noncomputable def wdD(ca:Str->Z7)(p q:Int)(ws:List Str)(r:Int)(hs:List Int):D:=.ins 'm' (wdF p q ws r hs)
variable{hs:List Int}
section
theorem s1:(aa "came" == aa "look")=lw/\(aa "width" == aa "look")=lw/\(aa "width" == aa "came")=lw/\(aa "held" == aa "look")=lw/\(aa "held" == aa "came")=lw/\(aa "held" == aa "width")=false:=by decide +kernel
theorem qeS:KZ 'm' "look" (wdD ca p q ws r hs)=.ok (Ld p q):=by simp[KZ,wdD,cW]
theorem qca:KZ 'm' "came" (wdD ca p q ws r hs)=.ok (Wd ws):=by obtain⟨o,m,z,y,a,D⟩:=s1;simp[KZ,wdD,cW,o]
theorem qg9:KZ 'm' "width" (wdD ca p q ws r hs)=.ok (.int r):=by obtain⟨o,m,z,y,a,D⟩:=s1;simp[KZ,wdD,cW,m,z]
theorem Yi{n:Str}(h:([aa "look",aa "came",aa "width",aa "held"].all λf=>!(n == f))=lv):UG 'm' n (lm (lm (wdD ca p q ws r hs)))=true:=by simp only[iQ,List.all_nil,k7,aO,d8]at h;obtain⟨h1,h2,g,a⟩:=h;simp[UG,wdD,cW,h1,h2,g,a]
theorem qha(hl:QO p q):kL ca [.ins 'm' [],Ld p q]=.ok (.non,[wdD ca p q [] 0 [],.non]):=by
 have h:=xj hl;have e1:¬aa "look"=aa "came":=by decide +kernel
 have i:¬aa "look"=aa "width":=by decide +kernel
 have D:¬aa "came"=aa "width":=by decide +kernel
 have a:¬aa "look"=aa "held":=by decide +kernel
 have A:¬aa "came"=aa "held":=by decide +kernel
 have e:¬aa "width"=aa "held":=by decide +kernel
 refine qo.trans ?_;simp[kK,qr,h,gE,gD,e1,i,D,a,A,e,wdD]
theorem qhb:ww ca [wdD ca p q ws r hs]=.ok (Wd ws,[wdD ca p q ws r hs]):=by have h:=qca (ca:=ca) (p:=p) (q:=q) (ws:=ws) (r:=r) (hs:=hs);refine qo.trans ?_;generalize wdD ca p q ws r hs=O at *;simp[wv,qr,h]
end
def nuL(r:Int)(l:List (Str×Str))(m:List (Str×Int)):List Int:=l.map λx=>(Qv m x.1+Qv m x.2) % r
variable{es:List (Str×Int)}
section
variable(hw:vQ ws)(hl:QO p q)
include hw hl
theorem qhc(B:qj8 (qQ ws p q) r es):OkW r es/\es.length<=12:=by
 obtain⟨k,h,_⟩:=B;refine⟨λx hx=>?_,?_⟩;·obtain⟨c,d,e⟩:=qje hw p q x.1 (by rw[<-k];exact aw.mpr ⟨x,hx,rfl⟩);exact⟨by rw[e];exact qbS d,h x hx⟩
 .have:(jB es).length=es.length:=by simp[jB]
  rw[<-this,k];exact qeG hw p q
theorem qd4(c:1<=r)(s:r<=99)(B:qj8 (qQ ws p q) r es):uF [Wd ws,Ld p q,.int r,.tup (prL es)]=.ok (.tup ((nuL r (qQ ws p q) es).map D.int),[.non,.non,.non,.non])/\(nuL r (qQ ws p q) es).Nodup:=by have hd:=qg8.mpr (qg7 B);obtain⟨o,l⟩:=qhc hw hl B;have k:=B.1;have:=Yd hw hl ⟨c,s⟩ o k (WD o (by rw[k,yt _ [] (qdU _) 'f'];exact yI (qN _) (jQ _) ((qjy _).imp λh=>h.1)) l);refine⟨?_,hd⟩;rw[this];unfold qj7 nuL;rw[bV];rfl
end
theorem qhd(h:1<=l.length):jc [.lst (ql l),.int 0,.dct []]=.ok (.bl lw,[.non,.non,.non]):=by
 have a:kO 'l'=.ok (.int l.length):=by simp[ql]
 have b:(0:Int)<l.length:=by lia
 refine qo.trans ?_;generalize D.lst (ql l)=Z at *;generalize (l.length:Int)=n at *;simp[vF,qr,a,b]
theorem qhe(h1:1<=l.length)(e:l.length<=6)(i:clo l=lr)(r0:0<=r)(r1:r<=97):∃R,yo [.lst (ql l),.int r]=.ok (.int R,[.non,.non])/\1<=R/\R<=97/\(l.length:Int)<=R/\OKs R [] l:=by
 have k:qcu []:=λkv c=>by cases c
 obtain⟨v,g⟩:=qmw (qb5 i) e;have h:(l.length:Int)<=97/\OKs 97 [] l:=⟨by lia,v,(λx hx=>by cases hx),g⟩
 have hd:∀r,1<=r->r<=99->∃b,jc [.lst (ql l),.int r,.dct []]=.ok (.bl b,[.non,.non,.non])/\(b=lv↔(l.length:Int)<=r/\OKs r [] l):=λr a b=>JG e a b k 'f';have j:=qhd h1;have n:∃R,1<=R/\R<=97/\((l.length:Int)<=R/\OKs R [] l)/\jb rfT rfB 100 [lm 'l',lm (.int r),lm (.int r)]=.ok (.nx,[lm 'l',lm (.int r),lm (.int R)]):=by
  generalize D.lst (ql l)=Z at *;by_cases z:r=0
  .subst z;obtain⟨R,p,m,d,y⟩:=KN (Z:=Z) hd h 'b' (a:=lm (.int 0)) 99 1 'b' 'b' 'b';refine⟨R,by lia,d,m,?_⟩;have s1:jb rfT rfB (99+1) [lm Z,lm (.int 0),lm (.int 0)]=jb rfT rfB 99 [lm Z,lm (.int 0),lm (.int 1)]:=by simp[jb,j]
   exact s1.trans y
  .obtain⟨R,p,m,d,y⟩:=KN (Z:=Z) hd h 'b' (a:=lm (.int r)) 100 r 'b' 'b' 'b';exact⟨R,by lia,d,m,y⟩
 obtain⟨R,o,w,f,B⟩:=n;refine⟨R,?_,o,w,f.1,f.2⟩;refine qo.trans ?_;unfold Qd;generalize D.lst (ql l)=Z at *;rw[show qr Qc [Z,.int r]=[lm Z,lm (.int r),lr]from rfl];refine(qy (ρ1:=[lm Z,lm (.int r),lm (.int r)]) 'f').trans ?_;refine(qy B).trans ?_;simp
section
theorem KQ(h:KI w):vG [.str w]=.ok (.non,[.non]):=by have h1:=JD h;refine qo.trans ?_;simp[ul,qr,h1]
theorem WK(h:KI w):jo ca [wdD ca p q ws r hs,.str w]=if w∈ws then .exc "Known" [lm (wdD ca p q ws r hs),lm .non]else if ws.length=6 then .exc "Full" [lm (wdD ca p q ws r hs),lm .non]else .ok (.non,[wdD ca p q ws r hs,.non]):=by
 have h1:=KQ h;have h2:=qca (ca:=ca) (p:=p) (q:=q) (ws:=ws) (r:=r) (hs:=hs);have g:inA (.str w) (Wd ws)=.ok (.bl (decide (w∈ws))):=by simp[inA,qil,inD,vp]
 have d:kO (Wd ws)=.ok (.int ws.length):=by simp[Wd]
 have z:1<=Z8:=qJ 'b';refine qo.trans ?_;generalize wdD ca p q ws r hs=O at *;generalize Wd ws=W at *;by_cases a:w∈ws;·rw[Aa a];rw[Ad a]at g;simp[je,qr,h1,h2,g,qU,z]
 .rw[Ab a];rw[Ac a]at g;by_cases b:ws.length=6
  .rw[Aa b];have c:(ws.length:Int)=6:=by lia
   simp[je,qr,h1,h2,g,d,eqD,eqN,eqS,c,qU,z]
  .rw[Ab b];have c:¬(ws.length:Int)=6:=by lia
   simp[je,qr,h1,h2,g,d,eqD,eqN,eqS,c]
end
theorem qhf:clo l=lr↔NA l:=by
 refine⟨qb5,λh=>List.findSome?_eq_none_iff.mpr λj D=>?_⟩;unfold clF;rw[Option.map_eq_none_iff,c8];intro i hi;have D:=aN.mp D;have hi:=aN.mp hi;have:=cA.mp h i j 'b' D hi;have hl:i<l.length:=by lia
 have e1:pa l i=l[i]:=by simp[pa,hl]
 have e:pa l j=l[j]:=by simp[pa,D]
 unfold clP;rw[e1,e,this];exact bE
def GL(p q:Int)(ws:List Str):Prop:=(∀w∈ws,KI w)/\ws.length<=6/\NA (qQ ws p q)
def Gd(p q:Int)(ws:List Str)(r:Int):Prop:=(ws=[]/\r=0)\/(vQ ws/\1<=r/\r<=97/\NA (qQ ws p q))
section
theorem GL.ahead{vs:List Str}(h:GL p q (ws++vs)):GL p q ws:=by refine⟨λw hw=>h.1 w (bu _ hw),by have:=h.2.1;rw[am]at this;lia,?_⟩;have:=h.2.2;unfold NA qQ at this ⊢;rw[cS]at this;exact(ic.mp this).1
theorem GL.new(h:GL p q (ws++[w])):w∉ws:=λhw=>by have:=h.2.2;unfold NA qQ at this;rw[cS]at this;have:=(ic.mp this).2.2 _ (aw.mpr ⟨w,hw,rfl⟩) _ (aw.mpr ⟨w,ay.mpr rfl,rfl⟩);simp[al]at this
theorem Gd.nx(h:Gd p q ws r)(hw:KI w)(n:w∉ws)(c:ws.length≠6):vQ (ws++[w])/\0<=r/\r<=97:=by
 rcases h with⟨rfl,rfl⟩|⟨⟨o,m,b,a⟩,i,d,v⟩
 .exact⟨⟨by simp,by simp,by simp,λx hx=>by
   rcases aI.mp hx with z|z;·cases z
   .rw[ay.mp z];exact hw⟩,by lia,by lia⟩
 .refine⟨⟨by rw[am];simp,by rw[am];simp;lia,d9.mpr ⟨b,by simp,λx hx y B=>by rw[ay.mp B];rintro rfl;exact n hx⟩,λx hx=>?_⟩,by lia,by lia⟩;rcases aI.mp hx with z|z;·exact a x z
  .rw[ay.mp z];exact hw
theorem pf{b c x:D}:gD "held" x [(aa "look",a),(aa "came",b),(aa "width",c),(aa "held",d)]=[(aa "look",a),(aa "came",b),(aa "width",c),(aa "held",x)]/\gD "came" x [(aa "look",a),(aa "came",b),(aa "width",c),(aa "held",d)]=[(aa "look",a),(aa "came",x),(aa "width",c),(aa "held",d)]/\gD "width" x [(aa "look",a),(aa "came",b),(aa "width",c),(aa "held",d)]=[(aa "look",a),(aa "came",b),(aa "width",x),(aa "held",d)]:=by
 have e1:¬aa "look"=aa "came":=by decide +kernel
 have i:¬aa "look"=aa "width":=by decide +kernel
 have f:¬aa "came"=aa "width":=by decide +kernel
 have p:¬aa "look"=aa "held":=by decide +kernel
 have A:¬aa "came"=aa "held":=by decide +kernel
 have e:¬aa "width"=aa "held":=by decide +kernel
 simp[gD,e1,i,f,p,A,e]
theorem qhg{f:Str}{b c x g e S d':D}{fe:qW}(h:fe ρ=.ok (x,ρ1))(i:ρ1[0]?=lm (lm (.ins 'm' [(aa "look",a),(aa "came",b),(aa "width",c),(aa "held",d)])))(hp:gD f x [(aa "look",a),(aa "came",b),(aa "width",c),(aa "held",d)]=[(aa "look",g),(aa "came",e),(aa "width",S),(aa "held",d')]) :
  gE 'm' 0 f fe ρ=.ok (.nx,ρ1.set 0 (lm (.ins 'm' [(aa "look",g),(aa "came",e),(aa "width",S),(aa "held",d')]))):=by
 unfold gE;rw[h,ky];simp only[i];rw[Aa 'f',hp]
def XC(c:Str):Prop:=c = "NoWord"\/c = "Known"\/c = "Full"\/c = "Never"
theorem qhh(hl:QO p q)(hg:Gd p q ws r)(w:Str):(∃R m,Gd p q (ws++[w]) R/\kB ca [wdD ca p q ws r hs,.str w]=.ok (.int R,[wdD ca p q (ws++[w]) R m,.non]))
  \/ ∃c,XC c/\¬GL p q (ws++[w])/\kB ca [wdD ca p q ws r hs,.str w]=.exc c [lm (wdD ca p q ws r hs),lm .non]:=by
 have g:UG 'm' "check_new" (lm (lm (wdD ca p q ws r hs)))=true:=Yi 'a';by_cases hw:KI w
 case neg=>
  have h:vi [.str w]=.ok (.bl lw,[.non]):=by
   rw[Qm];cases e:wdB w with
   |false=>rfl
   |true=>exact absurd (KJ.mp e) hw
  have k:1<=Z8:=qJ 'b';have h1:vG [.str w]=.exc "NoWord" [lm .non]:=by refine qo.trans ?_;simp[ul,qr,h,qU,k]
  have h2:jo ca [wdD ca p q ws r hs,.str w]=.exc "NoWord" [lm (wdD ca p q ws r hs),lm .non]:=by refine qo.trans ?_;generalize wdD ca p q ws r hs=O at *;simp[je,qr,h1]
  refine .inr ⟨"NoWord",.inl rfl,λz=>hw (z.1 w (aH _ (ay.mpr rfl))),?_⟩;refine qo.trans ?_;generalize wdD ca p q ws r hs=O at *;simp[jE,qr,kP,g,h2]
 have n:=WK (ca:=ca) (p:=p) (q:=q) (ws:=ws) (r:=r) (hs:=hs) hw;by_cases a:w∈ws;·rw[Aa a]at n;refine .inr ⟨"Known",.inr (.inl rfl),λz=>z.new a,?_⟩;refine qo.trans ?_;generalize wdD ca p q ws r hs=O at *;simp[jE,qr,kP,g,n]
 rw[Ab a]at n;by_cases b:ws.length=6;·rw[Aa b]at n;refine .inr ⟨"Full",.inr (.inr (.inl rfl)),λz=>by have:=z.2.1;rw[am,b]at this;simp at this,?_⟩;refine qo.trans ?_;generalize wdD ca p q ws r hs=O at *;simp[jE,qr,kP,g,n]
 rw[Ab b]at n;obtain⟨i,r0,r1⟩:=hg.nx hw a b;have fc:=qca (ca:=ca) (p:=p) (q:=q) (ws:=ws) (r:=r) (hs:=hs);have fl:=qeS (ca:=ca) (p:=p) (q:=q) (ws:=ws) (r:=r) (hs:=hs);have fw:=qg9 (ca:=ca) (p:=p) (q:=q) (ws:=ws) (r:=r) (hs:=hs);have E:=XG (ws++[w]) p q;have h1:=i.1;have v:=i.2.1;have hp:=XD i hl;have d:=Ye (l:=qQ (ws++[w]) p q) 'b';have k:1<=Z8:=qJ 'b';have A:ws.length+1<=Z8:=qJ (by rw[am]at v;simp at v;lia);have j:ko (Wd ws) (.tup [.str w])=.ok (Wd (ws++[w])):=by simp[A]
 have B:∀fb:qM,Jf [.io,.val] (qH (kG (kP 'm' 0 "check_new" [.vl] (jo ca) (qb (qc 1) qA)))
  (qH (jz 2 (d2 ko (d1 (KZ 'm' "came") (qc 0)) (zD (qb (qc 1) qA))))
  (qH (jz 3 (qt [.vl,.vl] gO (qb (qc 2) (qb (d1 (KZ 'm' "look") (qc 0)) qA)))) fb)) [lm (wdD ca p q ws r hs),lm (.str w),lr,lr,lr])=Jf [.io,.val] (fb [lm (wdD ca p q ws r hs),lm (.str w),lm (Wd (ws++[w])),lm (.lst (ql (qQ (ws++[w]) p q))),lr]):=λfb=>by
  clear d;generalize wdD ca p q ws r hs=O at *;generalize D.lst (ql (qQ (ws++[w]) p q))=Z at *;refine(qy (ρ1:=[lm O,lm (.str w),lr,lr,lr]) (by simp[kP,g,n])).trans ?_;generalize Wd ws=W at *;generalize Wd (ws++[w])=W' at *;refine(qy (ρ1:=[lm O,lm (.str w),lm W',lr,lr]) (by simp[fc,j,k])).trans ?_;refine(qy (ρ1:=[lm O,lm (.str w),lm W',lm Z,lr]) (by simp[fl,hp])).trans ?_;rfl
 cases f:clo (qQ (ws++[w]) p q)with
 |some c=>
  refine .inr ⟨"Never",.inr (.inr (.inr rfl)),λz=>(by rw[qhf.mpr z.2.2]at f;cases f),?_⟩;refine qo.trans ?_;unfold jE;rw[show qr vI [wdD ca p q ws r hs,.str w]=[lm (wdD ca p q ws r hs),lm (.str w),lr,lr,lr]from rfl];refine(B _).trans ?_;rw[f]at d;have y:qaa (clD (lm c)) .non=.ok (.bl lv):=by simp[clD]
  generalize clD (lm c)=C at *;generalize wdD ca p q ws r hs=O at *;generalize D.lst (ql (qQ (ws++[w]) p q))=Z at *;generalize Wd (ws++[w])=W' at *;simp[d,y,qU,k]
 |none=>obtain⟨R,G,t,s,o,hok⟩:=qhe (l:=qQ (ws++[w]) p q) 'b' 'b' f r0 r1;obtain⟨es,H,Q⟩:=Qq (l:=qQ (ws++[w]) p q) 'b' (qje i p q) t 'b' o hok;obtain⟨u,_⟩:=qd4 i hl t 'b' H;refine .inl ⟨R,nuL R (qQ (ws++[w]) p q) es,.inr ⟨i,t,s,qb5 f⟩,?_⟩;refine qo.trans ?_;unfold jE;rw[show qr vI [wdD ca p q ws r hs,.str w]=[lm (wdD ca p q ws r hs),lm (.str w),lr,lr,lr]from rfl];refine(B _).trans ?_;rw[f]at d;have d:uG [.lst (ql (qQ (ws++[w]) p q))]=.ok (.non,[.non]):=d;generalize nuL R (qQ (ws++[w]) p q) es=nu at *;generalize D.lst (ql (qQ (ws++[w]) p q))=Z at *;generalize D.tup (prL es)=Pe at *;refine(qy (ρ1:=[lm (wdD ca p q ws r hs),lm (.str w),lm (Wd (ws++[w])),lm Z,lr]) (by generalize wdD ca p q ws r hs=O at *;generalize Wd (ws++[w])=W' at *;simp[d])).trans ?_;refine(qy (ρ1:=[lm (wdD ca p q ws r hs),lm (.str w),lm (Wd (ws++[w])),lm Z,lm (.int R)]) (by generalize wdD ca p q ws r hs=O at *;generalize Wd (ws++[w])=W' at *;simp[fw,G])).trans ?_;refine(qy (ρ1:=[lm (wdD ca p q ws r nu),lm (.str w),lm (Wd (ws++[w])),lm Z,lm (.int R)]) (qhg (x:=.tup (nu.map D.int)) (ρ1:=[lm (wdD ca p q ws r hs),lm (.str w),lm (Wd (ws++[w])),lm Z,lm (.int R)]) (by generalize wdD ca p q ws r hs=O at *;generalize Wd (ws++[w])=W' at *;generalize D.tup (nu.map D.int)=U at *;simp[fl,Q,u]) rfl pf.1)).trans ?_;refine(qy (ρ1:=[lm (wdD ca p q (ws++[w]) r nu),lm (.str w),lm (Wd (ws++[w])),lm Z,lm (.int R)]) (qhg (x:=Wd (ws++[w])) (ρ1:=[lm (wdD ca p q ws r nu),lm (.str w),lm (Wd (ws++[w])),lm Z,lm (.int R)]) rfl rfl pf.2.1)).trans ?_;refine(qy (ρ1:=[lm (wdD ca p q (ws++[w]) R nu),lm (.str w),lm (Wd (ws++[w])),lm Z,lm (.int R)]) (qhg (x:=.int R) (ρ1:=[lm (wdD ca p q (ws++[w]) r nu),lm (.str w),lm (Wd (ws++[w])),lm Z,lm (.int R)]) rfl rfl pf.2.2)).trans ?_;generalize wdD ca p q (ws++[w]) R nu=O at *;generalize Wd (ws++[w])=W' at *;simp
end
end Kx
namespace PySem
open Builtin Builtin.Str StrLaws
noncomputable def jT(c:Nat):Nat->List Nat->List Nat
 |_,[]=>[]
 |a,d::r=>if d=c then a::jT c (a+1) r else jT c (a+1) r
theorem KR(x:Str)(c i:Nat):subAt x ⟨#[c]⟩ i=decide ((x.cps.toList.drop i).head?=lm c):=by
 rw[subAt_eq];show((x.cps.toList.drop i).take 1 == [c])=_;cases x.cps.toList.drop i with
 |nil=>rfl
 |cons d r=>by_cases h:d=c <;> simp[h]
theorem KS(x:Str)(c:Nat):∀(m i:Nat)(st:Array Nat×Nat),i+m=x.length+1->st.1.size<=i->st.2<=i ->(forIn (List.range' i m) st (occBody x ⟨#[c]⟩ x.length (x.length+1))).run.fst.toList=st.1.toList++jT c i (x.cps.toList.drop i)
 | 0,i,st,h,_,_=>by
  have a:x.cps.toList.length=x.length:=by simp[cD]
  have:x.cps.toList.drop i=[]:=bW 'b';rw[this];simp[jT]
 | m+1,i,st,h,h1,h2=>by
  rw[List.range'_succ,i3];have hl:x.cps.toList.length=x.length:=by simp[cD]
  by_cases hi:i<x.length
  .have hd:x.cps.toList.drop i=x.cps.toList[i]'(by lia)::x.cps.toList.drop (i+1):=df 'b';by_cases d:x.cps.toList[i]'(by lia)=c
   .have hb:occBody x ⟨#[c]⟩ x.length (x.length+1) i st=pure (bx (st.1.push i,i+1)):=by unfold occBody;rw[Aa ⟨⟨⟨by lia,h2⟩,by show i+1<=x.length;lia⟩,by rw[KR,hd,d];simp⟩];rfl
    rw[hb];have j:=KS x c m (i+1) (st.1.push i,i+1) 'b' (by rw[Array.size_push];lia) (ao _);rw[hd,d,jT,Aa rfl];refine Eq.trans j ?_;simp
   .have hb:occBody x ⟨#[c]⟩ x.length (x.length+1) i st=pure (bx (st.1,st.2)):=by unfold occBody;rw[Ab λz=>d (by have:=z.2;rw[KR,hd]at this;simpa using this)]
    rw[hb];have j:=KS x c m (i+1) st 'b' 'b' 'b';rw[hd,jT,Ab d];exact j
  .have hd:x.cps.toList.drop i=[]:=bW 'b';have hd2:x.cps.toList.drop (i+1)=[]:=bW 'b';have hb:occBody x ⟨#[c]⟩ x.length (x.length+1) i st=pure (bx (st.1,st.2)):=by unfold occBody;rw[Ab λz=>by have:i+1<=x.length:=z.1.2;lia]
   rw[hb];have j:=KS x c m (i+1) st 'b' 'b' 'b';rw[hd2]at j;rw[hd];exact j
theorem qjz(x:Str)(c:Nat):occurrences x ⟨#[c]⟩ 0 x.length (x.length+1)=jT c 0 x.cps.toList:=by rw[occ_eq];have:=KS x c (x.length+1) 0 (#[],0) 'b' 'f' (ao _);simpa using this
variable{c:Nat}
theorem wF:∀(l:List Nat)(a:Nat),c∉l->jT c a l=[]
 |[],a,_=>rfl
 |d::r,a,h=>by rw[jT,Ab λz=>h (by rw[z];exact aj ..)];exact wF r (a+1) λz=>h (ae _ z)
theorem uJ:∀(l r:List Nat)(a:Nat),c∉l->jT c a (l++c::r)=(a+l.length)::jT c (a+l.length+1) r
 |[],r,a,_=>by simp[jT]
 | d::l,r,a,h=>by
  rw[iV,jT,Ab λz=>h (by rw[z];exact aj ..),uJ l r (a+1) λz=>h (ae _ z)];simp only[ah];congr 1
  .lia
  .congr 1
   lia
theorem Qr(c:Nat)(p:Str)(q:Str)(r:List Str):(eG ⟨#[c]⟩ (p::q::r)).cps.toList=p.cps.toList++c::(eG ⟨#[c]⟩ (q::r)).cps.toList:=by show(p++⟨#[c]⟩++eG ⟨#[c]⟩ (q::r)).cps.toList=_;rw[bR,bR];simp
theorem XV{x:Str}{c:Nat}:∀(ps:List Str)(a:Nat),ps≠[]->(∀p∈ps,c∉p.cps.toList)->a<=x.length->x.cps.toList.drop a=(eG ⟨#[c]⟩ ps).cps.toList->partsFrom x 1 a (jT c a (x.cps.toList.drop a))=ps
 |[],_,h,_,_,_=>absurd rfl h
 |[p],a,_,hn,ha,e=>by
  have b:x.cps.toList.drop a=p.cps.toList:=e;rw[b,wF _ _ (hn p (aj ..))];show[strSub x a x.length]=[p];congr 1;apply j3;apply cY.mp;have hl:x.cps.toList.length=x.length:=by simp[cD]
  rw[strSub_toList,b,bC];rw[<-b,cm]
  lia
 |p::q::r,a,_,hn,ha,e=>by
  have hl:x.cps.toList.length=x.length:=by simp[cD]
  rw[Qr]at e;have hp:=hn p (aj ..);have n:(x.cps.toList.drop a).length=x.length - a:=by rw[cm,hl]
  rw[e,am,ah]at n;have i:x.cps.toList.drop (a+p.cps.toList.length+1)=(eG ⟨#[c]⟩ (q::r)).cps.toList:=by rw[Nat.add_assoc,<-fS,e,<-fS,List.drop_left];rfl
  have j:=XV (x:=x) (q::r) (a+p.cps.toList.length+1) 'f' (λz d=>hn z (ae _ d)) 'b' i;rw[e,uJ _ _ _ hp,<-i];show strSub x a (a+p.cps.toList.length)::partsFrom x 1 (a+p.cps.toList.length+1) _=_;rw[j];congr 1;apply j3;apply cY.mp;rw[strSub_toList,e,Nat.add_sub_cancel_left,List.take_left]
theorem Gc(d:c<256){ps:List Str}(h:ps≠[])(n:∀p∈ps,c∉p.cps.toList):dJ (fA ⟨#[c]⟩ ps) ⟨#[c]⟩=ps:=by
 have j:fA ⟨#[c]⟩ ps=eG ⟨#[c]⟩ ps:=glued_eq_join _ _;rw[j];generalize hx:eG ⟨#[c]⟩ ps=x;have hp:=XV (x:=x) ps 0 h n (be _) (by rw[hx];rfl);rw[j5]at hp;have k:bt (⟨#[c]⟩:Str)=1:=by unfold bt;rw[Aa (by simpa using d)]
 have a:∀y:Str,1<=bt y:=by
  intro y;unfold bt;split
  .lia
  .split <;> lia
 unfold dJ;by_cases b:x.length<1
 .have G:(decide (x.length<(⟨#[c]⟩:Str).length)||decide (bt x<bt (⟨#[c]⟩:Str)))=true:=by have:decide (x.length<(⟨#[c]⟩:Str).length)=true:=Ad b;rw[this];rfl
  rw[Aa G];have t:x.cps.toList.length=x.length:=by simp[cD]
  have e:x.cps.toList=[]:=List.eq_nil_of_length_eq_zero 'b';rw[e]at hp;rw[<-hp];show[x]=[strSub x 0 x.length];rw[sub_whole]
 .have G:(decide (x.length<(⟨#[c]⟩:Str).length)||decide (bt x<bt (⟨#[c]⟩:Str)))=false:=by have h1:decide (x.length<(⟨#[c]⟩:Str).length)=false:=Ac b;have h2:decide (bt x<bt (⟨#[c]⟩:Str))=false:=Ac (by rw[k];have:=a x;lia);rw[h1,h2];rfl
  rw[Ab (by rw[G];exact bE),qjz];cases hb:jT c 0 x.cps.toList with
  |nil=>rw[Aa (show([]:List Nat).isEmpty=lv from rfl)];rw[hb]at hp;rw[<-hp];show[x]=[strSub x 0 x.length];rw[sub_whole]
  |cons i r=>rw[Ab 'f',partsBetween_eq,<-hb];exact hp
theorem xm(x:Str)(c:Nat):∀(m i:Nat)(st:Array Nat×Nat),i+m=x.length+1->st.2<=i ->(forIn (List.range' i m) st (occBody x ⟨#[c]⟩ x.length 1)).run.fst.toList=st.1.toList++(jT c i (x.cps.toList.drop i)).take (1 - st.1.size)
 | 0,i,st,h,_=>by
  have a:x.cps.toList.length=x.length:=by simp[cD]
  have:x.cps.toList.drop i=[]:=bW 'b';rw[this];simp[jT]
 | m+1,i,st,h,h2=>by
  rw[List.range'_succ,i3];have hl:x.cps.toList.length=x.length:=by simp[cD]
  by_cases hi:i<x.length
  .have hd:x.cps.toList.drop i=x.cps.toList[i]'(by lia)::x.cps.toList.drop (i+1):=df 'b';by_cases d:x.cps.toList[i]'(by lia)=c/\st.1.size=0
   .have hb:occBody x ⟨#[c]⟩ x.length 1 i st=pure (bx (st.1.push i,i+1)):=by unfold occBody;rw[Aa ⟨⟨⟨by lia,h2⟩,by show i+1<=x.length;lia⟩,by rw[KR,hd,d.1];simp⟩];rfl
    rw[hb];have j:=xm x c m (i+1) (st.1.push i,i+1) 'b' (ao _);rw[hd,d.1,jT,Aa rfl];refine Eq.trans j ?_;simp[d.2]
   .have hb:occBody x ⟨#[c]⟩ x.length 1 i st=pure (bx (st.1,st.2)):=by unfold occBody;rw[Ab λz=>d ⟨by have:=z.2;rw[KR,hd]at this;simpa using this,by have:=z.1.1.1;lia⟩]
    rw[hb];have j:=xm x c m (i+1) st 'b' 'b';refine Eq.trans j ?_;congr 1;by_cases hs:st.1.size=0;·rw[hd,jT,Ab λz=>d ⟨z,hs⟩]
    .have:1 - st.1.size=0:=by lia
     rw[this,j6,j6]
  .have hd:x.cps.toList.drop i=[]:=bW 'b';have hd2:x.cps.toList.drop (i+1)=[]:=bW 'b';have hb:occBody x ⟨#[c]⟩ x.length 1 i st=pure (bx (st.1,st.2)):=by unfold occBody;rw[Ab λz=>by have:i+1<=x.length:=z.1.2;lia]
   rw[hb];have j:=xm x c m (i+1) st 'b' 'b';rw[hd2]at j;rw[hd];exact j
theorem qcb{a b:Str}{c:Nat}(h:c∉a.cps.toList):aQ (a++⟨#[c]⟩++b) ⟨#[c]⟩=(a,⟨#[c]⟩,b):=by
 have hx:(a++⟨#[c]⟩++b).cps.toList=a.cps.toList++c::b.cps.toList:=by rw[bR,bR];simp
 generalize a++(⟨#[c]⟩:Str)++b=x at hx;have l:occurrences x ⟨#[c]⟩ 0 x.length 1=[a.cps.toList.length]:=by rw[occ_eq];have:=xm x c (x.length+1) 0 (#[],0) 'b' (ao _);rw[j5,hx,uJ _ _ _ h]at this;simpa using this
 have hl:x.length=a.cps.toList.length+(b.cps.toList.length+1):=by show x.cps.size=_;rw[<-aM,hx];simp
 unfold aQ;rw[l];refine dG ?_ (dG rfl ?_);·apply j3;apply cY.mp;rw[strSub_toList,hx];simp
 .apply j3;apply cY.mp;show(strSub x (a.cps.toList.length+1) x.length).cps.toList=_;rw[strSub_toList,hx,hl,<-fS,List.drop_left];show List.take _ b.cps.toList=_;exact bC 'b'
theorem qcc(x:Str)(c:Nat):occurrences x ⟨#[c]⟩ 0 x.length 1=(jT c 0 x.cps.toList).take 1:=by rw[occ_eq];have:=xm x c (x.length+1) 0 (#[],0) 'b' (ao _);simpa using this
theorem qhi{x:Str}{c:Nat}(h:c∉x.cps.toList):aQ x ⟨#[c]⟩=(x,ba,ba):=by unfold aQ;rw[qcc,wF _ _ h];rfl
end PySem
namespace Kx
open PySem PySem.Spec L2 L2.D2
theorem qcd:aa " "=⟨#[32]⟩:=by decide +kernel
theorem qd5:aa ":"=⟨#[58]⟩:=by decide +kernel
abbrev lkT(p q:Int):Str:=txI p++aa " "++txI q
variable{n:Int}
theorem zo(a:-3<=n)(h1:n<=2):CTx n/\(txI n).length<=2/\(58:Nat)∉(txI n).cps.toList/\(32:Nat)∉(txI n).cps.toList/\iA (txI n)=lm n:=by
 have hp:n=-3\/n=-2\/n=-1\/n=0\/n=1\/n=2:=by lia
 clear a h1;rcases hp with rfl|rfl|rfl|rfl|rfl|rfl <;> decide +kernel
theorem qhj:aa ""=ba:=by decide +kernel
noncomputable def Qs(ws:List Str):List Nat:=ws.flatMap λw=>32::w.cps.toList
noncomputable def jw(t:Str)(ws:List Str):Str:=ws.foldl (λt w=>t++aa " "++w) t
theorem kM:∀(ws:List Str)(t:Str),(jw t ws).cps.toList=t.cps.toList++Qs ws
 |[],t=>by simp[jw,Qs]
 |w::ws,t=>by show(jw (t++aa " "++w) ws).cps.toList=_;rw[kM ws,qcd,bR,bR];simp[Qs]
theorem qce:∀(ws:List Str)(t:Str),(eG ⟨#[32]⟩ (t::ws)).cps.toList=t.cps.toList++Qs ws
 |[],t=>by simp[eG,Qs]
 |w::ws,t=>by rw[Qr,qce ws w];simp[Qs]
variable{x:Str}
theorem Qt{y:Str}(h:x.cps.toList=y.cps.toList):x=y:=j3 (cY.mp h)
theorem XW(t:Str)(ws:List Str):fA ⟨#[32]⟩ (t::ws)=jw t ws:=Qt (by rw[show fA ⟨#[32]⟩ (t::ws)=eG ⟨#[32]⟩ (t::ws)from StrLaws.glued_eq_join _ _,qce,kM])
abbrev TX(p q:Int)(ws:List Str):Str:=jw (lkT p q++aa ":") ws
theorem qhk(p q:Int)(ws:List Str):TX p q ws=lkT p q++⟨#[58]⟩++jw ba ws:=Qt (by rw[kM,qd5,bR (_++_) (jw _ _),ip,kM];simp[ba])
theorem qjA(p q:Int)(ws:List Str):TX p q ws=jw (txI p) ((txI q++aa ":")::ws):=Qt (by rw[kM,kM];unfold lkT;rw[qcd];simp[Qs,bR])
theorem xn(x:Str):x.length=x.cps.toList.length:=by simp[cD]
theorem qhl:∀ws:List Str,ws.length<=(Qs ws).length/\∀w∈ws,w.length<=(Qs ws).length
 |[]=>⟨by simp,λw hw=>by cases hw⟩
 | v::ws=>by
  obtain⟨a,b⟩:=qhl ws;have e:(Qs (v::ws)).length=v.length+1+(Qs ws).length:=by simp[Qs,xn];lia
  refine⟨by rw[e,ah];lia,λw hw=>?_⟩;rcases af.mp hw with rfl|hw
  .lia
  .have:=b w hw
   lia
abbrev NB(ws:List Str):Prop:=∀w∈ws,(32:Nat)∉w.cps.toList
theorem qcf:∀l:List Nat,∃(t:Str)(ws:List Str),l=t.cps.toList++Qs ws/\NB (t::ws)/\ws.length=l.count 32
 |[]=>⟨ba,[],rfl,λw hw=>(by rw[ay.mp hw];simp[ba]),rfl⟩
 | c::l=>by
  obtain⟨t,ws,e,h1,g⟩:=qcf l;by_cases z:c=32
  .subst z;refine⟨ba,t::ws,by rw[e];simp[ba,Qs],λw hw=>?_,by rw[List.count_cons_self,ah,g]⟩;rcases af.mp hw with rfl|hw;·simp[ba]
   .exact h1 w hw
  .refine⟨⟨(c::t.cps.toList).toArray⟩,ws,by rw[e];simp,λw hw=>?_,by rw[List.count_cons_of_ne z];exact g⟩;rcases af.mp hw with rfl|hw
   .have:=h1 t (aj ..);simp[bj z,this]
   .exact h1 w (ae _ hw)
theorem Yj(x:Str):∃t ws,x=jw t ws/\NB (t::ws)/\ws.length=x.cps.toList.count 32:=by obtain⟨t,ws,e,h⟩:=qcf x.cps.toList;exact⟨t,ws,Qt (by rw[kM];exact e),h⟩
variable{t:Str}{ws:List Str}
theorem qjB:∀w∈t::ws,w.length<=(jw t ws).length:=λw hw=>by
 rw[xn (jw _ _),kM,am];rcases af.mp hw with rfl|hw;·rw[xn];lia
 .have:=(qhl ws).2 w hw
  lia
theorem qhm(h:NB (t::ws))(a:(jw t ws).length<=1000):VP (.str (jw t ws)) (.str (aa " "))=.ok (sE (t::ws)):=by
 have p:dJ (jw t ws) (aa " ")=t::ws:=by rw[qcd,<-XW];exact Gc 'e' 'f' h
 have d:qiT (jw t ws) (aa " "):=by
  refine⟨by decide +kernel,?_,?_⟩;·rw[p];have:=(qhl ws).1;rw[xn,kM,am]at a;exact qJ (by rw[ah];lia)
  .rw[p];exact λz b=>qJ (by have:=qjB z b;lia)
 refine(Aa d).trans ?_;rw[p]
abbrev nmB:qM:=(sIf (qK (d2 eqD (d1 qep (qc 3)) (qc 0))) (jl (qc 3)) jd)
theorem qcg{t:Str}{a b:Option D}:∀(ns:List Int)(x:Option D),(∀n∈ns,-3<=n/\n<=2) ->(∃n∈ns,t=txI n/\jU (gNm 3) nmB (ns.map D.int) [lm (.str t),a,b,x]=.ok (.rt (.int n),[lm (.str t),a,b,lm (.int n)]))\/∃d,jU (gNm 3) nmB (ns.map D.int) [lm (.str t),a,b,x]=.ok (.nx,[lm (.str t),a,b,d])
 |[],x,_=>.inr ⟨x,rfl⟩
 | n::ns,x,h=>by
  obtain⟨f,h1⟩:=h n (aj ..);have hs:qep (.int n)=.ok (.str (txI n)):=Aa (zo f h1).1;by_cases e:txI n=t
  .refine .inl ⟨n,aj ..,e.symm,?_⟩;have he:eqD (.str (txI n)) (.str t)=.ok (.bl lv):=by simp[eqD,eqN,eqS,e]
   clear e;generalize txI n=T at *;simp[jU,hs,he]
  .have he:eqD (.str (txI n)) (.str t)=.ok (.bl lw):=by simp[eqD,eqN,eqS,e]
   have st:nmB [lm (.str t),a,b,lm (.int n)]=.ok (.nx,[lm (.str t),a,b,lm (.int n)]):=by generalize txI n=T at *;simp[hs,he]
   have j:=qcg (t:=t) (a:=a) (b:=b) ns (lm (.int n)) λm c=>h m (ae _ c);rw[aF,fnx (ρ1:=[lm (.str t),a,b,lm (.int n)]) rfl st];rcases j with⟨m,c,e1,e2⟩|j;·exact .inl ⟨m,ae _ c,e1,e2⟩
   .exact .inr j
theorem qch(t:Str):(∃n,(-3<=n/\n<=2)/\t=txI n/\jF [.str t,.int (-3),.int 2]=.ok (.int n,[.non,.non,.non]))\/jF [.str t,.int (-3),.int 2]=.exc "NoText" [lm .non,lm .non,lm .non]:=by
 have h:∀n∈[(-3:Int),-2,-1,0,1,2],-3<=n/\n<=2:=by decide
 have hit:UC (qc 1) (d2 ko (qc 2) 'i') [lm (.str t),lm (.int (-3)),lm (.int 2),lr]=.ok ([(-3:Int),-2,-1,0,1,2].map D.int,[lm (.str t),lm (.int (-3)),lm (.int 2),lr]):=by kernel_rfl
 have z:1<=Z8:=qJ 'b';have e0:jF [.str t,.int (-3),.int 2]=Jf [.val,.val,.val] (yp [lm (.str t),lm (.int (-3)),lm (.int 2),lr]):=qo;rw[e0];unfold yp;rcases qcg (t:=t) (a:=lm (.int (-3))) (b:=lm (.int 2)) [-3,-2,-1,0,1,2] lr h with⟨n,c,e1,i⟩|⟨m,i⟩
 .refine .inl ⟨n,h n c,e1,?_⟩;rw[ua,vL,hit,ky,i];simp
 .refine .inr ?_;rw[ua,vL,hit,ky,i];simp[qU,z]
theorem qd6(x:Str)(z:x.length<=1000):(∃p q,QO p q/\x=lkT p q/\vn [.str x]=.ok (Ld p q,[.non]))\/vn [.str x]=.exc "NoText" [lm .non]:=by
 obtain⟨t,ws,rfl,h,_⟩:=Yj x;have hs:=qhm h z;have b:1<=Z8:=qJ 'b';have N:2<=Z8:=qJ 'b';have hl:kO (sE (t::ws))=.ok (.int (ws.length+1:Nat)):=by simp
 by_cases h2:ws.length=1
 .obtain⟨w,rfl⟩:∃w,ws=[w]:=List.length_eq_one_iff.mp h2;have a:neD (.int (([w]:List Str).length+1:Nat)) (.int 2)=.ok (.bl lw):=qb9 (qb8 _ _);have i:ixD (sE [t,w]) (.int 0)=.ok (.str t):=rfl;have i1:ixD (sE [t,w]) (.int 1)=.ok (.str w):=rfl;have st:∀r,Jf [.val] (jl (zD (qb (qt [.vl,.vl,.vl] jF (qb (d2 ixD (qc 1) 'n') (qb (dC (.int (-3))) (qb (dC (.int 2)) qA)))) (qb (qt [.vl,.vl,.vl] jF (qb (d2 ixD (qc 1) 'i') (qb (dC (.int (-3))) (qb (dC (.int 2)) qA)))) qA))) [lm (.str (jw t [w])),lm (sE [t,w])])=r->vn [.str (jw t [w])]=r:=λr c=>by refine qo.trans ?_;unfold Qf;rw[show qr Wz [.str (jw t [w])]=[lm (.str (jw t [w])),lr]from rfl];generalize sE [t,w]=S at *;generalize jw t [w]=X at *;refine(qy (ρ1:=[lm (.str X),lm S]) (by simp[dM,ZI,hs])).trans ?_;refine(qy (ρ1:=[lm (.str X),lm S]) (by generalize ((([w]:List Str).length+1:Nat):Int)=n at *;simp[hl,a])).trans ?_;exact c
  rcases qch t with⟨p,hp,rfl,e1⟩|e1
  .rcases qch w with⟨q,hq,rfl,e2⟩|e2;·refine .inl ⟨p,q,⟨hp,hq⟩,rfl,st _ ?_⟩;generalize sE [txI p,txI q]=S at *;generalize txI p=A at *;generalize txI q=B at *;simp[i,i1,e1,e2,N]
   .refine .inr (st _ ?_);generalize sE [txI p,w]=S at *;generalize txI p=A at *;simp[i,i1,e1,e2]
  .refine .inr (st _ ?_);generalize sE [t,w]=S at *;simp[i,e1]
 .refine .inr ?_;have a:neD (.int (ws.length+1:Nat)) (.int 2)=.ok (.bl lv):=by
   have:¬((ws.length+1:Nat):Int)=2:=by lia
   generalize ((ws.length+1:Nat):Int)=n at *;simp[neD,eqN,eqS,this]
  refine qo.trans ?_;generalize sE (t::ws)=S at *;generalize jw t ws=X at *;generalize ((ws.length+1:Nat):Int)=n at *;simp[Qf,qr,dM,ZI,hs,hl,a,qU,b]
theorem XX(h:NB (t::ws))(z:(jw t ws).length<=1000):wf [.str (jw t ws)]=if t=ba then .ok (sE ws,[.non])else .exc "NoText" [lm .non]:=by
 have hs:=qhm h z;have b:1<=Z8:=qJ 'b';obtain⟨c1,c2⟩:=XJ t ws;refine qo.trans ?_;by_cases e:t=ba
 .rw[Aa e];have n:neD (.str t) (.str (aa ""))=.ok (.bl lw):=by rw[qhj,e];exact qb9 (XU _ _)
  generalize sE (t::ws)=S at *;generalize sE ws=S' at *;generalize jw t ws=T at *;simp[xG,qr,dM,ZI,hs,c1,n,jH,wq,c2]
 .rw[Ab e];have n:neD (.str t) (.str (aa ""))=.ok (.bl lv):=by rw[qhj];simp[neD,eqN,eqS,e]
  generalize sE (t::ws)=S at *;generalize sE ws=S' at *;generalize jw t ws=T at *;simp[xG,qr,dM,ZI,hs,c1,n,qU,b]
variable{p q:Int}
theorem qeT(h:QO p q):(58:Nat)∉(lkT p q).cps.toList/\(lkT p q).length<=5/\vn [.str (lkT p q)]=.ok (Ld p q,[.non]):=by
 obtain⟨⟨a,b⟩,c,d⟩:=h;have hp:p=-3\/p=-2\/p=-1\/p=0\/p=1\/p=2:=by lia
 have hq:q=-3\/q=-2\/q=-1\/q=0\/q=1\/q=2:=by lia
 clear a b c d;rcases hp with rfl|rfl|rfl|rfl|rfl|rfl <;> rcases hq with rfl|rfl|rfl|rfl|rfl|rfl <;> exact⟨by decide +kernel,by decide +kernel,by kernel_rfl⟩
variable{ca:Str->Z7}{w:Str}
section
variable{r:Int}{hs:List Int}
theorem qmx(h:Gd p q ws r):GL p q ws:=by
 rcases h with⟨rfl,_⟩|⟨h,_,_,n⟩
 .exact⟨λw hw=>(by cases hw),by simp,by simp[qQ,NA]⟩
 .exact⟨h.2.2.2,h.2.1,n⟩
theorem qci(ht:t.length<=100)(hw:∀w∈ws,w.length<=6)(W:ws.length<=7):QF (aa " ") (.lst ((t::ws).map D.str))=.ok (.str (jw t ws))/\(jw t ws).length<=t.length+49:=by
 have e1:(aa " ").length=1:=by decide +kernel
 have key:∀l:List Str,(∀w∈l,w.length<=6)->(l.map (·.length)).sum<=6 * l.length/\(Qs l).length<=7 * l.length:=λl=>by
  induction l with
  |nil=>intro _;simp[Qs]
  | cons x l j=>
   intro h;obtain⟨a,c⟩:=j λy B=>h y (ae _ B);have b:=h x (aj ..);rw[xn]at b;refine⟨?_,?_⟩
   .simp only[aF,iS,ah];rw[xn]
    lia
   .simp only[Qs,ei,am,ah]at c ⊢
    lia
 obtain⟨a,b⟩:=key ws hw;have hl:(jw t ws).length<=t.length+49:=by
  rw[xn,kM,am,xn t]
  lia
 refine⟨?_,hl⟩;unfold QF;simp only[kE];rw[qcd,XW,Aa ⟨by rw[qcd]at e1;simp only[aF,iS,ah,e1];lia,qJ 'b'⟩]
theorem qhn(hl:QO p q)(hg:GL p q ws):k4 (aa " ") (.int p)=lv/\Wb (aa " ") (aa ":") (.int p) (.int q)=.ok (.str (lkT p q++aa ":")) /\
  QF (aa " ") (.lst (D.str (lkT p q++aa ":")::ws.map D.str))=.ok (.str (TX p q ws)):=by
 obtain⟨c1,a,_⟩:=zo hl.1.1 hl.1.2;obtain⟨c2,l,_⟩:=zo hl.2.1 hl.2.2;have e1:(aa " ").length=1:=by decide +kernel
 have i:(aa ":").length=1:=by decide +kernel
 have f1:qdv (.int p)=lm (txI p):=Aa c1;have f2:qdv (.int q)=lm (txI q):=Aa c2;have h:(lkT p q++aa ":").length<=6:=by rw[l7,i];have:=(qeT hl).2.1;lia
 refine⟨?_,?_,(qci 'b' (λw hw=>(hg.1 w hw).2.1) (by have:=hg.2.1;lia)).1⟩;·unfold k4;simp only[f1];exact Ad (qJ (by rw[l7,e1];lia))
 .unfold Wb;simp only[f1,f2];exact Aa (qJ 'b')
theorem WM(hl:QO p q)(hg:GL p q ws):yk ca [wdD ca p q ws r hs]=.ok (.str (TX p q ws),[.non]):=by have a:=hg.2.1;obtain⟨k1,k2,k3⟩:=qhn hl hg;have fl:=qeS (ca:=ca) (p:=p) (q:=q) (ws:=ws) (r:=r) (hs:=hs);have g:UG 'm' "words" (lm (lm (wdD ca p q ws r hs)))=true:=Yi 'a';have c:=qhb (ca:=ca) (p:=p) (q:=q) (ws:=ws) (r:=r) (hs:=hs);have i:ixD (Ld p q) (.int 0)=.ok (.int p):=rfl;have i1:ixD (Ld p q) (.int 1)=.ok (.int q):=rfl;have h:Um (Wd ws)=.ok (.lst (ws.map D.str)):=rfl;have b:1<=Z8:=qJ 'b';have j:ko (.lst [.str (lkT p q++aa ":")]) (.lst (ws.map D.str))=.ok (.lst (.str (lkT p q++aa ":")::ws.map D.str)):=Aa (qJ (by rw[aq];simp;lia));generalize D.lst (.str (lkT p q++aa ":")::ws.map D.str)=J at *;generalize D.lst (ws.map D.str)=WL at *;generalize lkT p q++aa ":"=T at *;generalize TX p q ws=T2 at *;generalize wdD ca p q ws r hs=O at *;generalize Wd ws=W' at *;generalize Ld p q=L at *;exact qo.trans (by simp[gJ,qr,fl,i,i1,dM,k1,k2,b,kP,g,c,h,j,k3])
abbrev loB(ca:Str->Z7):qM:=(Wc (qhE ca CS "NoText") "NoText" (kG (kP 'm' 2 "come" [.vl] (kB ca) (qb (qc 3) qA))))
theorem qcj(hl:QO p q){a b c:Option D}:∀(vs ws:List Str)(r:Int)(hs:List Int)(x:Option D),Gd p q ws r ->(∃R d m,Gd p q (ws++vs) R/\jU (gNm 3) (loB ca) (vs.map D.str) [a,b,lm (wdD ca p q ws r hs),x,c]=.ok (.nx,[a,b,lm (wdD ca p q (ws++vs) R d),m,c]))\/(¬GL p q (ws++vs)/\∃ρ,jU (gNm 3) (loB ca) (vs.map D.str) [a,b,lm (wdD ca p q ws r hs),x,c]=.exc "NoText" ρ)
 |[],ws,r,hs,x,h=>.inl ⟨r,hs,x,by rw[bw];exact h,by rw[bw];rfl⟩
 | v::vs,ws,r,hs,x,h=>by
  have g:UG 'm' "come" (lm (lm (wdD ca p q ws r hs)))=true:=Yi 'a';rcases qhh (ca:=ca) (hs:=hs) hl h v with⟨R,u,h1,e⟩|⟨k,f,n,e⟩
  .have j:=qcj hl (a:=a) (b:=b) (c:=c) vs (ws++[v]) R u (lm (.str v)) h1;rw[cu]at j;rw[aF,fnx (ρ1:=[a,b,lm (wdD ca p q ws r hs),lm (.str v),c]) rfl (ρ2:=[a,b,lm (wdD ca p q (ws++[v]) R u),lm (.str v),c]) (by generalize wdD ca p q ws r hs=O at *;generalize wdD ca p q (ws++[v]) R u=O1 at *;simp[Wc,kP,g,e])];exact j
  .refine .inr ⟨λz=>n (GL.ahead (vs:=vs) (by rw[cu];exact z)),?_⟩;have i:qhE ca CS "NoText" k=lm (ca k):=by unfold qhE;rw[Aa];rcases f with rfl|rfl|rfl|rfl <;> decide +kernel
   generalize wdD ca p q ws r hs=O at *;exact⟨_,by simp[jU,Wc,kP,g,e,i];rfl⟩
theorem xo:vC [.str t]=.ok (.non,[.non]):=by refine qo.trans ?_;simp[ud,qr,xL,tyN]
theorem qck{a y b:Str}(h:aQ x (aa ":")=(a,y,b))(f:a.length<=1000)(B:y.length<=1000)(hb:b.length<=1000):qgo (.str x) (.str (aa ":"))=.ok (.tup [.str a,.str y,.str b]):=by
 have d:qhD x (aa ":"):=by unfold qhD;rw[h];exact⟨by decide +kernel,qJ (by show a.length<=_;lia),qJ (by show y.length<=_;lia),qJ (by show b.length<=_;lia)⟩
 refine(Aa d).trans ?_;rw[h]
theorem qjC:eqD (.str (aa ":")) (.str (aa ""))=.ok (.bl lw):=by
 have:¬aa ":"=aa "":=by decide +kernel
 simp[eqD,eqN,eqS,this]
abbrev loE(ca:Str->Z7):qM:=(qH (QX (jv (qt [.vl] wf (qb (d2 ixD (qc 1) (dC (.int 2))) qA))) (gNm 3) (loB ca)) (jl (qc 2)))
theorem WN{a b:Str}(hp:aQ x (aa ":")=(a,aa ":",b))(f:a.length<=1000)(hb:b.length<=1000)(hl:QO p q)(k:vn [.str a]=.ok (Ld p q,[.non])):vo ca [.str x]=Jf [.val] (loE ca [lm (.str x),lm (.tup [.str a,.str (aa ":"),.str b]),lm (wdD ca p q [] 0 []),lr,lr]):=by have h:=qck hp f 'a' hb;have g:=qha (ca:=ca) hl;have ht:=xo (t:=x);have e:=qjC;have i:ixD (.tup [.str a,.str (aa ":"),.str b]) (.int 0)=.ok (.str a):=rfl;have i1:ixD (.tup [.str a,.str (aa ":"),.str b]) (.int 1)=.ok (.str (aa ":")):=rfl;refine qo.trans ?_;unfold kC;rw[show qr Qi [.str x]=[lm (.str x),lr,lr,lr,lr]from rfl];generalize wdD ca p q [] 0 []=O0 at *;generalize Ld p q=L at *;generalize D.tup [.str a,.str (aa ":"),.str b]=P at *;refine(qy (ρ1:=[lm (.str x),lr,lr,lr,lr]) (by simp[ht])).trans ?_;refine(qy (ρ1:=[lm (.str x),lm P,lr,lr,lr]) (by simp[dM,ZI,h])).trans ?_;refine(qy (ρ1:=[lm (.str x),lm P,lr,lr,lr]) (by simp[i1,e])).trans ?_;refine(qy (ρ1:=[lm (.str x),lm P,lm O0,lr,lr]) (by simp[qaY,i,k,g])).trans ?_;rfl
theorem qd7(hl:QO p q)(hw:NB ws)(hx:(TX p q ws).length<=1000):(∃R hs,Gd p q ws R/\vo ca [.str (TX p q ws)]=.ok (wdD ca p q ws R hs,[.non]))\/(¬GL p q ws/\vo ca [.str (TX p q ws)]=.exc "NoText" [lm .non]):=by
 obtain⟨n,l,k⟩:=qeT hl;have hp:aQ (TX p q ws) (aa ":")=(lkT p q,aa ":",jw ba ws):=by rw[qhk,qd5];exact qcb n
 have hb:(jw ba ws).length<=1000:=by
  rw[qhk,l7]at hx
  lia
 have e:=WN (ca:=ca) hp 'b' hb hl k;have h:=(XX (t:=ba) (ws:=ws) (λw d=>(af.mp d).elim (λz=>by rw[z];simp[ba]) (hw w)) hb).trans (Aa rfl);rw[e];have hit:∀O,jv (qt [.vl] wf (qb (d2 ixD (qc 1) (dC (.int 2))) qA)) [lm (.str (TX p q ws)),lm (.tup [.str (lkT p q),.str (aa ":"),.str (jw ba ws)]),O,lr,lr]=.ok (ws.map D.str,[lm (.str (TX p q ws)),lm (.tup [.str (lkT p q),.str (aa ":"),.str (jw ba ws)]),O,lr,lr]):=λO=>by have i2:ixD (.tup [.str (lkT p q),.str (aa ":"),.str (jw ba ws)]) (.int 2)=.ok (.str (jw ba ws)):=rfl;have f:ju (sE ws)=.ok (ws.map D.str):=rfl;generalize D.tup [.str (lkT p q),.str (aa ":"),.str (jw ba ws)]=P at *;generalize jw ba ws=A at *;generalize TX p q ws=T at *;generalize sE ws=S at *;generalize ws.map D.str=M at *;simp[i2,h,f]
 unfold loE;rw[ua,vL,hit,ky];rcases qcj (ca:=ca) hl (a:=lm (.str (TX p q ws))) (b:=lm (.tup [.str (lkT p q),.str (aa ":"),.str (jw ba ws)])) (c:=lr) ws [] 0 [] lr (.inl ⟨rfl,rfl⟩)with⟨R,g,m,hg,e1⟩|⟨i,ρ,e1⟩
 .refine .inl ⟨R,g,hg,?_⟩;rw[e1];rfl
 .refine .inr ⟨i,?_⟩;rw[e1];rfl
def qlp(x:Str):Prop:=∃p q ws,QO p q/\NB ws/\x=TX p q ws
theorem qho(hx:x.length<=1000)(l:¬qlp x):vo ca [.str x]=.exc "NoText" [lm .non]:=by
 have g:1<=Z8:=qJ 'b';have ht:=xo (t:=x);by_cases f:(58:Nat)∈x.cps.toList
 .obtain⟨a,b,e,k⟩:=List.eq_append_cons_of_mem f;have ex:x=(⟨a.toArray⟩:Str)++⟨#[58]⟩++⟨b.toArray⟩:=Qt (by rw[e,bR,bR];simp);generalize hA:(⟨a.toArray⟩:Str)=A at ex;generalize (⟨b.toArray⟩:Str)=B at ex;have hp:aQ x (aa ":")=(A,aa ":",B):=by rw[ex,qd5];exact qcb (by rw[<-hA];exact k)
  have n:A.length+1+B.length<=1000:=by rw[ex,l7,l7]at hx;exact hx
  rcases qd6 A 'b' with⟨p,q,hl,eA,hk⟩|hk;·rw[WN (ca:=ca) hp 'b' 'b' hl hk];obtain⟨t,ws,rfl,h,_⟩:=Yj B;have i:=XX h 'b';rw[Ab λz=>l ⟨p,q,ws,hl,λw hw=>h w (ae _ hw),by rw[ex,eA,z];exact(qhk p q ws).symm⟩]at i;have i2:ixD (.tup [.str A,.str (aa ":"),.str (jw t ws)]) (.int 2)=.ok (.str (jw t ws)):=rfl;generalize D.tup [.str A,.str (aa ":"),.str (jw t ws)]=P at *;generalize jw t ws=T at *;generalize wdD ca p q [] 0 []=O at *;simp[loE,i2,i]
  .have d:=qck hp 'b' 'a' 'b';have c:=qjC;have j:ixD (.tup [.str A,.str (aa ":"),.str B]) (.int 0)=.ok (.str A):=rfl;have i1:ixD (.tup [.str A,.str (aa ":"),.str B]) (.int 1)=.ok (.str (aa ":")):=rfl;generalize D.tup [.str A,.str (aa ":"),.str B]=P at *;refine qo.trans ?_;simp[kC,qr,ht,dM,ZI,d,i1,c,qaY,j,hk]
 .have hp:aQ x (aa ":")=(x,ba,ba):=by rw[qd5];exact qhi f
  have d:=qck hp hx 'e' 'e';have c:eqD (.str ba) (.str (aa ""))=.ok (.bl lv):=by rw[qhj];exact KO (XU _ _)
  have i1:ixD (.tup [.str x,.str ba,.str ba]) (.int 1)=.ok (.str ba):=rfl;generalize D.tup [.str x,.str ba,.str ba]=P at *;refine qo.trans ?_;simp[kC,qr,ht,dM,ZI,d,i1,c,qU,g]
end
theorem qcl{α:Type}{Cs:List α}{own cap:List Nat}{fi:vV}{fe:qW}{ft:yu}{ρ:Sl}(A B:α->D)(P:α->Bool)(o:∀k∈cap,k∉own)(h:fi ρ=.ok (Cs.map A,ρ))(hl:Cs.length<=Z8)(ht:∀c∈Cs,ft (lm (A c)::cap.map λk=>(ρ[k]?).getD lr)=.ok (P c,lm (A c)::cap.map λk=>(ρ[k]?).getD lr))(he:∀c∈Cs,P c=lv->fe (lm (A c)::cap.map λk=>(ρ[k]?).getD lr)=.ok (B c,lm (A c)::cap.map λk=>(ρ[k]?).getD lr)):qP own 1 cap fi (gNm 0) ft fe ρ=.ok (.lst ((Cs.filter P).map B),ρ):=by
 have key:∀(l:List α)(x:Option D),(∀c∈l,c∈Cs)->∃m,jY (gNm 0) ft fe (l.map A) (x::cap.map λk=>(ρ[k]?).getD lr)=.ok ((l.filter P).map B,m::cap.map λk=>(ρ[k]?).getD lr):=by
  intro l
  induction l with
  |nil=>intro x _;exact⟨x,rfl⟩
  |cons c l j=>
   intro x a;obtain⟨m,e⟩:=j (lm (A c)) λd hd=>a d (ae _ hd);have h1:=ht c (a c (aj ..));have h2:=he c (a c (aj ..));cases q:P c with
   |true=>exact⟨m,by simp[jY,JS,h1,q,h2 q,e]⟩
   |false=>exact⟨m,by simp[jY,JS,h1,q,e]⟩
 obtain⟨m,e⟩:=key Cs lr λ_ h=>h;unfold qP;rw[h];simp only[ky];rw[Aa (by rw[aq];exact hl),show kQ 1 cap ρ=lr::cap.map λk=>(ρ[k]?).getD lr from rfl,e];simp only[ky];rw[uH _ cap 1 ρ o]
def sk(x:Str×Str):List Str:=vt [x.1,x.2]
theorem qeU{x y:Str×Str}:sk x=sk y↔al x y=true:=by
 have a:al x y=lv↔x=y\/x=(y.2,y.1):=by simp[al]
 rw[a];have sp:∀{x y:Str×Str},[x.1,x.2].Perm [y.1,y.2]->sk x=sk y:=λh=>yI ((qN _).trans (h.trans (qN _).symm)) (jQ _) (jQ _);constructor
 .intro h;have p:[x.1,x.2].Perm [y.1,y.2]:=by have:=qN [x.1,x.2];rw[show vt [x.1,x.2]=vt [y.1,y.2]from h]at this;exact this.symm.trans (qN _)
  have c:x.1∈[y.1,y.2]:=p.mem_iff.mp aj;rcases af.mp c with e|e
  .rw[e]at p;have:=List.perm_singleton.mp ((List.perm_cons _).mp p);injection this with i;exact .inl (dG e i)
  .have e:=ay.mp e;rw[e]at p;have:=List.perm_singleton.mp ((List.perm_cons _).mp (p.trans (fQ ..)));injection this with i;exact .inr (dG e i)
 .rintro(rfl|rfl);·rfl
  .exact sp (fQ ..)
theorem XY:∀l:List (Str×Str),qeC (l.map λy=>.tup ((sk y).map D.str))=lm (l.map sk)
 |[]=>rfl
 |x::l=>by rw[aF];unfold qeC;rw[kE,XY l];rfl
theorem Yk:∀(ts ks:List (List Str)),(ts.foldl wa ks).length<=ks.length+ts.length/\((ts.foldl wa ks).length=ks.length+ts.length↔ts.Nodup/\∀t∈ts,t∉ks)
 |[],ks=>by simp
 | t::ts,ks=>by
  rw[cj];by_cases h:t∈ks;·rw[show wa ks t=ks from Aa h,ah];have:=(Yk ts ks).1;refine⟨by lia,λz=>by lia,λz=>absurd h (z.2 t (aj ..))⟩
  .rw[show wa ks t=ks++[t]from Ab h,ah];obtain⟨a,b⟩:=Yk ts (ks++[t]);rw[am,d6]at a b;refine⟨by lia,?_⟩;rw[show ks.length+(ts.length+1)=ks.length+1+ts.length by lia,b,aZ];constructor
   .rintro⟨n,m⟩;refine⟨⟨λz=>m t z (aH _ (ay.mpr rfl)),n⟩,λs hs=>?_⟩;rcases af.mp hs with rfl|hs;·exact h
    .exact λz=>m s hs (bu _ z)
   .rintro⟨⟨n1,n2⟩,m⟩;refine⟨n2,λs hs z=>?_⟩;rcases aI.mp z with z|z;·exact m s (ae _ hs) z
    .exact n1 (ay.mp z ▸ hs)
theorem qd8{l:List (Str×Str)}(hl:l.length<=17):∃n:Nat,uB (.lst (l.map λy=>.tup ((sk y).map D.str)))=.ok (.int n)/\(n=l.length↔NA l):=by
 have e:VZ (.lst (l.map λy=>.tup ((sk y).map D.str)))=lm (l.map sk):=XY l;refine⟨_,by simp only[uB,e];rw[Aa (by rw[aq];exact hl)],?_⟩;have:=(Yk (l.map sk) []).2;rw[bv,Nat.zero_add,aq]at this;rw[this];unfold NA List.Nodup;rw[eh];constructor
 .rintro⟨h,_⟩;exact h.imp λ{a b} n=>by
   cases q:al a b with
   |false=>rfl
   |true=>exact absurd (qeU.mpr q) n
 .intro h;exact⟨h.imp λ{a b} n z=>(by rw[qeU.mp z]at n;cases n),λt _=>by simp⟩
abbrev N6:List Int:=[-3,-2,-1,0,1,2]
abbrev PL:List Str:=N6.map txI
theorem qlq:(["-3","-2","-1","0","1","2"]:List Str)=PL:=by decide +kernel
theorem n6(h:n∈N6):-3<=n/\n<=2:=by
 have:∀n∈N6,-3<=n/\n<=2:=by decide
 exact this n h
theorem qlr:(aa "abcdefghijklmnopqrstuvwxyz").cps.toList=(aB 26).map (·+97):=by decide +kernel
theorem qjD(c:Nat):qhz (.str ⟨#[c]⟩) (.str (aa "abcdefghijklmnopqrstuvwxyz"))=.ok (.bl (!Ql (.str ⟨#[c]⟩))):=by
 have:qj2 (aa "abcdefghijklmnopqrstuvwxyz") ⟨#[c]⟩=Ql (.str ⟨#[c]⟩):=by
  unfold qj2;rw[qcc,qlr];by_cases h:az c
  .rw[qbS h];obtain⟨a,b,e,n⟩:=List.eq_append_cons_of_mem (show c∈(aB 26).map (·+97)from aw.mpr ⟨c - 97,aN.mpr (by have:=h.2;lia),by have:=h.1;lia⟩);rw[e,uJ _ _ _ n];rfl
  .rw[wF _ _ λz=>h (by obtain⟨i,hi,rfl⟩:=aw.mp z;have:=aN.mp hi;exact⟨by lia,by lia⟩)];cases q:Ql (.str ⟨#[c]⟩)with
   |false=>rfl
   |true=>exact absurd (qbU q) h
 simp[qhz,this]
abbrev gdB:qM:=(sIf (dOr (uN (qK (wU leD leD 'i' (d1 kO (qc 5)) (dC (.int 6))))) (qK (d2 neD (qP [] 1 [] (jv (qc 5)) (gNm 0) (qK (d2 qhz (qc 0) (dC (.str "abcdefghijklmnopqrstuvwxyz")))) (qc 0)) (xq qA)))) (jl (dC (.bl lw))) jd)
theorem qhp{a b c d e f:Option D}(w:Str):gdB [a,b,c,d,e,lm (.str w),f]=if wdB w then .ok (.nx,[a,b,c,d,e,lm (.str w),f])else .ok (.rt (.bl lw),[a,b,c,d,e,lm (.str w),f]):=by
 by_cases h1:1<=w.length
 .have h:(1:Int)<=w.length:=by lia
  by_cases l:w.length<=6
  .have g:(w.length:Int)<=6:=by lia
   have o:=qcl (own:=[]) (cap:=[]) (Cs:=w.cps.toList) (ρ:=[a,b,c,d,e,lm (.str w),f]) (fi:=jv (qc 5)) (ft:=qK (d2 qhz (qc 0) (dC (.str "abcdefghijklmnopqrstuvwxyz")))) (fe:=qc 0) (λk=>.str ⟨#[k]⟩) (λk=>.str ⟨#[k]⟩) (λk=>!Ql (.str ⟨#[k]⟩)) 'f' (by simp[ju,xz]) (qJ (by rw[<-xn];lia)) (λk _=>by have:=qjD k;simp[this]) (λk _ _=>by simp);have m:wdB w=(xz w).all Ql:=by simp[wdB,h1,l]
   have n:(xz w).all Ql=w.cps.toList.all λk=>Ql (.str ⟨#[k]⟩):=by simp[xz,iX,iL]
   rw[m,n];cases i:w.cps.toList.filter λk=>!Ql (.str ⟨#[k]⟩)with
   |nil=>
    rw[i]at o;have:(w.cps.toList.all λk=>Ql (.str ⟨#[k]⟩))=true:=by rw[aW];intro k j;have:=List.filter_eq_nil_iff.mp i k j;simpa using this
    rw[this];simp[h,g,o,neD,eqN,wI]
   | cons k L=>
    rw[i]at o;have:(w.cps.toList.all λk=>Ql (.str ⟨#[k]⟩))=false:=by
     have j:k∈w.cps.toList.filter λk=>!Ql (.str ⟨#[k]⟩):=by rw[i];exact aj ..
     obtain⟨h1,h2⟩:=dj.mp j;exact List.all_eq_false.mpr ⟨k,h1,by simpa using h2⟩
    rw[this];simp[h,g,o,neD,eqN,wI]
  .have g:¬(w.length:Int)<=6:=by lia
   simp[wdB,l,h,g]
 .have h:¬(1:Int)<=w.length:=by lia
  simp[wdB,h1,h]
theorem qcm{a b c d e f:Option D}:∀(ws:List Str)(x:Option D),((∀w∈ws,KI w)/\∃m,jU (gNm 5) gdB (ws.map D.str) [a,b,c,d,e,x,f]=.ok (.nx,[a,b,c,d,e,m,f]))\/((¬∀w∈ws,KI w)/\∃ρ,jU (gNm 5) gdB (ws.map D.str) [a,b,c,d,e,x,f]=.ok (.rt (.bl lw),ρ))
 |[],x=>.inl ⟨λw hw=>(by cases hw),x,rfl⟩
 | w::ws,x=>by
  have st:=qhp (a:=a) (b:=b) (c:=c) (d:=d) (e:=e) (f:=f) w;cases q:wdB w with
  | true=>
   rw[q]at st;rw[aF,fnx (ρ1:=[a,b,c,d,e,lm (.str w),f]) rfl st];rcases qcm (a:=a) (b:=b) (c:=c) (d:=d) (e:=e) (f:=f) ws (lm (.str w))with⟨h,r⟩|⟨h,r⟩
   .refine .inl ⟨λv g=>?_,r⟩;rcases af.mp g with rfl|g;·exact KJ.mp q
    .exact h v g
   .exact .inr ⟨λz=>h λv g=>z v (ae _ g),r⟩
  |false=>
   rw[q]at st;refine .inr ⟨λz=>?_,[a,b,c,d,e,lm (.str w),f],?_⟩;·rw[KJ.mpr (z w (aj ..))]at q;cases q
   .simp only[aF,jU];rw[show gNm 5 (.str w) [a,b,c,d,e,x,f]=.ok [a,b,c,d,e,lm (.str w),f]from rfl];rw[Out.plain,ky];rw[st];rfl
abbrev PC:List Str:=N6.map λn=>txI n++aa ":"
abbrev gdT:yu:=(dOr (qK (d2 ltD (d1 kO (qc 1)) (dC (.int 2)))) (dOr (qK (d2 Jc (d2 ixD (qc 1) 'n') (qc 2))) (qK (d2 Jc (d2 ixD (qc 1) 'i') (qP [] 1 [] (jv (qc 2)) (gNm 0) ftT (d2 ko (qc 0) (dC (.str ":"))))))))
abbrev gdE:qM:=(jl (Qx (d2 eqD (d1 uB (qc 6)) (d1 kO (qc 6))) (d2 leD (d1 kO (qc 4)) (dC (.int 6)))))
abbrev gdC:qW:=(qP [] 1 [] (jv (qt [.vl,.vl] yq (qb (qc 4) (qb (qc 3) qA)))) (gNm 0) ftT (d1 wJ (d1 ub (qc 0))))
abbrev gdR:qM:=(qH (jz 3 (zD (qb (d1 yN (d2 ixD (qc 1) 'n')) (qb (d1 yN (yH (d2 ixD (qc 1) 'i') lr (lm (d1 qfQ 'i')) lr)) qA))))
  (qH (jz 4 (jH (qc 1) (lm (dC (.int 2))) lr))
  (qH (QX (jv (qc 4)) (gNm 5) gdB)
  (qH (jz 6 gdC) gdE))))
variable{c:Str}
theorem qcn{l:List Str}:Jc (.str c) (sE l)=.ok (.bl (!decide (c∈l))):=by simp[Jc,Ue,inD,vp]
theorem WO(h:NB (t::ws))(a:(jw t ws).length<=1000):yr [.str (jw t ws)]=Jf [.val] (qH (sIf gdT (jl (dC (.bl lw))) jd) gdR [lm (.str (jw t ws)),lm (sE (t::ws)),lm (sE PL),lr,lr,lr,lr]):=by
 have hs:=qhm h a;have z:6<=Z8:=qJ 'b';have hp:D.lst [.str "-3",.str "-2",.str "-1",.str "0",.str "1",.str "2"]=sE PL:=by rw[<-qlq];rfl
 refine qo.trans ?_;unfold qbL;rw[show qr qbK [.str (jw t ws)]=[lm (.str (jw t ws)),lr,lr,lr,lr,lr,lr]from rfl];refine(qy (ρ1:=[lm (.str (jw t ws)),lm (sE (t::ws)),lr,lr,lr,lr,lr]) (by generalize jw t ws=X at *;generalize sE (t::ws)=S at *;simp[dM,ZI,hs])).trans ?_;refine(qy (ρ1:=[lm (.str (jw t ws)),lm (sE (t::ws)),lm (sE PL),lr,lr,lr,lr]) (by rw[<-hp];generalize jw t ws=X at *;generalize sE (t::ws)=S at *;simp[z])).trans ?_;rfl
variable{S:D}
theorem qhq{x:D}{a b c d:Option D}:qP [] 1 [] (jv (qc 2)) (gNm 0) ftT (d2 ko (qc 0) (dC (.str ":"))) [lm x,lm S,lm (sE PL),a,b,c,d]=.ok (sE PC,[lm x,lm S,lm (sE PL),a,b,c,d]):=by
 have e1:(aa ":").length=1:=by decide +kernel
 have o:=qcl (own:=[]) (cap:=[]) (Cs:=N6) (ρ:=[lm x,lm S,lm (sE PL),a,b,c,d]) (fi:=jv (qc 2)) (ft:=ftT) (fe:=d2 ko (qc 0) (dC (.str ":"))) (λn=>.str (txI n)) (λn=>.str (txI n++aa ":")) (λ_=>lv) 'f' (by
  have f:ju (sE PL)=.ok (N6.map λn=>.str (txI n)):=rfl;generalize sE PL=P at *;generalize (N6.map λn=>D.str (txI n))=M at *;simp[f]) (qJ 'e') (λ_ _=>rfl) λn h _=>by
  have e:ko (.str (txI n)) (.str (aa ":"))=.ok (.str (txI n++aa ":")):=Aa (qJ (by have:=(zo (n6 h).1 (n6 h).2).2.1;rw[e1];lia));generalize txI n=T at *;simp[e]
 rw[fj.mpr λ_ _=>rfl]at o;exact o
theorem qeV{x:D}:gdT [lm x,lm (sE (t::c::ws)),lm (sE PL),lr,lr,lr,lr]=.ok (!(decide (t∈PL)&&decide (c∈PC)),[lm x,lm (sE (t::c::ws)),lm (sE PL),lr,lr,lr,lr]):=by
 have hl:ltD (.int (ws.length+1+1:Nat)) (.int 2)=.ok (.bl lw):=by
  have:¬((ws.length+1+1:Nat):Int)<2:=by lia
  generalize ((ws.length+1+1:Nat):Int)=n at *;simp[this]
 have h:kO (sE (t::c::ws))=.ok (.int (ws.length+1+1:Nat)):=by simp
 have i:ixD (sE (t::c::ws)) (.int 0)=.ok (.str t):=(XJ t (c::ws)).1;have i1:ixD (sE (t::c::ws)) (.int 1)=.ok (.str c):=by simp[ixD,at1]
 have g:=qhq (x:=x) (S:=sE (t::c::ws)) (a:=lr) (b:=lr) (c:=lr) (d:=lr);have e:=qcn (c:=t) (l:=PL);have n1:=qcn (c:=c) (l:=PC);unfold gdT;generalize qP [] 1 [] (jv (qc 2)) (gNm 0) ftT (d2 ko (qc 0) (dC (.str ":")))=F at *;generalize sE (t::c::ws)=S at *;generalize ((ws.length+1+1:Nat):Int)=n at *;generalize sE PL=P at *;generalize sE PC=P2 at *;by_cases f:t∈PL;·rw[Ad f]at e ⊢;simp[h,hl,i,i1,e,g,n1]
 .rw[Ac f]at e ⊢;simp[h,hl,i,e]
theorem qhr(hx:x.length<=1000)(f:¬qlp x):yr [.str x]=.ok (.bl lw,[.non]):=by
 obtain⟨t,ws,rfl,h,_⟩:=Yj x;rw[WO h hx];have ret:∀(ρ:Sl),gdT ρ=.ok (lv,ρ)->Jf [.val] (qH (sIf gdT (jl (dC (.bl lw))) jd) gdR ρ)=.ok (.bl lw,[.non]):=λρ e=>by generalize gdT=T at *;generalize gdR=R at *;simp[e]
 apply ret;cases ws with
 |nil=>simp
 | cons c ws=>
  rw[qeV];have:(decide (t∈PL)&&decide (c∈PC))=false:=by
   cases q:decide (t∈PL)&&decide (c∈PC)with
   |false=>rfl
   |true=>rw[aO,decide_eq_true_eq,decide_eq_true_eq]at q;obtain⟨p,hp,rfl⟩:=aw.mp q.1;obtain⟨r,a,rfl⟩:=aw.mp q.2;exact absurd ⟨p,r,ws,⟨n6 hp,n6 a⟩,λw hw=>h w (ae _ (ae _ hw)),(qjA p r ws).symm⟩ f
  rw[this];rfl
theorem qeW(a:-3<=n)(h1:n<=2):slD lr (lm (-1)) lr (.str (txI n++aa ":"))=.ok (.str (txI n))/\(32:Nat)∉(txI n++aa ":").cps.toList:=by
 have hp:n=-3\/n=-2\/n=-1\/n=0\/n=1\/n=2:=by lia
 clear a h1;rcases hp with rfl|rfl|rfl|rfl|rfl|rfl <;> exact⟨by kernel_rfl,by decide +kernel⟩
theorem qmy(x y:Str)(ls:List Str):qhB (lm 2) lr (sE (x::y::ls))=.ok (sE ls):=by
 have:Gh ((x::y::ls).map D.str) (lm 2) lr=ls.map D.str:=by unfold Gh;rw[HT.sIx_none,show(lm (2:Int))=lm ((2:Nat):Int)from rfl,HT.sIx_nat];simp;exact bC 'f'
 show Out.ok (D.lst (Gh ((x::y::ls).map D.str) (lm 2) lr))=_;rw[this]
theorem qjE(h:-3<=n/\n<=2):n∈N6:=by
 have:n=-3\/n=-2\/n=-1\/n=0\/n=1\/n=2:=by lia
 simpa[N6]using this
theorem qd9(hl:QO p q)(hw:NB ws)(hx:(TX p q ws).length<=1000)(u:ws.length<=17):∃b,(b=lv↔GL p q ws)/\yr [.str (TX p q ws)]=.ok (.bl b,[.non]):=by
 rw[qjA]at hx ⊢;obtain⟨c1,l1,_,n1,K⟩:=zo hl.1.1 hl.1.2;obtain⟨c2,l2,_,_,J⟩:=zo hl.2.1 hl.2.2;obtain⟨s1,n2⟩:=qeW hl.2.1 hl.2.2;have s:NB (txI p::(txI q++aa ":")::ws):=λw m=>by
  rcases af.mp m with rfl|m;·exact n1
  .rcases af.mp m with rfl|m;·exact n2
   .exact hw w m
 rw[WO s hx];have k:=qeV (x:=.str (jw (txI p) ((txI q++aa ":")::ws))) (t:=txI p) (c:=txI q++aa ":") (ws:=ws);rw[Ad (aw.mpr ⟨p,qjE hl.1,rfl⟩:txI p∈PL),Ad (aw.mpr ⟨q,qjE hl.2,rfl⟩:txI q++aa ":"∈PC)]at k;have k:gdT [lm (.str (jw (txI p) ((txI q++aa ":")::ws))),lm (sE (txI p::(txI q++aa ":")::ws)),lm (sE PL),lr,lr,lr,lr]=.ok (lw,_):=k;have O:ixD (sE (txI p::(txI q++aa ":")::ws)) (.int 0)=.ok (.str (txI p)):=(XJ _ _).1;have i1:ixD (sE (txI p::(txI q++aa ":")::ws)) (.int 1)=.ok (.str (txI q++aa ":")):=by simp[ixD,at1]
 have U:=qmy (txI p) (txI q++aa ":") ws;have E:yN (.str (txI p))=.ok (.int p):=by simp only[yN,K];exact Aa 'b'
 have v:yN (.str (txI q))=.ok (.int q):=by simp only[yN,J];exact Aa 'b'
 have N:2<=Z8:=qJ 'b';generalize D.str (jw (txI p) ((txI q++aa ":")::ws))=X at *;generalize sE (txI p::(txI q++aa ":")::ws)=S at *;generalize sE PL=P at *;generalize txI q++aa ":"=C at *;generalize txI p=A at *;generalize txI q=B at *;have i:=qcm (a:=lm X) (b:=lm S) (c:=lm P) (d:=lm (Ld p q)) (e:=lm (sE ws)) (f:=lr) ws lr;have hit:jv (qc 4) [lm X,lm S,lm P,lm (Ld p q),lm (sE ws),lr,lr]=.ok (ws.map D.str,[lm X,lm S,lm P,lm (Ld p q),lm (sE ws),lr,lr]):=rfl;have st:∀r,Jf [.val] (qH (QX (jv (qc 4)) (gNm 5) gdB) (qH (jz 6 gdC) gdE) [lm X,lm S,lm P,lm (Ld p q),lm (sE ws),lr,lr])=r->Jf [.val] (qH (sIf gdT (jl (dC (.bl lw))) jd) gdR [lm X,lm S,lm P,lr,lr,lr,lr])=r:=λr R=>by refine(qy (ρ1:=[lm X,lm S,lm P,lr,lr,lr,lr]) (by generalize gdT=T at *;simp[k])).trans ?_;refine(qy (ρ1:=[lm X,lm S,lm P,lm (Ld p q),lr,lr,lr]) (by simp[O,i1,E,v,yH,wq,qfQ,s1,N])).trans ?_;refine(qy (ρ1:=[lm X,lm S,lm P,lm (Ld p q),lm (sE ws),lr,lr]) (by generalize sE ws=W at *;generalize Ld p q=L at *;simp[jH,wq,U])).trans R
 rcases i with⟨j,G,lp⟩|⟨j,ρ,lp⟩
 .have g:=UZ j u hl;have h:=XG ws p q;obtain⟨n,Q,H⟩:=qd8 (l:=qQ ws p q) 'b';have hi:jv (qt [.vl,.vl] yq (qb (qc 4) (qb (qc 3) qA))) [lm X,lm S,lm P,lm (Ld p q),lm (sE ws),G,lr]=.ok ((qQ ws p q).map λy=>.tup [.str y.1,.str y.2],[lm X,lm S,lm P,lm (Ld p q),lm (sE ws),G,lr]):=by have o:ju (.lst (ql (qQ ws p q)))=.ok ((qQ ws p q).map λy=>.tup [.str y.1,.str y.2]):=rfl;have g:yq [sE ws,Ld p q]=_:=g;generalize D.lst (ql (qQ ws p q))=Z at *;generalize ((qQ ws p q).map λy=>D.tup [.str y.1,.str y.2])=M at *;generalize sE ws=W at *;generalize Ld p q=L at *;simp[g,o]
  have I:=qcl (own:=[]) (cap:=[]) (Cs:=qQ ws p q) (ft:=ftT) (fe:=d1 wJ (d1 ub (qc 0))) (λy=>.tup [.str y.1,.str y.2]) (λy=>.tup ((sk y).map D.str)) (λ_=>lv) 'f' hi (qJ 'b') (λ_ _=>rfl) λy _ _=>by
   have es:ub (.tup [.str y.1,.str y.2])=.ok (.lst ((sk y).map D.str)):=by have:wK (.tup [.str y.1,.str y.2])=lm [y.1,y.2]:=rfl;simp only[ub,this];rw[Aa 'f'];rfl
   simp only[yL,qf3,cV,List.getElem?_cons_zero,ky,es,qiN,wJ]
  rw[fj.mpr λ_ _=>rfl]at I;have Y:kO (.lst ((qQ ws p q).map λy=>.tup ((sk y).map D.str)))=.ok (.int ws.length):=by simp[h]
  have e4:kO (sE ws)=.ok (.int ws.length):=by simp
  rw[h]at H;refine⟨decide (n=ws.length)&&decide (ws.length<=6),?_,st _ ?_⟩;·rw[aO,decide_eq_true_eq,decide_eq_true_eq,H];exact⟨λz=>⟨j,z.2,z.1⟩,λz=>⟨z.2.2,z.2.1⟩⟩
  .rw[ua,vL,hit,ky,lp];unfold gdC at *;have eq:eqD (.int n) (.int ws.length)=.ok (.bl (decide (n=ws.length))):=by
    by_cases z:n=ws.length;·subst z;simp[eqD,eqN,eqS]
    .have:¬(n:Int)=ws.length:=by lia
     simp[eqD,eqN,eqS,z,this]
   have el:leD (.int ws.length) (.int 6)=.ok (.bl (decide (ws.length<=6))):=by
    by_cases z:ws.length<=6
    .have:(ws.length:Int)<=6:=by lia
     simp[z,this]
    .have:¬(ws.length:Int)<=6:=by lia
     simp[z,this]
   generalize D.lst ((qQ ws p q).map λy=>.tup ((sk y).map D.str))=V at *;generalize sE ws=W at *;generalize Ld p q=L at *;generalize qP [] 1 [] (jv (qt [.vl,.vl] yq (qb (qc 4) (qb (qc 3) qA)))) (gNm 0) ftT (d1 wJ (d1 ub (qc 0)))=F at *;generalize decide (n=ws.length)=k1 at *;generalize decide (ws.length<=6)=k2 at *;generalize (n:Int)=n' at *;generalize (ws.length:Int)=m' at *;cases k1 <;> simp[I,Q,Y,e4,eq,el]
 .refine⟨lw,⟨λz=>(by cases z),λz=>absurd z.1 j⟩,st _ ?_⟩;rw[ua,vL,hit,ky,lp];rfl
set_option tactic.hygienic true in
theorem qjF(l:List Nat)(k:Nat):vz ⟨⟨l⟩⟩ lr (lm (k:Int)) 1=⟨⟨l.take k⟩⟩:=by
 have hi:bF lr (lm (k:Int)) 1 l.length=(aB (min k l.length)).map (λj=>0+j):=by
  rw[<-Nat.sub_zero (min k l.length),<-StrLaws.strSliceIndices_plain (a:=0) (b:=min k l.length) (len:=l.length) (be _) (Nat.min_le_right ..)];have h1:¬((k:Int)<0):=by lia
  have h2:¬(((min k l.length:Nat):Int)<0):=by lia
  have e1:max (0:Int) (min (k:Int) (l.length:Int))=max (0:Int) (min ((min k l.length:Nat):Int) (l.length:Int)):=by lia
  have e:max (0:Int) (min 0 (l.length:Int))=0:=by lia
  simp only[bF,h1,h2,if_false,e1,show((1:Int) > 0)=True from by simp,if_true];simp[e]
 have hp:((aB (min k l.length)).map (λj=>0+j)).filterMap (l[·]?)=l.take k:=by
  rw[StrLaws.picks l _ _ 'b',j5];by_cases h:k<=l.length;·rw[Nat.min_eq_left h]
  .rw[Nat.min_eq_right 'b',List.take_length,bC 'b']
 unfold vz;rw[show cD ⟨⟨l⟩⟩=l.length from rfl,hi];have hg:(λ(i:Nat)=>(⟨⟨l⟩⟩:Str).cps[i]?)=λ(i:Nat)=>l[i]?:=by funext i;exact c9 ..
 rw[hg,hp];split;·rename_i h;simp at h;rw[bC 'b']
 .rfl
set_option tactic.hygienic true in
theorem qjG(l:List Nat)(k:Nat):vz ⟨⟨l⟩⟩ (lm (k:Int)) lr 1=⟨⟨l.drop k⟩⟩:=by
 have hi:bF (lm (k:Int)) lr 1 l.length=(aB (l.length - min k l.length)).map (λj=>min k l.length+j):=by
  rw[<-StrLaws.strSliceIndices_plain (a:=min k l.length) (b:=l.length) (len:=l.length) (Nat.min_le_right ..) (ao _)];have h1:¬((k:Int)<0):=by lia
  have h2:¬(((min k l.length:Nat):Int)<0):=by lia
  have g:¬((l.length:Int)<0):=by lia
  have e1:max (0:Int) (min (k:Int) (l.length:Int))=max (0:Int) (min ((min k l.length:Nat):Int) (l.length:Int)):=by lia
  have e:max (0:Int) (min (l.length:Int) (l.length:Int))=l.length:=by lia
  simp only[bF,h1,h2,g,if_false,e1,e,show((1:Int) > 0)=True from by simp,if_true]
 have hp:((aB (l.length - min k l.length)).map (λj=>min k l.length+j)).filterMap (l[·]?)=l.drop k:=by
  rw[StrLaws.picks l _ _ 'b'];by_cases h:k<=l.length;·rw[Nat.min_eq_left h,bC (by rw[cm];exact ao _)]
  .rw[Nat.min_eq_right 'b',fW,j6,bW 'b']
 unfold vz;rw[show cD ⟨⟨l⟩⟩=l.length from rfl,hi];have hg:(λ(i:Nat)=>(⟨⟨l⟩⟩:Str).cps[i]?)=λ(i:Nat)=>l[i]?:=by funext i;exact c9 ..
 rw[hg,hp];split
 .rename_i h;simp at h;have:l.length=0\/k=0:=by lia
  rcases this with h|h;·rw[List.eq_nil_of_length_eq_zero h];simp
  .rw[h];rfl
 .rfl
variable{l:List Nat}
theorem qls(h:l.length<=2000)(k:Nat):slD lr (lm (k:Int)) lr (.str ⟨⟨l⟩⟩)=.ok (.str ⟨⟨l.take k⟩⟩):=by have d:=qjF l k;have z:(⟨⟨l.take k⟩⟩:Str).length<=Z8:=qJ (by show(l.take k).length<=2000;rw[bb];lia);show(if (1:Int)≠0/\(vz ⟨⟨l⟩⟩ lr (lm (k:Int)) 1).length<=Z8 then _ else _)=_;rw[d,Aa ⟨by decide,z⟩];show Out.ok (D.str (vz ⟨⟨l⟩⟩ lr (lm (k:Int)) 1))=_;rw[d]
theorem qlt(h:l.length<=2000)(k:Nat):slD (lm (k:Int)) lr lr (.str ⟨⟨l⟩⟩)=.ok (.str ⟨⟨l.drop k⟩⟩):=by have d:=qjG l k;have z:(⟨⟨l.drop k⟩⟩:Str).length<=Z8:=qJ (by show(l.drop k).length<=2000;rw[cm];lia);show(if (1:Int)≠0/\(vz ⟨⟨l⟩⟩ (lm (k:Int)) lr 1).length<=Z8 then _ else _)=_;rw[d,Aa ⟨by decide,z⟩];show Out.ok (D.str (vz ⟨⟨l⟩⟩ (lm (k:Int)) lr 1))=_;rw[d]
theorem qco:∀ws:List Str,ws.length<=(Qs ws).count 32/\(NB ws->(Qs ws).count 32=ws.length)
 |[]=>⟨by simp,λ_=>by simp[Qs]⟩
 |w::ws=>by
  obtain⟨a,b⟩:=qco ws;have e:(Qs (w::ws)).count 32=w.cps.toList.count 32+1+(Qs ws).count 32:=by simp only[Qs,ei,dA,List.count_cons_self]
  rw[e,ah];refine⟨by lia,λh=>?_⟩;rw[b λv c=>h v (ae _ c),fH.mpr (h w (aj ..))]
  lia
abbrev RF:D:=.tup [.str "refused",.int 11]
theorem Ge(h:qgO ca):KG ca [.xcp (ca "NoText")]=.ok (RF,[.non]):=by
 refine qo.trans ?_;have B:(aa "NoText")∈CS:=by decide +kernel
 have o:=wj h (x := "NoWords") (y := "NoText") (b:=lw) 'a' B 'a';have m:=wj h (x := "NoLook") (y := "NoText") (b:=lw) 'a' B 'a';have k:=wj h (x := "NoNumbers") (y := "NoText") (b:=lw) 'a' B 'a';have j:=wj h (x := "NoRoom") (y := "NoText") (b:=lw) 'a' B 'a';have q:=wj h (x := "NoWord") (y := "NoText") (b:=lw) 'a' B 'a';have D:=wj h (x := "NoWorths") (y := "NoText") (b:=lw) 'a' B 'a';have i:=wj h (x := "Never") (y := "NoText") (b:=lw) 'a' B 'a';have A:=wj h (x := "Full") (y := "NoText") (b:=lw) 'a' B 'a';have K:=wj h (x := "Known") (y := "NoText") (b:=lw) 'a' B 'a';have E:=wj h (x := "NoPlace") (y := "NoText") (b:=lw) 'a' B 'a';have e:=wj h (x := "NoLetters") (y := "NoText") (b:=lw) 'a' B 'a';have d:=wj h (x := "NoText") (y := "NoText") (b:=lv) 'a' B 'a';have c:=wj h (x := "Nothing") (y := "NoText") (b:=lw) 'a' B 'a';have T:=qgP (ca:=ca) B;have g:4<=Z8:=qJ 'b';have f:8<=Z8:=qJ 'b';have a:12<=Z8:=qJ 'b';have z:12<Z8:=aK 'e' big;have N:2<=Z8:=qJ 'b';simp[KC,qr,QB,o,m,k,j,q,D,i,A,K,E,e,d,c,T,g,f,a,z,N,zr,qej,YG,YL,vX,neD,eqN,eqS,YM,qfQ,List.countP_cons,List.findIdx?_cons]
section
variable(hca:qgO ca)
include hca
theorem qcp{d:D}(h:vo ca [d]=.exc "NoText" [lm .non]):Qj ca [d]=.ok (RF,[.non]):=by have hw:=Ge hca;have hi:=qjg (ca:=ca) (show aa "NoText"∈CS by decide +kernel);refine qo.trans ?_;simp[qbD,qfN,qr,h,hi,hw]
theorem qeX(hx:x.length<=1000)(hb:x.cps.toList.count 32<=17):∃b,yr [.str x]=.ok (.bl b,[.non])/\Qj ca [.str x]=.ok (if b then .str x else RF,[.non]):=by
 by_cases h:qlp x
 .obtain⟨p,q,ws,hl,hw,rfl⟩:=h;have u:ws.length<=17:=by
   rw[kM,dA]at hb;have:=(qco ws).1
   lia
  obtain⟨b,G,hg⟩:=qd9 hl hw hx u;refine⟨b,hg,?_⟩;rcases qd7 (ca:=ca) hl hw hx with⟨R,hs,hd,e⟩|⟨n,e⟩
  .have g:=qmx hd;rw[G.mpr g];have ht:=WM (ca:=ca) (r:=R) (hs:=hs) hl g;refine qo.trans ?_;generalize TX p q ws=X at *;generalize wdD ca p q ws R hs=O at *;simp[qbD,qfN,qr,e,ht]
  .cases b with
   |true=>exact absurd (G.mp rfl) n
   |false=>exact qcp hca e
 .exact⟨lw,qhr hx h,qcp hca (qho hx h)⟩
noncomputable def OD:List D:=[.non,(.str ""),(.int 5),(.str "0"),(.str "0 0"),(.str "0: 0"),(.str "0 3:"),(.str "-4 0:"),(.str "00 0:"),(.str "-0 0:"),(.tup [(.str "0 0:")]),(.str "0 0: a a")]
theorem qhs:∀d∈OD,Qj ca [d]=.ok (RF,[.non]):=by
 have z:1<=Z8:=qJ 'b';have t:∀(x:Str),x.length<=1000->x.cps.toList.count 32<=17->yr [.str x]=.ok (.bl lw,[.non])->Qj ca [.str x]=.ok (RF,[.non]):=λx h1 h2 g=>by obtain⟨b,e1,i⟩:=qeX hca h1 h2;rw[g]at e1;cases e1;exact i
 intro d hd;simp only[OD,af,bM,or_false]at hd;rcases hd with rfl|rfl|rfl|rfl|rfl|rfl|rfl|rfl|rfl|rfl|rfl|rfl;any_goals exact t _ 'a' 'a' (by kernel_rfl)
 all_goals refine qcp hca (qo.trans ?_)
 all_goals
  have ht:∀d,xL "str" d=.ok (.bl lw)->vC [d]=.exc "NoText" [lm .non]:=λd h=>by refine qo.trans ?_;simp[ud,qr,h,qU,z]
 .simp[kC,qr,ht .non rfl]
 .simp[kC,qr,jC,kf,xJ,ht (.int 5) (by kernel_rfl)]
 .simp[kC,qr,jC,kf,xJ,ht (.tup [.str "0 0:"]) (by kernel_rfl)]
end
noncomputable def PT:List Str:=["","a","b"," ","-",":","1","3","A"," c","0 ","  "]
theorem qlu:∀s∈PT,s.length<=2/\s.cps.toList.count 32<=2:=by decide +kernel
abbrev aP:vV:=(qb (dC (.str "")) (qb (dC (.str "a")) (qb (dC (.str "b")) (qb (dC (.str " ")) (qb (dC (.str "-")) (qb (dC (.str ":")) (qb (dC (.str "1")) (qb (dC (.str "3")) (qb (dC (.str "A")) (qb (dC (.str " c")) (qb (dC (.str "0 ")) (qb (dC (.str "  ")) qA))))))))))))
abbrev mtB(r c:jy)(P:qW):qM:=(qH (jz 7 (qt [.vl,.sl 1,.vl] r (qb (qc 0) (kx (qb (d2 ko (d1 kO (qc 4)) 'i') qA)))))
  (qH (jz 8 (qt [.vl,.sl 1,.vl] c (qb (qc 0) (kx (qb P qA)))))
  (jz 4 (d2 ko (d2 ko (yH (qc 4) lr (lm (qc 7)) lr) (qc 8)) (yH (qc 4) (lm (d2 ko (qc 7) (qt [.vl,.sl 1,.vl] r (qb (qc 0) (kx (qb (dC (.int 2)) qA)))))) lr lr)))))
theorem qlv(ρ:Sl):xq aP ρ=.ok (.lst (PT.map D.str),ρ):=by have z:12<=Z8:=qJ 'b';simp[z,PT]
theorem qht{r p:jy}{P:qW}(hp:∀ρ,P ρ=.ok (.lst (PT.map D.str),ρ)){t:List D}{s:Str}{k j:Nat}{a b c y e f:Option D}(hx:x.length<=900)(h1:r [S,.lst t,.int ((x.length:Int)+1)]=.ok (.int k,[.non,.lst (t++[.int 0]),.non]))(h2:p [S,.lst (t++[.int 0]),.lst (PT.map D.str)]=.ok (.str s,[.non,.lst (t++[.int 0]++[.int 0]),.non]))(g:r [S,.lst (t++[.int 0]++[.int 0]),.int 2]=.ok (.int j,[.non,.lst (t++[.int 0]++[.int 0]++[.int 0]),.non]))(hs:s∈PT) :
  ∃m:Str,m.length<=x.length+2/\m.cps.toList.count 32<=x.cps.toList.count 32+2/\mtB r p P [lm S,lm (.lst t),a,b,lm (.str x),y,c,e,f]=.ok (.nx,[lm S,lm (.lst (t++[.int 0]++[.int 0]++[.int 0])),a,b,lm (.str m),y,c,lm (.int k),lm (.str s)]):=by
 obtain⟨s1,s2⟩:=qlu s hs;obtain⟨⟨l⟩⟩:=x;have hl:l.length<=900:=hx;have e1:=qls (l:=l) 'b' k;have i:=qlt (l:=l) 'b' (k+j);rw[show((k+j:Nat):Int)=(k:Int)+(j:Int) by lia]at i;have hA:(⟨⟨l.take k⟩⟩:Str).length=min k l.length:=bb ..;have B:(⟨⟨l.drop (k+j)⟩⟩:Str).length=l.length - (k+j):=cm ..;have q:ko (.str ⟨⟨l.take k⟩⟩) (.str s)=.ok (.str (⟨⟨l.take k⟩⟩++s)):=Aa (qJ (by rw[hA];lia));have o:ko (.str (⟨⟨l.take k⟩⟩++s)) (.str ⟨⟨l.drop (k+j)⟩⟩)=.ok (.str (⟨⟨l.take k⟩⟩++s++⟨⟨l.drop (k+j)⟩⟩)):=Aa (qJ (by rw[l7,hA,B];lia));have z:ko (.int k) (.int j)=.ok (.int ((k:Int)+j)):=rfl;have d:kO (.str ⟨⟨l⟩⟩)=.ok (.int l.length):=rfl;have h:ko (.int l.length) (.int 1)=.ok (.int ((l.length:Int)+1)):=rfl;refine⟨⟨⟨l.take k⟩⟩++s++⟨⟨l.drop (k+j)⟩⟩,?_,?_,?_⟩
 .rw[l7,l7,hA,B];show _<=l.length+2
  lia
 .rw[bR,bR,ip,ip,dA,dA];show(l.take k).count 32+s.cps.toList.count 32+(l.drop (k+j)).count 32<=l.count 32+2;have h1:l.count 32=(l.take k).count 32+(l.drop k).count 32:=by rw[<-dA,cB]
  have h2:(l.drop (k+j)).count 32<=(l.drop k).count 32:=by rw[<-fS];exact(List.drop_sublist ..).count_le _
  lia
 .have h1:r [S,.lst t,.int ((l.length:Int)+1)]=_:=h1;generalize (⟨⟨l.take k⟩⟩++s++⟨⟨l.drop (k+j)⟩⟩:Str)=X3 at *;generalize (⟨⟨l.take k⟩⟩++s:Str)=X2 at *;generalize (⟨⟨l.take k⟩⟩:Str)=X1 at *;generalize (⟨⟨l.drop (k+j)⟩⟩:Str)=X4 at *;generalize (⟨⟨l⟩⟩:Str)=X at *;generalize (PT.map D.str)=M at *;generalize t++[D.int 0]=t1 at *;generalize t1++[D.int 0]=t2 at *;generalize t2++[D.int 0]=t3 at *;generalize (l.length:Int)=n at *;generalize n+1=n1 at *;generalize (k:Int)=k' at *;generalize (j:Int)=j' at *;simp[d,h,h1,hp,h2,yH,wq,e1,q,z,g,i,o]
theorem qcq(n:List Int){a b c:Option D}:∀(ds:List D)(t:List D)(x:Str)(y e f:Option D),t.length+3 * ds.length<900->x.length+2 * ds.length<=900->∃(t':List D)(m:Str)(p h g:Option D),t'.length=t.length+3 * ds.length/\m.length<=x.length+2 * ds.length/\m.cps.toList.count 32<=x.cps.toList.count 32+2 * ds.length /\
  jU (gNm 5) (mtB vg uc (xq aP)) ds [lm (scr n),lm (.lst t),a,b,lm (.str x),y,c,e,f]=.ok (.nx,[lm (scr n),lm (.lst t'),a,b,lm (.str m),p,c,h,g])
 |[],t,x,y,e,f,_,_=>⟨t,x,y,e,f,by simp,by simp,by simp,rfl⟩
 |d::ds,t,x,y,e,f,ht,hx=>by rw[ah]at ht hx;obtain⟨k,k0,_,g1⟩:=ur n t (many:=(x.length:Int)+1) 'b' 'b';obtain⟨u,l,W⟩:=KH n (t++[.int 0]) (PT.map D.str) (by simp[PT]) (by simp;lia);obtain⟨s,hs,rfl⟩:=aw.mp l;obtain⟨j,o,_,U⟩:=ur n (t++[.int 0]++[.int 0]) (many:=2) 'b' (by simp;lia);obtain⟨k,rfl⟩:=dL k0;obtain⟨j,rfl⟩:=dL o;obtain⟨B,p1,p2,st⟩:=qht qlv (a:=a) (b:=b) (c:=c) (y:=lm d) (e:=e) (f:=f) 'b' g1 W U hs;obtain⟨t',m,p,h,g,q,v,r,i⟩:=qcq n (a:=a) (b:=b) (c:=c) ds (t++[.int 0]++[.int 0]++[.int 0]) B (lm d) (lm (.int k)) (lm (.str s)) (by simp;lia) 'b';rw[am,am,am]at q;refine⟨t',m,p,h,g,by simp at q ⊢;lia,by rw[ah];lia,by rw[ah];lia,?_⟩;exact(fnx (ρ1:=[lm (scr n),lm (.lst t),a,b,lm (.str x),lm d,c,e,f]) rfl st).trans i
theorem qmz(h:KI w):(32:Nat)∉w.cps.toList:=λz=>by
 have:=(h.2.2 32 z).1
 lia
theorem qlw:eqD RF RF=.ok (.bl lv):=KO (zW λd hd=>by
 rcases af.mp hd with rfl|hd;·exact XU _ _
 .rw[ay.mp hd];exact qb8 _ _)
theorem qjH(hca:qgO ca)(d:List Int):qgI ca [scr d]=.ok (.bl lv,[.non]):=by
 refine qo.trans ?_;obtain⟨m,m0,m3,C⟩:=ur d [] (many:=3) 'b' 'f';obtain⟨p,q,i,hl,y,g1⟩:=qgM d ([]++[.int 0]) 'f';obtain⟨V,e,l,_,U,g2⟩:=qdT d i (by simp at y;lia);obtain⟨m,rfl⟩:=dL m0;obtain⟨c1,l1,_,n1,_⟩:=zo hl.1.1 hl.1.2;obtain⟨c2,l2,_⟩:=zo hl.2.1 hl.2.2;have I:(aa ":").length=1:=by decide +kernel
 have Z:(txI q++aa ":").length<=3:=by rw[l7,I];lia
 have F:=l.2.1;obtain⟨W,j2⟩:=qci (t:=txI p) (ws:=(txI q++aa ":")::V) 'b' (λw hw=>by
  rcases af.mp hw with rfl|hw
  .lia
  .exact(l.2.2.2 w hw).2.1) (by rw[ah];lia)
 have s:(jw (txI p) ((txI q++aa ":")::V)).cps.toList.count 32<=7:=by
  rw[kM,dA,fH.mpr n1,(qco _).2 λw hw=>?_,ah]
  .lia
  .rcases af.mp hw with rfl|hw;·exact(qeW hl.2.1 hl.2.2).2
   .exact qmz (l.2.2.2 w hw)
 simp only[ij,d6]at y C g1;obtain⟨H,P,g,r,o,R,Q,M,lp⟩:=qcq d (a:=lm (.int m)) (b:=lm (Ld p q)) (c:=lr) ((aB m).map λ(j:Nat)=>D.int j) e (jw (txI p) ((txI q++aa ":")::V)) lr lr lr (by simp;lia) (by simp;lia);simp only[aq,bD]at R Q M;obtain⟨u,S,g4⟩:=KH d H OD (by simp[OD]) 'b';obtain⟨b,k1,k2⟩:=qeX hca (x:=P) 'b' 'b';have k3:=qhs hca u S;have Y:=iR1 (f:=qc 2) (ρ:=[lm (scr d),lm (.lst e),lm (.int m),lm (Ld p q),lm (.str (jw (txI p) ((txI q++aa ":")::V))),lr,lr,lr,lr]) (ρ1:=[lm (scr d),lm (.lst e),lm (.int m),lm (Ld p q),lm (.str (jw (txI p) ((txI q++aa ":")::V))),lr,lr,lr,lr]) (n:=m) rfl 'b';have z:12<=Z8:=qJ 'b';have N:2<=Z8:=qJ 'b';have G:=qlw;unfold qgH;rw[show qr qgG [scr d]=[lm (scr d),lr,lr,lr,lr,lr,lr,lr,lr]from rfl];refine(qy (ρ1:=[lm (scr d),lm (.lst []),lr,lr,lr,lr,lr,lr,lr]) 'f').trans ?_;refine(qy (ρ1:=[lm (scr d),lm (.lst [.int 0]),lm (.int m),lr,lr,lr,lr,lr,lr]) (by generalize (m:Int)=m' at *;simp[C])).trans ?_;refine(qy (ρ1:=[lm (scr d),lm (.lst i),lm (.int m),lm (Ld p q),lr,lr,lr,lr,lr]) (by have g1:Kk [scr d,.lst [.int 0]]=.ok (Ld p q,[.non,.lst i]):=g1;generalize (m:Int)=m' at *;generalize Ld p q=L at *;simp[g1])).trans ?_;refine(qy (ρ1:=[lm (scr d),lm (.lst e),lm (.int m),lm (Ld p q),lm (.str (jw (txI p) ((txI q++aa ":")::V))),lr,lr,lr,lr]) (by have a0:ixD (Ld p q) (.int 0)=.ok (.int p):=rfl;have a1:ixD (Ld p q) (.int 1)=.ok (.int q):=rfl;have E:qep (.int p)=.ok (.str (txI p)):=Aa c1;have v:qep (.int q)=.ok (.str (txI q)):=Aa c2;have d3:ko (.str (txI q)) (.str (aa ":"))=.ok (.str (txI q++aa ":")):=Aa (qJ (by rw[I];lia));have k:Um (.tup (V.map D.str))=.ok (.lst (V.map D.str)):=rfl;have h:ko (.lst [.str (txI p),.str (txI q++aa ":")]) (.lst (V.map D.str))=.ok (.lst ((txI p::(txI q++aa ":")::V).map D.str)):=Aa (qJ (by rw[aq];simp;lia));generalize D.lst ((txI p::(txI q++aa ":")::V).map D.str)=J at *;generalize jw (txI p) ((txI q++aa ":")::V)=X at *;generalize txI q++aa ":"=T at *;generalize D.lst (V.map D.str)=WL at *;generalize D.tup (V.map D.str)=WT at *;generalize (m:Int)=m' at *;generalize Ld p q=L at *;generalize txI p=A at *;generalize txI q=B at *;simp[a0,a1,E,v,d3,N,g2,k,h,W])).trans ?_;refine(qy (ρ1:=[lm (scr d),lm (.lst H),lm (.int m),lm (Ld p q),lm (.str P),g,lr,r,o]) (by rw[vL,Y,ky];exact lp)).trans ?_;generalize D.int (m:Int)=m' at *;generalize Ld p q=L at *;refine(qy (ρ1:=[lm (scr d),lm (.lst H),lm m',lm L,lm (.str P),g,lm (.lst OD),r,o]) (by have K:1<=Z8:=qJ 'b';simp[z,K,OD])).trans ?_;generalize OD=O at *;refine(qy (ρ1:=[lm (scr d),lm (.lst (H++[.int 0])),lm m',lm L,lm (.str P),g,lm u,r,o]) (by simp[g4])).trans ?_;have ex:eqD (.str P) (.str P)=.ok (.bl lv):=KO (XU _ _);cases b with
 |true=>simp[k1,k2,k3,N,G,ex]
 |false=>simp[k1,k2,k3,N,G]
end Kx
namespace Kx
open PySem PySem.Spec PyProof.Rows L2 L2.D2
variable{x:Str}
theorem qcr{l:List Str}{f:Str->Z7}(nd:(l.map f).Nodup){y:Str}(hx:x∈l)(B:y∈l)(e:f x=f y):x=y:=by obtain⟨i,hi,rfl⟩:=et.mp hx;obtain⟨j,D,rfl⟩:=et.mp B;have q:=(iT (h₀:=by simpa using hi) (h₁:=by simpa using D) nd).mp (show(l.map f)[i]'(by simpa using hi)=(l.map f)[j]'(by simpa using D) by simpa using e);subst q;rfl
noncomputable def caK(K:Y9)(x:Str):Z7:=match nsIn K lJ x with
 |some (lm (.ref a))=>a
 |_=>0
def qhu(K:Y9)(Cs:List Z7)(W:Z7):Bool:=decide Cs.Nodup&&Cs.all λc=>xcB K c&&decide (dH K (.ref c) (.ref W)=lm lv)&&decide (c6 K (.ref c) (.type "ValueError")=lm lv)&&cg K c bmV "ValueError.__new__"&&Cs.all λd=>decide (c6 K (.ref c) (.ref d)=lm (decide (c=d)))
noncomputable def ZS:List Str:=["ValueError","all","bool","dict","enumerate","int","isinstance","len","list","max","min","range","set","sorted","str","sum","tuple"]
noncomputable def XL:List Str:=["WordError","Words"]
noncomputable def kCT:List (Str×Int):=[("LEAST_PLACE",-3),("MOST_LETTERS",6),("MOST_PLACE",2),("MOST_ROOM",99),("MOST_WORDS",6)]
def zB(K:Y9):Bool:=ZS.all (λx=>decide (nsIn K lJ x=lm lr))&&(XL++CS).all (λx=>decide (nsIn K lJ x=lm (lm (.ref (caK K x)))))&&kCT.all λp=>match nsIn K lJ p.1 with
 |some (lm (.int i _))=>decide (i=p.2)
 |_=>lw
noncomputable def bB(K:Y9)(C:Z7):Bool:=eJ K C ba&&fK K C&&iF K C&&decide (bO K (.ref C) "__setattr__"=lm (lm (.builtin "object.__setattr__")))&&(["look","came","width","held"]:List Str).all λf=>decide (bO K (.ref C) f=lm lr)
variable{K:Y9}{h:Z5}{mg:Str->Option lu}
set_option tactic.hygienic true in
theorem qlx(X:K.In h)(G:h.Ns lJ mg)(b:zB K=lv)(ex:qhu K (CS.map (caK K)) (caK K "WordError")=lv)(hb:bB K (caK K "Words")=lv)  : Zt K mg (λx=>.ref (caK K x)) (caK K)/\qgO (caK K):=by
 simp only[zB,qhu,bB,aO,decide_eq_true_eq,aW,iX,iL]at b ex hb;obtain⟨nd,al⟩:=ex;have inj:qgO (caK K):=λx hx y B e=>qcr nd hx B e;have z:∀{x},x∈ZS->mg x=none:=λhx=>mg_none_of X G (b.1.1 _ hx);have m:∀{x},x∈XL++CS->mg x=lm (.ref (caK K x)):=λhx=>mg_of X G (b.1.2 _ hx);have k:∀{x i},(x,i)∈kCT->∃t,mg x=lm (.int i t):=λ{x i} hx=>by
  have q:=b.2 _ hx;split at q;·rename_i e;cases Ae q;exact⟨_,mg_of X G e⟩
  .cases q
 exact⟨⟨⟨λc a=>rfl,λc a=>(al c a).1.1.1.2,λc a=>(al c a).1.1.1.1,λc a d hd=>(al c a).2 d hd,λc a=>(al c a).1.1.2⟩,λc a=>m (aH _ a),λc a=>(al c a).1.2,λx hx=>absurd hx (by simp[FS]),m 'a',z 'a',z 'a',z 'a',z 'a',z 'a',z 'a',z 'a',z 'a',z 'a',z 'a',z 'a',z 'a',z 'a',z 'a',z 'a',z 'a',z 'a',k 'a',k 'a',k 'a',k 'a',k 'a',m 'a',⟨hb.1.1.1.1,hb.1.1.1.2,hb.1.1.2,hb.1.2⟩,hb.2,inj⟩,inj⟩
def qea(K:Y9):Sp:=λvs H Q _=>∃(a:Z7)(ns:List Int),vs=[.ref a]/\SqL K H a (ns.map V.int)/\∀H',Q (.bl lv) H'
theorem XZ{F:Hp}:∀ns:List Int,IsL K F (ns.map V.int) (ns.map D.int)
 |[]=>.nil
 |n::ns=>.cons (.int n) (XZ ns)
theorem qly{cv:Str->lu}{ca:Str->Z7}(h:qgO ca)(vs:List V)(H:Hp)(Q:VK)(E:XK)(q:qea K vs H Q E):spD K cv [.val] .sh (qgI ca) vs H Q E:=by obtain⟨a,ns,rfl,hs,hq⟩:=q;refine⟨H,[scr ns],Same.refl _,⟨.lst hs (XZ ns),trivial⟩,dI,?_⟩;rw[qjH h ns];intro v F' H' o m z y;have y:Is K F' v (.bl lv):=y;cases y;exact hq H'
abbrev NsX(K:Y9)(x:Str)(f:Z7):Prop:=nsIn K lJ x=lm (lm (.ref f))
abbrev CdX(K:Y9)(v:lu)(x:Str):Prop:=codeIn K v x=lv
abbrev KpX(K:Y9)(f:Z7):Prop:=nV K (.ref f)=lv
abbrev LkX(K:Y9)(x q:Str)(st:Z3)(f:Z7)(oc:lu)(od an:Option Z7)(sl:Array (Option lu))(kV d pm cd ct:lu):Prop:=K.lookup f=lm ⟨oc,od,.func (cU x q (xp st) (jZ st) (qB st) .none kV d pm an cd ct),sl⟩
abbrev BdX(x q:Str)(st:Z3)(ps:List Str):Prop:=∀(kV doc pm:lu)(an:Option Z7)(cdv ct:lu)(us:List lu),us.length=ps.length->bindArgs (cU x q (xp st) (jZ st) (qB st) .none kV doc pm an cdv ct) ⟨us,[]⟩=pure (ps.zip us)
def AlV:Nat->(List lu->Prop)->Prop
 | 0,P=>P []
 |n+1,P=>∀a,AlV n λl=>P (a::l)
variable{n:Nat}
theorem alV{us:List lu}{P:List lu->Prop}(e:us.length=n)(h:AlV n P):P us:=by
 induction us generalizing n P with
 |nil=>subst e;exact h
 |cons a l j=>subst e;exact j (P:=λl=>P (a::l)) rfl (h a)
local macro_rules | `(tactic|sleep 77) => `(tactic|(intro _ _ _ _ _ _ us hl;refine alV (P := fun us => bindArgs _ ⟨us, []⟩ = pure (List.zip _ us)) hl ?_;(repeat intro _);exact rfl))
def Dx(K:Y9)(x:Str)(st:Z3):Prop:=∃(f:Z7)(oc:lu)(od an:Option Z7)(sl:Array (Option lu))(kV d pm cd ct:lu),NsX K x f/\LkX K x x st f oc od an sl kV d pm cd ct/\CdX K cd x/\KpX K f
variable{st:Z3}{ps:List Str}
theorem jf(X:K.In h)(G:h.Ns lJ mg)(q:Dx K x st)(hb:BdX x x st ps:=by sleep 77):qiz K mg x st ps:=by obtain⟨f,oc,od,an,sl,kV,d,pm,cd,ct,a,l,c,k⟩:=q;exact⟨f,_,zT l c k,mg_of X G a,(zT l c k).binds hb⟩
def Dm(K:Y9)(C:Z7)(x q:Str)(st:Z3):Prop:=∃(f:Z7)(oc:lu)(od an:Option Z7)(sl:Array (Option lu))(kV d pm cd ct:lu),bO K (.ref C) x=lm (lm (.ref f))/\LkX K x q st f oc od an sl kV d pm cd ct/\CdX K cd q/\KpX K f/\iW K (.ref f)=lv
variable{C:Z7}{q:Str}
theorem qhv(d:Dm K C x q st)(hb:BdX x q st ps:=by sleep 77):qa0 K C x q st ps:=by obtain⟨f,oc,od,an,sl,kV,b,pm,cd,ct,a,l,c,k,i⟩:=d;exact⟨f,_,zT l c k,⟨a,i,k⟩,(zT l c k).binds hb⟩
theorem qlz(d:Dm K C "__init__" q st)(y:ig K C=lv)(z:nV K (.ref C)=lv)(hb:BdX "__init__" q st ps:=by sleep 77):qf9 K C q st ps:=by obtain⟨f,oc,od,an,sl,kV,b,pm,cd,ct,a,l,c,k,i⟩:=d;exact⟨f,_,zT l c k,⟨y,a,i,z⟩,(zT l c k).binds hb⟩
set_option maxHeartbeats 0 in
theorem qjI{l:i7}{w:lD}{fa:Z7}(X:K.In h)(G:h.Ns lJ mg)(hfa:mg "law"=lm (.ref fa))(hz:zB K=lv)(ex:qhu K (CS.map (caK K)) (caK K "WordError")=lv)(hb:bB K (caK K "Words")=lv){C:Z7}(aC:NsX K "Words" C)(q0:Dx K "_law_cell_at" Ji)(q1:Dx K "_law_mixed" Xo)(q2:Dx K "_law_draw" qbm)(q3:Dx K "_law_pick" qbo)(q4:Dx K "_law_word" qbq)(q5:Dx K "_law_words" Xr)(q6:Dx K "_law_look" qbt)(q7:Dm K C "words" "Words.words" wu)(q8:Dx K "list_text" gI)(q9:Dx K "check_text" xP)(q10:Dx K "is_letter" gK)(q11:Dx K "is_word" Wj)(q12:Dx K "is_words" Jj)(q13:Dx K "check_words" yV)(q14:Dx K "is_between" xQ)(q15:Dx K "is_look" Wl)(q16:Dx K "check_look" xS)(q17:Dx K "letter_at" gN)(q18:Dx K "pairs" qbx)(q19:Dx K "check_room" xV)(q20:Dx K "is_worth" Jm)(q21:Dx K "is_worths" gQ)(q22:Dx K "check_worths" uU)(q23:Dx K "letters_of" xY)(q24:Dx K "within" Xw)(q25:Dx K "numbered" Jo)(q26:Dx K "are_alike" gU)(q27:Dx K "clash_of" Jq)(q28:Dx K "is_loose" Js)(q29:Dx K "bound_pairs" yZ)(q30:Dx K "unshared" Ju)(q31:Dx K "contrasts_of" uY)(q32:Dx K "may_differ" zb)(q33:Dx K "with_worth" ze)(q34:Dx K "can_be_filled" jW)(q35:Dx K "can_differ" zg)(q36:Dx K "least_worths" ya)(q37:Dx K "room_from" Qb)(q38:Dx K "check_word" zj)(q39:Dm K C "check_new" "Words.check_new" ki)(q40:Dm K C "come" "Words.come" um)(q41:Dm K C "__init__" "Words.__init__" kJ)(y1:ig K C=lv)(y2:KpX K C)(q42:Dx K "number_in" Qe)(q43:Dx K "look_in" Wy)(q44:Dx K "words_in" Jy)(q45:Dx K "list_of" Qh)(q46:Dx K "_law_which" KB)(q47:Dx K "_law_ask" qbC)(q48:Dx K "_law_at" qi7)(q49:Dx K "_law_seen" qbG)(q50:Dx K "_law_good" qbJ)(q51:Dx K "law" qdR) :
  ∃fd:mD,(∀(s:lx)(v:lu),oC s fd ⟨[v],[]⟩ [("_law_script",v)])/\∀base:Z5,K.In base->base.Ns lJ mg->FnOk l.prog w K mg base (CXk l.prog w mg) 22 fa fd ["_law_script"] (qea K):=by
 obtain⟨f,_,_,_,_,_,_,_,_,_,b,la,d,k⟩:=q51;have e:=hfa.symm.trans (mg_of X G b);cases e;obtain⟨Z,cok⟩:=qlx X G hz ex hb;have F:=zT (st:=qdR) la d k;have eC:caK K "Words"=C:=by simp only[caK,aC]
 subst eC;refine⟨?f,?x,λbase _ _=>?y⟩
 case y=>
  have Z:ZtE ⟨l.prog,w,K,mg,base,_⟩ _:=Z;have o_Lcell_at:=UL Z (jf X G q0);have o_Lmixed:=qbl Z (jf X G q1) o_Lcell_at;have a:=qdI Z (jf X G q2) o_Lmixed;have I:=qdJ Z (jf X G q3) a;have o_Lword:=qdK Z (jf X G q4) a I;have o_Lwords:=qbs Z (jf X G q5) a I o_Lword;have o_Llook:=qdM Z (jf X G q6) a;have D:=QH Z (qhv q7);have U:=Wg Z (jf X G q8) D;have O:=Kl Z (jf X G q9);have i:=Wi Z (jf X G q10);have z:=ZQ Z (jf X G q11) i;have o_is_words:=UO Z (jf X G q12) z;have A:=QI Z (jf X G q13) o_is_words;have n:=Kn Z (jf X G q14);have o_is_look:=ZT Z (jf X G q15) n;have c:=Ko Z (jf X G q16) o_is_look;have V:=Wo Z (jf X G q17);have o_pairs:=qdN Z (jf X G q18) A c V;have P:=Kq Z (jf X G q19) n;have o_is_worth:=UQ Z (jf X G q20) n i;have W:=Wq Z (jf X G q21) o_is_worth;have u:=gS Z (jf X G q22) W;have o:=Kr Z (jf X G q23);have o_within:=qbz Z (jf X G q24);have o_numbered:=US Z (jf X G q25) P u o_pairs o o_within;have Y:=Wt Z (jf X G q26);have o_clash_of:=UU Z (jf X G q27) Y;have L:=QK Z (jf X G q33);have o_is_loose:=UV Z (jf X G q28);have B:=QL Z (jf X G q29) o_is_loose;have o_unshared:=UW Z (jf X G q30);have t:=gZ Z (jf X G q31) o_unshared;have M:=Ku Z (jf X G q32);have J:=Kv Z (jf X G q33);have m:=zw Z (jf X G q34) M J;have r:=Kw Z (jf X G q35) o B t m;have p:=Qa Z (jf X G q36) o L r;have S:=Wv Z (jf X G q37) r;have N:=Ky Z (jf X G q38) z;have g:=xg Z (qhv q39) N;have R:=KA Z (qhv q40) o_pairs o_numbered o_clash_of p S g;have j:=xF Z (qlz q41 y1 y2) c;have T:=Wx Z (jf X G q42);have o_look_in:=ZY Z (jf X G q43) T;have o_words_in:=UY Z (jf X G q44);have o_list_of:=Ga Z (jf X G q45) O R j o_look_in o_words_in;have o_Lwhich:=qbB Z (jf X G q46);have o_Lask:=qgF Z (jf X G q47) U o_list_of o_Lwhich;have o_Lat:=qi8 Z (jf X G q48);have o_Lseen:=qdP Z (jf X G q49) o_Lat;have o_Lgood:=qdQ Z (jf X G q50) o_Lseen;exact(qjb Z F a I o_Lwords o_Llook o_Lask o_Lgood).imp λvs H Q E q=>qly cok vs H Q E q
 exact λs v=>.of_eq rfl
variable{d:DefRec}
theorem qeb{l:i7}{k:Nat}{q:lC}{loose:List Str}{XP:(Str->Option lu)->Z5->Prop}{YP:lD->Z5->Prop}{K:nM->Y9}{CX:lD->(Str->Option lu)->CXT}{sp:lD->Sp}{x:Str}(A:l.most=lm n)(r:n<=Z8)(hdf:d.params.defaults=[])(z:Room k oG)(C:∀(w:lD)(h:Z5),YP w h->(K w.params).In h)(F:∀(w:lD)(mg:Str->Option lu)(fa:Z7)(h:Z5),(K w.params).In h->h.Ns lJ mg->mg d.name=lm (.ref fa)->∃fd:mD,(∀(s:lx)(u:lu),oC s fd ⟨[u],[]⟩ [(x,u)])/\∀base:Z5,(K w.params).In base->base.Ns lJ mg->FnOk l.prog w (K w.params) mg base (CX w mg) k fa fd [x] (sp w))(p:∀(w:lD)(H:Hp)(a:Z7)(ns:List Int),ns.length<=n->qkx H->SqL (K w.params) H a (ns.map V.int)->sp w [.ref a] H (λv _=>v=.bl lv) λ_ _ _=>False)(X:∀(w:lD)(mg:Str->Option lu)(H:Hp)(s:lx)(e:lu)(s':lx),CX w mg [] H s (λ_ _ _=>False) e s'->False) :
  PySem.W.WalkO q loose XP YP l.row.toRowW d [] (λf vs=>li f vs):=by
 refine Att.attach_call A hdf λw s₀ j mg mb fa o pm cd doc a vs ns G Y E hd B t m i c hg=>?_;have y:=C w _ Y;obtain⟨fd,hb,D⟩:=F w mg fa _ y G.T.g t;exact qcL y G.T.g G.T.b G.T.builtins G.T.nolimit hg m i (bn c r) z D hb (λH O S=>p w H a ns c O S) λH e s'=>X w mg H j e s'
theorem qmA{l:i7}{q:lC}{loose:List Str}{XP:(Str->Option lu)->Z5->Prop}{YP:lD->Z5->Prop}{K:nM->Y9}(b:l.most=lm 63)(hdf:d.params.defaults=[])(c:∀(w:lD)(h:Z5),YP w h->(K w.params).In h)(F:∀(w:lD)(mg:Str->Option lu)(fa:Z7)(h:Z5),(K w.params).In h->h.Ns lJ mg->mg d.name=lm (.ref fa) ->∃fd:mD,(∀(s:lx)(u:lu),oC s fd ⟨[u],[]⟩ [("_law_script",u)])/\∀base:Z5,(K w.params).In base->base.Ns lJ mg->FnOk l.prog w (K w.params) mg base (CXk l.prog w mg) 22 fa fd ["_law_script"] (qea (K w.params))) :
  PySem.W.WalkO q loose XP YP l.row.toRowW d [] (λf vs=>li f vs):=
 qeb (n:=63) (k:=22) (x := "_law_script") (CX:=λw mg=>CXk l.prog w mg) (sp:=λw=>qea (K w.params)) b 'e' hdf ⟨rfl,by decide,by decide⟩ c F (λ_ _ a ns hl _ S=>⟨a,ns,rfl,S,λ_=>rfl⟩) λw mg H s e s' z=>by obtain⟨ex,T,C,H',_,_,_,_,_,_,_,_,_,_,q⟩:=z;exact q.elim
end Kx
open PySem PySem.W PyProof.Rows
set_option maxRecDepth 100000 in
set_option maxHeartbeats 0 in
theorem PySem.Challenge.cw_lookwords_k29_lists_texts_refused_holds : PySem.Challenge.rw_lookwords_k29_lists_texts_refused.Holds := by
  refine Kx.hd ?_;k_fill
  refine Kx.qmA (l := PySem.Challenge.rw_lookwords_k29_lists_texts_refused) rfl rfl (λw h Y => PySem.W.kIn_of Y) ?F
  case F =>
    intro w mg fa h X G g;apply Kx.qjI X G g;all_goals try first|k_is|(unfold Kx.NsX;k_is)|exact⟨_, _, _, _, _, _, _, _, _, _, by unfold Kx.NsX;k_is, by unfold Kx.LkX;k_is, by unfold Kx.CdX;k_is, by unfold Kx.KpX;k_is⟩|exact⟨_, _, _, _, _, _, _, _, _, _, by k_is, by unfold Kx.LkX;k_is, by unfold Kx.CdX;k_is, by unfold Kx.KpX;k_is, by k_is⟩|(unfold Kx.KpX;k_is)|kernel_rfl
