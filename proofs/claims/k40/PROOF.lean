import PyProof.Rows.All
import KE.KDictOf
import KE.KIsAll
import KE.KSortTup
import KE.KItemsList
import PySem.Challenge.RW_lookwords_k40_whole_again_and_kept
open Option renaming some->iw,none->iB
open PySem renaming wpAny_bind->iA,Value->iC,Shared->iF,wpAny_pure->iG,wpAny->iH,starEach->iI,bootBuiltins->iJ,Program->iK,World->iL,sizeLine_eq->iM,compareOp->iN,wpAny_callSpecial?_slot->iO,mainGlobals->iP,wpAny_call_entry->iQ,wpAny_holding->iR,wpAny_newObj_type->iS,Around->iT,wpAny_seqItems->iU,wpAny_field->iV,IsPair->iW,rawInt->iX,attributeBase->iY,codeAny_builtin->iZ,wpAny_Call_Name_kw->i0,wpAny_askSetting->i5,wpAny_truthy_bool->i6,wpAny_setState_of->i7,binaryOp->i8,builtinLookup_eq_fast->i9,backTo->j0,assignEach->j4,wpAny_setField_rec->j5,wpAny_attempt->j6,pyNext->j7,keywordEach->j8,foldedSetIterable->j9,sysModules->lb,cLine->lc,OsState->lf,swapsWith->lh,wpAny_isInstance->li,wpAny_setField->lj,wpAny_passesOwn->lm,plainId_quiet->lp,codeAny->lq,Keyword->lr,wpAny_setEntries_of->lu,NameKind->lv,wpAny_rule->lw,wpAny_pyIter_tuple->lx,typeLookup_type->ly,wpAny_updateSeq->lz,FuncData->lA,backToKw->lB,firstArgMember->lC,swapsWithSole->lE,swappedStores->lF,behindInMarks->lG,importedModules->lH,wpAny_mono->lI,call_meets->lJ,tupleKind_room_in1->lK,getattributeRaised->lL,treeTable->lM,sliceBounds->lN,pickOrder->lO,codeAny_mono->lP,wpAny_pyIter_list->lQ,wpAny_typeOf->lR,SetTable->lS,fits_of_scanBound->lT,isSubtype_type->lU,Draws->lV,IsZip->lW,Scope->lX,wpAny_execs_nil->lY,letOwnedTupleGo->lZ,wpAny_loadPart'->l4,standAt->l6,scanBound->l7,Params->l8,wpAny_fieldsOf->l9,isSubtype_stop->mf,setsByText->mh,wpAny_newTuple->mi,assignInOrder->mj,wpAny_standAt->ml,wpAny_onRaise->mm,getMethod->mn,relayAll->mq,updateSeq->my,builtinsNs->mB,concat_meets->mD,typeLookup->mE,setNext->mF,wpAny_of_eq->mH,wpAny_letGo->mI,DictEntry->mJ,tupleKind->mK,PassesOwn->mL,callerA->mM,valueAt->mN,Paired->mP,pyIter->mQ,Result->mR,setEntries->mS,GenState->mT,BindsTo->mU,getAttr?->mV
open Bool renaming true->iD,false->iE
open PyProof.Rows renaming seqObj->lg,envOfC->l0,AllBare->l5
open PySem.W renaming boot_heap->ll,behindTheImports->lD,boot_drawn->mz,keepIn->mC,topFrame->mG,looseW->mO
open PySem.Heap renaming get?_push_of_some->aa,get?_push_size->af,lt_size->aw,get?_update_self->aV,size_push->aX,SameBut->bh,get?_update_other->bu,get?_push_ne->eu,ExtBut->g9
open PySem.Str renaming ofString->ab,length->hZ
open List renaming mem_cons->ac,mem_cons_of_mem->ae,length_map->ah,getElem?_set_ne->ai,size_toArray->aj,length_append->am,length_cons->ap,mem_cons_self->au,mem_map->ay,getElem?_eq_some_iff->aA,getElem?_set_self->aB,map_cons->aD,getElem?_eq_getElem->aG,all_eq_true->aI,getElem?_map->aJ,range->aK,mem_singleton->aN,length_nil->aR,replicate->aS,not_mem_nil->aY,nodup_cons->ba,mem_append_right->be,mem_append->bf,map_map->bp,mem_range->bq,append_nil->bv,nodup_nil->bw,getElem?_eq_none->bA,getElem?_cons_succ->bE,getElem?_cons_zero->bG,map_nil->bI,lookup_cons->bJ,lookup->bM,length_range->bN,foldl_cons->bO,pairwise_cons->bQ,getD_eq_getElem?_getD->bW,replicate_succ->bX,length_set->bZ,nil_append->ck,length_take->cu,getElem?_append_right->cy,length_replicate->cA,length_filter_le->cC,getElem?_append_left->cD,of_mem_zip->cF,append_assoc->cI,flatten_cons->cJ,all_cons->cL,filter_eq_self->cQ,replicate_zero->cR,getElem_mem->cS,pairwise_singleton->cU,zipWith->c9,find?_cons->db,map_append->de,any_cons->dg,length_singleton->dh,nodup_append->dm,mem_of_getElem?->dA,all_map->dD,toArray->dF,cons_append->dG,drop_eq_getElem_cons->dH,filterMap_cons->dJ,mem_filter->dO,forIn_cons->dQ,getElem?_replicate->dX,ext_getElem?->et,getElem?_toArray->eG,mem_iff_getElem?->eI,cons_lt_cons_iff->eJ,mem_append_left->ff,length_pos_iff->fm,mem_filterMap->fA,forIn_nil->fF,zip_cons_cons->fG,set_cons_zero->fH,set_cons_succ->fI,length->fM,flatMap_cons->fP,drop_length->fU,mem_flatMap->fW,filter_map->f9,map_id'->ig
open Nat renaming le_refl->aq,ne_of_lt->ax,lt_of_lt_of_le->aH,zero_le->aZ,le_trans->bb,lt_irrefl->bS,le_add_right->ce,lt_succ_of_lt->cg,le_of_lt->cm,ne_of_gt->cq,lt_trans->cr,le_of_not_lt->cw,not_lt_zero->dR,lt_succ_self->eZ,le_of_eq->fq,zero_add->fy,sub_self->fz,lt_or_eq_of_le->fE,le_succ->ip
open Option renaming some->aL,map_eq_some_iff->aP,bind_eq_some_iff->cf,isSome_map->fN
open PySem.Value renaming ref->aM,none->bK,isStrOf_shape->cO,bool->cW,str->df,type->dw,int->dU,isInt->e8,isStrOf->fQ
open Bool renaming and_eq_true->aO,false_ne_true->b8,false_eq_true->b9,and_eq_true_iff->du,not_eq_true'->em
open PySem.Builtin.SmallTypes renaming nextOf->aQ,ownedTupleIsFree->aT
open PySem.PassesOwn renaming leaving->aU
open Ne renaming symm->aW
open Array renaming getElem?_eq_getElem->bg,length_toList->bm,getElem?_eq_none->bU,getElem?_toList->cB,toList_push->fO,getD->fY,mk->g8
open Or renaming inl->bj,inr->dj
open PySem.Heap.SameBut renaming update->bn
open PySem.Obj renaming mapSeq->br,putSet->h7
open PySem.Around renaming under_plainId->bt,under->ib
open PySem.Builtin.Frozenset renaming updateFrom->bx
open PySem.NameKind renaming free->bz
open PySem.F renaming slot_zip_next->bC,called_set->bP,slot_tuple_iterator_next->bV,plain_extend_loop->b4,args_zip_next_1->cV,entry_zip_next->c8,slot_tuple_getattribute->dI,args_tuple_add_2->dL,slot_list_getattribute->dN,entry_tuple_add->dY,plainAttrs_list->dZ,slot_tuple_add->d9
open PyProof.Rows renaming callWith_type1->bD
open PySem.W renaming findIn->bH,emptyDict->bL,hideAll->bY,instObj->ci,kia_one->cG,fnOf->cY,plainGet->dB,makesIn->dP,hasDictIn->d8,hideAll_none->e9,hideAll_get->fj,plainGet_of->fk,lookIn->fB,callWith_K->fD,methodObj->fJ,plainOver->fK,isFn->fX,takerIn->fZ,OpenLaw->f7
open PySem.Builtin.List renaming listExtendWith->bR,listTooLong->cK,listSameRef->cM,listLengthHint->dq
open PySem.SetTable renaming below->bT,grown->cT,laid->hJ
open ForInStep renaming yield->cj
open False renaming elim->cx
open List.Perm renaming refl->cz
open Sum renaming inr->cH,inl->e7
open PySem renaming mem_of_lookup->cP,Within->ia,call->ir
open True renaming intro->cX
open PySem.Calls renaming callWith_builtin->cZ,evalArgs_plain->fg,spliced_cons->fC,spliced_nil->fL
open Int renaming emod_lt_of_pos->dS,toNat_natCast->eh,emod_nonneg->fh
open PyProof.Rows.F renaming plain_set_update_loop->d6
open Prod renaming ext->d7,mk->h8
open List.Pairwise renaming nil->ei
open PySem.Paired renaming length->fR
open PySem.Shared renaming TypeIs->fS,heap->iq
open PySem.Txt renaming join->fV,partition->hV
open PySem.Code renaming isFrame->ic
open PySem.IsRange renaming new->im
open PySem.Walks renaming list->iu
set_option tactic.hygienic false
theorem Aa{c:Prop}{h:Decidable c}(k:c){a:Sort _}{t e:a}:ite c t e=t:=if_pos k
theorem Ab{c:Prop}{h:Decidable c}(k:¬c){a:Sort _}{t e:a}:ite c t e=e:=if_neg k
theorem Ac{p:Prop}[h:Decidable p](k:¬p):decide p=false:=decide_eq_false k
theorem Ad{p:Prop}[h:Decidable p](k:p):decide p=true:=decide_eq_true k
theorem Ae{p:Prop}[h:Decidable p](k:decide p=true):p:=of_decide_eq_true k
noncomputable section
open PySem.W (Frag nsIn keepIn codeIn mg_of mg_none_of)
set_option compiler.extract_closed false
set_option bootstrap.genMatcherCode false
set_option genSizeOf false
set_option Elab.async false
set_option linter.all false
set_option maxRecDepth 100000
namespace Kx
noncomputable section
open PySem PySem.W PySem.Calls PyProof.Rows
noncomputable def zP:Pos:=⟨0,0,0,0⟩
noncomputable def anV:Option iC:=iw (.ref 6)
noncomputable def hA(P:l8):List Obj:=(ll P).objs.toList++[⟨.type "tuple",iB,.seq #[] 0,#[]⟩,⟨.none,iB,.fields #[],#[]⟩,
 ⟨.type "code",iB,.fields #[.str "<module>" 182,.str "<module>" 183,.str "/claim/cut.py" 184,.int 1 0,.int 0 0,.int 0 0,.int 0 0,.int 0 0,.ref 11,.bool iE,.int 181 0,.ref 12,.none,.none,.none,.none,.int 185 0,.int 1 0,.str "/claim/cut.py" 186],#[]⟩,
 ⟨.type "frame",iB,.plain,#[iw (.ref 13),iw (.ref 3),iw (.ref 3),iB,iw (.str "__main__" 164),iB,iw (.ref 0)]⟩]
noncomputable def enP(p:iK):Env:={ scope:=p.main.scope,locals:=mainNs,globals:=mainNs,cells:=[],code:=.ref 13,frame:=iw 14 }
def cdP(p:iK):Code:=.body (lD p) (enP p)
noncomputable def trA:List Obj->Nat->BT->BT
 |[],_,t=>t
 |o::l,i,t=>trA l (i+1) (t.ins i o)
def SA(w:iL)(os:lf):SharedT:=⟨trA (hA w.params) 0 .nil,15,(ll w.params).life,g8 [],mz,187,os⟩
noncomputable def kH(P:l8)(s:Str)(t:Nat)(v:iC):mJ:=⟨PyData.keyHash P s,.str s t,v⟩
noncomputable def eM:iC:=.str "lookwords.errors" 194
noncomputable def eU:Arguments:=⟨[],[⟨"k",iB,⟨1,10,1,11⟩⟩],iB,[],[],iB,[]⟩
noncomputable def eX:FuncBody:=.stmts [.While (.Constant (.bool iD) 0 ⟨2,10,2,14⟩) [.Pass ⟨3,8,3,12⟩] [] ⟨2,4,3,12⟩]
noncomputable def eY:lX:=⟨.function,[("k",.local)],iE,iE,[]⟩
noncomputable def eT(a:List iC):Obj:=⟨.type "tuple",iB,.seq ⟨a⟩ 0,#[]⟩
noncomputable def eF(c:iC)(a:List iC):Obj:=⟨c,iB,.fields ⟨a⟩,#[]⟩
noncomputable def eB:iC:=.type "builtin_function_or_method"
noncomputable def eD(a:List mJ)(n:Nat):Obj:=⟨.type "dict",iB,.dict ⟨a⟩ n,#[]⟩
def eW:List Obj:=[eT [],eF .none [],eT [.str "k" 190],eT [],⟨.none,iB,.func ⟨"_wall","_wall",eU,eX,eY,0,[],.none,.none,.none,.none,iB,.none,.none,0⟩,#[]⟩,
 eF (.type "code") [.str "_wall" 187,.str "_wall" 188,.str "/claim/cut.py" 189,.int 1 0,.int 1 0,.int 0 0,.int 0 0,.int 3 0,.ref 15,.bool iD,.int 181 0,.ref 16,.none,.ref 17,.ref 18,.ref 19,.int 191 0,.int 1 0,.str "/claim/cut.py" 192],
 ⟨.type "function",iB,.func ⟨"_wall","_wall",eU,eX,eY,3,[],.none,.none,.none,.str "__main__" 164,iB,.ref 20,.none,0⟩,#[]⟩]
def eA(P:l8)(s:Str)(b:iC)(n t l:Nat):List Obj:=[eT [b],eF eB [.builtin "type.__prepare__",.type "type"],
 eD [kH P "__module__" (t+7) eM,kH P "__qualname__" (t+9) (.str s (t+8)),kH P "__firstlineno__" (t+11) (.int l (t+10)),kH P "__static_attributes__" (t+12) (.ref (n+7))] 4,
 eT [],eF .none [],eF (.type "code") [.str s (t+2),.str s (t+3),.str "/claim/cut.py" (t+4),.int l 0,.int 0 0,.int 0 0,.int 0 0,.int 0 0,.ref (n+3),.bool iE,.int 181 0,.ref (n+4),.none,.none,.none,.none,.int ((t+5:Nat):Int) 0,.int l 0,.str "/claim/cut.py" (t+6)],
 ⟨.type "frame",iB,.plain,#[iw (.ref (n+5)),iw (.ref 3),iw (.ref (n+2)),iB,iw eM,iB,iw (.ref 0)]⟩,eT []]
noncomputable def eC(s:Str)(b:iC)(n t:Nat)(m sub:List iC):Obj:=⟨.type "type",iB,.cls { name:=s,bases:=[b],mro:=.ref (n+9)::m,ns:=n+8,qualname:=s,subclasses:=sub },#[iw (.ref n),iB,iw (.str s t),iw (.str s (t+8)),iw (.builtin "ValueError.__new__"),iw (.bool iD)]⟩
def eS(a:Nat):List Obj:=[eF (.type "super") [.ref a,.ref a,.ref a],eF eB [.builtin "object.__init_subclass__",.ref a]]
def eK(P:l8)(t l:Nat)(n:Nat):List mJ:=[kH P "__module__" (t+7) eM,kH P "__firstlineno__" (t+11) (.int l (t+10)),kH P "__static_attributes__" (t+12) (.ref (n+7))]
noncomputable def eV:List iC:=[.type "ValueError",.type "Exception",.type "BaseException",.type "object"]
def eL(P:l8):List Str->Nat->Nat->Nat->List Obj
 |[],_,_,_=>[]
 |s::r,n,t,l=>eA P s (.ref 31) n t l++eD (eK P t l n++[kH P "__doc__" (t+13) .none]) 2::eC s (.ref 31) n t (.ref 31::eV) []::eS (n+9)++eL P r (n+12) (t+16) (l+2)
def eE(P:l8):List Str->Nat->Nat->List mJ
 |[],_,_=>[]
 |s::r,n,t=>kH P s (t+15) (.ref (n+9))::eE P r (n+12) (t+16)
noncomputable def eR:Nat->Nat->List iC
 | 0,_=>[]
 |k+1,n=>.ref n::eR k (n+12)
noncomputable def eQ:Nat->Nat->Nat->List iC
 | 0,_,_=>[]
 |k+1,n,l=>.int l 0::.int 0 0::.ref n::eQ k (n+12) (l+2)
def eO(P:l8)(L:List Str):Obj:=match (boot_o_3 P).data with
 |.dict a _=>eD (kH P "__name__" 165 eM::a.toList.drop 1++kH P "_wall" 193 (.ref 21)::kH P "WordError" 213 (.ref 31)::eE P L 35 214) (L.length+11)
 |_=>eT []
def hC(P:l8)(L:List Str):List Obj:=(hA P).take 3++eO P L::((hA P).drop 4).take 8++eF .none (.int 1 0::.int 0 0::.ref 20::.int 5 0::.int 0 0::.ref 27::eQ L.length 40 7)::(hA P).drop 13++eW ++
 eA P "WordError" (.type "ValueError") 22 196 5++eD (eK P 196 5 22++[kH P "__weakref__" 210 (.ref 32),kH P "__doc__" 211 .none]) 3::eC "WordError" (.type "ValueError") 22 196 eV (eR L.length 44) ::
 eF (.type "getset_descriptor") [.str "__weakref__" 209,.ref 31,.builtin "ExceptionGroup.__weakref__",.none]::eS 31++eL P L 35 214 7
def SC(L:List Str)(w:iL)(os:lf):SharedT:=⟨trA (hC w.params L) 0 .nil,12 * L.length+35,(ll w.params).life,g8 [],mz,16 * L.length+214,os⟩
noncomputable def zC(L:List Str):Pos:=⟨2 * L.length+5,0,2 * L.length+6,8⟩
def XC(L:List Str)(p:iK)(w:iL)(M:Nat)(os:lf):Option (Flow×Code×iF):=
 (segRunT lM p w 11 anV 1 M (SC L w os) (piecesOf ((lD p).drop (L.length+3)) (enP p) (cdP p) (zC L) [mG zP])).bind λr=>
  (topRun lM p w 11 anV 5 r.2.1.abs (restOf [] (enP p) (cdP p) r.2.2.2 [mG zP])).map λs=>(r.1,r.2.2.1,s)
abbrev qed(p:iK)(w:iL)(x:Flow×Code×iF):=
 (x.1,x.2.1,(staticsOk (lH p.main.body) (ll w.params) x.2.2.heap&&namesBound p x.2.2.heap&&gensDone x.2.2&&laidKept (ll w.params) x.2.2.heap))
set_option tactic.hygienic true in
theorem left_T{L:List Str}{p q:iK}{loose:List Str}{Xt:iF->Bool}{α:Type}{Yf:iF->α}{Ya:iL->α}{N M:Nat}(e:opening p=plainProg p.main.scope.names)(hN:Nat.ble 600 N=iD)(f:∀s,fenceModules? p s=iw s)(size:∀w:iL,((ll w.params).isNs iP&&(g8 []:Array mT).size == 0,(ll w.params).objs.size,(ll w.params).nsMap iP "__annotations__")=(iD,11,anV))(pre:∀(w:iL)(os:lf),topGo lM p w 11 anV 12 ⟨ll w.params,g8 [],mz,boot_toks,os⟩ (topStub p)=iw ((SA w os).abs,⟨denote lM (cdP p),cdP p,zP,[mG zP]⟩))(blk:∀(w:iL)(os:lf),segRun lM p w 11 anV 1 1 (SA w os).abs (blockOf (lD p) (enP p) (cdP p) zP [mG zP])=iw (.next,(SA w os).abs,cdP p,zP))(le:Nat.ble (12+(1+(3500+(M+5)))) N=iD)(m6:∀(w:iL)(os:lf),segRunT lM p w 11 anV 1 3500 (SA w os) (piecesOf ((lD p).take (L.length+3)) (enP p) (cdP p) zP [mG zP])=iw (.next,SC L w os,cdP p,zC L))(m0:∀(w:iL)(os:lf),(XC L p w M os).map (qed p w)=iw (.next,cdP p,iD))(m1:∀(w:iL)(os:lf),(XC L p w M os).map (λx=>seen ((recsOf q).map (·.name)) (ownsOf q) [] { x.2.2 with gens:=#[] })=iw (expectedOf q))(m3:∀(w:iL)(os:lf),(XC L p w M os).map (λx=>x.2.2.heap.bltView)=iw bltViewBooted)(m4:∀(w:iL)(os:lf),(XC L p w M os).map (λx=>x.2.2.heap.keysOk (mO q loose) ((recsOf q).map (·.name)) ((litsOf q).map (·.1)) ((clssOf q (mO q loose)).map (·.name))&&x.2.2.heap.accountedOkI (lH p.main.body)&&x.2.2.heap.isNs iP&&x.2.2.heap.isNs mB&&tablesOk q x.2.2.heap&&Xt x.2.2&&x.2.2.gens.size == 0)=iw iD)(m5:∀(w:iL)(os:lf),(XC L p w M os).map (λx=>(tabsOk q x.2.2,pinSeenD q (drecsOf q) x.2.2,plainSeenE q (mO q loose) x.2.2))=iw (iD,pinGoodD (drecsOf q),plainGoodE q (mO q loose)))(m7:∀(w:iL)(os:lf),(XC L p w M os).map (λx=>(plainSeenD q loose x.2.2,wideSeen q x.2.2,clsSeenW q loose x.2.2))=iw (plainGoodD q loose,wideGood q,clsGoodW q loose))(m2:∀(w:iL)(os:lf),(XC L p w M os).map (λx=>Yf x.2.2)=iw (Ya w)):LeftO p q loose Xt Yf Ya N:=λw=>by
 obtain⟨⟨h,gs,d,k,os⟩,a,a'⟩:=aP.mp (boot_open e hN f w)
 obtain⟨rfl,rfl,rfl,rfl⟩:h=ll w.params/\gs=g8 []/\d=mz/\k=boot_toks:=by simpa using a'
 obtain⟨x,hx,hl⟩:=aP.mp (m0 w os)
 have l2:openSeen q loose (lH p.main.body) Xt iD x.2.2=openGood q loose:=by
  have a1:=m1 w os
  have a3:=m3 w os
  have a4:=m4 w os
  have a5:=m5 w os
  have a7:=m7 w os
  rw[hx]at a1 a3 a4 a5 a7
  have b5:=h8.inj (aL.inj a5)
  have c5:=h8.inj b5.2
  have b7:=h8.inj (aL.inj a7)
  have c7:=h8.inj b7.2
  exact d7 (aL.inj a1) (d7 (aL.inj a3) (d7 (aL.inj a4) (d7 b5.1 (d7 c5.1 (d7 c5.2 (d7 b7.1 (d7 c7.1 c7.2)))))))
 obtain⟨y,hy,hY⟩:=aP.mp (m2 w os)
 obtain rfl:y=x:=aL.inj (hy.symm.trans hx)
 obtain⟨r,hr,hz⟩:=cf.mp hx
 obtain⟨s,hs,rfl⟩:=aP.mp hz
 obtain⟨fl,st,co,po⟩:=r
 unfold qed at hl
 simp only[h8.injEq]at hl
 obtain⟨rfl,rfl,l1⟩:=hl
 have t1:=piece_app (rest:=[]) (segRun_of hr) hs
 rw[bv]at t1
 have t1:=piece_app (segRun_of (m6 w os)) t1
 rw[List.take_append_drop]at t1
 have t2:=piece_block (blk w os) t1
 have t3:=topRun_mono (N - (12+(1+(3500+(M+5))))) _ _ _ _ (go_top (pre w os) t2)
 rw[show 12+(1+(3500+(M+5)))+(N - (12+(1+(3500+(M+5)))))=N by have:=Nat.le_of_ble_eq_true le;omega]at t3
 obtain⟨z1,z2,z3⟩:_/\_/\_:=by simpa only[h8.injEq]using size w
 have t:topFrom lM p w N ⟨ll w.params,g8 [],mz,boot_toks,os⟩=iw s:=by
  unfold topFrom
  dsimp only
  rw[z1,z2,z3,t3]
  show(match staticsOk (lH p.main.body) (ll w.params) s.heap&&namesBound p s.heap&&gensDone s&&laidKept (ll w.params) s.heap with|true=>_|false=>_)=_
  rw[l1]
 unfold openEnds
 rw[a]
 show(topFrom lM p w N _).map _=_
 rw[t]
 exact congrArg iw (d7 l2 hY)
end
end Kx
noncomputable section
open PySem PySem.W PyProof.Rows
noncomputable def Kx.vq:iK:=view PySem.Challenge.pw_lookwords_k40_whole_again_and_kept [0,2,3,4,5,6,7,8,9,10,12,13,14,15,16,17,18,19,20,21,22,23,24,25,26,27,28,30,31,32,33,34,35,37,38,39,40,41,42,43,44,45,46,47,48,49,51,52,54,56,58,59,60,61,62,63,64,65,66,67,68,69,70,71,72,73,74]
noncomputable def Kx.eN:List Str:=["NoWords","NoLook","NoRoom","NoWord","NoWorths","Never","Full","Known"]
def Kx.xt(s:iF):Bool:=xlAt Kx.vq [] s&&recOk (RowW.records (OpenRow.toRowW (OpenLaw.row PySem.Challenge.rw_lookwords_k40_whole_again_and_kept))) s
set_option tactic.hygienic true in
theorem Kx.m6:∀(w:iL)(os:lf),segRunT lM PySem.Challenge.pw_lookwords_k40_whole_again_and_kept w 11 Kx.anV 1 3500 (Kx.SA w os) (piecesOf ((lD PySem.Challenge.pw_lookwords_k40_whole_again_and_kept).take (Kx.eN.length+3)) (Kx.enP PySem.Challenge.pw_lookwords_k40_whole_again_and_kept) (Kx.cdP PySem.Challenge.pw_lookwords_k40_whole_again_and_kept) Kx.zP [mG Kx.zP])=iw (.next,Kx.SC Kx.eN w os,Kx.cdP PySem.Challenge.pw_lookwords_k40_whole_again_and_kept,Kx.zC Kx.eN):=by intro w os;kernel_rfl
set_option tactic.hygienic true in
theorem Kx.m0:∀(w:iL)(os:lf),(Kx.XC Kx.eN PySem.Challenge.pw_lookwords_k40_whole_again_and_kept w 15000 os).map (Kx.qed PySem.Challenge.pw_lookwords_k40_whole_again_and_kept w)=iw (.next,Kx.cdP PySem.Challenge.pw_lookwords_k40_whole_again_and_kept,iD):=by intro w os;kernel_rfl
theorem Kx.m1:∀(w:iL)(os:lf),(Kx.XC Kx.eN PySem.Challenge.pw_lookwords_k40_whole_again_and_kept w 15000 os).map (λx=>seen ((recsOf Kx.vq).map (·.name)) (ownsOf Kx.vq) [] { x.2.2 with gens:=#[] })=iw (expectedOf Kx.vq):=by intro w os;kernel_rfl
theorem Kx.m3:∀(w:iL)(os:lf),(Kx.XC Kx.eN PySem.Challenge.pw_lookwords_k40_whole_again_and_kept w 15000 os).map (λx=>x.2.2.heap.bltView)=iw (bltViewBooted):=by intro w os;kernel_rfl
theorem Kx.m4:∀(w:iL)(os:lf),(Kx.XC Kx.eN PySem.Challenge.pw_lookwords_k40_whole_again_and_kept w 15000 os).map (λx=>x.2.2.heap.keysOk (mO Kx.vq []) ((recsOf Kx.vq).map (·.name)) ((litsOf Kx.vq).map (·.1)) ((clssOf Kx.vq (mO Kx.vq [])).map (·.name))&&x.2.2.heap.accountedOkI (lH PySem.Challenge.pw_lookwords_k40_whole_again_and_kept.main.body)&&x.2.2.heap.isNs iP&&x.2.2.heap.isNs mB&&tablesOk Kx.vq x.2.2.heap&&Kx.xt x.2.2&&x.2.2.gens.size == 0)=iw (iD):=by intro w os;kernel_rfl
theorem Kx.m5:∀(w:iL)(os:lf),(Kx.XC Kx.eN PySem.Challenge.pw_lookwords_k40_whole_again_and_kept w 15000 os).map (λx=>(tabsOk Kx.vq x.2.2,pinSeenD Kx.vq (drecsOf Kx.vq) x.2.2,plainSeenE Kx.vq (mO Kx.vq []) x.2.2))=iw (iD,pinGoodD (drecsOf Kx.vq),plainGoodE Kx.vq (mO Kx.vq [])):=by intro w os;kernel_rfl
theorem Kx.m7:∀(w:iL)(os:lf),(Kx.XC Kx.eN PySem.Challenge.pw_lookwords_k40_whole_again_and_kept w 15000 os).map (λx=>(plainSeenD Kx.vq [] x.2.2,wideSeen Kx.vq x.2.2,clsSeenW Kx.vq [] x.2.2))=iw (plainGoodD Kx.vq [],wideGood Kx.vq,clsGoodW Kx.vq []):=by intro w os;kernel_rfl
local macro_rules | `(tactic|o_head $H) => `(tactic|(refine holds_open (q := Kx.vq) (loose := []) (Xt := Kx.xt) (XP := XL Kx.vq []) (Yf := Hook.obs $H) (Ya := Hook.val $H) (YP := Hook.says $H) (N := 20000) ?hl (Hook.of $H) (Hook.keeps $H) (fun s e => xl_of s (Bool.and_eq_true_iff.mp e).1) XL.keeps (by rfl) (by rfl) (by rfl) (fun s e => recFacts_of (Bool.and_eq_true_iff.mp e).2) (by rfl) (by first|assumption|decide +kernel) (by decide +kernel) ⟨rfl, rfl, rfl, rfl, rfl, by decide +kernel⟩ ?hw ?hc;(case hl => refine Kx.left_T (p := PySem.Challenge.pw_lookwords_k40_whole_again_and_kept) (M := 15000) ?e rfl ?f ?s ?p ?b rfl Kx.m6 Kx.m0 Kx.m1 Kx.m3 Kx.m4 Kx.m5 Kx.m7 ?m;(case e => kernel_rfl);(case f => intro s;kernel_rfl);(case s => intro w;kernel_rfl);(case p => intro w os;kernel_rfl);(case b => intro w os;kernel_rfl);(case m => intro w os;kernel_rfl))))
set_option maxHeartbeats 0 in
open_top Kx.hd for PySem.Challenge.rw_lookwords_k40_whole_again_and_kept
end
open PySem renaming sizeLine->Z8,Addr->Z7,model->Z6,Heap->Z5,Expr->Z4,Stmt->Z3,eval->Z0
open PySem.W renaming Frag->Y9
namespace L2
open PySem PySem.Spec PyProof.Rows
abbrev Key:=Sum Int Str
noncomputable def zY:Key->iC->Bool
 |.inl k,v=>e8 k v
 |.inr x,v=>fQ x v
noncomputable def qjY(w:iL):Key->Int
 |.inl k=>hashInt k
 |.inr x=>hashStr w x
theorem jk:∀{k:Key}{v:iC},zY k v=iD->(∃i t,k=e7 i/\v=dU i t)\/(∃x t,k=cH x/\v=df x t)
 |.inl i,v,h=>by obtain⟨t,e⟩:=Value.isInt_shape (k:=i) (v:=v) h;exact .inl ⟨i,t,rfl,e⟩
 |.inr x,v,h=>by obtain⟨t,e⟩:=cO (x:=x) (v:=v) h;exact .inr ⟨x,t,rfl,e⟩
theorem KK(i:Int)(t:Tok):zY (.inl i) (.int i t)=true:=by simp[zY,e8]
theorem KL(x:Str)(t:Tok):zY (.inr x) (.str x t)=true:=by simp[zY,fQ]
theorem qgh(a b:Int):decide ((e7 a:Key)=e7 b)=(a == b):=by
 by_cases e:a=b;·subst e;simp
 .have h:¬(e7 a:Key)=e7 b:=λq=>e (e7.inj q);rw[Ac h];exact(beq_eq_false_iff_ne.mpr e).symm
theorem qgi(a b:Str):decide ((cH a:Key)=cH b)=decide (a=b):=by
 by_cases e:a=b;·subst e;simp
 .have h:¬(cH a:Key)=cH b:=λq=>e (cH.inj q);rw[Ac h,Ac e]
theorem qgj(a:Int)(b:Str):decide ((e7 a:Key)=cH b)=false:=Ac (λq=>nomatch q)
theorem qgk(a:Str)(b:Int):decide ((cH a:Key)=e7 b)=false:=Ac (λq=>nomatch q)
def qZ(prog:iK)(w:iL):PySem.KeyKind prog w Key where
 is:=zY
 hash:=qjY w
 inj:=λv a b f hb=>by
  rcases jk f with⟨i,t,rfl,rfl⟩|⟨x,t,rfl,rfl⟩
  .rcases jk hb with⟨j,u,rfl,e⟩|⟨y,u,rfl,e⟩
   .injection e with e1 _;rw[e1]
   .exact nomatch e
  .rcases jk hb with⟨j,u,rfl,e⟩|⟨y,u,rfl,e⟩
   .exact nomatch e
   .injection e with e1 _;rw[e1]
 byValue:=λk v h=>by rcases jk h with⟨i,t,rfl,rfl⟩|⟨x,t,rfl,rfl⟩ <;> rfl
 pyHash:=λc h=>by
  rcases jk c with⟨i,t,rfl,rfl⟩|⟨x,t,rfl,rfl⟩
  .exact wpAny_pyHash_int h
  .exact wpAny_pyHash_str h
 eqBool:=λd c h=>by
  rcases jk d with⟨i,t,rfl,rfl⟩|⟨x,t,rfl,rfl⟩
  .rcases jk c with⟨j,u,rfl,rfl⟩|⟨y,u,rfl,rfl⟩
   .rw[qgh]at h;exact wpAny_eqBool_int h
   .rw[qgj]at h;exact SeqAt.EqAt.int_str i t y u _ _ _ _ h
  .rcases jk c with⟨j,u,rfl,rfl⟩|⟨y,u,rfl,rfl⟩
   .rw[qgk]at h;exact SeqAt.EqAt.str_int x t j u _ _ _ _ h
   .rw[qgi]at h;exact wpAny_eqBool_str h
 «strs»:=λk x t v h=>by
  rcases jk h with⟨i,u,rfl,e⟩|⟨y,u,rfl,e⟩
  .exact nomatch e
  .injection e with e1 _;subst e1;cases v <;> rfl
theorem Ws(prog:iK)(w:iL)(i:Int)(t:Tok):(qZ prog w).is (.inl i) (.int i t)=true:=KK i t
theorem Wt(prog:iK)(w:iL)(x:Str)(t:Tok):(qZ prog w).is (.inr x) (.str x t)=true:=KL x t
inductive V where
 |non|bl (b:Bool)|int (i:Int)|str (x:Str)|byt (b:Array UInt8)|flt (b:UInt64)|ref (a:Z7)|ty (n:String)
 deriving DecidableEq
def RelV:V->iC->Prop
 |.non,u=>u=bK
 |.bl b,u=>u=cW b
 |.int i,u=>∃t,u=dU i t
 |.str x,u=>∃t,u=df x t
 |.byt b,u=>∃t,u=Value.bytes b t
 |.flt b,u=>∃t,u=Value.float b t
 |.ref a,u=>u=aM a
 |.ty n,u=>u=dw n
abbrev Vals:List V->List iC->Prop:=mP RelV
variable{xs:List V}{us:List iC}
theorem Vals.length(r:Vals xs us):xs.length=us.length:=fR r
theorem Vals.get:∀{xs:List V}{us:List iC}{i:Nat}{x:V},Vals xs us->xs[i]?=iw x->∃u,us[i]?=iw u/\RelV x u
 |_,_,_,_,.nil,e=>by simp at e
 |_,_,0,_,.cons r _,e=>by simp at e;subst e;exact⟨_,rfl,r⟩
 |_,_,i+1,x,.cons _ t,e=>by obtain⟨u,h1,h2⟩:=Vals.get (i:=i) (x:=x) t (by simpa using e);exact⟨u,by simpa using h1,h2⟩
variable{u:iC}
theorem Vals.set{x:V}(r:RelV x u):∀{xs:List V}{us:List iC}(i:Nat),Vals xs us->Vals (xs.set i x) (us.set i u)
 |_,_,_,.nil=>.nil
 |_,_,0,.cons _ t=>.cons r t
 |_,_,i+1,.cons q t=>.cons q (Vals.set r i t)
theorem Vals.append:∀{xs ys:List V}{us ws:List iC},Vals xs us->Vals ys ws->Vals (xs++ys) (us++ws)
 |_,_,_,_,.nil,s=>s
 |_,_,_,_,.cons r t,s=>.cons r (Vals.append t s)
theorem Vals.take:∀{xs:List V}{us:List iC}(n:Nat),Vals xs us->Vals (xs.take n) (us.take n)
 |_,_,0,_=>.nil
 |_,_,_+1,.nil=>.nil
 |_,_,n+1,.cons r t=>.cons r (Vals.take n t)
theorem Vals.drop:∀{xs:List V}{us:List iC}(n:Nat),Vals xs us->Vals (xs.drop n) (us.drop n)
 |_,_,0,r=>r
 |_,_,_+1,.nil=>.nil
 |_,_,n+1,.cons _ t=>Vals.drop n t
def RelO:Option V->Option iC->Prop
 |some v,iw u=>RelV v u
 |none,iB=>True
 |_,_=>False
def KV{κ:Type}:List (κ×V)->List (κ×iC)->Prop:=mP λ(p:κ×V)(q:κ×iC)=>p.1=q.1/\RelV p.2 q.2
noncomputable def kV:Key->V
 |.inl i=>.int i
 |.inr x=>.str x
inductive HO where
 /-- a list -/
 |lst (xs:List V)
 /-- a tuple (never changes) -/
 |tup (xs:List V)
 /-- a dict whose keys are ints and texts;one whose keys are tuples of ints and texts (the empty one is both) -/
 |dK (kvs:List (Key×V))|dT (kvs:List (List Key×V))
 /-- a set of ints: its members,its size -/
 |set (S:Int->Bool) (n:Nat)
 /-- an instance of the class at C,its dict at dx,its attributes -/
 |ins (C dx:Z7) (fs:List (Str×V))
 /-- the dict of the instance at x -/
 |own (x:Z7)
 /-- the dict of an exception -/
 |xd (fs:List (Str×V))
 /-- a bound method,f of x -/
 |met (f x:Z7)
 /-- a range object lo,lo+1,.. below hi -/
 |rng (lo hi:Int)
 /-- a thing that is known to the object (the script;a dict while a loop walks it): read,never written while it is so -/
 |frz (o:Obj) (u:HO)
 /-- a code object's table -/
 |tbl (ps:Array iC)
 /-- any other thing,by what is iD of its one object (a def of one's own: SetO a S n:=HO.ext λh=>..) -/
 |ext (φ:Z5->Prop)
abbrev Hp:=Z7->Option HO
noncomputable def upd(H:Hp)(a:Z7)(o:HO):Hp:=λb=>if b=a then iw o else H b
variable{H:Hp}{a:Z7}{o:HO}
theorem qo:upd H a o a=iw o:=by unfold upd;rw[Aa rfl]
variable{b:Z7}
theorem qv(h:b≠a):upd H a o b=H b:=by unfold upd;rw[Ab h]
theorem qit{u:HO}(h:H a=iw o)(h':H b=iw u)(d:o≠u):a≠b:=by intro e;subst e;rw[h]at h';exact d (aL.inj h')
theorem qD(h:H a=iw o)(h':H b=iB):a≠b:=by intro e;subst e;rw[h]at h';cases h'
section
variable(P:iK)(w:iL)
def ObjOk(H:Hp)(h:Z5)(a:Z7):HO->Prop
 |.lst xs=>xs.length<=Z8/\∃(its:List iC)(n:Nat),Vals xs its/\h.get? a=iw { cls:=.type "list",data:=.seq its.toArray n }
 |.tup xs=>(xs.length<=Z8/\∃o,h.get? a=iw o/\o.dict=iB)/\∃its:List iC,Vals xs its/\IsTup h a its.toArray
 |.dK kvs=>kvs.length<=Z8/\(a == lb)=iE/\∃vs,KV kvs vs/\h.DictOf (qZ P w) a vs
 | .dT kvs=>kvs.length<=Z8/\(a == lb)=iE/\∃xs:List (List Key×Z7×iC),mP (λ(p:List Key×V)(q:List Key×Z7×iC)=>p.1=q.1/\H q.2.1=iw (.tup (p.1.map kV))/\RelV p.2 q.2.2) kvs xs /\
   ∃o es ep,h.get? a=iw o/\o.ExactDict/\o.data=.dict es ep/\es.toList=xs.map (entryOfKey (mK (qZ P w)))/\(xs.map (·.1)).Nodup
 |.set S n=>h.SetOf (intKind P w) a S n
 | .ins C dx fs=>H dx=iw (.own a)/\fs.length<=1000/\dx≠a/\h.get? a=iw (ci C dx) /\
   ∃mA,h.Ns1 dx mA/\(∀f,RelO (fs.lookup f) (mA f))/\ia mA (fs.map (·.1))
 |.own _=>∃o,h.get? a=iw o
 |.xd fs=>∃mA,h.Ns1 a mA/\∀f,RelO (fs.lookup f) (mA f)
 |.rng lo hi=>∃t u v,h.get? a=iw { cls:=.type "range",data:=.fields #[.int lo t,.int hi u,.int 1 v] }
 |.frz o u=>h.get? a=iw o/\ObjOk H h a u
 |.tbl ps=>h.get? a=iw { cls:=.none,data:=.fields ps }
 |.met f x=>h.get? a=iw (fJ (.ref f) (.ref x))
 |.ext φ=>φ h/\(∃o,h.get? a=iw o)/\∀h1 h2:Z5,φ h1->(∀o,h1.get? a=iw o->h2.get? a=iw o)->φ h2
def HOk(H:Hp)(h:Z5):Prop:=∀a o,H a=iw o->ObjOk P w H h a o
end
variable{P:iK}{w:iL}{H':Hp}{h h':Z5}{α:Type}
section
theorem ObjOk.lt(x:ObjOk P w H h a o):a<h.objs.size:=by
 cases o with
 |lst xs=>obtain⟨_,_,_,_,e⟩:=x;exact aw e
 |tup xs=>obtain⟨_,_,_,p⟩:=x;exact p.lt
 |dK kvs=>obtain⟨_,_,_,_,o,_,_,e,_⟩:=x;exact aw e
 |dT kvs=>obtain⟨_,_,_,_,o,_,_,e,_⟩:=x;exact aw e
 |set S n=>obtain⟨o,_,_,_,e,_⟩:=x;exact aw e
 |ins C dx fs=>obtain⟨_,_,_,e,_⟩:=x;exact aw e
 |own y=>obtain⟨_,e⟩:=x;exact aw e
 |xd fs=>obtain⟨_,⟨_,_,_,e,_⟩,_⟩:=x;exact aw e
 |rng lo hi=>obtain⟨_,_,_,e⟩:=x;exact aw e
 |frz b u=>obtain⟨e,_⟩:=x;exact aw e
 |tbl ps=>exact aw (show h.get? a=iw _ from x)
 |met f y=>exact aw (show h.get? a=iw _ from x)
 |ext φ=>obtain⟨_,⟨_,e⟩,_⟩:=x;exact aw e
theorem Paired.mapP{β:Type}{F G:α->β->Prop}:∀{c:List α}{l:List β},mP F c l->(∀a b,F a b->G a b)->mP G c l
 |_,_,.nil,_=>.nil
 |_,_,.cons r t,f=>.cons (f _ _ r) (Paired.mapP t f)
theorem ObjOk.stay(x:ObjOk P w H h a o)(k:∀b u,(b=a\/H b=iw (.own a))->h.get? b=iw u->h'.get? b=iw u)(l:∀b,H b=iw (.own a)->H' b=iw (.own a))(ht:∀b xs,H b=iw (.tup xs)->H' b=iw (.tup xs)):ObjOk P w H' h' a o:=by
 induction o with
 |lst xs=>obtain⟨z,its,n,r,e⟩:=x;exact⟨z,its,n,r,k _ _ (.inl rfl) e⟩
 |tup xs=>obtain⟨⟨z,o2,i,d2⟩,its,r,g,e,c⟩:=x;exact⟨⟨z,o2,k _ _ (.inl rfl) i,d2⟩,its,r,g,k _ _ (.inl rfl) e,c⟩
 |dK kvs=>obtain⟨z,y,vs,r,g,es,ep,e,c⟩:=x;exact⟨z,y,vs,r,g,es,ep,k _ _ (.inl rfl) e,c⟩
 |dT kvs=>obtain⟨z,y,xs,r,g,es,ep,e,c⟩:=x;exact⟨z,y,xs,Paired.mapP r λp q z=>⟨z.1,ht _ _ z.2.1,z.2.2⟩,g,es,ep,k _ _ (.inl rfl) e,c⟩
 |set S n=>obtain⟨g,es,ep,t,e,c⟩:=x;exact⟨g,es,ep,t,k _ _ (.inl rfl) e,c⟩
 |ins C dx fs=>obtain⟨d,z,ne,e,mA,⟨od,es,ep,i,c⟩,r⟩:=x;exact⟨l _ d,z,ne,k _ _ (.inl rfl) e,mA,⟨od,es,ep,k _ _ (.inr d) i,c⟩,r⟩
 |own y=>obtain⟨g,e⟩:=x;exact⟨g,k _ _ (.inl rfl) e⟩
 |xd fs=>obtain⟨mA,⟨od,es,ep,e,c⟩,r⟩:=x;exact⟨mA,⟨od,es,ep,k _ _ (.inl rfl) e,c⟩,r⟩
 |rng lo hi=>obtain⟨t,u,v,e⟩:=x;exact⟨t,u,v,k _ _ (.inl rfl) e⟩
 |frz g u j=>obtain⟨e,q⟩:=x;exact⟨k _ _ (.inl rfl) e,j q⟩
 |tbl ps=>have e:h.get? a=iw { cls:=.none,data:=.fields ps }:=x;show h'.get? a=iw { cls:=.none,data:=.fields ps };exact k a _ (.inl rfl) e
 |met f y=>have e:h.get? a=iw (fJ (.ref f) (.ref y)):=x;show h'.get? a=iw (fJ (.ref f) (.ref y));exact k a _ (.inl rfl) e
 |ext φ=>obtain⟨p,⟨o,e⟩,st⟩:=x;exact⟨st _ _ p λo q=>k _ _ (.inl rfl) q,⟨o,k _ _ (.inl rfl) e⟩,st⟩
theorem HOk.lt(x:HOk P w H h)(e:H a=iw o):a<h.objs.size:=(x a o e).lt
theorem HOk.fresh(x:HOk P w H h)(e:h.objs.size<=a):H a=none:=by
 cases q:H a with
 |none=>rfl
 |some u=>exact absurd (aH (x.lt q) e) (bS _)
theorem HOk.kept(x:HOk P w H h)(k:∀b u,h.get? b=iw u->h'.get? b=iw u):HOk P w H h':=λa o e=>
 (x a o e).stay (λb u _ q=>k b u q) (λ_ q=>q) λ_ _ q=>q
theorem HOk.laid(x:HOk P w H h)(k:∀b u,h.get? b=iw u->h'.get? b=iw u)(hp:h.objs.size<=a)(new:ObjOk P w (upd H a o) h' a o):HOk P w (upd H a o) h':=λb u e=>by
 have n:=x.fresh hp;by_cases hb:b=a;·subst hb;rw[qo]at e;cases e;exact new
 .rw[qv hb]at e;exact(x b u e).stay (λc v _ q=>k c v q) (λc q=>by rw[qv (qD q n)];exact q) λc xs q=>by rw[qv (qD q n)];exact q
end
def Rd(H:Hp)(a:Z7)(u:HO):Prop:=H a=iw u\/∃o,H a=iw (.frz o u)
theorem Rd.ok{u:HO}(r:Rd H a u)(x:HOk P w H h):ObjOk P w H h a u:=by
 rcases r with r|⟨o,r⟩
 .exact x a u r
 .obtain⟨_,q⟩:=x a _ r;exact q
def Mut:Option HO->Prop
 |some (.lst _)=>True
 |some (.dK _)=>True
 |some (.dT _)=>True
 |some (.set _ _)=>True
 |some (.ins _ _ _)=>True
 |some (.ext _)=>True
 |_=>False
section
variable{x e:Z7}{o':HO}
theorem HOk.write(ok:HOk P w H h)(m:Mut (H x))(g:e=x\/H e=iw (.own x))(k:∀b u,b≠e->h.get? b=iw u->h'.get? b=iw u)(o:∃u,h'.get? e=iw u)(new:ObjOk P w (upd H x o') h' x o'):HOk P w (upd H x o') h':=λb u q=>by
 have n:∀c y,H c=iw (.own y)->c≠x:=λc y r z=>by subst z;rw[r]at m;exact m
 have p:∀c xs,H c=iw (.tup xs)->c≠x:=λc xs r z=>by subst z;rw[r]at m;exact m
 by_cases hb:b=x;·subst hb;rw[qo]at q;cases q;exact new
 .rw[qv hb]at q;by_cases a:b=e
  .have f:H b=iw (.own x):=by
    rcases g with z|z;·exact absurd (a.trans z) hb
    .rw[a];exact z
   rw[q]at f;cases f;obtain⟨v,i⟩:=o;exact⟨v,by rw[a];exact i⟩
  .refine(ok b u q).stay (λc v d r=>k c v ?_ r) (λc r=>by rw[qv (n c b r)];exact r) λc xs r=>by rw[qv (p c xs r)];exact r
   rcases d with rfl|d;·exact a
   .rintro rfl;rcases g with z|z;·exact n c b d z
    .rw[d]at z;cases z;exact hb rfl
end
structure Un(fs ex:List Z7)(H H':Hp)(h h':Z5):Prop where
 keep:∀b o,h.get? b=iw o->H b=iB->b∉fs->b∉ex->h'.get? b=iw o
 slot:∀b o,h.get? b=iw o->H b=iB->b∈fs->b∉ex->∃sl,h'.get? b=iw { o with slots:=sl }
 free:∀b o,h.get? b=iw o->H b=iB->b∉ex->H' b=iB
 there:∀b o,h.get? b=iw o->b∉ex->∃o',h'.get? b=iw o'
 tups:∀b xs,H b=iw (.tup xs)->H' b=iw (.tup xs)
 frzs:∀b o u,H b=iw (.frz o u)->H' b=iw (.frz o u)
 tbls:∀b ps,H b=iw (.tbl ps)->∃more,H' b=iw (.tbl (ps++more))
section
variable{fs fs' ex ex':List Z7}{H1 H2:Hp}{h1 h2:Z5}{x e:Z7}
theorem Un.any(u:Un fs ex H H1 h h1){o:Obj}(q:h.get? b=iw o)(n:H b=iB)(hx:b∉ex):∃sl,h1.get? b=iw { o with slots:=sl }:=by
 by_cases hb:b∈fs;·exact u.slot b o q n hb hx
 .exact⟨o.slots,u.keep b o q n hb hx⟩
theorem Un.kept(k:∀b u,h.get? b=iw u->h'.get? b=iw u):Un fs ex H H h h':=
 ⟨λb o q _ _ _=>k b o q,λb o q _ _ _=>⟨o.slots,k b o q⟩,λ_ _ _ n _=>n,λb o q _=>⟨o,k b o q⟩,λ_ _ q=>q,λ_ _ _ q=>q,λ_ ps q=>⟨#[],by rw[q];simp⟩⟩
theorem Un.refl:Un fs ex H H h h:=Un.kept λ_ _ q=>q
theorem Un.laid(k:∀b u,h.get? b=iw u->h'.get? b=iw u)(hp:h.objs.size<=a)(c:H a=iB):Un fs ex H (upd H a o) h h' where
 keep:=λb u q _ _ _=>k b u q
 slot:=λb u q _ _ _=>⟨u.slots,k b u q⟩
 free:=λb u q n _=>by rw[qv (ax (aH (aw q) hp))];exact n
 there:=λb u q _=>⟨u,k b u q⟩
 tups:=λb xs q=>by rw[qv (qD q c)];exact q
 frzs:=λb u xs q=>by rw[qv (qD q c)];exact q
 tbls:=λb ps q=>⟨#[],by rw[qv (qD q c),q];simp⟩
theorem Un.write(m:Mut (H x))(g:e=x\/H e=iw (.own x))(k:∀b u,b≠e->h.get? b=iw u->h'.get? b=iw u)(d:∃u,h'.get? e=iw u):Un fs ex H (upd H x o) h h':=by
 have hx:∀b,H b=iB->b≠x:=λb n z=>by subst z;rw[n]at m;exact m
 have hb:∀b,H b=iB->b≠e:=λb n z=>by
  subst z;rcases g with r|r;·exact hx b n r
  .rw[n]at r;cases r
 have c:∀b u,H b=iw u->¬Mut (iw u)->b≠x:=λb u q nm z=>by subst z;rw[q]at m;exact nm m
 refine⟨λb u q n _ _=>k b u (hb b n) q,λb u q n _ _=>⟨u.slots,k b u (hb b n) q⟩,λb u q n _=>by rw[qv (hx b n)];exact n,λb u q _=>?_,λb xs q=>by rw[qv (c b _ q λz=>z)];exact q,λb u xs q=>by rw[qv (c b _ q λz=>z)];exact q,λb ps q=>⟨#[],by rw[qv (c b _ q λz=>z),q];simp⟩⟩;by_cases a:b=e;·subst a;exact d
 .exact⟨u,k b u a q⟩
end
noncomputable def trk(h:Z5)(H:Hp):List Z7:=(aK h.objs.size).filter λa=>(H a).isSome
def qbR(h:Z5)(H:Hp):Z5:=bY h (trk h H)
theorem ZH(h:Z5)(H:Hp):(qbR h H).objs.size=h.objs.size:=PySem.W.hideAll_size _ _
theorem qbS{o:Obj}(e:h.get? b=iw o)(n:H b=iB):(qbR h H).get? b=iw o:=
 fj _ e λc=>by have q:(H b).isSome=true:=(dO.mp c).2;rw[n]at q;simp at q
theorem qee{o:Obj}(e:(qbR h H).get? b=iw o):h.get? b=iw o/\H b=none:=by
 have a:h.get? b=iw o:=PySem.W.of_hideAll (trk h H) e;refine⟨a,?_⟩;cases q:H b with
 |none=>rfl
 |some x=>have c:b∈trk h H:=dO.mpr ⟨bq.mpr (aw a),by simp[q]⟩;have z:(qbR h H).get? b=none:=e9 (trk h H) c;rw[z]at e;cases e
structure Mod(K:Y9)(mg:Str->Option iC)(base:Z5):Prop where
 kin:K.In base
 glob:base.Ns iP mg
 blt:∃mb,base.Ns mB mb/\∀x:Str,x ≠ "__name__"->mb x=iJ x
 nolimit:base.NoLimit
abbrev Pns:=List (Z7×Obj)
structure Cx where
 prog:iK
 w:iL
 K:Y9
 mg:Str->Option iC
 base:Z5
 A:iT
 N:List Str
 s₀:iF
 H₀:Hp
 env:Env
 outer:List Env
 stack:List Env
 ex:List Z7
 fn:Str->Bool
 calm:Bool
 pn:Pns
 xe:iC->iF->Prop
noncomputable def frs(l:List Env):List Z7:=l.filterMap (·.frame)
abbrev Cx.fs(X:Cx):List Z7:=frs X.outer
def Vis(sc:lX)(x:Str):Prop:=sc.names.lookup x=iw .local\/sc.names.lookup x=iw .cell\/sc.names.lookup x=iw .free
def Loc(sc:lX)(x:Str):Prop:=sc.names.lookup x=iw .local\/sc.names.lookup x=iw .cell
def QP(env:Env)(h:Z5)(m:Str->Option iC)(x:Str)(u:iC):Prop:=
 (env.kindOf x=iw .local/\m x=iw u)\/((env.kindOf x=iw .cell\/env.kindOf x=iw .free)/\∃c,env.cells.lookup x=iw c/\h.IsCell c (iw u))
structure Cx.Ok(X:Cx):Prop where
 mod:Mod X.K X.mg X.base
 kind:X.env.scope.kind=.function
 glob:X.env.globals=iP
 blt:X.env.builtins=mB
 above:X.s₀.heap.objs.size<=X.env.locals
 inj:∀x y c,X.env.cells.lookup x=iw c->X.env.cells.lookup y=iw c->x=y
 has:∀x,(X.env.kindOf x=iw .cell\/X.env.kindOf x=iw .free)->∃c,X.env.cells.lookup x=iw c
 cab:∀x c,X.fn x=iD->X.env.cells.lookup x=iw c->X.s₀.heap.objs.size<=c
 hd:X.calm=iD->X.A.handled=iB
 frames:X.A.frames=iw X.stack
 stk:X.stack=X.outer\/(X.stack=X.env::X.outer/\X.env.frame=iw X.env.locals)
 exf:∀b∈X.ex,b≠X.env.locals/\∀x c,X.env.cells.lookup x=iw c->c≠b
 bs:∀b o,X.base.get? b=iw o->X.s₀.heap.get? b=iw o/\X.H₀ b=iB
 bsz:X.base.objs.size<=X.s₀.heap.objs.size
 noex:∀b o,X.base.get? b=iw o->b∉X.ex
 exfs:∀b∈X.ex,b∉X.fs
 funs:X.s₀.heap.FunFrames X.base X.outer
 frf:∀b∈X.fs,X.H₀ b=iB
structure Inv(X:Cx)(Z9:Pns)(σ:List (Option V))(H:Hp)(s:iF):Prop where
 ok:X.Ok
 os:s.os=X.s₀.os
 bare:l5 s.gens
 base:Un X.fs X.ex X.H₀ H X.s₀.heap s.heap
 loc:∃m,s.heap.Ns X.env.locals m/\∀(i:Nat)(x:Str)(v:V),X.N[i]?=iw x->σ[i]?=iw (iw v)->Vis X.env.scope x->∃u,RelV v u/\QP X.env s.heap m x u
 cell:∀x c,X.env.cells.lookup x=iw c->∃v,s.heap.IsCell c v
 free:H X.env.locals=iB
 freeC:∀x c,X.env.cells.lookup x=iw c->H c=iB
 pin:∀p∈X.pn++Z9,s.heap.get? p.1=iw p.2/\H p.1=iB/\p.1≠X.env.locals/\p.1∉X.fs/\∀v,p.2.data≠.cell v
 hok:HOk X.prog X.w H s.heap
 len:σ.length=X.N.length
variable{x:Str}{X:Cx}{Z9:Pns}{s s':iF}{t' i j:Nat}{ch:List Z7}{it:Z7}{v:V}
section
variable{σ:List (Option V)}
theorem Cx.Ok.nofr(ok:X.Ok){o:Obj}(e:X.base.get? b=iw o):b∉X.fs:=λhb=>by have:=(ok.funs.mem hb).1;rw[e]at this;cases this
theorem Inv.bs(I:Inv X Z9 σ H s):∀b o,X.base.get? b=iw o->s.heap.get? b=iw o/\H b=none:=λb o e=>
 ⟨I.base.keep b o (I.ok.bs b o e).1 (I.ok.bs b o e).2 (I.ok.nofr e) (I.ok.noex b o e),I.base.free b o (I.ok.bs b o e).1 (I.ok.bs b o e).2 (I.ok.noex b o e)⟩
theorem Inv.bk(I:Inv X Z9 σ H s):∀b o,X.base.get? b=iw o->s.heap.get? b=iw o:=λb o e=>(I.bs b o e).1
theorem Inv.mod(I:Inv X Z9 σ H s):Mod X.K X.mg X.base:=I.ok.mod
theorem Inv.kIn(I:Inv X Z9 σ H s):X.K.In s.heap:=I.ok.mod.kin.keeps I.bk
theorem Inv.lt(I:Inv X Z9 σ H s):X.env.locals<s.heap.objs.size:=let ⟨_,n,_⟩:=I.loc;n.lt
theorem Inv.sz(I:Inv X Z9 σ H s):X.s₀.heap.objs.size<=s.heap.objs.size:=bb I.ok.above (cm I.lt)
theorem Inv.nofs(I:Inv X Z9 σ H s)(h:s.heap.objs.size<=a):a∉X.fs:=λhb=>by obtain⟨_,o,l,_⟩:=I.ok.funs.mem hb;exact absurd (aH (aw l) (bb I.sz h)) (bS _)
theorem Inv.cne(I:Inv X Z9 σ H s):∀x c,X.env.cells.lookup x=iw c->c≠X.env.locals:=λx c e z=>by obtain⟨v,o,l,hd⟩:=I.cell x c e;obtain⟨m,⟨o',es,ep,h,a,_⟩,_⟩:=I.loc;rw[z,h]at l;cases l;rw[a]at hd;cases hd
theorem Inv.funs(I:Inv X Z9 σ H s):s.heap.FunFrames X.base X.outer:=by
 have all:∀(l:List Env),(∀b∈frs l,b∈X.fs)->X.s₀.heap.FunFrames X.base l->s.heap.FunFrames X.base l:=by
  intro l
  induction l with
  |nil=>intro _ _;trivial
  |cons env r j=>intro hs hl;obtain⟨k,⟨L,o,h,n,d,hd⟩,c⟩:=hl;have a:L∈X.fs:=hs L (by unfold frs;rw[dJ,h];exact au);obtain⟨sl,e⟩:=I.base.slot L o d (I.ok.frf L a) a λz=>I.ok.exfs L z a;exact⟨k,⟨L,_,h,n,e,hd⟩,j (λb hb=>hs b (by unfold frs;rw[dJ,h];exact ae _ hb)) c⟩
 exact all X.outer (λ_ hb=>hb) I.ok.funs
theorem Inv.stack(I:Inv X Z9 σ H s):s.heap.FunFrames X.base X.stack:=by
 rcases I.ok.stk with e|⟨e,hf⟩
 .rw[e];exact I.funs
 .rw[e];obtain⟨m,n,_⟩:=I.loc;refine .cons (by rw[I.ok.kind];decide) hf n ?_ I.funs;exact Heap.get?_none_of_le (bb I.ok.bsz I.ok.above)
theorem Inv.stkSub(I:Inv X Z9 σ H s):∀b∈frs X.stack,b∈X.env.locals::X.fs:=λb hb=>by
 rcases I.ok.stk with e|⟨e,hf⟩
 .rw[e]at hb;exact ae _ hb
 .rw[e]at hb;unfold frs at hb;rw[dJ,hf]at hb;exact hb
theorem Inv.stkFree(I:Inv X Z9 σ H s):∀b∈frs X.stack,H b=none:=λb hb=>by
 rcases ac.mp (I.stkSub b hb)with e|hb;·rw[e];exact I.free
 .obtain⟨_,o,l,_⟩:=I.ok.funs.mem hb;exact I.base.free b o l (I.ok.frf b hb) λz=>I.ok.exfs b z hb
theorem Inv.step{g':Array mT}{t':Nat}{d':Drawn}{ch:List Z7}(I:Inv X Z9 σ H s)(a:∀b∈ch,(b∈X.ex\/X.s₀.heap.objs.size<=b)/\b≠X.env.locals/\(∀x c,X.env.cells.lookup x=iw c->c≠b)/\∀p∈X.pn++Z9,p.1≠b)(keep:∀b o,b≠X.env.locals->b∉X.fs->b∉ch->s.heap.get? b=iw o->H b=iB->h'.get? b=iw o)(slot:∀b o,b≠X.env.locals->b∈X.fs->b∉ch->s.heap.get? b=iw o->H b=iB->∃sl,h'.get? b=iw { o with slots:=sl })(free:∀b o,b∉ch->s.heap.get? b=iw o->H b=iB->H' b=iB)(there:∀b o,b∉ch->s.heap.get? b=iw o->∃o',h'.get? b=iw o')(tups:∀b xs,H b=iw (.tup xs)->H' b=iw (.tup xs))(frzs:∀b o u,H b=iw (.frz o u)->H' b=iw (.frz o u))(tbls:∀b ps,H b=iw (.tbl ps)->∃more,H' b=iw (.tbl (ps++more)))(ns:∀m,s.heap.Ns X.env.locals m->h'.Ns X.env.locals m)(hok:HOk X.prog X.w H' h')(hg:l5 g') :
  Inv X Z9 σ H' { s with heap:=h',gens:=g',drawn:=d',toks:=t' }:=by
 have L:∀b o,X.s₀.heap.get? b=iw o->b≠X.env.locals:=λb o e=>ax (aH (aw e) I.ok.above);have C:∀b o,X.s₀.heap.get? b=iw o->b∉X.ex->b∉ch:=λb o e hx hb=>by
  rcases(a b hb).1 with z|z;·exact hx z
  .exact absurd (aH (aw e) z) (bS _)
 have K:∀x c,X.env.cells.lookup x=iw c->∀v,s.heap.IsCell c v->h'.IsCell c v:=λx c e v ⟨o,f,hd⟩=>by
  have h:c∉ch:=λz=>(a c z).2.2.1 x c e rfl;by_cases y:c∈X.fs;·obtain⟨sl,q⟩:=slot c o (I.cne x c e) y h f (I.freeC x c e);exact⟨_,q,hd⟩
  .exact⟨o,keep c o (I.cne x c e) y h f (I.freeC x c e),hd⟩
 refine⟨I.ok,I.os,hg,⟨λb o e n hb hx=>?_,λb o e n hb hx=>?_,λb o e n hx=>?_,λb o e hx=>?_,λb xs e=>tups b xs (I.base.tups b xs e),λb o xs e=>frzs b o xs (I.base.frzs b o xs e),λb ps e=>?_⟩,?_,λx c e=>?_,?_,λx c e=>?_,λp hp=>?_,hok,I.len⟩;·exact keep b o (L b o e) hb (C b o e hx) (I.base.keep b o e n hb hx) (I.base.free b o e n hx)
 .obtain⟨sl,e1⟩:=I.base.slot b o e n hb hx;obtain⟨j,g⟩:=slot b _ (L b o e) hb (C b o e hx) e1 (I.base.free b o e n hx);exact⟨j,g⟩
 .obtain⟨o',e1⟩:=I.base.there b o e hx;exact free b o' (C b o e hx) e1 (I.base.free b o e n hx)
 .obtain⟨o',e1⟩:=I.base.there b o e hx;exact there b o' (C b o e hx) e1
 .obtain⟨m1,e1⟩:=I.base.tbls b ps e;obtain⟨A,g⟩:=tbls b _ e1;exact⟨m1++A,by rw[g,Array.append_assoc]⟩
 .obtain⟨m,B,hl⟩:=I.loc;refine⟨m,ns m B,λi x v e1 g D=>?_⟩;obtain⟨u,r,l⟩:=hl i x v e1 g D;refine⟨u,r,?_⟩;rcases l with l|⟨k,c,e,z⟩
  .exact .inl l
  .exact .inr ⟨k,c,e,K x c e _ z⟩
 .obtain⟨v,z⟩:=I.cell x c e;exact⟨v,K x c e v z⟩
 .obtain⟨m,⟨o,_,_,f,_⟩,_⟩:=I.loc;exact free _ o (λz=>(a _ z).2.1 rfl) f I.free
 .obtain⟨v,o,f,hd⟩:=I.cell x c e;exact free c o (λz=>(a c z).2.2.1 x c e rfl) f (I.freeC x c e)
 .obtain⟨e,n,ne,t,d⟩:=I.pin p hp;have h:p.1∉ch:=λz=>(a p.1 z).2.2.2 p hp rfl;exact⟨keep p.1 p.2 ne t h e n,free p.1 p.2 h e n,ne,t,d⟩
theorem Inv.un(I:Inv X Z9 σ H s)(u:Un X.fs [] H H' s.heap h')(hok:HOk X.prog X.w H' h'):Inv X Z9 σ H' { s with heap:=h',toks:=t' }:=by obtain⟨m,⟨o,es,ep,l,r⟩,_⟩:=id I.loc;obtain⟨sl,L⟩:=u.any l I.free (by simp);exact I.step (g':=s.gens) (d':=s.drawn) (ch:=[]) (λ_ z=>nomatch z) (λb o _ hb _ e n=>u.keep b o e n hb (by simp)) (λb o _ hb _ e n=>u.slot b o e n hb (by simp)) (λb o _ e n=>u.free b o e n (by simp)) (λb o _ e=>u.there b o e (by simp)) u.tups u.frzs u.tbls (λd c=>by obtain⟨o',es',a,h,r'⟩:=c;rw[l]at h;cases h;exact⟨_,es',a,L,r'⟩) hok I.bare
theorem Inv.call{g':Array mT}{t':Nat}{d':Drawn}(I:Inv X Z9 σ H s)(u:Un (frs X.stack) ch H H' s.heap h')(hok:HOk X.prog X.w H' h')(hg:l5 g')(a:∀b∈ch,(b∈X.ex\/X.s₀.heap.objs.size<=b)/\b≠X.env.locals/\(∀x c,X.env.cells.lookup x=iw c->c≠b)/\∀p∈X.pn++Z9,p.1≠b) :
  Inv X Z9 σ H' { s with heap:=h',gens:=g',drawn:=d',toks:=t' }:=by
 obtain⟨m,⟨o,es,ep,l,r⟩,_⟩:=id I.loc;obtain⟨sl,L⟩:=u.any l I.free λz=>(a _ z).2.1 rfl;exact I.step (ch:=ch) a (λb o L hb d e n=>u.keep b o e n (λz=>(ac.mp (I.stkSub b z)).elim L hb) d) (λb o _ _ d e n=>u.any e n d) (λb o d e n=>u.free b o e n d) (λb o d e=>u.there b o e d) u.tups u.frzs u.tbls (λi g=>by obtain⟨o',es',f,h,r'⟩:=g;rw[l]at h;cases h;exact⟨_,es',f,L,r'⟩) hok hg
theorem Inv.turned{t':Nat}(I:Inv X Z9 σ H s)(k:∀b o,b≠it->s.heap.get? b=iw o->h'.get? b=iw o)(h:H it=iB)(a:it≠X.env.locals)(h1:it∈X.ex\/X.s₀.heap.objs.size<=it)(h2:∀x c,X.env.cells.lookup x=iw c->c≠it)(g:∀p∈X.pn++Z9,p.1≠it):Inv X Z9 σ H { s with heap:=h',toks:=t' }:=by
 have t:∀b u,H b=iw u->b≠it:=λb u e z=>by rw[z,h]at e;cases e
 refine I.step (g':=s.gens) (d':=s.drawn) (ch:=[it]) (λb hb=>?_) (λb o _ _ d e _=>k b o (λz=>d (by simp[z])) e) (λb o _ _ d e _=>⟨o.slots,k b o (λz=>d (by simp[z])) e⟩) (λ_ _ _ _ n=>n)
  (λb o d e=>⟨o,k b o (λz=>d (by simp[z])) e⟩) (λ_ _ e=>e) (λ_ _ _ e=>e) (λb ps e=>⟨#[],by rw[e];simp⟩) (λm f=>?_) (λb u e=>?_) I.bare
 .have e:b=it:=by simpa using hb
  subst e;exact⟨h1,a,h2,g⟩
 .obtain⟨o,es,ep,l,r⟩:=f;exact⟨o,es,ep,k _ o (aW a) l,r⟩
 .refine(I.hok b u e).stay (λc v d q=>k c v ?_ q) (λ_ q=>q) λ_ _ q=>q;rcases d with z|z;·rw[z];exact t b u e
  .exact t c _ z
theorem Inv.tok(I:Inv X Z9 σ H s)(t:Nat):Inv X Z9 σ H { s with toks:=t }:=I.un (h':=s.heap) (t':=t) Un.refl I.hok
theorem Inv.kept(I:Inv X Z9 σ H s)(k:∀b u,s.heap.get? b=iw u->h'.get? b=iw u):Inv X Z9 σ H { s with heap:=h',toks:=t' }:=I.un (Un.kept k) (I.hok.kept k)
theorem Inv.laid{t':Nat}(I:Inv X Z9 σ H s)(k:∀b u,s.heap.get? b=iw u->h'.get? b=iw u)(hp:s.heap.objs.size<=a)(new:ObjOk X.prog X.w (upd H a o) h' a o):Inv X Z9 σ (upd H a o) { s with heap:=h',toks:=t' }:=I.un (Un.laid k hp (I.hok.fresh hp)) (I.hok.laid k hp new)
theorem Inv.write{x e:Z7}{o:HO}{t':Nat}(I:Inv X Z9 σ H s)(m:Mut (H x))(g:e=x\/H e=iw (.own x))(k:∀b u,b≠e->s.heap.get? b=iw u->h'.get? b=iw u)(h:∃u,h'.get? e=iw u)(new:ObjOk X.prog X.w (upd H x o) h' x o):Inv X Z9 σ (upd H x o) { s with heap:=h',toks:=t' }:=I.un (Un.write m g k h) (I.hok.write m g k h new)
theorem Inv.pins_of{a:Pns}(I:Inv X Z9 σ H s)(h:∀p∈a,s.heap.get? p.1=iw p.2/\H p.1=iB/\p.1≠X.env.locals/\p.1∉X.fs/\∀v,p.2.data≠.cell v):Inv X a σ H s:=
 ⟨I.ok,I.os,I.bare,I.base,I.loc,I.cell,I.free,I.freeC,λp hp=>(bf.mp hp).elim (λz=>I.pin p (ff _ z)) (h p),I.hok,I.len⟩
theorem UQ{N:List Str}(h:N.Nodup)(a:N[i]?=iw x)(b:N[j]?=iw x):i=j:=by obtain⟨h1,e1⟩:=aA.mp a;obtain⟨h2,e⟩:=aA.mp b;exact(List.getElem_inj h).mp (e1.trans e.symm)
theorem KM{M:Model}{A:iT}{E:iC->iF->Prop}{Q:Unit->iF->Prop}(I:Inv X Z9 σ H s)(hN:X.N.Nodup)(hi:X.N[i]?=iw x)(hx:Loc X.env.scope x)(r:RelV v u)(h:∀s',Inv X Z9 (σ.set i (iw v)) H s'->(∃a,bh a s.heap s'.heap/\(a=X.env.locals\/X.env.cells.lookup x=iw a))->Q () s')(hf:X.fn x=iD\/X.env.scope.names.lookup x=iw .local:=by first|exact .inl rfl|exact .inr rfl|assumption):iH M A (storeName X.env x u) Q E s:=by
 obtain⟨m,Z,hl⟩:=id I.loc;have L:(X.env.scope.kind == .class||(X.env.scope.kind == .module&&X.env.locals != X.env.globals))=false:=by rw[I.ok.kind];rfl
 have C:i < σ.length:=by rw[I.len];exact(aA.mp hi).1
 have cne:=I.cne;have t:∀{a:Z7}{h':Z5},(∃o,s.heap.get? a=iw o/\H a=iB)->bh a s.heap h'->HOk X.prog X.w H h':=λ{a h'} ha hs b ob e=>by
  obtain⟨_,_,g⟩:=ha;refine(I.hok b ob e).stay (λc R f q=>(hs.2 c ?_).trans q) (λ_ q=>q) λ_ _ q=>q;rintro rfl;rcases f with rfl|f;·rw[g]at e;cases e
  .rw[g]at f;cases f
 rcases hx with B|B
 .refine wpAny_storeName_local B Z (λh' Y hs=>?_) L;obtain⟨oL,_,_,W,_⟩:=id Z;refine h _ ⟨I.ok,I.os,I.bare,⟨λb o e n hb hx=>?_,λb o e n hb hx=>?_,I.base.free,λb o e hx=>?_,I.base.tups,I.base.frzs,I.base.tbls⟩,⟨_,Y,λj y T e1 l F=>?_⟩,λy c e=>?_,I.free,I.freeC,λp hp=>?_,t ⟨oL,W,I.free⟩ hs,by simpa using I.len⟩ ⟨_,hs,.inl rfl⟩;·exact(hs.2 b (ax (aH (aw e) I.ok.above))).trans (I.base.keep b o e n hb hx)
  .obtain⟨sl,e1⟩:=I.base.slot b o e n hb hx;exact⟨sl,(hs.2 b (ax (aH (aw e) I.ok.above))).trans e1⟩
  .obtain⟨o',e1⟩:=I.base.there b o e hx;exact⟨o',(hs.2 b (ax (aH (aw e) I.ok.above))).trans e1⟩
  .by_cases D:j=i;·subst D;rw[hi]at e1;cases e1;rw[aB C]at l;cases l;exact⟨u,r,.inl ⟨B,by simp⟩⟩
   .rw[ai (aW D)]at l;obtain⟨U,r',q⟩:=hl j y T e1 l F;refine⟨U,r',?_⟩;rcases q with⟨k,e⟩|⟨k,c,e,z⟩
    .refine .inl ⟨k,?_⟩;have:y≠x:=λe=>D (UQ hN e1 (e ▸ hi));simp[this,e]
    .exact .inr ⟨k,c,e,z.sameBut hs (cne y c e)⟩
  .obtain⟨R,z⟩:=I.cell y c e;exact⟨R,z.sameBut hs (cne y c e)⟩
  .obtain⟨e,n,ne,V,d⟩:=I.pin p hp;exact⟨(hs.2 p.1 ne).trans e,n,ne,V,d⟩
 .have G:X.fn x=true:=by
   rcases hf with z|z;·exact z
   .rw[z]at B;cases B
  obtain⟨c,f⟩:=I.ok.has x (.inl B);obtain⟨R,z⟩:=I.cell x c f;refine wpAny_storeName_cell I.ok.kind B f z (λh' P hs=>?_);obtain⟨oc,K,J⟩:=id z;refine h { s with heap:=h' } ⟨I.ok,I.os,I.bare,⟨λb o e n hb hx=>?_,λb o e n hb hx=>?_,I.base.free,λb o e hx=>?_,I.base.tups,I.base.frzs,I.base.tbls⟩,⟨m,Z.sameBut hs (aW (cne x c f)),λj y T e1 l F=>?_⟩,λy S e=>?_,I.free,I.freeC,λp hp=>?_,t ⟨oc,K,I.freeC x c f⟩ hs,by simpa using I.len⟩ ⟨c,hs,.inr f⟩;·exact(hs.2 b (ax (aH (aw e) (I.ok.cab x c G f)))).trans (I.base.keep b o e n hb hx)
  .obtain⟨sl,e1⟩:=I.base.slot b o e n hb hx;exact⟨sl,(hs.2 b (ax (aH (aw e) (I.ok.cab x c G f)))).trans e1⟩
  .obtain⟨o',e1⟩:=I.base.there b o e hx;exact⟨o',(hs.2 b (ax (aH (aw e) (I.ok.cab x c G f)))).trans e1⟩
  .by_cases D:j=i;·subst D;rw[hi]at e1;cases e1;rw[aB C]at l;cases l;exact⟨u,r,.inr ⟨.inl B,c,f,P⟩⟩
   .rw[ai (aW D)]at l;obtain⟨U,r',q⟩:=hl j y T e1 l F;refine⟨U,r',?_⟩;rcases q with q|⟨k,S,e,z'⟩
    .exact .inl q
    .refine .inr ⟨k,S,e,z'.sameBut hs ?_⟩;rintro rfl;exact D (UQ hN e1 (I.ok.inj _ _ _ e f ▸ hi))
  .by_cases O:S=c;·subst O;exact⟨_,P⟩
   .obtain⟨w2,z2⟩:=I.cell y S e;exact⟨w2,z2.sameBut hs O⟩
  .obtain⟨e,n,ne,V,d⟩:=I.pin p hp;refine⟨(hs.2 p.1 ?_).trans e,n,ne,V,d⟩;intro q;rw[q,K]at e;have q':oc=p.2:=aL.inj e;exact d R (by rw[<-q'];exact J)
theorem zN{M:Model}{A:iT}{E:iC->iF->Prop}{Q:Unit->iF->Prop}(I:Inv X Z9 σ H s)(a:X.N.Nodup)(hi:X.N[i]?=iw x)(hx:Loc X.env.scope x)(r:RelV v u)(h:∀s',Inv X Z9 (σ.set i (iw v)) H s'->Q () s')(f:X.fn x=iD\/X.env.scope.names.lookup x=iw .local:=by first|exact .inl rfl|exact .inr rfl|assumption):iH M A (storeName X.env x u) Q E s:=
 KM I a hi hx r (λs' b _=>h s' b) f
theorem Inv.call'(I:Inv X Z9 σ H s)(l:s'.os=s.os)(u:Un (frs X.stack) ch H H' s.heap s'.heap)(hok:HOk X.prog X.w H' s'.heap)(hg:l5 s'.gens)(a:∀b∈ch,(b∈X.ex\/X.s₀.heap.objs.size<=b)/\b≠X.env.locals/\(∀x c,X.env.cells.lookup x=iw c->c≠b)/\∀p∈X.pn++Z9,p.1≠b):Inv X Z9 σ H' s':=by
 obtain⟨h',g',d',t',o'⟩:=s';have e:o'=s.os:=l;subst e;exact I.call (g':=g') (t':=t') (d':=d') u hok hg a
end
abbrev XK:=iC->Option Z7->Hp->Prop
abbrev St:=List (Option V)
abbrev VK:=V->Hp->Prop
abbrev TE:=St->Hp->VK->Prop
abbrev TT:=St->Hp->(Bool->Hp->Prop)->Prop
abbrev TA:=St->Hp->(List V->Hp->Prop)->Prop
structure Ends where
 nx:St->Hp->Prop
 rt:VK
 bk:St->Hp->Prop:=λ_ _=>False
 ct:St->Hp->Prop:=λ_ _=>False
abbrev TS:=Ends->St->Hp->Prop
def EP(X:Cx)(Z9:Pns)(σ:St)(Q:VK)(u:iC)(s':iF):Prop:=∃v H',Inv X Z9 σ H' s'/\RelV v u/\Q v H'
def TP(X:Cx)(Z9:Pns)(σ:St)(Q:Bool->Hp->Prop)(b:Bool)(s':iF):Prop:=∃H',Inv X Z9 σ H' s'/\Q b H'
def AP(X:Cx)(Z9:Pns)(σ:St)(Q:List V->Hp->Prop)(us:List iC)(s':iF):Prop:=∃vs H',Inv X Z9 σ H' s'/\Vals vs us/\Q vs H'
set_option tactic.hygienic true in
def SP(X:Cx)(Z9:Pns)(D:Ends)(f:Flow)(s':iF):Prop:=
 match f with
 |.next=>∃σ' H',Inv X Z9 σ' H' s'/\D.nx σ' H'
 |.brk=>∃σ' H',Inv X Z9 σ' H' s'/\D.bk σ' H'
 |.cont=>∃σ' H',Inv X Z9 σ' H' s'/\D.ct σ' H'
 |.ret u=>∃v σ' H',Inv X Z9 σ' H' s'/\RelV v u/\D.rt v H'
structure PE(X:Cx)(e:Z4)(t:TE):Prop where
 run:∀(Z9:Pns)(s:iF)(σ:St)(H:Hp)(Q:VK),Inv X Z9 σ H s->t σ H Q->iH (Z6 X.prog X.w) X.A (Z0 e X.env) (EP X Z9 σ Q) X.xe s
instance{X:Cx}{e:Z4}{t:TE}:CoeFun (PE X e t) (λ_=>∀(Z9:Pns)(s:iF)(σ:St)(H:Hp)(Q:VK),Inv X Z9 σ H s->t σ H Q->iH (Z6 X.prog X.w) X.A (Z0 e X.env) (EP X Z9 σ Q) X.xe s):=⟨λh=>h.run⟩
structure PT(X:Cx)(e:Z4)(t:TT):Prop where
 run:∀(Z9:Pns)(s:iF)(σ:St)(H:Hp)(Q:Bool->Hp->Prop),Inv X Z9 σ H s->t σ H Q->iH (Z6 X.prog X.w) X.A (isTrue e X.env (Z0 e X.env)) (TP X Z9 σ Q) X.xe s
instance{X:Cx}{e:Z4}{t:TT}:CoeFun (PT X e t) (λ_=>∀(Z9:Pns)(s:iF)(σ:St)(H:Hp)(Q:Bool->Hp->Prop),Inv X Z9 σ H s->t σ H Q->iH (Z6 X.prog X.w) X.A (isTrue e X.env (Z0 e X.env)) (TP X Z9 σ Q) X.xe s):=⟨λh=>h.run⟩
structure PW(X:Cx)(e:Z4)(t:TT):Prop where
 run:∀(whole:Sem iC)(Z9:Pns)(s:iF)(σ:St)(H:Hp)(Q:Bool->Hp->Prop),Inv X Z9 σ H s->t σ H Q->iH (Z6 X.prog X.w) X.A (isTrue e X.env whole) (TP X Z9 σ Q) X.xe s
instance{X:Cx}{e:Z4}{t:TT}:CoeFun (PW X e t) (λ_=>∀(whole:Sem iC)(Z9:Pns)(s:iF)(σ:St)(H:Hp)(Q:Bool->Hp->Prop),Inv X Z9 σ H s->t σ H Q->iH (Z6 X.prog X.w) X.A (isTrue e X.env whole) (TP X Z9 σ Q) X.xe s):=⟨λh=>h.run⟩
variable{e:Z4}
theorem PW.pt{t:TT}(h:PW X e t):PT X e t:=⟨h.run _⟩
structure PA(X:Cx)(es:List Z4)(t:TA):Prop where
 run:∀(pos:Pos)(Z9:Pns)(s:iF)(σ:St)(H:Hp)(Q:List V->Hp->Prop),Inv X Z9 σ H s->t σ H Q->iH (Z6 X.prog X.w) X.A (spliced (j0 pos (iI es X.env))) (AP X Z9 σ Q) X.xe s
instance{X:Cx}{es:List Z4}{t:TA}:CoeFun (PA X es t) (λ_=>∀(pos:Pos)(Z9:Pns)(s:iF)(σ:St)(H:Hp)(Q:List V->Hp->Prop),Inv X Z9 σ H s->t σ H Q->iH (Z6 X.prog X.w) X.A (spliced (j0 pos (iI es X.env))) (AP X Z9 σ Q) X.xe s):=⟨λh=>h.run⟩
structure PS(X:Cx)(st:Z3)(t:TS):Prop where
 run:∀(Z9:Pns)(s:iF)(σ:St)(H:Hp)(D:Ends),Inv X Z9 σ H s->t D σ H->iH (Z6 X.prog X.w) X.A (exec st X.env) (SP X Z9 D) X.xe s
instance{X:Cx}{st:Z3}{t:TS}:CoeFun (PS X st t) (λ_=>∀(Z9:Pns)(s:iF)(σ:St)(H:Hp)(D:Ends),Inv X Z9 σ H s->t D σ H->iH (Z6 X.prog X.w) X.A (exec st X.env) (SP X Z9 D) X.xe s):=⟨λh=>h.run⟩
structure PSs(X:Cx)(st:List Z3)(t:TS):Prop where
 run:∀(Z9:Pns)(s:iF)(σ:St)(H:Hp)(D:Ends),Inv X Z9 σ H s->t D σ H->iH (Z6 X.prog X.w) X.A (execs st X.env) (SP X Z9 D) X.xe s
instance{X:Cx}{st:List Z3}{t:TS}:CoeFun (PSs X st t) (λ_=>∀(Z9:Pns)(s:iF)(σ:St)(H:Hp)(D:Ends),Inv X Z9 σ H s->t D σ H->iH (Z6 X.prog X.w) X.A (execs st X.env) (SP X Z9 D) X.xe s):=⟨λh=>h.run⟩
variable{A:iT}{E:iC->iF->Prop}
theorem thn{t:Sem α}{Q b:α->iF->Prop}{M:Model}(h:iH M A t Q E s)(c:∀a s,Q a s->b a s):iH M A t b E s:=lI h c λ_ _ x=>x
variable{σ:St}{pos:Pos}{Q:iC->iF->Prop}{ta:TE}{c:Z4}
section
def qjZ(i:Nat):TE:=λσ H Q=>∃v,σ[i]?=iw (iw v)/\Q v H
def tC(v:V):TE:=λ_ H Q=>Q v H
abbrev Dbg(x:Str):Prop:=(x == ("__debug__":Str))=iE
abbrev Cdk(x:Str):Prop:=(x == ("__classdict__":Str))=iE
theorem vB(j:X.N[i]?=iw x)(f:Vis X.env.scope x)(hd:Dbg x:=by decide)(d:Cdk x:=by decide):PE X (.Name x pos) (qjZ i):=by
 refine⟨?_⟩;intro Z9 s σ H Q I h;obtain⟨v,e,h⟩:=h;obtain⟨m,n,hl⟩:=I.loc;obtain⟨u,r,l⟩:=hl i x v j e f;have fin:EP X Z9 σ Q u s:=⟨v,H,I,r,h⟩
 rcases l with⟨k,g⟩|⟨k,c,b,a⟩
 .exact wpAny_Name (wpAny_loadName_local I.ok.kind k n g fin) hd
 .rcases k with k|k;·exact wpAny_Name (wpAny_loadName_cell I.ok.kind k b a fin) hd
  .exact wpAny_Name (wpAny_loadName_free I.ok.kind k b a fin d) hd
theorem qgl{i j pos}:PE X (.Constant (.int i) j pos) (tC (.int i)):=⟨λ_ _ _ H _ I h=>wpAny_Constant_int ⟨.int i,H,I.tok _,⟨_,rfl⟩,h⟩⟩
theorem qiu{b j pos}:PE X (.Constant (.bool b) j pos) (tC (.bl b)):=⟨λ_ _ _ H _ I h=>Constant_bool ⟨.bl b,H,I,rfl,h⟩⟩
theorem qgm{j pos}:PE X (.Constant .none j pos) (tC .non):=⟨λ_ _ _ H _ I h=>Constant_none ⟨.non,H,I,rfl,h⟩⟩
theorem qdA{x j pos}:PE X (.Constant (.str x) j pos) (tC (.str x)):=⟨λ_ _ _ H _ I h=>Calls.Constant_str ⟨.str x,H,I.tok _,⟨_,rfl⟩,h⟩⟩
def Gl(X:Cx)(x:Str):Prop:=X.env.kindOf x=iw .globalImplicit
theorem Jy{E:iC->iF->Prop}{pos:Pos}(I:Inv X Z9 σ H s)(hg:Gl X x)(c:X.mg x=iw u)(h:Q u s)(hd:Dbg x:=by decide):iH (Z6 X.prog X.w) X.A (Z0 (.Name x pos) X.env) Q E s:=
 Calls.Name_function_global I.ok.kind hg (Calls.loadGlobal_global (by rw[I.ok.glob];exact I.mod.glob.keeps I.bk) c h) hd
theorem yy{E:iC->iF->Prop}{pos:Pos}(I:Inv X Z9 σ H s)(hg:Gl X x)(m:X.mg x=iB)(c:iJ x=iw u)(h:Q u s)(n:x ≠ "__name__":=by decide)(hd:Dbg x:=by decide):iH (Z6 X.prog X.w) X.A (Z0 (.Name x pos) X.env) Q E s:=by
 obtain⟨mb,h1,h2⟩:=I.mod.blt;exact Calls.Name_function_global I.ok.kind hg (Calls.loadGlobal_builtin (by rw[I.ok.glob];exact I.mod.glob.keeps I.bk) m (by rw[I.ok.blt];exact h1.keeps I.bk) ((h2 x n).trans c) h) hd
theorem qef(hg:Gl X x)(c:X.mg x=iw u)(r:RelV v u)(hd:Dbg x:=by decide):PE X (.Name x pos) (tC v):=⟨λ_ _ _ H _ I h=>Jy I hg c ⟨v,H,I,r,h⟩ hd⟩
theorem qeg(hg:Gl X x)(m:X.mg x=iB)(c:iJ x=iw u)(r:RelV v u)(n:x ≠ "__name__":=by decide)(hd:Dbg x:=by decide):PE X (.Name x pos) (tC v):=⟨λ_ _ _ H _ I h=>yy I hg m c ⟨v,H,I,r,h⟩ n hd⟩
variable{a b:Z4}{tb:TE}
variable{tA tB':TT}{rest:List Z4}
def qj0(t u:TT):TT:=λσ H Q=>t σ H λc H1=>if c=iD then u σ H1 Q else Q iE H1
def tOr(t u:TT):TT:=λσ H Q=>t σ H λc H1=>if c=iD then Q iD H1 else u σ H1 Q
def qj1(t:TT):TT:=λσ H Q=>t σ H λc H1=>Q (!c) H1
theorem qeh(f:PT X a tA):PW X (.BoolOp .And [a] pos) tA:=by
 refine⟨?_⟩;intro w Z9 s σ H Q I h;refine isTrue_and (thn (f Z9 s σ H Q I h) λc s1 e=>?_);cases c with
 |true=>exact isTrue_and_nil e
 |false=>exact e
theorem qgn(f:PT X a tA):PW X (.BoolOp .Or [a] pos) tA:=by
 refine⟨?_⟩;intro w Z9 s σ H Q I h;refine isTrue_or (thn (f Z9 s σ H Q I h) λc s1 e=>?_);cases c with
 |false=>exact isTrue_or_nil e
 |true=>exact e
theorem qgo(f:PT X a tA)(hb:PW X (.BoolOp .And (b::rest) pos) tB'):PW X (.BoolOp .And (a::b::rest) pos) (qj0 tA tB'):=by
 refine⟨?_⟩;intro w Z9 s σ H Q I h;refine isTrue_and (thn (f Z9 s σ H _ I h) λc s1 z=>?_);obtain⟨H1,d,q⟩:=z;cases c with
 |true=>exact hb w Z9 s1 σ H1 Q d q
 |false=>exact⟨H1,d,q⟩
theorem qiv(f:PT X a tA)(hb:PW X (.BoolOp .Or (b::rest) pos) tB'):PW X (.BoolOp .Or (a::b::rest) pos) (tOr tA tB'):=by
 refine⟨?_⟩;intro w Z9 s σ H Q I h;refine isTrue_or (thn (f Z9 s σ H _ I h) λc s1 z=>?_);obtain⟨H1,d,q⟩:=z;cases c with
 |true=>exact⟨H1,d,q⟩
 |false=>exact hb w Z9 s1 σ H1 Q d q
theorem qgp(f:PT X a tA):PT X (.UnaryOp .Not a pos) (qj1 tA):=by refine⟨?_⟩;intro Z9 s σ H Q I h;exact isTrue_not (f Z9 s σ H (λc H1=>Q (!c) H1) I h)
def qiw(ta tb:TE):TE:=λσ H Q=>ta σ H λx H1=>∃c,x=.bl c/\if c=iD then tb σ H1 Q else Q (.bl iE) H1
def qj2(ta tb:TE):TE:=λσ H Q=>ta σ H λx H1=>∃c,x=.bl c/\if c=iD then Q (.bl iD) H1 else tb σ H1 Q
theorem qgq{op}{t:TE}(h:PE X a t):PE X (.BoolOp op [a] pos) t:=⟨λZ9 s σ H Q I hw=>BoolOp_one (h Z9 s σ H Q I hw)⟩
theorem qgr(f:PE X a ta)(hb:PE X (.BoolOp .And (b::rest) pos) tb):PE X (.BoolOp .And (a::b::rest) pos) (qiw ta tb):=by
 refine⟨?_⟩;intro Z9 s σ H Q I h;refine BoolOp_and (thn (f Z9 s σ H _ I h) λv s1 z=>?_);obtain⟨x,H1,d,r1,q⟩:=z;obtain⟨c,rfl,q⟩:=q;cases r1;refine i6 ?_;cases c with
 |true=>exact hb Z9 s1 σ H1 Q d q
 |false=>exact⟨.bl iE,H1,d,rfl,q⟩
theorem qix(f:PE X a ta)(hb:PE X (.BoolOp .Or (b::rest) pos) tb):PE X (.BoolOp .Or (a::b::rest) pos) (qj2 ta tb):=by
 refine⟨?_⟩;intro Z9 s σ H Q I h;refine BoolOp_or (thn (f Z9 s σ H _ I h) λv s1 z=>?_);obtain⟨x,H1,d,r1,q⟩:=z;obtain⟨c,rfl,q⟩:=q;cases r1;refine i6 ?_;cases c with
 |false=>exact hb Z9 s1 σ H1 Q d q
 |true=>exact⟨.bl iD,H1,d,rfl,q⟩
def tIf(t:TT)(ta tb:TE):TE:=λσ H Q=>t σ H λc H1=>if c=iD then ta σ H1 Q else tb σ H1 Q
theorem UR(f:PT X c tA)(g:PE X a ta)(hb:PE X b tb):PE X (.IfExp c a b pos) (tIf tA ta tb):=by
 refine⟨?_⟩;intro Z9 s σ H Q I h;refine wpAny_IfExp (thn (f Z9 s σ H _ I h) λd s1 z=>?_);obtain⟨H1,e,q⟩:=z;cases d with
 |true=>exact g Z9 s1 σ H1 Q e q
 |false=>exact hb Z9 s1 σ H1 Q e q
end
def SqL(K:Y9)(H:Hp)(a:Z7)(xs:List V):Prop:=
 Rd H a (.lst xs) \/
  ∃(o:Obj)(its:Array iC)(n:Nat),K.lookup a=iw o/\o.cls=.type "list"/\o.dict=iB/\o.data=.seq its n/\its.size<=Z8/\Vals xs its.toList
def SqT(K:Y9)(H:Hp)(a:Z7)(xs:List V):Prop:=
 Rd H a (.tup xs) \/
  ∃(o:Obj)(its:Array iC)(n:Nat),K.lookup a=iw o/\(o.cls=.type "tuple"/\o.dict=iB)/\o.data=.seq its n/\its.size<=Z8/\Vals xs its.toList
noncomputable def qj3:iC->Option V
 |.none=>iw .non
 |.bool b=>iw (.bl b)
 |.int i _=>iw (.int i)
 |.str x _=>iw (.str x)
 |.bytes b _=>iw (.byt b)
 |.float b _=>iw (.flt b)
 |.ref a=>iw (.ref a)
 |.type n=>iw (.ty n)
 |_=>iB
theorem RelV.abs{x:V}(r:RelV x u):qj3 u=iw x:=by
 cases x with
 |non=>cases r;rfl
 |bl _=>cases r;rfl
 |int _=>obtain⟨t,rfl⟩:=r;rfl
 |str _=>obtain⟨t,rfl⟩:=r;rfl
 |byt _=>obtain⟨t,rfl⟩:=r;rfl
 |flt _=>obtain⟨t,rfl⟩:=r;rfl
 |ref _=>cases r;rfl
 |ty _=>cases r;rfl
variable{y:V}
theorem RelV.inj{x:V}(r:RelV x u)(q:RelV y u):x=y:=aL.inj (r.abs.symm.trans q.abs)
variable{ys:List V}
theorem Vals.inj(h:Vals xs us)(h':Vals ys us):xs=ys:=by
 induction h generalizing ys with
 |nil=>cases h';rfl
 |cons r t j=>
  cases h' with
  |cons r' t'=>rw[r.inj r',j t']
variable{K:Y9}
section
theorem SqT.of(h:H a=iw (.tup xs)):SqT K H a xs:=.inl (.inl h)
theorem Inv.list(I:Inv X Z9 σ H s)(h:SqL X.K H a xs):∃its:List iC,Vals xs its/\PlainL s.heap a its.toArray/\xs.length<=Z8:=by
 rcases h with h|⟨o,its,n,hk,hc,hd,hs,hz,r⟩
 .obtain⟨z,its,n,r,e⟩:=h.ok I.hok;exact⟨its,r,⟨_,n,e,rfl,rfl,rfl⟩,z⟩
 .refine⟨its.toList,r,⟨o,n,I.kIn a o hk,hc,hd,by simpa using hs⟩,?_⟩;have e:=r.length;simp only[bm]at e
  lia
theorem Inv.tuple(I:Inv X Z9 σ H s)(h:SqT X.K H a xs):∃its:List iC,Vals xs its/\IsTup s.heap a its.toArray/\xs.length<=Z8:=by
 rcases h with h|⟨o,its,n,hk,hc,hs,hz,r⟩
 .obtain⟨⟨z,_⟩,its,r,p⟩:=h.ok I.hok;exact⟨its,r,p,z⟩
 .refine⟨its.toList,r,⟨o,I.kIn a o hk,hc.1,n,by simpa using hs⟩,?_⟩;have e:=r.length;simp only[bm]at e
  lia
theorem Inv.tupleN(I:Inv X Z9 σ H s)(h:SqT X.K H a xs):∃o,s.heap.get? a=iw o/\o.dict=none:=by
 rcases h with h|⟨o,its,n,hk,hc,hs,hz,r⟩
 .obtain⟨⟨z,w⟩,its,r,p⟩:=h.ok I.hok;exact w
 .exact⟨o,I.kIn a o hk,hc.2⟩
theorem Inv.list_inj(I:Inv X Z9 σ H s)(h:SqL X.K H a xs)(h':SqL X.K H a ys):xs=ys:=by
 obtain⟨its,r,⟨o,n,e,_,_,d⟩,_⟩:=I.list h;obtain⟨its',r',⟨o',c,b,_,_,d'⟩,_⟩:=I.list h';rw[e]at b;cases b;rw[d]at d';injection d' with d1 _;have:its=its':=by simpa using congrArg Array.toList d1
 subst this;exact r.inj r'
theorem Inv.tuple_inj(I:Inv X Z9 σ H s)(h:SqT X.K H a xs)(h':SqT X.K H a ys):xs=ys:=by
 obtain⟨its,r,⟨o,e,_,n,d⟩,_⟩:=I.tuple h;obtain⟨its',r',⟨o',b,_,c,d'⟩,_⟩:=I.tuple h';rw[e]at b;cases b;rw[d]at d';injection d' with d1 _;have:its=its':=by simpa using congrArg Array.toList d1
 subst this;exact r.inj r'
end
variable{te:TE}{tc:TT}
section
variable{st:Z3}{rest:List Z3}{t u:TS}
def qiy:TS:=λD σ H=>D.nx σ H
def qj4(t u:TS):TS:=λD σ H=>t { D with nx:=u D } σ H
theorem qei:PSs X [] qiy:=⟨λ_ _ σ H _ I h=>lY ⟨σ,H,I,h⟩⟩
set_option tactic.hygienic true in
theorem zO(h1:PS X st t)(h2:PSs X rest u):PSs X (st::rest) (qj4 t u):=by
 refine⟨?_⟩;intro Z9 s σ H D I h;refine wpAny_execs_cons (thn (h1 Z9 s σ H { D with nx:=u D } I h) λf s1 q=>?_);cases f with
 |next=>obtain⟨σ',H',b,q⟩:=q;exact h2 Z9 s1 σ' H' D b q
 |ret v=>exact q
 |brk=>exact q
 |cont=>exact q
set_option tactic.hygienic true in
theorem Wu(h1:PS X st t):PSs X [st] t:=by
 refine⟨?_⟩;intro Z9 s σ H D I h;refine wpAny_execs_cons (thn (h1 Z9 s σ H D I h) λf s1 q=>?_);cases f with
 |next=>exact lY q
 |ret v=>exact q
 |brk=>exact q
 |cont=>exact q
theorem Inv.quiet(I:Inv X Z9 σ H s):interactive X.env=false:=by simp[interactive,I.ok.kind]
def qiz(te:TE):TS:=λD σ H=>te σ H λ_ H1=>D.nx σ H1
theorem qej(g:PE X e te)(hs:lh e iB pos.line X.env=pure false:=by rfl):PS X (.Expr e pos) (qiz te):=by refine⟨?_⟩;intro Z9 s σ H D I h;exact wpAny_Expr_any (thn (g Z9 s σ H _ I h) λv s1 ⟨x,H1,d,r1,q⟩=>⟨σ,H1,d,q⟩) I.quiet hs
def qj5(te:TE):TS:=λD σ H=>te σ H D.rt
theorem qdB(g:PE X e te):PS X (.Return (iw e) pos) (qj5 te):=by refine⟨?_⟩;intro Z9 s σ H D I h;exact wpAny_Return_some (thn (g Z9 s σ H _ I h) λv s1 ⟨x,H1,d,r1,q⟩=>⟨x,σ,H1,d,r1,q⟩)
def qj6(c:TT)(t u:TS):TS:=λD σ H=>c σ H λb H1=>if b=iD then t D σ H1 else u D σ H1
theorem qiA{a b:List Z3}(f:PT X c tc)(g:PSs X a t)(hb:PSs X b u):PS X (.If c a b pos) (qj6 tc t u):=by
 refine⟨?_⟩;intro Z9 s σ H D I h;refine wpAny_If (thn (f Z9 s σ H _ I h) λd s1 z=>?_);obtain⟨H1,e,q⟩:=z;cases d with
 |true=>exact g Z9 s1 σ H1 D e q
 |false=>exact hb Z9 s1 σ H1 D e q
end
abbrev TG:=V->St->Hp->(St->Hp->Prop)->Prop
abbrev TGs:=List V->St->Hp->(St->Hp->Prop)->Prop
structure PG(X:Cx)(target:Z4)(t:TG):Prop where
 run:∀(Z9:Pns)(s:iF)(σ:St)(H:Hp)(v:V)(u:iC)(Q:St->Hp->Prop),Inv X Z9 σ H s->RelV v u->t v σ H Q ->iH (Z6 X.prog X.w) X.A (assign target X.env u) (λ_ s'=>∃σ' H',Inv X Z9 σ' H' s'/\Q σ' H') X.xe s
instance{X:Cx}{target:Z4}{t:TG}:CoeFun (PG X target t) (λ_=>∀(Z9:Pns)(s:iF)(σ:St)(H:Hp)(v:V)(u:iC)(Q:St->Hp->Prop),Inv X Z9 σ H s->RelV v u->t v σ H Q ->iH (Z6 X.prog X.w) X.A (assign target X.env u) (λ_ s'=>∃σ' H',Inv X Z9 σ' H' s'/\Q σ' H') X.xe s):=⟨λh=>h.run⟩
structure PGs(X:Cx)(ts:List Z4)(t:TGs):Prop where
 run:∀(Z9:Pns)(s:iF)(σ:St)(H:Hp)(vs:List V)(us:List iC)(Q:St->Hp->Prop),Inv X Z9 σ H s->Vals vs us->t vs σ H Q ->iH (Z6 X.prog X.w) X.A (mj ((j4 ts X.env).map (·.2)) us) (λ_ s'=>∃σ' H',Inv X Z9 σ' H' s'/\Q σ' H') X.xe s
instance{X:Cx}{ts:List Z4}{t:TGs}:CoeFun (PGs X ts t) (λ_=>∀(Z9:Pns)(s:iF)(σ:St)(H:Hp)(vs:List V)(us:List iC)(Q:St->Hp->Prop),Inv X Z9 σ H s->Vals vs us->t vs σ H Q ->iH (Z6 X.prog X.w) X.A (mj ((j4 ts X.env).map (·.2)) us) (λ_ s'=>∃σ' H',Inv X Z9 σ' H' s'/\Q σ' H') X.xe s):=⟨λh=>h.run⟩
abbrev qiB:=V->V->V->Hp->(Hp->Prop)->Prop
def qjE(X:Cx)(t:qiB):Prop:=
 ∀(Z9:Pns)(s:iF)(σ:St)(H:Hp)(o i v:V)(a b u:iC)(Q:Hp->Prop),Inv X Z9 σ H s->RelV o a->RelV i b->RelV v u->t o i v H Q ->iH (Z6 X.prog X.w) X.A (setItem a b u) (λ_ s'=>∃H',Inv X Z9 σ H' s'/\Q H') X.xe s
variable{es:List Z4}{tg:Z4}{pos':Pos}
section
def qgs(i:Nat):TG:=λv σ H Q=>Q (σ.set i (iw v)) H
theorem qek(a:X.N.Nodup)(hi:X.N[i]?=iw x)(hx:Loc X.env.scope x)(f:X.fn x=iD\/X.env.scope.names.lookup x=iw .local:=by first|exact .inl rfl|exact .inr rfl|assumption):PG X (.Name x pos) (qgs i):=by refine⟨?_⟩;intro Z9 s σ H v u Q I r h;exact wpAny_assign_Name (zN I a hi hx r (λs' b=>⟨_,H,b,h⟩) f)
def qj7:TGs:=λvs σ H Q=>vs=[]/\Q σ H
def qiC(t:TG)(u:TGs):TGs:=λvs σ H Q=>∃v r,vs=v::r/\t v σ H λσ' H'=>u r σ' H' Q
theorem qel:PGs X [] qj7:=by refine⟨?_⟩;intro Z9 s σ H vs us Q I r h;obtain⟨e,h⟩:=h;subst e;cases r;exact assignInOrder_nil ⟨σ,H,I,h⟩
theorem qbT{t:TG}{u:TGs}(h1:PG X e t)(h2:PGs X es u)(hs:(j4 (e::es) X.env).map (·.2)=assign e X.env::(j4 es X.env).map (·.2):=by rfl):PGs X (e::es) (qiC t u):=by
 refine⟨?_⟩;intro Z9 s σ H vs us Q I r h;obtain⟨v,vr,e1,h⟩:=h;subst e1;cases r with
 |cons r rr=>rw[hs];refine assignInOrder_cons (thn (h1 Z9 s σ H _ _ _ I r h) λ_ s1 z=>?_);obtain⟨σ1,H1,d,q⟩:=z;exact h2 Z9 s1 σ1 H1 _ _ Q d rr q
def qj8(K:Y9)(n:Nat)(t:TGs):TG:=λv σ H Q=>∃a xs,v=.ref a/\SqT K H a xs/\xs.length=n/\t xs σ H Q
theorem qgt{k:Nat}{t:TGs}{n:Nat}(g:X.calm=iD)(h:PGs X es t)(f:(j4 es X.env).length=n:=by rfl)(c:(j4 es X.env).findIdx? (·.1)=none:=by rfl):PG X (.Tuple es k pos) (qj8 X.K n t):=by
 refine⟨?_⟩;intro Z9 s σ H v u Q I r hw;obtain⟨a,xs,e1,hq,hl,hw⟩:=hw;subst e1;cases r;obtain⟨its,d,ht,hz⟩:=I.tuple hq;refine assign_Tuple_tuple (I.ok.hd g) ht (by simp[f,<-hl,d.length]) c λh' hx=>?_;have i:Inv X Z9 σ H { s with heap:=h' }:=I.kept (t':=s.toks) λb o e=>hx b o (ax (aw e)) e;exact h Z9 _ σ H xs _ Q i (by simpa using d) hw
def qj9(to a:TE)(t:qiB):TG:=λv σ H Q=>to σ H λo H1=>a σ H1 λi H2=>t o i v H2 λb=>Q σ b
theorem qdC{o i:Z4}{to c:TE}{t:qiB}(l:PE X o to)(hi:PE X i c)(hs:qjE X t)
  (f:∀v,assign (.Subscript o i pos) X.env v=(do
   let a <-holding [v] (Z0 o X.env)
   let b <-holding [v,a] (Z0 i X.env)
   l6 pos
   holding [v,a,b] (setItem a b v)
   release [v,a,b] []):=by intro _;rfl):PG X (.Subscript o i pos) (qj9 to c t):=by
 refine⟨?_⟩;intro Z9 s σ H v u Q I r h;rw[f];refine iA (iR (thn (l Z9 s σ H _ I h) λa s1 z=>?_));obtain⟨x,H1,k,r1,e⟩:=z;refine iA (iR (thn (hi Z9 s1 σ H1 _ k e) λb s2 z=>?_));obtain⟨y,H2,j,r2,d⟩:=z;refine iA (ml (iA (iR (thn (hs Z9 s2 σ H2 x y v a b u _ j r1 r2 r d) λ_ s3 z=>?_))));obtain⟨m,g,q⟩:=z;exact wpAny_release ⟨σ,m,g,q⟩
def qjF(te:TE)(g:TG):TS:=λD σ H=>te σ H λx H1=>g x σ H1 D.nx
theorem ZI{g:TG}(b:PE X e te)(hg:PG X tg g)(hs:lE [tg] e pos.line X.env=pure false:=by rfl)(hw:lF [tg] e X.env=pure none:=by rfl)(h1:(j4 [tg] X.env).map (·.2)=[assign tg X.env]:=by rfl):PS X (.Assign [tg] e pos) (qjF te g):=by
 refine⟨?_⟩;intro Z9 s σ H D I h;refine wpAny_Assign_stores (thn (b Z9 s σ H _ I h) λv s1 z=>?_) hs hw;obtain⟨x,H1,d,r1,a⟩:=z;rw[h1];exact thn (hg Z9 s1 σ H1 x v _ d r1 a) λ_ s2 q=>q
theorem qdD(a:X.N.Nodup)(hi:X.N[i]?=iw x)(hx:Loc X.env.scope x)(g:PE X e te)(hs:lh e (iw (.Name x pos')) pos.line X.env=pure false:=by rfl)(f:X.fn x=iD\/X.env.scope.names.lookup x=iw .local:=by first|exact .inl rfl|exact .inr rfl|assumption):PS X (.Assign [.Name x pos'] e pos) (qjF te (qgs i)):=by refine⟨?_⟩;intro Z9 s σ H D I h;refine wpAny_Assign_Name (thn (g Z9 s σ H _ I h) λv s1 z=>?_) hs;obtain⟨y,H1,d,r1,q⟩:=z;exact zN d a hi hx r1 (λs2 j=>⟨_,H1,j,q⟩) f
def qka(i j:Nat)(ta:TA):TS:=λD σ H=>ta σ H λvs H1=>∃v w,vs=[v,w]/\D.nx ((σ.set i (iw v)).set j (iw w)) H1
set_option tactic.hygienic true in
theorem qgu{y:Str}{a b:Z4}{ta:TA}{px py pt:Pos}{kt k2 pt2}(B:X.calm=iD)(l:X.N.Nodup)(hi:X.N[i]?=iw x)(t:X.N[j]?=iw y)(g:i≠j)(hx:X.env.scope.names.lookup x=iw .local)(k:X.env.scope.names.lookup y=iw .local)(C:PA X [a,b] ta)(hw:lF [.Tuple [.Name x px,.Name y py] kt pt] (.Tuple [a,b] k2 pt2) X.env=pure (iw [x,y]))(hs:lE [.Tuple [.Name x px,.Name y py] kt pt] (.Tuple [a,b] k2 pt2) pos.line X.env=pure false:=by rfl) :
  PS X (.Assign [.Tuple [.Name x px,.Name y py] kt pt] (.Tuple [a,b] k2 pt2) pos) (qka i j ta):=by
 refine⟨?_⟩;intro Z9 s σ H D I h;rw[exec_Assign_arm];refine iA (ml ?_);rw[hs];refine iA (iG ?_);rw[Ab (by decide)];refine iA (Tuple_ (thn (C _ Z9 s σ H _ I h) λus s1 z=>?_));obtain⟨vs,H1,K,r1,d⟩:=z;obtain⟨v,w,e1,d⟩:=d;subst e1;obtain⟨c,u,rfl,rv,rw'⟩:∃c u,us=[c,u]/\RelV v c/\RelV w u:=by
  cases r1 with
  |cons p q=>
   cases q with
   |cons r n=>cases n;exact⟨_,_,rfl,p,r⟩
 refine iS ?_ (by show 2<=Z8;decide);have J:Inv X Z9 σ H1 { s1 with heap:=s1.heap.push { cls:=.type "tuple",data:=.seq [c,u].toArray } }:=K.kept (t':=s1.toks) λb o e=>aa _ e;rw[hw];refine iA (iG ?_);show iH (Z6 X.prog X.w) X.A (do rule "assign.swapped-stores";let items <-unpackItems (.ref s1.heap.objs.size) 2 iB;mj [λv=>bindName X.env y v,λv=>bindName X.env x v] items.reverse;pure Flow.next) _ _ _;refine iA (lw (iA (unpackItems_tuple (items:=#[c,u]) (I.ok.hd B) (IsTup.new s1.heap _) λh' f=>?_)));have G:=J.kept (h':=h') (t':=s1.toks) λb o e=>f b o (ax (aw e)) e;show iH _ _ (mj [λv=>bindName X.env y v,λv=>bindName X.env x v] [u,c] >>= λ_=>pure Flow.next) _ _ _;refine iA (assignInOrder_cons (wpAny_bindName (zN G l t (.inl k) rw' (λs2 E=>?_) (.inr k))));refine assignInOrder_cons (wpAny_bindName (zN E l hi (.inl hx) rv (λs3 m=>assignInOrder_nil (iG ?_)) (.inr hx)));rw[List.set_comm _ _ (aW g)]at m;exact⟨_,H1,m,d⟩
end
variable{tb:TS}{body:List Z3}
section
def qgv(c:TT)(tb:TS):TS:=λD σ H=>∃W:Nat->St->Hp->Prop,(∃m,W m σ H)/\∀m σ H,W m σ H ->c σ H λb H1=>if b=iD then ∃N:St->Hp->Prop,(∀σ' H',N σ' H'->∃d,d<m/\W d σ' H')/\tb { D with nx:=N,ct:=N,bk:=D.nx } σ H1 else D.nx σ H1
set_option tactic.hygienic true in
theorem qbU(hp:mL (Z6 X.prog X.w) X.A X.env X.xe)(r:PT X c tc)(hb:PSs X body tb):PS X (.While c body [] pos) (qgv tc tb):=by
 refine⟨?_⟩;intro Z9 s σ H D I h;obtain⟨W,⟨m0,w0⟩,t⟩:=h;refine wpAny_While (codeAny_whileLoop (λn s'=>∃σ' H',Inv X Z9 σ' H' s'/\W n σ' H') ?_ m0 ⟨σ,H,I,w0⟩);rintro n s1 ⟨σ1,H1,u,p⟩;refine lm hp (thn (r Z9 s1 σ1 H1 _ u (t n σ1 H1 p)) λb s2 z=>?_);obtain⟨H2,o,e⟩:=z;cases b with
 |true=>
  obtain⟨N,l,e⟩:=e;rw[Aa rfl];refine lm hp (thn (hb Z9 s2 σ1 H2 _ o e) λf s3 q=>?_);cases f with
  |next=>obtain⟨a,d,k,i⟩:=q;obtain⟨m,j,g⟩:=l a d i;exact⟨m,j,a,d,k,g⟩
  |cont=>obtain⟨a,d,k,i⟩:=q;obtain⟨m,j,g⟩:=l a d i;exact⟨m,j,a,d,k,g⟩
  |brk=>exact q
  |ret v=>exact q
 |false=>rw[Ab b8];exact lY ⟨σ1,H2,o,e⟩
end
structure It where
 go:Nat->Hp->Prop
 yld:Nat->Hp->V->Hp->Prop
 stop:Nat->Hp->Prop
def Wo(X:Cx)(Z9:Pns)(H:Hp)(b:Z7):Prop:=
 H b=iB/\b≠X.env.locals/\b∉X.fs/\(b∈X.ex\/X.s₀.heap.objs.size<=b)/\(∀x c,X.env.cells.lookup x=iw c->c≠b)/\∀p∈X.pn++Z9,p.1≠b
theorem Inv.fpOk(I:Inv X Z9 σ H s)(hb:s.heap.objs.size<=b)(n:H' b=iB):Wo X Z9 H' b:=by
 refine⟨n,cq (aH I.lt hb),I.nofs hb,.inr (bb I.sz hb),λx c e z=>?_,λp hp z=>?_⟩;·obtain⟨v,q⟩:=I.cell x c e;exact absurd (aH q.lt (by rw[z];exact hb)) (bS _)
 .exact absurd (aH (aw (I.pin p hp).1) (by rw[z];exact hb)) (bS _)
structure Turn(P:iK)(w:iL)(K:Y9)(tg:Z4)(J:It)(fp:List Z7)(it:Z7)(tn:Nat->Z5->Prop):Prop where
 mem:it∈fp
 obj:∀i h,tn i h->∀b∈fp,∃o,h.get? b=iw o/\∀v,o.data≠.cell v
 keep:∀i h h',tn i h->(∀b∈fp,∀o,h.get? b=iw o->h'.get? b=iw o)->tn i h'
 item:∀(X:Cx),X.prog=P->X.w=w->X.K=K->X.calm=iD->∀(i:Nat)(Z9:Pns)(s:iF)(σ:St)(H:Hp)(E:iC->iF->Prop),Inv X Z9 σ H s->(∀b∈fp,Wo X Z9 H b)->tn i s.heap->J.go i H ->iH (Z6 P w) X.A (j7 (.ref it)) (λr s1=>∃u,r=iw u /\
   iH (Z6 P w) X.A (lZ tg (.ref it) u) (λ_ s2=>∃x H',Inv X Z9 σ H' s2/\RelV x u/\J.yld i H x H'/\tn (i+1) s2.heap/\∀b∈fp,H' b=iB) E s1) E s
 done:∀(X:Cx),X.prog=P->X.w=w->X.K=K->X.calm=iD->∀(i:Nat)(Z9:Pns)(s:iF)(σ:St)(H:Hp)(E:iC->iF->Prop),Inv X Z9 σ H s->(∀b∈fp,Wo X Z9 H b)->tn i s.heap->J.stop i H ->iH (Z6 P w) X.A (j7 (.ref it)) (λr s1=>r=iB/\Inv X Z9 σ H s1) E s
 self:∀(A:iT)(i:Nat)(s:iF)(Q:iC->iF->Prop)(E:iC->iF->Prop),tn i s.heap->Q (.ref it) s->iH (Z6 P w) A (mQ (.ref it)) Q E s
abbrev TI:=St->Hp->(It->Hp->Prop)->Prop
def PIE(X:Cx)(Z9:Pns)(σ:St)(tg:Z4)(R:It->Hp->Prop)(i:iC)(s2:iF):Prop:=
 ∃(it:Z7)(fp:List Z7)(tn:Nat->Z5->Prop)(J:It)(H':Hp),i=.ref it/\Inv X Z9 σ H' s2/\Turn X.prog X.w X.K tg J fp it tn/\tn 0 s2.heap/\(∀b∈fp,Wo X Z9 H' b)/\R J H'
structure PI(X:Cx)(tg iter:Z4)(wi:TI):Prop where
 run:∀(Z9:Pns)(s:iF)(σ:St)(H:Hp)(R:It->Hp->Prop),Inv X Z9 σ H s->wi σ H R ->iH (Z6 X.prog X.w) X.A (Z0 iter X.env) (λv s1=>iH (Z6 X.prog X.w) X.A (mQ v) (PIE X Z9 σ tg R) X.xe s1) X.xe s
instance{X:Cx}{tg iter:Z4}{wi:TI}:CoeFun (PI X tg iter wi) (λ_=>∀(Z9:Pns)(s:iF)(σ:St)(H:Hp)(R:It->Hp->Prop),Inv X Z9 σ H s->wi σ H R ->iH (Z6 X.prog X.w) X.A (Z0 iter X.env) (λv s1=>iH (Z6 X.prog X.w) X.A (mQ v) (PIE X Z9 σ tg R) X.xe s1) X.xe s):=⟨λh=>h.run⟩
theorem qbV {M:Model} {A:iT} {E:iC->iF->Prop} {tg:Z4} {u:iC} {o:Obj} {n:String} {vs:Array iC} {Q:Unit->iF->Prop} (l:s.heap.get? it=iw o) (d:o.cls=.type n) (hd:o.data=.fields vs)
    (a:["enumerate","zip","dict_itemiterator","dict_reverseitemiterator","odict_iterator","itertools.zip_longest","itertools.pairwise"].contains n=iE) (c:Q () s):iH M A (lZ tg (.ref it) u) Q E s:=by
  unfold lZ;cases tg <;> first
    |exact iG c
    |(cases u <;> first
        |exact iG c
        | (refine iA (wpAny_load l ?_)
           rw[d,hd];show iH M A (if (["enumerate","zip","dict_itemiterator","dict_reverseitemiterator","odict_iterator","itertools.zip_longest","itertools.pairwise"].contains n&&vs[0]? == iw (iX _))=iD then _ else _) Q E s;rw[Ab (by intro h;rw[a,Bool.false_and]at h;cases h)];exact iG c))
noncomputable def Itl(K:Y9)(a:Z7):It:=
 ⟨λi H=>∃xs x,SqL K H a xs/\xs[i]?=iw x,λi H x H'=>H'=H/\∀xs,SqL K H a xs->xs[i]?=iw x,λi H=>∃xs,SqL K H a xs/\xs.length<=i⟩
noncomputable def Itt(K:Y9)(a:Z7):It:=
 ⟨λi H=>∃xs x,SqT K H a xs/\xs[i]?=iw x,λi H x H'=>H'=H/\∀xs,SqT K H a xs->xs[i]?=iw x,λi H=>∃xs,SqT K H a xs/\xs.length<=i⟩
noncomputable def Itr(lo:Int)(n:Nat):It:=⟨λi _=>i<n,λi H x H'=>H'=H/\x=.int (lo+i),λi _=>n<=i⟩
theorem ZJ(a it:Z7):Turn P w K tg (Itl K a) [it] it (λi h=>h.IsListIter it a i) where
 mem:=by simp
 obj:=λi h st b hb=>by
  have e:b=it:=by simpa using hb
  subst e;obtain⟨o,e,c,d⟩:=st;exact⟨o,e,λv z=>by rw[d]at z;cases z⟩
 keep:=λi h h' st k=>st.at λo e=>k it (by simp) o e
 item:=by intro X j hw l q i Z9 s σ H E I g st hg;subst j hw l;obtain⟨xs,x,hq,hx⟩:=hg;obtain⟨its,r,p,hz⟩:=I.list hq;obtain⟨u,B,y⟩:=r.get hx;obtain⟨f0,f1,f2,n,f4,m⟩:=g it (by simp);refine wpAny_pyNext_list_item st p.isList (x:=u) (by simpa using B) λh' f t=>?_;have D:Inv X Z9 σ H { s with heap:=h' }:=I.turned (t':=s.toks) (λb o hb e=>(t.2 b hb).trans e) f0 f1 n f4 m;obtain⟨o,e,c,d⟩:=id f;exact⟨u,rfl,qbV (s:={ s with heap:=h' }) e c d (by decide) ⟨x,H,D,y,⟨rfl,λys A=>by rw[I.list_inj A hq];exact hx⟩,f,λb hb=>(g b hb).1⟩⟩
 done:=by intro X j hw l q i Z9 s σ H E I g st hg;subst j hw l;obtain⟨xs,hq,hx⟩:=hg;obtain⟨its,r,p,hz⟩:=I.list hq;obtain⟨f0,f1,f2,n,f4,m⟩:=g it (by simp);have hl:=r.length;exact wpAny_pyNext_list_end (I.ok.hd q) st p.isList (by simp;lia) λh' C=>⟨rfl,I.turned (t':=s.toks) (λb o hb e=>C b o hb e) f0 f1 n f4 m⟩
 self:=λ_ _ _ _ _ st h=>wpAny_pyIter_listiter st h
theorem XD(a it:Z7):Turn P w K tg (Itt K a) [it] it (λi h=>h.IsTupleIter it a i) where
 mem:=by simp
 obj:=λi h st b hb=>by
  have e:b=it:=by simpa using hb
  subst e;obtain⟨o,e,c,d⟩:=st;exact⟨o,e,λv z=>by rw[d]at z;cases z⟩
 keep:=λi h h' st k=>st.at λo e=>k it (by simp) o e
 item:=by intro X j hw l q i Z9 s σ H E I g st hg;subst j hw l;obtain⟨xs,x,hq,hx⟩:=hg;obtain⟨its,r,p,hz⟩:=I.tuple hq;obtain⟨u,B,y⟩:=r.get hx;obtain⟨f0,f1,f2,n,f4,m⟩:=g it (by simp);refine wpAny_pyNext_tuple_item st (show s.heap.IsTuple a its.toArray from p) (x:=u) (by simpa using B) λh' f t=>?_;have D:Inv X Z9 σ H { s with heap:=h' }:=I.turned (t':=s.toks) (λb o hb e=>(t.2 b hb).trans e) f0 f1 n f4 m;obtain⟨o,e,c,d⟩:=id f;exact⟨u,rfl,qbV (s:={ s with heap:=h' }) e c d (by decide) ⟨x,H,D,y,⟨rfl,λys A=>by rw[I.tuple_inj A hq];exact hx⟩,f,λb hb=>(g b hb).1⟩⟩
 done:=by intro X j hw l q i Z9 s σ H E I g st hg;subst j hw l;obtain⟨xs,hq,hx⟩:=hg;obtain⟨its,r,p,hz⟩:=I.tuple hq;obtain⟨f0,f1,f2,n,f4,m⟩:=g it (by simp);have hl:=r.length;exact wpAny_pyNext_tuple_end (I.ok.hd q) st (show s.heap.IsTuple a its.toArray from p) (by simp;lia) λh' C=>⟨rfl,I.turned (t':=s.toks) (λb o hb e=>C b o hb e) f0 f1 n f4 m⟩
 self:=λ_ _ _ _ _ st h=>wpAny_pyIter_tupleiter st h
theorem XE(it:Z7)(lo:Int)(n:Nat):Turn P w K tg (Itr lo n) [it] it (λi h=>IsRangeIter h it (lo+(i:Nat) * 1) ((n:Int) - (i:Nat)) 1) where
 mem:=by simp
 obj:=λi h st b hb=>by
  have e:b=it:=by simpa using hb
  subst e;exact⟨_,st,λv z=>by have g:Data.fields _=Data.cell v:=z;cases g⟩
 keep:=λi h h' st k=>k it (by simp) _ st
 item:=by intro X j hw l d i Z9 s σ H E I a st hg;subst j hw l;obtain⟨f0,f1,f2,c,f4,m⟩:=a it (by simp);have W:=Walks.range (prog:=X.prog) (w:=X.w) (I.ok.hd d) it lo 1 n;refine W.item i s _ _ hg st λv h' tk q f p=>?_;obtain⟨t,rfl⟩:=q;have r:Inv X Z9 σ H { s with heap:=h',toks:=tk }:=I.turned (λb o hb e=>p b o (by simpa using hb) e) f0 f1 c f4 m;refine⟨_,rfl,qbV (s:={ s with heap:=h',toks:=tk }) (n := "range_iterator") f rfl rfl (by decide) ⟨.int (lo+i),H,r,⟨t,?_⟩,⟨rfl,rfl⟩,f,λb hb=>(a b hb).1⟩⟩;rw[Int.mul_one]
 done:=by intro X j hw l d i Z9 s σ H E I a st hg;subst j hw l;obtain⟨f0,f1,f2,c,f4,m⟩:=a it (by simp);exact wpAny_pyNext_range_end (I.ok.hd d) st (by have:n<=i:=hg;lia) λh' C=>⟨rfl,I.turned (t':=s.toks) (λb o hb e=>C b o hb e) f0 f1 c f4 m⟩
 self:=λ_ _ _ _ _ st h=>wpAny_pyIter_rangeiter st h
variable{p:Pos}{fp:List Z7}
section
theorem qbW{R:It->Hp->Prop}{E:iC->iF->Prop}{lo hi:Int}{t u v:Tok}{tk:Nat}(I:Inv X Z9 σ H s)(h1:-(2 ^ 62)<=lo)(h2:lo<2 ^ 62)(g:-(2 ^ 62)<=hi)(h:hi<2 ^ 62)(q:R (Itr lo (hi - lo).toNat) H):iH (Z6 X.prog X.w) X.A (mQ (.ref s.heap.objs.size)) (PIE X Z9 σ tg R) E { s with heap:=s.heap.push { cls:=.type "range",data:=.fields #[.int lo t,.int hi u,.int 1 v] },toks:=tk }:=by
 refine wpAny_pyIter_range (im ..) (small_one h1 h2 g h) ?_;have d:Inv X Z9 σ H { s with heap:=s.heap.push { cls:=.type "range",data:=.fields #[.int lo t,.int hi u,.int 1 v] },toks:=tk }:=I.kept λb o e=>aa _ e;refine⟨(s.heap.push { cls:=.type "range",data:=.fields #[.int lo t,.int hi u,.int 1 v] }).objs.size,[(s.heap.push { cls:=.type "range",data:=.fields #[.int lo t,.int hi u,.int 1 v] }).objs.size],_,_,H,rfl,d.kept (t':=tk) λb o e=>aa _ e,XE _ lo (hi - lo).toNat,?_,λb hb=>?_,q⟩
 .have e1:lo+((0:Nat):Int) * 1=lo:=by simp
  have i:(((hi - lo).toNat:Nat):Int) - ((0:Nat):Int)=Builtin.Range.rangeSize lo hi 1:=by rw[rangeSize_one];split <;> lia
  show IsRangeIter _ _ (lo+((0:Nat):Int) * 1) ((((hi - lo).toNat:Nat):Int) - ((0:Nat):Int)) 1;rw[e1,i];exact af _ rfl
 .have e:b=(s.heap.push { cls:=.type "range",data:=.fields #[.int lo t,.int hi u,.int 1 v] }).objs.size:=by simpa using hb
  subst e;exact d.fpOk (aq _) (d.hok.fresh (aq _))
def qiD(ta:TA):TI:=λσ H R=>ta σ H λvs H1=>∃j:Int,vs=[.int j]/\-(2 ^ 62)<=j/\j<2 ^ 62/\R (Itr 0 j.toNat) H1
theorem ZK{a:Z4}{ta:TA}(hg:Gl X "range")(c:X.mg "range"=iB)(f:PA X [a] ta)(hs:iI [a] X.env=[(iE,Z0 a X.env)]:=by rfl):PI X tg (.Call (.Name "range" p) [a] [] pos) (qiD ta):=by
 refine⟨?_⟩;intro Z9 s σ H R I h;refine Call_ (yy I hg c boot_range (bD (thn (f pos Z9 s σ H _ I h) λus s1 z=>?_) hs rfl));obtain⟨vs,H1,g,r1,b⟩:=z;obtain⟨j,e,b,d,q⟩:=b;subst e;cases r1 with
 |cons r rr=>cases rr;obtain⟨t,rfl⟩:=r;exact call_range_1 (qbW g (by lia) (by lia) b d (by simpa using q))
def qkb(wi:TI)(g:TG)(tb:TS):TS:=λD σ H=>wi σ H λJ H1=>∃W:Nat->Nat->St->Hp->Prop,(∃m,W 0 m σ H1)/\∀i m σ H,W i m σ H ->(J.stop i H/\D.nx σ H)\/(J.go i H/\∃N:St->Hp->Prop,(∀σ' H',N σ' H'->∃d,d<m/\W (i+1) d σ' H')/\∀x H',J.yld i H x H'->g x σ H' λa H2=>tb { D with nx:=N,ct:=N,bk:=D.nx } a H2)
noncomputable def KN(fp:List Z7)(h:Z5):Pns:=fp.filterMap λb=>(h.get? b).map λo=>(b,o)
theorem uB{o:Obj}(hb:b∈fp)(e:h.get? b=iw o):(b,o)∈KN fp h:=fA.mpr ⟨b,hb,by rw[e];rfl⟩
theorem ZL{p:Z7×Obj}(hp:p∈KN fp h):p.1∈fp/\h.get? p.1=iw p.2:=by
 obtain⟨b,hb,e⟩:=fA.mp hp;cases q:h.get? b with
 |none=>rw[q]at e;cases e
 |some o=>rw[q]at e;have a:(b,o)=p:=aL.inj e;subst a;exact⟨hb,q⟩
theorem Inv.pinned(I:Inv X Z9 σ H s)(h:∀b∈fp,Wo X Z9 H b)(l:∀b∈fp,∃o,s.heap.get? b=iw o/\∀v,o.data≠.cell v):Inv X (Z9++KN fp s.heap) σ H s:=
 I.pins_of λp hp=>(bf.mp hp).elim (λz=>I.pin p (be _ z)) λz=>by obtain⟨hb,e⟩:=ZL z;obtain⟨f0,f1,f2,_⟩:=h p.1 hb;obtain⟨o,a,d⟩:=l p.1 hb;rw[e]at a;cases a;exact⟨e,f0,f1,f2,d⟩
theorem Inv.unpinned{pl:Pns}(I:Inv X (Z9++pl) σ H s):Inv X Z9 σ H s:=I.pins_of λp hp=>I.pin p (be _ (ff _ hp))
set_option tactic.hygienic true in
theorem qdE{iter:Z4}{wi:TI}{g:TG}{pos:Pos}(hp:mL (Z6 X.prog X.w) X.A X.env X.xe)(R:X.calm=iD)(hi:PI X tg iter wi)(hg:PG X tg g)(hb:PSs X body tb)(hs:∀x,j9 iter X.env x=pure x:=by intro _;rfl):PS X (.For tg iter body [] pos) (qkb wi g tb):=by
 refine⟨?_⟩;intro Z9 s σ H D I h;refine wpAny_For (thn (hi Z9 s σ H _ I h) λv s1 h1=>thn h1 λitv s2 h2=>?_) hs;obtain⟨it,fp,tn,J,H2,e,I2,T,L,f2,W,⟨m0,w0⟩,y⟩:=h2;subst e;have t:∀{H':Hp},(∀b∈fp,H' b=iB)->∀b∈fp,Wo X Z9 H' b:=λhn b hb=>⟨hn b hb,(f2 b hb).2⟩
 refine codeAny_forLoop_any (λn s'=>∃i σ' H',Inv X Z9 σ' H' s'/\tn i s'.heap/\(∀b∈fp,H' b=iB)/\W i n σ' H') ?_ m0 ⟨0,σ,H2,I2,L,λb hb=>(f2 b hb).1,w0⟩;rintro n s3 ⟨i,c,G,S,B,E,F⟩;rcases y i n c G F with⟨stop,qn⟩|⟨go,N,hN,step⟩
 .refine lm hp (thn (T.done X rfl rfl rfl R i Z9 s3 c G X.xe S (t E) B stop) λr s4 z=>?_);obtain⟨O,I4⟩:=z;subst O;exact lY ⟨c,G,I4,qn⟩
 .refine lm hp (thn (T.item X rfl rfl rfl R i Z9 s3 c G X.xe S (t E) B go) λr s4 z=>?_);obtain⟨u,O,h4⟩:=z;subst O;refine lm hp (thn h4 λ_ s5 z=>?_);obtain⟨x,U,I5,r5,V,p,P⟩:=z;have Q:=I5.pinned (t P) (T.obj _ _ p);refine lm hp (thn (hg _ s5 c U x u _ Q r5 (step x U V)) λ_ s6 z=>?_);obtain⟨K,H6,I6,q6⟩:=z;refine lm hp (thn (hb _ s6 K H6 _ I6 q6) λf M q=>?_);have j:∀{a:St}{l:Hp},Inv X (Z9++KN fp s5.heap) a l M->N a l->∃m,m<n/\∃i σ' H',Inv X Z9 σ' H' M/\tn i M.heap/\(∀b∈fp,H' b=iB)/\W i m σ' H':=λ{a l} k C=>by obtain⟨m',hm,Z⟩:=hN a l C;refine⟨m',hm,i+1,a,l,k.unpinned,T.keep _ _ _ p λb hb o e=>(k.pin (b,o) (be _ (be _ (uB hb e)))).1,λb hb=>?_,Z⟩;obtain⟨o,e,d⟩:=T.obj _ _ p b hb;exact(k.pin (b,o) (be _ (be _ (uB hb e)))).2.1
  cases f with
  |next=>obtain⟨a,l,k,C⟩:=q;exact j k C
  |cont=>obtain⟨a,l,k,C⟩:=q;exact j k C
  |brk=>obtain⟨a,l,k,q⟩:=q;exact⟨a,l,k.unpinned,q⟩
  |ret v=>obtain⟨Y,a,l,k,r7,q⟩:=q;exact⟨Y,a,l,k.unpinned,r7,q⟩
end
abbrev R2:=V->V->Hp->VK->Prop
def OpR(X:Cx)(f:iC->iC->Sem iC)(r:R2):Prop:=
 ∀(Z9:Pns)(s:iF)(σ:St)(H:Hp)(x y:V)(v u:iC)(Q:VK),Inv X Z9 σ H s->RelV x v->RelV y u->r x y H Q ->iH (Z6 X.prog X.w) X.A (f v u) (EP X Z9 σ Q) X.xe s
def UnR(X:Cx)(f:iC->Sem iC)(r:V->Hp->VK->Prop):Prop:=
 ∀(Z9:Pns)(s:iF)(σ:St)(H:Hp)(x:V)(v:iC)(Q:VK),Inv X Z9 σ H s->RelV x v->r x H Q ->iH (Z6 X.prog X.w) X.A (f v) (EP X Z9 σ Q) X.xe s
def wG(X:Cx)(f:iC)(r:List V->Hp->VK->Prop):Prop:=
 ∀(Z9:Pns)(s:iF)(σ:St)(H:Hp)(xs:List V)(us:List iC)(Q:VK),Inv X Z9 σ H s->Vals xs us->r xs H Q ->iH (Z6 X.prog X.w) X.A (call f us) (EP X Z9 σ Q) X.xe s
def qkc(X:Cx)(r:V->Hp->(Bool->Hp->Prop)->Prop):Prop:=
 ∀(Z9:Pns)(s:iF)(σ:St)(H:Hp)(x:V)(v:iC)(Q:Bool->Hp->Prop),Inv X Z9 σ H s->RelV x v->r x H Q ->iH (Z6 X.prog X.w) X.A (truthy v) (TP X Z9 σ Q) X.xe s
def tOp(r:R2)(ta tb:TE):TE:=λσ H Q=>ta σ H λx H1=>tb σ H1 λy H2=>r x y H2 Q
def tUn(r:V->Hp->VK->Prop)(ta:TE):TE:=λσ H Q=>ta σ H λx H1=>r x H1 Q
def rI(C:Int->Int->Prop)(g:Int->Int->V):R2:=λx y H Q=>∃i j,x=.int i/\y=.int j/\C i j/\Q (g i j) H
def rI0(g:Int->Int->V):R2:=λx y H Q=>∃i j,x=.int i/\y=.int j/\Q (g i j) H
def rU(g:Int->V):V->Hp->VK->Prop:=λx H Q=>∃i,x=.int i/\Q (g i) H
variable{r:R2}
section
variable{a b:Z4}{tb tc:TE}
theorem qiE(i:PE X a ta)(hb:PE X b tb){R:V->V->Hp->Prop}(I:Inv X Z9 σ H s)(h:ta σ H λx H1=>tb σ H1 λy H2=>R x y H2){Q:iC->iF->Prop}{f:iC->iC->Sem iC}(g:∀v u s2 x y H2,Inv X Z9 σ H2 s2->RelV x v->RelV y u->R x y H2->iH (Z6 X.prog X.w) X.A (f v u) Q X.xe s2) :
  iH (Z6 X.prog X.w) X.A (Z0 a X.env) (λv d=>iH (Z6 X.prog X.w) X.A (Z0 b X.env) (λu c=>iH (Z6 X.prog X.w) X.A (f v u) Q X.xe c) X.xe d) X.xe s:=by
 refine thn (i Z9 s σ H _ I h) λv s1 z=>?_;obtain⟨x,H1,k,r1,e⟩:=z;refine thn (hb Z9 s1 σ H1 _ k e) λu s2 z=>?_;obtain⟨y,H2,j,r2,q⟩:=z;exact g v u s2 x y H2 j r1 r2 q
theorem qiF{op:Operator}(l:OpR X (i8 op) r)(f:PE X a ta)(hb:PE X b tb):PE X (.BinOp a op b pos) (tOp r ta tb):=by refine⟨?_⟩;intro Z9 s σ H Q I h;exact wpAny_BinOp (qiE f hb I h λv u s2 x y H2 j d c q=>l Z9 s2 σ H2 x y v u Q j d c q)
theorem qiG{op:UnaryOp}{r:V->Hp->VK->Prop}(l:UnR X (unaryOp op) r)(f:PE X a ta):PE X (.UnaryOp op a pos) (tUn r ta):=by refine⟨?_⟩;intro Z9 s σ H Q I h;exact UnaryOp_ (thn (f Z9 s σ H _ I h) λv s1 ⟨x,H1,d,r1,q⟩=>l Z9 s1 σ H1 x v Q d r1 q)
theorem opI{f:iC->iC->Sem iC}{C:Int->Int->Prop}{g:Int->Int->Int}(r:∀(i j:Int)(t u:Tok)(s:iF)(Q:iC->iF->Prop)(E:iC->iF->Prop),C i j->Q (.int (g i j) s.toks) { s with toks:=s.toks+1 }->iH (Z6 X.prog X.w) X.A (f (.int i t) (.int j u)) Q E s) :
  OpR X f (rI C λi j=>.int (g i j)):=by
 intro Z9 s σ H x y v u Q I d c h;obtain⟨i,j,rfl,rfl,a,q⟩:=h;obtain⟨t,rfl⟩:=d;obtain⟨t',rfl⟩:=c;exact r i j t t' s _ _ a ⟨.int (g i j),H,I.tok _,⟨_,rfl⟩,q⟩
theorem qjG{f:iC->iC->Sem iC}{g:Int->Int->Int}(r:∀(i j:Int)(t u:Tok)(s:iF)(Q:iC->iF->Prop)(E:iC->iF->Prop),Q (.int (g i j) s.toks) { s with toks:=s.toks+1 }->iH (Z6 X.prog X.w) X.A (f (.int i t) (.int j u)) Q E s) :
  OpR X f (rI0 λi j=>.int (g i j)):=by
 intro Z9 s σ H x y v u Q I d c h;obtain⟨i,j,rfl,rfl,q⟩:=h;obtain⟨t,rfl⟩:=d;obtain⟨t',rfl⟩:=c;exact r i j t t' s _ _ ⟨.int (g i j),H,I.tok _,⟨_,rfl⟩,q⟩
theorem qiH{f:iC->iC->Sem iC}{g:Int->Int->Bool}(r:∀(i j:Int)(t u:Tok)(s:iF)(Q:iC->iF->Prop)(E:iC->iF->Prop),Q (.bool (g i j)) s->iH (Z6 X.prog X.w) X.A (f (.int i t) (.int j u)) Q E s) :
  OpR X f (rI0 λi j=>.bl (g i j)):=by
 intro Z9 s σ H x y v u Q I d c h;obtain⟨i,j,rfl,rfl,q⟩:=h;obtain⟨t,rfl⟩:=d;obtain⟨t',rfl⟩:=c;exact r i j t t' s _ _ ⟨.bl (g i j),H,I,rfl,q⟩
def qiI(i j:Int):Prop:=0<j/\j<1073741824
def CMul(i j:Int):Prop:=(-(2 ^ 64)<i/\i<2 ^ 64)\/(-(2 ^ 64)<j/\j<2 ^ 64)
theorem CMul.ok{i j:Int}(h:CMul i j):IntMulOk i j:=by
 rcases h with⟨h1,h2⟩|⟨h1,h2⟩
 .exact .of_left (intBits_le_64 h1 h2)
 .exact .of_right (intBits_le_64 h1 h2)
theorem qgw:OpR X (i8 .Add) (rI0 λi j=>.int (i+j)):=qjG λ_ _ _ _ _ _ _ q=>add_int q
theorem qgx:OpR X (i8 .Sub) (rI0 λi j=>.int (i - j)):=qjG λ_ _ _ _ _ _ _ q=>sub_int q
theorem qgy:OpR X (i8 .Mult) (rI CMul λi j=>.int (i * j)):=opI λ_ _ _ _ _ _ _ d q=>mul_int q d.ok
theorem qgz:OpR X (i8 .Mod) (rI (λ_ j=>0<j) λi j=>.int (i % j)):=opI λi j _ _ _ _ _ d q=>by have h1:(0:Int)<j:=d;exact mod_int' (by lia) (by rw[Int.fmod_eq_emod_of_nonneg i (by lia)];exact q)
theorem unI{f:iC->Sem iC}{g:Int->Int}(r:∀(i:Int)(t:Tok)(s:iF)(Q:iC->iF->Prop)(E:iC->iF->Prop),Q (.int (g i) s.toks) { s with toks:=s.toks+1 }->iH (Z6 X.prog X.w) X.A (f (.int i t)) Q E s) :
  UnR X f (rU λi=>.int (g i)):=by
 intro Z9 s σ H x v Q I d h;obtain⟨i,rfl,q⟩:=h;obtain⟨t,rfl⟩:=d;exact r i t s _ _ ⟨.int (g i),H,I.tok _,⟨_,rfl⟩,q⟩
theorem qgA:UnR X (unaryOp .USub) (rU λi=>.int (-i)):=unI λ_ _ _ _ _ q=>neg_int q
end
variable{op op':CmpOp}{r':R2}
section
variable{a b:Z4}{tb tc:TE}
theorem ZM{Q:VK}{k k':Bool}(I:Inv X Z9 σ H s)(q:Q (.bl k) H)(e:k=k'):EP X Z9 σ Q (.bool k') s:=by subst e;exact⟨.bl k,H,I,rfl,q⟩
theorem qiJ:OpR X (iN .Lt) (rI0 λi j=>.bl (decide (i<j))):=qiH λ_ _ _ _ _ _ _ q=>lt_int q
theorem qiK:OpR X (iN .LtE) (rI0 λi j=>.bl (decide (i<=j))):=qiH λ_ _ _ _ _ _ _ q=>le_int q
theorem qiL:OpR X (iN .GtE) (rI0 λi j=>.bl (decide (j<=i))):=qiH λ_ _ _ _ _ _ _ q=>ge_int q
theorem ZN:OpR X (iN .Lt) (λx y H Q=>∃i j,x=.str i/\y=.str j/\Q (.bl (decide (i.cps.toList<j.cps.toList))) H):=by intro Z9 s σ H x y v u Q I d c h;obtain⟨i,j,rfl,rfl,q⟩:=h;obtain⟨t,rfl⟩:=d;obtain⟨t',rfl⟩:=c;exact lt_str (ZM I q rfl)
theorem qem:OpR X (iN .IsNot) (λx y H Q=>y=.non/\Q (.bl (!decide (x=.non))) H):=by
 intro Z9 s σ H x y v u Q I d c h;obtain⟨rfl,q⟩:=h;cases c;refine isnot_none_gen (ZM I q ?_);cases x <;> first
  |(cases d;rfl)
  |(obtain⟨t,rfl⟩:=d;rfl)
theorem qdF(b:Z4)(h:op≠.In:=by decide)(h2:op≠.NotIn:=by decide):lG op b=false:=by
 have e1:(op == CmpOp.In)=false:=by cases op <;> first|rfl|exact absurd rfl h
 have i:(op == CmpOp.NotIn)=false:=by cases op <;> first|rfl|exact absurd rfl h2
 cases b <;> simp[lG,e1,i]
theorem qen(l:OpR X (iN op) r)(f:PE X a ta)(hb:PE X b tb)(m:lG op b=iE):PE X (.Compare a [op] [b] pos) (tOp r ta tb):=by refine⟨?_⟩;intro Z9 s σ H Q I h;exact wpAny_Compare1 (qiE f hb I h λv u s2 x y H2 j d c q=>l Z9 s2 σ H2 x y v u Q j d c q) m
def qgB(t:TE):TT:=λσ H Q=>t σ H λx H'=>∃k,x=.bl k/\Q k H'
theorem qeo(l:OpR X (iN op) r)(g:PE X a ta)(hb:PE X b tb)(m:lG op b=iE):PT X (.Compare a [op] [b] pos) (qgB (tOp r ta tb)):=by
 refine⟨?_⟩;intro Z9 s σ H Q I h;refine wpAny_isTrue_Compare1 (thn (g Z9 s σ H _ I h) λv s1 ⟨x,H1,n,r1,f⟩=>thn (hb Z9 s1 σ H1 _ n f) λu s2 ⟨y,H2,j,r2,d⟩=>
  thn (l Z9 s2 σ H2 x y v u _ j r1 r2 d) λc s3 ⟨z,o,i,r3,k,e,q⟩=>?_) m
 subst e;cases r3;exact i6 ⟨o,i,q⟩
def ZO(r r':R2)(ta tb tc:TE):TE:=λσ H Q=>ta σ H λx H1=>tb σ H1 λy H2=>r x y H2 λz b=>∃k,z=.bl k /\
 (if k=iD then tc σ b λR a=>r' y R a Q else Q (.bl iE) b)
theorem qbX(o:OpR X (iN op) r)(f:OpR X (iN op') r')(w:PE X a ta)(hb:PE X b tb)(t:PE X c tc)(p:lastMarks [op,op'] [b,c]=false:=by with_unfolding_all rfl):PE X (.Compare a [op,op'] [b,c] pos) (ZO r r' ta tb tc):=by
 refine⟨?_⟩;intro Z9 s σ H Q I h;refine Compare_chain (thn (w Z9 s σ H _ I h) λv s1 ⟨x,H1,B,r1,n⟩=>chain_link (thn (hb Z9 s1 σ H1 _ B n) λu s2 ⟨y,H2,A,r2,m⟩=>
  thn (o Z9 s2 σ H2 x y v u _ A r1 r2 m) λd s3 ⟨z,i,g,r3,k,e,q⟩=>?_)) p
 subst e;cases r3;refine i6 ?_;cases k with
 |false=>exact ite_ff ⟨.bl iE,i,g,rfl,q⟩
 |true=>exact ite_tt (chain_last (thn (t Z9 s3 σ i _ g q) λR s4 ⟨j,C,E,r4,l⟩=>f Z9 s4 σ C y j u R Q E r2 r4 l))
theorem qbY(w:OpR X (iN op) r)(f:OpR X (iN op') r')(C:PE X a ta)(hb:PE X b tb)(B:PE X c tc)(A:lastMarks [op,op'] [b,c]=false:=by with_unfolding_all rfl):PT X (.Compare a [op,op'] [b,c] pos) (qgB (ZO r r' ta tb tc)):=by
 refine⟨?_⟩;intro Z9 s σ H Q I h;refine isTrue_chain (thn (C Z9 s σ H _ I h) λv s1 ⟨x,H1,L,r1,p⟩=>test_link (thn (hb Z9 s1 σ H1 _ L p) λu s2 ⟨y,H2,K,r2,o⟩=>
  thn (w Z9 s2 σ H2 x y v u _ K r1 r2 o) λd s3 ⟨z,i,g,r3,k,e,q⟩=>?_)) A
 subst e;cases r3;refine i6 ?_;cases k with
 |false=>obtain⟨k',E,t⟩:=q;cases E;exact ite_ff ⟨i,g,t⟩
 |true=>refine ite_tt (test_last (thn (B Z9 s3 σ i _ g q) λR s4 ⟨l,M,J,r4,n⟩=>thn (f Z9 s4 σ M y l u R _ J r2 r4 n) λd' s5 j=>?_));obtain⟨z2,U,G,r5,k2,D,m⟩:=j;subst D;cases r5;exact i6 ⟨U,G,m⟩
def qiM(K:Y9)(x:V)(H:Hp)(k:Bool):Prop:=
 match x with
 |.non=>k=iE
 |.bl b=>k=b
 |.int i=>k=(i != 0)
 |.str y=>y.length<=Z8/\k=((y.length:Int) != 0)
 |.byt y=>y.size<=Z8/\k=((y.size:Int) != 0)
 |.ref p=>(∃xs,SqL K H p xs/\k=!xs.isEmpty)\/(∃xs,SqT K H p xs/\k=!xs.isEmpty)\/∃kvs,H p=iw (.dK kvs)/\k=!kvs.isEmpty
 |_=>False
theorem XF{κ:Type}{kvs:List (κ×V)}{vs:List (κ×iC)}(r:KV kvs vs):(!vs.isEmpty)=!kvs.isEmpty:=by cases r <;> rfl
theorem QQ{its:List iC}(r:Vals xs its):(!its.toArray.isEmpty)=!xs.isEmpty:=by cases r <;> simp
theorem QR:(Z8:Nat)<2 ^ 63:=by rw[iM];decide
theorem qgC:qkc X (λx H Q=>∃k,qiM X.K x H k/\Q k H):=by
 intro Z9 s σ H x v Q I d h;obtain⟨k,e,q⟩:=h;have hl:=QR;have hs:Z8=16777216:=iM;cases x with
 |non=>cases d;have a:k=false:=e;subst a;exact truthy_none ⟨H,I,q⟩
 |bl b=>cases d;have a:k=b:=e;subst a;exact i6 ⟨H,I,q⟩
 |int i=>obtain⟨t,rfl⟩:=d;have a:k=(i != 0):=e;subst a;exact PySem.P.truthy_int ⟨H,I,q⟩
 |str y=>obtain⟨t,rfl⟩:=d;obtain⟨hy,a⟩:y.length<=Z8/\k=((y.length:Int) != 0):=e;subst a;exact PySem.P.truthy_str (by lia) ⟨H,I.tok _,q⟩
 |byt y=>obtain⟨t,rfl⟩:=d;obtain⟨hy,a⟩:y.size<=Z8/\k=((y.size:Int) != 0):=e;subst a;exact PySem.W.truthy_bytes (by lia) ⟨H,I.tok _,q⟩
 |ref p=>
  cases d;have a:(∃xs,SqL X.K H p xs/\k=!xs.isEmpty)\/(∃xs,SqT X.K H p xs/\k=!xs.isEmpty)\/∃kvs,H p=iw (.dK kvs)/\k=!kvs.isEmpty:=e;rcases a with⟨xs,hx,a⟩|⟨xs,hx,a⟩|⟨kvs,hx,a⟩
  .subst a;obtain⟨its,r,pl,hz⟩:=I.list hx;have n:=r.length;exact wpAny_truthy_list pl.isList (by simp only[aj];lia) ⟨H,I.tok _,by rw[QQ r];exact q⟩
  .subst a;obtain⟨its,r,pl,hz⟩:=I.tuple hx;have n:=r.length;exact truthy_tuple pl (by simp only[aj];lia) ⟨H,I.tok _,by rw[QQ r];exact q⟩
  .subst a;obtain⟨hz,hS,vs,r,m⟩:kvs.length<=Z8/\(p == lb)=iE/\∃vs,KV kvs vs/\s.heap.DictOf (qZ X.prog X.w) p vs:=I.hok p _ hx;have n:kvs.length=vs.length:=fR r;exact wpAny_truthy_dict hS m (by lia) ⟨H,I.tok _,by rw[XF r];exact q⟩
 |_=>exact(show False from e).elim
theorem qbZ(f:PE X a ta)(g:∀whole,isTrue a X.env whole=(do let v <-whole;l6 a.pos;holding [v] (truthy v))):PT X a (λσ H Q=>ta σ H λx H'=>∃k,qiM X.K x H' k/\Q k H'):=by refine⟨?_⟩;intro Z9 s σ H Q I h;exact isTrue_plain (thn (f Z9 s σ H _ I h) λv s1 ⟨x,H1,d,r1,q⟩=>qgC Z9 s1 σ H1 x v Q d r1 q) (g _)
theorem XG:OpR X (i8 .Add) (λx y H Q=>∃i j,x=.str i/\y=.str j/\i.length+j.length<=Z8/\Q (.str (i++j)) H):=by intro Z9 s σ H x y v u Q I d c h;obtain⟨i,j,rfl,rfl,hz,q⟩:=h;obtain⟨t,rfl⟩:=d;obtain⟨t',rfl⟩:=c;exact add_str (λt' tk=>⟨.str (i++j),H,I.tok _,⟨_,rfl⟩,q⟩) hz
theorem uO{x:V}(r:Vals [x] us):∃u,us=[u]/\RelV x u:=by
 cases r with
 |cons r1 r2=>cases r2;exact⟨_,rfl,r1⟩
theorem ZP{x:V}(r:Vals [x,y] us):∃u R,us=[u,R]/\RelV x u/\RelV y R:=by
 cases r with
 |cons r1 r2=>
  cases r2 with
  |cons r3 r4=>cases r4;exact⟨_,_,rfl,r1,r3⟩
theorem ZQ(d:X.calm=iD):wG X (.builtin "max") (λxs H Q=>∃i j,xs=[.int i,.int j]/\Q (.int (if j > i then j else i)) H):=by
 intro Z9 s σ H xs us Q I r h;obtain⟨i,j,rfl,q⟩:=h;obtain⟨u,R,rfl,⟨t,rfl⟩,⟨t',rfl⟩⟩:=ZP r;refine max_two_ints (I.ok.hd d) λh' tk k=>⟨_,H,I.kept k,?_,q⟩
 by_cases D:j > i;·rw[Aa D,Aa D];exact⟨_,rfl⟩
 .rw[Ab D,Ab D];exact⟨_,rfl⟩
theorem ZR(d:X.calm=iD):wG X (.builtin "min") (λxs H Q=>∃i j,xs=[.int i,.int j]/\Q (.int (if j<i then j else i)) H):=by
 intro Z9 s σ H xs us Q I r h;obtain⟨i,j,rfl,q⟩:=h;obtain⟨u,R,rfl,⟨t,rfl⟩,⟨t',rfl⟩⟩:=ZP r;refine min_two_ints (I.ok.hd d) λh' tk k=>⟨_,H,I.kept k,?_,q⟩
 by_cases D:j<i;·rw[Aa D,Aa D];exact⟨_,rfl⟩
 .rw[Ab D,Ab D];exact⟨_,rfl⟩
def qkd(K:Y9)(x:V)(H:Hp)(n:Nat):Prop:=
 match x with
 |.str y=>y.length<=Z8/\n=y.length
 |.byt y=>y.size<=Z8/\n=y.size
 |.ref p=>(∃xs,SqL K H p xs/\n=xs.length)\/∃xs,SqT K H p xs/\n=xs.length
 |_=>False
theorem Jz:wG X (.builtin "len") (λxs H Q=>∃x n,xs=[x]/\qkd X.K x H n/\Q (.int n) H):=by
 intro Z9 s σ H xs us Q I r h;obtain⟨x,n,rfl,e,q⟩:=h;obtain⟨u,rfl,d⟩:=uO r;have hl:=QR;have hs:Z8=16777216:=iM;cases x with
 |str y=>obtain⟨t,rfl⟩:=d;obtain⟨hy,b⟩:y.length<=Z8/\n=y.length:=e;subst b;exact len_str (by lia) ⟨.int _,H,I.tok _,⟨_,rfl⟩,q⟩
 |byt y=>obtain⟨t,rfl⟩:=d;obtain⟨hy,b⟩:y.size<=Z8/\n=y.size:=e;subst b;exact PySem.W.len_bytes (by lia) ⟨.int _,H,I.tok _,⟨_,rfl⟩,q⟩
 |ref p=>
  cases d;have b:(∃xs,SqL X.K H p xs/\n=xs.length)\/∃xs,SqT X.K H p xs/\n=xs.length:=e;rcases b with⟨xs,hx,b⟩|⟨xs,hx,b⟩
  .subst b;obtain⟨its,r',pl,hz⟩:=I.list hx;have a:=r'.length;exact Calls.call_len_list pl.isList (by simp only[aj];lia) ⟨.int xs.length,H,I.tok _,⟨_,by simp only[aj];rw[a]⟩,q⟩
  .subst b;obtain⟨its,r',pl,hz⟩:=I.tuple hx;have a:=r'.length;exact len_tuple pl (by simp only[aj];lia) ⟨.int xs.length,H,I.tok _,⟨_,by simp only[aj];rw[a]⟩,q⟩
 |_=>exact(show False from e).elim
end
structure ObjM(h:Z5)(x dx C:Z7)(mA:Str->Option iC):Prop where
 obj:h.get? x=iw (ci C dx)
 ns:h.Ns1 dx mA
 ne:dx≠x
variable{dx:Z7}{mA:Str->Option iC}
set_option tactic.hygienic true in
theorem ZT(n:h.Ns1 dx mA):∃od,h.get? dx=iw od/\∀name,fB name od=iw (mA name):=by
 obtain⟨o,es,ep,l,hd,d,_,c⟩:=n;refine⟨o,l,λname=>?_⟩;have e:=c name;unfold nsFind findBy at e;rw[<-Array.find?_toList]at e;unfold fB;rw[hd];dsimp only;split;·rename_i y q;rw[q]at e;exact congrArg iw e
 .rename_i q;rw[q]at e;have a:es.toList.any (·.refKey)=false:=by rw[List.any_eq_false];intro y k;obtain⟨z,t,b⟩:=d y (Array.mem_toList_iff.mp k);simp[DictEntry.refKey,b]
  have f:¬es.toList.any (·.refKey)=true:=by rw[a];exact b8
  rw[Ab f];exact congrArg iw e
variable{C:Z7}
theorem ObjM.look{x:Z7}(I:ObjM h x dx C mA):∃od,PySem.W.InstAt h x (ci C dx) C (iw od)/\∀name,fB name od=iw (mA name):=
 let ⟨od,l,hl⟩:=ZT I.ns
 ⟨od,⟨I.obj,rfl,rfl,l⟩,hl⟩
section
variable{prog:iK}{x f:Z7}{name:Str}{v:iC}
theorem qep{e:Bool}{Q:iC->iF->Prop}(X:K.In s.heap)(I:ObjM s.heap x dx C mA)(hg:dB K C name=iD)(b:d8 K C=iD)(f:bH K (.ref C) name=iw iB)(c:mA name=iw v)(a:PySem.W.handedIn v=iD)(h:Q v { s with toks:=s.toks+1 }) :
  iH (Z6 prog w) A (getAttr (.ref x) name e) Q E s:=by
 obtain⟨od,J,hl⟩:=I.look;exact PySem.W.get_value X J (fk hg).1 (PySem.W.findObj_own b f rfl (by rw[hl,c])) a h
theorem qb0{pl:Sem Bool}{Q:iC×List iC->iF->Prop}(X:K.In s.heap)(I:ObjM s.heap x dx C mA)(hg:dB K C name=iD)(a:bH K (.ref C) name=iw (iw (.ref f)))(ht:fX K (.ref f)=iD)(c:mA name=iB)(h:Q (.ref f,[.ref x]) s) :
  iH (Z6 prog w) A (mn (.ref x) name pl) Q E s:=by
 obtain⟨od,J,hl⟩:=I.look;exact PySem.W.method_fn X J (fk hg).1 (fk hg).2 a (beq_iff_eq.mp ht) (by show(fB name od).map (·.isSome)=iw iE;rw[hl,c];rfl) h
theorem qeq{ns:List Str}{Q:Unit->iF->Prop}(X:K.In s.heap)(I:ObjM s.heap x dx C mA)(hs:bH K (.ref C) "__setattr__"=iw (iw (.builtin "object.__setattr__")))(hp:fK K C=iD)(ht:fZ K C name=iw iB)(i:d8 K C=iD)(hw:ia mA ns)(hsz:ns.length<=Z8)(h:∀h',ObjM h' x dx C (λy=>if y=name then iw v else mA y)->bh dx s.heap h'->Q () { s with heap:=h',toks:=s.toks+2 }) :
  iH (Z6 prog w) A (setAttr (.ref x) name v) Q E s:=by
 obtain⟨od,J,hl⟩:=I.look;refine PySem.W.set_plain X J hs (PySem.W.osa_open (s:={ s with toks:=s.toks+1 }) (r:=iB) X J hp ht λb=>?_);obtain⟨cd,j,f⟩:=PySem.W.any_some i;have hx:s.heap.get? x=iw ⟨.ref C,iw dx,.plain,#[]⟩:=I.obj;refine iA (iG (iA (iA (wpAny_loadPart hx (iA (PySem.W.Looks.here (s:={ s with toks:=s.toks+1 }) (PySem.W.looks_clsIn X j) ?_))))));rw[f];refine iG (a:=iw dx) (iA (iG (iA ?_)));refine wpAny_nsSet1 (s:={ s with toks:=s.toks+1 }) I.ns λh' d c=>?_;obtain⟨o,k,l,D,e,g⟩:=d.count (PySem.Within.cons name v hw);refine iA (wpAny_lookBehind D (by rw[e];exact pastItsLine_dict (bb g (by rw[ap];lia))) ?_);exact iG (h _ ⟨(c.2 _ (aW I.ne)).trans I.obj,d,I.ne⟩ c)
theorem qb1{R:mR->iF->Prop}{vs:List iC}{kw:List (Str×iC)}(X:K.In s.heap)(c:dP K C=iD)(hi:bH K (.ref C) "__init__"=iw (iw (.ref f)))(a:PySem.W.typeIn K (.ref f)=iw (.type "function"))
  (h:lq (Z6 prog w) (A.under (.builtin "type.__call__" ⟨.ref C::vs,kw⟩)) (.call (.ref f) ⟨.ref (s.heap.objs.size+1)::vs,kw⟩) (PySem.W.InitBack (s.heap.objs.size+1) R)
   { s with heap:=(s.heap.push bL).push (ci C s.heap.objs.size) }) :
  lq (Z6 prog w) A (.call (.ref C) ⟨vs,kw⟩) R s:=by
 obtain⟨b,g,d,t,os⟩:=s;exact PySem.W.make_core (PySem.W.makes_of X c) (PySem.W.looks_findIn X hi) (λself=>PySem.W.bind_fn X self a) (.inl rfl) h
end
noncomputable def QA(f:Str)(v:V):List (Str×V)->List (Str×V)
 |[]=>[(f,v)]
 |(g,x)::r=>if g=f then(g,v)::r else(g,x)::QA f v r
theorem yj(f g:Str)(v:V):∀fs:List (Str×V),(QA f v fs).lookup g=if g=f then iw v else fs.lookup g
 |[]=>by
  show bM g [(f,v)]=_;by_cases h:g=f;·have hb:(g == f)=true:=beq_iff_eq.mpr h;simp only[bM,hb,Aa h]
  .have hb:(g == f)=false:=beq_eq_false_iff_ne.mpr h;simp only[bM,hb,Ab h]
 | (k,x)::r=>by
  have j:=yj f g v r;rw[show QA f v ((k,x)::r)=(if k=f then(k,v)::r else(k,x)::QA f v r)from rfl];by_cases a:k=f
  .rw[Aa a];by_cases h:g=k;·have hb:(g == k)=true:=beq_iff_eq.mpr h;simp only[bM,hb,Aa (h.trans a)]
   .have hb:(g == k)=false:=beq_eq_false_iff_ne.mpr h;simp only[bM,hb,Ab (λe:g=f=>h (e.trans a.symm))]
  .rw[Ab a];by_cases h:g=k;·have hb:(g == k)=true:=beq_iff_eq.mpr h;simp only[bM,hb,Ab (λe:g=f=>a (h.symm.trans e))]
   .have hb:(g == k)=false:=beq_eq_false_iff_ne.mpr h;simp only[bM,hb];exact j
theorem zZ(f:Str)(v:V):∀fs:List (Str×V),f∈(QA f v fs).map (·.1)/\∀g,g∈fs.map (·.1)->g∈(QA f v fs).map (·.1)
 |[]=>⟨by simp[QA],λg h=>by simp at h⟩
 | (k,x)::r=>by
  obtain⟨i1,i2⟩:=zZ f v r;rw[show QA f v ((k,x)::r)=(if k=f then(k,v)::r else(k,x)::QA f v r)from rfl];by_cases a:k=f;·rw[Aa a];subst a;exact⟨by simp,λg h=>by simpa using h⟩
  .rw[Ab a];refine⟨?_,λg h=>?_⟩;·rw[aD];exact ae _ i1
   .rw[aD]at h ⊢;rcases ac.mp h with e|e;·exact ac.mpr (.inl e)
    .exact ae _ (i2 g e)
theorem ga(f:Str)(v:V):∀fs:List (Str×V),(QA f v fs).length<=fs.length+1
 |[]=>by simp[QA]
 |(k,x)::r=>by
  have j:=ga f v r;rw[show QA f v ((k,x)::r)=(if k=f then(k,v)::r else(k,x)::QA f v r)from rfl];by_cases h:k=f;·rw[Aa h,ap,ap];lia
  .rw[Ab h,ap,ap];lia
theorem RelO.some_of{o:Option iC}(r:RelO (iw v) o):∃u,o=iw u/\RelV v u:=by
 cases o with
 |none=>exact(show False from r).elim
 |some u=>exact⟨u,rfl,r⟩
theorem RelO.none_of{o:Option iC}(r:RelO iB o):o=none:=by
 cases o with
 |none=>rfl
 |some u=>exact(show False from r).elim
theorem ZU(r:RelV v u):PySem.W.handedIn u=true:=by
 cases v with
 |non=>cases(show u=bK from r);rfl
 |bl b=>cases(show u=cW b from r);rfl
 |int i=>obtain⟨t,e⟩:=(show ∃t,u=dU i t from r);cases e;rfl
 |str x=>obtain⟨t,e⟩:=(show ∃t,u=df x t from r);cases e;rfl
 |byt b=>obtain⟨t,e⟩:=(show ∃t,u=Value.bytes b t from r);cases e;rfl
 |flt b=>obtain⟨t,e⟩:=(show ∃t,u=Value.float b t from r);cases e;rfl
 |ref a=>cases(show u=aM a from r);rfl
 |ty n=>cases(show u=dw n from r);rfl
section
variable{fs fs':List (Str×V)}
theorem Wv(hok:HOk P w H h)(e:H a=iw (.ins C dx fs)):∃mA,ObjM h a dx C mA/\(∀f,RelO (fs.lookup f) (mA f))/\ia mA (fs.map (·.1))/\fs.length<=1000/\H dx=iw (.own a):=by
 obtain⟨d,z,ne,b,mA,n,r,q⟩:=(show ObjOk P w H h a (.ins C dx fs)from hok a _ e)
 exact⟨mA,⟨b,n,ne⟩,r,q,z,d⟩
end
structure Cls(K:Y9)(C:Z7):Prop where
 pg:dB K C Str.empty=iD
 hd:d8 K C=iD
 po:fK K C=iD
 sa:bH K (.ref C) "__setattr__"=iw (iw (.builtin "object.__setattr__"))
theorem Cls.get(c:Cls K C)(f:Str):dB K C f=true:=c.pg
def NoAttr(K:Y9)(C:Z7)(f:Str):Prop:=bH K (.ref C) f=iw iB
variable{f:Str}
theorem NoAttr.taker(n:NoAttr K C f):fZ K C f=iw none:=by unfold fZ;rw[show bH K (.ref C) f=iw iB from n];rfl
structure Meth(K:Y9)(C:Z7)(m:Str)(f:Z7):Prop where
 at_:bH K (.ref C) m=iw (iw (.ref f))
 fn:fX K (.ref f)=iD
 kp:mC K (.ref f)=iD
variable{m:Str}
section
variable{fs:List (Str×V)}
theorem XH{b:Bool}{Q:iC->iF->Prop}(I:Inv X Z9 σ H s)(e:H a=iw (.ins C dx fs))(c:Cls X.K C)(n:NoAttr X.K C f)(l:fs.lookup f=iw v)(h:∀u s',Inv X Z9 σ H s'->RelV v u->Q u s'):iH (Z6 X.prog X.w) A (getAttr (.ref a) f b) Q E s:=by
 obtain⟨mA,O,r,_,_,_⟩:=Wv I.hok e;obtain⟨u,d,y⟩:=RelO.some_of (v:=v) (o:=mA f) (by rw[<-l];exact r f);exact qep I.kIn O (c.get f) c.hd n d (ZU y) (h u _ (I.tok _) y)
theorem QS{g:Z7}{pl:Sem Bool}{Q:iC×List iC->iF->Prop}(I:Inv X Z9 σ H s)(e:H a=iw (.ins C dx fs))(c:Cls X.K C)(k:Meth X.K C m g)(l:fs.lookup m=iB)(h:Q (.ref g,[.ref a]) s):iH (Z6 X.prog X.w) A (mn (.ref a) m pl) Q E s:=by
 obtain⟨mA,O,r,_,_,_⟩:=Wv I.hok e;have n:mA m=none:=RelO.none_of (by rw[<-l];exact r m);exact qb0 I.kIn O (c.get m) k.at_ k.fn n h
theorem XI{Q:Unit->iF->Prop}(I:Inv X Z9 σ H s)(e:H a=iw (.ins C dx fs))(c:Cls X.K C)(n:NoAttr X.K C f)(hl:fs.length<1000)(i:RelV y u)(h:∀s',Inv X Z9 σ (upd H a (.ins C dx (QA f y fs))) s'->Q () s'):iH (Z6 X.prog X.w) A (setAttr (.ref a) f u) Q E s:=by
 obtain⟨mA,O,r,wi,_,l⟩:=Wv I.hok e;have hz:(fs.map (·.1)).length<=Z8:=by rw[ah,iM];lia
 refine qeq I.kIn O c.sa c.po n.taker c.hd wi hz λh' d t=>h _ ?_;have hd:∃o,h'.get? dx=iw o:=let ⟨o,_,_,j,_⟩:=d.ns; ⟨o,j⟩
 refine I.write (x:=a) (e:=dx) (by rw[e];exact cX) (.inr l) (λb q hb z=>(t.2 b hb).trans z) hd ?_;refine⟨by rw[qv O.ne];exact l,?_,O.ne,d.obj,_,d.ns,λg=>?_,λg hg=>?_⟩;·have:=ga f y fs;lia
 .show RelO ((QA f y fs).lookup g) (if g=f then iw u else mA g);rw[yj];by_cases q:g=f;·rw[Aa q,Aa q];exact i
  .rw[Ab q,Ab q];exact r g
 .by_cases q:g=f;·rw[q];exact(zZ f y fs).1
  .refine(zZ f y fs).2 g (wi g λz=>hg ?_);show(if g=f then iw u else mA g)=iB;rw[Ab q];exact z
theorem Inv.made(I:Inv X Z9 σ H s):Inv X Z9 σ (upd (upd H s.heap.objs.size (.own (s.heap.objs.size+1))) (s.heap.objs.size+1) (.ins C s.heap.objs.size []))
  { s with heap:=(s.heap.push bL).push (ci C s.heap.objs.size) }:=by
 have e1:(s.heap.push bL).get? s.heap.objs.size=iw bL:=af s.heap rfl;have i:((s.heap.push bL).push (ci C s.heap.objs.size)).get? (s.heap.objs.size+1)=iw (ci C s.heap.objs.size):=by have:=af (s.heap.push bL) (o:=ci C s.heap.objs.size) rfl;rwa [aX]at this
 have D:(s.heap.push bL).Ns s.heap.objs.size (λ_=>iB):=⟨bL,#[],_,e1,rfl,(λe g=>absurd g (by simp)),λ_=>rfl⟩
 have d:=I.laid (a:=s.heap.objs.size) (o:=.own (s.heap.objs.size+1)) (h':=s.heap.push bL) (t':=s.toks) (λb u q=>aa _ q) (aq _) ⟨_,e1⟩;refine d.laid (a:=s.heap.objs.size+1) (o:=.ins C s.heap.objs.size []) (t':=s.toks) (λb u q=>aa _ q) (fq (aX _ _)) ?_;have ne:s.heap.objs.size≠s.heap.objs.size+1:=ax (eZ _);refine⟨by rw[qv ne,qo],aZ _,ne,i,λ_=>iB,(Heap.Ns1.of_empty D).at λo q=>aa _ q,λ_=>cX,λy k=>absurd rfl k⟩
theorem qer{prog:iK}{w:iL}{env:Env}{f:Str}{pos:Pos}{s:iF}{Q:iC->iF->Prop}(hb:iY e f env (Z0 e env)=Z0 e env)(h:iH (Z6 prog w) A (Z0 e env) (λo d=>iH (Z6 prog w) A (getAttr o f iD) Q E d) E s):iH (Z6 prog w) A (Z0 (.Attribute e f pos) env) Q E s:=
 Attribute_any_ h (by rw[arm_eval_Attribute,hb])
end
def qke(K:Y9)(ta:TE)(f:Str):TE:=λσ H Q=>ta σ H λx H1=>∃a C dx fs v,x=.ref a/\H1 a=iw (.ins C dx fs)/\Cls K C/\NoAttr K C f/\fs.lookup f=iw v/\Q v H1
def qkf(K:Y9)(ta tv:TE)(f:Str):TS:=λD σ H=>tv σ H λy H1=>ta σ H1 λx H2=>∃a C dx fs,x=.ref a/\H2 a=iw (.ins C dx fs)/\Cls K C/\NoAttr K C f/\fs.length<1000 /\
 D.nx σ (upd H2 a (.ins C dx (QA f y fs)))
section
variable{o value:Z4}{tpos:Pos}{tv:TE}
theorem qdG(g:PE X e ta)(hb:iY e f X.env (Z0 e X.env)=Z0 e X.env):PE X (.Attribute e f pos) (qke X.K ta f):=by refine⟨?_⟩;intro Z9 s σ H Q I h;refine qer hb (thn (g Z9 s σ H _ I h) λu s1 z=>?_);obtain⟨x,H1,i,d,a,C,dx,fs,v,ex,b,c,n,l,q⟩:=z;subst ex;obtain rfl:u=aM a:=d;exact XH i b c n l λU s2 j y=>⟨v,H1,j,y,q⟩
theorem qdH(g:PE X o ta)(e:PE X value tv)(hs:lh value (iw (.Attribute o f pos')) pos.line X.env=pure iE):PS X (.Assign [.Attribute o f pos'] value pos) (qkf X.K ta tv f):=by refine⟨?_⟩;intro Z9 s σ H D I h;refine plainObj_wpAny_Assign_Attribute (thn (e Z9 s σ H _ I h) λu s1 ⟨y,H1,m,r,q⟩=>thn (g Z9 s1 σ H1 _ m q) λv s2 z=>?_) hs;obtain⟨x,H2,k,d,a,C,dx,fs,ex,i,c,n,l,b⟩:=z;subst ex;obtain rfl:v=aM a:=d;exact XI k i c n l r λs3 j=>⟨σ,_,j,b⟩
end
structure Room(k:Nat)(A:iT):Prop where
 hd:A.handled=iB
 dp:A.depth+3 * k+5<recursionLimit
 un:A.units+16 * k+200<lc
theorem Room.mono{k:Nat}(r:Room k A)(h:j<=k):Room j A:=⟨r.hd,by have:=r.dp;lia,by have:=r.un;lia⟩
theorem Room.deeper{k:Nat}(r:Room (k+1) A)(env:Env):Room k (A.deeper env):=
 ⟨r.hd,by have:=r.dp;show A.depth+1+3 * k+5<_;lia,by have:=r.un;show A.units+3+16 * k+200<_;lia⟩
variable{kw:List (Str×iC)}
theorem XJ:(A.under (.builtin "type.__call__" ⟨.ref C::us,kw⟩)).depth=A.depth+1:=by first|rfl|simp[ib,Code.weight,Code.isCreation,Code.isGuard,Code.isCaller,Code.frames,ic,guardIds]
theorem XM:(A.under (.builtin "type.__call__" ⟨.ref C::us,kw⟩)).units=A.units+1:=by first|rfl|simp[ib,Code.cUnits,Code.frames,ic]
theorem Room.make{k:Nat}(r:Room (k+1) A)(C:Z7)(us:List iC)(kw:List (Str×iC)):Room k (A.under (.builtin "type.__call__" ⟨.ref C::us,kw⟩)):=
 ⟨r.hd,by have:=r.dp;rw[XJ];lia,by have:=r.un;rw[XM];lia⟩
theorem Room.depth{k:Nat}(r:Room k A):A.depth<recursionLimit:=by have:=r.dp;lia
theorem Room.units{k:Nat}(r:Room k A):A.units+64<lc:=by have:=r.un;lia
def qgD:TA:=λ_ H Q=>Q [] H
def qb2(ta:TE)(t:TA):TA:=λσ H Q=>ta σ H λx H1=>t σ H1 λxs H2=>Q (x::xs) H2
variable{t:TA}
section
theorem jC:PA X [] qgD:=⟨λ_ _ _ _ H Q I h=>fL ⟨[],H,I,.nil,h⟩⟩
theorem qP(f:PE X e te)(c:PA X es t)(hs:iI (e::es) X.env=(iE,Z0 e X.env)::iI es X.env:=by rfl):PA X (e::es) (qb2 te t):=by refine⟨?_⟩;intro pos Z9 s σ H Q I h;rw[hs];show iH _ _ (spliced ((iE,Z0 e X.env)::j0 pos (iI es X.env))) _ _ s;refine fC (thn (f Z9 s σ H _ I h) λu s1 z=>?_);obtain⟨x,H1,a,r1,q⟩:=z;exact thn (c pos Z9 s1 σ H1 _ a q) λus s2 ⟨xs,H2,j,r2,d⟩=>⟨x::xs,H2,j,.cons r1 r2,d⟩
def qkg(t:TA):TE:=λσ H Q=>t σ H λxs H1=>xs.length<=Z8/\∀p,H1 p=iB->Q (.ref p) (upd H1 p (.tup xs))
def qkh(t:TA):TE:=λσ H Q=>t σ H λxs H1=>xs.length<=Z8/\∀p,H1 p=iB->Q (.ref p) (upd H1 p (.lst xs))
theorem qgE{x1}(h:PA X es t):PE X (.Tuple es x1 pos) (qkg t):=by refine⟨?_⟩;intro Z9 s σ H Q I hq;refine wpAny_Tuple_spliced (thn (h pos Z9 s σ H _ I hq) λus s1 ⟨xs,H1,d,r,z,q⟩=>⟨by rw[<-r.length];exact z,?_⟩);have f:H1 s1.heap.objs.size=none:=d.hok.fresh (aq _);refine⟨.ref s1.heap.objs.size,upd H1 s1.heap.objs.size (.tup xs),d.laid (t':=s1.toks) (λb u e=>aa _ e) (aq _) ?_,rfl,q _ f⟩;exact⟨⟨z,_,af _ rfl,rfl⟩,us,r,⟨_,af _ rfl,rfl,_,rfl⟩⟩
theorem qgF(h:PA X es t):PE X (.List es pos) (qkh t):=by refine⟨?_⟩;intro Z9 s σ H Q I hq;refine wpAny_List_spliced (thn (h pos Z9 s σ H _ I hq) λus s1 ⟨xs,H1,d,r,z,q⟩=>⟨by rw[<-r.length];exact z,?_⟩);have f:H1 s1.heap.objs.size=none:=d.hok.fresh (aq _);refine⟨.ref s1.heap.objs.size,upd H1 s1.heap.objs.size (.lst xs),d.laid (t':=s1.toks) (λb u e=>aa _ e) (aq _) ?_,rfl,q _ f⟩;exact⟨z,us,0,r,af _ rfl⟩
end
abbrev Sp:=List V->Hp->VK->XK->Prop
abbrev CXT:=List Env->Hp->iF->XK->iC->iF->Prop
structure Env0(P:iK)(w:iL)(K:Y9)(mg:Str->Option iC)(base:Z5)(A:iT)(outer:List Env)(s:iF)(H:Hp):Prop where
 frames:A.frames=iw outer
 mod:Mod K mg base
 bs:∀b o,base.get? b=iw o->s.heap.get? b=iw o/\H b=iB
 bsz:base.objs.size<=s.heap.objs.size
 funs:s.heap.FunFrames base outer
 frf:∀b∈frs outer,H b=iB
 hok:HOk P w H s.heap
 bare:l5 s.gens
def CE(outer:List Env)(P:iK)(w:iL)(H:Hp)(s:iF)(Q:VK)(u:iC)(s':iF):Prop:=
 ∃v H',s'.os=s.os/\l5 s'.gens/\Un (frs outer) [] H H' s.heap s'.heap/\HOk P w H' s'.heap/\RelV v u/\Q v H'
def CR(CX:CXT)(outer:List Env)(P:iK)(w:iL)(H:Hp)(s:iF)(Q:VK)(E:XK)(r:mR)(s':iF):Prop:=
 match r with
 |.ok (.ret u)=>CE outer P w H s Q u s'
 |.ok _=>False
 |.error e=>CX outer H s E e s'
structure FnOk(P:iK)(w:iL)(K:Y9)(mg:Str->Option iC)(base:Z5)(CX:CXT)(k:Nat)(f:Z7)(fd:lA)(ps:List Str)(sp:Sp):Prop where
 len:∀vs H Q E,sp vs H Q E->vs.length=ps.length
 run:∀(A:iT)(outer:List Env)(s:iF)(H:Hp)(args:Args)(us:List iC)(vs:List V)(Q:VK)(E:XK),Room k A->Env0 P w K mg base A outer s H->mU s fd args (ps.zip us)->Vals vs us->sp vs H Q E ->lq (Z6 P w) A (.call (.ref f) args) (CR CX outer P w H s Q E) s
variable{mg:Str->Option iC}{base:Z5}{CX:CXT}{fd:lA}{ps:List Str}{sp:Sp}
theorem FnOk.imp{k:Nat}{f:Z7}{a:Sp}(F:FnOk P w K mg base CX k f fd ps sp)(h:∀vs H Q E,a vs H Q E->sp vs H Q E):FnOk P w K mg base CX k f fd ps a:=
 ⟨λvs H Q E q=>F.len vs H Q E (h _ _ _ _ q),λA outer s H args us vs Q E r g hb c hs=>F.run A outer s H args us vs Q E r g hb c (h _ _ _ _ hs)⟩
theorem Env0.make{outer:List Env}(e:Env0 P w K mg base A outer s H)(C:Z7)(us:List iC)(kw:List (Str×iC)):Env0 P w K mg base (A.under (.builtin "type.__call__" ⟨.ref C::us,kw⟩)) outer s H:=⟨by first|exact e.frames|(simpa[ib,Code.envs,ic,pushEnvs]using e.frames),e.mod,e.bs,e.bsz,e.funs,e.frf,e.hok,e.bare⟩
section
theorem Inv.env0(I:Inv X Z9 σ H s):Env0 X.prog X.w X.K X.mg X.base X.A X.stack s H:=
 ⟨I.ok.frames,I.ok.mod,I.bs,bb I.ok.bsz I.sz,I.stack,I.stkFree,I.hok,I.bare⟩
theorem Inv.after{Q:VK}(I:Inv X Z9 σ H s)(h:CE X.stack X.prog X.w H s Q u s'):EP X Z9 σ Q u s':=by obtain⟨v,H',os,bare,un,hok,r,q⟩:=h;obtain⟨a,g,d,t,o⟩:=s';obtain rfl:o=s.os:=os;exact⟨v,H',I.call (h':=a) (g':=g) (d':=d) (t':=t) (ch:=[]) un hok bare (λb z=>absurd z (by simp)),r,q⟩
end
def qgG(sp:Sp)(dvs:List V)(E:XK)(t:TA):TE:=λσ H Q=>t σ H λvs H1=>sp (vs++dvs) H1 Q E
def qgH(C:Z7)(m:Str)(sp:Sp)(dvs:List V)(E:XK)(ta:TE)(t:TA):TE:=λσ H Q=>ta σ H λx H1=>∃a dx fs,x=.ref a/\H1 a=iw (.ins C dx fs)/\fs.lookup m=iB /\
 t σ H1 λvs H2=>sp (x::(vs++dvs)) H2 Q E
def qiN(C:Z7)(sp:Sp)(dvs:List V)(E:XK)(t:TA):TE:=λσ H Q=>t σ H λvs H1=>∀x dx,H1 x=iB->H1 dx=iB->dx≠x ->sp (.ref x::(vs++dvs)) (upd (upd H1 dx (.own x)) x (.ins C dx [])) (λv H2=>v=.non/\Q (.ref x) H2) E
def Binds(K:Y9)(fd:lA)(ps:List Str)(ds:List iC):Prop:=
 ∀(s:iF)(us:List iC),K.In s.heap->(us++ds).length=ps.length->mU s fd ⟨us,[]⟩ (ps.zip (us++ds))
theorem Binds.all(h:∀us:List iC,us.length=ps.length->bindArgs fd ⟨us,[]⟩=pure (ps.zip us)):Binds K fd ps []:=λs us _ hl=>by rw[bv]at hl ⊢;exact .of_eq (h us hl)
def kr(CX:CXT)(X:Cx)(E:XK):Prop:=∀(Z9:Pns)(σ:St)(H:Hp)(s:iF)(e:iC)(s':iF),Inv X Z9 σ H s->CX X.stack H s E e s'->X.xe e s'
variable{apos:Pos}
section
variable{k:Nat}{f:Z7}{dvs:List V}{ds:List iC}{E:XK}{o:Z4}
set_option tactic.hygienic true in
theorem US{Z9:Pns}{σ:St}{H:Hp}{s:iF}{Q:VK}{us:List iC}{vs:List V}(F:FnOk X.prog X.w X.K X.mg X.base CX k f fd ps sp)(c:Room k X.A)(hb:Binds X.K fd ps ds)(hd:Vals dvs ds)(hx:kr CX X E)(I:Inv X Z9 σ H s)(r:Vals vs us)(h:sp (vs++dvs) H Q E):iH (Z6 X.prog X.w) X.A (call (.ref f) us) (EP X Z9 σ Q) X.xe s:=by
 have r2:Vals (vs++dvs) (us++ds):=r.append hd;have hl:(us++ds).length=ps.length:=by rw[<-r2.length];exact F.len _ _ _ _ h
 refine wpAny_call (lP (F.run X.A X.stack s H ⟨us,[]⟩ (us++ds) (vs++dvs) Q E c I.env0 (hb s us I.kIn hl) r2 h) λr s' hq=>?_);cases r with
 |error e=>exact hx Z9 σ H s e s' I hq
 |ok fl=>
  cases fl with
  |ret u=>exact I.after hq
  |next=>exact cx hq
  |brk=>exact cx hq
  |cont=>exact cx hq
theorem ZV(F:FnOk X.prog X.w X.K X.mg X.base CX k f fd ps sp)(c:Room k X.A)(hg:Gl X x)(m:X.mg x=iw (.ref f))(a:mC X.K (.ref f)=iD)(hb:Binds X.K fd ps ds)(hd:Vals dvs ds)(hx:kr CX X E)(i:PA X (e::es) t)(b:Dbg x:=by decide)(g:iI (e::es) X.env=(iE,Z0 e X.env)::iI es X.env:=by rfl)(l:(j0 pos (iI es X.env)).any (·.1)=false:=by rfl) :
  PE X (.Call (.Name x p) (e::es) [] pos) (qgG sp dvs E t):=by
 refine⟨?_⟩;intro Z9 s σ H Q I h;refine i0 (Jy I hg m ?_ b);refine fD (h₀:=X.base) I.ok.mod.kin a (thn (i pos Z9 s σ H _ I h) λus s1 ⟨vs,H1,d,r,q⟩=>⟨d.kIn,?_⟩) g l;exact US F c hb hd hx d r q
theorem qb3(F:FnOk X.prog X.w X.K X.mg X.base CX k f fd ps sp)(c:Room k X.A)(hg:Gl X x)(m:X.mg x=iw (.ref f))(a:mC X.K (.ref f)=iD)(hb:Binds X.K fd ps ds)(hd:Vals dvs ds)(hx:kr CX X E)(b:Dbg x:=by decide):PE X (.Call (.Name x p) [] [] pos) (qgG sp dvs E qgD):=by
 refine⟨?_⟩;intro Z9 s σ H Q I h;refine i0 (Jy I hg m ?_ b);exact PySem.W.callWith_K0 I.kIn a (US (us:=[]) F c hb hd hx I .nil h)
theorem qes{pl:Sem Bool}(y:PE X o ta)(c:Cls X.K C)(g:Meth X.K C m f)(F:FnOk X.prog X.w X.K X.mg X.base CX k f fd ps sp)(v:Room k X.A)(hb:Binds X.K fd ps ds)(hd:Vals dvs ds)(hx:kr CX X E)(B:PA X (e::es) t)(b:iI (e::es) X.env=(iE,Z0 e X.env)::iI es X.env:=by rfl)(d:(j0 pos (iI es X.env)).any (·.1)=false:=by rfl)
  (ht:Z0 (.Call (.Attribute o m apos) (e::es) [] pos) X.env=(do
   let ov <-Z0 o X.env
   l6 apos.atName
   let (f,first) <-holding [ov] (mn ov m pl)
   callWith pos f first (j0 pos (iI (e::es) X.env)) (lB pos (j8 [] X.env))):=by rfl) :
  PE X (.Call (.Attribute o m apos) (e::es) [] pos) (qgH C m sp dvs E ta t):=by
 refine⟨?_⟩;intro Z9 s σ H Q I h;refine PySem.W.methodCall_KW (pl:=pl) (thn (y Z9 s σ H _ I h) λu s1 z=>?_) ht;obtain⟨x,H1,i,n,a,dx,fs,ex,D,l,q⟩:=z;subst ex;obtain rfl:u=aM a:=n;refine QS i D c g l ?_;refine fD (first:=[.ref a]) (h₀:=X.base) I.ok.mod.kin g.kp (thn (B pos Z9 s1 σ H1 _ i q) λus s2 ⟨vs,H2,j,r,p⟩=>⟨j.kIn,?_⟩) b d;exact US (us:=.ref a::us) (vs:=.ref a::vs) F v hb hd hx j (.cons rfl r) p
theorem qb4{pl:Sem Bool}(g:PE X o ta)(c:Cls X.K C)(b:Meth X.K C m f)(F:FnOk X.prog X.w X.K X.mg X.base CX k f fd ps sp)(e:Room k X.A)(hb:Binds X.K fd ps ds)(hd:Vals dvs ds)(hx:kr CX X E)
  (ht:Z0 (.Call (.Attribute o m apos) [] [] pos) X.env=(do
   let ov <-Z0 o X.env
   l6 apos.atName
   let (f,first) <-holding [ov] (mn ov m pl)
   callWith pos f first (j0 pos (iI [] X.env)) (lB pos (j8 [] X.env))):=by rfl) :
  PE X (.Call (.Attribute o m apos) [] [] pos) (qgH C m sp dvs E ta qgD):=by
 refine⟨?_⟩;intro Z9 s σ H Q I h;refine PySem.W.methodCall_KW (pl:=pl) (thn (g Z9 s σ H _ I h) λu s1 z=>?_) ht;obtain⟨x,H1,d,r,a,dx,fs,ex,i,l,q⟩:=z;subst ex;obtain rfl:u=aM a:=r;refine QS d i c b l ?_;exact PySem.W.callWith_K0 (first:=[.ref a]) d.kIn b.kp (US (us:=[.ref a]) (vs:=[.ref a]) F e hb hd hx d (.cons rfl .nil) q)
structure Mk(K:Y9)(C f:Z7):Prop where
 makes:dP K C=iD
 init:bH K (.ref C) "__init__"=iw (iw (.ref f))
 fn:fX K (.ref f)=iD
 kp:mC K (.ref C)=iD
set_option tactic.hygienic true in
theorem qb5{Z9:Pns}{σ:St}{H:Hp}{s:iF}{Q:VK}{us:List iC}{vs:List V}(M:Mk X.K C f)(F:FnOk X.prog X.w X.K X.mg X.base CX k f fd ps sp)(c:Room (k+1) X.A)(hb:Binds X.K fd ps ds)(hd:Vals dvs ds)(hx:kr CX X E)(I:Inv X Z9 σ H s)(r:Vals vs us)(h:∀x dx,H x=iB->H dx=iB->dx≠x->sp (.ref x::(vs++dvs)) (upd (upd H dx (.own x)) x (.ins C dx [])) (λv H2=>v=.non/\Q (.ref x) H2) E) :
  iH (Z6 X.prog X.w) X.A (call (.ref C) us) (EP X Z9 σ Q) X.xe s:=by
 have hq:=h (s.heap.objs.size+1) s.heap.objs.size (I.hok.fresh (ip _)) (I.hok.fresh (aq _)) (ax (eZ _));have j:=Inv.made (C:=C) I;have r2:Vals (V.ref (s.heap.objs.size+1)::(vs++dvs)) (aM (s.heap.objs.size+1)::(us++ds)):=.cons rfl (r.append hd);have hl:(aM (s.heap.objs.size+1)::us++ds).length=ps.length:=by have e:=r2.length;rw[F.len _ _ _ _ hq]at e;exact e.symm
 refine wpAny_call (qb1 (f:=f) I.kIn M.makes M.init (beq_iff_eq.mp M.fn) (lP (F.run _ X.stack _ _ ⟨aM (s.heap.objs.size+1)::us,[]⟩ (aM (s.heap.objs.size+1)::(us++ds)) _ _ E (c.make C us [])
  (j.env0.make C us []) (hb _ (aM (s.heap.objs.size+1)::us) j.kIn hl) r2 hq) λr s' a=>?_))
 cases r with
 |error e=>exact hx Z9 σ _ _ e s' j a
 |ok fl=>
  cases fl with
  |ret u=>obtain⟨v,H',g,d,ev,q⟩:=j.after a;subst ev;exact⟨d,⟨V.ref (s.heap.objs.size+1),H',g,rfl,q⟩⟩
  |next=>exact cx a
  |brk=>exact cx a
  |cont=>exact cx a
theorem qet(M:Mk X.K C f)(F:FnOk X.prog X.w X.K X.mg X.base CX k f fd ps sp)(c:Room (k+1) X.A)(hg:Gl X x)(m:X.mg x=iw (.ref C))(hb:Binds X.K fd ps ds)(hd:Vals dvs ds)(hx:kr CX X E)(a:PA X (e::es) t)(b:Dbg x:=by decide)(g:iI (e::es) X.env=(iE,Z0 e X.env)::iI es X.env:=by rfl)(l:(j0 pos (iI es X.env)).any (·.1)=false:=by rfl) :
  PE X (.Call (.Name x p) (e::es) [] pos) (qiN C sp dvs E t):=by
 refine⟨?_⟩;intro Z9 s σ H Q I h;refine i0 (Jy I hg m ?_ b);refine fD (h₀:=X.base) I.ok.mod.kin M.kp (thn (a pos Z9 s σ H _ I h) λus s1 ⟨vs,H1,d,r,q⟩=>⟨d.kIn,?_⟩) g l;exact qb5 M F c hb hd hx d r q
end
section
variable{k:Nat}{f:Z7}{ks:List Str}{E:XK}{kpos:Pos}{o:Z4}{kws:List lr}{tk:TA}{nm:Option Str}
variable{g:List iC->List iC->List iC}{gV:List V->List V->List V}
end
structure FnScope(N P:List Str)(sc:lX):Prop where
 kind:sc.kind=.function
 co:sc.isCoroutine=iE
 gen:sc.isGenerator=iE
 nd:N.Nodup
 pre:N.take P.length=P
 par:∀x∈P,sc.names.lookup x=iw .local\/sc.names.lookup x=iw .cell
 nofree:∀y∈sc.names,y.2≠.free
variable{kindOf:Str->Option lv}
theorem KO:∀{binds:List (Str×iC)}{m:Str->Option iC},(∀v,(x,v)∉binds)->bindL kindOf binds m x=m x
 |[],_,_=>rfl
 | (n,v)::r,m,h=>by
  unfold bindL;rw[KO λw hw=>h w (ae _ hw)];split
  .have:x≠n:=by rintro rfl;exact h v au
   simp[this]
  .rfl
theorem KQ:∀{binds:List (Str×iC)}{m:Str->Option iC},(∀v,(x,v)∉binds)->bindC kindOf binds m x=m x
 |[],_,_=>rfl
 | (n,v)::r,m,h=>by
  unfold bindC;rw[KQ λw hw=>h w (ae _ hw)];split;·rfl
  .have:x≠n:=by rintro rfl;exact h v au
   simp[this]
theorem KR{kindOf:Str->Option lv}{x:Str}{v:iC}:∀{P:List Str}{vs:List iC}{i:Nat}{m:Str->Option iC},P.Nodup->P[i]?=iw x->vs[i]?=iw v->kindOf x=iw .local ->bindL kindOf (P.zip vs) m x=iw v
 |[],_,_,_,_,h,_,_=>by simp at h
 |_::_,[],_,_,_,_,h,_=>by simp at h
 |p::P,w::vs,0,m,nd,h1,h2,hk=>by simp at h1 h2;subst h1;subst h2;show bindL kindOf ((p,w)::P.zip vs) m p=_;unfold bindL;rw[KO λv c=>(ba.mp nd).1 (cF c).1,Aa hk];simp
 |p::P,w::vs,i+1,m,nd,h1,h2,hk=>by show bindL kindOf ((p,w)::P.zip vs) m x=_;unfold bindL;exact KR (i:=i) (ba.mp nd).2 (by simpa using h1) (by simpa using h2) hk
theorem KS{kindOf:Str->Option lv}{x:Str}{v:iC}:∀{P:List Str}{vs:List iC}{i:Nat}{m:Str->Option iC},P.Nodup->P[i]?=iw x->vs[i]?=iw v->kindOf x≠iw .local ->bindC kindOf (P.zip vs) m x=iw v
 |[],_,_,_,_,h,_,_=>by simp at h
 |_::_,[],_,_,_,_,h,_=>by simp at h
 |p::P,w::vs,0,m,nd,h1,h2,hk=>by simp at h1 h2;subst h1;subst h2;show bindC kindOf ((p,w)::P.zip vs) m p=_;unfold bindC;rw[KQ λv c=>(ba.mp nd).1 (cF c).1,Ab hk];simp
 |p::P,w::vs,i+1,m,nd,h1,h2,hk=>by show bindC kindOf ((p,w)::P.zip vs) m x=_;unfold bindC;exact KS (i:=i) (ba.mp nd).2 (by simpa using h1) (by simpa using h2) hk
noncomputable def yz(N:List Str)(vs:List V):St:=vs.map iw++aS (N.length - vs.length) iB
def qeu(CX:CXT)(P:iK)(w:iL)(K:Y9)(mg:Str->Option iC)(base:Z5)(N:List Str)(qual:Str)(scope:lX)(f:Z7)(cd:iC)(A:iT)(outer:List Env)(s:iF)(H:Hp)(E:XK):Cx where
 prog:=P
 w:=w
 K:=K
 mg:=mg
 base:=base
 A:=A.deeper (l0 qual scope s.heap.objs.size f cd)
 N:=N
 s₀:=s
 H₀:=H
 env:=l0 qual scope s.heap.objs.size f cd
 outer:=outer
 stack:=l0 qual scope s.heap.objs.size f cd::outer
 ex:=[]
 calm:=iD
 fn:=λ_=>iD
 pn:=[]
 xe:=λe s'=>iH (Z6 P w) (A.deeper (l0 qual scope s.heap.objs.size f cd)) (leaving (l0 qual scope s.heap.objs.size f cd) e) (λ_ a=>CX outer H s E e a) (λb a=>CX outer H s E b a) s'
theorem UT{sc:lX}{n:Nat}(h:sc.names.lookup x=iw .cell):∃c,(cellsFrom n sc.names []).lookup x=iw c:=by have q:=PySem.W.cellsFrom_some sc.names n [] (.inl h);exact Option.isSome_iff_exists.mp q
theorem ZW{CX:CXT}{P:iK}{w:iL}{K:Y9}{mg:Str->Option iC}{base:Z5}{N ps:List Str}{qual:Str}{scope:lX}{f:Z7}{cd:iC}{A:iT}{outer:List Env}{s s1:iF}{H:Hp}{E:XK}{us:List iC}{vs:List V}(S:FnScope N ps scope)(hd:A.handled=iB)(e0:Env0 P w K mg base A outer s H)(hl:vs.length=ps.length)(r:Vals vs us)(x:InCallC s s.heap.objs.size (bindL (l0 qual scope s.heap.objs.size f cd).kindOf (ps.zip us) λ_=>iB) (cellsFrom (s.heap.objs.size+1) scope.names []) (bindC (l0 qual scope s.heap.objs.size f cd).kindOf (ps.zip us) λ_=>iB) s1) :
  Inv (qeu CX P w K mg base N qual scope f cd A outer s H E) [] (yz N vs) H s1:=by
 have t:ps.length<=N.length:=by have:=congrArg fM S.pre;rw[cu]at this;lia
 obtain⟨h1,tk,rfl,m⟩:=x.done;have d:∀b:Z7,b∉(qeu CX P w K mg base N qual scope f cd A outer s H E).ex:=λb z=>absurd (show b∈([]:List Z7)from z) (by simp);refine⟨⟨e0.mod,S.kind,rfl,rfl,aq _,λy z c h1 h2=>?_,λy g=>?_,λy c _ h=>?_,λ_=>hd,Around.frames_deeper e0.frames,.inr ⟨rfl,rfl⟩,λb z=>absurd z (d b),e0.bs,e0.bsz,λb _ _=>d b,λb z=>absurd z (d b),e0.funs,e0.frf⟩,rfl,e0.bare,Un.kept m,⟨_,x.toInCall.ns,λi y v h1 h2 C=>?_⟩,λy c h=>⟨_,x.cell y c h⟩,e0.hok.fresh (aq _),λy c h=>?_,λp hp=>absurd (show p∈([]:Pns)from hp) (by simp),e0.hok.kept m,?_⟩;·exact name_of_addr x.apart (cP h1) (cP h2)
 .have g:scope.names.lookup y=iw .cell\/scope.names.lookup y=iw .free:=g;rcases g with g|g;·exact UT g
  .exact absurd rfl (S.nofree _ (cP g))
 .exact cm (x.above y c (cP h))
 .have hi:i<vs.length:=by
   unfold yz at h2;by_cases hi:i<vs.length;·exact hi
   .rw[cy (by simpa using hi)]at h2;rw[dX]at h2;split at h2 <;> cases h2
  have B:vs[i]?=iw v:=by
   unfold yz at h2;rw[cD (by simpa using hi),aJ]at h2;cases e:vs[i]? with
   |none=>rw[e]at h2;cases h2
   |some a=>rw[e]at h2;cases h2;rfl
  obtain⟨u,l,o⟩:=r.get B;have hp:ps[i]?=iw y:=by rw[<-S.pre,List.getElem?_take_of_lt (by lia)];exact h1
  have j:ps.Nodup:=by rw[<-S.pre];exact S.nd.sublist (List.take_sublist _ _)
  refine⟨u,o,?_⟩;rcases S.par y (dA hp)with k|k;·exact .inl ⟨k,KR j hp l k⟩
  .obtain⟨c,e⟩:=UT (n:=s.heap.objs.size+1) k;refine .inr ⟨.inl k,c,e,?_⟩;have q:=x.cell y c e;rw[KS j hp l (by show scope.names.lookup y≠_;rw[k];decide)]at q;exact q
 .exact e0.hok.fresh (cm (x.above y c (cP h)))
 .unfold yz;show _=N.length;rw[am,ah,cA]
  lia
set_option tactic.hygienic true in
theorem qiO{CX:CXT}{P:iK}{w:iL}{K:Y9}{mg:Str->Option iC}{base:Z5}{k:Nat}{f:Z7}{name qual:Str}{params:Arguments}{body:List Z3}{scope:lX}{i kV doc pm cdv ct oc:iC}{an od:Option Z7}{osl:Array (Option iC)}{N ps:List Str}{sp:Sp}(lk:K.lookup f=iw ⟨oc,od,.func (cY name qual params body scope i kV doc pm an cdv ct),osl⟩)(g:codeIn K cdv qual=iD)(S:FnScope N ps scope)(len:∀vs H Q E,sp vs H Q E->vs.length=ps.length)(a:∀(A:iT)(outer:List Env)(s:iF)(H:Hp)(vs:List V)(Q:VK)(E:XK),Room k (A.deeper (l0 qual scope s.heap.objs.size f cdv))->sp vs H Q E ->∃t,PSs (qeu CX P w K mg base N qual scope f cdv A outer s H E) body t/\t { nx:=λ_ H'=>Q .non H',rt:=Q } (yz N vs) H) :
  FnOk P w K mg base CX (k+1) f (cY name qual params body scope i kV doc pm an cdv ct) ps sp:=by
 refine⟨len,λA outer s H args us vs Q E c e0 hb r p=>?_⟩;have hl:=len _ _ _ _ p;have X:K.In s.heap:=e0.mod.kin.keeps λb o e=>(e0.bs b o e).1;have l:s.heap.NoLimit:=e0.mod.nolimit.keeps λb o e=>(e0.bs b o e).1;have h:∀y∈ps.zip us,scope.names.lookup y.1=iw .local\/(scope.names.lookup y.1=iw .cell/\((cellsFrom (s.heap.objs.size+1) scope.names []).lookup y.1).isSome=iD):=λ⟨n,v⟩ j=>by
  rcases S.par n (cF j).1 with q|q;·exact .inl q
  .exact .inr ⟨q,PySem.W.cellsFrom_some _ _ _ (.inl q)⟩
 refine codeAny_call_function c.depth (X _ _ lk) rfl S.co S.gen rfl (PySem.W.codeRec_of X g) (hb _ _ _ _ ?_);refine wpAny_newFunctionEnv_cells S.kind h λenv m s1 x=>?_;subst m;refine⟨l.keeps x.toInCall.keep,codeAny_func ?_⟩;obtain⟨t,ht,hq⟩:=a A outer s H vs Q E (c.deeper _) p;have I:Inv (qeu CX P w K mg base N qual scope f cdv A outer s H E) [] (yz N vs) H s1:=ZW S c.hd e0 hl r x;refine lI (ht [] s1 (yz N vs) H _ I hq) (λfl s' hs=>?_) λe s' hs=>hs;have fin:∀{σ':St}{H':Hp}{v:V}{u:iC},Inv (qeu CX P w K mg base N qual scope f cdv A outer s H E) [] σ' H' s'->RelV v u->Q v H'->CE outer P w H s Q u s':=
  λ{σ' H' v u} J d q=>⟨v,H',J.os,J.bare,J.base,J.hok,d,q⟩
 cases fl with
 |ret u=>obtain⟨v,σ',H',J,d,q⟩:=hs;exact fin J d q
 |next=>obtain⟨σ',H',J,q⟩:=hs;exact fin (v:=V.non) (u:=bK) J rfl q
 |brk=>obtain⟨_,_,_,q⟩:=hs;exact cx q
 |cont=>obtain⟨_,_,_,q⟩:=hs;exact cx q
section
variable{id T:String}{r:List V->Hp->VK->Prop}
def tCB(r:List V->Hp->VK->Prop)(t:TA):TE:=λσ H Q=>t σ H λvs H1=>r vs H1 Q
theorem yA(d:wG X (.builtin id) r)(hg:Gl X x)(m:X.mg x=iB)(c:iJ x=iw (.builtin id))(f:PA X (e::es) t)(n:x ≠ "__name__":=by decide)(b:Dbg x:=by decide)(g:iI (e::es) X.env=(iE,Z0 e X.env)::iI es X.env:=by rfl)(l:(j0 pos (iI es X.env)).any (·.1)=false:=by rfl):PE X (.Call (.Name x p) (e::es) [] pos) (tCB r t):=by
 refine⟨?_⟩;intro Z9 s σ H Q I h;refine i0 (yy I hg m c ?_ n b);exact PyProof.Rows.callWith_builtin1 (thn (f pos Z9 s σ H _ I h) λus s1 ⟨vs,H1,a,r1,q⟩=>d Z9 s1 σ H1 vs us Q a r1 q) g l
theorem kX(d:wG X (.type T) r)(hg:Gl X x)(m:X.mg x=iB)(c:iJ x=iw (.type T))(f:PA X (e::es) t)(n:x ≠ "__name__":=by decide)(b:Dbg x:=by decide)(g:iI (e::es) X.env=(iE,Z0 e X.env)::iI es X.env:=by rfl)(l:(j0 pos (iI es X.env)).any (·.1)=false:=by rfl):PE X (.Call (.Name x p) (e::es) [] pos) (tCB r t):=by
 refine⟨?_⟩;intro Z9 s σ H Q I h;refine i0 (yy I hg m c ?_ n b);exact bD (thn (f pos Z9 s σ H _ I h) λus s1 ⟨vs,H1,a,r1,q⟩=>d Z9 s1 σ H1 vs us Q a r1 q) g l
end
end L2
namespace HT
open PySem PyProof.Rows
section
open PySem.SeqAt
open PySem.AutoSeq1 (wpAny_loadPart')
open PySem.MeetsSeq PySem.MeetsSeq2 PySem.MeetsSeq3
end
section
variable{prog:iK}{w:iL}{A:iT}{E:iC->iF->Prop}{s:iF}
theorem cat_tup{t b:Z7}{vs ws:List iC}{Q:iC->iF->Prop}(ht:IsTup s.heap t vs.toArray)(hb:IsTup s.heap b ws.toArray)(v:vs≠[])(h1:ws=[]->Q (.ref t) s)(h2:ws≠[]->Q (.ref s.heap.objs.size) { s with heap:=s.heap.push { cls:=.type "tuple",data:=.seq (vs++ws).toArray } })(hsz:vs.length+ws.length<=Z8):iH (Z6 prog w) A (i8 .Add (.ref t) (.ref b)) Q E s:=by
 obtain⟨⟨cls,i,data,sl⟩,l,g,n,hd⟩:=id ht;obtain⟨⟨j,d,f,a⟩,h,c,n2,hd2⟩:=id hb;simp only at g hd c hd2;subst g hd c hd2;have e:vs.toArray++ws.toArray=(vs++ws).toArray:=by simp
 by_cases hw:ws=[]
 .exact mD ⟨_,l,rfl⟩ ⟨_,h,rfl⟩ noFill_tuple_add seq_tuple_add d9 dY (dL _ _)
   (tuple_addW1 t b vs.toArray ws.toArray n n2 i d sl a (by simpa using v) (by simp[hw])) ⟨l,h,h1 hw⟩
 .refine mD ⟨_,l,rfl⟩ ⟨_,h,rfl⟩ noFill_tuple_add seq_tuple_add d9 dY (dL _ _)
   (tuple_addW2 t b vs.toArray ws.toArray n n2 i d sl a (by simpa using v) (by simpa using hw) (by rw[aj,aj];exact hsz)) ⟨l,h,?_⟩
  rw[e];exact h2 hw
noncomputable def sIx(n d:Nat):Option Int->Nat
 |none=>d
 |some v=>if v<0 then(v+(n:Int)).toNat else min v.toNat n
theorem sIx_none(n d:Nat):sIx n d iB=d:=rfl
theorem sIx_nat(n d k:Nat):sIx n d (iw (k:Int))=min k n:=by show(if (k:Int)<0 then((k:Int)+(n:Int)).toNat else min (k:Int).toNat n)=min k n;rw[Ab (by lia),eh]
end
end HT
namespace L2
open PySem PySem.Spec PyProof.Rows
abbrev TO:=St->Hp->(Option Int->Hp->Prop)->Prop
def PO(X:Cx)(e:Option Z4)(t:TO):Prop:=
 ∀(Z9:Pns)(s:iF)(σ:St)(H:Hp)(Q:Option Int->Hp->Prop),Inv X Z9 σ H s->t σ H Q ->iH (Z6 X.prog X.w) X.A (evalPart e X.env) (λu s'=>∃o H',Inv X Z9 σ H' s'/\IsPart u o/\Q o H') X.xe s
def qev:TO:=λ_ H Q=>Q iB H
def qiP(t:TE):TO:=λσ H Q=>t σ H λx H1=>∃i,x=.int i/\Q (iw i) H1
variable{X:Cx}{e:Z4}{pos:Pos}{xs:List V}{us:List iC}
section
variable{te:TE}{lo hi:Option Z4}{tl th:TO}{p2:Pos}
theorem qew:PO X iB qev:=by intro Z9 s σ H Q I h;rw[evalPart_none];exact iG ⟨iB,H,I,.none,h⟩
theorem qex(h:PE X e te):PO X (iw e) (qiP te):=by intro Z9 s σ H Q I hw;rw[evalPart_some];refine thn (h Z9 s σ H _ I hw) λu s1 z=>?_;obtain⟨x,H1,d,r1,a⟩:=z;obtain⟨i,rfl,q⟩:=a;obtain⟨t,rfl⟩:=r1;exact⟨iw i,H1,d,.int i t,q⟩
def SlR(X:Cx)(r:V->Option Int->Option Int->Hp->VK->Prop):Prop:=
 ∀(Z9:Pns)(s:iF)(σ:St)(H:Hp)(x:V)(v vl u:iC)(lo hi:Option Int)(sl:Z7)(Q:VK),Inv X Z9 σ H s->RelV x v->s.heap.IsSliceOf sl vl u .none->IsPart vl lo->IsPart u hi->r x lo hi H Q ->∃T id,mE (.type T) "__getitem__"=pure (iw (.builtin id))/\s.TypeIs v T/\iH (Z6 X.prog X.w) X.A (getItem v (.ref sl)) (EP X Z9 σ Q) X.xe s
def tSl(r:V->Option Int->Option Int->Hp->VK->Prop)(te:TE)(tl th:TO):TE:=λσ H Q=>te σ H λx H1=>tl σ H1 λl H2=>th σ H2 λu b=>r x l u b Q
theorem qb6{r:V->Option Int->Option Int->Hp->VK->Prop}(j:SlR X r)(k:PE X e te)(hl:PO X lo tl)(i:PO X hi th):PE X (.Subscript e (.Slice lo hi iB p2) pos) (tSl r te tl th):=by refine⟨?_⟩;intro Z9 s σ H Q I h;refine Subscript_ (thn (k Z9 s σ H _ I h) λv s1 z=>?_);obtain⟨x,H1,t,r1,g⟩:=z;refine wpAny_Slice (thn (hl Z9 s1 σ H1 _ t g) λvl s2 ⟨l,H2,o,pl,f⟩=>thn (i Z9 s2 σ H2 _ o f) λa s3 z=>?_);obtain⟨u,c,n,p,d⟩:=z;rw[evalPart_none];refine iG ?_;have E:Inv X Z9 σ c { s3 with heap:=s3.heap.push { cls:=.type "slice",data:=.fields #[vl,a,.none] } }:=n.kept (t':=s3.toks) λb y q=>aa _ q;obtain⟨T,id,m,ht,hg⟩:=j Z9 { s3 with heap:=s3.heap.push { cls:=.type "slice",data:=.fields #[vl,a,.none] } } σ c x v vl a l u s3.heap.objs.size Q E r1 (Heap.IsSliceOf.new ..) pl p d;show iH (Z6 X.prog X.w) X.A (subscriptTail e (.Slice lo hi iB p2) v (.ref s3.heap.objs.size)) (EP X Z9 σ Q) X.xe { s3 with heap:=s3.heap.push { cls:=.type "slice",data:=.fields #[vl,a,.none] } };exact tail_any (ops:=[.ref s3.heap.objs.size,v]) ht m hg (by with_unfolding_all rfl)
def qey(xs:List V)(lo hi:Option Int):List V:=(xs.drop (HT.sIx xs.length 0 lo)).take (HT.sIx xs.length xs.length hi - HT.sIx xs.length 0 lo)
theorem Ww(xs:List V)(lo hi:Option Int):(qey xs lo hi).length<=xs.length:=by
 unfold qey;rw[cu,List.length_drop]
 lia
def qiQ(K:Y9):R2:=λx y H Q=>∃a b xs ys,x=.ref a/\y=.ref b/\SqT K H a xs/\SqT K H b ys/\xs≠[]/\xs.length+ys.length<=Z8 /\
 (ys=[]->Q (.ref a) H)/\(ys≠[]->∀p,H p=iB->Q (.ref p) (upd H p (.tup (xs++ys))))
theorem Vals.nil_iff(r:Vals xs us):us=[]↔xs=[]:=by
 cases r with
 |nil=>simp
 |cons _ _=>simp
theorem qez:OpR X (i8 .Add) (qiQ X.K):=by intro Z9 s σ H x y v u Q I d c h;obtain⟨a,b,xs,ys,rfl,rfl,g,hb,hx,hz,f,e⟩:=h;cases d;cases c;obtain⟨its,r1,p1,_⟩:=I.tuple g;obtain⟨i,r2,p2,_⟩:=I.tuple hb;refine HT.cat_tup p1 p2 (λz=>hx (r1.nil_iff.mp z)) (λz=>⟨.ref a,H,I,rfl,f (r2.nil_iff.mp z)⟩) (λz=>?_) (by rw[<-r1.length,<-r2.length];exact hz);refine⟨.ref s.heap.objs.size,_,I.laid (t':=s.toks) (o:=.tup (xs++ys)) (λb j q=>aa _ q) (aq _) ?_,rfl,e (λw=>z (r2.nil_iff.mpr w)) _ (I.hok.fresh (aq _))⟩;exact⟨⟨by rw[am];exact hz,_,af _ rfl,rfl⟩,_,r1.append r2,IsTup.new _ _⟩
end
noncomputable def ixN(n:Nat)(i:Int):Option Nat:=if 0<=i then(if i<n then iw i.toNat else iB)else if -(n:Int)<=i then iw (i+n).toNat else iB
variable{α:Type}
def atI(xs:List α)(i:Int):Option α:=(ixN xs.length i).bind λj=>xs[j]?
variable{n:Nat}{i:Int}
theorem ZX{j:Nat}(h:ixN n i=iw j):seqIndex? i n=iw j/\j<n/\-(n:Int)<=i/\i<n:=by
 unfold ixN at h;by_cases a:0<=i
 .rw[Aa a]at h;by_cases h1:i<n;·rw[Aa h1]at h;have e:i.toNat=j:=aL.inj h;exact⟨by rw[seqIndex_of a h1,e],by lia,by lia,h1⟩
  .rw[Ab h1]at h;cases h
 .rw[Ab a]at h;by_cases h1:-(n:Int)<=i;·rw[Aa h1]at h;have e:(i+n).toNat=j:=aL.inj h;exact⟨by rw[seqIndex_neg (by lia) h1,e],by lia,h1,by lia⟩
  .rw[Ab h1]at h;cases h
theorem Wx{xs:List α}{v:α}(h:atI xs i=iw v):∃j,seqIndex? i xs.length=iw j/\xs[j]?=iw v/\j<xs.length/\-(xs.length:Int)<=i/\i<xs.length:=by
 unfold atI at h;cases e:ixN xs.length i with
 |none=>rw[e]at h;cases h
 |some j=>rw[e]at h;obtain⟨h1,h2,g,a⟩:=ZX e;exact⟨j,h1,h,h2,g,a⟩
def Wy(b:Z4):Prop:=∀o i,subscripted b iE o i=operate [o,i] (getItem o i)
def IxR(X:Cx)(r:R2):Prop:=
 ∀(value e:Z4)(Z9:Pns)(s:iF)(σ:St)(H:Hp)(x y:V)(v u:iC)(Q:VK),Inv X Z9 σ H s->RelV x v->RelV y u->r x y H Q ->subscripted e iE v u=operate [v,u] (getItem v u)->iH (Z6 X.prog X.w) X.A (subscriptTail value e v u) (EP X Z9 σ Q) X.xe s
def MtR(X:Cx)(id:String)(r:V->List V->Hp->VK->Prop):Prop:=
 ∀(Z9:Pns)(s:iF)(σ:St)(H:Hp)(x:V)(xs:List V)(v:iC)(us:List iC)(Q:VK),Inv X Z9 σ H s->RelV x v->Vals xs us->r x xs H Q ->iH (Z6 X.prog X.w) X.A (call (.builtin id) (v::us)) (EP X Z9 σ Q) X.xe s
variable{Z9:Pns}{σ:St}{H:Hp}{s:iF}{p:Z7}{T:String}{x:V}
section
variable{a b:Z4}{ta tb:TE}
theorem IxR.or{r r':R2}(h:IxR X r)(h':IxR X r'):IxR X (λx y H Q=>r x y H Q\/r' x y H Q):=by
 intro value e Z9 s σ H x y v u Q I d c q hs;rcases q with q|q;·exact h value e Z9 s σ H x y v u Q I d c q hs
 .exact h' value e Z9 s σ H x y v u Q I d c q hs
theorem qiR{r:R2}(e:IxR X r)(f:PE X a ta)(hb:PE X b tb)(hs:Wy b):PE X (.Subscript a b pos) (tOp r ta tb):=by refine⟨?_⟩;intro Z9 s σ H Q I h;exact Subscript_ (qiE f hb I h λv u s2 x y H2 j d c q=>e a b Z9 s2 σ H2 x y v u Q j d c q (hs _ _))
def qjH(K:Y9):R2:=λx y H Q=>∃p xs i v,x=.ref p/\y=.int i/\SqL K H p xs/\atI xs i=iw v/\Q v H
def qjI(K:Y9):R2:=λx y H Q=>∃p xs i v,x=.ref p/\y=.int i/\SqT K H p xs/\atI xs i=iw v/\Q v H
def qjJ:R2:=λx y H Q=>∃z i c,x=.str z/\y=.int i/\z.length<=Z8/\atI z.cps.toList i=iw c/\Q (.str ⟨#[c]⟩) H
theorem qeA:IxR X (qjH X.K):=by
 intro value e Z9 s σ H x y v u Q I f d h hs;obtain⟨p,xs,i,z,rfl,rfl,hq,g,q⟩:=h;cases f;obtain⟨t,rfl⟩:=d;obtain⟨its,r,pl,hz⟩:=I.list hq;obtain⟨j,h1,h2,m,l,k⟩:=Wx g;obtain⟨w,c,a⟩:=r.get h2;have hl:=r.length;have n:=QR;have fin:EP X Z9 σ Q w s:=⟨z,H,I,a,q⟩
 by_cases b:0<=i
 .have D:i.toNat=j:=by rw[seqIndex_of b k]at h1;exact aL.inj h1
  exact item_listR pl.isList b (by lia) (by rw[D];simpa using c) fin hs
 .have D:(i+(its.toArray.size:Int)).toNat=j:=by rw[seqIndex_neg (by lia) l]at h1;rw[aj,<-hl];exact aL.inj h1
  exact subscriptTail_builtinR (x:=w) pl.isList.typeIs slot_list_getitem.lookup
   (wpAny_getItem_list_neg (Q:=λr s'=>r=w/\EP X Z9 σ Q r s') pl.isList (by lia) (by rw[aj] <;> lia) (by lia) (by rw[D];simpa using c) ⟨rfl,fin⟩) hs
theorem qgI:IxR X (qjI X.K):=by
 intro value e Z9 s σ H x y v u Q I d c h hs;obtain⟨p,xs,i,z,rfl,rfl,hq,g,q⟩:=h;cases d;obtain⟨t,rfl⟩:=c;obtain⟨its,r,pl,hz⟩:=I.tuple hq;obtain⟨j,h1,h2,l,f,k⟩:=Wx g;obtain⟨w,b,a⟩:=r.get h2;have hl:=r.length;have n:=QR;have fin:EP X Z9 σ Q w s:=⟨z,H,I,a,q⟩
 exact subscriptTail_builtinR (x:=w) pl.typeIs slot_tuple_getitem.lookup
  (getItem_tuple (j:=j) (Q:=λr s'=>r=w/\EP X Z9 σ Q r s') pl (by lia) (by lia) (by rw[aj,<-hl];exact h1) (by simpa using b) ⟨rfl,fin⟩) hs
theorem qgJ:IxR X qjJ:=by
 intro value e Z9 s σ H x y v u Q I d r h hs;obtain⟨z,i,c,rfl,rfl,hz,g,q⟩:=h;obtain⟨t,rfl⟩:=d;obtain⟨t',rfl⟩:=r;obtain⟨j,h1,h2,f,a,k⟩:=Wx g;have hl:z.cps.toList.length=z.length:=by simp[hZ]
 rw[hl]at h1 a k;have n:=QR;exact tail_any (typeIs_str s z t) slot_str_getitem.lookup (getItem_str (c:=c) (by have e1:decide (i < -(2 ^ 63:Int))=false:=Ac (by lia);have b:decide (i ≥ 2 ^ 63)=false:=Ac (by lia);rw[e1,b,Bool.or_false]) (by rw[h1];simpa using h2) ⟨.str ⟨#[c]⟩,H,I.tok _,⟨_,rfl⟩,q⟩) hs
def rIx(K:Y9):R2:=λx y H Q=>qjH K x y H Q\/qjI K x y H Q\/qjJ x y H Q
theorem qgK:IxR X (rIx X.K):=qeA.or (qgI.or qgJ)
theorem XN(its:List iC)(n j:Nat)(u:iC):br (·.setIfInBounds j u) { cls:=.type "list",data:=.seq its.toArray n }={ cls:=.type "list",data:=.seq (its.set j u).toArray n }:=by simp[br]
theorem Inv.lst(I:Inv X Z9 σ H s)(h:H p=iw (.lst xs)):∃(its:List iC)(n:Nat),Vals xs its/\s.heap.get? p=iw { cls:=.type "list",data:=.seq its.toArray n }/\xs.length<=Z8:=by obtain⟨z,its,n,r,e⟩:=I.hok p _ h;exact⟨its,n,r,e,z⟩
theorem Inv.lstUpd{ys:List V}{its its':List iC}{n c:Nat}{f:Obj->Obj}(I:Inv X Z9 σ H s)(h:H p=iw (.lst xs))(l:s.heap.get? p=iw { cls:=.type "list",data:=.seq its.toArray n })(a:f { cls:=.type "list",data:=.seq its.toArray n }={ cls:=.type "list",data:=.seq its'.toArray c })(r:Vals ys its')(hz:ys.length<=Z8)(t:Nat) :
  Inv X Z9 σ (upd H p (.lst ys)) { s with heap:=s.heap.update p f,toks:=t }:=by
 have e:(s.heap.update p f).get? p=iw { cls:=.type "list",data:=.seq its'.toArray c }:=by rw[aV f l (by rw[a] <;> rfl),a]
 refine I.write (x:=p) (e:=p) (by rw[h];trivial) (.inl rfl) (λb u hb q=>(bu _ _ (aW hb)).trans q) ⟨_,e⟩ ?_;exact⟨hz,its',c,r,e⟩
def qiS:V->V->V->Hp->(Hp->Prop)->Prop:=λo i v H Q=>∃p xs k j,o=.ref p/\i=.int k/\H p=iw (.lst xs)/\ixN xs.length k=iw j/\Q (upd H p (.lst (xs.set j v)))
theorem UU:qjE X qiS:=by
 intro Z9 s σ H o i v w x u Q I f m e h;obtain⟨p,xs,k,j,rfl,rfl,hp,D,q⟩:=h;cases f;obtain⟨t,rfl⟩:=m;obtain⟨its,n,r,l,hz⟩:=I.lst hp;obtain⟨h1,h2,g,b⟩:=ZX D;have hl:=r.length;have y:=QR;have d:Inv X Z9 σ (upd H p (.lst (xs.set j v))) { s with heap:=s.heap.update p (br (·.setIfInBounds j u)) }:=
  I.lstUpd hp l (XN its n j u) (r.set e j) (by rw[bZ];exact hz) s.toks
 by_cases c:0<=k
 .have a:k.toNat=j:=by rw[seqIndex_of c b]at h1;exact aL.inj h1
  exact PySem.W.ki_setAt l c (by lia) (by rw[aj,<-hl];exact b) (by rw[a];exact⟨_,d,q⟩)
 .have a:(k+(its.toArray.size:Int)).toNat=j:=by rw[seqIndex_neg (by lia) g]at h1;rw[aj,<-hl];exact aL.inj h1
  exact PySem.W.ki_setBack l (by lia) (by rw[aj,<-hl];exact g) (by lia) (by rw[a];exact⟨_,d,q⟩)
theorem KU(lo hi:Option Int)(n:Nat):(lN lo hi iB n).1=((HT.sIx n 0 lo:Nat):Int)/\(lN lo hi iB n).2.1=((HT.sIx n n hi:Nat):Int)/\(lN lo hi iB n).2.2=1:=by
 refine⟨?_,?_,rfl⟩
 .cases lo with
  |none=>simp[lN,HT.sIx]
  |some i=>
   simp only[lN,HT.sIx,Option.getD_none,show(1:Int) > 0 by decide,if_true];by_cases h:i<0;·simp only[h,if_true] <;> lia
   .simp only[h,if_false] <;> lia
 .cases hi with
  |none=>simp[lN,HT.sIx]
  |some i=>
   simp only[lN,HT.sIx,Option.getD_none,show(1:Int) > 0 by decide,if_true];by_cases h:i<0;·simp only[h,if_true] <;> lia
   .simp only[h,if_false] <;> lia
theorem JA(its:List iC)(lo hi:Option Int):slicePick its.toArray lo hi iB=((its.drop (HT.sIx its.length 0 lo)).take (HT.sIx its.length its.length hi - HT.sIx its.length 0 lo)).toArray:=by obtain⟨h1,h2,g⟩:=KU lo hi its.toArray.size;unfold slicePick;rw[h1,h2,g];simp only[sliceRange_one,pick_run,aj] <;> rfl
def qki(K:Y9):V->Option Int->Option Int->Hp->VK->Prop:=λx lo hi H Q=>∃a xs,x=.ref a/\SqL K H a xs/\∀p,H p=iB->Q (.ref p) (upd H p (.lst (qey xs lo hi)))
theorem qeB:SlR X (qki X.K):=by intro Z9 s σ H x v vl u lo hi sl Q I d hs pl p h;obtain⟨a,xs,rfl,hx,q⟩:=h;cases d;obtain⟨its,r,ht,hz⟩:=I.list hx;have n:=r.length;refine⟨"list",_,slot_list_getitem.lookup,ht.isList.typeIs,?_⟩;refine wpAny_getItem_list_slice ht.isList hs pl p .none (by simp) ?_ (by rw[aj] <;> lia);rw[JA,<-n];refine⟨.ref s.heap.objs.size,_,I.laid (t':=s.toks) (o:=.lst (qey xs lo hi)) (λb c q=>aa _ q) (aq _) ?_,rfl,q _ (I.hok.fresh (aq _))⟩;exact⟨bb (Ww xs lo hi) hz,_,0,(r.drop (HT.sIx xs.length 0 lo)).take (HT.sIx xs.length xs.length hi - HT.sIx xs.length 0 lo),af _ rfl⟩
theorem xL:wG X (.type "list") (λxs H Q=>∃p ys,xs=[.ref p]/\(SqL X.K H p ys\/SqT X.K H p ys)/\∀l,H l=iB->Q (.ref l) (upd H l (.lst ys))):=by
 intro Z9 s σ H xs us Q I r h;obtain⟨p,ys,rfl,hq,q⟩:=h;obtain⟨u,rfl,x⟩:=uO r;cases x;have fin:∀(its:List iC),Vals ys its->ys.length<=Z8->∀(h':Z5)(S:Nat),(∀b o',s.heap.get? b=iw o'->h'.get? b=iw o') ->h'.get? s.heap.objs.size=iw { cls:=.type "list",dict:=iB,data:=.seq its.toArray S,slots:=#[] }->EP X Z9 σ Q (.ref s.heap.objs.size) { s with heap:=h' }:=λits r' hz h' S kp e=>
  ⟨.ref s.heap.objs.size,_,I.laid (t':=s.toks) kp (aq _) (show ObjOk X.prog X.w _ h' _ (.lst ys)from⟨hz,its,S,r',e⟩),rfl,q _ (I.hok.fresh (aq _))⟩
 rcases hq with hq|hq;·obtain⟨its,r',pl,hz⟩:=I.list hq;have a:=r'.length;obtain⟨o,c,d,n,hd⟩:=pl.isList;exact call_list_seq p (.inl rfl) c d hd (λh' S kp e=>fin its r' hz h' S kp e) (by simp only[aj] <;> lia)
 .obtain⟨its,r',pl,hz⟩:=I.tuple hq;have a:=r'.length;obtain⟨o,c,d,n,hd⟩:=pl;exact call_list_seq p (.inr rfl) c d hd (λh' S kp e=>fin its r' hz h' S kp e) (by simp only[aj] <;> lia)
theorem yB:wG X (.type "tuple") (λxs H Q=>∃p ys,xs=[.ref p]/\((SqL X.K H p ys/\∀l,H l=iB->Q (.ref l) (upd H l (.tup ys)))\/(SqT X.K H p ys/\Q (.ref p) H))):=by
 intro Z9 s σ H xs us Q I r h;obtain⟨p,ys,rfl,h⟩:=h;obtain⟨u,rfl,x⟩:=uO r;cases x;rcases h with⟨hq,q⟩|⟨hq,q⟩
 .obtain⟨its,r',pl,hz⟩:=I.list hq;have n:=r'.length;refine call_tuple_list pl.isList (λh' kp=>?_) (by simp only[aj] <;> lia);have d:Inv X Z9 σ H { s with heap:=h' }:=I.kept (t':=s.toks) kp;have j:Inv X Z9 σ (upd H h'.objs.size (.tup ys)) { s with heap:=h'.push { cls:=.type "tuple",data:=.seq its.toArray } }:=
   d.laid (t':=s.toks) (λb o e=>aa _ e) (aq _) (show ObjOk X.prog X.w _ _ _ (.tup ys)from⟨⟨hz,_,af _ rfl,rfl⟩,its,r',IsTup.new _ _⟩)
  exact⟨.ref h'.objs.size,_,j,rfl,q _ (d.hok.fresh (aq _))⟩
 .obtain⟨its,r',pl,hz⟩:=I.tuple hq;exact call_tuple_same pl ⟨.ref p,H,I,rfl,q⟩
def tyV(K:Y9)(T:String)(x:V)(H:Hp):Prop:=match x with
 |.str _=>T = "str"
 |.int _=>T = "int"
 | .ref p=>(T = "list"/\∃xs,SqL K H p xs)\/(T = "tuple"/\∃o,K.lookup p=iw o/\o.cls=.type "tuple"/\o.dict=iB) \/
   (T = "dict"/\((∃kvs,H p=iw (.dK kvs))\/∃kvs,H p=iw (.dT kvs)))\/(T = "set"/\∃S n,H p=iw (.set S n))
 |_=>False
theorem qgL{v:iC}(I:Inv X Z9 σ H s)(r:RelV x v)(ty:tyV X.K T x H):s.TypeIs v T/\∀a,v=.ref a->∃d,s.heap.get? a=iw d/\d.dict=none:=by
 cases x with
 |str z=>obtain⟨t,rfl⟩:=r;cases(show T = "str" from ty);exact⟨typeIs_str s z t,λ_ e=>nomatch e⟩
 |int i=>obtain⟨t,rfl⟩:=r;cases(show T = "int" from ty);exact⟨typeIs_int s i t,λ_ e=>nomatch e⟩
 | ref p=>
  cases r;rcases ty with⟨rfl,xs,hq⟩|⟨rfl,o,k,h,hd⟩|⟨rfl,k⟩|⟨rfl,S,n,k⟩
  .obtain⟨its,_,pl,_⟩:=I.list hq;refine⟨pl.isList.typeIs,λa e=>?_⟩;cases e;obtain⟨o,n,e,c,hd,_⟩:=pl;exact⟨o,e,hd⟩
  .refine⟨⟨o,I.kIn p o k,h⟩,λa e=>?_⟩;cases e;exact⟨o,I.kIn _ o k,hd⟩
  .have z:∃o,s.heap.get? p=iw o/\o.ExactDict:=by
    rcases k with⟨kvs,k⟩|⟨kvs,k⟩
    .obtain⟨_,_,_,_,o,_,_,e,ex,_⟩:=I.hok p _ k;exact⟨o,e,ex⟩
    .obtain⟨_,_,_,_,o,_,_,e,ex,_⟩:=I.hok p _ k;exact⟨o,e,ex⟩
   obtain⟨o,e,ex⟩:=z;refine⟨⟨o,e,ex.1⟩,λa b=>?_⟩;cases b;exact⟨o,e,ex.2.1⟩
  .obtain⟨o,_,_,_,e,ex,_⟩:=I.hok p _ k;refine⟨⟨o,e,ex.1⟩,λa b=>?_⟩;cases b;exact⟨o,e,ex.2.1⟩
 |_=>exact cx ty
def tBM(K:Y9)(T:String)(r:V->List V->Hp->VK->Prop)(to:TE)(t:TA):TE:=λσ H Q=>to σ H λx H1=>tyV K T x H1/\t σ H1 λxs H2=>r x xs H2 Q
variable{o:Z4}{es:List Z4}{to:TE}{t:TA}{name:Str}{apos cpos:Pos}{id:String}{r:V->List V->Hp->VK->Prop}
theorem qb7(pa:PlainAttrs T)(slot:Slot T name id)(y:typeOf (.builtin id)=pure (.type "method_descriptor"))(m:MtR X id r)(l:PE X o to)(f:PA X (e::es) t)(b:iY o name X.env (Z0 o X.env)=Z0 o X.env:=by rfl)
  (w:((j0 cpos (iI (e::es) X.env)).all (λx=>!x.1)&&(lB cpos (j8 [] X.env)).all (λx=>x.1.isSome)
   && decide ((e::es).length+([]:List lr).length+(if ([]:List lr).isEmpty then 0 else 1)<30))=true:=by rfl)
  (a:(apos.endLine == cpos.line)=true:=by rfl) (hs:iI (e::es) X.env=(iE,Z0 e X.env)::iI es X.env:=by rfl) (n:(j0 cpos (iI es X.env)).any (·.1)=false:=by rfl) :
  PE X (.Call (.Attribute o name apos) (e::es) [] cpos) (tBM X.K T r to t):=by
 refine⟨?_⟩;intro Z9 s σ H Q I h;refine wpAny_Call_method_late b w a rfl (thn (l Z9 s σ H _ I h) λv s1 z=>?_);obtain⟨x,H1,d,r1,ty,c⟩:=z;obtain⟨h1,h2⟩:=qgL d r1 ty;refine⟨T,id,pa,slot,y,h1,h2,?_⟩;have hA:=f cpos Z9 s1 σ H1 _ d c;rw[hs]at hA ⊢;refine cZ (by show(iE||(j0 cpos (iI es X.env)).any (·.1))=iE;rw[n] <;> rfl) (fg ?_);exact thn hA λus s2 ⟨vs,H2,j,r2,q⟩=>m Z9 s2 σ H2 x vs v us Q j r1 r2 q
end
def MtM(X:Cx)(id:String)(r:V->List V->Hp->VK->Prop):Prop:=
 ∀(Z9:Pns)(s:iF)(σ:St)(H:Hp)(x:V)(xs:List V)(v:iC)(us:List iC)(Q:VK),Inv X Z9 σ H s->RelV x v->Vals xs us->r x xs H Q ->iH (Z6 X.prog X.w) X.A (call (.builtin id) (v::us)) (EP X Z9 σ Q) X.xe s
theorem Vals.one(h:Vals [x] us):∃u,us=[u]/\RelV x u:=by
 cases h with
 |cons r t=>cases t;exact⟨_,rfl,r⟩
section
variable{l b:Z7}{ys zs:List V}
theorem Inv.lset{its its':List iC}{n:Nat}{f:Array iC->Array iC}{t':Nat}(I:Inv X Z9 σ H s)(a:H l=iw (.lst xs))(e:s.heap.get? l=iw { cls:=.type "list",data:=.seq its.toArray n })(h:f its.toArray=its'.toArray)(c:Vals ys its')(hz:ys.length<=Z8) :
  Inv X Z9 σ (upd H l (.lst ys)) { s with heap:=s.heap.update l (br f),toks:=t' }:=by
 have q:=PySem.IsL.update e f;rw[h]at q;refine I.write (x:=l) (e:=l) (by rw[a];exact trivial) (.inl rfl) (λb u hb d=>(bu s.heap (br f) (aW hb)).trans d) ⟨_,q⟩ ?_;exact⟨hz,its',_,c,q⟩
theorem Inv.lnew{its:List iC}{t':Nat}(I:Inv X Z9 σ H s)(c:Vals ys its)(hz:ys.length<=Z8):Inv X Z9 σ (upd H s.heap.objs.size (.lst ys)) { s with heap:=s.heap.push { cls:=.type "list",data:=.seq its.toArray },toks:=t' }:=
 I.laid (λ_ _ q=>aa _ q) (aq _) ⟨hz,its,0,c,af _ rfl⟩
theorem Inv.fresh(I:Inv X Z9 σ H s):H s.heap.objs.size=none:=I.hok.fresh (aq _)
theorem Inv.lstM(I:Inv X Z9 σ H s)(a:H l=iw (.lst xs)):xs.length<=Z8/\∃(its:List iC)(n:Nat),Vals xs its/\xs.length=its.length/\s.heap.get? l=iw { cls:=.type "list",data:=.seq its.toArray n }:=by obtain⟨z,its,n,r,e⟩:=I.hok l _ a;exact⟨z,its,n,r,r.length,e⟩
theorem qb8(h:n<=Z8):cK n=false:=by unfold cK;exact Ac (by lia)
end
section
def Wz:V->List V->Hp->VK->Prop:=λx vs H Q=>∃l xs y,x=.ref l/\vs=[y]/\H l=iw (.lst xs)/\xs.length<Z8/\Q .non (upd H l (.lst (xs++[y])))
theorem KW:MtM X "list.append" Wz:=by
 intro Z9 s σ H x vs v us Q I d b h;obtain⟨l,xs,y,rfl,rfl,a,hz,q⟩:=h;cases d;obtain⟨u,rfl,c⟩:=b.one;obtain⟨z,its,n,r,hl,e⟩:=I.lstM a;refine lJ F.slot_list_append ⟨_,e,rfl⟩ F.entry_list_append (F.args_list_append_2 _ _) (PySem.list_append l its.toArray n u (by rw[aj];lia)) ⟨e,?_⟩;refine⟨.non,_,I.lset (its':=its++[u]) a e (by simp) (r.append (.cons c .nil)) ?_,rfl,q⟩;rw[am,dh]
 lia
def qeC:V->List V->Hp->VK->Prop:=λx vs H Q=>∃l b xs zs,x=.ref l/\vs=[.ref b]/\H l=iw (.lst xs)/\H b=iw (.lst zs)/\xs.length+zs.length<=Z8/\Q .non (upd H l (.lst (xs++zs)))
theorem ZY:MtM X "list.extend" qeC:=by
 intro Z9 s σ H x vs v us Q I d c h;obtain⟨l,b,xs,zs,rfl,rfl,a,B,hz,q⟩:=h;cases d;obtain⟨u,rfl,y⟩:=c.one;cases y;obtain⟨z,its,n,r,hl,e⟩:=I.lstM a;obtain⟨z2,i,n2,r2,f,j⟩:=I.lstM B;have hsz:its.toArray.size+i.toArray.size<=Z8:=by rw[aj,aj];lia
 have g:¬(!its.toArray.isEmpty&&cK (its.toArray.size+i.toArray.size))=true:=by rw[qb8 hsz,Bool.and_false];exact b8
 refine lJ F.slot_list_extend ⟨_,e,rfl⟩ F.entry_list_extend (F.args_list_extend_2 _ _)
  (AutoSeq1.list_extend_list_list_0 l its.toArray n b i.toArray n2 g (by rw[aj];lia) (by lia)) ⟨e,j,?_⟩
 refine⟨.non,_,I.lset (its':=its++i) a e (by simp) (r.append r2) ?_,rfl,q⟩;rw[am]
 lia
end
end L2
namespace Att
open PySem PySem.W PySem.Calls PyProof.Rows
theorem gb{P:l8}{h:Z5}:∀(ns:List Int)(vs:List iC),WellAll P h vs (ns.map WData.int)->IntsAre vs ns:=by
 intro ns
 induction ns with
 |nil=>intro vs w;rw[bI]at w;cases w;exact .nil
 |cons n ns j=>
  intro vs w;rw[aD]at w;cases w with
  |cons a b=>cases a;exact .cons _ _ (j _ b)
theorem ZZ{l:OpenLaw}{n:Nat}(s:l.most=iw n){P:l8}{h:Z5}{args:List WData}{v:List iC}(e:l.row.toRowW.claim.pre args=iD)(g:WellAll P h v args) :
  ∃a vs ns,v=[aM a]/\args=[WData.list (ns.map WData.int)]/\h.get? a=iw { cls:=.type "list",data:=.seq vs.toArray }/\IntsAre vs ns/\ns.length<=n:=by
 have i:WShape.hasAll [] args [.list .int]=true:=(pre_splitW e).1;have j:l.pre.holds [] { args:=args }=true:=(pre_splitW e).2;obtain⟨d,r,rfl,h1,h2⟩:=hasAllW_cons i;obtain rfl:=hasAllW_nil h2;obtain⟨xs,rfl,t⟩:=hasW_list h1;obtain⟨ns,rfl⟩:=items_int t;have b:ns.length<=n:=by
  unfold OpenLaw.pre at j;have f:(WTm.not (.lt (.lit (.int (n:Int))) (.len (.arg 0)))).holds [] { args:=[.list (ns.map .int)] }=true:=by have f:=(holds_andW j).1;rw[s]at f;exact f
  have k:=condW_of f (w_not (w_lt w_lit (w_len_list (w_arg rfl))));rw[ah]at k;refine cw λq=>?_;have m:(n:Int)<((ns.length:Nat):Int):=by omega
  first
   |(rw[Ad m]at k;exact absurd k (by decide))
   |(simp at k;omega)
 cases g with
 |cons p w=>
  cases w;cases p with
  |list o c=>exact⟨_,_,ns,rfl,rfl,o,gb ns _ c,b⟩
theorem Ga(l:OpenLaw)(args:List WData):l.row.toRowW.claim.post args (.bool iD) args=true:=
 postW_of (r:=l.row.toRowW) (X:=(iD == iD))
  (show WShape.has [] (.bool iD) .bool=iD by first|rfl|decide|simp[WShape.has,WShape.arms,WShape.armsAll])
  (show(WTm.eq .res (.lit (.bool iD))).value [] { args:=args,res:=iw (.bool iD),after:=args }=iw (.bool (iD == iD))from w_eq_bool (w_res rfl) w_lit) rfl
theorem attach_call{l:OpenLaw}{n:Nat}{q:iK}{loose:List Str}{XP:(Str->Option iC)->Z5->Prop}{YP:iL->Z5->Prop}{d:DefRec}(p:l.most=iw n)(hdf:d.params.defaults=[])(call:∀(w:iL)(s₀ s:iF)(mg mb:Str->Option iC)(fa:Z7)(o:Obj)(pm cd doc:iC)(a:Z7)(vs:List iC)(ns:List Int),Ground q loose [] XP w s₀ mg mb s.heap->YP w s.heap ->s.heap.get? fa=iw o->o.data=.func (docDef d.name d.params d.body d.scope pm cd doc)->s.heap.CodeRec cd d.name->mg d.name=iw (.ref fa) ->s.heap.get? a=iw { cls:=.type "list",data:=.seq vs.toArray }->IntsAre vs ns->ns.length<=n->s.gens=#[] ->lq (Z6 l.prog w) mM (.call (.ref fa) ⟨[.ref a],[]⟩) (λr s'=>r=.ok (.ret (.bool iD))/\OldK s.heap s'.heap/\s'.os=s.os/\l5 s'.gens) s) :
  WalkO q loose XP YP l.row.toRowW d [] (λf vs=>ir f vs):=by
 intro w s₀ s mg mb G Y fa o pm cd doc V kV m hd i D c hg args v as e y k g u;obtain rfl:V=.none:=Dflts.none D hdf;obtain rfl:kV=.none:=Dflts.noKw D;obtain⟨a,vs,ns,rfl,rfl,j,h,b⟩:=ZZ p e g;refine enter_call (lP (call w s₀ s mg mb fa o pm cd doc a vs ns G Y m (fd_plain hd) i c j h b hg) λr s' hq=>?_);obtain⟨rfl,h2,z,x⟩:=hq;exact⟨.inl ⟨.bool iD,.bool iD,[],rfl,λ_=>rfl,.bool iD,Ga l _,λ_=>⟨ei,λ_ t=>(nomatch t)⟩⟩,h2,z,x⟩
end Att
namespace L2
open PySem PySem.Spec PyProof.Rows
theorem KY:∀{vs:List iC}{ns:List Int},IntsAre vs ns->Vals (ns.map V.int) vs
 |_,_,.nil=>.nil
 |_,_,.cons n t h=>.cons ⟨t,rfl⟩ (KY h)
def qiT(H:Hp):Prop:=∀b,H b=iB\/∃o xs,H b=iw (.frz o (.lst xs))
set_option tactic.hygienic true in
theorem qb9{P:iK}{w:iL}{K:Y9}{mg mb:Str->Option iC}{CX:CXT}{k:Nat}{fa a:Z7}{fd:lA}{x:Str}{sp:Sp}{c:iF}{vs:List iC}{ns:List Int}(M:K.In c.heap)(y:c.heap.Ns iP mg)(hb:c.heap.Ns mB mb)(I:∀x:Str,x ≠ "__name__"->mb x=iJ x)(A:c.heap.NoLimit)(hg:c.gens=#[])(C:c.heap.get? a=iw { cls:=.type "list",data:=.seq vs.toArray })(hi:IntsAre vs ns)(hl:ns.length<=Z8)(Q:Room k mM)(F:∀base:Z5,K.In base->base.Ns iP mg->FnOk P w K mg base CX k fa fd [x] sp)(j:∀(s:iF)(u:iC),mU s fd ⟨[u],[]⟩ [(x,u)])(E:∀H:Hp,qiT H->SqL K H a (ns.map V.int)->sp [.ref a] H (λv _=>v=.bl iD) λ_ _ _=>False)(X:∀H e s',CX [] H c (λ_ _ _=>False) e s'->False) :
  lq (Z6 P w) mM (.call (.ref fa) ⟨[.ref a],[]⟩) (λr s'=>r=.ok (.ret (.bool iD))/\OldK c.heap s'.heap/\s'.os=c.os/\l5 s'.gens) c:=by
 have L:=KY hi;have p:=hi.length;have i:∀H:Hp,qiT H->SqL K H a (ns.map V.int)->HOk P w H c.heap->(∀b,H b≠iB->b=a)->(H a≠iB->K.lookup a=iB) ->lq (Z6 P w) mM (.call (.ref fa) ⟨[.ref a],[]⟩) (λr s'=>r=.ok (.ret (.bool iD))/\OldK c.heap s'.heap/\s'.os=c.os/\l5 s'.gens) c:=by
  intro H O S hok hA T;have f:∀{b:Z7}{o:Obj},c.heap.get? b=iw o->H b=iB->(qbR c.heap H).get? b=iw o:=λe n=>qbS e n;have D:∀{b:Z7}{o:Obj}{es:Array mJ}{ep:Nat},c.heap.get? b=iw o->o.data=.dict es ep->H b=none:=λ{b o es ep} e d=>by
   cases q:H b with
   |none=>rfl
   |some u=>have J:b=a:=hA b (by rw[q];simp);subst J;rw[C]at e;cases e;have d':Data.seq vs.toArray _=Data.dict es ep:=d;cases d'
  have g:∀{b:Z7}{m:Str->Option iC},c.heap.Ns b m->(qbR c.heap H).Ns b m:=λ{b m} ⟨o,es,ep,e,d,r⟩=>⟨o,es,ep,f e (D e d),d,r⟩
  have B:K.In (qbR c.heap H):=λb o e=>f (M b o e) (by
   cases q:H b with
   |none=>rfl
   |some u=>have J:b=a:=hA b (by rw[q];simp);subst J;rw[T (by rw[q];simp)]at e;cases e)
  have R:Mod K mg (qbR c.heap H):=⟨B,g y,⟨mb,g hb,I⟩,let ⟨mc,h1,h2⟩:=A; ⟨mc,g h1,h2⟩⟩
  have e0:Env0 P w K mg (qbR c.heap H) mM [] c H:=⟨rfl,R,λb o e=>qee e,fq (ZH _ _),trivial,λb hb=>absurd (show b∈([]:List Z7)from hb) (by simp),hok,.of_eq hg⟩
  refine lP ((F _ B (g y)).run mM [] c H ⟨[.ref a],[]⟩ [.ref a] [.ref a] _ _ Q e0 (j c (.ref a)) (.cons rfl .nil) (E H O S)) λr s' h=>?_;cases r with
  |error e=>exact(X H e s' h).elim
  | ok fl=>
   cases fl with
   |next=>exact cx h
   |brk=>exact cx h
   |cont=>exact cx h
   | ret u=>
    obtain⟨v,H',os,bare,un,t,r',q⟩:=h;have N:v=.bl true:=q;subst N;obtain rfl:u=cW true:=r';refine⟨rfl,OldK.of_keep λb o e=>?_,os,bare⟩;cases q:H b with
    |none=>exact un.keep b o e q (by intro z;exact absurd (show b∈([]:List Z7)from z) (by simp)) (by simp)
    |some u=>
     rcases O b with z|⟨ob,xs,z⟩
     .rw[q]at z;cases z
     .have z2:=un.frzs b ob _ z;obtain⟨e1,_⟩:=hok b _ z;obtain⟨U,_⟩:=t b _ z2;rw[e]at e1;cases e1;exact U
 cases G:K.lookup a with
 |some o=>have e:=M a o G;rw[C]at e;cases e;refine i (λ_=>iB) (λ_=>.inl rfl) (.inr ⟨_,vs.toArray,_,G,rfl,rfl,rfl,by rw[aj,p];exact hl,by simpa using L⟩) (λb u z=>by have l:(iB:Option HO)=iw u:=z;cases l) (λb z=>absurd rfl z) λz=>absurd rfl z
 | none=>
  refine i (λb=>if b=a then iw (.frz { cls:=.type "list",data:=.seq vs.toArray } (.lst (ns.map V.int)))else iB) (λb=>?_) (.inl (.inr ⟨{ cls:=.type "list",data:=.seq vs.toArray },Aa rfl⟩)) (λb u z=>?_) (λb z=>?_) λ_=>G
  .by_cases hb:b=a;·exact .inr ⟨_,_,Aa hb⟩
   .exact .inl (Ab hb)
  .by_cases hb:b=a;·have l:=(Aa hb).symm.trans z;cases l;subst hb;exact⟨C,by rw[ah];exact hl,vs,_,L,C⟩
   .have l:=(Ab hb).symm.trans z;cases l
  .by_cases hb:b=a;·exact hb
   .exact absurd (Ab hb) z
theorem qeD{l:f7}{n k:Nat}{q:iK}{loose:List Str}{XP:(Str->Option iC)->Z5->Prop}{YP:iL->Z5->Prop}{d:DefRec}{K:l8->Y9}{CX:iL->CXT}{sp:iL->Sp}{x:Str}(A:l.most=iw n)(r:n<=Z8)(hdf:d.params.defaults=[])(z:Room k mM)(C:∀(w:iL)(h:Z5),YP w h->(K w.params).In h)(F:∀(w:iL)(mg:Str->Option iC)(fa:Z7)(h:Z5),(K w.params).In h->h.Ns iP mg->mg d.name=iw (.ref fa) ->∃fd:lA,(∀(s:iF)(u:iC),mU s fd ⟨[u],[]⟩ [(x,u)]) /\
    ∀base:Z5,(K w.params).In base->base.Ns iP mg->FnOk l.prog w (K w.params) mg base (CX w) k fa fd [x] (sp w))(p:∀(w:iL)(H:Hp)(a:Z7)(ns:List Int),ns.length<=n->qiT H->SqL (K w.params) H a (ns.map V.int)->sp w [.ref a] H (λv _=>v=.bl iD) λ_ _ _=>False)(X:∀(w:iL)(H:Hp)(s:iF)(e:iC)(s':iF),CX w [] H s (λ_ _ _=>False) e s'->False) :
  PySem.W.WalkO q loose XP YP l.row.toRowW d [] (λf vs=>ir f vs):=by
 refine Att.attach_call A hdf λw s₀ j mg mb fa o pm cd doc a vs ns G Y E hd B t m i c hg=>?_;have y:=C w _ Y;obtain⟨fd,hb,D⟩:=F w mg fa _ y G.T.g t;exact qb9 y G.T.g G.T.b G.T.builtins G.T.nolimit hg m i (bb c r) z D hb (λH O S=>p w H a ns c O S) λH e s'=>X w H j e s'
noncomputable def xi(s:Z3)(j:Nat):Z3:=match s with
 |.ClassDef _ _ _ body _ _ _ _ _ _ _=>body.getD j (.Pass ⟨0,0,0,0⟩)
 |_=>.Pass ⟨0,0,0,0⟩
noncomputable def xj(s:Z3):Arguments:=match s with
 |.FunctionDef _ a _ _ _ _ _ _ _ _=>a
 |_=>{ posonlyargs:=[],args:=[],vararg:=iB,kwonlyargs:=[],kw_defaults:=[],kwarg:=iB,defaults:=[] }
noncomputable def kY(s:Z3):List Z3:=match s with
 |.FunctionDef _ _ b _ _ _ _ _ _ _=>b
 |_=>[]
noncomputable def qC(s:Z3):lX:=match s with
 |.FunctionDef _ _ _ _ _ _ sc _ _ _=>sc
 |_=>{ kind:=.function,names:=[],isGenerator:=iE,isCoroutine:=iE }
structure Fun(K:Y9)(x qual:Str)(st:Z3)(f:Z7)(fd:lA):Prop where
 ex:∃(oc:iC)(od:Option Z7)(kV doc pm:iC)(an:Option Z7)(cdv ct:iC)(osl:Array (Option iC)),fd=cY x qual (xj st) (kY st) (qC st) .none kV doc pm an cdv ct/\K.lookup f=iw ⟨oc,od,.func fd,osl⟩/\codeIn K cdv qual=iD
 kp:mC K (.ref f)=iD
variable{P:iK}{w:iL}{K:Y9}{qual:Str}{st:Z3}{f:Z7}
section
variable{mg:Str->Option iC}{base:Z5}
theorem Fun.binds{x:Str}{fd:lA}{ps:List Str}(F:Fun K x qual st f fd)(h:∀(kV doc pm:iC)(an:Option Z7)(cdv ct:iC)(us:List iC),us.length=ps.length->bindArgs (cY x qual (xj st) (kY st) (qC st) .none kV doc pm an cdv ct) ⟨us,[]⟩=pure (ps.zip us)):Binds K fd ps []:=by
 obtain⟨oc,od,kV,doc,pm,an,cdv,ct,osl,rfl,lk,d⟩:=F.ex;exact .all (h kV doc pm an cdv ct)
theorem gc{x:Str}{oc:iC}{od an:Option Z7}{osl:Array (Option iC)}{kV doc pm cdv ct:iC}(l:K.lookup f=iw ⟨oc,od,.func (cY x qual (xj st) (kY st) (qC st) .none kV doc pm an cdv ct),osl⟩)(c:codeIn K cdv qual=iD)(k:mC K (.ref f)=iD):Fun K x qual st f (cY x qual (xj st) (kY st) (qC st) .none kV doc pm an cdv ct):=⟨⟨oc,od,kV,doc,pm,an,cdv,ct,osl,rfl,l,c⟩,k⟩
end
def Same(H H':Hp):Prop:=∀b o,H b=iw o->H' b=iw o
theorem Same.refl(H:Hp):Same H H:=λ_ _ h=>h
variable{H:Hp}
theorem Same.trans{H1 H2:Hp}(a:Same H H1)(b:Same H1 H2):Same H H2:=λc o h=>b c o (a c o h)
variable{H':Hp}
theorem Same.free(e:Same H H'){l:Z7}(h:H' l=Option.none):H l=Option.none:=by
 cases q:H l with
 |none=>rfl
 |some o=>rw[e l o q]at h;cases h
variable{a:Z7}
theorem Same.seq{xs:List V}(e:Same H H')(h:SqL K H a xs):SqL K H' a xs:=by
 rcases h with(h|⟨o,h⟩)|h;·exact .inl (.inl (e _ _ h))
 .exact .inl (.inr ⟨o,e _ _ h⟩)
 .exact .inr h
variable{o:Option V}{u:iC}{y:V}
section
variable{κ:Type}[DecidableEq κ]
noncomputable def XO(kvs:List (κ×V))(k:κ):Option V:=(kvs.find? λkv=>decide (kv.1=k)).map (·.2)
noncomputable def QB(kvs:List (κ×V))(k:κ)(v:V):List (κ×V):=
 if (kvs.any λkv=>decide (kv.1=k))=iD then kvs.map (λkv=>if kv.1=k then(kv.1,v)else kv)else kvs++[(k,v)]
theorem zQ{p:κ×V}{r:List (κ×V)}{k:κ}(e:p.1=k):XO (p::r) k=iw p.2:=by simp[XO,db,e]
theorem zR{p:κ×V}{r:List (κ×V)}{k:κ}(e:¬p.1=k):XO (p::r) k=XO r k:=by simp[XO,db,e]
theorem JB(k:κ):∀kvs:List (κ×V),(kvs.any λkv=>decide (kv.1=k))=(XO kvs k).isSome
 |[]=>rfl
 |p::r=>by
  rw[dg];by_cases e:p.1=k;·simp only[zQ e,Ad e,Bool.true_or,Option.isSome_some]
  .rw[zR e,Ac e,Bool.false_or];exact JB k r
theorem yk(kvs:List (κ×V))(k:κ)(v:V):(QB kvs k v).length<=kvs.length+1:=by
 unfold QB;split;·rw[ah];lia
 .rw[am,ap,aR];lia
theorem RelO.isSome_eq{u:Option iC}(r:RelO o u):o.isSome=u.isSome:=by
 cases o with
 |none=>cases u with
  |none=>rfl
  |some _=>exact(show False from r).elim
 |some _=>cases u with
  |none=>exact(show False from r).elim
  |some _=>rfl
theorem KV.val{kvs:List (κ×V)}{vs:List (κ×iC)}(r:KV kvs vs)(k:κ):RelO (XO kvs k) (mN vs k):=by
 unfold KV at r
 induction r with
 |nil=>exact cX
 | @cons p q ps qs h t ih=>
  obtain⟨h1,h2⟩:=h;by_cases e:p.1=k
  .have a:q.1=k:=h1.symm.trans e;have b:mN (q::qs) k=iw q.2:=by simp[mN,db,a]
   rw[zQ e,b];exact h2
  .have a:¬q.1=k:=λz=>e (h1.trans z);have b:mN (q::qs) k=mN qs k:=by simp[mN,db,a]
   rw[zR e,b];exact ih
theorem KV.any{kvs:List (κ×V)}{vs:List (κ×iC)}(r:KV kvs vs)(k:κ):(kvs.any λkv=>decide (kv.1=k))=vs.any λkv=>decide (kv.1=k):=by
 unfold KV at r
 induction r with
 |nil=>rfl
 |cons h t j=>rw[dg,dg,j,h.1]
theorem KV.repl{kvs:List (κ×V)}{vs:List (κ×iC)}(r:KV kvs vs)(k:κ)(c:RelV y u):KV (kvs.map λkv=>if kv.1=k then(kv.1,y)else kv) (vs.map λkv=>if kv.1=k then(kv.1,u)else kv):=by
 unfold KV at r ⊢
 induction r with
 |nil=>exact .nil
 |@cons p q ps qs h t ih=>
  rw[aD,aD];refine .cons ?_ ih;obtain⟨h1,h2⟩:=h;by_cases e:p.1=k;·rw[Aa e,Aa (h1.symm.trans e)];exact⟨h1,c⟩
  .rw[Ab e,Ab (λz=>e (h1.trans z))];exact⟨h1,h2⟩
theorem KV.put{kvs:List (κ×V)}{vs:List (κ×iC)}(r:KV kvs vs)(k:κ)(c:RelV y u):KV (QB kvs k y) (stored vs k u):=by
 unfold QB stored;rw[r.any k];by_cases e:(vs.any λkv=>decide (kv.1=k))=iD;·rw[Aa e,Aa e];exact r.repl k c
 .rw[Ab e,Ab e];exact Paired.snoc r ⟨rfl,c⟩
theorem KV.length{kvs:List (κ×V)}{vs:List (κ×iC)}(r:KV kvs vs):kvs.length=vs.length:=fR r
end
theorem Gb{k:Key}(r:RelV (kV k) u):(qZ P w).is k u=true:=by
 cases k with
 |inl i=>obtain⟨t,e⟩:=(show ∃t,u=dU i t from r);subst e;exact Ws P w i t
 |inr x=>obtain⟨t,e⟩:=(show ∃t,u=df x t from r);subst e;exact Wt P w x t
theorem KZ:∀{ks:List Key}{us:List iC},Vals (ks.map kV) us->ItemsAre (qZ P w) ks us
 |[],_,r=>by rw[bI]at r;cases r;exact .nil
 |k::ks,_,r=>by
  rw[aD]at r;cases r with
  |cons h t=>exact .cons (Gb h) (KZ t)
abbrev KT(H:Hp):List (List Key×V)->List (List Key×Z7×iC)->Prop:=mP λp q=>p.1=q.1/\H q.2.1=iw (.tup (p.1.map kV))/\RelV p.2 q.2.2
variable{xs:List (List Key×Z7×iC)}{kvs:List (List Key×V)}
theorem KT.val(r:KT H kvs xs)(k:List Key):RelO (XO kvs k) ((atKey xs k).map (·.2)):=by
 induction r with
 |nil=>exact cX
 | @cons p q ps qs h t ih=>
  obtain⟨h1,_,h2⟩:=h;by_cases e:p.1=k
  .have a:q.1=k:=h1.symm.trans e;have b:atKey (q::qs) k=iw q.2:=by simp[atKey,db,a]
   rw[zQ e,b];exact h2
  .have a:¬q.1=k:=λz=>e (h1.trans z);have b:atKey (q::qs) k=atKey qs k:=by simp[atKey,db,a]
   rw[zR e,b];exact ih
theorem KT.repl(r:KT H kvs xs)(k:List Key)(c:RelV y u):KT H (kvs.map λkv=>if kv.1=k then(kv.1,y)else kv) (xs.map (putAt k u)):=by
 induction r with
 |nil=>exact .nil
 |@cons p q ps qs h t ih=>
  rw[aD,aD];refine .cons ?_ ih;obtain⟨h1,h2,g⟩:=h;unfold putAt;by_cases e:p.1=k;·rw[Aa e,Aa (h1.symm.trans e)];exact⟨h1,h2,c⟩
  .rw[Ab e,Ab (λz=>e (h1.trans z))];exact⟨h1,h2,g⟩
theorem KT.put(r:KT H kvs xs)(k:List Key){b:Z7}(hb:H b=iw (.tup (k.map kV)))(c:RelV y u):KT H (QB kvs k y) (storedH xs k b u):=by
 have e:(kvs.any λkv=>decide (kv.1=k))=(atKey xs k).isSome:=by rw[JB,(r.val k).isSome_eq,fN]
 unfold QB storedH;rw[e];by_cases q:(atKey xs k).isSome=iD;·rw[Aa q,Aa q];exact r.repl k c
 .rw[Ab q,Ab q];exact Paired.snoc r ⟨rfl,hb,c⟩
theorem KT.keeps(r:KT H kvs xs)(ht:∀b ys,H b=iw (.tup ys)->H' b=iw (.tup ys)):KT H' kvs xs:=
 Paired.mapP r λ_ _ z=>⟨z.1,ht _ _ z.2.1,z.2.2⟩
section
variable{h:Z5}
theorem qgM{u:HO}(ok:HOk P w H h)(e:Rd H a u):ObjOk P w H h a u:=e.ok ok
theorem WA{kvs:List (Key×V)}(ok:HOk P w H h)(e:Rd H a (.dK kvs)):kvs.length<=Z8/\(a == lb)=iE/\∃vs,KV kvs vs/\h.DictOf (qZ P w) a vs:=
 show ObjOk P w H h a (.dK kvs)from qgM ok e
theorem qiU{kvs:List (Key×V)}(ok:HOk P w H h)(e:H a=iw (.dK kvs)):kvs.length<=Z8/\(a == lb)=iE/\∃vs,KV kvs vs/\h.DictOf (qZ P w) a vs:=WA ok (.inl e)
theorem ge{ks:List Key}(ok:HOk P w H h)(e:H a=iw (.tup (ks.map kV))):(mK (qZ P w)).is h ks a:=by
 obtain⟨_,its,r,o,h1,h2,n,g⟩:=(show ObjOk P w H h a (.tup (ks.map kV))from ok a _ e)
 exact⟨o,its.toArray,n,h1,h2,g,by simpa using KZ r⟩
theorem XQ(ok:HOk P w H h)(e:Rd H a (.dT kvs)):kvs.length<=Z8/\(a == lb)=iE /\
  ∃xs,KT H kvs xs/\h.DictOfH (mK (qZ P w)) a xs:=by
 obtain⟨z,y,xs,r,o,es,ep,h1,h2,g,b,k⟩:=(show ObjOk P w H h a (.dT kvs)from qgM ok e)
 refine⟨z,y,xs,r,o,es,ep,h1,h2,g,b,λx hx=>?_,k⟩;have all:∀{l:List (List Key×V)}{m:List (List Key×Z7×iC)},KT H l m->∀x∈m,(mK (qZ P w)).is h x.1 x.2.1:=by
  intro l m q
  induction q with
  |nil=>intro x hx;exact nomatch hx
  |@cons p q ps qs hq t ih=>
   intro x hx;rcases ac.mp hx with e|hx
   .subst e;exact ge ok (by rw[<-hq.1];exact hq.2.1)
   .exact ih x hx
 exact all r x hx
theorem qiV(ok:HOk P w H h)(e:H a=iw (.dT kvs)):kvs.length<=Z8/\(a == lb)=iE /\
  ∃xs,KT H kvs xs/\h.DictOfH (mK (qZ P w)) a xs:=XQ ok (.inl e)
end
def DGet(H:Hp)(a:Z7)(y:V)(r:Option V):Prop:=
 (∃kvs k,Rd H a (.dK kvs)/\y=kV k/\r=XO kvs k)\/∃kvs k b,Rd H a (.dT kvs)/\y=.ref b/\H b=iw (.tup (k.map kV))/\r=XO kvs k
def DPut(H:Hp)(a:Z7)(y v:V)(H':Hp):Prop:=
 (∃kvs k,H a=iw (.dK kvs)/\y=kV k/\kvs.length<Z8/\H'=upd H a (.dK (QB kvs k v))) \/
 ∃kvs k b,H a=iw (.dT kvs)/\y=.ref b/\H b=iw (.tup (k.map kV))/\kvs.length<Z8/\H'=upd H a (.dT (QB kvs k v))
theorem DGet.k{kvs:List (Key×V)}{k:Key}(e:H a=iw (.dK kvs)):DGet H a (kV k) (XO kvs k):=.inl ⟨kvs,k,.inl e,rfl,rfl⟩
variable{v:V}
theorem DPut.k{kvs:List (Key×V)}{k:Key}(e:H a=iw (.dK kvs))(hl:kvs.length<Z8):DPut H a (kV k) v (upd H a (.dK (QB kvs k v))):=.inl ⟨kvs,k,e,rfl,hl,rfl⟩
variable{X:Cx}{Z9:Pns}{σ:St}{s:iF}{A:iT}{E Q:iC->iF->Prop}{h':Z5}
section
variable{r:iC}
theorem Inv.big(I:Inv X Z9 σ H s):lb<s.heap.objs.size:=by have h:iP<s.heap.objs.size:=(I.mod.glob.keeps I.bk).lt;exact cr (by decide) h
theorem Gc(j:A.units+1<lc)(I:Inv X Z9 σ H s)(g:DGet H a y (iw v))(f:RelV y u)(h:∀R s',Inv X Z9 σ H s'->RelV v R->Q R s'):iH (Z6 X.prog X.w) A (getItem (.ref a) u) Q E s:=by
 rcases g with⟨kvs,k,e,d,l⟩|⟨kvs,k,b,e,d,C,l⟩
 .subst d;obtain⟨z,hd,vs,rel,i⟩:=WA I.hok e;obtain⟨R,hw,r⟩:=RelO.some_of (v:=v) (o:=mN vs k) (by rw[l];exact rel.val k);exact wpAny_getItem_of (Gb f) i.mapOf hw (h R _ (I.tok _) r)
 .subst d;cases(show u=aM b from f);obtain⟨z,hd,xs,rel,i⟩:=XQ I.hok e;obtain⟨R,hw,r⟩:=RelO.some_of (v:=v) (o:=(atKey xs k).map (·.2)) (by rw[l];exact rel.val k);obtain⟨p,hp,c⟩:=aP.mp hw;refine wpAny_getItem_heap (lK j) (ge I.hok C) i hp ?_;rw[c];exact h R _ (I.tok _) r
theorem qkj(f:A.units+1<lc)(I:Inv X Z9 σ H s)(g:DGet H a y o)(c:RelV y u)(h:∀s',Inv X Z9 σ H s'->Q (.bool o.isSome) s'):iH (Z6 X.prog X.w) A (iN .In u (.ref a)) Q E s:=by
 rcases g with⟨kvs,k,e,d,l⟩|⟨kvs,k,b,e,d,C,l⟩
 .subst d;obtain⟨z,hd,vs,rel,i⟩:=WA I.hok e;refine wpAny_in_of (Gb c) hd i.mapOf ?_;rw[<-(rel.val k).isSome_eq,<-l];exact h _ (I.tok _)
 .subst d;cases(show u=aM b from c);obtain⟨z,hd,xs,rel,i⟩:=XQ I.hok e;refine wpAny_in_heap (lK f) (ge I.hok C) hd i ?_;have q:=(rel.val k).isSome_eq;rw[fN]at q;rw[<-q,<-l];exact h _ (I.tok _)
theorem qeE(f:A.units+1<lc)(I:Inv X Z9 σ H s)(g:DGet H a y o)(c:RelV y u)(h:∀s',Inv X Z9 σ H s'->Q (.bool (!o.isSome)) s'):iH (Z6 X.prog X.w) A (iN .NotIn u (.ref a)) Q E s:=by
 rcases g with⟨kvs,k,e,d,l⟩|⟨kvs,k,b,e,d,C,l⟩
 .subst d;obtain⟨z,hd,vs,rel,i⟩:=WA I.hok e;refine wpAny_notIn_of (Gb c) hd i.mapOf ?_;rw[<-(rel.val k).isSome_eq,<-l];exact h _ (I.tok _)
 .subst d;cases(show u=aM b from c);obtain⟨z,hd,xs,rel,i⟩:=XQ I.hok e;refine wpAny_notIn_heap (lK f) (ge I.hok C) hd i ?_;have q:=(rel.val k).isSome_eq;rw[fN]at q;rw[<-q,<-l];exact h _ (I.tok _)
theorem Ge{t':Nat}{o:HO}(I:Inv X Z9 σ H s)(m:Mut (H a))(hs:bh a s.heap h')(g:∃q,h'.get? a=iw q)(new:ObjOk X.prog X.w (upd H a o) h' a o):Inv X Z9 σ (upd H a o) { s with heap:=h',toks:=t' }:=
 I.write (x:=a) (e:=a) m (.inl rfl) (λb q hb z=>(hs.2 b hb).trans z) g new
theorem Gf{H':Hp}{kvs:List (Key×V)}{vs:List (Key×iC)}(z:kvs.length<=Z8)(hd:(a == lb)=iE)(rel:KV kvs vs)(i:h'.DictOf (qZ P w) a vs):ObjOk P w H' h' a (.dK kvs):=⟨z,hd,vs,rel,i⟩
theorem Gg{Q:Unit->iF->Prop}(p:A.units+1<lc)(I:Inv X Z9 σ H s)(g:DPut H a y v H')(m:RelV y u)(n:RelV v r)(h:∀s',Inv X Z9 σ H' s'->Q () s'):iH (Z6 X.prog X.w) A (setItem (.ref a) u r) Q E s:=by
 rcases g with⟨kvs,k,e,f,l,i⟩|⟨kvs,k,b,e,f,C,l,i⟩
 .subst f i;obtain⟨z,hd,vs,rel,j⟩:=qiU I.hok e;have hz:vs.length<=Z8:=by rw[<-rel.length];exact z
  have hl:(QB kvs k v).length<=Z8:=by have:=yk kvs k v;lia
  refine wpAny_setItem_pairs (hsz:=hz) (Gb m) j λh' d hs=>h _ ?_;have t:∃q,h'.get? a=iw q:=let ⟨q,_,_,hq,_⟩:=d; ⟨q,hq⟩
  exact Ge I (by rw[e];exact cX) hs t (Gf hl hd (rel.put k n) d)
 .subst f i;cases(show u=aM b from m);obtain⟨z,hd,xs,rel,j⟩:=qiV I.hok e;have hz:xs.length<=Z8:=by rw[<-fR rel];exact z
  have hl:(QB kvs k v).length<=Z8:=by have:=yk kvs k v;lia
  refine wpAny_setItem_heap (hsz:=hz) (lK p) (ge I.hok C) j λh' d hs=>h _ ?_;obtain⟨q,es,ep,hq,h2,D,B,_,x⟩:=d;refine Ge I (by rw[e];exact cX) hs ⟨q,hq⟩ ⟨hl,hd,_,(rel.put k C n).keeps λc ys o=>?_,q,es,ep,hq,h2,D,B,x⟩;rw[qv (qit o e (λz=>nomatch z))];exact o
end
section
variable{kvs:List (Key×V)}{k:Key}
theorem qiW(I:Inv X Z9 σ H s)(e:Rd H a (.dK kvs))(h:∀t s',Inv X Z9 σ H s'->Q (.int kvs.length t) s'):iH (Z6 X.prog X.w) A (call (.builtin "len") [.ref a]) Q E s:=by obtain⟨z,hd,vs,rel,i⟩:=WA I.hok e;refine call_len_dict hd i (by rw[<-rel.length];rw[iM]at z;lia) ?_;rw[<-rel.length];exact h _ _ (I.tok _)
end
theorem WB(I:Inv X Z9 σ H s)(g:DGet H a y o):s.TypeIs (.ref a) "dict":=by
 rcases g with⟨kvs,k,e,_,_⟩|⟨kvs,k,b,e,_,_,_⟩
 .obtain⟨_,_,vs,_,i⟩:=WA I.hok e;exact i.typeIs
 .obtain⟨_,_,xs,_,i⟩:=XQ I.hok e;exact i.typeIs
def qiX(td ty tv:TE):TS:=λD σ H=>tv σ H λv H1=>td σ H1 λx H2=>ty σ H2 λy c=>∃a b,x=.ref a/\DPut c a y v b/\D.nx σ b
variable{pos:Pos}
section
variable{o i e value:Z4}{pos' tpos:Pos}{td ty tv:TE}
theorem qeF(k:X.A.units+1<lc)(l:PE X o td)(hi:PE X i ty)(j:PE X value tv)(hs:lh value (iw (.Subscript o i pos')) pos.line X.env=pure iE):PS X (.Assign [.Subscript o i pos'] value pos) (qiX td ty tv):=by refine⟨?_⟩;intro Z9 s σ H D I h;refine wpAny_Assign_Subscript (thn (j Z9 s σ H _ I h) λr s1 ⟨v,H1,p,b,f⟩=>thn (l Z9 s1 σ H1 _ p f) λu s2 ⟨x,H2,n,d,e⟩=>thn (hi Z9 s2 σ H2 _ n e) λw s3 z=>?_) hs;obtain⟨y,B,m,c,a,t,ex,g,q⟩:=z;subst ex;obtain rfl:u=aM a:=d;exact Gg k m g c b λs4 E=>⟨σ,t,E,q⟩
end
theorem qca(h:Z5)(hb:lb<h.objs.size):ObjOk P w H (h.push { cls:=.type "dict",data:=.dict #[] }) h.objs.size (.dK []):=
 ⟨aZ _,beq_eq_false_iff_ne.mpr (aW (ax hb)),[],.nil,Heap.DictOf.new h⟩
def qgN:TE:=λ_ H Q=>∀p,H p=iB->Q (.ref p) (upd H p (.dK []))
section
theorem qcb:PE X (.Dict [] [] pos) qgN:=⟨λZ9 s σ H Q I h=>
 wpAny_Dict_empty ⟨.ref s.heap.objs.size,_,I.laid (a:=s.heap.objs.size) (o:=.dK []) (t':=s.toks) (λ_ _ q=>aa _ q) (aq _) (qca s.heap I.big),rfl,h _ (I.hok.fresh (aq _))⟩⟩
end
def IsD(H:Hp)(a:Z7):Prop:=(∃kvs,Rd H a (.dK kvs))\/∃kvs,Rd H a (.dT kvs)
theorem qgO(I:Inv X Z9 σ H s)(d:IsD H a):s.TypeIs (.ref a) "dict"/\(∀b,aM a=.ref b->∃o,s.heap.get? b=iw o/\o.dict=iB)/\(a == lb)=false:=by
 rcases d with⟨kvs,e⟩|⟨kvs,e⟩
 .obtain⟨_,hd,vs,_,i⟩:=WA I.hok e;refine⟨i.typeIs,λb q=>?_,hd⟩;cases q;obtain⟨o,_,_,h1,h2,_⟩:=i;exact⟨o,h1,h2.2.1⟩
 .obtain⟨_,hd,xs,_,i⟩:=XQ I.hok e;refine⟨i.typeIs,λb q=>?_,hd⟩;cases q;obtain⟨o,_,_,h1,h2,_⟩:=i;exact⟨o,h1,h2.2.1⟩
section
theorem Gh:wG X (.builtin "len") (λxs H Q=>∃a kvs,xs=[V.ref a]/\H a=iw (.dK kvs)/\Q (.int kvs.length) H):=by intro Z9 s σ H xs us Q I r h;obtain⟨a,kvs,rfl,f,q⟩:=h;obtain⟨u,rfl,y⟩:=uO r;cases y;exact qiW I (.inl f) λt s' b=>⟨.int kvs.length,H,b,⟨t,rfl⟩,q⟩
end
end L2
namespace L2.D2
open PySem PySem.Spec PyProof.Rows
variable{b:List Nat}
theorem kZ{a:List Nat}(h:(a.all λi=>decide (i∈b))=iD):∀i∈a,i∈b:=λi hi=>Ae (aI.mp h i hi)
theorem wH{i:Nat}(h:decide (i∈b)=iE):i∉b:=of_decide_eq_false h
noncomputable def WC:Z4->Bool
 |.Starred ..=>iE
 |_=>iD
variable{e:Z4}{env:Env}
theorem jq{es:List Z4}(h:WC e=iD):iI (e::es) env=(iE,Z0 e env)::iI es env:=by cases e <;> first|rfl|cases h
theorem qJ(h:WC e=iD):iI [e] env=[(iE,Z0 e env)]:=jq h
theorem UV{a b:Z4}(h:WC a=iD)(k:WC b=iD):iI [a,b] env=[(iE,Z0 a env),(iE,Z0 b env)]:=by rw[jq h,qJ k]
variable{pos:Pos}
theorem uC:∀{es:List Z4},es.all WC=iD->(j0 pos (iI es env)).any (·.1)=iE
 |[],_=>rfl
 |e::es,h=>by rw[cL,aO]at h;rw[jq h.1];exact uC h.2
theorem yC(h:WC e=iD):((j0 pos (iI [e] env)).all (λx=>!x.1)&&(lB pos (j8 [] env)).all (λx=>x.1.isSome)
   && decide ([e].length+([]:List lr).length+(if ([]:List lr).isEmpty then 0 else 1)<30))=true:=by rw[qJ h];rfl
inductive D where
 |non|bl (b:Bool)|int (i:Int)|str (x:Str)
 |tup (xs:List D)|lst (xs:List D)|dct (kvs:List (Key×D))|raw (v:V)
 |xcp (C:Z7)|ins (C:Z7) (fs:List (Str×D))|at_ (a:Z7) (xs:List D)
 deriving Inhabited
abbrev Sl:=List (Option D)
inductive Out(α:Type) where
 |ok (a:α)|exc (c:Str) (o:Sl)|bad
variable{α β:Type}
noncomputable def Out.bind(o:Out α)(k:α->Out β):Out β:=match o with
 |.ok a=>k a
 |.exc c o=>.exc c o
 |.bad=>.bad
@[simp] theorem Out.oh(a:α)(k:α->Out β):(Out.ok a).bind k=k a:=rfl
@[simp] theorem Out.exc_bind(c:Str)(o:Sl)(k:α->Out β):(Out.exc c o:Out α).bind k=.exc c o:=rfl
@[simp] theorem Out.bad_bind(k:α->Out β):(Out.bad:Out α).bind k=.bad:=rfl
noncomputable def qkk(a C:Z7):HO:=.ext λh=>∃o vs,h.get? a=iw o/\o.cls=.ref C/\o.data=.fields vs
mutual
/-- the value v is the data d,all its objects in F -/
inductive Is(K:Y9)(F:Hp):V->D->Prop
 |non:Is K F .non .non
 |bl (b:Bool):Is K F (.bl b) (.bl b)
 |int (i:Int):Is K F (.int i) (.int i)
 |str {x:Str} (h:x.length<=Z8):Is K F (.str x) (.str x)
 |tup {a:Z7} {xs:List V} {ds:List D} (h:SqT K F a xs) (t:IsL K F xs ds):Is K F (.ref a) (.tup ds)
 |lst {a:Z7} {xs:List V} {ds:List D} (h:SqL K F a xs) (t:IsL K F xs ds):Is K F (.ref a) (.lst ds)
 |dct {a:Z7} {kv:List (Key×V)} {kvs:List (Key×D)} (h:F a=iw (.dK kv)) (t:IsK K F kv kvs):Is K F (.ref a) (.dct kvs)
 |raw (v:V):Is K F v (.raw v)
 |xcp {a C:Z7} (h:F a=iw (qkk a C)):Is K F (.ref a) (.xcp C)
 |ins {a C dx:Z7} {fv:List (Str×V)} {fs:List (Str×D)} (h:F a=iw (.ins C dx fv)) (t:IsF K F fv fs):Is K F (.ref a) (.ins C fs)
 |at_ {a:Z7} {xs:List V} {ds:List D} (h:SqL K F a xs) (t:IsL K F xs ds):Is K F (.ref a) (.at_ a ds)
inductive IsL(K:Y9)(F:Hp):List V->List D->Prop
 |nil:IsL K F [] []
 |cons {v:V} {d:D} {vs:List V} {ds:List D} (h:Is K F v d) (t:IsL K F vs ds):IsL K F (v::vs) (d::ds)
inductive IsK(K:Y9)(F:Hp):List (Key×V)->List (Key×D)->Prop
 |nil:IsK K F [] []
 |cons {k:Key} {v:V} {d:D} {vs:List (Key×V)} {ds:List (Key×D)} (h:Is K F v d) (t:IsK K F vs ds):IsK K F ((k,v)::vs) ((k,d)::ds)
inductive IsF(K:Y9)(F:Hp):List (Str×V)->List (Str×D)->Prop
 |nil:IsF K F [] []
 |cons {k:Str} {v:V} {d:D} {vs:List (Str×V)} {ds:List (Str×D)} (h:Is K F v d) (t:IsF K F vs ds):IsF K F ((k,v)::vs) ((k,d)::ds)
end
theorem je{K:Y9}{H H':Hp}{a:Z7}{xs:List V}(e:Same H H')(h:SqT K H a xs):SqT K H' a xs:=by
 rcases h with(h|⟨o,h⟩)|h;·exact .inl (.inl (e _ _ h))
 .exact .inl (.inr ⟨o,e _ _ h⟩)
 .exact .inr h
mutual
theorem Is.mono{K:Y9}{F F':Hp}(e:Same F F'):∀{v:V}{d:D},Is K F v d->Is K F' v d
 |_,_,.non=>.non
 |_,_,.bl b=>.bl b
 |_,_,.int i=>.int i
 |_,_,.str h=>.str h
 |_,_,.tup h t=>.tup (je e h) (IsL.mono e t)
 |_,_,.lst h t=>.lst (e.seq h) (IsL.mono e t)
 |_,_,.dct h t=>.dct (e _ _ h) (IsK.mono e t)
 |_,_,.raw v=>.raw v
 |_,_,.xcp h=>.xcp (e _ _ h)
 |_,_,.ins h t=>.ins (e _ _ h) (IsF.mono e t)
 |_,_,.at_ h t=>.at_ (e.seq h) (IsL.mono e t)
theorem IsL.mono{K:Y9}{F F':Hp}(e:Same F F'):∀{vs:List V}{ds:List D},IsL K F vs ds->IsL K F' vs ds
 |_,_,.nil=>.nil
 |_,_,.cons h t=>.cons (Is.mono e h) (IsL.mono e t)
theorem IsK.mono{K:Y9}{F F':Hp}(e:Same F F'):∀{vs:List (Key×V)}{ds:List (Key×D)},IsK K F vs ds->IsK K F' vs ds
 |_,_,.nil=>.nil
 |_,_,.cons h t=>.cons (Is.mono e h) (IsK.mono e t)
theorem IsF.mono{K:Y9}{F F':Hp}(e:Same F F'):∀{vs:List (Str×V)}{ds:List (Str×D)},IsF K F vs ds->IsF K F' vs ds
 |_,_,.nil=>.nil
 |_,_,.cons h t=>.cons (Is.mono e h) (IsF.mono e t)
end
theorem IsL.length{K:Y9}{F:Hp}:∀{vs:List V}{ds:List D},IsL K F vs ds->vs.length=ds.length
 |_,_,.nil=>rfl
 |_,_,.cons _ t=>congrArg (·+1) (IsL.length t)
theorem IsL.get{K:Y9}{F:Hp}:∀{vs:List V}{ds:List D}{i:Nat}{v:V},IsL K F vs ds->vs[i]?=iw v->∃d,ds[i]?=iw d/\Is K F v d
 |_,_,_,_,.nil,e=>by simp at e
 |_,_,0,_,.cons h _,e=>by simp at e;subst e;exact⟨_,rfl,h⟩
 |_,_,i+1,v,.cons _ t,e=>by obtain⟨d,h1,h2⟩:=IsL.get (i:=i) (v:=v) t (by simpa using e);exact⟨d,by simpa using h1,h2⟩
theorem IsL.getD{K:Y9}{F:Hp}:∀{vs:List V}{ds:List D}{i:Nat}{d:D},IsL K F vs ds->ds[i]?=iw d->∃v,vs[i]?=iw v/\Is K F v d
 |_,_,_,_,.nil,e=>by simp at e
 |_,_,0,_,.cons h _,e=>by simp at e;subst e;exact⟨_,rfl,h⟩
 |_,_,i+1,v,.cons _ t,e=>by obtain⟨d,h1,h2⟩:=IsL.getD (i:=i) (d:=v) t (by simpa using e);exact⟨d,by simpa using h1,h2⟩
theorem IsL.append{K:Y9}{F:Hp}:∀{vs ws:List V}{ds es:List D},IsL K F vs ds->IsL K F ws es->IsL K F (vs++ws) (ds++es)
 |_,_,_,_,.nil,s=>s
 |_,_,_,_,.cons h t,s=>.cons h (IsL.append t s)
theorem IsL.drop{K:Y9}{F:Hp}:∀{vs:List V}{ds:List D}(n:Nat),IsL K F vs ds->IsL K F (vs.drop n) (ds.drop n)
 |_,_,0,r=>r
 |_,_,_+1,.nil=>.nil
 |_,_,n+1,.cons _ t=>IsL.drop n t
theorem IsL.take{K:Y9}{F:Hp}:∀{vs:List V}{ds:List D}(n:Nat),IsL K F vs ds->IsL K F (vs.take n) (ds.take n)
 |_,_,0,_=>.nil
 |_,_,_+1,.nil=>.nil
 |_,_,n+1,.cons h t=>.cons h (IsL.take n t)
theorem IsL.set{K:Y9}{F:Hp}{v:V}{d:D}(h:Is K F v d):∀{vs:List V}{ds:List D}(i:Nat),IsL K F vs ds->IsL K F (vs.set i v) (ds.set i d)
 |_,_,_,.nil=>.nil
 |_,_,0,.cons _ t=>.cons h t
 |_,_,i+1,.cons q t=>.cons q (IsL.set h i t)
def OwnIs(K:Y9)(F H:Hp)(a:Z7):D->Prop
 |.lst ds=>∃xs,H a=iw (.lst xs)/\IsL K F xs ds
 |.dct kvs=>∃kv,H a=iw (.dK kv)/\IsK K F kv kvs
 |.ins C fs=>∃dx fv,H a=iw (.ins C dx fv)/\IsF K F fv fs
 |.at_ b ds=>b=a/\∃xs,H a=iw (.lst xs)/\IsL K F xs ds
 |_=>False
def TopIs(K:Y9)(F H:Hp)(v:V)(d:D):Prop:=Is K F v d\/∃a,v=.ref a/\OwnIs K F H a d
inductive Mo where
 |sh|fr|any
def MoIs(K:Y9)(m:Mo)(H0 F H:Hp)(v:V)(d:D):Prop:=match m with
 |.sh=>Is K F v d
 |.fr=>∃a,v=.ref a/\H0 a=iB/\F a=iB/\OwnIs K F H a d
 |.any=>TopIs K F H v d
theorem MoIs.top{K:Y9}{m:Mo}{H0 F H:Hp}{v:V}{d:D}(h:MoIs K m H0 F H v d):TopIs K F H v d:=by
 cases m with
 |sh=>exact .inl h
 |fr=>obtain⟨a,e,_,_,o⟩:=h;exact .inr ⟨a,e,o⟩
 |any=>exact h
structure Chg(A:Z7->Prop)(F H F' H':Hp):Prop where
 keep:∀b o,H b=iw o->¬A b->H' b=iw o
 stay:∀b,H b≠iB->H' b≠iB
 grow:Same F F'
 new:∀b,F' b≠iB->F b≠iB\/H b=iB\/A b
theorem Chg.refl{A:Z7->Prop}{F H:Hp}:Chg A F H F H:=⟨λ_ _ e _=>e,λ_ h=>h,Same.refl _,λ_ h=>.inl h⟩
theorem Chg.trans{A A1:Z7->Prop}{F H F1 H1 c H2:Hp}(a:Chg A F H F1 H1)(b:Chg A1 F1 H1 c H2)(hA:∀x,A1 x->A x\/H x=iB):Chg A F H c H2 where
 keep:=λx o e n=>b.keep x o (a.keep x o e n) λz=>(hA x z).elim n λq=>by rw[e]at q;cases q
 stay:=λx h=>b.stay x (a.stay x h)
 grow:=a.grow.trans b.grow
 new:=λx h=>by
  rcases b.new x h with q|q|q;·exact a.new x q
  .refine .inr (.inl ?_);cases e:H x with
   |none=>rfl
   |some o=>exact absurd q (a.stay x (by rw[e];simp))
  .rcases hA x q with z|z;·exact .inr (.inr z)
   .exact .inr (.inl z)
theorem Chg.trans'{A:Z7->Prop}{F H F1 H1 c H2:Hp}(a:Chg A F H F1 H1)(b:Chg A F1 H1 c H2):Chg A F H c H2:=a.trans b λ_ z=>.inl z
theorem Chg.mono{A c:Z7->Prop}{F H F1 H1:Hp}(a:Chg A F H F1 H1)(h:∀x,A x->c x):Chg c F H F1 H1:=
 ⟨λb o e n=>a.keep b o e λz=>n (h b z),a.stay,a.grow,λb z=>(a.new b z).imp id (Or.imp id (h b))⟩
abbrev No:Z7->Prop:=λ_=>False
theorem Chg.ofNo{A:Z7->Prop}{F H F1 H1:Hp}(a:Chg No F H F1 H1):Chg A F H F1 H1:=a.mono λ_ z=>z.elim
structure Rep(K:Y9)(own:List Nat)(F H:Hp)(σ:St)(ρ:Sl):Prop where
 sub:Same F H
 len:σ.length=ρ.length
 val:∀i d,i∉own->ρ[i]?=iw (iw d)->∃v,σ[i]?=iw (iw v)/\Is K F v d
 ow:∀i d,i∈own->ρ[i]?=iw (iw d)->∃a,σ[i]?=iw (iw (.ref a))/\F a=iB/\OwnIs K F H a d
 opn:∀i,i∈own->∃d,ρ[i]?=iw (iw d)
 dis:∀i j a,i∈own->j∈own->σ[i]?=iw (iw (V.ref a))->σ[j]?=iw (iw (V.ref a))->i=j
def OA(own:List Nat)(σ:St):Z7->Prop:=λb=>∃i∈own,σ[i]?=iw (iw (V.ref b))
theorem OwnIs.there{K:Y9}{F H:Hp}{a:Z7}{d:D}(h:OwnIs K F H a d):H a≠none:=by
 cases d with
 |lst ds=>obtain⟨xs,e,_⟩:=h;rw[e];simp
 |dct ds=>obtain⟨xs,e,_⟩:=h;rw[e];simp
 |ins C fs=>obtain⟨dx,xs,e,_⟩:=h;rw[e];simp
 |at_ b ds=>obtain⟨_,xs,e,_⟩:=h;rw[e];simp
 |_=>exact h.elim
theorem OwnIs.grow{K:Y9}{F H F' H':Hp}{a:Z7}{d:D}(h:OwnIs K F H a d)(g:Same F F')(k:∀o,H a=iw o->H' a=iw o):OwnIs K F' H' a d:=by
 cases d with
 |lst ds=>obtain⟨xs,e,t⟩:=h;exact⟨xs,k _ e,t.mono g⟩
 |dct ds=>obtain⟨xs,e,t⟩:=h;exact⟨xs,k _ e,t.mono g⟩
 |ins C fs=>obtain⟨dx,xs,e,t⟩:=h;exact⟨dx,xs,k _ e,t.mono g⟩
 |at_ b ds=>obtain⟨c,xs,e,t⟩:=h;exact⟨c,xs,k _ e,t.mono g⟩
 |_=>exact h.elim
theorem Rep.OA_there{K:Y9}{own:List Nat}{F H:Hp}{σ:St}{ρ:Sl}(r:Rep K own F H σ ρ){b:Z7}(h:OA own σ b):H b≠iB/\F b=none:=by obtain⟨i,hi,e⟩:=h;obtain⟨d,hd⟩:=r.opn i hi;obtain⟨a,e1,c,o⟩:=r.ow i d hi hd;rw[e]at e1;cases e1;exact⟨o.there,c⟩
theorem Rep.grow{K:Y9}{own:List Nat}{F H F' H':Hp}{σ:St}{ρ:Sl}(r:Rep K own F H σ ρ)(c:Chg No F H F' H')(s:Same F' H'):Rep K own F' H' σ ρ where
 sub:=s
 len:=r.len
 val:=λi d hi e=>let ⟨v,h1,h2⟩:=r.val i d hi e; ⟨v,h1,h2.mono c.grow⟩
 ow:=λi d hi e=>by
  obtain⟨a,h1,h2,g⟩:=r.ow i d hi e;refine⟨a,h1,?_,g.grow c.grow λo q=>c.keep a o q λz=>z⟩;cases q:F' a with
  |none=>rfl
  |some o=>
   rcases c.new a (by rw[q];simp)with z|z|z;·exact absurd h2 z
   .exact absurd z g.there
   .exact z.elim
 opn:=r.opn
 dis:=r.dis
theorem MoIs.grow{K:Y9}{A:Z7->Prop}{m:Mo}{H0 F H F' H':Hp}{v:V}{d:D}(h:MoIs K m H0 F H v d)(f:m≠.any)(c:Chg A F H F' H')(hA:∀x,A x->H0 x≠iB):MoIs K m H0 F' H' v d:=by
 cases m with
 |sh=>exact Is.mono c.grow h
 | fr=>
  obtain⟨a,e,b,g,o⟩:=h;have n:¬A a:=λz=>hA a z b;refine⟨a,e,b,?_,o.grow c.grow λo q=>c.keep a o q n⟩;cases q:F' a with
  |none=>rfl
  |some u=>
   rcases c.new a (by rw[q];simp)with z|z|z;·exact absurd g z
   .exact absurd z o.there
   .exact absurd z n
 |any=>exact absurd rfl f
def Gi(K:Y9)(io:List Nat)(F H:Hp)(σ:St)(ρ:Sl):Prop:=∀i∈io,∃d a,ρ[i]?=iw (iw d)/\σ[i]?=iw (iw (V.ref a))/\F a=iB/\OwnIs K F H a d
theorem Rep.ioIs{K:Y9}{own io:List Nat}{F H:Hp}{σ:St}{ρ:Sl}(r:Rep K own F H σ ρ)(h:∀i∈io,i∈own):Gi K io F H σ ρ:=λi hi=>by obtain⟨d,hd⟩:=r.opn i (h i hi);obtain⟨a,h1,h2,g⟩:=r.ow i d (h i hi) hd;exact⟨d,a,hd,h1,h2,g⟩
structure Ct where
 K:Y9
 cv:Str->iC
 E:XK
 io:List Nat
 mr:Mo
 ol:List Nat
 ox:List Nat
 oxs:∀i∈ox,i∈io
abbrev Va:=Out (D×Sl)
def Po(C:Ct)(own:List Nat)(m:Mo)(σ:St)(F H:Hp)(r:Va)(Q:VK):Prop:=match r with
 |.ok (d,ρ')=>∀v F' H',Rep C.K own F' H' σ ρ'->Chg (OA own σ) F H F' H'->MoIs C.K m H F' H' v d->Q v H'
 |.exc c ρ'=>∀F' H',Same F' H'->Gi C.K C.ox F' H' σ ρ'->Chg (OA own σ) F H F' H'->C.E (C.cv c) iB H'
 |.bad=>False
abbrev qV:=Sl->Va
def tE(C:Ct)(own:List Nat)(m:Mo)(f:qV):TE:=λσ H Q=>∃F ρ,Rep C.K own F H σ ρ/\Po C own m σ F H (f ρ) Q
theorem MoIs.back{K:Y9}{m:Mo}{A:Z7->Prop}{H0 F H F1 H1:Hp}{f Ha:Hp}{v:V}{d:D}(c:Chg A f H0 F1 H1)(h:MoIs K m H1 F H v d):MoIs K m H0 F H v d:=by
 cases m with
 |sh=>exact h
 |fr=>
  obtain⟨a,e,b,r⟩:=h;refine⟨a,e,?_,r⟩;cases q:H0 a with
  |none=>rfl
  |some o=>exact absurd b (c.stay a (by rw[q];simp))
 |any=>exact h
theorem Po.shift{C:Ct}{own:List Nat}{m:Mo}{σ:St}{F H F1 H1:Hp}{r:Va}{Q:VK}(h:Po C own m σ F H r Q)(c:Chg (OA own σ) F H F1 H1):Po C own m σ F1 H1 r Q:=by
 cases r with
 |ok p=>exact λv F' H' a S mo=>h v F' H' a (c.trans' S) (MoIs.back (Ha:=H1) c mo)
 |exc x=>exact λF' H' s io S=>h F' H' s io (c.trans' S)
 |bad=>exact h.elim
theorem Po.bind{C:Ct}{own:List Nat}{m ma:Mo}{σ:St}{F H:Hp}{o:Va}{k:D×Sl->Va}{Q R:VK}(hp:Po C own m σ F H (o.bind k) Q)(h:∀v F1 H1 d ρ1,Rep C.K own F1 H1 σ ρ1->Chg (OA own σ) F H F1 H1->MoIs C.K ma H F1 H1 v d->Po C own m σ F1 H1 (k (d,ρ1)) Q->R v H1):Po C own ma σ F H o R:=by
 cases o with
 |ok p=>obtain⟨d,ρ1⟩:=p;exact λv F1 H1 a c mo=>h v F1 H1 d ρ1 a c mo (Po.shift (show Po C own m σ F H (k (d,ρ1)) Q from hp) c)
 |exc x=>exact hp
 |bad=>exact hp.elim
def PoV(C:Ct)(m:Mo)(F H:Hp)(r:Out D)(Q:VK):Prop:=match r with
 |.ok d=>∀v F' H',Same F' H'->Chg No F H F' H'->MoIs C.K m H F' H' v d->Q v H'
 |_=>False
def OpD(X:Cx)(C:Ct)(m:Mo)(f:iC->iC->Sem iC)(g:D->D->Out D):Prop:=
 OpR X f (λx y H Q=>∃F dx d,Same F H/\TopIs C.K F H x dx/\TopIs C.K F H y d/\PoV C m F H (g dx d) Q)
def UnD(X:Cx)(C:Ct)(m:Mo)(f:iC->Sem iC)(g:D->Out D):Prop:=
 UnR X f (λx H Q=>∃F dx,Same F H/\TopIs C.K F H x dx/\PoV C m F H (g dx) Q)
noncomputable def Out.plain{α:Type}:Out α->Out α
 |.ok a=>.ok a
 |_=>.bad
theorem PoV.of{C:Ct}{own:List Nat}{m:Mo}{σ:St}{F H:Hp}{o:Out D}{ρ:Sl}{Q:VK}(a:Rep C.K own F H σ ρ)(h:Po C own m σ F H (o.plain.bind λd=>.ok (d,ρ)) Q):PoV C m F H o Q:=by
 cases o with
 |ok d=>exact λv F' H' s c mo=>h v F' H' (a.grow c s) c.ofNo mo
 |exc c=>exact h.elim
 |bad=>exact h.elim
def d2(g:D->D->Out D)(fa fb:qV):qV:=λρ=>(fa ρ).bind λp=>(fb p.2).bind λq=>(g p.1 q.1).plain.bind λd=>.ok (d,q.2)
def d1(g:D->Out D)(fa:qV):qV:=λρ=>(fa ρ).bind λp=>(g p.1).plain.bind λd=>.ok (d,p.2)
section
variable{X:Cx}{C:Ct}{own:List Nat}{a b:Z4}{fa fb:qV}{m ma mb:Mo}{pos:Pos}
theorem Vb{g:D->D->Out D}{σ:St}{H:Hp}{Q:VK}(f:ma≠.any)(h:tE C own m (d2 g fa fb) σ H Q):tE C own ma fa σ H λx H1=>tE C own mb fb σ H1 λy H2=>∃F dx i,Same F H2/\TopIs C.K F H2 x dx/\TopIs C.K F H2 y i/\PoV C m F H2 (g dx i) Q:=by obtain⟨F,ρ,p,h⟩:=h;refine⟨F,ρ,p,Po.bind h λv F1 H1 d ρ1 a k c h1=>⟨F1,ρ1,a,Po.bind h1 λw j H2 e ρ2 r c2 b h2=>?_⟩⟩;exact⟨j,d,e,r.sub,(c.grow f c2 λx z=>(p.OA_there z).1).top,b.top,PoV.of r h2⟩
theorem XR{g:D->Out D}{σ:St}{H:Hp}{Q:VK}(h:tE C own m (d1 g fa) σ H Q):tE C own ma fa σ H λx H1=>∃F dx,Same F H1/\TopIs C.K F H1 x dx/\PoV C m F H1 (g dx) Q:=by obtain⟨F,ρ,r,h⟩:=h;refine⟨F,ρ,r,Po.bind h λv F1 H1 d ρ1 a k c h1=>?_⟩;exact⟨F1,d,a.sub,c.top,PoV.of a h1⟩
theorem jy{e:Z4}{t t':TE}(h:PE X e t)(i:∀σ H Q,t' σ H Q->t σ H Q):PE X e t':=⟨λZ9 s σ H Q I hw=>h Z9 s σ H Q I (i σ H Q hw)⟩
theorem qcc{e:Z4}{t t':TT}(h:PT X e t)(i:∀σ H Q,t' σ H Q->t σ H Q):PT X e t':=⟨λZ9 s σ H Q I hw=>h Z9 s σ H Q I (i σ H Q hw)⟩
theorem jo{op:Operator}{g:D->D->Out D}(l:OpD X C m (i8 op) g)(c:PE X a (tE C own ma fa))(hb:PE X b (tE C own mb fb))(f:ma≠.any:=by decide):PE X (.BinOp a op b pos) (tE C own m (d2 g fa fb)):=
 jy (qiF l c hb) λ_ _ _ h=>Vb f h
theorem xM{op:CmpOp}{g:D->D->Out D}(l:OpD X C m (iN op) g)(c:PE X a (tE C own ma fa))(hb:PE X b (tE C own mb fb))(f:ma≠.any:=by decide)(k:lG op b=false:=by first|exact qdF _|with_unfolding_all rfl):PE X (.Compare a [op] [b] pos) (tE C own m (d2 g fa fb)):=
 jy (qen l c hb k) λ_ _ _ h=>Vb f h
theorem qgP{op:UnaryOp}{g:D->Out D}(l:UnD X C m (unaryOp op) g)(f:PE X a (tE C own ma fa)):PE X (.UnaryOp op a pos) (tE C own m (d1 g fa)):=
 jy (qiG l f) λ_ _ _ h=>XR h
end
instance:DecidableEq Mo:=λa b=>by cases a <;> cases b <;> first|exact isTrue rfl|exact isFalse (by intro h;cases h)
theorem qcd{K:Y9}{own:List Nat}{H0 F H:Hp}{σ:St}{ρ:Sl}{v:V}{d:D}(r:Rep K own F H σ ρ)(hA:∀b,OA own σ b->H0 b≠iB)(h:MoIs K .fr H0 F H v d):∃F',Rep K own F' H σ ρ/\Same F F'/\Is K F' v d/\∀b,F' b≠iB->F b≠iB\/H0 b=none:=by
 obtain⟨a,rfl,f,g,o⟩:=h;obtain⟨u,hu⟩:∃u,H a=iw u:=by
  cases q:H a with
  |none=>exact absurd q o.there
  |some u=>exact⟨u,rfl⟩
 have gr:Same F (upd F a u):=λb w e=>by rw[qv (qD e g)];exact e
 have s:Same (upd F a u) H:=λb w e=>by
  by_cases q:b=a;·subst q;rw[qo]at e;cases e;exact hu
  .rw[qv q]at e;exact r.sub b w e
 refine⟨upd F a u,⟨s,r.len,λi d hi e=>?_,λi d hi e=>?_,r.opn,r.dis⟩,gr,?_,λb hb=>?_⟩;·obtain⟨v,h1,h2⟩:=r.val i d hi e;exact⟨v,h1,h2.mono gr⟩
 .obtain⟨c,h1,h2,j⟩:=r.ow i d hi e;refine⟨c,h1,?_,j.grow gr λ_ q=>q⟩;have n:c≠a:=λq=>by subst q;exact hA c ⟨i,hi,h1⟩ f
  rw[qv n];exact h2
 .cases d with
  |lst ds=>obtain⟨xs,e,t⟩:=o;rw[hu]at e;cases e;exact .lst (.inl (.inl qo)) (t.mono gr)
  |dct ds=>obtain⟨xs,e,t⟩:=o;rw[hu]at e;cases e;exact .dct qo (t.mono gr)
  |ins C fs=>obtain⟨dx,xs,e,t⟩:=o;rw[hu]at e;cases e;exact .ins qo (t.mono gr)
  |at_ b ds=>obtain⟨k,xs,e,t⟩:=o;rw[hu]at e;cases e;subst k;exact .at_ (.inl (.inl qo)) (t.mono gr)
  |_=>exact o.elim
 .by_cases q:b=a;·exact .inr (by rw[q];exact f)
  .rw[qv q]at hb;exact .inl hb
theorem Po.toSh{C:Ct}{own:List Nat}{m:Mo}{σ:St}{F H:Hp}{d:Sl}{r:Va}{Q:VK}(f:Rep C.K own F H σ d)(g:m≠.any)(h:Po C own .sh σ F H r Q):Po C own m σ F H r Q:=by
 cases r with
 | ok p=>
  intro v F' H' a c mo;cases m with
  |sh=>exact h v F' H' a c mo
  |fr=>
   obtain⟨i,e,gr,is,n⟩:=qcd a (λb z=>(f.OA_there z).1) mo;refine h v i H' e ⟨c.keep,c.stay,c.grow.trans gr,λb hb=>?_⟩ is;rcases n b hb with z|z;·exact c.new b z
   .exact .inr (.inl z)
  |any=>exact absurd rfl g
 |exc x=>exact h
 |bad=>exact h.elim
section
variable{X:Cx}{C:Ct}{own:List Nat}{a b e:Z4}{f fa fb:qV}{m ma mb:Mo}{pos:Pos}
theorem wC(h:PE X e (tE C own m f))(c:m≠.any):PE X e (tE C own .sh f):=jy h λ_ _ _ ⟨F,ρ,a,p⟩=>⟨F,ρ,a,p.toSh a c⟩
noncomputable def qe(i:Nat):qV:=λρ=>match ρ[i]? with
 |some (iw d)=>.ok (d,ρ)
 |_=>.bad
noncomputable def dC(d:D):qV:=λρ=>.ok (d,ρ)
theorem qgQ{i:Nat}{x:Str}(b:X.N[i]?=iw x)(c:Vis X.env.scope x)(l:i∉own)(hd:Dbg x:=by decide)(a:Cdk x:=by decide):PE X (.Name x pos) (tE C own .sh (qe i)):=by
 refine jy (vB b c hd a) λσ H Q z=>?_;obtain⟨F,ρ,r,h⟩:=z;unfold qe at h;cases e:ρ[i]? with
 |none=>rw[e]at h;exact h.elim
 |some o=>
  cases o with
  |none=>rw[e]at h;exact h.elim
  |some d=>rw[e]at h;obtain⟨v,h1,h2⟩:=r.val i d l e;exact⟨v,h1,h v F H r .refl h2⟩
theorem qeG{i:Nat}{x:Str}(f:X.N[i]?=iw x)(c:Vis X.env.scope x)(l:i∈own)(hd:Dbg x:=by decide)(b:Cdk x:=by decide):PE X (.Name x pos) (tE C own .any (qe i)):=by
 refine jy (vB f c hd b) λσ H Q z=>?_;obtain⟨F,ρ,r,h⟩:=z;unfold qe at h;cases e:ρ[i]? with
 |none=>rw[e]at h;exact h.elim
 |some o=>
  cases o with
  |none=>rw[e]at h;exact h.elim
  |some d=>rw[e]at h;obtain⟨a,h1,h2,g⟩:=r.ow i d l e;exact⟨_,h1,h _ F H r .refl (.inr ⟨a,rfl,g⟩)⟩
theorem qgR{v:V}{d:D}(h:PE X e (tC v))(i:∀F,Is C.K F v d):PE X e (tE C own .sh (dC d)):=jy h λσ H Q ⟨F,ρ,a,h⟩=>h v F H a .refl (i F)
theorem qw{i j pos}:PE X (.Constant (.int i) j pos) (tE C own .sh (dC (.int i))):=qgR qgl λ_=>.int i
theorem wI{i j pos}:PE X (.Constant (.bool i) j pos) (tE C own .sh (dC (.bl i))):=qgR qiu λ_=>.bl i
theorem QT{j pos}:PE X (.Constant .none j pos) (tE C own .sh (dC .non)):=qgR qgm λ_=>.non
theorem UW{x j pos}(h:hZ x<=Z8:=by decide):PE X (.Constant (.str x) j pos) (tE C own .sh (dC (.str x))):=qgR qdA λ_=>.str h
theorem qeH{x:Str}{v:V}{d:D}{u:iC}(hg:Gl X x)(c:X.mg x=iw u)(r:RelV v u)(i:∀F,Is C.K F v d)(hd:Dbg x:=by decide):PE X (.Name x pos) (tE C own .sh (dC d)):=qgR (qef hg c r hd) i
noncomputable def Qy(g:Int->Int->Out D):D->D->Out D
 |.int i,.int j=>g i j
 |_,_=>.bad
theorem TopIs.int{K:Y9}{F H:Hp}{v:V}{i:Int}(h:TopIs K F H v (.int i)):v=.int i:=by
 rcases h with h|⟨a,_,h⟩
 .cases h;rfl
 .exact h.elim
theorem TopIs.str{K:Y9}{F H:Hp}{v:V}{x:Str}(h:TopIs K F H v (.str x)):v=.str x/\x.length<=Z8:=by
 rcases h with h|⟨a,_,h⟩
 .cases h;exact⟨rfl,by assumption⟩
 .exact h.elim
theorem TopIs.bl{K:Y9}{F H:Hp}{v:V}{x:Bool}(h:TopIs K F H v (.bl x)):v=.bl x:=by
 rcases h with h|⟨a,_,h⟩
 .cases h;rfl
 .exact h.elim
theorem TopIs.non{K:Y9}{F H:Hp}{v:V}(h:TopIs K F H v .non):v=.non:=by
 rcases h with h|⟨a,_,h⟩
 .cases h;rfl
 .exact h.elim
theorem TopIs.lst{K:Y9}{F H:Hp}{v:V}{ds:List D}(s:Same F H)(h:TopIs K F H v (.lst ds)):∃a xs,v=.ref a/\SqL K H a xs/\IsL K F xs ds:=by
 rcases h with h|⟨a,e,h⟩
 .cases h with
  |lst h t=>exact⟨_,_,rfl,s.seq h,t⟩
 .obtain⟨xs,i,t⟩:=h;exact⟨a,xs,e,.inl (.inl i),t⟩
theorem TopIs.tup{K:Y9}{F H:Hp}{v:V}{ds:List D}(s:Same F H)(h:TopIs K F H v (.tup ds)):∃a xs,v=.ref a/\SqT K H a xs/\IsL K F xs ds:=by
 rcases h with h|⟨a,e,h⟩
 .cases h with
  |tup h t=>exact⟨_,_,rfl,je s h,t⟩
 .exact h.elim
theorem TopIs.dct{K:Y9}{F H:Hp}{v:V}{ds:List (Key×D)}(s:Same F H)(h:TopIs K F H v (.dct ds)):∃a kv,v=.ref a/\H a=iw (.dK kv)/\IsK K F kv ds:=by
 rcases h with h|⟨a,e,h⟩
 .cases h with
  |dct h t=>exact⟨_,_,rfl,s _ _ h,t⟩
 .obtain⟨xs,i,t⟩:=h;exact⟨a,xs,e,i,t⟩
set_option tactic.hygienic true in
theorem Gj{fn:iC->iC->Sem iC}{P:Int->Int->Prop}[∀i j,Decidable (P i j)]{g:Int->Int->V}{d:Int->Int->D}(l:OpR X fn (rI P g))(hg:∀F i j,Is C.K F (g i j) (d i j)):OpD X C .sh fn (Qy λi j=>if P i j then .ok (d i j)else .bad):=by
 intro Z9 s σ H x y v u Q I r c h;obtain⟨F,dx,a,b,t,ty,po⟩:=h;cases dx <;> try exact po.elim
 cases a <;> try exact po.elim
 rename_i i j;have po:PoV C .sh F H (if P i j then .ok (d i j)else .bad) Q:=po;obtain rfl:=t.int;obtain rfl:=ty.int;by_cases q:P i j;·rw[Aa q]at po;exact l Z9 s σ H _ _ v u Q I r c ⟨i,j,rfl,rfl,q,po (g i j) F H b .refl (hg F i j)⟩
 .rw[Ab q]at po;exact po.elim
set_option tactic.hygienic true in
theorem Gk{fn:iC->iC->Sem iC}{g:Int->Int->V}{d:Int->Int->D}(l:OpR X fn (rI0 g))(hg:∀F i j,Is C.K F (g i j) (d i j)):OpD X C .sh fn (Qy λi j=>.ok (d i j)):=by
 intro Z9 s σ H x y v u Q I r c h;obtain⟨F,dx,a,b,t,ty,po⟩:=h;cases dx <;> try exact po.elim
 cases a <;> try exact po.elim
 rename_i i j;obtain rfl:=t.int;obtain rfl:=ty.int;exact l Z9 s σ H _ _ v u Q I r c ⟨i,j,rfl,rfl,po (g i j) F H b .refl (hg F i j)⟩
def qdI:D->D->Out D:=Qy λi j=>.ok (.int (i - j))
theorem QU:OpD X C .sh (i8 .Sub) qdI:=Gk qgx λ_ _ _=>.int _
instance:∀i j,Decidable (CMul i j):=λi j=>inferInstanceAs (Decidable (_\/_))
instance:∀i j,Decidable (qiI i j):=λi j=>inferInstanceAs (Decidable (_/\_))
def Gm:D->D->Out D:=Qy λi j=>if CMul i j then .ok (.int (i * j))else .bad
theorem UX:OpD X C .sh (i8 .Mult) Gm:=Gj qgy λ_ _ _=>.int _
def gf:D->D->Out D:=Qy λi j=>if 0<j then .ok (.int (i % j))else .bad
theorem yD:OpD X C .sh (i8 .Mod) gf:=Gj qgz λ_ _ _=>.int _
noncomputable def wD(x y:Str):Bool:=decide (x.cps.toList<y.cps.toList)
def ltD:D->D->Out D
 |.int i,.int j=>.ok (.bl (decide (i<j)))
 |.str x,.str y=>.ok (.bl (wD x y))
 |_,_=>.bad
theorem Gn:OpD X C .sh (iN .Lt) ltD:=by
 intro Z9 s σ H x y v u Q I d c h;obtain⟨F,dx,a,b,t,ty,po⟩:=h;cases dx <;> try exact po.elim
 .cases a <;> try exact po.elim
  obtain rfl:=t.int;obtain rfl:=ty.int;exact qiJ Z9 s σ H _ _ v u Q I d c ⟨_,_,rfl,rfl,po _ F H b .refl (.bl _)⟩
 .cases a <;> try exact po.elim
  obtain⟨rfl,_⟩:=t.str;obtain⟨rfl,_⟩:=ty.str;exact ZN Z9 s σ H _ _ v u Q I d c ⟨_,_,rfl,rfl,po _ F H b .refl (.bl _)⟩
end
noncomputable def eqS(a b:D):Option Bool:=match a with
 |.int x=>match b with
  |.int y=>iw (x == y)
  |_=>iB
 |.str x=>match b with
  |.str y=>iw (x == y)
  |_=>iB
 |.non=>match b with
  |.non=>iw iD
  |_=>iB
 |_=>iB
def ww(f:D->D->Option Bool):List D->List D->Option Bool
 |x::xs,y::ys=>(f x y).bind λa=>(ww f xs ys).bind λb=>iw (a&&b)
 |_,_=>iw iD
def eqN:Nat->D->D->Option Bool
 |n+1,.tup xs,.tup ys=>(ww (eqN n) xs ys).map λb=>b&&xs.length == ys.length
 |n+1,.lst xs,.lst ys=>if xs.length=ys.length then ww (eqN n) xs ys else iw iE
 |_,a,b=>eqS a b
theorem UY{n:Nat}{a b:D}(h1:∀xs ys,a=.tup xs->b≠.tup ys)(h2:∀xs ys,a=.lst xs->b≠.lst ys):eqN n a b=eqS a b:=by
 cases n with
 |zero=>rfl
 | succ n=>
  cases a with
  |tup xs=>cases b with
   |tup ys=>exact absurd rfl (h1 xs ys rfl)
   |_=>rfl
  |lst xs=>cases b with
   |lst ys=>exact absurd rfl (h2 xs ys rfl)
   |_=>rfl
  |_=>rfl
def itE(f:D->D->Option Bool)(xs ys:List D)(j:Nat):Bool:=((xs[j]?).bind λx=>(ys[j]?).bind λy=>f x y).getD iE
theorem vT{f:D->D->Option Bool}:∀{xs ys:List D}{b:Bool},ww f xs ys=iw b->b=(aK (min xs.length ys.length)).all (itE f xs ys)
 |[],ys,b,h=>by simp[ww]at h ⊢;exact h
 |x::xs,[],b,h=>by simp[ww]at h ⊢;exact h
 | x::xs,y::ys,b,h=>by
  unfold ww at h;cases e:f x y with
  |none=>rw[e]at h;simp at h
  | some a=>
   cases i:ww f xs ys with
   |none=>rw[e,i]at h;simp at h
   |some c=>
    rw[e,i]at h;have h:(a&&c)=b:=by simpa using h
    have d:=vT i;have m:min (x::xs).length (y::ys).length=min xs.length ys.length+1:=by simp only[ap];lia
    rw[m,List.range_succ_eq_map,cL,dD];have e0:itE f (x::xs) (y::ys) 0=a:=by simp[itE,e]
    have e1:(itE f (x::xs) (y::ys)) ∘ Nat.succ=itE f xs ys:=by funext j;simp[itE]
    rw[e0,e1,<-d];exact h.symm
theorem Go{f:D->D->Option Bool}:∀{xs ys:List D}{b:Bool},ww f xs ys=iw b->∀(j:Nat)(x y:D),xs[j]?=iw x->ys[j]?=iw y->f x y=iw (itE f xs ys j)
 |[],ys,b,_,j,x,y,hx,_=>by simp at hx
 |x::xs,[],b,_,j,_,y,_,hy=>by simp at hy
 |x::xs,y::ys,b,h,0,x',y',hx,hy=>by
  simp at hx hy;subst hx hy;unfold ww at h;cases e:f x y with
  |none=>rw[e]at h;simp at h
  |some a=>simp[itE,e]
 | x::xs,y::ys,b,h,j+1,x',y',hx,hy=>by
  unfold ww at h;cases e:f x y with
  |none=>rw[e]at h;simp at h
  |some a=>
   cases i:ww f xs ys with
   |none=>rw[e,i]at h;simp at h
   |some c=>have q:=Go i j x' y' (by simpa using hx) (by simpa using hy);rw[q];simp[itE]
section
variable{X:Cx}{Z9:Pns}{σ:St}{F H:Hp}{s:iF}
noncomputable def smp:D->Bool
 |.non|.int _|.str _|.tup _|.lst _=>iD
 |_=>iE
theorem qeI{n:Nat}{d e:D}{b:Bool}(h:eqN n d e=iw b):smp d=true:=by cases d <;> first|rfl|(cases n <;> exact nomatch (show iB=iw b from h))
theorem qiY{n:Nat}{d e:D}{b:Bool}(h:eqN n d e=iw b):smp e=true:=by cases e <;> first|rfl|(cases n <;> cases d <;> exact nomatch (show iB=iw b from h))
theorem qce(I:Inv X Z9 σ H s)(t:Same F H){a:Z7}{xs ys:List V}(p:SqT X.K F a xs)(q:SqL X.K F a ys):False:=by obtain⟨_,_,b,_⟩:=I.list (t.seq q);obtain⟨_,_,d,_⟩:=I.tuple (je t p);exact absurd rfl (PySem.SeqAt.ne_of_list_tuple b.isList d)
theorem gh{f:D->D->Option Bool}{x y:D}{xs ys:List D}{b:Bool}(h:ww f (x::xs) (y::ys)=iw b):∃a c,f x y=iw a/\ww f xs ys=iw c/\b=(a&&c):=by
 unfold ww at h;cases e:f x y with
 |none=>rw[e]at h;cases h
 |some a=>
  cases i:ww f xs ys with
  |none=>rw[e,i]at h;cases h
  |some c=>rw[e,i]at h;exact⟨a,c,rfl,rfl,(aL.inj h).symm⟩
theorem WD{n:Nat}{xs ys:List D}{b:Bool}(h:eqN (n+1) (.tup xs) (.tup ys)=iw b):∃c,ww (eqN n) xs ys=iw c/\b=(c&&xs.length == ys.length):=by
 have h:((ww (eqN n) xs ys).map λb=>b&&xs.length == ys.length)=iw b:=h;cases e:ww (eqN n) xs ys with
 |none=>rw[e]at h;cases h
 |some c=>rw[e]at h;exact⟨c,rfl,(aL.inj h).symm⟩
theorem Gp(I:Inv X Z9 σ H s)(g:Same F H):∀(n:Nat){v:V}{d e:D}{b:Bool},Is X.K F v d->Is X.K F v e->eqN n d e=iw b->b=true:=by
 have base:∀{n:Nat}{v:V}{d e:D}{b:Bool},Is X.K F v d->Is X.K F v e->eqN n d e=iw b->(∀a xs ds es,Is X.K F (.ref a) (.tup ds)->SqT X.K F a xs->IsL X.K F xs ds->IsL X.K F xs es->eqN n (.tup ds) (.tup es)=iw b->b=iD)->(∀a xs ds es,SqL X.K F a xs->IsL X.K F xs ds->IsL X.K F xs es->eqN n (.lst ds) (.lst es)=iw b->b=iD)->b=true:=by
  intro n v d e b h1 h2 h ht hl;have s1:=qeI h;have s2:=qiY h;cases h1 with
  |non=>cases h2 with
   |non=>cases n <;> exact(aL.inj h).symm
   |raw=>cases s2
  |int x=>cases h2 with
   |int=>cases n <;> exact(aL.inj h).symm.trans (beq_self_eq_true x)
   |raw=>cases s2
  |str _=>cases h2 with
   |str _=>cases n <;> exact(aL.inj h).symm.trans (beq_self_eq_true _)
   |raw=>cases s2
  |tup p1 f=>cases h2 with
   |tup p2 t=>have q:=I.tuple_inj (je g p1) (je g p2);subst q;exact ht _ _ _ _ (.tup p1 f) p1 f t h
   |lst p2 t=>exact(qce I g p1 p2).elim
   |_=>cases s2
  |lst p1 f=>cases h2 with
   |lst p2 t=>have q:=I.list_inj (g.seq p1) (g.seq p2);subst q;exact hl _ _ _ _ p1 f t h
   |tup p2 t=>exact(qce I g p2 p1).elim
   |_=>cases s2
  |_=>cases s1
 intro n
 induction n with
 |zero=>exact λ{_ _ _ _} h1 h2 h=>base h1 h2 h (λ_ _ _ _ _ _ _ _ h=>nomatch (show iB=iw _ from h)) λ_ _ _ _ _ _ _ h=>nomatch (show iB=iw _ from h)
 | succ n k=>
  have l:∀{xs:List V}{ds es:List D}{b:Bool},IsL X.K F xs ds->IsL X.K F xs es->ww (eqN n) ds es=iw b->b=true:=by
   intro xs
   induction xs with
   |nil=>intro ds es b h1 h2 h;cases h1;cases h2;exact(aL.inj h).symm
   | cons x xs i=>
    intro ds es b h1 h2 h;cases h1 with
    |cons o f=>
     cases h2 with
     |cons m t=>obtain⟨a,c,q,j,rfl⟩:=gh h;rw[k o m q,i f t j];rfl
  intro v d e b h1 h2 h;refine base h1 h2 h (λa xs ds es _ _ f t h=>?_) λa xs ds es _ f t h=>?_;·obtain⟨c,q,rfl⟩:=WD h;rw[l f t q,f.length.symm.trans t.length,beq_self_eq_true];rfl
  .have h:(if ds.length=es.length then ww (eqN n) ds es else iw iE)=iw _:=h;rw[Aa (f.length.symm.trans t.length)]at h;exact l f t h
end
open PySem.SeqAt
section
variable{X:Cx}{Z9:Pns}{σ:St}{F H:Hp}{s:iF}
theorem Vals.getE{xs:List V}{us:List iC}(r:Vals xs us){j:Nat}(h:j<us.length):∃x,xs[j]?=iw x/\RelV x us[j]:=by
 have hl:=r.length;have D:j<xs.length:=by lia
 obtain⟨u,e1,e⟩:=Vals.get (i:=j) (x:=xs[j]) r (by simp[D]);refine⟨xs[j],by simp[D],?_⟩;rw[aG h]at e1;cases e1;exact e
theorem uD{A:iT}{n:Nat}{xs ys:List V}{ds es:List D}{us ws:List iC}{b:Bool}(g:∀{v w:V}{d e:D}{u t:iC}{b:Bool},Is X.K F v d->Is X.K F w e->RelV v u->RelV w t->eqN n d e=iw b->EqAt A s u t b)(r1:Vals xs us)(r2:Vals ys ws)(i1:IsL X.K F xs ds)(i2:IsL X.K F ys es)(h:ww (eqN n) ds es=iw b) :
  ∀j (h1:j<us.toArray.size) (h2:j<ws.toArray.size),EqAt A s us.toArray[j] ws.toArray[j] (itE (eqN n) ds es j):=by
 intro j h1 h2;have c:j<us.length:=by simpa using h1
 have a:j<ws.length:=by simpa using h2
 obtain⟨x,ex,f⟩:=Vals.getE r1 c;obtain⟨y,l,r⟩:=Vals.getE r2 a;obtain⟨d,o,i⟩:=i1.get ex;obtain⟨e,m,k⟩:=i2.get l;have q:=Go h j d e o m;simpa using g i k f r q
theorem UZ{A:iT}{n:Nat}{a c:Z7}{xs ys:List V}{ds es:List D}{b:Bool}(I:Inv X Z9 σ H s)(j:∀{v w:V}{d e:D}{u t:iC}{b:Bool},Is X.K F v d->Is X.K F w e->RelV v u->RelV w t->eqN n d e=iw b->EqAt A.in1 s u t b)(p1:SqT X.K H a xs)(p2:SqT X.K H c ys)(i1:IsL X.K F xs ds)(i2:IsL X.K F ys es)(h:eqN (n+1) (.tup ds) (.tup es)=iw b)(m:A.units<lc):RcAt A s (.ref a) (.ref c) b:=by
 obtain⟨us,r1,g,_⟩:=I.tuple p1;obtain⟨ws,r2,f,_⟩:=I.tuple p2;simp only[eqN]at h;cases q:ww (eqN n) ds es with
 |none=>rw[q]at h;simp at h
 |some k=>
  rw[q]at h;have i:us.toArray.size=ds.length:=by rw[aj,<-r1.length,i1.length]
  have l:ws.toArray.size=es.length:=by rw[aj,<-r2.length,i2.length]
  have z:=RcAt.tuples (A:=A) g f m (uD (A:=A.in1) j r1 r2 i1 i2 q);rw[i,l,<-vT q]at z;have e:b=(k&&ds.length == es.length):=by simpa using h.symm
  rw[e];exact z
theorem Yb{A:iT}{n:Nat}{a c:Z7}{xs ys:List V}{ds es:List D}{b:Bool}(I:Inv X Z9 σ H s)(k:∀{v w:V}{d e:D}{u t:iC}{b:Bool},Is X.K F v d->Is X.K F w e->RelV v u->RelV w t->eqN n d e=iw b->EqAt A.in1 s u t b)(p1:SqL X.K H a xs)(p2:SqL X.K H c ys)(i1:IsL X.K F xs ds)(i2:IsL X.K F ys es)(h:eqN (n+1) (.lst ds) (.lst es)=iw b)(j:A.units<lc):RcAt A s (.ref a) (.ref c) b:=by
 obtain⟨us,r1,g,_⟩:=I.list p1;obtain⟨ws,r2,f,_⟩:=I.list p2;have i:us.toArray.size=ds.length:=by rw[aj,<-r1.length,i1.length]
 have l:ws.toArray.size=es.length:=by rw[aj,<-r2.length,i2.length]
 simp only[eqN]at h;by_cases hl:ds.length=es.length;·rw[Aa hl]at h;have z:=RcAt.lists (A:=A) g.isList f.isList (by lia) j (uD (A:=A.in1) k r1 r2 i1 i2 h);have e:=vT h;rw[i]at z;rw[e,show min ds.length es.length=ds.length by lia];exact z
 .rw[Ab hl]at h;cases h;exact RcAt.lists_lengths g.isList f.isList (bne_iff_ne.mpr (by rw[i,l];exact hl)) j
def Kd(s:iF):D->iC->Prop
 |.non,u=>u=.none
 |.int i,u=>∃t,u=.int i t
 |.str x,u=>∃t,u=.str x t
 |_,_=>True
theorem XS(I:Inv X Z9 σ H s)(b:Same F H){v:V}{d:D}{u:iC}(t:TopIs X.K F H v d)(r:RelV v u):Kd s d u:=by
 cases d with
 |non=>obtain rfl:=t.non;exact r
 |int=>obtain rfl:=t.int;exact r
 |str=>obtain⟨rfl,_⟩:=t.str;exact r
 |_=>trivial
theorem qgS{A:iT}{d e:D}{u t:iC}{b:Bool}(a:A.units<lc)(k1:Kd s d u)(k2:Kd s e t)(h:eqS d e=iw b):EqAt A s u t b:=by
 cases d <;> cases e <;> try (cases h;done)
 all_goals
  cases h;first|obtain⟨_,rfl⟩:=k1|cases k1
  first|obtain⟨_,rfl⟩:=k2|cases k2
  with_reducible first|exact EqAt.same _|exact EqAt.int_int _ _ _ _|exact EqAt.str_str _ _ _ _
set_option tactic.hygienic true in
theorem Gq(I:Inv X Z9 σ H s)(f:Same F H):∀(n:Nat){A:iT}{v w:V}{d e:D}{u t:iC}{b:Bool},A.units+n<lc->Is X.K F v d->Is X.K F w e->RelV v u->RelV w t->eqN n d e=iw b->EqAt A s u t b:=by
 intro n
 induction n with
 |zero=>exact λB h1 h2 x r h=>qgS (by lia) (XS I f (.inl h1) x) (XS I f (.inl h2) r) h
 | succ n p=>
  intro A v w d e u t b B h1 h2 x r h;have j:A.in1.units+n<lc:=by show A.units+1+n<lc;lia
  by_cases both:(∃xs ys,d=.tup xs/\e=.tup ys)\/(∃xs ys,d=.lst xs/\e=.lst ys)
  .rcases both with⟨ds,es,rfl,rfl⟩|⟨ds,es,rfl,rfl⟩
   .have i:=h1;have g:=h2;cases h1 with
    | tup p1 l=>
     cases h2 with
     |tup p2 k=>
      rename_i a xs c ys;cases x;cases r;by_cases ne:a=c;·subst ne;rw[Gp I f (n+1) i g h];exact EqAt.same _
      .exact EqAt.of_refs ne (UZ I (λo m z y q=>p j o m z y q) (je f p1) (je f p2) l k h (by lia))
   .have i:=h1;have g:=h2;cases h1 with
    | lst p1 l=>
     cases h2 with
     |lst p2 k=>
      rename_i a xs c ys;cases x;cases r;by_cases ne:a=c;·subst ne;rw[Gp I f (n+1) i g h];exact EqAt.same _
      .exact EqAt.of_refs ne (Yb I (λo m z y q=>p j o m z y q) (f.seq p1) (f.seq p2) l k h (by lia))
  .have e1:eqN (n+1) d e=eqS d e:=UY (λxs ys o m=>both (.inl ⟨xs,ys,o,m⟩)) (λxs ys o m=>both (.inr ⟨xs,ys,o,m⟩));have C:eqN n d e=eqS d e:=UY (λxs ys o m=>both (.inl ⟨xs,ys,o,m⟩)) (λxs ys o m=>both (.inr ⟨xs,ys,o,m⟩));exact p (by lia) h1 h2 x r (by rw[C,<-e1];exact h)
end
variable{X:Cx}{A:iT}{n:Nat}{b:Bool}
section
variable{Z9:Pns}{σ:St}{F H:Hp}{s:iF}
theorem qcf{a c:Z7}{xs ys:List V}{ds es:List D}(I:Inv X Z9 σ H s)(j:∀{v w:V}{d e:D}{u t:iC}{b:Bool},Is X.K F v d->Is X.K F w e->RelV v u->RelV w t->eqN n d e=iw b->EqAt A.in1 s u t b)(p1:SqT X.K H a xs)(p2:SqT X.K H c ys)(i1:IsL X.K F xs ds)(i2:IsL X.K F ys es)(h:eqN (n+1) (.tup ds) (.tup es)=iw b)(m:A.units<lc):RcNeAt A s (.ref a) (.ref c) (!b):=by
 obtain⟨us,r1,g,_⟩:=I.tuple p1;obtain⟨ws,r2,f,_⟩:=I.tuple p2;simp only[eqN]at h;cases q:ww (eqN n) ds es with
 |none=>rw[q]at h;simp at h
 |some k=>
  rw[q]at h;have i:us.toArray.size=ds.length:=by rw[aj,<-r1.length,i1.length]
  have l:ws.toArray.size=es.length:=by rw[aj,<-r2.length,i2.length]
  have z:=RcNeAt.tuples (A:=A) g f m (uD (A:=A.in1) j r1 r2 i1 i2 q);rw[i,l,<-vT q]at z;have e:b=(k&&ds.length == es.length):=by simpa using h.symm
  rw[e];exact z
theorem qcg{a c:Z7}{xs ys:List V}{ds es:List D}(I:Inv X Z9 σ H s)(k:∀{v w:V}{d e:D}{u t:iC}{b:Bool},Is X.K F v d->Is X.K F w e->RelV v u->RelV w t->eqN n d e=iw b->EqAt A.in1 s u t b)(p1:SqL X.K H a xs)(p2:SqL X.K H c ys)(i1:IsL X.K F xs ds)(i2:IsL X.K F ys es)(h:eqN (n+1) (.lst ds) (.lst es)=iw b)(j:A.units<lc):RcNeAt A s (.ref a) (.ref c) (!b):=by
 obtain⟨us,r1,g,_⟩:=I.list p1;obtain⟨ws,r2,f,_⟩:=I.list p2;have i:us.toArray.size=ds.length:=by rw[aj,<-r1.length,i1.length]
 have l:ws.toArray.size=es.length:=by rw[aj,<-r2.length,i2.length]
 simp only[eqN]at h;by_cases hl:ds.length=es.length;·rw[Aa hl]at h;have z:=RcNeAt.lists (A:=A) g.isList f.isList (by lia) j (uD (A:=A.in1) k r1 r2 i1 i2 h);have e:=vT h;rw[i]at z;rw[e,show min ds.length es.length=ds.length by lia];exact z
 .rw[Ab hl]at h;cases h;exact RcNeAt.lists_lengths g.isList f.isList (bne_iff_ne.mpr (by rw[i,l];exact hl)) j
theorem qgT(I:Inv X Z9 σ H s)(f:Same F H){v w:V}{d e:D}{u t:iC}(l:A.units+n+1<lc)(i:TopIs X.K F H v d)(g:TopIs X.K F H w e)(x:RelV v u)(r:RelV w t)(h:eqN (n+1) d e=iw b):RcAt A s u t b:=by
 have k:A.units<lc:=by lia
 have j:∀{v w:V}{d e:D}{u t:iC}{b:Bool},Is X.K F v d->Is X.K F w e->RelV v u->RelV w t->eqN n d e=iw b->EqAt A.in1 s u t b:=λo m z y q=>Gq I f n (by show A.units+1+n<lc;lia) o m z y q;have k1:=XS I f i x;have k2:=XS I f g r;cases d <;> cases e <;> try (cases h;done)
 case tup.tup=>
  obtain⟨a,xs,rfl,p1,i1⟩:=i.tup f;obtain⟨c,ys,rfl,p2,i2⟩:=g.tup f;cases x;cases r;exact UZ I j p1 p2 i1 i2 h k
 case lst.lst=>
  obtain⟨a,xs,rfl,p1,i1⟩:=i.lst f;obtain⟨c,ys,rfl,p2,i2⟩:=g.lst f;cases x;cases r;exact Yb I j p1 p2 i1 i2 h k
 all_goals
  cases h;clear x r i g;first|obtain⟨_,rfl⟩:=k1|cases k1
  first|obtain⟨_,rfl⟩:=k2|cases k2
  with_reducible first|exact RcAt.int_int _ _ _ _|exact RcAt.str_str _ _ _ _|with_unfolding_all exact RcAt.none_none
theorem qgU(I:Inv X Z9 σ H s)(f:Same F H){v w:V}{d e:D}{u t:iC}(l:A.units+n+1<lc)(i:TopIs X.K F H v d)(g:TopIs X.K F H w e)(x:RelV v u)(r:RelV w t)(h:eqN (n+1) d e=iw b):RcNeAt A s u t (!b):=by
 have k:A.units<lc:=by lia
 have j:∀{v w:V}{d e:D}{u t:iC}{b:Bool},Is X.K F v d->Is X.K F w e->RelV v u->RelV w t->eqN n d e=iw b->EqAt A.in1 s u t b:=λo m z y q=>Gq I f n (by show A.units+1+n<lc;lia) o m z y q;have k1:=XS I f i x;have k2:=XS I f g r;cases d <;> cases e <;> try (cases h;done)
 case tup.tup=>
  obtain⟨a,xs,rfl,p1,i1⟩:=i.tup f;obtain⟨c,ys,rfl,p2,i2⟩:=g.tup f;cases x;cases r;exact qcf I j p1 p2 i1 i2 h k
 case lst.lst=>
  obtain⟨a,xs,rfl,p1,i1⟩:=i.lst f;obtain⟨c,ys,rfl,p2,i2⟩:=g.lst f;cases x;cases r;exact qcg I j p1 p2 i1 i2 h k
 all_goals
  cases h;clear x r i g;first|obtain⟨_,rfl⟩:=k1|cases k1
  first|obtain⟨_,rfl⟩:=k2|cases k2
  with_reducible first|exact RcNeAt.int_int _ _ _ _|exact RcNeAt.str_str _ _ _ _|with_unfolding_all exact RcNeAt.none_none
end
def eqD(a b:D):Out D:=match eqN 8 a b with
 |some c=>.ok (.bl c)
 |none=>.bad
def neD(a b:D):Out D:=match eqN 8 a b with
 |some c=>.ok (.bl (!c))
 |none=>.bad
section
variable{C:Ct}
theorem vA(l:C.K=X.K)(f:X.A.units+64<lc):OpD X C .sh (iN .Eq) eqD:=by
 intro Z9 s σ H x y v u Q I d r h;obtain⟨F,dx,a,b,t,ty,po⟩:=h;rw[l]at t ty;unfold eqD at po;cases e:eqN 8 dx a with
 |none=>rw[e]at po;exact po.elim
 |some c=>rw[e]at po;exact qgT I b (n:=7) (by lia) t ty d r e _ _ _ _ ⟨.bl c,H,I,rfl,po _ F H b .refl (.bl _)⟩
theorem Gr(l:C.K=X.K)(f:X.A.units+64<lc):OpD X C .sh (iN .NotEq) neD:=by
 intro Z9 s σ H x y v u Q I d r h;obtain⟨F,dx,a,b,t,ty,po⟩:=h;rw[l]at t ty;unfold neD at po;cases e:eqN 8 dx a with
 |none=>rw[e]at po;exact po.elim
 |some c=>rw[e]at po;exact qgU I b (n:=7) (by lia) t ty d r e _ _ _ _ ⟨.bl _,H,I,rfl,po _ F H b .refl (.bl _)⟩
end
variable{X:Cx}{Z9:Pns}{σ:St}{F H:Hp}{s:iF}{n:Nat}{v:V}{d e:D}{b:Bool}
section
theorem qeJ(I:Inv X Z9 σ H s)(j:Same F H):∀(n:Nat){v:V}{d d' e:D}{b f:Bool},Is X.K F v d->Is X.K F v d'->eqN n d e=iw b->eqN n d' e=iw f->b=f:=by
 intro n
 induction n with
 | zero=>
  intro v d d' e b f h1 h2 e1 i;cases d with
  |non=>cases h1;cases h2 with
   |non=>exact aL.inj (e1.symm.trans i)
   |raw=>exact nomatch (show iB=iw f from i)
  |int=>cases h1;cases h2 with
   |int=>exact aL.inj (e1.symm.trans i)
   |raw=>exact nomatch (show iB=iw f from i)
  |str=>cases h1;cases h2 with
   |str=>exact aL.inj (e1.symm.trans i)
   |raw=>exact nomatch (show iB=iw f from i)
  |_=>exact nomatch (show iB=iw b from e1)
 | succ n r=>
  have l:∀{xs:List V}{ds g es:List D}{b f:Bool},IsL X.K F xs ds->IsL X.K F xs g->ww (eqN n) ds es=iw b->ww (eqN n) g es=iw f->b=f:=by
   intro xs
   induction xs with
   |nil=>intro ds g es b f h1 h2 e1 i;cases h1;cases h2;exact aL.inj (e1.symm.trans i)
   | cons x xs o=>
    intro ds g es b f h1 h2 e1 i;cases h1 with
    | cons w h=>
     cases h2 with
     |cons u t=>
      cases es with
      |nil=>exact aL.inj (e1.symm.trans i)
      |cons e es=>obtain⟨a,c,q,p,rfl⟩:=gh e1;obtain⟨y,S,m,k,rfl⟩:=gh i;rw[r w u q m,o h t p k]
  intro v d d' e b f h1 h2 e1 i;have s1:=qeI e1;have s2:=qeI i;cases h1 with
  | tup p1 h=>
   cases h2 with
   |tup p2 t=>
    have q:=I.tuple_inj (je j p1) (je j p2);subst q;have hl:=h.length.symm.trans t.length;cases e with
    |tup es=>obtain⟨c,q,rfl⟩:=WD e1;obtain⟨S,m,rfl⟩:=WD i;rw[l h t q m,hl]
    |_=>exact nomatch (show iB=iw b from e1)
   |lst p2 t=>exact(qce I j p1 p2).elim
   |_=>cases s2
  | lst p1 h=>
   cases h2 with
   | lst p2 t=>
    have q:=I.list_inj (j.seq p1) (j.seq p2);subst q;have hl:=h.length.symm.trans t.length;cases e with
    |lst es=>
     have e1:(if _=es.length then ww (eqN n) _ es else iw iE)=iw b:=e1;have i:(if _=es.length then ww (eqN n) _ es else iw iE)=iw f:=i;rw[hl]at e1;split at i;·rw[Aa (by assumption)]at e1;exact l h t e1 i
     .rw[Ab (by assumption)]at e1;exact aL.inj (e1.symm.trans i)
    |_=>exact nomatch (show iB=iw b from e1)
   |tup p2 t=>exact(qce I j p2 p1).elim
   |_=>cases s2
  |non=>cases h2 with
   |non=>exact aL.inj (e1.symm.trans i)
   |raw=>cases s2
  |int=>cases h2 with
   |int=>exact aL.inj (e1.symm.trans i)
   |raw=>cases s2
  |str=>cases h2 with
   |str=>exact aL.inj (e1.symm.trans i)
   |raw=>cases s2
  |_=>cases s1
open Classical in
def ZC(X:Cx)(F:Hp)(n:Nat)(e:D)(u:iC):Bool:=decide (∃v d,Is X.K F v d/\RelV v u/\eqN n d e=iw iD)
open Classical in
theorem Gs(I:Inv X Z9 σ H s)(t:Same F H){u:iC}(h:Is X.K F v d)(r:RelV v u)(q:eqN n d e=iw b):ZC X F n e u=b:=by
 unfold ZC;cases b with
 |true=>exact Ad ⟨v,d,h,r,q⟩
 |false=>refine Ac ?_;rintro⟨w,d',h',r',f⟩;have e:=r.inj r';subst e;exact absurd (qeJ I t n h h' q f) (by decide)
def QC(n:Nat)(e:D):List D->Option Bool
 |[]=>iw iE
 |d::ds=>(eqN n d e).bind λa=>(QC n e ds).bind λb=>iw (a||b)
theorem Vc{ds:List D}(h:QC n e (d::ds)=iw b):∃a c,eqN n d e=iw a/\QC n e ds=iw c/\b=(a||c):=by
 unfold QC at h;cases q:eqN n d e with
 |none=>rw[q]at h;simp at h
 |some a=>
  cases f:QC n e ds with
  |none=>rw[q,f]at h;simp at h
  |some c=>rw[q,f]at h;exact⟨a,c,rfl,rfl,(aL.inj h).symm⟩
theorem Gt(I:Inv X Z9 σ H s)(k:Same F H):∀{vs:List V}{ds:List D}{us:List iC}{b:Bool},IsL X.K F vs ds->Vals vs us->QC n e ds=iw b->us.any (ZC X F n e)=b/\∀u∈us,∃v d a,Is X.K F v d/\RelV v u/\eqN n d e=iw a/\ZC X F n e u=a
 |_,_,_,b,.nil,.nil,h=>⟨by simpa using(aL.inj h),λu f=>nomatch f⟩
 |_,_,_,b,.cons i t,.cons r rs,h=>by
  obtain⟨a,c,q,l,rfl⟩:=Vc h;obtain⟨j,g⟩:=Gt I k t rs l;have e1:=Gs I k i r q;refine⟨by rw[dg,e1,j],λu f=>?_⟩;rcases ac.mp f with rfl|f;·exact⟨_,_,a,i,r,q,e1⟩
  .exact g u f
end
def inD(x y:D):Out Bool:=match y with
 |.lst ds=>match QC 7 x ds with
  |some b=>.ok b
  |none=>.bad
 |.tup ds=>match QC 7 x ds with
  |some b=>.ok b
  |none=>.bad
 |_=>.bad
def qgV(x y:D):Out D:=(inD x y).bind λb=>.ok (.bl b)
def XT(x y:D):Out D:=(inD x y).bind λb=>.ok (.bl (!b))
theorem TopIs.is{K:Y9}(s:Same F H)(h:TopIs K F H v d):∃F',Same F F'/\Same F' H/\Is K F' v d:=by
 rcases h with h|⟨a,rfl,o⟩
 .exact⟨F,Same.refl _,s,h⟩
 .obtain⟨u,hu⟩:∃u,H a=iw u:=by
   cases q:H a with
   |none=>exact absurd q o.there
   |some u=>exact⟨u,rfl⟩
  by_cases D:F a=iB
  .have gr:Same F (upd F a u):=λb w e=>by rw[qv (qD e D)];exact e
   refine⟨upd F a u,gr,λb w e=>?_,?_⟩
   .by_cases q:b=a;·subst q;rw[qo]at e;cases e;exact hu
    .rw[qv q]at e;exact s b w e
   .cases d with
    |lst ds=>obtain⟨xs,e,t⟩:=o;rw[hu]at e;cases e;exact .lst (.inl (.inl qo)) (t.mono gr)
    |dct ds=>obtain⟨xs,e,t⟩:=o;rw[hu]at e;cases e;exact .dct qo (t.mono gr)
    |ins C fs=>obtain⟨dx,xs,e,t⟩:=o;rw[hu]at e;cases e;exact .ins qo (t.mono gr)
    |at_ b ds=>obtain⟨f,xs,e,t⟩:=o;rw[hu]at e;cases e;subst f;exact .at_ (.inl (.inl qo)) (t.mono gr)
    |_=>exact o.elim
  .obtain⟨w,hw⟩:∃w,F a=iw w:=by
    cases q:F a with
    |none=>exact absurd q D
    |some w=>exact⟨w,rfl⟩
   have e:=s a w hw;cases d with
   |lst ds=>obtain⟨xs,c,t⟩:=o;rw[c]at e;cases e;exact⟨F,Same.refl _,s,.lst (.inl (.inl hw)) t⟩
   |dct ds=>obtain⟨xs,c,t⟩:=o;rw[c]at e;cases e;exact⟨F,Same.refl _,s,.dct hw t⟩
   |ins C fs=>obtain⟨dx,xs,c,t⟩:=o;rw[c]at e;cases e;exact⟨F,Same.refl _,s,.ins hw t⟩
   |at_ b ds=>obtain⟨f,xs,c,t⟩:=o;rw[c]at e;cases e;subst f;exact⟨F,Same.refl _,s,.at_ (.inl (.inl hw)) t⟩
   |_=>exact o.elim
section
variable{C:Ct}
theorem Vd{A:iT}{y x:V}{dx:D}{ds:List D}{b:Bool}{u v:iC}{a:Z7}{us:List iC}{xs:List V}(I:Inv X Z9 σ H s)(g:A.units+64<lc)(t:Same F H)(ix:Is X.K F x dx)(c:RelV x v)(i:IsL X.K F xs ds)(r:Vals xs us)(h:QC 7 dx ds=iw b):us.any (ZC X F 7 dx)=b/\∀w,w∈us.toArray->EqAt A.in1 s w v (ZC X F 7 dx w):=by
 obtain⟨h1,h2⟩:=Gt I t i r h;refine⟨h1,λw hw=>?_⟩;obtain⟨f,d,k,i1,r1,q,e⟩:=h2 w (by simpa using hw);rw[e];exact Gq I t 7 (by show A.units+1+7<lc;lia) i1 ix r1 c q
theorem qiZ(l:C.K=X.K)(j:X.A.units+64<lc):OpD X C .sh (iN .In) qgV:=by
 intro Z9 s σ H x y v u Q I g f h;obtain⟨F,dx,k,t,d,ty,po⟩:=h;rw[l]at d ty;unfold qgV inD at po;obtain⟨F',g',c,ix⟩:=d.is t;cases k with
 |lst ds=>
  cases e:QC 7 dx ds with
  |none=>simp only[e]at po;exact po.elim
  |some b=>simp only[e]at po;obtain⟨a,xs,rfl,p,i⟩:=ty.lst t;cases f;obtain⟨us,r,pl,_⟩:=I.list p;obtain⟨h1,h2⟩:=Vd (A:=X.A) (y:=.non) (a:=a) (u:=.none) I j c ix g (i.mono g') r e;refine in_listAt (ZC X F' 7 dx) pl.isList h2 ⟨.bl b,H,I,by show _=_;rw[<-h1];simp,po _ F H t .refl (.bl _)⟩
 |tup ds=>
  cases e:QC 7 dx ds with
  |none=>simp only[e]at po;exact po.elim
  |some b=>simp only[e]at po;obtain⟨a,xs,rfl,p,i⟩:=ty.tup t;cases f;obtain⟨us,r,pl,_⟩:=I.tuple p;obtain⟨h1,h2⟩:=Vd (A:=X.A) (y:=.non) (a:=a) (u:=.none) I j c ix g (i.mono g') r e;refine in_tupleAt (ZC X F' 7 dx) pl h2 ⟨.bl b,H,I,by show _=_;rw[<-h1];simp,po _ F H t .refl (.bl _)⟩
 |_=>exact po.elim
theorem qch(l:C.K=X.K)(j:X.A.units+64<lc):OpD X C .sh (iN .NotIn) XT:=by
 intro Z9 s σ H x y v u Q I g f h;obtain⟨F,dx,k,t,d,ty,po⟩:=h;rw[l]at d ty;unfold XT inD at po;obtain⟨F',g',c,ix⟩:=d.is t;cases k with
 |lst ds=>
  cases e:QC 7 dx ds with
  |none=>simp only[e]at po;exact po.elim
  |some b=>simp only[e]at po;obtain⟨a,xs,rfl,p,i⟩:=ty.lst t;cases f;obtain⟨us,r,pl,_⟩:=I.list p;obtain⟨h1,h2⟩:=Vd (A:=X.A) (y:=.non) (a:=a) (u:=.none) I j c ix g (i.mono g') r e;refine notIn_listAt (ZC X F' 7 dx) pl.isList h2 ⟨.bl (!b),H,I,by show _=_;rw[<-h1];simp,po _ F H t .refl (.bl _)⟩
 |tup ds=>
  cases e:QC 7 dx ds with
  |none=>simp only[e]at po;exact po.elim
  |some b=>simp only[e]at po;obtain⟨a,xs,rfl,p,i⟩:=ty.tup t;cases f;obtain⟨us,r,pl,_⟩:=I.tuple p;obtain⟨h1,h2⟩:=Vd (A:=X.A) (y:=.non) (a:=a) (u:=.none) I j c ix g (i.mono g') r e;refine notIn_tupleAt (ZC X F' 7 dx) pl h2 ⟨.bl (!b),H,I,by show _=_;rw[<-h1];simp,po _ F H t .refl (.bl _)⟩
 |_=>exact po.elim
end
end L2.D2
namespace L2.D2
open PySem PySem.Spec PyProof.Rows
def PoT(C:Ct)(own:List Nat)(σ:St)(F H:Hp)(r:Out (Bool×Sl))(Q:Bool->Hp->Prop):Prop:=match r with
 |.ok (b,ρ')=>∀F' H',Rep C.K own F' H' σ ρ'->Chg (OA own σ) F H F' H'->Q b H'
 |.exc c ρ'=>∀F' H',Same F' H'->Gi C.K C.ox F' H' σ ρ'->Chg (OA own σ) F H F' H'->C.E (C.cv c) iB H'
 |.bad=>False
abbrev yl:=Sl->Out (Bool×Sl)
def tT(C:Ct)(own:List Nat)(f:yl):TT:=λσ H Q=>∃F ρ,Rep C.K own F H σ ρ/\PoT C own σ F H (f ρ) Q
variable{C:Ct}{own:List Nat}{σ:St}{F H F1 H1:Hp}{Q:Bool->Hp->Prop}
theorem PoT.shift{r:Out (Bool×Sl)}(h:PoT C own σ F H r Q)(c:Chg (OA own σ) F H F1 H1):PoT C own σ F1 H1 r Q:=by
 cases r with
 |ok p=>exact λF' H' a S=>h F' H' a (c.trans' S)
 |exc x=>exact λF' H' s io S=>h F' H' s io (c.trans' S)
 |bad=>exact h.elim
theorem PoT.bindV{ma:Mo}{o:Va}{k:D×Sl->Out (Bool×Sl)}{R:VK}(hp:PoT C own σ F H (o.bind k) Q)(h:∀v F1 H1 d ρ1,Rep C.K own F1 H1 σ ρ1->Chg (OA own σ) F H F1 H1->MoIs C.K ma H F1 H1 v d->PoT C own σ F1 H1 (k (d,ρ1)) Q->R v H1):Po C own ma σ F H o R:=by
 cases o with
 |ok p=>obtain⟨d,ρ1⟩:=p;exact λv F1 H1 a c mo=>h v F1 H1 d ρ1 a c mo (PoT.shift (show PoT C own σ F H (k (d,ρ1)) Q from hp) c)
 |exc x=>exact hp
 |bad=>exact hp.elim
variable{o:Out (Bool×Sl)}
theorem PoT.bindT{k:Bool×Sl->Out (Bool×Sl)}{R:Bool->Hp->Prop}(hp:PoT C own σ F H (o.bind k) Q)(h:∀F1 H1 b ρ1,Rep C.K own F1 H1 σ ρ1->Chg (OA own σ) F H F1 H1->PoT C own σ F1 H1 (k (b,ρ1)) Q->R b H1):PoT C own σ F H o R:=by
 cases o with
 |ok p=>obtain⟨d,ρ1⟩:=p;exact λF1 H1 a c=>h F1 H1 d ρ1 a c (PoT.shift (show PoT C own σ F H (k (d,ρ1)) Q from hp) c)
 |exc x=>exact hp
 |bad=>exact hp.elim
variable{m:Mo}
theorem Po.bindT{k:Bool×Sl->Va}{Q:VK}{R:Bool->Hp->Prop}(hp:Po C own m σ F H (o.bind k) Q)(h:∀F1 H1 b ρ1,Rep C.K own F1 H1 σ ρ1->Chg (OA own σ) F H F1 H1->Po C own m σ F1 H1 (k (b,ρ1)) Q->R b H1):PoT C own σ F H o R:=by
 cases o with
 |ok p=>obtain⟨d,ρ1⟩:=p;exact λF1 H1 a c=>h F1 H1 d ρ1 a c (Po.shift (show Po C own m σ F H (k (d,ρ1)) Q from hp) c)
 |exc x=>exact hp
 |bad=>exact hp.elim
noncomputable def ZD:D->Out Bool
 |.non=>.ok iE
 |.bl b=>.ok b
 |.int i=>.ok (i != 0)
 |.str x=>.ok ((x.length:Int) != 0)
 |.tup xs=>.ok (!xs.isEmpty)
 |.lst xs=>.ok (!xs.isEmpty)
 |.dct xs=>.ok (!xs.isEmpty)
 |.raw _=>.bad
 |.xcp _=>.bad
 |.ins _ _=>.bad
 |.at_ _ _=>.bad
def vU(f:qV):yl:=λρ=>(f ρ).bind λp=>(ZD p.1).bind λb=>.ok (b,p.2)
variable{K:Y9}{vs:List V}{ds:List D}
theorem IsL.isEmpty(h:IsL K F vs ds):vs.isEmpty=ds.isEmpty:=by cases h <;> rfl
theorem IsK.isEmpty{vs:List (Key×V)}{ds:List (Key×D)}(h:IsK K F vs ds):vs.isEmpty=ds.isEmpty:=by cases h <;> rfl
variable{v:V}{d:D}
theorem qeK{b:Bool}(s:Same F H)(h:TopIs K F H v d)(e:ZD d=.ok b):qiM K v H b:=by
 cases d with
 |non=>obtain rfl:=h.non;cases e;rfl
 |bl x=>obtain rfl:=h.bl;cases e;rfl
 |int x=>obtain rfl:=h.int;cases e;rfl
 |str x=>obtain⟨rfl,q⟩:=h.str;cases e;exact⟨q,rfl⟩
 |tup x=>obtain⟨a,xs,rfl,p,t⟩:=h.tup s;cases e;exact .inr (.inl ⟨xs,p,by rw[t.isEmpty]⟩)
 |lst x=>obtain⟨a,xs,rfl,p,t⟩:=h.lst s;cases e;exact .inl ⟨xs,p,by rw[t.isEmpty]⟩
 |dct x=>obtain⟨a,xs,rfl,p,t⟩:=h.dct s;cases e;exact .inr (.inr ⟨xs,p,by rw[t.isEmpty]⟩)
 |raw x=>cases e
 |xcp x=>cases e
 |ins x y=>cases e
 |at_ x y=>cases e
def qO(f:qV):yl:=λρ=>(f ρ).bind λp=>match p.1 with
 |.bl b=>.ok (b,p.2)
 |_=>.bad
variable{X:Cx}{c e t:Z4}{ma mb:Mo}{pos:Pos}{op op':CmpOp}{ρ:Sl}{g':D->D->Out D}
section
variable{a b:Z4}{f fa fb fc:qV}{ft fu:yl}{mc:Mo}{rest:List Z4}
theorem qeL(l:C.K=X.K)(h:PE X e (tE C own m f))(g:∀whole,isTrue e X.env whole=(do let v <-whole;l6 e.pos;holding [v] (truthy v))):PT X e (tT C own (vU f)):=by
 refine qcc (qbZ h g) λσ H Q ⟨F,ρ,r,h⟩=>⟨F,ρ,r,PoT.bindV h λv F1 H1 d ρ1 a i c h1=>?_⟩
 cases q:ZD d with
 |ok k=>have h1:PoT C own σ F1 H1 ((ZD d).bind λb=>.ok (b,ρ1)) Q:=h1;rw[q]at h1;exact⟨k,by rw[<-l];exact qeK a.sub c.top q,h1 F1 H1 a .refl⟩
 |exc x=>have h1:PoT C own σ F1 H1 ((ZD d).bind λb=>.ok (b,ρ1)) Q:=h1;cases d <;> cases q
 |bad=>have h1:PoT C own σ F1 H1 ((ZD d).bind λb=>.ok (b,ρ1)) Q:=h1;rw[q]at h1;exact h1.elim
theorem Gu(h:tT C own (qO f) σ H Q):tE C own .sh f σ H λx H'=>∃k,x=.bl k/\Q k H':=by
 obtain⟨F,ρ,r,h⟩:=h;refine⟨F,ρ,r,PoT.bindV h λv F1 H1 d ρ1 a b c h1=>?_⟩;cases d with
 |bl k=>have c:Is C.K F1 v (.bl k):=c;cases c;exact⟨k,rfl,h1 F1 H1 a .refl⟩
 |_=>exact h1.elim
theorem qK{g:D->D->Out D}(l:OpD X C .sh (iN op) g)(c:PE X a (tE C own ma fa))(hb:PE X b (tE C own mb fb))(f:ma≠.any:=by decide)(k:lG op b=false:=by first|exact qdF _|with_unfolding_all rfl):PT X (.Compare a [op] [b] pos) (tT C own (qO (d2 g fa fb))):=by
 refine qcc (qeo l c hb k) λσ H Q h=>?_;exact Vb f (Gu h)
def yE(ft:yl):yl:=λρ=>(ft ρ).bind λp=>.ok (!p.1,p.2)
theorem jg(h:PT X a (tT C own ft)):PT X (.UnaryOp .Not a pos) (tT C own (yE ft)):=by refine qcc (qgp h) λσ H Q ⟨F,ρ,p,h⟩=>⟨F,ρ,p,PoT.bindT h λF1 H1 b ρ1 r k h1=>h1 F1 H1 r .refl⟩
theorem qgW{e:Z4}{t t':TT}(h:PW X e t)(i:∀σ H Q,t' σ H Q->t σ H Q):PW X e t':=⟨λw Z9 s σ H Q I hw=>h w Z9 s σ H Q I (i σ H Q hw)⟩
def qgX(ft fu:yl):yl:=λρ=>(ft ρ).bind λp=>if p.1=iD then fu p.2 else .ok (iE,p.2)
def dOr(ft fu:yl):yl:=λρ=>(ft ρ).bind λp=>if p.1=iD then .ok (iD,p.2)else fu p.2
theorem vL{op}(h:PT X a (tT C own ft)):PW X (.BoolOp op [a] pos) (tT C own ft):=by
 cases op;·exact qeh h
 .exact qgn h
theorem Gv(f:PT X a (tT C own ft))(hb:PW X (.BoolOp .And (b::rest) pos) (tT C own fu)):PW X (.BoolOp .And (a::b::rest) pos) (tT C own (qgX ft fu)):=by
 refine qgW (qgo f hb) λσ H Q ⟨F,ρ,p,h⟩=>⟨F,ρ,p,PoT.bindT h λF1 H1 k ρ1 r c h1=>?_⟩
 cases k with
 |true=>exact⟨F1,ρ1,r,h1⟩
 |false=>exact h1 F1 H1 r .refl
theorem xN(f:PT X a (tT C own ft))(hb:PW X (.BoolOp .Or (b::rest) pos) (tT C own fu)):PW X (.BoolOp .Or (a::b::rest) pos) (tT C own (dOr ft fu)):=by
 refine qgW (qiv f hb) λσ H Q ⟨F,ρ,p,h⟩=>⟨F,ρ,p,PoT.bindT h λF1 H1 k ρ1 r c h1=>?_⟩
 cases k with
 |true=>exact h1 F1 H1 r .refl
 |false=>exact⟨F1,ρ1,r,h1⟩
def WE(fa fb:qV):qV:=λρ=>(fa ρ).bind λp=>match p.1 with
 |.bl iD=>fb p.2
 |.bl iE=>.ok (.bl iE,p.2)
 |_=>.bad
def qia(fa fb:qV):qV:=λρ=>(fa ρ).bind λp=>match p.1 with
 |.bl iD=>.ok (.bl iD,p.2)
 |.bl iE=>fb p.2
 |_=>.bad
theorem Yc{op}(h:PE X a (tE C own m f)):PE X (.BoolOp op [a] pos) (tE C own m f):=qgq h
theorem Yd(f:PE X a (tE C own .sh fa))(hb:PE X (.BoolOp .And (b::rest) pos) (tE C own .sh fb)):PE X (.BoolOp .And (a::b::rest) pos) (tE C own .sh (WE fa fb)):=by
 refine jy (qgr f hb) λσ H Q ⟨F,ρ,p,h⟩=>⟨F,ρ,p,Po.bind h λv F1 H1 d ρ1 r e c h1=>?_⟩
 cases d with
 |bl k=>
  have c:Is C.K F1 v (.bl k):=c;cases c;refine⟨k,rfl,?_⟩;cases k with
  |true=>exact⟨F1,ρ1,r,h1⟩
  |false=>exact h1 _ F1 H1 r .refl (.bl _)
 |_=>exact h1.elim
theorem qi0(f:PE X a (tE C own .sh fa))(hb:PE X (.BoolOp .Or (b::rest) pos) (tE C own .sh fb)):PE X (.BoolOp .Or (a::b::rest) pos) (tE C own .sh (qia fa fb)):=by
 refine jy (qix f hb) λσ H Q ⟨F,ρ,p,h⟩=>⟨F,ρ,p,Po.bind h λv F1 H1 d ρ1 r e c h1=>?_⟩
 cases d with
 |bl k=>
  have c:Is C.K F1 v (.bl k):=c;cases c;refine⟨k,rfl,?_⟩;cases k with
  |true=>exact h1 _ F1 H1 r .refl (.bl _)
  |false=>exact⟨F1,ρ1,r,h1⟩
 |_=>exact h1.elim
def dIf(ft:yl)(fa fb:qV):qV:=λρ=>(ft ρ).bind λp=>if p.1=iD then fa p.2 else fb p.2
theorem qci(ht:PT X t (tT C own ft))(f:PE X a (tE C own ma fa))(hb:PE X b (tE C own mb fb))(h1:ma≠.any:=by decide)(h2:mb≠.any:=by decide):PE X (.IfExp t a b pos) (tE C own .sh (dIf ft fa fb)):=by
 refine jy (UR ht (wC f h1) (wC hb h2)) λσ H Q ⟨F,ρ,p,h⟩=>⟨F,ρ,p,Po.bindT h λF1 H1 k ρ1 r c h1=>?_⟩
 cases k with
 |true=>exact⟨F1,ρ1,r,h1⟩
 |false=>exact⟨F1,ρ1,r,h1⟩
def yF(g g':D->D->Out D)(fa fb fc:qV):qV:=λρ=>(fa ρ).bind λp=>(fb p.2).bind λq=>(g p.1 q.1).plain.bind λz=>match z with
 |.bl iD=>(fc q.2).bind λr=>(g' q.1 r.1).plain.bind λd=>.ok (d,r.2)
 |.bl iE=>.ok (.bl iE,q.2)
 |_=>.bad
theorem PoV.bind{o:Out D}{k:D->Va}{Q R:VK}(a:Rep C.K own F H σ ρ)(h:Po C own m σ F H (o.plain.bind k) Q)(b:∀v F1 H1 d,Rep C.K own F1 H1 σ ρ->Chg No F H F1 H1->MoIs C.K ma H F1 H1 v d->Po C own m σ F1 H1 (k d) Q->R v H1):PoV C ma F H o R:=by
 cases o with
 |ok d=>exact λv F1 H1 s c mo=>b v F1 H1 d (a.grow c s) c mo (Po.shift (show Po C own m σ F H (k d) Q from h) c.ofNo)
 |exc c=>exact h.elim
 |bad=>exact h.elim
theorem Ye{g:D->D->Out D}{Q:VK}(s:ma≠.any)(l:mb≠.any)(h:tE C own .sh (yF g g' fa fb fc) σ H Q):ZO (λx y H Q=>∃F dx n,Same F H/\TopIs C.K F H x dx/\TopIs C.K F H y n/\PoV C .sh F H (g dx n) Q) (λx y H Q=>∃F dx n,Same F H/\TopIs C.K F H x dx/\TopIs C.K F H y n/\PoV C .sh F H (g' dx n) Q)
   (tE C own ma fa) (tE C own mb fb) (tE C own mc fc) σ H Q:=by
 obtain⟨F,ρ,u,h⟩:=h;refine⟨F,ρ,u,Po.bind h λv F1 H1 d ρ1 i N q h1=>⟨F1,ρ1,i,Po.bind h1 λw M H2 e ρ2 f c2 j h2=>?_⟩⟩;have oa:∀x,OA own σ x->H x≠none:=λx z=>(u.OA_there z).1;have o:∀x,OA own σ x->H1 x≠none:=λx z=>(i.OA_there z).1;refine⟨M,d,e,f.sub,(q.grow s c2 oa).top,j.top,PoV.bind (m:=.sh) f h2 λz F3 J E c I a t=>?_⟩;cases E with
 |bl k=>
  have a:Is C.K F3 z (.bl k):=a;cases a;refine⟨k,rfl,?_⟩;cases k with
  |true=>refine⟨F3,ρ2,c,Po.bind t λR L O r A b G p B=>?_⟩;exact⟨L,e,r,b.sub,((j.grow l (I.ofNo) o).grow l G o).top,p.top,PoV.of b B⟩
  |false=>exact t _ F3 J c .refl (.bl _)
 |_=>exact t.elim
theorem Yg{g:D->D->Out D}(o:OpD X C .sh (iN op) g)(d:OpD X C .sh (iN op') g')(i:PE X a (tE C own ma fa))(hb:PE X b (tE C own mb fb))(e:PE X c (tE C own mc fc))(f:ma≠.any:=by decide)(l:mb≠.any:=by decide)(m:lastMarks [op,op'] [b,c]=false:=by with_unfolding_all rfl):PE X (.Compare a [op,op'] [b,c] pos) (tE C own .sh (yF g g' fa fb fc)):=jy (qbX o d i hb e m) λ_ _ _ h=>Ye f l h
theorem Ve{g:D->D->Out D}(o:OpD X C .sh (iN op) g)(d:OpD X C .sh (iN op') g')(i:PE X a (tE C own ma fa))(hb:PE X b (tE C own mb fb))(e:PE X c (tE C own mc fc))(f:ma≠.any:=by decide)(l:mb≠.any:=by decide)(m:lastMarks [op,op'] [b,c]=false:=by with_unfolding_all rfl):PT X (.Compare a [op,op'] [b,c] pos) (tT C own (qO (yF g g' fa fb fc))):=qcc (qbY o d i hb e m) λ_ _ _ h=>Ye f l (Gu h)
theorem Gw:OpR X (iN .LtE) (λx y H Q=>∃i j,x=.str i/\y=.str j/\Q (.bl (!wD j i)) H):=by intro Z9 s σ H x y v u Q I d c h;obtain⟨i,j,rfl,rfl,q⟩:=h;obtain⟨t,rfl⟩:=d;obtain⟨t',rfl⟩:=c;exact PySem.P.le_str (ZM I q (by simp[wD]))
def leD:D->D->Out D
 |.int i,.int j=>.ok (.bl (decide (i<=j)))
 |.str x,.str y=>.ok (.bl (!wD y x))
 |_,_=>.bad
theorem Vf:OpD X C .sh (iN .LtE) leD:=by
 intro Z9 s σ H x y v u Q I d c h;obtain⟨F,dx,a,b,t,ty,po⟩:=h;cases dx <;> try exact po.elim
 .cases a <;> try exact po.elim
  obtain rfl:=t.int;obtain rfl:=ty.int;exact qiK Z9 s σ H _ _ v u Q I d c ⟨_,_,rfl,rfl,po _ F H b .refl (.bl _)⟩
 .cases a <;> try exact po.elim
  obtain⟨rfl,_⟩:=t.str;obtain⟨rfl,_⟩:=ty.str;exact Gw Z9 s σ H _ _ v u Q I d c ⟨_,_,rfl,rfl,po _ F H b .refl (.bl _)⟩
def gtD:D->D->Out D:=Qy λi j=>.ok (.bl (decide (j<i)))
def geD:D->D->Out D:=Qy λi j=>.ok (.bl (decide (j<=i)))
theorem qeM:OpD X C .sh (iN .GtE) geD:=Gk qiL λ_ _ _=>.bl _
noncomputable def qi1:D->D->Out D
 |.non,.non=>.ok (.bl iD)
 |.raw _,.non=>.bad
 |_,.non=>.ok (.bl iE)
 |_,_=>.bad
noncomputable def qcj:D->D->Out D
 |.non,.non=>.ok (.bl iE)
 |.raw _,.non=>.bad
 |_,.non=>.ok (.bl iD)
 |_,_=>.bad
theorem TopIs.notN(h:TopIs K F H v d)(h1:d≠.non)(h2:∀u,d≠.raw u):v≠.non:=by
 rintro rfl;rcases h with h|⟨a,e,_⟩
 .cases h;·exact h1 rfl
  .exact h2 _ rfl
 .cases e
theorem qeN:OpD X C .sh (iN .IsNot) qcj:=by
 intro Z9 s σ H x y v u Q I r c h;obtain⟨F,dx,d,b,t,ty,po⟩:=h;have k:d=.non:=by cases d <;> first|rfl|(cases dx <;> exact po.elim)
 subst k;obtain rfl:=ty.non;refine qem Z9 s σ H x .non v u Q I r c ⟨rfl,?_⟩;cases dx with
 |non=>obtain rfl:=t.non;exact po _ F H b .refl (.bl _)
 |raw _=>exact po.elim
 |_=>rw[Ac (t.notN (by intro z;cases z) (by intro _ z;cases z))];exact po _ F H b .refl (.bl _)
end
inductive Fl where
 |nx|rt (d:D)|bk|ct
structure Nx(C:Ct)(own own':List Nat)(σ:St)(F H:Hp)(ρ':Sl)(σ':St)(F' H':Hp):Prop where
 rep:Rep C.K own' F' H' σ' ρ'
 chg:Chg (OA own σ) F H F' H'
 oa:∀b,OA own' σ' b->OA own σ b\/H b=iB
 io:∀i∈C.io,σ'[i]?=σ[i]?
def PoS(C:Ct)(own own':List Nat)(σ:St)(F H:Hp)(r:Out (Fl×Sl))(D:Ends):Prop:=match r with
 |.ok (.nx,ρ')=>∀σ' F' H',Nx C own own' σ F H ρ' σ' F' H'->D.nx σ' H'
 |.ok (.rt d,ρ')=>∀v σ' F' H',Same F' H'->Gi C.K C.io F' H' σ' ρ'->Chg (OA own σ) F H F' H'->(∀i∈C.io,σ'[i]?=σ[i]?)->MoIs C.K C.mr H F' H' v d->D.rt v H'
 |.ok (.bk,ρ')=>∀σ' F' H',Nx C own C.ol σ F H ρ' σ' F' H'->D.bk σ' H'
 |.ok (.ct,ρ')=>∀σ' F' H',Nx C own C.ol σ F H ρ' σ' F' H'->D.ct σ' H'
 |.exc c ρ'=>∀F' H',Same F' H'->Gi C.K C.ox F' H' σ ρ'->Chg (OA own σ) F H F' H'->C.E (C.cv c) iB H'
 |.bad=>False
abbrev qS:=Sl->Out (Fl×Sl)
def tSt(C:Ct)(own own':List Nat)(f:qS):TS:=λD σ H=>∃F ρ,Rep C.K own F H σ ρ/\PoS C own own' σ F H (f ρ) D
variable{o1 o2 o3:List Nat}{σ1:St}{ρ1:Sl}
theorem Nx.then{c:St}{d H2:Hp}{ρ2:Sl}(a:Nx C o1 o2 σ F H ρ1 σ1 F1 H1)(b:Nx C o2 o3 σ1 F1 H1 ρ2 c d H2):Nx C o1 o3 σ F H ρ2 c d H2 where
 rep:=b.rep
 chg:=a.chg.trans b.chg a.oa
 oa:=λx h=>by
  rcases b.oa x h with z|z;·exact a.oa x z
  .refine .inr ?_;cases q:H x with
   |none=>rfl
   |some o=>exact absurd z (a.chg.stay x (by rw[q];simp))
 io:=λi hi=>(b.io i hi).trans (a.io i hi)
theorem PoS.shift{r:Out (Fl×Sl)}{D:Ends}(h:PoS C o1 o3 σ F H r D)(a:Nx C o1 o2 σ F H ρ1 σ1 F1 H1):PoS C o2 o3 σ1 F1 H1 r D:=by
 cases r with
 |ok p=>
  obtain⟨fl,ρ'⟩:=p;cases fl with
  |nx=>exact λσ' F' H' n=>h σ' F' H' (a.then n)
  |rt d=>exact λv σ' F' H' s io c e mo=>h v σ' F' H' s io (a.chg.trans c a.oa) (λi hi=>(e i hi).trans (a.io i hi)) (MoIs.back (Ha:=H1) a.chg mo)
  |bk=>exact λσ' F' H' n=>h σ' F' H' (a.then n)
  |ct=>exact λσ' F' H' n=>h σ' F' H' (a.then n)
 |exc c=>exact λF' H' s io S=>h F' H' s (λi hi=>by obtain⟨d,b,e1,g,f⟩:=io i hi;exact⟨d,b,e1,by rw[<-a.io i (C.oxs i hi)];exact g,f⟩) (a.chg.trans S a.oa)
 |bad=>exact h.elim
theorem Nx.ofE(r:Rep C.K own F1 H1 σ ρ1)(c:Chg (OA own σ) F H F1 H1):Nx C own own σ F H ρ1 σ F1 H1:=⟨r,c,λ_ h=>.inl h,λ_ _=>rfl⟩
variable{own':List Nat}
theorem PoS.bindE{m:Mo}{o:Va}{k:D×Sl->Out (Fl×Sl)}{D:Ends}{R:VK}(hp:PoS C own own' σ F H (o.bind k) D)(h:∀v F1 H1 d ρ1,Rep C.K own F1 H1 σ ρ1->Chg (OA own σ) F H F1 H1->MoIs C.K m H F1 H1 v d->PoS C own own' σ F1 H1 (k (d,ρ1)) D->R v H1):Po C own m σ F H o R:=by
 cases o with
 |ok p=>obtain⟨d,ρ1⟩:=p;exact λv F1 H1 a c mo=>h v F1 H1 d ρ1 a c mo (PoS.shift (show PoS C own own' σ F H (k (d,ρ1)) D from hp) (.ofE a c))
 |exc x=>exact hp
 |bad=>exact hp.elim
theorem PoS.bindT{k:Bool×Sl->Out (Fl×Sl)}{D:Ends}{R:Bool->Hp->Prop}(hp:PoS C own own' σ F H (o.bind k) D)(h:∀F1 H1 b ρ1,Rep C.K own F1 H1 σ ρ1->Chg (OA own σ) F H F1 H1->PoS C own own' σ F1 H1 (k (b,ρ1)) D->R b H1):PoT C own σ F H o R:=by
 cases o with
 |ok p=>obtain⟨d,ρ1⟩:=p;exact λF1 H1 a c=>h F1 H1 d ρ1 a c (PoS.shift (show PoS C own own' σ F H (k (d,ρ1)) D from hp) (.ofE a c))
 |exc x=>exact hp
 |bad=>exact hp.elim
variable{b a:Z7}{t':TS}{st:Z3}{i:Nat}{x:Str}{pos':Pos}
section
variable{sts rest:List Z3}{f g:qS}{fe:qV}{ft:yl}
theorem xl{t:TS}(h:PS X st t)(i:∀D σ H,t' D σ H->t D σ H):PS X st t':=⟨λZ9 s σ H D I hw=>h Z9 s σ H D I (i D σ H hw)⟩
theorem QV{t:TS}(h:PSs X sts t)(i:∀D σ H,t' D σ H->t D σ H):PSs X sts t':=⟨λZ9 s σ H D I hw=>h Z9 s σ H D I (i D σ H hw)⟩
noncomputable def qW:qS:=λρ=>.ok (.nx,ρ)
def qG(f g:qS):qS:=λρ=>(f ρ).bind λp=>match p.1 with
 |.nx=>g p.2
 |fl=>.ok (fl,p.2)
theorem Nx.refl(r:Rep C.K own F H σ ρ):Nx C own own σ F H ρ σ F H:=.ofE r .refl
theorem qF:PSs X [] (tSt C own own qW):=QV qei λD σ H ⟨F,ρ,a,h⟩=>h σ F H (.refl a)
theorem qgY{D:Ends}(h:tSt C o1 o3 (qG f g) D σ H):tSt C o1 o2 f { D with nx:=tSt C o2 o3 g D } σ H:=by
 obtain⟨F,ρ,a,h⟩:=h;refine⟨F,ρ,a,?_⟩;unfold qG at h;cases q:f ρ with
 |ok p=>
  rw[q]at h;obtain⟨fl,ρ1⟩:=p;cases fl with
  |nx=>exact λσ' F' H' n=>⟨F',ρ1,n.rep,PoS.shift (show PoS C o1 o3 σ F H (g ρ1) D from h) n⟩
  |rt d=>exact h
  |bk=>exact h
  |ct=>exact h
 |exc c=>rw[q]at h;exact h
 |bad=>rw[q]at h;exact h.elim
theorem qg(h1:PS X st (tSt C o1 o2 f))(h2:PSs X rest (tSt C o2 o3 g)):PSs X (st::rest) (tSt C o1 o3 (qG f g)):=QV (zO h1 h2) λD σ H h=>qgY h
theorem qm(h1:PS X st (tSt C o1 o2 f)):PSs X [st] (tSt C o1 o2 f):=Wu h1
theorem Rep.weak{K:Y9}{F H:Hp}{σ:St}{ρ:Sl}:∀(drop:List Nat){own own':List Nat},(∀i,i∈own'↔i∈own/\i∉drop)->Rep K own F H σ ρ->∃F',Rep K own' F' H σ ρ/\Chg (OA own σ) F H F' H
 |[],own,own',hs,rp=>⟨F,⟨rp.sub,rp.len,λi d hi=>rp.val i d λz=>hi ((hs i).mpr ⟨z,by simp⟩),λi d hi=>rp.ow i d ((hs i).mp hi).1,λi hi=>rp.opn i ((hs i).mp hi).1,λi j a hi D=>rp.dis i j a ((hs i).mp hi).1 ((hs j).mp D).1⟩,.refl⟩
 | k::r,own,own',hs,rp=>by
  obtain⟨F1,c,n⟩:=Rep.weak r (own:=own) (own':=own.filter λi=>decide (i∉r)) (λi=>by simp) rp;by_cases f:k∈own/\k∉r
  .obtain⟨d,hd⟩:=c.opn k (by simp[f.1,f.2]);obtain⟨a,h1,h2,g⟩:=c.ow k d (by simp[f.1,f.2]) hd;obtain⟨u,hu⟩:∃u,H a=iw u:=by
    cases q:H a with
    |none=>exact absurd q g.there
    |some u=>exact⟨u,rfl⟩
   have gr:Same F1 (upd F1 a u):=λb w e=>by rw[qv (qD e h2)];exact e
   refine⟨upd F1 a u,⟨λb w e=>?_,c.len,λi d' hi e=>?_,λi d' hi e=>?_,λi hi=>?_,λi j b hi D=>?_⟩,?_⟩
   .by_cases q:b=a;·subst q;rw[qo]at e;cases e;exact hu
    .rw[qv q]at e;exact c.sub b w e
   .by_cases q:i=k
    .subst q;rw[hd]at e;cases e;refine⟨_,h1,?_⟩;cases d with
     |lst ds=>obtain⟨xs,e,t⟩:=g;rw[hu]at e;cases e;exact .lst (.inl (.inl qo)) (t.mono gr)
     |dct ds=>obtain⟨xs,e,t⟩:=g;rw[hu]at e;cases e;exact .dct qo (t.mono gr)
     |ins C fs=>obtain⟨dx,xs,e,t⟩:=g;rw[hu]at e;cases e;exact .ins qo (t.mono gr)
     |at_ b ds=>obtain⟨A,xs,e,t⟩:=g;rw[hu]at e;cases e;subst A;exact .at_ (.inl (.inl qo)) (t.mono gr)
     |_=>exact g.elim
    .obtain⟨v,o,p⟩:=c.val i d' (λz=>by simp at z;exact hi ((hs i).mpr ⟨z.1,by simp[q,z.2]⟩)) e;exact⟨v,o,p.mono gr⟩
   .have h:=(hs i).mp hi;have s:i≠k:=λz=>h.2 (by simp[z]);have m:i∉r:=λz=>h.2 (by simp[z]);obtain⟨b,o,p,x⟩:=c.ow i d' (by simp[h.1,m]) e;refine⟨b,o,?_,x.grow gr λ_ z=>z⟩;have y:b≠a:=λz=>by subst z;exact s (c.dis i k b (by simp[h.1,m]) (by simp[f.1,f.2]) o h1)
    rw[qv y];exact p
   .have h:=(hs i).mp hi;exact c.opn i (by simp[h.1];exact λz=>h.2 (by simp[z]))
   .have h:=(hs i).mp hi;have l:=(hs j).mp D;exact c.dis i j b (by simp[h.1];exact λz=>h.2 (by simp[z])) (by simp[l.1];exact λz=>l.2 (by simp[z]))
   .refine⟨n.keep,n.stay,n.grow.trans gr,λb hb=>?_⟩;by_cases q:b=a;·exact .inr (.inr ⟨k,f.1,by rw[q];exact h1⟩)
    .rw[qv q]at hb;exact n.new b hb
  .refine⟨F1,⟨c.sub,c.len,λi d hi=>c.val i d λz=>?_,λi d hi=>c.ow i d ?_,λi hi=>c.opn i ?_,λi j a hi D=>c.dis i j a ?_ ?_⟩,n⟩;·simp at z;refine hi ((hs i).mpr ⟨z.1,?_⟩);simp only[ac,not_or];exact⟨λq=>f (by subst q;exact z),z.2⟩
   all_goals
    first
     |(have q:=(hs _).mp hi;simp only[dO,decide_eq_true_eq];exact⟨q.1,λz=>q.2 (by simp[z])⟩)
     |(have q:=(hs _).mp D;simp only[dO,decide_eq_true_eq];exact⟨q.1,λz=>q.2 (by simp[z])⟩)
theorem OA.sub(h:∀i∈own',i∈own)(q:OA own' σ b):OA own σ b:=let ⟨i,hi,e⟩:=q; ⟨i,h i hi,e⟩
theorem Nx.drop(drop:List Nat)(hs:∀i,i∈own'↔i∈own/\i∉drop)(r:Rep C.K own F H σ ρ):∃F',Nx C own own' σ F H ρ σ F' H:=by obtain⟨F',a,c⟩:=Rep.weak drop hs r;exact⟨F',a,c,λb q=>.inl (OA.sub (λi hi=>((hs i).mp hi).1) q),λ_ _=>rfl⟩
noncomputable def vM(own drop:List Nat):List Nat:=own.filter λi=>decide (i∉drop)
theorem jc{own drop:List Nat}(i:Nat):i∈vM own drop↔i∈own/\i∉drop:=by simp[vM]
theorem jE(drop:List Nat)(h:PSs X sts (tSt C (vM own drop) o2 f)):PSs X sts (tSt C own o2 f):=QV h λD σ H ⟨F,ρ,a,h⟩=>by obtain⟨F',n⟩:=Nx.drop (C:=C) drop (λi=>jc (own:=own) i) a;exact⟨F',ρ,n.rep,h.shift n⟩
def sIf(ft:yl)(f g:qS):qS:=λρ=>(ft ρ).bind λp=>if p.1=iD then f p.2 else g p.2
theorem qT{a b:List Z3}(d:PT X c (tT C own ft))(e:PSs X a (tSt C own own' f))(hb:PSs X b (tSt C own own' g)):PS X (.If c a b pos) (tSt C own own' (sIf ft f g)):=by
 refine xl (qiA d e hb) λD σ H ⟨F,ρ,p,h⟩=>⟨F,ρ,p,PoS.bindT h λF1 H1 k ρ1 r i h1=>?_⟩
 cases k with
 |true=>exact⟨F1,ρ1,r,h1⟩
 |false=>exact⟨F1,ρ1,r,h1⟩
def jY(fe:qV):qS:=λρ=>(fe ρ).bind λp=>.ok (.nx,p.2)
theorem jf(g:PE X e (tE C own m fe))(hs:lh e iB pos.line X.env=pure false:=by rfl):PS X (.Expr e pos) (tSt C own own (jY fe)):=by refine xl (qej g hs) λD σ H ⟨F,ρ,r,h⟩=>⟨F,ρ,r,PoS.bindE h λv F1 H1 d ρ1 a k c h1=>h1 σ F1 H1 (.refl a)⟩
def ji(fe:qV):qS:=λρ=>(fe ρ).bind λp=>.ok (.rt p.1,p.2)
theorem va(g:PE X e (tE C own C.mr fe))(o:∀i∈C.io,i∈own:=by exact kZ rfl):PS X (.Return (iw e) pos) (tSt C own own' (ji fe)):=by
 refine xl (qdB g) λD σ H ⟨F,ρ,r,h⟩=>⟨F,ρ,r,?_⟩
 unfold ji at h;cases q:fe ρ with
 |ok p=>rw[q]at h;obtain⟨d,ρ1⟩:=p;exact λv F1 H1 a k m=>h v σ F1 H1 a.sub (a.ioIs o) k (λ_ _=>rfl) m
 |exc c=>rw[q]at h;exact h
 |bad=>rw[q]at h;exact h.elim
theorem qr(g:PE X e (tE C own m fe))(h:m≠.any:=by decide)(c:C.mr=.sh:=by rfl)(o:∀i∈C.io,i∈own:=by exact kZ rfl):PS X (.Return (iw e) pos) (tSt C own own' (ji fe)):=va (by rw[c];exact wC g h) o
theorem Rep.put(r:Rep K own F H σ ρ)(hi:i < ρ.length)(is:Is K F v d):Rep K (vM own [i]) F H (σ.set i (iw v)) (ρ.set i (iw d)) where
 sub:=r.sub
 len:=by simp[r.len]
 val:=λj d' D e=>by
  by_cases q:j=i;·subst q;rw[aB hi]at e;cases e;exact⟨v,aB (by rw[r.len];exact hi),is⟩
  .rw[ai (aW q)]at e;obtain⟨w,h1,h2⟩:=r.val j d' (λz=>D ((jc j).mpr ⟨z,by simp[q]⟩)) e;exact⟨w,by rw[ai (aW q)];exact h1,h2⟩
 ow:=λj d' D e=>by have l:=(jc j).mp D;have q:j≠i:=λz=>l.2 (by simp[z]);rw[ai (aW q)]at e;obtain⟨a,h1,h2⟩:=r.ow j d' l.1 e;exact⟨a,by rw[ai (aW q)];exact h1,h2⟩
 opn:=λj D=>by have l:=(jc j).mp D;have q:j≠i:=λz=>l.2 (by simp[z]);obtain⟨d',e⟩:=r.opn j l.1;exact⟨d',by rw[ai (aW q)];exact e⟩
 dis:=λj k a D c e1 b=>by have l:=(jc j).mp D;have h:=(jc k).mp c;rw[ai (λz=>l.2 (by simp[z]))]at e1;rw[ai (λz=>h.2 (by simp[z]))]at b;exact r.dis j k a l.1 h.1 e1 b
theorem OA.put(h:OA (vM own [i]) (σ.set i (iw v)) b):OA own σ b:=by obtain⟨j,D,e⟩:=h;have l:=(jc j).mp D;rw[ai (λz=>l.2 (by simp[z]))]at e;exact⟨j,l.1,e⟩
def jA(i:Nat)(fe:qV):qS:=λρ=>(fe ρ).bind λp=>if i<p.2.length then .ok (.nx,p.2.set i (iw p.1))else .bad
theorem qeO(n:X.N.Nodup)(hi:X.N[i]?=iw x)(hx:Loc X.env.scope x)(l:PE X e (tE C own m fe))(f:m≠.any:=by decide)(o:i∉C.io:=by exact wH rfl)(hs:lh e (iw (.Name x pos')) pos.line X.env=pure false:=by rfl)(k:X.fn x=iD\/X.env.scope.names.lookup x=iw .local:=by first|exact .inl rfl|exact .inr rfl):PS X (.Assign [.Name x pos'] e pos) (tSt C own (vM own [i]) (jA i fe)):=by
 refine xl (qdD n hi hx (wC l f) hs k) λD σ H ⟨F,ρ,r,h⟩=>⟨F,ρ,r,PoS.bindE h λv F1 H1 d ρ1 a p c h1=>?_⟩
 by_cases q:i < ρ1.length;·have h1:PoS C own (vM own [i]) σ F1 H1 (if i < ρ1.length then .ok (.nx,ρ1.set i (iw d))else .bad) D:=h1;rw[Aa q]at h1;exact h1 _ F1 H1 ⟨a.put q c,.refl,λb z=>.inl (OA.put z),λj g=>ai λz=>o (by rw[z];exact g)⟩
 .have h1:PoS C own (vM own [i]) σ F1 H1 (if i < ρ1.length then .ok (.nx,ρ1.set i (iw d))else .bad) D:=h1;rw[Ab q]at h1;exact h1.elim
theorem Rep.putO(r:Rep K own F H σ ρ)(hi:i < ρ.length)(s:F a=iB)(n:¬OA own σ a)(o:OwnIs K F H a d):Rep K (i::vM own [i]) F H (σ.set i (iw (.ref a))) (ρ.set i (iw d)) where
 sub:=r.sub
 len:=by simp[r.len]
 val:=λj d' D e=>by have q:j≠i:=λz=>D (by simp[z]);rw[ai (aW q)]at e;obtain⟨w,h1,h2⟩:=r.val j d' (λz=>D (ae _ ((jc j).mpr ⟨z,by simp[q]⟩))) e;exact⟨w,by rw[ai (aW q)];exact h1,h2⟩
 ow:=λj d' D e=>by
  by_cases q:j=i;·subst q;rw[aB hi]at e;cases e;exact⟨a,aB (by rw[r.len];exact hi),s,o⟩
  .have l:=(jc j).mp ((ac.mp D).resolve_left q);rw[ai (aW q)]at e;obtain⟨b,h1,h2⟩:=r.ow j d' l.1 e;exact⟨b,by rw[ai (aW q)];exact h1,h2⟩
 opn:=λj D=>by
  by_cases q:j=i;·subst q;exact⟨d,aB hi⟩
  .have l:=(jc j).mp ((ac.mp D).resolve_left q);obtain⟨d',e⟩:=r.opn j l.1;exact⟨d',by rw[ai (aW q)];exact e⟩
 dis:=λj k b D p e1 f=>by
  have m:i < σ.length:=by rw[r.len];exact hi
  by_cases g:j=i
  .by_cases c:k=i;·rw[g,c]
   .subst g;have h:=(jc k).mp ((ac.mp p).resolve_left c);rw[aB m]at e1;cases e1;rw[ai (aW c)]at f;exact absurd ⟨k,h.1,f⟩ n
  .have l:=(jc j).mp ((ac.mp D).resolve_left g);by_cases c:k=i;·subst c;rw[aB m]at f;cases f;rw[ai (aW g)]at e1;exact absurd ⟨j,l.1,e1⟩ n
   .have h:=(jc k).mp ((ac.mp p).resolve_left c);rw[ai (aW g)]at e1;rw[ai (aW c)]at f;exact r.dis j k b l.1 h.1 e1 f
theorem qck(w:X.N.Nodup)(hi:X.N[i]?=iw x)(hx:Loc X.env.scope x)(u:PE X e (tE C own .fr fe))(k:i∉C.io:=by exact wH rfl)(hs:lh e (iw (.Name x pos')) pos.line X.env=pure false:=by rfl)(t:X.fn x=iD\/X.env.scope.names.lookup x=iw .local:=by first|exact .inl rfl|exact .inr rfl):PS X (.Assign [.Name x pos'] e pos) (tSt C own (i::vM own [i]) (jA i fe)):=by
 refine xl (qdD w hi hx u hs t) λD σ H ⟨F,ρ,n,h⟩=>⟨F,ρ,n,?_⟩
 unfold jA at h;cases q:fe ρ with
 | ok p=>
  rw[q]at h;obtain⟨d,ρ1⟩:=p;intro v F1 H1 r B m;obtain⟨a,rfl,s,A,o⟩:=m;by_cases z:i < ρ1.length
  .have h1:PoS C own (i::vM own [i]) σ F H (if i < ρ1.length then .ok (.nx,ρ1.set i (iw d))else .bad) D:=h;rw[Aa z]at h1;refine h1 _ F1 H1 ⟨r.putO z A (λy=>(n.OA_there y).1 s) o,B,λb y=>?_,λj f=>ai λy=>k (by rw[y];exact f)⟩;obtain⟨j,f,e⟩:=y;by_cases g:j=i;·subst g;rw[aB (by rw[r.len];exact z)]at e;cases e;exact .inr s
   .have l:=(jc j).mp ((ac.mp f).resolve_left g);rw[ai (aW g)]at e;exact .inl ⟨j,l.1,e⟩
  .have h1:PoS C own (i::vM own [i]) σ F H (if i < ρ1.length then .ok (.nx,ρ1.set i (iw d))else .bad) D:=h;rw[Ab z]at h1;exact h1.elim
 |exc c=>rw[q]at h;exact h
 |bad=>rw[q]at h;exact h.elim
end
inductive AK where
 |vl|sl (i:Nat)|fr
 deriving DecidableEq
def ArgV(K:Y9)(H0 F H:Hp)(σ:St):List AK->List V->List D->Prop
 |[],[],[]=>True
 |.vl::as,v::vs,d::ds=>Is K F v d/\ArgV K H0 F H σ as vs ds
 |.sl i::as,v::vs,d::ds=>σ[i]?=iw (iw v)/\d=.non/\ArgV K H0 F H σ as vs ds
 |.fr::as,v::vs,d::ds=>MoIs K .fr H0 F H v d/\ArgV K H0 F H σ as vs ds
 |_,_,_=>False
variable{A:Z7->Prop}{H0 H':Hp}
theorem ArgV.grow{F':Hp}(c:Chg A F H F' H')(hA:∀x,A x->H0 x≠iB):∀{as:List AK}{vs:List V}{ds:List D},ArgV K H0 F H σ as vs ds->ArgV K H0 F' H' σ as vs ds
 |[],[],[],h=>trivial
 |.vl::as,v::vs,d::ds,h=>⟨h.1.mono c.grow,ArgV.grow c hA h.2⟩
 |.sl i::as,v::vs,d::ds,h=>⟨h.1,h.2.1,ArgV.grow c hA h.2.2⟩
 |.fr::as,v::vs,d::ds,h=>⟨h.1.grow (by decide) c hA,ArgV.grow c hA h.2⟩
 |[],_::_,_,h=>h.elim
 |[],[],_::_,h=>h.elim
 |.vl::_,[],_,h=>h.elim
 |.vl::_,_::_,[],h=>h.elim
 |.sl _::_,[],_,h=>h.elim
 |.sl _::_,_::_,[],h=>h.elim
 |.fr::_,[],_,h=>h.elim
 |.fr::_,_::_,[],h=>h.elim
theorem ArgV.back{F0:Hp}(c:Chg A F0 H0 F1 H1):∀{as:List AK}{vs:List V}{ds:List D},ArgV K H1 F H σ as vs ds->ArgV K H0 F H σ as vs ds
 |[],[],[],h=>trivial
 |.vl::as,v::vs,d::ds,h=>⟨h.1,ArgV.back c h.2⟩
 |.sl i::as,v::vs,d::ds,h=>⟨h.1,h.2.1,ArgV.back c h.2.2⟩
 |.fr::as,v::vs,d::ds,h=>⟨MoIs.back (Ha:=H1) c h.1,ArgV.back c h.2⟩
 |[],_::_,_,h=>h.elim
 |[],[],_::_,h=>h.elim
 |.vl::_,[],_,h=>h.elim
 |.vl::_,_::_,[],h=>h.elim
 |.sl _::_,[],_,h=>h.elim
 |.sl _::_,_::_,[],h=>h.elim
 |.fr::_,[],_,h=>h.elim
 |.fr::_,_::_,[],h=>h.elim
def PoA(C:Ct)(own:List Nat)(as:List AK)(σ:St)(F H:Hp)(r:Out (List D×Sl))(Q:List V->Hp->Prop):Prop:=match r with
 |.ok (ds,ρ')=>∀vs F' H',Rep C.K own F' H' σ ρ'->Chg (OA own σ) F H F' H'->ArgV C.K H F' H' σ as vs ds->Q vs H'
 |.exc c ρ'=>∀F' H',Same F' H'->Gi C.K C.ox F' H' σ ρ'->Chg (OA own σ) F H F' H'->C.E (C.cv c) iB H'
 |.bad=>False
abbrev vN:=Sl->Out (List D×Sl)
def tAr(C:Ct)(own:List Nat)(as:List AK)(f:vN):TA:=λσ H Q=>∃F ρ,Rep C.K own F H σ ρ/\PoA C own as σ F H (f ρ) Q
variable{as:List AK}
theorem PoA.bindV{ma:Mo}{o:Va}{k:D×Sl->Out (List D×Sl)}{Q:List V->Hp->Prop}{R:VK}(hp:PoA C own as σ F H (o.bind k) Q)(h:∀v F1 H1 d ρ1,Rep C.K own F1 H1 σ ρ1->Chg (OA own σ) F H F1 H1->MoIs C.K ma H F1 H1 v d->PoA C own as σ F H (k (d,ρ1)) Q->R v H1):Po C own ma σ F H o R:=by
 cases o with
 |ok p=>obtain⟨d,ρ1⟩:=p;exact λv F1 H1 a c mo=>h v F1 H1 d ρ1 a c mo hp
 |exc x=>exact hp
 |bad=>exact hp.elim
theorem Po.bindA{as:List AK}{o:Out (List D×Sl)}{k:List D×Sl->Va}{Q:VK}{R:List V->Hp->Prop}(hp:Po C own m σ F H (o.bind k) Q)(h:∀vs F1 H1 ds ρ1,Rep C.K own F1 H1 σ ρ1->Chg (OA own σ) F H F1 H1->ArgV C.K H F1 H1 σ as vs ds->Po C own m σ F1 H1 (k (ds,ρ1)) Q->R vs H1):PoA C own as σ F H o R:=by
 cases o with
 |ok p=>obtain⟨d,ρ1⟩:=p;exact λvs F1 H1 a c v=>h vs F1 H1 d ρ1 a c v (Po.shift (show Po C own m σ F H (k (d,ρ1)) Q from hp) c)
 |exc x=>exact hp
 |bad=>exact hp.elim
noncomputable def qA:vN:=λρ=>.ok ([],ρ)
def qd(fe:qV)(fr:vN):vN:=λρ=>(fe ρ).bind λp=>(fr p.2).bind λq=>.ok (p.1::q.1,q.2)
def jZ(fr:vN):vN:=λρ=>(fr ρ).bind λq=>.ok (D.non::q.1,q.2)
variable{es:List Z4}{p:Z7}{u:HO}
section
variable{fe:qV}{fr:vN}
theorem qeP{t t':TA}(h:PA X es t)(i:∀σ H Q,t' σ H Q->t σ H Q):PA X es t':=⟨λpos Z9 s σ H Q I hw=>h pos Z9 s σ H Q I (i σ H Q hw)⟩
theorem ql:PA X [] (tAr C own [] qA):=qeP jC λσ H Q ⟨F,ρ,a,h⟩=>h [] F H a .refl trivial
theorem gj{a:AK}{Q:List V->Hp->Prop}{v:V}(h:∀x,OA own σ x->H x≠iB)(e:Rep C.K own F1 H1 σ ρ1)(k:Chg (OA own σ) F H F1 H1)(hp:PoA C own (a::as) σ F H ((fr ρ1).bind λq=>.ok (d::q.1,q.2)) Q)(f:∀b H2 vs ds,Chg (OA own σ) F1 H1 b H2->ArgV C.K H b H2 σ as vs ds->ArgV C.K H b H2 σ (a::as) (v::vs) (d::ds)):tAr C own as fr σ H1 λxs H2=>Q (v::xs) H2:=by
 refine⟨F1,ρ1,e,?_⟩;cases q:fr ρ1 with
 |ok p=>rw[q]at hp;obtain⟨ds,ρ2⟩:=p;exact λvs b H2 r c2 g=>hp (v::vs) b H2 r (k.trans' c2) (f b H2 vs ds c2 (ArgV.back k g))
 |exc c=>rw[q]at hp;exact λF' H' s io S=>hp F' H' s io (k.trans' S)
 |bad=>rw[q]at hp;exact hp.elim
theorem qc(g:PE X e (tE C own m fe))(b:PA X es (tAr C own as fr))(f:m≠.any:=by decide)(hs:iI (e::es) X.env=(iE,Z0 e X.env)::iI es X.env:=by exact jq rfl):PA X (e::es) (tAr C own (.vl::as) (qd fe fr)):=by
 refine qeP (qP (wC g f) b hs) λσ H Q ⟨F,ρ,r,h⟩=>⟨F,ρ,r,PoA.bindV h λv F1 H1 d ρ1 a k c h1=>?_⟩
 exact gj (λx z=>(r.OA_there z).1) a k h1 λj H2 vs ds c2 i=>⟨Is.mono c2.grow c,i⟩
theorem vC{px:Pos}(f:X.N[i]?=iw x)(v:Vis X.env.scope x)(l:i∈own)(e:PA X es (tAr C own as fr))(hs:iI (.Name x px::es) X.env=(iE,Z0 (.Name x px) X.env)::iI es X.env:=by rfl)(hd:Dbg x:=by decide)(b:Cdk x:=by decide):PA X (.Name x px::es) (tAr C own (.sl i::as) (jZ fr)):=by
 refine qeP (qP (vB f v hd b) e hs) λσ H Q c=>?_;obtain⟨F,ρ,r,h⟩:=c;obtain⟨d,hd⟩:=r.opn i l;obtain⟨a,h1,h2,j⟩:=r.ow i d l hd;exact⟨_,h1,gj (λx z=>(r.OA_there z).1) r .refl h λk H2 vs ds c2 g=>⟨h1,rfl,g⟩⟩
theorem ArgV.isL:∀{as:List AK}{vs:List V}{ds:List D},(as.all λa=>decide (a=.vl))=iD->ArgV K H0 F H σ as vs ds->IsL K F vs ds
 |[],[],[],_,_=>.nil
 |.vl::as,v::vs,d::ds,h,a=>.cons a.1 (ArgV.isL (by simpa using h) a.2)
 |.sl i::as,_,_,h,a=>by simp at h
 |.fr::as,_,_,h,a=>by simp at h
 |[],_::_,_,_,h=>h.elim
 |[],[],_::_,_,h=>h.elim
 |.vl::_,[],_,_,h=>h.elim
 |.vl::_,_::_,[],_,h=>h.elim
def xm(fr:vN):qV:=λρ=>(fr ρ).bind λp=>if p.1.length<=Z8 then .ok (.tup p.1,p.2)else .bad
def gk(fr:vN):qV:=λρ=>(fr ρ).bind λp=>if p.1.length<=Z8 then .ok (.lst p.1,p.2)else .bad
theorem qgZ(a:Rep C.K own F H σ ρ)(hp:H p=iB):Rep C.K own (upd F p u) (upd H p u) σ ρ/\Chg No F H (upd F p u) (upd H p u):=by
 have D:F p=none:=by
  cases q:F p with
  |none=>rfl
  |some o=>rw[a.sub p o q]at hp;cases hp
 have c:Chg No F H (upd F p u) (upd H p u):=⟨λb o e _=>by rw[qv (qD e hp)];exact e,λb e=>by
  by_cases q:b=p;·rw[q,qo];simp
  .rw[qv q];exact e,λb o e=>by rw[qv (qD e D)];exact e,λb e=>by
  by_cases q:b=p;·exact .inr (.inl (by rw[q];exact hp))
  .rw[qv q]at e;exact .inl e⟩
 refine⟨a.grow c λb o e=>?_,c⟩;by_cases q:b=p;·subst q;rw[qo]at e ⊢;exact e
 .rw[qv q]at e ⊢;exact a.sub b o e
theorem Gx(a:Rep C.K own F H σ ρ)(hp:H p=iB):Rep C.K own F (upd H p u) σ ρ/\Chg No F H F (upd H p u)/\F p=none:=by
 have D:F p=none:=by
  cases q:F p with
  |none=>rfl
  |some o=>rw[a.sub p o q]at hp;cases hp
 have c:Chg No F H F (upd H p u):=⟨λb o e _=>by rw[qv (qD e hp)];exact e,λb e=>by
  by_cases q:b=p;·rw[q,qo];simp
  .rw[qv q];exact e,Same.refl _,λb e=>.inl e⟩
 exact⟨a.grow c λb o e=>by rw[qv (qD e D)];exact a.sub b o e,c,D⟩
theorem ku{x1}(h:PA X es (tAr C own as fr))(f:(as.all λa=>decide (a=.vl))=true:=by decide):PE X (.Tuple es x1 pos) (tE C own .sh (xm fr)):=by
 refine jy (qgE h) λσ H Q ⟨F,ρ,c,h⟩=>⟨F,ρ,c,Po.bindA h λvs F1 H1 ds ρ1 b k v h1=>?_⟩
 have i:=v.isL f;have h1:Po C own .sh σ F1 H1 (if ds.length<=Z8 then .ok (.tup ds,ρ1)else .bad) Q:=h1;by_cases z:ds.length<=Z8;·rw[Aa z]at h1;refine⟨by rw[i.length];exact z,λp hp=>?_⟩;obtain⟨r,c2⟩:=qgZ (u:=.tup vs) b hp;exact h1 _ _ _ r c2.ofNo (.tup (.inl (.inl qo)) (i.mono c2.grow))
 .rw[Ab z]at h1;exact h1.elim
theorem vb(h:PA X es (tAr C own as fr))(f:(as.all λa=>decide (a=.vl))=true:=by decide):PE X (.List es pos) (tE C own .fr (gk fr)):=by
 refine jy (qgF h) λσ H Q ⟨F,ρ,c,h⟩=>⟨F,ρ,c,Po.bindA h λvs F1 H1 ds ρ1 b k v h1=>?_⟩
 have i:=v.isL f;have h1:Po C own .fr σ F1 H1 (if ds.length<=Z8 then .ok (.lst ds,ρ1)else .bad) Q:=h1;by_cases z:ds.length<=Z8;·rw[Aa z]at h1;refine⟨by rw[i.length];exact z,λp hp=>?_⟩;obtain⟨r,c2,D⟩:=Gx (u:=.lst vs) b hp;exact h1 _ _ _ r c2.ofNo ⟨p,rfl,hp,D,vs,qo,i⟩
 .rw[Ab z]at h1;exact h1.elim
theorem JC:PE X (.Dict [] [] pos) (tE C own .fr (dC (.dct []))):=by refine jy qcb λσ H Q z p hp=>?_;obtain⟨F,ρ,a,h⟩:=z;obtain⟨r,c2,D⟩:=Gx (u:=.dK []) a hp;exact h _ _ _ r c2.ofNo ⟨p,rfl,hp,D,[],qo,.nil⟩
def ixD:D->D->Out D
 |.lst xs,.int i=>match atI xs i with
  |some d=>.ok d
  |none=>.bad
 |.tup xs,.int i=>match atI xs i with
  |some d=>.ok d
  |none=>.bad
 |.str x,.int i=>match atI x.cps.toList i with
  |some c=>.ok (.str ⟨#[c]⟩)
  |none=>.bad
 |.dct kvs,.str x=>match (kvs.find? λkv=>decide (kv.1=cH x))with
  |some kv=>.ok kv.2
  |none=>.bad
 |.dct kvs,.int x=>match (kvs.find? λkv=>decide (kv.1=e7 x))with
  |some kv=>.ok kv.2
  |none=>.bad
 |_,_=>.bad
theorem IsL.atI{i:Int}(h:IsL K F vs ds)(e:L2.atI ds i=iw d):∃v,L2.atI vs i=iw v/\Is K F v d:=by
 unfold L2.atI at e ⊢;rw[h.length];cases q:ixN ds.length i with
 |none=>rw[q]at e;cases e
 |some j=>rw[q]at e;exact h.getD e
theorem IsK.find{k:Key}:∀{vs:List (Key×V)}{ds:List (Key×D)}{d:Key×D},IsK K F vs ds->(ds.find? λkv=>decide (kv.1=k))=iw d->∃v,XO vs k=iw v/\Is K F v d.2
 |_,_,_,.nil,e=>by simp at e
 |_,_,d,.cons (k:=k') (vs:=vs) h t,e=>by
  by_cases q:k'=k;·rw[List.find?_cons_of_pos (by simp[q])]at e;cases e;exact⟨_,zQ q,h⟩
  .rw[List.find?_cons_of_neg (by simp[q])]at e;obtain⟨v,h1,h2⟩:=IsK.find t e;exact⟨v,by rw[zR q];exact h1,h2⟩
theorem Yh(c:Nat):(⟨#[c]⟩:Str).length<=Z8:=by show 1<=Z8;rw[iM];decide
def qjK(K:Y9):R2:=λx y H Q=>rIx K x y H Q\/∃a v,x=.ref a/\DGet H a y (iw v)/\Q v H
theorem qg0(b:X.A.units+1<lc):IxR X (qjK X.K):=by
 refine IxR.or qgK ?_;intro value e Z9 s σ H x y v u Q I d c h hs;obtain⟨a,w,rfl,g,q⟩:=h;cases d;obtain⟨T,ht⟩:∃T,s.TypeIs (.ref a) T/\T = "dict":=⟨_,WB I g,rfl⟩
 obtain⟨ht,rfl⟩:=ht;exact tail_any ht PySem.slot_dict_getitem.lookup (Gc b I g c λR s' f r=>⟨w,H,f,r,q⟩) hs
end
variable{T:String}
section
variable{a b:Z4}{f fa fb:qV}
set_option tactic.hygienic true in
theorem qg1{σ:St}{x y:V}{dx b:D}{Q:VK}(l:C.K=X.K)(s:Same F H)(f:TopIs C.K F H x dx)(ty:TopIs C.K F H y b)(po:PoV C .sh F H (ixD dx b) Q):qjK X.K x y H Q:=by
 rw[l]at f ty;cases dx with
 |lst xs=>
  cases b <;> try exact po.elim
  rename_i i;obtain rfl:=ty.int;obtain⟨a,vs,rfl,p,t⟩:=f.lst s;unfold ixD at po;cases e:L2.atI xs i with
  |none=>simp only[e]at po;exact po.elim
  |some d=>simp only[e]at po;obtain⟨v,h1,h2⟩:=t.atI e;exact .inl (.inl ⟨a,vs,i,v,rfl,rfl,p,h1,po v F H s .refl (by rw[l];exact h2)⟩)
 |tup xs=>
  cases b <;> try exact po.elim
  rename_i i;obtain rfl:=ty.int;obtain⟨a,vs,rfl,p,t⟩:=f.tup s;unfold ixD at po;cases e:L2.atI xs i with
  |none=>simp only[e]at po;exact po.elim
  |some d=>simp only[e]at po;obtain⟨v,h1,h2⟩:=t.atI e;exact .inl (.inr (.inl ⟨a,vs,i,v,rfl,rfl,p,h1,po v F H s .refl (by rw[l];exact h2)⟩))
 |str z=>
  cases b <;> try exact po.elim
  rename_i i;obtain rfl:=ty.int;obtain⟨rfl,hz⟩:=f.str;unfold ixD at po;cases e:L2.atI z.cps.toList i with
  |none=>simp only[e]at po;exact po.elim
  |some c=>simp only[e]at po;exact .inl (.inr (.inr ⟨z,i,c,rfl,rfl,hz,e,po _ F H s .refl (.str (Yh c))⟩))
 | dct kvs=>
  obtain⟨a,kv,rfl,p,t⟩:=f.dct s;cases b with
  |int i=>
   obtain rfl:=ty.int;unfold ixD at po;cases e:(kvs.find? λkv=>decide (kv.1=e7 i))with
   |none=>simp only[e]at po;exact po.elim
   |some d=>simp only[e]at po;obtain⟨v,h1,h2⟩:=t.find e;exact .inr ⟨a,v,rfl,by rw[<-h1];exact DGet.k (k:=e7 i) p,po v F H s .refl (by rw[l];exact h2)⟩
  |str z=>
   obtain⟨rfl,_⟩:=ty.str;unfold ixD at po;cases e:(kvs.find? λkv=>decide (kv.1=cH z))with
   |none=>simp only[e]at po;exact po.elim
   |some d=>simp only[e]at po;obtain⟨v,h1,h2⟩:=t.find e;exact .inr ⟨a,v,rfl,by rw[<-h1];exact DGet.k (k:=cH z) p,po v F H s .refl (by rw[l];exact h2)⟩
  |_=>exact po.elim
 |_=>exact po.elim
theorem qi2(o:C.K=X.K)(z:X.A.units+64<lc)(n:PE X a (tE C own ma fa))(hb:PE X b (tE C own mb fb))(hs:Wy b)(j:ma≠.any:=by decide):PE X (.Subscript a b pos) (tE C own .sh (d2 ixD fa fb)):=by
 refine jy (qiR (qg0 (by lia)) n hb hs) λσ H Q h=>?_;obtain⟨F,ρ,l,h⟩:=Vb (mb:=mb) j h;refine⟨F,ρ,l,?_⟩;cases q:fa ρ with
 |ok p=>
  rw[q]at h;obtain⟨d,ρ1⟩:=p;intro v F1 H1 f u i;obtain⟨y,ρ2,e,h2⟩:=h v F1 H1 f u i;refine⟨y,ρ2,e,?_⟩;cases g:fb ρ2 with
  |ok p=>rw[g]at h2;obtain⟨d',k⟩:=p;intro w F3 x r I m;obtain⟨L,dx,B,s,t,ty,po⟩:=h2 w F3 x r I m;exact qg1 (σ:=σ) o s t ty po
  |exc c=>rw[g]at h2;exact h2
  |bad=>rw[g]at h2;exact h2.elim
 |exc c=>rw[q]at h;exact h
 |bad=>rw[q]at h;exact h.elim
def gl(X:Cx)(C:Ct)(m:Mo)(f:iC)(g:D->Out D):Prop:=wG X f (λxs H Q=>∃x F dx,xs=[x]/\Same F H/\TopIs C.K F H x dx/\PoV C m F H (g dx) Q)
theorem gm{Q:VK}{g:D->Out D}(h:tE C own m (d1 g fa) σ H Q):qb2 (tE C own ma fa) qgD σ H λxs H1=>∃x F dx,xs=[x]/\Same F H1/\TopIs C.K F H1 x dx/\PoV C m F H1 (g dx) Q:=by
 obtain⟨F,ρ,r,h⟩:=XR (ma:=ma) h;refine⟨F,ρ,r,?_⟩;cases q:fa ρ with
 |ok p=>rw[q]at h;obtain⟨d,ρ1⟩:=p;intro v F1 H1 a k b;obtain⟨e,dx,s,t,po⟩:=h v F1 H1 a k b;exact⟨v,e,dx,rfl,s,t,po⟩
 |exc c=>rw[q]at h;exact h
 |bad=>rw[q]at h;exact h.elim
theorem qB{id:String}{p:Pos}{g:D->Out D}(f:gl X C m (.builtin id) g)(hg:Gl X x)(d:X.mg x=iB)(c:iJ x=iw (.builtin id))(i:PE X e (tE C own ma fa))(n:x ≠ "__name__":=by decide)(b:Dbg x:=by decide)(a:iI [e] X.env=[(iE,Z0 e X.env)]:=by exact qJ rfl):PE X (.Call (.Name x p) [e] [] pos) (tE C own m (d1 g fa)):=
 jy (yA f hg d c (qP i jC a) n b (by rw[a];rfl) rfl) λ_ _ _ h=>gm h
theorem jr{p:Pos}{g:D->Out D}(f:gl X C m (.type T) g)(hg:Gl X x)(d:X.mg x=iB)(c:iJ x=iw (.type T))(i:PE X e (tE C own ma fa))(n:x ≠ "__name__":=by decide)(b:Dbg x:=by decide)(a:iI [e] X.env=[(iE,Z0 e X.env)]:=by exact qJ rfl):PE X (.Call (.Name x p) [e] [] pos) (tE C own m (d1 g fa)):=
 jy (kX f hg d c (qP i jC a) n b (by rw[a];rfl) rfl) λ_ _ _ h=>gm h
noncomputable def vz:D->Out D
 |.str x=>.ok (.int x.length)
 |.lst xs=>.ok (.int xs.length)
 |.tup xs=>.ok (.int xs.length)
 |.dct xs=>.ok (.int xs.length)
 |_=>.bad
theorem IsK.length:∀{vs:List (Key×V)}{ds:List (Key×D)},IsK K F vs ds->vs.length=ds.length
 |_,_,.nil=>rfl
 |_,_,.cons _ t=>congrArg (·+1) (IsK.length t)
theorem jz(l:C.K=X.K):gl X C .sh (.builtin "len") vz:=by
 intro Z9 s σ H xs us Q I r h;obtain⟨x,F,dx,rfl,b,c,po⟩:=h;cases dx with
 |str z=>obtain⟨rfl,hz⟩:=c.str;exact Jz Z9 s σ H _ us Q I r ⟨_,_,rfl,⟨hz,rfl⟩,po _ F H b .refl (.int _)⟩
 |lst ds=>obtain⟨a,vs,rfl,p,t⟩:=c.lst b;exact Jz Z9 s σ H _ us Q I r ⟨_,ds.length,rfl,.inl ⟨vs,by rw[<-l];exact p,t.length.symm⟩,po _ F H b .refl (.int _)⟩
 |tup ds=>obtain⟨a,vs,rfl,p,t⟩:=c.tup b;exact Jz Z9 s σ H _ us Q I r ⟨_,ds.length,rfl,.inr ⟨vs,by rw[<-l];exact p,t.length.symm⟩,po _ F H b .refl (.int _)⟩
 |dct ds=>obtain⟨a,vs,rfl,p,t⟩:=c.dct b;refine Gh Z9 s σ H _ us Q I r ⟨a,vs,rfl,p,?_⟩;rw[t.length];exact po _ F H b .refl (.int _)
 |_=>exact po.elim
noncomputable def vV:D->D->Out D
 |.int i,.int j=>.ok (.int (i+j))
 |.str x,.str y=>if x.length+y.length<=Z8 then .ok (.str (x++y))else .bad
 |.lst xs,.lst ys=>if xs.length+ys.length<=Z8 then .ok (.lst (xs++ys))else .bad
 |.tup xs,.tup ys=>if xs.length+ys.length<=Z8 then .ok (.tup (xs++ys))else .bad
 |_,_=>.bad
theorem xn(t:Same F H)(hp:H p=iB):Same (upd F p u) (upd H p u)/\Chg No F H (upd F p u) (upd H p u):=by
 have D:F p=none:=by
  cases q:F p with
  |none=>rfl
  |some o=>rw[t p o q]at hp;cases hp
 refine⟨λb o e=>?_,⟨λb o e _=>by rw[qv (qD e hp)];exact e,λb e=>?_,λb o e=>by rw[qv (qD e D)];exact e,λb e=>?_⟩⟩
 .by_cases q:b=p;·subst q;rw[qo]at e ⊢;exact e
  .rw[qv q]at e ⊢;exact t b o e
 .by_cases q:b=p;·rw[q,qo];simp
  .rw[qv q];exact e
 .by_cases q:b=p;·exact .inr (.inl (by rw[q];exact hp))
  .rw[qv q]at e;exact .inl e
theorem jL(t:Same F H)(hp:H p=iB):Same F (upd H p u)/\Chg No F H F (upd H p u)/\F p=none:=by
 have D:F p=none:=by
  cases q:F p with
  |none=>rfl
  |some o=>rw[t p o q]at hp;cases hp
 refine⟨λb o e=>by rw[qv (qD e D)];exact t b o e,⟨λb o e _=>by rw[qv (qD e hp)];exact e,λb e=>?_,Same.refl _,λb e=>.inl e⟩,D⟩;by_cases q:b=p;·rw[q,qo];simp
 .rw[qv q];exact e
theorem WF(x y:Str):(x++y).length=x.length+y.length:=by show(x.cps++y.cps).size=_;simp[hZ]
theorem Gy:OpR X (i8 .Add) (λx y H Q=>∃l b xs zs,x=.ref l/\y=.ref b/\SqL X.K H l xs/\SqL X.K H b zs/\xs.length+zs.length<=Z8/\∀p,H p=iB->Q (.ref p) (upd H p (.lst (xs++zs)))):=by
 intro Z9 s σ H x y v u Q I k r h;obtain⟨l,b,xs,zs,rfl,rfl,h1,h2,hz,q⟩:=h;cases k;cases r;obtain⟨its,r1,p1,_⟩:=I.list h1;obtain⟨i,r2,p2,_⟩:=I.list h2;obtain⟨⟨cls,z,data,sl⟩,o,g,n,hd⟩:=id p1.isList;obtain⟨⟨j,e,f,d⟩,a,c,n2,hd2⟩:=id p2.isList;simp only at g hd c hd2;subst g hd c hd2;have t:=r1.length;have m:=r2.length;refine mD ⟨_,o,rfl⟩ ⟨_,a,rfl⟩ noFill_list_add seq_list_add PySem.F.slot_list_add PySem.F.entry_list_add (PySem.F.args_list_add_2 _ _)
  (list_addW l b its.toArray i.toArray n n2 z e sl d (by simp only[aj];lia)) ⟨o,a,?_⟩
 have w:its.toArray++i.toArray=(its++i).toArray:=by simp
 rw[w];exact⟨.ref _,_,I.lnew (t':=s.toks) (r1.append r2) (by rw[am];exact hz),rfl,q _ I.fresh⟩
theorem qeQ:OpR X (i8 .Add) (λx y H Q=>∃a b ys,x=.ref a/\y=.ref b/\SqT X.K H a []/\SqT X.K H b ys/\Q (.ref b) H):=by
 intro Z9 s σ H x y v u Q I m r h;obtain⟨a,b,ys,rfl,rfl,h1,h2,q⟩:=h;cases m;cases r;obtain⟨its,r1,p1,_⟩:=I.tuple h1;obtain⟨i,r2,p2,_⟩:=I.tuple h2;cases r1;obtain⟨⟨cls,o,data,sl⟩,l,j,n,hd⟩:=id p1;obtain⟨⟨k,f,g,e⟩,c,d,n2,hd2⟩:=id p2;simp only at j hd d hd2;subst j hd d hd2;exact mD ⟨_,l,rfl⟩ ⟨_,c,rfl⟩ noFill_tuple_add seq_tuple_add d9 dY (dL _ _)
  (tuple_addW0 a b _ _ n n2 o f sl e rfl) ⟨l,c,⟨.ref b,H,I,rfl,q⟩⟩
set_option tactic.hygienic true in
theorem jN(l:C.K=X.K):OpD X C .sh (i8 .Add) vV:=by
 intro Z9 s σ H x y v u Q I g r h;obtain⟨F,dx,j,t,c,ty,po⟩:=h;cases dx with
 |int i=>
  cases j <;> try exact po.elim
  obtain rfl:=c.int;obtain rfl:=ty.int;exact qgw Z9 s σ H _ _ v u Q I g r ⟨_,_,rfl,rfl,po _ F H t .refl (.int _)⟩
 |str a=>
  cases j <;> try exact po.elim
  rename_i b;obtain⟨rfl,_⟩:=c.str;obtain⟨rfl,_⟩:=ty.str;have po:PoV C .sh F H (if a.length+b.length<=Z8 then .ok (.str (a++b))else .bad) Q:=po;by_cases z:a.length+b.length<=Z8;·rw[Aa z]at po;exact XG Z9 s σ H _ _ v u Q I g r ⟨_,_,rfl,rfl,z,po _ F H t .refl (.str (by rw[WF];exact z))⟩
  .rw[Ab z]at po;exact po.elim
 |lst xs=>
  cases j <;> try exact po.elim
  rename_i ys;obtain⟨a,vs,rfl,p1,f⟩:=c.lst t;obtain⟨b,ws,rfl,p2,d⟩:=ty.lst t;have po:PoV C .sh F H (if xs.length+ys.length<=Z8 then .ok (.lst (xs++ys))else .bad) Q:=po;by_cases z:xs.length+ys.length<=Z8;·rw[Aa z]at po;refine Gy Z9 s σ H _ _ v u Q I g r ⟨a,b,vs,ws,rfl,rfl,by rw[<-l];exact p1,by rw[<-l];exact p2,by rw[f.length,d.length];exact z,λp hp=>?_⟩;obtain⟨s2,c2⟩:=xn (u:=.lst (vs++ws)) t hp;exact po _ _ _ s2 c2 (.lst (.inl (.inl qo)) ((f.append d).mono c2.grow))
  .rw[Ab z]at po;exact po.elim
 | tup xs=>
  cases j <;> try exact po.elim
  rename_i ys;obtain⟨a,vs,rfl,p1,f⟩:=c.tup t;obtain⟨b,ws,rfl,p2,d⟩:=ty.tup t;have po:PoV C .sh F H (if xs.length+ys.length<=Z8 then .ok (.tup (xs++ys))else .bad) Q:=po;by_cases z:xs.length+ys.length<=Z8
  .rw[Aa z]at po;cases vs with
   |nil=>
    cases f;rcases ty with ty|⟨_,_,ty⟩
    .exact qeQ Z9 s σ H _ _ v u Q I g r ⟨a,b,ws,rfl,rfl,by rw[<-l];exact p1,by rw[<-l];exact p2,po _ F H t .refl ty⟩
    .exact ty.elim
   | cons k vs=>
    refine qez Z9 s σ H _ _ v u Q I g r ⟨a,b,k::vs,ws,rfl,rfl,by rw[<-l];exact p1,by rw[<-l];exact p2,by simp,by rw[f.length,d.length];exact z,λe=>?_,λe p hp=>?_⟩
    .subst e;cases d;rcases c with c|⟨_,_,c⟩
     .refine po _ F H t .refl ?_;rw[bv];exact c
     .exact c.elim
    .obtain⟨s2,c2⟩:=xn (u:=.tup (k::vs++ws)) t hp;exact po _ _ _ s2 c2 (.tup (.inl (.inl qo)) ((f.append d).mono c2.grow))
  .rw[Ab z]at po;exact po.elim
 |_=>exact po.elim
end
inductive PM where
 |val|io|tk
 deriving DecidableEq
noncomputable def yG:List PM->List V->List Z7
 |.val::ms,_::vs=>yG ms vs
 |.io::ms,.ref a::vs=>a::yG ms vs
 |.tk::ms,.ref a::vs=>a::yG ms vs
 |_::ms,_::vs=>yG ms vs
 |_,_=>[]
def ArgsIs(K:Y9)(F H:Hp):List PM->List V->List D->Prop
 |[],[],[]=>True
 |.val::ms,v::vs,d::ds=>Is K F v d/\ArgsIs K F H ms vs ds
 |.io::ms,v::vs,d::ds=>(∃a,v=.ref a/\F a=iB/\OwnIs K F H a d)/\ArgsIs K F H ms vs ds
 |.tk::ms,v::vs,d::ds=>(∃a,v=.ref a/\F a=iB/\OwnIs K F H a d)/\ArgsIs K F H ms vs ds
 |_,_,_=>False
def uR(K:Y9)(F H:Hp):List PM->List V->List D->Prop
 |[],_,_=>True
 |.io::ms,v::vs,d::ds=>(∃a,v=.ref a/\F a=iB/\OwnIs K F H a d)/\uR K F H ms vs ds
 |_::ms,_::vs,_::ds=>uR K F H ms vs ds
 |_,_,_=>False
abbrev LA(ms:List PM)(vs:List V):Z7->Prop:=λb=>b∈yG ms vs
def PoG(K:Y9)(cv:Str->iC)(ms:List PM)(mr:Mo)(vs:List V)(F H:Hp)(Q:VK)(E:XK)(o:Out (D×List D)):Prop:=match o with
 |.ok (d,outs)=>∀v F' H',Same F' H'->Chg (LA ms vs) F H F' H'->uR K F' H' ms vs outs->MoIs K mr H F' H' v d->Q v H'
 |.exc c o=>∀F' H',Same F' H'->Chg (LA ms vs) F H F' H'->uR K F' H' ms vs (o.map (·.getD .non))->E (cv c) iB H'
 |.bad=>False
abbrev ju:=List D->Out (D×List D)
def spD(K:Y9)(cv:Str->iC)(ms:List PM)(mr:Mo)(G:ju):Sp:=λvs H Q E=>∃F ds,Same F H/\ArgsIs K F H ms vs ds/\(yG ms vs).Nodup/\PoG K cv ms mr vs F H Q E (G ds)
theorem ArgsIs.length:∀{ms:List PM}{vs:List V}{ds:List D},ArgsIs K F H ms vs ds->vs.length=ms.length/\ds.length=ms.length
 |[],[],[],_=>⟨rfl,rfl⟩
 |.val::ms,v::vs,d::ds,h=>by have:=ArgsIs.length h.2;simp[this]
 |.io::ms,v::vs,d::ds,h=>by have:=ArgsIs.length h.2;simp[this]
 |.tk::ms,v::vs,d::ds,h=>by have:=ArgsIs.length h.2;simp[this]
 |[],_::_,_,h=>h.elim
 |[],[],_::_,h=>h.elim
 |.val::_,[],_,h=>h.elim
 |.val::_,_::_,[],h=>h.elim
 |.io::_,[],_,h=>h.elim
 |.io::_,_::_,[],h=>h.elim
 |.tk::_,[],_,h=>h.elim
 |.tk::_,_::_,[],h=>h.elim
noncomputable def jQ(n:Nat):List PM->List Nat
 |[]=>[]
 |.val::ms=>jQ (n+1) ms
 |_::ms=>n::jQ (n+1) ms
noncomputable def Wp(n:Nat):List PM->List Nat
 |[]=>[]
 |.io::ms=>n::Wp (n+1) ms
 |_::ms=>Wp (n+1) ms
variable{n:Nat}
theorem yH:∀{ms:List PM}{i:Nat},i∈jQ n ms->n<=i/\i<n+ms.length:=by
 intro ms
 induction ms generalizing n with
 |nil=>intro i h;simp[jQ]at h
 | cons m ms j=>
  intro i h;cases m with
  |val=>have:=j (n:=n+1) h;simp only[ap];lia
  |io=>
   rcases ac.mp h with e|h;·simp only[ap];lia
   .have:=j (n:=n+1) h;simp only[ap];lia
  |tk=>
   rcases ac.mp h with e|h;·simp only[ap];lia
   .have:=j (n:=n+1) h;simp only[ap];lia
theorem qcl:∀{ms:List PM}{i:Nat},i∈Wp n ms->i∈jQ n ms:=by
 intro ms
 induction ms generalizing n with
 |nil=>intro i h;simp[Wp]at h
 | cons m ms j=>
  intro i h;cases m with
  |val=>exact j (n:=n+1) h
  |io=>
   rcases ac.mp h with e|h;·exact ac.mpr (.inl e)
   .exact ae _ (j (n:=n+1) h)
  |tk=>exact ae _ (j (n:=n+1) h)
theorem XU:∀{ms:List PM}{vs:List V}{ds:List D}{n:Nat},ArgsIs K F H ms vs ds ->(∀j d,ds[j]?=iw d->n+j∉jQ n ms->∃v,vs[j]?=iw v/\Is K F v d) /\
  (∀j d,ds[j]?=iw d->n+j∈jQ n ms->∃a,vs[j]?=iw (.ref a)/\F a=iB/\OwnIs K F H a d):=by
 intro ms
 induction ms with
 |nil=>intro vs ds n h;cases vs <;> cases ds <;> first|exact h.elim|(refine⟨λj d e=>?_,λj d e=>?_⟩ <;> simp at e)
 | cons m ms i=>
  intro vs ds n h;cases vs with
  |nil=>cases m <;> exact h.elim
  | cons v vs=>
   cases ds with
   |nil=>cases m <;> exact h.elim
   | cons d ds=>
    cases m with
    | val=>
     obtain⟨h1,h2⟩:=h;obtain⟨i1,i2⟩:=i (n:=n+1) h2;refine⟨λj e b c=>?_,λj e b c=>?_⟩
     .cases j with
      |zero=>simp at b;subst b;exact⟨v,rfl,h1⟩
      |succ j=>simpa using i1 j e (by simpa using b) (by rw[show n+1+j=n+(j+1) by lia];exact c)
     .cases j with
      |zero=>have:=yH (n:=n+1) c;lia
      |succ j=>simpa using i2 j e (by simpa using b) (by rw[show n+1+j=n+(j+1) by lia];exact c)
    | io=>
     obtain⟨⟨a,rfl,h1⟩,h2⟩:=h;obtain⟨i1,i2⟩:=i (n:=n+1) h2;refine⟨λj e b c=>?_,λj e b c=>?_⟩
     .cases j with
      |zero=>exact absurd (ac.mpr (.inl rfl)) c
      |succ j=>simpa using i1 j e (by simpa using b) (λz=>c (ae _ (by rw[show n+(j+1)=n+1+j by lia];exact z)))
     .cases j with
      |zero=>simp at b;subst b;exact⟨a,rfl,h1⟩
      | succ j=>
       have f:n+1+j∈jQ (n+1) ms:=by
        rcases ac.mp c with z|z
        .lia
        .rw[show n+1+j=n+(j+1) by lia];exact z
       simpa using i2 j e (by simpa using b) f
    | tk=>
     obtain⟨⟨a,rfl,h1⟩,h2⟩:=h;obtain⟨i1,i2⟩:=i (n:=n+1) h2;refine⟨λj e b c=>?_,λj e b c=>?_⟩
     .cases j with
      |zero=>exact absurd (ac.mpr (.inl rfl)) c
      |succ j=>simpa using i1 j e (by simpa using b) (λz=>c (ae _ (by rw[show n+(j+1)=n+1+j by lia];exact z)))
     .cases j with
      |zero=>simp at b;subst b;exact⟨a,rfl,h1⟩
      | succ j=>
       have f:n+1+j∈jQ (n+1) ms:=by
        rcases ac.mp c with z|z
        .lia
        .rw[show n+1+j=n+(j+1) by lia];exact z
       simpa using i2 j e (by simpa using b) f
theorem Gz:∀{ms:List PM}{vs:List V}{j:Nat}{a:Z7},n+j∈jQ n ms->vs[j]?=iw (.ref a)->a∈yG ms vs:=by
 intro ms
 induction ms generalizing n with
 |nil=>intro vs j a h;simp[jQ]at h
 | cons m ms i=>
  intro vs j a h e;cases vs with
  |nil=>simp at e
  | cons v vs=>
   cases j with
   |zero=>
    simp at e;subst e;cases m with
    |val=>have:=yH (n:=n+1) h;omega
    |io=>exact ac.mpr (.inl rfl)
    |tk=>exact ac.mpr (.inl rfl)
   | succ j=>
    have b:vs[j]?=iw (.ref a):=by simpa using e
    have sub:n+1+j∈jQ (n+1) ms:=by
     rw[show n+1+j=n+(j+1) by omega];cases m with
     |val=>exact h
     |io=>exact(ac.mp h).resolve_left (by omega)
     |tk=>exact(ac.mp h).resolve_left (by omega)
    have q:=i (n:=n+1) sub b;cases m <;> cases v <;> first|exact q|exact ae _ q
theorem GA:∀{ms:List PM}{vs:List V}{a:Z7},a∈yG ms vs->∃j,n+j∈jQ n ms/\vs[j]?=iw (.ref a):=by
 intro ms
 induction ms generalizing n with
 |nil=>intro vs a h;cases vs <;> simp[yG]at h
 | cons m ms i=>
  intro vs a h;cases vs with
  |nil=>cases m <;> simp[yG]at h
  | cons v vs=>
   have up:∀{b},b∈yG ms vs->∃j,n+j∈jQ n (m::ms)/\(v::vs)[j]?=iw (.ref b):=λhb=>by
    obtain⟨j,h1,h2⟩:=i (n:=n+1) hb;refine⟨j+1,?_,by simpa using h2⟩;rw[show n+(j+1)=n+1+j by lia];cases m with
    |val=>exact h1
    |io=>exact ae _ h1
    |tk=>exact ae _ h1
   cases m with
   |val=>exact up (by cases v <;> exact h)
   | io=>
    cases v with
    |ref c=>
     rcases ac.mp h with e|h;·subst e;exact⟨0,ac.mpr (.inl rfl),rfl⟩
     .exact up h
    |_=>exact up h
   | tk=>
    cases v with
    |ref c=>
     rcases ac.mp h with e|h;·subst e;exact⟨0,ac.mpr (.inl rfl),rfl⟩
     .exact up h
    |_=>exact up h
theorem qcm:∀{ms:List PM}{vs:List V}{i j:Nat}{a:Z7},(yG ms vs).Nodup->n+i∈jQ n ms->n+j∈jQ n ms->vs[i]?=iw (.ref a)->vs[j]?=iw (.ref a)->i=j:=by
 intro ms
 induction ms generalizing n with
 |nil=>intro vs i j a _ h;simp[jQ]at h
 | cons m ms f=>
  intro vs i j a nd hi D e1 e;cases vs with
  |nil=>simp at e1
  | cons v vs=>
   have sub:∀{k},n+(k+1)∈jQ n (m::ms)->n+1+k∈jQ (n+1) ms:=λ{k} h=>by
    rw[show n+1+k=n+(k+1) by lia];cases m with
    |val=>exact h
    |io=>exact(ac.mp h).resolve_left (by lia)
    |tk=>exact(ac.mp h).resolve_left (by lia)
   have d:(yG ms vs).Nodup:=by cases m <;> cases v <;> first|exact nd|exact(ba.mp nd).2
   have c:∀{k b},n+0∈jQ n (m::ms)->v=.ref b->n+(k+1)∈jQ n (m::ms)->vs[k]?=iw (.ref b)->False:=λ{k b} o g l p=>by
    subst g;have q:=Gz (n:=n+1) (sub l) p;cases m with
    |val=>have:=yH (n:=n+1) o;lia
    |io=>exact(ba.mp nd).1 q
    |tk=>exact(ba.mp nd).1 q
   cases i with
   |zero=>
    cases j with
    |zero=>rfl
    |succ j=>exact(c hi (by simpa using e1) D (by simpa using e)).elim
   |succ i=>
    cases j with
    |zero=>exact(c D (by simpa using e) hi (by simpa using e1)).elim
    |succ j=>exact congrArg (·+1) (f (n:=n+1) d (sub hi) (sub D) (by simpa using e1) (by simpa using e))
noncomputable def qx(N:List Str)(ds:List D):Sl:=ds.map iw++aS (N.length - ds.length) iB
variable{α:Type}{N:List Str}
theorem jI{xs:List α}{x:α}:(xs.map iw++aS (N.length - xs.length) iB)[i]?=iw (iw x)↔xs[i]?=iw x:=by
 by_cases h:i<xs.length
 .rw[cD (by simpa using h),aJ];cases e:xs[i]? with
  |none=>simp
  |some y=>simp
 .rw[cy (by simpa using h),dX];have e:xs[i]?=none:=List.getElem?_eq_none_iff.mpr (by lia);rw[e];split <;> simp
variable{ms:List PM}
theorem GB(t:Same F H)(r:ArgsIs K F H ms vs ds)(nd:(yG ms vs).Nodup):Rep K (jQ 0 ms) F H (yz N vs) (qx N ds):=by
 obtain⟨h1,h2⟩:=XU (n:=0) r;obtain⟨c,l⟩:=r.length;refine⟨t,by simp[yz,qx,c,l],λi d hi e=>?_,λi d hi e=>?_,λi hi=>?_,λi j a hi D e1 f=>?_⟩;·obtain⟨v,a,b⟩:=h1 i d (jI.mp e) (by simpa using hi);exact⟨v,jI.mpr a,b⟩
 .obtain⟨v,a,b⟩:=h2 i d (jI.mp e) (by simpa using hi);exact⟨v,jI.mpr a,b⟩
 .have q:=yH hi;have hl:i<ds.length:=by lia
  exact⟨ds[i],jI.mpr (by simp[hl])⟩
 .exact qcm (n:=0) nd (by simpa using hi) (by simpa using D) (jI.mp e1) (jI.mp f)
theorem qcn:OA (jQ 0 ms) (yz N vs) b↔LA ms vs b:=by
 constructor;·rintro⟨i,hi,e⟩;exact Gz (n:=0) (by simpa using hi) (jI.mp e)
 .intro h;obtain⟨j,h1,h2⟩:=GA (n:=0) h;exact⟨j,by simpa using h1,jI.mpr h2⟩
noncomputable def jJ(ρ:Sl):Nat->List PM->List D
 |_,[]=>[]
 |n,.io::ms=>((ρ[n]?).getD iB).getD .non::jJ ρ (n+1) ms
 |n,_::ms=>.non::jJ ρ (n+1) ms
theorem qeR{σ:St}{N:List Str}:∀{ms:List PM}{vs:List V}{n:Nat},vs.length=ms.length->(∀i∈Wp n ms,∃d a,ρ[i]?=iw (iw d)/\vs[i - n]?=iw (V.ref a)/\F a=iB/\OwnIs K F H a d)->uR K F H ms vs (jJ ρ n ms):=by
 intro ms
 induction ms with
 |nil=>intro vs n _ _;trivial
 | cons m ms j=>
  intro vs n hl h;cases vs with
  |nil=>simp at hl
  |cons v vs=>
   have rest:(∀i∈Wp (n+1) ms,i∈Wp n (m::ms))->uR K F H ms vs (jJ ρ (n+1) ms):=λhs=>by refine j (by simpa using hl) λi hi=>?_;obtain⟨d,a,e1,e,D⟩:=h i (hs i hi);have q:=yH (qcl hi);refine⟨d,a,e1,?_,D⟩;rw[show i - n=(i - (n+1))+1 by lia]at e;simpa using e
   cases m with
   |val=>exact rest λi hi=>hi
   |io=>obtain⟨d,a,e1,e,D⟩:=h n (ac.mpr (.inl rfl));refine⟨⟨a,by simpa using e,D.1,?_⟩,rest λi hi=>ae _ hi⟩;rw[e1];exact D.2
   |tk=>exact rest λi hi=>hi
noncomputable def Fl.val:Fl->Option D
 |.nx=>iw .non
 |.rt d=>iw d
 |_=>iB
def jF(N:List Str)(ms:List PM)(f:qS)(ds:List D):Out (D×List D):=match f (qx N ds)with
 |.ok (.nx,ρ)=>.ok (.non,jJ ρ 0 ms)
 |.ok (.rt d,ρ)=>.ok (d,jJ ρ 0 ms)
 |.ok _=>.bad
 |.exc c ρ=>.exc c ((jJ ρ 0 ms).map iw)
 |.bad=>.bad
theorem Yi:∀(l:List D),(l.map iw).map (λx:Option D=>x.getD .non)=l
 |[]=>rfl
 |a::l=>congrArg (a::·) (Yi l)
def Out.le{α:Type}(a b:Out α):Prop:=a=.bad\/a=b
theorem qeS{f:qS}{Q:VK}{o:Out (D×List D)}(j:C.io=Wp 0 ms)(l:C.ox=C.io)(hmr:C.mr=.sh\/∀ρ,(f (qx N ds))≠.ok (.nx,ρ))(g:∀i∈Wp 0 ms,i∈own')(t:Same F H)(r:ArgsIs C.K F H ms vs ds)(nd:(yG ms vs).Nodup)(G:Out.le o (jF N ms f ds))(h:PoG C.K C.cv ms C.mr vs F H Q C.E o):tSt C (jQ 0 ms) own' f { nx:=λ_ H'=>Q .non H',rt:=Q } (yz N vs) H:=by
 refine⟨F,qx N ds,GB t r nd,?_⟩;have hl:=r.length.1;have ch:∀{F' H'},Chg (OA (jQ 0 ms) (yz N vs)) F H F' H'->Chg (LA ms vs) F H F' H':=λc=>c.mono λx z=>qcn.mp z;have b:∀{σ':St}{ρ':Sl}{F' H':Hp},Gi C.K C.io F' H' σ' ρ'->(∀i∈C.io,σ'[i]?=(yz N vs)[i]?)->uR C.K F' H' ms vs (jJ ρ' 0 ms):=λ{σ' ρ' F' H'} io e=>by
  refine qeR (N:=N) (σ:=σ') hl λi hi=>?_;have k:i∈C.io:=by rw[j];exact hi
  obtain⟨d,a,e1,m,w⟩:=io i k;refine⟨d,a,e1,?_,w⟩;rw[e i k]at m;exact jI.mp m
 rcases G with e|e;·subst e;exact h.elim
 .subst e;unfold jF at h;cases q:f (qx N ds)with
  |ok p=>
   rw[q]at h;obtain⟨fl,ρ'⟩:=p;cases fl with
   |nx=>have u:C.mr=.sh:=hmr.resolve_right λz=>z ρ' q;exact λσ' F' H' n=>h .non F' H' n.rep.sub (ch n.chg) (b (n.rep.ioIs (by rw[j];exact g)) n.io) (by rw[u];exact .non)
   |rt d=>exact λv σ' F' H' s io c e mo=>h v F' H' s (ch c) (b io e) mo
   |bk=>exact h.elim
   |ct=>exact h.elim
  |exc c ρ'=>rw[q]at h;exact λF' H' s io S=>h F' H' s (ch S) (by rw[Yi];exact b (σ':=yz N vs) (by rw[<-l];exact io) λ_ _=>rfl)
  |bad=>rw[q]at h;exact h.elim
def qf6(K:Y9)(cv:Str->iC)(E:XK)(ms:List PM)(mr:Mo):Ct:=⟨K,cv,E,Wp 0 ms,mr,[],Wp 0 ms,λ_ h=>h⟩
theorem qib{P:iK}{w:iL}{K:Y9}{mg:Str->Option iC}{base:Z5}{CX:CXT}{x qual:Str}{st:Z3}{f:Z7}{fd:lA}{N ps:List Str}{k:Nat}{cv:Str->iC}{ms:List PM}{mr:Mo}{own':List Nat}{fb:qS}{G:ju}(F:Fun K x qual st f fd)(S:FnScope N ps (qC st))(hl:ms.length=ps.length)(g:∀i∈Wp 0 ms,i∈own')(hmr:mr=.sh\/∀ds ρ,(fb (qx N ds))≠.ok (.nx,ρ))(a:∀(cdv:iC)(A:iT)(outer:List Env)(s:iF)(H:Hp)(E:XK),Room k (A.deeper (l0 qual (qC st) s.heap.objs.size f cdv)) ->PSs (qeu CX P w K mg base N qual (qC st) f cdv A outer s H E) (kY st) (tSt (qf6 K cv E ms mr) (jQ 0 ms) own' fb))(b:∀ds,Out.le (G ds) (jF N ms fb ds)):FnOk P w K mg base CX (k+1) f fd ps (spD K cv ms mr G):=by
 obtain⟨oc,od,kV,doc,pm,an,cdv,ct,osl,rfl,lk,d⟩:=F.ex;refine qiO lk d S (λvs H Q E h=>?_) λA outer s H vs Q E c p=>?_;·obtain⟨F,ds,_,r,_⟩:=h;rw[r.length.1,hl]
 .obtain⟨F1,ds,t,r,nd,h⟩:=p;refine⟨_,a cdv A outer s H E c,?_⟩;exact qeS (C:=qf6 K cv E ms mr) rfl rfl (hmr.imp id λz ρ=>z ds ρ) g t r nd (b ds) h
def xo:AK->PM
 |.vl=>.val
 |.sl _=>.io
 |.fr=>.tk
noncomputable def kx:List AK->List D->Sl->Option (List D)
 |[],[],_=>iw []
 |.sl i::as,_::ds,ρ=>match ρ[i]? with
  |some (iw d)=>(kx as ds ρ).map (d::·)
  |_=>iB
 |.vl::as,d::ds,ρ=>(kx as ds ρ).map (d::·)
 |.fr::as,d::ds,ρ=>(kx as ds ρ).map (d::·)
 |_,_,_=>iB
noncomputable def zy:List AK->List D->Sl->Sl
 |.sl i::as,d::outs,ρ=>zy as outs (ρ.set i (iw d))
 |_::as,_::outs,ρ=>zy as outs ρ
 |_,_,ρ=>ρ
noncomputable def jd:List AK->List Nat
 |[]=>[]
 |.sl i::as=>i::jd as
 |_::as=>jd as
noncomputable def frA:List AK->Nat
 |[]=>0
 |.fr::as=>frA as+1
 |_::as=>frA as
section
theorem yI:∀{as:List AK}{vs:List V}{ds g:List D},Rep K own F H σ ρ->(∀i∈jd as,i∈own)->ArgV K H0 F H σ as vs ds->kx as ds ρ=iw g->ArgsIs K F H (as.map xo) vs g
 |[],vs,ds,g,rp,hs,av,e=>by cases vs <;> cases ds <;> first|exact av.elim|(simp[kx]at e;subst e;trivial)
 |a::as,[],ds,g,rp,hs,av,e=>by cases a <;> exact av.elim
 |a::as,v::vs,[],g,rp,hs,av,e=>by cases a <;> exact av.elim
 | .vl::as,v::vs,d::ds,g,rp,hs,av,e=>by
  cases q:kx as ds ρ with
  |none=>simp[kx,q]at e
  |some l=>
   have e:d::l=g:=by simpa[kx,q]using e
   subst e;exact⟨av.1,yI rp hs av.2 q⟩
 | .fr::as,v::vs,d::ds,g,rp,hs,av,e=>by
  cases q:kx as ds ρ with
  |none=>simp[kx,q]at e
  |some l=>
   have e:d::l=g:=by simpa[kx,q]using e
   subst e;obtain⟨a,h1,_,h2,c⟩:=av.1;exact⟨⟨a,h1,h2,c⟩,yI rp hs av.2 q⟩
 | .sl i::as,v::vs,d::ds,g,rp,hs,av,e=>by
  obtain⟨h1,_,b⟩:=av;have hi:i∈own:=hs i (ac.mpr (.inl rfl));obtain⟨d',hd⟩:=rp.opn i hi;obtain⟨a,e1,k,f⟩:=rp.ow i d' hi hd;rw[h1]at e1;cases e1;cases q:kx as ds ρ with
  |none=>simp[kx,q,hd]at e
  |some l=>
   have e:d'::l=g:=by simpa[kx,q,hd]using e
   subst e;exact⟨⟨a,rfl,k,f⟩,yI rp (λj h=>hs j (ae _ h)) b q⟩
theorem vc:∀{as:List AK}{vs:List V}{ds:List D}{b:Z7},ArgV K H0 F H σ as vs ds->b∈yG (as.map xo) vs->(∃i∈jd as,σ[i]?=iw (iw (V.ref b)))\/(H0 b=iB/\frA as≠0/\H b≠iB/\F b=iB)
 |[],vs,ds,b,av,h=>by cases vs <;> simp[yG]at h
 |a::as,[],ds,b,av,h=>by cases a <;> exact av.elim
 |a::as,v::vs,[],b,av,h=>by cases a <;> exact av.elim
 |.vl::as,v::vs,d::ds,b,av,h=>by
  have h:b∈yG (as.map xo) vs:=by cases v <;> exact h
  exact vc (as:=as) av.2 h
 | .fr::as,v::vs,d::ds,b,av,h=>by
  obtain⟨⟨a,rfl,g,f,o⟩,c⟩:=av;have h:b∈a::yG (as.map xo) vs:=h;rcases ac.mp h with e|h;·subst e;exact .inr ⟨g,by simp[frA],o.there,f⟩
  .rcases vc c h with z|⟨z,_,z2⟩
   .exact .inl z
   .exact .inr ⟨z,by simp[frA],z2⟩
 | .sl i::as,v::vs,d::ds,b,av,h=>by
  obtain⟨h1,_,c⟩:=av;have up:b∈yG (as.map xo) vs->(∃j∈jd (.sl i::as),σ[j]?=iw (iw (V.ref b)))\/(H0 b=iB/\frA (.sl i::as)≠0/\H b≠iB/\F b=iB):=λh=>by
   rcases vc c h with⟨j,hj,e⟩|z;·exact .inl ⟨j,ae _ hj,e⟩
   .exact .inr z
  cases v with
  |ref a=>
   have h:b∈a::yG (as.map xo) vs:=h;rcases ac.mp h with e|h;·subst e;exact .inl ⟨i,ac.mpr (.inl rfl),h1⟩
   .exact up h
  |_=>exact up h
theorem uE:∀{as:List AK}{vs:List V}{ds:List D},Rep K own F H σ ρ->(∀x,OA own σ x->H0 x≠iB)->(∀i∈jd as,i∈own)->(jd as).Nodup->frA as<=1->ArgV K H0 F H σ as vs ds->(yG (as.map xo) vs).Nodup
 |[],vs,ds,rp,h0,hs,nd,hf,av=>by cases vs <;> simp[yG]
 |a::as,[],ds,rp,h0,hs,nd,hf,av=>by cases a <;> exact av.elim
 |a::as,v::vs,[],rp,h0,hs,nd,hf,av=>by cases a <;> exact av.elim
 |.vl::as,v::vs,d::ds,rp,h0,hs,nd,hf,av=>by have q:=uE (as:=as) rp h0 hs nd hf av.2;cases v <;> exact q
 |.fr::as,v::vs,d::ds,rp,h0,hs,nd,hf,av=>by
  have g:frA as=0:=by simp only[frA]at hf;lia
  obtain⟨⟨a,rfl,hz,l,o⟩,b⟩:=av;show(a::yG (as.map xo) vs).Nodup;refine ba.mpr ⟨λz=>?_,uE rp h0 hs nd (by lia) b⟩;rcases vc b z with⟨i,hi,e⟩|⟨_,n,_⟩
  .exact h0 a ⟨i,hs i hi,e⟩ hz
  .exact n g
 | .sl i::as,v::vs,d::ds,rp,h0,hs,nd,hf,av=>by
  obtain⟨h1,_,b⟩:=av;have h:∀j∈jd as,j∈own:=λj c=>hs j (ae _ c);have hi:i∈own:=hs i (ac.mpr (.inl rfl));obtain⟨k,f⟩:=ba.mp nd;have q:=uE rp h0 h f hf b;cases v with
  |ref a=>
   show(a::yG (as.map xo) vs).Nodup;refine ba.mpr ⟨λz=>?_,q⟩;rcases vc b z with⟨j,c,e⟩|⟨n,_⟩
   .exact k (by rw[rp.dis i j a hi (h j c) h1 e];exact c)
   .exact h0 a ⟨i,hi,h1⟩ n
  |_=>exact q
theorem wf:∀{as:List AK}{b:List D}{ρ:Sl}{i:Nat},i∉jd as->(zy as b ρ)[i]?=ρ[i]?
 |[],b,ρ,i,h=>by cases b <;> rfl
 |a::as,[],ρ,i,h=>by cases a <;> rfl
 |.vl::as,d::b,ρ,i,h=>wf (as:=as) h
 |.fr::as,d::b,ρ,i,h=>wf (as:=as) h
 |.sl j::as,d::b,ρ,i,h=>by
  have h':i≠j/\i∉jd as:=by simpa[jd]using h
  show(zy as b (ρ.set j (iw d)))[i]?=_;rw[wf h'.2,ai (aW h'.1)]
theorem zS:∀{as:List AK}{b:List D}{ρ:Sl},(zy as b ρ).length=ρ.length
 |[],b,ρ=>by cases b <;> rfl
 |a::as,[],ρ=>by cases a <;> rfl
 |.vl::as,d::b,ρ=>zS (as:=as)
 |.fr::as,d::b,ρ=>zS (as:=as)
 |.sl j::as,d::b,ρ=>by show(zy as b (ρ.set j (iw d))).length=_;rw[zS,bZ]
theorem JD{F' H':Hp}:∀{as:List AK}{vs:List V}{ds b:List D}{ρ:Sl},(jd as).Nodup->(∀i∈jd as,i < ρ.length)->ArgV K H0 F H σ as vs ds->uR K F' H' (as.map xo) vs b->∀i∈jd as,∃d a,(zy as b ρ)[i]?=iw (iw d)/\σ[i]?=iw (iw (V.ref a))/\F' a=iB/\OwnIs K F' H' a d
 |[],vs,ds,b,ρ,nd,hl,av,o,i,hi=>by simp[jd]at hi
 |a::as,[],ds,b,ρ,nd,hl,av,o,i,hi=>by cases a <;> exact av.elim
 |a::as,v::vs,[],b,ρ,nd,hl,av,o,i,hi=>by cases a <;> exact av.elim
 |a::as,v::vs,d::ds,[],ρ,nd,hl,av,o,i,hi=>by cases a <;> exact o.elim
 |.vl::as,v::vs,d::ds,u::b,ρ,nd,hl,av,o,i,hi=>JD (as:=as) nd hl av.2 o i hi
 |.fr::as,v::vs,d::ds,u::b,ρ,nd,hl,av,o,i,hi=>JD (as:=as) nd hl av.2 o i hi
 |.sl j::as,v::vs,d::ds,u::b,ρ,nd,hl,av,o,i,hi=>by
  obtain⟨f,n⟩:=ba.mp nd;obtain⟨h1,_,c⟩:=av;obtain⟨⟨a,e,g,ow⟩,o2⟩:=o;subst e;rcases ac.mp hi with e|hi;·subst e;refine⟨u,a,?_,h1,g,ow⟩;show(zy as b (ρ.set i (iw u)))[i]?=_;rw[wf f,aB (hl i (ac.mpr (.inl rfl)))]
  .exact JD (as:=as) (ρ:=ρ.set j (iw u)) n (λk h=>by rw[bZ];exact hl k (ae _ h)) c o2 i hi
end
def qt(as:List AK)(G:ju)(fr:vN):qV:=λρ=>(fr ρ).bind λp=>match kx as p.1 p.2 with
 |some ds=>match G ds with
  |.ok q=>.ok (q.1,zy as q.2 p.2)
  |.exc c o=>.exc c (zy as (o.map (·.getD .non)) p.2)
  |.bad=>.bad
 |none=>.bad
variable{mr:Mo}{f:Z7}{ps:List Str}
section
variable{G:ju}{fr:vN}
theorem Yj{F' H':Hp}{b:List D}(r:Rep C.K own F H σ ρ)(m:∀x,OA own σ x->H0 x≠iB)(hs:∀i∈jd as,i∈own)(nd:(jd as).Nodup)(k:ArgV C.K H0 F H σ as vs ds)(t:Same F' H')(c:Chg (LA (as.map xo) vs) F H F' H')(o:uR C.K F' H' (as.map xo) vs b):Rep C.K own F' H' σ (zy as b ρ):=by
 have pin:=JD (ρ:=ρ) nd (λi hi=>by obtain⟨d,e⟩:=r.opn i (hs i hi);exact(aA.mp e).1) k o;refine⟨t,by rw[zS];exact r.len,λi d hi e=>?_,λi d hi e=>?_,λi hi=>?_,r.dis⟩;·rw[wf (λz=>hi (hs i z))]at e;obtain⟨v,h1,h2⟩:=r.val i d hi e;exact⟨v,h1,h2.mono c.grow⟩
 .by_cases q:i∈jd as;·obtain⟨d',a,e1,w,s,p⟩:=pin i q;rw[e1]at e;cases e;exact⟨a,w,s,p⟩
  .rw[wf q]at e;obtain⟨a,h1,h2,g⟩:=r.ow i d hi e;have l:¬LA (as.map xo) vs a:=λz=>by
    rcases vc k z with⟨j,h,y⟩|⟨n,_⟩
    .exact q (by rw[r.dis i j a hi (hs j h) h1 y];exact h)
    .exact m a ⟨i,hi,h1⟩ n
   refine⟨a,h1,?_,g.grow c.grow λo' f=>c.keep a o' f l⟩;cases f:F' a with
   |none=>rfl
   |some u=>
    rcases c.new a (by rw[f];simp)with z|z|z;·exact absurd h2 z
    .exact absurd z g.there
    .exact absurd z l
 .by_cases q:i∈jd as;·obtain⟨d',a,e1,_⟩:=pin i q;exact⟨d',e1⟩
  .rw[wf q];exact r.opn i hi
theorem WG{Q:VK}(l:∀i∈C.ox,i∈own)(hs:∀i∈jd as,i∈own)(nd:(jd as).Nodup)(u:frA as<=1)(h:tE C own mr (qt as G fr) σ H Q):tAr C own as fr σ H λvs H1=>spD C.K C.cv (as.map xo) mr G (vs++[]) H1 Q C.E:=by
 obtain⟨F,ρ,s,h⟩:=h;have m:∀x,OA own σ x->H x≠none:=λx z=>(s.OA_there z).1;refine⟨F,ρ,s,?_⟩;unfold qt at h;cases k:fr ρ with
 | ok p=>
  rw[k]at h;obtain⟨ds,ρ1⟩:=p;intro vs F1 H1 a r f;rw[bv];have h1:Po C own mr σ F H (match kx as ds ρ1 with|some ds=>(match G ds with|.ok q=>.ok (q.1,zy as q.2 ρ1)|.exc c o=>.exc c (zy as (o.map (·.getD .non)) ρ1)|.bad=>.bad)|none=>.bad) Q:=h;cases q:kx as ds ρ1 with
  |none=>simp only[q]at h1;exact h1.elim
  | some g=>
   simp only[q]at h1;have lo:∀x,LA (as.map xo) vs x->OA own σ x\/H x=none:=λx z=>by
    rcases vc f z with⟨i,hi,e⟩|⟨n,_⟩
    .exact .inl ⟨i,hs i hi,e⟩
    .exact .inr n
   refine⟨F1,g,a.sub,yI a hs f q,uE a m hs nd u f,?_⟩;cases j:G g with
   |ok p=>rw[j]at h1;obtain⟨d,b⟩:=p;exact λv F' H' t c o mo=>h1 v F' H' (Yj a m hs nd f t c o) (r.trans c lo) (MoIs.back (Ha:=H1) r mo)
   |exc x o=>rw[j]at h1;exact λF' H' t c b=>h1 F' H' t ((Yj a m hs nd f t c b).ioIs l) (r.trans c lo)
   |bad=>rw[j]at h1;exact h1.elim
 |exc c=>rw[k]at h;exact h
 |bad=>rw[k]at h;exact h.elim
theorem qeT{CX:CXT}{k:Nat}{fd:lA}{p pos:Pos}(F:FnOk X.prog X.w X.K X.mg X.base CX k f fd ps (spD C.K C.cv ms mr G))(c:Room k X.A)(hg:Gl X x)(m:X.mg x=iw (.ref f))(a:mC X.K (.ref f)=iD)(hb:Binds X.K fd ps [])(hx:kr CX X C.E)(j:PA X (e::es) (tAr C own as fr))(s:ms=as.map xo:=by rfl)(hs:∀i∈jd as,i∈own:=by decide)(nd:(jd as).Nodup:=by decide)(d:frA as<=1:=by decide)(o:∀i∈C.ox,i∈own:=by exact kZ rfl)(b:Dbg x:=by decide)(g:iI (e::es) X.env=(iE,Z0 e X.env)::iI es X.env:=by exact jq rfl)(l:(j0 pos (iI es X.env)).any (·.1)=false:=by exact uC rfl):PE X (.Call (.Name x p) (e::es) [] pos) (tE C own mr (qt as G fr)):=by
 subst s;exact jy (ZV F c hg m a hb .nil hx j b g l) λσ H Q h=>WG o hs nd d h
end
structure ItIs(K:Y9)(F:Hp)(J:It)(ds:List D):Prop where
 go:∀i H,i<ds.length->Same F H->J.go i H
 yld:∀i Fi H x H' d,ds[i]?=iw d->Same F Fi->Same Fi H->J.yld i H x H'->∃F',Chg No Fi H F' H'/\Same F' H'/\Is K F' x d
 stop:∀i H,ds.length<=i->Same F H->J.stop i H
def PoI(C:Ct)(own:List Nat)(σ:St)(F H:Hp)(r:Out (List D×Sl))(R:It->Hp->Prop):Prop:=match r with
 |.ok (ds,ρ')=>∀J F' H',Rep C.K own F' H' σ ρ'->Chg (OA own σ) F H F' H'->ItIs C.K F' J ds->R J H'
 |.exc c ρ'=>∀F' H',Same F' H'->Gi C.K C.ox F' H' σ ρ'->Chg (OA own σ) F H F' H'->C.E (C.cv c) iB H'
 |.bad=>False
def tIt(C:Ct)(own:List Nat)(f:vN):TI:=λσ H R=>∃F ρ,Rep C.K own F H σ ρ/\PoI C own σ F H (f ρ) R
noncomputable def wE:D->Out (List D)
 |.lst xs=>.ok xs
 |.tup xs=>.ok xs
 |_=>.bad
def qkl(f:qV):vN:=λρ=>(f ρ).bind λp=>(wE p.1).bind λds=>.ok (ds,p.2)
theorem PoI.bindV{m:Mo}{o:Va}{k:D×Sl->Out (List D×Sl)}{Q:It->Hp->Prop}{R:VK}(hp:PoI C own σ F H (o.bind k) Q)(h:∀v F1 H1 d ρ1,Rep C.K own F1 H1 σ ρ1->Chg (OA own σ) F H F1 H1->MoIs C.K m H F1 H1 v d->PoI C own σ F H (k (d,ρ1)) Q->R v H1):Po C own m σ F H o R:=by
 cases o with
 |ok p=>exact λv F1 H1 a c mo=>h v F1 H1 p.1 p.2 a c mo hp
 |exc x=>exact hp
 |bad=>exact hp.elim
variable{g:D->Sl->Out Sl}{tg iter:Z4}{xs:List V}{gs:List D->Sl->Out Sl}
section
variable{f:qV}
theorem qco{t t':TI}(h:PI X tg e t)(i:∀σ H Q,t' σ H Q->t σ H Q):PI X tg e t':=⟨λZ9 s σ H R I hw=>h Z9 s σ H R I (i σ H R hw)⟩
theorem qg2(p:SqL K F a xs)(t:IsL K F xs ds):ItIs K F (Itl K a) ds where
 go:=λi H hi s=>by
  have hx:i<xs.length:=by rw[t.length];exact hi
  exact⟨xs,xs[i],s.seq p,by simp[hx]⟩
 yld:=λi Fi H x H' d e s1 s2 y=>by obtain⟨rfl,y⟩:=y;obtain⟨v,h1,h2⟩:=t.getD e;have q:=y xs ((s1.trans s2).seq p);rw[h1]at q;cases q;exact⟨Fi,.refl,s2,h2.mono s1⟩
 stop:=λi H hi s=>⟨xs,s.seq p,by rw[t.length];exact hi⟩
theorem qg3(p:SqT K F a xs)(t:IsL K F xs ds):ItIs K F (Itt K a) ds where
 go:=λi H hi s=>by
  have hx:i<xs.length:=by rw[t.length];exact hi
  exact⟨xs,xs[i],je s p,by simp[hx]⟩
 yld:=λi Fi H x H' d e s1 s2 y=>by obtain⟨rfl,y⟩:=y;obtain⟨v,h1,h2⟩:=t.getD e;have q:=y xs (je (s1.trans s2) p);rw[h1]at q;cases q;exact⟨Fi,.refl,s2,h2.mono s1⟩
 stop:=λi H hi s=>⟨xs,je s p,by rw[t.length];exact hi⟩
noncomputable def QD(lo:Int)(n:Nat):List D:=(aK n).map λk=>.int (lo+(k:Nat))
theorem qg4{lo:Int}:ItIs K F (Itr lo n) (QD lo n) where
 go:=λi H hi _=>by
  have:i<n:=by simpa[QD]using hi
  exact this
 yld:=λi Fi H x H' d e s1 s2 y=>by
  obtain⟨rfl,rfl⟩:=y;have e:d=.int (lo+i):=by
   unfold QD at e;rw[aJ]at e;cases q:(aK n)[i]? with
   |none=>rw[q]at e;cases e
   |some k=>
    rw[q]at e;have h:k=i:=by have:=aA.mp q;obtain⟨_,z⟩:=this;simpa using z.symm
    subst h;exact(aL.inj e).symm
  subst e;exact⟨Fi,.refl,s2,.int _⟩
 stop:=λi H hi _=>by
  have:n<=i:=by simpa[QD]using hi
  exact this
def ka(f:qV):vN:=λρ=>(f ρ).bind λp=>match p.1 with
 |.int j=>if -(2 ^ 62)<=j/\j<2 ^ 62 then .ok (QD 0 j.toNat,p.2)else .bad
 |_=>.bad
theorem vW{p:Pos}(hg:Gl X "range")(b:X.mg "range"=iB)(h:PE X e (tE C own m f))(hs:iI [e] X.env=[(iE,Z0 e X.env)]:=by exact qJ rfl):PI X tg (.Call (.Name "range" p) [e] [] pos) (tIt C own (ka f)):=by
 refine qco (ZK hg b (qP h jC hs) hs) λσ H R ⟨F,ρ,r,h⟩=>⟨F,ρ,r,PoI.bindV h λv F1 H1 d ρ1 a k c h1=>?_⟩
 cases d with
 |int j=>
  obtain rfl:=c.top.int;have h1:PoI C own σ F H (if -(2 ^ 62)<=j/\j<2 ^ 62 then .ok (QD 0 j.toNat,ρ1)else .bad) R:=h1;by_cases z:-(2 ^ 62)<=j/\j<2 ^ 62;·rw[Aa z]at h1;exact⟨j,rfl,z.1,z.2,h1 _ F1 H1 a k qg4⟩
  .rw[Ab z]at h1;exact h1.elim
 |_=>exact h1.elim
def tGd(C:Ct)(own:List Nat)(g:D->Sl->Out Sl):TG:=λv σ H Q=>∃F ρ d,Rep C.K own F H σ ρ/\Is C.K F v d/\∃ρ',g d ρ=.ok ρ'/\∀σ',Rep C.K own F H σ' ρ'->(∀b,OA own σ' b->OA own σ b)->(∀i∈C.io,σ'[i]?=σ[i]?)->Q σ' H
def qic(C:Ct)(own:List Nat)(g:List D->Sl->Out Sl):TGs:=λvs σ H Q=>∃F ρ ds,Rep C.K own F H σ ρ/\IsL C.K F vs ds/\∃ρ',g ds ρ=.ok ρ'/\∀σ',Rep C.K own F H σ' ρ'->(∀b,OA own σ' b->OA own σ b)->(∀i∈C.io,σ'[i]?=σ[i]?)->Q σ' H
theorem qg5{t t':TG}(h:PG X e t)(i:∀v σ H Q,t' v σ H Q->t v σ H Q):PG X e t':=⟨λZ9 s σ H v u Q I r hw=>h Z9 s σ H v u Q I r (i v σ H Q hw)⟩
theorem qdJ{t t':TGs}(h:PGs X es t)(i:∀v σ H Q,t' v σ H Q->t v σ H Q):PGs X es t':=⟨λZ9 s σ H v u Q I r hw=>h Z9 s σ H v u Q I r (i v σ H Q hw)⟩
noncomputable def gNm(i:Nat):D->Sl->Out Sl:=λd ρ=>if i < ρ.length then .ok (ρ.set i (iw d))else .bad
theorem uF{own:List Nat}(h:i∉own):vM own [i]=own:=by unfold vM;rw[cQ];intro j D;simp only[aN,decide_eq_true_eq];exact λz=>h (by rw[<-z];exact D)
theorem Yk(c:X.N.Nodup)(hi:X.N[i]?=iw x)(hx:Loc X.env.scope x)(l:i∉own:=by decide)(o:i∉C.io:=by exact wH rfl)(h:X.fn x=iD\/X.env.scope.names.lookup x=iw .local:=by first|exact .inl rfl|exact .inr rfl):PG X (.Name x pos) (tGd C own (gNm i)):=by
 refine qg5 (qek c hi hx h) λv σ H Q a=>?_;obtain⟨F,ρ,d,r,is,ρ',e,k⟩:=a;unfold gNm at e;by_cases z:i < ρ.length
 .rw[Aa z]at e;cases e;have r2:=r.put z is;rw[uF l]at r2;refine k _ r2 (λb q=>?_) λj D=>ai λq=>o (by rw[q];exact D);have f:OA (vM own [i]) (σ.set i (iw v)) b:=by rw[uF l];exact q
  exact f.put
 .rw[Ab z]at e;cases e
noncomputable def kb:List D->Sl->Out Sl
 |[],ρ=>.ok ρ
 |_::_,_=>.bad
def qH(g:D->Sl->Out Sl)(gs:List D->Sl->Out Sl):List D->Sl->Out Sl
 |d::ds,ρ=>(g d ρ).bind λρ1=>gs ds ρ1
 |[],_=>.bad
theorem vD:PGs X [] (qic C own kb):=by
 refine qdJ qel λvs σ H Q a=>?_;obtain⟨F,ρ,ds,r,is,ρ',e,k⟩:=a;cases is with
 |nil=>cases e;exact⟨rfl,k σ r (λ_ z=>z) λ_ _=>rfl⟩
 |cons _ _=>cases e
theorem qM(h1:PG X e (tGd C own g))(h2:PGs X es (qic C own gs))(hs:(j4 (e::es) X.env).map (·.2)=assign e X.env::(j4 es X.env).map (·.2):=by rfl):PGs X (e::es) (qic C own (qH g gs)):=by
 refine qdJ (qbT h1 h2 hs) λvs σ H Q n=>?_;obtain⟨F,ρ,ds,p,is,ρ',e,k⟩:=n;cases is with
 |nil=>cases e
 |@cons v d vs ds a t=>
  have e:(g d ρ).bind (λρ1=>gs ds ρ1)=.ok ρ':=e;cases q:g d ρ with
  |ok ρ1=>rw[q]at e;exact⟨v,vs,rfl,F,ρ,d,p,a,ρ1,q,λσ1 h j m=>⟨F,ρ1,ds,h,t,ρ',e,λf r o l=>k f r (λb z=>j b (o b z)) λi hi=>(l i hi).trans (m i hi)⟩⟩
  |exc c=>rw[q]at e;cases e
  |bad=>rw[q]at e;cases e
noncomputable def kc(n:Nat)(gs:List D->Sl->Out Sl):D->Sl->Out Sl
 |.tup ds,ρ=>if ds.length=n then gs ds ρ else .bad
 |_,_=>.bad
theorem wJ{k:Nat}(l:C.K=X.K)(g:X.calm=iD)(h:PGs X es (qic C own gs))(f:(j4 es X.env).length=n:=by rfl)(c:(j4 es X.env).findIdx? (·.1)=none:=by rfl):PG X (.Tuple es k pos) (tGd C own (kc n gs)):=by
 refine qg5 (qgt g h f c) λv σ H Q b=>?_;obtain⟨F,ρ,d,r,is,ρ',e,k⟩:=b;cases is with
 |@tup a xs ds p t=>
  have e:(if ds.length=n then gs ds ρ else .bad)=.ok ρ':=e;by_cases z:ds.length=n;·rw[Aa z]at e;exact⟨a,xs,rfl,by rw[<-l];exact je r.sub p,by rw[t.length];exact z,F,ρ,ds,r,t,ρ',e,k⟩
  .rw[Ab z]at e;cases e
 |_=>cases e
def qg6(fe:qV)(g:D->Sl->Out Sl):qS:=λρ=>(fe ρ).bind λp=>match g p.1 p.2 with
 |.ok ρ'=>.ok (.nx,ρ')
 |_=>.bad
theorem GC(k:PE X e (tE C own m f))(hg:PG X tg (tGd C own g))(j:m≠.any:=by decide)(hs:lE [tg] e pos.line X.env=pure false:=by rfl)(hw:lF [tg] e X.env=pure none:=by rfl)(h1:(j4 [tg] X.env).map (·.2)=[assign tg X.env]:=by rfl):PS X (.Assign [tg] e pos) (tSt C own own (qg6 f g)):=by
 refine xl (ZI (wC k j) hg hs hw h1) λD σ H ⟨F,ρ,p,h⟩=>⟨F,ρ,p,PoS.bindE h λv F1 H1 d ρ1 a l i h1=>?_⟩
 cases q:g d ρ1 with
 |ok ρ'=>simp only[q]at h1;exact⟨F1,ρ1,d,a,i,ρ',q,λσ' r oa io=>h1 σ' F1 H1 ⟨r,.refl,λb z=>.inl (oa b z),io⟩⟩
 |exc c=>simp only[q]at h1;exact h1.elim
 |bad=>simp only[q]at h1;exact h1.elim
def kL(g:D->Sl->Out Sl)(fb:qS):List D->qS
 |[],ρ=>.ok (.nx,ρ)
 |d::ds,ρ=>(g d ρ).plain.bind λρ1=>(fb ρ1).bind λp=>match p.1 with
  |.nx=>kL g fb ds p.2
  |.ct=>kL g fb ds p.2
  |.bk=>.ok (.nx,p.2)
  |.rt v=>.ok (.rt v,p.2)
def JE(fi:vN)(g:D->Sl->Out Sl)(fb:qS):qS:=λρ=>(fi ρ).bind λp=>kL g fb p.1 p.2
theorem ke{body:List Z3}{fi:vN}{fb:qS}(hp:mL (Z6 X.prog X.w) X.A X.env X.xe)(S:X.calm=iD)(hi:PI X tg iter (tIt C own fi))(hg:PG X tg (tGd C own g))(hb:PSs X body (tSt { C with ol:=own } own own fb))(hs:∀x,j9 iter X.env x=pure x:=by intro _;rfl):PS X (.For tg iter body [] pos) (tSt C own own (JE fi g fb)):=by
 refine xl (qdE hp S hi hg hb hs) λD σ H ⟨F,ρ,Q,h⟩=>⟨F,ρ,Q,?_⟩
 unfold JE at h;cases I:fi ρ with
 |exc c=>rw[I]at h;exact h
 |bad=>rw[I]at h;exact h.elim
 | ok p=>
  rw[I]at h;obtain⟨ds,ρ1⟩:=p;intro J F1 H1 B P it;have h:PoS C own own σ F H (kL g fb ds ρ1) D:=h;refine⟨λi m σ' H'=>m=ds.length - i/\i<=ds.length/\∃F' ρ',Nx C own own σ F H ρ' σ' F' H'/\Same F1 F'/\PoS C own own σ' F' H' (kL g fb (ds.drop i) ρ') D,⟨ds.length,by simp,aZ _,F1,ρ1,.ofE B P,Same.refl _,h.shift (.ofE B P)⟩,?_⟩;rintro i m σ' H' ⟨rfl,R,F',ρ',nx,gr,po⟩;by_cases t:i<ds.length
  .have hd:ds.drop i=ds[i]::ds.drop (i+1):=dH t;rw[hd]at po;have po:PoS C own own σ' F' H' ((g ds[i] ρ').plain.bind λρ1=>(fb ρ1).bind λp=>match p.1 with|.nx=>kL g fb (ds.drop (i+1)) p.2|.ct=>kL g fb (ds.drop (i+1)) p.2|.bk=>.ok (.nx,p.2)|.rt v=>.ok (.rt v,p.2)) D:=po;refine .inr ⟨it.go i H' t (gr.trans nx.rep.sub),λo H2=>ds.length - (i+1)=ds.length - (i+1)/\i+1<=ds.length/\∃F' ρ',Nx C own own σ F H ρ' o F' H2/\Same F1 F'/\PoS C own own o F' H2 (kL g fb (ds.drop (i+1)) ρ') D,λo H2 q=>⟨ds.length - (i+1),by omega,q⟩,λx H2 y=>?_⟩;obtain⟨r,c2,s2,N⟩:=it.yld i F' H' x H2 ds[i] (by simp[t]) gr nx.rep.sub y;cases E:g ds[i] ρ' with
   |exc c=>rw[E]at po;exact po.elim
   |bad=>rw[E]at po;exact po.elim
   | ok ρ2=>
    rw[E]at po;refine⟨r,ρ',ds[i],nx.rep.grow c2 s2,N,ρ2,E,λk u K O=>⟨r,ρ2,u,?_⟩⟩;have M:Nx C own own σ' F' H' ρ2 k r H2:=⟨u,c2.ofNo,λb z=>.inl (K b z),O⟩
    have a:=PoS.shift (show PoS C own own σ' F' H' ((fb ρ2).bind λp=>match p.1 with|.nx=>kL g fb (ds.drop (i+1)) p.2|.ct=>kL g fb (ds.drop (i+1)) p.2|.bk=>.ok (.nx,p.2)|.rt v=>.ok (.rt v,p.2)) D from po) M;have up:∀{j f L l},Nx { C with ol:=own } own own k r H2 j f L l->Nx C own own k r H2 j f L l:=λz=>⟨z.rep,z.chg,z.oa,z.io⟩
    cases G:fb ρ2 with
    |exc c=>rw[G]at a;exact a
    |bad=>rw[G]at a;exact a.elim
    |ok p=>
     rw[G]at a;obtain⟨fl,j⟩:=p;cases fl with
     |nx=>exact λf L l n=>⟨rfl,t,L,j,(nx.then M).then (up n),(gr.trans c2.grow).trans n.chg.grow,PoS.shift (show PoS C own own k r H2 (kL g fb (ds.drop (i+1)) j) D from a) (up n)⟩
     |ct=>exact λf L l n=>⟨rfl,t,L,j,(nx.then M).then (up n),(gr.trans c2.grow).trans n.chg.grow,PoS.shift (show PoS C own own k r H2 (kL g fb (ds.drop (i+1)) j) D from a) (up n)⟩
     |bk=>exact λf L l n=>a f L l (up n)
     |rt d=>exact λv f L l s io c e mo=>a v f L l s io c e mo
  .have e:i=ds.length:=by omega
   subst e;rw[fU]at po;exact .inl ⟨it.stop _ H' (aq _) (gr.trans nx.rep.sub),po σ' F' H' (.refl nx.rep)⟩
def jG(ft:yl)(fb:qS):Nat->qS
 | 0,_=>.bad
 |n+1,ρ=>(ft ρ).bind λq=>if q.1=iD then(fb q.2).bind λp=>match p.1 with
  |.nx=>jG ft fb n p.2
  |.ct=>jG ft fb n p.2
  |.bk=>.ok (.nx,p.2)
  |.rt v=>.ok (.rt v,p.2)
  else .ok (.nx,q.2)
theorem gp{body:List Z3}{ft:yl}{fb:qS}(n:Nat)(hp:mL (Z6 X.prog X.w) X.A X.env X.xe)(ht:PT X t (tT C own ft))(hb:PSs X body (tSt { C with ol:=own } own own fb)):PS X (.While t body [] pos) (tSt C own own (jG ft fb n)):=by
 refine xl (qbU hp ht hb) λD σ H x=>?_;obtain⟨F,ρ,y,h⟩:=x;refine⟨λm σ' H'=>∃F' ρ',Rep C.K own F' H' σ' ρ'/\PoS C own own σ' F' H' (jG ft fb m ρ') D,⟨n,F,ρ,y,h⟩,?_⟩;rintro m σ1 H1 ⟨F1,ρ1,l,po⟩;refine⟨F1,ρ1,l,?_⟩;cases m with
 |zero=>exact po.elim
 | succ m=>
  have po:PoS C own own σ1 F1 H1 ((ft ρ1).bind λq=>if q.1=iD then(fb q.2).bind λp=>match p.1 with|.nx=>jG ft fb m p.2|.ct=>jG ft fb m p.2|.bk=>.ok (.nx,p.2)|.rt v=>.ok (.rt v,p.2)else .ok (.nx,q.2)) D:=po;refine PoS.bindT po λj H2 k ρ2 r c2 h2=>?_;cases k with
  |false=>exact h2 σ1 j H2 (.refl r)
  | true=>
   refine⟨λg u=>∃F' ρ',Rep C.K own F' u g ρ'/\PoS C own own g F' u (jG ft fb m ρ') D,λg u q=>⟨m,by omega,q⟩,j,ρ2,r,?_⟩;have h2:PoS C own own σ1 j H2 ((fb ρ2).bind λp=>match p.1 with|.nx=>jG ft fb m p.2|.ct=>jG ft fb m p.2|.bk=>.ok (.nx,p.2)|.rt v=>.ok (.rt v,p.2)) D:=h2;have up:∀{a f L b},Nx { C with ol:=own } own own σ1 j H2 a f L b->Nx C own own σ1 j H2 a f L b:=λz=>⟨z.rep,z.chg,z.oa,z.io⟩
   cases o:fb ρ2 with
   |exc c=>rw[o]at h2;exact h2
   |bad=>rw[o]at h2;exact h2.elim
   |ok p=>
    rw[o]at h2;obtain⟨fl,a⟩:=p;cases fl with
    |nx=>exact λf L b i=>⟨L,a,i.rep,PoS.shift (show PoS C own own σ1 j H2 (jG ft fb m a) D from h2) (up i)⟩
    |ct=>exact λf L b i=>⟨L,a,i.rep,PoS.shift (show PoS C own own σ1 j H2 (jG ft fb m a) D from h2) (up i)⟩
    |bk=>exact λf L b i=>h2 f L b (up i)
    |rt d=>exact λv f L b s io c e mo=>h2 v f L b s io c e mo
end
noncomputable def KI(cells:List (Str×Z7)):List (Str×lv)->List (Str×Z7)->List (Str×Z7)
 |[],acc=>acc
 |(n,k)::r,acc=>if (k == .free)=iD then KI cells r ((n,(cells.lookup n).getD 0)::acc)else KI cells r acc
variable{env:Env}
theorem wK:∀(names:List (Str×lv))(acc:List (Str×Z7)),(∀x∈names,x.2=.free->∃c,env.cells.lookup x.1=iw c) ->(forIn names acc λ(x:Str×lv)(cs:List (Str×Z7))=>if (x.2 == bz)=iD then(do let a <-cellOf env x.1;pure (cj ((x.1,a)::cs)))else pure (cj cs):Sem (List (Str×Z7)))=pure (KI env.cells names acc)
 |[],acc,_=>rfl
 | (n,k)::r,acc,h=>by
  rw[dQ];by_cases q:(k == bz)=iD
  .obtain⟨c,d⟩:=h (n,k) au (by simpa using q);have e:cellOf env n=pure c:=by unfold cellOf;rw[d]
   simp only[q,if_true,e];have j:=wK r ((n,c)::acc) (λx hx=>h x (ae _ hx));simp only[KI,q,if_true,d,Option.getD_some];exact j
  .simp only[q,if_false,KI];exact wK r acc (λx hx=>h x (ae _ hx))
variable{scope:lX}
theorem QW(h:∀x∈scope.names,x.2=.free->∃c,env.cells.lookup x.1=iw c):closureFor scope env=pure (KI env.cells scope.names []):=by have:=wK scope.names [] h;unfold closureFor;simp only[bind_pure];exact this
variable{cells:List (Str×Z7)}
theorem ym:∀{names:List (Str×lv)}{acc:List (Str×Z7)}{x:Str}{c:Z7},(∀y∈names,y.2=.free->∃c,cells.lookup y.1=iw c)->(KI cells names acc).lookup x=iw c->cells.lookup x=iw c\/acc.lookup x=iw c
 |[],acc,x,c,_,h=>.inr h
 | (n,k)::r,acc,x,c,hf,h=>by
  unfold KI at h;by_cases q:(k == bz)=iD
  .rw[Aa q]at h;obtain⟨S,d⟩:=hf (n,k) au (by simpa using q);rcases ym (λy a=>hf y (ae _ a)) h with z|z;·exact .inl z
   .rw[bJ]at z;have d:cells.lookup n=iw S:=d;by_cases e:(x == n)=iD
    .rw[e]at z;simp only[d,Option.getD_some]at z;have:x=n:=by simpa using e
     subst this;rw[d];exact .inl z
    .have e:(x == n)=false:=by simpa using e
     rw[e]at z;exact .inr z
  .rw[Ab q]at h;exact ym (λy a=>hf y (ae _ a)) h
theorem JF:∀{names:List (Str×lv)}{acc:List (Str×Z7)}{x:Str},(∃c,acc.lookup x=iw c)->∃c,(KI cells names acc).lookup x=iw c
 |[],_,_,h=>h
 | (n,k)::r,acc,x,h=>by
  unfold KI;by_cases q:(k == bz)=iD
  .rw[Aa q];refine JF ?_;obtain⟨c,d⟩:=h;rw[bJ];by_cases e:(x == n)=iD;·rw[e];exact⟨_,rfl⟩
   .have e:(x == n)=false:=by simpa using e
    rw[e];exact⟨c,d⟩
  .rw[Ab q];exact JF h
theorem zT:∀{names:List (Str×lv)}{acc:List (Str×Z7)}{x:Str},(x,bz)∈names->∃c,(KI cells names acc).lookup x=iw c
 | (n,k)::r,acc,x,h=>by
  unfold KI;rcases ac.mp h with e|h
  .cases e;rw[Aa (by rfl)];refine JF ?_;rw[bJ,beq_self_eq_true];exact⟨_,rfl⟩
  .by_cases q:(k == bz)=iD;·rw[Aa q];exact zT h
   .rw[Ab q];exact zT h
def jw(X:Cx)(scope:lX)(N:List Str)(fp:List Z7)(L:Z7)(s:iF)(H:Hp):Cx:=
 { X with N:=N,s₀:=s,H₀:=H,env:=compEnvC scope (KI X.env.cells scope.names []) L X.env,outer:=X.stack,stack:=X.stack,ex:=fp,fn:=λ_=>iE,pn:=[],xe:=λ_ _=>False }
structure ScOk(X:Cx)(scope:lX):Prop where
 kind:scope.kind=.function
 nocell:∀y∈scope.names,y.2≠.cell
 names:∀y∈scope.names,y.2=.local->scope.names.lookup y.1=iw .local
 free:∀y∈scope.names,y.2=.free->X.env.kindOf y.1=iw .cell\/X.env.kindOf y.1=iw .free
 frl:∀y∈scope.names,y.2=.free->scope.names.lookup y.1=iw .free
theorem uG{a:α}:∀{l:List (Str×α)},l.lookup x=iw a->(x,a)∈l
 |[],h=>by simp at h
 | (n,k)::r,h=>by
  rw[bJ]at h;by_cases e:(x == n)=iD
  .rw[e]at h;have h:iw k=iw a:=h;cases h;have:x=n:=by simpa using e
   subst this;exact au
  .have e:(x == n)=false:=by simpa using e
   rw[e]at h;exact ae _ (uG h)
theorem xO{k:lv}(h:(relabel scope env).names.lookup x=iw k)(b:k=.cell\/k=.free)(a:∀y∈scope.names,y.2≠.cell):(x,bz)∈scope.names:=by
 have m:=uG h;obtain⟨⟨n,k'⟩,c,e⟩:=ay.mp m;dsimp only at e;by_cases q:(k' == bz&&env.scope.kind == .function&&env.kindOf n == iw .cell)=iD
 .rw[Aa q]at e;cases e;have:k'=.free:=by rw[aO,aO]at q;simpa using q.1.1
  subst this;exact c
 .rw[Ab q]at e;cases e;rcases b with rfl|rfl;·exact absurd rfl (a _ c)
  .exact c
theorem Vg(h:Vis (relabel scope env) x):∃k,(x,k)∈scope.names:=by
 have go:∀{k:lv},(relabel scope env).names.lookup x=iw k->∃k,(x,k)∈scope.names:=λ{k} h=>by
  obtain⟨⟨n,k'⟩,c,e⟩:=ay.mp (uG h);dsimp only at e;by_cases q:(k' == bz&&env.scope.kind == .function&&env.kindOf n == iw .cell)=iD;·rw[Aa q]at e;cases e;exact⟨_,c⟩
  .rw[Ab q]at e;cases e;exact⟨_,c⟩
 rcases h with h|h|h <;> exact go h
variable{Z9:Pns}{σc:St}{s s':iF}{fp:List Z7}{h':Z5}
section
theorem gq(I:Inv X Z9 σ H s)(S:ScOk X scope):∀y∈scope.names,y.2=.free->∃c,X.env.cells.lookup y.1=iw c:=λy k e=>I.ok.has y.1 (S.free y k e)
theorem qcp(I:Inv X Z9 σ H s)(S:ScOk X scope)(G:∀b∈fp,Wo X Z9 H b)(R:∀b∈fp,b<s.heap.objs.size)(B:h'.Ns s.heap.objs.size (λ_=>iB))(l:∀b o,s.heap.get? b=iw o->h'.get? b=iw o)(hl:σc.length=N.length)(A:∀(j:Nat)(x:Str)(v:V),N[j]?=iw x->σc[j]?=iw (iw v)->(∃k,(x,k)∈scope.names)->∃i:Nat,X.N[i]?=iw x/\σ[i]?=iw (iw v)/\Vis X.env.scope x/\(x,bz)∈scope.names){t:Nat} :
  Inv (jw X scope N fp s.heap.objs.size s H) [] σc H { s with heap:=h',toks:=t }:=by
 have E:=gq I S;have cl:∀x c,(KI X.env.cells scope.names []).lookup x=iw c->X.env.cells.lookup x=iw c:=λx c e=>(ym E e).resolve_right (by simp);have w:∀b∈fp,b∉frs X.stack:=λb hb z=>by
  obtain⟨f0,f1,f2,_⟩:=G b hb;rcases ac.mp (I.stkSub b z)with e|e;·exact f1 e
  .exact f2 e
 refine⟨⟨I.ok.mod,?_,I.ok.glob,I.ok.blt,aq _,λx y c h1 h2=>I.ok.inj x y c (cl x c h1) (cl y c h2),λx hx=>?_,λx c h=>absurd h (by show ¬(iE=iD);exact b8),I.ok.hd,I.ok.frames,.inl rfl,λb hb=>⟨ax (R b hb),λx c e z=>?_⟩,I.bs,bb I.ok.bsz I.sz,λb o e hb=>?_,w,I.stack,I.stkFree⟩,rfl,I.bare,Un.kept l,⟨_,B,λj x v e1 g P=>?_⟩,λx c e=>?_,I.hok.fresh (aq _),λx c e=>I.freeC x c (cl x c e),λp hp=>absurd (show p∈([]:Pns)from hp) (by simp),I.hok.kept l,hl⟩;·exact S.kind
 .refine zT ?_;rcases hx with hx|hx;·exact xO hx (.inl rfl) S.nocell
  .exact xO hx (.inr rfl) S.nocell
 .exact(G b hb).2.2.2.2.1 x c (cl x c e) z
 .rcases(G b hb).2.2.2.1 with z|z;·exact I.ok.noex b o e z
  .have C:=aw e;exact absurd (aH C (bb I.ok.bsz z)) (bS _)
 .obtain⟨i,g1,W,U,K⟩:=A j x v e1 g (Vg P);obtain⟨m,Y,D⟩:=I.loc;obtain⟨u,r,look⟩:=D i x v g1 W U;refine⟨u,r,?_⟩;obtain⟨L,f⟩:=zT (cells:=X.env.cells) (acc:=[]) K;have J:=cl x L f;have kd:(jw X scope N fp s.heap.objs.size s H).env.kindOf x=iw .cell\/(jw X scope N fp s.heap.objs.size s H).env.kindOf x=iw .free\/(jw X scope N fp s.heap.objs.size s H).env.kindOf x=iw .local:=by
   rcases P with z|z|z;·exact .inr (.inr z)
   .exact .inl z
   .exact .inr (.inl z)
  rcases look with⟨k,_⟩|⟨k,c,O,z⟩
  .rcases S.free _ K rfl with q|q;·have q:X.env.kindOf x=iw .cell:=q;rw[k]at q;cases q
   .have q:X.env.kindOf x=iw .free:=q;rw[k]at q;cases q
  .rw[J]at O;cases O;obtain⟨oc,d,a⟩:=z;rcases kd with q|q|q;·exact .inr ⟨.inl q,L,f,⟨oc,l _ _ d,a⟩⟩
   .exact .inr ⟨.inr q,L,f,⟨oc,l _ _ d,a⟩⟩
   .refine absurd q ?_;intro q;have Q:=uG (show(relabel scope X.env).names.lookup x=iw .local from q);obtain⟨⟨n,k'⟩,T,e⟩:=ay.mp Q;dsimp only at e;by_cases M:(k' == bz&&X.env.scope.kind == .function&&X.env.kindOf n == iw .cell)=iD;·rw[Aa M]at e;cases e
    .rw[Ab M]at e;cases e;have e1:=S.names _ T rfl;have g:=S.frl _ K rfl;have e1:scope.names.lookup x=iw .local:=e1;have g:scope.names.lookup x=iw .free:=g;rw[e1]at g;cases g
 .obtain⟨v,oc,d,a⟩:=I.cell x c (cl x c e);exact⟨v,oc,l _ _ d,a⟩
theorem qcq{H1:Hp}{s1:iF}{L:Z7}(I:Inv X Z9 σ H s)(h:∀b∈fp,Wo X Z9 H b)(J:Inv (jw X scope N fp s.heap.objs.size s H) [] σc H' s')(t:bh s.heap.objs.size s'.heap h'):Inv X Z9 σ H' { s' with heap:=h' }:=by
 have a:H' s.heap.objs.size=none:=J.free;have ne:∀b o,s.heap.get? b=iw o->b≠s.heap.objs.size:=λb o e=>ax (aw e);have U:Un (frs X.stack) fp H H' s.heap s'.heap:=J.base;refine I.call' (s':={ s' with heap:=h' }) (ch:=fp) J.os ⟨λb o e n h1 h2=>(t.2 b (ne b o e)).trans (U.keep b o e n h1 h2),λb o e n h1 h2=>?_,U.free,λb o e h2=>?_,U.tups,U.frzs,U.tbls⟩ (λb u e=>?_) J.bare λb hb=>?_;·obtain⟨sl,q⟩:=U.slot b o e n h1 h2;exact⟨sl,(t.2 b (ne b o e)).trans q⟩
 .obtain⟨o',q⟩:=U.there b o e h2;exact⟨o',(t.2 b (ne b o e)).trans q⟩
 .refine(J.hok b u e).stay (λc w d q=>(t.2 c ?_).trans q) (λ_ q=>q) λ_ _ q=>q;rintro rfl;rcases d with z|z;·rw[<-z,a]at e;cases e
  .rw[a]at z;cases z
 .obtain⟨f0,f1,f2,f,f4,m⟩:=h b hb;exact⟨f,f1,f4,m⟩
end
set_option tactic.hygienic true in
theorem JG{prog:iK}{w:iL}{A:iT}{R:mR->iF->Prop}{s:iF}{elt target iter:Z4}{ifs:List Z4}{scope:lX}{pos:Pos}{it acc:iC}{env:Env}(I:Nat->iF->Prop)
  (l:∀ n s,I n s->iH (Z6 prog w) A (j7 it) (λr d=>match r with
   |none=>R (.ok .next) d
   | some v=>iH (Z6 prog w) A (lZ target it v) (λ_ e=>iH (Z6 prog w) A (assign target env v) (λ_ i=>
     iH (Z6 prog w) A (forIn ifs iD λc r=>if r=iD then do let ok <-isTrue c env (Z0 c env);pure (cj ok)else pure (cj r)) (λok b=>
      if ok=iD then iH (Z6 prog w) A (Z0 elt env) (λx g=>
       iH (Z6 prog w) A (call (.builtin "list.append") [acc,x]) (λ_ f=>∃m,m<n/\I m f) (λ_ _=>False) g) (λ_ _=>False) b
      else ∃m,m<n/\I m b) (λ_ _=>False) i) (λ_ _=>False) e) (λ_ _=>False) d) (λ_ _=>False) s)
  (n:Nat) (h:I n s):lq (Z6 prog w) A (.compLoop (.ListComp elt [⟨target,iter,ifs,0⟩] scope pos) 0 it acc env) R s:=by
 have no:∀{α:Type}{t:Sem α}{Q y:α->iF->Prop}{E:iC->iF->Prop}{s:iF},iH (Z6 prog w) A t Q (λ_ _=>False) s->(∀a s,Q a s->y a s)->iH (Z6 prog w) A t y E s:=λh k=>lI h k λ_ _ z=>z.elim;refine codeAny_loop rfl I (λn s B=>?_) n h;show iH _ A ((compTurn (.ListComp elt [⟨target,iter,ifs,0⟩] scope pos) 0 it acc env).onRaise (λx=>do noteFrame x env;theTreesLotGoes x)) _ _ s;refine wpAny_noted ?_;rw[compTurn_list];refine iA (ml (iA (no (l n s B) λr d h₁=>?_)));cases r with
 |none=>exact iG h₁
 |some v=>
  refine iA (no h₁ λ_ e o=>iA (no o λ_ i u=>iA (no u λok b j=>?_)));cases ok with
  |false=>exact iG ⟨rfl,j⟩
  |true=>exact iA (iA (no j λx g q=>iA (no q λ_ f p=>iG (iG ⟨rfl,p⟩))))
structure PTs(Y:Cx)(ifs:List Z4)(t:TT):Prop where
 run:∀(Z9:Pns)(s:iF)(σ:St)(H:Hp)(Q:Bool->Hp->Prop),Inv Y Z9 σ H s->t σ H Q ->iH (Z6 Y.prog Y.w) Y.A (forIn ifs iD λc r=>if r=iD then do let ok <-isTrue c Y.env (Z0 c Y.env);pure (cj ok)else pure (cj r)) (TP Y Z9 σ Q) Y.xe s
instance{Y:Cx}{ifs:List Z4}{t:TT}:CoeFun (PTs Y ifs t) (λ_=>∀(Z9:Pns)(s:iF)(σ:St)(H:Hp)(Q:Bool->Hp->Prop),Inv Y Z9 σ H s->t σ H Q ->iH (Z6 Y.prog Y.w) Y.A (forIn ifs iD λc r=>if r=iD then do let ok <-isTrue c Y.env (Z0 c Y.env);pure (cj ok)else pure (cj r)) (TP Y Z9 σ Q) Y.xe s):=⟨λh=>h.run⟩
variable{Y:Cx}
theorem qeU:PTs Y [] (λ_ H Q=>Q iD H):=⟨λ_ _ _ H _ I h=>wpAny_tests_nil ⟨H,I,h⟩⟩
theorem yn{t:TT}(h:PT Y c t):PTs Y [c] t:=⟨λZ9 s σ H Q I q=>wpAny_tests_one (h Z9 s σ H Q I q)⟩
variable{ifs:List Z4}
section
variable{it:Z7}{tn:Nat->Z5->Prop}{J:It}{elt:Z4}{g:TG}{tt:TT}{te:TE}{E:iC->iF->Prop}
set_option tactic.hygienic true in
theorem qcr(I:Inv X Z9 σ H s)(P:X.calm=iD)(S:ScOk X scope)(T:Turn X.prog X.w X.K tg J fp it tn)(st0:tn 0 s.heap)(hf:∀b∈fp,Wo X Z9 H b)(hg:∀fp L s' H',PG (jw X scope N fp L s' H') tg g)(ht:∀fp L s' H',PTs (jw X scope N fp L s' H') ifs tt)(he:∀fp L s' H',PE (jw X scope N fp L s' H') elt te)(hl:σc.length=N.length)(hσ:∀(j:Nat)(x:Str)(v:V),N[j]?=iw x->σc[j]?=iw (iw v)->(∃k,(x,k)∈scope.names)->∃i:Nat,X.N[i]?=iw x/\σ[i]?=iw (iw v)/\Vis X.env.scope x/\(x,bz)∈scope.names)(W:Z7->Nat->Nat->St->Hp->Prop)(Fin:Z7->Hp->Prop)(w0:∀p,H p=iB->∃m,W p 0 m σc (upd H p (.lst [])))(F:∀p i m σ1 H1,W p i m σ1 H1->(J.stop i H1/\Fin p H1)\/(J.go i H1/\∀x H2,J.yld i H1 x H2->g x σ1 H2 λB H3=>tt B H3 λb H4=>if b=iD then te B H4 λy H5=>∃xs,H5 p=iw (.lst xs)/\xs.length<Z8/\∃c,c<m/\W p (i+1) c B (upd H5 p (.lst (xs++[y])))else ∃c,c<m/\W p (i+1) c B H4))(RR:iC->Z7->mR->iF->Prop)(hRR:∀p L H' s',Fin p H'->(∃m,s'.heap.Ns L m)->Wo X Z9 H' L->(∀h',bh L s'.heap h'->Inv X Z9 σ H' { s' with heap:=h' })->RR (.ref p) L (.ok .next) s') :
  iH (Z6 X.prog X.w) X.A (newList []) (λacc s₃=>iH (Z6 X.prog X.w) X.A (newFunctionEnv scope X.env.globals (KI X.env.cells scope.names []) [] X.env.qual iB .none (iw X.env)) (λG s₄=>
   lq (Z6 X.prog X.w) X.A (.compStart (.ListComp elt [⟨tg,iter,ifs,0⟩] scope pos) 0 (.ref it) acc { G with scope:=relabel scope X.env }) (RR acc G.locals) s₄) E s₃) E s:=by
 have hfo:∀b∈fp,b<s.heap.objs.size:=λb hb=>let ⟨o,e,_⟩:=T.obj 0 _ st0 b hb;aw e;have D:=I.fresh;have I3:Inv X Z9 σ (upd H s.heap.objs.size (.lst [])) { s with heap:=s.heap.push { cls:=.type "list",data:=.seq ([]:List iC).toArray } }:=I.lnew (t':=s.toks) (ys:=[]) (its:=[]) .nil (aZ _);have O:∀b∈fp,Wo X Z9 (upd H s.heap.objs.size (.lst [])) b:=λb hb=>⟨by rw[qv (ax (hfo b hb))];exact(hf b hb).1,(hf b hb).2⟩
 have st3:tn 0 (s.heap.push { cls:=.type "list",data:=.seq ([]:List iC).toArray }):=T.keep 0 _ _ st0 λb hb o e=>aa _ e;refine iS (wpAny_newFunctionEnv S.nocell (λy hy=>by simp at hy) (λh₁ a h=>?_) S.kind);dsimp only at a h ⊢;generalize hs3:({ s with heap:=s.heap.push { cls:=.type "list",data:=.seq ([]:List iC).toArray } }:iF)=s3 at I3;have e3:s3.heap=s.heap.push { cls:=.type "list",data:=.seq ([]:List iC).toArray }:=by rw[<-hs3]
 rw[<-e3]at a h st3 ⊢;have keep:∀b o,s3.heap.get? b=iw o->h₁.get? b=iw o:=λb o e=>(h.2 b (ax (aw e))).trans (aa _ e);have ho3:∀b∈fp,b<s3.heap.objs.size:=λb hb=>by rw[e3,aX];exact cg (hfo b hb)
 have J1:Inv (jw X scope N fp s3.heap.objs.size s3 (upd H s.heap.objs.size (.lst []))) [] σc (upd H s.heap.objs.size (.lst [])) { s3 with heap:=h₁,toks:=s.toks+0 }:=
  qcp I3 S O ho3 (by simpa using a) keep hl hσ
 have st4:tn 0 h₁:=T.keep 0 _ _ st3 λb hb o e=>keep b o e;have loop:∀s4:iF,s4={ s3 with heap:=h₁,toks:=s.toks+0 }->lq (Z6 X.prog X.w) X.A (.compLoop (.ListComp elt [⟨tg,iter,ifs,0⟩] scope pos) 0 (.ref it) (.ref s.heap.objs.size) (compEnvC scope (KI X.env.cells scope.names []) s3.heap.objs.size X.env)) (RR (.ref s.heap.objs.size) s3.heap.objs.size) s4:=by
  rintro s4 rfl;generalize C:jw X scope N fp s3.heap.objs.size s3 (upd H s.heap.objs.size (.lst []))=Y at J1;have eP:Y.prog=X.prog:=by rw[<-C];rfl
  have ew:Y.w=X.w:=by rw[<-C];rfl
  have eA:Y.A=X.A:=by rw[<-C];rfl
  have ee:Y.env=compEnvC scope (KI X.env.cells scope.names []) s3.heap.objs.size X.env:=by rw[<-C];rfl
  have eK:Y.K=X.K:=by rw[<-C];rfl
  have ec:Y.calm=true:=by rw[<-C];exact P
  have ex:Y.xe=λ_ _=>False:=by rw[<-C];rfl
  have hgY:PG Y tg g:=by rw[<-C];exact hg fp _ _ _
  have htY:PTs Y ifs tt:=by rw[<-C];exact ht fp _ _ _
  have heY:PE Y elt te:=by rw[<-C];exact he fp _ _ _
  have t:∀{H1:Hp},(∀b∈fp,H1 b=iB)->∀b∈fp,Wo Y [] H1 b:=λhn b hb=>by have q:=J1.ok.exf b (by rw[<-C];exact hb);refine⟨hn b hb,q.1,J1.ok.exfs b (by rw[<-C];exact hb),.inl (by rw[<-C];exact hb),q.2,λp hp=>?_⟩;rw[<-C]at hp;exact absurd (show p∈([]:Pns)from hp) (by simp)
  obtain⟨m0,hm0⟩:=w0 s.heap.objs.size D;refine JG (λn s'=>∃i σ1 H1,Inv Y [] σ1 H1 s'/\tn i s'.heap/\(∀b∈fp,H1 b=iB)/\W s.heap.objs.size i n σ1 H1) ?_ m0 ⟨0,σc,_,J1,st4,λb hb=>(O b hb).1,hm0⟩;rintro n s5 ⟨i,σ1,H1,J5,st5,fr5,w5⟩;rw[<-eP,<-ew,<-eA,<-ee];have TY:Turn Y.prog Y.w Y.K tg J fp it tn:=by rw[eP,ew,eK];exact T
  rcases F _ i n σ1 H1 w5 with⟨stop,fin⟩|⟨go,step⟩
  .refine thn (TY.done Y rfl rfl rfl ec i [] s5 σ1 H1 _ J5 (t fr5) st5 stop) λr s6 z=>?_;obtain⟨hr,J6⟩:=z;subst hr;have Q:Inv (jw X scope N fp s3.heap.objs.size s3 (upd H s.heap.objs.size (.lst []))) [] σ1 H1 s6:=by rw[C];exact J6
   exact hRR _ _ H1 s6 fin (let ⟨m,hn,_⟩:=Q.loc; ⟨m,hn⟩) (I3.fpOk (aq _) Q.free) λh' sb=>qcq (s1:=s6) (H1:=H1) (L:=0) I3 O Q sb
  .refine thn (TY.item Y rfl rfl rfl ec i [] s5 σ1 H1 _ J5 (t fr5) st5 go) λr s6 z=>?_;obtain⟨u,hr,h6⟩:=z;subst hr;refine thn h6 λ_ s7 z=>?_;obtain⟨x,H7,J7,r7,y7,M,fr7⟩:=z;have J7':=J7.pinned (t fr7) (TY.obj _ _ M);have back:∀{f:St}{Z:Hp}{R:iF},Inv Y ([]++KN fp s7.heap) f Z R->(∃c,c<n/\W s.heap.objs.size (i+1) c f Z)->∃m,m<n/\∃i σ1 H1,Inv Y [] σ1 H1 R/\tn i R.heap/\(∀b∈fp,H1 b=iB)/\W s.heap.objs.size i m σ1 H1:=λ{f Z R} U ⟨c,hm,w9⟩=>by refine⟨c,hm,i+1,f,Z,U.unpinned,TY.keep _ _ _ M λb hb o e=>(U.pin (b,o) (be _ (be _ (uB hb e)))).1,λb hb=>?_,w9⟩;obtain⟨o,e,d⟩:=TY.obj _ _ M b hb;exact(U.pin (b,o) (be _ (be _ (uB hb e)))).2.1
   rw[<-ex];refine thn (hgY _ s7 σ1 H7 x u _ J7' r7 (step x H7 y7)) λ_ s8 z=>?_;obtain⟨l,H8,J8,q8⟩:=z;refine thn (htY _ s8 l H8 _ J8 q8) λok R z=>?_;obtain⟨Z,U,q9⟩:=z;cases ok with
   |false=>exact back U q9
   |true=>refine thn (heY _ R l Z _ U q9) λv s10 z=>?_;obtain⟨y,H10,J10,r10,xs,hx,hlen,q10⟩:=z;exact thn (KW _ s10 l H10 (.ref s.heap.objs.size) [y] (.ref s.heap.objs.size) [v] (λ_ H11=>∃c,c<n/\W s.heap.objs.size (i+1) c l H11) J10 rfl (.cons r10 .nil) ⟨_,xs,y,rfl,rfl,hx,hlen,q10⟩) λ_ s11 ⟨_,H11,J11,_,q11⟩=>back J11 q11
 have e4:({ heap:=h₁,gens:=s.gens,drawn:=s.drawn,toks:=s.toks+([]:List (Str×iC)).length,os:=s.os }:iF)={ s3 with heap:=h₁,toks:=s.toks+0 }:=by rw[<-hs3];rfl
 exact codeAny_compStart_list (loop _ e4) (T.self _ 0 _ _ _ st4 (loop _ e4))
end
noncomputable def ky(nt:Nat)(cap:List Nat)(ρ:List (Option α)):List (Option α):=aS nt iB++cap.map λk=>(ρ[k]?).getD iB
noncomputable def wF(own:List Nat):Nat->List Nat->List Nat
 |_,[]=>[]
 |n,k::cap=>if k∈own then n::wF own (n+1) cap else wF own (n+1) cap
noncomputable def ioC(nt len:Nat):List Nat:=(aK len).map (nt + ·)
noncomputable def jK(own:List Nat)(ρc:Sl):Nat->List Nat->Sl->Sl
 |_,[],ρ=>ρ
 |n,k::cap,ρ=>if k∈own then jK own ρc (n+1) cap (ρ.set k ((ρc[n]?).getD iB))else jK own ρc (n+1) cap ρ
variable{nt:Nat}{cap:List Nat}
theorem vd{ρ:List (Option α)}{d:α}:(ky nt cap ρ)[i]?=iw (iw d)↔∃j k,i=nt+j/\cap[j]?=iw k/\ρ[k]?=iw (iw d):=by
 unfold ky;constructor
 .intro h;by_cases hi:i<nt;·rw[cD (by simpa using hi),dX]at h;split at h <;> cases h
  .rw[cy (by simpa using hi),cA,aJ]at h;cases q:cap[i - nt]? with
   |none=>rw[q]at h;cases h
   |some k=>
    rw[q]at h;have h:(ρ[k]?).getD iB=iw d:=aL.inj h;refine⟨i - nt,k,by lia,q,?_⟩;cases a:ρ[k]? with
    |none=>rw[a]at h;cases h
    |some o=>rw[a]at h;exact congrArg iw h
 .rintro⟨j,k,rfl,h1,h2⟩;rw[cy (by simp),cA,aJ,show nt+j - nt=j by lia,h1];simp[h2]
theorem jS{own:List Nat}:∀{n:Nat}{cap:List Nat}{i:Nat},i∈wF own n cap↔∃j k,i=n+j/\cap[j]?=iw k/\k∈own
 |n,[],i=>by simp[wF]
 | n,k::cap,i=>by
  have a:=@jS own (n+1) cap i;unfold wF;by_cases h:k∈own
  .rw[Aa h,ac,a];constructor
   .rintro(rfl|⟨j,k',e,h1,h2⟩);·exact⟨0,k,rfl,rfl,h⟩
    .exact⟨j+1,k',by lia,by simpa using h1,h2⟩
   .rintro⟨j,k',e,h1,h2⟩;cases j with
    |zero=>exact .inl (by lia)
    |succ j=>exact .inr ⟨j,k',by lia,by simpa using h1,h2⟩
  .rw[Ab h,a];constructor;·rintro⟨j,k',e,h1,h2⟩;exact⟨j+1,k',by lia,by simpa using h1,h2⟩
   .rintro⟨j,k',e,h1,h2⟩;cases j with
    |zero=>simp at h1;subst h1;exact absurd h2 h
    |succ j=>exact⟨j,k',by lia,by simpa using h1,h2⟩
theorem JH{len:Nat}:i∈ioC nt len↔∃j,j<len/\i=nt+j:=by
 unfold ioC;rw[ay];constructor;·rintro⟨j,h1,h2⟩;exact⟨j,bq.mp h1,h2.symm⟩
 .rintro⟨j,h1,h2⟩;exact⟨j,bq.mpr h1,h2.symm⟩
variable{ρc:Sl}
theorem xp:∀{n:Nat}{cap:List Nat}{ρ:Sl},(jK own ρc n cap ρ).length=ρ.length
 |_,[],_=>rfl
 |n,k::cap,ρ=>by
  unfold jK;by_cases h:k∈own;·rw[Aa h,xp,bZ]
  .rw[Ab h,xp]
theorem kU:∀{n:Nat}{cap:List Nat}{ρ:Sl}{i:Nat},¬(i∈cap/\i∈own)->(jK own ρc n cap ρ)[i]?=ρ[i]?
 |_,[],_,_,_=>rfl
 |n,k::cap,ρ,i,h=>by
  unfold jK;have h':¬(i∈cap/\i∈own):=λz=>h ⟨ae _ z.1,z.2⟩;by_cases a:k∈own;·rw[Aa a,kU h',ai (λe=>h ⟨ac.mpr (.inl e.symm),by rw[<-e];exact a⟩)]
  .rw[Ab a,kU h']
theorem yJ:∀{n:Nat}{cap:List Nat}{ρ:Sl}{j k:Nat}{d:D},cap.Nodup->cap[j]?=iw k->k∈own->k < ρ.length->ρc[n+j]?=iw (iw d)->(jK own ρc n cap ρ)[k]?=iw (iw d)
 |_,[],_,_,_,_,_,h,_,_,_=>by simp at h
 |n,k0::cap,ρ,0,k,d,nd,h,hk,hl,e=>by simp at h;subst h;obtain⟨n1,n2⟩:=ba.mp nd;unfold jK;rw[Aa hk,kU (λz=>n1 z.1),aB hl];have e:ρc[n]?=iw (iw d):=e;rw[e];rfl
 |n,k0::cap,ρ,j+1,k,d,nd,h,hk,hl,e=>by
  obtain⟨n1,n2⟩:=ba.mp nd;have h:cap[j]?=iw k:=by simpa using h
  have e:ρc[n+1+j]?=iw (iw d):=by rw[show n+1+j=n+(j+1) by lia];exact e
  unfold jK;by_cases a:k0∈own;·rw[Aa a];exact yJ n2 h hk (by rw[bZ];exact hl) e
  .rw[Ab a];exact yJ n2 h hk hl e
section
theorem WH{ρ:List (Option α)}:(ky nt cap ρ).length=nt+cap.length:=by simp[ky]
theorem GD{l:List Nat}(h:l.Nodup){j k:Nat}(a:l[i]?=iw k)(b:l[j]?=iw k):i=j:=by obtain⟨h1,e1⟩:=aA.mp a;obtain⟨h2,e⟩:=aA.mp b;exact(List.getElem_inj h).mp (e1.trans e.symm)
theorem qeV(r:Rep K own F H σ ρ)(nd:cap.Nodup):Rep K (wF own nt cap) F H (ky nt cap σ) (ky nt cap ρ) where
 sub:=r.sub
 len:=by rw[WH,WH]
 val:=λi d hi e=>by obtain⟨j,k,rfl,h1,h2⟩:=vd.mp e;obtain⟨v,g1,W⟩:=r.val k d (λz=>hi (jS.mpr ⟨j,k,rfl,h1,z⟩)) h2;exact⟨v,vd.mpr ⟨j,k,rfl,h1,g1⟩,W⟩
 ow:=λi d hi e=>by
  obtain⟨j,k,rfl,h1,h2⟩:=vd.mp e;obtain⟨f,k',m,c,h⟩:=jS.mp hi;have:j=f:=by lia
  subst this;rw[h1]at c;cases c;obtain⟨a,g1,W⟩:=r.ow k d h h2;exact⟨a,vd.mpr ⟨j,k,rfl,h1,g1⟩,W⟩
 opn:=λi hi=>by obtain⟨j,k,rfl,h1,h2⟩:=jS.mp hi;obtain⟨d,e⟩:=r.opn k h2;exact⟨d,vd.mpr ⟨j,k,rfl,h1,e⟩⟩
 dis:=λi u a hi g e m=>by
  obtain⟨j,k,rfl,h1,h2⟩:=jS.mp hi;obtain⟨f,k',rfl,c,h⟩:=jS.mp g;obtain⟨x,y,t,l,o⟩:=vd.mp e;obtain⟨n,s,p,q,b⟩:=vd.mp m;have:x=j:=by lia
  subst this;have:n=f:=by lia
  subst this;rw[h1]at l;cases l;rw[c]at q;cases q;have e:=r.dis k k' a h2 h o b;subst e;rw[GD nd h1 c]
theorem GE(o:∀i∈ioC nt cap.length,σ1[i]?=(ky nt cap σ)[i]?)(h:OA (wF own nt cap) σ1 b):OA own σ b:=by
 obtain⟨i,hi,e⟩:=h;obtain⟨j,k,rfl,h1,h2⟩:=jS.mp hi;rw[o _ (JH.mpr ⟨j,(aA.mp h1).1,rfl⟩)]at e;obtain⟨x,y,a,d,q⟩:=vd.mp e;have:x=j:=by lia
 subst this;rw[h1]at d;cases d;exact⟨k,h2,q⟩
theorem GG{F':Hp}(p:Rep K own F H σ ρ)(nd:cap.Nodup)(r:Rep K (wF own nt cap) F' H' σ1 ρ1)(g:∀i∈ioC nt cap.length,σ1[i]?=(ky nt cap σ)[i]?)(c:Chg (OA (wF own nt cap) σ1) F H F' H'):Rep K own F' H' σ (jK own ρ1 nt cap ρ) where
 sub:=r.sub
 len:=by rw[xp];exact p.len
 val:=λi d hi e=>by rw[kU (λz=>hi z.2)]at e;obtain⟨v,h1,h2⟩:=p.val i d hi e;exact⟨v,h1,h2.mono c.grow⟩
 ow:=λi d hi e=>by
  by_cases q:i∈cap
  .obtain⟨j,D⟩:=List.getElem?_of_mem q;have m:nt+j∈wF own nt cap:=jS.mpr ⟨j,i,rfl,D,hi⟩;obtain⟨d',h⟩:=r.opn _ m;obtain⟨A,b⟩:=p.opn i hi;rw[yJ nd D hi (aA.mp b).1 h]at e;cases e;obtain⟨a,h1,h2⟩:=r.ow _ _ m h;rw[g _ (JH.mpr ⟨j,(aA.mp D).1,rfl⟩)]at h1;obtain⟨x,y,w,f,l⟩:=vd.mp h1;have:x=j:=by lia
   subst this;rw[D]at f;cases f;exact⟨a,l,h2⟩
  .rw[kU (λz=>q z.1)]at e;obtain⟨a,h1,h2,s⟩:=p.ow i d hi e;have na:¬OA (wF own nt cap) σ1 a:=λz=>by
    obtain⟨B,n,t⟩:=z;obtain⟨j,k,rfl,g1,W⟩:=jS.mp n;rw[g _ (JH.mpr ⟨j,(aA.mp g1).1,rfl⟩)]at t;obtain⟨x,y,w,f,l⟩:=vd.mp t;have:x=j:=by lia
    subst this;rw[g1]at f;cases f;have e:=p.dis i k a hi W h1 l;subst e;exact q (dA g1)
   refine⟨a,h1,?_,s.grow c.grow λo z=>c.keep a o z na⟩;cases M:F' a with
   |none=>rfl
   |some u=>
    rcases c.new a (by rw[M];simp)with z|z|z;·exact absurd h2 z
    .exact absurd z s.there
    .exact absurd z na
 opn:=λi hi=>by
  by_cases q:i∈cap;·obtain⟨j,D⟩:=List.getElem?_of_mem q;have m:nt+j∈wF own nt cap:=jS.mpr ⟨j,i,rfl,D,hi⟩;obtain⟨d',h⟩:=r.opn _ m;obtain⟨A,b⟩:=p.opn i hi;exact⟨d',yJ nd D hi (aA.mp b).1 h⟩
  .rw[kU (λz=>q z.1)];exact p.opn i hi
 dis:=p.dis
end
def zA(g:D->Sl->Out Sl)(ft:yl)(fe:qV)(d:D)(ρ:Sl):Out (Option D×Sl):=
 (g d ρ).plain.bind λρ1=>(ft ρ1).plain.bind λq=>if q.1=iD then(fe q.2).plain.bind λr=>.ok (iw r.1,r.2)else .ok (iB,q.2)
def jH(g:D->Sl->Out Sl)(ft:yl)(fe:qV):List D->vN
 |[],ρ=>.ok ([],ρ)
 |d::ds,ρ=>(zA g ft fe d ρ).bind λp=>(jH g ft fe ds p.2).bind λq=>.ok (p.1.toList++q.1,q.2)
def qN(own:List Nat)(nt:Nat)(cap:List Nat)(fi:vN)(g:D->Sl->Out Sl)(ft:yl)(fe:qV):qV:=λρ=>(fi ρ).bind λp=>
 if p.1.length<=Z8 then(jH g ft fe p.1 (ky nt cap p.2)).bind λq=>.ok (.lst q.1,jK own q.2 nt cap p.2)else .bad
def ctC(C:Ct)(nt len:Nat):Ct:=⟨C.K,C.cv,λ_ _ _=>False,ioC nt len,.sh,[],[],λ_ h=>absurd h (by simp)⟩
noncomputable def ftT:yl:=λρ=>.ok (iD,ρ)
theorem Yl:PTs Y [] (tT C own ftT):=⟨λZ9 s σ H Q I ⟨F,ρ,a,h⟩=>qeU Z9 s σ H Q I (h F H a .refl)⟩
structure CW(C:Ct)(own:List Nat)(nt:Nat)(cap:List Nat)(σ:St)(F H F0:Hp)(g:D->Sl->Out Sl)(ft:yl)(fe:qV)(ds ys:List D)(ρe:Sl)(p:Z7)(i:Nat)(σ1:St)(H1:Hp)(F1:Hp)(ρi:Sl)(accD:List D)(xs:List V)(rest:List D):Prop where
 rep:Rep C.K (wF own nt cap) F1 H1 σ1 ρi
 io:∀i∈ioC nt cap.length,σ1[i]?=(ky nt cap σ)[i]?
 chg:Chg (OA (wF own nt cap) σ1) F H F1 H1
 gr:Same F0 F1
 at_:H1 p=iw (.lst xs)
 nF:F1 p=iB
 is:IsL C.K F1 xs accD
 le:accD.length<=i
 run:jH g ft fe (ds.drop i) ρi=.ok (rest,ρe)
 all:accD++rest=ys
theorem XV{ft:yl}{fe:qV}{rest:List D}{ρe:Sl}(h:jH g ft fe (d::ds) ρ=.ok (rest,ρe)):∃ρ1,g d ρ=.ok ρ1/\∃b ρ2,ft ρ1=.ok (b,ρ2)/\((b=iD/\∃y k r,fe ρ2=.ok (y,k)/\jH g ft fe ds k=.ok (r,ρe)/\rest=y::r)\/(b=iE/\jH g ft fe ds ρ2=.ok (rest,ρe))):=by
 unfold jH zA at h;cases e:g d ρ with
 |exc c=>rw[e]at h;cases h
 |bad=>rw[e]at h;cases h
 | ok ρ1=>
  rw[e]at h;refine⟨ρ1,rfl,?_⟩;simp only[Out.plain,Out.oh]at h;cases a:ft ρ1 with
  |exc c=>rw[a]at h;cases h
  |bad=>rw[a]at h;cases h
  | ok p=>
   obtain⟨b,ρ2⟩:=p;rw[a]at h;refine⟨b,ρ2,rfl,?_⟩;simp only[Out.plain,Out.oh]at h;cases b with
   | true=>
    refine .inl ⟨rfl,?_⟩;simp only[if_true]at h;cases q:fe ρ2 with
    |exc c=>rw[q]at h;cases h
    |bad=>rw[q]at h;cases h
    |ok p=>
     obtain⟨y,k⟩:=p;rw[q]at h;simp only[Out.plain,Out.oh]at h;cases l:jH g ft fe ds k with
     |exc c=>rw[l]at h;cases h
     |bad=>rw[l]at h;cases h
     |ok p=>obtain⟨r,A⟩:=p;rw[l]at h;simp only[Out.oh]at h;cases h;exact⟨y,k,r,rfl,l,rfl⟩
   |false=>
    refine .inr ⟨rfl,?_⟩;simp only[b9,if_false,Out.oh]at h;cases l:jH g ft fe ds ρ2 with
    |exc c=>rw[l]at h;cases h
    |bad=>rw[l]at h;cases h
    |ok p=>obtain⟨r,A⟩:=p;rw[l]at h;simp only[Out.oh]at h;cases h;rfl
section
variable{elt:Z4}{fi:vN}{ft:yl}{fe:qV}{me:Mo}
structure CapOk(X:Cx)(scope:lX)(N:List Str)(nt:Nat)(cap:List Nat):Prop where
 nd:cap.Nodup
 len:N.length=nt+cap.length
 at_:∀(j k:Nat),cap[j]?=iw k->∃x,N[nt+j]?=iw x/\X.N[k]?=iw x/\((Vis X.env.scope x/\(x,bz)∈scope.names)\/∀k',(x,k')∉scope.names)
set_option tactic.hygienic true in
theorem Vh{F:Hp}{ρ1:Sl}{it:Z7}{fp:List Z7}{tn:Nat->Z5->Prop}{J:It}{E:iC->iF->Prop}{ds ys:List D}{ρe:Sl}(I:Inv X Z9 σ H s)(W:X.calm=iD)(S:ScOk X scope)(CO:CapOk X scope N nt cap)(T:Turn X.prog X.w X.K tg J fp it tn)(st0:tn 0 s.heap)(hf:∀b∈fp,Wo X Z9 H b)(rp:Rep C.K own F H σ ρ1)(O:ItIs C.K F J ds)(hz:ds.length<=Z8)(hg:∀fp L s' H',PG (jw X scope N fp L s' H') tg (tGd (ctC C nt cap.length) (wF own nt cap) g))(ht:∀fp L s' H',PTs (jw X scope N fp L s' H') ifs (tT (ctC C nt cap.length) (wF own nt cap) ft))(he:∀fp L s' H',PE (jw X scope N fp L s' H') elt (tE (ctC C nt cap.length) (wF own nt cap) me fe))(hme:me≠.any)(hrun:jH g ft fe ds (ky nt cap ρ1)=.ok (ys,ρe))(RR:iC->Z7->mR->iF->Prop)(hRR:∀p L s' F' H',H p=iB->Rep C.K own F' H' σ (jK own ρe nt cap ρ1)->Chg (OA own σ) F H F' H'->F' p=iB->OwnIs C.K F' H' p (.lst ys)->(∃m,s'.heap.Ns L m)->Wo X Z9 H' L->(∀h',bh L s'.heap h'->Inv X Z9 σ H' { s' with heap:=h' })->RR (.ref p) L (.ok .next) s') :
  iH (Z6 X.prog X.w) X.A (newList []) (λacc s₃=>iH (Z6 X.prog X.w) X.A (newFunctionEnv scope X.env.globals (KI X.env.cells scope.names []) [] X.env.qual iB .none (iw X.env)) (λG s₄=>
   lq (Z6 X.prog X.w) X.A (.compStart (.ListComp elt [⟨tg,iter,ifs,0⟩] scope pos) 0 (.ref it) acc { G with scope:=relabel scope X.env }) (RR acc G.locals) s₄) E s₃) E s:=by
 have oaH:∀{σ1:St}{b:Z7},(∀i∈ioC nt cap.length,σ1[i]?=(ky nt cap σ)[i]?)->OA (wF own nt cap) σ1 b->H b≠none:=λU z=>(rp.OA_there (GE U z)).1;refine qcr (σc:=ky nt cap σ) I W S T st0 hf hg ht (λfp L s' H'=>wC (he fp L s' H') hme) (by rw[WH,CO.len]) (λj x v e1 e2 e3=>?_)
  (λp i m σ1 H1=>H p=iB/\m=ds.length - i/\i<=ds.length/\∃F1 ρi accD xs rest,CW C own nt cap σ F H F g ft fe ds ys ρe p i σ1 H1 F1 ρi accD xs rest)
  (λp H1=>H p=iB/\∃σ1 F1 xs,Rep C.K (wF own nt cap) F1 H1 σ1 ρe/\(∀i∈ioC nt cap.length,σ1[i]?=(ky nt cap σ)[i]?)/\Chg (OA (wF own nt cap) σ1) F H F1 H1/\H1 p=iw (.lst xs)/\F1 p=iB/\IsL C.K F1 xs ys) (λp hp=>?_) ?_ RR ?_
 .obtain⟨j',k,rfl,h1,h2⟩:=vd.mp e2;obtain⟨y,g1,g2,g3⟩:=CO.at_ j' k h1;rw[g1]at e1;cases e1;obtain⟨k',hk'⟩:=e3;rcases g3 with⟨g3,g4⟩|g3;·exact⟨k,g2,h2,g3,g4⟩
  .exact absurd hk' (g3 k')
 .obtain⟨r1,c1,hF⟩:=Gx (C:=C) (u:=.lst []) (qeV (nt:=nt) rp CO.nd) hp;exact⟨ds.length,hp,by simp,aZ _,F,ky nt cap ρ1,[],[],ys,r1,λ_ _=>rfl,c1.ofNo,Same.refl _,qo,hF,.nil,aq _,by simpa using hrun,rfl⟩
 .rintro p i m σ1 H1 ⟨hp,rfl,hle,F1,ρi,accD,xs,rest,w⟩;by_cases t:i<ds.length
  .have hd:ds.drop i=ds[i]::ds.drop (i+1):=dH t;have run:=w.run;rw[hd]at run;obtain⟨ρa,ea,b,Z,eb,R⟩:=XV run;have sub1:Same F H1:=w.gr.trans w.rep.sub;refine .inr ⟨O.go i H1 t sub1,λx H2 y=>?_⟩;obtain⟨F2,c2,s2,is2⟩:=O.yld i F1 H1 x H2 ds[i] (by simp[t]) w.gr w.rep.sub y;have rp2:=w.rep.grow c2 s2;have M:∀{Y:St},(∀i∈ioC nt cap.length,Y[i]?=(ky nt cap σ)[i]?)->¬OA (wF own nt cap) Y p:=λU z=>oaH U z hp;have P:∀{A:Z7->Prop}{Fa Ha Fb Hb:Hp}{zs:List V},Chg A Fa Ha Fb Hb->¬A p->Ha p=iw (.lst zs)->Fa p=iB->Hb p=iw (.lst zs)/\Fb p=none:=λ{A Fa Ha Fb Hb zs} c na e1 e2=>by
    refine⟨c.keep p _ e1 na,?_⟩;cases q:Fb p with
    |none=>rfl
    |some u=>
     rcases c.new p (by rw[q];simp)with z|z|z;·exact absurd e2 z
     .rw[e1]at z;cases z
     .exact absurd z na
   obtain⟨at2,nF2⟩:=P c2 (λz=>z) w.at_ w.nF;refine⟨F2,ρi,ds[i],rp2,is2,ρa,ea,λl rp3 oa3 io3=>?_⟩;have f:∀i∈ioC nt cap.length,l[i]?=(ky nt cap σ)[i]?:=λi hi=>(io3 i hi).trans (w.io i hi);refine⟨F2,ρa,rp3,?_⟩;rw[eb];intro F4 H4 rp4 c4;obtain⟨at4,nF4⟩:=P c4 (M f) at2 nF2;have B:Chg (OA (wF own nt cap) l) F H F4 H4:=by
    have q1:Chg (OA own σ) F H F1 H1:=w.chg.mono λb z=>GE w.io z;have mv:∀{b},OA (wF own nt cap) σ1 b->OA (wF own nt cap) l b:=λ{b} z=>by obtain⟨i',hi',e'⟩:=z;obtain⟨j,k,rfl,g1,g2⟩:=jS.mp hi';have hm:nt+j∈ioC nt cap.length:=JH.mpr ⟨j,(aA.mp g1).1,rfl⟩;exact⟨nt+j,hi',by rw[f _ hm,<-w.io _ hm];exact e'⟩
    exact((w.chg.mono λb z=>mv z).trans' c2.ofNo).trans' c4
   have gr4:Same F F4:=(w.gr.trans c2.grow).trans c4.grow;have Q:IsL C.K F4 xs accD:=(w.is.mono c2.grow).mono c4.grow;rcases R with⟨rfl,y',ρc,r,ec,er,hr⟩|⟨rfl,er⟩
   .rw[Aa rfl];refine⟨F4,Z,rp4,?_⟩;rw[ec];intro v F5 H5 h c5 mo5;obtain⟨at5,nF5⟩:=P c5 (M f) at4 nF4;have hlen:xs.length=accD.length:=Q.length;refine⟨xs,at5,by have:=w.le;lia,ds.length - (i+1),by lia,hp,rfl,t,F5,ρc,accD++[y'],xs++[v],r,?_⟩;have cp:Chg (λb=>b=p) F5 H5 F5 (upd H5 p (.lst (xs++[v]))):=⟨λb o e n=>by rw[qv n];exact e,λb e=>by
     by_cases q:b=p;·rw[q,qo];simp
     .rw[qv q];exact e,Same.refl _,λb e=>.inl e⟩
    have sb5:Same F5 (upd H5 p (.lst (xs++[v]))):=λb o e=>by rw[qv (qD e nF5)];exact h.sub b o e
    have rp6:Rep C.K (wF own nt cap) F5 (upd H5 p (.lst (xs++[v]))) l ρc:=by
     refine⟨sb5,h.len,h.val,λi d hi e=>?_,h.opn,h.dis⟩;obtain⟨a,h1,h2,h3⟩:=h.ow i d hi e;have na:a≠p:=λz=>by subst z;exact M f ⟨i,hi,h1⟩
     exact⟨a,h1,h2,h3.grow (Same.refl _) λo z=>by rw[qv na];exact z⟩
    refine⟨rp6,f,?_,(gr4.trans c5.grow),qo,nF5,(Q.mono c5.grow).append (.cons mo5 .nil),by simp only[am,ap,aR];have:=w.le;lia,er,?_⟩;·exact(B.trans' c5).trans cp λb z=>.inr (by rw[z];exact hp)
    .rw[cI,<-w.all,hr];rfl
   .rw[Ab b8];exact⟨ds.length - (i+1),by lia,hp,rfl,t,F4,Z,accD,xs,rest,rp4,f,B,gr4,at4,nF4,Q,by have:=w.le;lia,er,w.all⟩
  .have e:i=ds.length:=by lia
   subst e;have run:=w.run;rw[fU]at run;unfold jH at run;cases run;have ha:=w.all;rw[bv]at ha;subst ha;exact .inl ⟨O.stop _ H1 (aq _) (w.gr.trans w.rep.sub),hp,σ1,F1,xs,w.rep,w.io,w.chg,w.at_,w.nF,w.is⟩
 .rintro p L H' s' ⟨hp,σ1,F1,xs,r1,io1,c1,e1,n1,is1⟩ hns hfp hinv;exact hRR p L s' F1 H' hp (GG rp CO.nd r1 io1 c1) (c1.mono λb z=>GE io1 z) n1 ⟨xs,e1,is1⟩ hns hfp hinv
theorem WI:∀(ds:List D)(ρ:Sl)(c:Str)(o:Sl),jH g ft fe ds ρ≠.exc c o:=by
 intro ds
 induction ds with
 |nil=>intro ρ c o z;cases z
 | cons d ds j=>
  intro ρ c o z;unfold jH zA at z;cases b:g d ρ with
  |exc c=>rw[b]at z;cases z
  |bad=>rw[b]at z;cases z
  | ok ρ1=>
   rw[b]at z;simp only[Out.plain,Out.oh]at z;cases a:ft ρ1 with
   |exc c=>rw[a]at z;cases z
   |bad=>rw[a]at z;cases z
   | ok p=>
    rw[a]at z;simp only[Out.plain,Out.oh]at z;by_cases hb:p.1=iD
    .rw[Aa hb]at z;cases q:fe p.2 with
     |exc c=>rw[q]at z;cases z
     |bad=>rw[q]at z;cases z
     |ok r=>
      rw[q]at z;simp only[Out.plain,Out.oh]at z;cases l:jH g ft fe ds r.2 with
      |exc c=>exact j _ _ _ l
      |bad=>rw[l]at z;cases z
      |ok t=>rw[l]at z;cases z
    .rw[Ab hb]at z;simp only[Out.oh]at z;cases l:jH g ft fe ds p.2 with
     |exc c=>exact j _ _ _ l
     |bad=>rw[l]at z;cases z
     |ok t=>rw[l]at z;cases z
theorem Vi{α:Type}{Z:Va->Prop}(r:Rep C.K own F H σ ρ)(hb:¬Z .bad)(hx:∀c ρ',Z (.exc c ρ')->∀F' H',Same F' H'->Gi C.K C.ox F' H' σ ρ'->Chg (OA own σ) F H F' H'->C.E (C.cv c) iB H')(h:Z (qN own nt cap fi g ft fe ρ)):tIt C own fi σ H λJ H1=>∃ds ρ1 ys ρe F1,ds.length<=Z8/\jH g ft fe ds (ky nt cap ρ1)=.ok (ys,ρe)/\Rep C.K own F1 H1 σ ρ1/\Chg (OA own σ) F H F1 H1/\ItIs C.K F1 J ds/\Z (.ok (.lst ys,jK own ρe nt cap ρ1)):=by
 refine⟨F,ρ,r,?_⟩;unfold qN at h;cases q:fi ρ with
 |exc c=>rw[q]at h;exact hx c _ h
 |bad=>rw[q]at h;exact(hb h).elim
 | ok p=>
  obtain⟨ds,ρ1⟩:=p;rw[q]at h;have h:Z (if ds.length<=Z8 then(jH g ft fe ds (ky nt cap ρ1)).bind λq=>.ok (.lst q.1,jK own q.2 nt cap ρ1)else .bad):=h;by_cases z:ds.length<=Z8
  .rw[Aa z]at h;cases d:jH g ft fe ds (ky nt cap ρ1)with
   |exc c=>exact absurd d (WI _ _ _ _)
   |bad=>rw[d]at h;exact(hb h).elim
   |ok p=>obtain⟨ys,ρe⟩:=p;rw[d]at h;exact λJ F1 H1 a k it=>⟨ds,ρ1,ys,ρe,F1,z,d,a,k,it,h⟩
  .rw[Ab z]at h;exact(hb h).elim
theorem qeW(P:X.calm=iD)(S:ScOk X scope)(M:CapOk X scope N nt cap)(hi:PI X tg iter (tIt C own fi))(hg:∀fp L s' H',PG (jw X scope N fp L s' H') tg (tGd (ctC C nt cap.length) (wF own nt cap) g))(ht:∀fp L s' H',PTs (jw X scope N fp L s' H') ifs (tT (ctC C nt cap.length) (wF own nt cap) ft))(E:∀fp L s' H',PE (jw X scope N fp L s' H') elt (tE (ctC C nt cap.length) (wF own nt cap) me fe))(i:me≠.any:=by decide)(hs:∀x,j9 iter X.env x=pure x:=by intro _;rfl) :
  PE X (.ListComp elt [⟨tg,iter,ifs,0⟩] scope pos) (tE C own .fr (qN own nt cap fi g ft fe)):=by
 refine⟨?_⟩;rintro Z9 s σ H Q I ⟨F,ρ,j,h⟩;rw[eval_ListComp];have n:=Vi (α:=Unit) (Z:=λr=>Po C own .fr σ F H r Q) j (λz=>z) (λc _ z=>z) h;refine wpAny_comprehension_free (use:=iB) rfl hs (QW (gq I S)) S.kind S.names (thn (hi Z9 s σ H _ I n) λU s1 h1=>thn h1 λl s2 h2=>?_);obtain⟨it,fp,tn,J,H2,e,K,T,b,f2,ds,ρ1,ys,ρe,F1,hz,a,d,k,O,po⟩:=h2;subst e;refine Vh (RR:=λacc R=>compPost (Z6 X.prog X.w) X.A X.xe iB (EP X Z9 σ Q) acc R) K P S M T b f2 d O hz hg ht E i a λp L s' F' H' hp f G nF o y D v=>?_;obtain⟨m,B⟩:=y;refine⟨m,B,λh' t=>⟨.ref p,H',v h' t,rfl,?_⟩⟩;refine po (.ref p) F' H' f (k.trans' G) ⟨p,rfl,?_,nF,o⟩;cases q:H p with
 |none=>rfl
 |some u=>exact absurd hp (k.stay p (by rw[q];simp))
set_option tactic.hygienic true in
theorem qcs{pos' spos:Pos}(hN:X.N.Nodup)(V:X.N[i]?=iw x)(hx:Loc X.env.scope x)(P:X.calm=iD)(S:ScOk X scope)(CO:CapOk X scope N nt cap)(hi:PI X tg iter (tIt C own fi))(hg:∀fp L s' H',PG (jw X scope N fp L s' H') tg (tGd (ctC C nt cap.length) (wF own nt cap) g))(ht:∀fp L s' H',PTs (jw X scope N fp L s' H') ifs (tT (ctC C nt cap.length) (wF own nt cap) ft))(he:∀fp L s' H',PE (jw X scope N fp L s' H') elt (tE (ctC C nt cap.length) (wF own nt cap) me fe))(M:me≠.any:=by decide)(W:i∉C.io:=by exact wH rfl)(G:lh (.ListComp elt [⟨tg,iter,ifs,0⟩] scope pos) (iw (.Name x pos')) spos.line X.env=pure true:=by rfl)(hs:∀x,j9 iter X.env x=pure x:=by intro _;rfl)(Y:X.fn x=iD\/X.env.scope.names.lookup x=iw .local:=by first|exact .inl rfl|exact .inr rfl) :
  PS X (.Assign [.Name x pos'] (.ListComp elt [⟨tg,iter,ifs,0⟩] scope pos) spos) (tSt C own (i::vM own [i]) (jA i (qN own nt cap fi g ft fe))):=by
 refine⟨?_⟩;rintro Z9 s σ H D I ⟨F,ρ,rp,h⟩;rw[exec_Assign_Name_used _ _ _ _ G];refine iA (ml (iA ?_));show iH _ X.A (do let _ <-comprehension (.ListComp elt [⟨tg,iter,ifs,0⟩] scope pos) scope X.env _ (newList []) iE (Z0 iter X.env) (iw (assign (.Name x pos') X.env))) _ _ s;have n:=Vi (α:=Unit) (Z:=λr=>PoS C own (i::vM own [i]) σ F H (r.bind λp=>if i<p.2.length then .ok (.nx,p.2.set i (iw p.1))else .bad) D) rp (λz=>z) (λc _ z=>z) h;refine iA (lI (wpAny_comprehension_free (use:=iw (assign (.Name x pos') X.env)) (Q:=λ_ s'=>SP X Z9 D .next s') rfl hs (QW (gq I S)) S.kind S.names (thn (hi Z9 s σ H _ I n) λxv s1 h1=>thn h1 λitv s2 h2=>?_)) (λ_ s' hq=>iG (iG hq)) λ_ _ e=>e);obtain⟨it,fp,tn,J,H2,e,I2,T,l,f2,ds,ρ1,ys,ρe,F1,hz,f,B,c1,O,po⟩:=h2;subst e;refine Vh (RR:=λacc C'=>compPost (Z6 X.prog X.w) X.A X.xe (iw (assign (.Name x pos') X.env)) (λ_ s'=>SP X Z9 D .next s') acc C') I2 P S CO T l f2 B O hz hg ht he M f λp L s' F' H' hp d c' nF o K hfp k=>?_;obtain⟨m,hn⟩:=K;have I3:Inv X Z9 σ H' s':=by simpa using k s'.heap (.refl ..)
 have hH:H p=none:=by
  cases q:H p with
  |none=>rfl
  |some u=>exact absurd hp (c1.stay p (by rw[q];simp))
 show iH _ X.A (assign (.Name x pos') X.env (.ref p)) _ _ s';refine wpAny_assign_Name (KM I3 hN V hx (v:=.ref p) rfl (λs4 I4 z9=>?_) Y);obtain⟨a,t,ha⟩:=z9;obtain⟨f0,f1,f2',f3,f4,f5⟩:=hfp;have nL:L≠a:=by
  rcases ha with z|z;·rw[z];exact f1
  .exact λq=>f4 x a z q.symm
 refine⟨m,hn.sameBut t nL,λh' sb=>?_⟩;have I5:Inv X Z9 (σ.set i (iw (.ref p))) H' { s4 with heap:=h' }:=by have:=I4.turned (h':=h') (t':=s4.toks) (it:=L) (λb o hb e=>(sb.2 b hb).trans e) f0 f1 f3 f4 f5;exact this
 refine⟨_,H',I5,?_⟩;have po:PoS C own (i::vM own [i]) σ F H (if i<(jK own ρe nt cap ρ1).length then .ok (.nx,(jK own ρe nt cap ρ1).set i (iw (.lst ys)))else .bad) D:=po;by_cases z:i<(jK own ρe nt cap ρ1).length
 .rw[Aa z]at po;refine po _ F' H' ⟨d.putO z nF (λy=>(rp.OA_there y).1 hH) o,c1.trans' c',λb y=>?_,λj U=>ai λy=>W (by rw[y];exact U)⟩;obtain⟨j,U,e⟩:=y;by_cases E:j=i;·subst E;rw[aB (by rw[d.len];exact z)]at e;cases e;exact .inr hH
  .have R:=(jc j).mp ((ac.mp U).resolve_left E);rw[ai (aW E)]at e;exact .inl ⟨j,R.1,e⟩
 .rw[Ab z]at po;exact po.elim
end
def Fly(h:Z5)(ex T:Z7)(cls:iC):Prop:=∃o vs a ts,h.get? ex=iw o/\o.cls=cls/\o.data=.fields vs/\vs[1]?=iw (.ref T)/\T≠ex/\h.get? T=iw a/\a.data=.fields ts/\ts[3]?=iw .none
def CXk(P:iK)(w:iL):CXT:=λouter H s E e s'=>∃ex T C H',e=.ref ex/\s'.os=s.os/\l5 s'.gens/\Un (frs outer) [] H H' s.heap s'.heap/\HOk P w H' s'.heap/\Fly s'.heap ex T (.ref C)/\H' ex=iB/\H' T=iB/\s.heap.get? ex=iB/\s.heap.get? T=iB/\E (.ref C) iB H'
def InB(X:Cx)(H:Hp)(s:iF)(ex:Z7)(cls:iC):Prop:=H ex=iB/\X.s₀.heap.get? ex=iB /\
 ((∃o vs,s.heap.get? ex=iw o/\o.cls=cls/\o.data=.fields vs/\vs[1]?=iw .none)\/∃T,Fly s.heap ex T cls/\H T=iB/\X.s₀.heap.get? T=iB)
variable{ex:Z7}{T0:Option Z7}
section
variable{cls:iC}
def Vj(ex:Z7)(T:Option Z7)(X:Cx):List Z7:=ex::(T.toList++frs X.stack)
theorem Ym(I:Inv X Z9 σ H s)(hb:b∈frs X.stack):∃o,s.heap.get? b=iw o/\∀vs,o.data≠.fields vs:=(I.stack.mem hb).2
theorem GH(hs:X.stack=X.env::X.outer):∀env∈X.stack,∀b,env.frame=iw b->b∈frs X.stack:=λenv g b hb=>fA.mpr ⟨env,g,hb⟩
structure Gone(X:Cx)(H:Hp)(s:iF)(ex:Z7)(cls:iC)(h2:Z5):Prop where
 keep:∀b o,s.heap.get? b=iw o->H b≠iB\/(X.s₀.heap.get? b≠iB/\b∉frs X.stack)->h2.get? b=iw o
 slot:∀b o,s.heap.get? b=iw o->b∈frs X.stack->∃sl,h2.get? b=iw { o with slots:=sl }
 ok:HOk X.prog X.w H h2
 un:Un (frs X.stack) [] H H s.heap h2\/True
theorem GI{h2:Z5}(I:Inv X Z9 σ H s)(hex:H ex=iB)(f:∀T,T0=iw T->H T=iB)(n1:X.s₀.heap.get? ex=iB)(n2:∀T,T0=iw T->X.s₀.heap.get? T=iB)(st:(bY s.heap (Vj ex T0 X)).StaysIn h2)(sl:∀b o,s.heap.get? b=iw o->(∀vs,o.data≠.fields vs)->∃sl,h2.get? b=iw { o with slots:=sl }):Gone X H s ex cls h2:=by
 have keep:∀b o,s.heap.get? b=iw o->b≠ex->(∀T,T0=iw T->b≠T)->b∉frs X.stack->h2.get? b=iw o:=λb o e h1 h2 g=>st b o (fj _ e λm=>by
  rcases ac.mp m with q|m;·exact h1 q
  .rcases bf.mp m with q|q;·exact h2 b (Option.mem_toList.mp q) rfl
   .exact g q)
 have k1:∀b o,s.heap.get? b=iw o->H b≠iB->h2.get? b=iw o:=λb o e n=>keep b o e (λq=>n (by rw[q];exact hex)) (λT h q=>n (by rw[q];exact f T h)) λq=>n (I.stkFree b q);refine⟨λb o e hb=>?_,λb o e hb=>?_,λb u e=>?_,.inr trivial⟩
 .rcases hb with hb|⟨hb,hf⟩
  .exact k1 b o e hb
  .exact keep b o e (λq=>hb (by rw[q];exact n1)) (λT h q=>hb (by rw[q];exact n2 T h)) hf
 .obtain⟨o',a,t⟩:=Ym I hb;rw[e]at a;cases a;exact sl b o e t
 .refine(I.hok b u e).stay (λc v d q=>k1 c v q ?_) (λ_ q=>q) λ_ _ q=>q;rcases d with z|z;·rw[z,e];simp
  .rw[z];simp
theorem Vk{h2:Z5}(I:Inv X Z9 σ H s)(E:∀T,T0=iw T->H T=iB)(n2:∀T,T0=iw T->X.s₀.heap.get? T=iB)(g:Gone X H s ex cls h2)(h:X.ex=[])(t:h2.Traced (bY s.heap (Vj ex T0 X)) ex cls):∃T,Fly h2 ex T cls/\H T=iB/\X.s₀.heap.get? T=none:=by
 obtain⟨w,vs,T,x,ts,M,L,K,J,p,l,k,j,G⟩:=t;have c:∀o,s.heap.get? T=iw o->(∃q,T0=iw q/\T=q):=λo e=>by
  have m:T∈Vj ex T0 X:=by refine Classical.byContradiction λB=>?_;rw[fj _ e B]at p;cases p
  rcases ac.mp m with q|m;·exact absurd q l
  .rcases bf.mp m with q|q;·exact⟨T,Option.mem_toList.mp q,rfl⟩
   .obtain⟨o',d,A⟩:=Ym I q;obtain⟨sl,i⟩:=g.slot T o' d q;rw[k]at i;cases i;exact absurd j (A ts)
 refine⟨T,⟨w,vs,x,ts,M,L,K,J,l,k,j,G⟩,?_,?_⟩
 .cases q:H T with
  |none=>rfl
  | some u=>
   have D:=I.hok.lt q;obtain⟨o,e⟩:∃o,s.heap.get? T=iw o:=by
    have:=(I.hok T u q)
    have st:=this.stay (H':=H) (h':=s.heap) (λb v _ z=>z) (λ_ z=>z) λ_ _ z=>z;cases z:s.heap.get? T with
    |some o=>exact⟨o,rfl⟩
    |none=>
     exfalso;cases u with
     |lst xs=>obtain⟨_,_,_,_,e⟩:=st;rw[z]at e;cases e
     |tup xs=>obtain⟨_,_,_,_,e,_⟩:=st;rw[z]at e;cases e
     |dK kvs=>obtain⟨_,_,_,_,o,_,_,e,_⟩:=st;rw[z]at e;cases e
     |dT kvs=>obtain⟨_,_,_,_,o,_,_,e,_⟩:=st;rw[z]at e;cases e
     |set S n=>obtain⟨o,_,_,_,e,_⟩:=st;rw[z]at e;cases e
     |ins C dx fs=>obtain⟨_,_,_,e,_⟩:=st;rw[z]at e;cases e
     |own y=>obtain⟨_,e⟩:=st;rw[z]at e;cases e
     |xd fs=>obtain⟨_,⟨_,_,_,e,_⟩,_⟩:=st;rw[z]at e;cases e
     |rng lo hi=>obtain⟨_,_,_,e⟩:=st;rw[z]at e;cases e
     |frz N u=>obtain⟨e,_⟩:=st;rw[z]at e;cases e
     |tbl ps=>have e:s.heap.get? T=iw _:=st;rw[z]at e;cases e
     |met f y=>have e:s.heap.get? T=iw _:=st;rw[z]at e;cases e
     |ext φ=>obtain⟨_,⟨_,e⟩,_⟩:=st;rw[z]at e;cases e
   obtain⟨r,a,rfl⟩:=c o e;rw[E _ a]at q;cases q
 .cases q:X.s₀.heap.get? T with
  |none=>rfl
  |some o=>obtain⟨o',d⟩:=I.base.there T o q (by rw[h];simp);obtain⟨r,a,rfl⟩:=c o' d;rw[n2 _ a]at q;cases q
theorem XW{E:iC->iF->Prop}{Q:Unit->iF->Prop}(I:Inv X Z9 σ H s)(h:X.stack=X.env::X.outer)(r:X.env.frame=iw X.env.locals)(a:X.ex=[])(x:InB X H s ex cls)(k:∀h2 T,Gone X H s ex cls h2->Fly h2 ex T cls->H T=iB->X.s₀.heap.get? T=iB->Q () { s with heap:=h2 }):iH (Z6 X.prog X.w) X.A (leaving X.env (.ref ex)) Q E s:=by
 obtain⟨hex,n1,hx⟩:=x;have D:X.A.frames=iw (X.env::X.outer):=by rw[I.ok.frames,h]
 have B:∀as,(bY s.heap as).StaysIn s.heap:=λas b o e=>PySem.W.of_hideAll as e;have hl:∀T0,s.heap.FunFrames (bY s.heap (Vj ex T0 X)) (X.env::X.outer):=λT0=>by rw[<-h];exact PySem.W.funFrames_hide I.stack λenv G b hb=>ae _ (be _ (GH h env G b hb))
 have v:∀T0,(bY s.heap (Vj ex T0 X)).get? ex=none:=λT0=>e9 _ (ac.mpr (.inl rfl));rcases hx with⟨u,vs,p,m,l,y⟩|⟨T,⟨u,vs,C,ts,p,m,l,y,N,M,L,K⟩,J,n2⟩
 .refine wpAny_leaving_first (base:=bY s.heap (Vj ex iB X)) D (hl iB) r p (B _) (v iB) l y λh2 f=>?_;obtain⟨st,_,t,sl⟩:=f;have g:Gone X H s ex cls h2:=GI I hex (T0:=iB) (λ_ z=>nomatch z) n1 (λ_ z=>nomatch z) st sl;rw[m]at t;obtain⟨q,f1,f2,j⟩:=Vk I (T0:=iB) (λ_ z=>nomatch z) (λ_ z=>nomatch z) g a t;exact k h2 q g f1 f2 j
 .have d:∀c,iw T=iw c->H c=none:=λc z=>by cases z;exact J
  have n:∀c,iw T=iw c->X.s₀.heap.get? c=none:=λc z=>by cases z;exact n2
  have i:s.heap.Traced (bY s.heap (Vj ex (iw T) X)) ex cls:=⟨u,vs,T,C,ts,p,m,l,y,e9 _ (ae _ (ff _ (by simp))),N,M,L,K⟩
  refine wpAny_leaving_next (base:=bY s.heap (Vj ex (iw T) X)) D (hl (iw T)) r i (B _) (v _) λh2 f=>?_;obtain⟨st,_,t,sl⟩:=f;have g:Gone X H s ex cls h2:=GI I hex d n1 n st sl;obtain⟨q,f1,f2,j⟩:=Vk I d n g a t;exact k h2 q g f1 f2 j
end
variable{P:iK}{w:iL}{mg:Str->Option iC}
section
variable{base:Z5}{qual:Str}{cd:iC}{A:iT}{outer:List Env}{s0:iF}{E:XK}
abbrev cxk(P:iK)(w:iL)(K:Y9)(mg:Str->Option iC)(base:Z5)(N:List Str)(qual:Str)(scope:lX)(f:Z7)(cd:iC)(A:iT)(outer:List Env)(s0:iF)(H0:Hp)(E:XK):Cx:=qeu (CXk P w) P w K mg base N qual scope f cd A outer s0 H0 E
theorem qi3{C:Z7}(I:Inv (cxk P w K mg base N qual scope f cd A outer s0 H0 E) Z9 σ H s)(x:InB (cxk P w K mg base N qual scope f cd A outer s0 H0 E) H s ex (.ref C))(j:E (.ref C) iB H):(cxk P w K mg base N qual scope f cd A outer s0 H0 E).xe (.ref ex) s:=by
 refine XW I rfl rfl rfl x λh2 T g fl m h=>?_;have a:=I.base;have L:∀b o,s0.heap.get? b=iw o->b≠(cxk P w K mg base N qual scope f cd A outer s0 H0 E).env.locals:=λb o e=>ax (aH (aw e) I.ok.above);have t:∀b o,s0.heap.get? b=iw o->b∉frs outer->b∉frs (cxk P w K mg base N qual scope f cd A outer s0 H0 E).stack:=λb o e hb z=>by
  rcases ac.mp (I.stkSub b z)with q|q;·exact L b o e q
  .exact hb q
 have i:∀b,b∈frs outer->b∈frs (cxk P w K mg base N qual scope f cd A outer s0 H0 E).stack:=λb hb=>by show b∈frs (_::outer);unfold frs;rw[dJ];exact ae _ hb
 refine⟨ex,T,C,H,rfl,I.os,I.bare,⟨λb o e n hb hx=>?_,λb o e n hb hx=>?_,a.free,λb o e hx=>?_,a.tups,a.frzs,a.tbls⟩,g.ok,fl,x.1,m,x.2.1,h,j⟩;·exact g.keep b o (a.keep b o e n hb hx) (.inr ⟨by show s0.heap.get? b≠iB;rw[e];simp,t b o e hb⟩)
 .obtain⟨sl,q⟩:=a.slot b o e n hb hx;obtain⟨c,d⟩:=g.slot b _ q (i b hb);exact⟨c,d⟩
 .obtain⟨o',q⟩:=a.there b o e hx;by_cases hb:b∈frs (cxk P w K mg base N qual scope f cd A outer s0 H0 E).stack;·obtain⟨sl,d⟩:=g.slot b o' q hb;exact⟨_,d⟩
  .exact⟨o',g.keep b o' q (.inr ⟨by show s0.heap.get? b≠iB;rw[e];simp,hb⟩)⟩
theorem qeX{e:iC}(a:X.ex=[])(I:Inv X Z9 σ H s)(h:CXk X.prog X.w X.stack H s E e s'):∃ex C H',e=.ref ex/\Inv X Z9 σ H' s'/\InB X H' s' ex (.ref C)/\E (.ref C) iB H':=by
 obtain⟨ex,T,C,H',rfl,os,bare,un,hok,fl,e1,i,n1,n2,j⟩:=h;have old:∀b,s.heap.get? b=iB->X.s₀.heap.get? b=none:=λb hb=>by
  cases q:X.s₀.heap.get? b with
  |none=>rfl
  |some o=>obtain⟨o',c⟩:=I.base.there b o q (by rw[a];simp);rw[hb]at c;cases c
 exact⟨ex,C,H',rfl,I.call' (ch:=[]) os un hok bare (λb z=>absurd z (by simp)),⟨e1,old ex n1,.inr ⟨T,fl,i,old T n2⟩⟩,j⟩
theorem xq:kr (CXk P w) (cxk P w K mg base N qual scope f cd A outer s0 H0 E) E:=λZ9 σ H s e s' I h=>by obtain⟨ex,C,H',rfl,b,x,j⟩:=qeX rfl I h;exact qi3 b x j
end
def WJ(P:iK)(w:iL)(K:Y9)(mg:Str->Option iC)(base:Z5)(cv:Str->iC)(k:Nat)(x:Str)(ps:List Str)(ms:List PM)(mr:Mo)(G:ju):Prop:=
 ∃f fd,FnOk P w K mg base (CXk P w) k f fd ps (spD K cv ms mr G)/\mg x=iw (.ref f)/\mC K (.ref f)=iD/\Binds K fd ps []
def qid(K:Y9)(mg:Str->Option iC)(x:Str)(st:Z3)(ps:List Str):Prop:=∃f fd,Fun K x x st f fd/\mg x=iw (.ref f)/\Binds K fd ps []
theorem gt{P:iK}{w:iL}{base:Z5}{cv:Str->iC}{k:Nat}{ms:List PM}{mr:Mo}{own':List Nat}{fb:qS}(T:qid K mg x st ps)(S:FnScope N ps (qC st))(a:∀(cdv:iC)(f:Z7)(A:iT)(outer:List Env)(s:iF)(H:Hp)(E:XK),Room k (A.deeper (l0 x (qC st) s.heap.objs.size f cdv)) ->PSs (cxk P w K mg base N x (qC st) f cdv A outer s H E) (kY st) (tSt (qf6 K cv E ms mr) (jQ 0 ms) own' fb))(hl:ms.length=ps.length:=by rfl)(g:∀i∈Wp 0 ms,i∈own':=by exact kZ rfl)(hmr:mr=.sh\/∀ds ρ,(fb (qx N ds))≠.ok (.nx,ρ):=by exact .inl rfl):WJ P w K mg base cv (k+1) x ps ms mr (jF N ms fb):=by
 obtain⟨f,fd,F,h,hb⟩:=T;exact⟨f,fd,qib F S hl g hmr (λcdv A outer s H E c=>a cdv f A outer s H E c) λ_=>.inr rfl,h,F.kp,hb⟩
section
variable{G:ju}{fr:vN}{p:Pos}{k j:Nat}{cv:Str->iC}
theorem qQ(F:WJ X.prog X.w X.K X.mg X.base cv j x ps ms mr G)(c:Room k X.A)(D:j<=k)(hx:kr (CXk X.prog X.w) X C.E)(hg:Gl X x)(q:PA X (e::es) (tAr C own as fr))(h:C.cv=cv:=by rfl)(a:C.K=X.K:=by rfl)(s:ms=as.map xo:=by rfl)(hs:∀i∈jd as,i∈own:=by decide)(nd:(jd as).Nodup:=by decide)(g:frA as<=1:=by decide)(o:∀i∈C.ox,i∈own:=by exact kZ rfl)(b:Dbg x:=by decide)(n:iI (e::es) X.env=(iE,Z0 e X.env)::iI es X.env:=by exact jq rfl)(l:(j0 pos (iI es X.env)).any (·.1)=false:=by exact uC rfl):PE X (.Call (.Name x p) (e::es) [] pos) (tE C own mr (qt as G fr)):=by
 subst h;obtain⟨f,fd,F,m,d,hb⟩:=F;rw[<-a]at F;exact qeT (by rw[<-a];exact F) (c.mono D) hg m d hb hx q s hs nd g o b n l
noncomputable def qjL:D->Out D
 |.int i=>.ok (.int (-i))
 |_=>.bad
theorem qdK:UnD X C .sh (unaryOp .USub) qjL:=by
 intro Z9 s σ H x v Q I d h;obtain⟨F,dx,b,t,po⟩:=h;cases dx <;> try exact po.elim
 obtain rfl:=t.int;exact qgA Z9 s σ H _ v Q I d ⟨_,rfl,po _ F H b .refl (.int _)⟩
end
noncomputable def yK:Option (Option D)->Bool
 |some (iw (.lst _))=>iD
 |_=>iE
def xP(i:Nat)(g:List D->D->Out (List D))(fe:qV):qV:=λρ=>if yK ρ[i]?=iD then(fe ρ).bind λp=>match p.2[i]? with
 |some (iw (.lst xs))=>match g xs p.1 with
  |.ok ys=>.ok (.non,p.2.set i (iw (.lst ys)))
  |_=>.bad
 |_=>.bad
 else .bad
noncomputable def KJ(xs:List D)(d:D):Out (List D):=if xs.length<Z8 then .ok (xs++[d])else .bad
noncomputable def qct(xs:List D):D->Out (List D)
 |.lst ys=>if xs.length+ys.length<=Z8 then .ok (xs++ys)else .bad
 |.tup ys=>if xs.length+ys.length<=Z8 then .ok (xs++ys)else .bad
 |_=>.bad
section
variable{fe:qV}
theorem Rep.write(r:Rep K own F H σ ρ)(hi:i∈own)(f:σ[i]?=iw (iw (V.ref a)))(ow:OwnIs K F (upd H a u) a d):Rep K own F (upd H a u) σ (ρ.set i (iw d))/\Chg (OA own σ) F H F (upd H a u):=by
 obtain⟨A,h⟩:=r.opn i hi;obtain⟨l,e1,c,k⟩:=r.ow i A hi h;rw[f]at e1;cases e1;have hl:i < ρ.length:=(aA.mp h).1;refine⟨⟨λb o e=>by rw[qv (qD e c)];exact r.sub b o e,by simp[r.len],λj d' D e=>?_,λj d' D e=>?_,λj D=>?_,r.dis⟩,⟨λb o e n=>?_,λb e=>?_,Same.refl _,λb e=>.inl e⟩⟩;·rw[ai (λz=>D (by rw[<-z];exact hi))]at e;exact r.val j d' D e
 .by_cases q:j=i;·subst q;rw[aB hl]at e;cases e;exact⟨a,f,c,ow⟩
  .rw[ai (aW q)]at e;obtain⟨b,h1,h2,g⟩:=r.ow j d' D e;have y:b≠a:=λz=>by subst z;exact q (r.dis j i b D hi h1 f)
   exact⟨b,h1,h2,g.grow (Same.refl _) λo z=>by rw[qv y];exact z⟩
 .by_cases q:j=i;·subst q;exact⟨d,aB hl⟩
  .rw[ai (aW q)];exact r.opn j D
 .have y:b≠a:=λz=>n (by rw[z];exact⟨i,hi,f⟩);rw[qv y];exact e
 .by_cases q:b=a;·rw[q,qo];simp
  .rw[qv q];exact e
theorem Yn{o:Option (Option D)}(h:yK o=iD):∃xs,o=iw (iw (.lst xs)):=by
 unfold yK at h;split at h;·exact⟨_,rfl⟩
 .cases h
theorem Yo{g:List D->D->Out (List D)}{R:V->V->Hp->VK->Prop}{σ:St}{H:Hp}{Q:VK}(l:i∈own)(x:m≠.any)(j:∀(a:Z7)(xs:List V)(ds ys:List D)(v:V)(d:D)(F H:Hp),Same F H->H a=iw (.lst xs)->F a=iB->IsL C.K F xs ds->Is C.K F v d->g ds d=.ok ys->(∀zs,IsL C.K F zs ys->Q .non (upd H a (.lst zs)))->R (.ref a) v H Q)(h:tE C own .sh (xP i g fe) σ H Q):∃a xs,σ[i]?=iw (iw (V.ref a))/\H a=iw (.lst xs)/\tE C own .sh fe σ H λv H1=>R (.ref a) v H1 Q:=by
 obtain⟨F,ρ,p,h⟩:=h;unfold xP at h;by_cases q:yK ρ[i]?=iD
 ·rw [Aa q]at h;obtain⟨ds,hd⟩:=Yn q;obtain⟨a,h1,h2,xs,k,y⟩:=p.ow i _ l hd;refine⟨a,xs,h1,k,F,ρ,p,Po.bind h λv F1 H1 d ρ1 r A f po=>?_⟩;cases e:ρ1[i]? with
  |none=>simp only[e]at po;exact po.elim
  | some o=>
   cases o with
   |none=>simp only[e]at po;exact po.elim
   | some w=>
    simp only[e]at po;cases w with
    |lst es=>
     simp only at po;cases b:g es d with
     |ok ys=>simp only[b]at po;obtain⟨B,e1,t,vs,s,n⟩:=r.ow i _ l e;rw[h1]at e1;cases e1;refine j a vs es ys v d F1 H1 r.sub s t n f b λzs z=>?_;obtain⟨r2,c2⟩:=r.write (u:=.lst zs) (d:=.lst ys) l h1 ⟨zs,qo,z⟩;exact po .non F1 _ r2 c2 .non
     |exc c o=>simp only[b]at po;exact po.elim
     |bad=>simp only[b]at po;exact po.elim
    |_=>exact po.elim
 .rw[Ab q]at h;exact h.elim
theorem wL{px apos cpos:Pos}(u:C.K=X.K)(r:X.N[i]?=iw x)(n:Vis X.env.scope x)(o:i∈own)(p:PE X e (tE C own m fe))(j:m≠.any:=by decide)(hd:Dbg x:=by decide)(f:Cdk x:=by decide)(c:iY (.Name x px) "append" X.env (Z0 (.Name x px) X.env)=Z0 (.Name x px) X.env:=by rfl)
  (w:((j0 cpos (iI [e] X.env)).all (λx=>!x.1)&&(lB cpos (j8 [] X.env)).all (λx=>x.1.isSome)
   && decide ([e].length+([]:List lr).length+(if ([]:List lr).isEmpty then 0 else 1)<30))=true:=by exact yC rfl)
  (b:(apos.endLine == cpos.line)=true:=by rfl) (hs:iI [e] X.env=[(iE,Z0 e X.env)]:=by exact qJ rfl) :
  PE X (.Call (.Attribute (.Name x px) "append" apos) [e] [] cpos) (tE C own .sh (xP i KJ fe)):=by
 refine jy (qb7 dZ PySem.F.slot_list_append PySem.F.type_list_append KW (vB r n hd f) (qP (wC p j) jC hs) c w b hs rfl) λσ H Q h=>?_;have q:∀(a:Z7)(xs:List V)(ds ys:List D)(v:V)(d:D)(F H:Hp),Same F H->H a=iw (.lst xs)->F a=iB->IsL C.K F xs ds->Is C.K F v d->KJ ds d=.ok ys->(∀zs,IsL C.K F zs ys->Q .non (upd H a (.lst zs)))->Wz (.ref a) [v] H Q:=λa xs ds ys v d F H t s y ix l g k=>by
  unfold KJ at g;split at g;·cases g;exact⟨a,xs,v,rfl,rfl,s,by rw[ix.length];assumption,k _ (ix.append (.cons l .nil))⟩
  .cases g
 obtain⟨a,xs,h1,h2,k⟩:=Yo (R:=λx v H Q=>Wz x [v] H Q) o j q h;exact⟨.ref a,h1,.inl ⟨rfl,xs,.inl (.inl h2)⟩,k⟩
theorem gu{px apos cpos:Pos}(G:X.N[i]?=iw x)(y:Vis X.env.scope x)(l:i∈own)(A:PE X e (tE C own .fr fe))(hd:Dbg x:=by decide)(j:Cdk x:=by decide)(f:iY (.Name x px) "extend" X.env (Z0 (.Name x px) X.env)=Z0 (.Name x px) X.env:=by rfl)
  (w:((j0 cpos (iI [e] X.env)).all (λx=>!x.1)&&(lB cpos (j8 [] X.env)).all (λx=>x.1.isSome)
   && decide ([e].length+([]:List lr).length+(if ([]:List lr).isEmpty then 0 else 1)<30))=true:=by exact yC rfl)
  (c:(apos.endLine == cpos.line)=true:=by rfl) (hs:iI [e] X.env=[(iE,Z0 e X.env)]:=by exact qJ rfl) :
  PE X (.Call (.Attribute (.Name x px) "extend" apos) [e] [] cpos) (tE C own .sh (xP i qct fe)):=by
 refine jy (qb7 dZ PySem.F.slot_list_extend PySem.F.type_list_extend ZY (vB G y hd j) (qP A jC hs) f w c hs rfl) λσ H Q t=>?_;obtain⟨F,ρ,p,h⟩:=t;unfold xP at h;by_cases q:yK ρ[i]?=iD
 ·rw [Aa q]at h;obtain⟨ds,hd⟩:=Yn q;obtain⟨a,h1,h2,xs,I,L⟩:=p.ow i _ l hd;refine⟨.ref a,h1,.inl ⟨rfl,xs,.inl (.inl I)⟩,F,ρ,p,Po.bind h λv F1 H1 d ρ1 r O m po=>?_⟩;obtain⟨b,rfl,E,B,k⟩:=m;cases g:ρ1[i]? with
  |none=>simp only[g]at po;exact po.elim
  | some o=>
   cases o with
   |none=>simp only[g]at po;exact po.elim
   | some K=>
    simp only[g]at po;cases K with
    | lst es=>
     simp only at po;obtain⟨P,e1,M,vs,J,s⟩:=r.ow i _ l g;rw[h1]at e1;cases e1;cases d with
     |lst ys=>
      obtain⟨zs,hz,n⟩:=k;have po:Po C own .sh σ F1 H1 (match (if es.length+ys.length<=Z8 then .ok (es++ys)else .bad:Out (List D))with|.ok ys=>.ok (.non,ρ1.set i (iw (.lst ys)))|_=>.bad) Q:=po;by_cases z:es.length+ys.length<=Z8;·rw[Aa z]at po;refine⟨a,b,vs,zs,rfl,rfl,J,hz,by rw[s.length,n.length];exact z,?_⟩;obtain⟨r2,c2⟩:=r.write (u:=.lst (vs++zs)) (d:=.lst (es++ys)) l h1 ⟨_,qo,s.append n⟩;exact po .non F1 _ r2 c2 .non
      .rw[Ab z]at po;exact po.elim
     |dct ys=>exact po.elim
     |ins _ _=>exact po.elim
     |at_ _ _=>exact po.elim
     |_=>exact k.elim
    |_=>exact po.elim
 .rw[Ab q]at h;exact h.elim
end
noncomputable def scB(names:List (Str×lv))(scope:lX):Bool:=decide (scope.kind=.function)&&scope.names.all λy=>decide (y.2≠.cell)&&(!decide (y.2=.local)||decide (scope.names.lookup y.1=iw .local)) &&
 (!decide (y.2=.free)||((decide (names.lookup y.1=iw .cell)||decide (names.lookup y.1=iw .free))&&decide (scope.names.lookup y.1=iw .free)))
variable{names:List (Str×lv)}
theorem qg7(h:X.env.scope.names=names)(b:scB names scope=iD):ScOk X scope:=by
 subst h;unfold scB at b;rw[aO,aI]at b;obtain⟨c,a⟩:=b;refine⟨Ae c,λy k=>?_,λy k e=>?_,λy k e=>?_,λy k e=>?_⟩;all_goals
  have q:=a y k;simp only[aO,Bool.or_eq_true,em,decide_eq_true_eq,decide_eq_false_iff_not]at q
 .exact q.1.1
 .exact q.1.2.resolve_left λz=>z e
 .exact(q.2.resolve_left λz=>z e).1
 .exact(q.2.resolve_left λz=>z e).2
noncomputable def qie(names:List (Str×lv))(N:List Str)(scope:lX)(c:List Str)(nt:Nat)(cap:List Nat):Bool:=decide cap.Nodup&&decide (c.length=nt+cap.length)&&(aK cap.length).all λj=>match cap[j]? with
 |some k=>match c[nt+j]? with
  |some x=>decide (N[k]?=iw x)&&(((decide (names.lookup x=iw .local)||decide (names.lookup x=iw .cell)||decide (names.lookup x=iw .free))&&decide ((x,bz)∈scope.names))||scope.names.all λy=>decide (y.1≠x))
  |none=>iE
 |none=>iE
theorem qdL{c:List Str}(a:X.env.scope.names=names)(d:X.N=N)(b:qie names N scope c nt cap=iD):CapOk X scope c nt cap:=by
 subst a d;unfold qie at b;rw[aO,aO,aI]at b;obtain⟨⟨i,g⟩,f⟩:=b;refine⟨Ae i,Ae g,λj k D=>?_⟩;have q:=f j (bq.mpr (aA.mp D).1);rw[D]at q;cases e:c[nt+j]? with
 |none=>simp only[e]at q;cases q
 | some x=>
  simp only[e,aO,Bool.or_eq_true,decide_eq_true_eq]at q;refine⟨x,rfl,q.1,?_⟩;rcases q.2 with⟨z,q2⟩|z
  .refine .inl ⟨?_,q2⟩;rcases z with(z|z)|z;·exact .inl z
   .exact .inr (.inl z)
   .exact .inr (.inr z)
  .refine .inr λk' h=>?_;rw[aI]at z;exact Ae (z (x,k') h) rfl
theorem vX:kr (CXk P w) X (λ_ _ _=>False):=λ_ _ _ _ _ _ _ h=>by obtain⟨_,_,_,_,_,_,_,_,_,_,_,_,_,_,j⟩:=h;exact j.elim
def qi4(f:qV):qV:=λρ=>(qO f ρ).bind λp=>.ok (.bl (!p.1),p.2)
section
variable{i:Int}
theorem vE(h:∃t,X.mg x=iw (.int i t))(hg:Gl X x)(hd:Dbg x:=by decide):PE X (.Name x pos) (tE C own .sh (dC (.int i))):=by obtain⟨t,h⟩:=h;exact qeH (v:=.int i) hg h ⟨t,rfl⟩ (λ_=>.int i) hd
end
section
variable{a b:Z4}{f fa fb:qV}
noncomputable def ve:D->Out D
 |.lst xs=>.ok (.tup xs)
 |.tup xs=>.ok (.tup xs)
 |_=>.bad
noncomputable def Vl:D->Out D
 |.lst xs=>.ok (.lst xs)
 |.tup xs=>.ok (.lst xs)
 |_=>.bad
theorem uH(d:C.K=X.K):gl X C .sh (.type "tuple") ve:=by
 intro Z9 s σ H xs us Q I r h;obtain⟨x,F,dx,rfl,b,a,po⟩:=h;cases dx with
 |lst ds=>obtain⟨p,vs,rfl,hq,t⟩:=a.lst b;refine yB Z9 s σ H _ us Q I r ⟨p,vs,rfl,.inl ⟨by rw[<-d];exact hq,λl hl=>?_⟩⟩;obtain⟨s2,c2⟩:=xn (u:=.tup vs) b hl;exact po _ _ _ s2 c2 (.tup (.inl (.inl qo)) (t.mono c2.grow))
 | tup ds=>
  rcases a with a|⟨_,_,a⟩
  .have c:=a;cases a with
   |tup hq t=>exact yB Z9 s σ H _ us Q I r ⟨_,_,rfl,.inr ⟨by rw[<-d];exact je b hq,po _ F H b .refl c⟩⟩
  .exact a.elim
 |_=>exact po.elim
theorem WK(c:C.K=X.K):gl X C .fr (.type "list") Vl:=by
 intro Z9 s σ H xs us Q I r h;obtain⟨x,F,dx,rfl,b,a,po⟩:=h;cases dx with
 |lst ds=>obtain⟨p,vs,rfl,hq,t⟩:=a.lst b;refine xL Z9 s σ H _ us Q I r ⟨p,vs,rfl,.inl (by rw[<-c];exact hq),λl hl=>?_⟩;obtain⟨s2,c2,D⟩:=jL (u:=.lst vs) b hl;exact po _ _ _ s2 c2 ⟨l,rfl,hl,D,vs,qo,t⟩
 |tup ds=>obtain⟨p,vs,rfl,hq,t⟩:=a.tup b;refine xL Z9 s σ H _ us Q I r ⟨p,vs,rfl,.inr (by rw[<-c];exact hq),λl hl=>?_⟩;obtain⟨s2,c2,D⟩:=jL (u:=.lst vs) b hl;exact po _ _ _ s2 c2 ⟨l,rfl,hl,D,vs,qo,t⟩
 |_=>exact po.elim
def GJ(X:Cx)(C:Ct)(m:Mo)(f:iC)(g:D->D->Out D):Prop:=wG X f (λxs H Q=>∃x y F dx d,xs=[x,y]/\Same F H/\TopIs C.K F H x dx/\TopIs C.K F H y d/\PoV C m F H (g dx d) Q)
theorem JI{Q:VK}{g:D->D->Out D}(k:ma≠.any)(h:tE C own m (d2 g fa fb) σ H Q):qb2 (tE C own ma fa) (qb2 (tE C own mb fb) qgD) σ H λxs H1=>∃x y F dx a,xs=[x,y]/\Same F H1/\TopIs C.K F H1 x dx/\TopIs C.K F H1 y a/\PoV C m F H1 (g dx a) Q:=by
 obtain⟨F,ρ,n,h⟩:=Vb (mb:=mb) k h;refine⟨F,ρ,n,?_⟩;cases q:fa ρ with
 |ok p=>
  rw[q]at h;obtain⟨d,ρ1⟩:=p;intro v F1 H1 e o j;obtain⟨t,ρ2,b,h2⟩:=h v F1 H1 e o j;refine⟨t,ρ2,b,?_⟩;cases f:fb ρ2 with
  |ok p=>rw[f]at h2;obtain⟨d',l⟩:=p;intro w F3 s r I i;obtain⟨L,dx,a,z⟩:=h2 w F3 s r I i;exact⟨v,w,L,dx,a,rfl,z⟩
  |exc c=>rw[f]at h2;exact h2
  |bad=>rw[f]at h2;exact h2.elim
 |exc c=>rw[q]at h;exact h
 |bad=>rw[q]at h;exact h.elim
theorem Vm{id:String}{p:Pos}{g:D->D->Out D}(e:GJ X C m (.builtin id) g)(hg:Gl X x)(d:X.mg x=iB)(v:iJ x=iw (.builtin id))(i:PE X a (tE C own ma fa))(hb:PE X b (tE C own mb fb))(f:ma≠.any:=by decide)(n:x ≠ "__name__":=by decide)(c:Dbg x:=by decide)(h1:iI [a,b] X.env=(iE,Z0 a X.env)::iI [b] X.env:=by rfl)(h2:iI [b] X.env=[(iE,Z0 b X.env)]:=by exact qJ rfl):PE X (.Call (.Name x p) [a,b] [] pos) (tE C own m (d2 g fa fb)):=
 jy (yA e hg d v (qP i (qP hb jC h2) h1) n c (by rw[h1]) (by rw[h2];rfl)) λ_ _ _ h=>JI f h
def qif:D->D->Out D:=Qy λi j=>.ok (.int (if j > i then j else i))
def qig:D->D->Out D:=Qy λi j=>.ok (.int (if j<i then j else i))
theorem qg8(d:X.calm=iD):GJ X C .sh (.builtin "max") qif:=by
 intro Z9 s σ H xs us Q I r h;obtain⟨x,y,F,dx,a,rfl,b,t,ty,po⟩:=h;cases dx <;> try exact po.elim
 cases a <;> try exact po.elim
 obtain rfl:=t.int;obtain rfl:=ty.int;exact ZQ d Z9 s σ H _ us Q I r ⟨_,_,rfl,po _ F H b .refl (.int _)⟩
theorem qg9(d:X.calm=iD):GJ X C .sh (.builtin "min") qig:=by
 intro Z9 s σ H xs us Q I r h;obtain⟨x,y,F,dx,a,rfl,b,t,ty,po⟩:=h;cases dx <;> try exact po.elim
 cases a <;> try exact po.elim
 obtain rfl:=t.int;obtain rfl:=ty.int;exact ZR d Z9 s σ H _ us Q I r ⟨_,_,rfl,po _ F H b .refl (.int _)⟩
noncomputable def zD(a T:String):Option Bool:=if (dw a == dw T)=iD then iw iD else if PySem.W.kitMeta T=iD then(fastBuiltinMro a).map (·.contains (.type T))else iB
theorem qcu(K:Y9)(a T:String):PySem.W.kitOne K (.type a) (.type T)=zD a T:=rfl
noncomputable def tyN:D->Option String
 |.non=>iw "NoneType"
 |.bl _=>iw "bool"
 |.int _=>iw "int"
 |.str _=>iw "str"
 |.tup _=>iw "tuple"
 |.lst _=>iw "list"
 |.dct _=>iw "dict"
 |_=>iB
def wM(T:String)(d:D):Out D:=match tyN d with
 |some a=>match zD a T with
  |some b=>.ok (.bl b)
  |none=>.bad
 |none=>.bad
theorem qcv(l:C.K=X.K):wG X (.builtin "isinstance") (λxs H Q=>∃x F d,xs=[x,.ty T]/\Same F H/\TopIs C.K F H x d/\PoV C .sh F H (wM T d) Q):=by
 intro Z9 s σ H xs us Q I r h;obtain⟨x,F,d,rfl,i,f,po⟩:=h;obtain⟨u,c,rfl,g,k⟩:=ZP r;cases k;cases q:tyN d with
 |none=>unfold wM at po;rw[q]at po;exact po.elim
 | some a=>
  cases j:zD a T with
  |none=>unfold wM at po;rw[q]at po;simp only[j]at po;exact po.elim
  | some b=>
   have po:PoV C .sh F H (.ok (.bl b)) Q:=by unfold wM at po;rw[q]at po;simp only[j]at po;exact po
   have fin:∀tk,EP X Z9 σ Q (.bool b) { s with toks:=tk }:=λtk=>⟨.bl b,H,I.tok tk,rfl,po _ F H i .refl (.bl b)⟩
   have e:PySem.W.kitOne X.K (.type a) (.type T)=iw b:=(qcu X.K a T).trans j;cases d with
   |non=>obtain rfl:=f.non;cases g;cases q;exact cG PySem.W.kitx_none I.kIn cX e (λz=>nomatch z) fin
   |bl y=>obtain rfl:=f.bl;cases g;cases q;exact cG PySem.W.kitx_bool I.kIn cX e (λz=>nomatch z) fin
   |int y=>obtain rfl:=f.int;obtain⟨t,rfl⟩:=g;cases q;exact cG PySem.W.kitx_int I.kIn cX e (λz=>nomatch z) fin
   |str y=>obtain⟨rfl,_⟩:=f.str;obtain⟨t,rfl⟩:=g;cases q;exact cG PySem.W.kitx_str I.kIn cX e (λz=>nomatch z) fin
   |tup y=>obtain⟨p,vs,rfl,hq,t⟩:=f.tup i;cases g;cases q;obtain⟨its,_,⟨o,h1,h2,_⟩,_⟩:=I.tuple (show SqT X.K H p vs by rw[<-l];exact hq);exact cG PySem.W.kitx_tuple I.kIn ⟨o,h1,h2⟩ e (λz=>nomatch z) fin
   |lst y=>obtain⟨p,vs,rfl,hq,t⟩:=f.lst i;cases g;cases q;obtain⟨its,_,⟨o,n,h1,h2,_⟩,_⟩:=I.list (show SqL X.K H p vs by rw[<-l];exact hq);exact cG PySem.W.kitx_list I.kIn ⟨o,h1,h2⟩ e (λz=>nomatch z) fin
   |dct y=>
    obtain⟨p,vs,rfl,hq,t⟩:=f.dct i;cases g;cases q;obtain⟨_,_,ws,_,o,es,ep,h1,h2,_⟩:=(show ObjOk X.prog X.w H s.heap p (.dK vs)from I.hok p _ hq)
    exact cG PySem.W.kitx_dict I.kIn ⟨o,h1,h2.1⟩ e (λz=>nomatch z) fin
   |_=>cases q
theorem uS{tn:Str}{p t:Pos}(l:C.K=X.K)(hg:Gl X "isinstance")(j:X.mg "isinstance"=iB)(i:iJ "isinstance"=iw (.builtin "isinstance"))(ht:Gl X tn)(e:X.mg tn=iB)(b:iJ tn=iw (.type T))(k:PE X a (tE C own ma fa))(n:tn ≠ "__name__":=by decide)(f:Dbg tn:=by decide)(h1:iI [a,.Name tn t] X.env=(iE,Z0 a X.env)::iI [.Name tn t] X.env:=by rfl)(h2:iI [.Name tn t] X.env=[(iE,Z0 (.Name tn t) X.env)]:=by rfl):PE X (.Call (.Name "isinstance" p) [a,.Name tn t] [] pos) (tE C own .sh (d1 (wM T) fa)):=by
 refine jy (yA (qcv (T:=T) l) hg j i (qP k (qP (qeg (v:=.ty T) ht e b rfl n f) jC h2) h1) (by decide) (by decide) (by rw[h1]) (by rw[h2];rfl)) λσ H Q h=>?_;obtain⟨F,ρ,g,h⟩:=XR (ma:=ma) h;refine⟨F,ρ,g,?_⟩;cases q:fa ρ with
 |ok p=>rw[q]at h;obtain⟨d,ρ1⟩:=p;intro v F1 H1 r o m;obtain⟨s,dx,z⟩:=h v F1 H1 r o m;exact⟨v,s,dx,rfl,z⟩
 |exc c=>rw[q]at h;exact h
 |bad=>rw[q]at h;exact h.elim
noncomputable def xQ:List D->Option (List Bool)
 |[]=>iw []
 |.bl b::ds=>(xQ ds).map (b::·)
 |_::_=>iB
def Yp:D->Out D
 |.lst ds=>match xQ ds with
  |some bs=>.ok (.bl (bs.all id))
  |none=>.bad
 |_=>.bad
theorem qcw{us:List iC}{bs:List Bool}(a:IsL K F vs ds)(l:Vals vs us)(e:xQ ds=iw bs):us=bs.map cW:=by
 induction ds generalizing vs us bs with
 |nil=>cases a;cases l;cases e;rfl
 | cons d ds j=>
  cases a with
  | cons i a=>
   cases l with
   |cons r l=>
    cases d with
    |bl b=>obtain⟨c,e1,rfl⟩:=aP.mp (show(xQ ds).map (b::·)=iw bs from e);cases i;cases r;rw[j a l e1];rfl
    |_=>cases e
set_option tactic.hygienic true in
theorem gy(n:C.K=X.K)(m:X.calm=iD):gl X C .sh (.builtin "all") Yp:=by
 intro Z9 s σ H xs us Q I r h;obtain⟨x,F,dx,rfl,f,k,po⟩:=h;cases dx <;> try exact po.elim
 rename_i ds;obtain⟨p,vs,rfl,hq,t⟩:=k.lst f;obtain⟨u,rfl,y⟩:=uO r;cases y;unfold Yp at po;cases q:xQ ds with
 |none=>simp only[q]at po;exact po.elim
 | some bs=>
  simp only[q]at po;obtain⟨its,l,pl,hz⟩:=I.list (show SqL X.K H p vs by rw[<-n];exact hq);have c:=qcw t l q;subst c;have hp:p<s.heap.objs.size:=let ⟨o,h1,_⟩:=pl.isList;aw h1;refine call_all_walk (lQ pl.isList ?_);have W:Walks X.prog X.w X.A.in1 s.heap.objs.size [s.heap.objs.size,p] [s.heap.objs.size] (bs.map cW).toArray.size (λi v=>(bs.map cW).toArray[i]?=iw v) (λi h=>h.IsListIter s.heap.objs.size p i/\h.IsList p (bs.map cW).toArray):=iu (A:=X.A.in1) (show X.A.in1.handled=iB from I.ok.hd m) s.heap.objs.size p (ax hp) _;have st:(s.heap.push { cls:=.type "list_iterator",data:=.fields #[.ref p,.int 0 0] }).IsListIter s.heap.objs.size p 0/\(s.heap.push { cls:=.type "list_iterator",data:=.fields #[.ref p,.int 0 0] }).IsList p (bs.map cW).toArray:=⟨⟨_,af _ rfl,rfl,rfl⟩,let ⟨o,h1,h2⟩:=pl.isList; ⟨o,aa _ h1,h2⟩⟩
  refine⟨_,_,_,_,_,_,λi=>(bs[i]?).getD iE,rfl,W,st,λi v s' z E j d=>?_,λh' tk kp=>?_⟩
  .have j:(bs.map cW).toArray[i]?=iw v:=j;rw[eG,aJ]at j;cases g:bs[i]? with
   |none=>rw[g]at j;cases j
   |some b=>have a:z ((bs[i]?).getD iE) s':=d;rw[g]at j a;cases j;exact i6 a
  .have e:(aK (bs.map cW).toArray.size).all (λi=>(bs[i]?).getD iE)=bs.all id:=by
    rw[aj,ah,Bool.eq_iff_iff,aI,aI];constructor;·intro h b hb;obtain⟨i,hi,e⟩:=List.mem_iff_getElem.mp hb;have:=h i (bq.mpr hi);rw[aG hi,e]at this;exact this
    .intro h i hi;have hi:=bq.mp hi;rw[aG hi];exact h _ (cS hi)
   rw[e];refine⟨.bl (bs.all id),H,?_,rfl,po _ F H f .refl (.bl _)⟩;have k2:∀b o,s.heap.get? b=iw o->h'.get? b=iw o:=λb o c=>kp b o (by simp;exact ax (aw c)) (aa _ c);exact I.kept (t':=tk) k2
end
def PoO(C:Ct)(own:List Nat)(σ:St)(F H:Hp)(r:Out (Option Int×Sl))(Q:Option Int->Hp->Prop):Prop:=match r with
 |.ok (b,ρ')=>∀F' H',Rep C.K own F' H' σ ρ'->Chg (OA own σ) F H F' H'->Q b H'
 |.exc c ρ'=>∀F' H',Same F' H'->Gi C.K C.ox F' H' σ ρ'->Chg (OA own σ) F H F' H'->C.E (C.cv c) iB H'
 |.bad=>False
def tO(C:Ct)(own:List Nat)(f:Sl->Out (Option Int×Sl)):TO:=λσ H Q=>∃F ρ,Rep C.K own F H σ ρ/\PoO C own σ F H (f ρ) Q
def JJ:Option (qV)->Sl->Out (Option Int×Sl)
 |none,ρ=>.ok (iB,ρ)
 |some f,ρ=>(f ρ).bind λp=>match p.1 with
  |.int i=>.ok (iw i,p.2)
  |_=>.bad
theorem Po.bindO{o:Out (Option Int×Sl)}{k:Option Int×Sl->Va}{Q:VK}{R:Option Int->Hp->Prop}(hp:Po C own m σ F H (o.bind k) Q)(h:∀F1 H1 b ρ1,Rep C.K own F1 H1 σ ρ1->Chg (OA own σ) F H F1 H1->Po C own m σ F1 H1 (k (b,ρ1)) Q->R b H1):PoO C own σ F H o R:=by
 cases o with
 |ok p=>obtain⟨d,ρ1⟩:=p;exact λF1 H1 a c=>h F1 H1 d ρ1 a c (Po.shift (show Po C own m σ F H (k (d,ρ1)) Q from hp) c)
 |exc x=>exact hp
 |bad=>exact hp.elim
section
variable{a:Z4}{fa f:qV}{p2:Pos}
theorem Yq:PO X iB (tO C own (JJ iB)):=by rintro Z9 s σ H Q I ⟨F,ρ,a,h⟩;exact qew Z9 s σ H Q I (h F H a .refl)
theorem Yr(h:PE X e (tE C own m f)):PO X (iw e) (tO C own (JJ (iw f))):=by
 rintro Z9 s σ H Q I ⟨F,ρ,r,hp⟩;refine qex h Z9 s σ H Q I ⟨F,ρ,r,?_⟩;have hp:PoO C own σ F H ((f ρ).bind λp=>match p.1 with|.int i=>.ok (iw i,p.2)|_=>.bad) Q:=hp;cases q:f ρ with
 |ok p=>
  rw[q]at hp;obtain⟨d,ρ1⟩:=p;cases d with
  |int i=>exact λv F1 H1 a k b=>⟨i,b.top.int,hp F1 H1 a k⟩
  |_=>exact hp.elim
 |exc c=>rw[q]at hp;exact hp
 |bad=>rw[q]at hp;exact hp.elim
end
noncomputable def Its(x:Str):It:=⟨λi _=>i<x.cps.size,λi H v H'=>H'=H/\∃c,x.cps[i]?=iw c/\v=.str ⟨#[c]⟩,λi _=>x.cps.size<=i⟩
noncomputable def JK(x:Str):List D:=x.cps.toList.map λc=>.str ⟨#[c]⟩
theorem Ys{P:iK}{w:iL}{K:Y9}{tg:Z4}(it:Z7)(x:Str)(t:Tok)(ty:String)(q:["enumerate","zip","dict_itemiterator","dict_reverseitemiterator","odict_iterator","itertools.zip_longest","itertools.pairwise"].contains ty=iE)(W:∀A:iT,A.handled=iB->Walks P w A it [it] [it] x.cps.size (SignAt x) (λi h=>h.IsStrIter it ty x t i))(p:∀(A:iT)(i:Nat)(s:iF)(Q:iC->iF->Prop)(E:iC->iF->Prop),s.heap.IsStrIter it ty x t i->Q (.ref it) s->iH (Z6 P w) A (mQ (.ref it)) Q E s) :
  Turn P w K tg (Its x) [it] it (λi h=>h.IsStrIter it ty x t i/\i<=x.cps.size) where
 mem:=by simp
 obj:=λi h st b hb=>by
  have e:b=it:=by simpa using hb
  subst e;obtain⟨o,e,c,d⟩:=st.1;exact⟨o,e,λv z=>by rw[d]at z;cases z⟩
 keep:=λi h h' st k=>by obtain⟨⟨o,e,r⟩,hi⟩:=st;exact⟨⟨o,k it (by simp) o e,r⟩,hi⟩
 item:=by
  intro X j hw l g i Z9 s σ H E I a st hg;subst j hw l;obtain⟨f0,f1,f2,n,f4,m⟩:=a it (by simp);refine(W X.A (I.ok.hd g)).item i s _ _ hg st.1 λv h' tk j f kp=>?_;have y:Inv X Z9 σ H { s with heap:=h',toks:=tk }:=I.turned (t':=tk) (λb o hb e=>kp b o (by simpa using hb) e) f0 f1 n f4 m;obtain⟨o,e,c,d⟩:=id f;obtain⟨S,u,h1,h2⟩:∃S u,x.cps[i]?=iw S/\v=df ⟨#[S]⟩ u:=by
   unfold SignAt at j;first
    |exact j
    |(obtain⟨S,u,h1,h2⟩:=j;exact⟨S,u,h1,h2⟩)
    |(obtain⟨S,h1,u,h2⟩:=j;exact⟨S,u,h1,h2⟩)
    |(obtain⟨u,S,h1,h2⟩:=j;exact⟨S,u,h1,h2⟩)
  subst h2;exact⟨_,rfl,qbV (s:={ s with heap:=h',toks:=tk }) e c d q ⟨.str ⟨#[S]⟩,H,y,⟨u,rfl⟩,⟨rfl,S,h1,rfl⟩,⟨f,hg⟩,λb hb=>(a b hb).1⟩⟩
 done:=by intro X j hw l g i Z9 s σ H E I a st hg;subst j hw l;obtain⟨f0,f1,f2,n,f4,m⟩:=a it (by simp);have hi:i=x.cps.size:=Nat.le_antisymm st.2 hg;subst hi;exact(W X.A (I.ok.hd g)).done s _ _ st.1 λh' tk kp=>⟨rfl,I.turned (t':=tk) (λb o hb e=>kp b o (by simpa using hb) e) f0 f1 n f4 m⟩
 self:=λA i s Q E st h=>p A i s Q E st.1 h
theorem qha:ItIs K F (Its x) (JK x) where
 go:=λi H hi _=>by
  have:i<x.cps.size:=by simpa[JK]using hi
  exact this
 yld:=λi Fi H v H' d e s1 s2 y=>by
  obtain⟨rfl,c,h1,rfl⟩:=y;have e:d=.str ⟨#[c]⟩:=by
   unfold JK at e;rw[aJ]at e;have h1:x.cps.toList[i]?=iw c:=by simpa using h1
   rw[h1]at e;exact(aL.inj e).symm
  subst e;exact⟨Fi,.refl,s2,.str (Yh c)⟩
 stop:=λi H hi _=>by
  have:x.cps.size<=i:=by simpa[JK]using hi
  exact this
def jm:D->Out (List D)
 |.lst xs=>.ok xs
 |.tup xs=>.ok xs
 |.str x=>.ok (JK x)
 |_=>.bad
def jv(f:qV):vN:=λρ=>(f ρ).bind λp=>(jm p.1).bind λds=>.ok (ds,p.2)
section
variable{f:qV}
theorem qhb{l:Z4}{tl:TE}(hl:PE X l tl):PI X tg l (λσ H R=>tl σ H λx H1=>(∃a,x=.ref a/\(((∃xs,SqL X.K H1 a xs)/\R (Itl X.K a) H1)\/((∃xs,SqT X.K H1 a xs)/\R (Itt X.K a) H1)))\/∃z,x=.str z/\R (Its z) H1):=by
 refine⟨?_⟩;intro Z9 s σ H R I h;refine thn (hl Z9 s σ H _ I h) λv s1 c=>?_;obtain⟨x,H1,d,r1,g⟩:=c;have fp:∀b∈[s1.heap.objs.size],Wo X Z9 H1 b:=λb hb=>by
  have e:b=s1.heap.objs.size:=by simpa using hb
  subst e;exact d.fpOk (aq _) (d.hok.fresh (aq _))
 rcases g with⟨a,rfl,q⟩|⟨z,rfl,q⟩
 .cases r1;rcases q with⟨⟨xs,hq⟩,q⟩|⟨⟨xs,hq⟩,q⟩
  .obtain⟨its,r,p,hz⟩:=d.list hq;refine lQ p.isList ?_;exact⟨s1.heap.objs.size,[s1.heap.objs.size],_,_,H1,rfl,d.kept (t':=s1.toks) λb o e=>aa _ e,ZJ a _,⟨_,af _ rfl,rfl,rfl⟩,fp,q⟩
  .obtain⟨its,r,p,hz⟩:=d.tuple hq;refine lx (show s1.heap.IsTuple a its.toArray from p) ?_;exact⟨s1.heap.objs.size,[s1.heap.objs.size],_,_,H1,rfl,d.kept (t':=s1.toks) λb o e=>aa _ e,XD a _,⟨_,af _ rfl,rfl,rfl⟩,fp,q⟩
 .obtain⟨t,rfl⟩:=r1;cases f:z.cps.all (· < 128)with
  |true=>refine wpAny_pyIter_ascii f ?_;exact⟨s1.heap.objs.size,[s1.heap.objs.size],_,_,H1,rfl,d.kept (t':=s1.toks) λb o e=>aa _ e,Ys _ z t "str_ascii_iterator" (by decide) (λA hA=>Walks.strAscii hA _ z t) (λA i s Q E st h=>wpAny_pyIter_striter_ascii st h),⟨⟨_,af _ rfl,rfl,rfl⟩,aZ _⟩,fp,q⟩
  |false=>refine wpAny_pyIter_wide f ?_;exact⟨s1.heap.objs.size,[s1.heap.objs.size],_,_,H1,rfl,d.kept (t':=s1.toks) λb o e=>aa _ e,Ys _ z t "str_iterator" (by decide) (λA hA=>Walks.strWide hA _ z t) (λA i s Q E st h=>wpAny_pyIter_striter_wide st h),⟨⟨_,af _ rfl,rfl,rfl⟩,aZ _⟩,fp,q⟩
theorem qL(l:C.K=X.K)(h:PE X e (tE C own m f))(b:m≠.any:=by decide):PI X tg e (tIt C own (jv f)):=by
 refine qco (qhb (wC h b)) λσ H R ⟨F,ρ,r,h⟩=>⟨F,ρ,r,PoI.bindV h λv F1 H1 d ρ1 a k c h1=>?_⟩
 have c:Is C.K F1 v d:=c;cases c with
 |lst p t=>exact .inl ⟨_,rfl,.inl ⟨⟨_,by rw[<-l];exact a.sub.seq p⟩,by rw[<-l];exact h1 _ F1 H1 a k (qg2 p t)⟩⟩
 |tup p t=>exact .inl ⟨_,rfl,.inr ⟨⟨_,by rw[<-l];exact je a.sub p⟩,by rw[<-l];exact h1 _ F1 H1 a k (qg3 p t)⟩⟩
 |str hz=>exact .inr ⟨_,rfl,h1 _ F1 H1 a k qha⟩
 |_=>exact h1.elim
end
end L2.D2
namespace L2.D2
open PySem PySem.Spec PySem.Calls PyProof.Rows PySem.W Builtin Builtin.ObjectAttr Builtin.Getset_descriptor
end L2.D2
namespace L2.D2
open PySem PySem.Spec PyProof.Rows
inductive SK where
 |l|t
noncomputable def SK.itc:SK->String
 |.l => "list_iterator"
 |.t => "tuple_iterator"
def SeqK(h:Z5)(a:Z7):SK->Array iC->Prop
 |.l,xs=>h.IsList a xs
 |.t,xs=>h.IsTuple a xs
def ItK(h:Z5)(it a:Z7):SK->Nat->Prop
 |.l,i=>h.IsListIter it a i
 |.t,i=>h.IsTupleIter it a i
def SqK(K:Y9)(H:Hp)(a:Z7):SK->List V->Prop
 |.l,xs=>SqL K H a xs
 |.t,xs=>SqT K H a xs
variable{h h':Z5}{a:Z7}{xs:Array iC}
theorem SeqK.at:∀{k:SK},SeqK h a k xs->(∀o,h.get? a=iw o->h'.get? a=iw o)->SeqK h' a k xs
 |.l,⟨o,e,c⟩,k=>⟨o,k _ e,c⟩
 |.t,⟨o,e,c⟩,k=>⟨o,k _ e,c⟩
theorem SeqK.lt:∀{k:SK},SeqK h a k xs->a<h.objs.size
 |.l,⟨o,e,c⟩=>aw e
 |.t,⟨o,e,c⟩=>aw e
variable{it:Z7}{i:Nat}
theorem ItK.obj:∀{k:SK},ItK h it a k i->∃o,h.get? it=iw o/\o.cls=.type k.itc/\o.data=.fields #[.ref a,.int i 0]
 |.l,⟨o,e,c,d⟩=>⟨o,e,c,d⟩
 |.t,⟨o,e,c,d⟩=>⟨o,e,c,d⟩
theorem ItK.of:∀{k:SK},(∃o,h.get? it=iw o/\o.cls=.type k.itc/\o.data=.fields #[.ref a,.int i 0])->ItK h it a k i
 |.l,⟨o,e,c,d⟩=>⟨o,e,c,d⟩
 |.t,⟨o,e,c,d⟩=>⟨o,e,c,d⟩
variable{prog:iK}{w:iL}{A:iT}{E:iC->iF->Prop}{s:iF}{Q:Option iC->iF->Prop}{l:Z7}{items:Array iC}{x:iC}{o:Obj}{n:Nat}
section
theorem qcx{k:SK}{Q:iC->iF->Prop}(h:SeqK s.heap a k xs)(c:Q (.ref s.heap.objs.size) { s with heap:=s.heap.push { cls:=.type k.itc,data:=.fields #[.ref a,.int 0 0] } }):iH (Z6 prog w) A (mQ (.ref a)) Q E s:=by
 cases k with
 |l=>exact lQ h c
 |t=>exact lx h c
noncomputable def SK.cl:SK->String
 |.l => "list"
 |.t => "tuple"
theorem GK{k:SK}(b:A.handled=iB)(hi:ItK s.heap it l k i)(hl:SeqK s.heap l k items)(hx:items[i]?=iB)(c:∀h',g9 it s.heap h'->Q iB { s with heap:=h' }):iH (Z6 prog w) A (j7 (.ref it)) Q E s:=by
 cases k with
 |l=>exact wpAny_pyNext_list_end b hi hl hx c
 |t=>exact wpAny_pyNext_tuple_end b hi hl hx c
theorem XX{k:SK}(hi:ItK s.heap it l k i)(hl:SeqK s.heap l k items)(hx:items[i]?=iw x)(c:∀h',ItK h' it l k (i+1)->bh it s.heap h'->Q (iw x) { s with heap:=h' }):iH (Z6 prog w) A (j7 (.ref it)) Q E s:=by
 cases k with
 |l=>exact wpAny_pyNext_list_item hi hl hx c
 |t=>exact wpAny_pyNext_tuple_item hi hl hx c
theorem SeqK.of(e:h.get? a=iw o)(d:o.data=.seq xs n):∀{k:SK},o.cls=.type k.cl->SeqK h a k xs
 |.l,c=>⟨o,e,c,n,d⟩
 |.t,c=>⟨o,e,c,n,d⟩
end
variable{sk:SK}
section
theorem XY:mE (.type "tuple") "keys"=pure none:=by rw[ly,i9];kernel_rfl
theorem QE{k:Nat}{Q:Option iC->iF->Prop}(n:A.handled=iB)(hx:s.heap.get? a=iw o)(l:o.cls=.type "tuple")(t:o.data=.seq xs k)(hd:o.dict=iB)(h:∀h' tk,(∀b j,s.heap.get? b=iw j->h'.get? b=iw j)->Q iB { s with heap:=h',toks:=tk }):iH (Z6 prog w) A (mV (.ref a) "keys") Q E s:=by
 obtain⟨c,dct,q,sl⟩:=o;simp only at l t hd;subst l t hd;obtain⟨hp,g,d,tk,os⟩:=s;have T:∀f,(⟨hp,g,d,f,os⟩:iF).TypeIs (.ref a) "tuple":=λ_=>⟨_,hx,rfl⟩
 have f1:=sub_AttributeError;have v:=dI.lookup;have f4:=dI.bind (.ref a);have u:=am_tuple_getattr_none;have p:=XY;have m:(["__module__","__name__","__qualname__","__doc__","__annotations__"]:List Str).contains ("keys":Str)=false:=by decide +kernel
 have hsz:("keys":Str).length+100<=Z8:=by rw[iM];decide +kernel
 unfold mV getAttrBy?;refine iA (wpAny_mkText (iA (j6 ?_)));unfold getAttrBy;repeat (any_goals (first|assumption|exact T _|((with_reducible show iH _ _ (call (Value.builtin "tuple.__getattribute__") _ _) _ _ _);refine lJ dI (T _) am_entry_tuple_getattribute (F.args_tuple_getattribute_2 _ _) (meets_getattribute_miss_tuple a xs k sl "keys" _ p m hsz) ⟨hx,n,λh' f e i=>?_⟩)|wp_step))
 obtain⟨t',U,r⟩:=i.there;show iH _ _ (lL _ _ _ _ _ _ _) _ _ _;unfold lL;repeat (any_goals (first|assumption|wp_step))
 exact h h' f i.keeps
theorem XZ:mE (.type "list") "keys"=pure none:=by rw[ly,i9];kernel_rfl
theorem gz{k:Nat}{Q:Option iC->iF->Prop}(n:A.handled=iB)(hx:s.heap.get? a=iw o)(l:o.cls=.type "list")(t:o.data=.seq xs k)(hd:o.dict=iB)(h:∀h' tk,(∀b j,s.heap.get? b=iw j->h'.get? b=iw j)->Q iB { s with heap:=h',toks:=tk }):iH (Z6 prog w) A (mV (.ref a) "keys") Q E s:=by
 obtain⟨c,dct,q,sl⟩:=o;simp only at l t hd;subst l t hd;obtain⟨hp,g,d,tk,os⟩:=s;have T:∀f,(⟨hp,g,d,f,os⟩:iF).TypeIs (.ref a) "list":=λ_=>⟨_,hx,rfl⟩
 have f1:=sub_AttributeError;have v:=dN.lookup;have f4:=dN.bind (.ref a);have u:=am_list_getattr_none;have p:=XZ;have m:(["__module__","__name__","__qualname__","__doc__","__annotations__"]:List Str).contains ("keys":Str)=false:=by decide +kernel
 have hsz:("keys":Str).length+100<=Z8:=by rw[iM];decide +kernel
 unfold mV getAttrBy?;refine iA (wpAny_mkText (iA (j6 ?_)));unfold getAttrBy;repeat (any_goals (first|assumption|exact T _|((with_reducible show iH _ _ (call (Value.builtin "list.__getattribute__") _ _) _ _ _);refine lJ dN (T _) am_entry_list_getattribute (F.args_list_getattribute_2 _ _) (meets_getattribute_miss_list a xs k sl "keys" _ p m hsz) ⟨hx,n,λh' f e i=>?_⟩)|wp_step))
 obtain⟨t',U,r⟩:=i.there;show iH _ _ (lL _ _ _ _ _ _ _) _ _ _;unfold lL;repeat (any_goals (first|assumption|wp_step))
 exact h h' f i.keeps
theorem xR:entryFor table "dict.update.loop"=iw Builtin.«dict.update.loop»:=entryFor_of_tree (by kernel_rfl)
theorem kn:plainId "dict.update.loop"=true:=by decide +kernel
def GL(h:Z5)(v key val:iC):Prop:=∃p o n,v=.ref p/\h.get? p=iw o/\o.cls=.type "tuple"/\o.data=.seq #[key,val] n
theorem qcy{sk:SK}{R:mR->iF->Prop}{d t:Z7}(hh:A.in1.handled=iB)(Q:d≠t)(u:d≠it)(M:t≠it):∀(n i:Nat)(s:iF)(kvs:List (Key×iC))(ps:List (Key×iC×iC)),items.size - i=n->i<=items.size ->ItK s.heap it t sk i->SeqK s.heap t sk items->s.heap.DictOf (qZ prog w) d kvs->ps.length=n->(∀j p,ps[j]?=iw p->∃v,items[i+j]?=iw v/\zY p.1 p.2.1=iD/\GL s.heap v p.2.1 p.2.2)->kvs.length+n<=Z8 ->(∀h' tk,h'.DictOf (qZ prog w) d (ps.foldl (λl p=>stored l p.1 p.2.2) kvs)->(∀b o,b≠d->b≠it->s.heap.get? b=iw o->h'.get? b=iw o)->R (.ok (.ret .none)) { s with heap:=h',toks:=tk }) ->lq (Z6 prog w) A (.builtin "dict.update.loop" ⟨[.ref d,.ref it,iX i,.none],[]⟩) R s:=by
 intro n
 induction n with
 |zero=>intro i s kvs ps hn hi st ht hd hl hp hz V;have e:ps=[]:=List.length_eq_zero_iff.mp hl;subst e;refine iZ xR ?_;rw[bt kn _];show iH _ A.in1 (j7 (.ref it) >>= _) _ _ s;refine iA (GK hh st ht (by simp;lia) λh' Y=>?_);show iH _ A.in1 (ret bK) _ _ _;refine iG (V h' s.toks ?_ λb o _ h2 e=>Y b o h2 e);obtain⟨o,es,ep,D,r⟩:=hd;exact⟨o,es,ep,Y d o u D,r⟩
 | succ n ih=>
  intro i s kvs ps hn hi st ht hd hl hp hz V;cases ps with
  |nil=>simp at hl
  | cons p ps=>
   obtain⟨v,hv,hk,q,W,nq,rfl,hq,O,c⟩:=hp 0 p rfl;obtain⟨od,es,ep,g,hdx,a⟩:=id hd;have F:q≠d:=λz=>by subst z;rw[hq]at g;cases g;rw[a.1]at c;cases c
   obtain⟨oi,f,hic,E⟩:=st.obj;have J:q≠it:=λz=>by subst z;rw[hq]at f;cases f;rw[E]at c;cases c
   refine iZ xR ?_;rw[bt kn _];show iH _ A.in1 (j7 (.ref it) >>= _) _ _ s;refine iA (XX st ht (x:=.ref q) (by simpa using hv) λh' H G=>?_);have C:h'.get? q=iw W:=(G.2 q J).trans hq;have U:fS { s with heap:=h' } (.ref q) "tuple":=⟨W,C,O⟩
   have T:h'.DictOf (qZ prog w) d kvs:=by obtain⟨o,es,ep,D,r⟩:=hd;exact⟨o,es,ep,(G.2 d u).trans D,r⟩
   have N:SeqK h' t sk items:=ht.at λo D=>(G.2 t M).trans D;dsimp only;refine iA (iR (iA ?_));refine wpAny_tryCatch ?_;unfold Builtin.Dict.pairItems;refine iA (lR U ?_);rw[Aa (by decide)];refine iA (iU C c (iG ?_));show iH _ A.in1 (holding [p.2.1,p.2.2] (dictSet d p.2.1 p.2.2)) _ _ _;refine iR (wpAny_dictSet_pairs (knd:=qZ prog w) hk T (λh2 hd2 k=>?_) (by lia));have keep:∀b o,b≠d->b≠it->s.heap.get? b=iw o->h2.get? b=iw o:=λb o n1 n2 e=>(k.2 b n1).trans ((G.2 b n2).trans e);have X:(stored kvs p.1 p.2.2).length<=kvs.length+1:=by unfold stored;split <;> simp
   refine iG ⟨lp kn _,?_⟩;have ec:iX ((i:Int)+1)=iX ((i+1:Nat):Int):=by push_cast;rfl
   rw[ec];refine ih (i+1) _ (stored kvs p.1 p.2.2) ps (by lia) (by lia) ?_ ?_ hd2 (by simpa using hl) (λj Z e=>?_) (by lia) λh3 tk S k3=>?_;·obtain⟨o,e,r⟩:=H.obj;exact .of ⟨o,(k.2 it (aW u)).trans e,r⟩
   .exact N.at λo e=>(k.2 t (aW Q)).trans e
   .obtain⟨v',L,P,I,y,K,rfl,m,B,h⟩:=hp (j+1) Z (by simpa using e);refine⟨.ref I,by rw[show i+1+j=i+(j+1) by lia];exact L,P,I,y,K,rfl,keep I y (λz=>?_) (λz=>?_) m,B,h⟩;·subst z;rw[m]at g;cases g;rw[a.1]at h;cases h
    .subst z;rw[m]at f;cases f;rw[E]at h;cases h
   .exact V h3 tk S λb o n1 n2 e=>k3 b o n1 n2 (keep b o n1 n2 e)
theorem gA{t:Z7}{ps:List (Key×iC×iC)}{Q:iC->iF->Prop}(J:A.handled=iB){m:Obj}{nt:Nat}(z:s.heap.get? t=iw m)(d:m.cls=.type sk.cl)(n:m.dict=iB)(f:m.data=.seq items nt)(hl:ps.length=items.size)(hp:∀(j:Nat)(p:Key×iC×iC),ps[j]?=iw p->∃v,items[j]?=iw v/\zY p.1 p.2.1=iD/\GL s.heap v p.2.1 p.2.2)(hz:items.size<=Z8)(h:∀h' tk,h'.DictOf (qZ prog w) s.heap.objs.size (ps.foldl (λl p=>stored l p.1 p.2.2) [])->(∀b o,s.heap.get? b=iw o->h'.get? b=iw o)->Q (.ref s.heap.objs.size) { s with heap:=h',toks:=tk }) :
  iH (Z6 prog w) A (call (.type "dict") [.ref t]) Q E s:=by
 refine callType_codes (Q₁:=λobj k=>obj=.ref s.heap.objs.size/\k={ s with heap:=s.heap.push { cls:=.type "dict",data:=.dict #[] } }) F.kt_called_dict (F.kt_typeCall_dict_1 _) F.entry_dict_init (kt_code_dict_new _ ⟨rfl,rfl⟩) ?_;rintro obj k ⟨rfl,rfl⟩;have i:(s.heap.push { cls:=.type "dict",data:=.dict #[] }).DictOf (qZ prog w) s.heap.objs.size []:=Heap.DictOf.new s.heap;refine⟨i.typeIs,F.args_dict_init_2 _ _,?_⟩;unfold Builtin.«dict.__init__»;refine iA ?_;unfold Builtin.Dict.selfAndRest;refine iA (wpAny_notOrdered_dict i.typeIs ?_);show iH _ _ (pure (s.heap.objs.size,[aM t])) _ _ _;refine iG ?_;show iH _ _ (Builtin.Dict.updateFrom "dict.__init__" s.heap.objs.size (.ref t) [] .none) _ _ _;unfold Builtin.Dict.updateFrom;have g:(s.heap.push { cls:=.type "dict",data:=.dict #[] }).get? t=iw m:=aa _ z;have C:t<s.heap.objs.size:=aw z;refine iA (lR (T:=sk.cl) ⟨m,g,d⟩ ?_);rw[Aa (by cases sk <;> decide)];have O:∀{K:Option iC->iF->Prop}{A1:iT}{P:iC->iF->Prop}{s1:iF},A1.handled=iB->s1.heap.get? t=iw m->(∀h' tk,(∀b I,s1.heap.get? b=iw I->h'.get? b=iw I)->K iB { s1 with heap:=h',toks:=tk })->iH (Z6 prog w) A1 (mV (.ref t) "keys") K P s1:=λa b c=>by
  cases sk with
  |l=>exact gz a b d f n c
  |t=>exact QE a b d f n c
 refine iA (O (by exact J) g λh1 H k1=>?_);rw[Aa (show(iB:Option iC).isNone=iD from rfl)];refine iA (lw ?_);have y:h1.get? t=iw m:=k1 _ _ g;have D:h1.DictOf (qZ prog w) s.heap.objs.size []:=by obtain⟨o,es,ep,B,r⟩:=i;exact⟨o,es,ep,k1 _ _ B,r⟩
 have x:SeqK h1 t sk items:=.of y f d;refine iA (qcx (s:={ s with heap:=h1,toks:=H }) x ?_);have u:s.heap.objs.size<h1.objs.size:=let ⟨o,es,ep,B,r⟩:=D;aw B;have up:∀b o,s.heap.get? b=iw o->(h1.push { cls:=.type sk.itc,data:=.fields #[.ref t,.int 0 0] }).get? b=iw o:=λb o e=>aa _ (k1 _ _ (aa _ e));refine iG ⟨lp kn _,?_⟩;refine qcy (items:=items) (t:=t) (A:=A.in1) (show A.in1.in1.handled=iB from J) (cq C) (ax u) (ax (cr C u)) items.size 0 _ [] ps (by lia) (aZ _) (.of ⟨_,af _ rfl,rfl,rfl⟩) ?_ ?_ hl (λj p e=>?_) (by simpa using hz) λh2 G hd2 k2=>⟨rfl,h h2 G hd2 λb o e=>?_⟩
 .exact .of (aa _ y) f d
 .obtain⟨o,es,ep,B,r⟩:=D;exact⟨o,es,ep,aa _ B,r⟩
 .obtain⟨v,M,N,q,W,L,rfl,hq,r⟩:=hp j p e;exact⟨.ref q,by simpa using M,N,q,W,L,rfl,up q W hq,r⟩
 .have hb:=aw e;exact k2 b o (ax hb) (ax (cr hb u)) (up b o e)
end
noncomputable def Wq:D->Option Key
 |.int i=>iw (.inl i)
 |.str x=>iw (.inr x)
 |_=>iB
noncomputable def xS(kvs:List (Key×D))(k:Key)(d:D):List (Key×D):=if kvs.any (λp=>decide (p.1=k))then kvs.map λp=>if p.1=k then(p.1,d)else p else kvs++[(k,d)]
def qcz:D->Option (Key×D)
 |.tup [k,v]=>(Wq k).map λk=>(k,v)
 |_=>iB
def uT:List D->Option (List (Key×D))
 |[]=>iw []
 |d::ds=>match qcz d,uT ds with
  |some p,iw ps=>iw (p::ps)
  |_,_=>iB
def JL:D->Out D
 |.tup ds=>match uT ds with
  |some ps=>.ok (.dct (ps.foldl (λl p=>xS l p.1 p.2) []))
  |none=>.bad
 |_=>.bad
def qhc(d:D):Out D:=(wE d).bind λds=>match uT ds with
 |some ps=>.ok (.dct (ps.foldl (λl p=>xS l p.1 p.2) []))
 |none=>.bad
variable{d:D}{K:Y9}{F H:Hp}{v:V}{ds:List D}
theorem Yt(s:Same F H)(h:TopIs K F H v d)(e:wE d=.ok ds):∃a k xs,v=.ref a/\SqK K H a k xs/\IsL K F xs ds:=by
 cases d with
 |lst es=>cases e;obtain⟨a,xs,rfl,q,t⟩:=h.lst s;exact⟨a,.l,xs,rfl,q,t⟩
 |tup es=>cases e;obtain⟨a,xs,rfl,q,t⟩:=h.tup s;exact⟨a,.t,xs,rfl,q,t⟩
 |_=>cases e
theorem IsK.any{k:Key}:∀{kv:List (Key×V)}{ks:List (Key×D)},IsK K F kv ks->(kv.any λp=>decide (p.1=k))=(ks.any λp=>decide (p.1=k))
 |_,_,.nil=>rfl
 |_,_,.cons h t=>by rw[dg,dg,IsK.any t]
theorem IsK.repl{k:Key}(i:Is K F v d):∀{kv:List (Key×V)}{ks:List (Key×D)},IsK K F kv ks->IsK K F (kv.map λp=>if p.1=k then(p.1,v)else p) (ks.map λp=>if p.1=k then(p.1,d)else p)
 |_,_,.nil=>.nil
 |_,_,.cons (k:=k') h t=>by
  rw[aD,aD];by_cases e:k'=k;·simp only[e,if_true];exact .cons i (IsK.repl i t)
  .simp only[e,if_false];exact .cons h (IsK.repl i t)
theorem IsK.snoc{k:Key}(i:Is K F v d):∀{kv:List (Key×V)}{ks:List (Key×D)},IsK K F kv ks->IsK K F (kv++[(k,v)]) (ks++[(k,d)])
 |_,_,.nil=>.cons i .nil
 |_,_,.cons h t=>.cons h (IsK.snoc i t)
variable{kv:List (Key×V)}{ks:List (Key×D)}
theorem IsK.put{k:Key}(h:IsK K F kv ks)(i:Is K F v d):IsK K F (QB kv k v) (xS ks k d):=by
 unfold QB xS;rw[h.any];by_cases e:(ks.any λp=>decide (p.1=k))=iD;·rw[Aa e,Aa e];exact IsK.repl i h
 .rw[Ab e,Ab e];exact IsK.snoc i h
theorem Yu:∀{v:List (Key×V)}{ps:List (Key×D)}{kv:List (Key×V)}{ks:List (Key×D)},IsK K F v ps->IsK K F kv ks->IsK K F (v.foldl (λl p=>QB l p.1 p.2) kv) (ps.foldl (λl p=>xS l p.1 p.2) ks)
 |_,_,_,_,.nil,h=>h
 |_,_,_,_,.cons i t,h=>by rw[bO,bO];exact Yu t (h.put i)
def qjM(p:Key×V)(q:Key×iC×iC):Prop:=p.1=q.1/\RelV p.2 q.2.2
theorem GM:∀{v:List (Key×V)}{a:List (Key×iC×iC)}{kv:List (Key×V)}{vs:List (Key×iC)},mP qjM v a->KV kv vs->KV (v.foldl (λl p=>QB l p.1 p.2) kv) (a.foldl (λl p=>stored l p.1 p.2.2) vs)
 |_,_,_,_,.nil,h=>h
 |_,_,_,_,.cons r t,h=>by rw[bO,bO];refine GM t ?_;rw[r.1];exact h.put _ r.2
theorem Yv:∀{v:List (Key×V)}{kv:List (Key×V)},(v.foldl (λl p=>QB l p.1 p.2) kv).length<=kv.length+v.length
 |[],kv=>aq _
 |p::v,kv=>by
  have h1:=@Yv v (QB kv p.1 p.2);have h2:=yk kv p.1 p.2;rw[bO,ap]
  lia
variable{X:Cx}{C:Ct}{Z9:Pns}{σ:St}{u:iC}{vs:List V}
section
theorem ge{k:Key}(i:Is C.K F v d)(r:RelV v u)(e:Wq d=iw k):zY k u=true:=by
 cases d with
 |int z=>cases i;cases e;obtain⟨t,rfl⟩:=r;exact KK z t
 |str z=>cases i;cases e;obtain⟨t,rfl⟩:=r;exact KL z t
 |_=>cases e
set_option tactic.hygienic true in
theorem Yw (m:C.K=X.K) (I:Inv X Z9 σ H s) (l:Same F H):∀{vs:List V}{us:List iC}{ds:List D}{ps:List (Key×D)},IsL C.K F vs ds->Vals vs us->uT ds=iw ps ->∃(f:List (Key×V))(c:List (Key×iC×iC)),IsK C.K F f ps/\mP qjM f c/\c.length=us.length/\f.length=us.length/\∀(j:Nat)(p:Key×iC×iC),c[j]?=iw p->∃v,us[j]?=iw v/\zY p.1 p.2.1=iD/\GL s.heap v p.2.1 p.2.2
 |_,_,_,_,.nil,.nil,e=>by cases e;exact⟨[],[],.nil,.nil,rfl,rfl,λj p e=>by simp at e⟩
 | _,_,_,_,.cons (d:=d) (ds:=ds) i t,.cons (b:=u) r rs,e=>by
  unfold uT at e;cases q:qcz d with
  |none=>rw[q]at e;cases e
  | some kd=>
   cases g:uT ds with
   |none=>rw[q,g]at e;cases e
   | some rest=>
    rw[q,g]at e;cases e;obtain⟨f,c,h1,h2,B,h,A⟩:=Yw m I l t rs g;unfold qcz at q;split at q
    .rename_i dk E;obtain⟨k,y,rfl⟩:=aP.mp q;cases i with
     | @tup a xs _ hq il=>
      cases il with
      | @cons xk _ xr _ ik il2=>
       cases il2 with
       | @cons xv _ xr2 _ iv il3=>
        cases il3;cases r;obtain⟨its,w,⟨o,x,z,n,hd⟩,_⟩:=I.tuple (show SqT X.K H a [xk,xv] by rw[<-m];exact je l hq);cases w with
        | @cons _ uk _ _ rk rv2=>
         cases rv2 with
         |@cons _ uv _ _ rv3 rv4=>
          cases rv4;refine⟨(k,xv)::f,(k,uk,uv)::c,.cons iv h1,.cons ⟨rfl,rv3⟩ h2,by simp[B],by simp[h],λj p e=>?_⟩;cases j with
          |zero=>simp at e;subst e;exact⟨_,rfl,ge ik rk y,a,o,n,rfl,x,z,hd⟩
          |succ j=>simpa using A j p (by simpa using e)
    .cases q
theorem Vn(I:Inv X Z9 σ H s):∀{k:SK},SqK X.K H a k vs->∃its o n,Vals vs its/\s.heap.get? a=iw o/\o.cls=.type k.cl/\o.dict=iB/\o.data=.seq its.toArray n/\vs.length<=Z8
 |.l,h=>let ⟨its,r,⟨o,n,e,c,b,hd⟩,hz⟩:=I.list h; ⟨its,o,n,r,e,c,b,hd,hz⟩
 |.t,h=>by obtain⟨its,r,⟨o,e,c,n,hd⟩,hz⟩:=I.tuple h;obtain⟨o2,d,b⟩:=I.tupleN h;rw[e]at d;cases d;exact⟨its,o,n,r,e,c,b,hd,hz⟩
theorem qcA (y:C.K=X.K) (E:X.calm=iD):gl X C .fr (.type "dict") qhc:=by
  intro Z9 s σ H xs us Q I r h;obtain⟨x,F,dx,rfl,f,z,po⟩:=h;unfold qhc at po;cases e:wE dx with
  |bad=>rw[e]at po;exact po.elim
  |exc c o=>cases dx <;> cases e
  | ok ds=>
   rw[e]at po;have po:PoV C .fr F H (match uT ds with|some ps=>.ok (.dct (ps.foldl (λl p=>xS l p.1 p.2) []))|none=>.bad) Q:=po;cases q:uT ds with
   |none=>simp only[q]at po;exact po.elim
   |some ps=>
    simp only[q]at po;obtain⟨a,sk,vs,rfl,hq,t⟩:=Yt f z e;obtain⟨u,rfl,B⟩:=uO r;cases B;rw[y]at hq;obtain⟨its,o,n,m,D,k,g,hd,hz⟩:=Vn I hq;obtain⟨d,A,h1,h2,M,L,J⟩:=Yw y I f t m q;have w:=m.length;refine gA (ps:=A) (I.ok.hd E) D k g hd (by simp[M]) (λj p e=>?_) (by simp;lia) λh' tk i kp=>?_;· obtain⟨v,e1,N⟩:=J j p e;exact⟨v,by simpa using e1,N⟩
    . have hp:H s.heap.objs.size=none:=I.hok.fresh (aq _);obtain⟨s2,c2,G⟩:=jL (u:=.dK (d.foldl (λl p=>QB l p.1 p.2) [])) f hp;have hl:(d.foldl (λl p=>QB l p.1 p.2) ([]:List (Key×V))).length<=Z8:=by
        have:=@Yv d [];simp at this
        lia
      have b:(s.heap.objs.size == lb)=false:=beq_eq_false_iff_ne.mpr (cq I.big);refine⟨.ref s.heap.objs.size,_,I.laid (o:=.dK (d.foldl (λl p=>QB l p.1 p.2) [])) (t':=tk) kp (aq _) (Gf hl b (GM h2 .nil) i),rfl,po _ F _ s2 c2 ⟨_,rfl,hp,G,_,qo,Yu h1 .nil⟩⟩
theorem GN(l:C.K=X.K)(d:X.calm=iD):gl X C .fr (.type "dict") JL:=by
 intro Z9 s σ H xs us Q I r h;obtain⟨x,F,dx,rfl,b,t,po⟩:=h;cases dx <;> try exact po.elim
 exact qcA l d Z9 s σ H _ us Q I r ⟨x,F,_,rfl,b,t,po⟩
noncomputable def yL(kvs:List (Key×D))(k:Key):Bool:=kvs.any λp=>decide (p.1=k)
def inA:D->D->Out D
 |x,.dct kvs=>match Wq x with
  |some k=>.ok (.bl (yL kvs k))
  |none=>.bad
 |x,y=>qgV x y
def Yx:D->D->Out D
 |x,.dct kvs=>match Wq x with
  |some k=>.ok (.bl (!yL kvs k))
  |none=>.bad
 |x,y=>XT x y
theorem Yy{k:Key}(h:IsK K F kv ks):(XO kv k).isSome=yL ks k:=by rw[<-JB,h.any];rfl
theorem qi5{k:Key}(h:TopIs C.K F H v d)(e:Wq d=iw k):v=kV k:=by
 cases d with
 |int z=>cases e;exact h.int
 |str z=>cases e;exact h.str.1
 |_=>cases e
theorem Yz(l:C.K=X.K)(f:X.A.units+64<lc):OpD X C .sh (iN .In) inA:=by
 intro Z9 s σ H x y v u Q I r c h;obtain⟨F,dx,d,t,b,ty,po⟩:=h;by_cases hd:∃kvs,d=.dct kvs
 .obtain⟨kvs,rfl⟩:=hd;cases q:Wq dx with
  |none=>unfold inA at po;simp only[q]at po;exact po.elim
  |some k=>
   unfold inA at po;simp only[q]at po;obtain⟨a,kv,rfl,g,i⟩:=ty.dct t;cases c;have ex:=qi5 b q;subst ex;refine qkj (by lia) I (DGet.k (k:=k) g) r λs' j=>⟨.bl _,H,j,rfl,?_⟩
   rw[Yy i];exact po _ F H t .refl (.bl _)
 .have e:inA dx d=qgV dx d:=by cases d <;> first|rfl|exact absurd ⟨_,rfl⟩ hd
  rw[e]at po;exact qiZ l f Z9 s σ H x y v u Q I r c ⟨F,dx,d,t,b,ty,po⟩
theorem gB(l:C.K=X.K)(f:X.A.units+64<lc):OpD X C .sh (iN .NotIn) Yx:=by
 intro Z9 s σ H x y v u Q I r c h;obtain⟨F,dx,d,t,b,ty,po⟩:=h;by_cases hd:∃kvs,d=.dct kvs
 .obtain⟨kvs,rfl⟩:=hd;cases q:Wq dx with
  |none=>unfold Yx at po;simp only[q]at po;exact po.elim
  |some k=>
   unfold Yx at po;simp only[q]at po;obtain⟨a,kv,rfl,g,i⟩:=ty.dct t;cases c;have ex:=qi5 b q;subst ex;refine qeE (by lia) I (DGet.k (k:=k) g) r λs' j=>⟨.bl _,H,j,rfl,?_⟩
   rw[Yy i];exact po _ F H t .refl (.bl _)
 .have e:Yx dx d=XT dx d:=by cases d <;> first|rfl|exact absurd ⟨_,rfl⟩ hd
  rw[e]at po;exact qch l f Z9 s σ H x y v u Q I r c ⟨F,dx,d,t,b,ty,po⟩
end
theorem qeY(t:lS)(es:Array (Int×iC))(h:Int)(x:iC):(layNew t es h x).2.1.led=t.led:=by
 unfold layNew;cases t.freeSlot h with
 |none=>rfl
 |some p=>obtain⟨sl,wd⟩:=p;show(SetTable.orStandIn (t.put sl).1 _).led=t.led;unfold SetTable.orStandIn;split <;> rfl
variable{t:lS}
theorem qeZ{m f v:Nat}{l p:Bool}{hs:Array Int}{o:Array Nat}(h:hJ m f v l p hs=iw (t,o)):t.led=l/\t.plain=p:=by
 unfold hJ at h;cases e:SetTable.layClean m hs with
 |none=>rw[e]at h;cases h
 |some ow=>rw[e]at h;have h2:=congrArg Prod.fst (aL.inj h);subst h2;exact⟨rfl,rfl⟩
theorem WL(t:lS)(es:Array (Int×iC))(n:Nat):(mq t es n).2.1.led=t.led/\(t.plain=iE->(mq t es n).2.1.plain=iE):=by
 unfold mq;cases e:t.relaid (es.map (·.1)) n with
 |none=>exact⟨rfl,λ_=>rfl⟩
 |some q=>
  obtain⟨t',o⟩:=q;have k:=qeZ (show hJ _ _ _ _ _ _=iw (t',o)from e);dsimp only;split;·exact⟨k.1,λz=>k.2.trans z⟩
  .exact⟨rfl,λ_=>rfl⟩
variable{κ:Type}
noncomputable def yM[DecidableEq κ](ks:List κ)(x:κ):List κ:=if x∈ks then ks else ks++[x]
noncomputable def uU(ks:List Str)(x:Str):List Str:=if x∈ks then ks else ks++[x]
noncomputable def jT(es:Array (Int×iC))(ep:Nat)(t:lS):Obj:={ cls:=.type "set",dict:=iB,data:=.set es ep t,slots:=#[] }
structure KP(κ:Type)[DecidableEq κ] where
 kd:∀(p:iK)(w:iL),PySem.KeyKind p w κ
 of:iC->κ
 pb:Bool
 ofi:∀{p:iK}{w:iL}{x:κ}{v:iC},(kd p w).is x v=iD->of v=x
 sc:∀{p:iK}{w:iL}{x:κ}{v:iC},(kd p w).is x v=iD->v.scannable=iD
 pl:∀{p:iK}{w:iL}{x:κ}{v:iC},(kd p w).is x v=iD->pb=iD->plainKind v=iE
noncomputable def KpS:KP Str where
 kd:=PySem.strKind
 of:=strOf
 pb:=iD
 ofi:=λh=>let ⟨_,e⟩:=cO h;by rw[e];rfl
 sc:=λh=>let ⟨_,e⟩:=cO h;by rw[e];rfl
 pl:=λh _=>let ⟨_,e⟩:=cO h;by rw[e];rfl
structure SetG{κ:Type}[DecidableEq κ](T:KP κ)(prog:iK)(w:iL)(es:Array (Int×iC))(t:lS)(ks:List κ):Prop where
 el:ElemsOf (T.kd prog w) es.toList
 perm:(es.toList.map λe=>T.of e.2).Perm ks
 nd:ks.Nodup
 bd:es.size<l7
 fits:t.fits es.size=iD
 led:t.led=!(w.params.followText "set-order")
 plain:T.pb=iD->ks≠[]->t.plain=iE
def SetK{κ:Type}[DecidableEq κ](T:KP κ)(prog:iK)(w:iL)(h:Z5)(a:Z7)(ks:List κ):Prop:=∃es ep t,h.get? a=iw (jT es ep t)/\SetG T prog w es t ks
variable{es:Array (Int×iC)}{ep:Nat}
section
theorem qhd{l:List (Int×iC)}(h:ElemsOf (PySem.strKind prog w) l){e:Int×iC}(g:e∈l):∃x t,e.2=.str x t:=by obtain⟨⟨k,a,_⟩,_⟩:=h e g;obtain⟨t,ht⟩:=cO a;exact⟨k,t,ht⟩
variable[DecidableEq κ]{T:KP κ}
theorem SetG.mem{ks:List κ}(h:SetG T prog w es t ks){x:κ}:x∈ks↔∃e∈es.toList,(T.kd prog w).is x e.2=true:=by
 rw[<-h.perm.mem_iff,ay];constructor;·rintro⟨e,g,z⟩;obtain⟨⟨k,a,_⟩,_⟩:=h.el e g;rw[T.ofi a]at z;exact⟨e,g,z ▸ a⟩
 .rintro⟨e,g,z⟩;exact⟨e,g,T.ofi z⟩
theorem SetG.size{ks:List κ}(h:SetG T prog w es t ks):es.size=ks.length:=by have e:=h.perm.length_eq;simpa using e
theorem qdM{es':Array (Int×iC)}{t':lS}(l:h.get? a=iw (jT es ep t)):(h.update a (h7 es' t')).get? a=iw (jT es' (ep+1) t'):=by have e:=aV (h7 es' t') l (by rw[putSet_of (o:=jT es ep t) es' t' rfl];rfl);rw[putSet_of (o:=jT es ep t) es' t' rfl]at e;exact e
theorem SetG.more{e:Array (Int×iC)}{f:lS}{ks:List κ}{x:κ}{v:iC}(h:SetG T prog w es t ks)(c:(T.kd prog w).is x v=iD)(nx:x∉ks)(r:ks.length+1<l7)(hp:e.toList.Perm (es.toList++[((T.kd prog w).hash x,v)]))(d:f.fits e.size=iD)(hl:f.led=t.led)(hq:T.pb=iD->f.plain=iE):SetG T prog w e f (yM ks x):=by
 have ex:yM ks x=ks++[x]:=Ab nx;have hz:e.size=ks.length+1:=by rw[<-bm,hp.length_eq,am,bm,h.size];rfl
 rw[ex];refine⟨(h.el.push c (T.sc c)).perm hp,?_,?_,?_,d,hl.trans h.led,λb _=>hq b⟩;·refine(hp.map _).trans ?_;rw[de,List.map_singleton,T.ofi c];exact h.perm.append (cz _)
 .exact dm.mpr ⟨h.nd,by simp,λa g b hb=>by rw[aN.mp hb];exact λz=>nx (z ▸ g)⟩
 .rw[hz];exact r
theorem qe0{ks:List κ}{x:κ}{v:iC}{Q:Bool->iF->Prop}(m:(T.kd prog w).is x v=iD)(S:SetK T prog w s.heap a ks)(J:ks.length+1<l7)(h:∀h' b,bh a s.heap h'->SetK T prog w h' a (yM ks x)->Q b { s with heap:=h' }):iH (Z6 prog w) A (setAddHashed a v ((T.kd prog w).hash x)) Q E s:=by
 obtain⟨es,ep,t,o,d⟩:=S;unfold setAddHashed setAddHashedIn;refine iR (iA (i7 o rfl d.fits ?_));dsimp only;rw[byScan_of (T.sc m) d.bd d.el,Aa rfl];unfold setAddByScan;refine iA (iA (lw (iA (wpAny_setScan_of m o rfl d.fits d.el ?_))));cases hq:es.toList.findIdx? (λe=>(T.kd prog w).is x e.2)with
 |some j=>obtain⟨M,hp,_⟩:=List.findIdx?_eq_some_iff_getElem.mp hq;have hx:x∈ks:=d.mem.mpr ⟨_,cS M,hp⟩;have q:=h s.heap iE (Heap.SameBut.refl a s.heap) ⟨es,ep,t,o,by rw[show yM ks x=ks from Aa hx];exact d⟩;dsimp only;exact iG (iG q)
 | none=>
  have hx:x∉ks:=λz=>by obtain⟨e,N,q⟩:=d.mem.mp z;have:=List.findIdx?_eq_none_iff.mp hq e N;rw[q]at this;cases this
  dsimp only;have hp:=layNew_perm t es ((T.kd prog w).hash x) v;have n:=layNew_fits t es ((T.kd prog w).hash x) v;have hl:=qeY t es ((T.kd prog w).hash x) v;generalize layNew t es ((T.kd prog w).hash x) v=L at hp n hl ⊢;obtain⟨c,u,wd,P⟩:=L;dsimp only at hp n hl ⊢;rw[fO]at hp;have l:∀f:lS,f.fits c.size=iD->f.led=t.led->(T.pb=iD->f.plain=iE)->iH (Z6 prog w) A (do
    storeSet a c f
    if (!wd&&f.tooFull)=iD then do
      (match (mq f c (cT c.size)).2.2 with|true=>rule "set.scan.the-table-gave-way"|false=>pure ())
      storeSet a (mq f c (cT c.size)).1 (mq f c (cT c.size)).2.1
      pure (iw iD)
     else pure (iw iD)) (λr s'=>∃h',s'={ s with heap:=h' }/\r=iw iD/\bh a s.heap h'/\SetK T prog w h' a (yM ks x)) E s:=by
   intro f f2 I p2;have d2:=d.more m hx J hp f2 I p2;refine iA (wpAny_storeSet_of o rfl ?_ (lT d2.bd));have i:=qdM (es':=c) (t':=f) o;have y:=bn s.heap a (h7 c f);split
   .have C:=relayAll_perm f c (cT c.size);have D:=relayAll_fits f c (cT c.size);have B:=WL f c (cT c.size);generalize mq f c (cT c.size)=R at C D B ⊢;obtain⟨p,H,W⟩:=R;dsimp only at C D B ⊢;have K:=d.more m hx J (C.trans hp) D (B.1.trans I) (λb=>B.2 (p2 b));refine iA ?_;have go:iH (Z6 prog w) A (storeSet a p H >>= λ_=>pure (iw iD)) (λr s'=>∃h',s'={ s with heap:=h' }/\r=iw iD/\bh a s.heap h'/\SetK T prog w h' a (yM ks x)) E { s with heap:=s.heap.update a (h7 c f) }:=
     iA (wpAny_storeSet_of i rfl (iG ⟨_,rfl,rfl,y.trans (bn _ a _),p,_,H,qdM i,K⟩) (lT K.bd))
    cases W;·exact iG go
    .exact lw go
   .exact iG ⟨_,rfl,rfl,y,c,_,f,i,d2⟩
  have fin:∀(r:Option Bool)(s':iF),(∃h',s'={ s with heap:=h' }/\r=iw iD/\bh a s.heap h'/\SetK T prog w h' a (yM ks x)) ->iH (Z6 prog w) A (match r with|some k=>pure k|none=>setAddHashedIn a v ((T.kd prog w).hash x) 99999) Q E s':=by rintro r s' ⟨h',rfl,rfl,y,S⟩;exact iG (h h' iD y S)
  have O:∀(b:Bool){g:iF}{G:Unit->iF->Prop},G () g->iH (Z6 prog w) A (match b with|true=>rule "set.scan.the-table-gave-way"|false=>pure ()) G E g:=λb g G q=>by
   cases b;·exact iG q
   .exact lw q
  refine iA (O _ ?_);cases e1:u.plain with
  |true=>rw[Aa rfl,hashByValue_scannable 8 (T.sc m)];refine iA (iG ?_);exact lI (l (if plainKind v=iD then u else{ u with plain:=iE }) (by split;exact n;exact SetTable.fits_plain_off n) (by split <;> exact hl) (λb=>by rw[T.pl m b];rfl)) fin λ_ _ z=>z
  |false=>rw[Ab (by simp)];refine iA (iG ?_);exact lI (l u n hl λ_=>e1) fin λ_ _ z=>z
end
theorem YA[DecidableEq κ](ks:List κ)(x:κ):(yM ks x).length<=ks.length+1:=by
 unfold yM;split
 .lia
 .rw[am];exact aq _
theorem wN[DecidableEq κ]:∀(l ks:List κ),(l.foldl yM ks).length<=ks.length+l.length
 |[],ks=>aq _
 |x::l,ks=>by
  have h1:=wN l (yM ks x);have h2:=YA ks x;rw[bO,ap]
  lia
theorem YB:(yM:List Str->Str->List Str)=uU:=by funext ks x;unfold yM uU;congr
theorem gE(l ks:List Str):(l.foldl uU ks).length<=ks.length+l.length:=by rw[<-YB];exact wN l ks
theorem SetK.at[DecidableEq κ]{T:KP κ}{ks:List κ}(S:SetK T prog w h a ks)(k:∀o,h.get? a=iw o->h'.get? a=iw o):SetK T prog w h' a ks:=
 let ⟨es,ep,t,l,d⟩:=S; ⟨es,ep,t,k _ l,d⟩
section
variable[DecidableEq κ]{T:KP κ}{R:mR->iF->Prop}{I:Z7}{fp wr:List Z7}{P:Nat->iC->Prop}{St:Nat->iF->Prop}
theorem GO{G:Array mT->Array mT->Prop}(W:WalksS prog w A.in1 I fp wr G n P St)(S:Z7)(j:S∉fp)(PS:Nat->Z5->Prop)(mv:∀i s h',St i s->PS i s.heap->(∀b o,b∉wr->s.heap.get? b=iw o->h'.get? b=iw o)->PS i h')(add:∀(i:Nat)(v:iC)(s:iF)(Q:Bool->iF->Prop)(E:iC->iF->Prop),i<n->P i v->PS i s.heap->(∀h' b tk,s.toks<=tk->bh S s.heap h'->PS (i+1) h'->Q b { s with heap:=h',toks:=tk })->iH (Z6 prog w) A.in1 (setAdd S v) Q E s) :
  ∀(k i:Nat)(s:iF),n - i=k->i<=n->St i s->PS i s.heap->(∀s',Moved (S::wr) G s s'->PS n s'.heap->R (.ok (.ret .none)) s')->lq (Z6 prog w) A (.builtin "set.update.loop" ⟨[.ref S,.ref I],[]⟩) R s:=by
 have up:∀b∈wr,b∈S::wr:=λb hb=>ae _ hb;intro k
 induction k with
 |zero=>
  intro i s x hi c p q;have g:i=n:=by lia
  subst g;refine iZ F.entry_set_update_loop ?_;rw[bt d6 _];show iH _ A.in1 (j7 (.ref I) >>= _) _ _ s;exact iA (W.done s _ _ c λs' m=>iG (q s' (m.mono up) (mv _ s _ c p m.heap)))
 |succ k u=>
  intro i s x hi c p q;have t:i<n:=by lia
  refine iZ F.entry_set_update_loop ?_;rw[bt d6 _];show iH _ A.in1 (j7 (.ref I) >>= _) _ _ s;refine iA (W.item i s _ _ t c λv s' y h m=>?_);show iH _ A.in1 (holding [v] (setAdd S v) >>= _) _ _ s';refine iA (iR (add i v s' _ _ t y (mv i s _ c p m.heap) λh' b tk ht r l=>?_));refine iG ⟨lp d6 _,u (i+1) _ (by lia) t (W.frame _ s' _ _ h ht λb hb o e=>?_) l λf a d=>?_⟩;·rw[r.2 b λz:b=S=>j (z ▸ hb)];exact e
  .refine q f (Moved.trans W.gtrans ((m.mono up).then_heap ht λb o hb e=>?_) a) d;rw[r.2 b λz:b=S=>hb (z ▸ au)];exact e
theorem GP{ss:List κ}{x:κ}(hx:ss[i]?=iw x):yM ((ss.take i).foldl yM []) x=(ss.take (i+1)).foldl yM []/\((ss.take i).foldl yM []).length<=i:=by
 refine⟨by rw[List.take_add_one,hx,List.foldl_append];rfl,?_⟩;have h1:=wN (ss.take i) [];rw[cu,aR]at h1
 lia
end
section
variable[DecidableEq κ]{T:KP κ}
abbrev qf7(w:iL):Obj:=jT #[] 0 (.fresh 0 0 (!(w.params.followText "set-order")))
theorem GQ(e:h.get? a=iw (qf7 w)):SetK T prog w h a []:=
 ⟨_,_,_,e,⟨λe g=>by simp at g,by simp,bw,by decide,by rfl,rfl,λ_ z=>absurd rfl z⟩⟩
theorem qe1(a:iC){Q₁:iC->iF->Prop}(h:Q₁ (.ref s.heap.objs.size) { s with heap:=s.heap.push (qf7 w) }):lq (Z6 prog w) A (.call (.builtin "set.__new__") ⟨[.type "set",a],[]⟩) (wants Q₁ E) s:=by
 refine codeAny_of_tree ?_;show iH _ A.in1 (do checkBuiltinCall "set.__new__" ⟨[.type "set",a],[]⟩;again (.builtin "set.__new__" ⟨[.type "set",a],[]⟩)) _ _ s;refine iA (mH (PySem.F.newCall_set_1 a) (iG ⟨lp PySem.F.plain_set_new _,iZ PySem.F.entry_set_new ?_⟩));rw[bt PySem.F.plain_set_new _];unfold Builtin.«set.__new__» Builtin.Frozenset.newClass;have b:=sub_set_self;obtain⟨hp,g,d,tk,os⟩:=s;dsimp only;wp_walk
 refine i5 (iG ?_);dsimp only;simp only[newObj];exact iA (wpAny_alloc (iG (iG h)))
theorem WM:isSubtype (.type "tuple") (.type "set")=pure false:=by rw[lU];kernel_rfl
theorem QF:isSubtype (.type "tuple") (.type "frozenset")=pure false:=by rw[lU];kernel_rfl
theorem qcB:∀sk:SK,isSubtype (.type sk.cl) (.type "set")=pure iE
 |.l=>PySem.F.sub_list_set
 |.t=>WM
theorem WN:∀sk:SK,isSubtype (.type sk.cl) (.type "frozenset")=pure iE
 |.l=>PySem.F.sub_list_frozenset
 |.t=>QF
theorem qhe(b:A.handled=iB)(sk:SK)(it l:Z7)(e:l≠it)(items:Array iC):Walks prog w A it [it,l] [it] items.size (λi v=>items[i]?=iw v) (λi h=>ItK h it l sk i/\SeqK h l sk items):=by
 cases sk with
 |l=>exact iu b it l e items
 |t=>exact Walks.tuple b it l e items
theorem SeqK.ty:∀{sk:SK},SeqK s.heap a sk xs->s.TypeIs (.ref a) sk.cl
 |.l,⟨o,e,c,_⟩=>⟨o,e,c⟩
 |.t,⟨o,e,c,_⟩=>⟨o,e,c⟩
theorem qkm{S:Z7}{PS:Nat->Z5->Prop}{Q:Unit->iF->Prop}(q:A.handled=iB)(hl:SeqK s.heap l sk items)(r:S<s.heap.objs.size)(g:l≠S)(t:∀n,PS 0 (s.heap.push n))(mv:∀i (s':iF) h',ItK s'.heap s.heap.objs.size l sk i->PS i s'.heap->(∀b o,b≠s.heap.objs.size->s'.heap.get? b=iw o->h'.get? b=iw o)->PS i h')(add:∀(i:Nat)(v:iC)(s:iF)(Q:Bool->iF->Prop)(E:iC->iF->Prop),items[i]?=iw v->PS i s.heap->(∀h' b tk,s.toks<=tk->bh S s.heap h'->PS (i+1) h'->Q b { s with heap:=h',toks:=tk })->iH (Z6 prog w) A.in1 (setAdd S v) Q E s)(h:∀h' tk,PS items.size h'->(∀b o,b≠S->s.heap.get? b=iw o->h'.get? b=iw o)->Q () { s with heap:=h',toks:=tk }) :
  iH (Z6 prog w) A (bx "set.__init__" S (.ref l)) Q E s:=by
 have T:=hl.ty;unfold bx;refine iA (m:=Builtin.Frozenset.isAnySet _) ?_;unfold Builtin.Frozenset.isAnySet;refine iA (li T (qcB sk) ?_);refine li T (WN sk) ?_;rw[Ab (by decide)];refine iA (lR T ?_);rw[Ab (by cases sk <;> decide)];refine iA (qcx hl ?_);have d:l≠s.heap.objs.size:=ax hl.lt;refine iA (wpAny_runValue (GO ((qhe (A:=A.in1) q sk _ l d items).toS) S ?_ PS (λi s' h' st p k=>mv i s' h' st.1 p λb o y=>k b o (by simpa using y)) (λi v s' Q E _=>add i v s' Q E) items.size 0 _ (by lia) (aZ _) ⟨.of ⟨_,af _ rfl,rfl,rfl⟩,hl.at λo e=>aa _ e⟩ (t _) ?_))
 .intro z;rcases ac.mp z with z|z;·exact ax r z
  .exact g (aN.mp z).symm
 .intro s' c j;obtain⟨h',g',d',f,a⟩:=s';have x:g'=s.gens:=c.gens;have B:d'=s.drawn:=c.drawn;have u:a=s.os:=c.os;subst x B u;refine iG (h h' f j λb o hb e=>c.heap b o ?_ (aa _ e));intro z;rcases ac.mp z with z|z;·exact hb z
  .rw[aN.mp z]at e;exact bS _ (aw e)
theorem qkn{S:Z7}{ss:List κ}{Q:Unit->iF->Prop}(m:A.handled=iB)(g:SetK T prog w s.heap S [])(hl:SeqK s.heap l sk items)(n:ss.length=items.size)(hi:∀(i:Nat)(v:iC),items[i]?=iw v->∃x,ss[i]?=iw x/\(T.kd prog w).is x v=iD)(hb:items.size+1<l7)(a:l≠S)(h:∀h' tk,SetK T prog w h' S (ss.foldl yM [])->(∀b o,b≠S->s.heap.get? b=iw o->h'.get? b=iw o)->Q () { s with heap:=h',toks:=tk }) :
  iH (Z6 prog w) A (bx "set.__init__" S (.ref l)) Q E s:=by
 have lt:S<s.heap.objs.size:=let ⟨_,_,_,j,_⟩:=g;aw j;refine qkm (PS:=λi h=>SetK T prog w h S ((ss.take i).foldl yM [])) m hl lt a (λu=>g.at λo e=>aa _ e) (λi s' h' _ p k=>p.at λo=>k S o (ax lt)) (λi v s' Q E d p q=>?_) λh' tk p k=>h h' tk (by rw[List.take_of_length_le (fq n)]at p;exact p) k;obtain⟨x,hx,f⟩:=hi i v d;obtain⟨r,y⟩:=GP hx;have:=(Array.getElem?_eq_some_iff.mp d).1;unfold setAdd;exact iR (iA ((T.kd prog w).pyHash f (qe0 (s:={ s' with toks:=s'.toks+1 }) f p (by lia) λh' b t c=>q h' b _ (ip _) t (by rw[<-r];exact c))))
set_option maxHeartbeats 3200000 in
theorem GR{l:Z7}{PS:Z5->Prop}{Q:iC->iF->Prop}(p:∀(A1:iT)(K:Unit->iF->Prop)(P:iC->iF->Prop),A1.handled=A.handled->A1.units<=A.units+9->(∀h' tk,PS h'->(∀b o,s.heap.get? b=iw o->h'.get? b=iw o)->K () { s with heap:=h',toks:=tk }) ->iH (Z6 prog w) A1 (bx "set.__init__" s.heap.objs.size (.ref l)) K P { s with heap:=s.heap.push (qf7 w) })(h:∀h' tk,PS h'->(∀b o,s.heap.get? b=iw o->h'.get? b=iw o)->Q (.ref s.heap.objs.size) { s with heap:=h',toks:=tk }) :
  iH (Z6 prog w) A (call (.type "set") [.ref l]) Q E s:=by
 have i:∀{Q₁:iC->iF->Prop},Q₁ (.ref s.heap.objs.size) { s with heap:=s.heap.push (qf7 w) }->lq (Z6 prog w) A.in1 (.call (.builtin "set.__new__") ⟨[.type "set",.ref l],[]⟩) (wants Q₁ E) s:=λh=>qe1 (.ref l) h;unfold qf7 jT at i p;generalize (!(w.params.followText "set-order"))=led at i p;obtain⟨c,tl,u⟩:=bP.mro;have n:=bP.made;have t:=bP.sub;refine wpAny_call (codeAny_of_tree ?_);show iH _ _ (callAny (.type "set") _) _ _ _;refine iG ⟨Code.quiet_builtin _ (by decide +kernel),iZ PySem.F.entry_type_call ?_⟩;rw[Around.under_plain (weight_type_call_type "set" [.ref l] []) rfl];have h1:=bP.notType;have h2:=bP.canCreate;have y:=PySem.F.typeCall_set_1 (.ref l);repeat (any_goals (first|assumption|wp_step))
 refine lP (i (Q₁:=λobj f=>obj=.ref s.heap.objs.size/\f={ s with heap:=s.heap.push { cls:=.type "set",dict:=iB,data:=.set #[] 0 (.fresh 0 0 led) } }) ⟨rfl,rfl⟩) λr f m=>?_;cases r with
 |error e=>exact m
 | ok fl=>
  cases fl with
  | ret obj=>
   obtain⟨rfl,rfl⟩:=m;have S:(s.heap.push { cls:=.type "set",dict:=iB,data:=.set #[] 0 (.fresh 0 0 led) }).get? s.heap.objs.size=iw { cls:=.type "set",dict:=iB,data:=.set #[] 0 (.fresh 0 0 led) }:=af _ rfl;have T:fS { s with heap:=s.heap.push { cls:=.type "set",dict:=iB,data:=.set #[] 0 (.fresh 0 0 led) } } (.ref s.heap.objs.size) "set":=⟨_,S,rfl⟩
   have v:=bP.init.lookup;have z:=bP.init.bind (.ref s.heap.objs.size);repeat (any_goals (first|assumption|wp_step))
   refine lP (codeAny_call_builtin (R:=wants (λr d=>r=.none/\∃h' tk,d={ s with heap:=h',toks:=tk }/\PS h'/\(∀b o,s.heap.get? b=iw o->h'.get? b=iw o)) E) bP.init.plain PySem.F.entry_set_init (check_set_init_1 T ?_)) λk d a=>?_
   .unfold Builtin.«set.__init__» noKeywords;generalize B:bx=U;wp_walk
    subst B;refine p _ _ _ rfl (by first|exact Nat.le_add_right_of_le (aq _)|(simp only[Around.in1_units];lia)) λh' tk j x=>?_;exact iG ⟨rfl,h',tk,rfl,j,x⟩
   .cases k with
    |error e=>exact a
    | ok g=>
     cases g with
     |ret r=>
      obtain⟨rfl,h',tk,rfl,j,q⟩:=a;repeat (any_goals (first|assumption|wp_step))
      exact h _ _ j q
     |_=>exact a.elim
  |_=>exact m.elim
theorem GS{l:Z7}{ks:List κ}{Q:iC->iF->Prop}(p:∀(A1:iT)(K:Unit->iF->Prop)(P:iC->iF->Prop),A1.handled=A.handled->(∀h' tk,SetK T prog w h' s.heap.objs.size ks->(∀b o,s.heap.get? b=iw o->h'.get? b=iw o)->K () { s with heap:=h',toks:=tk }) ->iH (Z6 prog w) A1 (bx "set.__init__" s.heap.objs.size (.ref l)) K P { s with heap:=s.heap.push (qf7 w) })(h:∀h' tk,SetK T prog w h' s.heap.objs.size ks->(∀b o,s.heap.get? b=iw o->h'.get? b=iw o)->Q (.ref s.heap.objs.size) { s with heap:=h',toks:=tk }) :
  iH (Z6 prog w) A (call (.type "set") [.ref l]) Q E s:=GR (λA1 K P e _=>p A1 K P e) h
end
theorem xu{α:Type}:∀{xs:List α}{i:Nat}(h:i<xs.length),(xs[i]::xs.eraseIdx i).Perm xs
 |[],_,h=>absurd h (dR _)
 |x::xs,0,h=>cz _
 |x::xs,i+1,h=>(List.Perm.swap _ _ _).trans ((xu (xs:=xs) (i:=i) (Nat.lt_of_succ_lt_succ h)).cons x)
variable{M:Model}
theorem Za{c:Source}{Q:Nat->iF->Prop}(a:n≠0)(h:∀i d',i<n->Q i { s with drawn:=d' }):iH M A (choose c n) Q E s:=
 λ_ _ _=>⟨a,h _ _ (Nat.mod_lt _ (Nat.pos_of_ne_zero a))⟩
variable{α:Type}
theorem GT:∀(n:Nat)(xs:List α)(s:iF){Q:List α->iF->Prop},n=xs.length->(∀ys d',ys.Perm xs->Q ys { s with drawn:=d' })->iH M A (drawOrder n xs) Q E s
 | 0,xs,s,Q,hn,h=>by
  cases xs with
  |nil=>exact iG (h [] s.drawn (cz _))
  |cons x l=>cases hn
 |n+1,[],s,Q,hn,h=>by cases hn
 |n+1,x::l,s,Q,hn,h=>by show iH M A (choose .order (x::l).length >>= _) Q E s;refine iA (Za (by simp) λi d' hi=>?_);have e:(x::l)[i]?=iw (x::l)[i]:=aG hi;rw[e];refine iA (GT n _ _ (by rw[List.length_eraseIdx_of_lt hi];simp only[ap]at hn ⊢;lia) λys d2 hp=>iG (h _ d2 ?_));exact(hp.cons _).trans (xu hi)
set_option tactic.hygienic true in
theorem GU(next:Nat->Nat):∀(f k:Nat)(left:List α)(out:Array α),f=left.length->(pickOrder.go next f k left out).toList.Perm (out.toList++left)
 | 0,k,left,out,hf=>by
  cases left with
  |nil=>rw[bv];exact cz _
  |cons x l=>cases hf
 |f+1,k,left,out,hf=>by have t:next k % left.length<left.length:=Nat.mod_lt _ (by lia);have e:left[next k % left.length]?=iw left[next k % left.length]:=aG t;unfold pickOrder.go;rw[e];refine(GU next f (k+1) _ _ (by rw[List.length_eraseIdx_of_lt t];lia)).trans ?_;rw[fO,cI];exact List.Perm.append_left _ (xu t)
set_option tactic.hygienic true in
theorem gF(next:Nat->Nat)(xs:Array α):(lO next xs).toList.Perm xs.toList:=by unfold lO;exact GU next _ _ _ _ (by simp)
def qdN(l:List Nat):Prop:=l.Pairwise (· < ·)
theorem WO{xs:Array Nat}(c:qdN xs.toList){p q x y:Nat}(h:p<q)(hp:xs[p]?=iw x)(hq:xs[q]?=iw y):x<y:=by rw[<-cB]at hp hq;obtain⟨h1,rfl⟩:=aA.mp hp;obtain⟨h2,rfl⟩:=aA.mp hq;exact List.pairwise_iff_getElem.mp c p q h1 h2 h
theorem mid{lo hi:Nat}(h:lo<hi):lo<=(lo+hi) / 2/\(lo+hi) / 2<hi:=by omega
variable{j:Nat}
theorem JM{xs:Array Nat}(r:qdN xs.toList):∀(f lo hi:Nat),hi<=f+lo->hi<=xs.size->(∀k,k<lo->∀x,xs[k]?=iw x->x<j)->(∀k,hi<=k->∀x,xs[k]?=iw x->j<=x) ->(∀k,k<bT.go xs j f lo hi->∀x,xs[k]?=iw x->x<j)/\(∀k,bT.go xs j f lo hi<=k->∀x,xs[k]?=iw x->j<=x)
 | 0,lo,hi,h1,h3,a,b=>⟨a,λk c=>b k (by rw[fy]at h1;exact bb h1 c)⟩
 | f+1,lo,hi,h1,h3,a,b=>by
  unfold bT.go;by_cases h:lo<hi
  .rw[Aa h];obtain⟨m1,A⟩:=mid h;dsimp only;generalize (lo+hi) / 2=m at *;have d:m<xs.size:=aH A h3;have i:xs[m]?=iw xs[m]:=by simp[d]
   have hg:xs.getD m j=xs[m]:=by simp[fY,d]
   rw[hg];by_cases hl:xs[m]<j
   .rw[Aa hl];refine JM r f _ hi (by lia) h3 (λk c x hx=>?_) b;rcases fE (Nat.le_of_lt_succ c)with e|rfl;·exact cr (WO r e hx i) hl
    .rw[i]at hx;cases hx;exact hl
   .rw[Ab hl];refine JM r f lo _ (by lia) (cm d) a λk c x hx=>?_;rcases fE c with e|rfl;·exact bb (cw hl) (cm (WO r e i hx))
    .rw[i]at hx;cases hx;exact cw hl
  .rw[Ab h];exact⟨a,λk c=>b k (bb (cw h) c)⟩
theorem qcC{xs:Array Nat}(c:qdN xs.toList):(∀k,k<bT xs j->∀x,xs[k]?=iw x->x<j)/\(∀k,bT xs j<=k->∀x,xs[k]?=iw x->j<=x):=
 JM c xs.size 0 xs.size (aq _) (aq _) (λk h=>absurd h (dR _)) λk h x hx=>absurd (Array.getElem?_eq_some_iff.mp hx).1 (Nat.not_lt.mpr h)
noncomputable def vF(t:lS)(i:Nat):Nat:=if i=0 then 0 else t.place.getD (i - 1) 0+1
theorem qcD(c:qdN t.place.toList)(hi:i<=t.place.size):i<=bT t.place (vF t i)/\(i<t.place.size->bT t.place (vF t i)=i):=by
 obtain⟨a,b⟩:=qcC (j:=vF t i) c;have at_:∀k,k<t.place.size->t.place[k]?=iw (t.place.getD k 0):=λk d=>by simp[fY,d]
 have h1:i<=bT t.place (vF t i):=cw λz=>by
  have h:=b (i - 1) (by lia) _ (at_ (i - 1) (by lia));unfold vF at h;rw[Ab (by lia)]at h
  lia
 refine⟨h1,λhl=>?_⟩;rcases fE h1 with e|e
 .have h:=a i e _ (at_ i hl);unfold vF at h;split at h
  .lia
  .have:=WO c (show i - 1<i by lia) (at_ (i - 1) (by lia)) (at_ i hl)
   lia
 .exact e.symm
noncomputable def wO(first:iC)(i:Nat)(a:Z7)(n ep:Nat):Obj:={ cls:=.type "set_iterator",data:=.fields #[first,iX i,.ref a,iX n,iX ep] }
theorem qR:Slot "set_iterator" "__next__" "set_iterator.__next__":=
 .of (owner := "set_iterator") (n := "__next__") (by rw[ly,i9];kernel_rfl) (by decide +kernel) (by decide +kernel) (by decide +kernel) (by first|exact .inl (by decide +kernel)|exact .inr (by decide +kernel)) (by rw[lU];kernel_rfl)
theorem xT:Slot "set_iterator" "__iter__" "set_iterator.__iter__":=
 .of (owner := "set_iterator") (n := "__iter__") (by rw[ly,i9];kernel_rfl) (by decide +kernel) (by decide +kernel) (by decide +kernel) (by first|exact .inl (by decide +kernel)|exact .inr (by decide +kernel)) (by rw[lU];kernel_rfl)
theorem vG(a:iC):argsOk "set_iterator.__next__" ⟨[a],[]⟩:=by unfold argsOk;kernel_rfl
theorem Vo(a:iC):argsOk "set_iterator.__iter__" ⟨[a],[]⟩:=by unfold argsOk;kernel_rfl
theorem kM:entryFor table "set_iterator.__next__"=iw Builtin.«set_iterator.__next__»:=entryFor_of_tree (by kernel_rfl)
theorem JN:entryFor table "set_iterator.__iter__"=iw Builtin.«dict_keyiterator.__iter__»:=entryFor_alias (id' := "dict_keyiterator.__iter__") (by kernel_rfl) rfl (by decide +kernel) (by kernel_rfl)
theorem Vp:entryFor table "set.__iter__"=iw Builtin.«frozenset.__iter__»:=entryFor_alias (id' := "frozenset.__iter__") (by kernel_rfl) rfl (by decide +kernel) (by kernel_rfl)
variable{p:Z7}{b:Bool}{ps:List Nat}
section
theorem vf(hb:w.params.followText "set-order"=b):({ program:=(Z6 prog w).prog,params:=(Z6 prog w).w.params }:Setting).params.followText "set-order"=b:=hb
theorem Vq{sl nx:Nat}{x:iC}{Q:Option iC->iF->Prop}(hi:s.heap.get? it=iw (wO (iX sl) i a n ep))(b:s.heap.get? a=iw (jT es ep t))(f:t.fits es.size=iD)(hz:es.size=n)(h:∀(A1:iT)(K:Option (iC×Nat)->iF->Prop)(P:iC->iF->Prop),K (iw (x,nx)) s->iH (Z6 prog w) A1 (mF a sl i ep) K P s)(c:∀h',h'.get? it=iw (wO (iX nx) (i+1) a n ep)->bh it s.heap h'->Q (iw x) { s with heap:=h' }):iH (Z6 prog w) A (j7 (.ref it)) Q E s:=by
 have m:s.TypeIs (.ref it) "set_iterator":=⟨_,hi,rfl⟩
 unfold j7;refine iA (j6 (iO (name:=ab "__next__") m qR (iQ qR m kM ?_ (vG _))));show iH _ _ (fieldsOf (.ref it) >>= _) _ _ s;refine iA (l9 hi rfl ?_);show iH _ _ (mS a >>= _) _ _ s;refine iA (lu b rfl f ?_);rw[Ab (by rw[hz];simp)];show iH _ _ (mF a sl i ep >>= _) _ _ s;refine iA (h _ _ _ ?_);show iH _ _ (setField (.ref it) 0 (iX nx) >>= _) _ _ s;refine iA (lj hi rfl (by simp) ?_);have h1:(s.heap.update it (Obj.mapFields (·.setIfInBounds 0 (iX nx)))).get? it=iw (wO (iX nx) i a n ep):=aV _ hi rfl;refine iA (lj h1 rfl (by simp) (iG ⟨x,rfl,iG (c _ ?_ ((bn ..).trans (bn ..)))⟩));exact aV _ h1 rfl
theorem Vr{sl:Nat}{Q:Option iC->iF->Prop}(h:A.handled=iB)(hi:s.heap.get? it=iw (wO (iX sl) i a n ep))(e:s.heap.get? a=iw (jT es ep t))(f:t.fits es.size=iD)(hz:es.size=n)(d:∀(A1:iT)(K:Option (iC×Nat)->iF->Prop)(P:iC->iF->Prop),K iB s->iH (Z6 prog w) A1 (mF a sl i ep) K P s)(g:∀h',g9 it s.heap h'->Q iB { s with heap:=h' }):iH (Z6 prog w) A (j7 (.ref it)) Q E s:=by
 have c:s.TypeIs (.ref it) "set_iterator":=⟨_,hi,rfl⟩
 unfold j7;refine iA (j6 (iO (name:=ab "__next__") c qR (iQ qR c kM ?_ (vG _))));show iH _ _ (fieldsOf (.ref it) >>= _) _ _ s;refine iA (l9 hi rfl ?_);show iH _ _ (mS a >>= _) _ _ s;refine iA (lu e rfl f ?_);rw[Ab (by rw[hz];simp)];show iH _ _ (mF a sl i ep >>= _) _ _ s;refine iA (d _ _ _ ?_);show iH _ _ (setField (.ref it) 2 bK >>= _) _ _ s;refine iA (lj hi rfl (by simp) ?_);show iH _ _ (newExc (.type "StopIteration") [] >>= _) _ _ _;refine iA ?_;simp only[newExc,newTuple];refine iA (iS ?_ (by size_fits));refine iA (m:=lC _ _) (mH (a:=bK) (by first|rfl|(simp only[lC];rfl)) ?_);refine iS ?_ (by size_fits);simp only[raiseNew];refine iA (wpAny_handled ?_);first|rw[show A.in1.handled=iB from h]|rw[h]
 refine iA (iG (wpAny_throw ?_));refine iA (li (T := "StopIteration") (b:=iD) ⟨_,af _ rfl,rfl⟩ mf ?_);exact iG (g _ (((bn ..).extBut.push _).push _))
theorem Zb{pl m:Nat}{hx:Int}{x:iC}{ps:Array iC}{Q:Option iC->iF->Prop}(hi:s.heap.get? it=iw (wO (.ref p) i a n ep))(f:s.heap.get? a=iw (jT es ep t))(h:t.fits es.size=iD)(hz:es.size=n)(hp:s.heap.get? p=iw { cls:=.type "tuple",data:=.seq ps m })(l:ps[i]?=iw (iX pl))(hx:es[pl]?=iw (hx,x))(c:∀h',h'.get? it=iw (wO (.ref p) (i+1) a n ep)->bh it s.heap h'->Q (iw x) { s with heap:=h' }):iH (Z6 prog w) A (j7 (.ref it)) Q E s:=by
 have T:s.TypeIs (.ref it) "set_iterator":=⟨_,hi,rfl⟩
 unfold j7;refine iA (j6 (iO (name:=ab "__next__") T qR (iQ qR T kM ?_ (vG _))));show iH _ _ (fieldsOf (.ref it) >>= _) _ _ s;refine iA (l9 hi rfl ?_);show iH _ _ (mS a >>= _) _ _ s;refine iA (lu f rfl h ?_);rw[Ab (by rw[hz];simp)];show iH _ _ (seqItems? (.ref p) >>= _) _ _ s;refine iA (iU hp rfl ?_);dsimp only;rw[show ps[Int.toNat (i:Int)]?=iw (iX pl)from l];show iH _ _ (setNextDrawn a pl ep >>= _) _ _ s;refine iA ?_;unfold setNextDrawn;refine iA (i7 f rfl h ?_);dsimp only;rw[Ab (by simp),hx];refine iG ?_;show iH _ _ (setField (.ref it) 1 (iX (i+1)) >>= _) _ _ s;refine iA (lj hi rfl (by simp) (iG ⟨x,rfl,iG (c _ ?_ (bn ..))⟩));exact aV _ hi rfl
theorem GV{m:Nat}{ps:Array iC}{Q:Option iC->iF->Prop}(h:A.handled=iB)(hi:s.heap.get? it=iw (wO (.ref p) i a n ep))(d:s.heap.get? a=iw (jT es ep t))(f:t.fits es.size=iD)(hz:es.size=n)(hp:s.heap.get? p=iw { cls:=.type "tuple",data:=.seq ps m })(l:ps[i]?=iB)(e:∀h',g9 it s.heap h'->Q iB { s with heap:=h' }):iH (Z6 prog w) A (j7 (.ref it)) Q E s:=by
 have c:s.TypeIs (.ref it) "set_iterator":=⟨_,hi,rfl⟩
 unfold j7;refine iA (j6 (iO (name:=ab "__next__") c qR (iQ qR c kM ?_ (vG _))));show iH _ _ (fieldsOf (.ref it) >>= _) _ _ s;refine iA (l9 hi rfl ?_);show iH _ _ (mS a >>= _) _ _ s;refine iA (lu d rfl f ?_);rw[Ab (by rw[hz];simp)];show iH _ _ (seqItems? (.ref p) >>= _) _ _ s;refine iA (iU hp rfl ?_);dsimp only;rw[show ps[Int.toNat (i:Int)]?=iB from l];show iH _ _ (setField (.ref it) 0 (iX 0) >>= _) _ _ s;refine iA (lj hi rfl (by simp) ?_);have h1:(s.heap.update it (Obj.mapFields (·.setIfInBounds 0 (iX 0)))).get? it=iw (wO (iX 0) i a n ep):=aV _ hi rfl;refine iA (lj h1 rfl (by simp) ?_);show iH _ _ (newExc (.type "StopIteration") [] >>= _) _ _ _;refine iA ?_;simp only[newExc,newTuple];refine iA (iS ?_ (by size_fits));refine iA (m:=lC _ _) (mH (a:=bK) (by first|rfl|(simp only[lC];rfl)) ?_);refine iS ?_ (by size_fits);simp only[raiseNew];refine iA (wpAny_handled ?_);first|rw[show A.in1.handled=iB from h]|rw[h]
 refine iA (iG (wpAny_throw ?_));refine iA (li (T := "StopIteration") (b:=iD) ⟨_,af _ rfl,rfl⟩ mf ?_);exact iG (e _ (((((bn ..).trans (bn ..))).extBut.push _).push _))
theorem gG{Q:iC->iF->Prop}(hi:s.heap.get? it=iw o)(d:o.cls=.type "set_iterator")(h:Q (.ref it) s):iH (Z6 prog w) A (mQ (.ref it)) Q E s:=by
 have m:s.TypeIs (.ref it) "set_iterator":=⟨_,hi,d⟩
 refine wpAny_pyIter_slot m xT (iQ xT m JN ?_ (Vo _));show iH _ _ (ret (.ref it)) _ _ s;exact iG ⟨_,rfl,"set_iterator",_,m,qR.lookup,h⟩
theorem GW{ep:Nat}(p:A.handled=iB)(hb:w.params.followText "set-order"=iD)(f:t.fits es.size=iD)(d:a≠it):Walks prog w A it [it,a] [it] es.size (λi v=>((lO (w.params.setOrder a ep) es).toList.map (·.2))[i]?=iw v) (λi h=>h.get? it=iw (wO (iX 0) i a es.size ep)/\h.get? a=iw (jT es ep t)) where
 sub:=λb hb=>by simp at hb;simp[hb]
 frame:=λ_ _ _ st l=>⟨l it (by simp) _ st.1,l a (by simp) _ st.2⟩
 item:=λi s Q E hi st c=>by
  have n:(lO (w.params.setOrder a ep) es).size=es.size:=by have:=(gF (w.params.setOrder a ep) es).length_eq;simpa using this
  have g:i<(lO (w.params.setOrder a ep) es).size:=by lia
  obtain⟨e,he⟩:∃e,(lO (w.params.setOrder a ep) es)[i]?=iw e:=⟨_,bg g⟩
  refine Vq (x:=e.2) (nx:=0) st.1 st.2 f rfl (λA1 K P q=>?_) λh' j k=>c e.2 h' s.toks ?_ ⟨j,?_⟩ λb o y u=>?_;·unfold mF;refine iA (i7 st.2 rfl f ?_);dsimp only;refine iA (m:=mh) (iA (i5 (iG ?_)));rw[vf hb,Aa rfl,Ab (by simp)];refine iA ?_;unfold setWalk;refine iA (i7 st.2 rfl f ?_);dsimp only;refine iA (m:=mh) (iA (i5 (iG ?_)));rw[vf hb,Aa rfl];refine iA (i5 (iG ?_));refine iG ?_;rw[show(lO ((⟨(Z6 prog w).prog,(Z6 prog w).w.params⟩:Setting).params.setOrder a ep) es)[i]?=iw e from he];exact q
  .rw[aJ,cB,he];rfl
  .rw[k.2 a d];exact st.2
  .rw[k.2 b (λz=>y (by simp[z]))];exact u
 done:=λs Q E st c=>by
  have n:(lO (w.params.setOrder a ep) es).size=es.size:=by have:=(gF (w.params.setOrder a ep) es).length_eq;simpa using this
  refine Vr p st.1 st.2 f rfl (λA1 K P q=>?_) λh' C=>c h' s.toks λb o y u=>C b o (λz=>y (by simp[z])) u;unfold mF;refine iA (i7 st.2 rfl f ?_);dsimp only;refine iA (m:=mh) (iA (i5 (iG ?_)));rw[vf hb,Aa rfl,Ab (by simp)];refine iA ?_;unfold setWalk;refine iA (i7 st.2 rfl f ?_);dsimp only;refine iA (m:=mh) (iA (i5 (iG ?_)));rw[vf hb,Aa rfl];refine iA (i5 (iG ?_));refine iG ?_;rw[show(lO ((⟨(Z6 prog w).prog,(Z6 prog w).w.params⟩:Setting).params.setOrder a ep) es)[es.size]?=iB from bU (fq n)];exact q
 self:=λi s Q E st c=>gG st.1 rfl c
theorem YC{Q:Option (iC×Nat)->iF->Prop}(hb:w.params.followText "set-order"=iE)(f:t.fits es.size=iD)(hl:t.led=iD)(hz:(!t.plain&&decide (es.size > 1))=iE)(c:qdN t.place.toList)(d:s.heap.get? a=iw (jT es ep t))(hi:i<=es.size)(q:Q (match es[i]? with|some e=>iw (e.2,vF t (i+1))|none=>iB) s):iH (Z6 prog w) A (mF a (vF t i) i ep) Q E s:=by
 have b:t.place.size=es.size:=by have:=f;simp only[SetTable.fits,aO,beq_iff_eq]at this;exact this.1
 unfold mF;refine iA (i7 d rfl f ?_);dsimp only;refine iA (m:=mh) (iA (i5 (iG ?_)));rw[vf hb,Ab (by simp)];show iH _ _ (if (!t.plain&&decide (es.size > 1))=iD then _ else _) _ _ _;rw[hz,Ab (by simp)];refine iA ?_;show iH _ _ (if (!t.led&&!es.isEmpty)=iD then _ else _) _ _ _;rw[hl,Ab (by simp)];refine iG (iG ?_);obtain⟨k,g⟩:=qcD c (by rw[b];exact hi);have e:(match es[bT t.place (vF t i)]?,t.place[bT t.place (vF t i)]? with|some (_,x),iw j=>iw (x,j+1)|_,_=>iB)=(match es[i]? with|some e=>iw (e.2,vF t (i+1))|none=>iB:Option (iC×Nat)):=by
  by_cases h:i<es.size;·rw[g (by rw[b];exact h),bg h,bg (by rw[b];exact h)];simp[vF,fY,b,h]
  .rw[bU (bb (cw h) k),bU (cw h)]
 exact Eq.mp (congrArg (λz=>Q z s) e.symm) q
theorem qcE{ep:Nat}(l:A.handled=iB)(hb:w.params.followText "set-order"=iE)(f:t.fits es.size=iD)(hl:t.led=iD)(hz:(!t.plain&&decide (es.size > 1))=iE)(r:qdN t.place.toList)(e:a≠it):Walks prog w A it [it,a] [it] es.size (λi v=>(es.toList.map (·.2))[i]?=iw v) (λi h=>h.get? it=iw (wO (iX (vF t i)) i a es.size ep)/\h.get? a=iw (jT es ep t)) where
 sub:=λb hb=>by simp at hb;simp[hb]
 frame:=λ_ _ _ st k=>⟨k it (by simp) _ st.1,k a (by simp) _ st.2⟩
 item:=λi s Q E hi st c=>by
  have j:es[i]?=iw es[i]:=bg hi;refine Vq (x:=es[i].2) (nx:=vF t (i+1)) st.1 st.2 f rfl (λA1 K P q=>YC hb f hl hz r st.2 (cm hi) (by rw[j];exact q)) λh' d g=>c es[i].2 h' s.toks ?_ ⟨d,?_⟩ λb o y u=>?_;·rw[aJ,cB,j];rfl
  .rw[g.2 a e];exact st.2
  .rw[g.2 b (λz=>y (by simp[z]))];exact u
 done:=λs Q E st c=>Vr l st.1 st.2 f rfl (λA1 K P q=>YC hb f hl hz r st.2 (aq _) (by rw[bU (aq _)];exact q)) λh' C=>c h' s.toks λb o y u=>C b o (λz=>y (by simp[z])) u
 self:=λi s Q E st c=>gG st.1 rfl c
noncomputable def qhf(es:Array (Int×iC))(ps:List Nat):List iC:=ps.map λk=>(es[k]?.map (·.2)).getD .none
theorem GX(h:ps.Perm (aK es.size)):(qhf es ps).Perm (es.toList.map (·.2)):=by
 have e:qhf es (aK es.size)=es.toList.map (·.2):=by
  apply et;intro i;unfold qhf;rw[aJ,aJ,show es.toList[i]?=es[i]? from cB];by_cases hi:i<es.size;·rw[List.getElem?_range hi,bg hi];simp[hi]
  .rw[bA (by rw[bN];lia),bU (by lia)];rfl
 rw[<-e];exact h.map _
theorem Zc{ep m:Nat}(r:A.handled=iB)(j:t.fits es.size=iD)(hp:ps.Perm (aK es.size))(f:a≠it)(e:p≠it):Walks prog w A it [it,a,p] [it] es.size (λi v=>(qhf es ps)[i]?=iw v) (λi h=>h.get? it=iw (wO (.ref p) i a es.size ep)/\h.get? a=iw (jT es ep t)/\h.get? p=iw { cls:=.type "tuple",data:=.seq (ps.map λ(i:Nat)=>iX i).toArray m }) where
 sub:=λb hb=>by simp at hb;simp[hb]
 frame:=λ_ _ _ st k=>⟨k it (by simp) _ st.1,k a (by simp) _ st.2.1,k p (by simp) _ st.2.2⟩
 item:=λi s Q E hi st c=>by
  have n:ps.length=es.size:=by rw[hp.length_eq,bN]
  have l:i<ps.length:=by lia
  have k:ps[i]<es.size:=bq.mp (hp.mem_iff.mp (cS l));have q:es[ps[i]]?=iw es[ps[i]]:=bg k;refine Zb (x:=es[ps[i]].2) (hx:=es[ps[i]].1) (pl:=ps[i]) st.1 st.2.1 j rfl st.2.2 ?_ q λh' g d=>c es[ps[i]].2 h' s.toks ?_ ⟨g,?_,?_⟩ λb o y u=>?_;·rw[eG,aJ,aG l];rfl
  .unfold qhf;rw[aJ,aG l];simp[q]
  .rw[d.2 a f];exact st.2.1
  .rw[d.2 p e];exact st.2.2
  .rw[d.2 b (λz=>y (by simp[z]))];exact u
 done:=λs Q E st c=>by
  have n:ps.length=es.size:=by rw[hp.length_eq,bN]
  refine GV r st.1 st.2.1 j rfl st.2.2 ?_ λh' C=>c h' s.toks λb o y u=>C b o (λz=>y (by simp[z])) u;rw[eG,bA (by simp;lia)]
 self:=λi s Q E st c=>gG st.1 rfl c
structure Wlk(w:iL)(es:Array (Int×iC))(t:lS):Prop where
 bd:es.size<l7
 fits:t.fits es.size=iD
 led:t.led=!(w.params.followText "set-order")
 rise:(!t.plain&&decide (es.size > 1))=iE->qdN t.place.toList
theorem qcF{A1:iT}{Q:iC->iF->Prop}(k:A1.handled=iB)(f:s.heap.get? a=iw (jT es ep t))(d:Wlk w es t)(l:∀(it:Z7)(h':Z5)(r:Drawn)(ord:List iC)(fp:List Z7)(St:Nat->Z5->Prop),(∀b o,s.heap.get? b=iw o->h'.get? b=iw o)->ord.Perm (es.toList.map (·.2))->Walks prog w A1 it fp [it] es.size (λi v=>ord[i]?=iw v) St->St 0 h' ->(∀b∈fp,b=a\/s.heap.objs.size<=b)->s.heap.objs.size<=it->Q (.ref it) { s with heap:=h',drawn:=r }):iH (Z6 prog w) A (mQ (.ref a)) Q E s:=by
 have T:s.TypeIs (.ref a) "set":=⟨_,f,rfl⟩
 have c:a<s.heap.objs.size:=aw f;refine wpAny_pyIter_slot T PySem.F.slot_set_iter (iQ PySem.F.slot_set_iter T Vp ?_ (PySem.F.args_set_iter_1 _));show iH _ _ (Builtin.Frozenset.sizeOf a >>= _) _ _ s;refine iA (m:=Builtin.Frozenset.sizeOf a) (iA (lu f rfl d.fits (iG ?_)));refine iA (m:=setDrawn a) ?_;unfold setDrawn;refine iA (i7 f rfl d.fits ?_);dsimp only;refine iA (m:=mh) (iA (i5 (iG ?_)));refine iG ?_;cases hb:w.params.followText "set-order" with
 |true=>
  rw[vf hb,Ab (by simp)];refine iA (iG ?_);refine iA (m:=setEpoch a) (wpAny_setEpoch_of f rfl d.fits ?_);refine iA (iS (iG ⟨_,rfl,"set_iterator",_,⟨_,af _ rfl,rfl⟩,qR.lookup,?_⟩));refine l _ _ s.drawn _ _ _ (λb o e=>aa _ e) ((gF (w.params.setOrder a ep) es).map _) (GW k hb d.fits (ax c)) ⟨af _ rfl,aa _ f⟩ ?_ (aq _);intro b hb;rcases ac.mp hb with z|z;·exact .inr (z ▸ aq _)
  .exact .inl (aN.mp z)
 | false=>
  have j:t.led=true:=by rw[d.led,hb];rfl
  rw[vf hb];show iH _ _ (if (!false&&(!t.plain&&decide (es.size > 1)))=iD then _ else _) _ _ _;cases n:(!t.plain&&decide (es.size > 1))with
  |false=>
   rw[Ab (by simp)];refine iA (iG ?_);refine iA (m:=setEpoch a) (wpAny_setEpoch_of f rfl d.fits ?_);refine iA (iS (iG ⟨_,rfl,"set_iterator",_,⟨_,af _ rfl,rfl⟩,qR.lookup,?_⟩));refine l _ _ s.drawn _ _ _ (λb o e=>aa _ e) (cz _) (qcE k hb d.fits j n (d.rise n) (ax c)) ⟨af _ rfl,aa _ f⟩ ?_ (aq _);intro b hb;rcases ac.mp hb with z|z;·exact .inr (z ▸ aq _)
   .exact .inl (aN.mp z)
  | true=>
   rw[Aa (by simp)];refine iA (GT es.size (aK es.size) s (by simp) λps r hp=>?_);have g:ps.length=es.size:=by rw[hp.length_eq,bN]
   have hsz:(ps.map λ(i:Nat)=>iX i).length<=Z8:=by rw[ah,g];exact lT d.bd
   refine iA (mi ?_ hsz);refine iA (m:=setEpoch a) (wpAny_setEpoch_of (aa _ f) rfl d.fits ?_);refine iA (iS (iG ⟨_,rfl,"set_iterator",_,⟨_,af _ rfl,rfl⟩,qR.lookup,?_⟩));have h:s.heap.objs.size<(s.heap.push ({ cls:=.type "tuple",data:=.seq (ps.map λ(i:Nat)=>iX i).toArray }:Obj)).objs.size:=by rw[aX];exact eZ _
   refine l _ _ r _ _ _ (λb o e=>aa _ (aa _ e)) (GX hp) (Zc (p:=s.heap.objs.size) k d.fits hp (ax (cr c h)) (ax h)) ⟨af _ rfl,aa _ (aa _ f),aa _ (af _ rfl)⟩ ?_ (cm h);intro b hb;rcases ac.mp hb with z|z;·exact .inr (z ▸ cm h)
   .rcases ac.mp z with z|z;·exact .inl z
    .exact .inr (fq (aN.mp z).symm)
end
section
theorem qcG{ord:List iC}{acc:Array iC}(hl:ord.length=n)(h:ItemsOf (λi v=>ord[i]?=iw v) acc n):acc.toList=ord:=by
 apply et;intro i;rw[show acc.toList[i]?=acc[i]? from cB];by_cases hi:i<acc.size;·rw[bg hi];exact(h.2 i _ (bg hi)).symm
 .rw[bU (by lia),bA (by have:=h.1;lia)]
theorem WP{Q:List iC->iF->Prop}(M:A.handled=iB)(J:s.heap.get? a=iw (jT es ep t))(d:Wlk w es t)(N:∀h' x tk ord,(∀b o,s.heap.get? b=iw o->h'.get? b=iw o)->ord.Perm (es.toList.map (·.2))->Q ord { s with heap:=h',drawn:=x,toks:=tk }):iH (Z6 prog w) A (collect (.ref a)) Q E s:=by
 have n:a<s.heap.objs.size:=aw J;unfold collect;refine iA (wpAny_runValue (iZ PySem.F.entry_proto_collect ?_));rw[bt PySem.F.plain_proto_collect _];show iH _ A.in1 (newList [] >>= λl=>again (.builtin "list.__iadd__" ⟨[l,.ref a],[]⟩)) _ _ s;refine iA (iS ?_);refine iG ⟨lp PySem.F.plain_list_iadd _,iZ PySem.F.entry_list_iadd ?_⟩;rw[bt PySem.F.plain_list_iadd _];have f:(s.heap.push { cls:=.type "list",data:=.seq ([]:List iC).toArray }).get? a=iw (jT es ep t):=aa _ J;have T:fS { s with heap:=s.heap.push { cls:=.type "list",data:=.seq ([]:List iC).toArray } } (.ref a) "set":=⟨_,f,rfl⟩
 show iH _ A.in1 (bR (.ref s.heap.objs.size) (.ref a) (.ref s.heap.objs.size)) _ _ _;unfold bR;refine iA (lR T ?_);have h1:cM (.ref s.heap.objs.size) (.ref a)=false:=by simp[cM,cq n]
 rw[Ab (by rw[h1];decide)];refine iA (qcF (A1:=A.in1) M f d λit h2 x ord fp St k2 hp W C D hit=>?_);have u:h2.get? s.heap.objs.size=iw { cls:=.type "list",data:=.seq ([]:List iC).toArray }:=k2 _ _ (af _ rfl);have G:h2.get? a=iw (jT es ep t):=k2 _ _ f;refine iA (iR ?_);unfold dq;have g:fS { s with heap:=h2,drawn:=x } (.ref a) "set":=⟨_,G,rfl⟩
 refine iA (wpAny_specialOf g PySem.F.slot_set_len.lookup ?_)
 (generalize c:("set.__len__":String)=id0;(fail_if_success (clear c id0));wp_delta;rw[show splitId id0=iw ("set","__len__")from by subst c;decide +kernel];subst c)
 refine iA (li (b:=iD) g (by rw[lU];kernel_rfl) ?_);refine iA (m:=typeOf (.ref a)) (lR g ?_);refine iG ?_;show iH _ A.in1 (rule "list.extend.makes-room" >>= λ_=>Builtin.List.listTouch (.ref s.heap.objs.size) >>= λ_=>again (.builtin "list.extend.loop" ⟨[.ref s.heap.objs.size,.ref it,.ref s.heap.objs.size],[]⟩)) _ _ _;refine iA (lw (iA ?_));show iH _ A.in1 (my s.heap.objs.size (·.push .none) >>= λ_=>my s.heap.objs.size (·.pop)) _ _ _;refine iA (lz u rfl ?_);have h:=aV (br (·.push bK)) u rfl;refine lz h rfl ?_;have i:=aV (br (·.pop)) h rfl;have k:(s.heap.push ({ cls:=.type "list",data:=.seq ([]:List iC).toArray }:Obj)).objs.size=s.heap.objs.size+1:=aX ..;have j:∀b o,b≠s.heap.objs.size->h2.get? b=iw o->((h2.update s.heap.objs.size (br (·.push bK))).update s.heap.objs.size (br (·.pop))).get? b=iw o:=λb o hb e=>(bu _ _ (aW hb)).trans ((bu _ _ (aW hb)).trans e);have I:s.heap.objs.size∉fp:=λz=>by
  rcases D _ z with q|q;·exact cq n q
  .exact Nat.not_succ_le_self _ (k ▸ q)
 have p:ord.length=es.size:=by rw[hp.length_eq];simp
 refine iG ⟨lp b4 _,codeAny_extend_loopS W.toS (lT d.bd) _ I _ es.size 0 _ _ _ rfl (aZ _) (W.frame 0 h2 _ C λb hb o e=>j b o (λz=>I (z ▸ hb)) e) i (ItemsOf.nil _) λs' L S v H r=>?_⟩;show iH _ A (load s.heap.objs.size >>= _) _ _ s';refine iA (wpAny_load H (iG ?_));rw[qcG p r];obtain⟨h',g',d',y,B⟩:=s';have P:g'=s.gens:=v.gens;have R:d'=x:=v.drawn;have O:B=s.os:=v.os;subst P R O;refine N h' d' y ord (λb o e=>?_) hp;have hb:=aw e;refine v.heap b o (λz=>?_) (j b o (ax hb) (k2 b o (aa _ e)));rcases ac.mp z with z|z;·exact ax hb z
 .have K:s.heap.objs.size+1<=it:=k ▸ hit;rw[<-aN.mp z]at K;exact bS _ (cr hb K)
theorem qi6{ks:List Str}(d:SetG KpS prog w es t ks):Wlk w es t:=by
 have h:=d.fits;simp only[SetTable.fits,aO,beq_iff_eq]at h;refine⟨d.bd,d.fits,d.led,λz=>?_⟩;have hz:t.place.toList.length<=1:=by
  rw[bm,h.1];by_cases e:ks=[];·rw[d.size,e];exact aZ _
  .rw[d.plain rfl e]at z;simpa using z
 unfold qdN
 match t.place.toList,hz with
 |[],_=>exact .nil
 |[x],_=>exact cU _ _
theorem Zd{ks:List Str}{Q:iC->iF->Prop}(p:A.handled=iB)(S:SetK KpS prog w s.heap a ks)(j:ks.length<64)(u:∀(h1 h':Z5) r tk vs e ss,(∀b o,s.heap.get? b=iw o->h1.get? b=iw o)->(∀b o,h1.get? b=iw o->h'.get? b=iw o)->h'.get? h1.objs.size=iw (lg "list" vs e)->StrsAre vs.toList ss->ss.Perm ks->sortedS ss=iD->Q (.ref h1.objs.size) { s with heap:=h',drawn:=r,toks:=tk }) :
  iH (Z6 prog w) A (call (.builtin "sorted") [.ref a]) Q E s:=by
 obtain⟨es,ep,t,q,d⟩:=S;refine Calls.call_function_entry kind_sorted plain_sorted entry_sorted (args_sorted1 _) ?_;unfold Builtin.«sorted»;refine iA (m:=checkCount "sorted" 1 1 _) (iG ?_);refine iA (WP (by exact p) q (qi6 d) λh1 r tk ord k1 hp=>?_);have c:StrsAre ord (ord.map strOf):=strsAre_map ord λv l=>by obtain⟨e,i,rfl⟩:=ay.mp (hp.mem_iff.mp l);exact qhd d.el i
 have h:(ord.map strOf).Perm ks:=(hp.map strOf).trans (by rw[bp];exact d.perm);have n:ord.length=ks.length:=by have:=h.length_eq;rwa [ah]at this
 refine iA (wpAny_newList ?_ (by rw[n,iM];lia));have W:(h1.push (lg "list" ord.toArray 0)).get? h1.objs.size=iw (lg "list" ord.toArray 0):=af _ rfl;refine iA (iR (iQ slot_list_sort (s:={ s with heap:=h1.push (lg "list" ord.toArray 0),drawn:=r,toks:=tk }) ⟨_,W,rfl⟩ entry_list_sort (list_sort_treeK strKind_oneLt W c.keysOf (λv₁ k rest e=>keyKind_strs (by rw[<-e];exact c)) (by rw[n];exact j) λf D B=>⟨_,rfl,?_⟩) (args_list_sort _)));obtain⟨g,z,y,x⟩:=sorted_out_str c D B;obtain⟨e,i⟩:=sortedHeap_at (out:=(arrOf f).map (·.2)) W;refine iG ⟨_,rfl,u h1 _ r tk _ e g k1 (λb o C=>?_) i z (y.trans h) x⟩;have hb:=aw C;rw[sortedHeap_old (ax hb) (by rw[aX];exact cg hb)];exact aa _ C
end
section
theorem Vs{Q:iC->iF->Prop}(hit:s.heap.IsTupleIter it l i)(hl:s.heap.IsTuple l items)(hx:items[i]?=iw x)(c:∀h',h'.IsTupleIter it l (i+1)->bh it s.heap h'->Q x { s with heap:=h' }):iH (Z6 prog w) A (aQ (.ref it)) Q E s:=by
 obtain⟨o,h,d,hd⟩:=id hit;obtain⟨ol,a,_,n,b⟩:=hl;unfold aQ;refine iA (iO (name:=ab "__next__") hit.typeIs bV (iQ bV hit.typeIs PySem.F.entry_tuple_iterator_next ?_ (PySem.F.args_tuple_iterator_next_1 _)));show iH _ _ (field (.ref it) 0 >>= _) _ _ s;refine iA (iV h hd (x:=.ref l) rfl ?_);show iH _ _ (if (aM l == bK)=iD then _ else _) _ _ s;rw[Ab (show ¬((aM l == bK)=iD)from b8)];show iH _ _ (field (.ref it) 1 >>= _) _ _ s;refine iA (iV h hd (x:=.int i 0) rfl ?_);show iH _ _ (seqItems? (.ref l) >>= _) _ _ s;refine iA (iU a b ?_);simp only[eh,hx];refine iA (lj h hd (by simp) (iG ⟨x,rfl,iG (c _ ?_ (bn ..))⟩));exact⟨_,aV _ h (Obj.isFreed_of_fields (Obj.data_mapFields hd _)),(Obj.cls_mapFields ..).trans d,by rw[Obj.data_mapFields hd];simp[iX]⟩
theorem zE{Q:iC->iF->Prop}(d:A.handled=iB)(hit:s.heap.IsTupleIter it l i)(hl:s.heap.IsTuple l items)(hx:items[i]?=iB)(j:∀h' e,g9 it s.heap h'->(∃o,h'.get? e=iw o/\o.cls=.type "StopIteration")->E (.ref e) { s with heap:=h' }):iH (Z6 prog w) A (aQ (.ref it)) Q E s:=by
 obtain⟨o,b,f,hd⟩:=id hit;obtain⟨ol,h,_,n,c⟩:=hl;unfold aQ;refine iA (iO (name:=ab "__next__") hit.typeIs bV (iQ bV hit.typeIs PySem.F.entry_tuple_iterator_next ?_ (PySem.F.args_tuple_iterator_next_1 _)));show iH _ _ (field (.ref it) 0 >>= _) _ _ s;refine iA (iV b hd (x:=.ref l) rfl ?_);show iH _ _ (if (aM l == bK)=iD then _ else _) _ _ s;rw[Ab (show ¬((aM l == bK)=iD)from b8)];show iH _ _ (field (.ref it) 1 >>= _) _ _ s;refine iA (iV b hd (x:=.int i 0) rfl ?_);show iH _ _ (seqItems? (.ref l) >>= _) _ _ s;refine iA (iU h c ?_);simp only[eh,hx];refine iA (lw (iA (lj b hd (by simp) ?_)));show iH _ _ (newExc (.type "StopIteration") [] >>= _) _ _ _;refine iA ?_;simp only[newExc,newTuple];refine iA (iS ?_ (by size_fits));refine iA (m:=lC _ _) (mH (a:=bK) (by first|rfl|(simp only[lC];rfl)) ?_);refine iS ?_ (by size_fits);simp only[raiseNew];refine iA (wpAny_handled ?_);first|rw[show A.in1.handled=iB from d]|rw[d]
 refine iA (iG (wpAny_throw ?_));exact j _ _ (((bn ..).extBut.push _).push _) ⟨_,af _ rfl,rfl⟩
theorem WQ(g:A.handled=iB)(it l:Z7)(d:l≠it)(items:Array iC):lV prog w A it [it,l] items.size (λi v=>items[i]?=iw v) (λi h=>h.IsTupleIter it l i/\h.IsTuple l items) where
 live:=λ_ _ st=>let ⟨o,f,_⟩:=st.1; ⟨o,f⟩
 frame:=λ_ _ _ st k=>⟨st.1.at λo e=>k it (by simp) o e,let ⟨o,e,c⟩:=st.2; ⟨o,k l (by simp) o e,c⟩⟩
 item:=λi s Q E hi st j=>by refine Vs st.1 st.2 (x:=items[i]) (by simp[hi]) λh' b a=>j _ h' s.toks (by simp[hi]) ⟨b,?_⟩ a;obtain⟨o,e,c⟩:=st.2;exact⟨o,(a.2 l d).trans e,c⟩
 done:=λs Q E st m=>zE g st.1 st.2 (by simp) m
structure Apart2(z TI TO i1 i2:Z7)(fp1 fp2:List Z7):Prop where
 TIz:TI≠z
 TOz:TO≠z
 i1z:i1≠z
 i2z:i2≠z
 TITO:TI≠TO
 TIi1:TI≠i1
 TIi2:TI≠i2
 TOi1:TO≠i1
 TOi2:TO≠i2
 i12:i1≠i2
 z1:z∉fp1
 z2:z∉fp2
 o1:TO∉fp1
 o2:TO∉fp2
 a12:i1∉fp2
 a21:i2∉fp1
variable{z TI TO i1 i2:Z7}{fp1 fp2:List Z7}{n1 n2:Nat}{P1 P2:Nat->iC->Prop}{S1 S2:Nat->Z5->Prop}{a b:iC}
theorem qcH{Q:iC->iF->Prop}(D:Apart2 z TI TO i1 i2 fp1 fp2)(D1:lV prog w A i1 fp1 n1 P1 S1)(D2:lV prog w A i2 fp2 n2 P2 S2)(hz:lW s.heap z TI TO .none)(Y:iW s.heap TI (.ref i1) (.ref i2))(X:iW s.heap TO a b)(h1:S1 i s.heap)(h2:S2 i s.heap)(l1:i<n1)(l2:i<n2)(hQ:∀x y h' tk,P1 i x->P2 i y->lW h' z TI TO (iX s.heap.objs.size)->iW h' TO x y->S1 (i+1) h'->S2 (i+1) h'->iW h' s.heap.objs.size x y ->(∀c o,c≠z->c≠TO->c≠i1->c≠i2->s.heap.get? c=iw o->h'.get? c=iw o)->Q (.ref s.heap.objs.size) { s with heap:=h',toks:=tk }) :
  iH (Z6 prog w) A (Builtin.«zip.__next__» ⟨[.ref z],[]⟩) (λfin s'=>∃v,fin=.done (.ret v)/\Q v s') E s:=by
 show iH _ _ (field (.ref z) 2 >>= _) _ _ _;refine iA (iV hz rfl (x:=.bool iE) rfl ?_);show iH _ _ (field (.ref z) 3 >>= _) _ _ _;refine iA (iV hz rfl (x:=.ref TI) rfl ?_);refine iA (iU Y rfl ?_);show iH _ _ (aT (.ref z) >>= _) _ _ _;refine iA ?_;unfold aT;refine iA (iV hz rfl (x:=.none) rfl (iG ?_));simp only[if_true];refine iA (lw ?_);refine iA (iV hz rfl (x:=.ref TO) rfl ?_);refine iA (j5 hz (by simp) λh₁ r k=>?_);replace r:lW h₁ z TI TO .ellipsis:=r;refine iA ?_;simp only[List.zipIdx_cons,List.zipIdx_nil,dQ,fF];refine iA (iA (mm ?_));show iH _ _ (aQ (.ref i1) >>= _) _ _ _;refine iA (D1.item i _ _ _ l1 (D1.frame _ _ _ h1 λc C o e=>k.extBut _ _ (λq=>D.z1 (q ▸ C)) e) λx V W hx N j=>iG ?_);have B:iW V TO a b:=(j.2 _ D.TOi1).trans (k.extBut _ _ D.TOz X);refine iA (iU B rfl ?_);refine iA (wpAny_updateSeq_pair B λU m g=>?_);replace m:iW U TO x b:=m;refine iA (mI (iG ?_));refine iA (iA (mm ?_));show iH _ _ (aQ (.ref i2) >>= _) _ _ _;refine iA (D2.item i _ _ _ l2 (D2.frame _ _ _ h2 λc C o e=>(g.extBut _ _ (λq=>D.o2 (q ▸ C)) ((j.2 _ (λq=>D.a12 (q ▸ C))).trans (k.extBut _ _ (λq=>D.z2 (q ▸ C)) e)))) λy T L hy M f=>iG ?_);have u:iW T TO x b:=(f.2 _ D.TOi2).trans m;refine iA (iU u rfl ?_);refine iA (wpAny_updateSeq_pair u λp h d=>?_);replace h:iW p TO x y:=h;refine iA (mI (iG (iG ?_)));refine iA (iU h rfl ?_);refine iA (mi ?_);have hsz:p.objs.size=s.heap.objs.size:=by rw[d.1,f.1,g.1,j.1,k.1]
 have G:lW p z TI TO .ellipsis:=d.extBut _ _ D.TOz.symm ((f.2 _ D.i2z.symm).trans (g.extBut _ _ D.TOz.symm ((j.2 _ D.i1z.symm).trans r)));have P:∀c o,c≠z->c≠TO->c≠i1->c≠i2->s.heap.get? c=iw o->p.get? c=iw o:=λc o R c2 F Z e=>d.extBut _ _ c2 ((f.2 _ Z).trans (g.extBut _ _ c2 ((j.2 _ F).trans (k.extBut _ _ R e))));have K:z<p.objs.size:=aw G;show iH _ _ (Builtin.SmallTypes.ownedTupleHandOut (.ref z) (.ref p.objs.size) >>= _) _ _ _;refine iA ?_;unfold Builtin.SmallTypes.ownedTupleHandOut;have O:lW (p.push { cls:=.type "tuple",data:=.seq #[x,y] }) z TI TO .ellipsis:=aa _ G;refine iA (j5 O (by simp) λS n I=>?_);replace n:lW S z TI TO (iX p.objs.size):=n;refine j5 n (by simp) λt l H=>?_;replace l:lW t z TI TO (iX p.objs.size):=l;have up:∀c o,c≠z->p.get? c=iw o->t.get? c=iw o:=λc o R e=>H.extBut _ _ R (I.extBut _ _ R (aa _ e));have J:iW t p.objs.size x y:=H.extBut _ _ (cq K) (I.extBut _ _ (cq K) (af _ rfl));rw[hsz]at l J;refine iG ⟨_,rfl,?_⟩;show Q (.ref p.objs.size) _;rw[hsz];refine hQ x y t L hx hy l (up _ _ D.TOz h) (D1.frame _ _ _ N λc C o e=>up _ _ (λq=>D.z1 (q ▸ C)) (d.extBut _ _ (λq=>D.o1 (q ▸ C)) ((f.2 _ (λq=>D.a21 (q ▸ C))).trans (g.extBut _ _ (λq=>D.o1 (q ▸ C)) e))))
  (D2.frame _ _ _ M λc C o e=>up _ _ (λq=>D.z2 (q ▸ C)) (d.extBut _ _ (λq=>D.o2 (q ▸ C)) e)) J λc o R c2 F Z e=>up c o R (P c o R c2 F Z e)
theorem qe2{Q:Fin->iF->Prop}(D:Apart2 z TI TO i1 i2 fp1 fp2)(M:lV prog w A i1 fp1 n1 P1 S1)(P:lV prog w A i2 fp2 n2 P2 S2)(hz:lW s.heap z TI TO .none)(Y:iW s.heap TI (.ref i1) (.ref i2))(X:iW s.heap TO a b)(h1:S1 i s.heap)(h2:S2 i s.heap)(y:i=n1\/(i<n1/\i=n2))(O:∀h' tk e,(∀c o,c≠z->c≠TO->c≠i1->c≠i2->s.heap.get? c=iw o->h'.get? c=iw o)->(∃o,h'.get? e=iw o/\o.cls=.type "StopIteration")->E (.ref e) { s with heap:=h',toks:=tk }) :
  iH (Z6 prog w) A (Builtin.«zip.__next__» ⟨[.ref z],[]⟩) Q E s:=by
 show iH _ _ (field (.ref z) 2 >>= _) _ _ _;refine iA (iV hz rfl (x:=.bool iE) rfl ?_);show iH _ _ (field (.ref z) 3 >>= _) _ _ _;refine iA (iV hz rfl (x:=.ref TI) rfl ?_);refine iA (iU Y rfl ?_);show iH _ _ (aT (.ref z) >>= _) _ _ _;refine iA ?_;unfold aT;refine iA (iV hz rfl (x:=.none) rfl (iG ?_));simp only[if_true];refine iA (lw ?_);refine iA (iV hz rfl (x:=.ref TO) rfl ?_);refine iA (j5 hz (by simp) λh₁ r k=>?_);replace r:lW h₁ z TI TO .ellipsis:=r;refine iA ?_;simp only[List.zipIdx_cons,List.zipIdx_nil,dQ,fF];refine iA (iA (mm ?_));show iH _ _ (aQ (.ref i1) >>= _) _ _ _;have f1:S1 i h₁:=M.frame _ _ _ h1 λc C o e=>k.extBut _ _ (λq=>D.z1 (q ▸ C)) e;rcases y with rfl|⟨hlt,rfl⟩
 .refine iA (M.done _ _ _ f1 λu e j K=>?_);obtain⟨I,h,J⟩:=K;have f:lW u z TI TO .ellipsis:=j _ _ D.i1z.symm r;have p:e≠z:=λx=>by subst x;rw[f]at h;cases h;simp at J
  exact j5 f (by simp) λn _ g=>O n s.toks e (λc o G _ L _ x=>g.extBut _ _ G (j _ _ L (k.extBut _ _ G x))) ⟨I,g.extBut _ _ p h,J⟩
 .refine iA (M.item i _ _ _ hlt f1 λx u W hx N j=>iG ?_);have B:iW u TO a b:=(j.2 _ D.TOi1).trans (k.extBut _ _ D.TOz X);refine iA (iU B rfl ?_);refine iA (wpAny_updateSeq_pair B λn H g=>?_);refine iA (mI (iG ?_));refine iA (iA (mm ?_));show iH _ _ (aQ (.ref i2) >>= _) _ _ _;refine iA (P.done _ _ _ (P.frame _ _ _ h2 λc C o e=>(g.extBut _ _ (λq=>D.o2 (q ▸ C)) ((j.2 _ (λq=>D.a12 (q ▸ C))).trans (k.extBut _ _ (λq=>D.z2 (q ▸ C)) e)))) λv e m K=>?_);obtain⟨I,h,J⟩:=K;have d:lW v z TI TO .ellipsis:=m _ _ D.i2z.symm (g.extBut _ _ D.TOz.symm ((j.2 _ D.i1z.symm).trans r));have p:e≠z:=λx=>by subst x;rw[d]at h;cases h;simp at J
  exact j5 d (by simp) λt _ l=>O t W e (λc o G c2 L R x=>l.extBut _ _ G (m _ _ R (g.extBut _ _ c2 ((j.2 _ L).trans (k.extBut _ _ G x))))) ⟨I,l.extBut _ _ p h,J⟩
theorem gH{Q:Option iC->iF->Prop}(D:Apart2 z TI TO i1 i2 fp1 fp2)(M:lV prog w A.in1 i1 fp1 n1 P1 S1)(P:lV prog w A.in1 i2 fp2 n2 P2 S2)(hz:lW s.heap z TI TO .none)(Y:iW s.heap TI (.ref i1) (.ref i2))(X:iW s.heap TO a b)(h1:S1 i s.heap)(h2:S2 i s.heap)(d:i<n1)(l:i<n2)(h:∀x y h' tk,P1 i x->P2 i y->lW h' z TI TO (iX s.heap.objs.size)->iW h' TO x y->S1 (i+1) h'->S2 (i+1) h'->iW h' s.heap.objs.size x y ->(∀c o,c≠z->c≠TO->c≠i1->c≠i2->s.heap.get? c=iw o->h'.get? c=iw o)->Q (iw (.ref s.heap.objs.size)) { s with heap:=h',toks:=tk }):iH (Z6 prog w) A (j7 (.ref z)) Q E s:=by
 have m:s.TypeIs (.ref z) "zip":=⟨_,hz,rfl⟩
 unfold j7;exact iA (j6 (iO (name:=ab "__next__") m bC (iQ bC m c8
  (qcH D M P hz Y X h1 h2 d l λx y h' tk p n g f q e k j=>iG (h x y h' tk p n g f q e k j)) (cV _))))
theorem QX{Q:Option iC->iF->Prop}(D:Apart2 z TI TO i1 i2 fp1 fp2)(M:lV prog w A.in1 i1 fp1 n1 P1 S1)(P:lV prog w A.in1 i2 fp2 n2 P2 S2)(hz:lW s.heap z TI TO .none)(Y:iW s.heap TI (.ref i1) (.ref i2))(X:iW s.heap TO a b)(h1:S1 i s.heap)(h2:S2 i s.heap)(y:i=n1\/(i<n1/\i=n2))(h:∀h' tk,(∀c o,c≠z->c≠TO->c≠i1->c≠i2->s.heap.get? c=iw o->h'.get? c=iw o)->Q iB { s with heap:=h',toks:=tk }):iH (Z6 prog w) A (j7 (.ref z)) Q E s:=by
 have m:s.TypeIs (.ref z) "zip":=⟨_,hz,rfl⟩
 unfold j7;refine iA (j6 (iO (name:=ab "__next__") m bC (iQ bC m c8 (qe2 D M P hz Y X h1 h2 y λh' tk e k g=>?_) (cV _))));obtain⟨o,l,d⟩:=g;refine iA (li (T := "StopIteration") (b:=iD) ⟨o,l,d⟩ mf ?_);exact iG (h _ _ k)
end
section
theorem xU(b:A.handled=iB)(k:SK)(it l:Z7)(e:l≠it)(items:Array iC):lV prog w A it [it,l] items.size (λi v=>items[i]?=iw v) (λi h=>ItK h it l k i/\SeqK h l k items):=by
 cases k with
 |l=>exact Draws.list b it l e items
 |t=>exact WQ b it l e items
end
abbrev zH1(k1:SK)(h:Z5)(i:Z7):Z5:=h.push { cls:=.type k1.itc,data:=.fields #[.ref i,.int 0 0] }
abbrev zH2(k1 k2:SK)(h:Z5)(i l:Z7):Z5:=(zH1 k1 h i).push { cls:=.type k2.itc,data:=.fields #[.ref l,.int 0 0] }
abbrev zH3(k1 k2:SK)(h:Z5)(i l:Z7):Z5:=(zH2 k1 k2 h i l).push { cls:=.type "tuple",data:=.seq #[.ref h.objs.size,.ref (zH1 k1 h i).objs.size] }
abbrev zH4(k1 k2:SK)(h:Z5)(i l:Z7):Z5:=(zH3 k1 k2 h i l).push { cls:=.type "tuple",data:=.seq #[.none,.none] }
abbrev zH5(k1 k2:SK)(h:Z5)(i l:Z7):Z5:=(zH4 k1 k2 h i l).push { cls:=.type "zip",data:=.fields #[.none,.bool iE,.bool iE,.ref (zH2 k1 k2 h i l).objs.size,.ref (zH3 k1 k2 h i l).objs.size] }
theorem Vt(k1 k2:SK)(i l:Z7)(xs ys:Array iC):Meets (Builtin.«zip.__new__» ⟨[.type "zip",.ref i,.ref l],[]⟩) (λ_ R s=>SeqK s.heap i k1 xs/\SeqK s.heap l k2 ys/\R (.ok (.ret (.ref (zH4 k1 k2 s.heap i l).objs.size))) { s with heap:=zH5 k1 k2 s.heap i l }):=
 .of_wp λprog w A R s h=>by
  obtain⟨hp,g,d,tk,os⟩:=s;obtain⟨t,f,h⟩:=h;have c:=sub_zip;have b:SeqK (iq ⟨hp,g,d,tk,os⟩) i k1 xs:=t;have a:SeqK (iq ⟨hp.push { cls:=.type k1.itc,data:=.fields #[.ref i,.int 0 0] },g,d,tk,os⟩) l k2 ys:=SeqK.at f λo e=>aa _ e;wp_walk using qcx b,qcx a
  exact⟨_,rfl,h⟩
variable{k1 k2:SK}
section
theorem GY{i l:Z7}{ys:Array iC}{Q:iC->iF->Prop}(t:SeqK s.heap i k1 xs)(f:SeqK s.heap l k2 ys)(h:∀h',lW h' (s.heap.objs.size+4) (s.heap.objs.size+2) (s.heap.objs.size+3) .none->iW h' (s.heap.objs.size+2) (.ref s.heap.objs.size) (.ref (s.heap.objs.size+1)) ->iW h' (s.heap.objs.size+3) .none .none->ItK h' s.heap.objs.size i k1 0->ItK h' (s.heap.objs.size+1) l k2 0->(∀c o,s.heap.get? c=iw o->h'.get? c=iw o)->Q (.ref (s.heap.objs.size+4)) { s with heap:=h' }) :
  iH (Z6 prog w) A (call (.type "zip") [.ref i,.ref l]) Q E s:=by
 refine callType_new PySem.F.called_zip (by decide) (PySem.F.typeCall_zip_2 _ _) (PySem.F.newCall_zip_2 _ _) (λobj=>PySem.F.args_object_init_3 obj _ _) PySem.F.entry_zip_new (Vt k1 k2 i l xs ys) ⟨t,f,?_⟩;have z1:(zH1 k1 s.heap i).objs.size=s.heap.objs.size+1:=aX ..;have z2:(zH2 k1 k2 s.heap i l).objs.size=s.heap.objs.size+2:=by rw[aX,z1]
 have z:(zH3 k1 k2 s.heap i l).objs.size=s.heap.objs.size+3:=by rw[aX,z2]
 have a:(zH4 k1 k2 s.heap i l).objs.size=s.heap.objs.size+4:=by rw[aX,z]
 have g:(zH5 k1 k2 s.heap i l).get? (zH4 k1 k2 s.heap i l).objs.size=iw _:=af _ rfl;have K:(zH5 k1 k2 s.heap i l).get? (zH3 k1 k2 s.heap i l).objs.size=iw _:=aa _ (af _ rfl);have U:(zH5 k1 k2 s.heap i l).get? (zH2 k1 k2 s.heap i l).objs.size=iw _:=aa _ (aa _ (af _ rfl));have W:(zH5 k1 k2 s.heap i l).get? (zH1 k1 s.heap i).objs.size=iw _:=aa _ (aa _ (aa _ (af _ rfl)));have g1:(zH5 k1 k2 s.heap i l).get? s.heap.objs.size=iw _:=aa _ (aa _ (aa _ (aa _ (af _ rfl))));show _/\_;rw[z2,z,a]at g;rw[z1,z2]at U;rw[z]at K;rw[z1]at W;rw[a];exact⟨⟨_,g,rfl⟩,h _ g U K (.of ⟨_,g1,rfl,rfl⟩) (.of ⟨_,W,rfl,rfl⟩) λc o x=>aa _ (aa _ (aa _ (aa _ (aa _ x))))⟩
end
variable{t':Nat}
section
theorem JO{ch:List Z7}(I:Inv X Z9 σ H s)(k:∀b o,b∉ch->s.heap.get? b=iw o->h'.get? b=iw o)(h:∀b∈ch,Wo X Z9 H b):Inv X Z9 σ H { s with heap:=h',toks:=t' }:=by
 have t:∀b u,H b=iw u->b∉ch:=λb u e z=>by rw[(h b z).1]at e;cases e
 refine I.step (g':=s.gens) (d':=s.drawn) (ch:=ch) (λb hb=>?_) (λb o _ _ d e _=>k b o d e) (λb o _ _ d e _=>⟨o.slots,k b o d e⟩) (λ_ _ _ _ n=>n) (λb o d e=>⟨o,k b o d e⟩) (λ_ _ e=>e) (λ_ _ _ e=>e) (λb ps e=>⟨#[],by rw[e];simp⟩) (λm a=>?_) (λb u e=>?_) I.bare;·obtain⟨f0,f1,f2,g,f4,f⟩:=h b hb;exact⟨g,f1,f4,f⟩
 .obtain⟨o,es,ep,l,r⟩:=a;exact⟨o,es,ep,k _ o (λz=>(h _ z).2.1 rfl) l,r⟩
 .refine(I.hok b u e).stay (λc v d q=>k c v ?_ q) (λ_ q=>q) λ_ _ q=>q;rcases d with z|z
  .rw[z];exact t b u e
  .exact t c _ z
theorem qko{d':Drawn}(I:Inv X Z9 σ H s)(k:∀b u,s.heap.get? b=iw u->h'.get? b=iw u):Inv X Z9 σ H { s with heap:=h',drawn:=d',toks:=t' }:=by refine I.step (g':=s.gens) (d':=d') (ch:=[]) (λ_ z=>nomatch z) (λb o _ _ _ e _=>k b o e) (λb o _ _ _ e _=>⟨o.slots,k b o e⟩) (λ_ _ _ _ n=>n) (λb o _ e=>⟨o,k b o e⟩) (λ_ _ e=>e) (λ_ _ _ e=>e) (λb ps e=>⟨#[],by rw[e];simp⟩) (λm c=>?_) (I.hok.kept k) I.bare;obtain⟨o,es,ep,l,r⟩:=c;exact⟨o,es,ep,k _ o l,r⟩
theorem wP{xs:List V}(I:Inv X Z9 σ H s):∀{k:SK},SqK X.K H a k xs->∃its:List iC,Vals xs its/\SeqK s.heap a k its.toArray
 |.l,h=>let ⟨its,r,p,_⟩:=I.list h; ⟨its,r,p.isList⟩
 |.t,h=>let ⟨its,r,p,_⟩:=I.tuple h; ⟨its,r,p⟩
end
def Itz(K:Y9)(o m:Z7)(k1 k2:SK)(xs ys:List V):It:=
 ⟨λi H=>i<xs.length/\i<ys.length/\SqK K H o k1 xs/\SqK K H m k2 ys,λi H v H'=>∃x y p,xs[i]?=iw x/\ys[i]?=iw y/\H p=iB/\v=.ref p/\H'=upd H p (.tup [x,y]),λi H=>(xs.length<=i\/ys.length<=i)/\SqK K H o k1 xs/\SqK K H m k2 ys⟩
variable{us:List iC}
theorem wQ{xs:List V}(r:Vals xs us)(h:us[i]?=iw u):∃x,xs[i]?=iw x/\RelV x u:=by
 have hi:i<us.length:=(aA.mp h).1;have hx:i<xs.length:=by rw[r.length];exact hi
 obtain⟨U,h1,h2⟩:=r.get (aG hx);rw[h]at h1;cases h1;exact⟨xs[i],aG hx,h2⟩
theorem gI(b o m:Nat)(h1:o<b)(h2:m<b):Apart2 (b+4) (b+2) (b+3) b (b+1) [b,o] [b+1,m]:=by have ne:∀x y:Nat,x≠y->x≠y:=λ_ _ h=>h;have n:∀x a c:Nat,x≠a->x≠c->x∉[a,c]:=λx a c n1 n2 h=>(ac.mp h).elim n1 λh=>n2 (aN.mp h);exact⟨ne _ _ (by lia),ne _ _ (by lia),ne _ _ (by lia),ne _ _ (by lia),ne _ _ (by lia),ne _ _ (by lia),ne _ _ (by lia),ne _ _ (by lia),ne _ _ (by lia),ne _ _ (by lia),n _ _ _ (by lia) (by lia),n _ _ _ (by lia) (by lia),n _ _ _ (by lia) (by lia),n _ _ _ (by lia) (by lia),n _ _ _ (by lia) (by lia),n _ _ _ (by lia) (by lia)⟩
theorem qcI{P:iK}{w:iL}{K:Y9}{J:List Z4}{x1}{pos:Pos}{k1 k2:SK}(b r q:Nat)(xs ys:List V)(h1:r<b)(h2:q<b):Turn P w K (.Tuple J x1 pos) (Itz K r q k1 k2 xs ys) [b+4,b+2,b+3,b,b+1] (b+4)
   (λi h=>lW h (b+4) (b+2) (b+3) .none/\iW h (b+2) (.ref b) (.ref (b+1))/\(∃a c,iW h (b+3) a c)/\ItK h b r k1 i/\ItK h (b+1) q k2 i/\i<=xs.length/\i<=ys.length) where
 mem:=by simp
 obj:=λi h st c f=>by
  obtain⟨hz,hi,⟨a,c',T⟩,p,t,_⟩:=st;simp only[ac,aY,or_false]at f;rcases f with rfl|rfl|rfl|rfl|rfl;·exact⟨_,hz,λv z=>by cases z⟩
  .exact⟨_,hi,λv z=>by cases z⟩
  .exact⟨_,T,λv z=>by cases z⟩
  .obtain⟨o,e,_,d⟩:=p.obj;exact⟨o,e,λv z=>by rw[d]at z;cases z⟩
  .obtain⟨o,e,_,d⟩:=t.obj;exact⟨o,e,λv z=>by rw[d]at z;cases z⟩
 keep:=λi h h' st k=>by
  obtain⟨hz,hi,⟨a,c',T⟩,p,t,n⟩:=st;refine⟨k _ (by simp) _ hz,k _ (by simp) _ hi,⟨a,c',k _ (by simp) _ T⟩,?_,?_,n⟩;·obtain⟨o,e,c,d⟩:=p.obj;exact .of ⟨o,k _ (by simp) _ e,c,d⟩
  .obtain⟨o,e,c,d⟩:=t.obj;exact .of ⟨o,k _ (by simp) _ e,c,d⟩
 item:=by
  intro X U hw W f i Z9 s σ H E I G st hg;subst U hw W;obtain⟨hz,Y,⟨oa,ob,O⟩,p,t,n1,n2⟩:=st;obtain⟨S,F,Q,M⟩:=hg;obtain⟨l,r1,p1⟩:=wP I Q;obtain⟨N,r2,p2⟩:=wP I M;have e1:l.toArray.size=xs.length:=by rw[aj,r1.length]
  have Z:N.toArray.size=ys.length:=by rw[aj,r2.length]
  have D:=gI b r q h1 h2;have C:X.A.in1.handled=none:=I.ok.hd f;refine gH (A:=X.A) D (xU (prog:=X.prog) (w:=X.w) (A:=X.A.in1) C k1 b r (ax h1) l.toArray) (xU (prog:=X.prog) (w:=X.w) (A:=X.A.in1) C k2 (b+1) q (ax (cg h2)) N.toArray) hz Y O ⟨p,p1⟩ ⟨t,p2⟩ (by rw[e1];exact S) (by rw[Z];exact F) λu v h' tk hu hv z' L s1 s2 tp kp=>?_;refine⟨_,rfl,wpAny_letOwnedTupleGo_zip z' λhq z2 j=>?_⟩;obtain⟨x,hx,rx⟩:=wQ r1 (by simpa using hu);obtain⟨y,hy,ry⟩:=wQ r2 (by simpa using hv);have hT:H s.heap.objs.size=none:=I.hok.fresh (aq _);have R:b+4<s.heap.objs.size:=aw hz;have fT:∀c∈[b+4,b+2,b+3,b,b+1],c≠s.heap.objs.size:=λc f=>by
   simp only[ac,aY,or_false]at f;have B:b+4<s.heap.objs.size:=R;generalize s.heap.objs.size=m at B;intro z
   lia
  have I1:Inv X Z9 σ (upd H s.heap.objs.size (.tup [x,y])) { s with heap:=s.heap.push { cls:=.type "tuple",data:=.seq #[u,v] } }:=
   I.laid (t':=s.toks) (λ_ _ e=>aa _ e) (aq _) ⟨⟨by simp only[ap,aR];rw[iM];decide,_,af _ rfl,rfl⟩,[u,v],.cons rx (.cons ry .nil),⟨_,af _ rfl,rfl,_,rfl⟩⟩
  have I2:Inv X Z9 σ (upd H s.heap.objs.size (.tup [x,y])) { s with heap:=hq,toks:=tk }:=by
   refine JO (s:={ s with heap:=s.heap.push { cls:=.type "tuple",data:=.seq #[u,v] } }) (ch:=[b+4,b+2,b+3,b,b+1]) I1 (λc o g e=>?_) λc f=>⟨by rw[qv (fT c f)];exact(G c f).1,(G c f).2⟩
   simp only[ac,aY,or_false,not_or]at g;rw[j.2 c g.1];by_cases ec:c=s.heap.objs.size;·subst ec;have e3:(s.heap.push ({ cls:=.type "tuple",data:=.seq #[u,v] }:Obj)).get? s.heap.objs.size=iw { cls:=.type "tuple",data:=.seq #[u,v] }:=af _ rfl;rw[show(s.heap.push ({ cls:=.type "tuple",data:=.seq #[u,v] }:Obj)).get? s.heap.objs.size=iw o from e]at e3;rw[e3];exact tp
   .have e4:s.heap.get? c=iw o:=by have:=e;rwa [show(s.heap.push ({ cls:=.type "tuple",data:=.seq #[u,v] }:Obj)).get? c=s.heap.get? c from eu _ _ _ ec]at this
    exact kp c o g.1 g.2.2.1 g.2.2.2.1 g.2.2.2.2 e4
  refine⟨.ref s.heap.objs.size,_,I2,rfl,⟨x,y,_,hx,hy,hT,rfl,rfl⟩,⟨z2,?_,⟨u,v,?_⟩,?_,?_,S,F⟩,λc f=>by rw[qv (fT c f)];exact(G c f).1⟩;·exact(j.2 _ D.TIz).trans (kp _ _ D.TIz D.TITO D.TIi1 D.TIi2 Y)
  .exact(j.2 _ D.TOz).trans L
  .obtain⟨o,e,c,d⟩:=s1.1.obj;exact .of ⟨o,(j.2 _ D.i1z).trans e,c,d⟩
  .obtain⟨o,e,c,d⟩:=s2.1.obj;exact .of ⟨o,(j.2 _ D.i2z).trans e,c,d⟩
 done:=by
  intro X U hw W f i Z9 s σ H E I G st hg;subst U hw W;obtain⟨hz,Y,⟨oa,ob,O⟩,p,t,n1,n2⟩:=st;obtain⟨S,Q,M⟩:=hg;obtain⟨l,r1,p1⟩:=wP I Q;obtain⟨N,r2,p2⟩:=wP I M;have e1:l.toArray.size=xs.length:=by rw[aj,r1.length]
  have Z:N.toArray.size=ys.length:=by rw[aj,r2.length]
  have D:=gI b r q h1 h2;have C:X.A.in1.handled=none:=I.ok.hd f;refine QX (A:=X.A) D (xU (prog:=X.prog) (w:=X.w) (A:=X.A.in1) C k1 b r (ax h1) l.toArray) (xU (prog:=X.prog) (w:=X.w) (A:=X.A.in1) C k2 (b+1) q (ax (cg h2)) N.toArray) hz Y O ⟨p,p1⟩ ⟨t,p2⟩ (by rw[e1,Z];lia) λh' tk kp=>⟨rfl,JO (ch:=[b+4,b+2,b+3,b,b+1]) I (λc o g e=>?_) G⟩
  simp only[ac,aY,or_false,not_or]at g;exact kp c o g.1 g.2.2.1 g.2.2.2.1 g.2.2.2.2 e
 self:=λ_ _ _ _ _ st h=>wpAny_pyIter_zip st.1 h
theorem Vu:iJ "zip"=iw (.type "zip"):=by decide +kernel
variable{own:List Nat}{ma:Mo}{pos:Pos}
section
variable{a c:Z4}{fa fb:qV}{mb:Mo}
theorem qhg{ta:TA}{p tpos:Pos}{J:List Z4}{x1}(hg:Gl X "zip")(k:X.mg "zip"=iB)(n:PA X [a,c] ta)(hs:iI [a,c] X.env=[(iE,Z0 a X.env),(iE,Z0 c X.env)])(d:iI [c] X.env=[(iE,Z0 c X.env)]):PI X (.Tuple J x1 tpos) (.Call (.Name "zip" p) [a,c] [] pos) (λσ H R=>ta σ H λvs H1=>∃o m k1 k2 xs ys,vs=[.ref o,.ref m]/\SqK X.K H1 o k1 xs/\SqK X.K H1 m k2 ys/\R (Itz X.K o m k1 k2 xs ys) H1):=by
 refine⟨?_⟩;intro Z9 s σ H R I h;refine Call_ (yy I hg k Vu (bD (thn (n pos Z9 s σ H _ I h) λus s1 z=>?_) (by rw[hs,d]) (by rw[d];rfl)));obtain⟨vs,H1,f,r1,j⟩:=z;obtain⟨o,m,k1,k2,xs,ys,rfl,g,w,q⟩:=j;obtain⟨y,x,rfl,e1,r⟩:=ZP r1;cases e1;cases r;obtain⟨l,u,p1⟩:=wP f g;obtain⟨N,v,p2⟩:=wP f w;refine GY p1 p2 λh' hz Y O i t kp=>?_;refine wpAny_pyIter_zip hz ?_;refine⟨s1.heap.objs.size+4,_,_,Itz X.K o m k1 k2 xs ys,H1,rfl,f.kept (t':=s1.toks) kp,qcI s1.heap.objs.size o m xs ys p1.lt p2.lt,⟨hz,Y,⟨_,_,O⟩,i,t,aZ _,aZ _⟩,λb hb=>?_,q⟩;have e:s1.heap.objs.size<=b:=by
  simp only[ac,aY,or_false]at hb;rcases hb with rfl|rfl|rfl|rfl|rfl;·exact ce _ _
  .exact ce _ _
  .exact ce _ _
  .exact aq _
  .exact ce _ _
 exact f.fpOk e (f.hok.fresh e)
theorem PoI.bindA{as:List AK}{o:Out (List D×Sl)}{k:List D×Sl->Out (List D×Sl)}{R:It->Hp->Prop}{Q:List V->Hp->Prop}(hp:PoI C own σ F H (o.bind k) R)(h:∀vs F1 H1 ds ρ1,Rep C.K own F1 H1 σ ρ1->Chg (OA own σ) F H F1 H1->ArgV C.K H F1 H1 σ as vs ds->PoI C own σ F H (k (ds,ρ1)) R->Q vs H1):PoA C own as σ F H o Q:=by
 cases o with
 |ok p=>obtain⟨ds,ρ1⟩:=p;exact λvs F1 H1 a c v=>h vs F1 H1 ds ρ1 a c v hp
 |exc e=>exact hp
 |bad=>exact hp.elim
noncomputable def GZ(xs ys:List D):List D:=c9 (λx y=>.tup [x,y]) xs ys
def qi7(fr:vN):vN:=λρ=>(fr ρ).bind λp=>match p.1 with
 |[x,y]=>(wE x).bind λxs=>(wE y).bind λys=>.ok (GZ xs ys,p.2)
 |_=>.bad
theorem qdO(h:Is K F v d)(e:wE d=.ok ds):∃a k xs,v=.ref a/\(∀H,Same F H->SqK K H a k xs)/\IsL K F xs ds:=by
 cases h with
 |@lst a xs ds' p t=>cases e;exact⟨_,.l,_,rfl,λH s=>s.seq p,t⟩
 |@tup a xs ds' p t=>cases e;exact⟨_,.t,_,rfl,λH s=>je s p,t⟩
 |_=>cases e
theorem qhh{o m:Z7}{xs ys:List V}{es:List D}(p1:∀H,Same F H->SqK K H o k1 xs)(p2:∀H,Same F H->SqK K H m k2 ys)(f:IsL K F xs ds)(t:IsL K F ys es):ItIs K F (Itz K o m k1 k2 xs ys) (GZ ds es) where
 go:=λi H hi s=>by unfold GZ at hi;rw[List.length_zipWith]at hi;exact⟨by rw[f.length];lia,by rw[t.length];lia,p1 H s,p2 H s⟩
 yld:=λi Fi H v H' d e s1 s2 y=>by
  obtain⟨x,y,p,hx,k,n,rfl,rfl⟩:=y;obtain⟨d1,e1,i1⟩:=f.get hx;obtain⟨d2,b,i2⟩:=t.get k;have a:d=.tup [d1,d2]:=by unfold GZ at e;rw[List.getElem?_zipWith,e1,b]at e;exact(aL.inj e).symm
  subst a;obtain⟨g1,W⟩:=xn (u:=.tup [x,y]) s2 n;exact⟨_,W,g1,.tup (.of qo) (.cons ((i1.mono s1).mono W.grow) (.cons ((i2.mono s1).mono W.grow) .nil))⟩
 stop:=λi H hi s=>by unfold GZ at hi;rw[List.length_zipWith]at hi;exact⟨by rw[f.length,t.length];lia,p1 H s,p2 H s⟩
theorem qe3{p tpos:Pos}{J:List Z4}{x1}(l:C.K=X.K)(hg:Gl X "zip")(m:X.mg "zip"=iB)(j:PE X a (tE C own ma fa))(hb:PE X c (tE C own mb fb))(h1:ma≠.any:=by decide)(h2:mb≠.any:=by decide)(hs:iI [a,c] X.env=[(iE,Z0 a X.env),(iE,Z0 c X.env)]:=by exact UV rfl rfl)(b:iI [c] X.env=[(iE,Z0 c X.env)]:=by exact qJ rfl):PI X (.Tuple J x1 tpos) (.Call (.Name "zip" p) [a,c] [] pos) (tIt C own (qi7 (qd fa (qd fb qA)))):=by
 refine qco (qhg hg m (qc j (qc hb ql h2 (by rw[b];rfl)) h1 (by rw[hs,b])) hs b) λσ H R ⟨F,ρ,g,h⟩=>⟨F,ρ,g,PoI.bindA h λvs F1 H1 ds ρ1 r k n h1=>?_⟩
 have i:=ArgV.isL (by decide) n;cases i with
 |nil=>exact h1.elim
 | @cons v d vs ds i1 i=>
  cases i with
  |nil=>exact h1.elim
  | @cons v2 d2 vs ds i2 i=>
   cases i with
   |cons=>exact h1.elim
   | nil=>
    have h1:PoI C own σ F H ((wE d).bind λxs=>(wE d2).bind λys=>.ok (GZ xs ys,ρ1)) R:=h1;cases e1:wE d with
    |bad=>rw[e1]at h1;exact h1.elim
    |exc c=>cases d <;> cases e1
    |ok xs=>
     cases e:wE d2 with
     |bad=>rw[e1,e]at h1;exact h1.elim
     |exc c=>cases d2 <;> cases e
     |ok ys=>rw[e1,e]at h1;obtain⟨q,k1,ws,rfl,p1,f⟩:=qdO i1 e1;obtain⟨o,k2,w,rfl,p2,t⟩:=qdO i2 e;refine⟨q,o,k1,k2,ws,w,rfl,l ▸ p1 H1 r.sub,l ▸ p2 H1 r.sub,?_⟩;rw[<-l];exact h1 _ F1 H1 r k (qhh p1 p2 f t)
end
def leS(x y:Str):Prop:=¬y.cps.toList<x.cps.toList
def qf8(x:Str):List Str->List Str
 |[]=>[x]
 |y::l=>if wD y x=iD then y::qf8 x l else x::y::l
def kN:List Str->List Str
 |[]=>[]
 |x::l=>qf8 x (kN l)
variable{y:Str}
theorem Vv{x z:Str}(a:leS x y)(b:leS y z):leS x z:=List.le_trans (α:=Nat) a b
theorem qaa(x y:Str):leS x y\/leS y x:=List.le_total (α:=Nat) x.cps.toList y.cps.toList
theorem qcJ{x:Str}(a:leS x y)(b:leS y x):x=y:=by have e:=List.le_antisymm (α:=Nat) (as:=x.cps.toList) (bs:=y.cps.toList) a b;obtain⟨⟨l⟩⟩:=x;obtain⟨⟨m⟩⟩:=y;simp at e;rw[e]
theorem gJ{x:Str}:wD y x=iE↔leS x y:=by unfold wD leS;exact decide_eq_false_iff_not
theorem gK(x:Str):∀l,(qf8 x l).Perm (x::l)
 |[]=>cz _
 |y::l=>by
  unfold qf8;split;·exact((gK x l).cons y).trans (List.Perm.swap _ _ _)
  .exact cz _
theorem qY:∀l,(kN l).Perm l
 |[]=>cz _
 |x::l=>(gK x _).trans ((qY l).cons x)
set_option tactic.hygienic true in
theorem gL(x:Str):∀l,l.Pairwise leS->(qf8 x l).Pairwise leS
 |[],_=>cU _ _
 | y::l,h=>by
  have c:=bQ.mp h;unfold qf8;split
  .rename_i t;have b:leS y x:=by
    rcases qaa y x with q|q;·exact q
    .rw[<-gJ]at q;rw[q]at t;cases t
   refine bQ.mpr ⟨λz hz=>?_,gL x l c.2⟩;rcases ac.mp ((gK x l).mem_iff.mp hz)with rfl|hz;·exact b
   .exact c.1 z hz
  .rename_i t;have a:leS x y:=gJ.mp (by cases e:wD y x with|true=>exact absurd e t|false=>rfl);refine bQ.mpr ⟨λz hz=>?_,h⟩;rcases ac.mp hz with rfl|hz;·exact a
   .exact Vv a (c.1 z hz)
theorem kz:∀l,(kN l).Pairwise leS
 |[]=>ei
 |x::l=>gL x _ (kz l)
theorem gM:∀{l m:List Str},l.Perm m->l.Pairwise leS->m.Pairwise leS->l=m
 |[],m,p,_,_=>p.nil_eq
 |x::l,[],p,_,_=>absurd p.length_eq (by simp)
 | x::l,y::m,p,hl,hm=>by
  have a:=bQ.mp hl;have b:=bQ.mp hm;have c:x=y:=by
   have h1:y∈x::l:=p.mem_iff.mpr (au ..);have h2:x∈y::m:=p.mem_iff.mp (au ..);rcases ac.mp h1 with e|e;·exact e.symm
   .rcases ac.mp h2 with d|d;·exact d
    .exact qcJ (a.1 y e) (b.1 x d)
  subst c;rw[gM p.cons_inv a.2 b.2]
theorem QY:∀(x:Str)(l:List Str),risingS x l=iD->(x::l).Pairwise leS
 |x,[],_=>cU _ _
 |x,y::l,h=>by
  have h:(!ltCps y.cps.toList x.cps.toList&&risingS y l)=true:=h;rw[aO]at h;have j:=QY y l h.2;have a:leS x y:=by have h1:=h.1;rw[ltCps_eq]at h1;unfold leS;simpa using h1
  refine bQ.mpr ⟨λz hz=>?_,j⟩;rcases ac.mp hz with rfl|hz;·exact a
  .exact Vv a ((bQ.mp j).1 z hz)
theorem WR:∀(l:List Str),sortedS l=iD->l.Pairwise leS
 |[],_=>ei
 |x::l,h=>QY x l h
variable{ss:List Str}
theorem qab{ks:List Str}(p:ss.Perm ks)(h:sortedS ss=iD):ss=kN ks:=gM (p.trans (qY ks).symm) (WR ss h) (kz ks)
noncomputable def xw:List D->Option (List Str)
 |[]=>iw []
 |.str x::l=>(xw l).map (x::·)
 |_::_=>iB
def wR:D->Option (List Str)
 |.lst ds=>xw ds
 |.tup ds=>xw ds
 |_=>iB
noncomputable def qf9[DecidableEq κ](T:KP κ)(P:iK)(w:iL)(p:Z7)(ks:List κ):HO:=.ext λh=>SetK T P w h p ks
theorem qe4[DecidableEq κ]{T:KP κ}{P:iK}{ks:List κ}(x:SetK T P w h p ks):ObjOk P w H h p (qf9 T P w p ks):=
 ⟨x,let ⟨_,_,_,e,_⟩:=x; ⟨_,e⟩,λ_ _ a k=>a.at k⟩
structure KD{κ:Type}[DecidableEq κ](T:KP κ) where
 sqd:D->Option (List κ)
 ok:κ->Prop
 get:∀{K:Y9}{F:Hp}{dx:D}{ss:List κ},sqd dx=iw ss->∃ds,wE dx=.ok ds/\∀{vs:List V}{us:List iC},IsL K F vs ds->Vals vs us->us.length=ss.length/\(∀(i:Nat)(v:iC),us[i]?=iw v->∃x,ss[i]?=iw x/\∀p w,(T.kd p w).is x v=iD)/\∀x∈ss,ok x
theorem qac(a:IsL K F vs ds)(l:Vals vs us)(e:xw ds=iw ss):StrsAre us ss/\∀x∈ss,x.length<=Z8:=by
 induction ds generalizing vs us ss with
 |nil=>cases a;cases l;cases e;exact⟨.nil,λx h=>nomatch h⟩
 | cons d ds j=>
  cases a with
  | cons i a=>
   cases l with
   | cons r l=>
    cases d with
    |str x=>
     obtain⟨sl,q,rfl⟩:=aP.mp (show(xw ds).map (x::·)=iw ss from e);cases i with
     |str hz=>obtain⟨t,rfl⟩:=r;obtain⟨i1,i2⟩:=j a l q;exact⟨.cons x t i1,λy k=>(ac.mp k).elim (λz=>z ▸ hz) (i2 y)⟩
    |_=>cases e
section
variable{e:Z4}{fa:qV}
theorem Vw:∀(l ks:List Str){x:Str},x∈l.foldl uU ks->x∈ks\/x∈l
 |[],ks,x,h=>.inl h
 | y::l,ks,x,h=>by
  rcases Vw l (uU ks y) h with q|q
  .unfold uU at q;split at q;·exact .inl q
   .rcases bf.mp q with q|q;·exact .inl q
    .exact .inr (by rw[aN.mp q];exact au ..)
  .exact .inr (ae _ q)
theorem YD(e:xw ds=iw ss)(l:IsL K F vs ds)(d:Vals vs us):us.length=ss.length/\(∀(i:Nat)(v:iC),us[i]?=iw v->∃x,ss[i]?=iw x/\∀p w,(KpS.kd p w).is x v=iD)/\∀x∈ss,x.length<=Z8:=by obtain⟨st,k⟩:=qac l d e;refine⟨st.length,λi v h=>?_,k⟩;obtain⟨y,t,e1,a⟩:=st.item i v h;refine⟨y,a,λp w=>?_⟩;rw[e1];show fQ y (.str y t)=iD;simp[fQ]
def KdS:KD KpS where
 sqd:=wR
 ok:=λy=>y.length<=Z8
 get:=λ{K F dx ss} e=>by
  cases dx with
  |lst ds=>exact⟨ds,rfl,YD e⟩
  |tup ds=>exact⟨ds,rfl,YD e⟩
  |_=>cases e
theorem qdP[DecidableEq κ]{T:KP κ}(U:KD T)(E:C.K=X.K)(D:X.calm=iD):wG X (.type "set") (λxs H Q=>∃x F dx ss,xs=[x]/\Same F H/\TopIs C.K F H x dx/\U.sqd dx=iw ss/\ss.length<4000/\((∀y∈ss,U.ok y)->∀p,H p=iB->Q (.ref p) (upd H p (qf9 T X.prog X.w p (ss.foldl yM []))))):=by
 intro Z9 s σ H xs us Q I r h;obtain⟨x,F,dx,ss,rfl,g,t,es,hl,q⟩:=h;obtain⟨u,rfl,m⟩:=uO r;obtain⟨ds,e,hg⟩:=U.get (K:=C.K) (F:=F) es;obtain⟨a,sk,vs,rfl,hq,z⟩:=Yt g t e;cases m;rw[E]at hq;obtain⟨its,o,n,j,l,c,B,hd,hz⟩:=Vn I hq;obtain⟨d,hi,A⟩:=hg z j;refine GS (T:=T) (λA1 G P hA k=>?_) λh' tk S kp=>⟨.ref s.heap.objs.size,_,I.laid (t':=tk) kp (aq _) (qe4 S),rfl,q A _ (I.hok.fresh (aq _))⟩
 exact qkn (sk:=sk) (items:=its.toArray) (hA.trans (I.ok.hd D)) (GQ (af _ rfl)) (.of (aa _ l) hd c) (by simp[d]) (λi v e=>(hi i v (by simpa using e)).imp λx h=>⟨h.1,h.2 _ _⟩) (by rw[aj,d];unfold l7;lia) (ax (aw l)) λh' tk S kp=>k h' tk S λb o f=>kp b o (ax (aw f)) (aa _ f)
theorem Vx:∀{us:List iC}{ss:List Str},StrsAre us ss->Vals (ss.map V.str) us
 |_,_,.nil=>.nil
 |_,_,.cons y t h=>.cons ⟨t,rfl⟩ (Vx h)
theorem qad(c:X.calm=iD):wG X (.builtin "sorted") (λxs H Q=>∃a ks,xs=[.ref a]/\H a=iw (qf9 KpS X.prog X.w a ks)/\ks.length<64/\∀p,H p=iB->Q (.ref p) (upd H p (.lst ((kN ks).map V.str)))):=by
 intro Z9 s σ H xs us Q I r h;obtain⟨a,ks,rfl,f,j,q⟩:=h;obtain⟨u,rfl,y⟩:=uO r;cases y;have S:SetK KpS X.prog X.w s.heap a ks:=(I.hok a _ f).1;refine Zd (I.ok.hd c) S j λh1 h' b tk vs e ss k1 k2 hp st pm so=>?_;rw[qab pm so]at st;have d:Inv X Z9 σ H { s with heap:=h1,drawn:=b,toks:=tk }:=qko I k1;have hz:(kN ks).length<=Z8:=by
  rw[(qY ks).length_eq,iM]
  lia
 refine⟨.ref h1.objs.size,_,d.laid (t':=tk) (o:=.lst ((kN ks).map V.str)) k2 (aq _) ⟨by rw[ah];exact hz,vs.toList,e,Vx st,by simpa[lg]using hp⟩,rfl,q _ (d.hok.fresh (aq _))⟩
theorem qe5[DecidableEq κ]{T:KP κ}:wG X (.builtin "len") (λxs H Q=>∃a ks,xs=[.ref a]/\H a=iw (qf9 T X.prog X.w a ks)/\Q (.int ks.length) H):=by intro Z9 s σ H xs us Q I r h;obtain⟨a,ks,rfl,f,q⟩:=h;obtain⟨u,rfl,y⟩:=uO r;cases y;obtain⟨es,ep,t,l,d⟩:SetK T X.prog X.w s.heap a ks:=(I.hok a _ f).1;have hb:=d.bd;refine call_len_set l ⟨rfl,rfl,rfl⟩ rfl d.fits (by unfold l7 at hb;lia) ?_;exact⟨.int ks.length,H,I.tok _,⟨_,by rw[d.size]⟩,q⟩
theorem xx{m:Mo}{f:qV}{Q R:VK}(h:tE C own m f σ H Q)(i:∀v H1,Q v H1->R v H1):tE C own m f σ H R:=by
 obtain⟨F,ρ,r,po⟩:=h;refine⟨F,ρ,r,?_⟩;cases q:f ρ with
 |ok p=>rw[q]at po;obtain⟨d,ρ1⟩:=p;exact λv F1 H1 a b c=>i _ _ (po v F1 H1 a b c)
 |exc c ρ1=>rw[q]at po;exact po
 |bad=>rw[q]at po;exact po.elim
def jU(d:D):Out D:=match wR d with
 |some ss=>if ss.length<64 then .ok (.lst ((kN (ss.foldl uU [])).map D.str))else .bad
 |none=>.bad
def gN(d:D):Out D:=match wR d with
 |some ss=>if ss.length<4000 then .ok (.int (ss.foldl uU []).length)else .bad
 |none=>.bad
theorem JP:∀{ss:List Str},(∀x∈ss,x.length<=Z8)->IsL K F (ss.map V.str) (ss.map D.str)
 |[],_=>.nil
 |x::l,h=>.cons (.str (h x (au ..))) (JP λy k=>h y (ae _ k))
theorem uI{p p2 pos2:Pos}(A:C.K=X.K)(j:X.calm=iD)(hg:Gl X "sorted")(o:X.mg "sorted"=iB)(v:iJ "sorted"=iw (.builtin "sorted"))(g:Gl X "set")(d:X.mg "set"=iB)(c:iJ "set"=iw (.type "set"))(r:PE X e (tE C own ma fa))(i:iI [e] X.env=[(iE,Z0 e X.env)]:=by exact qJ rfl)(b:iI [.Call (.Name "set" p2) [e] [] pos2] X.env=[(iE,Z0 (.Call (.Name "set" p2) [e] [] pos2) X.env)]:=by exact qJ rfl) :
  PE X (.Call (.Name "sorted" p) [.Call (.Name "set" p2) [e] [] pos2] [] pos) (tE C own .fr (d1 jU fa)):=by
 refine jy (yA (qad j) hg o v (qP (kX (qdP KdS A j) g d c (qP r jC i) (by decide) (by decide) (by rw[i];rfl) rfl) jC b) (by decide) (by decide) (by rw[b];rfl) rfl) λσ H Q h=>?_;refine xx (gm (ma:=ma) h) λx H1 k=>?_;obtain⟨E,F,dx,ex,s,m,po⟩:=k;cases ex;unfold jU at po;cases es:wR dx with
 |none=>rw[es]at po;exact po.elim
 | some ss=>
  rw[es]at po;by_cases hl:ss.length<64
  .have po:PoV C .fr F H1 (if ss.length<64 then .ok (.lst ((kN (ss.foldl uU [])).map D.str))else .bad) Q:=po;rw[Aa hl,<-YB]at po;refine⟨x,F,dx,ss,rfl,s,m,es,by lia,λn q hq=>⟨q,_,rfl,qo,?_,λl f=>?_⟩⟩
   .have:=wN ss [];rw[aR]at this
    lia
   .obtain⟨s1,B,f1⟩:=jL (u:=qf9 KpS X.prog X.w q (ss.foldl yM [])) s hq;obtain⟨s2,c2,f2⟩:=jL (u:=.lst ((kN (ss.foldl yM [])).map V.str)) s1 f;have t:H1 l=none:=by
     by_cases z:l=q;·rw[z]at f;rw[qo]at f;cases f
     .rwa [qv z]at f
    refine po _ _ _ s2 (B.trans' c2) ⟨l,rfl,t,f2,_,qo,JP λy a=>n y ?_⟩;rw[YB]at a;rcases Vw ss [] ((qY _).mem_iff.mp a)with z|z;·cases z
    .exact z
  .have po:PoV C .fr F H1 (if ss.length<64 then .ok (.lst ((kN (ss.foldl uU [])).map D.str))else .bad) Q:=po;rw[Ab hl]at po;exact po.elim
noncomputable def qga[DecidableEq κ]{T:KP κ}(U:KD T)(add:List κ->κ->List κ)(d:D):Out D:=match U.sqd d with
 |some ss=>if ss.length<4000 then .ok (.int (ss.foldl add []).length)else .bad
 |none=>.bad
theorem QZ[DecidableEq κ]{T:KP κ}(U:KD T){p p2 pos2:Pos}(l:C.K=X.K)(i:X.calm=iD)(hg:Gl X "len")(m:X.mg "len"=iB)(v:iJ "len"=iw (.builtin "len"))(g:Gl X "set")(d:X.mg "set"=iB)(c:iJ "set"=iw (.type "set"))(j:PE X e (tE C own ma fa))(a:iI [e] X.env=[(iE,Z0 e X.env)]:=by exact qJ rfl)(b:iI [.Call (.Name "set" p2) [e] [] pos2] X.env=[(iE,Z0 (.Call (.Name "set" p2) [e] [] pos2) X.env)]:=by exact qJ rfl) :
  PE X (.Call (.Name "len" p) [.Call (.Name "set" p2) [e] [] pos2] [] pos) (tE C own .sh (d1 (qga U yM) fa)):=by
 refine jy (yA (qe5 (T:=T)) hg m v (qP (kX (qdP U l i) g d c (qP j jC a) (by decide) (by decide) (by rw[a];rfl) rfl) jC b) (by decide) (by decide) (by rw[b];rfl) rfl) λσ H Q h=>?_;refine xx (gm (ma:=ma) h) λx H1 z=>?_;obtain⟨n,F,dx,ex,t,f,po⟩:=z;cases ex;unfold qga at po;cases es:U.sqd dx with
 |none=>rw[es]at po;exact po.elim
 |some ss=>
  rw[es]at po;have po:PoV C .sh F H1 (if ss.length<4000 then .ok (.int (ss.foldl yM []).length)else .bad) Q:=po;by_cases hl:ss.length<4000;·rw[Aa hl]at po;refine⟨x,F,dx,ss,rfl,t,f,es,hl,λy q hq=>⟨q,_,rfl,qo,?_⟩⟩;obtain⟨s1,k,f1⟩:=jL (u:=qf9 T X.prog X.w q (ss.foldl yM [])) t hq;exact po _ _ _ s1 k (.int _)
  .rw[Ab hl]at po;exact po.elim
theorem qae{p p2 pos2:Pos}(l:C.K=X.K)(f:X.calm=iD)(hg:Gl X "len")(m:X.mg "len"=iB)(v:iJ "len"=iw (.builtin "len"))(g:Gl X "set")(h:X.mg "set"=iB)(c:iJ "set"=iw (.type "set"))(i:PE X e (tE C own ma fa))(a:iI [e] X.env=[(iE,Z0 e X.env)]:=by exact qJ rfl)(b:iI [.Call (.Name "set" p2) [e] [] pos2] X.env=[(iE,Z0 (.Call (.Name "set" p2) [e] [] pos2) X.env)]:=by exact qJ rfl) :
  PE X (.Call (.Name "len" p) [.Call (.Name "set" p2) [e] [] pos2] [] pos) (tE C own .sh (d1 gN fa)):=by
 rw[show gN=qga KdS yM by rw[YB];funext d;have q:KdS.sqd d=wR d:=rfl;unfold gN qga;rw[q];cases wR d <;> rfl];exact QZ KdS l f hg m v g h c i a b
end
variable{β:Type}
@[simp] theorem jR{a:α}{k:α->Out β}:(Out.ok a).bind k=k a:=rfl
@[simp] theorem qjN{c:Str}{o:Sl}{k:α->Out β}:(Out.exc c o:Out α).bind k=.exc c o:=rfl
@[simp] theorem qjO{k:α->Out β}:(Out.bad:Out α).bind k=.bad:=rfl
@[simp] theorem qaf{a:α}:(Out.ok a).plain=.ok a:=rfl
@[simp] theorem qjP:(Out.bad:Out α).plain=.bad:=rfl
variable{c:Prop}
@[simp] theorem qjQ[Decidable c]{a b:Out α}{k:α->Out β}:(if c then a else b).bind k=if c then a.bind k else b.bind k:=by split <;> rfl
@[simp] theorem qjR[Decidable c]{a b:Out α}:(if c then a else b).plain=if c then a.plain else b.plain:=by split <;> rfl
noncomputable def qcK(d:D)(A B:Out α):Out α:=match d with
 |.bl b=>if b=iD then A else B
 |_=>.bad
@[simp] theorem qih{A B:Out α}:qcK (.bl b) A B=if b=iD then A else B:=rfl
noncomputable def qii(p:D×Sl):Out (Bool×Sl):=match p.1 with
 |.bl b=>.ok (b,p.2)
 |_=>.bad
variable{ρ:Sl}
@[simp] theorem qi8:qii (.bl b,ρ)=.ok (b,ρ):=rfl
def qag(ms:List PM):Out (Fl×Sl)->Out (D×List D)
 |.ok (.nx,ρ)=>.ok (.non,jJ ρ 0 ms)
 |.ok (.rt d,ρ)=>.ok (d,jJ ρ 0 ms)
 |.ok _=>.bad
 |.exc c ρ=>.exc c ((jJ ρ 0 ms).map iw)
 |.bad=>.bad
variable{ms:List PM}
theorem qu{N:List Str}{f:qS}:jF N ms f ds=qag ms (f (qx N ds)):=by unfold jF qag;rfl
@[simp] theorem qjS:qag ms (.ok (.rt d,ρ))=.ok (d,jJ ρ 0 ms):=rfl
@[simp] theorem qjT:qag ms (.ok (.nx,ρ))=.ok (.non,jJ ρ 0 ms):=rfl
@[simp] theorem qi9{c:Str}:qag ms (.exc c ρ)=.exc c ((jJ ρ 0 ms).map iw):=rfl
@[simp] theorem qja[Decidable c]{a b:Out (Fl×Sl)}:qag ms (if c then a else b)=if c then qag ms a else qag ms b:=by split <;> rfl
def Ze(as:List AK)(ρ:Sl):Out (D×List D)->Va
 |.ok q=>.ok (q.1,zy as q.2 ρ)
 |.exc c o=>.exc c (zy as (o.map (·.getD .non)) ρ)
 |.bad=>.bad
variable{as:List AK}
@[simp] theorem qcL{q:D×List D}:Ze as ρ (.ok q)=.ok (q.1,zy as q.2 ρ):=rfl
@[simp] theorem qhi{c:Str}{o:Sl}:Ze as ρ (.exc c o)=.exc c (zy as (o.map (·.getD .non)) ρ):=rfl
@[simp] theorem qhj[Decidable c]{a b:Out (D×List D)}:Ze as ρ (if c then a else b)=if c then Ze as ρ a else Ze as ρ b:=by split <;> rfl
variable{ρ:Sl}
@[simp] theorem yo:qe i ρ=match ρ[i]? with|some (iw d)=>.ok (d,ρ)|_=>.bad:=rfl
@[simp] theorem qkp:dC d ρ=.ok (d,ρ):=rfl
variable{gg:D->Sl->Out Sl}
section
variable{g g':D->D->Out D}{g1:D->Out D}{fa fb fc f:qV}{ft fu:yl}{fr:vN}{fs ft1:qS}{fi:vN}{G:ju}
@[simp] theorem vY:d1 g1 fa ρ=(fa ρ).bind λp=>(g1 p.1).plain.bind λd=>.ok (d,p.2):=rfl
@[simp] theorem qcM:d2 g fa fb ρ=(fa ρ).bind λp=>(fb p.2).bind λq=>(g p.1 q.1).plain.bind λd=>.ok (d,q.2):=rfl
@[simp] theorem qjb:vU f ρ=(f ρ).bind λp=>(ZD p.1).bind λb=>.ok (b,p.2):=rfl
@[simp] theorem YE:qO f ρ=(f ρ).bind qii:=rfl
@[simp] theorem qjc:yE ft ρ=(ft ρ).bind λp=>.ok (!p.1,p.2):=rfl
@[simp] theorem qij:qi4 f ρ=(qO f ρ).bind λp=>.ok (.bl (!p.1),p.2):=rfl
@[simp] theorem qjd:qgX ft fu ρ=(ft ρ).bind λp=>if p.1=iD then fu p.2 else .ok (iE,p.2):=rfl
@[simp] theorem qjU:dOr ft fu ρ=(ft ρ).bind λp=>if p.1=iD then .ok (iD,p.2)else fu p.2:=rfl
set_option tactic.hygienic true in
@[simp] theorem qik:WE fa fb ρ=(fa ρ).bind λp=>qcK p.1 (fb p.2) (.ok (.bl iE,p.2)):=by
 unfold WE;cases fa ρ with
 |ok p=>
  obtain⟨d,r⟩:=p;cases d <;> try rfl
  rename_i b;cases b <;> rfl
 |exc c o=>rfl
 |bad=>rfl
set_option tactic.hygienic true in
@[simp] theorem qje:qia fa fb ρ=(fa ρ).bind λp=>qcK p.1 (.ok (.bl iD,p.2)) (fb p.2):=by
 unfold qia;cases fa ρ with
 |ok p=>
  obtain⟨d,r⟩:=p;cases d <;> try rfl
  rename_i b;cases b <;> rfl
 |exc c o=>rfl
 |bad=>rfl
@[simp] theorem qjV:dIf ft fa fb ρ=(ft ρ).bind λp=>if p.1=iD then fa p.2 else fb p.2:=rfl
set_option tactic.hygienic true in
@[simp] theorem qhk:yF g g' fa fb fc ρ=(fa ρ).bind λp=>(fb p.2).bind λq=>(g p.1 q.1).plain.bind λz=>qcK z ((fc q.2).bind λr=>(g' q.1 r.1).plain.bind λd=>.ok (d,r.2)) (.ok (.bl iE,q.2)):=by
 unfold yF;congr 1;funext p;congr 1;funext q;congr 1;funext z;cases z <;> try rfl
 rename_i b;cases b <;> rfl
@[simp] theorem WS:qA ρ=.ok ([],ρ):=rfl
@[simp] theorem JQ:qd fa fr ρ=(fa ρ).bind λp=>(fr p.2).bind λq=>.ok (p.1::q.1,q.2):=rfl
@[simp] theorem qil:jZ fr ρ=(fr ρ).bind λq=>.ok (D.non::q.1,q.2):=rfl
@[simp] theorem WT:xm fr ρ=(fr ρ).bind λp=>if p.1.length<=Z8 then .ok (.tup p.1,p.2)else .bad:=rfl
@[simp] theorem qjf:gk fr ρ=(fr ρ).bind λp=>if p.1.length<=Z8 then .ok (.lst p.1,p.2)else .bad:=rfl
@[simp] theorem qcN:qW ρ=.ok (.nx,ρ):=rfl
@[simp] theorem JR:qG fs ft1 ρ=(fs ρ).bind λp=>match p.1 with|.nx=>ft1 p.2|_=>.ok p:=by
 show _=_;unfold qG;cases fs ρ with
 |ok p=>obtain⟨fl,r⟩:=p;cases fl <;> rfl
 |exc c o=>rfl
 |bad=>rfl
@[simp] theorem qdQ:sIf ft fs ft1 ρ=(ft ρ).bind λp=>if p.1=iD then fs p.2 else ft1 p.2:=rfl
@[simp] theorem qim:jY f ρ=(f ρ).bind λp=>.ok (.nx,p.2):=rfl
@[simp] theorem wS:ji f ρ=(f ρ).bind λp=>.ok (.rt p.1,p.2):=rfl
@[simp] theorem xy:jA i f ρ=(f ρ).bind λp=>if i<p.2.length then .ok (.nx,p.2.set i (iw p.1))else .bad:=rfl
@[simp] theorem qcO:qt as G fr ρ=(fr ρ).bind λp=>match kx as p.1 p.2 with|some ds=>Ze as p.2 (G ds)|none=>.bad:=rfl
@[simp] theorem qjg:qkl f ρ=(f ρ).bind λp=>(wE p.1).bind λds=>.ok (ds,p.2):=rfl
@[simp] theorem qe6:jv f ρ=(f ρ).bind λp=>(jm p.1).bind λds=>.ok (ds,p.2):=rfl
@[simp] theorem qhl:gNm i d ρ=if i < ρ.length then .ok (ρ.set i (iw d))else .bad:=rfl
@[simp] theorem xz:JE fi gg fs ρ=(fi ρ).bind λp=>kL gg fs p.1 p.2:=rfl
@[simp] theorem qjh:qg6 f gg ρ=(f ρ).bind λp=>match gg p.1 p.2 with|.ok ρ'=>.ok (.nx,ρ')|_=>.bad:=rfl
@[simp] theorem qji{gg:List D->D->Out (List D)}:xP i gg f ρ=if yK ρ[i]?=iD then(f ρ).bind λp=>(match p.2[i]? with|some (iw (.lst xs))=>(match gg xs p.1 with|.ok ys=>.ok (.non,p.2.set i (iw (.lst ys)))|_=>.bad)|_=>.bad)else .bad:=rfl
@[simp] theorem qjW:ftT ρ=.ok (iD,ρ):=rfl
end
def qin(i j:Int):Prop:=(0<=j/\j<=64)/\-4611686018427387904<i/\i<4611686018427387904
instance:∀i j,Decidable (qin i j):=λi j=>inferInstanceAs (Decidable (_/\_))
variable{X:Cx}{C:Ct}
section
theorem qhm:OpR X (i8 .Pow) (rI qin λi j=>.int (i ^ j.toNat)):=opI λi j _ _ _ _ _ d q=>by obtain⟨⟨a,h1⟩,h2,g⟩:=d;exact pow_int_small a (by omega) (by omega) q
def qjj:D->D->Out D:=Qy λi j=>if qin i j then .ok (.int (i ^ j.toNat))else .bad
theorem qhn:OpD X C .sh (i8 .Pow) qjj:=Gj qhm λ_ _ _=>.int _
end
def qah(sep:Str):D->Out D
 |.lst ds=>match xw ds with
  |some ss=>if (ss.map (·.length)).sum+ss.length * sep.length<=16777216/\(fV sep ss).length<=Z8 then .ok (.str (fV sep ss))else .bad
  |none=>.bad
 |_=>.bad
variable{own:List Nat}{e:Z4}{m:Mo}
section
variable{fe:qV}{apos cpos:Pos}{sep:Str}
theorem qe7:MtR X "str.join" (λx vs H Q=>∃(sep:Str)(a:Z7)(xs:List V)(ss:List Str),x=.str sep/\vs=[.ref a]/\SqL X.K H a xs/\(∀us,Vals xs us->StrsAre us ss)/\(ss.map (·.length)).sum+ss.length * sep.length<=16777216/\Q (.str (fV sep ss)) H):=by intro Z9 s σ H x vs v us Q I d c h;obtain⟨sep,a,xs,ss,rfl,rfl,hq,hb,hz,q⟩:=h;obtain⟨t,rfl⟩:=d;obtain⟨u,rfl,y⟩:=c.one;cases y;obtain⟨its,r,pl,_⟩:=I.list hq;obtain⟨o,n,l,e,hd,b⟩:=pl;exact join_list ⟨o,l,e,n,b⟩ (by simpa using hb its r) hz λt' k=>⟨.str (fV sep ss),H,I.tok _,⟨_,rfl⟩,q⟩
set_option tactic.hygienic true in
theorem qe8{k c2}(y:C.K=X.K)(u:PE X e (tE C own m fe))(f:iY (.Constant (.str sep) k c2) "join" X.env (Z0 (.Constant (.str sep) k c2) X.env)=Z0 (.Constant (.str sep) k c2) X.env:=by rfl)
  (w:((j0 cpos (iI [e] X.env)).all (λx=>!x.1)&&(lB cpos (j8 [] X.env)).all (λx=>x.1.isSome)
   && decide ([e].length+([]:List lr).length+(if ([]:List lr).isEmpty then 0 else 1)<30))=true:=by exact yC rfl)
  (b:(apos.endLine == cpos.line)=true:=by rfl) (hs:iI [e] X.env=[(iE,Z0 e X.env)]:=by exact qJ rfl) :
  PE X (.Call (.Attribute (.Constant (.str sep) k c2) "join" apos) [e] [] cpos) (tE C own .sh (d1 (qah sep) fe)):=by
 refine jy (qb7 PySem.F.plainAttrs_str PySem.F.slot_str_join PySem.F.type_str_join qe7 qdA (qP u jC hs) f w b hs rfl) λσ H Q h=>?_;refine⟨rfl,?_⟩;obtain⟨F,ρ,o,h⟩:=XR (ma:=m) h;refine⟨F,ρ,o,?_⟩;cases q:fe ρ with
 | ok p=>
  rw[q]at h;obtain⟨d,ρ1⟩:=p;intro v F1 H1 g k j;obtain⟨z,dx,s,n,po⟩:=h v F1 H1 g k j;cases dx <;> try exact po.elim
  rename_i ds;unfold qah at po;cases i:xw ds with
  |none=>simp only[i]at po;exact po.elim
  | some ss=>
   simp only[i]at po;by_cases hz:(ss.map (·.length)).sum+ss.length * sep.length<=16777216/\(fV sep ss).length<=Z8
   .rw[Aa hz]at po;obtain⟨a,vs,rfl,hq,t⟩:=n.lst s;have l:SqL X.K H1 a vs:=by rw[<-y];exact hq
    exact⟨sep,a,vs,ss,rfl,rfl,l,λus r=>(qac t r i).1,hz.1,po _ z H1 s .refl (.str hz.2)⟩
   .rw[Ab hz]at po;exact po.elim
 |exc c=>rw[q]at h;exact h
 |bad=>rw[q]at h;exact h.elim
end
def dM(k:D->Bool)(g:D->D->Out D)(fo fa:qV):qV:=λρ=>(fo ρ).bind λp=>if k p.1 then(fa p.2).bind λq=>(g p.1 q.1).plain.bind λd=>.ok (d,q.2)else .bad
variable{ma mb:Mo}{pos:Pos}{σ:St}{F H:Hp}{Q:VK}
section
variable{a b:Z4}{fa fb:qV}
theorem Po.imp{r:Va}{R:VK}(h:Po C own m σ F H r Q)(i:∀v H',Q v H'->R v H'):Po C own m σ F H r R:=by
 cases r with
 |ok p=>exact λv F' H' a c mo=>i v H' (h v F' H' a c mo)
 |exc x=>exact h
 |bad=>exact h.elim
theorem qe9{k:D->Bool}{g:D->D->Out D}(f:ma≠.any)(h:tE C own m (dM k g fa fb) σ H Q):tE C own ma fa σ H λx H1=>(∃F dx,Same F H1/\TopIs C.K F H1 x dx/\k dx=iD)/\tE C own mb fb σ H1 λy H2=>∃F dx j,Same F H2/\TopIs C.K F H2 x dx/\TopIs C.K F H2 y j/\PoV C m F H2 (g dx j) Q:=by
 obtain⟨F,ρ,p,h⟩:=h;refine⟨F,ρ,p,Po.bind h λv F1 H1 d ρ1 a n c h1=>?_⟩;cases i:k d with
 |false=>simp only[i]at h1;exact h1.elim
 |true=>simp only[i,if_true]at h1;exact⟨⟨F1,d,a.sub,c.top,i⟩,F1,ρ1,a,Po.bind h1 λw l H2 e ρ2 r c2 b h2=>⟨l,d,e,r.sub,(c.grow f c2 λx z=>(p.OA_there z).1).top,b.top,PoV.of r h2⟩⟩
def MtD(X:Cx)(C:Ct)(m:Mo)(id:String)(g:D->D->Out D):Prop:=
 MtR X id (λx vs H Q=>∃y F dx d,vs=[y]/\Same F H/\TopIs C.K F H x dx/\TopIs C.K F H y d/\PoV C m F H (g dx d) Q)
end
theorem qai{Z9:Pns}{s:iF}(I:Inv X Z9 σ H s)(f:Same F H){n:Nat}{e:D}:∀{vs:List V}{ds:List D}{us:List iC}{b:Bool},IsL X.K F vs ds->Vals vs us->QC n e ds=iw b ->us.map (ZC X F n e)=ds.map λd=>eqN n d e == iw iD
 |_,_,_,b,.nil,.nil,h=>rfl
 |_,_,_,b,.cons i t,.cons r rs,h=>by obtain⟨a,c,q,g,rfl⟩:=Vc h;rw[aD,aD,qai I f t rs g,Gs I f i r q,q];cases a <;> rfl
noncomputable def ZE:qS:=λ_=>.bad
section
variable{own':List Nat}{sts:List Z3}
theorem vg:PSs X sts (tSt C own own' ZE):=by refine⟨?_⟩;intro Z9 s σ H D I h;obtain⟨_,_,_,h⟩:=h;exact h.elim
end
theorem YF{xs:List V}{us:List iC}(r:Vals xs us):∀n:Nat,Vals (aS n xs).flatten (aS n us).flatten
 | 0=>.nil
 |n+1=>by rw[bX,bX,cJ,cJ];exact r.append (YF r n)
variable{K:Y9}
theorem qaj{vs:List V}{ds:List D}(r:IsL K F vs ds):∀n:Nat,IsL K F (aS n vs).flatten (aS n ds).flatten
 | 0=>.nil
 |n+1=>by rw[bX,bX,cJ,cJ];exact r.append (qaj r n)
theorem qak{α:Type}(l:List α):∀n:Nat,(aS n l).flatten.length=l.length * n
 | 0=>by simp
 |n+1=>by rw[bX,cJ,am,qak l n,Nat.mul_succ,Nat.add_comm]
noncomputable def qho:D->D->Out D
 |.lst ds,.int n=>if (0<=n/\n<=100000)/\ds.length * n.toNat<=1000000 then .ok (.lst (aS n.toNat ds).flatten)else .bad
 |_,_=>.bad
section
set_option tactic.hygienic true in
theorem qfa(z:C.K=X.K):OpD X C .fr (i8 .Mult) qho:=by
 intro Z9 s σ H x y v u Q I w q h;obtain⟨F,dx,A,g,m,ty,po⟩:=h;cases dx <;> try exact po.elim
 cases A <;> try exact po.elim
 rename_i ds n;unfold qho at po;by_cases hz:(0<=n/\n<=100000)/\ds.length * n.toNat<=1000000
 .simp only[Aa hz]at po;obtain⟨a,xs,rfl,p,i⟩:=m.lst g;obtain rfl:=ty.int;cases w;obtain⟨t,rfl⟩:=q;rw[z]at p;obtain⟨its,r,pl,_⟩:=I.list p;have c:its.length=ds.length:=by rw[<-r.length,i.length]
  obtain⟨⟨cls,d,data,sl⟩,k,l,j,hd,f⟩:=pl;simp only at j hd f;subst j f;have hq:H s.heap.objs.size=none:=I.hok.fresh (aq _);obtain⟨s2,c2,f2⟩:=jL (u:=.lst (aS n.toNat xs).flatten) g hq;have hw:(aS n.toNat xs).flatten.length<=Z8:=by rw[qak,i.length,iM];lia
  refine wpAny_binaryOp_repeat_ref (T := "list") (U := "int") (by decide) ⟨_,l,rfl⟩ (λs'=>typeIs_int s' n t) noFill_list_mul PySem.F.fills_int_mul PySem.F.slot_int_rmul repeat_list PySem.F.slot_int_index.lookup
   (lJ PySem.F.slot_int_rmul (typeIs_int s n t) PySem.F.entry_int_rmul (PySem.F.args_int_rmul_2 _ _) (lm_int_rmul_list_any n t a its.toArray k d sl)
    ⟨l,rfl,⟨_,l,rfl⟩,lJ PySem.F.slot_list_mul ⟨_,l,rfl⟩ PySem.F.entry_list_mul (PySem.F.args_list_mul_2 _ _)
     (lm_list_mul_any a its.toArray k d sl n t (by simp[Builtin.List.listFitsIndex];lia) (by rw[aj,c];lia) (by simp[cK,Z8];rw[c];lia))
     ⟨l,?_⟩⟩)
  refine⟨.ref s.heap.objs.size,_,I.laid (t':=s.toks) (o:=.lst (aS n.toNat xs).flatten) (λb o e=>aa _ e) (aq _) ⟨hw,(aS n.toNat its).flatten,0,YF r _,?_⟩,rfl,po _ _ _ s2 c2 ⟨_,rfl,hq,f2,_,qo,qaj i _⟩⟩;rw[listMul_foldl_if];exact af _ rfl
 .simp only[Ab hz]at po;exact po.elim
end
def qfb(i j:Int):Prop:=(-(2 ^ 62)<=i/\i<2 ^ 62)/\-(2 ^ 62)<=j/\j<2 ^ 62
instance:∀i j,Decidable (qfb i j):=λi j=>inferInstanceAs (Decidable (_/\_))
variable{lo:Int}
section
variable{a b tg:Z4}{fa fb:qV}
theorem qal:∀{xs:List V}{us:List iC},xs.length=us.length->(∀(j:Nat)(x:V)(u:iC),xs[j]?=iw x->us[j]?=iw u->RelV x u)->Vals xs us
 |[],[],_,_=>.nil
 |x::xs,u::us,hl,h=>.cons (h 0 x u rfl rfl) (qal (Nat.succ.inj hl) λj y w a b=>h (j+1) y w (by simpa using a) (by simpa using b))
 |[],_::_,hl,_=>nomatch hl
 |_::_,[],hl,_=>nomatch hl
noncomputable def qgb(p:Z7)(lo hi:Int):HO:=.ext λh=>∃t u v,IsRange h p lo hi 1 t u v
theorem qam{P:iK}{w:iL}{h:Z5}{p:Z7}{hi:Int}{t u v:Tok}(x:IsRange h p lo hi 1 t u v):ObjOk P w H h p (qgb p lo hi):=
 ⟨⟨t,u,v,x⟩,⟨_,x⟩,λ_ _ ⟨t,u,v,x⟩ k=>⟨t,u,v,k _ x⟩⟩
theorem qan:wG X (.type "range") (λxs H Q=>∃j:Int,xs=[.int j]/\∀p,H p=iB->Q (.ref p) (upd H p (qgb p 0 j))):=by intro Z9 s σ H xs us Q I r h;obtain⟨j,rfl,q⟩:=h;obtain⟨u,rfl,y⟩:=uO r;obtain⟨t,rfl⟩:=y;exact call_range_1 ⟨.ref s.heap.objs.size,_,I.laid (t':=s.toks+1+1) (λb o e=>aa _ e) (aq _) (qam (im ..)),rfl,q _ (I.hok.fresh (aq _))⟩
theorem YG(e:X.calm=iD):wG X (.type "list") (λxs H Q=>∃r lo hi,xs=[.ref r]/\H r=iw (qgb r lo hi)/\(qfb lo hi/\hi - lo<=1000000)/\∀p,H p=iB->Q (.ref p) (upd H p (.lst ((aK (hi - lo).toNat).map λk=>V.int (lo+(k:Nat)))))):=by
 intro Z9 s σ H xs us Q I r h;obtain⟨a,lo,hi,rfl,f,hz,q⟩:=h;obtain⟨u,rfl,y⟩:=uO r;cases y;obtain⟨t,u,v,d⟩:=(I.hok a _ f).1;have l:Builtin.Range.rangeSize lo hi 1=(((hi - lo).toNat:Nat):Int):=by rw[rangeSize_one];split <;> lia
 refine call_list_range (n:=(hi - lo).toNat) (I.ok.hd e) d (small_one hz.1.1.1 hz.1.1.2 hz.1.2.1 hz.1.2.2) l (by lia) λh' tk acc c k hp b=>?_;refine⟨.ref s.heap.objs.size,_,I.laid (t':=tk) (o:=.lst ((aK (hi - lo).toNat).map λk=>V.int (lo+(k:Nat)))) k (aq _) ⟨by rw[ah,bN,iM];lia,acc.toList,c,?_,by simpa using hp⟩,rfl,q _ (I.hok.fresh (aq _))⟩;refine qal (by rw[ah,bN,bm,b.1]) λj x w ex g=>?_;rw[aJ]at ex;obtain⟨k,i,rfl⟩:=aP.mp ex;obtain⟨D,rfl⟩:=aA.mp i;obtain⟨t,rfl⟩:=b.2 j w (by simpa using g);exact⟨t,by simp⟩
def uJ:D->Out D
 |.int j=>if qfb 0 j/\j - 0<=1000000 then .ok (.lst (QD 0 (j - 0).toNat))else .bad
 |_=>.bad
theorem WU:∀l:List Nat,IsL K F (l.map λk=>V.int (lo+(k:Nat))) (l.map λk=>D.int (lo+(k:Nat)))
 |[]=>.nil
 |k::l=>.cons (.int _) (WU l)
set_option tactic.hygienic true in
theorem Zf{p p2 pos2:Pos}(o:X.calm=iD)(hg:Gl X "list")(n:X.mg "list"=iB)(v:iJ "list"=iw (.type "list"))(g:Gl X "range")(d:X.mg "range"=iB)(c:iJ "range"=iw (.type "range"))(r:PE X e (tE C own ma fa))(a:iI [e] X.env=[(iE,Z0 e X.env)]:=by exact qJ rfl)(b:iI [.Call (.Name "range" p2) [e] [] pos2] X.env=[(iE,Z0 (.Call (.Name "range" p2) [e] [] pos2) X.env)]:=by exact qJ rfl) :
  PE X (.Call (.Name "list" p) [.Call (.Name "range" p2) [e] [] pos2] [] pos) (tE C own .fr (d1 uJ fa)):=by
 refine jy (kX (YG o) hg n v (qP (kX qan g d c (qP r jC a) (by decide) (by decide) (by rw[a];rfl) rfl) jC b) (by decide) (by decide) (by rw[b];rfl) rfl) λσ H Q h=>?_;refine xx (gm (ma:=ma) h) λx H1 i=>?_;obtain⟨y,F,dx,ex,s,m,po⟩:=i;cases ex;cases dx <;> try exact po.elim
 rename_i j;unfold uJ at po;by_cases hz:qfb 0 j/\j - 0<=1000000
 .simp only[Aa hz]at po;obtain rfl:=m.int;refine⟨j,rfl,λq hq=>⟨q,0,j,rfl,qo,hz,λl f=>?_⟩⟩;obtain⟨s1,w,f1⟩:=jL (u:=qgb q 0 j) s hq;obtain⟨s2,c2,f2⟩:=jL (u:=.lst ((aK (j - 0).toNat).map λk=>V.int (0+(k:Nat)))) s1 f;have t:H1 l=none:=by
   by_cases z:l=q;·rw[z]at f;rw[qo]at f;cases f
   .rwa [qv z]at f
  exact po _ _ _ s2 (w.trans' c2) ⟨l,rfl,t,f2,_,qo,WU _⟩
 .simp only[Ab hz]at po;exact po.elim
end
theorem qao:iJ "enumerate"=iw (.type "enumerate"):=by decide +kernel
noncomputable def JS(xs:List D):List D:=(xs.zipIdx).map λp=>.tup [.int (p.2:Nat),p.1]
def zF(f:qV):vN:=λρ=>(f ρ).bind λp=>match p.1 with
 |.lst xs=>.ok (JS xs,p.2)
 |_=>.bad
mutual
def qhp:Nat->Z4->Option D
 | 0,_=>iB
 | n+1,e=>match e with
  |.Constant c _ _=>match c with
   |.none=>iw .non
   |.bool b=>iw (.bl b)
   |.int i=>iw (.int i)
   |.str x=>if x.length<=Z8 then iw (.str x)else iB
   |_=>iB
  |.UnaryOp .USub (.Constant (.int i) _ _) _=>iw (.int (-i))
  |.List es _=>(qgc n es).bind λds=>if ds.length<=Z8 then iw (.lst ds)else iB
  |.Tuple es _ _=>(qgc n es).bind λds=>if ds.length<=Z8 then iw (.tup ds)else iB
  |_=>iB
def qgc:Nat->List Z4->Option (List D)
 |_,[]=>iw []
 | 0,_::_=>iB
 |n+1,e::es=>(qhp n e).bind λd=>(qgc n es).bind λds=>iw (d::ds)
end
theorem YH{α:Type}:∀l:List α,((l.map λ_=>AK.vl).all λa=>decide (a=.vl))=iD
 |[]=>rfl
 |_::l=>by rw[aD,cL,YH l];rfl
theorem qap{n:Nat}{e:Z4}{d:D}(h:qhp n e=iw d):WC e=true:=by
 cases n with
 |zero=>cases h
 |succ n=>cases e <;> first|rfl|(simp[qhp]at h)
section
variable{X:Cx}{C:Ct}{own:List Nat}
set_option tactic.hygienic true
mutual
theorem qhq:∀(n:Nat){e:Z4}{d:D},qhp n e=iw d->PE X e (tE C own .sh (dC d))
 | 0,_,_,h=>by cases h
 | n+1,e,d,h=>by
  unfold qhp at h;split at h
  .split at h;·cases h;exact QT
   .cases h;exact wI
   .cases h;exact qw
   .split at h;·rename_i hz;cases h;exact UW hz
    .cases h
   .cases h
  .cases h;exact jy (qgP qdK qw) λσ H Q h=>h
  .obtain⟨ds,h1,h2⟩:=cf.mp h;split at h2
   .rename_i hz;cases h2;have i:gk (λρ=>.ok (ds,ρ))=dC (.lst ds):=by funext ρ;unfold gk dC;rw[Out.oh,Aa hz]
    rw[<-i];exact wC (vb (JT n h1) (YH _)) (by decide)
   .cases h2
  .obtain⟨ds,h1,h2⟩:=cf.mp h;split at h2
   .rename_i hz;cases h2;have i:xm (λρ=>.ok (ds,ρ))=dC (.tup ds):=by funext ρ;unfold xm dC;rw[Out.oh,Aa hz]
    rw[<-i];exact ku (JT n h1) (YH _)
   .cases h2
  .cases h
theorem JT:∀(n:Nat){es:List Z4}{ds:List D},qgc n es=iw ds->PA X es (tAr C own (es.map λ_=>.vl) λρ=>.ok (ds,ρ))
 | 0,[],ds,h=>by cases h;exact ql
 |_+1,[],ds,h=>by cases h;exact ql
 | 0,_::_,ds,h=>by cases h
 |n+1,e::es,ds,h=>by unfold qgc at h;obtain⟨d,h1,h⟩:=cf.mp h;obtain⟨g,h2,h⟩:=cf.mp h;cases h;have i:qd (dC d) (λρ=>.ok (g,ρ))=λρ=>.ok (d::g,ρ):=rfl;rw[<-i];exact qc (qhq n h1) (JT n h2) (by decide) (jq (qap h1))
end
set_option tactic.hygienic false
theorem qaq{es:List Z4}{ds:List D}{pos:Pos}(n:Nat)(h:qgc n es=iw ds):PE X (.List es pos) (tE C own .fr (gk λρ=>.ok (ds,ρ))):=vb (JT n h) (YH _)
end
noncomputable def txI(i:Int):Str:=toString i
def CTx(i:Int):Prop:=i.natAbs.log2<1920/\(txI i).length<=Z8
instance:∀i,Decidable (CTx i):=λi=>inferInstanceAs (Decidable (_/\_))
end L2.D2
namespace PySem
open Builtin Builtin.Str
end PySem
namespace L2.D2
open PySem PySem.Spec PyProof.Rows
def qkq(x y:Str):Prop:=(y.length == 0)=iE/\(Txt.split x y).length<=Z8/\∀z∈Txt.split x y,z.length<=Z8
instance:∀x y,Decidable (qkq x y):=λx y=>inferInstanceAs (Decidable (_/\_))
inductive IntsAre:List iC->List Int->Prop
 |nil:IntsAre [] []
 |cons (y:Int) (t:Tok) {vs:List iC} {ys:List Int} (h:IntsAre vs ys):IntsAre (dU y t::vs) (y::ys)
theorem IntsAre.length:∀{vs:List iC}{ys:List Int},IntsAre vs ys->vs.length=ys.length
 |_,_,.nil=>rfl
 |_,_,.cons _ _ h=>congrArg (·+1) h.length
theorem IntsAre.item:∀{vs:List iC}{ys:List Int},IntsAre vs ys->∀(i:Nat)(v:iC),vs[i]?=iw v->∃y t,v=dU y t/\ys[i]?=iw y
 |_,_,.nil,i,v,e=>by simp at e
 |_,_,.cons y t h,0,v,e=>by simp at e;subst e;exact⟨y,t,rfl,rfl⟩
 |_,_,.cons y t h,i+1,v,e=>by obtain⟨z,t',e1,a⟩:=h.item i v (by simpa using e);exact⟨z,t',e1,by simpa using a⟩
noncomputable def zOf:iC->Int
 |.int i _=>i
 |_=>0
set_option tactic.hygienic true in
theorem Vy{x:Int}{v:iC}(h:e8 x v=iD):∃t,v=dU x t:=by
 cases v <;> first|(cases h;done)|skip
 rename_i i t;have:i=x:=by simpa[e8]using h
 subst this;exact⟨t,rfl⟩
noncomputable def Vz(ks:List Int)(x:Int):List Int:=if x∈ks then ks else ks++[x]
theorem qar:(yM:List Int->Int->List Int)=Vz:=by funext ks x;unfold yM Vz;congr
theorem qcP(ks:List Int)(x:Int):(Vz ks x).length<=ks.length+1:=by rw[<-qar];exact YA ks x
theorem qas(l ks:List Int):(l.foldl Vz ks).length<=ks.length+l.length:=by rw[<-qar];exact wN l ks
def KpZ:KP Int where
 kd:=PySem.intKind
 of:=zOf
 pb:=iE
 ofi:=λh=>let ⟨_,e⟩:=Vy h;by rw[e];rfl
 sc:=λh=>let ⟨_,e⟩:=Vy h;by rw[e];rfl
 pl:=λ_ h=>by cases h
noncomputable def yp:List D->Option (List Int)
 |[]=>iw []
 |.int x::l=>(yp l).map (x::·)
 |_::_=>iB
def Ja:D->Option (List Int)
 |.lst ds=>yp ds
 |.tup ds=>yp ds
 |_=>iB
variable{K:Y9}{F:Hp}{vs:List V}{us:List iC}{ds:List D}{ss:List Int}
theorem WV(a:IsL K F vs ds)(l:Vals vs us)(e:yp ds=iw ss):IntsAre us ss:=by
 induction ds generalizing vs us ss with
 |nil=>cases a;cases l;cases e;exact .nil
 | cons d ds j=>
  cases a with
  | cons i a=>
   cases l with
   |cons r l=>
    cases d with
    |int x=>obtain⟨sl,q,rfl⟩:=aP.mp (show(yp ds).map (x::·)=iw ss from e);cases i;obtain⟨t,rfl⟩:=r;exact .cons x t (j a l q)
    |_=>cases e
theorem YI(e:yp ds=iw ss)(l:IsL K F vs ds)(d:Vals vs us):us.length=ss.length/\(∀(i:Nat)(v:iC),us[i]?=iw v->∃x,ss[i]?=iw x/\∀p w,(KpZ.kd p w).is x v=iD)/\∀x∈ss,True:=by have st:=WV l d e;refine⟨st.length,λi v h=>?_,λ_ _=>trivial⟩;obtain⟨y,t,e1,a⟩:=st.item i v h;refine⟨y,a,λp w=>?_⟩;rw[e1];show e8 y (.int y t)=iD;simp[e8]
def KdZ:KD KpZ where
 sqd:=Ja
 ok:=λ_=>True
 get:=λ{K F dx ss} e=>by
  cases dx with
  |lst ds=>exact⟨ds,rfl,YI e⟩
  |tup ds=>exact⟨ds,rfl,YI e⟩
  |_=>cases e
def ko(d:D):Out D:=match Ja d with
 |some ss=>if ss.length<4000 then .ok (.int (ss.foldl Vz []).length)else .bad
 |none=>.bad
variable{X:Cx}{C:Ct}{own:List Nat}{e:Z4}{ma:Mo}{pos:Pos}
section
variable{fa:qV}
theorem Jb{p p2 pos2:Pos}(l:C.K=X.K)(f:X.calm=iD)(hg:Gl X "len")(m:X.mg "len"=iB)(v:iJ "len"=iw (.builtin "len"))(g:Gl X "set")(h:X.mg "set"=iB)(c:iJ "set"=iw (.type "set"))(i:PE X e (tE C own ma fa))(a:iI [e] X.env=[(iE,Z0 e X.env)]:=by exact qJ rfl)(b:iI [.Call (.Name "set" p2) [e] [] pos2] X.env=[(iE,Z0 (.Call (.Name "set" p2) [e] [] pos2) X.env)]:=by exact qJ rfl) :
  PE X (.Call (.Name "len" p) [.Call (.Name "set" p2) [e] [] pos2] [] pos) (tE C own .sh (d1 ko fa)):=by
 rw[show ko=qga KdZ yM by rw[qar];funext d;have q:KdZ.sqd d=Ja d:=rfl;unfold ko qga;rw[q];cases Ja d <;> rfl];exact QZ KdZ l f hg m v g h c i a b
end
noncomputable def wg(f:Str)(d:D):List (Str×D)->List (Str×D)
 |[]=>[(f,d)]
 |(g,x)::r=>if g=f then(g,d)::r else(g,x)::wg f d r
variable{v:V}{f:Str}{d:D}{H:Hp}{c:Z7}
section
theorem IsF.put(h:Is K F v d):∀{fv:List (Str×V)}{fs:List (Str×D)},IsF K F fv fs->IsF K F (QA f v fv) (wg f d fs)
 |_,_,.nil=>.cons h .nil
 |_,_,.cons (k:=k) q t=>by
  unfold QA wg;by_cases z:k=f;·rw[Aa z,Aa z];exact .cons h t
  .rw[Ab z,Ab z];exact .cons q (IsF.put h t)
theorem IsF.get:∀{fv:List (Str×V)}{fs:List (Str×D)},IsF K F fv fs->fs.lookup f=iw d->∃v,fv.lookup f=iw v/\Is K F v d
 |_,_,.nil,e=>by cases e
 |_,_,.cons (k:=k) q t,e=>by
  rw[bJ]at e ⊢;cases z:f == k with
  |true=>rw[z]at e;cases e;exact⟨_,rfl,q⟩
  |false=>rw[z]at e;exact IsF.get t e
theorem IsF.non:∀{fv:List (Str×V)}{fs:List (Str×D)},IsF K F fv fs->fs.lookup f=iB->fv.lookup f=iB
 |_,_,.nil,e=>rfl
 |_,_,.cons (k:=k) q t,e=>by
  rw[bJ]at e ⊢;cases z:f == k with
  |true=>rw[z]at e;cases e
  |false=>rw[z]at e;exact IsF.non t e
theorem IsF.length:∀{fv:List (Str×V)}{fs:List (Str×D)},IsF K F fv fs->fv.length=fs.length
 |_,_,.nil=>rfl
 |_,_,.cons _ t=>congrArg (·+1) t.length
theorem TopIs.ins{fs:List (Str×D)}(s:Same F H)(h:TopIs K F H v (.ins c fs)):∃a dx fv,v=.ref a/\H a=iw (.ins c dx fv)/\IsF K F fv fs:=by
 rcases h with h|⟨a,rfl,dx,fv,e,t⟩
 .cases h with
  |ins e t=>exact⟨_,_,_,rfl,s _ _ e,t⟩
 .exact⟨a,dx,fv,rfl,e,t⟩
end
noncomputable def JU(c:Z7)(f:Str):D->Out D
 |.ins k fs=>if k=c then(match fs.lookup f with|some d=>.ok d|none=>.bad)else .bad
 |_=>.bad
def uP(c:Z7)(i:Nat)(f:Str)(fe:qV):qS:=λρ=>(fe ρ).bind λp=>match p.2[i]? with
 |some (iw (.ins k fs))=>if k=c/\fs.length<1000 then .ok (.nx,p.2.set i (iw (.ins k (wg f p.1 fs))))else .bad
 |_=>.bad
variable{x:Str}{m mr:Mo}{p1 p2:Pos}{i j:Nat}{ms:List PM}{ps:List Str}{cv:Str->iC}
section
variable{mo:Mo}{o:Z4}{es:List Z4}{fa fe fo:qV}
theorem yN(p:C.K=X.K)(j:Cls X.K c)(n:NoAttr X.K c f)(i:PE X e (tE C own m fa))(hb:iY e f X.env (Z0 e X.env)=Z0 e X.env:=by rfl):PE X (.Attribute e f pos) (tE C own .sh (d1 (JU c f) fa)):=by
 refine jy (qdG i hb) λσ H Q h=>xx (XR (ma:=m) h) λx H1 b=>?_;obtain⟨F,dx,s,g,po⟩:=b;cases dx with
 | ins k fs=>
  replace po:PoV C .sh F H1 (if k=c then(match fs.lookup f with|some d=>.ok d|none=>.bad)else .bad) Q:=po;by_cases z:k=c
  .subst z;rw[Aa rfl]at po;cases q:fs.lookup f with
   |none=>rw[q]at po;exact po.elim
   |some d=>rw[q]at po;obtain⟨a,dx,fv,rfl,o,t⟩:=g.ins s;obtain⟨v,l,is⟩:=t.get q;exact⟨a,k,dx,fv,v,rfl,o,j,n,l,po v F H1 s .refl is⟩
  .rw[Ab z]at po;exact po.elim
 |_=>exact po.elim
theorem vh(I:C.K=X.K)(E:Cls X.K c)(w:NoAttr X.K c f)(hi:X.N[i]?=iw x)(s:Vis X.env.scope x)(l:i∈own)(B:PE X e (tE C own m fe))(y:m≠.any:=by decide)(hd:Dbg x:=by decide)(n:Cdk x:=by decide)(hs:lh e (iw (.Attribute (.Name x p1) f p2)) pos.line X.env=pure false:=by rfl):PS X (.Assign [.Attribute (.Name x p1) f p2] e pos) (tSt C own own (uP c i f fe)):=by
 refine xl (qdH (vB hi s hd n) (wC B y) hs) λD σ H ⟨F,ρ,p,h⟩=>⟨F,ρ,p,PoS.bindE h λv F1 H1 d ρ1 r L j h1=>?_⟩
 obtain⟨A,b⟩:=r.opn i l;obtain⟨a,e1,J,q⟩:=r.ow i A l b;simp only[b]at h1;cases A with
 |ins k fs=>
  by_cases z:k=c/\fs.length<1000;·simp only[Aa z]at h1;obtain⟨rfl,hl⟩:=z;obtain⟨dx,fv,G,t⟩:=q;obtain⟨g,o⟩:=r.write (u:=.ins k dx (QA f v fv)) (d:=.ins k (wg f d fs)) l e1 ⟨dx,_,qo,t.put j⟩;exact⟨_,e1,a,k,dx,fv,rfl,G,E,w,by rw[t.length];exact hl,h1 σ F1 _ ⟨g,o,λ_ z=>.inl z,λ_ _=>rfl⟩⟩
  .simp only[Ab z]at h1;exact h1.elim
 |_=>exact h1.elim
def WW(c:Z7)(G:ju)(fr:vN):qV:=λρ=>(fr ρ).bind λp=>match G (.ins c []::p.1)with
 |.ok (.non,q::_)=>.ok (q,p.2)
 |.exc x _=>.exc x p.2
 |_=>.bad
def YJ(P:iK)(w:iL)(K:Y9)(mg:Str->Option iC)(base:Z5)(cv:Str->iC)(k:Nat)(c:Z7)(x:Str)(ps:List Str)(ms:List PM)(mr:Mo)(G:ju):Prop:=
 ∃f fd,FnOk P w K mg base (CXk P w) k f fd ps (spD K cv ms mr G)/\Meth K c x f/\Binds K fd ps []
def qat(P:iK)(w:iL)(K:Y9)(mg:Str->Option iC)(base:Z5)(cv:Str->iC)(k:Nat)(c:Z7)(ps:List Str)(ms:List PM)(G:ju):Prop:=
 ∃f fd,FnOk P w K mg base (CXk P w) k f fd ps (spD K cv ms .sh G)/\Mk K c f/\Binds K fd ps []
noncomputable def qjk:List AK->Bool
 |[]=>iD
 |.vl::l=>qjk l
 |_::_=>iE
theorem qhr{K:Y9}{H0 F F' H H':Hp}{σ:St}(g:Same F F'):∀{as:List AK}{vs:List V}{ds:List D},qjk as=iD->ArgV K H0 F H σ as vs ds->ArgsIs K F' H' (as.map xo) vs ds/\yG (as.map xo) vs=[]
 |[],[],[],_,_=>⟨trivial,rfl⟩
 |.vl::as,v::vs,d::ds,h,a=>by have j:=qhr (H':=H') g (as:=as) h a.2;exact⟨⟨a.1.mono g,j.1⟩,j.2⟩
 |[],_::_,_,_,a=>a.elim
 |[],[],_::_,_,a=>a.elim
 |.vl::_,[],_,_,a=>a.elim
 |.vl::_,_::_,[],_,a=>a.elim
 |.sl _::_,_,_,h,_=>by cases h
 |.fr::_,_,_,h,_=>by cases h
theorem qjl{x:Z7}{q:D}{os:List D}(h:uR K F H (.io::ms) (.ref x::vs) (q::os)):F x=iB/\OwnIs K F H x q:=by obtain⟨⟨a,e,h1,h2⟩,_⟩:=h;cases e;exact⟨h1,h2⟩
theorem qau{as:List AK}{fr:vN}{k:Nat}{p:Pos}{G:ju}(MF:qat X.prog X.w X.K X.mg X.base cv j c ps ms G)(hr:Room k X.A)(hj:j+1<=k)(hx:kr (CXk X.prog X.w) X C.E)(hg:Gl X x)(hm:X.mg x=iw (.ref c))(ha:PA X (e::es) (tAr C own as fr))(O:C.cv=cv:=by rfl)(T:C.K=X.K:=by rfl)(J:ms=.io::as.map xo:=by rfl)(hv:qjk as=true:=by rfl)(L:∀i∈C.ox,i∈own:=by exact kZ rfl)(N:Dbg x:=by decide)(he:iI (e::es) X.env=(iE,Z0 e X.env)::iI es X.env:=by exact jq rfl)(I:(j0 pos (iI es X.env)).any (·.1)=false:=by exact uC rfl):PE X (.Call (.Name x p) (e::es) [] pos) (tE C own .fr (WW c G fr)):=by
 subst O;obtain⟨f,fd,F0,M,hb⟩:=MF;refine jy (qet M F0 (hr.mono hj) hg hm hb .nil hx ha N he I) λσ H Q ⟨F,ρ,U,h⟩=>⟨F,ρ,U,?_⟩
 unfold WW at h;cases B:fr ρ with
 |exc c=>rw[B]at h;exact h
 |bad=>rw[B]at h;exact h.elim
 | ok W=>
  rw[B]at h;obtain⟨ds,ρ1⟩:=W;intro vs F1 H1 r R av x dx a m ne;rw[bv];have P:H x=none:=by
   cases q:H x with
   |none=>rfl
   |some o=>exact absurd a (R.stay x (by rw[q];simp))
  have nF:∀{z:Z7},H1 z=iB->F1 z=none:=λ{z} hz=>r.sub.free hz;have ex:(upd (upd H1 dx (.own x)) x (.ins c dx [])) x=iw (.ins c dx []):=qo;have c2:Chg No F1 H1 F1 (upd (upd H1 dx (.own x)) x (.ins c dx [])):=⟨λb o g _=>by
    rw[qv (λz=>by rw[z,a]at g;cases g),qv (λz=>by rw[z,m]at g;cases g)];exact g,λb nb=>by
    by_cases z:b=x;·rw[z,ex];simp
    .rw[qv z];by_cases z2:b=dx;·rw[z2,qo];simp
     .rw[qv z2];exact nb,Same.refl _,λb hb=>.inl hb⟩
  have s2:Same F1 (upd (upd H1 dx (.own x)) x (.ins c dx [])):=λb o g=>by rw[qv (λz=>by rw[z,nF a]at g;cases g),qv (λz=>by rw[z,nF m]at g;cases g)];exact r.sub b o g
  obtain⟨ar,le⟩:=qhr (H':=upd (upd H1 dx (.own x)) x (.ins c dx [])) (Same.refl F1) hv av;have S:yG (PM.io::as.map xo) (V.ref x::vs)=[x]:=by show x::yG (as.map xo) vs=[x];rw[le]
  subst J;refine⟨F1,.ins c []::ds,s2,⟨⟨x,rfl,nF a,dx,[],ex,.nil⟩,by rw[<-T];exact ar⟩,by rw[S];simp,?_⟩;have n:∀{F' H':Hp},Chg (LA (PM.io::as.map xo) (V.ref x::vs)) F1 (upd (upd H1 dx (.own x)) x (.ins c dx [])) F' H'->Chg No F1 H1 F' H':=λ{F' H'} l=>by
   have l:Chg (λz=>z=x) F1 (upd (upd H1 dx (.own x)) x (.ins c dx [])) F' H':=l.mono λz hz=>by have hz:z∈yG (PM.io::as.map xo) (V.ref x::vs):=hz;rw[S]at hz;simpa using hz
   exact c2.trans l λz hz=>.inr (by rw[hz];exact a)
  have h:Po C own .fr σ F H (match G (.ins c []::ds)with|.ok (.non,q::_)=>.ok (q,ρ1)|.exc x _=>.exc x ρ1|_=>.bad) Q:=h;cases u:G (.ins c []::ds)with
  |bad=>rw[u]at h;exact h.elim
  |exc y o=>rw[u]at h;exact λF' H' t l _=>h F' H' t ((r.grow (n l) t).ioIs L) (R.trans' (n l).ofNo)
  | ok Y=>
   rw[u]at h;obtain⟨d,s⟩:=Y;cases d with
   | non=>
    cases s with
    |nil=>exact h.elim
    |cons q os=>
     intro v F' H' t l Z mo;have D:v=.non:=by have mo:Is _ F' v .non:=mo;cases mo;rfl
     obtain⟨fx,ow⟩:=qjl Z;refine⟨D,h (.ref x) F' H' (r.grow (n l) t) (R.trans' (n l).ofNo) ⟨x,rfl,P,fx,?_⟩⟩;rw[T];exact ow
   |_=>exact h.elim
def gO(c:Z7)(n:Str)(G:ju)(fo:qV):qV:=λρ=>(fo ρ).bind λp=>match p.1 with
 |.ins k fs=>if k=c/\(fs.lookup n).isNone=iD then(match G [.ins k fs]with
  |.ok q=>.ok (q.1,p.2)
  |.exc x _=>.exc x p.2
  |.bad=>.bad)else .bad
 |_=>.bad
theorem YK{k:Nat}{n:Str}{apos:Pos}{G:ju}{pl:Sem Bool}(P:Cls X.K c)(R:YJ X.prog X.w X.K X.mg X.base cv j c n ps [.val] mr G)(L:Room k X.A)(O:j<=k)(hx:kr (CXk X.prog X.w) X C.E)(N:PE X o (tE C own mo fo))(g:mo≠.any:=by decide)(u:C.cv=cv:=by rfl)(I:C.K=X.K:=by rfl)(p:∀i∈C.ox,i∈own:=by exact kZ rfl)
  (ht:Z0 (.Call (.Attribute o n apos) [] [] pos) X.env=(do
   let ov <-Z0 o X.env
   l6 apos.atName
   let (f,first) <-holding [ov] (mn ov n pl)
   callWith pos f first (j0 pos (iI [] X.env)) (lB pos (j8 [] X.env))):=by rfl):PE X (.Call (.Attribute o n apos) [] [] pos) (tE C own mr (gO c n G fo)):=by
 subst u;obtain⟨f,fd,F0,M,hb⟩:=R;refine jy (qb4 (pl:=pl) (wC N g) P M F0 (L.mono O) hb .nil hx ht) λσ H Q ⟨F,ρ,J,h⟩=>⟨F,ρ,J,Po.bind h λv F1 H1 d ρ1 b S m h1=>?_⟩
 have m:Is C.K F1 v d:=m;cases m with
 | @ins a k dx fv fs ea t=>
  replace h1:Po C own mr σ F1 H1 (if k=c/\(fs.lookup n).isNone=iD then(match G [.ins k fs]with|.ok q=>.ok (q.1,ρ1)|.exc x _=>.exc x ρ1|.bad=>.bad)else .bad) Q:=h1;by_cases z:k=c/\(fs.lookup n).isNone=iD
  .rw[Aa z]at h1;obtain⟨rfl,D⟩:=z;refine⟨a,dx,fv,rfl,b.sub _ _ ea,t.non (by cases q:fs.lookup n with|none=>rfl|some y=>rw[q]at D;cases D),?_⟩;refine⟨F1,[.ins k fs],b.sub,⟨by rw[<-I];exact .ins ea t,trivial⟩,bw,?_⟩;have r:∀{F' H':Hp},Chg (LA [PM.val] [V.ref a]) F1 H1 F' H'->Chg No F1 H1 F' H':=λl=>l.mono λz hz=>by have hz:z∈([]:List Z7):=hz;cases hz
   cases e:G [.ins k fs]with
   |bad=>rw[e]at h1;exact h1.elim
   |exc y o=>rw[e]at h1;exact λF' H' s l _=>h1 F' H' s ((b.grow (r l) s).ioIs p) (r l).ofNo
   |ok Y=>rw[e]at h1;obtain⟨d,B⟩:=Y;exact λv F' H' s l _ mo=>h1 v F' H' (b.grow (r l) s) (r l).ofNo (by rw[I];exact mo)
  .rw[Ab z]at h1;exact h1.elim
 |_=>exact h1.elim
end
variable{own1:List Nat}{ρ:Sl}{u:HO}{b:Z7}
section
variable{σ:St}
theorem Rep.blind(r:Rep K own F H σ ρ)(h1:∀j,j∈own1↔j∈own/\j≠i):Rep K own1 F H σ (ρ.set i iB) where
 sub:=r.sub
 len:=by simp[r.len]
 val:=λj d D e=>by
  by_cases q:j=i
  .subst q;by_cases z:j < ρ.length;·rw[aB z]at e;cases e
   .rw[bA (by simpa using z)]at e;cases e
  .rw[ai (aW q)]at e;exact r.val j d (λz=>D ((h1 j).mpr ⟨z,q⟩)) e
 ow:=λj d D e=>by have l:=(h1 j).mp D;rw[ai (aW l.2)]at e;exact r.ow j d l.1 e
 opn:=λj D=>by have l:=(h1 j).mp D;rw[ai (aW l.2)];exact r.opn j l.1
 dis:=λj k a D h=>r.dis j k a ((h1 j).mp D).1 ((h1 k).mp h).1
theorem Rep.see{a:Z7}(r:Rep K own1 F H σ ρ)(h1:∀j,j∈own1↔j∈own/\j≠i)(hi:i∈own)(f:σ[i]?=iw (iw (V.ref a)))(m:F a=iB)(n:¬OA own1 σ a)(ow:OwnIs K F H a d):Rep K own F H σ (ρ.set i (iw d)):=by
 have hl:i < ρ.length:=by rw[<-r.len];exact(aA.mp f).1
 refine⟨r.sub,by simp[r.len],λj d' D e=>?_,λj d' D e=>?_,λj D=>?_,λj k b D l e1 h=>?_⟩;·have q:j≠i:=λz=>D (by rw[z];exact hi);rw[ai (aW q)]at e;exact r.val j d' (λz=>D ((h1 j).mp z).1) e
 .by_cases q:j=i;·subst q;rw[aB hl]at e;cases e;exact⟨a,f,m,ow⟩
  .rw[ai (aW q)]at e;exact r.ow j d' ((h1 j).mpr ⟨D,q⟩) e
 .by_cases q:j=i;·subst q;exact⟨d,aB hl⟩
  .rw[ai (aW q)];exact r.opn j ((h1 j).mpr ⟨D,q⟩)
 .by_cases g:j=i
  .by_cases c:k=i;·rw[g,c]
   .rw[g,f]at e1;cases e1;exact absurd ⟨k,(h1 k).mpr ⟨l,c⟩,h⟩ n
  .by_cases c:k=i;·rw[c,f]at h;cases h;exact absurd ⟨j,(h1 j).mpr ⟨D,g⟩,e1⟩ n
   .exact r.dis j k b ((h1 j).mpr ⟨D,g⟩) ((h1 k).mpr ⟨l,c⟩) e1 h
theorem Rep.off{x:Z7}(r:Rep K own F H σ ρ)(h:F x=iB)(n:¬OA own σ x):Rep K own F (upd H x u) σ ρ where
 sub:=λb o e=>by rw[qv (qD e h)];exact r.sub b o e
 len:=r.len
 val:=r.val
 ow:=λj d D e=>by obtain⟨a,h1,h2,g⟩:=r.ow j d D e;exact⟨a,h1,h2,g.grow (Same.refl _) λo q=>by rw[qv (λz=>n ⟨j,D,by rw[<-z];exact h1⟩)];exact q⟩
 opn:=r.opn
 dis:=r.dis
theorem Rep.frz{o:HO}(r:Rep K own F H σ ρ)(hb:H b=iw o)(h:F b=iB)(n:¬OA own σ b):Rep K own (upd F b o) H σ ρ:=by
 have gr:Same F (upd F b o):=λc w e=>by rw[qv (qD e h)];exact e
 refine⟨λc w e=>?_,r.len,λj d D e=>?_,λj d D e=>?_,r.opn,r.dis⟩
 .by_cases q:c=b;·subst q;rw[qo]at e;cases e;exact hb
  .rw[qv q]at e;exact r.sub c w e
 .obtain⟨v,h1,h2⟩:=r.val j d D e;exact⟨v,h1,h2.mono gr⟩
 .obtain⟨a,h1,h2,g⟩:=r.ow j d D e;exact⟨a,h1,by rw[qv (λz=>n ⟨j,D,by rw[<-z];exact h1⟩)];exact h2,g.grow gr λ_ q=>q⟩
theorem Chg.put{A:Z7->Prop}{F H:Hp}(hA:A b):Chg A F H F (upd H b u):=
 ⟨λc o e n=>by rw[qv (λz=>n (by rw[z];exact hA))];exact e,λc h=>by
  by_cases q:c=b;·rw[q,qo];simp
  .rw[qv q];exact h,Same.refl _,λ_ h=>.inl h⟩
end
def QG(g:D->Sl->Out Sl)(fw fx:qV):List D->List D->vN
 |[],ds,ρ=>.ok (ds,ρ)
 | d::l,ds,ρ=>match g d ρ with
  | .ok ρ1=>match fw ρ1 with
   | .ok (w,ρ2)=>match fx ρ2 with
    |.ok (.int k,ρ3)=>match ixN ds.length k with
     |some j=>QG g fw fx l (ds.set j w) ρ3
     |none=>.bad
    |_=>.bad
   |_=>.bad
  |_=>.bad
variable{g:D->Sl->Out Sl}
set_option tactic.hygienic true in
theorem Zg{fw fx:qV}{l dE:List D}{ρE:Sl}(h:QG g fw fx (d::l) ds ρ=.ok (dE,ρE)):∃ρ1 w ρ2 k a j,g d ρ=.ok ρ1/\fw ρ1=.ok (w,ρ2)/\fx ρ2=.ok (.int k,a)/\ixN ds.length k=iw j/\QG g fw fx l (ds.set j w) a=.ok (dE,ρE):=by
 unfold QG at h;split at h
 .rename_i ρ1 e1;split at h
  .rename_i w ρ2 i;split at h
   .rename_i k a e;split at h;·rename_i j p;exact⟨ρ1,w,ρ2,k,a,j,e1,i,e,p,h⟩
    .cases h
   .cases h
  .cases h
 .cases h
def qav(c:Z7)(i:Nat)(fl:Str)(fe:qV)(fi:vN)(g:D->Sl->Out Sl)(fw fx:qV)(fr:qS):qS:=λρ=>(fe ρ).bind λp=>match p.1,p.2[i]? with
 | .lst ds,iw (iw (.ins k fs))=>if k=c/\fs.length<1000 then(match fi (p.2.set i iB)with
  |.ok q=>(match QG g fw fx q.1 ds q.2 with
   |.ok r=>fr (r.2.set i (iw (.ins k (wg fl (.lst r.1) fs))))
   |_=>.bad)
  |_=>.bad)else .bad
 |_,_=>.bad
noncomputable def ctB(C:Ct):Ct:={ C with ox:=[],oxs:=λ_ h=>by cases h }
structure FillW(C:Ct)(own1:List Nat)(σ:St)(F1 H2 F3:Hp)(b:Z7)(g:D->Sl->Out Sl)(fw fx:qV)(items dE:List D)(ρE:Sl)(j:Nat)(σ':St)(F' H':Hp)(ρ':Sl)(xs:List V)(dk:List D):Prop where
 rep:Rep C.K own1 F' H' σ' ρ'
 chg:Chg (λz=>OA own1 σ z\/z=b) F1 H2 F' H'
 oa:∀z,OA own1 σ' z->OA own1 σ z\/H2 z=iB
 io:∀j∈C.io,σ'[j]?=σ[j]?
 hb:H' b=iw (.lst xs)
 fb:F' b=iB
 is:IsL C.K F' xs dk
 gr:Same F3 F'
 run:QG g fw fx (items.drop j) dk ρ'=.ok (dE,ρE)
variable{own':List Nat}{mw mx:Mo}{w:Z4}{p3:Pos}
section
variable{ix tg iter:Z4}{rest:List Z3}{fe fw fx:qV}{fi:vN}{fr:qS}{fl:Str}{p4 p5 p6 p7 p8:Pos}
theorem qcQ (hK:C.K=X.K) (h1:∀j,j∈own1↔j∈own/\j≠i) (hc:Cls X.K c) (hn:NoAttr X.K c fl) (hN:X.N[i]?=iw x) (hv:Vis X.env.scope x) (L:i∈own) (U:i∈C.io) (hp:mL (Z6 X.prog X.w) X.A X.env X.xe) (Z:X.calm=iD)
  (he:PE X e (tE C own .fr fe)) (hi:PI X tg iter (tIt (ctB C) own1 fi)) (hg:PG X tg (tGd (ctB C) own1 g)) (hw:PE X w (tE (ctB C) own1 mw fw)) (hx:PE X ix (tE (ctB C) own1 mx fx)) (T:PSs X rest (tSt C own own' fr)) (hmw:mw≠.any:=by decide)
  (hd:Dbg x:=by decide) (hcd:Cdk x:=by decide)
  (hs:lh e (iw (.Attribute (.Name x p1) fl p2)) p3.line X.env=pure false:=by rfl) (hs2:∀x,j9 iter X.env x=pure x:=by intro _;rfl)
  (hb:iY (.Name x p4) fl X.env (Z0 (.Name x p4) X.env)=Z0 (.Name x p4) X.env:=by rfl)
  (hsub:∀v,assign (.Subscript (.Attribute (.Name x p4) fl p5) ix p6) X.env v=(do
   let ov <-holding [v] (Z0 (.Attribute (.Name x p4) fl p5) X.env)
   let iv <-holding [v,ov] (Z0 ix X.env)
   l6 p6
   holding [v,ov,iv] (setItem ov iv v)
   release [v,ov,iv] []):=by intro _;rfl)
  (ha1:lE [.Subscript (.Attribute (.Name x p4) fl p5) ix p6] w p7.line X.env=pure false:=by rfl) (ha2:lF [.Subscript (.Attribute (.Name x p4) fl p5) ix p6] w X.env=pure none:=by rfl)
  (ha3:(j4 [.Subscript (.Attribute (.Name x p4) fl p5) ix p6] X.env).map (·.2)=[assign (.Subscript (.Attribute (.Name x p4) fl p5) ix p6) X.env]:=by rfl) :
  PSs X (.Assign [.Attribute (.Name x p1) fl p2] e p3::.For tg iter [.Assign [.Subscript (.Attribute (.Name x p4) fl p5) ix p6] w p7] [] p8::rest) (tSt C own own' (qav c i fl fe fi g fw fx fr)):=by
 refine QV (zO (qdH (vB hN hv hd hcd) he hs) (zO (qdE hp Z hi hg (Wu (ZI (wC hw hmw) (qdC (qdG (vB hN hv hd hcd) hb) hx UU hsub) ha1 ha2 ha3)) hs2) T)) λD σ H z9=>?_;obtain⟨F,ρ,rp,h⟩:=z9;refine⟨F,ρ,rp,?_⟩;unfold qav at h;cases P:fe ρ with
 |exc y o=>rw[P]at h;exact h
 |bad=>rw[P]at h;exact h.elim
 |ok p0=>
 obtain⟨d,ρ1⟩:=p0;rw[P]at h;rw[Out.oh]at h;have f:=h;intro v F1 H1 s c1 mo1;obtain⟨b,rfl,I,hFb,owb⟩:=mo1;obtain⟨d0,hd0⟩:=s.opn i L;obtain⟨a,e1,hFa,o0⟩:=s.ow i d0 L hd0;cases d with
 | lst ds=>
  simp only[hd0]at f;cases d0 with
  | ins k fs=>
   by_cases z:k=c/\fs.length<1000
   ·simp only[Aa z]at f;obtain⟨rfl,hl⟩:=z;obtain⟨dx,fv,ea,t⟩:=o0;obtain⟨M,hb0,is0⟩:=owb;have oaH:∀{z:Z7},OA own1 σ z->H z≠none:=λ{z} q=>by obtain⟨j,hj,ej⟩:=q;exact(rp.OA_there ⟨j,((h1 j).mp hj).1,ej⟩).1
    have R:¬OA own1 σ b:=λq=>oaH q I;have E:¬OA own1 σ a:=λq=>by obtain⟨j,hj,ej⟩:=q;exact((h1 j).mp hj).2 (s.dis j i a ((h1 j).mp hj).1 L ej e1)
    have hHa:H a≠none:=(rp.OA_there ⟨i,L,e1⟩).1;have B:a≠b:=λq=>hHa (by rw[q];exact I);refine⟨_,e1,a,k,dx,fv,rfl,ea,hc,hn,by rw[t.length];exact hl,?_⟩;generalize eo:HO.ins k dx (QA fl (.ref b) fv)=o;have rpB:Rep C.K own1 F1 (upd H1 a o) σ (ρ1.set i iB):=(s.blind h1).off hFa E;have hb2:(upd H1 a o) b=iw (.lst M):=by rw[qv (aW B)];exact hb0
    refine⟨F1,ρ1.set i iB,rpB,?_⟩;cases q:fi (ρ1.set i iB)with
    |exc y o=>simp only[q]at f;exact f.elim
    |bad=>simp only[q]at f;exact f.elim
    | ok pq=>
     obtain⟨items,ρ2⟩:=pq;simp only[q]at f;cases q2:QG g fw fx items ds ρ2 with
     |exc y o=>simp only[q2]at f;exact f.elim
     |bad=>simp only[q2]at f;exact f.elim
     | ok pr=>
      obtain⟨dE,ρE⟩:=pr;simp only[q2]at f;intro J F3 H3 rp3 c3 it;have p:∀{F' H'},Chg (λz=>OA own1 σ z\/z=b) F1 (upd H1 a o) F' H'->H' a=iw o/\F' a=none:=λ{F' H'} cc=>by
       refine⟨cc.keep a o qo λz=>z.elim E B,?_⟩;cases qa:F' a with
       |none=>rfl
       |some u=>
        rcases cc.new a (by rw[qa];simp)with z|z|z;·exact absurd hFa z
        .rw[qo]at z;cases z
        .exact(z.elim E B).elim
      have w0:FillW C own1 σ F1 (upd H1 a o) F3 b g fw fx items dE ρE 0 σ F3 H3 ρ2 M ds:=by
       refine⟨rp3,c3.mono λ_ z=>.inl z,λ_ z=>.inl z,λ_ _=>rfl,c3.keep b _ hb2 R,?_,is0.mono c3.grow,Same.refl _,q2⟩;cases O:F3 b with
       |none=>rfl
       |some u=>
        rcases c3.new b (by rw[O];simp)with z|z|z;·exact absurd hFb z
        .rw[hb2]at z;cases z
        .exact absurd z R
      refine⟨λj m σ' H'=>m=items.length - j/\j<=items.length/\∃F' ρ' xs dk,FillW C own1 σ F1 (upd H1 a o) F3 b g fw fx items dE ρE j σ' F' H' ρ' xs dk,⟨items.length,by simp,aZ _,F3,ρ2,M,ds,w0⟩,?_⟩;rintro j m σ' H' ⟨rfl,hle,F',ρ',xs,dk,W⟩;have nb':¬OA own1 σ' b:=λz=>by
       rcases W.oa b z with z|z;·exact R z
       .rw[hb2]at z;cases z
      have na':¬OA own1 σ' a:=λz=>by
       rcases W.oa a z with z|z;·exact E z
       .rw[qo]at z;cases z
      by_cases G:j<items.length
      .have hd:items.drop j=items[j]::items.drop (j+1):=dH G;have run:=W.run;rw[hd]at run;obtain⟨r1,wd,r2,kk,r3,jj,g1,g2,g3,g4,run'⟩:=Zg run;refine .inr ⟨it.go j H' G (W.gr.trans W.rep.sub),λσ2 H2=>items.length - (j+1)=items.length - (j+1)/\j+1<=items.length/\∃F' ρ' xs dk,FillW C own1 σ F1 (upd H1 a o) F3 b g fw fx items dE ρE (j+1) σ2 F' H2 ρ' xs dk,λσ2 H2 z=>⟨items.length - (j+1),by omega,z⟩,λxv H2 y=>?_⟩;obtain⟨F2,c2,s2,is2⟩:=it.yld j F' H' xv H2 items[j] (by simp[G]) W.gr W.rep.sub y;refine⟨F2,ρ',items[j],W.rep.grow c2 s2,is2,r1,g1,λr rp3' Q io3=>⟨F2,r1,rp3',?_⟩⟩;rw[g2];intro wv F4 H4 rp4 c4 S;have b3:∀{z:Z7},OA own1 r z->OA own1 σ z\/(upd H1 a o) z=none:=λ{z} q=>W.oa z (Q z q);have l:¬OA own1 r b:=λz=>nb' (Q b z);have na3:¬OA own1 r a:=λz=>na' (Q a z);have C2:Chg (λz=>OA own1 σ z\/z=b) F1 (upd H1 a o) F2 H2:=W.chg.trans' c2.ofNo;have C4:Chg (λz=>OA own1 σ z\/z=b) F1 (upd H1 a o) F4 H4:=C2.trans c4 λz q=>(b3 q).imp .inl id;have ea3:r[i]?=iw (iw (V.ref a)):=by rw[io3 i U,W.io i U];exact e1
       have hl4:(QA fl (V.ref b) fv).lookup fl=iw (V.ref b):=by rw[yj,Aa rfl]
       refine⟨_,ea3,a,k,dx,_,_,rfl,by rw[eo];exact(p C4).1,hc,hn,hl4,F4,r2,rp4,?_⟩;rw[g3];intro iv F5 H5 rp5 c5 mo5;have hiv:iv=.int kk:=mo5.top.int;subst hiv;have C5:Chg (λz=>OA own1 σ z\/z=b) F1 (upd H1 a o) F5 H5:=C4.trans c5 λz q=>(b3 q).imp .inl id;have hb5:H5 b=iw (.lst xs):=c5.keep b _ (c4.keep b _ (c2.keep b _ W.hb λz=>z) l) l;have fb2:F2 b=none:=by
        cases O:F2 b with
        |none=>rfl
        |some u=>
         rcases c2.new b (by rw[O];simp)with z|z|z;·exact absurd W.fb z
         .rw[W.hb]at z;cases z
         .exact z.elim
       have fb4:F4 b=none:=by
        cases O:F4 b with
        |none=>rfl
        |some u=>
         rcases c4.new b (by rw[O];simp)with z|z|z;·exact absurd fb2 z
         .rw[c2.keep b _ W.hb λz=>z]at z;cases z
         .exact absurd z l
       have fb5:F5 b=none:=by
        cases O:F5 b with
        |none=>rfl
        |some u=>
         rcases c5.new b (by rw[O];simp)with z|z|z;·exact absurd fb4 z
         .rw[c4.keep b _ (c2.keep b _ W.hb λz=>z) l]at z;cases z
         .exact absurd z l
       have gr5:Same F' F5:=(c2.grow.trans c4.grow).trans c5.grow;have S:Is C.K F4 wv wd:=S;refine⟨b,xs,kk,jj,rfl,rfl,hb5,by rw[W.is.length];exact g4,rfl,G,F5,r3,xs.set jj wv,dk.set jj wd,?_⟩;refine⟨rp5.off fb5 l,C5.trans' (Chg.put (.inr rfl)),λz q=>b3 q,λn Y=>(io3 n Y).trans (W.io n Y),qo,fb5,(W.is.mono gr5).set (S.mono c5.grow) jj,W.gr.trans gr5,run'⟩
      .have ej:j=items.length:=by omega
       subst ej;have run:=W.run;rw[fU]at run;have run:Out.ok (dk,ρ')=Out.ok (dE,ρE):=run;cases run;refine .inl ⟨it.stop _ H' (aq _) (W.gr.trans W.rep.sub),?_⟩;obtain⟨kA,kF⟩:=p W.chg;have grF:Same F' (upd F' b (.lst xs)):=λz u q=>by rw[qv (qD q W.fb)];exact q
       have ea':σ'[i]?=iw (iw (V.ref a)):=by rw[W.io i U];exact e1
       have rpZ:=(W.rep.frz W.hb W.fb nb').see (i:=i) (d:=.ins k (wg fl (.lst dE) fs)) h1 L ea' (by rw[qv B];exact kF) na' ⟨dx,_,by rw[kA,<-eo],((t.mono W.chg.grow).mono grF).put (.lst (.inl (.inl qo)) (W.is.mono grF))⟩;refine⟨_,_,rpZ,PoS.shift f ⟨rpZ,?_,λz q=>?_,W.io⟩⟩
       .have cc:Chg (OA own σ) F H F' H':=by
         refine(c1.trans' (Chg.put (A:=OA own σ) (b:=a) (u:=o) ⟨i,L,e1⟩)).trans W.chg λz q=>?_;rcases q with⟨n,Y,en⟩|q;·exact .inl ⟨n,((h1 n).mp Y).1,en⟩
         .exact .inr (by rw[q];exact I)
        refine⟨cc.keep,cc.stay,cc.grow.trans grF,λz hz=>?_⟩;by_cases zb:z=b;·exact .inr (.inl (by rw[zb];exact I))
        .rw[qv zb]at hz;exact cc.new z hz
       .obtain⟨n,Y,en⟩:=q;by_cases qn:n=i;·rw[qn,ea']at en;cases en;exact .inl ⟨i,L,e1⟩
        .rcases W.oa z ⟨n,(h1 n).mpr ⟨Y,qn⟩,en⟩with⟨n',hn2,en2⟩|q;·exact .inl ⟨n',((h1 n').mp hn2).1,en2⟩
         .by_cases za:z=a;·exact .inl ⟨i,L,by rw[za];exact e1⟩
          .rw[qv za]at q;refine .inr ?_;cases qh:H z with
           |none=>rfl
           |some u=>exact absurd q (c1.stay z (by rw[qh];simp))
   .simp only[Ab z]at f;exact f.elim
  |_=>exact f.elim
 |_=>simp only[]at f;exact f.elim
end
theorem qjm{b:List Nat}(h:decide (i∈b)=iD):i∈b:=Ae h
def Zh(K:Y9)(c:Z7)(x qual:Str)(st:Z3)(ps:List Str):Prop:=∃f fd,Fun K x qual st f fd/\Meth K c x f/\Binds K fd ps []
def qcR(K:Y9)(c:Z7)(qual:Str)(st:Z3)(ps:List Str):Prop:=∃f fd,Fun K "__init__" qual st f fd/\Mk K c f/\Binds K fd ps []
section
variable{P:iK}{w:iL}{mg:Str->Option iC}{base:Z5}{qual:Str}{st:Z3}{N:List Str}{k:Nat}{fb:qS}
theorem JV(T:Zh K c x qual st ps)(S:FnScope N ps (qC st))(a:∀(cdv:iC)(f:Z7)(A:iT)(outer:List Env)(s:iF)(H:Hp)(E:XK),Room k (A.deeper (l0 qual (qC st) s.heap.objs.size f cdv)) ->PSs (cxk P w K mg base N qual (qC st) f cdv A outer s H E) (kY st) (tSt (qf6 K cv E ms mr) (jQ 0 ms) own' fb))(hl:ms.length=ps.length:=by rfl)(g:∀i∈Wp 0 ms,i∈own':=by exact kZ rfl)(hmr:mr=.sh\/∀ds ρ,(fb (qx N ds))≠.ok (.nx,ρ):=by exact .inl rfl):YJ P w K mg base cv (k+1) c x ps ms mr (jF N ms fb):=by
 obtain⟨f,fd,F,m,hb⟩:=T;exact⟨f,fd,qib F S hl g hmr (λcdv A outer s H E h=>a cdv f A outer s H E h) λ_=>.inr rfl,m,hb⟩
theorem qaw(T:qcR K c qual st ps)(S:FnScope N ps (qC st))(a:∀(cdv:iC)(f:Z7)(A:iT)(outer:List Env)(s:iF)(H:Hp)(E:XK),Room k (A.deeper (l0 qual (qC st) s.heap.objs.size f cdv)) ->PSs (cxk P w K mg base N qual (qC st) f cdv A outer s H E) (kY st) (tSt (qf6 K cv E ms .sh) (jQ 0 ms) own' fb))(hl:ms.length=ps.length:=by rfl)(g:∀i∈Wp 0 ms,i∈own':=by exact kZ rfl):qat P w K mg base cv (k+1) c ps ms (jF N ms fb):=by
 obtain⟨f,fd,F,m,hb⟩:=T;exact⟨f,fd,qib F S hl g (.inl rfl) (λcdv A outer s H E h=>a cdv f A outer s H E h) λ_=>.inr rfl,m,hb⟩
end
def qhs(i j:Nat)(fr:vN):qS:=λρ=>(fr ρ).bind λp=>match p.1 with
 |[d,e]=>if i<p.2.length/\j<p.2.length then .ok (.nx,(p.2.set i (iw d)).set j (iw e))else .bad
 |_=>.bad
section
theorem vr(h:X.N[i]?=iw x:=by rfl)(c:Vis X.env.scope x:=by first|exact bj rfl|exact dj (bj rfl)|exact dj (dj rfl))(l:i∉own:=by decide)(hd:Dbg x:=by decide)(d:Cdk x:=by decide):PE X (.Name x pos) (tE C own .sh (qe i)):=qgQ h c l hd d
end
def YL(n:Nat)(fw fx:qV):qS:=λρ=>(fw ρ).bind λp=>(fx p.2).bind λq=>match (q.2[n]?:Option (Option D)),q.1 with
 |some (iw (.lst ds)),.int k=>(match ixN ds.length k with|some j=>.ok (.nx,q.2.set n (iw (.lst (ds.set j p.1))))|none=>.bad)
 |_,_=>.bad
theorem gP{f:qV}{ρ':Sl}:ji f ρ≠.ok (.nx,ρ'):=by
 unfold ji;cases f ρ with
 |ok p=>intro h;cases h
 |exc c o=>intro h;cases h
 |bad=>intro h;cases h
variable{n:Nat}{F':Hp}
section
variable{mo:Mo}{o ix:Z4}{fe fo fw fx:qV}{apos cpos:Pos}
theorem qax(E:X.N[n]?=iw x)(D:Vis X.env.scope x)(l:n∈own)(hw:PE X w (tE C own mw fw))(hx:PE X ix (tE C own mx fx))(e:mw≠.any:=by decide)(hd:Dbg x:=by decide)(p:Cdk x:=by decide)
  (g:∀v,assign (.Subscript (.Name x p1) ix p2) X.env v=(do
   let ov <-holding [v] (Z0 (.Name x p1) X.env)
   let i <-holding [v,ov] (Z0 ix X.env)
   l6 p2
   holding [v,ov,i] (setItem ov i v)
   release [v,ov,i] []):=by intro _;rfl)
  (t:lE [.Subscript (.Name x p1) ix p2] w p3.line X.env=pure false:=by rfl) (G:lF [.Subscript (.Name x p1) ix p2] w X.env=pure none:=by rfl)
  (s:(j4 [.Subscript (.Name x p1) ix p2] X.env).map (·.2)=[assign (.Subscript (.Name x p1) ix p2) X.env]:=by rfl) :
  PS X (.Assign [.Subscript (.Name x p1) ix p2] w p3) (tSt C own own (YL n fw fx)):=by
 refine xl (ZI (wC hw e) (qdC (vB E D hd p) hx UU g) t G s) λT σ H ⟨F,ρ,B,h⟩=>⟨F,ρ,B,PoS.bindE h λv F1 H1 d ρ1 b R c h1=>?_⟩
 have c:Is C.K F1 v d:=c;obtain⟨L,o⟩:=b.opn n l;obtain⟨a,e1,Q,P⟩:=b.ow n L l o;refine⟨_,e1,F1,ρ1,b,PoS.bindE h1 λi O H2 J ρ2 r c2 m h2=>?_⟩;obtain⟨d2,hd2⟩:=r.opn n l;obtain⟨S,A,I,o2⟩:=r.ow n d2 l hd2;rw[e1]at A;cases A;simp only[hd2]at h2;cases d2 with
 | lst ds=>
  cases J with
  |int k=>
   have f:=m.top.int;subst f;obtain⟨xs,ex,y⟩:=o2;cases q:ixN ds.length k with
   |none=>simp only[q]at h2;exact h2.elim
   |some j=>simp only[q]at h2;obtain⟨r3,M⟩:=r.write (u:=.lst (xs.set j v)) (d:=.lst (ds.set j d)) l e1 ⟨_,qo,y.set (c.mono c2.grow) j⟩;exact⟨a,xs,k,j,rfl,rfl,ex,by rw[y.length];exact q,h2 σ O _ ⟨r3,M,λ_ z=>.inl z,λ_ _=>rfl⟩⟩
  |_=>exact h2.elim
 |_=>exact h2.elim
noncomputable def qay:D->Bool
 |.non=>iD
 |.bl _=>iD
 |.int _=>iD
 |.str _=>iD
 |_=>iE
def VA:D->Bool
 |.tup xs=>xs.all qay
 |d=>qay d
theorem qht(h:Is K F v d)(f:qay d=iD):Is K F' v d:=by
 cases h with
 |non=>exact .non
 |bl b=>exact .bl b
 |int i=>exact .int i
 |str z=>exact .str z
 |_=>cases f
theorem qdR:∀{vs:List V}{ds:List D},IsL K F vs ds->ds.all qay=iD->IsL K F' vs ds
 |_,_,.nil,_=>.nil
 |_,_,.cons h t,f=>by rw[cL,aO]at f;exact .cons (qht h f.1) (qdR t f.2)
theorem qfc{ys:List V}(h:Is K F v d)(f:VA d=iD)(hb:F b=iw (.lst ys))(k:∀z o,F z=iw o->z≠b->F' z=iw o):Is K F' v d:=by
 cases h with
 |@tup a xs ds p t=>
  refine .tup ?_ (qdR t f);rcases p with(p|⟨o,p⟩)|p;·exact .inl (.inl (k _ _ p λz=>by rw[z,hb]at p;cases p))
  .exact .inl (.inr ⟨o,k _ _ p λz=>by rw[z,hb]at p;cases p⟩)
  .exact .inr p
 |non=>exact .non
 |bl b=>exact .bl b
 |int i=>exact .int i
 |str z=>exact .str z
 |_=>cases f
end
theorem gQ(ks:List Int):∀n,n<=ks.length->preSum (λi=>ks.getD i 0) n=(ks.take n).sum
 | 0,_=>rfl
 |n+1,h=>by
  have j:=gQ ks n (by lia);show preSum (λi=>ks.getD i 0) n+ks.getD n 0=_;rw[j,List.take_add_one,List.sum_append];have:ks[n]?=iw (ks.getD n 0):=by rw[bW,aG (by lia)];rfl
  rw[this];simp
theorem qdS:∀(ks:List Int),(ks.all λk=>decide (0<=k/\k<=100000))=iD->0<=ks.sum/\ks.sum<=100000 * ks.length
 |[],_=>by simp
 |k::ks,h=>by rw[cL,aO]at h;have h1:=Ae h.1;have j:=qdS ks h.2;rw[List.sum_cons,ap];omega
section
variable{a b:Z4}{fa fb:qV}{mb:Mo}
theorem qaz:wG X (.type "range") (λxs H Q=>∃i j:Int,xs=[.int i,.int j]/\∀p,H p=iB->Q (.ref p) (upd H p (qgb p i j))):=by
 intro Z9 s σ H xs us Q I r h;obtain⟨i,j,rfl,q⟩:=h;cases r with
 |cons m a=>obtain⟨t,rfl⟩:=m;obtain⟨u,rfl,y⟩:=uO a;obtain⟨t',rfl⟩:=y;exact call_range_2 ⟨.ref s.heap.objs.size,_,I.laid (t':=s.toks+1) (λb o e=>aa _ e) (aq _) (qam (im ..)),rfl,q _ (I.hok.fresh (aq _))⟩
def gR:D->D->Out D
 |.int i,.int j=>if qfb i j/\j - i<=1000000 then .ok (.lst (QD i (j - i).toNat))else .bad
 |_,_=>.bad
set_option tactic.hygienic true in
theorem WX{p p2 pos2:Pos}{a:Z4}(B:X.calm=iD)(hg:Gl X "list")(A:X.mg "list"=iB)(w:iJ "list"=iw (.type "list"))(o:Gl X "range")(n:X.mg "range"=iB)(d:iJ "range"=iw (.type "range"))(D:PE X e (tE C own ma fa))(hb:PE X a (tE C own mb fb))(m:ma≠.any:=by decide)(g:iI [a] X.env=[(iE,Z0 a X.env)]:=by exact qJ rfl)(b:iI [e,a] X.env=[(iE,Z0 e X.env),(iE,Z0 a X.env)]:=by rfl)(c:iI [.Call (.Name "range" p2) [e,a] [] pos2] X.env=[(iE,Z0 (.Call (.Name "range" p2) [e,a] [] pos2) X.env)]:=by exact qJ rfl) :
  PE X (.Call (.Name "list" p) [.Call (.Name "range" p2) [e,a] [] pos2] [] pos) (tE C own .fr (d2 gR fa fb)):=by
 refine jy (kX (YG B) hg A w (qP (kX qaz o n d (qP D (qP hb jC g) (by rw[b,g])) (by decide) (by decide) (by rw[b,g]) (by rw[g];rfl)) jC c) (by decide) (by decide) (by rw[c];rfl) rfl) λσ H Q h=>?_;refine xx (JI (ma:=ma) (mb:=mb) m h) λx H0 E=>xx E λy H1 r=>?_;obtain⟨K,J,F,dx,G,ex,v,s,ty,po⟩:=r;cases ex;cases dx <;> try exact po.elim
 rename_i i;cases G <;> try exact po.elim
 rename_i j;unfold gR at po;by_cases hz:qfb i j/\j - i<=1000000
 .simp only[Aa hz]at po;obtain rfl:=s.int;obtain rfl:=ty.int;refine⟨i,j,rfl,λq hq=>⟨q,i,j,rfl,qo,hz,λl f=>?_⟩⟩;obtain⟨s1,I,f1⟩:=jL (u:=qgb q i j) v hq;obtain⟨s2,c2,f2⟩:=jL (u:=.lst ((aK (j - i).toNat).map λk=>V.int (i+(k:Nat)))) s1 f;have t:H1 l=none:=by
   by_cases z:l=q;·rw[z]at f;rw[qo]at f;cases f
   .rwa [qv z]at f
  exact po _ _ _ s2 (I.trans' c2) ⟨l,rfl,t,f2,_,qo,WU _⟩
 .simp only[Ab hz]at po;exact po.elim
end
section
variable{G:ju}{p:Pos}{k:Nat}
theorem gS(F:WJ X.prog X.w X.K X.mg X.base cv j x ps [] mr G)(c:Room k X.A)(D:j<=k)(hx:kr (CXk X.prog X.w) X C.E)(hg:Gl X x)(v:C.cv=cv:=by rfl)(l:C.K=X.K:=by rfl)(o:∀i∈C.ox,i∈own:=by exact kZ rfl)(b:Dbg x:=by decide):PE X (.Call (.Name x p) [] [] pos) (tE C own mr (qt [] G qA)):=by
 subst v;obtain⟨f,fd,F,m,d,hb⟩:=F;rw[<-l]at F;refine jy (qb3 (E:=C.E) (F:=by rw[<-l];exact F) (c.mono D) hg m d hb .nil hx b) λσ H Q h=>?_;obtain⟨F,ρ,a,h⟩:=WG (as:=[]) o (λi hi=>nomatch hi) (by decide) (by decide) h;exact h [] F H a .refl trivial
end
def VB(n:Nat)(fw fx:qV):qS:=λρ=>(fw ρ).bind λp=>(fx p.2).bind λq=>match (q.2[n]?:Option (Option D))with
 |some (iw (.dct kvs))=>(match Wq q.1 with
  |some k=>if kvs.length<Z8 then .ok (.nx,q.2.set n (iw (.dct (xS kvs k p.1))))else .bad
  |none=>.bad)
 |_=>.bad
section
variable{ix:Z4}{fw fx:qV}
theorem JW(L:X.A.units+64<lc)(t:X.N[n]?=iw x)(s:Vis X.env.scope x)(l:n∈own)(hw:PE X w (tE C own mw fw))(hx:PE X ix (tE C own mx fx))(e:mw≠.any:=by decide)(hd:Dbg x:=by decide)(i:Cdk x:=by decide)(hs:lh w (iw (.Subscript (.Name x p1) ix p2)) p3.line X.env=pure false:=by rfl) :
  PS X (.Assign [.Subscript (.Name x p1) ix p2] w p3) (tSt C own own (VB n fw fx)):=by
 refine xl (qeF (by lia) (vB t s hd i) hx (wC hw e) hs) λT σ H ⟨F,ρ,p,h⟩=>⟨F,ρ,p,PoS.bindE h λv F1 H1 d ρ1 b O c h1=>?_⟩
 have c:Is C.K F1 v d:=c;obtain⟨y,g⟩:=b.opn n l;obtain⟨a,e1,M,E⟩:=b.ow n y l g;refine⟨_,e1,F1,ρ1,b,PoS.bindE h1 λG D H2 J ρ2 r c2 m h2=>?_⟩;obtain⟨d2,hd2⟩:=r.opn n l;obtain⟨P,o,I,o2⟩:=r.ow n d2 l hd2;rw[e1]at o;cases o;simp only[hd2]at h2;cases d2 with
 | dct kvs=>
  cases q:Wq J with
  |none=>simp only[q]at h2;exact h2.elim
  |some k=>
   simp only[q]at h2;have f:=qi5 m.top q;subst f;obtain⟨kv,ex,j⟩:=o2;by_cases hz:kvs.length<Z8;·simp only[Aa hz]at h2;obtain⟨r3,B⟩:=r.write (u:=.dK (QB kv k v)) (d:=.dct (xS kvs k d)) l e1 ⟨_,qo,j.put (c.mono c2.grow)⟩;exact⟨a,_,rfl,DPut.k ex (by rw[j.length];exact hz),h2 σ D _ ⟨r3,B,λ_ z=>.inl z,λ_ _=>rfl⟩⟩
   .simp only[Ab hz]at h2;exact h2.elim
 |_=>exact h2.elim
end
end L2.D2
namespace L2.D2
open PySem PySem.Spec PyProof.Rows PySem.W
variable{α:Type}
noncomputable def WY:List (Key×α)->Option (List Str)
 |[]=>iw []
 |(.inr x,_)::l=>(WY l).map (x::·)
 |(.inl _,_)::_=>iB
theorem YM:∀{l:List (Key×α)}{ss:List Str},WY l=iw ss->l.map (·.1)=ss.map cH
 |[],ss,h=>by cases h;rfl
 |(.inr x,_)::l,ss,h=>by obtain⟨g,e,rfl⟩:=aP.mp (show(WY l).map (x::·)=iw ss from h);rw[aD,aD,YM e]
 |(.inl _,_)::_,ss,h=>by cases h
theorem IsK.keys{K:Y9}{F:Hp}:∀{kv:List (Key×V)}{ks:List (Key×D)},IsK K F kv ks->kv.map (·.1)=ks.map (·.1)
 |_,_,.nil=>rfl
 |_,_,.cons h t=>by rw[aD,aD,IsK.keys t]
theorem KV.keys:∀{kv:List (Key×V)}{vs:List (Key×iC)},KV kv vs->kv.map (·.1)=vs.map (·.1)
 |_,_,.nil=>rfl
 |_,_,.cons h t=>by rw[aD,aD,h.1,KV.keys t]
end L2.D2
namespace PySem.F
end PySem.F
namespace L2.D2
open PySem PySem.Spec PyProof.Rows PySem.W
end L2.D2
namespace L2.D2
open PySem PySem.Spec PyProof.Rows
def JX:D->Out D
 |.lst ds=>(match yp ds with
  |some ks=>if ks.length<=1000/\(ks.all λk=>decide (0<=k/\k<=100000))=iD then .ok (.int ks.sum)else .bad
  |none=>.bad)
 |_=>.bad
section
variable{X:Cx}{C:Ct}{own:List Nat}{mb mx:Mo}{b ix:Z4}{fb:qV}{pos apos cpos px:Pos}
theorem WZ(S:C.K=X.K)(R:X.calm=iD):gl X C .sh (.builtin "sum") JX:=by
 intro Z9 s σ H xs us Q I r h;obtain⟨x,F,dx,rfl,J,M,po⟩:=h;cases dx with
 | lst ds=>
  obtain⟨u,rfl,O⟩:=uO r;obtain⟨a,vs,rfl,hq,P⟩:=M.lst J;cases O;rw[S]at hq;obtain⟨its,N,p,hz⟩:=I.list hq;have pl:s.heap.IsList a its.toArray:=by obtain⟨o,n,f,B,_,w⟩:=p;exact⟨o,f,B,n,w⟩
  cases e:yp ds with
  |none=>have po:PoV C .sh F H (match yp ds with|some ks=>if ks.length<=1000/\(ks.all λk=>decide (0<=k/\k<=100000))=iD then .ok (.int ks.sum)else .bad|none=>.bad) Q:=po;rw[e]at po;exact po.elim
  | some ks=>
   have po:PoV C .sh F H (match yp ds with|some ks=>if ks.length<=1000/\(ks.all λk=>decide (0<=k/\k<=100000))=iD then .ok (.int ks.sum)else .bad|none=>.bad) Q:=po;rw[e]at po;by_cases m:ks.length<=1000/\(ks.all λk=>decide (0<=k/\k<=100000))=iD
   .have po:PoV C .sh F H (if ks.length<=1000/\(ks.all λk=>decide (0<=k/\k<=100000))=iD then .ok (.int ks.sum)else .bad) Q:=po;rw[Aa m]at po;have st:=WV P N e;have d:a<s.heap.objs.size:=let ⟨o,f,_⟩:=pl;aw f;have L:its.length=ks.length:=st.length;refine call_sum_walk (lQ (show s.heap.IsList a its.toArray from pl) ?_);refine⟨s.heap.objs.size,_,_,_,_,_,λi=>ks.getD i 0,rfl,iu (A:=X.A.in1) (I.ok.hd R) _ a (ax d) its.toArray,⟨⟨_,af _ rfl,rfl,rfl⟩,?_⟩,?_,λi v ev=>?_,λj D=>?_,λh' tk t' kp=>?_⟩;·obtain⟨o,e,c⟩:=pl;exact⟨o,aa _ e,c⟩
    .intro z b;rw[aX];simp only[ac,aY,or_false]at b;rcases b with rfl|rfl;·exact eZ _
     .exact cg d
    .obtain⟨y,t,e1,T⟩:=st.item i v (by simpa using ev);exact⟨t,by rw[e1];show dU y t=dU (ks.getD i 0) t;rw[bW,T];rfl⟩
    .rw[aj,L]at D;have l:=m.2;rw[aI]at l;have h1:=Ae (l (ks.getD j 0) (by rw[bW,aG D];exact cS D));have h2:=qdS (ks.take (j+1)) (aI.mpr λk g=>l k (List.mem_of_mem_take g));have V:(ks.take (j+1)).length<=1000:=by rw[cu];lia
     have G:=gQ ks (j+1) D;refine⟨⟨by show(-2 ^ 63:Int)<=ks.getD j 0;lia,by show ks.getD j 0<(2 ^ 63:Int);lia⟩,?_⟩;rw[G];exact⟨by lia,by lia⟩
    .have U:Inv X Z9 σ H { s with heap:=h',toks:=tk }:=I.kept (t':=tk) λz o E=>kp z o (λq=>by rw[aN.mp q]at E;exact bS _ (aw E)) (aa _ E);have G:preSum (λi=>ks.getD i 0) its.toArray.size=ks.sum:=by rw[aj,L,gQ ks _ (aq _),List.take_length]
     exact⟨.int ks.sum,H,U,⟨t',by rw[G]⟩,po _ F H J .refl (.int _)⟩
   .have po:PoV C .sh F H (if ks.length<=1000/\(ks.all λk=>decide (0<=k/\k<=100000))=iD then .ok (.int ks.sum)else .bad) Q:=po;rw[Ab m]at po;exact po.elim
 |_=>exact po.elim
end
open PySem.SeqAt
open AutoSeq1 (wpAny_loadPart')
open MeetsSeq MeetsSeq2 MeetsSeq3
end L2.D2
namespace L2.D2
open PySem PySem.Spec PyProof.Rows
open PySem.SeqAt
end L2.D2
namespace L2.D2
open PySem PySem.Spec PyProof.Rows
open AutoSeq1 (wpAny_loadPart')
set_option tactic.hygienic true in
theorem qaA(l:Z7)(items:Array iC)(n:Nat)(dct:Option Z7)(sl:Array (Option iC)):Meets (Builtin.«enumerate.__new__» ⟨[.type "enumerate",.ref l],[]⟩) (λ_ R s=>s.heap.get? l=iw { cls:=.type "tuple",dict:=dct,data:=.seq items n,slots:=sl } /\
   R (.ok (.ret (.ref (s.heap.push { cls:=.type "tuple_iterator",data:=.fields #[.ref l,.int 0 0] }).objs.size)))
    { s with heap:=(s.heap.push { cls:=.type "tuple_iterator",data:=.fields #[.ref l,.int 0 0] }).push { cls:=.type "enumerate",data:=.fields #[.none,.bool iE,.ref s.heap.objs.size,iX 0,.none,.none] } }):=
 .of_wp λprog w A R s h=>by
  obtain⟨hp,g,d,tk,os⟩:=s;obtain⟨hl,h⟩:=h;have b:=sub_enumerate;have a:Heap.IsTuple (iq ⟨hp,g,d,tk,os⟩) l items:=⟨_,hl,rfl,n,rfl⟩
  wp_walk using l4 hl
  refine wpAny_stack_any λst=>iG ?_;split
  .rename_i c _ _ _ _ _;cases(c == dw "enumerate")
   .wp_walk using l4 hl,lx a
    exact⟨_,rfl,h⟩
   .wp_walk using l4 hl,lx a
    exact⟨_,rfl,h⟩
  .wp_walk using l4 hl,lx a
   exact⟨_,rfl,h⟩
variable{s:iF}{l:Z7}{items:Array iC}
theorem uQ{prog:iK}{w:iL}{A:iT}{E:iC->iF->Prop}{Q:iC->iF->Prop}(a:s.heap.IsTuple l items)(h:∀h',IsEnum h' (s.heap.objs.size+1) s.heap.objs.size 0 .none->h'.IsTupleIter s.heap.objs.size l 0->h'.objs.size=s.heap.objs.size+2 ->(∀b o,s.heap.get? b=iw o->h'.get? b=iw o)->Q (.ref (s.heap.objs.size+1)) { s with heap:=h' }) :
  iH (Z6 prog w) A (call (.type "enumerate") [.ref l]) Q E s:=by
 obtain⟨⟨c,dct,t,sl⟩,hl,d,n,hd⟩:=a;replace d:c=.type "tuple":=d;replace hd:t=.seq items n:=hd;subst d hd;refine callType_new F.called_enumerate (by decide) (F.typeCall_enumerate_1 _) (F.newCall_enumerate_1 _) (λobj=>F.args_object_init_2 obj _) F.entry_enumerate_new (qaA l items n dct sl) ⟨hl,?_⟩;have hz:(s.heap.push { cls:=.type "tuple_iterator",data:=.fields #[.ref l,.int 0 0] }).objs.size=s.heap.objs.size+1:=aX ..;show _/\_;rw[hz];have g:IsEnum ((s.heap.push { cls:=.type "tuple_iterator",data:=.fields #[.ref l,.int 0 0] }).push { cls:=.type "enumerate",data:=.fields #[.none,.bool iE,.ref s.heap.objs.size,iX 0,.none,.none] }) (s.heap.objs.size+1) s.heap.objs.size 0 .none:=by have:=af (s.heap.push { cls:=.type "tuple_iterator",data:=.fields #[.ref l,.int 0 0] }) (o:={ cls:=.type "enumerate",data:=.fields #[.none,.bool iE,.ref s.heap.objs.size,iX 0,.none,.none] }) rfl;rw[hz]at this;exact this
 exact⟨⟨_,g,rfl⟩,h _ g ⟨_,aa _ (af _ rfl),rfl,rfl⟩ (by rw[aX,hz]) λb o x=>aa _ (aa _ x)⟩
theorem Zi{prog:iK}{w:iL}{A:iT}{E:iC->iF->Prop}{k:SK}{Q:iC->iF->Prop}(L:SeqK s.heap l k items)(h:∀h',IsEnum h' (s.heap.objs.size+1) s.heap.objs.size 0 .none->ItK h' s.heap.objs.size l k 0->(∀b o,s.heap.get? b=iw o->h'.get? b=iw o)->Q (.ref (s.heap.objs.size+1)) { s with heap:=h' }) :
  iH (Z6 prog w) A (call (.type "enumerate") [.ref l]) Q E s:=by
 cases k with
 |l=>exact call_enumerate_list L λh' a b _ c=>h h' a b c
 |t=>exact uQ L λh' a b _ c=>h h' a b c
variable{K:Y9}{a:Z7}{xs:List V}
theorem YN{H H':Hp}(e:Same H H'):∀{k:SK},SqK K H a k xs->SqK K H' a k xs
 |.l,p=>e.seq p
 |.t,p=>je e p
def qio(k:SK)(K:Y9)(a:Z7)(xs:List V):It:=
 ⟨λi H=>i<xs.length/\SqK K H a k xs,λi H v H'=>∃x p,xs[i]?=iw x/\H p=iB/\v=.ref p/\H'=upd H p (.tup [.int (i:Nat),x]),λi H=>xs.length<=i/\SqK K H a k xs⟩
theorem Zj{P:iK}{w:iL}{K:Y9}{k:SK}{J:List Z4}{y}{pos:Pos}(b a:Nat)(xs:List V)(h1:a<b):Turn P w K (.Tuple J y pos) (qio k K a xs) [b+1,b] (b+1) (λi h=>(∃old,IsEnum h (b+1) b i old)/\ItK h b a k i/\i<=xs.length) where
 mem:=by simp
 obj:=λi h st c d=>by
  obtain⟨⟨old,g⟩,hit,R⟩:=st;obtain⟨o,t,l,hd⟩:=hit.obj;simp only[ac,aY,or_false]at d;rcases d with rfl|rfl;·exact⟨_,g,λv z=>by cases z⟩
  .exact⟨o,t,λv z=>by rw[hd]at z;cases z⟩
 keep:=λi h h' st k=>by obtain⟨⟨old,g⟩,hit,R⟩:=st;obtain⟨o,t,l,hd⟩:=hit.obj;exact⟨⟨old,k _ (by simp) _ g⟩,.of ⟨o,k _ (by simp) _ t,l,hd⟩,R⟩
 item:=by
  intro X L hw M d i Z9 s σ H E I u st hg;subst L hw M;obtain⟨⟨old,g⟩,hit,R⟩:=st;obtain⟨hl,q⟩:=hg;obtain⟨its,Z,n,r,e0,Q,_,O,_⟩:=Vn I q;have pl:=SeqK.of e0 O Q;have hi:i<its.length:=by rw[<-r.length];exact hl
  have hx:its.toArray[i]?=iw its[i]:=by simp[hi]
  have D:a≠b:=ax h1;refine wpAny_pyNext_enum_itemD (xU (A:=X.A.in1) (I.ok.hd d) k b a D its.toArray) g ⟨hit,pl⟩ (by simpa using hi) (Nat.succ_ne_self b) (by
   intro z;simp only[ac,aY,or_false]at z;have h1:@LT.lt Nat _ a b:=h1;rcases z with z|z
   .have z:@Eq Nat _ _:=z
    lia
   .have z:@Eq Nat _ _:=z
    lia) λy h' tk f eo C W hz kp=>?_
  have N:y=its[i]:=by have f:its.toArray[i]?=iw y:=f;rw[hx]at f;exact(aL.inj f).symm
  subst N;refine⟨_,rfl,wpAny_letOwnedTupleGo_enum eo λhq e2 p=>?_⟩;obtain⟨x,ex,Y⟩:=wQ r (aG hi);have F:H s.heap.objs.size=none:=I.hok.fresh (aq _);have B:b+1<s.heap.objs.size:=aw g;have T:∀c∈[b+1,b],c≠s.heap.objs.size:=λc d=>by
   simp only[ac,aY,or_false]at d;have lt':b+1<s.heap.objs.size:=B;generalize s.heap.objs.size=m at lt';intro z
   lia
  have I1:Inv X Z9 σ (upd H s.heap.objs.size (.tup [.int (i:Nat),x])) { s with heap:=s.heap.push { cls:=.type "tuple",data:=.seq #[.int i tk,its[i]] } }:=
   I.laid (t':=s.toks) (λ_ _ e=>aa _ e) (aq _) ⟨⟨by simp only[ap,aR];rw[iM];decide,_,af _ rfl,rfl⟩,[.int i tk,its[i]],.cons ⟨_,rfl⟩ (.cons Y .nil),⟨_,af _ rfl,rfl,_,rfl⟩⟩
  have I2:Inv X Z9 σ (upd H s.heap.objs.size (.tup [.int (i:Nat),x])) { s with heap:=hq,toks:=tk+1 }:=by
   refine JO (s:={ s with heap:=s.heap.push { cls:=.type "tuple",data:=.seq #[.int i tk,its[i]] } }) (ch:=[b+1,b]) I1 (λc o j e=>?_) λc d=>⟨by rw[qv (T c d)];exact(u c d).1,(u c d).2⟩
   simp only[ac,aY,or_false,not_or]at j;rw[p.2 c j.1];by_cases S:c=s.heap.objs.size;·subst S;have U:(s.heap.push ({ cls:=.type "tuple",data:=.seq #[.int i tk,its[i]] }:Obj)).get? s.heap.objs.size=iw { cls:=.type "tuple",data:=.seq #[.int i tk,its[i]] }:=af _ rfl;rw[show(s.heap.push ({ cls:=.type "tuple",data:=.seq #[.int i tk,its[i]] }:Obj)).get? s.heap.objs.size=iw o from e]at U;rw[U];exact W
   .have e4:s.heap.get? c=iw o:=by have:=e;rwa [show(s.heap.push ({ cls:=.type "tuple",data:=.seq #[.int i tk,its[i]] }:Obj)).get? c=s.heap.get? c from eu _ _ _ S]at this
    exact kp c o j.1 j.2 e4
  refine⟨.ref s.heap.objs.size,_,I2,rfl,⟨x,_,ex,F,rfl,rfl⟩,⟨⟨_,by simpa using e2⟩,?_,hl⟩,λc d=>by rw[qv (T c d)];exact(u c d).1⟩;obtain⟨o,t,l,hd⟩:=C.1.obj;exact .of ⟨o,(p.2 _ (Nat.succ_ne_self b).symm).trans t,l,hd⟩
 done:=by
  intro X L hw M d i Z9 s σ H E I u st hg;subst L hw M;obtain⟨⟨old,g⟩,hit,R⟩:=st;obtain⟨hl,q⟩:=hg;obtain⟨its,Z,n,r,e0,Q,_,O,_⟩:=Vn I q;have pl:=SeqK.of e0 O Q;have G:i=its.toArray.size:=by rw[aj,<-r.length];exact Nat.le_antisymm R hl
  subst G;refine wpAny_pyNext_enum_endD (xU (A:=X.A.in1) (I.ok.hd d) k b a (ax h1) its.toArray) g ⟨hit,pl⟩ λh' ex=>⟨rfl,JO (t':=s.toks) (ch:=[b+1,b]) I (λc o j e=>?_) u⟩
  simp only[ac,aY,or_false,not_or]at j;exact ex c o j.2 e
 self:=λ_ _ _ _ _ st h=>wpAny_pyIter_enum st.1.choose_spec h
theorem qfd{k:SK}{F:Hp}{ds:List D}(p:SqK K F a k xs)(t:IsL K F xs ds):ItIs K F (qio k K a xs) (JS ds) where
 go:=λi H hi s=>by unfold JS at hi;rw[ah,List.length_zipIdx]at hi;exact⟨by rw[t.length];exact hi,YN s p⟩
 yld:=λi Fi H v H' d e s1 s2 y=>by
  obtain⟨x,q,hx,n,rfl,rfl⟩:=y;obtain⟨d1,e1,i1⟩:=t.get hx;have o:d=.tup [.int (i:Nat),d1]:=by unfold JS at e;rw[aJ,List.getElem?_zipIdx,e1]at e;simpa using e.symm
  subst o;obtain⟨g1,W⟩:=xn (u:=.tup [.int (i:Nat),x]) s2 n;exact⟨_,W,g1,.tup (.of qo) (.cons (.int _) (.cons ((i1.mono s1).mono W.grow) .nil))⟩
 stop:=λi H hi s=>by unfold JS at hi;rw[ah,List.length_zipIdx]at hi;exact⟨by rw[t.length];exact hi,YN s p⟩
section
variable{X:Cx}{C:Ct}{own:List Nat}{a:Z4}{fa:qV}{ma:Mo}{pos:Pos}
theorem qcS{k:SK}{ta:TA}{p tpos:Pos}{J:List Z4}{x1}(hg:Gl X "enumerate")(m:X.mg "enumerate"=iB)(f:PA X [a] ta)(hs:iI [a] X.env=[(iE,Z0 a X.env)]):PI X (.Tuple J x1 tpos) (.Call (.Name "enumerate" p) [a] [] pos) (λσ H R=>ta σ H λvs H1=>∃o xs,vs=[.ref o]/\SqK X.K H1 o k xs/\R (qio k X.K o xs) H1):=by
 refine⟨?_⟩;intro Z9 s σ H R I h;refine Call_ (yy I hg m qao (bD (thn (f pos Z9 s σ H _ I h) λus s1 z=>?_) hs rfl));obtain⟨vs,H1,d,r1,c⟩:=z;obtain⟨o,xs,rfl,w,q⟩:=c;obtain⟨i,rfl,e1⟩:=uO r1;cases e1;obtain⟨its,W,n,u,e0,L,_,A,_⟩:=Vn d w;have pl:=SeqK.of e0 A L;have t:o<s1.heap.objs.size:=pl.lt;refine Zi pl λh' g hit kp=>?_;refine wpAny_pyIter_enum g ?_;refine⟨s1.heap.objs.size+1,_,_,qio k X.K o xs,H1,rfl,d.kept (t':=s1.toks) kp,Zj s1.heap.objs.size o xs t,⟨⟨_,g⟩,hit,aZ _⟩,λb hb=>?_,q⟩;have e:s1.heap.objs.size<=b:=by
  simp only[ac,aY,or_false]at hb;rcases hb with rfl|rfl;·exact ce _ _
  .exact aq _
 exact d.fpOk e (d.hok.fresh e)
theorem zU{p tpos:Pos}{J:List Z4}{x1}(b:C.K=X.K)(hg:Gl X "enumerate")(m:X.mg "enumerate"=iB)(f:PE X a (tE C own ma fa))(h1:ma≠.any:=by decide)(hs:iI [a] X.env=[(iE,Z0 a X.env)]:=by exact qJ rfl):PI X (.Tuple J x1 tpos) (.Call (.Name "enumerate" p) [a] [] pos) (tIt C own (zF fa)):=by
 refine qco (qcS (k:=.l) hg m (qP (wC f h1) jC hs) hs) λσ H R ⟨F,ρ,e,h⟩=>⟨F,ρ,e,PoI.bindV h λv F1 H1 d ρ1 r g c h1=>?_⟩
 have c:Is C.K F1 v d:=c;cases c with
 |lst p t=>exact⟨_,_,rfl,by rw[<-b];exact r.sub.seq p,by rw[<-b];exact h1 _ F1 H1 r g (qfd (k:=.l) p t)⟩
 |_=>exact h1.elim
end
end L2.D2
namespace L2.D2
open PySem PySem.Spec PyProof.Rows
noncomputable def YO(t:Int)(ts:List Int):Int:=ts.foldl max t
theorem Ua:∀(ts:List Int)(t:Int),(YO t ts=t\/YO t ts∈ts)/\t<=YO t ts/\∀a∈ts,a<=YO t ts
 |[],t=>⟨.inl rfl,Int.le_refl _,λa h=>by cases h⟩
 | b::ts,t=>by
  obtain⟨h1,h2,g⟩:=Ua ts (max t b);have e:YO t (b::ts)=YO (max t b) ts:=rfl;rw[e];refine⟨?_,by lia,λa f=>?_⟩
  .rcases h1 with h1|h1
   .by_cases q:t<=b;·exact .inr (by rw[h1,show max t b=b by lia];exact au)
    .exact .inl (by rw[h1];lia)
   .exact .inr (ae _ h1)
  .rcases ac.mp f with rfl|f
   .lia
   .exact g a f
theorem qfe{t M:Int}{ts:List Int}(R:M∈t::ts)(h:∀a∈t::ts,a<=M):M=YO t ts:=by
 obtain⟨h1,h2,g⟩:=Ua ts t;have o:M<=YO t ts:=by
  rcases ac.mp R with rfl|q;·exact h2
  .exact g M q
 have m:YO t ts<=M:=by
  rcases h1 with q|q;·rw[q];exact h t au
  .exact h _ (ae _ q)
 lia
def qaB:D->Out D
 |.lst ds=>(match yp ds with
  |some (t::ts)=>.ok (.int (YO t ts))
  |_=>.bad)
 |_=>.bad
theorem qdT:∀{vs:List iC}{ns:List Int},IntsAre vs ns->PyProof.Rows.IntsAre vs ns
 |_,_,.nil=>.nil
 |_,_,.cons y t h=>.cons y t (qdT h)
section
variable{X:Cx}{C:Ct}{own:List Nat}{m ma mb:Mo}{a b e:Z4}{fa fb fe:qV}{apos cpos px:Pos}
theorem qff(E:C.K=X.K)(A:X.calm=iD):gl X C .sh (.builtin "max") qaB:=by
 intro Z9 s σ H xs us Q I r h;obtain⟨x,F,dx,rfl,c,g,po⟩:=h;cases dx with
 | lst ds=>
  obtain⟨u,rfl,l⟩:=uO r;obtain⟨a,vs,rfl,hq,m⟩:=g.lst c;cases l;rw[E]at hq;obtain⟨its,k,p,hz⟩:=I.list hq;have pl:s.heap.IsList a its.toArray:=by obtain⟨o,n,w,B,_,b⟩:=p;exact⟨o,w,B,n,b⟩
  have po:PoV C .sh F H (match yp ds with|some (t::ts)=>.ok (.int (YO t ts))|_=>.bad) Q:=po
  match e:yp ds with
  |none=>rw[e]at po;exact po.elim
  |some []=>rw[e]at po;exact po.elim
  | some (t::ts)=>
   rw[e]at po;have st:=qdT (WV m k e);obtain⟨ys,d⟩:=st.allInts.items;have y:t::ts=ys.toList.map (·.1):=by rw[<-st.numsOf,<-nums_intItems,<-d]
   have hsz:0<ys.size:=by
    have G:=congrArg fM y;simp at G
    lia
   rw[d]at pl;refine max_intList (I.ok.hd A) pl hsz λv h' tk q z=>?_;obtain⟨t',rfl⟩:=intItems_at q;obtain⟨h1,h2⟩:=argBest_gt (numAt ys) (ys.size - 1);have R:numAt ys (argBest (λi j=>decide (numAt ys i > numAt ys j)) (ys.size - 1))=YO t ts:=by
    refine qfe ?_ λa f=>?_;·rw[y,numAt_eq];exact getD_mem (by rw[ah,bm];lia)
    .rw[y]at f;obtain⟨j,D,rfl⟩:=mem_getD f;rw[ah,bm]at D;rw[<-numAt_eq];exact h2 j (by lia)
   rw[R];exact⟨.int (YO t ts),H,I.kept (t':=tk) z,⟨t',rfl⟩,po _ F H c .refl (.int _)⟩
 |_=>exact po.elim
noncomputable def qip(y:Str):iC->Bool
 |.str x _=>x.cps.toList == y.cps.toList
 |_=>iE
theorem qdU{y:Str}:∀(ss:List Str)(its:List iC),Vals (ss.map V.str) its->y∈ss->∃j,∃D:j<its.length,qip y its[j]=iD/\(∀m (c:m<its.length),m<j->qip y its[m]=iE)/\Vals ((ss.erase y).map V.str) (its.eraseIdx j)
 | x::ss,u::its,.cons r rs,hy=>by
  obtain⟨t,rfl⟩:=(show ∃t,u=df x t from r)
  by_cases q:x=y;·subst q;refine⟨0,by simp,by simp[qip],λm c h=>absurd h (dR _),?_⟩;rw[List.erase_cons_head];exact rs
  .obtain⟨j,D,h1,h2,g⟩:=qdU ss its rs ((ac.mp hy).resolve_left λz=>q z.symm);refine⟨j+1,by simp;omega,h1,λm c h=>?_,?_⟩
   .cases m with
    |zero=>show(x.cps.toList == y.cps.toList)=iE;refine beq_eq_false_iff_ne.mpr λz=>q ?_;obtain⟨x⟩:=x;obtain⟨y⟩:=y;have z:x.toList=y.toList:=z;rw[Array.toList_inj.mp z]
    |succ m=>exact h2 m (by simpa using c) (by omega)
   .rw[List.erase_cons_tail (by simpa using q)];exact .cons ⟨t,rfl⟩ g
def qjn:V->List V->Hp->VK->Prop:=λx vs H Q=>∃(l:Z7)(ss:List Str)(y:Str),x=.ref l/\vs=[.str y]/\H l=iw (.lst (ss.map V.str))/\y∈ss/\Q .non (upd H l (.lst ((ss.erase y).map V.str)))
theorem qhu:MtM X "list.remove" qjn:=by
 intro Z9 s σ H x vs v us Q I d g h;obtain⟨l,ss,y,rfl,rfl,c,o,q⟩:=h;cases d;obtain⟨u,rfl,k⟩:=g.one;obtain⟨t,rfl⟩:=k;obtain⟨z,its,n,r,hl,e⟩:=I.lstM c;obtain⟨j,D,h1,h2,A⟩:=qdU ss its r o;refine lJ PySem.F.slot_list_remove ⟨_,e,rfl⟩ PySem.F.entry_list_remove (PySem.F.args_list_remove_2 _ _)
  (MeetsSeq.list_remove l its.toArray n (.str y t) (qip y) (λw hw=>?_) j (by simpa using D) (by simpa using h1) (λm p b=>by simpa using h2 m (by simpa using p) b) (by rw[aj];lia)) ⟨e,?_⟩
 .obtain⟨i,hi,rfl⟩:=List.mem_iff_getElem.mp (show w∈its by simpa using hw);obtain⟨x,ex,d⟩:=Vals.getE r hi;rw[aJ]at ex;obtain⟨f,_,rfl⟩:=aP.mp ex;obtain⟨t',B⟩:=(show ∃t,its[i]=df f t from d)
  rw[B];exact SeqRoads2.EqGives.str _ _ _ _
 .refine⟨.non,_,I.lset (its':=its.eraseIdx j) c e ?_ A ?_,rfl,q⟩;·show its.toArray.eraseIdxIfInBounds j=(its.eraseIdx j).toArray;rw[List.eraseIdxIfInBounds_toArray]
  .have:=List.length_erase_le (a:=y) (l:=ss);rw[ah]at z ⊢
   lia
def qfg(ds:List D)(d:D):Out (List D):=match xw ds,d with
 |some ss,.str y=>if y∈ss then .ok ((ss.erase y).map D.str)else .bad
 |_,_=>.bad
theorem qhv{K:Y9}{F:Hp}{vs:List V}{ds:List D}{ss:List Str}(l:IsL K F vs ds)(e:xw ds=iw ss):vs=ss.map V.str/\∀x∈ss,x.length<=Z8:=by
 induction ds generalizing vs ss with
 |nil=>cases l;cases e;exact⟨rfl,λx h=>nomatch h⟩
 | cons d ds j=>
  cases l with
  | cons i l=>
   cases d with
   |str x=>
    obtain⟨s2,q,rfl⟩:=aP.mp (show(xw ds).map (x::·)=iw ss from e);obtain⟨h1,h2⟩:=j l q;cases i with
    |str hz=>exact⟨by rw[h1];rfl,λy k=>(ac.mp k).elim (λz=>z ▸ hz) (h2 y)⟩
   |_=>cases e
set_option tactic.hygienic true in
theorem qaC{i:Nat}{x:Str}{px apos cpos:Pos}(s:X.N[i]?=iw x)(o:Vis X.env.scope x)(p:i∈own)(q:PE X e (tE C own m fe))(j:m≠.any:=by decide)(hd:Dbg x:=by decide)(f:Cdk x:=by decide)(c:iY (.Name x px) "remove" X.env (Z0 (.Name x px) X.env)=Z0 (.Name x px) X.env:=by rfl)
  (w:((j0 cpos (iI [e] X.env)).all (λx=>!x.1)&&(lB cpos (j8 [] X.env)).all (λx=>x.1.isSome)
   && decide ([e].length+([]:List lr).length+(if ([]:List lr).isEmpty then 0 else 1)<30))=true:=by exact yC rfl)
  (b:(apos.endLine == cpos.line)=true:=by rfl) (hs:iI [e] X.env=[(iE,Z0 e X.env)]:=by exact qJ rfl) :
  PE X (.Call (.Attribute (.Name x px) "remove" apos) [e] [] cpos) (tE C own .sh (xP i qfg fe)):=by
 refine jy (qb7 dZ PySem.F.slot_list_remove PySem.F.type_list_remove qhu (vB s o hd f) (qP (wC q j) jC hs) c w b hs rfl) λσ H Q h=>?_;have r:∀(a:Z7)(xs:List V)(ds ys:List D)(v:V)(d:D)(F H:Hp),Same F H->H a=iw (.lst xs)->F a=iB->IsL C.K F xs ds->Is C.K F v d->qfg ds d=.ok ys->(∀zs,IsL C.K F zs ys->Q .non (upd H a (.lst zs)))->qjn (.ref a) [v] H Q:=λa xs ds ys v d F H u t A ix l g k=>by
  unfold qfg at g;split at g
  .rename_i ss y e1;split at g;·rename_i n;cases g;cases l;obtain⟨hx,hl⟩:=qhv ix e1;subst hx;exact⟨a,ss,y,rfl,rfl,t,n,k _ (JP λz hz=>hl z (List.mem_of_mem_erase hz))⟩
   .cases g
  .cases g
 obtain⟨a,xs,h1,h2,k⟩:=Yo (R:=λx v H Q=>qjn x [v] H Q) p j r h;exact⟨.ref a,h1,.inl ⟨rfl,xs,.inl (.inl h2)⟩,k⟩
theorem qhw{o e:Z4}{to:TE}{t:TA}{name:Str}{id:String}{r:V->List V->Hp->VK->Prop}(slot:Slot "tuple" name id)(y:typeOf (.builtin id)=pure (.type "method_descriptor"))(m:MtR X id r)(l:PE X o to)(j:PA X [e] t)(c:iY o name X.env (Z0 o X.env)=Z0 o X.env)
  (w:((j0 cpos (iI [e] X.env)).all (λx=>!x.1)&&(lB cpos (j8 [] X.env)).all (λx=>x.1.isSome)
   && decide ([e].length+([]:List lr).length+(if ([]:List lr).isEmpty then 0 else 1)<30))=iD)
  (b:(apos.endLine == cpos.line)=iD) (hs:iI [e] X.env=[(iE,Z0 e X.env)]) :
  PE X (.Call (.Attribute o name apos) [e] [] cpos) (λσ H Q=>to σ H λx H1=>(∃p xs,x=.ref p/\SqT X.K H1 p xs)/\t σ H1 λxs H2=>r x xs H2 Q):=by
 refine⟨?_⟩;intro Z9 s σ H Q I h;refine wpAny_Call_method_late c w b rfl (thn (l Z9 s σ H _ I h) λv s1 f=>?_);obtain⟨x,H1,d,r1,ty,g⟩:=f;obtain⟨p,xs,rfl,hq⟩:=ty;cases r1;obtain⟨o',e1,k⟩:=d.tupleN hq;obtain⟨its,u,⟨o2,D,i,_⟩,_⟩:=d.tuple hq;refine⟨"tuple",id,PySem.F.plainAttrs_tuple,slot,y,⟨o2,D,i⟩,λa z=>by cases z;exact⟨o',e1,k⟩,?_⟩;have hA:=j cpos Z9 s1 σ H1 _ d g;rw[hs]at hA ⊢;refine cZ rfl (fg ?_);exact thn hA λus s2 ⟨vs,H2,n,r2,q⟩=>m Z9 s2 σ H2 (.ref p) vs _ us Q n rfl r2 q
noncomputable def qgd:D->Bool
 |.tup _=>iD
 |_=>iE
def uV:D->D->Out D
 |.tup ds,e=>match QC 7 e ds with
  |some _=>.ok (.int ((ds.map λd=>eqN 7 d e == iw iD).countP id:Nat))
  |none=>.bad
 |_,_=>.bad
set_option tactic.hygienic true in
theorem qaD(E:C.K=X.K)(B:X.A.units+64<lc):MtD X C .sh "tuple.count" uV:=by
 intro Z9 s σ H x vs v us Q I k m h;obtain⟨y,F,dx,g,rfl,f,i,ty,po⟩:=h;rw[E]at i ty;obtain⟨u,rfl,q⟩:=m.one;unfold uV at po;cases dx <;> try exact po.elim
 rename_i ds;cases e:QC 7 g ds with
 |none=>simp only[e]at po;exact po.elim
 |some b=>simp only[e]at po;obtain⟨F',g',c,z⟩:=ty.is f;obtain⟨a,xs,rfl,p,l⟩:=i.tup f;cases k;obtain⟨its,r,pl,hz⟩:=I.tuple p;obtain⟨h1,h2⟩:=Vd (A:=X.A) (y:=.non) (a:=a) (u:=.none) I B c z q (l.mono g') r e;have D:=qai I c (l.mono g') r e;obtain⟨⟨cls,G,data,sl⟩,o,j,n,t⟩:=pl;simp only at j t;subst j t;refine lJ PySem.F.slot_tuple_count ⟨_,o,rfl⟩ PySem.F.entry_tuple_count (PySem.F.args_tuple_count_2 _ _) (SeqAt.tuple_countAt a _ n G sl u (ZC X F' 7 g)) ⟨o,λw hw=>h2 w hw,?_⟩;refine⟨.int ((ds.map λd=>eqN 7 d g == iw iD).countP id:Nat),H,I.tok _,⟨s.toks,?_⟩,po _ F H f .refl (.int _)⟩;rw[<-D,List.countP_map];rfl
theorem qaE(l:C.K=X.K)(u:X.A.units+64<lc)(g:PE X a (tE C own ma fa))(hb:PE X b (tE C own mb fb))(f:ma≠.any:=by decide)(c:iY a "count" X.env (Z0 a X.env)=Z0 a X.env:=by rfl)
  (w:((j0 cpos (iI [b] X.env)).all (λx=>!x.1)&&(lB cpos (j8 [] X.env)).all (λx=>x.1.isSome)
   && decide ([b].length+([]:List lr).length+(if ([]:List lr).isEmpty then 0 else 1)<30))=true:=by exact yC rfl)
  (e:(apos.endLine == cpos.line)=true:=by rfl) (hs:iI [b] X.env=[(iE,Z0 b X.env)]:=by exact qJ rfl) :
  PE X (.Call (.Attribute a "count" apos) [b] [] cpos) (tE C own .sh (dM qgd uV fa fb)):=by
 refine jy (qhw PySem.F.slot_tuple_count PySem.F.type_tuple_count (qaD l u) g (qP hb jC hs) c w e hs) λσ H Q h=>?_;obtain⟨F,ρ,p,h⟩:=qe9 (ma:=ma) (mb:=mb) f h;refine⟨F,ρ,p,Po.imp h λx H1 h1=>?_⟩;obtain⟨⟨F1,dx,s,d,k⟩,h2⟩:=h1;refine⟨?_,?_⟩
 .cases dx <;> try (cases k;done)
  obtain⟨a,vs,rfl,hq,t⟩:=d.tup s;exact⟨a,vs,rfl,by rw[<-l];exact hq⟩
 .obtain⟨i,ρ2,r,h2⟩:=h2;exact⟨i,ρ2,r,Po.imp h2 λy H2 q=>⟨y,q.choose,q.choose_spec.choose,q.choose_spec.choose_spec.choose,rfl,q.choose_spec.choose_spec.choose_spec⟩⟩
end
end L2.D2
namespace L2.D2
open PySem PySem.Spec PyProof.Rows PySem.W
variable{N:Nat}{s:iF}
theorem qdV{cmp:Nat->Nat->(Bool->iF->Prop)->iF->Prop}{Q:Nat->iF->Prop}(d:∀i,i+1<N->∀C:Bool->iF->Prop,C iE s->cmp (i+1) i C s):∀(f n:Nat),1<=n->n+f<=N->Q (n+f) s->(kas_asc (dF (aK N)) f n).kasWp cmp Q s
 | 0,n,_,_,h=>h
 |f+1,n,h1,h2,h=>by
  obtain⟨m,rfl⟩:∃m,n=m+1:=⟨n - 1,by lia⟩
  have e1:(dF (aK N)).getD (m+1) 0=m+1:=by simp[fY,show m+1<N by lia]
  have e:(dF (aK N)).getD (m+1 - 1) 0=m:=by simp[fY,show m<N by lia]
  show cmp ((dF (aK N)).getD (m+1) 0) ((dF (aK N)).getD (m+1 - 1) 0) _ s;rw[e1,e];refine d m (by lia) _ ?_;have h:Q (m+1+1+f) s:=by rw[show m+1+1+f=m+1+(f+1) by lia];exact h
  exact qdV d f (m+1+1) (by lia) (by lia) h
theorem qfh{cmp:Nat->Nat->(Bool->iF->Prop)->iF->Prop}{G:Array Nat->iF->Prop}(a:1<=N)(d:∀i,i+1<N->∀C:Bool->iF->Prop,C iE s->cmp (i+1) i C s)(h:G (dF (aK N)) s):(kas_sort N).kasWp cmp G s:=by unfold kas_sort kas_count;rw[KasT.kasWp_bind,KasT.kasWp_bind];refine qdV d (N - 1) 1 (aq _) (by lia) ?_;rw[show 1+(N - 1)=N by lia,Aa (by simp)];show(if N<N then _ else KasT.ret _:KasT (Array Nat)).kasWp cmp G s;rw[Ab (bS _)];exact h
variable{a:Z7}{vs:List iC}{n:Nat}
section
variable{prog:iK}{w:iL}{A:iT}{E:iC->iF->Prop}
theorem Ub{Gd:List iC->Prop}{P:PySem.Fin->iF->Prop}(l:s.heap.get? a=iw (lg "list" vs.toArray n))(m:vs.length<64)(t:vs.length<2->Gd vs)(k:2<=vs.length->∀h':Z5,(∀b o,b≠a->s.heap.get? b=iw o->h'.get? b=iw o)->∃κ,(∀Q:SortKind->iF->Prop,Q κ { s with heap:=h' }->iH (Z6 prog w) A (keyKind' vs.toArray) Q (λ_ _=>False) { s with heap:=h' })/\(kas_sort vs.length).kasWp (kas_ask prog w A κ vs) (λp s'=>Gd (p.toList.map λi=>vs.getD i bK)/\s'={ s with heap:=h' }) { s with heap:=h' })(h:∀out,Gd out->P (.done (.ret .none)) { s with heap:=sortedHeap s.heap a vs out.toArray }) :
  iH (Z6 prog w) A (Builtin.«list.sort» ⟨[.ref a],[]⟩) P E s:=by
 rw[list_sort_plain];have r:a<s.heap.objs.size:=aw l;refine iA (listItems_at l rfl ?_);refine iA (listUpdate_at l rfl ?_ (by rw[aj,iM];lia) (aZ _));obtain⟨e1,ho1⟩:∃e1,(s.heap.update a (br λ_=>#[])).get? a=iw (lg "list" #[] e1):=⟨_,get?_update_seq l (λ_=>#[])⟩
 refine iA (seqEpoch_at ho1 rfl ?_);refine iA (mi ?_ (by show vs.length<=_;rw[iM];lia));refine iA (wpAny_newList ?_ (aZ _));refine iR ?_;have c:(((s.heap.update a (br λ_=>#[])).push (lg "tuple" vs.toArray 0)).push (lg "list" #[] 0)).get? a=iw (lg "list" #[] e1):=by rw[eu _ _ _ (by rw[size_push',Heap.size_update];exact ax (cg r)),eu _ _ _ (by rw[Heap.size_update];exact ax r)];exact ho1
 have keep:∀b o,b≠a->s.heap.get? b=iw o->(((s.heap.update a (br λ_=>#[])).push (lg "tuple" vs.toArray 0)).push (lg "list" #[] 0)).get? b=iw o:=λb o hb e=>
  aa _ (aa _ (by rw[Heap.get?_update_ne _ _ _ _ hb];exact e))
 show iH (Z6 prog w) A _ P E { s with heap:=((s.heap.update a (br λ_=>#[])).push (lg "tuple" vs.toArray 0)).push (lg "list" #[] 0) };dsimp only;have hsz:vs.toArray.size=vs.length:=by simp
 have j:(vs.toArray.zip vs.toArray).map (·.2)=vs.toArray:=by apply Array.toList_inj.mp;rw[Array.toList_map,Array.toList_zip];exact List.map_snd_zip (aq _)
 by_cases h2:vs.toArray.size<2;·rw[Aa h2,Aa h2];refine iA (iG ?_);rw[StateT.run_pure];refine iA (iG ?_);dsimp only;have B:arrOf (SortSt.mk' general' (vs.toArray.zip vs.toArray) #[] 7 iB)=vs.toArray.zip vs.toArray:=rfl;refine iA (seqEpoch_at c rfl ?_);rw[B,j];refine iA (listUpdate_at c rfl ?_ (aZ _) (by rw[hsz,iM];lia));simp only[bne_self_eq_false,b9,if_false];exact iG (h vs (t (by rw[<-hsz];exact h2)))
 .rw[Ab h2,Ab h2];rw[hsz]at h2;obtain⟨κ,u,z⟩:=k (by lia) _ keep;refine iA (lI (u (λd s'=>d=κ/\s'={ s with heap:=((s.heap.update a (br λ_=>#[])).push (lg "tuple" vs.toArray 0)).push (lg "list" #[] 0) }) ⟨rfl,rfl⟩) (λd s' q=>?_) λ_ _ x=>x.elim);obtain⟨rfl,rfl⟩:=q;refine iA (lI (kat_run (Q:=λf s'=>(∃out,out.length=vs.length/\(arrOf f).map (·.2)=dF out/\Gd out)/\failedOf f=iB/\s'={ s with heap:=((s.heap.update a (br λ_=>#[])).push (lg "tuple" vs.toArray 0)).push (lg "list" #[] 0) })
   rfl (by lia) m (λH f s' G D C y=>⟨⟨_,by rw[ah,bm,G],kat_snds rfl D,y.1⟩,C,y.2⟩) z) ?_ λ_ _ e=>e)
  rintro⟨⟨⟩,f⟩ s' ⟨⟨out,hz,hp,g⟩,v,rfl⟩;dsimp only;refine iA (seqEpoch_at c rfl ?_);rw[hp];refine iA (listUpdate_at c rfl ?_ (aZ _) (by rw[aj,hz,iM];lia));rw[v];simp only[bne_self_eq_false,b9,if_false];exact iG (h out g)
theorem JY{P:PySem.Fin->iF->Prop}(l:s.heap.get? a=iw (lg "list" vs.toArray n))(j:vs.length<64)(c:2<=vs.length->∀h':Z5,(∀b o,b≠a->s.heap.get? b=iw o->h'.get? b=iw o)->∃κ,(∀Q:SortKind->iF->Prop,Q κ { s with heap:=h' }->iH (Z6 prog w) A (keyKind' vs.toArray) Q (λ_ _=>False) { s with heap:=h' })/\∀i,i+1<vs.length->∀C:Bool->iF->Prop,C iE { s with heap:=h' }->kas_ask prog w A κ vs (i+1) i C { s with heap:=h' })(h:P (.done (.ret .none)) { s with heap:=sortedHeap s.heap a vs vs.toArray }) :
  iH (Z6 prog w) A (Builtin.«list.sort» ⟨[.ref a],[]⟩) P E s:=by
 refine Ub (Gd:=(·=vs)) l j (λ_=>rfl) (λh2 h' k=>?_) λout e=>by rw[e];exact h
 obtain⟨κ,a,b⟩:=c h2 h' k;refine⟨κ,a,qfh (by lia) b ⟨et λi=>?_,rfl⟩⟩;by_cases hi:i<vs.length;·simp[hi]
 .simp[hi]
end
end L2.D2
namespace L2.D2
open PySem PySem.Spec PyProof.Rows
noncomputable def VC:D->Out D
 |.dct kvs=>.ok (.dct kvs)
 |_=>.bad
variable{X:Cx}{C:Ct}
set_option tactic.hygienic true in
theorem YQ(l:C.K=X.K):gl X C .fr (.type "dict") VC:=by
 intro Z9 s σ H xs us Q I r h;obtain⟨x,F,dx,rfl,t,g,po⟩:=h;cases dx <;> try exact po.elim
 rename_i ks;have po:PoV C .fr F H (.ok (.dct ks)) Q:=po;obtain⟨a,kv,rfl,hq,i⟩:=g.dct t;obtain⟨u,rfl,y⟩:=uO r;cases y;obtain⟨hz,S,vs,B,hd⟩:=(show ObjOk X.prog X.w H s.heap a (.dK kv)from I.hok a _ hq)
 have hl:=B.length;refine kt_call_dict S hd (by lia) λh' f d=>?_;have kp:∀b o,s.heap.get? b=iw o->h'.get? b=iw o:=λb o e=>(d.2 b (ax (aw e))).trans (aa _ e);have hp:H s.heap.objs.size=none:=I.hok.fresh (aq _);obtain⟨s2,c2,D⟩:=jL (u:=.dK kv) t hp;have c:(s.heap.objs.size == lb)=false:=beq_eq_false_iff_ne.mpr (cq I.big);exact⟨.ref s.heap.objs.size,_,I.laid (o:=.dK kv) (t':=s.toks) kp (aq _) (Gf hz c B f),rfl,po _ F _ s2 c2 ⟨_,rfl,hp,D,_,qo,i⟩⟩
def qcT{α:Type}(ds:List α)(lo hi:Option Int):List α:=(ds.drop (HT.sIx ds.length 0 lo)).take (HT.sIx ds.length ds.length hi - HT.sIx ds.length 0 lo)
def qhx(lo hi:Option Int):D->Out D
 |.lst ds=>.ok (.lst (qcT ds lo hi))
 |_=>.bad
def vi(fa:qV)(l u:Option (qV)):qV:=λρ=>(fa ρ).bind λp=>(JJ l p.2).bind λa=>(JJ u a.2).bind λb=>(qhx a.1 b.1 p.1).plain.bind λd=>.ok (d,b.2)
section
variable{own:List Nat}{e:Z4}{fa:qV}{ma:Mo}{pos p2:Pos}
theorem qjo(l:C.K=X.K):SlR X (λx lo hi H Q=>∃F d,Same F H/\Is C.K F x d/\PoV C .sh F H (qhx lo hi d) Q):=by
 intro Z9 s σ H x v vl c lo hi sl Q I r hs pl e h;obtain⟨F,d,b,is,po⟩:=h;cases d with
 | lst ds=>
  cases is with
  |@lst a xs _ hq t=>
   have po:PoV C .sh F H (.ok (.lst (qcT ds lo hi))) Q:=po;refine qeB Z9 s σ H _ v vl c lo hi sl Q I r hs pl e ⟨a,xs,rfl,by rw[<-l];exact b.seq hq,λp hp=>?_⟩;obtain⟨s2,c2⟩:=xn (u:=.lst (qey xs lo hi)) b hp;have i:IsL C.K F (qey xs lo hi) (qcT ds lo hi):=by unfold qey qcT;rw[t.length];exact IsL.take _ (IsL.drop _ t)
   exact po _ _ _ s2 c2 (.lst (.inl (.inl qo)) (i.mono c2.grow))
 |_=>exact po.elim
theorem VD{lo hi:Option Z4}{l u:Option (qV)}(n:C.K=X.K)(j:PE X e (tE C own ma fa))(hl:PO X lo (tO C own (JJ l)))(i:PO X hi (tO C own (JJ u)))(g:ma≠.any:=by decide):PE X (.Subscript e (.Slice lo hi iB p2) pos) (tE C own .sh (vi fa l u)):=by
 refine jy (qb6 (qjo (C:=C) n) (wC j g) hl i) λσ H Q ⟨F,ρ,p,h⟩=>⟨F,ρ,p,Po.bind h λv F1 H1 d ρ1 f s m h1=>?_⟩
 refine⟨F1,ρ1,f,Po.bindO h1 λq H2 a ρ2 r c2 h2=>⟨q,ρ2,r,Po.bindO h2 λF3 t b k c I o=>?_⟩⟩;exact⟨F3,d,c.sub,(m.mono c2.grow).mono I.grow,PoV.of c o⟩
end
theorem fsc{N P:List Str}{sc:lX}(a:sc.kind=.function:=by rfl)(b:sc.isCoroutine=false:=by rfl)(c:sc.isGenerator=false:=by rfl)(d:N.Nodup:=by decide +kernel)(e:N.take P.length=P:=by rfl)(f:∀x∈P,sc.names.lookup x=iw .local\/sc.names.lookup x=iw .cell:=by decide +kernel)(g:∀y∈sc.names,y.2≠.free:=by decide +kernel):FnScope N P sc:=⟨a,b,c,d,e,f,g⟩
end L2.D2
namespace L2.D2
open PySem PySem.Spec PyProof.Rows PySem.W
noncomputable def Qz(H:Hp)(l:List (Z7×List V)):Hp:=λb=>match l.lookup b with
 |some xs=>iw (.tup xs)
 |none=>H b
variable{α:Type}
theorem Jc{x:Z7}{a:α}:∀{l:List (Z7×α)},l.lookup x=iw a->(x,a)∈l
 |[],h=>by simp at h
 | (n,k)::r,h=>by
  rw[bJ]at h;by_cases e:(x == n)=iD
  .rw[e]at h;have h:iw k=iw a:=h;cases h;have:x=n:=by simpa using e
   rw[this];exact au ..
  .rw[Bool.not_eq_true]at e;rw[e]at h;exact ae _ (Jc h)
variable{H:Hp}{l:List (Z7×List V)}
theorem zV{b:Z7}(h:∀p∈l,p.1≠b):Qz H l b=H b:=by
 unfold Qz;cases e:l.lookup b with
 |none=>rfl
 |some xs=>exact absurd rfl (h _ (Jc e))
theorem jV{b:Z7}{o:HO}(n:∀p∈l,H p.1=iB)(e:H b=iw o):Qz H l b=iw o:=by rw[zV λp hp q=>?_,e];have:=n p hp;rw[q,e]at this;cases this
variable{X:Cx}{Z9:Pns}{σ:St}{F:Hp}{s:iF}{h':Z5}
section
theorem Inv.lays{t':Nat}(I:Inv X Z9 σ H s)(k:∀b u,s.heap.get? b=iw u->h'.get? b=iw u)(hp:∀p∈l,s.heap.objs.size<=p.1)(new:∀b xs,l.lookup b=iw xs->(xs.length<=Z8/\∃o,h'.get? b=iw o/\o.dict=iB)/\∃its:List iC,Vals xs its/\IsTup h' b its.toArray):Inv X Z9 σ (Qz H l) { s with heap:=h',toks:=t' }:=by
 have h:∀p∈l,H p.1=none:=λp hq=>I.hok.fresh (hp p hq);refine I.un ⟨λb u q _ _ _=>k b u q,λb u q _ _ _=>⟨u.slots,k b u q⟩,λb u q n _=>?_,λb u q _=>⟨u,k b u q⟩,λb xs q=>jV h q,λb u xs q=>jV h q,λb ps q=>⟨#[],by rw[jV h q];simp⟩⟩ λb u e=>?_
 .rw[zV λp hq z=>?_];·exact n
  .exact absurd (aw q) (by rw[<-z];exact Nat.not_lt.mpr (hp p hq))
 .cases q:l.lookup b with
  |some xs=>have e:Qz H l b=iw u:=e;unfold Qz at e;rw[q]at e;cases e;exact new b xs q
  |none=>have e:Qz H l b=iw u:=e;unfold Qz at e;rw[q]at e;exact(I.hok b u e).stay (λc v _ q=>k c v q) (λc q=>jV h q) λc xs q=>jV h q
theorem YR(t:Same F H)(n:∀p∈l,H p.1=iB):Same (Qz F l) (Qz H l)/\Chg No F H (Qz F l) (Qz H l):=by
 have D:∀p∈l,F p.1=none:=λp hp=>by
  cases q:F p.1 with
  |none=>rfl
  |some o=>have:=n p hp;rw[t _ o q]at this;cases this
 refine⟨λb o e=>?_,⟨λb o e _=>jV n e,λb e=>?_,λb o e=>jV D e,λb e=>?_⟩⟩
 .unfold Qz at e ⊢;cases q:l.lookup b with
  |some xs=>rw[q]at e;exact e
  |none=>rw[q]at e;exact t b o e
 .cases q:H b with
  |none=>exact absurd q e
  |some o=>rw[jV n q];simp
 .cases q:l.lookup b with
  |some xs=>exact .inr (.inl (n _ (Jc q)))
  |none=>have e:Qz F l b≠none:=e;unfold Qz at e;rw[q]at e;exact .inl e
end
variable{prog:iK}{w:iL}{A:iT}{E:iC->iF->Prop}
section
theorem VE{K:Type}[DecidableEq K]{knd:KeyKind prog w K}{r d:Z7}{kvs:List (K×iC)}{ep:Nat}{Q:iC->iF->Prop}(t:A.handled=iB)(v:s.heap.IsItemsView r d)(p:s.heap.DictAt knd d kvs ep)(c:kvs.length<64)(h:2<=kvs.length->∀(as:List Z7)(s':iF)(n:iT),as.length=kvs.length->KdxG knd kvs s.heap.objs.size s'.heap as->∃κ,(∀Q:SortKind->iF->Prop,Q κ s'->iH (Z6 prog w) n (keyKind' (as.map aM).toArray) Q (λ_ _=>False) s')/\∀i,i+1<kvs.length->∀C:Bool->iF->Prop,C iE s'->kas_ask prog w n κ (as.map aM) (i+1) i C s')(y:∀(h1 h':Z5)(tk e:Nat)(as:List Z7),(∀b o,s.heap.get? b=iw o->h1.get? b=iw o)->(∀b o,h1.get? b=iw o->h'.get? b=iw o)->as.length=kvs.length->KdxG knd kvs s.heap.objs.size h1 as->h'.get? h1.objs.size=iw (lg "list" (as.map aM).toArray e)->Q (.ref h1.objs.size) { s with heap:=h',toks:=tk }) :
  iH (Z6 prog w) A (call (.builtin "sorted") [.ref r]) Q E s:=by
 refine Calls.call_function_entry kind_sorted plain_sorted entry_sorted (args_sorted1 _) ?_;unfold Builtin.«sorted»;refine iA (m:=checkCount "sorted" 1 1 _) (iG ?_);refine iA (kdx_collect (A:=A.in1) (knd:=knd) (kvs:=kvs) (ep:=ep) t v p (by rw[iM];lia) λh1 tk as k1 hl G=>?_);have D:(as.map aM).length=kvs.length:=by rw[ah];exact hl
 refine iA (wpAny_newList ?_ (by rw[D,iM];lia));have W:(h1.push (lg "list" (as.map aM).toArray 0)).get? h1.objs.size=iw (lg "list" (as.map aM).toArray 0):=af _ rfl;have z:∀h2:Z5,(∀b o,b≠h1.objs.size->(h1.push (lg "list" (as.map aM).toArray 0)).get? b=iw o->h2.get? b=iw o)->KdxG knd kvs s.heap.objs.size h2 as:=λh2 k2=>
  ⟨G.rise,G.above,λj a q=>by obtain⟨key,k,x,e1,B,l⟩:=G.pairs j a q;exact⟨key,k,x,e1,B,k2 a _ (ax (aw l)) (aa _ l)⟩⟩
 refine iA (iR (iQ slot_list_sort (s:={ s with heap:=h1.push (lg "list" (as.map aM).toArray 0),toks:=tk }) ⟨_,W,rfl⟩ entry_list_sort (JY W (by rw[D];exact c) (λf h2 k2=>by rw[D]at f ⊢;exact h f as { s with heap:=h2,toks:=tk } _ hl (z h2 k2)) ⟨_,rfl,?_⟩) (args_list_sort _)));obtain⟨e,u⟩:=sortedHeap_at (out:=(as.map aM).toArray) W;refine iG ⟨_,rfl,y h1 _ tk e as k1 (λb o g=>?_) hl G u⟩;have hb:=aw g;rw[sortedHeap_old (ax hb) (by rw[aX];exact cg hb)];exact aa _ g
end
noncomputable def kD:Key->D
 |.inl i=>.int i
 |.inr x=>.str x
noncomputable def qfi:List Str->Bool
 |x::y::r=>decide (y≠x)&&!decide (y.cps.toList<x.cps.toList)&&qfi (y::r)
 |_=>iD
theorem qaF:∀{ss:List Str},qfi ss=iD->∀i x y,ss[i]?=iw x->ss[i+1]?=iw y->y≠x/\¬y.cps.toList<x.cps.toList
 |[],_,i,x,y,h1,_=>by simp at h1
 |[_],_,i,x,y,_,h2=>by simp at h2
 |a::b::r,h,i,x,y,h1,h2=>by
  unfold qfi at h;simp only[aO,decide_eq_true_eq,em,decide_eq_false_iff_not]at h;cases i with
  |zero=>cases h1;cases h2;exact h.1
  |succ i=>exact qaF h.2 i x y h1 h2
def YS(kvs:List (Key×D)):List D:=kvs.map λkv=>.tup [kD kv.1,kv.2]
def kW:D->Out D
 |.dct kvs=>(match WY kvs with
  |some ss=>if ss.length<64/\qfi ss=iD/\(ss.all λy=>decide (y.length<=Z8))=iD then .ok (.lst (YS kvs))else .bad
  |none=>.bad)
 |_=>.bad
theorem qdW{κ:Type}:∀{kv:List (κ×V)}{vs:List (κ×iC)},KV kv vs->∀(j:Nat)(k:κ)(x:iC),vs[j]?=iw (k,x)->∃v,kv[j]?=iw (k,v)/\RelV v x
 |_,_,.nil,j,k,x,h=>by simp at h
 |_,_,.cons (a:=p) (b:=q) r t,j,k,x,h=>by
  cases j with
  |zero=>cases h;obtain⟨p1,p2⟩:=p;obtain⟨rfl,r2⟩:=r;exact⟨p2,rfl,r2⟩
  |succ j=>exact qdW t j k x h
theorem qaG:∀{as:List Z7}{ys:List α}{b:Z7}{y:α},(as.zip ys).lookup b=iw y->∃j:Nat,as[j]?=iw b/\ys[j]?=iw y
 |[],_,b,y,h=>by simp at h
 |_::_,[],b,y,h=>by simp at h
 | a::as,z::ys,b,y,h=>by
  rw[fG,bJ]at h;by_cases e:(b == a)=iD
  .rw[e]at h;have h:iw z=iw y:=h;cases h;have:b=a:=by simpa using e
   rw[this];exact⟨0,rfl,rfl⟩
  .rw[Bool.not_eq_true]at e;rw[e]at h;obtain⟨j,h1,h2⟩:=qaG h;exact⟨j+1,h1,h2⟩
theorem qaH:∀{as:List Z7}{ys:List α}{j:Nat}{b:Z7}{y:α},as.Nodup->as[j]?=iw b->ys[j]?=iw y->(as.zip ys).lookup b=iw y
 |[],_,j,b,y,_,h,_=>by simp at h
 |_::_,[],j,b,y,_,_,h=>by simp at h
 |a::as,z::ys,0,b,y,_,h1,h2=>by cases h1;cases h2;rw[fG,bJ];simp
 |a::as,z::ys,j+1,b,y,n,h1,h2=>by
  rw[fG,bJ];have n:=ba.mp n;have:(b == a)=false:=by rw[beq_eq_false_iff_ne];intro q;rw[q]at h1;exact n.1 (eI.mpr ⟨j,h1⟩)
  rw[this];exact qaH n.2 h1 h2
theorem gT:∀as:List Z7,Vals (as.map V.ref) (as.map aM)
 |[]=>.nil
 |_::as=>.cons rfl (gT as)
variable{K:Y9}{F':Hp}
theorem VF(g:Same F F'):∀{kv:List (Key×V)}{ks:List (Key×D)}{as:List Z7},IsK K F kv ks->as.length=kv.length->(∀k∈ks.map (·.1),∃x:Str,k=.inr x/\x.length<=Z8) ->(∀(j:Nat)(a:Z7)(p:Key×V),as[j]?=iw a->kv[j]?=iw p->F' a=iw (.tup [kV p.1,p.2]))->IsL K F' (as.map V.ref) (YS ks)
 |_,_,[],.nil,_,_,_=>.nil
 |_,_,_::_,.nil,h,_,_=>by simp at h
 |_,_,[],.cons _ _,h,_,_=>by simp at h
 |_,_,a::as,.cons (k:=k) (v:=v) (d:=d) h t,hl,hk,hF=>by obtain⟨x,rfl,hx⟩:=hk _ (au ..);have e:=hF 0 a (.inr x,v) rfl rfl;exact .cons (.tup (.inl (.inl e)) (.cons (.str hx) (.cons (h.mono g) .nil))) (VF g t (by simpa using hl) (λk b=>hk k (ae _ b)) λj a p h1 h2=>hF (j+1) a p h1 h2)
variable{C:Ct}{own:List Nat}{ma:Mo}
section
variable{o:Z4}{fa:qV}{pos p apos cpos:Pos}
theorem VG (hK:C.K=X.K) (hc:X.calm=iD) (hg:Gl X "sorted") (hm:X.mg "sorted"=iB) (c:iJ "sorted"=iw (.builtin "sorted")) (ha:PE X o (tE C own ma fa))
  (m:iY o "items" X.env (Z0 o X.env)=Z0 o X.env:=by rfl) (g:(apos.endLine == cpos.line)=true:=by rfl)
  (he2:iI [.Call (.Attribute o "items" apos) [] [] cpos] X.env=[(iE,Z0 (.Call (.Attribute o "items" apos) [] [] cpos) X.env)]:=by exact qJ rfl) :
  PE X (.Call (.Name "sorted" p) [.Call (.Attribute o "items" apos) [] [] cpos] [] pos) (tE C own .fr (d1 kW fa)):=by
 refine⟨?_⟩;intro Z9 s σ H Q I h;refine i0 (yy I hg hm c ?_ (by decide) (by decide));rw[he2];refine cZ rfl (fg (fC ?_));refine wpAny_Call_method m rfl g PySem.F.plainAttrs_dict PySem.F.slot_dict_items PySem.F.type_dict_items (thn (ha Z9 s σ H _ I (XR (ma:=ma) h)) λu s1 z9=>?_);obtain⟨x,H1,R,rx,F,dx,sb,tx,po⟩:=z9;cases dx with
 | dct kvs=>
  obtain⟨a,kv,rfl,hH,Y⟩:=tx.dct sb;obtain rfl:u=aM a:=rx;obtain⟨t1,t2,f⟩:=qgO R (.inl ⟨kv,.inl hH⟩);refine⟨t1,t2,?_⟩;refine cZ rfl (PySem.evalArgs_none ?_);cases q:WY kvs with
  |none=>simp only[kW,q]at po;exact po.elim
  | some ss=>
   simp only[kW,q]at po;by_cases hl:ss.length<64/\qfi ss=iD/\(ss.all λy=>decide (y.length<=Z8))=iD
   ·rw [Aa hl]at po;obtain⟨l1,l2,l3⟩:=hl;obtain⟨hz,f,vs,rel,dd⟩:=(show ObjOk X.prog X.w H1 s1.heap a (.dK kv)from R.hok a _ hH)
    have hk:vs.map (·.1)=ss.map cH:=by rw[<-KV.keys rel,Y.keys,YM q]
    have hlen:vs.length=ss.length:=by have:=congrArg fM hk;simpa using this
    have hlk:kv.length=vs.length:=rel.length;refine call_meetsIn PySem.F.slot_dict_items dd.typeIs PySem.F.entry_dict_items (PySem.F.args_dict_items_1 _) (meets_dict_items (qZ X.prog X.w) a f) ⟨⟨vs,dd⟩,?_⟩;refine fL ?_;obtain⟨ep,da⟩:=dd.dictAt;have J:∀(j:Nat)(k:Key)(x:iC),vs[j]?=iw (k,x)->∃y,ss[j]?=iw y/\k=.inr y:=λj k x e=>by
     have D:(vs.map (·.1))[j]?=iw k:=by rw[aJ,e];rfl
     rw[hk,aJ]at D;obtain⟨y,P,A⟩:=aP.mp D;exact⟨y,P,A.symm⟩
    have r:∀{lo:Z7}{h:Z5}{as:List Z7},KdxG (qZ X.prog X.w) vs lo h as->∀(j:Nat)(b:Z7),as[j]?=iw b->∃y t x,ss[j]?=iw y/\vs[j]?=iw (.inr y,x)/\h.get? b=iw { cls:=.type "tuple",data:=.seq #[.str y t,x] }:=λG j b hj=>by
     obtain⟨key,k,x,e1,e2,D⟩:=G.pairs j b hj;obtain⟨y,P,rfl⟩:=J j k x e1;rcases jk (show zY (cH y) key=iD from e2)with⟨i,t,A,_⟩|⟨z,t,A,rfl⟩
     .cases A
     .cases A;exact⟨_,t,x,P,e1,D⟩
    refine VE (knd:=qZ X.prog X.w) (d:=a) (kvs:=vs) (ep:=ep) (I.ok.hd hc) ⟨_,af _ rfl,rfl,rfl⟩ (da.push _) (by lia) (λh2 as s' A' hla n=>?_) λh1 h' tk e as k1 k2 hla n hp=>?_
    .refine⟨tuples' iD,λQ' hQ'=>?_,λi hi C' hC=>?_⟩
     .obtain⟨fs,f1,f2,O⟩:∃fs:List iC,KatTups s'.heap (as.map aM) fs/\fs.length=as.length/\∀v∈fs,∃y t,v=df y t:=by
       have go:∀(l:List Z7),(∀b∈l,∃y t x,s'.heap.get? b=iw { cls:=.type "tuple",data:=.seq #[df y t,x] })->∃fs:List iC,KatTups s'.heap (l.map aM) fs/\fs.length=l.length/\∀v∈fs,∃y t,v=df y t:=by
        intro l
        induction l with
        |nil=>intro _;exact⟨[],.nil,rfl,λv c=>by cases c⟩
        |cons b l ih=>
         intro c;obtain⟨y,t,x,ho⟩:=c b (au ..);obtain⟨fs,f1,f2,O⟩:=ih λU h'=>c U (ae _ h');refine⟨df y t::fs,.cons ho rfl rfl (by simp) f1,by simp[f2],λU h'=>?_⟩;rcases ac.mp h' with rfl|h';·exact⟨_,_,rfl⟩
         .exact O U h'
       refine go as λb hb=>?_;obtain⟨j,hj⟩:=eI.mp hb;obtain⟨y,t,x,_,_,D⟩:=r n j b hj;exact⟨y,t,x,D⟩
      refine kat_kind (T:=.type "str") f1 (by lia) (λv c=>?_) (by decide) hQ';obtain⟨y,t,rfl⟩:=O v c;exact .now
     .have M:as[i+1]?=iw (as[i+1]'(by lia)):=aG _;have N:as[i]?=iw (as[i]'(by lia)):=aG _;obtain⟨y1,u1,x1,g1,_,g2⟩:=r n (i+1) _ M;obtain⟨y0,u0,x0,g3,_,g4⟩:=r n i _ N;obtain⟨n1,n2⟩:=qaF l2 i y0 y1 g3 g1;unfold kas_ask;rw[show(as.map aM).getD (i+1) .none=.ref (as[i+1]'(by lia)) by rw[bW,aJ,M];rfl,show(as.map aM).getD i .none=.ref (as[i]'(by lia)) by rw[bW,aJ,N];rfl];refine kat_lt g2 rfl g4 rfl (kat_cons (wpAny_eqBool_str ?_));rw[Ac n1];refine kat_no (oneLt_str ?_);rw[Ac n2];exact hC
    .have B:∀b o,s1.heap.get? b=iw o->h1.get? b=iw o:=λb o eb=>k1 b o (aa _ eb);have hsz:(s1.heap.push { cls:=.type "dict_items",data:=.fields #[.ref a] }).objs.size=s1.heap.objs.size+1:=aX ..;have hab:∀b∈as,s1.heap.objs.size<=b:=λb hb=>by have:=n.above b hb;have this:(s1.heap.push { cls:=.type "dict_items",data:=.fields #[.ref a] }).objs.size<b:=this;rw[hsz]at this;exact cm (Nat.lt_of_succ_lt this)
     have hnd:as.Nodup:=n.rise.imp λz=>ax z;have hlz:as.length=(kv.map λp=>[kV p.1,p.2]).length:=by rw[ah];lia
     have E:∀q∈as.zip (kv.map λp=>[kV p.1,p.2]),s1.heap.objs.size<=q.1:=λq hq=>hab _ (cF hq).1;have I2:Inv X Z9 σ (Qz H1 (as.zip (kv.map λp=>[kV p.1,p.2]))) { s1 with heap:=h1,toks:=tk }:=Inv.lays R B E λb xs hb=>by obtain⟨j,W,S⟩:=qaG hb;obtain⟨y,t,x,e1,e2,D⟩:=r n j b W;obtain⟨v,P,A⟩:=qdW rel j _ x e2;rw[aJ,P]at S;cases S;exact⟨⟨by show 2<=_;rw[iM];decide,_,D,rfl⟩,[.str y t,x],.cons ⟨t,rfl⟩ (.cons A .nil),_,D,rfl,_,rfl⟩
     have hq0:H1 h1.objs.size=none:=(R.kept (t':=tk) B).hok.fresh (aq _);have Z:Qz H1 (as.zip (kv.map λp=>[kV p.1,p.2])) h1.objs.size=none:=I2.hok.fresh (aq _);obtain⟨s2,c2⟩:=YR (l:=as.zip (kv.map λp=>[kV p.1,p.2])) sb λq hq=>R.hok.fresh (E q hq);obtain⟨s3,c3,O⟩:=jL (u:=.lst (as.map V.ref)) s2 Z;have il:=VF (as:=as) c2.grow Y (by lia) (λk L=>by
      rw[<-Y.keys,KV.keys rel,hk]at L;obtain⟨y,hy,rfl⟩:=ay.mp L;exact⟨y,rfl,Ae (aI.mp l3 y hy)⟩) λj b q W S=>by
      unfold Qz;rw[qaH hnd W (by rw[aJ,S];rfl)]
     exact⟨.ref h1.objs.size,_,I2.laid (t':=tk) (o:=.lst (as.map V.ref)) k2 (aq _) ⟨by rw[ah,iM];lia,as.map aM,e,gT as,by simpa[lg]using hp⟩,rfl,po _ _ _ s3 (c2.trans' c3) ⟨_,rfl,hq0,O,_,qo,il⟩⟩
   .rw[Ab hl]at po;exact po.elim
 |_=>exact po.elim
end
variable{z:Z7}{i:Nat}{Q:Bool->iF->Prop}
section
variable{TI TO i1 i2:Z7}{fp1 fp2:List Z7}{n1 n2:Nat}{P1 P2:Nat->iC->Prop}{S1 S2:Nat->Z5->Prop}{a b:iC}
abbrev uW(h:Z5)(z TI TO:Z7)(p:Nat):Prop:=∃c:Bool,h.get? z=iw { cls:=.type "zip",dict:=iB,data:=.fields #[iX p,.bool c,.bool iE,.ref TI,.ref TO],slots:=#[] }
theorem YT{p:Nat}(hz:uW s.heap z TI TO p)(hp:∃o,s.heap.get? p=iw o)(h:∀h',uW h' z TI TO p->bh z s.heap h'->Q iE { s with heap:=h' }):iH (Z6 prog w) A (aT (.ref z)) Q E s:=by
 obtain⟨c,hz⟩:=hz;obtain⟨o,l⟩:=hp;unfold aT;refine iA (iV hz rfl (x:=iX p) rfl ?_);show iH _ _ (loadIfAlive (Int.toNat p) >>= _) _ _ _;rw[eh];refine iA (kdx_alive l ?_);rw[Ab (by simp)];refine iA (iV hz rfl (x:=.bool c) rfl ?_);cases c with
 |true=>rw[Ab (by decide)];exact iG (h s.heap ⟨iD,hz⟩ ⟨rfl,λ_ _=>rfl⟩)
 |false=>rw[Aa (by decide)];refine iA (j5 hz (by simp) λh₁ r k=>iG (h h₁ ⟨iD,r⟩ k))
theorem qaI{p:Nat}{Q:iC->iF->Prop}(D:Apart2 z TI TO i1 i2 fp1 fp2)(b:lV prog w A i1 fp1 n1 P1 S1)(P:lV prog w A i2 fp2 n2 P2 S2)(hz:uW s.heap z TI TO p)(hp:∃o,s.heap.get? p=iw o)(Y:iW s.heap TI (.ref i1) (.ref i2))(h1:S1 i s.heap)(h2:S2 i s.heap)(g:i<n1)(l:i<n2)(t:∀x y h' tk,P1 i x->P2 i y->uW h' z TI TO p->S1 (i+1) h'->S2 (i+1) h'->iW h' s.heap.objs.size x y ->(∀c o,c≠z->c≠i1->c≠i2->s.heap.get? c=iw o->h'.get? c=iw o)->Q (.ref s.heap.objs.size) { s with heap:=h',toks:=tk }) :
  iH (Z6 prog w) A (Builtin.«zip.__next__» ⟨[.ref z],[]⟩) (λfin s'=>∃v,fin=.done (.ret v)/\Q v s') E s:=by
 obtain⟨C,a⟩:=id hz;show iH _ _ (field (.ref z) 2 >>= _) _ _ _;refine iA (iV a rfl (x:=.bool iE) rfl ?_);show iH _ _ (field (.ref z) 3 >>= _) _ _ _;refine iA (iV a rfl (x:=.ref TI) rfl ?_);refine iA (iU Y rfl ?_);show iH _ _ (aT (.ref z) >>= _) _ _ _;refine iA (YT hz hp λh₁ r k=>?_);simp only[b9,if_false];refine iA ?_;rw[<-Array.forIn_toList];simp only[dQ,fF];refine iA (iA (iR ?_));show iH _ _ (aQ (.ref i1) >>= _) _ _ _;refine iA (b.item i _ _ _ g (b.frame _ _ _ h1 λc d o e=>k.extBut _ _ (λq=>D.z1 (q ▸ d)) e) λx u W hx N j=>iG ?_);refine iG ?_;refine iA (iA (iR ?_));show iH _ _ (aQ (.ref i2) >>= _) _ _ _;refine iA (P.item i _ _ _ l (P.frame _ _ _ h2 λc d o e=>(j.2 _ (λq=>D.a12 (q ▸ d))).trans (k.extBut _ _ (λq=>D.z2 (q ▸ d)) e)) λy h L n M f=>iG ?_);refine iG (iG ?_);show iH _ _ (newTuple [x,y] >>= _) _ _ _;refine iA (mi ?_);have hsz:h.objs.size=s.heap.objs.size:=by rw[f.1,j.1,k.1]
 refine iG ⟨_,rfl,?_⟩;show Q (.ref h.objs.size) _;rw[hsz];have up:∀c o,h.get? c=iw o->(h.push { cls:=.type "tuple",data:=.seq #[x,y] }).get? c=iw o:=λc o e=>aa _ e;obtain⟨B,r⟩:=r;refine t x y _ L hx n ⟨B,up _ _ ((f.2 _ D.i2z.symm).trans ((j.2 _ D.i1z.symm).trans r))⟩ (b.frame _ _ _ N λc d o e=>up _ _ ((f.2 _ (λq=>D.a21 (q ▸ d))).trans e)) (P.frame _ _ _ M λc d o e=>up _ _ e) (by rw[<-hsz];exact af _ rfl) λc o k1 k2 m e=>up c o ((f.2 _ m).trans ((j.2 _ k2).trans (k.extBut _ _ k1 e)))
theorem qcU{p:Nat}{Q:Fin->iF->Prop}(D:Apart2 z TI TO i1 i2 fp1 fp2)(M:lV prog w A i1 fp1 n1 P1 S1)(P:lV prog w A i2 fp2 n2 P2 S2)(hz:uW s.heap z TI TO p)(hp:∃o,s.heap.get? p=iw o)(Y:iW s.heap TI (.ref i1) (.ref i2))(h1:S1 i s.heap)(h2:S2 i s.heap)(y:i=n1\/(i<n1/\i=n2))(b:∀h' tk e,(∀c o,c≠z->c≠i1->c≠i2->s.heap.get? c=iw o->h'.get? c=iw o)->(∃o,h'.get? e=iw o/\o.cls=.type "StopIteration")->E (.ref e) { s with heap:=h',toks:=tk }) :
  iH (Z6 prog w) A (Builtin.«zip.__next__» ⟨[.ref z],[]⟩) Q E s:=by
 obtain⟨L,a⟩:=id hz;show iH _ _ (field (.ref z) 2 >>= _) _ _ _;refine iA (iV a rfl (x:=.bool iE) rfl ?_);show iH _ _ (field (.ref z) 3 >>= _) _ _ _;refine iA (iV a rfl (x:=.ref TI) rfl ?_);refine iA (iU Y rfl ?_);show iH _ _ (aT (.ref z) >>= _) _ _ _;refine iA (YT hz hp λh₁ r k=>?_);simp only[b9,if_false];refine iA ?_;rw[<-Array.forIn_toList];simp only[dQ,fF];refine iA (iA (iR ?_));show iH _ _ (aQ (.ref i1) >>= _) _ _ _;have f1:S1 i h₁:=M.frame _ _ _ h1 λc d o e=>k.extBut _ _ (λq=>D.z1 (q ▸ d)) e;rcases y with rfl|⟨hlt,rfl⟩
 .refine iA (M.done _ _ _ f1 λu e j g=>?_);exact b u s.toks e (λc o k1 k2 _ x=>j _ _ k2 (k.extBut _ _ k1 x)) g
 .refine iA (M.item i _ _ _ hlt f1 λx u W hx N j=>iG ?_);refine iG ?_;refine iA (iA (iR ?_));show iH _ _ (aQ (.ref i2) >>= _) _ _ _;refine iA (P.done _ _ _ (P.frame _ _ _ h2 λc d o e=>(j.2 _ (λq=>D.a12 (q ▸ d))).trans (k.extBut _ _ (λq=>D.z2 (q ▸ d)) e)) λh e f g=>?_);exact b h W e (λc o k1 k2 m x=>f _ _ m ((j.2 _ k2).trans (k.extBut _ _ k1 x))) g
theorem VH{p:Nat}{Q:Option iC->iF->Prop}(D:Apart2 z TI TO i1 i2 fp1 fp2)(M:lV prog w A.in1 i1 fp1 n1 P1 S1)(P:lV prog w A.in1 i2 fp2 n2 P2 S2)(hz:uW s.heap z TI TO p)(hp:∃o,s.heap.get? p=iw o)(Y:iW s.heap TI (.ref i1) (.ref i2))(h1:S1 i s.heap)(h2:S2 i s.heap)(a:i<n1)(l:i<n2)(h:∀x y h' tk,P1 i x->P2 i y->uW h' z TI TO p->S1 (i+1) h'->S2 (i+1) h'->iW h' s.heap.objs.size x y ->(∀c o,c≠z->c≠i1->c≠i2->s.heap.get? c=iw o->h'.get? c=iw o)->Q (iw (.ref s.heap.objs.size)) { s with heap:=h',toks:=tk }):iH (Z6 prog w) A (j7 (.ref z)) Q E s:=by
 have m:s.TypeIs (.ref z) "zip":=let ⟨_,e⟩:=hz; ⟨_,e,rfl⟩
 unfold j7;exact iA (j6 (iO (name:=ab "__next__") m bC (iQ bC m c8
  (qaI D M P hz hp Y h1 h2 a l λx y h' tk g f d q b k j=>iG (h x y h' tk g f d q b k j)) (cV _))))
theorem Uc{p:Nat}{Q:Option iC->iF->Prop}(D:Apart2 z TI TO i1 i2 fp1 fp2)(M:lV prog w A.in1 i1 fp1 n1 P1 S1)(P:lV prog w A.in1 i2 fp2 n2 P2 S2)(hz:uW s.heap z TI TO p)(hp:∃o,s.heap.get? p=iw o)(Y:iW s.heap TI (.ref i1) (.ref i2))(h1:S1 i s.heap)(h2:S2 i s.heap)(y:i=n1\/(i<n1/\i=n2))(h:∀h' tk,(∀c o,c≠z->c≠i1->c≠i2->s.heap.get? c=iw o->h'.get? c=iw o)->Q iB { s with heap:=h',toks:=tk }):iH (Z6 prog w) A (j7 (.ref z)) Q E s:=by
 have m:s.TypeIs (.ref z) "zip":=let ⟨_,e⟩:=hz; ⟨_,e,rfl⟩
 unfold j7;refine iA (j6 (iO (name:=ab "__next__") m bC (iQ bC m c8 (qcU D M P hz hp Y h1 h2 y λh' tk e k g=>?_) (cV _))));obtain⟨o,l,d⟩:=g;refine iA (li (T := "StopIteration") (b:=iD) ⟨o,l,d⟩ mf ?_);exact iG (h _ _ k)
end
theorem ad{x y:Nat}(h:x<y\/y<x):x≠y:=by lia
def N4(b q:Nat):Prop:=q≠b+4/\q≠b+3/\q≠b/\q≠b+1
variable{b:Nat}
theorem lo4{q:Nat}(h:q<b):N4 b q:=by unfold N4;lia
theorem hi4{q:Nat}(h:b+4<q):N4 b q:=by unfold N4;lia
theorem mi4:N4 b (b+2):=by unfold N4;lia
structure ZG(xs ys:Array iC)(lo:Nat)(h:Z5)(as:List Z7):Prop where
 rise:as.Pairwise (· < ·)
 above:∀a∈as,lo<a
 pairs:∀(j:Nat)(a:Z7),as[j]?=iw a->∃x y,xs[j]?=iw x/\ys[j]?=iw y/\iW h a x y
variable{xs ys:Array iC}
theorem ZG.mono{lo:Nat}{h:Z5}{as:List Z7}(g:ZG xs ys lo h as)(k:∀c o,lo<c->h.get? c=iw o->h'.get? c=iw o):ZG xs ys lo h' as:=
 ⟨g.rise,g.above,λj a D=>by obtain⟨x,y,e1,i,e⟩:=g.pairs j a D;exact⟨x,y,e1,i,k _ _ (g.above a (dA D)) e⟩⟩
def ZSt(h:Z5)(b i:Nat)(as:List Z7):Prop:=(i=0/\lW h (b+4) (b+2) (b+3) .none/\∃u v,iW h (b+3) u v)\/∃p,as[0]?=iw p/\uW h (b+4) (b+2) (b+3) p
variable{a:Z7}
theorem ItK.at{h:Z5}{it:Z7}{k:SK}(x:ItK h it a k i)(f:∀o,h.get? it=iw o->h'.get? it=iw o):ItK h' it a k i:=by obtain⟨o,e,c,d⟩:=x.obj;exact .of ⟨o,f _ e,c,d⟩
section
variable{R:mR->iF->Prop}
theorem qcV{E C S:Nat}{k1 k2:SK}{ys:Array iC}(hh:A.handled=iB)(h1:E<b)(h2:C<b)(m:b+4<S)(hn:xs.size<=Z8)(res:iC){h₁:Z5}(hR:∀h' tk acc c as,(∀q o,q<b->h₁.get? q=iw o->h'.get? q=iw o)->h'.get? S=iw { cls:=.type "list",dict:=iB,data:=.seq acc c,slots:=#[] }->as.length=min xs.size ys.size->ZG xs ys S h' as ->acc.toList=as.map aM->R (.ok (.ret res)) { s with heap:=h',toks:=tk }) :
  ∀(k i:Nat)(h:Z5)(tk c:Nat)(acc:Array iC)(as:List Z7),min xs.size ys.size - i=k->i<=min xs.size ys.size->ZSt h b i as->iW h (b+2) (.ref b) (.ref (b+1))->ItK h b E k1 i->ItK h (b+1) C k2 i->SeqK h E k1 xs->SeqK h C k2 ys ->(∀q o,q<b->h₁.get? q=iw o->h.get? q=iw o)->h.get? S=iw { cls:=.type "list",dict:=iB,data:=.seq acc c,slots:=#[] }->acc.toList=as.map aM->as.length=i->ZG xs ys S h as ->lq (Z6 prog w) A (.builtin "list.extend.loop" ⟨[.ref S,.ref (b+4),res],[]⟩) R { s with heap:=h,toks:=tk }:=by
 have D:=gI b E C h1 h2;have D1:lV prog w A.in1.in1 b [b,E] xs.size (λi v=>xs[i]?=iw v) (λi h=>ItK h b E k1 i/\SeqK h E k1 xs):=xU (A:=A.in1.in1) hh k1 b E (ax h1) xs;have D2:lV prog w A.in1.in1 (b+1) [b+1,C] ys.size (λi v=>ys[i]?=iw v) (λi h=>ItK h (b+1) C k2 i/\SeqK h C k2 ys):=xU (A:=A.in1.in1) hh k2 (b+1) C (ad (by lia)) ys;have s0:b≠S:=by lia
 have s1:b+1≠S:=by lia
 have s2:b+2≠S:=by lia
 have s4:b+4≠S:=by lia
 have w1:E≠S:=by lia
 have w2:C≠S:=by lia
 have sq:∀{q},q<b->q≠S:=λh=>by lia
 intro k
 induction k with
 | zero=>
  intro i h tk c acc as hk hi N Y W V q1 Z d hS r B G;have L:i=xs.size\/(i<xs.size/\i=ys.size):=by lia
  refine iZ PySem.F.entry_extend_loop ?_;rw[bt b4 _];show iH _ A.in1 (j7 (.ref (b+4)) >>= _) _ _ _;rcases N with⟨_,hz,u,v,X⟩|⟨p,hp,hz⟩
  .refine iA (QX (s:={ s with heap:=h,toks:=tk }) D D1 D2 hz Y X ⟨W,q1⟩ ⟨V,Z⟩ L λh' t he=>?_);have l:∀q o,N4 b q->h.get? q=iw o->h'.get? q=iw o:=λq o n=>he q o n.1 n.2.1 n.2.2.1 n.2.2.2;exact iG (hR h' t acc c as (λq o h1 e=>l q o (lo4 h1) (d q o h1 e)) (l S _ (hi4 m) hS) (by lia) (G.mono λc o hc e=>l c o (hi4 (cr m hc)) e) r)
  .have O:∃o,h.get? p=iw o:=by obtain⟨x,y,_,_,e3⟩:=G.pairs 0 p hp;exact⟨_,e3⟩
   refine iA (Uc (s:={ s with heap:=h,toks:=tk }) D D1 D2 hz O Y ⟨W,q1⟩ ⟨V,Z⟩ L λh' t he=>?_);have l:∀q o,N4 b q->h.get? q=iw o->h'.get? q=iw o:=λq o n=>he q o n.1 n.2.2.1 n.2.2.2;exact iG (hR h' t acc c as (λq o h1 e=>l q o (lo4 h1) (d q o h1 e)) (l S _ (hi4 m) hS) (by lia) (G.mono λc o hc e=>l c o (hi4 (cr m hc)) e) r)
 | succ k ih=>
  intro i h tk c acc as hk hi N Y W V q1 Z d hS r B G;have J:i<xs.size:=by lia
  have I:i<ys.size:=by lia
  have hsz:acc.size=i:=by rw[<-bm,r,ah,B]
  have hSl:S<h.objs.size:=aw hS;have step:∀(x y:iC)(h':Z5)(t:Nat),xs[i]?=iw x->ys[i]?=iw y->(∀H:List Z7,H[0]?=(as++[h.objs.size])[0]?->∃p,H[0]?=iw p/\uW h' (b+4) (b+2) (b+3) p)->(ItK h' b E k1 (i+1)/\SeqK h' E k1 xs)->(ItK h' (b+1) C k2 (i+1)/\SeqK h' C k2 ys)->iW h' h.objs.size x y ->(∀c o,N4 b c->h.get? c=iw o->h'.get? c=iw o) ->
    iH (Z6 prog w) A.in1 (my S (·.push (aM h.objs.size)) >>= λ_=>again (.builtin "list.extend.loop" ⟨[.ref S,.ref (b+4),res],[]⟩))
     (λfin s'=>match fin with|.done f=>R (.ok f) s'|.again c'=>c'.quiet=iD/\lq (Z6 prog w) A c' R s') (λe s'=>R (.error e) s') { s with heap:=h',toks:=t }:=by
   intro x y h' t ex ey hzz U T z g;have hS':=g S _ (hi4 m) hS;have up:∀q o,q≠S->h'.get? q=iw o->(h'.update S (br (·.push (aM h.objs.size)))).get? q=iw o:=λq o hq e=>(bu _ _ (aW hq)).trans e;refine iA (lz hS' rfl (iG ⟨lp b4 _,ih (i+1) _ t _ (acc.push (aM h.objs.size)) (as++[h.objs.size]) (by lia) (by lia) ?_ (up _ _ s2 (g _ _ mi4 Y)) (U.1.at λo e=>up _ o s0 e) (T.1.at λo e=>up _ o s1 e)
    (U.2.at λo e=>up _ o w1 e) (T.2.at λo e=>up _ o w2 e) (λq o hq e=>up q o (sq hq) (g q o (lo4 hq) (d q o hq e))) (aV _ hS' rfl) (by rw[fO,r,de];rfl) (by rw[am,B];rfl) ⟨?_,?_,?_⟩⟩)
    (by rw[hsz];lia) (by show(acc.push (aM h.objs.size)).size<=Z8+1;rw[Array.size_push];lia))
   .obtain⟨p,hp,c',hz⟩:=hzz (as++[h.objs.size]) rfl;exact .inr ⟨p,hp,c',up _ _ s4 hz⟩
   .refine List.pairwise_append.mpr ⟨G.rise,cU _ _,λa Q b' hb=>?_⟩;rw[aN.mp hb];obtain⟨j,K⟩:=eI.mp Q;obtain⟨_,_,_,_,e⟩:=G.pairs j a K;exact aw e
   .intro a Q;rcases bf.mp Q with Q|Q;·exact G.above a Q
    .rw[aN.mp Q];exact hSl
   .intro j a K;rcases Nat.lt_trichotomy j as.length with g1|g1|g1
    .rw[cD g1]at K;obtain⟨x',y',e1,e2,e3⟩:=G.pairs j a K;have hb:=G.above a (dA K);exact⟨x',y',e1,e2,up a _ (cq hb) (g a _ (hi4 (cr m hb)) e3)⟩
    .subst g1;have hb:h.objs.size=a:=by simpa using K
     subst hb;exact⟨x,y,by rw[B];exact ex,by rw[B];exact ey,up _ _ (cq hSl) z⟩
    .have P:(as++[h.objs.size])[j]?=none:=bA (by rw[am,dh];lia);rw[P]at K;cases K
  refine iZ PySem.F.entry_extend_loop ?_;rw[bt b4 _];show iH _ A.in1 (j7 (.ref (b+4)) >>= _) _ _ _;rcases N with⟨hi0,hz,u,v,X⟩|⟨p,hp,hz⟩
  .have has:as=[]:=List.length_eq_zero_iff.mp (by lia);refine iA (gH (s:={ s with heap:=h,toks:=tk }) D D1 D2 hz Y X ⟨W,q1⟩ ⟨V,Z⟩ J I λx y h' t p1 p2 M hTO' U T z g=>?_);exact step x y h' t p1 p2 (λH e=>⟨h.objs.size,by rw[e,has];rfl,iE,M⟩) U T z λc o n e=>g c o n.1 n.2.1 n.2.2.1 n.2.2.2 e
  .have O:∃o,h.get? p=iw o:=by obtain⟨x,y,_,_,e3⟩:=G.pairs 0 p hp;exact⟨_,e3⟩
   refine iA (VH (s:={ s with heap:=h,toks:=tk }) D D1 D2 hz O Y ⟨W,q1⟩ ⟨V,Z⟩ J I λx y h' t p1 p2 M U T z g=>?_);exact step x y h' t p1 p2 (λH e=>⟨p,by rw[e];cases as with|nil=>simp at hp|cons a as=>exact hp,M⟩) U T z λc o n e=>g c o n.1 n.2.2.1 n.2.2.2 e
end
theorem qaJ:mE (.type "zip") "__len__"=pure none:=by rw[ly,i9];kernel_rfl
theorem Zk:mE (.type "zip") "__length_hint__"=pure none:=by rw[ly,i9];kernel_rfl
section
theorem qcW(m:s.TypeIs (.ref z) "zip")(h:Q iD s):iH (Z6 prog w) A (dq (.ref z)) Q E s:=by unfold dq;refine iA (wpAny_specialOf m qaJ ?_);show iH _ _ (specialOf (aM z) (ab "__length_hint__") >>= _) _ _ _;refine iA (wpAny_specialOf m Zk ?_);exact iG h
theorem qcX{D C:Nat}{k1 k2:SK}{ys:Array iC}{Q:iC->iF->Prop}(M:A.handled=iB)(h1:D<b)(h2:C<b)(hsz:s.heap.objs.size=b+5)(K:xs.size<=Z8)(hz:lW s.heap (b+4) (b+2) (b+3) .none)(Y:iW s.heap (b+2) (.ref b) (.ref (b+1)))(X:∃u v,iW s.heap (b+3) u v)(H:ItK s.heap b D k1 0)(G:ItK s.heap (b+1) C k2 0)(J:SeqK s.heap D k1 xs)(I:SeqK s.heap C k2 ys)(O:∀h' tk acc c as,(∀q o,q<b->s.heap.get? q=iw o->h'.get? q=iw o)->h'.get? (b+5)=iw { cls:=.type "list",dict:=iB,data:=.seq acc c,slots:=#[] }->as.length=min xs.size ys.size->ZG xs ys (b+5) h' as->acc.toList=as.map aM->Q (.ref (b+5)) { s with heap:=h',toks:=tk }) :
  iH (Z6 prog w) A (call (.type "list") [.ref (b+4)]) Q E s:=by
 refine callType_codes (Q₁:=λobj l=>obj=.ref s.heap.objs.size/\l={ s with heap:=s.heap.push { cls:=.type "list",data:=.seq #[] } }) PySem.F.called_list (PySem.F.typeCall_list_1 _) PySem.F.entry_list_init
  (code_list_new _ ⟨rfl,rfl⟩) λobj l h₁=>?_
 obtain⟨rfl,rfl⟩:=h₁;have S:(s.heap.push { cls:=.type "list",data:=.seq #[] }).get? s.heap.objs.size=iw { cls:=.type "list",data:=.seq #[] }:=af _ rfl;rw[hsz]at S ⊢;refine⟨⟨_,S,rfl⟩,PySem.F.args_list_init_2 _ _,?_⟩;show iH _ _ (do let old <-Builtin.List.listItems (.ref (b+5));Builtin.List.listUpdate (.ref (b+5)) (λ_=>#[]);letGo old.toList.reverse;bR (.ref (b+5)) (.ref (b+4)) .none) _ _ _;refine iA ?_;unfold Builtin.List.listItems;refine iA (iU S rfl (iG ?_));show iH _ _ (my (b+5) (λ_=>#[]) >>= λ_=>letGo (#[]:Array iC).toList.reverse >>= λ_=>bR (.ref (b+5)) (.ref (b+4)) .none) _ _ _;refine iA (lz S rfl ?_);have g:=aV (br (λ_=>(#[]:Array iC))) S rfl;have d:∀q o,q≠b+5->s.heap.get? q=iw o->((s.heap.push { cls:=.type "list",data:=.seq #[] }).update (b+5) (br (λ_=>(#[]:Array iC)))).get? q=iw o:=
  λq o hq e=>(bu _ _ (aW hq)).trans (aa _ e)
 refine iA (mI ?_);generalize (s.heap.push { cls:=.type "list",data:=.seq #[] }).update (b+5) (br (λ_=>(#[]:Array iC)))=h₂ at g d;have f:lW h₂ (b+4) (b+2) (b+3) .none:=d _ _ (ad (by lia)) hz;have key:∀(h:Z5)(k:Nat),(∀q o,q≠b+5->h₂.get? q=iw o->h.get? q=iw o)->h.get? (b+5)=iw { cls:=.type "list",data:=.seq #[] k }->lq (Z6 prog w) A.in1 (.builtin "list.extend.loop" ⟨[.ref (b+5),.ref (b+4),.none],[]⟩) (wants (λr t=>r=bK/\Q (.ref (b+5)) t) E) { s with heap:=h }:=by
  intro h k m p;obtain⟨u,v,X⟩:=X;refine qcV (A:=A.in1) (s:=s) (h₁:=s.heap) (k1:=k1) (k2:=k2) (xs:=xs) (ys:=ys) M h1 h2 (by lia) K .none (λh' y acc c as z B hl P x=>⟨rfl,O h' y acc c as z B hl P x⟩)
   (min xs.size ys.size) 0 h s.toks k #[] [] (Nat.sub_zero _) (aZ _) (.inl ⟨rfl,m _ _ (ad (by lia)) f,u,v,m _ _ (ad (by lia)) (d _ _ (ad (by lia)) X)⟩) (m _ _ (ad (by lia)) (d _ _ (ad (by lia)) Y)) (H.at λo e=>m _ o (ad (by lia)) (d _ o (ad (by lia)) e)) (G.at λo e=>m _ o (ad (by lia)) (d _ o (ad (by lia)) e))
   (J.at λo e=>m _ o (ad (by lia)) (d _ o (ad (by lia)) e)) (I.at λo e=>m _ o (ad (by lia)) (d _ o (ad (by lia)) e)) (λq o hq e=>m q o (ad (by lia)) (d q o (ad (by lia)) e)) p rfl rfl ⟨ei,(λ_ N=>nomatch N),(λj a L=>by simp at L)⟩
 unfold bR;refine iA (lR (T := "zip") ⟨_,f,rfl⟩ ?_);have e1:cM (.ref (b+5)) (.ref (b+4))=false:=by simp[cM]
 have U:(dw "zip" == dw "list")=false:=by decide
 have R:(dw "zip" == dw "tuple")=false:=by decide
 simp only[e1,U,R,Bool.or_false,b9,if_false];refine iA (wpAny_pyIter_zip f ?_);refine iA (iR (qcW ⟨_,f,rfl⟩ ?_));rw[Aa (by simp)];refine iA (lw ?_);refine iA ?_;show iH _ _ (my (b+5) (·.push .none) >>= λ_=>my (b+5) (·.pop)) _ _ _;refine iA (lz g rfl ?_);have i:=aV (br (·.push bK)) g rfl;refine lz (hz:=by seq_fits) i rfl ?_;have n:=aV (br (·.pop)) i rfl;refine iG ⟨lp b4 _,key _ _ (λq o hq e=>?_) n⟩;exact(bu _ _ (aW hq)).trans ((bu _ _ (aW hq)).trans e)
theorem qaK{k1 k2:SK}{i l:Z7}{Q:iC->iF->Prop}(t:SeqK s.heap i k1 xs)(f:SeqK s.heap l k2 ys)(h:∀h':Z5,h'.objs.size=s.heap.objs.size+5->lW h' (s.heap.objs.size+4) (s.heap.objs.size+2) (s.heap.objs.size+3) .none->iW h' (s.heap.objs.size+2) (.ref s.heap.objs.size) (.ref (s.heap.objs.size+1)) ->iW h' (s.heap.objs.size+3) .none .none->ItK h' s.heap.objs.size i k1 0->ItK h' (s.heap.objs.size+1) l k2 0->(∀c o,s.heap.get? c=iw o->h'.get? c=iw o)->Q (.ref (s.heap.objs.size+4)) { s with heap:=h' }) :
  iH (Z6 prog w) A (call (.type "zip") [.ref i,.ref l]) Q E s:=by
 refine callType_new PySem.F.called_zip (by decide) (PySem.F.typeCall_zip_2 _ _) (PySem.F.newCall_zip_2 _ _) (λobj=>PySem.F.args_object_init_3 obj _ _) PySem.F.entry_zip_new (Vt k1 k2 i l xs ys) ⟨t,f,?_⟩;have z1:(zH1 k1 s.heap i).objs.size=s.heap.objs.size+1:=aX ..;have z2:(zH2 k1 k2 s.heap i l).objs.size=s.heap.objs.size+2:=by rw[aX,z1]
 have z:(zH3 k1 k2 s.heap i l).objs.size=s.heap.objs.size+3:=by rw[aX,z2]
 have a:(zH4 k1 k2 s.heap i l).objs.size=s.heap.objs.size+4:=by rw[aX,z]
 have b:(zH5 k1 k2 s.heap i l).objs.size=s.heap.objs.size+5:=by rw[aX,a]
 have g:(zH5 k1 k2 s.heap i l).get? (zH4 k1 k2 s.heap i l).objs.size=iw _:=af _ rfl;have K:(zH5 k1 k2 s.heap i l).get? (zH3 k1 k2 s.heap i l).objs.size=iw _:=aa _ (af _ rfl);have U:(zH5 k1 k2 s.heap i l).get? (zH2 k1 k2 s.heap i l).objs.size=iw _:=aa _ (aa _ (af _ rfl));have W:(zH5 k1 k2 s.heap i l).get? (zH1 k1 s.heap i).objs.size=iw _:=aa _ (aa _ (aa _ (af _ rfl)));have g1:(zH5 k1 k2 s.heap i l).get? s.heap.objs.size=iw _:=aa _ (aa _ (aa _ (aa _ (af _ rfl))));show _/\_;rw[z2,z,a]at g;rw[z1,z2]at U;rw[z]at K;rw[z1]at W;rw[a];exact⟨⟨_,g,rfl⟩,h _ b g U K (.of ⟨_,g1,rfl,rfl⟩) (.of ⟨_,W,rfl,rfl⟩) λc o x=>aa _ (aa _ (aa _ (aa _ (aa _ x))))⟩
end
theorem qaL(g:Same F F'):∀{xs ys:List V}{ds es:List D}{as:List Z7},IsL K F xs ds->IsL K F ys es->as.length=min xs.length ys.length ->(∀(j:Nat)(a:Z7)(x y:V),as[j]?=iw a->xs[j]?=iw x->ys[j]?=iw y->F' a=iw (.tup [x,y]))->IsL K F' (as.map V.ref) (GZ ds es)
 |_,_,_,_,[],.nil,_,_,_=>.nil
 |_,_,_,_,[],.cons _ _,.nil,_,_=>.nil
 |_,_,_,_,_::_,.nil,_,h,_=>by simp at h
 |_,_,_,_,_::_,.cons _ _,.nil,h,_=>by simp at h
 |_,_,_,_,[],.cons _ _,.cons _ _,h,_=>by simp at h
 |_,_,_,_,a::as,.cons (v:=x) h1 t1,.cons (v:=y) h2 t2,hl,hF=>
  .cons (.tup (.inl (.inl (hF 0 a x y rfl rfl rfl))) (.cons (h1.mono g) (.cons (h2.mono g) .nil))) (qaL g t1 t2 (by simp only[ap]at hl;lia) λj a x y e1 i e=>hF (j+1) a x y e1 i e)
section
variable{H':Hp}
theorem Inv.grown{t':Nat}(I:Inv X Z9 σ H s)(k:∀b u,s.heap.get? b=iw u->h'.get? b=iw u)(old:∀b o,H b=iw o->H' b=iw o)(low:∀b,b<s.heap.objs.size->H b=iB->H' b=iB)(new:∀b o,H b=iB->H' b=iw o->ObjOk X.prog X.w H' h' b o):Inv X Z9 σ H' { s with heap:=h',toks:=t' }:=by
 refine I.un ⟨λb u q _ _ _=>k b u q,λb u q _ _ _=>⟨u.slots,k b u q⟩,λb u q n _=>low b (aw q) n,λb u q _=>⟨u,k b u q⟩,λb xs q=>old _ _ q,λb u xs q=>old _ _ q,λb ps q=>⟨#[],by rw[old _ _ q];simp⟩⟩ λb u e=>?_;cases q:H b with
 |none=>exact new b u q e
 |some o=>have:=old b o q;rw[e]at this;cases this;exact(I.hok b u q).stay (λc v _ q=>k c v q) (λc q=>old _ _ q) λc xs q=>old _ _ q
theorem qfj{xs:List V}(I:Inv X Z9 σ H s):∀{k:SK},SqK X.K H a k xs->xs.length<=Z8
 |.l,h=>let ⟨_,_,_,z⟩:=I.list h;z
 |.t,h=>let ⟨_,_,_,z⟩:=I.tuple h;z
end
def vH(x y:D):Out D:=(wE x).bind λds=>(wE y).bind λes=>.ok (.lst (GZ ds es))
section
variable{a c:Z4}{fa fb:qV}{mb:Mo}{pos p p2 pos2:Pos}
theorem Zl(hK:C.K=X.K)(hc:X.calm=iD)(hg:Gl X "list")(hm:X.mg "list"=iB)(hv:iJ "list"=iw (.type "list"))(Y:Gl X "zip")(T:X.mg "zip"=iB)(ha:PE X a (tE C own ma fa))(hb:PE X c (tE C own mb fb))(R:ma≠.any:=by decide)(hs:iI [a,c] X.env=[(iE,Z0 a X.env),(iE,Z0 c X.env)]:=by exact UV rfl rfl)(d:iI [c] X.env=[(iE,Z0 c X.env)]:=by exact qJ rfl)(k:iI [.Call (.Name "zip" p2) [a,c] [] pos2] X.env=[(iE,Z0 (.Call (.Name "zip" p2) [a,c] [] pos2) X.env)]:=by exact qJ rfl) :
  PE X (.Call (.Name "list" p) [.Call (.Name "zip" p2) [a,c] [] pos2] [] pos) (tE C own .fr (d2 vH fa fb)):=by
 refine⟨?_⟩;intro Z9 s σ H Q I h;refine i0 (yy I hg hm hv ?_ (by decide) (by decide));refine bD ?_ (by rw[k];rfl) rfl;rw[k];show iH _ _ (spliced ((iE,Z0 (.Call (.Name "zip" p2) [a,c] [] pos2) X.env)::[])) _ _ s;refine fC ?_;refine i0 (yy I Y T Vu ?_ (by decide) (by decide));refine bD (thn ((qP ha (qP hb jC d) (by rw[hs,d])) pos2 Z9 s σ H _ I (JI (mb:=mb) R h)) λus s1 z9=>?_) (by rw[hs,d]) (by rw[d];rfl);obtain⟨vs,H1,i,r1,q1⟩:=z9;obtain⟨x,y,F,dx,dy,rfl,A,tx,ty,po⟩:=q1;obtain⟨u1,u2,rfl,e1,e2⟩:=ZP r1;cases n1:wE dx with
 |exc c' o=>unfold vH at po;rw[n1]at po;cases dx <;> cases n1
 |bad=>unfold vH at po;rw[n1]at po;exact po.elim
 | ok ds=>
  cases n2:wE dy with
  |exc c' o=>unfold vH at po;rw[n1,n2]at po;cases dy <;> cases n2
  |bad=>unfold vH at po;rw[n1,n2]at po;exact po.elim
  | ok es=>
   have po:PoV C .fr F H1 (.ok (.lst (GZ ds es))) Q:=by unfold vH at po;rw[n1,n2]at po;exact po
   obtain⟨a1,k1,xs,rfl,w,M⟩:=Yt A tx n1;obtain⟨a2,k2,ys,rfl,w2,L⟩:=Yt A ty n2;rw[hK]at w w2;cases e1;cases e2;obtain⟨J,v1,p1⟩:=wP i w;obtain⟨N,v2,p2⟩:=wP i w2;refine qaK p1 p2 λh' hsz hz hTI Z t1 t2 kp=>?_;refine fL ?_;have t:J.length=xs.length:=v1.length.symm;have U:N.length=ys.length:=v2.length.symm;have hn:xs.length<=Z8:=qfj i w;refine qcX (s:={ s1 with heap:=h' }) (b:=s1.heap.objs.size) (I.ok.hd hc) p1.lt p2.lt hsz (by rw[aj,t];exact hn) hz hTI ⟨_,_,Z⟩ t1 t2 (p1.at λo e=>kp _ o e) (p2.at λo e=>kp _ o e) λh1 tk acc e' as D hp f G r=>?_;have B:∀b o,s1.heap.get? b=iw o->h1.get? b=iw o:=λb o eb=>D b o (aw eb) (kp b o eb);have f:as.length=min xs.length ys.length:=by rw[f,aj,aj,t,U]
   have P:as.Nodup:=G.rise.imp λz=>ax z;have E:∀q∈as.zip (c9 (λx y=>[x,y]) xs ys),s1.heap.objs.size<=q.1:=λq hq=>by have:=G.above _ (cF hq).1;exact cm (Nat.lt_of_le_of_lt (ce _ 5) this)
   have hB:s1.heap.objs.size+5∉as:=λz=>bS _ (G.above _ z);have m:∀q∈as.zip (c9 (λx y=>[x,y]) xs ys),H1 q.1=none:=λq hq=>i.hok.fresh (E q hq);have g:H1 (s1.heap.objs.size+5)=none:=i.hok.fresh (ce _ _);have O:Qz H1 (as.zip (c9 (λx y=>[x,y]) xs ys)) (s1.heap.objs.size+5)=none:=by refine(zV λq hq z=>hB ?_).trans g;rw[<-z];exact(cF hq).1
   obtain⟨s2,c2⟩:=YR (l:=as.zip (c9 (λx y=>[x,y]) xs ys)) A m;obtain⟨s3,c3,f3⟩:=jL (u:=.lst (as.map V.ref)) s2 O;have zw:∀(j:Nat)(x y:V),xs[j]?=iw x->ys[j]?=iw y->(c9 (λx y=>[x,y]) xs ys)[j]?=iw [x,y]:=λj x y e1 e2=>by rw[List.getElem?_zipWith,e1,e2]
   have il:=qaL (as:=as) c2.grow M L f λj b x y W S j3=>by unfold Qz;rw[qaH P W (zw j x y S j3)]
   have I3:Inv X Z9 σ (upd (Qz H1 (as.zip (c9 (λx y=>[x,y]) xs ys))) (s1.heap.objs.size+5) (.lst (as.map V.ref))) { s1 with heap:=h1,toks:=tk }:=by
    refine Inv.grown i B (λb o e=>?_) (λb hb e=>?_) λb o n e=>?_;·rw[qv (qD e g)];exact jV m e
    .rw[qv (ax (aH hb (ce _ _))),zV λq hq z=>?_];·exact e
     .exact absurd hb (by rw[<-z];exact Nat.not_lt.mpr (E q hq))
    .by_cases hb:b=s1.heap.objs.size+5;·subst hb;rw[qo]at e;cases e;exact⟨by rw[ah,f];lia,as.map aM,e',gT as,by rw[hp,show acc=(as.map aM).toArray by rw[<-r,Array.toArray_toList]]⟩
     .rw[qv hb]at e;unfold Qz at e;cases q:(as.zip (c9 (λx y=>[x,y]) xs ys)).lookup b with
      |none=>rw[q,n]at e;cases e
      |some zs=>rw[q]at e;cases e;obtain⟨j,W,S⟩:=qaG q;obtain⟨u,v,g1,g2,g3⟩:=G.pairs j b W;obtain⟨x,x1,x2⟩:=wQ v1 (by simpa using g1);obtain⟨y,y1,y2⟩:=wQ v2 (by simpa using g2);rw[zw j x y x1 y1]at S;cases S;exact⟨⟨by show 2<=_;rw[iM];decide,_,g3,rfl⟩,[u,v],.cons x2 (.cons y2 .nil),_,g3,rfl,_,rfl⟩
   exact⟨.ref (s1.heap.objs.size+5),_,I3,rfl,po _ _ _ s3 (c2.trans' c3) ⟨_,rfl,g,f3,_,qo,il⟩⟩
end
end L2.D2
namespace L2.D2
open PySem PySem.Spec PyProof.Rows
noncomputable def Zm(c:Z7)(n:Str):Option (Option D)->Bool
 |some (iw (.ins k fs))=>decide (k=c)&&(fs.lookup n).isNone
 |_=>iE
def xV(c:Z7)(i:Nat)(n:Str)(as:List AK)(G:ju)(fr:vN):qV:=λρ=>if Zm c n ρ[i]?=iD then qt (.sl i::as) G (jZ fr) ρ else .bad
variable{X:Cx}{C:Ct}{own:List Nat}{as:List AK}{mr:Mo}{e:Z4}{es:List Z4}{x:Str}{pos:Pos}{ms:List PM}{ps:List Str}{i j:Nat}{cv:Str->iC}{σ:St}{H:Hp}
section
variable{fr:vN}{n:Str}{apos px:Pos}{c:Z7}{G:ju}{k:Nat}
theorem qcY{Q:VK}(l:i∈own)(o:∀i∈C.ox,i∈own)(hs:∀j∈jd (.sl i::as),j∈own)(nd:(jd (.sl i::as)).Nodup)(f:frA (.sl i::as)<=1)(h:tE C own mr (xV c i n as G fr) σ H Q):∃a dx fv,σ[i]?=iw (iw (.ref a))/\H a=iw (.ins c dx fv)/\fv.lookup n=iB/\tAr C own as fr σ H λvs H1=>spD C.K C.cv ((AK.sl i::as).map xo) mr G (.ref a::vs++[]) H1 Q C.E:=by
 obtain⟨F,ρ,p,h⟩:=h;obtain⟨d,hd⟩:=p.opn i l;obtain⟨a,h1,h2,g⟩:=p.ow i d l hd;unfold xV at h;rw[hd]at h;cases d with
 |ins k fs=>
  by_cases z:Zm c n (iw (iw (.ins k fs)))=iD;·rw[Aa z]at h;have z:(decide (k=c)&&(fs.lookup n).isNone)=true:=z;rw[aO]at z;obtain⟨z1,z2⟩:=z;have z1:=Ae z1;subst z1;obtain⟨dx,fv,b,t⟩:=g;refine⟨a,dx,fv,h1,b,t.non (by cases q:fs.lookup n with|none=>rfl|some y=>rw[q]at z2;cases z2),?_⟩;obtain⟨F',ρ',r,h'⟩:=WG (as:=.sl i::as) o hs nd f ⟨F,ρ,p,h⟩;exact gj (a:=.sl i) (v:=.ref a) (λx z=>(r.OA_there z).1) r .refl h' λm H2 vs ds c2 e=>⟨h1,rfl,e⟩
  .rw[Ab z]at h;exact h.elim
 |_=>exact h.elim
theorem YU{pl:Sem Bool}(q:Cls X.K c)(R:YJ X.prog X.w X.K X.mg X.base cv j c n ps ms mr G)(r:Room k X.A)(D:j<=k)(hx:kr (CXk X.prog X.w) X C.E)(y:X.N[i]?=iw x)(b:Vis X.env.scope x)(m:i∈own)(u:PA X (e::es) (tAr C own as fr))(v:C.cv=cv:=by rfl)(z:C.K=X.K:=by rfl)(s:ms=(AK.sl i::as).map xo:=by rfl)(hs:∀j∈jd (.sl i::as),j∈own:=by decide)(nd:(jd (.sl i::as)).Nodup:=by decide)(p:frA (.sl i::as)<=1:=by decide)(o:∀i∈C.ox,i∈own:=by exact kZ rfl)(hd:Dbg x:=by decide)(d:Cdk x:=by decide)(t:iI (e::es) X.env=(iE,Z0 e X.env)::iI es X.env:=by exact jq rfl)(l:(j0 pos (iI es X.env)).any (·.1)=false:=by exact uC rfl)
  (ht:Z0 (.Call (.Attribute (.Name x px) n apos) (e::es) [] pos) X.env=(do
   let ov <-Z0 (.Name x px) X.env
   l6 apos.atName
   let (f,first) <-holding [ov] (mn ov n pl)
   callWith pos f first (j0 pos (iI (e::es) X.env)) (lB pos (j8 [] X.env))):=by rfl):PE X (.Call (.Attribute (.Name x px) n apos) (e::es) [] pos) (tE C own mr (xV c i n as G fr)):=by
 subst v s;obtain⟨f,fd,F0,M,hb⟩:=R;refine jy (qes (pl:=pl) (vB y b hd d) q M F0 (r.mono D) hb .nil hx u t l ht) λσ H Q h=>?_;obtain⟨a,dx,fv,h1,h2,B,g⟩:=qcY m o hs nd p h;rw[z]at g;exact⟨_,h1,a,dx,fv,rfl,h2,B,g⟩
end
section
variable{fa fb:qV}
theorem qcZ{y:Str}{a b:Z4}{px py pt pos g:Pos}{kt k2}(hc:X.calm=iD)(hN:X.N.Nodup)(hi:X.N[i]?=iw x)(hj:X.N[j]?=iw y)(hx:X.env.scope.names.lookup x=iw .local)(hy:X.env.scope.names.lookup y=iw .local)(h1:PE X a (tE C own .fr fa))(h2:PE X b (tE C own .fr fb))(n:i≠j:=by decide)(Z:i∉own:=by decide)(Y:j∉own:=by decide)(ii:i∉C.io:=by exact wH rfl)(ij:j∉C.io:=by exact wH rfl)(hw:lF [.Tuple [.Name x px,.Name y py] kt pt] (.Tuple [a,b] k2 g) X.env=pure (iw [x,y]):=by rfl)(hs:lE [.Tuple [.Name x px,.Name y py] kt pt] (.Tuple [a,b] k2 g) pos.line X.env=pure false:=by rfl)(M:iI [a,b] X.env=(iE,Z0 a X.env)::iI [b] X.env:=by exact jq rfl)(L:iI [b] X.env=(iE,Z0 b X.env)::iI [] X.env:=by exact jq rfl) :
  PS X (.Assign [.Tuple [.Name x px,.Name y py] kt pt] (.Tuple [a,b] k2 g) pos) (tSt C own (j::i::own) (qhs i j (qd fa (qd fb qA)))):=by
 refine xl (qgu hc hN hi hj n hx hy (qP h1 (qP h2 jC L) M) hw hs) λD σ H ⟨F,ρ,U,h⟩=>⟨F,ρ,U,?_⟩
 unfold qhs qd at h;cases q:fa ρ with
 |exc c o=>rw[q]at h;exact h
 |bad=>rw[q]at h;exact h.elim
 | ok p=>
  obtain⟨d,ρ1⟩:=p;rw[q,Out.oh]at h;intro v F1 H1 m P J;obtain⟨a,rfl,V,aF,S⟩:=J;refine⟨F1,ρ1,m,?_⟩;cases A:fb ρ1 with
  |exc c o=>simp only[A]at h;have h:PoS C own (j::i::own) σ F H (.exc c o) D:=h;exact λF' H' W io cc=>h F' H' W io (P.trans' cc)
  |bad=>simp only[A]at h;exact h.elim
  | ok p2=>
   obtain⟨e,ρ2⟩:=p2;simp only[A]at h;have h:PoS C own (j::i::own) σ F H (if i < ρ2.length/\j < ρ2.length then .ok (.nx,(ρ2.set i (iw d)).set j (iw e))else .bad) D:=h;intro w s H2 r c2 I;obtain⟨b,rfl,Q,bF,bo⟩:=I;by_cases z:i < ρ2.length/\j < ρ2.length
   .rw[Aa z]at h;have G:¬OA own σ a:=λy=>(U.OA_there y).1 V;have nB:¬OA own σ b:=λy=>(m.OA_there y).1 Q;have O:a≠b:=λy=>S.there (by rw[y];exact Q);have R:OwnIs C.K s H2 a d:=S.grow c2.grow λo e=>c2.keep a o e G;have T:s a=none:=by
     cases B:s a with
     |none=>rfl
     |some u=>
      rcases c2.new a (by rw[B];simp)with z|z|z;·exact absurd aF z
      .exact absurd z S.there
      .exact absurd z G
    have r1:=r.putO z.1 T G R;rw[uF Z]at r1;have E:¬OA (i::own) (σ.set i (iw (.ref a))) b:=λ⟨k,l,f⟩=>by
     by_cases y:k=i;·rw[y,aB (by rw[r.len];exact z.1)]at f;cases f;exact O rfl
     .rw[ai (aW y)]at f;exact nB ⟨k,(ac.mp l).resolve_left y,f⟩
    have r2:=r1.putO (i:=j) (by rw[bZ];exact z.2) bF E bo;rw[uF (own:=i::own) (λy=>by
     rcases ac.mp y with y|y;·exact n y.symm
     .exact Y y)]at r2
    refine⟨.ref a,.ref b,rfl,h _ s H2 ⟨r2,P.trans' c2,λx ⟨k,l,f⟩=>?_,λk l=>?_⟩⟩
    .by_cases y:k=j
     .rw[y,aB (by rw[bZ,r.len];exact z.2)]at f;cases f;refine .inr ?_;cases B:H b with
      |none=>rfl
      |some u=>exact absurd Q (P.stay b (by rw[B];simp))
     .rw[ai (aW y)]at f;by_cases t:k=i;·rw[t,aB (by rw[r.len];exact z.1)]at f;cases f;exact .inr V
      .rw[ai (aW t)]at f;exact .inl ⟨k,(ac.mp ((ac.mp l).resolve_left y)).resolve_left t,f⟩
    .rw[ai (λz=>ij (by rw[z];exact l)),ai (λz=>ii (by rw[z];exact l))]
   .rw[Ab z]at h;exact h.elim
end
variable{pos':Pos}
section
variable{own':List Nat}{G:ju}{fr:vN}{m ma mb:Mo}{a b:Z4}{p px:Pos}{k:Nat}{fe f fa fb:qV}
theorem cN(F:WJ X.prog X.w X.K X.mg X.base cv j x ps ms mr G)(a:PA X (e::es) (tAr C own as fr))(c:Room k X.A:=by assumption)(D:j<=k:=by decide)(hx:kr (CXk X.prog X.w) X C.E:=by exact xq)(hg:Gl X x:=by rfl)(h:C.cv=cv:=by rfl)(d:C.K=X.K:=by rfl)(s:ms=as.map xo:=by rfl)(hs:∀i∈jd as,i∈own:=by decide)(nd:(jd as).Nodup:=by decide)(f:frA as<=1:=by decide)(o:∀i∈C.ox,i∈own:=by exact kZ rfl)(b:Dbg x:=by decide)(g:iI (e::es) X.env=(iE,Z0 e X.env)::iI es X.env:=by exact jq rfl)(l:(j0 pos (iI es X.env)).any (·.1)=false:=by exact uC rfl):PE X (.Call (.Name x p) (e::es) [] pos) (tE C own mr (qt as G fr)):=
 qQ F c D hx hg a h d s hs nd f o b g l
theorem sl{x:Str}{px:Pos}(f:PA X es (tAr C own as fr))(h:X.N[i]?=iw x:=by rfl)(c:Vis X.env.scope x:=by exact bj rfl)(l:i∈own:=by decide)(hs:iI (.Name x px::es) X.env=(iE,Z0 (.Name x px) X.env)::iI es X.env:=by rfl)(hd:Dbg x:=by decide)(d:Cdk x:=by decide):PA X (.Name x px::es) (tAr C own (.sl i::as) (jZ fr)):=vC h c l f hs hd d
theorem vO{x:Str}(h:X.N[i]?=iw x:=by rfl)(c:Vis X.env.scope x:=by exact bj rfl)(l:i∈own:=by decide)(hd:Dbg x:=by decide)(d:Cdk x:=by decide):PE X (.Name x pos) (tE C own .any (qe i)):=qeG h c l hd d
theorem se{x:Str}{pos':Pos}(g:PE X e (tE C own m fe))(a:decide X.N.Nodup=true:=by kernel_rfl)(hi:X.N[i]?=iw x:=by rfl)(hx:Loc X.env.scope x:=by first|exact bj rfl|exact dj rfl)(c:m≠.any:=by decide)(o:i∉C.io:=by exact wH rfl)(hs:lh e (iw (.Name x pos')) pos.line X.env=pure false:=by rfl)(h:X.fn x=iD\/X.env.scope.names.lookup x=iw .local:=by first|exact .inl rfl|exact .inr rfl):PS X (.Assign [.Name x pos'] e pos) (tSt C own (vM own [i]) (jA i fe)):=qeO (Ae a) hi hx g c o hs h
theorem sO{x:Str}{pos':Pos}(g:PE X e (tE C own .fr fe))(a:decide X.N.Nodup=true:=by kernel_rfl)(hi:X.N[i]?=iw x:=by rfl)(hx:Loc X.env.scope x:=by first|exact bj rfl|exact dj rfl)(o:i∉C.io:=by exact wH rfl)(hs:lh e (iw (.Name x pos')) pos.line X.env=pure false:=by rfl)(h:X.fn x=iD\/X.env.scope.names.lookup x=iw .local:=by first|exact .inl rfl|exact .inr rfl):PS X (.Assign [.Name x pos'] e pos) (tSt C own (i::vM own [i]) (jA i fe)):=qck (Ae a) hi hx g o hs h
theorem gn{x:Str}(a:decide X.N.Nodup=true:=by kernel_rfl)(hi:X.N[i]?=iw x:=by rfl)(hx:Loc X.env.scope x:=by first|exact bj rfl|exact dj rfl)(l:i∉own:=by decide)(o:i∉C.io:=by exact wH rfl)(h:X.fn x=iD\/X.env.scope.names.lookup x=iw .local:=by first|exact .inl rfl|exact .inr rfl):PG X (.Name x pos) (tGd C own (gNm i)):=Yk (Ae a) hi hx l o h
theorem ix(h:PE X a (tE C own ma fa))(hb:PE X b (tE C own mb fb))(c:Room k X.A:=by assumption)(hs:Wy b:=by exact λ_ _=>rfl)(l:C.K=X.K:=by rfl)(f:ma≠.any:=by decide):PE X (.Subscript a b pos) (tE C own .sh (d2 ixD fa fb)):=qi2 l c.units h hb hs f
theorem tv(h:PE X e (tE C own m f))(l:C.K=X.K:=by rfl)(g:∀whole,isTrue e X.env whole=(do let v <-whole;l6 e.pos;holding [v] (truthy v)):=by exact λ_=>rfl):PT X e (tT C own (vU f)):=qeL l h g
end
noncomputable def tgN:Z4->List Str
 |.Name x _=>[x]
 |.Tuple es _ _=>es.flatMap λe=>match e with
  |.Name x _=>[x]
  |_=>[]
 |_=>[]
def cNm(tg:Z4)(N:List Str)(cap:List Nat):List Str:=tgN tg++cap.map λk=>N.getD k Str.empty
section
variable{elt iter tg:Z4}{ifs:List Z4}{scope:lX}{spos:Pos}{fi:vN}{g:D->Sl->Out Sl}{ft:yl}{fe:qV}{me:Mo}{nt:Nat}{cap:List Nat}
theorem gC(a:decide X.N.Nodup=true:=by kernel_rfl)(hi:X.N[i]?=iw x:=by rfl)(hx:Loc X.env.scope x:=by first|exact bj rfl|exact dj rfl)(l:i∉own:=by decide)(o:i∉C.io:=by exact wH rfl)(h:X.fn x=iD\/X.env.scope.names.lookup x=iw .local:=by first|exact .inl rfl|exact .inr rfl):PG X (.Name x pos) (tGd C own (gNm i)):=Yk (Ae a) hi hx l o h
theorem cmp(hi:PI X tg iter (tIt C own fi))(h:∀fp L s' H',PE (jw X scope (cNm tg X.N cap) fp L s' H') elt (tE (ctC C nt cap.length) (wF own nt cap) me fe))(hg:∀fp L s' H',PG (jw X scope (cNm tg X.N cap) fp L s' H') tg (tGd (ctC C nt cap.length) (wF own nt cap) g):=by exact λ_ _ _ _=>gC)(ht:∀fp L s' H',PTs (jw X scope (cNm tg X.N cap) fp L s' H') ifs (tT (ctC C nt cap.length) (wF own nt cap) ft):=by exact λ_ _ _ _=>Yl)(P:X.calm=true:=by rfl)(bs:scB X.env.scope.names scope=true:=by kernel_rfl)(b:qie X.env.scope.names X.N scope (cNm tg X.N cap) nt cap=true:=by kernel_rfl)(i:me≠.any:=by decide)(hs:∀x,j9 iter X.env x=pure x:=by intro _;rfl) :
  PE X (.ListComp elt [⟨tg,iter,ifs,0⟩] scope pos) (tE C own .fr (qN own nt cap fi g ft fe)):=qeW P (qg7 rfl bs) (qdL rfl rfl b) hi hg ht h i hs
theorem qge{i:Nat}{x:Str}(hi:PI X tg iter (tIt C own fi))(e:∀fp L s' H',PE (jw X scope (cNm tg X.N cap) fp L s' H') elt (tE (ctC C nt cap.length) (wF own nt cap) me fe))(hg:∀fp L s' H',PG (jw X scope (cNm tg X.N cap) fp L s' H') tg (tGd (ctC C nt cap.length) (wF own nt cap) g):=by exact λ_ _ _ _=>gC)(ht:∀fp L s' H',PTs (jw X scope (cNm tg X.N cap) fp L s' H') ifs (tT (ctC C nt cap.length) (wF own nt cap) ft):=by exact λ_ _ _ _=>Yl)(a:decide X.N.Nodup=true:=by kernel_rfl)(V:X.N[i]?=iw x:=by rfl)(hx:Loc X.env.scope x:=by first|exact bj rfl|exact dj rfl)(P:X.calm=true:=by rfl)(bs:scB X.env.scope.names scope=true:=by kernel_rfl)(b:qie X.env.scope.names X.N scope (cNm tg X.N cap) nt cap=true:=by kernel_rfl)(h:me≠.any:=by decide)(o:i∉C.io:=by exact wH rfl)(G:lh (.ListComp elt [⟨tg,iter,ifs,0⟩] scope pos) (iw (.Name x pos')) spos.line X.env=pure true:=by rfl)(hs:∀x,j9 iter X.env x=pure x:=by intro _;rfl)(Y:X.fn x=iD\/X.env.scope.names.lookup x=iw .local:=by first|exact .inl rfl|exact .inr rfl) :
  PS X (.Assign [.Name x pos'] (.ListComp elt [⟨tg,iter,ifs,0⟩] scope pos) spos) (tSt C own (i::vM own [i]) (jA i (qN own nt cap fi g ft fe))):=qcs (Ae a) V hx P (qg7 rfl bs) (qdL rfl rfl b) hi hg ht e h o G hs Y
end
variable{st:Z3}
section
variable{P:iK}{w:iL}{K:Y9}{mg:Str->Option iC}{base:Z5}{N:List Str}{k:Nat}{fb:qS}
theorem dW(own':List Nat)(T:qid K mg x st ps)(a:∀{cdv:iC}{f:Z7}{A:iT}{outer:List Env}{s:iF}{H:Hp}{E:XK},Room k (A.deeper (l0 x (qC st) s.heap.objs.size f cdv)) ->PSs (cxk P w K mg base N x (qC st) f cdv A outer s H E) (kY st) (tSt (qf6 K cv E ms mr) (jQ 0 ms) own' fb))(S:FnScope N ps (qC st):=by exact fsc)(hl:ms.length=ps.length:=by rfl)(g:∀i∈Wp 0 ms,i∈own':=by exact kZ rfl)(hmr:mr=.sh\/∀ds ρ,(fb (qx N ds))≠.ok (.nx,ρ):=by exact .inl rfl):WJ P w K mg base cv (k+1) x ps ms mr (jF N ms fb):=gt T S (λ_ _ _ _ _ _ _=>a) hl g hmr
end
def PoSF(C:Ct)(own own':List Nat)(σ:St)(F H:Hp)(r:Out (Fl×Sl))(D:Ends):Prop:=match r with
 |.ok (.rt d,ρ')=>∀v σ' F' H',Same F' H'->Gi C.K C.io F' H' σ' ρ'->Chg (OA own σ) F H F' H'->(∀i∈C.io,σ'[i]?=σ[i]?)->(∃a,v=.ref a/\(H a=iB\/OA own σ a)/\F' a=iB/\OwnIs C.K F' H' a d)->D.rt v H'
 |r=>PoS C own own' σ F H r D
def qiq(C:Ct)(own own':List Nat)(f:qS):TS:=λD σ H=>∃F ρ,Rep C.K own F H σ ρ/\PoSF C own own' σ F H (f ρ) D
section
variable{own' o1 o2 o3:List Nat}{sts rest:List Z3}{f g:qS}
theorem PoSF.shift{σ1:St}{F F1 H1:Hp}{ρ1:Sl}{r:Out (Fl×Sl)}{D:Ends}(h:PoSF C o1 o3 σ F H r D)(a:Nx C o1 o2 σ F H ρ1 σ1 F1 H1):PoSF C o2 o3 σ1 F1 H1 r D:=by
 cases r with
 | ok p=>
  obtain⟨fl,ρ'⟩:=p;cases fl with
  | rt d=>
   rintro v σ' F' H' s io c e ⟨x,b,hx,f,l⟩;refine h v σ' F' H' s io (a.chg.trans c a.oa) (λi hi=>(e i hi).trans (a.io i hi)) ⟨x,b,?_,f,l⟩;rcases hx with hx|hx
   .refine .inl ?_;cases q:H x with
    |none=>rfl
    |some o=>exact absurd hx (a.chg.stay x (by rw[q];simp))
   .exact(a.oa x hx).symm
  |nx=>exact PoS.shift (o3:=o3) (r:=.ok (.nx,ρ')) h a
  |bk=>exact PoS.shift (o3:=o3) (r:=.ok (.bk,ρ')) h a
  |ct=>exact PoS.shift (o3:=o3) (r:=.ok (.ct,ρ')) h a
 |exc c=>exact PoS.shift (o3:=o3) (D:=D) (r:=.exc c _) h a
 |bad=>exact h.elim
theorem JZ(m:C.mr=.fr)(h1:PS X st (tSt C o1 o2 f))(h2:PSs X rest (qiq C o2 o3 g)):PSs X (st::rest) (qiq C o1 o3 (qG f g)):=QV (zO h1 h2) λD σ H h=>by
 obtain⟨F,ρ,r,h⟩:=h;refine⟨F,ρ,r,?_⟩;unfold qG at h;cases q:f ρ with
 |ok p=>
  rw[q]at h;obtain⟨fl,ρ1⟩:=p;cases fl with
  |nx=>exact λσ' F' H' n=>⟨F',ρ1,n.rep,PoSF.shift (show PoSF C o1 o3 σ F H (g ρ1) D from h) n⟩
  |rt d=>exact λv σ' F' H' s io c e mo=>h v σ' F' H' s io c e (by rw[m]at mo;obtain⟨a,e1,i,b⟩:=mo;exact⟨a,e1,.inl i,b⟩)
  |bk=>exact h
  |ct=>exact h
 |exc c=>rw[q]at h;exact h
 |bad=>rw[q]at h;exact h.elim
theorem qfk{p:Pos}(e:X.N[i]?=iw x:=by rfl)(c:Vis X.env.scope x:=by exact bj rfl)(l:i∈own:=by decide)(o:∀i∈C.io,i∈own:=by exact kZ rfl)(hd:Dbg x:=by decide)(b:Cdk x:=by decide):PSs X [.Return (iw (.Name x p)) pos] (qiq C own own' (ji (qe i))):=Wu (xl (qdB (vB e c hd b)) λD σ H ⟨F,ρ,r,h⟩=>by obtain⟨d,hd⟩:=r.opn i l;obtain⟨a,h1,h2,g⟩:=r.ow i d l hd;unfold ji qe at h;rw[hd]at h;exact⟨.ref a,h1,h (.ref a) σ F H r.sub (r.ioIs o) .refl (λ_ _=>rfl) ⟨a,rfl,.inr ⟨i,l,h1⟩,h2,g⟩⟩)
theorem qhy(m:C.mr=.fr)(h:PSs X sts (qiq C [] own' f)):PSs X sts (tSt C [] own' f):=QV h λD σ H ⟨F,ρ,r,h⟩=>⟨F,ρ,r,by
 cases q:f ρ with
 |ok p=>
  rw[q]at h;obtain⟨fl,ρ1⟩:=p;cases fl with
  |rt d=>exact λv σ' F' H' s io c e ⟨a,e1,i,b⟩=>h v σ' F' H' s io c e (by rw[m];exact⟨a,e1,i.resolve_right (λ⟨_,z,_⟩=>by cases z),b⟩)
  |_=>exact h
 |exc c=>rw[q]at h;exact h
 |bad=>rw[q]at h;exact h.elim⟩
theorem uX(h:∀ρ ρ',g ρ≠.ok (.nx,ρ'))(ρ ρ':Sl):qG f g ρ≠.ok (.nx,ρ'):=by
 unfold qG;cases f ρ with
 |ok p=>
  obtain⟨fl,ρ1⟩:=p;cases fl with
  |nx=>exact h ρ1 ρ'
  |_=>intro z;cases z
 |exc c o=>intro z;cases z
 |bad=>intro z;cases z
end
def qkr(x y:Str):Prop:=(y.length == 0)=iE/\(hV x y).1.length<=Z8/\(hV x y).2.1.length<=Z8/\(hV x y).2.2.length<=Z8
instance:∀x y,Decidable (qkr x y):=λx y=>inferInstanceAs (Decidable (_/\_))
end L2.D2
namespace PySem
open Sem (wp)
open Builtin PySem.Spec PyProof.Rows
end PySem
namespace L2.D2
open PySem PySem.Spec PyProof.Rows
noncomputable def qc0:D->D->Out D
 |.lst xs,.lst ys=>if xs.length+ys.length<=Z8 then .ok (.lst (xs++ys))else .bad
 |_,_=>.bad
section
variable{X:Cx}{C:Ct}{own:List Nat}{a b t:Z4}{m:Mo}{ft:yl}{fa fb:qV}{pos:Pos}
set_option tactic.hygienic true in
theorem qfl(l:C.K=X.K):OpD X C .fr (i8 .Add) qc0:=by
 intro Z9 s σ H x y v u Q I e r h;obtain⟨F,dx,g,t,d,ty,po⟩:=h;cases dx with
 |lst xs=>
  cases g <;> try exact po.elim
  rename_i ys;obtain⟨a,vs,rfl,p1,f⟩:=d.lst t;obtain⟨b,ws,rfl,p2,c⟩:=ty.lst t;have po:PoV C .fr F H (if xs.length+ys.length<=Z8 then .ok (.lst (xs++ys))else .bad) Q:=po;by_cases z:xs.length+ys.length<=Z8;·rw[Aa z]at po;refine Gy Z9 s σ H _ _ v u Q I e r ⟨a,b,vs,ws,rfl,rfl,by rw[<-l];exact p1,by rw[<-l];exact p2,by rw[f.length,c.length];exact z,λp hp=>?_⟩;obtain⟨s2,c2,f2⟩:=jL (u:=.lst (vs++ws)) t hp;exact po _ _ _ s2 c2 ⟨p,rfl,hp,f2,_,qo,f.append c⟩
  .rw[Ab z]at po;exact po.elim
 |_=>exact po.elim
theorem qdX(ht:PT X t (tT C own ft))(f:PE X a (tE C own m fa))(hb:PE X b (tE C own m fb)):PE X (.IfExp t a b pos) (tE C own m (dIf ft fa fb)):=by
 refine jy (UR ht f hb) λσ H Q ⟨F,ρ,p,h⟩=>⟨F,ρ,p,Po.bindT h λF1 H1 k ρ1 r c h1=>?_⟩
 cases k with
 |true=>exact⟨F1,ρ1,r,h1⟩
 |false=>exact⟨F1,ρ1,r,h1⟩
def qaM(i:Nat)(G:ju):qV:=λρ=>match (ρ[i]?:Option (Option D))with
 |some (iw (.lst ds))=>(match G [.lst ds]with
  |.ok (.lst fs,_)=>if fs.all VA=iD then .ok (.lst fs,ρ)else .bad
  |_=>.bad)
 |_=>.bad
theorem qaN{K:Y9}{F F':Hp}{b:Z7}{ys:List V}(hb:F b=iw (.lst ys))(k:∀z o,F z=iw o->z≠b->F' z=iw o):∀{vs:List V}{ds:List D},IsL K F vs ds->ds.all VA=iD->IsL K F' vs ds
 |_,_,.nil,_=>.nil
 |_,_,.cons h t,f=>by rw[cL,aO]at f;exact .cons (qfc h f.1 hb k) (qaN hb k t f.2)
set_option tactic.hygienic true in
theorem qfm{i j k:Nat}{x y:Str}{ps:List Str}{cv:Str->iC}{G:ju}{p py pos:Pos}(FF:WJ X.prog X.w X.K X.mg X.base cv j x ps [.val] .fr G)(T:Room k X.A)(Y:j<=k)(hx:kr (CXk X.prog X.w) X C.E)(hg:Gl X x)(hN:X.N[i]?=iw y)(S:Vis X.env.scope y)(U:i∈own)(B:C.cv=cv:=by rfl)(L:C.K=X.K:=by rfl)(hd:Dbg y:=by decide)(D:Cdk y:=by decide)(u:Dbg x:=by decide)(Z:iI [.Name y py] X.env=(iE,Z0 (.Name y py) X.env)::iI [] X.env:=by exact jq rfl) :
  PE X (.Call (.Name x p) [.Name y py] [] pos) (tE C own .fr (qaM i G)):=by
 subst B;obtain⟨f,fd,F0,V,W,hb⟩:=FF;refine jy (ZV F0 (T.mono Y) hg V W hb .nil hx (qP (vB hN S hd D) jC (by exact qJ rfl)) u Z rfl) λσ H Q O=>?_;obtain⟨F,ρ,g,h⟩:=O;unfold qaM at h;split at h
 .rename_i ds e2;obtain⟨a,h1,fa,ys,e3,R⟩:=g.ow i _ U e2;have gr:Same F (upd F a (.lst ys)):=λz o e=>by rw[qv (qD e fa)];exact e
  have b:Same (upd F a (.lst ys)) H:=λz o e=>by
   by_cases q:z=a;·rw[q,qo]at e;cases e;rw[q];exact e3
   .rw[qv q]at e;exact g.sub z o e
  refine⟨_,h1,upd F a (.lst ys),[.lst ds],b,⟨by rw[<-L];exact .lst (.inl (.inl qo)) (R.mono gr),trivial⟩,bw,?_⟩;cases n:G [.lst ds]with
  |bad=>rw[n]at h;exact h.elim
  |exc y os=>rw[n]at h;exact h.elim
  | ok r=>
   obtain⟨d,J⟩:=r;rw[n]at h;cases d with
   | lst fs=>
    have h:Po C own .fr σ F H (if fs.all VA=iD then .ok (.lst fs,ρ)else .bad) Q:=h;by_cases m:fs.all VA=iD
    .rw[Aa m]at h;intro v F' H' P c _ mo;obtain⟨l,rfl,hl,fl,xs,el,tl⟩:=mo;have c:Chg No (upd F a (.lst ys)) H F' H':=c.mono λz hz=>by have hz:z∈([]:List Z7):=hz;cases hz
     have kp:∀z o,F' z=iw o->z≠a->(λz=>if z=a then iB else F' z) z=iw o:=λz o e t=>by show(if z=a then iB else F' z)=iw o;rw[Ab t];exact e
     have bF:F' a=iw (.lst ys):=c.grow _ _ qo;have I:Same F (λz=>if z=a then iB else F' z):=λz o e=>kp z o (c.grow z o (gr z o e)) λq=>by rw[q,fa]at e;cases e
     have M:∀{z o},(if z=a then iB else F' z)=iw o->z≠a/\F' z=iw o:=λ{z o} e=>by
      by_cases q:z=a;·rw[Aa q]at e;cases e
      .rw[Ab q]at e;exact⟨q,e⟩
     have ch:Chg No F H (λz=>if z=a then iB else F' z) H':=⟨c.keep,c.stay,I,λz hz=>by
      cases q:(if z=a then iB else F' z)with
      |none=>exact absurd q hz
      |some o=>
       obtain⟨t,e⟩:=M q;rcases c.new z (by rw[e];simp)with y|y|y;·rw[qv t]at y;exact .inl y
       .exact .inr (.inl y)
       .exact y.elim⟩
     have s:Same (λz=>if z=a then iB else F' z) H':=λz o e=>P z o (M e).2;refine h _ _ H' (g.grow ch s) ch.ofNo ⟨l,rfl,hl,?_,xs,el,by rw[L];exact qaN bF kp tl m⟩;show(if l=a then iB else F' l)=iB;split;·rfl
     .exact fl
    .rw[Ab m]at h;exact h.elim
   |_=>exact h.elim
 .exact h.elim
end
end L2.D2
set_option maxHeartbeats 4000000
namespace Kx
open PySem PySem.Spec PyProof.Rows L2 L2.D2
noncomputable def top(i:Nat):Z3:=PySem.Challenge.pw_lookwords_k40_whole_again_and_kept.main.body.getD i (.Pass ⟨0,0,0,0⟩)
structure Zt(K:Y9)(mg:Str->Option iC)(cv:Str->iC)(ca:Str->Z7):Prop where
 z_all:mg "all"=iB
 z_bool:mg "bool"=iB
 z_dict:mg "dict"=iB
 z_enumerate:mg "enumerate"=iB
 z_int:mg "int"=iB
 z_isinstance:mg "isinstance"=iB
 z_len:mg "len"=iB
 z_list:mg "list"=iB
 z_max:mg "max"=iB
 z_min:mg "min"=iB
 z_range:mg "range"=iB
 z_set:mg "set"=iB
 z_sorted:mg "sorted"=iB
 z_str:mg "str"=iB
 z_sum:mg "sum"=iB
 z_tuple:mg "tuple"=iB
 z_zip:mg "zip"=iB
 c_LEAST_PLACE:∃t,mg "LEAST_PLACE"=iw (.int (-3) t)
 c_MOST_LETTERS:∃t,mg "MOST_LETTERS"=iw (.int 6 t)
 c_MOST_PLACE:∃t,mg "MOST_PLACE"=iw (.int 2 t)
 c_MOST_ROOM:∃t,mg "MOST_ROOM"=iw (.int 99 t)
 c_MOST_WORDS:∃t,mg "MOST_WORDS"=iw (.int 6 t)
 m_Book:mg "Book"=iw (.ref (ca "Book"))
 b_cls:Cls K (ca "Book")
 b_no:∀f∈(["look","width","worths","standing","asked"]:List Str),NoAttr K (ca "Book") f
 m_Words:mg "Words"=iw (.ref (ca "Words"))
 w_cls:Cls K (ca "Words")
 w_no:∀f∈(["look","came","width","held"]:List Str),NoAttr K (ca "Words") f
theorem gU:iJ "all"=iw (.builtin "all"):=by decide +kernel
theorem qfn:iJ "bool"=iw (.type "bool"):=by decide +kernel
theorem Ka:iJ "dict"=iw (.type "dict"):=by decide +kernel
theorem qhz:iJ "int"=iw (.type "int"):=by decide +kernel
theorem qU:iJ "isinstance"=iw (.builtin "isinstance"):=by decide +kernel
theorem jn:iJ "len"=iw (.builtin "len"):=by decide +kernel
theorem wT:iJ "list"=iw (.type "list"):=by decide +kernel
theorem qdY:iJ "max"=iw (.builtin "max"):=by decide +kernel
theorem qhA:iJ "min"=iw (.builtin "min"):=by decide +kernel
theorem YV:iJ "range"=iw (.type "range"):=by decide +kernel
theorem gW:iJ "set"=iw (.type "set"):=by decide +kernel
theorem wU:iJ "sorted"=iw (.builtin "sorted"):=by decide +kernel
theorem qdZ:iJ "str"=iw (.type "str"):=by decide +kernel
theorem qaO:iJ "sum"=iw (.builtin "sum"):=by decide +kernel
theorem kq:iJ "tuple"=iw (.type "tuple"):=by decide +kernel
instance{α:Type}:Inhabited (Out α):=⟨.bad⟩
structure Ev where
 P:iK
 w:iL
 K:Y9
 mg:Str->Option iC
 base:Z5
 cv:Str->iC
abbrev qI(e0:Ev):=WJ e0.P e0.w e0.K e0.mg e0.base e0.cv
abbrev qaP(e0:Ev):=qat e0.P e0.w e0.K e0.mg e0.base e0.cv
abbrev Kb(e0:Ev):=YJ e0.P e0.w e0.K e0.mg e0.base e0.cv
abbrev kK(e0:Ev):=qid e0.K e0.mg
abbrev ZtE(e0:Ev)(ca:Str->Z7):=Zt e0.K e0.mg e0.cv ca
section
variable{e0:Ev}{ca:Str->Z7}
abbrev xW:Z3:=top 17
abbrev VI:List Str:=["thing","least","most"]
def xX:qS:=(qG (sIf (dOr (yE (vU (d1 (wM "int") (qe 0)))) (vU (d1 (wM "bool") (qe 0)))) (ji (dC (.bl iE))) qW)
  (ji (yF leD leD (qe 1) (qe 0) (qe 2))))
abbrev jO:ju:=jF VI [.val,.val,.val] (xX)
abbrev kO(e0:Ev):=qI e0 1 "is_between" ["thing","least","most"] [.val,.val,.val] .sh (jO)
theorem Kc(Z:ZtE e0 ca)(T:kK e0 "is_between" xW ["thing","least","most"]):kO e0:=
 dW [] T λc=>(qg (qT (PW.pt (xN (jg (tv (uS rfl rfl Z.z_isinstance qU rfl Z.z_int qhz vr))) (vL (tv (uS rfl rfl Z.z_isinstance qU rfl Z.z_bool qfn vr))))) (qm (qr wI)) qF)
  (qm (qr (Yg Vf Vf vr vr vr))))
abbrev xY:Z3:=top 27
abbrev VJ:List Str:=["thing"]
def xZ:qS:=(sIf (yE (vU (qt [.vl,.vl,.vl] jO (qd (qe 0) (qd (dC (.int 1)) (qd (dC (.int 99)) qA)))))) ZE qW)
abbrev wV:ju:=jF VJ [.val] (xZ)
abbrev yO(e0:Ev):=qI e0 2 "check_room" ["thing"] [.val] .sh (wV)
theorem Ke(Z:ZtE e0 ca)(T:kK e0 "check_room" xY ["thing"])(o:kO e0):yO e0:=
 dW [] T λc=>(qm (qT (jg (tv (cN o (qc vr (qc qw (qc (vE Z.c_MOST_ROOM rfl) ql)))))) vg qF))
abbrev gX:Z3:=top 18
abbrev Ud:List Str:=["thing"]
def yq:qS:=(ji (WE (d1 (wM "str") (qe 0)) (WE (d2 eqD (d1 vz (qe 0)) (dC (.int 1))) (yF leD leD (dC (.str "a")) (qe 0) (dC (.str "z"))))))
abbrev vj:ju:=jF Ud [.val] (yq)
abbrev wW(e0:Ev):=qI e0 1 "is_letter" ["thing"] [.val] .sh (vj)
theorem VL(Z:ZtE e0 ca)(T:kK e0 "is_letter" gX ["thing"]):wW e0:=
 dW [] T λc=>(qm (qr (Yd (uS rfl rfl Z.z_isinstance qU rfl Z.z_str qdZ vr) (Yd (xM (vA rfl c.units) (qB (jz rfl) rfl Z.z_len jn vr) qw) (Yc (Yg Vf Vf UW vr UW))))))
abbrev Jd:Z3:=top 22
abbrev Zn:List Str:=["thing","room"]
def Je:qS:=(qG (sIf (dOr (yE (vU (d1 (wM "tuple") (qe 0)))) (qO (d2 neD (d1 vz (qe 0)) (dC (.int 2))))) (ji (dC (.bl iE))) qW)
  (ji (WE (qt [.vl] vj (qd (d2 ixD (qe 0) (dC (.int 0))) qA)) (qt [.vl,.vl,.vl] jO (qd (d2 ixD (qe 0) (dC (.int 1))) (qd (dC (.int 0)) (qd (d2 qdI (qe 1) (dC (.int 1))) qA)))))))
abbrev uK:ju:=jF Zn [.val,.val] (Je)
abbrev gY(e0:Ev):=qI e0 2 "is_worth" ["thing","room"] [.val,.val] .sh (uK)
theorem Ue(Z:ZtE e0 ca)(T:kK e0 "is_worth" Jd ["thing","room"])(o:kO e0)(I:wW e0):gY e0:=
 dW [] T λc=>(qg (qT (PW.pt (xN (jg (tv (uS rfl rfl Z.z_isinstance qU rfl Z.z_tuple kq vr))) (vL (qK (Gr rfl c.units) (qB (jz rfl) rfl Z.z_len jn vr) qw)))) (qm (qr wI)) qF)
  (qm (qr (Yd (cN I (qc (ix vr qw) ql)) (Yc (cN o (qc (ix vr qw) (qc qw (qc (jo QU vr qw) ql)))))))))
abbrev gZ:Z3:=top 23
abbrev Uf:List Str:=["thing","room","letters"]
def Qa:qS:=(qG (sIf (dOr (yE (vU (d1 (wM "tuple") (qe 0)))) (yE (vU (d1 Yp (qN [] 1 [1] (jv (qe 0)) (gNm 0) ftT (qt [.vl,.vl] uK (qd (qe 0) (qd (qe 1) qA)))))))) (ji (dC (.bl iE))) qW)
  (qG (jA 2 (qN [] 1 [] (jv (qe 0)) (gNm 0) ftT (d2 ixD (qe 0) (dC (.int 0)))))
  (ji (d2 eqD (qe 2) (d1 jU (qe 2))))))
abbrev vk:ju:=jF Uf [.val,.val] (Qa)
abbrev zc(e0:Ev):=qI e0 3 "is_worths" ["thing","room"] [.val,.val] .sh (vk)
theorem VM(Z:ZtE e0 ca)(T:kK e0 "is_worths" gZ ["thing","room"])(O:gY e0):zc e0:=
 dW [] T λc=>(qg (qT (PW.pt (xN (jg (tv (uS rfl rfl Z.z_isinstance qU rfl Z.z_tuple kq vr))) (vL (jg (tv (qB (gy rfl rfl) rfl Z.z_all gU (cmp (qL rfl vr) (λ_ _ _ _=>(qQ O c (by decide) vX rfl (qc vr (qc vr ql))))))))))) (qm (qr wI)) qF)
  (qg (qge (qL rfl vr) (λ_ _ _ _=>(ix vr qw)))
  (jE [2] (qm (qr (xM (vA rfl c.units) vr (uI rfl rfl rfl Z.z_sorted wU rfl Z.z_set gW vr)))))))
abbrev uY:Z3:=top 28
abbrev QH:List Str:=["thing","room"]
def uZ:qS:=(sIf (yE (vU (qt [.vl,.vl] vk (qd (qe 0) (qd (qe 1) qA))))) ZE qW)
abbrev vP:ju:=jF QH [.val,.val] (uZ)
abbrev wX(e0:Ev):=qI e0 4 "check_worths" ["thing","room"] [.val,.val] .sh (vP)
theorem Qb(Z:ZtE e0 ca)(T:kK e0 "check_worths" uY ["thing","room"])(O:zc e0):wX e0:=
 dW [] T λc=>(qm (qT (jg (tv (cN O (qc vr (qc vr ql))))) vg qF))
abbrev VN:Z3:=top 19
abbrev qaQ:List Str:=["thing"]
def yP:qS:=(qG (sIf (dOr (yE (vU (d1 (wM "str") (qe 0)))) (yE (qO (yF leD leD (dC (.int 1)) (d1 vz (qe 0)) (dC (.int 6)))))) (ji (dC (.bl iE))) qW)
  (ji (d1 Yp (qN [] 1 [] (jv (qe 0)) (gNm 0) ftT (qt [.vl] vj (qd (qe 0) qA))))))
abbrev vZ:ju:=jF qaQ [.val] (yP)
abbrev xA(e0:Ev):=qI e0 2 "is_word" ["thing"] [.val] .sh (vZ)
theorem Zo(Z:ZtE e0 ca)(T:kK e0 "is_word" VN ["thing"])(I:wW e0):xA e0:=
 dW [] T λc=>(qg (qT (PW.pt (xN (jg (tv (uS rfl rfl Z.z_isinstance qU rfl Z.z_str qdZ vr))) (vL (jg (Ve Vf Vf qw (qB (jz rfl) rfl Z.z_len jn vr) (vE Z.c_MOST_LETTERS rfl)))))) (qm (qr wI)) qF)
  (qm (qr (qB (gy rfl rfl) rfl Z.z_all gU (cmp (qL rfl vr) (λ_ _ _ _=>(qQ I c (by decide) vX rfl (qc vr ql))))))))
abbrev Jf:Z3:=top 20
abbrev Zp:List Str:=["thing"]
def Jg:qS:=(qG (sIf (dOr (yE (vU (d1 (wM "tuple") (qe 0)))) (yE (qO (yF leD leD (dC (.int 1)) (d1 vz (qe 0)) (dC (.int 6)))))) (ji (dC (.bl iE))) qW)
  (ji (WE (d1 Yp (qN [] 1 [] (jv (qe 0)) (gNm 0) ftT (qt [.vl] vZ (qd (qe 0) qA)))) (d2 eqD (d1 gN (qe 0)) (d1 vz (qe 0))))))
abbrev xB:ju:=jF Zp [.val] (Jg)
abbrev Qc(e0:Ev):=qI e0 3 "is_words" ["thing"] [.val] .sh (xB)
theorem Ug(Z:ZtE e0 ca)(T:kK e0 "is_words" Jf ["thing"])(o:xA e0):Qc e0:=
 dW [] T λc=>(qg (qT (PW.pt (xN (jg (tv (uS rfl rfl Z.z_isinstance qU rfl Z.z_tuple kq vr))) (vL (jg (Ve Vf Vf qw (qB (jz rfl) rfl Z.z_len jn vr) (vE Z.c_MOST_WORDS rfl)))))) (qm (qr wI)) qF)
  (qm (qr (Yd (qB (gy rfl rfl) rfl Z.z_all gU (cmp (qL rfl vr) (λ_ _ _ _=>(qQ o c (by decide) vX rfl (qc vr ql))))) (Yc (xM (vA rfl c.units) (qae rfl rfl rfl Z.z_len jn rfl Z.z_set gW vr) (qB (jz rfl) rfl Z.z_len jn vr)))))))
abbrev yQ:Z3:=top 24
abbrev Kf:List Str:=["thing"]
def yR:qS:=(sIf (yE (vU (qt [.vl] xB (qd (qe 0) qA)))) ZE qW)
abbrev kP:ju:=jF Kf [.val] (yR)
abbrev vQ(e0:Ev):=qI e0 4 "check_words" ["thing"] [.val] .sh (kP)
theorem QI(Z:ZtE e0 ca)(T:kK e0 "check_words" yQ ["thing"])(O:Qc e0):vQ e0:=
 dW [] T λc=>(qm (qT (jg (tv (cN O (qc vr ql)))) vg qF))
abbrev VO:Z3:=top 21
abbrev qaR:List Str:=["thing"]
def VP:qS:=(qG (sIf (dOr (yE (vU (d1 (wM "tuple") (qe 0)))) (qO (d2 neD (d1 vz (qe 0)) (dC (.int 2))))) (ji (dC (.bl iE))) qW)
  (ji (d1 Yp (qN [] 1 [] (jv (qe 0)) (gNm 0) ftT (qt [.vl,.vl,.vl] jO (qd (qe 0) (qd (dC (.int (-3))) (qd (dC (.int 2)) qA))))))))
abbrev Qd:ju:=jF qaR [.val] (VP)
abbrev Jh(e0:Ev):=qI e0 2 "is_look" ["thing"] [.val] .sh (Qd)
theorem Zq(Z:ZtE e0 ca)(T:kK e0 "is_look" VO ["thing"])(o:kO e0):Jh e0:=
 dW [] T λc=>(qg (qT (PW.pt (xN (jg (tv (uS rfl rfl Z.z_isinstance qU rfl Z.z_tuple kq vr))) (vL (qK (Gr rfl c.units) (qB (jz rfl) rfl Z.z_len jn vr) qw)))) (qm (qr wI)) qF)
  (qm (qr (qB (gy rfl rfl) rfl Z.z_all gU (cmp (qL rfl vr) (λ_ _ _ _=>(qQ o c (by decide) vX rfl (qc vr (qc (vE Z.c_LEAST_PLACE rfl) (qc (vE Z.c_MOST_PLACE rfl) ql))))))))))
abbrev zd:Z3:=top 26
abbrev VQ:List Str:=["thing"]
def ze:qS:=(sIf (yE (vU (qt [.vl] Qd (qd (qe 0) qA)))) ZE qW)
abbrev vI:ju:=jF VQ [.val] (ze)
abbrev wj(e0:Ev):=qI e0 3 "check_look" ["thing"] [.val] .sh (vI)
theorem Kg(Z:ZtE e0 ca)(T:kK e0 "check_look" zd ["thing"])(O:Jh e0):wj e0:=
 dW [] T λc=>(qm (qT (jg (tv (cN O (qc vr ql)))) vg qF))
abbrev Qe:Z3:=top 31
abbrev Uh:List Str:=["word","place","at"]
def yr:qS:=(qG (jA 2 (dIf (qO (d2 geD (qe 1) (dC (.int 0)))) (qe 1) (d2 vV (d1 vz (qe 0)) (qe 1))))
  (ji (d2 ixD (qe 0) (d2 qif (dC (.int 0)) (d2 qig (qe 2) (d2 qdI (d1 vz (qe 0)) (dC (.int 1))))))))
abbrev vm:ju:=jF Uh [.val,.val] (yr)
abbrev zf(e0:Ev):=qI e0 1 "letter_at" ["word","place"] [.val,.val] .sh (vm)
theorem VR(Z:ZtE e0 ca)(T:kK e0 "letter_at" Qe ["word","place"]):zf e0:=
 dW [] T λc=>(qg (se (qci (qK qeM vr qw) vr (jo (jN rfl) (qB (jz rfl) rfl Z.z_len jn vr) vr)))
  (qm (qr (ix vr (Vm (qg8 rfl) rfl Z.z_max qdY qw (Vm (qg9 rfl) rfl Z.z_min qhA vr (jo QU (qB (jz rfl) rfl Z.z_len jn vr) qw)))))))
abbrev Ui:Z3:=top 32
abbrev qaS:List Str:=["words","look"]
abbrev Uj:List Str:=["words","look"]
theorem qc1:FnScope qaS Uj (qC Ui):=fsc
def Uk:qS:=(qG (jY (qt [.vl] kP (qd (qe 0) qA)))
  (qG (jY (qt [.vl] vI (qd (qe 1) qA)))
  (ji (qN [] 1 [1] (jv (qe 0)) (gNm 0) ftT (xm (qd (qt [.vl,.vl] vm (qd (qe 0) (qd (d2 ixD (qe 1) (dC (.int 0))) qA))) (qd (qt [.vl,.vl] vm (qd (qe 0) (qd (d2 ixD (qe 1) (dC (.int 1))) qA))) qA)))))))
abbrev wY:ju:=jF qaS [.val,.val] (Uk)
abbrev uL(e0:Ev):=qI e0 5 "pairs" Uj [.val,.val] .fr (wY)
theorem qc2(Z:ZtE e0 ca)(T:kK e0 "pairs" Ui Uj)(B:vQ e0)(a:wj e0)(o:zf e0):uL e0:=
 gt (k:=4) (own':=[]) (fb:=Uk) (hmr:=.inr λ_=>(uX (uX (λ_ _=>gP))) _) T qc1 λcdv f A outer s H E c=>(qg (jf (cN B (qc vr ql)))
  (qg (jf (cN a (qc vr ql)))
  (qm (va (cmp (qL rfl vr) (λ_ _ _ _=>(ku (qc (qQ o c (by decide) vX rfl (qc vr (qc (ix vr qw) ql))) (qc (qQ o c (by decide) vX rfl (qc vr (qc (ix vr qw) ql))) ql)))))))))
abbrev zg:Z3:=top 33
abbrev VS:List Str:=["seen"]
def zh:qS:=(ji (d1 jU (d2 vV (qN [] 1 [] (jv (qe 0)) (gNm 0) ftT (d2 ixD (qe 0) (dC (.int 0)))) (qN [] 1 [] (jv (qe 0)) (gNm 0) ftT (d2 ixD (qe 0) (dC (.int 1)))))))
abbrev jh:ju:=jF VS [.val] (zh)
abbrev kQ(e0:Ev):=qI e0 1 "letters_of" ["seen"] [.val] .sh (jh)
theorem Kh(Z:ZtE e0 ca)(T:kK e0 "letters_of" zg ["seen"]):kQ e0:=
 dW [] T λc=>(qm (qr (uI rfl rfl rfl Z.z_sorted wU rfl Z.z_set gW (jo (jN rfl) (cmp (qL rfl vr) (λ_ _ _ _=>(ix vr qw))) (cmp (qL rfl vr) (λ_ _ _ _=>(ix vr qw)))))))
abbrev YW:Z3:=top 34
abbrev qc3:List Str:=["total","room"]
def YX:qS:=(ji (dIf (qO (d2 geD (qe 0) (qe 1))) (d2 qdI (qe 0) (qe 1)) (qe 0)))
abbrev zW:ju:=jF qc3 [.val,.val] (YX)
abbrev VT(e0:Ev):=qI e0 1 "within" ["total","room"] [.val,.val] .sh (zW)
theorem qaT(Z:ZtE e0 ca)(T:kK e0 "within" YW ["total","room"]):VT e0:=
 dW [] T λc=>(qm (qr (qci (qK qeM vr vr) (jo QU vr vr) vr)))
abbrev Ji:Z3:=top 35
abbrev Zr:List Str:=["words","look","room","worths","seen","worth_of"]
def Jj:qS:=(qG (jA 4 (qt [.vl,.vl] wY (qd (qe 0) (qd (qe 1) qA))))
  (qG (jY (qt [.vl] wV (qd (qe 2) qA)))
  (qG (jY (qt [.vl,.vl] vP (qd (qe 3) (qd (qe 2) qA))))
  (qG (jA 5 (d1 JL (qe 3)))
  (qG (sIf (yE (vU (d1 Yp (qN [] 1 [5] (jv (qt [.vl] jh (qd (qe 4) qA))) (gNm 0) ftT (d2 inA (qe 0) (qe 1)))))) ZE qW)
  (ji (d1 ve (qN [] 1 [2,5] (jv (qe 4)) (gNm 0) ftT (qt [.vl,.vl] zW (qd (d2 vV (d2 ixD (qe 2) (d2 ixD (qe 0) (dC (.int 0)))) (d2 ixD (qe 2) (d2 ixD (qe 0) (dC (.int 1))))) (qd (qe 1) qA)))))))))))
abbrev kf:ju:=jF Zr [.val,.val,.val,.val] (Jj)
abbrev yt(e0:Ev):=qI e0 6 "numbered" ["words","look","room","worths"] [.val,.val,.val,.val] .sh (kf)
theorem Ul(Z:ZtE e0 ca)(T:kK e0 "numbered" Ji ["words","look","room","worths"])(a:yO e0)(V:wX e0)(m:uL e0)(o:kQ e0)(O:VT e0):yt e0:=
 dW [] T λc=>(qg (se (cN m (qc vr (qc vr ql))))
  (qg (jf (cN a (qc vr ql)))
  (qg (jf (cN V (qc vr (qc vr ql))))
  (qg (se (jr (GN rfl rfl) rfl Z.z_dict Ka vr))
  (qg (qT (jg (tv (qB (gy rfl rfl) rfl Z.z_all gU (cmp (qL rfl (cN o (qc vr ql))) (λ_ _ _ _=>(xM (Yz rfl c.units) vr vr)))))) vg qF)
  (qm (qr (jr (uH rfl) rfl Z.z_tuple kq (cmp (qL rfl vr) (λ_ _ _ _=>(qQ O c (by decide) vX rfl (qc (jo (jN rfl) (ix vr (ix vr qw)) (ix vr (ix vr qw))) (qc vr ql)))))))))))))
abbrev vn:Z3:=xi (top 54) 0
abbrev wZ:List Str:=["self","words","look","room","worths","numbers","word","number"]
abbrev ua:List Str:=["self","words","look","room","worths"]
theorem zG:FnScope wZ ua (qC vn):=fsc
def vo(ca:Str->Z7):qS:=(qG (jA 5 (qt [.vl,.vl,.vl,.vl] kf (qd (qe 1) (qd (qe 2) (qd (qe 3) (qd (qe 4) qA))))))
  (qG (sIf (qO (d2 ltD (d1 ko (qe 5)) (d1 vz (qe 5)))) ZE qW)
  (qG (uP (ca "Book") 0 "look" (qe 2))
  (qG (uP (ca "Book") 0 "width" (qe 3))
  (qG (uP (ca "Book") 0 "worths" (qe 4))
  (qav (ca "Book") 0 "standing" (d2 qho (gk (qd (dC .non) qA)) (qe 3)) (qi7 (qd (qe 1) (qd (qe 5) qA))) (kc 2 (qH (gNm 6) (qH (gNm 7) kb))) (qe 6) (qe 7)
  (uP (ca "Book") 0 "asked" (gk qA))))))))
abbrev vp(ca:Str->Z7):ju:=jF wZ [.io,.val,.val,.val,.val] (vo ca)
abbrev wx(ca:Str->Z7)(e0:Ev):=qaP e0 7 (ca "Book") ["self","words","look","room","worths"] [.io,.val,.val,.val,.val] (vp ca)
theorem zH(Z:ZtE e0 ca)(T:qcR e0.K (ca "Book") "Book.__init__" vn ua)(o:yt e0):wx ca e0:=
 qaw (k:=6) (own':=[0]) (fb:=vo ca) T zG λcdv f A outer s H E c=>(qg (se (cN o (qc vr (qc vr (qc vr (qc vr ql))))))
  (qg (qT (qK Gn (Jb rfl rfl rfl Z.z_len jn rfl Z.z_set gW vr) (qB (jz rfl) rfl Z.z_len jn vr)) vg qF)
  (qg (vh rfl Z.b_cls (Z.b_no "look" (by decide +kernel)) (i:=0) rfl (bj rfl) (by decide) vr)
  (qg (vh rfl Z.b_cls (Z.b_no "width" (by decide +kernel)) (i:=0) rfl (bj rfl) (by decide) vr)
  (qg (vh rfl Z.b_cls (Z.b_no "worths" (by decide +kernel)) (i:=0) rfl (bj rfl) (by decide) vr)
  (qcQ (own:=[0]) (own1:=[]) rfl (λj=>by simp) Z.b_cls (Z.b_no "standing" (by decide +kernel)) (i:=0) rfl (bj rfl) (by decide) (qjm rfl) aU rfl (jo (qfa rfl) (vb (qc QT ql)) vr) (qe3 rfl rfl Z.z_zip vr vr) (wJ rfl rfl (qM gn (qM gn vD))) vr vr
  (qm (vh rfl Z.b_cls (Z.b_no "asked" (by decide +kernel)) (i:=0) rfl (bj rfl) (by decide) (vb ql)))))))))
abbrev Qf:Z3:=top 37
abbrev Um:List Str:=["one","two"]
def yu:qS:=(ji (qia (d2 eqD (qe 0) (qe 1)) (d2 eqD (qe 0) (xm (qd (d2 ixD (qe 1) (dC (.int 1))) (qd (d2 ixD (qe 1) (dC (.int 0))) qA))))))
abbrev jM:ju:=jF Um [.val,.val] (yu)
abbrev ub(e0:Ev):=qI e0 1 "are_alike" ["one","two"] [.val,.val] .sh (jM)
theorem VU(Z:ZtE e0 ca)(T:kK e0 "are_alike" Qf ["one","two"]):ub e0:=
 dW [] T λc=>(qm (qr (qi0 (xM (vA rfl c.units) vr vr) (Yc (xM (vA rfl c.units) vr (ku (qc (ix vr qw) (qc (ix vr qw) ql))))))))
abbrev Jk:Z3:=top 38
abbrev Zs:List Str:=["seen","later","pair","ahead"]
def Jl:qS:=(qG (JE (zF (qe 0)) (kc 2 (qH (gNm 1) (qH (gNm 2) kb)))
  (JE (ka (qe 1)) (gNm 3)
  (sIf (vU (qt [.vl,.vl] jM (qd (d2 ixD (qe 0) (qe 3)) (qd (qe 2) qA)))) (ji (xm (qd (qe 3) (qd (qe 1) qA)))) qW)))
  (ji (dC .non)))
abbrev xC:ju:=jF Zs [.val] (Jl)
abbrev Qg(e0:Ev):=qI e0 2 "clash_of" ["seen"] [.val] .sh (xC)
theorem Uo(Z:ZtE e0 ca)(T:kK e0 "clash_of" Jk ["seen"])(o:ub e0):Qg e0:=
 dW [] T λc=>(qg (ke aU rfl (zU rfl rfl Z.z_enumerate vr) (wJ rfl rfl (qM gn (qM gn vD)))
  (qm (ke aU rfl (vW rfl Z.z_range vr) gn
  (qm (qT (tv (cN o (qc (ix vr vr) (qc vr ql)))) (qm (qr (ku (qc vr (qc vr ql))))) qF)))))
  (qm (qr QT)))
abbrev Ki:Z3:=top 44
abbrev Kj:List Str:=["fixed","letter","worth","more"]
def yS:qS:=(qG (jA 3 (d1 VC (qe 0)))
  (qG (VB 3 (qe 2) (qe 1))
  (ji (qe 3))))
abbrev kR:ju:=jF Kj [.io,.val,.val] (yS)
abbrev ya(e0:Ev):=qI e0 1 "with_worth" ["fixed","letter","worth"] [.io,.val,.val] .sh (kR)
theorem QJ(Z:ZtE e0 ca)(T:kK e0 "with_worth" Ki ["fixed","letter","worth"]):ya e0:=
 dW [0] T λc=>(qg (sO (jr (YQ rfl) rfl Z.z_dict Ka vO))
  (qg (JW (n:=3) c.units rfl (bj rfl) (by decide) vr vr)
  (jE [3] (qm (qr vr)))))
abbrev Jm:Z3:=top 39
abbrev Zu:List Str:=["pair","seen","fixed","letter"]
def Jn:qS:=(qG (JE (jv (qe 0)) (gNm 3)
  (sIf (qgX (qO (d2 Yx (qe 3) (qe 2))) (qO (d2 eqD (d1 JX (qN [] 1 [3] (jv (qe 1)) (gNm 0) ftT (dM qgd uV (qe 0) (qe 1)))) (dC (.int 1))))) (ji (dC (.bl iD))) qW))
  (ji (dC (.bl iE))))
abbrev jP:ju:=jF Zu [.val,.val,.val] (Jn)
abbrev Qh(e0:Ev):=qI e0 1 "is_loose" ["pair","seen","fixed"] [.val,.val,.val] .sh (jP)
theorem Up(Z:ZtE e0 ca)(T:kK e0 "is_loose" Jm ["pair","seen","fixed"]):Qh e0:=
 dW [] T λc=>(qg (ke aU rfl (qL rfl vr) gn
  (qm (qT (PW.pt (Gv (qK (gB rfl c.units) vr vr) (vL (qK (vA rfl c.units) (qB (WZ rfl rfl) rfl Z.z_sum qaO (cmp (qL rfl vr) (λ_ _ _ _=>(qaE rfl c.units vr vr)))) qw)))) (qm (qr wI)) qF)))
  (qm (qr wI)))
abbrev yT:Z3:=top 40
abbrev yU:List Str:=["seen","fixed","kept","rest"]
def yV:qS:=(qG (jA 2 (qe 0))
  (qG (jA 3 (qN [] 1 [2,1] (jv (qe 2)) (gNm 0) (yE (vU (qt [.vl,.vl,.vl] jP (qd (qe 0) (qd (qe 1) (qd (qe 2) qA)))))) (qe 0)))
  (qG (jG (qO (d2 ltD (d1 vz (qe 3)) (d1 vz (qe 2))))
  (qG (jA 2 (qe 3))
  (qG (jA 3 (qN [] 1 [2,1] (jv (qe 2)) (gNm 0) (yE (vU (qt [.vl,.vl,.vl] jP (qd (qe 0) (qd (qe 1) (qd (qe 2) qA)))))) (qe 0))) qW)) 20)
  (ji (qe 2)))))
abbrev wk:ju:=jF yU [.val,.val] (yV)
abbrev yb(e0:Ev):=qI e0 2 "bound_pairs" ["seen","fixed"] [.val,.val] .sh (wk)
theorem QK(Z:ZtE e0 ca)(T:kK e0 "bound_pairs" yT ["seen","fixed"])(o:Qh e0):yb e0:=
 dW [] T λc=>(qg (se vr)
  (qg (qge (qL rfl vr) (λ_ _ _ _=>vr) (ht:=λ_ _ _ _=>(yn (jg (tv (qQ o c (by decide) vX rfl (qc vr (qc vr (qc vr ql)))))))))
  (jE [3] (qg (gp 20 aU (qK Gn (qB (jz rfl) rfl Z.z_len jn vr) (qB (jz rfl) rfl Z.z_len jn vr))
  (qg (se vr)
  (qg (qge (qL rfl vr) (λ_ _ _ _=>vr) (ht:=λ_ _ _ _=>(yn (jg (tv (qQ o c (by decide) vX rfl (qc vr (qc vr (qc vr ql)))))))))
  (jE [3] qF))))
  (qm (qr vr))))))
abbrev Jo:Z3:=top 41
abbrev Jp:List Str:=["one","two","first","second","letter"]
def Jq:qS:=(qG (jA 2 (d1 Vl (qe 0)))
  (qG (jA 3 (gk qA))
  (qG (JE (jv (qe 1)) (gNm 4)
  (sIf (qO (d2 inA (qe 4) (qe 2))) (jY (xP 2 qfg (qe 4))) (jY (xP 3 KJ (qe 4)))))
  (ji (xm (qd (qe 2) (qd (qe 3) qA)))))))
abbrev kg:ju:=jF Jp [.val,.val] (Jq)
abbrev Qi(e0:Ev):=qI e0 1 "unshared" ["one","two"] [.val,.val] .sh (kg)
theorem Uq(Z:ZtE e0 ca)(T:kK e0 "unshared" Jo ["one","two"]):Qi e0:=
 dW [] T λc=>(qg (sO (jr (WK rfl) rfl Z.z_list wT vr))
  (qg (sO (vb ql))
  (qg (ke aU rfl (qL rfl vr) gn
  (qm (qT (qK (Yz rfl c.units) vr vO) (qm (jf (qaC (i:=2) rfl (bj rfl) (by decide) vr))) (qm (jf (wL (i:=3) rfl rfl (bj rfl) (by decide) vr))))))
  (jE [2,3] (qm (qr (ku (qc vr (qc vr ql)))))))))
abbrev yc:Z3:=top 42
abbrev QL:List Str:=["seen","found","later","pair"]
def yd:qS:=(qG (jA 1 (gk qA))
  (qG (JE (zF (qe 0)) (kc 2 (qH (gNm 2) (qH (gNm 3) kb)))
  (jY (xP 1 qct (qN [1] 1 [3] (jv (vi (qe 0) iB (iw (qe 2)))) (gNm 0) ftT (qt [.vl,.vl] kg (qd (qe 0) (qd (qe 1) qA)))))))
  (ji (qe 1))))
abbrev vR:ju:=jF QL [.val] (yd)
abbrev uc(e0:Ev):=qI e0 2 "contrasts_of" ["seen"] [.val] .sh (vR)
theorem Qj(Z:ZtE e0 ca)(T:kK e0 "contrasts_of" yc ["seen"])(O:Qi e0):uc e0:=
 dW [] T λc=>(qg (sO (vb ql))
  (qg (ke aU rfl (zU rfl rfl Z.z_enumerate vr) (wJ rfl rfl (qM gn (qM gn vD)))
  (qm (jf (gu (i:=1) rfl (bj rfl) (by decide) (cmp (qL rfl (VD rfl vr Yq (Yr vr))) (λ_ _ _ _=>(qQ O c (by decide) vX rfl (qc vr (qc vr ql)))))))))
  (jE [1] (qm (qr vr)))))
abbrev zi:Z3:=top 43
abbrev zj:List Str:=["contrast","room","fixed","first","second"]
def zk:qS:=(qG (jA 3 (d2 ixD (qe 0) (dC (.int 0))))
  (qG (jA 4 (d2 ixD (qe 0) (dC (.int 1))))
  (qG (sIf (yE (vU (d1 Yp (qN [] 1 [2] (jv (d2 vV (qe 3) (qe 4))) (gNm 0) ftT (d2 inA (qe 0) (qe 1)))))) (ji (dC (.bl iD))) qW)
  (ji (d2 neD (d2 gf (d2 qdI (d1 JX (qN [] 1 [2] (jv (qe 3)) (gNm 0) ftT (d2 ixD (qe 1) (qe 0)))) (d1 JX (qN [] 1 [2] (jv (qe 4)) (gNm 0) ftT (d2 ixD (qe 1) (qe 0))))) (qe 1)) (dC (.int 0)))))))
abbrev kB:ju:=jF zj [.val,.val,.val] (zk)
abbrev wl(e0:Ev):=qI e0 1 "may_differ" ["contrast","room","fixed"] [.val,.val,.val] .sh (kB)
theorem Kk(Z:ZtE e0 ca)(T:kK e0 "may_differ" zi ["contrast","room","fixed"]):wl e0:=
 dW [] T λc=>(qg (se (ix vr qw))
  (qg (se (ix vr qw))
  (qg (qT (jg (tv (qB (gy rfl rfl) rfl Z.z_all gU (cmp (qL rfl (jo (jN rfl) vr vr)) (λ_ _ _ _=>(xM (Yz rfl c.units) vr vr)))))) (qm (qr wI)) qF)
  (qm (qr (xM (Gr rfl c.units) (jo yD (jo QU (qB (WZ rfl rfl) rfl Z.z_sum qaO (cmp (qL rfl vr) (λ_ _ _ _=>(ix vr vr)))) (qB (WZ rfl rfl) rfl Z.z_sum qaO (cmp (qL rfl vr) (λ_ _ _ _=>(ix vr vr))))) vr) qw))))))
abbrev zl:Z3:=top 44
abbrev VV:List Str:=["fixed","letter","worth","more"]
def zm:qS:=(qG (jA 3 (d1 VC (qe 0)))
  (qG (VB 3 (qe 2) (qe 1))
  (ji (qe 3))))
abbrev vJ:ju:=jF VV [.val,.val,.val] (zm)
abbrev wm(e0:Ev):=qI e0 1 "with_worth" ["fixed","letter","worth"] [.val,.val,.val] .sh (vJ)
theorem Kl(Z:ZtE e0 ca)(T:kK e0 "with_worth" zl ["fixed","letter","worth"]):wm e0:=
 dW [] T λc=>(qg (sO (jr (YQ rfl) rfl Z.z_dict Ka vr))
  (qg (JW (n:=3) c.units rfl (bj rfl) (by decide) vr vr)
  (jE [3] (qm (qr vr)))))
abbrev jW:Z3:=top 45
abbrev jD:List Str:=["contrasts","room","fixed","letters","choices","worth"]
abbrev jX:List Str:=["contrasts","room","fixed","letters"]
theorem zI:FnScope jD jX (qC jW):=fsc
def jt(gr:ju):qS:=(qG (sIf (yE (vU (d1 Yp (qN [] 1 [1,2] (jv (qe 0)) (gNm 0) ftT (qt [.vl,.vl,.vl] kB (qd (qe 0) (qd (qe 1) (qd (qe 2) qA)))))))) (ji (dC (.bl iE))) qW)
  (qG (sIf (qO (d2 eqD (d1 vz (qe 3)) (dC (.int 0)))) (ji (dC (.bl iD))) qW)
  (qG (jA 4 (dIf (qO (d2 eqD (d1 vz (qe 2)) (dC (.int 0)))) (gk (qd (dC (.int 0)) qA)) (d1 uJ (qe 1))))
  (qG (JE (jv (qe 4)) (gNm 5)
  (sIf (vU (qt [.vl,.vl,.vl,.vl] gr (qd (qe 0) (qd (qe 1) (qd (qt [.vl,.vl,.vl] vJ (qd (qe 2) (qd (d2 ixD (qe 3) (dC (.int 0))) (qd (qe 5) qA)))) (qd (vi (qe 3) (iw (dC (.int 1))) iB) qA)))))) (ji (dC (.bl iD))) qW))
  (ji (dC (.bl iE)))))))
def qX:Nat->ju
 | 0=>jF jD [.val,.val,.val,.val] ZE
 |n+1=>jF jD [.val,.val,.val,.val] (jt (qX n))
abbrev ud:ju:=qX 14
abbrev wy(e0:Ev):=qI e0 16 "can_be_filled" jX [.val,.val,.val,.val] .sh ud
theorem zJ(Z:ZtE e0 ca)(T:kK e0 "can_be_filled" jW jX)(C:wl e0)(F:wm e0)(n:Nat):qI e0 (2+n) "can_be_filled" ["contrasts","room","fixed","letters"] [.val,.val,.val,.val] .sh (qX n):=by
 induction n with
 |zero=>exact dW [] T λc=>vg
 |succ n o=>exact gt (k:=2+n) (own':=[]) (fb:=jt (qX n)) T zI λcdv f A outer s H E c=>(qg (qT (jg (tv (qB (gy rfl rfl) rfl Z.z_all gU (cmp (qL rfl vr) (λ_ _ _ _=>(qQ C c (by omega) vX rfl (qc vr (qc vr (qc vr ql))))))))) (qm (qr wI)) qF)
  (qg (qT (qK (vA rfl c.units) (qB (jz rfl) rfl Z.z_len jn vr) qw) (qm (qr wI)) qF)
  (qg (se (qdX (qK (vA rfl c.units) (qB (jz rfl) rfl Z.z_len jn vr) qw) (vb (qc qw ql)) (Zf rfl rfl Z.z_list wT rfl Z.z_range YV vr)))
  (qg (ke aU rfl (qL rfl vr) gn
  (qm (qT (tv (qQ o c (by omega) xq rfl (qc vr (qc vr (qc (qQ F c (by omega) xq rfl (qc vr (qc (ix vr qw) (qc vr ql)))) (qc (VD rfl vr (Yr qw) Yq) ql)))))) (qm (qr wI)) qF)))
  (qm (qr wI))))))
theorem zK(Z:ZtE e0 ca)(T:kK e0 "can_be_filled" jW jX)(C:wl e0)(F:wm e0):wy e0:=zJ Z T C F 14
abbrev zn:Z3:=top 46
abbrev zo:List Str:=["seen","room","fixed","bound","letters"]
def ue:qS:=(qG (sIf (qO (d2 ltD (qe 1) (d1 vz (qe 0)))) (ji (dC (.bl iE))) qW)
  (qG (jA 3 (qt [.vl,.vl] wk (qd (qe 0) (qd (qe 2) qA))))
  (qG (jA 4 (qN [] 1 [2] (jv (qt [.vl] jh (qd (qe 3) qA))) (gNm 0) (qO (d2 Yx (qe 0) (qe 1))) (qe 0)))
  (ji (qt [.vl,.vl,.vl,.vl] ud (qd (qt [.vl] vR (qd (qe 3) qA)) (qd (qe 1) (qd (qe 2) (qd (qe 4) qA)))))))))
abbrev jb:ju:=jF zo [.val,.val,.val] (ue)
abbrev kS(e0:Ev):=qI e0 17 "can_differ" ["seen","room","fixed"] [.val,.val,.val] .sh (jb)
theorem Km(Z:ZtE e0 ca)(T:kK e0 "can_differ" zn ["seen","room","fixed"])(u:kQ e0)(a:yb e0)(W:uc e0)(o:wy e0):kS e0:=
 dW [] T λc=>(qg (qT (qK Gn vr (qB (jz rfl) rfl Z.z_len jn vr)) (qm (qr wI)) qF)
  (qg (se (cN a (qc vr (qc vr ql))))
  (qg (qge (qL rfl (cN u (qc vr ql))) (λ_ _ _ _=>vr) (ht:=λ_ _ _ _=>(yn (qK (gB rfl c.units) vr vr))))
  (jE [4] (qm (qr (cN o (qc (cN W (qc vr ql)) (qc vr (qc vr (qc vr ql)))))))))))
abbrev ye:Z3:=top 47
abbrev yf:List Str:=["seen","room","fixed","letter","worth"]
def yg:qS:=(qG (jA 2 (dC (.dct [])))
  (qG (JE (jv (qt [.vl] jh (qd (qe 0) qA))) (gNm 3)
  (qG (jA 4 (dC (.int 0)))
  (qG (jG (qgX (qO (d2 ltD (qe 4) (qe 1))) (yE (vU (qt [.vl,.vl,.vl] jb (qd (qe 0) (qd (qe 1) (qd (qt [.sl 2,.vl,.vl] kR (jZ (qd (qe 3) (qd (qe 4) qA)))) qA)))))))
  (jA 4 (d2 vV (qe 4) (dC (.int 1)))) 102)
  (qG (sIf (qO (d2 eqD (qe 4) (qe 1))) (ji (dC .non)) qW)
  (VB 2 (qe 4) (qe 3))))))
  (ji (d1 ve (d1 kW (qe 2))))))
abbrev vS:ju:=jF yf [.val,.val] (yg)
abbrev uf(e0:Ev):=qI e0 18 "least_worths" ["seen","room"] [.val,.val] .sh (vS)
theorem Qk(Z:ZtE e0 ca)(T:kK e0 "least_worths" ye ["seen","room"])(u:kQ e0)(a:ya e0)(o:kS e0):uf e0:=
 dW [] T λc=>(qg (sO JC)
  (qg (ke aU rfl (qL rfl (cN u (qc vr ql))) gn
  (qg (se qw)
  (qg (gp 102 aU (PW.pt (Gv (qK Gn vr vr) (vL (jg (tv (cN o (qc vr (qc vr (qc (cN a (sl (qc vr (qc vr ql)))) ql)))))))))
  (qm (se (jo (jN rfl) vr qw))))
  (qg (qT (qK (vA rfl c.units) vr vr) (qm (qr QT)) qF)
  (qm (JW (n:=2) c.units rfl (bj rfl) (by decide) vr vr))))))
  (qm (qr (jr (uH rfl) rfl Z.z_tuple kq (VG rfl rfl rfl Z.z_sorted wU vO))))))
abbrev Ql:Z3:=top 48
abbrev Qm:List Str:=["seen","room","found"]
def Qn:qS:=(qG (jA 2 (qe 1))
  (qG (jG (yE (vU (qt [.vl,.vl,.vl] jb (qd (qe 0) (qd (qe 2) (qd (dC (.dct [])) qA))))))
  (jA 2 (d2 vV (qe 2) (dC (.int 1)))) 100)
  (ji (qe 2))))
abbrev yv:ju:=jF Qm [.val,.val] (Qn)
abbrev zp(e0:Ev):=qI e0 18 "room_from" ["seen","room"] [.val,.val] .sh (yv)
theorem VW(Z:ZtE e0 ca)(T:kK e0 "room_from" Ql ["seen","room"])(o:kS e0):zp e0:=
 dW [] T λc=>(qg (se vr)
  (qg (gp 100 aU (jg (tv (cN o (qc vr (qc vr (qc JC ql))))))
  (qm (se (jo (jN rfl) vr qw))))
  (qm (qr vr))))
abbrev zq:Z3:=top 25
abbrev VX:List Str:=["thing"]
def zr:qS:=(sIf (yE (vU (qt [.vl] vZ (qd (qe 0) qA)))) ZE qW)
abbrev ug:ju:=jF VX [.val] (zr)
abbrev yW(e0:Ev):=qI e0 3 "check_word" ["thing"] [.val] .sh (ug)
theorem Kn(Z:ZtE e0 ca)(T:kK e0 "check_word" zq ["thing"])(o:xA e0):yW e0:=
 dW [] T λc=>(qm (qT (jg (tv (cN o (qc vr ql)))) vg qF))
abbrev kh:Z3:=xi (top 56) 3
abbrev wa:List Str:=["self","word"]
abbrev ki:List Str:=["self","word"]
theorem yX:FnScope wa ki (qC kh):=fsc
def kj(ca:Str->Z7):qS:=(qG (jY (qt [.vl] ug (qd (qe 1) qA)))
  (qG (sIf (qO (d2 inA (qe 1) (d1 (JU (ca "Words") "came") (qe 0)))) ZE qW)
  (sIf (qO (d2 eqD (d1 vz (d1 (JU (ca "Words") "came") (qe 0))) (dC (.int 6)))) ZE qW)))
abbrev km(ca:Str->Z7):ju:=jF wa [.io,.val] (kj ca)
abbrev vK(ca:Str->Z7)(e0:Ev):=Kb e0 4 (ca "Words") "check_new" ki [.io,.val] .sh (km ca)
theorem yY(Z:ZtE e0 ca)(T:Zh e0.K (ca "Words") "check_new" "Words.check_new" kh ki)(o:yW e0):vK ca e0:=
 JV (k:=3) (own':=[0]) (fb:=kj ca) T yX λcdv f A outer s H E c=>(qg (jf (cN o (qc vr ql)))
  (qg (qT (qK (Yz rfl c.units) vr (yN rfl Z.w_cls (Z.w_no "came" (by decide +kernel)) vO)) vg qF)
  (qm (qT (qK (vA rfl c.units) (qB (jz rfl) rfl Z.z_len jn (yN rfl Z.w_cls (Z.w_no "came" (by decide +kernel)) vO)) (vE Z.c_MOST_WORDS rfl)) vg qF))))
abbrev uh:Z3:=xi (top 56) 4
abbrev ui:List Str:=["self","word","words","seen","width"]
abbrev uj:List Str:=["self","word"]
theorem Ko:FnScope ui uj (qC uh):=fsc
def ul(ca:Str->Z7):qS:=(qG (jY (xV (ca "Words") 0 "check_new" [.vl] (km ca) (qd (qe 1) qA)))
  (qG (jA 2 (d2 vV (d1 (JU (ca "Words") "came") (qe 0)) (xm (qd (qe 1) qA))))
  (qG (jA 3 (qt [.vl,.vl] wY (qd (qe 2) (qd (d1 (JU (ca "Words") "look") (qe 0)) qA))))
  (qG (sIf (qO (d2 qcj (qt [.vl] xC (qd (qe 3) qA)) (dC .non))) ZE qW)
  (qG (jA 4 (qt [.vl,.vl] yv (qd (qe 3) (qd (d1 (JU (ca "Words") "width") (qe 0)) qA))))
  (qG (uP (ca "Words") 0 "held" (qt [.vl,.vl,.vl,.vl] kf (qd (qe 2) (qd (d1 (JU (ca "Words") "look") (qe 0)) (qd (qe 4) (qd (qt [.vl,.vl] vS (qd (qe 3) (qd (qe 4) qA))) qA))))))
  (qG (uP (ca "Words") 0 "came" (qe 2))
  (qG (uP (ca "Words") 0 "width" (qe 4))
  (ji (qe 4))))))))))
abbrev um(ca:Str->Z7):ju:=jF ui [.io,.val] (ul ca)
abbrev yZ(ca:Str->Z7)(e0:Ev):=Kb e0 19 (ca "Words") "come" uj [.io,.val] .sh (um ca)
theorem Kq(Z:ZtE e0 ca)(T:Zh e0.K (ca "Words") "come" "Words.come" uh uj)(m:uL e0)(J:yt e0)(d:Qg e0)(o:uf e0)(a:zp e0)(O:vK ca e0):yZ ca e0:=
 JV (k:=18) (own':=[0]) (fb:=ul ca) T Ko λcdv f A outer s H E c=>(qg (jf (YU (i:=0) Z.w_cls O c (by decide) xq rfl (bj rfl) (by decide) (qc vr ql)))
  (qg (se (jo (jN rfl) (yN rfl Z.w_cls (Z.w_no "came" (by decide +kernel)) vO) (ku (qc vr ql))))
  (qg (se (cN m (qc vr (qc (yN rfl Z.w_cls (Z.w_no "look" (by decide +kernel)) vO) ql))))
  (qg (qT (qK qeN (cN d (qc vr ql)) QT) vg qF)
  (qg (se (cN a (qc vr (qc (yN rfl Z.w_cls (Z.w_no "width" (by decide +kernel)) vO) ql))))
  (qg (vh rfl Z.w_cls (Z.w_no "held" (by decide +kernel)) (i:=0) rfl (bj rfl) (by decide) (cN J (qc vr (qc (yN rfl Z.w_cls (Z.w_no "look" (by decide +kernel)) vO) (qc vr (qc (cN o (qc vr (qc vr ql))) ql))))))
  (qg (vh rfl Z.w_cls (Z.w_no "came" (by decide +kernel)) (i:=0) rfl (bj rfl) (by decide) vr)
  (qg (vh rfl Z.w_cls (Z.w_no "width" (by decide +kernel)) (i:=0) rfl (bj rfl) (by decide) vr)
  (qm (qr vr))))))))))
abbrev kE:Z3:=xi (top 56) 0
abbrev wz:List Str:=["self","look"]
abbrev wA:List Str:=["self","look"]
theorem xD:FnScope wz wA (qC kE):=fsc
def kG(ca:Str->Z7):qS:=(qG (jY (qt [.vl] vI (qd (qe 1) qA)))
  (qG (uP (ca "Words") 0 "look" (qe 1))
  (qG (uP (ca "Words") 0 "came" (xm qA))
  (qG (uP (ca "Words") 0 "width" (dC (.int 0)))
  (uP (ca "Words") 0 "held" (xm qA))))))
abbrev kI(ca:Str->Z7):ju:=jF wz [.io,.val] (kG ca)
abbrev wb(ca:Str->Z7)(e0:Ev):=qaP e0 4 (ca "Words") ["self","look"] [.io,.val] (kI ca)
theorem xE(Z:ZtE e0 ca)(T:qcR e0.K (ca "Words") "Words.__init__" kE wA)(a:wj e0):wb ca e0:=
 qaw (k:=3) (own':=[0]) (fb:=kG ca) T xD λcdv f A outer s H E c=>(qg (jf (cN a (qc vr ql)))
  (qg (vh rfl Z.w_cls (Z.w_no "look" (by decide +kernel)) (i:=0) rfl (bj rfl) (by decide) vr)
  (qg (vh rfl Z.w_cls (Z.w_no "came" (by decide +kernel)) (i:=0) rfl (bj rfl) (by decide) (ku ql))
  (qg (vh rfl Z.w_cls (Z.w_no "width" (by decide +kernel)) (i:=0) rfl (bj rfl) (by decide) qw)
  (qm (vh rfl Z.w_cls (Z.w_no "held" (by decide +kernel)) (i:=0) rfl (bj rfl) (by decide) (ku ql)))))))
abbrev Jr:Z3:=top 58
abbrev Zv:List Str:=["_law_script","_law_k"]
def uM:qS:=(qG (sIf (qO (d2 ltD (qe 1) (d1 vz (qe 0)))) (ji (d2 ixD (qe 0) (qe 1))) qW)
  (qG (sIf (qO (d2 eqD (qe 0) (gk qA))) (ji (dC (.int 0))) qW)
  (ji (d2 vV (d2 Gm (d2 ixD (qe 0) (d2 gf (qe 1) (d1 vz (qe 0)))) (dC (.int 31))) (qe 1)))))
abbrev xF:ju:=jF Zv [.val,.val] (uM)
abbrev Qo(e0:Ev):=qI e0 1 "_law_cell_at" ["_law_script","_law_k"] [.val,.val] .sh (xF)
theorem Ur(Z:ZtE e0 ca)(T:kK e0 "_law_cell_at" Jr ["_law_script","_law_k"]):Qo e0:=
 dW [] T λc=>(qg (qT (qK Gn vr (qB (jz rfl) rfl Z.z_len jn vr)) (qm (qr (ix vr vr))) qF)
  (qg (qT (qK (vA rfl c.units) vr (vb ql)) (qm (qr qw)) qF)
  (qm (qr (jo (jN rfl) (jo UX (ix vr (jo yD vr (qB (jz rfl) rfl Z.z_len jn vr))) qw) vr)))))
abbrev YY:Z3:=top 59
abbrev qc4:List Str:=["_law_script","_law_k","_law_many","_law_drawn"]
def YZ:qS:=(qG (jA 3 (d2 gf (d2 vV (d2 vV (d2 Gm (qt [.vl,.vl] xF (qd (qe 0) (qd (qe 1) qA))) (dC (.int 1103515245))) (d2 Gm (dC (.int 7919)) (qe 1))) (dC (.int 12345))) (dC (.int 2147483647))))
  (ji (d2 gf (d2 gf (d2 gf (d2 qjj (qe 3) (dC (.int 5))) (dC (.int 2147483647))) (dC (.int 999983))) (qe 2))))
abbrev Kr:ju:=jF qc4 [.val,.val,.val] (YZ)
abbrev VY(e0:Ev):=qI e0 2 "_law_mixed" ["_law_script","_law_k","_law_many"] [.val,.val,.val] .sh (Kr)
theorem qaU(Z:ZtE e0 ca)(T:kK e0 "_law_mixed" YY ["_law_script","_law_k","_law_many"])(O:Qo e0):VY e0:=
 dW [] T λc=>(qg (se (jo yD (jo (jN rfl) (jo (jN rfl) (jo UX (cN O (qc vr (qc vr ql))) qw) (jo UX qw vr)) qw) qw))
  (qm (qr (jo yD (jo yD (jo yD (jo qhn vr qw) qw) qw) vr))))
abbrev qaV:Z3:=top 60
abbrev qfo:List Str:=["_law_script","_law_town","_law_many"]
def qaW:qS:=(qG (jY (xP 1 KJ (dC (.int 0))))
  (ji (qt [.vl,.vl,.vl] Kr (qd (qe 0) (qd (d1 vz (qe 1)) (qd (qe 2) qA))))))
abbrev kJ:ju:=jF qfo [.val,.io,.val] (qaW)
abbrev wn(e0:Ev):=qI e0 3 "_law_draw" ["_law_script","_law_town","_law_many"] [.val,.io,.val] .sh (kJ)
theorem qc5(Z:ZtE e0 ca)(T:kK e0 "_law_draw" qaV ["_law_script","_law_town","_law_many"])(O:VY e0):wn e0:=
 dW [1] T λc=>(qg (jf (wL (i:=1) rfl rfl (bj rfl) (by decide) qw))
  (qm (qr (cN O (qc vr (qc (qB (jz rfl) rfl Z.z_len jn vO) (qc vr ql)))))))
abbrev qhB:Z3:=top 65
abbrev qjp:List Str:=["_law_word_here","_law_place","_law_spots"]
def qjq:qS:=(qG (jA 2 (qN [] 1 [1,0] (ka (d1 vz (qe 0))) (gNm 0) (dOr (qO (d2 eqD (qe 0) (qe 1))) (qO (d2 eqD (qe 0) (d2 vV (qe 1) (d1 vz (qe 2)))))) (qe 0)))
  (qG (sIf (qO (d2 neD (qe 2) (gk qA))) (ji (d2 ixD (qe 0) (d2 ixD (qe 2) (dC (.int 0))))) qW)
  (ji (dIf (qO (d2 geD (qe 1) (dC (.int 0)))) (d2 ixD (qe 0) (d1 qjL (dC (.int 1)))) (d2 ixD (qe 0) (dC (.int 0)))))))
abbrev qaX:ju:=jF qjp [.val,.val] (qjq)
abbrev qd0(e0:Ev):=qI e0 1 "_law_at" ["_law_word_here","_law_place"] [.val,.val] .sh (qaX)
theorem qhC(Z:ZtE e0 ca)(T:kK e0 "_law_at" qhB ["_law_word_here","_law_place"]):qd0 e0:=
 dW [] T λc=>(qg (qge (vW rfl Z.z_range (qB (jz rfl) rfl Z.z_len jn vr)) (λ_ _ _ _=>vr) (ht:=λ_ _ _ _=>(yn (PW.pt (xN (qK (vA rfl c.units) vr vr) (vL (qK (vA rfl c.units) vr (jo (jN rfl) vr (qB (jz rfl) rfl Z.z_len jn vr)))))))))
  (jE [2] (qg (qT (qK (Gr rfl c.units) vr (vb ql)) (qm (qr (ix vr (ix vr qw)))) qF)
  (qm (qr (qci (qK qeM vr qw) (ix vr (qgP qdK qw)) (ix vr qw)))))))
abbrev qaY:Z3:=top 66
abbrev qaZ:List Str:=["_law_words_here","_law_look_here"]
def qa0:qS:=(ji (qN [] 1 [1] (jv (qe 0)) (gNm 0) ftT (xm (qd (qt [.vl,.vl] qaX (qd (qe 0) (qd (d2 ixD (qe 1) (dC (.int 0))) qA))) (qd (qt [.vl,.vl] qaX (qd (qe 0) (qd (d2 ixD (qe 1) (dC (.int 1))) qA))) qA)))))
abbrev Qp:ju:=jF qaZ [.val,.val] (qa0)
abbrev Ks(e0:Ev):=qI e0 2 "_law_seen" ["_law_words_here","_law_look_here"] [.val,.val] .sh (Qp)
theorem qc6(Z:ZtE e0 ca)(T:kK e0 "_law_seen" qaY ["_law_words_here","_law_look_here"])(O:qd0 e0):Ks e0:=
 dW [] T λc=>(qm (qr (cmp (qL rfl vr) (λ_ _ _ _=>(ku (qc (qQ O c (by decide) vX rfl (qc vr (qc (ix vr qw) ql))) (qc (qQ O c (by decide) vX rfl (qc vr (qc (ix vr qw) ql))) ql)))))))
abbrev qhD:Z3:=top 68
abbrev qhE:List Str:=["_law_words_here","_law_look_here","_law_room","_law_book"]
def qhF:qS:=(ji (d1 ve (qN [] 2 [2,3] (jv (qt [.vl,.vl] Qp (qd (qe 0) (qd (qe 1) qA)))) (kc 2 (qH (gNm 0) (qH (gNm 1) kb))) ftT (d2 gf (d2 vV (d2 ixD (qe 3) (qe 0)) (d2 ixD (qe 3) (qe 1))) (qe 2)))))
abbrev qa1:ju:=jF qhE [.val,.val,.val,.val] (qhF)
abbrev qd1(e0:Ev):=qI e0 3 "_law_by" ["_law_words_here","_law_look_here","_law_room","_law_book"] [.val,.val,.val,.val] .sh (qa1)
theorem qhG(Z:ZtE e0 ca)(T:kK e0 "_law_by" qhD ["_law_words_here","_law_look_here","_law_room","_law_book"])(o:Ks e0):qd1 e0:=
 dW [] T λc=>(qm (qr (jr (uH rfl) rfl Z.z_tuple kq (cmp (qL rfl (cN o (qc vr (qc vr ql)))) (λ_ _ _ _=>(jo yD (jo (jN rfl) (ix vr vr) (ix vr vr)) vr)) (hg:=λ_ _ _ _=>(wJ rfl rfl (qM gC (qM gC vD))))))))
abbrev qa2:Z3:=top 61
abbrev qfp:List Str:=["_law_script","_law_town","_law_some"]
def qa3:qS:=(ji (d2 ixD (qe 2) (qt [.vl,.sl 1,.vl] kJ (qd (qe 0) (jZ (qd (d1 vz (qe 2)) qA))))))
abbrev xG:ju:=jF qfp [.val,.io,.val] (qa3)
abbrev zX(e0:Ev):=qI e0 4 "_law_pick" ["_law_script","_law_town","_law_some"] [.val,.io,.val] .sh (xG)
theorem qc7(Z:ZtE e0 ca)(T:kK e0 "_law_pick" qa2 ["_law_script","_law_town","_law_some"])(o:wn e0):zX e0:=
 dW [1] T λc=>(qm (qr (ix vr (cN o (qc vr (sl (qc (qB (jz rfl) rfl Z.z_len jn vr) ql)))))))
abbrev qa4:Z3:=top 62
abbrev qfq:List Str:=["_law_script","_law_town","_law_letters_here","_law_most"]
def qa5:qS:=(ji (d1 (qah "") (qN [1] 1 [0,1,2] (ka (d2 vV (dC (.int 1)) (qt [.vl,.sl 1,.vl] kJ (qd (qe 0) (jZ (qd (qe 3) qA)))))) (gNm 0) ftT (qt [.vl,.sl 2,.vl] xG (qd (qe 1) (jZ (qd (qe 3) qA)))))))
abbrev Kt:ju:=jF qfq [.val,.io,.val,.val] (qa5)
abbrev Xa(e0:Ev):=qI e0 5 "_law_word" ["_law_script","_law_town","_law_letters_here","_law_most"] [.val,.io,.val,.val] .sh (Kt)
theorem qc8(Z:ZtE e0 ca)(T:kK e0 "_law_word" qa4 ["_law_script","_law_town","_law_letters_here","_law_most"])(o:wn e0)(H:zX e0):Xa e0:=
 dW [1] T λc=>(qm (qr (qe8 rfl (cmp (vW rfl Z.z_range (jo (jN rfl) qw (cN o (qc vr (vC (i:=1) rfl (dj (bj rfl)) (by decide) (qc vr ql)))))) (λ_ _ _ _=>(qQ H c (by decide) vX rfl (qc vr (vC (i:=2) rfl (by first|exact dj (dj rfl)|exact dj (bj rfl)) (by decide) (qc vr ql)))))))))
abbrev Xb:Z3:=top 63
abbrev qc9:List Str:=["_law_script","_law_town","_law_most","_law_letters_here","_law_made_here","_law_k","_law_word_here"]
def Xc:qS:=(qG (jA 3 (qt [.vl,.sl 1,.vl] xG (qd (qe 0) (jZ (qd (gk λρ=>.ok ([(.lst [(.str "a"),(.str "b")]),(.lst [(.str "a"),(.str "b"),(.str "c")]),(.lst [(.str "a"),(.str "b"),(.str "c"),(.str "d")]),(.lst [(.str "k"),(.str "m"),(.str "z"),(.str "a"),(.str "e")])],ρ)) qA)))))
  (qG (jA 4 (gk qA))
  (qG (JE (ka (d2 vV (dC (.int 1)) (qt [.vl,.sl 1,.vl] kJ (qd (qe 0) (jZ (qd (qe 2) qA)))))) (gNm 5)
  (qG (jA 6 (qt [.vl,.sl 1,.vl,.vl] Kt (qd (qe 0) (jZ (qd (qe 3) (qd (dC (.int 6)) qA))))))
  (sIf (qO (d2 Yx (qe 6) (qe 4))) (jY (xP 4 KJ (qe 6))) qW)))
  (ji (d1 ve (qe 4))))))
abbrev Ku:ju:=jF qc9 [.val,.io,.val] (Xc)
abbrev VZ(e0:Ev):=qI e0 6 "_law_words" ["_law_script","_law_town","_law_most"] [.val,.io,.val] .sh (Ku)
theorem qa6(Z:ZtE e0 ca)(T:kK e0 "_law_words" Xb ["_law_script","_law_town","_law_most"])(o:wn e0)(H:zX e0)(O:Xa e0):VZ e0:=
 dW [1] T λc=>(qg (se (cN H (qc vr (sl (qc (qaq 16 rfl) ql)))))
  (qg (sO (vb ql))
  (qg (ke aU rfl (vW rfl Z.z_range (jo (jN rfl) qw (cN o (qc vr (sl (qc vr ql)))))) gn
  (qg (se (cN O (qc vr (sl (qc vr (qc qw ql))))))
  (qm (qT (qK (gB rfl c.units) vr vO) (qm (jf (wL (i:=4) rfl rfl (bj rfl) (by decide) vr))) qF))))
  (qm (qr (jr (uH rfl) rfl Z.z_tuple kq vO))))))
abbrev qa7:Z3:=top 64
abbrev qfr:List Str:=["_law_script","_law_town"]
def qa8:qS:=(ji (xm (qd (d2 qdI (qt [.vl,.sl 1,.vl] kJ (qd (qe 0) (jZ (qd (dC (.int 6)) qA)))) (dC (.int 3))) (qd (d2 qdI (qt [.vl,.sl 1,.vl] kJ (qd (qe 0) (jZ (qd (dC (.int 6)) qA)))) (dC (.int 3))) qA))))
abbrev Us:ju:=jF qfr [.val,.io] (qa8)
abbrev Xd(e0:Ev):=qI e0 4 "_law_look" ["_law_script","_law_town"] [.val,.io] .sh (Us)
theorem qda(Z:ZtE e0 ca)(T:kK e0 "_law_look" qa7 ["_law_script","_law_town"])(o:wn e0):Xd e0:=
 dW [1] T λc=>(qm (qr (ku (qc (jo QU (cN o (qc vr (sl (qc qw ql)))) qw) (qc (jo QU (cN o (qc vr (sl (qc qw ql)))) qw) ql)))))
abbrev Js:Z3:=top 67
abbrev Zw:List Str:=["_law_words_here","_law_look_here","_law_made_here","_law_pair"]
def Jt:qS:=(qG (jA 2 (gk qA))
  (qG (JE (jv (qt [.vl,.vl] Qp (qd (qe 0) (qd (qe 1) qA)))) (gNm 3)
  (jY (xP 2 qct (d1 Vl (qe 3)))))
  (ji (d1 jU (qe 2)))))
abbrev xH:ju:=jF Zw [.val,.val] (Jt)
abbrev Qq(e0:Ev):=qI e0 3 "_law_letters" ["_law_words_here","_law_look_here"] [.val,.val] .sh (xH)
theorem Ut(Z:ZtE e0 ca)(T:kK e0 "_law_letters" Js ["_law_words_here","_law_look_here"])(o:Ks e0):Qq e0:=
 dW [] T λc=>(qg (sO (vb ql))
  (qg (ke aU rfl (qL rfl (cN o (qc vr (qc vr ql)))) gn
  (qm (jf (gu (i:=2) rfl (bj rfl) (by decide) (jr (WK rfl) rfl Z.z_list wT vr)))))
  (qm (qr (uI rfl rfl rfl Z.z_sorted wU rfl Z.z_set gW vO)))))
abbrev qa9:Z3:=top 70
abbrev qfs:List Str:=["_law_script","_law_town","_law_most","_law_wide","_law_room","_law_look_here","_law_names","_law_more","_law_letters_here"]
def qba:qS:=(qG (jA 4 (d2 vV (dC (.int 1)) (qt [.vl,.sl 1,.vl] kJ (qd (qe 0) (jZ (qd (qe 3) qA))))))
  (qG (jA 5 (qt [.vl,.sl 1] Us (qd (qe 0) (jZ qA))))
  (qG (jA 6 (qt [.vl,.sl 1,.vl] Ku (qd (qe 0) (jZ (qd (qe 2) qA)))))
  (qG (jA 7 (qt [.vl,.sl 1,.vl] xG (qd (qe 0) (jZ (qd (gk λρ=>.ok ([(.lst []),(.lst [(.str "q")]),(.lst [(.str "y"),(.str "x")])],ρ)) qA)))))
  (qG (jA 8 (d1 jU (d2 vV (qt [.vl,.vl] xH (qd (qe 6) (qd (qe 5) qA))) (qe 7))))
  (ji (xm (qd (qe 6) (qd (qe 5) (qd (qe 4) (qd (d1 ve (qN [1] 1 [0,1,4] (jv (qe 8)) (gNm 0) ftT (xm (qd (qe 0) (qd (qt [.vl,.sl 2,.vl] kJ (qd (qe 1) (jZ (qd (qe 3) qA)))) qA))))) qA)))))))))))
abbrev Uu:ju:=jF qfs [.val,.io,.val,.val] (qba)
abbrev Xe(e0:Ev):=qI e0 7 "_law_made" ["_law_script","_law_town","_law_most","_law_wide"] [.val,.io,.val,.val] .sh (Uu)
theorem qdb(Z:ZtE e0 ca)(T:kK e0 "_law_made" qa9 ["_law_script","_law_town","_law_most","_law_wide"])(o:wn e0)(H:zX e0)(m:VZ e0)(O:Xd e0)(a:Qq e0):Xe e0:=
 dW [1] T λc=>(qg (se (jo (jN rfl) qw (cN o (qc vr (vC (i:=1) rfl (dj (bj rfl)) (by decide) (qc vr ql))))))
  (qg (se (cN O (qc vr (vC (i:=1) rfl (dj (bj rfl)) (by decide) ql))))
  (qg (se (cN m (qc vr (vC (i:=1) rfl (dj (bj rfl)) (by decide) (qc vr ql)))))
  (qg (se (cN H (qc vr (vC (i:=1) rfl (dj (bj rfl)) (by decide) (qc (qaq 12 rfl) ql)))))
  (qg (se (uI rfl rfl rfl Z.z_sorted wU rfl Z.z_set gW (jo (jN rfl) (cN a (qc vr (qc vr ql))) vr)))
  (qm (qr (ku (qc vr (qc vr (qc vr (qc (jr (uH rfl) rfl Z.z_tuple kq (cmp (qL rfl vr) (λ_ _ _ _=>(ku (qc vr (qc (qQ o c (by decide) vX rfl (qc vr (vC (i:=2) rfl (by first|exact dj (dj rfl)|exact dj (bj rfl)) (by decide) (qc vr ql)))) ql)))))) ql))))))))))))
abbrev qbb:Z3:=top 71
abbrev qft:List Str:=["_law_script","_law_town","_law_kept","_law_word_here","_law_names","_law_look_here","_law_room","_law_line","_law_numbers"]
def qbc:qS:=(qG (qg6 (qt [.vl,.sl 1,.vl,.vl] Uu (qd (qe 0) (jZ (qd (dC (.int 6)) (qd (dC (.int 20)) qA))))) (kc 4 (qH (gNm 4) (qH (gNm 5) (qH (gNm 6) (qH (gNm 7) kb))))))
  (qG (jA 2 (xm qA))
  (qG (JE (jv (qe 4)) (gNm 3)
  (qG (jA 8 (qt [.vl,.vl,.vl,.vl] qa1 (qd (d2 vV (qe 2) (xm (qd (qe 3) qA))) (qd (qe 5) (qd (qe 6) (qd (d1 JL (qe 7)) qA))))))
  (sIf (qO (d2 eqD (d1 ko (qe 8)) (d1 vz (qe 8)))) (jA 2 (d2 vV (qe 2) (xm (qd (qe 3) qA)))) qW)))
  (ji (xm (qd (qe 2) (qd (qe 5) (qd (qe 6) (qd (qe 7) qA)))))))))
abbrev Uv:ju:=jF qft [.val,.io] (qbc)
abbrev Xf(e0:Ev):=qI e0 8 "_law_good" ["_law_script","_law_town"] [.val,.io] .sh (Uv)
theorem qdc(Z:ZtE e0 ca)(T:kK e0 "_law_good" qbb ["_law_script","_law_town"])(O:qd1 e0)(q:Xe e0):Xf e0:=
 dW [1] T λc=>(qg (GC (cN q (qc vr (sl (qc qw (qc qw ql))))) (wJ rfl rfl (qM gn (qM gn (qM gn (qM gn vD))))))
  (qg (se (ku ql))
  (qg (ke aU rfl (qL rfl vr) gn
  (qg (se (cN O (qc (jo (jN rfl) vr (ku (qc vr ql))) (qc vr (qc vr (qc (jr (GN rfl rfl) rfl Z.z_dict Ka vr) ql))))))
  (qm (qT (qK (vA rfl c.units) (Jb rfl rfl rfl Z.z_len jn rfl Z.z_set gW vr) (qB (jz rfl) rfl Z.z_len jn vr)) (qm (se (jo (jN rfl) vr (ku (qc vr ql))))) qF))))
  (qm (qr (ku (qc vr (qc vr (qc vr (qc vr ql))))))))))
abbrev Qr:Z3:=top 30
abbrev Uw:List Str:=["places","found","first"]
def Ux:qS:=(qG (jA 0 (d2 gR (dC (.int (-3))) (d2 vV (dC (.int 2)) (dC (.int 1)))))
  (qG (jA 1 (gk qA))
  (qG (JE (jv (qe 0)) (gNm 2)
  (jY (xP 1 qct (qN [1] 1 [2] (jv (qe 0)) (gNm 0) ftT (xm (qd (qe 1) (qd (qe 0) qA)))))))
  (ji (qe 1)))))
abbrev jl:ju:=jF Uw [] (Ux)
abbrev uo(e0:Ev):=qI e0 1 "all_looks" [] [] .sh (jl)
theorem Wa(Z:ZtE e0 ca)(T:kK e0 "all_looks" Qr []):uo e0:=
 dW [] T λc=>(qg (se (WX rfl rfl Z.z_list wT rfl Z.z_range YV (vE Z.c_LEAST_PLACE rfl) (jo (jN rfl) (vE Z.c_MOST_PLACE rfl) qw)))
  (qg (sO (vb ql))
  (qg (ke aU rfl (qL rfl vr) gn
  (qm (jf (gu (i:=1) rfl (bj rfl) (by decide) (cmp (qL rfl vr) (λ_ _ _ _=>(ku (qc vr (qc vr ql)))))))))
  (jE [1] (qm (qr vr))))))
abbrev qbd:Z3:=top 49
abbrev qbe:List Str:=["words"]
def qbf:qS:=(qG (jY (qt [.vl] kP (qd (qe 0) qA)))
  (ji (qN [] 1 [0] (jv (qt [] jl qA)) (gNm 0) (vU (qt [.vl,.vl,.vl] jb (qd (qt [.vl,.vl] wY (qd (qe 1) (qd (qe 0) qA))) (qd (d1 vz (qe 1)) (qd (dC (.dct [])) qA))))) (qe 0))))
abbrev Uy:ju:=jF qbe [.val] (qbf)
abbrev Xg(e0:Ev):=qI e0 18 "looks" ["words"] [.val] .sh (Uy)
theorem qdd(Z:ZtE e0 ca)(T:kK e0 "looks" qbd ["words"])(B:vQ e0)(A:uo e0)(m:uL e0)(o:kS e0):Xg e0:=
 dW [] T λc=>(qg (jf (cN B (qc vr ql)))
  (qm (qr (cmp (qL rfl (gS A c (by decide) xq rfl)) (λ_ _ _ _=>vr) (ht:=λ_ _ _ _=>(yn (tv (qQ o c (by decide) vX rfl (qc (qQ m c (by decide) vX rfl (qc vr (qc vr ql))) (qc (qB (jz rfl) rfl Z.z_len jn vr) (qc JC ql)))))))))))
abbrev Uz:Z3:=top 51
abbrev qbg:List Str:=["words","look","seen","found","first","pair","group"]
abbrev UA:List Str:=["words","look"]
theorem qde:FnScope qbg UA (qC Uz):=fsc
def UB:qS:=(qG (jA 2 (qt [.vl,.vl] wY (qd (qe 0) (qd (qe 1) qA))))
  (qG (jA 3 (gk qA))
  (qG (JE (zF (qe 2)) (kc 2 (qH (gNm 4) (qH (gNm 5) kb)))
  (qG (jA 6 (qN [3] 2 [5] (zF (qe 2)) (kc 2 (qH (gNm 0) (qH (gNm 1) kb))) (vU (qt [.vl,.vl] jM (qd (qe 2) (qd (qe 1) qA)))) (qe 0)))
  (sIf (qO (d2 eqD (d2 ixD (qe 6) (dC (.int 0))) (qe 4))) (jY (xP 3 KJ (qe 6))) qW)))
  (ji (qe 3)))))
abbrev uq:ju:=jF qbg [.val,.val] (UB)
abbrev Kv(e0:Ev):=qI e0 6 "alike" UA [.val,.val] .fr (uq)
theorem qdf(Z:ZtE e0 ca)(T:kK e0 "alike" Uz UA)(m:uL e0)(o:ub e0):Kv e0:=
 gt (k:=5) (own':=[]) (fb:=UB) (hmr:=.inr λ_=>(uX (uX (uX (λ_ _=>gP)))) _) T qde λcdv f A outer s H E c=>(qhy rfl (JZ rfl (se (cN m (qc vr (qc vr ql))))
  (JZ rfl (sO (vb ql))
  (JZ rfl (ke aU rfl (zU rfl rfl Z.z_enumerate vr) (wJ rfl rfl (qM gn (qM gn vD)))
  (qg (qge (zU rfl rfl Z.z_enumerate vr) (λ_ _ _ _=>vr) (hg:=λ_ _ _ _=>(wJ rfl rfl (qM gC (qM gC vD)))) (ht:=λ_ _ _ _=>(yn (tv (qQ o c (by decide) vX rfl (qc vr (qc vr ql)))))))
  (jE [6] (qm (qT (qK (vA rfl c.units) (ix vr qw) vr) (qm (jf (wL (i:=3) rfl rfl (bj rfl) (by decide) vr))) qF)))))
  qfk))))
abbrev ur:Z3:=top 52
abbrev ut:List Str:=["words","most"]
theorem Kw:FnScope ut ["words"] (qC ur):=fsc
def uu:qS:=(qG (jA 1 (d1 qaB (qN [] 1 [0] (jv (qt [] jl qA)) (gNm 0) ftT (d1 vz (qt [.vl,.vl] uq (qd (qe 1) (qd (qe 0) qA)))))))
  (ji (qN [] 1 [1,0] (jv (qt [] jl qA)) (gNm 0) (qO (d2 eqD (d1 vz (qt [.vl,.vl] uq (qd (qe 2) (qd (qe 0) qA)))) (qe 1))) (qe 0))))
abbrev uw:ju:=jF ut [.val] (uu)
abbrev xa(e0:Ev):=qI e0 7 "best_looks" ["words"] [.val] .fr (uw)
theorem Ky(Z:ZtE e0 ca)(T:kK e0 "best_looks" ur ["words"])(a:uo e0)(o:Kv e0):xa e0:=
 gt (k:=6) (own':=[]) (fb:=uu) (hmr:=.inr λ_=>(uX (λ_ _=>gP)) _) T Kw λcdv f A outer s H E c=>(qg (se (qB (qff rfl rfl) rfl Z.z_max qdY (cmp (qL rfl (gS a c (by decide) xq rfl)) (λ_ _ _ _=>(qB (jz rfl) rfl Z.z_len jn (qQ o c (by decide) vX rfl (qc vr (qc vr ql))))))))
  (qm (va (cmp (qL rfl (gS a c (by decide) xq rfl)) (λ_ _ _ _=>vr) (ht:=λ_ _ _ _=>(yn (qK (vA rfl c.units) (qB (jz rfl) rfl Z.z_len jn (qQ o c (by decide) vX rfl (qc vr (qc vr ql)))) vr)))))))
abbrev wo:Z3:=xi (top 54) 1
abbrev xb:List Str:=["self"]
theorem QM:FnScope xb ["self"] (qC wo):=fsc
def wq(ca:Str->Z7):qS:=(ji (d1 Vl (d1 (JU (ca "Book") "standing") (qe 0))))
abbrev wt(ca:Str->Z7):ju:=jF xb [.val] (wq ca)
abbrev yh(ca:Str->Z7)(e0:Ev):=Kb e0 1 (ca "Book") "places" ["self"] [.val] .fr (wt ca)
theorem QN(Z:ZtE e0 ca)(T:Zh e0.K (ca "Book") "places" "Book.places" wo ["self"]):yh ca e0:=
 JV (k:=0) (own':=[]) (fb:=wq ca) (hmr:=.inr λ_ _=>gP) T QM λcdv f A outer s H E c=>(qm (va (jr (WK rfl) rfl Z.z_list wT (yN rfl Z.b_cls (Z.b_no "standing" (by decide +kernel)) vr))))
abbrev vt:Z3:=xi (top 56) 6
abbrev ux:List Str:=["self"]
theorem zL:FnScope ux ["self"] (qC vt):=fsc
def vw(ca:Str->Z7):qS:=(ji (d2 vH (d1 (JU (ca "Words") "came") (qe 0)) (d1 (JU (ca "Words") "held") (qe 0))))
abbrev vx(ca:Str->Z7):ju:=jF ux [.val] (vw ca)
abbrev wB(ca:Str->Z7)(e0:Ev):=Kb e0 1 (ca "Words") "numbers" ["self"] [.val] .fr (vx ca)
theorem zM(Z:ZtE e0 ca)(T:Zh e0.K (ca "Words") "numbers" "Words.numbers" vt ["self"]):wB ca e0:=
 JV (k:=0) (own':=[]) (fb:=vw ca) (hmr:=.inr λ_ _=>gP) T zL λcdv f A outer s H E c=>(qm (va (Zl rfl rfl rfl Z.z_list wT rfl Z.z_zip (yN rfl Z.w_cls (Z.w_no "came" (by decide +kernel)) vr) (yN rfl Z.w_cls (Z.w_no "held" (by decide +kernel)) vr))))
abbrev qbh:Z3:=top 72
abbrev qbi:List Str:=["_law_what","_law_names","_law_look_here","_law_book","_law_some"]
abbrev xI:List Str:=["_law_what","_law_names","_law_look_here","_law_book","_law_some"]
theorem qfu:FnScope qbi xI (qC qbh):=fsc
def qd2(ca:Str->Z7):qS:=(qG (sIf (qO (d2 eqD (qe 0) (dC (.int 0)))) (ji (qt [.vl,.vl] wY (qd (qe 1) (qd (qe 2) qA)))) qW)
  (qG (sIf (qO (d2 eqD (qe 0) (dC (.int 1)))) (ji (d2 qc0 (qt [.vl] Uy (qd (qe 1) qA)) (gk (qd (dC (.int 1)) qA)))) qW)
  (qG (sIf (qO (d2 eqD (qe 0) (dC (.int 2)))) (ji (qt [.vl,.vl] uq (qd (qe 1) (qd (qe 2) qA)))) qW)
  (qG (sIf (qO (d2 eqD (qe 0) (dC (.int 3)))) (ji (qt [.vl] uw (qd (qe 1) qA))) qW)
  (ji (dIf (qO (d2 eqD (qe 0) (dC (.int 4)))) (gO (ca "Book") "places" (wt ca) (qe 3)) (gO (ca "Words") "numbers" (vx ca) (qe 4))))))))
abbrev Xh(ca:Str->Z7):ju:=jF qbi [.val,.val,.val,.val,.val] (qd2 ca)
abbrev qbj(ca:Str->Z7)(e0:Ev):=qI e0 19 "_law_ask" xI [.val,.val,.val,.val,.val] .fr (Xh ca)
theorem qfv(Z:ZtE e0 ca)(T:kK e0 "_law_ask" qbh xI)(m:uL e0)(O:Xg e0)(K:Kv e0)(a:xa e0)(o:yh ca e0)(S:wB ca e0):qbj ca e0:=
 gt (k:=18) (own':=[]) (fb:=qd2 ca) (hmr:=.inr λ_=>(uX (uX (uX (uX (λ_ _=>gP))))) _) T qfu λcdv f A outer s H E c=>(qg (qT (qK (vA rfl c.units) vr qw) (qm (va (cN m (qc vr (qc vr ql))))) qF)
  (qg (qT (qK (vA rfl c.units) vr qw) (qm (va (jo (qfl rfl) (cN O (qc vr ql)) (vb (qc qw ql))))) qF)
  (qg (qT (qK (vA rfl c.units) vr qw) (qm (va (cN K (qc vr (qc vr ql))))) qF)
  (qg (qT (qK (vA rfl c.units) vr qw) (qm (va (cN a (qc vr ql)))) qF)
  (qm (va (qdX (qK (vA rfl c.units) vr qw) (YK Z.b_cls o c (by decide) xq vr) (YK Z.w_cls S c (by decide) xq vr))))))))
abbrev UC:Z3:=top 73
abbrev UD:List Str:=["_law_made_here"]
abbrev yw:List Str:=["_law_made_here"]
theorem qdg:FnScope UD yw (qC UC):=fsc
def UE:qS:=(ji (qN [] 1 [] (jv (qe 0)) (gNm 0) ftT (dIf (vU (d1 (wM "list") (qe 0))) (d1 ve (qe 0)) (qe 0))))
abbrev Kz:ju:=jF UD [.val] (UE)
abbrev Xi(e0:Ev):=qI e0 1 "_law_flat" yw [.val] .fr (Kz)
theorem qdh(Z:ZtE e0 ca)(T:kK e0 "_law_flat" UC yw):Xi e0:=
 gt (k:=0) (own':=[]) (fb:=UE) (hmr:=.inr λ_ _=>gP) T qdg λcdv f A outer s H E c=>(qm (va (cmp (qL rfl vr) (λ_ _ _ _=>(qci (tv (uS rfl rfl Z.z_isinstance qU rfl Z.z_list wT vr)) (jr (uH rfl) rfl Z.z_tuple kq vr) vr)))))
abbrev qdi:Z3:=top 74
abbrev qdj:List Str:=["_law_script","_law_town","_law_begin","_law_k","_law_names","_law_look_here","_law_room","_law_line","_law_book","_law_some","_law_what","_law_made_here","_law_copy","_law_again"]
abbrev qhH:List Str:=["_law_script"]
theorem qd3:FnScope qdj qhH (qC qdi):=fsc
def qhI(ca:Str->Z7):qS:=(qG (jA 1 (gk qA))
  (qG (jA 2 (qt [.vl,.sl 1,.vl] kJ (qd (qe 0) (jZ (qd (dC (.int 6)) qA)))))
  (qG (qg6 (qt [.vl,.sl 1] Uv (qd (qe 0) (jZ qA))) (kc 4 (qH (gNm 4) (qH (gNm 5) (qH (gNm 6) (qH (gNm 7) kb))))))
  (qG (qhs 8 9 (qd (WW (ca "Book") (vp ca) (qd (qe 4) (qd (qe 5) (qd (qe 6) (qd (qe 7) qA))))) (qd (WW (ca "Words") (kI ca) (qd (qe 5) qA)) qA)))
  (qG (jY (xV (ca "Words") 9 "come" [.vl] (um ca) (qd (d2 ixD (qe 4) (dC (.int 0))) qA)))
  (qG (JE (ka (dC (.int 6))) (gNm 3)
  (qG (jA 10 (d2 gf (d2 vV (qe 2) (d2 Gm (dC (.int 5)) (qe 3))) (dC (.int 6))))
  (qG (jA 11 (qt [.vl,.vl,.vl,.vl,.vl] (Xh ca) (qd (qe 10) (qd (qe 4) (qd (qe 5) (qd (qe 8) (qd (qe 9) qA)))))))
  (qG (jA 12 (qaM 11 Kz))
  (qG (jY (xP 11 KJ (dC (.str "changed"))))
  (qG (sIf (qO (d2 eqD (d2 gf (qe 10) (dC (.int 2))) (dC (.int 0)))) (YL 11 (dC .non) (dC (.int 0))) qW)
  (qG (jA 13 (qt [.vl,.vl,.vl,.vl,.vl] (Xh ca) (qd (qe 10) (qd (qe 4) (qd (qe 5) (qd (qe 8) (qd (qe 9) qA)))))))
  (qG (sIf (dOr (qO (d2 neD (qt [.vl] Kz (qd (qe 13) qA)) (qe 12))) (yE (vU (d1 (wM "list") (qe 13))))) (ji (dC (.bl iE))) qW) qW))))))))
  (ji (dC (.bl iD)))))))))
abbrev qfw(ca:Str->Z7):ju:=jF qdj [.val] (qhI ca)
theorem qhJ{f:Z7}{fd:lA}(Z:ZtE e0 ca)(F:Fun e0.K "law" "law" qdi f fd)(U:wx ca e0)(b:yZ ca e0)(a:wb ca e0)(g:wn e0)(t:Xf e0)(O:qbj ca e0)(o:Xi e0):FnOk e0.P e0.w e0.K e0.mg e0.base (CXk e0.P e0.w) 20 f fd qhH (spD e0.K e0.cv [.val] .sh (qfw ca)):=
 qib (k:=19) (own':=[]) (fb:=qhI ca) F qd3 rfl (kZ rfl) (.inl rfl) (λcdv A outer s H E c=>(qg (sO (vb ql))
  (qg (se (cN g (qc vr (sl (qc qw ql)))))
  (qg (GC (cN t (qc vr (sl ql))) (wJ rfl rfl (qM gn (qM gn (qM gn (qM gn vD))))))
  (qg (qcZ (i:=8) (j:=9) rfl qd3.nd rfl rfl rfl rfl (qau U c (by decide) xq rfl Z.m_Book (qc vr (qc vr (qc vr (qc vr ql))))) (qau a c (by decide) xq rfl Z.m_Words (qc vr ql)))
  (qg (jf (YU (i:=9) Z.w_cls b c (by decide) xq rfl (bj rfl) (by decide) (qc (ix vr qw) ql)))
  (jE [8,9] (qg (ke aU rfl (vW rfl Z.z_range qw) gn
  (qg (se (jo yD (jo (jN rfl) vr (jo UX qw vr)) qw))
  (qg (sO (cN O (qc vr (qc vr (qc vr (qc vr (qc vr ql)))))))
  (qg (se (qfm (i:=11) o c (by decide) xq rfl rfl (bj rfl) (by decide)))
  (qg (jf (wL (i:=11) rfl rfl (bj rfl) (by decide) UW))
  (qg (qT (qK (vA rfl c.units) (jo yD vr qw) qw) (qm (qax (n:=11) rfl (bj rfl) (by decide) QT qw)) qF)
  (qg (se (cN O (qc vr (qc vr (qc vr (qc vr (qc vr ql)))))))
  (qg (qT (PW.pt (xN (qK (Gr rfl c.units) (cN o (qc vr ql)) vr) (vL (jg (tv (uS rfl rfl Z.z_isinstance qU rfl Z.z_list wT vr)))))) (qm (qr wI)) qF)
  (jE [11] qF)))))))))
  (qm (qr wI)))))))))) λ_=>.inr rfl
end
end Kx
namespace Kx
open PySem PySem.Spec L2 L2.D2
variable{ρ:Sl}{ds:List D}{d:D}{ms:List PM}{n:Nat}{x:Str}
section
variable{as:List AK}{os:List D}{i j:Int}{y:Str}{b:Bool}{ks:List (Key×D)}
@[simp] theorem qky:kx [] [] ρ=iw []:=rfl
@[simp] theorem qkz:kx (.sl n::as) (d::ds) ρ=match ρ[n]? with|some (iw d)=>(kx as ds ρ).map (d::·)|_=>none:=rfl
@[simp] theorem qkA:kx (.vl::as) (d::ds) ρ=(kx as ds ρ).map (d::·):=rfl
@[simp] theorem qkB:kx (.fr::as) (d::ds) ρ=(kx as ds ρ).map (d::·):=rfl
@[simp] theorem qkC:zy [] [] ρ=ρ:=rfl
@[simp] theorem qkD:zy (.sl n::as) (d::ds) ρ=zy as ds (ρ.set n (iw d)):=rfl
@[simp] theorem qkE:zy (.vl::as) (d::ds) ρ=zy as ds ρ:=rfl
@[simp] theorem qkF:zy (.fr::as) (d::ds) ρ=zy as ds ρ:=rfl
@[simp] theorem qkG:jJ ρ n []=[]:=rfl
@[simp] theorem qkH:jJ ρ n (.io::ms)=((ρ[n]?).getD iB).getD .non::jJ ρ (n+1) ms:=rfl
@[simp] theorem qkI:jJ ρ n (.val::ms)=.non::jJ ρ (n+1) ms:=rfl
@[simp] theorem qkJ:jJ ρ n (.tk::ms)=.non::jJ ρ (n+1) ms:=rfl
@[simp] theorem qkK:vV (.int i) (.int j)=.ok (.int (i+j)):=rfl
@[simp] theorem qkL:vV (.str x) (.str y)=if x.length+y.length<=Z8 then .ok (.str (x++y))else .bad:=rfl
@[simp] theorem qks:vV (.lst ds) (.lst os)=if ds.length+os.length<=Z8 then .ok (.lst (ds++os))else .bad:=rfl
@[simp] theorem qkM:vV (.tup ds) (.tup os)=if ds.length+os.length<=Z8 then .ok (.tup (ds++os))else .bad:=rfl
@[simp] theorem qkN:qi1 .non .non=.ok (.bl iD):=rfl
@[simp] theorem qkO:qi1 (.tup ds) .non=.ok (.bl iE):=rfl
@[simp] theorem qkP:qi1 (.dct ks) .non=.ok (.bl iE):=rfl
@[simp] theorem qkQ:qcj .non .non=.ok (.bl iE):=rfl
@[simp] theorem qkR:qcj (.tup ds) .non=.ok (.bl iD):=rfl
@[simp] theorem ylI:ltD (.int i) (.int j)=.ok (.bl (decide (i<j))):=rfl
@[simp] theorem ylS:ltD (.str x) (.str y)=.ok (.bl (wD x y)):=rfl
@[simp] theorem yeI:leD (.int i) (.int j)=.ok (.bl (decide (i<=j))):=rfl
@[simp] theorem yeS:leD (.str x) (.str y)=.ok (.bl (!wD y x)):=rfl
@[simp] theorem ygI:gtD (.int i) (.int j)=.ok (.bl (decide (j<i))):=rfl
@[simp] theorem ysI:qdI (.int i) (.int j)=.ok (.int (i - j)):=rfl
@[simp] theorem ytB:ZD (.bl b)=.ok b:=rfl
@[simp] theorem ytI:ZD (.int i)=.ok (i != 0):=rfl
@[simp] theorem ytN:ZD .non=.ok false:=rfl
@[simp] theorem ytL:ZD (.lst ds)=.ok (!ds.isEmpty):=rfl
@[simp] theorem ytT:ZD (.tup ds)=.ok (!ds.isEmpty):=rfl
@[simp] theorem ynS:vz (.str x)=.ok (.int x.length):=rfl
@[simp] theorem ynL:vz (.lst ds)=.ok (.int ds.length):=rfl
@[simp] theorem ynT:vz (.tup ds)=.ok (.int ds.length):=rfl
@[simp] theorem ynD:vz (.dct ks)=.ok (.int ks.length):=rfl
end
variable{α:Type}
theorem yx(xs:List α)(k:Nat):atI xs (k:Int)=xs[k]?:=by
 unfold atI ixN;rw[Aa (by lia)];by_cases h:k<xs.length;·rw[Aa (by lia)];simp
 .rw[Ab (by lia),bA (by lia)];rfl
theorem qhK{xs:List α}{i:Int}(a:0<=i)(h1:i<xs.length):∃d,atI xs i=iw d/\d∈xs:=by
 obtain⟨k,rfl⟩:=Int.eq_ofNat_of_zero_le a;have h:k<xs.length:=by lia
 exact⟨xs[k],by rw[yx,aG h],cS h⟩
theorem big:2000<=Z8:=by rw[iM];decide
abbrev scr(ns:List Int):D:=.lst (ns.map .int)
theorem qfx(ns:List Int)(k:Nat):∃i,xF [scr ns,.int k]=.ok (.int i,[.non,.non]):=by
 by_cases h:k<ns.length;·refine⟨ns[k],?_⟩;refine qu.trans ?_;simp[uM,qx,ixD,h,yx]
 .by_cases a:ns=[]
  .subst a;have b:¬((k:Int)<0):=by lia
   exact⟨0,by refine qu.trans ?_;simp[uM,qx,ixD,eqD,eqN,ww,b]⟩
  .have hp:0<ns.length:=fm.mpr a;have c:k % ns.length<ns.length:=Nat.mod_lt _ hp;have e:atI (ns.map D.int) ((k:Int) % (ns.length:Int))=iw (.int ns[k % ns.length]):=by rw[show((k:Int) % (ns.length:Int))=((k % ns.length:Nat):Int) by simp,yx,aJ,aG c];rfl
   refine⟨ns[k % ns.length] * 31+k,?_⟩;refine qu.trans ?_;simp[uM,qx,ixD,eqD,eqN,h,a,gf,Gm,Qy,hp,e,CMul]
variable{many:Int}
theorem qdk(ns:List Int)(k:Nat)(h:0<many):∃r,0<=r/\r<many/\Kr [scr ns,.int k,.int many]=.ok (.int r,[.non,.non,.non]):=by
 obtain⟨c,a⟩:=qfx ns k;have h1:=fh (c * 1103515245+7919 * k+12345) (show(2147483647:Int)≠0 by decide);have h2:=dS (c * 1103515245+7919 * k+12345) (show(0:Int)<2147483647 by decide);generalize hd:(c * 1103515245+7919 * (k:Int)+12345) % 2147483647=d at h1 h2;have b:L2.D2.qin d 5:=⟨⟨by lia,by lia⟩,by lia,by lia⟩
 refine⟨d ^ 5 % 2147483647 % 999983 % many,fh _ (by lia),dS _ h,?_⟩;refine qu.trans ?_;simp[YZ,qx,a,Gm,gf,qjj,Qy,h,hd,b,show ∀j,CMul 7919 j from λj=>.inl ⟨by lia,by lia⟩,show ∀i,CMul i 1103515245 from λi=>.inr ⟨by lia,by lia⟩]
theorem uy(ns:List Int)(t:List D)(c:0<many)(ht:t.length<1000):∃r,0<=r/\r<many/\kJ [scr ns,.lst t,.int many]=.ok (.int r,[.non,.lst (t++[.int 0]),.non]):=by obtain⟨r,a,h1,h⟩:=qdk ns (t.length+1) c;have hl:t.length<Z8:=aH (cr ht (by decide)) big;refine⟨r,a,h1,?_⟩;simp at h;refine qu.trans ?_;simp[qaW,qx,yK,KJ,hl,h]
theorem UF(ns:List Int)(t xs:List D)(hx:xs≠[])(ht:t.length<1000):∃d,d∈xs/\xG [scr ns,.lst t,.lst xs]=.ok (d,[.non,.lst (t++[.int 0]),.non]):=by have hp:0<xs.length:=fm.mpr hx;obtain⟨r,a,h1,h⟩:=uy ns t (many:=(xs.length:Int)) (by lia) ht;obtain⟨d,e,hd⟩:=qhK (xs:=xs) a h1;refine⟨d,hd,?_⟩;refine qu.trans ?_;simp[qa3,qx,h,ixD,e]
def az(c:Nat):Prop:=97<=c/\c<=122
def Wr(w:Str):Prop:=1<=w.length/\w.length<=6/\∀c∈w.cps.toList,az c
theorem Qs(x:Str):x.length=x.cps.size:=rfl
theorem qbk(x y:Str):(x++y).cps=x.cps++y.cps:=rfl
def qir(ls:List Str):Prop:=ls≠[]/\∀x∈ls,∃c,az c/\x=⟨#[c]⟩
theorem qbl:∀cs:List Nat,fV (ab "") (cs.map λc=>(⟨#[c]⟩:Str))=⟨cs.toArray⟩:=by
 intro cs;have e:∀cs:List Nat,Str.join (ab "") (cs.map λc=>(⟨#[c]⟩:Str))=⟨cs.toArray⟩:=by
  intro cs
  induction cs with
  |nil=>rfl
  | cons c cs j=>
   cases cs with
   |nil=>rfl
   | cons d ds=>
    show(⟨#[c]⟩:Str)++ab ""++Str.join (ab "") ((d::ds).map λc=>(⟨#[c]⟩:Str))=_;rw[j];have:((⟨#[c]⟩:Str)++ab ""++(⟨(d::ds).toArray⟩:Str)).cps=(c::d::ds).toArray:=by
     rw[qbk,qbk];have:(ab "").cps=#[]:=by decide +kernel
     rw[this];simp
    generalize h:(⟨#[c]⟩:Str)++ab ""++(⟨(d::ds).toArray⟩:Str)=x at this;obtain⟨y⟩:=x;simp only at this;rw[this]
 unfold fV;rw[StrLaws.glued_eq_join];exact e cs
theorem Xj:∀cs:List Nat,((cs.map λc=>(⟨#[c]⟩:Str)).map (·.length)).sum=cs.length
 |[]=>rfl
 |c::cs=>by
  have j:=Xj cs;rw[aD,aD,List.sum_cons,j,ap];show 1 + _=_
  lia
theorem kC:∀ws:List Str,xw (ws.map D.str)=iw ws
 |[]=>rfl
 |w::ws=>by simp[xw,kC ws]
variable{ls:List Str}
theorem Wb(ns:List Int)(hl:qir ls):∀(ds:List D)(t:List D)(k:Option D),t.length+ds.length<1000 ->∃(cs:List Nat)(a:List D)(k':Option D),a.length=t.length+ds.length/\cs.length=ds.length/\(∀c∈cs,az c) /\
   jH (gNm 0) ftT (qt [.vl,.sl 2,.vl] xG (qd (qe 1) (jZ (qd (qe 3) qA)))) ds [k,iw (scr ns),iw (.lst t),iw (.lst (ls.map D.str))]
    = .ok ((cs.map λc=>(⟨#[c]⟩:Str)).map D.str,[k',iw (scr ns),iw (.lst a),iw (.lst (ls.map D.str))])
 |[],t,k,_=>⟨[],t,k,by simp,rfl,by simp,rfl⟩
 | d::ds,t,k,ht=>by
  rw[ap]at ht;obtain⟨e,g,hp⟩:=UF ns t (ls.map D.str) (by simpa using hl.1) (by lia);obtain⟨x,hx,rfl⟩:=ay.mp g;obtain⟨c,b,rfl⟩:=hl.2 x hx;obtain⟨cs,a,k',o,m,z,f⟩:=Wb ns hl ds (t++[.int 0]) (iw d) (by rw[am];simp;lia);refine⟨c::cs,a,k',?_,by simp[m],?_,?_⟩
  .rw[o,am,ap];simp
   lia
  .intro y h;rcases ac.mp h with rfl|h;·exact b
   .exact z y h
  .simp[jH,zA,hp,f]
theorem qfy(ns:List Int)(t:List D)(hl:qir ls)(ht:t.length<900):∃w a,Wr w/\a.length<=t.length+8/\Kt [scr ns,.lst t,.lst (ls.map D.str),.int 6]=.ok (.str w,[.non,.lst a,.non,.non]):=by
 obtain⟨r,r0,r1,h⟩:=uy ns t (many:=6) (by lia) (by lia);have n:(QD 0 (1+r).toNat).length=(1+r).toNat:=by simp[QD]
 obtain⟨cs,a,k',o,m,z,y⟩:=Wb ns hl (QD 0 (1+r).toNat) (t++[.int 0]) iB (by rw[n,am];simp;lia);rw[n]at o m;rw[am]at o;simp at o;refine⟨⟨cs.toArray⟩,a,⟨?_,?_,?_⟩,by lia,?_⟩;·show 1<=cs.toArray.size;simp;lia
 .show cs.toArray.size<=6;simp;lia
 .simpa using z
 .refine qu.trans ?_;have k:-(2 ^ 62:Int)<=1+r/\1+r<2 ^ 62:=by lia
  have hb:=big;have hz:(QD 0 (1+r).toNat).length<=Z8:=by rw[n];lia
  have e0:hZ (ab "")=0:=by decide +kernel
  have hs:=Xj cs;have j:qah (ab "") (.lst ((cs.map λc=>(⟨#[c]⟩:Str)).map D.str))=.ok (.str ⟨cs.toArray⟩):=by unfold qah;simp only[kC,qbl,hs];rw[Aa ⟨by simp[e0];lia,by show cs.toArray.size<=_;simp;lia⟩]
  simp only[qa5,qx,wS,vY,qN];simp[-bp,h,ka,-Int.reducePow,k,hz,ky,y,jK,j]
theorem uz(w:Str):∀ws:List Str,QC 7 (.str w) (ws.map D.str)=iw (decide (w∈ws))
 |[]=>by simp[QC]
 |a::ws=>by
  have j:=uz w ws;simp only[aD,QC,j];simp[eqN,eqS];by_cases h:a=w;·simp[h]
  .simp[h,aW h]
def jB(ws:List Str):Prop:=1<=ws.length/\ws.length<=6/\ws.Nodup/\∀w∈ws,Wr w
abbrev qbm:qS:=(qG (jA 6 (qt [.vl,.sl 1,.vl,.vl] Kt (qd (qe 0) (jZ (qd (qe 3) (qd (dC (.int 6)) qA))))))
  (sIf (qO (d2 Yx (qe 6) (qe 4))) (jY (xP 4 KJ (qe 6))) qW))
theorem xJ(ns:List Int)(m:D)(h:qir ls):∀(ds:List D)(n:List D)(ws:List Str)(k u:Option D),n.length+8 * ds.length<900->ws.length+ds.length<=100->ws.Nodup->(∀w∈ws,Wr w) ->∃(t:List D)(c:List Str)(k' U:Option D),t.length<=n.length+8 * ds.length/\c.length<=ws.length+ds.length/\ws.length<=c.length/\(ds≠[]->1<=c.length)/\c.Nodup/\(∀w∈c,Wr w) /\
   kL (gNm 5) qbm ds [iw (scr ns),iw (.lst n),iw m,iw (.lst (ls.map D.str)),iw (.lst (ws.map D.str)),k,u]=.ok (.nx,[iw (scr ns),iw (.lst t),iw m,iw (.lst (ls.map D.str)),iw (.lst (c.map D.str)),k',U])
 |[],n,ws,k,u,_,_,hn,hw=>⟨n,ws,k,u,by simp,by simp,by simp,by simp,hn,hw,rfl⟩
 | d::ds,n,ws,k,u,ht,hl,hn,hw=>by
  rw[ap]at ht hl;obtain⟨w,j,W,y,hg⟩:=qfy ns n h (by lia);have hb:=big;have hz:ws.length<Z8:=by lia
  by_cases e:w∈ws
  .obtain⟨t,c,k',U,r,i,f,p,q,l,g⟩:=xJ ns m h ds j ws (iw d) (iw (.str w)) (by lia) (by lia) hn hw;refine⟨t,c,k',U,by rw[ap];lia,by rw[ap];lia,f,λ_=>?_,q,l,?_⟩
   .have:0<ws.length:=List.length_pos_of_mem e
    lia
   .rw[<-g];simp[kL,qbm,hg,Yx,XT,inD,uz,e]
  .obtain⟨t,c,k',U,r,i,f,p,q,l,g⟩:=xJ ns m h ds j (ws++[w]) (iw d) (iw (.str w)) (by lia) (by rw[am];simp;lia) (dm.mpr ⟨hn,by simp,λa o b hb=>by
    rw[aN.mp hb];exact λz=>e (z ▸ o)⟩) (λx hx=>by
    rcases bf.mp hx with hx|hx;·exact hw x hx
    .rw[aN.mp hx];exact W)
   rw[am]at i f;simp at i f;refine⟨t,c,k',U,by rw[ap];lia,by rw[ap];lia,by lia,λ_=>by lia,q,l,?_⟩;rw[<-g];simp[kL,qbm,hg,Yx,XT,inD,uz,e,yK,KJ,hz]
noncomputable def qgf:List (List Str):=[["a","b"],["a","b","c"],["a","b","c","d"],["k","m","z","a","e"]]
theorem qfz:∀ls∈qgf,qir ls:=by
 have h1:∀ls∈qgf,∀x∈ls,x∈(["a","b","c","d","k","m","z","e"]:List Str):=by decide +kernel
 have h2:∀ls∈qgf,ls≠[]:=by decide +kernel
 intro ls h;refine⟨h2 ls h,λx hx=>?_⟩;have g:=h1 ls h x hx;simp only[ac,aY,or_false]at g;rcases g with rfl|rfl|rfl|rfl|rfl|rfl|rfl|rfl;·exact⟨97,by unfold az;decide,by decide +kernel⟩
 .exact⟨98,by unfold az;decide,by decide +kernel⟩
 .exact⟨99,by unfold az;decide,by decide +kernel⟩
 .exact⟨100,by unfold az;decide,by decide +kernel⟩
 .exact⟨107,by unfold az;decide,by decide +kernel⟩
 .exact⟨109,by unfold az;decide,by decide +kernel⟩
 .exact⟨122,by unfold az;decide,by decide +kernel⟩
 .exact⟨101,by unfold az;decide,by decide +kernel⟩
theorem qdl(ns:List Int)(t:List D)(ht:t.length<700):∃ws a,jB ws/\ws.length<=6/\a.length<=t.length+50/\Ku [scr ns,.lst t,.int 6]=.ok (.tup (ws.map D.str),[.non,.lst a,.non]):=by
 obtain⟨d,hd,hp⟩:=UF ns t (qgf.map λl=>.lst (l.map D.str)) (by simp[qgf]) (by lia);obtain⟨ls,s,rfl⟩:=ay.mp hd;have hl:=qfz ls s;obtain⟨r,r0,r1,g⟩:=uy ns (t++[.int 0]) (many:=6) (by lia) (by rw[am];simp;lia);have n:(QD 0 (1+r).toNat).length=(1+r).toNat:=by simp[QD]
 obtain⟨a,c,k',U,o,m,p,y,q,j,k⟩:=xJ ns (.int 6) hl (QD 0 (1+r).toNat) (t++[.int 0]++[.int 0]) [] iB iB (by rw[n,am,am];simp;lia) (by rw[n];simp;lia) bw (by simp);have f:QD 0 (1+r).toNat≠[]:=λz=>by
  rw[z]at n;simp at n
  lia
 refine⟨c,a,⟨y f,?_,q,j⟩,?_,?_,?_⟩
 .rw[n]at m;simp at m
  lia
 .rw[n]at m;simp at m
  lia
 .rw[n,am,am]at o;simp at o
  lia
 .refine qu.trans ?_;have i:-(2 ^ 62:Int)<=1+r/\1+r<2 ^ 62:=by lia
  have hb:=big;have hz:4<=Z8:=by lia
  have e:2<=Z8:=by lia
  have b:3<=Z8:=by lia
  have h:5<=Z8:=by lia
  simp only[cI,dG,ck,bI]at k g;simp only[qgf,aD,bI]at hp;simp[Xc,qx,hp,g,ka,-Int.reducePow,i,hz,e,b,h,k,ve]
def QP(p q:Int):Prop:=(-3<=p/\p<=2)/\-3<=q/\q<=2
theorem qfA(ns:List Int)(t:List D)(ht:t.length<900):∃p q a,QP p q/\a.length=t.length+2/\Us [scr ns,.lst t]=.ok (.tup [.int p,.int q],[.non,.lst a]):=by
 obtain⟨r,r0,r1,c⟩:=uy ns t (many:=6) (by lia) (by lia);obtain⟨u,e,b,d⟩:=uy ns (t++[.int 0]) (many:=6) (by lia) (by rw[am];simp;lia);have hb:=big;have hz:2<=Z8:=by lia
 refine⟨r - 3,u - 3,t++[.int 0,.int 0],⟨⟨by lia,by lia⟩,by lia,by lia⟩,by simp,?_⟩;refine qu.trans ?_;simp only[cI,dG,ck]at d;simp[qa8,qx,c,d,Qy,hz]
noncomputable def xc(n:Nat)(p:Int):Nat:=(max 0 (min (if 0<=p then p else(n:Int)+p) ((n:Int) - 1))).toNat
def Qt(w:Str)(p:Int):Str:=⟨#[(w.cps.toList[xc w.length p]?).getD 0]⟩
variable{w:Str}
theorem zt(hw:Wr w)(p:Int):vm [.str w,.int p]=.ok (.str (Qt w p),[.non,.non]):=by
 have h1:=hw.1;have h:(w.cps.toList.length:Int)=w.length:=by simp[Qs]
 have key:∀q:Int,q=(if 0<=p then p else(w.length:Int)+p)->atI w.cps.toList (if 0<(if (w.length:Int) - 1<q then(w.length:Int) - 1 else q)then(if (w.length:Int) - 1<q then(w.length:Int) - 1 else q)else 0)=iw ((w.cps.toList[xc w.length p]?).getD 0):=by
  intro q hq;have e:(if 0<(if (w.length:Int) - 1<q then(w.length:Int) - 1 else q)then(if (w.length:Int) - 1<q then(w.length:Int) - 1 else q)else 0)=(xc w.length p:Int):=by
   unfold xc;rw[<-hq];have:1<=(w.length:Int):=by omega
   generalize (w.length:Int)=n at *;split <;> split <;> omega
  have hl:xc w.length p<w.cps.toList.length:=by
   have Y:w.cps.toList.length=w.length:=by simp[Qs]
   rw[Y];unfold xc;omega
  rw[e,yx,aG hl];rfl
 refine qu.trans ?_;by_cases hp:0<=p;·have k:=key p (by rw[Aa hp]);simp[yr,qx,geD,Qy,hp,qif,qig,ixD,k,Qt]
 .have k:=key (w.length+p) (by rw[Ab hp]);simp[yr,qx,geD,Qy,hp,qif,qig,ixD,k,Qt]
theorem qbn(h:Wr w):(∃a,w=⟨#[a]⟩)\/(∃a b,w=⟨#[a,b]⟩)\/(∃a b c,w=⟨#[a,b,c]⟩)\/(∃a b c d,w=⟨#[a,b,c,d]⟩)\/(∃a b c d e,w=⟨#[a,b,c,d,e]⟩)\/∃a b c d e f,w=⟨#[a,b,c,d,e,f]⟩:=by
 obtain⟨⟨l⟩⟩:=w;have h1:1<=l.length:=h.1;have h2:l.length<=6:=h.2.1
 match l,h1,h2 with
 |[a],_,_=>exact .inl ⟨a,rfl⟩
 |[a,b],_,_=>exact .inr (.inl ⟨a,b,rfl⟩)
 |[a,b,c],_,_=>exact .inr (.inr (.inl ⟨a,b,c,rfl⟩))
 |[a,b,c,d],_,_=>exact .inr (.inr (.inr (.inl ⟨a,b,c,d,rfl⟩)))
 |[a,b,c,d,e],_,_=>exact .inr (.inr (.inr (.inr (.inl ⟨a,b,c,d,e,rfl⟩))))
 |[a,b,c,d,e,f],_,_=>exact .inr (.inr (.inr (.inr (.inr ⟨a,b,c,d,e,f,rfl⟩))))
variable{p:Int}
theorem Wc(hw:Wr w)(h:-3<=p)(h1:p<=2):qaX [.str w,.int p]=.ok (.str (Qt w p),[.non,.non]):=by
 have hp:p=-3\/p=-2\/p=-1\/p=0\/p=1\/p=2:=by lia
 rcases qbn hw with⟨a,rfl⟩|⟨a,b,rfl⟩|⟨a,b,c,rfl⟩|⟨a,b,c,d,rfl⟩|⟨a,b,c,d,e,rfl⟩|⟨a,b,c,d,e,f,rfl⟩ <;> rcases hp with rfl|rfl|rfl|rfl|rfl|rfl <;> kernel_rfl
variable{own:List Nat}
theorem wc(ρc:Sl):∀(cap:List Nat)(n:Nat)(ρ:Sl),(∀k∈cap,k∉own)->jK own ρc n cap ρ=ρ
 |[],n,ρ,_=>rfl
 |k::cap,n,ρ,h=>by unfold jK;rw[Ab (h k (au ..))];exact wc ρc cap (n+1) ρ λx hx=>h x (ae _ hx)
variable{caps:Sl}
theorem qhL{fe:qV}{ft:yl}{P:D->Bool}{F:D->D}:∀(ds:List D)(x:Option D),(∀d∈ds,ft (iw d::caps)=.ok (P d,iw d::caps))->(∀d∈ds,P d=iD->fe (iw d::caps)=.ok (F d,iw d::caps))->∃n,jH (gNm 0) ft fe ds (x::caps)=.ok ((ds.filter P).map F,n::caps)
 |[],x,_,_=>⟨x,rfl⟩
 |d::ds,x,h,h'=>by
  obtain⟨n,e⟩:=qhL ds (iw d) (λd' hd=>h d' (ae _ hd)) λd' hd=>h' d' (ae _ hd);refine⟨n,?_⟩;have h1:=h d (au ..);have h2:=h' d (au ..);cases q:P d with
  |true=>simp[jH,zA,h1,q,h2 q,e]
  |false=>simp[jH,zA,h1,q,e]
variable{cap:List Nat}{ρ1:Sl}
theorem qbo{fi:vN}{fe:qV}{ft:yl}(P:D->Bool)(F:D->D)(l:∀k∈cap,k∉own)(h:fi ρ=.ok (ds,ρ1))(hl:ds.length<=Z8)(ht:∀d∈ds,ft (iw d::cap.map λk=>(ρ1[k]?).getD iB)=.ok (P d,iw d::cap.map λk=>(ρ1[k]?).getD iB))(g:∀d∈ds,P d=iD->fe (iw d::cap.map λk=>(ρ1[k]?).getD iB)=.ok (F d,iw d::cap.map λk=>(ρ1[k]?).getD iB)) :
  qN own 1 cap fi (gNm 0) ft fe ρ=.ok (.lst ((ds.filter P).map F),ρ1):=by
 obtain⟨n,e⟩:=qhL ds iB ht g;unfold qN;rw[h];simp only[jR];rw[Aa hl,show ky 1 cap ρ1=iB::cap.map λk=>(ρ1[k]?).getD iB from rfl,e];simp only[jR,wc _ _ _ _ l]
theorem qbp{fi:vN}{fe:qV}(F:D->D)(l:∀k∈cap,k∉own)(h:fi ρ=.ok (ds,ρ1))(hl:ds.length<=Z8)(ht:∀d∈ds,fe (iw d::cap.map λk=>(ρ1[k]?).getD iB)=.ok (F d,iw d::cap.map λk=>(ρ1[k]?).getD iB)):qN own 1 cap fi (gNm 0) ftT fe ρ=.ok (.lst (ds.map F),ρ1):=by have e:=qbo (ft:=ftT) (λ_=>iD) F l h hl (λ_ _=>rfl) λd hd _=>ht d hd;rw[cQ.mpr λ_ _=>rfl]at e;exact e
theorem we{fi:vN}{fe:qV}(F:D->D)(h:fi ρ=.ok (ds,ρ1))(hl:ds.length<=Z8)(ht:∀d∈ds,fe (iw d::cap.map λk=>(ρ1[k]?).getD iB)=.ok (F d,iw d::cap.map λk=>(ρ1[k]?).getD iB)):qN [] 1 cap fi (gNm 0) ftT fe ρ=.ok (.lst (ds.map F),ρ1):=qbp F (λ_ _=>by simp) h hl ht
theorem qd4{fe:qV}{ft:yl}{P:D×D->Bool}{F:D×D->D}:∀(ps:List (D×D))(x y:Option D),(∀p∈ps,ft (iw p.1::iw p.2::caps)=.ok (P p,iw p.1::iw p.2::caps))->(∀p∈ps,P p=iD->fe (iw p.1::iw p.2::caps)=.ok (F p,iw p.1::iw p.2::caps)) ->∃n s,jH (kc 2 (qH (gNm 0) (qH (gNm 1) kb))) ft fe (ps.map λp=>.tup [p.1,p.2]) (x::y::caps)=.ok ((ps.filter P).map F,n::s::caps)
 |[],x,y,_,_=>⟨x,y,rfl⟩
 |p::ps,x,y,h,h'=>by
  obtain⟨n,s,e⟩:=qd4 ps (iw p.1) (iw p.2) (λd' hd=>h d' (ae _ hd)) λd' hd=>h' d' (ae _ hd);refine⟨n,s,?_⟩;have h1:=h p (au ..);have h2:=h' p (au ..);cases q:P p with
  |true=>simp[jH,zA,kc,qH,kb,h1,q,h2 q,e]
  |false=>simp[jH,zA,kc,qH,kb,h1,q,e]
theorem qbq{fi:vN}{fe:qV}{ft:yl}{ps:List (D×D)}(P:D×D->Bool)(F:D×D->D)(l:∀k∈cap,k∉own)(h:fi ρ=.ok (ps.map λp=>.tup [p.1,p.2],ρ1))(hl:ps.length<=Z8)(ht:∀p∈ps,ft (iw p.1::iw p.2::cap.map λk=>(ρ1[k]?).getD iB)=.ok (P p,iw p.1::iw p.2::cap.map λk=>(ρ1[k]?).getD iB))(g:∀p∈ps,P p=iD->fe (iw p.1::iw p.2::cap.map λk=>(ρ1[k]?).getD iB)=.ok (F p,iw p.1::iw p.2::cap.map λk=>(ρ1[k]?).getD iB)) :
  qN own 2 cap fi (kc 2 (qH (gNm 0) (qH (gNm 1) kb))) ft fe ρ=.ok (.lst ((ps.filter P).map F),ρ1):=by
 obtain⟨n,s,e⟩:=qd4 ps iB iB ht g;unfold qN;rw[h];simp only[jR];rw[Aa (by rw[ah];exact hl),show ky 2 cap ρ1=iB::iB::cap.map λk=>(ρ1[k]?).getD iB from rfl,e];simp only[jR,wc _ _ _ _ l]
def qE(ws:List Str)(p q:Int):List (Str×Str):=ws.map λw=>(Qt w p,Qt w q)
noncomputable def qp(l:List (Str×Str)):List D:=l.map λx=>.tup [.str x.1,.str x.2]
theorem jp(h:n<=2000):n<=Z8:=bb h big
abbrev Wd(ws:List Str):D:=.tup (ws.map D.str)
abbrev Ld(p q:Int):D:=.tup [.int p,.int q]
variable{ws:List Str}{S:D}{q:Int}
theorem Ju{G:ju}(h:jm S=.ok (ws.map D.str))(n:ws.length<=17)(a:∀w∈ws,G [.str w,.int p]=.ok (.str (Qt w p),[.non,.non])/\G [.str w,.int q]=.ok (.str (Qt w q),[.non,.non])):qN [] 1 [1] (jv (qe 0)) (gNm 0) ftT (xm (qd (qt [.vl,.vl] G (qd (qe 0) (qd (d2 ixD (qe 1) (dC (.int 0))) qA))) (qd (qt [.vl,.vl] G (qd (qe 0) (qd (d2 ixD (qe 1) (dC (.int 1))) qA))) qA))) [iw S,iw (Ld p q)]
   = .ok (.lst (qp (qE ws p q)),[iw S,iw (Ld p q)]):=by
 have e:=we (cap:=[1]) (fi:=jv (qe 0)) (ρ:=[iw S,iw (Ld p q)]) (ρ1:=[iw S,iw (Ld p q)]) (ds:=ws.map D.str)
  (fe:=(xm (qd (qt [.vl,.vl] G (qd (qe 0) (qd (d2 ixD (qe 1) (dC (.int 0))) qA))) (qd (qt [.vl,.vl] G (qd (qe 0) (qd (d2 ixD (qe 1) (dC (.int 1))) qA))) qA))))
  (λd=>match d with|.str w=>.tup [.str (Qt w p),.str (Qt w q)]|d=>d) (by simp[h]) (by rw[ah];exact jp (by lia)) (λd hd=>by obtain⟨w,c,rfl⟩:=ay.mp hd;obtain⟨h1,h2⟩:=a w c;have hz:2<=Z8:=jp (by lia);simp[ixD,atI,ixN,h1,h2,hz])
 rw[e];simp[qp,qE]
theorem Qu(hw:jB ws)(hl:QP p q):Qp [Wd ws,Ld p q]=.ok (.lst (qp (qE ws p q)),[.non,.non]):=by
 refine qu.trans ?_;have e:=Ju (G:=qaX) (S:=Wd ws) rfl (bb hw.2.1 (by decide)) (p:=p) (q:=q) λw c=>⟨Wc (hw.2.2.2 w c) hl.1.1 hl.1.2,Wc (hw.2.2.2 w c) hl.2.1 hl.2.2⟩
 unfold qa0;rw[wS,show qx qaZ [Wd ws,Ld p q]=[iw (Wd ws),iw (Ld p q)]from rfl,e];rfl
@[simp] theorem kk3:zD "int" "int"=iw true:=by decide +kernel
@[simp] theorem kb3:zD "int" "bool"=iw false:=by decide +kernel
@[simp] theorem ks4:zD "str" "str"=iw true:=by decide +kernel
@[simp] theorem kt5:zD "tuple" "tuple"=iw true:=by decide +kernel
def ZF:D->Bool
 |.str x=>decide (x.length=1)&&(!wD x "a"&&!wD "z" x)
 |_=>iE
theorem zu(x:Str):vj [.str x]=.ok (.bl (ZF (.str x)),[.non]):=by
 refine qu.trans ?_;by_cases h1:x.length=1
 .have c:(x.length:Int)=1:=by lia
  cases h2:wD x "a" <;> simp[yq,qx,wM,tyN,eqD,eqN,eqS,ZF,h1,c,h2]
 .have c:¬(x.length:Int)=1:=by lia
  simp[yq,qx,wM,tyN,eqD,eqN,eqS,ZF,h1,c]
theorem kT{i lo hi:Int}(h:lo<=i/\i<=hi):jO [.int i,.int lo,.int hi]=.ok (.bl iD,[.non,.non,.non]):=by refine qu.trans ?_;simp[xX,qx,wM,tyN,h.1,h.2]
theorem Xk{c:Nat}(h:az c):ZF (.str ⟨#[c]⟩)=true:=by
 have f:(ab "a").cps.toList=[97]:=by decide +kernel
 have hz:(ab "z").cps.toList=[122]:=by decide +kernel
 obtain⟨h1,h2⟩:=h;have i:¬([c]:List Nat) < [97]:=by rw[eJ];simp;omega
 have l:¬([122]:List Nat) < [c]:=by rw[eJ];simp;omega
 have e1:wD ⟨#[c]⟩ (ab "a")=false:=by unfold wD;rw[f];exact Ac i
 have e:wD (ab "z") ⟨#[c]⟩=false:=by unfold wD;rw[hz];exact Ac l
 simp[ZF,Qs,e1,e]
theorem Jv(f:α->Bool):∀l:List α,xQ (l.map λx=>.bl (f x))=iw (l.map f)
 |[]=>rfl
 |a::l=>by have j:=Jv f l;simp[xQ,j]
theorem uN(f:α->Bool)(l:List α):Yp (.lst (l.map λx=>.bl (f x)))=.ok (.bl (l.all f)):=by simp only[Yp,Jv];simp[dD,Function.comp_def]
theorem qbr(hw:Wr w)(p:Int):∃c,az c/\Qt w p=⟨#[c]⟩:=by
 have n:w.cps.toList.length=w.length:=by simp[Qs]
 have hl:xc w.length p<w.cps.toList.length:=by have:=hw.1;rw[n];unfold xc;omega
 refine⟨w.cps.toList[xc w.length p],hw.2.2 _ (cS hl),?_⟩;unfold Qt;rw[aG hl];rfl
def wdB(x:Str):Bool:=(decide (1<=x.length)&&decide (x.length<=6))&&(JK x).all ZF
theorem qfB{c:Nat}(h:ZF (.str ⟨#[c]⟩)=iD):az c:=by
 have f:(ab "a").cps.toList=[97]:=by decide +kernel
 have hz:(ab "z").cps.toList=[122]:=by decide +kernel
 simp only[ZF,wD,f,hz,aO,em,decide_eq_false_iff_not]at h;obtain⟨_,h1,h2⟩:=h;simp[eJ]at h1 h2;exact⟨by lia,by lia⟩
theorem qfC:wdB w=iD↔Wr w:=by simp only[wdB,aO,decide_eq_true_eq,aI];refine⟨λh=>⟨h.1.1,h.1.2,λc a=>qfB (h.2 _ (ay.mpr ⟨c,a,rfl⟩))⟩,λh=>⟨⟨h.1,h.2.1⟩,λd hd=>?_⟩⟩;obtain⟨c,a,rfl⟩:=ay.mp hd;exact Xk (h.2.2 c a)
theorem UG(x:Str):vZ [.str x]=.ok (.bl (wdB x),[.non]):=by
 refine qu.trans ?_;by_cases h1:1<=x.length
 .have h:(1:Int)<=x.length:=by lia
  by_cases b:x.length<=6
  .have e:=we (cap:=[]) (fi:=jv (qe 0)) (ρ:=[iw (.str x)]) (ρ1:=[iw (.str x)]) (ds:=JK x) (fe:=qt [.vl] vj (qd (qe 0) qA)) (λd=>.bl (ZF d)) (by simp[jm]) (by
    simp[JK,<-Qs];exact jp (by lia)) (λd hd=>by
    obtain⟨c,f,rfl⟩:=ay.mp hd;have h1:=zu ⟨#[c]⟩;simp[h1])
   have a:(x.length:Int)<=6:=by lia
   have w:wdB x=(JK x).all ZF:=by simp[wdB,h1,b]
   rw[w];simp only[yP,qx,aD,bI,ap,aR,Nat.reduceAdd,fz,cR,bv];simp[wM,tyN,h,a,e,uN]
  .have a:¬(x.length:Int)<=6:=by lia
   simp[yP,qx,wM,tyN,wdB,b,h,a]
 .have h:¬(1:Int)<=x.length:=by lia
  simp[yP,qx,wM,tyN,wdB,h1,h]
theorem Jw(hw:Wr w):vZ [.str w]=.ok (.bl iD,[.non]):=by rw[UG,qfC.mpr hw]
theorem Qv:∀(ws ks:List Str),ws.Nodup->(∀x∈ws,x∉ks)->ws.foldl uU ks=ks++ws
 |[],ks,_,_=>by simp
 | w::ws,ks,hn,hd=>by
  have h1:=ba.mp hn;rw[bO,show uU ks w=ks++[w]from Ab (hd w (au ..)),Qv ws (ks++[w]) h1.2 ?_];·simp
  .intro x hx z;rcases bf.mp z with z|z;·exact hd x (ae _ hx) z
   .rw[aN.mp z]at hx;exact h1.1 hx
set_option tactic.hygienic true in
theorem vy(ws:List Str):∀ks:List Str,ks.Nodup->(ws.foldl uU ks).Nodup/\∀x,x∈ws.foldl uU ks↔x∈ks\/x∈ws:=by
 induction ws with
 |nil=>intro ks n;exact⟨n,λx=>by simp⟩
 | cons w ws j=>
  intro ks n;have d:(uU ks w).Nodup:=by
   unfold uU;split;·exact n
   .rename_i h;exact dm.mpr ⟨n,by simp,λa f b hb=>by rw[aN.mp hb];exact λz=>h (z ▸ f)⟩
  obtain⟨a,b⟩:=j (uU ks w) d;refine⟨a,λx=>?_⟩;rw[bO,b x];unfold uU;split
  .rename_i h;constructor
   .rintro(q|q);·exact .inl q
    .exact .inr (ae _ q)
   .rintro(q|q);·exact .inl q
    .rcases ac.mp q with rfl|q;·exact .inl h
     .exact .inr q
  .simp[bf,or_assoc]
theorem UH(hw:jB ws):xB [.tup (ws.map D.str)]=.ok (.bl iD,[.non]):=by
 refine qu.trans ?_;have e:=we (cap:=[]) (fi:=jv (qe 0)) (ρ:=[iw (.tup (ws.map D.str))]) (ρ1:=[iw (.tup (ws.map D.str))]) (ds:=ws.map D.str) (fe:=qt [.vl] vZ (qd (qe 0) qA)) (λd=>.bl iD) (by simp[jm]) (by
   rw[ah];exact jp (by have:=hw.2.1;lia)) (λd hd=>by
   obtain⟨w,c,rfl⟩:=ay.mp hd;have h1:=Jw (hw.2.2.2 w c);simp[h1])
 have h1:(1:Int)<=ws.length:=by have:=hw.1;lia
 have b:(ws.length:Int)<=6:=by have:=hw.2.1;lia
 have h:ws.foldl uU []=ws:=by rw[Qv ws [] hw.2.2.1 (by simp)];simp
 have a:ws.length<4000:=by lia
 have f:=uN (λ_:D=>iD) (ws.map D.str);simp only[Jg,qx,aD,bI,ap,aR,Nat.reduceAdd,fz,cR,bv];simp[-bp,wM,tyN,h1,b,e,f,gN,wR,kC,h,a,eqD,eqN,eqS]
theorem yi(hw:jB ws):kP [.tup (ws.map D.str)]=.ok (.non,[.non]):=by refine qu.trans ?_;have h:=UH hw;simp[yR,qx,h]
theorem Zx(hl:QP p q):Qd [.tup [.int p,.int q]]=.ok (.bl iD,[.non]):=by
 refine qu.trans ?_;have e:=we (cap:=[]) (fi:=jv (qe 0)) (ρ:=[iw (.tup [.int p,.int q])]) (ρ1:=[iw (.tup [.int p,.int q])]) (ds:=[.int p,.int q]) (fe:=qt [.vl,.vl,.vl] jO (qd (qe 0) (qd (dC (.int (-3))) (qd (dC (.int 2)) qA)))) (λ_=>.bl iD) (by simp[jm]) (jp (by simp)) (λd hd=>by
   have hd:d=.int p\/d=.int q:=by simpa using hd
   have h1:=kT hl.1;have h2:=kT hl.2;rcases hd with rfl|rfl;·simp[h1]
   .simp[h2])
 simp only[VP,qx,aD,bI,ap,aR,Nat.reduceAdd,fz,cR,bv];simp[wM,tyN,neD,eqN,eqS,e,Yp,xQ]
theorem xf(hl:QP p q):vI [.tup [.int p,.int q]]=.ok (.non,[.non]):=by refine qu.trans ?_;have h:=Zx hl;simp[ze,qx,h]
theorem xg(hw:jB ws)(hl:QP p q):wY [Wd ws,Ld p q]=.ok (.lst (qp (qE ws p q)),[.non,.non]):=by
 refine qu.trans ?_;have e:=Ju (G:=vm) (S:=Wd ws) rfl (by have:=hw.2.1;lia) (p:=p) (q:=q) λw c=>⟨zt (hw.2.2.2 w c) p,zt (hw.2.2.2 w c) q⟩
 have k:=yi hw;have c2:=xf hl;simp only[Uk,qx,aD,bI,ap,aR,Nat.reduceAdd,fz,cR,bv];simp[k,c2,e]
variable{b a:List Str}
theorem qbs(f:a.Nodup)(hb:b.Nodup)(h:∀x,x∈a↔x∈b):a.Perm b:=(List.perm_ext_iff_of_nodup f hb).mpr h
theorem We(h:∀x,x∈a↔x∈b):kN (a.foldl uU [])=kN (b.foldl uU []):=by
 obtain⟨n1,m1⟩:=vy a [] bw;obtain⟨n2,A⟩:=vy b [] bw;have p:=qbs n1 n2 λx=>by rw[m1,A,h]
 exact gM ((qY _).trans (p.trans (qY _).symm)) (kz _) (kz _)
def LS(l:List (Str×Str)):List Str:=kN ((l.map (·.1)++l.map (·.2)).foldl uU [])
variable{l:List (Str×Str)}
theorem xh:x∈LS l↔∃p∈l,x=p.1\/x=p.2:=by
 unfold LS;rw[(qY _).mem_iff,(vy _ [] bw).2];simp only[aY,false_or,bf,ay];constructor
 .rintro(⟨p,hp,rfl⟩|⟨p,hp,rfl⟩);·exact⟨p,hp,.inl rfl⟩
  .exact⟨p,hp,.inr rfl⟩
 .rintro⟨p,hp,rfl|rfl⟩;·exact .inl ⟨p,hp,rfl⟩
  .exact .inr ⟨p,hp,rfl⟩
theorem wu(hl:l.length<=20):jh [.lst (qp l)]=.ok (.lst ((LS l).map D.str),[.non]):=by
 refine qu.trans ?_;have hz:(qp l).length<=Z8:=by unfold qp;rw[ah];exact jp (by lia)
 have e1:=we (cap:=[]) (fi:=jv (qe 0)) (ρ:=[iw (.lst (qp l))]) (ρ1:=[iw (.lst (qp l))]) (ds:=qp l) (fe:=d2 ixD (qe 0) (dC (.int 0))) (λd=>match d with|.tup [a,b]=>a|d=>d) (by simp[jm]) hz (λd hd=>by obtain⟨x,hx,rfl⟩:=ay.mp hd;simp[ixD,atI,ixN]);have i:=we (cap:=[]) (fi:=jv (qe 0)) (ρ:=[iw (.lst (qp l))]) (ρ1:=[iw (.lst (qp l))]) (ds:=qp l) (fe:=d2 ixD (qe 0) (dC (.int 1))) (λd=>match d with|.tup [a,b]=>b|d=>d) (by simp[jm]) hz (λd hd=>by obtain⟨x,hx,rfl⟩:=ay.mp hd;simp[ixD,atI,ixN]);have f1:(qp l).map (λd=>match d with|.tup [a,b]=>a|d=>d)=(l.map (·.1)).map D.str:=by simp[qp]
 have f2:(qp l).map (λd=>match d with|.tup [a,b]=>b|d=>d)=(l.map (·.2)).map D.str:=by simp[qp]
 rw[f1]at e1;rw[f2]at i;have hs:l.length+l.length<=Z8:=jp (by lia);have j:l.length+l.length<64:=by lia
 simp only[zh,qx,aD,bI,ap,aR,Nat.reduceAdd,fz,cR,bv,wS,vY,qcM,e1,i,jR];simp only[qks,ah,Aa hs,qaf,jR,<-de,jU,wR,kC,am,Aa j];simp[LS]
theorem at0{a:D}{l:List D}:atI (a::l) 0=iw a:=by have:=yx (a::l) 0;simpa using this
theorem at1{a b:D}{l:List D}:atI (a::b::l) 1=iw b:=by have:=yx (a::b::l) 1;simpa using this
variable{r:Int}
theorem KA(h:1<=r/\r<=99):wV [.int r]=.ok (.non,[.non]):=by refine qu.trans ?_;simp[xZ,qx,kT h]
theorem qy{f g:qS}(h:f ρ=.ok (.nx,ρ1)):qag ms (qG f g ρ)=qag ms (g ρ1):=by rw[JR,h];rfl
theorem qbt(hw:jB ws)(p q:Int):(LS (qE ws p q)).length<=12:=by
 have hs:(qE ws p q).length<=6:=by simp[qE];exact hw.2.1
 unfold LS;rw[(qY _).length_eq];have:=gE ((qE ws p q).map (·.1)++(qE ws p q).map (·.2)) [];simp only[am,ah,aR]at this
 lia
theorem qjr(hw:jB ws)(p q:Int):LS (qE ws p q)≠[]:=by
 intro z;cases ws with
 |nil=>have:=hw.1;simp at this
 |cons w ws=>have:Qt w p∈LS (qE (w::ws) p q):=xh.mpr ⟨(Qt w p,Qt w q),by simp[qE],.inl rfl⟩;rw[z]at this;cases this
theorem qfD(hw:jB ws)(p q:Int):∀x∈LS (qE ws p q),∃c,az c/\x=⟨#[c]⟩:=λx hx=>by
 obtain⟨y,k,h⟩:=xh.mp hx;obtain⟨w,m,rfl⟩:=ay.mp k;rcases h with rfl|rfl;·exact qbr (hw.2.2.2 w m) p
 .exact qbr (hw.2.2.2 w m) q
theorem qhM(l:List (Str×Str)):(LS l).Nodup:=(qY _).nodup_iff.mpr (vy _ [] bw).1
noncomputable def prL(l:List (Str×Int)):List D:=l.map λx=>.tup [.str x.1,.int x.2]
def OkW(room:Int)(l:List (Str×Int)):Prop:=∀x∈l,ZF (.str x.1)=iD/\0<=x.2/\x.2<room
variable{room:Int}
theorem UI{i:Int}(h:ZF (.str x)=iD/\0<=i/\i<room):uK [.tup [.str x,.int i],.int room]=.ok (.bl iD,[.non,.non]):=by refine qu.trans ?_;have h2:=kT (show 0<=i/\i<=room - 1 by lia);simp[Je,qx,wM,tyN,neD,eqN,eqS,ixD,at0,at1,zu,h.1,h2,Qy]
noncomputable def jx(l:List (Str×Int)):List Str:=l.map (·.1)
theorem qbu(a:List Str):ww (eqN 7) (a.map D.str) (a.map D.str)=iw true:=by
 induction a with
 |nil=>simp[ww]
 |cons a l j=>simp[ww,j,eqN,eqS]
theorem Wf{l:List (Str×Int)}(hw:OkW room l)(hs:kN ((jx l).foldl uU [])=jx l)(hl:l.length<=14):vk [.tup (prL l),.int room]=.ok (.bl iD,[.non,.non]):=by
 have hz:(prL l).length<=Z8:=by simp[prL];exact jp (by lia)
 have e1:=we (cap:=[1]) (fi:=jv (qe 0)) (ρ:=[iw (.tup (prL l)),iw (.int room),iB]) (ρ1:=[iw (.tup (prL l)),iw (.int room),iB]) (ds:=prL l) (fe:=qt [.vl,.vl] uK (qd (qe 0) (qd (qe 1) qA))) (λ_=>.bl iD) (by simp[jm]) hz (λd hd=>by obtain⟨x,hx,rfl⟩:=ay.mp hd;have h1:=UI (hw x hx);simp[h1]);have f:=uN (λ_=>iD) (prL l);have i:=we (cap:=[]) (fi:=jv (qe 0)) (ρ:=[iw (.tup (prL l)),iw (.int room),iB]) (ρ1:=[iw (.tup (prL l)),iw (.int room),iB]) (ds:=prL l) (fe:=d2 ixD (qe 0) (dC (.int 0))) (λd=>match d with|.tup [a,b]=>a|d=>d) (by simp[jm]) hz (λd hd=>by obtain⟨x,hx,rfl⟩:=ay.mp hd;simp[ixD,at0]);have f2:(prL l).map (λd=>match d with|.tup [a,b]=>a|d=>d)=(jx l).map D.str:=by simp[prL,jx]
 rw[f2]at i;have j:(jx l).length<64:=by
  simp[jx]
  lia
 have m:eqD (.lst ((jx l).map D.str)) (.lst ((jx l).map D.str))=.ok (.bl iD):=by simp[-bp,eqD,eqN,qbu]
 refine qu.trans ?_;simp[-bp,Qa,qx,wM,tyN,e1,f,i,jU,wR,kC,j,hs,m]
noncomputable def bk(l:List (Str×Int)):List (Key×D):=l.map λx=>(.inr x.1,.int x.2)
theorem Wg:∀l:List (Str×Int),uT (prL l)=iw (bk l)
 |[]=>rfl
 |x::l=>by have j:=Wg l;unfold prL at j ⊢;rw[aD];simp[uT,qcz,Wq,j,bk]
theorem qbv:∀(l:List (Str×Int))(a:List (Key×D)),(jx l).Nodup->(∀x∈l,∀p∈a,p.1≠.inr x.1)->(bk l).foldl (λa p=>xS a p.1 p.2) a=a++bk l
 |[],a,_,_=>by simp[bk]
 | x::l,a,hn,hd=>by
  have h1:=ba.mp (show(x.1::jx l).Nodup from hn);have hp:xS a (.inr x.1) (.int x.2)=a++[(.inr x.1,.int x.2)]:=by unfold xS;rw[Ab];simp only[List.any_eq_true,decide_eq_true_eq,not_exists,not_and];exact λp hp=>hd x (au ..) p hp
  have j:=qbv l (a++[(.inr x.1,.int x.2)]) h1.2 (λy k p hp=>by
   rcases bf.mp hp with hp|hp;·exact hd y (ae _ k) p hp
   .rw[aN.mp hp];intro z;have z:x.1=y.1:=cH.inj z;exact h1.1 (z ▸ ay.mpr ⟨y,k,rfl⟩))
  show((bk l).foldl (λa p=>xS a p.1 p.2) (xS a (.inr x.1) (.int x.2)))=a++(.inr x.1,.int x.2)::bk l;rw[hp,j];simp
theorem qbw{l:List (Str×Int)}(h:(jx l).Nodup):JL (.tup (prL l))=.ok (.dct (bk l)):=by have e:=qbv l [] h (λ_ _ p hp=>by cases hp);simp at e;simp[JL,Wg,e]
theorem qd5(l:List (Str×Int))(x:Str):yL (bk l) (.inr x)=decide (x∈jx l):=by
 unfold yL bk jx;rw[List.any_map]
 induction l with
 |nil=>simp
 |cons a l j=>
  simp only[dg,aD,ac,j];by_cases h:a.1=x;·simp[h]
  .simp[h,aW h]
noncomputable def zv(l:List (Str×Int))(x:Str):Int:=((l.find? λy=>decide (y.1=x)).map (·.2)).getD 0
theorem UJ:∀{l:List (Str×Int)}{x:Str},x∈jx l->(x,zv l x)∈l/\(bk l).find? (λkv=>decide (kv.1=cH x))=iw (.inr x,.int (zv l x))
 |[],x,h=>by cases h
 | a::l,x,h=>by
  by_cases e:a.1=x
  .have c:zv (a::l) x=a.2:=by simp[zv,e]
   rw[c];refine⟨?_,?_⟩;·rw[<-e];exact au ..
   .simp[bk,e]
  .have hx:x∈jx l:=by
    rcases ac.mp (show x∈a.1::jx l from h)with z|z;·exact absurd z.symm e
    .exact z
   obtain⟨h1,h2⟩:=UJ hx;have c:zv (a::l) x=zv l x:=by simp[zv,e]
   rw[c];refine⟨ae _ h1,?_⟩;rw[<-h2];simp[bk,e]
theorem qdm{l:List (Str×Int)}(h:x∈jx l):ixD (.dct (bk l)) (.str x)=.ok (.int (zv l x)):=by simp[ixD,(UJ h).2]
theorem qd6{l:List (Str×Int)}(hw:OkW room l)(h:x∈jx l):0<=zv l x/\zv l x<room:=(hw _ (UJ h).1).2
theorem Qw(h:vk [d,.int room]=.ok (.bl iD,[.non,.non])):vP [d,.int room]=.ok (.non,[.non,.non]):=by refine qu.trans ?_;simp[uZ,qx,h]
theorem qbx(t room:Int):zW [.int t,.int room]=.ok (.int (if room<=t then t - room else t),[.non,.non]):=by refine qu.trans ?_;by_cases h:room<=t <;> simp[YX,qx,geD,Qy,h]
section
variable(hw:jB ws)(hl:QP p q)
include hw hl
def qd7(l:List (Str×Int))(s:List (Str×Str))(r:Int):List D:=s.map λx=>.int ((zv l x.1+zv l x.2) % r)
omit hw hl in
theorem qkt{a b:Int}(f:0<=a/\a<r)(hb:0<=b/\b<r):(if r<=a+b then a+b - r else a+b)=(a+b) % r:=by
 split;·rw[<-Int.sub_emod_right,Int.emod_eq_of_lt (by lia) (by lia)]
 .rw[Int.emod_eq_of_lt (by lia) (by lia)]
theorem UK{l:List (Str×Int)}(e:1<=r/\r<=99)(o:OkW r l)(hs:(jx l).Nodup)(k:∀x∈LS (qE ws p q),x∈jx l)(h:vk [.tup (prL l),.int r]=.ok (.bl iD,[.non,.non])):kf [Wd ws,Ld p q,.int r,.tup (prL l)]=.ok (.tup (qd7 l (qE ws p q) r),[.non,.non,.non,.non]):=by
 refine qu.trans ?_;have h1:=xg hw hl;have h2:=KA e;have s:=Qw h;have m:=qbw hs;have t:(qE ws p q).length<=6:=by simp[qE];exact hw.2.1
 have j:=wu (l:=qE ws p q) (by lia);have n:=qbt hw p q;have e1:=we (cap:=[5]) (fi:=jv (qt [.vl] jh (qd (qe 4) qA))) (ρ:=[iw (Wd ws),iw (Ld p q),iw (.int r),iw (.tup (prL l)),iw (.lst (qp (qE ws p q))),iw (.dct (bk l))]) (ρ1:=[iw (Wd ws),iw (Ld p q),iw (.int r),iw (.tup (prL l)),iw (.lst (qp (qE ws p q))),iw (.dct (bk l))]) (ds:=(LS (qE ws p q)).map D.str)
  (fe:=d2 inA (qe 0) (qe 1)) (λ_=>.bl iD) (by simp[j,jm]) (by rw[ah];exact jp (by lia)) (λd hd=>by obtain⟨x,hx,rfl⟩:=ay.mp hd;simp[inA,Wq,qd5,k x hx])
 have f:=uN (λ_=>iD) ((LS (qE ws p q)).map D.str);have g:∀x∈qE ws p q,x.1∈jx l/\x.2∈jx l:=λx hx=>by exact⟨k _ (xh.mpr ⟨x,hx,.inl rfl⟩),k _ (xh.mpr ⟨x,hx,.inr rfl⟩)⟩
 have i:=we (cap:=[2,5]) (fi:=jv (qe 4)) (ρ:=[iw (Wd ws),iw (Ld p q),iw (.int r),iw (.tup (prL l)),iw (.lst (qp (qE ws p q))),iw (.dct (bk l))]) (ρ1:=[iw (Wd ws),iw (Ld p q),iw (.int r),iw (.tup (prL l)),iw (.lst (qp (qE ws p q))),iw (.dct (bk l))]) (ds:=qp (qE ws p q))
  (fe:=qt [.vl,.vl] zW (qd (d2 vV (d2 ixD (qe 2) (d2 ixD (qe 0) (dC (.int 0)))) (d2 ixD (qe 2) (d2 ixD (qe 0) (dC (.int 1))))) (qd (qe 1) qA))) (λd=>match d with|.tup [.str a,.str b]=>.int ((zv l a+zv l b) % r)|d=>d) (by simp[jm]) (by simp[qp];exact jp (by lia)) (λd hd=>by
   obtain⟨x,hx,rfl⟩:=ay.mp hd;obtain⟨i1,i2⟩:=g x hx;have W:=qdm i1;have S:=qdm i2;have wr:=qkt (qd6 o i1) (qd6 o i2);have wi:=qbx (zv l x.1+zv l x.2) r;rw[wr]at wi;have c:ixD (.tup [.str x.1,.str x.2]) (.int 0)=.ok (.str x.1):=by simp[ixD,at0]
   have k1:ixD (.tup [.str x.1,.str x.2]) (.int 1)=.ok (.str x.2):=by simp[ixD,at1]
   simp[c,k1,W,S,wi])
 have f2:(qp (qE ws p q)).map (λd=>match d with|.tup [.str a,.str b]=>.int ((zv l a+zv l b) % r)|d=>d)=qd7 l (qE ws p q) r:=by simp[qp,qd7]
 rw[f2]at i;simp[-bp,Jj,qx,h1,h2,s,m,e1,f,i,ve]
end
theorem Xl:∀l:List (Str×Str),(l.flatMap λp=>[p.1,p.2]).length=2 * l.length
 |[]=>rfl
 |a::l=>by
  rw[fP,am,Xl l,ap];simp
  lia
abbrev qhN:qS:=(jY (xP 2 qct (d1 Vl (qe 3))))
theorem Wh(a b:Option D):∀(l:List (Str×Str))(made:List Str)(x:Option D),made.length+2 * l.length<=1000->∃n,kL (gNm 3) qhN (qp l) [a,b,iw (.lst (made.map D.str)),x]=.ok (.nx,[a,b,iw (.lst ((made++l.flatMap λp=>[p.1,p.2]).map D.str)),n])
 |[],made,x,_=>⟨x,by simp[qp,kL]⟩
 |p::l,made,x,h=>by rw[ap]at h;obtain⟨n,e⟩:=Wh a b l (made++[p.1,p.2]) (iw (.tup [.str p.1,.str p.2])) (by rw[am];simp;lia);refine⟨n,?_⟩;have hz:2<=Z8:=jp (by lia);have c:made.length+2<=Z8:=jp (by lia);rw[show(made++(p::l).flatMap λp=>[p.1,p.2])=(made++[p.1,p.2])++l.flatMap λp=>[p.1,p.2] by simp,<-e];simp[qp,kL,qhN,yK,qct,Vl,hz,c]
theorem QO(hw:jB ws)(hl:QP p q):xH [Wd ws,Ld p q]=.ok (.lst ((LS (qE ws p q)).map D.str),[.non,.non]):=by
 refine qu.trans ?_;have h1:=Qu hw hl;have a:(qE ws p q).length<=6:=by simp[qE];exact hw.2.1
 obtain⟨n,e⟩:=Wh (iw (Wd ws)) (iw (Ld p q)) (qE ws p q) [] iB (by simp;lia);have h:((qE ws p q).flatMap λp=>[p.1,p.2]).length<64:=by
  rw[Xl]
  lia
 have hs:kN (((qE ws p q).flatMap λp=>[p.1,p.2]).foldl uU [])=LS (qE ws p q):=We λx=>by
  simp only[fW,bf,ay,ac,aY,or_false];constructor
  .rintro⟨p,hp,rfl|rfl⟩;·exact .inl ⟨p,hp,rfl⟩
   .exact .inr ⟨p,hp,rfl⟩
  .rintro(⟨p,hp,rfl⟩|⟨p,hp,rfl⟩);·exact⟨p,hp,.inl rfl⟩
   .exact⟨p,hp,.inr rfl⟩
 simp only[bI,ck]at e;simp[Jt,qx,h1,jm];rw[e];simp only[jR,vY,yo,bE,bG,jU,wR,kC,Aa h,hs];simp
theorem qby(hw:jB ws)(hl:QP p q)(c:0<r){l:List (Str×Int)}(k:∀x∈LS (qE ws p q),x∈jx l):qa1 [Wd ws,Ld p q,.int r,.dct (bk l)]=.ok (.tup (qd7 l (qE ws p q) r),[.non,.non,.non,.non]):=by
 refine qu.trans ?_;have h1:=Qu hw hl;have n:(qE ws p q).length<=6:=by simp[qE];exact hw.2.1
 have e:=qbq (own:=[]) (cap:=[2,3]) (fi:=jv (qt [.vl,.vl] Qp (qd (qe 0) (qd (qe 1) qA)))) (ft:=ftT) (fe:=d2 gf (d2 vV (d2 ixD (qe 3) (qe 0)) (d2 ixD (qe 3) (qe 1))) (qe 2))
  (ρ:=[iw (Wd ws),iw (Ld p q),iw (.int r),iw (.dct (bk l))]) (ρ1:=[iw (Wd ws),iw (Ld p q),iw (.int r),iw (.dct (bk l))]) (ps:=(qE ws p q).map λx=>(.str x.1,.str x.2)) (λ_=>iD) (λd=>match d with|(.str a,.str b)=>.int ((zv l a+zv l b) % r)|_=>.non) (by simp)
  (by simp[h1,jm,qp]) (by rw[ah];exact jp (by lia)) (λ_ _=>rfl) (λd hd _=>by obtain⟨x,hx,rfl⟩:=ay.mp hd;have W:=qdm (k x.1 (xh.mpr ⟨x,hx,.inl rfl⟩));have S:=qdm (k x.2 (xh.mpr ⟨x,hx,.inr rfl⟩));simp[W,S,gf,Qy,c])
 rw[cQ.mpr (λ_ _=>rfl)]at e;have f:((qE ws p q).map λx=>(D.str x.1,D.str x.2)).map (λd=>match d with|(.str a,.str b)=>.int ((zv l a+zv l b) % r)|_=>.non)=qd7 l (qE ws p q) r:=by simp[qd7]
 rw[f]at e;unfold qhF;rw[wS,vY,show qx qhE [Wd ws,Ld p q,.int r,.dct (bk l)]=[iw (Wd ws),iw (Ld p q),iw (.int r),iw (.dct (bk l))]from rfl,e];simp[ve]
theorem Jx(ns:List Int)(c:0<room):∀(L:List Str)(t:List D)(x:Option D),t.length+L.length<1000 ->∃(es:List (Str×Int))(b:List D)(n:Option D),jx es=L/\(∀e∈es,0<=e.2/\e.2<room)/\b.length=t.length+L.length /\
   jH (gNm 0) ftT (xm (qd (qe 0) (qd (qt [.vl,.sl 2,.vl] kJ (qd (qe 1) (jZ (qd (qe 3) qA)))) qA))) (L.map D.str) [x,iw (scr ns),iw (.lst t),iw (.int room)]=.ok (prL es,[n,iw (scr ns),iw (.lst b),iw (.int room)])
 |[],t,x,_=>⟨[],t,x,rfl,by simp,by simp,rfl⟩
 | a::L,t,x,h=>by
  rw[ap]at h;obtain⟨r,r0,r1,hd⟩:=uy ns t (many:=room) c (by lia);obtain⟨es,b,n,o,V,m,z⟩:=Jx ns c L (t++[.int 0]) (iw (.str a)) (by rw[am];simp;lia);have z2:2<=Z8:=jp (by lia);refine⟨(a,r)::es,b,n,by simp[jx]at o ⊢;exact o,λe g=>?_,by rw[m,am];simp;lia,?_⟩
  .rcases ac.mp g with rfl|g;·exact⟨r0,r1⟩
   .exact V e g
  .simp[jH,zA,hd,z2,z,prL]
noncomputable def qgg:List (List Str):=[[],["q"],["y","x"]]
theorem qfE:∀m∈qgg,m.length<=2/\∀x∈m,∃c,az c/\x=⟨#[c]⟩:=by
 have h1:∀m∈qgg,∀x∈m,x∈(["q","y","x"]:List Str):=by decide +kernel
 have h2:∀m∈qgg,m.length<=2:=by decide +kernel
 refine λm h=>⟨h2 m h,λx hx=>?_⟩
 have:=h1 m h x hx;simp only[ac,aY,or_false]at this;rcases this with rfl|rfl|rfl;·exact⟨113,by unfold az;decide,by decide +kernel⟩
 .exact⟨121,by unfold az;decide,by decide +kernel⟩
 .exact⟨120,by unfold az;decide,by decide +kernel⟩
theorem qd8(A:List Str):kN ((kN (A.foldl uU [])).foldl uU [])=kN (A.foldl uU []):=We λx=>by rw[(qY _).mem_iff,(vy A [] bw).2];simp
structure Made(ws:List Str)(p q r:Int)(l:List (Str×Int)):Prop where
 hw:jB ws
 hl:QP p q
 r0:1<=r
 r1:r<=20
 ok:OkW r l
 rise:kN ((jx l).foldl uU [])=jx l
 all:∀x∈LS (qE ws p q),x∈jx l
 len:l.length<=14
theorem qfF(ns:List Int)(t:List D)(ht:t.length<500){wide:Int}(w0:1<=wide)(T:wide<=20):∃ws p q r l a,Made ws p q r l/\a.length<=t.length+80/\Uu [scr ns,.lst t,.int 6,.int wide]=.ok (.tup [Wd ws,Ld p q,.int r,.tup (prL l)],[.non,.lst a,.non,.non]):=by
 obtain⟨r,r0,r1,g1⟩:=uy ns t (many:=wide) (by lia) (by lia);obtain⟨p,q,y,hl,f,W⟩:=qfA ns (t++[.int 0]) (by rw[am];simp;lia);rw[am]at f;simp at f;obtain⟨ws,H,hw,_,I,U⟩:=qdl ns y (by lia);obtain⟨d,hd,K⟩:=UF ns H (qgg.map λl=>.lst (l.map D.str)) (by simp[qgg]) (by lia);obtain⟨more,b,rfl⟩:=ay.mp hd;obtain⟨J,i⟩:=qfE more b;have B:=QO hw hl;have O:=qbt hw p q;have v:=qjr hw p q;have k:=qfD hw p q;generalize S:LS (qE ws p q)=L0 at B O v k;have M:=gE (L0++more) [];rw[am,aR]at M;have g:=vy (L0++more) [] bw;have n:(kN ((L0++more).foldl uU [])).length<=14:=by rw[(qY _).length_eq];lia
 have e:vV (.lst (L0.map D.str)) (.lst (more.map D.str))=.ok (.lst ((L0++more).map D.str)):=by have:L0.length+more.length<=Z8:=jp (by lia);simp[this]
 have C:jU (.lst ((L0++more).map D.str))=.ok (.lst ((kN ((L0++more).foldl uU [])).map D.str)):=by
  have:(L0++more).length<64:=by rw[am];lia
  simp only[jU,wR,kC,Aa this]
 have m:∀x,x∈kN ((L0++more).foldl uU [])↔x∈L0\/x∈more:=λx=>by rw[(qY _).mem_iff,g.2];simp
 have h:=qd8 (L0++more);generalize N:kN ((L0++more).foldl uU [])=L1 at C n m h;obtain⟨es,w,R,s,j,o,P⟩:=Jx ns (room:=1+r) (by lia) L1 (H++[.int 0]) iB (by rw[am];simp;lia);have A:es.length=L1.length:=by rw[<-s];simp[jx]
 refine⟨ws,p,q,1+r,es,w,⟨hw,hl,by lia,by lia,λx hx=>⟨?_,j x hx⟩,?_,λx hx=>?_,by lia⟩,?_,?_⟩
 .have L:x.1∈L1:=by rw[<-s];exact ay.mpr ⟨x,hx,rfl⟩
  rcases(m x.1).mp L with z|z;·obtain⟨c,u,e⟩:=k x.1 z;rw[e];exact Xk u
  .obtain⟨c,u,e⟩:=i x.1 z;rw[e];exact Xk u
 .rw[s];exact h
 .rw[s];rw[S]at hx;exact(m x).mpr (.inl hx)
 .rw[o,am];simp
  lia
 .refine qu.trans ?_;have E:4<=Z8:=jp (by lia);have G:3<=Z8:=jp (by lia);unfold qba;simp only[qx,aD,bI,ap,aR,Nat.reduceAdd,Nat.reduceSub,aS,dG,ck];simp only[qgg,aD,bI]at K;refine(qy (ρ1:=[iw (scr ns),iw (.lst (t++[.int 0])),iw (.int 6),iw (.int wide),iw (.int (1+r)),iB,iB,iB,iB]) (by simp[g1])).trans ?_;refine(qy (ρ1:=[iw (scr ns),iw (.lst y),iw (.int 6),iw (.int wide),iw (.int (1+r)),iw (Ld p q),iB,iB,iB]) (by simp[W])).trans ?_;refine(qy (ρ1:=[iw (scr ns),iw (.lst H),iw (.int 6),iw (.int wide),iw (.int (1+r)),iw (Ld p q),iw (Wd ws),iB,iB]) (by simp[U])).trans ?_;refine(qy (ρ1:=[iw (scr ns),iw (.lst (H++[.int 0])),iw (.int 6),iw (.int wide),iw (.int (1+r)),iw (Ld p q),iw (Wd ws),iw (.lst (more.map D.str)),iB]) (by simp[K,G])).trans ?_;refine(qy (ρ1:=[iw (scr ns),iw (.lst (H++[.int 0])),iw (.int 6),iw (.int wide),iw (.int (1+r)),iw (Ld p q),iw (Wd ws),iw (.lst (more.map D.str)),iw (.lst (L1.map D.str))]) (by simp[B,e,-de,C])).trans ?_;have hz:(L1.map D.str).length<=Z8:=by rw[ah];exact jp (by lia)
  have Q:qN [1] 1 [0,1,4] (jv (qe 8)) (gNm 0) ftT (xm (qd (qe 0) (qd (qt [.vl,.sl 2,.vl] kJ (qd (qe 1) (jZ (qd (qe 3) qA)))) qA))) [iw (scr ns),iw (.lst (H++[.int 0])),iw (.int 6),iw (.int wide),iw (.int (1+r)),iw (Ld p q),iw (Wd ws),iw (.lst (more.map D.str)),iw (.lst (L1.map D.str))]
    = .ok (.lst (prL es),[iw (scr ns),iw (.lst w),iw (.int 6),iw (.int wide),iw (.int (1+r)),iw (Ld p q),iw (Wd ws),iw (.lst (more.map D.str)),iw (.lst (L1.map D.str))]):=by
   unfold qN;rw[show jv (qe 8) [iw (scr ns),iw (.lst (H++[.int 0])),iw (.int 6),iw (.int wide),iw (.int (1+r)),iw (Ld p q),iw (Wd ws),iw (.lst (more.map D.str)),iw (.lst (L1.map D.str))]=.ok (L1.map D.str,[iw (scr ns),iw (.lst (H++[.int 0])),iw (.int 6),iw (.int wide),iw (.int (1+r)),iw (Ld p q),iw (Wd ws),iw (.lst (more.map D.str)),iw (.lst (L1.map D.str))])from rfl];simp only[jR];rw[Aa hz,show ky 1 [0,1,4] [iw (scr ns),iw (.lst (H++[.int 0])),iw (.int 6),iw (.int wide),iw (.int (1+r)),iw (Ld p q),iw (Wd ws),iw (.lst (more.map D.str)),iw (.lst (L1.map D.str))]=[iB,iw (scr ns),iw (.lst (H++[.int 0])),iw (.int (1+r))]from rfl,P];simp[jK]
  rw[wS,WT];simp only[JQ,yo,bG,bE,jR,vY,Q,ve,qaf,WS];simp[E]
variable{i:Nat}
@[simp] theorem qis{c:Z7}{f:Str}{fe:qV}:uP c i f fe ρ=(fe ρ).bind λp=>match p.2[i]? with
 |some (iw (.ins k fs))=>if k=c/\fs.length<1000 then .ok (.nx,p.2.set i (iw (.ins k (wg f p.1 fs))))else .bad
 |_=>.bad:=rfl
noncomputable def Zy(ds:List D)(l:List (Str×Int)):List D:=l.foldl (λds x=>ds.set x.2.toNat (.str x.1)) ds
theorem Wi:∀(l:List (Str×Int))(ds:List D),(Zy ds l).length=ds.length
 |[],ds=>rfl
 |x::l,ds=>by show(Zy (ds.set x.2.toNat (.str x.1)) l).length=_;rw[Wi l,bZ]
theorem qbz(V o m z b q:Option D):∀(l:List (Str×Int))(ds:List D)(x y:Option D),(∀e∈l,0<=e.2/\e.2<ds.length) ->∃n s,QG (kc 2 (qH (gNm 6) (qH (gNm 7) kb))) (qe 6) (qe 7) (l.map λe=>.tup [.str e.1,.int e.2]) ds [V,o,m,z,b,q,x,y]=.ok (Zy ds l,[V,o,m,z,b,q,n,s])
 |[],ds,x,y,_=>⟨x,y,rfl⟩
 |e::l,ds,x,y,h=>by
  obtain⟨n,s,j⟩:=qbz V o m z b q l (ds.set e.2.toNat (.str e.1)) (iw (.str e.1)) (iw (.int e.2)) λd a=>by rw[bZ];exact h d (ae _ a)
  refine⟨n,s,?_⟩;obtain⟨c,h1⟩:=h e (au ..);have hx:ixN ds.length e.2=iw e.2.toNat:=by unfold ixN;rw[Aa c,Aa h1]
  rw[aD];simp only[QG,kc,qH,kb,ap,aR,Nat.reduceAdd,if_true,qhl,Nat.reduceLT,fH,fI,jR,yo,bG,bE,hx];exact j
def qdn(l:List (Str×Int))(s:List (Str×Str))(r:Int):List Int:=s.map λx=>(zv l x.1+zv l x.2) % r
theorem qbA(l:List (Str×Int))(s:List (Str×Str))(r:Int):qd7 l s r=(qdn l s r).map D.int:=by simp[qd7,qdn]
theorem uA:∀l:List Int,yp (l.map D.int)=iw l
 |[]=>rfl
 |x::l=>by simp[yp,uA l]
def UL(l:List Int):Nat:=(l.foldl Vz []).length
theorem Made.nd{l:List (Str×Int)}(M:Made ws p q r l):(jx l).Nodup:=M.rise ▸ (qY _).nodup_iff.mpr (vy _ [] bw).1
theorem qbB{l:List (Str×Int)}(M:Made ws p q r l):kf [Wd ws,Ld p q,.int r,.tup (prL l)]=.ok (.tup ((qdn l (qE ws p q) r).map D.int),[.non,.non,.non,.non]):=by have h1:=M.r0;have h2:=M.r1;rw[<-qbA];exact UK M.hw M.hl ⟨h1,by lia⟩ M.ok M.nd M.all (Wf M.ok M.rise M.len)
theorem qhO{l:List (Str×Int)}(M:Made ws p q r l):∀k∈qdn l (qE ws p q) r,0<=k/\k<r:=λk h=>by obtain⟨x,_,rfl⟩:=ay.mp h;have:=M.r0;exact⟨fh _ (by lia),dS _ (by lia)⟩
theorem qfG{l:List (Str×Int)}(M:Made ws p q r l):(qdn l (qE ws p q) r).length<=6:=by simp[qdn,qE];exact M.hw.2.1
variable{ks:List Int}
set_option tactic.hygienic true in
theorem Xm{x y:Int}:y∈Vz ks x↔y∈ks\/y=x:=by
 unfold Vz;split
 .rename_i h;constructor;·exact .inl
  .rintro(h'|rfl);·exact h'
   .exact h
 .simp
theorem qdo:∀(l ks:List Int),(l.foldl Vz ks).length<=ks.length+l.length:=qas
theorem Xn:∀(l ks:List Int),(l.foldl Vz ks).length=ks.length+l.length->l.Nodup/\∀x∈l,x∉ks
 |[],ks,_=>⟨bw,by simp⟩
 | x::l,ks,h=>by
  rw[bO,ap]at h;have h1:=qdo l (Vz ks x);have h2:=qcP ks x;have hx:x∉ks:=λz=>by
   have:Vz ks x=ks:=Aa z;rw[this]at h1 h
   lia
  have e:Vz ks x=ks++[x]:=Ab hx;obtain⟨n,m⟩:=Xn l (Vz ks x) (by rw[e]at h ⊢;simp at h ⊢;lia);refine⟨ba.mpr ⟨λz=>m x z (Xm.mpr (.inr rfl)),n⟩,λy k=>?_⟩;rcases ac.mp k with rfl|k;·exact hx
  .exact λz=>m y k (Xm.mpr (.inl z))
theorem Zz(h:UL ks=ks.length):ks.Nodup:=(Xn ks [] (by unfold UL at h;simp;exact h)).1
theorem qdp(k:Int):UL [k]=1:=rfl
def num(l:List (Str×Int))(p q r:Int)(w:Str):Int:=(zv l (Qt w p)+zv l (Qt w q)) % r
theorem UM(l:List (Str×Int))(ws:List Str)(p q r:Int):qdn l (qE ws p q) r=ws.map (num l p q r):=by simp[qdn,qE,num]
def NS(d:D):Prop:=d=.non\/∃x,d=.str x
theorem Xo:∀(l:List (Str×Int))(ds:List D),(∀d∈ds,NS d)->∀d∈Zy ds l,NS d
 |[],ds,h=>h
 |x::l,ds,h=>Xo l _ λd hd=>by
  rcases List.mem_or_eq_of_mem_set hd with hd|rfl;·exact h d hd
  .exact .inr ⟨_,rfl⟩
abbrev qfH:qS:=(qG (jA 8 (qt [.vl,.vl,.vl,.vl] qa1 (qd (d2 vV (qe 2) (xm (qd (qe 3) qA))) (qd (qe 5) (qd (qe 6) (qd (d1 JL (qe 7)) qA))))))
  (sIf (qO (d2 eqD (d1 ko (qe 8)) (d1 vz (qe 8)))) (jA 2 (d2 vV (qe 2) (xm (qd (qe 3) qA)))) qW))
structure Kp(p q r:Int)(l:List (Str×Int))(ks:List Str):Prop where
 nd:ks.Nodup
 wd:∀w∈ks,Wr w
 le:ks.length<=6
 key:∀w∈ks,Qt w p∈jx l/\Qt w q∈jx l
theorem Kp.sub{l:List (Str×Int)}(h:Kp p q r l b)(s:a.Sublist b):Kp p q r l a:=⟨h.nd.sublist s,λw hw=>h.wd w (s.subset hw),bb s.length_le h.le,λw hw=>h.key w (s.subset hw)⟩
theorem Kp.words{l:List (Str×Int)}(h:Kp p q r l a)(n:a≠[]):jB a:=⟨fm.mpr n,h.le,h.nd,h.wd⟩
theorem Kp.all{l:List (Str×Int)}(h:Kp p q r l a):∀x∈LS (qE a p q),x∈jx l:=λx hx=>by
 obtain⟨y,k,e⟩:=xh.mp hx;obtain⟨w,hw,rfl⟩:=ay.mp k;rcases e with rfl|rfl;·exact(h.key w hw).1
 .exact(h.key w hw).2
theorem qdq{l:List (Str×Int)}(hl:QP p q)(f:0<r)(hd:JL (.tup (prL l))=.ok (.dct (bk l))){kept:List Str}(h:Kp p q r l (kept++[w]))(a b c W:Option D):∃s,qfH [a,b,iw (.tup (kept.map D.str)),iw (.str w),W,iw (Ld p q),iw (.int r),iw (.tup (prL l)),c]=.ok (.nx,[a,b,iw (.tup ((if UL ((kept++[w]).map (num l p q r))=(kept++[w]).length then kept++[w]else kept).map D.str)),iw (.str w),W,iw (Ld p q),iw (.int r),iw (.tup (prL l)),s]):=by
 have hb:=qby (h.words (by simp)) hl f h.all;rw[qbA,UM]at hb;have hz:kept.length+1<=Z8:=jp (by have:=h.le;simp at this;lia);have z1:1<=Z8:=jp (by lia);have e1:vV (.tup (kept.map D.str)) (.tup [.str w])=.ok (Wd (kept++[w])):=by simp[hz]
 have n:((kept++[w]).map (num l p q r)).length=(kept++[w]).length:=by simp
 have i:ko (.tup (((kept++[w]).map (num l p q r)).map D.int))=.ok (.int (UL ((kept++[w]).map (num l p q r)))):=by
  have g:((kept++[w]).map (num l p q r)).length<4000:=by rw[n];have:=h.le;lia
  simp only[ko,Ja,uA,Aa g,UL]
 have e:vz (.tup (((kept++[w]).map (num l p q r)).map D.int))=.ok (.int ((kept++[w]).length:Nat)):=by simp only[vz,ah]
 generalize k:(kept++[w]).map (num l p q r)=ks at hb i e;refine⟨iw (.tup (ks.map D.int)),?_⟩;have g1:(jA 8 (qt [.vl,.vl,.vl,.vl] qa1 (qd (d2 vV (qe 2) (xm (qd (qe 3) qA))) (qd (qe 5) (qd (qe 6) (qd (d1 JL (qe 7)) qA)))))) [a,b,iw (.tup (kept.map D.str)),iw (.str w),W,iw (Ld p q),iw (.int r),iw (.tup (prL l)),c]
   = .ok (.nx,[a,b,iw (.tup (kept.map D.str)),iw (.str w),W,iw (Ld p q),iw (.int r),iw (.tup (prL l)),iw (.tup (ks.map D.int))]):=by
  simp only[xy,qcO,JQ,qcM,yo,bG,bE,jR,WT,WS,ap,aR,fy,Aa z1,e1,qaf,vY,hd,kx,Option.map_some,hb,qcL,zy,Nat.reduceAdd,Nat.reduceLT,if_true,fH,fI]
 unfold qfH;rw[JR,g1];simp only[jR];by_cases d:UL ks=(kept++[w]).length
 .have P:(UL ks:Int)=((kept++[w]).length:Nat):=by rw[d]
  rw[Aa d];simp only[qdQ,YE,qcM,vY,yo,bG,bE,jR,i,e,qaf,eqD,eqN,eqS,P,beq_self_eq_true,qii,if_true,xy,WT,JQ,WS,ap,aR,fy,Aa z1,e1,Nat.reduceAdd,Nat.reduceLT,fH,fI]
 .have P:((UL ks:Int) == (((kept++[w]).length:Nat):Int))=false:=by rw[beq_eq_false_iff_ne];intro z;exact d (by lia)
  rw[Ab d];simp only[qdQ,YE,qcM,vY,yo,bG,bE,jR,i,e,qaf,eqD,eqN,eqS,P,qii,b9,if_false,qcN]
variable{g:D->Sl->Out Sl}{ρ2:Sl}
theorem KB{fb:qS}(h1:g d ρ=.ok ρ1)(h2:fb ρ1=.ok (.nx,ρ2)):kL g fb (d::ds) ρ=kL g fb ds ρ2:=by simp[kL,h1,h2]
theorem Qx{l:List (Str×Int)}(hl:QP p q)(g:0<r)(hd:JL (.tup (prL l))=.ok (.dct (bk l)))(a b W:Option D):∀(rest kept:List Str)(x c:Option D),Kp p q r l (kept++rest)->(kept.map (num l p q r)).Nodup->(kept≠[]\/rest≠[]) ->∃k n S,k≠[]/\Kp p q r l k/\(k.map (num l p q r)).Nodup/\kL (gNm 3) qfH (rest.map D.str) [a,b,iw (.tup (kept.map D.str)),x,W,iw (Ld p q),iw (.int r),iw (.tup (prL l)),c]=.ok (.nx,[a,b,iw (.tup (k.map D.str)),n,W,iw (Ld p q),iw (.int r),iw (.tup (prL l)),S])
 |[],kept,x,c,h,hn,ne=>⟨kept,x,c,ne.resolve_right (by simp),by simpa using h,hn,rfl⟩
 | w::rest,kept,x,c,h,hn,ne=>by
  have m:Kp p q r l (kept++[w]):=h.sub (by rw[show kept++w::rest=(kept++[w])++rest by simp];exact List.sublist_append_left ..);obtain⟨s,e⟩:=qdq hl g hd m a b c W;have o:gNm 3 (.str w) [a,b,iw (.tup (kept.map D.str)),x,W,iw (Ld p q),iw (.int r),iw (.tup (prL l)),c]=.ok [a,b,iw (.tup (kept.map D.str)),iw (.str w),W,iw (Ld p q),iw (.int r),iw (.tup (prL l)),c]:=rfl;by_cases d:UL ((kept++[w]).map (num l p q r))=(kept++[w]).length;·rw[Aa d]at e;obtain⟨k',n,S,i1,i2,f,i⟩:=Qx hl g hd a b W rest (kept++[w]) (iw (.str w)) s (by simpa using h) (Zz (by rw[d];simp)) (.inl (by simp));exact⟨k',n,S,i1,i2,f,by rw[aD,KB o e,i]⟩
  .rw[Ab d]at e;have j:kept≠[]:=λz=>by subst z;exact d (qdp _)
   obtain⟨k',n,S,i1,i2,f,i⟩:=Qx hl g hd a b W rest kept (iw (.str w)) s (h.sub (List.Sublist.append_left (List.sublist_cons_self w rest) kept)) hn (.inl j);exact⟨k',n,S,i1,i2,f,by rw[aD,KB o e,i]⟩
theorem qfI(ns:List Int)(t:List D)(ht:t.length<500):∃ws p q r l a,Made ws p q r l/\(ws.map (num l p q r)).Nodup/\a.length<=t.length+80/\Uv [scr ns,.lst t]=.ok (.tup [Wd ws,Ld p q,.int r,.tup (prL l)],[.non,.lst a]):=by
 obtain⟨ws,p,q,r,l,f,M,y,g1⟩:=qfF ns t ht (wide:=20) (by lia) (by lia);have c:=M.r0;have hd:=qbw M.nd;have h:Kp p q r l ws:=⟨M.hw.2.2.1,M.hw.2.2.2,M.hw.2.1,λw hw=>⟨M.all _ (xh.mpr ⟨(Qt w p,Qt w q),ay.mpr ⟨w,hw,rfl⟩,.inl rfl⟩),M.all _ (xh.mpr ⟨(Qt w p,Qt w q),ay.mpr ⟨w,hw,rfl⟩,.inr rfl⟩)⟩⟩
 obtain⟨ks,n,S,k1,k2,m,k⟩:=Qx (r:=r) M.hl (by lia) hd (iw (scr ns)) (iw (.lst f)) (iw (Wd ws)) ws [] iB iB (by simpa using h) (by simp) (.inr (λz=>by have:=M.hw.1;rw[z]at this;simp at this));refine⟨ks,p,q,r,l,f,⟨k2.words k1,M.hl,M.r0,M.r1,M.ok,M.rise,k2.all,M.len⟩,m,y,?_⟩;refine qu.trans ?_;have z0:0<=Z8:=aZ _;have b:4<=Z8:=jp (by lia);unfold qbc;simp only[qx,aD,bI,ap,aR,Nat.reduceAdd,Nat.reduceSub,aS,dG,ck];refine(qy (ρ1:=[iw (scr ns),iw (.lst f),iB,iB,iw (Wd ws),iw (Ld p q),iw (.int r),iw (.tup (prL l)),iB]) (by simp[g1,kc,qH,kb])).trans ?_;refine(qy (ρ1:=[iw (scr ns),iw (.lst f),iw (.tup []),iB,iw (Wd ws),iw (Ld p q),iw (.int r),iw (.tup (prL l)),iB]) (by simp[z0])).trans ?_;refine(qy (ρ1:=[iw (scr ns),iw (.lst f),iw (.tup (ks.map D.str)),n,iw (Wd ws),iw (Ld p q),iw (.int r),iw (.tup (prL l)),S]) ?_).trans ?_;·rw[xz];simp only[qe6,yo,bG,bE,jR,jm];exact k
 .simp[b]
abbrev Pr:=Str×Str
abbrev pD(p:Pr):D:=.tup [.str p.1,.str p.2]
theorem iR0{f:qV}{k:Int}(a:0<=k)(h1:k<=2000)(h:f ρ=.ok (.int k,ρ1)):ka f ρ=.ok (QD 0 k.toNat,ρ1):=by
 have c:-(2 ^ 62:Int)<=k/\k<2 ^ 62:=by lia
 simp[ka,h,-Int.reducePow,c]
noncomputable def al(x y:Str×Str):Bool:=decide (x=y)||decide (x=(y.2,y.1))
theorem qhP{x y:Str×Str}:al x y=iD↔x=y\/x=(y.2,y.1):=by simp[al]
theorem qfJ(x:Str×Str):al x x=true:=qhP.mpr (.inl rfl)
noncomputable def pa(l:List (Str×Str))(i:Nat):Str×Str:=(l[i]?).getD ("","")
theorem qhQ(h:i<l.length):(qp l)[i]?=iw (pD (pa l i)):=by unfold qp pa;rw[aJ,aG h];rfl
def grp(l:List (Str×Str))(i:Nat):List Nat:=(aK l.length).filter λj=>al (pa l i) (pa l j)
def qbP(l:List (Str×Str))(i:Nat):Bool:=(aK i).all λj=>!al (pa l i) (pa l j)
def AL(l:List (Str×Str)):List (List Nat):=((aK l.length).filter (qbP l)).map (grp l)
theorem Xp:qbP l i=iD↔∀j,j<i->al (pa l i) (pa l j)=false:=by unfold qbP;rw[aI];simp
theorem qdr(h:i<l.length):∃k rest,grp l i=k::rest/\(k=i↔qbP l i=iD):=by
 have e:aK l.length=aK i++i::List.range' (i+1) (l.length - i - 1):=by rw[List.range_eq_range',List.range_eq_range',<-List.range'_succ];have:=List.range'_append_1 (s:=0) (m:=i) (n:=l.length - i - 1+1);rw[fy]at this;rw[this];congr 1;omega
 unfold grp;rw[e,List.filter_append,List.filter_cons_of_pos (p:=λj=>al (pa l i) (pa l j)) (qfJ _)];cases q:(aK i).filter λj=>al (pa l i) (pa l j)with
 |nil=>refine⟨i,_,rfl,λ_=>Xp.mpr λj D=>?_,λ_=>rfl⟩;have:=List.filter_eq_nil_iff.mp q j (bq.mpr D);simpa using this
 |cons k t=>
  have a:k∈(aK i).filter λj=>al (pa l i) (pa l j):=by rw[q];exact au ..
  obtain⟨h1,h2⟩:=dO.mp a;have h1:=bq.mp h1;refine⟨k,_,rfl,λz=>absurd z (by omega),λz=>?_⟩;have:=Xp.mp z k h1;rw[this]at h2;cases h2
noncomputable def gD(g:List Nat):D:=.lst (g.map λ(j:Nat)=>.int j)
theorem Wj(x y:Str×Str):jM [pD x,pD y]=.ok (.bl (al x y),[.non,.non]):=by
 obtain⟨a,b⟩:=x;obtain⟨c,d⟩:=y;refine qu.trans ?_;have hz:2<=Z8:=jp (by omega);by_cases h1:a=c/\b=d;·obtain⟨rfl,rfl⟩:=h1;simp[yu,qx,pD,eqD,eqN,ww,eqS,al]
 .have e1:(a == c&&b == d)=false:=by
   cases q:(a == c&&b == d)with
   |false=>rfl
   |true=>simp at q;exact absurd q h1
  have i:¬((a,b)=(c,d)):=λz=>h1 ⟨congrArg Prod.fst z,congrArg Prod.snd z⟩;have D:(a == d&&b == c)=decide ((a,b)=(d,c)):=by
   by_cases q:(a,b)=(d,c)
   .rw[Ad q];cases q;simp
   .rw[Ac q];cases f:(a == d&&b == c)with
    |false=>rfl
    |true=>simp at f;exact absurd (by rw[f.1,f.2]) q
  have B:al (a,b) (c,d)=decide ((a,b)=(d,c)):=by unfold al;rw[Ac i];rfl
  rw[B,<-D];simp[yu,qx,pD,eqD,eqN,ww,eqS,e1,ixD,atI,ixN,hz]
theorem KC:JS (qp l)=(aK l.length).map λ(j:Nat)=>.tup [.int j,pD (pa l j)]:=by
 refine et λj=>?_;unfold JS;rw[aJ,aJ,List.getElem?_zipIdx];by_cases h:j<l.length;·rw[qhQ h,List.getElem?_range h];simp
 .have n:(qp l).length=l.length:=by simp[qp]
  rw[bA (by omega),bA (by simp;omega)];rfl
abbrev qjs:qS:=(qG (jA 6 (qN [3] 2 [5] (zF (qe 2)) (kc 2 (qH (gNm 0) (qH (gNm 1) kb))) (vU (qt [.vl,.vl] jM (qd (qe 2) (qd (qe 1) qA)))) (qe 0)))
  (sIf (qO (d2 eqD (d2 ixD (qe 6) (dC (.int 0))) (qe 4))) (jY (xP 3 KJ (qe 6))) qW))
theorem qds(hl:l.length<=100){a b c d x:Option D}(o:5∉own):qN own 2 [5] (zF (qe 2)) (kc 2 (qH (gNm 0) (qH (gNm 1) kb))) (vU (qt [.vl,.vl] jM (qd (qe 2) (qd (qe 1) qA)))) (qe 0) [a,b,iw (.lst (qp l)),c,d,iw (pD (pa l i)),x]
  = .ok (gD (grp l i),[a,b,iw (.lst (qp l)),c,d,iw (pD (pa l i)),x]):=by
 have e:=qbq (own:=own) (cap:=[5]) (fi:=zF (qe 2)) (ft:=vU (qt [.vl,.vl] jM (qd (qe 2) (qd (qe 1) qA)))) (fe:=qe 0) (ρ:=[a,b,iw (.lst (qp l)),c,d,iw (pD (pa l i)),x]) (ρ1:=[a,b,iw (.lst (qp l)),c,d,iw (pD (pa l i)),x])
  (ps:=(aK l.length).map λ(j:Nat)=>(D.int j,pD (pa l j))) (λp=>match p.1 with|.int j=>al (pa l i) (pa l j.toNat)|_=>iE) (λp=>p.1) (by simpa using o) (by simp[zF,KC,Function.comp_def]) (by simp;exact jp (by omega))
  (λp hp=>by obtain⟨j,f,rfl⟩:=ay.mp hp;have h:=Wj (pa l i) (pa l j);simp[h]) (λp hp _=>rfl)
 rw[e];congr 2;unfold gD grp;congr 1;rw[f9,bp];rfl
theorem xK(hl:l.length<=100)(a b:Option D):∀(s:List Nat)(f:List D)(x y z:Option D),(∀j∈s,j<l.length)->f.length+s.length<=100 ->∃n h g,kL (kc 2 (qH (gNm 4) (qH (gNm 5) kb))) qjs (s.map λ(j:Nat)=>.tup [.int j,pD (pa l j)]) [a,b,iw (.lst (qp l)),iw (.lst f),x,y,z]
   = .ok (.nx,[a,b,iw (.lst (qp l)),iw (.lst (f++((s.filter (qbP l)).map λi=>gD (grp l i)))),n,h,g])
 |[],f,x,y,z,_,_=>⟨x,y,z,by simp[kL]⟩
 | j::s,f,x,y,z,hj,hf=>by
  rw[ap]at hf;have hz:f.length<Z8:=aH (by omega) big;have o:=qds hl (a:=a) (b:=b) (c:=iw (.lst f)) (d:=iw (.int j)) (x:=z) (i:=j) (own:=[3]) (by simp);obtain⟨k,rest,hg,m⟩:=qdr (hj j (au ..));have p:atI ((grp l j).map λ(j:Nat)=>D.int j) 0=iw (.int k):=by rw[show(0:Int)=((0:Nat):Int)from rfl,yx,hg];rfl
  by_cases q:k=j;·obtain⟨n,h,g,e⟩:=xK hl a b s (f++[gD (grp l j)]) (iw (.int j)) (iw (pD (pa l j))) (iw (gD (grp l j))) (λi hi=>hj i (ae _ hi)) (by rw[am];simp;omega);refine⟨n,h,g,?_⟩;rw[List.filter_cons_of_pos (m.mp q),show f++((j::s.filter (qbP l)).map λi=>gD (grp l i))=f++[gD (grp l j)]++((s.filter (qbP l)).map λi=>gD (grp l i)) by simp,<-e];have h1:gD (grp l j)=.lst ((grp l j).map λ(j:Nat)=>D.int j):=rfl;simp[kL,kc,qH,kb,qjs,o,h1,ixD,p,eqD,eqN,eqS,q,yK,KJ,hz]
  .obtain⟨n,h,g,e⟩:=xK hl a b s f (iw (.int j)) (iw (pD (pa l j))) (iw (gD (grp l j))) (λi hi=>hj i (ae _ hi)) (by omega);refine⟨n,h,g,?_⟩;have t:¬qbP l j=true:=λz=>q (m.mpr z);have r:¬((k:Int)=(j:Int)):=by omega
   rw[List.filter_cons_of_neg t,<-e];have h1:gD (grp l j)=.lst ((grp l j).map λ(j:Nat)=>D.int j):=rfl;simp[kL,kc,qH,kb,qjs,o,h1,ixD,p,eqD,eqN,eqS,r]
def ALd(l:List (Str×Str)):D:=.lst ((AL l).map gD)
theorem KF(ws:List Str)(p q:Int):(qE ws p q).length=ws.length:=by simp[qE]
theorem Xq(hw:jB ws)(hl:QP p q):uq [Wd ws,Ld p q]=.ok (ALd (qE ws p q),[.non,.non]):=by
 refine qu.trans ?_;have h:=xg hw hl;have b:=KF ws p q;have c:=hw.2.1;obtain⟨n,s,g,e⟩:=xK (l:=qE ws p q) (by omega) (iw (Wd ws)) (iw (Ld p q)) (aK (qE ws p q).length) [] iB iB iB (λj D=>bq.mp D) (by simp;omega);have a:((aK (qE ws p q).length).filter (qbP (qE ws p q))).map (λi=>gD (grp (qE ws p q) i))=(AL (qE ws p q)).map gD:=by unfold AL;rw[bp];rfl
 rw[ck,a,<-KC]at e;have hz:0<=Z8:=aZ _;simp[UB,qx,h,zF,e,ALd]
theorem qku(n:Nat):QD 0 n=(aK n).map λ(j:Nat)=>.int j:=by unfold QD;simp
noncomputable def co(x:Str×Str)(c:Str):Int:=(if x.1=c then 1 else 0)+if x.2=c then 1 else 0
def cn(K:List (Str×Str))(c:Str):Int:=(K.map λx=>co x c).sum
theorem qjt(x:Str×Str)(c:Str):0<=co x c/\co x c<=2:=by unfold co;split <;> split <;> lia
theorem qbC(x:Str×Str)(c:Str):uV (pD x) (.str c)=.ok (.int (co x c)):=by obtain⟨a,b⟩:=x;have h:=uz c [a,b];have h:QC 7 (.str c) [.str a,.str b]=iw (decide (c∈[a,b])):=h;unfold uV co;simp only[h];by_cases q:a=c <;> by_cases d:b=c <;> simp[eqN,eqS,q,d]
theorem qbD{l:List Int}(h1:l.length<=1000)(h2:∀k∈l,0<=k/\k<=100000):JX (.lst (l.map D.int))=.ok (.int l.sum):=by
 have:l.length<=1000/\(l.all λk=>decide (0<=k/\k<=100000))=true:=⟨h1,aI.mpr λk h=>Ad (h2 k h)⟩
 simp only[JX,uA,Aa this]
variable{K:List (Str×Str)}
theorem qfK(l:K.length<=100)(c:Str)(a b:Option D):qN [] 1 [3] (jv (qe 1)) (gNm 0) ftT (dM qgd uV (qe 0) (qe 1)) [a,iw (.lst (qp K)),b,iw (.str c)]=.ok (.lst ((K.map λx=>co x c).map D.int),[a,iw (.lst (qp K)),b,iw (.str c)]):=by have e:=we (cap:=[3]) (fi:=jv (qe 1)) (ρ:=[a,iw (.lst (qp K)),b,iw (.str c)]) (ρ1:=[a,iw (.lst (qp K)),b,iw (.str c)]) (ds:=qp K) (fe:=dM qgd uV (qe 0) (qe 1)) (λd=>match d with|.tup [.str x,.str y]=>.int (co (x,y) c)|d=>d) (by simp[jm]) (by unfold qp;rw[ah];exact jp (by lia)) (λd hd=>by obtain⟨x,hx,rfl⟩:=ay.mp hd;have h:=qbC x c;have h:uV (.tup [.str x.1,.str x.2]) (.str c)=.ok (.int (co x c)):=h;simp[dM,qgd,h]);rw[e];congr 2;simp[qp]
abbrev Cn:=List Str×List Str
abbrev sE(l:List Str):D:=.lst (l.map D.str)
noncomputable def cE(c:Cn):D:=.tup [sE c.1,sE c.2]
noncomputable def st1(c:Cn)(y:Str):Cn:=if y∈c.1 then(c.1.erase y,c.2)else(c.1,c.2++[y])
def un(x y:Str×Str):Cn:=st1 (st1 ([x.1,x.2],[]) y.1) y.2
abbrev unB:qS:=(sIf (qO (d2 inA (qe 4) (qe 2))) (jY (xP 2 qfg (qe 4))) (jY (xP 3 KJ (qe 4))))
theorem qju(y:Str)(l:List Str):inA (.str y) (sE l)=.ok (.bl (decide (y∈l))):=by show(inD (.str y) (.lst (l.map D.str))).bind _=_;unfold inD;simp only[uz];rfl
variable{c:Cn}
theorem qbE{a b:Option D}(h2:c.2.length<=2)(y:Str):unB [a,b,iw (sE c.1),iw (sE c.2),iw (.str y)]=.ok (.nx,[a,b,iw (sE (st1 c y).1),iw (sE (st1 c y).2),iw (.str y)]):=by
 have h:=qju y c.1;have hz:c.2.length<Z8:=aH (by lia) big;unfold st1;by_cases q:y∈c.1
 .rw[Aa q];have r:qfg (c.1.map D.str) (.str y)=.ok ((c.1.erase y).map D.str):=by unfold qfg;simp only[kC,Aa q]
  simp[unB,h,q,xP,yK,sE,r]
 .rw[Ab q];have f:KJ (c.2.map D.str) (.str y)=.ok ((c.2++[y]).map D.str):=by unfold KJ;rw[ah,Aa hz];simp
  simp[unB,h,q,xP,yK,sE,f]
theorem UN(c:Cn)(y:Str):(st1 c y).1.length<=c.1.length/\(st1 c y).2.length<=c.2.length+1:=by
 unfold st1;split;·exact⟨List.length_erase_le,ip _⟩
 .simp
theorem qhR(x y:Str×Str):(un x y).1.length<=2/\(un x y).2.length<=2:=by
 have h1:=UN ([x.1,x.2],[]) y.1;have h2:=UN (st1 ([x.1,x.2],[]) y.1) y.2;unfold un;simp at h1
 lia
theorem qkv{B:qS}{d1 d2:D}{d k A:Sl}(h1:g d1 d=.ok ρ1)(h2:B ρ1=.ok (.nx,ρ2))(a:g d2 ρ2=.ok k)(h:B k=.ok (.nx,A)):kL g B [d1,d2] d=.ok (.nx,A):=by simp[kL,h1,h2,a,h]
theorem UO(x y:Str×Str):kg [pD x,pD y]=.ok (cE (un x y),[.non,.non]):=by
 refine qu.trans ?_;have h1:=UN ([x.1,x.2],[]) y.1;have e1:=qbE (a:=iw (pD x)) (b:=iw (pD y)) (c:=([x.1,x.2],[])) (by simp) y.1;have i:=qbE (a:=iw (pD x)) (b:=iw (pD y)) (c:=st1 ([x.1,x.2],[]) y.1) (by simp at h1;lia) y.2;have hz:2<=Z8:=jp (by lia);have h:0<=Z8:=aZ _;have D:kL (gNm 4) unB [.str y.1,.str y.2] [iw (pD x),iw (pD y),iw (sE [x.1,x.2]),iw (sE []),iB]=.ok (.nx,[iw (pD x),iw (pD y),iw (sE (un x y).1),iw (sE (un x y).2),iw (.str y.2)]):=by have e:unB [iw (pD x),iw (pD y),iw (sE [x.1,x.2]),iw (sE []),iw (.str y.1)]=_:=e1;exact qkv rfl e rfl i
 unfold Jq;rw[show qx Jp [pD x,pD y]=[iw (pD x),iw (pD y),iB,iB,iB]from rfl];refine(qy (ρ1:=[iw (pD x),iw (pD y),iw (sE [x.1,x.2]),iB,iB]) (by simp[Vl,sE,hz])).trans ?_;refine(qy (ρ1:=[iw (pD x),iw (pD y),iw (sE [x.1,x.2]),iw (sE []),iB]) (by simp[sE])).trans ?_;refine(qy (ρ1:=[iw (pD x),iw (pD y),iw (sE (un x y).1),iw (sE (un x y).2),iw (.str y.2)]) (by rw[xz,show jv (qe 1) [iw (pD x),iw (pD y),iw (sE [x.1,x.2]),iw (sE []),iB]=.ok ([.str y.1,.str y.2],[iw (pD x),iw (pD y),iw (sE [x.1,x.2]),iw (sE []),iB])from rfl,jR];exact D)).trans ?_;simp[cE,hz]
def CT(l:List (Str×Str)):List Cn:=(aK l.length).flatMap λj=>(l.take j).map λa=>un a (pa l j)
abbrev ctB:qS:=(jY (xP 1 qct (qN [1] 1 [3] (jv (vi (qe 0) iB (iw (qe 2)))) (gNm 0) ftT (qt [.vl,.vl] kg (qd (qe 0) (qd (qe 1) qA))))))
theorem qfL(hl:l.length<=10){j:Nat}(b:j<l.length)(f:Option D):qN [1] 1 [3] (jv (vi (qe 0) iB (iw (qe 2)))) (gNm 0) ftT (qt [.vl,.vl] kg (qd (qe 0) (qd (qe 1) qA))) [iw (.lst (qp l)),f,iw (.int j),iw (pD (pa l j))]
  = .ok (.lst (((l.take j).map λa=>un a (pa l j)).map cE),[iw (.lst (qp l)),f,iw (.int j),iw (pD (pa l j))]):=by
 have c:qcT (qp l) iB (iw (j:Int))=qp (l.take j):=by
  unfold qcT;rw[HT.sIx_none,HT.sIx_nat];have:(qp l).length=l.length:=by simp[qp]
  rw[this,show min j l.length - 0=j by lia];simp[qp]
 have hi:jv (vi (qe 0) iB (iw (qe 2))) [iw (.lst (qp l)),f,iw (.int j),iw (pD (pa l j))]=.ok (qp (l.take j),[iw (.lst (qp l)),f,iw (.int j),iw (pD (pa l j))]):=by simp[jv,vi,JJ,qhx,c,jm]
 have e:=qbp (own:=[1]) (cap:=[3]) (fi:=jv (vi (qe 0) iB (iw (qe 2)))) (ρ:=[iw (.lst (qp l)),f,iw (.int j),iw (pD (pa l j))]) (ρ1:=[iw (.lst (qp l)),f,iw (.int j),iw (pD (pa l j))]) (ds:=qp (l.take j)) (fe:=qt [.vl,.vl] kg (qd (qe 0) (qd (qe 1) qA))) (λd=>match d with|.tup [.str x,.str y]=>cE (un (x,y) (pa l j))|d=>d) (by simp) hi (by simp only[qp,ah,cu];exact jp (by lia)) (λd hd=>by obtain⟨x,hx,rfl⟩:=ay.mp hd;have h:=UO x (pa l j);have h:kg [.tup [.str x.1,.str x.2],pD (pa l j)]=.ok (cE (un x (pa l j)),[.non,.non]):=h;simp[h]);rw[e];congr 2;unfold qp;rw[bp,bp];rfl
theorem qbF(hl:l.length<=10):∀(s:List Nat)(f:List Cn)(x y:Option D),(∀j∈s,j<l.length)->f.length+10 * s.length<=500 ->∃n b,kL (kc 2 (qH (gNm 2) (qH (gNm 3) kb))) ctB (s.map λ(j:Nat)=>.tup [.int j,pD (pa l j)]) [iw (.lst (qp l)),iw (.lst (f.map cE)),x,y]
   = .ok (.nx,[iw (.lst (qp l)),iw (.lst ((f++s.flatMap λj=>(l.take j).map λa=>un a (pa l j)).map cE)),n,b])
 |[],f,x,y,_,_=>⟨x,y,by simp[kL]⟩
 |j::s,f,x,y,hj,hf=>by
  rw[ap]at hf;have h:=hj j (au ..);have ht:(l.take j).length<=10:=by rw[cu];lia
  obtain⟨n,b,e⟩:=qbF hl s (f++(l.take j).map λa=>un a (pa l j)) (iw (.int j)) (iw (pD (pa l j))) (λi hi=>hj i (ae _ hi)) (by rw[am,ah];lia);refine⟨n,b,?_⟩;rw[fP,<-cI,<-e];have d:=qfL hl h (iw (.lst (f.map cE)));have hz:(f.map cE).length+(((l.take j).map λa=>un a (pa l j)).map cE).length<=Z8:=by rw[ah,ah,ah];exact jp (by lia)
  have hx:qct (f.map cE) (.lst (((l.take j).map λa=>un a (pa l j)).map cE))=.ok ((f++(l.take j).map λa=>un a (pa l j)).map cE):=by unfold qct;simp only[Aa hz,<-de]
  generalize ((l.take j).map λa=>un a (pa l j)).map cE=M at d hx;generalize (f++(l.take j).map λa=>un a (pa l j)).map cE=M2 at hx ⊢;generalize f.map cE=M1 at d hx ⊢;generalize D.lst (qp l)=Z at d ⊢;simp[kL,kc,qH,kb,ctB,xP,yK,d,hx]
theorem Wk(hl:l.length<=10):vR [.lst (qp l)]=.ok (.lst ((CT l).map cE),[.non]):=by refine qu.trans ?_;obtain⟨n,s,e⟩:=qbF hl (aK l.length) [] iB iB (λj D=>bq.mp D) (by simp;lia);rw[<-KC]at e;have e:kL (kc 2 (qH (gNm 2) (qH (gNm 3) kb))) ctB (JS (qp l)) [iw (.lst (qp l)),iw (.lst []),iB,iB]=.ok (.nx,[iw (.lst (qp l)),iw (.lst ((CT l).map cE)),n,s]):=e;have a:0<=Z8:=aZ _;generalize (CT l).map cE=M at e ⊢;simp[yd,qx,zF,e]
theorem qhS(l:List (Str×Str))(hl:l.length<=10):(CT l).length<=100:=by
 unfold CT;have:∀s:List Nat,(s.flatMap λj=>(l.take j).map λa=>un a (pa l j)).length<=10 * s.length:=λs=>by
  induction s with
  |nil=>simp
  |cons j s i=>
   rw[fP,am,ah,cu,ap]
   lia
 have:=this (aK l.length);rw[bN]at this
 lia
theorem qhT(h:c∈CT l):c.1.length<=2/\c.2.length<=2:=by obtain⟨j,_,h⟩:=fW.mp h;obtain⟨a,_,rfl⟩:=ay.mp h;exact qhR a _
abbrev Fx:=List (Key×D)
def qbQ(k:Fx):Prop:=∀kv∈k,∃v:Int,kv.2=.int v/\0<=v/\v<=1000
noncomputable def vl(k:Fx)(x:Str):Int:=match k.find? λkv=>decide (kv.1=cH x)with
 |some (_,.int v)=>v
 |_=>0
theorem qhU{k:Fx}(a:qbQ k)(h:yL k (.inr x)=iD):ixD (.dct k) (.str x)=.ok (.int (vl k x))/\0<=vl k x/\vl k x<=1000:=by
 unfold yL at h;cases q:k.find? λkv=>decide (kv.1=cH x)with
 |none=>rw[List.find?_eq_none]at q;obtain⟨p,hp,h⟩:=List.any_eq_true.mp h;exact absurd h (q p hp)
 |some kv=>
  obtain⟨v,e,h1,h2⟩:=a kv (List.mem_of_find?_eq_some q);obtain⟨c,d⟩:=kv;have e:d=.int v:=e;subst e;have i:vl k x=v:=by unfold vl;simp only[q]
  rw[i];exact⟨by unfold ixD;simp only[q],h1,h2⟩
theorem qjv{Cs:List α}{cap:List Nat}{fi:vN}{fe:qV}(A B:α->D)(h:fi ρ=.ok (Cs.map A,ρ))(hl:Cs.length<=Z8)(ht:∀c∈Cs,fe (iw (A c)::cap.map λk=>(ρ[k]?).getD iB)=.ok (B c,iw (A c)::cap.map λk=>(ρ[k]?).getD iB)):qN [] 1 cap fi (gNm 0) ftT fe ρ=.ok (.lst (Cs.map B),ρ):=by
 have key:∀(l:List α)(x:Option D),(∀c∈l,c∈Cs)->∃n,jH (gNm 0) ftT fe (l.map A) (x::cap.map λk=>(ρ[k]?).getD iB)=.ok (l.map B,n::cap.map λk=>(ρ[k]?).getD iB):=by
  intro l
  induction l with
  |nil=>intro x _;exact⟨x,rfl⟩
  |cons c l j=>intro x a;obtain⟨n,e⟩:=j (iw (A c)) λd hd=>a d (ae _ hd);have h1:=ht c (a c (au ..));exact⟨n,by simp[jH,zA,h1,e]⟩
 obtain⟨n,e⟩:=key Cs iB λ_ h=>h;unfold qN;rw[h];simp only[jR];rw[Aa (by rw[ah];exact hl),show ky 1 cap ρ=iB::cap.map λk=>(ρ[k]?).getD iB from rfl,e];simp only[jR];rw[wc (own:=[]) _ cap 1 ρ λ_ _=>aY]
def md(r:Int)(k:Fx)(c:Cn):Bool:=if ((c.1++c.2).all λx=>yL k (.inr x))=iD then decide (¬((c.1.map (vl k)).sum - (c.2.map (vl k)).sum) % r=0)else iD
theorem Xr{k:Fx}(a:qbQ k)(j:Nat){l:List Str}(hl:l.length<=2)(f:∀x∈l,yL k (.inr x)=iD)(h1:ρ[j]?=iw (iw (sE l)))(h2:ρ[2]?=iw (iw (.dct k))):d1 JX (qN [] 1 [2] (jv (qe j)) (gNm 0) ftT (d2 ixD (qe 1) (qe 0))) ρ=.ok (.int (l.map (vl k)).sum,ρ):=by
 have e:=we (cap:=[2]) (fi:=jv (qe j)) (ρ:=ρ) (ρ1:=ρ) (ds:=l.map D.str) (fe:=d2 ixD (qe 1) (qe 0)) (λd=>match d with|.str x=>.int (vl k x)|d=>d) (by simp[h1,jm]) (by rw[ah];exact jp (by omega)) (λd hd=>by obtain⟨x,hx,rfl⟩:=ay.mp hd;have h:=(qhU a (f x hx)).1;simp[h2,h]);have b:(l.map D.str).map (λd=>match d with|.str x=>.int (vl k x)|d=>d)=(l.map (vl k)).map D.int:=by rw[bp,bp];rfl
 rw[b]at e;have hs:=qbD (l:=l.map (vl k)) (by rw[ah];omega) λi hi=>by obtain⟨x,hx,rfl⟩:=ay.mp hi;have:=(qhU a (f x hx)).2;omega
 rw[vY,e];simp only[jR];rw[hs];rfl
theorem qhV(h1:c.1.length<=2)(h2:c.2.length<=2)(f:0<r){k:Fx}(a:qbQ k):kB [cE c,.int r,.dct k]=.ok (.bl (md r k c),[.non,.non,.non]):=by
 refine qu.trans ?_;have z:(c.1.map D.str).length+(c.2.map D.str).length<=Z8:=by rw[ah,ah];exact jp (by lia)
 have hi:jv (d2 vV (qe 3) (qe 4)) [iw (cE c),iw (.int r),iw (.dct k),iw (sE c.1),iw (sE c.2)]=.ok ((c.1++c.2).map D.str,[iw (cE c),iw (.int r),iw (.dct k),iw (sE c.1),iw (sE c.2)]):=by
  have:vV (sE c.1) (sE c.2)=.ok (.lst ((c.1++c.2).map D.str)):=by unfold vV;simp only[Aa z,de]
  generalize sE c.1=U at this ⊢;generalize sE c.2=V at this ⊢;simp[this,jm]
 have e:=we (cap:=[2]) (fi:=jv (d2 vV (qe 3) (qe 4))) (ρ:=[iw (cE c),iw (.int r),iw (.dct k),iw (sE c.1),iw (sE c.2)]) (ρ1:=[iw (cE c),iw (.int r),iw (.dct k),iw (sE c.1),iw (sE c.2)]) (ds:=(c.1++c.2).map D.str) (fe:=d2 inA (qe 0) (qe 1)) (λd=>match d with|.str x=>.bl (yL k (.inr x))|d=>d) hi (by rw[ah,am];exact jp (by lia)) (λd hd=>by obtain⟨x,hx,rfl⟩:=ay.mp hd;simp[inA,Wq]);have i:((c.1++c.2).map D.str).map (λd=>match d with|.str x=>.bl (yL k (.inr x))|d=>d)=(c.1++c.2).map λx=>D.bl (yL k (.inr x)):=by rw[bp];rfl
 rw[i]at e;have g:=uN (λx=>yL k (.inr x)) (c.1++c.2);have hA:d1 Yp (qN [] 1 [2] (jv (d2 vV (qe 3) (qe 4))) (gNm 0) ftT (d2 inA (qe 0) (qe 1))) [iw (cE c),iw (.int r),iw (.dct k),iw (sE c.1),iw (sE c.2)]=.ok (.bl ((c.1++c.2).all λx=>yL k (.inr x)),[iw (cE c),iw (.int r),iw (.dct k),iw (sE c.1),iw (sE c.2)]):=by rw[vY,e];simp only[jR];rw[g];rfl
 unfold zk md;rw[show qx zj [cE c,.int r,.dct k]=[iw (cE c),iw (.int r),iw (.dct k),iB,iB]from rfl];refine(qy (ρ1:=[iw (cE c),iw (.int r),iw (.dct k),iw (sE c.1),iB]) (by simp[cE,ixD,at0])).trans ?_;refine(qy (ρ1:=[iw (cE c),iw (.int r),iw (.dct k),iw (sE c.1),iw (sE c.2)]) (by simp[cE,ixD,at1])).trans ?_;cases q:(c.1++c.2).all λx=>yL k (.inr x)with
 |false=>rw[q]at hA;simp[-vY,hA]
 |true=>rw[q]at hA;have h:=aI.mp q;have s1:=Xr a 3 h1 (λx hx=>h x (bf.mpr (.inl hx))) (ρ:=[iw (cE c),iw (.int r),iw (.dct k),iw (sE c.1),iw (sE c.2)]) rfl rfl;have s2:=Xr a 4 h2 (λx hx=>h x (bf.mpr (.inr hx))) (ρ:=[iw (cE c),iw (.int r),iw (.dct k),iw (sE c.1),iw (sE c.2)]) rfl rfl;refine(qy (ρ1:=[iw (cE c),iw (.int r),iw (.dct k),iw (sE c.1),iw (sE c.2)]) (by simp[-vY,hA])).trans ?_;by_cases b:((c.1.map (vl k)).sum - (c.2.map (vl k)).sum) % r=0 <;> simp[-vY,s1,s2,gf,Qy,f,neD,eqN,eqS,b]
theorem qfM{k:Fx}(hl:k.length<=100)(x:Str)(v:Int):vJ [.dct k,.str x,.int v]=.ok (.dct (xS k (.inr x) (.int v)),[.non,.non,.non]):=by refine qu.trans ?_;have hz:k.length<Z8:=aH (by lia) big;simp[zm,qx,VC,VB,Wq,hz]
theorem qbG(k:Fx)(x:Key)(d:D):(xS k x d).length<=k.length+1:=by unfold xS;split <;> simp
theorem qhW{k:Fx}(b:qbQ k)(x:Key){v:Int}(c:0<=v)(h1:v<=1000):qbQ (xS k x (.int v)):=by
 unfold xS;intro kv a;split at a
 .obtain⟨p,hp,rfl⟩:=ay.mp a;split;·exact⟨v,rfl,c,h1⟩
  .exact b p hp
 .rcases bf.mp a with h|h;·exact b kv h
  .rw[aN.mp h];exact⟨v,rfl,c,h1⟩
abbrev cfB(gr:ju):qS:=(sIf (vU (qt [.vl,.vl,.vl,.vl] gr (qd (qe 0) (qd (qe 1) (qd (qt [.vl,.vl,.vl] vJ (qd (qe 2) (qd (d2 ixD (qe 3) (dC (.int 0))) (qd (qe 5) qA)))) (qd (vi (qe 3) (iw (dC (.int 1))) iB) qA)))))) (ji (dC (.bl iD))) qW)
theorem qhX(x:Str)(ls:List Str):ixD (sE (x::ls)) (.int 0)=.ok (.str x)/\qhx (iw 1) iB (sE (x::ls))=.ok (sE ls):=by
 refine⟨by simp[ixD,at0],?_⟩;have:qcT ((x::ls).map D.str) (iw 1) iB=ls.map D.str:=by unfold qcT;rw[HT.sIx_none,show(iw (1:Int))=iw ((1:Nat):Int)from rfl,HT.sIx_nat];simp;exact List.take_of_length_le (by simp)
 show Out.ok (D.lst (qcT ((x::ls).map D.str) (iw 1) iB))=_;rw[this]
variable{Cs:List Cn}
theorem qfN(hC:∀c∈Cs,c.1.length<=2/\c.2.length<=2)(n:Cs.length<=100)(f:0<r){k:Fx}(g:qbQ k)(a b c:Option D):d1 Yp (qN [] 1 [1,2] (jv (qe 0)) (gNm 0) ftT (qt [.vl,.vl,.vl] kB (qd (qe 0) (qd (qe 1) (qd (qe 2) qA))))) [iw (.lst (Cs.map cE)),iw (.int r),iw (.dct k),a,b,c]=.ok (.bl (Cs.all (md r k)),[iw (.lst (Cs.map cE)),iw (.int r),iw (.dct k),a,b,c]):=by
 have e:=qjv (Cs:=Cs) (ρ:=[iw (.lst (Cs.map cE)),iw (.int r),iw (.dct k),a,b,c]) (cap:=[1,2]) (fi:=jv (qe 0)) (fe:=qt [.vl,.vl,.vl] kB (qd (qe 0) (qd (qe 1) (qd (qe 2) qA)))) cE (λc=>.bl (md r k c)) (by simp[jm]) (jp (by lia)) λc d=>by have h:=qhV (hC c d).1 (hC c d).2 f g;generalize cE c=Z at h ⊢;simp[h]
 rw[vY,e];simp only[jR];rw[uN];rfl
theorem Xs(n:Nat):QD 0 n=((aK n).map λ(j:Nat)=>(j:Int)).map D.int:=by rw[qku,bp];rfl
theorem qd9(l:List (Str×Str)):(LS l).length<=2 * l.length:=by
 unfold LS;rw[(qY _).length_eq];have:=gE (l.map (·.1)++l.map (·.2)) [];simp only[am,ah,aR]at this
 lia
def loK(k:Fx)(K:List (Str×Str))(x:Str×Str):Bool:=(!yL k (.inr x.1)&&decide (cn K x.1=1))||(!yL k (.inr x.2)&&decide (cn K x.2=1))
def peK(k:Fx)(K:List (Str×Str)):List (Str×Str):=K.filter λx=>!loK k K x
theorem qdt(l:K.length<=100)(c:Str)(a:Option D)(b:D):d1 JX (qN [] 1 [3] (jv (qe 1)) (gNm 0) ftT (dM qgd uV (qe 0) (qe 1))) [a,iw (.lst (qp K)),iw b,iw (.str c)]=.ok (.int (cn K c),[a,iw (.lst (qp K)),iw b,iw (.str c)]):=by
 have hs:JX (.lst ((K.map λx=>co x c).map D.int))=.ok (.int (cn K c)):=qbD (by rw[ah];lia) λk h=>by
  obtain⟨y,_,rfl⟩:=ay.mp h;have:=qjt y c
  lia
 rw[vY,qfK l c a (iw b)];simp only[jR];rw[hs];rfl
theorem qfO(f:K.length<=100)(k:Fx)(x:Str×Str):jP [pD x,.lst (qp K),.dct k]=.ok (.bl (loK k K x),[.non,.non,.non]):=by refine qu.trans ?_;have h:=λc=>qdt f c (iw (pD x)) (.dct k);have n:∀c:Str,Yx (.str c) (.dct k)=.ok (.bl (!yL k (.inr c))):=λc=>rfl;generalize D.lst (qp K)=Z at h ⊢;generalize D.dct k=Y at h n ⊢;obtain⟨a,b⟩:=x;unfold loK;cases e:yL k (.inr a) <;> cases d:yL k (.inr b) <;> by_cases q:cn K a=1 <;> by_cases l:cn K b=1 <;> simp[Jn,qx,jm,kL,n,e,d,-vY,h,eqD,eqN,eqS,q,l]
theorem Xu(l:K.length<=100)(k:Fx)(a b:Option D):qN [] 1 [2,1] (jv (qe 2)) (gNm 0) (yE (vU (qt [.vl,.vl,.vl] jP (qd (qe 0) (qd (qe 1) (qd (qe 2) qA)))))) (qe 0) [a,iw (.dct k),iw (.lst (qp K)),b]=.ok (.lst (qp (peK k K)),[a,iw (.dct k),iw (.lst (qp K)),b]):=by have e:=qbo (own:=[]) (cap:=[2,1]) (fi:=jv (qe 2)) (ρ:=[a,iw (.dct k),iw (.lst (qp K)),b]) (ρ1:=[a,iw (.dct k),iw (.lst (qp K)),b]) (ds:=qp K) (ft:=yE (vU (qt [.vl,.vl,.vl] jP (qd (qe 0) (qd (qe 1) (qd (qe 2) qA)))))) (fe:=qe 0) (λd=>match d with|.tup [.str x,.str y]=>!loK k K (x,y)|d=>iE) (λd=>d) (by simp) (by simp[jm]) (by unfold qp;rw[ah];exact jp (by lia)) (λd hd=>by obtain⟨x,hx,rfl⟩:=ay.mp hd;have h:=qfO l k x;have h:jP [.tup [.str x.1,.str x.2],.lst (qp K),.dct k]=.ok (.bl (loK k K x),[.non,.non,.non]):=h;simp[h]) (λd hd _=>rfl);rw[e];congr 2;unfold peK;rw[ig];unfold qp;rw[f9];rfl
theorem Wl(k:Fx){a:Option D}:∀(n:Nat)(K:List (Str×Str)),K.length<n->K.length<=100->∃B R,B.Sublist K /\
  jG (qO (d2 ltD (d1 vz (qe 3)) (d1 vz (qe 2))))
   (qG (jA 2 (qe 3))
   (qG (jA 3 (qN [] 1 [2,1] (jv (qe 2)) (gNm 0) (yE (vU (qt [.vl,.vl,.vl] jP (qd (qe 0) (qd (qe 1) (qd (qe 2) qA)))))) (qe 0))) qW)) n [a,iw (.dct k),iw (.lst (qp K)),iw (.lst (qp (peK k K)))]=.ok (.nx,[a,iw (.dct k),iw (.lst (qp B)),iw (.lst R)])
 | 0,K,h,_=>absurd h (dR _)
 |n+1,K,h,hK=>by
  have h1:vz (.lst (qp K))=.ok (.int K.length):=by simp[qp]
  have h2:vz (.lst (qp (peK k K)))=.ok (.int (peK k K).length):=by simp[qp]
  have b:(peK k K).length<=K.length:=cC _ _;by_cases q:(peK k K).length<K.length;·obtain⟨B,R,n2,e⟩:=Wl k (a:=a) n (peK k K) (by lia) (by lia);refine⟨B,R,n2.trans List.filter_sublist,?_⟩;have d:=Xu (K:=peK k K) (by lia) k a (iw (.lst (qp (peK k K))));rw[<-e];generalize D.lst (qp (peK k (peK k K)))=Z2 at d ⊢;generalize D.lst (qp (peK k K))=Z1 at h2 d ⊢;generalize D.lst (qp K)=Z at h1 ⊢;generalize D.dct k=Y at d ⊢;simp[jG,h1,h2,q,d]
  .refine⟨K,qp (peK k K),List.Sublist.refl _,?_⟩;generalize D.lst (qp (peK k K))=Z1 at h2 ⊢;generalize D.lst (qp K)=Z at h1 ⊢;simp[jG,h1,h2,q]
theorem qfP(k:Fx)(l:K.length<=10):∃B,B.Sublist K/\wk [.lst (qp K),.dct k]=.ok (.lst (qp B),[.non,.non]):=by obtain⟨B,R,n2,e⟩:=Wl k (a:=iw (.lst (qp K))) 20 K (by lia) (by lia);refine⟨B,n2,?_⟩;have d:=Xu (K:=K) (by lia) k (iw (.lst (qp K))) iB;refine qu.trans ?_;unfold yV;rw[show qx yU [.lst (qp K),.dct k]=[iw (.lst (qp K)),iw (.dct k),iB,iB]from rfl];refine(qy (ρ1:=[iw (.lst (qp K)),iw (.dct k),iw (.lst (qp K)),iB]) (by simp)).trans ?_;refine(qy (ρ1:=[iw (.lst (qp K)),iw (.dct k),iw (.lst (qp K)),iw (.lst (qp (peK k K)))]) (by rw[xy,d];rfl)).trans ?_;refine(qy e).trans ?_;simp
theorem Xv{gr:ju}{C S1:D}{k:Fx}(hl:k.length<=100){ch:Option D}(hi:ixD S (.int 0)=.ok (.str x))(hs:qhx (iw 1) iB S=.ok S1):∀(vs:List Int)(y:Option D)(Z:Prop),(∀v∈vs,∃b,gr [C,.int r,.dct (xS k (.inr x) (.int v)),S1]=.ok (.bl b,[.non,.non,.non,.non])/\(Z->b=iD)) ->(∃ρ,kL (gNm 5) (cfB gr) (vs.map D.int) [iw C,iw (.int r),iw (.dct k),iw S,ch,y]=.ok (.rt (.bl iD),iw C::iw (.int r)::iw (.dct k)::iw S::ρ))\/∃s,kL (gNm 5) (cfB gr) (vs.map D.int) [iw C,iw (.int r),iw (.dct k),iw S,ch,y]=.ok (.nx,[iw C,iw (.int r),iw (.dct k),iw S,ch,s])/\(Z->vs=[])
 |[],y,Z,_=>.inr ⟨y,rfl,λ_=>rfl⟩
 | v::vs,y,Z,h=>by
  obtain⟨b,hb,l⟩:=h v (au ..);have hw:=qfM hl x v;cases b with
  |true=>refine .inl ⟨[ch,iw (.int v)],?_⟩;simp[kL,cfB,hw,hi,vi,JJ,hs,hb]
  |false=>
   have s1:kL (gNm 5) (cfB gr) ((v::vs).map D.int) [iw C,iw (.int r),iw (.dct k),iw S,ch,y]=kL (gNm 5) (cfB gr) (vs.map D.int) [iw C,iw (.int r),iw (.dct k),iw S,ch,iw (.int v)]:=by simp[kL,cfB,hw,hi,vi,JJ,hs,hb]
   rw[s1];rcases Xv hl hi hs vs (iw (.int v)) Z λu d=>h u (ae _ d)with⟨ρ,e⟩|⟨s,e,_⟩
   .exact .inl ⟨ρ,e⟩
   .exact .inr ⟨s,e,λz=>nomatch l z⟩
theorem Wm (hC:∀c∈Cs,c.1.length<=2/\c.2.length<=2) (A:Cs.length<=100) (y:0<r) (s:r<=9):∀(n:Nat)(ls:List Str)(k:Fx),ls.length<n->qbQ k->k.length+ls.length<=100 ->∃b,qX n [.lst (Cs.map cE),.int r,.dct k,sE ls]=.ok (.bl b,[.non,.non,.non,.non])/\(Cs=[]->b=iD)
 | 0,ls,k,h,_,_=>absurd h (dR _)
 | n+1,ls,k,h,hk,hl=>by
  have hA:=λa b c=>qfN hC A y hk a b c;show ∃b,jF jD [.val,.val,.val,.val] (jt (qX n)) [.lst (Cs.map cE),.int r,.dct k,sE ls]=_/\_;have t:qx jD [.lst (Cs.map cE),.int r,.dct k,sE ls]=[iw (.lst (Cs.map cE)),iw (.int r),iw (.dct k),iw (sE ls),iB,iB]:=rfl;cases q:Cs.all (md r k)with
  |false=>refine⟨iE,qu.trans ?_,λz=>by rw[z]at q;cases q⟩;rw[q]at hA;rw[t];simp[jt,-vY,hA]
  | true=>
   rw[q]at hA;have hA:=hA (iw (sE ls)) iB iB;cases ls with
   |nil=>refine⟨iD,qu.trans ?_,λ_=>rfl⟩;rw[t];unfold jt;refine(qy (ρ1:=[iw (.lst (Cs.map cE)),iw (.int r),iw (.dct k),iw (sE []),iB,iB]) (by simp[-vY,hA])).trans ?_;simp[eqD,eqN,eqS]
   | cons x ls=>
    rw [ap]at h hl;obtain⟨hi,hs⟩:=qhX x ls;obtain⟨vs,f,d⟩:∃vs:List Int,(∀v∈vs,0<=v/\v<r)/\dIf (qO (d2 eqD (d1 vz (qe 2)) (dC (.int 0)))) (gk (qd (dC (.int 0)) qA)) (d1 uJ (qe 1)) [iw (.lst (Cs.map cE)),iw (.int r),iw (.dct k),iw (sE (x::ls)),iB,iB]=.ok (.lst (vs.map D.int),[iw (.lst (Cs.map cE)),iw (.int r),iw (.dct k),iw (sE (x::ls)),iB,iB])/\vs.length<=10/\vs≠[]:=by
     by_cases w:k=[];·refine⟨[0],λv f=>by rw[aN.mp f];lia,?_,by simp,by simp⟩;have z1:1<=Z8:=jp (by lia);simp[eqD,eqN,eqS,w,z1]
     .refine⟨(aK r.toNat).map λ(j:Nat)=>(j:Int),λv f=>?_,?_,by simp;lia,λz=>by have:=congrArg fM z;simp at this;lia⟩
      .obtain⟨j,G,rfl⟩:=ay.mp f;have:=bq.mp G
       lia
      .have i:uJ (.int r)=.ok (.lst (((aK r.toNat).map λ(j:Nat)=>(j:Int)).map D.int)):=by
        unfold uJ;have H:qfb 0 r/\r<=1000000:=⟨⟨by decide,by lia⟩,by lia⟩
        simp only[Int.sub_zero,Aa H];rw[Xs]
       generalize ((aK r.toNat).map λ(j:Nat)=>(j:Int)).map D.int=M at i ⊢;simp[eqD,eqN,eqS,w,i]
    obtain⟨d,B,m⟩:=d;have p:=Xv (gr:=qX n) (C:=.lst (Cs.map cE)) (r:=r) (k:=k) (ch:=iw (.lst (vs.map D.int))) (by lia) hi hs vs iB (Cs=[]) λv g=>by obtain⟨b,e,o⟩:=Wm hC A y s n ls (xS k (.inr x) (.int v)) (by lia) (qhW hk _ (f v g).1 (by have:=(f v g).2;lia)) (by have:=qbG k (.inr x) (.int v);lia);exact⟨b,e,o⟩
    have l:vz (sE (x::ls))=.ok (.int ((ls.length:Int)+1)):=by simp
    have u:¬((ls.length:Int)+1=0):=by lia
    generalize J:sE (x::ls)=S at *;generalize D.lst (Cs.map cE)=C at *;have fin:∃b,(Cs=[]->b=iD)/\qag [.val,.val,.val,.val] ((qG (JE (jv (qe 4)) (gNm 5) (cfB (qX n))) (ji (dC (.bl iE)))) [iw C,iw (.int r),iw (.dct k),iw S,iw (.lst (vs.map D.int)),iB])=.ok (.bl b,[.non,.non,.non,.non]):=by
     have hit:jv (qe 4) [iw C,iw (.int r),iw (.dct k),iw S,iw (.lst (vs.map D.int)),iB]=.ok (vs.map D.int,[iw C,iw (.int r),iw (.dct k),iw S,iw (.lst (vs.map D.int)),iB]):=by simp[jm]
     generalize vs.map D.int=M at hit p ⊢;rcases p with⟨ρ,e⟩|⟨I,e,o⟩
     .exact⟨iD,λ_=>rfl,by rw[JR,xz,hit,jR,e];rfl⟩
     .exact⟨iE,λz=>absurd (o z) m,by rw[JR,xz,hit,jR,e];rfl⟩
    obtain⟨b,E,hb⟩:=fin;refine⟨b,qu.trans ?_,E⟩;rw[t];unfold jt;refine(qy (ρ1:=[iw C,iw (.int r),iw (.dct k),iw S,iB,iB]) (by simp[-vY,hA])).trans ?_;refine(qy (ρ1:=[iw C,iw (.int r),iw (.dct k),iw S,iB,iB]) (by simp[l,eqD,eqN,eqS,u])).trans ?_;refine(qy (ρ1:=[iw C,iw (.int r),iw (.dct k),iw S,iw (.lst (vs.map D.int)),iB]) (by rw[xy,d];rfl)).trans ?_;exact hb
theorem Xw(q:l.length<=6)(s:1<=r)(p:r<=9)(h:¬r<(l.length:Int)){k:Fx}(i:qbQ k)(g:k.length<=50):∃b,jb [.lst (qp l),.int r,.dct k]=.ok (.bl b,[.non,.non,.non])/\(l.length=1->b=iD):=by
 have n:vz (.lst (qp l))=.ok (.int l.length):=by simp[qp]
 obtain⟨B,n2,hb⟩:=qfP k (K:=l) (by lia);have t:B.length<=6:=bb n2.length_le q;have L:=wu (l:=B) (by lia);have a:=Wk (l:=B) (by lia);have f:=qd9 B;have j:((LS B).filter λx=>!yL k (.inr x)).length<=12:=by
  have:=cC (λx=>!yL k (.inr x)) (LS B)
  lia
 obtain⟨b,m,o⟩:=Wm (Cs:=CT B) (λc a=>qhT a) (qhS B (by lia)) (r:=r) (by lia) p 14 ((LS B).filter λx=>!yL k (.inr x)) k (by lia) i (by lia);refine⟨b,?_,λz=>o ?_⟩
 rotate_left
 .have:=n2.length_le
  match B,(show B.length<=1 by lia)with
  |[],_=>rfl
  |[x],_=>rfl
 .refine qu.trans ?_;have e:=qbo (own:=[]) (cap:=[2]) (fi:=jv (qt [.vl] jh (qd (qe 3) qA))) (ρ:=[iw (.lst (qp l)),iw (.int r),iw (.dct k),iw (.lst (qp B)),iB]) (ρ1:=[iw (.lst (qp l)),iw (.int r),iw (.dct k),iw (.lst (qp B)),iB]) (ds:=(LS B).map D.str) (ft:=qO (d2 Yx (qe 0) (qe 1))) (fe:=qe 0) (λd=>match d with|.str x=>!yL k (.inr x)|_=>iE) (λd=>d) (by simp) (by
    generalize D.lst (qp B)=Z at L ⊢;simp[L,jm]) (by rw[ah];exact jp (by lia)) (λd hd=>by
    obtain⟨x,hx,rfl⟩:=ay.mp hd;simp[Yx,Wq]) (λd hd _=>rfl)
  rw[ig,f9]at e;have e:qN [] 1 [2] (jv (qt [.vl] jh (qd (qe 3) qA))) (gNm 0) (qO (d2 Yx (qe 0) (qe 1))) (qe 0) [iw (.lst (qp l)),iw (.int r),iw (.dct k),iw (.lst (qp B)),iB]=.ok (sE ((LS B).filter λx=>!yL k (.inr x)),[iw (.lst (qp l)),iw (.int r),iw (.dct k),iw (.lst (qp B)),iB]):=e;unfold ue;rw[show qx zo [.lst (qp l),.int r,.dct k]=[iw (.lst (qp l)),iw (.int r),iw (.dct k),iB,iB]from rfl];generalize D.lst (qp l)=Z at *;generalize D.lst (qp B)=ZB at *;generalize D.dct k=Y at *;refine(qy (ρ1:=[iw Z,iw (.int r),iw Y,iB,iB]) (by simp[n,h])).trans ?_;refine(qy (ρ1:=[iw Z,iw (.int r),iw Y,iw ZB,iB]) (by simp[hb])).trans ?_;refine(qy (ρ1:=[iw Z,iw (.int r),iw Y,iw ZB,iw (sE ((LS B).filter λx=>!yL k (.inr x)))]) (by rw[xy,e];rfl)).trans ?_;generalize sE ((LS B).filter λx=>!yL k (.inr x))=S at *;generalize D.lst ((CT B).map cE)=C at *;simp[a,m]
abbrev Lk:=Int×Int
abbrev LD(x:Lk):D:=Ld x.1 x.2
noncomputable def LK:List Lk:=(aK 6).flatMap λ(a:Nat)=>(aK 6).map λ(b:Nat)=>((a:Int) - 3,(b:Int) - 3)
theorem zx:jl []=.ok (.lst (LK.map LD),[]):=by kernel_rfl
theorem qbH:LK.length=36:=by kernel_rfl
theorem Jc{x:Lk}:x∈LK↔QP x.1 x.2:=by
 unfold LK QP;simp only[fW,ay,bq];constructor
 .rintro⟨a,f,b,hb,rfl⟩;simp only
  lia
 .rintro⟨⟨h1,h2⟩,g,h⟩;refine⟨(x.1+3).toNat,by lia,(x.2+3).toNat,by lia,?_⟩;obtain⟨a,b⟩:=x;simp only at *;refine d7 ?_ ?_
  .show((a+3).toNat:Int) - 3=a
   lia
  .show((b+3).toNat:Int) - 3=b
   lia
theorem Xx{Cs:List α}{fi:vN}{fe:qV}{ft:yl}(A B:α->D)(P:α->Bool)(o:∀k∈cap,k∉own)(h:fi ρ=.ok (Cs.map A,ρ))(hl:Cs.length<=Z8)(ht:∀c∈Cs,ft (iw (A c)::cap.map λk=>(ρ[k]?).getD iB)=.ok (P c,iw (A c)::cap.map λk=>(ρ[k]?).getD iB))(g:∀c∈Cs,P c=iD->fe (iw (A c)::cap.map λk=>(ρ[k]?).getD iB)=.ok (B c,iw (A c)::cap.map λk=>(ρ[k]?).getD iB)):qN own 1 cap fi (gNm 0) ft fe ρ=.ok (.lst ((Cs.filter P).map B),ρ):=by
 have key:∀(l:List α)(x:Option D),(∀c∈l,c∈Cs)->∃n,jH (gNm 0) ft fe (l.map A) (x::cap.map λk=>(ρ[k]?).getD iB)=.ok ((l.filter P).map B,n::cap.map λk=>(ρ[k]?).getD iB):=by
  intro l
  induction l with
  |nil=>intro x _;exact⟨x,rfl⟩
  |cons c l j=>
   intro x a;obtain⟨n,e⟩:=j (iw (A c)) λd hd=>a d (ae _ hd);have h1:=ht c (a c (au ..));have h2:=g c (a c (au ..));cases q:P c with
   |true=>exact⟨n,by simp[jH,zA,h1,q,h2 q,e]⟩
   |false=>exact⟨n,by simp[jH,zA,h1,q,e]⟩
 obtain⟨n,e⟩:=key Cs iB λ_ h=>h;unfold qN;rw[h];simp only[jR];rw[Aa (by rw[ah];exact hl),show ky 1 cap ρ=iB::cap.map λk=>(ρ[k]?).getD iB from rfl,e];simp only[jR];rw[wc _ cap 1 ρ o]
theorem UP:LK.length<=Z8:=by rw[qbH];exact jp (by lia)
def ng(ws:List Str)(x:Lk):Int:=(AL (qE ws x.1 x.2)).length
theorem qea(l:List (Str×Str)):vz (ALd l)=.ok (.int (AL l).length):=by simp[ALd]
theorem qjw(l:List (Str×Str)):(AL l).length<=l.length:=by unfold AL;rw[ah];have:=cC (qbP l) (aK l.length);rw[bN]at this;exact this
theorem qhY{l:List Int}(h:l≠[]):∃M∈l,(∀a∈l,a<=M)/\qaB (.lst (l.map D.int))=.ok (.int M):=by
 cases l with
 |nil=>exact absurd rfl h
 | cons t ts=>
  obtain⟨h1,h2,g⟩:=Ua ts t;refine⟨YO t ts,?_,λa f=>?_,?_⟩
  .rcases h1 with h1|h1;·rw[h1];exact au ..
   .exact ae _ h1
  .rcases ac.mp f with rfl|f;·exact h2
   .exact g a f
  .simp only[qaB,uA]
def BL(ws:List Str)(M:Int):List Lk:=LK.filter λx=>decide (ng ws x=M)
theorem qfQ(hw:jB ws):∃M:Int,(∃x∈LK,ng ws x=M)/\(∀x∈LK,ng ws x<=M)/\uw [Wd ws]=.ok (.lst ((BL ws M).map LD),[.non]):=by
 have b:∀x∈LK,uq [Wd ws,LD x]=.ok (ALd (qE ws x.1 x.2),[.non,.non]):=λx hx=>Xq hw (Jc.mp hx);obtain⟨M,R,m,e⟩:=qhY (l:=LK.map (ng ws)) (by intro z;have:=congrArg fM z;rw[ah,qbH]at this;cases this);obtain⟨c,a,R⟩:=ay.mp R;refine⟨M,⟨c,a,R⟩,λx hx=>m _ (ay.mpr ⟨x,hx,rfl⟩),?_⟩;have hi:∀y:Option D,jv (qt [] jl qA) [iw (Wd ws),y]=.ok (LK.map LD,[iw (Wd ws),y]):=λy=>by have h:=zx;generalize LK.map LD=Z at h ⊢;simp[h,jm]
 have e1:=Xx (own:=[]) (cap:=[0]) (Cs:=LK) (ρ:=[iw (Wd ws),iB]) (fi:=jv (qt [] jl qA)) (ft:=ftT) (fe:=d1 vz (qt [.vl,.vl] uq (qd (qe 1) (qd (qe 0) qA)))) LD (λx=>.int (ng ws x)) (λ_=>iD) (by simp) (hi iB) UP (λ_ _=>rfl) λx hx _=>by have h:=b x hx;have h2:=qea (qE ws x.1 x.2);simp[h,h2,ng]
 have i:((LK.filter λ_=>iD).map λx=>D.int (ng ws x))=(LK.map (ng ws)).map D.int:=by rw[cQ.mpr λ_ _=>rfl,bp];rfl
 rw[i]at e1;have d:=Xx (own:=[]) (cap:=[1,0]) (Cs:=LK) (ρ:=[iw (Wd ws),iw (.int M)]) (fi:=jv (qt [] jl qA)) (ft:=qO (d2 eqD (d1 vz (qt [.vl,.vl] uq (qd (qe 2) (qd (qe 0) qA)))) (qe 1))) (fe:=qe 0) LD LD (λx=>decide (ng ws x=M)) (by simp) (hi _) UP (λx hx=>by
  have h:=b x hx;have h2:=qea (qE ws x.1 x.2);by_cases q:ng ws x=M;·have f:=q;unfold ng at f;simp[h,h2,eqD,eqN,eqS,q,f]
  .have f:=q;unfold ng at f;simp[h,h2,eqD,eqN,eqS,q,f]) λ_ _ _=>rfl
 refine qu.trans ?_;unfold uu;rw[show qx ut [Wd ws]=[iw (Wd ws),iB]from rfl];refine(qy (ρ1:=[iw (Wd ws),iw (.int M)]) (by rw[xy,vY,e1,jR];show((qaB (D.lst ((LK.map (ng ws)).map D.int))).plain.bind _).bind _=_;rw[e];rfl)).trans ?_;rw[wS,d];rfl
theorem qdu(hw:jB ws):∃P:Lk->Bool,Uy [Wd ws]=.ok (.lst ((LK.filter P).map LD),[.non]):=by
 have c:=hw.2.1;have h1:=hw.1;have hd:∀x:Lk,∃b,jb [.lst (qp (qE ws x.1 x.2)),.int ws.length,.dct []]=.ok (.bl b,[.non,.non,.non]):=λx=>by have a:=KF ws x.1 x.2;obtain⟨b,e,_⟩:=Xw (l:=qE ws x.1 x.2) (by lia) (r:=ws.length) (by lia) (by lia) (by lia) (k:=[]) (λ_ h=>nomatch h) (by simp);exact⟨b,e⟩
 refine⟨λx=>(hd x).choose,?_⟩;have hi:jv (qt [] jl qA) [iw (Wd ws)]=.ok (LK.map LD,[iw (Wd ws)]):=by have h:=zx;generalize LK.map LD=Z at h ⊢;simp[h,jm]
 have n:vz (Wd ws)=.ok (.int ws.length):=by simp
 have e:=Xx (own:=[]) (cap:=[0]) (Cs:=LK) (ρ:=[iw (Wd ws)]) (fi:=jv (qt [] jl qA)) (ft:=vU (qt [.vl,.vl,.vl] jb (qd (qt [.vl,.vl] wY (qd (qe 1) (qd (qe 0) qA))) (qd (d1 vz (qe 1)) (qd (dC (.dct [])) qA))))) (fe:=qe 0) LD LD (λx=>(hd x).choose) (by simp) hi UP (λx hx=>by have h1:=xg hw (Jc.mp hx);have h2:=(hd x).choose_spec;generalize (hd x).choose=b at h2 ⊢;generalize D.lst (qp (qE ws x.1 x.2))=Z at h1 h2;generalize Wd ws=W at h1 n ⊢;simp[h1,n,h2]) λ_ _ _=>rfl;have d:=yi hw;refine qu.trans ?_;unfold qbf;rw[show qx qbe [Wd ws]=[iw (Wd ws)]from rfl];refine(qy (ρ1:=[iw (Wd ws)]) (by simp[d])).trans ?_;rw[wS,e];rfl
theorem qdv{c:Z7}{i:Nat}{fl:Str}{fe:qV}{fi:vN}{g:D->Sl->Out Sl}{fw fx:qV}{fr:qS}{ρ ρ1 ρ2 ρE:Sl}{ds items dE:List D}{fs:List (Str×D)}(h1:fe ρ=.ok (.lst ds,ρ1))(h2:ρ1[i]?=iw (iw (.ins c fs)))(a:fs.length<1000)(h:fi (ρ1.set i iB)=.ok (items,ρ2))(k:QG g fw fx items ds ρ2=.ok (dE,ρE)) :
  qav c i fl fe fi g fw fx fr ρ=fr (ρE.set i (iw (.ins c (wg fl (.lst dE) fs)))):=by
 unfold qav;simp[h1,h2,a,h,k]
abbrev bkF(lk r t:D)(sd:List D):List (Str×D):=[("look",lk),("width",r),("worths",t),("standing",.lst sd),("asked",.lst [])]
variable{lk t:D}
theorem qfR{ca:Str->Z7}(v:1<=r/\r<=99)(w:ks.length<=100)(s:∀k∈ks,0<=k/\k<r)(h:kf [Wd ws,lk,.int r,t]=.ok (.tup (ks.map D.int),[.non,.non,.non,.non]))(A:¬UL ks<ks.length):∃o,vp ca [.ins (ca "Book") [],Wd ws,lk,.int r,t]=.ok (.non,.ins (ca "Book") (bkF lk (.int r) t (Zy (aS r.toNat .non) (ws.zip ks)))::o):=by
 refine⟨[.non,.non,.non,.non],qu.trans ?_⟩;have u:ks.length<4000:=by lia
 have e1:ko (.tup (ks.map D.int))=.ok (.int (UL ks)):=by simp[ko,Ja,uA,u,UL]
 have hl:¬(UL ks:Int)<ks.length:=by lia
 have z1:1<=Z8:=jp (by lia);have z0:0<=Z8:=aZ _;have k1:¬(ab "look"=ab "width"):=by decide +kernel
 have k2:¬(ab "look"=ab "worths"):=by decide +kernel
 have j:¬(ab "look"=ab "standing"):=by decide +kernel
 have i:¬(ab "look"=ab "asked"):=by decide +kernel
 have b:¬(ab "width"=ab "worths"):=by decide +kernel
 have g:¬(ab "width"=ab "standing"):=by decide +kernel
 have f:¬(ab "width"=ab "asked"):=by decide +kernel
 have d:¬(ab "worths"=ab "standing"):=by decide +kernel
 have c:¬(ab "worths"=ab "asked"):=by decide +kernel
 have a:¬(ab "standing"=ab "asked"):=by decide +kernel
 unfold vo;simp only[qx,aD,bI,ap,aR,Nat.reduceAdd,Nat.reduceSub,aS,dG,ck];refine(qy (ρ1:=[iw (.ins (ca "Book") []),iw (Wd ws),iw lk,iw (.int r),iw t,iw (.tup (ks.map D.int)),iB,iB]) (by simp[h])).trans ?_;refine(qy (ρ1:=[iw (.ins (ca "Book") []),iw (Wd ws),iw lk,iw (.int r),iw t,iw (.tup (ks.map D.int)),iB,iB]) (by simp[e1,hl])).trans ?_;refine(qy (ρ1:=[iw (.ins (ca "Book") [("look",lk)]),iw (Wd ws),iw lk,iw (.int r),iw t,iw (.tup (ks.map D.int)),iB,iB]) (by simp[wg])).trans ?_;refine(qy (ρ1:=[iw (.ins (ca "Book") [("look",lk),("width",.int r)]),iw (Wd ws),iw lk,iw (.int r),iw t,iw (.tup (ks.map D.int)),iB,iB]) (by simp[wg,k1])).trans ?_;refine(qy (ρ1:=[iw (.ins (ca "Book") [("look",lk),("width",.int r),("worths",t)]),iw (Wd ws),iw lk,iw (.int r),iw t,iw (.tup (ks.map D.int)),iB,iB]) (by simp[wg,k2,b])).trans ?_;have m:qho (.lst [.non]) (.int r)=.ok (.lst (aS r.toNat .non)):=by
  have:(0<=r/\r<=100000)/\1 * r.toNat<=1000000:=by lia
  simp only[qho,ap,aR,fy,Aa this];congr 2
  induction r.toNat with
  |zero=>rfl
  |succ n l=>rw[bX,cJ,l,bX];rfl
 have z:GZ (ws.map D.str) (ks.map D.int)=(ws.zip ks).map λe=>.tup [.str e.1,.int e.2]:=by unfold GZ;rw[List.zipWith_map,List.zip,List.map_zipWith]
 obtain⟨x,y,p⟩:=qbz iB (iw (Wd ws)) (iw lk) (iw (.int r)) (iw t) (iw (.tup (ks.map D.int))) (ws.zip ks) (aS r.toNat .non) iB iB λe q=>by
  have:=s e.2 (cF q).2;rw[cA]
  lia
 rw[qdv (ds:=aS r.toNat .non) (items:=(ws.zip ks).map λe=>.tup [.str e.1,.int e.2]) (ρ1:=[iw (.ins (ca "Book") [("look",lk),("width",.int r),("worths",t)]),iw (Wd ws),iw lk,iw (.int r),iw t,iw (.tup (ks.map D.int)),iB,iB])
  (fs:=[("look",lk),("width",.int r),("worths",t)]) (by simp[z1,m]) rfl (by simp) (by simp[qi7,wE,z]) p]
 simp[wg,k1,k2,j,i,b,g,f,d,c,a,z0]
variable{ca:Str->Z7}{sd:List D}
theorem qbI{r:D}:wt ca [.ins (ca "Book") (bkF lk r t sd)]=.ok (.lst sd,[.non]):=by
 refine qu.trans ?_;have k1:((ab "standing") == (ab "look"))=false:=by decide +kernel
 have k2:((ab "standing") == (ab "width"))=false:=by decide +kernel
 have m:((ab "standing") == (ab "worths"))=false:=by decide +kernel
 simp[wq,qx,JU,bM,k1,k2,m,Vl]
theorem Wn{k:Nat}:∀ds:List D,(∀d∈ds,eqN k d d=iw iD)->ww (eqN k) ds ds=iw iD
 |[],_=>rfl
 |d::ds,h=>by have e:=h d (au ..);have j:=Wn ds λd' hd=>h d' (ae _ hd);simp[ww,e,j]
theorem qfS{k:Nat}(h:∀d∈ds,eqN k d d=iw iD):eqN (k+1) (.lst ds) (.lst ds)=iw true:=by have e:=Wn ds h;simp[eqN,e]
theorem qfT(h:eqN 8 d d=iw iD):neD d d=.ok (.bl iE):=by simp[neD,h]
abbrev wdF(p q:Int)(ws:List Str)(r:Int)(hs:List Int):List (Str×D):=[("look",Ld p q),("came",Wd ws),("width",.int r),("held",.tup (hs.map D.int))]
noncomputable def wdD(ca:Str->Z7)(p q:Int)(ws:List Str)(r:Int)(hs:List Int):D:=.ins (ca "Words") (wdF p q ws r hs)
variable{hs:List Int}
section
theorem s1:(ab "came" == ab "look")=iE/\(ab "width" == ab "look")=iE/\(ab "width" == ab "came")=iE/\(ab "held" == ab "look")=iE/\(ab "held" == ab "came")=iE/\(ab "held" == ab "width")=false:=by decide +kernel
theorem qhZ:JU (ca "Words") "look" (wdD ca p q ws r hs)=.ok (Ld p q):=by simp[JU,wdD,bM]
theorem qbJ:JU (ca "Words") "came" (wdD ca p q ws r hs)=.ok (Wd ws):=by obtain⟨o,m,z,y,a,l⟩:=s1;simp[JU,wdD,bM,o]
theorem qfU:JU (ca "Words") "width" (wdD ca p q ws r hs)=.ok (.int r):=by obtain⟨o,m,z,y,a,l⟩:=s1;simp[JU,wdD,bM,m,z]
theorem qh0:JU (ca "Words") "held" (wdD ca p q ws r hs)=.ok (.tup (hs.map D.int)):=by obtain⟨o,m,z,y,a,l⟩:=s1;simp[JU,wdD,bM,y,a,l]
theorem qbK{n:Str}(h:([ab "look",ab "came",ab "width",ab "held"].all λf=>!(n == f))=iD):Zm (ca "Words") n (iw (iw (wdD ca p q ws r hs)))=true:=by simp only[cL,List.all_nil,Bool.and_true,aO,em]at h;obtain⟨h1,h2,g,a⟩:=h;simp[Zm,wdD,bM,h1,h2,g,a]
theorem qfV(hl:QP p q):kI ca [.ins (ca "Words") [],Ld p q]=.ok (.non,[wdD ca p q [] 0 [],.non]):=by
 have h:=xf hl;have e1:¬ab "look"=ab "came":=by decide +kernel
 have i:¬ab "look"=ab "width":=by decide +kernel
 have D:¬ab "came"=ab "width":=by decide +kernel
 have a:¬ab "look"=ab "held":=by decide +kernel
 have A:¬ab "came"=ab "held":=by decide +kernel
 have e:¬ab "width"=ab "held":=by decide +kernel
 refine qu.trans ?_;simp[kG,qx,h,uP,wg,e1,i,D,a,A,e,wdD]
end
theorem qh1{k:Fx}(hl:k.length<=100)(x:Str)(v:Int):kR [.dct k,.str x,.int v]=.ok (.dct (xS k (.inr x) (.int v)),[.dct k,.non,.non]):=by have hz:k.length<Z8:=aH (show k.length<2000 by lia) big;refine qu.trans ?_;simp[yS,qx,VC,VB,Wq,hz]
abbrev lwT:yl:=(qgX (qO (d2 ltD (qe 4) (qe 1))) (yE (vU (qt [.vl,.vl,.vl] jb (qd (qe 0) (qd (qe 1) (qd (qt [.sl 2,.vl,.vl] kR (jZ (qd (qe 3) (qd (qe 4) qA)))) qA)))))))
abbrev lwB:qS:=(jA 4 (d2 vV (qe 4) (dC (.int 1))))
theorem sq{f g:qS}(h:f ρ=.ok (.nx,ρ1)):qG f g ρ=g ρ1:=by unfold qG;rw[h];rfl
theorem fnx{fb:qS}(h1:g d ρ=.ok ρ1)(h2:fb ρ1=.ok (.nx,ρ2)):kL g fb (d::ds) ρ=kL g fb ds ρ2:=by simp[kL,h1,h2]
theorem qfW{k:Fx}(h:yL k (.inr x)=iE)(d:D):xS k (.inr x) d=k++[(.inr x,d)]:=by unfold xS;unfold yL at h;rw[h];rfl
theorem qfX{m:List (Str×Int)}(h:x∉jx m)(w:Int):xS (bk m) (.inr x) (.int w)=bk (m++[(x,w)]):=by rw[qfW (by rw[qd5];exact Ac h)];simp[bk]
abbrev lwL:qS:=(qG (jA 4 (dC (.int 0)))
  (qG (jG lwT lwB 102)
  (qG (sIf (qO (d2 eqD (qe 4) (qe 1))) (ji (dC .non)) qW)
  (VB 2 (qe 4) (qe 3)))))
theorem qeb:∀{L:List Str},L.Pairwise (λx y=>leS x y/\x≠y)->qfi L=iD
 |[],_=>rfl
 |[_],_=>rfl
 |x::y::r,h=>by obtain⟨h1,h2⟩:=bQ.mp h;obtain⟨a,b⟩:=h1 y (au ..);unfold qfi;rw[qeb h2,Ad (aW b),Ac (show ¬y.cps.toList<x.cps.toList from a)];rfl
theorem qjx(l:List (Str×Str)):(LS l).Pairwise (λx y=>leS x y/\x≠y):=(kz _).and (qhM l)
theorem Xy:∀m:List (Str×Int),WY (bk m)=iw (jx m)
 |[]=>rfl
 |e::m=>by have:=Xy m;simp[bk,jx,WY]at this ⊢;exact this
theorem qdw(m:List (Str×Int)):YS (bk m)=prL m:=by unfold YS bk prL;rw[bp];rfl
theorem qfY(h:1<=l.length):jb [.lst (qp l),.int 0,.dct []]=.ok (.bl iE,[.non,.non,.non]):=by
 have a:vz (.lst (qp l))=.ok (.int l.length):=by simp[qp]
 have b:(0:Int)<l.length:=by lia
 refine qu.trans ?_;generalize D.lst (qp l)=Z at *;generalize (l.length:Int)=n at *;simp[ue,qx,a,b]
noncomputable def z0(L:List Str):List (Str×Int):=L.map λx=>(x,0)
theorem KG(L:List Str):jx (z0 L)=L:=by unfold jx z0;rw[bp];exact ig L
theorem qjy{L:List Str}:qbQ (bk (z0 L)):=λkv a=>by obtain⟨e,g,rfl⟩:=ay.mp a;obtain⟨x,_,rfl⟩:=ay.mp g;exact⟨0,rfl,by decide,by decide⟩
section
variable(h1:l.length=1)
include h1
theorem qjX{k:Fx}(h:qbQ k)(hl:k.length<=50):jb [.lst (qp l),.int 1,.dct k]=.ok (.bl iD,[.non,.non,.non]):=by obtain⟨b,e,o⟩:=Xw (l:=l) (by lia) (r:=1) (by decide) (by decide) (by lia) h hl;rw[e,o h1]
theorem qjz:yv [.lst (qp l),.int 0]=.ok (.int 1,[.non,.non]):=by have e0:=qfY (l:=l) (by lia);have e1:=qjX h1 (k:=[]) (λ_ h=>nomatch h) (by simp);refine qu.trans ?_;generalize D.lst (qp l)=Z at *;unfold Qn;rw[show qx Qm [Z,.int 0]=[iw Z,iw (.int 0),iB]from rfl];refine(qy (ρ1:=[iw Z,iw (.int 0),iw (.int 0)]) (by simp)).trans ?_;refine(qy (ρ1:=[iw Z,iw (.int 0),iw (.int 1)]) ?_).trans (by simp);show jG _ _ (98+1+1) _=_;simp[jG,e0,e1]
theorem qh2:xC [.lst (qp l)]=.ok (.non,[.non]):=by
 match l,h1 with
 |[x],_=>refine qu.trans ?_;have e:JS (qp [x])=[.tup [.int 0,pD x]]:=rfl;have hi:ka (qe 1) [iw (.lst (qp [x])),iw (.int 0),iw (pD x),iB]=.ok ([],[iw (.lst (qp [x])),iw (.int 0),iw (pD x),iB]):=iR0 (k:=0) (by decide) (by decide) rfl;generalize qp [x]=Z at *;simp[Jl,qx,zF,e,kL,kc,qH,kb,hi]
theorem Xz:∀(xs done:List Str)(y z:Option D),(done++xs).Nodup->done.length+xs.length<=40 ->∃s g,kL (gNm 3) lwL (xs.map D.str) [iw (.lst (qp l)),iw (.int 1),iw (.dct (bk (z0 done))),y,z]=.ok (.nx,[iw (.lst (qp l)),iw (.int 1),iw (.dct (bk (z0 (done++xs)))),s,g])
 |[],done,y,z,_,_=>⟨y,z,by simp[kL]⟩
 |x::xs,done,y,z,nd,hlen=>by
  rw[ap]at hlen;have hx:x∉jx (z0 done):=by rw[KG];exact λq=>(dm.mp nd).2.2 x q x au rfl
  have h:(bk (z0 done)).length<=40:=by simp[bk,z0];lia
  have ep:xS (bk (z0 done)) (.inr x) (.int 0)=bk (z0 (done++[x])):=by rw[qfX hx];simp[z0]
  have hd:=qjX h1 (k:=xS (bk (z0 done)) (.inr x) (.int 0)) (by rw[ep];exact qjy) (bb (qbG _ _ _) (by lia));have hw:=qh1 (k:=bk (z0 done)) (by lia) x 0;obtain⟨s,g,e⟩:=Xz xs (done++[x]) (iw (.str x)) (iw (.int 0)) (by simpa using nd) (by rw[am,dh];lia);refine⟨s,g,?_⟩;have hz:(bk (z0 done)).length<Z8:=aH (show(bk (z0 done)).length<2000 by lia) big;have st:lwL [iw (.lst (qp l)),iw (.int 1),iw (.dct (bk (z0 done))),iw (.str x),z]=.ok (.nx,[iw (.lst (qp l)),iw (.int 1),iw (.dct (bk (z0 (done++[x])))),iw (.str x),iw (.int 0)]):=by rw[<-ep];generalize D.lst (qp l)=Z at *;generalize a:bk (z0 done)=k at *;refine(sq (ρ1:=[iw Z,iw (.int 1),iw (.dct k),iw (.str x),iw (.int 0)]) rfl).trans ?_;refine(sq (ρ1:=[iw Z,iw (.int 1),iw (.dct k),iw (.str x),iw (.int 0)]) (by show jG _ _ (101+1) _=_;simp[jG,hw,hd])).trans ?_;refine(sq (ρ1:=[iw Z,iw (.int 1),iw (.dct k),iw (.str x),iw (.int 0)]) (by simp[eqD,eqN,eqS])).trans ?_;simp[VB,Wq,hz]
  rw[aD];refine(fnx (ρ1:=[iw (.lst (qp l)),iw (.int 1),iw (.dct (bk (z0 done))),iw (.str x),z]) rfl st).trans ?_;rw[e,cI];rfl
theorem qh3(z:∀x∈LS l,∃c,az c/\x=⟨#[c]⟩):vS [.lst (qp l),.int 1]=.ok (.tup (prL (z0 (LS l))),[.non,.non]):=by
 have a:=wu (l:=l) (by lia);have f:=qd9 l;obtain⟨s,g,b⟩:=Xz h1 (LS l) [] iB iB (qhM l) (by simp;lia);rw[ck]at b;have e:=KG (LS l);generalize d:z0 (LS l)=ws at *;have hs:kW (.dct (bk ws))=.ok (.lst (prL ws)):=by
  have h:((LS l).all λy=>decide (y.length<=Z8))=true:=by rw[aI];intro x hx;obtain⟨c,_,rfl⟩:=z x hx;exact Ad (show(1:Nat)<=Z8 from jp (by lia))
  have k:=Xy ws;rw[e]at k;simp only[kW,k];rw[Aa ⟨by lia,qeb (qjx l),h⟩,qdw]
 refine qu.trans ?_;unfold yg;rw[show qx yf [.lst (qp l),.int 1]=[iw (.lst (qp l)),iw (.int 1),iB,iB,iB]from rfl];refine(qy (ρ1:=[iw (.lst (qp l)),iw (.int 1),iw (.dct (bk (z0 []))),iB,iB]) rfl).trans ?_;have hi:jv (qt [.vl] jh (qd (qe 0) qA)) [iw (.lst (qp l)),iw (.int 1),iw (.dct (bk (z0 []))),iB,iB]=.ok ((LS l).map D.str,[iw (.lst (qp l)),iw (.int 1),iw (.dct (bk (z0 []))),iB,iB]):=by generalize D.lst (qp l)=Z at a ⊢;simp[a,jm]
 refine(qy (ρ1:=[iw (.lst (qp l)),iw (.int 1),iw (.dct (bk ws)),s,g]) (by rw[xz,hi,jR];exact b)).trans ?_;generalize D.lst (qp l)=Z;generalize D.dct (bk ws)=B at hs ⊢;simp[hs,ve]
end
section
theorem KH(h:Wr w):ug [.str w]=.ok (.non,[.non]):=by have h1:=Jw h;refine qu.trans ?_;simp[zr,qx,h1]
theorem ZA(h:Wr w):km ca [wdD ca p q [] r hs,.str w]=.ok (.non,[wdD ca p q [] r hs,.non]):=by have h1:=KH h;have h2:=qbJ (ca:=ca) (p:=p) (q:=q) (ws:=[]) (r:=r) (hs:=hs);refine qu.trans ?_;generalize wdD ca p q [] r hs=O at *;simp[kj,qx,h1,h2,inA,qgV,inD,QC,eqD,eqN,eqS]
theorem pf{a b c x:D}:wg "held" x [(ab "look",a),(ab "came",b),(ab "width",c),(ab "held",d)]=[(ab "look",a),(ab "came",b),(ab "width",c),(ab "held",x)]/\wg "came" x [(ab "look",a),(ab "came",b),(ab "width",c),(ab "held",d)]=[(ab "look",a),(ab "came",x),(ab "width",c),(ab "held",d)]/\wg "width" x [(ab "look",a),(ab "came",b),(ab "width",c),(ab "held",d)]=[(ab "look",a),(ab "came",b),(ab "width",x),(ab "held",d)]:=by
 have e1:¬ab "look"=ab "came":=by decide +kernel
 have i:¬ab "look"=ab "width":=by decide +kernel
 have f:¬ab "came"=ab "width":=by decide +kernel
 have p:¬ab "look"=ab "held":=by decide +kernel
 have A:¬ab "came"=ab "held":=by decide +kernel
 have e:¬ab "width"=ab "held":=by decide +kernel
 simp[wg,e1,i,f,p,A,e]
theorem qfZ{f:Str}{a b c x g e S d':D}{fe:qV}(h:fe ρ=.ok (x,ρ1))(i:ρ1[0]?=iw (iw (.ins (ca "Words") [(ab "look",a),(ab "came",b),(ab "width",c),(ab "held",d)])))(hp:wg f x [(ab "look",a),(ab "came",b),(ab "width",c),(ab "held",d)]=[(ab "look",g),(ab "came",e),(ab "width",S),(ab "held",d')]) :
  uP (ca "Words") 0 f fe ρ=.ok (.nx,ρ1.set 0 (iw (.ins (ca "Words") [(ab "look",g),(ab "came",e),(ab "width",S),(ab "held",d')]))):=by
 unfold uP;rw[h,jR];simp only[i];rw[Aa (by simp),hp]
theorem qh4(h:Wr w):jB [w]:=⟨by simp,by simp,by simp,λv c=>by rw[aN.mp c];exact h⟩
theorem qjA(h:Wr w)(hl:QP p q):Made [w] p q 1 (z0 (LS (qE [w] p q))):=by
 have hw:=qh4 h;have a:=qbt hw p q;refine⟨hw,hl,by decide,by decide,λx hx=>?_,?_,λx hx=>by rw[KG];exact hx,by simp[z0];lia⟩;·obtain⟨y,k,rfl⟩:=ay.mp hx;obtain⟨c,d,rfl⟩:=qfD hw p q y k;exact⟨Xk d,Int.le_refl _,Int.one_pos⟩
 .rw[KG];exact qd8 _
theorem qjB(hw:Wr w)(hl:QP p q):∃n,um ca [wdD ca p q [] 0 [],.str w]=.ok (.int 1,[wdD ca p q [w] 1 [n],.non]):=by
 have g:Zm (ca "Words") "check_new" (iw (iw (wdD ca p q [] 0 [])))=true:=qbK (by decide +kernel);have a:=ZA (ca:=ca) (p:=p) (q:=q) (r:=0) (hs:=[]) hw;have fc:=qbJ (ca:=ca) (p:=p) (q:=q) (ws:=[]) (r:=0) (hs:=[]);have fl:=qhZ (ca:=ca) (p:=p) (q:=q) (ws:=[]) (r:=0) (hs:=[]);have fw:=qfU (ca:=ca) (p:=p) (q:=q) (ws:=[]) (r:=0) (hs:=[]);have b:=qh4 hw;have hp:=xg b hl;have e1:(qE [w] p q).length=1:=by simp[qE]
 have c:=qh2 e1;have j:=qjz e1;have R:=qh3 e1 (qfD b p q);have h:=qbB (qjA hw hl);have z1:1<=Z8:=jp (by lia);have d:vV (Wd []) (.tup [.str w])=.ok (Wd [w]):=by simp[z1]
 rw[UM]at h;refine⟨num (z0 (LS (qE [w] p q))) p q 1 w,qu.trans ?_⟩;have h:kf [Wd [w],Ld p q,.int 1,.tup (prL (z0 (LS (qE [w] p q))))]=.ok (.tup ([num (z0 (LS (qE [w] p q))) p q 1 w].map D.int),[.non,.non,.non,.non]):=h;generalize num (z0 (LS (qE [w] p q))) p q 1 w=n at *;generalize D.tup (prL (z0 (LS (qE [w] p q))))=Pe at *;generalize D.lst (qp (qE [w] p q))=Z at *;unfold ul;rw[show qx ui [wdD ca p q [] 0 [],.str w]=[iw (wdD ca p q [] 0 []),iw (.str w),iB,iB,iB]from rfl];refine(qy (ρ1:=[iw (wdD ca p q [] 0 []),iw (.str w),iB,iB,iB]) (by generalize wdD ca p q [] 0 []=O at *;simp[xV,g,a])).trans ?_;refine(qy (ρ1:=[iw (wdD ca p q [] 0 []),iw (.str w),iw (Wd [w]),iB,iB]) (by generalize wdD ca p q [] 0 []=O at *;generalize Wd []=W at *;generalize Wd [w]=W' at *;simp[fc,d,z1])).trans ?_;refine(qy (ρ1:=[iw (wdD ca p q [] 0 []),iw (.str w),iw (Wd [w]),iw Z,iB]) (by generalize wdD ca p q [] 0 []=O at *;generalize Wd [w]=W' at *;simp[fl,hp])).trans ?_;refine(qy (ρ1:=[iw (wdD ca p q [] 0 []),iw (.str w),iw (Wd [w]),iw Z,iB]) (by generalize wdD ca p q [] 0 []=O at *;generalize Wd [w]=W' at *;simp[c])).trans ?_;refine(qy (ρ1:=[iw (wdD ca p q [] 0 []),iw (.str w),iw (Wd [w]),iw Z,iw (.int 1)]) (by generalize wdD ca p q [] 0 []=O at *;generalize Wd [w]=W' at *;simp[fw,j])).trans ?_;refine(qy (ρ1:=[iw (wdD ca p q [] 0 [n]),iw (.str w),iw (Wd [w]),iw Z,iw (.int 1)]) (qfZ (x:=.tup ([n].map D.int)) (ρ1:=[iw (wdD ca p q [] 0 []),iw (.str w),iw (Wd [w]),iw Z,iw (.int 1)]) (by generalize wdD ca p q [] 0 []=O at *;generalize Wd [w]=W' at *;generalize D.tup ([n].map D.int)=U at *;simp[fl,R,h]) rfl pf.1)).trans ?_;refine(qy (ρ1:=[iw (wdD ca p q [w] 0 [n]),iw (.str w),iw (Wd [w]),iw Z,iw (.int 1)]) (qfZ (x:=Wd [w]) (ρ1:=[iw (wdD ca p q [] 0 [n]),iw (.str w),iw (Wd [w]),iw Z,iw (.int 1)]) rfl rfl pf.2.1)).trans ?_;refine(qy (ρ1:=[iw (wdD ca p q [w] 1 [n]),iw (.str w),iw (Wd [w]),iw Z,iw (.int 1)]) (qfZ (x:=.int 1) (ρ1:=[iw (wdD ca p q [w] 0 [n]),iw (.str w),iw (Wd [w]),iw Z,iw (.int 1)]) rfl rfl pf.2.2)).trans ?_;generalize wdD ca p q [w] 1 [n]=O at *;generalize Wd [w]=W' at *;simp
theorem qdx{n:Int}:vx ca [wdD ca p q [w] 1 [n]]=.ok (.lst [.tup [.str w,.int n]],[.non]):=by have h1:=qbJ (ca:=ca) (p:=p) (q:=q) (ws:=[w]) (r:=1) (hs:=[n]);have h2:=qh0 (ca:=ca) (p:=p) (q:=q) (ws:=[w]) (r:=1) (hs:=[n]);have g:vH (Wd [w]) (.tup ([n].map D.int))=.ok (.lst [.tup [.str w,.int n]]):=rfl;refine qu.trans ?_;generalize wdD ca p q [w] 1 [n]=O at *;generalize Wd [w]=W' at *;generalize D.tup ([n].map D.int)=U at *;simp[vw,qx,h1,h2,g]
end
abbrev GF:=ju
noncomputable def okA:D->Bool
 |.int _=>iD
 |.str _=>iD
 |_=>iE
def okI:D->Bool
 |.non=>iD
 |.int _=>iD
 |.str _=>iD
 |.tup xs=>xs.all okA
 |.lst xs=>xs.all okA&&decide (xs.length<=100)
 |_=>iE
noncomputable def flF:D->D
 |.lst xs=>.tup xs
 |d=>d
theorem XA(h:okA d=iD):qay d=true:=by cases d <;> first|rfl|cases h
theorem qbL(k:Nat):∀{ds:List D},ds.all okA=iD->ww (eqN k) ds ds=iw iD
 |[],_=>rfl
 | d::ds,h=>by
  rw[cL,aO]at h;have j:=qbL k h.2;have:eqN k d d=iw true:=by
   cases d with
   |int i=>cases k <;> simp[eqN,eqS]
   |str x=>cases k <;> simp[eqN,eqS]
   |_=>cases h.1
  simp[ww,this,j]
theorem kl:zD "NoneType" "list"=iw iE/\zD "int" "list"=iw iE/\zD "str" "list"=iw iE/\zD "tuple" "list"=iw iE/\zD "list" "list"=iw true:=by decide +kernel
theorem qbM(h:okI d=iD):dIf (vU (d1 (wM "list") (qe 0))) (d1 ve (qe 0)) (qe 0) [iw d]=.ok (flF d,[iw d])/\VA (flF d)=iD/\eqN 7 (flF d) (flF d)=iw true:=by
 obtain⟨k1,k2,m,k,b⟩:=kl;cases d with
 |non=>exact⟨by simp[wM,tyN,k1,flF],rfl,rfl⟩
 |int i=>exact⟨by simp[wM,tyN,k2,flF],rfl,by simp[flF,eqN,eqS]⟩
 |str x=>exact⟨by simp[wM,tyN,m,flF],rfl,by simp[flF,eqN,eqS]⟩
 |tup xs=>refine⟨by simp[wM,tyN,k,flF],aI.mpr λx hx=>XA (aI.mp h x hx),?_⟩;have:=qbL 6 (show xs.all okA=iD from h);simp[flF,eqN,this]
 |lst xs=>obtain⟨h1,h2⟩:=du.mp (show(xs.all okA&&decide (xs.length<=100))=iD from h);have hz:xs.length<=Z8:=jp (bb (Ae h2) (by decide));refine⟨by simp[wM,tyN,b,flF,ve],aI.mpr λx hx=>XA (aI.mp h1 x hx),?_⟩;have:=qbL 6 h1;simp[flF,eqN,this]
 |_=>cases h
theorem qf0(h:ds.all okI=iD)(hz:ds.length<=2000):Kz [.lst ds]=.ok (.lst (ds.map flF),[.non])/\(ds.map flF).all VA=iD/\neD (.lst (ds.map flF)) (.lst (ds.map flF))=.ok (.bl iE):=by
 have hi:jv (qe 0) [iw (.lst ds)]=.ok (ds.map id,[iw (.lst ds)]):=by simp[jm]
 have e:=Xx (own:=[]) (cap:=[]) (Cs:=ds) (ρ:=[iw (.lst ds)]) (fi:=jv (qe 0)) (ft:=ftT) (fe:=dIf (vU (d1 (wM "list") (qe 0))) (d1 ve (qe 0)) (qe 0)) id flF (λ_=>iD) (λ_ h=>nomatch h) hi (jp hz) (λ_ _=>rfl) λd hd _=>(qbM (aI.mp h d hd)).1;rw[cQ.mpr λ_ _=>rfl]at e;refine⟨qu.trans ?_,?_,qfT (qfS λd hd=>?_)⟩;·unfold UE;rw[show qx UD [.lst ds]=[iw (.lst ds)]from rfl,wS,e];rfl
 .rw[dD,aI];exact λd hd=>(qbM (aI.mp h d hd)).2.1
 .obtain⟨x,hx,rfl⟩:=ay.mp hd;exact(qbM (aI.mp h x hx)).2.2
theorem qbN{r:D}:((bkF lk r t sd).lookup (ab "places")).isNone=true:=by
 have k1:((ab "places") == (ab "look"))=false:=by decide +kernel
 have k2:((ab "places") == (ab "width"))=false:=by decide +kernel
 have m:((ab "places") == (ab "worths"))=false:=by decide +kernel
 have k:((ab "places") == (ab "standing"))=false:=by decide +kernel
 have b:((ab "places") == (ab "asked"))=false:=by decide +kernel
 simp[bM,k1,k2,m,k,b]
variable{W:D}
section
variable{rr:D}{w0:Str}{n:Int}
theorem qf1:((wdF p q [w0] 1 [n]).lookup (ab "numbers")).isNone=true:=by
 have k1:((ab "numbers") == (ab "look"))=false:=by decide +kernel
 have k2:((ab "numbers") == (ab "came"))=false:=by decide +kernel
 have m:((ab "numbers") == (ab "width"))=false:=by decide +kernel
 have k:((ab "numbers") == (ab "held"))=false:=by decide +kernel
 simp[wdF,bM,k1,k2,m,k]
def qf2(W lo al bl:GF)(k c2:Z7)(pl n:GF):qS:=(qG (sIf (qO (d2 eqD (qe 0) (dC (.int 0)))) (ji (qt [.vl,.vl] W (qd (qe 1) (qd (qe 2) qA)))) qW)
  (qG (sIf (qO (d2 eqD (qe 0) (dC (.int 1)))) (ji (d2 qc0 (qt [.vl] lo (qd (qe 1) qA)) (gk (qd (dC (.int 1)) qA)))) qW)
  (qG (sIf (qO (d2 eqD (qe 0) (dC (.int 2)))) (ji (qt [.vl,.vl] al (qd (qe 1) (qd (qe 2) qA)))) qW)
  (qG (sIf (qO (d2 eqD (qe 0) (dC (.int 3)))) (ji (qt [.vl] bl (qd (qe 1) qA))) qW)
  (ji (dIf (qO (d2 eqD (qe 0) (dC (.int 4)))) (gO k "places" pl (qe 3)) (gO c2 "numbers" n (qe 4))))))))
theorem qf3{p lo al bl pl n:GF}{k c2:Z7}{L:D}{f1 f2:List (Str×D)}{A d1 d2 K a d:List D}(f:p [W,L]=.ok (.lst A,[.non,.non]))(h1:lo [W]=.ok (.lst d1,[.non]))(h2:al [W,L]=.ok (.lst d2,[.non,.non]))(g:bl [W]=.ok (.lst K,[.non]))(e:pl [.ins k f1]=.ok (.lst a,[.non]))(h:n [.ins c2 f2]=.ok (.lst d,[.non]))(n1:(f1.lookup (ab "places")).isNone=iD)(n2:(f2.lookup (ab "numbers")).isNone=iD)(z1:d1.length+1<=Z8){c:Int}(j:0<=c)(i:c<6){P:List D->Prop}(b:P A)(p1:P (d1++[.int 1]))(p2:P d2)(p3:P K)(p4:P a)(p5:P d) :
  ∃ds,P ds/\jF qbi [.val,.val,.val,.val,.val] (qf2 p lo al bl k c2 pl n) [.int c,W,L,.ins k f1,.ins c2 f2]=.ok (.lst ds,[.non,.non,.non,.non,.non]):=by
 have z:1<=Z8:=jp (by lia);obtain rfl|rfl|rfl|rfl|rfl|rfl:c=0\/c=1\/c=2\/c=3\/c=4\/c=5:=by lia
 .exact⟨A,b,qu.trans (by simp[qf2,qx,eqD,eqN,eqS,f])⟩
 .exact⟨_,p1,qu.trans (by simp[qf2,qx,eqD,eqN,eqS,h1,qc0,z,z1])⟩
 .exact⟨d2,p2,qu.trans (by simp[qf2,qx,eqD,eqN,eqS,h2])⟩
 .exact⟨K,p3,qu.trans (by simp[qf2,qx,eqD,eqN,eqS,g])⟩
 .exact⟨a,p4,qu.trans (by simp[qf2,qx,eqD,eqN,eqS,gO,n1,e])⟩
 .exact⟨d,p5,qu.trans (by simp[qf2,qx,eqD,eqN,eqS,gO,n2,h])⟩
def Gd(ds:List D):Prop:=ds.all okI=iD/\ds.length<=200
theorem qh5(l:List Lk)(h:l.length<=36):Gd (l.map LD):=⟨by rw[dD,aI];exact λ_ _=>rfl,by rw[ah];lia⟩
theorem qh6(hw:jB ws)(hl:QP p q)(h:∀d∈sd,NS d)(l:sd.length<=99){c:Int}(L:0<=c)(e:c<6):∃ds,Gd ds/\Xh ca [.int c,Wd ws,Ld p q,.ins (ca "Book") (bkF lk rr t sd),wdD ca p q [w0] 1 [n]]=.ok (.lst ds,[.non,.non,.non,.non,.non]):=by
 obtain⟨P,h1⟩:=qdu hw;obtain⟨M,_,_,b⟩:=qfQ hw;have f:=hw.2.1;have a:=KF ws p q;have f1:∀P:Lk->Bool,(LK.filter P).length<=36:=λP=>qbH ▸ cC P LK;have g1:=qh5 (LK.filter P) (f1 P);refine qf3 (xg hw hl) h1 (Xq hw hl) b qbI qdx qbN qf1 (by rw[ah];exact jp (by have:=f1 P;lia)) L e ⟨?_,?_⟩ ⟨?_,?_⟩ ⟨?_,?_⟩ (qh5 _ (f1 _)) ⟨?_,by lia⟩ ⟨rfl,by simp⟩;·unfold qp;rw[dD,aI];exact λ_ _=>rfl
 .simp[qp];lia
 .rw[List.all_append,g1.1];rfl
 .rw[am,dh,ah];have:=f1 P
  lia
 .rw[dD,aI];intro g hg;obtain⟨i,_,rfl⟩:=ay.mp hg;have:(grp (qE ws p q) i).length<=6:=by have:=cC (λj=>al (pa (qE ws p q) i) (pa (qE ws p q) j)) (aK (qE ws p q).length);rw[bN]at this;exact bb this (by lia)
  refine du.mpr ⟨?_,Ad (by rw[ah];lia)⟩;rw[dD,aI];exact λ_ _=>rfl
 .rw[ah];have:=qjw (qE ws p q)
  lia
 .rw[aI];intro d hd;rcases h d hd with rfl|⟨x,rfl⟩ <;> rfl
end
def tB(as fl:GF):qS:=(qG (jA 10 (d2 gf (d2 vV (qe 2) (d2 Gm (dC (.int 5)) (qe 3))) (dC (.int 6))))
  (qG (jA 11 (qt [.vl,.vl,.vl,.vl,.vl] as (qd (qe 10) (qd (qe 4) (qd (qe 5) (qd (qe 8) (qd (qe 9) qA)))))))
  (qG (jA 12 (qaM 11 fl))
  (qG (jY (xP 11 KJ (dC (.str "changed"))))
  (qG (sIf (qO (d2 eqD (d2 gf (qe 10) (dC (.int 2))) (dC (.int 0)))) (YL 11 (dC .non) (dC (.int 0))) qW)
  (qG (jA 13 (qt [.vl,.vl,.vl,.vl,.vl] as (qd (qe 10) (qd (qe 4) (qd (qe 5) (qd (qe 8) (qd (qe 9) qA)))))))
  (qG (sIf (dOr (qO (d2 neD (qt [.vl] fl (qd (qe 13) qA)) (qe 12))) (yE (vU (d1 (wM "list") (qe 13))))) (ji (dC (.bl iE))) qW) qW)))))))
section
variable{as fl:GF}{L B M:D}{S T R Z:Option D}
theorem qkw(b j:Int)(hb:0<=b/\b<6)(D:0<=j/\j<6):gf (.int (b+5 * j)) (.int 6)=.ok (.int ((b+5 * j) % 6))/\Gm (.int 5) (.int j)=.ok (.int (5 * j)):=by
 refine⟨?_,by
  have d:CMul 5 j:=by unfold CMul;lia
  simp[Gm,Qy,d]⟩
 have d:qiI (b+5 * j) 6:=⟨by lia,by lia⟩
 simp[gf,Qy,d]
theorem qf4{b j c:Int}{fs:List D}(n:Gm (.int 5) (.int j)=.ok (.int (5 * j)))(o:gf (.int (b+5 * j)) (.int 6)=.ok (.int c))(h2:gf (.int c) (.int 2)=.ok (.int (c % 2)))(m:as [.int c,W,L,B,M]=.ok (.lst ds,[.non,.non,.non,.non,.non]))(k:fl [.lst ds]=.ok (.lst fs,[.non]))(l:fs.all VA=iD)(i:neD (.lst fs) (.lst fs)=.ok (.bl iE))(hz:ds.length<Z8)(h d a x:Option D):∃g f e y,tB as fl [S,T,iw (.int b),iw (.int j),iw W,iw L,R,Z,iw B,iw M,h,d,a,x]=.ok (.nx,[S,T,iw (.int b),iw (.int j),iw W,iw L,R,Z,iw B,iw M,g,f,e,y]):=by
 have ad:vV (.int b) (.int (5 * j))=.ok (.int (b+5 * j)):=rfl;have tl:wM "list" (.lst ds)=.ok (.bl iD):=by simp[wM,tyN,kl.2.2.2.2]
 refine⟨iw (.int c),iw (.lst (if c % 2=0 then(ds++[D.str "changed"]).set 0 .non else ds++[D.str "changed"])),iw (.lst fs),iw (.lst ds),?_⟩;unfold tB;refine(sq (ρ1:=[S,T,iw (.int b),iw (.int j),iw W,iw L,R,Z,iw B,iw M,iw (.int c),d,a,x]) (by simp[n,ad,o])).trans ?_;refine(sq (ρ1:=[S,T,iw (.int b),iw (.int j),iw W,iw L,R,Z,iw B,iw M,iw (.int c),iw (.lst ds),a,x]) (by simp[m])).trans ?_;refine(sq (ρ1:=[S,T,iw (.int b),iw (.int j),iw W,iw L,R,Z,iw B,iw M,iw (.int c),iw (.lst ds),iw (.lst fs),x]) (by simp[qaM,k,l])).trans ?_;refine(sq (ρ1:=[S,T,iw (.int b),iw (.int j),iw W,iw L,R,Z,iw B,iw M,iw (.int c),iw (.lst (ds++[.str "changed"])),iw (.lst fs),x]) (by simp[yK,KJ,hz])).trans ?_;refine(sq (ρ1:=[S,T,iw (.int b),iw (.int j),iw W,iw L,R,Z,iw B,iw M,iw (.int c),iw (.lst (if c % 2=0 then(ds++[D.str "changed"]).set 0 .non else ds++[D.str "changed"])),iw (.lst fs),x]) ?_).trans ?_
 .have hx:ixN (ds++[D.str "changed"]).length 0=iw 0:=by simp[ixN]
  generalize ds++[D.str "changed"]=E at *;by_cases q:c % 2=0;·simp[h2,eqD,eqN,eqS,q,YL,hx]
  .simp[h2,eqD,eqN,eqS,q]
 .generalize (if c % 2=0 then(ds++[D.str "changed"]).set 0 .non else ds++[D.str "changed"])=E;refine(sq (ρ1:=[S,T,iw (.int b),iw (.int j),iw W,iw L,R,Z,iw B,iw M,iw (.int c),iw (.lst E),iw (.lst fs),iw (.lst ds)]) (by simp[m])).trans ?_;simp[k,i,tl]
theorem qec{n:qS}{b:Int}(h:∀(j:Int)(f c a x:Option D),0<=j/\j<6->∃l k g y,n [S,T,iw (.int b),iw (.int j),iw W,iw L,R,Z,iw B,iw M,f,c,a,x]=.ok (.nx,[S,T,iw (.int b),iw (.int j),iw W,iw L,R,Z,iw B,iw M,l,k,g,y])):∀(s:List Int)(m f c a x:Option D),(∀j∈s,0<=j/\j<6)->∃ρ,kL (gNm 3) n (s.map D.int) [S,T,iw (.int b),m,iw W,iw L,R,Z,iw B,iw M,f,c,a,x]=.ok (.nx,S::ρ)
 |[],m,f,c,a,x,_=>⟨_,rfl⟩
 |j::s,m,f,c,a,x,hj=>by obtain⟨l,k,g,y,e⟩:=h j f c a x (hj j au);obtain⟨ρ,o⟩:=qec h s (iw (.int j)) l k g y λi hi=>hj i (ae _ hi);exact⟨ρ,Eq.trans (KB (d:=.int j) rfl e) o⟩
end
theorem qbO:∀(l a:List Int),(a++l).Nodup->l.foldl Vz a=a++l
 |[],a,_=>by simp
 |x::l,a,h=>by
  have hx:x∉a:=λq=>by have:=dm.mp h;exact this.2.2 x q x (au ..) rfl
  have e:Vz a x=a++[x]:=by simp[Vz,hx]
  rw[bO,e,qbO l (a++[x]) (by simpa using h)];simp
def FL(ca:Str->Z7)(r d b wi co:GF)(n:qS):qS:=(qG (jA 1 (gk qA))
  (qG (jA 2 (qt [.vl,.sl 1,.vl] r (qd (qe 0) (jZ (qd (dC (.int 6)) qA)))))
  (qG (qg6 (qt [.vl,.sl 1] d (qd (qe 0) (jZ qA))) (kc 4 (qH (gNm 4) (qH (gNm 5) (qH (gNm 6) (qH (gNm 7) kb))))))
  (qG (qhs 8 9 (qd (WW (ca "Book") b (qd (qe 4) (qd (qe 5) (qd (qe 6) (qd (qe 7) qA))))) (qd (WW (ca "Words") wi (qd (qe 5) qA)) qA)))
  (qG (jY (xV (ca "Words") 9 "come" [.vl] co (qd (d2 ixD (qe 4) (dC (.int 0))) qA)))
  (qG (JE (ka (dC (.int 6))) (gNm 3) n)
  (ji (dC (.bl iD)))))))))
theorem qf5{h e i wi co:GF}{n:qS}{L B c M w:D}{r d a b o:D}{o1 o2:List D}(g1:h [S,.lst [],.int 6]=.ok (b,[.non,d,.non]))(m:e [S,d]=.ok (.tup [W,L,r,t],[.non,a]))(U:i [.ins (ca "Book") [],W,L,r,t]=.ok (.non,B::o1))(K:wi [.ins (ca "Words") [],L]=.ok (.non,c::o2))(j:Zm (ca "Words") "come" (iw (iw c))=iD)(x:ixD W (.int 0)=.ok w)(l:co [c,w]=.ok (o,[M,.non]))(g:∃ρ,kL (gNm 3) n (QD 0 6) [iw S,iw a,iw b,iB,iw W,iw L,iw r,iw t,iw B,iw M,iB,iB,iB,iB]=.ok (.nx,iw S::ρ)):jF qdj [.val] (FL ca h e i wi co n) [S]=.ok (.bl iD,[.non]):=by
 refine qu.trans ?_;obtain⟨ρ,g⟩:=g;unfold FL;rw[show qx qdj [S]=[iw S,iB,iB,iB,iB,iB,iB,iB,iB,iB,iB,iB,iB,iB]from rfl];refine(qy (ρ1:=[iw S,iw (.lst []),iB,iB,iB,iB,iB,iB,iB,iB,iB,iB,iB,iB]) (by simp)).trans ?_;refine(qy (ρ1:=[iw S,iw d,iw b,iB,iB,iB,iB,iB,iB,iB,iB,iB,iB,iB]) (by simp[g1])).trans ?_;refine(qy (ρ1:=[iw S,iw a,iw b,iB,iw W,iw L,iw r,iw t,iB,iB,iB,iB,iB,iB]) (by simp[m,kc,qH,kb])).trans ?_;refine(qy (ρ1:=[iw S,iw a,iw b,iB,iw W,iw L,iw r,iw t,iw B,iw c,iB,iB,iB,iB]) (by simp[qhs,WW,U,K])).trans ?_;refine(qy (ρ1:=[iw S,iw a,iw b,iB,iw W,iw L,iw r,iw t,iw B,iw M,iB,iB,iB,iB]) (by simp[xV,j,x,l])).trans ?_;refine(qy (f:=JE (ka (dC (.int 6))) (gNm 3) n) (ρ1:=iw S::ρ) ?_).trans (by simp);rw[xz,iR0 (k:=6) (by decide) (by decide) rfl,jR];exact g
theorem qh7(a:List Int):qfw ca [scr a]=.ok (.bl iD,[.non]):=by
 obtain⟨b,C,B,g1⟩:=uy a [] (many:=6) (by decide) (by simp);obtain⟨ws,p,q,r,l,E,M,s,_,W⟩:=qfI a ([]++[.int 0]) (by simp);have hw:=M.hw;have hl:=M.hl;have r0:=M.r0;have r1:=M.r1;have G:=hw.2.1;obtain⟨w0,wr,rfl⟩:∃w0 wr,ws=w0::wr:=by
  match ws,hw.1 with
  |w0::wr,_=>exact⟨w0,wr,rfl⟩
 obtain⟨o1,U⟩:=qfR (ca:=ca) (lk:=Ld p q) ⟨r0,by lia⟩ (by have:=qfG M;lia) (qhO M) (qbB M) (by rw[UM];unfold UL;rw[qbO _ [] (by simpa using s)];simp);obtain⟨n,y⟩:=qjB (ca:=ca) (p:=p) (q:=q) (hw.2.2.2 w0 au) hl;refine qf5 g1 W U (qfV hl) (qbK (by decide +kernel)) (w:=.str w0) ?_ y ?_;·simp[ixD,at0]
 .rw[Xs];refine qec (λj h g f x D=>?_) _ iB iB iB iB iB λi hi=>?_
  .obtain⟨m1,A⟩:=qkw b j ⟨C,B⟩ D;have L:0<=(b+5 * j) % 6/\(b+5 * j) % 6<6:=⟨fh _ (by decide),dS _ (by decide)⟩
   obtain⟨ds,o,e⟩:=qh6 (ca:=ca) (lk:=Ld p q) (rr:=.int r) (t:=.tup (prL l)) (sd:=Zy (aS r.toNat .non) ((w0::wr).zip (qdn l (qE (w0::wr) p q) r))) (w0:=w0) (n:=n) hw hl (Xo _ _ λd hd=>.inl (List.eq_of_mem_replicate hd)) (by rw[Wi,cA];lia) L.1 L.2;obtain⟨f1,f2,z⟩:=qf0 o.1 (bb o.2 (by decide));have m:gf (.int ((b+5 * j) % 6)) (.int 2)=.ok (.int ((b+5 * j) % 6 % 2)):=by
    generalize (b+5 * j) % 6=c at L;have v:qiI c 2:=⟨by lia,by lia⟩
    simp[gf,Qy,v]
   exact qf4 A m1 m e f1 f2 z (aH (show ds.length<2000 by have:=o.2;lia) big) h g f x
  .obtain⟨k,u,rfl⟩:=ay.mp hi;have:=bq.mp u
   lia
end Kx
namespace Kx
open PySem PySem.Spec PyProof.Rows L2 L2.D2
noncomputable def caK(K:Y9)(x:Str):Z7:=match nsIn K iP x with
 |some (iw (.ref a))=>a
 |_=>0
noncomputable def ZS:List Str:=["all","bool","dict","enumerate","int","isinstance","len","list","max","min","range","set","sorted","str","sum","tuple","zip"]
noncomputable def XL:List Str:=["Book","Words"]
noncomputable def kCT:List (Str×Int):=[("LEAST_PLACE",-3),("MOST_LETTERS",6),("MOST_PLACE",2),("MOST_ROOM",99),("MOST_WORDS",6)]
def zB(K:Y9):Bool:=ZS.all (λx=>decide (nsIn K iP x=iw iB))&&XL.all (λx=>decide (nsIn K iP x=iw (iw (.ref (caK K x)))))&&kCT.all λp=>match nsIn K iP p.1 with
 |some (iw (.int i _))=>decide (i=p.2)
 |_=>iE
noncomputable def bB(K:Y9)(C:Z7)(fs:List Str):Bool:=dB K C Str.empty&&d8 K C&&fK K C&&decide (bH K (.ref C) "__setattr__"=iw (iw (.builtin "object.__setattr__")))&&fs.all λf=>decide (bH K (.ref C) f=iw iB)
variable{K:Y9}{h:Z5}{mg:Str->Option iC}
set_option tactic.hygienic true in
theorem qjC(X:K.In h)(G:h.Ns iP mg)(hz:zB K=iD)(hb:bB K (caK K "Book") ["look","width","worths","standing","asked"]=iD)(hw:bB K (caK K "Words") ["look","came","width","held"]=iD)  : Zt K mg (λx=>.ref (caK K x)) (caK K):=by
 simp only[zB,bB,aO,decide_eq_true_eq,aI]at hz hb hw;have z:∀{x},x∈ZS->mg x=none:=λhx=>mg_none_of X G (hz.1.1 _ hx);have m:∀{x},x∈XL->mg x=iw (.ref (caK K x)):=λhx=>mg_of X G (hz.1.2 _ hx);have k:∀{x i},(x,i)∈kCT->∃t,mg x=iw (.int i t):=λ{x i} hx=>by
  have q:=hz.2 _ hx;split at q;·rename_i e;cases Ae q;exact⟨_,mg_of X G e⟩
  .cases q
 exact⟨z (by decide +kernel),z (by decide +kernel),z (by decide +kernel),z (by decide +kernel),z (by decide +kernel),z (by decide +kernel),z (by decide +kernel),z (by decide +kernel),z (by decide +kernel),z (by decide +kernel),z (by decide +kernel),z (by decide +kernel),z (by decide +kernel),z (by decide +kernel),z (by decide +kernel),z (by decide +kernel),z (by decide +kernel),k (by decide +kernel),k (by decide +kernel),k (by decide +kernel),k (by decide +kernel),k (by decide +kernel),m (by decide +kernel),⟨hb.1.1.1.1,hb.1.1.1.2,hb.1.1.2,hb.1.2⟩,hb.2,m (by decide +kernel),⟨hw.1.1.1.1,hw.1.1.1.2,hw.1.1.2,hw.1.2⟩,hw.2⟩
def qdy(K:Y9):Sp:=λvs H Q _=>∃(a:Z7)(ns:List Int),vs=[.ref a]/\SqL K H a (ns.map V.int)/\∀H',Q (.bl iD) H'
theorem XB{F:Hp}:∀ns:List Int,IsL K F (ns.map V.int) (ns.map D.int)
 |[]=>.nil
 |n::ns=>.cons (.int n) (XB ns)
theorem qjD{cv:Str->iC}{ca:Str->Z7}(vs:List V)(H:Hp)(Q:VK)(E:XK)(q:qdy K vs H Q E):spD K cv [.val] .sh (qfw ca) vs H Q E:=by obtain⟨a,ns,rfl,hs,hq⟩:=q;refine⟨H,[scr ns],Same.refl _,⟨.lst hs (XB ns),trivial⟩,bw,?_⟩;rw[qh7 ns];intro v F' H' o m z y;have y:Is K F' v (.bl iD):=y;cases y;exact hq H'
abbrev NsX(K:Y9)(x:Str)(f:Z7):Prop:=nsIn K iP x=iw (iw (.ref f))
abbrev CdX(K:Y9)(v:iC)(x:Str):Prop:=codeIn K v x=iD
abbrev KpX(K:Y9)(f:Z7):Prop:=mC K (.ref f)=iD
abbrev LkX(K:Y9)(x q:Str)(st:Z3)(f:Z7)(oc:iC)(od an:Option Z7)(sl:Array (Option iC))(kV d pm cd ct:iC):Prop:=K.lookup f=iw ⟨oc,od,.func (cY x q (xj st) (kY st) (qC st) .none kV d pm an cd ct),sl⟩
abbrev BdX(x q:Str)(st:Z3)(ps:List Str):Prop:=∀(kV doc pm:iC)(an:Option Z7)(cdv ct:iC)(us:List iC),us.length=ps.length->bindArgs (cY x q (xj st) (kY st) (qC st) .none kV doc pm an cdv ct) ⟨us,[]⟩=pure (ps.zip us)
def AlV:Nat->(List iC->Prop)->Prop
 | 0,P=>P []
 |n+1,P=>∀a,AlV n λl=>P (a::l)
theorem alV{n:Nat}{us:List iC}{P:List iC->Prop}(e:us.length=n)(h:AlV n P):P us:=by
 induction us generalizing n P with
 |nil=>subst e;exact h
 |cons a l j=>subst e;exact j (P:=λl=>P (a::l)) rfl (h a)
local macro_rules | `(tactic|sleep 77) => `(tactic|(intro _ _ _ _ _ _ us hl;refine alV (P := fun us => bindArgs _ ⟨us, []⟩ = pure (List.zip _ us)) hl ?_;(repeat intro _);exact rfl))
def Dx(K:Y9)(x:Str)(st:Z3):Prop:=∃(f:Z7)(oc:iC)(od an:Option Z7)(sl:Array (Option iC))(kV d pm cd ct:iC),NsX K x f/\LkX K x x st f oc od an sl kV d pm cd ct/\CdX K cd x/\KpX K f
variable{x:Str}{st:Z3}{ps:List Str}
theorem ja(X:K.In h)(G:h.Ns iP mg)(q:Dx K x st)(hb:BdX x x st ps:=by sleep 77):qid K mg x st ps:=by obtain⟨f,oc,od,an,sl,kV,d,pm,cd,ct,a,l,c,k⟩:=q;exact⟨f,_,gc l c k,mg_of X G a,(gc l c k).binds hb⟩
def Dm(K:Y9)(C:Z7)(x q:Str)(st:Z3):Prop:=∃(f:Z7)(oc:iC)(od an:Option Z7)(sl:Array (Option iC))(kV d pm cd ct:iC),bH K (.ref C) x=iw (iw (.ref f))/\LkX K x q st f oc od an sl kV d pm cd ct/\CdX K cd q/\KpX K f/\fX K (.ref f)=iD
variable{C:Z7}{q:Str}
theorem qdz(d:Dm K C x q st)(hb:BdX x q st ps:=by sleep 77):Zh K C x q st ps:=by obtain⟨f,oc,od,an,sl,kV,b,pm,cd,ct,a,l,c,k,i⟩:=d;exact⟨f,_,gc l c k,⟨a,i,k⟩,(gc l c k).binds hb⟩
theorem qh8(d:Dm K C "__init__" q st)(y:dP K C=iD)(z:mC K (.ref C)=iD)(hb:BdX "__init__" q st ps:=by sleep 77):qcR K C q st ps:=by obtain⟨f,oc,od,an,sl,kV,b,pm,cd,ct,a,l,c,k,i⟩:=d;exact⟨f,_,gc l c k,⟨y,a,i,z⟩,(gc l c k).binds hb⟩
set_option maxHeartbeats 0 in
theorem qh9{l:f7}{w:iL}{fa:Z7}(X:K.In h)(G:h.Ns iP mg)(hfa:mg "law"=iw (.ref fa))(hz:zB K=iD)(hb:bB K (caK K "Book") ["look","width","worths","standing","asked"]=iD)(hw:bB K (caK K "Words") ["look","came","width","held"]=iD){C:Z7}(aC:NsX K "Book" C){E:Z7}(aE:NsX K "Words" E)(q0:Dx K "is_between" xW)(q1:Dx K "check_room" xY)(q2:Dx K "is_letter" gX)(q3:Dx K "is_worth" Jd)(q4:Dx K "is_worths" gZ)(q5:Dx K "check_worths" uY)(q6:Dx K "is_word" VN)(q7:Dx K "is_words" Jf)(q8:Dx K "check_words" yQ)(q9:Dx K "is_look" VO)(q10:Dx K "check_look" zd)(q11:Dx K "letter_at" Qe)(q12:Dx K "pairs" Ui)(q13:Dx K "letters_of" zg)(q14:Dx K "within" YW)(q15:Dx K "numbered" Ji)(q16:Dm K C "__init__" "Book.__init__" vn)(y1:dP K C=iD)(y2:KpX K C)(q17:Dx K "are_alike" Qf)(q18:Dx K "clash_of" Jk)(q19:Dx K "is_loose" Jm)(q20:Dx K "bound_pairs" yT)(q21:Dx K "unshared" Jo)(q22:Dx K "contrasts_of" yc)(q23:Dx K "may_differ" zi)(q24:Dx K "with_worth" zl)(q25:Dx K "can_be_filled" jW)(q26:Dx K "can_differ" zn)(q27:Dx K "least_worths" ye)(q28:Dx K "room_from" Ql)(q29:Dx K "check_word" zq)(q30:Dm K E "check_new" "Words.check_new" kh)(q31:Dm K E "come" "Words.come" uh)(q32:Dm K E "__init__" "Words.__init__" kE)(y3:dP K E=iD)(y4:KpX K E)(q33:Dx K "_law_cell_at" Jr)(q34:Dx K "_law_mixed" YY)(q35:Dx K "_law_draw" qaV)(q36:Dx K "_law_at" qhB)(q37:Dx K "_law_seen" qaY)(q38:Dx K "_law_by" qhD)(q39:Dx K "_law_pick" qa2)(q40:Dx K "_law_word" qa4)(q41:Dx K "_law_words" Xb)(q42:Dx K "_law_look" qa7)(q43:Dx K "_law_letters" Js)(q44:Dx K "_law_made" qa9)(q45:Dx K "_law_good" qbb)(q46:Dx K "all_looks" Qr)(q47:Dx K "looks" qbd)(q48:Dx K "alike" Uz)(q49:Dx K "best_looks" ur)(q50:Dm K C "places" "Book.places" wo)(q51:Dm K E "numbers" "Words.numbers" vt)(q52:Dx K "_law_ask" qbh)(q53:Dx K "_law_flat" UC)(q54:Dx K "law" qdi) :
  ∃fd:lA,(∀(s:iF)(v:iC),mU s fd ⟨[v],[]⟩ [("_law_script",v)])/\∀base:Z5,K.In base->base.Ns iP mg->FnOk l.prog w K mg base (CXk l.prog w) 20 fa fd ["_law_script"] (qdy K):=by
 obtain⟨f,_,_,_,_,_,_,_,_,_,b,la,d,k⟩:=q54;have e:=hfa.symm.trans (mg_of X G b);cases e;have Z:=qjC X G hz hb hw;have F:=gc (st:=qdi) la d k;have eC:caK K "Book"=C:=by simp only[caK,aC]
 subst eC;have eE:caK K "Words"=E:=by simp only[caK,aE]
 subst eE;refine⟨?f,?x,λbase _ _=>?y⟩
 case y=>
  have Z:ZtE ⟨l.prog,w,K,mg,base,_⟩ _:=Z;have n:=Kc Z (ja X G q0);have V:=Ke Z (ja X G q1) n;have m:=VL Z (ja X G q2);have o_is_worth:=Ue Z (ja X G q3) n m;have o_is_worths:=VM Z (ja X G q4) o_is_worth;have L:=Qb Z (ja X G q5) o_is_worths;have N:=Zo Z (ja X G q6) m;have o_is_words:=Ug Z (ja X G q7) N;have g:=QI Z (ja X G q8) o_is_words;have o_is_look:=Zq Z (ja X G q9) n;have i:=Kg Z (ja X G q10) o_is_look;have o_letter_at:=VR Z (ja X G q11);have c:=qc2 Z (ja X G q12) g i o_letter_at;have o:=Kh Z (ja X G q13);have o_within:=qaT Z (ja X G q14);have D:=Ul Z (ja X G q15) V L c o o_within;have B:=zH Z (qh8 q16 y1 y2) D;have p:=VU Z (ja X G q17);have o_clash_of:=Uo Z (ja X G q18) p;have M:=QJ Z (ja X G q24);have o_is_loose:=Up Z (ja X G q19);have O:=QK Z (ja X G q20) o_is_loose;have o_unshared:=Uq Z (ja X G q21);have J:=Qj Z (ja X G q22) o_unshared;have T:=Kk Z (ja X G q23);have S:=Kl Z (ja X G q24);have z:=zK Z (ja X G q25) T S;have r:=Km Z (ja X G q26) o O J z;have I:=Qk Z (ja X G q27) o M r;have o_room_from:=VW Z (ja X G q28) r;have U:=Kn Z (ja X G q29) N;have j:=yY Z (qdz q30) U;have Y:=Kq Z (qdz q31) c D o_clash_of I o_room_from j;have u:=xE Z (qh8 q32 y3 y4) i;have o_Lcell_at:=Ur Z (ja X G q33);have o_Lmixed:=qaU Z (ja X G q34) o_Lcell_at;have a:=qc5 Z (ja X G q35) o_Lmixed;have o_Lat:=qhC Z (ja X G q36);have o_Lseen:=qc6 Z (ja X G q37) o_Lat;have o_Lby:=qhG Z (ja X G q38) o_Lseen;have P:=qc7 Z (ja X G q39) a;have o_Lword:=qc8 Z (ja X G q40) a P;have o_Lwords:=qa6 Z (ja X G q41) a P o_Lword;have o_Llook:=qda Z (ja X G q42) a;have o_Lletters:=Ut Z (ja X G q43) o_Lseen;have o_Lmade:=qdb Z (ja X G q44) a P o_Lwords o_Llook o_Lletters;have o_Lgood:=qdc Z (ja X G q45) o_Lby o_Lmade;have t:=Wa Z (ja X G q46);have o_looks:=qdd Z (ja X G q47) g t c r;have o_alike:=qdf Z (ja X G q48) c p;have W:=Ky Z (ja X G q49) t o_alike;have R:=QN Z (qdz q50);have A:=zM Z (qdz q51);have o_Lask:=qfv Z (ja X G q52) c o_looks o_alike W R A;have o_Lflat:=qdh Z (ja X G q53);exact(qhJ Z F B Y u a o_Lgood o_Lask o_Lflat).imp λvs H Q E q=>qjD vs H Q E q
 exact λs v=>.of_eq rfl
theorem qkx{l:f7}{q:iK}{loose:List Str}{XP:(Str->Option iC)->Z5->Prop}{YP:iL->Z5->Prop}{d:DefRec}{K:l8->Y9}(b:l.most=iw 63)(hdf:d.params.defaults=[])(Y:∀(w:iL)(h:Z5),YP w h->(K w.params).In h)(F:∀(w:iL)(mg:Str->Option iC)(fa:Z7)(h:Z5),(K w.params).In h->h.Ns iP mg->mg d.name=iw (.ref fa) ->∃fd:lA,(∀(s:iF)(u:iC),mU s fd ⟨[u],[]⟩ [("_law_script",u)])/\∀base:Z5,(K w.params).In base->base.Ns iP mg->FnOk l.prog w (K w.params) mg base (CXk l.prog w) 20 fa fd ["_law_script"] (qdy (K w.params))) :
  PySem.W.WalkO q loose XP YP l.row.toRowW d [] (λf vs=>ir f vs):=
 L2.qeD (n:=63) (k:=20) (x := "_law_script") (CX:=λw=>CXk l.prog w) (sp:=λw=>qdy (K w.params)) b (by decide) hdf ⟨rfl,by decide,by decide⟩ Y F (λ_ _ a ns hl _ S=>⟨a,ns,rfl,S,λ_=>rfl⟩) λw H s e s' z=>by obtain⟨ex,T,C,H',_,_,_,_,_,_,_,_,_,_,q⟩:=z;exact q.elim
end Kx
open PySem PySem.W PyProof.Rows
set_option maxRecDepth 100000 in
set_option maxHeartbeats 0 in
theorem PySem.Challenge.cw_lookwords_k40_whole_again_and_kept_holds : PySem.Challenge.rw_lookwords_k40_whole_again_and_kept.Holds := by
  refine Kx.hd ?_;k_fill
  refine Kx.qkx (l := PySem.Challenge.rw_lookwords_k40_whole_again_and_kept) rfl rfl (λw h Y => PySem.W.kIn_of Y) ?F
  case F =>
    intro w mg fa h X G c;apply Kx.qh9 X G c;all_goals try first|k_is|(unfold Kx.NsX;k_is)|exact⟨_, _, _, _, _, _, _, _, _, _, by unfold Kx.NsX;k_is, by unfold Kx.LkX;k_is, by unfold Kx.CdX;k_is, by unfold Kx.KpX;k_is⟩|exact⟨_, _, _, _, _, _, _, _, _, _, by k_is, by unfold Kx.LkX;k_is, by unfold Kx.CdX;k_is, by unfold Kx.KpX;k_is, by k_is⟩|(unfold Kx.KpX;k_is)|kernel_rfl
