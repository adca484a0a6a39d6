import PyProof.Rows.All
import KE.KTryMore
import KE.KDictOf
import KE.KRevSl
import KE.KRevIter
import KE.KSortTup
import KE.KItemsList
import PySem.Challenge.RW_lookwords_k06_whole_looks
open Option renaming some->iO,none->iQ
open PySem renaming wpAny_bind->iP,Value->iR,wpAny_pure->iU,Shared->iV,wpAny->iW,starEach->iX,bootBuiltins->iY,Program->iZ,World->i3,wpAny_newObj_type->i4,sizeLine_eq->i5,compareOp->i6,wpAny_call_entry->i7,wpAny_setState_of->i8,wpAny_callSpecial?_slot->i9,mainGlobals->j3,Around->j4,wpAny_seqItems->j5,wpAny_holding->j6,IsTupleKey->j7,wpAny_field->j8,wpAny_askSetting->j9,cLine->k4,SetTable->k6,rawInt->k9,wpAny_Call_Name_kw->lf,intKind->lg,wpAny_truthy_bool->lh,codeAny_builtin->li,attributeBase->lj,wpAny_isInstance->ll,sysModules->lm,backTo->lq,wpAny_setField->lr,wpAny_setField_rec->lu,Keyword->lv,wpAny_passesOwn->lx,OsState->lz,foldedSetIterable->lA,binaryOp->lB,IsPair->lC,wpAny_setEntries_of->lE,NameKind->lF,keywordEach->lG,assignEach->lH,wpAny_typeOf->lI,wpAny_pyIter_tuple->lJ,swapsWith->lK,builtinLookup_eq_fast->lL,wpAny_mono->lM,FuncData->lN,isSubtype_type->lO,firstArgMember->lP,pyNext->lR,behindInMarks->lS,plainId_quiet->lT,wpAny_attempt->lU,codeAny->lV,tupleKind_room_in1->lW,wpAny_rule->lX,treeTable->lY,sliceBounds->lZ,wpAny_of_eq->l0,pickOrder->l6,wpAny_pyIter_list->l7,wpAny_storeSet_of->l8,fits_of_scanBound->l9,Scope->mf,IsPart->mh,scanBound->mi,backToKw->ml,importedModules->mm,wpAny_execs_nil->mn,letOwnedTupleGo->mq,typeLookup_type->my,wpAny_specialOf->mz,wpAny_loadPart'->mB,codeAny_mono->mD,Params->mE,wpAny_fieldsOf->mF,setsByText->mG,IsZip->mH,wpAny_newList->mJ,wpAny_onRaise->mK,relayAll->mL,concat_meets->mO,call_meets->mP,setAddHashed->mQ,setNext->mR,wpAny_letGo->mT,DictEntry->mU,tupleKind->mV,getItem->mW,callerA->mX,valueAt->mY,seqItems?->mZ,ItemsOf->m8,pyIter->m9,typeLookup->ng,setEntries->nh,GenState->nn,BindsTo->nq
open Bool renaming false->iS,true->iT
open PyProof.Rows renaming seqObj->lc,AllBare->mC,envOfC->mI,tail_any->nr
open PySem.W renaming boot_heap->lw,behindTheImports->lQ,openGood->mj,boot_drawn->mM,topFrame->mS,kas_sort->nv
open PySem.Heap renaming get?_push_of_some->aa,get?_push_size->ak,lt_size->ax,SameBut->bx,size_push->bz,get?_update_self->bD,get?_update_other->dA,get?_push_ne->eX,ExtBut->iI
open List renaming mem_cons_of_mem->ac,mem_cons->ae,mem_append->af,length_cons->ah,mem_cons_self->ai,length_append->aj,length_map->ao,mem_map->aq,size_toArray->au,mem_singleton->aw,getElem?_eq_getElem->ay,getElem?_set_ne->aA,getElem?_eq_some_iff->aD,map_cons->aE,getElem?_map->aG,range->aH,all_eq_true->aM,mem_range->aN,nodup_cons->aP,mem_append_right->aR,getElem?_set_self->aS,append_assoc->aT,mem_of_getElem?->aV,not_mem_nil->aW,getD_eq_getElem?_getD->bf,append_nil->bg,getElem?_of_mem->bi,length_take->bj,length_nil->bn,length_range->bo,mem_filter->bv,map_map->bA,pairwise_cons->bB,getElem_mem->bE,getElem?_zip_eq_some->bI,find?_eq_none->bK,getElem?_eq_none->bM,mem_append_left->bP,mem_of_find?_eq_some->bS,filterMap_cons->bT,nodup_append->bV,map_append->bY,toArray->bZ,any_cons->b9,getElem?_append_right->ce,map_nil->cg,pairwise_map->ck,nil_append->cr,getElem?_eq_none_iff->cu,pairwise_iff_getElem->cw,length_filter_le->cx,lookup_cons->cA,nodup_nil->cG,replicate_zero->cJ,find?_cons_of_neg->cK,length_pos_of_mem->cL,take_append_drop->cO,getElem?_append_left->cP,of_mem_zip->cR,find?_cons->cS,ext_getElem?->cY,length_erase_of_mem->c9,length_reverse->dg,pairwise_singleton->dq,find?_cons_of_pos->dB,zip_cons_cons->dD,reverse_cons->dF,mem_iff_getElem->dO,zipIdx_cons->dU,map_congr_left->dZ,foldl_cons->d7,mem_filterMap->d8,getElem?_replicate->ei,take_of_length_le->eW,find?_append->eZ,length_replicate->e6,getElem?_toArray->e7,length_drop->e9,nodup_range->fh,mem_flatMap->fj,countP_cons->fm,mem_erase_of_ne->fA,length_set->fB,replicate->fH,getElem?_drop->fJ,flatMap_cons->fR,all_cons->fY,getElem_inj->fZ,map_snd_zip->f7,any_eq_true->f9,cons_append->g6,all_map->g8,forIn_cons->hZ,sum_append->ia,find?_some->ic,length->iH
open Nat renaming le_refl->ap,ne_of_lt->aC,lt_of_lt_of_le->aI,zero_le->aU,le_trans->be,lt_irrefl->bF,le_add_right->bR,lt_succ_of_lt->bU,le_of_not_lt->cz,not_lt_zero->cU,le_of_lt->cX,ne_of_gt->du,le_of_eq->dS,lt_or_eq_of_le->eh,lt_trans->eU,sub_self->eY,mod_lt->ff,le_succ->fO,lt_succ_self->f6,succ_pos->hJ,zero_add->iD
open Array renaming length_toList->aF,getElem?_toList->aK,getElem?_eq_some_iff->aX,getElem?_eq_getElem->bt,getElem?_eq_none->ci,getD->c7,replicate->ib,mk->ig
open PySem.PassesOwn renaming leaving->aJ
open Option renaming some->aL,map_eq_some_iff->aO,bind_eq_some_iff->aZ,isSome_map->fP
open Bool renaming and_eq_true->aQ,false_eq_true->bp,false_ne_true->bQ,eq_iff_iff->d6,not_eq_true'->fQ,or_eq_true->h8,or_false->ip,not_true->iw
open PySem.Value renaming ref->aY,none->cH,int->cQ,isStrOf_shape->de,bool->dI,str->dR,isInt_shape->fK,isStrOf->fW,isInt->ii,type->iB
open PySem.Heap.SameBut renaming update->bb
open PySem.SetTable renaming below->bh,grown->cF,tooFull->g0,probe->im,laid->iq,fits->iu
open PySem.Str renaming ofString->bq,length->g7
open Sum renaming inr->br,inl->fq
open PySem.Builtin.SmallTypes renaming nextOf->bu,ownedTupleIsFree->bX
open PySem.Builtin.Frozenset renaming updateFrom->bw
open PyProof.Rows renaming callWith_type1->bC,slot_tuple_getitem->db
open Classical renaming byContradiction->bG
open PySem.Builtin.Slice renaming sliceAdjust->bH,slicePlaces->dX
open Ne renaming symm->bJ
open PySem.NameKind renaming free->bL
open PySem.Builtin.List renaming listExtendWith->bN,listSameRef->c8,listTooLong->d5
open Or renaming inl->bO,inr->fg
open PySem.Builtin.Tuple renaming tupleExact->bW
open PySem.F renaming called_set->b6,slot_tuple_iterator_next->cj,plainAttrs_list->dh,plain_list_iadd->dk,slot_zip_next->dE,args_tuple_add_2->d4,entry_tuple_add->et,slot_tuple_add->eI
open PySem.Builtin.Range renaming rangeSize->b7,small->fE
open PySem.Around renaming under_plainId->b8
open PySem.W renaming hideAll->cq,kia_one->cT,fnOf->dv,kitOne->dN,excIn->fy,hideAll_none->fz,hideAll_get->fC,methodObj->fL,OpenLaw->hV
open PySem.Obj renaming mapSeq->cy,putSet->d9
open List.Perm renaming refl->cC,swap->ij
open ForInStep renaming yield->cI
open Int renaming emod_lt_of_pos->cM,emod_nonneg->cW,dvd_sub->cZ,emod_eq_of_lt->dH,dvd_add->dQ,dvd_self_sub_emod->e8,add_comm->fF,toNat_natCast->fN,mul_sub->fS,dvd_neg->fU,lt_trans->g9,sub_self->iE,le_refl->iK,mul_add->iL
open PySem.W.KasT renaming kasWp_bind->cV,kasWp->fI
open True renaming intro->c6
open PySem renaming mem_of_lookup->df,call->iM
open PySem.Calls renaming callWith_builtin->dw,evalArgs_plain->dL,call_function_entry->dY,spliced_cons->fG,spliced_nil->fM
open PySem.Builtin.Str renaming strSliceIndices->dG
open False renaming elim->dJ
open Eq renaming trans->dP
open PyProof.Rows.F renaming plain_set_update_loop->eG
open List.Pairwise renaming nil->eJ
open List.Sublist renaming refl->fV
open PySem.Paired renaming length->fX
open PySem.Shared renaming TypeIs->ir,heap->iJ
open PySem.Txt renaming partition->iA
open Prod renaming ext->iC
open PyProof.Rows.IsTup renaming new->iF
open PySem.IsRange renaming new->iG
open PySem.Walks renaming list->iN
set_option tactic.hygienic false
theorem Aa{c:Prop}{h:Decidable c}(k:c){a:Sort _}{t e:a}:ite c t e=t:=if_pos k
theorem Ab{c:Prop}{h:Decidable c}(k:¬c){a:Sort _}{t e:a}:ite c t e=e:=if_neg k
theorem Ac{p:Prop}[h:Decidable p](k:¬p):decide p=false:=decide_eq_false k
theorem Ad{p:Prop}[h:Decidable p](k:p):decide p=true:=decide_eq_true k
theorem Ae{p:Prop}[h:Decidable p](k:decide p=true):p:=of_decide_eq_true k
noncomputable section
open PySem.W (Frag nsIn keepIn codeIn mg_of mg_none_of)
set_option compiler.extract_closed false
set_option bootstrap.genMatcherCode false
set_option genSizeOf false
set_option Elab.async false
set_option linter.all false
set_option maxRecDepth 100000
namespace Kx
noncomputable section
open PySem PySem.W PySem.Calls PyProof.Rows
noncomputable def zP:Pos:=⟨0,0,0,0⟩
noncomputable def anV:Option iR:=iO (.ref 6)
noncomputable def hA(P:mE):List Obj:=(lw P).objs.toList++[⟨.type "tuple",iQ,.seq #[] 0,#[]⟩,⟨.none,iQ,.fields #[],#[]⟩,
 ⟨.type "code",iQ,.fields #[.str "<module>" 182,.str "<module>" 183,.str "/claim/cut.py" 184,.int 1 0,.int 0 0,.int 0 0,.int 0 0,.int 0 0,.ref 11,.bool iS,.int 181 0,.ref 12,.none,.none,.none,.none,.int 185 0,.int 1 0,.str "/claim/cut.py" 186],#[]⟩,
 ⟨.type "frame",iQ,.plain,#[iO (.ref 13),iO (.ref 3),iO (.ref 3),iQ,iO (.str "__main__" 164),iQ,iO (.ref 0)]⟩]
noncomputable def enP(p:iZ):Env:={ scope:=p.main.scope,locals:=mainNs,globals:=mainNs,cells:=[],code:=.ref 13,frame:=iO 14 }
def cdP(p:iZ):Code:=.body (lQ p) (enP p)
noncomputable def trA:List Obj->Nat->BT->BT
 |[],_,t=>t
 |o::l,i,t=>trA l (i+1) (t.ins i o)
def SA(w:i3)(os:lz):SharedT:=⟨trA (hA w.params) 0 .nil,15,(lw w.params).life,ig [],mM,187,os⟩
noncomputable def kH(P:mE)(s:Str)(t:Nat)(v:iR):mU:=⟨PyData.keyHash P s,.str s t,v⟩
noncomputable def eM:iR:=.str "lookwords.errors" 187
noncomputable def eT(a:List iR):Obj:=⟨.type "tuple",iQ,.seq ⟨a⟩ 0,#[]⟩
noncomputable def eF(c:iR)(a:List iR):Obj:=⟨c,iQ,.fields ⟨a⟩,#[]⟩
noncomputable def eB:iR:=.type "builtin_function_or_method"
noncomputable def eD(a:List mU)(n:Nat):Obj:=⟨.type "dict",iQ,.dict ⟨a⟩ n,#[]⟩
def eA(P:mE)(s:Str)(b:iR)(n t l:Nat):List Obj:=[eT [b],eF eB [.builtin "type.__prepare__",.type "type"],
 eD [kH P "__module__" (t+7) eM,kH P "__qualname__" (t+9) (.str s (t+8)),kH P "__firstlineno__" (t+11) (.int l (t+10)),kH P "__static_attributes__" (t+12) (.ref (n+7))] 4,
 eT [],eF .none [],eF (.type "code") [.str s (t+2),.str s (t+3),.str "/claim/cut.py" (t+4),.int l 0,.int 0 0,.int 0 0,.int 0 0,.int 0 0,.ref (n+3),.bool iS,.int 181 0,.ref (n+4),.none,.none,.none,.none,.int ((t+5:Nat):Int) 0,.int l 0,.str "/claim/cut.py" (t+6)],
 ⟨.type "frame",iQ,.plain,#[iO (.ref (n+5)),iO (.ref 3),iO (.ref (n+2)),iQ,iO eM,iQ,iO (.ref 0)]⟩,eT []]
noncomputable def eC(s:Str)(b:iR)(n t:Nat)(m sub:List iR):Obj:=⟨.type "type",iQ,.cls { name:=s,bases:=[b],mro:=.ref (n+9)::m,ns:=n+8,qualname:=s,subclasses:=sub },#[iO (.ref n),iQ,iO (.str s t),iO (.str s (t+8)),iO (.builtin "ValueError.__new__"),iO (.bool iT)]⟩
def eS(a:Nat):List Obj:=[eF (.type "super") [.ref a,.ref a,.ref a],eF eB [.builtin "object.__init_subclass__",.ref a]]
def eK(P:mE)(t l:Nat)(n:Nat):List mU:=[kH P "__module__" (t+7) eM,kH P "__firstlineno__" (t+11) (.int l (t+10)),kH P "__static_attributes__" (t+12) (.ref (n+7))]
noncomputable def eV:List iR:=[.type "ValueError",.type "Exception",.type "BaseException",.type "object"]
def eL(P:mE):List Str->Nat->Nat->Nat->List Obj
 |[],_,_,_=>[]
 |s::r,n,t,l=>eA P s (.ref 24) n t l++eD (eK P t l n++[kH P "__doc__" (t+13) .none]) 2::eC s (.ref 24) n t (.ref 24::eV) []::eS (n+9)++eL P r (n+12) (t+16) (l+2)
def eE(P:mE):List Str->Nat->Nat->List mU
 |[],_,_=>[]
 |s::r,n,t=>kH P s (t+15) (.ref (n+9))::eE P r (n+12) (t+16)
noncomputable def eR:Nat->Nat->List iR
 | 0,_=>[]
 |k+1,n=>.ref n::eR k (n+12)
noncomputable def eQ:Nat->Nat->Nat->List iR
 | 0,_,_=>[]
 |k+1,n,l=>.int l 0::.int 0 0::.ref n::eQ k (n+12) (l+2)
def eO(P:mE)(L:List Str):Obj:=match (boot_o_3 P).data with
 |.dict a _=>eD (kH P "__name__" 165 eM::a.toList.drop 1++kH P "WordError" 206 (.ref 24)::eE P L 28 207) (L.length+10)
 |_=>eT []
def hC(P:mE)(L:List Str):List Obj:=(hA P).take 3++eO P L::((hA P).drop 4).take 8++eF .none (.int 2 0::.int 0 0::.ref 20::eQ L.length 33 4)::(hA P).drop 13 ++
 eA P "WordError" (.type "ValueError") 15 189 2++eD (eK P 189 2 15++[kH P "__weakref__" 203 (.ref 25),kH P "__doc__" 204 .none]) 3::eC "WordError" (.type "ValueError") 15 189 eV (eR L.length 37) ::
 eF (.type "getset_descriptor") [.str "__weakref__" 202,.ref 24,.builtin "ExceptionGroup.__weakref__",.none]::eS 24++eL P L 28 207 4
def SC(L:List Str)(w:i3)(os:lz):SharedT:=⟨trA (hC w.params L) 0 .nil,12 * L.length+28,(lw w.params).life,ig [],mM,16 * L.length+207,os⟩
noncomputable def zC(L:List Str):Pos:=⟨2 * L.length+2,0,2 * L.length+3,8⟩
def ZG(L:List Str)(p:iZ)(w:i3)(M:Nat)(os:lz):Option (Flow×Code×iV):=
 (segRunT lY p w 11 anV 1 M (SC L w os) (piecesOf ((lQ p).drop (L.length+2)) (enP p) (cdP p) (zC L) [mS zP])).bind λr=>
  (topRun lY p w 11 anV 5 r.2.1.abs (restOf [] (enP p) (cdP p) r.2.2.2 [mS zP])).map λs=>(r.1,r.2.2.1,s)
abbrev qeC(p:iZ)(w:i3)(x:Flow×Code×iV):=
 (x.1,x.2.1,(staticsOk (mm p.main.body) (lw w.params) x.2.2.heap&&namesBound p x.2.2.heap&&gensDone x.2.2&&laidKept (lw w.params) x.2.2.heap))
abbrev Km(p q:iZ)(loose:List Str)(Xt:iV->Bool)(x:Flow×Code×iV):=openSeen q loose (mm p.main.body) Xt iT x.2.2
set_option tactic.hygienic true in
theorem left_T{L:List Str}{p q:iZ}{loose:List Str}{Xt:iV->Bool}{α:Type}{Yf:iV->α}{Ya:i3->α}{N M:Nat}(e:opening p=plainProg p.main.scope.names)(hN:Nat.ble 600 N=iT)(f:∀s,fenceModules? p s=iO s)(size:∀w:i3,((lw w.params).isNs j3&&(ig []:Array nn).size == 0,(lw w.params).objs.size,(lw w.params).nsMap j3 "__annotations__")=(iT,11,anV))(pre:∀(w:i3)(os:lz),topGo lY p w 11 anV 12 ⟨lw w.params,ig [],mM,boot_toks,os⟩ (topStub p)=iO ((SA w os).abs,⟨denote lY (cdP p),cdP p,zP,[mS zP]⟩))(blk:∀(w:i3)(os:lz),segRun lY p w 11 anV 1 1 (SA w os).abs (blockOf (lQ p) (enP p) (cdP p) zP [mS zP])=iO (.next,(SA w os).abs,cdP p,zP))(le:Nat.ble (12+(1+(3500+(M+5)))) N=iT)(m6:∀(w:i3)(os:lz),segRunT lY p w 11 anV 1 3500 (SA w os) (piecesOf ((lQ p).take (L.length+2)) (enP p) (cdP p) zP [mS zP])=iO (.next,SC L w os,cdP p,zC L))(m0:∀(w:i3)(os:lz),(ZG L p w M os).map (qeC p w)=iO (.next,cdP p,iT))(m1:∀(w:i3)(os:lz),(ZG L p w M os).map (λx=>(Km p q loose Xt x).1)=iO (mj q loose).1)(m3:∀(w:i3)(os:lz),(ZG L p w M os).map (λx=>(Km p q loose Xt x).2.1)=iO (mj q loose).2.1)(m4:∀(w:i3)(os:lz),(ZG L p w M os).map (λx=>(Km p q loose Xt x).2.2.1)=iO (mj q loose).2.2.1)(m5:∀(w:i3)(os:lz),(ZG L p w M os).map (λx=>(Km p q loose Xt x).2.2.2)=iO (mj q loose).2.2.2)(m2:∀(w:i3)(os:lz),(ZG L p w M os).map (λx=>Yf x.2.2)=iO (Ya w)):LeftO p q loose Xt Yf Ya N:=λw=>by
 obtain⟨⟨h,gs,d,k,os⟩,a,a'⟩:=aO.mp (boot_open e hN f w)
 obtain⟨rfl,rfl,rfl,rfl⟩:h=lw w.params/\gs=ig []/\d=mM/\k=boot_toks:=by simpa using a'
 obtain⟨x,hx,hl⟩:=aO.mp (m0 w os)
 have l2:openSeen q loose (mm p.main.body) Xt iT x.2.2=mj q loose:=by
  have a1:=m1 w os
  have a3:=m3 w os
  have a4:=m4 w os
  have a5:=m5 w os
  rw[hx]at a1 a3 a4 a5
  exact iC (aL.inj a1) (iC (aL.inj a3) (iC (aL.inj a4) (aL.inj a5)))
 obtain⟨y,hy,hY⟩:=aO.mp (m2 w os)
 obtain rfl:y=x:=aL.inj (hy.symm.trans hx)
 obtain⟨r,hr,hz⟩:=aZ.mp hx
 obtain⟨s,hs,rfl⟩:=aO.mp hz
 obtain⟨fl,st,co,po⟩:=r
 unfold qeC at hl
 simp only[Prod.mk.injEq]at hl
 obtain⟨rfl,rfl,l1⟩:=hl
 have t1:=piece_app (rest:=[]) (segRun_of hr) hs
 rw[bg]at t1
 have t1:=piece_app (segRun_of (m6 w os)) t1
 rw[cO]at t1
 have t2:=piece_block (blk w os) t1
 have t3:=topRun_mono (N - (12+(1+(3500+(M+5))))) _ _ _ _ (go_top (pre w os) t2)
 rw[show 12+(1+(3500+(M+5)))+(N - (12+(1+(3500+(M+5)))))=N by have:=Nat.le_of_ble_eq_true le;omega]at t3
 obtain⟨z1,z2,z3⟩:_/\_/\_:=by simpa only[Prod.mk.injEq]using size w
 have t:topFrom lY p w N ⟨lw w.params,ig [],mM,boot_toks,os⟩=iO s:=by
  unfold topFrom
  dsimp only
  rw[z1,z2,z3,t3]
  show(match staticsOk (mm p.main.body) (lw w.params) s.heap&&namesBound p s.heap&&gensDone s&&laidKept (lw w.params) s.heap with|true=>_|false=>_)=_
  rw[l1]
 unfold openEnds
 rw[a]
 show(topFrom lY p w N _).map _=_
 rw[t]
 exact congrArg iO (iC l2 hY)
end
end Kx
noncomputable section
open PySem PySem.W PyProof.Rows
noncomputable def Kx.vq:iZ:=view PySem.Challenge.pw_lookwords_k06_whole_looks [1,2,3,4,5,7,8,9,10,11,12,13,14,15,16,17,18,19,20,21,23,24,25,26,28,29,30,31,32,33,34,35,36,37,38,40,41,42,43,44,45,46,47,48,49,50,51,53,54,55,56,57,58,59,60,61,62,63,64,65,66]
noncomputable def Kx.eN:List Str:=["NoWords","NoLook","NoNumbers","NoRoom"]
def Kx.xt(s:iV):Bool:=xlAt Kx.vq [] s&&recOk (RowW.records (OpenRow.toRowW (OpenLaw.row PySem.Challenge.rw_lookwords_k06_whole_looks))) s
set_option tactic.hygienic true in
theorem Kx.m6:∀(w:i3)(os:lz),segRunT lY PySem.Challenge.pw_lookwords_k06_whole_looks w 11 Kx.anV 1 3500 (Kx.SA w os) (piecesOf ((lQ PySem.Challenge.pw_lookwords_k06_whole_looks).take (Kx.eN.length+2)) (Kx.enP PySem.Challenge.pw_lookwords_k06_whole_looks) (Kx.cdP PySem.Challenge.pw_lookwords_k06_whole_looks) Kx.zP [mS Kx.zP])=iO (.next,Kx.SC Kx.eN w os,Kx.cdP PySem.Challenge.pw_lookwords_k06_whole_looks,Kx.zC Kx.eN):=by intro w os;kernel_rfl
set_option tactic.hygienic true in
theorem Kx.m0:∀(w:i3)(os:lz),(Kx.ZG Kx.eN PySem.Challenge.pw_lookwords_k06_whole_looks w 15000 os).map (Kx.qeC PySem.Challenge.pw_lookwords_k06_whole_looks w)=iO (.next,Kx.cdP PySem.Challenge.pw_lookwords_k06_whole_looks,iT):=by intro w os;kernel_rfl
theorem Kx.m1:∀(w:i3)(os:lz),(Kx.ZG Kx.eN PySem.Challenge.pw_lookwords_k06_whole_looks w 15000 os).map (λx=>(Kx.Km PySem.Challenge.pw_lookwords_k06_whole_looks Kx.vq [] Kx.xt x).1)=iO (mj Kx.vq []).1:=by intro w os;kernel_rfl
theorem Kx.m3:∀(w:i3)(os:lz),(Kx.ZG Kx.eN PySem.Challenge.pw_lookwords_k06_whole_looks w 15000 os).map (λx=>(Kx.Km PySem.Challenge.pw_lookwords_k06_whole_looks Kx.vq [] Kx.xt x).2.1)=iO (mj Kx.vq []).2.1:=by intro w os;kernel_rfl
theorem Kx.m4:∀(w:i3)(os:lz),(Kx.ZG Kx.eN PySem.Challenge.pw_lookwords_k06_whole_looks w 15000 os).map (λx=>(Kx.Km PySem.Challenge.pw_lookwords_k06_whole_looks Kx.vq [] Kx.xt x).2.2.1)=iO (mj Kx.vq []).2.2.1:=by intro w os;kernel_rfl
theorem Kx.m5:∀(w:i3)(os:lz),(Kx.ZG Kx.eN PySem.Challenge.pw_lookwords_k06_whole_looks w 15000 os).map (λx=>(Kx.Km PySem.Challenge.pw_lookwords_k06_whole_looks Kx.vq [] Kx.xt x).2.2.2)=iO (mj Kx.vq []).2.2.2:=by intro w os;kernel_rfl
local macro_rules | `(tactic|o_head $H) => `(tactic|(refine holds_open (q := Kx.vq) (loose := []) (Xt := Kx.xt) (XP := XL Kx.vq []) (Yf := Hook.obs $H) (Ya := Hook.val $H) (YP := Hook.says $H) (N := 20000) ?hl (Hook.of $H) (Hook.keeps $H) (fun s e => xl_of s (Bool.and_eq_true_iff.mp e).1) XL.keeps (by rfl) (by rfl) (by rfl) (fun s e => recFacts_of (Bool.and_eq_true_iff.mp e).2) (by rfl) (by first|assumption|decide +kernel) (by decide +kernel) ⟨rfl, rfl, rfl, rfl, rfl, by decide +kernel⟩ ?hw ?hc;(case hl => refine Kx.left_T (p := PySem.Challenge.pw_lookwords_k06_whole_looks) (M := 15000) ?e rfl ?f ?s ?p ?b rfl Kx.m6 Kx.m0 Kx.m1 Kx.m3 Kx.m4 Kx.m5 ?m;(case e => kernel_rfl);(case f => intro s;kernel_rfl);(case s => intro w;kernel_rfl);(case p => intro w os;kernel_rfl);(case b => intro w os;kernel_rfl);(case m => intro w os;kernel_rfl))))
set_option maxHeartbeats 0 in
open_top Kx.hd for PySem.Challenge.rw_lookwords_k06_whole_looks
end
open PySem renaming sizeLine->Z8,Addr->Z7,model->Z6,Heap->Z5,Expr->Z4,Stmt->Z3,eval->Y9
open PySem.W renaming Frag->Y8
namespace L2
open PySem PySem.Spec PyProof.Rows
abbrev Key:=Sum Int Str
noncomputable def WA:Key->iR->Bool
 |.inl k,v=>ii k v
 |.inr x,v=>fW x v
noncomputable def qlx(w:i3):Key->Int
 |.inl k=>hashInt k
 |.inr x=>hashStr w x
theorem jk:∀{k:Key}{v:iR},WA k v=iT->(∃i t,k=fq i/\v=cQ i t)\/(∃x t,k=br x/\v=dR x t)
 |.inl i,v,h=>by obtain⟨t,e⟩:=fK (k:=i) (v:=v) h;exact .inl ⟨i,t,rfl,e⟩
 |.inr x,v,h=>by obtain⟨t,e⟩:=de (x:=x) (v:=v) h;exact .inr ⟨x,t,rfl,e⟩
theorem ZH(i:Int)(t:Tok):WA (.inl i) (.int i t)=true:=by simp[WA,ii]
theorem ZI(x:Str)(t:Tok):WA (.inr x) (.str x t)=true:=by simp[WA,fW]
theorem qgS(a b:Int):decide ((fq a:Key)=fq b)=(a == b):=by
 by_cases e:a=b;·subst e;simp
 .have h:¬(fq a:Key)=fq b:=λq=>e (fq.inj q);rw[Ac h];exact(beq_eq_false_iff_ne.mpr e).symm
theorem qgT(a b:Str):decide ((br a:Key)=br b)=decide (a=b):=by
 by_cases e:a=b;·subst e;simp
 .have h:¬(br a:Key)=br b:=λq=>e (br.inj q);rw[Ac h,Ac e]
theorem qgU(a:Int)(b:Str):decide ((fq a:Key)=br b)=false:=Ac (λq=>nomatch q)
theorem qgV(a:Str)(b:Int):decide ((br a:Key)=fq b)=false:=Ac (λq=>nomatch q)
def jp(prog:iZ)(w:i3):PySem.KeyKind prog w Key where
 is:=WA
 hash:=qlx w
 inj:=λv a b g d=>by
  rcases jk g with⟨i,t,rfl,rfl⟩|⟨x,t,rfl,rfl⟩
  .rcases jk d with⟨j,u,rfl,e⟩|⟨y,u,rfl,e⟩
   .injection e with e1 _;rw[e1]
   .exact nomatch e
  .rcases jk d with⟨j,u,rfl,e⟩|⟨y,u,rfl,e⟩
   .exact nomatch e
   .injection e with e1 _;rw[e1]
 byValue:=λk v h=>by rcases jk h with⟨i,t,rfl,rfl⟩|⟨x,t,rfl,rfl⟩ <;> rfl
 pyHash:=λc h=>by
  rcases jk c with⟨i,t,rfl,rfl⟩|⟨x,t,rfl,rfl⟩
  .exact wpAny_pyHash_int h
  .exact wpAny_pyHash_str h
 eqBool:=λf c h=>by
  rcases jk f with⟨i,t,rfl,rfl⟩|⟨x,t,rfl,rfl⟩
  .rcases jk c with⟨j,u,rfl,rfl⟩|⟨y,u,rfl,rfl⟩
   .rw[qgS]at h;exact wpAny_eqBool_int h
   .rw[qgU]at h;exact SeqAt.EqAt.int_str i t y u _ _ _ _ h
  .rcases jk c with⟨j,u,rfl,rfl⟩|⟨y,u,rfl,rfl⟩
   .rw[qgV]at h;exact SeqAt.EqAt.str_int x t j u _ _ _ _ h
   .rw[qgT]at h;exact wpAny_eqBool_str h
 «strs»:=λk x t v h=>by
  rcases jk h with⟨i,u,rfl,e⟩|⟨y,u,rfl,e⟩
  .exact nomatch e
  .injection e with e1 _;subst e1;cases v <;> rfl
theorem WB(prog:iZ)(w:i3)(i:Int)(t:Tok):(jp prog w).is (.inl i) (.int i t)=true:=ZH i t
theorem WC(prog:iZ)(w:i3)(x:Str)(t:Tok):(jp prog w).is (.inr x) (.str x t)=true:=ZI x t
inductive V where
 |non|bl (b:Bool)|int (i:Int)|str (x:Str)|byt (b:Array UInt8)|flt (b:UInt64)|ref (a:Z7)|ty (n:String)
 deriving DecidableEq
def RelV:V->iR->Prop
 |.non,u=>u=cH
 |.bl b,u=>u=dI b
 |.int i,u=>∃t,u=cQ i t
 |.str x,u=>∃t,u=dR x t
 |.byt b,u=>∃t,u=Value.bytes b t
 |.flt b,u=>∃t,u=Value.float b t
 |.ref a,u=>u=aY a
 |.ty n,u=>u=iB n
abbrev Vals:List V->List iR->Prop:=Paired RelV
variable{xs:List V}{us:List iR}
theorem Vals.length(r:Vals xs us):xs.length=us.length:=fX r
theorem Vals.get:∀{xs:List V}{us:List iR}{i:Nat}{x:V},Vals xs us->xs[i]?=iO x->∃u,us[i]?=iO u/\RelV x u
 |_,_,_,_,.nil,e=>by simp at e
 |_,_,0,_,.cons r _,e=>by simp at e;subst e;exact⟨_,rfl,r⟩
 |_,_,i+1,x,.cons _ t,e=>by obtain⟨u,h1,h2⟩:=Vals.get (i:=i) (x:=x) t (by simpa using e);exact⟨u,by simpa using h1,h2⟩
variable{u:iR}
theorem Vals.set{x:V}(r:RelV x u):∀{xs:List V}{us:List iR}(i:Nat),Vals xs us->Vals (xs.set i x) (us.set i u)
 |_,_,_,.nil=>.nil
 |_,_,0,.cons _ t=>.cons r t
 |_,_,i+1,.cons q t=>.cons q (Vals.set r i t)
theorem Vals.append:∀{xs ys:List V}{us ws:List iR},Vals xs us->Vals ys ws->Vals (xs++ys) (us++ws)
 |_,_,_,_,.nil,s=>s
 |_,_,_,_,.cons r t,s=>.cons r (Vals.append t s)
theorem Vals.take:∀{xs:List V}{us:List iR}(n:Nat),Vals xs us->Vals (xs.take n) (us.take n)
 |_,_,0,_=>.nil
 |_,_,_+1,.nil=>.nil
 |_,_,n+1,.cons r t=>.cons r (Vals.take n t)
theorem Vals.drop:∀{xs:List V}{us:List iR}(n:Nat),Vals xs us->Vals (xs.drop n) (us.drop n)
 |_,_,0,r=>r
 |_,_,_+1,.nil=>.nil
 |_,_,n+1,.cons _ t=>Vals.drop n t
theorem Vals.none_of:∀{xs:List V}{us:List iR}{i:Nat},Vals xs us->xs[i]?=iQ->us[i]?=none:=λ{xs us i} r e=>by have h1:=r.length;have h2:xs.length<=i:=cu.mp e;exact cu.mpr (by lia)
def RelO:Option V->Option iR->Prop
 |some v,iO u=>RelV v u
 |none,iQ=>True
 |_,_=>False
def KV{κ:Type}:List (κ×V)->List (κ×iR)->Prop:=Paired λ(p:κ×V)(q:κ×iR)=>p.1=q.1/\RelV p.2 q.2
noncomputable def kV:Key->V
 |.inl i=>.int i
 |.inr x=>.str x
inductive HO where
 /-- a list -/
 |lst (xs:List V)
 /-- a tuple (never changes) -/
 |tup (xs:List V)
 /-- a dict whose keys are ints and texts;one whose keys are tuples of ints and texts (the empty one is both) -/
 |dK (kvs:List (Key×V))|dT (kvs:List (List Key×V))
 /-- a set of ints: its members,its size -/
 |set (S:Int->Bool) (n:Nat)
 /-- an instance of the class at C,its dict at dx,its attributes -/
 |ins (C dx:Z7) (fs:List (Str×V))
 /-- the dict of the instance at x -/
 |own (x:Z7)
 /-- the dict of an exception -/
 |xd (fs:List (Str×V))
 /-- a bound method,f of x -/
 |met (f x:Z7)
 /-- a range object lo,lo+1,.. below hi -/
 |rng (lo hi:Int)
 /-- a thing that is known to the object (the script;a dict while a loop walks it): read,never written while it is so -/
 |frz (o:Obj) (u:HO)
 /-- a code object's table -/
 |tbl (ps:Array iR)
 /-- any other thing,by what is iT of its one object (a def of one's own: SetO a S n:=HO.ext λh=>..) -/
 |ext (φ:Z5->Prop)
abbrev Hp:=Z7->Option HO
noncomputable def upd(H:Hp)(a:Z7)(o:HO):Hp:=λb=>if b=a then iO o else H b
variable{H:Hp}{a:Z7}{o:HO}
theorem qh:upd H a o a=iO o:=by unfold upd;rw[Aa rfl]
variable{b:Z7}
theorem qB(h:b≠a):upd H a o b=H b:=by unfold upd;rw[Ab h]
theorem qjP{u:HO}(h:H a=iO o)(h':H b=iO u)(d:o≠u):a≠b:=by intro e;subst e;rw[h]at h';exact d (aL.inj h')
theorem qJ(h:H a=iO o)(h':H b=iQ):a≠b:=by intro e;subst e;rw[h]at h';cases h'
section
variable(P:iZ)(w:i3)
def ObjOk(H:Hp)(h:Z5)(a:Z7):HO->Prop
 |.lst xs=>xs.length<=Z8/\∃(its:List iR)(n:Nat),Vals xs its/\h.get? a=iO { cls:=.type "list",data:=.seq its.toArray n }
 |.tup xs=>(xs.length<=Z8/\∃o,h.get? a=iO o/\o.dict=iQ)/\∃its:List iR,Vals xs its/\IsTup h a its.toArray
 |.dK kvs=>kvs.length<=Z8/\(a == lm)=iS/\∃vs,KV kvs vs/\h.DictOf (jp P w) a vs
 | .dT kvs=>kvs.length<=Z8/\(a == lm)=iS/\∃xs:List (List Key×Z7×iR),Paired (λ(p:List Key×V)(q:List Key×Z7×iR)=>p.1=q.1/\H q.2.1=iO (.tup (p.1.map kV))/\RelV p.2 q.2.2) kvs xs /\
   ∃o es ep,h.get? a=iO o/\o.ExactDict/\o.data=.dict es ep/\es.toList=xs.map (entryOfKey (mV (jp P w)))/\(xs.map (·.1)).Nodup
 |.set S n=>h.SetOf (lg P w) a S n
 | .ins C dx fs=>H dx=iO (.own a)/\fs.length<=1000/\dx≠a/\h.get? a=iO (PySem.W.instObj C dx) /\
   ∃m,h.Ns1 dx m/\(∀f,RelO (fs.lookup f) (m f))/\PySem.Within m (fs.map (·.1))
 |.own _=>∃o,h.get? a=iO o
 |.xd fs=>∃m,h.Ns1 a m/\∀f,RelO (fs.lookup f) (m f)
 |.rng lo hi=>∃t u v,h.get? a=iO { cls:=.type "range",data:=.fields #[.int lo t,.int hi u,.int 1 v] }
 |.frz o u=>h.get? a=iO o/\ObjOk H h a u
 |.tbl ps=>h.get? a=iO { cls:=.none,data:=.fields ps }
 |.met f x=>h.get? a=iO (fL (.ref f) (.ref x))
 |.ext φ=>φ h/\(∃o,h.get? a=iO o)/\∀h1 h2:Z5,φ h1->(∀o,h1.get? a=iO o->h2.get? a=iO o)->φ h2
def HOk(H:Hp)(h:Z5):Prop:=∀a o,H a=iO o->ObjOk P w H h a o
end
variable{P:iZ}{w:i3}{H':Hp}{h h':Z5}{α:Type}
section
theorem ObjOk.lt(x:ObjOk P w H h a o):a<h.objs.size:=by
 cases o with
 |lst xs=>obtain⟨_,_,_,_,e⟩:=x;exact ax e
 |tup xs=>obtain⟨_,_,_,p⟩:=x;exact p.lt
 |dK kvs=>obtain⟨_,_,_,_,o,_,_,e,_⟩:=x;exact ax e
 |dT kvs=>obtain⟨_,_,_,_,o,_,_,e,_⟩:=x;exact ax e
 |set S n=>obtain⟨o,_,_,_,e,_⟩:=x;exact ax e
 |ins C dx fs=>obtain⟨_,_,_,e,_⟩:=x;exact ax e
 |own y=>obtain⟨_,e⟩:=x;exact ax e
 |xd fs=>obtain⟨_,⟨_,_,_,e,_⟩,_⟩:=x;exact ax e
 |rng lo hi=>obtain⟨_,_,_,e⟩:=x;exact ax e
 |frz b u=>obtain⟨e,_⟩:=x;exact ax e
 |tbl ps=>exact ax (show h.get? a=iO _ from x)
 |met f y=>exact ax (show h.get? a=iO _ from x)
 |ext φ=>obtain⟨_,⟨_,e⟩,_⟩:=x;exact ax e
theorem Paired.mapP{β:Type}{F G:α->β->Prop}:∀{c:List α}{l:List β},Paired F c l->(∀a b,F a b->G a b)->Paired G c l
 |_,_,.nil,_=>.nil
 |_,_,.cons r t,f=>.cons (f _ _ r) (Paired.mapP t f)
theorem ObjOk.stay(x:ObjOk P w H h a o)(k:∀b u,(b=a\/H b=iO (.own a))->h.get? b=iO u->h'.get? b=iO u)(l:∀b,H b=iO (.own a)->H' b=iO (.own a))(ht:∀b xs,H b=iO (.tup xs)->H' b=iO (.tup xs)):ObjOk P w H' h' a o:=by
 induction o with
 |lst xs=>obtain⟨z,its,n,r,e⟩:=x;exact⟨z,its,n,r,k _ _ (.inl rfl) e⟩
 |tup xs=>obtain⟨⟨z,o2,i,d2⟩,its,r,g,e,c⟩:=x;exact⟨⟨z,o2,k _ _ (.inl rfl) i,d2⟩,its,r,g,k _ _ (.inl rfl) e,c⟩
 |dK kvs=>obtain⟨z,y,vs,r,g,es,ep,e,c⟩:=x;exact⟨z,y,vs,r,g,es,ep,k _ _ (.inl rfl) e,c⟩
 |dT kvs=>obtain⟨z,y,xs,r,g,es,ep,e,c⟩:=x;exact⟨z,y,xs,Paired.mapP r λp q z=>⟨z.1,ht _ _ z.2.1,z.2.2⟩,g,es,ep,k _ _ (.inl rfl) e,c⟩
 |set S n=>obtain⟨g,es,ep,t,e,c⟩:=x;exact⟨g,es,ep,t,k _ _ (.inl rfl) e,c⟩
 |ins C dx fs=>obtain⟨d,z,ne,e,m,⟨od,es,ep,i,c⟩,r⟩:=x;exact⟨l _ d,z,ne,k _ _ (.inl rfl) e,m,⟨od,es,ep,k _ _ (.inr d) i,c⟩,r⟩
 |own y=>obtain⟨g,e⟩:=x;exact⟨g,k _ _ (.inl rfl) e⟩
 |xd fs=>obtain⟨m,⟨od,es,ep,e,c⟩,r⟩:=x;exact⟨m,⟨od,es,ep,k _ _ (.inl rfl) e,c⟩,r⟩
 |rng lo hi=>obtain⟨t,u,v,e⟩:=x;exact⟨t,u,v,k _ _ (.inl rfl) e⟩
 |frz g u j=>obtain⟨e,q⟩:=x;exact⟨k _ _ (.inl rfl) e,j q⟩
 |tbl ps=>have e:h.get? a=iO { cls:=.none,data:=.fields ps }:=x;show h'.get? a=iO { cls:=.none,data:=.fields ps };exact k a _ (.inl rfl) e
 |met f y=>have e:h.get? a=iO (fL (.ref f) (.ref y)):=x;show h'.get? a=iO (fL (.ref f) (.ref y));exact k a _ (.inl rfl) e
 |ext φ=>obtain⟨p,⟨o,e⟩,st⟩:=x;exact⟨st _ _ p λo q=>k _ _ (.inl rfl) q,⟨o,k _ _ (.inl rfl) e⟩,st⟩
theorem HOk.lt(x:HOk P w H h)(e:H a=iO o):a<h.objs.size:=(x a o e).lt
theorem HOk.fresh(x:HOk P w H h)(e:h.objs.size<=a):H a=none:=by
 cases q:H a with
 |none=>rfl
 |some u=>exact absurd (aI (x.lt q) e) (bF _)
theorem HOk.kept(x:HOk P w H h)(k:∀b u,h.get? b=iO u->h'.get? b=iO u):HOk P w H h':=λa o e=>
 (x a o e).stay (λb u _ q=>k b u q) (λ_ q=>q) λ_ _ q=>q
theorem HOk.laid(x:HOk P w H h)(k:∀b u,h.get? b=iO u->h'.get? b=iO u)(hp:h.objs.size<=a)(new:ObjOk P w (upd H a o) h' a o):HOk P w (upd H a o) h':=λb u e=>by
 have hn:=x.fresh hp;by_cases d:b=a;·subst d;rw[qh]at e;cases e;exact new
 .rw[qB d]at e;exact(x b u e).stay (λc v _ q=>k c v q) (λc q=>by rw[qB (qJ q hn)];exact q) λc xs q=>by rw[qB (qJ q hn)];exact q
end
def Rd(H:Hp)(a:Z7)(u:HO):Prop:=H a=iO u\/∃o,H a=iO (.frz o u)
theorem Rd.ok{u:HO}(r:Rd H a u)(x:HOk P w H h):ObjOk P w H h a u:=by
 rcases r with r|⟨o,r⟩
 .exact x a u r
 .obtain⟨_,q⟩:=x a _ r;exact q
def Mut:Option HO->Prop
 |some (.lst _)=>True
 |some (.dK _)=>True
 |some (.dT _)=>True
 |some (.set _ _)=>True
 |some (.ins _ _ _)=>True
 |some (.ext _)=>True
 |_=>False
section
variable{x e:Z7}{o':HO}
theorem HOk.write(ok:HOk P w H h)(m:Mut (H x))(i:e=x\/H e=iO (.own x))(k:∀b u,b≠e->h.get? b=iO u->h'.get? b=iO u)(o:∃u,h'.get? e=iO u)(new:ObjOk P w (upd H x o') h' x o'):HOk P w (upd H x o') h':=λb u q=>by
 have n:∀c y,H c=iO (.own y)->c≠x:=λc y r z=>by subst z;rw[r]at m;exact m
 have p:∀c xs,H c=iO (.tup xs)->c≠x:=λc xs r z=>by subst z;rw[r]at m;exact m
 by_cases f:b=x;·subst f;rw[qh]at q;cases q;exact new
 .rw[qB f]at q;by_cases a:b=e
  .have g:H b=iO (.own x):=by
    rcases i with z|z;·exact absurd (a.trans z) f
    .rw[a];exact z
   rw[q]at g;cases g;obtain⟨v,j⟩:=o;exact⟨v,by rw[a];exact j⟩
  .refine(ok b u q).stay (λc v d r=>k c v ?_ r) (λc r=>by rw[qB (n c b r)];exact r) λc xs r=>by rw[qB (p c xs r)];exact r
   rcases d with rfl|d;·exact a
   .rintro rfl;rcases i with z|z;·exact n c b d z
    .rw[d]at z;cases z;exact f rfl
end
structure Un(fs ex:List Z7)(H H':Hp)(h h':Z5):Prop where
 keep:∀b o,h.get? b=iO o->H b=iQ->b∉fs->b∉ex->h'.get? b=iO o
 slot:∀b o,h.get? b=iO o->H b=iQ->b∈fs->b∉ex->∃sl,h'.get? b=iO { o with slots:=sl }
 free:∀b o,h.get? b=iO o->H b=iQ->b∉ex->H' b=iQ
 there:∀b o,h.get? b=iO o->b∉ex->∃o',h'.get? b=iO o'
 tups:∀b xs,H b=iO (.tup xs)->H' b=iO (.tup xs)
 frzs:∀b o u,H b=iO (.frz o u)->H' b=iO (.frz o u)
 tbls:∀b ps,H b=iO (.tbl ps)->∃more,H' b=iO (.tbl (ps++more))
section
variable{fs fs' ex ex':List Z7}{H1 H2:Hp}{h1 h2:Z5}{x e:Z7}
theorem Un.any(u:Un fs ex H H1 h h1){o:Obj}(q:h.get? b=iO o)(n:H b=iQ)(hx:b∉ex):∃sl,h1.get? b=iO { o with slots:=sl }:=by
 by_cases d:b∈fs;·exact u.slot b o q n d hx
 .exact⟨o.slots,u.keep b o q n d hx⟩
theorem Un.kept(k:∀b u,h.get? b=iO u->h'.get? b=iO u):Un fs ex H H h h':=
 ⟨λb o q _ _ _=>k b o q,λb o q _ _ _=>⟨o.slots,k b o q⟩,λ_ _ _ n _=>n,λb o q _=>⟨o,k b o q⟩,λ_ _ q=>q,λ_ _ _ q=>q,λ_ ps q=>⟨#[],by rw[q];simp⟩⟩
theorem Un.refl:Un fs ex H H h h:=Un.kept λ_ _ q=>q
theorem Un.laid(k:∀b u,h.get? b=iO u->h'.get? b=iO u)(hp:h.objs.size<=a)(hn:H a=iQ):Un fs ex H (upd H a o) h h' where
 keep:=λb u q _ _ _=>k b u q
 slot:=λb u q _ _ _=>⟨u.slots,k b u q⟩
 free:=λb u q n _=>by rw[qB (aC (aI (ax q) hp))];exact n
 there:=λb u q _=>⟨u,k b u q⟩
 tups:=λb xs q=>by rw[qB (qJ q hn)];exact q
 frzs:=λb u xs q=>by rw[qB (qJ q hn)];exact q
 tbls:=λb ps q=>⟨#[],by rw[qB (qJ q hn),q];simp⟩
theorem Un.write(m:Mut (H x))(i:e=x\/H e=iO (.own x))(k:∀b u,b≠e->h.get? b=iO u->h'.get? b=iO u)(d:∃u,h'.get? e=iO u):Un fs ex H (upd H x o) h h':=by
 have hx:∀b,H b=iQ->b≠x:=λb n z=>by subst z;rw[n]at m;exact m
 have f:∀b,H b=iQ->b≠e:=λb n z=>by
  subst z;rcases i with r|r;·exact hx b n r
  .rw[n]at r;cases r
 have c:∀b u,H b=iO u->¬Mut (iO u)->b≠x:=λb u q nm z=>by subst z;rw[q]at m;exact nm m
 refine⟨λb u q n _ _=>k b u (f b n) q,λb u q n _ _=>⟨u.slots,k b u (f b n) q⟩,λb u q n _=>by rw[qB (hx b n)];exact n,λb u q _=>?_,λb xs q=>by rw[qB (c b _ q λz=>z)];exact q,λb u xs q=>by rw[qB (c b _ q λz=>z)];exact q,λb ps q=>⟨#[],by rw[qB (c b _ q λz=>z),q];simp⟩⟩;by_cases a:b=e;·subst a;exact d
 .exact⟨u,k b u a q⟩
end
noncomputable def trk(h:Z5)(H:Hp):List Z7:=(aH h.objs.size).filter λa=>(H a).isSome
def qb0(h:Z5)(H:Hp):Z5:=cq h (trk h H)
theorem ZJ(h:Z5)(H:Hp):(qb0 h H).objs.size=h.objs.size:=PySem.W.hideAll_size _ _
theorem qb1{o:Obj}(e:h.get? b=iO o)(n:H b=iQ):(qb0 h H).get? b=iO o:=
 fC _ e λc=>by have q:(H b).isSome=true:=(bv.mp c).2;rw[n]at q;simp at q
theorem qeD{o:Obj}(e:(qb0 h H).get? b=iO o):h.get? b=iO o/\H b=none:=by
 have a:h.get? b=iO o:=PySem.W.of_hideAll (trk h H) e;refine⟨a,?_⟩;cases q:H b with
 |none=>rfl
 |some x=>have c:b∈trk h H:=bv.mpr ⟨aN.mpr (ax a),by simp[q]⟩;have z:(qb0 h H).get? b=none:=fz (trk h H) c;rw[z]at e;cases e
structure Mod(K:Y8)(mg:Str->Option iR)(base:Z5):Prop where
 kin:K.In base
 glob:base.Ns j3 mg
 blt:∃mb,base.Ns builtinsNs mb/\∀x:Str,x ≠ "__name__"->mb x=iY x
 nolimit:base.NoLimit
abbrev Pns:=List (Z7×Obj)
structure Cx where
 prog:iZ
 w:i3
 K:Y8
 mg:Str->Option iR
 base:Z5
 A:j4
 N:List Str
 s₀:iV
 H₀:Hp
 env:Env
 outer:List Env
 stack:List Env
 ex:List Z7
 fn:Str->Bool
 calm:Bool
 pn:Pns
 xe:iR->iV->Prop
noncomputable def frs(l:List Env):List Z7:=l.filterMap (·.frame)
abbrev Cx.fs(X:Cx):List Z7:=frs X.outer
def Vis(sc:mf)(x:Str):Prop:=sc.names.lookup x=iO .local\/sc.names.lookup x=iO .cell\/sc.names.lookup x=iO .free
def Loc(sc:mf)(x:Str):Prop:=sc.names.lookup x=iO .local\/sc.names.lookup x=iO .cell
def QQ(env:Env)(h:Z5)(m:Str->Option iR)(x:Str)(u:iR):Prop:=
 (env.kindOf x=iO .local/\m x=iO u)\/((env.kindOf x=iO .cell\/env.kindOf x=iO .free)/\∃c,env.cells.lookup x=iO c/\h.IsCell c (iO u))
structure Cx.Ok(X:Cx):Prop where
 mod:Mod X.K X.mg X.base
 kind:X.env.scope.kind=.function
 glob:X.env.globals=j3
 blt:X.env.builtins=builtinsNs
 above:X.s₀.heap.objs.size<=X.env.locals
 inj:∀x y c,X.env.cells.lookup x=iO c->X.env.cells.lookup y=iO c->x=y
 has:∀x,(X.env.kindOf x=iO .cell\/X.env.kindOf x=iO .free)->∃c,X.env.cells.lookup x=iO c
 cab:∀x c,X.fn x=iT->X.env.cells.lookup x=iO c->X.s₀.heap.objs.size<=c
 hd:X.calm=iT->X.A.handled=iQ
 frames:X.A.frames=iO X.stack
 stk:X.stack=X.outer\/(X.stack=X.env::X.outer/\X.env.frame=iO X.env.locals)
 exf:∀b∈X.ex,b≠X.env.locals/\∀x c,X.env.cells.lookup x=iO c->c≠b
 bs:∀b o,X.base.get? b=iO o->X.s₀.heap.get? b=iO o/\X.H₀ b=iQ
 bsz:X.base.objs.size<=X.s₀.heap.objs.size
 noex:∀b o,X.base.get? b=iO o->b∉X.ex
 exfs:∀b∈X.ex,b∉X.fs
 funs:X.s₀.heap.FunFrames X.base X.outer
 frf:∀b∈X.fs,X.H₀ b=iQ
structure Inv(X:Cx)(Z9:Pns)(σ:List (Option V))(H:Hp)(s:iV):Prop where
 ok:X.Ok
 os:s.os=X.s₀.os
 bare:mC s.gens
 base:Un X.fs X.ex X.H₀ H X.s₀.heap s.heap
 loc:∃m,s.heap.Ns X.env.locals m/\∀(i:Nat)(x:Str)(v:V),X.N[i]?=iO x->σ[i]?=iO (iO v)->Vis X.env.scope x->∃u,RelV v u/\QQ X.env s.heap m x u
 cell:∀x c,X.env.cells.lookup x=iO c->∃v,s.heap.IsCell c v
 free:H X.env.locals=iQ
 freeC:∀x c,X.env.cells.lookup x=iO c->H c=iQ
 pin:∀p∈X.pn++Z9,s.heap.get? p.1=iO p.2/\H p.1=iQ/\p.1≠X.env.locals/\p.1∉X.fs/\∀v,p.2.data≠.cell v
 hok:HOk X.prog X.w H s.heap
 len:σ.length=X.N.length
variable{x:Str}{X:Cx}{Z9:Pns}{s s':iV}{t' i:Nat}{ch:List Z7}{it:Z7}{v:V}
section
variable{σ:List (Option V)}
theorem Cx.Ok.nofr(ok:X.Ok){o:Obj}(e:X.base.get? b=iO o):b∉X.fs:=λd=>by have:=(ok.funs.mem d).1;rw[e]at this;cases this
theorem Inv.bs(I:Inv X Z9 σ H s):∀b o,X.base.get? b=iO o->s.heap.get? b=iO o/\H b=none:=λb o e=>
 ⟨I.base.keep b o (I.ok.bs b o e).1 (I.ok.bs b o e).2 (I.ok.nofr e) (I.ok.noex b o e),I.base.free b o (I.ok.bs b o e).1 (I.ok.bs b o e).2 (I.ok.noex b o e)⟩
theorem Inv.bk(I:Inv X Z9 σ H s):∀b o,X.base.get? b=iO o->s.heap.get? b=iO o:=λb o e=>(I.bs b o e).1
theorem Inv.mod(I:Inv X Z9 σ H s):Mod X.K X.mg X.base:=I.ok.mod
theorem Inv.kIn(I:Inv X Z9 σ H s):X.K.In s.heap:=I.ok.mod.kin.keeps I.bk
theorem Inv.lt(I:Inv X Z9 σ H s):X.env.locals<s.heap.objs.size:=let ⟨_,hn,_⟩:=I.loc;hn.lt
theorem Inv.sz(I:Inv X Z9 σ H s):X.s₀.heap.objs.size<=s.heap.objs.size:=be I.ok.above (cX I.lt)
theorem Inv.nofs(I:Inv X Z9 σ H s)(h:s.heap.objs.size<=a):a∉X.fs:=λd=>by obtain⟨_,o,l,_⟩:=I.ok.funs.mem d;exact absurd (aI (ax l) (be I.sz h)) (bF _)
theorem Inv.cne(I:Inv X Z9 σ H s):∀x c,X.env.cells.lookup x=iO c->c≠X.env.locals:=λx c e z=>by obtain⟨v,o,l,hd⟩:=I.cell x c e;obtain⟨m,⟨o',es,ep,h,a,_⟩,_⟩:=I.loc;rw[z,h]at l;cases l;rw[a]at hd;cases hd
theorem Inv.funs(I:Inv X Z9 σ H s):s.heap.FunFrames X.base X.outer:=by
 have all:∀(l:List Env),(∀b∈frs l,b∈X.fs)->X.s₀.heap.FunFrames X.base l->s.heap.FunFrames X.base l:=by
  intro l
  induction l with
  |nil=>intro _ _;trivial
  |cons env r j=>intro hs hl;obtain⟨k,⟨L,o,h,hn,c,hd⟩,hr⟩:=hl;have a:L∈X.fs:=hs L (by unfold frs;rw[bT,h];exact ai);obtain⟨sl,e⟩:=I.base.slot L o c (I.ok.frf L a) a λz=>I.ok.exfs L z a;exact⟨k,⟨L,_,h,hn,e,hd⟩,j (λb d=>hs b (by unfold frs;rw[bT,h];exact ac _ d)) hr⟩
 exact all X.outer (λ_ d=>d) I.ok.funs
theorem Inv.stack(I:Inv X Z9 σ H s):s.heap.FunFrames X.base X.stack:=by
 rcases I.ok.stk with e|⟨e,hf⟩
 .rw[e];exact I.funs
 .rw[e];obtain⟨m,hn,_⟩:=I.loc;refine .cons (by rw[I.ok.kind];decide) hf hn ?_ I.funs;exact Heap.get?_none_of_le (be I.ok.bsz I.ok.above)
theorem Inv.stkSub(I:Inv X Z9 σ H s):∀b∈frs X.stack,b∈X.env.locals::X.fs:=λb d=>by
 rcases I.ok.stk with e|⟨e,hf⟩
 .rw[e]at d;exact ac _ d
 .rw[e]at d;unfold frs at d;rw[bT,hf]at d;exact d
theorem Inv.stkFree(I:Inv X Z9 σ H s):∀b∈frs X.stack,H b=none:=λb d=>by
 rcases ae.mp (I.stkSub b d)with e|d;·rw[e];exact I.free
 .obtain⟨_,o,l,_⟩:=I.ok.funs.mem d;exact I.base.free b o l (I.ok.frf b d) λz=>I.ok.exfs b z d
theorem Inv.step{g':Array nn}{t':Nat}{d':Drawn}{ch:List Z7}(I:Inv X Z9 σ H s)(a:∀b∈ch,(b∈X.ex\/X.s₀.heap.objs.size<=b)/\b≠X.env.locals/\(∀x c,X.env.cells.lookup x=iO c->c≠b)/\∀p∈X.pn++Z9,p.1≠b)(keep:∀b o,b≠X.env.locals->b∉X.fs->b∉ch->s.heap.get? b=iO o->H b=iQ->h'.get? b=iO o)(slot:∀b o,b≠X.env.locals->b∈X.fs->b∉ch->s.heap.get? b=iO o->H b=iQ->∃sl,h'.get? b=iO { o with slots:=sl })(free:∀b o,b∉ch->s.heap.get? b=iO o->H b=iQ->H' b=iQ)(there:∀b o,b∉ch->s.heap.get? b=iO o->∃o',h'.get? b=iO o')(tups:∀b xs,H b=iO (.tup xs)->H' b=iO (.tup xs))(frzs:∀b o u,H b=iO (.frz o u)->H' b=iO (.frz o u))(tbls:∀b ps,H b=iO (.tbl ps)->∃more,H' b=iO (.tbl (ps++more)))(ns:∀m,s.heap.Ns X.env.locals m->h'.Ns X.env.locals m)(hok:HOk X.prog X.w H' h')(hg:mC g') :
  Inv X Z9 σ H' { s with heap:=h',gens:=g',drawn:=d',toks:=t' }:=by
 have L:∀b o,X.s₀.heap.get? b=iO o->b≠X.env.locals:=λb o e=>aC (aI (ax e) I.ok.above);have C:∀b o,X.s₀.heap.get? b=iO o->b∉X.ex->b∉ch:=λb o e hx f=>by
  rcases(a b f).1 with z|z;·exact hx z
  .exact absurd (aI (ax e) z) (bF _)
 have K:∀x c,X.env.cells.lookup x=iO c->∀v,s.heap.IsCell c v->h'.IsCell c v:=λx c e v ⟨o,g,hd⟩=>by
  have h:c∉ch:=λz=>(a c z).2.2.1 x c e rfl;by_cases A:c∈X.fs;·obtain⟨sl,q⟩:=slot c o (I.cne x c e) A h g (I.freeC x c e);exact⟨_,q,hd⟩
  .exact⟨o,keep c o (I.cne x c e) A h g (I.freeC x c e),hd⟩
 refine⟨I.ok,I.os,hg,⟨λb o e n f hx=>?_,λb o e n f hx=>?_,λb o e n hx=>?_,λb o e hx=>?_,λb xs e=>tups b xs (I.base.tups b xs e),λb o xs e=>frzs b o xs (I.base.frzs b o xs e),λb ps e=>?_⟩,?_,λx c e=>?_,?_,λx c e=>?_,λp hp=>?_,hok,I.len⟩;·exact keep b o (L b o e) f (C b o e hx) (I.base.keep b o e n f hx) (I.base.free b o e n hx)
 .obtain⟨sl,e1⟩:=I.base.slot b o e n f hx;obtain⟨t,j⟩:=slot b _ (L b o e) f (C b o e hx) e1 (I.base.free b o e n hx);exact⟨t,j⟩
 .obtain⟨o',e1⟩:=I.base.there b o e hx;exact free b o' (C b o e hx) e1 (I.base.free b o e n hx)
 .obtain⟨o',e1⟩:=I.base.there b o e hx;exact there b o' (C b o e hx) e1
 .obtain⟨m1,e1⟩:=I.base.tbls b ps e;obtain⟨B,j⟩:=tbls b _ e1;exact⟨m1++B,by rw[j,Array.append_assoc]⟩
 .obtain⟨m,hn,hl⟩:=I.loc;refine⟨m,ns m hn,λi x v e1 j D=>?_⟩;obtain⟨u,r,l⟩:=hl i x v e1 j D;refine⟨u,r,?_⟩;rcases l with l|⟨k,c,e,z⟩
  .exact .inl l
  .exact .inr ⟨k,c,e,K x c e _ z⟩
 .obtain⟨v,z⟩:=I.cell x c e;exact⟨v,K x c e v z⟩
 .obtain⟨m,⟨o,_,_,g,_⟩,_⟩:=I.loc;exact free _ o (λz=>(a _ z).2.1 rfl) g I.free
 .obtain⟨v,o,g,hd⟩:=I.cell x c e;exact free c o (λz=>(a c z).2.2.1 x c e rfl) g (I.freeC x c e)
 .obtain⟨e,n,ne,y,d⟩:=I.pin p hp;have h:p.1∉ch:=λz=>(a p.1 z).2.2.2 p hp rfl;exact⟨keep p.1 p.2 ne y h e n,free p.1 p.2 h e n,ne,y,d⟩
theorem Inv.un(I:Inv X Z9 σ H s)(u:Un X.fs [] H H' s.heap h')(hok:HOk X.prog X.w H' h'):Inv X Z9 σ H' { s with heap:=h',toks:=t' }:=by obtain⟨m,⟨o,es,ep,l,r⟩,_⟩:=id I.loc;obtain⟨sl,L⟩:=u.any l I.free (by simp);exact I.step (g':=s.gens) (d':=s.drawn) (ch:=[]) (λ_ z=>nomatch z) (λb o _ d _ e n=>u.keep b o e n d (by simp)) (λb o _ d _ e n=>u.slot b o e n d (by simp)) (λb o _ e n=>u.free b o e n (by simp)) (λb o _ e=>u.there b o e (by simp)) u.tups u.frzs u.tbls (λf c=>by obtain⟨o',es',a,h,r'⟩:=c;rw[l]at h;cases h;exact⟨_,es',a,L,r'⟩) hok I.bare
theorem Inv.call{g':Array nn}{t':Nat}{d':Drawn}(I:Inv X Z9 σ H s)(u:Un (frs X.stack) ch H H' s.heap h')(hok:HOk X.prog X.w H' h')(hg:mC g')(a:∀b∈ch,(b∈X.ex\/X.s₀.heap.objs.size<=b)/\b≠X.env.locals/\(∀x c,X.env.cells.lookup x=iO c->c≠b)/\∀p∈X.pn++Z9,p.1≠b) :
  Inv X Z9 σ H' { s with heap:=h',gens:=g',drawn:=d',toks:=t' }:=by
 obtain⟨m,⟨o,es,ep,l,r⟩,_⟩:=id I.loc;obtain⟨sl,L⟩:=u.any l I.free λz=>(a _ z).2.1 rfl;exact I.step (ch:=ch) a (λb o L i d e n=>u.keep b o e n (λz=>(ae.mp (I.stkSub b z)).elim L i) d) (λb o _ _ d e n=>u.any e n d) (λb o d e n=>u.free b o e n d) (λb o d e=>u.there b o e d) u.tups u.frzs u.tbls (λj g=>by obtain⟨o',es',f,h,r'⟩:=g;rw[l]at h;cases h;exact⟨_,es',f,L,r'⟩) hok hg
theorem Inv.turned{t':Nat}(I:Inv X Z9 σ H s)(k:∀b o,b≠it->s.heap.get? b=iO o->h'.get? b=iO o)(hn:H it=iQ)(a:it≠X.env.locals)(h1:it∈X.ex\/X.s₀.heap.objs.size<=it)(h2:∀x c,X.env.cells.lookup x=iO c->c≠it)(g:∀p∈X.pn++Z9,p.1≠it):Inv X Z9 σ H { s with heap:=h',toks:=t' }:=by
 have t:∀b u,H b=iO u->b≠it:=λb u e z=>by rw[z,hn]at e;cases e
 refine I.step (g':=s.gens) (d':=s.drawn) (ch:=[it]) (λb f=>?_) (λb o _ _ d e _=>k b o (λz=>d (by simp[z])) e) (λb o _ _ d e _=>⟨o.slots,k b o (λz=>d (by simp[z])) e⟩) (λ_ _ _ _ n=>n)
  (λb o d e=>⟨o,k b o (λz=>d (by simp[z])) e⟩) (λ_ _ e=>e) (λ_ _ _ e=>e) (λb ps e=>⟨#[],by rw[e];simp⟩) (λm h=>?_) (λb u e=>?_) I.bare
 .have e:b=it:=by simpa using f
  subst e;exact⟨h1,a,h2,g⟩
 .obtain⟨o,es,ep,l,r⟩:=h;exact⟨o,es,ep,k _ o (bJ a) l,r⟩
 .refine(I.hok b u e).stay (λc v d q=>k c v ?_ q) (λ_ q=>q) λ_ _ q=>q;rcases d with z|z;·rw[z];exact t b u e
  .exact t c _ z
theorem Inv.tok(I:Inv X Z9 σ H s)(t:Nat):Inv X Z9 σ H { s with toks:=t }:=I.un (h':=s.heap) (t':=t) Un.refl I.hok
theorem Inv.kept(I:Inv X Z9 σ H s)(k:∀b u,s.heap.get? b=iO u->h'.get? b=iO u):Inv X Z9 σ H { s with heap:=h',toks:=t' }:=I.un (Un.kept k) (I.hok.kept k)
theorem Inv.laid{t':Nat}(I:Inv X Z9 σ H s)(k:∀b u,s.heap.get? b=iO u->h'.get? b=iO u)(hp:s.heap.objs.size<=a)(new:ObjOk X.prog X.w (upd H a o) h' a o):Inv X Z9 σ (upd H a o) { s with heap:=h',toks:=t' }:=I.un (Un.laid k hp (I.hok.fresh hp)) (I.hok.laid k hp new)
theorem Inv.write{x e:Z7}{o:HO}{t':Nat}(I:Inv X Z9 σ H s)(m:Mut (H x))(i:e=x\/H e=iO (.own x))(k:∀b u,b≠e->s.heap.get? b=iO u->h'.get? b=iO u)(h:∃u,h'.get? e=iO u)(new:ObjOk X.prog X.w (upd H x o) h' x o):Inv X Z9 σ (upd H x o) { s with heap:=h',toks:=t' }:=I.un (Un.write m i k h) (I.hok.write m i k h new)
theorem Inv.pins_of{a:Pns}(I:Inv X Z9 σ H s)(h:∀p∈a,s.heap.get? p.1=iO p.2/\H p.1=iQ/\p.1≠X.env.locals/\p.1∉X.fs/\∀v,p.2.data≠.cell v):Inv X a σ H s:=
 ⟨I.ok,I.os,I.bare,I.base,I.loc,I.cell,I.free,I.freeC,λp hp=>(af.mp hp).elim (λz=>I.pin p (bP _ z)) (h p),I.hok,I.len⟩
theorem UF{N:List Str}(h:N.Nodup){j:Nat}(a:N[i]?=iO x)(b:N[j]?=iO x):i=j:=by obtain⟨h1,e1⟩:=aD.mp a;obtain⟨h2,e⟩:=aD.mp b;exact(fZ h).mp (e1.trans e.symm)
theorem Kn{M:Model}{A:j4}{E:iR->iV->Prop}{Q:Unit->iV->Prop}(I:Inv X Z9 σ H s)(hN:X.N.Nodup)(hi:X.N[i]?=iO x)(hx:Loc X.env.scope x)(r:RelV v u)(h:∀s',Inv X Z9 (σ.set i (iO v)) H s'->(∃a,bx a s.heap s'.heap/\(a=X.env.locals\/X.env.cells.lookup x=iO a))->Q () s')(hf:X.fn x=iT\/X.env.scope.names.lookup x=iO .local:=by first|exact .inl rfl|exact .inr rfl|assumption):iW M A (storeName X.env x u) Q E s:=by
 obtain⟨m,hn,hl⟩:=id I.loc;have O:(X.env.scope.kind == .class||(X.env.scope.kind == .module&&X.env.locals != X.env.globals))=false:=by rw[I.ok.kind];rfl
 have C:i < σ.length:=by rw[I.len];exact(aD.mp hi).1
 have cne:=I.cne;have t:∀{a:Z7}{h':Z5},(∃o,s.heap.get? a=iO o/\H a=iQ)->bx a s.heap h'->HOk X.prog X.w H h':=λ{a h'} ha hs b ob e=>by
  obtain⟨_,_,g⟩:=ha;refine(I.hok b ob e).stay (λc S f q=>(hs.2 c ?_).trans q) (λ_ q=>q) λ_ _ q=>q;rintro rfl;rcases f with rfl|f;·rw[g]at e;cases e
  .rw[g]at f;cases f
 rcases hx with B|B
 .refine wpAny_storeName_local B hn (λh' Z hs=>?_) O;obtain⟨oL,_,_,Y,_⟩:=id hn;refine h _ ⟨I.ok,I.os,I.bare,⟨λb o e n J hx=>?_,λb o e n J hx=>?_,I.base.free,λb o e hx=>?_,I.base.tups,I.base.frzs,I.base.tbls⟩,⟨_,Z,λj y U e1 l F=>?_⟩,λy c e=>?_,I.free,I.freeC,λp hp=>?_,t ⟨oL,Y,I.free⟩ hs,by simpa using I.len⟩ ⟨_,hs,.inl rfl⟩;·exact(hs.2 b (aC (aI (ax e) I.ok.above))).trans (I.base.keep b o e n J hx)
  .obtain⟨sl,e1⟩:=I.base.slot b o e n J hx;exact⟨sl,(hs.2 b (aC (aI (ax e) I.ok.above))).trans e1⟩
  .obtain⟨o',e1⟩:=I.base.there b o e hx;exact⟨o',(hs.2 b (aC (aI (ax e) I.ok.above))).trans e1⟩
  .by_cases D:j=i;·subst D;rw[hi]at e1;cases e1;rw[aS C]at l;cases l;exact⟨u,r,.inl ⟨B,by simp⟩⟩
   .rw[aA (bJ D)]at l;obtain⟨V,r',q⟩:=hl j y U e1 l F;refine⟨V,r',?_⟩;rcases q with⟨k,e⟩|⟨k,c,e,z⟩
    .refine .inl ⟨k,?_⟩;have:y≠x:=λe=>D (UF hN e1 (e ▸ hi));simp[this,e]
    .exact .inr ⟨k,c,e,z.sameBut hs (cne y c e)⟩
  .obtain⟨S,z⟩:=I.cell y c e;exact⟨S,z.sameBut hs (cne y c e)⟩
  .obtain⟨e,n,ne,W,d⟩:=I.pin p hp;exact⟨(hs.2 p.1 ne).trans e,n,ne,W,d⟩
 .have G:X.fn x=true:=by
   rcases hf with z|z;·exact z
   .rw[z]at B;cases B
  obtain⟨c,f⟩:=I.ok.has x (.inl B);obtain⟨S,z⟩:=I.cell x c f;refine wpAny_storeName_cell I.ok.kind B f z (λh' R hs=>?_);obtain⟨oc,L,K⟩:=id z;refine h { s with heap:=h' } ⟨I.ok,I.os,I.bare,⟨λb o e n J hx=>?_,λb o e n J hx=>?_,I.base.free,λb o e hx=>?_,I.base.tups,I.base.frzs,I.base.tbls⟩,⟨m,hn.sameBut hs (bJ (cne x c f)),λj y U e1 l F=>?_⟩,λy T e=>?_,I.free,I.freeC,λp hp=>?_,t ⟨oc,L,I.freeC x c f⟩ hs,by simpa using I.len⟩ ⟨c,hs,.inr f⟩;·exact(hs.2 b (aC (aI (ax e) (I.ok.cab x c G f)))).trans (I.base.keep b o e n J hx)
  .obtain⟨sl,e1⟩:=I.base.slot b o e n J hx;exact⟨sl,(hs.2 b (aC (aI (ax e) (I.ok.cab x c G f)))).trans e1⟩
  .obtain⟨o',e1⟩:=I.base.there b o e hx;exact⟨o',(hs.2 b (aC (aI (ax e) (I.ok.cab x c G f)))).trans e1⟩
  .by_cases D:j=i;·subst D;rw[hi]at e1;cases e1;rw[aS C]at l;cases l;exact⟨u,r,.inr ⟨.inl B,c,f,R⟩⟩
   .rw[aA (bJ D)]at l;obtain⟨V,r',q⟩:=hl j y U e1 l F;refine⟨V,r',?_⟩;rcases q with q|⟨k,T,e,z'⟩
    .exact .inl q
    .refine .inr ⟨k,T,e,z'.sameBut hs ?_⟩;rintro rfl;exact D (UF hN e1 (I.ok.inj _ _ _ e f ▸ hi))
  .by_cases P:T=c;·subst P;exact⟨_,R⟩
   .obtain⟨w2,z2⟩:=I.cell y T e;exact⟨w2,z2.sameBut hs P⟩
  .obtain⟨e,n,ne,W,d⟩:=I.pin p hp;refine⟨(hs.2 p.1 ?_).trans e,n,ne,W,d⟩;intro q;rw[q,L]at e;have q':oc=p.2:=aL.inj e;exact d S (by rw[<-q'];exact K)
theorem UG{M:Model}{A:j4}{E:iR->iV->Prop}{Q:Unit->iV->Prop}(I:Inv X Z9 σ H s)(a:X.N.Nodup)(hi:X.N[i]?=iO x)(hx:Loc X.env.scope x)(r:RelV v u)(h:∀s',Inv X Z9 (σ.set i (iO v)) H s'->Q () s')(f:X.fn x=iT\/X.env.scope.names.lookup x=iO .local:=by first|exact .inl rfl|exact .inr rfl|assumption):iW M A (storeName X.env x u) Q E s:=
 Kn I a hi hx r (λs' b _=>h s' b) f
theorem Inv.call'(I:Inv X Z9 σ H s)(l:s'.os=s.os)(u:Un (frs X.stack) ch H H' s.heap s'.heap)(hok:HOk X.prog X.w H' s'.heap)(hg:mC s'.gens)(a:∀b∈ch,(b∈X.ex\/X.s₀.heap.objs.size<=b)/\b≠X.env.locals/\(∀x c,X.env.cells.lookup x=iO c->c≠b)/\∀p∈X.pn++Z9,p.1≠b):Inv X Z9 σ H' s':=by
 obtain⟨h',g',d',t',o'⟩:=s';have e:o'=s.os:=l;subst e;exact I.call (g':=g') (t':=t') (d':=d') u hok hg a
end
abbrev XK:=iR->Option Z7->Hp->Prop
abbrev St:=List (Option V)
abbrev VK:=V->Hp->Prop
abbrev TE:=St->Hp->VK->Prop
abbrev TT:=St->Hp->(Bool->Hp->Prop)->Prop
abbrev TA:=St->Hp->(List V->Hp->Prop)->Prop
structure Ends where
 nx:St->Hp->Prop
 rt:VK
 bk:St->Hp->Prop:=λ_ _=>False
 ct:St->Hp->Prop:=λ_ _=>False
abbrev TS:=Ends->St->Hp->Prop
def EP(X:Cx)(Z9:Pns)(σ:St)(Q:VK)(u:iR)(s':iV):Prop:=∃v H',Inv X Z9 σ H' s'/\RelV v u/\Q v H'
def TP(X:Cx)(Z9:Pns)(σ:St)(Q:Bool->Hp->Prop)(b:Bool)(s':iV):Prop:=∃H',Inv X Z9 σ H' s'/\Q b H'
def AP(X:Cx)(Z9:Pns)(σ:St)(Q:List V->Hp->Prop)(us:List iR)(s':iV):Prop:=∃vs H',Inv X Z9 σ H' s'/\Vals vs us/\Q vs H'
set_option tactic.hygienic true in
def SP(X:Cx)(Z9:Pns)(D:Ends)(f:Flow)(s':iV):Prop:=
 match f with
 |.next=>∃σ' H',Inv X Z9 σ' H' s'/\D.nx σ' H'
 |.brk=>∃σ' H',Inv X Z9 σ' H' s'/\D.bk σ' H'
 |.cont=>∃σ' H',Inv X Z9 σ' H' s'/\D.ct σ' H'
 |.ret u=>∃v σ' H',Inv X Z9 σ' H' s'/\RelV v u/\D.rt v H'
structure PE(X:Cx)(e:Z4)(t:TE):Prop where
 run:∀(Z9:Pns)(s:iV)(σ:St)(H:Hp)(Q:VK),Inv X Z9 σ H s->t σ H Q->iW (Z6 X.prog X.w) X.A (Y9 e X.env) (EP X Z9 σ Q) X.xe s
instance{X:Cx}{e:Z4}{t:TE}:CoeFun (PE X e t) (λ_=>∀(Z9:Pns)(s:iV)(σ:St)(H:Hp)(Q:VK),Inv X Z9 σ H s->t σ H Q->iW (Z6 X.prog X.w) X.A (Y9 e X.env) (EP X Z9 σ Q) X.xe s):=⟨λh=>h.run⟩
structure PT(X:Cx)(e:Z4)(t:TT):Prop where
 run:∀(Z9:Pns)(s:iV)(σ:St)(H:Hp)(Q:Bool->Hp->Prop),Inv X Z9 σ H s->t σ H Q->iW (Z6 X.prog X.w) X.A (isTrue e X.env (Y9 e X.env)) (TP X Z9 σ Q) X.xe s
instance{X:Cx}{e:Z4}{t:TT}:CoeFun (PT X e t) (λ_=>∀(Z9:Pns)(s:iV)(σ:St)(H:Hp)(Q:Bool->Hp->Prop),Inv X Z9 σ H s->t σ H Q->iW (Z6 X.prog X.w) X.A (isTrue e X.env (Y9 e X.env)) (TP X Z9 σ Q) X.xe s):=⟨λh=>h.run⟩
structure PW(X:Cx)(e:Z4)(t:TT):Prop where
 run:∀(whole:Sem iR)(Z9:Pns)(s:iV)(σ:St)(H:Hp)(Q:Bool->Hp->Prop),Inv X Z9 σ H s->t σ H Q->iW (Z6 X.prog X.w) X.A (isTrue e X.env whole) (TP X Z9 σ Q) X.xe s
instance{X:Cx}{e:Z4}{t:TT}:CoeFun (PW X e t) (λ_=>∀(whole:Sem iR)(Z9:Pns)(s:iV)(σ:St)(H:Hp)(Q:Bool->Hp->Prop),Inv X Z9 σ H s->t σ H Q->iW (Z6 X.prog X.w) X.A (isTrue e X.env whole) (TP X Z9 σ Q) X.xe s):=⟨λh=>h.run⟩
variable{e:Z4}
theorem PW.pt{t:TT}(h:PW X e t):PT X e t:=⟨h.run _⟩
structure PA(X:Cx)(es:List Z4)(t:TA):Prop where
 run:∀(pos:Pos)(Z9:Pns)(s:iV)(σ:St)(H:Hp)(Q:List V->Hp->Prop),Inv X Z9 σ H s->t σ H Q->iW (Z6 X.prog X.w) X.A (spliced (lq pos (iX es X.env))) (AP X Z9 σ Q) X.xe s
instance{X:Cx}{es:List Z4}{t:TA}:CoeFun (PA X es t) (λ_=>∀(pos:Pos)(Z9:Pns)(s:iV)(σ:St)(H:Hp)(Q:List V->Hp->Prop),Inv X Z9 σ H s->t σ H Q->iW (Z6 X.prog X.w) X.A (spliced (lq pos (iX es X.env))) (AP X Z9 σ Q) X.xe s):=⟨λh=>h.run⟩
structure PS(X:Cx)(st:Z3)(t:TS):Prop where
 run:∀(Z9:Pns)(s:iV)(σ:St)(H:Hp)(D:Ends),Inv X Z9 σ H s->t D σ H->iW (Z6 X.prog X.w) X.A (exec st X.env) (SP X Z9 D) X.xe s
instance{X:Cx}{st:Z3}{t:TS}:CoeFun (PS X st t) (λ_=>∀(Z9:Pns)(s:iV)(σ:St)(H:Hp)(D:Ends),Inv X Z9 σ H s->t D σ H->iW (Z6 X.prog X.w) X.A (exec st X.env) (SP X Z9 D) X.xe s):=⟨λh=>h.run⟩
structure PSs(X:Cx)(st:List Z3)(t:TS):Prop where
 run:∀(Z9:Pns)(s:iV)(σ:St)(H:Hp)(D:Ends),Inv X Z9 σ H s->t D σ H->iW (Z6 X.prog X.w) X.A (execs st X.env) (SP X Z9 D) X.xe s
instance{X:Cx}{st:List Z3}{t:TS}:CoeFun (PSs X st t) (λ_=>∀(Z9:Pns)(s:iV)(σ:St)(H:Hp)(D:Ends),Inv X Z9 σ H s->t D σ H->iW (Z6 X.prog X.w) X.A (execs st X.env) (SP X Z9 D) X.xe s):=⟨λh=>h.run⟩
variable{A:j4}
theorem thn{t:Sem α}{Q b:α->iV->Prop}{M:Model}{E:iR->iV->Prop}(h:iW M A t Q E s)(c:∀a s,Q a s->b a s):iW M A t b E s:=lM h c λ_ _ x=>x
variable{σ:St}{pos:Pos}{Q:iR->iV->Prop}{ta:TE}{c:Z4}
section
def qk1(i:Nat):TE:=λσ H Q=>∃v,σ[i]?=iO (iO v)/\Q v H
def tC(v:V):TE:=λ_ H Q=>Q v H
abbrev Dbg(x:Str):Prop:=(x == ("__debug__":Str))=iS
abbrev Cdk(x:Str):Prop:=(x == ("__classdict__":Str))=iS
theorem uF(j:X.N[i]?=iO x)(f:Vis X.env.scope x)(hd:Dbg x:=by decide)(d:Cdk x:=by decide):PE X (.Name x pos) (qk1 i):=by
 refine⟨?_⟩;intro Z9 s σ H Q I h;obtain⟨v,e,h⟩:=h;obtain⟨m,hn,hl⟩:=I.loc;obtain⟨u,r,l⟩:=hl i x v j e f;have fin:EP X Z9 σ Q u s:=⟨v,H,I,r,h⟩
 rcases l with⟨k,g⟩|⟨k,c,b,a⟩
 .exact wpAny_Name (wpAny_loadName_local I.ok.kind k hn g fin) hd
 .rcases k with k|k;·exact wpAny_Name (wpAny_loadName_cell I.ok.kind k b a fin) hd
  .exact wpAny_Name (wpAny_loadName_free I.ok.kind k b a fin d) hd
theorem qdE{i j pos}:PE X (.Constant (.int i) j pos) (tC (.int i)):=⟨λ_ _ _ H _ I h=>wpAny_Constant_int ⟨.int i,H,I.tok _,⟨_,rfl⟩,h⟩⟩
theorem qjQ{b j pos}:PE X (.Constant (.bool b) j pos) (tC (.bl b)):=⟨λ_ _ _ H _ I h=>Constant_bool ⟨.bl b,H,I,rfl,h⟩⟩
theorem qgW{j pos}:PE X (.Constant .none j pos) (tC .non):=⟨λ_ _ _ H _ I h=>Constant_none ⟨.non,H,I,rfl,h⟩⟩
theorem qgX{x j pos}:PE X (.Constant (.str x) j pos) (tC (.str x)):=⟨λ_ _ _ H _ I h=>Calls.Constant_str ⟨.str x,H,I.tok _,⟨_,rfl⟩,h⟩⟩
def Gl(X:Cx)(x:Str):Prop:=X.env.kindOf x=iO .globalImplicit
theorem QR{E:iR->iV->Prop}{pos:Pos}(I:Inv X Z9 σ H s)(hg:Gl X x)(c:X.mg x=iO u)(h:Q u s)(hd:Dbg x:=by decide):iW (Z6 X.prog X.w) X.A (Y9 (.Name x pos) X.env) Q E s:=
 Calls.Name_function_global I.ok.kind hg (Calls.loadGlobal_global (by rw[I.ok.glob];exact I.mod.glob.keeps I.bk) c h) hd
theorem uG{E:iR->iV->Prop}{pos:Pos}(I:Inv X Z9 σ H s)(hg:Gl X x)(m:X.mg x=iQ)(c:iY x=iO u)(h:Q u s)(hn:x ≠ "__name__":=by decide)(hd:Dbg x:=by decide):iW (Z6 X.prog X.w) X.A (Y9 (.Name x pos) X.env) Q E s:=by
 obtain⟨mb,h1,h2⟩:=I.mod.blt;exact Calls.Name_function_global I.ok.kind hg (Calls.loadGlobal_builtin (by rw[I.ok.glob];exact I.mod.glob.keeps I.bk) m (by rw[I.ok.blt];exact h1.keeps I.bk) ((h2 x hn).trans c) h) hd
theorem qeE(hg:Gl X x)(c:X.mg x=iO u)(r:RelV v u)(hd:Dbg x:=by decide):PE X (.Name x pos) (tC v):=⟨λ_ _ _ H _ I h=>QR I hg c ⟨v,H,I,r,h⟩ hd⟩
theorem qeF(hg:Gl X x)(m:X.mg x=iQ)(c:iY x=iO u)(r:RelV v u)(hn:x ≠ "__name__":=by decide)(hd:Dbg x:=by decide):PE X (.Name x pos) (tC v):=⟨λ_ _ _ H _ I h=>uG I hg m c ⟨v,H,I,r,h⟩ hn hd⟩
variable{a b:Z4}{tb:TE}
variable{tA tB':TT}{rest:List Z4}
def qly(t u:TT):TT:=λσ H Q=>t σ H λc H1=>if c=iT then u σ H1 Q else Q iS H1
def tOr(t u:TT):TT:=λσ H Q=>t σ H λc H1=>if c=iT then Q iT H1 else u σ H1 Q
def qlz(t:TT):TT:=λσ H Q=>t σ H λc H1=>Q (!c) H1
theorem qeG(g:PT X a tA):PW X (.BoolOp .And [a] pos) tA:=by
 refine⟨?_⟩;intro w Z9 s σ H Q I h;refine isTrue_and (thn (g Z9 s σ H Q I h) λc s1 e=>?_);cases c with
 |true=>exact isTrue_and_nil e
 |false=>exact e
theorem qgY(g:PT X a tA):PW X (.BoolOp .Or [a] pos) tA:=by
 refine⟨?_⟩;intro w Z9 s σ H Q I h;refine isTrue_or (thn (g Z9 s σ H Q I h) λc s1 e=>?_);cases c with
 |false=>exact isTrue_or_nil e
 |true=>exact e
theorem qgZ(g:PT X a tA)(e:PW X (.BoolOp .And (b::rest) pos) tB'):PW X (.BoolOp .And (a::b::rest) pos) (qly tA tB'):=by
 refine⟨?_⟩;intro w Z9 s σ H Q I h;refine isTrue_and (thn (g Z9 s σ H _ I h) λc s1 z=>?_);obtain⟨H1,d,q⟩:=z;cases c with
 |true=>exact e w Z9 s1 σ H1 Q d q
 |false=>exact⟨H1,d,q⟩
theorem qjR(g:PT X a tA)(e:PW X (.BoolOp .Or (b::rest) pos) tB'):PW X (.BoolOp .Or (a::b::rest) pos) (tOr tA tB'):=by
 refine⟨?_⟩;intro w Z9 s σ H Q I h;refine isTrue_or (thn (g Z9 s σ H _ I h) λc s1 z=>?_);obtain⟨H1,d,q⟩:=z;cases c with
 |true=>exact⟨H1,d,q⟩
 |false=>exact e w Z9 s1 σ H1 Q d q
theorem qg0(g:PT X a tA):PT X (.UnaryOp .Not a pos) (qlz tA):=by refine⟨?_⟩;intro Z9 s σ H Q I h;exact isTrue_not (g Z9 s σ H (λc H1=>Q (!c) H1) I h)
def qjS(ta tb:TE):TE:=λσ H Q=>ta σ H λx H1=>∃c,x=.bl c/\if c=iT then tb σ H1 Q else Q (.bl iS) H1
theorem qg1{op}{t:TE}(h:PE X a t):PE X (.BoolOp op [a] pos) t:=⟨λZ9 s σ H Q I w=>BoolOp_one (h Z9 s σ H Q I w)⟩
theorem qg2(g:PE X a ta)(e:PE X (.BoolOp .And (b::rest) pos) tb):PE X (.BoolOp .And (a::b::rest) pos) (qjS ta tb):=by
 refine⟨?_⟩;intro Z9 s σ H Q I h;refine BoolOp_and (thn (g Z9 s σ H _ I h) λv s1 z=>?_);obtain⟨x,H1,d,r1,q⟩:=z;obtain⟨c,rfl,q⟩:=q;cases r1;refine lh ?_;cases c with
 |true=>exact e Z9 s1 σ H1 Q d q
 |false=>exact⟨.bl iS,H1,d,rfl,q⟩
def tIf(t:TT)(ta tb:TE):TE:=λσ H Q=>t σ H λc H1=>if c=iT then ta σ H1 Q else tb σ H1 Q
theorem qb2(f:PT X c tA)(i:PE X a ta)(g:PE X b tb):PE X (.IfExp c a b pos) (tIf tA ta tb):=by
 refine⟨?_⟩;intro Z9 s σ H Q I h;refine wpAny_IfExp (thn (f Z9 s σ H _ I h) λd s1 z=>?_);obtain⟨H1,e,q⟩:=z;cases d with
 |true=>exact i Z9 s1 σ H1 Q e q
 |false=>exact g Z9 s1 σ H1 Q e q
end
def SqL(K:Y8)(H:Hp)(a:Z7)(xs:List V):Prop:=
 Rd H a (.lst xs) \/
  ∃(o:Obj)(its:Array iR)(n:Nat),K.lookup a=iO o/\o.cls=.type "list"/\o.dict=iQ/\o.data=.seq its n/\its.size<=Z8/\Vals xs its.toList
def SqT(K:Y8)(H:Hp)(a:Z7)(xs:List V):Prop:=
 Rd H a (.tup xs) \/
  ∃(o:Obj)(its:Array iR)(n:Nat),K.lookup a=iO o/\(o.cls=.type "tuple"/\o.dict=iQ)/\o.data=.seq its n/\its.size<=Z8/\Vals xs its.toList
noncomputable def qlA:iR->Option V
 |.none=>iO .non
 |.bool b=>iO (.bl b)
 |.int i _=>iO (.int i)
 |.str x _=>iO (.str x)
 |.bytes b _=>iO (.byt b)
 |.float b _=>iO (.flt b)
 |.ref a=>iO (.ref a)
 |.type n=>iO (.ty n)
 |_=>iQ
theorem RelV.abs{x:V}(r:RelV x u):qlA u=iO x:=by
 cases x with
 |non=>cases r;rfl
 |bl _=>cases r;rfl
 |int _=>obtain⟨t,rfl⟩:=r;rfl
 |str _=>obtain⟨t,rfl⟩:=r;rfl
 |byt _=>obtain⟨t,rfl⟩:=r;rfl
 |flt _=>obtain⟨t,rfl⟩:=r;rfl
 |ref _=>cases r;rfl
 |ty _=>cases r;rfl
theorem RelV.inj{x y:V}(r:RelV x u)(q:RelV y u):x=y:=aL.inj (r.abs.symm.trans q.abs)
variable{ys:List V}
theorem Vals.inj(h:Vals xs us)(h':Vals ys us):xs=ys:=by
 induction h generalizing ys with
 |nil=>cases h';rfl
 |cons r t j=>
  cases h' with
  |cons r' t'=>rw[r.inj r',j t']
variable{K:Y8}
section
theorem SqT.of(h:H a=iO (.tup xs)):SqT K H a xs:=.inl (.inl h)
theorem Inv.list(I:Inv X Z9 σ H s)(h:SqL X.K H a xs):∃its:List iR,Vals xs its/\PlainL s.heap a its.toArray/\xs.length<=Z8:=by
 rcases h with h|⟨o,its,n,hk,hc,hd,hs,hz,r⟩
 .obtain⟨z,its,n,r,e⟩:=h.ok I.hok;exact⟨its,r,⟨_,n,e,rfl,rfl,rfl⟩,z⟩
 .refine⟨its.toList,r,⟨o,n,I.kIn a o hk,hc,hd,by simpa using hs⟩,?_⟩;have e:=r.length;simp only[aF]at e
  lia
theorem Inv.tuple(I:Inv X Z9 σ H s)(h:SqT X.K H a xs):∃its:List iR,Vals xs its/\IsTup s.heap a its.toArray/\xs.length<=Z8:=by
 rcases h with h|⟨o,its,n,hk,hc,hs,hz,r⟩
 .obtain⟨⟨z,_⟩,its,r,p⟩:=h.ok I.hok;exact⟨its,r,p,z⟩
 .refine⟨its.toList,r,⟨o,I.kIn a o hk,hc.1,n,by simpa using hs⟩,?_⟩;have e:=r.length;simp only[aF]at e
  lia
theorem Inv.tupleN(I:Inv X Z9 σ H s)(h:SqT X.K H a xs):∃o,s.heap.get? a=iO o/\o.dict=none:=by
 rcases h with h|⟨o,its,n,hk,hc,hs,hz,r⟩
 .obtain⟨⟨z,w⟩,its,r,p⟩:=h.ok I.hok;exact w
 .exact⟨o,I.kIn a o hk,hc.2⟩
theorem Inv.list_inj(I:Inv X Z9 σ H s)(h:SqL X.K H a xs)(h':SqL X.K H a ys):xs=ys:=by
 obtain⟨its,r,⟨o,n,e,_,_,d⟩,_⟩:=I.list h;obtain⟨its',r',⟨o',c,b,_,_,d'⟩,_⟩:=I.list h';rw[e]at b;cases b;rw[d]at d';injection d' with d1 _;have:its=its':=by simpa using congrArg Array.toList d1
 subst this;exact r.inj r'
theorem Inv.tuple_inj(I:Inv X Z9 σ H s)(h:SqT X.K H a xs)(h':SqT X.K H a ys):xs=ys:=by
 obtain⟨its,r,⟨o,e,_,n,d⟩,_⟩:=I.tuple h;obtain⟨its',r',⟨o',b,_,c,d'⟩,_⟩:=I.tuple h';rw[e]at b;cases b;rw[d]at d';injection d' with d1 _;have:its=its':=by simpa using congrArg Array.toList d1
 subst this;exact r.inj r'
end
variable{te:TE}{tc:TT}
section
variable{st:Z3}{rest:List Z3}{t u:TS}
def qjT:TS:=λD σ H=>D.nx σ H
def qlB(t u:TS):TS:=λD σ H=>t { D with nx:=u D } σ H
theorem qeH:PSs X [] qjT:=⟨λ_ _ σ H _ I h=>mn ⟨σ,H,I,h⟩⟩
set_option tactic.hygienic true in
theorem qb3(h1:PS X st t)(h2:PSs X rest u):PSs X (st::rest) (qlB t u):=by
 refine⟨?_⟩;intro Z9 s σ H D I h;refine wpAny_execs_cons (thn (h1 Z9 s σ H { D with nx:=u D } I h) λf s1 q=>?_);cases f with
 |next=>obtain⟨σ',H',b,q⟩:=q;exact h2 Z9 s1 σ' H' D b q
 |ret v=>exact q
 |brk=>exact q
 |cont=>exact q
set_option tactic.hygienic true in
theorem qeI(h1:PS X st t):PSs X [st] t:=by
 refine⟨?_⟩;intro Z9 s σ H D I h;refine wpAny_execs_cons (thn (h1 Z9 s σ H D I h) λf s1 q=>?_);cases f with
 |next=>exact mn q
 |ret v=>exact q
 |brk=>exact q
 |cont=>exact q
theorem Inv.quiet(I:Inv X Z9 σ H s):interactive X.env=false:=by simp[interactive,I.ok.kind]
def qjU(te:TE):TS:=λD σ H=>te σ H λ_ H1=>D.nx σ H1
theorem qeJ(i:PE X e te)(hs:lK e iQ pos.line X.env=pure false:=by rfl):PS X (.Expr e pos) (qjU te):=by refine⟨?_⟩;intro Z9 s σ H D I h;exact wpAny_Expr_any (thn (i Z9 s σ H _ I h) λv s1 ⟨x,H1,d,r1,q⟩=>⟨σ,H1,d,q⟩) I.quiet hs
def qlC(te:TE):TS:=λD σ H=>te σ H D.rt
theorem qg3(i:PE X e te):PS X (.Return (iO e) pos) (qlC te):=by refine⟨?_⟩;intro Z9 s σ H D I h;exact wpAny_Return_some (thn (i Z9 s σ H _ I h) λv s1 ⟨x,H1,d,r1,q⟩=>⟨x,σ,H1,d,r1,q⟩)
def qlD(c:TT)(t u:TS):TS:=λD σ H=>c σ H λb H1=>if b=iT then t D σ H1 else u D σ H1
theorem qjV{a b:List Z3}(f:PT X c tc)(i:PSs X a t)(g:PSs X b u):PS X (.If c a b pos) (qlD tc t u):=by
 refine⟨?_⟩;intro Z9 s σ H D I h;refine wpAny_If (thn (f Z9 s σ H _ I h) λd s1 z=>?_);obtain⟨H1,e,q⟩:=z;cases d with
 |true=>exact i Z9 s1 σ H1 D e q
 |false=>exact g Z9 s1 σ H1 D e q
end
abbrev TG:=V->St->Hp->(St->Hp->Prop)->Prop
abbrev TGs:=List V->St->Hp->(St->Hp->Prop)->Prop
structure PG(X:Cx)(target:Z4)(t:TG):Prop where
 run:∀(Z9:Pns)(s:iV)(σ:St)(H:Hp)(v:V)(u:iR)(Q:St->Hp->Prop),Inv X Z9 σ H s->RelV v u->t v σ H Q ->iW (Z6 X.prog X.w) X.A (assign target X.env u) (λ_ s'=>∃σ' H',Inv X Z9 σ' H' s'/\Q σ' H') X.xe s
instance{X:Cx}{target:Z4}{t:TG}:CoeFun (PG X target t) (λ_=>∀(Z9:Pns)(s:iV)(σ:St)(H:Hp)(v:V)(u:iR)(Q:St->Hp->Prop),Inv X Z9 σ H s->RelV v u->t v σ H Q ->iW (Z6 X.prog X.w) X.A (assign target X.env u) (λ_ s'=>∃σ' H',Inv X Z9 σ' H' s'/\Q σ' H') X.xe s):=⟨λh=>h.run⟩
structure PGs(X:Cx)(ts:List Z4)(t:TGs):Prop where
 run:∀(Z9:Pns)(s:iV)(σ:St)(H:Hp)(vs:List V)(us:List iR)(Q:St->Hp->Prop),Inv X Z9 σ H s->Vals vs us->t vs σ H Q ->iW (Z6 X.prog X.w) X.A (assignInOrder ((lH ts X.env).map (·.2)) us) (λ_ s'=>∃σ' H',Inv X Z9 σ' H' s'/\Q σ' H') X.xe s
instance{X:Cx}{ts:List Z4}{t:TGs}:CoeFun (PGs X ts t) (λ_=>∀(Z9:Pns)(s:iV)(σ:St)(H:Hp)(vs:List V)(us:List iR)(Q:St->Hp->Prop),Inv X Z9 σ H s->Vals vs us->t vs σ H Q ->iW (Z6 X.prog X.w) X.A (assignInOrder ((lH ts X.env).map (·.2)) us) (λ_ s'=>∃σ' H',Inv X Z9 σ' H' s'/\Q σ' H') X.xe s):=⟨λh=>h.run⟩
variable{es:List Z4}
section
def qg4(i:Nat):TG:=λv σ H Q=>Q (σ.set i (iO v)) H
theorem qeK(a:X.N.Nodup)(hi:X.N[i]?=iO x)(hx:Loc X.env.scope x)(f:X.fn x=iT\/X.env.scope.names.lookup x=iO .local:=by first|exact .inl rfl|exact .inr rfl|assumption):PG X (.Name x pos) (qg4 i):=by refine⟨?_⟩;intro Z9 s σ H v u Q I r h;exact wpAny_assign_Name (UG I a hi hx r (λs' b=>⟨_,H,b,h⟩) f)
def qlE:TGs:=λvs σ H Q=>vs=[]/\Q σ H
def qjW(t:TG)(u:TGs):TGs:=λvs σ H Q=>∃v r,vs=v::r/\t v σ H λσ' H'=>u r σ' H' Q
theorem qeL:PGs X [] qlE:=by refine⟨?_⟩;intro Z9 s σ H vs us Q I r h;obtain⟨e,h⟩:=h;subst e;cases r;exact assignInOrder_nil ⟨σ,H,I,h⟩
theorem qb4{t:TG}{u:TGs}(h1:PG X e t)(h2:PGs X es u)(hs:(lH (e::es) X.env).map (·.2)=assign e X.env::(lH es X.env).map (·.2):=by rfl):PGs X (e::es) (qjW t u):=by
 refine⟨?_⟩;intro Z9 s σ H vs us Q I r h;obtain⟨v,vr,e1,h⟩:=h;subst e1;cases r with
 |cons r a=>rw[hs];refine assignInOrder_cons (thn (h1 Z9 s σ H _ _ _ I r h) λ_ s1 z=>?_);obtain⟨σ1,H1,d,q⟩:=z;exact h2 Z9 s1 σ1 H1 _ _ Q d a q
def qlF(K:Y8)(n:Nat)(t:TGs):TG:=λv σ H Q=>∃a xs,v=.ref a/\SqT K H a xs/\xs.length=n/\t xs σ H Q
theorem qg5{k:Nat}{t:TGs}{n:Nat}(f:X.calm=iT)(h:PGs X es t)(hn:(lH es X.env).length=n:=by rfl)(c:(lH es X.env).findIdx? (·.1)=none:=by rfl):PG X (.Tuple es k pos) (qlF X.K n t):=by
 refine⟨?_⟩;intro Z9 s σ H v u Q I r w;obtain⟨a,xs,e1,hq,hl,w⟩:=w;subst e1;cases r;obtain⟨its,d,ht,z⟩:=I.tuple hq;refine assign_Tuple_tuple (I.ok.hd f) ht (by simp[hn,<-hl,d.length]) c λh' hx=>?_;have g:Inv X Z9 σ H { s with heap:=h' }:=I.kept (t':=s.toks) λb o e=>hx b o (aC (ax e)) e;exact h Z9 _ σ H xs _ Q g (by simpa using d) w
def qlG(te:TE)(g:TG):TS:=λD σ H=>te σ H λx H1=>g x σ H1 D.nx
theorem qdF{pos':Pos}(b:X.N.Nodup)(hi:X.N[i]?=iO x)(hx:Loc X.env.scope x)(a:PE X e te)(hs:lK e (iO (.Name x pos')) pos.line X.env=pure false:=by rfl)(f:X.fn x=iT\/X.env.scope.names.lookup x=iO .local:=by first|exact .inl rfl|exact .inr rfl|assumption):PS X (.Assign [.Name x pos'] e pos) (qlG te (qg4 i)):=by refine⟨?_⟩;intro Z9 s σ H D I h;refine wpAny_Assign_Name (thn (a Z9 s σ H _ I h) λv s1 z=>?_) hs;obtain⟨y,H1,d,r1,q⟩:=z;exact UG d b hi hx r1 (λs2 c=>⟨_,H1,c,q⟩) f
end
variable{tb:TS}{body:List Z3}
section
def qg6(c:TT)(tb:TS):TS:=λD σ H=>∃W:Nat->St->Hp->Prop,(∃m,W m σ H)/\∀m σ H,W m σ H ->c σ H λb H1=>if b=iT then ∃N:St->Hp->Prop,(∀σ' H',N σ' H'->∃f,f<m/\W f σ' H')/\tb { D with nx:=N,ct:=N,bk:=D.nx } σ H1 else D.nx σ H1
set_option tactic.hygienic true in
theorem qb5(hp:PassesOwn (Z6 X.prog X.w) X.A X.env X.xe)(u:PT X c tc)(x:PSs X body tb):PS X (.While c body [] pos) (qg6 tc tb):=by
 refine⟨?_⟩;intro Z9 s σ H D I h;obtain⟨W,⟨m0,r⟩,t⟩:=h;refine wpAny_While (codeAny_whileLoop (λn s'=>∃σ' H',Inv X Z9 σ' H' s'/\W n σ' H') ?_ m0 ⟨σ,H,I,r⟩);rintro n s1 ⟨σ1,H1,y,p⟩;refine lx hp (thn (u Z9 s1 σ1 H1 _ y (t n σ1 H1 p)) λb s2 z=>?_);obtain⟨H2,o,e⟩:=z;cases b with
 |true=>
  obtain⟨N,l,e⟩:=e;rw[Aa rfl];refine lx hp (thn (x Z9 s2 σ1 H2 _ o e) λf s3 q=>?_);cases f with
  |next=>obtain⟨a,d,k,i⟩:=q;obtain⟨m,j,g⟩:=l a d i;exact⟨m,j,a,d,k,g⟩
  |cont=>obtain⟨a,d,k,i⟩:=q;obtain⟨m,j,g⟩:=l a d i;exact⟨m,j,a,d,k,g⟩
  |brk=>exact q
  |ret v=>exact q
 |false=>rw[Ab bQ];exact mn ⟨σ1,H2,o,e⟩
end
structure It where
 go:Nat->Hp->Prop
 yld:Nat->Hp->V->Hp->Prop
 stop:Nat->Hp->Prop
def Wu(X:Cx)(Z9:Pns)(H:Hp)(b:Z7):Prop:=
 H b=iQ/\b≠X.env.locals/\b∉X.fs/\(b∈X.ex\/X.s₀.heap.objs.size<=b)/\(∀x c,X.env.cells.lookup x=iO c->c≠b)/\∀p∈X.pn++Z9,p.1≠b
theorem Inv.fpOk(I:Inv X Z9 σ H s)(d:s.heap.objs.size<=b)(hn:H' b=iQ):Wu X Z9 H' b:=by
 refine⟨hn,du (aI I.lt d),I.nofs d,.inr (be I.sz d),λx c e z=>?_,λp hp z=>?_⟩;·obtain⟨v,q⟩:=I.cell x c e;exact absurd (aI q.lt (by rw[z];exact d)) (bF _)
 .exact absurd (aI (ax (I.pin p hp).1) (by rw[z];exact d)) (bF _)
structure Turn(P:iZ)(w:i3)(K:Y8)(tg:Z4)(J:It)(fp:List Z7)(it:Z7)(tn:Nat->Z5->Prop):Prop where
 mem:it∈fp
 obj:∀i h,tn i h->∀b∈fp,∃o,h.get? b=iO o/\∀v,o.data≠.cell v
 keep:∀i h h',tn i h->(∀b∈fp,∀o,h.get? b=iO o->h'.get? b=iO o)->tn i h'
 item:∀(X:Cx),X.prog=P->X.w=w->X.K=K->X.calm=iT->∀(i:Nat)(Z9:Pns)(s:iV)(σ:St)(H:Hp)(E:iR->iV->Prop),Inv X Z9 σ H s->(∀b∈fp,Wu X Z9 H b)->tn i s.heap->J.go i H ->iW (Z6 P w) X.A (lR (.ref it)) (λr s1=>∃u,r=iO u /\
   iW (Z6 P w) X.A (mq tg (.ref it) u) (λ_ s2=>∃x H',Inv X Z9 σ H' s2/\RelV x u/\J.yld i H x H'/\tn (i+1) s2.heap/\∀b∈fp,H' b=iQ) E s1) E s
 done:∀(X:Cx),X.prog=P->X.w=w->X.K=K->X.calm=iT->∀(i:Nat)(Z9:Pns)(s:iV)(σ:St)(H:Hp)(E:iR->iV->Prop),Inv X Z9 σ H s->(∀b∈fp,Wu X Z9 H b)->tn i s.heap->J.stop i H ->iW (Z6 P w) X.A (lR (.ref it)) (λr s1=>r=iQ/\Inv X Z9 σ H s1) E s
 self:∀(A:j4)(i:Nat)(s:iV)(Q:iR->iV->Prop)(E:iR->iV->Prop),tn i s.heap->Q (.ref it) s->iW (Z6 P w) A (m9 (.ref it)) Q E s
abbrev TI:=St->Hp->(It->Hp->Prop)->Prop
def PIE(X:Cx)(Z9:Pns)(σ:St)(tg:Z4)(R:It->Hp->Prop)(i:iR)(s2:iV):Prop:=
 ∃(it:Z7)(fp:List Z7)(tn:Nat->Z5->Prop)(J:It)(H':Hp),i=.ref it/\Inv X Z9 σ H' s2/\Turn X.prog X.w X.K tg J fp it tn/\tn 0 s2.heap/\(∀b∈fp,Wu X Z9 H' b)/\R J H'
structure PI(X:Cx)(tg iter:Z4)(wi:TI):Prop where
 run:∀(Z9:Pns)(s:iV)(σ:St)(H:Hp)(R:It->Hp->Prop),Inv X Z9 σ H s->wi σ H R ->iW (Z6 X.prog X.w) X.A (Y9 iter X.env) (λv s1=>iW (Z6 X.prog X.w) X.A (m9 v) (PIE X Z9 σ tg R) X.xe s1) X.xe s
instance{X:Cx}{tg iter:Z4}{wi:TI}:CoeFun (PI X tg iter wi) (λ_=>∀(Z9:Pns)(s:iV)(σ:St)(H:Hp)(R:It->Hp->Prop),Inv X Z9 σ H s->wi σ H R ->iW (Z6 X.prog X.w) X.A (Y9 iter X.env) (λv s1=>iW (Z6 X.prog X.w) X.A (m9 v) (PIE X Z9 σ tg R) X.xe s1) X.xe s):=⟨λh=>h.run⟩
theorem qb6 {M:Model} {A:j4} {E:iR->iV->Prop} {tg:Z4} {u:iR} {o:Obj} {n:String} {vs:Array iR} {Q:Unit->iV->Prop} (l:s.heap.get? it=iO o) (d:o.cls=.type n) (hd:o.data=.fields vs)
    (hn:["enumerate","zip","dict_itemiterator","dict_reverseitemiterator","odict_iterator","itertools.zip_longest","itertools.pairwise"].contains n=iS) (c:Q () s):iW M A (mq tg (.ref it) u) Q E s:=by
  unfold mq;cases tg <;> first
    |exact iU c
    |(cases u <;> first
        |exact iU c
        | (refine iP (wpAny_load l ?_)
           rw[d,hd];show iW M A (if (["enumerate","zip","dict_itemiterator","dict_reverseitemiterator","odict_iterator","itertools.zip_longest","itertools.pairwise"].contains n&&vs[0]? == iO (k9 _))=iT then _ else _) Q E s;rw[Ab (by intro h;rw[hn,Bool.false_and]at h;cases h)];exact iU c))
noncomputable def Itl(K:Y8)(a:Z7):It:=
 ⟨λi H=>∃xs x,SqL K H a xs/\xs[i]?=iO x,λi H x H'=>H'=H/\∀xs,SqL K H a xs->xs[i]?=iO x,λi H=>∃xs,SqL K H a xs/\xs.length<=i⟩
noncomputable def Itt(K:Y8)(a:Z7):It:=
 ⟨λi H=>∃xs x,SqT K H a xs/\xs[i]?=iO x,λi H x H'=>H'=H/\∀xs,SqT K H a xs->xs[i]?=iO x,λi H=>∃xs,SqT K H a xs/\xs.length<=i⟩
noncomputable def Itr(lo:Int)(n:Nat):It:=⟨λi _=>i<n,λi H x H'=>H'=H/\x=.int (lo+i),λi _=>n<=i⟩
variable{tg:Z4}
theorem ZK(a it:Z7):Turn P w K tg (Itl K a) [it] it (λi h=>h.IsListIter it a i) where
 mem:=by simp
 obj:=λi h st b f=>by
  have e:b=it:=by simpa using f
  subst e;obtain⟨o,e,c,d⟩:=st;exact⟨o,e,λv z=>by rw[d]at z;cases z⟩
 keep:=λi h h' st k=>st.at λo e=>k it (by simp) o e
 item:=by intro X m l n y i Z9 s σ H E I j st hg;subst m l n;obtain⟨xs,x,hq,hx⟩:=hg;obtain⟨its,r,p,C⟩:=I.list hq;obtain⟨u,G,B⟩:=r.get hx;obtain⟨f0,f1,f2,t,f4,q⟩:=j it (by simp);refine wpAny_pyNext_list_item st p.isList (x:=u) (by simpa using G) λh' g A=>?_;have L:Inv X Z9 σ H { s with heap:=h' }:=I.turned (t':=s.toks) (λb o f e=>(A.2 b f).trans e) f0 f1 t f4 q;obtain⟨o,e,c,d⟩:=id g;exact⟨u,rfl,qb6 (s:={ s with heap:=h' }) e c d (by decide) ⟨x,H,L,B,⟨rfl,λys D=>by rw[I.list_inj D hq];exact hx⟩,g,λb f=>(j b f).1⟩⟩
 done:=by intro X m l n y i Z9 s σ H E I j st hg;subst m l n;obtain⟨xs,hq,hx⟩:=hg;obtain⟨its,r,p,C⟩:=I.list hq;obtain⟨f0,f1,f2,t,f4,q⟩:=j it (by simp);have hl:=r.length;exact wpAny_pyNext_list_end (I.ok.hd y) st p.isList (by simp;lia) λh' J=>⟨rfl,I.turned (t':=s.toks) (λb o f e=>J b o f e) f0 f1 t f4 q⟩
 self:=λ_ _ _ _ _ st h=>wpAny_pyIter_listiter st h
theorem Xz(a it:Z7):Turn P w K tg (Itt K a) [it] it (λi h=>h.IsTupleIter it a i) where
 mem:=by simp
 obj:=λi h st b f=>by
  have e:b=it:=by simpa using f
  subst e;obtain⟨o,e,c,d⟩:=st;exact⟨o,e,λv z=>by rw[d]at z;cases z⟩
 keep:=λi h h' st k=>st.at λo e=>k it (by simp) o e
 item:=by intro X m l n y i Z9 s σ H E I j st hg;subst m l n;obtain⟨xs,x,hq,hx⟩:=hg;obtain⟨its,r,p,C⟩:=I.tuple hq;obtain⟨u,G,B⟩:=r.get hx;obtain⟨f0,f1,f2,t,f4,q⟩:=j it (by simp);refine wpAny_pyNext_tuple_item st (show s.heap.IsTuple a its.toArray from p) (x:=u) (by simpa using G) λh' g A=>?_;have L:Inv X Z9 σ H { s with heap:=h' }:=I.turned (t':=s.toks) (λb o f e=>(A.2 b f).trans e) f0 f1 t f4 q;obtain⟨o,e,c,d⟩:=id g;exact⟨u,rfl,qb6 (s:={ s with heap:=h' }) e c d (by decide) ⟨x,H,L,B,⟨rfl,λys D=>by rw[I.tuple_inj D hq];exact hx⟩,g,λb f=>(j b f).1⟩⟩
 done:=by intro X m l n y i Z9 s σ H E I j st hg;subst m l n;obtain⟨xs,hq,hx⟩:=hg;obtain⟨its,r,p,C⟩:=I.tuple hq;obtain⟨f0,f1,f2,t,f4,q⟩:=j it (by simp);have hl:=r.length;exact wpAny_pyNext_tuple_end (I.ok.hd y) st (show s.heap.IsTuple a its.toArray from p) (by simp;lia) λh' J=>⟨rfl,I.turned (t':=s.toks) (λb o f e=>J b o f e) f0 f1 t f4 q⟩
 self:=λ_ _ _ _ _ st h=>wpAny_pyIter_tupleiter st h
theorem XA(it:Z7)(lo:Int)(n:Nat):Turn P w K tg (Itr lo n) [it] it (λi h=>IsRangeIter h it (lo+(i:Nat) * 1) ((n:Int) - (i:Nat)) 1) where
 mem:=by simp
 obj:=λi h st b d=>by
  have e:b=it:=by simpa using d
  subst e;exact⟨_,st,λv z=>by have p:Data.fields _=Data.cell v:=z;cases p⟩
 keep:=λi h h' st k=>k it (by simp) _ st
 item:=by intro X m a j c i Z9 s σ H E I f st hg;subst m a j;obtain⟨f0,f1,f2,l,f4,q⟩:=f it (by simp);have W:=Walks.range (prog:=X.prog) (w:=X.w) (I.ok.hd c) it lo 1 n;refine W.item i s _ _ hg st λv h' tk u g r=>?_;obtain⟨t,rfl⟩:=u;have x:Inv X Z9 σ H { s with heap:=h',toks:=tk }:=I.turned (λb o d e=>r b o (by simpa using d) e) f0 f1 l f4 q;refine⟨_,rfl,qb6 (s:={ s with heap:=h',toks:=tk }) (n := "range_iterator") g rfl rfl (by decide) ⟨.int (lo+i),H,x,⟨t,?_⟩,⟨rfl,rfl⟩,g,λb d=>(f b d).1⟩⟩;rw[Int.mul_one]
 done:=by intro X m a j c i Z9 s σ H E I f st hg;subst m a j;obtain⟨f0,f1,f2,l,f4,q⟩:=f it (by simp);exact wpAny_pyNext_range_end (I.ok.hd c) st (by have:n<=i:=hg;lia) λh' J=>⟨rfl,I.turned (t':=s.toks) (λb o d e=>J b o d e) f0 f1 l f4 q⟩
 self:=λ_ _ _ _ _ st h=>wpAny_pyIter_rangeiter st h
variable{p:Pos}{fp:List Z7}
section
theorem UH{R:It->Hp->Prop}{E:iR->iV->Prop}{lo hi:Int}{t u v:Tok}{tk:Nat}(I:Inv X Z9 σ H s)(h1:-(2 ^ 62)<=lo)(h2:lo<2 ^ 62)(g:-(2 ^ 62)<=hi)(a:hi<2 ^ 62)(q:R (Itr lo (hi - lo).toNat) H):iW (Z6 X.prog X.w) X.A (m9 (.ref s.heap.objs.size)) (PIE X Z9 σ tg R) E { s with heap:=s.heap.push { cls:=.type "range",data:=.fields #[.int lo t,.int hi u,.int 1 v] },toks:=tk }:=by
 refine wpAny_pyIter_range (iG ..) (small_one h1 h2 g a) ?_;have d:Inv X Z9 σ H { s with heap:=s.heap.push { cls:=.type "range",data:=.fields #[.int lo t,.int hi u,.int 1 v] },toks:=tk }:=I.kept λb o e=>aa _ e;refine⟨(s.heap.push { cls:=.type "range",data:=.fields #[.int lo t,.int hi u,.int 1 v] }).objs.size,[(s.heap.push { cls:=.type "range",data:=.fields #[.int lo t,.int hi u,.int 1 v] }).objs.size],_,_,H,rfl,d.kept (t':=tk) λb o e=>aa _ e,XA _ lo (hi - lo).toNat,?_,λb h=>?_,q⟩
 .have e1:lo+((0:Nat):Int) * 1=lo:=by simp
  have i:(((hi - lo).toNat:Nat):Int) - ((0:Nat):Int)=b7 lo hi 1:=by rw[rangeSize_one];split <;> lia
  show IsRangeIter _ _ (lo+((0:Nat):Int) * 1) ((((hi - lo).toNat:Nat):Int) - ((0:Nat):Int)) 1;rw[e1,i];exact ak _ rfl
 .have e:b=(s.heap.push { cls:=.type "range",data:=.fields #[.int lo t,.int hi u,.int 1 v] }).objs.size:=by simpa using h
  subst e;exact d.fpOk (ap _) (d.hok.fresh (ap _))
def qjX(ta:TA):TI:=λσ H R=>ta σ H λvs H1=>∃j:Int,vs=[.int j]/\-(2 ^ 62)<=j/\j<2 ^ 62/\R (Itr 0 j.toNat) H1
def qjY(ta:TA):TI:=λσ H R=>ta σ H λvs H1=>∃i j:Int,vs=[.int i,.int j]/\(-(2 ^ 62)<=i/\i<2 ^ 62/\-(2 ^ 62)<=j/\j<2 ^ 62)/\R (Itr i (j - i).toNat) H1
theorem ZL{a:Z4}{ta:TA}(hg:Gl X "range")(m:X.mg "range"=iQ)(g:PA X [a] ta)(hs:iX [a] X.env=[(iS,Y9 a X.env)]:=by rfl):PI X tg (.Call (.Name "range" p) [a] [] pos) (qjX ta):=by
 refine⟨?_⟩;intro Z9 s σ H R I h;refine Call_ (uG I hg m boot_range (bC (thn (g pos Z9 s σ H _ I h) λus s1 z=>?_) hs rfl));obtain⟨vs,H1,f,r1,b⟩:=z;obtain⟨j,e,b,d,q⟩:=b;subst e;cases r1 with
 |cons r c=>cases c;obtain⟨t,rfl⟩:=r;exact call_range_1 (UH f (by lia) (by lia) b d (by simpa using q))
theorem ZM{a b:Z4}{ta:TA}{p pos:Pos}(hg:Gl X "range")(m:X.mg "range"=iQ)(n:PA X [a,b] ta)(hs:iX [a,b] X.env=[(iS,Y9 a X.env),(iS,Y9 b X.env)]:=by rfl)(c:iX [b] X.env=[(iS,Y9 b X.env)]:=by rfl):PI X tg (.Call (.Name "range" p) [a,b] [] pos) (qjY ta):=by
 refine⟨?_⟩;intro Z9 s σ H R I h;refine Call_ (uG I hg m boot_range (bC (thn (n pos Z9 s σ H _ I h) λus s1 z=>?_) (by rw[hs,c]) (by rw[c];rfl)));obtain⟨vs,H1,o,r1,f⟩:=z;obtain⟨i,j,e,⟨f,l,k,g⟩,q⟩:=f;subst e;cases r1 with
 |cons r d=>
  cases d with
  |cons r' d=>cases d;obtain⟨t,rfl⟩:=r;obtain⟨t',rfl⟩:=r';exact call_range_2 (UH o f l k g q)
def qlH(wi:TI)(g:TG)(tb:TS):TS:=λD σ H=>wi σ H λJ H1=>∃W:Nat->Nat->St->Hp->Prop,(∃m,W 0 m σ H1)/\∀i m σ H,W i m σ H ->(J.stop i H/\D.nx σ H)\/(J.go i H/\∃N:St->Hp->Prop,(∀σ' H',N σ' H'->∃f,f<m/\W (i+1) f σ' H')/\∀x H',J.yld i H x H'->g x σ H' λa H2=>tb { D with nx:=N,ct:=N,bk:=D.nx } a H2)
noncomputable def Ko(fp:List Z7)(h:Z5):Pns:=fp.filterMap λb=>(h.get? b).map λo=>(b,o)
theorem ul{o:Obj}(d:b∈fp)(e:h.get? b=iO o):(b,o)∈Ko fp h:=d8.mpr ⟨b,d,by rw[e];rfl⟩
theorem ZN{p:Z7×Obj}(hp:p∈Ko fp h):p.1∈fp/\h.get? p.1=iO p.2:=by
 obtain⟨b,d,e⟩:=d8.mp hp;cases q:h.get? b with
 |none=>rw[q]at e;cases e
 |some o=>rw[q]at e;have a:(b,o)=p:=aL.inj e;subst a;exact⟨d,q⟩
theorem Inv.pinned(I:Inv X Z9 σ H s)(f:∀b∈fp,Wu X Z9 H b)(l:∀b∈fp,∃o,s.heap.get? b=iO o/\∀v,o.data≠.cell v):Inv X (Z9++Ko fp s.heap) σ H s:=
 I.pins_of λp hp=>(af.mp hp).elim (λz=>I.pin p (aR _ z)) λz=>by obtain⟨h,e⟩:=ZN z;obtain⟨f0,f1,f2,_⟩:=f p.1 h;obtain⟨o,a,d⟩:=l p.1 h;rw[e]at a;cases a;exact⟨e,f0,f1,f2,d⟩
theorem Inv.unpinned{pl:Pns}(I:Inv X (Z9++pl) σ H s):Inv X Z9 σ H s:=I.pins_of λp hp=>I.pin p (aR _ (bP _ hp))
set_option tactic.hygienic true in
theorem qg7{iter:Z4}{wi:TI}{g:TG}{pos:Pos}(hp:PassesOwn (Z6 X.prog X.w) X.A X.env X.xe)(R:X.calm=iT)(hi:PI X tg iter wi)(hg:PG X tg g)(j:PSs X body tb)(hs:∀x,lA iter X.env x=pure x:=by intro _;rfl):PS X (.For tg iter body [] pos) (qlH wi g tb):=by
 refine⟨?_⟩;intro Z9 s σ H D I h;refine wpAny_For (thn (hi Z9 s σ H _ I h) λv s1 h1=>thn h1 λitv s2 h2=>?_) hs;obtain⟨it,fp,tn,J,H2,e,I2,T,M,f2,W,⟨m0,F⟩,B⟩:=h2;subst e;have t:∀{H':Hp},(∀b∈fp,H' b=iQ)->∀b∈fp,Wu X Z9 H' b:=λhn b j=>⟨hn b j,(f2 b j).2⟩
 refine codeAny_forLoop_any (λn s'=>∃i σ' H',Inv X Z9 σ' H' s'/\tn i s'.heap/\(∀b∈fp,H' b=iQ)/\W i n σ' H') ?_ m0 ⟨0,σ,H2,I2,M,λb j=>(f2 b j).1,F⟩;rintro n s3 ⟨i,c,K,S,C,G,Z⟩;rcases B i n c K Z with⟨stop,qn⟩|⟨go,N,hN,step⟩
 .refine lx hp (thn (T.done X rfl rfl rfl R i Z9 s3 c K X.xe S (t G) C stop) λr s4 z=>?_);obtain⟨hr,I4⟩:=z;subst hr;exact mn ⟨c,K,I4,qn⟩
 .refine lx hp (thn (T.item X rfl rfl rfl R i Z9 s3 c K X.xe S (t G) C go) λr s4 z=>?_);obtain⟨u,hr,h4⟩:=z;subst hr;refine lx hp (thn h4 λ_ s5 z=>?_);obtain⟨x,U,I5,r5,V,y,P⟩:=z;have Q:=I5.pinned (t P) (T.obj _ _ y);refine lx hp (thn (hg _ s5 c U x u _ Q r5 (step x U V)) λ_ s6 z=>?_);obtain⟨L,H6,I6,q6⟩:=z;refine lx hp (thn (j _ s6 L H6 _ I6 q6) λf O q=>?_);have k:∀{a:St}{p:Hp},Inv X (Z9++Ko fp s5.heap) a p O->N a p->∃m,m<n/\∃i σ' H',Inv X Z9 σ' H' O/\tn i O.heap/\(∀b∈fp,H' b=iQ)/\W i m σ' H':=λ{a p} l E=>by obtain⟨m',hm,Y⟩:=hN a p E;refine⟨m',hm,i+1,a,p,l.unpinned,T.keep _ _ _ y λb j o e=>(l.pin (b,o) (aR _ (aR _ (ul j e)))).1,λb j=>?_,Y⟩;obtain⟨o,e,d⟩:=T.obj _ _ y b j;exact(l.pin (b,o) (aR _ (aR _ (ul j e)))).2.1
  cases f with
  |next=>obtain⟨a,p,l,E⟩:=q;exact k l E
  |cont=>obtain⟨a,p,l,E⟩:=q;exact k l E
  |brk=>obtain⟨a,p,l,q⟩:=q;exact⟨a,p,l.unpinned,q⟩
  |ret v=>obtain⟨x7,a,p,l,r7,q⟩:=q;exact⟨x7,a,p,l.unpinned,r7,q⟩
end
abbrev R2:=V->V->Hp->VK->Prop
def OpR(X:Cx)(f:iR->iR->Sem iR)(r:R2):Prop:=
 ∀(Z9:Pns)(s:iV)(σ:St)(H:Hp)(x y:V)(v u:iR)(Q:VK),Inv X Z9 σ H s->RelV x v->RelV y u->r x y H Q ->iW (Z6 X.prog X.w) X.A (f v u) (EP X Z9 σ Q) X.xe s
def UnR(X:Cx)(f:iR->Sem iR)(r:V->Hp->VK->Prop):Prop:=
 ∀(Z9:Pns)(s:iV)(σ:St)(H:Hp)(x:V)(v:iR)(Q:VK),Inv X Z9 σ H s->RelV x v->r x H Q ->iW (Z6 X.prog X.w) X.A (f v) (EP X Z9 σ Q) X.xe s
def vG(X:Cx)(f:iR)(r:List V->Hp->VK->Prop):Prop:=
 ∀(Z9:Pns)(s:iV)(σ:St)(H:Hp)(xs:List V)(us:List iR)(Q:VK),Inv X Z9 σ H s->Vals xs us->r xs H Q ->iW (Z6 X.prog X.w) X.A (call f us) (EP X Z9 σ Q) X.xe s
def qlI(X:Cx)(r:V->Hp->(Bool->Hp->Prop)->Prop):Prop:=
 ∀(Z9:Pns)(s:iV)(σ:St)(H:Hp)(x:V)(v:iR)(Q:Bool->Hp->Prop),Inv X Z9 σ H s->RelV x v->r x H Q ->iW (Z6 X.prog X.w) X.A (truthy v) (TP X Z9 σ Q) X.xe s
def tOp(r:R2)(ta tb:TE):TE:=λσ H Q=>ta σ H λx H1=>tb σ H1 λy H2=>r x y H2 Q
def tUn(r:V->Hp->VK->Prop)(ta:TE):TE:=λσ H Q=>ta σ H λx H1=>r x H1 Q
def rI(C:Int->Int->Prop)(g:Int->Int->V):R2:=λx y H Q=>∃i j,x=.int i/\y=.int j/\C i j/\Q (g i j) H
def rI0(g:Int->Int->V):R2:=λx y H Q=>∃i j,x=.int i/\y=.int j/\Q (g i j) H
def rU(g:Int->V):V->Hp->VK->Prop:=λx H Q=>∃i,x=.int i/\Q (g i) H
variable{r:R2}
section
variable{a b:Z4}{tb tc:TE}
theorem qjZ(j:PE X a ta)(i:PE X b tb){R:V->V->Hp->Prop}(I:Inv X Z9 σ H s)(h:ta σ H λx H1=>tb σ H1 λy H2=>R x y H2){Q:iR->iV->Prop}{f:iR->iR->Sem iR}(g:∀v u s2 x y H2,Inv X Z9 σ H2 s2->RelV x v->RelV y u->R x y H2->iW (Z6 X.prog X.w) X.A (f v u) Q X.xe s2) :
  iW (Z6 X.prog X.w) X.A (Y9 a X.env) (λv d=>iW (Z6 X.prog X.w) X.A (Y9 b X.env) (λu c=>iW (Z6 X.prog X.w) X.A (f v u) Q X.xe c) X.xe d) X.xe s:=by
 refine thn (j Z9 s σ H _ I h) λv s1 z=>?_;obtain⟨x,H1,l,r1,q⟩:=z;refine thn (i Z9 s1 σ H1 _ l q) λu s2 z=>?_;obtain⟨y,H2,k,r2,e⟩:=z;exact g v u s2 x y H2 k r1 r2 e
theorem qj0{op:Operator}(l:OpR X (lB op) r)(g:PE X a ta)(e:PE X b tb):PE X (.BinOp a op b pos) (tOp r ta tb):=by refine⟨?_⟩;intro Z9 s σ H Q I h;exact wpAny_BinOp (qjZ g e I h λv u s2 x y H2 f d c q=>l Z9 s2 σ H2 x y v u Q f d c q)
theorem qj1{op:UnaryOp}{r:V->Hp->VK->Prop}(l:UnR X (unaryOp op) r)(g:PE X a ta):PE X (.UnaryOp op a pos) (tUn r ta):=by refine⟨?_⟩;intro Z9 s σ H Q I h;exact UnaryOp_ (thn (g Z9 s σ H _ I h) λv s1 ⟨x,H1,d,r1,q⟩=>l Z9 s1 σ H1 x v Q d r1 q)
theorem opI{f:iR->iR->Sem iR}{C:Int->Int->Prop}{g:Int->Int->Int}(r:∀(i j:Int)(t u:Tok)(s:iV)(Q:iR->iV->Prop)(E:iR->iV->Prop),C i j->Q (.int (g i j) s.toks) { s with toks:=s.toks+1 }->iW (Z6 X.prog X.w) X.A (f (.int i t) (.int j u)) Q E s) :
  OpR X f (rI C λi j=>.int (g i j)):=by
 intro Z9 s σ H x y v u Q I d c h;obtain⟨i,j,rfl,rfl,a,q⟩:=h;obtain⟨t,rfl⟩:=d;obtain⟨t',rfl⟩:=c;exact r i j t t' s _ _ a ⟨.int (g i j),H,I.tok _,⟨_,rfl⟩,q⟩
theorem qk2{f:iR->iR->Sem iR}{g:Int->Int->Int}(r:∀(i j:Int)(t u:Tok)(s:iV)(Q:iR->iV->Prop)(E:iR->iV->Prop),Q (.int (g i j) s.toks) { s with toks:=s.toks+1 }->iW (Z6 X.prog X.w) X.A (f (.int i t) (.int j u)) Q E s) :
  OpR X f (rI0 λi j=>.int (g i j)):=by
 intro Z9 s σ H x y v u Q I d c h;obtain⟨i,j,rfl,rfl,q⟩:=h;obtain⟨t,rfl⟩:=d;obtain⟨t',rfl⟩:=c;exact r i j t t' s _ _ ⟨.int (g i j),H,I.tok _,⟨_,rfl⟩,q⟩
theorem qjr{f:iR->iR->Sem iR}{g:Int->Int->Bool}(r:∀(i j:Int)(t u:Tok)(s:iV)(Q:iR->iV->Prop)(E:iR->iV->Prop),Q (.bool (g i j)) s->iW (Z6 X.prog X.w) X.A (f (.int i t) (.int j u)) Q E s) :
  OpR X f (rI0 λi j=>.bl (g i j)):=by
 intro Z9 s σ H x y v u Q I d c h;obtain⟨i,j,rfl,rfl,q⟩:=h;obtain⟨t,rfl⟩:=d;obtain⟨t',rfl⟩:=c;exact r i j t t' s _ _ ⟨.bl (g i j),H,I,rfl,q⟩
def qk3(i j:Int):Prop:=0<j/\j<1073741824
def qk4(i j:Int):Prop:=0<=j/\j<=1000000/\i.natAbs<2 ^ 64
def CMul(i j:Int):Prop:=(-(2 ^ 64)<i/\i<2 ^ 64)\/(-(2 ^ 64)<j/\j<2 ^ 64)
theorem CMul.ok{i j:Int}(h:CMul i j):IntMulOk i j:=by
 rcases h with⟨h1,h2⟩|⟨h1,h2⟩
 .exact .of_left (intBits_le_64 h1 h2)
 .exact .of_right (intBits_le_64 h1 h2)
theorem qg8:OpR X (lB .Add) (rI0 λi j=>.int (i+j)):=qk2 λ_ _ _ _ _ _ _ q=>add_int q
theorem qg9:OpR X (lB .Sub) (rI0 λi j=>.int (i - j)):=qk2 λ_ _ _ _ _ _ _ q=>sub_int q
theorem qha:OpR X (lB .Mult) (rI CMul λi j=>.int (i * j)):=opI λ_ _ _ _ _ _ _ d q=>mul_int q d.ok
theorem qhb:OpR X (lB .Mod) (rI (λ_ j=>0<j) λi j=>.int (i % j)):=opI λi j _ _ _ _ _ d q=>by have h1:(0:Int)<j:=d;exact mod_int' (by lia) (by rw[Int.fmod_eq_emod_of_nonneg i (by lia)];exact q)
theorem unI{f:iR->Sem iR}{g:Int->Int}(r:∀(i:Int)(t:Tok)(s:iV)(Q:iR->iV->Prop)(E:iR->iV->Prop),Q (.int (g i) s.toks) { s with toks:=s.toks+1 }->iW (Z6 X.prog X.w) X.A (f (.int i t)) Q E s) :
  UnR X f (rU λi=>.int (g i)):=by
 intro Z9 s σ H x v Q I d h;obtain⟨i,rfl,q⟩:=h;obtain⟨t,rfl⟩:=d;exact r i t s _ _ ⟨.int (g i),H,I.tok _,⟨_,rfl⟩,q⟩
theorem qhc:UnR X (unaryOp .USub) (rU λi=>.int (-i)):=unI λ_ _ _ _ _ q=>neg_int q
end
variable{op op':CmpOp}{r':R2}
section
variable{a b:Z4}{tb tc:TE}
theorem UI{Q:VK}{k k':Bool}(I:Inv X Z9 σ H s)(q:Q (.bl k) H)(e:k=k'):EP X Z9 σ Q (.bool k') s:=by subst e;exact⟨.bl k,H,I,rfl,q⟩
theorem qj2:OpR X (i6 .Lt) (rI0 λi j=>.bl (decide (i<j))):=qjr λ_ _ _ _ _ _ _ q=>lt_int q
theorem qj3:OpR X (i6 .LtE) (rI0 λi j=>.bl (decide (i<=j))):=qjr λ_ _ _ _ _ _ _ q=>le_int q
theorem qj4:OpR X (i6 .Gt) (rI0 λi j=>.bl (decide (j<i))):=qjr λ_ _ _ _ _ _ _ q=>gt_int q
theorem qj5:OpR X (i6 .GtE) (rI0 λi j=>.bl (decide (j<=i))):=qjr λ_ _ _ _ _ _ _ q=>ge_int q
theorem ZO:OpR X (i6 .Lt) (λx y H Q=>∃i j,x=.str i/\y=.str j/\Q (.bl (decide (i.cps.toList<j.cps.toList))) H):=by intro Z9 s σ H x y v u Q I d c h;obtain⟨i,j,rfl,rfl,q⟩:=h;obtain⟨t,rfl⟩:=d;obtain⟨t',rfl⟩:=c;exact lt_str (UI I q rfl)
theorem qhd:OpR X (i6 .Is) (λx y H Q=>y=.non/\Q (.bl (decide (x=.non))) H):=by
 intro Z9 s σ H x y v u Q I d c h;obtain⟨rfl,q⟩:=h;cases c;refine is_none_gen (UI I q ?_);cases x <;> first
  |(cases d;rfl)
  |(obtain⟨t,rfl⟩:=d;rfl)
theorem qeM:OpR X (i6 .IsNot) (λx y H Q=>y=.non/\Q (.bl (!decide (x=.non))) H):=by
 intro Z9 s σ H x y v u Q I d c h;obtain⟨rfl,q⟩:=h;cases c;refine isnot_none_gen (UI I q ?_);cases x <;> first
  |(cases d;rfl)
  |(obtain⟨t,rfl⟩:=d;rfl)
theorem qdG(b:Z4)(h:op≠.In:=by decide)(h2:op≠.NotIn:=by decide):lS op b=false:=by
 have e1:(op == CmpOp.In)=false:=by cases op <;> first|rfl|exact absurd rfl h
 have i:(op == CmpOp.NotIn)=false:=by cases op <;> first|rfl|exact absurd rfl h2
 cases b <;> simp[lS,e1,i]
theorem qeN(l:OpR X (i6 op) r)(g:PE X a ta)(e:PE X b tb)(m:lS op b=iS):PE X (.Compare a [op] [b] pos) (tOp r ta tb):=by refine⟨?_⟩;intro Z9 s σ H Q I h;exact wpAny_Compare1 (qjZ g e I h λv u s2 x y H2 f d c q=>l Z9 s2 σ H2 x y v u Q f d c q) m
def qhe(t:TE):TT:=λσ H Q=>t σ H λx H'=>∃k,x=.bl k/\Q k H'
theorem qeO(l:OpR X (i6 op) r)(i:PE X a ta)(g:PE X b tb)(m:lS op b=iS):PT X (.Compare a [op] [b] pos) (qhe (tOp r ta tb)):=by
 refine⟨?_⟩;intro Z9 s σ H Q I h;refine wpAny_isTrue_Compare1 (thn (i Z9 s σ H _ I h) λv s1 ⟨x,H1,o,r1,f⟩=>thn (g Z9 s1 σ H1 _ o f) λu s2 ⟨y,H2,n,r2,d⟩=>
  thn (l Z9 s2 σ H2 x y v u _ n r1 r2 d) λc s3 ⟨z,p,j,r3,k,e,q⟩=>?_) m
 subst e;cases r3;exact lh ⟨p,j,q⟩
def ZP(r r':R2)(ta tb tc:TE):TE:=λσ H Q=>ta σ H λx H1=>tb σ H1 λy H2=>r x y H2 λz d=>∃k,z=.bl k /\
 (if k=iT then tc σ d λS a=>r' y S a Q else Q (.bl iS) d)
theorem qb7(o:OpR X (i6 op) r)(f:OpR X (i6 op') r')(A:PE X a ta)(w:PE X b tb)(t:PE X c tc)(n:lastMarks [op,op'] [b,c]=false:=by with_unfolding_all rfl):PE X (.Compare a [op,op'] [b,c] pos) (ZP r r' ta tb tc):=by
 refine⟨?_⟩;intro Z9 s σ H Q I h;refine Compare_chain (thn (A Z9 s σ H _ I h) λv s1 ⟨x,H1,D,r1,m⟩=>chain_link (thn (w Z9 s1 σ H1 _ D m) λu s2 ⟨y,H2,C,r2,l⟩=>
  thn (o Z9 s2 σ H2 x y v u _ C r1 r2 l) λd s3 ⟨z,i,g,r3,k,e,q⟩=>?_)) n
 subst e;cases r3;refine lh ?_;cases k with
 |false=>exact ite_ff ⟨.bl iS,i,g,rfl,q⟩
 |true=>exact ite_tt (chain_last (thn (t Z9 s3 σ i _ g q) λS s4 ⟨p,E,B,r4,j⟩=>f Z9 s4 σ E y p u S Q B r2 r4 j))
theorem qb8(w:OpR X (i6 op) r)(f:OpR X (i6 op') r')(D:PE X a ta)(C:PE X b tb)(B:PE X c tc)(A:lastMarks [op,op'] [b,c]=false:=by with_unfolding_all rfl):PT X (.Compare a [op,op'] [b,c] pos) (qhe (ZP r r' ta tb tc)):=by
 refine⟨?_⟩;intro Z9 s σ H Q I h;refine isTrue_chain (thn (D Z9 s σ H _ I h) λv s1 ⟨x,H1,M,r1,o⟩=>test_link (thn (C Z9 s1 σ H1 _ M o) λu s2 ⟨y,H2,L,r2,n⟩=>
  thn (w Z9 s2 σ H2 x y v u _ L r1 r2 n) λd s3 ⟨z,i,g,r3,k,e,q⟩=>?_)) A
 subst e;cases r3;refine lh ?_;cases k with
 |false=>obtain⟨k',G,t⟩:=q;cases G;exact ite_ff ⟨i,g,t⟩
 |true=>refine ite_tt (test_last (thn (B Z9 s3 σ i _ g q) λS s4 ⟨p,N,K,r4,m⟩=>thn (f Z9 s4 σ N y p u S _ K r2 r4 m) λd' s5 j=>?_));obtain⟨z2,U,J,r5,k2,E,l⟩:=j;subst E;cases r5;exact lh ⟨U,J,l⟩
def qj6(K:Y8)(x:V)(H:Hp)(k:Bool):Prop:=
 match x with
 |.non=>k=iS
 |.bl b=>k=b
 |.int i=>k=(i != 0)
 |.str y=>y.length<=Z8/\k=((y.length:Int) != 0)
 |.byt y=>y.size<=Z8/\k=((y.size:Int) != 0)
 |.ref p=>(∃xs,SqL K H p xs/\k=!xs.isEmpty)\/(∃xs,SqT K H p xs/\k=!xs.isEmpty)\/∃kvs,H p=iO (.dK kvs)/\k=!kvs.isEmpty
 |_=>False
theorem XB{κ:Type}{kvs:List (κ×V)}{vs:List (κ×iR)}(r:KV kvs vs):(!vs.isEmpty)=!kvs.isEmpty:=by cases r <;> rfl
theorem Qd{its:List iR}(r:Vals xs its):(!its.toArray.isEmpty)=!xs.isEmpty:=by cases r <;> simp
theorem Kp:(Z8:Nat)<2 ^ 63:=by rw[i5];decide
theorem qhf:qlI X (λx H Q=>∃k,qj6 X.K x H k/\Q k H):=by
 intro Z9 s σ H x v Q I d h;obtain⟨k,e,q⟩:=h;have hl:=Kp;have hs:Z8=16777216:=i5;cases x with
 |non=>cases d;have a:k=false:=e;subst a;exact truthy_none ⟨H,I,q⟩
 |bl b=>cases d;have a:k=b:=e;subst a;exact lh ⟨H,I,q⟩
 |int i=>obtain⟨t,rfl⟩:=d;have a:k=(i != 0):=e;subst a;exact PySem.P.truthy_int ⟨H,I,q⟩
 |str y=>obtain⟨t,rfl⟩:=d;obtain⟨hy,a⟩:y.length<=Z8/\k=((y.length:Int) != 0):=e;subst a;exact PySem.P.truthy_str (by lia) ⟨H,I.tok _,q⟩
 |byt y=>obtain⟨t,rfl⟩:=d;obtain⟨hy,a⟩:y.size<=Z8/\k=((y.size:Int) != 0):=e;subst a;exact PySem.W.truthy_bytes (by lia) ⟨H,I.tok _,q⟩
 |ref p=>
  cases d;have a:(∃xs,SqL X.K H p xs/\k=!xs.isEmpty)\/(∃xs,SqT X.K H p xs/\k=!xs.isEmpty)\/∃kvs,H p=iO (.dK kvs)/\k=!kvs.isEmpty:=e;rcases a with⟨xs,hx,a⟩|⟨xs,hx,a⟩|⟨kvs,hx,a⟩
  .subst a;obtain⟨its,r,pl,z⟩:=I.list hx;have n:=r.length;exact wpAny_truthy_list pl.isList (by simp only[au];lia) ⟨H,I.tok _,by rw[Qd r];exact q⟩
  .subst a;obtain⟨its,r,pl,z⟩:=I.tuple hx;have n:=r.length;exact truthy_tuple pl (by simp only[au];lia) ⟨H,I.tok _,by rw[Qd r];exact q⟩
  .subst a;obtain⟨z,hS,vs,r,m⟩:kvs.length<=Z8/\(p == lm)=iS/\∃vs,KV kvs vs/\s.heap.DictOf (jp X.prog X.w) p vs:=I.hok p _ hx;have n:kvs.length=vs.length:=fX r;exact wpAny_truthy_dict hS m (by lia) ⟨H,I.tok _,by rw[XB r];exact q⟩
 |_=>exact(show False from e).elim
theorem qb9(g:PE X a ta)(i:∀whole,isTrue a X.env whole=(do let v <-whole;standAt a.pos;holding [v] (truthy v))):PT X a (λσ H Q=>ta σ H λx H'=>∃k,qj6 X.K x H' k/\Q k H'):=by refine⟨?_⟩;intro Z9 s σ H Q I h;exact isTrue_plain (thn (g Z9 s σ H _ I h) λv s1 ⟨x,H1,d,r1,q⟩=>qhf Z9 s1 σ H1 x v Q d r1 q) (i _)
theorem XC:OpR X (lB .Add) (λx y H Q=>∃i j,x=.str i/\y=.str j/\i.length+j.length<=Z8/\Q (.str (i++j)) H):=by intro Z9 s σ H x y v u Q I d c h;obtain⟨i,j,rfl,rfl,z,q⟩:=h;obtain⟨t,rfl⟩:=d;obtain⟨t',rfl⟩:=c;exact add_str (λt' tk=>⟨.str (i++j),H,I.tok _,⟨_,rfl⟩,q⟩) z
theorem wv{x:V}(r:Vals [x] us):∃u,us=[u]/\RelV x u:=by
 cases r with
 |cons r1 r2=>cases r2;exact⟨_,rfl,r1⟩
theorem qca{x y:V}(r:Vals [x,y] us):∃u S,us=[u,S]/\RelV x u/\RelV y S:=by
 cases r with
 |cons r1 r2=>
  cases r2 with
  |cons r3 r4=>cases r4;exact⟨_,_,rfl,r1,r3⟩
theorem ZQ(d:X.calm=iT):vG X (.builtin "max") (λxs H Q=>∃i j,xs=[.int i,.int j]/\Q (.int (if j > i then j else i)) H):=by
 intro Z9 s σ H xs us Q I r h;obtain⟨i,j,rfl,q⟩:=h;obtain⟨u,S,rfl,⟨t,rfl⟩,⟨t',rfl⟩⟩:=qca r;refine max_two_ints (I.ok.hd d) λh' tk k=>⟨_,H,I.kept k,?_,q⟩
 by_cases D:j > i;·rw[Aa D,Aa D];exact⟨_,rfl⟩
 .rw[Ab D,Ab D];exact⟨_,rfl⟩
theorem ZR(d:X.calm=iT):vG X (.builtin "min") (λxs H Q=>∃i j,xs=[.int i,.int j]/\Q (.int (if j<i then j else i)) H):=by
 intro Z9 s σ H xs us Q I r h;obtain⟨i,j,rfl,q⟩:=h;obtain⟨u,S,rfl,⟨t,rfl⟩,⟨t',rfl⟩⟩:=qca r;refine min_two_ints (I.ok.hd d) λh' tk k=>⟨_,H,I.kept k,?_,q⟩
 by_cases D:j<i;·rw[Aa D,Aa D];exact⟨_,rfl⟩
 .rw[Ab D,Ab D];exact⟨_,rfl⟩
def qlJ(K:Y8)(x:V)(H:Hp)(n:Nat):Prop:=
 match x with
 |.str y=>y.length<=Z8/\n=y.length
 |.byt y=>y.size<=Z8/\n=y.size
 |.ref p=>(∃xs,SqL K H p xs/\n=xs.length)\/∃xs,SqT K H p xs/\n=xs.length
 |_=>False
theorem QS:vG X (.builtin "len") (λxs H Q=>∃x n,xs=[x]/\qlJ X.K x H n/\Q (.int n) H):=by
 intro Z9 s σ H xs us Q I r h;obtain⟨x,n,rfl,e,q⟩:=h;obtain⟨u,rfl,d⟩:=wv r;have hl:=Kp;have hs:Z8=16777216:=i5;cases x with
 |str y=>obtain⟨t,rfl⟩:=d;obtain⟨hy,b⟩:y.length<=Z8/\n=y.length:=e;subst b;exact len_str (by lia) ⟨.int _,H,I.tok _,⟨_,rfl⟩,q⟩
 |byt y=>obtain⟨t,rfl⟩:=d;obtain⟨hy,b⟩:y.size<=Z8/\n=y.size:=e;subst b;exact PySem.W.len_bytes (by lia) ⟨.int _,H,I.tok _,⟨_,rfl⟩,q⟩
 |ref p=>
  cases d;have b:(∃xs,SqL X.K H p xs/\n=xs.length)\/∃xs,SqT X.K H p xs/\n=xs.length:=e;rcases b with⟨xs,hx,b⟩|⟨xs,hx,b⟩
  .subst b;obtain⟨its,r',pl,z⟩:=I.list hx;have a:=r'.length;exact Calls.call_len_list pl.isList (by simp only[au];lia) ⟨.int xs.length,H,I.tok _,⟨_,by simp only[au];rw[a]⟩,q⟩
  .subst b;obtain⟨its,r',pl,z⟩:=I.tuple hx;have a:=r'.length;exact len_tuple pl (by simp only[au];lia) ⟨.int xs.length,H,I.tok _,⟨_,by simp only[au];rw[a]⟩,q⟩
 |_=>exact(show False from e).elim
end
theorem RelO.some_of{o:Option iR}(r:RelO (iO v) o):∃u,o=iO u/\RelV v u:=by
 cases o with
 |none=>exact(show False from r).elim
 |some u=>exact⟨u,rfl,r⟩
structure Room(k:Nat)(A:j4):Prop where
 hd:A.handled=iQ
 dp:A.depth+3 * k+5<recursionLimit
 un:A.units+16 * k+200<k4
theorem Room.mono{j k:Nat}(r:Room k A)(h:j<=k):Room j A:=⟨r.hd,by have:=r.dp;lia,by have:=r.un;lia⟩
theorem Room.deeper{k:Nat}(r:Room (k+1) A)(env:Env):Room k (A.deeper env):=
 ⟨r.hd,by have:=r.dp;show A.depth+1+3 * k+5<_;lia,by have:=r.un;show A.units+3+16 * k+200<_;lia⟩
theorem Room.depth{k:Nat}(r:Room k A):A.depth<recursionLimit:=by have:=r.dp;lia
theorem Room.units{k:Nat}(r:Room k A):A.units+64<k4:=by have:=r.un;lia
def qjs:TA:=λ_ H Q=>Q [] H
def qcb(ta:TE)(tr:TA):TA:=λσ H Q=>ta σ H λx H1=>tr σ H1 λxs H2=>Q (x::xs) H2
variable{t:TA}
section
theorem jq:PA X [] qjs:=⟨λ_ _ _ _ H Q I h=>fM ⟨[],H,I,.nil,h⟩⟩
theorem qI(g:PE X e te)(hr:PA X es t)(hs:iX (e::es) X.env=(iS,Y9 e X.env)::iX es X.env:=by rfl):PA X (e::es) (qcb te t):=by refine⟨?_⟩;intro pos Z9 s σ H Q I h;rw[hs];show iW _ _ (spliced ((iS,Y9 e X.env)::lq pos (iX es X.env))) _ _ s;refine fG (thn (g Z9 s σ H _ I h) λu s1 z=>?_);obtain⟨x,H1,d,r1,a⟩:=z;exact thn (hr pos Z9 s1 σ H1 _ d a) λus s2 ⟨xs,H2,c,r2,q⟩=>⟨x::xs,H2,c,.cons r1 r2,q⟩
def qlK(t:TA):TE:=λσ H Q=>t σ H λxs H1=>xs.length<=Z8/\∀p,H1 p=iQ->Q (.ref p) (upd H1 p (.tup xs))
def qlL(t:TA):TE:=λσ H Q=>t σ H λxs H1=>xs.length<=Z8/\∀p,H1 p=iQ->Q (.ref p) (upd H1 p (.lst xs))
theorem qhg{x1}(h:PA X es t):PE X (.Tuple es x1 pos) (qlK t):=by refine⟨?_⟩;intro Z9 s σ H Q I hq;refine wpAny_Tuple_spliced (thn (h pos Z9 s σ H _ I hq) λus s1 ⟨xs,H1,d,r,z,q⟩=>⟨by rw[<-r.length];exact z,?_⟩);have f:H1 s1.heap.objs.size=none:=d.hok.fresh (ap _);refine⟨.ref s1.heap.objs.size,upd H1 s1.heap.objs.size (.tup xs),d.laid (t':=s1.toks) (λb u e=>aa _ e) (ap _) ?_,rfl,q _ f⟩;exact⟨⟨z,_,ak _ rfl,rfl⟩,us,r,⟨_,ak _ rfl,rfl,_,rfl⟩⟩
theorem qhh(h:PA X es t):PE X (.List es pos) (qlL t):=by refine⟨?_⟩;intro Z9 s σ H Q I hq;refine wpAny_List_spliced (thn (h pos Z9 s σ H _ I hq) λus s1 ⟨xs,H1,d,r,z,q⟩=>⟨by rw[<-r.length];exact z,?_⟩);have f:H1 s1.heap.objs.size=none:=d.hok.fresh (ap _);refine⟨.ref s1.heap.objs.size,upd H1 s1.heap.objs.size (.lst xs),d.laid (t':=s1.toks) (λb u e=>aa _ e) (ap _) ?_,rfl,q _ f⟩;exact⟨z,us,0,r,ak _ rfl⟩
end
abbrev Sp:=List V->Hp->VK->XK->Prop
abbrev CXT:=List Env->Hp->iV->XK->iR->iV->Prop
structure Env0(P:iZ)(w:i3)(K:Y8)(mg:Str->Option iR)(base:Z5)(A:j4)(outer:List Env)(s:iV)(H:Hp):Prop where
 frames:A.frames=iO outer
 mod:Mod K mg base
 bs:∀b o,base.get? b=iO o->s.heap.get? b=iO o/\H b=iQ
 bsz:base.objs.size<=s.heap.objs.size
 funs:s.heap.FunFrames base outer
 frf:∀b∈frs outer,H b=iQ
 hok:HOk P w H s.heap
 bare:mC s.gens
def CE(outer:List Env)(P:iZ)(w:i3)(H:Hp)(s:iV)(Q:VK)(u:iR)(s':iV):Prop:=
 ∃v H',s'.os=s.os/\mC s'.gens/\Un (frs outer) [] H H' s.heap s'.heap/\HOk P w H' s'.heap/\RelV v u/\Q v H'
def CR(CX:CXT)(outer:List Env)(P:iZ)(w:i3)(H:Hp)(s:iV)(Q:VK)(E:XK)(r:Result)(s':iV):Prop:=
 match r with
 |.ok (.ret u)=>CE outer P w H s Q u s'
 |.ok _=>False
 |.error e=>CX outer H s E e s'
structure FnOk(P:iZ)(w:i3)(K:Y8)(mg:Str->Option iR)(base:Z5)(CX:CXT)(k:Nat)(f:Z7)(fd:lN)(ps:List Str)(sp:Sp):Prop where
 len:∀vs H Q E,sp vs H Q E->vs.length=ps.length
 run:∀(A:j4)(outer:List Env)(s:iV)(H:Hp)(args:Args)(us:List iR)(vs:List V)(Q:VK)(E:XK),Room k A->Env0 P w K mg base A outer s H->nq s fd args (ps.zip us)->Vals vs us->sp vs H Q E ->lV (Z6 P w) A (.call (.ref f) args) (CR CX outer P w H s Q E) s
variable{CX:CXT}{f:Z7}{fd:lN}{ps:List Str}{sp:Sp}
theorem FnOk.imp{mg:Str->Option iR}{base:Z5}{k:Nat}{a:Sp}(F:FnOk P w K mg base CX k f fd ps sp)(h:∀vs H Q E,a vs H Q E->sp vs H Q E):FnOk P w K mg base CX k f fd ps a:=
 ⟨λvs H Q E q=>F.len vs H Q E (h _ _ _ _ q),λA outer s H args us vs Q E hr i d c hs=>F.run A outer s H args us vs Q E hr i d c (h _ _ _ _ hs)⟩
section
theorem Inv.env0(I:Inv X Z9 σ H s):Env0 X.prog X.w X.K X.mg X.base X.A X.stack s H:=
 ⟨I.ok.frames,I.ok.mod,I.bs,be I.ok.bsz I.sz,I.stack,I.stkFree,I.hok,I.bare⟩
theorem Inv.after{Q:VK}(I:Inv X Z9 σ H s)(h:CE X.stack X.prog X.w H s Q u s'):EP X Z9 σ Q u s':=by obtain⟨v,H',os,bare,un,hok,r,q⟩:=h;obtain⟨a,g,d,t,o⟩:=s';obtain rfl:o=s.os:=os;exact⟨v,H',I.call (h':=a) (g':=g) (d':=d) (t':=t) (ch:=[]) un hok bare (λb z=>absurd z (by simp)),r,q⟩
end
def qhi(sp:Sp)(dvs:List V)(E:XK)(t:TA):TE:=λσ H Q=>t σ H λvs H1=>sp (vs++dvs) H1 Q E
def Binds(K:Y8)(fd:lN)(ps:List Str)(ds:List iR):Prop:=
 ∀(s:iV)(us:List iR),K.In s.heap->(us++ds).length=ps.length->nq s fd ⟨us,[]⟩ (ps.zip (us++ds))
theorem Binds.all(h:∀us:List iR,us.length=ps.length->bindArgs fd ⟨us,[]⟩=pure (ps.zip us)):Binds K fd ps []:=λs us _ hl=>by rw[bg]at hl ⊢;exact .of_eq (h us hl)
def yi(CX:CXT)(X:Cx)(E:XK):Prop:=∀(Z9:Pns)(σ:St)(H:Hp)(s:iV)(e:iR)(s':iV),Inv X Z9 σ H s->CX X.stack H s E e s'->X.xe e s'
variable{apos:Pos}
section
variable{k:Nat}{C:Z7}{dvs:List V}{ds:List iR}{E:XK}{m:Str}{o:Z4}
set_option tactic.hygienic true in
theorem qdH{Z9:Pns}{σ:St}{H:Hp}{s:iV}{Q:VK}{us:List iR}{vs:List V}(F:FnOk X.prog X.w X.K X.mg X.base CX k f fd ps sp)(hr:Room k X.A)(d:Binds X.K fd ps ds)(hd:Vals dvs ds)(hx:yi CX X E)(I:Inv X Z9 σ H s)(r:Vals vs us)(h:sp (vs++dvs) H Q E):iW (Z6 X.prog X.w) X.A (call (.ref f) us) (EP X Z9 σ Q) X.xe s:=by
 have r2:Vals (vs++dvs) (us++ds):=r.append hd;have hl:(us++ds).length=ps.length:=by rw[<-r2.length];exact F.len _ _ _ _ h
 refine wpAny_call (mD (F.run X.A X.stack s H ⟨us,[]⟩ (us++ds) (vs++dvs) Q E hr I.env0 (d s us I.kIn hl) r2 h) λr s' hq=>?_);cases r with
 |error e=>exact hx Z9 σ H s e s' I hq
 |ok l=>
  cases l with
  |ret u=>exact I.after hq
  |next=>exact dJ hq
  |brk=>exact dJ hq
  |cont=>exact dJ hq
theorem qeP(F:FnOk X.prog X.w X.K X.mg X.base CX k f fd ps sp)(hr:Room k X.A)(hg:Gl X x)(c:X.mg x=iO (.ref f))(a:keepIn X.K (.ref f)=iT)(g:Binds X.K fd ps ds)(hd:Vals dvs ds)(hx:yi CX X E)(j:PA X (e::es) t)(b:Dbg x:=by decide)(i:iX (e::es) X.env=(iS,Y9 e X.env)::iX es X.env:=by rfl)(l:(lq pos (iX es X.env)).any (·.1)=false:=by rfl) :
  PE X (.Call (.Name x p) (e::es) [] pos) (qhi sp dvs E t):=by
 refine⟨?_⟩;intro Z9 s σ H Q I h;refine lf (QR I hg c ?_ b);refine PySem.W.callWith_K (h₀:=X.base) I.ok.mod.kin a (thn (j pos Z9 s σ H _ I h) λus s1 ⟨vs,H1,d,r,q⟩=>⟨d.kIn,?_⟩) i l;exact qdH F hr g hd hx d r q
theorem qcc(F:FnOk X.prog X.w X.K X.mg X.base CX k f fd ps sp)(hr:Room k X.A)(hg:Gl X x)(c:X.mg x=iO (.ref f))(a:keepIn X.K (.ref f)=iT)(d:Binds X.K fd ps ds)(hd:Vals dvs ds)(hx:yi CX X E)(b:Dbg x:=by decide):PE X (.Call (.Name x p) [] [] pos) (qhi sp dvs E qjs):=by
 refine⟨?_⟩;intro Z9 s σ H Q I h;refine lf (QR I hg c ?_ b);exact PySem.W.callWith_K0 I.kIn a (qdH (us:=[]) F hr d hd hx I .nil h)
end
section
variable{k:Nat}{C:Z7}{ks:List Str}{E:XK}{m:Str}{kpos:Pos}{o:Z4}{kws:List lv}{tk:TA}{nm:Option Str}
variable{g:List iR->List iR->List iR}{gV:List V->List V->List V}
end
structure FnScope(N P:List Str)(sc:mf):Prop where
 kind:sc.kind=.function
 co:sc.isCoroutine=iS
 gen:sc.isGenerator=iS
 nd:N.Nodup
 pre:N.take P.length=P
 par:∀x∈P,sc.names.lookup x=iO .local\/sc.names.lookup x=iO .cell
 nofree:∀y∈sc.names,y.2≠.free
variable{kindOf:Str->Option lF}
theorem Kq:∀{binds:List (Str×iR)}{m:Str->Option iR},(∀v,(x,v)∉binds)->bindL kindOf binds m x=m x
 |[],_,_=>rfl
 | (n,v)::r,m,h=>by
  unfold bindL;rw[Kq λw a=>h w (ac _ a)];split
  .have:x≠n:=by rintro rfl;exact h v ai
   simp[this]
  .rfl
theorem Kr:∀{binds:List (Str×iR)}{m:Str->Option iR},(∀v,(x,v)∉binds)->bindC kindOf binds m x=m x
 |[],_,_=>rfl
 | (n,v)::r,m,h=>by
  unfold bindC;rw[Kr λw a=>h w (ac _ a)];split;·rfl
  .have:x≠n:=by rintro rfl;exact h v ai
   simp[this]
theorem Ks{kindOf:Str->Option lF}{x:Str}{v:iR}:∀{P:List Str}{vs:List iR}{i:Nat}{m:Str->Option iR},P.Nodup->P[i]?=iO x->vs[i]?=iO v->kindOf x=iO .local ->bindL kindOf (P.zip vs) m x=iO v
 |[],_,_,_,_,h,_,_=>by simp at h
 |_::_,[],_,_,_,_,h,_=>by simp at h
 |p::P,w::vs,0,m,nd,h1,h2,hk=>by simp at h1 h2;subst h1;subst h2;show bindL kindOf ((p,w)::P.zip vs) m p=_;unfold bindL;rw[Kq λv c=>(aP.mp nd).1 (cR c).1,Aa hk];simp
 |p::P,w::vs,i+1,m,nd,h1,h2,hk=>by show bindL kindOf ((p,w)::P.zip vs) m x=_;unfold bindL;exact Ks (i:=i) (aP.mp nd).2 (by simpa using h1) (by simpa using h2) hk
theorem Kt{kindOf:Str->Option lF}{x:Str}{v:iR}:∀{P:List Str}{vs:List iR}{i:Nat}{m:Str->Option iR},P.Nodup->P[i]?=iO x->vs[i]?=iO v->kindOf x≠iO .local ->bindC kindOf (P.zip vs) m x=iO v
 |[],_,_,_,_,h,_,_=>by simp at h
 |_::_,[],_,_,_,_,h,_=>by simp at h
 |p::P,w::vs,0,m,nd,h1,h2,hk=>by simp at h1 h2;subst h1;subst h2;show bindC kindOf ((p,w)::P.zip vs) m p=_;unfold bindC;rw[Kr λv c=>(aP.mp nd).1 (cR c).1,Ab hk];simp
 |p::P,w::vs,i+1,m,nd,h1,h2,hk=>by show bindC kindOf ((p,w)::P.zip vs) m x=_;unfold bindC;exact Kt (i:=i) (aP.mp nd).2 (by simpa using h1) (by simpa using h2) hk
noncomputable def wx(N:List Str)(vs:List V):St:=vs.map iO++fH (N.length - vs.length) iQ
def qeQ(CX:CXT)(P:iZ)(w:i3)(K:Y8)(mg:Str->Option iR)(base:Z5)(N:List Str)(qual:Str)(scope:mf)(f:Z7)(cd:iR)(A:j4)(outer:List Env)(s:iV)(H:Hp)(E:XK):Cx where
 prog:=P
 w:=w
 K:=K
 mg:=mg
 base:=base
 A:=A.deeper (mI qual scope s.heap.objs.size f cd)
 N:=N
 s₀:=s
 H₀:=H
 env:=mI qual scope s.heap.objs.size f cd
 outer:=outer
 stack:=mI qual scope s.heap.objs.size f cd::outer
 ex:=[]
 calm:=iT
 fn:=λ_=>iT
 pn:=[]
 xe:=λe s'=>iW (Z6 P w) (A.deeper (mI qual scope s.heap.objs.size f cd)) (leaving (mI qual scope s.heap.objs.size f cd) e) (λ_ a=>CX outer H s E e a) (λb a=>CX outer H s E b a) s'
theorem UJ{sc:mf}{n:Nat}(h:sc.names.lookup x=iO .cell):∃c,(cellsFrom n sc.names []).lookup x=iO c:=by have q:=PySem.W.cellsFrom_some sc.names n [] (.inl h);exact Option.isSome_iff_exists.mp q
theorem ZT{CX:CXT}{P:iZ}{w:i3}{K:Y8}{mg:Str->Option iR}{base:Z5}{N ps:List Str}{qual:Str}{scope:mf}{f:Z7}{cd:iR}{A:j4}{outer:List Env}{s s1:iV}{H:Hp}{E:XK}{us:List iR}{vs:List V}(S:FnScope N ps scope)(hd:A.handled=iQ)(e0:Env0 P w K mg base A outer s H)(hl:vs.length=ps.length)(r:Vals vs us)(x:InCallC s s.heap.objs.size (bindL (mI qual scope s.heap.objs.size f cd).kindOf (ps.zip us) λ_=>iQ) (cellsFrom (s.heap.objs.size+1) scope.names []) (bindC (mI qual scope s.heap.objs.size f cd).kindOf (ps.zip us) λ_=>iQ) s1) :
  Inv (qeQ CX P w K mg base N qual scope f cd A outer s H E) [] (wx N vs) H s1:=by
 have o:ps.length<=N.length:=by have:=congrArg iH S.pre;rw[bj]at this;lia
 obtain⟨h1,tk,rfl,l⟩:=x.done;have d:∀b:Z7,b∉(qeQ CX P w K mg base N qual scope f cd A outer s H E).ex:=λb z=>absurd (show b∈([]:List Z7)from z) (by simp);refine⟨⟨e0.mod,S.kind,rfl,rfl,ap _,λy z c h1 h2=>?_,λy D=>?_,λy c _ h=>?_,λ_=>hd,Around.frames_deeper e0.frames,.inr ⟨rfl,rfl⟩,λb z=>absurd z (d b),e0.bs,e0.bsz,λb _ _=>d b,λb z=>absurd z (d b),e0.funs,e0.frf⟩,rfl,e0.bare,Un.kept l,⟨_,x.toInCall.ns,λi y v h1 h2 B=>?_⟩,λy c h=>⟨_,x.cell y c h⟩,e0.hok.fresh (ap _),λy c h=>?_,λp hp=>absurd (show p∈([]:Pns)from hp) (by simp),e0.hok.kept l,?_⟩;·exact name_of_addr x.apart (df h1) (df h2)
 .have D:scope.names.lookup y=iO .cell\/scope.names.lookup y=iO .free:=D;rcases D with D|D;·exact UJ D
  .exact absurd rfl (S.nofree _ (df D))
 .exact cX (x.above y c (df h))
 .have hi:i<vs.length:=by
   unfold wx at h2;by_cases hi:i<vs.length;·exact hi
   .rw[ce (by simpa using hi)]at h2;rw[ei]at h2;split at h2 <;> cases h2
  have t:vs[i]?=iO v:=by
   unfold wx at h2;rw[cP (by simpa using hi),aG]at h2;cases e:vs[i]? with
   |none=>rw[e]at h2;cases h2
   |some a=>rw[e]at h2;cases h2;rfl
  obtain⟨u,j,m⟩:=r.get t;have hp:ps[i]?=iO y:=by rw[<-S.pre,List.getElem?_take_of_lt (by lia)];exact h1
  have g:ps.Nodup:=by rw[<-S.pre];exact S.nd.sublist (List.take_sublist _ _)
  refine⟨u,m,?_⟩;rcases S.par y (aV hp)with k|k;·exact .inl ⟨k,Ks g hp j k⟩
  .obtain⟨c,e⟩:=UJ (n:=s.heap.objs.size+1) k;refine .inr ⟨.inl k,c,e,?_⟩;have q:=x.cell y c e;rw[Kt g hp j (by show scope.names.lookup y≠_;rw[k];decide)]at q;exact q
 .exact e0.hok.fresh (cX (x.above y c (df h)))
 .unfold wx;show _=N.length;rw[aj,ao,e6]
  lia
set_option tactic.hygienic true in
theorem qj7{CX:CXT}{P:iZ}{w:i3}{K:Y8}{mg:Str->Option iR}{base:Z5}{k:Nat}{f:Z7}{name qual:Str}{params:Arguments}{body:List Z3}{scope:mf}{g kV doc pm cdv ct oc:iR}{an od:Option Z7}{osl:Array (Option iR)}{N ps:List Str}{sp:Sp}(lk:K.lookup f=iO ⟨oc,od,.func (dv name qual params body scope g kV doc pm an cdv ct),osl⟩)(c:codeIn K cdv qual=iT)(S:FnScope N ps scope)(len:∀vs H Q E,sp vs H Q E->vs.length=ps.length)(a:∀(A:j4)(outer:List Env)(s:iV)(H:Hp)(vs:List V)(Q:VK)(E:XK),Room k (A.deeper (mI qual scope s.heap.objs.size f cdv))->sp vs H Q E ->∃t,PSs (qeQ CX P w K mg base N qual scope f cdv A outer s H E) body t/\t { nx:=λ_ H'=>Q .non H',rt:=Q } (wx N vs) H) :
  FnOk P w K mg base CX (k+1) f (dv name qual params body scope g kV doc pm an cdv ct) ps sp:=by
 refine⟨len,λA outer s H args us vs Q E hr e0 j r p=>?_⟩;have hl:=len _ _ _ _ p;have X:K.In s.heap:=e0.mod.kin.keeps λb o e=>(e0.bs b o e).1;have l:s.heap.NoLimit:=e0.mod.nolimit.keeps λb o e=>(e0.bs b o e).1;have h:∀y∈ps.zip us,scope.names.lookup y.1=iO .local\/(scope.names.lookup y.1=iO .cell/\((cellsFrom (s.heap.objs.size+1) scope.names []).lookup y.1).isSome=iT):=λ⟨n,v⟩ D=>by
  rcases S.par n (cR D).1 with q|q;·exact .inl q
  .exact .inr ⟨q,PySem.W.cellsFrom_some _ _ _ (.inl q)⟩
 refine codeAny_call_function hr.depth (X _ _ lk) rfl S.co S.gen rfl (PySem.W.codeRec_of X c) (j _ _ _ _ ?_);refine wpAny_newFunctionEnv_cells S.kind h λenv i s1 x=>?_;subst i;refine⟨l.keeps x.toInCall.keep,codeAny_func ?_⟩;obtain⟨t,ht,hq⟩:=a A outer s H vs Q E (hr.deeper _) p;have I:Inv (qeQ CX P w K mg base N qual scope f cdv A outer s H E) [] (wx N vs) H s1:=ZT S hr.hd e0 hl r x;refine lM (ht [] s1 (wx N vs) H _ I hq) (λm s' hs=>?_) λe s' hs=>hs;have fin:∀{σ':St}{H':Hp}{v:V}{u:iR},Inv (qeQ CX P w K mg base N qual scope f cdv A outer s H E) [] σ' H' s'->RelV v u->Q v H'->CE outer P w H s Q u s':=
  λ{σ' H' v u} J d q=>⟨v,H',J.os,J.bare,J.base,J.hok,d,q⟩
 cases m with
 |ret u=>obtain⟨v,σ',H',J,d,q⟩:=hs;exact fin J d q
 |next=>obtain⟨σ',H',J,q⟩:=hs;exact fin (v:=V.non) (u:=cH) J rfl q
 |brk=>obtain⟨_,_,_,q⟩:=hs;exact dJ q
 |cont=>obtain⟨_,_,_,q⟩:=hs;exact dJ q
section
variable{id T:String}{r:List V->Hp->VK->Prop}
def tCB(r:List V->Hp->VK->Prop)(t:TA):TE:=λσ H Q=>t σ H λvs H1=>r vs H1 Q
theorem um(d:vG X (.builtin id) r)(hg:Gl X x)(m:X.mg x=iQ)(c:iY x=iO (.builtin id))(g:PA X (e::es) t)(hn:x ≠ "__name__":=by decide)(b:Dbg x:=by decide)(i:iX (e::es) X.env=(iS,Y9 e X.env)::iX es X.env:=by rfl)(l:(lq pos (iX es X.env)).any (·.1)=false:=by rfl):PE X (.Call (.Name x p) (e::es) [] pos) (tCB r t):=by
 refine⟨?_⟩;intro Z9 s σ H Q I h;refine lf (uG I hg m c ?_ hn b);exact PyProof.Rows.callWith_builtin1 (thn (g pos Z9 s σ H _ I h) λus s1 ⟨vs,H1,a,r1,q⟩=>d Z9 s1 σ H1 vs us Q a r1 q) i l
theorem jO(d:vG X (.type T) r)(hg:Gl X x)(m:X.mg x=iQ)(c:iY x=iO (.type T))(g:PA X (e::es) t)(hn:x ≠ "__name__":=by decide)(b:Dbg x:=by decide)(i:iX (e::es) X.env=(iS,Y9 e X.env)::iX es X.env:=by rfl)(l:(lq pos (iX es X.env)).any (·.1)=false:=by rfl):PE X (.Call (.Name x p) (e::es) [] pos) (tCB r t):=by
 refine⟨?_⟩;intro Z9 s σ H Q I h;refine lf (uG I hg m c ?_ hn b);exact bC (thn (g pos Z9 s σ H _ I h) λus s1 ⟨vs,H1,a,r1,q⟩=>d Z9 s1 σ H1 vs us Q a r1 q) i l
end
end L2
namespace HT
open PySem PyProof.Rows
section
open PySem.SeqAt
open PySem.AutoSeq1 (wpAny_loadPart')
open PySem.MeetsSeq PySem.MeetsSeq2 PySem.MeetsSeq3
end
section
variable{prog:iZ}{w:i3}{A:j4}{E:iR->iV->Prop}{s:iV}
theorem cat_tup{t b:Z7}{vs ws:List iR}{Q:iR->iV->Prop}(ht:IsTup s.heap t vs.toArray)(k:IsTup s.heap b ws.toArray)(v:vs≠[])(h1:ws=[]->Q (.ref t) s)(h2:ws≠[]->Q (.ref s.heap.objs.size) { s with heap:=s.heap.push { cls:=.type "tuple",data:=.seq (vs++ws).toArray } })(hsz:vs.length+ws.length<=Z8):iW (Z6 prog w) A (lB .Add (.ref t) (.ref b)) Q E s:=by
 obtain⟨⟨cls,dd,data,sl⟩,l,i,n,hd⟩:=id ht;obtain⟨⟨j,d,g,a⟩,h,c,n2,hd2⟩:=id k;simp only at i hd c hd2;subst i hd c hd2;have e:vs.toArray++ws.toArray=(vs++ws).toArray:=by simp
 by_cases f:ws=[]
 .exact mO ⟨_,l,rfl⟩ ⟨_,h,rfl⟩ noFill_tuple_add seq_tuple_add eI et (d4 _ _)
   (tuple_addW1 t b vs.toArray ws.toArray n n2 dd d sl a (by simpa using v) (by simp[f])) ⟨l,h,h1 f⟩
 .refine mO ⟨_,l,rfl⟩ ⟨_,h,rfl⟩ noFill_tuple_add seq_tuple_add eI et (d4 _ _)
   (tuple_addW2 t b vs.toArray ws.toArray n n2 dd d sl a (by simpa using v) (by simpa using f) (by rw[au,au];exact hsz)) ⟨l,h,?_⟩
  rw[e];exact h2 f
noncomputable def sIx(n d:Nat):Option Int->Nat
 |none=>d
 |some v=>if v<0 then(v+(n:Int)).toNat else min v.toNat n
theorem sIx_none(n d:Nat):sIx n d iQ=d:=rfl
theorem sIx_nat(n d k:Nat):sIx n d (iO (k:Int))=min k n:=by show(if (k:Int)<0 then((k:Int)+(n:Int)).toNat else min (k:Int).toNat n)=min k n;rw[Ab (by lia),fN]
theorem slicePart_{v:iR}{o:Option Int}{Q:Option Int->iV->Prop}(p:mh v o)(h:Q o s):iW (Z6 prog w) A (Builtin.Slice.slicePartIndex v) Q E s:=by
 cases p with
 |none=>exact slicePart_none h
 |int i t=>exact slicePart_int h
end
end HT
namespace L2
open PySem PySem.Spec PyProof.Rows
abbrev TO:=St->Hp->(Option Int->Hp->Prop)->Prop
def PO(X:Cx)(e:Option Z4)(t:TO):Prop:=
 ∀(Z9:Pns)(s:iV)(σ:St)(H:Hp)(Q:Option Int->Hp->Prop),Inv X Z9 σ H s->t σ H Q ->iW (Z6 X.prog X.w) X.A (evalPart e X.env) (λu s'=>∃o H',Inv X Z9 σ H' s'/\mh u o/\Q o H') X.xe s
def qeR:TO:=λ_ H Q=>Q iQ H
def qj8(t:TE):TO:=λσ H Q=>t σ H λx H1=>∃i,x=.int i/\Q (iO i) H1
variable{X:Cx}{e:Z4}{pos:Pos}{xs:List V}{us:List iR}
section
variable{te:TE}{lo hi:Option Z4}{tl th:TO}{p2:Pos}
theorem qeS:PO X iQ qeR:=by intro Z9 s σ H Q I h;rw[evalPart_none];exact iU ⟨iQ,H,I,.none,h⟩
theorem qeT(h:PE X e te):PO X (iO e) (qj8 te):=by intro Z9 s σ H Q I w;rw[evalPart_some];refine thn (h Z9 s σ H _ I w) λu s1 z=>?_;obtain⟨x,H1,d,r1,a⟩:=z;obtain⟨i,rfl,q⟩:=a;obtain⟨t,rfl⟩:=r1;exact⟨iO i,H1,d,.int i t,q⟩
def SlR(X:Cx)(r:V->Option Int->Option Int->Hp->VK->Prop):Prop:=
 ∀(Z9:Pns)(s:iV)(σ:St)(H:Hp)(x:V)(v vl u:iR)(lo hi:Option Int)(sl:Z7)(Q:VK),Inv X Z9 σ H s->RelV x v->s.heap.IsSliceOf sl vl u .none->mh vl lo->mh u hi->r x lo hi H Q ->∃T id,ng (.type T) "__getitem__"=pure (iO (.builtin id))/\s.TypeIs v T/\iW (Z6 X.prog X.w) X.A (mW v (.ref sl)) (EP X Z9 σ Q) X.xe s
def tSl(r:V->Option Int->Option Int->Hp->VK->Prop)(te:TE)(tl th:TO):TE:=λσ H Q=>te σ H λx H1=>tl σ H1 λl H2=>th σ H2 λu d=>r x l u d Q
theorem qcd{r:V->Option Int->Option Int->Hp->VK->Prop}(hr:SlR X r)(j:PE X e te)(hl:PO X lo tl)(i:PO X hi th):PE X (.Subscript e (.Slice lo hi iQ p2) pos) (tSl r te tl th):=by refine⟨?_⟩;intro Z9 s σ H Q I h;refine Subscript_ (thn (j Z9 s σ H _ I h) λv s1 z=>?_);obtain⟨x,H1,o,r1,g⟩:=z;refine wpAny_Slice (thn (hl Z9 s1 σ H1 _ o g) λvl s2 ⟨l,H2,n,pl,f⟩=>thn (i Z9 s2 σ H2 _ n f) λa s3 z=>?_);obtain⟨u,d,m,p,c⟩:=z;rw[evalPart_none];refine iU ?_;have B:Inv X Z9 σ d { s3 with heap:=s3.heap.push { cls:=.type "slice",data:=.fields #[vl,a,.none] } }:=m.kept (t':=s3.toks) λb t q=>aa _ q;obtain⟨T,id,k,ht,hg⟩:=hr Z9 { s3 with heap:=s3.heap.push { cls:=.type "slice",data:=.fields #[vl,a,.none] } } σ d x v vl a l u s3.heap.objs.size Q B r1 (Heap.IsSliceOf.new ..) pl p c;show iW (Z6 X.prog X.w) X.A (subscriptTail e (.Slice lo hi iQ p2) v (.ref s3.heap.objs.size)) (EP X Z9 σ Q) X.xe { s3 with heap:=s3.heap.push { cls:=.type "slice",data:=.fields #[vl,a,.none] } };exact nr (ops:=[.ref s3.heap.objs.size,v]) ht k hg (by with_unfolding_all rfl)
def qeU(xs:List V)(lo hi:Option Int):List V:=(xs.drop (HT.sIx xs.length 0 lo)).take (HT.sIx xs.length xs.length hi - HT.sIx xs.length 0 lo)
theorem WD(xs:List V)(lo hi:Option Int):(qeU xs lo hi).length<=xs.length:=by
 unfold qeU;rw[bj,e9]
 lia
def qj9(K:Y8):R2:=λx y H Q=>∃a b xs ys,x=.ref a/\y=.ref b/\SqT K H a xs/\SqT K H b ys/\xs≠[]/\xs.length+ys.length<=Z8 /\
 (ys=[]->Q (.ref a) H)/\(ys≠[]->∀p,H p=iQ->Q (.ref p) (upd H p (.tup (xs++ys))))
theorem Vals.nil_iff(r:Vals xs us):us=[]↔xs=[]:=by
 cases r with
 |nil=>simp
 |cons _ _=>simp
theorem qeV:OpR X (lB .Add) (qj9 X.K):=by intro Z9 s σ H x y v u Q I d r h;obtain⟨a,b,xs,ys,rfl,rfl,j,g,hx,c,f,e⟩:=h;cases d;cases r;obtain⟨its,r1,p1,_⟩:=I.tuple j;obtain⟨i,r2,p2,_⟩:=I.tuple g;refine HT.cat_tup p1 p2 (λz=>hx (r1.nil_iff.mp z)) (λz=>⟨.ref a,H,I,rfl,f (r2.nil_iff.mp z)⟩) (λz=>?_) (by rw[<-r1.length,<-r2.length];exact c);refine⟨.ref s.heap.objs.size,_,I.laid (t':=s.toks) (o:=.tup (xs++ys)) (λb k q=>aa _ q) (ap _) ?_,rfl,e (λw=>z (r2.nil_iff.mpr w)) _ (I.hok.fresh (ap _))⟩;exact⟨⟨by rw[aj];exact c,_,ak _ rfl,rfl⟩,_,r1.append r2,iF _ _⟩
end
noncomputable def ixN(n:Nat)(i:Int):Option Nat:=if 0<=i then(if i<n then iO i.toNat else iQ)else if -(n:Int)<=i then iO (i+n).toNat else iQ
variable{α:Type}
def atI(xs:List α)(i:Int):Option α:=(ixN xs.length i).bind λj=>xs[j]?
variable{n:Nat}{i:Int}
theorem qeW{j:Nat}(h:ixN n i=iO j):seqIndex? i n=iO j/\j<n/\-(n:Int)<=i/\i<n:=by
 unfold ixN at h;by_cases a:0<=i
 .rw[Aa a]at h;by_cases h1:i<n;·rw[Aa h1]at h;have e:i.toNat=j:=aL.inj h;exact⟨by rw[seqIndex_of a h1,e],by lia,by lia,h1⟩
  .rw[Ab h1]at h;cases h
 .rw[Ab a]at h;by_cases h1:-(n:Int)<=i;·rw[Aa h1]at h;have e:(i+n).toNat=j:=aL.inj h;exact⟨by rw[seqIndex_neg (by lia) h1,e],by lia,h1,by lia⟩
  .rw[Ab h1]at h;cases h
theorem WE{xs:List α}{v:α}(h:atI xs i=iO v):∃j,seqIndex? i xs.length=iO j/\xs[j]?=iO v/\j<xs.length/\-(xs.length:Int)<=i/\i<xs.length:=by
 unfold atI at h;cases e:ixN xs.length i with
 |none=>rw[e]at h;cases h
 |some j=>rw[e]at h;obtain⟨h1,h2,g,a⟩:=qeW e;exact⟨j,h1,h,h2,g,a⟩
def QT(b:Z4):Prop:=∀o i,subscripted b iS o i=operate [o,i] (mW o i)
def IxR(X:Cx)(r:R2):Prop:=
 ∀(value e:Z4)(Z9:Pns)(s:iV)(σ:St)(H:Hp)(x y:V)(v u:iR)(Q:VK),Inv X Z9 σ H s->RelV x v->RelV y u->r x y H Q ->subscripted e iS v u=operate [v,u] (mW v u)->iW (Z6 X.prog X.w) X.A (subscriptTail value e v u) (EP X Z9 σ Q) X.xe s
def MtR(X:Cx)(id:String)(r:V->List V->Hp->VK->Prop):Prop:=
 ∀(Z9:Pns)(s:iV)(σ:St)(H:Hp)(x:V)(xs:List V)(v:iR)(us:List iR)(Q:VK),Inv X Z9 σ H s->RelV x v->Vals xs us->r x xs H Q ->iW (Z6 X.prog X.w) X.A (call (.builtin id) (v::us)) (EP X Z9 σ Q) X.xe s
variable{Z9:Pns}{σ:St}{H:Hp}{s:iV}{T:String}{x:V}
section
variable{a b:Z4}{ta tb:TE}
theorem IxR.or{r r':R2}(h:IxR X r)(h':IxR X r'):IxR X (λx y H Q=>r x y H Q\/r' x y H Q):=by
 intro value e Z9 s σ H x y v u Q I d c q hs;rcases q with q|q;·exact h value e Z9 s σ H x y v u Q I d c q hs
 .exact h' value e Z9 s σ H x y v u Q I d c q hs
theorem qhj{r:R2}(hr:IxR X r)(g:PE X a ta)(e:PE X b tb)(hs:QT b):PE X (.Subscript a b pos) (tOp r ta tb):=by refine⟨?_⟩;intro Z9 s σ H Q I h;exact Subscript_ (qjZ g e I h λv u s2 x y H2 f d c q=>hr a b Z9 s2 σ H2 x y v u Q f d c q (hs _ _))
def qk5(K:Y8):R2:=λx y H Q=>∃p xs i v,x=.ref p/\y=.int i/\SqL K H p xs/\atI xs i=iO v/\Q v H
def qk6(K:Y8):R2:=λx y H Q=>∃p xs i v,x=.ref p/\y=.int i/\SqT K H p xs/\atI xs i=iO v/\Q v H
def qk7:R2:=λx y H Q=>∃z i c,x=.str z/\y=.int i/\z.length<=Z8/\atI z.cps.toList i=iO c/\Q (.str ⟨#[c]⟩) H
theorem qeX:IxR X (qk5 X.K):=by
 intro value e Z9 s σ H x y v u Q I f d h hs;obtain⟨p,xs,i,z,rfl,rfl,hq,g,q⟩:=h;cases f;obtain⟨t,rfl⟩:=d;obtain⟨its,r,pl,m⟩:=I.list hq;obtain⟨j,h1,h2,n,l,k⟩:=WE g;obtain⟨w,c,a⟩:=r.get h2;have hl:=r.length;have hn:=Kp;have fin:EP X Z9 σ Q w s:=⟨z,H,I,a,q⟩
 by_cases b:0<=i
 .have D:i.toNat=j:=by rw[seqIndex_of b k]at h1;exact aL.inj h1
  exact item_listR pl.isList b (by lia) (by rw[D];simpa using c) fin hs
 .have D:(i+(its.toArray.size:Int)).toNat=j:=by rw[seqIndex_neg (by lia) l]at h1;rw[au,<-hl];exact aL.inj h1
  exact subscriptTail_builtinR (x:=w) pl.isList.typeIs slot_list_getitem.lookup
   (wpAny_getItem_list_neg (Q:=λr s'=>r=w/\EP X Z9 σ Q r s') pl.isList (by lia) (by rw[au] <;> lia) (by lia) (by rw[D];simpa using c) ⟨rfl,fin⟩) hs
theorem qhk:IxR X (qk6 X.K):=by
 intro value e Z9 s σ H x y v u Q I d c h hs;obtain⟨p,xs,i,z,rfl,rfl,hq,b,q⟩:=h;cases d;obtain⟨t,rfl⟩:=c;obtain⟨its,r,pl,g⟩:=I.tuple hq;obtain⟨j,h1,h2,m,l,k⟩:=WE b;obtain⟨w,f,a⟩:=r.get h2;have hl:=r.length;have hn:=Kp;have fin:EP X Z9 σ Q w s:=⟨z,H,I,a,q⟩
 exact subscriptTail_builtinR (x:=w) pl.typeIs slot_tuple_getitem.lookup
  (getItem_tuple (j:=j) (Q:=λr s'=>r=w/\EP X Z9 σ Q r s') pl (by lia) (by lia) (by rw[au,<-hl];exact h1) (by simpa using f) ⟨rfl,fin⟩) hs
theorem qhl:IxR X qk7:=by
 intro value e Z9 s σ H x y v u Q I d r h hs;obtain⟨z,i,c,rfl,rfl,g,a,q⟩:=h;obtain⟨t,rfl⟩:=d;obtain⟨t',rfl⟩:=r;obtain⟨j,h1,h2,l,b,k⟩:=WE a;have hl:z.cps.toList.length=z.length:=by simp[g7]
 rw[hl]at h1 b k;have hn:=Kp;exact nr (typeIs_str s z t) slot_str_getitem.lookup (getItem_str (c:=c) (by have e1:decide (i < -(2 ^ 63:Int))=false:=Ac (by lia);have f:decide (i ≥ 2 ^ 63)=false:=Ac (by lia);rw[e1,f,ip]) (by rw[h1];simpa using h2) ⟨.str ⟨#[c]⟩,H,I.tok _,⟨_,rfl⟩,q⟩) hs
def rIx(K:Y8):R2:=λx y H Q=>qk5 K x y H Q\/qk6 K x y H Q\/qk7 x y H Q
theorem qhm:IxR X (rIx X.K):=qeX.or (qhk.or qhl)
theorem Ku(lo hi:Option Int)(n:Nat):(lZ lo hi iQ n).1=((HT.sIx n 0 lo:Nat):Int)/\(lZ lo hi iQ n).2.1=((HT.sIx n n hi:Nat):Int)/\(lZ lo hi iQ n).2.2=1:=by
 refine⟨?_,?_,rfl⟩
 .cases lo with
  |none=>simp[lZ,HT.sIx]
  |some i=>
   simp only[lZ,HT.sIx,Option.getD_none,show(1:Int) > 0 by decide,if_true];by_cases h:i<0;·simp only[h,if_true] <;> lia
   .simp only[h,if_false] <;> lia
 .cases hi with
  |none=>simp[lZ,HT.sIx]
  |some i=>
   simp only[lZ,HT.sIx,Option.getD_none,show(1:Int) > 0 by decide,if_true];by_cases h:i<0;·simp only[h,if_true] <;> lia
   .simp only[h,if_false] <;> lia
theorem QU(its:List iR)(lo hi:Option Int):slicePick its.toArray lo hi iQ=((its.drop (HT.sIx its.length 0 lo)).take (HT.sIx its.length its.length hi - HT.sIx its.length 0 lo)).toArray:=by obtain⟨h1,h2,g⟩:=Ku lo hi its.toArray.size;unfold slicePick;rw[h1,h2,g];simp only[sliceRange_one,pick_run,au] <;> rfl
def qlM(K:Y8):V->Option Int->Option Int->Hp->VK->Prop:=λx lo hi H Q=>∃a xs,x=.ref a/\SqL K H a xs/\∀p,H p=iQ->Q (.ref p) (upd H p (.lst (qeU xs lo hi)))
theorem qeY:SlR X (qlM X.K):=by intro Z9 s σ H x v vl u lo hi sl Q I d hs pl p h;obtain⟨a,xs,rfl,hx,q⟩:=h;cases d;obtain⟨its,r,ht,z⟩:=I.list hx;have n:=r.length;refine⟨"list",_,slot_list_getitem.lookup,ht.isList.typeIs,?_⟩;refine wpAny_getItem_list_slice ht.isList hs pl p .none (by simp) ?_ (by rw[au] <;> lia);rw[QU,<-n];refine⟨.ref s.heap.objs.size,_,I.laid (t':=s.toks) (o:=.lst (qeU xs lo hi)) (λb c q=>aa _ q) (ap _) ?_,rfl,q _ (I.hok.fresh (ap _))⟩;exact⟨be (WD xs lo hi) z,_,0,(r.drop (HT.sIx xs.length 0 lo)).take (HT.sIx xs.length xs.length hi - HT.sIx xs.length 0 lo),ak _ rfl⟩
theorem xq:vG X (.type "list") (λxs H Q=>∃p ys,xs=[.ref p]/\(SqL X.K H p ys\/SqT X.K H p ys)/\∀l,H l=iQ->Q (.ref l) (upd H l (.lst ys))):=by
 intro Z9 s σ H xs us Q I r h;obtain⟨p,ys,rfl,hq,q⟩:=h;obtain⟨u,rfl,x⟩:=wv r;cases x;have fin:∀(its:List iR),Vals ys its->ys.length<=Z8->∀(h':Z5)(T:Nat),(∀b o',s.heap.get? b=iO o'->h'.get? b=iO o') ->h'.get? s.heap.objs.size=iO { cls:=.type "list",dict:=iQ,data:=.seq its.toArray T,slots:=#[] }->EP X Z9 σ Q (.ref s.heap.objs.size) { s with heap:=h' }:=λits r' z h' T kp e=>
  ⟨.ref s.heap.objs.size,_,I.laid (t':=s.toks) kp (ap _) (show ObjOk X.prog X.w _ h' _ (.lst ys)from⟨z,its,T,r',e⟩),rfl,q _ (I.hok.fresh (ap _))⟩
 rcases hq with hq|hq;·obtain⟨its,r',pl,z⟩:=I.list hq;have a:=r'.length;obtain⟨o,c,d,n,hd⟩:=pl.isList;exact call_list_seq p (.inl rfl) c d hd (λh' T kp e=>fin its r' z h' T kp e) (by simp only[au] <;> lia)
 .obtain⟨its,r',pl,z⟩:=I.tuple hq;have a:=r'.length;obtain⟨o,c,d,n,hd⟩:=pl;exact call_list_seq p (.inr rfl) c d hd (λh' T kp e=>fin its r' z h' T kp e) (by simp only[au] <;> lia)
theorem yj:vG X (.type "tuple") (λxs H Q=>∃p ys,xs=[.ref p]/\((SqL X.K H p ys/\∀l,H l=iQ->Q (.ref l) (upd H l (.tup ys)))\/(SqT X.K H p ys/\Q (.ref p) H))):=by
 intro Z9 s σ H xs us Q I r h;obtain⟨p,ys,rfl,h⟩:=h;obtain⟨u,rfl,x⟩:=wv r;cases x;rcases h with⟨hq,q⟩|⟨hq,q⟩
 .obtain⟨its,r',pl,z⟩:=I.list hq;have n:=r'.length;refine call_tuple_list pl.isList (λh' kp=>?_) (by simp only[au] <;> lia);have d:Inv X Z9 σ H { s with heap:=h' }:=I.kept (t':=s.toks) kp;have c:Inv X Z9 σ (upd H h'.objs.size (.tup ys)) { s with heap:=h'.push { cls:=.type "tuple",data:=.seq its.toArray } }:=
   d.laid (t':=s.toks) (λb o e=>aa _ e) (ap _) (show ObjOk X.prog X.w _ _ _ (.tup ys)from⟨⟨z,_,ak _ rfl,rfl⟩,its,r',iF _ _⟩)
  exact⟨.ref h'.objs.size,_,c,rfl,q _ (d.hok.fresh (ap _))⟩
 .obtain⟨its,r',pl,z⟩:=I.tuple hq;exact call_tuple_same pl ⟨.ref p,H,I,rfl,q⟩
def tyV(K:Y8)(T:String)(x:V)(H:Hp):Prop:=match x with
 |.str _=>T = "str"
 |.int _=>T = "int"
 | .ref p=>(T = "list"/\∃xs,SqL K H p xs)\/(T = "tuple"/\∃o,K.lookup p=iO o/\o.cls=.type "tuple"/\o.dict=iQ) \/
   (T = "dict"/\((∃kvs,H p=iO (.dK kvs))\/∃kvs,H p=iO (.dT kvs)))\/(T = "set"/\∃S n,H p=iO (.set S n))
 |_=>False
theorem qhn{v:iR}(I:Inv X Z9 σ H s)(r:RelV x v)(ty:tyV X.K T x H):s.TypeIs v T/\∀a,v=.ref a->∃d,s.heap.get? a=iO d/\d.dict=none:=by
 cases x with
 |str z=>obtain⟨t,rfl⟩:=r;cases(show T = "str" from ty);exact⟨typeIs_str s z t,λ_ e=>nomatch e⟩
 |int i=>obtain⟨t,rfl⟩:=r;cases(show T = "int" from ty);exact⟨typeIs_int s i t,λ_ e=>nomatch e⟩
 | ref p=>
  cases r;rcases ty with⟨rfl,xs,hq⟩|⟨rfl,o,k,h,hd⟩|⟨rfl,k⟩|⟨rfl,S,n,k⟩
  .obtain⟨its,_,pl,_⟩:=I.list hq;refine⟨pl.isList.typeIs,λa e=>?_⟩;cases e;obtain⟨o,n,e,c,hd,_⟩:=pl;exact⟨o,e,hd⟩
  .refine⟨⟨o,I.kIn p o k,h⟩,λa e=>?_⟩;cases e;exact⟨o,I.kIn _ o k,hd⟩
  .have z:∃o,s.heap.get? p=iO o/\o.ExactDict:=by
    rcases k with⟨kvs,k⟩|⟨kvs,k⟩
    .obtain⟨_,_,_,_,o,_,_,e,ex,_⟩:=I.hok p _ k;exact⟨o,e,ex⟩
    .obtain⟨_,_,_,_,o,_,_,e,ex,_⟩:=I.hok p _ k;exact⟨o,e,ex⟩
   obtain⟨o,e,ex⟩:=z;refine⟨⟨o,e,ex.1⟩,λa b=>?_⟩;cases b;exact⟨o,e,ex.2.1⟩
  .obtain⟨o,_,_,_,e,ex,_⟩:=I.hok p _ k;refine⟨⟨o,e,ex.1⟩,λa b=>?_⟩;cases b;exact⟨o,e,ex.2.1⟩
 |_=>exact dJ ty
def tBM(K:Y8)(T:String)(r:V->List V->Hp->VK->Prop)(to:TE)(t:TA):TE:=λσ H Q=>to σ H λx H1=>tyV K T x H1/\t σ H1 λxs H2=>r x xs H2 Q
variable{o:Z4}{es:List Z4}{to:TE}{t:TA}{name:Str}{apos cpos:Pos}{id:String}{r:V->List V->Hp->VK->Prop}
theorem ZU(pa:PlainAttrs T)(slot:Slot T name id)(y:typeOf (.builtin id)=pure (.type "method_descriptor"))(m:MtR X id r)(l:PE X o to)(g:PA X (e::es) t)(b:lj o name X.env (Y9 o X.env)=Y9 o X.env:=by rfl)
  (w:((lq cpos (iX (e::es) X.env)).all (λx=>!x.1)&&(ml cpos (lG [] X.env)).all (λx=>x.1.isSome)
   && decide ((e::es).length+([]:List lv).length+(if ([]:List lv).isEmpty then 0 else 1)<30))=true:=by rfl)
  (a:(apos.endLine == cpos.line)=true:=by rfl) (hs:iX (e::es) X.env=(iS,Y9 e X.env)::iX es X.env:=by rfl) (n:(lq cpos (iX es X.env)).any (·.1)=false:=by rfl) :
  PE X (.Call (.Attribute o name apos) (e::es) [] cpos) (tBM X.K T r to t):=by
 refine⟨?_⟩;intro Z9 s σ H Q I h;refine wpAny_Call_method_late b w a rfl (thn (l Z9 s σ H _ I h) λv s1 z=>?_);obtain⟨x,H1,d,r1,ty,c⟩:=z;obtain⟨h1,h2⟩:=qhn d r1 ty;refine⟨T,id,pa,slot,y,h1,h2,?_⟩;have hA:=g cpos Z9 s1 σ H1 _ d c;rw[hs]at hA ⊢;refine dw (by show(iS||(lq cpos (iX es X.env)).any (·.1))=iS;rw[n] <;> rfl) (dL ?_);exact thn hA λus s2 ⟨vs,H2,f,r2,q⟩=>m Z9 s2 σ H2 x vs v us Q f r1 r2 q
end
def MtM(X:Cx)(id:String)(r:V->List V->Hp->VK->Prop):Prop:=
 ∀(Z9:Pns)(s:iV)(σ:St)(H:Hp)(x:V)(xs:List V)(v:iR)(us:List iR)(Q:VK),Inv X Z9 σ H s->RelV x v->Vals xs us->r x xs H Q ->iW (Z6 X.prog X.w) X.A (call (.builtin id) (v::us)) (EP X Z9 σ Q) X.xe s
theorem Vals.one(h:Vals [x] us):∃u,us=[u]/\RelV x u:=by
 cases h with
 |cons r t=>cases t;exact⟨_,rfl,r⟩
theorem Vals.eraseIdx:∀{xs:List V}{us:List iR}(i:Nat),Vals xs us->Vals (xs.eraseIdx i) (us.eraseIdx i)
 |_,_,_,.nil=>.nil
 |_,_,0,.cons _ t=>t
 |_,_,i+1,.cons r t=>.cons r (Vals.eraseIdx i t)
theorem Vals.reverse(h:Vals xs us):Vals xs.reverse us.reverse:=by
 induction h with
 |nil=>exact .nil
 |cons r t j=>rw[dF,dF];exact Vals.append j (.cons r .nil)
theorem Kv:∀(l:List α)(i:Nat),(l.eraseIdx i).length<=l.length
 |[],_=>ap _
 |_::_,0=>fO _
 |_::r,i+1=>Nat.succ_le_succ (Kv r i)
section
variable{l b:Z7}{ys zs:List V}
theorem Inv.lset{its its':List iR}{n:Nat}{f:Array iR->Array iR}{t':Nat}(I:Inv X Z9 σ H s)(b:H l=iO (.lst xs))(e:s.heap.get? l=iO { cls:=.type "list",data:=.seq its.toArray n })(a:f its.toArray=its'.toArray)(c:Vals ys its')(z:ys.length<=Z8) :
  Inv X Z9 σ (upd H l (.lst ys)) { s with heap:=s.heap.update l (cy f),toks:=t' }:=by
 have q:=PySem.IsL.update e f;rw[a]at q;refine I.write (x:=l) (e:=l) (by rw[b];exact trivial) (.inl rfl) (λg u d h=>(dA s.heap (cy f) (bJ d)).trans h) ⟨_,q⟩ ?_;exact⟨z,its',_,c,q⟩
theorem Inv.lnew{its:List iR}{t':Nat}(I:Inv X Z9 σ H s)(c:Vals ys its)(z:ys.length<=Z8):Inv X Z9 σ (upd H s.heap.objs.size (.lst ys)) { s with heap:=s.heap.push { cls:=.type "list",data:=.seq its.toArray },toks:=t' }:=
 I.laid (λ_ _ q=>aa _ q) (ap _) ⟨z,its,0,c,ak _ rfl⟩
theorem Inv.fresh(I:Inv X Z9 σ H s):H s.heap.objs.size=none:=I.hok.fresh (ap _)
theorem Inv.lstM(I:Inv X Z9 σ H s)(b:H l=iO (.lst xs)):xs.length<=Z8/\∃(its:List iR)(n:Nat),Vals xs its/\xs.length=its.length/\s.heap.get? l=iO { cls:=.type "list",data:=.seq its.toArray n }:=by obtain⟨z,its,n,r,e⟩:=I.hok l _ b;exact⟨z,its,n,r,r.length,e⟩
theorem qce(h:n<=Z8):d5 n=false:=by unfold d5;exact Ac (by lia)
end
section
def WF:V->List V->Hp->VK->Prop:=λx vs H Q=>∃l xs y,x=.ref l/\vs=[y]/\H l=iO (.lst xs)/\xs.length<Z8/\Q .non (upd H l (.lst (xs++[y])))
theorem Kw:MtM X "list.append" WF:=by
 intro Z9 s σ H x vs v us Q I d a h;obtain⟨l,xs,y,rfl,rfl,b,c,q⟩:=h;cases d;obtain⟨u,rfl,B⟩:=a.one;obtain⟨z,its,n,r,hl,e⟩:=I.lstM b;refine mP F.slot_list_append ⟨_,e,rfl⟩ F.entry_list_append (F.args_list_append_2 _ _) (PySem.list_append l its.toArray n u (by rw[au];lia)) ⟨e,?_⟩;refine⟨.non,_,I.lset (its':=its++[u]) b e (by simp) (r.append (.cons B .nil)) ?_,rfl,q⟩;rw[aj,List.length_singleton]
 lia
def qeZ:V->List V->Hp->VK->Prop:=λx vs H Q=>∃l b xs zs,x=.ref l/\vs=[.ref b]/\H l=iO (.lst xs)/\H b=iO (.lst zs)/\xs.length+zs.length<=Z8/\Q .non (upd H l (.lst (xs++zs)))
theorem ZV:MtM X "list.extend" qeZ:=by
 intro Z9 s σ H x vs v us Q I d c h;obtain⟨l,b,xs,zs,rfl,rfl,a,j,m,q⟩:=h;cases d;obtain⟨u,rfl,B⟩:=c.one;cases B;obtain⟨z,its,n,r,hl,e⟩:=I.lstM a;obtain⟨z2,i,n2,r2,f,k⟩:=I.lstM j;have hsz:its.toArray.size+i.toArray.size<=Z8:=by rw[au,au];lia
 have g:¬(!its.toArray.isEmpty&&d5 (its.toArray.size+i.toArray.size))=true:=by rw[qce hsz,Bool.and_false];exact bQ
 refine mP F.slot_list_extend ⟨_,e,rfl⟩ F.entry_list_extend (F.args_list_extend_2 _ _)
  (AutoSeq1.list_extend_list_list_0 l its.toArray n b i.toArray n2 g (by rw[au];lia) (by lia)) ⟨e,k,?_⟩
 refine⟨.non,_,I.lset (its':=its++i) a e (by simp) (r.append r2) ?_,rfl,q⟩;rw[aj]
 lia
def qho:V->List V->Hp->VK->Prop:=λx vs H Q=>∃l xs i k y,x=.ref l/\vs=[.int i]/\H l=iO (.lst xs)/\-(2 ^ 63)<=i/\i<2 ^ 63/\seqIndex? i xs.length=iO k/\xs[k]?=iO y/\Q y (upd H l (.lst (xs.eraseIdx k)))
theorem qcf:MtM X "list.pop" qho:=by
 intro Z9 s σ H x vs v us Q I d c h;obtain⟨l,xs,i,k,y,rfl,rfl,b,h1,h2,g,D,q⟩:=h;cases d;obtain⟨u,rfl,B⟩:=c.one;obtain⟨t,rfl⟩:=B;obtain⟨z,its,n,r,hl,e⟩:=I.lstM b;obtain⟨w,f,a⟩:=r.get D;refine mP F.slot_list_pop ⟨_,e,rfl⟩ F.entry_list_pop (F.args_list_pop_2 _ _)
  (MeetsSeq.list_pop_at l its.toArray n i t k w (fitsIndex_both h1 h2) (by rw[au,<-hl];exact g) (by rw[<-aK];exact f) (by rw[au];lia)) ⟨e,?_⟩
 refine⟨y,_,I.lset (its':=its.eraseIdx k) b e ?_ (r.eraseIdx k) ?_,a,q⟩;·show its.toArray.eraseIdxIfInBounds k=(its.eraseIdx k).toArray;rw[List.eraseIdxIfInBounds_toArray]
 .have:=Kv xs k
  lia
end
end L2
namespace Att
open PySem PySem.W PySem.Calls PyProof.Rows
theorem zE{P:mE}{h:Z5}:∀(ns:List Int)(vs:List iR),WellAll P h vs (ns.map WData.int)->IntsAre vs ns:=by
 intro ns
 induction ns with
 |nil=>intro vs w;rw[cg]at w;cases w;exact .nil
 |cons n ns j=>
  intro vs w;rw[aE]at w;cases w with
  |cons a b=>cases a;exact .cons _ _ (j _ b)
theorem ZW{l:OpenLaw}{n:Nat}(hn:l.most=iO n){P:mE}{h:Z5}{args:List WData}{v:List iR}(e:l.row.toRowW.claim.pre args=iT)(g:WellAll P h v args) :
  ∃a vs ns,v=[aY a]/\args=[WData.list (ns.map WData.int)]/\h.get? a=iO { cls:=.type "list",data:=.seq vs.toArray }/\IntsAre vs ns/\ns.length<=n:=by
 have i:WShape.hasAll [] args [.list .int]=true:=(pre_splitW e).1;have j:l.pre.holds [] { args:=args }=true:=(pre_splitW e).2;obtain⟨d,r,rfl,h1,h2⟩:=hasAllW_cons i;obtain rfl:=hasAllW_nil h2;obtain⟨xs,rfl,s⟩:=hasW_list h1;obtain⟨ns,rfl⟩:=items_int s;have b:ns.length<=n:=by
  unfold OpenLaw.pre at j;have f:(WTm.not (.lt (.lit (.int (n:Int))) (.len (.arg 0)))).holds [] { args:=[.list (ns.map .int)] }=true:=by have f:=(holds_andW j).1;rw[hn]at f;exact f
  have k:=condW_of f (w_not (w_lt w_lit (w_len_list (w_arg rfl))));rw[ao]at k;refine cz λq=>?_;have m:(n:Int)<((ns.length:Nat):Int):=by omega
  first
   |(rw[Ad m]at k;exact absurd k (by decide))
   |(simp at k;omega)
 cases g with
 |cons p w=>
  cases w;cases p with
  |list o c=>exact⟨_,_,ns,rfl,rfl,o,zE ns _ c,b⟩
theorem ZX(l:OpenLaw)(args:List WData):l.row.toRowW.claim.post args (.bool iT) args=true:=
 postW_of (r:=l.row.toRowW) (X:=(iT == iT))
  (show WShape.has [] (.bool iT) .bool=iT by first|rfl|decide|simp[WShape.has,WShape.arms,WShape.armsAll])
  (show(WTm.eq .res (.lit (.bool iT))).value [] { args:=args,res:=iO (.bool iT),after:=args }=iO (.bool (iT == iT))from w_eq_bool (w_res rfl) w_lit) rfl
theorem attach_call{l:OpenLaw}{n:Nat}{q:iZ}{loose:List Str}{XP:(Str->Option iR)->Z5->Prop}{YP:i3->Z5->Prop}{d:DefRec}(hn:l.most=iO n)(hdf:d.params.defaults=[])(call:∀(w:i3)(s₀ s:iV)(mg mb:Str->Option iR)(fa:Z7)(o:Obj)(pm cd doc:iR)(a:Z7)(vs:List iR)(ns:List Int),Ground q loose [] XP w s₀ mg mb s.heap->YP w s.heap ->s.heap.get? fa=iO o->o.data=.func (docDef d.name d.params d.body d.scope pm cd doc)->s.heap.CodeRec cd d.name->mg d.name=iO (.ref fa) ->s.heap.get? a=iO { cls:=.type "list",data:=.seq vs.toArray }->IntsAre vs ns->ns.length<=n->s.gens=#[] ->lV (Z6 l.prog w) mX (.call (.ref fa) ⟨[.ref a],[]⟩) (λr s'=>r=.ok (.ret (.bool iT))/\OldK s.heap s'.heap/\s'.os=s.os/\mC s'.gens) s) :
  WalkO q loose XP YP l.row.toRowW d [] (λf vs=>iM f vs):=by
 intro w s₀ s mg mb G Y fa o pm cd doc V kV m hd i D c hg args v as e y k g t;obtain rfl:V=.none:=Dflts.none D hdf;obtain rfl:kV=.none:=Dflts.noKw D;obtain⟨a,vs,ns,rfl,rfl,j,h,b⟩:=ZW hn e g;refine enter_call (mD (call w s₀ s mg mb fa o pm cd doc a vs ns G Y m (fd_plain hd) i c j h b hg) λr s' hq=>?_);obtain⟨rfl,h2,x,u⟩:=hq;exact⟨.inl ⟨.bool iT,.bool iT,[],rfl,λ_=>rfl,.bool iT,ZX l _,λ_=>⟨eJ,λ_ p=>(nomatch p)⟩⟩,h2,x,u⟩
end Att
namespace L2
open PySem PySem.Spec PyProof.Rows
theorem Ky:∀{vs:List iR}{ns:List Int},IntsAre vs ns->Vals (ns.map V.int) vs
 |_,_,.nil=>.nil
 |_,_,.cons n t h=>.cons ⟨t,rfl⟩ (Ky h)
def qka(H:Hp):Prop:=∀b,H b=iQ\/∃o xs,H b=iO (.frz o (.lst xs))
set_option tactic.hygienic true in
theorem qcg{P:iZ}{w:i3}{K:Y8}{mg mb:Str->Option iR}{CX:CXT}{k:Nat}{fa a:Z7}{fd:lN}{x:Str}{sp:Sp}{c:iV}{vs:List iR}{ns:List Int}(N:K.In c.heap)(A:c.heap.Ns j3 mg)(g:c.heap.Ns builtinsNs mb)(J:∀x:Str,x ≠ "__name__"->mb x=iY x)(B:c.heap.NoLimit)(hg:c.gens=#[])(D:c.heap.get? a=iO { cls:=.type "list",data:=.seq vs.toArray })(hi:IntsAre vs ns)(hl:ns.length<=Z8)(hr:Room k mX)(F:∀base:Z5,K.In base->base.Ns j3 mg->FnOk P w K mg base CX k fa fd [x] sp)(l:∀(s:iV)(u:iR),nq s fd ⟨[u],[]⟩ [(x,u)])(G:∀H:Hp,qka H->SqL K H a (ns.map V.int)->sp [.ref a] H (λv _=>v=.bl iT) λ_ _ _=>False)(X:∀H e s',CX [] H c (λ_ _ _=>False) e s'->False) :
  lV (Z6 P w) mX (.call (.ref fa) ⟨[.ref a],[]⟩) (λr s'=>r=.ok (.ret (.bool iT))/\OldK c.heap s'.heap/\s'.os=c.os/\mC s'.gens) c:=by
 have M:=Ky hi;have t:=hi.length;have j:∀H:Hp,qka H->SqL K H a (ns.map V.int)->HOk P w H c.heap->(∀b,H b≠iQ->b=a)->(H a≠iQ->K.lookup a=iQ) ->lV (Z6 P w) mX (.call (.ref fa) ⟨[.ref a],[]⟩) (λr s'=>r=.ok (.ret (.bool iT))/\OldK c.heap s'.heap/\s'.os=c.os/\mC s'.gens) c:=by
  intro H O S hok hA T;have f:∀{b:Z7}{o:Obj},c.heap.get? b=iO o->H b=iQ->(qb0 c.heap H).get? b=iO o:=λe n=>qb1 e n;have E:∀{b:Z7}{o:Obj}{es:Array mU}{ep:Nat},c.heap.get? b=iO o->o.data=.dict es ep->H b=none:=λ{b o es ep} e d=>by
   cases q:H b with
   |none=>rfl
   |some u=>have L:b=a:=hA b (by rw[q];simp);subst L;rw[D]at e;cases e;have d':Data.seq vs.toArray _=Data.dict es ep:=d;cases d'
  have i:∀{b:Z7}{m:Str->Option iR},c.heap.Ns b m->(qb0 c.heap H).Ns b m:=λ{b m} ⟨o,es,ep,e,d,r⟩=>⟨o,es,ep,f e (E e d),d,r⟩
  have C:K.In (qb0 c.heap H):=λb o e=>f (N b o e) (by
   cases q:H b with
   |none=>rfl
   |some u=>have L:b=a:=hA b (by rw[q];simp);subst L;rw[T (by rw[q];simp)]at e;cases e)
  have R:Mod K mg (qb0 c.heap H):=⟨C,i A,⟨mb,i g,J⟩,let ⟨mc,h1,h2⟩:=B; ⟨mc,i h1,h2⟩⟩
  have e0:Env0 P w K mg (qb0 c.heap H) mX [] c H:=⟨rfl,R,λb o e=>qeD e,dS (ZJ _ _),trivial,λb g=>absurd (show b∈([]:List Z7)from g) (by simp),hok,.of_eq hg⟩
  refine mD ((F _ C (i A)).run mX [] c H ⟨[.ref a],[]⟩ [.ref a] [.ref a] _ _ hr e0 (l c (.ref a)) (.cons rfl .nil) (G H O S)) λr s' h=>?_;cases r with
  |error e=>exact(X H e s' h).elim
  | ok U=>
   cases U with
   |next=>exact dJ h
   |brk=>exact dJ h
   |cont=>exact dJ h
   | ret u=>
    obtain⟨v,H',os,bare,un,y,r',q⟩:=h;have Q:v=.bl true:=q;subst Q;obtain rfl:u=dI true:=r';refine⟨rfl,OldK.of_keep λb o e=>?_,os,bare⟩;cases q:H b with
    |none=>exact un.keep b o e q (by intro z;exact absurd (show b∈([]:List Z7)from z) (by simp)) (by simp)
    |some u=>
     rcases O b with z|⟨ob,xs,z⟩
     .rw[q]at z;cases z
     .have z2:=un.frzs b ob _ z;obtain⟨e1,_⟩:=hok b _ z;obtain⟨W,_⟩:=y b _ z2;rw[e]at e1;cases e1;exact W
 cases I:K.lookup a with
 |some o=>have e:=N a o I;rw[D]at e;cases e;refine j (λ_=>iQ) (λ_=>.inl rfl) (.inr ⟨_,vs.toArray,_,I,rfl,rfl,rfl,by rw[au,t];exact hl,by simpa using M⟩) (λb u z=>by have p:(iQ:Option HO)=iO u:=z;cases p) (λb z=>absurd rfl z) λz=>absurd rfl z
 | none=>
  refine j (λb=>if b=a then iO (.frz { cls:=.type "list",data:=.seq vs.toArray } (.lst (ns.map V.int)))else iQ) (λb=>?_) (.inl (.inr ⟨{ cls:=.type "list",data:=.seq vs.toArray },Aa rfl⟩)) (λb u z=>?_) (λb z=>?_) λ_=>I
  .by_cases g:b=a;·exact .inr ⟨_,_,Aa g⟩
   .exact .inl (Ab g)
  .by_cases g:b=a;·have p:=(Aa g).symm.trans z;cases p;subst g;exact⟨D,by rw[ao];exact hl,vs,_,M,D⟩
   .have p:=(Ab g).symm.trans z;cases p
  .by_cases g:b=a;·exact g
   .exact absurd (Ab g) z
theorem qe0{l:hV}{n k:Nat}{q:iZ}{loose:List Str}{XP:(Str->Option iR)->Z5->Prop}{YP:i3->Z5->Prop}{d:DefRec}{K:mE->Y8}{CX:i3->CXT}{sp:i3->Sp}{x:Str}(hn:l.most=iO n)(r:n<=Z8)(hdf:d.params.defaults=[])(hr:Room k mX)(B:∀(w:i3)(h:Z5),YP w h->(K w.params).In h)(F:∀(w:i3)(mg:Str->Option iR)(fa:Z7)(h:Z5),(K w.params).In h->h.Ns j3 mg->mg d.name=iO (.ref fa) ->∃fd:lN,(∀(s:iV)(u:iR),nq s fd ⟨[u],[]⟩ [(x,u)]) /\
    ∀base:Z5,(K w.params).In base->base.Ns j3 mg->FnOk l.prog w (K w.params) mg base (CX w) k fa fd [x] (sp w))(p:∀(w:i3)(H:Hp)(a:Z7)(ns:List Int),ns.length<=n->qka H->SqL (K w.params) H a (ns.map V.int)->sp w [.ref a] H (λv _=>v=.bl iT) λ_ _ _=>False)(X:∀(w:i3)(H:Hp)(s:iV)(e:iR)(s':iV),CX w [] H s (λ_ _ _=>False) e s'->False) :
  PySem.W.WalkO q loose XP YP l.row.toRowW d [] (λf vs=>iM f vs):=by
 refine Att.attach_call hn hdf λw s₀ j mg mb fa o pm cd doc a vs ns G Y D hd z t m i c hg=>?_;have y:=B w _ Y;obtain⟨fd,A,C⟩:=F w mg fa _ y G.T.g t;exact qcg y G.T.g G.T.b G.T.builtins G.T.nolimit hg m i (be c r) hr C A (λH O S=>p w H a ns c O S) λH e s'=>X w H j e s'
noncomputable def xb(s:Z3):Arguments:=match s with
 |.FunctionDef _ a _ _ _ _ _ _ _ _=>a
 |_=>{ posonlyargs:=[],args:=[],vararg:=iQ,kwonlyargs:=[],kw_defaults:=[],kwarg:=iQ,defaults:=[] }
noncomputable def vV(s:Z3):List Z3:=match s with
 |.FunctionDef _ _ b _ _ _ _ _ _ _=>b
 |_=>[]
noncomputable def jb(s:Z3):mf:=match s with
 |.FunctionDef _ _ _ _ _ _ sc _ _ _=>sc
 |_=>{ kind:=.function,names:=[],isGenerator:=iS,isCoroutine:=iS }
structure Fun(K:Y8)(x qual:Str)(st:Z3)(f:Z7)(fd:lN):Prop where
 ex:∃(oc:iR)(od:Option Z7)(kV doc pm:iR)(an:Option Z7)(cdv ct:iR)(osl:Array (Option iR)),fd=dv x qual (xb st) (vV st) (jb st) .none kV doc pm an cdv ct/\K.lookup f=iO ⟨oc,od,.func fd,osl⟩/\codeIn K cdv qual=iT
 kp:keepIn K (.ref f)=iT
variable{P:iZ}{w:i3}{K:Y8}{qual:Str}{st:Z3}{f:Z7}
section
variable{mg:Str->Option iR}{base:Z5}
theorem Fun.binds{x:Str}{fd:lN}{ps:List Str}(F:Fun K x qual st f fd)(h:∀(kV doc pm:iR)(an:Option Z7)(cdv ct:iR)(us:List iR),us.length=ps.length->bindArgs (dv x qual (xb st) (vV st) (jb st) .none kV doc pm an cdv ct) ⟨us,[]⟩=pure (ps.zip us)):Binds K fd ps []:=by
 obtain⟨oc,od,kV,doc,pm,an,cdv,ct,osl,rfl,lk,d⟩:=F.ex;exact .all (h kV doc pm an cdv ct)
theorem ZY{x:Str}{oc:iR}{od an:Option Z7}{osl:Array (Option iR)}{kV doc pm cdv ct:iR}(l:K.lookup f=iO ⟨oc,od,.func (dv x qual (xb st) (vV st) (jb st) .none kV doc pm an cdv ct),osl⟩)(c:codeIn K cdv qual=iT)(k:keepIn K (.ref f)=iT):Fun K x qual st f (dv x qual (xb st) (vV st) (jb st) .none kV doc pm an cdv ct):=⟨⟨oc,od,kV,doc,pm,an,cdv,ct,osl,rfl,l,c⟩,k⟩
end
def Same(H H':Hp):Prop:=∀b o,H b=iO o->H' b=iO o
theorem Same.refl(H:Hp):Same H H:=λ_ _ h=>h
variable{H:Hp}
theorem Same.trans{H1 H2:Hp}(a:Same H H1)(b:Same H1 H2):Same H H2:=λc o h=>b c o (a c o h)
variable{H':Hp}{a:Z7}
theorem Same.seq{xs:List V}(e:Same H H')(h:SqL K H a xs):SqL K H' a xs:=by
 rcases h with(h|⟨o,h⟩)|h;·exact .inl (.inl (e _ _ h))
 .exact .inl (.inr ⟨o,e _ _ h⟩)
 .exact .inr h
variable{o:Option V}{u:iR}{y:V}
section
variable{κ:Type}[DecidableEq κ]
noncomputable def XD(kvs:List (κ×V))(k:κ):Option V:=(kvs.find? λkv=>decide (kv.1=k)).map (·.2)
noncomputable def Kf(kvs:List (κ×V))(k:κ)(v:V):List (κ×V):=
 if (kvs.any λkv=>decide (kv.1=k))=iT then kvs.map (λkv=>if kv.1=k then(kv.1,v)else kv)else kvs++[(k,v)]
theorem zm{p:κ×V}{r:List (κ×V)}{k:κ}(e:p.1=k):XD (p::r) k=iO p.2:=by simp[XD,cS,e]
theorem zn{p:κ×V}{r:List (κ×V)}{k:κ}(e:¬p.1=k):XD (p::r) k=XD r k:=by simp[XD,cS,e]
theorem QV(k:κ):∀kvs:List (κ×V),(kvs.any λkv=>decide (kv.1=k))=(XD kvs k).isSome
 |[]=>rfl
 |p::r=>by
  rw[b9];by_cases e:p.1=k;·simp only[zm e,Ad e,Bool.true_or,Option.isSome_some]
  .rw[zn e,Ac e,Bool.false_or];exact QV k r
theorem uV(kvs:List (κ×V))(k:κ)(v:V):(Kf kvs k v).length<=kvs.length+1:=by
 unfold Kf;split;·rw[ao];lia
 .rw[aj,ah,bn];lia
theorem RelO.isSome_eq{u:Option iR}(r:RelO o u):o.isSome=u.isSome:=by
 cases o with
 |none=>cases u with
  |none=>rfl
  |some _=>exact(show False from r).elim
 |some _=>cases u with
  |none=>exact(show False from r).elim
  |some _=>rfl
theorem KV.val{kvs:List (κ×V)}{vs:List (κ×iR)}(r:KV kvs vs)(k:κ):RelO (XD kvs k) (mY vs k):=by
 unfold KV at r
 induction r with
 |nil=>exact c6
 | @cons p q ps qs h t ih=>
  obtain⟨h1,h2⟩:=h;by_cases e:p.1=k
  .have a:q.1=k:=h1.symm.trans e;have b:mY (q::qs) k=iO q.2:=by simp[mY,cS,a]
   rw[zm e,b];exact h2
  .have a:¬q.1=k:=λz=>e (h1.trans z);have b:mY (q::qs) k=mY qs k:=by simp[mY,cS,a]
   rw[zn e,b];exact ih
theorem KV.any{kvs:List (κ×V)}{vs:List (κ×iR)}(r:KV kvs vs)(k:κ):(kvs.any λkv=>decide (kv.1=k))=vs.any λkv=>decide (kv.1=k):=by
 unfold KV at r
 induction r with
 |nil=>rfl
 |cons h t j=>rw[b9,b9,j,h.1]
theorem KV.repl{kvs:List (κ×V)}{vs:List (κ×iR)}(r:KV kvs vs)(k:κ)(c:RelV y u):KV (kvs.map λkv=>if kv.1=k then(kv.1,y)else kv) (vs.map λkv=>if kv.1=k then(kv.1,u)else kv):=by
 unfold KV at r ⊢
 induction r with
 |nil=>exact .nil
 |@cons p q ps qs h t ih=>
  rw[aE,aE];refine .cons ?_ ih;obtain⟨h1,h2⟩:=h;by_cases e:p.1=k;·rw[Aa e,Aa (h1.symm.trans e)];exact⟨h1,c⟩
  .rw[Ab e,Ab (λz=>e (h1.trans z))];exact⟨h1,h2⟩
theorem KV.put{kvs:List (κ×V)}{vs:List (κ×iR)}(r:KV kvs vs)(k:κ)(c:RelV y u):KV (Kf kvs k y) (stored vs k u):=by
 unfold Kf stored;rw[r.any k];by_cases e:(vs.any λkv=>decide (kv.1=k))=iT;·rw[Aa e,Aa e];exact r.repl k c
 .rw[Ab e,Ab e];exact Paired.snoc r ⟨rfl,c⟩
theorem KV.length{kvs:List (κ×V)}{vs:List (κ×iR)}(r:KV kvs vs):kvs.length=vs.length:=fX r
end
theorem XE{k:Key}(r:RelV (kV k) u):(jp P w).is k u=true:=by
 cases k with
 |inl i=>obtain⟨t,e⟩:=(show ∃t,u=cQ i t from r);subst e;exact WB P w i t
 |inr x=>obtain⟨t,e⟩:=(show ∃t,u=dR x t from r);subst e;exact WC P w x t
theorem Kz:∀{ks:List Key}{us:List iR},Vals (ks.map kV) us->ItemsAre (jp P w) ks us
 |[],_,r=>by rw[cg]at r;cases r;exact .nil
 |k::ks,_,r=>by
  rw[aE]at r;cases r with
  |cons h t=>exact .cons (XE h) (Kz t)
abbrev KT(H:Hp):List (List Key×V)->List (List Key×Z7×iR)->Prop:=Paired λp q=>p.1=q.1/\H q.2.1=iO (.tup (p.1.map kV))/\RelV p.2 q.2.2
variable{xs:List (List Key×Z7×iR)}{kvs:List (List Key×V)}
theorem KT.val(r:KT H kvs xs)(k:List Key):RelO (XD kvs k) ((atKey xs k).map (·.2)):=by
 induction r with
 |nil=>exact c6
 | @cons p q ps qs h t ih=>
  obtain⟨h1,_,h2⟩:=h;by_cases e:p.1=k
  .have a:q.1=k:=h1.symm.trans e;have b:atKey (q::qs) k=iO q.2:=by simp[atKey,cS,a]
   rw[zm e,b];exact h2
  .have a:¬q.1=k:=λz=>e (h1.trans z);have b:atKey (q::qs) k=atKey qs k:=by simp[atKey,cS,a]
   rw[zn e,b];exact ih
theorem KT.repl(r:KT H kvs xs)(k:List Key)(c:RelV y u):KT H (kvs.map λkv=>if kv.1=k then(kv.1,y)else kv) (xs.map (putAt k u)):=by
 induction r with
 |nil=>exact .nil
 |@cons p q ps qs h t ih=>
  rw[aE,aE];refine .cons ?_ ih;obtain⟨h1,h2,g⟩:=h;unfold putAt;by_cases e:p.1=k;·rw[Aa e,Aa (h1.symm.trans e)];exact⟨h1,h2,c⟩
  .rw[Ab e,Ab (λz=>e (h1.trans z))];exact⟨h1,h2,g⟩
theorem KT.put(r:KT H kvs xs)(k:List Key){b:Z7}(d:H b=iO (.tup (k.map kV)))(c:RelV y u):KT H (Kf kvs k y) (storedH xs k b u):=by
 have e:(kvs.any λkv=>decide (kv.1=k))=(atKey xs k).isSome:=by rw[QV,(r.val k).isSome_eq,fP]
 unfold Kf storedH;rw[e];by_cases q:(atKey xs k).isSome=iT;·rw[Aa q,Aa q];exact r.repl k c
 .rw[Ab q,Ab q];exact Paired.snoc r ⟨rfl,d,c⟩
theorem KT.keeps(r:KT H kvs xs)(ht:∀b ys,H b=iO (.tup ys)->H' b=iO (.tup ys)):KT H' kvs xs:=
 Paired.mapP r λ_ _ z=>⟨z.1,ht _ _ z.2.1,z.2.2⟩
section
variable{h:Z5}
theorem qhp{u:HO}(ok:HOk P w H h)(e:Rd H a u):ObjOk P w H h a u:=e.ok ok
theorem WG{kvs:List (Key×V)}(ok:HOk P w H h)(e:Rd H a (.dK kvs)):kvs.length<=Z8/\(a == lm)=iS/\∃vs,KV kvs vs/\h.DictOf (jp P w) a vs:=
 show ObjOk P w H h a (.dK kvs)from qhp ok e
theorem qch{kvs:List (Key×V)}(ok:HOk P w H h)(e:H a=iO (.dK kvs)):kvs.length<=Z8/\(a == lm)=iS/\∃vs,KV kvs vs/\h.DictOf (jp P w) a vs:=WG ok (.inl e)
theorem KA{ks:List Key}(ok:HOk P w H h)(e:H a=iO (.tup (ks.map kV))):(mV (jp P w)).is h ks a:=by
 obtain⟨_,its,r,o,h1,h2,n,g⟩:=(show ObjOk P w H h a (.tup (ks.map kV))from ok a _ e)
 exact⟨o,its.toArray,n,h1,h2,g,by simpa using Kz r⟩
theorem XF(ok:HOk P w H h)(e:Rd H a (.dT kvs)):kvs.length<=Z8/\(a == lm)=iS /\
  ∃xs,KT H kvs xs/\h.DictOfH (mV (jp P w)) a xs:=by
 obtain⟨z,y,xs,r,o,es,ep,h1,h2,g,b,k⟩:=(show ObjOk P w H h a (.dT kvs)from qhp ok e)
 refine⟨z,y,xs,r,o,es,ep,h1,h2,g,b,λx hx=>?_,k⟩;have all:∀{l:List (List Key×V)}{m:List (List Key×Z7×iR)},KT H l m->∀x∈m,(mV (jp P w)).is h x.1 x.2.1:=by
  intro l m q
  induction q with
  |nil=>intro x hx;exact nomatch hx
  |@cons p q ps qs hq t ih=>
   intro x hx;rcases ae.mp hx with e|hx
   .subst e;exact KA ok (by rw[<-hq.1];exact hq.2.1)
   .exact ih x hx
 exact all r x hx
theorem qkb(ok:HOk P w H h)(e:H a=iO (.dT kvs)):kvs.length<=Z8/\(a == lm)=iS /\
  ∃xs,KT H kvs xs/\h.DictOfH (mV (jp P w)) a xs:=XF ok (.inl e)
end
def DGet(H:Hp)(a:Z7)(y:V)(r:Option V):Prop:=
 (∃kvs k,Rd H a (.dK kvs)/\y=kV k/\r=XD kvs k)\/∃kvs k b,Rd H a (.dT kvs)/\y=.ref b/\H b=iO (.tup (k.map kV))/\r=XD kvs k
def DPut(H:Hp)(a:Z7)(y v:V)(H':Hp):Prop:=
 (∃kvs k,H a=iO (.dK kvs)/\y=kV k/\kvs.length<Z8/\H'=upd H a (.dK (Kf kvs k v))) \/
 ∃kvs k b,H a=iO (.dT kvs)/\y=.ref b/\H b=iO (.tup (k.map kV))/\kvs.length<Z8/\H'=upd H a (.dT (Kf kvs k v))
theorem DGet.k{kvs:List (Key×V)}{k:Key}(e:H a=iO (.dK kvs)):DGet H a (kV k) (XD kvs k):=.inl ⟨kvs,k,.inl e,rfl,rfl⟩
variable{v:V}
theorem DPut.k{kvs:List (Key×V)}{k:Key}(e:H a=iO (.dK kvs))(hl:kvs.length<Z8):DPut H a (kV k) v (upd H a (.dK (Kf kvs k v))):=.inl ⟨kvs,k,e,rfl,hl,rfl⟩
variable{X:Cx}{Z9:Pns}{σ:St}{s:iV}{A:j4}{E Q:iR->iV->Prop}{h':Z5}
section
variable{r:iR}
theorem Inv.big(I:Inv X Z9 σ H s):lm<s.heap.objs.size:=by have h:j3<s.heap.objs.size:=(I.mod.glob.keeps I.bk).lt;exact eU (by decide) h
theorem ZZ(j:A.units+1<k4)(I:Inv X Z9 σ H s)(g:DGet H a y (iO v))(i:RelV y u)(h:∀S s',Inv X Z9 σ H s'->RelV v S->Q S s'):iW (Z6 X.prog X.w) A (mW (.ref a) u) Q E s:=by
 rcases g with⟨kvs,k,e,f,l⟩|⟨kvs,k,b,e,f,J,l⟩
 .subst f;obtain⟨z,hd,vs,rel,dd⟩:=WG I.hok e;obtain⟨S,c,r⟩:=RelO.some_of (v:=v) (o:=mY vs k) (by rw[l];exact rel.val k);exact wpAny_getItem_of (XE i) dd.mapOf c (h S _ (I.tok _) r)
 .subst f;cases(show u=aY b from i);obtain⟨z,hd,xs,rel,dd⟩:=XF I.hok e;obtain⟨S,c,r⟩:=RelO.some_of (v:=v) (o:=(atKey xs k).map (·.2)) (by rw[l];exact rel.val k);obtain⟨p,hp,d⟩:=aO.mp c;refine wpAny_getItem_heap (lW j) (KA I.hok J) dd hp ?_;rw[d];exact h S _ (I.tok _) r
theorem qlN(d:A.units+1<k4)(I:Inv X Z9 σ H s)(g:DGet H a y o)(c:RelV y u)(h:∀s',Inv X Z9 σ H s'->Q (.bool o.isSome) s'):iW (Z6 X.prog X.w) A (i6 .In u (.ref a)) Q E s:=by
 rcases g with⟨kvs,k,e,f,l⟩|⟨kvs,k,b,e,f,J,l⟩
 .subst f;obtain⟨z,hd,vs,rel,dd⟩:=WG I.hok e;refine wpAny_in_of (XE c) hd dd.mapOf ?_;rw[<-(rel.val k).isSome_eq,<-l];exact h _ (I.tok _)
 .subst f;cases(show u=aY b from c);obtain⟨z,hd,xs,rel,dd⟩:=XF I.hok e;refine wpAny_in_heap (lW d) (KA I.hok J) hd dd ?_;have q:=(rel.val k).isSome_eq;rw[fP]at q;rw[<-q,<-l];exact h _ (I.tok _)
theorem qe1(d:A.units+1<k4)(I:Inv X Z9 σ H s)(g:DGet H a y o)(c:RelV y u)(h:∀s',Inv X Z9 σ H s'->Q (.bool (!o.isSome)) s'):iW (Z6 X.prog X.w) A (i6 .NotIn u (.ref a)) Q E s:=by
 rcases g with⟨kvs,k,e,f,l⟩|⟨kvs,k,b,e,f,J,l⟩
 .subst f;obtain⟨z,hd,vs,rel,dd⟩:=WG I.hok e;refine wpAny_notIn_of (XE c) hd dd.mapOf ?_;rw[<-(rel.val k).isSome_eq,<-l];exact h _ (I.tok _)
 .subst f;cases(show u=aY b from c);obtain⟨z,hd,xs,rel,dd⟩:=XF I.hok e;refine wpAny_notIn_heap (lW d) (KA I.hok J) hd dd ?_;have q:=(rel.val k).isSome_eq;rw[fP]at q;rw[<-q,<-l];exact h _ (I.tok _)
theorem QW{t':Nat}{o:HO}(I:Inv X Z9 σ H s)(m:Mut (H a))(hs:bx a s.heap h')(i:∃q,h'.get? a=iO q)(new:ObjOk X.prog X.w (upd H a o) h' a o):Inv X Z9 σ (upd H a o) { s with heap:=h',toks:=t' }:=
 I.write (x:=a) (e:=a) m (.inl rfl) (λb q d z=>(hs.2 b d).trans z) i new
theorem UK{H':Hp}{kvs:List (Key×V)}{vs:List (Key×iR)}(z:kvs.length<=Z8)(hd:(a == lm)=iS)(rel:KV kvs vs)(dd:h'.DictOf (jp P w) a vs):ObjOk P w H' h' a (.dK kvs):=⟨z,hd,vs,rel,dd⟩
theorem Ga{Q:Unit->iV->Prop}(p:A.units+1<k4)(I:Inv X Z9 σ H s)(g:DPut H a y v H')(m:RelV y u)(n:RelV v r)(h:∀s',Inv X Z9 σ H' s'->Q () s'):iW (Z6 X.prog X.w) A (setItem (.ref a) u r) Q E s:=by
 rcases g with⟨kvs,k,e,i,l,j⟩|⟨kvs,k,b,e,i,J,l,j⟩
 .subst i j;obtain⟨z,hd,vs,rel,dd⟩:=qch I.hok e;have f:vs.length<=Z8:=by rw[<-rel.length];exact z
  have hl:(Kf kvs k v).length<=Z8:=by have:=uV kvs k v;lia
  refine wpAny_setItem_pairs (hsz:=f) (XE m) dd λh' d hs=>h _ ?_;have t:∃q,h'.get? a=iO q:=let ⟨q,_,_,hq,_⟩:=d; ⟨q,hq⟩
  exact QW I (by rw[e];exact c6) hs t (UK hl hd (rel.put k n) d)
 .subst i j;cases(show u=aY b from m);obtain⟨z,hd,xs,rel,dd⟩:=qkb I.hok e;have f:xs.length<=Z8:=by rw[<-fX rel];exact z
  have hl:(Kf kvs k v).length<=Z8:=by have:=uV kvs k v;lia
  refine wpAny_setItem_heap (hsz:=f) (lW p) (KA I.hok J) dd λh' d hs=>h _ ?_;obtain⟨q,es,ep,hq,h2,C,B,_,x⟩:=d;refine QW I (by rw[e];exact c6) hs ⟨q,hq⟩ ⟨hl,hd,_,(rel.put k J n).keeps λc ys o=>?_,q,es,ep,hq,h2,C,B,x⟩;rw[qB (qjP o e (λz=>nomatch z))];exact o
end
section
variable{kvs:List (Key×V)}{k:Key}
theorem qkc(I:Inv X Z9 σ H s)(e:Rd H a (.dK kvs))(h:∀t s',Inv X Z9 σ H s'->Q (.int kvs.length t) s'):iW (Z6 X.prog X.w) A (call (.builtin "len") [.ref a]) Q E s:=by obtain⟨z,hd,vs,rel,dd⟩:=WG I.hok e;refine call_len_dict hd dd (by rw[<-rel.length];rw[i5]at z;lia) ?_;rw[<-rel.length];exact h _ _ (I.tok _)
end
theorem WH(I:Inv X Z9 σ H s)(g:DGet H a y o):s.TypeIs (.ref a) "dict":=by
 rcases g with⟨kvs,k,e,_,_⟩|⟨kvs,k,b,e,_,_,_⟩
 .obtain⟨_,_,vs,_,dd⟩:=WG I.hok e;exact dd.typeIs
 .obtain⟨_,_,xs,_,dd⟩:=XF I.hok e;exact dd.typeIs
def qkd(td ty tv:TE):TS:=λD σ H=>tv σ H λv H1=>td σ H1 λx H2=>ty σ H2 λy d=>∃a b,x=.ref a/\DPut d a y v b/\D.nx σ b
variable{pos:Pos}
section
variable{o i e value:Z4}{pos' tpos:Pos}{td ty tv:TE}
theorem qe2(k:X.A.units+1<k4)(l:PE X o td)(hi:PE X i ty)(j:PE X value tv)(hs:lK value (iO (.Subscript o i pos')) pos.line X.env=pure iS):PS X (.Assign [.Subscript o i pos'] value pos) (qkd td ty tv):=by refine⟨?_⟩;intro Z9 s σ H D I h;refine wpAny_Assign_Subscript (thn (j Z9 s σ H _ I h) λr s1 ⟨v,H1,p,b,f⟩=>thn (l Z9 s1 σ H1 _ p f) λu s2 ⟨x,H2,n,d,e⟩=>thn (hi Z9 s2 σ H2 _ n e) λw s3 z=>?_) hs;obtain⟨y,C,m,c,a,t,ex,g,q⟩:=z;subst ex;obtain rfl:u=aY a:=d;exact Ga k m g c b λs4 B=>⟨σ,t,B,q⟩
end
theorem UL(h:Z5)(d:lm<h.objs.size):ObjOk P w H (h.push { cls:=.type "dict",data:=.dict #[] }) h.objs.size (.dK []):=
 ⟨aU _,beq_eq_false_iff_ne.mpr (bJ (aC d)),[],.nil,Heap.DictOf.new h⟩
def qhq:TE:=λ_ H Q=>∀p,H p=iQ->Q (.ref p) (upd H p (.dK []))
section
theorem qci:PE X (.Dict [] [] pos) qhq:=⟨λZ9 s σ H Q I h=>
 wpAny_Dict_empty ⟨.ref s.heap.objs.size,_,I.laid (a:=s.heap.objs.size) (o:=.dK []) (t':=s.toks) (λ_ _ q=>aa _ q) (ap _) (UL s.heap I.big),rfl,h _ (I.hok.fresh (ap _))⟩⟩
end
def Gb:List (TE×TE)->St->Hp->(List (V×V)->Hp->Prop)->Prop
 |[],_,H,Q=>Q [] H
 |(tk,tv)::r,σ,H,Q=>tk σ H λx H1=>tv σ H1 λy H2=>Gb r σ H2 λps d=>Q ((x,y)::ps) d
abbrev VV:List (V×V)->List (iR×iR)->Prop:=Paired λp q=>RelV p.1 q.1/\RelV p.2 q.2
def PPs(X:Cx)(pos:Pos)(keys:List (Option Z4))(v:List Z4)(trs:List (TE×TE)):Prop:=
 ∀(Z9:Pns)(s:iV)(σ:St)(H:Hp)(Q:List (V×V)->Hp->Prop),Inv X Z9 σ H s->Gb trs σ H Q ->iW (Z6 X.prog X.w) X.A (evalPairs (pairTrees keys v X.env pos)) (λvs s'=>∃ps H',Inv X Z9 σ H' s'/\VV ps vs/\Q ps H') X.xe s
theorem qe3:PPs X pos [] [] []:=λZ9 s σ H Q I h=>pairTrees_nil_walk ⟨[],H,I,.nil,h⟩
variable{trs:List (TE×TE)}
theorem qcj{k v:Z4}{ks:List (Option Z4)}{vs:List Z4}{tk tv:TE}(f:PE X k tk)(b:PE X v tv)(hr:PPs X pos ks vs trs):PPs X pos (iO k::ks) (v::vs) ((tk,tv)::trs):=λZ9 s σ H Q I h=>
 pairTrees_cons_walk (thn (f Z9 s σ H _ I h) λu s1 ⟨x,H1,j,d,a⟩=>thn (b Z9 s1 σ H1 _ j a) λw s2 ⟨y,H2,i,c,e⟩=>
  thn (hr Z9 s2 σ H2 _ i e) λws s3 ⟨ps,l,g,rel,q⟩=>⟨(x,y)::ps,l,g,.cons ⟨d,c⟩ rel,q⟩)
def xr(kvs more:List (Key×V)):List (Key×V):=more.foldl (λacc kv=>Kf acc kv.1 kv.2) kvs
theorem KV.merge:∀{more:List (Key×V)}{rs:List (Key×iR)}{kvs:List (Key×V)}{vs:List (Key×iR)},KV more rs->KV kvs vs->KV (xr kvs more) (merged vs rs):=by
 intro more rs kvs vs r;unfold KV at r
 induction r generalizing kvs vs with
 |nil=>intro q;exact q
 |@cons p q ps qs h t ih=>
  intro r0;have e:KV (Kf kvs p.1 p.2) (stored vs q.1 q.2):=by have:=r0.put p.1 h.2;rw[<-h.1];exact this
  exact ih e
theorem vW:∀(more kvs:List (Key×V)),(xr kvs more).length<=kvs.length+more.length
 |[],kvs=>by show kvs.length<=kvs.length+0;lia
 |p::r,kvs=>by have h1:=vW r (Kf kvs p.1 p.2);have h2:=uV kvs p.1 p.2;show(xr (Kf kvs p.1 p.2) r).length<=_;rw[ah];lia
theorem Qe{P:iZ}{w:i3}:∀{kvs:List (Key×V)}{ws:List (iR×iR)},VV (kvs.map λkv=>(kV kv.1,kv.2)) ws->∃rs,Carries (jp P w) ws rs/\KV kvs rs
 |[],_,r=>by rw[cg]at r;cases r;exact⟨[],c6,.nil⟩
 |p::kvs,_,r=>by
  rw[aE]at r;cases r with
  |@cons a b as bs h t=>obtain⟨rs,c,q⟩:=Qe (P:=P) (w:=w) t;obtain⟨e,d⟩:=b;exact⟨(p.1,d)::rs,⟨XE h.1,rfl,c⟩,.cons ⟨rfl,h.2⟩ q⟩
def qke(trs:List (TE×TE)):TE:=λσ H Q=>∀p,H p=iQ->Gb trs σ (upd H p (.dK [])) λps H2=>H2 p=iO (.dK [])/\∃kvs:List (Key×V),ps=kvs.map (λkv=>(kV kv.1,kv.2))/\kvs.length<=15/\Q (.ref p) (upd H2 p (.dK (xr [] kvs)))
theorem qe4{keys:List (Option Z4)}{v:List Z4}(h:PPs X pos keys v trs)(l:keys.all (·.isSome)=iT)(hl:keys.length=v.length)(n:keys≠[])(b:keys.length<=15):PE X (.Dict keys v pos) (qke trs):=by
 refine⟨?_⟩;intro Z9 s σ H Q I q;have hn:=I.hok.fresh (ap s.heap.objs.size);have p:=I.laid (a:=s.heap.objs.size) (o:=.dK []) (h':=s.heap.push { cls:=.type "dict",data:=.dict #[] }) (t':=s.toks) (λ_ _ q=>aa _ q) (ap _) (UL s.heap I.big);refine wpAny_Dict_walk (knd:=jp X.prog X.w) l hl n b (thn (h Z9 _ σ _ _ p (q _ hn)) λws s2 g=>?_);obtain⟨ps,H2,f,rel,e,kvs,ep,lk,j⟩:=g;subst ep;obtain⟨rs,c,r⟩:=Qe (P:=X.prog) (w:=X.w) rel;obtain⟨z,hd,i,r0,dd⟩:=qch f.hok e;cases r0;refine⟨rs,c,dd,λh' d hs=>⟨.ref s.heap.objs.size,_,?_,rfl,j⟩⟩;have k:(xr [] kvs).length<=Z8:=by have h1:=vW kvs [];rw[bn]at h1;rw[i5];lia
 have m:∃q,h'.get? s.heap.objs.size=iO q:=let ⟨q,_,_,hq,_⟩:=d; ⟨q,hq⟩
 exact QW f (by rw[e];exact c6) hs m (UK k hd (r.merge .nil) d)
def IsD(H:Hp)(a:Z7):Prop:=(∃kvs,Rd H a (.dK kvs))\/∃kvs,Rd H a (.dT kvs)
theorem qhr(I:Inv X Z9 σ H s)(d:IsD H a):s.TypeIs (.ref a) "dict"/\(∀b,aY a=.ref b->∃o,s.heap.get? b=iO o/\o.dict=iQ)/\(a == lm)=false:=by
 rcases d with⟨kvs,e⟩|⟨kvs,e⟩
 .obtain⟨_,hd,vs,_,dd⟩:=WG I.hok e;refine⟨dd.typeIs,λb q=>?_,hd⟩;cases q;obtain⟨o,_,_,h1,h2,_⟩:=dd;exact⟨o,h1,h2.2.1⟩
 .obtain⟨_,hd,xs,_,dd⟩:=XF I.hok e;refine⟨dd.typeIs,λb q=>?_,hd⟩;cases q;obtain⟨o,_,_,h1,h2,_⟩:=dd;exact⟨o,h1,h2.2.1⟩
section
theorem Gc:vG X (.builtin "len") (λxs H Q=>∃a kvs,xs=[V.ref a]/\H a=iO (.dK kvs)/\Q (.int kvs.length) H):=by intro Z9 s σ H xs us Q I r h;obtain⟨a,kvs,rfl,g,q⟩:=h;obtain⟨u,rfl,B⟩:=wv r;cases B;exact qkc I (.inl g) λt s' b=>⟨.int kvs.length,H,b,⟨t,rfl⟩,q⟩
end
end L2
namespace L2.D2
open PySem PySem.Spec PyProof.Rows
variable{b:List Nat}
theorem wy{a:List Nat}(h:(a.all λi=>decide (i∈b))=iT):∀i∈a,i∈b:=λi hi=>Ae (aM.mp h i hi)
theorem yk{i:Nat}(h:decide (i∈b)=iS):i∉b:=of_decide_eq_false h
noncomputable def WJ:Z4->Bool
 |.Starred ..=>iS
 |_=>iT
variable{e:Z4}{env:Env}
theorem jD{es:List Z4}(h:WJ e=iT):iX (e::es) env=(iS,Y9 e env)::iX es env:=by cases e <;> first|rfl|cases h
theorem qD(h:WJ e=iT):iX [e] env=[(iS,Y9 e env)]:=jD h
theorem UM{a b:Z4}(h:WJ a=iT)(k:WJ b=iT):iX [a,b] env=[(iS,Y9 a env),(iS,Y9 b env)]:=by rw[jD h,qD k]
variable{pos:Pos}
theorem zo:∀{es:List Z4},es.all WJ=iT->(lq pos (iX es env)).any (·.1)=iS
 |[],_=>rfl
 |e::es,h=>by rw[fY,aQ]at h;rw[jD h.1];exact zo h.2
theorem uo(h:WJ e=iT):((lq pos (iX [e] env)).all (λx=>!x.1)&&(ml pos (lG [] env)).all (λx=>x.1.isSome)
   && decide ([e].length+([]:List lv).length+(if ([]:List lv).isEmpty then 0 else 1)<30))=true:=by rw[qD h];rfl
inductive D where
 |non|bl (b:Bool)|int (i:Int)|str (x:Str)
 |tup (xs:List D)|lst (xs:List D)|dct (kvs:List (Key×D))|raw (v:V)
 |xcp (C:Z7)|ins (C:Z7) (fs:List (Str×D))|at_ (a:Z7) (xs:List D)
 deriving Inhabited
abbrev Sl:=List (Option D)
inductive Out(α:Type) where
 |ok (a:α)|exc (c:Str) (o:Sl)|bad
variable{α β:Type}
noncomputable def Out.bind(o:Out α)(k:α->Out β):Out β:=match o with
 |.ok a=>k a
 |.exc c o=>.exc c o
 |.bad=>.bad
@[simp] theorem Out.og(a:α)(k:α->Out β):(Out.ok a).bind k=k a:=rfl
@[simp] theorem Out.exc_bind(c:Str)(o:Sl)(k:α->Out β):(Out.exc c o:Out α).bind k=.exc c o:=rfl
@[simp] theorem Out.bad_bind(k:α->Out β):(Out.bad:Out α).bind k=.bad:=rfl
noncomputable def qlO(a C:Z7):HO:=.ext λh=>∃o vs,h.get? a=iO o/\o.cls=.ref C/\o.data=.fields vs
mutual
/-- the value v is the data d,all its objects in F -/
inductive Is(K:Y8)(F:Hp):V->D->Prop
 |non:Is K F .non .non
 |bl (b:Bool):Is K F (.bl b) (.bl b)
 |int (i:Int):Is K F (.int i) (.int i)
 |str {x:Str} (h:x.length<=Z8):Is K F (.str x) (.str x)
 |tup {a:Z7} {xs:List V} {ds:List D} (h:SqT K F a xs) (t:IsL K F xs ds):Is K F (.ref a) (.tup ds)
 |lst {a:Z7} {xs:List V} {ds:List D} (h:SqL K F a xs) (t:IsL K F xs ds):Is K F (.ref a) (.lst ds)
 |dct {a:Z7} {kv:List (Key×V)} {kvs:List (Key×D)} (h:F a=iO (.dK kv)) (t:IsK K F kv kvs):Is K F (.ref a) (.dct kvs)
 |raw (v:V):Is K F v (.raw v)
 |xcp {a C:Z7} (h:F a=iO (qlO a C)):Is K F (.ref a) (.xcp C)
 |ins {a C dx:Z7} {fv:List (Str×V)} {fs:List (Str×D)} (h:F a=iO (.ins C dx fv)) (t:IsF K F fv fs):Is K F (.ref a) (.ins C fs)
 |at_ {a:Z7} {xs:List V} {ds:List D} (h:SqL K F a xs) (t:IsL K F xs ds):Is K F (.ref a) (.at_ a ds)
inductive IsL(K:Y8)(F:Hp):List V->List D->Prop
 |nil:IsL K F [] []
 |cons {v:V} {d:D} {vs:List V} {ds:List D} (h:Is K F v d) (t:IsL K F vs ds):IsL K F (v::vs) (d::ds)
inductive IsK(K:Y8)(F:Hp):List (Key×V)->List (Key×D)->Prop
 |nil:IsK K F [] []
 |cons {k:Key} {v:V} {d:D} {vs:List (Key×V)} {ds:List (Key×D)} (h:Is K F v d) (t:IsK K F vs ds):IsK K F ((k,v)::vs) ((k,d)::ds)
inductive IsF(K:Y8)(F:Hp):List (Str×V)->List (Str×D)->Prop
 |nil:IsF K F [] []
 |cons {k:Str} {v:V} {d:D} {vs:List (Str×V)} {ds:List (Str×D)} (h:Is K F v d) (t:IsF K F vs ds):IsF K F ((k,v)::vs) ((k,d)::ds)
end
theorem qW{K:Y8}{H H':Hp}{a:Z7}{xs:List V}(e:Same H H')(h:SqT K H a xs):SqT K H' a xs:=by
 rcases h with(h|⟨o,h⟩)|h;·exact .inl (.inl (e _ _ h))
 .exact .inl (.inr ⟨o,e _ _ h⟩)
 .exact .inr h
mutual
theorem Is.mono{K:Y8}{F F':Hp}(e:Same F F'):∀{v:V}{d:D},Is K F v d->Is K F' v d
 |_,_,.non=>.non
 |_,_,.bl b=>.bl b
 |_,_,.int i=>.int i
 |_,_,.str h=>.str h
 |_,_,.tup h t=>.tup (qW e h) (IsL.mono e t)
 |_,_,.lst h t=>.lst (e.seq h) (IsL.mono e t)
 |_,_,.dct h t=>.dct (e _ _ h) (IsK.mono e t)
 |_,_,.raw v=>.raw v
 |_,_,.xcp h=>.xcp (e _ _ h)
 |_,_,.ins h t=>.ins (e _ _ h) (IsF.mono e t)
 |_,_,.at_ h t=>.at_ (e.seq h) (IsL.mono e t)
theorem IsL.mono{K:Y8}{F F':Hp}(e:Same F F'):∀{vs:List V}{ds:List D},IsL K F vs ds->IsL K F' vs ds
 |_,_,.nil=>.nil
 |_,_,.cons h t=>.cons (Is.mono e h) (IsL.mono e t)
theorem IsK.mono{K:Y8}{F F':Hp}(e:Same F F'):∀{vs:List (Key×V)}{ds:List (Key×D)},IsK K F vs ds->IsK K F' vs ds
 |_,_,.nil=>.nil
 |_,_,.cons h t=>.cons (Is.mono e h) (IsK.mono e t)
theorem IsF.mono{K:Y8}{F F':Hp}(e:Same F F'):∀{vs:List (Str×V)}{ds:List (Str×D)},IsF K F vs ds->IsF K F' vs ds
 |_,_,.nil=>.nil
 |_,_,.cons h t=>.cons (Is.mono e h) (IsF.mono e t)
end
theorem IsL.length{K:Y8}{F:Hp}:∀{vs:List V}{ds:List D},IsL K F vs ds->vs.length=ds.length
 |_,_,.nil=>rfl
 |_,_,.cons _ t=>congrArg (·+1) (IsL.length t)
theorem IsL.get{K:Y8}{F:Hp}:∀{vs:List V}{ds:List D}{i:Nat}{v:V},IsL K F vs ds->vs[i]?=iO v->∃d,ds[i]?=iO d/\Is K F v d
 |_,_,_,_,.nil,e=>by simp at e
 |_,_,0,_,.cons h _,e=>by simp at e;subst e;exact⟨_,rfl,h⟩
 |_,_,i+1,v,.cons _ t,e=>by obtain⟨d,h1,h2⟩:=IsL.get (i:=i) (v:=v) t (by simpa using e);exact⟨d,by simpa using h1,h2⟩
theorem IsL.getD{K:Y8}{F:Hp}:∀{vs:List V}{ds:List D}{i:Nat}{d:D},IsL K F vs ds->ds[i]?=iO d->∃v,vs[i]?=iO v/\Is K F v d
 |_,_,_,_,.nil,e=>by simp at e
 |_,_,0,_,.cons h _,e=>by simp at e;subst e;exact⟨_,rfl,h⟩
 |_,_,i+1,v,.cons _ t,e=>by obtain⟨d,h1,h2⟩:=IsL.getD (i:=i) (d:=v) t (by simpa using e);exact⟨d,by simpa using h1,h2⟩
theorem IsL.append{K:Y8}{F:Hp}:∀{vs ws:List V}{ds es:List D},IsL K F vs ds->IsL K F ws es->IsL K F (vs++ws) (ds++es)
 |_,_,_,_,.nil,s=>s
 |_,_,_,_,.cons h t,s=>.cons h (IsL.append t s)
theorem IsL.drop{K:Y8}{F:Hp}:∀{vs:List V}{ds:List D}(n:Nat),IsL K F vs ds->IsL K F (vs.drop n) (ds.drop n)
 |_,_,0,r=>r
 |_,_,_+1,.nil=>.nil
 |_,_,n+1,.cons _ t=>IsL.drop n t
theorem IsL.take{K:Y8}{F:Hp}:∀{vs:List V}{ds:List D}(n:Nat),IsL K F vs ds->IsL K F (vs.take n) (ds.take n)
 |_,_,0,_=>.nil
 |_,_,_+1,.nil=>.nil
 |_,_,n+1,.cons h t=>.cons h (IsL.take n t)
def OwnIs(K:Y8)(F H:Hp)(a:Z7):D->Prop
 |.lst ds=>∃xs,H a=iO (.lst xs)/\IsL K F xs ds
 |.dct kvs=>∃kv,H a=iO (.dK kv)/\IsK K F kv kvs
 |.ins C fs=>∃dx fv,H a=iO (.ins C dx fv)/\IsF K F fv fs
 |.at_ b ds=>b=a/\∃xs,H a=iO (.lst xs)/\IsL K F xs ds
 |_=>False
def TopIs(K:Y8)(F H:Hp)(v:V)(d:D):Prop:=Is K F v d\/∃a,v=.ref a/\OwnIs K F H a d
inductive Mo where
 |sh|fr|any
def MoIs(K:Y8)(m:Mo)(H0 F H:Hp)(v:V)(d:D):Prop:=match m with
 |.sh=>Is K F v d
 |.fr=>∃a,v=.ref a/\H0 a=iQ/\F a=iQ/\OwnIs K F H a d
 |.any=>TopIs K F H v d
theorem MoIs.top{K:Y8}{m:Mo}{H0 F H:Hp}{v:V}{d:D}(h:MoIs K m H0 F H v d):TopIs K F H v d:=by
 cases m with
 |sh=>exact .inl h
 |fr=>obtain⟨a,e,_,_,o⟩:=h;exact .inr ⟨a,e,o⟩
 |any=>exact h
structure Chg(A:Z7->Prop)(F H F' H':Hp):Prop where
 keep:∀b o,H b=iO o->¬A b->H' b=iO o
 stay:∀b,H b≠iQ->H' b≠iQ
 grow:Same F F'
 new:∀b,F' b≠iQ->F b≠iQ\/H b=iQ\/A b
theorem Chg.refl{A:Z7->Prop}{F H:Hp}:Chg A F H F H:=⟨λ_ _ e _=>e,λ_ h=>h,Same.refl _,λ_ h=>.inl h⟩
theorem Chg.trans{A A1:Z7->Prop}{F H F1 H1 c H2:Hp}(a:Chg A F H F1 H1)(b:Chg A1 F1 H1 c H2)(hA:∀x,A1 x->A x\/H x=iQ):Chg A F H c H2 where
 keep:=λx o e n=>b.keep x o (a.keep x o e n) λz=>(hA x z).elim n λq=>by rw[e]at q;cases q
 stay:=λx h=>b.stay x (a.stay x h)
 grow:=a.grow.trans b.grow
 new:=λx h=>by
  rcases b.new x h with q|q|q;·exact a.new x q
  .refine .inr (.inl ?_);cases e:H x with
   |none=>rfl
   |some o=>exact absurd q (a.stay x (by rw[e];simp))
  .rcases hA x q with z|z;·exact .inr (.inr z)
   .exact .inr (.inl z)
theorem Chg.trans'{A:Z7->Prop}{F H F1 H1 c H2:Hp}(a:Chg A F H F1 H1)(b:Chg A F1 H1 c H2):Chg A F H c H2:=a.trans b λ_ z=>.inl z
theorem Chg.mono{A c:Z7->Prop}{F H F1 H1:Hp}(a:Chg A F H F1 H1)(h:∀x,A x->c x):Chg c F H F1 H1:=
 ⟨λb o e n=>a.keep b o e λz=>n (h b z),a.stay,a.grow,λb z=>(a.new b z).imp id (Or.imp id (h b))⟩
abbrev No:Z7->Prop:=λ_=>False
theorem Chg.ofNo{A:Z7->Prop}{F H F1 H1:Hp}(a:Chg No F H F1 H1):Chg A F H F1 H1:=a.mono λ_ z=>z.elim
structure Rep(K:Y8)(own:List Nat)(F H:Hp)(σ:St)(ρ:Sl):Prop where
 sub:Same F H
 len:σ.length=ρ.length
 val:∀i d,i∉own->ρ[i]?=iO (iO d)->∃v,σ[i]?=iO (iO v)/\Is K F v d
 ow:∀i d,i∈own->ρ[i]?=iO (iO d)->∃a,σ[i]?=iO (iO (.ref a))/\F a=iQ/\OwnIs K F H a d
 opn:∀i,i∈own->∃d,ρ[i]?=iO (iO d)
 dis:∀i j a,i∈own->j∈own->σ[i]?=iO (iO (V.ref a))->σ[j]?=iO (iO (V.ref a))->i=j
def OA(own:List Nat)(σ:St):Z7->Prop:=λb=>∃i∈own,σ[i]?=iO (iO (V.ref b))
theorem OwnIs.there{K:Y8}{F H:Hp}{a:Z7}{d:D}(h:OwnIs K F H a d):H a≠none:=by
 cases d with
 |lst ds=>obtain⟨xs,e,_⟩:=h;rw[e];simp
 |dct ds=>obtain⟨xs,e,_⟩:=h;rw[e];simp
 |ins C fs=>obtain⟨dx,xs,e,_⟩:=h;rw[e];simp
 |at_ b ds=>obtain⟨_,xs,e,_⟩:=h;rw[e];simp
 |_=>exact h.elim
theorem OwnIs.grow{K:Y8}{F H F' H':Hp}{a:Z7}{d:D}(h:OwnIs K F H a d)(g:Same F F')(k:∀o,H a=iO o->H' a=iO o):OwnIs K F' H' a d:=by
 cases d with
 |lst ds=>obtain⟨xs,e,t⟩:=h;exact⟨xs,k _ e,t.mono g⟩
 |dct ds=>obtain⟨xs,e,t⟩:=h;exact⟨xs,k _ e,t.mono g⟩
 |ins C fs=>obtain⟨dx,xs,e,t⟩:=h;exact⟨dx,xs,k _ e,t.mono g⟩
 |at_ b ds=>obtain⟨J,xs,e,t⟩:=h;exact⟨J,xs,k _ e,t.mono g⟩
 |_=>exact h.elim
theorem Rep.OA_there{K:Y8}{own:List Nat}{F H:Hp}{σ:St}{ρ:Sl}(r:Rep K own F H σ ρ){b:Z7}(h:OA own σ b):H b≠iQ/\F b=none:=by obtain⟨i,hi,e⟩:=h;obtain⟨d,hd⟩:=r.opn i hi;obtain⟨a,e1,c,o⟩:=r.ow i d hi hd;rw[e]at e1;cases e1;exact⟨o.there,c⟩
theorem Rep.grow{K:Y8}{own:List Nat}{F H F' H':Hp}{σ:St}{ρ:Sl}(r:Rep K own F H σ ρ)(c:Chg No F H F' H')(s:Same F' H'):Rep K own F' H' σ ρ where
 sub:=s
 len:=r.len
 val:=λi d hi e=>let ⟨v,h1,h2⟩:=r.val i d hi e; ⟨v,h1,h2.mono c.grow⟩
 ow:=λi d hi e=>by
  obtain⟨a,h1,h2,g⟩:=r.ow i d hi e;refine⟨a,h1,?_,g.grow c.grow λo q=>c.keep a o q λz=>z⟩;cases q:F' a with
  |none=>rfl
  |some o=>
   rcases c.new a (by rw[q];simp)with z|z|z;·exact absurd h2 z
   .exact absurd z g.there
   .exact z.elim
 opn:=r.opn
 dis:=r.dis
theorem MoIs.grow{K:Y8}{A:Z7->Prop}{m:Mo}{H0 F H F' H':Hp}{v:V}{d:D}(h:MoIs K m H0 F H v d)(f:m≠.any)(c:Chg A F H F' H')(hA:∀x,A x->H0 x≠iQ):MoIs K m H0 F' H' v d:=by
 cases m with
 |sh=>exact Is.mono c.grow h
 | fr=>
  obtain⟨a,e,b,C,o⟩:=h;have n:¬A a:=λz=>hA a z b;refine⟨a,e,b,?_,o.grow c.grow λo q=>c.keep a o q n⟩;cases q:F' a with
  |none=>rfl
  |some u=>
   rcases c.new a (by rw[q];simp)with z|z|z;·exact absurd C z
   .exact absurd z o.there
   .exact absurd z n
 |any=>exact absurd rfl f
def qbW(K:Y8)(io:List Nat)(F H:Hp)(σ:St)(ρ:Sl):Prop:=∀i∈io,∃d a,ρ[i]?=iO (iO d)/\σ[i]?=iO (iO (V.ref a))/\F a=iQ/\OwnIs K F H a d
theorem Rep.ioIs{K:Y8}{own io:List Nat}{F H:Hp}{σ:St}{ρ:Sl}(r:Rep K own F H σ ρ)(h:∀i∈io,i∈own):qbW K io F H σ ρ:=λi hi=>by obtain⟨d,hd⟩:=r.opn i (h i hi);obtain⟨a,h1,h2,g⟩:=r.ow i d (h i hi) hd;exact⟨d,a,hd,h1,h2,g⟩
structure Ct where
 K:Y8
 cv:Str->iR
 E:XK
 io:List Nat
 mr:Mo
 ol:List Nat
 ox:List Nat
 oxs:∀i∈ox,i∈io
abbrev KB:=Out (D×Sl)
def Po(C:Ct)(own:List Nat)(m:Mo)(σ:St)(F H:Hp)(r:KB)(Q:VK):Prop:=match r with
 |.ok (d,ρ')=>∀v F' H',Rep C.K own F' H' σ ρ'->Chg (OA own σ) F H F' H'->MoIs C.K m H F' H' v d->Q v H'
 |.exc c ρ'=>∀F' H',Same F' H'->qbW C.K C.ox F' H' σ ρ'->Chg (OA own σ) F H F' H'->C.E (C.cv c) iQ H'
 |.bad=>False
abbrev qU:=Sl->KB
def tE(C:Ct)(own:List Nat)(m:Mo)(f:qU):TE:=λσ H Q=>∃F ρ,Rep C.K own F H σ ρ/\Po C own m σ F H (f ρ) Q
theorem MoIs.back{K:Y8}{m:Mo}{A:Z7->Prop}{H0 F H F1 H1:Hp}{f Ha:Hp}{v:V}{d:D}(c:Chg A f H0 F1 H1)(h:MoIs K m H1 F H v d):MoIs K m H0 F H v d:=by
 cases m with
 |sh=>exact h
 |fr=>
  obtain⟨a,e,b,r⟩:=h;refine⟨a,e,?_,r⟩;cases q:H0 a with
  |none=>rfl
  |some o=>exact absurd b (c.stay a (by rw[q];simp))
 |any=>exact h
theorem Po.shift{C:Ct}{own:List Nat}{m:Mo}{σ:St}{F H F1 H1:Hp}{r:KB}{Q:VK}(h:Po C own m σ F H r Q)(c:Chg (OA own σ) F H F1 H1):Po C own m σ F1 H1 r Q:=by
 cases r with
 |ok p=>exact λv F' H' a T o=>h v F' H' a (c.trans' T) (MoIs.back (Ha:=H1) c o)
 |exc x=>exact λF' H' s io T=>h F' H' s io (c.trans' T)
 |bad=>exact h.elim
theorem Po.bind{C:Ct}{own:List Nat}{m ma:Mo}{σ:St}{F H:Hp}{o:KB}{k:D×Sl->KB}{Q R:VK}(hp:Po C own m σ F H (o.bind k) Q)(h:∀v F1 H1 d ρ1,Rep C.K own F1 H1 σ ρ1->Chg (OA own σ) F H F1 H1->MoIs C.K ma H F1 H1 v d->Po C own m σ F1 H1 (k (d,ρ1)) Q->R v H1):Po C own ma σ F H o R:=by
 cases o with
 |ok p=>obtain⟨d,ρ1⟩:=p;exact λv F1 H1 a c b=>h v F1 H1 d ρ1 a c b (Po.shift (show Po C own m σ F H (k (d,ρ1)) Q from hp) c)
 |exc x=>exact hp
 |bad=>exact hp.elim
def PoV(C:Ct)(m:Mo)(F H:Hp)(r:Out D)(Q:VK):Prop:=match r with
 |.ok d=>∀v F' H',Same F' H'->Chg No F H F' H'->MoIs C.K m H F' H' v d->Q v H'
 |_=>False
def OpD(X:Cx)(C:Ct)(m:Mo)(f:iR->iR->Sem iR)(g:D->D->Out D):Prop:=
 OpR X f (λx y H Q=>∃F dx d,Same F H/\TopIs C.K F H x dx/\TopIs C.K F H y d/\PoV C m F H (g dx d) Q)
def UnD(X:Cx)(C:Ct)(m:Mo)(f:iR->Sem iR)(g:D->Out D):Prop:=
 UnR X f (λx H Q=>∃F dx,Same F H/\TopIs C.K F H x dx/\PoV C m F H (g dx) Q)
noncomputable def Out.plain{α:Type}:Out α->Out α
 |.ok a=>.ok a
 |_=>.bad
theorem PoV.of{C:Ct}{own:List Nat}{m:Mo}{σ:St}{F H:Hp}{o:Out D}{ρ:Sl}{Q:VK}(a:Rep C.K own F H σ ρ)(h:Po C own m σ F H (o.plain.bind λd=>.ok (d,ρ)) Q):PoV C m F H o Q:=by
 cases o with
 |ok d=>exact λv F' H' s c b=>h v F' H' (a.grow c s) c.ofNo b
 |exc c=>exact h.elim
 |bad=>exact h.elim
def d2(g:D->D->Out D)(fa fb:qU):qU:=λρ=>(fa ρ).bind λp=>(fb p.2).bind λq=>(g p.1 q.1).plain.bind λd=>.ok (d,q.2)
def d1(g:D->Out D)(fa:qU):qU:=λρ=>(fa ρ).bind λp=>(g p.1).plain.bind λd=>.ok (d,p.2)
section
variable{X:Cx}{C:Ct}{own:List Nat}{a b:Z4}{fa fb:qU}{m ma mb:Mo}{pos:Pos}
theorem KC{g:D->D->Out D}{σ:St}{H:Hp}{Q:VK}(f:ma≠.any)(h:tE C own m (d2 g fa fb) σ H Q):tE C own ma fa σ H λx H1=>tE C own mb fb σ H1 λy H2=>∃F dx i,Same F H2/\TopIs C.K F H2 x dx/\TopIs C.K F H2 y i/\PoV C m F H2 (g dx i) Q:=by obtain⟨F,ρ,p,h⟩:=h;refine⟨F,ρ,p,Po.bind h λv F1 H1 d ρ1 a k c h1=>⟨F1,ρ1,a,Po.bind h1 λw j H2 e ρ2 r c2 b h2=>?_⟩⟩;exact⟨j,d,e,r.sub,(c.grow f c2 λx z=>(p.OA_there z).1).top,b.top,PoV.of r h2⟩
theorem qck{g:D->Out D}{σ:St}{H:Hp}{Q:VK}(h:tE C own m (d1 g fa) σ H Q):tE C own ma fa σ H λx H1=>∃F dx,Same F H1/\TopIs C.K F H1 x dx/\PoV C m F H1 (g dx) Q:=by obtain⟨F,ρ,r,h⟩:=h;refine⟨F,ρ,r,Po.bind h λv F1 H1 d ρ1 a k c h1=>?_⟩;exact⟨F1,d,a.sub,c.top,PoV.of a h1⟩
theorem jy{e:Z4}{t t':TE}(h:PE X e t)(i:∀σ H Q,t' σ H Q->t σ H Q):PE X e t':=⟨λZ9 s σ H Q I w=>h Z9 s σ H Q I (i σ H Q w)⟩
theorem qcl{e:Z4}{t t':TT}(h:PT X e t)(i:∀σ H Q,t' σ H Q->t σ H Q):PT X e t':=⟨λZ9 s σ H Q I w=>h Z9 s σ H Q I (i σ H Q w)⟩
theorem qQ{op:Operator}{g:D->D->Out D}(l:OpD X C m (lB op) g)(c:PE X a (tE C own ma fa))(d:PE X b (tE C own mb fb))(f:ma≠.any:=by decide):PE X (.BinOp a op b pos) (tE C own m (d2 g fa fb)):=
 jy (qj0 l c d) λ_ _ _ h=>KC f h
theorem vH{op:CmpOp}{g:D->D->Out D}(l:OpD X C m (i6 op) g)(c:PE X a (tE C own ma fa))(d:PE X b (tE C own mb fb))(f:ma≠.any:=by decide)(k:lS op b=false:=by first|exact qdG _|with_unfolding_all rfl):PE X (.Compare a [op] [b] pos) (tE C own m (d2 g fa fb)):=
 jy (qeN l c d k) λ_ _ _ h=>KC f h
theorem WK{op:UnaryOp}{g:D->Out D}(l:UnD X C m (unaryOp op) g)(b:PE X a (tE C own ma fa)):PE X (.UnaryOp op a pos) (tE C own m (d1 g fa)):=
 jy (qj1 l b) λ_ _ _ h=>qck h
end
instance:DecidableEq Mo:=λa b=>by cases a <;> cases b <;> first|exact isTrue rfl|exact isFalse (by intro h;cases h)
theorem qcm{K:Y8}{own:List Nat}{H0 F H:Hp}{σ:St}{ρ:Sl}{v:V}{d:D}(r:Rep K own F H σ ρ)(hA:∀b,OA own σ b->H0 b≠iQ)(h:MoIs K .fr H0 F H v d):∃F',Rep K own F' H σ ρ/\Same F F'/\Is K F' v d/\∀b,F' b≠iQ->F b≠iQ\/H0 b=none:=by
 obtain⟨a,rfl,g,j,o⟩:=h;obtain⟨u,hu⟩:∃u,H a=iO u:=by
  cases q:H a with
  |none=>exact absurd q o.there
  |some u=>exact⟨u,rfl⟩
 have gr:Same F (upd F a u):=λb w e=>by rw[qB (qJ e j)];exact e
 have A:Same (upd F a u) H:=λb w e=>by
  by_cases q:b=a;·subst q;rw[qh]at e;cases e;exact hu
  .rw[qB q]at e;exact r.sub b w e
 refine⟨upd F a u,⟨A,r.len,λi d hi e=>?_,λi d hi e=>?_,r.opn,r.dis⟩,gr,?_,λb f=>?_⟩;·obtain⟨v,h1,h2⟩:=r.val i d hi e;exact⟨v,h1,h2.mono gr⟩
 .obtain⟨c,h1,h2,k⟩:=r.ow i d hi e;refine⟨c,h1,?_,k.grow gr λ_ q=>q⟩;have n:c≠a:=λq=>by subst q;exact hA c ⟨i,hi,h1⟩ g
  rw[qB n];exact h2
 .cases d with
  |lst ds=>obtain⟨xs,e,t⟩:=o;rw[hu]at e;cases e;exact .lst (.inl (.inl qh)) (t.mono gr)
  |dct ds=>obtain⟨xs,e,t⟩:=o;rw[hu]at e;cases e;exact .dct qh (t.mono gr)
  |ins C fs=>obtain⟨dx,xs,e,t⟩:=o;rw[hu]at e;cases e;exact .ins qh (t.mono gr)
  |at_ b ds=>obtain⟨J,xs,e,t⟩:=o;rw[hu]at e;cases e;subst J;exact .at_ (.inl (.inl qh)) (t.mono gr)
  |_=>exact o.elim
 .by_cases q:b=a;·exact .inr (by rw[q];exact g)
  .rw[qB q]at f;exact .inl f
theorem Po.toSh{C:Ct}{own:List Nat}{m:Mo}{σ:St}{F H:Hp}{d:Sl}{r:KB}{Q:VK}(f:Rep C.K own F H σ d)(g:m≠.any)(h:Po C own .sh σ F H r Q):Po C own m σ F H r Q:=by
 cases r with
 | ok p=>
  intro v F' H' a c o;cases m with
  |sh=>exact h v F' H' a c o
  |fr=>
   obtain⟨j,e,gr,is,n⟩:=qcm a (λb z=>(f.OA_there z).1) o;refine h v j H' e ⟨c.keep,c.stay,c.grow.trans gr,λb i=>?_⟩ is;rcases n b i with z|z;·exact c.new b z
   .exact .inr (.inl z)
  |any=>exact absurd rfl g
 |exc x=>exact h
 |bad=>exact h.elim
section
variable{X:Cx}{C:Ct}{own:List Nat}{a b e:Z4}{f fa fb:qU}{m ma mb:Mo}{pos:Pos}
theorem uW(h:PE X e (tE C own m f))(c:m≠.any):PE X e (tE C own .sh f):=jy h λ_ _ _ ⟨F,ρ,a,p⟩=>⟨F,ρ,a,p.toSh a c⟩
noncomputable def qc(i:Nat):qU:=λρ=>match ρ[i]? with
 |some (iO d)=>.ok (d,ρ)
 |_=>.bad
noncomputable def dC(d:D):qU:=λρ=>.ok (d,ρ)
theorem qhs{i:Nat}{x:Str}(b:X.N[i]?=iO x)(c:Vis X.env.scope x)(l:i∉own)(hd:Dbg x:=by decide)(a:Cdk x:=by decide):PE X (.Name x pos) (tE C own .sh (qc i)):=by
 refine jy (uF b c hd a) λσ H Q z=>?_;obtain⟨F,ρ,r,h⟩:=z;unfold qc at h;cases e:ρ[i]? with
 |none=>rw[e]at h;exact h.elim
 |some o=>
  cases o with
  |none=>rw[e]at h;exact h.elim
  |some d=>rw[e]at h;obtain⟨v,h1,h2⟩:=r.val i d l e;exact⟨v,h1,h v F H r .refl h2⟩
theorem qe5{i:Nat}{x:Str}(f:X.N[i]?=iO x)(c:Vis X.env.scope x)(l:i∈own)(hd:Dbg x:=by decide)(b:Cdk x:=by decide):PE X (.Name x pos) (tE C own .any (qc i)):=by
 refine jy (uF f c hd b) λσ H Q z=>?_;obtain⟨F,ρ,r,h⟩:=z;unfold qc at h;cases e:ρ[i]? with
 |none=>rw[e]at h;exact h.elim
 |some o=>
  cases o with
  |none=>rw[e]at h;exact h.elim
  |some d=>rw[e]at h;obtain⟨a,h1,h2,g⟩:=r.ow i d l e;exact⟨_,h1,h _ F H r .refl (.inr ⟨a,rfl,g⟩)⟩
theorem qht{v:V}{d:D}(h:PE X e (tC v))(i:∀F,Is C.K F v d):PE X e (tE C own .sh (dC d)):=jy h λσ H Q ⟨F,ρ,a,h⟩=>h v F H a .refl (i F)
theorem qm{i j pos}:PE X (.Constant (.int i) j pos) (tE C own .sh (dC (.int i))):=qht qdE λ_=>.int i
theorem vX{i j pos}:PE X (.Constant (.bool i) j pos) (tE C own .sh (dC (.bl i))):=qht qjQ λ_=>.bl i
theorem vI{j pos}:PE X (.Constant .none j pos) (tE C own .sh (dC .non)):=qht qgW λ_=>.non
theorem yl{x j pos}(h:g7 x<=Z8:=by decide):PE X (.Constant (.str x) j pos) (tE C own .sh (dC (.str x))):=qht qgX λ_=>.str h
theorem qe6{x:Str}{v:V}{d:D}{u:iR}(hg:Gl X x)(c:X.mg x=iO u)(r:RelV v u)(i:∀F,Is C.K F v d)(hd:Dbg x:=by decide):PE X (.Name x pos) (tE C own .sh (dC d)):=qht (qeE hg c r hd) i
noncomputable def zp(g:Int->Int->Out D):D->D->Out D
 |.int i,.int j=>g i j
 |_,_=>.bad
theorem TopIs.int{K:Y8}{F H:Hp}{v:V}{i:Int}(h:TopIs K F H v (.int i)):v=.int i:=by
 rcases h with h|⟨a,_,h⟩
 .cases h;rfl
 .exact h.elim
theorem TopIs.str{K:Y8}{F H:Hp}{v:V}{x:Str}(h:TopIs K F H v (.str x)):v=.str x/\x.length<=Z8:=by
 rcases h with h|⟨a,_,h⟩
 .cases h;exact⟨rfl,by assumption⟩
 .exact h.elim
theorem TopIs.bl{K:Y8}{F H:Hp}{v:V}{x:Bool}(h:TopIs K F H v (.bl x)):v=.bl x:=by
 rcases h with h|⟨a,_,h⟩
 .cases h;rfl
 .exact h.elim
theorem TopIs.non{K:Y8}{F H:Hp}{v:V}(h:TopIs K F H v .non):v=.non:=by
 rcases h with h|⟨a,_,h⟩
 .cases h;rfl
 .exact h.elim
theorem TopIs.lst{K:Y8}{F H:Hp}{v:V}{ds:List D}(s:Same F H)(h:TopIs K F H v (.lst ds)):∃a xs,v=.ref a/\SqL K H a xs/\IsL K F xs ds:=by
 rcases h with h|⟨a,e,h⟩
 .cases h with
  |lst h t=>exact⟨_,_,rfl,s.seq h,t⟩
 .obtain⟨xs,i,t⟩:=h;exact⟨a,xs,e,.inl (.inl i),t⟩
theorem TopIs.tup{K:Y8}{F H:Hp}{v:V}{ds:List D}(s:Same F H)(h:TopIs K F H v (.tup ds)):∃a xs,v=.ref a/\SqT K H a xs/\IsL K F xs ds:=by
 rcases h with h|⟨a,e,h⟩
 .cases h with
  |tup h t=>exact⟨_,_,rfl,qW s h,t⟩
 .exact h.elim
theorem TopIs.dct{K:Y8}{F H:Hp}{v:V}{ds:List (Key×D)}(s:Same F H)(h:TopIs K F H v (.dct ds)):∃a kv,v=.ref a/\H a=iO (.dK kv)/\IsK K F kv ds:=by
 rcases h with h|⟨a,e,h⟩
 .cases h with
  |dct h t=>exact⟨_,_,rfl,s _ _ h,t⟩
 .obtain⟨xs,i,t⟩:=h;exact⟨a,xs,e,i,t⟩
set_option tactic.hygienic true in
theorem qdI{fn:iR->iR->Sem iR}{P:Int->Int->Prop}[∀i j,Decidable (P i j)]{g:Int->Int->V}{gd:Int->Int->D}(l:OpR X fn (rI P g))(hg:∀F i j,Is C.K F (g i j) (gd i j)):OpD X C .sh fn (zp λi j=>if P i j then .ok (gd i j)else .bad):=by
 intro Z9 s σ H x y v u Q I d c h;obtain⟨F,dx,a,A,t,ty,po⟩:=h;cases dx <;> try exact po.elim
 cases a <;> try exact po.elim
 rename_i i j;have po:PoV C .sh F H (if P i j then .ok (gd i j)else .bad) Q:=po;obtain rfl:=t.int;obtain rfl:=ty.int;by_cases q:P i j;·rw[Aa q]at po;exact l Z9 s σ H _ _ v u Q I d c ⟨i,j,rfl,rfl,q,po (g i j) F H A .refl (hg F i j)⟩
 .rw[Ab q]at po;exact po.elim
set_option tactic.hygienic true in
theorem WL{fn:iR->iR->Sem iR}{g:Int->Int->V}{gd:Int->Int->D}(l:OpR X fn (rI0 g))(hg:∀F i j,Is C.K F (g i j) (gd i j)):OpD X C .sh fn (zp λi j=>.ok (gd i j)):=by
 intro Z9 s σ H x y v u Q I d c h;obtain⟨F,dx,a,A,t,ty,po⟩:=h;cases dx <;> try exact po.elim
 cases a <;> try exact po.elim
 rename_i i j;obtain rfl:=t.int;obtain rfl:=ty.int;exact l Z9 s σ H _ _ v u Q I d c ⟨i,j,rfl,rfl,po (g i j) F H A .refl (hg F i j)⟩
def Kg:D->D->Out D:=zp λi j=>.ok (.int (i - j))
theorem uH:OpD X C .sh (lB .Sub) Kg:=WL qg9 λ_ _ _=>.int _
instance:∀i j,Decidable (CMul i j):=λi j=>inferInstanceAs (Decidable (_\/_))
instance:∀i j,Decidable (qk3 i j):=λi j=>inferInstanceAs (Decidable (_/\_))
def qdJ:D->D->Out D:=zp λi j=>if CMul i j then .ok (.int (i * j))else .bad
theorem KF:OpD X C .sh (lB .Mult) qdJ:=qdI qha λ_ _ _=>.int _
def zc:D->D->Out D:=zp λi j=>if 0<j then .ok (.int (i % j))else .bad
theorem wq:OpD X C .sh (lB .Mod) zc:=qdI qhb λ_ _ _=>.int _
noncomputable def wz(x y:Str):Bool:=decide (x.cps.toList<y.cps.toList)
def ltD:D->D->Out D
 |.int i,.int j=>.ok (.bl (decide (i<j)))
 |.str x,.str y=>.ok (.bl (wz x y))
 |_,_=>.bad
theorem qcn:OpD X C .sh (i6 .Lt) ltD:=by
 intro Z9 s σ H x y v u Q I d c h;obtain⟨F,dx,a,A,t,ty,po⟩:=h;cases dx <;> try exact po.elim
 .cases a <;> try exact po.elim
  obtain rfl:=t.int;obtain rfl:=ty.int;exact qj2 Z9 s σ H _ _ v u Q I d c ⟨_,_,rfl,rfl,po _ F H A .refl (.bl _)⟩
 .cases a <;> try exact po.elim
  obtain⟨rfl,_⟩:=t.str;obtain⟨rfl,_⟩:=ty.str;exact ZO Z9 s σ H _ _ v u Q I d c ⟨_,_,rfl,rfl,po _ F H A .refl (.bl _)⟩
end
noncomputable def eqS(a b:D):Option Bool:=match a with
 |.int x=>match b with
  |.int y=>iO (x == y)
  |_=>iQ
 |.str x=>match b with
  |.str y=>iO (x == y)
  |_=>iQ
 |.bl x=>match b with
  |.bl y=>iO (x == y)
  |_=>iQ
 |_=>iQ
def wA(f:D->D->Option Bool):List D->List D->Option Bool
 |x::xs,y::ys=>(f x y).bind λa=>(wA f xs ys).bind λb=>iO (a&&b)
 |_,_=>iO iT
def eqN:Nat->D->D->Option Bool
 |n+1,.tup xs,.tup ys=>(wA (eqN n) xs ys).map λb=>b&&xs.length == ys.length
 |n+1,.lst xs,.lst ys=>if xs.length=ys.length then wA (eqN n) xs ys else iO iS
 |_,a,b=>eqS a b
theorem UN{n:Nat}{a b:D}(h1:∀xs ys,a=.tup xs->b≠.tup ys)(h2:∀xs ys,a=.lst xs->b≠.lst ys):eqN n a b=eqS a b:=by
 cases n with
 |zero=>rfl
 | succ n=>
  cases a with
  |tup xs=>cases b with
   |tup ys=>exact absurd rfl (h1 xs ys rfl)
   |_=>rfl
  |lst xs=>cases b with
   |lst ys=>exact absurd rfl (h2 xs ys rfl)
   |_=>rfl
  |_=>rfl
def itE(f:D->D->Option Bool)(xs ys:List D)(j:Nat):Bool:=((xs[j]?).bind λx=>(ys[j]?).bind λy=>f x y).getD iS
theorem vJ{f:D->D->Option Bool}:∀{xs ys:List D}{b:Bool},wA f xs ys=iO b->b=(aH (min xs.length ys.length)).all (itE f xs ys)
 |[],ys,b,h=>by simp[wA]at h ⊢;exact h
 |x::xs,[],b,h=>by simp[wA]at h ⊢;exact h
 | x::xs,y::ys,b,h=>by
  unfold wA at h;cases e:f x y with
  |none=>rw[e]at h;simp at h
  | some a=>
   cases i:wA f xs ys with
   |none=>rw[e,i]at h;simp at h
   |some c=>
    rw[e,i]at h;have h:(a&&c)=b:=by simpa using h
    have d:=vJ i;have m:min (x::xs).length (y::ys).length=min xs.length ys.length+1:=by simp only[ah];lia
    rw[m,List.range_succ_eq_map,fY,g8];have e0:itE f (x::xs) (y::ys) 0=a:=by simp[itE,e]
    have e1:(itE f (x::xs) (y::ys)) ∘ Nat.succ=itE f xs ys:=by funext j;simp[itE]
    rw[e0,e1,<-d];exact h.symm
theorem Ge{f:D->D->Option Bool}:∀{xs ys:List D}{b:Bool},wA f xs ys=iO b->∀(j:Nat)(x y:D),xs[j]?=iO x->ys[j]?=iO y->f x y=iO (itE f xs ys j)
 |[],ys,b,_,j,x,y,hx,_=>by simp at hx
 |x::xs,[],b,_,j,_,y,_,hy=>by simp at hy
 |x::xs,y::ys,b,h,0,x',y',hx,hy=>by
  simp at hx hy;subst hx hy;unfold wA at h;cases e:f x y with
  |none=>rw[e]at h;simp at h
  |some a=>simp[itE,e]
 | x::xs,y::ys,b,h,j+1,x',y',hx,hy=>by
  unfold wA at h;cases e:f x y with
  |none=>rw[e]at h;simp at h
  |some a=>
   cases i:wA f xs ys with
   |none=>rw[e,i]at h;simp at h
   |some c=>have q:=Ge i j x' y' (by simpa using hx) (by simpa using hy);rw[q];simp[itE]
section
variable{X:Cx}{Z9:Pns}{σ:St}{F H:Hp}{s:iV}
noncomputable def smp:D->Bool
 |.bl _|.int _|.str _|.tup _|.lst _=>iT
 |_=>iS
theorem qe7{n:Nat}{d e:D}{b:Bool}(h:eqN n d e=iO b):smp d=true:=by cases d <;> first|rfl|(cases n <;> exact nomatch (show iQ=iO b from h))
theorem qkf{n:Nat}{d e:D}{b:Bool}(h:eqN n d e=iO b):smp e=true:=by cases e <;> first|rfl|(cases n <;> cases d <;> exact nomatch (show iQ=iO b from h))
theorem qco(I:Inv X Z9 σ H s)(A:Same F H){a:Z7}{xs ys:List V}(p:SqT X.K F a xs)(q:SqL X.K F a ys):False:=by obtain⟨_,_,b,_⟩:=I.list (A.seq q);obtain⟨_,_,e,_⟩:=I.tuple (qW A p);exact absurd rfl (PySem.SeqAt.ne_of_list_tuple b.isList e)
theorem zF{f:D->D->Option Bool}{x y:D}{xs ys:List D}{b:Bool}(h:wA f (x::xs) (y::ys)=iO b):∃a c,f x y=iO a/\wA f xs ys=iO c/\b=(a&&c):=by
 unfold wA at h;cases e:f x y with
 |none=>rw[e]at h;cases h
 |some a=>
  cases i:wA f xs ys with
  |none=>rw[e,i]at h;cases h
  |some c=>rw[e,i]at h;exact⟨a,c,rfl,rfl,(aL.inj h).symm⟩
theorem WM{n:Nat}{xs ys:List D}{b:Bool}(h:eqN (n+1) (.tup xs) (.tup ys)=iO b):∃c,wA (eqN n) xs ys=iO c/\b=(c&&xs.length == ys.length):=by
 have h:((wA (eqN n) xs ys).map λb=>b&&xs.length == ys.length)=iO b:=h;cases e:wA (eqN n) xs ys with
 |none=>rw[e]at h;cases h
 |some c=>rw[e]at h;exact⟨c,rfl,(aL.inj h).symm⟩
theorem Gf(I:Inv X Z9 σ H s)(A:Same F H):∀(n:Nat){v:V}{d e:D}{b:Bool},Is X.K F v d->Is X.K F v e->eqN n d e=iO b->b=true:=by
 have base:∀{n:Nat}{v:V}{d e:D}{b:Bool},Is X.K F v d->Is X.K F v e->eqN n d e=iO b->(∀a xs ds es,Is X.K F (.ref a) (.tup ds)->SqT X.K F a xs->IsL X.K F xs ds->IsL X.K F xs es->eqN n (.tup ds) (.tup es)=iO b->b=iT)->(∀a xs ds es,SqL X.K F a xs->IsL X.K F xs ds->IsL X.K F xs es->eqN n (.lst ds) (.lst es)=iO b->b=iT)->b=true:=by
  intro n v d e b h1 h2 h ht hl;have s1:=qe7 h;have s2:=qkf h;cases h1 with
  |bl x=>cases h2 with
   |bl=>cases n <;> exact(aL.inj h).symm.trans (beq_self_eq_true x)
   |raw=>cases s2
  |int x=>cases h2 with
   |int=>cases n <;> exact(aL.inj h).symm.trans (beq_self_eq_true x)
   |raw=>cases s2
  |str _=>cases h2 with
   |str _=>cases n <;> exact(aL.inj h).symm.trans (beq_self_eq_true _)
   |raw=>cases s2
  |tup p1 t1=>cases h2 with
   |tup p2 t=>have q:=I.tuple_inj (qW A p1) (qW A p2);subst q;exact ht _ _ _ _ (.tup p1 t1) p1 t1 t h
   |lst p2 t=>exact(qco I A p1 p2).elim
   |_=>cases s2
  |lst p1 t1=>cases h2 with
   |lst p2 t=>have q:=I.list_inj (A.seq p1) (A.seq p2);subst q;exact hl _ _ _ _ p1 t1 t h
   |tup p2 t=>exact(qco I A p2 p1).elim
   |_=>cases s2
  |_=>cases s1
 intro n
 induction n with
 |zero=>exact λ{_ _ _ _} h1 h2 h=>base h1 h2 h (λ_ _ _ _ _ _ _ _ h=>nomatch (show iQ=iO _ from h)) λ_ _ _ _ _ _ _ h=>nomatch (show iQ=iO _ from h)
 | succ n j=>
  have l:∀{xs:List V}{ds es:List D}{b:Bool},IsL X.K F xs ds->IsL X.K F xs es->wA (eqN n) ds es=iO b->b=true:=by
   intro xs
   induction xs with
   |nil=>intro ds es b h1 h2 h;cases h1;cases h2;exact(aL.inj h).symm
   | cons x xs i=>
    intro ds es b h1 h2 h;cases h1 with
    |cons k t1=>
     cases h2 with
     |cons g t=>obtain⟨a,c,q,f,rfl⟩:=zF h;rw[j k g q,i t1 t f];rfl
  intro v d e b h1 h2 h;refine base h1 h2 h (λa xs ds es _ _ t1 t h=>?_) λa xs ds es _ t1 t h=>?_;·obtain⟨c,q,rfl⟩:=WM h;rw[l t1 t q,t1.length.symm.trans t.length,beq_self_eq_true];rfl
  .have h:(if ds.length=es.length then wA (eqN n) ds es else iO iS)=iO _:=h;rw[Aa (t1.length.symm.trans t.length)]at h;exact l t1 t h
end
open PySem.SeqAt
section
variable{X:Cx}{Z9:Pns}{σ:St}{F H:Hp}{s:iV}
theorem Vals.getE{xs:List V}{us:List iR}(r:Vals xs us){j:Nat}(h:j<us.length):∃x,xs[j]?=iO x/\RelV x us[j]:=by
 have hl:=r.length;have D:j<xs.length:=by lia
 obtain⟨u,e1,e⟩:=Vals.get (i:=j) (x:=xs[j]) r (by simp[D]);refine⟨xs[j],by simp[D],?_⟩;rw[ay h]at e1;cases e1;exact e
theorem uq{A:j4}{n:Nat}{xs ys:List V}{ds es:List D}{us ws:List iR}{b:Bool}(g:∀{v w:V}{d e:D}{u t:iR}{b:Bool},Is X.K F v d->Is X.K F w e->RelV v u->RelV w t->eqN n d e=iO b->EqAt A s u t b)(r1:Vals xs us)(r2:Vals ys ws)(i1:IsL X.K F xs ds)(i2:IsL X.K F ys es)(h:wA (eqN n) ds es=iO b) :
  ∀j (h1:j<us.toArray.size) (h2:j<ws.toArray.size),EqAt A s us.toArray[j] ws.toArray[j] (itE (eqN n) ds es j):=by
 intro j h1 h2;have c:j<us.length:=by simpa using h1
 have a:j<ws.length:=by simpa using h2
 obtain⟨x,ex,f⟩:=Vals.getE r1 c;obtain⟨y,l,r⟩:=Vals.getE r2 a;obtain⟨d,o,i⟩:=i1.get ex;obtain⟨e,m,k⟩:=i2.get l;have q:=Ge h j d e o m;simpa using g i k f r q
theorem UO{A:j4}{n:Nat}{a c:Z7}{xs ys:List V}{ds es:List D}{b:Bool}(I:Inv X Z9 σ H s)(j:∀{v w:V}{d e:D}{u t:iR}{b:Bool},Is X.K F v d->Is X.K F w e->RelV v u->RelV w t->eqN n d e=iO b->EqAt A.in1 s u t b)(p1:SqT X.K H a xs)(p2:SqT X.K H c ys)(i1:IsL X.K F xs ds)(i2:IsL X.K F ys es)(h:eqN (n+1) (.tup ds) (.tup es)=iO b)(i:A.units<k4):RcAt A s (.ref a) (.ref c) b:=by
 obtain⟨us,r1,t1,_⟩:=I.tuple p1;obtain⟨ws,r2,f,_⟩:=I.tuple p2;simp only[eqN]at h;cases q:wA (eqN n) ds es with
 |none=>rw[q]at h;simp at h
 |some k=>
  rw[q]at h;have g:us.toArray.size=ds.length:=by rw[au,<-r1.length,i1.length]
  have l:ws.toArray.size=es.length:=by rw[au,<-r2.length,i2.length]
  have z:=RcAt.tuples (A:=A) t1 f i (uq (A:=A.in1) j r1 r2 i1 i2 q);rw[g,l,<-vJ q]at z;have e:b=(k&&ds.length == es.length):=by simpa using h.symm
  rw[e];exact z
theorem UP{A:j4}{n:Nat}{a c:Z7}{xs ys:List V}{ds es:List D}{b:Bool}(I:Inv X Z9 σ H s)(j:∀{v w:V}{d e:D}{u t:iR}{b:Bool},Is X.K F v d->Is X.K F w e->RelV v u->RelV w t->eqN n d e=iO b->EqAt A.in1 s u t b)(p1:SqL X.K H a xs)(p2:SqL X.K H c ys)(i1:IsL X.K F xs ds)(i2:IsL X.K F ys es)(h:eqN (n+1) (.lst ds) (.lst es)=iO b)(i:A.units<k4):RcAt A s (.ref a) (.ref c) b:=by
 obtain⟨us,r1,t1,_⟩:=I.list p1;obtain⟨ws,r2,f,_⟩:=I.list p2;have g:us.toArray.size=ds.length:=by rw[au,<-r1.length,i1.length]
 have l:ws.toArray.size=es.length:=by rw[au,<-r2.length,i2.length]
 simp only[eqN]at h;by_cases hl:ds.length=es.length;·rw[Aa hl]at h;have z:=RcAt.lists (A:=A) t1.isList f.isList (by lia) i (uq (A:=A.in1) j r1 r2 i1 i2 h);have e:=vJ h;rw[g]at z;rw[e,show min ds.length es.length=ds.length by lia];exact z
 .rw[Ab hl]at h;cases h;exact RcAt.lists_lengths t1.isList f.isList (bne_iff_ne.mpr (by rw[g,l];exact hl)) i
def Kd(s:iV):D->iR->Prop
 |.bl b,u=>u=.bool b
 |.int i,u=>∃t,u=.int i t
 |.str x,u=>∃t,u=.str x t
 |_,_=>True
theorem XG(I:Inv X Z9 σ H s)(A:Same F H){v:V}{d:D}{u:iR}(t:TopIs X.K F H v d)(r:RelV v u):Kd s d u:=by
 cases d with
 |bl=>obtain rfl:=t.bl;exact r
 |int=>obtain rfl:=t.int;exact r
 |str=>obtain⟨rfl,_⟩:=t.str;exact r
 |_=>trivial
theorem qhu{A:j4}{d e:D}{u t:iR}{b:Bool}(f:A.units<k4)(k1:Kd s d u)(k2:Kd s e t)(h:eqS d e=iO b):EqAt A s u t b:=by
 cases d <;> cases e <;> try (cases h;done)
 all_goals
  cases h;first|obtain⟨_,rfl⟩:=k1|cases k1
  first|obtain⟨_,rfl⟩:=k2|cases k2
  with_reducible first|exact EqAt.bool_bool _ _|exact EqAt.int_int _ _ _ _|exact EqAt.str_str _ _ _ _
set_option tactic.hygienic true in
theorem Gg(I:Inv X Z9 σ H s)(f:Same F H):∀(n:Nat){A:j4}{v w:V}{d e:D}{u t:iR}{b:Bool},A.units+n<k4->Is X.K F v d->Is X.K F w e->RelV v u->RelV w t->eqN n d e=iO b->EqAt A s u t b:=by
 intro n
 induction n with
 |zero=>exact λz h1 h2 x r h=>qhu (by lia) (XG I f (.inl h1) x) (XG I f (.inl h2) r) h
 | succ n o=>
  intro A v w d e u t b z h1 h2 x r h;have l:A.in1.units+n<k4:=by show A.units+1+n<k4;lia
  by_cases both:(∃xs ys,d=.tup xs/\e=.tup ys)\/(∃xs ys,d=.lst xs/\e=.lst ys)
  .rcases both with⟨ds,es,rfl,rfl⟩|⟨ds,es,rfl,rfl⟩
   .have j:=h1;have i:=h2;cases h1 with
    | tup p1 t1=>
     cases h2 with
     |tup p2 m=>
      rename_i a xs c ys;cases x;cases r;by_cases ne:a=c;·subst ne;rw[Gf I f (n+1) j i h];exact EqAt.same _
      .exact EqAt.of_refs ne (UO I (λk g y q p=>o l k g y q p) (qW f p1) (qW f p2) t1 m h (by lia))
   .have j:=h1;have i:=h2;cases h1 with
    | lst p1 t1=>
     cases h2 with
     |lst p2 m=>
      rename_i a xs c ys;cases x;cases r;by_cases ne:a=c;·subst ne;rw[Gf I f (n+1) j i h];exact EqAt.same _
      .exact EqAt.of_refs ne (UP I (λk g y q p=>o l k g y q p) (f.seq p1) (f.seq p2) t1 m h (by lia))
  .have e1:eqN (n+1) d e=eqS d e:=UN (λxs ys k g=>both (.inl ⟨xs,ys,k,g⟩)) (λxs ys k g=>both (.inr ⟨xs,ys,k,g⟩));have B:eqN n d e=eqS d e:=UN (λxs ys k g=>both (.inl ⟨xs,ys,k,g⟩)) (λxs ys k g=>both (.inr ⟨xs,ys,k,g⟩));exact o (by lia) h1 h2 x r (by rw[B,<-e1];exact h)
end
variable{X:Cx}{A:j4}{n:Nat}{b:Bool}
section
variable{Z9:Pns}{σ:St}{F H:Hp}{s:iV}
theorem qcp{a c:Z7}{xs ys:List V}{ds es:List D}(I:Inv X Z9 σ H s)(j:∀{v w:V}{d e:D}{u t:iR}{b:Bool},Is X.K F v d->Is X.K F w e->RelV v u->RelV w t->eqN n d e=iO b->EqAt A.in1 s u t b)(p1:SqT X.K H a xs)(p2:SqT X.K H c ys)(i1:IsL X.K F xs ds)(i2:IsL X.K F ys es)(h:eqN (n+1) (.tup ds) (.tup es)=iO b)(i:A.units<k4):RcNeAt A s (.ref a) (.ref c) (!b):=by
 obtain⟨us,r1,t1,_⟩:=I.tuple p1;obtain⟨ws,r2,f,_⟩:=I.tuple p2;simp only[eqN]at h;cases q:wA (eqN n) ds es with
 |none=>rw[q]at h;simp at h
 |some k=>
  rw[q]at h;have g:us.toArray.size=ds.length:=by rw[au,<-r1.length,i1.length]
  have l:ws.toArray.size=es.length:=by rw[au,<-r2.length,i2.length]
  have z:=RcNeAt.tuples (A:=A) t1 f i (uq (A:=A.in1) j r1 r2 i1 i2 q);rw[g,l,<-vJ q]at z;have e:b=(k&&ds.length == es.length):=by simpa using h.symm
  rw[e];exact z
theorem qcq{a c:Z7}{xs ys:List V}{ds es:List D}(I:Inv X Z9 σ H s)(j:∀{v w:V}{d e:D}{u t:iR}{b:Bool},Is X.K F v d->Is X.K F w e->RelV v u->RelV w t->eqN n d e=iO b->EqAt A.in1 s u t b)(p1:SqL X.K H a xs)(p2:SqL X.K H c ys)(i1:IsL X.K F xs ds)(i2:IsL X.K F ys es)(h:eqN (n+1) (.lst ds) (.lst es)=iO b)(i:A.units<k4):RcNeAt A s (.ref a) (.ref c) (!b):=by
 obtain⟨us,r1,t1,_⟩:=I.list p1;obtain⟨ws,r2,f,_⟩:=I.list p2;have g:us.toArray.size=ds.length:=by rw[au,<-r1.length,i1.length]
 have l:ws.toArray.size=es.length:=by rw[au,<-r2.length,i2.length]
 simp only[eqN]at h;by_cases hl:ds.length=es.length;·rw[Aa hl]at h;have z:=RcNeAt.lists (A:=A) t1.isList f.isList (by lia) i (uq (A:=A.in1) j r1 r2 i1 i2 h);have e:=vJ h;rw[g]at z;rw[e,show min ds.length es.length=ds.length by lia];exact z
 .rw[Ab hl]at h;cases h;exact RcNeAt.lists_lengths t1.isList f.isList (bne_iff_ne.mpr (by rw[g,l];exact hl)) i
theorem qhv(I:Inv X Z9 σ H s)(f:Same F H){v w:V}{d e:D}{u t:iR}(k:A.units+n+1<k4)(t1:TopIs X.K F H v d)(g:TopIs X.K F H w e)(x:RelV v u)(r:RelV w t)(h:eqN (n+1) d e=iO b):RcAt A s u t b:=by
 have i:A.units<k4:=by lia
 have j:∀{v w:V}{d e:D}{u t:iR}{b:Bool},Is X.K F v d->Is X.K F w e->RelV v u->RelV w t->eqN n d e=iO b->EqAt A.in1 s u t b:=λm l y q p=>Gg I f n (by show A.units+1+n<k4;lia) m l y q p;have k1:=XG I f t1 x;have k2:=XG I f g r;cases d <;> cases e <;> try (cases h;done)
 case tup.tup=>
  obtain⟨a,xs,rfl,p1,i1⟩:=t1.tup f;obtain⟨c,ys,rfl,p2,i2⟩:=g.tup f;cases x;cases r;exact UO I j p1 p2 i1 i2 h i
 case lst.lst=>
  obtain⟨a,xs,rfl,p1,i1⟩:=t1.lst f;obtain⟨c,ys,rfl,p2,i2⟩:=g.lst f;cases x;cases r;exact UP I j p1 p2 i1 i2 h i
 all_goals
  cases h;clear x r t1 g;first|obtain⟨_,rfl⟩:=k1|cases k1
  first|obtain⟨_,rfl⟩:=k2|cases k2
  with_reducible first|exact RcAt.int_int _ _ _ _|exact RcAt.str_str _ _ _ _|with_unfolding_all exact RcAt.bool_bool _ _
theorem qhw(I:Inv X Z9 σ H s)(f:Same F H){v w:V}{d e:D}{u t:iR}(k:A.units+n+1<k4)(t1:TopIs X.K F H v d)(g:TopIs X.K F H w e)(x:RelV v u)(r:RelV w t)(h:eqN (n+1) d e=iO b):RcNeAt A s u t (!b):=by
 have i:A.units<k4:=by lia
 have j:∀{v w:V}{d e:D}{u t:iR}{b:Bool},Is X.K F v d->Is X.K F w e->RelV v u->RelV w t->eqN n d e=iO b->EqAt A.in1 s u t b:=λm l y q p=>Gg I f n (by show A.units+1+n<k4;lia) m l y q p;have k1:=XG I f t1 x;have k2:=XG I f g r;cases d <;> cases e <;> try (cases h;done)
 case tup.tup=>
  obtain⟨a,xs,rfl,p1,i1⟩:=t1.tup f;obtain⟨c,ys,rfl,p2,i2⟩:=g.tup f;cases x;cases r;exact qcp I j p1 p2 i1 i2 h i
 case lst.lst=>
  obtain⟨a,xs,rfl,p1,i1⟩:=t1.lst f;obtain⟨c,ys,rfl,p2,i2⟩:=g.lst f;cases x;cases r;exact qcq I j p1 p2 i1 i2 h i
 all_goals
  cases h;clear x r t1 g;first|obtain⟨_,rfl⟩:=k1|cases k1
  first|obtain⟨_,rfl⟩:=k2|cases k2
  with_reducible first|exact RcNeAt.int_int _ _ _ _|exact RcNeAt.str_str _ _ _ _|with_unfolding_all exact RcNeAt.bool_bool _ _
end
def eqD(a b:D):Out D:=match eqN 8 a b with
 |some c=>.ok (.bl c)
 |none=>.bad
def neD(a b:D):Out D:=match eqN 8 a b with
 |some c=>.ok (.bl (!c))
 |none=>.bad
section
variable{C:Ct}
theorem xc(a:C.K=X.K)(g:X.A.units+64<k4):OpD X C .sh (i6 .Eq) eqD:=by
 intro Z9 s σ H x y v u Q I d r h;obtain⟨F,dx,f,b,t,ty,po⟩:=h;rw[a]at t ty;unfold eqD at po;cases e:eqN 8 dx f with
 |none=>rw[e]at po;exact po.elim
 |some c=>rw[e]at po;exact qhv I b (n:=7) (by lia) t ty d r e _ _ _ _ ⟨.bl c,H,I,rfl,po _ F H b .refl (.bl _)⟩
theorem gT(a:C.K=X.K)(g:X.A.units+64<k4):OpD X C .sh (i6 .NotEq) neD:=by
 intro Z9 s σ H x y v u Q I d r h;obtain⟨F,dx,f,b,t,ty,po⟩:=h;rw[a]at t ty;unfold neD at po;cases e:eqN 8 dx f with
 |none=>rw[e]at po;exact po.elim
 |some c=>rw[e]at po;exact qhw I b (n:=7) (by lia) t ty d r e _ _ _ _ ⟨.bl _,H,I,rfl,po _ F H b .refl (.bl _)⟩
end
variable{X:Cx}{Z9:Pns}{σ:St}{F H:Hp}{s:iV}{n:Nat}{v:V}{d e:D}{b:Bool}
section
theorem qe8(I:Inv X Z9 σ H s)(A:Same F H):∀(n:Nat){v:V}{d d' e:D}{b g:Bool},Is X.K F v d->Is X.K F v d'->eqN n d e=iO b->eqN n d' e=iO g->b=g:=by
 intro n
 induction n with
 | zero=>
  intro v d d' e b g h1 h2 e1 i;cases d with
  |bl=>cases h1;cases h2 with
   |bl=>exact aL.inj (e1.symm.trans i)
   |raw=>exact nomatch (show iQ=iO g from i)
  |int=>cases h1;cases h2 with
   |int=>exact aL.inj (e1.symm.trans i)
   |raw=>exact nomatch (show iQ=iO g from i)
  |str=>cases h1;cases h2 with
   |str=>exact aL.inj (e1.symm.trans i)
   |raw=>exact nomatch (show iQ=iO g from i)
  |_=>exact nomatch (show iQ=iO b from e1)
 | succ n o=>
  have l:∀{xs:List V}{ds f es:List D}{b g:Bool},IsL X.K F xs ds->IsL X.K F xs f->wA (eqN n) ds es=iO b->wA (eqN n) f es=iO g->b=g:=by
   intro xs
   induction xs with
   |nil=>intro ds f es b g h1 h2 e1 i;cases h1;cases h2;exact aL.inj (e1.symm.trans i)
   | cons x xs k=>
    intro ds f es b g h1 h2 e1 i;cases h1 with
    | cons r t1=>
     cases h2 with
     |cons p t=>
      cases es with
      |nil=>exact aL.inj (e1.symm.trans i)
      |cons e es=>obtain⟨a,c,q,m,rfl⟩:=zF e1;obtain⟨u,T,j,h,rfl⟩:=zF i;rw[o r p q j,k t1 t m h]
  intro v d d' e b g h1 h2 e1 i;have s1:=qe7 e1;have s2:=qe7 i;cases h1 with
  | tup p1 t1=>
   cases h2 with
   |tup p2 t=>
    have q:=I.tuple_inj (qW A p1) (qW A p2);subst q;have hl:=t1.length.symm.trans t.length;cases e with
    |tup es=>obtain⟨c,q,rfl⟩:=WM e1;obtain⟨T,j,rfl⟩:=WM i;rw[l t1 t q j,hl]
    |_=>exact nomatch (show iQ=iO b from e1)
   |lst p2 t=>exact(qco I A p1 p2).elim
   |_=>cases s2
  | lst p1 t1=>
   cases h2 with
   | lst p2 t=>
    have q:=I.list_inj (A.seq p1) (A.seq p2);subst q;have hl:=t1.length.symm.trans t.length;cases e with
    |lst es=>
     have e1:(if _=es.length then wA (eqN n) _ es else iO iS)=iO b:=e1;have i:(if _=es.length then wA (eqN n) _ es else iO iS)=iO g:=i;rw[hl]at e1;split at i;·rw[Aa (by assumption)]at e1;exact l t1 t e1 i
     .rw[Ab (by assumption)]at e1;exact aL.inj (e1.symm.trans i)
    |_=>exact nomatch (show iQ=iO b from e1)
   |tup p2 t=>exact(qco I A p2 p1).elim
   |_=>cases s2
  |bl=>cases h2 with
   |bl=>exact aL.inj (e1.symm.trans i)
   |raw=>cases s2
  |int=>cases h2 with
   |int=>exact aL.inj (e1.symm.trans i)
   |raw=>cases s2
  |str=>cases h2 with
   |str=>exact aL.inj (e1.symm.trans i)
   |raw=>cases s2
  |_=>cases s1
open Classical in
def ZC(X:Cx)(F:Hp)(n:Nat)(e:D)(u:iR):Bool:=decide (∃v d,Is X.K F v d/\RelV v u/\eqN n d e=iO iT)
open Classical in
theorem Gh(I:Inv X Z9 σ H s)(A:Same F H){u:iR}(h:Is X.K F v d)(r:RelV v u)(q:eqN n d e=iO b):ZC X F n e u=b:=by
 unfold ZC;cases b with
 |true=>exact Ad ⟨v,d,h,r,q⟩
 |false=>refine Ac ?_;rintro⟨w,d',h',r',g⟩;have e:=r.inj r';subst e;exact absurd (qe8 I A n h h' q g) (by decide)
def zq(n:Nat)(e:D):List D->Option Bool
 |[]=>iO iS
 |d::ds=>(eqN n d e).bind λa=>(zq n e ds).bind λb=>iO (a||b)
theorem KG{ds:List D}(h:zq n e (d::ds)=iO b):∃a c,eqN n d e=iO a/\zq n e ds=iO c/\b=(a||c):=by
 unfold zq at h;cases q:eqN n d e with
 |none=>rw[q]at h;simp at h
 |some a=>
  cases f:zq n e ds with
  |none=>rw[q,f]at h;simp at h
  |some c=>rw[q,f]at h;exact⟨a,c,rfl,rfl,(aL.inj h).symm⟩
theorem Gi(I:Inv X Z9 σ H s)(A:Same F H):∀{vs:List V}{ds:List D}{us:List iR}{b:Bool},IsL X.K F vs ds->Vals vs us->zq n e ds=iO b->us.any (ZC X F n e)=b/\∀u∈us,∃v d a,Is X.K F v d/\RelV v u/\eqN n d e=iO a/\ZC X F n e u=a
 |_,_,_,b,.nil,.nil,h=>⟨by simpa using(aL.inj h),λu f=>nomatch f⟩
 |_,_,_,b,.cons i t,.cons r rs,h=>by
  obtain⟨a,c,q,k,rfl⟩:=KG h;obtain⟨j,g⟩:=Gi I A t rs k;have e1:=Gh I A i r q;refine⟨by rw[b9,e1,j],λu f=>?_⟩;rcases ae.mp f with rfl|f;·exact⟨_,_,a,i,r,q,e1⟩
  .exact g u f
end
def inD(x y:D):Out Bool:=match y with
 |.lst ds=>match zq 7 x ds with
  |some b=>.ok b
  |none=>.bad
 |.tup ds=>match zq 7 x ds with
  |some b=>.ok b
  |none=>.bad
 |_=>.bad
def qjt(x y:D):Out D:=(inD x y).bind λb=>.ok (.bl b)
def XH(x y:D):Out D:=(inD x y).bind λb=>.ok (.bl (!b))
theorem TopIs.is{K:Y8}(s:Same F H)(h:TopIs K F H v d):∃F',Same F F'/\Same F' H/\Is K F' v d:=by
 rcases h with h|⟨a,rfl,o⟩
 .exact⟨F,Same.refl _,s,h⟩
 .obtain⟨u,hu⟩:∃u,H a=iO u:=by
   cases q:H a with
   |none=>exact absurd q o.there
   |some u=>exact⟨u,rfl⟩
  by_cases f:F a=iQ
  .have gr:Same F (upd F a u):=λb w e=>by rw[qB (qJ e f)];exact e
   refine⟨upd F a u,gr,λb w e=>?_,?_⟩
   .by_cases q:b=a;·subst q;rw[qh]at e;cases e;exact hu
    .rw[qB q]at e;exact s b w e
   .cases d with
    |lst ds=>obtain⟨xs,e,t⟩:=o;rw[hu]at e;cases e;exact .lst (.inl (.inl qh)) (t.mono gr)
    |dct ds=>obtain⟨xs,e,t⟩:=o;rw[hu]at e;cases e;exact .dct qh (t.mono gr)
    |ins C fs=>obtain⟨dx,xs,e,t⟩:=o;rw[hu]at e;cases e;exact .ins qh (t.mono gr)
    |at_ b ds=>obtain⟨J,xs,e,t⟩:=o;rw[hu]at e;cases e;subst J;exact .at_ (.inl (.inl qh)) (t.mono gr)
    |_=>exact o.elim
  .obtain⟨w,hw⟩:∃w,F a=iO w:=by
    cases q:F a with
    |none=>exact absurd q f
    |some w=>exact⟨w,rfl⟩
   have e:=s a w hw;cases d with
   |lst ds=>obtain⟨xs,c,t⟩:=o;rw[c]at e;cases e;exact⟨F,Same.refl _,s,.lst (.inl (.inl hw)) t⟩
   |dct ds=>obtain⟨xs,c,t⟩:=o;rw[c]at e;cases e;exact⟨F,Same.refl _,s,.dct hw t⟩
   |ins C fs=>obtain⟨dx,xs,c,t⟩:=o;rw[c]at e;cases e;exact⟨F,Same.refl _,s,.ins hw t⟩
   |at_ b ds=>obtain⟨J,xs,c,t⟩:=o;rw[c]at e;cases e;subst J;exact⟨F,Same.refl _,s,.at_ (.inl (.inl hw)) t⟩
   |_=>exact o.elim
section
variable{C:Ct}
theorem KH{A:j4}{y x:V}{dx:D}{ds:List D}{b:Bool}{u v:iR}{a:Z7}{us:List iR}{xs:List V}(I:Inv X Z9 σ H s)(l:A.units+64<k4)(c:Same F H)(ix:Is X.K F x dx)(f:RelV x v)(i:IsL X.K F xs ds)(r:Vals xs us)(h:zq 7 dx ds=iO b):us.any (ZC X F 7 dx)=b/\∀w,w∈us.toArray->EqAt A.in1 s w v (ZC X F 7 dx w):=by
 obtain⟨h1,h2⟩:=Gi I c i r h;refine⟨h1,λw g=>?_⟩;obtain⟨j,d,k,i1,r1,q,e⟩:=h2 w (by simpa using g);rw[e];exact Gg I c 7 (by show A.units+1+7<k4;lia) i1 ix r1 f q
theorem qkg(n:C.K=X.K)(j:X.A.units+64<k4):OpD X C .sh (i6 .In) qjt:=by
 intro Z9 s σ H x y v u Q I g f h;obtain⟨F,dx,k,d,t,ty,po⟩:=h;rw[n]at t ty;unfold qjt inD at po;obtain⟨F',g',c,ix⟩:=t.is d;cases k with
 |lst ds=>
  cases e:zq 7 dx ds with
  |none=>simp only[e]at po;exact po.elim
  |some b=>simp only[e]at po;obtain⟨a,xs,rfl,p,i⟩:=ty.lst d;cases f;obtain⟨us,r,pl,_⟩:=I.list p;obtain⟨h1,h2⟩:=KH (A:=X.A) (y:=.non) (a:=a) (u:=.none) I j c ix g (i.mono g') r e;refine in_listAt (ZC X F' 7 dx) pl.isList h2 ⟨.bl b,H,I,by show _=_;rw[<-h1];simp,po _ F H d .refl (.bl _)⟩
 |tup ds=>
  cases e:zq 7 dx ds with
  |none=>simp only[e]at po;exact po.elim
  |some b=>simp only[e]at po;obtain⟨a,xs,rfl,p,i⟩:=ty.tup d;cases f;obtain⟨us,r,pl,_⟩:=I.tuple p;obtain⟨h1,h2⟩:=KH (A:=X.A) (y:=.non) (a:=a) (u:=.none) I j c ix g (i.mono g') r e;refine in_tupleAt (ZC X F' 7 dx) pl h2 ⟨.bl b,H,I,by show _=_;rw[<-h1];simp,po _ F H d .refl (.bl _)⟩
 |_=>exact po.elim
theorem qcr(n:C.K=X.K)(j:X.A.units+64<k4):OpD X C .sh (i6 .NotIn) XH:=by
 intro Z9 s σ H x y v u Q I g f h;obtain⟨F,dx,k,d,t,ty,po⟩:=h;rw[n]at t ty;unfold XH inD at po;obtain⟨F',g',c,ix⟩:=t.is d;cases k with
 |lst ds=>
  cases e:zq 7 dx ds with
  |none=>simp only[e]at po;exact po.elim
  |some b=>simp only[e]at po;obtain⟨a,xs,rfl,p,i⟩:=ty.lst d;cases f;obtain⟨us,r,pl,_⟩:=I.list p;obtain⟨h1,h2⟩:=KH (A:=X.A) (y:=.non) (a:=a) (u:=.none) I j c ix g (i.mono g') r e;refine notIn_listAt (ZC X F' 7 dx) pl.isList h2 ⟨.bl (!b),H,I,by show _=_;rw[<-h1];simp,po _ F H d .refl (.bl _)⟩
 |tup ds=>
  cases e:zq 7 dx ds with
  |none=>simp only[e]at po;exact po.elim
  |some b=>simp only[e]at po;obtain⟨a,xs,rfl,p,i⟩:=ty.tup d;cases f;obtain⟨us,r,pl,_⟩:=I.tuple p;obtain⟨h1,h2⟩:=KH (A:=X.A) (y:=.non) (a:=a) (u:=.none) I j c ix g (i.mono g') r e;refine notIn_tupleAt (ZC X F' 7 dx) pl h2 ⟨.bl (!b),H,I,by show _=_;rw[<-h1];simp,po _ F H d .refl (.bl _)⟩
 |_=>exact po.elim
end
end L2.D2
namespace L2.D2
open PySem PySem.Spec PyProof.Rows
def PoT(C:Ct)(own:List Nat)(σ:St)(F H:Hp)(r:Out (Bool×Sl))(Q:Bool->Hp->Prop):Prop:=match r with
 |.ok (b,ρ')=>∀F' H',Rep C.K own F' H' σ ρ'->Chg (OA own σ) F H F' H'->Q b H'
 |.exc c ρ'=>∀F' H',Same F' H'->qbW C.K C.ox F' H' σ ρ'->Chg (OA own σ) F H F' H'->C.E (C.cv c) iQ H'
 |.bad=>False
abbrev uA:=Sl->Out (Bool×Sl)
def tT(C:Ct)(own:List Nat)(f:uA):TT:=λσ H Q=>∃F ρ,Rep C.K own F H σ ρ/\PoT C own σ F H (f ρ) Q
variable{C:Ct}{own:List Nat}{σ:St}{F H F1 H1:Hp}{Q:Bool->Hp->Prop}
theorem PoT.shift{r:Out (Bool×Sl)}(h:PoT C own σ F H r Q)(c:Chg (OA own σ) F H F1 H1):PoT C own σ F1 H1 r Q:=by
 cases r with
 |ok p=>exact λF' H' a T=>h F' H' a (c.trans' T)
 |exc x=>exact λF' H' s io T=>h F' H' s io (c.trans' T)
 |bad=>exact h.elim
theorem PoT.bindV{ma:Mo}{o:KB}{k:D×Sl->Out (Bool×Sl)}{R:VK}(hp:PoT C own σ F H (o.bind k) Q)(h:∀v F1 H1 d ρ1,Rep C.K own F1 H1 σ ρ1->Chg (OA own σ) F H F1 H1->MoIs C.K ma H F1 H1 v d->PoT C own σ F1 H1 (k (d,ρ1)) Q->R v H1):Po C own ma σ F H o R:=by
 cases o with
 |ok p=>obtain⟨d,ρ1⟩:=p;exact λv F1 H1 a c m=>h v F1 H1 d ρ1 a c m (PoT.shift (show PoT C own σ F H (k (d,ρ1)) Q from hp) c)
 |exc x=>exact hp
 |bad=>exact hp.elim
variable{o:Out (Bool×Sl)}
theorem PoT.bindT{k:Bool×Sl->Out (Bool×Sl)}{R:Bool->Hp->Prop}(hp:PoT C own σ F H (o.bind k) Q)(h:∀F1 H1 b ρ1,Rep C.K own F1 H1 σ ρ1->Chg (OA own σ) F H F1 H1->PoT C own σ F1 H1 (k (b,ρ1)) Q->R b H1):PoT C own σ F H o R:=by
 cases o with
 |ok p=>obtain⟨d,ρ1⟩:=p;exact λF1 H1 a c=>h F1 H1 d ρ1 a c (PoT.shift (show PoT C own σ F H (k (d,ρ1)) Q from hp) c)
 |exc x=>exact hp
 |bad=>exact hp.elim
variable{m:Mo}
theorem Po.bindT{k:Bool×Sl->KB}{Q:VK}{R:Bool->Hp->Prop}(hp:Po C own m σ F H (o.bind k) Q)(h:∀F1 H1 b ρ1,Rep C.K own F1 H1 σ ρ1->Chg (OA own σ) F H F1 H1->Po C own m σ F1 H1 (k (b,ρ1)) Q->R b H1):PoT C own σ F H o R:=by
 cases o with
 |ok p=>obtain⟨d,ρ1⟩:=p;exact λF1 H1 a c=>h F1 H1 d ρ1 a c (Po.shift (show Po C own m σ F H (k (d,ρ1)) Q from hp) c)
 |exc x=>exact hp
 |bad=>exact hp.elim
noncomputable def ZD:D->Out Bool
 |.non=>.ok iS
 |.bl b=>.ok b
 |.int i=>.ok (i != 0)
 |.str x=>.ok ((x.length:Int) != 0)
 |.tup xs=>.ok (!xs.isEmpty)
 |.lst xs=>.ok (!xs.isEmpty)
 |.dct xs=>.ok (!xs.isEmpty)
 |.raw _=>.bad
 |.xcp _=>.bad
 |.ins _ _=>.bad
 |.at_ _ _=>.bad
def vU(f:qU):uA:=λρ=>(f ρ).bind λp=>(ZD p.1).bind λb=>.ok (b,p.2)
variable{K:Y8}{vs:List V}{ds:List D}
theorem IsL.isEmpty(h:IsL K F vs ds):vs.isEmpty=ds.isEmpty:=by cases h <;> rfl
theorem IsK.isEmpty{vs:List (Key×V)}{ds:List (Key×D)}(h:IsK K F vs ds):vs.isEmpty=ds.isEmpty:=by cases h <;> rfl
variable{v:V}{d:D}
theorem qe9{b:Bool}(s:Same F H)(h:TopIs K F H v d)(e:ZD d=.ok b):qj6 K v H b:=by
 cases d with
 |non=>obtain rfl:=h.non;cases e;rfl
 |bl x=>obtain rfl:=h.bl;cases e;rfl
 |int x=>obtain rfl:=h.int;cases e;rfl
 |str x=>obtain⟨rfl,q⟩:=h.str;cases e;exact⟨q,rfl⟩
 |tup x=>obtain⟨a,xs,rfl,p,t⟩:=h.tup s;cases e;exact .inr (.inl ⟨xs,p,by rw[t.isEmpty]⟩)
 |lst x=>obtain⟨a,xs,rfl,p,t⟩:=h.lst s;cases e;exact .inl ⟨xs,p,by rw[t.isEmpty]⟩
 |dct x=>obtain⟨a,xs,rfl,p,t⟩:=h.dct s;cases e;exact .inr (.inr ⟨xs,p,by rw[t.isEmpty]⟩)
 |raw x=>cases e
 |xcp x=>cases e
 |ins x y=>cases e
 |at_ x y=>cases e
def qy(f:qU):uA:=λρ=>(f ρ).bind λp=>match p.1 with
 |.bl b=>.ok (b,p.2)
 |_=>.bad
variable{X:Cx}{c e t:Z4}{ma mb:Mo}{pos:Pos}{op op':CmpOp}{g g':D->D->Out D}{ρ:Sl}
section
variable{a b:Z4}{f fa fb fc:qU}{ft fu:uA}{mc:Mo}{rest:List Z4}
theorem qfa(n:C.K=X.K)(h:PE X e (tE C own m f))(i:∀whole,isTrue e X.env whole=(do let v <-whole;standAt e.pos;holding [v] (truthy v))):PT X e (tT C own (vU f)):=by
 refine qcl (qb9 h i) λσ H Q ⟨F,ρ,r,h⟩=>⟨F,ρ,r,PoT.bindV h λv F1 H1 d ρ1 a g c h1=>?_⟩
 cases q:ZD d with
 |ok k=>have h1:PoT C own σ F1 H1 ((ZD d).bind λb=>.ok (b,ρ1)) Q:=h1;rw[q]at h1;exact⟨k,by rw[<-n];exact qe9 a.sub c.top q,h1 F1 H1 a .refl⟩
 |exc x=>have h1:PoT C own σ F1 H1 ((ZD d).bind λb=>.ok (b,ρ1)) Q:=h1;cases d <;> cases q
 |bad=>have h1:PoT C own σ F1 H1 ((ZD d).bind λb=>.ok (b,ρ1)) Q:=h1;rw[q]at h1;exact h1.elim
theorem Gj(h:tT C own (qy f) σ H Q):tE C own .sh f σ H λx H'=>∃k,x=.bl k/\Q k H':=by
 obtain⟨F,ρ,r,h⟩:=h;refine⟨F,ρ,r,PoT.bindV h λv F1 H1 d ρ1 a b c h1=>?_⟩;cases d with
 |bl k=>have c:Is C.K F1 v (.bl k):=c;cases c;exact⟨k,rfl,h1 F1 H1 a .refl⟩
 |_=>exact h1.elim
theorem qA(l:OpD X C .sh (i6 op) g)(c:PE X a (tE C own ma fa))(d:PE X b (tE C own mb fb))(f:ma≠.any:=by decide)(k:lS op b=false:=by first|exact qdG _|with_unfolding_all rfl):PT X (.Compare a [op] [b] pos) (tT C own (qy (d2 g fa fb))):=by
 refine qcl (qeO l c d k) λσ H Q h=>?_;exact KC f (Gj h)
def xu(ft:uA):uA:=λρ=>(ft ρ).bind λp=>.ok (!p.1,p.2)
theorem jz(h:PT X a (tT C own ft)):PT X (.UnaryOp .Not a pos) (tT C own (xu ft)):=by refine qcl (qg0 h) λσ H Q ⟨F,ρ,p,h⟩=>⟨F,ρ,p,PoT.bindT h λF1 H1 b ρ1 r k h1=>h1 F1 H1 r .refl⟩
theorem qhx{e:Z4}{t t':TT}(h:PW X e t)(i:∀σ H Q,t' σ H Q->t σ H Q):PW X e t':=⟨λw Z9 s σ H Q I a=>h w Z9 s σ H Q I (i σ H Q a)⟩
def Kh(ft fu:uA):uA:=λρ=>(ft ρ).bind λp=>if p.1=iT then fu p.2 else .ok (iS,p.2)
def dOr(ft fu:uA):uA:=λρ=>(ft ρ).bind λp=>if p.1=iT then .ok (iT,p.2)else fu p.2
theorem jE{op}(h:PT X a (tT C own ft)):PW X (.BoolOp op [a] pos) (tT C own ft):=by
 cases op;·exact qeG h
 .exact qgY h
theorem wC(g:PT X a (tT C own ft))(d:PW X (.BoolOp .And (b::rest) pos) (tT C own fu)):PW X (.BoolOp .And (a::b::rest) pos) (tT C own (Kh ft fu)):=by
 refine qhx (qgZ g d) λσ H Q ⟨F,ρ,p,h⟩=>⟨F,ρ,p,PoT.bindT h λF1 H1 k ρ1 r c h1=>?_⟩
 cases k with
 |true=>exact⟨F1,ρ1,r,h1⟩
 |false=>exact h1 F1 H1 r .refl
theorem uI(g:PT X a (tT C own ft))(d:PW X (.BoolOp .Or (b::rest) pos) (tT C own fu)):PW X (.BoolOp .Or (a::b::rest) pos) (tT C own (dOr ft fu)):=by
 refine qhx (qjR g d) λσ H Q ⟨F,ρ,p,h⟩=>⟨F,ρ,p,PoT.bindT h λF1 H1 k ρ1 r c h1=>?_⟩
 cases k with
 |true=>exact h1 F1 H1 r .refl
 |false=>exact⟨F1,ρ1,r,h1⟩
def WN(fa fb:qU):qU:=λρ=>(fa ρ).bind λp=>match p.1 with
 |.bl iT=>fb p.2
 |.bl iS=>.ok (.bl iS,p.2)
 |_=>.bad
def qk8(fa fb:qU):qU:=λρ=>(fa ρ).bind λp=>match p.1 with
 |.bl iT=>.ok (.bl iT,p.2)
 |.bl iS=>fb p.2
 |_=>.bad
theorem Gk{op}(h:PE X a (tE C own m f)):PE X (.BoolOp op [a] pos) (tE C own m f):=qg1 h
theorem UQ(g:PE X a (tE C own .sh fa))(e:PE X (.BoolOp .And (b::rest) pos) (tE C own .sh fb)):PE X (.BoolOp .And (a::b::rest) pos) (tE C own .sh (WN fa fb)):=by
 refine jy (qg2 g e) λσ H Q ⟨F,ρ,p,h⟩=>⟨F,ρ,p,Po.bind h λv F1 H1 d ρ1 r f c h1=>?_⟩
 cases d with
 |bl k=>
  have c:Is C.K F1 v (.bl k):=c;cases c;refine⟨k,rfl,?_⟩;cases k with
  |true=>exact⟨F1,ρ1,r,h1⟩
  |false=>exact h1 _ F1 H1 r .refl (.bl _)
 |_=>exact h1.elim
def dIf(ft:uA)(fa fb:qU):qU:=λρ=>(ft ρ).bind λp=>if p.1=iT then fa p.2 else fb p.2
theorem qcs(ht:PT X t (tT C own ft))(g:PE X a (tE C own ma fa))(d:PE X b (tE C own mb fb))(h1:ma≠.any:=by decide)(h2:mb≠.any:=by decide):PE X (.IfExp t a b pos) (tE C own .sh (dIf ft fa fb)):=by
 refine jy (qb2 ht (uW g h1) (uW d h2)) λσ H Q ⟨F,ρ,p,h⟩=>⟨F,ρ,p,Po.bindT h λF1 H1 k ρ1 r c h1=>?_⟩
 cases k with
 |true=>exact⟨F1,ρ1,r,h1⟩
 |false=>exact⟨F1,ρ1,r,h1⟩
def ym(g g':D->D->Out D)(fa fb fc:qU):qU:=λρ=>(fa ρ).bind λp=>(fb p.2).bind λq=>(g p.1 q.1).plain.bind λz=>match z with
 |.bl iT=>(fc q.2).bind λr=>(g' q.1 r.1).plain.bind λd=>.ok (d,r.2)
 |.bl iS=>.ok (.bl iS,q.2)
 |_=>.bad
theorem PoV.bind{o:Out D}{k:D->KB}{Q R:VK}(a:Rep C.K own F H σ ρ)(h:Po C own m σ F H (o.plain.bind k) Q)(e:∀v F1 H1 d,Rep C.K own F1 H1 σ ρ->Chg No F H F1 H1->MoIs C.K ma H F1 H1 v d->Po C own m σ F1 H1 (k d) Q->R v H1):PoV C ma F H o R:=by
 cases o with
 |ok d=>exact λv F1 H1 s c b=>e v F1 H1 d (a.grow c s) c b (Po.shift (show Po C own m σ F H (k d) Q from h) c.ofNo)
 |exc c=>exact h.elim
 |bad=>exact h.elim
theorem UR{Q:VK}(s:ma≠.any)(l:mb≠.any)(h:tE C own .sh (ym g g' fa fb fc) σ H Q):ZP (λx y H Q=>∃F dx n,Same F H/\TopIs C.K F H x dx/\TopIs C.K F H y n/\PoV C .sh F H (g dx n) Q) (λx y H Q=>∃F dx n,Same F H/\TopIs C.K F H x dx/\TopIs C.K F H y n/\PoV C .sh F H (g' dx n) Q)
   (tE C own ma fa) (tE C own mb fb) (tE C own mc fc) σ H Q:=by
 obtain⟨F,ρ,A,h⟩:=h;refine⟨F,ρ,A,Po.bind h λv F1 H1 d ρ1 i N q h1=>⟨F1,ρ1,i,Po.bind h1 λw M H2 e ρ2 f c2 j h2=>?_⟩⟩;have oa:∀x,OA own σ x->H x≠none:=λx z=>(A.OA_there z).1;have o:∀x,OA own σ x->H1 x≠none:=λx z=>(i.OA_there z).1;refine⟨M,d,e,f.sub,(q.grow s c2 oa).top,j.top,PoV.bind (m:=.sh) f h2 λz u J E c I a t=>?_⟩;cases E with
 |bl k=>
  have a:Is C.K u z (.bl k):=a;cases a;refine⟨k,rfl,?_⟩;cases k with
  |true=>refine⟨u,ρ2,c,Po.bind t λS L O r B b G p D=>?_⟩;exact⟨L,e,r,b.sub,((j.grow l (I.ofNo) o).grow l G o).top,p.top,PoV.of b D⟩
  |false=>exact t _ u J c .refl (.bl _)
 |_=>exact t.elim
theorem US(o:OpD X C .sh (i6 op) g)(d:OpD X C .sh (i6 op') g')(j:PE X a (tE C own ma fa))(i:PE X b (tE C own mb fb))(e:PE X c (tE C own mc fc))(f:ma≠.any:=by decide)(l:mb≠.any:=by decide)(m:lastMarks [op,op'] [b,c]=false:=by with_unfolding_all rfl):PE X (.Compare a [op,op'] [b,c] pos) (tE C own .sh (ym g g' fa fb fc)):=jy (qb7 o d j i e m) λ_ _ _ h=>UR f l h
theorem KI(o:OpD X C .sh (i6 op) g)(d:OpD X C .sh (i6 op') g')(j:PE X a (tE C own ma fa))(i:PE X b (tE C own mb fb))(e:PE X c (tE C own mc fc))(f:ma≠.any:=by decide)(l:mb≠.any:=by decide)(m:lastMarks [op,op'] [b,c]=false:=by with_unfolding_all rfl):PT X (.Compare a [op,op'] [b,c] pos) (tT C own (qy (ym g g' fa fb fc))):=qcl (qb8 o d j i e m) λ_ _ _ h=>UR f l (Gj h)
theorem Gm:OpR X (i6 .LtE) (λx y H Q=>∃i j,x=.str i/\y=.str j/\Q (.bl (!wz j i)) H):=by intro Z9 s σ H x y v u Q I d c h;obtain⟨i,j,rfl,rfl,q⟩:=h;obtain⟨t,rfl⟩:=d;obtain⟨t',rfl⟩:=c;exact PySem.P.le_str (UI I q (by simp[wz]))
def leD:D->D->Out D
 |.int i,.int j=>.ok (.bl (decide (i<=j)))
 |.str x,.str y=>.ok (.bl (!wz y x))
 |_,_=>.bad
theorem KJ:OpD X C .sh (i6 .LtE) leD:=by
 intro Z9 s σ H x y v u Q I d c h;obtain⟨F,dx,a,A,t,ty,po⟩:=h;cases dx <;> try exact po.elim
 .cases a <;> try exact po.elim
  obtain rfl:=t.int;obtain rfl:=ty.int;exact qj3 Z9 s σ H _ _ v u Q I d c ⟨_,_,rfl,rfl,po _ F H A .refl (.bl _)⟩
 .cases a <;> try exact po.elim
  obtain⟨rfl,_⟩:=t.str;obtain⟨rfl,_⟩:=ty.str;exact Gm Z9 s σ H _ _ v u Q I d c ⟨_,_,rfl,rfl,po _ F H A .refl (.bl _)⟩
def gtD:D->D->Out D:=zp λi j=>.ok (.bl (decide (j<i)))
theorem qkh:OpD X C .sh (i6 .Gt) gtD:=WL qj4 λ_ _ _=>.bl _
def geD:D->D->Out D:=zp λi j=>.ok (.bl (decide (j<=i)))
theorem qhy:OpD X C .sh (i6 .GtE) geD:=WL qj5 λ_ _ _=>.bl _
noncomputable def Gn:D->D->Out D
 |.non,.non=>.ok (.bl iT)
 |.raw _,.non=>.bad
 |_,.non=>.ok (.bl iS)
 |_,_=>.bad
noncomputable def wE:D->D->Out D
 |.non,.non=>.ok (.bl iS)
 |.raw _,.non=>.bad
 |_,.non=>.ok (.bl iT)
 |_,_=>.bad
theorem TopIs.notN(h:TopIs K F H v d)(h1:d≠.non)(h2:∀u,d≠.raw u):v≠.non:=by
 rintro rfl;rcases h with h|⟨a,e,_⟩
 .cases h;·exact h1 rfl
  .exact h2 _ rfl
 .cases e
theorem Go:OpD X C .sh (i6 .Is) Gn:=by
 intro Z9 s σ H x y v u Q I r c h;obtain⟨F,dx,d,A,t,ty,po⟩:=h;have D:d=.non:=by cases d <;> first|rfl|(cases dx <;> exact po.elim)
 subst D;obtain rfl:=ty.non;refine qhd Z9 s σ H x .non v u Q I r c ⟨rfl,?_⟩;cases dx with
 |non=>obtain rfl:=t.non;exact po _ F H A .refl (.bl _)
 |raw _=>exact po.elim
 |_=>rw[Ac (t.notN (by intro z;cases z) (by intro _ z;cases z))];exact po _ F H A .refl (.bl _)
theorem WO:OpD X C .sh (i6 .IsNot) wE:=by
 intro Z9 s σ H x y v u Q I r c h;obtain⟨F,dx,d,A,t,ty,po⟩:=h;have D:d=.non:=by cases d <;> first|rfl|(cases dx <;> exact po.elim)
 subst D;obtain rfl:=ty.non;refine qeM Z9 s σ H x .non v u Q I r c ⟨rfl,?_⟩;cases dx with
 |non=>obtain rfl:=t.non;exact po _ F H A .refl (.bl _)
 |raw _=>exact po.elim
 |_=>rw[Ac (t.notN (by intro z;cases z) (by intro _ z;cases z))];exact po _ F H A .refl (.bl _)
end
inductive Fl where
 |nx|rt (d:D)|bk|ct
structure Nx(C:Ct)(own own':List Nat)(σ:St)(F H:Hp)(ρ':Sl)(σ':St)(F' H':Hp):Prop where
 rep:Rep C.K own' F' H' σ' ρ'
 chg:Chg (OA own σ) F H F' H'
 oa:∀b,OA own' σ' b->OA own σ b\/H b=iQ
 io:∀i∈C.io,σ'[i]?=σ[i]?
def PoS(C:Ct)(own own':List Nat)(σ:St)(F H:Hp)(r:Out (Fl×Sl))(D:Ends):Prop:=match r with
 |.ok (.nx,ρ')=>∀σ' F' H',Nx C own own' σ F H ρ' σ' F' H'->D.nx σ' H'
 |.ok (.rt d,ρ')=>∀v σ' F' H',Same F' H'->qbW C.K C.io F' H' σ' ρ'->Chg (OA own σ) F H F' H'->(∀i∈C.io,σ'[i]?=σ[i]?)->MoIs C.K C.mr H F' H' v d->D.rt v H'
 |.ok (.bk,ρ')=>∀σ' F' H',Nx C own C.ol σ F H ρ' σ' F' H'->D.bk σ' H'
 |.ok (.ct,ρ')=>∀σ' F' H',Nx C own C.ol σ F H ρ' σ' F' H'->D.ct σ' H'
 |.exc c ρ'=>∀F' H',Same F' H'->qbW C.K C.ox F' H' σ ρ'->Chg (OA own σ) F H F' H'->C.E (C.cv c) iQ H'
 |.bad=>False
abbrev qK:=Sl->Out (Fl×Sl)
def tSt(C:Ct)(own own':List Nat)(f:qK):TS:=λD σ H=>∃F ρ,Rep C.K own F H σ ρ/\PoS C own own' σ F H (f ρ) D
variable{o1 o2 o3:List Nat}{σ1:St}{ρ1:Sl}
theorem Nx.then{c:St}{d H2:Hp}{ρ2:Sl}(a:Nx C o1 o2 σ F H ρ1 σ1 F1 H1)(b:Nx C o2 o3 σ1 F1 H1 ρ2 c d H2):Nx C o1 o3 σ F H ρ2 c d H2 where
 rep:=b.rep
 chg:=a.chg.trans b.chg a.oa
 oa:=λx h=>by
  rcases b.oa x h with z|z;·exact a.oa x z
  .refine .inr ?_;cases q:H x with
   |none=>rfl
   |some o=>exact absurd z (a.chg.stay x (by rw[q];simp))
 io:=λi hi=>(b.io i hi).trans (a.io i hi)
theorem PoS.shift{r:Out (Fl×Sl)}{D:Ends}(h:PoS C o1 o3 σ F H r D)(a:Nx C o1 o2 σ F H ρ1 σ1 F1 H1):PoS C o2 o3 σ1 F1 H1 r D:=by
 cases r with
 |ok p=>
  obtain⟨l,ρ'⟩:=p;cases l with
  |nx=>exact λσ' F' H' n=>h σ' F' H' (a.then n)
  |rt d=>exact λv σ' F' H' s io c e o=>h v σ' F' H' s io (a.chg.trans c a.oa) (λi hi=>(e i hi).trans (a.io i hi)) (MoIs.back (Ha:=H1) a.chg o)
  |bk=>exact λσ' F' H' n=>h σ' F' H' (a.then n)
  |ct=>exact λσ' F' H' n=>h σ' F' H' (a.then n)
 |exc c=>exact λF' H' s io T=>h F' H' s (λi hi=>by obtain⟨d,b,e1,g,f⟩:=io i hi;exact⟨d,b,e1,by rw[<-a.io i (C.oxs i hi)];exact g,f⟩) (a.chg.trans T a.oa)
 |bad=>exact h.elim
theorem Nx.ofE(r:Rep C.K own F1 H1 σ ρ1)(c:Chg (OA own σ) F H F1 H1):Nx C own own σ F H ρ1 σ F1 H1:=⟨r,c,λ_ h=>.inl h,λ_ _=>rfl⟩
variable{own':List Nat}
theorem PoS.bindE{m:Mo}{o:KB}{k:D×Sl->Out (Fl×Sl)}{D:Ends}{R:VK}(hp:PoS C own own' σ F H (o.bind k) D)(h:∀v F1 H1 d ρ1,Rep C.K own F1 H1 σ ρ1->Chg (OA own σ) F H F1 H1->MoIs C.K m H F1 H1 v d->PoS C own own' σ F1 H1 (k (d,ρ1)) D->R v H1):Po C own m σ F H o R:=by
 cases o with
 |ok p=>obtain⟨d,ρ1⟩:=p;exact λv F1 H1 a c b=>h v F1 H1 d ρ1 a c b (PoS.shift (show PoS C own own' σ F H (k (d,ρ1)) D from hp) (.ofE a c))
 |exc x=>exact hp
 |bad=>exact hp.elim
theorem PoS.bindT{k:Bool×Sl->Out (Fl×Sl)}{D:Ends}{R:Bool->Hp->Prop}(hp:PoS C own own' σ F H (o.bind k) D)(h:∀F1 H1 b ρ1,Rep C.K own F1 H1 σ ρ1->Chg (OA own σ) F H F1 H1->PoS C own own' σ F1 H1 (k (b,ρ1)) D->R b H1):PoT C own σ F H o R:=by
 cases o with
 |ok p=>obtain⟨d,ρ1⟩:=p;exact λF1 H1 a c=>h F1 H1 d ρ1 a c (PoS.shift (show PoS C own own' σ F H (k (d,ρ1)) D from hp) (.ofE a c))
 |exc x=>exact hp
 |bad=>exact hp.elim
variable{b a:Z7}{t':TS}{st:Z3}{i:Nat}{x:Str}{pos':Pos}
section
variable{sts rest:List Z3}{f g:qK}{fe:qU}{ft:uA}
theorem KK{t:TS}(h:PS X st t)(i:∀D σ H,t' D σ H->t D σ H):PS X st t':=⟨λZ9 s σ H D I w=>h Z9 s σ H D I (i D σ H w)⟩
theorem Gp{t:TS}(h:PSs X sts t)(i:∀D σ H,t' D σ H->t D σ H):PSs X sts t':=⟨λZ9 s σ H D I w=>h Z9 s σ H D I (i D σ H w)⟩
noncomputable def qM:qK:=λρ=>.ok (.nx,ρ)
def qH(f g:qK):qK:=λρ=>(f ρ).bind λp=>match p.1 with
 |.nx=>g p.2
 |fl=>.ok (fl,p.2)
theorem Nx.refl(r:Rep C.K own F H σ ρ):Nx C own own σ F H ρ σ F H:=.ofE r .refl
theorem qF:PSs X [] (tSt C own own qM):=Gp qeH λD σ H ⟨F,ρ,a,h⟩=>h σ F H (.refl a)
theorem qhz{D:Ends}(h:tSt C o1 o3 (qH f g) D σ H):tSt C o1 o2 f { D with nx:=tSt C o2 o3 g D } σ H:=by
 obtain⟨F,ρ,a,h⟩:=h;refine⟨F,ρ,a,?_⟩;unfold qH at h;cases q:f ρ with
 |ok p=>
  rw[q]at h;obtain⟨l,ρ1⟩:=p;cases l with
  |nx=>exact λσ' F' H' n=>⟨F',ρ1,n.rep,PoS.shift (show PoS C o1 o3 σ F H (g ρ1) D from h) n⟩
  |rt d=>exact h
  |bk=>exact h
  |ct=>exact h
 |exc c=>rw[q]at h;exact h
 |bad=>rw[q]at h;exact h.elim
theorem qd(h1:PS X st (tSt C o1 o2 f))(h2:PSs X rest (tSt C o2 o3 g)):PSs X (st::rest) (tSt C o1 o3 (qH f g)):=Gp (qb3 h1 h2) λD σ H h=>qhz h
theorem qf(h1:PS X st (tSt C o1 o2 f)):PSs X [st] (tSt C o1 o2 f):=qeI h1
theorem Rep.weak{K:Y8}{F H:Hp}{σ:St}{ρ:Sl}:∀(drop:List Nat){own own':List Nat},(∀i,i∈own'↔i∈own/\i∉drop)->Rep K own F H σ ρ->∃F',Rep K own' F' H σ ρ/\Chg (OA own σ) F H F' H
 |[],own,own',hs,rp=>⟨F,⟨rp.sub,rp.len,λi d hi=>rp.val i d λz=>hi ((hs i).mpr ⟨z,by simp⟩),λi d hi=>rp.ow i d ((hs i).mp hi).1,λi hi=>rp.opn i ((hs i).mp hi).1,λi j a hi D=>rp.dis i j a ((hs i).mp hi).1 ((hs j).mp D).1⟩,.refl⟩
 | k::r,own,own',hs,rp=>by
  obtain⟨F1,c,n⟩:=Rep.weak r (own:=own) (own':=own.filter λi=>decide (i∉r)) (λi=>by simp) rp;by_cases f:k∈own/\k∉r
  .obtain⟨d,hd⟩:=c.opn k (by simp[f.1,f.2]);obtain⟨a,h1,h2,g⟩:=c.ow k d (by simp[f.1,f.2]) hd;obtain⟨u,hu⟩:∃u,H a=iO u:=by
    cases q:H a with
    |none=>exact absurd q g.there
    |some u=>exact⟨u,rfl⟩
   have gr:Same F1 (upd F1 a u):=λb w e=>by rw[qB (qJ e h2)];exact e
   refine⟨upd F1 a u,⟨λb w e=>?_,c.len,λi d' hi e=>?_,λi d' hi e=>?_,λi hi=>?_,λi j b hi D=>?_⟩,?_⟩
   .by_cases q:b=a;·subst q;rw[qh]at e;cases e;exact hu
    .rw[qB q]at e;exact c.sub b w e
   .by_cases q:i=k
    .subst q;rw[hd]at e;cases e;refine⟨_,h1,?_⟩;cases d with
     |lst ds=>obtain⟨xs,e,t⟩:=g;rw[hu]at e;cases e;exact .lst (.inl (.inl qh)) (t.mono gr)
     |dct ds=>obtain⟨xs,e,t⟩:=g;rw[hu]at e;cases e;exact .dct qh (t.mono gr)
     |ins C fs=>obtain⟨dx,xs,e,t⟩:=g;rw[hu]at e;cases e;exact .ins qh (t.mono gr)
     |at_ b ds=>obtain⟨J,xs,e,t⟩:=g;rw[hu]at e;cases e;subst J;exact .at_ (.inl (.inl qh)) (t.mono gr)
     |_=>exact g.elim
    .obtain⟨v,o,p⟩:=c.val i d' (λz=>by simp at z;exact hi ((hs i).mpr ⟨z.1,by simp[q,z.2]⟩)) e;exact⟨v,o,p.mono gr⟩
   .have h:=(hs i).mp hi;have s:i≠k:=λz=>h.2 (by simp[z]);have m:i∉r:=λz=>h.2 (by simp[z]);obtain⟨b,o,p,y⟩:=c.ow i d' (by simp[h.1,m]) e;refine⟨b,o,?_,y.grow gr λ_ z=>z⟩;have A:b≠a:=λz=>by subst z;exact s (c.dis i k b (by simp[h.1,m]) (by simp[f.1,f.2]) o h1)
    rw[qB A];exact p
   .have h:=(hs i).mp hi;exact c.opn i (by simp[h.1];exact λz=>h.2 (by simp[z]))
   .have h:=(hs i).mp hi;have l:=(hs j).mp D;exact c.dis i j b (by simp[h.1];exact λz=>h.2 (by simp[z])) (by simp[l.1];exact λz=>l.2 (by simp[z]))
   .refine⟨n.keep,n.stay,n.grow.trans gr,λb x=>?_⟩;by_cases q:b=a;·exact .inr (.inr ⟨k,f.1,by rw[q];exact h1⟩)
    .rw[qB q]at x;exact n.new b x
  .refine⟨F1,⟨c.sub,c.len,λi d hi=>c.val i d λz=>?_,λi d hi=>c.ow i d ?_,λi hi=>c.opn i ?_,λi j a hi D=>c.dis i j a ?_ ?_⟩,n⟩;·simp at z;refine hi ((hs i).mpr ⟨z.1,?_⟩);simp only[ae,not_or];exact⟨λq=>f (by subst q;exact z),z.2⟩
   all_goals
    first
     |(have q:=(hs _).mp hi;simp only[bv,decide_eq_true_eq];exact⟨q.1,λz=>q.2 (by simp[z])⟩)
     |(have q:=(hs _).mp D;simp only[bv,decide_eq_true_eq];exact⟨q.1,λz=>q.2 (by simp[z])⟩)
theorem OA.sub(h:∀i∈own',i∈own)(q:OA own' σ b):OA own σ b:=let ⟨i,hi,e⟩:=q; ⟨i,h i hi,e⟩
theorem Nx.drop(drop:List Nat)(hs:∀i,i∈own'↔i∈own/\i∉drop)(r:Rep C.K own F H σ ρ):∃F',Nx C own own' σ F H ρ σ F' H:=by obtain⟨F',a,c⟩:=Rep.weak drop hs r;exact⟨F',a,c,λb q=>.inl (OA.sub (λi hi=>((hs i).mp hi).1) q),λ_ _=>rfl⟩
noncomputable def vw(own drop:List Nat):List Nat:=own.filter λi=>decide (i∉drop)
theorem qZ{own drop:List Nat}(i:Nat):i∈vw own drop↔i∈own/\i∉drop:=by simp[vw]
theorem jA(drop:List Nat)(h:PSs X sts (tSt C (vw own drop) o2 f)):PSs X sts (tSt C own o2 f):=Gp h λD σ H ⟨F,ρ,a,h⟩=>by obtain⟨F',n⟩:=Nx.drop (C:=C) drop (λi=>qZ (own:=own) i) a;exact⟨F',ρ,n.rep,h.shift n⟩
def sIf(ft:uA)(f g:qK):qK:=λρ=>(ft ρ).bind λp=>if p.1=iT then f p.2 else g p.2
theorem qO{a b:List Z3}(d:PT X c (tT C own ft))(i:PSs X a (tSt C own own' f))(e:PSs X b (tSt C own own' g)):PS X (.If c a b pos) (tSt C own own' (sIf ft f g)):=by
 refine KK (qjV d i e) λD σ H ⟨F,ρ,p,h⟩=>⟨F,ρ,p,PoS.bindT h λF1 H1 k ρ1 r j h1=>?_⟩
 cases k with
 |true=>exact⟨F1,ρ1,r,h1⟩
 |false=>exact⟨F1,ρ1,r,h1⟩
def kn(fe:qU):qK:=λρ=>(fe ρ).bind λp=>.ok (.nx,p.2)
theorem je(i:PE X e (tE C own m fe))(hs:lK e iQ pos.line X.env=pure false:=by rfl):PS X (.Expr e pos) (tSt C own own (kn fe)):=by refine KK (qeJ i hs) λD σ H ⟨F,ρ,r,h⟩=>⟨F,ρ,r,PoS.bindE h λv F1 H1 d ρ1 a k c h1=>h1 σ F1 H1 (.refl a)⟩
def jm(fe:qU):qK:=λρ=>(fe ρ).bind λp=>.ok (.rt p.1,p.2)
theorem qfb(b:PE X e (tE C own C.mr fe))(o:∀i∈C.io,i∈own:=by exact wy rfl):PS X (.Return (iO e) pos) (tSt C own own' (jm fe)):=by
 refine KK (qg3 b) λD σ H ⟨F,ρ,r,h⟩=>⟨F,ρ,r,?_⟩
 unfold jm at h;cases q:fe ρ with
 |ok p=>rw[q]at h;obtain⟨d,ρ1⟩:=p;exact λv F1 H1 a k m=>h v σ F1 H1 a.sub (a.ioIs o) k (λ_ _=>rfl) m
 |exc c=>rw[q]at h;exact h
 |bad=>rw[q]at h;exact h.elim
theorem qg(h:PE X e (tE C own m fe))(c:m≠.any:=by decide)(hr:C.mr=.sh:=by rfl)(o:∀i∈C.io,i∈own:=by exact wy rfl):PS X (.Return (iO e) pos) (tSt C own own' (jm fe)):=qfb (by rw[hr];exact uW h c) o
theorem Rep.put(r:Rep K own F H σ ρ)(hi:i < ρ.length)(is:Is K F v d):Rep K (vw own [i]) F H (σ.set i (iO v)) (ρ.set i (iO d)) where
 sub:=r.sub
 len:=by simp[r.len]
 val:=λj d' D e=>by
  by_cases q:j=i;·subst q;rw[aS hi]at e;cases e;exact⟨v,aS (by rw[r.len];exact hi),is⟩
  .rw[aA (bJ q)]at e;obtain⟨w,h1,h2⟩:=r.val j d' (λz=>D ((qZ j).mpr ⟨z,by simp[q]⟩)) e;exact⟨w,by rw[aA (bJ q)];exact h1,h2⟩
 ow:=λj d' D e=>by have l:=(qZ j).mp D;have q:j≠i:=λz=>l.2 (by simp[z]);rw[aA (bJ q)]at e;obtain⟨a,h1,h2⟩:=r.ow j d' l.1 e;exact⟨a,by rw[aA (bJ q)];exact h1,h2⟩
 opn:=λj D=>by have l:=(qZ j).mp D;have q:j≠i:=λz=>l.2 (by simp[z]);obtain⟨d',e⟩:=r.opn j l.1;exact⟨d',by rw[aA (bJ q)];exact e⟩
 dis:=λj k a D c e1 b=>by have l:=(qZ j).mp D;have h:=(qZ k).mp c;rw[aA (λz=>l.2 (by simp[z]))]at e1;rw[aA (λz=>h.2 (by simp[z]))]at b;exact r.dis j k a l.1 h.1 e1 b
theorem OA.put(h:OA (vw own [i]) (σ.set i (iO v)) b):OA own σ b:=by obtain⟨j,D,e⟩:=h;have l:=(qZ j).mp D;rw[aA (λz=>l.2 (by simp[z]))]at e;exact⟨j,l.1,e⟩
def qX(i:Nat)(fe:qU):qK:=λρ=>(fe ρ).bind λp=>if i<p.2.length then .ok (.nx,p.2.set i (iO p.1))else .bad
theorem qfc(n:X.N.Nodup)(hi:X.N[i]?=iO x)(hx:Loc X.env.scope x)(l:PE X e (tE C own m fe))(f:m≠.any:=by decide)(o:i∉C.io:=by exact yk rfl)(hs:lK e (iO (.Name x pos')) pos.line X.env=pure false:=by rfl)(k:X.fn x=iT\/X.env.scope.names.lookup x=iO .local:=by first|exact .inl rfl|exact .inr rfl):PS X (.Assign [.Name x pos'] e pos) (tSt C own (vw own [i]) (qX i fe)):=by
 refine KK (qdF n hi hx (uW l f) hs k) λD σ H ⟨F,ρ,r,h⟩=>⟨F,ρ,r,PoS.bindE h λv F1 H1 d ρ1 a p c h1=>?_⟩
 by_cases q:i < ρ1.length;·have h1:PoS C own (vw own [i]) σ F1 H1 (if i < ρ1.length then .ok (.nx,ρ1.set i (iO d))else .bad) D:=h1;rw[Aa q]at h1;exact h1 _ F1 H1 ⟨a.put q c,.refl,λb z=>.inl (OA.put z),λj g=>aA λz=>o (by rw[z];exact g)⟩
 .have h1:PoS C own (vw own [i]) σ F1 H1 (if i < ρ1.length then .ok (.nx,ρ1.set i (iO d))else .bad) D:=h1;rw[Ab q]at h1;exact h1.elim
theorem Rep.putO(r:Rep K own F H σ ρ)(hi:i < ρ.length)(C:F a=iQ)(n:¬OA own σ a)(o:OwnIs K F H a d):Rep K (i::vw own [i]) F H (σ.set i (iO (.ref a))) (ρ.set i (iO d)) where
 sub:=r.sub
 len:=by simp[r.len]
 val:=λj d' D e=>by have q:j≠i:=λz=>D (by simp[z]);rw[aA (bJ q)]at e;obtain⟨w,h1,h2⟩:=r.val j d' (λz=>D (ac _ ((qZ j).mpr ⟨z,by simp[q]⟩))) e;exact⟨w,by rw[aA (bJ q)];exact h1,h2⟩
 ow:=λj d' D e=>by
  by_cases q:j=i;·subst q;rw[aS hi]at e;cases e;exact⟨a,aS (by rw[r.len];exact hi),C,o⟩
  .have l:=(qZ j).mp ((ae.mp D).resolve_left q);rw[aA (bJ q)]at e;obtain⟨b,h1,h2⟩:=r.ow j d' l.1 e;exact⟨b,by rw[aA (bJ q)];exact h1,h2⟩
 opn:=λj D=>by
  by_cases q:j=i;·subst q;exact⟨d,aS hi⟩
  .have l:=(qZ j).mp ((ae.mp D).resolve_left q);obtain⟨d',e⟩:=r.opn j l.1;exact⟨d',by rw[aA (bJ q)];exact e⟩
 dis:=λj k b D p e1 f=>by
  have m:i < σ.length:=by rw[r.len];exact hi
  by_cases g:j=i
  .by_cases c:k=i;·rw[g,c]
   .subst g;have h:=(qZ k).mp ((ae.mp p).resolve_left c);rw[aS m]at e1;cases e1;rw[aA (bJ c)]at f;exact absurd ⟨k,h.1,f⟩ n
  .have l:=(qZ j).mp ((ae.mp D).resolve_left g);by_cases c:k=i;·subst c;rw[aS m]at f;cases f;rw[aA (bJ g)]at e1;exact absurd ⟨j,l.1,e1⟩ n
   .have h:=(qZ k).mp ((ae.mp p).resolve_left c);rw[aA (bJ g)]at e1;rw[aA (bJ c)]at f;exact r.dis j k b l.1 h.1 e1 f
theorem qct(w:X.N.Nodup)(hi:X.N[i]?=iO x)(hx:Loc X.env.scope x)(u:PE X e (tE C own .fr fe))(k:i∉C.io:=by exact yk rfl)(hs:lK e (iO (.Name x pos')) pos.line X.env=pure false:=by rfl)(t:X.fn x=iT\/X.env.scope.names.lookup x=iO .local:=by first|exact .inl rfl|exact .inr rfl):PS X (.Assign [.Name x pos'] e pos) (tSt C own (i::vw own [i]) (qX i fe)):=by
 refine KK (qdF w hi hx u hs t) λD σ H ⟨F,ρ,n,h⟩=>⟨F,ρ,n,?_⟩
 unfold qX at h;cases q:fe ρ with
 | ok p=>
  rw[q]at h;obtain⟨d,ρ1⟩:=p;intro v F1 H1 r B m;obtain⟨a,rfl,s,A,o⟩:=m;by_cases z:i < ρ1.length
  .have h1:PoS C own (i::vw own [i]) σ F H (if i < ρ1.length then .ok (.nx,ρ1.set i (iO d))else .bad) D:=h;rw[Aa z]at h1;refine h1 _ F1 H1 ⟨r.putO z A (λy=>(n.OA_there y).1 s) o,B,λb y=>?_,λj f=>aA λy=>k (by rw[y];exact f)⟩;obtain⟨j,f,e⟩:=y;by_cases g:j=i;·subst g;rw[aS (by rw[r.len];exact z)]at e;cases e;exact .inr s
   .have l:=(qZ j).mp ((ae.mp f).resolve_left g);rw[aA (bJ g)]at e;exact .inl ⟨j,l.1,e⟩
  .have h1:PoS C own (i::vw own [i]) σ F H (if i < ρ1.length then .ok (.nx,ρ1.set i (iO d))else .bad) D:=h;rw[Ab z]at h1;exact h1.elim
 |exc c=>rw[q]at h;exact h
 |bad=>rw[q]at h;exact h.elim
end
inductive AK where
 |vl|sl (i:Nat)|fr
 deriving DecidableEq
def ArgV(K:Y8)(H0 F H:Hp)(σ:St):List AK->List V->List D->Prop
 |[],[],[]=>True
 |.vl::as,v::vs,d::ds=>Is K F v d/\ArgV K H0 F H σ as vs ds
 |.sl i::as,v::vs,d::ds=>σ[i]?=iO (iO v)/\d=.non/\ArgV K H0 F H σ as vs ds
 |.fr::as,v::vs,d::ds=>MoIs K .fr H0 F H v d/\ArgV K H0 F H σ as vs ds
 |_,_,_=>False
variable{H0 H':Hp}
theorem ArgV.grow{A:Z7->Prop}{F':Hp}(c:Chg A F H F' H')(hA:∀x,A x->H0 x≠iQ):∀{as:List AK}{vs:List V}{ds:List D},ArgV K H0 F H σ as vs ds->ArgV K H0 F' H' σ as vs ds
 |[],[],[],h=>trivial
 |.vl::as,v::vs,d::ds,h=>⟨h.1.mono c.grow,ArgV.grow c hA h.2⟩
 |.sl i::as,v::vs,d::ds,h=>⟨h.1,h.2.1,ArgV.grow c hA h.2.2⟩
 |.fr::as,v::vs,d::ds,h=>⟨h.1.grow (by decide) c hA,ArgV.grow c hA h.2⟩
 |[],_::_,_,h=>h.elim
 |[],[],_::_,h=>h.elim
 |.vl::_,[],_,h=>h.elim
 |.vl::_,_::_,[],h=>h.elim
 |.sl _::_,[],_,h=>h.elim
 |.sl _::_,_::_,[],h=>h.elim
 |.fr::_,[],_,h=>h.elim
 |.fr::_,_::_,[],h=>h.elim
theorem ArgV.back{A:Z7->Prop}{F0:Hp}(c:Chg A F0 H0 F1 H1):∀{as:List AK}{vs:List V}{ds:List D},ArgV K H1 F H σ as vs ds->ArgV K H0 F H σ as vs ds
 |[],[],[],h=>trivial
 |.vl::as,v::vs,d::ds,h=>⟨h.1,ArgV.back c h.2⟩
 |.sl i::as,v::vs,d::ds,h=>⟨h.1,h.2.1,ArgV.back c h.2.2⟩
 |.fr::as,v::vs,d::ds,h=>⟨MoIs.back (Ha:=H1) c h.1,ArgV.back c h.2⟩
 |[],_::_,_,h=>h.elim
 |[],[],_::_,h=>h.elim
 |.vl::_,[],_,h=>h.elim
 |.vl::_,_::_,[],h=>h.elim
 |.sl _::_,[],_,h=>h.elim
 |.sl _::_,_::_,[],h=>h.elim
 |.fr::_,[],_,h=>h.elim
 |.fr::_,_::_,[],h=>h.elim
def PoA(C:Ct)(own:List Nat)(as:List AK)(σ:St)(F H:Hp)(r:Out (List D×Sl))(Q:List V->Hp->Prop):Prop:=match r with
 |.ok (ds,ρ')=>∀vs F' H',Rep C.K own F' H' σ ρ'->Chg (OA own σ) F H F' H'->ArgV C.K H F' H' σ as vs ds->Q vs H'
 |.exc c ρ'=>∀F' H',Same F' H'->qbW C.K C.ox F' H' σ ρ'->Chg (OA own σ) F H F' H'->C.E (C.cv c) iQ H'
 |.bad=>False
abbrev vY:=Sl->Out (List D×Sl)
def tAr(C:Ct)(own:List Nat)(as:List AK)(f:vY):TA:=λσ H Q=>∃F ρ,Rep C.K own F H σ ρ/\PoA C own as σ F H (f ρ) Q
variable{as:List AK}
theorem PoA.bindV{ma:Mo}{o:KB}{k:D×Sl->Out (List D×Sl)}{Q:List V->Hp->Prop}{R:VK}(hp:PoA C own as σ F H (o.bind k) Q)(h:∀v F1 H1 d ρ1,Rep C.K own F1 H1 σ ρ1->Chg (OA own σ) F H F1 H1->MoIs C.K ma H F1 H1 v d->PoA C own as σ F H (k (d,ρ1)) Q->R v H1):Po C own ma σ F H o R:=by
 cases o with
 |ok p=>obtain⟨d,ρ1⟩:=p;exact λv F1 H1 a c m=>h v F1 H1 d ρ1 a c m hp
 |exc x=>exact hp
 |bad=>exact hp.elim
theorem Po.bindA{as:List AK}{o:Out (List D×Sl)}{k:List D×Sl->KB}{Q:VK}{R:List V->Hp->Prop}(hp:Po C own m σ F H (o.bind k) Q)(h:∀vs F1 H1 ds ρ1,Rep C.K own F1 H1 σ ρ1->Chg (OA own σ) F H F1 H1->ArgV C.K H F1 H1 σ as vs ds->Po C own m σ F1 H1 (k (ds,ρ1)) Q->R vs H1):PoA C own as σ F H o R:=by
 cases o with
 |ok p=>obtain⟨d,ρ1⟩:=p;exact λvs F1 H1 a c v=>h vs F1 H1 d ρ1 a c v (Po.shift (show Po C own m σ F H (k (d,ρ1)) Q from hp) c)
 |exc x=>exact hp
 |bad=>exact hp.elim
noncomputable def qu:vY:=λρ=>.ok ([],ρ)
def qb(fe:qU)(fr:vY):vY:=λρ=>(fe ρ).bind λp=>(fr p.2).bind λq=>.ok (p.1::q.1,q.2)
def kb(fr:vY):vY:=λρ=>(fr ρ).bind λq=>.ok (D.non::q.1,q.2)
variable{es:List Z4}{p:Z7}{u:HO}
section
variable{fe:qU}{fr:vY}
theorem qcu{t t':TA}(h:PA X es t)(i:∀σ H Q,t' σ H Q->t σ H Q):PA X es t':=⟨λpos Z9 s σ H Q I w=>h pos Z9 s σ H Q I (i σ H Q w)⟩
theorem qe:PA X [] (tAr C own [] qu):=qcu jq λσ H Q ⟨F,ρ,a,h⟩=>h [] F H a .refl trivial
theorem zH{a:AK}{Q:List V->Hp->Prop}{v:V}(h:∀x,OA own σ x->H x≠iQ)(e:Rep C.K own F1 H1 σ ρ1)(k:Chg (OA own σ) F H F1 H1)(hp:PoA C own (a::as) σ F H ((fr ρ1).bind λq=>.ok (d::q.1,q.2)) Q)(g:∀b H2 vs ds,Chg (OA own σ) F1 H1 b H2->ArgV C.K H b H2 σ as vs ds->ArgV C.K H b H2 σ (a::as) (v::vs) (d::ds)):tAr C own as fr σ H1 λxs H2=>Q (v::xs) H2:=by
 refine⟨F1,ρ1,e,?_⟩;cases q:fr ρ1 with
 |ok p=>rw[q]at hp;obtain⟨ds,ρ2⟩:=p;exact λvs b H2 r c2 f=>hp (v::vs) b H2 r (k.trans' c2) (g b H2 vs ds c2 (ArgV.back k f))
 |exc c=>rw[q]at hp;exact λF' H' s io T=>hp F' H' s io (k.trans' T)
 |bad=>rw[q]at hp;exact hp.elim
theorem qa(g:PE X e (tE C own m fe))(hr:PA X es (tAr C own as fr))(b:m≠.any:=by decide)(hs:iX (e::es) X.env=(iS,Y9 e X.env)::iX es X.env:=by exact jD rfl):PA X (e::es) (tAr C own (.vl::as) (qb fe fr)):=by
 refine qcu (qI (uW g b) hr hs) λσ H Q ⟨F,ρ,r,h⟩=>⟨F,ρ,r,PoA.bindV h λv F1 H1 d ρ1 a k c h1=>?_⟩
 exact zH (λx z=>(r.OA_there z).1) a k h1 λi H2 vs ds c2 f=>⟨Is.mono c2.grow c,f⟩
theorem Gq(g:PE X e (tE C own .fr fe))(hr:PA X es (tAr C own as fr))(hs:iX (e::es) X.env=(iS,Y9 e X.env)::iX es X.env:=by exact jD rfl):PA X (e::es) (tAr C own (.fr::as) (qb fe fr)):=by
 refine qcu (qI g hr hs) λσ H Q ⟨F,ρ,r,h⟩=>⟨F,ρ,r,PoA.bindV h λv F1 H1 d ρ1 a k c h1=>?_⟩
 have oa:∀x,OA own σ x->H x≠none:=λx z=>(r.OA_there z).1;exact zH oa a k h1 λf H2 vs ds c2 b=>⟨c.grow (by decide) c2 oa,b⟩
theorem yn{px:Pos}(e:X.N[i]?=iO x)(v:Vis X.env.scope x)(l:i∈own)(hr:PA X es (tAr C own as fr))(hs:iX (.Name x px::es) X.env=(iS,Y9 (.Name x px) X.env)::iX es X.env:=by rfl)(hd:Dbg x:=by decide)(b:Cdk x:=by decide):PA X (.Name x px::es) (tAr C own (.sl i::as) (kb fr)):=by
 refine qcu (qI (uF e v hd b) hr hs) λσ H Q c=>?_;obtain⟨F,ρ,r,h⟩:=c;obtain⟨d,hd⟩:=r.opn i l;obtain⟨a,h1,h2,g⟩:=r.ow i d l hd;exact⟨_,h1,zH (λx z=>(r.OA_there z).1) r .refl h λj H2 vs ds c2 f=>⟨h1,rfl,f⟩⟩
theorem ArgV.isL:∀{as:List AK}{vs:List V}{ds:List D},(as.all λa=>decide (a=.vl))=iT->ArgV K H0 F H σ as vs ds->IsL K F vs ds
 |[],[],[],_,_=>.nil
 |.vl::as,v::vs,d::ds,h,a=>.cons a.1 (ArgV.isL (by simpa using h) a.2)
 |.sl i::as,_,_,h,a=>by simp at h
 |.fr::as,_,_,h,a=>by simp at h
 |[],_::_,_,_,h=>h.elim
 |[],[],_::_,_,h=>h.elim
 |.vl::_,[],_,_,h=>h.elim
 |.vl::_,_::_,[],_,h=>h.elim
def yh(fr:vY):qU:=λρ=>(fr ρ).bind λp=>if p.1.length<=Z8 then .ok (.tup p.1,p.2)else .bad
def yo(fr:vY):qU:=λρ=>(fr ρ).bind λp=>if p.1.length<=Z8 then .ok (.lst p.1,p.2)else .bad
theorem qhA(a:Rep C.K own F H σ ρ)(hp:H p=iQ):Rep C.K own (upd F p u) (upd H p u) σ ρ/\Chg No F H (upd F p u) (upd H p u):=by
 have h:F p=none:=by
  cases q:F p with
  |none=>rfl
  |some o=>rw[a.sub p o q]at hp;cases hp
 have c:Chg No F H (upd F p u) (upd H p u):=⟨λb o e _=>by rw[qB (qJ e hp)];exact e,λb e=>by
  by_cases q:b=p;·rw[q,qh];simp
  .rw[qB q];exact e,λb o e=>by rw[qB (qJ e h)];exact e,λb e=>by
  by_cases q:b=p;·exact .inr (.inl (by rw[q];exact hp))
  .rw[qB q]at e;exact .inl e⟩
 refine⟨a.grow c λb o e=>?_,c⟩;by_cases q:b=p;·subst q;rw[qh]at e ⊢;exact e
 .rw[qB q]at e ⊢;exact a.sub b o e
theorem UT(a:Rep C.K own F H σ ρ)(hp:H p=iQ):Rep C.K own F (upd H p u) σ ρ/\Chg No F H F (upd H p u)/\F p=none:=by
 have h:F p=none:=by
  cases q:F p with
  |none=>rfl
  |some o=>rw[a.sub p o q]at hp;cases hp
 have c:Chg No F H F (upd H p u):=⟨λb o e _=>by rw[qB (qJ e hp)];exact e,λb e=>by
  by_cases q:b=p;·rw[q,qh];simp
  .rw[qB q];exact e,Same.refl _,λb e=>.inl e⟩
 exact⟨a.grow c λb o e=>by rw[qB (qJ e h)];exact a.sub b o e,c,h⟩
theorem kU{x1}(h:PA X es (tAr C own as fr))(g:(as.all λa=>decide (a=.vl))=true:=by decide):PE X (.Tuple es x1 pos) (tE C own .sh (yh fr)):=by
 refine jy (qhg h) λσ H Q ⟨F,ρ,c,h⟩=>⟨F,ρ,c,Po.bindA h λvs F1 H1 ds ρ1 b k v h1=>?_⟩
 have i:=v.isL g;have h1:Po C own .sh σ F1 H1 (if ds.length<=Z8 then .ok (.tup ds,ρ1)else .bad) Q:=h1;by_cases z:ds.length<=Z8;·rw[Aa z]at h1;refine⟨by rw[i.length];exact z,λp hp=>?_⟩;obtain⟨r,c2⟩:=qhA (u:=.tup vs) b hp;exact h1 _ _ _ r c2.ofNo (.tup (.inl (.inl qh)) (i.mono c2.grow))
 .rw[Ab z]at h1;exact h1.elim
theorem kc(h:PA X es (tAr C own as fr))(g:(as.all λa=>decide (a=.vl))=true:=by decide):PE X (.List es pos) (tE C own .fr (yo fr)):=by
 refine jy (qhh h) λσ H Q ⟨F,ρ,c,h⟩=>⟨F,ρ,c,Po.bindA h λvs F1 H1 ds ρ1 b k v h1=>?_⟩
 have i:=v.isL g;have h1:Po C own .fr σ F1 H1 (if ds.length<=Z8 then .ok (.lst ds,ρ1)else .bad) Q:=h1;by_cases z:ds.length<=Z8;·rw[Aa z]at h1;refine⟨by rw[i.length];exact z,λp hp=>?_⟩;obtain⟨r,c2,d⟩:=UT (u:=.lst vs) b hp;exact h1 _ _ _ r c2.ofNo ⟨p,rfl,hp,d,vs,qh,i⟩
 .rw[Ab z]at h1;exact h1.elim
theorem ur:PE X (.Dict [] [] pos) (tE C own .fr (dC (.dct []))):=by refine jy qci λσ H Q z p hp=>?_;obtain⟨F,ρ,a,h⟩:=z;obtain⟨r,c2,b⟩:=UT (u:=.dK []) a hp;exact h _ _ _ r c2.ofNo ⟨p,rfl,hp,b,[],qh,.nil⟩
def ixD:D->D->Out D
 |.lst xs,.int i=>match atI xs i with
  |some d=>.ok d
  |none=>.bad
 |.tup xs,.int i=>match atI xs i with
  |some d=>.ok d
  |none=>.bad
 |.str x,.int i=>match atI x.cps.toList i with
  |some c=>.ok (.str ⟨#[c]⟩)
  |none=>.bad
 |.dct kvs,.str x=>match (kvs.find? λkv=>decide (kv.1=br x))with
  |some kv=>.ok kv.2
  |none=>.bad
 |.dct kvs,.int x=>match (kvs.find? λkv=>decide (kv.1=fq x))with
  |some kv=>.ok kv.2
  |none=>.bad
 |_,_=>.bad
theorem IsL.atI{i:Int}(h:IsL K F vs ds)(e:L2.atI ds i=iO d):∃v,L2.atI vs i=iO v/\Is K F v d:=by
 unfold L2.atI at e ⊢;rw[h.length];cases q:ixN ds.length i with
 |none=>rw[q]at e;cases e
 |some j=>rw[q]at e;exact h.getD e
theorem IsK.find{k:Key}:∀{vs:List (Key×V)}{ds:List (Key×D)}{d:Key×D},IsK K F vs ds->(ds.find? λkv=>decide (kv.1=k))=iO d->∃v,XD vs k=iO v/\Is K F v d.2
 |_,_,_,.nil,e=>by simp at e
 |_,_,d,.cons (k:=k') (vs:=vs) h t,e=>by
  by_cases q:k'=k;·rw[dB (by simp[q])]at e;cases e;exact⟨_,zm q,h⟩
  .rw[cK (by simp[q])]at e;obtain⟨v,h1,h2⟩:=IsK.find t e;exact⟨v,by rw[zn q];exact h1,h2⟩
theorem UU(c:Nat):(⟨#[c]⟩:Str).length<=Z8:=by show 1<=Z8;rw[i5];decide
def qk9(K:Y8):R2:=λx y H Q=>rIx K x y H Q\/∃a v,x=.ref a/\DGet H a y (iO v)/\Q v H
theorem qdK(f:X.A.units+1<k4):IxR X (qk9 X.K):=by
 refine IxR.or qhm ?_;intro value e Z9 s σ H x y v u Q I d c h hs;obtain⟨a,w,rfl,g,q⟩:=h;cases d;obtain⟨T,ht⟩:∃T,s.TypeIs (.ref a) T/\T = "dict":=⟨_,WH I g,rfl⟩
 obtain⟨ht,rfl⟩:=ht;exact nr ht PySem.slot_dict_getitem.lookup (ZZ f I g c λS s' b r=>⟨w,H,b,r,q⟩) hs
end
variable{T:String}
section
variable{a b:Z4}{f fa fb:qU}
set_option tactic.hygienic true in
theorem qdL{σ:St}{x y:V}{dx b:D}{Q:VK}(n:C.K=X.K)(A:Same F H)(f:TopIs C.K F H x dx)(ty:TopIs C.K F H y b)(po:PoV C .sh F H (ixD dx b) Q):qk9 X.K x y H Q:=by
 rw[n]at f ty;cases dx with
 |lst xs=>
  cases b <;> try exact po.elim
  rename_i i;obtain rfl:=ty.int;obtain⟨a,vs,rfl,p,t⟩:=f.lst A;unfold ixD at po;cases e:L2.atI xs i with
  |none=>simp only[e]at po;exact po.elim
  |some d=>simp only[e]at po;obtain⟨v,h1,h2⟩:=t.atI e;exact .inl (.inl ⟨a,vs,i,v,rfl,rfl,p,h1,po v F H A .refl (by rw[n];exact h2)⟩)
 |tup xs=>
  cases b <;> try exact po.elim
  rename_i i;obtain rfl:=ty.int;obtain⟨a,vs,rfl,p,t⟩:=f.tup A;unfold ixD at po;cases e:L2.atI xs i with
  |none=>simp only[e]at po;exact po.elim
  |some d=>simp only[e]at po;obtain⟨v,h1,h2⟩:=t.atI e;exact .inl (.inr (.inl ⟨a,vs,i,v,rfl,rfl,p,h1,po v F H A .refl (by rw[n];exact h2)⟩))
 |str z=>
  cases b <;> try exact po.elim
  rename_i i;obtain rfl:=ty.int;obtain⟨rfl,h⟩:=f.str;unfold ixD at po;cases e:L2.atI z.cps.toList i with
  |none=>simp only[e]at po;exact po.elim
  |some c=>simp only[e]at po;exact .inl (.inr (.inr ⟨z,i,c,rfl,rfl,h,e,po _ F H A .refl (.str (UU c))⟩))
 | dct kvs=>
  obtain⟨a,kv,rfl,p,t⟩:=f.dct A;cases b with
  |int i=>
   obtain rfl:=ty.int;unfold ixD at po;cases e:(kvs.find? λkv=>decide (kv.1=fq i))with
   |none=>simp only[e]at po;exact po.elim
   |some d=>simp only[e]at po;obtain⟨v,h1,h2⟩:=t.find e;exact .inr ⟨a,v,rfl,by rw[<-h1];exact DGet.k (k:=fq i) p,po v F H A .refl (by rw[n];exact h2)⟩
  |str z=>
   obtain⟨rfl,_⟩:=ty.str;unfold ixD at po;cases e:(kvs.find? λkv=>decide (kv.1=br z))with
   |none=>simp only[e]at po;exact po.elim
   |some d=>simp only[e]at po;obtain⟨v,h1,h2⟩:=t.find e;exact .inr ⟨a,v,rfl,by rw[<-h1];exact DGet.k (k:=br z) p,po v F H A .refl (by rw[n];exact h2)⟩
  |_=>exact po.elim
 |_=>exact po.elim
theorem qki(u:C.K=X.K)(D:X.A.units+64<k4)(o:PE X a (tE C own ma fa))(n:PE X b (tE C own mb fb))(hs:QT b)(j:ma≠.any:=by decide):PE X (.Subscript a b pos) (tE C own .sh (d2 ixD fa fb)):=by
 refine jy (qhj (qdK (by lia)) o n hs) λσ H Q h=>?_;obtain⟨F,ρ,l,h⟩:=KC (mb:=mb) j h;refine⟨F,ρ,l,?_⟩;cases q:fa ρ with
 |ok p=>
  rw[q]at h;obtain⟨d,ρ1⟩:=p;intro v F1 H1 f x i;obtain⟨B,ρ2,e,h2⟩:=h v F1 H1 f x i;refine⟨B,ρ2,e,?_⟩;cases g:fb ρ2 with
  |ok p=>rw[g]at h2;obtain⟨d',k⟩:=p;intro w z y r I m;obtain⟨L,dx,E,s,t,ty,po⟩:=h2 w z y r I m;exact qdL (σ:=σ) u s t ty po
  |exc c=>rw[g]at h2;exact h2
  |bad=>rw[g]at h2;exact h2.elim
 |exc c=>rw[q]at h;exact h
 |bad=>rw[q]at h;exact h.elim
def KL(X:Cx)(C:Ct)(m:Mo)(f:iR)(g:D->Out D):Prop:=vG X f (λxs H Q=>∃x F dx,xs=[x]/\Same F H/\TopIs C.K F H x dx/\PoV C m F H (g dx) Q)
theorem wF{Q:VK}{g:D->Out D}(h:tE C own m (d1 g fa) σ H Q):qcb (tE C own ma fa) qjs σ H λxs H1=>∃x F dx,xs=[x]/\Same F H1/\TopIs C.K F H1 x dx/\PoV C m F H1 (g dx) Q:=by
 obtain⟨F,ρ,r,h⟩:=qck (ma:=ma) h;refine⟨F,ρ,r,?_⟩;cases q:fa ρ with
 |ok p=>rw[q]at h;obtain⟨d,ρ1⟩:=p;intro v F1 H1 a k b;obtain⟨e,dx,A,t,po⟩:=h v F1 H1 a k b;exact⟨v,e,dx,rfl,A,t,po⟩
 |exc c=>rw[q]at h;exact h
 |bad=>rw[q]at h;exact h.elim
theorem qx{id:String}{p:Pos}{g:D->Out D}(d:KL X C m (.builtin id) g)(hg:Gl X x)(a:X.mg x=iQ)(c:iY x=iO (.builtin id))(f:PE X e (tE C own ma fa))(hn:x ≠ "__name__":=by decide)(b:Dbg x:=by decide)(i:iX [e] X.env=[(iS,Y9 e X.env)]:=by exact qD rfl):PE X (.Call (.Name x p) [e] [] pos) (tE C own m (d1 g fa)):=
 jy (um d hg a c (qI f jq i) hn b (by rw[i];rfl) rfl) λ_ _ _ h=>wF h
theorem vK{p:Pos}{g:D->Out D}(d:KL X C m (.type T) g)(hg:Gl X x)(a:X.mg x=iQ)(c:iY x=iO (.type T))(f:PE X e (tE C own ma fa))(hn:x ≠ "__name__":=by decide)(b:Dbg x:=by decide)(i:iX [e] X.env=[(iS,Y9 e X.env)]:=by exact qD rfl):PE X (.Call (.Name x p) [e] [] pos) (tE C own m (d1 g fa)):=
 jy (jO d hg a c (qI f jq i) hn b (by rw[i];rfl) rfl) λ_ _ _ h=>wF h
noncomputable def ko:D->Out D
 |.str x=>.ok (.int x.length)
 |.lst xs=>.ok (.int xs.length)
 |.tup xs=>.ok (.int xs.length)
 |.dct xs=>.ok (.int xs.length)
 |_=>.bad
theorem IsK.length:∀{vs:List (Key×V)}{ds:List (Key×D)},IsK K F vs ds->vs.length=ds.length
 |_,_,.nil=>rfl
 |_,_,.cons _ t=>congrArg (·+1) (IsK.length t)
theorem jr(n:C.K=X.K):KL X C .sh (.builtin "len") ko:=by
 intro Z9 s σ H xs us Q I r h;obtain⟨x,F,dx,rfl,A,b,po⟩:=h;cases dx with
 |str z=>obtain⟨rfl,c⟩:=b.str;exact QS Z9 s σ H _ us Q I r ⟨_,_,rfl,⟨c,rfl⟩,po _ F H A .refl (.int _)⟩
 |lst ds=>obtain⟨a,vs,rfl,p,t⟩:=b.lst A;exact QS Z9 s σ H _ us Q I r ⟨_,ds.length,rfl,.inl ⟨vs,by rw[<-n];exact p,t.length.symm⟩,po _ F H A .refl (.int _)⟩
 |tup ds=>obtain⟨a,vs,rfl,p,t⟩:=b.tup A;exact QS Z9 s σ H _ us Q I r ⟨_,ds.length,rfl,.inr ⟨vs,by rw[<-n];exact p,t.length.symm⟩,po _ F H A .refl (.int _)⟩
 |dct ds=>obtain⟨a,vs,rfl,p,t⟩:=b.dct A;refine Gc Z9 s σ H _ us Q I r ⟨a,vs,rfl,p,?_⟩;rw[t.length];exact po _ F H A .refl (.int _)
 |_=>exact po.elim
noncomputable def ki:D->D->Out D
 |.int i,.int j=>.ok (.int (i+j))
 |.str x,.str y=>if x.length+y.length<=Z8 then .ok (.str (x++y))else .bad
 |.lst xs,.lst ys=>if xs.length+ys.length<=Z8 then .ok (.lst (xs++ys))else .bad
 |.tup xs,.tup ys=>if xs.length+ys.length<=Z8 then .ok (.tup (xs++ys))else .bad
 |_,_=>.bad
theorem wH(A:Same F H)(hp:H p=iQ):Same (upd F p u) (upd H p u)/\Chg No F H (upd F p u) (upd H p u):=by
 have C:F p=none:=by
  cases q:F p with
  |none=>rfl
  |some o=>rw[A p o q]at hp;cases hp
 refine⟨λb o e=>?_,⟨λb o e _=>by rw[qB (qJ e hp)];exact e,λb e=>?_,λb o e=>by rw[qB (qJ e C)];exact e,λb e=>?_⟩⟩
 .by_cases q:b=p;·subst q;rw[qh]at e ⊢;exact e
  .rw[qB q]at e ⊢;exact A b o e
 .by_cases q:b=p;·rw[q,qh];simp
  .rw[qB q];exact e
 .by_cases q:b=p;·exact .inr (.inl (by rw[q];exact hp))
  .rw[qB q]at e;exact .inl e
theorem jT(A:Same F H)(hp:H p=iQ):Same F (upd H p u)/\Chg No F H F (upd H p u)/\F p=none:=by
 have C:F p=none:=by
  cases q:F p with
  |none=>rfl
  |some o=>rw[A p o q]at hp;cases hp
 refine⟨λb o e=>by rw[qB (qJ e C)];exact A b o e,⟨λb o e _=>by rw[qB (qJ e hp)];exact e,λb e=>?_,Same.refl _,λb e=>.inl e⟩,C⟩;by_cases q:b=p;·rw[q,qh];simp
 .rw[qB q];exact e
theorem WP(x y:Str):(x++y).length=x.length+y.length:=by show(x.cps++y.cps).size=_;simp[g7]
theorem qfd:OpR X (lB .Add) (λx y H Q=>∃l b xs zs,x=.ref l/\y=.ref b/\SqL X.K H l xs/\SqL X.K H b zs/\xs.length+zs.length<=Z8/\∀p,H p=iQ->Q (.ref p) (upd H p (.lst (xs++zs)))):=by
 intro Z9 s σ H x y v u Q I k r h;obtain⟨l,b,xs,zs,rfl,rfl,h1,h2,z,q⟩:=h;cases k;cases r;obtain⟨its,r1,p1,_⟩:=I.list h1;obtain⟨i,r2,p2,_⟩:=I.list h2;obtain⟨⟨cls,dd,data,sl⟩,o,f,n,hd⟩:=id p1.isList;obtain⟨⟨j,e,g,d⟩,a,c,n2,hd2⟩:=id p2.isList;simp only at f hd c hd2;subst f hd c hd2;have t:=r1.length;have m:=r2.length;refine mO ⟨_,o,rfl⟩ ⟨_,a,rfl⟩ noFill_list_add seq_list_add PySem.F.slot_list_add PySem.F.entry_list_add (PySem.F.args_list_add_2 _ _)
  (list_addW l b its.toArray i.toArray n n2 dd e sl d (by simp only[au];lia)) ⟨o,a,?_⟩
 have w:its.toArray++i.toArray=(its++i).toArray:=by simp
 rw[w];exact⟨.ref _,_,I.lnew (t':=s.toks) (r1.append r2) (by rw[aj];exact z),rfl,q _ I.fresh⟩
theorem qfe:OpR X (lB .Add) (λx y H Q=>∃a b ys,x=.ref a/\y=.ref b/\SqT X.K H a []/\SqT X.K H b ys/\Q (.ref b) H):=by
 intro Z9 s σ H x y v u Q I m r h;obtain⟨a,b,ys,rfl,rfl,h1,h2,q⟩:=h;cases m;cases r;obtain⟨its,r1,p1,_⟩:=I.tuple h1;obtain⟨i,r2,p2,_⟩:=I.tuple h2;cases r1;obtain⟨⟨cls,dd,data,sl⟩,l,j,n,hd⟩:=id p1;obtain⟨⟨k,f,g,e⟩,c,d,n2,hd2⟩:=id p2;simp only at j hd d hd2;subst j hd d hd2;exact mO ⟨_,l,rfl⟩ ⟨_,c,rfl⟩ noFill_tuple_add seq_tuple_add eI et (d4 _ _)
  (tuple_addW0 a b _ _ n n2 dd f sl e rfl) ⟨l,c,⟨.ref b,H,I,rfl,q⟩⟩
set_option tactic.hygienic true in
theorem jt(n:C.K=X.K):OpD X C .sh (lB .Add) ki:=by
 intro Z9 s σ H x y v u Q I d r h;obtain⟨F,dx,f,A,t,ty,po⟩:=h;cases dx with
 |int i=>
  cases f <;> try exact po.elim
  obtain rfl:=t.int;obtain rfl:=ty.int;exact qg8 Z9 s σ H _ _ v u Q I d r ⟨_,_,rfl,rfl,po _ F H A .refl (.int _)⟩
 |str a=>
  cases f <;> try exact po.elim
  rename_i b;obtain⟨rfl,_⟩:=t.str;obtain⟨rfl,_⟩:=ty.str;have po:PoV C .sh F H (if a.length+b.length<=Z8 then .ok (.str (a++b))else .bad) Q:=po;by_cases z:a.length+b.length<=Z8;·rw[Aa z]at po;exact XC Z9 s σ H _ _ v u Q I d r ⟨_,_,rfl,rfl,z,po _ F H A .refl (.str (by rw[WP];exact z))⟩
  .rw[Ab z]at po;exact po.elim
 |lst xs=>
  cases f <;> try exact po.elim
  rename_i ys;obtain⟨a,vs,rfl,p1,t1⟩:=t.lst A;obtain⟨b,ws,rfl,p2,c⟩:=ty.lst A;have po:PoV C .sh F H (if xs.length+ys.length<=Z8 then .ok (.lst (xs++ys))else .bad) Q:=po;by_cases z:xs.length+ys.length<=Z8;·rw[Aa z]at po;refine qfd Z9 s σ H _ _ v u Q I d r ⟨a,b,vs,ws,rfl,rfl,by rw[<-n];exact p1,by rw[<-n];exact p2,by rw[t1.length,c.length];exact z,λp hp=>?_⟩;obtain⟨s2,c2⟩:=wH (u:=.lst (vs++ws)) A hp;exact po _ _ _ s2 c2 (.lst (.inl (.inl qh)) ((t1.append c).mono c2.grow))
  .rw[Ab z]at po;exact po.elim
 | tup xs=>
  cases f <;> try exact po.elim
  rename_i ys;obtain⟨a,vs,rfl,p1,t1⟩:=t.tup A;obtain⟨b,ws,rfl,p2,c⟩:=ty.tup A;have po:PoV C .sh F H (if xs.length+ys.length<=Z8 then .ok (.tup (xs++ys))else .bad) Q:=po;by_cases z:xs.length+ys.length<=Z8
  .rw[Aa z]at po;cases vs with
   |nil=>
    cases t1;rcases ty with ty|⟨_,_,ty⟩
    .exact qfe Z9 s σ H _ _ v u Q I d r ⟨a,b,ws,rfl,rfl,by rw[<-n];exact p1,by rw[<-n];exact p2,po _ F H A .refl ty⟩
    .exact ty.elim
   | cons g vs=>
    refine qeV Z9 s σ H _ _ v u Q I d r ⟨a,b,g::vs,ws,rfl,rfl,by rw[<-n];exact p1,by rw[<-n];exact p2,by simp,by rw[t1.length,c.length];exact z,λe=>?_,λe p hp=>?_⟩
    .subst e;cases c;rcases t with t|⟨_,_,t⟩
     .refine po _ F H A .refl ?_;rw[bg];exact t
     .exact t.elim
    .obtain⟨s2,c2⟩:=wH (u:=.tup (g::vs++ws)) A hp;exact po _ _ _ s2 c2 (.tup (.inl (.inl qh)) ((t1.append c).mono c2.grow))
  .rw[Ab z]at po;exact po.elim
 |_=>exact po.elim
end
inductive PM where
 |val|io|tk
 deriving DecidableEq
noncomputable def zd:List PM->List V->List Z7
 |.val::ms,_::vs=>zd ms vs
 |.io::ms,.ref a::vs=>a::zd ms vs
 |.tk::ms,.ref a::vs=>a::zd ms vs
 |_::ms,_::vs=>zd ms vs
 |_,_=>[]
def ArgsIs(K:Y8)(F H:Hp):List PM->List V->List D->Prop
 |[],[],[]=>True
 |.val::ms,v::vs,d::ds=>Is K F v d/\ArgsIs K F H ms vs ds
 |.io::ms,v::vs,d::ds=>(∃a,v=.ref a/\F a=iQ/\OwnIs K F H a d)/\ArgsIs K F H ms vs ds
 |.tk::ms,v::vs,d::ds=>(∃a,v=.ref a/\F a=iQ/\OwnIs K F H a d)/\ArgsIs K F H ms vs ds
 |_,_,_=>False
def yp(K:Y8)(F H:Hp):List PM->List V->List D->Prop
 |[],_,_=>True
 |.io::ms,v::vs,d::ds=>(∃a,v=.ref a/\F a=iQ/\OwnIs K F H a d)/\yp K F H ms vs ds
 |_::ms,_::vs,_::ds=>yp K F H ms vs ds
 |_,_,_=>False
abbrev LA(ms:List PM)(vs:List V):Z7->Prop:=λb=>b∈zd ms vs
def PoG(K:Y8)(cv:Str->iR)(ms:List PM)(mr:Mo)(vs:List V)(F H:Hp)(Q:VK)(E:XK)(o:Out (D×List D)):Prop:=match o with
 |.ok (d,outs)=>∀v F' H',Same F' H'->Chg (LA ms vs) F H F' H'->yp K F' H' ms vs outs->MoIs K mr H F' H' v d->Q v H'
 |.exc c o=>∀F' H',Same F' H'->Chg (LA ms vs) F H F' H'->yp K F' H' ms vs (o.map (·.getD .non))->E (cv c) iQ H'
 |.bad=>False
abbrev jK:=List D->Out (D×List D)
def spD(K:Y8)(cv:Str->iR)(ms:List PM)(mr:Mo)(G:jK):Sp:=λvs H Q E=>∃F ds,Same F H/\ArgsIs K F H ms vs ds/\(zd ms vs).Nodup/\PoG K cv ms mr vs F H Q E (G ds)
theorem ArgsIs.length:∀{ms:List PM}{vs:List V}{ds:List D},ArgsIs K F H ms vs ds->vs.length=ms.length/\ds.length=ms.length
 |[],[],[],_=>⟨rfl,rfl⟩
 |.val::ms,v::vs,d::ds,h=>by have:=ArgsIs.length h.2;simp[this]
 |.io::ms,v::vs,d::ds,h=>by have:=ArgsIs.length h.2;simp[this]
 |.tk::ms,v::vs,d::ds,h=>by have:=ArgsIs.length h.2;simp[this]
 |[],_::_,_,h=>h.elim
 |[],[],_::_,h=>h.elim
 |.val::_,[],_,h=>h.elim
 |.val::_,_::_,[],h=>h.elim
 |.io::_,[],_,h=>h.elim
 |.io::_,_::_,[],h=>h.elim
 |.tk::_,[],_,h=>h.elim
 |.tk::_,_::_,[],h=>h.elim
noncomputable def kq(n:Nat):List PM->List Nat
 |[]=>[]
 |.val::ms=>kq (n+1) ms
 |_::ms=>n::kq (n+1) ms
noncomputable def UV(n:Nat):List PM->List Nat
 |[]=>[]
 |.io::ms=>n::UV (n+1) ms
 |_::ms=>UV (n+1) ms
variable{n:Nat}
theorem yq:∀{ms:List PM}{i:Nat},i∈kq n ms->n<=i/\i<n+ms.length:=by
 intro ms
 induction ms generalizing n with
 |nil=>intro i h;simp[kq]at h
 | cons m ms j=>
  intro i h;cases m with
  |val=>have:=j (n:=n+1) h;simp only[ah];lia
  |io=>
   rcases ae.mp h with e|h;·simp only[ah];lia
   .have:=j (n:=n+1) h;simp only[ah];lia
  |tk=>
   rcases ae.mp h with e|h;·simp only[ah];lia
   .have:=j (n:=n+1) h;simp only[ah];lia
theorem qcv:∀{ms:List PM}{i:Nat},i∈UV n ms->i∈kq n ms:=by
 intro ms
 induction ms generalizing n with
 |nil=>intro i h;simp[UV]at h
 | cons m ms j=>
  intro i h;cases m with
  |val=>exact j (n:=n+1) h
  |io=>
   rcases ae.mp h with e|h;·exact ae.mpr (.inl e)
   .exact ac _ (j (n:=n+1) h)
  |tk=>exact ac _ (j (n:=n+1) h)
theorem XI:∀{ms:List PM}{vs:List V}{ds:List D}{n:Nat},ArgsIs K F H ms vs ds ->(∀j d,ds[j]?=iO d->n+j∉kq n ms->∃v,vs[j]?=iO v/\Is K F v d) /\
  (∀j d,ds[j]?=iO d->n+j∈kq n ms->∃a,vs[j]?=iO (.ref a)/\F a=iQ/\OwnIs K F H a d):=by
 intro ms
 induction ms with
 |nil=>intro vs ds n h;cases vs <;> cases ds <;> first|exact h.elim|(refine⟨λj d e=>?_,λj d e=>?_⟩ <;> simp at e)
 | cons m ms i=>
  intro vs ds n h;cases vs with
  |nil=>cases m <;> exact h.elim
  | cons v vs=>
   cases ds with
   |nil=>cases m <;> exact h.elim
   | cons d ds=>
    cases m with
    | val=>
     obtain⟨h1,h2⟩:=h;obtain⟨i1,i2⟩:=i (n:=n+1) h2;refine⟨λj e b hn=>?_,λj e b hn=>?_⟩
     .cases j with
      |zero=>simp at b;subst b;exact⟨v,rfl,h1⟩
      |succ j=>simpa using i1 j e (by simpa using b) (by rw[show n+1+j=n+(j+1) by lia];exact hn)
     .cases j with
      |zero=>have:=yq (n:=n+1) hn;lia
      |succ j=>simpa using i2 j e (by simpa using b) (by rw[show n+1+j=n+(j+1) by lia];exact hn)
    | io=>
     obtain⟨⟨a,rfl,h1⟩,h2⟩:=h;obtain⟨i1,i2⟩:=i (n:=n+1) h2;refine⟨λj e b hn=>?_,λj e b hn=>?_⟩
     .cases j with
      |zero=>exact absurd (ae.mpr (.inl rfl)) hn
      |succ j=>simpa using i1 j e (by simpa using b) (λz=>hn (ac _ (by rw[show n+(j+1)=n+1+j by lia];exact z)))
     .cases j with
      |zero=>simp at b;subst b;exact⟨a,rfl,h1⟩
      | succ j=>
       have c:n+1+j∈kq (n+1) ms:=by
        rcases ae.mp hn with z|z
        .lia
        .rw[show n+1+j=n+(j+1) by lia];exact z
       simpa using i2 j e (by simpa using b) c
    | tk=>
     obtain⟨⟨a,rfl,h1⟩,h2⟩:=h;obtain⟨i1,i2⟩:=i (n:=n+1) h2;refine⟨λj e b hn=>?_,λj e b hn=>?_⟩
     .cases j with
      |zero=>exact absurd (ae.mpr (.inl rfl)) hn
      |succ j=>simpa using i1 j e (by simpa using b) (λz=>hn (ac _ (by rw[show n+(j+1)=n+1+j by lia];exact z)))
     .cases j with
      |zero=>simp at b;subst b;exact⟨a,rfl,h1⟩
      | succ j=>
       have c:n+1+j∈kq (n+1) ms:=by
        rcases ae.mp hn with z|z
        .lia
        .rw[show n+1+j=n+(j+1) by lia];exact z
       simpa using i2 j e (by simpa using b) c
theorem Gr:∀{ms:List PM}{vs:List V}{j:Nat}{a:Z7},n+j∈kq n ms->vs[j]?=iO (.ref a)->a∈zd ms vs:=by
 intro ms
 induction ms generalizing n with
 |nil=>intro vs j a h;simp[kq]at h
 | cons m ms i=>
  intro vs j a h e;cases vs with
  |nil=>simp at e
  | cons v vs=>
   cases j with
   |zero=>
    simp at e;subst e;cases m with
    |val=>have:=yq (n:=n+1) h;omega
    |io=>exact ae.mpr (.inl rfl)
    |tk=>exact ae.mpr (.inl rfl)
   | succ j=>
    have b:vs[j]?=iO (.ref a):=by simpa using e
    have sub:n+1+j∈kq (n+1) ms:=by
     rw[show n+1+j=n+(j+1) by omega];cases m with
     |val=>exact h
     |io=>exact(ae.mp h).resolve_left (by omega)
     |tk=>exact(ae.mp h).resolve_left (by omega)
    have q:=i (n:=n+1) sub b;cases m <;> cases v <;> first|exact q|exact ac _ q
theorem Gs:∀{ms:List PM}{vs:List V}{a:Z7},a∈zd ms vs->∃j,n+j∈kq n ms/\vs[j]?=iO (.ref a):=by
 intro ms
 induction ms generalizing n with
 |nil=>intro vs a h;cases vs <;> simp[zd]at h
 | cons m ms i=>
  intro vs a h;cases vs with
  |nil=>cases m <;> simp[zd]at h
  | cons v vs=>
   have up:∀{b},b∈zd ms vs->∃j,n+j∈kq n (m::ms)/\(v::vs)[j]?=iO (.ref b):=λd=>by
    obtain⟨j,h1,h2⟩:=i (n:=n+1) d;refine⟨j+1,?_,by simpa using h2⟩;rw[show n+(j+1)=n+1+j by lia];cases m with
    |val=>exact h1
    |io=>exact ac _ h1
    |tk=>exact ac _ h1
   cases m with
   |val=>exact up (by cases v <;> exact h)
   | io=>
    cases v with
    |ref c=>
     rcases ae.mp h with e|h;·subst e;exact⟨0,ae.mpr (.inl rfl),rfl⟩
     .exact up h
    |_=>exact up h
   | tk=>
    cases v with
    |ref c=>
     rcases ae.mp h with e|h;·subst e;exact⟨0,ae.mpr (.inl rfl),rfl⟩
     .exact up h
    |_=>exact up h
theorem qcw:∀{ms:List PM}{vs:List V}{i j:Nat}{a:Z7},(zd ms vs).Nodup->n+i∈kq n ms->n+j∈kq n ms->vs[i]?=iO (.ref a)->vs[j]?=iO (.ref a)->i=j:=by
 intro ms
 induction ms generalizing n with
 |nil=>intro vs i j a _ h;simp[kq]at h
 | cons m ms f=>
  intro vs i j a nd hi D e1 e;cases vs with
  |nil=>simp at e1
  | cons v vs=>
   have sub:∀{k},n+(k+1)∈kq n (m::ms)->n+1+k∈kq (n+1) ms:=λ{k} h=>by
    rw[show n+1+k=n+(k+1) by lia];cases m with
    |val=>exact h
    |io=>exact(ae.mp h).resolve_left (by lia)
    |tk=>exact(ae.mp h).resolve_left (by lia)
   have d:(zd ms vs).Nodup:=by cases m <;> cases v <;> first|exact nd|exact(aP.mp nd).2
   have c:∀{k b},n+0∈kq n (m::ms)->v=.ref b->n+(k+1)∈kq n (m::ms)->vs[k]?=iO (.ref b)->False:=λ{k b} o g l p=>by
    subst g;have q:=Gr (n:=n+1) (sub l) p;cases m with
    |val=>have:=yq (n:=n+1) o;lia
    |io=>exact(aP.mp nd).1 q
    |tk=>exact(aP.mp nd).1 q
   cases i with
   |zero=>
    cases j with
    |zero=>rfl
    |succ j=>exact(c hi (by simpa using e1) D (by simpa using e)).elim
   |succ i=>
    cases j with
    |zero=>exact(c D (by simpa using e) hi (by simpa using e1)).elim
    |succ j=>exact congrArg (·+1) (f (n:=n+1) d (sub hi) (sub D) (by simpa using e1) (by simpa using e))
noncomputable def qt(N:List Str)(ds:List D):Sl:=ds.map iO++fH (N.length - ds.length) iQ
variable{α:Type}{N:List Str}
theorem jP{xs:List α}{x:α}:(xs.map iO++fH (N.length - xs.length) iQ)[i]?=iO (iO x)↔xs[i]?=iO x:=by
 by_cases h:i<xs.length
 .rw[cP (by simpa using h),aG];cases e:xs[i]? with
  |none=>simp
  |some y=>simp
 .rw[ce (by simpa using h),ei];have e:xs[i]?=none:=cu.mpr (by lia);rw[e];split <;> simp
variable{ms:List PM}
theorem Gu(A:Same F H)(r:ArgsIs K F H ms vs ds)(nd:(zd ms vs).Nodup):Rep K (kq 0 ms) F H (wx N vs) (qt N ds):=by
 obtain⟨h1,h2⟩:=XI (n:=0) r;obtain⟨g,l⟩:=r.length;refine⟨A,by simp[wx,qt,g,l],λi d hi e=>?_,λi d hi e=>?_,λi hi=>?_,λi j a hi D e1 c=>?_⟩;·obtain⟨v,a,b⟩:=h1 i d (jP.mp e) (by simpa using hi);exact⟨v,jP.mpr a,b⟩
 .obtain⟨v,a,b⟩:=h2 i d (jP.mp e) (by simpa using hi);exact⟨v,jP.mpr a,b⟩
 .have q:=yq hi;have hl:i<ds.length:=by lia
  exact⟨ds[i],jP.mpr (by simp[hl])⟩
 .exact qcw (n:=0) nd (by simpa using hi) (by simpa using D) (jP.mp e1) (jP.mp c)
theorem qcx:OA (kq 0 ms) (wx N vs) b↔LA ms vs b:=by
 constructor;·rintro⟨i,hi,e⟩;exact Gr (n:=0) (by simpa using hi) (jP.mp e)
 .intro h;obtain⟨j,h1,h2⟩:=Gs (n:=0) h;exact⟨j,by simpa using h1,jP.mpr h2⟩
noncomputable def jQ(ρ:Sl):Nat->List PM->List D
 |_,[]=>[]
 |n,.io::ms=>((ρ[n]?).getD iQ).getD .non::jQ ρ (n+1) ms
 |n,_::ms=>.non::jQ ρ (n+1) ms
theorem qff{σ:St}{N:List Str}:∀{ms:List PM}{vs:List V}{n:Nat},vs.length=ms.length->(∀i∈UV n ms,∃d a,ρ[i]?=iO (iO d)/\vs[i - n]?=iO (V.ref a)/\F a=iQ/\OwnIs K F H a d)->yp K F H ms vs (jQ ρ n ms):=by
 intro ms
 induction ms with
 |nil=>intro vs n _ _;trivial
 | cons m ms j=>
  intro vs n hl h;cases vs with
  |nil=>simp at hl
  |cons v vs=>
   have rest:(∀i∈UV (n+1) ms,i∈UV n (m::ms))->yp K F H ms vs (jQ ρ (n+1) ms):=λhs=>by refine j (by simpa using hl) λi hi=>?_;obtain⟨d,a,e1,e,D⟩:=h i (hs i hi);have q:=yq (qcv hi);refine⟨d,a,e1,?_,D⟩;rw[show i - n=(i - (n+1))+1 by lia]at e;simpa using e
   cases m with
   |val=>exact rest λi hi=>hi
   |io=>obtain⟨d,a,e1,e,D⟩:=h n (ae.mpr (.inl rfl));refine⟨⟨a,by simpa using e,D.1,?_⟩,rest λi hi=>ac _ hi⟩;rw[e1];exact D.2
   |tk=>exact rest λi hi=>hi
noncomputable def Fl.val:Fl->Option D
 |.nx=>iO .non
 |.rt d=>iO d
 |_=>iQ
def jW(N:List Str)(ms:List PM)(f:qK)(ds:List D):Out (D×List D):=match f (qt N ds)with
 |.ok (.nx,ρ)=>.ok (.non,jQ ρ 0 ms)
 |.ok (.rt d,ρ)=>.ok (d,jQ ρ 0 ms)
 |.ok _=>.bad
 |.exc c ρ=>.exc c ((jQ ρ 0 ms).map iO)
 |.bad=>.bad
theorem UW:∀(l:List D),(l.map iO).map (λx:Option D=>x.getD .non)=l
 |[]=>rfl
 |a::l=>congrArg (a::·) (UW l)
def Out.le{α:Type}(a b:Out α):Prop:=a=.bad\/a=b
theorem qfg{f:qK}{Q:VK}{o:Out (D×List D)}(j:C.io=UV 0 ms)(l:C.ox=C.io)(r:C.mr=.sh\/∀ρ,(f (qt N ds))≠.ok (.nx,ρ))(g:∀i∈UV 0 ms,i∈own')(A:Same F H)(t:ArgsIs C.K F H ms vs ds)(nd:(zd ms vs).Nodup)(G:Out.le o (jW N ms f ds))(h:PoG C.K C.cv ms C.mr vs F H Q C.E o):tSt C (kq 0 ms) own' f { nx:=λ_ H'=>Q .non H',rt:=Q } (wx N vs) H:=by
 refine⟨F,qt N ds,Gu A t nd,?_⟩;have hl:=t.length.1;have ch:∀{F' H'},Chg (OA (kq 0 ms) (wx N vs)) F H F' H'->Chg (LA ms vs) F H F' H':=λc=>c.mono λx z=>qcx.mp z;have b:∀{σ':St}{ρ':Sl}{F' H':Hp},qbW C.K C.io F' H' σ' ρ'->(∀i∈C.io,σ'[i]?=(wx N vs)[i]?)->yp C.K F' H' ms vs (jQ ρ' 0 ms):=λ{σ' ρ' F' H'} io e=>by
  refine qff (N:=N) (σ:=σ') hl λi hi=>?_;have k:i∈C.io:=by rw[j];exact hi
  obtain⟨d,a,e1,m,B⟩:=io i k;refine⟨d,a,e1,?_,B⟩;rw[e i k]at m;exact jP.mp m
 rcases G with e|e;·subst e;exact h.elim
 .subst e;unfold jW at h;cases q:f (qt N ds)with
  |ok p=>
   rw[q]at h;obtain⟨y,ρ'⟩:=p;cases y with
   |nx=>have w:C.mr=.sh:=r.resolve_right λz=>z ρ' q;exact λσ' F' H' n=>h .non F' H' n.rep.sub (ch n.chg) (b (n.rep.ioIs (by rw[j];exact g)) n.io) (by rw[w];exact .non)
   |rt d=>exact λv σ' F' H' s io c e u=>h v F' H' s (ch c) (b io e) u
   |bk=>exact h.elim
   |ct=>exact h.elim
  |exc c ρ'=>rw[q]at h;exact λF' H' s io T=>h F' H' s (ch T) (by rw[UW];exact b (σ':=wx N vs) (by rw[<-l];exact io) λ_ _=>rfl)
  |bad=>rw[q]at h;exact h.elim
def qju(K:Y8)(cv:Str->iR)(E:XK)(ms:List PM)(mr:Mo):Ct:=⟨K,cv,E,UV 0 ms,mr,[],UV 0 ms,λ_ h=>h⟩
theorem qla{P:iZ}{w:i3}{K:Y8}{mg:Str->Option iR}{base:Z5}{CX:CXT}{x qual:Str}{st:Z3}{f:Z7}{fd:lN}{N ps:List Str}{k:Nat}{cv:Str->iR}{ms:List PM}{mr:Mo}{own':List Nat}{fb:qK}{G:jK}(F:Fun K x qual st f fd)(S:FnScope N ps (jb st))(hl:ms.length=ps.length)(g:∀i∈UV 0 ms,i∈own')(r:mr=.sh\/∀ds ρ,(fb (qt N ds))≠.ok (.nx,ρ))(a:∀(cdv:iR)(A:j4)(outer:List Env)(s:iV)(H:Hp)(E:XK),Room k (A.deeper (mI qual (jb st) s.heap.objs.size f cdv)) ->PSs (qeQ CX P w K mg base N qual (jb st) f cdv A outer s H E) (vV st) (tSt (qju K cv E ms mr) (kq 0 ms) own' fb))(e:∀ds,Out.le (G ds) (jW N ms fb ds)):FnOk P w K mg base CX (k+1) f fd ps (spD K cv ms mr G):=by
 obtain⟨oc,od,kV,doc,pm,an,cdv,ct,osl,rfl,lk,d⟩:=F.ex;refine qj7 lk d S (λvs H Q E h=>?_) λA outer s H vs Q E hr p=>?_;·obtain⟨F,ds,_,b,_⟩:=h;rw[b.length.1,hl]
 .obtain⟨F1,ds,c,b,nd,h⟩:=p;refine⟨_,a cdv A outer s H E hr,?_⟩;exact qfg (C:=qju K cv E ms mr) rfl rfl (r.imp id λz ρ=>z ds ρ) g c b nd (e ds) h
def Ki:AK->PM
 |.vl=>.val
 |.sl _=>.io
 |.fr=>.tk
noncomputable def kJ:List AK->List D->Sl->Option (List D)
 |[],[],_=>iO []
 |.sl i::as,_::ds,ρ=>match ρ[i]? with
  |some (iO d)=>(kJ as ds ρ).map (d::·)
  |_=>iQ
 |.vl::as,d::ds,ρ=>(kJ as ds ρ).map (d::·)
 |.fr::as,d::ds,ρ=>(kJ as ds ρ).map (d::·)
 |_,_,_=>iQ
noncomputable def zr:List AK->List D->Sl->Sl
 |.sl i::as,d::outs,ρ=>zr as outs (ρ.set i (iO d))
 |_::as,_::outs,ρ=>zr as outs ρ
 |_,_,ρ=>ρ
noncomputable def ju:List AK->List Nat
 |[]=>[]
 |.sl i::as=>i::ju as
 |_::as=>ju as
noncomputable def frA:List AK->Nat
 |[]=>0
 |.fr::as=>frA as+1
 |_::as=>frA as
section
theorem yr:∀{as:List AK}{vs:List V}{ds f:List D},Rep K own F H σ ρ->(∀i∈ju as,i∈own)->ArgV K H0 F H σ as vs ds->kJ as ds ρ=iO f->ArgsIs K F H (as.map Ki) vs f
 |[],vs,ds,f,rp,hs,av,e=>by cases vs <;> cases ds <;> first|exact av.elim|(simp[kJ]at e;subst e;trivial)
 |a::as,[],ds,f,rp,hs,av,e=>by cases a <;> exact av.elim
 |a::as,v::vs,[],f,rp,hs,av,e=>by cases a <;> exact av.elim
 | .vl::as,v::vs,d::ds,f,rp,hs,av,e=>by
  cases q:kJ as ds ρ with
  |none=>simp[kJ,q]at e
  |some l=>
   have e:d::l=f:=by simpa[kJ,q]using e
   subst e;exact⟨av.1,yr rp hs av.2 q⟩
 | .fr::as,v::vs,d::ds,f,rp,hs,av,e=>by
  cases q:kJ as ds ρ with
  |none=>simp[kJ,q]at e
  |some l=>
   have e:d::l=f:=by simpa[kJ,q]using e
   subst e;obtain⟨a,h1,_,h2,g⟩:=av.1;exact⟨⟨a,h1,h2,g⟩,yr rp hs av.2 q⟩
 | .sl i::as,v::vs,d::ds,f,rp,hs,av,e=>by
  obtain⟨h1,_,b⟩:=av;have hi:i∈own:=hs i (ae.mpr (.inl rfl));obtain⟨d',hd⟩:=rp.opn i hi;obtain⟨a,e1,k,c⟩:=rp.ow i d' hi hd;rw[h1]at e1;cases e1;cases q:kJ as ds ρ with
  |none=>simp[kJ,q,hd]at e
  |some l=>
   have e:d'::l=f:=by simpa[kJ,q,hd]using e
   subst e;exact⟨⟨a,rfl,k,c⟩,yr rp (λj h=>hs j (ac _ h)) b q⟩
theorem kX:∀{as:List AK}{vs:List V}{ds:List D}{b:Z7},ArgV K H0 F H σ as vs ds->b∈zd (as.map Ki) vs->(∃i∈ju as,σ[i]?=iO (iO (V.ref b)))\/(H0 b=iQ/\frA as≠0/\H b≠iQ/\F b=iQ)
 |[],vs,ds,b,av,h=>by cases vs <;> simp[zd]at h
 |a::as,[],ds,b,av,h=>by cases a <;> exact av.elim
 |a::as,v::vs,[],b,av,h=>by cases a <;> exact av.elim
 |.vl::as,v::vs,d::ds,b,av,h=>by
  have h:b∈zd (as.map Ki) vs:=by cases v <;> exact h
  exact kX (as:=as) av.2 h
 | .fr::as,v::vs,d::ds,b,av,h=>by
  obtain⟨⟨a,rfl,f,C,o⟩,c⟩:=av;have h:b∈a::zd (as.map Ki) vs:=h;rcases ae.mp h with e|h;·subst e;exact .inr ⟨f,by simp[frA],o.there,C⟩
  .rcases kX c h with z|⟨z,_,z2⟩
   .exact .inl z
   .exact .inr ⟨z,by simp[frA],z2⟩
 | .sl i::as,v::vs,d::ds,b,av,h=>by
  obtain⟨h1,_,c⟩:=av;have up:b∈zd (as.map Ki) vs->(∃j∈ju (.sl i::as),σ[j]?=iO (iO (V.ref b)))\/(H0 b=iQ/\frA (.sl i::as)≠0/\H b≠iQ/\F b=iQ):=λh=>by
   rcases kX c h with⟨j,hj,e⟩|z;·exact .inl ⟨j,ac _ hj,e⟩
   .exact .inr z
  cases v with
  |ref a=>
   have h:b∈a::zd (as.map Ki) vs:=h;rcases ae.mp h with e|h;·subst e;exact .inl ⟨i,ae.mpr (.inl rfl),h1⟩
   .exact up h
  |_=>exact up h
theorem ut:∀{as:List AK}{vs:List V}{ds:List D},Rep K own F H σ ρ->(∀x,OA own σ x->H0 x≠iQ)->(∀i∈ju as,i∈own)->(ju as).Nodup->frA as<=1->ArgV K H0 F H σ as vs ds->(zd (as.map Ki) vs).Nodup
 |[],vs,ds,rp,h0,hs,nd,hf,av=>by cases vs <;> simp[zd]
 |a::as,[],ds,rp,h0,hs,nd,hf,av=>by cases a <;> exact av.elim
 |a::as,v::vs,[],rp,h0,hs,nd,hf,av=>by cases a <;> exact av.elim
 |.vl::as,v::vs,d::ds,rp,h0,hs,nd,hf,av=>by have q:=ut (as:=as) rp h0 hs nd hf av.2;cases v <;> exact q
 |.fr::as,v::vs,d::ds,rp,h0,hs,nd,hf,av=>by
  have g:frA as=0:=by simp only[frA]at hf;lia
  obtain⟨⟨a,rfl,l,C,o⟩,b⟩:=av;show(a::zd (as.map Ki) vs).Nodup;refine aP.mpr ⟨λz=>?_,ut rp h0 hs nd (by lia) b⟩;rcases kX b z with⟨i,hi,e⟩|⟨_,n,_⟩
  .exact h0 a ⟨i,hs i hi,e⟩ l
  .exact n g
 | .sl i::as,v::vs,d::ds,rp,h0,hs,nd,hf,av=>by
  obtain⟨h1,_,b⟩:=av;have h:∀j∈ju as,j∈own:=λj c=>hs j (ac _ c);have hi:i∈own:=hs i (ae.mpr (.inl rfl));obtain⟨k,f⟩:=aP.mp nd;have q:=ut rp h0 h f hf b;cases v with
  |ref a=>
   show(a::zd (as.map Ki) vs).Nodup;refine aP.mpr ⟨λz=>?_,q⟩;rcases kX b z with⟨j,c,e⟩|⟨n,_⟩
   .exact k (by rw[rp.dis i j a hi (h j c) h1 e];exact c)
   .exact h0 a ⟨i,hi,h1⟩ n
  |_=>exact q
theorem vZ:∀{as:List AK}{b:List D}{ρ:Sl}{i:Nat},i∉ju as->(zr as b ρ)[i]?=ρ[i]?
 |[],b,ρ,i,h=>by cases b <;> rfl
 |a::as,[],ρ,i,h=>by cases a <;> rfl
 |.vl::as,d::b,ρ,i,h=>vZ (as:=as) h
 |.fr::as,d::b,ρ,i,h=>vZ (as:=as) h
 |.sl j::as,d::b,ρ,i,h=>by
  have h':i≠j/\i∉ju as:=by simpa[ju]using h
  show(zr as b (ρ.set j (iO d)))[i]?=_;rw[vZ h'.2,aA (bJ h'.1)]
theorem zt:∀{as:List AK}{b:List D}{ρ:Sl},(zr as b ρ).length=ρ.length
 |[],b,ρ=>by cases b <;> rfl
 |a::as,[],ρ=>by cases a <;> rfl
 |.vl::as,d::b,ρ=>zt (as:=as)
 |.fr::as,d::b,ρ=>zt (as:=as)
 |.sl j::as,d::b,ρ=>by show(zr as b (ρ.set j (iO d))).length=_;rw[zt,fB]
theorem QX{F' H':Hp}:∀{as:List AK}{vs:List V}{ds b:List D}{ρ:Sl},(ju as).Nodup->(∀i∈ju as,i < ρ.length)->ArgV K H0 F H σ as vs ds->yp K F' H' (as.map Ki) vs b->∀i∈ju as,∃d a,(zr as b ρ)[i]?=iO (iO d)/\σ[i]?=iO (iO (V.ref a))/\F' a=iQ/\OwnIs K F' H' a d
 |[],vs,ds,b,ρ,nd,hl,av,o,i,hi=>by simp[ju]at hi
 |a::as,[],ds,b,ρ,nd,hl,av,o,i,hi=>by cases a <;> exact av.elim
 |a::as,v::vs,[],b,ρ,nd,hl,av,o,i,hi=>by cases a <;> exact av.elim
 |a::as,v::vs,d::ds,[],ρ,nd,hl,av,o,i,hi=>by cases a <;> exact o.elim
 |.vl::as,v::vs,d::ds,u::b,ρ,nd,hl,av,o,i,hi=>QX (as:=as) nd hl av.2 o i hi
 |.fr::as,v::vs,d::ds,u::b,ρ,nd,hl,av,o,i,hi=>QX (as:=as) nd hl av.2 o i hi
 |.sl j::as,v::vs,d::ds,u::b,ρ,nd,hl,av,o,i,hi=>by
  obtain⟨f,n⟩:=aP.mp nd;obtain⟨h1,_,c⟩:=av;obtain⟨⟨a,e,C,ow⟩,o2⟩:=o;subst e;rcases ae.mp hi with e|hi;·subst e;refine⟨u,a,?_,h1,C,ow⟩;show(zr as b (ρ.set i (iO u)))[i]?=_;rw[vZ f,aS (hl i (ae.mpr (.inl rfl)))]
  .exact QX (as:=as) (ρ:=ρ.set j (iO u)) n (λk h=>by rw[fB];exact hl k (ac _ h)) c o2 i hi
end
def ql(as:List AK)(G:jK)(fr:vY):qU:=λρ=>(fr ρ).bind λp=>match kJ as p.1 p.2 with
 |some ds=>match G ds with
  |.ok q=>.ok (q.1,zr as q.2 p.2)
  |.exc c o=>.exc c (zr as (o.map (·.getD .non)) p.2)
  |.bad=>.bad
 |none=>.bad
variable{mr:Mo}{f:Z7}{ps:List Str}
section
variable{G:jK}{fr:vY}
theorem UX{F' H':Hp}{b:List D}(r:Rep C.K own F H σ ρ)(m:∀x,OA own σ x->H0 x≠iQ)(hs:∀i∈ju as,i∈own)(nd:(ju as).Nodup)(k:ArgV C.K H0 F H σ as vs ds)(A:Same F' H')(c:Chg (LA (as.map Ki) vs) F H F' H')(o:yp C.K F' H' (as.map Ki) vs b):Rep C.K own F' H' σ (zr as b ρ):=by
 have pin:=QX (ρ:=ρ) nd (λi hi=>by obtain⟨d,e⟩:=r.opn i (hs i hi);exact(aD.mp e).1) k o;refine⟨A,by rw[zt];exact r.len,λi d hi e=>?_,λi d hi e=>?_,λi hi=>?_,r.dis⟩;·rw[vZ (λz=>hi (hs i z))]at e;obtain⟨v,h1,h2⟩:=r.val i d hi e;exact⟨v,h1,h2.mono c.grow⟩
 .by_cases q:i∈ju as;·obtain⟨d',a,e1,t,s,p⟩:=pin i q;rw[e1]at e;cases e;exact⟨a,t,s,p⟩
  .rw[vZ q]at e;obtain⟨a,h1,h2,f⟩:=r.ow i d hi e;have l:¬LA (as.map Ki) vs a:=λz=>by
    rcases kX k z with⟨j,h,w⟩|⟨n,_⟩
    .exact q (by rw[r.dis i j a hi (hs j h) h1 w];exact h)
    .exact m a ⟨i,hi,h1⟩ n
   refine⟨a,h1,?_,f.grow c.grow λo' g=>c.keep a o' g l⟩;cases g:F' a with
   |none=>rfl
   |some u=>
    rcases c.new a (by rw[g];simp)with z|z|z;·exact absurd h2 z
    .exact absurd z f.there
    .exact absurd z l
 .by_cases q:i∈ju as;·obtain⟨d',a,e1,_⟩:=pin i q;exact⟨d',e1⟩
  .rw[vZ q];exact r.opn i hi
theorem Gv{Q:VK}(l:∀i∈C.ox,i∈own)(hs:∀i∈ju as,i∈own)(nd:(ju as).Nodup)(u:frA as<=1)(h:tE C own mr (ql as G fr) σ H Q):tAr C own as fr σ H λvs H1=>spD C.K C.cv (as.map Ki) mr G (vs++[]) H1 Q C.E:=by
 obtain⟨F,ρ,s,h⟩:=h;have m:∀x,OA own σ x->H x≠none:=λx z=>(s.OA_there z).1;refine⟨F,ρ,s,?_⟩;unfold ql at h;cases k:fr ρ with
 | ok p=>
  rw[k]at h;obtain⟨ds,ρ1⟩:=p;intro vs F1 H1 a r g;rw[bg];have h1:Po C own mr σ F H (match kJ as ds ρ1 with|some ds=>(match G ds with|.ok q=>.ok (q.1,zr as q.2 ρ1)|.exc c o=>.exc c (zr as (o.map (·.getD .non)) ρ1)|.bad=>.bad)|none=>.bad) Q:=h;cases q:kJ as ds ρ1 with
  |none=>simp only[q]at h1;exact h1.elim
  | some f=>
   simp only[q]at h1;have lo:∀x,LA (as.map Ki) vs x->OA own σ x\/H x=none:=λx z=>by
    rcases kX g z with⟨i,hi,e⟩|⟨n,_⟩
    .exact .inl ⟨i,hs i hi,e⟩
    .exact .inr n
   refine⟨F1,f,a.sub,yr a hs g q,ut a m hs nd u g,?_⟩;cases j:G f with
   |ok p=>rw[j]at h1;obtain⟨d,b⟩:=p;exact λv F' H' A c o t=>h1 v F' H' (UX a m hs nd g A c o) (r.trans c lo) (MoIs.back (Ha:=H1) r t)
   |exc x o=>rw[j]at h1;exact λF' H' A c b=>h1 F' H' A ((UX a m hs nd g A c b).ioIs l) (r.trans c lo)
   |bad=>rw[j]at h1;exact h1.elim
 |exc c=>rw[k]at h;exact h
 |bad=>rw[k]at h;exact h.elim
theorem qfh{CX:CXT}{k:Nat}{fd:lN}{p pos:Pos}(F:FnOk X.prog X.w X.K X.mg X.base CX k f fd ps (spD C.K C.cv ms mr G))(hr:Room k X.A)(hg:Gl X x)(c:X.mg x=iO (.ref f))(a:keepIn X.K (.ref f)=iT)(j:Binds X.K fd ps [])(hx:yi CX X C.E)(m:PA X (e::es) (tAr C own as fr))(s:ms=as.map Ki:=by rfl)(hs:∀i∈ju as,i∈own:=by decide)(nd:(ju as).Nodup:=by decide)(d:frA as<=1:=by decide)(o:∀i∈C.ox,i∈own:=by exact wy rfl)(b:Dbg x:=by decide)(g:iX (e::es) X.env=(iS,Y9 e X.env)::iX es X.env:=by exact jD rfl)(l:(lq pos (iX es X.env)).any (·.1)=false:=by exact zo rfl):PE X (.Call (.Name x p) (e::es) [] pos) (tE C own mr (ql as G fr)):=by
 subst s;exact jy (qeP F hr hg c a j .nil hx m b g l) λσ H Q h=>Gv o hs nd d h
end
structure ItIs(K:Y8)(F:Hp)(J:It)(ds:List D):Prop where
 go:∀i H,i<ds.length->Same F H->J.go i H
 yld:∀i Fi H x H' d,ds[i]?=iO d->Same F Fi->Same Fi H->J.yld i H x H'->∃F',Chg No Fi H F' H'/\Same F' H'/\Is K F' x d
 stop:∀i H,ds.length<=i->Same F H->J.stop i H
def PoI(C:Ct)(own:List Nat)(σ:St)(F H:Hp)(r:Out (List D×Sl))(R:It->Hp->Prop):Prop:=match r with
 |.ok (ds,ρ')=>∀J F' H',Rep C.K own F' H' σ ρ'->Chg (OA own σ) F H F' H'->ItIs C.K F' J ds->R J H'
 |.exc c ρ'=>∀F' H',Same F' H'->qbW C.K C.ox F' H' σ ρ'->Chg (OA own σ) F H F' H'->C.E (C.cv c) iQ H'
 |.bad=>False
def tIt(C:Ct)(own:List Nat)(f:vY):TI:=λσ H R=>∃F ρ,Rep C.K own F H σ ρ/\PoI C own σ F H (f ρ) R
noncomputable def zI:D->Out (List D)
 |.lst xs=>.ok xs
 |.tup xs=>.ok xs
 |_=>.bad
def qlP(f:qU):vY:=λρ=>(f ρ).bind λp=>(zI p.1).bind λds=>.ok (ds,p.2)
theorem PoI.bindV{m:Mo}{o:KB}{k:D×Sl->Out (List D×Sl)}{Q:It->Hp->Prop}{R:VK}(hp:PoI C own σ F H (o.bind k) Q)(h:∀v F1 H1 d ρ1,Rep C.K own F1 H1 σ ρ1->Chg (OA own σ) F H F1 H1->MoIs C.K m H F1 H1 v d->PoI C own σ F H (k (d,ρ1)) Q->R v H1):Po C own m σ F H o R:=by
 cases o with
 |ok p=>exact λv F1 H1 a c b=>h v F1 H1 p.1 p.2 a c b hp
 |exc x=>exact hp
 |bad=>exact hp.elim
variable{tg iter:Z4}{xs:List V}{gs:List D->Sl->Out Sl}
section
variable{f:qU}
theorem Gw{t t':TI}(h:PI X tg e t)(i:∀σ H Q,t' σ H Q->t σ H Q):PI X tg e t':=⟨λZ9 s σ H R I w=>h Z9 s σ H R I (i σ H R w)⟩
theorem qhB(p:SqL K F a xs)(t:IsL K F xs ds):ItIs K F (Itl K a) ds where
 go:=λi H hi s=>by
  have hx:i<xs.length:=by rw[t.length];exact hi
  exact⟨xs,xs[i],s.seq p,by simp[hx]⟩
 yld:=λi Fi H x H' d e s1 s2 y=>by obtain⟨rfl,y⟩:=y;obtain⟨v,h1,h2⟩:=t.getD e;have q:=y xs ((s1.trans s2).seq p);rw[h1]at q;cases q;exact⟨Fi,.refl,s2,h2.mono s1⟩
 stop:=λi H hi s=>⟨xs,s.seq p,by rw[t.length];exact hi⟩
theorem qhC(p:SqT K F a xs)(t:IsL K F xs ds):ItIs K F (Itt K a) ds where
 go:=λi H hi s=>by
  have hx:i<xs.length:=by rw[t.length];exact hi
  exact⟨xs,xs[i],qW s p,by simp[hx]⟩
 yld:=λi Fi H x H' d e s1 s2 y=>by obtain⟨rfl,y⟩:=y;obtain⟨v,h1,h2⟩:=t.getD e;have q:=y xs (qW (s1.trans s2) p);rw[h1]at q;cases q;exact⟨Fi,.refl,s2,h2.mono s1⟩
 stop:=λi H hi s=>⟨xs,qW s p,by rw[t.length];exact hi⟩
noncomputable def yt(lo:Int)(n:Nat):List D:=(aH n).map λk=>.int (lo+(k:Nat))
theorem qdM{lo:Int}:ItIs K F (Itr lo n) (yt lo n) where
 go:=λi H hi _=>by
  have:i<n:=by simpa[yt]using hi
  exact this
 yld:=λi Fi H x H' d e s1 s2 y=>by
  obtain⟨rfl,rfl⟩:=y;have e:d=.int (lo+i):=by
   unfold yt at e;rw[aG]at e;cases q:(aH n)[i]? with
   |none=>rw[q]at e;cases e
   |some k=>
    rw[q]at e;have h:k=i:=by have:=aD.mp q;obtain⟨_,z⟩:=this;simpa using z.symm
    subst h;exact(aL.inj e).symm
  subst e;exact⟨Fi,.refl,s2,.int _⟩
 stop:=λi H hi _=>by
  have:n<=i:=by simpa[yt]using hi
  exact this
def jU(f:qU):vY:=λρ=>(f ρ).bind λp=>match p.1 with
 |.int j=>if -(2 ^ 62)<=j/\j<2 ^ 62 then .ok (yt 0 j.toNat,p.2)else .bad
 |_=>.bad
theorem vL{p:Pos}(hg:Gl X "range")(b:X.mg "range"=iQ)(h:PE X e (tE C own m f))(hs:iX [e] X.env=[(iS,Y9 e X.env)]:=by exact qD rfl):PI X tg (.Call (.Name "range" p) [e] [] pos) (tIt C own (jU f)):=by
 refine Gw (ZL hg b (qI h jq hs) hs) λσ H R ⟨F,ρ,r,h⟩=>⟨F,ρ,r,PoI.bindV h λv F1 H1 d ρ1 a k c h1=>?_⟩
 cases d with
 |int j=>
  obtain rfl:=c.top.int;have h1:PoI C own σ F H (if -(2 ^ 62)<=j/\j<2 ^ 62 then .ok (yt 0 j.toNat,ρ1)else .bad) R:=h1;by_cases z:-(2 ^ 62)<=j/\j<2 ^ 62;·rw[Aa z]at h1;exact⟨j,rfl,z.1,z.2,h1 _ F1 H1 a k qdM⟩
  .rw[Ab z]at h1;exact h1.elim
 |_=>exact h1.elim
def tGd(C:Ct)(own:List Nat)(g:D->Sl->Out Sl):TG:=λv σ H Q=>∃F ρ d,Rep C.K own F H σ ρ/\Is C.K F v d/\∃ρ',g d ρ=.ok ρ'/\∀σ',Rep C.K own F H σ' ρ'->(∀b,OA own σ' b->OA own σ b)->(∀i∈C.io,σ'[i]?=σ[i]?)->Q σ' H
def qjv(C:Ct)(own:List Nat)(g:List D->Sl->Out Sl):TGs:=λvs σ H Q=>∃F ρ ds,Rep C.K own F H σ ρ/\IsL C.K F vs ds/\∃ρ',g ds ρ=.ok ρ'/\∀σ',Rep C.K own F H σ' ρ'->(∀b,OA own σ' b->OA own σ b)->(∀i∈C.io,σ'[i]?=σ[i]?)->Q σ' H
theorem qhD{t t':TG}(h:PG X e t)(i:∀v σ H Q,t' v σ H Q->t v σ H Q):PG X e t':=⟨λZ9 s σ H v u Q I r w=>h Z9 s σ H v u Q I r (i v σ H Q w)⟩
theorem qdN{t t':TGs}(h:PGs X es t)(i:∀v σ H Q,t' v σ H Q->t v σ H Q):PGs X es t':=⟨λZ9 s σ H v u Q I r w=>h Z9 s σ H v u Q I r (i v σ H Q w)⟩
noncomputable def gNm(i:Nat):D->Sl->Out Sl:=λd ρ=>if i < ρ.length then .ok (ρ.set i (iO d))else .bad
theorem Qf{own:List Nat}(h:i∉own):vw own [i]=own:=by unfold vw;rw[List.filter_eq_self];intro j D;simp only[aw,decide_eq_true_eq];exact λz=>h (by rw[<-z];exact D)
theorem UY(c:X.N.Nodup)(hi:X.N[i]?=iO x)(hx:Loc X.env.scope x)(l:i∉own:=by decide)(o:i∉C.io:=by exact yk rfl)(h:X.fn x=iT\/X.env.scope.names.lookup x=iO .local:=by first|exact .inl rfl|exact .inr rfl):PG X (.Name x pos) (tGd C own (gNm i)):=by
 refine qhD (qeK c hi hx h) λv σ H Q a=>?_;obtain⟨F,ρ,d,r,is,ρ',e,k⟩:=a;unfold gNm at e;by_cases z:i < ρ.length
 .rw[Aa z]at e;cases e;have r2:=r.put z is;rw[Qf l]at r2;refine k _ r2 (λb q=>?_) λj D=>aA λq=>o (by rw[q];exact D);have g:OA (vw own [i]) (σ.set i (iO v)) b:=by rw[Qf l];exact q
  exact g.put
 .rw[Ab z]at e;cases e
noncomputable def jL:List D->Sl->Out Sl
 |[],ρ=>.ok ρ
 |_::_,_=>.bad
def qw(g:D->Sl->Out Sl)(gs:List D->Sl->Out Sl):List D->Sl->Out Sl
 |d::ds,ρ=>(g d ρ).bind λρ1=>gs ds ρ1
 |[],_=>.bad
theorem kz:PGs X [] (qjv C own jL):=by
 refine qdN qeL λvs σ H Q a=>?_;obtain⟨F,ρ,ds,r,is,ρ',e,k⟩:=a;cases is with
 |nil=>cases e;exact⟨rfl,k σ r (λ_ z=>z) λ_ _=>rfl⟩
 |cons _ _=>cases e
theorem qL{g:D->Sl->Out Sl}(h1:PG X e (tGd C own g))(h2:PGs X es (qjv C own gs))(hs:(lH (e::es) X.env).map (·.2)=assign e X.env::(lH es X.env).map (·.2):=by rfl):PGs X (e::es) (qjv C own (qw g gs)):=by
 refine qdN (qb4 h1 h2 hs) λvs σ H Q n=>?_;obtain⟨F,ρ,ds,p,is,ρ',e,k⟩:=n;cases is with
 |nil=>cases e
 |@cons v d vs ds a t=>
  have e:(g d ρ).bind (λρ1=>gs ds ρ1)=.ok ρ':=e;cases q:g d ρ with
  |ok ρ1=>rw[q]at e;exact⟨v,vs,rfl,F,ρ,d,p,a,ρ1,q,λσ1 h j m=>⟨F,ρ1,ds,h,t,ρ',e,λf r o l=>k f r (λb z=>j b (o b z)) λi hi=>(l i hi).trans (m i hi)⟩⟩
  |exc c=>rw[q]at e;cases e
  |bad=>rw[q]at e;cases e
noncomputable def jM(n:Nat)(gs:List D->Sl->Out Sl):D->Sl->Out Sl
 |.tup ds,ρ=>if ds.length=n then gs ds ρ else .bad
 |_,_=>.bad
theorem vy{k:Nat}(g:C.K=X.K)(f:X.calm=iT)(h:PGs X es (qjv C own gs))(hn:(lH es X.env).length=n:=by rfl)(c:(lH es X.env).findIdx? (·.1)=none:=by rfl):PG X (.Tuple es k pos) (tGd C own (jM n gs)):=by
 refine qhD (qg5 f h hn c) λv σ H Q b=>?_;obtain⟨F,ρ,d,r,is,ρ',e,k⟩:=b;cases is with
 |@tup a xs ds p t=>
  have e:(if ds.length=n then gs ds ρ else .bad)=.ok ρ':=e;by_cases z:ds.length=n;·rw[Aa z]at e;exact⟨a,xs,rfl,by rw[<-g];exact qW r.sub p,by rw[t.length];exact z,F,ρ,ds,r,t,ρ',e,k⟩
  .rw[Ab z]at e;cases e
 |_=>cases e
def qlQ(fe:qU)(g:D->Sl->Out Sl):qK:=λρ=>(fe ρ).bind λp=>match g p.1 p.2 with
 |.ok ρ'=>.ok (.nx,ρ')
 |_=>.bad
def jB(g:D->Sl->Out Sl)(fb:qK):List D->qK
 |[],ρ=>.ok (.nx,ρ)
 |d::ds,ρ=>(g d ρ).plain.bind λρ1=>(fb ρ1).bind λp=>match p.1 with
  |.nx=>jB g fb ds p.2
  |.ct=>jB g fb ds p.2
  |.bk=>.ok (.nx,p.2)
  |.rt v=>.ok (.rt v,p.2)
def vz(fi:vY)(g:D->Sl->Out Sl)(fb:qK):qK:=λρ=>(fi ρ).bind λp=>jB g fb p.1 p.2
theorem ja{body:List Z3}{fi:vY}{g:D->Sl->Out Sl}{fb:qK}(hp:PassesOwn (Z6 X.prog X.w) X.A X.env X.xe)(T:X.calm=iT)(hi:PI X tg iter (tIt C own fi))(hg:PG X tg (tGd C own g))(U:PSs X body (tSt { C with ol:=own } own own fb))(hs:∀x,lA iter X.env x=pure x:=by intro _;rfl):PS X (.For tg iter body [] pos) (tSt C own own (vz fi g fb)):=by
 refine KK (qg7 hp T hi hg U hs) λD σ H ⟨F,ρ,Q,h⟩=>⟨F,ρ,Q,?_⟩
 unfold vz at h;cases I:fi ρ with
 |exc c=>rw[I]at h;exact h
 |bad=>rw[I]at h;exact h.elim
 | ok p=>
  rw[I]at h;obtain⟨ds,ρ1⟩:=p;intro J F1 H1 u P it;have h:PoS C own own σ F H (jB g fb ds ρ1) D:=h;refine⟨λi m σ' H'=>m=ds.length - i/\i<=ds.length/\∃F' ρ',Nx C own own σ F H ρ' σ' F' H'/\Same F1 F'/\PoS C own own σ' F' H' (jB g fb (ds.drop i) ρ') D,⟨ds.length,by simp,aU _,F1,ρ1,.ofE u P,Same.refl _,h.shift (.ofE u P)⟩,?_⟩;rintro i m σ' H' ⟨rfl,S,F',ρ',nx,gr,po⟩;by_cases t:i<ds.length
  .have hd:ds.drop i=ds[i]::ds.drop (i+1):=List.drop_eq_getElem_cons t;rw[hd]at po;have po:PoS C own own σ' F' H' ((g ds[i] ρ').plain.bind λρ1=>(fb ρ1).bind λp=>match p.1 with|.nx=>jB g fb (ds.drop (i+1)) p.2|.ct=>jB g fb (ds.drop (i+1)) p.2|.bk=>.ok (.nx,p.2)|.rt v=>.ok (.rt v,p.2)) D:=po;refine .inr ⟨it.go i H' t (gr.trans nx.rep.sub),λl H2=>ds.length - (i+1)=ds.length - (i+1)/\i+1<=ds.length/\∃F' ρ',Nx C own own σ F H ρ' l F' H2/\Same F1 F'/\PoS C own own l F' H2 (jB g fb (ds.drop (i+1)) ρ') D,λl H2 q=>⟨ds.length - (i+1),by omega,q⟩,λx H2 y=>?_⟩;obtain⟨o,c2,s2,N⟩:=it.yld i F' H' x H2 ds[i] (by simp[t]) gr nx.rep.sub y;cases E:g ds[i] ρ' with
   |exc c=>rw[E]at po;exact po.elim
   |bad=>rw[E]at po;exact po.elim
   | ok ρ2=>
    rw[E]at po;refine⟨o,ρ',ds[i],nx.rep.grow c2 s2,N,ρ2,E,λj r K O=>⟨o,ρ2,r,?_⟩⟩;have M:Nx C own own σ' F' H' ρ2 j o H2:=⟨r,c2.ofNo,λb z=>.inl (K b z),O⟩
    have a:=PoS.shift (show PoS C own own σ' F' H' ((fb ρ2).bind λp=>match p.1 with|.nx=>jB g fb (ds.drop (i+1)) p.2|.ct=>jB g fb (ds.drop (i+1)) p.2|.bk=>.ok (.nx,p.2)|.rt v=>.ok (.rt v,p.2)) D from po) M;have up:∀{B f L k},Nx { C with ol:=own } own own j o H2 B f L k->Nx C own own j o H2 B f L k:=λz=>⟨z.rep,z.chg,z.oa,z.io⟩
    cases G:fb ρ2 with
    |exc c=>rw[G]at a;exact a
    |bad=>rw[G]at a;exact a.elim
    |ok p=>
     rw[G]at a;obtain⟨V,B⟩:=p;cases V with
     |nx=>exact λf L k n=>⟨rfl,t,L,B,(nx.then M).then (up n),(gr.trans c2.grow).trans n.chg.grow,PoS.shift (show PoS C own own j o H2 (jB g fb (ds.drop (i+1)) B) D from a) (up n)⟩
     |ct=>exact λf L k n=>⟨rfl,t,L,B,(nx.then M).then (up n),(gr.trans c2.grow).trans n.chg.grow,PoS.shift (show PoS C own own j o H2 (jB g fb (ds.drop (i+1)) B) D from a) (up n)⟩
     |bk=>exact λf L k n=>a f L k (up n)
     |rt d=>exact λv f L k s io c e R=>a v f L k s io c e R
  .have e:i=ds.length:=by omega
   subst e;rw[List.drop_length]at po;exact .inl ⟨it.stop _ H' (ap _) (gr.trans nx.rep.sub),po σ' F' H' (.refl nx.rep)⟩
def jf(ft:uA)(fb:qK):Nat->qK
 | 0,_=>.bad
 |n+1,ρ=>(ft ρ).bind λq=>if q.1=iT then(fb q.2).bind λp=>match p.1 with
  |.nx=>jf ft fb n p.2
  |.ct=>jf ft fb n p.2
  |.bk=>.ok (.nx,p.2)
  |.rt v=>.ok (.rt v,p.2)
  else .ok (.nx,q.2)
theorem zJ{body:List Z3}{ft:uA}{fb:qK}(n:Nat)(hp:PassesOwn (Z6 X.prog X.w) X.A X.env X.xe)(ht:PT X t (tT C own ft))(E:PSs X body (tSt { C with ol:=own } own own fb)):PS X (.While t body [] pos) (tSt C own own (jf ft fb n)):=by
 refine KK (qb5 hp ht E) λD σ H u=>?_;obtain⟨F,ρ,x,h⟩:=u;refine⟨λm σ' H'=>∃F' ρ',Rep C.K own F' H' σ' ρ'/\PoS C own own σ' F' H' (jf ft fb m ρ') D,⟨n,F,ρ,x,h⟩,?_⟩;rintro m σ1 H1 ⟨F1,ρ1,j,po⟩;refine⟨F1,ρ1,j,?_⟩;cases m with
 |zero=>exact po.elim
 | succ m=>
  have po:PoS C own own σ1 F1 H1 ((ft ρ1).bind λq=>if q.1=iT then(fb q.2).bind λp=>match p.1 with|.nx=>jf ft fb m p.2|.ct=>jf ft fb m p.2|.bk=>.ok (.nx,p.2)|.rt v=>.ok (.rt v,p.2)else .ok (.nx,q.2)) D:=po;refine PoS.bindT po λi H2 k ρ2 r c2 h2=>?_;cases k with
  |false=>exact h2 σ1 i H2 (.refl r)
  | true=>
   refine⟨λb o=>∃F' ρ',Rep C.K own F' o b ρ'/\PoS C own own b F' o (jf ft fb m ρ') D,λb o q=>⟨m,by omega,q⟩,i,ρ2,r,?_⟩;have h2:PoS C own own σ1 i H2 ((fb ρ2).bind λp=>match p.1 with|.nx=>jf ft fb m p.2|.ct=>jf ft fb m p.2|.bk=>.ok (.nx,p.2)|.rt v=>.ok (.rt v,p.2)) D:=h2;have up:∀{B f L a},Nx { C with ol:=own } own own σ1 i H2 B f L a->Nx C own own σ1 i H2 B f L a:=λz=>⟨z.rep,z.chg,z.oa,z.io⟩
   cases l:fb ρ2 with
   |exc c=>rw[l]at h2;exact h2
   |bad=>rw[l]at h2;exact h2.elim
   |ok p=>
    rw[l]at h2;obtain⟨G,B⟩:=p;cases G with
    |nx=>exact λf L a g=>⟨L,B,g.rep,PoS.shift (show PoS C own own σ1 i H2 (jf ft fb m B) D from h2) (up g)⟩
    |ct=>exact λf L a g=>⟨L,B,g.rep,PoS.shift (show PoS C own own σ1 i H2 (jf ft fb m B) D from h2) (up g)⟩
    |bk=>exact λf L a g=>h2 f L a (up g)
    |rt d=>exact λv f L a s io c e y=>h2 v f L a s io c e y
end
noncomputable def Kj(cells:List (Str×Z7)):List (Str×lF)->List (Str×Z7)->List (Str×Z7)
 |[],acc=>acc
 |(n,k)::r,acc=>if (k == .free)=iT then Kj cells r ((n,(cells.lookup n).getD 0)::acc)else Kj cells r acc
variable{env:Env}
theorem wI:∀(names:List (Str×lF))(acc:List (Str×Z7)),(∀x∈names,x.2=.free->∃c,env.cells.lookup x.1=iO c) ->(forIn names acc λ(x:Str×lF)(cs:List (Str×Z7))=>if (x.2 == bL)=iT then(do let a <-cellOf env x.1;pure (cI ((x.1,a)::cs)))else pure (cI cs):Sem (List (Str×Z7)))=pure (Kj env.cells names acc)
 |[],acc,_=>rfl
 | (n,k)::r,acc,h=>by
  rw[hZ];by_cases q:(k == bL)=iT
  .obtain⟨c,d⟩:=h (n,k) ai (by simpa using q);have e:cellOf env n=pure c:=by unfold cellOf;rw[d]
   simp only[q,if_true,e];have j:=wI r ((n,c)::acc) (λx hx=>h x (ac _ hx));simp only[Kj,q,if_true,d,Option.getD_some];exact j
  .simp only[q,if_false,Kj];exact wI r acc (λx hx=>h x (ac _ hx))
variable{scope:mf}
theorem Qg(h:∀x∈scope.names,x.2=.free->∃c,env.cells.lookup x.1=iO c):closureFor scope env=pure (Kj env.cells scope.names []):=by have:=wI scope.names [] h;unfold closureFor;simp only[bind_pure];exact this
variable{cells:List (Str×Z7)}
theorem uX:∀{names:List (Str×lF)}{acc:List (Str×Z7)}{x:Str}{c:Z7},(∀y∈names,y.2=.free->∃c,cells.lookup y.1=iO c)->(Kj cells names acc).lookup x=iO c->cells.lookup x=iO c\/acc.lookup x=iO c
 |[],acc,x,c,_,h=>.inr h
 | (n,k)::r,acc,x,c,hf,h=>by
  unfold Kj at h;by_cases q:(k == bL)=iT
  .rw[Aa q]at h;obtain⟨T,d⟩:=hf (n,k) ai (by simpa using q);rcases uX (λy D=>hf y (ac _ D)) h with z|z;·exact .inl z
   .rw[cA]at z;have d:cells.lookup n=iO T:=d;by_cases e:(x == n)=iT
    .rw[e]at z;simp only[d,Option.getD_some]at z;have:x=n:=by simpa using e
     subst this;rw[d];exact .inl z
    .have e:(x == n)=false:=by simpa using e
     rw[e]at z;exact .inr z
  .rw[Ab q]at h;exact uX (λy D=>hf y (ac _ D)) h
theorem QY:∀{names:List (Str×lF)}{acc:List (Str×Z7)}{x:Str},(∃c,acc.lookup x=iO c)->∃c,(Kj cells names acc).lookup x=iO c
 |[],_,_,h=>h
 | (n,k)::r,acc,x,h=>by
  unfold Kj;by_cases q:(k == bL)=iT
  .rw[Aa q];refine QY ?_;obtain⟨c,d⟩:=h;rw[cA];by_cases e:(x == n)=iT;·rw[e];exact⟨_,rfl⟩
   .have e:(x == n)=false:=by simpa using e
    rw[e];exact⟨c,d⟩
  .rw[Ab q];exact QY h
theorem zu:∀{names:List (Str×lF)}{acc:List (Str×Z7)}{x:Str},(x,bL)∈names->∃c,(Kj cells names acc).lookup x=iO c
 | (n,k)::r,acc,x,h=>by
  unfold Kj;rcases ae.mp h with e|h
  .cases e;rw[Aa (by rfl)];refine QY ?_;rw[cA,beq_self_eq_true];exact⟨_,rfl⟩
  .by_cases q:(k == bL)=iT;·rw[Aa q];exact zu h
   .rw[Ab q];exact zu h
def jx(X:Cx)(scope:mf)(N:List Str)(fp:List Z7)(L:Z7)(s:iV)(H:Hp):Cx:=
 { X with N:=N,s₀:=s,H₀:=H,env:=compEnvC scope (Kj X.env.cells scope.names []) L X.env,outer:=X.stack,stack:=X.stack,ex:=fp,fn:=λ_=>iS,pn:=[],xe:=λ_ _=>False }
structure ScOk(X:Cx)(scope:mf):Prop where
 kind:scope.kind=.function
 nocell:∀y∈scope.names,y.2≠.cell
 names:∀y∈scope.names,y.2=.local->scope.names.lookup y.1=iO .local
 free:∀y∈scope.names,y.2=.free->X.env.kindOf y.1=iO .cell\/X.env.kindOf y.1=iO .free
 frl:∀y∈scope.names,y.2=.free->scope.names.lookup y.1=iO .free
theorem uu{a:α}:∀{l:List (Str×α)},l.lookup x=iO a->(x,a)∈l
 |[],h=>by simp at h
 | (n,k)::r,h=>by
  rw[cA]at h;by_cases e:(x == n)=iT
  .rw[e]at h;have h:iO k=iO a:=h;cases h;have:x=n:=by simpa using e
   subst this;exact ai
  .have e:(x == n)=false:=by simpa using e
   rw[e]at h;exact ac _ (uu h)
theorem xw{k:lF}(h:(relabel scope env).names.lookup x=iO k)(a:k=.cell\/k=.free)(hn:∀y∈scope.names,y.2≠.cell):(x,bL)∈scope.names:=by
 have m:=uu h;obtain⟨⟨n,k'⟩,c,e⟩:=aq.mp m;dsimp only at e;by_cases q:(k' == bL&&env.scope.kind == .function&&env.kindOf n == iO .cell)=iT
 .rw[Aa q]at e;cases e;have:k'=.free:=by rw[aQ,aQ]at q;simpa using q.1.1
  subst this;exact c
 .rw[Ab q]at e;cases e;rcases a with rfl|rfl;·exact absurd rfl (hn _ c)
  .exact c
theorem KM(h:Vis (relabel scope env) x):∃k,(x,k)∈scope.names:=by
 have go:∀{k:lF},(relabel scope env).names.lookup x=iO k->∃k,(x,k)∈scope.names:=λ{k} h=>by
  obtain⟨⟨n,k'⟩,c,e⟩:=aq.mp (uu h);dsimp only at e;by_cases q:(k' == bL&&env.scope.kind == .function&&env.kindOf n == iO .cell)=iT;·rw[Aa q]at e;cases e;exact⟨_,c⟩
  .rw[Ab q]at e;cases e;exact⟨_,c⟩
 rcases h with h|h|h <;> exact go h
variable{Z9:Pns}{σc:St}{s s':iV}{fp:List Z7}{h':Z5}
section
theorem zK(I:Inv X Z9 σ H s)(S:ScOk X scope):∀y∈scope.names,y.2=.free->∃c,X.env.cells.lookup y.1=iO c:=λy D e=>I.ok.has y.1 (S.free y D e)
theorem qcy(I:Inv X Z9 σ H s)(S:ScOk X scope)(K:∀b∈fp,Wu X Z9 H b)(U:∀b∈fp,b<s.heap.objs.size)(D:h'.Ns s.heap.objs.size (λ_=>iQ))(A:∀b o,s.heap.get? b=iO o->h'.get? b=iO o)(hl:σc.length=N.length)(C:∀(j:Nat)(x:Str)(v:V),N[j]?=iO x->σc[j]?=iO (iO v)->(∃k,(x,k)∈scope.names)->∃i:Nat,X.N[i]?=iO x/\σ[i]?=iO (iO v)/\Vis X.env.scope x/\(x,bL)∈scope.names){t:Nat} :
  Inv (jx X scope N fp s.heap.objs.size s H) [] σc H { s with heap:=h',toks:=t }:=by
 have J:=zK I S;have cl:∀x c,(Kj X.env.cells scope.names []).lookup x=iO c->X.env.cells.lookup x=iO c:=λx c e=>(uX J e).resolve_right (by simp);have B:∀b∈fp,b∉frs X.stack:=λb g z=>by
  obtain⟨f0,f1,f2,_⟩:=K b g;rcases ae.mp (I.stkSub b z)with e|e;·exact f1 e
  .exact f2 e
 refine⟨⟨I.ok.mod,?_,I.ok.glob,I.ok.blt,ap _,λx y c h1 h2=>I.ok.inj x y c (cl x c h1) (cl y c h2),λx hx=>?_,λx c h=>absurd h (by show ¬(iS=iT);exact bQ),I.ok.hd,I.ok.frames,.inl rfl,λb g=>⟨aC (U b g),λx c e z=>?_⟩,I.bs,be I.ok.bsz I.sz,λb o e g=>?_,B,I.stack,I.stkFree⟩,rfl,I.bare,Un.kept A,⟨_,D,λj x v e1 l R=>?_⟩,λx c e=>?_,I.hok.fresh (ap _),λx c e=>I.freeC x c (cl x c e),λp hp=>absurd (show p∈([]:Pns)from hp) (by simp),I.hok.kept A,hl⟩;·exact S.kind
 .refine zu ?_;rcases hx with hx|hx;·exact xw hx (.inl rfl) S.nocell
  .exact xw hx (.inr rfl) S.nocell
 .exact(K b g).2.2.2.2.1 x c (cl x c e) z
 .rcases(K b g).2.2.2.1 with z|z;·exact I.ok.noex b o e z
  .have E:=ax e;exact absurd (aI E (be I.ok.bsz z)) (bF _)
 .obtain⟨i,g1,Z,Y,M⟩:=C j x v e1 l (KM R);obtain⟨m,hn,G⟩:=I.loc;obtain⟨u,r,w⟩:=G i x v g1 Z Y;refine⟨u,r,?_⟩;obtain⟨O,f⟩:=zu (cells:=X.env.cells) (acc:=[]) M;have L:=cl x O f;have kd:(jx X scope N fp s.heap.objs.size s H).env.kindOf x=iO .cell\/(jx X scope N fp s.heap.objs.size s H).env.kindOf x=iO .free\/(jx X scope N fp s.heap.objs.size s H).env.kindOf x=iO .local:=by
   rcases R with z|z|z;·exact .inr (.inr z)
   .exact .inl z
   .exact .inr (.inl z)
  rcases w with⟨k,_⟩|⟨k,c,Q,z⟩
  .rcases S.free _ M rfl with q|q;·have q:X.env.kindOf x=iO .cell:=q;rw[k]at q;cases q
   .have q:X.env.kindOf x=iO .free:=q;rw[k]at q;cases q
  .rw[L]at Q;cases Q;obtain⟨oc,d,a⟩:=z;rcases kd with q|q|q;·exact .inr ⟨.inl q,O,f,⟨oc,A _ _ d,a⟩⟩
   .exact .inr ⟨.inr q,O,f,⟨oc,A _ _ d,a⟩⟩
   .refine absurd q ?_;intro q;have T:=uu (show(relabel scope X.env).names.lookup x=iO .local from q);obtain⟨⟨n,k'⟩,W,e⟩:=aq.mp T;dsimp only at e;by_cases P:(k' == bL&&X.env.scope.kind == .function&&X.env.kindOf n == iO .cell)=iT;·rw[Aa P]at e;cases e
    .rw[Ab P]at e;cases e;have e1:=S.names _ W rfl;have l:=S.frl _ M rfl;have e1:scope.names.lookup x=iO .local:=e1;have l:scope.names.lookup x=iO .free:=l;rw[e1]at l;cases l
 .obtain⟨v,oc,d,a⟩:=I.cell x c (cl x c e);exact⟨v,oc,A _ _ d,a⟩
theorem qcz{H1:Hp}{s1:iV}{L:Z7}(I:Inv X Z9 σ H s)(h:∀b∈fp,Wu X Z9 H b)(J:Inv (jx X scope N fp s.heap.objs.size s H) [] σc H' s')(A:bx s.heap.objs.size s'.heap h'):Inv X Z9 σ H' { s' with heap:=h' }:=by
 have a:H' s.heap.objs.size=none:=J.free;have ne:∀b o,s.heap.get? b=iO o->b≠s.heap.objs.size:=λb o e=>aC (ax e);have U:Un (frs X.stack) fp H H' s.heap s'.heap:=J.base;refine I.call' (s':={ s' with heap:=h' }) (ch:=fp) J.os ⟨λb o e n h1 h2=>(A.2 b (ne b o e)).trans (U.keep b o e n h1 h2),λb o e n h1 h2=>?_,U.free,λb o e h2=>?_,U.tups,U.frzs,U.tbls⟩ (λb u e=>?_) J.bare λb f=>?_;·obtain⟨sl,q⟩:=U.slot b o e n h1 h2;exact⟨sl,(A.2 b (ne b o e)).trans q⟩
 .obtain⟨o',q⟩:=U.there b o e h2;exact⟨o',(A.2 b (ne b o e)).trans q⟩
 .refine(J.hok b u e).stay (λc w d q=>(A.2 c ?_).trans q) (λ_ q=>q) λ_ _ q=>q;rintro rfl;rcases d with z|z;·rw[<-z,a]at e;cases e
  .rw[a]at z;cases z
 .obtain⟨f0,f1,f2,t,f4,g⟩:=h b f;exact⟨t,f1,f4,g⟩
end
set_option tactic.hygienic true in
theorem QZ{prog:iZ}{w:i3}{A:j4}{R:Result->iV->Prop}{s:iV}{elt target iter:Z4}{ifs:List Z4}{scope:mf}{pos:Pos}{it acc:iR}{env:Env}(I:Nat->iV->Prop)
  (l:∀ n s,I n s->iW (Z6 prog w) A (lR it) (λr d=>match r with
   |none=>R (.ok .next) d
   | some v=>iW (Z6 prog w) A (mq target it v) (λ_ e=>iW (Z6 prog w) A (assign target env v) (λ_ i=>
     iW (Z6 prog w) A (forIn ifs iT λc r=>if r=iT then do let ok <-isTrue c env (Y9 c env);pure (cI ok)else pure (cI r)) (λok b=>
      if ok=iT then iW (Z6 prog w) A (Y9 elt env) (λx g=>
       iW (Z6 prog w) A (call (.builtin "list.append") [acc,x]) (λ_ f=>∃m,m<n/\I m f) (λ_ _=>False) g) (λ_ _=>False) b
      else ∃m,m<n/\I m b) (λ_ _=>False) i) (λ_ _=>False) e) (λ_ _=>False) d) (λ_ _=>False) s)
  (n:Nat) (h:I n s):lV (Z6 prog w) A (.compLoop (.ListComp elt [⟨target,iter,ifs,0⟩] scope pos) 0 it acc env) R s:=by
 have no:∀{α:Type}{t:Sem α}{Q y:α->iV->Prop}{E:iR->iV->Prop}{s:iV},iW (Z6 prog w) A t Q (λ_ _=>False) s->(∀a s,Q a s->y a s)->iW (Z6 prog w) A t y E s:=λh k=>lM h k λ_ _ z=>z.elim;refine codeAny_loop rfl I (λn s B=>?_) n h;show iW _ A ((compTurn (.ListComp elt [⟨target,iter,ifs,0⟩] scope pos) 0 it acc env).onRaise (λx=>do noteFrame x env;theTreesLotGoes x)) _ _ s;refine wpAny_noted ?_;rw[compTurn_list];refine iP (wpAny_standAt (iP (no (l n s B) λr d h₁=>?_)));cases r with
 |none=>exact iU h₁
 |some v=>
  refine iP (no h₁ λ_ e o=>iP (no o λ_ i u=>iP (no u λok b j=>?_)));cases ok with
  |false=>exact iU ⟨rfl,j⟩
  |true=>exact iP (iP (no j λx g q=>iP (no q λ_ f p=>iU (iU ⟨rfl,p⟩))))
structure PTs(Y:Cx)(ifs:List Z4)(t:TT):Prop where
 run:∀(Z9:Pns)(s:iV)(σ:St)(H:Hp)(Q:Bool->Hp->Prop),Inv Y Z9 σ H s->t σ H Q ->iW (Z6 Y.prog Y.w) Y.A (forIn ifs iT λc r=>if r=iT then do let ok <-isTrue c Y.env (Y9 c Y.env);pure (cI ok)else pure (cI r)) (TP Y Z9 σ Q) Y.xe s
instance{Y:Cx}{ifs:List Z4}{t:TT}:CoeFun (PTs Y ifs t) (λ_=>∀(Z9:Pns)(s:iV)(σ:St)(H:Hp)(Q:Bool->Hp->Prop),Inv Y Z9 σ H s->t σ H Q ->iW (Z6 Y.prog Y.w) Y.A (forIn ifs iT λc r=>if r=iT then do let ok <-isTrue c Y.env (Y9 c Y.env);pure (cI ok)else pure (cI r)) (TP Y Z9 σ Q) Y.xe s):=⟨λh=>h.run⟩
variable{Y:Cx}
theorem qfi:PTs Y [] (λ_ H Q=>Q iT H):=⟨λ_ _ _ H _ I h=>wpAny_tests_nil ⟨H,I,h⟩⟩
theorem wJ{t:TT}(h:PT Y c t):PTs Y [c] t:=⟨λZ9 s σ H Q I q=>wpAny_tests_one (h Z9 s σ H Q I q)⟩
variable{ifs:List Z4}{te:TE}{E:iR->iV->Prop}
section
variable{it:Z7}{tn:Nat->Z5->Prop}{J:It}{elt:Z4}{g:TG}{tt:TT}
set_option tactic.hygienic true in
theorem qcA(I:Inv X Z9 σ H s)(Q:X.calm=iT)(S:ScOk X scope)(T:Turn X.prog X.w X.K tg J fp it tn)(st0:tn 0 s.heap)(hf:∀b∈fp,Wu X Z9 H b)(hg:∀fp L s' H',PG (jx X scope N fp L s' H') tg g)(ht:∀fp L s' H',PTs (jx X scope N fp L s' H') ifs tt)(he:∀fp L s' H',PE (jx X scope N fp L s' H') elt te)(hl:σc.length=N.length)(hσ:∀(j:Nat)(x:Str)(v:V),N[j]?=iO x->σc[j]?=iO (iO v)->(∃k,(x,k)∈scope.names)->∃i:Nat,X.N[i]?=iO x/\σ[i]?=iO (iO v)/\Vis X.env.scope x/\(x,bL)∈scope.names)(W:Z7->Nat->Nat->St->Hp->Prop)(Fin:Z7->Hp->Prop)(w0:∀p,H p=iQ->∃m,W p 0 m σc (upd H p (.lst [])))(turn:∀p i m σ1 H1,W p i m σ1 H1->(J.stop i H1/\Fin p H1)\/(J.go i H1/\∀x H2,J.yld i H1 x H2->g x σ1 H2 λD H3=>tt D H3 λb H4=>if b=iT then te D H4 λy H5=>∃xs,H5 p=iO (.lst xs)/\xs.length<Z8/\∃f,f<m/\W p (i+1) f D (upd H5 p (.lst (xs++[y])))else ∃f,f<m/\W p (i+1) f D H4))(RR:iR->Z7->Result->iV->Prop)(hRR:∀p L H' s',Fin p H'->(∃m,s'.heap.Ns L m)->Wu X Z9 H' L->(∀h',bx L s'.heap h'->Inv X Z9 σ H' { s' with heap:=h' })->RR (.ref p) L (.ok .next) s') :
  iW (Z6 X.prog X.w) X.A (newList []) (λacc s₃=>iW (Z6 X.prog X.w) X.A (newFunctionEnv scope X.env.globals (Kj X.env.cells scope.names []) [] X.env.qual iQ .none (iO X.env)) (λM s₄=>
   lV (Z6 X.prog X.w) X.A (.compStart (.ListComp elt [⟨tg,iter,ifs,0⟩] scope pos) 0 (.ref it) acc { M with scope:=relabel scope X.env }) (RR acc M.locals) s₄) E s₃) E s:=by
 have hfo:∀b∈fp,b<s.heap.objs.size:=λb h=>let ⟨o,e,_⟩:=T.obj 0 _ st0 b h;ax e;have G:=I.fresh;have I3:Inv X Z9 σ (upd H s.heap.objs.size (.lst [])) { s with heap:=s.heap.push { cls:=.type "list",data:=.seq ([]:List iR).toArray } }:=I.lnew (t':=s.toks) (ys:=[]) (its:=[]) .nil (aU _);have P:∀b∈fp,Wu X Z9 (upd H s.heap.objs.size (.lst [])) b:=λb h=>⟨by rw[qB (aC (hfo b h))];exact(hf b h).1,(hf b h).2⟩
 have st3:tn 0 (s.heap.push { cls:=.type "list",data:=.seq ([]:List iR).toArray }):=T.keep 0 _ _ st0 λb h o e=>aa _ e;refine i4 (wpAny_newFunctionEnv S.nocell (λy hy=>by simp at hy) (λh₁ c a=>?_) S.kind);dsimp only at c a ⊢;generalize hs3:({ s with heap:=s.heap.push { cls:=.type "list",data:=.seq ([]:List iR).toArray } }:iV)=s3 at I3;have e3:s3.heap=s.heap.push { cls:=.type "list",data:=.seq ([]:List iR).toArray }:=by rw[<-hs3]
 rw[<-e3]at c a st3 ⊢;have keep:∀b o,s3.heap.get? b=iO o->h₁.get? b=iO o:=λb o e=>(a.2 b (aC (ax e))).trans (aa _ e);have ho3:∀b∈fp,b<s3.heap.objs.size:=λb h=>by rw[e3,bz];exact bU (hfo b h)
 have J1:Inv (jx X scope N fp s3.heap.objs.size s3 (upd H s.heap.objs.size (.lst []))) [] σc (upd H s.heap.objs.size (.lst [])) { s3 with heap:=h₁,toks:=s.toks+0 }:=
  qcy I3 S P ho3 (by simpa using c) keep hl hσ
 have st4:tn 0 h₁:=T.keep 0 _ _ st3 λb h o e=>keep b o e;have loop:∀s4:iV,s4={ s3 with heap:=h₁,toks:=s.toks+0 }->lV (Z6 X.prog X.w) X.A (.compLoop (.ListComp elt [⟨tg,iter,ifs,0⟩] scope pos) 0 (.ref it) (.ref s.heap.objs.size) (compEnvC scope (Kj X.env.cells scope.names []) s3.heap.objs.size X.env)) (RR (.ref s.heap.objs.size) s3.heap.objs.size) s4:=by
  rintro s4 rfl;generalize B:jx X scope N fp s3.heap.objs.size s3 (upd H s.heap.objs.size (.lst []))=Y at J1;have eP:Y.prog=X.prog:=by rw[<-B];rfl
  have ew:Y.w=X.w:=by rw[<-B];rfl
  have eA:Y.A=X.A:=by rw[<-B];rfl
  have ee:Y.env=compEnvC scope (Kj X.env.cells scope.names []) s3.heap.objs.size X.env:=by rw[<-B];rfl
  have eK:Y.K=X.K:=by rw[<-B];rfl
  have ec:Y.calm=true:=by rw[<-B];exact Q
  have ex:Y.xe=λ_ _=>False:=by rw[<-B];rfl
  have hgY:PG Y tg g:=by rw[<-B];exact hg fp _ _ _
  have htY:PTs Y ifs tt:=by rw[<-B];exact ht fp _ _ _
  have heY:PE Y elt te:=by rw[<-B];exact he fp _ _ _
  have t:∀{H1:Hp},(∀b∈fp,H1 b=iQ)->∀b∈fp,Wu Y [] H1 b:=λhn b h=>by have q:=J1.ok.exf b (by rw[<-B];exact h);refine⟨hn b h,q.1,J1.ok.exfs b (by rw[<-B];exact h),.inl (by rw[<-B];exact h),q.2,λp hp=>?_⟩;rw[<-B]at hp;exact absurd (show p∈([]:Pns)from hp) (by simp)
  obtain⟨m0,hm0⟩:=w0 s.heap.objs.size G;refine QZ (λn s'=>∃i σ1 H1,Inv Y [] σ1 H1 s'/\tn i s'.heap/\(∀b∈fp,H1 b=iQ)/\W s.heap.objs.size i n σ1 H1) ?_ m0 ⟨0,σc,_,J1,st4,λb h=>(P b h).1,hm0⟩;rintro n s5 ⟨i,σ1,H1,J5,st5,fr5,w5⟩;rw[<-eP,<-ew,<-eA,<-ee];have TY:Turn Y.prog Y.w Y.K tg J fp it tn:=by rw[eP,ew,eK];exact T
  rcases turn _ i n σ1 H1 w5 with⟨stop,fin⟩|⟨go,step⟩
  .refine thn (TY.done Y rfl rfl rfl ec i [] s5 σ1 H1 _ J5 (t fr5) st5 stop) λr s6 z=>?_;obtain⟨hr,J6⟩:=z;subst hr;have R:Inv (jx X scope N fp s3.heap.objs.size s3 (upd H s.heap.objs.size (.lst []))) [] σ1 H1 s6:=by rw[B];exact J6
   exact hRR _ _ H1 s6 fin (let ⟨m,hn,_⟩:=R.loc; ⟨m,hn⟩) (I3.fpOk (ap _) R.free) λh' sb=>qcz (s1:=s6) (H1:=H1) (L:=0) I3 P R sb
  .refine thn (TY.item Y rfl rfl rfl ec i [] s5 σ1 H1 _ J5 (t fr5) st5 go) λr s6 z=>?_;obtain⟨u,hr,h6⟩:=z;subst hr;refine thn h6 λ_ s7 z=>?_;obtain⟨x,H7,J7,r7,y7,O,fr7⟩:=z;have J7':=J7.pinned (t fr7) (TY.obj _ _ O);have back:∀{l:St}{F:Hp}{U:iV},Inv Y ([]++Ko fp s7.heap) l F U->(∃f,f<n/\W s.heap.objs.size (i+1) f l F)->∃m,m<n/\∃i σ1 H1,Inv Y [] σ1 H1 U/\tn i U.heap/\(∀b∈fp,H1 b=iQ)/\W s.heap.objs.size i m σ1 H1:=λ{l F U} Z ⟨f,hm,w9⟩=>by refine⟨f,hm,i+1,l,F,Z.unpinned,TY.keep _ _ _ O λb h o e=>(Z.pin (b,o) (aR _ (aR _ (ul h e)))).1,λb h=>?_,w9⟩;obtain⟨o,e,d⟩:=TY.obj _ _ O b h;exact(Z.pin (b,o) (aR _ (aR _ (ul h e)))).2.1
   rw[<-ex];refine thn (hgY _ s7 σ1 H7 x u _ J7' r7 (step x H7 y7)) λ_ s8 z=>?_;obtain⟨C,H8,J8,q8⟩:=z;refine thn (htY _ s8 C H8 _ J8 q8) λok U z=>?_;obtain⟨F,Z,q9⟩:=z;cases ok with
   |false=>exact back Z q9
   |true=>refine thn (heY _ U C F _ Z q9) λv s10 z=>?_;obtain⟨y,H10,J10,r10,xs,hx,hlen,q10⟩:=z;exact thn (Kw _ s10 C H10 (.ref s.heap.objs.size) [y] (.ref s.heap.objs.size) [v] (λ_ H11=>∃f,f<n/\W s.heap.objs.size (i+1) f C H11) J10 rfl (.cons r10 .nil) ⟨_,xs,y,rfl,rfl,hx,hlen,q10⟩) λ_ s11 ⟨_,H11,J11,_,q11⟩=>back J11 q11
 have e4:({ heap:=h₁,gens:=s.gens,drawn:=s.drawn,toks:=s.toks+([]:List (Str×iR)).length,os:=s.os }:iV)={ s3 with heap:=h₁,toks:=s.toks+0 }:=by rw[<-hs3];rfl
 exact codeAny_compStart_list (loop _ e4) (T.self _ 0 _ _ _ st4 (loop _ e4))
end
noncomputable def kK(nt:Nat)(cap:List Nat)(ρ:List (Option α)):List (Option α):=fH nt iQ++cap.map λk=>(ρ[k]?).getD iQ
noncomputable def ww(own:List Nat):Nat->List Nat->List Nat
 |_,[]=>[]
 |n,k::cap=>if k∈own then n::ww own (n+1) cap else ww own (n+1) cap
noncomputable def ioC(nt len:Nat):List Nat:=(aH len).map (nt + ·)
noncomputable def jX(own:List Nat)(ρc:Sl):Nat->List Nat->Sl->Sl
 |_,[],ρ=>ρ
 |n,k::cap,ρ=>if k∈own then jX own ρc (n+1) cap (ρ.set k ((ρc[n]?).getD iQ))else jX own ρc (n+1) cap ρ
variable{nt:Nat}{cap:List Nat}
theorem kY{ρ:List (Option α)}{d:α}:(kK nt cap ρ)[i]?=iO (iO d)↔∃j k,i=nt+j/\cap[j]?=iO k/\ρ[k]?=iO (iO d):=by
 unfold kK;constructor
 .intro h;by_cases hi:i<nt;·rw[cP (by simpa using hi),ei]at h;split at h <;> cases h
  .rw[ce (by simpa using hi),e6,aG]at h;cases q:cap[i - nt]? with
   |none=>rw[q]at h;cases h
   |some k=>
    rw[q]at h;have h:(ρ[k]?).getD iQ=iO d:=aL.inj h;refine⟨i - nt,k,by lia,q,?_⟩;cases e:ρ[k]? with
    |none=>rw[e]at h;cases h
    |some o=>rw[e]at h;exact congrArg iO h
 .rintro⟨j,k,rfl,h1,h2⟩;rw[ce (by simp),e6,aG,show nt+j - nt=j by lia,h1];simp[h2]
theorem ke{own:List Nat}:∀{n:Nat}{cap:List Nat}{i:Nat},i∈ww own n cap↔∃j k,i=n+j/\cap[j]?=iO k/\k∈own
 |n,[],i=>by simp[ww]
 | n,k::cap,i=>by
  have a:=@ke own (n+1) cap i;unfold ww;by_cases h:k∈own
  .rw[Aa h,ae,a];constructor
   .rintro(rfl|⟨j,k',e,h1,h2⟩);·exact⟨0,k,rfl,rfl,h⟩
    .exact⟨j+1,k',by lia,by simpa using h1,h2⟩
   .rintro⟨j,k',e,h1,h2⟩;cases j with
    |zero=>exact .inl (by lia)
    |succ j=>exact .inr ⟨j,k',by lia,by simpa using h1,h2⟩
  .rw[Ab h,a];constructor;·rintro⟨j,k',e,h1,h2⟩;exact⟨j+1,k',by lia,by simpa using h1,h2⟩
   .rintro⟨j,k',e,h1,h2⟩;cases j with
    |zero=>simp at h1;subst h1;exact absurd h2 h
    |succ j=>exact⟨j,k',by lia,by simpa using h1,h2⟩
theorem Ja{len:Nat}:i∈ioC nt len↔∃j,j<len/\i=nt+j:=by
 unfold ioC;rw[aq];constructor;·rintro⟨j,h1,h2⟩;exact⟨j,aN.mp h1,h2.symm⟩
 .rintro⟨j,h1,h2⟩;exact⟨j,aN.mpr h1,h2.symm⟩
variable{ρc:Sl}
theorem xf:∀{n:Nat}{cap:List Nat}{ρ:Sl},(jX own ρc n cap ρ).length=ρ.length
 |_,[],_=>rfl
 |n,k::cap,ρ=>by
  unfold jX;by_cases h:k∈own;·rw[Aa h,xf,fB]
  .rw[Ab h,xf]
theorem kS:∀{n:Nat}{cap:List Nat}{ρ:Sl}{i:Nat},¬(i∈cap/\i∈own)->(jX own ρc n cap ρ)[i]?=ρ[i]?
 |_,[],_,_,_=>rfl
 |n,k::cap,ρ,i,h=>by
  unfold jX;have h':¬(i∈cap/\i∈own):=λz=>h ⟨ac _ z.1,z.2⟩;by_cases a:k∈own;·rw[Aa a,kS h',aA (λe=>h ⟨ae.mpr (.inl e.symm),by rw[<-e];exact a⟩)]
  .rw[Ab a,kS h']
theorem yu:∀{n:Nat}{cap:List Nat}{ρ:Sl}{j k:Nat}{d:D},cap.Nodup->cap[j]?=iO k->k∈own->k < ρ.length->ρc[n+j]?=iO (iO d)->(jX own ρc n cap ρ)[k]?=iO (iO d)
 |_,[],_,_,_,_,_,h,_,_,_=>by simp at h
 |n,k0::cap,ρ,0,k,d,nd,h,hk,hl,e=>by simp at h;subst h;obtain⟨n1,n2⟩:=aP.mp nd;unfold jX;rw[Aa hk,kS (λz=>n1 z.1),aS hl];have e:ρc[n]?=iO (iO d):=e;rw[e];rfl
 |n,k0::cap,ρ,j+1,k,d,nd,h,hk,hl,e=>by
  obtain⟨n1,n2⟩:=aP.mp nd;have h:cap[j]?=iO k:=by simpa using h
  have e:ρc[n+1+j]?=iO (iO d):=by rw[show n+1+j=n+(j+1) by lia];exact e
  unfold jX;by_cases a:k0∈own;·rw[Aa a];exact yu n2 h hk (by rw[fB];exact hl) e
  .rw[Ab a];exact yu n2 h hk hl e
section
theorem WQ{ρ:List (Option α)}:(kK nt cap ρ).length=nt+cap.length:=by simp[kK]
theorem Gx{l:List Nat}(h:l.Nodup){j k:Nat}(a:l[i]?=iO k)(b:l[j]?=iO k):i=j:=by obtain⟨h1,e1⟩:=aD.mp a;obtain⟨h2,e⟩:=aD.mp b;exact(fZ h).mp (e1.trans e.symm)
theorem qfj(r:Rep K own F H σ ρ)(nd:cap.Nodup):Rep K (ww own nt cap) F H (kK nt cap σ) (kK nt cap ρ) where
 sub:=r.sub
 len:=by rw[WQ,WQ]
 val:=λi d hi e=>by obtain⟨j,k,rfl,h1,h2⟩:=kY.mp e;obtain⟨v,g1,Z⟩:=r.val k d (λz=>hi (ke.mpr ⟨j,k,rfl,h1,z⟩)) h2;exact⟨v,kY.mpr ⟨j,k,rfl,h1,g1⟩,Z⟩
 ow:=λi d hi e=>by
  obtain⟨j,k,rfl,h1,h2⟩:=kY.mp e;obtain⟨j',k',l,c,h⟩:=ke.mp hi;have:j=j':=by lia
  subst this;rw[h1]at c;cases c;obtain⟨a,g1,Z⟩:=r.ow k d h h2;exact⟨a,kY.mpr ⟨j,k,rfl,h1,g1⟩,Z⟩
 opn:=λi hi=>by obtain⟨j,k,rfl,h1,h2⟩:=ke.mp hi;obtain⟨d,e⟩:=r.opn k h2;exact⟨d,kY.mpr ⟨j,k,rfl,h1,e⟩⟩
 dis:=λi t a hi f e l=>by
  obtain⟨j,k,rfl,h1,h2⟩:=ke.mp hi;obtain⟨j',k',rfl,c,h⟩:=ke.mp f;obtain⟨x,y,s,g,n⟩:=kY.mp e;obtain⟨m,p,o,q,b⟩:=kY.mp l;have:x=j:=by lia
  subst this;have:m=j':=by lia
  subst this;rw[h1]at g;cases g;rw[c]at q;cases q;have e:=r.dis k k' a h2 h n b;subst e;rw[Gx nd h1 c]
theorem Gy(o:∀i∈ioC nt cap.length,σ1[i]?=(kK nt cap σ)[i]?)(h:OA (ww own nt cap) σ1 b):OA own σ b:=by
 obtain⟨i,hi,e⟩:=h;obtain⟨j,k,rfl,h1,h2⟩:=ke.mp hi;rw[o _ (Ja.mpr ⟨j,(aD.mp h1).1,rfl⟩)]at e;obtain⟨x,y,c,q,a⟩:=kY.mp e;have:x=j:=by lia
 subst this;rw[h1]at q;cases q;exact⟨k,h2,a⟩
theorem Gz{F':Hp}(p:Rep K own F H σ ρ)(nd:cap.Nodup)(r:Rep K (ww own nt cap) F' H' σ1 ρ1)(g:∀i∈ioC nt cap.length,σ1[i]?=(kK nt cap σ)[i]?)(c:Chg (OA (ww own nt cap) σ1) F H F' H'):Rep K own F' H' σ (jX own ρ1 nt cap ρ) where
 sub:=r.sub
 len:=by rw[xf];exact p.len
 val:=λi d hi e=>by rw[kS (λz=>hi z.2)]at e;obtain⟨v,h1,h2⟩:=p.val i d hi e;exact⟨v,h1,h2.mono c.grow⟩
 ow:=λi d hi e=>by
  by_cases q:i∈cap
  .obtain⟨j,D⟩:=bi q;have m:nt+j∈ww own nt cap:=ke.mpr ⟨j,i,rfl,D,hi⟩;obtain⟨d',h⟩:=r.opn _ m;obtain⟨A,b⟩:=p.opn i hi;rw[yu nd D hi (aD.mp b).1 h]at e;cases e;obtain⟨a,h1,h2⟩:=r.ow _ _ m h;rw[g _ (Ja.mpr ⟨j,(aD.mp D).1,rfl⟩)]at h1;obtain⟨x,y,w,f,l⟩:=kY.mp h1;have:x=j:=by lia
   subst this;rw[D]at f;cases f;exact⟨a,l,h2⟩
  .rw[kS (λz=>q z.1)]at e;obtain⟨a,h1,h2,s⟩:=p.ow i d hi e;have na:¬OA (ww own nt cap) σ1 a:=λz=>by
    obtain⟨B,n,t⟩:=z;obtain⟨j,k,rfl,g1,Z⟩:=ke.mp n;rw[g _ (Ja.mpr ⟨j,(aD.mp g1).1,rfl⟩)]at t;obtain⟨x,y,w,f,l⟩:=kY.mp t;have:x=j:=by lia
    subst this;rw[g1]at f;cases f;have e:=p.dis i k a hi Z h1 l;subst e;exact q (aV g1)
   refine⟨a,h1,?_,s.grow c.grow λo z=>c.keep a o z na⟩;cases P:F' a with
   |none=>rfl
   |some u=>
    rcases c.new a (by rw[P];simp)with z|z|z;·exact absurd h2 z
    .exact absurd z s.there
    .exact absurd z na
 opn:=λi hi=>by
  by_cases q:i∈cap;·obtain⟨j,D⟩:=bi q;have m:nt+j∈ww own nt cap:=ke.mpr ⟨j,i,rfl,D,hi⟩;obtain⟨d',h⟩:=r.opn _ m;obtain⟨A,b⟩:=p.opn i hi;exact⟨d',yu nd D hi (aD.mp b).1 h⟩
  .rw[kS (λz=>q z.1)];exact p.opn i hi
 dis:=p.dis
end
def zL(g:D->Sl->Out Sl)(ft:uA)(fe:qU)(d:D)(ρ:Sl):Out (Option D×Sl):=
 (g d ρ).plain.bind λρ1=>(ft ρ1).plain.bind λq=>if q.1=iT then(fe q.2).plain.bind λr=>.ok (iO r.1,r.2)else .ok (iQ,q.2)
def jR(g:D->Sl->Out Sl)(ft:uA)(fe:qU):List D->vY
 |[],ρ=>.ok ([],ρ)
 |d::ds,ρ=>(zL g ft fe d ρ).bind λp=>(jR g ft fe ds p.2).bind λq=>.ok (p.1.toList++q.1,q.2)
def qN(own:List Nat)(nt:Nat)(cap:List Nat)(fi:vY)(g:D->Sl->Out Sl)(ft:uA)(fe:qU):qU:=λρ=>(fi ρ).bind λp=>
 if p.1.length<=Z8 then(jR g ft fe p.1 (kK nt cap p.2)).bind λq=>.ok (.lst q.1,jX own q.2 nt cap p.2)else .bad
def ctC(C:Ct)(nt len:Nat):Ct:=⟨C.K,C.cv,λ_ _ _=>False,ioC nt len,.sh,[],[],λ_ h=>absurd h (by simp)⟩
noncomputable def ftT:uA:=λρ=>.ok (iT,ρ)
theorem UZ:PTs Y [] (tT C own ftT):=⟨λZ9 s σ H Q I ⟨F,ρ,a,h⟩=>qfi Z9 s σ H Q I (h F H a .refl)⟩
structure CW(C:Ct)(own:List Nat)(nt:Nat)(cap:List Nat)(σ:St)(F H F0:Hp)(g:D->Sl->Out Sl)(ft:uA)(fe:qU)(ds ys:List D)(ρe:Sl)(p:Z7)(i:Nat)(σ1:St)(H1:Hp)(F1:Hp)(ρi:Sl)(accD:List D)(xs:List V)(rest:List D):Prop where
 rep:Rep C.K (ww own nt cap) F1 H1 σ1 ρi
 io:∀i∈ioC nt cap.length,σ1[i]?=(kK nt cap σ)[i]?
 chg:Chg (OA (ww own nt cap) σ1) F H F1 H1
 gr:Same F0 F1
 at_:H1 p=iO (.lst xs)
 nF:F1 p=iQ
 is:IsL C.K F1 xs accD
 le:accD.length<=i
 run:jR g ft fe (ds.drop i) ρi=.ok (rest,ρe)
 all:accD++rest=ys
theorem XJ{g:D->Sl->Out Sl}{ft:uA}{fe:qU}{rest:List D}{ρe:Sl}(h:jR g ft fe (d::ds) ρ=.ok (rest,ρe)):∃ρ1,g d ρ=.ok ρ1/\∃b ρ2,ft ρ1=.ok (b,ρ2)/\((b=iT/\∃y k r,fe ρ2=.ok (y,k)/\jR g ft fe ds k=.ok (r,ρe)/\rest=y::r)\/(b=iS/\jR g ft fe ds ρ2=.ok (rest,ρe))):=by
 unfold jR zL at h;cases f:g d ρ with
 |exc c=>rw[f]at h;cases h
 |bad=>rw[f]at h;cases h
 | ok ρ1=>
  rw[f]at h;refine⟨ρ1,rfl,?_⟩;simp only[Out.plain,Out.og]at h;cases e:ft ρ1 with
  |exc c=>rw[e]at h;cases h
  |bad=>rw[e]at h;cases h
  | ok p=>
   obtain⟨b,ρ2⟩:=p;rw[e]at h;refine⟨b,ρ2,rfl,?_⟩;simp only[Out.plain,Out.og]at h;cases b with
   | true=>
    refine .inl ⟨rfl,?_⟩;simp only[if_true]at h;cases a:fe ρ2 with
    |exc c=>rw[a]at h;cases h
    |bad=>rw[a]at h;cases h
    |ok p=>
     obtain⟨y,k⟩:=p;rw[a]at h;simp only[Out.plain,Out.og]at h;cases q:jR g ft fe ds k with
     |exc c=>rw[q]at h;cases h
     |bad=>rw[q]at h;cases h
     |ok p=>obtain⟨r,B⟩:=p;rw[q]at h;simp only[Out.og]at h;cases h;exact⟨y,k,r,rfl,q,rfl⟩
   |false=>
    refine .inr ⟨rfl,?_⟩;simp only[bp,if_false,Out.og]at h;cases q:jR g ft fe ds ρ2 with
    |exc c=>rw[q]at h;cases h
    |bad=>rw[q]at h;cases h
    |ok p=>obtain⟨r,B⟩:=p;rw[q]at h;simp only[Out.og]at h;cases h;rfl
section
variable{elt:Z4}{fi:vY}{g:D->Sl->Out Sl}{ft:uA}{fe:qU}{me:Mo}
structure CapOk(X:Cx)(scope:mf)(N:List Str)(nt:Nat)(cap:List Nat):Prop where
 nd:cap.Nodup
 len:N.length=nt+cap.length
 at_:∀(j k:Nat),cap[j]?=iO k->∃x,N[nt+j]?=iO x/\X.N[k]?=iO x/\((Vis X.env.scope x/\(x,bL)∈scope.names)\/∀k',(x,k')∉scope.names)
set_option tactic.hygienic true in
theorem KN{F:Hp}{ρ1:Sl}{it:Z7}{fp:List Z7}{tn:Nat->Z5->Prop}{J:It}{E:iR->iV->Prop}{ds ys:List D}{ρe:Sl}(I:Inv X Z9 σ H s)(W:X.calm=iT)(S:ScOk X scope)(CO:CapOk X scope N nt cap)(T:Turn X.prog X.w X.K tg J fp it tn)(st0:tn 0 s.heap)(hf:∀b∈fp,Wu X Z9 H b)(rp:Rep C.K own F H σ ρ1)(O:ItIs C.K F J ds)(hz:ds.length<=Z8)(hg:∀fp L s' H',PG (jx X scope N fp L s' H') tg (tGd (ctC C nt cap.length) (ww own nt cap) g))(ht:∀fp L s' H',PTs (jx X scope N fp L s' H') ifs (tT (ctC C nt cap.length) (ww own nt cap) ft))(he:∀fp L s' H',PE (jx X scope N fp L s' H') elt (tE (ctC C nt cap.length) (ww own nt cap) me fe))(hme:me≠.any)(hrun:jR g ft fe ds (kK nt cap ρ1)=.ok (ys,ρe))(RR:iR->Z7->Result->iV->Prop)(hRR:∀p L s' F' H',H p=iQ->Rep C.K own F' H' σ (jX own ρe nt cap ρ1)->Chg (OA own σ) F H F' H'->F' p=iQ->OwnIs C.K F' H' p (.lst ys)->(∃m,s'.heap.Ns L m)->Wu X Z9 H' L->(∀h',bx L s'.heap h'->Inv X Z9 σ H' { s' with heap:=h' })->RR (.ref p) L (.ok .next) s') :
  iW (Z6 X.prog X.w) X.A (newList []) (λacc s₃=>iW (Z6 X.prog X.w) X.A (newFunctionEnv scope X.env.globals (Kj X.env.cells scope.names []) [] X.env.qual iQ .none (iO X.env)) (λM s₄=>
   lV (Z6 X.prog X.w) X.A (.compStart (.ListComp elt [⟨tg,iter,ifs,0⟩] scope pos) 0 (.ref it) acc { M with scope:=relabel scope X.env }) (RR acc M.locals) s₄) E s₃) E s:=by
 have oaH:∀{σ1:St}{b:Z7},(∀i∈ioC nt cap.length,σ1[i]?=(kK nt cap σ)[i]?)->OA (ww own nt cap) σ1 b->H b≠none:=λU z=>(rp.OA_there (Gy U z)).1;refine qcA (σc:=kK nt cap σ) I W S T st0 hf hg ht (λfp L s' H'=>uW (he fp L s' H') hme) (by rw[WQ,CO.len]) (λj x v e1 e2 e3=>?_)
  (λp i m σ1 H1=>H p=iQ/\m=ds.length - i/\i<=ds.length/\∃F1 ρi accD xs rest,CW C own nt cap σ F H F g ft fe ds ys ρe p i σ1 H1 F1 ρi accD xs rest)
  (λp H1=>H p=iQ/\∃σ1 F1 xs,Rep C.K (ww own nt cap) F1 H1 σ1 ρe/\(∀i∈ioC nt cap.length,σ1[i]?=(kK nt cap σ)[i]?)/\Chg (OA (ww own nt cap) σ1) F H F1 H1/\H1 p=iO (.lst xs)/\F1 p=iQ/\IsL C.K F1 xs ys) (λp hp=>?_) ?_ RR ?_
 .obtain⟨j',k,rfl,h1,h2⟩:=kY.mp e2;obtain⟨y,g1,g2,g3⟩:=CO.at_ j' k h1;rw[g1]at e1;cases e1;obtain⟨k',hk'⟩:=e3;rcases g3 with⟨g3,g4⟩|g3;·exact⟨k,g2,h2,g3,g4⟩
  .exact absurd hk' (g3 k')
 .obtain⟨r1,c1,hF⟩:=UT (C:=C) (u:=.lst []) (qfj (nt:=nt) rp CO.nd) hp;exact⟨ds.length,hp,by simp,aU _,F,kK nt cap ρ1,[],[],ys,r1,λ_ _=>rfl,c1.ofNo,Same.refl _,qh,hF,.nil,ap _,by simpa using hrun,rfl⟩
 .rintro p i m σ1 H1 ⟨hp,rfl,hle,F1,ρi,accD,xs,rest,w⟩;by_cases t:i<ds.length
  .have hd:ds.drop i=ds[i]::ds.drop (i+1):=List.drop_eq_getElem_cons t;have run:=w.run;rw[hd]at run;obtain⟨ρa,ea,b,Z,eb,R⟩:=XJ run;have sub1:Same F H1:=w.gr.trans w.rep.sub;refine .inr ⟨O.go i H1 t sub1,λx H2 y=>?_⟩;obtain⟨F2,c2,s2,is2⟩:=O.yld i F1 H1 x H2 ds[i] (by simp[t]) w.gr w.rep.sub y;have rp2:=w.rep.grow c2 s2;have G:∀{Y:St},(∀i∈ioC nt cap.length,Y[i]?=(kK nt cap σ)[i]?)->¬OA (ww own nt cap) Y p:=λU z=>oaH U z hp;have P:∀{A:Z7->Prop}{Fa Ha Fb Hb:Hp}{zs:List V},Chg A Fa Ha Fb Hb->¬A p->Ha p=iO (.lst zs)->Fa p=iQ->Hb p=iO (.lst zs)/\Fb p=none:=λ{A Fa Ha Fb Hb zs} c na e1 e2=>by
    refine⟨c.keep p _ e1 na,?_⟩;cases q:Fb p with
    |none=>rfl
    |some u=>
     rcases c.new p (by rw[q];simp)with z|z|z;·exact absurd e2 z
     .rw[e1]at z;cases z
     .exact absurd z na
   obtain⟨at2,nF2⟩:=P c2 (λz=>z) w.at_ w.nF;refine⟨F2,ρi,ds[i],rp2,is2,ρa,ea,λl rp3 oa3 io3=>?_⟩;have f:∀i∈ioC nt cap.length,l[i]?=(kK nt cap σ)[i]?:=λi hi=>(io3 i hi).trans (w.io i hi);refine⟨F2,ρa,rp3,?_⟩;rw[eb];intro F4 H4 rp4 c4;obtain⟨at4,nF4⟩:=P c4 (G f) at2 nF2;have B:Chg (OA (ww own nt cap) l) F H F4 H4:=by
    have q1:Chg (OA own σ) F H F1 H1:=w.chg.mono λb z=>Gy w.io z;have mv:∀{b},OA (ww own nt cap) σ1 b->OA (ww own nt cap) l b:=λ{b} z=>by obtain⟨i',hi',e'⟩:=z;obtain⟨j,k,rfl,g1,g2⟩:=ke.mp hi';have hm:nt+j∈ioC nt cap.length:=Ja.mpr ⟨j,(aD.mp g1).1,rfl⟩;exact⟨nt+j,hi',by rw[f _ hm,<-w.io _ hm];exact e'⟩
    exact((w.chg.mono λb z=>mv z).trans' c2.ofNo).trans' c4
   have gr4:Same F F4:=(w.gr.trans c2.grow).trans c4.grow;have Q:IsL C.K F4 xs accD:=(w.is.mono c2.grow).mono c4.grow;rcases R with⟨rfl,y',ρc,r,ec,er,hr⟩|⟨rfl,er⟩
   .rw[Aa rfl];refine⟨F4,Z,rp4,?_⟩;rw[ec];intro v F5 H5 h c5 mo5;obtain⟨at5,nF5⟩:=P c5 (G f) at4 nF4;have hlen:xs.length=accD.length:=Q.length;refine⟨xs,at5,by have:=w.le;lia,ds.length - (i+1),by lia,hp,rfl,t,F5,ρc,accD++[y'],xs++[v],r,?_⟩;have cp:Chg (λb=>b=p) F5 H5 F5 (upd H5 p (.lst (xs++[v]))):=⟨λb o e n=>by rw[qB n];exact e,λb e=>by
     by_cases q:b=p;·rw[q,qh];simp
     .rw[qB q];exact e,Same.refl _,λb e=>.inl e⟩
    have sb5:Same F5 (upd H5 p (.lst (xs++[v]))):=λb o e=>by rw[qB (qJ e nF5)];exact h.sub b o e
    have rp6:Rep C.K (ww own nt cap) F5 (upd H5 p (.lst (xs++[v]))) l ρc:=by
     refine⟨sb5,h.len,h.val,λi d hi e=>?_,h.opn,h.dis⟩;obtain⟨a,h1,h2,h3⟩:=h.ow i d hi e;have na:a≠p:=λz=>by subst z;exact G f ⟨i,hi,h1⟩
     exact⟨a,h1,h2,h3.grow (Same.refl _) λo z=>by rw[qB na];exact z⟩
    refine⟨rp6,f,?_,(gr4.trans c5.grow),qh,nF5,(Q.mono c5.grow).append (.cons mo5 .nil),by simp only[aj,ah,bn];have:=w.le;lia,er,?_⟩;·exact(B.trans' c5).trans cp λb z=>.inr (by rw[z];exact hp)
    .rw[aT,<-w.all,hr];rfl
   .rw[Ab bQ];exact⟨ds.length - (i+1),by lia,hp,rfl,t,F4,Z,accD,xs,rest,rp4,f,B,gr4,at4,nF4,Q,by have:=w.le;lia,er,w.all⟩
  .have e:i=ds.length:=by lia
   subst e;have run:=w.run;rw[List.drop_length]at run;unfold jR at run;cases run;have ha:=w.all;rw[bg]at ha;subst ha;exact .inl ⟨O.stop _ H1 (ap _) (w.gr.trans w.rep.sub),hp,σ1,F1,xs,w.rep,w.io,w.chg,w.at_,w.nF,w.is⟩
 .rintro p L H' s' ⟨hp,σ1,F1,xs,r1,io1,c1,e1,n1,is1⟩ hns hfp hinv;exact hRR p L s' F1 H' hp (Gz rp CO.nd r1 io1 c1) (c1.mono λb z=>Gy io1 z) n1 ⟨xs,e1,is1⟩ hns hfp hinv
theorem WR:∀(ds:List D)(ρ:Sl)(c:Str)(o:Sl),jR g ft fe ds ρ≠.exc c o:=by
 intro ds
 induction ds with
 |nil=>intro ρ c o z;cases z
 | cons d ds j=>
  intro ρ c o z;unfold jR zL at z;cases b:g d ρ with
  |exc c=>rw[b]at z;cases z
  |bad=>rw[b]at z;cases z
  | ok ρ1=>
   rw[b]at z;simp only[Out.plain,Out.og]at z;cases e:ft ρ1 with
   |exc c=>rw[e]at z;cases z
   |bad=>rw[e]at z;cases z
   | ok p=>
    rw[e]at z;simp only[Out.plain,Out.og]at z;by_cases h:p.1=iT
    .rw[Aa h]at z;cases a:fe p.2 with
     |exc c=>rw[a]at z;cases z
     |bad=>rw[a]at z;cases z
     |ok r=>
      rw[a]at z;simp only[Out.plain,Out.og]at z;cases q:jR g ft fe ds r.2 with
      |exc c=>exact j _ _ _ q
      |bad=>rw[q]at z;cases z
      |ok t=>rw[q]at z;cases z
    .rw[Ab h]at z;simp only[Out.og]at z;cases q:jR g ft fe ds p.2 with
     |exc c=>exact j _ _ _ q
     |bad=>rw[q]at z;cases z
     |ok t=>rw[q]at z;cases z
theorem KO{α:Type}{Z:KB->Prop}(r:Rep C.K own F H σ ρ)(d:¬Z .bad)(hx:∀c ρ',Z (.exc c ρ')->∀F' H',Same F' H'->qbW C.K C.ox F' H' σ ρ'->Chg (OA own σ) F H F' H'->C.E (C.cv c) iQ H')(h:Z (qN own nt cap fi g ft fe ρ)):tIt C own fi σ H λJ H1=>∃ds ρ1 ys ρe F1,ds.length<=Z8/\jR g ft fe ds (kK nt cap ρ1)=.ok (ys,ρe)/\Rep C.K own F1 H1 σ ρ1/\Chg (OA own σ) F H F1 H1/\ItIs C.K F1 J ds/\Z (.ok (.lst ys,jX own ρe nt cap ρ1)):=by
 refine⟨F,ρ,r,?_⟩;unfold qN at h;cases q:fi ρ with
 |exc c=>rw[q]at h;exact hx c _ h
 |bad=>rw[q]at h;exact(d h).elim
 | ok p=>
  obtain⟨ds,ρ1⟩:=p;rw[q]at h;have h:Z (if ds.length<=Z8 then(jR g ft fe ds (kK nt cap ρ1)).bind λq=>.ok (.lst q.1,jX own q.2 nt cap ρ1)else .bad):=h;by_cases z:ds.length<=Z8
  .rw[Aa z]at h;cases e:jR g ft fe ds (kK nt cap ρ1)with
   |exc c=>exact absurd e (WR _ _ _ _)
   |bad=>rw[e]at h;exact(d h).elim
   |ok p=>obtain⟨ys,ρe⟩:=p;rw[e]at h;exact λJ F1 H1 a k it=>⟨ds,ρ1,ys,ρe,F1,z,e,a,k,it,h⟩
  .rw[Ab z]at h;exact(d h).elim
theorem qfk(a:X.calm=iT)(S:ScOk X scope)(P:CapOk X scope N nt cap)(hi:PI X tg iter (tIt C own fi))(hg:∀fp L s' H',PG (jx X scope N fp L s' H') tg (tGd (ctC C nt cap.length) (ww own nt cap) g))(ht:∀fp L s' H',PTs (jx X scope N fp L s' H') ifs (tT (ctC C nt cap.length) (ww own nt cap) ft))(E:∀fp L s' H',PE (jx X scope N fp L s' H') elt (tE (ctC C nt cap.length) (ww own nt cap) me fe))(j:me≠.any:=by decide)(hs:∀x,lA iter X.env x=pure x:=by intro _;rfl) :
  PE X (.ListComp elt [⟨tg,iter,ifs,0⟩] scope pos) (tE C own .fr (qN own nt cap fi g ft fe)):=by
 refine⟨?_⟩;rintro Z9 s σ H Q I ⟨F,ρ,t,h⟩;rw[eval_ListComp];have n:=KO (α:=Unit) (Z:=λr=>Po C own .fr σ F H r Q) t (λz=>z) (λc _ z=>z) h;refine wpAny_comprehension_free (use:=iQ) rfl hs (Qg (zK I S)) S.kind S.names (thn (hi Z9 s σ H _ I n) λU s1 h1=>thn h1 λy s2 h2=>?_);obtain⟨it,fp,tn,J,H2,e,K,T,M,f2,ds,ρ1,ys,ρe,F1,B,b,d,k,O,po⟩:=h2;subst e;refine KN (RR:=λacc R=>compPost (Z6 X.prog X.w) X.A X.xe iQ (EP X Z9 σ Q) acc R) K a S P T M f2 d O B hg ht E j b λp L s' F' H' hp f G nF o i D v=>?_;obtain⟨m,hn⟩:=i;refine⟨m,hn,λh' l=>⟨.ref p,H',v h' l,rfl,?_⟩⟩;refine po (.ref p) F' H' f (k.trans' G) ⟨p,rfl,?_,nF,o⟩;cases q:H p with
 |none=>rfl
 |some u=>exact absurd hp (k.stay p (by rw[q];simp))
set_option tactic.hygienic true in
theorem qcB{pos' spos:Pos}(hN:X.N.Nodup)(V:X.N[i]?=iO x)(hx:Loc X.env.scope x)(d:X.calm=iT)(S:ScOk X scope)(CO:CapOk X scope N nt cap)(hi:PI X tg iter (tIt C own fi))(hg:∀fp L s' H',PG (jx X scope N fp L s' H') tg (tGd (ctC C nt cap.length) (ww own nt cap) g))(ht:∀fp L s' H',PTs (jx X scope N fp L s' H') ifs (tT (ctC C nt cap.length) (ww own nt cap) ft))(he:∀fp L s' H',PE (jx X scope N fp L s' H') elt (tE (ctC C nt cap.length) (ww own nt cap) me fe))(P:me≠.any:=by decide)(W:i∉C.io:=by exact yk rfl)(G:lK (.ListComp elt [⟨tg,iter,ifs,0⟩] scope pos) (iO (.Name x pos')) spos.line X.env=pure true:=by rfl)(hs:∀x,lA iter X.env x=pure x:=by intro _;rfl)(Y:X.fn x=iT\/X.env.scope.names.lookup x=iO .local:=by first|exact .inl rfl|exact .inr rfl) :
  PS X (.Assign [.Name x pos'] (.ListComp elt [⟨tg,iter,ifs,0⟩] scope pos) spos) (tSt C own (i::vw own [i]) (qX i (qN own nt cap fi g ft fe))):=by
 refine⟨?_⟩;rintro Z9 s σ H D I ⟨F,ρ,rp,h⟩;rw[exec_Assign_Name_used _ _ _ _ G];refine iP (wpAny_standAt (iP ?_));show iW _ X.A (do let _ <-comprehension (.ListComp elt [⟨tg,iter,ifs,0⟩] scope pos) scope X.env _ (newList []) iS (Y9 iter X.env) (iO (assign (.Name x pos') X.env))) _ _ s;have n:=KO (α:=Unit) (Z:=λr=>PoS C own (i::vw own [i]) σ F H (r.bind λp=>if i<p.2.length then .ok (.nx,p.2.set i (iO p.1))else .bad) D) rp (λz=>z) (λc _ z=>z) h;refine iP (lM (wpAny_comprehension_free (use:=iO (assign (.Name x pos') X.env)) (Q:=λ_ s'=>SP X Z9 D .next s') rfl hs (Qg (zK I S)) S.kind S.names (thn (hi Z9 s σ H _ I n) λxv s1 h1=>thn h1 λitv s2 h2=>?_)) (λ_ s' hq=>iU (iU hq)) λ_ _ e=>e);obtain⟨it,fp,tn,J,H2,e,I2,T,M,f2,ds,ρ1,ys,ρe,F1,hz,k,B,c1,O,po⟩:=h2;subst e;refine KN (RR:=λacc C'=>compPost (Z6 X.prog X.w) X.A X.xe (iO (assign (.Name x pos') X.env)) (λ_ s'=>SP X Z9 D .next s') acc C') I2 d S CO T M f2 B O hz hg ht he P k λp L s' F' H' hp f c' nF o K hfp l=>?_;obtain⟨m,hn⟩:=K;have I3:Inv X Z9 σ H' s':=by simpa using l s'.heap (.refl ..)
 have hH:H p=none:=by
  cases q:H p with
  |none=>rfl
  |some u=>exact absurd hp (c1.stay p (by rw[q];simp))
 show iW _ X.A (assign (.Name x pos') X.env (.ref p)) _ _ s';refine wpAny_assign_Name (Kn I3 hN V hx (v:=.ref p) rfl (λs4 I4 z9=>?_) Y);obtain⟨a,t,ha⟩:=z9;obtain⟨f0,f1,f2',f3,f4,f5⟩:=hfp;have nL:L≠a:=by
  rcases ha with z|z;·rw[z];exact f1
  .exact λq=>f4 x a z q.symm
 refine⟨m,hn.sameBut t nL,λh' sb=>?_⟩;have I5:Inv X Z9 (σ.set i (iO (.ref p))) H' { s4 with heap:=h' }:=by have:=I4.turned (h':=h') (t':=s4.toks) (it:=L) (λb o hb e=>(sb.2 b hb).trans e) f0 f1 f3 f4 f5;exact this
 refine⟨_,H',I5,?_⟩;have po:PoS C own (i::vw own [i]) σ F H (if i<(jX own ρe nt cap ρ1).length then .ok (.nx,(jX own ρe nt cap ρ1).set i (iO (.lst ys)))else .bad) D:=po;by_cases z:i<(jX own ρe nt cap ρ1).length
 .rw[Aa z]at po;refine po _ F' H' ⟨f.putO z nF (λy=>(rp.OA_there y).1 hH) o,c1.trans' c',λb y=>?_,λj U=>aA λy=>W (by rw[y];exact U)⟩;obtain⟨j,U,e⟩:=y;by_cases E:j=i;·subst E;rw[aS (by rw[f.len];exact z)]at e;cases e;exact .inr hH
  .have R:=(qZ j).mp ((ae.mp U).resolve_left E);rw[aA (bJ E)]at e;exact .inl ⟨j,R.1,e⟩
 .rw[Ab z]at po;exact po.elim
end
def Fly(h:Z5)(ex T:Z7)(cls:iR):Prop:=∃o vs a ts,h.get? ex=iO o/\o.cls=cls/\o.data=.fields vs/\vs[1]?=iO (.ref T)/\T≠ex/\h.get? T=iO a/\a.data=.fields ts/\ts[3]?=iO .none
def CXk(P:iZ)(w:i3):CXT:=λouter H s E e s'=>∃ex T C H',e=.ref ex/\s'.os=s.os/\mC s'.gens/\Un (frs outer) [] H H' s.heap s'.heap/\HOk P w H' s'.heap/\Fly s'.heap ex T (.ref C)/\H' ex=iQ/\H' T=iQ/\s.heap.get? ex=iQ/\s.heap.get? T=iQ/\E (.ref C) iQ H'
def InB(X:Cx)(H:Hp)(s:iV)(ex:Z7)(cls:iR):Prop:=H ex=iQ/\X.s₀.heap.get? ex=iQ /\
 ((∃o vs,s.heap.get? ex=iO o/\o.cls=cls/\o.data=.fields vs/\vs[1]?=iO .none)\/∃T,Fly s.heap ex T cls/\H T=iQ/\X.s₀.heap.get? T=iQ)
variable{ex:Z7}{T0:Option Z7}
section
variable{cls:iR}
def KQ(ex:Z7)(T:Option Z7)(X:Cx):List Z7:=ex::(T.toList++frs X.stack)
theorem Yb(I:Inv X Z9 σ H s)(d:b∈frs X.stack):∃o,s.heap.get? b=iO o/\∀vs,o.data≠.fields vs:=(I.stack.mem d).2
theorem GA(hs:X.stack=X.env::X.outer):∀env∈X.stack,∀b,env.frame=iO b->b∈frs X.stack:=λenv i b d=>d8.mpr ⟨env,i,d⟩
structure Gone(X:Cx)(H:Hp)(s:iV)(ex:Z7)(cls:iR)(h2:Z5):Prop where
 keep:∀b o,s.heap.get? b=iO o->H b≠iQ\/(X.s₀.heap.get? b≠iQ/\b∉frs X.stack)->h2.get? b=iO o
 slot:∀b o,s.heap.get? b=iO o->b∈frs X.stack->∃sl,h2.get? b=iO { o with slots:=sl }
 ok:HOk X.prog X.w H h2
 un:Un (frs X.stack) [] H H s.heap h2\/True
theorem GB{h2:Z5}(I:Inv X Z9 σ H s)(hex:H ex=iQ)(k:∀T,T0=iO T->H T=iQ)(n1:X.s₀.heap.get? ex=iQ)(n2:∀T,T0=iO T->X.s₀.heap.get? T=iQ)(st:(cq s.heap (KQ ex T0 X)).StaysIn h2)(sl:∀b o,s.heap.get? b=iO o->(∀vs,o.data≠.fields vs)->∃sl,h2.get? b=iO { o with slots:=sl }):Gone X H s ex cls h2:=by
 have keep:∀b o,s.heap.get? b=iO o->b≠ex->(∀T,T0=iO T->b≠T)->b∉frs X.stack->h2.get? b=iO o:=λb o e h1 h2 g=>st b o (fC _ e λm=>by
  rcases ae.mp m with q|m;·exact h1 q
  .rcases af.mp m with q|q;·exact h2 b (Option.mem_toList.mp q) rfl
   .exact g q)
 have k1:∀b o,s.heap.get? b=iO o->H b≠iQ->h2.get? b=iO o:=λb o e hn=>keep b o e (λq=>hn (by rw[q];exact hex)) (λT h q=>hn (by rw[q];exact k T h)) λq=>hn (I.stkFree b q);refine⟨λb o e d=>?_,λb o e d=>?_,λb u e=>?_,.inr trivial⟩
 .rcases d with d|⟨d,hf⟩
  .exact k1 b o e d
  .exact keep b o e (λq=>d (by rw[q];exact n1)) (λT h q=>d (by rw[q];exact n2 T h)) hf
 .obtain⟨o',a,y⟩:=Yb I d;rw[e]at a;cases a;exact sl b o e y
 .refine(I.hok b u e).stay (λc v f q=>k1 c v q ?_) (λ_ q=>q) λ_ _ q=>q;rcases f with z|z;·rw[z,e];simp
  .rw[z];simp
theorem KR{h2:Z5}(I:Inv X Z9 σ H s)(B:∀T,T0=iO T->H T=iQ)(n2:∀T,T0=iO T->X.s₀.heap.get? T=iQ)(g:Gone X H s ex cls h2)(c:X.ex=[])(tr:h2.Traced (cq s.heap (KQ ex T0 X)) ex cls):∃T,Fly h2 ex T cls/\H T=iQ/\X.s₀.heap.get? T=none:=by
 obtain⟨t,vs,T,w,ts,K,J,G,E,p,l,k,j,D⟩:=tr;have a:∀o,s.heap.get? T=iO o->(∃q,T0=iO q/\T=q):=λo e=>by
  have m:T∈KQ ex T0 X:=by refine bG λhn=>?_;rw[fC _ e hn]at p;cases p
  rcases ae.mp m with q|m;·exact absurd q l
  .rcases af.mp m with q|q;·exact⟨T,Option.mem_toList.mp q,rfl⟩
   .obtain⟨o',d,x⟩:=Yb I q;obtain⟨sl,i⟩:=g.slot T o' d q;rw[k]at i;cases i;exact absurd j (x ts)
 refine⟨T,⟨t,vs,w,ts,K,J,G,E,l,k,j,D⟩,?_,?_⟩
 .cases q:H T with
  |none=>rfl
  | some u=>
   have A:=I.hok.lt q;obtain⟨o,e⟩:∃o,s.heap.get? T=iO o:=by
    have:=(I.hok T u q)
    have st:=this.stay (H':=H) (h':=s.heap) (λb v _ z=>z) (λ_ z=>z) λ_ _ z=>z;cases z:s.heap.get? T with
    |some o=>exact⟨o,rfl⟩
    |none=>
     exfalso;cases u with
     |lst xs=>obtain⟨_,_,_,_,e⟩:=st;rw[z]at e;cases e
     |tup xs=>obtain⟨_,_,_,_,e,_⟩:=st;rw[z]at e;cases e
     |dK kvs=>obtain⟨_,_,_,_,o,_,_,e,_⟩:=st;rw[z]at e;cases e
     |dT kvs=>obtain⟨_,_,_,_,o,_,_,e,_⟩:=st;rw[z]at e;cases e
     |set S n=>obtain⟨o,_,_,_,e,_⟩:=st;rw[z]at e;cases e
     |ins C dx fs=>obtain⟨_,_,_,e,_⟩:=st;rw[z]at e;cases e
     |own y=>obtain⟨_,e⟩:=st;rw[z]at e;cases e
     |xd fs=>obtain⟨_,⟨_,_,_,e,_⟩,_⟩:=st;rw[z]at e;cases e
     |rng lo hi=>obtain⟨_,_,_,e⟩:=st;rw[z]at e;cases e
     |frz L u=>obtain⟨e,_⟩:=st;rw[z]at e;cases e
     |tbl ps=>have e:s.heap.get? T=iO _:=st;rw[z]at e;cases e
     |met f y=>have e:s.heap.get? T=iO _:=st;rw[z]at e;cases e
     |ext φ=>obtain⟨_,⟨_,e⟩,_⟩:=st;rw[z]at e;cases e
   obtain⟨r,h,rfl⟩:=a o e;rw[B _ h]at q;cases q
 .cases q:X.s₀.heap.get? T with
  |none=>rfl
  |some o=>obtain⟨o',d⟩:=I.base.there T o q (by rw[c];simp);obtain⟨r,h,rfl⟩:=a o' d;rw[n2 _ h]at q;cases q
theorem XM{E:iR->iV->Prop}{Q:Unit->iV->Prop}(I:Inv X Z9 σ H s)(h:X.stack=X.env::X.outer)(r:X.env.frame=iO X.env.locals)(c:X.ex=[])(x:InB X H s ex cls)(k:∀h2 T,Gone X H s ex cls h2->Fly h2 ex T cls->H T=iQ->X.s₀.heap.get? T=iQ->Q () { s with heap:=h2 }):iW (Z6 X.prog X.w) X.A (leaving X.env (.ref ex)) Q E s:=by
 obtain⟨hex,n1,hx⟩:=x;have C:X.A.frames=iO (X.env::X.outer):=by rw[I.ok.frames,h]
 have B:∀as,(cq s.heap as).StaysIn s.heap:=λas b o e=>PySem.W.of_hideAll as e;have hl:∀T0,s.heap.FunFrames (cq s.heap (KQ ex T0 X)) (X.env::X.outer):=λT0=>by rw[<-h];exact PySem.W.funFrames_hide I.stack λenv v b D=>ac _ (aR _ (GA h env v b D))
 have hn:∀T0,(cq s.heap (KQ ex T0 X)).get? ex=none:=λT0=>fz _ (ae.mpr (.inl rfl));rcases hx with⟨p,vs,l,j,y,q⟩|⟨T,⟨p,vs,u,ts,l,j,y,q,M,L,K,J⟩,G,n2⟩
 .refine wpAny_leaving_first (base:=cq s.heap (KQ ex iQ X)) C (hl iQ) r l (B _) (hn iQ) y q λh2 f=>?_;obtain⟨st,_,tr,sl⟩:=f;have g:Gone X H s ex cls h2:=GB I hex (T0:=iQ) (λ_ z=>nomatch z) n1 (λ_ z=>nomatch z) st sl;rw[j]at tr;obtain⟨m,f1,f2,i⟩:=KR I (T0:=iQ) (λ_ z=>nomatch z) (λ_ z=>nomatch z) g c tr;exact k h2 m g f1 f2 i
 .have d:∀a,iO T=iO a->H a=none:=λa z=>by cases z;exact G
  have n:∀a,iO T=iO a->X.s₀.heap.get? a=none:=λa z=>by cases z;exact n2
  have t:s.heap.Traced (cq s.heap (KQ ex (iO T) X)) ex cls:=⟨p,vs,T,u,ts,l,j,y,q,fz _ (ac _ (bP _ (by simp))),M,L,K,J⟩
  refine wpAny_leaving_next (base:=cq s.heap (KQ ex (iO T) X)) C (hl (iO T)) r t (B _) (hn _) λh2 f=>?_;obtain⟨st,_,tr,sl⟩:=f;have g:Gone X H s ex cls h2:=GB I hex d n1 n st sl;obtain⟨m,f1,f2,i⟩:=KR I d n g c tr;exact k h2 m g f1 f2 i
end
variable{A:j4}{P:iZ}{w:i3}{base h:Z5}{qual:Str}{outer:List Env}{s0:iV}
section
variable{mg:Str->Option iR}{cd:iR}{E:XK}
abbrev cxk(P:iZ)(w:i3)(K:Y8)(mg:Str->Option iR)(base:Z5)(N:List Str)(qual:Str)(scope:mf)(f:Z7)(cd:iR)(A:j4)(outer:List Env)(s0:iV)(H0:Hp)(E:XK):Cx:=qeQ (CXk P w) P w K mg base N qual scope f cd A outer s0 H0 E
theorem qhE{C:Z7}(I:Inv (cxk P w K mg base N qual scope f cd A outer s0 H0 E) Z9 σ H s)(x:InB (cxk P w K mg base N qual scope f cd A outer s0 H0 E) H s ex (.ref C))(l:E (.ref C) iQ H):(cxk P w K mg base N qual scope f cd A outer s0 H0 E).xe (.ref ex) s:=by
 refine XM I rfl rfl rfl x λh2 T g m k j=>?_;have a:=I.base;have L:∀b o,s0.heap.get? b=iO o->b≠(cxk P w K mg base N qual scope f cd A outer s0 H0 E).env.locals:=λb o e=>aC (aI (ax e) I.ok.above);have t:∀b o,s0.heap.get? b=iO o->b∉frs outer->b∉frs (cxk P w K mg base N qual scope f cd A outer s0 H0 E).stack:=λb o e d z=>by
  rcases ae.mp (I.stkSub b z)with q|q;·exact L b o e q
  .exact d q
 have i:∀b,b∈frs outer->b∈frs (cxk P w K mg base N qual scope f cd A outer s0 H0 E).stack:=λb d=>by show b∈frs (_::outer);unfold frs;rw[bT];exact ac _ d
 refine⟨ex,T,C,H,rfl,I.os,I.bare,⟨λb o e n d hx=>?_,λb o e n d hx=>?_,a.free,λb o e hx=>?_,a.tups,a.frzs,a.tbls⟩,g.ok,m,x.1,k,x.2.1,j,l⟩;·exact g.keep b o (a.keep b o e n d hx) (.inr ⟨by show s0.heap.get? b≠iQ;rw[e];simp,t b o e d⟩)
 .obtain⟨sl,q⟩:=a.slot b o e n d hx;obtain⟨c,h⟩:=g.slot b _ q (i b d);exact⟨c,h⟩
 .obtain⟨o',q⟩:=a.there b o e hx;by_cases d:b∈frs (cxk P w K mg base N qual scope f cd A outer s0 H0 E).stack;·obtain⟨sl,h⟩:=g.slot b o' q d;exact⟨_,h⟩
  .exact⟨o',g.keep b o' q (.inr ⟨by show s0.heap.get? b≠iQ;rw[e];simp,d⟩)⟩
theorem qfl{e:iR}(c:X.ex=[])(I:Inv X Z9 σ H s)(h:CXk X.prog X.w X.stack H s E e s'):∃ex C H',e=.ref ex/\Inv X Z9 σ H' s'/\InB X H' s' ex (.ref C)/\E (.ref C) iQ H':=by
 obtain⟨ex,T,C,H',rfl,os,bare,un,hok,f,e1,i,n1,n2,l⟩:=h;have old:∀b,s.heap.get? b=iQ->X.s₀.heap.get? b=none:=λb d=>by
  cases q:X.s₀.heap.get? b with
  |none=>rfl
  |some o=>obtain⟨o',a⟩:=I.base.there b o q (by rw[c];simp);rw[d]at a;cases a
 exact⟨ex,C,H',rfl,I.call' (ch:=[]) os un hok bare (λb z=>absurd z (by simp)),⟨e1,old ex n1,.inr ⟨T,f,i,old T n2⟩⟩,l⟩
theorem qcC:yi (CXk P w) (cxk P w K mg base N qual scope f cd A outer s0 H0 E) E:=λZ9 σ H s e s' I h=>by obtain⟨ex,C,H',rfl,b,x,l⟩:=qfl rfl I h;exact qhE b x l
set_option tactic.hygienic true in
theorem qfm{C:Z7}{b:List iR}{d:String}(kin:K.In h)(c:mg x=iO (.ref C))(q:fy K C b d=iT):OwnCls x C b d mg h:=by
 refine⟨c,?_⟩;unfold fy at q;split at q
 case h_2=>cases q
 case h_1 dd cd sl lk=>
  split at q
  case h_2=>cases q
  case h_1 C' bm a0 a1 a2 a3 n a5 em es=>
   have g:=q;simp only[aQ,beq_iff_eq,fQ]at g;obtain⟨⟨⟨⟨⟨e1,i⟩,l⟩,tl⟩,k⟩,t⟩:=g;obtain⟨nm,bs,mro,ns,a,hd,sn,sub,ab,col,del⟩:=cd;dsimp only at em l k t;obtain⟨s⟩:=sl;dsimp only at es;subst em l es e1 i;exact⟨bm,ns,nm,a,bs,hd,sn,sub,ab,col,dd,a0,a1,a2,a3,a5,_,kin _ _ lk,.of_isNs (PySem.W.isNs_of_in kin k),PySem.W.nsMap_none_of_in kin k t,PySem.W.tail_of_in kin tl⟩
end
theorem qhF{T:Z7}(hok:HOk P w H h)(q:H T=iO u):∃o,h.get? T=iO o:=by
 have st:=hok T u q;cases z:h.get? T with
 |some o=>exact⟨o,rfl⟩
 |none=>
  exfalso;cases u with
  |lst xs=>obtain⟨_,_,_,_,e⟩:=st;rw[z]at e;cases e
  |tup xs=>obtain⟨_,_,_,_,e,_⟩:=st;rw[z]at e;cases e
  |dK kvs=>obtain⟨_,_,_,_,o,_,_,e,_⟩:=st;rw[z]at e;cases e
  |dT kvs=>obtain⟨_,_,_,_,o,_,_,e,_⟩:=st;rw[z]at e;cases e
  |set S n=>obtain⟨o,_,_,_,e,_⟩:=st;rw[z]at e;cases e
  |ins C dx fs=>obtain⟨_,_,_,e,_⟩:=st;rw[z]at e;cases e
  |own y=>obtain⟨_,e⟩:=st;rw[z]at e;cases e
  |xd fs=>obtain⟨_,⟨_,_,_,e,_⟩,_⟩:=st;rw[z]at e;cases e
  |rng lo hi=>obtain⟨_,_,_,e⟩:=st;rw[z]at e;cases e
  |frz b u=>obtain⟨e,_⟩:=st;rw[z]at e;cases e
  |tbl ps=>have e:h.get? T=iO _:=st;rw[z]at e;cases e
  |met f y=>have e:h.get? T=iO _:=st;rw[z]at e;cases e
  |ext φ=>obtain⟨_,⟨_,e⟩,_⟩:=st;rw[z]at e;cases e
abbrev bmV:List iR:=[.type "ValueError",.type "Exception",.type "BaseException",.type "object"]
def uY(x:Str)(fr:vY):qK:=λρ=>(fr ρ).bind λp=>.exc x p.2
theorem PoS.bindA{as:List AK}{o:Out (List D×Sl)}{k:List D×Sl->Out (Fl×Sl)}{D:Ends}{R:List V->Hp->Prop}(hp:PoS C own own' σ F H (o.bind k) D)(h:∀vs F1 H1 ds ρ1,Rep C.K own F1 H1 σ ρ1->Chg (OA own σ) F H F1 H1->ArgV C.K H F1 H1 σ as vs ds->PoS C own own' σ F1 H1 (k (ds,ρ1)) D->R vs H1):PoA C own as σ F H o R:=by
 cases o with
 |ok p=>obtain⟨ds,ρ1⟩:=p;exact λvs F1 H1 a c v=>h vs F1 H1 ds ρ1 a c v (PoS.shift (show PoS C own own' σ F H (k (ds,ρ1)) D from hp) (.ofE a c))
 |exc x=>exact hp
 |bad=>exact hp.elim
def Yc(X:Cx)(C:Ct):Prop:=∀(Z9:Pns)(σ:St)(H:Hp)(s:iV)(ex A:Z7),Inv X Z9 σ H s->InB X H s ex (.ref A)->C.E (.ref A) iQ H->X.xe (.ref ex) s
theorem qhG{mg:Str->Option iR}{cd:iR}:Yc (cxk P w K mg base N qual scope f cd A outer s0 H0 C.E) C:=λZ9 σ H s ex A I x l=>qhE I x l
section
variable{fr:vY}{Cc:Z7}{np cpos:Pos}
theorem ArgV.len:∀{as:List AK}{vs:List V}{ds:List D},ArgV K H0 F H σ as vs ds->vs.length=as.length
 |[],[],[],_=>rfl
 |.vl::as,v::vs,d::ds,h=>congrArg (·+1) (ArgV.len h.2)
 |.sl i::as,v::vs,d::ds,h=>congrArg (·+1) (ArgV.len h.2.2)
 |.fr::as,v::vs,d::ds,h=>congrArg (·+1) (ArgV.len h.2)
 |[],_::_,_,h=>h.elim
 |[],[],_::_,h=>h.elim
 |.vl::_,[],_,h=>h.elim
 |.vl::_,_::_,[],h=>h.elim
 |.sl _::_,[],_,h=>h.elim
 |.sl _::_,_::_,[],h=>h.elim
 |.fr::_,[],_,h=>h.elim
 |.fr::_,_::_,[],h=>h.elim
theorem GC(d:X.ex=[])(ht:Yc X C)(Q:X.calm=iT)(hg:Gl X x)(m:X.mg x=iO (.ref Cc))(v:C.cv x=.ref Cc)(q:fy X.K Cc bmV "ValueError.__new__"=iT)(A:PA X (e::es) (tAr C own as fr))(hsz:as.length<=1000:=by decide)(g:∀i∈C.ox,i∈own:=by exact wy rfl)(hd:Dbg x:=by decide)(j:iX (e::es) X.env=(iS,Y9 e X.env)::iX es X.env:=by exact jD rfl)(l:(lq cpos (iX es X.env)).any (·.1)=false:=by rfl) :
  PS X (.Raise (iO (.Call (.Name x np) (e::es) [] cpos)) iQ pos) (tSt C own own' (uY x fr)):=by
 refine⟨?_⟩;rintro Z9 s σ H D I ⟨F,ρ,r,h⟩;obtain⟨tl,N,nm,p,bs,hdct,sn,sub,ab,col,dd,k0,k1,k2,k3,k5,mN,hC,B,f,T⟩:=(qfm I.ok.mod.kin m q).obj;refine wpAny_Raise_call_subT (C:=Cc) (nm:=nm) (q:=p) (N:=N) (bs:=bs) (bm:=tl) (hdct:=hdct) (sn:=sn) (sub:=sub) (ab:=ab) (col:=col) (dd:=dd) (k0:=k0) (k1:=k1) (k2:=k2) (k3:=k3) (k5:=k5)
  PySem.F.excBase_ValueError (mN:=mN) (T.hasType PySem.F.excBase_ValueError.hasBase) (I.ok.hd Q) (by rw[j];show(iS||(lq cpos (iX es X.env)).any (·.1))=iS;rw[l];rfl) f (QR I hg m ⟨rfl,?_⟩ hd)
 have n:tAr C own as fr σ H λvs H1=>vs.length<=Z8/\C.E (.ref Cc) iQ H1:=by
  refine⟨F,ρ,r,PoS.bindA h λvs F1 H1 ds ρ1 a O J h1=>⟨?_,?_⟩⟩;·rw[J.len];exact be hsz (by rw[i5];decide)
  .rw[<-v];exact h1 F1 H1 a.sub (a.ioIs g) .refl
 have run:=A cpos Z9 s σ H _ I n;rw[j]at run ⊢;refine dL (lM run (λus s2 z=>?_) λ_ _ y=>y);obtain⟨vs,H2,c,r2,z2,G⟩:=z;refine⟨rfl,by rw[<-r2.length];exact z2,c.bk _ _ hC,B.keeps c.bk,T.keeps c.bk,λh' ex mk=>?_⟩;have L:Inv X Z9 σ H2 { s2 with heap:=h' }:=c.kept (t':=s2.toks) mk.keeps;obtain⟨t,h1,h2,M⟩:=mk.there;refine ht Z9 σ H2 _ ex Cc L ⟨?_,?_,.inl ⟨_,_,h1,rfl,rfl,rfl⟩⟩ G
 .cases b:H2 ex with
  |none=>rfl
  |some u=>have w:=c.hok.lt b;refine absurd mk.new ?_;obtain⟨o,e⟩:=qhF c.hok b;rw[e];simp
 .cases b:X.s₀.heap.get? ex with
  |none=>rfl
  |some o=>obtain⟨o',k⟩:=c.base.there ex o b (by rw[d];simp);rw[mk.new]at k;cases k
end
def XN(P:iZ)(w:i3)(K:Y8)(mg:Str->Option iR)(base:Z5)(cv:Str->iR)(k:Nat)(x:Str)(ps:List Str)(ms:List PM)(mr:Mo)(G:jK):Prop:=
 ∃f fd,FnOk P w K mg base (CXk P w) k f fd ps (spD K cv ms mr G)/\mg x=iO (.ref f)/\keepIn K (.ref f)=iT/\Binds K fd ps []
def qjw(K:Y8)(mg:Str->Option iR)(x:Str)(st:Z3)(ps:List Str):Prop:=∃f fd,Fun K x x st f fd/\mg x=iO (.ref f)/\Binds K fd ps []
theorem qdO{P:iZ}{w:i3}{mg:Str->Option iR}{base:Z5}{cv:Str->iR}{k:Nat}{ms:List PM}{mr:Mo}{own':List Nat}{fb:qK}(T:qjw K mg x st ps)(S:FnScope N ps (jb st))(a:∀(cdv:iR)(f:Z7)(A:j4)(outer:List Env)(s:iV)(H:Hp)(E:XK),Room k (A.deeper (mI x (jb st) s.heap.objs.size f cdv)) ->PSs (cxk P w K mg base N x (jb st) f cdv A outer s H E) (vV st) (tSt (qju K cv E ms mr) (kq 0 ms) own' fb))(hl:ms.length=ps.length:=by rfl)(g:∀i∈UV 0 ms,i∈own':=by exact wy rfl)(r:mr=.sh\/∀ds ρ,(fb (qt N ds))≠.ok (.nx,ρ):=by exact .inl rfl):XN P w K mg base cv (k+1) x ps ms mr (jW N ms fb):=by
 obtain⟨f,fd,F,c,d⟩:=T;exact⟨f,fd,qla F S hl g r (λcdv A outer s H E hr=>a cdv f A outer s H E hr) λ_=>.inr rfl,c,F.kp,d⟩
section
variable{G:jK}{fr:vY}{p:Pos}{k j:Nat}{cv:Str->iR}
theorem qY(F:XN X.prog X.w X.K X.mg X.base cv j x ps ms mr G)(hr:Room k X.A)(D:j<=k)(hx:yi (CXk X.prog X.w) X C.E)(hg:Gl X x)(m:PA X (e::es) (tAr C own as fr))(v:C.cv=cv:=by rfl)(n:C.K=X.K:=by rfl)(s:ms=as.map Ki:=by rfl)(hs:∀i∈ju as,i∈own:=by decide)(nd:(ju as).Nodup:=by decide)(a:frA as<=1:=by decide)(o:∀i∈C.ox,i∈own:=by exact wy rfl)(b:Dbg x:=by decide)(d:iX (e::es) X.env=(iS,Y9 e X.env)::iX es X.env:=by exact jD rfl)(l:(lq pos (iX es X.env)).any (·.1)=false:=by exact zo rfl):PE X (.Call (.Name x p) (e::es) [] pos) (tE C own mr (ql as G fr)):=by
 subst v;obtain⟨f,fd,F,c,h,g⟩:=F;rw[<-n]at F;exact qfh (by rw[<-n];exact F) (hr.mono D) hg c h g hx m s hs nd a o b d l
noncomputable def ZE:D->Out D
 |.int i=>.ok (.int (-i))
 |_=>.bad
theorem zM:UnD X C .sh (unaryOp .USub) ZE:=by
 intro Z9 s σ H x v Q I d h;obtain⟨F,dx,A,t,po⟩:=h;cases dx <;> try exact po.elim
 obtain rfl:=t.int;exact qhc Z9 s σ H _ v Q I d ⟨_,rfl,po _ F H A .refl (.int _)⟩
end
noncomputable def yv:Option (Option D)->Bool
 |some (iO (.lst _))=>iT
 |_=>iS
def xx(i:Nat)(g:List D->D->Out (List D))(fe:qU):qU:=λρ=>if yv ρ[i]?=iT then(fe ρ).bind λp=>match p.2[i]? with
 |some (iO (.lst xs))=>match g xs p.1 with
  |.ok ys=>.ok (.non,p.2.set i (iO (.lst ys)))
  |_=>.bad
 |_=>.bad
 else .bad
noncomputable def Kk(xs:List D)(d:D):Out (List D):=if xs.length<Z8 then .ok (xs++[d])else .bad
noncomputable def qcD(xs:List D):D->Out (List D)
 |.lst ys=>if xs.length+ys.length<=Z8 then .ok (xs++ys)else .bad
 |.tup ys=>if xs.length+ys.length<=Z8 then .ok (xs++ys)else .bad
 |_=>.bad
section
variable{fe:qU}
theorem Rep.write(r:Rep K own F H σ ρ)(hi:i∈own)(g:σ[i]?=iO (iO (V.ref a)))(ow:OwnIs K F (upd H a u) a d):Rep K own F (upd H a u) σ (ρ.set i (iO d))/\Chg (OA own σ) F H F (upd H a u):=by
 obtain⟨f,h⟩:=r.opn i hi;obtain⟨l,e1,C,k⟩:=r.ow i f hi h;rw[g]at e1;cases e1;have hl:i < ρ.length:=(aD.mp h).1;refine⟨⟨λb o e=>by rw[qB (qJ e C)];exact r.sub b o e,by simp[r.len],λj d' D e=>?_,λj d' D e=>?_,λj D=>?_,r.dis⟩,⟨λb o e n=>?_,λb e=>?_,Same.refl _,λb e=>.inl e⟩⟩;·rw[aA (λz=>D (by rw[<-z];exact hi))]at e;exact r.val j d' D e
 .by_cases q:j=i;·subst q;rw[aS hl]at e;cases e;exact⟨a,g,C,ow⟩
  .rw[aA (bJ q)]at e;obtain⟨b,h1,h2,c⟩:=r.ow j d' D e;have A:b≠a:=λz=>by subst z;exact q (r.dis j i b D hi h1 g)
   exact⟨b,h1,h2,c.grow (Same.refl _) λo z=>by rw[qB A];exact z⟩
 .by_cases q:j=i;·subst q;exact⟨d,aS hl⟩
  .rw[aA (bJ q)];exact r.opn j D
 .have A:b≠a:=λz=>n (by rw[z];exact⟨i,hi,g⟩);rw[qB A];exact e
 .by_cases q:b=a;·rw[q,qh];simp
  .rw[qB q];exact e
theorem Yd{o:Option (Option D)}(h:yv o=iT):∃xs,o=iO (iO (.lst xs)):=by
 unfold yv at h;split at h;·exact⟨_,rfl⟩
 .cases h
theorem Ye{g:List D->D->Out (List D)}{R:V->V->Hp->VK->Prop}{σ:St}{H:Hp}{Q:VK}(l:i∈own)(w:m≠.any)(j:∀(a:Z7)(xs:List V)(ds ys:List D)(v:V)(d:D)(F H:Hp),Same F H->H a=iO (.lst xs)->F a=iQ->IsL C.K F xs ds->Is C.K F v d->g ds d=.ok ys->(∀zs,IsL C.K F zs ys->Q .non (upd H a (.lst zs)))->R (.ref a) v H Q)(h:tE C own .sh (xx i g fe) σ H Q):∃a xs,σ[i]?=iO (iO (V.ref a))/\H a=iO (.lst xs)/\tE C own .sh fe σ H λv H1=>R (.ref a) v H1 Q:=by
 obtain⟨F,ρ,p,h⟩:=h;unfold xx at h;by_cases q:yv ρ[i]?=iT
 ·rw [Aa q]at h;obtain⟨ds,hd⟩:=Yd q;obtain⟨a,h1,h2,xs,k,x⟩:=p.ow i _ l hd;refine⟨a,xs,h1,k,F,ρ,p,Po.bind h λv F1 H1 d ρ1 r y f po=>?_⟩;cases b:ρ1[i]? with
  |none=>simp only[b]at po;exact po.elim
  | some o=>
   cases o with
   |none=>simp only[b]at po;exact po.elim
   | some dd=>
    simp only[b]at po;cases dd with
    |lst es=>
     simp only at po;cases e:g es d with
     |ok ys=>simp only[e]at po;obtain⟨A,e1,t,vs,s,n⟩:=r.ow i _ l b;rw[h1]at e1;cases e1;refine j a vs es ys v d F1 H1 r.sub s t n f e λzs z=>?_;obtain⟨r2,c2⟩:=r.write (u:=.lst zs) (d:=.lst ys) l h1 ⟨zs,qh,z⟩;exact po .non F1 _ r2 c2 .non
     |exc c o=>simp only[e]at po;exact po.elim
     |bad=>simp only[e]at po;exact po.elim
    |_=>exact po.elim
 .rw[Ab q]at h;exact h.elim
theorem wK{px apos cpos:Pos}(t:C.K=X.K)(r:X.N[i]?=iO x)(n:Vis X.env.scope x)(o:i∈own)(p:PE X e (tE C own m fe))(j:m≠.any:=by decide)(hd:Dbg x:=by decide)(f:Cdk x:=by decide)(c:lj (.Name x px) "append" X.env (Y9 (.Name x px) X.env)=Y9 (.Name x px) X.env:=by rfl)
  (w:((lq cpos (iX [e] X.env)).all (λx=>!x.1)&&(ml cpos (lG [] X.env)).all (λx=>x.1.isSome)
   && decide ([e].length+([]:List lv).length+(if ([]:List lv).isEmpty then 0 else 1)<30))=true:=by exact uo rfl)
  (b:(apos.endLine == cpos.line)=true:=by rfl) (hs:iX [e] X.env=[(iS,Y9 e X.env)]:=by exact qD rfl) :
  PE X (.Call (.Attribute (.Name x px) "append" apos) [e] [] cpos) (tE C own .sh (xx i Kk fe)):=by
 refine jy (ZU dh PySem.F.slot_list_append PySem.F.type_list_append Kw (uF r n hd f) (qI (uW p j) jq hs) c w b hs rfl) λσ H Q h=>?_;have q:∀(a:Z7)(xs:List V)(ds ys:List D)(v:V)(d:D)(F H:Hp),Same F H->H a=iO (.lst xs)->F a=iQ->IsL C.K F xs ds->Is C.K F v d->Kk ds d=.ok ys->(∀zs,IsL C.K F zs ys->Q .non (upd H a (.lst zs)))->WF (.ref a) [v] H Q:=λa xs ds ys v d F H A s u ix l g k=>by
  unfold Kk at g;split at g;·cases g;exact⟨a,xs,v,rfl,rfl,s,by rw[ix.length];assumption,k _ (ix.append (.cons l .nil))⟩
  .cases g
 obtain⟨a,xs,h1,h2,k⟩:=Ye (R:=λx v H Q=>WF x [v] H Q) o j q h;exact⟨.ref a,h1,.inl ⟨rfl,xs,.inl (.inl h2)⟩,k⟩
theorem zN{px apos cpos:Pos}(I:X.N[i]?=iO x)(A:Vis X.env.scope x)(l:i∈own)(B:PE X e (tE C own .fr fe))(hd:Dbg x:=by decide)(j:Cdk x:=by decide)(f:lj (.Name x px) "extend" X.env (Y9 (.Name x px) X.env)=Y9 (.Name x px) X.env:=by rfl)
  (w:((lq cpos (iX [e] X.env)).all (λx=>!x.1)&&(ml cpos (lG [] X.env)).all (λx=>x.1.isSome)
   && decide ([e].length+([]:List lv).length+(if ([]:List lv).isEmpty then 0 else 1)<30))=true:=by exact uo rfl)
  (c:(apos.endLine == cpos.line)=true:=by rfl) (hs:iX [e] X.env=[(iS,Y9 e X.env)]:=by exact qD rfl) :
  PE X (.Call (.Attribute (.Name x px) "extend" apos) [e] [] cpos) (tE C own .sh (xx i qcD fe)):=by
 refine jy (ZU dh PySem.F.slot_list_extend PySem.F.type_list_extend ZV (uF I A hd j) (qI B jq hs) f w c hs rfl) λσ H Q t=>?_;obtain⟨F,ρ,p,h⟩:=t;unfold xx at h;by_cases q:yv ρ[i]?=iT
 ·rw [Aa q]at h;obtain⟨ds,hd⟩:=Yd q;obtain⟨a,h1,h2,xs,J,L⟩:=p.ow i _ l hd;refine⟨.ref a,h1,.inl ⟨rfl,xs,.inl (.inl J)⟩,F,ρ,p,Po.bind h λv F1 H1 d ρ1 r O m po=>?_⟩;obtain⟨b,rfl,G,E,k⟩:=m;cases g:ρ1[i]? with
  |none=>simp only[g]at po;exact po.elim
  | some o=>
   cases o with
   |none=>simp only[g]at po;exact po.elim
   | some dd=>
    simp only[g]at po;cases dd with
    | lst es=>
     simp only at po;obtain⟨P,e1,M,vs,K,s⟩:=r.ow i _ l g;rw[h1]at e1;cases e1;cases d with
     |lst ys=>
      obtain⟨zs,y,n⟩:=k;have po:Po C own .sh σ F1 H1 (match (if es.length+ys.length<=Z8 then .ok (es++ys)else .bad:Out (List D))with|.ok ys=>.ok (.non,ρ1.set i (iO (.lst ys)))|_=>.bad) Q:=po;by_cases z:es.length+ys.length<=Z8;·rw[Aa z]at po;refine⟨a,b,vs,zs,rfl,rfl,K,y,by rw[s.length,n.length];exact z,?_⟩;obtain⟨r2,c2⟩:=r.write (u:=.lst (vs++zs)) (d:=.lst (es++ys)) l h1 ⟨_,qh,s.append n⟩;exact po .non F1 _ r2 c2 .non
      .rw[Ab z]at po;exact po.elim
     |dct ys=>exact po.elim
     |ins _ _=>exact po.elim
     |at_ _ _=>exact po.elim
     |_=>exact k.elim
    |_=>exact po.elim
 .rw[Ab q]at h;exact h.elim
end
noncomputable def scB(names:List (Str×lF))(scope:mf):Bool:=decide (scope.kind=.function)&&scope.names.all λy=>decide (y.2≠.cell)&&(!decide (y.2=.local)||decide (scope.names.lookup y.1=iO .local)) &&
 (!decide (y.2=.free)||((decide (names.lookup y.1=iO .cell)||decide (names.lookup y.1=iO .free))&&decide (scope.names.lookup y.1=iO .free)))
variable{names:List (Str×lF)}
theorem qhH(h:X.env.scope.names=names)(b:scB names scope=iT):ScOk X scope:=by
 subst h;unfold scB at b;rw[aQ,aM]at b;obtain⟨c,a⟩:=b;refine⟨Ae c,λy D=>?_,λy D e=>?_,λy D e=>?_,λy D e=>?_⟩;all_goals
  have q:=a y D;simp only[aQ,h8,fQ,decide_eq_true_eq,decide_eq_false_iff_not]at q
 .exact q.1.1
 .exact q.1.2.resolve_left λz=>z e
 .exact(q.2.resolve_left λz=>z e).1
 .exact(q.2.resolve_left λz=>z e).2
noncomputable def qjx(names:List (Str×lF))(N:List Str)(scope:mf)(c:List Str)(nt:Nat)(cap:List Nat):Bool:=decide cap.Nodup&&decide (c.length=nt+cap.length)&&(aH cap.length).all λj=>match cap[j]? with
 |some k=>match c[nt+j]? with
  |some x=>decide (N[k]?=iO x)&&(((decide (names.lookup x=iO .local)||decide (names.lookup x=iO .cell)||decide (names.lookup x=iO .free))&&decide ((x,bL)∈scope.names))||scope.names.all λy=>decide (y.1≠x))
  |none=>iS
 |none=>iS
theorem qdP{c:List Str}(a:X.env.scope.names=names)(d:X.N=N)(b:qjx names N scope c nt cap=iT):CapOk X scope c nt cap:=by
 subst a d;unfold qjx at b;rw[aQ,aQ,aM]at b;obtain⟨⟨i,g⟩,f⟩:=b;refine⟨Ae i,Ae g,λj k D=>?_⟩;have q:=f j (aN.mpr (aD.mp D).1);rw[D]at q;cases e:c[nt+j]? with
 |none=>simp only[e]at q;cases q
 | some x=>
  simp only[e,aQ,h8,decide_eq_true_eq]at q;refine⟨x,rfl,q.1,?_⟩;rcases q.2 with⟨z,q2⟩|z
  .refine .inl ⟨?_,q2⟩;rcases z with(z|z)|z;·exact .inl z
   .exact .inr (.inl z)
   .exact .inr (.inr z)
  .refine .inr λk' h=>?_;rw[aM]at z;exact Ae (z (x,k') h) rfl
theorem uB:yi (CXk P w) X (λ_ _ _=>False):=λ_ _ _ _ _ _ _ h=>by obtain⟨_,_,_,_,_,_,_,_,_,_,_,_,_,_,l⟩:=h;exact l.elim
def qkj(f:qU):qU:=λρ=>(qy f ρ).bind λp=>.ok (.bl (!p.1),p.2)
section
variable{i:Int}
theorem wa(h:∃t,X.mg x=iO (.int i t))(hg:Gl X x)(hd:Dbg x:=by decide):PE X (.Name x pos) (tE C own .sh (dC (.int i))):=by obtain⟨t,h⟩:=h;exact qe6 (v:=.int i) hg h ⟨t,rfl⟩ (λ_=>.int i) hd
end
variable{us:List iR}
section
variable{a b:Z4}{f fa fb:qU}
noncomputable def yw:D->Out D
 |.lst xs=>.ok (.tup xs)
 |.tup xs=>.ok (.tup xs)
 |_=>.bad
noncomputable def qfn:D->Out D
 |.lst xs=>.ok (.lst xs)
 |.tup xs=>.ok (.lst xs)
 |_=>.bad
theorem Jb(n:C.K=X.K):KL X C .sh (.type "tuple") yw:=by
 intro Z9 s σ H xs us Q I r h;obtain⟨x,F,dx,rfl,A,a,po⟩:=h;cases dx with
 |lst ds=>obtain⟨p,vs,rfl,hq,t⟩:=a.lst A;refine yj Z9 s σ H _ us Q I r ⟨p,vs,rfl,.inl ⟨by rw[<-n];exact hq,λl hl=>?_⟩⟩;obtain⟨s2,c2⟩:=wH (u:=.tup vs) A hl;exact po _ _ _ s2 c2 (.tup (.inl (.inl qh)) (t.mono c2.grow))
 | tup ds=>
  rcases a with a|⟨_,_,a⟩
  .have b:=a;cases a with
   |tup hq t=>exact yj Z9 s σ H _ us Q I r ⟨_,_,rfl,.inr ⟨by rw[<-n];exact qW A hq,po _ F H A .refl b⟩⟩
  .exact a.elim
 |_=>exact po.elim
theorem qfo(n:C.K=X.K):KL X C .fr (.type "list") qfn:=by
 intro Z9 s σ H xs us Q I r h;obtain⟨x,F,dx,rfl,A,b,po⟩:=h;cases dx with
 |lst ds=>obtain⟨p,vs,rfl,hq,t⟩:=b.lst A;refine xq Z9 s σ H _ us Q I r ⟨p,vs,rfl,.inl (by rw[<-n];exact hq),λl hl=>?_⟩;obtain⟨s2,c2,a⟩:=jT (u:=.lst vs) A hl;exact po _ _ _ s2 c2 ⟨l,rfl,hl,a,vs,qh,t⟩
 |tup ds=>obtain⟨p,vs,rfl,hq,t⟩:=b.tup A;refine xq Z9 s σ H _ us Q I r ⟨p,vs,rfl,.inr (by rw[<-n];exact hq),λl hl=>?_⟩;obtain⟨s2,c2,a⟩:=jT (u:=.lst vs) A hl;exact po _ _ _ s2 c2 ⟨l,rfl,hl,a,vs,qh,t⟩
 |_=>exact po.elim
def GD(X:Cx)(C:Ct)(m:Mo)(f:iR)(g:D->D->Out D):Prop:=vG X f (λxs H Q=>∃x y F dx d,xs=[x,y]/\Same F H/\TopIs C.K F H x dx/\TopIs C.K F H y d/\PoV C m F H (g dx d) Q)
theorem Yg{Q:VK}(k:ma≠.any)(h:tE C own m (d2 g fa fb) σ H Q):qcb (tE C own ma fa) (qcb (tE C own mb fb) qjs) σ H λxs H1=>∃x y F dx a,xs=[x,y]/\Same F H1/\TopIs C.K F H1 x dx/\TopIs C.K F H1 y a/\PoV C m F H1 (g dx a) Q:=by
 obtain⟨F,ρ,n,h⟩:=KC (mb:=mb) k h;refine⟨F,ρ,n,?_⟩;cases q:fa ρ with
 |ok p=>
  rw[q]at h;obtain⟨d,ρ1⟩:=p;intro v F1 H1 e o j;obtain⟨t,ρ2,b,h2⟩:=h v F1 H1 e o j;refine⟨t,ρ2,b,?_⟩;cases f:fb ρ2 with
  |ok p=>rw[f]at h2;obtain⟨d',l⟩:=p;intro w u s r I i;obtain⟨L,dx,a,z⟩:=h2 w u s r I i;exact⟨v,w,L,dx,a,rfl,z⟩
  |exc c=>rw[f]at h2;exact h2
  |bad=>rw[f]at h2;exact h2.elim
 |exc c=>rw[q]at h;exact h
 |bad=>rw[q]at h;exact h.elim
theorem KS{id:String}{p:Pos}(e:GD X C m (.builtin id) g)(hg:Gl X x)(d:X.mg x=iQ)(v:iY x=iO (.builtin id))(j:PE X a (tE C own ma fa))(i:PE X b (tE C own mb fb))(f:ma≠.any:=by decide)(hn:x ≠ "__name__":=by decide)(c:Dbg x:=by decide)(h1:iX [a,b] X.env=(iS,Y9 a X.env)::iX [b] X.env:=by rfl)(h2:iX [b] X.env=[(iS,Y9 b X.env)]:=by exact qD rfl):PE X (.Call (.Name x p) [a,b] [] pos) (tE C own m (d2 g fa fb)):=
 jy (um e hg d v (qI j (qI i jq h2) h1) hn c (by rw[h1]) (by rw[h2];rfl)) λ_ _ _ h=>Yg f h
def qjy:D->D->Out D:=zp λi j=>.ok (.int (if j > i then j else i))
def qjz:D->D->Out D:=zp λi j=>.ok (.int (if j<i then j else i))
theorem qhI(d:X.calm=iT):GD X C .sh (.builtin "max") qjy:=by
 intro Z9 s σ H xs us Q I r h;obtain⟨x,y,F,dx,a,rfl,A,t,ty,po⟩:=h;cases dx <;> try exact po.elim
 cases a <;> try exact po.elim
 obtain rfl:=t.int;obtain rfl:=ty.int;exact ZQ d Z9 s σ H _ us Q I r ⟨_,_,rfl,po _ F H A .refl (.int _)⟩
theorem qhJ(d:X.calm=iT):GD X C .sh (.builtin "min") qjz:=by
 intro Z9 s σ H xs us Q I r h;obtain⟨x,y,F,dx,a,rfl,A,t,ty,po⟩:=h;cases dx <;> try exact po.elim
 cases a <;> try exact po.elim
 obtain rfl:=t.int;obtain rfl:=ty.int;exact ZR d Z9 s σ H _ us Q I r ⟨_,_,rfl,po _ F H A .refl (.int _)⟩
noncomputable def kt(a T:String):Option Bool:=if (iB a == iB T)=iT then iO iT else if PySem.W.kitMeta T=iT then(fastBuiltinMro a).map (·.contains (.type T))else iQ
theorem qcE(K:Y8)(a T:String):dN K (.type a) (.type T)=kt a T:=rfl
noncomputable def tyN:D->Option String
 |.non=>iO "NoneType"
 |.bl _=>iO "bool"
 |.int _=>iO "int"
 |.str _=>iO "str"
 |.tup _=>iO "tuple"
 |.lst _=>iO "list"
 |.dct _=>iO "dict"
 |_=>iQ
def xa(T:String)(d:D):Out D:=match tyN d with
 |some a=>match kt a T with
  |some b=>.ok (.bl b)
  |none=>.bad
 |none=>.bad
theorem qcF(i:C.K=X.K):vG X (.builtin "isinstance") (λxs H Q=>∃x F d,xs=[x,.ty T]/\Same F H/\TopIs C.K F H x d/\PoV C .sh F H (xa T d) Q):=by
 intro Z9 s σ H xs us Q I r h;obtain⟨x,F,d,rfl,A,f,po⟩:=h;obtain⟨u,c,rfl,B,j⟩:=qca r;cases j;cases q:tyN d with
 |none=>unfold xa at po;rw[q]at po;exact po.elim
 | some a=>
  cases g:kt a T with
  |none=>unfold xa at po;rw[q]at po;simp only[g]at po;exact po.elim
  | some b=>
   have po:PoV C .sh F H (.ok (.bl b)) Q:=by unfold xa at po;rw[q]at po;simp only[g]at po;exact po
   have fin:∀tk,EP X Z9 σ Q (.bool b) { s with toks:=tk }:=λtk=>⟨.bl b,H,I.tok tk,rfl,po _ F H A .refl (.bl b)⟩
   have e:dN X.K (.type a) (.type T)=iO b:=(qcE X.K a T).trans g;cases d with
   |non=>obtain rfl:=f.non;cases B;cases q;exact cT PySem.W.kitx_none I.kIn c6 e (λz=>nomatch z) fin
   |bl y=>obtain rfl:=f.bl;cases B;cases q;exact cT PySem.W.kitx_bool I.kIn c6 e (λz=>nomatch z) fin
   |int y=>obtain rfl:=f.int;obtain⟨t,rfl⟩:=B;cases q;exact cT PySem.W.kitx_int I.kIn c6 e (λz=>nomatch z) fin
   |str y=>obtain⟨rfl,_⟩:=f.str;obtain⟨t,rfl⟩:=B;cases q;exact cT PySem.W.kitx_str I.kIn c6 e (λz=>nomatch z) fin
   |tup y=>obtain⟨p,vs,rfl,hq,t⟩:=f.tup A;cases B;cases q;obtain⟨its,_,⟨o,h1,h2,_⟩,_⟩:=I.tuple (show SqT X.K H p vs by rw[<-i];exact hq);exact cT PySem.W.kitx_tuple I.kIn ⟨o,h1,h2⟩ e (λz=>nomatch z) fin
   |lst y=>obtain⟨p,vs,rfl,hq,t⟩:=f.lst A;cases B;cases q;obtain⟨its,_,⟨o,n,h1,h2,_⟩,_⟩:=I.list (show SqL X.K H p vs by rw[<-i];exact hq);exact cT PySem.W.kitx_list I.kIn ⟨o,h1,h2⟩ e (λz=>nomatch z) fin
   |dct y=>
    obtain⟨p,vs,rfl,hq,t⟩:=f.dct A;cases B;cases q;obtain⟨_,_,ws,_,o,es,ep,h1,h2,_⟩:=(show ObjOk X.prog X.w H s.heap p (.dK vs)from I.hok p _ hq)
    exact cT PySem.W.kitx_dict I.kIn ⟨o,h1,h2.1⟩ e (λz=>nomatch z) fin
   |_=>cases q
theorem xy{tn:Str}{p t:Pos}(n:C.K=X.K)(hg:Gl X "isinstance")(j:X.mg "isinstance"=iQ)(i:iY "isinstance"=iO (.builtin "isinstance"))(ht:Gl X tn)(e:X.mg tn=iQ)(b:iY tn=iO (.type T))(k:PE X a (tE C own ma fa))(hn:tn ≠ "__name__":=by decide)(f:Dbg tn:=by decide)(h1:iX [a,.Name tn t] X.env=(iS,Y9 a X.env)::iX [.Name tn t] X.env:=by rfl)(h2:iX [.Name tn t] X.env=[(iS,Y9 (.Name tn t) X.env)]:=by rfl):PE X (.Call (.Name "isinstance" p) [a,.Name tn t] [] pos) (tE C own .sh (d1 (xa T) fa)):=by
 refine jy (um (qcF (T:=T) n) hg j i (qI k (qI (qeF (v:=.ty T) ht e b rfl hn f) jq h2) h1) (by decide) (by decide) (by rw[h1]) (by rw[h2];rfl)) λσ H Q h=>?_;obtain⟨F,ρ,g,h⟩:=qck (ma:=ma) h;refine⟨F,ρ,g,?_⟩;cases q:fa ρ with
 |ok p=>rw[q]at h;obtain⟨d,ρ1⟩:=p;intro v F1 H1 r l m;obtain⟨o,dx,z⟩:=h v F1 H1 r l m;exact⟨v,o,dx,rfl,z⟩
 |exc c=>rw[q]at h;exact h
 |bad=>rw[q]at h;exact h.elim
noncomputable def xz:List D->Option (List Bool)
 |[]=>iO []
 |.bl b::ds=>(xz ds).map (b::·)
 |_::_=>iQ
def XO:D->Out D
 |.lst ds=>match xz ds with
  |some bs=>.ok (.bl (bs.all id))
  |none=>.bad
 |_=>.bad
theorem qcG{bs:List Bool}(a:IsL K F vs ds)(l:Vals vs us)(e:xz ds=iO bs):us=bs.map dI:=by
 induction ds generalizing vs us bs with
 |nil=>cases a;cases l;cases e;rfl
 | cons d ds j=>
  cases a with
  | cons i a=>
   cases l with
   |cons r l=>
    cases d with
    |bl b=>obtain⟨c,e1,rfl⟩:=aO.mp (show(xz ds).map (b::·)=iO bs from e);cases i;cases r;rw[j a l e1];rfl
    |_=>cases e
set_option tactic.hygienic true in
theorem Qh(n:C.K=X.K)(k:X.calm=iT):KL X C .sh (.builtin "all") XO:=by
 intro Z9 s σ H xs us Q I r h;obtain⟨x,F,dx,rfl,d,g,po⟩:=h;cases dx <;> try exact po.elim
 rename_i ds;obtain⟨p,vs,rfl,hq,t⟩:=g.lst d;obtain⟨u,rfl,B⟩:=wv r;cases B;unfold XO at po;cases q:xz ds with
 |none=>simp only[q]at po;exact po.elim
 | some bs=>
  simp only[q]at po;obtain⟨its,j,pl,z⟩:=I.list (show SqL X.K H p vs by rw[<-n];exact hq);have J:=qcG t j q;subst J;have hp:p<s.heap.objs.size:=let ⟨o,h1,_⟩:=pl.isList;ax h1;refine call_all_walk (l7 pl.isList ?_);have W:Walks X.prog X.w X.A.in1 s.heap.objs.size [s.heap.objs.size,p] [s.heap.objs.size] (bs.map dI).toArray.size (λi v=>(bs.map dI).toArray[i]?=iO v) (λi h=>h.IsListIter s.heap.objs.size p i/\h.IsList p (bs.map dI).toArray):=iN (A:=X.A.in1) (show X.A.in1.handled=iQ from I.ok.hd k) s.heap.objs.size p (aC hp) _;have st:(s.heap.push { cls:=.type "list_iterator",data:=.fields #[.ref p,.int 0 0] }).IsListIter s.heap.objs.size p 0/\(s.heap.push { cls:=.type "list_iterator",data:=.fields #[.ref p,.int 0 0] }).IsList p (bs.map dI).toArray:=⟨⟨_,ak _ rfl,rfl,rfl⟩,let ⟨o,h1,h2⟩:=pl.isList; ⟨o,aa _ h1,h2⟩⟩
  refine⟨_,_,_,_,_,_,λi=>(bs[i]?).getD iS,rfl,W,st,λi v s' y E m c=>?_,λh' tk kp=>?_⟩
  .have m:(bs.map dI).toArray[i]?=iO v:=m;rw[e7,aG]at m;cases f:bs[i]? with
   |none=>rw[f]at m;cases m
   |some b=>have a:y ((bs[i]?).getD iS) s':=c;rw[f]at m a;cases m;exact lh a
  .have e:(aH (bs.map dI).toArray.size).all (λi=>(bs[i]?).getD iS)=bs.all id:=by
    rw[au,ao,d6,aM,aM];constructor;·intro h b l;obtain⟨i,hi,e⟩:=dO.mp l;have:=h i (aN.mpr hi);rw[ay hi,e]at this;exact this
    .intro h i hi;have hi:=aN.mp hi;rw[ay hi];exact h _ (bE hi)
   rw[e];refine⟨.bl (bs.all id),H,?_,rfl,po _ F H d .refl (.bl _)⟩;have k2:∀b o,s.heap.get? b=iO o->h'.get? b=iO o:=λb o J=>kp b o (by simp;exact aC (ax J)) (aa _ J);exact I.kept (t':=tk) k2
end
noncomputable def vM(idx:List Nat)(xs:List α):List α:=idx.filterMap λk=>xs[k]?
theorem IsL.pick(h:IsL K F vs ds):∀(idx:List Nat),IsL K F (vM idx vs) (vM idx ds)
 |[]=>.nil
 |k::idx=>by
  unfold vM;rw[bT,bT];cases e:vs[k]? with
  |none=>have a:ds[k]?=none:=cu.mpr (by rw[<-h.length];exact cu.mp e);rw[a];exact IsL.pick h idx
  |some v=>obtain⟨d,a,i⟩:=h.get e;rw[a];exact .cons i (IsL.pick h idx)
theorem zO(h:Vals vs us):∀(idx:List Nat),Vals (vM idx vs) (vM idx us)
 |[]=>.nil
 |k::idx=>by
  unfold vM;rw[bT,bT];cases e:vs[k]? with
  |none=>rw[h.none_of e];exact zO h idx
  |some v=>obtain⟨u,i,r⟩:=h.get e;rw[i];exact .cons r (zO h idx)
theorem qcH(xs:List α):vM (aH xs.length) xs=xs:=by unfold vM;have:=PySem.W.krv_all xs.toArray;simpa using this
noncomputable def KU(n:Nat)(lo hi:Option Int)(st:Int):List Nat:=(aH (dX (bH lo hi st n).1 (bH lo hi st n).2 st)).map λ(k:Nat)=>((bH lo hi st n).1+(k:Int) * st).toNat
noncomputable def Qi(x:Str)(lo hi:Option Int)(st:Int):Str:=if (st == 1&&(dG lo hi st x.length).length == x.length)=iT then x else⟨((dG lo hi st x.length).filterMap (x.cps[·]?)).toArray⟩
def slD(lo hi st:Option Int):D->Out D
 |.tup xs=>if st.getD 1≠0/\(vM (KU xs.length lo hi (st.getD 1)) xs).length<=Z8 then .ok (.tup (vM (KU xs.length lo hi (st.getD 1)) xs))else .bad
 |.str x=>if st.getD 1≠0/\(Qi x lo hi (st.getD 1)).length<=Z8 then .ok (.str (Qi x lo hi (st.getD 1)))else .bad
 |_=>.bad
def qlb(X:Cx)(r:V->Option Int->Option Int->Option Int->Hp->VK->Prop):Prop:=
 ∀(Z9:Pns)(s:iV)(σ:St)(H:Hp)(x:V)(v vl u k:iR)(lo hi st:Option Int)(sl:Z7)(Q:VK),Inv X Z9 σ H s->RelV x v->s.heap.IsSliceOf sl vl u k->mh vl lo->mh u hi->mh k st->r x lo hi st H Q ->∃T id,ng (.type T) "__getitem__"=pure (iO (.builtin id))/\s.TypeIs v T/\iW (Z6 X.prog X.w) X.A (mW v (.ref sl)) (EP X Z9 σ Q) X.xe s
section
variable{prog:iZ}
theorem gU{sl:Z7}{vl u k:iR}{lo hi st:Option Int}{n:Nat}{Q:Int×Int×Nat->iV->Prop}(hs:s.heap.IsSliceOf sl vl u k)(pl:mh vl lo)(p:mh u hi)(c:mh k st)(e:st.getD 1≠0)(h:Q ((bH lo hi (st.getD 1) n).1,st.getD 1,dX (bH lo hi (st.getD 1) n).1 (bH lo hi (st.getD 1) n).2 (st.getD 1)) s):iW (Z6 prog w) A (Builtin.Slice.sliceApplied (.ref sl) (pure (n:Int))) Q E s:=by
 obtain⟨os,a,d,b⟩:=id hs;unfold Builtin.Slice.sliceApplied Builtin.Slice.sliceFields;refine iP (iP (j8 a b (x:=vl) rfl (iP (j8 a b (x:=u) rfl (iP (j8 a b (x:=k) rfl (iU ?_)))))));refine iP (HT.slicePart_ c ?_);show iW _ _ (if (st.getD 1 == 0)=iT then _ else _) _ _ s;rw[Ab (by simpa using e)];refine iP (HT.slicePart_ pl (iP (HT.slicePart_ p (iP (iU ?_)))));exact iU h
theorem zQ{t sl:Z7}{items:Array iR}{vl u v:iR}{lo hi st:Option Int}{Q:iR->iV->Prop}(ht:IsTup s.heap t items)(hs:s.heap.IsSliceOf sl vl u v)(pl:mh vl lo)(p:mh u hi)(j:mh v st)(r:st.getD 1≠0)(l:KU items.size lo hi (st.getD 1)=aH items.size->Q (.ref t) s)(h:Q (.ref s.heap.objs.size) { s with heap:=s.heap.push { cls:=.type "tuple",data:=.seq (vM (KU items.size lo hi (st.getD 1)) items.toList).toArray } })(hsz:(vM (KU items.size lo hi (st.getD 1)) items.toList).length<=Z8):iW (Z6 prog w) A (mW (.ref t) (.ref sl)) Q E s:=by
 obtain⟨os,b,d,n⟩:=id hs;have f:s.TypeIs (.ref sl) "slice":=⟨os,b,d⟩
 unfold mW;try with_reducible refine j6 ?_
 first|refine iP (iU ?_)|skip
 refine iP (wpAny_sequenceKey ht.typeIs (by decide) ?_);refine iP (i9 (name:=bq "__getitem__") ht.typeIs db
  (i7 db ht.typeIs entry_tuple_getitem ?_ (args_tuple_getitem _ _)))
 show iW _ _ (Builtin.Tuple.tupleItemsOf (.ref t) >>= _) _ _ s;refine iP (tupleItemsOf_ ht ?_);refine iP (lI f ?_);rw[Aa (by decide)];refine iP (gU hs pl p j r ?_);generalize hA:bH lo hi (st.getD 1) items.size=A0;generalize N:dX A0.1 A0.2 (st.getD 1)=N0;have ep:vM (KU items.size lo hi (st.getD 1)) items.toList=(aH N0).filterMap λ(k:Nat)=>items[(A0.1+(k:Int) * st.getD 1).toNat]?:=by unfold vM KU;rw[hA,N,List.filterMap_map];congr 1;funext k;simp
 rw[ep]at h hsz;by_cases c:(A0.1 == 0&&st.getD 1 == 1&&N0 == items.size)=iT
 .have R:=c;rw[aQ,aQ]at R;have i:A0.1=0:=eq_of_beq R.1.1;have g:st.getD 1=1:=eq_of_beq R.1.2;have q:N0=items.size:=eq_of_beq R.2;have whole:KU items.size lo hi (st.getD 1)=aH items.size:=by
   unfold KU;rw[hA,N,i,g,q];have e:(λ(k:Nat)=>((0:Int)+(k:Int) * 1).toNat)=id:=by
    funext k;show((0:Int)+(k:Int) * 1).toNat=k
    lia
   rw[e,List.map_id]
  have o:=l whole;show iW _ _ (if (A0.1 == 0&&st.getD 1 == 1&&N0 == items.size)=iT then _ else _) _ _ s;rw[Aa c];unfold Builtin.Tuple.tupleIsExact;refine iP (iP (lI ht.typeIs (iU ?_)));rw[Aa (by decide)];exact iP (lX (iU ⟨_,rfl,iU o⟩))
 .show iW _ _ (if (A0.1 == 0&&st.getD 1 == 1&&N0 == items.size)=iT then _ else _) _ _ s;rw[Ab c];have a:sizeOk (.seq ((aH N0).filterMap λ(k:Nat)=>items[(A0.1+(k:Int) * st.getD 1).toNat]?).toArray):=by show(((aH N0).filterMap λ(k:Nat)=>items[(A0.1+(k:Int) * st.getD 1).toNat]?).toArray).size<=Z8;rw[au];exact hsz
  first
   |exact iP (m:=bW _) (i4 (iU ⟨_,rfl,iU h⟩) a)
   |exact iP (m:=bW _) (i4 (iP (iU (iU ⟨_,rfl,iU h⟩))) a)
   |exact iP (iP (m:=bW _) (i4 (iU (iU ⟨_,rfl,iU h⟩)) a))
   |exact iP (iP (m:=bW _) (i4 (iU ⟨_,rfl,iU h⟩) a))
end
def PoO(C:Ct)(own:List Nat)(σ:St)(F H:Hp)(r:Out (Option Int×Sl))(Q:Option Int->Hp->Prop):Prop:=match r with
 |.ok (b,ρ')=>∀F' H',Rep C.K own F' H' σ ρ'->Chg (OA own σ) F H F' H'->Q b H'
 |.exc c ρ'=>∀F' H',Same F' H'->qbW C.K C.ox F' H' σ ρ'->Chg (OA own σ) F H F' H'->C.E (C.cv c) iQ H'
 |.bad=>False
def tO(C:Ct)(own:List Nat)(f:Sl->Out (Option Int×Sl)):TO:=λσ H Q=>∃F ρ,Rep C.K own F H σ ρ/\PoO C own σ F H (f ρ) Q
def uC:Option (qU)->Sl->Out (Option Int×Sl)
 |none,ρ=>.ok (iQ,ρ)
 |some f,ρ=>(f ρ).bind λp=>match p.1 with
  |.int i=>.ok (iO i,p.2)
  |_=>.bad
theorem Po.bindO{o:Out (Option Int×Sl)}{k:Option Int×Sl->KB}{Q:VK}{R:Option Int->Hp->Prop}(hp:Po C own m σ F H (o.bind k) Q)(h:∀F1 H1 b ρ1,Rep C.K own F1 H1 σ ρ1->Chg (OA own σ) F H F1 H1->Po C own m σ F1 H1 (k (b,ρ1)) Q->R b H1):PoO C own σ F H o R:=by
 cases o with
 |ok p=>obtain⟨d,ρ1⟩:=p;exact λF1 H1 a c=>h F1 H1 d ρ1 a c (Po.shift (show Po C own m σ F H (k (d,ρ1)) Q from hp) c)
 |exc x=>exact hp
 |bad=>exact hp.elim
def zR(fa:qU)(l u k:Option (qU)):qU:=λρ=>(fa ρ).bind λp=>(uC l p.2).bind λa=>(uC u a.2).bind λb=>(uC k b.2).bind λc=>(slD a.1 b.1 c.1 p.1).plain.bind λd=>.ok (d,c.2)
section
variable{a:Z4}{fa f:qU}{p2:Pos}
theorem vh:PO X iQ (tO C own (uC iQ)):=by rintro Z9 s σ H Q I ⟨F,ρ,a,h⟩;exact qeS Z9 s σ H Q I (h F H a .refl)
theorem vi(h:PE X e (tE C own m f)):PO X (iO e) (tO C own (uC (iO f))):=by
 rintro Z9 s σ H Q I ⟨F,ρ,r,hp⟩;refine qeT h Z9 s σ H Q I ⟨F,ρ,r,?_⟩;have hp:PoO C own σ F H ((f ρ).bind λp=>match p.1 with|.int i=>.ok (iO i,p.2)|_=>.bad) Q:=hp;cases q:f ρ with
 |ok p=>
  rw[q]at hp;obtain⟨d,ρ1⟩:=p;cases d with
  |int i=>exact λv F1 H1 a k b=>⟨i,b.top.int,hp F1 H1 a k⟩
  |_=>exact hp.elim
 |exc c=>rw[q]at hp;exact hp
 |bad=>rw[q]at hp;exact hp.elim
theorem GE{r:V->Option Int->Option Int->Option Int->Hp->VK->Prop}{tl th tk:TO}{lo hi st:Option Z4}(hr:qlb X r)(B:PE X e te)(hl:PO X lo tl)(t:PO X hi th)(y:PO X st tk):PE X (.Subscript e (.Slice lo hi st p2) pos) (λσ H Q=>te σ H λx H1=>tl σ H1 λl H2=>th σ H2 λu f=>tk σ f λk d=>r x l u k d Q):=by
 refine⟨?_⟩;intro Z9 s σ H Q I h;refine Subscript_ (thn (B Z9 s σ H _ I h) λv s1 z=>?_);obtain⟨x,H1,G,r1,n⟩:=z;refine wpAny_Slice (thn (hl Z9 s1 σ H1 _ G n) λvl s2 ⟨l,H2,E,pl,m⟩=>thn (t Z9 s2 σ H2 _ E m) λa s3 ⟨u,f,D,p,j⟩=>thn (y Z9 s3 σ f _ D j) λc s4 z=>?_);obtain⟨k,d,C,o,i⟩:=z;have J:Inv X Z9 σ d { s4 with heap:=s4.heap.push { cls:=.type "slice",data:=.fields #[vl,a,c] } }:=C.kept (t':=s4.toks) λb K q=>aa _ q;obtain⟨T,id,g,ht,hg⟩:=hr Z9 { s4 with heap:=s4.heap.push { cls:=.type "slice",data:=.fields #[vl,a,c] } } σ d x v vl a c l u k s4.heap.objs.size Q J r1 (Heap.IsSliceOf.new ..) pl p o i;show iW (Z6 X.prog X.w) X.A (subscriptTail e (.Slice lo hi st p2) v (.ref s4.heap.objs.size)) (EP X Z9 σ Q) X.xe { s4 with heap:=s4.heap.push { cls:=.type "slice",data:=.fields #[vl,a,c] } };cases st with
 |none=>exact nr (ops:=[.ref s4.heap.objs.size,v]) ht g hg (by with_unfolding_all rfl)
 |some st=>exact nr (ops:=[v,.ref s4.heap.objs.size]) ht g hg (by with_unfolding_all rfl)
theorem Jc{v:iR}{o:Option Int}(h:mh v o):∃l:Option (Int×Tok),v=partValue l/\l.map (·.1)=o:=by
 cases h with
 |none=>exact⟨iQ,rfl,rfl⟩
 |int i t=>exact⟨iO (i,t),rfl,rfl⟩
theorem qlR(D:C.K=X.K):qlb X (λx lo hi st H Q=>∃F d,Same F H/\Is C.K F x d/\PoV C .sh F H (slD lo hi st d) Q):=by
 intro Z9 s σ H x v vl G J lo hi st sl Q I j hs pl p y h;obtain⟨F,d,A,is,po⟩:=h;cases d with
 | tup ds=>
  have i:=is;cases is with
  | @tup a xs _ hq t=>
   cases j;have f:SqT X.K H a xs:=by rw[<-D];exact qW A hq
   obtain⟨its,r,ht,M⟩:=I.tuple f;have n:its.length=ds.length:=r.length.symm.trans t.length;have po:PoV C .sh F H (if st.getD 1≠0/\(vM (KU ds.length lo hi (st.getD 1)) ds).length<=Z8 then .ok (.tup (vM (KU ds.length lo hi (st.getD 1)) ds))else .bad) Q:=po;by_cases c:st.getD 1≠0/\(vM (KU ds.length lo hi (st.getD 1)) ds).length<=Z8
   .rw[Aa c]at po;have w:=t.pick (KU ds.length lo hi (st.getD 1));have m:=zO r (KU ds.length lo hi (st.getD 1));refine⟨"tuple",_,db.lookup,ht.typeIs,zQ ht hs pl p y c.1 (λe=>?_) ?_ ?_⟩;·rw[au,n]at e;refine⟨.ref a,H,I,rfl,po _ F H A .refl ?_⟩;rw[e,qcH];exact i
    .simp only[au,n];have g:(vM (KU ds.length lo hi (st.getD 1)) xs).length<=Z8:=by rw[w.length];exact c.2
     refine⟨.ref s.heap.objs.size,_,I.laid (t':=s.toks) (o:=.tup (vM (KU ds.length lo hi (st.getD 1)) xs)) (λb L q=>aa _ q) (ap _) ⟨⟨g,⟨_,ak _ rfl,rfl⟩⟩,_,m,iF _ _⟩,rfl,?_⟩;obtain⟨s2,c2⟩:=wH (u:=.tup (vM (KU ds.length lo hi (st.getD 1)) xs)) A (I.hok.fresh (ap _));exact po _ _ _ s2 c2 (.tup (.inl (.inl qh)) (w.mono c2.grow))
    .simp only[au,n];rw[<-m.length,w.length];exact c.2
   .rw[Ab c]at po;exact po.elim
 | str z=>
  cases is;obtain⟨t,rfl⟩:=j;have po:PoV C .sh F H (if st.getD 1≠0/\(Qi z lo hi (st.getD 1)).length<=Z8 then .ok (.str (Qi z lo hi (st.getD 1)))else .bad) Q:=po;by_cases c:st.getD 1≠0/\(Qi z lo hi (st.getD 1)).length<=Z8
  .rw[Aa c]at po;obtain⟨l,rfl,el⟩:=Jc pl;obtain⟨u,rfl,E⟩:=Jc p;obtain⟨k,rfl,B⟩:=Jc y;refine⟨"str",_,PySem.F.slot_str_getitem.lookup,typeIs_str s z t,wpAny_getItem_str_slice (l:=l) (u:=u) (st:=k) hs (by rw[B];simpa using c.1) ?_⟩;have c2:=c.2;unfold sliceMade slicePicked;rw[el,E,B];unfold Qi at c2 po;by_cases q:(st.getD 1 == 1&&(dG lo hi (st.getD 1) z.length).length == z.length)=iT;·rw[Aa q]at c2 po ⊢;exact⟨.str z,H,I,⟨t,rfl⟩,po _ F H A .refl (.str c2)⟩
   .rw[Ab q]at c2 po ⊢;exact⟨c2,.str _,H,I.tok _,⟨_,rfl⟩,po _ F H A .refl (.str c2)⟩
  .rw[Ab c]at po;exact po.elim
 |_=>exact po.elim
theorem zv{lo hi st:Option Z4}{l u k:Option (qU)}(t:C.K=X.K)(s:PE X e (tE C own ma fa))(hl:PO X lo (tO C own (uC l)))(o:PO X hi (tO C own (uC u)))(q:PO X st (tO C own (uC k)))(n:ma≠.any:=by decide):PE X (.Subscript e (.Slice lo hi st p2) pos) (tE C own .sh (zR fa l u k)):=by
 refine jy (GE (qlR (C:=C) t) (uW s n) hl o q) λσ H Q ⟨F,ρ,p,h⟩=>⟨F,ρ,p,Po.bind h λv F1 H1 d ρ1 j A m h1=>?_⟩
 refine⟨F1,ρ1,j,Po.bindO h1 λz H2 a ρ2 i c2 h2=>⟨z,ρ2,i,Po.bindO h2 λy E b f g I x=>⟨y,f,g,Po.bindO x λL D c B r G w=>?_⟩⟩⟩;exact⟨L,d,r.sub,((m.mono c2.grow).mono I.grow).mono G.grow,PoV.of r w⟩
end
noncomputable def Its(x:Str):It:=⟨λi _=>i<x.cps.size,λi H v H'=>H'=H/\∃c,x.cps[i]?=iO c/\v=.str ⟨#[c]⟩,λi _=>x.cps.size<=i⟩
noncomputable def KW(x:Str):List D:=x.cps.toList.map λc=>.str ⟨#[c]⟩
theorem Yh{P:iZ}{w:i3}{K:Y8}{tg:Z4}(it:Z7)(x:Str)(t:Tok)(ty:String)(hn:["enumerate","zip","dict_itemiterator","dict_reverseitemiterator","odict_iterator","itertools.zip_longest","itertools.pairwise"].contains ty=iS)(W:∀A:j4,A.handled=iQ->Walks P w A it [it] [it] x.cps.size (SignAt x) (λi h=>h.IsStrIter it ty x t i))(y:∀(A:j4)(i:Nat)(s:iV)(Q:iR->iV->Prop)(E:iR->iV->Prop),s.heap.IsStrIter it ty x t i->Q (.ref it) s->iW (Z6 P w) A (m9 (.ref it)) Q E s) :
  Turn P w K tg (Its x) [it] it (λi h=>h.IsStrIter it ty x t i/\i<=x.cps.size) where
 mem:=by simp
 obj:=λi h st b a=>by
  have e:b=it:=by simpa using a
  subst e;obtain⟨o,e,c,d⟩:=st.1;exact⟨o,e,λv z=>by rw[d]at z;cases z⟩
 keep:=λi h h' st k=>by obtain⟨⟨o,e,r⟩,hi⟩:=st;exact⟨⟨o,k it (by simp) o e,r⟩,hi⟩
 item:=by
  intro X m j n l i Z9 s σ H E I f st hg;subst m j n;obtain⟨f0,f1,f2,p,f4,q⟩:=f it (by simp);refine(W X.A (I.ok.hd l)).item i s _ _ hg st.1 λv h' tk m g kp=>?_;have B:Inv X Z9 σ H { s with heap:=h',toks:=tk }:=I.turned (t':=tk) (λb o a e=>kp b o (by simpa using a) e) f0 f1 p f4 q;obtain⟨o,e,c,d⟩:=id g;obtain⟨T,u,h1,h2⟩:∃T u,x.cps[i]?=iO T/\v=dR ⟨#[T]⟩ u:=by
   unfold SignAt at m;first
    |exact m
    |(obtain⟨T,u,h1,h2⟩:=m;exact⟨T,u,h1,h2⟩)
    |(obtain⟨T,h1,u,h2⟩:=m;exact⟨T,u,h1,h2⟩)
    |(obtain⟨u,T,h1,h2⟩:=m;exact⟨T,u,h1,h2⟩)
  subst h2;exact⟨_,rfl,qb6 (s:={ s with heap:=h',toks:=tk }) e c d hn ⟨.str ⟨#[T]⟩,H,B,⟨u,rfl⟩,⟨rfl,T,h1,rfl⟩,⟨g,hg⟩,λb a=>(f b a).1⟩⟩
 done:=by intro X m j n l i Z9 s σ H E I f st hg;subst m j n;obtain⟨f0,f1,f2,p,f4,q⟩:=f it (by simp);have hi:i=x.cps.size:=Nat.le_antisymm st.2 hg;subst hi;exact(W X.A (I.ok.hd l)).done s _ _ st.1 λh' tk kp=>⟨rfl,I.turned (t':=tk) (λb o a e=>kp b o (by simpa using a) e) f0 f1 p f4 q⟩
 self:=λA i s Q E st h=>y A i s Q E st.1 h
theorem qhK:ItIs K F (Its x) (KW x) where
 go:=λi H hi _=>by
  have:i<x.cps.size:=by simpa[KW]using hi
  exact this
 yld:=λi Fi H v H' d e s1 s2 y=>by
  obtain⟨rfl,c,h1,rfl⟩:=y;have e:d=.str ⟨#[c]⟩:=by
   unfold KW at e;rw[aG]at e;have h1:x.cps.toList[i]?=iO c:=by simpa using h1
   rw[h1]at e;exact(aL.inj e).symm
  subst e;exact⟨Fi,.refl,s2,.str (UU c)⟩
 stop:=λi H hi _=>by
  have:x.cps.size<=i:=by simpa[KW]using hi
  exact this
def jg:D->Out (List D)
 |.lst xs=>.ok xs
 |.tup xs=>.ok xs
 |.str x=>.ok (KW x)
 |_=>.bad
def qV(f:qU):vY:=λρ=>(f ρ).bind λp=>(jg p.1).bind λds=>.ok (ds,p.2)
section
variable{f:qU}
theorem qhL{l:Z4}{tl:TE}(hl:PE X l tl):PI X tg l (λσ H R=>tl σ H λx H1=>(∃a,x=.ref a/\(((∃xs,SqL X.K H1 a xs)/\R (Itl X.K a) H1)\/((∃xs,SqT X.K H1 a xs)/\R (Itt X.K a) H1)))\/∃z,x=.str z/\R (Its z) H1):=by
 refine⟨?_⟩;intro Z9 s σ H R I h;refine thn (hl Z9 s σ H _ I h) λv s1 c=>?_;obtain⟨x,H1,d,r1,f⟩:=c;have fp:∀b∈[s1.heap.objs.size],Wu X Z9 H1 b:=λb k=>by
  have e:b=s1.heap.objs.size:=by simpa using k
  subst e;exact d.fpOk (ap _) (d.hok.fresh (ap _))
 rcases f with⟨a,rfl,q⟩|⟨z,rfl,q⟩
 .cases r1;rcases q with⟨⟨xs,hq⟩,q⟩|⟨⟨xs,hq⟩,q⟩
  .obtain⟨its,r,p,j⟩:=d.list hq;refine l7 p.isList ?_;exact⟨s1.heap.objs.size,[s1.heap.objs.size],_,_,H1,rfl,d.kept (t':=s1.toks) λb o e=>aa _ e,ZK a _,⟨_,ak _ rfl,rfl,rfl⟩,fp,q⟩
  .obtain⟨its,r,p,j⟩:=d.tuple hq;refine lJ (show s1.heap.IsTuple a its.toArray from p) ?_;exact⟨s1.heap.objs.size,[s1.heap.objs.size],_,_,H1,rfl,d.kept (t':=s1.toks) λb o e=>aa _ e,Xz a _,⟨_,ak _ rfl,rfl,rfl⟩,fp,q⟩
 .obtain⟨t,rfl⟩:=r1;cases g:z.cps.all (· < 128)with
  |true=>refine wpAny_pyIter_ascii g ?_;exact⟨s1.heap.objs.size,[s1.heap.objs.size],_,_,H1,rfl,d.kept (t':=s1.toks) λb o e=>aa _ e,Yh _ z t "str_ascii_iterator" (by decide) (λA hA=>Walks.strAscii hA _ z t) (λA i s Q E st h=>wpAny_pyIter_striter_ascii st h),⟨⟨_,ak _ rfl,rfl,rfl⟩,aU _⟩,fp,q⟩
  |false=>refine wpAny_pyIter_wide g ?_;exact⟨s1.heap.objs.size,[s1.heap.objs.size],_,_,H1,rfl,d.kept (t':=s1.toks) λb o e=>aa _ e,Yh _ z t "str_iterator" (by decide) (λA hA=>Walks.strWide hA _ z t) (λA i s Q E st h=>wpAny_pyIter_striter_wide st h),⟨⟨_,ak _ rfl,rfl,rfl⟩,aU _⟩,fp,q⟩
theorem qG(n:C.K=X.K)(h:PE X e (tE C own m f))(b:m≠.any:=by decide):PI X tg e (tIt C own (qV f)):=by
 refine Gw (qhL (uW h b)) λσ H R ⟨F,ρ,r,h⟩=>⟨F,ρ,r,PoI.bindV h λv F1 H1 d ρ1 a k c h1=>?_⟩
 have c:Is C.K F1 v d:=c;cases c with
 |lst p t=>exact .inl ⟨_,rfl,.inl ⟨⟨_,by rw[<-n];exact a.sub.seq p⟩,by rw[<-n];exact h1 _ F1 H1 a k (qhB p t)⟩⟩
 |tup p t=>exact .inl ⟨_,rfl,.inr ⟨⟨_,by rw[<-n];exact qW a.sub p⟩,by rw[<-n];exact h1 _ F1 H1 a k (qhC p t)⟩⟩
 |str z=>exact .inr ⟨_,rfl,h1 _ F1 H1 a k qhK⟩
 |_=>exact h1.elim
end
end L2.D2
namespace L2.D2
open PySem PySem.Spec PySem.Calls PyProof.Rows PySem.W Builtin Builtin.ObjectAttr Builtin.Getset_descriptor
noncomputable def xcB(K:Y8)(C:Z7):Bool:=decide (subIn K (.ref C) (.type "BaseException")=iO iT)&&decide (findIn K (.ref C) "__getattribute__"=iO (iO (.builtin "BaseException.__getattribute__")))&&decide (findIn K (.ref C) "__getattr__"=iO iQ) &&
 decide (findIn K (.ref C) "__class__"=iO (iO (.builtin "object.__class__")))&&decide (mroIn K C (.type "object")=iO iT)&&(clsIn K C).isSome
end L2.D2
namespace L2.D2
open PySem PySem.Spec PyProof.Rows
variable{P:iZ}{w:i3}{K:Y8}{N:List Str}{A:j4}{C:Ct}
theorem qhM{mg:Str->Option iR}{base:Z5}{qual:Str}{scope:mf}{f:Z7}{cd:iR}{outer:List Env}{s0:iV}{H0:Hp}{E:XK}(h:C.E=E):Yc (cxk P w K mg base N qual scope f cd A outer s0 H0 E) C:=by subst h;exact qhG
structure Xs(K:Y8)(cv:Str->iR)(ca:Str->Z7)(cs:List Str)(top:Str):Prop where
 val:∀c∈cs,cv c=.ref (ca c)
 own:∀c∈cs,PySem.W.exmOne K (.ref (ca c)) (cv top)=iO iT
 cls:∀c∈cs,xcB K (ca c)=iT
 kit:∀c∈cs,∀d∈cs,dN K (.ref (ca c)) (.ref (ca d))=iO (decide (ca c=ca d))
 ve:∀c∈cs,dN K (.ref (ca c)) (.type "ValueError")=iO iT
inductive SK where
 |l|t
noncomputable def SK.itc:SK->String
 |.l => "list_iterator"
 |.t => "tuple_iterator"
def SeqK(h:Z5)(a:Z7):SK->Array iR->Prop
 |.l,xs=>h.IsList a xs
 |.t,xs=>h.IsTuple a xs
def ItK(h:Z5)(it a:Z7):SK->Nat->Prop
 |.l,i=>h.IsListIter it a i
 |.t,i=>h.IsTupleIter it a i
def SqK(K:Y8)(H:Hp)(a:Z7):SK->List V->Prop
 |.l,xs=>SqL K H a xs
 |.t,xs=>SqT K H a xs
variable{h h':Z5}{a:Z7}{xs:Array iR}
theorem SeqK.at:∀{k:SK},SeqK h a k xs->(∀o,h.get? a=iO o->h'.get? a=iO o)->SeqK h' a k xs
 |.l,⟨o,e,c⟩,k=>⟨o,k _ e,c⟩
 |.t,⟨o,e,c⟩,k=>⟨o,k _ e,c⟩
theorem SeqK.lt:∀{k:SK},SeqK h a k xs->a<h.objs.size
 |.l,⟨o,e,c⟩=>ax e
 |.t,⟨o,e,c⟩=>ax e
variable{it:Z7}{i:Nat}
theorem ItK.obj:∀{k:SK},ItK h it a k i->∃o,h.get? it=iO o/\o.cls=.type k.itc/\o.data=.fields #[.ref a,.int i 0]
 |.l,⟨o,e,c,d⟩=>⟨o,e,c,d⟩
 |.t,⟨o,e,c,d⟩=>⟨o,e,c,d⟩
theorem ItK.of:∀{k:SK},(∃o,h.get? it=iO o/\o.cls=.type k.itc/\o.data=.fields #[.ref a,.int i 0])->ItK h it a k i
 |.l,⟨o,e,c,d⟩=>⟨o,e,c,d⟩
 |.t,⟨o,e,c,d⟩=>⟨o,e,c,d⟩
variable{E Q:iR->iV->Prop}{prog:iZ}{s:iV}{n:Nat}
section
theorem qfp{k:SK}(h:SeqK s.heap a k xs)(c:Q (.ref s.heap.objs.size) { s with heap:=s.heap.push { cls:=.type k.itc,data:=.fields #[.ref a,.int 0 0] } }):iW (Z6 prog w) A (m9 (.ref a)) Q E s:=by
 cases k with
 |l=>exact l7 h c
 |t=>exact lJ h c
noncomputable def SK.cl:SK->String
 |.l => "list"
 |.t => "tuple"
theorem SeqK.of{o:Obj}(e:h.get? a=iO o)(d:o.data=.seq xs n):∀{k:SK},o.cls=.type k.cl->SeqK h a k xs
 |.l,c=>⟨o,e,c,n,d⟩
 |.t,c=>⟨o,e,c,n,d⟩
end
noncomputable def zw:D->Option Key
 |.int i=>iO (.inl i)
 |.str x=>iO (.inr x)
 |_=>iQ
noncomputable def vN(kvs:List (Key×D))(k:Key)(d:D):List (Key×D):=if kvs.any (λp=>decide (p.1=k))then kvs.map λp=>if p.1=k then(p.1,d)else p else kvs++[(k,d)]
variable{F H:Hp}{v:V}{d:D}{ds:List D}
theorem qhN(A:Same F H)(h:TopIs K F H v d)(e:zI d=.ok ds):∃a k xs,v=.ref a/\SqK K H a k xs/\IsL K F xs ds:=by
 cases d with
 |lst es=>cases e;obtain⟨a,xs,rfl,q,t⟩:=h.lst A;exact⟨a,.l,xs,rfl,q,t⟩
 |tup es=>cases e;obtain⟨a,xs,rfl,q,t⟩:=h.tup A;exact⟨a,.t,xs,rfl,q,t⟩
 |_=>cases e
theorem IsK.any{k:Key}:∀{kv:List (Key×V)}{ks:List (Key×D)},IsK K F kv ks->(kv.any λp=>decide (p.1=k))=(ks.any λp=>decide (p.1=k))
 |_,_,.nil=>rfl
 |_,_,.cons h t=>by rw[b9,b9,IsK.any t]
theorem IsK.repl{k:Key}(i:Is K F v d):∀{kv:List (Key×V)}{ks:List (Key×D)},IsK K F kv ks->IsK K F (kv.map λp=>if p.1=k then(p.1,v)else p) (ks.map λp=>if p.1=k then(p.1,d)else p)
 |_,_,.nil=>.nil
 |_,_,.cons (k:=k') h t=>by
  rw[aE,aE];by_cases e:k'=k;·simp only[e,if_true];exact .cons i (IsK.repl i t)
  .simp only[e,if_false];exact .cons h (IsK.repl i t)
theorem IsK.snoc{k:Key}(i:Is K F v d):∀{kv:List (Key×V)}{ks:List (Key×D)},IsK K F kv ks->IsK K F (kv++[(k,v)]) (ks++[(k,d)])
 |_,_,.nil=>.cons i .nil
 |_,_,.cons h t=>.cons h (IsK.snoc i t)
variable{kv:List (Key×V)}{ks:List (Key×D)}
theorem IsK.put{k:Key}(h:IsK K F kv ks)(i:Is K F v d):IsK K F (Kf kv k v) (vN ks k d):=by
 unfold Kf vN;rw[h.any];by_cases e:(ks.any λp=>decide (p.1=k))=iT;·rw[Aa e,Aa e];exact IsK.repl i h
 .rw[Ab e,Ab e];exact IsK.snoc i h
variable{X:Cx}{Z9:Pns}{σ:St}{vs:List V}
section
theorem Yi(I:Inv X Z9 σ H s):∀{k:SK},SqK X.K H a k vs->∃its o n,Vals vs its/\s.heap.get? a=iO o/\o.cls=.type k.cl/\o.dict=iQ/\o.data=.seq its.toArray n/\vs.length<=Z8
 |.l,h=>let ⟨its,r,⟨o,n,e,c,b,hd⟩,z⟩:=I.list h; ⟨its,o,n,r,e,c,b,hd,z⟩
 |.t,h=>by obtain⟨its,r,⟨o,e,c,n,hd⟩,z⟩:=I.tuple h;obtain⟨o2,d,b⟩:=I.tupleN h;rw[e]at d;cases d;exact⟨its,o,n,r,e,c,b,hd,z⟩
noncomputable def kj(kvs:List (Key×D))(k:Key):Bool:=kvs.any λp=>decide (p.1=k)
def inA:D->D->Out D
 |x,.dct kvs=>match zw x with
  |some k=>.ok (.bl (kj kvs k))
  |none=>.bad
 |x,y=>qjt x y
def vf:D->D->Out D
 |x,.dct kvs=>match zw x with
  |some k=>.ok (.bl (!kj kvs k))
  |none=>.bad
 |x,y=>XH x y
theorem Yj{k:Key}(h:IsK K F kv ks):(XD kv k).isSome=kj ks k:=by rw[<-QV,h.any];rfl
theorem qjA{k:Key}(h:TopIs C.K F H v d)(e:zw d=iO k):v=kV k:=by
 cases d with
 |int z=>cases e;exact h.int
 |str z=>cases e;exact h.str.1
 |_=>cases e
theorem uJ(n:C.K=X.K)(f:X.A.units+64<k4):OpD X C .sh (i6 .In) inA:=by
 intro Z9 s σ H x y v u Q I r c h;obtain⟨F,dx,d,b,t,ty,po⟩:=h;by_cases hd:∃kvs,d=.dct kvs
 .obtain⟨kvs,rfl⟩:=hd;cases q:zw dx with
  |none=>unfold inA at po;simp only[q]at po;exact po.elim
  |some k=>
   unfold inA at po;simp only[q]at po;obtain⟨a,kv,rfl,g,i⟩:=ty.dct b;cases c;have ex:=qjA t q;subst ex;refine qlN (by lia) I (DGet.k (k:=k) g) r λs' j=>⟨.bl _,H,j,rfl,?_⟩
   rw[Yj i];exact po _ F H b .refl (.bl _)
 .have e:inA dx d=qjt dx d:=by cases d <;> first|rfl|exact absurd ⟨_,rfl⟩ hd
  rw[e]at po;exact qkg n f Z9 s σ H x y v u Q I r c ⟨F,dx,d,b,t,ty,po⟩
theorem jF(n:C.K=X.K)(f:X.A.units+64<k4):OpD X C .sh (i6 .NotIn) vf:=by
 intro Z9 s σ H x y v u Q I r c h;obtain⟨F,dx,d,b,t,ty,po⟩:=h;by_cases hd:∃kvs,d=.dct kvs
 .obtain⟨kvs,rfl⟩:=hd;cases q:zw dx with
  |none=>unfold vf at po;simp only[q]at po;exact po.elim
  |some k=>
   unfold vf at po;simp only[q]at po;obtain⟨a,kv,rfl,g,i⟩:=ty.dct b;cases c;have ex:=qjA t q;subst ex;refine qe1 (by lia) I (DGet.k (k:=k) g) r λs' j=>⟨.bl _,H,j,rfl,?_⟩
   rw[Yj i];exact po _ F H b .refl (.bl _)
 .have e:vf dx d=XH dx d:=by cases d <;> first|rfl|exact absurd ⟨_,rfl⟩ hd
  rw[e]at po;exact qcr n f Z9 s σ H x y v u Q I r c ⟨F,dx,d,b,t,ty,po⟩
end
theorem qfq(t:k6)(es:Array (Int×iR))(h:Int)(x:iR):(layNew t es h x).2.1.led=t.led:=by
 unfold layNew;cases t.freeSlot h with
 |none=>rfl
 |some p=>obtain⟨sl,w⟩:=p;show(SetTable.orStandIn (t.put sl).1 _).led=t.led;unfold SetTable.orStandIn;split <;> rfl
variable{t:k6}
theorem qfr{m f v:Nat}{l p:Bool}{hs:Array Int}{o:Array Nat}(h:iq m f v l p hs=iO (t,o)):t.led=l/\t.plain=p:=by
 unfold iq at h;cases e:SetTable.layClean m hs with
 |none=>rw[e]at h;cases h
 |some ow=>rw[e]at h;have h2:=congrArg Prod.fst (aL.inj h);subst h2;exact⟨rfl,rfl⟩
theorem WS(t:k6)(es:Array (Int×iR))(n:Nat):(mL t es n).2.1.led=t.led/\(t.plain=iS->(mL t es n).2.1.plain=iS):=by
 unfold mL;cases e:t.relaid (es.map (·.1)) n with
 |none=>exact⟨rfl,λ_=>rfl⟩
 |some q=>
  obtain⟨t',o⟩:=q;have k:=qfr (show iq _ _ _ _ _ _=iO (t',o)from e);dsimp only;split;·exact⟨k.1,λz=>k.2.trans z⟩
  .exact⟨rfl,λ_=>rfl⟩
variable{κ:Type}
noncomputable def wL[DecidableEq κ](ks:List κ)(x:κ):List κ:=if x∈ks then ks else ks++[x]
noncomputable def zS(ks:List Str)(x:Str):List Str:=if x∈ks then ks else ks++[x]
noncomputable def jC(es:Array (Int×iR))(ep:Nat)(t:k6):Obj:={ cls:=.type "set",dict:=iQ,data:=.set es ep t,slots:=#[] }
structure KP(κ:Type)[DecidableEq κ] where
 kd:∀(p:iZ)(w:i3),PySem.KeyKind p w κ
 of:iR->κ
 pb:Bool
 ofi:∀{p:iZ}{w:i3}{x:κ}{v:iR},(kd p w).is x v=iT->of v=x
 sc:∀{p:iZ}{w:i3}{x:κ}{v:iR},(kd p w).is x v=iT->v.scannable=iT
 pl:∀{p:iZ}{w:i3}{x:κ}{v:iR},(kd p w).is x v=iT->pb=iT->plainKind v=iS
noncomputable def KpS:KP Str where
 kd:=PySem.strKind
 of:=strOf
 pb:=iT
 ofi:=λh=>let ⟨_,e⟩:=de h;by rw[e];rfl
 sc:=λh=>let ⟨_,e⟩:=de h;by rw[e];rfl
 pl:=λh _=>let ⟨_,e⟩:=de h;by rw[e];rfl
structure SetG{κ:Type}[DecidableEq κ](T:KP κ)(prog:iZ)(w:i3)(es:Array (Int×iR))(t:k6)(ks:List κ):Prop where
 el:ElemsOf (T.kd prog w) es.toList
 perm:(es.toList.map λe=>T.of e.2).Perm ks
 nd:ks.Nodup
 bd:es.size<mi
 fits:t.fits es.size=iT
 led:t.led=!(w.params.followText "set-order")
 plain:T.pb=iT->ks≠[]->t.plain=iS
def SetK{κ:Type}[DecidableEq κ](T:KP κ)(prog:iZ)(w:i3)(h:Z5)(a:Z7)(ks:List κ):Prop:=∃es ep t,h.get? a=iO (jC es ep t)/\SetG T prog w es t ks
variable{es:Array (Int×iR)}{ep:Nat}
section
theorem qhO{l:List (Int×iR)}(h:ElemsOf (PySem.strKind prog w) l){e:Int×iR}(i:e∈l):∃x t,e.2=.str x t:=by obtain⟨⟨k,a,_⟩,_⟩:=h e i;obtain⟨t,ht⟩:=de a;exact⟨k,t,ht⟩
variable[DecidableEq κ]{T:KP κ}
theorem SetG.mem{ks:List κ}(h:SetG T prog w es t ks){x:κ}:x∈ks↔∃e∈es.toList,(T.kd prog w).is x e.2=true:=by
 rw[<-h.perm.mem_iff,aq];constructor;·rintro⟨e,i,z⟩;obtain⟨⟨k,a,_⟩,_⟩:=h.el e i;rw[T.ofi a]at z;exact⟨e,i,z ▸ a⟩
 .rintro⟨e,i,z⟩;exact⟨e,i,T.ofi z⟩
theorem SetG.size{ks:List κ}(h:SetG T prog w es t ks):es.size=ks.length:=by have e:=h.perm.length_eq;simpa using e
theorem Yk{es':Array (Int×iR)}{t':k6}(l:h.get? a=iO (jC es ep t)):(h.update a (d9 es' t')).get? a=iO (jC es' (ep+1) t'):=by have e:=bD (d9 es' t') l (by rw[putSet_of (o:=jC es ep t) es' t' rfl];rfl);rw[putSet_of (o:=jC es ep t) es' t' rfl]at e;exact e
theorem SetG.more{e:Array (Int×iR)}{t1:k6}{ks:List κ}{x:κ}{v:iR}(h:SetG T prog w es t ks)(c:(T.kd prog w).is x v=iT)(nx:x∉ks)(hr:ks.length+1<mi)(hp:e.toList.Perm (es.toList++[((T.kd prog w).hash x,v)]))(f:t1.fits e.size=iT)(hl:t1.led=t.led)(hq:T.pb=iT->t1.plain=iS):SetG T prog w e t1 (wL ks x):=by
 have ex:wL ks x=ks++[x]:=Ab nx;have d:e.size=ks.length+1:=by rw[<-aF,hp.length_eq,aj,aF,h.size];rfl
 rw[ex];refine⟨(h.el.push c (T.sc c)).perm hp,?_,?_,?_,f,hl.trans h.led,λb _=>hq b⟩;·refine(hp.map _).trans ?_;rw[bY,List.map_singleton,T.ofi c];exact h.perm.append (cC _)
 .exact bV.mpr ⟨h.nd,by simp,λa i b g=>by rw[aw.mp g];exact λz=>nx (z ▸ i)⟩
 .rw[d];exact hr
theorem qfs{ks:List κ}{x:κ}{v:iR}{Q:Bool->iV->Prop}(m:(T.kd prog w).is x v=iT)(S:SetK T prog w s.heap a ks)(hr:ks.length+1<mi)(h:∀h' b,bx a s.heap h'->SetK T prog w h' a (wL ks x)->Q b { s with heap:=h' }):iW (Z6 prog w) A (mQ a v ((T.kd prog w).hash x)) Q E s:=by
 obtain⟨es,ep,t,o,d⟩:=S;unfold mQ setAddHashedIn;refine j6 (iP (i8 o rfl d.fits ?_));dsimp only;rw[byScan_of (T.sc m) d.bd d.el,Aa rfl];unfold setAddByScan;refine iP (iP (lX (iP (wpAny_setScan_of m o rfl d.fits d.el ?_))));cases hq:es.toList.findIdx? (λe=>(T.kd prog w).is x e.2)with
 |some j=>obtain⟨K,hp,_⟩:=List.findIdx?_eq_some_iff_getElem.mp hq;have hx:x∈ks:=d.mem.mpr ⟨_,bE K,hp⟩;have q:=h s.heap iS (Heap.SameBut.refl a s.heap) ⟨es,ep,t,o,by rw[show wL ks x=ks from Aa hx];exact d⟩;dsimp only;exact iU (iU q)
 | none=>
  have hx:x∉ks:=λz=>by obtain⟨e,M,q⟩:=d.mem.mp z;have:=List.findIdx?_eq_none_iff.mp hq e M;rw[q]at this;cases this
  dsimp only;have hp:=layNew_perm t es ((T.kd prog w).hash x) v;have n:=layNew_fits t es ((T.kd prog w).hash x) v;have hl:=qfq t es ((T.kd prog w).hash x) v;generalize layNew t es ((T.kd prog w).hash x) v=L at hp n hl ⊢;obtain⟨c,t1,J,O⟩:=L;dsimp only at hp n hl ⊢;rw[Array.toList_push]at hp;have l:∀f:k6,f.fits c.size=iT->f.led=t.led->(T.pb=iT->f.plain=iS)->iW (Z6 prog w) A (do
    storeSet a c f
    if (!J&&f.tooFull)=iT then do
      (match (mL f c (cF c.size)).2.2 with|true=>rule "set.scan.the-table-gave-way"|false=>pure ())
      storeSet a (mL f c (cF c.size)).1 (mL f c (cF c.size)).2.1
      pure (iO iT)
     else pure (iO iT)) (λr s'=>∃h',s'={ s with heap:=h' }/\r=iO iT/\bx a s.heap h'/\SetK T prog w h' a (wL ks x)) E s:=by
   intro f f2 H p2;have d2:=d.more m hx hr hp f2 H p2;refine iP (l8 o rfl ?_ (l9 d2.bd));have i:=Yk (es':=c) (t':=f) o;have u:=bb s.heap a (d9 c f);split
   .have B:=relayAll_perm f c (cF c.size);have C:=relayAll_fits f c (cF c.size);have y:=WS f c (cF c.size);generalize mL f c (cF c.size)=R at B C y ⊢;obtain⟨p,G,Z⟩:=R;dsimp only at B C y ⊢;have I:=d.more m hx hr (B.trans hp) C (y.1.trans H) (λb=>y.2 (p2 b));refine iP ?_;have go:iW (Z6 prog w) A (storeSet a p G >>= λ_=>pure (iO iT)) (λr s'=>∃h',s'={ s with heap:=h' }/\r=iO iT/\bx a s.heap h'/\SetK T prog w h' a (wL ks x)) E { s with heap:=s.heap.update a (d9 c f) }:=
     iP (l8 i rfl (iU ⟨_,rfl,rfl,u.trans (bb _ a _),p,_,G,Yk i,I⟩) (l9 I.bd))
    cases Z;·exact iU go
    .exact lX go
   .exact iU ⟨_,rfl,rfl,u,c,_,f,i,d2⟩
  have fin:∀(r:Option Bool)(s':iV),(∃h',s'={ s with heap:=h' }/\r=iO iT/\bx a s.heap h'/\SetK T prog w h' a (wL ks x)) ->iW (Z6 prog w) A (match r with|some k=>pure k|none=>setAddHashedIn a v ((T.kd prog w).hash x) 99999) Q E s':=by rintro r s' ⟨h',rfl,rfl,u,S⟩;exact iU (h h' iT u S)
  have N:∀(b:Bool){g:iV}{D:Unit->iV->Prop},D () g->iW (Z6 prog w) A (match b with|true=>rule "set.scan.the-table-gave-way"|false=>pure ()) D E g:=λb g D q=>by
   cases b;·exact iU q
   .exact lX q
  refine iP (N _ ?_);cases e1:t1.plain with
  |true=>rw[Aa rfl,hashByValue_scannable 8 (T.sc m)];refine iP (iU ?_);exact lM (l (if plainKind v=iT then t1 else{ t1 with plain:=iS }) (by split;exact n;exact SetTable.fits_plain_off n) (by split <;> exact hl) (λb=>by rw[T.pl m b];rfl)) fin λ_ _ z=>z
  |false=>rw[Ab (by simp)];refine iP (iU ?_);exact lM (l t1 n hl λ_=>e1) fin λ_ _ z=>z
end
theorem qcI[DecidableEq κ](ks:List κ)(x:κ):(wL ks x).length<=ks.length+1:=by
 unfold wL;split
 .lia
 .rw[aj];exact ap _
theorem yx[DecidableEq κ]:∀(l ks:List κ),(l.foldl wL ks).length<=ks.length+l.length
 |[],ks=>ap _
 |x::l,ks=>by
  have h1:=yx l (wL ks x);have h2:=qcI ks x;rw[d7,ah]
  lia
theorem Yl:(wL:List Str->Str->List Str)=zS:=by funext ks x;unfold wL zS;congr
theorem KY(l ks:List Str):(l.foldl zS ks).length<=ks.length+l.length:=by rw[<-Yl];exact yx l ks
theorem SetK.at[DecidableEq κ]{T:KP κ}{ks:List κ}(S:SetK T prog w h a ks)(k:∀o,h.get? a=iO o->h'.get? a=iO o):SetK T prog w h' a ks:=
 let ⟨es,ep,t,l,d⟩:=S; ⟨es,ep,t,k _ l,d⟩
section
variable[DecidableEq κ]{T:KP κ}{R:Result->iV->Prop}{I:Z7}{fp wr:List Z7}{P:Nat->iR->Prop}{St:Nat->iV->Prop}
theorem GG{G:Array nn->Array nn->Prop}(W:WalksS prog w A.in1 I fp wr G n P St)(S:Z7)(l:S∉fp)(PS:Nat->Z5->Prop)(mv:∀i s h',St i s->PS i s.heap->(∀b o,b∉wr->s.heap.get? b=iO o->h'.get? b=iO o)->PS i h')(add:∀(i:Nat)(v:iR)(s:iV)(Q:Bool->iV->Prop)(E:iR->iV->Prop),i<n->P i v->PS i s.heap->(∀h' b tk,s.toks<=tk->bx S s.heap h'->PS (i+1) h'->Q b { s with heap:=h',toks:=tk })->iW (Z6 prog w) A.in1 (setAdd S v) Q E s) :
  ∀(k i:Nat)(s:iV),n - i=k->i<=n->St i s->PS i s.heap->(∀s',Moved (S::wr) G s s'->PS n s'.heap->R (.ok (.ret .none)) s')->lV (Z6 prog w) A (.builtin "set.update.loop" ⟨[.ref S,.ref I],[]⟩) R s:=by
 have up:∀b∈wr,b∈S::wr:=λb d=>ac _ d;intro k
 induction k with
 |zero=>
  intro i s y hi c q r;have j:i=n:=by lia
  subst j;refine li F.entry_set_update_loop ?_;rw[b8 eG _];show iW _ A.in1 (lR (.ref I) >>= _) _ _ s;exact iP (W.done s _ _ c λs' m=>iU (r s' (m.mono up) (mv _ s _ c q m.heap)))
 |succ k x=>
  intro i s y hi c q r;have t:i<n:=by lia
  refine li F.entry_set_update_loop ?_;rw[b8 eG _];show iW _ A.in1 (lR (.ref I) >>= _) _ _ s;refine iP (W.item i s _ _ t c λv s' B h m=>?_);show iW _ A.in1 (holding [v] (setAdd S v) >>= _) _ _ s';refine iP (j6 (add i v s' _ _ t B (mv i s _ c q m.heap) λh' b tk ht u p=>?_));refine iU ⟨lT eG _,x (i+1) _ (by lia) t (W.frame _ s' _ _ h ht λb d o e=>?_) p λg a f=>?_⟩;·rw[u.2 b λz:b=S=>l (z ▸ d)];exact e
  .refine r g (Moved.trans W.gtrans ((m.mono up).then_heap ht λb o d e=>?_) a) f;rw[u.2 b λz:b=S=>d (z ▸ ai)];exact e
theorem KZ{ss:List κ}{x:κ}(hx:ss[i]?=iO x):wL ((ss.take i).foldl wL []) x=(ss.take (i+1)).foldl wL []/\((ss.take i).foldl wL []).length<=i:=by
 refine⟨by rw[List.take_add_one,hx,List.foldl_append];rfl,?_⟩;have h1:=yx (ss.take i) [];rw[bj,bn]at h1
 lia
end
variable{sk:SK}{items:Array iR}
section
variable[DecidableEq κ]{T:KP κ}
abbrev qft(w:i3):Obj:=jC #[] 0 (.fresh 0 0 (!(w.params.followText "set-order")))
theorem GH(e:h.get? a=iO (qft w)):SetK T prog w h a []:=
 ⟨_,_,_,e,⟨λe i=>by simp at i,by simp,cG,by decide,by rfl,rfl,λ_ z=>absurd rfl z⟩⟩
theorem qfu(a:iR){Q₁:iR->iV->Prop}(h:Q₁ (.ref s.heap.objs.size) { s with heap:=s.heap.push (qft w) }):lV (Z6 prog w) A (.call (.builtin "set.__new__") ⟨[.type "set",a],[]⟩) (wants Q₁ E) s:=by
 refine codeAny_of_tree ?_;show iW _ A.in1 (do checkBuiltinCall "set.__new__" ⟨[.type "set",a],[]⟩;again (.builtin "set.__new__" ⟨[.type "set",a],[]⟩)) _ _ s;refine iP (l0 (PySem.F.newCall_set_1 a) (iU ⟨lT PySem.F.plain_set_new _,li PySem.F.entry_set_new ?_⟩));rw[b8 PySem.F.plain_set_new _];unfold Builtin.«set.__new__» Builtin.Frozenset.newClass;have b:=sub_set_self;obtain⟨hp,g,d,tk,os⟩:=s;dsimp only;wp_walk
 refine j9 (iU ?_);dsimp only;simp only[newObj];exact iP (wpAny_alloc (iU (iU h)))
theorem WT:isSubtype (.type "tuple") (.type "set")=pure false:=by rw[lO];kernel_rfl
theorem gW:isSubtype (.type "tuple") (.type "frozenset")=pure false:=by rw[lO];kernel_rfl
theorem qcJ:∀sk:SK,isSubtype (.type sk.cl) (.type "set")=pure iS
 |.l=>PySem.F.sub_list_set
 |.t=>WT
theorem WU:∀sk:SK,isSubtype (.type sk.cl) (.type "frozenset")=pure iS
 |.l=>PySem.F.sub_list_frozenset
 |.t=>gW
theorem qhP(a:A.handled=iQ)(sk:SK)(it l:Z7)(e:l≠it)(items:Array iR):Walks prog w A it [it,l] [it] items.size (λi v=>items[i]?=iO v) (λi h=>ItK h it l sk i/\SeqK h l sk items):=by
 cases sk with
 |l=>exact iN a it l e items
 |t=>exact Walks.tuple a it l e items
theorem SeqK.ty:∀{sk:SK},SeqK s.heap a sk xs->s.TypeIs (.ref a) sk.cl
 |.l,⟨o,e,c,_⟩=>⟨o,e,c⟩
 |.t,⟨o,e,c,_⟩=>⟨o,e,c⟩
theorem qlc{S l:Z7}{PS:Nat->Z5->Prop}{Q:Unit->iV->Prop}(q:A.handled=iQ)(hl:SeqK s.heap l sk items)(u:S<s.heap.objs.size)(f:l≠S)(x:∀j,PS 0 (s.heap.push j))(mv:∀i (s':iV) h',ItK s'.heap s.heap.objs.size l sk i->PS i s'.heap->(∀b o,b≠s.heap.objs.size->s'.heap.get? b=iO o->h'.get? b=iO o)->PS i h')(add:∀(i:Nat)(v:iR)(s:iV)(Q:Bool->iV->Prop)(E:iR->iV->Prop),items[i]?=iO v->PS i s.heap->(∀h' b tk,s.toks<=tk->bx S s.heap h'->PS (i+1) h'->Q b { s with heap:=h',toks:=tk })->iW (Z6 prog w) A.in1 (setAdd S v) Q E s)(h:∀h' tk,PS items.size h'->(∀b o,b≠S->s.heap.get? b=iO o->h'.get? b=iO o)->Q () { s with heap:=h',toks:=tk }) :
  iW (Z6 prog w) A (bw "set.__init__" S (.ref l)) Q E s:=by
 have T:=hl.ty;unfold bw;refine iP (m:=Builtin.Frozenset.isAnySet _) ?_;unfold Builtin.Frozenset.isAnySet;refine iP (ll T (qcJ sk) ?_);refine ll T (WU sk) ?_;rw[Ab (by decide)];refine iP (lI T ?_);rw[Ab (by cases sk <;> decide)];refine iP (qfp hl ?_);have d:l≠s.heap.objs.size:=aC hl.lt;refine iP (wpAny_runValue (GG ((qhP (A:=A.in1) q sk _ l d items).toS) S ?_ PS (λi s' h' st p k=>mv i s' h' st.1 p λb o n=>k b o (by simpa using n)) (λi v s' Q E _=>add i v s' Q E) items.size 0 _ (by lia) (aU _) ⟨.of ⟨_,ak _ rfl,rfl,rfl⟩,hl.at λo e=>aa _ e⟩ (x _) ?_))
 .intro z;rcases ae.mp z with z|z;·exact aC u z
  .exact f (aw.mp z).symm
 .intro s' c g;obtain⟨h',g',d',t,a⟩:=s';have B:g'=s.gens:=c.gens;have C:d'=s.drawn:=c.drawn;have y:a=s.os:=c.os;subst B C y;refine iU (h h' t g λb o r e=>c.heap b o ?_ (aa _ e));intro z;rcases ae.mp z with z|z;·exact r z
  .rw[aw.mp z]at e;exact bF _ (ax e)
theorem qlS{S l:Z7}{ss:List κ}{Q:Unit->iV->Prop}(n:A.handled=iQ)(g:SetK T prog w s.heap S [])(hl:SeqK s.heap l sk items)(hn:ss.length=items.size)(hi:∀(i:Nat)(v:iR),items[i]?=iO v->∃x,ss[i]?=iO x/\(T.kd prog w).is x v=iT)(y:items.size+1<mi)(a:l≠S)(h:∀h' tk,SetK T prog w h' S (ss.foldl wL [])->(∀b o,b≠S->s.heap.get? b=iO o->h'.get? b=iO o)->Q () { s with heap:=h',toks:=tk }) :
  iW (Z6 prog w) A (bw "set.__init__" S (.ref l)) Q E s:=by
 have lt:S<s.heap.objs.size:=let ⟨_,_,_,m,_⟩:=g;ax m;refine qlc (PS:=λi h=>SetK T prog w h S ((ss.take i).foldl wL [])) n hl lt a (λt=>g.at λo e=>aa _ e) (λi s' h' _ p k=>p.at λo=>k S o (aC lt)) (λi v s' Q E d p q=>?_) λh' tk p k=>h h' tk (by rw[eW (dS hn)]at p;exact p) k;obtain⟨x,hx,f⟩:=hi i v d;obtain⟨r,u⟩:=KZ hx;have:=(aX.mp d).1;unfold setAdd;exact j6 (iP ((T.kd prog w).pyHash f (qfs (s:={ s' with toks:=s'.toks+1 }) f p (by lia) λh' b j c=>q h' b _ (fO _) j (by rw[<-r];exact c))))
set_option maxHeartbeats 3200000 in
theorem Va{l:Z7}{PS:Z5->Prop}{Q:iR->iV->Prop}(p:∀(A1:j4)(u:Unit->iV->Prop)(D:iR->iV->Prop),A1.handled=A.handled->A1.units<=A.units+9->(∀h' tk,PS h'->(∀b o,s.heap.get? b=iO o->h'.get? b=iO o)->u () { s with heap:=h',toks:=tk }) ->iW (Z6 prog w) A1 (bw "set.__init__" s.heap.objs.size (.ref l)) u D { s with heap:=s.heap.push (qft w) })(h:∀h' tk,PS h'->(∀b o,s.heap.get? b=iO o->h'.get? b=iO o)->Q (.ref s.heap.objs.size) { s with heap:=h',toks:=tk }) :
  iW (Z6 prog w) A (call (.type "set") [.ref l]) Q E s:=by
 have d:∀{Q₁:iR->iV->Prop},Q₁ (.ref s.heap.objs.size) { s with heap:=s.heap.push (qft w) }->lV (Z6 prog w) A.in1 (.call (.builtin "set.__new__") ⟨[.type "set",.ref l],[]⟩) (wants Q₁ E) s:=λh=>qfu (.ref l) h;unfold qft jC at d p;generalize (!(w.params.followText "set-order"))=led at d p;obtain⟨c,tl,t⟩:=b6.mro;have m:=b6.made;have q:=b6.sub;refine wpAny_call (codeAny_of_tree ?_);show iW _ _ (callAny (.type "set") _) _ _ _;refine iU ⟨Code.quiet_builtin _ (by decide +kernel),li PySem.F.entry_type_call ?_⟩;rw[Around.under_plain (weight_type_call_type "set" [.ref l] []) rfl];have h1:=b6.notType;have h2:=b6.canCreate;have y:=PySem.F.typeCall_set_1 (.ref l);repeat (any_goals (first|assumption|wp_step))
 refine mD (d (Q₁:=λobj g=>obj=.ref s.heap.objs.size/\g={ s with heap:=s.heap.push { cls:=.type "set",dict:=iQ,data:=.set #[] 0 (.fresh 0 0 led) } }) ⟨rfl,rfl⟩) λr g hr=>?_;cases r with
 |error e=>exact hr
 | ok C=>
  cases C with
  | ret obj=>
   obtain⟨rfl,rfl⟩:=hr;have S:(s.heap.push { cls:=.type "set",dict:=iQ,data:=.set #[] 0 (.fresh 0 0 led) }).get? s.heap.objs.size=iO { cls:=.type "set",dict:=iQ,data:=.set #[] 0 (.fresh 0 0 led) }:=ak _ rfl;have T:ir { s with heap:=s.heap.push { cls:=.type "set",dict:=iQ,data:=.set #[] 0 (.fresh 0 0 led) } } (.ref s.heap.objs.size) "set":=⟨_,S,rfl⟩
   have v:=b6.init.lookup;have z:=b6.init.bind (.ref s.heap.objs.size);repeat (any_goals (first|assumption|wp_step))
   refine mD (codeAny_call_builtin (R:=wants (λr f=>r=.none/\∃h' tk,f={ s with heap:=h',toks:=tk }/\PS h'/\(∀b o,s.heap.get? b=iO o->h'.get? b=iO o)) E) b6.init.plain PySem.F.entry_set_init (check_set_init_1 T ?_)) λk f a=>?_
   .unfold Builtin.«set.__init__» noKeywords;generalize B:bw=U;wp_walk
    subst B;refine p _ _ _ rfl (by first|exact Nat.le_add_right_of_le (ap _)|(simp only[Around.in1_units];lia)) λh' tk i x=>?_;exact iU ⟨rfl,h',tk,rfl,i,x⟩
   .cases k with
    |error e=>exact a
    | ok j=>
     cases j with
     |ret r=>
      obtain⟨rfl,h',tk,rfl,i,n⟩:=a;repeat (any_goals (first|assumption|wp_step))
      exact h _ _ i n
     |_=>exact a.elim
  |_=>exact hr.elim
theorem GI{l:Z7}{ks:List κ}{Q:iR->iV->Prop}(p:∀(A1:j4)(u:Unit->iV->Prop)(D:iR->iV->Prop),A1.handled=A.handled->(∀h' tk,SetK T prog w h' s.heap.objs.size ks->(∀b o,s.heap.get? b=iO o->h'.get? b=iO o)->u () { s with heap:=h',toks:=tk }) ->iW (Z6 prog w) A1 (bw "set.__init__" s.heap.objs.size (.ref l)) u D { s with heap:=s.heap.push (qft w) })(h:∀h' tk,SetK T prog w h' s.heap.objs.size ks->(∀b o,s.heap.get? b=iO o->h'.get? b=iO o)->Q (.ref s.heap.objs.size) { s with heap:=h',toks:=tk }) :
  iW (Z6 prog w) A (call (.type "set") [.ref l]) Q E s:=Va (λA1 u D e _=>p A1 u D e) h
end
theorem xg{α:Type}:∀{xs:List α}{i:Nat}(h:i<xs.length),(xs[i]::xs.eraseIdx i).Perm xs
 |[],_,h=>absurd h (cU _)
 |x::xs,0,h=>cC _
 |x::xs,i+1,h=>(ij _ _ _).trans ((xg (xs:=xs) (i:=i) (Nat.lt_of_succ_lt_succ h)).cons x)
variable{M:Model}
theorem XQ{c:Source}{Q:Nat->iV->Prop}(hn:n≠0)(h:∀i d',i<n->Q i { s with drawn:=d' }):iW M A (choose c n) Q E s:=
 λ_ _ _=>⟨hn,h _ _ (ff _ (Nat.pos_of_ne_zero hn))⟩
variable{α:Type}
theorem GJ:∀(n:Nat)(xs:List α)(s:iV){Q:List α->iV->Prop},n=xs.length->(∀ys d',ys.Perm xs->Q ys { s with drawn:=d' })->iW M A (drawOrder n xs) Q E s
 | 0,xs,s,Q,hn,h=>by
  cases xs with
  |nil=>exact iU (h [] s.drawn (cC _))
  |cons x l=>cases hn
 |n+1,[],s,Q,hn,h=>by cases hn
 |n+1,x::l,s,Q,hn,h=>by show iW M A (choose .order (x::l).length >>= _) Q E s;refine iP (XQ (by simp) λi d' hi=>?_);have e:(x::l)[i]?=iO (x::l)[i]:=ay hi;rw[e];refine iP (GJ n _ _ (by rw[List.length_eraseIdx_of_lt hi];simp only[ah]at hn ⊢;lia) λys d2 hp=>iU (h _ d2 ?_));exact(hp.cons _).trans (xg hi)
set_option tactic.hygienic true in
theorem GK(next:Nat->Nat):∀(f k:Nat)(left:List α)(out:Array α),f=left.length->(pickOrder.go next f k left out).toList.Perm (out.toList++left)
 | 0,k,left,out,hf=>by
  cases left with
  |nil=>rw[bg];exact cC _
  |cons x l=>cases hf
 |f+1,k,left,out,hf=>by have t:next k % left.length<left.length:=ff _ (by lia);have e:left[next k % left.length]?=iO left[next k % left.length]:=ay t;unfold pickOrder.go;rw[e];refine(GK next f (k+1) _ _ (by rw[List.length_eraseIdx_of_lt t];lia)).trans ?_;rw[Array.toList_push,aT];exact List.Perm.append_left _ (xg t)
set_option tactic.hygienic true in
theorem zT(next:Nat->Nat)(xs:Array α):(l6 next xs).toList.Perm xs.toList:=by unfold l6;exact GK next _ _ _ _ (by simp)
def Vb(l:List Nat):Prop:=l.Pairwise (· < ·)
theorem Jd{xs:Array Nat}(hr:Vb xs.toList){p q x y:Nat}(h:p<q)(hp:xs[p]?=iO x)(hq:xs[q]?=iO y):x<y:=by rw[<-aK]at hp hq;obtain⟨h1,rfl⟩:=aD.mp hp;obtain⟨h2,rfl⟩:=aD.mp hq;exact cw.mp hr p q h1 h2 h
theorem mid{lo hi:Nat}(h:lo<hi):lo<=(lo+hi) / 2/\(lo+hi) / 2<hi:=by omega
variable{j:Nat}
theorem Je{xs:Array Nat}(hr:Vb xs.toList):∀(f lo hi:Nat),hi<=f+lo->hi<=xs.size->(∀k,k<lo->∀x,xs[k]?=iO x->x<j)->(∀k,hi<=k->∀x,xs[k]?=iO x->j<=x) ->(∀k,k<bh.go xs j f lo hi->∀x,xs[k]?=iO x->x<j)/\(∀k,bh.go xs j f lo hi<=k->∀x,xs[k]?=iO x->j<=x)
 | 0,lo,hi,h1,h3,a,b=>⟨a,λk d=>b k (by rw[iD]at h1;exact be h1 d)⟩
 | f+1,lo,hi,h1,h3,a,b=>by
  unfold bh.go;by_cases h:lo<hi
  .rw[Aa h];obtain⟨m1,B⟩:=mid h;dsimp only;generalize (lo+hi) / 2=m at *;have g:m<xs.size:=aI B h3;have c:xs[m]?=iO xs[m]:=by simp[g]
   have hg:xs.getD m j=xs[m]:=by simp[c7,g]
   rw[hg];by_cases hl:xs[m]<j
   .rw[Aa hl];refine Je hr f _ hi (by lia) h3 (λk d x hx=>?_) b;rcases eh (Nat.le_of_lt_succ d)with e|rfl;·exact eU (Jd hr e hx c) hl
    .rw[c]at hx;cases hx;exact hl
   .rw[Ab hl];refine Je hr f lo _ (by lia) (cX g) a λk d x hx=>?_;rcases eh d with e|rfl;·exact be (cz hl) (cX (Jd hr e c hx))
    .rw[c]at hx;cases hx;exact cz hl
  .rw[Ab h];exact⟨a,λk d=>b k (be (cz h) d)⟩
theorem Jf{xs:Array Nat}(hr:Vb xs.toList):(∀k,k<bh xs j->∀x,xs[k]?=iO x->x<j)/\(∀k,bh xs j<=k->∀x,xs[k]?=iO x->j<=x):=
 Je hr xs.size 0 xs.size (ap _) (ap _) (λk h=>absurd h (cU _)) λk h x hx=>absurd (aX.mp hx).1 (Nat.not_lt.mpr h)
noncomputable def vj(t:k6)(i:Nat):Nat:=if i=0 then 0 else t.place.getD (i - 1) 0+1
theorem qcK(hr:Vb t.place.toList)(hi:i<=t.place.size):i<=bh t.place (vj t i)/\(i<t.place.size->bh t.place (vj t i)=i):=by
 obtain⟨a,b⟩:=Jf (j:=vj t i) hr;have at_:∀k,k<t.place.size->t.place[k]?=iO (t.place.getD k 0):=λk c=>by simp[c7,c]
 have h1:i<=bh t.place (vj t i):=cz λz=>by
  have h:=b (i - 1) (by lia) _ (at_ (i - 1) (by lia));unfold vj at h;rw[Ab (by lia)]at h
  lia
 refine⟨h1,λhl=>?_⟩;rcases eh h1 with e|e
 .have h:=a i e _ (at_ i hl);unfold vj at h;split at h
  .lia
  .have:=Jd hr (show i - 1<i by lia) (at_ (i - 1) (by lia)) (at_ i hl)
   lia
 .exact e.symm
noncomputable def wM(first:iR)(i:Nat)(a:Z7)(n ep:Nat):Obj:={ cls:=.type "set_iterator",data:=.fields #[first,k9 i,.ref a,k9 n,k9 ep] }
theorem qP:Slot "set_iterator" "__next__" "set_iterator.__next__":=
 .of (owner := "set_iterator") (n := "__next__") (by rw[my,lL];kernel_rfl) (by decide +kernel) (by decide +kernel) (by decide +kernel) (by first|exact .inl (by decide +kernel)|exact .inr (by decide +kernel)) (by rw[lO];kernel_rfl)
theorem xA:Slot "set_iterator" "__iter__" "set_iterator.__iter__":=
 .of (owner := "set_iterator") (n := "__iter__") (by rw[my,lL];kernel_rfl) (by decide +kernel) (by decide +kernel) (by decide +kernel) (by first|exact .inl (by decide +kernel)|exact .inr (by decide +kernel)) (by rw[lO];kernel_rfl)
theorem vm(a:iR):argsOk "set_iterator.__next__" ⟨[a],[]⟩:=by unfold argsOk;kernel_rfl
theorem Vc(a:iR):argsOk "set_iterator.__iter__" ⟨[a],[]⟩:=by unfold argsOk;kernel_rfl
theorem kL:entryFor table "set_iterator.__next__"=iO Builtin.«set_iterator.__next__»:=entryFor_of_tree (by kernel_rfl)
theorem Jg:entryFor table "set_iterator.__iter__"=iO Builtin.«dict_keyiterator.__iter__»:=entryFor_alias (id' := "dict_keyiterator.__iter__") (by kernel_rfl) rfl (by decide +kernel) (by kernel_rfl)
theorem Vd:entryFor table "set.__iter__"=iO Builtin.«frozenset.__iter__»:=entryFor_alias (id' := "frozenset.__iter__") (by kernel_rfl) rfl (by decide +kernel) (by kernel_rfl)
variable{p:Z7}{b:Bool}{ps:List Nat}
section
theorem kZ(d:w.params.followText "set-order"=b):({ program:=(Z6 prog w).prog,params:=(Z6 prog w).w.params }:Setting).params.followText "set-order"=b:=d
theorem Ve{sl nx:Nat}{x:iR}{Q:Option iR->iV->Prop}(hi:s.heap.get? it=iO (wM (k9 sl) i a n ep))(g:s.heap.get? a=iO (jC es ep t))(h:t.fits es.size=iT)(z:es.size=n)(hn:∀(A1:j4)(u:Option (iR×Nat)->iV->Prop)(D:iR->iV->Prop),u (iO (x,nx)) s->iW (Z6 prog w) A1 (mR a sl i ep) u D s)(c:∀h',h'.get? it=iO (wM (k9 nx) (i+1) a n ep)->bx it s.heap h'->Q (iO x) { s with heap:=h' }):iW (Z6 prog w) A (lR (.ref it)) Q E s:=by
 have k:s.TypeIs (.ref it) "set_iterator":=⟨_,hi,rfl⟩
 unfold lR;refine iP (lU (i9 (name:=bq "__next__") k qP (i7 qP k kL ?_ (vm _))));show iW _ _ (fieldsOf (.ref it) >>= _) _ _ s;refine iP (mF hi rfl ?_);show iW _ _ (nh a >>= _) _ _ s;refine iP (lE g rfl h ?_);rw[Ab (by rw[z];simp)];show iW _ _ (mR a sl i ep >>= _) _ _ s;refine iP (hn _ _ _ ?_);show iW _ _ (setField (.ref it) 0 (k9 nx) >>= _) _ _ s;refine iP (lr hi rfl (by simp) ?_);have h1:(s.heap.update it (Obj.mapFields (·.setIfInBounds 0 (k9 nx)))).get? it=iO (wM (k9 nx) i a n ep):=bD _ hi rfl;refine iP (lr h1 rfl (by simp) (iU ⟨x,rfl,iU (c _ ?_ ((bb ..).trans (bb ..)))⟩));exact bD _ h1 rfl
theorem Vf{sl:Nat}{Q:Option iR->iV->Prop}(h:A.handled=iQ)(hi:s.heap.get? it=iO (wM (k9 sl) i a n ep))(g:s.heap.get? a=iO (jC es ep t))(f:t.fits es.size=iT)(z:es.size=n)(hn:∀(A1:j4)(u:Option (iR×Nat)->iV->Prop)(D:iR->iV->Prop),u iQ s->iW (Z6 prog w) A1 (mR a sl i ep) u D s)(c:∀h',iI it s.heap h'->Q iQ { s with heap:=h' }):iW (Z6 prog w) A (lR (.ref it)) Q E s:=by
 have k:s.TypeIs (.ref it) "set_iterator":=⟨_,hi,rfl⟩
 unfold lR;refine iP (lU (i9 (name:=bq "__next__") k qP (i7 qP k kL ?_ (vm _))));show iW _ _ (fieldsOf (.ref it) >>= _) _ _ s;refine iP (mF hi rfl ?_);show iW _ _ (nh a >>= _) _ _ s;refine iP (lE g rfl f ?_);rw[Ab (by rw[z];simp)];show iW _ _ (mR a sl i ep >>= _) _ _ s;refine iP (hn _ _ _ ?_);show iW _ _ (setField (.ref it) 2 cH >>= _) _ _ s;refine iP (lr hi rfl (by simp) ?_);show iW _ _ (newExc (.type "StopIteration") [] >>= _) _ _ _;refine iP ?_;simp only[newExc,newTuple];refine iP (i4 ?_ (by size_fits));refine iP (m:=lP _ _) (l0 (a:=cH) (by first|rfl|(simp only[lP];rfl)) ?_);refine i4 ?_ (by size_fits);simp only[raiseNew];refine iP (wpAny_handled ?_);first|rw[show A.in1.handled=iQ from h]|rw[h]
 refine iP (iU (wpAny_throw ?_));refine iP (ll (T := "StopIteration") (b:=iT) ⟨_,ak _ rfl,rfl⟩ isSubtype_stop ?_);exact iU (c _ (((bb ..).extBut.push _).push _))
theorem XR{pl m:Nat}{hx:Int}{x:iR}{ps:Array iR}{Q:Option iR->iV->Prop}(hi:s.heap.get? it=iO (wM (.ref p) i a n ep))(g:s.heap.get? a=iO (jC es ep t))(h:t.fits es.size=iT)(z:es.size=n)(hp:s.heap.get? p=iO { cls:=.type "tuple",data:=.seq ps m })(l:ps[i]?=iO (k9 pl))(hx:es[pl]?=iO (hx,x))(c:∀h',h'.get? it=iO (wM (.ref p) (i+1) a n ep)->bx it s.heap h'->Q (iO x) { s with heap:=h' }):iW (Z6 prog w) A (lR (.ref it)) Q E s:=by
 have k:s.TypeIs (.ref it) "set_iterator":=⟨_,hi,rfl⟩
 unfold lR;refine iP (lU (i9 (name:=bq "__next__") k qP (i7 qP k kL ?_ (vm _))));show iW _ _ (fieldsOf (.ref it) >>= _) _ _ s;refine iP (mF hi rfl ?_);show iW _ _ (nh a >>= _) _ _ s;refine iP (lE g rfl h ?_);rw[Ab (by rw[z];simp)];show iW _ _ (mZ (.ref p) >>= _) _ _ s;refine iP (j5 hp rfl ?_);dsimp only;rw[show ps[Int.toNat (i:Int)]?=iO (k9 pl)from l];show iW _ _ (setNextDrawn a pl ep >>= _) _ _ s;refine iP ?_;unfold setNextDrawn;refine iP (i8 g rfl h ?_);dsimp only;rw[Ab (by simp),hx];refine iU ?_;show iW _ _ (setField (.ref it) 1 (k9 (i+1)) >>= _) _ _ s;refine iP (lr hi rfl (by simp) (iU ⟨x,rfl,iU (c _ ?_ (bb ..))⟩));exact bD _ hi rfl
theorem GL{m:Nat}{ps:Array iR}{Q:Option iR->iV->Prop}(h:A.handled=iQ)(hi:s.heap.get? it=iO (wM (.ref p) i a n ep))(g:s.heap.get? a=iO (jC es ep t))(f:t.fits es.size=iT)(z:es.size=n)(hp:s.heap.get? p=iO { cls:=.type "tuple",data:=.seq ps m })(l:ps[i]?=iQ)(c:∀h',iI it s.heap h'->Q iQ { s with heap:=h' }):iW (Z6 prog w) A (lR (.ref it)) Q E s:=by
 have k:s.TypeIs (.ref it) "set_iterator":=⟨_,hi,rfl⟩
 unfold lR;refine iP (lU (i9 (name:=bq "__next__") k qP (i7 qP k kL ?_ (vm _))));show iW _ _ (fieldsOf (.ref it) >>= _) _ _ s;refine iP (mF hi rfl ?_);show iW _ _ (nh a >>= _) _ _ s;refine iP (lE g rfl f ?_);rw[Ab (by rw[z];simp)];show iW _ _ (mZ (.ref p) >>= _) _ _ s;refine iP (j5 hp rfl ?_);dsimp only;rw[show ps[Int.toNat (i:Int)]?=iQ from l];show iW _ _ (setField (.ref it) 0 (k9 0) >>= _) _ _ s;refine iP (lr hi rfl (by simp) ?_);have h1:(s.heap.update it (Obj.mapFields (·.setIfInBounds 0 (k9 0)))).get? it=iO (wM (k9 0) i a n ep):=bD _ hi rfl;refine iP (lr h1 rfl (by simp) ?_);show iW _ _ (newExc (.type "StopIteration") [] >>= _) _ _ _;refine iP ?_;simp only[newExc,newTuple];refine iP (i4 ?_ (by size_fits));refine iP (m:=lP _ _) (l0 (a:=cH) (by first|rfl|(simp only[lP];rfl)) ?_);refine i4 ?_ (by size_fits);simp only[raiseNew];refine iP (wpAny_handled ?_);first|rw[show A.in1.handled=iQ from h]|rw[h]
 refine iP (iU (wpAny_throw ?_));refine iP (ll (T := "StopIteration") (b:=iT) ⟨_,ak _ rfl,rfl⟩ isSubtype_stop ?_);exact iU (c _ (((((bb ..).trans (bb ..))).extBut.push _).push _))
theorem zU{o:Obj}(hi:s.heap.get? it=iO o)(d:o.cls=.type "set_iterator")(h:Q (.ref it) s):iW (Z6 prog w) A (m9 (.ref it)) Q E s:=by
 have k:s.TypeIs (.ref it) "set_iterator":=⟨_,hi,d⟩
 refine wpAny_pyIter_slot k xA (i7 xA k Jg ?_ (Vc _));show iW _ _ (ret (.ref it)) _ _ s;exact iU ⟨_,rfl,"set_iterator",_,k,qP.lookup,h⟩
theorem GM{ep:Nat}(u:A.handled=iQ)(d:w.params.followText "set-order"=iT)(f:t.fits es.size=iT)(j:a≠it):Walks prog w A it [it,a] [it] es.size (λi v=>((l6 (w.params.setOrder a ep) es).toList.map (·.2))[i]?=iO v) (λi h=>h.get? it=iO (wM (k9 0) i a es.size ep)/\h.get? a=iO (jC es ep t)) where
 sub:=λb d=>by simp at d;simp[d]
 frame:=λ_ _ _ st r=>⟨r it (by simp) _ st.1,r a (by simp) _ st.2⟩
 item:=λi s Q E hi st c=>by
  have n:(l6 (w.params.setOrder a ep) es).size=es.size:=by have:=(zT (w.params.setOrder a ep) es).length_eq;simpa using this
  have k:i<(l6 (w.params.setOrder a ep) es).size:=by lia
  obtain⟨e,he⟩:∃e,(l6 (w.params.setOrder a ep) es)[i]?=iO e:=⟨_,bt k⟩
  refine Ve (x:=e.2) (nx:=0) st.1 st.2 f rfl (λA1 B D q=>?_) λh' l p=>c e.2 h' s.toks ?_ ⟨l,?_⟩ λb o g y=>?_;·unfold mR;refine iP (i8 st.2 rfl f ?_);dsimp only;refine iP (m:=mG) (iP (j9 (iU ?_)));rw[kZ d,Aa rfl,Ab (by simp)];refine iP ?_;unfold setWalk;refine iP (i8 st.2 rfl f ?_);dsimp only;refine iP (m:=mG) (iP (j9 (iU ?_)));rw[kZ d,Aa rfl];refine iP (j9 (iU ?_));refine iU ?_;rw[show(l6 ((⟨(Z6 prog w).prog,(Z6 prog w).w.params⟩:Setting).params.setOrder a ep) es)[i]?=iO e from he];exact q
  .rw[aG,aK,he];rfl
  .rw[p.2 a j];exact st.2
  .rw[p.2 b (λz=>g (by simp[z]))];exact y
 done:=λs Q E st c=>by
  have n:(l6 (w.params.setOrder a ep) es).size=es.size:=by have:=(zT (w.params.setOrder a ep) es).length_eq;simpa using this
  refine Vf u st.1 st.2 f rfl (λA1 B D q=>?_) λh' J=>c h' s.toks λb o g y=>J b o (λz=>g (by simp[z])) y;unfold mR;refine iP (i8 st.2 rfl f ?_);dsimp only;refine iP (m:=mG) (iP (j9 (iU ?_)));rw[kZ d,Aa rfl,Ab (by simp)];refine iP ?_;unfold setWalk;refine iP (i8 st.2 rfl f ?_);dsimp only;refine iP (m:=mG) (iP (j9 (iU ?_)));rw[kZ d,Aa rfl];refine iP (j9 (iU ?_));refine iU ?_;rw[show(l6 ((⟨(Z6 prog w).prog,(Z6 prog w).w.params⟩:Setting).params.setOrder a ep) es)[es.size]?=iQ from ci (dS n)];exact q
 self:=λi s Q E st c=>zU st.1 rfl c
theorem Ym{Q:Option (iR×Nat)->iV->Prop}(d:w.params.followText "set-order"=iS)(f:t.fits es.size=iT)(hl:t.led=iT)(c:(!t.plain&&decide (es.size > 1))=iS)(hr:Vb t.place.toList)(g:s.heap.get? a=iO (jC es ep t))(hi:i<=es.size)(q:Q (match es[i]? with|some e=>iO (e.2,vj t (i+1))|none=>iQ) s):iW (Z6 prog w) A (mR a (vj t i) i ep) Q E s:=by
 have b:t.place.size=es.size:=by have:=f;simp only[iu,aQ,beq_iff_eq]at this;exact this.1
 unfold mR;refine iP (i8 g rfl f ?_);dsimp only;refine iP (m:=mG) (iP (j9 (iU ?_)));rw[kZ d,Ab (by simp)];show iW _ _ (if (!t.plain&&decide (es.size > 1))=iT then _ else _) _ _ _;rw[c,Ab (by simp)];refine iP ?_;show iW _ _ (if (!t.led&&!es.isEmpty)=iT then _ else _) _ _ _;rw[hl,Ab (by simp)];refine iU (iU ?_);obtain⟨l,k⟩:=qcK hr (by rw[b];exact hi);have e:(match es[bh t.place (vj t i)]?,t.place[bh t.place (vj t i)]? with|some (_,x),iO j=>iO (x,j+1)|_,_=>iQ)=(match es[i]? with|some e=>iO (e.2,vj t (i+1))|none=>iQ:Option (iR×Nat)):=by
  by_cases h:i<es.size;·rw[k (by rw[b];exact h),bt h,bt (by rw[b];exact h)];simp[vj,c7,b,h]
  .rw[ci (be (cz h) l),ci (cz h)]
 exact Eq.mp (congrArg (λz=>Q z s) e.symm) q
theorem qcL{ep:Nat}(p:A.handled=iQ)(d:w.params.followText "set-order"=iS)(f:t.fits es.size=iT)(hl:t.led=iT)(k:(!t.plain&&decide (es.size > 1))=iS)(hr:Vb t.place.toList)(e:a≠it):Walks prog w A it [it,a] [it] es.size (λi v=>(es.toList.map (·.2))[i]?=iO v) (λi h=>h.get? it=iO (wM (k9 (vj t i)) i a es.size ep)/\h.get? a=iO (jC es ep t)) where
 sub:=λb d=>by simp at d;simp[d]
 frame:=λ_ _ _ st l=>⟨l it (by simp) _ st.1,l a (by simp) _ st.2⟩
 item:=λi s Q E hi st c=>by
  have m:es[i]?=iO es[i]:=bt hi;refine Ve (x:=es[i].2) (nx:=vj t (i+1)) st.1 st.2 f rfl (λA1 u D q=>Ym d f hl k hr st.2 (cX hi) (by rw[m];exact q)) λh' g j=>c es[i].2 h' s.toks ?_ ⟨g,?_⟩ λb o n y=>?_;·rw[aG,aK,m];rfl
  .rw[j.2 a e];exact st.2
  .rw[j.2 b (λz=>n (by simp[z]))];exact y
 done:=λs Q E st c=>Vf p st.1 st.2 f rfl (λA1 u D q=>Ym d f hl k hr st.2 (ap _) (by rw[ci (ap _)];exact q)) λh' J=>c h' s.toks λb o n y=>J b o (λz=>n (by simp[z])) y
 self:=λi s Q E st c=>zU st.1 rfl c
noncomputable def qhQ(es:Array (Int×iR))(ps:List Nat):List iR:=ps.map λk=>(es[k]?.map (·.2)).getD .none
theorem GN(h:ps.Perm (aH es.size)):(qhQ es ps).Perm (es.toList.map (·.2)):=by
 have e:qhQ es (aH es.size)=es.toList.map (·.2):=by
  apply cY;intro i;unfold qhQ;rw[aG,aG,show es.toList[i]?=es[i]? from aK];by_cases hi:i<es.size;·rw[List.getElem?_range hi,bt hi];simp[hi]
  .rw[bM (by rw[bo];lia),ci (by lia)];rfl
 rw[<-e];exact h.map _
theorem XS{ep m:Nat}(B:A.handled=iQ)(q:t.fits es.size=iT)(hp:ps.Perm (aH es.size))(g:a≠it)(f:p≠it):Walks prog w A it [it,a,p] [it] es.size (λi v=>(qhQ es ps)[i]?=iO v) (λi h=>h.get? it=iO (wM (.ref p) i a es.size ep)/\h.get? a=iO (jC es ep t)/\h.get? p=iO { cls:=.type "tuple",data:=.seq (ps.map λ(i:Nat)=>k9 i).toArray m }) where
 sub:=λb u=>by simp at u;simp[u]
 frame:=λ_ _ _ st k=>⟨k it (by simp) _ st.1,k a (by simp) _ st.2.1,k p (by simp) _ st.2.2⟩
 item:=λi s Q E hi st c=>by
  have n:ps.length=es.size:=by rw[hp.length_eq,bo]
  have l:i<ps.length:=by lia
  have k:ps[i]<es.size:=aN.mp (hp.mem_iff.mp (bE l));have r:es[ps[i]]?=iO es[ps[i]]:=bt k;refine XR (x:=es[ps[i]].2) (hx:=es[ps[i]].1) (pl:=ps[i]) st.1 st.2.1 q rfl st.2.2 ?_ r λh' j d=>c es[ps[i]].2 h' s.toks ?_ ⟨j,?_,?_⟩ λb o e y=>?_;·rw[e7,aG,ay l];rfl
  .unfold qhQ;rw[aG,ay l];simp[r]
  .rw[d.2 a g];exact st.2.1
  .rw[d.2 p f];exact st.2.2
  .rw[d.2 b (λz=>e (by simp[z]))];exact y
 done:=λs Q E st c=>by
  have n:ps.length=es.size:=by rw[hp.length_eq,bo]
  refine GL B st.1 st.2.1 q rfl st.2.2 ?_ λh' J=>c h' s.toks λb o e y=>J b o (λz=>e (by simp[z])) y;rw[e7,bM (by simp;lia)]
 self:=λi s Q E st c=>zU st.1 rfl c
structure Wlk(w:i3)(es:Array (Int×iR))(t:k6):Prop where
 bd:es.size<mi
 fits:t.fits es.size=iT
 led:t.led=!(w.params.followText "set-order")
 rise:(!t.plain&&decide (es.size > 1))=iS->Vb t.place.toList
theorem qcM{A1:j4}{Q:iR->iV->Prop}(l:A1.handled=iQ)(g:s.heap.get? a=iO (jC es ep t))(d:Wlk w es t)(n:∀(it:Z7)(h':Z5)(dr:Drawn)(ord:List iR)(fp:List Z7)(St:Nat->Z5->Prop),(∀b o,s.heap.get? b=iO o->h'.get? b=iO o)->ord.Perm (es.toList.map (·.2))->Walks prog w A1 it fp [it] es.size (λi v=>ord[i]?=iO v) St->St 0 h' ->(∀b∈fp,b=a\/s.heap.objs.size<=b)->s.heap.objs.size<=it->Q (.ref it) { s with heap:=h',drawn:=dr }):iW (Z6 prog w) A (m9 (.ref a)) Q E s:=by
 have T:s.TypeIs (.ref a) "set":=⟨_,g,rfl⟩
 have f:a<s.heap.objs.size:=ax g;refine wpAny_pyIter_slot T PySem.F.slot_set_iter (i7 PySem.F.slot_set_iter T Vd ?_ (PySem.F.args_set_iter_1 _));show iW _ _ (Builtin.Frozenset.sizeOf a >>= _) _ _ s;refine iP (m:=Builtin.Frozenset.sizeOf a) (iP (lE g rfl d.fits (iU ?_)));refine iP (m:=setDrawn a) ?_;unfold setDrawn;refine iP (i8 g rfl d.fits ?_);dsimp only;refine iP (m:=mG) (iP (j9 (iU ?_)));refine iU ?_;cases h:w.params.followText "set-order" with
 |true=>
  rw[kZ h,Ab (by simp)];refine iP (iU ?_);refine iP (m:=setEpoch a) (wpAny_setEpoch_of g rfl d.fits ?_);refine iP (i4 (iU ⟨_,rfl,"set_iterator",_,⟨_,ak _ rfl,rfl⟩,qP.lookup,?_⟩));refine n _ _ s.drawn _ _ _ (λb o e=>aa _ e) ((zT (w.params.setOrder a ep) es).map _) (GM l h d.fits (aC f)) ⟨ak _ rfl,aa _ g⟩ ?_ (ap _);intro b h;rcases ae.mp h with z|z;·exact .inr (z ▸ ap _)
  .exact .inl (aw.mp z)
 | false=>
  have k:t.led=true:=by rw[d.led,h];rfl
  rw[kZ h];show iW _ _ (if (!false&&(!t.plain&&decide (es.size > 1)))=iT then _ else _) _ _ _;cases hn:(!t.plain&&decide (es.size > 1))with
  |false=>
   rw[Ab (by simp)];refine iP (iU ?_);refine iP (m:=setEpoch a) (wpAny_setEpoch_of g rfl d.fits ?_);refine iP (i4 (iU ⟨_,rfl,"set_iterator",_,⟨_,ak _ rfl,rfl⟩,qP.lookup,?_⟩));refine n _ _ s.drawn _ _ _ (λb o e=>aa _ e) (cC _) (qcL l h d.fits k hn (d.rise hn) (aC f)) ⟨ak _ rfl,aa _ g⟩ ?_ (ap _);intro b h;rcases ae.mp h with z|z;·exact .inr (z ▸ ap _)
   .exact .inl (aw.mp z)
  | true=>
   rw[Aa (by simp)];refine iP (GJ es.size (aH es.size) s (by simp) λps dr hp=>?_);have j:ps.length=es.size:=by rw[hp.length_eq,bo]
   have hsz:(ps.map λ(i:Nat)=>k9 i).length<=Z8:=by rw[ao,j];exact l9 d.bd
   refine iP (wpAny_newTuple ?_ hsz);refine iP (m:=setEpoch a) (wpAny_setEpoch_of (aa _ g) rfl d.fits ?_);refine iP (i4 (iU ⟨_,rfl,"set_iterator",_,⟨_,ak _ rfl,rfl⟩,qP.lookup,?_⟩));have c:s.heap.objs.size<(s.heap.push ({ cls:=.type "tuple",data:=.seq (ps.map λ(i:Nat)=>k9 i).toArray }:Obj)).objs.size:=by rw[bz];exact f6 _
   refine n _ _ dr _ _ _ (λb o e=>aa _ (aa _ e)) (GN hp) (XS (p:=s.heap.objs.size) l d.fits hp (aC (eU f c)) (aC c)) ⟨ak _ rfl,aa _ (aa _ g),aa _ (ak _ rfl)⟩ ?_ (cX c);intro b h;rcases ae.mp h with z|z;·exact .inr (z ▸ cX c)
   .rcases ae.mp z with z|z;·exact .inl z
    .exact .inr (dS (aw.mp z).symm)
end
section
theorem qcN{ord:List iR}{acc:Array iR}(hl:ord.length=n)(h:m8 (λi v=>ord[i]?=iO v) acc n):acc.toList=ord:=by
 apply cY;intro i;rw[show acc.toList[i]?=acc[i]? from aK];by_cases hi:i<acc.size;·rw[bt hi];exact(h.2 i _ (bt hi)).symm
 .rw[ci (by lia),bM (by have:=h.1;lia)]
theorem zV{Q:List iR->iV->Prop}(L:A.handled=iQ)(I:s.heap.get? a=iO (jC es ep t))(d:Wlk w es t)(M:∀h' dr tk ord,(∀b o,s.heap.get? b=iO o->h'.get? b=iO o)->ord.Perm (es.toList.map (·.2))->Q ord { s with heap:=h',drawn:=dr,toks:=tk }):iW (Z6 prog w) A (collect (.ref a)) Q E s:=by
 have n:a<s.heap.objs.size:=ax I;unfold collect;refine iP (wpAny_runValue (li PySem.F.entry_proto_collect ?_));rw[b8 PySem.F.plain_proto_collect _];show iW _ A.in1 (newList [] >>= λl=>again (.builtin "list.__iadd__" ⟨[l,.ref a],[]⟩)) _ _ s;refine iP (i4 ?_);refine iU ⟨lT dk _,li PySem.F.entry_list_iadd ?_⟩;rw[b8 dk _];have g:(s.heap.push { cls:=.type "list",data:=.seq ([]:List iR).toArray }).get? a=iO (jC es ep t):=aa _ I;have T:ir { s with heap:=s.heap.push { cls:=.type "list",data:=.seq ([]:List iR).toArray } } (.ref a) "set":=⟨_,g,rfl⟩
 show iW _ A.in1 (bN (.ref s.heap.objs.size) (.ref a) (.ref s.heap.objs.size)) _ _ _;unfold bN;refine iP (lI T ?_);have h1:c8 (.ref s.heap.objs.size) (.ref a)=false:=by simp[c8,du n]
 rw[Ab (by rw[h1];decide)];refine iP (qcM (A1:=A.in1) L g d λit h2 dr ord fp St k2 hp W B D hit=>?_);have u:h2.get? s.heap.objs.size=iO { cls:=.type "list",data:=.seq ([]:List iR).toArray }:=k2 _ _ (ak _ rfl);have C:h2.get? a=iO (jC es ep t):=k2 _ _ g;refine iP (j6 ?_);unfold Builtin.List.listLengthHint;have i:ir { s with heap:=h2,drawn:=dr } (.ref a) "set":=⟨_,C,rfl⟩
 refine iP (mz i PySem.F.slot_set_len.lookup ?_)
 (generalize f:("set.__len__":String)=id0;(fail_if_success (clear f id0));wp_delta;rw[show splitId id0=iO ("set","__len__")from by subst f;decide +kernel];subst f)
 refine iP (ll (b:=iT) i (by rw[lO];kernel_rfl) ?_);refine iP (m:=typeOf (.ref a)) (lI i ?_);refine iU ?_;show iW _ A.in1 (rule "list.extend.makes-room" >>= λ_=>Builtin.List.listTouch (.ref s.heap.objs.size) >>= λ_=>again (.builtin "list.extend.loop" ⟨[.ref s.heap.objs.size,.ref it,.ref s.heap.objs.size],[]⟩)) _ _ _;refine iP (lX (iP ?_));show iW _ A.in1 (updateSeq s.heap.objs.size (·.push .none) >>= λ_=>updateSeq s.heap.objs.size (·.pop)) _ _ _;refine iP (wpAny_updateSeq u rfl ?_);have h:=bD (cy (·.push cH)) u rfl;refine wpAny_updateSeq h rfl ?_;have j:=bD (cy (·.pop)) h rfl;have k:(s.heap.push ({ cls:=.type "list",data:=.seq ([]:List iR).toArray }:Obj)).objs.size=s.heap.objs.size+1:=bz ..;have oth:∀b o,b≠s.heap.objs.size->h2.get? b=iO o->((h2.update s.heap.objs.size (cy (·.push cH))).update s.heap.objs.size (cy (·.pop))).get? b=iO o:=λb o c e=>(dA _ _ (bJ c)).trans ((dA _ _ (bJ c)).trans e);have H:s.heap.objs.size∉fp:=λz=>by
  rcases D _ z with q|q;·exact du n q
  .exact Nat.not_succ_le_self _ (k ▸ q)
 have p:ord.length=es.size:=by rw[hp.length_eq];simp
 refine iU ⟨lT PySem.F.plain_extend_loop _,codeAny_extend_loopS W.toS (l9 d.bd) _ H _ es.size 0 _ _ _ rfl (aU _) (W.frame 0 h2 _ B λb c o e=>oth b o (λz=>H (z ▸ c)) e) j (ItemsOf.nil _) λs' K R v G r=>?_⟩;show iW _ A (load s.heap.objs.size >>= _) _ _ s';refine iP (wpAny_load G (iU ?_));rw[qcN p r];obtain⟨h',g',d',x,y⟩:=s';have O:g'=s.gens:=v.gens;have P:d'=dr:=v.drawn;have N:y=s.os:=v.os;subst O P N;refine M h' d' x ord (λb o e=>?_) hp;have c:=ax e;refine v.heap b o (λz=>?_) (oth b o (aC c) (k2 b o (aa _ e)));rcases ae.mp z with z|z;·exact aC c z
 .have J:s.heap.objs.size+1<=it:=k ▸ hit;rw[<-aw.mp z]at J;exact bF _ (eU c J)
theorem qkk{ks:List Str}(d:SetG KpS prog w es t ks):Wlk w es t:=by
 have h:=d.fits;simp only[iu,aQ,beq_iff_eq]at h;refine⟨d.bd,d.fits,d.led,λz=>?_⟩;have a:t.place.toList.length<=1:=by
  rw[aF,h.1];by_cases e:ks=[];·rw[d.size,e];exact aU _
  .rw[d.plain rfl e]at z;simpa using z
 unfold Vb
 match t.place.toList,a with
 |[],_=>exact .nil
 |[x],_=>exact dq _ _
theorem XT{ks:List Str}{Q:iR->iV->Prop}(q:A.handled=iQ)(S:SetK KpS prog w s.heap a ks)(j:ks.length<64)(u:∀(h1 h':Z5) dr tk vs e ss,(∀b o,s.heap.get? b=iO o->h1.get? b=iO o)->(∀b o,h1.get? b=iO o->h'.get? b=iO o)->h'.get? h1.objs.size=iO (lc "list" vs e)->StrsAre vs.toList ss->ss.Perm ks->sortedS ss=iT->Q (.ref h1.objs.size) { s with heap:=h',drawn:=dr,toks:=tk }) :
  iW (Z6 prog w) A (call (.builtin "sorted") [.ref a]) Q E s:=by
 obtain⟨es,ep,t,r,d⟩:=S;refine dY kind_sorted plain_sorted entry_sorted (args_sorted1 _) ?_;unfold Builtin.«sorted»;refine iP (m:=checkCount "sorted" 1 1 _) (iU ?_);refine iP (zV (by exact q) r (qkk d) λh1 dr tk ord k1 hp=>?_);have c:StrsAre ord (ord.map strOf):=strsAre_map ord λv p=>by obtain⟨e,i,rfl⟩:=aq.mp (hp.mem_iff.mp p);exact qhO d.el i
 have h:(ord.map strOf).Perm ks:=(hp.map strOf).trans (by rw[bA];exact d.perm);have n:ord.length=ks.length:=by have:=h.length_eq;rwa [ao]at this
 refine iP (mJ ?_ (by rw[n,i5];lia));have Y:(h1.push (lc "list" ord.toArray 0)).get? h1.objs.size=iO (lc "list" ord.toArray 0):=ak _ rfl;refine iP (j6 (i7 slot_list_sort (s:={ s with heap:=h1.push (lc "list" ord.toArray 0),drawn:=dr,toks:=tk }) ⟨_,Y,rfl⟩ entry_list_sort (list_sort_treeK strKind_oneLt Y c.keysOf (λv₁ k rest e=>keyKind_strs (by rw[<-e];exact c)) (by rw[n];exact j) λg C B=>⟨_,rfl,?_⟩) (args_list_sort _)));obtain⟨f,z,y,x⟩:=sorted_out_str c C B;obtain⟨e,i⟩:=sortedHeap_at (out:=(arrOf g).map (·.2)) Y;refine iU ⟨_,rfl,u h1 _ dr tk _ e f k1 (λb o J=>?_) i z (y.trans h) x⟩;have l:=ax J;rw[sortedHeap_old (aC l) (by rw[bz];exact bU l)];exact aa _ J
end
section
theorem Vg{l:Z7}{x:iR}{Q:iR->iV->Prop}(hit:s.heap.IsTupleIter it l i)(hl:s.heap.IsTuple l items)(hx:items[i]?=iO x)(c:∀h',h'.IsTupleIter it l (i+1)->bx it s.heap h'->Q x { s with heap:=h' }):iW (Z6 prog w) A (bu (.ref it)) Q E s:=by
 obtain⟨o,h,d,hd⟩:=id hit;obtain⟨ol,a,_,n,b⟩:=hl;unfold bu;refine iP (i9 (name:=bq "__next__") hit.typeIs cj (i7 cj hit.typeIs PySem.F.entry_tuple_iterator_next ?_ (PySem.F.args_tuple_iterator_next_1 _)));show iW _ _ (field (.ref it) 0 >>= _) _ _ s;refine iP (j8 h hd (x:=.ref l) rfl ?_);show iW _ _ (if (aY l == cH)=iT then _ else _) _ _ s;rw[Ab (show ¬((aY l == cH)=iT)from bQ)];show iW _ _ (field (.ref it) 1 >>= _) _ _ s;refine iP (j8 h hd (x:=.int i 0) rfl ?_);show iW _ _ (mZ (.ref l) >>= _) _ _ s;refine iP (j5 a b ?_);simp only[fN,hx];refine iP (lr h hd (by simp) (iU ⟨x,rfl,iU (c _ ?_ (bb ..))⟩));exact⟨_,bD _ h (Obj.isFreed_of_fields (Obj.data_mapFields hd _)),(Obj.cls_mapFields ..).trans d,by rw[Obj.data_mapFields hd];simp[k9]⟩
theorem ze{l:Z7}{Q:iR->iV->Prop}(d:A.handled=iQ)(hit:s.heap.IsTupleIter it l i)(hl:s.heap.IsTuple l items)(hx:items[i]?=iQ)(f:∀h' e,iI it s.heap h'->(∃o,h'.get? e=iO o/\o.cls=.type "StopIteration")->E (.ref e) { s with heap:=h' }):iW (Z6 prog w) A (bu (.ref it)) Q E s:=by
 obtain⟨o,b,g,hd⟩:=id hit;obtain⟨ol,h,_,n,c⟩:=hl;unfold bu;refine iP (i9 (name:=bq "__next__") hit.typeIs cj (i7 cj hit.typeIs PySem.F.entry_tuple_iterator_next ?_ (PySem.F.args_tuple_iterator_next_1 _)));show iW _ _ (field (.ref it) 0 >>= _) _ _ s;refine iP (j8 b hd (x:=.ref l) rfl ?_);show iW _ _ (if (aY l == cH)=iT then _ else _) _ _ s;rw[Ab (show ¬((aY l == cH)=iT)from bQ)];show iW _ _ (field (.ref it) 1 >>= _) _ _ s;refine iP (j8 b hd (x:=.int i 0) rfl ?_);show iW _ _ (mZ (.ref l) >>= _) _ _ s;refine iP (j5 h c ?_);simp only[fN,hx];refine iP (lX (iP (lr b hd (by simp) ?_)));show iW _ _ (newExc (.type "StopIteration") [] >>= _) _ _ _;refine iP ?_;simp only[newExc,newTuple];refine iP (i4 ?_ (by size_fits));refine iP (m:=lP _ _) (l0 (a:=cH) (by first|rfl|(simp only[lP];rfl)) ?_);refine i4 ?_ (by size_fits);simp only[raiseNew];refine iP (wpAny_handled ?_);first|rw[show A.in1.handled=iQ from d]|rw[d]
 refine iP (iU (wpAny_throw ?_));exact f _ _ (((bb ..).extBut.push _).push _) ⟨_,ak _ rfl,rfl⟩
theorem WV(g:A.handled=iQ)(it l:Z7)(d:l≠it)(items:Array iR):Draws prog w A it [it,l] items.size (λi v=>items[i]?=iO v) (λi h=>h.IsTupleIter it l i/\h.IsTuple l items) where
 live:=λ_ _ st=>let ⟨o,f,_⟩:=st.1; ⟨o,f⟩
 frame:=λ_ _ _ st k=>⟨st.1.at λo e=>k it (by simp) o e,let ⟨o,e,c⟩:=st.2; ⟨o,k l (by simp) o e,c⟩⟩
 item:=λi s Q E hi st j=>by refine Vg st.1 st.2 (x:=items[i]) (by simp[hi]) λh' b a=>j _ h' s.toks (by simp[hi]) ⟨b,?_⟩ a;obtain⟨o,e,c⟩:=st.2;exact⟨o,(a.2 l d).trans e,c⟩
 done:=λs Q E st m=>ze g st.1 st.2 (by simp) m
structure Apart2(z TI TO i1 i2:Z7)(fp1 fp2:List Z7):Prop where
 TIz:TI≠z
 TOz:TO≠z
 i1z:i1≠z
 i2z:i2≠z
 TITO:TI≠TO
 TIi1:TI≠i1
 TIi2:TI≠i2
 TOi1:TO≠i1
 TOi2:TO≠i2
 i12:i1≠i2
 z1:z∉fp1
 z2:z∉fp2
 o1:TO∉fp1
 o2:TO∉fp2
 a12:i1∉fp2
 a21:i2∉fp1
variable{z TI TO i1 i2:Z7}{fp1 fp2:List Z7}{n1 n2:Nat}{P1 P2:Nat->iR->Prop}{S1 S2:Nat->Z5->Prop}{a b:iR}
theorem qcO{Q:iR->iV->Prop}(D:Apart2 z TI TO i1 i2 fp1 fp2)(D1:Draws prog w A i1 fp1 n1 P1 S1)(D2:Draws prog w A i2 fp2 n2 P2 S2)(W:mH s.heap z TI TO .none)(Z:lC s.heap TI (.ref i1) (.ref i2))(Y:lC s.heap TO a b)(h1:S1 i s.heap)(h2:S2 i s.heap)(l1:i<n1)(l2:i<n2)(hQ:∀x y h' tk,P1 i x->P2 i y->mH h' z TI TO (k9 s.heap.objs.size)->lC h' TO x y->S1 (i+1) h'->S2 (i+1) h'->lC h' s.heap.objs.size x y ->(∀c o,c≠z->c≠TO->c≠i1->c≠i2->s.heap.get? c=iO o->h'.get? c=iO o)->Q (.ref s.heap.objs.size) { s with heap:=h',toks:=tk }) :
  iW (Z6 prog w) A (Builtin.«zip.__next__» ⟨[.ref z],[]⟩) (λfin s'=>∃v,fin=.done (.ret v)/\Q v s') E s:=by
 show iW _ _ (field (.ref z) 2 >>= _) _ _ _;refine iP (j8 W rfl (x:=.bool iS) rfl ?_);show iW _ _ (field (.ref z) 3 >>= _) _ _ _;refine iP (j8 W rfl (x:=.ref TI) rfl ?_);refine iP (j5 Z rfl ?_);show iW _ _ (bX (.ref z) >>= _) _ _ _;refine iP ?_;unfold bX;refine iP (j8 W rfl (x:=.none) rfl (iU ?_));simp only[if_true];refine iP (lX ?_);refine iP (j8 W rfl (x:=.ref TO) rfl ?_);refine iP (lu W (by simp) λh₁ r k=>?_);replace r:mH h₁ z TI TO .ellipsis:=r;refine iP ?_;simp only[dU,List.zipIdx_nil,hZ,List.forIn_nil];refine iP (iP (mK ?_));show iW _ _ (bu (.ref i1) >>= _) _ _ _;refine iP (D1.item i _ _ _ l1 (D1.frame _ _ _ h1 λc C o e=>k.extBut _ _ (λq=>D.z1 (q ▸ C)) e) λx V X hx N j=>iU ?_);have B:lC V TO a b:=(j.2 _ D.TOi1).trans (k.extBut _ _ D.TOz Y);refine iP (j5 B rfl ?_);refine iP (wpAny_updateSeq_pair B λU m g=>?_);replace m:lC U TO x b:=m;refine iP (mT (iU ?_));refine iP (iP (mK ?_));show iW _ _ (bu (.ref i2) >>= _) _ _ _;refine iP (D2.item i _ _ _ l2 (D2.frame _ _ _ h2 λc C o e=>(g.extBut _ _ (λq=>D.o2 (q ▸ C)) ((j.2 _ (λq=>D.a12 (q ▸ C))).trans (k.extBut _ _ (λq=>D.z2 (q ▸ C)) e)))) λy T L hy M f=>iU ?_);have u:lC T TO x b:=(f.2 _ D.TOi2).trans m;refine iP (j5 u rfl ?_);refine iP (wpAny_updateSeq_pair u λp h d=>?_);replace h:lC p TO x y:=h;refine iP (mT (iU (iU ?_)));refine iP (j5 h rfl ?_);refine iP (wpAny_newTuple ?_);have hsz:p.objs.size=s.heap.objs.size:=by rw[d.1,f.1,g.1,j.1,k.1]
 have G:mH p z TI TO .ellipsis:=d.extBut _ _ D.TOz.symm ((f.2 _ D.i2z.symm).trans (g.extBut _ _ D.TOz.symm ((j.2 _ D.i1z.symm).trans r)));have P:∀c o,c≠z->c≠TO->c≠i1->c≠i2->s.heap.get? c=iO o->p.get? c=iO o:=λc o R c2 c3 F e=>d.extBut _ _ c2 ((f.2 _ F).trans (g.extBut _ _ c2 ((j.2 _ c3).trans (k.extBut _ _ R e))));have K:z<p.objs.size:=ax G;show iW _ _ (Builtin.SmallTypes.ownedTupleHandOut (.ref z) (.ref p.objs.size) >>= _) _ _ _;refine iP ?_;unfold Builtin.SmallTypes.ownedTupleHandOut;have O:mH (p.push { cls:=.type "tuple",data:=.seq #[x,y] }) z TI TO .ellipsis:=aa _ G;refine iP (lu O (by simp) λS n I=>?_);replace n:mH S z TI TO (k9 p.objs.size):=n;refine lu n (by simp) λt l H=>?_;replace l:mH t z TI TO (k9 p.objs.size):=l;have up:∀c o,c≠z->p.get? c=iO o->t.get? c=iO o:=λc o R e=>H.extBut _ _ R (I.extBut _ _ R (aa _ e));have J:lC t p.objs.size x y:=H.extBut _ _ (du K) (I.extBut _ _ (du K) (ak _ rfl));rw[hsz]at l J;refine iU ⟨_,rfl,?_⟩;show Q (.ref p.objs.size) _;rw[hsz];refine hQ x y t L hx hy l (up _ _ D.TOz h) (D1.frame _ _ _ N λc C o e=>up _ _ (λq=>D.z1 (q ▸ C)) (d.extBut _ _ (λq=>D.o1 (q ▸ C)) ((f.2 _ (λq=>D.a21 (q ▸ C))).trans (g.extBut _ _ (λq=>D.o1 (q ▸ C)) e))))
  (D2.frame _ _ _ M λc C o e=>up _ _ (λq=>D.z2 (q ▸ C)) (d.extBut _ _ (λq=>D.o2 (q ▸ C)) e)) J λc o R c2 c3 F e=>up c o R (P c o R c2 c3 F e)
theorem qfv{Q:Fin->iV->Prop}(D:Apart2 z TI TO i1 i2 fp1 fp2)(O:Draws prog w A i1 fp1 n1 P1 S1)(R:Draws prog w A i2 fp2 n2 P2 S2)(y:mH s.heap z TI TO .none)(Z:lC s.heap TI (.ref i1) (.ref i2))(Y:lC s.heap TO a b)(h1:S1 i s.heap)(h2:S2 i s.heap)(C:i=n1\/(i<n1/\i=n2))(P:∀h' tk e,(∀c o,c≠z->c≠TO->c≠i1->c≠i2->s.heap.get? c=iO o->h'.get? c=iO o)->(∃o,h'.get? e=iO o/\o.cls=.type "StopIteration")->E (.ref e) { s with heap:=h',toks:=tk }) :
  iW (Z6 prog w) A (Builtin.«zip.__next__» ⟨[.ref z],[]⟩) Q E s:=by
 show iW _ _ (field (.ref z) 2 >>= _) _ _ _;refine iP (j8 y rfl (x:=.bool iS) rfl ?_);show iW _ _ (field (.ref z) 3 >>= _) _ _ _;refine iP (j8 y rfl (x:=.ref TI) rfl ?_);refine iP (j5 Z rfl ?_);show iW _ _ (bX (.ref z) >>= _) _ _ _;refine iP ?_;unfold bX;refine iP (j8 y rfl (x:=.none) rfl (iU ?_));simp only[if_true];refine iP (lX ?_);refine iP (j8 y rfl (x:=.ref TO) rfl ?_);refine iP (lu y (by simp) λh₁ r k=>?_);replace r:mH h₁ z TI TO .ellipsis:=r;refine iP ?_;simp only[dU,List.zipIdx_nil,hZ,List.forIn_nil];refine iP (iP (mK ?_));show iW _ _ (bu (.ref i1) >>= _) _ _ _;have f1:S1 i h₁:=O.frame _ _ _ h1 λc G o e=>k.extBut _ _ (λq=>D.z1 (q ▸ G)) e;rcases C with rfl|⟨hlt,rfl⟩
 .refine iP (O.done _ _ _ f1 λu e j K=>?_);obtain⟨J,h,L⟩:=K;have f:mH u z TI TO .ellipsis:=j _ _ D.i1z.symm r;have p:e≠z:=λx=>by subst x;rw[f]at h;cases h;simp at L
  exact lu f (by simp) λn _ g=>P n s.toks e (λc o H _ M _ x=>g.extBut _ _ H (j _ _ M (k.extBut _ _ H x))) ⟨J,g.extBut _ _ p h,L⟩
 .refine iP (O.item i _ _ _ hlt f1 λx u X hx N j=>iU ?_);have B:lC u TO a b:=(j.2 _ D.TOi1).trans (k.extBut _ _ D.TOz Y);refine iP (j5 B rfl ?_);refine iP (wpAny_updateSeq_pair B λn I g=>?_);refine iP (mT (iU ?_));refine iP (iP (mK ?_));show iW _ _ (bu (.ref i2) >>= _) _ _ _;refine iP (R.done _ _ _ (R.frame _ _ _ h2 λc G o e=>(g.extBut _ _ (λq=>D.o2 (q ▸ G)) ((j.2 _ (λq=>D.a12 (q ▸ G))).trans (k.extBut _ _ (λq=>D.z2 (q ▸ G)) e)))) λv e m K=>?_);obtain⟨J,h,L⟩:=K;have d:mH v z TI TO .ellipsis:=m _ _ D.i2z.symm (g.extBut _ _ D.TOz.symm ((j.2 _ D.i1z.symm).trans r));have p:e≠z:=λx=>by subst x;rw[d]at h;cases h;simp at L
  exact lu d (by simp) λt _ l=>P t X e (λc o H c2 M S x=>l.extBut _ _ H (m _ _ S (g.extBut _ _ c2 ((j.2 _ M).trans (k.extBut _ _ H x))))) ⟨J,l.extBut _ _ p h,L⟩
theorem WW{Q:Option iR->iV->Prop}(D:Apart2 z TI TO i1 i2 fp1 fp2)(O:Draws prog w A.in1 i1 fp1 n1 P1 S1)(R:Draws prog w A.in1 i2 fp2 n2 P2 S2)(h:mH s.heap z TI TO .none)(Z:lC s.heap TI (.ref i1) (.ref i2))(Y:lC s.heap TO a b)(h1:S1 i s.heap)(h2:S2 i s.heap)(g:i<n1)(l:i<n2)(d:∀x y h' tk,P1 i x->P2 i y->mH h' z TI TO (k9 s.heap.objs.size)->lC h' TO x y->S1 (i+1) h'->S2 (i+1) h'->lC h' s.heap.objs.size x y ->(∀c o,c≠z->c≠TO->c≠i1->c≠i2->s.heap.get? c=iO o->h'.get? c=iO o)->Q (iO (.ref s.heap.objs.size)) { s with heap:=h',toks:=tk }):iW (Z6 prog w) A (lR (.ref z)) Q E s:=by
 have k:s.TypeIs (.ref z) "zip":=⟨_,h,rfl⟩
 unfold lR;exact iP (lU (i9 (name:=bq "__next__") k dE (i7 dE k PySem.F.entry_zip_next
  (qcO D O R h Z Y h1 h2 g l λx y h' tk r n m q p f e j=>iU (d x y h' tk r n m q p f e j)) (PySem.F.args_zip_next_1 _))))
theorem XU{Q:Option iR->iV->Prop}(D:Apart2 z TI TO i1 i2 fp1 fp2)(O:Draws prog w A.in1 i1 fp1 n1 P1 S1)(R:Draws prog w A.in1 i2 fp2 n2 P2 S2)(h:mH s.heap z TI TO .none)(Z:lC s.heap TI (.ref i1) (.ref i2))(Y:lC s.heap TO a b)(h1:S1 i s.heap)(h2:S2 i s.heap)(C:i=n1\/(i<n1/\i=n2))(j:∀h' tk,(∀c o,c≠z->c≠TO->c≠i1->c≠i2->s.heap.get? c=iO o->h'.get? c=iO o)->Q iQ { s with heap:=h',toks:=tk }):iW (Z6 prog w) A (lR (.ref z)) Q E s:=by
 have k:s.TypeIs (.ref z) "zip":=⟨_,h,rfl⟩
 unfold lR;refine iP (lU (i9 (name:=bq "__next__") k dE (i7 dE k PySem.F.entry_zip_next (qfv D O R h Z Y h1 h2 C λh' tk e d f=>?_) (PySem.F.args_zip_next_1 _))));obtain⟨o,l,g⟩:=f;refine iP (ll (T := "StopIteration") (b:=iT) ⟨o,l,g⟩ isSubtype_stop ?_);exact iU (j _ _ d)
end
section
theorem Qj(a:A.handled=iQ)(k:SK)(it l:Z7)(e:l≠it)(items:Array iR):Draws prog w A it [it,l] items.size (λi v=>items[i]?=iO v) (λi h=>ItK h it l k i/\SeqK h l k items):=by
 cases k with
 |l=>exact Draws.list a it l e items
 |t=>exact WV a it l e items
end
abbrev zH1(k1:SK)(h:Z5)(g:Z7):Z5:=h.push { cls:=.type k1.itc,data:=.fields #[.ref g,.int 0 0] }
abbrev zH2(k1 k2:SK)(h:Z5)(g l:Z7):Z5:=(zH1 k1 h g).push { cls:=.type k2.itc,data:=.fields #[.ref l,.int 0 0] }
abbrev zH3(k1 k2:SK)(h:Z5)(g l:Z7):Z5:=(zH2 k1 k2 h g l).push { cls:=.type "tuple",data:=.seq #[.ref h.objs.size,.ref (zH1 k1 h g).objs.size] }
abbrev zH4(k1 k2:SK)(h:Z5)(g l:Z7):Z5:=(zH3 k1 k2 h g l).push { cls:=.type "tuple",data:=.seq #[.none,.none] }
abbrev zH5(k1 k2:SK)(h:Z5)(g l:Z7):Z5:=(zH4 k1 k2 h g l).push { cls:=.type "zip",data:=.fields #[.none,.bool iS,.bool iS,.ref (zH2 k1 k2 h g l).objs.size,.ref (zH3 k1 k2 h g l).objs.size] }
theorem GO(k1 k2:SK)(l a:Z7)(xs ys:Array iR):Meets (Builtin.«zip.__new__» ⟨[.type "zip",.ref l,.ref a],[]⟩) (λ_ R s=>SeqK s.heap l k1 xs/\SeqK s.heap a k2 ys/\R (.ok (.ret (.ref (zH4 k1 k2 s.heap l a).objs.size))) { s with heap:=zH5 k1 k2 s.heap l a }):=
 .of_wp λprog w A R s h=>by
  obtain⟨hp,g,d,tk,os⟩:=s;obtain⟨t,f,h⟩:=h;have i:=sub_zip;have c:SeqK (iJ ⟨hp,g,d,tk,os⟩) l k1 xs:=t;have b:SeqK (iJ ⟨hp.push { cls:=.type k1.itc,data:=.fields #[.ref l,.int 0 0] },g,d,tk,os⟩) a k2 ys:=SeqK.at f λo e=>aa _ e;wp_walk using qfp c,qfp b
  exact⟨_,rfl,h⟩
variable{k1 k2:SK}
section
theorem GP{g l:Z7}{ys:Array iR}{Q:iR->iV->Prop}(t:SeqK s.heap g k1 xs)(f:SeqK s.heap l k2 ys)(h:∀h',mH h' (s.heap.objs.size+4) (s.heap.objs.size+2) (s.heap.objs.size+3) .none->lC h' (s.heap.objs.size+2) (.ref s.heap.objs.size) (.ref (s.heap.objs.size+1)) ->lC h' (s.heap.objs.size+3) .none .none->ItK h' s.heap.objs.size g k1 0->ItK h' (s.heap.objs.size+1) l k2 0->(∀c o,s.heap.get? c=iO o->h'.get? c=iO o)->Q (.ref (s.heap.objs.size+4)) { s with heap:=h' }) :
  iW (Z6 prog w) A (call (.type "zip") [.ref g,.ref l]) Q E s:=by
 refine callType_new PySem.F.called_zip (by decide) (PySem.F.typeCall_zip_2 _ _) (PySem.F.newCall_zip_2 _ _) (λobj=>PySem.F.args_object_init_3 obj _ _) PySem.F.entry_zip_new (GO k1 k2 g l xs ys) ⟨t,f,?_⟩;have z1:(zH1 k1 s.heap g).objs.size=s.heap.objs.size+1:=bz ..;have z2:(zH2 k1 k2 s.heap g l).objs.size=s.heap.objs.size+2:=by rw[bz,z1]
 have z:(zH3 k1 k2 s.heap g l).objs.size=s.heap.objs.size+3:=by rw[bz,z2]
 have b:(zH4 k1 k2 s.heap g l).objs.size=s.heap.objs.size+4:=by rw[bz,z]
 have a:(zH5 k1 k2 s.heap g l).get? (zH4 k1 k2 s.heap g l).objs.size=iO _:=ak _ rfl;have M:(zH5 k1 k2 s.heap g l).get? (zH3 k1 k2 s.heap g l).objs.size=iO _:=aa _ (ak _ rfl);have Y:(zH5 k1 k2 s.heap g l).get? (zH2 k1 k2 s.heap g l).objs.size=iO _:=aa _ (aa _ (ak _ rfl));have Z:(zH5 k1 k2 s.heap g l).get? (zH1 k1 s.heap g).objs.size=iO _:=aa _ (aa _ (aa _ (ak _ rfl)));have g1:(zH5 k1 k2 s.heap g l).get? s.heap.objs.size=iO _:=aa _ (aa _ (aa _ (aa _ (ak _ rfl))));show _/\_;rw[z2,z,b]at a;rw[z1,z2]at Y;rw[z]at M;rw[z1]at Z;rw[b];exact⟨⟨_,a,rfl⟩,h _ a Y M (.of ⟨_,g1,rfl,rfl⟩) (.of ⟨_,Z,rfl,rfl⟩) λc o x=>aa _ (aa _ (aa _ (aa _ (aa _ x))))⟩
end
variable{t':Nat}
section
theorem Jh{ch:List Z7}(I:Inv X Z9 σ H s)(k:∀b o,b∉ch->s.heap.get? b=iO o->h'.get? b=iO o)(h:∀b∈ch,Wu X Z9 H b):Inv X Z9 σ H { s with heap:=h',toks:=t' }:=by
 have t:∀b u,H b=iO u->b∉ch:=λb u e z=>by rw[(h b z).1]at e;cases e
 refine I.step (g':=s.gens) (d':=s.drawn) (ch:=ch) (λb f=>?_) (λb o _ _ d e _=>k b o d e) (λb o _ _ d e _=>⟨o.slots,k b o d e⟩) (λ_ _ _ _ n=>n) (λb o d e=>⟨o,k b o d e⟩) (λ_ _ e=>e) (λ_ _ _ e=>e) (λb ps e=>⟨#[],by rw[e];simp⟩) (λm a=>?_) (λb u e=>?_) I.bare;·obtain⟨f0,f1,f2,i,f4,g⟩:=h b f;exact⟨i,f1,f4,g⟩
 .obtain⟨o,es,ep,l,r⟩:=a;exact⟨o,es,ep,k _ o (λz=>(h _ z).2.1 rfl) l,r⟩
 .refine(I.hok b u e).stay (λc v d q=>k c v ?_ q) (λ_ q=>q) λ_ _ q=>q;rcases d with z|z
  .rw[z];exact t b u e
  .exact t c _ z
theorem qld{d':Drawn}(I:Inv X Z9 σ H s)(k:∀b u,s.heap.get? b=iO u->h'.get? b=iO u):Inv X Z9 σ H { s with heap:=h',drawn:=d',toks:=t' }:=by refine I.step (g':=s.gens) (d':=d') (ch:=[]) (λ_ z=>nomatch z) (λb o _ _ _ e _=>k b o e) (λb o _ _ _ e _=>⟨o.slots,k b o e⟩) (λ_ _ _ _ n=>n) (λb o _ e=>⟨o,k b o e⟩) (λ_ _ e=>e) (λ_ _ _ e=>e) (λb ps e=>⟨#[],by rw[e];simp⟩) (λm c=>?_) (I.hok.kept k) I.bare;obtain⟨o,es,ep,l,r⟩:=c;exact⟨o,es,ep,k _ o l,r⟩
theorem xh{xs:List V}(I:Inv X Z9 σ H s):∀{k:SK},SqK X.K H a k xs->∃its:List iR,Vals xs its/\SeqK s.heap a k its.toArray
 |.l,h=>let ⟨its,r,p,_⟩:=I.list h; ⟨its,r,p.isList⟩
 |.t,h=>let ⟨its,r,p,_⟩:=I.tuple h; ⟨its,r,p⟩
end
def Itz(K:Y8)(k g:Z7)(k1 k2:SK)(xs ys:List V):It:=
 ⟨λi H=>i<xs.length/\i<ys.length/\SqK K H k k1 xs/\SqK K H g k2 ys,λi H v H'=>∃x y p,xs[i]?=iO x/\ys[i]?=iO y/\H p=iQ/\v=.ref p/\H'=upd H p (.tup [x,y]),λi H=>(xs.length<=i\/ys.length<=i)/\SqK K H k k1 xs/\SqK K H g k2 ys⟩
variable{us:List iR}
theorem yy{xs:List V}(r:Vals xs us){u:iR}(h:us[i]?=iO u):∃x,xs[i]?=iO x/\RelV x u:=by
 have hi:i<us.length:=(aD.mp h).1;have hx:i<xs.length:=by rw[r.length];exact hi
 obtain⟨a,h1,h2⟩:=r.get (ay hx);rw[h]at h1;cases h1;exact⟨xs[i],ay hx,h2⟩
theorem Vh(b k g:Nat)(h1:k<b)(h2:g<b):Apart2 (b+4) (b+2) (b+3) b (b+1) [b,k] [b+1,g]:=by have ne:∀x y:Nat,x≠y->x≠y:=λ_ _ h=>h;have n:∀x a c:Nat,x≠a->x≠c->x∉[a,c]:=λx a c n1 n2 h=>(ae.mp h).elim n1 λh=>n2 (aw.mp h);exact⟨ne _ _ (by lia),ne _ _ (by lia),ne _ _ (by lia),ne _ _ (by lia),ne _ _ (by lia),ne _ _ (by lia),ne _ _ (by lia),ne _ _ (by lia),ne _ _ (by lia),ne _ _ (by lia),n _ _ _ (by lia) (by lia),n _ _ _ (by lia) (by lia),n _ _ _ (by lia) (by lia),n _ _ _ (by lia) (by lia),n _ _ _ (by lia) (by lia),n _ _ _ (by lia) (by lia)⟩
theorem qcP{P:iZ}{w:i3}{K:Y8}{J:List Z4}{x1}{pos:Pos}{k1 k2:SK}(b r q:Nat)(xs ys:List V)(h1:r<b)(h2:q<b):Turn P w K (.Tuple J x1 pos) (Itz K r q k1 k2 xs ys) [b+4,b+2,b+3,b,b+1] (b+4)
   (λi h=>mH h (b+4) (b+2) (b+3) .none/\lC h (b+2) (.ref b) (.ref (b+1))/\(∃a c,lC h (b+3) a c)/\ItK h b r k1 i/\ItK h (b+1) q k2 i/\i<=xs.length/\i<=ys.length) where
 mem:=by simp
 obj:=λi h st c f=>by
  obtain⟨p,hi,⟨a,c',T⟩,t1,t,_⟩:=st;simp only[ae,aW,or_false]at f;rcases f with rfl|rfl|rfl|rfl|rfl;·exact⟨_,p,λv z=>by cases z⟩
  .exact⟨_,hi,λv z=>by cases z⟩
  .exact⟨_,T,λv z=>by cases z⟩
  .obtain⟨o,e,_,d⟩:=t1.obj;exact⟨o,e,λv z=>by rw[d]at z;cases z⟩
  .obtain⟨o,e,_,d⟩:=t.obj;exact⟨o,e,λv z=>by rw[d]at z;cases z⟩
 keep:=λi h h' st k=>by
  obtain⟨p,hi,⟨a,c',T⟩,t1,t,n⟩:=st;refine⟨k _ (by simp) _ p,k _ (by simp) _ hi,⟨a,c',k _ (by simp) _ T⟩,?_,?_,n⟩;·obtain⟨o,e,c,d⟩:=t1.obj;exact .of ⟨o,k _ (by simp) _ e,c,d⟩
  .obtain⟨o,e,c,d⟩:=t.obj;exact .of ⟨o,k _ (by simp) _ e,c,d⟩
 item:=by
  intro X U S W f i Z9 s σ H E I G st hg;subst U S W;obtain⟨p,Z,⟨oa,ob,Y⟩,t1,t,n1,n2⟩:=st;obtain⟨R,l2,O,M⟩:=hg;obtain⟨l,r1,p1⟩:=xh I O;obtain⟨N,r2,p2⟩:=xh I M;have e1:l.toArray.size=xs.length:=by rw[au,r1.length]
  have F:N.toArray.size=ys.length:=by rw[au,r2.length]
  have D:=Vh b r q h1 h2;have C:X.A.in1.handled=none:=I.ok.hd f;refine WW (A:=X.A) D (Qj (prog:=X.prog) (w:=X.w) (A:=X.A.in1) C k1 b r (aC h1) l.toArray) (Qj (prog:=X.prog) (w:=X.w) (A:=X.A.in1) C k2 (b+1) q (aC (bU h2)) N.toArray) p Z Y ⟨t1,p1⟩ ⟨t,p2⟩ (by rw[e1];exact R) (by rw[F];exact l2) λu v h' tk hu hv z' L s1 s2 tp kp=>?_;refine⟨_,rfl,wpAny_letOwnedTupleGo_zip z' λhq z2 j=>?_⟩;obtain⟨x,hx,rx⟩:=yy r1 (by simpa using hu);obtain⟨y,hy,ry⟩:=yy r2 (by simpa using hv);have hT:H s.heap.objs.size=none:=I.hok.fresh (ap _);have Q:b+4<s.heap.objs.size:=ax p;have fT:∀c∈[b+4,b+2,b+3,b,b+1],c≠s.heap.objs.size:=λc f=>by
   simp only[ae,aW,or_false]at f;have B:b+4<s.heap.objs.size:=Q;generalize s.heap.objs.size=m at B;intro z
   lia
  have I1:Inv X Z9 σ (upd H s.heap.objs.size (.tup [x,y])) { s with heap:=s.heap.push { cls:=.type "tuple",data:=.seq #[u,v] } }:=
   I.laid (t':=s.toks) (λ_ _ e=>aa _ e) (ap _) ⟨⟨by simp only[ah,bn];rw[i5];decide,_,ak _ rfl,rfl⟩,[u,v],.cons rx (.cons ry .nil),⟨_,ak _ rfl,rfl,_,rfl⟩⟩
  have I2:Inv X Z9 σ (upd H s.heap.objs.size (.tup [x,y])) { s with heap:=hq,toks:=tk }:=by
   refine Jh (s:={ s with heap:=s.heap.push { cls:=.type "tuple",data:=.seq #[u,v] } }) (ch:=[b+4,b+2,b+3,b,b+1]) I1 (λc o g e=>?_) λc f=>⟨by rw[qB (fT c f)];exact(G c f).1,(G c f).2⟩
   simp only[ae,aW,or_false,not_or]at g;rw[j.2 c g.1];by_cases ec:c=s.heap.objs.size;·subst ec;have e3:(s.heap.push ({ cls:=.type "tuple",data:=.seq #[u,v] }:Obj)).get? s.heap.objs.size=iO { cls:=.type "tuple",data:=.seq #[u,v] }:=ak _ rfl;rw[show(s.heap.push ({ cls:=.type "tuple",data:=.seq #[u,v] }:Obj)).get? s.heap.objs.size=iO o from e]at e3;rw[e3];exact tp
   .have e4:s.heap.get? c=iO o:=by have:=e;rwa [show(s.heap.push ({ cls:=.type "tuple",data:=.seq #[u,v] }:Obj)).get? c=s.heap.get? c from eX _ _ _ ec]at this
    exact kp c o g.1 g.2.2.1 g.2.2.2.1 g.2.2.2.2 e4
  refine⟨.ref s.heap.objs.size,_,I2,rfl,⟨x,y,_,hx,hy,hT,rfl,rfl⟩,⟨z2,?_,⟨u,v,?_⟩,?_,?_,R,l2⟩,λc f=>by rw[qB (fT c f)];exact(G c f).1⟩;·exact(j.2 _ D.TIz).trans (kp _ _ D.TIz D.TITO D.TIi1 D.TIi2 Z)
  .exact(j.2 _ D.TOz).trans L
  .obtain⟨o,e,c,d⟩:=s1.1.obj;exact .of ⟨o,(j.2 _ D.i1z).trans e,c,d⟩
  .obtain⟨o,e,c,d⟩:=s2.1.obj;exact .of ⟨o,(j.2 _ D.i2z).trans e,c,d⟩
 done:=by
  intro X U S W f i Z9 s σ H E I G st hg;subst U S W;obtain⟨p,Z,⟨oa,ob,Y⟩,t1,t,n1,n2⟩:=st;obtain⟨R,O,M⟩:=hg;obtain⟨l,r1,p1⟩:=xh I O;obtain⟨N,r2,p2⟩:=xh I M;have e1:l.toArray.size=xs.length:=by rw[au,r1.length]
  have F:N.toArray.size=ys.length:=by rw[au,r2.length]
  have D:=Vh b r q h1 h2;have C:X.A.in1.handled=none:=I.ok.hd f;refine XU (A:=X.A) D (Qj (prog:=X.prog) (w:=X.w) (A:=X.A.in1) C k1 b r (aC h1) l.toArray) (Qj (prog:=X.prog) (w:=X.w) (A:=X.A.in1) C k2 (b+1) q (aC (bU h2)) N.toArray) p Z Y ⟨t1,p1⟩ ⟨t,p2⟩ (by rw[e1,F];lia) λh' tk kp=>⟨rfl,Jh (ch:=[b+4,b+2,b+3,b,b+1]) I (λc o g e=>?_) G⟩
  simp only[ae,aW,or_false,not_or]at g;exact kp c o g.1 g.2.2.1 g.2.2.2.1 g.2.2.2.2 e
 self:=λ_ _ _ _ _ st h=>wpAny_pyIter_zip st.1 h
theorem GQ:iY "zip"=iO (.type "zip"):=by decide +kernel
variable{own:List Nat}{ma:Mo}{pos:Pos}
section
variable{a c:Z4}{fa fb:qU}{mb:Mo}
theorem qhR{ta:TA}{p tpos:Pos}{J:List Z4}{x1}(hg:Gl X "zip")(n:X.mg "zip"=iQ)(o:PA X [a,c] ta)(hs:iX [a,c] X.env=[(iS,Y9 a X.env),(iS,Y9 c X.env)])(d:iX [c] X.env=[(iS,Y9 c X.env)]):PI X (.Tuple J x1 tpos) (.Call (.Name "zip" p) [a,c] [] pos) (λσ H R=>ta σ H λvs H1=>∃k g k1 k2 xs ys,vs=[.ref k,.ref g]/\SqK X.K H1 k k1 xs/\SqK X.K H1 g k2 ys/\R (Itz X.K k g k1 k2 xs ys) H1):=by
 refine⟨?_⟩;intro Z9 s σ H R I h;refine Call_ (uG I hg n GQ (bC (thn (o pos Z9 s σ H _ I h) λus s1 i=>?_) (by rw[hs,d]) (by rw[d];rfl)));obtain⟨vs,H1,e,r1,l⟩:=i;obtain⟨k,g,k1,k2,xs,ys,rfl,j,w,q⟩:=l;obtain⟨y,x,rfl,e1,r⟩:=qca r1;cases e1;cases r;obtain⟨m,u,p1⟩:=xh e j;obtain⟨N,v,p2⟩:=xh e w;refine GP p1 p2 λh' z Z Y t1 t kp=>?_;refine wpAny_pyIter_zip z ?_;refine⟨s1.heap.objs.size+4,_,_,Itz X.K k g k1 k2 xs ys,H1,rfl,e.kept (t':=s1.toks) kp,qcP s1.heap.objs.size k g xs ys p1.lt p2.lt,⟨z,Z,⟨_,_,Y⟩,t1,t,aU _,aU _⟩,λb f=>?_,q⟩;have S:s1.heap.objs.size<=b:=by
  simp only[ae,aW,or_false]at f;rcases f with rfl|rfl|rfl|rfl|rfl;·exact bR _ _
  .exact bR _ _
  .exact bR _ _
  .exact ap _
  .exact bR _ _
 exact e.fpOk S (e.hok.fresh S)
theorem PoI.bindA{as:List AK}{o:Out (List D×Sl)}{k:List D×Sl->Out (List D×Sl)}{R:It->Hp->Prop}{Q:List V->Hp->Prop}(hp:PoI C own σ F H (o.bind k) R)(h:∀vs F1 H1 ds ρ1,Rep C.K own F1 H1 σ ρ1->Chg (OA own σ) F H F1 H1->ArgV C.K H F1 H1 σ as vs ds->PoI C own σ F H (k (ds,ρ1)) R->Q vs H1):PoA C own as σ F H o Q:=by
 cases o with
 |ok p=>obtain⟨ds,ρ1⟩:=p;exact λvs F1 H1 a c v=>h vs F1 H1 ds ρ1 a c v hp
 |exc e=>exact hp
 |bad=>exact hp.elim
noncomputable def qbX(xs ys:List D):List D:=List.zipWith (λx y=>.tup [x,y]) xs ys
def qjB(fr:vY):vY:=λρ=>(fr ρ).bind λp=>match p.1 with
 |[x,y]=>(zI x).bind λxs=>(zI y).bind λys=>.ok (qbX xs ys,p.2)
 |_=>.bad
theorem qdQ(h:Is K F v d)(e:zI d=.ok ds):∃a k xs,v=.ref a/\(∀H,Same F H->SqK K H a k xs)/\IsL K F xs ds:=by
 cases h with
 |@lst a xs ds' p t=>cases e;exact⟨_,.l,_,rfl,λH s=>s.seq p,t⟩
 |@tup a xs ds' p t=>cases e;exact⟨_,.t,_,rfl,λH s=>qW s p,t⟩
 |_=>cases e
theorem qhS{k g:Z7}{xs ys:List V}{es:List D}(p1:∀H,Same F H->SqK K H k k1 xs)(p2:∀H,Same F H->SqK K H g k2 ys)(t1:IsL K F xs ds)(t:IsL K F ys es):ItIs K F (Itz K k g k1 k2 xs ys) (qbX ds es) where
 go:=λi H hi s=>by unfold qbX at hi;rw[List.length_zipWith]at hi;exact⟨by rw[t1.length];lia,by rw[t.length];lia,p1 H s,p2 H s⟩
 yld:=λi Fi H v H' d e s1 s2 y=>by
  obtain⟨x,y,p,hx,h,hn,rfl,rfl⟩:=y;obtain⟨d1,e1,i1⟩:=t1.get hx;obtain⟨d2,a,i2⟩:=t.get h;have o:d=.tup [d1,d2]:=by unfold qbX at e;rw[List.getElem?_zipWith,e1,a]at e;exact(aL.inj e).symm
  subst o;obtain⟨g1,Z⟩:=wH (u:=.tup [x,y]) s2 hn;exact⟨_,Z,g1,.tup (.of qh) (.cons ((i1.mono s1).mono Z.grow) (.cons ((i2.mono s1).mono Z.grow) .nil))⟩
 stop:=λi H hi s=>by unfold qbX at hi;rw[List.length_zipWith]at hi;exact⟨by rw[t1.length,t.length];lia,p1 H s,p2 H s⟩
theorem qfw{p tpos:Pos}{J:List Z4}{x1}(n:C.K=X.K)(hg:Gl X "zip")(m:X.mg "zip"=iQ)(j:PE X a (tE C own ma fa))(g:PE X c (tE C own mb fb))(h1:ma≠.any:=by decide)(h2:mb≠.any:=by decide)(hs:iX [a,c] X.env=[(iS,Y9 a X.env),(iS,Y9 c X.env)]:=by exact UM rfl rfl)(b:iX [c] X.env=[(iS,Y9 c X.env)]:=by exact qD rfl):PI X (.Tuple J x1 tpos) (.Call (.Name "zip" p) [a,c] [] pos) (tIt C own (qjB (qb fa (qb fb qu)))):=by
 refine Gw (qhR hg m (qa j (qa g qe h2 (by rw[b];rfl)) h1 (by rw[hs,b])) hs b) λσ H R ⟨F,ρ,f,h⟩=>⟨F,ρ,f,PoI.bindA h λvs F1 H1 ds ρ1 r k l h1=>?_⟩
 have i:=ArgV.isL (by decide) l;cases i with
 |nil=>exact h1.elim
 | @cons v d vs ds i1 i=>
  cases i with
  |nil=>exact h1.elim
  | @cons v2 d2 vs ds i2 i=>
   cases i with
   |cons=>exact h1.elim
   | nil=>
    have h1:PoI C own σ F H ((zI d).bind λxs=>(zI d2).bind λys=>.ok (qbX xs ys,ρ1)) R:=h1;cases e1:zI d with
    |bad=>rw[e1]at h1;exact h1.elim
    |exc c=>cases d <;> cases e1
    |ok xs=>
     cases e:zI d2 with
     |bad=>rw[e1,e]at h1;exact h1.elim
     |exc c=>cases d2 <;> cases e
     |ok ys=>rw[e1,e]at h1;obtain⟨q,k1,ws,rfl,p1,t1⟩:=qdQ i1 e1;obtain⟨o,k2,w,rfl,p2,t⟩:=qdQ i2 e;refine⟨q,o,k1,k2,ws,w,rfl,n ▸ p1 H1 r.sub,n ▸ p2 H1 r.sub,?_⟩;rw[<-n];exact h1 _ F1 H1 r k (qhS p1 p2 t1 t)
end
def leS(x y:Str):Prop:=¬y.cps.toList<x.cps.toList
def qgO(x:Str):List Str->List Str
 |[]=>[x]
 |y::l=>if wz y x=iT then y::qgO x l else x::y::l
def uZ:List Str->List Str
 |[]=>[]
 |x::l=>qgO x (uZ l)
variable{x y:Str}
theorem Vi{z:Str}(a:leS x y)(b:leS y z):leS x z:=List.le_trans (α:=Nat) a b
theorem Vj(x y:Str):leS x y\/leS y x:=List.le_total (α:=Nat) x.cps.toList y.cps.toList
theorem qcQ(a:leS x y)(b:leS y x):x=y:=by have e:=List.le_antisymm (α:=Nat) (as:=x.cps.toList) (bs:=y.cps.toList) a b;obtain⟨⟨l⟩⟩:=x;obtain⟨⟨m⟩⟩:=y;simp at e;rw[e]
theorem zW:wz y x=iS↔leS x y:=by unfold wz leS;exact decide_eq_false_iff_not
theorem zX(x:Str):∀l,(qgO x l).Perm (x::l)
 |[]=>cC _
 |y::l=>by
  unfold qgO;split;·exact((zX x l).cons y).trans (ij _ _ _)
  .exact cC _
theorem jv:∀l,(uZ l).Perm l
 |[]=>cC _
 |x::l=>(zX x _).trans ((jv l).cons x)
set_option tactic.hygienic true in
theorem zY(x:Str):∀l,l.Pairwise leS->(qgO x l).Pairwise leS
 |[],_=>dq _ _
 | y::l,h=>by
  have d:=bB.mp h;unfold qgO;split
  .rename_i t;have c:leS y x:=by
    rcases Vj y x with q|q;·exact q
    .rw[<-zW]at q;rw[q]at t;cases t
   refine bB.mpr ⟨λz a=>?_,zY x l d.2⟩;rcases ae.mp ((zX x l).mem_iff.mp a)with rfl|a;·exact c
   .exact d.1 z a
  .rename_i t;have b:leS x y:=zW.mp (by cases e:wz y x with|true=>exact absurd e t|false=>rfl);refine bB.mpr ⟨λz a=>?_,h⟩;rcases ae.mp a with rfl|a;·exact b
   .exact Vi b (d.1 z a)
theorem jY:∀l,(uZ l).Pairwise leS
 |[]=>eJ
 |x::l=>zY x _ (jY l)
theorem zZ:∀{l m:List Str},l.Perm m->l.Pairwise leS->m.Pairwise leS->l=m
 |[],m,p,_,_=>p.nil_eq
 |x::l,[],p,_,_=>absurd p.length_eq (by simp)
 | x::l,y::m,p,hl,hm=>by
  have a:=bB.mp hl;have b:=bB.mp hm;have c:x=y:=by
   have h1:y∈x::l:=p.mem_iff.mpr (ai ..);have h2:x∈y::m:=p.mem_iff.mp (ai ..);rcases ae.mp h1 with e|e;·exact e.symm
   .rcases ae.mp h2 with d|d;·exact d
    .exact qcQ (a.1 y e) (b.1 x d)
  subst c;rw[zZ p.cons_inv a.2 b.2]
theorem Qk:∀(x:Str)(l:List Str),risingS x l=iT->(x::l).Pairwise leS
 |x,[],_=>dq _ _
 |x,y::l,h=>by
  have h:(!ltCps y.cps.toList x.cps.toList&&risingS y l)=true:=h;rw[aQ]at h;have j:=Qk y l h.2;have b:leS x y:=by have h1:=h.1;rw[ltCps_eq]at h1;unfold leS;simpa using h1
  refine bB.mpr ⟨λz a=>?_,j⟩;rcases ae.mp a with rfl|a;·exact b
  .exact Vi b ((bB.mp j).1 z a)
theorem WX:∀(l:List Str),sortedS l=iT->l.Pairwise leS
 |[],_=>eJ
 |x::l,h=>Qk x l h
variable{ss:List Str}
theorem GR{ks:List Str}(p:ss.Perm ks)(h:sortedS ss=iT):ss=uZ ks:=zZ (p.trans (jv ks).symm) (WX ss h) (jY ks)
noncomputable def ga:List D->Option (List Str)
 |[]=>iO []
 |.str x::l=>(ga l).map (x::·)
 |_::_=>iQ
def yz:D->Option (List Str)
 |.lst ds=>ga ds
 |.tup ds=>ga ds
 |_=>iQ
noncomputable def qgP[DecidableEq κ](T:KP κ)(P:iZ)(w:i3)(p:Z7)(ks:List κ):HO:=.ext λh=>SetK T P w h p ks
theorem qfx[DecidableEq κ]{T:KP κ}{ks:List κ}(x:SetK T P w h p ks):ObjOk P w H h p (qgP T P w p ks):=
 ⟨x,let ⟨_,_,_,e,_⟩:=x; ⟨_,e⟩,λ_ _ a k=>a.at k⟩
structure KD{κ:Type}[DecidableEq κ](T:KP κ) where
 sqd:D->Option (List κ)
 ok:κ->Prop
 get:∀{K:Y8}{F:Hp}{dx:D}{ss:List κ},sqd dx=iO ss->∃ds,zI dx=.ok ds/\∀{vs:List V}{us:List iR},IsL K F vs ds->Vals vs us->us.length=ss.length/\(∀(i:Nat)(v:iR),us[i]?=iO v->∃x,ss[i]?=iO x/\∀p w,(T.kd p w).is x v=iT)/\∀x∈ss,ok x
theorem qfy(a:IsL K F vs ds)(l:Vals vs us)(e:ga ds=iO ss):StrsAre us ss/\∀x∈ss,x.length<=Z8:=by
 induction ds generalizing vs us ss with
 |nil=>cases a;cases l;cases e;exact⟨.nil,λx h=>nomatch h⟩
 | cons d ds j=>
  cases a with
  | cons i a=>
   cases l with
   | cons r l=>
    cases d with
    |str x=>
     obtain⟨sl,q,rfl⟩:=aO.mp (show(ga ds).map (x::·)=iO ss from e);cases i with
     |str b=>obtain⟨t,rfl⟩:=r;obtain⟨i1,i2⟩:=j a l q;exact⟨.cons x t i1,λy D=>(ae.mp D).elim (λz=>z ▸ b) (i2 y)⟩
    |_=>cases e
section
variable{e:Z4}{fa:qU}
theorem Vk:∀(l ks:List Str){x:Str},x∈l.foldl zS ks->x∈ks\/x∈l
 |[],ks,x,h=>.inl h
 | y::l,ks,x,h=>by
  rcases Vk l (zS ks y) h with q|q
  .unfold zS at q;split at q;·exact .inl q
   .rcases af.mp q with q|q;·exact .inl q
    .exact .inr (by rw[aw.mp q];exact ai ..)
  .exact .inr (ac _ q)
theorem Yn(e:ga ds=iO ss)(l:IsL K F vs ds)(d:Vals vs us):us.length=ss.length/\(∀(i:Nat)(v:iR),us[i]?=iO v->∃x,ss[i]?=iO x/\∀p w,(KpS.kd p w).is x v=iT)/\∀x∈ss,x.length<=Z8:=by obtain⟨st,D⟩:=qfy l d e;refine⟨st.length,λi v h=>?_,D⟩;obtain⟨y,t,e1,a⟩:=st.item i v h;refine⟨y,a,λp w=>?_⟩;rw[e1];show fW y (.str y t)=iT;simp[fW]
def KdS:KD KpS where
 sqd:=yz
 ok:=λy=>y.length<=Z8
 get:=λ{K F dx ss} e=>by
  cases dx with
  |lst ds=>exact⟨ds,rfl,Yn e⟩
  |tup ds=>exact⟨ds,rfl,Yn e⟩
  |_=>cases e
theorem qdR[DecidableEq κ]{T:KP κ}(U:KD T)(m:C.K=X.K)(j:X.calm=iT):vG X (.type "set") (λxs H Q=>∃x F dx ss,xs=[x]/\Same F H/\TopIs C.K F H x dx/\U.sqd dx=iO ss/\ss.length<4000/\((∀y∈ss,U.ok y)->∀p,H p=iQ->Q (.ref p) (upd H p (qgP T X.prog X.w p (ss.foldl wL []))))):=by
 intro Z9 s σ H xs us Q I r h;obtain⟨x,F,dx,ss,rfl,A,t,es,hl,q⟩:=h;obtain⟨u,rfl,B⟩:=wv r;obtain⟨ds,e,hg⟩:=U.get (K:=C.K) (F:=F) es;obtain⟨a,sk,vs,rfl,hq,f⟩:=qhN A t e;cases B;rw[m]at hq;obtain⟨its,o,n,d,l,c,g,hd,z⟩:=Yi I hq;obtain⟨hn,hi,D⟩:=hg f d;refine GI (T:=T) (λA1 E G hA k=>?_) λh' tk S kp=>⟨.ref s.heap.objs.size,_,I.laid (t':=tk) kp (ap _) (qfx S),rfl,q D _ (I.hok.fresh (ap _))⟩
 exact qlS (sk:=sk) (items:=its.toArray) (hA.trans (I.ok.hd j)) (GH (ak _ rfl)) (.of (aa _ l) hd c) (by simp[hn]) (λi v e=>(hi i v (by simpa using e)).imp λx h=>⟨h.1,h.2 _ _⟩) (by rw[au,hn];unfold mi;lia) (aC (ax l)) λh' tk S kp=>k h' tk S λb o J=>kp b o (aC (ax J)) (aa _ J)
theorem Vl:∀{us:List iR}{ss:List Str},StrsAre us ss->Vals (ss.map V.str) us
 |_,_,.nil=>.nil
 |_,_,.cons y t h=>.cons ⟨t,rfl⟩ (Vl h)
theorem GS(c:X.calm=iT):vG X (.builtin "sorted") (λxs H Q=>∃a ks,xs=[.ref a]/\H a=iO (qgP KpS X.prog X.w a ks)/\ks.length<64/\∀p,H p=iQ->Q (.ref p) (upd H p (.lst ((uZ ks).map V.str)))):=by
 intro Z9 s σ H xs us Q I r h;obtain⟨a,ks,rfl,g,j,q⟩:=h;obtain⟨u,rfl,B⟩:=wv r;cases B;have S:SetK KpS X.prog X.w s.heap a ks:=(I.hok a _ g).1;refine XT (I.ok.hd c) S j λh1 h' dr tk vs e ss k1 k2 hp st pm so=>?_;rw[GR pm so]at st;have d:Inv X Z9 σ H { s with heap:=h1,drawn:=dr,toks:=tk }:=qld I k1;have z:(uZ ks).length<=Z8:=by
  rw[(jv ks).length_eq,i5]
  lia
 refine⟨.ref h1.objs.size,_,d.laid (t':=tk) (o:=.lst ((uZ ks).map V.str)) k2 (ap _) ⟨by rw[ao];exact z,vs.toList,e,Vl st,by simpa[lc]using hp⟩,rfl,q _ (d.hok.fresh (ap _))⟩
theorem qfz[DecidableEq κ]{T:KP κ}:vG X (.builtin "len") (λxs H Q=>∃a ks,xs=[.ref a]/\H a=iO (qgP T X.prog X.w a ks)/\Q (.int ks.length) H):=by intro Z9 s σ H xs us Q I r h;obtain⟨a,ks,rfl,g,q⟩:=h;obtain⟨u,rfl,B⟩:=wv r;cases B;obtain⟨es,ep,t,l,d⟩:SetK T X.prog X.w s.heap a ks:=(I.hok a _ g).1;have b:=d.bd;refine call_len_set l ⟨rfl,rfl,rfl⟩ rfl d.fits (by unfold mi at b;lia) ?_;exact⟨.int ks.length,H,I.tok _,⟨_,by rw[d.size]⟩,q⟩
theorem ya{m:Mo}{f:qU}{Q R:VK}(h:tE C own m f σ H Q)(i:∀v H1,Q v H1->R v H1):tE C own m f σ H R:=by
 obtain⟨F,ρ,r,po⟩:=h;refine⟨F,ρ,r,?_⟩;cases q:f ρ with
 |ok p=>rw[q]at po;obtain⟨d,ρ1⟩:=p;exact λv F1 H1 a b c=>i _ _ (po v F1 H1 a b c)
 |exc c ρ1=>rw[q]at po;exact po
 |bad=>rw[q]at po;exact po.elim
def uv(d:D):Out D:=match yz d with
 |some ss=>if ss.length<64 then .ok (.lst ((uZ (ss.foldl zS [])).map D.str))else .bad
 |none=>.bad
def gb(d:D):Out D:=match yz d with
 |some ss=>if ss.length<4000 then .ok (.int (ss.foldl zS []).length)else .bad
 |none=>.bad
theorem Ji:∀{ss:List Str},(∀x∈ss,x.length<=Z8)->IsL K F (ss.map V.str) (ss.map D.str)
 |[],_=>.nil
 |x::l,h=>.cons (.str (h x (ai ..))) (Ji λy a=>h y (ac _ a))
theorem Ql{p p2 a:Pos}(B:C.K=X.K)(k:X.calm=iT)(hg:Gl X "sorted")(r:X.mg "sorted"=iQ)(v:iY "sorted"=iO (.builtin "sorted"))(i:Gl X "set")(g:X.mg "set"=iQ)(d:iY "set"=iO (.type "set"))(s:PE X e (tE C own ma fa))(j:iX [e] X.env=[(iS,Y9 e X.env)]:=by exact qD rfl)(c:iX [.Call (.Name "set" p2) [e] [] a] X.env=[(iS,Y9 (.Call (.Name "set" p2) [e] [] a) X.env)]:=by exact qD rfl) :
  PE X (.Call (.Name "sorted" p) [.Call (.Name "set" p2) [e] [] a] [] pos) (tE C own .fr (d1 uv fa)):=by
 refine jy (um (GS k) hg r v (qI (jO (qdR KdS B k) i g d (qI s jq j) (by decide) (by decide) (by rw[j];rfl) rfl) jq c) (by decide) (by decide) (by rw[c];rfl) rfl) λσ H Q h=>?_;refine ya (wF (ma:=ma) h) λx H1 m=>?_;obtain⟨G,F,dx,ex,A,n,po⟩:=m;cases ex;unfold uv at po;cases es:yz dx with
 |none=>rw[es]at po;exact po.elim
 | some ss=>
  rw[es]at po;by_cases hl:ss.length<64
  .have po:PoV C .fr F H1 (if ss.length<64 then .ok (.lst ((uZ (ss.foldl zS [])).map D.str))else .bad) Q:=po;rw[Aa hl,<-Yl]at po;refine⟨x,F,dx,ss,rfl,A,n,es,by lia,λo q hq=>⟨q,_,rfl,qh,?_,λl f=>?_⟩⟩
   .have:=yx ss [];rw[bn]at this
    lia
   .obtain⟨s1,E,f1⟩:=jT (u:=qgP KpS X.prog X.w q (ss.foldl wL [])) A hq;obtain⟨s2,c2,f2⟩:=jT (u:=.lst ((uZ (ss.foldl wL [])).map V.str)) s1 f;have t:H1 l=none:=by
     by_cases z:l=q;·rw[z]at f;rw[qh]at f;cases f
     .rwa [qB z]at f
    refine po _ _ _ s2 (E.trans' c2) ⟨l,rfl,t,f2,_,qh,Ji λy b=>o y ?_⟩;rw[Yl]at b;rcases Vk ss [] ((jv _).mem_iff.mp b)with z|z;·cases z
    .exact z
  .have po:PoV C .fr F H1 (if ss.length<64 then .ok (.lst ((uZ (ss.foldl zS [])).map D.str))else .bad) Q:=po;rw[Ab hl]at po;exact po.elim
noncomputable def qjC[DecidableEq κ]{T:KP κ}(U:KD T)(add:List κ->κ->List κ)(d:D):Out D:=match U.sqd d with
 |some ss=>if ss.length<4000 then .ok (.int (ss.foldl add []).length)else .bad
 |none=>.bad
theorem XV[DecidableEq κ]{T:KP κ}(U:KD T){p p2 a:Pos}(n:C.K=X.K)(f:X.calm=iT)(hg:Gl X "len")(m:X.mg "len"=iQ)(v:iY "len"=iO (.builtin "len"))(i:Gl X "set")(g:X.mg "set"=iQ)(d:iY "set"=iO (.type "set"))(j:PE X e (tE C own ma fa))(b:iX [e] X.env=[(iS,Y9 e X.env)]:=by exact qD rfl)(c:iX [.Call (.Name "set" p2) [e] [] a] X.env=[(iS,Y9 (.Call (.Name "set" p2) [e] [] a) X.env)]:=by exact qD rfl) :
  PE X (.Call (.Name "len" p) [.Call (.Name "set" p2) [e] [] a] [] pos) (tE C own .sh (d1 (qjC U wL) fa)):=by
 refine jy (um (qfz (T:=T)) hg m v (qI (jO (qdR U n f) i g d (qI j jq b) (by decide) (by decide) (by rw[b];rfl) rfl) jq c) (by decide) (by decide) (by rw[c];rfl) rfl) λσ H Q h=>?_;refine ya (wF (ma:=ma) h) λx H1 z=>?_;obtain⟨l,F,dx,ex,A,t,po⟩:=z;cases ex;unfold qjC at po;cases es:U.sqd dx with
 |none=>rw[es]at po;exact po.elim
 |some ss=>
  rw[es]at po;have po:PoV C .sh F H1 (if ss.length<4000 then .ok (.int (ss.foldl wL []).length)else .bad) Q:=po;by_cases hl:ss.length<4000;·rw[Aa hl]at po;refine⟨x,F,dx,ss,rfl,A,t,es,hl,λD q hq=>⟨q,_,rfl,qh,?_⟩⟩;obtain⟨s1,k,f1⟩:=jT (u:=qgP T X.prog X.w q (ss.foldl wL [])) A hq;exact po _ _ _ s1 k (.int _)
  .rw[Ab hl]at po;exact po.elim
theorem GT{p p2 a:Pos}(n:C.K=X.K)(f:X.calm=iT)(hg:Gl X "len")(m:X.mg "len"=iQ)(v:iY "len"=iO (.builtin "len"))(i:Gl X "set")(g:X.mg "set"=iQ)(h:iY "set"=iO (.type "set"))(j:PE X e (tE C own ma fa))(b:iX [e] X.env=[(iS,Y9 e X.env)]:=by exact qD rfl)(c:iX [.Call (.Name "set" p2) [e] [] a] X.env=[(iS,Y9 (.Call (.Name "set" p2) [e] [] a) X.env)]:=by exact qD rfl) :
  PE X (.Call (.Name "len" p) [.Call (.Name "set" p2) [e] [] a] [] pos) (tE C own .sh (d1 gb fa)):=by
 rw[show gb=qjC KdS wL by rw[Yl];funext d;have q:KdS.sqd d=yz d:=rfl;unfold gb qjC;rw[q];cases yz d <;> rfl];exact XV KdS n f hg m v i g h j b c
end
variable{β:Type}
@[simp] theorem jJ{a:α}{k:α->Out β}:(Out.ok a).bind k=k a:=rfl
@[simp] theorem qle{c:Str}{o:Sl}{k:α->Out β}:(Out.exc c o:Out α).bind k=.exc c o:=rfl
@[simp] theorem qlf{k:α->Out β}:(Out.bad:Out α).bind k=.bad:=rfl
@[simp] theorem qkl{a:α}:(Out.ok a).plain=.ok a:=rfl
@[simp] theorem qlg:(Out.bad:Out α).plain=.bad:=rfl
variable{c:Prop}
@[simp] theorem qlh[Decidable c]{a b:Out α}{k:α->Out β}:(if c then a else b).bind k=if c then a.bind k else b.bind k:=by split <;> rfl
@[simp] theorem qli[Decidable c]{a b:Out α}:(if c then a else b).plain=if c then a.plain else b.plain:=by split <;> rfl
noncomputable def qcR(d:D)(A B:Out α):Out α:=match d with
 |.bl b=>if b=iT then A else B
 |_=>.bad
@[simp] theorem qjD{A B:Out α}:qcR (.bl b) A B=if b=iT then A else B:=rfl
noncomputable def qlj(p:D×Sl):Out (Bool×Sl):=match p.1 with
 |.bl b=>.ok (b,p.2)
 |_=>.bad
variable{ρ:Sl}
@[simp] theorem qkm:qlj (.bl b,ρ)=.ok (b,ρ):=rfl
def Wv(ms:List PM):Out (Fl×Sl)->Out (D×List D)
 |.ok (.nx,ρ)=>.ok (.non,jQ ρ 0 ms)
 |.ok (.rt d,ρ)=>.ok (d,jQ ρ 0 ms)
 |.ok _=>.bad
 |.exc c ρ=>.exc c ((jQ ρ 0 ms).map iO)
 |.bad=>.bad
variable{ms:List PM}
theorem qr{f:qK}:jW N ms f ds=Wv ms (f (qt N ds)):=by unfold jW Wv;rfl
@[simp] theorem qlk:Wv ms (.ok (.rt d,ρ))=.ok (d,jQ ρ 0 ms):=rfl
@[simp] theorem qll:Wv ms (.ok (.nx,ρ))=.ok (.non,jQ ρ 0 ms):=rfl
@[simp] theorem qkn{c:Str}:Wv ms (.exc c ρ)=.exc c ((jQ ρ 0 ms).map iO):=rfl
@[simp] theorem qko[Decidable c]{a b:Out (Fl×Sl)}:Wv ms (if c then a else b)=if c then Wv ms a else Wv ms b:=by split <;> rfl
def XW(as:List AK)(ρ:Sl):Out (D×List D)->KB
 |.ok q=>.ok (q.1,zr as q.2 ρ)
 |.exc c o=>.exc c (zr as (o.map (·.getD .non)) ρ)
 |.bad=>.bad
variable{as:List AK}
@[simp] theorem qjE{q:D×List D}:XW as ρ (.ok q)=.ok (q.1,zr as q.2 ρ):=rfl
@[simp] theorem qhT{c:Str}{o:Sl}:XW as ρ (.exc c o)=.exc c (zr as (o.map (·.getD .non)) ρ):=rfl
@[simp] theorem qhU[Decidable c]{a b:Out (D×List D)}:XW as ρ (if c then a else b)=if c then XW as ρ a else XW as ρ b:=by split <;> rfl
variable{ρ:Sl}
@[simp] theorem qfA:qc i ρ=match ρ[i]? with|some (iO d)=>.ok (d,ρ)|_=>.bad:=rfl
@[simp] theorem qlT:dC d ρ=.ok (d,ρ):=rfl
variable{gg:D->Sl->Out Sl}
section
variable{g g':D->D->Out D}{g1:D->Out D}{fa fb fc f:qU}{ft fu:uA}{fr:vY}{fs ft1:qK}{fi:vY}{G:jK}
@[simp] theorem xi:d1 g1 fa ρ=(fa ρ).bind λp=>(g1 p.1).plain.bind λd=>.ok (d,p.2):=rfl
@[simp] theorem qkp:d2 g fa fb ρ=(fa ρ).bind λp=>(fb p.2).bind λq=>(g p.1 q.1).plain.bind λd=>.ok (d,q.2):=rfl
@[simp] theorem qkq:vU f ρ=(f ρ).bind λp=>(ZD p.1).bind λb=>.ok (b,p.2):=rfl
@[simp] theorem qjF:qy f ρ=(f ρ).bind qlj:=rfl
@[simp] theorem qkr:xu ft ρ=(ft ρ).bind λp=>.ok (!p.1,p.2):=rfl
@[simp] theorem qjG:qkj f ρ=(qy f ρ).bind λp=>.ok (.bl (!p.1),p.2):=rfl
@[simp] theorem qks:Kh ft fu ρ=(ft ρ).bind λp=>if p.1=iT then fu p.2 else .ok (iS,p.2):=rfl
@[simp] theorem qlm:dOr ft fu ρ=(ft ρ).bind λp=>if p.1=iT then .ok (iT,p.2)else fu p.2:=rfl
set_option tactic.hygienic true in
@[simp] theorem qjH:WN fa fb ρ=(fa ρ).bind λp=>qcR p.1 (fb p.2) (.ok (.bl iS,p.2)):=by
 unfold WN;cases fa ρ with
 |ok p=>
  obtain⟨d,r⟩:=p;cases d <;> try rfl
  rename_i b;cases b <;> rfl
 |exc c o=>rfl
 |bad=>rfl
set_option tactic.hygienic true in
@[simp] theorem qkt:qk8 fa fb ρ=(fa ρ).bind λp=>qcR p.1 (.ok (.bl iT,p.2)) (fb p.2):=by
 unfold qk8;cases fa ρ with
 |ok p=>
  obtain⟨d,r⟩:=p;cases d <;> try rfl
  rename_i b;cases b <;> rfl
 |exc c o=>rfl
 |bad=>rfl
@[simp] theorem qln:dIf ft fa fb ρ=(ft ρ).bind λp=>if p.1=iT then fa p.2 else fb p.2:=rfl
set_option tactic.hygienic true in
@[simp] theorem qhV:ym g g' fa fb fc ρ=(fa ρ).bind λp=>(fb p.2).bind λq=>(g p.1 q.1).plain.bind λz=>qcR z ((fc q.2).bind λr=>(g' q.1 r.1).plain.bind λd=>.ok (d,r.2)) (.ok (.bl iS,q.2)):=by
 unfold ym;congr 1;funext p;congr 1;funext q;congr 1;funext z;cases z <;> try rfl
 rename_i b;cases b <;> rfl
@[simp] theorem qku:qu ρ=.ok ([],ρ):=rfl
@[simp] theorem qjI:qb fa fr ρ=(fa ρ).bind λp=>(fr p.2).bind λq=>.ok (p.1::q.1,q.2):=rfl
@[simp] theorem qjJ:kb fr ρ=(fr ρ).bind λq=>.ok (D.non::q.1,q.2):=rfl
@[simp] theorem qkv:yh fr ρ=(fr ρ).bind λp=>if p.1.length<=Z8 then .ok (.tup p.1,p.2)else .bad:=rfl
@[simp] theorem qkw:yo fr ρ=(fr ρ).bind λp=>if p.1.length<=Z8 then .ok (.lst p.1,p.2)else .bad:=rfl
@[simp] theorem qjK:qM ρ=.ok (.nx,ρ):=rfl
@[simp] theorem yb:qH fs ft1 ρ=(fs ρ).bind λp=>match p.1 with|.nx=>ft1 p.2|_=>.ok p:=by
 show _=_;unfold qH;cases fs ρ with
 |ok p=>obtain⟨l,r⟩:=p;cases l <;> rfl
 |exc c o=>rfl
 |bad=>rfl
@[simp] theorem qhW:sIf ft fs ft1 ρ=(ft ρ).bind λp=>if p.1=iT then fs p.2 else ft1 p.2:=rfl
@[simp] theorem qjL:kn f ρ=(f ρ).bind λp=>.ok (.nx,p.2):=rfl
@[simp] theorem WY:jm f ρ=(f ρ).bind λp=>.ok (.rt p.1,p.2):=rfl
@[simp] theorem Jj:qX i f ρ=(f ρ).bind λp=>if i<p.2.length then .ok (.nx,p.2.set i (iO p.1))else .bad:=rfl
@[simp] theorem qjM:ql as G fr ρ=(fr ρ).bind λp=>match kJ as p.1 p.2 with|some ds=>XW as p.2 (G ds)|none=>.bad:=rfl
@[simp] theorem qkx:qlP f ρ=(f ρ).bind λp=>(zI p.1).bind λds=>.ok (ds,p.2):=rfl
@[simp] theorem qky:qV f ρ=(f ρ).bind λp=>(jg p.1).bind λds=>.ok (ds,p.2):=rfl
@[simp] theorem qlo:gNm i d ρ=if i < ρ.length then .ok (ρ.set i (iO d))else .bad:=rfl
@[simp] theorem jV:vz fi gg fs ρ=(fi ρ).bind λp=>jB gg fs p.1 p.2:=rfl
@[simp] theorem qkz:qlQ f gg ρ=(f ρ).bind λp=>match gg p.1 p.2 with|.ok ρ'=>.ok (.nx,ρ')|_=>.bad:=rfl
@[simp] theorem qkA{gg:List D->D->Out (List D)}:xx i gg f ρ=if yv ρ[i]?=iT then(f ρ).bind λp=>(match p.2[i]? with|some (iO (.lst xs))=>(match gg xs p.1 with|.ok ys=>.ok (.non,p.2.set i (iO (.lst ys)))|_=>.bad)|_=>.bad)else .bad:=rfl
@[simp] theorem qlp:ftT ρ=.ok (iT,ρ):=rfl
end
def qk4(i j:Int):Prop:=(0<=j/\j<=64)/\-4611686018427387904<i/\i<4611686018427387904
instance:∀i j,Decidable (qk4 i j):=λi j=>inferInstanceAs (Decidable (_/\_))
def dM(k:D->Bool)(g:D->D->Out D)(f fa:qU):qU:=λρ=>(f ρ).bind λp=>if k p.1 then(fa p.2).bind λq=>(g p.1 q.1).plain.bind λd=>.ok (d,q.2)else .bad
variable{X:Cx}{C:Ct}{own:List Nat}{m ma mb:Mo}{pos:Pos}{σ:St}{F H:Hp}{Q:VK}
section
variable{a b:Z4}{fa fb:qU}
theorem Po.imp{r:KB}{R:VK}(h:Po C own m σ F H r Q)(i:∀v H',Q v H'->R v H'):Po C own m σ F H r R:=by
 cases r with
 |ok p=>exact λv F' H' a c o=>i v H' (h v F' H' a c o)
 |exc x=>exact h
 |bad=>exact h.elim
theorem qfB{k:D->Bool}{g:D->D->Out D}(f:ma≠.any)(h:tE C own m (dM k g fa fb) σ H Q):tE C own ma fa σ H λx H1=>(∃F dx,Same F H1/\TopIs C.K F H1 x dx/\k dx=iT)/\tE C own mb fb σ H1 λy H2=>∃F dx j,Same F H2/\TopIs C.K F H2 x dx/\TopIs C.K F H2 y j/\PoV C m F H2 (g dx j) Q:=by
 obtain⟨F,ρ,p,h⟩:=h;refine⟨F,ρ,p,Po.bind h λv F1 H1 d ρ1 a n c h1=>?_⟩;cases i:k d with
 |false=>simp only[i]at h1;exact h1.elim
 |true=>simp only[i,if_true]at h1;exact⟨⟨F1,d,a.sub,c.top,i⟩,F1,ρ1,a,Po.bind h1 λw l H2 e ρ2 r c2 b h2=>⟨l,d,e,r.sub,(c.grow f c2 λx z=>(p.OA_there z).1).top,b.top,PoV.of r h2⟩⟩
def MtD(X:Cx)(C:Ct)(m:Mo)(id:String)(g:D->D->Out D):Prop:=
 MtR X id (λx vs H Q=>∃y F dx d,vs=[y]/\Same F H/\TopIs C.K F H x dx/\TopIs C.K F H y d/\PoV C m F H (g dx d) Q)
end
theorem GU{Z9:Pns}{s:iV}(I:Inv X Z9 σ H s)(A:Same F H){n:Nat}{e:D}:∀{vs:List V}{ds:List D}{us:List iR}{b:Bool},IsL X.K F vs ds->Vals vs us->zq n e ds=iO b ->us.map (ZC X F n e)=ds.map λd=>eqN n d e == iO iT
 |_,_,_,b,.nil,.nil,h=>rfl
 |_,_,_,b,.cons i t,.cons r rs,h=>by obtain⟨a,c,q,f,rfl⟩:=KG h;rw[aE,aE,GU I A t rs f,Gh I A i r q,q];cases a <;> rfl
noncomputable def qlq:qK:=λ_=>.bad
variable{e:Z4}
section
variable{own':List Nat}{sts:List Z3}
theorem qfC:PSs X sts (tSt C own own' qlq):=by refine⟨?_⟩;intro Z9 s σ H D I h;obtain⟨_,_,_,h⟩:=h;exact h.elim
end
theorem PoI.shift{F1 H1:Hp}{r:Out (List D×Sl)}{R:It->Hp->Prop}(h:PoI C own σ F H r R)(c:Chg (OA own σ) F H F1 H1):PoI C own σ F1 H1 r R:=by
 cases r with
 |ok p=>exact λJ F' H' a T j=>h J F' H' a (c.trans' T) j
 |exc x=>exact λF' H' s io T=>h F' H' s io (c.trans' T)
 |bad=>exact h.elim
def XX(i j:Int):Prop:=(-(2 ^ 62)<=i/\i<2 ^ 62)/\-(2 ^ 62)<=j/\j<2 ^ 62
instance:∀i j,Decidable (XX i j):=λi j=>inferInstanceAs (Decidable (_/\_))
def xj(fa fb:qU):vY:=λρ=>(fa ρ).bind λp=>(fb p.2).bind λq=>match p.1,q.1 with
 |.int i,.int j=>if XX i j then .ok (yt i (j - i).toNat,q.2)else .bad
 |_,_=>.bad
variable{lo:Int}
section
variable{a b tg:Z4}{fa fb:qU}
theorem Qm{p:Pos}(hg:Gl X "range")(l:X.mg "range"=iQ)(o:PE X a (tE C own .sh fa))(n:PE X b (tE C own mb fb))(hs:iX [a,b] X.env=[(iS,Y9 a X.env),(iS,Y9 b X.env)]:=by exact UM rfl rfl)(f:iX [b] X.env=[(iS,Y9 b X.env)]:=by exact qD rfl):PI X tg (.Call (.Name "range" p) [a,b] [] pos) (tIt C own (xj fa fb)):=by
 refine Gw (ZM hg l (qI o (qI n jq f) (by rw[hs,f])) hs f) λσ H R ⟨F,ρ,k,h⟩=>⟨F,ρ,k,PoI.bindV h λv F1 H1 d ρ1 g q c h1=>⟨F1,ρ1,g,PoI.bindV (h1.shift q) λw s H2 e ρ2 r c2 m h2=>?_⟩⟩
 have c:Is C.K F1 v d:=c;cases d with
 | int i=>
  cases e with
  |int j=>
   cases c;obtain rfl:=m.top.int;have h2:PoI C own σ F1 H1 (if XX i j then .ok (yt i (j - i).toNat,ρ2)else .bad) R:=h2;by_cases z:XX i j;·rw[Aa z]at h2;exact⟨i,j,rfl,⟨z.1.1,z.1.2,z.2.1,z.2.2⟩,h2 _ s H2 r c2 qdM⟩
   .rw[Ab z]at h2;exact h2.elim
  |_=>exact h2.elim
 |_=>exact h2.elim
theorem WZ:∀{xs:List V}{us:List iR},xs.length=us.length->(∀(j:Nat)(x:V)(u:iR),xs[j]?=iO x->us[j]?=iO u->RelV x u)->Vals xs us
 |[],[],_,_=>.nil
 |x::xs,u::us,hl,h=>.cons (h 0 x u rfl rfl) (WZ (Nat.succ.inj hl) λj y w a b=>h (j+1) y w (by simpa using a) (by simpa using b))
 |[],_::_,hl,_=>nomatch hl
 |_::_,[],hl,_=>nomatch hl
noncomputable def qdS(p:Z7)(lo hi:Int):HO:=.ext λh=>∃t u v,IsRange h p lo hi 1 t u v
theorem GV{P:iZ}{w:i3}{h:Z5}{p:Z7}{hi:Int}{t u v:Tok}(x:IsRange h p lo hi 1 t u v):ObjOk P w H h p (qdS p lo hi):=
 ⟨⟨t,u,v,x⟩,⟨_,x⟩,λ_ _ ⟨t,u,v,x⟩ k=>⟨t,u,v,k _ x⟩⟩
theorem Vm:vG X (.type "range") (λxs H Q=>∃j:Int,xs=[.int j]/\∀p,H p=iQ->Q (.ref p) (upd H p (qdS p 0 j))):=by intro Z9 s σ H xs us Q I r h;obtain⟨j,rfl,q⟩:=h;obtain⟨u,rfl,B⟩:=wv r;obtain⟨t,rfl⟩:=B;exact call_range_1 ⟨.ref s.heap.objs.size,_,I.laid (t':=s.toks+1+1) (λb o e=>aa _ e) (ap _) (GV (iG ..)),rfl,q _ (I.hok.fresh (ap _))⟩
theorem Yo(d:X.calm=iT):vG X (.type "list") (λxs H Q=>∃r lo hi,xs=[.ref r]/\H r=iO (qdS r lo hi)/\(XX lo hi/\hi - lo<=1000000)/\∀p,H p=iQ->Q (.ref p) (upd H p (.lst ((aH (hi - lo).toNat).map λk=>V.int (lo+(k:Nat)))))):=by
 intro Z9 s σ H xs us Q I r h;obtain⟨a,lo,hi,rfl,g,z,q⟩:=h;obtain⟨u,rfl,B⟩:=wv r;cases B;obtain⟨t,u,v,hr⟩:=(I.hok a _ g).1;have i:b7 lo hi 1=(((hi - lo).toNat:Nat):Int):=by rw[rangeSize_one];split <;> lia
 refine call_list_range (n:=(hi - lo).toNat) (I.ok.hd d) hr (small_one z.1.1.1 z.1.1.2 z.1.2.1 z.1.2.2) i (by lia) λh' tk acc c k hp b=>?_;refine⟨.ref s.heap.objs.size,_,I.laid (t':=tk) (o:=.lst ((aH (hi - lo).toNat).map λk=>V.int (lo+(k:Nat)))) k (ap _) ⟨by rw[ao,bo,i5];lia,acc.toList,c,?_,by simpa using hp⟩,rfl,q _ (I.hok.fresh (ap _))⟩;refine WZ (by rw[ao,bo,aF,b.1]) λj x w ex e=>?_;rw[aG]at ex;obtain⟨k,f,rfl⟩:=aO.mp ex;obtain⟨D,rfl⟩:=aD.mp f;obtain⟨t,rfl⟩:=b.2 j w (by simpa using e);exact⟨t,by simp⟩
def uw:D->Out D
 |.int j=>if XX 0 j/\j - 0<=1000000 then .ok (.lst (yt 0 (j - 0).toNat))else .bad
 |_=>.bad
theorem Jk{K:Y8}:∀l:List Nat,IsL K F (l.map λk=>V.int (lo+(k:Nat))) (l.map λk=>D.int (lo+(k:Nat)))
 |[]=>.nil
 |k::l=>.cons (.int _) (Jk l)
set_option tactic.hygienic true in
theorem XY{p p2 a:Pos}(s:X.calm=iT)(hg:Gl X "list")(r:X.mg "list"=iQ)(v:iY "list"=iO (.type "list"))(i:Gl X "range")(g:X.mg "range"=iQ)(d:iY "range"=iO (.type "range"))(w:PE X e (tE C own ma fa))(m:iX [e] X.env=[(iS,Y9 e X.env)]:=by exact qD rfl)(c:iX [.Call (.Name "range" p2) [e] [] a] X.env=[(iS,Y9 (.Call (.Name "range" p2) [e] [] a) X.env)]:=by exact qD rfl) :
  PE X (.Call (.Name "list" p) [.Call (.Name "range" p2) [e] [] a] [] pos) (tE C own .fr (d1 uw fa)):=by
 refine jy (jO (Yo s) hg r v (qI (jO Vm i g d (qI w jq m) (by decide) (by decide) (by rw[m];rfl) rfl) jq c) (by decide) (by decide) (by rw[c];rfl) rfl) λσ H Q h=>?_;refine ya (wF (ma:=ma) h) λx H1 n=>?_;obtain⟨B,F,dx,ex,A,o,po⟩:=n;cases ex;cases dx <;> try exact po.elim
 rename_i j;unfold uw at po;by_cases b:XX 0 j/\j - 0<=1000000
 .simp only[Aa b]at po;obtain rfl:=o.int;refine⟨j,rfl,λq hq=>⟨q,0,j,rfl,qh,b,λl f=>?_⟩⟩;obtain⟨s1,y,f1⟩:=jT (u:=qdS q 0 j) A hq;obtain⟨s2,c2,f2⟩:=jT (u:=.lst ((aH (j - 0).toNat).map λk=>V.int (0+(k:Nat)))) s1 f;have t:H1 l=none:=by
   by_cases z:l=q;·rw[z]at f;rw[qh]at f;cases f
   .rwa [qB z]at f
  exact po _ _ _ s2 (y.trans' c2) ⟨l,rfl,t,f2,_,qh,Jk _⟩
 .simp only[Ab b]at po;exact po.elim
end
theorem GW:iY "enumerate"=iO (.type "enumerate"):=by decide +kernel
noncomputable def zf(xs:List D):List D:=(xs.zipIdx).map λp=>.tup [.int (p.2:Nat),p.1]
def Vn(f:qU):vY:=λρ=>(f ρ).bind λp=>match p.1 with
 |.lst xs=>.ok (zf xs,p.2)
 |_=>.bad
mutual
def qhX:Nat->Z4->Option D
 | 0,_=>iQ
 | n+1,e=>match e with
  |.Constant c _ _=>match c with
   |.none=>iO .non
   |.bool b=>iO (.bl b)
   |.int i=>iO (.int i)
   |.str x=>if x.length<=Z8 then iO (.str x)else iQ
   |_=>iQ
  |.UnaryOp .USub (.Constant (.int i) _ _) _=>iO (.int (-i))
  |.List es _=>(qhY n es).bind λds=>if ds.length<=Z8 then iO (.lst ds)else iQ
  |.Tuple es _ _=>(qhY n es).bind λds=>if ds.length<=Z8 then iO (.tup ds)else iQ
  |_=>iQ
def qhY:Nat->List Z4->Option (List D)
 |_,[]=>iO []
 | 0,_::_=>iQ
 |n+1,e::es=>(qhX n e).bind λd=>(qhY n es).bind λds=>iO (d::ds)
end
theorem GX{α:Type}:∀l:List α,((l.map λ_=>AK.vl).all λa=>decide (a=.vl))=iT
 |[]=>rfl
 |_::l=>by rw[aE,fY,GX l];rfl
theorem GY{n:Nat}{e:Z4}{d:D}(h:qhX n e=iO d):WJ e=true:=by
 cases n with
 |zero=>cases h
 |succ n=>cases e <;> first|rfl|(simp[qhX]at h)
section
variable{X:Cx}{C:Ct}{own:List Nat}
set_option tactic.hygienic true
mutual
theorem qhZ:∀(n:Nat){e:Z4}{d:D},qhX n e=iO d->PE X e (tE C own .sh (dC d))
 | 0,_,_,h=>by cases h
 | n+1,e,d,h=>by
  unfold qhX at h;split at h
  .split at h;·cases h;exact vI
   .cases h;exact vX
   .cases h;exact qm
   .split at h;·rename_i z;cases h;exact yl z
    .cases h
   .cases h
  .cases h;exact jy (WK zM qm) λσ H Q h=>h
  .obtain⟨ds,h1,h2⟩:=aZ.mp h;split at h2
   .rename_i z;cases h2;have i:yo (λρ=>.ok (ds,ρ))=dC (.lst ds):=by funext ρ;unfold yo dC;rw[Out.og,Aa z]
    rw[<-i];exact uW (kc (Ua n h1) (GX _)) (by decide)
   .cases h2
  .obtain⟨ds,h1,h2⟩:=aZ.mp h;split at h2
   .rename_i z;cases h2;have i:yh (λρ=>.ok (ds,ρ))=dC (.tup ds):=by funext ρ;unfold yh dC;rw[Out.og,Aa z]
    rw[<-i];exact kU (Ua n h1) (GX _)
   .cases h2
  .cases h
theorem Ua:∀(n:Nat){es:List Z4}{ds:List D},qhY n es=iO ds->PA X es (tAr C own (es.map λ_=>.vl) λρ=>.ok (ds,ρ))
 | 0,[],ds,h=>by cases h;exact qe
 |_+1,[],ds,h=>by cases h;exact qe
 | 0,_::_,ds,h=>by cases h
 |n+1,e::es,ds,h=>by unfold qhY at h;obtain⟨d,h1,h⟩:=aZ.mp h;obtain⟨f,h2,h⟩:=aZ.mp h;cases h;have i:qb (dC d) (λρ=>.ok (f,ρ))=λρ=>.ok (d::f,ρ):=rfl;rw[<-i];exact qa (qhZ n h1) (Ua n h2) (by decide) (jD (GY h1))
end
set_option tactic.hygienic false
end
noncomputable def txI(i:Int):Str:=toString i
def CTx(i:Int):Prop:=i.natAbs.log2<1920/\(txI i).length<=Z8
instance:∀i,Decidable (CTx i):=λi=>inferInstanceAs (Decidable (_/\_))
end L2.D2
namespace PySem
open Builtin Builtin.Str
end PySem
namespace L2.D2
open PySem PySem.Spec PyProof.Rows
def qlU(x y:Str):Prop:=(y.length == 0)=iS/\(Txt.split x y).length<=Z8/\∀z∈Txt.split x y,z.length<=Z8
instance:∀x y,Decidable (qlU x y):=λx y=>inferInstanceAs (Decidable (_/\_))
inductive IntsAre:List iR->List Int->Prop
 |nil:IntsAre [] []
 |cons (y:Int) (t:Tok) {vs:List iR} {ys:List Int} (h:IntsAre vs ys):IntsAre (cQ y t::vs) (y::ys)
theorem IntsAre.length:∀{vs:List iR}{ys:List Int},IntsAre vs ys->vs.length=ys.length
 |_,_,.nil=>rfl
 |_,_,.cons _ _ h=>congrArg (·+1) h.length
theorem IntsAre.item:∀{vs:List iR}{ys:List Int},IntsAre vs ys->∀(i:Nat)(v:iR),vs[i]?=iO v->∃y t,v=cQ y t/\ys[i]?=iO y
 |_,_,.nil,i,v,e=>by simp at e
 |_,_,.cons y t h,0,v,e=>by simp at e;subst e;exact⟨y,t,rfl,rfl⟩
 |_,_,.cons y t h,i+1,v,e=>by obtain⟨z,t',e1,a⟩:=h.item i v (by simpa using e);exact⟨z,t',e1,by simpa using a⟩
noncomputable def uD:List D->Option (List Int)
 |[]=>iO []
 |.int x::l=>(uD l).map (x::·)
 |_::_=>iQ
theorem GZ{K:Y8}{F:Hp}{vs:List V}{us:List iR}{ds:List D}{ss:List Int}(a:IsL K F vs ds)(l:Vals vs us)(e:uD ds=iO ss):IntsAre us ss:=by
 induction ds generalizing vs us ss with
 |nil=>cases a;cases l;cases e;exact .nil
 | cons d ds j=>
  cases a with
  | cons i a=>
   cases l with
   |cons r l=>
    cases d with
    |int x=>obtain⟨sl,q,rfl⟩:=aO.mp (show(uD ds).map (x::·)=iO ss from e);cases i;obtain⟨t,rfl⟩:=r;exact .cons x t (j a l q)
    |_=>cases e
variable{X:Cx}{C:Ct}{own:List Nat}{pos:Pos}{i:Nat}{x:Str}
section
theorem vr(h:X.N[i]?=iO x:=by rfl)(c:Vis X.env.scope x:=by first|exact bO rfl|exact fg (bO rfl)|exact fg (fg rfl))(l:i∉own:=by decide)(hd:Dbg x:=by decide)(d:Cdk x:=by decide):PE X (.Name x pos) (tE C own .sh (qc i)):=qhs h c l hd d
end
theorem gc(ks:List Int):∀n,n<=ks.length->preSum (λi=>ks.getD i 0) n=(ks.take n).sum
 | 0,_=>rfl
 |n+1,h=>by
  have j:=gc ks n (by lia);show preSum (λi=>ks.getD i 0) n+ks.getD n 0=_;rw[j,List.take_add_one,ia];have:ks[n]?=iO (ks.getD n 0):=by rw[bf,ay (by lia)];rfl
  rw[this];simp
theorem qdT:∀(ks:List Int),(ks.all λk=>decide (0<=k/\k<=100000))=iT->0<=ks.sum/\ks.sum<=100000 * ks.length
 |[],_=>by simp
 |k::ks,h=>by rw[fY,aQ]at h;have h1:=Ae h.1;have j:=qdT ks h.2;rw[List.sum_cons,ah];omega
variable{mb mx m:Mo}{apos cpos:Pos}
section
variable{b ix:Z4}{fb:qU}{px:Pos}
def d2O(i:Nat)(g:D->D->Out D)(fb:qU):qU:=λρ=>(fb ρ).bind λq=>match (q.2[i]?:Option (Option D))with
 |some (iO d)=>(g d q.1).plain.bind λr=>.ok (r,q.2)
 |_=>.bad
theorem qfD{g:D->D->Out D}{σ:St}{H:Hp}{Q:VK}(l:i∈own)(h:tE C own m (d2O i g fb) σ H Q):qk1 i σ H λx H1=>tE C own mb fb σ H1 λy H2=>∃F dx j,Same F H2/\TopIs C.K F H2 x dx/\TopIs C.K F H2 y j/\PoV C m F H2 (g dx j) Q:=by obtain⟨F,ρ,p,h⟩:=h;obtain⟨A,e⟩:=p.opn i l;obtain⟨a,e1,n,o⟩:=p.ow i A l e;refine⟨_,e1,F,ρ,p,Po.bind h λv F1 H1 d ρ1 r q c h1=>?_⟩;obtain⟨d1,b⟩:=r.opn i l;obtain⟨u,f,k,o1⟩:=r.ow i d1 l b;rw[e1]at f;cases f;simp only[b]at h1;exact⟨F1,d1,d,r.sub,.inr ⟨a,rfl,o1⟩,c.top,PoV.of r h1⟩
theorem Vo(n:C.K=X.K)(q:X.A.units+64<k4)(m:X.N[i]?=iO x)(g:Vis X.env.scope x)(l:i∈own)(j:PE X b (tE C own mb fb))(hs:QT b)(hd:Dbg x:=by decide)(d:Cdk x:=by decide):PE X (.Subscript (.Name x px) b pos) (tE C own .sh (d2O i ixD fb)):=by
 refine jy (qhj (qdK (by lia)) (uF m g hd d) j hs) λσ H Q h=>?_;obtain⟨v,e1,F,ρ,f,h⟩:=qfD (mb:=mb) l h;refine⟨v,e1,F,ρ,f,?_⟩;cases e:fb ρ with
 |ok p=>rw[e]at h;obtain⟨d',k⟩:=p;intro w u o r I a;obtain⟨L,dx,y,s,t,ty,po⟩:=h w u o r I a;exact qdL (σ:=σ) n s t ty po
 |exc c=>rw[e]at h;exact h
 |bad=>rw[e]at h;exact h.elim
end
section
variable{a b e:Z4}{fa fb:qU}{ma:Mo}
theorem qaa:vG X (.type "range") (λxs H Q=>∃i j:Int,xs=[.int i,.int j]/\∀p,H p=iQ->Q (.ref p) (upd H p (qdS p i j))):=by
 intro Z9 s σ H xs us Q I r h;obtain⟨i,j,rfl,q⟩:=h;cases r with
 |cons c a=>obtain⟨t,rfl⟩:=c;obtain⟨u,rfl,B⟩:=wv a;obtain⟨t',rfl⟩:=B;exact call_range_2 ⟨.ref s.heap.objs.size,_,I.laid (t':=s.toks+1) (λb o e=>aa _ e) (ap _) (GV (iG ..)),rfl,q _ (I.hok.fresh (ap _))⟩
def ge:D->D->Out D
 |.int i,.int j=>if XX i j/\j - i<=1000000 then .ok (.lst (yt i (j - i).toNat))else .bad
 |_,_=>.bad
set_option tactic.hygienic true in
theorem Ub{p p2 a:Pos}{b:Z4}(E:X.calm=iT)(hg:Gl X "list")(D:X.mg "list"=iQ)(B:iY "list"=iO (.type "list"))(s:Gl X "range")(r:X.mg "range"=iQ)(n:iY "range"=iO (.type "range"))(I:PE X e (tE C own ma fa))(G:PE X b (tE C own mb fb))(o:ma≠.any:=by decide)(g:iX [b] X.env=[(iS,Y9 b X.env)]:=by exact qD rfl)(c:iX [e,b] X.env=[(iS,Y9 e X.env),(iS,Y9 b X.env)]:=by rfl)(d:iX [.Call (.Name "range" p2) [e,b] [] a] X.env=[(iS,Y9 (.Call (.Name "range" p2) [e,b] [] a) X.env)]:=by exact qD rfl) :
  PE X (.Call (.Name "list" p) [.Call (.Name "range" p2) [e,b] [] a] [] pos) (tE C own .fr (d2 ge fa fb)):=by
 refine jy (jO (Yo E) hg D B (qI (jO qaa s r n (qI I (qI G jq g) (by rw[c,g])) (by decide) (by decide) (by rw[c,g]) (by rw[g];rfl)) jq d) (by decide) (by decide) (by rw[d];rfl) rfl) λσ H Q h=>?_;refine ya (Yg (ma:=ma) (mb:=mb) o h) λx H0 J=>ya J λy H1 v=>?_;obtain⟨N,M,F,dx,K,ex,A,w,ty,po⟩:=v;cases ex;cases dx <;> try exact po.elim
 rename_i i;cases K <;> try exact po.elim
 rename_i j;unfold ge at po;by_cases m:XX i j/\j - i<=1000000
 .simp only[Aa m]at po;obtain rfl:=w.int;obtain rfl:=ty.int;refine⟨i,j,rfl,λq hq=>⟨q,i,j,rfl,qh,m,λl f=>?_⟩⟩;obtain⟨s1,L,f1⟩:=jT (u:=qdS q i j) A hq;obtain⟨s2,c2,f2⟩:=jT (u:=.lst ((aH (j - i).toNat).map λk=>V.int (i+(k:Nat)))) s1 f;have t:H1 l=none:=by
   by_cases z:l=q;·rw[z]at f;rw[qh]at f;cases f
   .rwa [qB z]at f
  exact po _ _ _ s2 (L.trans' c2) ⟨l,rfl,t,f2,_,qh,Jk _⟩
 .simp only[Ab m]at po;exact po.elim
end
section
variable{G:jK}{mr:Mo}{p:Pos}{ps:List Str}{k j:Nat}{cv:Str->iR}
theorem qab(F:XN X.prog X.w X.K X.mg X.base cv j x ps [] mr G)(hr:Room k X.A)(D:j<=k)(hx:yi (CXk X.prog X.w) X C.E)(hg:Gl X x)(v:C.cv=cv:=by rfl)(n:C.K=X.K:=by rfl)(o:∀i∈C.ox,i∈own:=by exact wy rfl)(b:Dbg x:=by decide):PE X (.Call (.Name x p) [] [] pos) (tE C own mr (ql [] G qu)):=by
 subst v;obtain⟨f,fd,F,c,d,e⟩:=F;rw[<-n]at F;refine jy (qcc (E:=C.E) (F:=by rw[<-n];exact F) (hr.mono D) hg c d e .nil hx b) λσ H Q h=>?_;obtain⟨F,ρ,a,h⟩:=Gv (as:=[]) o (λi hi=>nomatch hi) (by decide) (by decide) h;exact h [] F H a .refl trivial
end
def vg(n:Nat)(fw fx:qU):qK:=λρ=>(fw ρ).bind λp=>(fx p.2).bind λq=>match (q.2[n]?:Option (Option D))with
 |some (iO (.dct kvs))=>(match zw q.1 with
  |some k=>if kvs.length<Z8 then .ok (.nx,q.2.set n (iO (.dct (vN kvs k p.1))))else .bad
  |none=>.bad)
 |_=>.bad
section
variable{w ix:Z4}{fw fx:qU}{mw:Mo}{p1 p2 p3:Pos}
theorem vn{n:Nat}(O:X.A.units+64<k4)(B:X.N[n]?=iO x)(y:Vis X.env.scope x)(l:n∈own)(t:PE X w (tE C own mw fw))(hx:PE X ix (tE C own mx fx))(f:mw≠.any:=by decide)(hd:Dbg x:=by decide)(j:Cdk x:=by decide)(hs:lK w (iO (.Subscript (.Name x p1) ix p2)) p3.line X.env=pure false:=by rfl) :
  PS X (.Assign [.Subscript (.Name x p1) ix p2] w p3) (tSt C own own (vg n fw fx)):=by
 refine KK (qe2 (by lia) (uF B y hd j) hx (uW t f) hs) λS σ H ⟨F,ρ,s,h⟩=>⟨F,ρ,s,PoS.bindE h λv F1 H1 d ρ1 b Q c h1=>?_⟩
 have c:Is C.K F1 v d:=c;obtain⟨G,i⟩:=b.opn n l;obtain⟨a,e1,P,L⟩:=b.ow n G l i;refine⟨_,e1,F1,ρ1,b,PoS.bindE h1 λM J H2 E ρ2 r c2 m h2=>?_⟩;obtain⟨d2,hd2⟩:=r.opn n l;obtain⟨R,p,D,o2⟩:=r.ow n d2 l hd2;rw[e1]at p;cases p;simp only[hd2]at h2;cases d2 with
 | dct kvs=>
  cases q:zw E with
  |none=>simp only[q]at h2;exact h2.elim
  |some k=>
   simp only[q]at h2;have g:=qjA m.top q;subst g;obtain⟨kv,ex,o⟩:=o2;by_cases e:kvs.length<Z8;·simp only[Aa e]at h2;obtain⟨r3,I⟩:=r.write (u:=.dK (Kf kv k v)) (d:=.dct (vN kvs k d)) l e1 ⟨_,qh,o.put (c.mono c2.grow)⟩;exact⟨a,_,rfl,DPut.k ex (by rw[o.length];exact e),h2 σ J _ ⟨r3,I,λ_ z=>.inl z,λ_ _=>rfl⟩⟩
   .simp only[Ab e]at h2;exact h2.elim
 |_=>exact h2.elim
end
noncomputable def qac(i:Nat):qU:=λρ=>match (ρ[i]?:Option (Option D))with
 |some (iO (.lst (d::es)))=>.ok (d,ρ.set i (iO (.lst es)))
 |_=>.bad
section
variable{px:Pos}
theorem qfE:MtR X "list.pop" (λx vs H Q=>∃l v xs,x=.ref l/\vs=[.int 0]/\H l=iO (.lst (v::xs))/\Q v (upd H l (.lst xs))):=by intro Z9 s σ H x vs v us Q I d r h;obtain⟨l,y,xs,rfl,rfl,b,q⟩:=h;exact qcf Z9 s σ H _ _ v us Q I d r ⟨l,_,0,0,y,rfl,rfl,b,by decide,by decide,by simp[seqIndex?],rfl,q⟩
theorem qfF{j:Nat}{p:Pos}(m:X.N[i]?=iO x)(g:Vis X.env.scope x)(o:i∈own)(hd:Dbg x:=by decide)(f:Cdk x:=by decide)(b:lj (.Name x px) "pop" X.env (Y9 (.Name x px) X.env)=Y9 (.Name x px) X.env:=by rfl)(e:(apos.endLine == cpos.line)=true:=by rfl)
  (w:((lq cpos (iX [.Constant (.int 0) j p] X.env)).all (λx=>!x.1)&&(ml cpos (lG [] X.env)).all (λx=>x.1.isSome)
   && decide ([Expr.Constant (.int 0) j p].length+([]:List lv).length+(if ([]:List lv).isEmpty then 0 else 1)<30))=true:=by exact uo rfl)
  (hs:iX [.Constant (.int 0) j p] X.env=[(iS,Y9 (.Constant (.int 0) j p) X.env)]:=by exact qD rfl) :
  PE X (.Call (.Attribute (.Name x px) "pop" apos) [.Constant (.int 0) j p] [] cpos) (tE C own .sh (qac i)):=by
 refine jy (ZU dh PySem.F.slot_list_pop PySem.F.type_list_pop qfE (uF m g hd f) (qI qdE jq hs) b w e hs rfl) λσ H Q z=>?_;obtain⟨F,ρ,r,h⟩:=z;obtain⟨A,c⟩:=r.opn i o;obtain⟨a,e1,n,k⟩:=r.ow i A o c;unfold qac at h;simp only[c]at h;cases A with
 | lst es=>
  cases es with
  |nil=>exact h.elim
  |cons d es=>
   obtain⟨xs,ex,l⟩:=k;cases l with
   |cons v l=>refine⟨_,e1,.inl ⟨rfl,_,.inl (.inl ex)⟩,?_⟩;obtain⟨r2,I⟩:=r.write (u:=.lst _) (d:=.lst es) o e1 ⟨_,qh,l⟩;exact⟨a,_,_,rfl,rfl,ex,h _ F _ r2 I v⟩
 |_=>exact h.elim
end
end L2.D2
namespace L2.D2
open PySem PySem.Spec PyProof.Rows PySem.W
variable{α:Type}
noncomputable def Uc:List (Key×α)->Option (List Str)
 |[]=>iO []
 |(.inr x,_)::l=>(Uc l).map (x::·)
 |(.inl _,_)::_=>iQ
theorem Yp:∀{l:List (Key×α)}{ss:List Str},Uc l=iO ss->l.map (·.1)=ss.map br
 |[],ss,h=>by cases h;rfl
 |(.inr x,_)::l,ss,h=>by obtain⟨f,e,rfl⟩:=aO.mp (show(Uc l).map (x::·)=iO ss from h);rw[aE,aE,Yp e]
 |(.inl _,_)::_,ss,h=>by cases h
theorem IsK.keys{K:Y8}{F:Hp}:∀{kv:List (Key×V)}{ks:List (Key×D)},IsK K F kv ks->kv.map (·.1)=ks.map (·.1)
 |_,_,.nil=>rfl
 |_,_,.cons h t=>by rw[aE,aE,IsK.keys t]
theorem KV.keys:∀{kv:List (Key×V)}{vs:List (Key×iR)},KV kv vs->kv.map (·.1)=vs.map (·.1)
 |_,_,.nil=>rfl
 |_,_,.cons h t=>by rw[aE,aE,h.1,KV.keys t]
end L2.D2
namespace PySem.F
theorem nolen_lri:ng (.type "list_reverseiterator") "__len__"=pure none:=by rw[my,lL];kernel_rfl
theorem hint_lri:ng (.type "list_reverseiterator") "__length_hint__"=pure (iO (.builtin "list_reverseiterator.__length_hint__")):=by rw[my,lL];kernel_rfl
end PySem.F
namespace L2.D2
open PySem PySem.Spec PyProof.Rows PySem.W
section
variable{prog:iZ}{w:i3}{A:j4}{E:iR->iV->Prop}{s:iV}{I l:Z7}{items:Array iR}
theorem XZ{R:Result->iV->Prop}(q:A.handled=iQ)(g:l≠I)(hit:s.heap.IsRevIter I l ((items.size:Int) - 1))(hl:s.heap.IsList l items)(S:Z7)(a:S≠I)(k:S≠l)(res:iR)(c:Nat)(u:s.heap.get? S=iO { cls:=.type "list",data:=.seq #[] c })(x:∀h' tk K T,(∀b o,b≠S->b≠I->s.heap.get? b=iO o->h'.get? b=iO o)->h'.get? S=iO { cls:=.type "list",dict:=iQ,data:=.seq K T,slots:=#[] }->m8 (λi v=>items[items.size - 1 - i]?=iO v) K items.size->R (.ok (.ret res)) { s with heap:=h',toks:=tk })(hn:items.size<=Z8) :
  iW (Z6 prog w) A.in1 (bN (.ref S) (.ref I) res)
   (λfin s'=>match fin with|.done f=>R (.ok f) s'|.again T=>T.quiet=iT/\lV (Z6 prog w) A T R s') (λe s'=>R (.error e) s') s:=by
 have W:=Walks.listRev (prog:=prog) (w:=w) (A:=A.in1) q I l g items;have m:S∉[I,l]:=by simp only[ae,aW,or_false,not_or];exact⟨a,k⟩
 have st:0<=items.size/\s.heap.IsRevIter I l ((items.size:Int) - 1 - ((0:Nat):Int))/\s.heap.IsList l items:=⟨aU _,by simpa using hit,hl⟩
 unfold bN;refine iP (lI hit.typeIs ?_);have h1:c8 (.ref S) (.ref I)=false:=by simp[c8,a]
 rw[Ab (by rw[h1];decide)];refine iP (W.self 0 _ _ _ st ?_);refine iP (j6 ?_);unfold Builtin.List.listLengthHint;refine iP (mz hit.typeIs F.nolen_lri ?_);show iW _ A.in1 (specialOf (aY I) (bq "__length_hint__") >>= _) _ _ _;refine iP (mz hit.typeIs F.hint_lri ?_);generalize d:("list_reverseiterator.__length_hint__":String)=id0
 wp_delta
 rw[show splitId id0=iO ("list_reverseiterator","__length_hint__")from by subst d;decide +kernel];subst d;refine iP (ll (b:=iT) hit.typeIs (by rw[lO];kernel_rfl) ?_);refine iU ?_;rw[Ab (by decide)];refine iU ⟨lT F.plain_extend_loop _,codeAny_extend_loopS W.toS hn S m res items.size 0 _ #[] c rfl (aU _) st u (ItemsOf.nil _) λs' K T p n r=>?_⟩;rw[Moved.eq_with p];refine x s'.heap s'.toks K T (λb o t j e=>p.heap b o (λh=>?_) e) n r;rcases ae.mp h with y|h;·exact t y
 .exact j (aw.mp h)
theorem qcS{Q:iR->iV->Prop}(p:A.handled=iQ)(g:l≠I)(hit:s.heap.IsRevIter I l ((items.size:Int) - 1))(hl:s.heap.IsList l items)(hn:items.size<=Z8)(q:∀h' tk K T,(∀b o,b≠I->s.heap.get? b=iO o->h'.get? b=iO o)->h'.get? s.heap.objs.size=iO { cls:=.type "list",dict:=iQ,data:=.seq K T,slots:=#[] }->m8 (λi v=>items[items.size - 1 - i]?=iO v) K items.size->Q (.ref s.heap.objs.size) { s with heap:=h',toks:=tk }) :
  iW (Z6 prog w) A (call (.type "list") [.ref I]) Q E s:=by
 refine callType_codes (Q₁:=λobj d=>obj=.ref s.heap.objs.size/\d={ s with heap:=s.heap.push { cls:=.type "list",data:=.seq #[] } }) PySem.F.called_list (PySem.F.typeCall_list_1 _) PySem.F.entry_list_init
  (code_list_new _ ⟨rfl,rfl⟩) λobj d h₁=>?_
 obtain⟨rfl,rfl⟩:=h₁;have S:(s.heap.push { cls:=.type "list",data:=.seq #[] }).get? s.heap.objs.size=iO { cls:=.type "list",data:=.seq #[] }:=ak _ rfl;obtain⟨t,f,_⟩:=id hit;obtain⟨ol,c,_⟩:=id hl;have a:s.heap.objs.size≠I:=du (ax f);have k:s.heap.objs.size≠l:=du (ax c);refine⟨⟨_,S,rfl⟩,PySem.F.args_list_init_2 _ _,?_⟩;show iW _ _ (do let old <-Builtin.List.listItems (.ref s.heap.objs.size);Builtin.List.listUpdate (.ref s.heap.objs.size) (λ_=>#[]);letGo old.toList.reverse;bN (.ref s.heap.objs.size) (.ref I) .none) _ _ _;refine iP ?_;unfold Builtin.List.listItems;refine iP (j5 S rfl (iU ?_));show iW _ _ (updateSeq s.heap.objs.size (λ_=>#[]) >>= λ_=>letGo (#[]:Array iR).toList.reverse >>= λ_=>bN (.ref s.heap.objs.size) (.ref I) .none) _ _ _;refine iP (wpAny_updateSeq S rfl ?_);have h:=bD (cy (λ_=>(#[]:Array iR))) S rfl;have oth:∀b o,b≠s.heap.objs.size->s.heap.get? b=iO o->((s.heap.push { cls:=.type "list",data:=.seq #[] }).update s.heap.objs.size (cy (λ_=>(#[]:Array iR)))).get? b=iO o:=
  λb o j e=>(dA _ _ (bJ j)).trans (aa _ e)
 refine iP (mT ?_);refine XZ (A:=A.in1) p g (hit.at λo e=>oth I o a.symm e) (hl.at λo e=>oth l o k.symm e) _ a k .none _ h (λh' tk K T n m r=>?_) hn;exact⟨rfl,q h' tk K T (λb o j e=>n b o (aC (ax e)) j (oth b o (aC (ax e)) e)) m r⟩
end
noncomputable def yA:D->Out D
 |.lst xs=>.ok (.lst xs.reverse)
 |_=>.bad
theorem qcT{vs:List V}{its:List iR}{acc:Array iR}(r:Vals vs its)(h:m8 (λi v=>its.toArray[its.toArray.size - 1 - i]?=iO v) acc its.toArray.size):Vals vs.reverse acc.toList:=by
 have e:acc.toList=its.reverse:=by
  apply cY;intro j;have hs:acc.size=its.length:=by simpa using h.1
  by_cases D:j<its.length;·have c:acc.toList[j]?=iO (acc.toList[j]'(by rw[aF];lia)):=ay _;have h2:=h.2 j _ (by rw[<-aK];exact c);rw[c,List.getElem?_reverse D,<-h2];simp
  .rw[bM (by rw[aF];lia),bM (by rw[dg];lia)]
 rw[e];exact r.reverse
theorem qad{K:Y8}{F:Hp}:∀{vs:List V}{ds:List D},IsL K F vs ds->IsL K F vs.reverse ds.reverse
 |_,_,.nil=>.nil
 |_,_,.cons h t=>by rw[dF,dF];exact(qad t).append (.cons h .nil)
section
variable{X:Cx}{C:Ct}{own:List Nat}{e:Z4}{fa:qU}{ma:Mo}{pos:Pos}
theorem Za{p p2 d:Pos}(W:C.K=X.K)(U:X.calm=iT)(hg:Gl X "list")(T:X.mg "list"=iQ)(P:iY "list"=iO (.type "list"))(w:Gl X "reversed")(v:X.mg "reversed"=iQ)(m:iY "reversed"=iO (.type "reversed"))(V:PE X e (tE C own ma fa))(J:iX [e] X.env=[(iS,Y9 e X.env)]:=by exact qD rfl)(i:iX [.Call (.Name "reversed" p2) [e] [] d] X.env=[(iS,Y9 (.Call (.Name "reversed" p2) [e] [] d) X.env)]:=by exact qD rfl) :
  PE X (.Call (.Name "list" p) [.Call (.Name "reversed" p2) [e] [] d] [] pos) (tE C own .fr (d1 yA fa)):=by
 refine⟨?_⟩;intro Z9 s σ H Q I h;refine lf (uG I hg T P ?_ (by decide) (by decide));refine bC ?_ (by rw[i];rfl) rfl;rw[i];show iW _ _ (spliced ((iS,Y9 (.Call (.Name "reversed" p2) [e] [] d) X.env)::[])) _ _ s;refine fG ?_;refine lf (uG I w v m ?_ (by decide) (by decide));refine bC (thn ((qI V jq J) d Z9 s σ H _ I (wF (ma:=ma) h)) λus s1 L=>?_) (by rw[J];rfl) rfl;obtain⟨vs,H1,B,r1,O⟩:=L;obtain⟨x,F,dx,rfl,D,M,po⟩:=O;obtain⟨u,rfl,N⟩:=wv r1;cases dx with
 | lst ds=>
  obtain⟨a,vs,rfl,hq,t⟩:=M.lst D;rw[W]at hq;cases N;obtain⟨its,E,k,G⟩:=B.list hq;have pl:s1.heap.IsList a its.toArray:=by obtain⟨o,n,S,A,_,z⟩:=k;exact⟨o,S,A,n,z⟩
  refine call_reversed_list pl ?_;refine fM ?_;have R:=ak (h:=s1.heap) (o:=revObj a ((its.toArray.size:Int) - 1)) ;have j:(s1.heap.push (revObj a ((its.toArray.size:Int) - 1))).IsList a its.toArray:=pl.at λo y=>aa _ y;obtain⟨oa,q,_⟩:=id pl;have r:a≠s1.heap.objs.size:=aC (ax q);refine qcS (s:={ s1 with heap:=s1.heap.push (revObj a ((its.toArray.size:Int) - 1)) }) (I.ok.hd U) r ⟨_,ak _ rfl,rfl,rfl⟩ j (by rw[au,<-E.length];exact G) λh' tk acc c kp hp hi=>?_;have l:∀b o,s1.heap.get? b=iO o->h'.get? b=iO o:=λb o y=>kp b o (aC (ax y)) (aa _ y);have hsz:(s1.heap.push (revObj a ((its.toArray.size:Int) - 1))).objs.size=s1.heap.objs.size+1:=bz ..;have f:H1 (s1.heap.objs.size+1)=none:=B.hok.fresh (fO _);obtain⟨s2,c2,f2⟩:=jT (u:=.lst vs.reverse) D f;have hp:h'.get? (s1.heap.objs.size+1)=iO { cls:=.type "list",dict:=iQ,data:=.seq acc c,slots:=#[] }:=by rw[<-hsz];exact hp
  have g:EP X Z9 σ Q (.ref (s1.heap.objs.size+1)) { s1 with heap:=h',toks:=tk }:=
   ⟨.ref (s1.heap.objs.size+1),_,B.laid (t':=tk) (o:=.lst vs.reverse) l (fO _) ⟨by rw[dg];exact G,acc.toList,c,qcT E hi,by simpa using hp⟩,rfl,po _ _ _ s2 c2 ⟨_,rfl,f,f2,_,qh,qad t⟩⟩
  rw[<-hsz]at g;exact g
 |_=>exact po.elim
end
end L2.D2
namespace L2.D2
open PySem PySem.Spec PyProof.Rows
def Jl:D->Out D
 |.lst ds=>(match uD ds with
  |some ks=>if ks.length<=1000/\(ks.all λk=>decide (0<=k/\k<=100000))=iT then .ok (.int ks.sum)else .bad
  |none=>.bad)
 |_=>.bad
section
variable{X:Cx}{C:Ct}{own:List Nat}{mb mx:Mo}{b ix:Z4}{fb:qU}{pos apos cpos px:Pos}
theorem Ud(R:C.K=X.K)(P:X.calm=iT):KL X C .sh (.builtin "sum") Jl:=by
 intro Z9 s σ H xs us Q I r h;obtain⟨x,F,dx,rfl,J,L,po⟩:=h;cases dx with
 | lst ds=>
  obtain⟨u,rfl,N⟩:=wv r;obtain⟨a,vs,rfl,hq,O⟩:=L.lst J;cases N;rw[R]at hq;obtain⟨its,M,p,U⟩:=I.list hq;have pl:s.heap.IsList a its.toArray:=by obtain⟨o,n,f,B,_,w⟩:=p;exact⟨o,f,B,n,w⟩
  cases e:uD ds with
  |none=>have po:PoV C .sh F H (match uD ds with|some ks=>if ks.length<=1000/\(ks.all λk=>decide (0<=k/\k<=100000))=iT then .ok (.int ks.sum)else .bad|none=>.bad) Q:=po;rw[e]at po;exact po.elim
  | some ks=>
   have po:PoV C .sh F H (match uD ds with|some ks=>if ks.length<=1000/\(ks.all λk=>decide (0<=k/\k<=100000))=iT then .ok (.int ks.sum)else .bad|none=>.bad) Q:=po;rw[e]at po;by_cases m:ks.length<=1000/\(ks.all λk=>decide (0<=k/\k<=100000))=iT
   .have po:PoV C .sh F H (if ks.length<=1000/\(ks.all λk=>decide (0<=k/\k<=100000))=iT then .ok (.int ks.sum)else .bad) Q:=po;rw[Aa m]at po;have st:=GZ O M e;have d:a<s.heap.objs.size:=let ⟨o,f,_⟩:=pl;ax f;have hn:its.length=ks.length:=st.length;refine call_sum_walk (l7 (show s.heap.IsList a its.toArray from pl) ?_);refine⟨s.heap.objs.size,_,_,_,_,_,λi=>ks.getD i 0,rfl,iN (A:=X.A.in1) (I.ok.hd P) _ a (aC d) its.toArray,⟨⟨_,ak _ rfl,rfl,rfl⟩,?_⟩,?_,λi v ev=>?_,λj D=>?_,λh' tk t' kp=>?_⟩;·obtain⟨o,e,c⟩:=pl;exact⟨o,aa _ e,c⟩
    .intro z b;rw[bz];simp only[ae,aW,or_false]at b;rcases b with rfl|rfl;·exact f6 _
     .exact bU d
    .obtain⟨y,t,e1,S⟩:=st.item i v (by simpa using ev);exact⟨t,by rw[e1];show cQ y t=cQ (ks.getD i 0) t;rw[bf,S];rfl⟩
    .rw[au,hn]at D;have l:=m.2;rw[aM]at l;have h1:=Ae (l (ks.getD j 0) (by rw[bf,ay D];exact bE D));have h2:=qdT (ks.take (j+1)) (aM.mpr λk g=>l k (List.mem_of_mem_take g));have V:(ks.take (j+1)).length<=1000:=by rw[bj];lia
     have G:=gc ks (j+1) D;refine⟨⟨by show(-2 ^ 63:Int)<=ks.getD j 0;lia,by show ks.getD j 0<(2 ^ 63:Int);lia⟩,?_⟩;rw[G];exact⟨by lia,by lia⟩
    .have T:Inv X Z9 σ H { s with heap:=h',toks:=tk }:=I.kept (t':=tk) λz o E=>kp z o (λq=>by rw[aw.mp q]at E;exact bF _ (ax E)) (aa _ E);have G:preSum (λi=>ks.getD i 0) its.toArray.size=ks.sum:=by rw[au,hn,gc ks _ (ap _),List.take_length]
     exact⟨.int ks.sum,H,T,⟨t',by rw[G]⟩,po _ F H J .refl (.int _)⟩
   .have po:PoV C .sh F H (if ks.length<=1000/\(ks.all λk=>decide (0<=k/\k<=100000))=iT then .ok (.int ks.sum)else .bad) Q:=po;rw[Ab m]at po;exact po.elim
 |_=>exact po.elim
end
open PySem.SeqAt
open AutoSeq1 (wpAny_loadPart')
open MeetsSeq MeetsSeq2 MeetsSeq3
end L2.D2
namespace L2.D2
open PySem PySem.Spec PyProof.Rows
open PySem.SeqAt
noncomputable def ltZ:List Int->List Int->Bool
 |x::xs,y::ys=>if x=y then ltZ xs ys else decide (x<y)
 |[],_::_=>iT
 |_,[]=>iS
def Jm:List D->Option (List (List Int))
 |[]=>iO []
 |.tup ds::l=>(uD ds).bind λt=>(Jm l).map (t::·)
 |_::_=>iQ
theorem Yq:∀{ds:List D}{l:List Int},uD ds=iO l->ds=l.map D.int
 |[],l,h=>by cases h;rfl
 | d::ds,l,h=>by
  cases d with
  |int x=>
   have h:(uD ds).map (x::·)=iO l:=h;cases q:uD ds with
   |none=>rw[q]at h;cases h
   |some m=>rw[q]at h;cases h;rw[Yq q];rfl
  |_=>cases h
theorem Yr:∀{ds:List D}{T:List (List Int)},Jm ds=iO T->ds=T.map λt=>.tup (t.map D.int)
 |[],T,h=>by cases h;rfl
 | d::ds,T,h=>by
  cases d with
  | tup es=>
   have h:((uD es).bind λt=>(Jm ds).map (t::·))=iO T:=h;cases q:uD es with
   |none=>rw[q]at h;cases h
   |some t=>
    cases e:Jm ds with
    |none=>rw[q,e]at h;cases h
    |some U=>rw[q,e]at h;cases h;rw[Yr e,Yq q];rfl
  |_=>cases h
end L2.D2
namespace L2.D2
open PySem PySem.Spec PyProof.Rows
open AutoSeq1 (wpAny_loadPart')
set_option tactic.hygienic true in
theorem qae(l:Z7)(items:Array iR)(n:Nat)(dct:Option Z7)(sl:Array (Option iR)):Meets (Builtin.«enumerate.__new__» ⟨[.type "enumerate",.ref l],[]⟩) (λ_ R s=>s.heap.get? l=iO { cls:=.type "tuple",dict:=dct,data:=.seq items n,slots:=sl } /\
   R (.ok (.ret (.ref (s.heap.push { cls:=.type "tuple_iterator",data:=.fields #[.ref l,.int 0 0] }).objs.size)))
    { s with heap:=(s.heap.push { cls:=.type "tuple_iterator",data:=.fields #[.ref l,.int 0 0] }).push { cls:=.type "enumerate",data:=.fields #[.none,.bool iS,.ref s.heap.objs.size,k9 0,.none,.none] } }):=
 .of_wp λprog w A R s h=>by
  obtain⟨hp,g,d,tk,os⟩:=s;obtain⟨hl,h⟩:=h;have b:=sub_enumerate;have a:Heap.IsTuple (iJ ⟨hp,g,d,tk,os⟩) l items:=⟨_,hl,rfl,n,rfl⟩
  wp_walk using mB hl
  refine wpAny_stack_any λst=>iU ?_;split
  .rename_i c _ _ _ _ _;cases(c == iB "enumerate")
   .wp_walk using mB hl,lJ a
    exact⟨_,rfl,h⟩
   .wp_walk using mB hl,lJ a
    exact⟨_,rfl,h⟩
  .wp_walk using mB hl,lJ a
   exact⟨_,rfl,h⟩
variable{s:iV}{l:Z7}{items:Array iR}
theorem uE{prog:iZ}{w:i3}{A:j4}{E:iR->iV->Prop}{Q:iR->iV->Prop}(a:s.heap.IsTuple l items)(h:∀h',IsEnum h' (s.heap.objs.size+1) s.heap.objs.size 0 .none->h'.IsTupleIter s.heap.objs.size l 0->h'.objs.size=s.heap.objs.size+2 ->(∀b o,s.heap.get? b=iO o->h'.get? b=iO o)->Q (.ref (s.heap.objs.size+1)) { s with heap:=h' }) :
  iW (Z6 prog w) A (call (.type "enumerate") [.ref l]) Q E s:=by
 obtain⟨⟨c,dct,t,sl⟩,hl,d,n,hd⟩:=a;replace d:c=.type "tuple":=d;replace hd:t=.seq items n:=hd;subst d hd;refine callType_new F.called_enumerate (by decide) (F.typeCall_enumerate_1 _) (F.newCall_enumerate_1 _) (λobj=>F.args_object_init_2 obj _) F.entry_enumerate_new (qae l items n dct sl) ⟨hl,?_⟩;have z:(s.heap.push { cls:=.type "tuple_iterator",data:=.fields #[.ref l,.int 0 0] }).objs.size=s.heap.objs.size+1:=bz ..;show _/\_;rw[z];have i:IsEnum ((s.heap.push { cls:=.type "tuple_iterator",data:=.fields #[.ref l,.int 0 0] }).push { cls:=.type "enumerate",data:=.fields #[.none,.bool iS,.ref s.heap.objs.size,k9 0,.none,.none] }) (s.heap.objs.size+1) s.heap.objs.size 0 .none:=by have:=ak (s.heap.push { cls:=.type "tuple_iterator",data:=.fields #[.ref l,.int 0 0] }) (o:={ cls:=.type "enumerate",data:=.fields #[.none,.bool iS,.ref s.heap.objs.size,k9 0,.none,.none] }) rfl;rw[z]at this;exact this
 exact⟨⟨_,i,rfl⟩,h _ i ⟨_,aa _ (ak _ rfl),rfl,rfl⟩ (by rw[bz,z]) λb o x=>aa _ (aa _ x)⟩
theorem Zb{prog:iZ}{w:i3}{A:j4}{E:iR->iV->Prop}{k:SK}{Q:iR->iV->Prop}(L:SeqK s.heap l k items)(h:∀h',IsEnum h' (s.heap.objs.size+1) s.heap.objs.size 0 .none->ItK h' s.heap.objs.size l k 0->(∀b o,s.heap.get? b=iO o->h'.get? b=iO o)->Q (.ref (s.heap.objs.size+1)) { s with heap:=h' }) :
  iW (Z6 prog w) A (call (.type "enumerate") [.ref l]) Q E s:=by
 cases k with
 |l=>exact call_enumerate_list L λh' a b _ c=>h h' a b c
 |t=>exact uE L λh' a b _ c=>h h' a b c
variable{K:Y8}{a:Z7}{xs:List V}
theorem Ys{H H':Hp}(e:Same H H'):∀{k:SK},SqK K H a k xs->SqK K H' a k xs
 |.l,p=>e.seq p
 |.t,p=>qW e p
def qjN(k:SK)(K:Y8)(a:Z7)(xs:List V):It:=
 ⟨λi H=>i<xs.length/\SqK K H a k xs,λi H v H'=>∃x p,xs[i]?=iO x/\H p=iQ/\v=.ref p/\H'=upd H p (.tup [.int (i:Nat),x]),λi H=>xs.length<=i/\SqK K H a k xs⟩
theorem Zc{P:iZ}{w:i3}{K:Y8}{k:SK}{J:List Z4}{y}{pos:Pos}(b a:Nat)(xs:List V)(h1:a<b):Turn P w K (.Tuple J y pos) (qjN k K a xs) [b+1,b] (b+1) (λi h=>(∃old,IsEnum h (b+1) b i old)/\ItK h b a k i/\i<=xs.length) where
 mem:=by simp
 obj:=λi h st c d=>by
  obtain⟨⟨old,g⟩,hit,S⟩:=st;obtain⟨o,t,l,hd⟩:=hit.obj;simp only[ae,aW,or_false]at d;rcases d with rfl|rfl;·exact⟨_,g,λv z=>by cases z⟩
  .exact⟨o,t,λv z=>by rw[hd]at z;cases z⟩
 keep:=λi h h' st k=>by obtain⟨⟨old,g⟩,hit,S⟩:=st;obtain⟨o,t,l,hd⟩:=hit.obj;exact⟨⟨old,k _ (by simp) _ g⟩,.of ⟨o,k _ (by simp) _ t,l,hd⟩,S⟩
 item:=by
  intro X M D N d i Z9 s σ H E I u st hg;subst M D N;obtain⟨⟨old,g⟩,hit,S⟩:=st;obtain⟨hl,q⟩:=hg;obtain⟨its,F,n,r,e0,R,_,Q,_⟩:=Yi I q;have pl:=SeqK.of e0 Q R;have hi:i<its.length:=by rw[<-r.length];exact hl
  have hx:its.toArray[i]?=iO its[i]:=by simp[hi]
  have G:a≠b:=aC h1;refine wpAny_pyNext_enum_itemD (Qj (A:=X.A.in1) (I.ok.hd d) k b a G its.toArray) g ⟨hit,pl⟩ (by simpa using hi) (Nat.succ_ne_self b) (by
   intro z;simp only[ae,aW,or_false]at z;have h1:@LT.lt Nat _ a b:=h1;rcases z with z|z
   .have z:@Eq Nat _ _:=z
    lia
   .have z:@Eq Nat _ _:=z
    lia) λy h' tk f eo C Y hz kp=>?_
  have O:y=its[i]:=by have f:its.toArray[i]?=iO y:=f;rw[hx]at f;exact(aL.inj f).symm
  subst O;refine⟨_,rfl,wpAny_letOwnedTupleGo_enum eo λhq e2 p=>?_⟩;obtain⟨x,ex,Z⟩:=yy r (ay hi);have hT:H s.heap.objs.size=none:=I.hok.fresh (ap _);have B:b+1<s.heap.objs.size:=ax g;have T:∀c∈[b+1,b],c≠s.heap.objs.size:=λc d=>by
   simp only[ae,aW,or_false]at d;have lt':b+1<s.heap.objs.size:=B;generalize s.heap.objs.size=m at lt';intro z
   lia
  have I1:Inv X Z9 σ (upd H s.heap.objs.size (.tup [.int (i:Nat),x])) { s with heap:=s.heap.push { cls:=.type "tuple",data:=.seq #[.int i tk,its[i]] } }:=
   I.laid (t':=s.toks) (λ_ _ e=>aa _ e) (ap _) ⟨⟨by simp only[ah,bn];rw[i5];decide,_,ak _ rfl,rfl⟩,[.int i tk,its[i]],.cons ⟨_,rfl⟩ (.cons Z .nil),⟨_,ak _ rfl,rfl,_,rfl⟩⟩
  have I2:Inv X Z9 σ (upd H s.heap.objs.size (.tup [.int (i:Nat),x])) { s with heap:=hq,toks:=tk+1 }:=by
   refine Jh (s:={ s with heap:=s.heap.push { cls:=.type "tuple",data:=.seq #[.int i tk,its[i]] } }) (ch:=[b+1,b]) I1 (λc o j e=>?_) λc d=>⟨by rw[qB (T c d)];exact(u c d).1,(u c d).2⟩
   simp only[ae,aW,or_false,not_or]at j;rw[p.2 c j.1];by_cases U:c=s.heap.objs.size;·subst U;have W:(s.heap.push ({ cls:=.type "tuple",data:=.seq #[.int i tk,its[i]] }:Obj)).get? s.heap.objs.size=iO { cls:=.type "tuple",data:=.seq #[.int i tk,its[i]] }:=ak _ rfl;rw[show(s.heap.push ({ cls:=.type "tuple",data:=.seq #[.int i tk,its[i]] }:Obj)).get? s.heap.objs.size=iO o from e]at W;rw[W];exact Y
   .have e4:s.heap.get? c=iO o:=by have:=e;rwa [show(s.heap.push ({ cls:=.type "tuple",data:=.seq #[.int i tk,its[i]] }:Obj)).get? c=s.heap.get? c from eX _ _ _ U]at this
    exact kp c o j.1 j.2 e4
  refine⟨.ref s.heap.objs.size,_,I2,rfl,⟨x,_,ex,hT,rfl,rfl⟩,⟨⟨_,by simpa using e2⟩,?_,hl⟩,λc d=>by rw[qB (T c d)];exact(u c d).1⟩;obtain⟨o,t,l,hd⟩:=C.1.obj;exact .of ⟨o,(p.2 _ (Nat.succ_ne_self b).symm).trans t,l,hd⟩
 done:=by
  intro X M D N d i Z9 s σ H E I u st hg;subst M D N;obtain⟨⟨old,g⟩,hit,S⟩:=st;obtain⟨hl,q⟩:=hg;obtain⟨its,F,n,r,e0,R,_,Q,_⟩:=Yi I q;have pl:=SeqK.of e0 Q R;have L:i=its.toArray.size:=by rw[au,<-r.length];exact Nat.le_antisymm S hl
  subst L;refine wpAny_pyNext_enum_endD (Qj (A:=X.A.in1) (I.ok.hd d) k b a (aC h1) its.toArray) g ⟨hit,pl⟩ λh' ex=>⟨rfl,Jh (t':=s.toks) (ch:=[b+1,b]) I (λc o j e=>?_) u⟩
  simp only[ae,aW,or_false,not_or]at j;exact ex c o j.2 e
 self:=λ_ _ _ _ _ st h=>wpAny_pyIter_enum st.1.choose_spec h
theorem qfG{k:SK}{F:Hp}{ds:List D}(p:SqK K F a k xs)(t:IsL K F xs ds):ItIs K F (qjN k K a xs) (zf ds) where
 go:=λi H hi s=>by unfold zf at hi;rw[ao,List.length_zipIdx]at hi;exact⟨by rw[t.length];exact hi,Ys s p⟩
 yld:=λi Fi H v H' d e s1 s2 y=>by
  obtain⟨x,q,hx,hn,rfl,rfl⟩:=y;obtain⟨d1,e1,i1⟩:=t.get hx;have o:d=.tup [.int (i:Nat),d1]:=by unfold zf at e;rw[aG,List.getElem?_zipIdx,e1]at e;simpa using e.symm
  subst o;obtain⟨g1,Z⟩:=wH (u:=.tup [.int (i:Nat),x]) s2 hn;exact⟨_,Z,g1,.tup (.of qh) (.cons (.int _) (.cons ((i1.mono s1).mono Z.grow) .nil))⟩
 stop:=λi H hi s=>by unfold zf at hi;rw[ao,List.length_zipIdx]at hi;exact⟨by rw[t.length];exact hi,Ys s p⟩
section
variable{X:Cx}{C:Ct}{own:List Nat}{a:Z4}{fa:qU}{ma:Mo}{pos:Pos}
theorem qcU{k:SK}{ta:TA}{p tpos:Pos}{J:List Z4}{x1}(hg:Gl X "enumerate")(m:X.mg "enumerate"=iQ)(g:PA X [a] ta)(hs:iX [a] X.env=[(iS,Y9 a X.env)]):PI X (.Tuple J x1 tpos) (.Call (.Name "enumerate" p) [a] [] pos) (λσ H R=>ta σ H λvs H1=>∃c xs,vs=[.ref c]/\SqK X.K H1 c k xs/\R (qjN k X.K c xs) H1):=by
 refine⟨?_⟩;intro Z9 s σ H R I h;refine Call_ (uG I hg m GW (bC (thn (g pos Z9 s σ H _ I h) λus s1 z=>?_) hs rfl));obtain⟨vs,H1,d,r1,f⟩:=z;obtain⟨c,xs,rfl,w,q⟩:=f;obtain⟨y,rfl,e1⟩:=wv r1;cases e1;obtain⟨its,F,n,u,e0,O,_,A,_⟩:=Yi d w;have pl:=SeqK.of e0 A O;have t:c<s1.heap.objs.size:=pl.lt;refine Zb pl λh' i hit kp=>?_;refine wpAny_pyIter_enum i ?_;refine⟨s1.heap.objs.size+1,_,_,qjN k X.K c xs,H1,rfl,d.kept (t':=s1.toks) kp,Zc s1.heap.objs.size c xs t,⟨⟨_,i⟩,hit,aU _⟩,λb e=>?_,q⟩;have S:s1.heap.objs.size<=b:=by
  simp only[ae,aW,or_false]at e;rcases e with rfl|rfl;·exact bR _ _
  .exact ap _
 exact d.fpOk S (d.hok.fresh S)
theorem Jn{p tpos:Pos}{J:List Z4}{x1}(n:C.K=X.K)(hg:Gl X "enumerate")(m:X.mg "enumerate"=iQ)(g:PE X a (tE C own ma fa))(h1:ma≠.any:=by decide)(hs:iX [a] X.env=[(iS,Y9 a X.env)]:=by exact qD rfl):PI X (.Tuple J x1 tpos) (.Call (.Name "enumerate" p) [a] [] pos) (tIt C own (Vn fa)):=by
 refine Gw (qcU (k:=.l) hg m (qI (uW g h1) jq hs) hs) λσ H R ⟨F,ρ,b,h⟩=>⟨F,ρ,b,PoI.bindV h λv F1 H1 d ρ1 r e c h1=>?_⟩
 have c:Is C.K F1 v d:=c;cases c with
 |lst p t=>exact⟨_,_,rfl,by rw[<-n];exact r.sub.seq p,by rw[<-n];exact h1 _ F1 H1 r e (qfG (k:=.l) p t)⟩
 |_=>exact h1.elim
end
end L2.D2
namespace L2.D2
open PySem PySem.Spec PyProof.Rows
section
variable{X:Cx}{C:Ct}{own:List Nat}{m ma mb:Mo}{a b e:Z4}{fa fb fe:qU}{apos cpos px:Pos}
noncomputable def qjO(y:Str):iR->Bool
 |.str x _=>x.cps.toList == y.cps.toList
 |_=>iS
theorem qdU{y:Str}:∀(ss:List Str)(its:List iR),Vals (ss.map V.str) its->y∈ss->∃j,∃D:j<its.length,qjO y its[j]=iT/\(∀m (c:m<its.length),m<j->qjO y its[m]=iS)/\Vals ((ss.erase y).map V.str) (its.eraseIdx j)
 | x::ss,u::its,.cons r rs,hy=>by
  obtain⟨t,rfl⟩:=(show ∃t,u=dR x t from r)
  by_cases q:x=y;·subst q;refine⟨0,by simp,by simp[qjO],λm c h=>absurd h (cU _),?_⟩;rw[List.erase_cons_head];exact rs
  .obtain⟨j,D,h1,h2,g⟩:=qdU ss its rs ((ae.mp hy).resolve_left λz=>q z.symm);refine⟨j+1,by simp;omega,h1,λm c h=>?_,?_⟩
   .cases m with
    |zero=>show(x.cps.toList == y.cps.toList)=iS;refine beq_eq_false_iff_ne.mpr λz=>q ?_;obtain⟨x⟩:=x;obtain⟨y⟩:=y;have z:x.toList=y.toList:=z;rw[Array.toList_inj.mp z]
    |succ m=>exact h2 m (by simpa using c) (by omega)
   .rw[List.erase_cons_tail (by simpa using q)];exact .cons ⟨t,rfl⟩ g
def qkB:V->List V->Hp->VK->Prop:=λx vs H Q=>∃(l:Z7)(ss:List Str)(y:Str),x=.ref l/\vs=[.str y]/\H l=iO (.lst (ss.map V.str))/\y∈ss/\Q .non (upd H l (.lst ((ss.erase y).map V.str)))
theorem qh0:MtM X "list.remove" qkB:=by
 intro Z9 s σ H x vs v us Q I d g h;obtain⟨l,ss,y,rfl,rfl,c,D,q⟩:=h;cases d;obtain⟨u,rfl,B⟩:=g.one;obtain⟨t,rfl⟩:=B;obtain⟨z,its,n,r,hl,e⟩:=I.lstM c;obtain⟨j,p,h1,h2,A⟩:=qdU ss its r D;refine mP PySem.F.slot_list_remove ⟨_,e,rfl⟩ PySem.F.entry_list_remove (PySem.F.args_list_remove_2 _ _)
  (MeetsSeq.list_remove l its.toArray n (.str y t) (qjO y) (λw k=>?_) j (by simpa using p) (by simpa using h1) (λm o b=>by simpa using h2 m (by simpa using o) b) (by rw[au];lia)) ⟨e,?_⟩
 .obtain⟨i,hi,rfl⟩:=dO.mp (show w∈its by simpa using k);obtain⟨x,ex,d⟩:=Vals.getE r hi;rw[aG]at ex;obtain⟨f,_,rfl⟩:=aO.mp ex;obtain⟨t',C⟩:=(show ∃t,its[i]=dR f t from d)
  rw[C];exact SeqRoads2.EqGives.str _ _ _ _
 .refine⟨.non,_,I.lset (its':=its.eraseIdx j) c e ?_ A ?_,rfl,q⟩;·show its.toArray.eraseIdxIfInBounds j=(its.eraseIdx j).toArray;rw[List.eraseIdxIfInBounds_toArray]
  .have:=List.length_erase_le (a:=y) (l:=ss);rw[ao]at z ⊢
   lia
def qfH(ds:List D)(d:D):Out (List D):=match ga ds,d with
 |some ss,.str y=>if y∈ss then .ok ((ss.erase y).map D.str)else .bad
 |_,_=>.bad
theorem qh1{K:Y8}{F:Hp}{vs:List V}{ds:List D}{ss:List Str}(l:IsL K F vs ds)(e:ga ds=iO ss):vs=ss.map V.str/\∀x∈ss,x.length<=Z8:=by
 induction ds generalizing vs ss with
 |nil=>cases l;cases e;exact⟨rfl,λx h=>nomatch h⟩
 | cons d ds j=>
  cases l with
  | cons i l=>
   cases d with
   |str x=>
    obtain⟨s2,q,rfl⟩:=aO.mp (show(ga ds).map (x::·)=iO ss from e);obtain⟨h1,h2⟩:=j l q;cases i with
    |str a=>exact⟨by rw[h1];rfl,λy b=>(ae.mp b).elim (λz=>z ▸ a) (h2 y)⟩
   |_=>cases e
set_option tactic.hygienic true in
theorem qaf{i:Nat}{x:Str}{px apos cpos:Pos}(t:X.N[i]?=iO x)(p:Vis X.env.scope x)(q:i∈own)(r:PE X e (tE C own m fe))(j:m≠.any:=by decide)(hd:Dbg x:=by decide)(f:Cdk x:=by decide)(c:lj (.Name x px) "remove" X.env (Y9 (.Name x px) X.env)=Y9 (.Name x px) X.env:=by rfl)
  (w:((lq cpos (iX [e] X.env)).all (λx=>!x.1)&&(ml cpos (lG [] X.env)).all (λx=>x.1.isSome)
   && decide ([e].length+([]:List lv).length+(if ([]:List lv).isEmpty then 0 else 1)<30))=true:=by exact uo rfl)
  (b:(apos.endLine == cpos.line)=true:=by rfl) (hs:iX [e] X.env=[(iS,Y9 e X.env)]:=by exact qD rfl) :
  PE X (.Call (.Attribute (.Name x px) "remove" apos) [e] [] cpos) (tE C own .sh (xx i qfH fe)):=by
 refine jy (ZU dh PySem.F.slot_list_remove PySem.F.type_list_remove qh0 (uF t p hd f) (qI (uW r j) jq hs) c w b hs rfl) λσ H Q h=>?_;have s:∀(a:Z7)(xs:List V)(ds ys:List D)(v:V)(d:D)(F H:Hp),Same F H->H a=iO (.lst xs)->F a=iQ->IsL C.K F xs ds->Is C.K F v d->qfH ds d=.ok ys->(∀zs,IsL C.K F zs ys->Q .non (upd H a (.lst zs)))->qkB (.ref a) [v] H Q:=λa xs ds ys v d F H A u B ix l g k=>by
  unfold qfH at g;split at g
  .rename_i ss y e1;split at g;·rename_i o;cases g;cases l;obtain⟨hx,hl⟩:=qh1 ix e1;subst hx;exact⟨a,ss,y,rfl,rfl,u,o,k _ (Ji λz n=>hl z (List.mem_of_mem_erase n))⟩
   .cases g
  .cases g
 obtain⟨a,xs,h1,h2,k⟩:=Ye (R:=λx v H Q=>qkB x [v] H Q) q j s h;exact⟨.ref a,h1,.inl ⟨rfl,xs,.inl (.inl h2)⟩,k⟩
theorem qh2{o e:Z4}{to:TE}{t:TA}{name:Str}{id:String}{r:V->List V->Hp->VK->Prop}(slot:Slot "tuple" name id)(y:typeOf (.builtin id)=pure (.type "method_descriptor"))(m:MtR X id r)(l:PE X o to)(j:PA X [e] t)(c:lj o name X.env (Y9 o X.env)=Y9 o X.env)
  (w:((lq cpos (iX [e] X.env)).all (λx=>!x.1)&&(ml cpos (lG [] X.env)).all (λx=>x.1.isSome)
   && decide ([e].length+([]:List lv).length+(if ([]:List lv).isEmpty then 0 else 1)<30))=iT)
  (b:(apos.endLine == cpos.line)=iT) (hs:iX [e] X.env=[(iS,Y9 e X.env)]) :
  PE X (.Call (.Attribute o name apos) [e] [] cpos) (λσ H Q=>to σ H λx H1=>(∃p xs,x=.ref p/\SqT X.K H1 p xs)/\t σ H1 λxs H2=>r x xs H2 Q):=by
 refine⟨?_⟩;intro Z9 s σ H Q I h;refine wpAny_Call_method_late c w b rfl (thn (l Z9 s σ H _ I h) λv s1 f=>?_);obtain⟨x,H1,d,r1,ty,g⟩:=f;obtain⟨p,xs,rfl,hq⟩:=ty;cases r1;obtain⟨o',e1,k⟩:=d.tupleN hq;obtain⟨its,u,⟨o2,D,i,_⟩,_⟩:=d.tuple hq;refine⟨"tuple",id,PySem.F.plainAttrs_tuple,slot,y,⟨o2,D,i⟩,λa z=>by cases z;exact⟨o',e1,k⟩,?_⟩;have hA:=j cpos Z9 s1 σ H1 _ d g;rw[hs]at hA ⊢;refine dw rfl (dL ?_);exact thn hA λus s2 ⟨vs,H2,n,r2,q⟩=>m Z9 s2 σ H2 (.ref p) vs _ us Q n rfl r2 q
noncomputable def qgQ:D->Bool
 |.tup _=>iT
 |_=>iS
def uK:D->D->Out D
 |.tup ds,e=>match zq 7 e ds with
  |some _=>.ok (.int ((ds.map λd=>eqN 7 d e == iO iT).countP id:Nat))
  |none=>.bad
 |_,_=>.bad
set_option tactic.hygienic true in
theorem qag(G:C.K=X.K)(D:X.A.units+64<k4):MtD X C .sh "tuple.count" uK:=by
 intro Z9 s σ H x vs v us Q I k m h;obtain⟨y,F,dx,g,rfl,f,t,ty,po⟩:=h;rw[G]at t ty;obtain⟨u,rfl,B⟩:=m.one;unfold uK at po;cases dx <;> try exact po.elim
 rename_i ds;cases e:zq 7 g ds with
 |none=>simp only[e]at po;exact po.elim
 |some b=>simp only[e]at po;obtain⟨F',g',c,o⟩:=ty.is f;obtain⟨a,xs,rfl,p,i⟩:=t.tup f;cases k;obtain⟨its,r,pl,J⟩:=I.tuple p;obtain⟨h1,h2⟩:=KH (A:=X.A) (y:=.non) (a:=a) (u:=.none) I D c o B (i.mono g') r e;have E:=GU I c (i.mono g') r e;obtain⟨⟨cls,dd,data,sl⟩,l,j,n,z⟩:=pl;simp only at j z;subst j z;refine mP PySem.F.slot_tuple_count ⟨_,l,rfl⟩ PySem.F.entry_tuple_count (PySem.F.args_tuple_count_2 _ _) (SeqAt.tuple_countAt a _ n dd sl u (ZC X F' 7 g)) ⟨l,λw q=>h2 w q,?_⟩;refine⟨.int ((ds.map λd=>eqN 7 d g == iO iT).countP id:Nat),H,I.tok _,⟨s.toks,?_⟩,po _ F H f .refl (.int _)⟩;rw[<-E,List.countP_map];rfl
theorem qah(n:C.K=X.K)(u:X.A.units+64<k4)(i:PE X a (tE C own ma fa))(g:PE X b (tE C own mb fb))(f:ma≠.any:=by decide)(c:lj a "count" X.env (Y9 a X.env)=Y9 a X.env:=by rfl)
  (w:((lq cpos (iX [b] X.env)).all (λx=>!x.1)&&(ml cpos (lG [] X.env)).all (λx=>x.1.isSome)
   && decide ([b].length+([]:List lv).length+(if ([]:List lv).isEmpty then 0 else 1)<30))=true:=by exact uo rfl)
  (e:(apos.endLine == cpos.line)=true:=by rfl) (hs:iX [b] X.env=[(iS,Y9 b X.env)]:=by exact qD rfl) :
  PE X (.Call (.Attribute a "count" apos) [b] [] cpos) (tE C own .sh (dM qgQ uK fa fb)):=by
 refine jy (qh2 PySem.F.slot_tuple_count PySem.F.type_tuple_count (qag n u) i (qI g jq hs) c w e hs) λσ H Q h=>?_;obtain⟨F,ρ,p,h⟩:=qfB (ma:=ma) (mb:=mb) f h;refine⟨F,ρ,p,Po.imp h λx H1 h1=>?_⟩;obtain⟨⟨F1,dx,s,d,k⟩,h2⟩:=h1;refine⟨?_,?_⟩
 .cases dx <;> try (cases k;done)
  obtain⟨a,vs,rfl,hq,t⟩:=d.tup s;exact⟨a,vs,rfl,by rw[<-n];exact hq⟩
 .obtain⟨j,ρ2,r,h2⟩:=h2;exact⟨j,ρ2,r,Po.imp h2 λy H2 q=>⟨y,q.choose,q.choose_spec.choose,q.choose_spec.choose_spec.choose,rfl,q.choose_spec.choose_spec.choose_spec⟩⟩
end
end L2.D2
namespace L2.D2
open PySem PySem.Spec PyProof.Rows PySem.W
variable{N:Nat}{s:iV}
theorem qdV{cmp:Nat->Nat->(Bool->iV->Prop)->iV->Prop}{Q:Nat->iV->Prop}(d:∀i,i+1<N->∀C:Bool->iV->Prop,C iS s->cmp (i+1) i C s):∀(f n:Nat),1<=n->n+f<=N->Q (n+f) s->(kas_asc (bZ (aH N)) f n).kasWp cmp Q s
 | 0,n,_,_,h=>h
 |f+1,n,h1,h2,h=>by
  obtain⟨m,rfl⟩:∃m,n=m+1:=⟨n - 1,by lia⟩
  have e1:(bZ (aH N)).getD (m+1) 0=m+1:=by simp[c7,show m+1<N by lia]
  have e:(bZ (aH N)).getD (m+1 - 1) 0=m:=by simp[c7,show m<N by lia]
  show cmp ((bZ (aH N)).getD (m+1) 0) ((bZ (aH N)).getD (m+1 - 1) 0) _ s;rw[e1,e];refine d m (by lia) _ ?_;have h:Q (m+1+1+f) s:=by rw[show m+1+1+f=m+1+(f+1) by lia];exact h
  exact qdV d f (m+1+1) (by lia) (by lia) h
variable{G:Array Nat->iV->Prop}
theorem qfI{cmp:Nat->Nat->(Bool->iV->Prop)->iV->Prop}(a:1<=N)(d:∀i,i+1<N->∀C:Bool->iV->Prop,C iS s->cmp (i+1) i C s)(h:G (bZ (aH N)) s):(nv N).kasWp cmp G s:=by unfold nv kas_count;rw[cV,cV];refine qdV d (N - 1) 1 (ap _) (by lia) ?_;rw[show 1+(N - 1)=N by lia,Aa (by simp)];show(if N<N then _ else KasT.ret _:KasT (Array Nat)).kasWp cmp G s;rw[Ab (bF _)];exact h
variable{p:Array Nat}{i n:Nat}
section
variable{k:Nat->Int}{cmp:Nat->Nat->(Bool->iV->Prop)->iV->Prop}
noncomputable def kAt(k:Nat->Int)(p:Array Nat)(i:Nat):Int:=k (p.getD i 0)
structure PmTo(k:Nat->Int)(N:Nat)(p:Array Nat):Prop where
 pm:p.toList.Perm (aH N)
 ne:∀i j,i<j->j<N->kAt k p i≠kAt k p j
def qbY(k:Nat->Int)(p:Array Nat)(n:Nat):Prop:=∀i j,i<j->j<n->kAt k p i<kAt k p j
def qh3(k:Nat->Int)(p:Array Nat)(n:Nat):Prop:=∀i j,i<j->j<n->kAt k p j<kAt k p i
def qfJ(k:Nat->Int)(N:Nat)(cmp:Nat->Nat->(Bool->iV->Prop)->iV->Prop)(s:iV):Prop:=∀i j,i<N->j<N->∀C:Bool->iV->Prop,C (decide (k i<k j)) s->cmp i j C s
theorem PmTo.size(h:PmTo k N p):p.size=N:=by rw[<-aF,h.pm.length_eq,bo]
theorem PmTo.lt(h:PmTo k N p)(hi:i<N):p.getD i 0<N:=by
 have z:=h.size;have:p.getD i 0=p.toList[i]'(by rw[aF];lia):=by simp[c7,z,hi]
 rw[this];exact aN.mp (h.pm.mem_iff.mp (bE _))
theorem PmTo.ask(h:PmTo k N p)(d:qfJ k N cmp s){j:Nat}(hi:i<N)(D:j<N){C:Bool->iV->Prop}(q:C (decide (kAt k p i<kAt k p j)) s):cmp (p.getD i 0) (p.getD j 0) C s:=d _ _ (h.lt hi) (h.lt D) C q
theorem qfK(u:qbY k p n)(h:n=0\/kAt k p (n - 1)<kAt k p n):qbY k p (n+1):=λi j a b=>by
 by_cases z:j<n;·exact u i j a z
 .obtain rfl:j=n:=by lia
  rcases h with rfl|h
  .lia
  .by_cases e:i=j - 1;·rw[e];exact h
   .exact g9 (u i (j - 1) (by lia) (by lia)) h
theorem qfL(u:qh3 k p n)(h:n=0\/kAt k p n<kAt k p (n - 1)):qh3 k p (n+1):=λi j a b=>by
 by_cases z:j<n;·exact u i j a z
 .obtain rfl:j=n:=by lia
  rcases h with rfl|h
  .lia
  .by_cases e:i=j - 1;·rw[e];exact h
   .exact g9 h (u i (j - 1) (by lia) (by lia))
theorem Ue(P:PmTo k N p)(d:qfJ k N cmp s){Q:Nat->iV->Prop}:∀(f n:Nat),1<=n->n+f=N->qbY k p n->(∀m,n<=m->m<=N->qbY k p m->(m=N\/kAt k p m<kAt k p (m - 1))->Q m s)->(kas_asc p f n).kasWp cmp Q s
 | 0,n,_,h2,u,h=>h n (ap _) (by lia) u (.inl (by lia))
 | f+1,n,h1,h2,u,h=>P.ask d (by lia) (by lia) (by
  show fI cmp (if _ then _ else _) Q s;by_cases z:kAt k p n<kAt k p (n - 1);·rw[Ad z,Aa rfl];exact h n (ap _) (by lia) u (.inr z)
  .rw[Ac z,Ab (by simp)];refine Ue P d f (n+1) (by lia) (by lia) (qfK u (.inr ?_)) λm a=>h m (by lia);have:=P.ne (n - 1) n (by lia) (by lia)
   lia)
theorem Yt(P:PmTo k N p)(d:qfJ k N cmp s){Q:Array Nat×Nat×Nat->iV->Prop}:∀(f n:Nat),1<=n->n+f=N->qh3 k p n->(∀m,n<=m->m<=N->qh3 k p m->Q (p,m,0) s)->(kas_desc f p n 0).kasWp cmp Q s
 | 0,n,_,h2,u,h=>h n (ap _) (by lia) u
 |f+1,n,h1,h2,u,h=>P.ask d (by lia) (by lia) (by
  show fI cmp (if _ then _ else _) Q s;by_cases z:kAt k p n<kAt k p (n - 1);·rw[Ad z,Aa rfl,Ab (bF _)];exact Yt P d f (n+1) (by lia) (by lia) (qfL u (.inr z)) λm a=>h m (by lia)
  .rw[Ac z,Ab (by simp)];refine P.ask d (by lia) (by lia) ?_;show fI cmp (if _ then _ else _) Q s;have:=P.ne (n - 1) n (by lia) (by lia);rw[Ad (by lia),Aa rfl];exact h n (ap _) (by lia) u)
theorem Yu(hn:n<=p.size)(i:Nat):kAt k (kas_rev p 0 n) i=if i<n then kAt k p (n - 1 - i)else kAt k p i:=by have h:=getElem?_mirror_all (xs:=p) (i:=0) hn i;simp only[kAt,kas_rev,Array.getD_eq_getD_getElem?,h,aU,true_and,iD];split <;> rfl
theorem qai(P:PmTo k N p)(hn:n<=N)(u:qh3 k p n):PmTo k N (kas_rev p 0 n)/\qbY k (kas_rev p 0 n) n:=by
 have z:n<=p.size:=by rw[P.size];exact hn
 refine⟨⟨(Array.perm_iff_toList_perm.mp (mirror_perm _ _ _ _)).trans P.pm,λi j a b=>?_⟩,λi j a b=>?_⟩
 .rw[Yu z,Yu z];have q:=P.ne
  repeat' split
  .exact(q (n - 1 - j) (n - 1 - i) (by lia) (by lia)).symm
  .exact q (n - 1 - i) j (by lia) b
  .lia
  .exact q i j a b
 .rw[Yu z,Yu z,Aa (by lia),Aa b];exact u _ _ (by lia) (by lia)
set_option tactic.hygienic true in
theorem qaj(P:PmTo k N p)(f:qfJ k N cmp s)(o:1<=N){Q:Nat×Array Nat->iV->Prop}(h:∀m g,PmTo k N g->1<=m->m<=N->qbY k g m->Q (m,g) s):(kas_count N p).kasWp cmp Q s:=by
 unfold kas_count;rw[cV];refine Ue P f (N - 1) 1 (ap _) (by lia) (λi j a b=>by lia) λn h1 h2 u z=>?_;split;·exact h n p P h1 h2 u
 .rename_i e;have e:n≠N:=by simpa using e
  split;·refine P.ask f (by lia) (by lia) ?_;show fI cmp (if _ then _ else _) Q s;rw[Ad (u 0 (n - 1) (by lia) (by lia)),Aa rfl];exact h n p P h1 h2 u
  .obtain rfl:n=1:=by lia
   unfold kas_descPart;rw[cV];refine Yt P f _ 2 (by lia) (by lia) (λi j a b=>?_) λm m1 B d=>?_
   .obtain⟨rfl,rfl⟩:i=0/\j=1:=by lia
    exact z.resolve_left e
   .rw[Ab (bF _)];unfold kas_tail3;rw[cV];obtain⟨r1,r2⟩:=qai P B d;exact Ue r1 f _ m (by lia) (by lia) r2 λl a b c _=>h l _ r1 (by lia) b c
theorem gf(P:PmTo k N p)(g:qfJ k N cmp s)(hn:n<N)(u:qbY k p n){Q:Nat->iV->Prop}(h:∀l,l<=n->(∀i,i<l->kAt k p i<kAt k p n)->(∀i,l<=i->i<n->kAt k p n<kAt k p i)->Q l s):∀(f l r:Nat),l<=r->r<=n->r<=l+f->(∀i,i<l->kAt k p i<kAt k p n)->(∀i,r<=i->i<n->kAt k p n<kAt k p i)->(kas_place p n f l r).kasWp cmp Q s
 | 0,l,r,h1,h2,h3,a,b=>h l (by lia) a λi hi=>b i (by lia)
 | f+1,l,r,h1,h2,h3,a,b=>by
  unfold kas_place;split;·exact h l (by lia) a λi hi=>b i (by lia)
  .refine P.ask g hn (by lia) ?_;show fI cmp (if _ then _ else _) Q s;by_cases z:kAt k p n<kAt k p ((l+r) / 2)
   .rw[Ad z,Aa rfl];refine gf P g hn u h f l _ (by lia) (by lia) (by lia) a λi c d=>?_;by_cases e:i=(l+r) / 2;·rw[e];exact z
    .exact g9 z (u _ _ (by lia) d)
   .rw[Ac z,Ab (by simp)];have:=P.ne ((l+r) / 2) n (by lia) hn;refine gf P g hn u h f _ r (by lia) h2 (by lia) (λi c=>?_) b;by_cases e:i=(l+r) / 2;·rw[e];lia
    .exact g9 (u i ((l+r) / 2) (by lia) (by lia)) (by lia)
theorem Yv{l:Nat}(hn:n<p.size)(hl:l<=n)(i:Nat):kAt k (bubble p n (n - l)) i=if i=l then kAt k p n else if l<i/\i<=n then kAt k p (i - 1)else kAt k p i:=by
 have h:=getElem?_bubble (xs:=p) hn (n - l) (by lia) i;rw[show n - (n - l)=l by lia]at h;simp only[kAt,Array.getD_eq_getD_getElem?,h]
 repeat' split
 all_goals rfl
theorem qak(g:qfJ k N cmp s){Q:Array Nat->iV->Prop}(h:∀p,PmTo k N p->qbY k p N->Q p s):∀(f n:Nat)(p:Array Nat),n+f=N->PmTo k N p->qbY k p n->(kas_bin f p n).kasWp cmp Q s
 | 0,n,p,e,P,u=>h p P (by rw[<-e];exact u)
 | f+1,n,p,e,P,u=>by
  have z:n<p.size:=by rw[P.size];lia
  unfold kas_bin;rw[cV];refine gf P g (by lia) u (λl hl a b=>?_) n 0 n (aU _) (ap _) (by lia) (λi hi=>by lia) λi hi=>by lia
  have q:=P.ne;refine qak g h f (n+1) _ (by lia) ⟨(Array.perm_iff_toList_perm.mp (bubble_perm _ _ _)).trans P.pm,λi j c d=>?_⟩ λi j c d=>?_
  .rw[Yv z hl,Yv z hl]
   repeat' split
   all_goals first|lia|exact q _ _ (by lia) (by lia)|exact(q _ _ (by lia) (by lia)).symm
  .rw[Yv z hl,Yv z hl]
   repeat' split
   all_goals first|lia|exact b _ (by lia) (by lia)|exact a _ (by lia)|exact u _ _ (by lia) (by lia)
theorem qcV(f:1<=N)(c:∀i j,i<j->j<N->k i≠k j)(d:qfJ k N cmp s)(h:∀p,PmTo k N p->qbY k p N->G p s):(nv N).kasWp cmp G s:=by
 unfold nv;rw[cV];refine qaj ⟨by rw[List.toList_toArray],λi j a b=>?_⟩ d f λm p P h1 h2 u=>?_
 .have e:∀i,i<N->kAt k (bZ (aH N)) i=k i:=λi hi=>by simp[kAt,c7,hi]
  rw[e i (by lia),e j b];exact c i j a b
 .show fI cmp (if m<N then _ else _) G s;split;·exact qak d h _ _ p (by lia) P (by rw[show max m 1=m by lia];exact u)
  .exact h p P (by rw[show N=m by lia];exact u)
end
variable{Q:Bool->iV->Prop}{a:Z7}{vs:List iR}
section
variable{prog:iZ}{w:i3}{A:j4}{E:iR->iV->Prop}
theorem gh{Gd:List iR->Prop}{P:PySem.Fin->iV->Prop}(l:s.heap.get? a=iO (lc "list" vs.toArray n))(m:vs.length<64)(t:vs.length<2->Gd vs)(k:2<=vs.length->∀h':Z5,(∀b o,b≠a->s.heap.get? b=iO o->h'.get? b=iO o)->∃κ,(∀Q:SortKind->iV->Prop,Q κ { s with heap:=h' }->iW (Z6 prog w) A (keyKind' vs.toArray) Q (λ_ _=>False) { s with heap:=h' })/\(nv vs.length).kasWp (kas_ask prog w A κ vs) (λp s'=>Gd (p.toList.map λi=>vs.getD i cH)/\s'={ s with heap:=h' }) { s with heap:=h' })(h:∀out,Gd out->P (.done (.ret .none)) { s with heap:=sortedHeap s.heap a vs out.toArray }) :
  iW (Z6 prog w) A (Builtin.«list.sort» ⟨[.ref a],[]⟩) P E s:=by
 rw[list_sort_plain];have r:a<s.heap.objs.size:=ax l;refine iP (listItems_at l rfl ?_);refine iP (listUpdate_at l rfl ?_ (by rw[au,i5];lia) (aU _));obtain⟨e1,ho1⟩:∃e1,(s.heap.update a (cy λ_=>#[])).get? a=iO (lc "list" #[] e1):=⟨_,get?_update_seq l (λ_=>#[])⟩
 refine iP (seqEpoch_at ho1 rfl ?_);refine iP (wpAny_newTuple ?_ (by show vs.length<=_;rw[i5];lia));refine iP (mJ ?_ (aU _));refine j6 ?_;have d:(((s.heap.update a (cy λ_=>#[])).push (lc "tuple" vs.toArray 0)).push (lc "list" #[] 0)).get? a=iO (lc "list" #[] e1):=by rw[eX _ _ _ (by rw[size_push',Heap.size_update];exact aC (bU r)),eX _ _ _ (by rw[Heap.size_update];exact aC r)];exact ho1
 have keep:∀b o,b≠a->s.heap.get? b=iO o->(((s.heap.update a (cy λ_=>#[])).push (lc "tuple" vs.toArray 0)).push (lc "list" #[] 0)).get? b=iO o:=λb o C e=>
  aa _ (aa _ (by rw[Heap.get?_update_ne _ _ _ _ C];exact e))
 show iW (Z6 prog w) A _ P E { s with heap:=((s.heap.update a (cy λ_=>#[])).push (lc "tuple" vs.toArray 0)).push (lc "list" #[] 0) };dsimp only;have hsz:vs.toArray.size=vs.length:=by simp
 have j:(vs.toArray.zip vs.toArray).map (·.2)=vs.toArray:=by apply Array.toList_inj.mp;rw[Array.toList_map,Array.toList_zip];exact f7 (ap _)
 by_cases h2:vs.toArray.size<2;·rw[Aa h2,Aa h2];refine iP (iU ?_);rw[StateT.run_pure];refine iP (iU ?_);dsimp only;have D:arrOf (SortSt.mk' general' (vs.toArray.zip vs.toArray) #[] 7 iQ)=vs.toArray.zip vs.toArray:=rfl;refine iP (seqEpoch_at d rfl ?_);rw[D,j];refine iP (listUpdate_at d rfl ?_ (aU _) (by rw[hsz,i5];lia));simp only[bne_self_eq_false,bp,if_false];exact iU (h vs (t (by rw[<-hsz];exact h2)))
 .rw[Ab h2,Ab h2];rw[hsz]at h2;obtain⟨κ,v,B⟩:=k (by lia) _ keep;refine iP (lM (v (λf s'=>f=κ/\s'={ s with heap:=((s.heap.update a (cy λ_=>#[])).push (lc "tuple" vs.toArray 0)).push (lc "list" #[] 0) }) ⟨rfl,rfl⟩) (λf s' q=>?_) λ_ _ x=>x.elim);obtain⟨rfl,rfl⟩:=q;refine iP (lM (kat_run (Q:=λc s'=>(∃out,out.length=vs.length/\(arrOf c).map (·.2)=bZ out/\Gd out)/\failedOf c=iQ/\s'={ s with heap:=((s.heap.update a (cy λ_=>#[])).push (lc "tuple" vs.toArray 0)).push (lc "list" #[] 0) })
   rfl (by lia) m (λJ c s' I H G u=>⟨⟨_,by rw[ao,aF,I],kat_snds rfl H,u.1⟩,G,u.2⟩) B) ?_ λ_ _ e=>e)
  rintro⟨⟨⟩,c⟩ s' ⟨⟨out,z,hp,g⟩,y,rfl⟩;dsimp only;refine iP (seqEpoch_at d rfl ?_);rw[hp];refine iP (listUpdate_at d rfl ?_ (aU _) (by rw[au,z,i5];lia));rw[y];simp only[bne_self_eq_false,bp,if_false];exact iU (h out g)
theorem Jo{P:PySem.Fin->iV->Prop}(l:s.heap.get? a=iO (lc "list" vs.toArray n))(j:vs.length<64)(c:2<=vs.length->∀h':Z5,(∀b o,b≠a->s.heap.get? b=iO o->h'.get? b=iO o)->∃κ,(∀Q:SortKind->iV->Prop,Q κ { s with heap:=h' }->iW (Z6 prog w) A (keyKind' vs.toArray) Q (λ_ _=>False) { s with heap:=h' })/\∀i,i+1<vs.length->∀C:Bool->iV->Prop,C iS { s with heap:=h' }->kas_ask prog w A κ vs (i+1) i C { s with heap:=h' })(h:P (.done (.ret .none)) { s with heap:=sortedHeap s.heap a vs vs.toArray }) :
  iW (Z6 prog w) A (Builtin.«list.sort» ⟨[.ref a],[]⟩) P E s:=by
 refine gh (Gd:=(·=vs)) l j (λ_=>rfl) (λh2 h' k=>?_) λout e=>by rw[e];exact h
 obtain⟨κ,a,b⟩:=c h2 h' k;refine⟨κ,a,qfI (by lia) b ⟨cY λi=>?_,rfl⟩⟩;by_cases hi:i<vs.length;·simp[hi]
 .simp[hi]
theorem qfM{c:Bool}{x y:Int}{t u:Tok}(h:Q (decide (x<y)) s):iW (Z6 prog w) A (oneLt' c (.int x t) (.int y u)) Q E s:=by
 cases c with
 |true=>exact oneLt_int h
 |false=>exact kat_one _ _ (wpAny_lt_int h)
theorem Yw{b:Bool}:∀{as bs:List Int}{us vs:List iR}(i:Nat),IntsAre us as->IntsAre vs bs->as.length=bs.length->Q (ltZ as bs) s->KatLex prog w A b iS Q (us.zip vs) i s
 |_,_,_,_,_,.nil,.nil,_,h=>h
 | a::as,c::bs,_,_,i,.cons _ t h1,.cons _ u h2,hl,h=>by
  refine kat_cons (wpAny_eqBool_int ?_);by_cases q:a=c
  .subst q;rw[beq_self_eq_true];refine kat_yes (Yw (i+1) h1 h2 (by simpa using hl) ?_);have e:ltZ (a::as) (a::bs)=ltZ as bs:=by simp[ltZ]
   rw[e]at h;exact h
  .rw[beq_false_of_ne q];refine kat_no (qfM ?_);have e:ltZ (a::as) (c::bs)=decide (a<c):=by simp[ltZ,q]
   rw[e]at h;exact h
end
theorem gi:∀l:List Int,uD (l.map D.int)=iO l
 |[]=>rfl
 |x::l=>by show(uD (l.map D.int)).map (x::·)=iO (x::l);rw[gi l];rfl
end L2.D2
namespace L2.D2
open PySem PySem.Spec PyProof.Rows
noncomputable def Vp:D->Out D
 |.dct kvs=>.ok (.dct kvs)
 |_=>.bad
variable{X:Cx}{C:Ct}
set_option tactic.hygienic true in
theorem Yx(n:C.K=X.K):KL X C .fr (.type "dict") Vp:=by
 intro Z9 s σ H xs us Q I r h;obtain⟨x,F,dx,rfl,A,t,po⟩:=h;cases dx <;> try exact po.elim
 rename_i ks;have po:PoV C .fr F H (.ok (.dct ks)) Q:=po;obtain⟨a,kv,rfl,hq,i⟩:=t.dct A;obtain⟨u,rfl,B⟩:=wv r;cases B;obtain⟨z,S,vs,k,hd⟩:=(show ObjOk X.prog X.w H s.heap a (.dK kv)from I.hok a _ hq)
 have hl:=k.length;refine kt_call_dict S hd (by lia) λh' f d=>?_;have kp:∀b o,s.heap.get? b=iO o->h'.get? b=iO o:=λb o e=>(d.2 b (aC (ax e))).trans (aa _ e);have hp:H s.heap.objs.size=none:=I.hok.fresh (ap _);obtain⟨s2,c2,g⟩:=jT (u:=.dK kv) A hp;have c:(s.heap.objs.size == lm)=false:=beq_eq_false_iff_ne.mpr (du I.big);exact⟨.ref s.heap.objs.size,_,I.laid (o:=.dK kv) (t':=s.toks) kp (ap _) (UK z c k f),rfl,po _ F _ s2 c2 ⟨_,rfl,hp,g,_,qh,i⟩⟩
def qcW{α:Type}(ds:List α)(lo hi:Option Int):List α:=(ds.drop (HT.sIx ds.length 0 lo)).take (HT.sIx ds.length ds.length hi - HT.sIx ds.length 0 lo)
def qh4(lo hi:Option Int):D->Out D
 |.lst ds=>.ok (.lst (qcW ds lo hi))
 |_=>.bad
def va(fa:qU)(l u:Option (qU)):qU:=λρ=>(fa ρ).bind λp=>(uC l p.2).bind λa=>(uC u a.2).bind λb=>(qh4 a.1 b.1 p.1).plain.bind λd=>.ok (d,b.2)
section
variable{own:List Nat}{e:Z4}{fa:qU}{ma:Mo}{pos p2:Pos}
theorem qkC(n:C.K=X.K):SlR X (λx lo hi H Q=>∃F d,Same F H/\Is C.K F x d/\PoV C .sh F H (qh4 lo hi d) Q):=by
 intro Z9 s σ H x v vl b lo hi sl Q I r hs pl c h;obtain⟨F,d,A,is,po⟩:=h;cases d with
 | lst ds=>
  cases is with
  |@lst a xs _ hq t=>
   have po:PoV C .sh F H (.ok (.lst (qcW ds lo hi))) Q:=po;refine qeY Z9 s σ H _ v vl b lo hi sl Q I r hs pl c ⟨a,xs,rfl,by rw[<-n];exact A.seq hq,λp hp=>?_⟩;obtain⟨s2,c2⟩:=wH (u:=.lst (qeU xs lo hi)) A hp;have w:IsL C.K F (qeU xs lo hi) (qcW ds lo hi):=by unfold qeU qcW;rw[t.length];exact IsL.take _ (IsL.drop _ t)
   exact po _ _ _ s2 c2 (.lst (.inl (.inl qh)) (w.mono c2.grow))
 |_=>exact po.elim
theorem Vq{lo hi:Option Z4}{l u:Option (qU)}(n:C.K=X.K)(j:PE X e (tE C own ma fa))(hl:PO X lo (tO C own (uC l)))(i:PO X hi (tO C own (uC u)))(g:ma≠.any:=by decide):PE X (.Subscript e (.Slice lo hi iQ p2) pos) (tE C own .sh (va fa l u)):=by
 refine jy (qcd (qkC (C:=C) n) (uW j g) hl i) λσ H Q ⟨F,ρ,p,h⟩=>⟨F,ρ,p,Po.bind h λv F1 H1 d ρ1 f t m h1=>?_⟩
 refine⟨F1,ρ1,f,Po.bindO h1 λs H2 a ρ2 r c2 h2=>⟨s,ρ2,r,Po.bindO h2 λq w b k c I o=>?_⟩⟩;exact⟨q,d,c.sub,(m.mono c2.grow).mono I.grow,PoV.of c o⟩
end
theorem fsc{N P:List Str}{sc:mf}(a:sc.kind=.function:=by rfl)(b:sc.isCoroutine=false:=by rfl)(c:sc.isGenerator=false:=by rfl)(d:N.Nodup:=by decide +kernel)(e:N.take P.length=P:=by rfl)(f:∀x∈P,sc.names.lookup x=iO .local\/sc.names.lookup x=iO .cell:=by decide +kernel)(g:∀y∈sc.names,y.2≠.free:=by decide +kernel):FnScope N P sc:=⟨a,b,c,d,e,f,g⟩
end L2.D2
namespace L2.D2
open PySem PySem.Spec PyProof.Rows PySem.W
noncomputable def Kl(H:Hp)(l:List (Z7×List V)):Hp:=λb=>match l.lookup b with
 |some xs=>iO (.tup xs)
 |none=>H b
variable{α:Type}
theorem gj{x:Z7}{a:α}:∀{l:List (Z7×α)},l.lookup x=iO a->(x,a)∈l
 |[],h=>by simp at h
 | (n,k)::r,h=>by
  rw[cA]at h;by_cases e:(x == n)=iT
  .rw[e]at h;have h:iO k=iO a:=h;cases h;have:x=n:=by simpa using e
   rw[this];exact ai ..
  .rw[Bool.not_eq_true]at e;rw[e]at h;exact ac _ (gj h)
variable{H:Hp}{l:List (Z7×List V)}{b:Z7}
theorem Yy(h:∀p∈l,p.1≠b):Kl H l b=H b:=by
 unfold Kl;cases e:l.lookup b with
 |none=>rfl
 |some xs=>exact absurd rfl (h _ (gj e))
theorem kB{o:HO}(hn:∀p∈l,H p.1=iQ)(e:H b=iO o):Kl H l b=iO o:=by rw[Yy λp hp q=>?_,e];have:=hn p hp;rw[q,e]at this;cases this
variable{X:Cx}{s:iV}
section
variable{Z9:Pns}{σ:St}{F:Hp}{h':Z5}
theorem Inv.lays{t':Nat}(I:Inv X Z9 σ H s)(k:∀b u,s.heap.get? b=iO u->h'.get? b=iO u)(hp:∀p∈l,s.heap.objs.size<=p.1)(new:∀b xs,l.lookup b=iO xs->(xs.length<=Z8/\∃o,h'.get? b=iO o/\o.dict=iQ)/\∃its:List iR,Vals xs its/\IsTup h' b its.toArray):Inv X Z9 σ (Kl H l) { s with heap:=h',toks:=t' }:=by
 have hn:∀p∈l,H p.1=none:=λp hq=>I.hok.fresh (hp p hq);refine I.un ⟨λb u q _ _ _=>k b u q,λb u q _ _ _=>⟨u.slots,k b u q⟩,λb u q n _=>?_,λb u q _=>⟨u,k b u q⟩,λb xs q=>kB hn q,λb u xs q=>kB hn q,λb ps q=>⟨#[],by rw[kB hn q];simp⟩⟩ λb u e=>?_
 .rw[Yy λp hq z=>?_];·exact n
  .exact absurd (ax q) (by rw[<-z];exact Nat.not_lt.mpr (hp p hq))
 .cases q:l.lookup b with
  |some xs=>have e:Kl H l b=iO u:=e;unfold Kl at e;rw[q]at e;cases e;exact new b xs q
  |none=>have e:Kl H l b=iO u:=e;unfold Kl at e;rw[q]at e;exact(I.hok b u e).stay (λc v _ q=>k c v q) (λc q=>kB hn q) λc xs q=>kB hn q
theorem qcX(A:Same F H)(hn:∀p∈l,H p.1=iQ):Same (Kl F l) (Kl H l)/\Chg No F H (Kl F l) (Kl H l):=by
 have C:∀p∈l,F p.1=none:=λp hp=>by
  cases q:F p.1 with
  |none=>rfl
  |some o=>have:=hn p hp;rw[A _ o q]at this;cases this
 refine⟨λb o e=>?_,⟨λb o e _=>kB hn e,λb e=>?_,λb o e=>kB C e,λb e=>?_⟩⟩
 .unfold Kl at e ⊢;cases q:l.lookup b with
  |some xs=>rw[q]at e;exact e
  |none=>rw[q]at e;exact A b o e
 .cases q:H b with
  |none=>exact absurd q e
  |some o=>rw[kB hn q];simp
 .cases q:l.lookup b with
  |some xs=>exact .inr (.inl (hn _ (gj q)))
  |none=>have e:Kl F l b≠none:=e;unfold Kl at e;rw[q]at e;exact .inl e
end
variable{prog:iZ}{w:i3}{A:j4}{E:iR->iV->Prop}
section
theorem Vr{K:Type}[DecidableEq K]{knd:KeyKind prog w K}{r d:Z7}{kvs:List (K×iR)}{ep:Nat}{Q:iR->iV->Prop}(t:A.handled=iQ)(v:s.heap.IsItemsView r d)(p:s.heap.DictAt knd d kvs ep)(g:kvs.length<64)(h:2<=kvs.length->∀(as:List Z7)(s':iV)(n:j4),as.length=kvs.length->KdxG knd kvs s.heap.objs.size s'.heap as->∃κ,(∀Q:SortKind->iV->Prop,Q κ s'->iW (Z6 prog w) n (keyKind' (as.map aY).toArray) Q (λ_ _=>False) s')/\∀i,i+1<kvs.length->∀C:Bool->iV->Prop,C iS s'->kas_ask prog w n κ (as.map aY) (i+1) i C s')(y:∀(h1 h':Z5)(tk e:Nat)(as:List Z7),(∀b o,s.heap.get? b=iO o->h1.get? b=iO o)->(∀b o,h1.get? b=iO o->h'.get? b=iO o)->as.length=kvs.length->KdxG knd kvs s.heap.objs.size h1 as->h'.get? h1.objs.size=iO (lc "list" (as.map aY).toArray e)->Q (.ref h1.objs.size) { s with heap:=h',toks:=tk }) :
  iW (Z6 prog w) A (call (.builtin "sorted") [.ref r]) Q E s:=by
 refine dY kind_sorted plain_sorted entry_sorted (args_sorted1 _) ?_;unfold Builtin.«sorted»;refine iP (m:=checkCount "sorted" 1 1 _) (iU ?_);refine iP (kdx_collect (A:=A.in1) (knd:=knd) (kvs:=kvs) (ep:=ep) t v p (by rw[i5];lia) λh1 tk as k1 hl c=>?_);have G:(as.map aY).length=kvs.length:=by rw[ao];exact hl
 refine iP (mJ ?_ (by rw[G,i5];lia));have Y:(h1.push (lc "list" (as.map aY).toArray 0)).get? h1.objs.size=iO (lc "list" (as.map aY).toArray 0):=ak _ rfl;have Z:∀h2:Z5,(∀b o,b≠h1.objs.size->(h1.push (lc "list" (as.map aY).toArray 0)).get? b=iO o->h2.get? b=iO o)->KdxG knd kvs s.heap.objs.size h2 as:=λh2 k2=>
  ⟨c.rise,c.above,λj a q=>by obtain⟨key,k,x,e1,z,D⟩:=c.pairs j a q;exact⟨key,k,x,e1,z,k2 a _ (aC (ax D)) (aa _ D)⟩⟩
 refine iP (j6 (i7 slot_list_sort (s:={ s with heap:=h1.push (lc "list" (as.map aY).toArray 0),toks:=tk }) ⟨_,Y,rfl⟩ entry_list_sort (Jo Y (by rw[G];exact g) (λf h2 k2=>by rw[G]at f ⊢;exact h f as { s with heap:=h2,toks:=tk } _ hl (Z h2 k2)) ⟨_,rfl,?_⟩) (args_list_sort _)));obtain⟨e,u⟩:=sortedHeap_at (out:=(as.map aY).toArray) Y;refine iU ⟨_,rfl,y h1 _ tk e as k1 (λb o J=>?_) hl c u⟩;have l:=ax J;rw[sortedHeap_old (aC l) (by rw[bz];exact bU l)];exact aa _ J
end
noncomputable def kD:Key->D
 |.inl i=>.int i
 |.inr x=>.str x
noncomputable def qfN:List Str->Bool
 |x::y::r=>decide (y≠x)&&!decide (y.cps.toList<x.cps.toList)&&qfN (y::r)
 |_=>iT
theorem qal:∀{ss:List Str},qfN ss=iT->∀i x y,ss[i]?=iO x->ss[i+1]?=iO y->y≠x/\¬y.cps.toList<x.cps.toList
 |[],_,i,x,y,h1,_=>by simp at h1
 |[_],_,i,x,y,_,h2=>by simp at h2
 |a::b::r,h,i,x,y,h1,h2=>by
  unfold qfN at h;simp only[aQ,decide_eq_true_eq,fQ,decide_eq_false_iff_not]at h;cases i with
  |zero=>cases h1;cases h2;exact h.1
  |succ i=>exact qal h.2 i x y h1 h2
def Yz(kvs:List (Key×D)):List D:=kvs.map λkv=>.tup [kD kv.1,kv.2]
def kT:D->Out D
 |.dct kvs=>(match Uc kvs with
  |some ss=>if ss.length<64/\qfN ss=iT/\(ss.all λy=>decide (y.length<=Z8))=iT then .ok (.lst (Yz kvs))else .bad
  |none=>.bad)
 |_=>.bad
theorem qdW{κ:Type}:∀{kv:List (κ×V)}{vs:List (κ×iR)},KV kv vs->∀(j:Nat)(k:κ)(x:iR),vs[j]?=iO (k,x)->∃v,kv[j]?=iO (k,v)/\RelV v x
 |_,_,.nil,j,k,x,h=>by simp at h
 |_,_,.cons (a:=p) (b:=q) r t,j,k,x,h=>by
  cases j with
  |zero=>cases h;obtain⟨p1,p2⟩:=p;obtain⟨rfl,r2⟩:=r;exact⟨p2,rfl,r2⟩
  |succ j=>exact qdW t j k x h
theorem qdX:∀{as:List Z7}{ys:List α}{b:Z7}{y:α},(as.zip ys).lookup b=iO y->∃j:Nat,as[j]?=iO b/\ys[j]?=iO y
 |[],_,b,y,h=>by simp at h
 |_::_,[],b,y,h=>by simp at h
 | a::as,z::ys,b,y,h=>by
  rw[dD,cA]at h;by_cases e:(b == a)=iT
  .rw[e]at h;have h:iO z=iO y:=h;cases h;have:b=a:=by simpa using e
   rw[this];exact⟨0,rfl,rfl⟩
  .rw[Bool.not_eq_true]at e;rw[e]at h;obtain⟨j,h1,h2⟩:=qdX h;exact⟨j+1,h1,h2⟩
theorem qdY:∀{as:List Z7}{ys:List α}{j:Nat}{b:Z7}{y:α},as.Nodup->as[j]?=iO b->ys[j]?=iO y->(as.zip ys).lookup b=iO y
 |[],_,j,b,y,_,h,_=>by simp at h
 |_::_,[],j,b,y,_,_,h=>by simp at h
 |a::as,z::ys,0,b,y,_,h1,h2=>by cases h1;cases h2;rw[dD,cA];simp
 |a::as,z::ys,j+1,b,y,hn,h1,h2=>by
  rw[dD,cA];have hn:=aP.mp hn;have:(b == a)=false:=by rw[beq_eq_false_iff_ne];intro q;rw[q]at h1;exact hn.1 (List.mem_iff_getElem?.mpr ⟨j,h1⟩)
  rw[this];exact qdY hn.2 h1 h2
theorem Vs:∀as:List Z7,Vals (as.map V.ref) (as.map aY)
 |[]=>.nil
 |_::as=>.cons rfl (Vs as)
theorem Vt{K:Y8}{F F':Hp}(g:Same F F'):∀{kv:List (Key×V)}{ks:List (Key×D)}{as:List Z7},IsK K F kv ks->as.length=kv.length->(∀k∈ks.map (·.1),∃x:Str,k=.inr x/\x.length<=Z8) ->(∀(j:Nat)(a:Z7)(p:Key×V),as[j]?=iO a->kv[j]?=iO p->F' a=iO (.tup [kV p.1,p.2]))->IsL K F' (as.map V.ref) (Yz ks)
 |_,_,[],.nil,_,_,_=>.nil
 |_,_,_::_,.nil,h,_,_=>by simp at h
 |_,_,[],.cons _ _,h,_,_=>by simp at h
 |_,_,a::as,.cons (k:=k) (v:=v) (d:=d) h t,hl,hk,hF=>by obtain⟨x,rfl,hx⟩:=hk _ (ai ..);have e:=hF 0 a (.inr x,v) rfl rfl;exact .cons (.tup (.inl (.inl e)) (.cons (.str hx) (.cons (h.mono g) .nil))) (Vt g t (by simpa using hl) (λk b=>hk k (ac _ b)) λj a p h1 h2=>hF (j+1) a p h1 h2)
section
variable{C:Ct}{own:List Nat}{o:Z4}{fa:qU}{ma:Mo}{pos p apos cpos:Pos}
theorem Vu (hK:C.K=X.K) (hc:X.calm=iT) (hg:Gl X "sorted") (hm:X.mg "sorted"=iQ) (c:iY "sorted"=iO (.builtin "sorted")) (ha:PE X o (tE C own ma fa))
  (m:lj o "items" X.env (Y9 o X.env)=Y9 o X.env:=by rfl) (g:(apos.endLine == cpos.line)=true:=by rfl)
  (he2:iX [.Call (.Attribute o "items" apos) [] [] cpos] X.env=[(iS,Y9 (.Call (.Attribute o "items" apos) [] [] cpos) X.env)]:=by exact qD rfl) :
  PE X (.Call (.Name "sorted" p) [.Call (.Attribute o "items" apos) [] [] cpos] [] pos) (tE C own .fr (d1 kT fa)):=by
 refine⟨?_⟩;intro Z9 s σ H Q I h;refine lf (uG I hg hm c ?_ (by decide) (by decide));rw[he2];refine dw rfl (dL (fG ?_));refine wpAny_Call_method m rfl g PySem.F.plainAttrs_dict PySem.F.slot_dict_items PySem.F.type_dict_items (thn (ha Z9 s σ H _ I (qck (ma:=ma) h)) λu s1 z9=>?_);obtain⟨x,H1,S,rx,F,dx,sb,tx,po⟩:=z9;cases dx with
 | dct kvs=>
  obtain⟨a,kv,rfl,hH,Z⟩:=tx.dct sb;obtain rfl:u=aY a:=rx;obtain⟨t1,t2,f⟩:=qhr S (.inl ⟨kv,.inl hH⟩);refine⟨t1,t2,?_⟩;refine dw rfl (PySem.evalArgs_none ?_);cases q:Uc kvs with
  |none=>simp only[kT,q]at po;exact po.elim
  | some ss=>
   simp only[kT,q]at po;by_cases hl:ss.length<64/\qfN ss=iT/\(ss.all λy=>decide (y.length<=Z8))=iT
   ·rw [Aa hl]at po;obtain⟨l1,l2,l3⟩:=hl;obtain⟨hz,f,vs,rel,dd⟩:=(show ObjOk X.prog X.w H1 s1.heap a (.dK kv)from S.hok a _ hH)
    have hk:vs.map (·.1)=ss.map br:=by rw[<-KV.keys rel,Z.keys,Yp q]
    have hlen:vs.length=ss.length:=by have:=congrArg iH hk;simpa using this
    have hlk:kv.length=vs.length:=rel.length;refine call_meetsIn PySem.F.slot_dict_items dd.typeIs PySem.F.entry_dict_items (PySem.F.args_dict_items_1 _) (meets_dict_items (jp X.prog X.w) a f) ⟨⟨vs,dd⟩,?_⟩;refine fM ?_;obtain⟨ep,da⟩:=dd.dictAt;have J:∀(j:Nat)(k:Key)(x:iR),vs[j]?=iO (k,x)->∃y,ss[j]?=iO y/\k=.inr y:=λj k x e=>by
     have D:(vs.map (·.1))[j]?=iO k:=by rw[aG,e];rfl
     rw[hk,aG]at D;obtain⟨y,R,A⟩:=aO.mp D;exact⟨y,R,A.symm⟩
    have r:∀{lo:Z7}{h:Z5}{as:List Z7},KdxG (jp X.prog X.w) vs lo h as->∀(j:Nat)(b:Z7),as[j]?=iO b->∃y t x,ss[j]?=iO y/\vs[j]?=iO (.inr y,x)/\h.get? b=iO { cls:=.type "tuple",data:=.seq #[.str y t,x] }:=λG j b hj=>by
     obtain⟨key,k,x,e1,e2,D⟩:=G.pairs j b hj;obtain⟨y,R,rfl⟩:=J j k x e1;rcases jk (show WA (br y) key=iT from e2)with⟨i,t,A,_⟩|⟨z,t,A,rfl⟩
     .cases A
     .cases A;exact⟨_,t,x,R,e1,D⟩
    refine Vr (knd:=jp X.prog X.w) (d:=a) (kvs:=vs) (ep:=ep) (I.ok.hd hc) ⟨_,ak _ rfl,rfl,rfl⟩ (da.push _) (by lia) (λh2 as s' A' hla n=>?_) λh1 h' tk e as k1 k2 hla n hp=>?_
    .refine⟨tuples' iT,λQ' hQ'=>?_,λi hi C' hC=>?_⟩
     .obtain⟨fs,f1,f2,P⟩:∃fs:List iR,KatTups s'.heap (as.map aY) fs/\fs.length=as.length/\∀v∈fs,∃y t,v=dR y t:=by
       have go:∀(l:List Z7),(∀b∈l,∃y t x,s'.heap.get? b=iO { cls:=.type "tuple",data:=.seq #[dR y t,x] })->∃fs:List iR,KatTups s'.heap (l.map aY) fs/\fs.length=l.length/\∀v∈fs,∃y t,v=dR y t:=by
        intro l
        induction l with
        |nil=>intro _;exact⟨[],.nil,rfl,λv c=>by cases c⟩
        |cons b l ih=>
         intro c;obtain⟨y,t,x,ho⟩:=c b (ai ..);obtain⟨fs,f1,f2,P⟩:=ih λW h'=>c W (ac _ h');refine⟨dR y t::fs,.cons ho rfl rfl (by simp) f1,by simp[f2],λW h'=>?_⟩;rcases ae.mp h' with rfl|h';·exact⟨_,_,rfl⟩
         .exact P W h'
       refine go as λb O=>?_;obtain⟨j,hj⟩:=List.mem_iff_getElem?.mp O;obtain⟨y,t,x,_,_,D⟩:=r n j b hj;exact⟨y,t,x,D⟩
      refine kat_kind (T:=.type "str") f1 (by lia) (λv c=>?_) (by decide) hQ';obtain⟨y,t,rfl⟩:=P v c;exact .now
     .have M:as[i+1]?=iO (as[i+1]'(by lia)):=ay _;have N:as[i]?=iO (as[i]'(by lia)):=ay _;obtain⟨y1,u1,x1,g1,_,g2⟩:=r n (i+1) _ M;obtain⟨y0,u0,x0,g3,_,g4⟩:=r n i _ N;obtain⟨n1,n2⟩:=qal l2 i y0 y1 g3 g1;unfold kas_ask;rw[show(as.map aY).getD (i+1) .none=.ref (as[i+1]'(by lia)) by rw[bf,aG,M];rfl,show(as.map aY).getD i .none=.ref (as[i]'(by lia)) by rw[bf,aG,N];rfl];refine kat_lt g2 rfl g4 rfl (kat_cons (wpAny_eqBool_str ?_));rw[Ac n1];refine kat_no (oneLt_str ?_);rw[Ac n2];exact hC
    .have B:∀b o,s1.heap.get? b=iO o->h1.get? b=iO o:=λb o eb=>k1 b o (aa _ eb);have hsz:(s1.heap.push { cls:=.type "dict_items",data:=.fields #[.ref a] }).objs.size=s1.heap.objs.size+1:=bz ..;have hab:∀b∈as,s1.heap.objs.size<=b:=λb O=>by have:=n.above b O;have this:(s1.heap.push { cls:=.type "dict_items",data:=.fields #[.ref a] }).objs.size<b:=this;rw[hsz]at this;exact cX (Nat.lt_of_succ_lt this)
     have hnd:as.Nodup:=n.rise.imp λz=>aC z;have hlz:as.length=(kv.map λp=>[kV p.1,p.2]).length:=by rw[ao];lia
     have E:∀q∈as.zip (kv.map λp=>[kV p.1,p.2]),s1.heap.objs.size<=q.1:=λq hq=>hab _ (cR hq).1;have I2:Inv X Z9 σ (Kl H1 (as.zip (kv.map λp=>[kV p.1,p.2]))) { s1 with heap:=h1,toks:=tk }:=Inv.lays S B E λb xs O=>by obtain⟨j,Y,U⟩:=qdX O;obtain⟨y,t,x,e1,e2,D⟩:=r n j b Y;obtain⟨v,R,A⟩:=qdW rel j _ x e2;rw[aG,R]at U;cases U;exact⟨⟨by show 2<=_;rw[i5];decide,_,D,rfl⟩,[.str y t,x],.cons ⟨t,rfl⟩ (.cons A .nil),_,D,rfl,_,rfl⟩
     have hq0:H1 h1.objs.size=none:=(S.kept (t':=tk) B).hok.fresh (ap _);have hq2:Kl H1 (as.zip (kv.map λp=>[kV p.1,p.2])) h1.objs.size=none:=I2.hok.fresh (ap _);obtain⟨s2,c2⟩:=qcX (l:=as.zip (kv.map λp=>[kV p.1,p.2])) sb λq hq=>S.hok.fresh (E q hq);obtain⟨s3,c3,P⟩:=jT (u:=.lst (as.map V.ref)) s2 hq2;have il:=Vt (as:=as) c2.grow Z (by lia) (λk L=>by
      rw[<-Z.keys,KV.keys rel,hk]at L;obtain⟨y,hy,rfl⟩:=aq.mp L;exact⟨y,rfl,Ae (aM.mp l3 y hy)⟩) λj b q Y U=>by
      unfold Kl;rw[qdY hnd Y (by rw[aG,U];rfl)]
     exact⟨.ref h1.objs.size,_,I2.laid (t':=tk) (o:=.lst (as.map V.ref)) k2 (ap _) ⟨by rw[ao,i5];lia,as.map aY,e,Vs as,by simpa[lc]using hp⟩,rfl,po _ _ _ s3 (c2.trans' c3) ⟨_,rfl,hq0,P,_,qh,il⟩⟩
   .rw[Ab hl]at po;exact po.elim
 |_=>exact po.elim
end
section
variable{z TI TO i1 i2:Z7}{fp1 fp2:List Z7}{n1 n2 i:Nat}{P1 P2:Nat->iR->Prop}{S1 S2:Nat->Z5->Prop}{a b:iR}
end
end L2.D2
namespace L2.D2
open PySem PySem.Spec PyProof.Rows
variable{X:Cx}{C:Ct}{own:List Nat}{mr:Mo}{x:Str}{pos':Pos}{ms:List PM}{ps:List Str}{cv:Str->iR}{i:Nat}
section
variable{own':List Nat}{as:List AK}{G:jK}{fr:vY}{m ma mb:Mo}{a b e:Z4}{es:List Z4}{p pos px:Pos}{k j:Nat}{fe f fa fb:qU}
theorem cN(F:XN X.prog X.w X.K X.mg X.base cv j x ps ms mr G)(g:PA X (e::es) (tAr C own as fr))(hr:Room k X.A:=by assumption)(D:j<=k:=by decide)(hx:yi (CXk X.prog X.w) X C.E:=by exact qcC)(hg:Gl X x:=by rfl)(v:C.cv=cv:=by rfl)(n:C.K=X.K:=by rfl)(s:ms=as.map Ki:=by rfl)(hs:∀i∈ju as,i∈own:=by decide)(nd:(ju as).Nodup:=by decide)(h:frA as<=1:=by decide)(o:∀i∈C.ox,i∈own:=by exact wy rfl)(b:Dbg x:=by decide)(a:iX (e::es) X.env=(iS,Y9 e X.env)::iX es X.env:=by exact jD rfl)(l:(lq pos (iX es X.env)).any (·.1)=false:=by exact zo rfl):PE X (.Call (.Name x p) (e::es) [] pos) (tE C own mr (ql as G fr)):=
 qY F hr D hx hg g v n s hs nd h o b a l
theorem sl{x:Str}{px:Pos}(g:PA X es (tAr C own as fr))(h:X.N[i]?=iO x:=by rfl)(c:Vis X.env.scope x:=by exact bO rfl)(l:i∈own:=by decide)(hs:iX (.Name x px::es) X.env=(iS,Y9 (.Name x px) X.env)::iX es X.env:=by rfl)(hd:Dbg x:=by decide)(d:Cdk x:=by decide):PA X (.Name x px::es) (tAr C own (.sl i::as) (kb fr)):=yn h c l g hs hd d
theorem vO{x:Str}(h:X.N[i]?=iO x:=by rfl)(c:Vis X.env.scope x:=by exact bO rfl)(l:i∈own:=by decide)(hd:Dbg x:=by decide)(d:Cdk x:=by decide):PE X (.Name x pos) (tE C own .any (qc i)):=qe5 h c l hd d
theorem se{x:Str}{pos':Pos}(a:PE X e (tE C own m fe))(b:decide X.N.Nodup=true:=by kernel_rfl)(hi:X.N[i]?=iO x:=by rfl)(hx:Loc X.env.scope x:=by first|exact bO rfl|exact fg rfl)(c:m≠.any:=by decide)(o:i∉C.io:=by exact yk rfl)(hs:lK e (iO (.Name x pos')) pos.line X.env=pure false:=by rfl)(h:X.fn x=iT\/X.env.scope.names.lookup x=iO .local:=by first|exact .inl rfl|exact .inr rfl):PS X (.Assign [.Name x pos'] e pos) (tSt C own (vw own [i]) (qX i fe)):=qfc (Ae b) hi hx a c o hs h
theorem sO{x:Str}{pos':Pos}(a:PE X e (tE C own .fr fe))(b:decide X.N.Nodup=true:=by kernel_rfl)(hi:X.N[i]?=iO x:=by rfl)(hx:Loc X.env.scope x:=by first|exact bO rfl|exact fg rfl)(o:i∉C.io:=by exact yk rfl)(hs:lK e (iO (.Name x pos')) pos.line X.env=pure false:=by rfl)(h:X.fn x=iT\/X.env.scope.names.lookup x=iO .local:=by first|exact .inl rfl|exact .inr rfl):PS X (.Assign [.Name x pos'] e pos) (tSt C own (i::vw own [i]) (qX i fe)):=qct (Ae b) hi hx a o hs h
theorem gn{x:Str}(a:decide X.N.Nodup=true:=by kernel_rfl)(hi:X.N[i]?=iO x:=by rfl)(hx:Loc X.env.scope x:=by first|exact bO rfl|exact fg rfl)(l:i∉own:=by decide)(o:i∉C.io:=by exact yk rfl)(h:X.fn x=iT\/X.env.scope.names.lookup x=iO .local:=by first|exact .inl rfl|exact .inr rfl):PG X (.Name x pos) (tGd C own (gNm i)):=UY (Ae a) hi hx l o h
theorem ix(g:PE X a (tE C own ma fa))(d:PE X b (tE C own mb fb))(hr:Room k X.A:=by assumption)(hs:QT b:=by exact λ_ _=>rfl)(n:C.K=X.K:=by rfl)(f:ma≠.any:=by decide):PE X (.Subscript a b pos) (tE C own .sh (d2 ixD fa fb)):=qki n hr.units g d hs f
theorem tv(h:PE X e (tE C own m f))(n:C.K=X.K:=by rfl)(i:∀whole,isTrue e X.env whole=(do let v <-whole;standAt e.pos;holding [v] (truthy v)):=by exact λ_=>rfl):PT X e (tT C own (vU f)):=qfa n h i
end
noncomputable def tgN:Z4->List Str
 |.Name x _=>[x]
 |.Tuple es _ _=>es.flatMap λe=>match e with
  |.Name x _=>[x]
  |_=>[]
 |_=>[]
def cNm(tg:Z4)(N:List Str)(cap:List Nat):List Str:=tgN tg++cap.map λk=>N.getD k Str.empty
section
variable{elt iter tg:Z4}{ifs:List Z4}{scope:mf}{pos spos:Pos}{fi:vY}{g:D->Sl->Out Sl}{ft:uA}{fe:qU}{me:Mo}{nt:Nat}{cap:List Nat}
theorem gC(a:decide X.N.Nodup=true:=by kernel_rfl)(hi:X.N[i]?=iO x:=by rfl)(hx:Loc X.env.scope x:=by first|exact bO rfl|exact fg rfl)(l:i∉own:=by decide)(o:i∉C.io:=by exact yk rfl)(h:X.fn x=iT\/X.env.scope.names.lookup x=iO .local:=by first|exact .inl rfl|exact .inr rfl):PG X (.Name x pos) (tGd C own (gNm i)):=UY (Ae a) hi hx l o h
theorem cmp(hi:PI X tg iter (tIt C own fi))(i:∀fp L s' H',PE (jx X scope (cNm tg X.N cap) fp L s' H') elt (tE (ctC C nt cap.length) (ww own nt cap) me fe))(hg:∀fp L s' H',PG (jx X scope (cNm tg X.N cap) fp L s' H') tg (tGd (ctC C nt cap.length) (ww own nt cap) g):=by exact λ_ _ _ _=>gC)(ht:∀fp L s' H',PTs (jx X scope (cNm tg X.N cap) fp L s' H') ifs (tT (ctC C nt cap.length) (ww own nt cap) ft):=by exact λ_ _ _ _=>UZ)(Q:X.calm=true:=by rfl)(bs:scB X.env.scope.names scope=true:=by kernel_rfl)(b:qjx X.env.scope.names X.N scope (cNm tg X.N cap) nt cap=true:=by kernel_rfl)(j:me≠.any:=by decide)(hs:∀x,lA iter X.env x=pure x:=by intro _;rfl) :
  PE X (.ListComp elt [⟨tg,iter,ifs,0⟩] scope pos) (tE C own .fr (qN own nt cap fi g ft fe)):=qfk Q (qhH rfl bs) (qdP rfl rfl b) hi hg ht i j hs
theorem qh5{i:Nat}{x:Str}(hi:PI X tg iter (tIt C own fi))(h:∀fp L s' H',PE (jx X scope (cNm tg X.N cap) fp L s' H') elt (tE (ctC C nt cap.length) (ww own nt cap) me fe))(hg:∀fp L s' H',PG (jx X scope (cNm tg X.N cap) fp L s' H') tg (tGd (ctC C nt cap.length) (ww own nt cap) g):=by exact λ_ _ _ _=>gC)(ht:∀fp L s' H',PTs (jx X scope (cNm tg X.N cap) fp L s' H') ifs (tT (ctC C nt cap.length) (ww own nt cap) ft):=by exact λ_ _ _ _=>UZ)(a:decide X.N.Nodup=true:=by kernel_rfl)(V:X.N[i]?=iO x:=by rfl)(hx:Loc X.env.scope x:=by first|exact bO rfl|exact fg rfl)(Q:X.calm=true:=by rfl)(bs:scB X.env.scope.names scope=true:=by kernel_rfl)(b:qjx X.env.scope.names X.N scope (cNm tg X.N cap) nt cap=true:=by kernel_rfl)(j:me≠.any:=by decide)(o:i∉C.io:=by exact yk rfl)(G:lK (.ListComp elt [⟨tg,iter,ifs,0⟩] scope pos) (iO (.Name x pos')) spos.line X.env=pure true:=by rfl)(hs:∀x,lA iter X.env x=pure x:=by intro _;rfl)(Y:X.fn x=iT\/X.env.scope.names.lookup x=iO .local:=by first|exact .inl rfl|exact .inr rfl) :
  PS X (.Assign [.Name x pos'] (.ListComp elt [⟨tg,iter,ifs,0⟩] scope pos) spos) (tSt C own (i::vw own [i]) (qX i (qN own nt cap fi g ft fe))):=qcB (Ae a) V hx Q (qhH rfl bs) (qdP rfl rfl b) hi hg ht h j o G hs Y
end
section
variable{P:iZ}{w:i3}{K:Y8}{mg:Str->Option iR}{base:Z5}{st:Z3}{N:List Str}{k:Nat}{fb:qK}
theorem dW(own':List Nat)(T:qjw K mg x st ps)(a:∀{cdv:iR}{f:Z7}{A:j4}{outer:List Env}{s:iV}{H:Hp}{E:XK},Room k (A.deeper (mI x (jb st) s.heap.objs.size f cdv)) ->PSs (cxk P w K mg base N x (jb st) f cdv A outer s H E) (vV st) (tSt (qju K cv E ms mr) (kq 0 ms) own' fb))(S:FnScope N ps (jb st):=by exact fsc)(hl:ms.length=ps.length:=by rfl)(g:∀i∈UV 0 ms,i∈own':=by exact wy rfl)(r:mr=.sh\/∀ds ρ,(fb (qt N ds))≠.ok (.nx,ρ):=by exact .inl rfl):XN P w K mg base cv (k+1) x ps ms mr (jW N ms fb):=qdO T S (λ_ _ _ _ _ _ _=>a) hl g r
end
end L2.D2
namespace L2.D2
open PySem
variable{j:Nat}
theorem qam{xs:Array Nat}{i:Nat}(hr:Vb xs.toList)(h:xs[i]?=iO j):bh xs j=i:=by
 obtain⟨a,b⟩:=Jf (j:=j) hr;have h1:bh xs j<=i:=cz λz=>bF _ (a i z j h);rcases eh h1 with e|e
 .have t:bh xs j<xs.size:=eU e (aX.mp h).1;have hx:xs[bh xs j]?=iO xs[bh xs j]:=by simp[t]
  exact absurd (b _ (ap _) _ hx) (Nat.not_le.mpr (Jd hr e hx h))
 .exact e
variable{t:k6}
theorem vP{i:Nat}(hr:Vb t.place.toList)(h:t.place[i]?=iO j):t.slot j=.live i:=by unfold SetTable.slot;rw[qam hr h];dsimp only;rw[h];simp
theorem Zd(hd:t.dummies=#[])(h:j∉t.place.toList):t.slot j=.empty:=by
 unfold SetTable.slot;have h1:¬(t.place[bh t.place j]? == iO j)=true:=λz=>h (by
  have z:t.place[bh t.place j]?=iO j:=by simpa using z
  rw[<-aK]at z;exact aV z)
 dsimp only;rw[Ab h1,hd];rfl
end L2.D2
namespace L2.D2
open PySem PySem.SetTable
noncomputable def adv(m:Nat)(p:Probe):Probe:=if p.more > 0 then{ p with j:=p.j+1,more:=p.more - 1 }else{ p with j:=(leap m p.i p.perturb).1,more:=runEnd m (leap m p.i p.perturb).1 - (leap m p.i p.perturb).1,i:=(leap m p.i p.perturb).1,perturb:=(leap m p.i p.perturb).2 }
noncomputable def atL(m i q:Nat):Probe:={ j:=i,more:=runEnd m i - i,i:=i,perturb:=q,dummy:=iQ }
def pth(m:Nat)(h:Int):Nat->Probe
 | 0=>atL m (bits h % (m+1)) (bits h)
 |n+1=>adv m (pth m h n)
noncomputable def lp(m:Nat)(h:Int):Nat->Nat×Nat
 | 0=>(bits h % (m+1),bits h)
 |c+1=>leap m (lp m h c).1 (lp m h c).2
theorem qan(m i:Nat):runEnd m i - i<=9/\i<=runEnd m i:=by unfold runEnd;split <;> lia
variable{m n:Nat}{h:Int}
theorem Qn{i q:Nat}(e:pth m h n=atL m i q):∀k,k<=runEnd m i - i->pth m h (n+k)={ j:=i+k,more:=runEnd m i - i - k,i:=i,perturb:=q,dummy:=iQ }
 | 0,_=>e
 |k+1,hk=>by have a:=Qn e k (by lia);show adv m (pth m h (n+k))=_;rw[a];unfold adv;rw[Aa (by show runEnd m i - i - k > 0;lia)];rfl
theorem qao(m:Nat)(h:Int):∀c,∃n,n<=10 * c/\pth m h n=atL m (lp m h c).1 (lp m h c).2
 | 0=>⟨0,ap _,rfl⟩
 |c+1=>by obtain⟨n,hn,e⟩:=qao m h c;have hr:=(qan m (lp m h c).1).1;have i:=Qn e _ (ap _);refine⟨n+(runEnd m (lp m h c).1 - (lp m h c).1)+1,by lia,?_⟩;show adv m (pth m h (n+(runEnd m (lp m h c).1 - (lp m h c).1)))=_;rw[i];unfold adv;rw[Ab (by show ¬runEnd m (lp m h c).1 - (lp m h c).1 - (runEnd m (lp m h c).1 - (lp m h c).1) > 0;lia)];rfl
theorem qlr(m:Nat)(h:Int):∀c,(lp m h c).2=bits h / 32 ^ c
 | 0=>by show bits h=_;simp
 |c+1=>by show(lp m h c).2 / 32=_;rw[qlr m h c,Nat.div_div_eq_div_mul,Nat.pow_succ]
theorem qkD(m:Nat)(h:Int):∀c,(lp m h c).1<m+1
 | 0=>ff _ (hJ _)
 |c+1=>ff _ (hJ _)
theorem qfO(h:Int):bits h<2 ^ 64:=by
 unfold bits;have h1:0<=h % (2 ^ 64:Int):=cW _ (by decide);have h2:h % (2 ^ 64:Int)<2 ^ 64:=cM _ (by decide)
 lia
theorem qfP(m:Nat)(h:Int)(c:Nat):(lp m h (13+c)).2=0:=by rw[qlr];refine Nat.div_eq_of_lt (aI (qfO h) ?_);rw[Nat.pow_add];exact be (by decide:2 ^ 64<=32 ^ 13) (Nat.le_mul_of_pos_right _ (Nat.pow_pos (by decide)))
noncomputable def stp(m i:Nat):Nat:=(i * 5+1) % (m+1)
def its(m:Nat):Nat->Nat->Nat
 | 0,i=>i
 |k+1,i=>stp m (its m k i)
theorem qap(m:Nat)(h:Int):∀k,(lp m h (13+k)).1=its m k (lp m h 13).1
 | 0=>rfl
 |k+1=>by show((lp m h (13+k)).1 * 5+1+(lp m h (13+k)).2 / 32) % (m+1)=stp m (its m k (lp m h 13).1);rw[qfP,qap m h k];rfl
def qdZ(m:Nat):Bool:=(aH (m+1)).all λi=>its m (m+1) i == i&&((aH (m+1)).any (λa=>its m a 0 == i)&&(aH (m+1)).any λa=>its m a i == 0)
def Mk(m:Nat):Prop:=m=7\/m=31\/m=127
theorem Jp(m a i:Nat):∀b,its m (a+b) i=its m b (its m a i)
 | 0=>rfl
 |b+1=>congrArg (stp m) (Jp m a i b)
variable{j:Nat}
theorem qd0(d:Mk m){i:Nat}(hi:i<m+1)(D:j<m+1):∃k,k<m+1/\its m k i=j:=by
 have c:qdZ m=true:=by rcases d with rfl|rfl|rfl <;> decide +kernel
 unfold qdZ at c;have at_:=λx hx=>aM.mp c x (aN.mpr hx);simp only[aQ,f9,aN,beq_iff_eq]at at_;obtain⟨p,_,a,g,w⟩:=at_ i hi;obtain⟨_,⟨b,e,J⟩,_⟩:=at_ j D;by_cases h:a+b<m+1;·exact⟨a+b,h,by rw[Jp,w,J]⟩
 .refine⟨a+b - (m+1),by omega,?_⟩;have:its m (m+1+(a+b - (m+1))) i=j:=by rw[show m+1+(a+b - (m+1))=a+b by omega,Jp,w,J]
  rwa [Jp,p]at this
theorem qh6(a:Mk m)(h:Int)(D:j<m+1):∃n c,n<=10 * c/\c<=13+m/\(pth m h n).j=j:=by obtain⟨k,b,e⟩:=qd0 a (qkD m h 13) D;obtain⟨n,hn,i⟩:=qao m h (13+k);refine⟨n,13+k,hn,by lia,?_⟩;rw[i];show(lp m h (13+k)).1=j;rw[qap,e]
theorem Uf:∀(a b:List Nat),a.Nodup->(∀x∈a,x∈b)->a.length<=b.length
 |[],b,_,_=>aU _
 |x::a,b,nd,s=>by
  have hx:=s x ai;obtain⟨n1,n2⟩:=aP.mp nd;have j:=Uf a (b.erase x) n2 λy D=>(fA (show y≠x from λz=>n1 (by rw[<-z];exact D))).mpr (s y (ac _ D));rw[c9 hx]at j;have:=cL hx;rw[ah]
  lia
variable{l:List Nat}
theorem qfQ(hr:Vb l)(hl:l.length<=m):∃j,j<m+1/\j∉l:=by
 by_cases hn:∃j,j<m+1/\j∉l;·exact hn
 .exfalso;have sub:∀j∈aH (m+1),j∈l:=λj D=>by
   by_cases z:j∈l;·exact z
   .exact absurd ⟨j,aN.mp D,z⟩ hn
  have:=Uf _ l (fh (n:=m+1)) sub;rw[bo]at this
  lia
theorem qcY(b:Mk m)(h:Int)(hr:Vb l)(hl:l.length<=m):∃n,n<10 * turns m/\(pth m h n).j∉l:=by obtain⟨j,D,a⟩:=qfQ hr hl;obtain⟨n,c,h1,h2,e⟩:=qh6 b h D;refine⟨n,by unfold turns;lia,by rw[e];exact a⟩
theorem Vv(m:Nat)(h:Int):∀n,(pth m h n).dummy=iQ
 | 0=>rfl
 |n+1=>by show(adv m (pth m h n)).dummy=iQ;unfold adv;split <;> exact Vv m h n
variable{t:k6}
theorem qh7(hd:t.dummies=#[])(hr:Vb t.place.toList){hashAt:Nat->Int}:∀(f n e:Nat),n<=e->e<n+f->(pth t.mask h e).j∉t.place.toList ->∃n1,n<=n1/\n1<=e/\(∀k,n<=k->k<n1->(pth t.mask h k).j∈t.place.toList/\∀i,t.place[i]?=iO (pth t.mask h k).j->hashAt i≠h) /\
   ((im.go t hashAt h f (pth t.mask h n)=iO (.empty (pth t.mask h n1).j iQ)/\(pth t.mask h n1).j∉t.place.toList) \/
    ∃i,t.place[i]?=iO (pth t.mask h n1).j/\hashAt i=h/\im.go t hashAt h f (pth t.mask h n)=iO (.candidate (pth t.mask h n1).j i (pth t.mask h (n1+1))))
 | 0,n,e,h1,h2,_=>by lia
 | f+1,n,e,h1,h2,h3=>by
  unfold im.go;by_cases c:(pth t.mask h n).j∈t.place.toList
  .obtain⟨i,hi⟩:=bi c;rw[aK]at hi;rw[vP hr hi];dsimp only;by_cases hq:hashAt i=h;·rw[Aa (by simpa using hq)];refine⟨n,ap _,h1,λk a b=>absurd b (by lia),.inr ⟨i,hi,hq,rfl⟩⟩
   .rw[Ab (by simpa using hq)];have l:n≠e:=λz=>h3 (z ▸ c);obtain⟨n1,s,o,y,q⟩:=qh7 hd hr f (n+1) e (by lia) (by lia) h3;refine⟨n1,by lia,o,λk r m=>?_,q⟩;by_cases z:k=n;·subst z;refine⟨c,λp d=>?_⟩;have e1:=vP hr hi;have g:=vP hr d;rw[e1]at g;cases g;exact hq
    .exact y k (by lia) m
  .rw[Zd hd c];dsimp only;refine⟨n,ap _,h1,λk a b=>absurd b (by lia),.inl ⟨by rw[Vv],c⟩⟩
theorem qd1{m:Nat}{h:Int}:∀n,(pth m h n).j+(pth m h n).more<=m
 | 0=>by have:bits h % (m+1)<m+1:=ff _ (hJ m);show bits h % (m+1)+(runEnd m (bits h % (m+1)) - bits h % (m+1))<=m;unfold runEnd;split <;> lia
 | n+1=>by
  have a:=qd1 (m:=m) (h:=h) n;show(adv m (pth m h n)).j+(adv m (pth m h n)).more<=m;unfold adv;split
  .show(pth m h n).j+1+((pth m h n).more - 1)<=m
   lia
  .have:(leap m (pth m h n).i (pth m h n).perturb).1<m+1:=ff _ (hJ m);show(leap m (pth m h n).i (pth m h n).perturb).1+(runEnd m (leap m (pth m h n).i (pth m h n).perturb).1 - (leap m (pth m h n).i (pth m h n).perturb).1)<=m;unfold runEnd;split <;> lia
def Rch(m:Nat)(L:Nat->Prop)(j:Nat)(h:Int):Prop:=∃n,(pth m h n).j=j/\∀k,k<n->L (pth m h k).j
theorem Rch.mono{L b:Nat->Prop}(r:Rch m L j h)(k:∀x,L x->b x):Rch m b j h:=let ⟨n,e,a⟩:=r; ⟨n,e,λi hi=>k _ (a i hi)⟩
structure TabOk(t:k6)(es:List (Int×iR)):Prop where
 km:Mk t.mask
 dm:t.dummies=#[]
 rise:Vb t.place.toList
 le:∀j∈t.place.toList,j<=t.mask
 sz:t.place.size=es.length
 rch:∀q∈t.place.toList.zip es,Rch t.mask (·∈t.place.toList) q.1 q.2.1
variable{α:Type}
noncomputable def Ww(l:List α)(p:Nat)(x:α):List α:=l.take p++x::l.drop p
variable{p:Nat}
theorem YA{l:List α}{x y:α}:y∈Ww l p x↔y=x\/y∈l:=by
 unfold Ww
 conv=>rhs;rw[<-cO p l]
 simp only[af,ae];constructor
 .rintro(h|h|h);·exact .inr (.inl h)
  .exact .inl h
  .exact .inr (.inr h)
 .rintro(h|h|h);·exact .inr (.inl h)
  .exact .inl h
  .exact .inr (.inr h)
variable{β:Type}
theorem YB{a:List α}{b:List β}{x:α}{y:β}(hl:a.length=b.length){q:α×β}(h:q∈(Ww a p x).zip (Ww b p y)):q=(x,y)\/q∈a.zip b:=by
 unfold Ww at h;rw[List.zip_append (by rw[bj,bj,hl]),dD]at h;rw[<-cO p a,<-cO p b,List.zip_append (by rw[bj,bj,hl])];rcases af.mp h with h|h;·exact .inr (bP _ h)
 .rcases ae.mp h with h|h;·exact .inl h
  .exact .inr (aR _ h)
variable{es:Array (Int×iR)}
set_option tactic.hygienic true in
theorem qaq{v:iR}(T:TabOk t es.toList)(hl:∀k,k<n->(pth t.mask h k).j∈t.place.toList)(p:(pth t.mask h n).j∉t.place.toList):TabOk (t.put (pth t.mask h n).j).1 (insertAt es (t.put (pth t.mask h n).j).2 (h,v)).toList/\(t.put (pth t.mask h n).j).1.mask=t.mask/\(t.put (pth t.mask h n).j).1.led=t.led/\(t.put (pth t.mask h n).j).1.plain=t.plain/\(t.put (pth t.mask h n).j).1.moves=t.moves:=by
 have hp:(t.put (pth t.mask h n).j).1.place.toList=Ww t.place.toList (below t.place (pth t.mask h n).j) (pth t.mask h n).j:=toList_insertAt ..;have hq:(insertAt es (t.put (pth t.mask h n).j).2 (h,v)).toList=Ww es.toList (below t.place (pth t.mask h n).j) (h,v):=toList_insertAt ..;have hd:(t.put (pth t.mask h n).j).1.dummies=#[]:=by show(if has t.dummies _ then _ else t.dummies)=_;rw[T.dm];rfl
 obtain⟨r,o⟩:=Jf (j:=(pth t.mask h n).j) T.rise;have l:t.place.toList.length=es.toList.length:=by rw[aF,T.sz]
 refine⟨⟨T.km,hd,?_,λj D=>?_,?_,λq d=>?_⟩,rfl,rfl,rfl,rfl⟩
 .rw[hp];unfold Ww Vb;rw[List.pairwise_append];refine⟨T.rise.sublist (List.take_sublist _ _),?_,λa g b i=>?_⟩
  .rw[bB];refine⟨λa g=>?_,T.rise.sublist (List.drop_sublist _ _)⟩;obtain⟨k,c⟩:=bi g;rw[fJ,aK]at c;have h1:=o _ (bR _ k) a c;have h2:a≠(pth t.mask h n).j:=λz=>p (z ▸ List.mem_of_mem_drop g);show(pth t.mask h n).j<a
   lia
  .obtain⟨k,c⟩:=bi g;rw[List.getElem?_take]at c;split at c
   .rename_i f;rw[aK]at c;have h1:=r k f a c;rcases ae.mp i with rfl|i;·exact h1
    .obtain⟨k2,e⟩:=bi i;rw[fJ,aK]at e;exact aI h1 (o _ (bR _ k2) b e)
   .cases c
 .rw[hp]at D;rcases YA.mp D with rfl|D
  .have:=qd1 (m:=t.mask) (h:=h) n;show(pth t.mask h n).j<=t.mask
   lia
  .exact T.le j D
 .rw[<-aF,hp,hq];unfold Ww;simp only[aj,ah,bj,e9,l]
 .rw[hp,hq]at d;have up:∀x,x∈t.place.toList->x∈(t.put (pth t.mask h n).j).1.place.toList:=λx hx=>by rw[hp];exact YA.mpr (.inr hx)
  rcases YB l d with rfl|d;·exact⟨n,rfl,λk c=>up _ (hl k c)⟩
  .exact(T.rch q d).mono up
def Ze(ow:Array (Option Nat))(x:Nat):Prop:=∃y,ow[x]?=iO (iO y)
variable{ow:Array (Option Nat)}{x:Nat}
theorem yB(hx:x<ow.size):((ow.getD x (iO 0)).isNone=iT↔ow[x]?=iO iQ)/\((ow.getD x (iO 0)).isNone=iS↔Ze ow x):=by
 have e:ow[x]?=iO ow[x]:=by simp[hx]
 have i:ow.getD x (iO 0)=ow[x]:=by simp[c7,hx]
 unfold Ze;rw[e,i];cases ow[x] <;> simp
theorem qar{O:Nat}(hs:ow.size=m+1)(u:ow[(lp m h O).1]?=iO iQ):∀(f c n:Nat),pth m h n=atL m (lp m h c).1 (lp m h c).2->(∀k,k<n->Ze ow (pth m h k).j)->c<=O->O<c+f ->∃n1,layClean.free m ow f (lp m h c).1 (lp m h c).2=iO (pth m h n1).j/\ow[(pth m h n1).j]?=iO iQ/\∀k,k<n1->Ze ow (pth m h k).j
 | 0,c,n,_,_,h1,h2=>by lia
 | f+1,c,n,e,ho,h1,h2=>by
  unfold layClean.free;have hi:=qkD m h c;have hr:=qan m (lp m h c).1;have S:∀k,k<=runEnd m (lp m h c).1 - (lp m h c).1->(lp m h c).1+k<ow.size:=λk a=>by rw[hs];unfold runEnd at a;split at a <;> lia
  cases q:(aH (runEnd m (lp m h c).1+1 - (lp m h c).1)).find? λk=>(ow.getD ((lp m h c).1+k) (iO 0)).isNone with
  | some k=>
   obtain⟨l,i,g⟩:=List.find?_range_eq_some.mp q;have a:k<=runEnd m (lp m h c).1 - (lp m h c).1:=by
    have:=aN.mp i
    lia
   have b:=Qn e k a;refine⟨n+k,by rw[b],?_,λk' p=>?_⟩;·rw[b];exact(yB (S k a)).1.mp l
   .by_cases z:k' < n;·exact ho k' z
    .obtain⟨d,rfl⟩:∃d,k'=n+d:=⟨k' - n,by lia⟩
     rw[Qn e d (by lia)];have:=g d (by lia);exact(yB (S d (by lia))).2.mp (by simpa using this)
  | none=>
   have all:∀d,d<=runEnd m (lp m h c).1 - (lp m h c).1->Ze ow ((lp m h c).1+d):=λd hd=>by have:=bK.mp q d (aN.mpr (by lia));exact(yB (S d hd)).2.mp (by cases z:(ow.getD ((lp m h c).1+d) (iO 0)).isNone with|true=>exact absurd z this|false=>rfl)
   have o:c≠O:=λz=>by subst z;obtain⟨y,D⟩:=all 0 (aU _);rw[Nat.add_zero,u]at D;cases D
   have s:=Qn e _ (ap _);have r:pth m h (n+(runEnd m (lp m h c).1 - (lp m h c).1)+1)=atL m (lp m h (c+1)).1 (lp m h (c+1)).2:=by show adv m (pth m h (n+(runEnd m (lp m h c).1 - (lp m h c).1)))=_;rw[s];unfold adv;rw[Ab (by show ¬runEnd m (lp m h c).1 - (lp m h c).1 - (runEnd m (lp m h c).1 - (lp m h c).1) > 0;lia)];rfl
   exact qar hs u f (c+1) _ r (λk a=>by
    by_cases z:k<n;·exact ho k z
    .obtain⟨d,rfl⟩:∃d,k=n+d:=⟨k - n,by lia⟩
     rw[Qn e d (by lia)];exact all d (by lia)) (by lia) (by lia)
structure Ow(m:Nat)(ow:Array (Option Nat))(hs:List Int)(k:Nat):Prop where
 size:ow.size=m+1
 rch:∀(j k':Nat),ow[j]?=iO (iO k')->k' < k/\∃h,hs[k']?=iO h/\Rch m (Ze ow) j h
 all:∀k',k' < k->∃j:Nat,ow[j]?=iO (iO k')
 one:∀(j j' k':Nat),ow[j]?=iO (iO k')->ow[j']?=iO (iO k')->j=j'
 few:∃l:List Nat,l.length=k/\∀j,Ze ow j->j∈l
variable{hs:List Int}
set_option tactic.hygienic true in
theorem qcZ{k:Nat}(p:Mk m)(O:Ow m ow hs k)(v:k<=m)(A:hs[k]?=iO h):∃j,layClean.free m ow (turns m) (bits h % (m+1)) (bits h)=iO j/\Ow m (ow.setIfInBounds j (iO k)) hs (k+1):=by
 obtain⟨l,hl,d⟩:=O.few;have un:∃j,j<m+1/\¬Ze ow j:=by
  by_cases hn:∃j,j<m+1/\¬Ze ow j;·exact hn
  .exfalso;have:=Uf (aH (m+1)) l fh λj D=>by
    by_cases z:Ze ow j;·exact d j z
    .exact absurd ⟨j,aN.mp D,z⟩ hn
   rw[bo]at this
   lia
 obtain⟨g,N,f⟩:=un;obtain⟨c,C,e⟩:=qd0 p (qkD m h 13) N;have D:(lp m h (13+c)).1=g:=by rw[qap,e]
 have u:ow[(lp m h (13+c)).1]?=iO none:=by
  rw[D];have t:g<ow.size:=by rw[O.size];exact N
  cases q:(ow.getD g (iO 0)).isNone with
  |true=>exact(yB t).1.mp q
  |false=>exact absurd ((yB t).2.mp q) f
 obtain⟨n,f1,f2,B⟩:=qar O.size u (turns m) 0 0 rfl (λk v=>by lia) (by lia) (by unfold turns;lia);have w:(pth m h n).j<ow.size:=(aX.mp f2).1;have get:∀x,(ow.setIfInBounds (pth m h n).j (iO k))[x]?=if (pth m h n).j=x then iO (iO k)else ow[x]?:=λx=>by
  rw[Array.getElem?_setIfInBounds];split;·rfl
  .rfl
 have up:∀x,Ze ow x->Ze (ow.setIfInBounds (pth m h n).j (iO k)) x:=λx hx=>by
  unfold Ze;rw[get];split;·exact⟨k,rfl⟩
  .exact hx
 refine⟨(pth m h n).j,f1,⟨by rw[Array.size_setIfInBounds,O.size],λj k' D=>?_,λk' s=>?_,λj j' k' a b=>?_,(pth m h n).j::l,by rw[ah,hl],λj D=>?_⟩⟩
 .rw[get]at D;split at D;·rename_i z;cases D;exact⟨f6 _,h,A,n,z,λi hi=>up _ (B i hi)⟩
  .obtain⟨a,h',b,r⟩:=O.rch j k' D;exact⟨bU a,h',b,r.mono up⟩
 .by_cases z:k'=k;·subst z;exact⟨(pth m h n).j,by rw[get,Aa rfl]⟩
  .obtain⟨j,D⟩:=O.all k' (by lia);refine⟨j,?_⟩;rw[get];split;·rename_i z2;rw[<-z2,f2]at D;cases D
   .exact D
 .rw[get]at a b;split at a
  .rename_i z1;cases a;split at b;·rename_i z2;exact z1.symm.trans z2
   .exact absurd (O.rch j' k b).1 (bF _)
  .split at b;·cases b;exact absurd (O.rch j k a).1 (bF _)
   .exact O.one j j' k' a b
 .by_cases z:(pth m h n).j=j;·exact ae.mpr (.inl z.symm)
  .refine ac _ (d j ?_);obtain⟨y,o⟩:=D;rw[get,Ab z]at o;exact⟨y,o⟩
theorem qas(c:Mk m)(hl:hs.length<=m+1):∀(rest:List Int)(ow:Array (Option Nat))(k:Nat),hs.drop k=rest->k+rest.length=hs.length->Ow m ow hs k ->∃o,rest.foldl (λ(acc:Option (Array (Option Nat)×Nat)) h=>do
   let (owner,k) <-acc
   let j <-layClean.free m owner (turns m) (bits h % (m+1)) (bits h)
   pure (owner.setIfInBounds j (iO k),k+1)) (iO (ow,k))=iO (o,hs.length)/\Ow m o hs hs.length
 |[],ow,k,_,e,O=>by
  have:k=hs.length:=by simpa using e
  subst this;exact⟨ow,rfl,O⟩
 | h::rest,ow,k,d,e,O=>by
  have g:k<hs.length:=by rw[ah]at e;lia
  have a:hs[k]?=iO h:=by
   have:(hs.drop k)[0]?=iO h:=by rw[d];rfl
   rw[fJ]at this;simpa using this
  obtain⟨j,f,b⟩:=qcZ c O (by lia) a;rw[d7];show ∃o,rest.foldl _ (do let j <-layClean.free m ow (turns m) (bits h % (m+1)) (bits h);pure (ow.setIfInBounds j (iO k),k+1))=_/\_;rw[f];exact qas c hl rest _ (k+1) (by rw[<-List.drop_drop,d];rfl) (by rw[ah]at e;lia) b
theorem qat(c:Mk m){hs:Array Int}(hl:hs.size<=m+1):∃ow,layClean m hs=iO ow/\Ow m ow hs.toList hs.size:=by
 have a:Ow m (ib (m+1) iQ) hs.toList 0:=by
  have no:∀(j y:Nat),(ib (m+1) (iQ:Option Nat))[j]?=iO (iO y)->False:=λj y h=>by rw[Array.getElem?_replicate]at h;split at h <;> cases h
  exact⟨by simp,λj k' h=>(no _ _ h).elim,λk' h=>by lia,λj j' k' h=>(no _ _ h).elim,[],rfl,λj ⟨y,h⟩=>(no _ _ h).elim⟩
 obtain⟨ow,e,O⟩:=qas c (by rw[aF];exact hl) hs.toList (ib (m+1) iQ) 0 rfl (by simp) a;rw[aF]at e O;refine⟨ow,?_,O⟩;unfold layClean;rw[<-Array.foldl_toList];rw[e];rfl
theorem qd2{α:Type}{g:Nat->Option α}:∀{L:List (Nat×Nat)},(∀p∈L,∃e,g p.2=iO e)->((L.map (·.2)).filterMap g).length=L.length/\∀q∈(L.map (·.1)).zip ((L.map (·.2)).filterMap g),∃p∈L,q.1=p.1/\g p.2=iO q.2
 |[],_=>⟨rfl,λq hq=>by simp at hq⟩
 |p::L,h=>by
  obtain⟨e,i⟩:=h p ai;obtain⟨i1,i2⟩:=qd2 (L:=L) λp hp=>h p (ac _ hp);rw[aE,aE,List.filterMap_cons_some i];refine⟨by rw[ah,ah,i1],λq hq=>?_⟩;rw[dD]at hq;rcases ae.mp hq with rfl|hq;·exact⟨p,ai,rfl,i⟩
  .obtain⟨a,hp,r⟩:=i2 q hq;exact⟨a,ac _ hp,r⟩
theorem qfR{f v:Nat}{ld pl:Bool}(A:Mk m)(hl:es.size<=m):∃t' o,laid m f v ld pl (es.map (·.1))=iO (t',o)/\(o.filterMap (es[·]?)).toList.Perm es.toList/\TabOk t' (o.filterMap (es[·]?)).toList/\t'.mask=m/\t'.led=ld/\t'.plain=pl:=by
 obtain⟨ow,e,O⟩:=qat A (hs:=es.map (·.1)) (by rw[Array.size_map];lia);rw[Array.size_map]at O;generalize w:((aH (m+1)).filterMap λj=>(ow.getD j iQ).map (j,·))=L;have d:laid m f v ld pl (es.map (·.1))=iO ({ mask:=m,place:=(L.map (·.1)).toArray,dummies:=#[],finger:=f,led:=ld,moves:=v,plain:=pl },(L.map (·.2)).toArray):=by unfold laid;rw[e,<-w];rfl
 have mem:∀j k,(j,k)∈L↔ow[j]?=iO (iO k):=λj k=>by
  rw[<-w,d8];constructor
  .rintro⟨a,u,h⟩;have t:a<ow.size:=by rw[O.size];exact aN.mp u
   have e1:ow.getD a iQ=ow[a]:=by simp[c7,t]
   rw[e1]at h;cases q:ow[a]with
   |none=>rw[q]at h;cases h
   |some y=>rw[q]at h;cases h;simp[t,q]
  .intro h;have t:j<ow.size:=(aX.mp h).1;have e1:ow.getD j iQ=iO k:=by have:=(aX.mp h).2;simp[c7,t,this]
   refine⟨j,aN.mpr (by rw[<-O.size];exact t),?_⟩;rw[e1];rfl
 have rise:L.Pairwise λa b=>a.1<b.1:=by rw[<-w];refine List.Pairwise.filterMap _ (λa M s b n K l=>?_) List.pairwise_lt_range;obtain⟨y,_,rfl⟩:=aO.mp n;obtain⟨J,_,rfl⟩:=aO.mp l;exact s
 have nd:(L.map (·.2)).Nodup:=by
  unfold List.Nodup;rw[ck];refine rise.imp_of_mem λ{a b} u n H z=>?_;have h1:=(mem a.1 a.2).mp u;have h2:=(mem b.1 b.2).mp n;rw[<-z]at h2;have:=O.one _ _ _ h1 h2
  lia
 have inr:∀k,k∈L.map (·.2)↔k∈aH es.size:=λk=>by
  rw[aN,aq];constructor;·rintro⟨p,hp,rfl⟩;exact(O.rch _ _ ((mem p.1 p.2).mp hp)).1
  .intro E;obtain⟨j,D⟩:=O.all k E;exact⟨(j,k),(mem j k).mpr D,rfl⟩
 have perm:(L.map (·.2)).Perm (aH es.size):=(List.perm_ext_iff_of_nodup nd fh).mpr inr;have get:∀p∈L,∃e,es[p.2]?=iO e:=λp hp=>by have:=aN.mp ((inr p.2).mp (aq.mpr ⟨p,hp,rfl⟩));exact⟨es[p.2],by simp[this]⟩
 obtain⟨z1,z2⟩:=qd2 (g:=λi=>es[i]?) get;have c:((L.map (·.2)).toArray.filterMap (es[·]?)).toList=(L.map (·.2)).filterMap λi=>es[i]?:=by rw[Array.toList_filterMap]
 refine⟨_,_,d,?_,⟨A,rfl,?_,λj D=>?_,?_,λq hq=>?_⟩,rfl,rfl,rfl⟩;·rw[c];exact(perm.filterMap _).trans (by rw[filterMap_getElem?_range])
 .show Vb (L.map (·.1)).toArray.toList;unfold Vb;rw[List.toList_toArray,ck];exact rise
 .obtain⟨p,hp,rfl⟩:=aq.mp (show j∈L.map (·.1)from D);have:=(aX.mp ((mem p.1 p.2).mp hp)).1;rw[O.size]at this;show p.1<=m
  lia
 .rw[c,z1];show(L.map (·.1)).toArray.size=_;rw[au,ao]
 .rw[c]at hq;obtain⟨p,hp,e1,I⟩:=z2 q hq;obtain⟨a,h,b,r⟩:=O.rch _ _ ((mem p.1 p.2).mp hp);have G:h=q.2.1:=by rw[aK,Array.getElem?_map,I]at b;exact(aL.inj b).symm
  rw[e1,<-G];refine r.mono λx B=>?_;obtain⟨y,C⟩:=B;exact aq.mpr ⟨(x,y),(mem x y).mpr C,rfl⟩
abbrev tK(prog:iZ)(w:i3)(k:List Int):Int:=tupleKeyHash (lg prog w) k
def ElT(P:List Int->Z7->Prop)(prog:iZ)(w:i3)(h:Z5)(e:Int×iR)(k:List Int):Prop:=∃b,e=(tK prog w k,.ref b)/\j7 (lg prog w) h k b/\P k b
structure SetT(P:List Int->Z7->Prop)(prog:iZ)(w:i3)(h:Z5)(es:Array (Int×iR))(t:k6)(kl:List (List Int)):Prop where
 tab:TabOk t es.toList
 few:es.size<=t.mask
 len:kl.length=es.size
 el:∀(i:Nat)(e:Int×iR)(k:List Int),es[i]?=iO e->kl[i]?=iO k->ElT P prog w h e k
variable{P:List Int->Z7->Prop}{prog:iZ}{w:i3}{A:j4}{E:iR->iV->Prop}{s:iV}{kl:List (List Int)}{a:Z7}{Q:Bool->iV->Prop}
section
theorem SetT.fits{h:Z5}(S:SetT P prog w h es t kl):t.fits es.size=true:=by have h1:=S.tab.sz;have h2:=S.few;rw[aF]at h1;unfold iu SetTable.fill;rw[S.tab.dm];simp[h1,h2]
theorem SetT.stays{h:Z5}(S:SetT P prog w h es t kl):t.gaveWay=false:=by unfold SetTable.gaveWay;rcases S.tab.km with e|e|e <;> rw[e] <;> rfl
theorem YC{k:List Int}(d:j7 (lg prog w) s.heap k a)(h:Q iS s):iW (Z6 prog w) A (ofAClassStatement 8 (.ref a)) Q E s:=by
 have T:=d.typeIs;obtain⟨o,items,n,l,_,hd,hi⟩:=d;unfold ofAClassStatement;refine iP (lI T ?_);dsimp only;rw[Aa (by decide)];refine iP (iU ?_);simp only[iw,bp,if_false];refine iP (j5 l hd ?_);dsimp only;refine iP ?_;rw[<-Array.forIn_toList];refine wpAny_forIn_list _ (λrest r s'=>r.1=iQ/\s'=s/\∀v∈rest,∃x t,v=cQ x t) _ ?_ ?_ _ _ ⟨rfl,rfl,?_⟩;·rintro v rest r s' ⟨hr,rfl,c⟩;obtain⟨x,t,rfl⟩:=c v ai;refine iP (l0 (a:=iS) (by unfold ofAClassStatement;rfl) ?_);simp only[bp,if_false];exact iU ⟨rfl,rfl,λu f=>c u (ac _ f)⟩
 .rintro⟨r1,r2⟩ s' ⟨hr,rfl,_⟩;simp only at hr;subst hr;exact iU h
 .intro v b;have:∀{ks:List Int}{vs:List iR},ItemsAre (lg prog w) ks vs->∀v∈vs,∃x t,v=cQ x t:=by
   intro ks vs hi
   induction hi with
   |nil=>intro v b;cases b
   |cons h1 _ j=>
    intro v b;rcases ae.mp b with rfl|b
    .obtain⟨t,e⟩:=fK h1;exact⟨_,t,e⟩
    .exact j v b
  exact this hi v b
theorem qh8{k:List Int}(d:j7 (lg prog w) s.heap k a){l:List iR}(hl:∀v∈l,∃b k',v=.ref b/\j7 (lg prog w) s.heap k' b)(h:Q iS s):iW (Z6 prog w) A (searchCouldBeSeen (.ref a) l) Q E s:=by
 unfold searchCouldBeSeen;refine iP ?_;refine wpAny_forIn_list _ (λrest r s'=>r.1=iQ/\s'=s/\∀v∈rest,∃b k',v=.ref b/\j7 (lg prog w) s.heap k' b) _ ?_ ?_ _ _ ⟨rfl,rfl,hl⟩
 .rintro v rest r s' ⟨hr,rfl,c⟩;obtain⟨b,k',rfl,e⟩:=c v ai;have nx:∀u∈rest,∃b k',u=.ref b/\j7 (lg prog w) s'.heap k' b:=λu f=>c u (ac _ f);dsimp only;split;·exact iU ⟨rfl,rfl,nx⟩
  .refine iP (wpAny_eqIsQuiet_tuple d ?_);simp only[iw,bp,if_false];refine iP (wpAny_eqIsQuiet_tuple e ?_);simp only[iw,bp,if_false];refine iP (YC d ?_);simp only[bp,if_false];refine iP (YC e ?_);simp only[bp,if_false];exact iU ⟨rfl,rfl,nx⟩
 .rintro⟨r1,r2⟩ s' ⟨hr,rfl,_⟩;simp only at hr;subst hr;exact iU h
end
variable{ep:Nat}
section
theorem qfS{k:List Int}{Q:SetFound->iV->Prop}{G:Sem SetFound}{hs:Int}{c:Bool}(hx:j7 (lg prog w) s.heap k x)(S:SetT P prog w s.heap es t kl)(h:iW (Z6 prog w) A G Q E s):iW (Z6 prog w) A (if c=iT then searchCouldBeSeen (.ref x) ((es.filter (·.1 == hs)).toList.map (·.2)) >>= λb=>if b=iT then(unsupported "set:the-search-would-show-the-table":Sem PUnit) >>= λ_=>G else G else G) Q E s:=by
 split
 .refine iP (qh8 hx (λv f=>?_) ?_)
  .obtain⟨g,a,rfl⟩:=aq.mp f;have a:=Array.mem_filter.mp (Array.mem_toList_iff.mp a);obtain⟨j,D⟩:=Array.getElem?_of_mem a.1;have d:j<kl.length:=by rw[S.len];exact(aX.mp D).1
   obtain⟨i,q,e,_⟩:=S.el j g kl[j] D (by simp[d]);exact⟨i,kl[j],by rw[q],e⟩
  .simp only[bp,if_false];exact h
 .exact h
set_option tactic.hygienic true in
theorem Vw{a:Nat}{k:List Int}{Q:SetFound->iV->Prop}(M:A.units<k4)(C:s.heap.get? a=iO (jC es ep t))(S:SetT P prog w s.heap es t kl)(hx:j7 (lg prog w) s.heap k x)(h1:k∈kl->Q (.there iQ) s)(h2:k∉kl->∀n,(∀i,i<n->(pth t.mask (tK prog w k) i).j∈t.place.toList)->(pth t.mask (tK prog w k) n).j∉t.place.toList->Q (.free (pth t.mask (tK prog w k) n).j iS) s)(e:Nat)(T:e<10 * turns t.mask)(g:(pth t.mask (tK prog w k) e).j∉t.place.toList):∀(f n:Nat)(st:Option Probe),st.getD (t.probeStart (tK prog w k))=pth t.mask (tK prog w k) n->n<=e->e<n+f->(∀i,i<n->(pth t.mask (tK prog w k) i).j∈t.place.toList)->(∀i,i<n->∀j:Nat,t.place[j]?=iO (pth t.mask (tK prog w k) i).j->kl[j]?≠iO k) ->
  iW (Z6 prog w) A (setSearchFrom a (.ref x) (tK prog w k) iT f st) Q E s
 | 0,n,st,_,c1,c2,_,_=>by lia
 | f+1,n,st,hst,c1,c2,live,seen=>by
  have I:∀{j:Nat}{p:Nat},t.place[j]?=iO p->∃b k',es[j]?=iO (tK prog w k',.ref b)/\kl[j]?=iO k'/\j7 (lg prog w) s.heap k' b:=λ{j p} hp=>by
   have D:j<t.place.size:=(aX.mp hp).1;have B:=S.tab.sz;rw[aF]at B;have l:j<es.size:=by lia
   have q:j<kl.length:=by rw[S.len];exact l
   obtain⟨b,e1,d,_⟩:=S.el j es[j] kl[j] (by simp[l]) (by simp[q]);exact⟨b,kl[j],by rw[<-e1];simp[l],by simp[q],d⟩
  obtain⟨n1,g1,Z,Y,U⟩:=qh7 (hashAt:=λi=>(es[i]?.map (·.1)).getD 0) (h:=tK prog w k) S.tab.dm S.tab.rise (10 * turns t.mask) n e c1 (by lia) g;have c:∀i,i<n1->(pth t.mask (tK prog w k) i).j∈t.place.toList/\∀j:Nat,t.place[j]?=iO (pth t.mask (tK prog w k) i).j->kl[j]?≠iO k:=λi hi=>by
   by_cases z:i<n;·exact⟨live i z,seen i z⟩
   .obtain⟨v,L⟩:=Y i (by lia) hi;refine⟨v,λj D z2=>L j D ?_⟩;obtain⟨b,k',e1,d,_⟩:=I D;rw[z2]at d;cases d;rw[e1];rfl
  unfold setSearchFrom;refine iP (i8 C rfl S.fits ?_);dsimp only;rw[S.stays,hst];simp only[bp,if_false];rcases U with⟨e1,d⟩|⟨i,e1,d,u⟩
  .have e1:t.probe (λi=>(es[i]?.map (·.1)).getD 0) (tK prog w k) (pth t.mask (tK prog w k) n)=iO (.empty (pth t.mask (tK prog w k) n1).j iQ):=e1;split
   .rename_i met m;obtain rfl:met=.empty (pth t.mask (tK prog w k) n1).j none:=aL.inj (m.symm.trans e1);dsimp only;refine iU (h2 (λz=>?_) n1 (λi hi=>(c i hi).1) d);obtain⟨i,hi⟩:=bi z;have r:i<es.size:=by rw[<-S.len];exact(aD.mp hi).1
    have B:=S.tab.sz;rw[aF]at B;have o:i<t.place.size:=by lia
    obtain⟨b,v,L,_⟩:=S.el i es[i] k (by simp[r]) hi;obtain⟨n2,r1,r2⟩:=S.tab.rch (t.place[i],es[i]) (aV (i:=i) (by simp[bI,r,o]));rw[v]at r1 r2;have r1:(pth t.mask (tK prog w k) n2).j=t.place[i]:=r1;have G:n2<n1:=by
     by_cases y:n2<n1;·exact y
     .exfalso;by_cases N:n2=n1;·subst N;exact d (by rw[r1];exact Array.getElem_mem_toList o)
      .exact d (r2 n1 (by lia))
    exact(c n2 G).2 i (by rw[r1];simp[o]) hi
   .rename_i m;exact absurd e1 (m _)
  .have u:t.probe (λi=>(es[i]?.map (·.1)).getD 0) (tK prog w k) (pth t.mask (tK prog w k) n)=iO (.candidate (pth t.mask (tK prog w k) n1).j i (pth t.mask (tK prog w k) (n1+1))):=u;obtain⟨b,k',K,J,O⟩:=I e1;have R:t.sameMemory t.moves t.mask=iO true:=by unfold SetTable.sameMemory;simp
   split
   .rename_i met m;obtain rfl:met=.candidate (pth t.mask (tK prog w k) n1).j i (pth t.mask (tK prog w k) (n1+1)):=aL.inj (m.symm.trans u);dsimp only;refine qfS hx S ?_;rw[K];dsimp only;refine iP (j6 (wpAny_eqBool_tuple M O hx ?_));refine iP (i8 C rfl S.fits ?_);dsimp only;by_cases H:k'=k;·subst H;simp only[decide_true,Bool.and_self,if_true];exact iU (h1 (aV J))
    .simp only[H,decide_false,Bool.and_false,bp,if_false,R,if_true,vP S.tab.rise e1,K];refine iP (wpAny_isSame_ref_self (iP (iU ?_)));simp only[if_true];refine Vw M C S hx h1 h2 e T g f (n1+1) _ rfl ?_ (by lia) (λi hi=>?_) λi hi j D=>?_
     .have:n1≠e:=λz=>g (by rw[<-z];exact aV (by rw[aK];exact e1))
      lia
     .by_cases z:i<n1;·exact(c i z).1
      .have:i=n1:=by lia
       subst this;exact aV (by rw[aK];exact e1)
     .by_cases z:i<n1;·exact(c i z).2 j D
      .have:i=n1:=by lia
       subst this;have s1:=vP S.tab.rise e1;rw[vP S.tab.rise D]at s1;cases s1;rw[J];intro z;cases z;exact H rfl
   .rename_i m;exact absurd u (m _)
end
theorem YD{f:α->β}{a b:List β}(h:a.Perm b):∀l:List α,b=l.map f->∃l':List α,l'.Perm l/\l'.map f=a:=by
 induction h with
 |nil=>
  intro l e;cases l with
  |nil=>exact⟨[],.nil,rfl⟩
  |cons=>cases e
 |cons x _ i=>
  intro l e;cases l with
  |nil=>cases e
  |cons y l=>rw[aE]at e;injection e with e1 e2;obtain⟨l',h1,h2⟩:=i l e2;exact⟨y::l',h1.cons y,by rw[aE,h2,e1]⟩
 | swap x y t=>
  intro l e;cases l with
  |nil=>cases e
  |cons p l=>
   cases l with
   |nil=>rw[aE]at e;injection e with e1 e2;cases e2
   |cons q l=>rw[aE,aE]at e;injection e with e1 e2;injection e2 with e2 e3;exact⟨q::p::l,ij ..,by rw[aE,aE,<-e1,<-e2,<-e3]⟩
 |trans _ _ j g=>intro l e;obtain⟨d,h1,h2⟩:=g l e;obtain⟨c,m,k⟩:=j d h2.symm;exact⟨c,m.trans h1,k⟩
def SetTT(P:List Int->Z7->Prop)(prog:iZ)(w:i3)(h:Z5)(a:Z7)(ks:List (List Int)):Prop:=∃es ep t kl,h.get? a=iO (jC es ep t)/\SetT P prog w h es t kl/\kl.Perm ks/\ks.Nodup/\(t.mask=7->es.size<=4)/\(t.mask=31->es.size<=18)/\t.led=!(w.params.followText "set-order")
variable{h':Z5}
section
theorem Jq{h:Z5}{b:Z7}{k:List Int}(f:j7 (lg prog w) h k b)(l:h.get? a=iO (jC es ep t))(A:bx a h h'):j7 (lg prog w) h' k b:=by obtain⟨o,items,n,e,c,d,i⟩:=f;refine⟨o,items,n,(A.2 b λz=>?_).trans e,c,d,i⟩;subst z;rw[e]at l;cases l;cases d
theorem qc0{k:List Int}(f:j7 (lg prog w) s.heap k a)(h:∀b,Q b s):iW (Z6 prog w) A (hashByValue 8 (.ref a)) Q E s:=by
 have T:=f.typeIs;obtain⟨o,items,n,l,_,hd,hi⟩:=f;unfold hashByValue;refine iP (mz T F.slot_tuple_hash.lookup ?_);show iW _ _ (mZ (.ref a) >>= _) _ _ s;refine iP (j5 l hd ?_);refine iP ?_;show iW _ _ (forIn items _ _) _ _ s;rw[<-Array.forIn_toList];have key:∀{ks:List Int}{vs:List iR},ItemsAre (lg prog w) ks vs->∀v∈vs,∃x t,v=cQ x t:=by
  intro ks vs hi
  induction hi with
  |nil=>intro v d;cases d
  |cons h1 _ j=>
   intro v d;rcases ae.mp d with rfl|d
   .obtain⟨t,e⟩:=fK h1;exact⟨_,t,e⟩
   .exact j v d
 refine wpAny_forIn_list _ (λrest r s'=>r.1=iQ/\s'=s/\∀v∈rest,∃x t,v=cQ x t) _ ?_ ?_ _ _ ⟨rfl,rfl,key hi⟩;·rintro v rest r s' ⟨hr,rfl,c⟩;obtain⟨x,t,rfl⟩:=c v ai;refine iP (l0 (a:=iT) (by unfold hashByValue;rfl) ?_);exact iU ⟨rfl,rfl,λu g=>c u (ac _ g)⟩
 .rintro⟨r1,r2⟩ s' ⟨hr,rfl,_⟩;simp only at hr;subst hr;exact iU (h iT)
theorem SetT.put{h:Z5}{k:List Int}(S:SetT P prog w h es t kl)(l:h.get? a=iO (jC es ep t))(A:bx a h h')(hx:j7 (lg prog w) h k x)(o:P k x)(hl:∀i,i<n->(pth t.mask (tK prog w k) i).j∈t.place.toList)(g:(pth t.mask (tK prog w k) n).j∉t.place.toList)(f:es.size<t.mask)(pl:Bool):∃c,SetT P prog w h' (insertAt es (t.put (pth t.mask (tK prog w k) n).j).2 (tK prog w k,.ref x)) { (t.put (pth t.mask (tK prog w k) n).j).1 with plain:=pl } c/\c.Perm (kl++[k]):=by
 obtain⟨T,m1,_⟩:=qaq (v:=.ref x) S.tab hl g;have hq:(insertAt es (t.put (pth t.mask (tK prog w k) n).j).2 (tK prog w k,.ref x)).toList=Ww es.toList (below t.place (pth t.mask (tK prog w k) n).j) (tK prog w k,.ref x):=toList_insertAt ..;have z:(insertAt es (t.put (pth t.mask (tK prog w k) n).j).2 (tK prog w k,.ref x)).size=es.size+1:=by rw[<-aF,hq];unfold Ww;simp only[aj,ah,bj,e9,aF];omega
 have d:kl.length=es.toList.length:=by rw[aF];exact S.len
 refine⟨Ww kl (below t.place (pth t.mask (tK prog w k) n).j) k,⟨⟨T.km,T.dm,T.rise,T.le,T.sz,T.rch⟩,?_,?_,λi e k' h1 h2=>?_⟩,?_⟩;·rw[z];exact f
 .rw[z,<-S.len];unfold Ww;simp only[aj,ah,bj,e9];omega
 .rw[<-aK,hq]at h1;have m:(e,k')∈(Ww es.toList (below t.place (pth t.mask (tK prog w k) n).j) (tK prog w k,aY x)).zip (Ww kl (below t.place (pth t.mask (tK prog w k) n).j) k):=aV (i:=i) (by rw[bI];exact⟨h1,h2⟩);rcases YB d.symm m with e1|e1
  .cases e1;exact⟨x,rfl,Jq hx l A,o⟩
  .obtain⟨j,D⟩:=bi e1;obtain⟨u,s⟩:=bI.mp D;obtain⟨b,r,q,p⟩:=S.el j e k' (by rw[<-aK];exact u) s;exact⟨b,r,Jq q l A,p⟩
 .unfold Ww;refine List.perm_middle.trans ?_;rw[cO];exact(List.perm_append_singleton k kl).symm
set_option tactic.hygienic true in
theorem qc1{a:Nat}{ks:List (List Int)}{k:List Int}{Q:Bool->iV->Prop}(hu:A.units<k4)(hS:SetTT P prog w s.heap a ks)(hx:j7 (lg prog w) s.heap k x)(hP:P k x)(hb:ks.length<=36)(h:∀h' b,bx a s.heap h'->SetTT P prog w h' a (wL ks k)->Q b { s with heap:=h' }):iW (Z6 prog w) A (mQ a (.ref x) (tK prog w k)) Q E s:=by
 obtain⟨es,ep,t,kl,G,S,K,nd,few⟩:=hS;have hsz:es.size=ks.length:=by rw[<-S.len,K.length_eq]
 unfold mQ setAddHashedIn;refine j6 (iP (i8 G rfl S.fits ?_));dsimp only;rw[Ab (by show ¬(iS&&_&&_)=iT;simp)];have Z:t.place.toList.length<=t.mask:=by
  have:=S.tab.sz;have h2:=S.few;rw[aF]at this ⊢
  lia
 obtain⟨e,he,F⟩:=qcY S.tab.km (tK prog w k) S.tab.rise Z;have h7:t.mask=7\/t.mask=31\/t.mask=127:=S.tab.km;have hm:es.size<t.mask:=by
  rcases h7 with z|z|z;·have:=few.1 z;lia
  .have:=few.2.1 z;lia
  .lia
 refine iP (Vw (f:=100000) (n:=0) (st:=iQ) hu G S hx (λC=>?_) (λC n hl hn=>?_) e he F rfl (aU _) ?_ (λi hi=>by lia) (λi hi=>by lia));·exact iU (by have:=h s.heap iS (Heap.SameBut.refl a s.heap) ⟨es,ep,t,kl,G,S,by rw[show wL ks k=ks from Aa (K.mem_iff.mp C)];exact K,by rw[show wL ks k=ks from Aa (K.mem_iff.mp C)];exact nd,few⟩;exact this)
 .have nk:k∉ks:=λz=>C (K.mem_iff.mpr z);have V:wL ks k=ks++[k]:=Ab nk;have O:(ks++[k]).Nodup:=bV.mpr ⟨nd,by simp,λy hy z hz=>by rw[aw.mp hz];exact λq=>nk (q ▸ hy)⟩;dsimp only;refine iP (i8 G rfl S.fits ?_);dsimp only;have g:∀pl:Bool,iW (Z6 prog w) A (do
    storeSet a (insertAt es (t.put (pth t.mask (tK prog w k) n).j).2 (tK prog w k,.ref x)) { (t.put (pth t.mask (tK prog w k) n).j).1 with plain:=pl }
    if (!false&&({ (t.put (pth t.mask (tK prog w k) n).j).1 with plain:=pl }:k6).tooFull)=iT then(do
      setRelay a (cF (es.size+1))
      pure iT)
     else pure iT) Q E s:=by
   intro pl;obtain⟨u,r,N⟩:=S.put G (bb s.heap a (d9 (insertAt es (t.put (pth t.mask (tK prog w k) n).j).2 (tK prog w k,.ref x)) { (t.put (pth t.mask (tK prog w k) n).j).1 with plain:=pl })) hx hP hl hn hm pl;have B:({ (t.put (pth t.mask (tK prog w k) n).j).1 with plain:=pl }:k6).mask=t.mask:=rfl;have H:({ (t.put (pth t.mask (tK prog w k) n).j).1 with plain:=pl }:k6).led=t.led:=rfl;have ps:u.Perm (ks++[k]):=N.trans (K.append (cC _));have c:(insertAt es (t.put (pth t.mask (tK prog w k) n).j).2 (tK prog w k,aY x)).size=es.size+1:=by rw[<-r.len,N.length_eq,aj,S.len];rfl
   generalize ({ (t.put (pth t.mask (tK prog w k) n).j).1 with plain:=pl }:k6)=t1 at r B H ⊢;generalize insertAt es (t.put (pth t.mask (tK prog w k) n).j).2 (tK prog w k,aY x)=es1 at r c ⊢;have sb:=bb s.heap a (d9 es1 t1);refine iP (l8 G rfl ?_ (by rw[c,i5];lia));have o:=Yk (es':=es1) (t':=t1) G;have p:t1.fill=es.size+1:=by unfold SetTable.fill;rw[r.tab.dm,r.tab.sz,aF,c];rfl
   split
   .rename_i l;have l:t1.tooFull=true:=by simpa using l
    have I:(es.size+1) * 5 ≥ t1.mask * 3:=by unfold g0 at l;rw[p]at l;simpa using l
    have D:∃M,Mk M/\es.size+1<=M/\M≠7/\(M=31->es.size+1<=18)/\(es.size=4\/es.size=18)/\∀q,laid M t1.finger (t1.movedTo M) t1.led t1.plain (es1.map (·.1))=iO q->t1.relaid (es1.map (·.1)) (cF (es.size+1))=iO q:=by
     rcases h7 with z|z|z
     .have:=few.1 z;rw[B,z]at I;have D:es.size=4:=by lia
      exact⟨31,.inr (.inl rfl),by lia,by decide,by lia,by first|exact .inl D|exact .inr D,λq R=>by rw[D];exact R⟩
     .have:=few.2.1 z;rw[B,z]at I;have D:es.size=18:=by lia
      exact⟨127,.inr (.inr rfl),by lia,by decide,by lia,by first|exact .inl D|exact .inr D,λq R=>by rw[D];exact R⟩
     .rw[B,z]at I
      lia
    obtain⟨M,m1,m2,m3,m4,m7,m6⟩:=D;obtain⟨J,od,R,X,l3,W,l5,_⟩:=qfR (m:=M) (f:=t1.finger) (v:=t1.movedTo M) (ld:=t1.led) (pl:=t1.plain) (es:=es1) m1 (by rw[c];exact m2);have T:=m6 _ R;obtain⟨L2,p1,p2⟩:=YD X (es1.toList.zip u) (by rw[List.map_fst_zip];rw[aF,r.len];exact ap _);have d:(od.filterMap (es1[·]?)).size=es1.size:=by rw[<-aF,X.length_eq,aF]
    have Y:L2.map (·.2) |>.Perm u:=by have:=p1.map (·.2);rw[f7 (by have:=r.len;have e:=aF (xs:=es1);lia)]at this;exact this
    refine iP ?_;unfold setRelay;refine iP (i8 o rfl r.fits ?_);dsimp only;rw[Ab (by rcases m7 with z|z <;> rw[z,i5] <;> decide),T];refine iP (l0 (a:=(od.filterMap (es1[·]?),J)) ?_ ?_)
    .show(if ((od.filterMap (es1[·]?)).size != es1.size)=iT then(unsupported "internal:set-table-lost-an-element":Sem PUnit) >>= λ_=>pure (od.filterMap (es1[·]?),J)else pure (od.filterMap (es1[·]?),J))=pure (od.filterMap (es1[·]?),J);rw[Ab (by simp[d])]
    .dsimp only;refine l8 o rfl ?_ (by rw[d,c,i5];lia);have L:=bb (s.heap.update a (d9 es1 t1)) a (d9 (od.filterMap (es1[·]?)) J);refine iU (h _ iT (sb.trans L) ⟨_,_,J,L2.map (·.2),Yk o,⟨l3,?_,?_,λi e' k' U a2=>?_⟩,?_,by rw[V];exact O,λz=>absurd (W.symm.trans z) m3,λz=>by rw[d,c];exact m4 (W.symm.trans z),l5.trans (H.trans few.2.2)⟩);·rw[d,W,c];exact m2
     .rw[ao,d,<-aF (xs:=es1),<-X.length_eq,<-p2,ao]
     .rw[<-aK,<-p2,aG]at U;rw[aG]at a2;cases q:L2[i]? with
      |none=>rw[q]at U;cases U
      |some y=>rw[q]at U a2;cases U;cases a2;obtain⟨j,hj⟩:=bi (p1.mem_iff.mp (aV q));obtain⟨b1,b2⟩:=bI.mp hj;obtain⟨b,c1,c2,c3⟩:=r.el j y.1 y.2 (by rw[<-aK];exact b1) b2;exact⟨b,c1,Jq c2 o L,c3⟩
     .rw[V];exact Y.trans ps
   .rename_i l;have l:t1.tooFull=false:=by simpa using l
    refine iU (h _ iT sb ⟨es1,_,t1,u,o,r,by rw[V];exact ps,by rw[V];exact O,λz=>?_,λz=>?_,H.trans few.2.2⟩)
    .unfold g0 at l;rw[p,z]at l;rw[c];have:¬(es.size+1) * 5 ≥ 7 * 3:=by simpa using l
     lia
    .unfold g0 at l;rw[p,z]at l;rw[c];have:¬(es.size+1) * 5 ≥ 31 * 3:=by simpa using l
     lia
  have ep1:(t.put (pth t.mask (tK prog w k) n).j).1.plain=t.plain:=rfl;cases e1:(t.put (pth t.mask (tK prog w k) n).j).1.plain with
  |true=>
   rw[Aa rfl];refine iP (qc0 hx λb=>?_);cases b with
   |false=>exact g iS
   |true=>have:=g iT;rw[show({ (t.put (pth t.mask (tK prog w k) n).j).1 with plain:=iT }:k6)=(t.put (pth t.mask (tK prog w k) n).j).1 by rw[<-e1]]at this;exact this
  |false=>rw[Ab (by simp)];refine iP (iU ?_);have:=g iS;rw[show({ (t.put (pth t.mask (tK prog w k) n).j).1 with plain:=iS }:k6)=(t.put (pth t.mask (tK prog w k) n).j).1 by rw[<-e1]]at this;exact this
 .have:turns t.mask<=142:=by rcases h7 with z|z|z <;> rw[z] <;> decide
  lia
end
end L2.D2
namespace L2.D2
open PySem PySem.Spec PyProof.Rows PySem.W
variable{P:List Int->Z7->Prop}{prog:iZ}{w:i3}{h h':Z5}{a:Z7}
theorem SetTT.at{ks:List (List Int)}(g:SetTT P prog w h a ks)(f:∀o,h.get? a=iO o->h'.get? a=iO o)(k:∀b o (n:Nat) items,h.get? b=iO o->o.cls=.type "tuple"->o.data=.seq items n->h'.get? b=iO o):SetTT P prog w h' a ks:=by obtain⟨es,ep,t,kl,l,S,r⟩:=g;refine⟨es,ep,t,kl,f _ l,⟨S.tab,S.few,S.len,λi e x h1 h2=>?_⟩,r⟩;obtain⟨b,e1,⟨o,items,n,j,c,d,q⟩,p⟩:=S.el i e x h1 h2;exact⟨b,e1,⟨o,items,n,k b o n items j c d,c,d,q⟩,p⟩
variable{s:iV}
section
variable{A:j4}{E:iR->iV->Prop}
theorem Zf(e:h.get? a=iO (qft w)):SetTT P prog w h a []:=
 ⟨_,_,_,[],e,⟨⟨.inl rfl,rfl,eJ,(λ_ z=>nomatch z),rfl,(λ_ z=>nomatch z)⟩,aU _,rfl,λi e k h1 _=>by simp at h1⟩,.nil,cG,λ_=>aU _,λ_=>aU _,rfl⟩
theorem qlV{sk:SK}{S l:Z7}{items:Array iR}{a:List (List Int)}{Q:Unit->iV->Prop}(I:A.handled=iQ)(y:A.in1.units<k4)(C:SetTT P prog w s.heap S [])(hl:SeqK s.heap l sk items)(hn:a.length=items.size)(hi:∀(i:Nat)(v:iR),items[i]?=iO v->∃k b,a[i]?=iO k/\v=.ref b/\b≠S/\P k b/\j7 (lg prog w) s.heap k b)(O:items.size<=36)(n:l≠S)(h:∀h' tk,SetTT P prog w h' S (a.foldl wL [])->(∀b o,b≠S->s.heap.get? b=iO o->h'.get? b=iO o)->Q () { s with heap:=h',toks:=tk }) :
  iW (Z6 prog w) A (bw "set.__init__" S (.ref l)) Q E s:=by
 have lt:S<s.heap.objs.size:=let ⟨_,_,_,_,H,_⟩:=C;ax H;refine qlc (PS:=λi h=>(∀(i:Nat)(v:iR),items[i]?=iO v->∃k b,a[i]?=iO k/\v=.ref b/\b≠S/\P k b/\j7 (lg prog w) h k b)/\SetTT P prog w h S ((a.take i).foldl wL [])) I hl lt n (λL=>⟨λi v d=>?_,C.at (λo e=>aa _ e) λb o m its e _ _=>aa _ e⟩) (λi s' h' it p k=>?_) (λi v s' Q E d p q=>?_) λh' tk p k=>h h' tk (by have p:=p.2;rw[eW (dS hn)]at p;exact p) k;·obtain⟨k,b,e1,f,D,g,o,its,m,j,r⟩:=hi i v d;exact⟨k,b,e1,f,D,g,o,its,m,aa _ j,r⟩
 .have nt:∀b o,s'.heap.get? b=iO o->o.cls=.type "tuple"->h'.get? b=iO o:=λb o e c=>k b o (λz=>by rw[z]at e;obtain⟨o',G,T,_⟩:=it.obj;rw[e]at G;cases G;rw[c]at T;injection T with T;cases sk <;> exact absurd T (by decide)) e;refine⟨λi v d=>?_,p.2.at (λo=>k S o (aC lt)) λb o m its e c _=>nt b o e c⟩;obtain⟨k,b,e1,f,D,g,o,its,m,j,c,r⟩:=p.1 i v d;exact⟨k,b,e1,f,D,g,o,its,m,nt b o j c,c,r⟩
 .obtain⟨x,b,hx,rfl,M,J,B⟩:=p.1 i v d;obtain⟨f,N⟩:=KZ hx;have:=(aX.mp d).1;unfold setAdd;refine j6 (iP (wpAny_pyHash_tuple y B (qc1 (s:={ s' with toks:=s'.toks+(x.length+1) }) y p.2 B J (by lia) λh' K u t=>q h' K _ (bR _ _) u ⟨λi v d=>?_,by rw[<-f];exact t⟩)));obtain⟨k,b,e1,f,D,g,o,its,m,j,r⟩:=p.1 i v d;exact⟨k,b,e1,f,D,g,o,its,m,(u.2 b D).trans j,r⟩
end
noncomputable def yc:List Int->Int
 |[x,y]=>10 * x+y
 |_=>0
noncomputable def okP:List Int->Bool
 |[_,y]=>decide (-5<y/\y<5)
 |_=>iS
def qfT(T:List (List Int)):Prop:=T.Pairwise λa b=>yc a<yc b
instance(T:List (List Int)):Decidable (qfT T):=inferInstanceAs (Decidable (T.Pairwise _))
noncomputable def qbZ(k:List Int):D:=.tup (k.map D.int)
def vQ:D->Out D
 |.lst ds=>match Jm ds with
  |some T=>if T.length<=36/\T.all okP=iT/\qfT T then .ok (.lst ds)else .bad
  |none=>.bad
 |_=>.bad
theorem Ug{a b:List Int}(g:okP a=iT)(d:okP b=iT):ltZ a b=decide (yc a<yc b)/\a.length=2:=by
 match a,b,g,d with
 | [x,y],[z,v],g,d=>
  have h1:=Ae (show decide (-5<y/\y<5)=iT from g);have h2:=Ae (show decide (-5<v/\v<5)=iT from d);refine⟨?_,rfl⟩;show(if x=z then(if y=v then iS else decide (y<v))else decide (x<z))=decide (10 * x+y<10 * z+v);split
  .split;·exact(Ac (by lia)).symm
   .exact decide_eq_decide.mpr (by lia)
  .exact decide_eq_decide.mpr (by lia)
theorem YE{κ:Type}[DecidableEq κ]:∀(l ks:List κ),(ks++l).Nodup->l.foldl wL ks=ks++l
 |[],ks,_=>(bg ks).symm
 |x::l,ks,h=>by have nx:x∉ks:=λz=>(bV.mp h).2.2 x z x ai rfl;rw[d7,show wL ks x=ks++[x]from Ab nx,YE l (ks++[x]) (by rw[aT];exact h),aT];rfl
def stO(w:i3)(p:Z7)(us:List iR):HO:=.ext λh=>∃es ep t,h.get? p=iO (jC es ep t)/\Wlk w es t/\es.toList.map (·.2)=us
def Elm(K:Y8)(F:Hp)(L:List (iR×List Int)):Prop:=∀q∈L,∃b,q.1=.ref b/\Is K F (.ref b) (qbZ q.2)
variable{Z9:Pns}{σ:St}
section
variable{X:Cx}{C:Ct}{own:List Nat}{e:Z4}{fa:qU}{ma:Mo}{pos:Pos}
theorem qd3:∀{us:List iR}{k:List Int},IntsAre us k->ItemsAre (lg prog w) k us
 |_,_,.nil=>.nil
 |_,_,.cons x t h=>.cons (by show ii x (.int x t)=iT;simp[ii]) (qd3 h)
theorem qd4{F H:Hp}{k:List Int}{b:Z7}(n:C.K=X.K)(I:Inv X Z9 σ H s)(A:Same F H)(h:Is C.K F (.ref b) (qbZ k)):∃ws,IsTup s.heap b (bZ ws)/\IntsAre ws k:=by
 cases h with
 |tup hp ht=>rw[n]at hp;obtain⟨ws,r,pt,_⟩:=I.tuple (qW A hp);exact⟨ws,pt,GZ ht r (gi _)⟩
theorem qfU{F H:Hp}(p:C.K=X.K)(I:Inv X Z9 σ H s)(A:Same F H){T:List (List Int)}{vs:List V}{us:List iR}(l:IsL C.K F vs (T.map qbZ))(r:Vals vs us):us.length=T.length/\∀(i:Nat)(v:iR),us[i]?=iO v->∃k b,T[i]?=iO k/\v=.ref b/\Is C.K F (.ref b) (qbZ k)/\j7 (lg X.prog X.w) s.heap k b:=by
 refine⟨by rw[<-r.length,l.length,ao],λi v j=>?_⟩;obtain⟨x,hx,g⟩:=yy r j;obtain⟨d,f,c⟩:=l.get hx;rw[aG]at f;cases e:T[i]? with
 |none=>rw[e]at f;cases f
 |some k=>
  rw[e]at f;cases f;have a:=c;unfold qbZ at a;cases a with
  |@tup b ys _ hq t=>cases g;obtain⟨ws,⟨o,m,h,n,hd⟩,hi⟩:=qd4 p I A c;exact⟨k,b,rfl,rfl,c,o,_,n,m,h,hd,by simpa using qd3 hi⟩
theorem qfV(J:C.K=X.K)(V:X.calm=iT)(hu:X.A.units+10<k4):vG X (.type "set") (λxs H Q=>∃x F T,xs=[x]/\Same F H/\TopIs C.K F H x (.lst (T.map qbZ))/\T.length<=36/\T.Nodup/\∀p L,H p=iQ->Elm C.K F L->(L.map (·.2)).Perm T->Q (.ref p) (upd H p (stO X.w p (L.map (·.1))))):=by
 intro Z9 s σ H xs us Q I r h;obtain⟨x,F,T,rfl,E,O,hl,nd,q⟩:=h;obtain⟨u,rfl,R⟩:=wv r;obtain⟨a,vs,rfl,hq,U⟩:=O.lst E;cases R;rw[J]at hq;obtain⟨its,P,d,g⟩:=I.list hq;obtain⟨o,n,G,j,_,hd⟩:=d;obtain⟨hn,hi⟩:=qfU J I E U P;refine Va (PS:=λh'=>SetTT (λk b=>Is C.K F (.ref b) (qbZ k)) X.prog X.w h' s.heap.objs.size (T.foldl wL [])) (λA1 Q1 E1 hA W k=>?_) λh' tk m kp=>?_;·exact qlV (sk:=.l) (items:=its.toArray) (hA.trans (I.ok.hd V)) (by rw[Around.in1_units];lia) (Zf (ak _ rfl)) (.of (aa _ G) hd j) (by simp[hn]) (λi v e=>by obtain⟨k1,b,e1,y,Y,o1,i1,n1,N,r⟩:=hi i v (by simpa using e);exact⟨k1,b,e1,y,aC (ax N),Y,o1,i1,n1,aa _ N,r⟩) (by rw[au,hn];exact hl) (aC (ax G)) λh' tk m kp=>k h' tk m λb o M=>kp b o (aC (ax M)) (aa _ M)
 .obtain⟨es,ep,t,kl,c,S,f,_,_,_,led⟩:=m;rw[YE T [] (by rw[cr];exact nd),cr]at f;have g:es.toList.length=kl.length:=by rw[aF,S.len]
  have e1:((es.toList.zip kl).map λq=>(q.1.2,q.2)).map (·.1)=es.toList.map (·.2):=by rw[bA,show((λq:iR×List Int=>q.1) ∘ λq:(Int×iR)×List Int=>(q.1.2,q.2))=(λe:Int×iR=>e.2) ∘ Prod.fst from rfl,<-bA,List.map_fst_zip (dS g)]
  have y:((es.toList.zip kl).map λq=>(q.1.2,q.2)).map (·.2)=kl:=by rw[bA];exact f7 (dS g.symm)
  refine⟨.ref s.heap.objs.size,_,I.laid (t':=tk) (o:=stO X.w s.heap.objs.size (es.toList.map (·.2))) kp (ap _) ⟨⟨es,ep,t,c,⟨?_,S.fits,led,λ_=>S.tab.rise⟩,rfl⟩,⟨_,c⟩,λh1 h2 z k=>?_⟩,rfl,?_⟩
  .rw[<-S.len,f.length_eq];unfold mi
   lia
  .obtain⟨D,B,a3,a4,a5⟩:=z;exact⟨D,B,a3,k _ a4,a5⟩
  .rw[<-e1];refine q _ _ (I.hok.fresh (ap _)) (λq hq=>?_) (by rw[y];exact f);obtain⟨r,hr,rfl⟩:=aq.mp hq;obtain⟨i,hr⟩:=bi hr;obtain⟨D,B⟩:=bI.mp hr;obtain⟨b,b1,b2,Z⟩:=S.el i r.1 r.2 (by rw[<-aK];exact D) B;exact⟨b,by rw[b1],Z⟩
theorem qlW(L:List (iR×List Int)):(aH L.length).map (λi=>L.getD i (.none,[]))=L:=cY λi=>by
 by_cases h:i<L.length;·simp[h]
 .simp[h]
theorem qh9:∀M:List (iR×List Int),(∀q∈M,okP q.2=iT)->(∀q∈M,∃b ws o n,q.1=.ref b/\h'.get? b=iO o/\o.cls=.type "tuple"/\o.data=.seq (bZ ws) n/\IntsAre ws q.2)->∃fs:List iR,KatTups h' (M.map (·.1)) fs/\fs.length=M.length/\∀v∈fs,∃n t,v=cQ n t
 |[],_,_=>⟨[],.nil,rfl,λv c=>nomatch c⟩
 | q::M,okM,hat=>by
  obtain⟨fs,f1,f2,f⟩:=qh9 M (λq hq=>okM q (ac _ hq)) λq hq=>hat q (ac _ hq);obtain⟨b,ws,o,n,e1,a,h,hd,hi⟩:=hat q ai;obtain⟨_,l⟩:=Ug (okM q ai) (okM q ai);rw[aE,e1];generalize q.2=k at hi l
  match k,l with
  | [x,y],_=>
   cases hi with
   |cons _ t hi=>
    refine⟨cQ x t::fs,.cons a h hd (by simp) f1,by simp[f2],λv c=>?_⟩;rcases ae.mp c with rfl|c;·exact⟨_,_,rfl⟩
    .exact f v c
theorem Zg(hK:C.K=X.K)(hc:X.calm=iT):vG X (.builtin "sorted") (λxs H Q=>∃a F T L,xs=[.ref a]/\H a=iO (stO X.w a (L.map (·.1)))/\Same F H/\Elm C.K F L/\(L.map (·.2)).Perm T/\T.length<=36/\T.all okP=iT/\qfT T/\∀p vs,H p=iQ->IsL C.K F vs (T.map qbZ)->Q (.ref p) (upd H p (.lst vs))):=by
 intro Z9 s σ H xs us Q I r h;obtain⟨a,F,T,L,rfl,ha,sb,el,E,hl,ok,asc,q⟩:=h;obtain⟨u,rfl,ru⟩:=wv r;cases ru;obtain⟨es,ep,t,J,wk,eu⟩:=(I.hok a _ ha).1;refine dY kind_sorted plain_sorted entry_sorted (args_sorted1 _) ?_;unfold Builtin.«sorted»;refine iP (m:=checkCount "sorted" 1 1 _) (iU ?_);refine iP (zV (by exact I.ok.hd hc) J wk λh1 dr tk ord k1 hp=>?_);rw[eu]at hp;obtain⟨M,pM,rfl⟩:=YD hp L rfl;have el:Elm C.K F M:=λq hq=>el q (pM.mem_iff.mp hq);have E:(M.map (·.2)).Perm T:=(pM.map _).trans E;have hn:M.length=T.length:=by rw[<-E.length_eq,ao]
 have c:∀q∈M,okP q.2=true:=λq hq=>aM.mp ok _ (E.mem_iff.mp (aq.mpr ⟨q,hq,rfl⟩));have I1:Inv X Z9 σ H { s with heap:=h1,drawn:=dr,toks:=tk }:=qld I k1;have d:(M.map (·.1)).length=M.length:=ao _;refine iP (mJ ?_ (by rw[d,i5];lia));have Y:(h1.push (lc "list" (M.map (·.1)).toArray 0)).get? h1.objs.size=iO (lc "list" (M.map (·.1)).toArray 0):=ak _ rfl;refine iP (j6 (i7 slot_list_sort (s:={ s with heap:=h1.push (lc "list" (M.map (·.1)).toArray 0),drawn:=dr,toks:=tk }) ⟨_,Y,rfl⟩ entry_list_sort (gh (Gd:=λout=>∃N:List (iR×List Int),out=N.map (·.1)/\N.Perm M/\N.Pairwise λa b=>yc a.2<yc b.2) Y (by rw[d];lia) (λh2=>⟨M,rfl,.refl _,?_⟩) (λh2 h' k2=>?_) λout g=>⟨_,rfl,?_⟩) (args_list_sort _)))
 .rw[d]at h2
  match M,h2 with
  |[],_=>exact .nil
  |[x],_=>exact dq _ _
 .rw[d]at h2 ⊢;have kp:∀b o,h1.get? b=iO o->h'.get? b=iO o:=λb o e=>k2 b o (aC (ax e)) (aa _ e);have A:∀q∈M,∃b ws o n,q.1=.ref b/\h'.get? b=iO o/\o.cls=.type "tuple"/\o.data=.seq (bZ ws) n/\IntsAre ws q.2:=λq hq=>by obtain⟨b,e1,e2⟩:=el q hq;obtain⟨ws,⟨o,J,S,n,hd⟩,hi⟩:=qd4 hK I1 sb e2;exact⟨b,ws,o,n,e1,kp _ _ J,S,hd,hi⟩
  have mem:∀i,i<M.length->M.getD i (.none,[])∈M:=λi hi=>by rw[bf,ay hi];exact bE hi
  have B:∀i,(M.map (·.1)).getD i .none=(M.getD i (.none,[])).1:=λi=>by rw[bf,bf,aG];cases M[i]? <;> rfl
  refine⟨tuples' iT,λQ' hQ'=>?_,qcV (k:=λi=>yc (M.getD i (.none,[])).2) (by lia) (λi j y D=>?_) (λi j hi D C' hC=>?_) λp P U=>⟨⟨p.toList.map λi=>M.getD i (.none,[]),?_,?_,?_⟩,rfl⟩⟩;·obtain⟨fs,f1,f2,f3⟩:=qh9 M c A;refine kat_kind (T:=.type "int") f1 (by lia) (λv hv=>?_) (by decide) hQ';obtain⟨n,t,rfl⟩:=f3 v hv;exact .now
  .have Z:(M.map (·.2)).Pairwise λa b=>yc a≠yc b:=(E.pairwise_iff λh=>h.symm).mpr (asc.imp Int.ne_of_lt);have nd:=(ck (f:=λq:iR×List Int=>q.2) (R:=λa b=>yc a≠yc b)).mp Z;have:=cw.mp nd i j (by lia) D y;simpa[bf,ay D,ay (show i<M.length by lia)]using this
  .unfold kas_ask;rw[B,B];obtain⟨b,ws,o,n,e1,J,S,hd,O⟩:=A _ (mem i hi);obtain⟨b',V,o',n',e1',ho',hcl',hd',l⟩:=A _ (mem j D);obtain⟨z,l1⟩:=Ug (c _ (mem i hi)) (c _ (mem j D));obtain⟨_,l2⟩:=Ug (c _ (mem j D)) (c _ (mem j D));rw[e1,e1'];have z1:=O.length;have z2:=l.length;refine kat_lt J hd ho' hd' ?_;rw[show decide ((bZ ws).size<(bZ V).size)=iS by simp;lia];exact Yw 0 O l (by lia) (by rw[z];exact hC)
  .rw[bA];exact dZ λi _=>B i
  .have:=P.pm.map λi=>M.getD i (.none,[]);rwa [qlW]at this
  .rw[ck,cw];intro i j hi D y;have hz:=P.size;rw[aF]at hi D;have:=U i j y (by lia);simpa[kAt,c7,hi,D]using this
 .obtain⟨N,rfl,pN,sN⟩:=g;have eT:N.map (·.2)=T:=List.Perm.eq_of_pairwise (le:=λa b=>yc a<yc b) (λa b _ _ h1 h2=>by lia) (ck.mpr sN) asc ((pN.map _).trans E);obtain⟨e,he⟩:=sortedHeap_at (out:=(N.map (·.1)).toArray) Y;have go:∀N:List (iR×List Int),Elm C.K F N->∃vs,Vals vs (N.map (·.1))/\IsL C.K F vs ((N.map (·.2)).map qbZ):=by
   intro N
   induction N with
   |nil=>exact λ_=>⟨[],.nil,.nil⟩
   |cons q N ih=>intro el;obtain⟨vs,W,G⟩:=ih λq hq=>el q (ac _ hq);obtain⟨b,e1,e2⟩:=el q ai;exact⟨.ref b::vs,.cons (show RelV (.ref b) q.1 by rw[e1];rfl) W,.cons e2 G⟩
  obtain⟨vs,W,G⟩:=go N λq hq=>el q (pN.mem_iff.mp hq);rw[eT]at G;have hvs:vs.length<=Z8:=by rw[G.length,ao,i5];lia
  refine iU ⟨_,rfl,.ref h1.objs.size,_,I1.laid (t':=tk) (o:=.lst vs) (λb o eb=>?_) (ap _) ⟨hvs,_,e,W,by simpa[lc]using he⟩,rfl,q _ vs (I1.hok.fresh (ap _)) G⟩;have hb:=ax eb;rw[sortedHeap_old (aC hb) (by rw[bz];exact bU hb)];exact aa _ eb
theorem Uh{p p2 a:Pos}(n:C.K=X.K)(m:X.calm=iT)(J:X.A.units+64<k4)(hg:Gl X "sorted")(D:X.mg "sorted"=iQ)(B:iY "sorted"=iO (.builtin "sorted"))(i:Gl X "set")(g:X.mg "set"=iQ)(d:iY "set"=iO (.type "set"))(E:PE X e (tE C own ma fa))(j:iX [e] X.env=[(iS,Y9 e X.env)]:=by exact qD rfl)(c:iX [.Call (.Name "set" p2) [e] [] a] X.env=[(iS,Y9 (.Call (.Name "set" p2) [e] [] a) X.env)]:=by exact qD rfl) :
  PE X (.Call (.Name "sorted" p) [.Call (.Name "set" p2) [e] [] a] [] pos) (tE C own .fr (d1 vQ fa)):=by
 refine jy (um (Zg n m) hg D B (qI (jO (qfV n m (by lia)) i g d (qI E jq j) (by decide) (by decide) (by rw[j];rfl) rfl) jq c) (by decide) (by decide) (by rw[c];rfl) rfl) λσ H Q h=>?_;refine ya (wF (ma:=ma) h) λx H1 o=>?_;obtain⟨I,F,dx,ex,s,r,po⟩:=o;cases ex;cases dx with
 | lst ds=>
  have po:PoV C .fr F H1 (match Jm ds with|some T=>if T.length<=36/\T.all okP=iT/\qfT T then .ok (.lst ds)else .bad|none=>.bad) Q:=po;cases e:Jm ds with
  |none=>rw[e]at po;exact po.elim
  | some T=>
   rw[e]at po;have po:PoV C .fr F H1 (if T.length<=36/\T.all okP=iT/\qfT T then .ok (.lst ds)else .bad) Q:=po;by_cases k:T.length<=36/\T.all okP=iT/\qfT T
   .rw[Aa k]at po;obtain⟨k1,k2,k3⟩:=k;have b:ds=T.map qbZ:=Yr e;subst b;refine⟨x,F,T,rfl,s,r,k1,k3.imp λh z=>absurd h (by rw[z];exact Int.lt_irrefl _),λq L hq el v=>?_⟩;obtain⟨s1,G,f1⟩:=jT (u:=stO X.w q (L.map (·.1))) s hq;refine⟨q,F,T,L,rfl,qh,s1,el,v,k1,k2,k3,λl vs f y=>?_⟩;obtain⟨s2,c2,f2⟩:=jT (u:=.lst vs) s1 f;have t:H1 l=none:=by
     by_cases z:l=q;·rw[z,qh]at f;cases f
     .rwa [qB z]at f
    exact po _ _ _ s2 (G.trans' c2) ⟨l,rfl,t,f2,_,qh,y⟩
   .rw[Ab k]at po;exact po.elim
 |_=>exact po.elim
end
end L2.D2
namespace L2.D2
open PySem PySem.Spec PyProof.Rows
variable{r:Z7}{n:Nat}
section
variable{prog:iZ}{w:i3}{A:j4}{E:iR->iV->Prop}{s:iV}
theorem Zh{R:Result->iV->Prop}{a b c:Int}{t u v:Tok}(e:A.handled=iQ)(hr:IsRange s.heap r a b c t u v)(h:fE a b c=iT)(hn:b7 a b c=n)(d:n<=2 ^ 24)(S:Z7)(f:s.heap.get? S=iO { cls:=.type "list",data:=.seq #[] })(j:∀h' tk K T,(∀b o,b≠S->s.heap.get? b=iO o->h'.get? b=iO o)->h'.get? S=iO { cls:=.type "list",dict:=iQ,data:=.seq K T,slots:=#[] }->m8 (λi v=>∃t,v=.int (a+i * c) t) K n->R (.ok (.ret (.ref S))) { s with heap:=h',toks:=tk }) :
  lV (Z6 prog w) A (.builtin "list.__iadd__" ⟨[.ref S,.ref r],[]⟩) R s:=by
 refine li PySem.F.entry_list_iadd ?_;rw[b8 dk _];exact wpAny_extend_range (A:=A) e hr h hn d S _ _ f j
theorem Jr{Q:List iR->iV->Prop}{a b c:Int}{t u v:Tok}(j:A.handled=iQ)(hr:IsRange s.heap r a b c t u v)(h:fE a b c=iT)(hn:b7 a b c=n)(d:n<=2 ^ 24)(m:∀h' tk acc,(∀b o,s.heap.get? b=iO o->h'.get? b=iO o)->m8 (λi v=>∃t,v=.int (a+i * c) t) acc n->Q acc.toList { s with heap:=h',toks:=tk }):iW (Z6 prog w) A (collect (.ref r)) Q E s:=by
 unfold collect;refine iP (wpAny_runValue (li PySem.F.entry_proto_collect ?_));rw[b8 PySem.F.plain_proto_collect _];show iW _ A.in1 (newList [] >>= λl=>again (.builtin "list.__iadd__" ⟨[l,.ref r],[]⟩)) _ _ s;refine iP (i4 ?_);refine iU ⟨lT dk _,Zh j (aa _ hr) h hn d s.heap.objs.size (ak _ rfl) λh' tk K T k g f=>?_⟩;show iW _ A (load s.heap.objs.size >>= _) _ _ _;refine iP (wpAny_load g ?_);exact iU (m h' tk K (λb o e=>k b o (aC (ax e)) (aa _ e)) f)
end
theorem xk(r:Z7)(a b c:Int)(t u v:Tok)(n:Nat)(l:fE a b c=iT)(hn:b7 a b c=n)(m:n<=1000000):Meets (Builtin.«tuple.__new__» ⟨[.type "tuple",.ref r],[]⟩) (λA R s=>A.handled=iQ/\IsRange s.heap r a b c t u v/\∀(h':Z5)(tk:Nat)(acc:Array iR),(∀b o,s.heap.get? b=iO o->h'.get? b=iO o)->m8 (λi v=>∃t,v=.int (a+i * c) t) acc n ->R (.ok (.ret (.ref h'.objs.size))) { s with heap:=h'.push { cls:=.type "tuple",data:=.seq acc },toks:=tk }):=
 .of_wp λprog w A R s h=>by
  obtain⟨x,hr,h⟩:=h;have k:=sub_tuple_self;have f:=init_tuple_lookup;have p:=madeHere_tuple;have T:s.TypeIs (.ref r) "range":=⟨_,hr,rfl⟩
  have g:A.in1.handled=none:=x;have j:n<=2 ^ 24:=by omega
  wp_walk using lI T,Jr g hr l hn j
  intro h' tk acc q d;show iW _ _ (bW acc.toList.toArray >>= λv=>ret v) _ _ _;unfold bW;refine iP (i4 ?_ (show acc.toList.toArray.size<=Z8 by simp only[Array.toArray_toList];rw[d.1,i5];omega));refine iU ⟨_,rfl,?_⟩;have e:acc.toList.toArray=acc:=by simp
  rw[e];exact h h' tk acc q d
variable{X:Cx}{C:Ct}{own:List Nat}{e:Z4}{pos:Pos}
section
variable{fa:qU}{ma:Mo}
theorem qfW(c:X.calm=iT):vG X (.type "tuple") (λxs H Q=>∃r lo hi,xs=[.ref r]/\H r=iO (qdS r lo hi)/\(XX lo hi/\hi - lo<=1000000)/\∀p,H p=iQ->Q (.ref p) (upd H p (.tup ((aH (hi - lo).toNat).map λk=>V.int (lo+(k:Nat)))))):=by
 intro Z9 s σ H xs us Q I r h;obtain⟨a,lo,hi,rfl,g,z,q⟩:=h;obtain⟨u,rfl,B⟩:=wv r;cases B;obtain⟨t,u,v,hr⟩:=(I.hok a _ g).1;have l:b7 lo hi 1=(((hi - lo).toNat:Nat):Int):=by rw[rangeSize_one];split <;> lia
 refine callType_new PySem.F.called_tuple (by decide) (PySem.F.typeCall_tuple_1 _) (PySem.F.newCall_tuple_1 _) (λobj=>PySem.F.args_object_init_2 obj _) PySem.F.entry_tuple_new
  (xk a lo hi 1 t u v (hi - lo).toNat (small_one z.1.1.1 z.1.1.2 z.1.2.1 z.1.2.2) l (by lia)) ⟨I.ok.hd c,hr,λh' tk acc kp it=>⟨⟨_,ak _ rfl,rfl⟩,?_⟩⟩
 have d:Inv X Z9 σ H { s with heap:=h',toks:=tk }:=I.kept (t':=tk) kp;refine⟨.ref h'.objs.size,_,d.laid (t':=tk) (λb o e=>aa _ e) (ap _) (show ObjOk X.prog X.w _ _ _ (.tup ((aH (hi - lo).toNat).map λk=>V.int (lo+(k:Nat))))from⟨⟨by rw[ao,bo,i5];lia,_,ak _ rfl,rfl⟩,acc.toList,?_,by simpa using iF h' acc⟩),rfl,q _ (d.hok.fresh (ap _))⟩;refine WZ (by rw[ao,bo,aF,it.1]) λj x w ex f=>?_;rw[aG]at ex;obtain⟨k,i,rfl⟩:=aO.mp ex;obtain⟨D,rfl⟩:=aD.mp i;obtain⟨t,rfl⟩:=it.2 j w (by simpa using f);exact⟨t,by simp⟩
def vA:D->Out D
 |.int j=>if XX 0 j/\j - 0<=1000000 then .ok (.tup (yt 0 (j - 0).toNat))else .bad
 |_=>.bad
set_option tactic.hygienic true in
theorem Vx{p p2 a:Pos}(o:X.calm=iT)(hg:Gl X "tuple")(n:X.mg "tuple"=iQ)(v:iY "tuple"=iO (.type "tuple"))(i:Gl X "range")(g:X.mg "range"=iQ)(d:iY "range"=iO (.type "range"))(r:PE X e (tE C own ma fa))(b:iX [e] X.env=[(iS,Y9 e X.env)]:=by exact qD rfl)(c:iX [.Call (.Name "range" p2) [e] [] a] X.env=[(iS,Y9 (.Call (.Name "range" p2) [e] [] a) X.env)]:=by exact qD rfl) :
  PE X (.Call (.Name "tuple" p) [.Call (.Name "range" p2) [e] [] a] [] pos) (tE C own .sh (d1 vA fa)):=by
 refine jy (jO (qfW o) hg n v (qI (jO Vm i g d (qI r jq b) (by decide) (by decide) (by rw[b];rfl) rfl) jq c) (by decide) (by decide) (by rw[c];rfl) rfl) λσ H Q h=>?_;refine ya (wF (ma:=ma) h) λx H1 m=>?_;obtain⟨w,F,dx,ex,A,t,po⟩:=m;cases ex;cases dx <;> try exact po.elim
 rename_i j;unfold vA at po;by_cases z:XX 0 j/\j - 0<=1000000;·simp only[Aa z]at po;obtain rfl:=t.int;refine⟨j,rfl,λq hq=>⟨q,0,j,rfl,qh,z,λl f=>?_⟩⟩;obtain⟨s1,s,f1⟩:=jT (u:=qdS q 0 j) A hq;obtain⟨s2,c2⟩:=wH (u:=.tup ((aH (j - 0).toNat).map λk=>V.int (0+(k:Nat)))) s1 f;exact po _ _ _ s2 (s.trans' c2) (.tup (.inl (.inl qh)) (Jk _))
 .simp only[Ab z]at po;exact po.elim
end
def qlX(x y:Str):Prop:=(y.length == 0)=iS/\(iA x y).1.length<=Z8/\(iA x y).2.1.length<=Z8/\(iA x y).2.2.length<=Z8
instance:∀x y,Decidable (qlX x y):=λx y=>inferInstanceAs (Decidable (_/\_))
def Vy(fk fv:qU):qU:=λρ=>(fk ρ).bind λp=>(fv p.2).bind λq=>match zw p.1 with
 |some k=>.ok (.dct [(k,q.1)],q.2)
 |none=>.bad
section
variable{kx vx:Z4}{fk fv fe:qU}{mk mv m:Mo}
theorem Rep.upO{K:Y8}{F H:Hp}{σ:St}{ρ:Sl}{p:Z7}{u:HO}(r:Rep K own F H σ ρ)(C:F p=iQ)(l:¬OA own σ p):Rep K own F (upd H p u) σ ρ where
 sub:=λb o e=>by
  by_cases z:b=p;·rw[z,C]at e;cases e
  .unfold upd;rw[Ab z];exact r.sub b o e
 len:=r.len
 val:=r.val
 ow:=λi d hi e=>by obtain⟨a,h1,h2,g⟩:=r.ow i d hi e;have h:a≠p:=λz=>l ⟨i,hi,by rw[<-z];exact h1⟩;exact⟨a,h1,h2,g.grow (λ_ _ e=>e) λo e=>by unfold upd;rw[Ab h];exact e⟩
 opn:=r.opn
 dis:=r.dis
theorem qc2(I:PE X kx (tE C own mk fk))(x:PE X vx (tE C own mv fv))(y:mv≠.any:=by decide):PE X (.Dict [iO kx] [vx] pos) (tE C own .fr (Vy fk fv)):=by
 refine jy (qe4 (qcj I (uW x y) qe3) rfl rfl (by simp) (by simp)) λσ H Q D p hp=>?_;obtain⟨F,ρ,B,h⟩:=D;obtain⟨i,O,L⟩:=UT (u:=.dK []) B hp;have O:Chg (OA own σ) F H F (upd H p (.dK [])):=O.ofNo;have n:¬OA own σ p:=λz=>(B.OA_there z).1 hp;refine⟨F,ρ,i,?_⟩;unfold Vy at h;have fresh:∀{F1 H1 a H2:Hp},Chg (OA own σ) F1 H1 a H2->F1 p=iQ->H1 p≠iQ->a p=none:=λ{F1 H1 a H2} c e1 M=>by
  cases q:a p with
  |none=>rfl
  |some o=>
   rcases c.new p (by rw[q];simp)with z|z|z;·exact absurd e1 z
   .exact absurd z M
   .exact absurd z n
 cases m:fk ρ with
 |exc c o=>rw[m]at h;exact λF' H' A io T=>h F' H' A io (O.trans' T)
 |bad=>rw[m]at h;exact h.elim
 | ok E=>
  obtain⟨d,ρ1⟩:=E;rw[m,Out.og]at h;intro v F1 H1 g f w;have p1:H1 p=iO (.dK []):=f.keep p _ qh n;have f1:=fresh f L (by rw[qh];simp);refine⟨F1,ρ1,g,?_⟩;cases l:fv ρ1 with
  |exc c o=>simp only[l]at h;exact λF' H' A io T=>h F' H' A io ((O.trans' f).trans' T)
  |bad=>simp only[l]at h;exact h.elim
  | ok s=>
   obtain⟨e,ρ2⟩:=s;simp only[l,Out.og]at h;intro u a H2 r c2 t;have p2:H2 p=iO (.dK []):=c2.keep p _ p1 n;have f2:=fresh c2 f1 (by rw[p1];simp);cases j:zw d with
   |none=>simp only[j]at h;exact h.elim
   | some k=>
    simp only[j]at h;have x:=qjA w.top j;subst x;have N:Chg (OA own σ) F H a (upd H2 p (.dK [(k,u)])):=by
     have c:=(O.trans' f).trans' c2;refine⟨λb o J G=>?_,λb J=>?_,c.grow,c.new⟩
     .have K:b≠p:=λz=>by rw[z,hp]at J;cases J
      unfold upd;rw[Ab K];exact c.keep b o J G
     .unfold upd;split;·simp
      .exact c.stay b J
    exact⟨p2,[(k,u)],rfl,by simp,h (.ref p) a _ (r.upO f2 n) N ⟨p,rfl,hp,f2,[(k,u)],qh,.cons t .nil⟩⟩
def gk(kvs more:List (Key×D)):List (Key×D):=more.foldl (λacc kv=>vN acc kv.1 kv.2) kvs
theorem IsK.merge{K:Y8}{F:Hp}:∀(o:List (Key×V)){more:List (Key×D)}{kv:List (Key×V)}{kvs:List (Key×D)},IsK K F o more->IsK K F kv kvs->IsK K F (xr kv o) (gk kvs more)
 |[],_,_,_,a,h=>by cases a;exact h
 |(k,v)::o,_,_,_,a,h=>by
  cases a with
  |cons b t=>have:=IsK.merge o t (h.put (k:=k) b);exact this
def qia(i:Nat)(fe:qU):qU:=λρ=>match (ρ[i]?:Option (Option D))with
 |some (iO (.dct _))=>(fe ρ).bind λp=>match (p.2[i]?:Option (Option D)),p.1 with
  |some (iO (.dct kvs)),.dct more=>if kvs.length+more.length<=Z8 then .ok (.non,p.2.set i (iO (.dct (gk kvs more))))else .bad
  |_,_=>.bad
 |_=>.bad
theorem qfX:MtR X "dict.update" (λx vs H Q=>∃a b kvs more,x=.ref a/\vs=[.ref b]/\a≠b/\H a=iO (.dK kvs)/\H b=iO (.dK more)/\kvs.length+more.length<=Z8/\Q .non (upd H a (.dK (xr kvs more)))):=by
 intro Z9 s σ H x vs v us Q I r f h;obtain⟨a,b,kvs,more,rfl,rfl,e,g,j,z,q⟩:=h;obtain rfl:v=aY a:=r;obtain⟨u,rfl,B⟩:=f.one;obtain rfl:u=aY b:=B;obtain⟨z1,hd,d,r1,d1⟩:=qch I.hok g;obtain⟨z2,hd2,c,r2,d2⟩:=qch I.hok j;refine call_meetsIn PySem.F.slot_dict_update d1.typeIs PySem.F.entry_dict_update (PySem.F.args_dict_update_2 _ _) (meets_dict_update (jp X.prog X.w) a b e hd2) ⟨d,c,d1,d2,by rw[<-r1.length,<-r2.length];exact z,λh' e1 k A=>?_⟩;have i:∃q,h'.get? a=iO q:=let ⟨q,_,_,hq,_⟩:=e1; ⟨q,hq⟩
 exact⟨.non,_,QW (t':=s.toks) I (by rw[g];exact c6) A i (UK (be (vW more kvs) z) hd (r2.merge r1) e1),rfl,q⟩
theorem qib{i:Nat}{x:Str}{px apos cpos:Pos}(D:PE X e (tE C own .sh fe))(E:X.N[i]?=iO x:=by rfl)(B:Vis X.env.scope x:=by exact bO rfl)(l:i∈own:=by decide)(hd:Dbg x:=by decide)(o:Cdk x:=by decide)(f:lj (.Name x px) "update" X.env (Y9 (.Name x px) X.env)=Y9 (.Name x px) X.env:=by rfl)
  (w:((lq cpos (iX [e] X.env)).all (λx=>!x.1)&&(ml cpos (lG [] X.env)).all (λx=>x.1.isSome)
   && decide ([e].length+([]:List lv).length+(if ([]:List lv).isEmpty then 0 else 1)<30))=true:=by exact uo rfl)
  (b:(apos.endLine == cpos.line)=true:=by rfl) (hs:iX [e] X.env=[(iS,Y9 e X.env)]:=by exact qD rfl) :
  PE X (.Call (.Attribute (.Name x px) "update" apos) [e] [] cpos) (tE C own .sh (qia i fe)):=by
 refine jy (ZU PySem.F.plainAttrs_dict PySem.F.slot_dict_update PySem.F.type_dict_update qfX (uF E B hd o) (qI D jq hs) f w b hs rfl) λσ H Q y=>?_;obtain⟨F,ρ,p,h⟩:=y;obtain⟨A,k⟩:=p.opn i l;obtain⟨a,h1,h2,G⟩:=p.ow i A l k;unfold qia at h;simp only[k]at h;cases A with
 | dct s=>
  obtain⟨m,I,_⟩:=G;refine⟨.ref a,h1,.inr (.inr (.inl ⟨rfl,.inl ⟨m,I⟩⟩)),F,ρ,p,Po.bind h λv F1 H1 d ρ1 r M c po=>?_⟩;have c:Is C.K F1 v d:=c;obtain⟨d1,j⟩:=r.opn i l;obtain⟨O,e1,J,o1⟩:=r.ow i d1 l j;rw[h1]at e1;cases e1;simp only[j]at po;cases d1 with
  | dct kvs=>
   cases d with
   | dct more=>
    have po:Po C own .sh σ F1 H1 (if kvs.length+more.length<=Z8 then .ok (.non,ρ1.set i (iO (.dct (gk kvs more))))else .bad) Q:=po;by_cases n:kvs.length+more.length<=Z8
    .rw[Aa n]at po;obtain⟨kv,ex,t⟩:=o1;cases c with
     |dct q g=>obtain⟨r3,L⟩:=r.write (u:=.dK (xr kv _)) (d:=.dct (gk kvs more)) l h1 ⟨_,qh,IsK.merge _ g t⟩;exact⟨a,_,kv,_,rfl,rfl,(λz=>by rw[<-z,J]at q;cases q),ex,r.sub _ _ q,by rw[t.length,g.length];exact n,po .non F1 _ r3 L .non⟩
    .rw[Ab n]at po;exact po.elim
   |_=>exact po.elim
  |_=>exact po.elim
 |_=>exact h.elim
end
end L2.D2
namespace PySem
open Sem (wp)
open Builtin PySem.Spec PyProof.Rows
end PySem
namespace L2.D2
open PySem PySem.Spec PyProof.Rows
end L2.D2
set_option maxHeartbeats 4000000
namespace Kx
open PySem PySem.Spec PyProof.Rows L2 L2.D2
noncomputable def top(i:Nat):Z3:=PySem.Challenge.pw_lookwords_k06_whole_looks.main.body.getD i (.Pass ⟨0,0,0,0⟩)
noncomputable def CS:List Str:=["NoWords","NoLook","NoNumbers","NoRoom"]
noncomputable def FS:List Str:=[]
structure Zt(K:Y8)(mg:Str->Option iR)(cv:Str->iR)(ca:Str->Z7):Prop where
 xs:Xs K cv ca CS "WordError"
 mref:∀c∈CS,mg c=iO (.ref (ca c))
 xin:∀c∈CS,fy K (ca c) bmV "ValueError.__new__"=iT
 fref:∀x∈FS,mg x=iO (.ref (ca x))
 z_all:mg "all"=iQ
 z_bool:mg "bool"=iQ
 z_dict:mg "dict"=iQ
 z_enumerate:mg "enumerate"=iQ
 z_int:mg "int"=iQ
 z_isinstance:mg "isinstance"=iQ
 z_len:mg "len"=iQ
 z_list:mg "list"=iQ
 z_max:mg "max"=iQ
 z_min:mg "min"=iQ
 z_range:mg "range"=iQ
 z_reversed:mg "reversed"=iQ
 z_set:mg "set"=iQ
 z_sorted:mg "sorted"=iQ
 z_str:mg "str"=iQ
 z_sum:mg "sum"=iQ
 z_tuple:mg "tuple"=iQ
 z_zip:mg "zip"=iQ
 c_LEAST_PLACE:∃t,mg "LEAST_PLACE"=iO (.int (-3) t)
 c_MOST_LETTERS:∃t,mg "MOST_LETTERS"=iO (.int 6 t)
 c_MOST_PLACE:∃t,mg "MOST_PLACE"=iO (.int 2 t)
 c_MOST_ROOM:∃t,mg "MOST_ROOM"=iO (.int 99 t)
 c_MOST_WORDS:∃t,mg "MOST_WORDS"=iO (.int 6 t)
theorem Qo:iY "all"=iO (.builtin "all"):=by decide +kernel
theorem qau:iY "bool"=iO (.type "bool"):=by decide +kernel
theorem qav:iY "dict"=iO (.type "dict"):=by decide +kernel
theorem qic:iY "int"=iO (.type "int"):=by decide +kernel
theorem jh:iY "isinstance"=iO (.builtin "isinstance"):=by decide +kernel
theorem jo:iY "len"=iO (.builtin "len"):=by decide +kernel
theorem Js:iY "list"=iO (.type "list"):=by decide +kernel
theorem qid:iY "max"=iO (.builtin "max"):=by decide +kernel
theorem qie:iY "min"=iO (.builtin "min"):=by decide +kernel
theorem zx:iY "range"=iO (.type "range"):=by decide +kernel
theorem Ui:iY "reversed"=iO (.type "reversed"):=by decide +kernel
theorem YF:iY "set"=iO (.type "set"):=by decide +kernel
theorem yC:iY "sorted"=iO (.builtin "sorted"):=by decide +kernel
theorem qd5:iY "str"=iO (.type "str"):=by decide +kernel
theorem qaw:iY "sum"=iO (.builtin "sum"):=by decide +kernel
theorem vo:iY "tuple"=iO (.type "tuple"):=by decide +kernel
variable{ca:Str->Z7}
theorem rz{X:Cx}{C:Ct}{own own':List Nat}{as:List AK}{e:Z4}{es:List Z4}{fr:vY}{np cpos pos:Pos}(Z:Zt X.K X.mg C.cv ca)(c:Str)(g:PA X (e::es) (tAr C own as fr))(h:c∈CS:=by decide +kernel)(d:X.ex=[]:=by rfl)(ht:Yc X C:=by exact qhM rfl)(Q:X.calm=true:=by rfl)(hg:Gl X c:=by rfl)(hsz:as.length<=1000:=by decide)(o:∀i∈C.ox,i∈own:=by exact wy rfl)(hd:Dbg c:=by decide)(a:iX (e::es) X.env=(iS,Y9 e X.env)::iX es X.env:=by exact jD rfl)(l:(lq cpos (iX es X.env)).any (·.1)=false:=by rfl):PS X (.Raise (iO (.Call (.Name c np) (e::es) [] cpos)) iQ pos) (tSt C own own' (uY c fr)):=
 GC d ht Q hg (Z.mref c h) (Z.xs.val c h) (Z.xin c h) g hsz o hd a l
instance{α:Type}:Inhabited (Out α):=⟨.bad⟩
structure Ev where
 P:iZ
 w:i3
 K:Y8
 mg:Str->Option iR
 base:Z5
 cv:Str->iR
abbrev qE(e0:Ev):=XN e0.P e0.w e0.K e0.mg e0.base e0.cv
abbrev kI(e0:Ev):=qjw e0.K e0.mg
abbrev ZtE(e0:Ev)(ca:Str->Z7):=Zt e0.K e0.mg e0.cv ca
section
variable{e0:Ev}
abbrev xB:Z3:=top 12
abbrev Vz:List Str:=["thing","least","most"]
def wN:qK:=(qH (sIf (dOr (xu (vU (d1 (xa "int") (qc 0)))) (vU (d1 (xa "bool") (qc 0)))) (jm (dC (.bl iS))) qM)
  (jm (ym leD leD (qc 1) (qc 0) (qc 2))))
abbrev jG:jK:=jW Vz [.val,.val,.val] (wN)
abbrev kM(e0:Ev):=qE e0 1 "is_between" ["thing","least","most"] [.val,.val,.val] .sh (jG)
theorem Jt(Z:ZtE e0 ca)(T:kI e0 "is_between" xB ["thing","least","most"]):kM e0:=
 dW [] T λhr=>(qd (qO (PW.pt (uI (jz (tv (xy rfl rfl Z.z_isinstance jh rfl Z.z_int qic vr))) (jE (tv (xy rfl rfl Z.z_isinstance jh rfl Z.z_bool qau vr))))) (qf (qg vX)) qF)
  (qf (qg (US KJ KJ vr vr vr))))
abbrev xC:Z3:=top 20
abbrev VA:List Str:=["thing"]
def xD:qK:=(sIf (xu (vU (ql [.vl,.vl,.vl] jG (qb (qc 0) (qb (dC (.int 1)) (qb (dC (.int 99)) qu)))))) (uY "NoRoom" (qb (dC (.str "a room is a whole number from 1 to 99")) qu)) qM)
abbrev kC:jK:=jW VA [.val] (xD)
abbrev wb(e0:Ev):=qE e0 2 "check_room" ["thing"] [.val] .sh (kC)
theorem Ju(Z:ZtE e0 ca)(T:kI e0 "check_room" xC ["thing"])(o:kM e0):wb e0:=
 dW [] T λhr=>(qf (qO (jz (tv (cN o (qa vr (qa qm (qa (wa Z.c_MOST_ROOM rfl) qe)))))) (qf (rz Z "NoRoom" (qa yl qe))) qF))
abbrev xE:Z3:=top 17
abbrev VB:List Str:=["thing","count","room"]
def xF:qK:=(qH (sIf (dOr (xu (vU (d1 (xa "tuple") (qc 0)))) (qy (d2 neD (d1 ko (qc 0)) (qc 1)))) (jm (dC (.bl iS))) qM)
  (jm (d1 XO (qN [] 1 [2] (qV (qc 0)) (gNm 0) ftT (ql [.vl,.vl,.vl] jG (qb (qc 0) (qb (dC (.int 0)) (qb (d2 Kg (qc 1) (dC (.int 1))) qu))))))))
abbrev wO:jK:=jW VB [.val,.val,.val] (xF)
abbrev yD(e0:Ev):=qE e0 2 "is_numbers" ["thing","count","room"] [.val,.val,.val] .sh (wO)
theorem Jv(Z:ZtE e0 ca)(T:kI e0 "is_numbers" xE ["thing","count","room"])(o:kM e0):yD e0:=
 dW [] T λhr=>(qd (qO (PW.pt (uI (jz (tv (xy rfl rfl Z.z_isinstance jh rfl Z.z_tuple vo vr))) (jE (qA (gT rfl hr.units) (qx (jr rfl) rfl Z.z_len jo vr) vr)))) (qf (qg vX)) qF)
  (qf (qg (qx (Qh rfl rfl) rfl Z.z_all Qo (cmp (qG rfl vr) (λ_ _ _ _=>(qY o hr (by decide) uB rfl (qa vr (qa qm (qa (qQ uH vr qm) qe))))))))))
abbrev wP:Z3:=top 21
abbrev gl:List Str:=["thing","count","room"]
def wQ:qK:=(sIf (xu (vU (ql [.vl,.vl,.vl] wO (qb (qc 0) (qb (qc 1) (qb (qc 2) qu)))))) (uY "NoNumbers" (qb (dC (.str "numbers are a tuple of a number within the room for each word")) qu)) qM)
abbrev vb:jK:=jW gl [.val,.val,.val] (wQ)
abbrev wt(e0:Ev):=qE e0 3 "check_numbers" ["thing","count","room"] [.val,.val,.val] .sh (vb)
theorem zg(Z:ZtE e0 ca)(T:kI e0 "check_numbers" wP ["thing","count","room"])(o:yD e0):wt e0:=
 dW [] T λhr=>(qf (qO (jz (tv (cN o (qa vr (qa vr (qa vr qe)))))) (qf (rz Z "NoNumbers" (qa yl qe))) qF))
abbrev gm:Z3:=top 13
abbrev Uj:List Str:=["thing"]
def wc:qK:=(jm (WN (d1 (xa "str") (qc 0)) (WN (d2 eqD (d1 ko (qc 0)) (dC (.int 1))) (ym leD leD (dC (.str "a")) (qc 0) (dC (.str "z"))))))
abbrev we:jK:=jW Uj [.val] (wc)
abbrev xG(e0:Ev):=qE e0 1 "is_letter" ["thing"] [.val] .sh (we)
theorem VC(Z:ZtE e0 ca)(T:kI e0 "is_letter" gm ["thing"]):xG e0:=
 dW [] T λhr=>(qf (qg (UQ (xy rfl rfl Z.z_isinstance jh rfl Z.z_str qd5 vr) (UQ (vH (xc rfl hr.units) (qx (jr rfl) rfl Z.z_len jo vr) qm) (Gk (US KJ KJ yl vr yl))))))
abbrev VD:Z3:=top 14
abbrev qax:List Str:=["thing"]
def VE:qK:=(qH (sIf (dOr (xu (vU (d1 (xa "str") (qc 0)))) (xu (qy (ym leD leD (dC (.int 1)) (d1 ko (qc 0)) (dC (.int 6)))))) (jm (dC (.bl iS))) qM)
  (jm (d1 XO (qN [] 1 [] (qV (qc 0)) (gNm 0) ftT (ql [.vl] we (qb (qc 0) qu))))))
abbrev yE:jK:=jW qax [.val] (VE)
abbrev Qp(e0:Ev):=qE e0 2 "is_word" ["thing"] [.val] .sh (yE)
theorem Zi(Z:ZtE e0 ca)(T:kI e0 "is_word" VD ["thing"])(o:xG e0):Qp e0:=
 dW [] T λhr=>(qd (qO (PW.pt (uI (jz (tv (xy rfl rfl Z.z_isinstance jh rfl Z.z_str qd5 vr))) (jE (jz (KI KJ KJ qm (qx (jr rfl) rfl Z.z_len jo vr) (wa Z.c_MOST_LETTERS rfl)))))) (qf (qg vX)) qF)
  (qf (qg (qx (Qh rfl rfl) rfl Z.z_all Qo (cmp (qG rfl vr) (λ_ _ _ _=>(qY o hr (by decide) uB rfl (qa vr qe))))))))
abbrev Qq:Z3:=top 15
abbrev Zj:List Str:=["thing"]
def Qr:qK:=(qH (sIf (dOr (xu (vU (d1 (xa "tuple") (qc 0)))) (xu (qy (ym leD leD (dC (.int 1)) (d1 ko (qc 0)) (dC (.int 6)))))) (jm (dC (.bl iS))) qM)
  (jm (WN (d1 XO (qN [] 1 [] (qV (qc 0)) (gNm 0) ftT (ql [.vl] yE (qb (qc 0) qu)))) (d2 eqD (d1 gb (qc 0)) (d1 ko (qc 0))))))
abbrev xl:jK:=jW Zj [.val] (Qr)
abbrev gp(e0:Ev):=qE e0 3 "is_words" ["thing"] [.val] .sh (xl)
theorem Uk(Z:ZtE e0 ca)(T:kI e0 "is_words" Qq ["thing"])(O:Qp e0):gp e0:=
 dW [] T λhr=>(qd (qO (PW.pt (uI (jz (tv (xy rfl rfl Z.z_isinstance jh rfl Z.z_tuple vo vr))) (jE (jz (KI KJ KJ qm (qx (jr rfl) rfl Z.z_len jo vr) (wa Z.c_MOST_WORDS rfl)))))) (qf (qg vX)) qF)
  (qf (qg (UQ (qx (Qh rfl rfl) rfl Z.z_all Qo (cmp (qG rfl vr) (λ_ _ _ _=>(qY O hr (by decide) uB rfl (qa vr qe))))) (Gk (vH (xc rfl hr.units) (GT rfl rfl rfl Z.z_len jo rfl Z.z_set YF vr) (qx (jr rfl) rfl Z.z_len jo vr)))))))
abbrev yF:Z3:=top 18
abbrev Jw:List Str:=["thing"]
def yG:qK:=(sIf (xu (vU (ql [.vl] xl (qb (qc 0) qu)))) (uY "NoWords" (qb (dC (.str "words are a tuple of 1 to 6 unlike words of 1 to 6 letters from a to z")) qu)) qM)
abbrev kN:jK:=jW Jw [.val] (yG)
abbrev vB(e0:Ev):=qE e0 4 "check_words" ["thing"] [.val] .sh (kN)
theorem gX(Z:ZtE e0 ca)(T:kI e0 "check_words" yF ["thing"])(O:gp e0):vB e0:=
 dW [] T λhr=>(qf (qO (jz (tv (cN O (qa vr qe)))) (qf (rz Z "NoWords" (qa yl qe))) qF))
abbrev VF:Z3:=top 16
abbrev qay:List Str:=["thing"]
def VG:qK:=(qH (sIf (dOr (xu (vU (d1 (xa "tuple") (qc 0)))) (qy (d2 neD (d1 ko (qc 0)) (dC (.int 2))))) (jm (dC (.bl iS))) qM)
  (jm (d1 XO (qN [] 1 [] (qV (qc 0)) (gNm 0) ftT (ql [.vl,.vl,.vl] jG (qb (qc 0) (qb (dC (.int (-3))) (qb (dC (.int 2)) qu))))))))
abbrev gq:jK:=jW qay [.val] (VG)
abbrev Qs(e0:Ev):=qE e0 2 "is_look" ["thing"] [.val] .sh (gq)
theorem Zk(Z:ZtE e0 ca)(T:kI e0 "is_look" VF ["thing"])(o:kM e0):Qs e0:=
 dW [] T λhr=>(qd (qO (PW.pt (uI (jz (tv (xy rfl rfl Z.z_isinstance jh rfl Z.z_tuple vo vr))) (jE (qA (gT rfl hr.units) (qx (jr rfl) rfl Z.z_len jo vr) qm)))) (qf (qg vX)) qF)
  (qf (qg (qx (Qh rfl rfl) rfl Z.z_all Qo (cmp (qG rfl vr) (λ_ _ _ _=>(qY o hr (by decide) uB rfl (qa vr (qa (wa Z.c_LEAST_PLACE rfl) (qa (wa Z.c_MOST_PLACE rfl) qe))))))))))
abbrev xH:Z3:=top 19
abbrev VH:List Str:=["thing"]
def xI:qK:=(sIf (xu (vU (ql [.vl] gq (qb (qc 0) qu)))) (uY "NoLook" (qb (dC (.str "a look is a tuple of two places from -3 to 2")) qu)) qM)
abbrev wR:jK:=jW VH [.val] (xI)
abbrev yH(e0:Ev):=qE e0 3 "check_look" ["thing"] [.val] .sh (wR)
theorem Jx(Z:ZtE e0 ca)(T:kI e0 "check_look" xH ["thing"])(O:Qs e0):yH e0:=
 dW [] T λhr=>(qf (qO (jz (tv (cN O (qa vr qe)))) (qf (rz Z "NoLook" (qa yl qe))) qF))
abbrev gt:Z3:=top 24
abbrev Ul:List Str:=["word","place","at"]
def yd:qK:=(qH (qX 2 (dIf (qy (d2 geD (qc 1) (dC (.int 0)))) (qc 1) (d2 ki (d1 ko (qc 0)) (qc 1))))
  (jm (d2 ixD (qc 0) (d2 qjy (dC (.int 0)) (d2 qjz (qc 2) (d2 Kg (d1 ko (qc 0)) (dC (.int 1))))))))
abbrev vc:jK:=jW Ul [.val,.val] (yd)
abbrev xJ(e0:Ev):=qE e0 1 "letter_at" ["word","place"] [.val,.val] .sh (vc)
theorem VI(Z:ZtE e0 ca)(T:kI e0 "letter_at" gt ["word","place"]):xJ e0:=
 dW [] T λhr=>(qd (se (qcs (qA qhy vr qm) vr (qQ (jt rfl) (qx (jr rfl) rfl Z.z_len jo vr) vr)))
  (qf (qg (ix vr (KS (qhI rfl) rfl Z.z_max qid qm (KS (qhJ rfl) rfl Z.z_min qie vr (qQ uH (qx (jr rfl) rfl Z.z_len jo vr) qm)))))))
abbrev qaz:Z3:=top 25
abbrev qfY:List Str:=["words","look"]
def qaA:qK:=(qH (kn (ql [.vl] kN (qb (qc 0) qu)))
  (qH (kn (ql [.vl] wR (qb (qc 1) qu)))
  (jm (qN [] 1 [1] (qV (qc 0)) (gNm 0) ftT (yh (qb (ql [.vl,.vl] vc (qb (qc 0) (qb (d2 ixD (qc 1) (dC (.int 0))) qu))) (qb (ql [.vl,.vl] vc (qb (qc 0) (qb (d2 ixD (qc 1) (dC (.int 1))) qu))) qu)))))))
abbrev wf:jK:=jW qfY [.val,.val] (qaA)
abbrev yI(e0:Ev):=qE e0 5 "pairs" ["words","look"] [.val,.val] .sh (wf)
theorem qc3(Z:ZtE e0 ca)(T:kI e0 "pairs" qaz ["words","look"])(v:vB e0)(X:yH e0)(o:xJ e0):yI e0:=
 dW [] T λhr=>(qd (je (cN v (qa vr qe)))
  (qd (je (cN X (qa vr qe)))
  (qf (qg (cmp (qG rfl vr) (λ_ _ _ _=>(kU (qa (qY o hr (by decide) uB rfl (qa vr (qa (ix vr qm) qe))) (qa (qY o hr (by decide) uB rfl (qa vr (qa (ix vr qm) qe))) qe)))))))))
abbrev xK:Z3:=top 28
abbrev VJ:List Str:=["words","look","room","numbers","seen"]
def xL:qK:=(qH (qX 4 (ql [.vl,.vl] wf (qb (qc 0) (qb (qc 1) qu))))
  (qH (kn (ql [.vl] kC (qb (qc 2) qu)))
  (qH (kn (ql [.vl,.vl,.vl] vb (qb (qc 3) (qb (d1 ko (qc 0)) (qb (qc 2) qu)))))
  (jm (qc 4)))))
abbrev wS:jK:=jW VJ [.val,.val,.val,.val] (xL)
abbrev yJ(e0:Ev):=qE e0 6 "told_pairs" ["words","look","room","numbers"] [.val,.val,.val,.val] .sh (wS)
theorem Jy(Z:ZtE e0 ca)(T:kI e0 "told_pairs" xK ["words","look","room","numbers"])(D:wb e0)(K:wt e0)(o:yI e0):yJ e0:=
 dW [] T λhr=>(qd (se (cN o (qa vr (qa vr qe))))
  (qd (je (cN D (qa vr qe)))
  (qd (je (cN K (qa vr (qa (qx (jr rfl) rfl Z.z_len jo vr) (qa vr qe)))))
  (qf (qg vr)))))
abbrev YG:Z3:=top 31
abbrev qc4:List Str:=["walk"]
def Jz:qK:=(jm (d2 eqD (d2 zc (d1 ko (qc 0)) (dC (.int 2))) (dC (.int 1))))
abbrev wg:jK:=jW qc4 [.val] (Jz)
abbrev yK(e0:Ev):=qE e0 1 "is_odd" ["walk"] [.val] .sh (wg)
theorem qaB(Z:ZtE e0 ca)(T:kI e0 "is_odd" YG ["walk"]):yK e0:=
 dW [] T λhr=>(qf (qg (vH (xc rfl hr.units) (qQ wq (qx (jr rfl) rfl Z.z_len jo vr) qm) qm)))
abbrev Qt:Z3:=top 30
abbrev Qu:List Str:=["walk","numbers","start","total","at"]
def Qv:qK:=(qH (qX 3 (qc 2))
  (qH (vz (qV (qc 0)) (gNm 4)
  (qX 3 (d2 Kg (d2 ixD (qc 1) (qc 4)) (qc 3))))
  (jm (qc 3))))
abbrev xm:jK:=jW Qu [.val,.val,.val] (Qv)
abbrev gu(e0:Ev):=qE e0 1 "comes_to" ["walk","numbers","start"] [.val,.val,.val] .sh (xm)
theorem Um(Z:ZtE e0 ca)(T:kI e0 "comes_to" Qt ["walk","numbers","start"]):gu e0:=
 dW [] T λhr=>(qd (se vr)
  (qd (ja aJ rfl (qG rfl vr) gn
  (qf (se (qQ uH (ix vr vr) vr))))
  (qf (qg vr))))
abbrev qd6:Z3:=top 32
abbrev qif:List Str:=["walk","room","numbers","total"]
def qaC:qK:=(qH (qX 3 (ql [.vl,.vl,.vl] xm (qb (qc 0) (qb (qc 2) (qb (dC (.int 0)) qu)))))
  (qH (sIf (vU (ql [.vl] wg (qb (qc 0) qu))) (jm (WN (d2 eqD (d2 zc (qc 1) (dC (.int 2))) (dC (.int 0))) (d2 eqD (d2 zc (qc 3) (dC (.int 2))) (dC (.int 1))))) qM)
  (jm (d2 neD (d2 zc (qc 3) (qc 1)) (dC (.int 0))))))
abbrev YH:jK:=jW qif [.val,.val,.val] (qaC)
abbrev qaD(e0:Ev):=qE e0 2 "bars" ["walk","room","numbers"] [.val,.val,.val] .sh (YH)
theorem qfZ(Z:ZtE e0 ca)(T:kI e0 "bars" qd6 ["walk","room","numbers"])(a:gu e0)(o:yK e0):qaD e0:=
 dW [] T λhr=>(qd (se (cN a (qa vr (qa vr (qa qm qe)))))
  (qd (qO (tv (cN o (qa vr qe))) (qf (qg (UQ (vH (xc rfl hr.units) (qQ wq vr qm) qm) (Gk (vH (xc rfl hr.units) (qQ wq vr qm) qm))))) qF)
  (qf (qg (vH (gT rfl hr.units) (qQ wq vr vr) qm)))))
abbrev xM:Z3:=top 26
abbrev VL:List Str:=["seen"]
def xN:qK:=(jm (d1 uv (d2 ki (qN [] 1 [] (qV (qc 0)) (gNm 0) ftT (d2 ixD (qc 0) (dC (.int 0)))) (qN [] 1 [] (qV (qc 0)) (gNm 0) ftT (d2 ixD (qc 0) (dC (.int 1)))))))
abbrev ji:jK:=jW VL [.val] (xN)
abbrev kO(e0:Ev):=qE e0 1 "letters_of" ["seen"] [.val] .sh (ji)
theorem JA(Z:ZtE e0 ca)(T:kI e0 "letters_of" xM ["seen"]):kO e0:=
 dW [] T λhr=>(qf (qg (Ql rfl rfl rfl Z.z_sorted yC rfl Z.z_set YF (qQ (jt rfl) (cmp (qG rfl vr) (λ_ _ _ _=>(ix vr qm))) (cmp (qG rfl vr) (λ_ _ _ _=>(ix vr qm)))))))
abbrev uL:Z3:=top 29
abbrev gY:List Str:=["pair","letter"]
def uM:qK:=(jm (dIf (qy (d2 eqD (qc 1) (d2 ixD (qc 0) (dC (.int 0))))) (d2 ixD (qc 0) (dC (.int 1))) (d2 ixD (qc 0) (dC (.int 0)))))
abbrev kA:jK:=jW gY [.val,.val] (uM)
abbrev wT(e0:Ev):=qE e0 1 "other_letter" ["pair","letter"] [.val,.val] .sh (kA)
theorem gx(Z:ZtE e0 ca)(T:kI e0 "other_letter" uL ["pair","letter"]):wT e0:=
 dW [] T λhr=>(qf (qg (qcs (qA (xc rfl hr.units) vr (ix vr qm)) (ix vr qm) (ix vr qm))))
abbrev YI:Z3:=top 33
abbrev YJ:List Str:=["seen","root","ways","waiting","letter","at","pair","reached"]
def YK:qK:=(qH (vg 2 (yh (qb (qc 1) (qb (yo qu) qu))) (qc 1))
  (qH (qX 3 (yo (qb (qc 1) qu)))
  (jf (qy (d2 gtD (d1 ko (qc 3)) (dC (.int 0))))
  (qH (qX 4 (qac 3))
  (vz (Vn (qc 0)) (jM 2 (qw (gNm 5) (qw (gNm 6) jL)))
  (qH (qX 7 (ql [.vl,.vl] kA (qb (qc 6) (qb (qc 4) qu))))
  (sIf (Kh (qy (d2 inA (qc 4) (qc 6))) (qy (d2 vf (qc 7) (qc 2)))) (qH (vg 2 (yh (qb (qc 1) (qb (d2 ki (d2 ixD (d2O 2 ixD (qc 4)) (dC (.int 1))) (yo (qb (qc 5) qu))) qu))) (qc 7))
  (kn (xx 3 Kk (qc 7)))) qM)))) 20)))
abbrev zy:jK:=jW YJ [.val,.val,.io] (YK)
abbrev VM(e0:Ev):=qE e0 2 "spread" ["seen","root","ways"] [.val,.val,.io] .sh (zy)
theorem qaE(Z:ZtE e0 ca)(T:kI e0 "spread" YI ["seen","root","ways"])(o:wT e0):VM e0:=
 dW [3,2] T λhr=>(qd (vn (n:=2) hr.units rfl (bO rfl) (by decide) (kU (qa vr (qa (kc qe) qe))) vr)
  (qd (sO (kc (qa vr qe)))
  (qf (zJ 20 aJ (qA qkh (qx (jr rfl) rfl Z.z_len jo vO) qm)
  (qd (se (qfF (i:=3) rfl (bO rfl) (by decide)))
  (qf (ja aJ rfl (Jn rfl rfl Z.z_enumerate vr) (vy rfl rfl (qL gn (qL gn kz)))
  (qd (se (cN o (qa vr (qa vr qe))))
  (qf (qO (PW.pt (wC (qA (uJ rfl hr.units) vr vr) (jE (qA (jF rfl hr.units) vr vO)))) (qd (vn (n:=2) hr.units rfl (bO rfl) (by decide) (kU (qa vr (qa (qQ (jt rfl) (ix (Vo (i:=2) rfl hr.units rfl (bO rfl) (by decide) vr (λ_ _=>rfl)) qm) (kc (qa vr qe))) qe))) vr)
  (qf (je (wK (i:=3) rfl rfl (bO rfl) (by decide) vr)))) qF))))))))))
abbrev VN:Z3:=top 34
abbrev VO:List Str:=["seen","ways","letter"]
def VP:qK:=(qH (qX 1 (dC (.dct [])))
  (qH (vz (qV (ql [.vl] ji (qb (qc 0) qu))) (gNm 2)
  (sIf (qy (d2 vf (qc 2) (qc 1))) (kn (ql [.vl,.vl,.sl 1] zy (qb (qc 0) (qb (qc 2) (kb qu))))) qM))
  (jm (qc 1))))
abbrev yL:jK:=jW VO [.val] (VP)
abbrev Qw(e0:Ev):=qE e0 3 "ways_of" ["seen"] [.val] .sh (yL)
theorem Zl(Z:ZtE e0 ca)(T:kI e0 "ways_of" VN ["seen"])(o:kO e0)(O:VM e0):Qw e0:=
 dW [] T λhr=>(qd (sO ur)
  (qd (ja aJ rfl (qG rfl (cN o (qa vr qe))) gn
  (qf (qO (qA (jF rfl hr.units) vr vO) (qf (je (cN O (qa vr (qa vr (sl qe)))))) qF)))
  (jA [1] (qf (qg vr)))))
abbrev xO:Z3:=top 35
abbrev xP:List Str:=["seen","ways","found","at","pair","back"]
def xQ:qK:=(qH (qX 2 (yo qu))
  (qH (vz (Vn (qc 0)) (jM 2 (qw (gNm 3) (qw (gNm 4) jL)))
  (qH (qX 5 (d1 yA (d2 ixD (d2 ixD (qc 1) (d2 ixD (qc 4) (dC (.int 1)))) (dC (.int 1)))))
  (kn (xx 2 Kk (yh (qb (d2 ixD (d2 ixD (qc 1) (d2 ixD (qc 4) (dC (.int 0)))) (dC (.int 0))) (qb (d2 ki (d2 ki (d2 ixD (d2 ixD (qc 1) (d2 ixD (qc 4) (dC (.int 0)))) (dC (.int 1))) (yo (qb (qc 3) qu))) (qc 5)) qu)))))))
  (jm (qc 2))))
abbrev wU:jK:=jW xP [.val,.val] (xQ)
abbrev yM(e0:Ev):=qE e0 1 "circles_of" ["seen","ways"] [.val,.val] .sh (wU)
theorem JB(Z:ZtE e0 ca)(T:kI e0 "circles_of" xO ["seen","ways"]):yM e0:=
 dW [] T λhr=>(qd (sO (kc qe))
  (qd (ja aJ rfl (Jn rfl rfl Z.z_enumerate vr) (vy rfl rfl (qL gn (qL gn kz)))
  (qd (se (Za rfl rfl rfl Z.z_list Js rfl Z.z_reversed Ui (ix (ix vr (ix vr qm)) qm)))
  (qf (je (wK (i:=2) rfl rfl (bO rfl) (by decide) (kU (qa (ix (ix vr (ix vr qm)) qm) (qa (qQ (jt rfl) (qQ (jt rfl) (ix (ix vr (ix vr qm)) qm) (kc (qa vr qe))) vr) qe))))))))
  (jA [2] (qf (qg vr)))))
abbrev gy:Z3:=top 36
abbrev gz:List Str:=["circles","first","root","walk"]
def gA:qK:=(qH (qX 1 (dC (.dct [])))
  (qH (vz (qV (qc 0)) (jM 2 (qw (gNm 2) (qw (gNm 3) jL)))
  (sIf (Kh (vU (ql [.vl] wg (qb (qc 3) qu))) (qy (d2 vf (qc 2) (qc 1)))) (vg 1 (qc 3) (qc 2)) qM))
  (jm (qc 1))))
abbrev ye:jK:=jW gz [.val] (gA)
abbrev xR(e0:Ev):=qE e0 2 "first_odd" ["circles"] [.val] .sh (ye)
theorem VQ(Z:ZtE e0 ca)(T:kI e0 "first_odd" gy ["circles"])(o:yK e0):xR e0:=
 dW [] T λhr=>(qd (sO ur)
  (qd (ja aJ rfl (qG rfl vr) (vy rfl rfl (qL gn (qL gn kz)))
  (qf (qO (PW.pt (wC (tv (cN o (qa vr qe))) (jE (qA (jF rfl hr.units) vr vO)))) (qf (vn (n:=1) hr.units rfl (bO rfl) (by decide) vr vr)) qF)))
  (jA [1] (qf (qg vr)))))
abbrev YL:Z3:=top 37
abbrev YM:List Str:=["seen","room","numbers","circles","first","joined","root","walk"]
def YN:qK:=(qH (qX 3 (ql [.vl,.vl] wU (qb (qc 0) (qb (ql [.vl] yL (qb (qc 0) qu)) qu))))
  (qH (qX 4 (ql [.vl] ye (qb (qc 3) qu)))
  (qH (qX 5 (qN [] 2 [4] (qV (qc 3)) (jM 2 (qw (gNm 0) (qw (gNm 1) jL))) (vU (ql [.vl] wg (qb (qc 1) qu))) (yh (qb (qc 0) (qb (d2 ki (d2 ixD (qc 2) (qc 0)) (qc 1)) qu)))))
  (qH (vz (qV (d2 ki (qc 3) (qc 5))) (jM 2 (qw (gNm 6) (qw (gNm 7) jL)))
  (sIf (vU (ql [.vl,.vl,.vl] YH (qb (qc 7) (qb (qc 1) (qb (qc 2) qu))))) (jm (yh (qb (qc 6) (qb (qc 7) qu)))) qM))
  (jm (dC .non))))))
abbrev JC:jK:=jW YM [.val,.val,.val] (YN)
abbrev VR(e0:Ev):=qE e0 4 "bar_of" ["seen","room","numbers"] [.val,.val,.val] .sh (JC)
theorem qaF(Z:ZtE e0 ca)(T:kI e0 "bar_of" YL ["seen","room","numbers"])(o:yK e0)(O:qaD e0)(g:Qw e0)(V:yM e0)(a:xR e0):VR e0:=
 dW [] T λhr=>(qd (se (cN V (qa vr (qa (cN g (qa vr qe)) qe))))
  (qd (se (cN a (qa vr qe)))
  (qd (qh5 (qG rfl vr) (λ_ _ _ _=>(kU (qa vr (qa (qQ (jt rfl) (ix vr vr) vr) qe)))) (hg:=λ_ _ _ _=>(vy rfl rfl (qL gC (qL gC kz)))) (ht:=λ_ _ _ _=>(wJ (tv (qY o hr (by decide) uB rfl (qa vr qe))))))
  (qd (ja aJ rfl (qG rfl (qQ (jt rfl) vr vO)) (vy rfl rfl (qL gn (qL gn kz)))
  (qf (qO (tv (cN O (qa vr (qa vr (qa vr qe))))) (qf (qg (kU (qa vr (qa vr qe))))) qF)))
  (qf (qg vI))))))
abbrev qig:Z3:=top 38
abbrev qkE:List Str:=["words","look","room","numbers"]
def qih:qK:=(jm (ql [.vl,.vl,.vl] JC (qb (ql [.vl,.vl,.vl,.vl] wS (qb (qc 0) (qb (qc 1) (qb (qc 2) (qb (qc 3) qu))))) (qb (qc 2) (qb (qc 3) qu)))))
abbrev Zm:jK:=jW qkE [.val,.val,.val,.val] (qih)
abbrev qaG(e0:Ev):=qE e0 7 "bar" ["words","look","room","numbers"] [.val,.val,.val,.val] .sh (Zm)
theorem qii(Z:ZtE e0 ca)(T:kI e0 "bar" qig ["words","look","room","numbers"])(o:yJ e0)(O:VR e0):qaG e0:=
 dW [] T λhr=>(qf (qg (cN O (qa (cN o (qa vr (qa vr (qa vr (qa vr qe))))) (qa vr (qa vr qe))))))
abbrev Qx:Z3:=top 40
abbrev Zn:List Str:=["pair","seen","fixed","letter"]
def Qy:qK:=(qH (vz (qV (qc 0)) (gNm 3)
  (sIf (Kh (qy (d2 vf (qc 3) (qc 2))) (qy (d2 eqD (d1 Jl (qN [] 1 [3] (qV (qc 1)) (gNm 0) ftT (dM qgQ uK (qc 0) (qc 1)))) (dC (.int 1))))) (jm (dC (.bl iT))) qM))
  (jm (dC (.bl iS))))
abbrev jZ:jK:=jW Zn [.val,.val,.val] (Qy)
abbrev gB(e0:Ev):=qE e0 1 "is_loose" ["pair","seen","fixed"] [.val,.val,.val] .sh (jZ)
theorem Uo(Z:ZtE e0 ca)(T:kI e0 "is_loose" Qx ["pair","seen","fixed"]):gB e0:=
 dW [] T λhr=>(qd (ja aJ rfl (qG rfl vr) gn
  (qf (qO (PW.pt (wC (qA (jF rfl hr.units) vr vr) (jE (qA (xc rfl hr.units) (qx (Ud rfl rfl) rfl Z.z_sum qaw (cmp (qG rfl vr) (λ_ _ _ _=>(qah rfl hr.units vr vr)))) qm)))) (qf (qg vX)) qF)))
  (qf (qg vX)))
abbrev yN:Z3:=top 41
abbrev yO:List Str:=["seen","fixed","kept","rest"]
def yP:qK:=(qH (qX 2 (qc 0))
  (qH (qX 3 (qN [] 1 [2,1] (qV (qc 2)) (gNm 0) (xu (vU (ql [.vl,.vl,.vl] jZ (qb (qc 0) (qb (qc 1) (qb (qc 2) qu)))))) (qc 0)))
  (qH (jf (qy (d2 ltD (d1 ko (qc 3)) (d1 ko (qc 2))))
  (qH (qX 2 (qc 3))
  (qH (qX 3 (qN [] 1 [2,1] (qV (qc 2)) (gNm 0) (xu (vU (ql [.vl,.vl,.vl] jZ (qb (qc 0) (qb (qc 1) (qb (qc 2) qu)))))) (qc 0))) qM)) 20)
  (jm (qc 2)))))
abbrev wj:jK:=jW yO [.val,.val] (yP)
abbrev uN(e0:Ev):=qE e0 2 "bound_pairs" ["seen","fixed"] [.val,.val] .sh (wj)
theorem gZ(Z:ZtE e0 ca)(T:kI e0 "bound_pairs" yN ["seen","fixed"])(o:gB e0):uN e0:=
 dW [] T λhr=>(qd (se vr)
  (qd (qh5 (qG rfl vr) (λ_ _ _ _=>vr) (ht:=λ_ _ _ _=>(wJ (jz (tv (qY o hr (by decide) uB rfl (qa vr (qa vr (qa vr qe)))))))))
  (jA [3] (qd (zJ 20 aJ (qA qcn (qx (jr rfl) rfl Z.z_len jo vr) (qx (jr rfl) rfl Z.z_len jo vr))
  (qd (se vr)
  (qd (qh5 (qG rfl vr) (λ_ _ _ _=>vr) (ht:=λ_ _ _ _=>(wJ (jz (tv (qY o hr (by decide) uB rfl (qa vr (qa vr (qa vr qe)))))))))
  (jA [3] qF))))
  (qf (qg vr))))))
abbrev Qz:Z3:=top 42
abbrev QA:List Str:=["one","two","first","second","letter"]
def QB:qK:=(qH (qX 2 (d1 qfn (qc 0)))
  (qH (qX 3 (yo qu))
  (qH (vz (qV (qc 1)) (gNm 4)
  (sIf (qy (d2 inA (qc 4) (qc 2))) (kn (xx 2 qfH (qc 4))) (kn (xx 3 Kk (qc 4)))))
  (jm (yh (qb (qc 2) (qb (qc 3) qu)))))))
abbrev ku:jK:=jW QA [.val,.val] (QB)
abbrev gD(e0:Ev):=qE e0 1 "unshared" ["one","two"] [.val,.val] .sh (ku)
theorem Up(Z:ZtE e0 ca)(T:kI e0 "unshared" Qz ["one","two"]):gD e0:=
 dW [] T λhr=>(qd (sO (vK (qfo rfl) rfl Z.z_list Js vr))
  (qd (sO (kc qe))
  (qd (ja aJ rfl (qG rfl vr) gn
  (qf (qO (qA (uJ rfl hr.units) vr vO) (qf (je (qaf (i:=2) rfl (bO rfl) (by decide) vr))) (qf (je (wK (i:=3) rfl rfl (bO rfl) (by decide) vr))))))
  (jA [2,3] (qf (qg (kU (qa vr (qa vr qe)))))))))
abbrev uO:Z3:=top 43
abbrev Qa:List Str:=["seen","found","later","pair"]
def uP:qK:=(qH (qX 1 (yo qu))
  (qH (vz (Vn (qc 0)) (jM 2 (qw (gNm 2) (qw (gNm 3) jL)))
  (kn (xx 1 qcD (qN [1] 1 [3] (qV (va (qc 0) iQ (iO (qc 2)))) (gNm 0) ftT (ql [.vl,.vl] ku (qb (qc 0) (qb (qc 1) qu)))))))
  (jm (qc 1))))
abbrev vC:jK:=jW Qa [.val] (uP)
abbrev wV(e0:Ev):=qE e0 2 "contrasts_of" ["seen"] [.val] .sh (vC)
theorem gE(Z:ZtE e0 ca)(T:kI e0 "contrasts_of" uO ["seen"])(O:gD e0):wV e0:=
 dW [] T λhr=>(qd (sO (kc qe))
  (qd (ja aJ rfl (Jn rfl rfl Z.z_enumerate vr) (vy rfl rfl (qL gn (qL gn kz)))
  (qf (je (zN (i:=1) rfl (bO rfl) (by decide) (cmp (qG rfl (Vq rfl vr vh (vi vr))) (λ_ _ _ _=>(qY O hr (by decide) uB rfl (qa vr (qa vr qe)))))))))
  (jA [1] (qf (qg vr)))))
abbrev xS:Z3:=top 44
abbrev xT:List Str:=["contrast","room","fixed","first","second"]
def xU:qK:=(qH (qX 3 (d2 ixD (qc 0) (dC (.int 0))))
  (qH (qX 4 (d2 ixD (qc 0) (dC (.int 1))))
  (qH (sIf (xu (vU (d1 XO (qN [] 1 [2] (qV (d2 ki (qc 3) (qc 4))) (gNm 0) ftT (d2 inA (qc 0) (qc 1)))))) (jm (dC (.bl iT))) qM)
  (jm (d2 neD (d2 zc (d2 Kg (d1 Jl (qN [] 1 [2] (qV (qc 3)) (gNm 0) ftT (d2 ixD (qc 1) (qc 0)))) (d1 Jl (qN [] 1 [2] (qV (qc 4)) (gNm 0) ftT (d2 ixD (qc 1) (qc 0))))) (qc 1)) (dC (.int 0)))))))
abbrev kE:jK:=jW xT [.val,.val,.val] (xU)
abbrev wl(e0:Ev):=qE e0 1 "may_differ" ["contrast","room","fixed"] [.val,.val,.val] .sh (kE)
theorem JD(Z:ZtE e0 ca)(T:kI e0 "may_differ" xS ["contrast","room","fixed"]):wl e0:=
 dW [] T λhr=>(qd (se (ix vr qm))
  (qd (se (ix vr qm))
  (qd (qO (jz (tv (qx (Qh rfl rfl) rfl Z.z_all Qo (cmp (qG rfl (qQ (jt rfl) vr vr)) (λ_ _ _ _=>(vH (uJ rfl hr.units) vr vr)))))) (qf (qg vX)) qF)
  (qf (qg (vH (gT rfl hr.units) (qQ wq (qQ uH (qx (Ud rfl rfl) rfl Z.z_sum qaw (cmp (qG rfl vr) (λ_ _ _ _=>(ix vr vr)))) (qx (Ud rfl rfl) rfl Z.z_sum qaw (cmp (qG rfl vr) (λ_ _ _ _=>(ix vr vr))))) vr) qm))))))
abbrev xV:Z3:=top 45
abbrev VS:List Str:=["fixed","letter","worth","more"]
def xW:qK:=(qH (qX 3 (d1 Vp (qc 0)))
  (qH (vg 3 (qc 2) (qc 1))
  (jm (qc 3))))
abbrev vp:jK:=jW VS [.val,.val,.val] (xW)
abbrev wm(e0:Ev):=qE e0 1 "with_worth" ["fixed","letter","worth"] [.val,.val,.val] .sh (vp)
theorem JE(Z:ZtE e0 ca)(T:kI e0 "with_worth" xV ["fixed","letter","worth"]):wm e0:=
 dW [] T λhr=>(qd (sO (vK (Yx rfl) rfl Z.z_dict qav vr))
  (qd (vn (n:=3) hr.units rfl (bO rfl) (by decide) vr vr)
  (jA [3] (qf (qg vr)))))
abbrev kf:Z3:=top 46
abbrev jH:List Str:=["contrasts","room","fixed","letters","choices","worth"]
abbrev kg:List Str:=["contrasts","room","fixed","letters"]
theorem zh:FnScope jH kg (jb kf):=fsc
def jw(gr:jK):qK:=(qH (sIf (xu (vU (d1 XO (qN [] 1 [1,2] (qV (qc 0)) (gNm 0) ftT (ql [.vl,.vl,.vl] kE (qb (qc 0) (qb (qc 1) (qb (qc 2) qu)))))))) (jm (dC (.bl iS))) qM)
  (qH (sIf (qy (d2 eqD (d1 ko (qc 3)) (dC (.int 0)))) (jm (dC (.bl iT))) qM)
  (qH (qX 4 (dIf (qy (d2 eqD (d1 ko (qc 2)) (dC (.int 0)))) (yo (qb (dC (.int 0)) qu)) (d1 uw (qc 1))))
  (qH (vz (qV (qc 4)) (gNm 5)
  (sIf (vU (ql [.vl,.vl,.vl,.vl] gr (qb (qc 0) (qb (qc 1) (qb (ql [.vl,.vl,.vl] vp (qb (qc 2) (qb (d2 ixD (qc 3) (dC (.int 0))) (qb (qc 5) qu)))) (qb (va (qc 3) (iO (dC (.int 1))) iQ) qu)))))) (jm (dC (.bl iT))) qM))
  (jm (dC (.bl iS)))))))
def qS:Nat->jK
 | 0=>jW jH [.val,.val,.val,.val] qlq
 |n+1=>jW jH [.val,.val,.val,.val] (jw (qS n))
abbrev wW:jK:=qS 14
abbrev wu(e0:Ev):=qE e0 16 "can_be_filled" kg [.val,.val,.val,.val] .sh wW
theorem zi(Z:ZtE e0 ca)(T:kI e0 "can_be_filled" kf kg)(C:wl e0)(a:wm e0)(n:Nat):qE e0 (2+n) "can_be_filled" ["contrasts","room","fixed","letters"] [.val,.val,.val,.val] .sh (qS n):=by
 induction n with
 |zero=>exact dW [] T λhr=>qfC
 |succ n o=>exact qdO (k:=2+n) (own':=[]) (fb:=jw (qS n)) T zh λcdv f A outer s H E hr=>(qd (qO (jz (tv (qx (Qh rfl rfl) rfl Z.z_all Qo (cmp (qG rfl vr) (λ_ _ _ _=>(qY C hr (by omega) uB rfl (qa vr (qa vr (qa vr qe))))))))) (qf (qg vX)) qF)
  (qd (qO (qA (xc rfl hr.units) (qx (jr rfl) rfl Z.z_len jo vr) qm) (qf (qg vX)) qF)
  (qd (se (qcs (qA (xc rfl hr.units) (qx (jr rfl) rfl Z.z_len jo vr) qm) (kc (qa qm qe)) (XY rfl rfl Z.z_list Js rfl Z.z_range zx vr)))
  (qd (ja aJ rfl (qG rfl vr) gn
  (qf (qO (tv (qY o hr (by omega) qcC rfl (qa vr (qa vr (qa (qY a hr (by omega) qcC rfl (qa vr (qa (ix vr qm) (qa vr qe)))) (qa (Vq rfl vr (vi qm) vh) qe)))))) (qf (qg vX)) qF)))
  (qf (qg vX))))))
theorem zj(Z:ZtE e0 ca)(T:kI e0 "can_be_filled" kf kg)(C:wl e0)(a:wm e0):wu e0:=zi Z T C a 14
abbrev xX:Z3:=top 47
abbrev xY:List Str:=["seen","room","fixed","bound","letters"]
def wX:qK:=(qH (sIf (qy (d2 ltD (qc 1) (d1 ko (qc 0)))) (jm (dC (.bl iS))) qM)
  (qH (qX 3 (ql [.vl,.vl] wj (qb (qc 0) (qb (qc 2) qu))))
  (qH (qX 4 (qN [] 1 [2] (qV (ql [.vl] ji (qb (qc 3) qu))) (gNm 0) (qy (d2 vf (qc 0) (qc 1))) (qc 0)))
  (jm (ql [.vl,.vl,.vl,.vl] wW (qb (ql [.vl] vC (qb (qc 3) qu)) (qb (qc 1) (qb (qc 2) (qb (qc 4) qu)))))))))
abbrev jj:jK:=jW xY [.val,.val,.val] (wX)
abbrev kP(e0:Ev):=qE e0 17 "can_differ" ["seen","room","fixed"] [.val,.val,.val] .sh (jj)
theorem JF(Z:ZtE e0 ca)(T:kI e0 "can_differ" xX ["seen","room","fixed"])(m:kO e0)(S:uN e0)(O:wV e0)(o:wu e0):kP e0:=
 dW [] T λhr=>(qd (qO (qA qcn vr (qx (jr rfl) rfl Z.z_len jo vr)) (qf (qg vX)) qF)
  (qd (se (cN S (qa vr (qa vr qe))))
  (qd (qh5 (qG rfl (cN m (qa vr qe))) (λ_ _ _ _=>vr) (ht:=λ_ _ _ _=>(wJ (qA (jF rfl hr.units) vr vr))))
  (jA [4] (qf (qg (cN o (qa (cN O (qa vr qe)) (qa vr (qa vr (qa vr qe)))))))))))
abbrev JG:Z3:=top 45
abbrev JH:List Str:=["fixed","letter","worth","more"]
def yQ:qK:=(qH (qX 3 (d1 Vp (qc 0)))
  (qH (vg 3 (qc 2) (qc 1))
  (jm (qc 3))))
abbrev kQ:jK:=jW JH [.io,.val,.val] (yQ)
abbrev uQ(e0:Ev):=qE e0 1 "with_worth" ["fixed","letter","worth"] [.io,.val,.val] .sh (kQ)
theorem Qb(Z:ZtE e0 ca)(T:kI e0 "with_worth" JG ["fixed","letter","worth"]):uQ e0:=
 dW [0] T λhr=>(qd (sO (vK (Yx rfl) rfl Z.z_dict qav vO))
  (qd (vn (n:=3) hr.units rfl (bO rfl) (by decide) vr vr)
  (jA [3] (qf (qg vr)))))
abbrev uR:Z3:=top 48
abbrev uS:List Str:=["seen","room","fixed","letter","worth"]
def uT:qK:=(qH (qX 2 (dC (.dct [])))
  (qH (vz (qV (ql [.vl] ji (qb (qc 0) qu))) (gNm 3)
  (qH (qX 4 (dC (.int 0)))
  (qH (jf (Kh (qy (d2 ltD (qc 4) (qc 1))) (xu (vU (ql [.vl,.vl,.vl] jj (qb (qc 0) (qb (qc 1) (qb (ql [.sl 2,.vl,.vl] kQ (kb (qb (qc 3) (qb (qc 4) qu)))) qu)))))))
  (qX 4 (d2 ki (qc 4) (dC (.int 1)))) 102)
  (qH (sIf (qy (d2 eqD (qc 4) (qc 1))) (jm (dC .non)) qM)
  (vg 2 (qc 4) (qc 3))))))
  (jm (d1 yw (d1 kT (qc 2))))))
abbrev vD:jK:=jW uS [.val,.val] (uT)
abbrev wY(e0:Ev):=qE e0 18 "least_worths" ["seen","room"] [.val,.val] .sh (vD)
theorem gF(Z:ZtE e0 ca)(T:kI e0 "least_worths" uR ["seen","room"])(o:kO e0)(R:uQ e0)(j:kP e0):wY e0:=
 dW [] T λhr=>(qd (sO ur)
  (qd (ja aJ rfl (qG rfl (cN o (qa vr qe))) gn
  (qd (se qm)
  (qd (zJ 102 aJ (PW.pt (wC (qA qcn vr vr) (jE (jz (tv (cN j (qa vr (qa vr (qa (cN R (sl (qa vr (qa vr qe)))) qe)))))))))
  (qf (se (qQ (jt rfl) vr qm))))
  (qd (qO (qA (xc rfl hr.units) vr vr) (qf (qg vI)) qF)
  (qf (vn (n:=2) hr.units rfl (bO rfl) (by decide) vr vr))))))
  (qf (qg (vK (Jb rfl) rfl Z.z_tuple vo (Vu rfl rfl rfl Z.z_sorted yC vO))))))
abbrev xZ:Z3:=top 49
abbrev VT:List Str:=["words","look","room","seen"]
def wZ:qK:=(qH (qX 3 (ql [.vl,.vl] wf (qb (qc 0) (qb (qc 1) qu))))
  (qH (kn (ql [.vl] kC (qb (qc 2) qu)))
  (jm (dIf (vU (ql [.vl,.vl,.vl] jj (qb (qc 3) (qb (qc 2) (qb (dC (.dct [])) qu))))) (ql [.vl,.vl] vD (qb (qc 3) (qb (qc 2) qu))) (dC .non)))))
abbrev vt:jK:=jW VT [.val,.val,.val] (wZ)
abbrev yR(e0:Ev):=qE e0 19 "one_to_one" ["words","look","room"] [.val,.val,.val] .sh (vt)
theorem JI(Z:ZtE e0 ca)(T:kI e0 "one_to_one" xZ ["words","look","room"])(D:wb e0)(o:yI e0)(j:kP e0)(Q:wY e0):yR e0:=
 dW [] T λhr=>(qd (se (cN o (qa vr (qa vr qe))))
  (qd (je (cN D (qa vr qe)))
  (qf (qg (qcs (tv (cN j (qa vr (qa vr (qa ur qe))))) (cN Q (qa vr (qa vr qe))) vI)))))
abbrev gG:Z3:=top 23
abbrev Uq:List Str:=["places","found","first"]
def Ur:qK:=(qH (qX 0 (d2 ge (dC (.int (-3))) (d2 ki (dC (.int 2)) (dC (.int 1)))))
  (qH (qX 1 (yo qu))
  (qH (vz (qV (qc 0)) (gNm 2)
  (kn (xx 1 qcD (qN [1] 1 [2] (qV (qc 0)) (gNm 0) ftT (yh (qb (qc 1) (qb (qc 0) qu)))))))
  (jm (qc 1)))))
abbrev vd:jK:=jW Uq [] (Ur)
abbrev za(e0:Ev):=qE e0 1 "all_looks" [] [] .sh (vd)
theorem VU(Z:ZtE e0 ca)(T:kI e0 "all_looks" gG []):za e0:=
 dW [] T λhr=>(qd (se (Ub rfl rfl Z.z_list Js rfl Z.z_range zx (wa Z.c_LEAST_PLACE rfl) (qQ (jt rfl) (wa Z.c_MOST_PLACE rfl) qm)))
  (qd (sO (kc qe))
  (qd (ja aJ rfl (qG rfl vr) gn
  (qf (je (zN (i:=1) rfl (bO rfl) (by decide) (cmp (qG rfl vr) (λ_ _ _ _=>(kU (qa vr (qa vr qe)))))))))
  (jA [1] (qf (qg vr))))))
abbrev qaH:Z3:=top 50
abbrev qaI:List Str:=["words"]
def qaJ:qK:=(qH (kn (ql [.vl] kN (qb (qc 0) qu)))
  (jm (qN [] 1 [0] (qV (ql [] vd qu)) (gNm 0) (vU (ql [.vl,.vl,.vl] jj (qb (ql [.vl,.vl] wf (qb (qc 1) (qb (qc 0) qu))) (qb (d1 ko (qc 1)) (qb (dC (.dct [])) qu))))) (qc 0))))
abbrev JJ:jK:=jW qaI [.val] (qaJ)
abbrev YO(e0:Ev):=qE e0 18 "looks" ["words"] [.val] .sh (JJ)
theorem qc5(Z:ZtE e0 ca)(T:kI e0 "looks" qaH ["words"])(v:vB e0)(a:za e0)(o:yI e0)(j:kP e0):YO e0:=
 dW [] T λhr=>(qd (je (cN v (qa vr qe)))
  (qf (qg (cmp (qG rfl (qab a hr (by decide) qcC rfl)) (λ_ _ _ _=>vr) (ht:=λ_ _ _ _=>(wJ (tv (qY j hr (by decide) uB rfl (qa (qY o hr (by decide) uB rfl (qa vr (qa vr qe))) (qa (qx (jr rfl) rfl Z.z_len jo vr) (qa ur qe)))))))))))
abbrev QC:Z3:=top 51
abbrev Zo:List Str:=["words","look","seen"]
def QD:qK:=(qH (qX 2 (ql [.vl,.vl] wf (qb (qc 0) (qb (qc 1) qu))))
  (jm (d2 Gn (ql [.vl,.vl,.vl,.vl] Zm (qb (qc 0) (qb (qc 1) (qb (d1 ko (qc 2)) (qb (d1 vA (d1 ko (qc 2))) qu))))) (dC .non))))
abbrev vR:jK:=jW Zo [.val,.val] (QD)
abbrev gH(e0:Ev):=qE e0 8 "in_order" ["words","look"] [.val,.val] .sh (vR)
theorem Us(Z:ZtE e0 ca)(T:kI e0 "in_order" QC ["words","look"])(o:yI e0)(a:qaG e0):gH e0:=
 dW [] T λhr=>(qd (se (cN o (qa vr (qa vr qe))))
  (qf (qg (vH Go (cN a (qa vr (qa vr (qa (qx (jr rfl) rfl Z.z_len jo vr) (qa (Vx rfl rfl Z.z_tuple vo rfl Z.z_range zx (qx (jr rfl) rfl Z.z_len jo vr)) qe))))) vI))))
abbrev QE:Z3:=top 53
abbrev Zp:List Str:=["_law_script","_law_k"]
def ux:qK:=(qH (sIf (qy (d2 ltD (qc 1) (d1 ko (qc 0)))) (jm (d2 ixD (qc 0) (qc 1))) qM)
  (qH (sIf (qy (d2 eqD (qc 0) (yo qu))) (jm (dC (.int 0))) qM)
  (jm (d2 ki (d2 qdJ (d2 ixD (qc 0) (d2 zc (qc 1) (d1 ko (qc 0)))) (dC (.int 31))) (qc 1)))))
abbrev xn:jK:=jW Zp [.val,.val] (ux)
abbrev gI(e0:Ev):=qE e0 1 "_law_cell_at" ["_law_script","_law_k"] [.val,.val] .sh (xn)
theorem Ut(Z:ZtE e0 ca)(T:kI e0 "_law_cell_at" QE ["_law_script","_law_k"]):gI e0:=
 dW [] T λhr=>(qd (qO (qA qcn vr (qx (jr rfl) rfl Z.z_len jo vr)) (qf (qg (ix vr vr))) qF)
  (qd (qO (qA (xc rfl hr.units) vr (kc qe)) (qf (qg qm)) qF)
  (qf (qg (qQ (jt rfl) (qQ KF (ix vr (qQ wq vr (qx (jr rfl) rfl Z.z_len jo vr))) qm) vr)))))
abbrev YQ:Z3:=top 54
abbrev qc6:List Str:=["_law_script","_law_k","_law_many","_law_drawn"]
def YR:qK:=(qH (qX 3 (d2 zc (d2 qdJ (d2 ki (d2 ki (ql [.vl,.vl] xn (qb (qc 0) (qb (qc 1) qu))) (d2 qdJ (dC (.int 7919)) (qc 1))) (dC (.int 1))) (dC (.int 48271))) (dC (.int 2147483647))))
  (jm (d2 zc (d2 zc (d2 ki (d2 ki (d2 qdJ (qc 3) (qc 3)) (d2 qdJ (dC (.int 7)) (qc 3))) (qc 1)) (dC (.int 2147483629))) (qc 2))))
abbrev JK:jK:=jW qc6 [.val,.val,.val] (YR)
abbrev VW(e0:Ev):=qE e0 2 "_law_mixed" ["_law_script","_law_k","_law_many"] [.val,.val,.val] .sh (JK)
theorem qaK(Z:ZtE e0 ca)(T:kI e0 "_law_mixed" YQ ["_law_script","_law_k","_law_many"])(o:gI e0):VW e0:=
 dW [] T λhr=>(qd (se (qQ wq (qQ KF (qQ (jt rfl) (qQ (jt rfl) (cN o (qa vr (qa vr qe))) (qQ KF qm vr)) qm) qm) qm))
  (qf (qg (qQ wq (qQ wq (qQ (jt rfl) (qQ (jt rfl) (qQ KF vr vr) (qQ KF qm vr)) vr) qm) vr))))
abbrev qaL:Z3:=top 55
abbrev qf0:List Str:=["_law_script","_law_town","_law_many"]
def qaM:qK:=(qH (kn (xx 1 Kk (dC (.int 0))))
  (jm (ql [.vl,.vl,.vl] JK (qb (qc 0) (qb (d1 ko (qc 1)) (qb (qc 2) qu))))))
abbrev kw:jK:=jW qf0 [.val,.io,.val] (qaM)
abbrev uy(e0:Ev):=qE e0 3 "_law_draw" ["_law_script","_law_town","_law_many"] [.val,.io,.val] .sh (kw)
theorem qc7(Z:ZtE e0 ca)(T:kI e0 "_law_draw" qaL ["_law_script","_law_town","_law_many"])(O:VW e0):uy e0:=
 dW [1] T λhr=>(qd (je (wK (i:=1) rfl rfl (bO rfl) (by decide) qm))
  (qf (qg (cN O (qa vr (qa (qx (jr rfl) rfl Z.z_len jo vO) (qa vr qe)))))))
abbrev qaN:Z3:=top 56
abbrev qf1:List Str:=["_law_script","_law_town","_law_some"]
def qaO:qK:=(jm (d2 ixD (qc 2) (ql [.vl,.sl 1,.vl] kw (qb (qc 0) (kb (qb (d1 ko (qc 2)) qu))))))
abbrev JL:jK:=jW qf1 [.val,.io,.val] (qaO)
abbrev JM(e0:Ev):=qE e0 4 "_law_pick" ["_law_script","_law_town","_law_some"] [.val,.io,.val] .sh (JL)
theorem qc8(Z:ZtE e0 ca)(T:kI e0 "_law_pick" qaN ["_law_script","_law_town","_law_some"])(o:uy e0):JM e0:=
 dW [1] T λhr=>(qf (qg (ix vr (cN o (qa vr (sl (qa (qx (jr rfl) rfl Z.z_len jo vr) qe)))))))
abbrev qaP:Z3:=top 57
abbrev qf2:List Str:=["_law_script","_law_town","_law_few","_law_word_here","_law_k"]
def qaQ:qK:=(qH (qX 3 (dC (.str "")))
  (qH (vz (jU (d2 ki (dC (.int 1)) (ql [.vl,.sl 1,.vl] kw (qb (qc 0) (kb (qb (ql [.vl,.sl 1,.vl] JL (qb (qc 0) (kb (qb (yo (qb (dC (.int 2)) (qb (dC (.int 3)) (qb (dC (.int 6)) qu)))) qu)))) qu)))))) (gNm 4)
  (qX 3 (d2 ki (qc 3) (d2 ixD (dC (.str "abcdefghijklmnopqrstuvwxyz")) (ql [.vl,.sl 1,.vl] kw (qb (qc 0) (kb (qb (qc 2) qu))))))))
  (jm (qc 3))))
abbrev JO:jK:=jW qf2 [.val,.io,.val] (qaQ)
abbrev YS(e0:Ev):=qE e0 5 "_law_word" ["_law_script","_law_town","_law_few"] [.val,.io,.val] .sh (JO)
theorem qc9(Z:ZtE e0 ca)(T:kI e0 "_law_word" qaP ["_law_script","_law_town","_law_few"])(o:uy e0)(J:JM e0):YS e0:=
 dW [1] T λhr=>(qd (se yl)
  (qd (ja aJ rfl (vL rfl Z.z_range (qQ (jt rfl) qm (cN o (qa vr (sl (qa (cN J (qa vr (sl (qa (kc (qa qm (qa qm (qa qm qe)))) qe)))) qe)))))) gn
  (qf (se (qQ (jt rfl) vr (ix yl (cN o (qa vr (sl (qa vr qe)))))))))
  (qf (qg vr))))
abbrev YT:Z3:=top 58
abbrev qda:List Str:=["_law_script","_law_town","_law_most","_law_few","_law_made","_law_k","_law_word_here"]
def YU:qK:=(qH (qX 3 (ql [.vl,.sl 1,.vl] JL (qb (qc 0) (kb (qb (yo (qb (dC (.int 2)) (qb (dC (.int 3)) (qb (dC (.int 4)) (qb (dC (.int 6)) (qb (dC (.int 26)) qu)))))) qu)))))
  (qH (qX 4 (yo qu))
  (qH (vz (jU (d2 ki (dC (.int 1)) (ql [.vl,.sl 1,.vl] kw (qb (qc 0) (kb (qb (qc 2) qu)))))) (gNm 5)
  (qH (qX 6 (ql [.vl,.sl 1,.vl] JO (qb (qc 0) (kb (qb (qc 3) qu)))))
  (sIf (qy (d2 vf (qc 6) (qc 4))) (kn (xx 4 Kk (qc 6))) qM)))
  (jm (d1 yw (qc 4))))))
abbrev JP:jK:=jW qda [.val,.io,.val] (YU)
abbrev VX(e0:Ev):=qE e0 6 "_law_words" ["_law_script","_law_town","_law_most"] [.val,.io,.val] .sh (JP)
theorem qaR(Z:ZtE e0 ca)(T:kI e0 "_law_words" YT ["_law_script","_law_town","_law_most"])(o:uy e0)(J:JM e0)(O:YS e0):VX e0:=
 dW [1] T λhr=>(qd (se (cN J (qa vr (sl (qa (kc (qa qm (qa qm (qa qm (qa qm (qa qm qe)))))) qe)))))
  (qd (sO (kc qe))
  (qd (ja aJ rfl (vL rfl Z.z_range (qQ (jt rfl) qm (cN o (qa vr (sl (qa vr qe)))))) gn
  (qd (se (cN O (qa vr (sl (qa vr qe)))))
  (qf (qO (qA (jF rfl hr.units) vr vO) (qf (je (wK (i:=4) rfl rfl (bO rfl) (by decide) vr))) qF))))
  (qf (qg (vK (Jb rfl) rfl Z.z_tuple vo vO))))))
abbrev qaS:Z3:=top 59
abbrev qf3:List Str:=["_law_script","_law_town"]
def qaT:qK:=(jm (yh (qb (d2 Kg (ql [.vl,.sl 1,.vl] kw (qb (qc 0) (kb (qb (dC (.int 6)) qu)))) (dC (.int 3))) (qb (d2 Kg (ql [.vl,.sl 1,.vl] kw (qb (qc 0) (kb (qb (dC (.int 6)) qu)))) (dC (.int 3))) qu))))
abbrev JQ:jK:=jW qf3 [.val,.io] (qaT)
abbrev YV(e0:Ev):=qE e0 4 "_law_look" ["_law_script","_law_town"] [.val,.io] .sh (JQ)
theorem qdb(Z:ZtE e0 ca)(T:kI e0 "_law_look" qaS ["_law_script","_law_town"])(o:uy e0):YV e0:=
 dW [1] T λhr=>(qf (qg (kU (qa (qQ uH (cN o (qa vr (sl (qa qm qe)))) qm) (qa (qQ uH (cN o (qa vr (sl (qa qm qe)))) qm) qe)))))
abbrev VY:Z3:=top 60
abbrev qaU:List Str:=["_law_word_here","_law_place"]
def qaV:qK:=(qH (sIf (qy (d2 geD (qc 1) (dC (.int 0)))) (jm (d2 ixD (d2 ki (zR (qc 0) (iO (qc 1)) (iO (d2 ki (qc 1) (dC (.int 1)))) iQ) (d2 ixD (qc 0) (d1 ZE (dC (.int 1))))) (dC (.int 0)))) qM)
  (jm (d2 ixD (d2 ki (zR (zR (qc 0) iQ iQ (iO (d1 ZE (dC (.int 1))))) (iO (d2 Kg (d1 ZE (dC (.int 1))) (qc 1))) (iO (d2 Kg (dC (.int 0)) (qc 1))) iQ) (d2 ixD (qc 0) (dC (.int 0)))) (dC (.int 0)))))
abbrev vS:jK:=jW qaU [.val,.val] (qaV)
abbrev QF(e0:Ev):=qE e0 1 "_law_letter" ["_law_word_here","_law_place"] [.val,.val] .sh (vS)
theorem Zq(Z:ZtE e0 ca)(T:kI e0 "_law_letter" VY ["_law_word_here","_law_place"]):QF e0:=
 dW [] T λhr=>(qd (qO (qA qhy vr qm) (qf (qg (ix (qQ (jt rfl) (zv rfl vr (vi vr) (vi (qQ (jt rfl) vr qm)) vh) (ix vr (WK zM qm))) qm))) qF)
  (qf (qg (ix (qQ (jt rfl) (zv rfl (zv rfl vr vh vh (vi (WK zM qm))) (vi (qQ uH (WK zM qm) vr)) (vi (qQ uH qm vr)) vh) (ix vr qm)) qm))))
abbrev YW:Z3:=top 61
abbrev qdc:List Str:=["_law_words_here","_law_look_here"]
def YX:qK:=(jm (qN [] 1 [1] (qV (qc 0)) (gNm 0) ftT (yh (qb (ql [.vl,.vl] vS (qb (qc 0) (qb (d2 ixD (qc 1) (dC (.int 0))) qu))) (qb (ql [.vl,.vl] vS (qb (qc 0) (qb (d2 ixD (qc 1) (dC (.int 1))) qu))) qu)))))
abbrev jS:jK:=jW qdc [.val,.val] (YX)
abbrev yS(e0:Ev):=qE e0 2 "_law_pairs" ["_law_words_here","_law_look_here"] [.val,.val] .sh (jS)
theorem qaW(Z:ZtE e0 ca)(T:kI e0 "_law_pairs" YW ["_law_words_here","_law_look_here"])(o:QF e0):yS e0:=
 dW [] T λhr=>(qf (qg (cmp (qG rfl vr) (λ_ _ _ _=>(kU (qa (qY o hr (by decide) uB rfl (qa vr (qa (ix vr qm) qe))) (qa (qY o hr (by decide) uB rfl (qa vr (qa (ix vr qm) qe))) qe)))))))
abbrev qaX:Z3:=top 62
abbrev qf4:List Str:=["_law_words_here","_law_look_here","_law_made","_law_one","_law_other"]
def qaY:qK:=(qH (qX 2 (yo qu))
  (qH (vz (qV (ql [.vl,.vl] jS (qb (qc 0) (qb (qc 1) qu)))) (jM 2 (qw (gNm 3) (qw (gNm 4) jL)))
  (kn (xx 2 qcD (yo (qb (qc 3) (qb (qc 4) qu))))))
  (jm (d1 uv (qc 2)))))
abbrev ky:jK:=jW qf4 [.val,.val] (qaY)
abbrev JR(e0:Ev):=qE e0 3 "_law_seen" ["_law_words_here","_law_look_here"] [.val,.val] .sh (ky)
theorem qdd(Z:ZtE e0 ca)(T:kI e0 "_law_seen" qaX ["_law_words_here","_law_look_here"])(o:yS e0):JR e0:=
 dW [] T λhr=>(qd (sO (kc qe))
  (qd (ja aJ rfl (qG rfl (cN o (qa vr (qa vr qe)))) (vy rfl rfl (qL gn (qL gn kz)))
  (qf (je (zN (i:=2) rfl (bO rfl) (by decide) (kc (qa vr (qa vr qe)))))))
  (qf (qg (Ql rfl rfl rfl Z.z_sorted yC rfl Z.z_set YF vO)))))
abbrev VZ:Z3:=top 64
abbrev gJ:List Str:=["_law_some","_law_room","_law_numbers","_law_book","_law_turn","_law_number","_law_one","_law_other"]
def gK:qK:=(qH (vz (jU (d2 ki (d1 ko (qc 0)) (dC (.int 1)))) (gNm 4)
  (vz (qjB (qb (qc 0) (qb (qc 2) qu))) (jM 2 (qw (jM 2 (qw (gNm 6) (qw (gNm 7) jL))) (qw (gNm 5) jL)))
  (qH (sIf (Kh (qy (d2 inA (qc 6) (qc 3))) (qy (d2 vf (qc 7) (qc 3)))) (vg 3 (d2 zc (d2 Kg (qc 5) (d2O 3 ixD (qc 6))) (qc 1)) (qc 7)) qM)
  (qH (sIf (Kh (qy (d2 inA (qc 7) (qc 3))) (qy (d2 vf (qc 6) (qc 3)))) (vg 3 (d2 zc (d2 Kg (qc 5) (d2O 3 ixD (qc 7))) (qc 1)) (qc 6)) qM)
  (sIf (Kh (qy (d2 inA (qc 6) (qc 3))) (qy (d2 neD (d2 zc (d2 ki (d2O 3 ixD (qc 6)) (d2O 3 ixD (qc 7))) (qc 1)) (qc 5)))) (jm (dC .non)) qM)))))
  (jm (qc 3)))
abbrev ua:jK:=jW gJ [.val,.val,.val,.tk] (gK)
abbrev QG(e0:Ev):=qE e0 1 "_law_spread" ["_law_some","_law_room","_law_numbers","_law_book"] [.val,.val,.val,.tk] .sh (ua)
theorem Zr(Z:ZtE e0 ca)(T:kI e0 "_law_spread" VZ ["_law_some","_law_room","_law_numbers","_law_book"]):QG e0:=
 dW [] T λhr=>(qd (ja aJ rfl (vL rfl Z.z_range (qQ (jt rfl) (qx (jr rfl) rfl Z.z_len jo vr) qm)) gn
  (qf (ja aJ rfl (qfw rfl rfl Z.z_zip vr vr) (vy rfl rfl (qL (vy rfl rfl (qL gn (qL gn kz))) (qL gn kz)))
  (qd (qO (PW.pt (wC (qA (uJ rfl hr.units) vr vO) (jE (qA (jF rfl hr.units) vr vO)))) (qf (vn (n:=3) hr.units rfl (bO rfl) (by decide) (qQ wq (qQ uH vr (Vo (i:=3) rfl hr.units rfl (bO rfl) (by decide) vr (λ_ _=>rfl))) vr) vr)) qF)
  (qd (qO (PW.pt (wC (qA (uJ rfl hr.units) vr vO) (jE (qA (jF rfl hr.units) vr vO)))) (qf (vn (n:=3) hr.units rfl (bO rfl) (by decide) (qQ wq (qQ uH vr (Vo (i:=3) rfl hr.units rfl (bO rfl) (by decide) vr (λ_ _=>rfl))) vr) vr)) qF)
  (qf (qO (PW.pt (wC (qA (uJ rfl hr.units) vr vO) (jE (qA (gT rfl hr.units) (qQ wq (qQ (jt rfl) (Vo (i:=3) rfl hr.units rfl (bO rfl) (by decide) vr (λ_ _=>rfl)) (Vo (i:=3) rfl hr.units rfl (bO rfl) (by decide) vr (λ_ _=>rfl))) vr) vr)))) (qf (qg vI)) qF)))))))
  (jA [3] (qf (qg vr))))
abbrev YY:Z3:=top 63
abbrev JS:List Str:=["_law_words_here","_law_look_here","_law_room","_law_numbers","_law_some","_law_book","_law_start","_law_found","_law_worth"]
def qde:qK:=(qH (qX 4 (ql [.vl,.vl] jS (qb (qc 0) (qb (qc 1) qu))))
  (qH (qX 5 (dC (.dct [])))
  (qH (vz (qV (ql [.vl,.vl] ky (qb (qc 0) (qb (qc 1) qu)))) (gNm 6)
  (sIf (qy (d2 vf (qc 6) (qc 5))) (qH (qX 7 (dC .non))
  (qH (vz (jU (qc 2)) (gNm 8)
  (sIf (qy (d2 Gn (qc 7) (dC .non))) (qX 7 (ql [.vl,.vl,.vl,.fr] ua (qb (qc 4) (qb (qc 2) (qb (qc 3) (qb (Vy (qc 6) (qc 8)) qu)))))) qM))
  (qH (sIf (qy (d2 Gn (qc 7) (dC .non))) (jm (dC .non)) qM)
  (kn (qia 5 (qc 7)))))) qM))
  (jm (qc 5)))))
abbrev zz:jK:=jW JS [.val,.val,.val,.val] (qde)
abbrev Wa(e0:Ev):=qE e0 4 "_law_solve" ["_law_words_here","_law_look_here","_law_room","_law_numbers"] [.val,.val,.val,.val] .sh (zz)
theorem qaZ(Z:ZtE e0 ca)(T:kI e0 "_law_solve" YY ["_law_words_here","_law_look_here","_law_room","_law_numbers"])(o:yS e0)(M:JR e0)(O:QG e0):Wa e0:=
 dW [] T λhr=>(qd (se (cN o (qa vr (qa vr qe))))
  (qd (sO ur)
  (qd (ja aJ rfl (qG rfl (cN M (qa vr (qa vr qe)))) gn
  (qf (qO (qA (jF rfl hr.units) vr vO) (qd (se vI)
  (qd (ja aJ rfl (vL rfl Z.z_range vr) gn
  (qf (qO (qA Go vr vI) (qf (se (cN O (qa vr (qa vr (qa vr (Gq (qc2 vr vr) qe))))))) qF)))
  (qd (qO (qA Go vr vI) (qf (qg vI)) qF)
  (qf (je (qib (i:=5) vr)))))) qF)))
  (jA [5] (qf (qg vr))))))
abbrev Wb:Z3:=top 65
abbrev Wc:List Str:=["_law_words_here","_law_look_here","_law_made","_law_rounds","_law_one","_law_other","_law_mine","_law_theirs"]
def We:qK:=(qH (qX 2 (qN [] 1 [] (qV (ql [.vl,.vl] ky (qb (qc 0) (qb (qc 1) qu)))) (gNm 0) ftT (yo (qb (qc 0) qu))))
  (qH (qX 3 (dC (.int 0)))
  (qH (vz (qV (ql [.vl,.vl] jS (qb (qc 0) (qb (qc 1) qu)))) (jM 2 (qw (gNm 4) (qw (gNm 5) jL)))
  (qH (qX 6 (d2 ixD (qN [] 1 [4] (qV (qc 2)) (gNm 0) (qy (d2 inA (qc 1) (qc 0))) (qc 0)) (dC (.int 0))))
  (qH (qX 7 (d2 ixD (qN [] 1 [5] (qV (qc 2)) (gNm 0) (qy (d2 inA (qc 1) (qc 0))) (qc 0)) (dC (.int 0))))
  (sIf (qy (d2 eqD (qc 6) (qc 7))) (qX 3 (d2 ki (qc 3) (dC (.int 1)))) (qX 2 (d2 ki (qN [] 1 [6,7] (qV (qc 2)) (gNm 0) (qy (d2 vf (qc 0) (yh (qb (qc 1) (qb (qc 2) qu))))) (qc 0)) (yo (qb (d2 ki (qc 6) (qc 7)) qu))))))))
  (jm (qc 3)))))
abbrev yT:jK:=jW Wc [.val,.val] (We)
abbrev QH(e0:Ev):=qE e0 4 "_law_pieces" ["_law_words_here","_law_look_here"] [.val,.val] .sh (yT)
theorem Zs(Z:ZtE e0 ca)(T:kI e0 "_law_pieces" Wb ["_law_words_here","_law_look_here"])(o:yS e0)(M:JR e0):QH e0:=
 dW [] T λhr=>(qd (qh5 (qG rfl (cN M (qa vr (qa vr qe)))) (λ_ _ _ _=>(kc (qa vr qe))))
  (qd (se qm)
  (jA [2] (qd (ja aJ rfl (qG rfl (cN o (qa vr (qa vr qe)))) (vy rfl rfl (qL gn (qL gn kz)))
  (qd (se (ix (cmp (qG rfl vr) (λ_ _ _ _=>vr) (ht:=λ_ _ _ _=>(wJ (qA (uJ rfl hr.units) vr vr)))) qm))
  (qd (se (ix (cmp (qG rfl vr) (λ_ _ _ _=>vr) (ht:=λ_ _ _ _=>(wJ (qA (uJ rfl hr.units) vr vr)))) qm))
  (qf (qO (qA (xc rfl hr.units) vr vr) (qf (se (qQ (jt rfl) vr qm))) (qf (se (qQ (jt rfl) (cmp (qG rfl vr) (λ_ _ _ _=>vr) (ht:=λ_ _ _ _=>(wJ (qA (jF rfl hr.units) vr (kU (qa vr (qa vr qe))))))) (kc (qa (qQ (jt rfl) vr vr) qe))))))))))
  (qf (qg vr))))))
abbrev qdf:Z3:=top 66
abbrev qdg:List Str:=["_law_script","_law_town","_law_words_here","_law_found","_law_one","_law_k","_law_other","_law_look_here","_law_due","_law_good","_law_room","_law_numbers"]
abbrev qij:List Str:=["_law_script"]
theorem qik:FnScope qdg qij (jb qdf):=fsc
def qil:qK:=(qH (qX 1 (yo qu))
  (qH (qX 2 (ql [.vl,.sl 1,.vl] JP (qb (qc 0) (kb (qb (dC (.int 5)) qu)))))
  (qH (qX 3 (ql [.vl] JJ (qb (qc 2) qu)))
  (qH (vz (xj (d1 ZE (dC (.int 3))) (dC (.int 3))) (gNm 4)
  (vz (xj (d1 ZE (dC (.int 3))) (dC (.int 3))) (gNm 6)
  (qH (qX 9 (d2 wE (ql [.vl,.vl,.vl] vt (qb (qc 2) (qb (yh (qb (qc 4) (qb (qc 6) qu))) (qb (d1 ko (qc 2)) qu)))) (dC .non)))
  (sIf (dOr (qy (d2 neD (qc 9) (d2 inA (yh (qb (qc 4) (qb (qc 6) qu))) (qc 3)))) (qy (d2 neD (qc 9) (d2 inA (yh (qb (qc 6) (qb (qc 4) qu))) (qc 3))))) (jm (dC (.bl iS))) qM))))
  (qH (sIf (dOr (qy (d2 neD (qc 3) (d1 vQ (qc 3)))) (qy (d2 neD (ql [.vl] JJ (qb (zR (qc 2) iQ iQ (iO (d1 ZE (dC (.int 1))))) qu)) (qc 3)))) (jm (dC (.bl iS))) qM)
  (qH (vz (jU (dC (.int 4))) (gNm 5)
  (qH (qX 7 (ql [.vl,.sl 1] JQ (qb (qc 0) (kb qu))))
  (qH (qX 8 (d2 wE (ql [.vl,.vl,.vl,.vl] zz (qb (qc 2) (qb (qc 7) (qb (d1 ko (qc 2)) (qb (d1 vA (d1 ko (qc 2))) qu))))) (dC .non)))
  (qH (sIf (dOr (qy (d2 neD (ql [.vl,.vl] vR (qb (qc 2) (qb (qc 7) qu))) (qc 8))) (dOr (xu (vU (d1 (xa "bool") (ql [.vl,.vl] vR (qb (qc 2) (qb (qc 7) qu)))))) (Kh (vU (qc 8)) (qy (d2 vf (qc 7) (qc 3)))))) (jm (dC (.bl iS))) qM)
  (sIf (qy (d2 eqD (ql [.vl,.vl] yT (qb (qc 2) (qb (qc 7) qu))) (dC (.int 0)))) (qH (qX 10 (d2 ki (dC (.int 1)) (ql [.vl,.sl 1,.vl] kw (qb (qc 0) (kb (qb (dC (.int 20)) qu))))))
  (qH (qX 11 (d1 yw (qN [1] 1 [0,1,10] (qV (qc 2)) (gNm 0) ftT (ql [.vl,.sl 2,.vl] kw (qb (qc 1) (kb (qb (qc 3) qu)))))))
  (sIf (dOr (qy (d2 wE (ql [.vl,.vl,.vl,.vl] Zm (qb (qc 2) (qb (qc 7) (qb (qc 10) (qb (qc 11) qu))))) (dC .non))) (xu (vU (qc 8)))) (jm (dC (.bl iS))) qM))) qM)))))
  (jm (dC (.bl iT)))))))))
abbrev qf5:jK:=jW qdg [.val] (qil)
theorem qim{f:Z7}{fd:lN}(Z:ZtE e0 ca)(F:Fun e0.K "law" "law" qdf f fd)(c:qaG e0)(W:yR e0)(b:YO e0)(a:gH e0)(o:uy e0)(m:VX e0)(O:YV e0)(l:Wa e0)(d:QH e0):FnOk e0.P e0.w e0.K e0.mg e0.base (CXk e0.P e0.w) 20 f fd qij (spD e0.K e0.cv [.val] .sh (qf5)):=
 qla (k:=19) (own':=[]) (fb:=qil) F qik rfl (wy rfl) (.inl rfl) (λcdv A outer s H E hr=>(qd (sO (kc qe))
  (qd (se (cN m (qa vr (yn (i:=1) rfl (fg (bO rfl)) (by decide) (qa qm qe)))))
  (qd (se (cN b (qa vr qe)))
  (qd (ja aJ rfl (Qm rfl Z.z_range (WK zM qm) qm) gn
  (qf (ja aJ rfl (Qm rfl Z.z_range (WK zM qm) qm) gn
  (qd (se (vH WO (cN W (qa vr (qa (kU (qa vr (qa vr qe))) (qa (qx (jr rfl) rfl Z.z_len jo vr) qe)))) vI))
  (qf (qO (PW.pt (uI (qA (gT rfl hr.units) vr (vH (uJ rfl hr.units) (kU (qa vr (qa vr qe))) vr)) (jE (qA (gT rfl hr.units) vr (vH (uJ rfl hr.units) (kU (qa vr (qa vr qe))) vr))))) (qf (qg vX)) qF))))))
  (qd (qO (PW.pt (uI (qA (gT rfl hr.units) vr (Uh rfl rfl hr.units rfl Z.z_sorted yC rfl Z.z_set YF vr)) (jE (qA (gT rfl hr.units) (cN b (qa (zv rfl vr vh vh (vi (WK zM qm))) qe)) vr)))) (qf (qg vX)) qF)
  (qd (ja aJ rfl (vL rfl Z.z_range qm) gn
  (qd (se (cN O (qa vr (yn (i:=1) rfl (fg (bO rfl)) (by decide) qe))))
  (qd (se (vH WO (cN l (qa vr (qa vr (qa (qx (jr rfl) rfl Z.z_len jo vr) (qa (Vx rfl rfl Z.z_tuple vo rfl Z.z_range zx (qx (jr rfl) rfl Z.z_len jo vr)) qe))))) vI))
  (qd (qO (PW.pt (uI (qA (gT rfl hr.units) (cN a (qa vr (qa vr qe))) vr) (uI (jz (tv (xy rfl rfl Z.z_isinstance jh rfl Z.z_bool qau (cN a (qa vr (qa vr qe)))))) (jE (PW.pt (wC (tv vr) (jE (qA (jF rfl hr.units) vr vr)))))))) (qf (qg vX)) qF)
  (qf (qO (qA (xc rfl hr.units) (cN d (qa vr (qa vr qe))) qm) (qd (se (qQ (jt rfl) qm (cN o (qa vr (yn (i:=1) rfl (fg (bO rfl)) (by decide) (qa qm qe))))))
  (qd (se (vK (Jb rfl) rfl Z.z_tuple vo (cmp (qG rfl vr) (λ_ _ _ _=>(qY o hr (by decide) uB rfl (qa vr (yn (i:=2) rfl (by first|exact fg (fg rfl)|exact fg (bO rfl)) (by decide) (qa vr qe))))))))
  (qf (qO (PW.pt (uI (qA WO (cN c (qa vr (qa vr (qa vr (qa vr qe))))) vI) (jE (jz (tv vr))))) (qf (qg vX)) qF)))) qF))))))
  (qf (qg vX))))))))) λ_=>.inr rfl
end
end Kx
namespace Kx
open PySem PySem.Spec L2 L2.D2
variable{ρ:Sl}{ds:List D}{d:D}{ms:List PM}{n:Nat}{i:Int}{x y:Str}
section
variable{as:List AK}{os:List D}{j:Int}{b:Bool}{ks:List (Key×D)}
@[simp] theorem ql7:kJ [] [] ρ=iO []:=rfl
@[simp] theorem ql8:kJ (.sl n::as) (d::ds) ρ=match ρ[n]? with|some (iO d)=>(kJ as ds ρ).map (d::·)|_=>none:=rfl
@[simp] theorem ql9:kJ (.vl::as) (d::ds) ρ=(kJ as ds ρ).map (d::·):=rfl
@[simp] theorem qma:kJ (.fr::as) (d::ds) ρ=(kJ as ds ρ).map (d::·):=rfl
@[simp] theorem qmb:zr [] [] ρ=ρ:=rfl
@[simp] theorem qmc:zr (.sl n::as) (d::ds) ρ=zr as ds (ρ.set n (iO d)):=rfl
@[simp] theorem qmd:zr (.vl::as) (d::ds) ρ=zr as ds ρ:=rfl
@[simp] theorem qme:zr (.fr::as) (d::ds) ρ=zr as ds ρ:=rfl
@[simp] theorem qmf:jQ ρ n []=[]:=rfl
@[simp] theorem qmg:jQ ρ n (.io::ms)=((ρ[n]?).getD iQ).getD .non::jQ ρ (n+1) ms:=rfl
@[simp] theorem qmh:jQ ρ n (.val::ms)=.non::jQ ρ (n+1) ms:=rfl
@[simp] theorem qmi:jQ ρ n (.tk::ms)=.non::jQ ρ (n+1) ms:=rfl
@[simp] theorem qmj:ki (.int i) (.int j)=.ok (.int (i+j)):=rfl
@[simp] theorem qmk:ki (.str x) (.str y)=if x.length+y.length<=Z8 then .ok (.str (x++y))else .bad:=rfl
@[simp] theorem qlY:ki (.lst ds) (.lst os)=if ds.length+os.length<=Z8 then .ok (.lst (ds++os))else .bad:=rfl
@[simp] theorem qml:ki (.tup ds) (.tup os)=if ds.length+os.length<=Z8 then .ok (.tup (ds++os))else .bad:=rfl
@[simp] theorem qmm:Gn .non .non=.ok (.bl iT):=rfl
@[simp] theorem qmn:Gn (.tup ds) .non=.ok (.bl iS):=rfl
@[simp] theorem qmo:Gn (.dct ks) .non=.ok (.bl iS):=rfl
@[simp] theorem qmp:wE .non .non=.ok (.bl iS):=rfl
@[simp] theorem qmq:wE (.tup ds) .non=.ok (.bl iT):=rfl
@[simp] theorem ylI:ltD (.int i) (.int j)=.ok (.bl (decide (i<j))):=rfl
@[simp] theorem ylS:ltD (.str x) (.str y)=.ok (.bl (wz x y)):=rfl
@[simp] theorem yeI:leD (.int i) (.int j)=.ok (.bl (decide (i<=j))):=rfl
@[simp] theorem yeS:leD (.str x) (.str y)=.ok (.bl (!wz y x)):=rfl
@[simp] theorem ygI:gtD (.int i) (.int j)=.ok (.bl (decide (j<i))):=rfl
@[simp] theorem ysI:Kg (.int i) (.int j)=.ok (.int (i - j)):=rfl
@[simp] theorem ytB:ZD (.bl b)=.ok b:=rfl
@[simp] theorem ytI:ZD (.int i)=.ok (i != 0):=rfl
@[simp] theorem ytN:ZD .non=.ok false:=rfl
@[simp] theorem ytL:ZD (.lst ds)=.ok (!ds.isEmpty):=rfl
@[simp] theorem ytT:ZD (.tup ds)=.ok (!ds.isEmpty):=rfl
@[simp] theorem ynS:ko (.str x)=.ok (.int x.length):=rfl
@[simp] theorem ynL:ko (.lst ds)=.ok (.int ds.length):=rfl
@[simp] theorem ynT:ko (.tup ds)=.ok (.int ds.length):=rfl
@[simp] theorem ynD:ko (.dct ks)=.ok (.int ks.length):=rfl
end
variable{α:Type}
theorem yf(xs:List α)(k:Nat):atI xs (k:Int)=xs[k]?:=by
 unfold atI ixN;rw[Aa (by lia)];by_cases h:k<xs.length;·rw[Aa (by lia)];simp
 .rw[Ab (by lia),bM (by lia)];rfl
theorem qd7{xs:List α}(a:0<=i)(h1:i<xs.length):∃d,atI xs i=iO d/\d∈xs:=by
 obtain⟨k,rfl⟩:=Int.eq_ofNat_of_zero_le a;have h:k<xs.length:=by lia
 exact⟨xs[k],by rw[yf,ay h],bE h⟩
theorem big:2000<=Z8:=by rw[i5];decide
abbrev scr(ns:List Int):D:=.lst (ns.map .int)
theorem qf6(ns:List Int)(k:Nat):∃i,xn [scr ns,.int k]=.ok (.int i,[.non,.non]):=by
 by_cases h:k<ns.length;·refine⟨ns[k],?_⟩;refine qr.trans ?_;simp[ux,qt,ixD,h,yf]
 .by_cases a:ns=[]
  .subst a;have b:¬((k:Int)<0):=by lia
   exact⟨0,by refine qr.trans ?_;simp[ux,qt,ixD,eqD,eqN,wA,b]⟩
  .have hp:0<ns.length:=List.length_pos_iff.mpr a;have c:k % ns.length<ns.length:=ff _ hp;have e:atI (ns.map D.int) ((k:Int) % (ns.length:Int))=iO (.int ns[k % ns.length]):=by rw[show((k:Int) % (ns.length:Int))=((k % ns.length:Nat):Int) by simp,yf,aG,ay c];rfl
   refine⟨ns[k % ns.length] * 31+k,?_⟩;refine qr.trans ?_;simp[ux,qt,ixD,eqD,eqN,h,a,zc,qdJ,zp,hp,e,CMul]
variable{many:Int}
theorem qdh(ns:List Int)(k:Nat)(h:0<many):∃r,0<=r/\r<many/\JK [scr ns,.int k,.int many]=.ok (.int r,[.non,.non,.non]):=by obtain⟨c,a⟩:=qf6 ns k;have h1:=cW ((c+7919 * k+1) * 48271) (show(2147483647:Int)≠0 by decide);have h2:=cM ((c+7919 * k+1) * 48271) (show(0:Int)<2147483647 by decide);generalize hd:(c+7919 * (k:Int)+1) * 48271 % 2147483647=d at h1 h2;have b:CMul d d:=.inl ⟨by lia,by lia⟩;refine⟨(d * d+7 * d+k) % 2147483629 % many,cW _ (by lia),cM _ h,?_⟩;refine qr.trans ?_;simp[YR,qt,a,qdJ,zc,zp,h,hd,b,show ∀j,CMul 7919 j from λj=>.inl ⟨by lia,by lia⟩,show ∀j,CMul 7 j from λj=>.inl ⟨by lia,by lia⟩,show ∀i,CMul i 48271 from λi=>.inr ⟨by lia,by lia⟩]
theorem ub(ns:List Int)(t:List D)(c:0<many)(ht:t.length<1000):∃r,0<=r/\r<many/\kw [scr ns,.lst t,.int many]=.ok (.int r,[.non,.lst (t++[.int 0]),.non]):=by obtain⟨r,a,h1,h⟩:=qdh ns (t.length+1) c;have hl:t.length<Z8:=aI (eU ht (by decide)) big;refine⟨r,a,h1,?_⟩;simp at h;refine qr.trans ?_;simp[qaM,qt,yv,Kk,hl,h]
theorem qa0(ns:List Int)(t xs:List D)(hx:xs≠[])(ht:t.length<1000):∃d,d∈xs/\JL [scr ns,.lst t,.lst xs]=.ok (d,[.non,.lst (t++[.int 0]),.non]):=by have hp:0<xs.length:=List.length_pos_iff.mpr hx;obtain⟨r,a,h1,h⟩:=ub ns t (many:=(xs.length:Int)) (by lia) ht;obtain⟨d,e,hd⟩:=qd7 (xs:=xs) a h1;refine⟨d,hd,?_⟩;refine qr.trans ?_;simp[qaO,qt,h,ixD,e]
def az(c:Nat):Prop:=97<=c/\c<=122
def qdi(w:Str):Prop:=1<=w.length/\w.length<=6/\∀c∈w.cps.toList,az c
theorem vE(x:Str):x.length=x.cps.size:=rfl
theorem Uu(x y:Str):(x++y).cps=x.cps++y.cps:=rfl
theorem uc:∀ws:List Str,ga (ws.map D.str)=iO ws
 |[]=>rfl
 |w::ws=>by simp[ga,uc ws]
theorem vT(w:Str):∀ws:List Str,zq 7 (.str w) (ws.map D.str)=iO (decide (w∈ws))
 |[]=>by simp[zq]
 |a::ws=>by
  have j:=vT w ws;simp only[aE,zq,j];simp[eqN,eqS];by_cases h:a=w;·simp[h]
  .simp[h,bJ h]
def jl(ws:List Str):Prop:=1<=ws.length/\ws.length<=6/\ws.Nodup/\∀w∈ws,qdi w
theorem qf7:(bq "abcdefghijklmnopqrstuvwxyz").cps.toList.length=26:=by decide +kernel
theorem qin:∀c∈(bq "abcdefghijklmnopqrstuvwxyz").cps.toList,az c:=by unfold az;decide +kernel
abbrev qio:qK:=(qX 3 (d2 ki (qc 3) (d2 ixD (dC (.str "abcdefghijklmnopqrstuvwxyz")) (ql [.vl,.sl 1,.vl] kw (qb (qc 0) (kb (qb (qc 2) qu)))))))
variable{few:Int}
theorem Wf(ns:List Int)(h:0<few)(h1:few<=26):∀(ds:List D)(t:List D)(w:Str)(k:Option D),t.length+ds.length<1000->w.length+ds.length<=100->(∀c∈w.cps.toList,az c) ->∃a S k',a.length=t.length+ds.length/\S.length=w.length+ds.length/\(∀c∈S.cps.toList,az c)/\jB (gNm 4) qio ds [iO (scr ns),iO (.lst t),iO (.int few),iO (.str w),k]=.ok (.nx,[iO (scr ns),iO (.lst a),iO (.int few),iO (.str S),k'])
 |[],t,w,k,_,_,hw=>⟨t,w,k,rfl,rfl,hw,rfl⟩
 | d::ds,t,w,k,ht,hl,hw=>by
  rw[ah]at ht hl;obtain⟨r,r0,r1,hr⟩:=ub ns t (many:=few) h (by lia);obtain⟨c,b,m⟩:=qd7 (xs:=(bq "abcdefghijklmnopqrstuvwxyz").cps.toList) (i:=r) r0 (by rw[qf7];lia);obtain⟨a,S,k',e,g,y,q⟩:=Wf ns h h1 ds (t++[.int 0]) (w++⟨#[c]⟩) (iO d) (by rw[aj];simp;lia) (by rw[vE,Uu,Array.size_append];rw[vE]at hl;simp;lia) (λx hx=>by
   rw[Uu,Array.toList_append,af]at hx;rcases hx with hx|hx;·exact hw x hx
   .simp at hx;rw[hx];exact qin c m)
  refine⟨a,S,k',?_,?_,y,?_⟩
  .rw[e,aj,ah];simp
   lia
  .rw[g,vE,Uu,Array.size_append,<-vE,ah];simp
   lia
  .have z:w.length+g7 ⟨#[c]⟩<=Z8:=by
    have:=big;simp[vE]at hl ⊢
    lia
   rw[<-q];simp[jB,qio,hr,ixD,b,z]
theorem qf8(ns:List Int)(t:List D)(b:0<few)(h1:few<=26)(ht:t.length<900):∃w a,qdi w/\a.length<=t.length+8/\JO [scr ns,.lst t,.int few]=.ok (.str w,[.non,.lst a,.non]):=by
 obtain⟨d,hd,hp⟩:=qa0 ns t [.int 2,.int 3,.int 6] (by simp) (by lia);obtain⟨m,rfl,m0,m1⟩:∃m:Int,d=.int m/\0<m/\m<=6:=by
  simp at hd;rcases hd with rfl|rfl|rfl;·exact⟨2,rfl,by lia,by lia⟩
  .exact⟨3,rfl,by lia,by lia⟩
  .exact⟨6,rfl,by lia,by lia⟩
 obtain⟨r,r0,r1,hr⟩:=ub ns (t++[.int 0]) (many:=m) m0 (by rw[aj];simp;lia);have n:(yt 0 (1+r).toNat).length=(1+r).toNat:=by simp[yt]
 have e0:g7 (bq "")=0:=by decide +kernel
 obtain⟨a,S,k',e,g,y,q⟩:=Wf ns b h1 (yt 0 (1+r).toNat) (t++[.int 0]++[.int 0]) "" iQ (by rw[n,aj,aj];simp;lia) (by rw[n,e0];lia) (by
  have:(bq "").cps.toList=[]:=by decide +kernel
  rw[this];intro c h;cases h)
 refine⟨S,a,⟨?_,?_,y⟩,?_,?_⟩
 .rw[g,e0,n]
  lia
 .rw[g,e0,n]
  lia
 .rw[e,n,aj,aj];simp
  lia
 .refine qr.trans ?_;have k:-(2 ^ 62:Int)<=1+r/\1+r<2 ^ 62:=by lia
  have f:=big;have z:3<=Z8:=by lia
  simp only[aT,g6,cr]at q hr;simp[qaQ,qt,hp,hr,jU,-Int.reducePow,k,z,q]
abbrev qa1:qK:=(qH (qX 6 (ql [.vl,.sl 1,.vl] JO (qb (qc 0) (kb (qb (qc 3) qu)))))
  (sIf (qy (d2 vf (qc 6) (qc 4))) (kn (xx 4 Kk (qc 6))) qM))
theorem xo(ns:List Int)(m:D)(e:0<few)(h1:few<=26):∀(ds:List D)(n:List D)(ws:List Str)(k u:Option D),n.length+8 * ds.length<900->ws.length+ds.length<=100->ws.Nodup->(∀w∈ws,qdi w) ->∃(t:List D)(V:List Str)(k' c:Option D),t.length<=n.length+8 * ds.length/\V.length<=ws.length+ds.length/\ws.length<=V.length/\(ds≠[]->1<=V.length)/\V.Nodup/\(∀w∈V,qdi w) /\
   jB (gNm 5) qa1 ds [iO (scr ns),iO (.lst n),iO m,iO (.int few),iO (.lst (ws.map D.str)),k,u]=.ok (.nx,[iO (scr ns),iO (.lst t),iO m,iO (.int few),iO (.lst (V.map D.str)),k',c])
 |[],n,ws,k,u,_,_,hn,hw=>⟨n,ws,k,u,by simp,by simp,by simp,by simp,hn,hw,rfl⟩
 | d::ds,n,ws,k,u,ht,hl,hn,hw=>by
  rw[ah]at ht hl;obtain⟨w,t1,W,o,hg⟩:=qf8 ns n e h1 (by lia);have i:=big;have j:ws.length<Z8:=by lia
  by_cases h:w∈ws
  .obtain⟨t,V,k',c,s,g,y,r,p,l,f⟩:=xo ns m e h1 ds t1 ws (iO d) (iO (.str w)) (by lia) (by lia) hn hw;refine⟨t,V,k',c,by rw[ah];lia,by rw[ah];lia,y,λ_=>?_,p,l,?_⟩
   .have:0<ws.length:=cL h
    lia
   .rw[<-f];simp[jB,qa1,hg,vf,XH,inD,vT,h]
  .obtain⟨t,V,k',c,s,g,y,r,p,l,f⟩:=xo ns m e h1 ds t1 (ws++[w]) (iO d) (iO (.str w)) (by lia) (by rw[aj];simp;lia) (bV.mpr ⟨hn,by simp,λa q b i=>by
    rw[aw.mp i];exact λz=>h (z ▸ q)⟩) (λx hx=>by
    rcases af.mp hx with hx|hx;·exact hw x hx
    .rw[aw.mp hx];exact W)
   rw[aj]at g y;simp at g y;refine⟨t,V,k',c,by rw[ah];lia,by rw[ah];lia,by lia,λ_=>by lia,p,l,?_⟩;rw[<-f];simp[jB,qa1,hg,vf,XH,inD,vT,h,yv,Kk,j]
theorem qdj(ns:List Int)(t:List D)(ht:t.length<700):∃ws a,jl ws/\a.length<=t.length+50/\JP [scr ns,.lst t,.int 5]=.ok (.tup (ws.map D.str),[.non,.lst a,.non]):=by
 obtain⟨d,hd,hp⟩:=qa0 ns t [.int 2,.int 3,.int 4,.int 6,.int 26] (by simp) (by lia);obtain⟨m,rfl,m0,m1⟩:∃m:Int,d=.int m/\0<m/\m<=26:=by
  simp at hd;rcases hd with rfl|rfl|rfl|rfl|rfl;·exact⟨2,rfl,by lia,by lia⟩
  .exact⟨3,rfl,by lia,by lia⟩
  .exact⟨4,rfl,by lia,by lia⟩
  .exact⟨6,rfl,by lia,by lia⟩
  .exact⟨26,rfl,by lia,by lia⟩
 obtain⟨r,r0,r1,hr⟩:=ub ns (t++[.int 0]) (many:=5) (by lia) (by rw[aj];simp;lia);have n:(yt 0 (1+r).toNat).length=(1+r).toNat:=by simp[yt]
 obtain⟨a,V,k',u,b,g,y,q,p,l,k⟩:=xo ns (.int 5) m0 m1 (yt 0 (1+r).toNat) (t++[.int 0]++[.int 0]) [] iQ iQ (by rw[n,aj,aj];simp;lia) (by rw[n];simp;lia) cG (by simp);have e:yt 0 (1+r).toNat≠[]:=λz=>by
  rw[z]at n;simp at n
  lia
 refine⟨V,a,⟨q e,?_,p,l⟩,?_,?_⟩
 .rw[n]at g;simp at g
  lia
 .rw[n,aj,aj]at b;simp at b
  lia
 .refine qr.trans ?_;have c:-(2 ^ 62:Int)<=1+r/\1+r<2 ^ 62:=by lia
  have f:=big;have h:5<=Z8:=by lia
  simp only[aT,g6,cr,cg]at k hr;simp[YU,qt,hp,hr,jU,-Int.reducePow,c,h,k,yw]
def QQ(p q:Int):Prop:=(-3<=p/\p<=2)/\-3<=q/\q<=2
theorem qf9(ns:List Int)(t:List D)(ht:t.length<900):∃p q a,QQ p q/\a.length=t.length+2/\JQ [scr ns,.lst t]=.ok (.tup [.int p,.int q],[.non,.lst a]):=by
 obtain⟨r,r0,r1,hr⟩:=ub ns t (many:=6) (by lia) (by lia);obtain⟨u,b,y,f⟩:=ub ns (t++[.int 0]) (many:=6) (by lia) (by rw[aj];simp;lia);have d:=big;have z:2<=Z8:=by lia
 refine⟨r - 3,u - 3,t++[.int 0,.int 0],⟨⟨by lia,by lia⟩,by lia,by lia⟩,by simp,?_⟩;refine qr.trans ?_;simp only[aT,g6,cr]at f;simp[qaT,qt,hr,f,zp,z]
noncomputable def yU(n:Nat)(p:Int):Nat:=(max 0 (min (if 0<=p then p else(n:Int)+p) ((n:Int) - 1))).toNat
def Wx(w:Str)(p:Int):Str:=⟨#[(w.cps.toList[yU w.length p]?).getD 0]⟩
variable{w:Str}
theorem zb(h:qdi w)(p:Int):vc [.str w,.int p]=.ok (.str (Wx w p),[.non,.non]):=by
 have h1:=h.1;have hn:(w.cps.toList.length:Int)=w.length:=by simp[vE]
 have key:∀q:Int,q=(if 0<=p then p else(w.length:Int)+p)->atI w.cps.toList (if 0<(if (w.length:Int) - 1<q then(w.length:Int) - 1 else q)then(if (w.length:Int) - 1<q then(w.length:Int) - 1 else q)else 0)=iO ((w.cps.toList[yU w.length p]?).getD 0):=by
  intro q hq;have e:(if 0<(if (w.length:Int) - 1<q then(w.length:Int) - 1 else q)then(if (w.length:Int) - 1<q then(w.length:Int) - 1 else q)else 0)=(yU w.length p:Int):=by
   unfold yU;rw[<-hq];have:1<=(w.length:Int):=by omega
   generalize (w.length:Int)=n at *;split <;> split <;> omega
  have hl:yU w.length p<w.cps.toList.length:=by
   have Z:w.cps.toList.length=w.length:=by simp[vE]
   rw[Z];unfold yU;omega
  rw[e,yf,ay hl];rfl
 refine qr.trans ?_;by_cases hp:0<=p;·have k:=key p (by rw[Aa hp]);simp[yd,qt,geD,zp,hp,qjy,qjz,ixD,k,Wx]
 .have k:=key (w.length+p) (by rw[Ab hp]);simp[yd,qt,geD,zp,hp,qjy,qjz,ixD,k,Wx]
theorem qa2(h:qdi w):(∃a,w=⟨#[a]⟩)\/(∃a b,w=⟨#[a,b]⟩)\/(∃a b c,w=⟨#[a,b,c]⟩)\/(∃a b c d,w=⟨#[a,b,c,d]⟩)\/(∃a b c d e,w=⟨#[a,b,c,d,e]⟩)\/∃a b c d e f,w=⟨#[a,b,c,d,e,f]⟩:=by
 obtain⟨⟨l⟩⟩:=w;have h1:1<=l.length:=h.1;have h2:l.length<=6:=h.2.1
 match l,h1,h2 with
 |[a],_,_=>exact .inl ⟨a,rfl⟩
 |[a,b],_,_=>exact .inr (.inl ⟨a,b,rfl⟩)
 |[a,b,c],_,_=>exact .inr (.inr (.inl ⟨a,b,c,rfl⟩))
 |[a,b,c,d],_,_=>exact .inr (.inr (.inr (.inl ⟨a,b,c,d,rfl⟩)))
 |[a,b,c,d,e],_,_=>exact .inr (.inr (.inr (.inr (.inl ⟨a,b,c,d,e,rfl⟩))))
 |[a,b,c,d,e,f],_,_=>exact .inr (.inr (.inr (.inr (.inr ⟨a,b,c,d,e,f,rfl⟩))))
variable{own:List Nat}
theorem uz(ρc:Sl):∀(cap:List Nat)(n:Nat)(ρ:Sl),(∀k∈cap,k∉own)->jX own ρc n cap ρ=ρ
 |[],n,ρ,_=>rfl
 |k::cap,n,ρ,h=>by unfold jX;rw[Ab (h k (ai ..))];exact uz ρc cap (n+1) ρ λx hx=>h x (ac _ hx)
theorem qip{fe:qU}{ft:uA}{P:D->Bool}{F:D->D}{c:Sl}:∀(ds:List D)(x:Option D),(∀d∈ds,ft (iO d::c)=.ok (P d,iO d::c))->(∀d∈ds,P d=iT->fe (iO d::c)=.ok (F d,iO d::c))->∃m,jR (gNm 0) ft fe ds (x::c)=.ok ((ds.filter P).map F,m::c)
 |[],x,_,_=>⟨x,rfl⟩
 |d::ds,x,h,h'=>by
  obtain⟨m,e⟩:=qip ds (iO d) (λd' hd=>h d' (ac _ hd)) λd' hd=>h' d' (ac _ hd);refine⟨m,?_⟩;have h1:=h d (ai ..);have h2:=h' d (ai ..);cases q:P d with
  |true=>simp[jR,zL,h1,q,h2 q,e]
  |false=>simp[jR,zL,h1,q,e]
variable{cap:List Nat}{ρ1:Sl}
theorem qa3{fi:vY}{fe:qU}{ft:uA}(P:D->Bool)(F:D->D)(l:∀k∈cap,k∉own)(h:fi ρ=.ok (ds,ρ1))(hl:ds.length<=Z8)(ht:∀d∈ds,ft (iO d::cap.map λk=>(ρ1[k]?).getD iQ)=.ok (P d,iO d::cap.map λk=>(ρ1[k]?).getD iQ))(i:∀d∈ds,P d=iT->fe (iO d::cap.map λk=>(ρ1[k]?).getD iQ)=.ok (F d,iO d::cap.map λk=>(ρ1[k]?).getD iQ)) :
  qN own 1 cap fi (gNm 0) ft fe ρ=.ok (.lst ((ds.filter P).map F),ρ1):=by
 obtain⟨m,e⟩:=qip ds iQ ht i;unfold qN;rw[h];simp only[jJ];rw[Aa hl,show kK 1 cap ρ1=iQ::cap.map λk=>(ρ1[k]?).getD iQ from rfl,e];simp only[jJ,uz _ _ _ _ l]
theorem qa4{fi:vY}{fe:qU}(F:D->D)(l:∀k∈cap,k∉own)(h:fi ρ=.ok (ds,ρ1))(hl:ds.length<=Z8)(ht:∀d∈ds,fe (iO d::cap.map λk=>(ρ1[k]?).getD iQ)=.ok (F d,iO d::cap.map λk=>(ρ1[k]?).getD iQ)):qN own 1 cap fi (gNm 0) ftT fe ρ=.ok (.lst (ds.map F),ρ1):=by have e:=qa3 (ft:=ftT) (λ_=>iT) F l h hl (λ_ _=>rfl) λd hd _=>ht d hd;rw[List.filter_eq_self.mpr λ_ _=>rfl]at e;exact e
theorem ud{fi:vY}{fe:qU}(F:D->D)(h:fi ρ=.ok (ds,ρ1))(hl:ds.length<=Z8)(ht:∀d∈ds,fe (iO d::cap.map λk=>(ρ1[k]?).getD iQ)=.ok (F d,iO d::cap.map λk=>(ρ1[k]?).getD iQ)):qN [] 1 cap fi (gNm 0) ftT fe ρ=.ok (.lst (ds.map F),ρ1):=qa4 F (λ_ _=>by simp) h hl ht
def qC(ws:List Str)(p q:Int):List (Str×Str):=ws.map λw=>(Wx w p,Wx w q)
noncomputable def qo(l:List (Str×Str)):List D:=l.map λx=>.tup [.str x.1,.str x.2]
theorem small(h:n<=2000):n<=Z8:=be h big
abbrev Wd(ws:List Str):D:=.tup (ws.map D.str)
abbrev Ld(p q:Int):D:=.tup [.int p,.int q]
variable{ws:List Str}{p q:Int}
theorem Zu{G:jK}(h:jl ws)(a:∀w∈ws,G [.str w,.int p]=.ok (.str (Wx w p),[.non,.non])/\G [.str w,.int q]=.ok (.str (Wx w q),[.non,.non])):qN [] 1 [1] (qV (qc 0)) (gNm 0) ftT (yh (qb (ql [.vl,.vl] G (qb (qc 0) (qb (d2 ixD (qc 1) (dC (.int 0))) qu))) (qb (ql [.vl,.vl] G (qb (qc 0) (qb (d2 ixD (qc 1) (dC (.int 1))) qu))) qu))) [iO (Wd ws),iO (Ld p q)]
   = .ok (.lst (qo (qC ws p q)),[iO (Wd ws),iO (Ld p q)]):=by
 have e:=ud (cap:=[1]) (fi:=qV (qc 0)) (ρ:=[iO (Wd ws),iO (Ld p q)]) (ρ1:=[iO (Wd ws),iO (Ld p q)]) (ds:=ws.map D.str)
  (fe:=(yh (qb (ql [.vl,.vl] G (qb (qc 0) (qb (d2 ixD (qc 1) (dC (.int 0))) qu))) (qb (ql [.vl,.vl] G (qb (qc 0) (qb (d2 ixD (qc 1) (dC (.int 1))) qu))) qu))))
  (λd=>match d with|.str w=>.tup [.str (Wx w p),.str (Wx w q)]|d=>d) (by simp[jg]) (by rw[ao];exact small (by have:=h.2.1;lia)) (λd hd=>by obtain⟨w,c,rfl⟩:=aq.mp hd;obtain⟨h1,h2⟩:=a w c;have z:2<=Z8:=small (by lia);simp[ixD,atI,ixN,h1,h2,z])
 rw[e];simp[qo,qC]
def Pl:D->Prop
 |.raw _=>False
 |.xcp _=>False
 |.ins _ _=>False
 |.dct _=>False
 |.at_ _ _=>False
 |_=>True
@[simp] theorem kk1:kt "NoneType" "int"=iO false:=by decide +kernel
@[simp] theorem kk2:kt "bool" "int"=iO true:=by decide +kernel
@[simp] theorem kk3:kt "int" "int"=iO true:=by decide +kernel
@[simp] theorem kk4:kt "str" "int"=iO false:=by decide +kernel
@[simp] theorem kk5:kt "tuple" "int"=iO false:=by decide +kernel
@[simp] theorem kk6:kt "list" "int"=iO false:=by decide +kernel
@[simp] theorem kb1:kt "NoneType" "bool"=iO false:=by decide +kernel
@[simp] theorem kb2:kt "bool" "bool"=iO true:=by decide +kernel
@[simp] theorem kb3:kt "int" "bool"=iO false:=by decide +kernel
@[simp] theorem kb4:kt "str" "bool"=iO false:=by decide +kernel
@[simp] theorem kb5:kt "tuple" "bool"=iO false:=by decide +kernel
@[simp] theorem kb6:kt "list" "bool"=iO false:=by decide +kernel
@[simp] theorem ks1:kt "NoneType" "str"=iO false:=by decide +kernel
@[simp] theorem ks2:kt "bool" "str"=iO false:=by decide +kernel
@[simp] theorem ks3:kt "int" "str"=iO false:=by decide +kernel
@[simp] theorem ks4:kt "str" "str"=iO true:=by decide +kernel
@[simp] theorem ks5:kt "tuple" "str"=iO false:=by decide +kernel
@[simp] theorem ks6:kt "list" "str"=iO false:=by decide +kernel
@[simp] theorem kt1:kt "NoneType" "tuple"=iO false:=by decide +kernel
@[simp] theorem kt2:kt "bool" "tuple"=iO false:=by decide +kernel
@[simp] theorem kt3:kt "int" "tuple"=iO false:=by decide +kernel
@[simp] theorem kt4:kt "str" "tuple"=iO false:=by decide +kernel
@[simp] theorem kt5:kt "tuple" "tuple"=iO true:=by decide +kernel
@[simp] theorem kt6:kt "list" "tuple"=iO false:=by decide +kernel
noncomputable def qga:D->Bool
 |.tup _=>iT
 |_=>iS
theorem qiq(h:Pl d):xa "tuple" d=.ok (.bl (qga d)):=by cases d <;> first|exact h.elim|simp[xa,tyN,qga]
def qd8:D->Bool
 |.str x=>decide (x.length=1)&&(!wz x "a"&&!wz "z" x)
 |_=>iS
noncomputable def Wz(lo hi:Int):D->Bool
 |.int i=>decide (lo<=i)&&decide (i<=hi)
 |_=>iS
set_option tactic.hygienic true in
theorem Wg(h:Pl d):we [d]=.ok (.bl (qd8 d),[.non]):=by
 refine qr.trans ?_;cases d <;> first
  |exact h.elim
  |(simp[wc,qt,xa,tyN,qd8];done)
  |skip
 rename_i x;by_cases h1:x.length=1
 .have c:(x.length:Int)=1:=by lia
  cases h2:wz x "a" <;> simp[wc,qt,xa,tyN,eqD,eqN,eqS,qd8,h1,c,h2]
 .have c:¬(x.length:Int)=1:=by lia
  simp[wc,qt,xa,tyN,eqD,eqN,eqS,qd8,h1,c]
set_option tactic.hygienic true in
theorem kR(h:Pl d)(lo hi:Int):jG [d,.int lo,.int hi]=.ok (.bl (Wz lo hi d),[.non,.non,.non]):=by
 refine qr.trans ?_;cases d <;> first
  |exact h.elim
  |(simp[wN,qt,xa,tyN,Wz];done)
  |skip
 rename_i i;by_cases h1:lo<=i <;> simp[wN,qt,xa,tyN,Wz,h1]
theorem qir{c:Nat}(h:az c):qd8 (.str ⟨#[c]⟩)=true:=by
 have a:(bq "a").cps.toList=[97]:=by decide +kernel
 have z:(bq "z").cps.toList=[122]:=by decide +kernel
 obtain⟨h1,h2⟩:=h;have g:¬([c]:List Nat) < [97]:=by rw[List.cons_lt_cons_iff];simp;omega
 have l:¬([122]:List Nat) < [c]:=by rw[List.cons_lt_cons_iff];simp;omega
 have e1:wz ⟨#[c]⟩ (bq "a")=false:=by unfold wz;rw[a];exact Ac g
 have i:wz (bq "z") ⟨#[c]⟩=false:=by unfold wz;rw[z];exact Ac l
 simp[qd8,vE,e1,i]
theorem QI(f:α->Bool):∀l:List α,xz (l.map λx=>.bl (f x))=iO (l.map f)
 |[]=>rfl
 |a::l=>by have j:=QI f l;simp[xz,j]
theorem yV(f:α->Bool)(l:List α):XO (.lst (l.map λx=>.bl (f x)))=.ok (.bl (l.all f)):=by simp only[XO,QI];simp[g8,Function.comp_def]
theorem qa5(h:qdi w)(p:Int):∃c,az c/\Wx w p=⟨#[c]⟩:=by
 have hn:w.cps.toList.length=w.length:=by simp[vE]
 have hl:yU w.length p<w.cps.toList.length:=by have:=h.1;rw[hn];unfold yU;omega
 refine⟨w.cps.toList[yU w.length p],h.2.2 _ (bE hl),?_⟩;unfold Wx;rw[ay hl];rfl
theorem Zv(h:qdi w):yE [.str w]=.ok (.bl iT,[.non]):=by
 refine qr.trans ?_;have e:=ud (cap:=[]) (fi:=qV (qc 0)) (ρ:=[iO (.str w)]) (ρ1:=[iO (.str w)]) (ds:=KW w) (fe:=ql [.vl] we (qb (qc 0) qu)) (λd=>.bl (qd8 d)) (by simp[jg]) (by
   have:=h.2.1;simp[KW,<-vE];exact small (by lia)) (λd hd=>by
   obtain⟨c,a,rfl⟩:=aq.mp hd;have h1:=Wg (d:=.str ⟨#[c]⟩) trivial;simp[h1])
 have g:(KW w).all qd8=true:=by rw[aM];intro d hd;obtain⟨c,a,rfl⟩:=aq.mp hd;exact qir (h.2.2 c a)
 have h1:(1:Int)<=w.length:=by have:=h.1;lia
 have h6:(w.length:Int)<=6:=by have:=h.2.1;lia
 simp only[VE,qt,aE,cg,ah,bn,Nat.reduceAdd,eY,cJ,bg];simp[xa,tyN,h1,h6,e,yV,g]
theorem gL:∀(ws ks:List Str),ws.Nodup->(∀x∈ws,x∉ks)->ws.foldl zS ks=ks++ws
 |[],ks,_,_=>by simp
 | w::ws,ks,hn,hd=>by
  have h1:=aP.mp hn;rw[d7,show zS ks w=ks++[w]from Ab (hd w (ai ..)),gL ws (ks++[w]) h1.2 ?_];·simp
  .intro x hx z;rcases af.mp z with z|z;·exact hd x (ac _ hx) z
   .rw[aw.mp z]at hx;exact h1.1 hx
set_option tactic.hygienic true in
theorem ue(ws:List Str):∀ks:List Str,ks.Nodup->(ws.foldl zS ks).Nodup/\∀x,x∈ws.foldl zS ks↔x∈ks\/x∈ws:=by
 induction ws with
 |nil=>intro ks hn;exact⟨hn,λx=>by simp⟩
 | cons w ws j=>
  intro ks hn;have r:(zS ks w).Nodup:=by
   unfold zS;split;·exact hn
   .rename_i h;exact bV.mpr ⟨hn,by simp,λa g b d=>by rw[aw.mp d];exact λz=>h (z ▸ g)⟩
  obtain⟨a,b⟩:=j (zS ks w) r;refine⟨a,λx=>?_⟩;rw[d7,b x];unfold zS;split
  .rename_i h;constructor
   .rintro(q|q);·exact .inl q
    .exact .inr (ac _ q)
   .rintro(q|q);·exact .inl q
    .rcases ae.mp q with rfl|q;·exact .inl h
     .exact .inr q
  .simp[af,or_assoc]
theorem Uv(h:jl ws):xl [.tup (ws.map D.str)]=.ok (.bl iT,[.non]):=by
 refine qr.trans ?_;have e:=ud (cap:=[]) (fi:=qV (qc 0)) (ρ:=[iO (.tup (ws.map D.str))]) (ρ1:=[iO (.tup (ws.map D.str))]) (ds:=ws.map D.str) (fe:=ql [.vl] yE (qb (qc 0) qu)) (λd=>.bl iT) (by simp[jg]) (by
   rw[ao];exact small (by have:=h.2.1;lia)) (λd hd=>by
   obtain⟨w,c,rfl⟩:=aq.mp hd;have h1:=Zv (h.2.2.2 w c);simp[h1])
 have h1:(1:Int)<=ws.length:=by have:=h.1;lia
 have h6:(ws.length:Int)<=6:=by have:=h.2.1;lia
 have f:ws.foldl zS []=ws:=by rw[gL ws [] h.2.2.1 (by simp)];simp
 have a:ws.length<4000:=by lia
 have g:=yV (λ_:D=>iT) (ws.map D.str);simp only[Qr,qt,aE,cg,ah,bn,Nat.reduceAdd,eY,cJ,bg];simp[-bA,xa,tyN,h1,h6,e,g,gb,yz,uc,f,a,eqD,eqN,eqS]
theorem uU(w:jl ws):kN [.tup (ws.map D.str)]=.ok (.non,[.non]):=by refine qr.trans ?_;have h:=Uv w;simp[yG,qt,h]
theorem Zw(hl:QQ p q):gq [.tup [.int p,.int q]]=.ok (.bl iT,[.non]):=by
 refine qr.trans ?_;have e:=ud (cap:=[]) (fi:=qV (qc 0)) (ρ:=[iO (.tup [.int p,.int q])]) (ρ1:=[iO (.tup [.int p,.int q])]) (ds:=[.int p,.int q]) (fe:=ql [.vl,.vl,.vl] jG (qb (qc 0) (qb (dC (.int (-3))) (qb (dC (.int 2)) qu)))) (λd=>.bl (Wz (-3) 2 d)) (by simp[jg]) (small (by simp)) (λd hd=>by
   have hd:d=.int p\/d=.int q:=by simpa using hd
   have h1:=kR (d:=.int p) trivial (-3) 2;have h2:=kR (d:=.int q) trivial (-3) 2;rcases hd with rfl|rfl;·simp[h1]
   .simp[h2])
 have a:Wz (-3) 2 (.int p)=true:=by simp[Wz];exact hl.1
 have b:Wz (-3) 2 (.int q)=true:=by simp[Wz];exact hl.2
 simp only[VG,qt,aE,cg,ah,bn,Nat.reduceAdd,eY,cJ,bg];simp[xa,tyN,neD,eqN,eqS,e,XO,xz,a,b]
theorem JT(hl:QQ p q):wR [.tup [.int p,.int q]]=.ok (.non,[.non]):=by refine qr.trans ?_;have h:=Zw hl;simp[xI,qt,h]
theorem JU(h:jl ws)(hl:QQ p q):wf [Wd ws,Ld p q]=.ok (.lst (qo (qC ws p q)),[.non,.non]):=by
 refine qr.trans ?_;have e:=Zu (G:=vc) h (p:=p) (q:=q) λw c=>⟨zb (h.2.2.2 w c) p,zb (h.2.2.2 w c) q⟩
 have k:=uU h;have c2:=JT hl;simp only[qaA,qt,aE,cg,ah,bn,Nat.reduceAdd,eY,cJ,bg];simp[k,c2,e]
theorem qa6{a b:List Str}(g:a.Nodup)(d:b.Nodup)(h:∀x,x∈a↔x∈b):a.Perm b:=(List.perm_ext_iff_of_nodup g d).mpr h
theorem qa7{a b:List Str}(h:∀x,x∈a↔x∈b):uZ (a.foldl zS [])=uZ (b.foldl zS []):=by
 obtain⟨n1,m1⟩:=ue a [] cG;obtain⟨n2,B⟩:=ue b [] cG;have p:=qa6 n1 n2 λx=>by rw[m1,B,h]
 exact zZ ((jv _).trans (p.trans (jv _).symm)) (jY _) (jY _)
def LS(l:List (Str×Str)):List Str:=uZ ((l.map (·.1)++l.map (·.2)).foldl zS [])
variable{l:List (Str×Str)}
theorem uf:x∈LS l↔∃p∈l,x=p.1\/x=p.2:=by
 unfold LS;rw[(jv _).mem_iff,(ue _ [] cG).2];simp only[aW,false_or,af,aq];constructor
 .rintro(⟨p,hp,rfl⟩|⟨p,hp,rfl⟩);·exact⟨p,hp,.inl rfl⟩
  .exact⟨p,hp,.inr rfl⟩
 .rintro⟨p,hp,rfl|rfl⟩;·exact .inl ⟨p,hp,rfl⟩
  .exact .inr ⟨p,hp,rfl⟩
theorem wn(hl:l.length<=20):ji [.lst (qo l)]=.ok (.lst ((LS l).map D.str),[.non]):=by
 refine qr.trans ?_;have z:(qo l).length<=Z8:=by unfold qo;rw[ao];exact small (by lia)
 have e1:=ud (cap:=[]) (fi:=qV (qc 0)) (ρ:=[iO (.lst (qo l))]) (ρ1:=[iO (.lst (qo l))]) (ds:=qo l) (fe:=d2 ixD (qc 0) (dC (.int 0))) (λd=>match d with|.tup [a,b]=>a|d=>d) (by simp[jg]) z (λd hd=>by obtain⟨x,hx,rfl⟩:=aq.mp hd;simp[ixD,atI,ixN]);have i:=ud (cap:=[]) (fi:=qV (qc 0)) (ρ:=[iO (.lst (qo l))]) (ρ1:=[iO (.lst (qo l))]) (ds:=qo l) (fe:=d2 ixD (qc 0) (dC (.int 1))) (λd=>match d with|.tup [a,b]=>b|d=>d) (by simp[jg]) z (λd hd=>by obtain⟨x,hx,rfl⟩:=aq.mp hd;simp[ixD,atI,ixN]);have f1:(qo l).map (λd=>match d with|.tup [a,b]=>a|d=>d)=(l.map (·.1)).map D.str:=by simp[qo]
 have f2:(qo l).map (λd=>match d with|.tup [a,b]=>b|d=>d)=(l.map (·.2)).map D.str:=by simp[qo]
 rw[f1]at e1;rw[f2]at i;have hs:l.length+l.length<=Z8:=small (by lia);have j:l.length+l.length<64:=by lia
 simp only[xN,qt,aE,cg,ah,bn,Nat.reduceAdd,eY,cJ,bg,WY,xi,qkp,e1,i,jJ];simp only[qlY,ao,Aa hs,qkl,jJ,<-bY,uv,yz,uc,aj,Aa j];simp[LS]
theorem at0{a:D}{l:List D}:atI (a::l) 0=iO a:=by have:=yf (a::l) 0;simpa using this
theorem at1{a b:D}{l:List D}:atI (a::b::l) 1=iO b:=by have:=yf (a::b::l) 1;simpa using this
theorem yW(h:Pl d):kC [d]=if Wz 1 99 d=iT then .ok (.non,[.non])else .exc "NoRoom" [iO .non]:=by refine qr.trans ?_;have h1:=kR h 1 99;have z:1<=Z8:=small (by lia);cases e:Wz 1 99 d <;> simp[xD,qt,h1,e,uY]
theorem qv{f g:qK}(h:f ρ=.ok (.nx,ρ1)):Wv ms (qH f g ρ)=Wv ms (g ρ1):=by rw[yb,h];rfl
theorem qa8(w:jl ws)(p q:Int):(LS (qC ws p q)).length<=12:=by
 have hs:(qC ws p q).length<=6:=by simp[qC];exact w.2.1
 unfold LS;rw[(jv _).length_eq];have:=KY ((qC ws p q).map (·.1)++(qC ws p q).map (·.2)) [];simp only[aj,ao,bn]at this
 lia
theorem qis(a:jl ws)(p q:Int):∀x∈LS (qC ws p q),∃c,az c/\x=⟨#[c]⟩:=λx hx=>by
 obtain⟨y,D,h⟩:=uf.mp hx;obtain⟨w,m,rfl⟩:=aq.mp D;rcases h with rfl|rfl;·exact qa5 (a.2.2.2 w m) p
 .exact qa5 (a.2.2.2 w m) q
theorem YZ:∀l:List (Str×Str),(l.flatMap λp=>[p.1,p.2]).length=2 * l.length
 |[]=>rfl
 |a::l=>by
  rw[fR,aj,YZ l,ah];simp
  lia
noncomputable def prL(l:List (Str×Int)):List D:=l.map λx=>.tup [.str x.1,.int x.2]
noncomputable def qp(l:List (Str×Int)):List Str:=l.map (·.1)
noncomputable def bk(l:List (Str×Int)):List (Key×D):=l.map λx=>(.inr x.1,.int x.2)
noncomputable def jN(l:List (Str×Int))(x:Str):Int:=((l.find? λy=>decide (y.1=x)).map (·.2)).getD 0
theorem qa9:∀{l:List (Str×Int)}{x:Str},x∈qp l->(x,jN l x)∈l/\(bk l).find? (λkv=>decide (kv.1=br x))=iO (.inr x,.int (jN l x))
 |[],x,h=>by cases h
 | a::l,x,h=>by
  by_cases e:a.1=x
  .have c:jN (a::l) x=a.2:=by simp[jN,e]
   rw[c];refine⟨?_,?_⟩;·rw[<-e];exact ai ..
   .simp[bk,e]
  .have hx:x∈qp l:=by
    rcases ae.mp (show x∈a.1::qp l from h)with z|z;·exact absurd z.symm e
    .exact z
   obtain⟨h1,h2⟩:=qa9 hx;have c:jN (a::l) x=jN l x:=by simp[jN,e]
   rw[c];refine⟨ac _ h1,?_⟩;rw[<-h2];simp[bk,e]
theorem qdk{l:List (Str×Int)}(h:x∈qp l):ixD (.dct (bk l)) (.str x)=.ok (.int (jN l x)):=by simp[ixD,(qa9 h).2]
theorem yX(h:qdi w)(g:-3<=p)(h1:p<=2):vS [.str w,.int p]=.ok (.str (Wx w p),[.non,.non]):=by
 have hp:p=-3\/p=-2\/p=-1\/p=0\/p=1\/p=2:=by lia
 rcases qa2 h with⟨a,rfl⟩|⟨a,b,rfl⟩|⟨a,b,c,rfl⟩|⟨a,b,c,d,rfl⟩|⟨a,b,c,d,e,rfl⟩|⟨a,b,c,d,e,f,rfl⟩ <;> rcases hp with rfl|rfl|rfl|rfl|rfl|rfl <;> kernel_rfl
theorem ug(h:jl ws)(hl:QQ p q):jS [.tup (ws.map D.str),.tup [.int p,.int q]]=.ok (.lst (qo (qC ws p q)),[.non,.non]):=by
 refine qr.trans ?_;have e:=ud (cap:=[1]) (fi:=qV (qc 0)) (ρ:=[iO (.tup (ws.map D.str)),iO (.tup [.int p,.int q])]) (ρ1:=[iO (.tup (ws.map D.str)),iO (.tup [.int p,.int q])]) (ds:=ws.map D.str)
  (fe:=(yh (qb (ql [.vl,.vl] vS (qb (qc 0) (qb (d2 ixD (qc 1) (dC (.int 0))) qu))) (qb (ql [.vl,.vl] vS (qb (qc 0) (qb (d2 ixD (qc 1) (dC (.int 1))) qu))) qu))))
  (λd=>match d with|.str w=>.tup [.str (Wx w p),.str (Wx w q)]|d=>d) (by simp[jg]) (by rw[ao];exact small (by have:=h.2.1;lia)) (λd hd=>by obtain⟨w,c,rfl⟩:=aq.mp hd;have h1:=yX (h.2.2.2 w c) hl.1.1 hl.1.2;have h2:=yX (h.2.2.2 w c) hl.2.1 hl.2.2;have z:2<=Z8:=small (by lia);simp[ixD,atI,ixN,h1,h2,z])
 simp only[YX,qt,aE,cg,WY,ah,bn,Nat.reduceAdd,eY,cJ,bg];rw[e];simp[qo,qC]
abbrev Pr:=Str×Str
abbrev Wk:=List Nat
noncomputable def inL(l:Wk):List D:=l.map λ(k:Nat)=>.int (k:Nat)
abbrev lD(l:Wk):D:=.lst (inL l)
abbrev nD(ns:List Int):D:=.tup (ns.map D.int)
abbrev pD(p:Pr):D:=.tup [.str p.1,.str p.2]
noncomputable def nI(ns:List Int)(k:Nat):Int:=(ns[k]?).getD 0
variable{ns:List Int}
theorem qit{k:Nat}(h:k<ns.length):ixD (nD ns) (.int (k:Nat))=.ok (.int (nI ns k)):=by unfold ixD nI;simp only[];rw[yf,aG,ay h];rfl
def qR(ns:List Int)(t:Int)(l:Wk):Int:=l.foldl (λa k=>nI ns k - a) t
def qgR(nd:D)(ns:List Int):Prop:=∀k:Nat,k<ns.length->ixD nd (.int (k:Nat))=.ok (.int (nI ns k))
theorem qiu(ns:List Int):qgR (nD ns) ns:=λ_ h=>qit h
theorem QJ{nd:D}{ns:List Int}(d:qgR nd ns){a s:Option D}:∀(l:Wk)(t:Int)(x:Option D),(∀k∈l,k<ns.length)->∃m,jB (gNm 4) (qX 3 (d2 Kg (d2 ixD (qc 1) (qc 4)) (qc 3))) (inL l) [a,iO nd,s,iO (.int t),x]=.ok (.nx,[a,iO nd,s,iO (.int (qR ns t l)),m])
 |[],t,x,_=>⟨x,rfl⟩
 |k::l,t,x,h=>by have b:=d k (h k (ai ..));obtain⟨m,e⟩:=QJ d (a:=a) (s:=s) l (nI ns k - t) (iO (.int (k:Nat))) λj c=>h j (ac _ c);refine⟨m,?_⟩;have e0:qR ns t (k::l)=qR ns (nI ns k - t) l:=rfl;rw[e0,<-e];simp[inL,jB,b,zp]
variable{nd:D}
theorem Uw(d:qgR nd ns){l:Wk}(h:∀k∈l,k<ns.length)(t:Int):xm [lD l,nd,.int t]=.ok (.int (qR ns t l),[.non,.non,.non]):=by obtain⟨m,e⟩:=QJ d (a:=iO (lD l)) (s:=iO (.int t)) l t iQ h;refine qr.trans ?_;unfold Qv;rw[show qt Qu [lD l,nd,.int t]=[iO (lD l),iO nd,iO (.int t),iQ,iQ]from rfl];refine(qv (ρ1:=[iO (lD l),iO nd,iO (.int t),iO (.int t),iQ]) (by simp)).trans ?_;refine(qv (ρ1:=[iO (lD l),iO nd,iO (.int t),iO (.int (qR ns t l)),m]) (by rw[jV];exact e)).trans ?_;simp
noncomputable def odd(l:Wk):Bool:=decide (l.length % 2=1)
theorem gM(l:Wk):wg [lD l]=.ok (.bl (odd l),[.non]):=by
 refine qr.trans ?_;have h:((inL l).length:Int) % 2=((l.length % 2:Nat):Int):=by simp[inL]
 by_cases q:l.length % 2=1;·simp[Jz,qt,zc,zp,eqD,eqN,eqS,h,odd,q]
 .have g:¬((l.length % 2:Nat):Int)=1:=by omega
  simp[Jz,qt,zc,zp,eqD,eqN,eqS,h,odd,q,g];omega
def Zx(l:Wk)(r:Int)(ns:List Int):Bool:=if odd l=iT then decide (r % 2=0)&&decide (qR ns 0 l % 2=1)else !decide (qR ns 0 l % r=0)
variable{r:Int}
theorem qgb(d:qgR nd ns){l:Wk}(h:∀k∈l,k<ns.length)(hr:1<=r):YH [lD l,.int r,nd]=.ok (.bl (Zx l r ns),[.non,.non,.non]):=by
 have h1:=Uw d h 0;have h2:=gM l;have a:0<r:=by omega
 refine qr.trans ?_;unfold Zx;generalize qR ns 0 l=t at h1;cases q:odd l with
 |true=>rw[q]at h2;by_cases e1:r % 2=0 <;> simp[qaC,qt,h1,h2,zc,zp,eqD,eqN,eqS,e1] <;> rfl
 |false=>rw[q]at h2;simp[qaC,qt,h1,h2,zc,zp,neD,eqN,eqS,a];rfl
abbrev Wy:=List (Str×Str×Wk)
noncomputable def wD(W:Wy):List (Key×D):=W.map λe=>(.inr e.1,.tup [.str e.2.1,lD e.2.2])
noncomputable def kW(W:Wy):List Str:=W.map (·.1)
theorem qd9(W:Wy)(x:Str):kj (wD W) (.inr x)=decide (x∈kW W):=by
 unfold kj wD kW
 induction W with
 |nil=>rfl
 |cons e W j=>
  rw[aE,b9,j];by_cases h:e.1=x;·subst h;simp
  .have h2:¬(br e.1:Key)=br x:=λz=>h (br.inj z);have g:¬x=e.1:=λz=>h z.symm;simp[h2,g]
variable{W:Wy}
theorem qea{r:Str}{l:Wk}(h:x∉kW W):vN (wD W) (.inr x) (.tup [.str r,lD l])=wD (W++[(x,r,l)]):=by
 unfold vN;have h1:((wD W).any λp=>decide (p.1=(br x:Key)))=false:=by have:=qd9 W x;unfold kj at this;rw[this];exact Ac h
 rw[h1,Ab bQ];unfold wD;rw[bY];rfl
theorem qgc:∀{W:Wy}{e:Str×Str×Wk},(kW W).Nodup->e∈W->ixD (.dct (wD W)) (.str e.1)=.ok (.tup [.str e.2.1,lD e.2.2])
 |[],e,_,h=>by cases h
 |a::W,e,hn,h=>by
  have r:=aP.mp (show(a.1::kW W).Nodup from hn);rcases ae.mp h with rfl|h;·simp[ixD,wD]
  .have b:a.1≠e.1:=λz=>r.1 (by rw[z];exact aq.mpr ⟨e,h,rfl⟩);have j:=qgc r.2 h;unfold ixD at j ⊢;simp only[wD,aE]at j ⊢;have h2:¬(br a.1:Key)=br e.1:=λz=>b (br.inj z);rw[cK (by simpa using h2)];exact j
inductive Path(seen:List Pr)(r:Str):Wk->Str->Prop
 |nil:Path seen r [] r
 |snoc {l:Wk} {x y:Str} {k:Nat} {p:Pr}:Path seen r l x->seen[k]?=iO p->(p=(x,y)\/p=(y,x))->Path seen r (l++[k]) y
variable{seen:List Pr}
theorem Path.lt{r:Str}{l:Wk}(h:Path seen r l x):∀k∈l,k<seen.length:=by
 induction h with
 |nil=>simp
 |snoc _ e _ j=>
  intro k a;rcases af.mp a with a|a;·exact j k a
  .rw[aw.mp a];exact(aD.mp e).1
structure WI(seen:List Pr)(W:Wy):Prop where
 nd:(kW W).Nodup
 sub:∀x∈kW W,x∈LS seen
 path:∀e∈W,Path seen e.2.1 e.2.2 e.1
 len:∀e∈W,e.2.2.length<W.length
theorem kG(W V:Wy):kW (W++V)=kW W++kW V:=by simp[kW]
theorem WI.add(h:WI seen W){r:Str}{l:Wk}(hx:x∉kW W)(c:x∈LS seen)(hp:Path seen r l x)(hl:l.length<=W.length):WI seen (W++[(x,r,l)]) where
 nd:=by rw[kG];refine bV.mpr ⟨h.nd,by simp[kW],λa g b d=>?_⟩;rw[show kW [(x,r,l)]=[x]from rfl]at d;rw[aw.mp d];exact λz=>hx (z ▸ g)
 sub:=λy D=>by
  rw[kG]at D;rcases af.mp D with D|D;·exact h.sub y D
  .rw[show y=x from aw.mp D];exact c
 path:=λe i=>by
  rcases af.mp i with i|i;·exact h.path e i
  .rw[aw.mp i];exact hp
 len:=λe i=>by
  rw[aj];rcases af.mp i with i|i;·have:=h.len e i;simp;omega
  .rw[aw.mp i];simp;omega
theorem qba:∀{a b:List Str},a.Nodup->(∀x∈a,x∈b)->a.length<=b.length
 |[],b,_,_=>aU _
 |x::a,b,hn,h=>by have r:=aP.mp hn;have hx:=h x (ai ..);have j:=qba (b:=b.erase x) r.2 λy D=>(fA (λz=>r.1 (by rw[<-z];exact D))).mpr (h y (ac _ D));rw[c9 hx]at j;have:=cL hx;rw[ah];omega
theorem WI.le(h:WI seen W):W.length<=(LS seen).length:=by have:=qba h.nd h.sub;simpa[kW]using this
noncomputable def oth(p:Pr)(x:Str):Str:=if x=p.1 then p.2 else p.1
theorem qdl(p:Pr)(x:Str):kA [pD p,.str x]=.ok (.str (oth p x),[.non,.non]):=by refine qr.trans ?_;unfold oth;by_cases h:x=p.1 <;> simp[uM,qt,ixD,at0,at1,eqD,eqN,eqS,h]
theorem qgd(p:Pr)(x:Str):inA (.str x) (pD p)=.ok (.bl (decide (x=p.1\/x=p.2))):=by have h:=vT x [p.1,p.2];simp only[aE,cg]at h;show(inD (.str x) (pD p)).bind (λb=>Out.ok (D.bl b))=_;unfold inD;simp only[h];simp
theorem Xa(W:Wy)(x:Str):vf (.str x) (.dct (wD W))=.ok (.bl (!decide (x∈kW W))):=by unfold vf;simp only[zw];rw[qd9]
theorem qiv{p:Pr}(hp:p∈seen)(x:Str):oth p x∈LS seen:=by
 rw[uf];refine⟨p,hp,?_⟩;unfold oth;split;·exact .inr rfl
 .exact .inl rfl
abbrev spB:qK:=(qH (qX 7 (ql [.vl,.vl] kA (qb (qc 6) (qb (qc 4) qu))))
  (sIf (Kh (qy (d2 inA (qc 4) (qc 6))) (qy (d2 vf (qc 7) (qc 2)))) (qH (vg 2 (yh (qb (qc 1) (qb (d2 ki (d2 ixD (d2O 2 ixD (qc 4)) (dC (.int 1))) (yo (qb (qc 5) qu))) qu))) (qc 7))
  (kn (xx 3 Kk (qc 7)))) qM))
theorem qdm{f g:qK}(h:f ρ=.ok (.nx,ρ1)):qH f g ρ=g ρ1:=by rw[yb,h];rfl
variable{g:D->Sl->Out Sl}{ρ2:Sl}
theorem kr{fb:qK}(h1:g d ρ=.ok ρ1)(h2:fb ρ1=.ok (.nx,ρ2)):jB g fb (d::ds) ρ=jB g fb ds ρ2:=by rw[jB,h1];simp only[Out.plain,jJ];rw[h2];rfl
theorem Xb{fb:qK}{v:D}(h1:g d ρ=.ok ρ1)(h2:fb ρ1=.ok (.rt v,ρ2)):jB g fb (d::ds) ρ=.ok (.rt v,ρ2):=by rw[jB,h1];simp only[Out.plain,jJ];rw[h2];rfl
variable{root:Str}{ly:Wk}
theorem qge(hs:(LS seen).length<=20)(a:WI seen W)(d:(y,root,ly)∈W){k:Nat}{p:Pr}(o:seen[k]?=iO p)(Q:List Str)(A:Q.length<=1000)(s x7:Option D):∃(M:Wy)(rch:Option D),WI seen (W++M)/\(∀e∈M,e.2.1=root)/\M.length<=1/\((y=p.1\/y=p.2)->oth p y∈kW (W++M)) /\
   spB [s,iO (.str root),iO (.dct (wD W)),iO (.lst (Q.map D.str)),iO (.str y),iO (.int (k:Nat)),iO (pD p),x7]=.ok (.nx,[s,iO (.str root),iO (.dct (wD (W++M))),iO (.lst ((Q++kW M).map D.str)),iO (.str y),iO (.int (k:Nat)),iO (pD p),rch]):=by
 have h1:=qdl p y;have h2:=qgd p y;have g:=Xa W (oth p y);have S:=a.le;have v:=big;have b:=a.len _ d;have m:p∈seen:=aV o;by_cases q:(y=p.1\/y=p.2)/\oth p y∉kW W
 .refine⟨[(oth p y,root,ly++[k])],iO (.str (oth p y)),a.add q.2 (qiv m y) (.snoc (a.path _ d) o ?_) (by rw[aj];simp;simp at b;lia),by simp,by simp,λ_=>by rw[kG];exact af.mpr (.inr (by simp[kW])),?_⟩
  .obtain⟨p1,p2⟩:=p;unfold oth;rcases q.1 with e|e;·have e:y=p1:=e;subst e;simp
   .have e:y=p2:=e;subst e;by_cases z:y=p1;·subst z;simp
    .simp[z]
  .unfold spB;rw[qdm (ρ1:=[s,iO (.str root),iO (.dct (wD W)),iO (.lst (Q.map D.str)),iO (.str y),iO (.int (k:Nat)),iO (pD p),iO (.str (oth p y))]) (by simp[h1])];have h:decide (y=p.1\/y=p.2)=true:=Ad q.1;have j:(!decide (oth p y∈kW W))=true:=by rw[Ac q.2];rfl
   rw[h]at h2;rw[j]at g;have V:=qgc a.nd d;simp only[]at V;have c:ixD (.tup [.str root,lD ly]) (.int 1)=.ok (lD ly):=by simp[ixD,at1]
   have t:=qea (W:=W) (x:=oth p y) (r:=root) (l:=ly++[k]) q.2;have hl:(inL ly).length+1<=Z8:=by simp[inL];simp at b;lia
   have z1:1<=Z8:=by lia
   have z2:2<=Z8:=by lia
   have f:(wD W).length<Z8:=by simp[wD];lia
   have i:Q.length<Z8:=by lia
   have n:inL ly++[.int (k:Nat)]=inL (ly++[k]):=by simp[inL]
   rw[qhW,show Kh (qy (d2 inA (qc 4) (qc 6))) (qy (d2 vf (qc 7) (qc 2))) [s,iO (.str root),iO (.dct (wD W)),iO (.lst (Q.map D.str)),iO (.str y),iO (.int (k:Nat)),iO (pD p),iO (.str (oth p y))]=.ok (iT,[s,iO (.str root),iO (.dct (wD W)),iO (.lst (Q.map D.str)),iO (.str y),iO (.int (k:Nat)),iO (pD p),iO (.str (oth p y))]) by simp[h2,g]];simp only[jJ,if_true];rw[qdm (ρ1:=[s,iO (.str root),iO (.dct (wD (W++[(oth p y,root,ly++[k])]))),iO (.lst (Q.map D.str)),iO (.str y),iO (.int (k:Nat)),iO (pD p),iO (.str (oth p y))]) (by simp[vg,d2O,V,c,z1,z2,hl,n,zw,f,t])];simp[yv,Kk,i,kW]
 .refine⟨[],iO (.str (oth p y)),by simpa using a,by simp,by simp,λz=>?_,?_⟩;·rw[bg];exact bG λw=>q ⟨z,w⟩
  .unfold spB;rw[qdm (ρ1:=[s,iO (.str root),iO (.dct (wD W)),iO (.lst (Q.map D.str)),iO (.str y),iO (.int (k:Nat)),iO (pD p),iO (.str (oth p y))]) (by simp[h1])];by_cases z:y=p.1\/y=p.2
   .have h:decide (y=p.1\/y=p.2)=true:=Ad z;have u:oth p y∈kW W:=bG λw=>q ⟨z,w⟩;have j:(!decide (oth p y∈kW W))=false:=by rw[Ad u];rfl
    rw[h]at h2;rw[j]at g;simp[h2,g,kW]
   .have h:decide (y=p.1\/y=p.2)=false:=Ac z;rw[h]at h2;simp[h2,kW]
noncomputable def en(k0:Nat)(rest:List Pr):List D:=(rest.zipIdx k0).map λp=>.tup [.int (p.2:Nat),pD p.1]
theorem qiw(seen:List Pr):zf (qo seen)=en 0 seen:=by unfold zf en qo;rw[List.zipIdx_map,bA];rfl
theorem qeb(hs:(LS seen).length<=20)(s:Option D):∀(rest:List Pr)(k0:Nat)(W:Wy)(Q:List Str)(x5 x6 x7:Option D),seen.drop k0=rest->WI seen W->(y,root,ly)∈W->Q.length+rest.length<=500 ->∃(M:Wy)(V c b:Option D),WI seen (W++M)/\(∀e∈M,e.2.1=root)/\(∀p∈rest,(y=p.1\/y=p.2)->oth p y∈kW (W++M))/\M.length<=rest.length /\
   jB (jM 2 (qw (gNm 5) (qw (gNm 6) jL))) spB (en k0 rest) [s,iO (.str root),iO (.dct (wD W)),iO (.lst (Q.map D.str)),iO (.str y),x5,x6,x7]=.ok (.nx,[s,iO (.str root),iO (.dct (wD (W++M))),iO (.lst ((Q++kW M).map D.str)),iO (.str y),V,c,b])
 |[],k0,W,Q,x5,x6,x7,_,hW,_,_=>⟨[],x5,x6,x7,by simpa using hW,by simp,by simp,by simp,by simp[en,jB,kW]⟩
 | p::rest,k0,W,Q,x5,x6,x7,hd,hW,hy,hQ=>by
  rw[ah]at hQ;have k:seen[k0]?=iO p:=by have:=congrArg List.head? hd;rw[List.head?_drop]at this;simpa using this
  have hd2:seen.drop (k0+1)=rest:=by have:=congrArg List.tail hd;rw[List.tail_drop]at this;simpa using this
  obtain⟨a,r1,r,o,n,q,m⟩:=qge hs hW hy k Q (by lia) s x7;have d:(kW a).length<=1:=by simpa[kW]using n
  obtain⟨t,V,c,b,l,j,x,u,f⟩:=qeb hs s rest (k0+1) (W++a) (Q++kW a) (iO (.int (k0:Nat))) (iO (pD p)) r1 hd2 r (af.mpr (.inl hy)) (by rw[aj];lia);refine⟨a++t,V,c,b,by rw[<-aT];exact l,λe i=>?_,λg h z=>?_,by rw[aj,ah];lia,?_⟩
  .rcases af.mp i with i|i;·exact o e i
   .exact j e i
  .rw[<-aT,kG];rcases ae.mp h with rfl|h;·exact af.mpr (.inl (q z))
   .have:=x g h z;rw[kG]at this;exact this
  .rw[kG,<-aT,<-aT];refine dP ?_ f;have e0:en k0 (p::rest)=.tup [.int (k0:Nat),pD p]::en (k0+1) rest:=by simp[en,dU]
   rw[e0];exact kr rfl m
theorem qdn{ft:uA}{fb:qK}(h1:ft ρ=.ok (iT,ρ1))(h2:fb ρ1=.ok (.nx,ρ2)):jf ft fb (n+1) ρ=jf ft fb n ρ2:=by rw[jf,h1];simp only[jJ,if_true];rw[h2];rfl
theorem qbb{ft:uA}{fb:qK}(h1:ft ρ=.ok (iS,ρ1)):jf ft fb (n+1) ρ=.ok (.nx,ρ1):=by rw[jf,h1];rfl
abbrev spC:uA:=qy (d2 gtD (d1 ko (qc 3)) (dC (.int 0)))
abbrev spW:qK:=(qH (qX 4 (qac 3)) (vz (Vn (qc 0)) (jM 2 (qw (gNm 5) (qw (gNm 6) jL))) spB))
abbrev sD(seen:List Pr):D:=.lst (qo seen)
theorem Xc(hn:seen.length<=10)(hs:(LS seen).length<=20)(root:Str):∀(n:Nat)(W:Wy)(Q:List Str)(x4 x5 x6 x7:Option D),n<=100->WI seen W->(∀x∈Q,∃l,(x,root,l)∈W)->Q.length+((LS seen).length - W.length)<n ->∃(M:Wy)(o V c b:Option D),WI seen (W++M)/\(∀e∈M,e.2.1=root)/\(∀x,x∈Q\/x∈kW M->∀p∈seen,(x=p.1\/x=p.2)->oth p x∈kW (W++M)) /\
   jf spC spW n [iO (sD seen),iO (.str root),iO (.dct (wD W)),iO (.lst (Q.map D.str)),x4,x5,x6,x7]=.ok (.nx,[iO (sD seen),iO (.str root),iO (.dct (wD (W++M))),iO (.lst []),o,V,c,b])
 | 0,W,Q,x4,x5,x6,x7,_,_,_,h=>absurd h (cU _)
 |n+1,W,[],x4,x5,x6,x7,_,hW,_,_=>⟨[],x4,x5,x6,x7,by simpa using hW,by simp,by simp[kW],by rw[bg];exact qbb (by simp[zp])⟩
 | n+1,W,y::Q,x4,x5,x6,x7,h100,hW,hQ,hm=>by
  obtain⟨ly,r⟩:=hQ y (ai ..);rw[ah]at hm;obtain⟨a,V,c,b,k,g,A,C,w⟩:=qeb hs (iO (sD seen)) seen 0 W Q x5 x6 x7 (by simp) hW r (by lia);have S:=k.le;rw[aj]at S;obtain⟨B,m,j,f,d,v,t,s,u⟩:=Xc hn hs root n (W++a) (Q++kW a) (iO (.str y)) V c b (by lia) k (λx hx=>by
   rcases af.mp hx with hx|hx;·obtain⟨l,hl⟩:=hQ x (ac _ hx);exact⟨l,af.mpr (.inl hl)⟩
   .obtain⟨e,i,rfl⟩:=aq.mp hx;refine⟨e.2.2,af.mpr (.inr ?_)⟩;rw[<-g e i];exact i) (by
   rw[aj,aj,show(kW a).length=a.length by simp[kW]]
   lia)
  refine⟨a++B,m,j,f,d,by rw[<-aT];exact v,λe i=>?_,λx hx p hp z=>?_,?_⟩
  .rcases af.mp i with i|i;·exact g e i
   .exact t e i
  .rw[<-aT];by_cases q:x=y;·subst q;rw[kG];exact af.mpr (.inl (A p hp z))
   .refine s x ?_ p hp z;rcases hx with hx|hx
    .rcases ae.mp hx with e|hx;·exact absurd e q
     .exact .inl (af.mpr (.inl hx))
    .rw[kG]at hx;rcases af.mp hx with hx|hx;·exact .inl (af.mpr (.inr hx))
     .exact .inr hx
  .rw[<-aT];refine dP ?_ u;refine qdn (ρ1:=[iO (sD seen),iO (.str root),iO (.dct (wD W)),iO (.lst ((y::Q).map D.str)),x4,x5,x6,x7]) (by
    have:(0:Int)<(Q.length:Int)+1:=by lia
    simp[zp,this]) ?_
   unfold spW;rw[qdm (ρ1:=[iO (sD seen),iO (.str root),iO (.dct (wD W)),iO (.lst (Q.map D.str)),iO (.str y),x5,x6,x7]) (by simp[qac])];rw[jV,show Vn (qc 0) [iO (sD seen),iO (.str root),iO (.dct (wD W)),iO (.lst (Q.map D.str)),iO (.str y),x5,x6,x7]=.ok (zf (qo seen),[iO (sD seen),iO (.str root),iO (.dct (wD W)),iO (.lst (Q.map D.str)),iO (.str y),x5,x6,x7])from rfl,jJ,qiw];exact w
theorem qbc(hn:seen.length<=6)(hs:(LS seen).length<=12)(b:WI seen W)(hr:root∉kW W)(c:root∈LS seen):∃M:Wy,WI seen (W++M)/\(∀e∈M,e.2.1=root)/\(root,root,[])∈M/\(∀x∈kW M,∀p∈seen,(x=p.1\/x=p.2)->oth p x∈kW (W++M))/\zy [sD seen,.str root,.dct (wD W)]=.ok (.non,[.non,.non,.dct (wD (W++M))]):=by
 have h:=b.add hr c (r:=root) (l:=[]) .nil (aU _);have S:=h.le;have a:=b.le;have v:=big;obtain⟨M,o,V,j,f,k,d,y,q⟩:=Xc (by lia) (by lia) root 20 (W++[(root,root,[])]) [root] iQ iQ iQ iQ (by lia) h (λx hx=>⟨[],by rw[aw.mp hx];exact af.mpr (.inr (aw.mpr rfl))⟩) (by simp;lia);rw[aT]at k y q;refine⟨[(root,root,[])]++M,k,λe i=>?_,af.mpr (.inl (aw.mpr rfl)),λx hx p hp z=>y x ?_ p hp z,?_⟩
 .rcases af.mp i with i|i;·rw[aw.mp i]
  .exact d e i
 .rw[kG]at hx;rcases af.mp hx with hx|hx;·exact .inl hx
  .exact .inr hx
 .refine qr.trans ?_;unfold YK;rw[show qt YJ [sD seen,.str root,.dct (wD W)]=[iO (sD seen),iO (.str root),iO (.dct (wD W)),iQ,iQ,iQ,iQ,iQ]from rfl];have t:=qea (W:=W) (x:=root) (r:=root) (l:=[]) hr;rw[show lD []=.lst []from rfl]at t;have z2:2<=Z8:=by lia
  have z1:1<=Z8:=by lia
  have g:(wD W).length<Z8:=by simp[wD];lia
  refine(qv (ρ1:=[iO (sD seen),iO (.str root),iO (.dct (wD (W++[(root,root,[])]))),iQ,iQ,iQ,iQ,iQ]) (by simp[vg,z2,zw,g,t])).trans ?_;refine(qv (ρ1:=[iO (sD seen),iO (.str root),iO (.dct (wD (W++[(root,root,[])]))),iO (.lst [.str root]),iQ,iQ,iQ,iQ]) (by simp[z1])).trans ?_;exact(congrArg (Wv [.val,.val,.io]) q).trans rfl
def CI(seen:List Pr)(W:Wy):Prop:=∀e∈W,∀p∈seen,(e.1=p.1\/e.1=p.2)->∃a∈W,a.1=oth p e.1/\a.2.1=e.2.1
def RI(W:Wy):Prop:=∀e∈W,(e.2.1,e.2.1,[])∈W
theorem qgf{p:Pr}(h:x=p.1\/x=p.2):oth p (oth p x)=x/\(oth p x=p.1\/oth p x=p.2):=by
 obtain⟨a,b⟩:=p;unfold oth;simp only[];by_cases q:x=a
 .subst q;simp only[if_true];by_cases e:b=x;·subst e;simp
  .simp[e]
 .have:x=b:=by rcases h with h|h;exact absurd h q;exact h
  subst this;simp[q]
theorem JV:∀{W:Wy},(kW W).Nodup->∀{e b:Str×Str×Wk},e∈W->b∈W->e.1=b.1->e=b
 |[],_,e,b,h,_,_=>by cases h
 | a::W,hn,e,b,h,h',q=>by
  have r:=aP.mp (show(a.1::kW W).Nodup from hn);rcases ae.mp h with h1|h1
  .rcases ae.mp h' with h2|h2;·rw[h1,h2]
   .exact absurd (show a.1∈kW W from aq.mpr ⟨b,h2,by rw[<-q,h1]⟩) r.1
  .rcases ae.mp h' with h2|h2;·exact absurd (show a.1∈kW W from aq.mpr ⟨e,h1,by rw[q,h2]⟩) r.1
   .exact JV r.2 h1 h2 q
abbrev woB:qK:=(sIf (qy (d2 vf (qc 2) (qc 1))) (kn (ql [.vl,.vl,.sl 1] zy (qb (qc 0) (qb (qc 2) (kb qu))))) qM)
def MI(W:Wy):Prop:=∀e∈W,leS e.2.1 e.1
theorem qdo(x:Str):leS x x:=(Vj x x).elim id id
theorem gN(hn:seen.length<=6)(hs:(LS seen).length<=12):∀(xs:List Str)(W:Wy)(x:Option D),(∀x∈xs,x∈LS seen)->xs.Pairwise leS->(∀z∈LS seen,z∈kW W\/z∈xs)->WI seen W->CI seen W->RI W->MI W ->∃(M:Wy)(m:Option D),WI seen (W++M)/\CI seen (W++M)/\RI (W++M)/\MI (W++M)/\(∀x∈xs,x∈kW (W++M))/\jB (gNm 2) woB (xs.map D.str) [iO (sD seen),iO (.dct (wD W)),x]=.ok (.nx,[iO (sD seen),iO (.dct (wD (W++M))),m])
 |[],W,x,_,_,_,hW,hC,hR,hM=>⟨[],x,by simpa using hW,by simpa using hC,by simpa using hR,by simpa using hM,by simp,by simp[jB]⟩
 | y::xs,W,x,hx,hso,hal,hW,hC,hR,hM=>by
  have b:=bB.mp hso;have k:=Xa W y;by_cases q:y∈kW W
  .obtain⟨M,m,v,u,t,o,s,r⟩:=gN hn hs xs W (iO (.str y)) (λz a=>hx z (ac _ a)) b.2 (λz a=>by
    rcases hal z a with h|h;·exact .inl h
    .rcases ae.mp h with rfl|h;·exact .inl q
     .exact .inr h) hW hC hR hM
   refine⟨M,m,v,u,t,o,λz a=>?_,?_⟩
   .rcases ae.mp a with rfl|a;·rw[kG];exact af.mpr (.inl q)
    .exact s z a
   .refine dP (kr (ρ1:=[iO (sD seen),iO (.dct (wD W)),iO (.str y)]) rfl ?_) r;rw[Ad q]at k;simp[k]
  .obtain⟨j,g,n,G,L,K⟩:=qbc hn hs hW q (hx y (ai ..));have B:RI (W++j):=λe i=>by
    rcases af.mp i with i|i;·exact af.mpr (.inl (hR e i))
    .rw[n e i];exact af.mpr (.inr G)
   have E:CI seen (W++j):=λe i p hp a=>by
    rcases af.mp i with i|i;·obtain⟨f,h1,h2⟩:=hC e i p hp a;exact⟨f,af.mpr (.inl h1),h2⟩
    .have J:=L e.1 (aq.mpr ⟨e,i,rfl⟩) p hp a;obtain⟨f,h1,h2⟩:=aq.mp J;refine⟨f,h1,h2,?_⟩;rcases af.mp h1 with c|c
     .exfalso;obtain⟨o1,o2⟩:=qgf a;rw[<-h2]at o1 o2;obtain⟨l,I,H,_⟩:=hC f c p hp o2;rw[o1]at H;have:=JV g.nd (af.mpr (.inl I)) (af.mpr (.inr i)) H;subst this;have d:=g.nd;rw[kG]at d;exact(bV.mp d).2.2 l.1 (aq.mpr ⟨l,I,rfl⟩) l.1 (aq.mpr ⟨l,i,rfl⟩) rfl
     .rw[n f c,n e i]
   have C:MI (W++j):=λe i=>by
    rcases af.mp i with i|i;·exact hM e i
    .rw[n e i];have d:=g.nd;rw[kG]at d;have w:e.1∉kW W:=λz=>(bV.mp d).2.2 e.1 z e.1 (aq.mpr ⟨e,i,rfl⟩) rfl;have A:=g.sub e.1 (by rw[kG];exact af.mpr (.inr (aq.mpr ⟨e,i,rfl⟩)));rcases hal e.1 A with h|h;·exact absurd h w
     .rcases ae.mp h with h|h;·rw[h];exact qdo _
      .exact b.1 e.1 h
   obtain⟨N,m,v,u,t,o,s,r⟩:=gN hn hs xs (W++j) (iO (.str y)) (λz a=>hx z (ac _ a)) b.2 (λz a=>by
    rcases hal z a with h|h;·exact .inl (by rw[kG];exact af.mpr (.inl h))
    .rcases ae.mp h with rfl|h;·exact .inl (by rw[kG];exact af.mpr (.inr (aq.mpr ⟨_,G,rfl⟩)))
     .exact .inr h) g E B C
   rw[aT]at v u t o s r;refine⟨j++N,m,v,u,t,o,λz a=>?_,?_⟩
   .rcases ae.mp a with rfl|a;·rw[kG,kG];exact af.mpr (.inr (af.mpr (.inl (aq.mpr ⟨_,G,rfl⟩))))
    .exact s z a
   .refine dP (kr (ρ1:=[iO (sD seen),iO (.dct (wD W)),iO (.str y)]) rfl ?_) r;rw[Ac q]at k;simp[k,K]
theorem Zy(hn:seen.length<=6)(hs:(LS seen).length<=12):∃W:Wy,WI seen W/\CI seen W/\RI W/\MI W/\(∀x∈LS seen,x∈kW W)/\yL [sD seen]=.ok (.dct (wD W),[.non]):=by obtain⟨W,m,k,g,y,o,q,p⟩:=gN hn hs (LS seen) [] iQ (λ_ h=>h) (by unfold LS;exact jY _) (λz a=>.inr a) ⟨by simp[kW],by simp[kW],by simp,by simp⟩ (λe i=>by cases i) (λe i=>by cases i) (λe i=>by cases i);rw[cr]at k g y o q p;refine⟨W,k,g,y,o,q,?_⟩;have t:=wn (l:=seen) (by lia);refine qr.trans ?_;unfold VP;rw[show qt VO [sD seen]=[iO (sD seen),iQ,iQ]from rfl];refine(qv (ρ1:=[iO (sD seen),iO (.dct []),iQ]) (by simp)).trans ?_;refine(qv (ρ1:=[iO (sD seen),iO (.dct (wD W)),m]) (by rw[jV,show qV (ql [.vl] ji (qb (qc 0) qu)) [iO (sD seen),iO (.dct []),iQ]=.ok ((LS seen).map D.str,[iO (sD seen),iO (.dct []),iQ]) by simp[t,jg],jJ];exact p)).trans ?_;simp
noncomputable def jI(W:Wy)(x:Str):Str×Wk:=((W.find? λe=>decide (e.1=x)).map (·.2)).getD (⟨#[]⟩,[])
theorem kh(h:x∈kW W):(x,jI W x)∈W:=by
 unfold jI;cases q:W.find? λe=>decide (e.1=x)with
 |none=>obtain⟨e,i,rfl⟩:=aq.mp h;have:=bK.mp q e i;simp at this
 |some e=>
  have h1:=bS q;have h2:e.1=x:=by simpa using ic q
  rw[<-h2];exact h1
theorem qbd(hn:(kW W).Nodup)(h:x∈kW W):ixD (.dct (wD W)) (.str x)=.ok (.tup [.str (jI W x).1,lD (jI W x).2]):=qgc hn (kh h)
theorem qlZ{a b:D}:ixD (.tup [a,b]) (.int 0)=.ok a:=by simp[ixD,at0]
theorem qls{a b:D}:ixD (.tup [a,b]) (.int 1)=.ok b:=by simp[ixD,at1]
theorem qgg(a b:Wk):inL a++inL b=inL (a++b):=by simp[inL]
theorem qbe(a:Wk):(inL a).length=a.length:=by simp[inL]
theorem qix(l:Wk):yA (lD l)=.ok (lD l.reverse):=by simp[yA,inL]
theorem qbf{a b:Wk}(h:a.length+b.length<=2000):ki (lD a) (lD b)=.ok (lD (a++b)):=by
 have z:(inL a).length+(inL b).length<=Z8:=by rw[qbe,qbe];exact small h
 show(if (inL a).length+(inL b).length<=Z8 then Out.ok (D.lst (inL a++inL b))else .bad)=_;rw[Aa z,qgg]
abbrev Ci:=Str×Wk
noncomputable def cd(c:Ci):D:=.tup [.str c.1,lD c.2]
def cD(C:List Ci):List D:=C.map cd
def Ux(W:Wy)(p:Pr)(k:Nat):Ci:=((jI W p.1).1,(jI W p.1).2++[k]++(jI W p.2).2.reverse)
def CL(W:Wy)(k0:Nat)(rest:List Pr):List Ci:=(rest.zipIdx k0).map λp=>Ux W p.1 p.2
abbrev ciB:qK:=(qH (qX 5 (d1 yA (d2 ixD (d2 ixD (qc 1) (d2 ixD (qc 4) (dC (.int 1)))) (dC (.int 1)))))
  (kn (xx 2 Kk (yh (qb (d2 ixD (d2 ixD (qc 1) (d2 ixD (qc 4) (dC (.int 0)))) (dC (.int 0))) (qb (d2 ki (d2 ki (d2 ixD (d2 ixD (qc 1) (d2 ixD (qc 4) (dC (.int 0)))) (dC (.int 1))) (yo (qb (qc 3) qu))) (qc 5)) qu))))))
theorem qgh(hs:(LS seen).length<=20)(h:WI seen W){p:Pr}(h1:p.1∈kW W)(h2:p.2∈kW W){k:Nat}{acc:List D}(f:acc.length<1000)(s x5:Option D):∃V,ciB [s,iO (.dct (wD W)),iO (.lst acc),iO (.int (k:Nat)),iO (pD p),x5]=.ok (.nx,[s,iO (.dct (wD W)),iO (.lst (acc++[cd (Ux W p k)])),iO (.int (k:Nat)),iO (pD p),V]):=by
 have i1:=qbd h.nd h1;have i2:=qbd h.nd h2;have g:=h.len _ (kh h1);have d:=h.len _ (kh h2);have S:=h.le;have v:=big;simp only[]at g d;have z1:1<=Z8:=by lia
 have z2:2<=Z8:=by lia
 have l:acc.length<Z8:=by lia
 have c:=qbf (a:=(jI W p.1).2) (b:=[k]) (by simp;lia);have e:=qbf (a:=(jI W p.1).2++[k]) (b:=(jI W p.2).2.reverse) (by simp;lia);have c:ki (lD (jI W p.1).2) (.lst [.int (k:Nat)])=.ok (lD ((jI W p.1).2++[k])):=c;have r2:=qix (jI W p.2).2;refine⟨iO (lD (jI W p.2).2.reverse),?_⟩;unfold ciB Ux cd;rw[qdm (ρ1:=[s,iO (.dct (wD W)),iO (.lst acc),iO (.int (k:Nat)),iO (pD p),iO (lD (jI W p.2).2.reverse)]) (by simp[qls,i2,r2])];simp[yv,qlZ,qls,i1,c,e,z1,z2,Kk,l]
theorem qbg(hs:(LS seen).length<=20)(a:WI seen W)(s:Option D):∀(rest:List Pr)(k0:Nat)(acc:List Ci)(O x4 x5:Option D),(∀p∈rest,p.1∈kW W/\p.2∈kW W)->acc.length+rest.length<=500 ->∃y o V,jB (jM 2 (qw (gNm 3) (qw (gNm 4) jL))) ciB (en k0 rest) [s,iO (.dct (wD W)),iO (.lst (cD acc)),O,x4,x5]=.ok (.nx,[s,iO (.dct (wD W)),iO (.lst (cD (acc++CL W k0 rest))),y,o,V])
 |[],k0,acc,O,x4,x5,_,_=>⟨O,x4,x5,by simp[en,CL,jB]⟩
 |p::rest,k0,acc,O,x4,x5,h,hl=>by
  rw[ah]at hl;obtain⟨h1,h2⟩:=h p (ai ..);obtain⟨r5,e⟩:=qgh hs a h1 h2 (k:=k0) (acc:=cD acc) (by simp[cD];lia) s x5;obtain⟨y,o,V,j⟩:=qbg hs a s rest (k0+1) (acc++[Ux W p k0]) (iO (.int (k0:Nat))) (iO (pD p)) r5 (λq hq=>h q (ac _ hq)) (by rw[aj];simp;lia);refine⟨y,o,V,?_⟩;have e0:en k0 (p::rest)=.tup [.int (k0:Nat),pD p]::en (k0+1) rest:=by simp[en,dU]
  have e1:acc++CL W k0 (p::rest)=(acc++[Ux W p k0])++CL W (k0+1) rest:=by simp[CL,dU]
  rw[e0,e1];refine dP (kr rfl e) ?_;rw[show cD acc++[cd (Ux W p k0)]=cD (acc++[Ux W p k0]) by simp[cD]];exact j
theorem uh(g:∀x∈LS seen,x∈kW W):∀p∈seen,p.1∈kW W/\p.2∈kW W:=λp hp=>⟨g _ (uf.mpr ⟨p,hp,.inl rfl⟩),g _ (uf.mpr ⟨p,hp,.inr rfl⟩)⟩
theorem Zz(hn:seen.length<=6)(hs:(LS seen).length<=20)(h:WI seen W)(g:∀x∈LS seen,x∈kW W):wU [sD seen,.dct (wD W)]=.ok (.lst (cD (CL W 0 seen)),[.non,.non]):=by obtain⟨y,o,V,e⟩:=qbg hs h (iO (sD seen)) seen 0 [] iQ iQ iQ (uh g) (by simp;lia);rw[cr]at e;refine qr.trans ?_;unfold xQ;rw[show qt xP [sD seen,.dct (wD W)]=[iO (sD seen),iO (.dct (wD W)),iQ,iQ,iQ,iQ]from rfl];refine(qv (ρ1:=[iO (sD seen),iO (.dct (wD W)),iO (.lst []),iQ,iQ,iQ]) (by simp)).trans ?_;refine(qv (ρ1:=[iO (sD seen),iO (.dct (wD W)),iO (.lst (cD (CL W 0 seen))),y,o,V]) (by rw[jV,show Vn (qc 0) [iO (sD seen),iO (.dct (wD W)),iO (.lst []),iQ,iQ,iQ]=.ok (zf (qo seen),[iO (sD seen),iO (.dct (wD W)),iO (.lst []),iQ,iQ,iQ])from rfl,jJ,qiw];exact e)).trans ?_;simp
theorem qkF(a:WI seen W)(g:∀x∈LS seen,x∈kW W):∀c∈CL W 0 seen,∀k∈c.2,k<seen.length:=by
 intro c d k h;obtain⟨q,hq,rfl⟩:=aq.mp d;obtain⟨p,j⟩:=q;have D:=List.mem_zipIdx hq;have hp:p∈seen:=by rw[D.2.2];exact bE _
 obtain⟨h1,h2⟩:=uh g p hp;unfold Ux at h;simp only[af,List.mem_reverse,aw]at h;rcases h with(h|h)|h;·exact(a.path _ (kh h1)).lt k h
 .have:=D.2.1;omega
 .exact(a.path _ (kh h2)).lt k h
noncomputable def fD(F:List Ci):List (Key×D):=F.map λc=>(.inr c.1,lD c.2)
noncomputable def kF(F:List Ci):List Str:=F.map (·.1)
theorem qec(F:List Ci)(x:Str):kj (fD F) (.inr x)=decide (x∈kF F):=by
 unfold kj fD kF
 induction F with
 |nil=>rfl
 |cons e F j=>
  rw[aE,b9,j];by_cases h:e.1=x;·subst h;simp
  .have h2:¬(br e.1:Key)=br x:=λz=>h (br.inj z);have g:¬x=e.1:=λz=>h z.symm;simp[h2,g]
variable{F:List Ci}
theorem qiy{l:Wk}(h:x∉kF F):vN (fD F) (.inr x) (lD l)=fD (F++[(x,l)]):=by
 unfold vN;have h1:((fD F).any λp=>decide (p.1=(br x:Key)))=false:=by have:=qec F x;unfold kj at this;rw[this];exact Ac h
 rw[h1,Ab bQ];unfold fD;rw[bY];rfl
noncomputable def Qc(F:List Ci)(x:Str):Wk:=((F.find? λc=>decide (c.1=x)).map (·.2)).getD []
theorem qbh:∀(F:List Ci)(x:Str),(fD F).find? (λkv=>decide (kv.1=(br x:Key)))=(F.find? λc=>decide (c.1=x)).map λc=>(br c.1,lD c.2)
 |[],x=>rfl
 |c::F,x=>by
  have j:=qbh F x;unfold fD at j ⊢;rw[aE];by_cases h:c.1=x;·rw[dB (by simp[h]),dB (by simp[h])];rfl
  .have h2:¬(br c.1:Key)=br x:=λz=>h (br.inj z);rw[cK (by simpa using h2),cK (by simpa using h),j]
theorem qkG(h:x∈kF F):ixD (.dct (fD F)) (.str x)=.ok (lD (Qc F x)):=by
 unfold ixD Qc;simp only[qbh];cases q:F.find? λc=>decide (c.1=x)with
 |none=>obtain⟨e,i,rfl⟩:=aq.mp h;have:=bK.mp q e i;simp at this
 |some c=>rfl
def FO:List Ci->List Ci->List Ci
 |F,[]=>F
 |F,c::C=>FO (if odd c.2=iT/\c.1∉kF F then F++[c]else F) C
theorem QK:∀(C F:List Ci),(∀c∈FO F C,c∈F\/c∈C)/\(∀x∈kF F,x∈kF (FO F C))/\(∀c∈C,odd c.2=iT->c.1∈kF (FO F C))/\(FO F C).length<=F.length+C.length
 |[],F=>⟨λc h=>.inl h,λx h=>h,by simp,by simp[FO]⟩
 | c::C,F=>by
  unfold FO;by_cases q:odd c.2=iT/\c.1∉kF F
  .rw[Aa q];obtain⟨a,b,d,e⟩:=QK C (F++[c]);refine⟨λy D=>?_,λx hx=>b x (by simp[kF]at hx ⊢;exact .inl hx),λy D l=>?_,by rw[aj]at e;simp at e ⊢;lia⟩
   .rcases a y D with h|h
    .rcases af.mp h with h|h;·exact .inl h
     .exact .inr (by rw[aw.mp h];exact ai ..)
    .exact .inr (ac _ h)
   .rcases ae.mp D with rfl|D;·exact b _ (by simp[kF])
    .exact d y D l
  .rw[Ab q];obtain⟨a,b,d,e⟩:=QK C F;refine⟨λy D=>?_,b,λy D l=>?_,by simp at e ⊢;lia⟩
   .rcases a y D with h|h;·exact .inl h
    .exact .inr (ac _ h)
   .rcases ae.mp D with rfl|D;·exact b _ (bG λw=>q ⟨l,w⟩)
    .exact d y D l
abbrev foB:qK:=(sIf (Kh (vU (ql [.vl] wg (qb (qc 3) qu))) (qy (d2 vf (qc 2) (qc 1)))) (vg 1 (qc 3) (qc 2)) qM)
theorem qiz(F:List Ci)(x:Str):vf (.str x) (.dct (fD F))=.ok (.bl (!decide (x∈kF F))):=by unfold vf;simp only[zw];rw[qec]
theorem Uy(a:Option D):∀(C F:List Ci)(J O:Option D),F.length+C.length<=500->∃N y,jB (jM 2 (qw (gNm 2) (qw (gNm 3) jL))) foB (cD C) [a,iO (.dct (fD F)),J,O]=.ok (.nx,[a,iO (.dct (fD (FO F C))),N,y])
 |[],F,J,O,_=>⟨J,O,rfl⟩
 | c::C,F,J,O,hl=>by
  rw[ah]at hl;have h1:=gM c.2;have h2:=qiz F c.1;have g:(fD F).length<Z8:=aI (by simp[fD];lia) big;unfold FO;by_cases q:odd c.2=iT/\c.1∉kF F;·rw[Aa q];obtain⟨N,y,j⟩:=Uy a C (F++[c]) (iO (.str c.1)) (iO (lD c.2)) (by rw[aj];simp;lia);refine⟨N,y,dP (kr (d:=cd c) (ρ1:=[a,iO (.dct (fD F)),iO (.str c.1),iO (lD c.2)]) rfl ?_) j⟩;rw[q.1]at h1;rw[Ac q.2]at h2;have hp:=qiy (F:=F) (x:=c.1) (l:=c.2) q.2;simp[h1,h2,vg,zw,g,hp]
  .rw[Ab q];obtain⟨N,y,j⟩:=Uy a C F (iO (.str c.1)) (iO (lD c.2)) (by lia);refine⟨N,y,dP (kr (d:=cd c) (ρ1:=[a,iO (.dct (fD F)),iO (.str c.1),iO (lD c.2)]) rfl ?_) j⟩;cases b:odd c.2 with
   |false=>rw[b]at h1;simp[h1]
   |true=>rw[b]at h1;have:c.1∈kF F:=bG λw=>q ⟨b,w⟩;rw[Ad this]at h2;simp[h1,h2]
theorem qdp(C:List Ci)(hl:C.length<=400):ye [.lst (cD C)]=.ok (.dct (fD (FO [] C)),[.non]):=by obtain⟨N,y,e⟩:=Uy (iO (.lst (cD C))) C [] iQ iQ (by simp;lia);refine qr.trans ?_;unfold gA;rw[show qt gz [.lst (cD C)]=[iO (.lst (cD C)),iQ,iQ,iQ]from rfl];refine(qv (ρ1:=[iO (.lst (cD C)),iO (.dct []),iQ,iQ]) (by simp)).trans ?_;refine(qv (ρ1:=[iO (.lst (cD C)),iO (.dct (fD (FO [] C))),N,y]) (by rw[jV,show qV (qc 0) [iO (.lst (cD C)),iO (.dct []),iQ,iQ]=.ok (cD C,[iO (.lst (cD C)),iO (.dct []),iQ,iQ])from rfl,jJ];exact e)).trans ?_;simp
def JN(F C:List Ci):List Ci:=(C.filter λc=>odd c.2).map λc=>(c.1,Qc F c.1++c.2)
abbrev joT:uA:=vU (ql [.vl] wg (qb (qc 1) qu))
abbrev joE:qU:=yh (qb (qc 0) (qb (d2 ki (d2 ixD (qc 2) (qc 0)) (qc 1)) qu))
theorem qbi(h:∀c∈F,c.2.length<=100):∀(C:List Ci)(x y:Option D),(∀c∈C,c.2.length<=100)->(∀c∈C,odd c.2=iT->c.1∈kF F) ->∃m p,jR (jM 2 (qw (gNm 0) (qw (gNm 1) jL))) joT joE (cD C) [x,y,iO (.dct (fD F))]=.ok (cD (JN F C),[m,p,iO (.dct (fD F))])
 |[],x,y,_,_=>⟨x,y,rfl⟩
 | c::C,x,y,hl,hk=>by
  obtain⟨m,p,j⟩:=qbi h C (iO (.str c.1)) (iO (lD c.2)) (λd hd=>hl d (ac _ hd)) λd hd=>hk d (ac _ hd);refine⟨m,p,?_⟩;have h1:=gM c.2;have z2:2<=Z8:=small (by lia);have e0:cD (c::C)=.tup [.str c.1,lD c.2]::cD C:=rfl;cases q:odd c.2 with
  |false=>
   rw[q]at h1;have e1:JN F (c::C)=JN F C:=by simp[JN,q]
   rw[e0,e1];simp[jR,zL,jM,qw,jL,h1,j]
  | true=>
   rw[q]at h1;have e1:JN F (c::C)=(c.1,Qc F c.1++c.2)::JN F C:=by simp[JN,q]
   have e:=hk c (ai ..) q;have i1:=qkG e;have hg:(Qc F c.1).length<=100:=by
    unfold Qc;cases w:F.find? λd=>decide (d.1=c.1)with
    |none=>simp
    |some d=>exact h d (bS w)
   have l:=hl c (ai ..);have k:=qbf (a:=Qc F c.1) (b:=c.2) (by lia);rw[e0,e1];simp[jR,zL,jM,qw,jL,h1,i1,k,z2,j];simp[cD,cd]
theorem Xd{nt:Nat}{fi:vY}{ft:uA}{fe:qU}{es:List D}(h:fi ρ=.ok (ds,ρ1))(hl:ds.length<=Z8)(d:jR g ft fe ds (kK nt cap ρ1)=.ok (es,ρ2)):qN own nt cap fi g ft fe ρ=.ok (.lst es,jX own ρ2 nt cap ρ1):=by unfold qN;rw[h];simp only[jJ];rw[Aa hl,d];rfl
abbrev baB:qK:=(sIf (vU (ql [.vl,.vl,.vl] YH (qb (qc 7) (qb (qc 1) (qb (qc 2) qu))))) (jm (yh (qb (qc 6) (qb (qc 7) qu)))) qM)
theorem qbj(e:qgR nd ns)(hr:1<=r)(a b c d:Option D):∀(L:List Ci)(x y:Option D),(∀w∈L,∀k∈w.2,k<ns.length)->∃ρ,jB (jM 2 (qw (gNm 6) (qw (gNm 7) jL))) baB (cD L) [a,iO (.int r),iO nd,b,c,d,x,y]=.ok (match L.find? λw=>Zx w.2 r ns with|some w=>.rt (cd w)|none=>.nx,ρ)
 |[],x,y,_=>⟨_,rfl⟩
 |w::L,x,y,h=>by
  have h1:=qgb e (h w (ai ..)) hr;have z2:2<=Z8:=small (by lia);cases q:Zx w.2 r ns with
  |true=>rw[q]at h1;refine⟨[a,iO (.int r),iO nd,b,c,d,iO (.str w.1),iO (lD w.2)],?_⟩;rw[dB (by simpa using q)];exact Xb (d:=cd w) (ρ1:=[a,iO (.int r),iO nd,b,c,d,iO (.str w.1),iO (lD w.2)]) rfl (by simp[h1,z2,cd])
  |false=>rw[q]at h1;obtain⟨ρ,j⟩:=qbj e hr a b c d L (iO (.str w.1)) (iO (lD w.2)) λv f=>h v (ac _ f);refine⟨ρ,?_⟩;rw[cK (by simpa using q)];exact dP (kr (d:=cd w) (ρ1:=[a,iO (.int r),iO nd,b,c,d,iO (.str w.1),iO (lD w.2)]) rfl (by simp[h1])) j
def BO(W:Wy)(seen:List Pr)(r:Int)(ns:List Int):Option Ci:=(CL W 0 seen++JN (FO [] (CL W 0 seen)) (CL W 0 seen)).find? λw=>Zx w.2 r ns
theorem qiA(hs:(LS seen).length<=20)(h:WI seen W)(a:∀x∈LS seen,x∈kW W):∀c∈CL W 0 seen,c.2.length<=100:=by
 intro c d;obtain⟨q,hq,rfl⟩:=aq.mp d;obtain⟨p,j⟩:=q;have D:=List.mem_zipIdx hq;have hp:p∈seen:=by rw[D.2.2];exact bE _
 obtain⟨h1,h2⟩:=uh a p hp;have g:=h.len _ (kh h1);have l:=h.len _ (kh h2);have S:=h.le;simp only[]at g l;unfold Ux;simp
 lia
theorem qgi(W:Wy)(k0:Nat)(seen:List Pr):(CL W k0 seen).length=seen.length:=by simp[CL]
structure Sn(seen:List Pr)(W:Wy):Prop where
 n:seen.length<=6
 s:(LS seen).length<=12
 w:WI seen W
 C:CI seen W
 R:RI W
 a:∀x∈LS seen,x∈kW W
 e:yL [sD seen]=.ok (.dct (wD W),[.non])
 z:∀x∈LS seen,x.length<=2000
 m:MI W
theorem qbk(S:Sn seen W)(o:qgR nd ns)(A:ns.length=seen.length)(hr:1<=r):JC [sD seen,.int r,nd]=.ok (match BO W seen r ns with|some w=>cd w|none=>.non,[.non,.non,.non]):=by
 have hs:(LS seen).length<=20:=by have:=S.s;lia
 have h1:=Zz S.n hs S.w S.a;have p:=qgi W 0 seen;have hn:=S.n;have h2:=qdp (CL W 0 seen) (by lia);have b:=qiA hs S.w S.a;have t:=qkF S.w S.a;obtain⟨f1,_,u,f4⟩:=QK (CL W 0 seen) [];have j:∀c∈FO [] (CL W 0 seen),c∈CL W 0 seen:=λc i=>by
  rcases f1 c i with h|h;·cases h
  .exact h
 unfold BO;generalize hC:CL W 0 seen=C at h1 h2 p b t u j;generalize D:FO [] C=F at h2 u j;obtain⟨G,E,y⟩:=qbi (F:=F) (λc i=>b c (j c i)) C iQ iQ b u;refine qr.trans ?_;unfold YN;rw[show qt YM [sD seen,.int r,nd]=[iO (sD seen),iO (.int r),iO (nd),iQ,iQ,iQ,iQ,iQ]from rfl];have m:=S.e;refine(qv (ρ1:=[iO (sD seen),iO (.int r),iO (nd),iO (.lst (cD C)),iQ,iQ,iQ,iQ]) (by simp[m,h1])).trans ?_;refine(qv (ρ1:=[iO (sD seen),iO (.int r),iO (nd),iO (.lst (cD C)),iO (.dct (fD F)),iQ,iQ,iQ]) (by simp[h2])).trans ?_;have x:=Xd (own:=[]) (cap:=[4]) (nt:=2) (fi:=qV (qc 3)) (g:=jM 2 (qw (gNm 0) (qw (gNm 1) jL))) (ft:=joT) (fe:=joE) (ρ:=[iO (sD seen),iO (.int r),iO (nd),iO (.lst (cD C)),iO (.dct (fD F)),iQ,iQ,iQ]) (ρ1:=[iO (sD seen),iO (.int r),iO (nd),iO (.lst (cD C)),iO (.dct (fD F)),iQ,iQ,iQ]) (ds:=cD C) rfl (by simp[cD];exact small (by lia)) y;refine(qv (ρ1:=[iO (sD seen),iO (.int r),iO (nd),iO (.lst (cD C)),iO (.dct (fD F)),iO (.lst (cD (JN F C))),iQ,iQ]) (by rw[Jj,x];rfl)).trans ?_;have B:(JN F C).length<=6:=by
  unfold JN;rw[ao];have:=cx (λc:Ci=>odd c.2) C
  lia
 have z:(cD C).length+(cD (JN F C)).length<=Z8:=by simp[cD];exact small (by lia)
 have l:∀w∈C++JN F C,∀k∈w.2,k<ns.length:=λw m k v=>by
  rw[A];rcases af.mp m with h|h;·exact t w h k v
  .obtain⟨c,i,rfl⟩:=aq.mp h;have i:=(bv.mp i).1;rcases af.mp v with h|h
   .unfold Qc at h;cases w:F.find? λd=>decide (d.1=c.1)with
    |none=>rw[w]at h;cases h
    |some d=>rw[w]at h;exact t d (j d (bS w)) k h
   .exact t c i k h
 obtain⟨ρ,e⟩:=qbj o hr (iO (sD seen)) (iO (.lst (cD C))) (iO (.dct (fD F))) (iO (.lst (cD (JN F C)))) (C++JN F C) iQ iQ l;have f:vz (qV (d2 ki (qc 3) (qc 5))) (jM 2 (qw (gNm 6) (qw (gNm 7) jL))) baB [iO (sD seen),iO (.int r),iO (nd),iO (.lst (cD C)),iO (.dct (fD F)),iO (.lst (cD (JN F C))),iQ,iQ]=jB (jM 2 (qw (gNm 6) (qw (gNm 7) jL))) baB (cD (C++JN F C)) [iO (sD seen),iO (.int r),iO (nd),iO (.lst (cD C)),iO (.dct (fD F)),iO (.lst (cD (JN F C))),iQ,iQ]:=by rw[jV,show qV (d2 ki (qc 3) (qc 5)) [iO (sD seen),iO (.int r),iO (nd),iO (.lst (cD C)),iO (.dct (fD F)),iO (.lst (cD (JN F C))),iQ,iQ]=.ok (cD (C++JN F C),[iO (sD seen),iO (.int r),iO (nd),iO (.lst (cD C)),iO (.dct (fD F)),iO (.lst (cD (JN F C))),iQ,iQ]) by simp[z,jg];simp[cD]];rfl
 cases q:(C++JN F C).find? λw=>Zx w.2 r ns with
 |some w=>rw[q]at e;rw[yb,f.trans e];rfl
 |none=>rw[q]at e;refine(qv (f.trans e)).trans ?_;rfl
theorem Xe(w:jl ws)(hl:QQ p q):wf [Wd ws,Ld p q]=.ok (sD (qC ws p q),[.non,.non]):=JU w hl
def gO(n:Nat)(r:Int)(ns:List Int):Prop:=ns.length=n/\∀i∈ns,0<=i/\i<r
theorem JW(h:gO n r ns)(hn:n<=50):wO [nD ns,.int (n:Nat),.int r]=.ok (.bl iT,[.non,.non,.non]):=by
 have ht:=qiq (d:=nD ns) trivial;have e:=ud (cap:=[2]) (fi:=qV (qc 0)) (ρ:=[iO (nD ns),iO (.int (n:Nat)),iO (.int r)]) (ρ1:=[iO (nD ns),iO (.int (n:Nat)),iO (.int r)]) (ds:=ns.map D.int) (fe:=ql [.vl,.vl,.vl] jG (qb (qc 0) (qb (dC (.int 0)) (qb (d2 Kg (qc 1) (dC (.int 1))) qu)))) (λd=>.bl (Wz 0 (r - 1) d)) (by simp[jg]) (by rw[ao,h.1];exact small (by lia)) (λd hd=>by obtain⟨i,hi,rfl⟩:=aq.mp hd;have h1:=kR (d:=.int i) trivial 0 (r - 1);simp[zp,h1]);have g:=yV (Wz 0 (r - 1)) (ns.map D.int);have c:(ns.map D.int).all (Wz 0 (r - 1))=true:=by
  rw[aM];intro d hd;obtain⟨i,hi,rfl⟩:=aq.mp hd;have:=h.2 i hi;simp[Wz]
  lia
 rw[c]at g;have a:(ns.map D.int).length=n:=by rw[ao,h.1]
 refine qr.trans ?_;simp[-bA,xF,qt,ht,qga,neD,eqN,eqS,h.1,e,g]
theorem zk(h:gO n r ns)(hn:n<=50):vb [nD ns,.int (n:Nat),.int r]=.ok (.non,[.non,.non,.non]):=by have h1:=JW h hn;refine qr.trans ?_;simp[wQ,qt,h1]
theorem qgj(w:jl ws)(hl:QQ p q)(a:1<=r)(h1:r<=99)(hn:gO ws.length r ns):wS [Wd ws,Ld p q,.int r,nD ns]=.ok (sD (qC ws p q),[.non,.non,.non,.non]):=by have e1:=Xe w hl;have i:=yW (d:=.int r) trivial;rw[Aa (by simp[Wz];exact⟨a,h1⟩)]at i;have D:=zk hn (by have:=w.2.1;lia);refine qr.trans ?_;simp[xL,qt,e1,i,D]
theorem qkH(w:jl ws)(p q:Int):∃W,Sn (qC ws p q) W:=by
 have h1:(qC ws p q).length<=6:=by simp[qC];exact w.2.1
 have h2:=qa8 w p q;obtain⟨W,a,b,c,m,d,e⟩:=Zy h1 h2;exact⟨W,h1,h2,a,b,c,d,e,λx hx=>by
  obtain⟨k,_,rfl⟩:=qis w p q x hx;show 1<=2000
  lia,m⟩
theorem qed(h:jl ws)(hl:QQ p q)(a:1<=r)(h1:r<=99)(hn:gO ws.length r ns)(S:Sn (qC ws p q) W):Zm [Wd ws,Ld p q,.int r,nD ns]=.ok (match BO W (qC ws p q) r ns with|some w=>cd w|none=>.non,[.non,.non,.non,.non]):=by have e1:=qgj h hl a h1 hn;have i:=qbk S (qiu ns) (by rw[hn.1];simp[qC]) a;refine qr.trans ?_;simp[qih,qt,e1,i]
theorem qiB(l:List Pr):(LS l).Nodup:=(jv _).nodup_iff.mpr (ue _ [] cG).1
theorem iR0{f:qU}{k:Int}(a:0<=k)(h1:k<=2000)(h:f ρ=.ok (.int k,ρ1)):jU f ρ=.ok (yt 0 k.toNat,ρ1):=by
 have c:-(2 ^ 62:Int)<=k/\k<2 ^ 62:=by lia
 simp[jU,h,-Int.reducePow,c]
def sg(l:Wk):Int:=if odd l=iT then -1 else 1
theorem qdq(k:Nat)(l:Wk):odd (k::l)=!odd l:=by
 unfold odd;rw[ah];by_cases h:l.length % 2=1;·rw[Ad h,Ac (by lia)];rfl
 .rw[Ac h,Ad (by lia)];rfl
theorem qgk(k:Nat)(l:Wk):sg (k::l)=- sg l:=by unfold sg;rw[qdq];cases odd l <;> rfl
theorem ui(ns:List Int)(t:Int)(a b:Wk):qR ns t (a++b)=qR ns (qR ns t a) b:=List.foldl_append ..
theorem xp(ns:List Int)(t:Int)(k:Nat)(l:Wk):qR ns t (k::l)=qR ns (nI ns k - t) l:=rfl
theorem wo(ns:List Int):∀(l:Wk)(t:Int),qR ns t l=qR ns 0 l+sg l * t
 |[],t=>by simp[qR,sg,odd]
 |k::l,t=>by
  have h1:=wo ns l (nI ns k - t);have h2:=wo ns l (nI ns k - 0);rw[xp,xp,h1,h2,qgk,fS,fS,Int.neg_mul];simp
  lia
theorem Wh(ns:List Int):∀(l:Wk)(s:Int),qR ns (qR ns s l) l.reverse=s
 |[],s=>rfl
 |k::l,s=>by
  have h:=Wh ns l (nI ns k - s);rw[xp,dF,ui,h];show nI ns k - (nI ns k - s)=s
  lia
theorem qdr(l:Wk):sg l=1\/sg l=-1:=by
 unfold sg;split;·exact .inr rfl
 .exact .inl rfl
theorem qiC{a:Int}(l:Wk):r ∣ sg l * a↔r ∣ a:=by
 rcases qdr l with h|h;·rw[h,Int.one_mul]
 .rw[h,Int.neg_one_mul,fU]
theorem JX{a b:Int}:a % r=b % r↔r ∣ a - b:=by rw[Int.emod_eq_emod_iff_emod_sub_eq_zero,Int.dvd_iff_emod_eq_zero]
theorem qds{a b:Int}(h:r ∣ a - b)(d:0<=a)(k:a<r)(c:0<=b)(e:b<r):a=b:=by have:=JX.mpr h;rwa [dH d k,dH c e]at this
def Sol(seen:List Pr)(r:Int)(ns:List Int)(v:Str->Int):Prop:=∀(k:Nat)(p:Pr),seen[k]?=iO p->r ∣ v p.1+v p.2 - nI ns k
variable{v:Str->Int}
set_option tactic.hygienic true in
theorem Path.val(S:Sol seen r ns v){ρ:Str}{l:Wk}(h:Path seen ρ l x):r ∣ v x - qR ns (v ρ) l:=by
 induction h with
 |nil=>show r ∣ v ρ - v ρ;rw[iE];exact⟨0,by simp⟩
 | snoc hp e hq j=>
  rename_i l x y k p;have a:=S k p e;have m:r ∣ v x+v y - nI ns k:=by
   rcases hq with rfl|rfl;·exact a
   .rw[fF (v x)];exact a
  rw[ui];show r ∣ v y - (nI ns k - qR ns (v ρ) l);have e1:v y - (nI ns k - qR ns (v ρ) l)=(v x+v y - nI ns k) - (v x - qR ns (v ρ) l):=by lia
  rw[e1];exact cZ m j
def okS(r:Int)(ns:List Int)(c:Wk)(s:Int):Prop:=r ∣ qR ns s c - s
theorem Xf{c:Wk}(h:odd c=iS)(s:Int):okS r ns c s↔r ∣ qR ns 0 c:=by unfold okS;rw[wo,show sg c=1 by unfold sg;rw[h];rfl,Int.one_mul,Int.add_sub_cancel]
theorem Uz{c:Wk}(h:odd c=iT)(s:Int):okS r ns c s↔r ∣ qR ns 0 c - 2 * s:=by unfold okS;rw[wo,show sg c=-1 by unfold sg;rw[h];rfl,show qR ns 0 c + -1 * s - s=qR ns 0 c - 2 * s by lia]
theorem qbl(W:Wy)(p:Pr)(k:Nat)(r:Int)(ns:List Int)(s:Int):okS r ns (Ux W p k).2 s↔r ∣ qR ns s (jI W p.1).2+qR ns s (jI W p.2).2 - nI ns k:=by
 unfold okS Ux;simp only[];rw[ui,ui];have h1:=Wh ns (jI W p.2).2 s;generalize qR ns s (jI W p.1).2=A;generalize qR ns s (jI W p.2).2=B at h1;generalize (jI W p.2).2.reverse=L at h1;show r ∣ qR ns (nI ns k - A) L - s↔_;have e:qR ns (nI ns k - A) L - s=sg L * (nI ns k - A - B):=by
  have h2:=wo ns L (nI ns k - A);have g:=wo ns L B;rw[h1]at g;rw[h2,fS (sg L) (nI ns k - A) B]
  lia
 rw[e,qiC,show nI ns k - A - B=-(A+B - nI ns k) by lia,fU]
theorem qiD{k:Nat}{p:Pr}(h:seen[k]?=iO p):Ux W p k∈CL W 0 seen:=aq.mpr ⟨(p,k),List.mem_zipIdx_iff_getElem?.mpr h,rfl⟩
theorem qkI{c:Ci}(h:c∈CL W 0 seen):∃(k:Nat)(p:Pr),seen[k]?=iO p/\c=Ux W p k:=by obtain⟨q,hq,rfl⟩:=aq.mp h;obtain⟨p,k⟩:=q;exact⟨k,p,List.mem_zipIdx_iff_getElem?.mp hq,rfl⟩
theorem qgl(p:Pr):oth p p.1=p.2:=by unfold oth;rw[Aa rfl]
theorem Wi(S:Sn seen W){p:Pr}(hp:p∈seen):(jI W p.1).1=(jI W p.2).1:=by obtain⟨h1,h2⟩:=uh S.a p hp;obtain⟨e,h,e1,i⟩:=S.C _ (kh h1) p hp (.inl rfl);simp only[]at e1 i;rw[qgl]at e1;have:=JV S.w.nd h (kh h2) e1;rw[this]at i;exact i.symm
theorem qiE(S:Sn seen W)(h:Sol seen r ns v):∀c∈CL W 0 seen,okS r ns c.2 (v c.1):=by
 intro c f;obtain⟨k,p,d,rfl⟩:=qkI f;have hp:=aV d;obtain⟨h1,h2⟩:=uh S.a p hp;have u:=(S.w.path _ (kh h1)).val h;have b:=(S.w.path _ (kh h2)).val h;simp only[]at u b;rw[<-Wi S hp]at b;show okS r ns (Ux W p k).2 (v (jI W p.1).1);rw[qbl];have hs:=h k p d;generalize qR ns (v (jI W p.1).1) (jI W p.1).2=A at u;generalize qR ns (v (jI W p.1).1) (jI W p.2).2=B at b;have e:A+B - nI ns k=(v p.1+v p.2 - nI ns k) - (v p.1 - A) - (v p.2 - B):=by lia
 rw[e];exact cZ (cZ hs u) b
def vO(W:Wy)(r:Int)(ns:List Int)(σ:Str->Int)(x:Str):Int:=qR ns (σ (jI W x).1) (jI W x).2 % r
theorem qiF(S:Sn seen W){σ:Str->Int}(h:∀c∈CL W 0 seen,okS r ns c.2 (σ c.1)):Sol seen r ns (vO W r ns σ):=by
 intro k p a;have hp:=aV a;have h1:=h _ (qiD a);have h1:okS r ns (Ux W p k).2 (σ (jI W p.1).1):=h1;rw[qbl]at h1;unfold vO;rw[<-Wi S hp];generalize qR ns (σ (jI W p.1).1) (jI W p.1).2=A at h1;generalize qR ns (σ (jI W p.1).1) (jI W p.2).2=B at h1;have d1:r ∣ A - A % r:=e8;have d2:r ∣ B - B % r:=e8;have e:A % r+B % r - nI ns k=(A+B - nI ns k) - (A - A % r) - (B - B % r):=by lia
 rw[e];exact cZ (cZ h1 d1) d2
theorem qbm:∀(C F:List Ci),∀c∈FO F C,c∈F\/(c∈C/\odd c.2=iT)
 |[],F,c,h=>.inl h
 | d::C,F,c,h=>by
  unfold FO at h;by_cases q:odd d.2=iT/\d.1∉kF F
  .rw[Aa q]at h;rcases qbm C _ c h with h|h
   .rcases af.mp h with h|h;·exact .inl h
    .rw[aw.mp h];exact .inr ⟨ai ..,q.1⟩
   .exact .inr ⟨ac _ h.1,h.2⟩
  .rw[Ab q]at h;rcases qbm C _ c h with h|h;·exact .inl h
   .exact .inr ⟨ac _ h.1,h.2⟩
theorem JY(h:x∈kF F):(x,Qc F x)∈F:=by
 unfold Qc;cases q:F.find? λc=>decide (c.1=x)with
 |none=>obtain⟨e,i,rfl⟩:=aq.mp h;have:=bK.mp q e i;simp at this
 |some c=>
  have h1:=bS q;have h2:c.1=x:=by simpa using ic q
  rw[<-h2];exact h1
theorem qbn(a b:Wk):odd (a++b)=(odd a != odd b):=by
 unfold odd;rw[aj];by_cases h1:a.length % 2=1 <;> by_cases h2:b.length % 2=1;·rw[Ad h1,Ad h2,Ac (by lia)];rfl
 .rw[Ad h1,Ac h2,Ad (by lia)];rfl
 .rw[Ac h1,Ad h2,Ad (by lia)];rfl
 .rw[Ac h1,Ac h2,Ac (by lia)];rfl
theorem zA{c:Wk}(h:odd c=iS):Zx c r ns=iS↔r ∣ qR ns 0 c:=by unfold Zx;rw[h,Ab bQ,Int.dvd_iff_emod_eq_zero];simp
theorem qbo{c:Wk}(h:odd c=iT):Zx c r ns=iS↔¬(r % 2=0/\qR ns 0 c % 2=1):=by unfold Zx;rw[h,Aa rfl];simp
theorem qee(ns:List Int)(f c:Wk)(h:odd c=iT):qR ns 0 (f++c)=qR ns 0 c - qR ns 0 f:=by
 rw[ui,wo,show sg c=-1 by unfold sg;rw[h];rfl]
 lia
section
abbrev FF(W:Wy)(seen:List Pr):List Ci:=FO [] (CL W 0 seen)
theorem qbp{c:Ci}(h:c∈FF W seen):c∈CL W 0 seen/\odd c.2=true:=by
 rcases qbm _ _ c h with h|h;·cases h
 .exact h
theorem qbq:BO W seen r ns=iQ↔∀c∈CL W 0 seen,(odd c.2=iS->r ∣ qR ns 0 c.2)/\(odd c.2=iT->¬(r % 2=0/\qR ns 0 c.2 % 2=1)/\r ∣ qR ns 0 c.2 - qR ns 0 (Qc (FF W seen) c.1)):=by
 unfold BO;rw[bK];have k:∀c∈CL W 0 seen,odd c.2=iT->odd (Qc (FF W seen) c.1)=true:=λc d l=>(qbp (JY ((QK _ _).2.2.1 c d l))).2;constructor
 .intro h c d;have h1:Zx c.2 r ns=false:=by simpa using h c (af.mpr (.inl d))
  refine⟨λl=>(zA l).mp h1,λl=>⟨(qbo l).mp h1,?_⟩⟩;have h2:Zx (Qc (FF W seen) c.1++c.2) r ns=false:=by have:=h (c.1,Qc (FF W seen) c.1++c.2) (af.mpr (.inr (aq.mpr ⟨c,bv.mpr ⟨d,by simpa using l⟩,rfl⟩)));simpa using this
  rw[zA (by rw[qbn,k c d l,l];rfl),qee _ _ _ l]at h2;exact h2
 .intro h w a;rcases af.mp a with a|a
  .cases l:odd w.2 with
   |false=>simpa using(zA l).mpr ((h w a).1 l)
   |true=>simpa using(qbo l).mpr ((h w a).2 l).1
  .obtain⟨c,d,rfl⟩:=aq.mp a;obtain⟨d,l⟩:=bv.mp d;have l:odd c.2=true:=by simpa using l
   have:Zx (Qc (FF W seen) c.1++c.2) r ns=false:=by rw[zA (by rw[qbn,k c d l,l];rfl),qee _ _ _ l];exact((h c d).2 l).2
   simpa using this
theorem qgm(S:Sn seen W)(a:Sol seen r ns v):BO W seen r ns=none:=by
 have hok:=qiE S a;rw[qbq];intro c d;refine⟨λl=>(Xf l _).mp (hok c d),λl=>?_⟩;have h1:=(Uz l _).mp (hok c d);have h:=JY ((QK (CL W 0 seen) []).2.2.1 c d l);obtain⟨f1,f2⟩:=qbp h;have h2:=(Uz f2 _).mp (hok _ f1);refine⟨λ⟨e1,i⟩=>?_,?_⟩
 .obtain⟨m,h⟩:=h1;obtain⟨j,D⟩:=Int.dvd_of_emod_eq_zero e1;rw[D,Int.mul_assoc]at h
  lia
 .simp only[]at h2;have e:qR ns 0 c.2 - qR ns 0 (Qc (FF W seen) c.1)=(qR ns 0 c.2 - 2 * v c.1) - (qR ns 0 (Qc (FF W seen) c.1) - 2 * v c.1):=by lia
  rw[e];exact cZ h1 h2
end
abbrev Ln:=List (Str×Int)
theorem QL(l:List (Str×Int))(x:Str):kj (bk l) (.inr x)=decide (x∈qp l):=by
 unfold kj bk qp;rw[List.any_map]
 induction l with
 |nil=>simp
 |cons a l j=>
  simp only[b9,aE,ae,j];by_cases h:a.1=x;·simp[h]
  .simp[h,bJ h]
theorem ql0(n:Nat):yt 0 n=(aH n).map λ(j:Nat)=>.int j:=by unfold yt;simp
theorem Xg(n:Nat):yt 0 n=((aH n).map λ(j:Nat)=>(j:Int)).map D.int:=by rw[ql0,bA];rfl
theorem qef(S:Sn seen W):BO W seen r ns=iQ↔∃v,Sol seen r ns v:=by
 constructor
 .intro h;have h:=qbq.mp h;have hx:∀x:Str,∃s:Int,odd (Qc (FF W seen) x)=iT->¬(r % 2=0/\qR ns 0 (Qc (FF W seen) x) % 2=1)->r ∣ qR ns 0 (Qc (FF W seen) x) - 2 * s:=λx=>by
   generalize qR ns 0 (Qc (FF W seen) x)=t;by_cases z:t % 2=1
   .refine⟨(t+r) / 2,λ_ q=>⟨-1,?_⟩⟩;have:r % 2=1:=by
     have:=Int.emod_two_eq r
     lia
    lia
   .exact⟨t / 2,λ_ _=>⟨0,by lia⟩⟩
  refine⟨_,qiF S (σ:=λx=>(hx x).choose) λc f=>?_⟩;cases e:odd c.2 with
  |false=>exact(Xf e _).mpr ((h c f).1 e)
  |true=>obtain⟨m1,B⟩:=qbp (JY ((QK (CL W 0 seen) []).2.2.1 c f e));have k:=(hx c.1).choose_spec B ((h _ m1).2 B).1;refine(Uz e _).mpr ?_;have:=dQ ((h c f).2 e).2 k;rwa [show ∀a b d:Int,a - b+(b - d)=a - d from λa b d=>by lia]at this
 .rintro⟨v,h⟩;exact qgm S h
abbrev qiG:qK:=(kn (xx 2 qcD (yo (qb (qc 3) (qb (qc 4) qu)))))
theorem Wj(a b:Option D):∀(l:List (Str×Str))(m:List Str)(x y:Option D),m.length+2 * l.length<=1000->∃d c,jB (jM 2 (qw (gNm 3) (qw (gNm 4) jL))) qiG (qo l) [a,b,iO (.lst (m.map D.str)),x,y]=.ok (.nx,[a,b,iO (.lst ((m++l.flatMap λp=>[p.1,p.2]).map D.str)),d,c])
 |[],m,x,y,_=>⟨x,y,by simp[qo,jB]⟩
 |p::l,m,x,y,h=>by rw[ah]at h;obtain⟨d,c,e⟩:=Wj a b l (m++[p.1,p.2]) (iO (.str p.1)) (iO (.str p.2)) (by rw[aj];simp;lia);refine⟨d,c,?_⟩;have z:2<=Z8:=small (by lia);have f:m.length+2<=Z8:=small (by lia);rw[show(m++(p::l).flatMap λp=>[p.1,p.2])=(m++[p.1,p.2])++l.flatMap λp=>[p.1,p.2] by simp,<-e];simp[qo,jB,jM,qw,jL,qiG,yv,qcD,z,f]
theorem qbr(w:jl ws)(hl:QQ p q):ky [.tup (ws.map D.str),.tup [.int p,.int q]]=.ok (.lst ((LS (qC ws p q)).map D.str),[.non,.non]):=by
 refine qr.trans ?_;have h1:=ug w hl;have hn:(qC ws p q).length<=6:=by simp[qC];exact w.2.1
 obtain⟨m,y,e⟩:=Wj (iO (.tup (ws.map D.str))) (iO (.tup [.int p,.int q])) (qC ws p q) [] iQ iQ (by simp;lia);have h:((qC ws p q).flatMap λp=>[p.1,p.2]).length<64:=by
  rw[YZ]
  lia
 have hs:uZ (((qC ws p q).flatMap λp=>[p.1,p.2]).foldl zS [])=LS (qC ws p q):=qa7 λx=>by
  simp only[fj,af,aq,ae,aW,or_false];constructor
  .rintro⟨p,hp,rfl|rfl⟩;·exact .inl ⟨p,hp,rfl⟩
   .exact .inr ⟨p,hp,rfl⟩
  .rintro(⟨p,hp,rfl⟩|⟨p,hp,rfl⟩);·exact⟨p,hp,.inl rfl⟩
   .exact⟨p,hp,.inr rfl⟩
 simp only[cg,cr]at e;simp[qaY,qt,h1,jg];rw[e];simp only[jJ,xi,qfA,List.getElem?_cons_succ,List.getElem?_cons_zero,uv,yz,uc,Aa h,hs];simp
abbrev En:=Pr×Int
theorem gP(l m:Ln):qp (l++m)=qp l++qp m:=by simp[qp]
theorem Xh{l m:Ln}(h:x∈qp l):jN (l++m) x=jN l x:=by
 obtain⟨y,D,rfl⟩:=aq.mp h;unfold jN;rw[eZ];cases q:l.find? λz=>decide (z.1=y.1)with
 |none=>exact absurd (bK.mp q y D) (by simp)
 |some z=>rfl
theorem JZ{l m:Ln}(h:x∉qp l):jN (l++m) x=jN m x:=by
 unfold jN;rw[eZ];cases q:l.find? λz=>decide (z.1=x)with
 |none=>rfl
 |some z=>exact absurd (aq.mpr ⟨z,bS q,by simpa using ic q⟩) h
def sp1(r:Int)(l:Ln)(x y:Str)(n:Int):Ln:=if x∈qp l/\y∉qp l then l++[(y,(n - jN l x) % r)]else l
def stp(r:Int)(l:Ln)(e:En):Option Ln:=
 if e.1.1∈qp (sp1 r (sp1 r l e.1.1 e.1.2 e.2) e.1.2 e.1.1 e.2)/\(jN (sp1 r (sp1 r l e.1.1 e.1.2 e.2) e.1.2 e.1.1 e.2) e.1.1+jN (sp1 r (sp1 r l e.1.1 e.1.2 e.2) e.1.2 e.1.1 e.2) e.1.2) % r≠e.2 then iQ else iO (sp1 r (sp1 r l e.1.1 e.1.2 e.2) e.1.2 e.1.1 e.2)
def rnd(r:Int):List En->Ln->Option Ln
 |[],l=>iO l
 |e::es,l=>(stp r l e).bind (rnd r es)
def QM(r:Int)(es:List En):Nat->Ln->Option Ln
 | 0,l=>iO l
 |n+1,l=>(rnd r es l).bind (QM r es n)
def gd(l:Ln)(e:En):Bool:=decide (e.1.1∈qp l/\e.1.2∈qp l)
def Pre(l m:Ln):Prop:=∃k,m=l++k
theorem Pre.rfl{l:Ln}:Pre l l:=⟨[],by simp⟩
theorem Pre.tr{a b c:Ln}(h:Pre a b)(k:Pre b c):Pre a c:=by obtain⟨x,rfl⟩:=h;obtain⟨y,rfl⟩:=k;exact⟨x++y,by simp⟩
theorem Pre.key{a b:Ln}(h:Pre a b)(hx:x∈qp a):x∈qp b:=by obtain⟨k,rfl⟩:=h;rw[gP];exact bP _ hx
theorem Pre.eq{a b:Ln}(h:Pre a b)(k:Pre b a):a=b:=by obtain⟨x,rfl⟩:=h;obtain⟨y,D⟩:=k;have:=congrArg iH D;simp at this;rw[this.1];simp
theorem uj(r:Int)(l:Ln)(x y:Str)(n:Int):Pre l (sp1 r l x y n):=by
 unfold sp1;split;·exact⟨_,rfl⟩
 .exact .rfl
theorem QN{l:Ln}{n:Int}(h:x∈qp l):y∈qp (sp1 r l x y n):=by
 unfold sp1;by_cases q:y∈qp l;·rw[Ab λz=>z.2 q];exact q
 .rw[Aa ⟨h,q⟩,gP];simp[qp]
theorem vF{l:Ln}{n:Int}(h:x∉qp l):sp1 r l x y n=l:=Ab λz=>h z.1
theorem qbs{l:Ln}{n:Int}(h:y∈qp l):sp1 r l x y n=l:=Ab λz=>z.2 h
variable{e:En}
set_option tactic.hygienic true in
theorem qbt{l g:Ln}(h:stp r l e=iO g):Pre l g/\(e.1.1∈qp g↔e.1.2∈qp g)/\(e.1.1∈qp g->(jN g e.1.1+jN g e.1.2) % r=e.2)/\(g=l\/gd l e=iS/\gd g e=iT):=by
 unfold stp at h;split at h;·cases h
 .rename_i hq;have h:sp1 r (sp1 r l e.1.1 e.1.2 e.2) e.1.2 e.1.1 e.2=g:=aL.inj h;rw[h]at hq;have hp:Pre l g:=by rw[<-h];exact(uj ..).tr (uj ..)
  refine⟨hp,?_,λz=>Decidable.byContradiction λy=>hq ⟨z,y⟩,?_⟩
  .by_cases a:e.1.1∈qp l
   .have b:e.1.2∈qp g:=by rw[<-h];exact(uj ..).key (QN a)
    exact⟨λ_=>b,λ_=>hp.key a⟩
   .by_cases b:e.1.2∈qp l
    .have c:e.1.1∈qp g:=by rw[<-h,vF a];exact QN b
     exact⟨λ_=>hp.key b,λ_=>c⟩
    .have:g=l:=by rw[<-h,vF a,vF b]
     rw[this];exact⟨λz=>absurd z a,λz=>absurd z b⟩
  .by_cases a:e.1.1∈qp l
   .by_cases b:e.1.2∈qp l;·exact .inl (by rw[<-h,qbs b,qbs a])
    .exact .inr ⟨Ac λz=>b z.2,Ad ⟨hp.key a,by rw[<-h];exact(uj ..).key (QN a)⟩⟩
   .by_cases b:e.1.2∈qp l;·exact .inr ⟨Ac λz=>a z.1,Ad ⟨by rw[<-h,vF a];exact QN b,hp.key b⟩⟩
    .exact .inl (by rw[<-h,vF a,vF b])
theorem qbu{l m:Ln}(h:Pre l m)(q:gd l e=iT):gd m e=true:=by have:=Ae q;exact Ad ⟨h.key this.1,h.key this.2⟩
theorem Ka:∀{es:List En}{l g:Ln},rnd r es l=iO g->Pre l g/\(g=l\/∃e∈es,gd l e=iS/\gd g e=iT)
 |[],l,g,h=>by cases h;exact⟨.rfl,.inl rfl⟩
 | e::es,l,g,h=>by
  obtain⟨m,h1,h2⟩:=aZ.mp h;obtain⟨p1,_,_,c⟩:=qbt h1;obtain⟨p2,d⟩:=Ka h2;refine⟨p1.tr p2,?_⟩;rcases c with rfl|⟨c1,c2⟩
  .rcases d with rfl|⟨e',he,d1,d2⟩
   .exact .inl rfl
   .exact .inr ⟨e',ac _ he,d1,d2⟩
  .exact .inr ⟨e,ai ..,c1,qbu p2 c2⟩
theorem qeg(p q:α->Bool):∀l:List α,(∀x∈l,q x=iT->p x=iT)->l.countP q<=l.countP p
 |[],_=>by simp
 |x::l,h=>by
  have j:=qeg p q l λy D=>h y (ac _ D);have hx:=h x (ai ..);rw[fm,fm];cases a:q x;·simp;lia
  .rw[hx a];simp;lia
theorem qeh(p q:α->Bool):∀l:List α,(∀x∈l,q x=iT->p x=iT)->(∃x∈l,p x=iT/\q x=iS)->l.countP q<l.countP p
 |[],_,⟨x,hx,_⟩=>by cases hx
 | x::l,h,⟨y,D,h1,h2⟩=>by
  have hx:=h x (ai ..);rw[fm,fm];rcases ae.mp D with rfl|D
  .have:=qeg p q l λy D=>h y (ac _ D);rw[h1,h2];simp;lia
  .have j:=qeh p q l (λy D=>h y (ac _ D)) ⟨y,D,h1,h2⟩;cases a:q x;·simp;lia
   .rw[hx a];simp;lia
variable{es:List En}{l':Ln}
theorem Xi{l:Ln}(h:rnd r es l=iO l):∀n,QM r es n l=iO l'->l'=l
 | 0,q=>by cases q;rfl
 |n+1,q=>by unfold QM at q;rw[h]at q;exact Xi h n q
theorem Xj:∀(k:Nat){l l':Ln},es.countP (λe=>!gd l e)<=k->QM r es (k+1) l=iO l'->rnd r es l'=iO l'
 | k,l,l',hk,h=>by
  obtain⟨m,h1,h2⟩:=aZ.mp h;obtain⟨p1,c⟩:=Ka h1;rcases c with rfl|⟨e,he,c1,c2⟩
  .have:=Xi h1 k h2;rw[this];exact h1
  .have t:=qeh (λe=>!gd l e) (λe=>!gd m e) es (λx _ q=>by
    cases a:gd l x;·rfl
    .rw[qbu p1 a]at q;exact q) ⟨e,he,by simp[c1],by simp[c2]⟩
   match k,hk,h2 with
   | 0,hk,_=>lia
   |k+1,hk,h2=>exact Xj k (by lia) h2
theorem qbv:∀{es:List En}{l:Ln},rnd r es l=iO l->∀e∈es,stp r l e=iO l
 |[],_,_,e,i=>by cases i
 |x::es,l,h,e,i=>by
  obtain⟨m,h1,h2⟩:=aZ.mp h;have p1:=(qbt h1).1;have p2:=(Ka h2).1;have:=p1.eq p2;subst this;rcases ae.mp i with rfl|i;·exact h1
  .exact qbv h2 e i
def Cls(r:Int)(es:List En)(l:Ln):Prop:=∀e∈es,(e.1.1∈qp l↔e.1.2∈qp l)/\(e.1.1∈qp l->(jN l e.1.1+jN l e.1.2) % r=e.2)
theorem qdt{l:Ln}(h:QM r es (es.length+1) l=iO l'):Cls r es l':=λe i=>by obtain⟨_,a,b,_⟩:=qbt (qbv (Xj es.length List.countP_le_length h) e i);exact⟨a,b⟩
theorem Xk:∀(n:Nat){l l':Ln},QM r es n l=iO l'->Pre l l'
 | 0,l,l',h=>by cases h;exact .rfl
 |n+1,l,l',h=>by obtain⟨m,h1,h2⟩:=aZ.mp h;exact(Ka h1).1.tr (Xk n h2)
def Agr(r:Int)(v:Str->Int)(l:Ln):Prop:=∀x∈qp l,r ∣ jN l x - v x
set_option tactic.hygienic true in
theorem qbw{l:Ln}{n:Int}(h:Agr r v l)(i:r ∣ v x+v y - n):Agr r v (sp1 r l x y n):=by
 unfold sp1;split
 .rename_i d;intro z c;rw[gP]at c;by_cases a:z∈qp l;·rw[Xh a];exact h z a
  .rw[JZ a];have c:z=y:=by
    rcases af.mp c with b|b;·exact absurd b a
    .simpa[qp]using b
   subst c;have e:jN [(z,(n - jN l x) % r)] z=(n - jN l x) % r:=by simp[jN]
   rw[e];obtain⟨k,h1⟩:=h x d.1;obtain⟨g,h2⟩:=i;have f:=Int.mul_ediv_add_emod (n - jN l x) r;refine⟨-((n - jN l x) / r) - k - g,?_⟩;rw[fS,fS,Int.mul_neg]
   lia
 .exact h
theorem qgn(hr:1<=r){l:Ln}(h:Agr r v l)(i:r ∣ v e.1.1+v e.1.2 - e.2)(e0:0<=e.2)(e1:e.2<r):∃m,stp r l e=iO m/\Agr r v m:=by
 have h2:Agr r v (sp1 r (sp1 r l e.1.1 e.1.2 e.2) e.1.2 e.1.1 e.2):=qbw (qbw h i) (by rw[fF (v e.1.2)];exact i);refine⟨_,Ab λz=>z.2 ?_,h2⟩;have k2:e.1.2∈qp (sp1 r (sp1 r l e.1.1 e.1.2 e.2) e.1.2 e.1.1 e.2):=by
  by_cases a:e.1.1∈qp l;·exact(uj ..).key (QN a)
  .have z:=z.1;rw[vF a]at z ⊢;by_cases b:e.1.2∈qp l;·exact(uj ..).key b
   .rw[vF b]at z;exact absurd z a
 have c:=h2 _ z.1;have q:=h2 _ k2;generalize jN (sp1 r (sp1 r l e.1.1 e.1.2 e.2) e.1.2 e.1.1 e.2) e.1.1=a at *;generalize jN (sp1 r (sp1 r l e.1.1 e.1.2 e.2) e.1.2 e.1.1 e.2) e.1.2=b at *;have:r ∣ a+b - e.2:=by have:=dQ (dQ c q) i;rw[show a - v e.1.1+(b - v e.1.2)+(v e.1.1+v e.1.2 - e.2)=a+b - e.2 by lia]at this;exact this
 have m:=JX.mpr this;rw[m,dH e0 e1]
theorem qbx(hr:1<=r):∀{es:List En}{l:Ln},(∀e∈es,(r ∣ v e.1.1+v e.1.2 - e.2)/\0<=e.2/\e.2<r)->Agr r v l->∃m,rnd r es l=iO m/\Agr r v m
 |[],l,_,h=>⟨l,rfl,h⟩
 |e::es,l,he,h=>by obtain⟨a,b,c⟩:=he e (ai ..);obtain⟨m,e1,h1⟩:=qgn hr h a b c;obtain⟨B,i,h2⟩:=qbx hr (λx hx=>he x (ac _ hx)) h1;exact⟨B,by unfold rnd;rw[e1];exact i,h2⟩
theorem Xl(hr:1<=r)(i:∀e∈es,(r ∣ v e.1.1+v e.1.2 - e.2)/\0<=e.2/\e.2<r):∀(n:Nat){l:Ln},Agr r v l->∃m,QM r es n l=iO m
 | 0,l,_=>⟨l,rfl⟩
 |n+1,l,h=>by obtain⟨m,e1,h1⟩:=qbx hr i h;obtain⟨B,a⟩:=Xl hr i n h1;exact⟨B,by unfold QM;rw[e1];exact a⟩
theorem qgo(l:Ln)(x:Str):inA (.str x) (.dct (bk l))=.ok (.bl (decide (x∈qp l))):=by unfold inA;simp only[zw];rw[QL]
theorem qby(l:Ln)(x:Str):vf (.str x) (.dct (bk l))=.ok (.bl (!decide (x∈qp l))):=by unfold vf;simp only[zw];rw[QL]
theorem qbz{l:Ln}{v:Int}(h:x∉qp l):vN (bk l) (.inr x) (.int v)=bk (l++[(x,v)]):=by have k:=QL l x;rw[Ac h]at k;unfold vN;unfold kj at k;rw[k];simp[bk]
abbrev zB1:qK:=(sIf (Kh (qy (d2 inA (qc 6) (qc 3))) (qy (d2 vf (qc 7) (qc 3)))) (vg 3 (d2 zc (d2 Kg (qc 5) (d2O 3 ixD (qc 6))) (qc 1)) (qc 7)) qM)
abbrev zB2:qK:=(sIf (Kh (qy (d2 inA (qc 7) (qc 3))) (qy (d2 vf (qc 6) (qc 3)))) (vg 3 (d2 zc (d2 Kg (qc 5) (d2O 3 ixD (qc 7))) (qc 1)) (qc 6)) qM)
abbrev zB3:qK:=(sIf (Kh (qy (d2 inA (qc 6) (qc 3))) (qy (d2 neD (d2 zc (d2 ki (d2O 3 ixD (qc 6)) (d2O 3 ixD (qc 7))) (qc 1)) (qc 5)))) (jm (dC .non)) qM)
abbrev zqB:qK:=(qH zB1 (qH zB2 zB3))
theorem qkJ{a:Int}(hr:1<=r)(h9:r<=99):zc (.int a) (.int r)=.ok (.int (a % r)):=by
 have d:qk3 a r:=⟨by lia,by lia⟩
 have h:0<r:=by lia
 simp[zc,zp,d,h]
variable{b a:Option D}
section
variable(hr:1<=r)(h9:r<=99){c:Option D}{l:Ln}{n:Int}
include hr h9
theorem qiH(d:l.length<1000):zB1 [a,iO (.int r),b,iO (.dct (bk l)),c,iO (.int n),iO (.str x),iO (.str y)]=.ok (.nx,[a,iO (.int r),b,iO (.dct (bk (sp1 r l x y n))),c,iO (.int n),iO (.str x),iO (.str y)]):=by
 have hs:(bk l).length<Z8:=by
  have:(bk l).length=l.length:=by simp[bk]
  rw[this];exact aI (by lia) big
 have i1:=qgo l x;have i2:=qby l y;unfold sp1;by_cases q:x∈qp l
 .have hi:=qdk q;rw[Ad q]at i1;by_cases e:y∈qp l;·rw[Ad e]at i2;rw[Ab λz=>z.2 e];generalize bk l=B at *;simp[i1,i2]
  .rw[Ac e]at i2;rw[Aa ⟨q,e⟩,<-qbz e];have m:=qkJ (a:=n - jN l x) hr h9;have h:Kg (.int n) (.int (jN l x))=.ok (.int (n - jN l x)):=rfl;generalize bk l=B at *;simp[i1,i2,vg,d2O,hi,h,m,zw,hs]
 .rw[Ac q]at i1;rw[Ab λz=>q z.1];generalize bk l=B at *;simp[i1]
theorem qiI(d:l.length<1000):zB2 [a,iO (.int r),b,iO (.dct (bk l)),c,iO (.int n),iO (.str x),iO (.str y)]=.ok (.nx,[a,iO (.int r),b,iO (.dct (bk (sp1 r l y x n))),c,iO (.int n),iO (.str x),iO (.str y)]):=by
 have hs:(bk l).length<Z8:=by
  have:(bk l).length=l.length:=by simp[bk]
  rw[this];exact aI (by lia) big
 have i1:=qgo l y;have i2:=qby l x;unfold sp1;by_cases q:y∈qp l
 .have hi:=qdk q;rw[Ad q]at i1;by_cases e:x∈qp l;·rw[Ad e]at i2;rw[Ab λz=>z.2 e];generalize bk l=B at *;simp[i1,i2]
  .rw[Ac e]at i2;rw[Aa ⟨q,e⟩,<-qbz e];have m:=qkJ (a:=n - jN l y) hr h9;have h:Kg (.int n) (.int (jN l y))=.ok (.int (n - jN l y)):=rfl;generalize bk l=B at *;simp[i1,i2,vg,d2O,hi,h,m,zw,hs]
 .rw[Ac q]at i1;rw[Ab λz=>q z.1];generalize bk l=B at *;simp[i1]
theorem qiJ(h:x∈qp l->y∈qp l):zB3 [a,iO (.int r),b,iO (.dct (bk l)),c,iO (.int n),iO (.str x),iO (.str y)]=(if x∈qp l/\(jN l x+jN l y) % r≠n then .ok (.rt .non,[a,iO (.int r),b,iO (.dct (bk l)),c,iO (.int n),iO (.str x),iO (.str y)])else .ok (.nx,[a,iO (.int r),b,iO (.dct (bk l)),c,iO (.int n),iO (.str x),iO (.str y)])):=by
 have i1:=qgo l x;by_cases q:x∈qp l
 .have h1:=qdk q;have h2:=qdk (h q);rw[Ad q]at i1;have m:=qkJ (a:=jN l x+jN l y) hr h9;generalize bk l=B at *;by_cases z:(jN l x+jN l y) % r=n
  .have e:neD (.int ((jN l x+jN l y) % r)) (.int n)=.ok (.bl iS):=by simp[neD,eqN,eqS,z]
   rw[Ab λw=>w.2 z];simp[i1,d2O,h1,h2,m,e]
  .have e:neD (.int ((jN l x+jN l y) % r)) (.int n)=.ok (.bl iT):=by simp[neD,eqN,eqS,z]
   rw[Aa ⟨q,z⟩];simp[i1,d2O,h1,h2,m,e]
 .rw[Ac q]at i1;rw[Ab λw=>q w.1];generalize bk l=B at *;simp[i1]
theorem qbA(l:Ln)(x y:Str)(n:Int):(sp1 r l x y n).length<=l.length+1:=by
 unfold sp1;split;·simp
 .lia
theorem qkK(h:l.length<900):(∃m,stp r l ((x,y),n)=iO m/\m.length<=l.length+2/\zqB [a,iO (.int r),b,iO (.dct (bk l)),c,iO (.int n),iO (.str x),iO (.str y)]=.ok (.nx,[a,iO (.int r),b,iO (.dct (bk m)),c,iO (.int n),iO (.str x),iO (.str y)]))
  \/ stp r l ((x,y),n)=iQ/\∃ρ,zqB [a,iO (.int r),b,iO (.dct (bk l)),c,iO (.int n),iO (.str x),iO (.str y)]=.ok (.rt .non,ρ):=by
 have g:=qbA hr h9 l x y n;have d:=qbA hr h9 (sp1 r l x y n) y x n;have e1:=qiH hr h9 (a:=a) (b:=b) (c:=c) (l:=l) (x:=x) (y:=y) (n:=n) (by lia);have i:=qiI hr h9 (a:=a) (b:=b) (c:=c) (l:=sp1 r l x y n) (x:=x) (y:=y) (n:=n) (by lia);have D:=qiJ hr h9 (a:=a) (b:=b) (c:=c) (l:=sp1 r (sp1 r l x y n) y x n) (x:=x) (y:=y) (n:=n) (λz=>by
  by_cases p:x∈qp l;·exact(uj ..).key (QN p)
  .rw[vF p]at z ⊢;by_cases q:y∈qp l;·exact(uj ..).key q
   .rw[vF q]at z;exact absurd z p)
 have e:zqB [a,iO (.int r),b,iO (.dct (bk l)),c,iO (.int n),iO (.str x),iO (.str y)]=zB3 [a,iO (.int r),b,iO (.dct (bk (sp1 r (sp1 r l x y n) y x n))),c,iO (.int n),iO (.str x),iO (.str y)]:=(qdm e1).trans (qdm i);rw[D]at e;by_cases q:x∈qp (sp1 r (sp1 r l x y n) y x n)/\(jN (sp1 r (sp1 r l x y n) y x n) x+jN (sp1 r (sp1 r l x y n) y x n) y) % r≠n;·rw[Aa q]at e;exact .inr ⟨Aa q,_,e⟩
 .rw[Ab q]at e;exact .inl ⟨_,Ab q,by lia,e⟩
abbrev zG:D->Sl->Out Sl:=(jM 2 (qw (jM 2 (qw (gNm 6) (qw (gNm 7) jL))) (qw (gNm 5) jL)))
noncomputable def enD(e:En):D:=.tup [pD e.1,.int e.2]
theorem qei:∀(es:List En)(l:Ln)(u v w:Option D),l.length+2 * es.length<900->(∃m V U S,rnd r es l=iO m/\m.length<=l.length+2 * es.length/\jB zG zqB (es.map enD) [a,iO (.int r),b,iO (.dct (bk l)),c,u,v,w]=.ok (.nx,[a,iO (.int r),b,iO (.dct (bk m)),c,V,U,S]))
  \/ rnd r es l=iQ/\∃ρ,jB zG zqB (es.map enD) [a,iO (.int r),b,iO (.dct (bk l)),c,u,v,w]=.ok (.rt .non,ρ)
 |[],l,u,v,w,_=>.inl ⟨l,u,v,w,rfl,by lia,rfl⟩
 | e::es,l,u,v,w,hz=>by
  rw[ah]at hz;obtain⟨⟨x,y⟩,n⟩:=e;have hg:zG (enD ((x,y),n)) [a,iO (.int r),b,iO (.dct (bk l)),c,u,v,w]=.ok [a,iO (.int r),b,iO (.dct (bk l)),c,iO (.int n),iO (.str x),iO (.str y)]:=rfl;rcases qkK hr h9 (a:=a) (b:=b) (c:=c) (l:=l) (x:=x) (y:=y) (n:=n) (by lia)with⟨m,e1,g,i⟩|⟨e1,ρ,i⟩
  .rcases qei es m (iO (.int n)) (iO (.str x)) (iO (.str y)) (by lia)with⟨B,V,U,S,k1,k2,k3⟩|⟨k1,ρ,k3⟩
   .exact .inl ⟨B,V,U,S,by unfold rnd;rw[e1];exact k1,by rw[ah];lia,(kr hg i).trans k3⟩
   .exact .inr ⟨by unfold rnd;rw[e1];exact k1,ρ,(kr hg i).trans k3⟩
  .exact .inr ⟨by unfold rnd;rw[e1];rfl,ρ,Xb hg i⟩
end
abbrev rB:qK:=(vz (qjB (qb (qc 0) (qb (qc 2) qu))) zG zqB)
theorem qej:∀(seen:List Pr)(ns:List Int),qbX (qo seen) (ns.map D.int)=(seen.zip ns).map enD
 |[],_=>by simp[qbX,qo]
 |_::_,[]=>by simp[qbX]
 |p::seen,n::ns=>by have j:=qej seen ns;unfold qbX at j ⊢;exact congrArg (D.tup [pD p,.int n]::·) j
section
variable(hr:1<=r)(h9:r<=99)
include hr h9
theorem qek(h6:(seen.zip ns).length<=6):∀(ds:List D)(l:Ln)(t u v w:Option D),l.length+12 * ds.length<800->(∃m t' V U S,QM r (seen.zip ns) ds.length l=iO m/\jB (gNm 4) rB ds [iO (sD seen),iO (.int r),iO (nD ns),iO (.dct (bk l)),t,u,v,w]=.ok (.nx,[iO (sD seen),iO (.int r),iO (nD ns),iO (.dct (bk m)),t',V,U,S]))
  \/ QM r (seen.zip ns) ds.length l=iQ/\∃ρ,jB (gNm 4) rB ds [iO (sD seen),iO (.int r),iO (nD ns),iO (.dct (bk l)),t,u,v,w]=.ok (.rt .non,ρ)
 |[],l,t,u,v,w,_=>.inl ⟨l,t,u,v,w,rfl,rfl⟩
 | d::ds,l,t,u,v,w,hz=>by
  rw[ah]at hz;have hg:gNm 4 d [iO (sD seen),iO (.int r),iO (nD ns),iO (.dct (bk l)),t,u,v,w]=.ok [iO (sD seen),iO (.int r),iO (nD ns),iO (.dct (bk l)),iO d,u,v,w]:=rfl;have hit:qjB (qb (qc 0) (qb (qc 2) qu)) [iO (sD seen),iO (.int r),iO (nD ns),iO (.dct (bk l)),iO d,u,v,w]=.ok ((seen.zip ns).map enD,[iO (sD seen),iO (.int r),iO (nD ns),iO (.dct (bk l)),iO d,u,v,w]):=by rw[<-qej];rfl
  rcases qei hr h9 (a:=iO (sD seen)) (b:=iO (nD ns)) (c:=iO d) (seen.zip ns) l u v w (by lia)with⟨m,V,U,S,k1,k2,k3⟩|⟨k1,ρ,k3⟩
  .have h:rB [iO (sD seen),iO (.int r),iO (nD ns),iO (.dct (bk l)),iO d,u,v,w]=.ok (.nx,[iO (sD seen),iO (.int r),iO (nD ns),iO (.dct (bk m)),iO d,V,U,S]):=by show vz _ _ _ _=_;rw[jV,hit,jJ];exact k3
   rcases qek h6 ds m (iO d) V U S (by lia)with⟨B,g,x,f,e,Y,j⟩|⟨Y,ρ,j⟩
   .exact .inl ⟨B,g,x,f,e,by rw[ah];unfold QM;rw[k1];exact Y,(kr hg h).trans j⟩
   .exact .inr ⟨by rw[ah];unfold QM;rw[k1];exact Y,ρ,(kr hg h).trans j⟩
  .have h:rB [iO (sD seen),iO (.int r),iO (nD ns),iO (.dct (bk l)),iO d,u,v,w]=.ok (.rt .non,ρ):=by show vz _ _ _ _=_;rw[jV,hit,jJ];exact k3
   exact .inr ⟨by rw[ah];unfold QM;rw[k1];rfl,ρ,Xb hg h⟩
theorem ZA(h6:seen.length<=6)(hn:ns.length=seen.length){l:Ln}(hl:l.length<=1):(∃m,QM r (seen.zip ns) ((seen.zip ns).length+1) l=iO m/\ua [sD seen,.int r,nD ns,.dct (bk l)]=.ok (.dct (bk m),[.non,.non,.non,.non]))
  \/ QM r (seen.zip ns) ((seen.zip ns).length+1) l=iQ/\ua [sD seen,.int r,nD ns,.dct (bk l)]=.ok (.non,[.non,.non,.non,.non]):=by
 have d:(seen.zip ns).length=seen.length:=by rw[List.length_zip];lia
 have n:ko (sD seen)=.ok (.int seen.length):=by simp[qo]
 have hit:jU (d2 ki (d1 ko (qc 0)) (dC (.int 1))) [iO (sD seen),iO (.int r),iO (nD ns),iO (.dct (bk l)),iQ,iQ,iQ,iQ]=.ok (yt 0 (seen.length+1),[iO (sD seen),iO (.int r),iO (nD ns),iO (.dct (bk l)),iQ,iQ,iQ,iQ]):=by have:=iR0 (f:=d2 ki (d1 ko (qc 0)) (dC (.int 1))) (ρ:=[iO (sD seen),iO (.int r),iO (nD ns),iO (.dct (bk l)),iQ,iQ,iQ,iQ]) (ρ1:=[iO (sD seen),iO (.int r),iO (nD ns),iO (.dct (bk l)),iQ,iQ,iQ,iQ]) (k:=seen.length+1) (by lia) (by lia) (by generalize sD seen=S at *;simp[n]);rw[this];congr 2
 have Z:(yt 0 (seen.length+1)).length=(seen.zip ns).length+1:=by rw[d];simp[yt]
 have key:=qek hr h9 (seen:=seen) (ns:=ns) (by lia) (yt 0 (seen.length+1)) l iQ iQ iQ iQ (by lia);rw[Z]at key;rcases key with⟨m,t',V,U,w,k1,k2⟩|⟨k1,ρ,k2⟩
 .refine .inl ⟨m,k1,qr.trans ?_⟩;unfold gK;rw[show qt gJ [sD seen,.int r,nD ns,.dct (bk l)]=[iO (sD seen),iO (.int r),iO (nD ns),iO (.dct (bk l)),iQ,iQ,iQ,iQ]from rfl];refine(qv (by rw[jV,hit,jJ];exact k2)).trans ?_;simp
 .refine .inr ⟨k1,qr.trans ?_⟩;unfold gK;rw[show qt gJ [sD seen,.int r,nD ns,.dct (bk l)]=[iO (sD seen),iO (.int r),iO (nD ns),iO (.dct (bk l)),iQ,iQ,iQ,iQ]from rfl];rw[yb,jV,hit,jJ,k2];rfl
end
theorem Kb(e:Str×Int)(l:Ln)(y:Str):jN (e::l) y=if e.1=y then e.2 else jN l y:=by
 unfold jN;rw[cS];by_cases h:e.1=y;·simp[h]
 .simp[h]
def yY(b:Ln)(x:Str)(v:Int):Ln:=if x∈qp b then b.map (λe=>if e.1=x then(e.1,v)else e)else b++[(x,v)]
theorem qbB(x:Str)(v:Int):∀b:Ln,qp (b.map (λe=>if e.1=x then(e.1,v)else e))=qp b
 |[]=>rfl
 |e::b=>by have j:=qbB x v b;unfold qp at j ⊢;rw[aE,aE,aE,j];split <;> rfl
set_option tactic.hygienic true in
theorem qgp(b:Ln)(x:Str)(v:Int)(y:Str):y∈qp (yY b x v)↔y∈qp b\/y=x:=by
 unfold yY;split;·rename_i h;rw[qbB];exact⟨.inl,λz=>z.elim id λz=>z ▸ h⟩
 .rw[gP];simp[qp]
theorem yg(x:Str)(v:Int)(y:Str):∀b:Ln,x∈qp b->jN (b.map (λe=>if e.1=x then(e.1,v)else e)) y=if y=x then v else jN b y
 |[],h=>by cases h
 | e::b,h=>by
  rw[aE,Kb,Kb];by_cases q:e.1=x
  .by_cases z:y=x;·subst z;simp[q]
   .have:¬x=y:=λw=>z w.symm;simp only[q,Aa,this,Ab,z,if_false];by_cases k:x∈qp b;·rw[yg x v y b k,Ab z]
    .have:b.map (λe=>if e.1=x then(e.1,v)else e)=b:=by
      conv=>rhs;rw[<-List.map_id b]
      refine dZ λa g=>?_;rw[Ab (λ(w:a.1=x)=>k (aq.mpr ⟨a,g,w⟩))];rfl
     rw[this]
  .have k:x∈qp b:=by
    rcases ae.mp h with w|w;·exact absurd w.symm q
    .exact w
   rw[Ab q,yg x v y b k];by_cases z:y=x;·subst z;rw[Ab q,Aa rfl,Aa rfl]
   .rw[Ab z,Ab z]
set_option tactic.hygienic true in
theorem qgq(b:Ln)(x:Str)(v:Int)(y:Str):jN (yY b x v) y=if y=x then v else jN b y:=by
 unfold yY;split;·rename_i h;exact yg x v y b h
 .rename_i h;by_cases z:y=x;·subst z;rw[JZ h,Aa rfl];simp[jN]
  .rw[Ab z];by_cases k:y∈qp b;·exact Xh k
   .rw[JZ k];have:¬x=y:=λw=>z w.symm;have e1:jN [(x,v)] y=0:=by simp[jN,this]
    have i:jN b y=0:=by unfold jN;rw[bK.mpr λa g w=>k (aq.mpr ⟨a,g,by simpa using w⟩)];rfl
    rw[e1,i]
theorem qgr(b:Ln)(x:Str)(v:Int):vN (bk b) (.inr x) (.int v)=bk (yY b x v):=by
 unfold yY;by_cases h:x∈qp b
 .rw[Aa h];have k:=QL b x;rw[Ad h]at k;unfold kj at k;unfold vN;rw[k,Aa rfl];unfold bk;rw[bA,bA];refine dZ λa _=>?_;by_cases q:a.1=x;·simp[q]
  .simp[q]
 .rw[Ab h];exact qbz h
def mg(b m:Ln):Ln:=m.foldl (λa e=>yY a e.1 e.2) b
theorem qiK:∀(m b:Ln),gk (bk b) (bk m)=bk (mg b m)
 |[],b=>rfl
 |e::m,b=>by show gk (vN (bk b) (.inr e.1) (.int e.2)) (bk m)=bk (mg (yY b e.1 e.2) m);rw[qgr,qiK m]
theorem Wl:∀(m b:Ln)(y:Str),y∈qp (mg b m)↔y∈qp b\/y∈qp m
 |[],b,y=>by simp[mg,qp]
 |e::m,b,y=>by
  show y∈qp (mg (yY b e.1 e.2) m)↔_;rw[Wl m,qgp];have:y∈qp (e::m)↔y=e.1\/y∈qp m:=by simp[qp]
  rw[this,or_assoc]
theorem qbC:∀(m b:Ln)(y:Str),(qp m).Nodup->jN (mg b m) y=if y∈qp m then jN m y else jN b y
 |[],b,y,_=>by simp[mg,qp]
 | e::m,b,y,h=>by
  obtain⟨h1,h2⟩:=aP.mp (show(e.1::qp m).Nodup from h);show jN (mg (yY b e.1 e.2) m) y=_;rw[qbC m _ y h2,qgq,Kb];have:y∈qp (e::m)↔y=e.1\/y∈qp m:=by simp[qp]
  by_cases k:y∈qp m;·have:¬e.1=y:=λw=>h1 (w ▸ k);rw[Aa k,Aa (by rw[‹y∈qp (e::m)↔_›];exact .inr k),Ab this]
  .rw[Ab k];by_cases z:y=e.1;·rw[Aa z,Aa (by rw[this];exact .inl z),Aa z.symm]
   .rw[Ab z,Ab (by rw[this];exact λw=>w.elim z k)]
theorem qel:∀(m b:Ln),(mg b m).length<=b.length+m.length
 |[],b=>by simp[mg]
 | e::m,b=>by
  have h1:=qel m (yY b e.1 e.2);have h2:(yY b e.1 e.2).length<=b.length+1:=by
   unfold yY;split;·rw[ao];lia
   .simp
  show(mg (yY b e.1 e.2) m).length<=_;rw[ah]
  lia
theorem qiL{b m:Ln}(d:Cls r es b)(c:Cls r es m)(hn:(qp m).Nodup):Cls r es (mg b m):=λe i=>by
 obtain⟨f,a⟩:=d e i;obtain⟨m1,B⟩:=c e i;rw[Wl,Wl,qbC m b _ hn,qbC m b _ hn];refine⟨by rw[f,m1],λh=>?_⟩;by_cases k:e.1.1∈qp m;·rw[Aa k,Aa (m1.mp k)];exact B k
 .rw[Ab k,Ab λw=>k (m1.mpr w)];exact a (h.resolve_right k)
set_option tactic.hygienic true in
theorem qem{l:Ln}{n:Int}(h:(qp l).Nodup):(qp (sp1 r l x y n)).Nodup:=by
 unfold sp1;split
 .rename_i d;rw[gP];refine bV.mpr ⟨h,by simp[qp],λa g b c=>?_⟩;have:b=y:=by simpa[qp]using c
  rw[this];rintro rfl;exact d.2 g
 .exact h
theorem qen(r:Int)(l:Ln)(x y:Str)(n:Int):(sp1 r l x y n).length<=l.length+1:=by
 unfold sp1;split;·simp
 .lia
theorem qiM{l m:Ln}(h:(qp l).Nodup)(q:stp r l e=iO m):(qp m).Nodup/\m.length<=l.length+2:=by
 unfold stp at q;split at q;·cases q
 .cases q;have a:=qen r l e.1.1 e.1.2 e.2;have b:=qen r (sp1 r l e.1.1 e.1.2 e.2) e.1.2 e.1.1 e.2;exact⟨qem (qem h),by lia⟩
theorem qeo:∀{es:List En}{l m:Ln},(qp l).Nodup->rnd r es l=iO m->(qp m).Nodup/\m.length<=l.length+2 * es.length
 |[],l,m,h,q=>by cases q;exact⟨h,by lia⟩
 |e::es,l,m,h,q=>by obtain⟨k,g,f⟩:=aZ.mp q;obtain⟨a,b⟩:=qiM h g;obtain⟨c,d⟩:=qeo a f;exact⟨c,by rw[ah];lia⟩
theorem qbD(h6:es.length<=6):∀(n:Nat){l m:Ln},(qp l).Nodup->QM r es n l=iO m->(qp m).Nodup/\m.length<=l.length+12 * n
 | 0,l,m,h,q=>by cases q;exact⟨h,by lia⟩
 |n+1,l,m,h,q=>by obtain⟨k,f,e⟩:=aZ.mp q;obtain⟨a,b⟩:=qeo h f;obtain⟨c,d⟩:=qbD h6 n a e;exact⟨c,by lia⟩
def qkL(r:Int)(es:List En)(v:Str->Int):Prop:=∀e∈es,r ∣ v e.1.1+v e.1.2 - e.2
abbrev GF:=jK
def wG(G:GF):qK:=(sIf (qy (d2 Gn (qc 7) (dC .non))) (qX 7 (ql [.vl,.vl,.vl,.fr] G (qb (qc 4) (qb (qc 2) (qb (qc 3) (qb (Vy (qc 6) (qc 8)) qu)))))) qM)
abbrev wB:qK:=wG ua
variable{G:GF}
theorem qiN{R N S B:Option D}{r n s:D}{k:Int}{F:D}{o:List D}(h:G [s,r,n,.dct [(.inr x,.int k)]]=.ok (F,[.non,.non,.non,.non])):wG G [a,b,iO r,iO n,iO s,B,iO (.str x),iO .non,iO (.int k)]=.ok (.nx,[a,b,iO r,iO n,iO s,B,iO (.str x),iO F,iO (.int k)]):=by simp[wG,Vy,zw,h]
variable{S:Option D}
theorem qkM{R N B:Option D}{x:Option D}{m:List (Key×D)}{k:Option D}:wG G [a,b,R,N,S,B,x,iO (.dct m),k]=.ok (.nx,[a,b,R,N,S,B,x,iO (.dct m),k]):=by simp[wG]
def oG(F:qK):qK:=(sIf (qy (d2 vf (qc 6) (qc 5))) (qH (qX 7 (dC .non))
  (qH F
  (qH (sIf (qy (d2 Gn (qc 7) (dC .non))) (jm (dC .non)) qM)
  (kn (qia 5 (qc 7)))))) qM)
theorem qkN{F:qK}{R N u w:Option D}{C x:D}(hi:vf x C=.ok (.bl iS)):oG F [a,b,R,N,S,iO C,iO x,u,w]=.ok (.nx,[a,b,R,N,S,iO C,iO x,u,w]):=by simp[oG,hi]
theorem qkO{F:qK}{R N u w c:Option D}{C x:D}(hi:vf x C=.ok (.bl iT))(h:F [a,b,R,N,S,iO C,iO x,iO .non,w]=.ok (.nx,[a,b,R,N,S,iO C,iO x,iO .non,c])):oG F [a,b,R,N,S,iO C,iO x,u,w]=.ok (.rt .non,[a,b,R,N,S,iO C,iO x,iO .non,c]):=by simp[oG,hi,h]
theorem qkP{F:qK}{R N u w d:Option D}{c m:List (Key×D)}{x:D}(hi:vf x (.dct c)=.ok (.bl iT))(h:F [a,b,R,N,S,iO (.dct c),iO x,iO .non,w]=.ok (.nx,[a,b,R,N,S,iO (.dct c),iO x,iO (.dct m),d]))(z:c.length+m.length<=Z8):oG F [a,b,R,N,S,iO (.dct c),iO x,u,w]=.ok (.nx,[a,b,R,N,S,iO (.dct (gk c m)),iO x,iO (.dct m),d]):=by simp[oG,hi,h,qia,z]
section
variable(hr:1<=r)(h9:r<=99)(h6:seen.length<=6)(hn:ns.length=seen.length){B:Option D}
include hr h9 h6 hn
theorem qiO(F:D)(C:F=.non\/∃m,F=.dct (bk m))(k:Int):∃F',wB [a,b,iO (.int r),iO (nD ns),iO (sD seen),B,iO (.str x),iO F,iO (.int k)]=.ok (.nx,[a,b,iO (.int r),iO (nD ns),iO (sD seen),B,iO (.str x),iO F',iO (.int k)]) /\
  ((∃m,F=.dct (bk m))->F'=F)/\(F=.non->F'=.non/\QM r (seen.zip ns) ((seen.zip ns).length+1) [(x,k)]=iQ\/∃m,QM r (seen.zip ns) ((seen.zip ns).length+1) [(x,k)]=iO m/\F'=.dct (bk m)):=by
 rcases C with rfl|⟨m,rfl⟩
 .rcases ZA hr h9 h6 hn (l:=[(x,k)]) (by simp)with⟨m,e1,i⟩|⟨e1,i⟩
  .exact⟨.dct (bk m),qiN (R:=iQ) (N:=iQ) (S:=iQ) (o:=[]) i,(λ⟨_,z⟩=>by cases z),λ_=>.inr ⟨m,e1,rfl⟩⟩
  .exact⟨.non,qiN (R:=iQ) (N:=iQ) (S:=iQ) (o:=[]) i,(λ⟨_,z⟩=>by cases z),λ_=>.inl ⟨rfl,e1⟩⟩
 .exact⟨.dct (bk m),qkM,(λ_=>rfl),λz=>by cases z⟩
theorem qep:∀(ks:List Int)(F:D)(w:Option D),(F=.non\/∃m,F=.dct (bk m))->∃F' S,jB (gNm 8) wB (ks.map D.int) [a,b,iO (.int r),iO (nD ns),iO (sD seen),B,iO (.str x),iO F,w]=.ok (.nx,[a,b,iO (.int r),iO (nD ns),iO (sD seen),B,iO (.str x),iO F',S]) /\
  ((∃m,F=.dct (bk m))->F'=F)/\(F=.non->(F'=.non/\∀k∈ks,QM r (seen.zip ns) ((seen.zip ns).length+1) [(x,k)]=iQ)\/∃k m,QM r (seen.zip ns) ((seen.zip ns).length+1) [(x,k)]=iO m/\F'=.dct (bk m))
 |[],F,w,_=>⟨F,w,rfl,λ_=>rfl,λh=>.inl ⟨h,λk e=>by cases e⟩⟩
 | k::ks,F,w,hF=>by
  obtain⟨F1,e1,f1,f2⟩:=qiO hr h9 h6 hn (a:=a) (b:=b) (B:=B) (x:=x) F hF k;have d:F1=.non\/∃m,F1=.dct (bk m):=by
   rcases hF with h|h
   .rcases f2 h with⟨z,_⟩|⟨m,_,z⟩
    .exact .inl z
    .exact .inr ⟨m,z⟩
   .rw[f1 h];exact .inr h
  obtain⟨F',S,i,g1,Z⟩:=qep ks F1 (iO (.int k)) d;refine⟨F',S,(kr rfl e1).trans i,λh=>?_,λh=>?_⟩;·have:=f1 h;rw[g1 (by rw[this];exact h),this]
  .rcases f2 h with⟨z,q⟩|⟨m,q,z⟩
   .rcases Z z with⟨z2,q2⟩|z2
    .exact .inl ⟨z2,λj c=>by
      rcases ae.mp c with rfl|c;·exact q
      .exact q2 j c⟩
    .exact .inr z2
   .exact .inr ⟨k,m,q,by rw[g1 ⟨m,z⟩,z]⟩
abbrev oB:qK:=oG (vz (jU (qc 2)) (gNm 8) wB)
theorem qiP(A:∀y∈ns,0<=y/\y<r){c:Ln}(s:Cls r (seen.zip ns) c)(C:c.length<=1500)(u w:Option D):(∃T V S,oB [a,b,iO (.int r),iO (nD ns),iO (sD seen),iO (.dct (bk c)),iO (.str x),u,w]=.ok (.nx,[a,b,iO (.int r),iO (nD ns),iO (sD seen),iO (.dct (bk T)),iO (.str x),V,S])/\Cls r (seen.zip ns) T/\x∈qp T/\(∀y∈qp c,y∈qp T)/\T.length<=c.length+90)
  \/ (∃ρ,oB [a,b,iO (.int r),iO (nD ns),iO (sD seen),iO (.dct (bk c)),iO (.str x),u,w]=.ok (.rt .non,ρ))/\¬∃v,qkL r (seen.zip ns) v:=by
 have i:(seen.zip ns).length=seen.length:=by rw[List.length_zip];lia
 have hi:=qby c x;by_cases q:x∈qp c;·rw[Ad q]at hi;exact .inl ⟨c,u,w,qkN hi,s,q,λy d=>d,by lia⟩
 ·rw [Ac q]at hi;obtain⟨F,S,e,_,f⟩:=qep hr h9 h6 hn (a:=a) (b:=b) (B:=iO (.dct (bk c))) (x:=x) ((aH r.toNat).map λ(k:Nat)=>(k:Int)) .non w (.inl rfl);have hit:jU (qc 2) [a,b,iO (.int r),iO (nD ns),iO (sD seen),iO (.dct (bk c)),iO (.str x),iO .non,w]=.ok (((aH r.toNat).map λ(k:Nat)=>(k:Int)).map D.int,[a,b,iO (.int r),iO (nD ns),iO (sD seen),iO (.dct (bk c)),iO (.str x),iO .non,w]):=by rw[<-Xg];exact iR0 (by lia) (by lia) rfl
  have h:vz (jU (qc 2)) (gNm 8) wB [a,b,iO (.int r),iO (nD ns),iO (sD seen),iO (.dct (bk c)),iO (.str x),iO .non,w]=.ok (.nx,[a,b,iO (.int r),iO (nD ns),iO (sD seen),iO (.dct (bk c)),iO (.str x),iO F,S]):=by rw[jV,hit,jJ];exact e
  rcases f rfl with⟨rfl,o⟩|⟨k,m,g,rfl⟩
  .refine .inr ⟨⟨_,qkO hi h⟩,λz=>?_⟩;obtain⟨v,t⟩:=z
   .have n:=o (v x % r) (aq.mpr ⟨(v x % r).toNat,aN.mpr (by have:=cM (v x) (show 0<r by lia);have:=cW (v x) (show r≠0 by lia);lia),by have:=cW (v x) (show r≠0 by lia);lia⟩);obtain⟨m,g⟩:=Xl hr (v:=v) (es:=seen.zip ns) (λe p=>⟨t e p,A e.2 (cR p).2⟩) ((seen.zip ns).length+1) (l:=[(x,v x % r)]) (λy d=>by
     have:y=x:=by simpa[qp]using d
     subst this;have e:jN [(y,v y % r)] y=v y % r:=by simp[jN]
     rw[e];exact JX.mp (Int.emod_emod_of_dvd _ (Int.dvd_refl r)))
    rw[g]at n;cases n
  .obtain⟨nd,len⟩:=qbD (by lia) _ (l:=[(x,k)]) (by simp[qp]) g;have ln:m.length<=90:=by rw[i]at len;simp at len;lia
   have j:∀l:Ln,(bk l).length=l.length:=λl=>by simp[bk]
   refine .inl ⟨mg c m,_,_,(qkP hi h (by rw[j,j];exact small (by lia))).trans (by rw[qiK]),qiL s (qdt g) nd,(Wl m c x).mpr (.inr ((Xk _ g).key (by simp[qp]))),λy d=>(Wl m c y).mpr (.inl d),?_⟩;have:=qel m c
   lia
theorem qeq(A:∀y∈ns,0<=y/\y<r):∀(L:List Str)(c:Ln)(z u w:Option D),Cls r (seen.zip ns) c->c.length+90 * L.length<=1500 ->(∃T p V S,jB (gNm 6) oB (L.map D.str) [a,b,iO (.int r),iO (nD ns),iO (sD seen),iO (.dct (bk c)),z,u,w]=.ok (.nx,[a,b,iO (.int r),iO (nD ns),iO (sD seen),iO (.dct (bk T)),p,V,S])/\Cls r (seen.zip ns) T/\(∀y∈L,y∈qp T)/\∀y∈qp c,y∈qp T)
  \/ (∃ρ,jB (gNm 6) oB (L.map D.str) [a,b,iO (.int r),iO (nD ns),iO (sD seen),iO (.dct (bk c)),z,u,w]=.ok (.rt .non,ρ))/\¬∃v,qkL r (seen.zip ns) v
 |[],c,z,u,w,hc,_=>.inl ⟨c,z,u,w,rfl,hc,(λy h=>by cases h),λy h=>h⟩
 | x::L,c,z,u,w,hc,hl=>by
  rw[ah]at hl;have hg:gNm 6 (.str x) [a,b,iO (.int r),iO (nD ns),iO (sD seen),iO (.dct (bk c)),z,u,w]=.ok [a,b,iO (.int r),iO (nD ns),iO (sD seen),iO (.dct (bk c)),iO (.str x),u,w]:=rfl;rcases qiP hr h9 h6 hn (a:=a) (b:=b) (x:=x) A hc (by lia) u w with⟨q,l,j,e1,f,hx,m,s⟩|⟨⟨ρ,e1⟩,o⟩
  .rcases qeq A L q (iO (.str x)) l j f (by lia)with⟨c2,z2,k,g,i,d,n,e⟩|⟨⟨ρ,i⟩,o⟩
   .exact .inl ⟨c2,z2,k,g,(kr hg e1).trans i,d,(λy h=>by
     rcases ae.mp h with rfl|h;·exact e _ hx
     .exact n y h),λy h=>e y (m y h)⟩
   .exact .inr ⟨⟨ρ,(kr hg e1).trans i⟩,o⟩
  .exact .inr ⟨⟨ρ,Xb hg e1⟩,o⟩
end
theorem qbE(hn:ns.length=seen.length):qkL r (seen.zip ns) v↔Sol seen r ns v:=by
 constructor
 .intro h k p hp;have a:k<ns.length:=by rw[hn];exact(aD.mp hp).1
  have:=h (p,nI ns k) (aV (i:=k) (by rw[bI];refine⟨hp,?_⟩;unfold nI;rw[ay a];rfl));exact this
 .intro h e b;obtain⟨k,a⟩:=bi b;obtain⟨h1,h2⟩:=bI.mp a;have:=h k e.1 h1;unfold nI at this;rw[h2]at this;exact this
theorem qdu(w:jl ws)(hl:QQ p q)(hr:1<=r)(h9:r<=99)(hn:gO ws.length r ns):∃d,zz [Wd ws,Ld p q,.int r,nD ns]=.ok (d,[.non,.non,.non,.non])/\((d=.non/\¬∃v,Sol (qC ws p q) r ns v)\/(∃m,d=.dct m)/\∃v,Sol (qC ws p q) r ns v):=by
 have l:(qC ws p q).length=ws.length:=by simp[qC]
 have h:ns.length=(qC ws p q).length:=by rw[l];exact hn.1
 have h6:=w.2.1;have s:=qa8 w p q;have hp:jS [Wd ws,Ld p q]=.ok (sD (qC ws p q),[.non,.non]):=ug w hl;have hs:ky [Wd ws,Ld p q]=.ok (.lst ((LS (qC ws p q)).map D.str),[.non,.non]):=qbr w hl;have key:=qeq hr h9 (seen:=qC ws p q) (ns:=ns) (by lia) h (a:=iO (Wd ws)) (b:=iO (Ld p q)) (λy j=>hn.2 y j) (LS (qC ws p q)) [] iQ iQ iQ (λe _=>by simp[qp]) (by simp;lia);have hit:qV (ql [.vl,.vl] ky (qb (qc 0) (qb (qc 1) qu))) [iO (Wd ws),iO (Ld p q),iO (.int r),iO (nD ns),iO (sD (qC ws p q)),iO (.dct []),iQ,iQ,iQ]=.ok ((LS (qC ws p q)).map D.str,[iO (Wd ws),iO (Ld p q),iO (.int r),iO (nD ns),iO (sD (qC ws p q)),iO (.dct []),iQ,iQ,iQ]):=by have c:jg (.lst ((LS (qC ws p q)).map D.str))=.ok ((LS (qC ws p q)).map D.str):=rfl;generalize D.lst ((LS (qC ws p q)).map D.str)=A at *;generalize (LS (qC ws p q)).map D.str=B at *;generalize sD (qC ws p q)=S at *;generalize Wd ws=W at *;generalize Ld p q=L at *;simp[hs,c]
 have wx:∀fb:qK,Wv [.val,.val,.val,.val] (qH (qX 4 (ql [.vl,.vl] jS (qb (qc 0) (qb (qc 1) qu)))) (qH (qX 5 (dC (.dct []))) fb) (qt JS [Wd ws,Ld p q,.int r,nD ns]))=Wv [.val,.val,.val,.val] (fb [iO (Wd ws),iO (Ld p q),iO (.int r),iO (nD ns),iO (sD (qC ws p q)),iO (.dct []),iQ,iQ,iQ]):=λfb=>by rw[show qt JS [Wd ws,Ld p q,.int r,nD ns]=[iO (Wd ws),iO (Ld p q),iO (.int r),iO (nD ns),iQ,iQ,iQ,iQ,iQ]from rfl];generalize sD (qC ws p q)=S at *;generalize Wd ws=W at *;generalize Ld p q=L at *;refine(qv (ρ1:=[iO W,iO L,iO (.int r),iO (nD ns),iO S,iQ,iQ,iQ,iQ]) (by simp[hp])).trans ?_;exact qv (ρ1:=[iO W,iO L,iO (.int r),iO (nD ns),iO S,iO (.dct []),iQ,iQ,iQ]) (by simp)
 have g:∀ρ,vz (qV (ql [.vl,.vl] ky (qb (qc 0) (qb (qc 1) qu)))) (gNm 6) oB ρ=(qV (ql [.vl,.vl] ky (qb (qc 0) (qb (qc 1) qu))) ρ).bind λp=>jB (gNm 6) oB p.1 p.2:=λρ=>rfl;rcases key with⟨T,z,V,x,e,t,u,_⟩|⟨⟨ρ,e⟩,o⟩
 .refine⟨.dct (bk T),qr.trans ?_,.inr ⟨⟨_,rfl⟩,jN T,?_⟩⟩;·refine(wx _).trans ((qv (f:=vz (qV (ql [.vl,.vl] ky (qb (qc 0) (qb (qc 1) qu)))) (gNm 6) oB) (by rw[g,hit,jJ];exact e)).trans ?_);simp
  .refine(qbE h).mp λe i=>?_;obtain⟨h1,h2⟩:=t e i;have n:=h2 (u _ (uf.mpr ⟨_,(cR i).1,.inl rfl⟩));have:=hn.2 e.2 (cR i).2;refine JX.mp ?_;rw[n,dH this.1 this.2]
 .refine⟨.non,qr.trans ?_,.inl ⟨rfl,λ⟨v,k⟩=>o ⟨v,(qbE h).mpr k⟩⟩⟩;refine(wx _).trans ?_;show Wv _ (qH (vz (qV (ql [.vl,.vl] ky (qb (qc 0) (qb (qc 1) qu)))) (gNm 6) oB) (jm (qc 5)) _)=_;have e:jB (gNm 6) oB ((LS (qC ws p q)).map D.str) [iO (Wd ws),iO (Ld p q),iO (.int r),iO (nD ns),iO (sD (qC ws p q)),iO (.dct []),iQ,iQ,iQ]=.ok (.rt .non,ρ):=e;rw[yb,g,hit,jJ];show Wv _ ((jB _ _ _ _).bind _)=_;rw[e];rfl
noncomputable def pa(l:List (Str×Str))(i:Nat):Str×Str:=(l[i]?).getD ("","")
theorem qiQ{i:Nat}(h:i<l.length):(qo l)[i]?=iO (pD (pa l i)):=by unfold qo pa;rw[aG,ay h];rfl
theorem qdv:zf (qo l)=(aH l.length).map λ(j:Nat)=>.tup [.int j,pD (pa l j)]:=by
 refine cY λj=>?_;unfold zf;rw[aG,aG,List.getElem?_zipIdx];by_cases h:j<l.length;·rw[qiQ h,List.getElem?_range h];simp
 .have hn:(qo l).length=l.length:=by simp[qo]
  rw[bM (by lia),bM (by simp;lia)];rfl
theorem zD(ws:List Str)(p q:Int):(qC ws p q).length=ws.length:=by simp[qC]
noncomputable def co(x:Str×Str)(c:Str):Int:=(if x.1=c then 1 else 0)+if x.2=c then 1 else 0
def cn(K:List (Str×Str))(c:Str):Int:=(K.map λx=>co x c).sum
theorem qdw(x:Str×Str)(c:Str):0<=co x c/\co x c<=2:=by unfold co;split <;> split <;> lia
theorem qbF(x:Str×Str)(c:Str):uK (pD x) (.str c)=.ok (.int (co x c)):=by obtain⟨a,b⟩:=x;have h:=vT c [a,b];have h:zq 7 (.str c) [.str a,.str b]=iO (decide (c∈[a,b])):=h;unfold uK co;simp only[h];by_cases q:a=c <;> by_cases e:b=c <;> simp[eqN,eqS,q,e]
theorem qbG{l:List Int}(h1:l.length<=1000)(h2:∀k∈l,0<=k/\k<=100000):Jl (.lst (l.map D.int))=.ok (.int l.sum):=by
 have:l.length<=1000/\(l.all λk=>decide (0<=k/\k<=100000))=true:=⟨h1,aM.mpr λk h=>Ad (h2 k h)⟩
 simp only[Jl,gi,Aa this]
variable{K:List (Str×Str)}
theorem qgs(n:K.length<=100)(c:Str)(a b:Option D):qN [] 1 [3] (qV (qc 1)) (gNm 0) ftT (dM qgQ uK (qc 0) (qc 1)) [a,iO (.lst (qo K)),b,iO (.str c)]=.ok (.lst ((K.map λx=>co x c).map D.int),[a,iO (.lst (qo K)),b,iO (.str c)]):=by have e:=ud (cap:=[3]) (fi:=qV (qc 1)) (ρ:=[a,iO (.lst (qo K)),b,iO (.str c)]) (ρ1:=[a,iO (.lst (qo K)),b,iO (.str c)]) (ds:=qo K) (fe:=dM qgQ uK (qc 0) (qc 1)) (λd=>match d with|.tup [.str x,.str y]=>.int (co (x,y) c)|d=>d) (by simp[jg]) (by unfold qo;rw[ao];exact small (by lia)) (λd hd=>by obtain⟨x,hx,rfl⟩:=aq.mp hd;have h:=qbF x c;have h:uK (.tup [.str x.1,.str x.2]) (.str c)=.ok (.int (co x c)):=h;simp[dM,qgQ,h]);rw[e];congr 2;simp[qo]
theorem qer(K L:List (Str×Str))(c:Str):cn (K++L) c=cn K c+cn L c:=by unfold cn;rw[bY,ia]
theorem qiR(K:List (Str×Str))(c:Str):0<=cn K c:=by
 induction K with
 |nil=>exact iK _
 |cons x K j=>
  have:=qdw x c;show 0<=co x c+cn K c
  lia
theorem qiS:∀{K L:List (Str×Str)},K.Sublist L->∀c,cn K c<=cn L c:=by
 intro K L h
 induction h with
 |slnil=>intro c;exact iK _
 |cons x h j=>
  intro c;have:=qdw x c;have:=j c;show _<=co x c+cn _ c
  lia
 |cons_cons x h j=>
  intro c;have:=j c;show co x c+cn _ c<=co x c+cn _ c
  lia
abbrev Cn:=List Str×List Str
abbrev sE(l:List Str):D:=.lst (l.map D.str)
noncomputable def cE(c:Cn):D:=.tup [sE c.1,sE c.2]
noncomputable def st1(c:Cn)(y:Str):Cn:=if y∈c.1 then(c.1.erase y,c.2)else(c.1,c.2++[y])
def un(x y:Str×Str):Cn:=st1 (st1 ([x.1,x.2],[]) y.1) y.2
abbrev unB:qK:=(sIf (qy (d2 inA (qc 4) (qc 2))) (kn (xx 2 qfH (qc 4))) (kn (xx 3 Kk (qc 4))))
theorem qiT(y:Str)(l:List Str):inA (.str y) (sE l)=.ok (.bl (decide (y∈l))):=by show(inD (.str y) (.lst (l.map D.str))).bind _=_;unfold inD;simp only[vT];rfl
variable{c:Cn}
theorem qbH(h2:c.2.length<=2)(y:Str):unB [a,b,iO (sE c.1),iO (sE c.2),iO (.str y)]=.ok (.nx,[a,b,iO (sE (st1 c y).1),iO (sE (st1 c y).2),iO (.str y)]):=by
 have h:=qiT y c.1;have z:c.2.length<Z8:=aI (by lia) big;unfold st1;by_cases q:y∈c.1
 .rw[Aa q];have hr:qfH (c.1.map D.str) (.str y)=.ok ((c.1.erase y).map D.str):=by unfold qfH;simp only[uc,Aa q]
  simp[unB,h,q,xx,yv,sE,hr]
 .rw[Ab q];have g:Kk (c.2.map D.str) (.str y)=.ok ((c.2++[y]).map D.str):=by unfold Kk;rw[ao,Aa z];simp
  simp[unB,h,q,xx,yv,sE,g]
theorem UA(c:Cn)(y:Str):(st1 c y).1.length<=c.1.length/\(st1 c y).2.length<=c.2.length+1:=by
 unfold st1;split;·exact⟨List.length_erase_le,fO _⟩
 .simp
theorem qiU(x y:Str×Str):(un x y).1.length<=2/\(un x y).2.length<=2:=by
 have h1:=UA ([x.1,x.2],[]) y.1;have h2:=UA (st1 ([x.1,x.2],[]) y.1) y.2;unfold un;simp at h1
 lia
theorem ql1{B:qK}{d1 d2:D}{d k a:Sl}(h1:g d1 d=.ok ρ1)(h2:B ρ1=.ok (.nx,ρ2))(b:g d2 ρ2=.ok k)(h:B k=.ok (.nx,a)):jB g B [d1,d2] d=.ok (.nx,a):=by simp[jB,h1,h2,b,h]
theorem UB(x y:Str×Str):ku [pD x,pD y]=.ok (cE (un x y),[.non,.non]):=by
 refine qr.trans ?_;have h1:=UA ([x.1,x.2],[]) y.1;have e1:=qbH (a:=iO (pD x)) (b:=iO (pD y)) (c:=([x.1,x.2],[])) (by simp) y.1;have i:=qbH (a:=iO (pD x)) (b:=iO (pD y)) (c:=st1 ([x.1,x.2],[]) y.1) (by simp at h1;lia) y.2;have z:2<=Z8:=small (by lia);have h:0<=Z8:=aU _;have D:jB (gNm 4) unB [.str y.1,.str y.2] [iO (pD x),iO (pD y),iO (sE [x.1,x.2]),iO (sE []),iQ]=.ok (.nx,[iO (pD x),iO (pD y),iO (sE (un x y).1),iO (sE (un x y).2),iO (.str y.2)]):=by have e:unB [iO (pD x),iO (pD y),iO (sE [x.1,x.2]),iO (sE []),iO (.str y.1)]=_:=e1;exact ql1 rfl e rfl i
 unfold QB;rw[show qt QA [pD x,pD y]=[iO (pD x),iO (pD y),iQ,iQ,iQ]from rfl];refine(qv (ρ1:=[iO (pD x),iO (pD y),iO (sE [x.1,x.2]),iQ,iQ]) (by simp[qfn,sE,z])).trans ?_;refine(qv (ρ1:=[iO (pD x),iO (pD y),iO (sE [x.1,x.2]),iO (sE []),iQ]) (by simp[sE])).trans ?_;refine(qv (ρ1:=[iO (pD x),iO (pD y),iO (sE (un x y).1),iO (sE (un x y).2),iO (.str y.2)]) (by rw[jV,show qV (qc 1) [iO (pD x),iO (pD y),iO (sE [x.1,x.2]),iO (sE []),iQ]=.ok ([.str y.1,.str y.2],[iO (pD x),iO (pD y),iO (sE [x.1,x.2]),iO (sE []),iQ])from rfl,jJ];exact D)).trans ?_;simp[cE,z]
def CT(l:List (Str×Str)):List Cn:=(aH l.length).flatMap λj=>(l.take j).map λa=>un a (pa l j)
abbrev ctB:qK:=(kn (xx 1 qcD (qN [1] 1 [3] (qV (va (qc 0) iQ (iO (qc 2)))) (gNm 0) ftT (ql [.vl,.vl] ku (qb (qc 0) (qb (qc 1) qu))))))
variable{j:Nat}
theorem qgt(hl:l.length<=10)(b:j<l.length)(f:Option D):qN [1] 1 [3] (qV (va (qc 0) iQ (iO (qc 2)))) (gNm 0) ftT (ql [.vl,.vl] ku (qb (qc 0) (qb (qc 1) qu))) [iO (.lst (qo l)),f,iO (.int j),iO (pD (pa l j))]
  = .ok (.lst (((l.take j).map λa=>un a (pa l j)).map cE),[iO (.lst (qo l)),f,iO (.int j),iO (pD (pa l j))]):=by
 have c:qcW (qo l) iQ (iO (j:Int))=qo (l.take j):=by
  unfold qcW;rw[HT.sIx_none,HT.sIx_nat];have:(qo l).length=l.length:=by simp[qo]
  rw[this,show min j l.length - 0=j by lia];simp[qo]
 have hi:qV (va (qc 0) iQ (iO (qc 2))) [iO (.lst (qo l)),f,iO (.int j),iO (pD (pa l j))]=.ok (qo (l.take j),[iO (.lst (qo l)),f,iO (.int j),iO (pD (pa l j))]):=by simp[qV,va,uC,qh4,c,jg]
 have e:=qa4 (own:=[1]) (cap:=[3]) (fi:=qV (va (qc 0) iQ (iO (qc 2)))) (ρ:=[iO (.lst (qo l)),f,iO (.int j),iO (pD (pa l j))]) (ρ1:=[iO (.lst (qo l)),f,iO (.int j),iO (pD (pa l j))]) (ds:=qo (l.take j)) (fe:=ql [.vl,.vl] ku (qb (qc 0) (qb (qc 1) qu))) (λd=>match d with|.tup [.str x,.str y]=>cE (un (x,y) (pa l j))|d=>d) (by simp) hi (by simp only[qo,ao,bj];exact small (by lia)) (λd hd=>by obtain⟨x,hx,rfl⟩:=aq.mp hd;have h:=UB x (pa l j);have h:ku [.tup [.str x.1,.str x.2],pD (pa l j)]=.ok (cE (un x (pa l j)),[.non,.non]):=h;simp[h]);rw[e];congr 2;unfold qo;rw[bA,bA];rfl
theorem qbI(hl:l.length<=10):∀(s:List Nat)(f:List Cn)(x y:Option D),(∀j∈s,j<l.length)->f.length+10 * s.length<=500 ->∃m p,jB (jM 2 (qw (gNm 2) (qw (gNm 3) jL))) ctB (s.map λ(j:Nat)=>.tup [.int j,pD (pa l j)]) [iO (.lst (qo l)),iO (.lst (f.map cE)),x,y]
   = .ok (.nx,[iO (.lst (qo l)),iO (.lst ((f++s.flatMap λj=>(l.take j).map λa=>un a (pa l j)).map cE)),m,p])
 |[],f,x,y,_,_=>⟨x,y,by simp[jB]⟩
 |j::s,f,x,y,hj,hf=>by
  rw[ah]at hf;have B:=hj j (ai ..);have ht:(l.take j).length<=10:=by rw[bj];lia
  obtain⟨m,p,e⟩:=qbI hl s (f++(l.take j).map λa=>un a (pa l j)) (iO (.int j)) (iO (pD (pa l j))) (λi hi=>hj i (ac _ hi)) (by rw[aj,ao];lia);refine⟨m,p,?_⟩;rw[fR,<-aT,<-e];have d:=qgt hl B (iO (.lst (f.map cE)));have z:(f.map cE).length+(((l.take j).map λa=>un a (pa l j)).map cE).length<=Z8:=by rw[ao,ao,ao];exact small (by lia)
  have hx:qcD (f.map cE) (.lst (((l.take j).map λa=>un a (pa l j)).map cE))=.ok ((f++(l.take j).map λa=>un a (pa l j)).map cE):=by unfold qcD;simp only[Aa z,<-bY]
  generalize ((l.take j).map λa=>un a (pa l j)).map cE=M at d hx;generalize (f++(l.take j).map λa=>un a (pa l j)).map cE=M2 at hx ⊢;generalize f.map cE=M1 at d hx ⊢;generalize D.lst (qo l)=Z at d ⊢;simp[jB,jM,qw,jL,ctB,xx,yv,d,hx]
theorem Wm(hl:l.length<=10):vC [.lst (qo l)]=.ok (.lst ((CT l).map cE),[.non]):=by refine qr.trans ?_;obtain⟨m,p,e⟩:=qbI hl (aH l.length) [] iQ iQ (λj D=>aN.mp D) (by simp;lia);rw[<-qdv]at e;have e:jB (jM 2 (qw (gNm 2) (qw (gNm 3) jL))) ctB (zf (qo l)) [iO (.lst (qo l)),iO (.lst []),iQ,iQ]=.ok (.nx,[iO (.lst (qo l)),iO (.lst ((CT l).map cE)),m,p]):=e;have h:0<=Z8:=aU _;generalize (CT l).map cE=M at e ⊢;simp[uP,qt,Vn,e]
theorem qiV(l:List (Str×Str))(hl:l.length<=10):(CT l).length<=100:=by
 unfold CT;have:∀s:List Nat,(s.flatMap λj=>(l.take j).map λa=>un a (pa l j)).length<=10 * s.length:=λs=>by
  induction s with
  |nil=>simp
  |cons j s i=>
   rw[fR,aj,ao,bj,ah]
   lia
 have:=this (aH l.length);rw[bo]at this
 lia
theorem qiW(h:c∈CT l):c.1.length<=2/\c.2.length<=2:=by obtain⟨j,_,h⟩:=fj.mp h;obtain⟨a,_,rfl⟩:=aq.mp h;exact qiU a _
abbrev Fx:=List (Key×D)
def qdx(k:Fx):Prop:=∀kv∈k,∃v:Int,kv.2=.int v/\0<=v/\v<=1000
noncomputable def vl(k:Fx)(x:Str):Int:=match k.find? λkv=>decide (kv.1=br x)with
 |some (_,.int v)=>v
 |_=>0
theorem qiX{k:Fx}(a:qdx k)(h:kj k (.inr x)=iT):ixD (.dct k) (.str x)=.ok (.int (vl k x))/\0<=vl k x/\vl k x<=1000:=by
 unfold kj at h;cases q:k.find? λkv=>decide (kv.1=br x)with
 |none=>rw[bK]at q;obtain⟨p,hp,h⟩:=f9.mp h;exact absurd h (q p hp)
 |some kv=>
  obtain⟨v,e,h1,h2⟩:=a kv (bS q);obtain⟨k0,d⟩:=kv;have e:d=.int v:=e;subst e;have i:vl k x=v:=by unfold vl;simp only[q]
  rw[i];exact⟨by unfold ixD;simp only[q],h1,h2⟩
theorem qiY{Cs:List α}{cap:List Nat}{fi:vY}{fe:qU}(A B:α->D)(h:fi ρ=.ok (Cs.map A,ρ))(hl:Cs.length<=Z8)(ht:∀c∈Cs,fe (iO (A c)::cap.map λk=>(ρ[k]?).getD iQ)=.ok (B c,iO (A c)::cap.map λk=>(ρ[k]?).getD iQ)):qN [] 1 cap fi (gNm 0) ftT fe ρ=.ok (.lst (Cs.map B),ρ):=by
 have key:∀(l:List α)(x:Option D),(∀c∈l,c∈Cs)->∃m,jR (gNm 0) ftT fe (l.map A) (x::cap.map λk=>(ρ[k]?).getD iQ)=.ok (l.map B,m::cap.map λk=>(ρ[k]?).getD iQ):=by
  intro l
  induction l with
  |nil=>intro x _;exact⟨x,rfl⟩
  |cons c l j=>intro x a;obtain⟨m,e⟩:=j (iO (A c)) λd hd=>a d (ac _ hd);have h1:=ht c (a c (ai ..));exact⟨m,by simp[jR,zL,h1,e]⟩
 obtain⟨m,e⟩:=key Cs iQ λ_ h=>h;unfold qN;rw[h];simp only[jJ];rw[Aa (by rw[ao];exact hl),show kK 1 cap ρ=iQ::cap.map λk=>(ρ[k]?).getD iQ from rfl,e];simp only[jJ];rw[uz (own:=[]) _ cap 1 ρ λ_ _=>aW]
def md(r:Int)(k:Fx)(c:Cn):Bool:=if ((c.1++c.2).all λx=>kj k (.inr x))=iT then decide (¬((c.1.map (vl k)).sum - (c.2.map (vl k)).sum) % r=0)else iT
theorem Xm{k:Fx}(a:qdx k)(j:Nat){l:List Str}(hl:l.length<=2)(g:∀x∈l,kj k (.inr x)=iT)(h1:ρ[j]?=iO (iO (sE l)))(h2:ρ[2]?=iO (iO (.dct k))):d1 Jl (qN [] 1 [2] (qV (qc j)) (gNm 0) ftT (d2 ixD (qc 1) (qc 0))) ρ=.ok (.int (l.map (vl k)).sum,ρ):=by
 have e:=ud (cap:=[2]) (fi:=qV (qc j)) (ρ:=ρ) (ρ1:=ρ) (ds:=l.map D.str) (fe:=d2 ixD (qc 1) (qc 0)) (λd=>match d with|.str x=>.int (vl k x)|d=>d) (by simp[h1,jg]) (by rw[ao];exact small (by omega)) (λd hd=>by obtain⟨x,hx,rfl⟩:=aq.mp hd;have h:=(qiX a (g x hx)).1;simp[h2,h]);have b:(l.map D.str).map (λd=>match d with|.str x=>.int (vl k x)|d=>d)=(l.map (vl k)).map D.int:=by rw[bA,bA];rfl
 rw[b]at e;have hs:=qbG (l:=l.map (vl k)) (by rw[ao];omega) λi hi=>by obtain⟨x,hx,rfl⟩:=aq.mp hi;have:=(qiX a (g x hx)).2;omega
 rw[xi,e];simp only[jJ];rw[hs];rfl
theorem qiZ(h1:c.1.length<=2)(h2:c.2.length<=2)(hr:0<r){k:Fx}(a:qdx k):kE [cE c,.int r,.dct k]=.ok (.bl (md r k c),[.non,.non,.non]):=by
 refine qr.trans ?_;have b:(c.1.map D.str).length+(c.2.map D.str).length<=Z8:=by rw[ao,ao];exact small (by lia)
 have hi:qV (d2 ki (qc 3) (qc 4)) [iO (cE c),iO (.int r),iO (.dct k),iO (sE c.1),iO (sE c.2)]=.ok ((c.1++c.2).map D.str,[iO (cE c),iO (.int r),iO (.dct k),iO (sE c.1),iO (sE c.2)]):=by
  have:ki (sE c.1) (sE c.2)=.ok (.lst ((c.1++c.2).map D.str)):=by unfold ki;simp only[Aa b,bY]
  generalize sE c.1=U at this ⊢;generalize sE c.2=V at this ⊢;simp[this,jg]
 have e:=ud (cap:=[2]) (fi:=qV (d2 ki (qc 3) (qc 4))) (ρ:=[iO (cE c),iO (.int r),iO (.dct k),iO (sE c.1),iO (sE c.2)]) (ρ1:=[iO (cE c),iO (.int r),iO (.dct k),iO (sE c.1),iO (sE c.2)]) (ds:=(c.1++c.2).map D.str) (fe:=d2 inA (qc 0) (qc 1)) (λd=>match d with|.str x=>.bl (kj k (.inr x))|d=>d) hi (by rw[ao,aj];exact small (by lia)) (λd hd=>by obtain⟨x,hx,rfl⟩:=aq.mp hd;simp[inA,zw]);have i:((c.1++c.2).map D.str).map (λd=>match d with|.str x=>.bl (kj k (.inr x))|d=>d)=(c.1++c.2).map λx=>D.bl (kj k (.inr x)):=by rw[bA];rfl
 rw[i]at e;have g:=yV (λx=>kj k (.inr x)) (c.1++c.2);have hA:d1 XO (qN [] 1 [2] (qV (d2 ki (qc 3) (qc 4))) (gNm 0) ftT (d2 inA (qc 0) (qc 1))) [iO (cE c),iO (.int r),iO (.dct k),iO (sE c.1),iO (sE c.2)]=.ok (.bl ((c.1++c.2).all λx=>kj k (.inr x)),[iO (cE c),iO (.int r),iO (.dct k),iO (sE c.1),iO (sE c.2)]):=by rw[xi,e];simp only[jJ];rw[g];rfl
 unfold xU md;rw[show qt xT [cE c,.int r,.dct k]=[iO (cE c),iO (.int r),iO (.dct k),iQ,iQ]from rfl];refine(qv (ρ1:=[iO (cE c),iO (.int r),iO (.dct k),iO (sE c.1),iQ]) (by simp[cE,ixD,at0])).trans ?_;refine(qv (ρ1:=[iO (cE c),iO (.int r),iO (.dct k),iO (sE c.1),iO (sE c.2)]) (by simp[cE,ixD,at1])).trans ?_;cases q:(c.1++c.2).all λx=>kj k (.inr x)with
 |false=>rw[q]at hA;simp[-xi,hA]
 |true=>rw[q]at hA;have h:=aM.mp q;have s1:=Xm a 3 h1 (λx hx=>h x (af.mpr (.inl hx))) (ρ:=[iO (cE c),iO (.int r),iO (.dct k),iO (sE c.1),iO (sE c.2)]) rfl rfl;have s2:=Xm a 4 h2 (λx hx=>h x (af.mpr (.inr hx))) (ρ:=[iO (cE c),iO (.int r),iO (.dct k),iO (sE c.1),iO (sE c.2)]) rfl rfl;refine(qv (ρ1:=[iO (cE c),iO (.int r),iO (.dct k),iO (sE c.1),iO (sE c.2)]) (by simp[-xi,hA])).trans ?_;by_cases f:((c.1.map (vl k)).sum - (c.2.map (vl k)).sum) % r=0 <;> simp[-xi,s1,s2,zc,zp,hr,neD,eqN,eqS,f]
theorem qgu{k:Fx}(hl:k.length<=100)(x:Str)(v:Int):vp [.dct k,.str x,.int v]=.ok (.dct (vN k (.inr x) (.int v)),[.non,.non,.non]):=by refine qr.trans ?_;have z:k.length<Z8:=aI (by lia) big;simp[xW,qt,Vp,vg,zw,z]
theorem qbJ(k:Fx)(x:Key)(d:D):(vN k x d).length<=k.length+1:=by unfold vN;split <;> simp
theorem qaq{k:Fx}(b:qdx k)(x:Key){v:Int}(c:0<=v)(h1:v<=1000):qdx (vN k x (.int v)):=by
 unfold vN;intro kv a;split at a
 .obtain⟨p,hp,rfl⟩:=aq.mp a;split;·exact⟨v,rfl,c,h1⟩
  .exact b p hp
 .rcases af.mp a with h|h;·exact b kv h
  .rw[aw.mp h];exact⟨v,rfl,c,h1⟩
abbrev cfB(gr:jK):qK:=(sIf (vU (ql [.vl,.vl,.vl,.vl] gr (qb (qc 0) (qb (qc 1) (qb (ql [.vl,.vl,.vl] vp (qb (qc 2) (qb (d2 ixD (qc 3) (dC (.int 0))) (qb (qc 5) qu)))) (qb (va (qc 3) (iO (dC (.int 1))) iQ) qu)))))) (jm (dC (.bl iT))) qM)
theorem qi0(x:Str)(ls:List Str):ixD (sE (x::ls)) (.int 0)=.ok (.str x)/\qh4 (iO 1) iQ (sE (x::ls))=.ok (sE ls):=by
 refine⟨by simp[ixD,at0],?_⟩;have:qcW ((x::ls).map D.str) (iO 1) iQ=ls.map D.str:=by unfold qcW;rw[HT.sIx_none,show(iO (1:Int))=iO ((1:Nat):Int)from rfl,HT.sIx_nat];simp;exact eW (by simp)
 show Out.ok (D.lst (qcW ((x::ls).map D.str) (iO 1) iQ))=_;rw[this]
variable{Cs:List Cn}
theorem qgv(hC:∀c∈Cs,c.1.length<=2/\c.2.length<=2)(hn:Cs.length<=100)(hr:0<r){k:Fx}(f:qdx k)(a b c:Option D):d1 XO (qN [] 1 [1,2] (qV (qc 0)) (gNm 0) ftT (ql [.vl,.vl,.vl] kE (qb (qc 0) (qb (qc 1) (qb (qc 2) qu))))) [iO (.lst (Cs.map cE)),iO (.int r),iO (.dct k),a,b,c]=.ok (.bl (Cs.all (md r k)),[iO (.lst (Cs.map cE)),iO (.int r),iO (.dct k),a,b,c]):=by
 have e:=qiY (Cs:=Cs) (ρ:=[iO (.lst (Cs.map cE)),iO (.int r),iO (.dct k),a,b,c]) (cap:=[1,2]) (fi:=qV (qc 0)) (fe:=ql [.vl,.vl,.vl] kE (qb (qc 0) (qb (qc 1) (qb (qc 2) qu)))) cE (λc=>.bl (md r k c)) (by simp[jg]) (small (by lia)) λc d=>by have h:=qiZ (hC c d).1 (hC c d).2 hr f;generalize cE c=Z at h ⊢;simp[h]
 rw[xi,e];simp only[jJ];rw[yV];rfl
theorem qes(l:List (Str×Str)):(LS l).length<=2 * l.length:=by
 unfold LS;rw[(jv _).length_eq];have:=KY (l.map (·.1)++l.map (·.2)) [];simp only[aj,ao,bn]at this
 lia
noncomputable def nu(v:Str->Int)(p:Str×Str):Int:=v p.1+v p.2
def Ds(r:Int)(v:Str->Int)(K:List (Str×Str)):Prop:=K.Pairwise λp q=>¬r ∣ nu v p - nu v q
def Ext(k:Fx)(v:Str->Int):Prop:=∀x,kj k (.inr x)=iT->v x=vl k x
def OKs(r:Int)(k:Fx)(K:List (Str×Str)):Prop:=∃v,Ext k v/\Ds r v K
theorem qbK{a b:Int}(h:¬r ∣ a - b):¬r ∣ b - a:=λz=>h (by have:=fU.mpr z;rwa [Int.neg_sub]at this)
theorem qi1{A C:List (Str×Str)}{x:Str×Str}:Ds r v (A++x::C)↔(∀p∈A++C,¬r ∣ nu v x - nu v p)/\Ds r v (A++C):=by unfold Ds;rw[List.pairwise_middle λh=>qbK h,bB]
theorem qet{α:Type}[DecidableEq α]:∀{a b:List α},a.Nodup->(∀x∈a,x∈b)->a.length<=b.length
 |[],_,_,_=>aU _
 |x::a,b,hn,h=>by
  obtain⟨h1,h2⟩:=aP.mp hn;have hx:=h x (ai ..);have j:=qet (b:=b.erase x) h2 λy D=>(fA λ(z:y=x)=>h1 (z ▸ D)).mpr (h y (ac _ D));rw[c9 hx]at j;have:=cL hx;rw[ah]
  lia
theorem qdy(hr:1<=r)(bad:List Int)(h:(bad.length:Int)<r):∃t:Int,0<=t/\t<r/\t∉bad:=by
 refine bG λz=>?_;have c:∀t∈(aH r.toNat).map λ(j:Nat)=>(j:Int),t∈bad:=λt ht=>by obtain⟨j,D,rfl⟩:=aq.mp ht;have:=aN.mp D;exact bG λq=>z ⟨j,by lia,by lia,q⟩
 have d:((aH r.toNat).map λ(j:Nat)=>(j:Int)).Nodup:=ck.mpr (fh.imp λ{a b} H e=>H (by lia));have:=qet d c;rw[ao,bo]at this
 lia
def loK(k:Fx)(K:List (Str×Str))(x:Str×Str):Bool:=(!kj k (.inr x.1)&&decide (cn K x.1=1))||(!kj k (.inr x.2)&&decide (cn K x.2=1))
theorem qeu(A C:List (Str×Str))(x:Str×Str)(c:Str):cn (A++x::C) c=co x c+cn (A++C) c:=by
 rw[qer,qer];show cn A c+(co x c+cn C c)=_
 lia
theorem qgw{c:Str}(h:cn K c=0):∀p∈K,p.1≠c/\p.2≠c:=λp hp=>by
 obtain⟨A,C,rfl⟩:=List.append_of_mem hp;rw[qeu]at h;have h1:=qiR (A++C) c;have h2:=qdw p c;have g:co p c=0:=by lia
 unfold co at g;refine⟨λz=>?_,λz=>?_⟩;·rw[Aa z]at g;split at g <;> lia
 .rw[Aa z]at g;split at g <;> lia
variable{K0:List (Str×Str)}
theorem qi2(hr:1<=r){k:Fx}{A C:List (Str×Str)}{x:Str×Str}(hs:(A++x::C).Sublist K0)(hl:loK k K0 x=iT)(hn:((A++x::C).length:Int)<=r)(h:OKs r k (A++C)):OKs r k (A++x::C):=by
 obtain⟨v,s,hd⟩:=h;have key:∀c d:Str,(∀w:Str->Int,nu w x=w c+w d)->(c=x.1\/c=x.2)->kj k (.inr c)=iS->cn K0 c=1->OKs r k (A++x::C):=λc d f G B h1=>by
  have S:=qiS hs c;rw[qeu]at S;have u:=qiR (A++C) c;have E:1<=co x c:=by
   unfold co;rcases G with rfl|rfl
   .rw[Aa rfl];split <;> lia
   .rw[Aa (rfl:x.2=x.2)];split <;> lia
  have H:cn (A++C) c=0:=by lia
  have j:=qgw H;have m:d≠c:=λz=>by
   have e:=f λy=>if y=c then 1 else 0
   subst z;unfold nu at e;have:co x d=2:=by unfold co;simpa using e
   lia
  obtain⟨t,o,t1,ht⟩:=qdy hr ((A++C).map λp=>(nu v p - v d) % r) (by
   rw[ao];rw[aj,ah]at hn;rw[aj]
   lia)
  refine⟨λy=>if y=c then t else v y,λy D=>?_,qi1.mpr ⟨λp hp=>?_,?_⟩⟩
  .have:y≠c:=λz=>by rw[z,B]at D;cases D
   show(if y=c then t else v y)=_;rw[Ab this];exact s y D
  .have e1:nu (λy=>if y=c then t else v y) x=t+v d:=by rw[f];simp[m]
   have n:nu (λy=>if y=c then t else v y) p=nu v p:=by obtain⟨i,g⟩:=j p hp;simp[nu,i,g]
   rw[e1,n];intro z;refine ht (aq.mpr ⟨p,hp,?_⟩);have:r ∣ (nu v p - v d) - t:=by have:=fU.mpr z;rw[show -(t+v d - nu v p)=nu v p - v d - t by lia]at this;exact this
   have I:(nu v p - v d) % r=t % r:=Int.emod_eq_emod_iff_emod_sub_eq_zero.mpr (Int.emod_eq_zero_of_dvd this);exact I.trans (dH o t1)
  .refine hd.imp_of_mem λ{p q} hp hq l=>?_;obtain⟨p1,p2⟩:=j p hp;obtain⟨i,g⟩:=j q hq;have e1:nu (λy=>if y=c then t else v y) p=nu v p:=by simp[nu,p1,p2]
   have n:nu (λy=>if y=c then t else v y) q=nu v q:=by simp[nu,i,g]
   rw[e1,n];exact l
 unfold loK at hl;rw[h8,aQ,aQ]at hl;rcases hl with⟨a,b⟩|⟨a,b⟩
 .exact key x.1 x.2 (λw=>rfl) (.inl rfl) (by simpa using a) (Ae b)
 .exact key x.2 x.1 (λw=>fF _ _) (.inr rfl) (by simpa using a) (Ae b)
def peK(k:Fx)(K:List (Str×Str)):List (Str×Str):=K.filter λx=>!loK k K x
theorem qgx(hr:1<=r){k:Fx}(hn:(K0.length:Int)<=r):∀(M A:List (Str×Str)),(A++M).Sublist K0->OKs r k (A++M.filter λx=>!loK k K0 x)->OKs r k (A++M)
 |[],A,_,h=>h
 | x::M,A,hs,h=>by
  have n:((A++x::M).length:Int)<=r:=by
   have:=hs.length_le
   lia
  cases q:loK k K0 x with
  |false=>rw[List.filter_cons_of_pos (by simp[q])]at h;have:=qgx hr hn M (A++[x]) (by simpa using hs) (by simpa using h);simpa using this
  |true=>rw[List.filter_cons_of_neg (by simp[q])]at h;exact qi2 hr hs q n (qgx hr hn M A ((fV A).append (List.sublist_cons_self x M) |>.trans hs) h)
theorem qi3(hr:1<=r){k:Fx}(hn:(K.length:Int)<=r):OKs r k (peK k K)↔OKs r k K:=
 ⟨λh=>qgx hr hn K [] (fV _) h,λ⟨v,a,b⟩=>⟨v,a,List.Pairwise.sublist List.filter_sublist b⟩⟩
noncomputable def sv(v:Str->Int)(l:List Str):Int:=(l.map v).sum
def Dc(v:Str->Int)(c:Cn):Int:=sv v c.1 - sv v c.2
theorem qi4(v:Str->Int)(a b:List Str):sv v (a++b)=sv v a+sv v b:=by unfold sv;rw[bY,ia]
theorem Xn(v:Str->Int):∀{l:List Str}{y:Str},y∈l->sv v (l.erase y)=sv v l - v y
 | x::l,y,h=>by
  by_cases q:x=y
  .subst q;rw[List.erase_cons_head];show _=v x+sv v l - v x
   lia
  .rw[List.erase_cons_tail (by simpa using q)];have j:=Xn v ((ae.mp h).resolve_left λz=>q z.symm);show v x+sv v (l.erase y)=v x+sv v l - v y
   lia
set_option tactic.hygienic true in
theorem qi5(v:Str->Int)(c:Cn)(y:Str):Dc v (st1 c y)=Dc v c - v y:=by
 unfold st1 Dc;split
 .rename_i h;show sv v (c.1.erase y) - sv v c.2=_;rw[Xn v h]
  lia
 .show sv v c.1 - sv v (c.2++[y])=_;rw[qi4,show sv v [y]=v y by simp[sv]]
  lia
theorem qlt(v:Str->Int)(x y:Str×Str):Dc v (un x y)=nu v x - nu v y:=by
 unfold un;rw[qi5,qi5];simp[Dc,sv,nu]
 lia
set_option tactic.hygienic true in
theorem qi6(c:Cn)(y:Str):((st1 c y).1.length:Int) - (st1 c y).2.length=(c.1.length:Int) - c.2.length - 1:=by
 unfold st1;split
 .rename_i h;show((c.1.erase y).length:Int) - c.2.length=_;rw[c9 h];have:=cL h
  lia
 .show(c.1.length:Int) - (c.2++[y]).length=_;rw[aj];simp
  lia
theorem ql2(x y:Str×Str):(un x y).1.length=(un x y).2.length:=by
 have h1:=qi6 ([x.1,x.2],[]) y.1;have h2:=qi6 (st1 ([x.1,x.2],[]) y.1) y.2;unfold un;simp at h1
 lia
variable{P:Str->Prop}
theorem qev(h1:∀z∈c.1++c.2,P z)(h2:P y):∀z∈(st1 c y).1++(st1 c y).2,P z:=by
 unfold st1;split;·exact λz h=>(af.mp h).elim (λq=>h1 z (af.mpr (.inl (List.mem_of_mem_erase q)))) λq=>h1 z (af.mpr (.inr q))
 .intro z h;rcases af.mp h with q|q;·exact h1 z (af.mpr (.inl q))
  .rcases af.mp q with q|q;·exact h1 z (af.mpr (.inr q))
   .rw[aw.mp q];exact h2
theorem qkQ{x y:Str×Str}(h1:P x.1)(h2:P x.2)(g:P y.1)(a:P y.2):∀z∈(un x y).1++(un x y).2,P z:=
 qev (qev (λz h=>by
  simp at h;rcases h with rfl|rfl;·exact h1
  .exact h2) g) a
theorem Xo:c∈CT l↔∃i j,∃(hi:i<l.length)(D:j<l.length),i<j/\c=un l[i] l[j]:=by
 unfold CT;rw[fj];constructor
 .rintro⟨j,D,h⟩;have D:=aN.mp D;obtain⟨a,g,rfl⟩:=aq.mp h;obtain⟨i,hi,rfl⟩:=List.mem_take_iff_getElem.mp g;refine⟨i,j,by lia,D,by lia,?_⟩;have:pa l j=l[j]:=by unfold pa;rw[ay D];rfl
  rw[this]
 .rintro⟨i,j,hi,D,y,rfl⟩;refine⟨j,aN.mpr D,aq.mpr ⟨l[i],List.mem_take_iff_getElem.mpr ⟨i,by lia,rfl⟩,?_⟩⟩;have:pa l j=l[j]:=by unfold pa;rw[ay D];rfl
  rw[this]
theorem qi7:Ds r v l↔∀c∈CT l,¬r ∣ Dc v c:=by
 unfold Ds;rw[cw];constructor;·intro h c d;obtain⟨i,j,hi,D,y,rfl⟩:=Xo.mp d;rw[qlt];exact h i j hi D y
 .intro h i j hi D y;have:=h _ (Xo.mpr ⟨i,j,hi,D,y,rfl⟩);rw[qlt]at this;exact this
theorem qkR(h:c∈CT l):∀z∈c.1++c.2,z∈LS l:=by obtain⟨i,j,hi,D,_,rfl⟩:=Xo.mp h;have m1:=bE hi;have B:=bE D;exact qkQ (uf.mpr ⟨_,m1,.inl rfl⟩) (uf.mpr ⟨_,m1,.inr rfl⟩) (uf.mpr ⟨_,B,.inl rfl⟩) (uf.mpr ⟨_,B,.inr rfl⟩)
theorem ql3(h:c∈CT l):c.1.length=c.2.length:=by obtain⟨i,j,hi,D,_,rfl⟩:=Xo.mp h;exact ql2 _ _
theorem gQ{k:Fx}(h:kj k (.inr x)=iS)(d:D):vN k (.inr x) d=k++[(.inr x,d)]:=by unfold vN;unfold kj at h;rw[h];rfl
theorem uk{k:Fx}(h:kj k (.inr x)=iS)(d:D)(y:Str):kj (vN k (.inr x) d) (.inr y)=(kj k (.inr y)||decide (x=y)):=by rw[gQ h];unfold kj;rw[List.any_append];simp
theorem Wn{k:Fx}(h:kj k (.inr x)=iS)(w:Int):vl (vN k (.inr x) (.int w)) x=w/\∀y,y≠x->vl (vN k (.inr x) (.int w)) y=vl k y:=by
 rw[gQ h];unfold vl;refine⟨?_,λy a=>?_⟩
 .have:(k.find? λkv=>decide (kv.1=br x))=none:=by rw[bK];intro p hp z;unfold kj at h;rw[List.any_eq_false]at h;exact h p hp z
  rw[eZ,this];simp
 .rw[eZ];have:([(br x,D.int w)]:Fx).find? (λkv=>decide (kv.1=br y))=none:=by rw[bK];intro p hp z;rw[aw.mp hp]at z;have:=Ae z;exact a (br.inj this).symm
  rw[this,Option.or_none]
theorem qi8{w:Str->Int}{l:List Str}(h:∀x∈l,v x=w x):sv v l=sv w l:=by unfold sv;rw[dZ h]
theorem qi9{w:Str->Int}(h:∀x∈c.1++c.2,v x=w x):Dc v c=Dc w c:=by unfold Dc;rw[qi8 λx hx=>h x (af.mpr (.inl hx)),qi8 λx hx=>h x (af.mpr (.inr hx))]
theorem qgy{w:Str->Int}(h:∀x,r ∣ v x - w x):∀l:List Str,r ∣ sv v l - sv w l
 |[]=>by simp[sv]
 |x::l=>by have j:=qgy h l;show r ∣ (v x+sv v l) - (w x+sv w l);rw[show(v x+sv v l) - (w x+sv w l)=(v x - w x)+(sv v l - sv w l) by lia];exact dQ (h x) j
theorem qkS{w:Str->Int}(h:∀x,r ∣ v x - w x)(d:¬r ∣ Dc v c):¬r ∣ Dc w c:=λz=>d (by
 have h1:=qgy h c.1;have h2:=qgy h c.2;have:Dc v c=(sv v c.1 - sv w c.1) - (sv v c.2 - sv w c.2)+Dc w c:=by unfold Dc;lia
 rw[this];exact dQ (cZ h1 h2) z)
theorem Xp{k:Fx}:md r k c=iT↔((∀y∈c.1++c.2,kj k (.inr y)=iT)->¬r ∣ Dc (vl k) c):=by
 unfold md;cases q:(c.1++c.2).all λx=>kj k (.inr x)with
 |false=>
  have:¬∀y∈c.1++c.2,kj k (.inr y)=true:=λz=>by rw[aM.mpr z]at q;cases q
  exact⟨λ_ z=>absurd z this,λ_=>rfl⟩
 |true=>rw[Aa rfl,decide_eq_true_eq];have l:=aM.mp q;exact⟨λh _ z=>h (Int.emod_eq_zero_of_dvd z),λh z=>h l (Int.dvd_of_emod_eq_zero z)⟩
noncomputable def chs(r:Int)(k:Fx):List Int:=if k=[]then[0]else(aH r.toNat).map λ(j:Nat)=>(j:Int)
def cf(r:Int)(Cs:List Cn):Nat->List Str->Fx->Bool
 | 0,_,_=>iS
 |n+1,ls,k=>Cs.all (md r k)&&(match ls with
  |[]=>iT
  |x::ls=>(chs r k).any λw=>cf r Cs n ls (vN k (.inr x) (.int w)))
def qja(r:Int)(Cs:List Cn)(v:Str->Int):Prop:=∀c∈Cs,¬r ∣ Dc v c
theorem qbL{r:Int}(hr:1<=r){Cs:List Cn}:∀(n:Nat)(ls:List Str)(k:Fx),ls.length<n->k≠[]->ls.Nodup->(∀y∈ls,kj k (.inr y)=iS)->(∀c∈Cs,∀y∈c.1++c.2,kj k (.inr y)=iT\/y∈ls)->(cf r Cs n ls k=iT↔∃v,Ext k v/\qja r Cs v)
 | 0,ls,k,h,_,_,_,_=>absurd h (cU _)
 | n+1,ls,k,h,hk,hnd,hno,hin=>by
  have e:∀v,Ext k v->qja r Cs v->Cs.all (md r k)=true:=λv a hg=>aM.mpr λc d=>Xp.mpr λl=>by rw[<-qi9 λy D=>a y (l y D)];exact hg c d
  cases ls with
  |nil=>show(Cs.all (md r k)&&iT)=iT↔_;rw[Bool.and_true];refine⟨λh=>⟨vl k,λ_ _=>rfl,λc d=>Xp.mp (aM.mp h c d) λy D=>(hin c d y D).resolve_right λz=>by cases z⟩,λ⟨v,a,hg⟩=>e v a hg⟩
  | cons x ls=>
   have hx:=hno x (ai ..);obtain⟨g,b⟩:=aP.mp hnd;have j:=λw=>qbL hr (Cs:=Cs) n ls (vN k (.inr x) (.int w)) (by rw[ah]at h;lia) (by rw[gQ hx];simp) b (λy D=>by
    rw[uk hx,hno y (ac _ D)];simp;exact λz=>g (z ▸ D)) λc d y D=>by
    rw[uk hx];rcases hin c d y D with q|q;·exact .inl (by rw[q];rfl)
    .rcases ae.mp q with q|q;·exact .inl (by simp[q])
     .exact .inr q
   show(Cs.all (md r k)&&(chs r k).any λw=>cf r Cs n ls (vN k (.inr x) (.int w)))=iT↔_;rw[aQ,f9];constructor
   .rintro⟨_,w,_,i⟩;obtain⟨v,a,hg⟩:=(j w).mp i;refine⟨v,λy D=>?_,hg⟩;have f:y≠x:=λz=>by rw[z,hx]at D;cases D
    rw[a y (by rw[uk hx,D];rfl),(Wn hx w).2 y f]
   .rintro⟨v,a,hg⟩;refine⟨e v a hg,v x % r,?_,(j _).mpr ⟨λy=>if y=x then v x % r else v y,λy D=>?_,λc d=>qkS (λy=>?_) (hg c d)⟩⟩;·unfold chs;rw[Ab hk];have h1:=cW (v x) (show r≠0 by lia);have h2:=cM (v x) (show 0<r by lia);exact aq.mpr ⟨(v x % r).toNat,aN.mpr (by lia),by lia⟩
    .show(if y=x then v x % r else v y)=_;by_cases q:y=x;·rw[Aa q,q,(Wn hx _).1]
     .rw[Ab q,(Wn hx _).2 y q];rw[uk hx]at D;refine a y ?_;simpa[show ¬x=y from λz=>q z.symm]using D
    .show r ∣ v y - (if y=x then v x % r else v y);by_cases q:y=x;·rw[Aa q,q];exact Int.dvd_self_sub_of_emod_eq rfl
     .rw[Ab q,iE];exact Int.dvd_zero r
theorem Kc(v:Str->Int)(t:Int):∀l:List Str,sv (λy=>v y - t) l=sv v l - t * l.length
 |[]=>by simp[sv]
 |x::l=>by
  have j:=Kc v t l;show(v x - t)+sv (λy=>v y - t) l=(v x+sv v l) - t * ((l.length+1:Nat):Int);rw[j,Int.natCast_add,iL];simp
  lia
theorem qdz(v:Str->Int)(t:Int)(h:c.1.length=c.2.length):Dc (λy=>v y - t) c=Dc v c:=by
 unfold Dc;rw[Kc,Kc,h]
 lia
theorem qgz(hr:1<=r)(hn:∀c∈Cs,c.1.length=c.2.length)(n:Nat)(ls:List Str)(h:ls.length<n)(f:ls.Nodup)(j:∀c∈Cs,∀y∈c.1++c.2,y∈ls):cf r Cs n ls []=iT↔∃v,qja r Cs v:=by
 obtain⟨n,rfl⟩:∃m,n=m+1:=⟨n - 1,by lia⟩
 have a:∀y:Str,kj [] (.inr y)=false:=λy=>rfl;have e:∀v,qja r Cs v->Cs.all (md r [])=true:=λv hg=>aM.mpr λc d=>Xp.mpr λl=>by rw[qi9 (w:=v) λy D=>absurd (l y D) (by rw[a];simp)];exact hg c d
 cases ls with
 |nil=>show(Cs.all (md r [])&&iT)=iT↔_;rw[Bool.and_true];exact⟨λh=>⟨vl [],λc d=>Xp.mp (aM.mp h c d) λy D=>by cases j c d y D⟩,λ⟨v,hg⟩=>e v hg⟩
 | cons x ls=>
  obtain⟨g,b⟩:=aP.mp f;have i:=qbL hr (Cs:=Cs) n ls (vN [] (.inr x) (.int 0)) (by rw[ah]at h;lia) (by rw[gQ (a x)];simp) b (λy D=>by
   rw[uk (a x),a];simp;exact λz=>g (z ▸ D)) λc d y D=>by
   rw[uk (a x),a];rcases ae.mp (j c d y D)with q|q;·exact .inl (by simp[q])
   .exact .inr q
  show(Cs.all (md r [])&&(chs r []).any λw=>cf r Cs n ls (vN [] (.inr x) (.int w)))=iT↔_;rw[show chs r []=[0]from Aa rfl,aQ];simp only[b9,List.any_nil,ip];rw[i];constructor;·rintro⟨_,v,_,hg⟩;exact⟨v,hg⟩
  .rintro⟨v,hg⟩;refine⟨e v hg,λy=>v y - v x,λy D=>?_,λc d=>?_⟩
   .rw[uk (a x),a]at D;have:x=y:=by simpa using D
    subst this;rw[(Wn (a x) 0).1];show v x - v x=0
    lia
   .rw[qdz v (v x) (hn c d)];exact hg c d
theorem qdA(n:K.length<=100)(c:Str)(a:Option D)(b:D):d1 Jl (qN [] 1 [3] (qV (qc 1)) (gNm 0) ftT (dM qgQ uK (qc 0) (qc 1))) [a,iO (.lst (qo K)),iO b,iO (.str c)]=.ok (.int (cn K c),[a,iO (.lst (qo K)),iO b,iO (.str c)]):=by
 have hs:Jl (.lst ((K.map λx=>co x c).map D.int))=.ok (.int (cn K c)):=qbG (by rw[ao];lia) λk h=>by
  obtain⟨y,_,rfl⟩:=aq.mp h;have:=qdw y c
  lia
 rw[xi,qgs n c a (iO b)];simp only[jJ];rw[hs];rfl
theorem qgA(n:K.length<=100)(k:Fx)(x:Str×Str):jZ [pD x,.lst (qo K),.dct k]=.ok (.bl (loK k K x),[.non,.non,.non]):=by refine qr.trans ?_;have h:=λc=>qdA n c (iO (pD x)) (.dct k);have hn:∀c:Str,vf (.str c) (.dct k)=.ok (.bl (!kj k (.inr c))):=λc=>rfl;generalize D.lst (qo K)=Z at h ⊢;generalize D.dct k=Y at h hn ⊢;obtain⟨a,b⟩:=x;unfold loK;cases d:kj k (.inr a) <;> cases e:kj k (.inr b) <;> by_cases q:cn K a=1 <;> by_cases g:cn K b=1 <;> simp[Qy,qt,jg,jB,hn,d,e,-xi,h,eqD,eqN,eqS,q,g]
theorem Xq(n:K.length<=100)(k:Fx)(a b:Option D):qN [] 1 [2,1] (qV (qc 2)) (gNm 0) (xu (vU (ql [.vl,.vl,.vl] jZ (qb (qc 0) (qb (qc 1) (qb (qc 2) qu)))))) (qc 0) [a,iO (.dct k),iO (.lst (qo K)),b]=.ok (.lst (qo (peK k K)),[a,iO (.dct k),iO (.lst (qo K)),b]):=by have e:=qa3 (own:=[]) (cap:=[2,1]) (fi:=qV (qc 2)) (ρ:=[a,iO (.dct k),iO (.lst (qo K)),b]) (ρ1:=[a,iO (.dct k),iO (.lst (qo K)),b]) (ds:=qo K) (ft:=xu (vU (ql [.vl,.vl,.vl] jZ (qb (qc 0) (qb (qc 1) (qb (qc 2) qu)))))) (fe:=qc 0) (λd=>match d with|.tup [.str x,.str y]=>!loK k K (x,y)|d=>iS) (λd=>d) (by simp) (by simp[jg]) (by unfold qo;rw[ao];exact small (by lia)) (λd hd=>by obtain⟨x,hx,rfl⟩:=aq.mp hd;have h:=qgA n k x;have h:jZ [.tup [.str x.1,.str x.2],.lst (qo K),.dct k]=.ok (.bl (loK k K x),[.non,.non,.non]):=h;simp[h]) (λd hd _=>rfl);rw[e];congr 2;unfold peK;rw[List.map_id'];unfold qo;rw[List.filter_map];rfl
theorem Wo{r:Int}(hr:1<=r)(k:Fx){a:Option D}:∀(n:Nat)(K:List (Str×Str)),K.length<n->K.length<=100->(K.length:Int)<=r->∃B R,(OKs r k B↔OKs r k K)/\B.Sublist K /\
  jf (qy (d2 ltD (d1 ko (qc 3)) (d1 ko (qc 2))))
   (qH (qX 2 (qc 3))
   (qH (qX 3 (qN [] 1 [2,1] (qV (qc 2)) (gNm 0) (xu (vU (ql [.vl,.vl,.vl] jZ (qb (qc 0) (qb (qc 1) (qb (qc 2) qu)))))) (qc 0))) qM)) n [a,iO (.dct k),iO (.lst (qo K)),iO (.lst (qo (peK k K)))]=.ok (.nx,[a,iO (.dct k),iO (.lst (qo B)),iO (.lst R)])
 | 0,K,h,_,_=>absurd h (cU _)
 |n+1,K,h,hK,hKr=>by
  have h1:ko (.lst (qo K))=.ok (.int K.length):=by simp[qo]
  have h2:ko (.lst (qo (peK k K)))=.ok (.int (peK k K).length):=by simp[qo]
  have S:(peK k K).length<=K.length:=cx _ _;by_cases q:(peK k K).length<K.length;·obtain⟨B,R,n1,n2,e⟩:=Wo hr k (a:=a) n (peK k K) (by lia) (by lia) (by lia);refine⟨B,R,n1.trans (qi3 hr hKr),n2.trans List.filter_sublist,?_⟩;have d:=Xq (K:=peK k K) (by lia) k a (iO (.lst (qo (peK k K))));rw[<-e];generalize D.lst (qo (peK k (peK k K)))=Z2 at d ⊢;generalize D.lst (qo (peK k K))=Z1 at h2 d ⊢;generalize D.lst (qo K)=Z at h1 ⊢;generalize D.dct k=Y at d ⊢;simp[jf,h1,h2,q,d]
  .refine⟨K,qo (peK k K),Iff.rfl,fV _,?_⟩;generalize D.lst (qo (peK k K))=Z1 at h2 ⊢;generalize D.lst (qo K)=Z at h1 ⊢;simp[jf,h1,h2,q]
theorem qgB(hr:1<=r)(k:Fx)(n:K.length<=10)(h:(K.length:Int)<=r):∃B,(OKs r k B↔OKs r k K)/\B.Sublist K/\wj [.lst (qo K),.dct k]=.ok (.lst (qo B),[.non,.non]):=by obtain⟨B,R,n1,n2,e⟩:=Wo hr k (a:=iO (.lst (qo K))) 20 K (by lia) (by lia) h;refine⟨B,n1,n2,?_⟩;have d:=Xq (K:=K) (by lia) k (iO (.lst (qo K))) iQ;refine qr.trans ?_;unfold yP;rw[show qt yO [.lst (qo K),.dct k]=[iO (.lst (qo K)),iO (.dct k),iQ,iQ]from rfl];refine(qv (ρ1:=[iO (.lst (qo K)),iO (.dct k),iO (.lst (qo K)),iQ]) (by simp)).trans ?_;refine(qv (ρ1:=[iO (.lst (qo K)),iO (.dct k),iO (.lst (qo K)),iO (.lst (qo (peK k K)))]) (by rw[Jj,d];rfl)).trans ?_;refine(qv e).trans ?_;simp
theorem Xr{gr:jK}{C S S1:D}{k:Fx}(hl:k.length<=100){ch:Option D}(hi:ixD S (.int 0)=.ok (.str x))(hs:qh4 (iO 1) iQ S=.ok S1)(P:Int->Bool):∀(vs:List Int)(y:Option D),(∀v∈vs,gr [C,.int r,.dct (vN k (.inr x) (.int v)),S1]=.ok (.bl (P v),[.non,.non,.non,.non])) ->(vs.any P=iT/\∃ρ,jB (gNm 5) (cfB gr) (vs.map D.int) [iO C,iO (.int r),iO (.dct k),iO S,ch,y]=.ok (.rt (.bl iT),iO C::iO (.int r)::iO (.dct k)::iO S::ρ))\/(vs.any P=iS/\∃p,jB (gNm 5) (cfB gr) (vs.map D.int) [iO C,iO (.int r),iO (.dct k),iO S,ch,y]=.ok (.nx,[iO C,iO (.int r),iO (.dct k),iO S,ch,p]))
 |[],y,_=>.inr ⟨rfl,y,rfl⟩
 | v::vs,y,h=>by
  have d:=h v (ai ..);have w:=qgu hl x v;cases q:P v with
  |true=>rw[q]at d;refine .inl ⟨by simp[q],[ch,iO (.int v)],?_⟩;simp[jB,cfB,w,hi,va,uC,hs,d]
  |false=>
   rw[q]at d;have s1:jB (gNm 5) (cfB gr) ((v::vs).map D.int) [iO C,iO (.int r),iO (.dct k),iO S,ch,y]=jB (gNm 5) (cfB gr) (vs.map D.int) [iO C,iO (.int r),iO (.dct k),iO S,ch,iO (.int v)]:=by simp[jB,cfB,w,hi,va,uC,hs,d]
   rw[s1,b9,q,Bool.false_or];exact Xr hl hi hs P vs _ λu f=>h u (ac _ f)
theorem qgC(r:Int)(Cs:List Cn)(n:Nat)(x:Str)(ls:List Str)(k:Fx):cf r Cs (n+1) (x::ls) k=(Cs.all (md r k)&&(chs r k).any λw=>cf r Cs n ls (vN k (.inr x) (.int w))):=rfl
theorem QO(hC:∀c∈Cs,c.1.length<=2/\c.2.length<=2)(hn:Cs.length<=100)(hr:0<r)(m:r<=99):∀(n:Nat)(ls:List Str)(k:Fx),ls.length<n->qdx k->k.length+ls.length<=100 ->qS n [.lst (Cs.map cE),.int r,.dct k,sE ls]=.ok (.bl (cf r Cs n ls k),[.non,.non,.non,.non])
 | 0,ls,k,h,_,_=>absurd h (cU _)
 | n+1,ls,k,h,hk,hl=>by
  have hA:=λa b c=>qgv hC hn hr hk a b c;show jW jH [.val,.val,.val,.val] (jw (qS n)) [.lst (Cs.map cE),.int r,.dct k,sE ls]=_;have t:qt jH [.lst (Cs.map cE),.int r,.dct k,sE ls]=[iO (.lst (Cs.map cE)),iO (.int r),iO (.dct k),iO (sE ls),iQ,iQ]:=rfl;cases q:Cs.all (md r k)with
  |false=>
   refine qr.trans ?_;have u:cf r Cs (n+1) ls k=false:=by cases ls <;> (unfold cf;rw[q];rfl)
   rw[q]at hA;rw[t,u];simp[jw,-xi,hA]
  | true=>
   rw[q]at hA;have hA:=hA (iO (sE ls)) iQ iQ;cases ls with
   |nil=>refine qr.trans ?_;rw[show cf r Cs (n+1) [] k=iT by unfold cf;rw[q];rfl];rw[t];unfold jw;refine(qv (ρ1:=[iO (.lst (Cs.map cE)),iO (.int r),iO (.dct k),iO (sE []),iQ,iQ]) (by simp[-xi,hA])).trans ?_;simp[eqD,eqN,eqS]
   | cons x ls=>
    rw[ah]at h hl;rw[qgC,q,Bool.true_and];obtain⟨hi,hs⟩:=qi0 x ls;have d:∀v∈chs r k,0<=v/\v<r:=λv d=>by
     unfold chs at d;split at d;·rw[aw.mp d];lia
     .obtain⟨j,y,rfl⟩:=aq.mp d;have:=aN.mp y
      lia
    have s:dIf (qy (d2 eqD (d1 ko (qc 2)) (dC (.int 0)))) (yo (qb (dC (.int 0)) qu)) (d1 uw (qc 1)) [iO (.lst (Cs.map cE)),iO (.int r),iO (.dct k),iO (sE (x::ls)),iQ,iQ]=.ok (.lst ((chs r k).map D.int),[iO (.lst (Cs.map cE)),iO (.int r),iO (.dct k),iO (sE (x::ls)),iQ,iQ]):=by
     unfold chs;by_cases l:k=[];·have z1:1<=Z8:=small (by lia);simp[eqD,eqN,eqS,l,z1]
     .rw[Ab l];have g:uw (.int r)=.ok (.lst (((aH r.toNat).map λ(j:Nat)=>(j:Int)).map D.int)):=by
       unfold uw;have z:XX 0 r/\r<=1000000:=⟨⟨by decide,by lia⟩,by lia⟩
       simp only[Int.sub_zero,Aa z];rw[Xg]
      generalize ((aH r.toNat).map λ(j:Nat)=>(j:Int)).map D.int=M at g ⊢;simp[eqD,eqN,eqS,l,g]
    have p:=Xr (gr:=qS n) (C:=.lst (Cs.map cE)) (r:=r) (k:=k) (ch:=iO (.lst ((chs r k).map D.int))) (by lia) hi hs (λw=>cf r Cs n ls (vN k (.inr x) (.int w))) (chs r k) iQ λv f=>
     QO hC hn hr m n ls (vN k (.inr x) (.int v)) (by lia) (qaq hk _ (d v f).1 (by have:=(d v f).2;lia)) (by have:=qbJ k (.inr x) (.int v);lia)
    have i:ko (sE (x::ls))=.ok (.int ((ls.length:Int)+1)):=by simp
    have o:¬((ls.length:Int)+1=0):=by lia
    generalize B:sE (x::ls)=S at *;generalize D.lst (Cs.map cE)=C at *;have fin:Wv [.val,.val,.val,.val] ((qH (vz (qV (qc 4)) (gNm 5) (cfB (qS n))) (jm (dC (.bl iS)))) [iO C,iO (.int r),iO (.dct k),iO S,iO (.lst ((chs r k).map D.int)),iQ])=.ok (.bl ((chs r k).any λw=>cf r Cs n ls (vN k (.inr x) (.int w))),[.non,.non,.non,.non]):=by
     have hit:qV (qc 4) [iO C,iO (.int r),iO (.dct k),iO S,iO (.lst ((chs r k).map D.int)),iQ]=.ok ((chs r k).map D.int,[iO C,iO (.int r),iO (.dct k),iO S,iO (.lst ((chs r k).map D.int)),iQ]):=by simp[jg]
     generalize (chs r k).map D.int=M at hit p ⊢;rcases p with⟨e0,ρ,e⟩|⟨e0,A,e⟩
     .rw[e0,yb,jV,hit,jJ,e];rfl
     .rw[e0,yb,jV,hit,jJ,e];rfl
    refine qr.trans ?_;rw[t];unfold jw;refine(qv (ρ1:=[iO C,iO (.int r),iO (.dct k),iO S,iQ,iQ]) (by simp[-xi,hA])).trans ?_;refine(qv (ρ1:=[iO C,iO (.int r),iO (.dct k),iO S,iQ,iQ]) (by simp[i,eqD,eqN,eqS,o])).trans ?_;refine(qv (ρ1:=[iO C,iO (.int r),iO (.dct k),iO S,iO (.lst ((chs r k).map D.int)),iQ]) (by rw[Jj,s];rfl)).trans ?_;exact fin
theorem QP(h6:l.length<=6)(hr:1<=r)(p:r<=99){k:Fx}(w:qdx k)(u:k.length<=50):∃b,jj [.lst (qo l),.int r,.dct k]=.ok (.bl b,[.non,.non,.non])/\(b=iT↔(l.length:Int)<=r/\OKs r k l):=by
 have n:ko (.lst (qo l))=.ok (.int l.length):=by simp[qo]
 by_cases m:r<(l.length:Int);·refine⟨iS,?_,⟨(λz=>by cases z),λz=>absurd z.1 (by lia)⟩⟩;refine qr.trans ?_;generalize D.lst (qo l)=Z at n ⊢;simp[wX,qt,n,m]
 .have g:(l.length:Int)<=r:=by lia
  obtain⟨B,n1,n2,E⟩:=qgB hr k (K:=l) (by lia) g;have G:B.length<=6:=be n2.length_le h6;have L:=wn (l:=B) (by lia);have f:=Wm (l:=B) (by lia);have t:=qes B;have I:((LS B).filter λx=>!kj k (.inr x)).length<=12:=by
   have:=cx (λx=>!kj k (.inr x)) (LS B)
   lia
  have A:=QO (Cs:=CT B) (λc f=>qiW f) (qiV B (by lia)) (r:=r) (by lia) p 14 ((LS B).filter λx=>!kj k (.inr x)) k (by lia) w (by lia);refine⟨cf r (CT B) 14 ((LS B).filter λx=>!kj k (.inr x)) k,?_,?_⟩
  .refine qr.trans ?_;have e:=qa3 (own:=[]) (cap:=[2]) (fi:=qV (ql [.vl] ji (qb (qc 3) qu))) (ρ:=[iO (.lst (qo l)),iO (.int r),iO (.dct k),iO (.lst (qo B)),iQ]) (ρ1:=[iO (.lst (qo l)),iO (.int r),iO (.dct k),iO (.lst (qo B)),iQ]) (ds:=(LS B).map D.str) (ft:=qy (d2 vf (qc 0) (qc 1))) (fe:=qc 0) (λd=>match d with|.str x=>!kj k (.inr x)|_=>iS) (λd=>d) (by simp) (by
     generalize D.lst (qo B)=Z at L ⊢;simp[L,jg]) (by rw[ao];exact small (by lia)) (λd hd=>by
     obtain⟨x,hx,rfl⟩:=aq.mp hd;simp[vf,zw]) (λd hd _=>rfl)
   rw[List.map_id',List.filter_map]at e;have e:qN [] 1 [2] (qV (ql [.vl] ji (qb (qc 3) qu))) (gNm 0) (qy (d2 vf (qc 0) (qc 1))) (qc 0) [iO (.lst (qo l)),iO (.int r),iO (.dct k),iO (.lst (qo B)),iQ]=.ok (sE ((LS B).filter λx=>!kj k (.inr x)),[iO (.lst (qo l)),iO (.int r),iO (.dct k),iO (.lst (qo B)),iQ]):=e;unfold wX;rw[show qt xY [.lst (qo l),.int r,.dct k]=[iO (.lst (qo l)),iO (.int r),iO (.dct k),iQ,iQ]from rfl];generalize D.lst (qo l)=Z at *;generalize D.lst (qo B)=ZB at *;generalize D.dct k=Y at *;refine(qv (ρ1:=[iO Z,iO (.int r),iO Y,iQ,iQ]) (by simp[n,m])).trans ?_;refine(qv (ρ1:=[iO Z,iO (.int r),iO Y,iO ZB,iQ]) (by simp[E])).trans ?_;refine(qv (ρ1:=[iO Z,iO (.int r),iO Y,iO ZB,iO (sE ((LS B).filter λx=>!kj k (.inr x)))]) (by rw[Jj,e];rfl)).trans ?_;generalize sE ((LS B).filter λx=>!kj k (.inr x))=S at *;generalize D.lst ((CT B).map cE)=C at *;simp[f,A]
  .have j:((LS B).filter λx=>!kj k (.inr x)).Nodup:=((jv _).nodup_iff.mpr (ue _ [] cG).1).filter _;have hok:(∃v,Ext k v/\qja r (CT B) v)↔OKs r k B:=⟨λ⟨v,a,b⟩=>⟨v,a,qi7.mpr b⟩,λ⟨v,a,b⟩=>⟨v,a,qi7.mp b⟩⟩
   rw[<-n1,<-hok];have o:∀c∈CT B,∀y∈c.1++c.2,kj k (.inr y)=iT\/y∈(LS B).filter λx=>!kj k (.inr x):=λc f y i=>by
    cases q:kj k (.inr y)with
    |true=>exact .inl rfl
    |false=>exact .inr (bv.mpr ⟨qkR f y i,by rw[q];rfl⟩)
   by_cases s:k=[];·subst s;rw[qgz hr (λc f=>ql3 f) 14 _ (by lia) j λc f y i=>(o c f y i).resolve_left λz=>by cases z];exact⟨λ⟨v,h⟩=>⟨g,v,(λx hx=>by cases hx),h⟩,λ⟨_,v,_,h⟩=>⟨v,h⟩⟩
   .rw[qbL hr 14 _ k (by lia) s j (λy i=>by simpa using(bv.mp i).2) o];exact⟨λh=>⟨g,h⟩,λh=>h.2⟩
noncomputable def up(v:Str->Int)(x:Str)(t:Int)(y:Str):Int:=if y=x then t else v y
theorem qjb{k:Fx}(hl:k.length<=100)(x:Str)(v:Int):kQ [.dct k,.str x,.int v]=.ok (.dct (vN k (.inr x) (.int v)),[.dct k,.non,.non]):=by have z:k.length<Z8:=aI (show k.length<2000 by lia) big;refine qr.trans ?_;simp[yQ,qt,Vp,vg,zw,z]
set_option tactic.hygienic true in
theorem qgD(hr:1<=r){k:Fx}(hx:kj k (.inr x)=iS)(h:OKs r k l):∃w,0<=w/\w<r/\OKs r (vN k (.inr x) (.int w)) l:=by
 obtain⟨v,b,hd⟩:=h;refine⟨v x % r,cW _ (by lia),cM _ (by lia),up v x (v x % r),λy D=>?_,?_⟩
 .rw[uk hx]at D;obtain⟨h1,h2⟩:=Wn hx (v x % r);unfold up;by_cases q:y=x;·rw[Aa q,q,h1]
  .rw[Ab q,h2 y q];refine b y ?_;have:decide (x=y)=false:=Ac λz=>q z.symm;rw[this,ip]at D;exact D
 .have c:∀y,r ∣ v y - up v x (v x % r) y:=λy=>by
   unfold up;split;·rename_i q;rw[q];exact e8
   .rw[iE];exact Int.dvd_zero _
  unfold Ds at hd ⊢;refine hd.imp λ{p q} a z=>a ?_;have e:nu v p - nu v q=(nu (up v x (v x % r)) p - nu (up v x (v x % r)) q)+((v p.1 - up v x (v x % r) p.1)+(v p.2 - up v x (v x % r) p.2)) - ((v q.1 - up v x (v x % r) q.1)+(v q.2 - up v x (v x % r) q.2)):=by
   unfold nu
   lia
  rw[e];exact cZ (dQ z (dQ (c _) (c _))) (dQ (c _) (c _))
abbrev lwT:uA:=(Kh (qy (d2 ltD (qc 4) (qc 1))) (xu (vU (ql [.vl,.vl,.vl] jj (qb (qc 0) (qb (qc 1) (qb (ql [.sl 2,.vl,.vl] kQ (kb (qb (qc 3) (qb (qc 4) qu)))) qu)))))))
abbrev lwB:qK:=(qX 4 (d2 ki (qc 4) (dC (.int 1))))
variable{Z:D}
theorem Xu{k:Fx}(hl:k.length<=100){P:Int->Prop}(hd:∀w,0<=w->w<r->∃b,jj [Z,.int r,.dct (vN k (.inr x) (.int w))]=.ok (.bl b,[.non,.non,.non])/\(b=iT↔P w)){m:Int}(d:P m)(a:m<r):∀(n:Nat)(f:Int),0<=f->f<=m->m<f+n ->∃R,f<=R/\R<r/\P R/\jf lwT lwB n [iO Z,iO (.int r),iO (.dct k),iO (.str x),iO (.int f)]=.ok (.nx,[iO Z,iO (.int r),iO (.dct k),iO (.str x),iO (.int R)])
 | 0,f,h1,h2,h3=>by lia
 | n+1,f,h1,h2,h3=>by
  obtain⟨b,e,g⟩:=hd f h1 (by lia);have c:=qjb hl x f;have h:f<r:=by lia
  cases b with
  |true=>refine⟨f,by lia,h,g.mp rfl,?_⟩;generalize D.dct (vN k (.inr x) (.int f))=Y at *;simp[jf,c,e,h]
  | false=>
   have j:¬P f:=λz=>by have:=g.mpr z;cases this
   have i:f≠m:=λz=>j (by rw[z];exact d);obtain⟨R,r1,r0,r2,r4⟩:=Xu hl hd d a n (f+1) (by lia) (by lia) (by lia);refine⟨R,by lia,r0,r2,?_⟩
   .have s1:jf lwT lwB (n+1) [iO Z,iO (.int r),iO (.dct k),iO (.str x),iO (.int f)]=jf lwT lwB n [iO Z,iO (.int r),iO (.dct k),iO (.str x),iO (.int (f+1))]:=by generalize D.dct (vN k (.inr x) (.int f))=Y at *;simp[jf,c,e,h]
    rw[s1];exact r4
theorem sq{f g:qK}(h:f ρ=.ok (.nx,ρ1)):qH f g ρ=g ρ1:=by unfold qH;rw[h];rfl
theorem fnx{fb:qK}(h1:g d ρ=.ok ρ1)(h2:fb ρ1=.ok (.nx,ρ2)):jB g fb (d::ds) ρ=jB g fb ds ρ2:=by simp[jB,h1,h2]
variable{m:List (Str×Int)}
theorem UC(h:x∉qp m)(w:Int):vN (bk m) (.inr x) (.int w)=bk (m++[(x,w)]):=by rw[gQ (by rw[QL];exact Ac h)];simp[bk]
theorem qkT(p:r<=99)(h:∀e∈m,0<=e.2/\e.2<r):qdx (bk m):=λkv a=>by obtain⟨e,i,rfl⟩:=aq.mp a;have:=h e i;exact⟨e.2,rfl,this.1,by lia⟩
theorem qdB(m:List (Str×Int))(x:Str)(w:Int):qp (m++[(x,w)])=qp m++[x]:=by simp[qp]
abbrev lwL:qK:=(qH (qX 4 (dC (.int 0)))
  (qH (jf lwT lwB 102)
  (qH (sIf (qy (d2 eqD (qc 4) (qc 1))) (jm (dC .non)) qM)
  (vg 2 (qc 4) (qc 3)))))
theorem qbM(h6:l.length<=6)(hr:1<=r)(p:r<=99)(a:(l.length:Int)<=r):∀(xs:List Str)(m:List (Str×Int))(y z:Option D),xs.Nodup->(∀x∈xs,x∉qp m)->m.length+xs.length<=40->(∀e∈m,0<=e.2/\e.2<r)->OKs r (bk m) l ->∃ws c b,qp ws=xs/\(∀e∈ws,0<=e.2/\e.2<r)/\OKs r (bk (m++ws)) l/\jB (gNm 3) lwL (xs.map D.str) [iO (.lst (qo l)),iO (.int r),iO (.dct (bk m)),y,z]=.ok (.nx,[iO (.lst (qo l)),iO (.int r),iO (.dct (bk (m++ws))),c,b])
 |[],m,y,z,_,_,_,_,hok=>⟨[],y,z,rfl,by simp,by simpa using hok,by simp[jB]⟩
 | x::xs,m,y,z,d,hnm,hlen,hm,hok=>by
  rw[ah]at hlen;have hx:x∉qp m:=hnm x (ai ..);have d:=aP.mp d;have v:(bk m).length<=40:=by simp[bk];lia
  have j:∀w,0<=w->w<r->∀e∈m++[(x,w)],0<=e.2/\e.2<r:=λw g o e i=>by
   rcases af.mp i with i|i;·exact hm e i
   .rw[aw.mp i];exact⟨g,o⟩
  obtain⟨g,I,H,G⟩:=qgD hr (x:=x) (by rw[QL];exact Ac hx) hok;obtain⟨R,r0,r1,r2,r4⟩:=Xu (Z:=.lst (qo l)) (r:=r) (k:=bk m) (by lia) (x:=x) (P:=λw=>(l.length:Int)<=r/\OKs r (vN (bk m) (.inr x) (.int w)) l) (λw t s=>by have n:=qkT p (j w t s);rw[<-UC hx]at n;exact QP h6 hr p n (be (qbJ _ _ _) (by lia))) ⟨a,G⟩ H 102 0 (by lia) I (by lia);have h:OKs r (bk (m++[(x,R)])) l:=by rw[<-UC hx];exact r2.2
  obtain⟨ws,c,b,E,C,B,A⟩:=qbM h6 hr p a xs (m++[(x,R)]) (iO (.str x)) (iO (.int R)) d.2 (λe i=>by
   rw[qdB];intro q;rcases af.mp q with q|q;·exact hnm e (ac _ i) q
   .rw[aw.mp q]at i;exact d.1 i) (by rw[aj,List.length_singleton];lia) (j R r0 r1) h
  refine⟨(x,R)::ws,c,b,?_,λe i=>?_,by simpa using B,?_⟩;·show x::qp ws=_;rw[E]
  .rcases ae.mp i with rfl|i;·exact⟨r0,r1⟩
   .exact C e i
  .have u:(bk m).length<Z8:=aI (show(bk m).length<2000 by lia) big;have f:¬R=r:=by lia
   have st:lwL [iO (.lst (qo l)),iO (.int r),iO (.dct (bk m)),iO (.str x),z]=.ok (.nx,[iO (.lst (qo l)),iO (.int r),iO (.dct (bk (m++[(x,R)]))),iO (.str x),iO (.int R)]):=by generalize D.lst (qo l)=Z at *;refine(sq (ρ1:=[iO Z,iO (.int r),iO (.dct (bk m)),iO (.str x),iO (.int 0)]) rfl).trans ?_;refine(sq r4).trans ?_;refine(sq (ρ1:=[iO Z,iO (.int r),iO (.dct (bk m)),iO (.str x),iO (.int R)]) (by simp[eqD,eqN,eqS,f])).trans ?_;rw[<-UC hx];simp[vg,zw,u]
   rw[aE];refine(fnx (ρ1:=[iO (.lst (qo l)),iO (.int r),iO (.dct (bk m)),iO (.str x),z]) rfl st).trans ?_;rw[A,aT];rfl
theorem qew:∀{L:List Str},L.Pairwise (λx y=>leS x y/\x≠y)->qfN L=iT
 |[],_=>rfl
 |[_],_=>rfl
 |x::y::r,h=>by obtain⟨h1,h2⟩:=bB.mp h;obtain⟨a,b⟩:=h1 y (ai ..);unfold qfN;rw[qew h2,Ad (bJ b),Ac (show ¬y.cps.toList<x.cps.toList from a)];rfl
theorem qkU(l:List (Str×Str)):(LS l).Pairwise (λx y=>leS x y/\x≠y):=(jY _).and (qiB l)
theorem Xv:∀m:List (Str×Int),Uc (bk m)=iO (qp m)
 |[]=>rfl
 |e::m=>by have:=Xv m;simp[bk,qp,Uc]at this ⊢;exact this
theorem qdC(m:List (Str×Int)):Yz (bk m)=prL m:=by unfold Yz bk prL;rw[bA];rfl
def ql4(l:List (Str×Str))(r:Int)(ws:List (Str×Int)):Prop:=qp ws=LS l/\(∀e∈ws,0<=e.2/\e.2<r)/\OKs r (bk ws) l
theorem gR(h6:l.length<=6)(z:∀x∈LS l,∃c,az c/\x=⟨#[c]⟩)(hr:1<=r)(p:r<=99)(m:(l.length:Int)<=r)(hok:OKs r [] l):∃ws,ql4 l r ws/\vD [.lst (qo l),.int r]=.ok (.tup (prL ws),[.non,.non]):=by
 have a:=wn (l:=l) (by lia);have g:=qes l;obtain⟨ws,d,b,e,i,u,f⟩:=qbM h6 hr p m (LS l) [] iQ iQ (qiB l) (λx _=>by simp[qp]) (by simp;lia) (by simp) hok;rw[cr]at u f;refine⟨ws,⟨e,i,u⟩,?_⟩;have hs:kT (.dct (bk ws))=.ok (.lst (prL ws)):=by
  have h:((LS l).all λy=>decide (y.length<=Z8))=true:=by rw[aM];intro x hx;obtain⟨c,_,rfl⟩:=z x hx;exact Ad (show(1:Nat)<=Z8 from small (by lia))
  have k:=Xv ws;rw[e]at k;simp only[kT,k];rw[Aa ⟨by lia,qew (qkU l),h⟩,qdC]
 refine qr.trans ?_;unfold uT;rw[show qt uS [.lst (qo l),.int r]=[iO (.lst (qo l)),iO (.int r),iQ,iQ,iQ]from rfl];refine(qv (ρ1:=[iO (.lst (qo l)),iO (.int r),iO (.dct (bk [])),iQ,iQ]) rfl).trans ?_;have hi:qV (ql [.vl] ji (qb (qc 0) qu)) [iO (.lst (qo l)),iO (.int r),iO (.dct (bk [])),iQ,iQ]=.ok ((LS l).map D.str,[iO (.lst (qo l)),iO (.int r),iO (.dct (bk [])),iQ,iQ]):=by generalize D.lst (qo l)=Z at a ⊢;simp[a,jg]
 refine(qv (ρ1:=[iO (.lst (qo l)),iO (.int r),iO (.dct (bk ws)),d,b]) (by rw[jV,hi,jJ];exact f)).trans ?_;generalize D.lst (qo l)=Z;generalize D.dct (bk ws)=B at hs ⊢;simp[hs,yw]
theorem Wp{k:Nat}:∀ds:List D,(∀d∈ds,eqN k d d=iO iT)->wA (eqN k) ds ds=iO iT
 |[],_=>rfl
 |d::ds,h=>by have e:=h d (ai ..);have j:=Wp ds λd' hd=>h d' (ac _ hd);simp[wA,e,j]
theorem qgE{k:Nat}(h:∀d∈ds,eqN k d d=iO iT):eqN (k+1) (.lst ds) (.lst ds)=iO true:=by have e:=Wp ds h;simp[eqN,e]
theorem qgF(h:eqN 8 d d=iO iT):neD d d=.ok (.bl iS):=by simp[neD,h]
abbrev Lk:=Int×Int
abbrev LD(x:Lk):D:=Ld x.1 x.2
noncomputable def LK:List Lk:=(aH 6).flatMap λ(a:Nat)=>(aH 6).map λ(b:Nat)=>((a:Int) - 3,(b:Int) - 3)
theorem Wq:vd []=.ok (.lst (LK.map LD),[]):=by kernel_rfl
theorem qex:LK.length=36:=by kernel_rfl
theorem gj{x:Lk}:x∈LK↔QQ x.1 x.2:=by
 unfold LK QQ;simp only[fj,aq,aN];constructor
 .rintro⟨a,g,b,d,rfl⟩;simp only
  lia
 .rintro⟨⟨h1,h2⟩,c,h⟩;refine⟨(x.1+3).toNat,by lia,(x.2+3).toNat,by lia,?_⟩;obtain⟨a,b⟩:=x;simp only at *;refine iC ?_ ?_
  .show((a+3).toNat:Int) - 3=a
   lia
  .show((b+3).toNat:Int) - 3=b
   lia
theorem qbN{Cs:List α}{fi:vY}{fe:qU}{ft:uA}(A B:α->D)(P:α->Bool)(o:∀k∈cap,k∉own)(h:fi ρ=.ok (Cs.map A,ρ))(hl:Cs.length<=Z8)(ht:∀c∈Cs,ft (iO (A c)::cap.map λk=>(ρ[k]?).getD iQ)=.ok (P c,iO (A c)::cap.map λk=>(ρ[k]?).getD iQ))(i:∀c∈Cs,P c=iT->fe (iO (A c)::cap.map λk=>(ρ[k]?).getD iQ)=.ok (B c,iO (A c)::cap.map λk=>(ρ[k]?).getD iQ)):qN own 1 cap fi (gNm 0) ft fe ρ=.ok (.lst ((Cs.filter P).map B),ρ):=by
 have key:∀(l:List α)(x:Option D),(∀c∈l,c∈Cs)->∃m,jR (gNm 0) ft fe (l.map A) (x::cap.map λk=>(ρ[k]?).getD iQ)=.ok ((l.filter P).map B,m::cap.map λk=>(ρ[k]?).getD iQ):=by
  intro l
  induction l with
  |nil=>intro x _;exact⟨x,rfl⟩
  |cons c l j=>
   intro x a;obtain⟨m,e⟩:=j (iO (A c)) λd hd=>a d (ac _ hd);have h1:=ht c (a c (ai ..));have h2:=i c (a c (ai ..));cases q:P c with
   |true=>exact⟨m,by simp[jR,zL,h1,q,h2 q,e]⟩
   |false=>exact⟨m,by simp[jR,zL,h1,q,e]⟩
 obtain⟨m,e⟩:=key Cs iQ λ_ h=>h;unfold qN;rw[h];simp only[jJ];rw[Aa (by rw[ao];exact hl),show kK 1 cap ρ=iQ::cap.map λk=>(ρ[k]?).getD iQ from rfl,e];simp only[jJ];rw[uz _ cap 1 ρ o]
theorem qgG:LK.length<=Z8:=by rw[qex];exact small (by lia)
open Classical in
def okL(ws:List Str)(x:Lk):Bool:=decide (OKs ws.length [] (qC ws x.1 x.2))
open Classical in
theorem gS{x:Lk}:okL ws x=iT↔OKs ws.length [] (qC ws x.1 x.2):=decide_eq_true_iff
theorem Ws(w:jl ws)(x:Lk):jj [.lst (qo (qC ws x.1 x.2)),.int ws.length,.dct []]=.ok (.bl (okL ws x),[.non,.non,.non]):=by have h6:=w.2.1;have h1:=w.1;have hn:=zD ws x.1 x.2;obtain⟨b,e,d⟩:=QP (l:=qC ws x.1 x.2) (by lia) (r:=ws.length) (by lia) (by lia) (k:=[]) (λ_ h=>by cases h) (by simp);rw[e,show okL ws x=b from d6.mpr (gS.trans ⟨λh=>d.mpr ⟨by lia,h⟩,λh=>(d.mp h).2⟩)]
theorem Xw(w:jl ws):JJ [Wd ws]=.ok (.lst ((LK.filter (okL ws)).map LD),[.non]):=by
 have hi:qV (ql [] vd qu) [iO (Wd ws)]=.ok (LK.map LD,[iO (Wd ws)]):=by have h:=Wq;generalize LK.map LD=Z at h ⊢;simp[h,jg]
 have n:ko (Wd ws)=.ok (.int ws.length):=by simp
 have e:=qbN (own:=[]) (cap:=[0]) (Cs:=LK) (ρ:=[iO (Wd ws)]) (fi:=qV (ql [] vd qu)) (ft:=vU (ql [.vl,.vl,.vl] jj (qb (ql [.vl,.vl] wf (qb (qc 1) (qb (qc 0) qu))) (qb (d1 ko (qc 1)) (qb (dC (.dct [])) qu))))) (fe:=qc 0) LD LD (okL ws) (by simp) hi qgG (λx hx=>by have h1:=JU w (gj.mp hx);have h2:=Ws w x;generalize okL ws x=b at h2 ⊢;generalize D.lst (qo (qC ws x.1 x.2))=Z at h1 h2;generalize Wd ws=W at h1 n ⊢;simp[h1,n,h2]) λ_ _ _=>rfl;have d:=uU w;refine qr.trans ?_;unfold qaJ;rw[show qt qaI [Wd ws]=[iO (Wd ws)]from rfl];refine(qv (ρ1:=[iO (Wd ws)]) (by simp[d])).trans ?_;rw[WY,e];rfl
theorem qjc(w:jl ws)(hl:QQ p q):∃d,vt [Wd ws,Ld p q,.int ws.length]=.ok (d,[.non,.non,.non])/\wE d .non=.ok (.bl (okL ws (p,q))):=by
 have h6:=w.2.1;have h1:=w.1;have hn:=zD ws p q;have e1:=JU w hl;have i:kC [.int (ws.length:Int)]=.ok (.non,[.non]):=by rw[yW (d:=.int ws.length) trivial,Aa (by simp[Wz];lia)]
 have e:=Ws w (p,q);cases ok:okL ws (p,q)with
 |true=>rw[ok]at e;have hd:=gS.mp ok;obtain⟨l,_,a⟩:=gR (l:=qC ws p q) (by lia) (λx hx=>qis w p q x hx) (r:=ws.length) (by lia) (by lia) (by lia) hd;refine⟨.tup (prL l),qr.trans ?_,rfl⟩;generalize D.lst (qo (qC ws p q))=Z at e1 e a;generalize Wd ws=W at e1 ⊢;generalize (ws.length:Int)=n at i e a ⊢;generalize D.tup (prL l)=T at a ⊢;simp[wZ,qt,e1,i,e,a]
 |false=>rw[ok]at e;refine⟨.non,qr.trans ?_,rfl⟩;generalize D.lst (qo (qC ws p q))=Z at e1 e;generalize Wd ws=W at e1 ⊢;generalize (ws.length:Int)=n at i e ⊢;simp[wZ,qt,e1,i,e]
theorem Ke{k:Fx}{c:List (Str×Str)}(h:∀v,Ds r v K->Ds r v c)(o:OKs r k K):OKs r k c:=let ⟨v,a,b⟩:=o; ⟨v,a,h v b⟩
theorem qbO(h:Ds r v (qC ws p q)):Ds r v (qC ws q p):=by unfold Ds qC at h ⊢;rw[ck]at h ⊢;refine h.imp λ{a b} z=>?_;unfold nu at z ⊢;rwa [fF (v (Wx a q)),fF (v (Wx b q))]
theorem qgH(ws:List Str)(p q:Int):okL ws (p,q)=okL ws (q,p):=d6.mpr (by rw[gS,gS];exact⟨Ke λ_=>qbO,Ke λ_=>qbO⟩)
theorem qey(h:Ds r v (qC ws p q)):Ds r v (qC ws.reverse p q):=by unfold Ds qC at h ⊢;rw[List.map_reverse,List.pairwise_reverse];exact h.imp qbK
theorem qjd(ws:List Str):okL ws.reverse=okL ws:=funext λx=>d6.mpr (by rw[gS,gS,dg];refine⟨Ke λv h=>?_,Ke λ_=>qey⟩;have:=qey h;rwa [List.reverse_reverse]at this)
theorem qai(h:jl ws):jl ws.reverse:=⟨by rw[dg];exact h.1,by rw[dg];exact h.2.1,List.pairwise_reverse.mpr (h.2.2.1.imp bJ),λw a=>h.2.2.2 w (List.mem_reverse.mp a)⟩
theorem qez(x y:Lk):eqN 7 (LD x) (LD y)=iO (decide (x=y)):=by obtain⟨a,b⟩:=x;obtain⟨c,d⟩:=y;by_cases h:a=c <;> by_cases h2:b=d <;> simp[eqN,wA,eqS,h,h2]
theorem UD(x:Lk):∀l:List Lk,zq 7 (LD x) (l.map LD)=iO (decide (x∈l))
 |[]=>by simp[zq]
 |y::l=>by
  have j:=UD x l;rw[aE,zq,qez,j];by_cases h:y=x;·subst h;simp
  .have g:¬x=y:=λz=>h z.symm;simp[h,g]
theorem qje(x:Lk)(l:List Lk):inA (LD x) (.lst (l.map LD))=.ok (.bl (decide (x∈l))):=by show(inD (LD x) (.lst (l.map LD))).bind (λb=>Out.ok (D.bl b))=_;unfold inD;simp only[UD];rfl
theorem qjf(x:Lk)(l:List Lk):vf (LD x) (.lst (l.map LD))=.ok (.bl (!decide (x∈l))):=by show(inD (LD x) (.lst (l.map LD))).bind (λb=>Out.ok (D.bl (!b)))=_;unfold inD;simp only[UD];rfl
noncomputable def ZF(n:Nat):List Int:=(aH n).map λ(j:Nat)=>(j:Int)
theorem qjg:gO n (n:Int) (ZF n):=⟨by simp[ZF],λy D=>by
 obtain⟨j,h,rfl⟩:=aq.mp D;have:=aN.mp h
 lia⟩
theorem qgI(h:n<=6):vA (.int n)=.ok (nD (ZF n)):=by
 match n,h with
 | 0,_=>kernel_rfl
 | 1,_=>kernel_rfl
 | 2,_=>kernel_rfl
 | 3,_=>kernel_rfl
 | 4,_=>kernel_rfl
 | 5,_=>kernel_rfl
 | 6,_=>kernel_rfl
theorem qjh(o:Option Ci):Gn (match o with|some w=>cd w|none=>.non) .non=.ok (.bl (decide (o=iQ))):=by cases o <;> rfl
theorem UE{w lk n N B:D}{fr:Bool}(b:wf [w,lk]=.ok (Z,[.non,.non]))(A:ko Z=.ok n)(g:vA n=.ok N)(d:Zm [w,lk,n,N]=.ok (B,[.non,.non,.non,.non]))(hi:Gn B .non=.ok (.bl fr)):vR [w,lk]=.ok (.bl fr,[.non,.non]):=by refine qr.trans ?_;simp[QD,qt,b,A,g,d,hi]
theorem qbP(hl:QQ p q):decide ((p,q)∈LK.filter (okL ws))=okL ws (p,q):=by rw[d6,decide_eq_true_iff,bv];exact⟨λh=>h.2,λh=>⟨gj.mpr hl,h⟩⟩
noncomputable def tk(x:Lk):List Int:=[x.1,x.2]
theorem qbQ:∀l:List Lk,Jm (l.map LD)=iO (l.map tk)
 |[]=>rfl
 |x::l=>by have j:=qbQ l;simp[Jm,uD,j,tk]
theorem qgJ(P:Lk->Bool):vQ (.lst ((LK.filter P).map LD))=.ok (.lst ((LK.filter P).map LD)):=by
 have h:((LK.filter P).map tk).length<=36/\((LK.filter P).map tk).all okP=iT/\qfT ((LK.filter P).map tk):=by
  refine⟨?_,?_,?_⟩;·rw[ao];exact qex ▸ cx P LK
  .rw[g8,aM];intro x hx;obtain⟨_,h1,h2⟩:=gj.mp (bv.mp hx).1;show decide _=iT;exact Ad ⟨by lia,by lia⟩
  .have h:LK.Pairwise λa b=>yc (tk a)<yc (tk b):=by decide +kernel
   exact ck.mpr (h.filter P)
 unfold vQ;simp only[qbQ,Aa h]
theorem qkV(l:List Lk):neD (.lst (l.map LD)) (.lst (l.map LD))=.ok (.bl iS):=qgF (qgE λd hd=>by obtain⟨x,_,rfl⟩:=aq.mp hd;rw[qez,Ad rfl])
theorem qji(h:Sol seen seen.length (ZF seen.length) v):OKs seen.length [] seen:=by
 refine⟨v,λx hx=>by simp[kj]at hx,?_⟩;refine cw.mpr λi j hi D e z=>?_;have at_:∀i,i<seen.length->nI (ZF seen.length) i=(i:Int):=λi hi=>by simp[nI,ZF,hi]
 have k1:=h i _ (ay hi);have k2:=h j _ (ay D);rw[at_ i hi]at k1;rw[at_ j D]at k2;unfold nu at z;have d:=cZ (cZ z k1) (fU.mpr k2);rw[show ∀a b c d x y:Int,a+b - (c+d) - (a+b - x) - -(c+d - y)=x - y from λa b c d x y=>by lia]at d;exact absurd (qds d (by lia) (by lia) (by lia) (by lia)) (by lia)
def Fit(dn:List Pr):Prop:=∀ns:Nat->Int,∃v:Str->Int,∀(i:Nat)(p:Pr),dn[i]?=iO p->v p.1+v p.2=ns i
structure Fo(dn:List Pr)(M:List (List Str)):Prop where
 dj:∀P∈M,∀Q∈M,∀x,x∈P->x∈Q->P=Q
 cl:∀p∈dn,∀P∈M,p.1∈P↔p.2∈P
 sg:∃s:Str->Int,(∀x,s x * s x=1)/\∀p∈dn,s p.1+s p.2=0
 fit:Fit dn
noncomputable def jn(M:List (List Str))(A B:List Str):List (List Str):=M.filter (λP=>!decide (P=A\/P=B))++[A++B]
variable{M:List (List Str)}
theorem yZ{A B P:List Str}:P∈jn M A B↔(P∈M/\P≠A/\P≠B)\/P=A++B:=by unfold jn;rw[af,bv,aw];simp
theorem Fo.join{dn:List Pr}{a b:Str}{A B:List Str}(F:Fo dn M)(hA:A∈M)(j:B∈M)(k:a∈A)(d:b∈B)(ne:A≠B):Fo (dn++[(a,b)]) (jn M A B):=by
 have n:a∉B:=λz=>ne (F.dj A hA B j a k z);have f:∀P∈M,P≠A->P≠B->∀x∈P,x∉A++B:=λP m n1 n2 x hx z=>(af.mp z).elim (λz=>n1 (F.dj P m A hA x hx z)) λz=>n2 (F.dj P m B j x hx z);obtain⟨s,s1,s2⟩:=F.sg;refine⟨λP m Q c x hx D=>?_,λp hp P m=>?_,⟨λx=>if x∈B then -(s a * s b) * s x else s x,λx=>?_,λp hp=>?_⟩,λns=>?_⟩
 .rcases yZ.mp m with⟨m,n1,n2⟩|rfl
  .rcases yZ.mp c with⟨c,_,_⟩|rfl;·exact F.dj P m Q c x hx D
   .exact absurd D (f P m n1 n2 x hx)
  .rcases yZ.mp c with⟨c,n1,n2⟩|rfl;·exact absurd hx (f Q c n1 n2 x D)
   .rfl
 .rcases af.mp hp with hp|hp
  .rcases yZ.mp m with⟨m,_,_⟩|rfl;·exact F.cl p hp P m
   .rw[af,af,F.cl p hp A hA,F.cl p hp B j]
  .obtain rfl:=aw.mp hp;rcases yZ.mp m with⟨m,n1,n2⟩|rfl;·exact⟨λz=>absurd (bP _ k) (f P m n1 n2 a z),λz=>absurd (aR _ d) (f P m n1 n2 b z)⟩
   .exact⟨λ_=>aR _ d,λ_=>bP _ k⟩
 .dsimp only;split;·rw[show ∀u v w:Int,-(u * v) * w * (-(u * v) * w)=(u * u) * (v * v) * (w * w)from λu v w=>by grind,s1,s1,s1];rfl
  .exact s1 x
 .dsimp only;rcases af.mp hp with hp|hp
  .have h:=s2 p hp;by_cases z:p.1∈B;·rw[Aa z,Aa ((F.cl p hp B j).mp z),<-iL,h,Int.mul_zero]
   .rw[Ab z,Ab λq=>z ((F.cl p hp B j).mpr q)];exact h
  .obtain rfl:=aw.mp hp;dsimp only;rw[Ab n,Aa d,show ∀u v:Int,u + -(u * v) * v=u - u * (v * v)from λu v=>by grind,s1]
   lia
 .obtain⟨v,l⟩:=F.fit ns;refine⟨λx=>if x∈B then v x+(ns dn.length - v a - v b) * s b * s x else v x,λi p hp=>?_⟩;dsimp only;by_cases hi:i<dn.length
  .rw[cP hi]at hp;have h:=l i p hp;have g:=aV hp;have h2:=s2 p g;by_cases z:p.1∈B
   .rw[Aa z,Aa ((F.cl p g B j).mp z)];have:(ns dn.length - v a - v b) * s b * (s p.1+s p.2)=0:=by rw[h2,Int.mul_zero]
    rw[iL]at this
    lia
   .rw[Ab z,Ab λq=>z ((F.cl p g B j).mpr q)];exact h
  .rw[ce (by lia)]at hp;obtain⟨rfl,rfl⟩:i=dn.length/\p=(a,b):=by
    match e:i - dn.length,hp with
    | 0,hp=>exact⟨by lia,(aL.inj hp).symm⟩
   dsimp only;rw[Ab n,Aa d,Int.mul_assoc,s1]
   lia
theorem qjj(L:List Str):Fo [] (L.map λx=>[x]):=by refine⟨λP m Q c x hx D=>?_,(λp hp=>nomatch hp),⟨λ_=>1,λ_=>rfl,λp hp=>nomatch hp⟩,λns=>⟨λ_=>0,λi p hp=>by simp at hp⟩⟩;obtain⟨y,_,rfl⟩:=aq.mp m;obtain⟨z,_,rfl⟩:=aq.mp c;rw[<-aw.mp hx,<-aw.mp D]
theorem qbR(h:Fit seen)(r:Int)(ns:List Int):∃v,Sol seen r ns v:=by obtain⟨v,c⟩:=h (nI ns);exact⟨v,λk p hp=>⟨0,by rw[c k p hp];lia⟩⟩
theorem qgK(k:Nat)(x y:Str):eqN k (.str x) (.str y)=iO (decide (x=y)):=by cases k <;> (by_cases h:x=y <;> simp[eqN,eqS,h])
theorem qbS(k:Nat):∀a b:List Str,a.length=b.length->wA (eqN k) (a.map D.str) (b.map D.str)=iO (decide (a=b))
 |[],[],_=>rfl
 |x::a,y::b,h=>by have j:=qbS k a b (by simpa using h);simp only[aE,wA,j,qgK];by_cases q:x=y <;> simp[q]
theorem qeA(k:Nat)(a b:List Str):eqN (k+1) (sE a) (sE b)=iO (decide (a=b)):=by
 show(if (a.map D.str).length=(b.map D.str).length then wA (eqN k) (a.map D.str) (b.map D.str)else iO iS)=_;rw[ao,ao];by_cases h:a.length=b.length;·rw[Aa h,qbS k a b h]
 .rw[Ab h,Ac λz=>h (by rw[z])]
theorem qjk(P A B:List Str):vf (sE P) (.tup [sE A,sE B])=.ok (.bl (!decide (P=A\/P=B))):=by
 show(inD (sE P) (.tup [sE A,sE B])).bind (λb=>Out.ok (D.bl (!b)))=_;unfold inD;simp only[zq,qeA,Option.bind_some];by_cases h1:A=P;·subst h1;simp
 .by_cases h2:B=P;·subst h2;simp
  .have c:¬P=A:=λz=>h1 z.symm;have a:¬P=B:=λz=>h2 z.symm;simp[h1,h2,c,a]
noncomputable def fnd(M:List (List Str))(x:Str):List Str:=((M.filter λP=>decide (x∈P)).head?).getD []
theorem Wt(h:∃P∈M,x∈P):fnd M x∈M/\x∈fnd M x/\(M.filter λP=>decide (x∈P)).head?=iO (fnd M x):=by
 obtain⟨P,m,hx⟩:=h;have c:P∈M.filter λP=>decide (x∈P):=bv.mpr ⟨m,Ad hx⟩;unfold fnd;cases e:M.filter λP=>decide (x∈P)with
 |nil=>rw[e]at c;cases c
 |cons Q R=>have:=bv.mp (show Q∈M.filter λP=>decide (x∈P) by rw[e];exact ai);exact⟨this.1,Ae this.2,rfl⟩
abbrev fdE(j:Nat):qU:=(d2 ixD (qN [] 1 [j] (qV (qc 2)) (gNm 0) (qy (d2 inA (qc 1) (qc 0))) (qc 0)) (dC (.int 0)))
theorem qjl(z:M.length<=2000)(h:∃P∈M,x∈P)(h2:ρ[2]?=iO (iO (.lst (M.map sE))))(D:ρ[j]?=iO (iO (.str x))):fdE j ρ=.ok (sE (fnd M x),ρ):=by
 obtain⟨_,_,e⟩:=Wt h;have hi:qV (qc 2) ρ=.ok (M.map sE,ρ):=by simp[h2,jg]
 have c:=qbN (own:=[]) (cap:=[j]) (Cs:=M) (ρ:=ρ) (fi:=qV (qc 2)) (ft:=qy (d2 inA (qc 1) (qc 0))) (fe:=qc 0) sE sE (λP=>decide (x∈P)) (λ_ _=>aW) hi (small z) (λP _=>by have:=qiT x P;simp[D,this]) λP _ _=>rfl;unfold fdE;generalize qN [] 1 [j] (qV (qc 2)) (gNm 0) (qy (d2 inA (qc 1) (qc 0))) (qc 0)=f at c ⊢;cases q:M.filter λP=>decide (x∈P)with
 |nil=>rw[q]at e;cases e
 |cons Q R=>rw[q]at e c;obtain rfl:Q=fnd M x:=aL.inj e;simp[c,ixD,at0]
abbrev pcB:qK:=(qH (qX 6 (fdE 4)) (qH (qX 7 (fdE 5))
  (sIf (qy (d2 eqD (qc 6) (qc 7))) (qX 3 (d2 ki (qc 3) (dC (.int 1)))) (qX 2 (d2 ki (qN [] 1 [6,7] (qV (qc 2)) (gNm 0) (qy (d2 vf (qc 0) (yh (qb (qc 1) (qb (qc 2) qu))))) (qc 0)) (yo (qb (d2 ki (qc 6) (qc 7)) qu)))))))
theorem qgL{w l x6 x7:Option D}{c:Int}{a b:Str}(z:M.length<=1000)(m:∀P∈M,P.length<=500)(g:∃P∈M,a∈P)(h:∃P∈M,b∈P):pcB [w,l,iO (.lst (M.map sE)),iO (.int c),iO (.str a),iO (.str b),x6,x7]=.ok (.nx,[w,l,iO (.lst ((if fnd M a=fnd M b then M else jn M (fnd M a) (fnd M b)).map sE)),iO (.int (if fnd M a=fnd M b then c+1 else c)),iO (.str a),iO (.str b),iO (sE (fnd M a)),iO (sE (fnd M b))]):=by
 have e1:=qjl (j:=4) (ρ:=[w,l,iO (.lst (M.map sE)),iO (.int c),iO (.str a),iO (.str b),x6,x7]) (by lia) g rfl rfl;have i:=qjl (j:=5) (ρ:=[w,l,iO (.lst (M.map sE)),iO (.int c),iO (.str a),iO (.str b),iO (sE (fnd M a)),x7]) (by lia) h rfl rfl;have k:=m _ (Wt g).1;have f:=m _ (Wt h).1;refine(qdm (ρ1:=[w,l,iO (.lst (M.map sE)),iO (.int c),iO (.str a),iO (.str b),iO (sE (fnd M a)),x7]) (by unfold qX;rw[e1];rfl)).trans ((qdm (ρ1:=[w,l,iO (.lst (M.map sE)),iO (.int c),iO (.str a),iO (.str b),iO (sE (fnd M a)),iO (sE (fnd M b))]) (by unfold qX;rw[i];rfl)).trans ?_);have eq:eqD (sE (fnd M a)) (sE (fnd M b))=.ok (.bl (decide (fnd M a=fnd M b))):=by unfold eqD;rw[qeA]
 generalize fnd M a=A at *;generalize fnd M b=B at *;by_cases q:A=B;·rw[Ad q]at eq;rw[Aa q,Aa q];generalize D.lst (M.map sE)=Z;generalize sE A=SA at *;generalize sE B=SB at *;simp[eq]
 .rw[Ac q]at eq;rw[Ab q,Ab q];have hi:qV (qc 2) [w,l,iO (.lst (M.map sE)),iO (.int c),iO (.str a),iO (.str b),iO (sE A),iO (sE B)]=.ok (M.map sE,[w,l,iO (.lst (M.map sE)),iO (.int c),iO (.str a),iO (.str b),iO (sE A),iO (sE B)]):=by simp[jg]
  have z2:2<=Z8:=small (by lia);have e:=qbN (own:=[]) (cap:=[6,7]) (Cs:=M) (fi:=qV (qc 2)) (ft:=qy (d2 vf (qc 0) (yh (qb (qc 1) (qb (qc 2) qu))))) (fe:=qc 0) sE sE (λP=>!decide (P=A\/P=B)) (λ_ _=>aW) hi (small (by lia)) (λP _=>by have:=qjk P A B;generalize sE P=SP at *;generalize sE A=SA at *;generalize sE B=SB at *;simp[this,z2]) λP _ _=>rfl;have ad:ki (sE A) (sE B)=.ok (sE (A++B)):=by unfold ki sE;simp only[ao];rw[Aa (small (by lia)),bY]
  have n:=cx (λP=>!decide (P=A\/P=B)) M;have d:ki (.lst ((M.filter λP=>!decide (P=A\/P=B)).map sE)) (.lst [sE (A++B)])=.ok (.lst ((jn M A B).map sE)):=by unfold ki jn;simp only[ao];rw[Aa (small (by show _+1<=2000;lia)),bY];rfl
  have z1:1<=Z8:=small (by lia);generalize D.lst ((M.filter λP=>!decide (P=A\/P=B)).map sE)=Z1 at *;generalize D.lst (M.map sE)=Z at *;generalize D.lst ((jn M A B).map sE)=Z2 at *;generalize sE (A++B)=SAB at *;generalize sE A=SA at *;generalize sE B=SB at *;unfold sIf qX;simp[eq,e,ad,d,z1]
set_option tactic.hygienic true in
theorem qbT{w l:Option D}{L:List Str}:∀(rest dn:List Pr)(M:List (List Str))(c:Int)(x4 x5 x6 x7:Option D),dn.length+rest.length<=6->(∀p∈rest,p.1∈L/\p.2∈L)->(∀x∈L,∃P∈M,x∈P)->M.length<=12+dn.length->(∀P∈M,P.length<=2 ^ dn.length)->0<=c->(c=0->Fo dn M) ->∃(g:List (List Str))(T:Int)(o V f y:Option D),jB (jM 2 (qw (gNm 4) (qw (gNm 5) jL))) pcB (qo rest) [w,l,iO (.lst (M.map sE)),iO (.int c),x4,x5,x6,x7]=.ok (.nx,[w,l,iO (.lst (g.map sE)),iO (.int T),o,V,f,y])/\0<=T/\(T=0->Fit (dn++rest))
 |[],dn,M,c,x4,x5,x6,x7,_,_,_,_,_,h0,hF=>⟨M,c,x4,x5,x6,x7,rfl,h0,λz=>by rw[bg];exact(hF z).fit⟩
 | (a,b)::rest,dn,M,c,x4,x5,x6,x7,h6,hr,hL,hM,hP,h0,hF=>by
  rw[ah]at h6;obtain⟨i,r⟩:=hr (a,b) ai;have u:2 ^ dn.length<=2 ^ 5:=Nat.pow_le_pow_right (by lia) (by lia);have ps:2 ^ (dn.length+1)=2 ^ dn.length+2 ^ dn.length:=by rw[Nat.pow_succ];lia
  obtain⟨n,t,_⟩:=Wt (hL a i);obtain⟨m,s,_⟩:=Wt (hL b r);have st:=qgL (w:=w) (l:=l) (x6:=x6) (x7:=x7) (c:=c) (by lia) (λP h=>be (hP P h) (by lia)) (hL a i) (hL b r);have dl:(dn++[(a,b)]).length=dn.length+1:=by rw[aj];rfl
  obtain⟨g,T,o,V,f,y,e,k0,k1⟩:=qbT (w:=w) (l:=l) (L:=L) rest (dn++[(a,b)]) (if fnd M a=fnd M b then M else jn M (fnd M a) (fnd M b)) (if fnd M a=fnd M b then c+1 else c) (iO (.str a)) (iO (.str b)) (iO (sE (fnd M a))) (iO (sE (fnd M b))) (by rw[dl];lia) (λp hp=>hr p (ac _ hp)) (λx hx=>by
   obtain⟨P,h1,h2⟩:=hL x hx;split;·exact⟨P,h1,h2⟩
   .by_cases k:P=fnd M a;·exact⟨_,yZ.mpr (.inr rfl),bP _ (k ▸ h2)⟩
    .by_cases j:P=fnd M b;·exact⟨_,yZ.mpr (.inr rfl),aR _ (j ▸ h2)⟩
     .exact⟨P,yZ.mpr (.inl ⟨h1,k,j⟩),h2⟩) (by
   rw[dl];split
   .lia
   .have:=cx (λP=>!decide (P=fnd M a\/P=fnd M b)) M;unfold jn;rw[aj];show _+1<=_
    lia) (λP hp=>by
   rw[dl,ps];split at hp;·exact be (hP P hp) (bR _ _)
   .rcases yZ.mp hp with⟨h,_,_⟩|rfl;·exact be (hP P h) (bR _ _)
    .rw[aj];exact Nat.add_le_add (hP _ n) (hP _ m)) (by split <;> lia) (λz=>by
   split at z
   .lia
   .rename_i q;rw[Ab q];exact(hF z).join n m t s q)
  refine⟨g,T,o,V,f,y,dP (kr (d:=.tup [.str a,.str b]) rfl st) e,k0,λz=>?_⟩;have:=k1 z;rwa [aT]at this
theorem qbU(a:jl ws)(hl:QQ p q):∃c,yT [Wd ws,Ld p q]=.ok (.int c,[.non,.non])/\(c=0->Fit (qC ws p q)):=by
 have hs:ky [Wd ws,Ld p q]=.ok (.lst ((LS (qC ws p q)).map D.str),[.non,.non]):=qbr a hl;have hp:jS [Wd ws,Ld p q]=.ok (sD (qC ws p q),[.non,.non]):=ug a hl;have b:=qa8 a p q;have h6:=a.2.1;have hn:=zD ws p q;have hi:qV (ql [.vl,.vl] ky (qb (qc 0) (qb (qc 1) qu))) [iO (Wd ws),iO (Ld p q),iQ,iQ,iQ,iQ,iQ,iQ]=.ok ((LS (qC ws p q)).map D.str,[iO (Wd ws),iO (Ld p q),iQ,iQ,iQ,iQ,iQ,iQ]):=by have h:jg (.lst ((LS (qC ws p q)).map D.str))=.ok ((LS (qC ws p q)).map D.str):=rfl;generalize D.lst ((LS (qC ws p q)).map D.str)=A at *;generalize (LS (qC ws p q)).map D.str=B at *;generalize Wd ws=W at *;generalize Ld p q=L at *;simp[hs,h]
 have z1:1<=Z8:=small (by lia);have m:=qiY (cap:=[]) (Cs:=LS (qC ws p q)) (fi:=qV (ql [.vl,.vl] ky (qb (qc 0) (qb (qc 1) qu)))) (fe:=yo (qb (qc 0) qu)) D.str (λx=>sE [x]) hi (small (by lia)) λx _=>by simp[z1]
 rw[show(LS (qC ws p q)).map (λx=>sE [x])=((LS (qC ws p q)).map λx=>[x]).map sE by rw[bA];rfl]at m;obtain⟨M,T,o,V,d,y,e,k0,k1⟩:=qbT (w:=iO (Wd ws)) (l:=iO (Ld p q)) (L:=LS (qC ws p q)) (qC ws p q) [] ((LS (qC ws p q)).map λx=>[x]) 0 iQ iQ iQ iQ (by rw[hn];exact(iD _).symm ▸ h6) (λr hr=>⟨uf.mpr ⟨r,hr,.inl rfl⟩,uf.mpr ⟨r,hr,.inr rfl⟩⟩) (λx hx=>⟨[x],aq.mpr ⟨x,hx,rfl⟩,aw.mpr rfl⟩) (by rw[ao];exact b) (λP g=>by obtain⟨x,_,rfl⟩:=aq.mp g;exact ap _) (iK _) λ_=>qjj _;refine⟨T,qr.trans ?_,k1⟩;unfold We;rw[show qt Wc [Wd ws,Ld p q]=[iO (Wd ws),iO (Ld p q),iQ,iQ,iQ,iQ,iQ,iQ]from rfl];generalize ((LS (qC ws p q)).map λx=>[x]).map sE=Z0 at *;refine(qv (ρ1:=[iO (Wd ws),iO (Ld p q),iO (.lst Z0),iQ,iQ,iQ,iQ,iQ]) (by unfold qX;rw[m];rfl)).trans ?_;refine(qv (ρ1:=[iO (Wd ws),iO (Ld p q),iO (.lst Z0),iO (.int 0),iQ,iQ,iQ,iQ]) (by simp)).trans ?_;refine(qv (f:=vz (qV (ql [.vl,.vl] jS (qb (qc 0) (qb (qc 1) qu)))) (jM 2 (qw (gNm 4) (qw (gNm 5) jL))) pcB) (ρ1:=[iO (Wd ws),iO (Ld p q),iO (.lst (M.map sE)),iO (.int T),o,V,d,y]) ?_).trans (by simp);have j:qV (ql [.vl,.vl] jS (qb (qc 0) (qb (qc 1) qu))) [iO (Wd ws),iO (Ld p q),iO (.lst Z0),iO (.int 0),iQ,iQ,iQ,iQ]=.ok (qo (qC ws p q),[iO (Wd ws),iO (Ld p q),iO (.lst Z0),iO (.int 0),iQ,iQ,iQ,iQ]):=by have h:jg (sD (qC ws p q))=.ok (qo (qC ws p q)):=rfl;generalize sD (qC ws p q)=A at *;generalize qo (qC ws p q)=B at *;generalize Wd ws=W at *;generalize Ld p q=L at *;simp[hp,h]
 rw[show ∀ρ,vz (qV (ql [.vl,.vl] jS (qb (qc 0) (qb (qc 1) qu)))) (jM 2 (qw (gNm 4) (qw (gNm 5) jL))) pcB ρ=(qV (ql [.vl,.vl] jS (qb (qc 0) (qb (qc 1) qu))) ρ).bind λp=>jB (jM 2 (qw (gNm 4) (qw (gNm 5) jL))) pcB p.1 p.2 from λ_=>rfl,j,jJ];exact e
theorem qjm(h:ws.length<=6):slD iQ iQ (iO (-1)) (Wd ws)=.ok (Wd ws.reverse):=by
 match ws,h with
 |[],_=>kernel_rfl
 |[a],_=>kernel_rfl
 |[a,b],_=>kernel_rfl
 |[a,b,c],_=>kernel_rfl
 |[a,b,c,d],_=>kernel_rfl
 |[a,b,c,d,e],_=>kernel_rfl
 |[a,b,c,d,e,f],_=>kernel_rfl
def aB(oo:GF):qK:=(qH (qX 9 (d2 wE (ql [.vl,.vl,.vl] oo (qb (qc 2) (qb (yh (qb (qc 4) (qb (qc 6) qu))) (qb (d1 ko (qc 2)) qu)))) (dC .non)))
  (sIf (dOr (qy (d2 neD (qc 9) (d2 inA (yh (qb (qc 4) (qb (qc 6) qu))) (qc 3)))) (qy (d2 neD (qc 9) (d2 inA (yh (qb (qc 6) (qb (qc 4) qu))) (qc 3))))) (jm (dC (.bl iS))) qM))
section
variable{oo:GF}{W F n:D}{T k7 k8 k10 k11:Option D}
theorem neB(b:Bool):neD (.bl b) (.bl b)=.ok (.bl iS):=by cases b <;> rfl
def InA(oo:GF)(W F n:D)(p q:Int):Prop:=∃(d:D)(b:Bool),oo [W,Ld p q,n]=.ok (d,[.non,.non,.non])/\wE d .non=.ok (.bl b)/\inA (Ld p q) F=.ok (.bl b)/\inA (Ld q p) F=.ok (.bl b)
theorem qjn(hn:ko W=.ok n)(h:InA oo W F n p q)(k x9:Option D):∃y,aB oo [S,T,iO W,iO F,iO (.int p),k,iO (.int q),k7,k8,x9,k10,k11]=.ok (.nx,[S,T,iO W,iO F,iO (.int p),k,iO (.int q),k7,k8,y,k10,k11]):=by obtain⟨d,b,h1,h2,g,a⟩:=h;have z:2<=Z8:=small (by lia);have A:=neB b;exact⟨iO (.bl b),by simp[aB,hn,z,h1,h2,g,a,A]⟩
theorem qlu(hn:ko W=.ok n)(k:Option D):∀(s:List Int)(x6 x9:Option D),(∀q∈s,InA oo W F n p q)->∃c y,jB (gNm 6) (aB oo) (s.map D.int) [S,T,iO W,iO F,iO (.int p),k,x6,k7,k8,x9,k10,k11]=.ok (.nx,[S,T,iO W,iO F,iO (.int p),k,c,k7,k8,y,k10,k11])
 |[],x6,x9,_=>⟨x6,x9,rfl⟩
 |q::s,x6,x9,h=>by obtain⟨y,e⟩:=qjn (S:=S) (T:=T) (k7:=k7) (k8:=k8) (k10:=k10) (k11:=k11) hn (h q ai) k x9;obtain⟨f,z,i⟩:=qlu hn k s (iO (.int q)) y λr hr=>h r (ac _ hr);exact⟨f,z,dP (kr (d:=.int q) rfl e) i⟩
noncomputable def pl6:List Int:=[-3,-2,-1,0,1,2]
theorem qlv(ρ:Sl):xj (d1 ZE (dC (.int 3))) (dC (.int 3)) ρ=.ok (pl6.map D.int,ρ):=by kernel_rfl
theorem qkW{fi:vY}{fb:qK}(h:fi ρ=.ok (ds,ρ1)):vz fi g fb ρ=jB g fb ds ρ1:=by show(fi ρ).bind _=_;rw[h];rfl
theorem qjo(hn:ko W=.ok n)(k:Option D):∀(ps:List Int)(x4 x6 x9:Option D),(∀p∈ps,∀q∈pl6,InA oo W F n p q)->∃o c y,jB (gNm 4) (vz (xj (d1 ZE (dC (.int 3))) (dC (.int 3))) (gNm 6) (aB oo)) (ps.map D.int) [S,T,iO W,iO F,x4,k,x6,k7,k8,x9,k10,k11]=.ok (.nx,[S,T,iO W,iO F,o,k,c,k7,k8,y,k10,k11])
 |[],x4,x6,x9,_=>⟨x4,x6,x9,rfl⟩
 |p::ps,x4,x6,x9,h=>by obtain⟨c,y,e⟩:=qlu (S:=S) (T:=T) (k7:=k7) (k8:=k8) (k10:=k10) (k11:=k11) hn k pl6 x6 x9 (h p ai);obtain⟨b,f,z,i⟩:=qjo hn k ps (iO (.int p)) c y λr hr=>h r (ac _ hr);exact⟨b,f,z,dP (kr (d:=.int p) rfl ((qkW (qlv _)).trans e)) i⟩
end
def cB(lk so io pc dr ba:GF):qK:=(qH (qX 7 (ql [.vl,.sl 1] lk (qb (qc 0) (kb qu))))
  (qH (qX 8 (d2 wE (ql [.vl,.vl,.vl,.vl] so (qb (qc 2) (qb (qc 7) (qb (d1 ko (qc 2)) (qb (d1 vA (d1 ko (qc 2))) qu))))) (dC .non)))
  (qH (sIf (dOr (qy (d2 neD (ql [.vl,.vl] io (qb (qc 2) (qb (qc 7) qu))) (qc 8))) (dOr (xu (vU (d1 (xa "bool") (ql [.vl,.vl] io (qb (qc 2) (qb (qc 7) qu)))))) (Kh (vU (qc 8)) (qy (d2 vf (qc 7) (qc 3)))))) (jm (dC (.bl iS))) qM)
  (sIf (qy (d2 eqD (ql [.vl,.vl] pc (qb (qc 2) (qb (qc 7) qu))) (dC (.int 0)))) (qH (qX 10 (d2 ki (dC (.int 1)) (ql [.vl,.sl 1,.vl] dr (qb (qc 0) (kb (qb (dC (.int 20)) qu))))))
  (qH (qX 11 (d1 yw (qN [1] 1 [0,1,10] (qV (qc 2)) (gNm 0) ftT (ql [.vl,.sl 2,.vl] dr (qb (qc 1) (kb (qb (qc 3) qu)))))))
  (sIf (dOr (qy (d2 wE (ql [.vl,.vl,.vl,.vl] ba (qb (qc 2) (qb (qc 7) (qb (qc 10) (qb (qc 11) qu))))) (dC .non))) (xu (vU (qc 8)))) (jm (dC (.bl iS))) qM))) qM))))
theorem Xx(n:List Int)(hr:0<r):∀(ds:List D)(t:List D)(k:Option D),t.length+ds.length<1000 ->∃(ns:List Int)(a:List D)(k':Option D),a.length=t.length+ds.length/\ns.length=ds.length/\(∀i∈ns,0<=i/\i<r) /\
   jR (gNm 0) ftT (ql [.vl,.sl 2,.vl] kw (qb (qc 1) (kb (qb (qc 3) qu)))) ds [k,iO (scr n),iO (.lst t),iO (.int r)]=.ok (ns.map D.int,[k',iO (scr n),iO (.lst a),iO (.int r)])
 |[],t,k,_=>⟨[],t,k,by simp,rfl,by simp,rfl⟩
 | d::ds,t,k,ht=>by
  rw[ah]at ht;obtain⟨i,b,i1,hp⟩:=ub n t hr (by lia);obtain⟨ns,a,k',e,g,c,q⟩:=Xx n hr ds (t++[.int 0]) (iO d) (by rw[aj];simp;lia);refine⟨i::ns,a,k',?_,by simp[g],?_,?_⟩
  .rw[e,aj,ah];simp
   lia
  .intro y h;rcases ae.mp h with rfl|h;·exact⟨b,i1⟩
   .exact c y h
  .simp[jR,zL,hp,q]
variable{t:List D}
section
variable{lk so io pc dr ba:GF}{S W F L n N:D}{x4 x5 x6 x7 x8 x9 x10 x11:Option D}{t1:List D}{due:Bool}
theorem qlw(k:lk [S,.lst t]=.ok (L,[.non,.lst t1]))(hn:ko W=.ok n)(b:vA n=.ok N)(h:so [W,L,n,N]=.ok (d,[.non,.non,.non,.non]))(hd:wE d .non=.ok (.bl due))(o:io [W,L]=.ok (.bl due,[.non,.non]))(j:due=iT->vf L F=.ok (.bl iS)){c:Int}(a:pc [W,L]=.ok (.int c,[.non,.non]))(e:c≠0):cB lk so io pc dr ba [iO S,iO (.lst t),iO W,iO F,x4,x5,x6,x7,x8,x9,x10,x11]=.ok (.nx,[iO S,iO (.lst t1),iO W,iO F,x4,x5,x6,iO L,iO (.bl due),x9,x10,x11]):=by
 have A:=neB due;have e0:eqD (.int c) (.int 0)=.ok (.bl iS):=by simp[eqD,eqN,eqS,e]
 have tb:xa "bool" (.bl due)=.ok (.bl iT):=by simp[xa,tyN]
 cases due with
 |true=>simp[cB,k,hn,b,h,hd,o,A,tb,j,a,e0]
 |false=>simp[cB,k,hn,b,h,hd,o,A,tb,a,e0]
theorem qkX(k:lk [S,.lst t]=.ok (L,[.non,.lst t1]))(hn:ko W=.ok n)(g:vA n=.ok N)(o:so [W,L,n,N]=.ok (d,[.non,.non,.non,.non]))(hd:wE d .non=.ok (.bl iT))(b:io [W,L]=.ok (.bl iT,[.non,.non]))(j:vf L F=.ok (.bl iS))(a:pc [W,L]=.ok (.int 0,[.non,.non])){r:Int}{f G es:List D}(c:dr [S,.lst t1,.int 20]=.ok (.int r,[.non,.lst f,.non]))(h:qN [1] 1 [0,1,10] (qV (qc 2)) (gNm 0) ftT (ql [.vl,.sl 2,.vl] dr (qb (qc 1) (kb (qb (qc 3) qu)))) [iO S,iO (.lst f),iO W,iO F,x4,x5,x6,iO L,iO (.bl iT),x9,iO (.int (1+r)),x11]=.ok (.lst es,[iO S,iO (.lst G),iO W,iO F,x4,x5,x6,iO L,iO (.bl iT),x9,iO (.int (1+r)),x11]))(p:yw (.lst es)=.ok (.tup es))(e:ba [W,L,.int (1+r),.tup es]=.ok (.non,[.non,.non,.non,.non])) :
  cB lk so io pc dr ba [iO S,iO (.lst t),iO W,iO F,x4,x5,x6,x7,x8,x9,x10,x11]=.ok (.nx,[iO S,iO (.lst G),iO W,iO F,x4,x5,x6,iO L,iO (.bl iT),x9,iO (.int (1+r)),iO (.tup es)]):=by
 have A:=neB iT;have e0:eqD (.int 0) (.int 0)=.ok (.bl iT):=rfl;have tb:xa "bool" (.bl iT)=.ok (.bl iT):=by simp[xa,tyN]
 have i:wE .non .non=.ok (.bl iS):=rfl;unfold cB;generalize qN [1] 1 [0,1,10] (qV (qc 2)) (gNm 0) ftT (ql [.vl,.sl 2,.vl] dr (qb (qc 1) (kb (qb (qc 3) qu))))=fc at h ⊢;simp[k,hn,g,o,hd,b,A,tb,j,a,e0,c,h,p,e,i]
end
theorem ql5(n:List Int)(w:jl ws)(x4 x5 x6 x7 x8 x9 x10 x11:Option D)(ht:t.length<800):∃t' x u f y,t'.length<=t.length+10 /\
  cB JQ zz vR yT kw Zm [iO (scr n),iO (.lst t),iO (Wd ws),iO (.lst ((LK.filter (okL ws)).map LD)),x4,x5,x6,x7,x8,x9,x10,x11]=.ok (.nx,[iO (scr n),iO (.lst t'),iO (Wd ws),iO (.lst ((LK.filter (okL ws)).map LD)),x4,x5,x6,x,u,x9,f,y]):=by
 obtain⟨p,q,t1,hl,C,g1⟩:=qf9 n t (by lia);have h6:=w.2.1;have h1:=w.1;have l:=zD ws p q;have hr:(1:Int)<=ws.length:=by lia
 have h9:(ws.length:Int)<=99:=by lia
 obtain⟨W,S⟩:=qkH w p q;have T:gO ws.length ws.length (ZF ws.length):=qjg;have h:ko (Wd ws)=.ok (.int ws.length):=by simp
 have g:vA (.int ws.length)=.ok (nD (ZF ws.length)):=qgI (by lia);have A:ko (sD (qC ws p q))=.ok (.int ws.length):=by simp[qo,l]
 have o:=UE (Xe w hl) A g (qed w hl hr h9 T S) (qjh _);obtain⟨d,a,hd⟩:=qdu w hl hr h9 T;obtain⟨c,b,E⟩:=qbU w hl;have j:=qjf (p,q) (LK.filter (okL ws));rw[qbP hl]at j;have e:=qef S (r:=ws.length) (ns:=ZF ws.length);have hok:(∃v,Sol (qC ws p q) ws.length (ZF ws.length) v)->okL ws (p,q)=true:=by rintro⟨v,B⟩;rw[gS];have:=qji (seen:=qC ws p q) (v:=v) (by rw[l];exact B);rwa [l]at this
 by_cases O:c=0
 .have fit:=E O;have hs:=qbR fit (ws.length:Int) (ZF ws.length);subst O;rw[Ad (e.mpr hs)]at o;rw[hok hs]at j;have hd:wE d .non=.ok (.bl iT):=by
   rcases hd with⟨_,z⟩|⟨⟨m,rfl⟩,_⟩
   .exact absurd hs z
   .rfl
  obtain⟨r,r0,r1,i⟩:=ub n t1 (many:=20) (by lia) (by lia);obtain⟨ns,G,k',J,s,I,H⟩:=Xx n (r:=1+r) (by lia) (ws.map D.str) (t1++[.int 0]) iQ (by rw[aj,ao];simp;lia);rw[ao]at s;have k:=qed w hl (r:=1+r) (by lia) (by lia) ⟨s,I⟩ S;rw[(qef S).mpr (qbR fit _ _)]at k;refine⟨G,_,_,_,_,?_,qkX g1 h g a hd o j b i ?_ ?_ k⟩
  .rw[J,aj,ao];simp
   lia
  .rw[Xd (ds:=ws.map D.str) (ρ1:=[iO (scr n),iO (.lst (t1++[.int 0])),iO (Wd ws),iO (.lst ((LK.filter (okL ws)).map LD)),x4,x5,x6,iO (Ld p q),iO (.bl iT),x9,iO (.int (1+r)),x11]) rfl (by rw[ao];exact small (by lia)) H];rfl
  .simp[yw]
 .by_cases hs:∃v,Sol (qC ws p q) ws.length (ZF ws.length) v
  .rw[Ad (e.mpr hs)]at o;rw[hok hs]at j;have hd:wE d .non=.ok (.bl iT):=by
    rcases hd with⟨_,z⟩|⟨⟨m,rfl⟩,_⟩
    .exact absurd hs z
    .rfl
   exact⟨t1,_,_,_,_,by lia,qlw g1 h g a hd o (λ_=>j) b O⟩
  .rw[Ac λz=>hs (e.mp z)]at o;have hd:wE d .non=.ok (.bl iS):=by
    rcases hd with⟨rfl,_⟩|⟨_,z⟩
    .rfl
    .exact absurd z hs
   exact⟨t1,_,_,_,_,by lia,qlw g1 h g a hd o (λz=>nomatch z) b O⟩
theorem qeB{B:qK}{W F x4 x6 x9:Option D}(j:∀(x5 x7 x8 x10 x11:Option D)(t:List D),t.length<800->∃t' b u f y,t'.length<=t.length+10/\B [S,iO (.lst t),W,F,x4,x5,x6,x7,x8,x9,x10,x11]=.ok (.nx,[S,iO (.lst t'),W,F,x4,x5,x6,b,u,x9,f,y])):∀(ds:List D)(t:List D)(x5 x7 x8 x10 x11:Option D),t.length+10 * ds.length<800->∃t' V b u f y,jB (gNm 5) B ds [S,iO (.lst t),W,F,x4,x5,x6,x7,x8,x9,x10,x11]=.ok (.nx,[S,iO (.lst t'),W,F,x4,V,x6,b,u,x9,f,y])
 |[],t,x5,x7,x8,x10,x11,_=>⟨t,x5,x7,x8,x10,x11,rfl⟩
 |d::ds,t,x5,x7,x8,x10,x11,h=>by rw[ah]at h;obtain⟨t1,b,u,f,y,h1,e⟩:=j (iO d) x7 x8 x10 x11 t (by lia);obtain⟨k,i,g,c,a,z,l⟩:=qeB j ds t1 (iO d) b u f y (by lia);exact⟨k,i,g,c,a,z,dP (kr (d:=d) rfl e) l⟩
def FL(w lo:GF)(A B:qK):qK:=(qH (qX 1 (yo qu))
  (qH (qX 2 (ql [.vl,.sl 1,.vl] w (qb (qc 0) (kb (qb (dC (.int 5)) qu)))))
  (qH (qX 3 (ql [.vl] lo (qb (qc 2) qu)))
  (qH (vz (xj (d1 ZE (dC (.int 3))) (dC (.int 3))) (gNm 4) A)
  (qH (sIf (dOr (qy (d2 neD (qc 3) (d1 vQ (qc 3)))) (qy (d2 neD (ql [.vl] lo (qb (zR (qc 2) iQ iQ (iO (d1 ZE (dC (.int 1))))) qu)) (qc 3)))) (jm (dC (.bl iS))) qM)
  (qH (vz (jU (dC (.int 4))) (gNm 5) B)
  (jm (dC (.bl iT)))))))))
theorem qgM{w lo:GF}{A B:qK}{S W r F:D}{o c a:Option D}(g1:w [S,.lst [],.int 5]=.ok (W,[.non,.lst t,.non]))(Z:lo [W]=.ok (F,[.non]))(hA:jB (gNm 4) A (pl6.map D.int) [iO S,iO (.lst t),iO W,iO F,iQ,iQ,iQ,iQ,iQ,iQ,iQ,iQ]=.ok (.nx,[iO S,iO (.lst t),iO W,iO F,o,iQ,c,iQ,iQ,a,iQ,iQ]))(hs:vQ F=.ok F)(e:neD F F=.ok (.bl iS))(l:slD iQ iQ (iO (-1)) W=.ok r)(Y:lo [r]=.ok (F,[.non]))(j:∃t' V b u f y,jB (gNm 5) B (yt 0 4) [iO S,iO (.lst t),iO W,iO F,o,iQ,c,iQ,iQ,a,iQ,iQ]=.ok (.nx,[iO S,iO (.lst t'),iO W,iO F,o,V,c,b,u,a,f,y])):jW qdg [.val] (FL w lo A B) [S]=.ok (.bl iT,[.non]):=by
 refine qr.trans ?_;obtain⟨t',V,b,u,f,y,j⟩:=j;unfold FL;rw[show qt qdg [S]=[iO S,iQ,iQ,iQ,iQ,iQ,iQ,iQ,iQ,iQ,iQ,iQ]from rfl];refine(qv (ρ1:=[iO S,iO (.lst []),iQ,iQ,iQ,iQ,iQ,iQ,iQ,iQ,iQ,iQ]) (by simp)).trans ?_;refine(qv (ρ1:=[iO S,iO (.lst t),iO W,iQ,iQ,iQ,iQ,iQ,iQ,iQ,iQ,iQ]) (by simp[g1])).trans ?_;refine(qv (ρ1:=[iO S,iO (.lst t),iO W,iO F,iQ,iQ,iQ,iQ,iQ,iQ,iQ,iQ]) (by simp[Z])).trans ?_;refine(qv ((qkW (qlv _)).trans hA)).trans ?_;refine(qv (ρ1:=[iO S,iO (.lst t),iO W,iO F,o,iQ,c,iQ,iQ,a,iQ,iQ]) (by have hg:ZE (.int 1)=.ok (.int (-1)):=rfl;simp[hs,e,zR,uC,hg,l,Y])).trans ?_;refine(qv ((qkW (iR0 (k:=4) (by decide) (by decide) rfl)).trans j)).trans ?_;rfl
theorem qjp(n:List Int):qf5 [scr n]=.ok (.bl iT,[.non]):=by
 obtain⟨ws,t,w,ht,g1⟩:=qdj n [] (by simp);have ht:t.length<=50:=by simpa using ht
 have h:ko (Wd ws)=.ok (.int ws.length):=by simp
 have Y:=Xw (qai w);rw[qjd]at Y;have l:∀p∈pl6,-3<=p/\p<=2:=by decide
 obtain⟨o,c,y,hA⟩:=qjo (oo:=vt) (S:=iO (scr n)) (T:=iO (.lst t)) (F:=.lst ((LK.filter (okL ws)).map LD)) (k7:=iQ) (k8:=iQ) (k10:=iQ) (k11:=iQ) h iQ pl6 iQ iQ iQ λp hp q hq=>by
  have hl:QQ p q:=⟨l p hp,l q hq⟩
  have f:QQ q p:=⟨l q hq,l p hp⟩
  obtain⟨d,h1,h2⟩:=qjc w hl;have g:=qje (p,q) (LK.filter (okL ws));have a:=qje (q,p) (LK.filter (okL ws));rw[qbP hl]at g;rw[qbP f,<-qgH]at a;exact⟨d,_,h1,h2,g,a⟩
 exact qgM g1 (Xw w) hA (qgJ _) (qkV _) (qjm w.2.1) Y (qeB (λx5 x7 x8 x10 x11 t ht=>ql5 n w _ x5 _ x7 x8 _ x10 x11 ht) (yt 0 4) t iQ iQ iQ iQ iQ (by rw[show(yt 0 4).length=4 from rfl];lia))
end Kx
namespace Kx
open PySem PySem.Spec PyProof.Rows L2 L2.D2
variable{x:Str}
theorem qbV{l:List Str}{f:Str->Z7}(nd:(l.map f).Nodup){y:Str}(hx:x∈l)(h:y∈l)(e:f x=f y):x=y:=by obtain⟨i,hi,rfl⟩:=dO.mp hx;obtain⟨j,D,rfl⟩:=dO.mp h;have q:=(fZ (h₀:=by simpa using hi) (h₁:=by simpa using D) nd).mp (show(l.map f)[i]'(by simpa using hi)=(l.map f)[j]'(by simpa using D) by simpa using e);subst q;rfl
noncomputable def caK(K:Y8)(x:Str):Z7:=match nsIn K j3 x with
 |some (iO (.ref a))=>a
 |_=>0
def qgN(K:Y8)(Cs:List Z7)(W:Z7):Bool:=decide Cs.Nodup&&Cs.all λc=>xcB K c&&decide (PySem.W.exmOne K (.ref c) (.ref W)=iO iT)&&decide (dN K (.ref c) (.type "ValueError")=iO iT)&&fy K c bmV "ValueError.__new__"&&Cs.all λd=>decide (dN K (.ref c) (.ref d)=iO (decide (c=d)))
noncomputable def ZS:List Str:=["all","bool","dict","enumerate","int","isinstance","len","list","max","min","range","reversed","set","sorted","str","sum","tuple","zip"]
noncomputable def XL:List Str:=[]
noncomputable def kCT:List (Str×Int):=[("LEAST_PLACE",-3),("MOST_LETTERS",6),("MOST_PLACE",2),("MOST_ROOM",99),("MOST_WORDS",6)]
def zB(K:Y8):Bool:=ZS.all (λx=>decide (nsIn K j3 x=iO iQ))&&(XL++CS).all (λx=>decide (nsIn K j3 x=iO (iO (.ref (caK K x)))))&&kCT.all λp=>match nsIn K j3 p.1 with
 |some (iO (.int i _))=>decide (i=p.2)
 |_=>iS
def qkY(ca:Str->Z7):Prop:=∀x∈CS,∀y∈CS,ca x=ca y->x=y
variable{K:Y8}{h:Z5}
set_option tactic.hygienic true in
theorem qkZ{mg:Str->Option iR}(X:K.In h)(G:h.Ns j3 mg)(b:zB K=iT)(ex:qgN K (CS.map (caK K)) (caK K "WordError")=iT)  : Zt K mg (λx=>.ref (caK K x)) (caK K)/\qkY (caK K):=by
 simp only[zB,qgN,aQ,decide_eq_true_eq,aM,g8,Function.comp_def]at b ex;obtain⟨nd,l⟩:=ex;have inj:qkY (caK K):=λx hx y D e=>qbV nd hx D e;have z:∀{x},x∈ZS->mg x=none:=λhx=>mg_none_of X G (b.1.1 _ hx);have m:∀{x},x∈XL++CS->mg x=iO (.ref (caK K x)):=λhx=>mg_of X G (b.1.2 _ hx);have k:∀{x i},(x,i)∈kCT->∃t,mg x=iO (.int i t):=λ{x i} hx=>by
  have q:=b.2 _ hx;split at q;·rename_i e;cases Ae q;exact⟨_,mg_of X G e⟩
  .cases q
 exact⟨⟨⟨λc a=>rfl,λc a=>(l c a).1.1.1.2,λc a=>(l c a).1.1.1.1,λc a d hd=>(l c a).2 d hd,λc a=>(l c a).1.1.2⟩,λc a=>m (aR _ a),λc a=>(l c a).1.2,λx hx=>absurd hx (by simp[FS]),z (by decide +kernel),z (by decide +kernel),z (by decide +kernel),z (by decide +kernel),z (by decide +kernel),z (by decide +kernel),z (by decide +kernel),z (by decide +kernel),z (by decide +kernel),z (by decide +kernel),z (by decide +kernel),z (by decide +kernel),z (by decide +kernel),z (by decide +kernel),z (by decide +kernel),z (by decide +kernel),z (by decide +kernel),z (by decide +kernel),k (by decide +kernel),k (by decide +kernel),k (by decide +kernel),k (by decide +kernel),k (by decide +kernel)⟩,inj⟩
def qdD(K:Y8):Sp:=λvs H Q _=>∃(a:Z7)(ns:List Int),vs=[.ref a]/\SqL K H a (ns.map V.int)/\∀H',Q (.bl iT) H'
theorem Xy{F:Hp}:∀ns:List Int,IsL K F (ns.map V.int) (ns.map D.int)
 |[]=>.nil
 |n::ns=>.cons (.int n) (Xy ns)
theorem qk0{cv:Str->iR}{ca:Str->Z7}(h:qkY ca)(vs:List V)(H:Hp)(Q:VK)(E:XK)(q:qdD K vs H Q E):spD K cv [.val] .sh qf5 vs H Q E:=by obtain⟨a,ns,rfl,hs,hq⟩:=q;refine⟨H,[scr ns],Same.refl _,⟨.lst hs (Xy ns),trivial⟩,cG,?_⟩;rw[qjp ns];intro v F' H' k g y b;have b:Is K F' v (.bl iT):=b;cases b;exact hq H'
abbrev NsX(K:Y8)(x:Str)(f:Z7):Prop:=nsIn K j3 x=iO (iO (.ref f))
abbrev CdX(K:Y8)(v:iR)(x:Str):Prop:=codeIn K v x=iT
abbrev KpX(K:Y8)(f:Z7):Prop:=keepIn K (.ref f)=iT
abbrev LkX(K:Y8)(x q:Str)(st:Z3)(f:Z7)(oc:iR)(od an:Option Z7)(sl:Array (Option iR))(kV d pm cd ct:iR):Prop:=K.lookup f=iO ⟨oc,od,.func (dv x q (xb st) (vV st) (jb st) .none kV d pm an cd ct),sl⟩
abbrev BdX(x q:Str)(st:Z3)(ps:List Str):Prop:=∀(kV doc pm:iR)(an:Option Z7)(cdv ct:iR)(us:List iR),us.length=ps.length->bindArgs (dv x q (xb st) (vV st) (jb st) .none kV doc pm an cdv ct) ⟨us,[]⟩=pure (ps.zip us)
def AlV:Nat->(List iR->Prop)->Prop
 | 0,P=>P []
 |n+1,P=>∀a,AlV n λl=>P (a::l)
theorem alV{n:Nat}{us:List iR}{P:List iR->Prop}(e:us.length=n)(h:AlV n P):P us:=by
 induction us generalizing n P with
 |nil=>subst e;exact h
 |cons a l j=>subst e;exact j (P:=λl=>P (a::l)) rfl (h a)
local macro_rules | `(tactic|sleep 77) => `(tactic|(intro _ _ _ _ _ _ us hl;refine alV (P := fun us => bindArgs _ ⟨us, []⟩ = pure (List.zip _ us)) hl ?_;(repeat intro _);exact rfl))
def Dx(K:Y8)(x:Str)(st:Z3):Prop:=∃(f:Z7)(oc:iR)(od an:Option Z7)(sl:Array (Option iR))(kV d pm cd ct:iR),NsX K x f/\LkX K x x st f oc od an sl kV d pm cd ct/\CdX K cd x/\KpX K f
theorem qT{mg:Str->Option iR}(X:K.In h)(G:h.Ns j3 mg){st:Z3}{ps:List Str}(q:Dx K x st)(d:BdX x x st ps:=by sleep 77):qjw K mg x st ps:=by obtain⟨f,oc,od,an,sl,kV,b,pm,cd,ct,a,l,c,k⟩:=q;exact⟨f,_,ZY l c k,mg_of X G a,(ZY l c k).binds d⟩
set_option maxHeartbeats 0 in
theorem qjq{l:hV}{w:i3}{mg:Str->Option iR}{fa:Z7}(X:K.In h)(G:h.Ns j3 mg)(hfa:mg "law"=iO (.ref fa))(hz:zB K=iT)(ex:qgN K (CS.map (caK K)) (caK K "WordError")=iT)(q0:Dx K "is_between" xB)(q1:Dx K "check_room" xC)(q2:Dx K "is_numbers" xE)(q3:Dx K "check_numbers" wP)(q4:Dx K "is_letter" gm)(q5:Dx K "is_word" VD)(q6:Dx K "is_words" Qq)(q7:Dx K "check_words" yF)(q8:Dx K "is_look" VF)(q9:Dx K "check_look" xH)(q10:Dx K "letter_at" gt)(q11:Dx K "pairs" qaz)(q12:Dx K "told_pairs" xK)(q13:Dx K "is_odd" YG)(q14:Dx K "comes_to" Qt)(q15:Dx K "bars" qd6)(q16:Dx K "letters_of" xM)(q17:Dx K "other_letter" uL)(q18:Dx K "spread" YI)(q19:Dx K "ways_of" VN)(q20:Dx K "circles_of" xO)(q21:Dx K "first_odd" gy)(q22:Dx K "bar_of" YL)(q23:Dx K "bar" qig)(q24:Dx K "is_loose" Qx)(q25:Dx K "bound_pairs" yN)(q26:Dx K "unshared" Qz)(q27:Dx K "contrasts_of" uO)(q28:Dx K "may_differ" xS)(q29:Dx K "with_worth" xV)(q30:Dx K "can_be_filled" kf)(q31:Dx K "can_differ" xX)(q32:Dx K "least_worths" uR)(q33:Dx K "one_to_one" xZ)(q34:Dx K "all_looks" gG)(q35:Dx K "looks" qaH)(q36:Dx K "in_order" QC)(q37:Dx K "_law_cell_at" QE)(q38:Dx K "_law_mixed" YQ)(q39:Dx K "_law_draw" qaL)(q40:Dx K "_law_pick" qaN)(q41:Dx K "_law_word" qaP)(q42:Dx K "_law_words" YT)(q43:Dx K "_law_look" qaS)(q44:Dx K "_law_letter" VY)(q45:Dx K "_law_pairs" YW)(q46:Dx K "_law_seen" qaX)(q47:Dx K "_law_spread" VZ)(q48:Dx K "_law_solve" YY)(q49:Dx K "_law_pieces" Wb)(q50:Dx K "law" qdf) :
  ∃fd:lN,(∀(s:iV)(v:iR),nq s fd ⟨[v],[]⟩ [("_law_script",v)])/\∀base:Z5,K.In base->base.Ns j3 mg->FnOk l.prog w K mg base (CXk l.prog w) 20 fa fd ["_law_script"] (qdD K):=by
 obtain⟨f,_,_,_,_,_,_,_,_,_,b,la,d,k⟩:=q50;have e:=hfa.symm.trans (mg_of X G b);cases e;obtain⟨Z,cok⟩:=qkZ X G hz ex;have F:=ZY (st:=qdf) la d k;refine⟨?f,?x,λbase _ _=>?y⟩
 case y=>
  have Z:ZtE ⟨l.prog,w,K,mg,base,_⟩ _:=Z;have n:=Jt Z (qT X G q0);have m:=Ju Z (qT X G q1) n;have M:=Jv Z (qT X G q2) n;have j:=zg Z (qT X G q3) M;have R:=VC Z (qT X G q4);have o_is_word:=Zi Z (qT X G q5) R;have V:=Uk Z (qT X G q6) o_is_word;have a:=gX Z (qT X G q7) V;have o_is_look:=Zk Z (qT X G q8) n;have O:=Jx Z (qT X G q9) o_is_look;have P:=VI Z (qT X G q10);have g:=qc3 Z (qT X G q11) a O P;have D:=Jy Z (qT X G q12) m j g;have i:=qaB Z (qT X G q13);have o_comes_to:=Um Z (qT X G q14);have o_bars:=qfZ Z (qT X G q15) o_comes_to i;have o:=JA Z (qT X G q16);have u:=gx Z (qT X G q17);have o_spread:=qaE Z (qT X G q18) u;have o_ways_of:=Zl Z (qT X G q19) o o_spread;have N:=JB Z (qT X G q20);have S:=VQ Z (qT X G q21) i;have o_bar_of:=qaF Z (qT X G q22) i o_bars o_ways_of N S;have o_bar:=qii Z (qT X G q23) D o_bar_of;have W:=Uo Z (qT X G q24);have B:=gZ Z (qT X G q25) W;have U:=Up Z (qT X G q26);have A:=gE Z (qT X G q27) U;have J:=JD Z (qT X G q28);have C:=JE Z (qT X G q29);have p:=zj Z (qT X G q30) J C;have r:=JF Z (qT X G q31) o B A p;have L:=Qb Z (qT X G q29);have z:=gF Z (qT X G q32) o L r;have I:=JI Z (qT X G q33) m g r z;have T:=VU Z (qT X G q34);have o_looks:=qc5 Z (qT X G q35) a T g r;have Y:=Us Z (qT X G q36) g o_bar;have o_Lcell_at:=Ut Z (qT X G q37);have o_Lmixed:=qaK Z (qT X G q38) o_Lcell_at;have c:=qc7 Z (qT X G q39) o_Lmixed;have o_Lpick:=qc8 Z (qT X G q40) c;have o_Lword:=qc9 Z (qT X G q41) c o_Lpick;have o_Lwords:=qaR Z (qT X G q42) c o_Lpick o_Lword;have o_Llook:=qdb Z (qT X G q43) c;have o_Lletter:=Zq Z (qT X G q44);have t:=qaW Z (qT X G q45) o_Lletter;have o_Lseen:=qdd Z (qT X G q46) t;have o_Lspread:=Zr Z (qT X G q47);have o_Lsolve:=qaZ Z (qT X G q48) t o_Lseen o_Lspread;have o_Lpieces:=Zs Z (qT X G q49) t o_Lseen;exact(qim Z F o_bar I o_looks Y c o_Lwords o_Llook o_Lsolve o_Lpieces).imp λvs H Q E q=>qk0 cok vs H Q E q
 exact λs v=>.of_eq rfl
theorem ql6{l:hV}{q:iZ}{loose:List Str}{XP:(Str->Option iR)->Z5->Prop}{YP:i3->Z5->Prop}{d:DefRec}{K:mE->Y8}(hn:l.most=iO 63)(hdf:d.params.defaults=[])(B:∀(w:i3)(h:Z5),YP w h->(K w.params).In h)(F:∀(w:i3)(mg:Str->Option iR)(fa:Z7)(h:Z5),(K w.params).In h->h.Ns j3 mg->mg d.name=iO (.ref fa) ->∃fd:lN,(∀(s:iV)(u:iR),nq s fd ⟨[u],[]⟩ [("_law_script",u)])/\∀base:Z5,(K w.params).In base->base.Ns j3 mg->FnOk l.prog w (K w.params) mg base (CXk l.prog w) 20 fa fd ["_law_script"] (qdD (K w.params))) :
  PySem.W.WalkO q loose XP YP l.row.toRowW d [] (λf vs=>iM f vs):=
 L2.qe0 (n:=63) (k:=20) (x := "_law_script") (CX:=λw=>CXk l.prog w) (sp:=λw=>qdD (K w.params)) hn (by decide) hdf ⟨rfl,by decide,by decide⟩ B F (λ_ _ a ns hl _ S=>⟨a,ns,rfl,S,λ_=>rfl⟩) λw H s e s' z=>by obtain⟨ex,T,C,H',_,_,_,_,_,_,_,_,_,_,q⟩:=z;exact q.elim
end Kx
open PySem PySem.W PyProof.Rows
set_option maxRecDepth 100000 in
set_option maxHeartbeats 0 in
theorem PySem.Challenge.cw_lookwords_k06_whole_looks_holds : PySem.Challenge.rw_lookwords_k06_whole_looks.Holds := by
  refine Kx.hd ?_;k_fill
  refine Kx.ql6 (l := PySem.Challenge.rw_lookwords_k06_whole_looks) rfl rfl (λw h Y => PySem.W.kIn_of Y) ?F
  case F =>
    intro w mg fa h X G c;apply Kx.qjq X G c;all_goals try first|k_is|(unfold Kx.NsX;k_is)|exact⟨_, _, _, _, _, _, _, _, _, _, by unfold Kx.NsX;k_is, by unfold Kx.LkX;k_is, by unfold Kx.CdX;k_is, by unfold Kx.KpX;k_is⟩|exact⟨_, _, _, _, _, _, _, _, _, _, by k_is, by unfold Kx.LkX;k_is, by unfold Kx.CdX;k_is, by unfold Kx.KpX;k_is, by k_is⟩|(unfold Kx.KpX;k_is)|kernel_rfl
