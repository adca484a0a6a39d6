import PyProof.Rows.All
import KE.KTryMore
import KE.KDictOf
import KE.KItem
import KE.KRevIter
import KE.KItemsList
import PySem.Challenge.RW_lookwords_k20_whole_renamed
open Option renaming some→iE,none→iG
open PySem renaming wpAny_bind→iF,Value→iH,Shared→iK,wpAny_pure→iL,wpAny→iM,starEach→iN,bootBuiltins→iO,mainGlobals→iP,Program→iQ,World→iR,compareOp→iS,sizeLine_eq→iT,wpAny_callSpecial?_slot→iU,wpAny_call_entry→iV,wpAny_holding→iW,Around→iX,wpAny_newObj_type→iY,wpAny_seqItems→iZ,wpAny_field→i3,codeAny_builtin→i4,builtinLookup_eq_fast→i5,rawInt→i6,IsPair→i8,Keyword→i9,attributeBase→j0,wpAny_Call_Name_kw→j3,wpAny_askSetting→j4,wpAny_attempt→j5,backTo→j6,wpAny_truthy_bool→j7,wpAny_setState_of→j8,keywordEach→j9,pyNext→k4,binaryOp→k6,cLine→k7,sysModules→k8,wpAny_isInstance→k9,wpAny_setField_rec→lc,plainId_quiet→lf,assignEach→lg,typeLookup_type→lh,getattributeRaised→li,wpAny_setField→lj,wpAny_passesOwn→lm,OsState→lp,foldedSetIterable→lq,wpAny_setEntries_of→lr,NameKind→lu,tupleKind_room_in1→lv,wpAny_pyIter_tuple→lw,wpAny_typeOf→lx,FuncData→lz,backToKw→lA,swapsWith→lB,behindInMarks→lC,wpAny_rule→lE,isSubtype_type→lF,firstArgMember→lG,codeAny→lI,bindArgs→lJ,Draws→lK,typeLookup→lL,call_meets→lM,treeTable→lN,sliceBounds→lO,pickOrder→lP,wpAny_pyIter_list→lQ,fits_of_scanBound→lR,Scope→lU,wpAny_mono→lV,scanBound→lW,SetTable→lZ,importedModules→l3,wpAny_execs_nil→l4,letOwnedTupleGo→l5,wpAny_loadPart'→l6,IsZip→l7,codeAny_mono→l9,Params→mh,wpAny_fieldsOf→mi,isSubtype_stop→mj,setsByText→ml,wpAny_onRaise→mn,tupleKind→mq,seqIndex?→my,getAttr?→mz,relayAll→mB,pyIter→mE,concat_meets→mF,setNext→mG,ItemsOf→mH,Paired→mJ,entryFor→mK,wpAny_of_eq→mL,wpAny_letGo→mM,DictEntry→mO,callerA→mP,valueAt→mQ,Result→mR,setEntries→mT,GenState→mU,BindsTo→mV
open Bool renaming false→iI,true→iJ
open PySem.W renaming mg_none_of→i7,boot_heap→ll,behindTheImports→lH,openGood→lY,mg_of→mC,boot_drawn→mD,topFrame→mI,keepIn→mS
open PyProof.Rows renaming seqObj→lT,StrsAre→lX,AllBare→l8,envOfC→mm
open PySem.Heap renaming get?_push_of_some→aa,get?_push_size→ao,lt_size→ay,get?_update_self→be,size_push→bh,SameBut→bC,get?_update_other→cq,ExtBut→ia
open List renaming mem_cons_of_mem→ac,mem_cons→ae,length_map→af,mem_map→ah,length_append→ai,mem_append→aj,mem_cons_self→ap,length_cons→aq,mem_singleton→au,getElem?_eq_getElem→aw,size_toArray→ax,getElem?_set_ne→aB,map_cons→aC,getElem?_eq_some_iff→aD,range→aE,getElem?_map→aF,nodup_cons→aH,all_eq_true→aJ,mem_range→aM,getElem?_set_self→aO,map_map→aR,append_assoc→aV,mem_append_right→aX,append_nil→aY,not_mem_nil→bb,length_nil→bf,find?_cons_of_neg→bg,mem_filter→br,getElem_mem→bt,mem_of_find?_eq_some→bv,find?_cons_of_pos→bx,getElem?_eq_none→bA,mem_of_getElem?→bG,pairwise_cons→bH,length_range→bK,map_nil→bM,foldl_cons→bN,find?_eq_none→bP,length_pos_of_mem→bS,map_append→bV,nil_append→bW,length_take→bY,any_cons→b7,getElem?_cons_succ→cc,getElem?_cons_zero→ce,map_congr_left→ck,getElem?_append_right→cr,nodup_nil→cx,find?_cons→cy,nodup_append→cC,length_erase_of_mem→cH,replicate_zero→cK,mem_flatMap→cR,length_range'→cZ,length_set→c6,length_singleton→c8,length_filter_le→c9,reverse_cons→de,ext_getElem?→dg,flatMap_cons→dh,pairwise_map→dj,mem_iff_getElem→dw,length_eraseIdx_of_lt→dA,getD_eq_getElem?_getD→dB,range'→dD,zipIdx_cons→dE,getElem?_append_left→dF,pairwise_iff_getElem→dI,filterMap_cons→dJ,forIn_cons→dR,getElem?_replicate→dU,length_eq_zero_iff→dY,filter_cons_of_pos→d8,length_replicate→eu,getElem?_toArray→eI,mem_of_mem_erase→eJ,getElem_inj→eU,lookup_cons→eX,any_eq_true→eY,mem_append_left→fk,mem_erase_of_ne→fq,filter_map→fz,filter_eq_self→fB,mem_filterMap→fF,replicate→fG,forIn_nil→fI,all_cons→fQ,cons_append→fV,nodup_range→fW,zip→fX,zipWith→f7,map_id'→f9,Nodup→g0,of_mem_zip→g6,sum_append→hJ,find?_some→hV,length→iw
open Nat renaming le_refl→aA,ne_of_lt→aG,lt_of_lt_of_le→aI,zero_le→bo,le_trans→bI,ne_of_gt→bQ,lt_irrefl→b6,le_of_lt→cU,not_lt_zero→c7,lt_succ_of_lt→df,lt_trans→ej,le_succ→fm,le_antisymm→fy,sub_self→fC,le_add_right→fU,le_of_eq→fZ,succ→h8
open Option renaming some→aK,map_eq_some_iff→aN,bind_eq_some_iff→b8,isSome_map→fM
open PySem.PassesOwn renaming leaving→aL
open PySem.Str renaming ofString→aP,length→fY
open PySem.Builtin.SmallTypes renaming nextOf→aQ,ownedTupleIsFree→aT
open Bool renaming and_eq_true→aS,false_ne_true→bF,false_eq_true→cW,or_eq_true→g9
open Sum renaming inr→aU,inl→fg
open Classical renaming byContradiction→aZ
open PySem.Around renaming under_plainId→ba
open PyProof.Rows renaming callWith_type1→bi
open PySem.Builtin.List renaming listExtendWith→bj,listSameRef→cG,listTooLong→dN
open Array renaming getElem?_toList→bn,length_toList→bp,getElem?_eq_getElem→bJ,getElem?_eq_none→cX,mk→hZ
open PySem.Heap.SameBut renaming update→bq
open PySem.SetTable renaming below→bu,grown→cM,laid→im
open Ne renaming symm→bw
open PySem.NameKind renaming free→bz
open PySem.F renaming slot_zip_next→bB,called_set→bO,slot_tuple_iterator_next→bR,plainAttrs_list→b9,args_zip_next_1→cO,entry_zip_next→cY,slot_tuple_getattribute→dG,args_tuple_add_2→dL,slot_list_getattribute→dQ,entry_tuple_add→dX,slot_zip_getattribute→d4,slot_tuple_add→eh,slot_dict_get→eG
open Int renaming emod_eq_of_lt→bD,emod_lt_of_pos→bZ,emod_eq_zero_of_dvd→cg,emod_nonneg→cA,toNat_natCast→cB,dvd_of_emod_eq_zero→cS,dvd_sub→cT,dvd_self_sub_emod→db,eq_ofNat_of_zero_le→d6,dvd_add→d7,mul_assoc→fR,mul_sub→ic,dvd_neg→ig,one_mul→iA
open Or renaming inl→bE,inr→cP
open PySem.Value renaming str→bL,ref→bT,none→bX,isStrOf_shape→cI,bool→dm,isStrOf→eZ,int→fE,builtin→ii,type→iq
open PySem.W renaming hideAll→bU,fnOf→cm,kitOne→cu,kia_one→cz,excIn→dP,hideAll_none→fj,hideAll_get→fA,exmOne→fH,methodObj→fK,OpenLaw→g7
open ForInStep renaming yield→ci
open PySem.Builtin.Frozenset renaming updateFrom→cj
open List.Perm renaming refl→cw,swap→ib
open PySem.Obj renaming mapSeq→cF,putSet→ir
open PySem renaming mem_of_lookup→cJ,call→iB
open PySem.Builtin.Dict renaming updateFrom→cL
open PySem.Builtin.Str renaming occurrences→cQ
open PySem.Calls renaming spliced_cons→cV,evalArgs_plain→dq,call_function_entry→dH,spliced_nil→d9,callWith_builtin→ei
open False renaming elim→dn
open Eq renaming trans→dO
open True renaming intro→dS
open PyProof.Rows.F renaming plain_set_update_loop→dZ
open List.Pairwise renaming imp→et,nil→fL,map→fN
open PySem.Shared renaming TypeIs→fh
open PySem.Draws renaming strAscii→fJ
open List.Sublist renaming refl→fO
open PySem.Paired renaming length→fP
open PySem.Txt renaming join→fS,partition→ip
open PySem.Heap.DictOf renaming new→g8
open Prod renaming ext→h7
open PySem.IsRange renaming new→iu
open PySem.Walks renaming list→iC
theorem Aa {c:Prop}{h:Decidable c}(k:c){a:Sort _}{t e:a}:ite c t e=t:=if_pos k
theorem Ab {c:Prop}{h:Decidable c}(k:¬c){a:Sort _}{t e:a}:ite c t e=e:=if_neg k
theorem Ac {p:Prop}[h:Decidable p](k:¬p):decide p=false:=decide_eq_false k
theorem Ad {p:Prop}[h:Decidable p](k:p):decide p=true:=decide_eq_true k
theorem Ae {p:Prop}[h:Decidable p](k:decide p=true):p:=of_decide_eq_true k
noncomputable section
open PySem.W (Frag nsIn keepIn codeIn mg_of mg_none_of)
set_option Elab.async false
set_option linter.all false
set_option maxRecDepth 100000
namespace Kx
noncomputable section
open PySem PySem.W PySem.Calls PyProof.Rows
noncomputable def zP:Pos:=⟨0,0,0,0⟩
noncomputable def anV:Option iH:=iE (.ref 6)
noncomputable def hA (P:mh):List Obj:=(ll P).objs.toList++[⟨.type "tuple",iG,.seq #[] 0,#[]⟩,⟨.none,iG,.fields #[],#[]⟩,
 ⟨.type "code",iG,.fields #[.str "<module>" 182,.str "<module>" 183,.str "/claim/cut.py" 184,.int 1 0,.int 0 0,.int 0 0,.int 0 0,.int 0 0,.ref 11,.bool iI,.int 181 0,.ref 12,.none,.none,.none,.none,.int 185 0,.int 1 0,.str "/claim/cut.py" 186],#[]⟩,
 ⟨.type "frame",iG,.plain,#[iE (.ref 13),iE (.ref 3),iE (.ref 3),iG,iE (.str "__main__" 164),iG,iE (.ref 0)]⟩]
noncomputable def enP (p:iQ):Env:={ scope:=p.main.scope,locals:=mainNs,globals:=mainNs,cells:=[],code:=.ref 13,frame:=iE 14 }
noncomputable def cdP (p:iQ):Code:=.body (lH p) (enP p)
noncomputable def trA:List Obj->Nat->BT->BT
 | [],_,t=>t
 | o::l,i,t=>trA l (i+1) (t.ins i o)
noncomputable def SA (w:iR) (os:lp):SharedT:=⟨trA (hA w.params) 0 .nil,15,(ll w.params).life,hZ [],mD,187,os⟩
noncomputable def kH (P:mh) (s:Str) (t:Nat) (v:iH):mO:=⟨PyData.keyHash P s,.str s t,v⟩
noncomputable def eM:iH:=.str "lookwords.errors" 187
noncomputable def eT (a:List iH):Obj:=⟨.type "tuple",iG,.seq ⟨a⟩ 0,#[]⟩
noncomputable def eF (c:iH) (a:List iH):Obj:=⟨c,iG,.fields ⟨a⟩,#[]⟩
noncomputable def eB:iH:=.type "builtin_function_or_method"
noncomputable def eD (a:List mO) (n:Nat):Obj:=⟨.type "dict",iG,.dict ⟨a⟩ n,#[]⟩
noncomputable def eA (P:mh) (s:Str) (b:iH) (n t l:Nat):List Obj:=[eT [b],eF eB [.builtin "type.__prepare__",.type "type"],
 eD [kH P "__module__" (t+7) eM,kH P "__qualname__" (t+9) (.str s (t+8)),kH P "__firstlineno__" (t+11) (.int l (t+10)),kH P "__static_attributes__" (t+12) (.ref (n+7))] 4,
 eT [],eF .none [],eF (.type "code") [.str s (t+2),.str s (t+3),.str "/claim/cut.py" (t+4),.int l 0,.int 0 0,.int 0 0,.int 0 0,.int 0 0,.ref (n+3),.bool iI,.int 181 0,.ref (n+4),.none,.none,.none,.none,.int ((t+5:Nat):Int) 0,.int l 0,.str "/claim/cut.py" (t+6)],
 ⟨.type "frame",iG,.plain,#[iE (.ref (n+5)),iE (.ref 3),iE (.ref (n+2)),iG,iE eM,iG,iE (.ref 0)]⟩,eT []]
noncomputable def eC (s:Str) (b:iH) (n t:Nat) (m sub:List iH):Obj:=⟨.type "type",iG,.cls { name:=s,bases:=[b],mro:=.ref (n+9)::m,ns:=n+8,qualname:=s,subclasses:=sub },#[iE (.ref n),iG,iE (.str s t),iE (.str s (t+8)),iE (.builtin "ValueError.__new__"),iE (.bool iJ)]⟩
noncomputable def eS (a:Nat):List Obj:=[eF (.type "super") [.ref a,.ref a,.ref a],eF eB [.builtin "object.__init_subclass__",.ref a]]
noncomputable def eK (P:mh) (t l:Nat) (n:Nat):List mO:=[kH P "__module__" (t+7) eM,kH P "__firstlineno__" (t+11) (.int l (t+10)),kH P "__static_attributes__" (t+12) (.ref (n+7))]
noncomputable def eV:List iH:=[.type "ValueError",.type "Exception",.type "BaseException",.type "object"]
noncomputable def eL (P:mh):List Str->Nat->Nat->Nat->List Obj
 | [],_,_,_=>[]
 | s::r,n,t,l=>eA P s (.ref 24) n t l++eD (eK P t l n++[kH P "__doc__" (t+13) .none]) 2::eC s (.ref 24) n t (.ref 24::eV) []::eS (n+9)++eL P r (n+12) (t+16) (l+2)
noncomputable def eE (P:mh):List Str->Nat->Nat->List mO
 | [],_,_=>[]
 | s::r,n,t=>kH P s (t+15) (.ref (n+9))::eE P r (n+12) (t+16)
noncomputable def eR:Nat->Nat->List iH
 | 0,_=>[]
 | k+1,n=>.ref n::eR k (n+12)
noncomputable def eQ:Nat->Nat->Nat->List iH
 | 0,_,_=>[]
 | k+1,n,l=>.int l 0::.int 0 0::.ref n::eQ k (n+12) (l+2)
noncomputable def eO (P:mh) (L:List Str):Obj:=match (boot_o_3 P).data with
 | .dict a _=>eD (kH P "__name__" 165 eM::a.toList.drop 1++kH P "WordError" 206 (.ref 24)::eE P L 28 207) (L.length+10)
 | _=>eT []
noncomputable def hC (P:mh) (L:List Str):List Obj:=(hA P).take 3++eO P L::((hA P).drop 4).take 8++eF .none (.int 2 0::.int 0 0::.ref 20::eQ L.length 33 4)::(hA P).drop 13 ++
 eA P "WordError" (.type "ValueError") 15 189 2++eD (eK P 189 2 15++[kH P "__weakref__" 203 (.ref 25),kH P "__doc__" 204 .none]) 3::eC "WordError" (.type "ValueError") 15 189 eV (eR L.length 37) ::
 eF (.type "getset_descriptor") [.str "__weakref__" 202,.ref 24,.builtin "ExceptionGroup.__weakref__",.none]::eS 24++eL P L 28 207 4
noncomputable def SC (L:List Str) (w:iR) (os:lp):SharedT:=⟨trA (hC w.params L) 0 .nil,12 * L.length+28,(ll w.params).life,hZ [],mD,16 * L.length+207,os⟩
noncomputable def zC (L:List Str):Pos:=⟨2 * L.length+2,0,2 * L.length+3,8⟩
noncomputable def Gi (L:List Str) (p:iQ) (w:iR) (M:Nat) (os:lp):Option (Flow×Code×iK):=
 (segRunT lN p w 11 anV 1 M (SC L w os) (piecesOf ((lH p).drop (L.length+2)) (enP p) (cdP p) (zC L) [mI zP])).bind λr=>
  (topRun lN p w 11 anV 5 r.2.1.abs (restOf [] (enP p) (cdP p) r.2.2.2 [mI zP])).map λs=>(r.1,r.2.2.1,s)
abbrev qeQ (p:iQ) (w:iR) (x:Flow×Code×iK):=
 (x.1,x.2.1,(staticsOk (l3 p.main.body) (ll w.params) x.2.2.heap&&namesBound p x.2.2.heap&&gensDone x.2.2&&laidKept (ll w.params) x.2.2.heap))
abbrev KZ (p q:iQ) (loose:List Str) (Xt:iK->Bool) (x:Flow×Code×iK):=openSeen q loose (l3 p.main.body) Xt iJ x.2.2
theorem left_T {L:List Str} {p q:iQ} {loose:List Str} {Xt:iK->Bool} {α:Type} {Yf:iK->α} {Ya:iR->α} {N M:Nat}
  (e:opening p=plainProg p.main.scope.names) (hN:Nat.ble 600 N=iJ) (f:∀ s,fenceModules? p s=iE s)
  (size:∀ w:iR,((ll w.params).isNs iP&&(hZ []:Array mU).size == 0,(ll w.params).objs.size,(ll w.params).nsMap iP "__annotations__")=(iJ,11,anV))
  (pre:∀ (w:iR) (os:lp),topGo lN p w 11 anV 12 ⟨ll w.params,hZ [],mD,boot_toks,os⟩ (topStub p)=iE ((SA w os).abs,⟨denote lN (cdP p),cdP p,zP,[mI zP]⟩))
  (blk:∀ (w:iR) (os:lp),segRun lN p w 11 anV 1 1 (SA w os).abs (blockOf (lH p) (enP p) (cdP p) zP [mI zP])=iE (.next,(SA w os).abs,cdP p,zP))
  (le:Nat.ble (12+(1+(3500+(M+5)))) N=iJ)
  (m6:∀ (w:iR) (os:lp),segRunT lN p w 11 anV 1 3500 (SA w os) (piecesOf ((lH p).take (L.length+2)) (enP p) (cdP p) zP [mI zP])=iE (.next,SC L w os,cdP p,zC L))
  (m0:∀ (w:iR) (os:lp),(Gi L p w M os).map (qeQ p w)=iE (.next,cdP p,iJ))
  (m1:∀ (w:iR) (os:lp),(Gi L p w M os).map (λx=>(KZ p q loose Xt x).1)=iE (lY q loose).1)
  (m3:∀ (w:iR) (os:lp),(Gi L p w M os).map (λx=>(KZ p q loose Xt x).2.1)=iE (lY q loose).2.1)
  (m4:∀ (w:iR) (os:lp),(Gi L p w M os).map (λx=>(KZ p q loose Xt x).2.2.1)=iE (lY q loose).2.2.1)
  (m5:∀ (w:iR) (os:lp),(Gi L p w M os).map (λx=>(KZ p q loose Xt x).2.2.2)=iE (lY q loose).2.2.2)
  (m2:∀ (w:iR) (os:lp),(Gi L p w M os).map (λx=>Yf x.2.2)=iE (Ya w)):LeftO p q loose Xt Yf Ya N:=λw=>by
 obtain ⟨⟨h,gs,d,k,os⟩,a,a'⟩:=aN.mp (boot_open e hN f w)
 obtain ⟨rfl,rfl,rfl,rfl⟩:h=ll w.params/\gs=hZ []/\d=mD/\k=boot_toks:=by simpa using a'
 obtain ⟨x,hx,hl⟩:=aN.mp (m0 w os)
 have l2:openSeen q loose (l3 p.main.body) Xt iJ x.2.2=lY q loose:=by
  have a1:=m1 w os
  have a3:=m3 w os
  have a4:=m4 w os
  have a5:=m5 w os
  rw [hx] at a1 a3 a4 a5
  exact h7 (aK.inj a1) (h7 (aK.inj a3) (h7 (aK.inj a4) (aK.inj a5)))
 obtain ⟨y,hy,hY⟩:=aN.mp (m2 w os)
 obtain rfl:y=x:=aK.inj (hy.symm.trans hx)
 obtain ⟨r,hr,hz⟩:=b8.mp hx
 obtain ⟨s,hs,rfl⟩:=aN.mp hz
 obtain ⟨fl,st,co,po⟩:=r
 unfold qeQ at hl
 simp only [Prod.mk.injEq] at hl
 obtain ⟨rfl,rfl,l1⟩:=hl
 have t1:=piece_app (rest:=[]) (segRun_of hr) hs
 rw [aY] at t1
 have t1:=piece_app (segRun_of (m6 w os)) t1
 rw [List.take_append_drop] at t1
 have t2:=piece_block (blk w os) t1
 have t3:=topRun_mono (N - (12+(1+(3500+(M+5))))) _ _ _ _ (go_top (pre w os) t2)
 rw [show 12+(1+(3500+(M+5)))+(N - (12+(1+(3500+(M+5)))))=N by have:=Nat.le_of_ble_eq_true le; omega] at t3
 obtain ⟨z1,z2,z3⟩:_/\_/\_:=by simpa only [Prod.mk.injEq] using size w
 have t:topFrom lN p w N ⟨ll w.params,hZ [],mD,boot_toks,os⟩=iE s:=by
  unfold topFrom
  dsimp only
  rw [z1,z2,z3,t3]
  show (match staticsOk (l3 p.main.body) (ll w.params) s.heap&&namesBound p s.heap&&gensDone s&&laidKept (ll w.params) s.heap with | true=>_ | false=>_)=_
  rw [l1]
 unfold openEnds
 rw [a]
 show (topFrom lN p w N _).map _=_
 rw [t]
 exact congrArg iE (h7 l2 hY)
end
end Kx
noncomputable section
open PySem PySem.W PyProof.Rows
noncomputable def Kx.vq:iQ:=view PySem.Challenge.pw_lookwords_k20_whole_renamed [1,2,3,4,5,6,7,9,10,11,12,13,14,15,16,17,18,19,20,21,22,23,24,25,26,28,29,30,31,33,34,35,36,37,38,39,40,41,42,43,44,45,46,48,49,50,51,52,53,54,55,56,57,58,59,60,61,63,64,65,67,69,70,71,72,73,74,75,76,77,78,79,80,81]
noncomputable def Kx.eN:List Str:=["NoWords", "NoLook", "NoNumbers", "NoRoom", "Never", "NoLetters"]
noncomputable def Kx.xt (s:iK):Bool:=xlAt Kx.vq [] s&&recOk (RowW.records (OpenRow.toRowW (OpenLaw.row PySem.Challenge.rw_lookwords_k20_whole_renamed))) s
theorem Kx.m6:∀ (w:iR) (os:lp),segRunT lN PySem.Challenge.pw_lookwords_k20_whole_renamed w 11 Kx.anV 1 3500 (Kx.SA w os) (piecesOf ((lH PySem.Challenge.pw_lookwords_k20_whole_renamed).take (Kx.eN.length+2)) (Kx.enP PySem.Challenge.pw_lookwords_k20_whole_renamed) (Kx.cdP PySem.Challenge.pw_lookwords_k20_whole_renamed) Kx.zP [mI Kx.zP])=iE (.next,Kx.SC Kx.eN w os,Kx.cdP PySem.Challenge.pw_lookwords_k20_whole_renamed,Kx.zC Kx.eN):=by intro w os; kernel_rfl
theorem Kx.m0:∀ (w:iR) (os:lp),(Kx.Gi Kx.eN PySem.Challenge.pw_lookwords_k20_whole_renamed w 15000 os).map (Kx.qeQ PySem.Challenge.pw_lookwords_k20_whole_renamed w)=iE (.next,Kx.cdP PySem.Challenge.pw_lookwords_k20_whole_renamed,iJ):=by intro w os; kernel_rfl
theorem Kx.m1:∀ (w:iR) (os:lp),(Kx.Gi Kx.eN PySem.Challenge.pw_lookwords_k20_whole_renamed w 15000 os).map (λx=>(Kx.KZ PySem.Challenge.pw_lookwords_k20_whole_renamed Kx.vq [] Kx.xt x).1)=iE (lY Kx.vq []).1:=by intro w os; kernel_rfl
theorem Kx.m3:∀ (w:iR) (os:lp),(Kx.Gi Kx.eN PySem.Challenge.pw_lookwords_k20_whole_renamed w 15000 os).map (λx=>(Kx.KZ PySem.Challenge.pw_lookwords_k20_whole_renamed Kx.vq [] Kx.xt x).2.1)=iE (lY Kx.vq []).2.1:=by intro w os; kernel_rfl
theorem Kx.m4:∀ (w:iR) (os:lp),(Kx.Gi Kx.eN PySem.Challenge.pw_lookwords_k20_whole_renamed w 15000 os).map (λx=>(Kx.KZ PySem.Challenge.pw_lookwords_k20_whole_renamed Kx.vq [] Kx.xt x).2.2.1)=iE (lY Kx.vq []).2.2.1:=by intro w os; kernel_rfl
theorem Kx.m5:∀ (w:iR) (os:lp),(Kx.Gi Kx.eN PySem.Challenge.pw_lookwords_k20_whole_renamed w 15000 os).map (λx=>(Kx.KZ PySem.Challenge.pw_lookwords_k20_whole_renamed Kx.vq [] Kx.xt x).2.2.2)=iE (lY Kx.vq []).2.2.2:=by intro w os; kernel_rfl
local macro_rules | `(tactic| o_head $H) => `(tactic| (refine holds_open (q := Kx.vq) (loose := []) (Xt := Kx.xt) (XP := XL Kx.vq []) (Yf := Hook.obs $H) (Ya := Hook.val $H) (YP := Hook.says $H) (N := 20000) ?hl (Hook.of $H) (Hook.keeps $H) (fun s e => xl_of s (Bool.and_eq_true_iff.mp e).1) XL.keeps (by rfl) (by rfl) (by rfl) (fun s e => recFacts_of (Bool.and_eq_true_iff.mp e).2) (by rfl) (by first | assumption | decide +kernel) (by decide +kernel) ⟨rfl, rfl, rfl, rfl, rfl, by decide +kernel⟩ ?hw ?hc; (case hl => refine Kx.left_T (p := PySem.Challenge.pw_lookwords_k20_whole_renamed) (M := 15000) ?e rfl ?f ?s ?p ?b rfl Kx.m6 Kx.m0 Kx.m1 Kx.m3 Kx.m4 Kx.m5 ?m; (case e => kernel_rfl); (case f => intro s; kernel_rfl); (case s => intro w; kernel_rfl); (case p => intro w os; kernel_rfl); (case b => intro w os; kernel_rfl); (case m => intro w os; kernel_rfl))))
set_option maxHeartbeats 0 in
open_top Kx.hd for PySem.Challenge.rw_lookwords_k20_whole_renamed
end
namespace L2
open PySem PySem.Spec PyProof.Rows
abbrev Key:=Sum Int Str
noncomputable def xG:Key->iH->Bool
 | .inl k,v=>Value.isInt k v
 | .inr x,v=>eZ x v
noncomputable def qlP (w:iR):Key->Int
 | .inl k=>hashInt k
 | .inr x=>hashStr w x
theorem jq:∀ {k:Key} {v:iH},xG k v=iJ->(∃ i t,k=fg i/\v=fE i t)\/(∃ x t,k=aU x/\v=bL x t)
 | .inl i,v,h=>by obtain ⟨t,e⟩:=Value.isInt_shape (k:=i) (v:=v) h;exact .inl ⟨i,t,rfl,e⟩
 | .inr x,v,h=>by obtain ⟨t,e⟩:=cI (x:=x) (v:=v) h;exact .inr ⟨x,t,rfl,e⟩
theorem Va (i:Int) (t:Tok):xG (.inl i) (.int i t)=true:=by simp [xG,Value.isInt]
theorem Vb (x:Str) (t:Tok):xG (.inr x) (.str x t)=true:=by simp [xG,eZ]
theorem qg4 (a b:Int):decide ((fg a:Key)=fg b)=(a == b):=by
 by_cases e:a=b;·subst e; simp
 ·have h:¬(fg a:Key)=fg b:=λq=>e (fg.inj q);rw [Ac h];exact (beq_eq_false_iff_ne.mpr e).symm
theorem qg5 (a b:Str):decide ((aU a:Key)=aU b)=decide (a=b):=by
 by_cases e:a=b;·subst e; simp
 ·have h:¬(aU a:Key)=aU b:=λq=>e (aU.inj q);rw [Ac h,Ac e]
theorem qg6 (a:Int) (b:Str):decide ((fg a:Key)=aU b)=false:=Ac (λq=>nomatch q)
theorem qg7 (a:Str) (b:Int):decide ((aU a:Key)=fg b)=false:=Ac (λq=>nomatch q)
noncomputable def qP (prog:iQ) (w:iR):PySem.KeyKind prog w Key where
 is:=xG
 hash:=qlP w
 inj:=λv a b g d=>by
  rcases jq g with ⟨i,t,rfl,rfl⟩ | ⟨x,t,rfl,rfl⟩
  ·rcases jq d with ⟨j,u,rfl,e⟩ | ⟨y,u,rfl,e⟩
   ·injection e with e1 _; rw [e1]
   ·exact nomatch e
  ·rcases jq d with ⟨j,u,rfl,e⟩ | ⟨y,u,rfl,e⟩
   ·exact nomatch e
   ·injection e with e1 _; rw [e1]
 byValue:=λk v h=>by rcases jq h with ⟨i,t,rfl,rfl⟩ | ⟨x,t,rfl,rfl⟩ <;> rfl
 pyHash:=λc h=>by
  rcases jq c with ⟨i,t,rfl,rfl⟩ | ⟨x,t,rfl,rfl⟩
  ·exact wpAny_pyHash_int h
  ·exact wpAny_pyHash_str h
 eqBool:=λf c h=>by
  rcases jq f with ⟨i,t,rfl,rfl⟩ | ⟨x,t,rfl,rfl⟩
  ·rcases jq c with ⟨j,u,rfl,rfl⟩ | ⟨y,u,rfl,rfl⟩
   ·rw [qg4] at h; exact wpAny_eqBool_int h
   ·rw [qg6] at h; exact SeqAt.EqAt.int_str i t y u _ _ _ _ h
  ·rcases jq c with ⟨j,u,rfl,rfl⟩ | ⟨y,u,rfl,rfl⟩
   ·rw [qg7] at h; exact SeqAt.EqAt.str_int x t j u _ _ _ _ h
   ·rw [qg5] at h; exact wpAny_eqBool_str h
 «strs»:=λk x t v h=>by
  rcases jq h with ⟨i,u,rfl,e⟩ | ⟨y,u,rfl,e⟩
  ·exact nomatch e
  ·injection e with e1 _;subst e1;cases v <;> rfl
theorem WL (prog:iQ) (w:iR) (i:Int) (t:Tok):(qP prog w).is (.inl i) (.int i t)=true:=Va i t
theorem WM (prog:iQ) (w:iR) (x:Str) (t:Tok):(qP prog w).is (.inr x) (.str x t)=true:=Vb x t
inductive V where
 | non | bl (b:Bool) | int (i:Int) | str (x:Str) | byt (b:Array UInt8) | flt (b:UInt64) | ref (a:Addr) | ty (n:String)
 deriving DecidableEq
def RelV:V->iH->Prop
 | .non,u=>u=bX
 | .bl b,u=>u=dm b
 | .int i,u=>∃ t,u=fE i t
 | .str x,u=>∃ t,u=bL x t
 | .byt b,u=>∃ t,u=Value.bytes b t
 | .flt b,u=>∃ t,u=Value.float b t
 | .ref a,u=>u=bT a
 | .ty n,u=>u=iq n
abbrev Vals:List V->List iH->Prop:=mJ RelV
variable {xs:List V} {us:List iH}
theorem Vals.length (r:Vals xs us):xs.length=us.length:=fP r
theorem Vals.get:∀ {xs:List V} {us:List iH} {i:Nat} {x:V},Vals xs us->xs[i]?=iE x->∃ u,us[i]?=iE u/\RelV x u
 | _,_,_,_,.nil,e=>by simp at e
 | _,_,0,_,.cons r _,e=>by simp at e; subst e; exact ⟨_,rfl,r⟩
 | _,_,i+1,x,.cons _ t,e=>by obtain ⟨u,h1,h2⟩:=Vals.get (i:=i) (x:=x) t (by simpa using e);exact ⟨u,by simpa using h1,h2⟩
variable {u:iH}
theorem Vals.set {x:V} (r:RelV x u):∀ {xs:List V} {us:List iH} (i:Nat),Vals xs us->Vals (xs.set i x) (us.set i u)
 | _,_,_,.nil=>.nil
 | _,_,0,.cons _ t=>.cons r t
 | _,_,i+1,.cons q t=>.cons q (Vals.set r i t)
theorem Vals.append:∀ {xs ys:List V} {us ws:List iH},Vals xs us->Vals ys ws->Vals (xs++ys) (us++ws)
 | _,_,_,_,.nil,s=>s
 | _,_,_,_,.cons r t,s=>.cons r (Vals.append t s)
theorem Vals.take:∀ {xs:List V} {us:List iH} (n:Nat),Vals xs us->Vals (xs.take n) (us.take n)
 | _,_,0,_=>.nil
 | _,_,_+1,.nil=>.nil
 | _,_,n+1,.cons r t=>.cons r (Vals.take n t)
theorem Vals.drop:∀ {xs:List V} {us:List iH} (n:Nat),Vals xs us->Vals (xs.drop n) (us.drop n)
 | _,_,0,r=>r
 | _,_,_+1,.nil=>.nil
 | _,_,n+1,.cons _ t=>Vals.drop n t
def RelO:Option V->Option iH->Prop
 | some v,iE u=>RelV v u
 | none,iG=>True
 | _,_=>False
def KV {κ:Type}:List (κ×V)->List (κ×iH)->Prop:=mJ λ(p:κ×V) (q:κ×iH)=>p.1=q.1/\RelV p.2 q.2
noncomputable def kV:Key->V
 | .inl i=>.int i
 | .inr x=>.str x
inductive HO where
 /-- a list -/
 | lst (xs:List V)
 /-- a tuple (never changes) -/
 | tup (xs:List V)
 /-- a dict whose keys are ints and texts; one whose keys are tuples of ints and texts (the empty one is both) -/
 | dK (kvs:List (Key×V)) | dT (kvs:List (List Key×V))
 /-- a set of ints: its members,its size -/
 | set (S:Int->Bool) (n:Nat)
 /-- an instance of the class at C,its dict at dx,its attributes -/
 | ins (C dx:Addr) (fs:List (Str×V))
 /-- the dict of the instance at x -/
 | own (x:Addr)
 /-- the dict of an exception -/
 | xd (fs:List (Str×V))
 /-- a bound method,f of x -/
 | met (f x:Addr)
 /-- a range object lo,lo+1,.. below hi -/
 | rng (lo hi:Int)
 /-- a thing that is known to the object (the script; a dict while a loop walks it): read,never written while it is so -/
 | frz (o:Obj) (u:HO)
 /-- a code object's table -/
 | tbl (ps:Array iH)
 /-- any other thing,by what is iJ of its one object (a def of one's own: SetO a S n:=HO.ext λh=>..) -/
 | ext (φ:Heap->Prop)
abbrev Hp:=Addr->Option HO
noncomputable def upd (H:Hp) (a:Addr) (o:HO):Hp:=λb=>if b=a then iE o else H b
variable {H:Hp} {a:Addr} {o:HO}
theorem qm:upd H a o a=iE o:=by unfold upd; rw [Aa rfl]
variable {b:Addr}
theorem qB (h:b≠a):upd H a o b=H b:=by unfold upd; rw [Ab h]
theorem qj7 {u:HO} (h:H a=iE o) (h':H b=iE u) (d:o≠u):a≠b:=by intro e; subst e; rw [h] at h'; exact d (aK.inj h')
theorem qJ (h:H a=iE o) (h':H b=iG):a≠b:=by intro e; subst e; rw [h] at h'; cases h'
section
variable (P:iQ) (w:iR)
def ObjOk (H:Hp) (h:Heap) (a:Addr):HO->Prop
 | .lst xs=>xs.length<=sizeLine/\∃ (its:List iH) (n:Nat),Vals xs its/\h.get? a=iE { cls:=.type "list",data:=.seq its.toArray n }
 | .tup xs=>(xs.length<=sizeLine/\∃ o,h.get? a=iE o/\o.dict=iG)/\∃ its:List iH,Vals xs its/\IsTup h a its.toArray
 | .dK kvs=>kvs.length<=sizeLine/\(a == k8)=iI/\∃ vs,KV kvs vs/\h.DictOf (qP P w) a vs
 | .dT kvs=>kvs.length<=sizeLine/\(a == k8)=iI/\∃ xs:List (List Key×Addr×iH),mJ (λ(p:List Key×V) (q:List Key×Addr×iH)=>p.1=q.1/\H q.2.1=iE (.tup (p.1.map kV))/\RelV p.2 q.2.2) kvs xs /\
   ∃ o es ep,h.get? a=iE o/\o.ExactDict/\o.data=.dict es ep/\es.toList=xs.map (entryOfKey (mq (qP P w)))/\(xs.map (·.1)).Nodup
 | .set S n=>h.SetOf (intKind P w) a S n
 | .ins C dx fs=>H dx=iE (.own a)/\fs.length<=1000/\dx≠a/\h.get? a=iE (PySem.W.instObj C dx) /\
   ∃ m,h.Ns1 dx m/\(∀ f,RelO (fs.lookup f) (m f))/\PySem.Within m (fs.map (·.1))
 | .own _=>∃ o,h.get? a=iE o
 | .xd fs=>∃ m,h.Ns1 a m/\∀ f,RelO (fs.lookup f) (m f)
 | .rng lo hi=>∃ t u v,h.get? a=iE { cls:=.type "range",data:=.fields #[.int lo t,.int hi u,.int 1 v] }
 | .frz o u=>h.get? a=iE o/\ObjOk H h a u
 | .tbl ps=>h.get? a=iE { cls:=.none,data:=.fields ps }
 | .met f x=>h.get? a=iE (fK (.ref f) (.ref x))
 | .ext φ=>φ h/\(∃ o,h.get? a=iE o)/\∀ h1 h2:Heap,φ h1->(∀ o,h1.get? a=iE o->h2.get? a=iE o)->φ h2
def HOk (H:Hp) (h:Heap):Prop:=∀ a o,H a=iE o->ObjOk P w H h a o
end
variable {P:iQ} {w:iR} {H':Hp} {h h':Heap} {α:Type}
section
theorem ObjOk.lt (x:ObjOk P w H h a o):a < h.objs.size:=by
 cases o with
 | lst xs=>obtain ⟨_,_,_,_,e⟩:=x; exact ay e
 | tup xs=>obtain ⟨_,_,_,p⟩:=x; exact p.lt
 | dK kvs=>obtain ⟨_,_,_,_,o,_,_,e,_⟩:=x; exact ay e
 | dT kvs=>obtain ⟨_,_,_,_,o,_,_,e,_⟩:=x; exact ay e
 | set S n=>obtain ⟨o,_,_,_,e,_⟩:=x; exact ay e
 | ins C dx fs=>obtain ⟨_,_,_,e,_⟩:=x; exact ay e
 | own y=>obtain ⟨_,e⟩:=x; exact ay e
 | xd fs=>obtain ⟨_,⟨_,_,_,e,_⟩,_⟩:=x; exact ay e
 | rng lo hi=>obtain ⟨_,_,_,e⟩:=x; exact ay e
 | frz b u=>obtain ⟨e,_⟩:=x; exact ay e
 | tbl ps=>exact ay (show h.get? a=iE _ from x)
 | met f y=>exact ay (show h.get? a=iE _ from x)
 | ext φ=>obtain ⟨_,⟨_,e⟩,_⟩:=x; exact ay e
theorem Paired.mapP {β:Type} {F G:α->β->Prop}:∀ {c:List α} {l:List β},mJ F c l->(∀ a b,F a b->G a b)->mJ G c l
 | _,_,.nil,_=>.nil
 | _,_,.cons r t,f=>.cons (f _ _ r) (Paired.mapP t f)
theorem ObjOk.stay (x:ObjOk P w H h a o) (k:∀ b u,(b=a\/H b=iE (.own a))->h.get? b=iE u->h'.get? b=iE u)
  (l:∀ b,H b=iE (.own a)->H' b=iE (.own a)) (ht:∀ b xs,H b=iE (.tup xs)->H' b=iE (.tup xs)):ObjOk P w H' h' a o:=by
 induction o with
 | lst xs=>obtain ⟨z,its,n,r,e⟩:=x; exact ⟨z,its,n,r,k _ _ (.inl rfl) e⟩
 | tup xs=>obtain ⟨⟨z,o2,i,d2⟩,its,r,g,e,c⟩:=x; exact ⟨⟨z,o2,k _ _ (.inl rfl) i,d2⟩,its,r,g,k _ _ (.inl rfl) e,c⟩
 | dK kvs=>obtain ⟨z,y,vs,r,g,es,ep,e,c⟩:=x; exact ⟨z,y,vs,r,g,es,ep,k _ _ (.inl rfl) e,c⟩
 | dT kvs=>obtain ⟨z,y,xs,r,g,es,ep,e,c⟩:=x;exact ⟨z,y,xs,Paired.mapP r λp q z=>⟨z.1,ht _ _ z.2.1,z.2.2⟩,g,es,ep,k _ _ (.inl rfl) e,c⟩
 | set S n=>obtain ⟨g,es,ep,t,e,c⟩:=x; exact ⟨g,es,ep,t,k _ _ (.inl rfl) e,c⟩
 | ins C dx fs=>obtain ⟨d,z,ne,e,m,⟨od,es,ep,i,c⟩,r⟩:=x;exact ⟨l _ d,z,ne,k _ _ (.inl rfl) e,m,⟨od,es,ep,k _ _ (.inr d) i,c⟩,r⟩
 | own y=>obtain ⟨g,e⟩:=x; exact ⟨g,k _ _ (.inl rfl) e⟩
 | xd fs=>obtain ⟨m,⟨od,es,ep,e,c⟩,r⟩:=x; exact ⟨m,⟨od,es,ep,k _ _ (.inl rfl) e,c⟩,r⟩
 | rng lo hi=>obtain ⟨t,u,v,e⟩:=x; exact ⟨t,u,v,k _ _ (.inl rfl) e⟩
 | frz g u j=>obtain ⟨e,q⟩:=x; exact ⟨k _ _ (.inl rfl) e,j q⟩
 | tbl ps=>have e:h.get? a=iE { cls:=.none,data:=.fields ps }:=x;show h'.get? a=iE { cls:=.none,data:=.fields ps };exact k a _ (.inl rfl) e
 | met f y=>have e:h.get? a=iE (fK (.ref f) (.ref y)):=x;show h'.get? a=iE (fK (.ref f) (.ref y));exact k a _ (.inl rfl) e
 | ext φ=>obtain ⟨p,⟨o,e⟩,st⟩:=x; exact ⟨st _ _ p λo q=>k _ _ (.inl rfl) q,⟨o,k _ _ (.inl rfl) e⟩,st⟩
theorem HOk.lt (x:HOk P w H h) (e:H a=iE o):a < h.objs.size:=(x a o e).lt
theorem HOk.fresh (x:HOk P w H h) (e:h.objs.size<=a):H a=none:=by
 cases q:H a with
 | none=>rfl
 | some u=>exact absurd (aI (x.lt q) e) (b6 _)
theorem HOk.kept (x:HOk P w H h) (k:∀ b u,h.get? b=iE u->h'.get? b=iE u):HOk P w H h':=λa o e=>
 (x a o e).stay (λb u _ q=>k b u q) (λ_ q=>q) λ_ _ q=>q
theorem HOk.laid (x:HOk P w H h) (k:∀ b u,h.get? b=iE u->h'.get? b=iE u) (hp:h.objs.size<=a) (new:ObjOk P w (upd H a o) h' a o):HOk P w (upd H a o) h':=λb u e=>by
 have n:=x.fresh hp;by_cases d:b=a;·subst d; rw [qm] at e; cases e; exact new
 ·rw [qB d] at e;exact (x b u e).stay (λc v _ q=>k c v q) (λc q=>by rw [qB (qJ q n)]; exact q) λc xs q=>by rw [qB (qJ q n)]; exact q
end
def Rd (H:Hp) (a:Addr) (u:HO):Prop:=H a=iE u\/∃ o,H a=iE (.frz o u)
theorem Rd.ok {u:HO} (r:Rd H a u) (x:HOk P w H h):ObjOk P w H h a u:=by
 rcases r with r | ⟨o,r⟩
 ·exact x a u r
 ·obtain ⟨_,q⟩:=x a _ r;exact q
def Mut:Option HO->Prop
 | some (.lst _)=>True
 | some (.dK _)=>True
 | some (.dT _)=>True
 | some (.set _ _)=>True
 | some (.ins _ _ _)=>True
 | some (.ext _)=>True
 | _=>False
section
variable {x e:Addr} {o':HO}
theorem HOk.write (ok:HOk P w H h) (m:Mut (H x)) (i:e=x\/H e=iE (.own x)) (k:∀ b u,b≠e->h.get? b=iE u->h'.get? b=iE u) (o:∃ u,h'.get? e=iE u)
  (new:ObjOk P w (upd H x o') h' x o'):HOk P w (upd H x o') h':=λb u q=>by
 have n:∀ c y,H c=iE (.own y)->c≠x:=λc y r z=>by subst z; rw [r] at m; exact m
 have p:∀ c xs,H c=iE (.tup xs)->c≠x:=λc xs r z=>by subst z; rw [r] at m; exact m
 by_cases f:b=x;·subst f; rw [qm] at q; cases q; exact new
 ·rw [qB f] at q;by_cases a:b=e
  ·have g:H b=iE (.own x):=by
    rcases i with z | z;·exact absurd (a.trans z) f
    ·rw [a]; exact z
   rw [q] at g; cases g;obtain ⟨v,j⟩:=o;exact ⟨v,by rw [a]; exact j⟩
  ·refine (ok b u q).stay (λc v d r=>k c v ?_ r) (λc r=>by rw [qB (n c b r)]; exact r) λc xs r=>by rw [qB (p c xs r)]; exact r
   rcases d with rfl | d;·exact a
   ·rintro rfl;rcases i with z | z;·exact n c b d z
    ·rw [d] at z; cases z; exact f rfl
end
structure Un (fs ex:List Addr) (H H':Hp) (h h':Heap):Prop where
 keep:∀ b o,h.get? b=iE o->H b=iG->b∉fs->b∉ex->h'.get? b=iE o
 slot:∀ b o,h.get? b=iE o->H b=iG->b∈fs->b∉ex->∃ sl,h'.get? b=iE { o with slots:=sl }
 free:∀ b o,h.get? b=iE o->H b=iG->b∉ex->H' b=iG
 there:∀ b o,h.get? b=iE o->b∉ex->∃ o',h'.get? b=iE o'
 tups:∀ b xs,H b=iE (.tup xs)->H' b=iE (.tup xs)
 frzs:∀ b o u,H b=iE (.frz o u)->H' b=iE (.frz o u)
 tbls:∀ b ps,H b=iE (.tbl ps)->∃ more,H' b=iE (.tbl (ps++more))
section
variable {fs fs' ex ex':List Addr} {H1 H2:Hp} {h1 h2:Heap} {x e:Addr}
theorem Un.any (u:Un fs ex H H1 h h1) {o:Obj} (q:h.get? b=iE o) (n:H b=iG) (hx:b∉ex):∃ sl,h1.get? b=iE { o with slots:=sl }:=by
 by_cases d:b∈fs;·exact u.slot b o q n d hx
 ·exact ⟨o.slots,u.keep b o q n d hx⟩
theorem Un.kept (k:∀ b u,h.get? b=iE u->h'.get? b=iE u):Un fs ex H H h h':=
 ⟨λb o q _ _ _=>k b o q,λb o q _ _ _=>⟨o.slots,k b o q⟩,λ_ _ _ n _=>n,λb o q _=>⟨o,k b o q⟩,λ_ _ q=>q,λ_ _ _ q=>q,λ_ ps q=>⟨#[],by rw [q]; simp⟩⟩
theorem Un.refl:Un fs ex H H h h:=Un.kept λ_ _ q=>q
theorem Un.laid (k:∀ b u,h.get? b=iE u->h'.get? b=iE u) (hp:h.objs.size<=a) (c:H a=iG):Un fs ex H (upd H a o) h h' where
 keep:=λb u q _ _ _=>k b u q
 slot:=λb u q _ _ _=>⟨u.slots,k b u q⟩
 free:=λb u q n _=>by rw [qB (aG (aI (ay q) hp))]; exact n
 there:=λb u q _=>⟨u,k b u q⟩
 tups:=λb xs q=>by rw [qB (qJ q c)]; exact q
 frzs:=λb u xs q=>by rw [qB (qJ q c)]; exact q
 tbls:=λb ps q=>⟨#[],by rw [qB (qJ q c),q]; simp⟩
theorem Un.write (m:Mut (H x)) (i:e=x\/H e=iE (.own x)) (k:∀ b u,b≠e->h.get? b=iE u->h'.get? b=iE u) (d:∃ u,h'.get? e=iE u):Un fs ex H (upd H x o) h h':=by
 have hx:∀ b,H b=iG->b≠x:=λb n z=>by subst z; rw [n] at m; exact m
 have f:∀ b,H b=iG->b≠e:=λb n z=>by
  subst z;rcases i with r | r;·exact hx b n r
  ·rw [n] at r; cases r
 have c:∀ b u,H b=iE u->¬Mut (iE u)->b≠x:=λb u q nm z=>by subst z; rw [q] at m; exact nm m
 refine ⟨λb u q n _ _=>k b u (f b n) q,λb u q n _ _=>⟨u.slots,k b u (f b n) q⟩,λb u q n _=>by rw [qB (hx b n)]; exact n,λb u q _=>?_,λb xs q=>by rw [qB (c b _ q λz=>z)]; exact q,λb u xs q=>by rw [qB (c b _ q λz=>z)]; exact q,λb ps q=>⟨#[],by rw [qB (c b _ q λz=>z),q]; simp⟩⟩;by_cases a:b=e;·subst a; exact d
 ·exact ⟨u,k b u a q⟩
end
noncomputable def trk (h:Heap) (H:Hp):List Addr:=(aE h.objs.size).filter λa=>(H a).isSome
noncomputable def qcf (h:Heap) (H:Hp):Heap:=bU h (trk h H)
theorem Gj (h:Heap) (H:Hp):(qcf h H).objs.size=h.objs.size:=PySem.W.hideAll_size _ _
theorem qcg {o:Obj} (e:h.get? b=iE o) (n:H b=iG):(qcf h H).get? b=iE o:=
 fA _ e λc=>by have q:(H b).isSome=true:=(br.mp c).2;rw [n] at q; simp at q
theorem qeR {o:Obj} (e:(qcf h H).get? b=iE o):h.get? b=iE o/\H b=none:=by
 have a:h.get? b=iE o:=PySem.W.of_hideAll (trk h H) e;refine ⟨a,?_⟩;cases q:H b with
 | none=>rfl
 | some x=>have c:b∈trk h H:=br.mpr ⟨aM.mpr (ay a),by simp [q]⟩;have z:(qcf h H).get? b=none:=fj (trk h H) c;rw [z] at e; cases e
structure Mod (K:Frag) (mg:Str->Option iH) (base:Heap):Prop where
 kin:K.In base
 glob:base.Ns iP mg
 blt:∃ mb,base.Ns builtinsNs mb/\∀ x:Str,x ≠ "__name__"->mb x=iO x
 nolimit:base.NoLimit
abbrev Pns:=List (Addr×Obj)
structure Cx where
 prog:iQ
 w:iR
 K:Frag
 mg:Str->Option iH
 base:Heap
 A:iX
 N:List Str
 s₀:iK
 H₀:Hp
 env:Env
 outer:List Env
 stack:List Env
 ex:List Addr
 fn:Str->Bool
 calm:Bool
 pn:Pns
 xe:iH->iK->Prop
noncomputable def frs (l:List Env):List Addr:=l.filterMap (·.frame)
abbrev Cx.fs (X:Cx):List Addr:=frs X.outer
def Vis (sc:lU) (x:Str):Prop:=sc.names.lookup x=iE .local\/sc.names.lookup x=iE .cell\/sc.names.lookup x=iE .free
def Loc (sc:lU) (x:Str):Prop:=sc.names.lookup x=iE .local\/sc.names.lookup x=iE .cell
def JD (env:Env) (h:Heap) (m:Str->Option iH) (x:Str) (u:iH):Prop:=
 (env.kindOf x=iE .local/\m x=iE u)\/((env.kindOf x=iE .cell\/env.kindOf x=iE .free)/\∃ c,env.cells.lookup x=iE c/\h.IsCell c (iE u))
structure Cx.Ok (X:Cx):Prop where
 mod:Mod X.K X.mg X.base
 kind:X.env.scope.kind=.function
 glob:X.env.globals=iP
 blt:X.env.builtins=builtinsNs
 above:X.s₀.heap.objs.size<=X.env.locals
 inj:∀ x y c,X.env.cells.lookup x=iE c->X.env.cells.lookup y=iE c->x=y
 has:∀ x,(X.env.kindOf x=iE .cell\/X.env.kindOf x=iE .free)->∃ c,X.env.cells.lookup x=iE c
 cab:∀ x c,X.fn x=iJ->X.env.cells.lookup x=iE c->X.s₀.heap.objs.size<=c
 hd:X.calm=iJ->X.A.handled=iG
 frames:X.A.frames=iE X.stack
 stk:X.stack=X.outer\/(X.stack=X.env::X.outer/\X.env.frame=iE X.env.locals)
 exf:∀ b∈X.ex,b≠X.env.locals/\∀ x c,X.env.cells.lookup x=iE c->c≠b
 bs:∀ b o,X.base.get? b=iE o->X.s₀.heap.get? b=iE o/\X.H₀ b=iG
 bsz:X.base.objs.size<=X.s₀.heap.objs.size
 noex:∀ b o,X.base.get? b=iE o->b∉X.ex
 exfs:∀ b∈X.ex,b∉X.fs
 funs:X.s₀.heap.FunFrames X.base X.outer
 frf:∀ b∈X.fs,X.H₀ b=iG
structure Inv (X:Cx) (pins:Pns) (σ:List (Option V)) (H:Hp) (s:iK):Prop where
 ok:X.Ok
 os:s.os=X.s₀.os
 bare:l8 s.gens
 base:Un X.fs X.ex X.H₀ H X.s₀.heap s.heap
 loc:∃ m,s.heap.Ns X.env.locals m/\∀ (i:Nat) (x:Str) (v:V),X.N[i]?=iE x->σ[i]?=iE (iE v)->Vis X.env.scope x->∃ u,RelV v u/\JD X.env s.heap m x u
 cell:∀ x c,X.env.cells.lookup x=iE c->∃ v,s.heap.IsCell c v
 free:H X.env.locals=iG
 freeC:∀ x c,X.env.cells.lookup x=iE c->H c=iG
 pin:∀ p∈X.pn++pins,s.heap.get? p.1=iE p.2/\H p.1=iG/\p.1≠X.env.locals/\p.1∉X.fs/\∀ v,p.2.data≠.cell v
 hok:HOk X.prog X.w H s.heap
 len:σ.length=X.N.length
variable {x:Str} {X:Cx} {pins:Pns} {s s':iK} {t' i:Nat} {it:Addr} {v:V}
section
variable {σ:List (Option V)}
theorem Cx.Ok.nofr (ok:X.Ok) {o:Obj} (e:X.base.get? b=iE o):b∉X.fs:=λd=>by have:=(ok.funs.mem d).1;rw [e] at this; cases this
theorem Inv.bs (I:Inv X pins σ H s):∀ b o,X.base.get? b=iE o->s.heap.get? b=iE o/\H b=none:=λb o e=>
 ⟨I.base.keep b o (I.ok.bs b o e).1 (I.ok.bs b o e).2 (I.ok.nofr e) (I.ok.noex b o e),I.base.free b o (I.ok.bs b o e).1 (I.ok.bs b o e).2 (I.ok.noex b o e)⟩
theorem Inv.bk (I:Inv X pins σ H s):∀ b o,X.base.get? b=iE o->s.heap.get? b=iE o:=λb o e=>(I.bs b o e).1
theorem Inv.mod (I:Inv X pins σ H s):Mod X.K X.mg X.base:=I.ok.mod
theorem Inv.kIn (I:Inv X pins σ H s):X.K.In s.heap:=I.ok.mod.kin.keeps I.bk
theorem Inv.lt (I:Inv X pins σ H s):X.env.locals < s.heap.objs.size:=let ⟨_,n,_⟩:=I.loc; n.lt
theorem Inv.sz (I:Inv X pins σ H s):X.s₀.heap.objs.size<=s.heap.objs.size:=bI I.ok.above (cU I.lt)
theorem Inv.nofs (I:Inv X pins σ H s) (h:s.heap.objs.size<=a):a∉X.fs:=λd=>by obtain ⟨_,o,l,_⟩:=I.ok.funs.mem d;exact absurd (aI (ay l) (bI I.sz h)) (b6 _)
theorem Inv.cne (I:Inv X pins σ H s):∀ x c,X.env.cells.lookup x=iE c->c≠X.env.locals:=λx c e z=>by obtain ⟨v,o,l,hd⟩:=I.cell x c e;obtain ⟨m,⟨o',es,ep,h,a,_⟩,_⟩:=I.loc;rw [z,h] at l; cases l; rw [a] at hd; cases hd
theorem Inv.funs (I:Inv X pins σ H s):s.heap.FunFrames X.base X.outer:=by
 have all:∀ (l:List Env),(∀ b∈frs l,b∈X.fs)->X.s₀.heap.FunFrames X.base l->s.heap.FunFrames X.base l:=by
  intro l
  induction l with
  | nil=>intro _ _; trivial
  | cons env r j=>intro c hl;obtain ⟨k,⟨L,o,h,n,g,hd⟩,f⟩:=hl;have a:L∈X.fs:=c L (by unfold frs; rw [dJ,h]; exact ap);obtain ⟨sl,e⟩:=I.base.slot L o g (I.ok.frf L a) a λz=>I.ok.exfs L z a;exact ⟨k,⟨L,_,h,n,e,hd⟩,j (λb d=>c b (by unfold frs; rw [dJ,h]; exact ac _ d)) f⟩
 exact all X.outer (λ_ d=>d) I.ok.funs
theorem Inv.stack (I:Inv X pins σ H s):s.heap.FunFrames X.base X.stack:=by
 rcases I.ok.stk with e | ⟨e,hf⟩
 ·rw [e]; exact I.funs
 ·rw [e];obtain ⟨m,n,_⟩:=I.loc;refine .cons (by rw [I.ok.kind]; decide) hf n ?_ I.funs;exact Heap.get?_none_of_le (bI I.ok.bsz I.ok.above)
theorem Inv.stkSub (I:Inv X pins σ H s):∀ b∈frs X.stack,b∈X.env.locals::X.fs:=λb d=>by
 rcases I.ok.stk with e | ⟨e,hf⟩
 ·rw [e] at d; exact ac _ d
 ·rw [e] at d;unfold frs at d;rw [dJ,hf] at d;exact d
theorem Inv.stkFree (I:Inv X pins σ H s):∀ b∈frs X.stack,H b=none:=λb d=>by
 rcases ae.mp (I.stkSub b d) with e | d;·rw [e]; exact I.free
 ·obtain ⟨_,o,l,_⟩:=I.ok.funs.mem d;exact I.base.free b o l (I.ok.frf b d) λz=>I.ok.exfs b z d
theorem Inv.step {g':Array mU} {t':Nat} {d':Drawn} {ch:List Addr} (I:Inv X pins σ H s)
  (a:∀ b∈ch,(b∈X.ex\/X.s₀.heap.objs.size<=b)/\b≠X.env.locals/\(∀ x c,X.env.cells.lookup x=iE c->c≠b)/\∀ p∈X.pn++pins,p.1≠b)
  (keep:∀ b o,b≠X.env.locals->b∉X.fs->b∉ch->s.heap.get? b=iE o->H b=iG->h'.get? b=iE o)
  (slot:∀ b o,b≠X.env.locals->b∈X.fs->b∉ch->s.heap.get? b=iE o->H b=iG->∃ sl,h'.get? b=iE { o with slots:=sl }) (free:∀ b o,b∉ch->s.heap.get? b=iE o->H b=iG->H' b=iG)
  (there:∀ b o,b∉ch->s.heap.get? b=iE o->∃ o',h'.get? b=iE o')
  (tups:∀ b xs,H b=iE (.tup xs)->H' b=iE (.tup xs)) (frzs:∀ b o u,H b=iE (.frz o u)->H' b=iE (.frz o u)) (tbls:∀ b ps,H b=iE (.tbl ps)->∃ more,H' b=iE (.tbl (ps++more)))
  (ns:∀ m,s.heap.Ns X.env.locals m->h'.Ns X.env.locals m) (hok:HOk X.prog X.w H' h') (hg:l8 g') :
  Inv X pins σ H' { s with heap:=h',gens:=g',drawn:=d',toks:=t' }:=by
 have L:∀ b o,X.s₀.heap.get? b=iE o->b≠X.env.locals:=λb o e=>aG (aI (ay e) I.ok.above);have C:∀ b o,X.s₀.heap.get? b=iE o->b∉X.ex->b∉ch:=λb o e hx f=>by
  rcases (a b f).1 with z | z;·exact hx z
  ·exact absurd (aI (ay e) z) (b6 _)
 have K:∀ x c,X.env.cells.lookup x=iE c->∀ v,s.heap.IsCell c v->h'.IsCell c v:=λx c e v ⟨o,g,hd⟩=>by
  have h:c∉ch:=λz=>(a c z).2.2.1 x c e rfl;by_cases A:c∈X.fs;·obtain ⟨sl,q⟩:=slot c o (I.cne x c e) A h g (I.freeC x c e);exact ⟨_,q,hd⟩
  ·exact ⟨o,keep c o (I.cne x c e) A h g (I.freeC x c e),hd⟩
 refine ⟨I.ok,I.os,hg,⟨λb o e n f hx=>?_,λb o e n f hx=>?_,λb o e n hx=>?_,λb o e hx=>?_,λb xs e=>tups b xs (I.base.tups b xs e),λb o xs e=>frzs b o xs (I.base.frzs b o xs e),λb ps e=>?_⟩,?_,λx c e=>?_,?_,λx c e=>?_,λp hp=>?_,hok,I.len⟩;·exact keep b o (L b o e) f (C b o e hx) (I.base.keep b o e n f hx) (I.base.free b o e n hx)
 ·obtain ⟨sl,e1⟩:=I.base.slot b o e n f hx;obtain ⟨t,j⟩:=slot b _ (L b o e) f (C b o e hx) e1 (I.base.free b o e n hx);exact ⟨t,j⟩
 ·obtain ⟨o',e1⟩:=I.base.there b o e hx;exact free b o' (C b o e hx) e1 (I.base.free b o e n hx)
 ·obtain ⟨o',e1⟩:=I.base.there b o e hx;exact there b o' (C b o e hx) e1
 ·obtain ⟨m1,e1⟩:=I.base.tbls b ps e;obtain ⟨B,j⟩:=tbls b _ e1;exact ⟨m1++B,by rw [j,Array.append_assoc]⟩
 ·obtain ⟨m,D,hl⟩:=I.loc;refine ⟨m,ns m D,λi x v e1 j E=>?_⟩;obtain ⟨u,r,l⟩:=hl i x v e1 j E;refine ⟨u,r,?_⟩;rcases l with l | ⟨k,c,e,z⟩
  ·exact .inl l
  ·exact .inr ⟨k,c,e,K x c e _ z⟩
 ·obtain ⟨v,z⟩:=I.cell x c e;exact ⟨v,K x c e v z⟩
 ·obtain ⟨m,⟨o,_,_,g,_⟩,_⟩:=I.loc;exact free _ o (λz=>(a _ z).2.1 rfl) g I.free
 ·obtain ⟨v,o,g,hd⟩:=I.cell x c e;exact free c o (λz=>(a c z).2.2.1 x c e rfl) g (I.freeC x c e)
 ·obtain ⟨e,n,ne,y,d⟩:=I.pin p hp;have h:p.1∉ch:=λz=>(a p.1 z).2.2.2 p hp rfl;exact ⟨keep p.1 p.2 ne y h e n,free p.1 p.2 h e n,ne,y,d⟩
theorem Inv.un (I:Inv X pins σ H s) (u:Un X.fs [] H H' s.heap h') (hok:HOk X.prog X.w H' h'):Inv X pins σ H' { s with heap:=h',toks:=t' }:=by obtain ⟨m,⟨o,es,ep,l,r⟩,_⟩:=id I.loc;obtain ⟨sl,L⟩:=u.any l I.free (by simp);exact I.step (g':=s.gens) (d':=s.drawn) (ch:=[]) (λ_ z=>nomatch z) (λb o _ d _ e n=>u.keep b o e n d (by simp)) (λb o _ d _ e n=>u.slot b o e n d (by simp)) (λb o _ e n=>u.free b o e n (by simp)) (λb o _ e=>u.there b o e (by simp)) u.tups u.frzs u.tbls (λf c=>by obtain ⟨o',es',a,h,r'⟩:=c;rw [l] at h; cases h;exact ⟨_,es',a,L,r'⟩) hok I.bare
theorem Inv.call {g':Array mU} {t':Nat} {d':Drawn} {ch:List Addr} (I:Inv X pins σ H s) (u:Un (frs X.stack) ch H H' s.heap h') (hok:HOk X.prog X.w H' h') (hg:l8 g')
  (a:∀ b∈ch,(b∈X.ex\/X.s₀.heap.objs.size<=b)/\b≠X.env.locals/\(∀ x c,X.env.cells.lookup x=iE c->c≠b)/\∀ p∈X.pn++pins,p.1≠b) :
  Inv X pins σ H' { s with heap:=h',gens:=g',drawn:=d',toks:=t' }:=by
 obtain ⟨m,⟨o,es,ep,l,r⟩,_⟩:=id I.loc;obtain ⟨sl,L⟩:=u.any l I.free λz=>(a _ z).2.1 rfl;exact I.step (ch:=ch) a (λb o L i d e n=>u.keep b o e n (λz=>(ae.mp (I.stkSub b z)).elim L i) d) (λb o _ _ d e n=>u.any e n d) (λb o d e n=>u.free b o e n d) (λb o d e=>u.there b o e d) u.tups u.frzs u.tbls (λj g=>by obtain ⟨o',es',f,h,r'⟩:=g;rw [l] at h; cases h;exact ⟨_,es',f,L,r'⟩) hok hg
theorem Inv.turned {t':Nat} (I:Inv X pins σ H s) (k:∀ b o,b≠it->s.heap.get? b=iE o->h'.get? b=iE o) (h:H it=iG) (a:it≠X.env.locals)
  (h1:it∈X.ex\/X.s₀.heap.objs.size<=it) (h2:∀ x c,X.env.cells.lookup x=iE c->c≠it) (i:∀ p∈X.pn++pins,p.1≠it):Inv X pins σ H { s with heap:=h',toks:=t' }:=by
 have t:∀ b u,H b=iE u->b≠it:=λb u e z=>by rw [z,h] at e; cases e
 refine I.step (g':=s.gens) (d':=s.drawn) (ch:=[it]) (λb g=>?_) (λb o _ _ d e _=>k b o (λz=>d (by simp [z])) e) (λb o _ _ d e _=>⟨o.slots,k b o (λz=>d (by simp [z])) e⟩) (λ_ _ _ _ n=>n)
  (λb o d e=>⟨o,k b o (λz=>d (by simp [z])) e⟩) (λ_ _ e=>e) (λ_ _ _ e=>e) (λb ps e=>⟨#[],by rw [e]; simp⟩) (λm f=>?_) (λb u e=>?_) I.bare
 ·have e:b=it:=by simpa using g
  subst e;exact ⟨h1,a,h2,i⟩
 ·obtain ⟨o,es,ep,l,r⟩:=f;exact ⟨o,es,ep,k _ o (bw a) l,r⟩
 ·refine (I.hok b u e).stay (λc v d q=>k c v ?_ q) (λ_ q=>q) λ_ _ q=>q;rcases d with z | z;·rw [z]; exact t b u e
  ·exact t c _ z
theorem Inv.tok (I:Inv X pins σ H s) (t:Nat):Inv X pins σ H { s with toks:=t }:=I.un (h':=s.heap) (t':=t) Un.refl I.hok
theorem Inv.kept (I:Inv X pins σ H s) (k:∀ b u,s.heap.get? b=iE u->h'.get? b=iE u):Inv X pins σ H { s with heap:=h',toks:=t' }:=I.un (Un.kept k) (I.hok.kept k)
theorem Inv.laid {t':Nat} (I:Inv X pins σ H s) (k:∀ b u,s.heap.get? b=iE u->h'.get? b=iE u) (hp:s.heap.objs.size<=a) (new:ObjOk X.prog X.w (upd H a o) h' a o):Inv X pins σ (upd H a o) { s with heap:=h',toks:=t' }:=I.un (Un.laid k hp (I.hok.fresh hp)) (I.hok.laid k hp new)
theorem Inv.write {x e:Addr} {o:HO} {t':Nat} (I:Inv X pins σ H s) (m:Mut (H x)) (i:e=x\/H e=iE (.own x)) (k:∀ b u,b≠e->s.heap.get? b=iE u->h'.get? b=iE u) (h:∃ u,h'.get? e=iE u)
  (new:ObjOk X.prog X.w (upd H x o) h' x o):Inv X pins σ (upd H x o) { s with heap:=h',toks:=t' }:=I.un (Un.write m i k h) (I.hok.write m i k h new)
theorem Inv.pins_of {a:Pns} (I:Inv X pins σ H s) (h:∀ p∈a,s.heap.get? p.1=iE p.2/\H p.1=iG/\p.1≠X.env.locals/\p.1∉X.fs/\∀ v,p.2.data≠.cell v):Inv X a σ H s:=
 ⟨I.ok,I.os,I.bare,I.base,I.loc,I.cell,I.free,I.freeC,λp hp=>(aj.mp hp).elim (λz=>I.pin p (fk _ z)) (h p),I.hok,I.len⟩
theorem Yn {N:List Str} (h:N.Nodup) {j:Nat} (a:N[i]?=iE x) (b:N[j]?=iE x):i=j:=by obtain ⟨h1,e1⟩:=aD.mp a;obtain ⟨h2,e⟩:=aD.mp b;exact (eU h).mp (e1.trans e.symm)
theorem Vc {M:Model} {A:iX} {E:iH->iK->Prop} {Q:Unit->iK->Prop} (I:Inv X pins σ H s) (hN:X.N.Nodup) (hi:X.N[i]?=iE x) (hx:Loc X.env.scope x) (r:RelV v u)
  (h:∀ s',Inv X pins (σ.set i (iE v)) H s'->(∃ a,bC a s.heap s'.heap/\(a=X.env.locals\/X.env.cells.lookup x=iE a))->Q () s') (hf:X.fn x=iJ\/X.env.scope.names.lookup x=iE .local:=by first | exact .inl rfl | exact .inr rfl | assumption):iM M A (storeName X.env x u) Q E s:=by
 obtain ⟨m,F,hl⟩:=id I.loc;have P:(X.env.scope.kind == .class||(X.env.scope.kind == .module&&X.env.locals != X.env.globals))=false:=by rw [I.ok.kind]; rfl
 have D:i < σ.length:=by rw [I.len]; exact (aD.mp hi).1
 have cne:=I.cne;have t:∀ {a:Addr} {h':Heap},(∃ o,s.heap.get? a=iE o/\H a=iG)->bC a s.heap h'->HOk X.prog X.w H h':=λ{a h'} ha f b ob e=>by
  obtain ⟨_,_,l⟩:=ha;refine (I.hok b ob e).stay (λc T g q=>(f.2 c ?_).trans q) (λ_ q=>q) λ_ _ q=>q;rintro rfl;rcases g with rfl | g;·rw [l] at e; cases e
  ·rw [l] at g; cases g
 rcases hx with C | C
 ·refine wpAny_storeName_local C F (λh' Z f=>?_) P;obtain ⟨oL,_,_,Y,_⟩:=id F;refine h _ ⟨I.ok,I.os,I.bare,⟨λb o e n K hx=>?_,λb o e n K hx=>?_,I.base.free,λb o e hx=>?_,I.base.tups,I.base.frzs,I.base.tbls⟩,⟨_,Z,λj y v' e1 B e3=>?_⟩,λy c e=>?_,I.free,I.freeC,λp hp=>?_,t ⟨oL,Y,I.free⟩ f,by simpa using I.len⟩ ⟨_,f,.inl rfl⟩;·exact (f.2 b (aG (aI (ay e) I.ok.above))).trans (I.base.keep b o e n K hx)
  ·obtain ⟨sl,e1⟩:=I.base.slot b o e n K hx;exact ⟨sl,(f.2 b (aG (aI (ay e) I.ok.above))).trans e1⟩
  ·obtain ⟨o',e1⟩:=I.base.there b o e hx;exact ⟨o',(f.2 b (aG (aI (ay e) I.ok.above))).trans e1⟩
  ·by_cases G:j=i;·subst G;rw [hi] at e1; cases e1;rw [aO D] at B;cases B;exact ⟨u,r,.inl ⟨C,by simp⟩⟩
   ·rw [aB (bw G)] at B;obtain ⟨V,r',q⟩:=hl j y v' e1 B e3;refine ⟨V,r',?_⟩;rcases q with ⟨k,e⟩ | ⟨k,c,e,z⟩
    ·refine .inl ⟨k,?_⟩;have:y≠x:=λe=>G (Yn hN e1 (e ▸ hi));simp [this,e]
    ·exact .inr ⟨k,c,e,z.sameBut f (cne y c e)⟩
  ·obtain ⟨T,z⟩:=I.cell y c e;exact ⟨T,z.sameBut f (cne y c e)⟩
  ·obtain ⟨e,n,ne,W,d⟩:=I.pin p hp;exact ⟨(f.2 p.1 ne).trans e,n,ne,W,d⟩
 ·have J:X.fn x=true:=by
   rcases hf with z | z;·exact z
   ·rw [z] at C; cases C
  obtain ⟨c,g⟩:=I.ok.has x (.inl C);obtain ⟨T,z⟩:=I.cell x c g;refine wpAny_storeName_cell I.ok.kind C g z (λh' S f=>?_);obtain ⟨oc,O,L⟩:=id z;refine h { s with heap:=h' } ⟨I.ok,I.os,I.bare,⟨λb o e n K hx=>?_,λb o e n K hx=>?_,I.base.free,λb o e hx=>?_,I.base.tups,I.base.frzs,I.base.tbls⟩,⟨m,F.sameBut f (bw (cne x c g)),λj y v' e1 B e3=>?_⟩,λy U e=>?_,I.free,I.freeC,λp hp=>?_,t ⟨oc,O,I.freeC x c g⟩ f,by simpa using I.len⟩ ⟨c,f,.inr g⟩;·exact (f.2 b (aG (aI (ay e) (I.ok.cab x c J g)))).trans (I.base.keep b o e n K hx)
  ·obtain ⟨sl,e1⟩:=I.base.slot b o e n K hx;exact ⟨sl,(f.2 b (aG (aI (ay e) (I.ok.cab x c J g)))).trans e1⟩
  ·obtain ⟨o',e1⟩:=I.base.there b o e hx;exact ⟨o',(f.2 b (aG (aI (ay e) (I.ok.cab x c J g)))).trans e1⟩
  ·by_cases G:j=i;·subst G;rw [hi] at e1; cases e1;rw [aO D] at B;cases B;exact ⟨u,r,.inr ⟨.inl C,c,g,S⟩⟩
   ·rw [aB (bw G)] at B;obtain ⟨V,r',q⟩:=hl j y v' e1 B e3;refine ⟨V,r',?_⟩;rcases q with q | ⟨k,U,e,z'⟩
    ·exact .inl q
    ·refine .inr ⟨k,U,e,z'.sameBut f ?_⟩;rintro rfl;exact G (Yn hN e1 (I.ok.inj _ _ _ e g ▸ hi))
  ·by_cases R:U=c;·subst R; exact ⟨_,S⟩
   ·obtain ⟨w2,z2⟩:=I.cell y U e;exact ⟨w2,z2.sameBut f R⟩
  ·obtain ⟨e,n,ne,W,d⟩:=I.pin p hp;refine ⟨(f.2 p.1 ?_).trans e,n,ne,W,d⟩;intro q;rw [q,O] at e;have q':oc=p.2:=aK.inj e;exact d T (by rw [<-q']; exact L)
theorem Yo {M:Model} {A:iX} {E:iH->iK->Prop} {Q:Unit->iK->Prop} (I:Inv X pins σ H s) (a:X.N.Nodup) (hi:X.N[i]?=iE x) (hx:Loc X.env.scope x) (r:RelV v u)
  (h:∀ s',Inv X pins (σ.set i (iE v)) H s'->Q () s') (f:X.fn x=iJ\/X.env.scope.names.lookup x=iE .local:=by first | exact .inl rfl | exact .inr rfl | assumption):iM M A (storeName X.env x u) Q E s:=
 Vc I a hi hx r (λs' b _=>h s' b) f
theorem Inv.call' {ch:List Addr} (I:Inv X pins σ H s) (l:s'.os=s.os) (u:Un (frs X.stack) ch H H' s.heap s'.heap) (hok:HOk X.prog X.w H' s'.heap) (hg:l8 s'.gens)
  (a:∀ b∈ch,(b∈X.ex\/X.s₀.heap.objs.size<=b)/\b≠X.env.locals/\(∀ x c,X.env.cells.lookup x=iE c->c≠b)/\∀ p∈X.pn++pins,p.1≠b):Inv X pins σ H' s':=by
 obtain ⟨h',g',d',t',o'⟩:=s';have e:o'=s.os:=l;subst e;exact I.call (g':=g') (t':=t') (d':=d') u hok hg a
end
abbrev XK:=iH->Option Addr->Hp->Prop
abbrev St:=List (Option V)
abbrev VK:=V->Hp->Prop
abbrev TE:=St->Hp->VK->Prop
abbrev TT:=St->Hp->(Bool->Hp->Prop)->Prop
abbrev TA:=St->Hp->(List V->Hp->Prop)->Prop
structure Ends where
 nx:St->Hp->Prop
 rt:VK
 bk:St->Hp->Prop:=λ_ _=>False
 ct:St->Hp->Prop:=λ_ _=>False
abbrev TS:=Ends->St->Hp->Prop
def EP (X:Cx) (pins:Pns) (σ:St) (Q:VK) (u:iH) (s':iK):Prop:=∃ v H',Inv X pins σ H' s'/\RelV v u/\Q v H'
def TP (X:Cx) (pins:Pns) (σ:St) (Q:Bool->Hp->Prop) (b:Bool) (s':iK):Prop:=∃ H',Inv X pins σ H' s'/\Q b H'
def AP (X:Cx) (pins:Pns) (σ:St) (Q:List V->Hp->Prop) (us:List iH) (s':iK):Prop:=∃ vs H',Inv X pins σ H' s'/\Vals vs us/\Q vs H'
def SP (X:Cx) (pins:Pns) (D:Ends) (f:Flow) (s':iK):Prop:=
 match f with
 | .next=>∃ σ' H',Inv X pins σ' H' s'/\D.nx σ' H'
 | .brk=>∃ σ' H',Inv X pins σ' H' s'/\D.bk σ' H'
 | .cont=>∃ σ' H',Inv X pins σ' H' s'/\D.ct σ' H'
 | .ret u=>∃ v σ' H',Inv X pins σ' H' s'/\RelV v u/\D.rt v H'
structure PE (X:Cx) (e:Expr) (t:TE):Prop where
 run:∀ (pins:Pns) (s:iK) (σ:St) (H:Hp) (Q:VK),Inv X pins σ H s->t σ H Q->iM (model X.prog X.w) X.A (eval e X.env) (EP X pins σ Q) X.xe s
instance {X:Cx} {e:Expr} {t:TE}:CoeFun (PE X e t) (λ_=>∀ (pins:Pns) (s:iK) (σ:St) (H:Hp) (Q:VK),Inv X pins σ H s->t σ H Q->iM (model X.prog X.w) X.A (eval e X.env) (EP X pins σ Q) X.xe s):=⟨λh=>h.run⟩
structure PT (X:Cx) (e:Expr) (t:TT):Prop where
 run:∀ (pins:Pns) (s:iK) (σ:St) (H:Hp) (Q:Bool->Hp->Prop),Inv X pins σ H s->t σ H Q->iM (model X.prog X.w) X.A (isTrue e X.env (eval e X.env)) (TP X pins σ Q) X.xe s
instance {X:Cx} {e:Expr} {t:TT}:CoeFun (PT X e t) (λ_=>∀ (pins:Pns) (s:iK) (σ:St) (H:Hp) (Q:Bool->Hp->Prop),Inv X pins σ H s->t σ H Q->iM (model X.prog X.w) X.A (isTrue e X.env (eval e X.env)) (TP X pins σ Q) X.xe s):=⟨λh=>h.run⟩
structure PW (X:Cx) (e:Expr) (t:TT):Prop where
 run:∀ (whole:Sem iH) (pins:Pns) (s:iK) (σ:St) (H:Hp) (Q:Bool->Hp->Prop),Inv X pins σ H s->t σ H Q->iM (model X.prog X.w) X.A (isTrue e X.env whole) (TP X pins σ Q) X.xe s
instance {X:Cx} {e:Expr} {t:TT}:CoeFun (PW X e t) (λ_=>∀ (whole:Sem iH) (pins:Pns) (s:iK) (σ:St) (H:Hp) (Q:Bool->Hp->Prop),Inv X pins σ H s->t σ H Q->iM (model X.prog X.w) X.A (isTrue e X.env whole) (TP X pins σ Q) X.xe s):=⟨λh=>h.run⟩
variable {e:Expr}
theorem PW.pt {t:TT} (h:PW X e t):PT X e t:=⟨h.run _⟩
structure PA (X:Cx) (es:List Expr) (t:TA):Prop where
 run:∀ (pos:Pos) (pins:Pns) (s:iK) (σ:St) (H:Hp) (Q:List V->Hp->Prop),Inv X pins σ H s->t σ H Q->iM (model X.prog X.w) X.A (spliced (j6 pos (iN es X.env))) (AP X pins σ Q) X.xe s
instance {X:Cx} {es:List Expr} {t:TA}:CoeFun (PA X es t) (λ_=>∀ (pos:Pos) (pins:Pns) (s:iK) (σ:St) (H:Hp) (Q:List V->Hp->Prop),Inv X pins σ H s->t σ H Q->iM (model X.prog X.w) X.A (spliced (j6 pos (iN es X.env))) (AP X pins σ Q) X.xe s):=⟨λh=>h.run⟩
structure PS (X:Cx) (st:Stmt) (t:TS):Prop where
 run:∀ (pins:Pns) (s:iK) (σ:St) (H:Hp) (D:Ends),Inv X pins σ H s->t D σ H->iM (model X.prog X.w) X.A (exec st X.env) (SP X pins D) X.xe s
instance {X:Cx} {st:Stmt} {t:TS}:CoeFun (PS X st t) (λ_=>∀ (pins:Pns) (s:iK) (σ:St) (H:Hp) (D:Ends),Inv X pins σ H s->t D σ H->iM (model X.prog X.w) X.A (exec st X.env) (SP X pins D) X.xe s):=⟨λh=>h.run⟩
structure PSs (X:Cx) (st:List Stmt) (t:TS):Prop where
 run:∀ (pins:Pns) (s:iK) (σ:St) (H:Hp) (D:Ends),Inv X pins σ H s->t D σ H->iM (model X.prog X.w) X.A (execs st X.env) (SP X pins D) X.xe s
instance {X:Cx} {st:List Stmt} {t:TS}:CoeFun (PSs X st t) (λ_=>∀ (pins:Pns) (s:iK) (σ:St) (H:Hp) (D:Ends),Inv X pins σ H s->t D σ H->iM (model X.prog X.w) X.A (execs st X.env) (SP X pins D) X.xe s):=⟨λh=>h.run⟩
variable {A:iX}
theorem thn {t:Sem α} {Q b:α->iK->Prop} {M:Model} {E:iH->iK->Prop} (h:iM M A t Q E s) (c:∀ a s,Q a s->b a s):iM M A t b E s:=lV h c λ_ _ x=>x
variable {σ:St} {pos:Pos} {Q:iH->iK->Prop} {ta:TE} {c:Expr}
section
def qlk (i:Nat):TE:=λσ H Q=>∃ v,σ[i]?=iE (iE v)/\Q v H
def tC (v:V):TE:=λ_ H Q=>Q v H
abbrev Dbg (x:Str):Prop:=(x == ("__debug__":Str))=iI
abbrev Cdk (x:Str):Prop:=(x == ("__classdict__":Str))=iI
theorem wK (j:X.N[i]?=iE x) (f:Vis X.env.scope x) (hd:Dbg x:=by decide) (d:Cdk x:=by decide):PE X (.Name x pos) (qlk i):=by
 refine ⟨?_⟩;intro pins s σ H Q I h;obtain ⟨v,e,h⟩:=h;obtain ⟨m,n,hl⟩:=I.loc;obtain ⟨u,r,l⟩:=hl i x v j e f;have fin:EP X pins σ Q u s:=⟨v,H,I,r,h⟩
 rcases l with ⟨k,g⟩ | ⟨k,c,b,a⟩
 ·exact wpAny_Name (wpAny_loadName_local I.ok.kind k n g fin) hd
 ·rcases k with k | k;·exact wpAny_Name (wpAny_loadName_cell I.ok.kind k b a fin) hd
  ·exact wpAny_Name (wpAny_loadName_free I.ok.kind k b a fin d) hd
theorem qd2 {i j pos}:PE X (.Constant (.int i) j pos) (tC (.int i)):=⟨λ_ _ _ H _ I h=>wpAny_Constant_int ⟨.int i,H,I.tok _,⟨_,rfl⟩,h⟩⟩
theorem qj8 {b j pos}:PE X (.Constant (.bool b) j pos) (tC (.bl b)):=⟨λ_ _ _ H _ I h=>Constant_bool ⟨.bl b,H,I,rfl,h⟩⟩
theorem qg8 {j pos}:PE X (.Constant .none j pos) (tC .non):=⟨λ_ _ _ H _ I h=>Constant_none ⟨.non,H,I,rfl,h⟩⟩
theorem qd3 {x j pos}:PE X (.Constant (.str x) j pos) (tC (.str x)):=⟨λ_ _ _ H _ I h=>Calls.Constant_str ⟨.str x,H,I.tok _,⟨_,rfl⟩,h⟩⟩
def Gl (X:Cx) (x:Str):Prop:=X.env.kindOf x=iE .globalImplicit
theorem JE {E:iH->iK->Prop} {pos:Pos} (I:Inv X pins σ H s) (hg:Gl X x) (c:X.mg x=iE u) (h:Q u s)
  (hd:Dbg x:=by decide):iM (model X.prog X.w) X.A (eval (.Name x pos) X.env) Q E s:=
 Calls.Name_function_global I.ok.kind hg (Calls.loadGlobal_global (by rw [I.ok.glob]; exact I.mod.glob.keeps I.bk) c h) hd
theorem yH {E:iH->iK->Prop} {pos:Pos} (I:Inv X pins σ H s) (hg:Gl X x) (m:X.mg x=iG) (c:iO x=iE u) (h:Q u s)
  (n:x ≠ "__name__":=by decide) (hd:Dbg x:=by decide):iM (model X.prog X.w) X.A (eval (.Name x pos) X.env) Q E s:=by
 obtain ⟨mb,h1,h2⟩:=I.mod.blt;exact Calls.Name_function_global I.ok.kind hg (Calls.loadGlobal_builtin (by rw [I.ok.glob]; exact I.mod.glob.keeps I.bk) m (by rw [I.ok.blt]; exact h1.keeps I.bk) ((h2 x n).trans c) h) hd
theorem qeS (hg:Gl X x) (c:X.mg x=iE u) (r:RelV v u) (hd:Dbg x:=by decide):PE X (.Name x pos) (tC v):=⟨λ_ _ _ H _ I h=>JE I hg c ⟨v,H,I,r,h⟩ hd⟩
theorem qeT (hg:Gl X x) (m:X.mg x=iG) (c:iO x=iE u) (r:RelV v u) (n:x ≠ "__name__":=by decide) (hd:Dbg x:=by decide):PE X (.Name x pos) (tC v):=⟨λ_ _ _ H _ I h=>yH I hg m c ⟨v,H,I,r,h⟩ n hd⟩
variable {a b:Expr} {tb:TE}
variable {tA tB':TT} {rest:List Expr}
def qlQ (t u:TT):TT:=λσ H Q=>t σ H λc H1=>if c=iJ then u σ H1 Q else Q iI H1
def tOr (t u:TT):TT:=λσ H Q=>t σ H λc H1=>if c=iJ then Q iJ H1 else u σ H1 Q
def qlR (t:TT):TT:=λσ H Q=>t σ H λc H1=>Q (!c) H1
theorem qeU (g:PT X a tA):PW X (.BoolOp .And [a] pos) tA:=by
 refine ⟨?_⟩;intro w pins s σ H Q I h;refine isTrue_and (thn (g pins s σ H Q I h) λc s1 e=>?_);cases c with
 | true=>exact isTrue_and_nil e
 | false=>exact e
theorem qg9 (g:PT X a tA):PW X (.BoolOp .Or [a] pos) tA:=by
 refine ⟨?_⟩;intro w pins s σ H Q I h;refine isTrue_or (thn (g pins s σ H Q I h) λc s1 e=>?_);cases c with
 | false=>exact isTrue_or_nil e
 | true=>exact e
theorem qha (g:PT X a tA) (e:PW X (.BoolOp .And (b::rest) pos) tB'):PW X (.BoolOp .And (a::b::rest) pos) (qlQ tA tB'):=by
 refine ⟨?_⟩;intro w pins s σ H Q I h;refine isTrue_and (thn (g pins s σ H _ I h) λc s1 ⟨H1,d,q⟩=>?_);cases c with
 | true=>exact e w pins s1 σ H1 Q d q
 | false=>exact ⟨H1,d,q⟩
theorem qj9 (g:PT X a tA) (e:PW X (.BoolOp .Or (b::rest) pos) tB'):PW X (.BoolOp .Or (a::b::rest) pos) (tOr tA tB'):=by
 refine ⟨?_⟩;intro w pins s σ H Q I h;refine isTrue_or (thn (g pins s σ H _ I h) λc s1 ⟨H1,d,q⟩=>?_);cases c with
 | true=>exact ⟨H1,d,q⟩
 | false=>exact e w pins s1 σ H1 Q d q
theorem qhb (g:PT X a tA):PT X (.UnaryOp .Not a pos) (qlR tA):=by refine ⟨?_⟩;intro pins s σ H Q I h;exact isTrue_not (g pins s σ H (λc H1=>Q (!c) H1) I h)
def qka (ta tb:TE):TE:=λσ H Q=>ta σ H λx H1=>∃ c,x=.bl c/\if c=iJ then tb σ H1 Q else Q (.bl iI) H1
def qlS (ta tb:TE):TE:=λσ H Q=>ta σ H λx H1=>∃ c,x=.bl c/\if c=iJ then Q (.bl iJ) H1 else tb σ H1 Q
theorem qhc {op} {t:TE} (h:PE X a t):PE X (.BoolOp op [a] pos) t:=⟨λpins s σ H Q I w=>BoolOp_one (h pins s σ H Q I w)⟩
theorem qhd (g:PE X a ta) (e:PE X (.BoolOp .And (b::rest) pos) tb):PE X (.BoolOp .And (a::b::rest) pos) (qka ta tb):=by
 refine ⟨?_⟩;intro pins s σ H Q I h;refine BoolOp_and (thn (g pins s σ H _ I h) λv s1 ⟨x,H1,d,r1,q⟩=>?_);obtain ⟨c,rfl,q⟩:=q;cases r1;refine j7 ?_;cases c with
 | true=>exact e pins s1 σ H1 Q d q
 | false=>exact ⟨.bl iI,H1,d,rfl,q⟩
theorem qkb (g:PE X a ta) (e:PE X (.BoolOp .Or (b::rest) pos) tb):PE X (.BoolOp .Or (a::b::rest) pos) (qlS ta tb):=by
 refine ⟨?_⟩;intro pins s σ H Q I h;refine BoolOp_or (thn (g pins s σ H _ I h) λv s1 ⟨x,H1,d,r1,q⟩=>?_);obtain ⟨c,rfl,q⟩:=q;cases r1;refine j7 ?_;cases c with
 | false=>exact e pins s1 σ H1 Q d q
 | true=>exact ⟨.bl iJ,H1,d,rfl,q⟩
def tIf (t:TT) (ta tb:TE):TE:=λσ H Q=>t σ H λc H1=>if c=iJ then ta σ H1 Q else tb σ H1 Q
theorem qch (f:PT X c tA) (i:PE X a ta) (g:PE X b tb):PE X (.IfExp c a b pos) (tIf tA ta tb):=by
 refine ⟨?_⟩;intro pins s σ H Q I h;refine wpAny_IfExp (thn (f pins s σ H _ I h) λd s1 ⟨H1,e,q⟩=>?_);cases d with
 | true=>exact i pins s1 σ H1 Q e q
 | false=>exact g pins s1 σ H1 Q e q
end
def SqL (K:Frag) (H:Hp) (a:Addr) (xs:List V):Prop:=
 Rd H a (.lst xs) \/
  ∃ (o:Obj) (its:Array iH) (n:Nat),K.lookup a=iE o/\o.cls=.type "list"/\o.dict=iG/\o.data=.seq its n/\its.size<=sizeLine/\Vals xs its.toList
def SqT (K:Frag) (H:Hp) (a:Addr) (xs:List V):Prop:=
 Rd H a (.tup xs) \/
  ∃ (o:Obj) (its:Array iH) (n:Nat),K.lookup a=iE o/\(o.cls=.type "tuple"/\o.dict=iG)/\o.data=.seq its n/\its.size<=sizeLine/\Vals xs its.toList
noncomputable def qlT:iH->Option V
 | .none=>iE .non
 | .bool b=>iE (.bl b)
 | .int i _=>iE (.int i)
 | .str x _=>iE (.str x)
 | .bytes b _=>iE (.byt b)
 | .float b _=>iE (.flt b)
 | .ref a=>iE (.ref a)
 | .type n=>iE (.ty n)
 | _=>iG
theorem RelV.abs {x:V} (r:RelV x u):qlT u=iE x:=by
 cases x with
 | non=>cases r; rfl
 | bl _=>cases r; rfl
 | int _=>obtain ⟨t,rfl⟩:=r; rfl
 | str _=>obtain ⟨t,rfl⟩:=r; rfl
 | byt _=>obtain ⟨t,rfl⟩:=r; rfl
 | flt _=>obtain ⟨t,rfl⟩:=r; rfl
 | ref _=>cases r; rfl
 | ty _=>cases r; rfl
theorem RelV.inj {x y:V} (r:RelV x u) (q:RelV y u):x=y:=aK.inj (r.abs.symm.trans q.abs)
variable {ys:List V}
theorem Vals.inj (h:Vals xs us) (h':Vals ys us):xs=ys:=by
 induction h generalizing ys with
 | nil=>cases h'; rfl
 | cons r t j=>
  cases h' with
  | cons r' t'=>rw [r.inj r',j t']
variable {K:Frag}
section
theorem SqT.of (h:H a=iE (.tup xs)):SqT K H a xs:=.inl (.inl h)
theorem Inv.list (I:Inv X pins σ H s) (h:SqL X.K H a xs):∃ its:List iH,Vals xs its/\PlainL s.heap a its.toArray/\xs.length<=sizeLine:=by
 rcases h with h | ⟨o,its,n,hk,hc,hd,hs,hz,r⟩
 ·obtain ⟨z,its,n,r,e⟩:=h.ok I.hok;exact ⟨its,r,⟨_,n,e,rfl,rfl,rfl⟩,z⟩
 ·refine ⟨its.toList,r,⟨o,n,I.kIn a o hk,hc,hd,by simpa using hs⟩,?_⟩;have e:=r.length;simp only [bp] at e
  lia
theorem Inv.tuple (I:Inv X pins σ H s) (h:SqT X.K H a xs):∃ its:List iH,Vals xs its/\IsTup s.heap a its.toArray/\xs.length<=sizeLine:=by
 rcases h with h | ⟨o,its,n,hk,hc,hs,hz,r⟩
 ·obtain ⟨⟨z,_⟩,its,r,p⟩:=h.ok I.hok;exact ⟨its,r,p,z⟩
 ·refine ⟨its.toList,r,⟨o,I.kIn a o hk,hc.1,n,by simpa using hs⟩,?_⟩;have e:=r.length;simp only [bp] at e
  lia
theorem Inv.tupleN (I:Inv X pins σ H s) (h:SqT X.K H a xs):∃ o,s.heap.get? a=iE o/\o.dict=none:=by
 rcases h with h | ⟨o,its,n,hk,hc,hs,hz,r⟩
 ·obtain ⟨⟨z,w⟩,its,r,p⟩:=h.ok I.hok;exact w
 ·exact ⟨o,I.kIn a o hk,hc.2⟩
theorem Inv.list_inj (I:Inv X pins σ H s) (h:SqL X.K H a xs) (h':SqL X.K H a ys):xs=ys:=by
 obtain ⟨its,r,⟨o,n,e,_,_,d⟩,_⟩:=I.list h;obtain ⟨its',r',⟨o',c,b,_,_,d'⟩,_⟩:=I.list h';rw [e] at b; cases b;rw [d] at d';injection d' with d1 _;have:its=its':=by simpa using congrArg Array.toList d1
 subst this;exact r.inj r'
theorem Inv.tuple_inj (I:Inv X pins σ H s) (h:SqT X.K H a xs) (h':SqT X.K H a ys):xs=ys:=by
 obtain ⟨its,r,⟨o,e,_,n,d⟩,_⟩:=I.tuple h;obtain ⟨its',r',⟨o',b,_,c,d'⟩,_⟩:=I.tuple h';rw [e] at b; cases b;rw [d] at d';injection d' with d1 _;have:its=its':=by simpa using congrArg Array.toList d1
 subst this;exact r.inj r'
end
variable {te:TE} {tc:TT}
section
variable {st:Stmt} {rest:List Stmt} {t u:TS}
def qkc:TS:=λD σ H=>D.nx σ H
def qlU (t u:TS):TS:=λD σ H=>t { D with nx:=u D } σ H
theorem qeV:PSs X [] qkc:=⟨λ_ _ σ H _ I h=>l4 ⟨σ,H,I,h⟩⟩
theorem qci (h1:PS X st t) (h2:PSs X rest u):PSs X (st::rest) (qlU t u):=by
 refine ⟨?_⟩;intro pins s σ H D I h;refine wpAny_execs_cons (thn (h1 pins s σ H { D with nx:=u D } I h) λf s1 q=>?_);cases f with
 | next=>obtain ⟨σ',H',b,q⟩:=q;exact h2 pins s1 σ' H' D b q
 | ret v=>exact q
 | brk=>exact q
 | cont=>exact q
theorem qeW (h1:PS X st t):PSs X [st] t:=by
 refine ⟨?_⟩;intro pins s σ H D I h;refine wpAny_execs_cons (thn (h1 pins s σ H D I h) λf s1 q=>?_);cases f with
 | next=>exact l4 q
 | ret v=>exact q
 | brk=>exact q
 | cont=>exact q
theorem Inv.quiet (I:Inv X pins σ H s):interactive X.env=false:=by simp [interactive,I.ok.kind]
def qkd (te:TE):TS:=λD σ H=>te σ H λ_ H1=>D.nx σ H1
theorem qeX (i:PE X e te) (c:lB e iG pos.line X.env=pure false:=by rfl):PS X (.Expr e pos) (qkd te):=by refine ⟨?_⟩;intro pins s σ H D I h;exact wpAny_Expr_any (thn (i pins s σ H _ I h) λv s1 ⟨x,H1,d,r1,q⟩=>⟨σ,H1,d,q⟩) I.quiet c
def qlV (te:TE):TS:=λD σ H=>te σ H D.rt
theorem qhe (i:PE X e te):PS X (.Return (iE e) pos) (qlV te):=by refine ⟨?_⟩;intro pins s σ H D I h;exact wpAny_Return_some (thn (i pins s σ H _ I h) λv s1 ⟨x,H1,d,r1,q⟩=>⟨x,σ,H1,d,r1,q⟩)
def qlW (c:TT) (t u:TS):TS:=λD σ H=>c σ H λb H1=>if b=iJ then t D σ H1 else u D σ H1
theorem qke {a b:List Stmt} (f:PT X c tc) (i:PSs X a t) (g:PSs X b u):PS X (.If c a b pos) (qlW tc t u):=by
 refine ⟨?_⟩;intro pins s σ H D I h;refine wpAny_If (thn (f pins s σ H _ I h) λd s1 ⟨H1,e,q⟩=>?_);cases d with
 | true=>exact i pins s1 σ H1 D e q
 | false=>exact g pins s1 σ H1 D e q
end
abbrev TG:=V->St->Hp->(St->Hp->Prop)->Prop
abbrev TGs:=List V->St->Hp->(St->Hp->Prop)->Prop
structure PG (X:Cx) (target:Expr) (t:TG):Prop where
 run:∀ (pins:Pns) (s:iK) (σ:St) (H:Hp) (v:V) (u:iH) (Q:St->Hp->Prop),Inv X pins σ H s->RelV v u->t v σ H Q ->iM (model X.prog X.w) X.A (assign target X.env u) (λ_ s'=>∃ σ' H',Inv X pins σ' H' s'/\Q σ' H') X.xe s
instance {X:Cx} {target:Expr} {t:TG}:CoeFun (PG X target t) (λ_=>∀ (pins:Pns) (s:iK) (σ:St) (H:Hp) (v:V) (u:iH) (Q:St->Hp->Prop),Inv X pins σ H s->RelV v u->t v σ H Q ->iM (model X.prog X.w) X.A (assign target X.env u) (λ_ s'=>∃ σ' H',Inv X pins σ' H' s'/\Q σ' H') X.xe s):=⟨λh=>h.run⟩
structure PGs (X:Cx) (ts:List Expr) (t:TGs):Prop where
 run:∀ (pins:Pns) (s:iK) (σ:St) (H:Hp) (vs:List V) (us:List iH) (Q:St->Hp->Prop),Inv X pins σ H s->Vals vs us->t vs σ H Q ->iM (model X.prog X.w) X.A (assignInOrder ((lg ts X.env).map (·.2)) us) (λ_ s'=>∃ σ' H',Inv X pins σ' H' s'/\Q σ' H') X.xe s
instance {X:Cx} {ts:List Expr} {t:TGs}:CoeFun (PGs X ts t) (λ_=>∀ (pins:Pns) (s:iK) (σ:St) (H:Hp) (vs:List V) (us:List iH) (Q:St->Hp->Prop),Inv X pins σ H s->Vals vs us->t vs σ H Q ->iM (model X.prog X.w) X.A (assignInOrder ((lg ts X.env).map (·.2)) us) (λ_ s'=>∃ σ' H',Inv X pins σ' H' s'/\Q σ' H') X.xe s):=⟨λh=>h.run⟩
abbrev qkf:=V->V->V->Hp->(Hp->Prop)->Prop
def qll (X:Cx) (t:qkf):Prop:=
 ∀ (pins:Pns) (s:iK) (σ:St) (H:Hp) (o i v:V) (a b u:iH) (Q:Hp->Prop),Inv X pins σ H s->RelV o a->RelV i b->RelV v u->t o i v H Q ->iM (model X.prog X.w) X.A (setItem a b u) (λ_ s'=>∃ H',Inv X pins σ H' s'/\Q H') X.xe s
variable {es:List Expr} {tg:Expr}
section
def qhf (i:Nat):TG:=λv σ H Q=>Q (σ.set i (iE v)) H
theorem qeY (a:X.N.Nodup) (hi:X.N[i]?=iE x) (hx:Loc X.env.scope x) (f:X.fn x=iJ\/X.env.scope.names.lookup x=iE .local:=by first | exact .inl rfl | exact .inr rfl | assumption):PG X (.Name x pos) (qhf i):=by refine ⟨?_⟩;intro pins s σ H v u Q I r h;exact wpAny_assign_Name (Yo I a hi hx r (λs' b=>⟨_,H,b,h⟩) f)
def qlX:TGs:=λvs σ H Q=>vs=[]/\Q σ H
def qkg (t:TG) (u:TGs):TGs:=λvs σ H Q=>∃ v r,vs=v::r/\t v σ H λσ' H'=>u r σ' H' Q
theorem qeZ:PGs X [] qlX:=by refine ⟨?_⟩;intro pins s σ H vs us Q I r h;obtain ⟨e,h⟩:=h;subst e;cases r;exact assignInOrder_nil ⟨σ,H,I,h⟩
theorem qcj {t:TG} {u:TGs} (h1:PG X e t) (h2:PGs X es u)
  (c:(lg (e::es) X.env).map (·.2)=assign e X.env::(lg es X.env).map (·.2):=by rfl):PGs X (e::es) (qkg t u):=by
 refine ⟨?_⟩;intro pins s σ H vs us Q I r h;obtain ⟨v,vr,e1,h⟩:=h;subst e1;cases r with
 | cons r a=>rw [c];refine assignInOrder_cons (thn (h1 pins s σ H _ _ _ I r h) λ_ s1 ⟨σ1,H1,d,q⟩=>?_);exact h2 pins s1 σ1 H1 _ _ Q d a q
def qlY (K:Frag) (n:Nat) (t:TGs):TG:=λv σ H Q=>∃ a xs,v=.ref a/\SqT K H a xs/\xs.length=n/\t xs σ H Q
theorem qhg {k:Nat} {t:TGs} {n:Nat} (g:X.calm=iJ) (h:PGs X es t)
  (f:(lg es X.env).length=n:=by rfl) (c:(lg es X.env).findIdx? (·.1)=none:=by rfl):PG X (.Tuple es k pos) (qlY X.K n t):=by
 refine ⟨?_⟩;intro pins s σ H v u Q I r w;obtain ⟨a,xs,e1,hq,hl,w⟩:=w;subst e1;cases r;obtain ⟨its,d,ht,z⟩:=I.tuple hq;refine assign_Tuple_tuple (I.ok.hd g) ht (by simp [f,<-hl,d.length]) c λh' hx=>?_;have i:Inv X pins σ H { s with heap:=h' }:=I.kept (t':=s.toks) λb o e=>hx b o (aG (ay e)) e;exact h pins _ σ H xs _ Q i (by simpa using d) w
def qlZ (to a:TE) (t:qkf):TG:=λv σ H Q=>to σ H λo H1=>a σ H1 λi H2=>t o i v H2 λb=>Q σ b
theorem qhh {o i:Expr} {to c:TE} {t:qkf} (l:PE X o to) (hi:PE X i c) (f:qll X t)
  (g:∀ v,assign (.Subscript o i pos) X.env v=(do
   let a <-holding [v] (eval o X.env)
   let b <-holding [v,a] (eval i X.env)
   standAt pos
   holding [v,a,b] (setItem a b v)
   release [v,a,b] []):=by intro _; rfl):PG X (.Subscript o i pos) (qlZ to c t):=by
 refine ⟨?_⟩;intro pins s σ H v u Q I r h;rw [g];refine iF (iW (thn (l pins s σ H _ I h) λa s1 ⟨x,H1,m,r1,e⟩=>?_));refine iF (iW (thn (hi pins s1 σ H1 _ m e) λb s2 ⟨y,H2,k,r2,d⟩=>?_));refine iF (wpAny_standAt (iF (iW (thn (f pins s2 σ H2 x y v a b u _ k r1 r2 r d) λ_ s3 ⟨n,j,q⟩=>?_))));exact wpAny_release ⟨σ,n,j,q⟩
def qlm (te:TE) (g:TG):TS:=λD σ H=>te σ H λx H1=>g x σ H1 D.nx
theorem qd4 {g:TG} (i:PE X e te) (hg:PG X tg g) (c:swapsWithSole [tg] e pos.line X.env=pure false:=by rfl) (w:swappedStores [tg] e X.env=pure none:=by rfl)
  (h1:(lg [tg] X.env).map (·.2)=[assign tg X.env]:=by rfl):PS X (.Assign [tg] e pos) (qlm te g):=by
 refine ⟨?_⟩;intro pins s σ H D I h;refine wpAny_Assign_stores (thn (i pins s σ H _ I h) λv s1 ⟨x,H1,d,r1,a⟩=>?_) c w;rw [h1];exact thn (hg pins s1 σ H1 x v _ d r1 a) λ_ s2 q=>q
theorem qd5 {pos':Pos} (b:X.N.Nodup) (hi:X.N[i]?=iE x) (hx:Loc X.env.scope x) (a:PE X e te) (c:lB e (iE (.Name x pos')) pos.line X.env=pure false:=by rfl) (f:X.fn x=iJ\/X.env.scope.names.lookup x=iE .local:=by first | exact .inl rfl | exact .inr rfl | assumption):PS X (.Assign [.Name x pos'] e pos) (qlm te (qhf i)):=by refine ⟨?_⟩;intro pins s σ H D I h;refine wpAny_Assign_Name (thn (a pins s σ H _ I h) λv s1 ⟨y,H1,d,r1,q⟩=>?_) c;exact Yo d b hi hx r1 (λs2 k=>⟨_,H1,k,q⟩) f
end
variable {tb:TS} {body:List Stmt}
section
def qhi (c:TT) (tb:TS):TS:=λD σ H=>∃ W:Nat->St->Hp->Prop,(∃ m,W m σ H)/\∀ m σ H,W m σ H ->c σ H λb H1=>if b=iJ then ∃ N:St->Hp->Prop,(∀ σ' H',N σ' H'->∃ f,f < m/\W f σ' H')/\tb { D with nx:=N,ct:=N,bk:=D.nx } σ H1 else D.nx σ H1
theorem qck (hp:PassesOwn (model X.prog X.w) X.A X.env X.xe) (u:PT X c tc) (x:PSs X body tb):PS X (.While c body [] pos) (qhi tc tb):=by
 refine ⟨?_⟩;intro pins s σ H D I h;obtain ⟨W,⟨m0,r⟩,t⟩:=h;refine wpAny_While (codeAny_whileLoop (λn s'=>∃ σ' H',Inv X pins σ' H' s'/\W n σ' H') ?_ m0 ⟨σ,H,I,r⟩);rintro n s1 ⟨σ1,H1,y,p⟩;refine lm hp (thn (u pins s1 σ1 H1 _ y (t n σ1 H1 p)) λb s2 ⟨H2,o,e⟩=>?_);cases b with
 | true=>
  obtain ⟨N,l,e⟩:=e;rw [Aa rfl];refine lm hp (thn (x pins s2 σ1 H2 _ o e) λf s3 q=>?_);cases f with
  | next=>obtain ⟨a,d,k,i⟩:=q;obtain ⟨m,j,g⟩:=l a d i;exact ⟨m,j,a,d,k,g⟩
  | cont=>obtain ⟨a,d,k,i⟩:=q;obtain ⟨m,j,g⟩:=l a d i;exact ⟨m,j,a,d,k,g⟩
  | brk=>exact q
  | ret v=>exact q
 | false=>rw [Ab bF];exact l4 ⟨σ1,H2,o,e⟩
end
structure It where
 go:Nat->Hp->Prop
 yld:Nat->Hp->V->Hp->Prop
 stop:Nat->Hp->Prop
def WK (X:Cx) (pins:Pns) (H:Hp) (b:Addr):Prop:=
 H b=iG/\b≠X.env.locals/\b∉X.fs/\(b∈X.ex\/X.s₀.heap.objs.size<=b)/\(∀ x c,X.env.cells.lookup x=iE c->c≠b)/\∀ p∈X.pn++pins,p.1≠b
theorem Inv.fpOk (I:Inv X pins σ H s) (d:s.heap.objs.size<=b) (n:H' b=iG):WK X pins H' b:=by
 refine ⟨n,bQ (aI I.lt d),I.nofs d,.inr (bI I.sz d),λx c e z=>?_,λp hp z=>?_⟩;·obtain ⟨v,q⟩:=I.cell x c e;exact absurd (aI q.lt (by rw [z]; exact d)) (b6 _)
 ·exact absurd (aI (ay (I.pin p hp).1) (by rw [z]; exact d)) (b6 _)
structure Turn (P:iQ) (w:iR) (K:Frag) (tg:Expr) (J:It) (fp:List Addr) (it:Addr) (tn:Nat->Heap->Prop):Prop where
 mem:it∈fp
 obj:∀ i h,tn i h->∀ b∈fp,∃ o,h.get? b=iE o/\∀ v,o.data≠.cell v
 keep:∀ i h h',tn i h->(∀ b∈fp,∀ o,h.get? b=iE o->h'.get? b=iE o)->tn i h'
 item:∀ (X:Cx),X.prog=P->X.w=w->X.K=K->X.calm=iJ->∀ (i:Nat) (pins:Pns) (s:iK) (σ:St) (H:Hp) (E:iH->iK->Prop),Inv X pins σ H s->(∀ b∈fp,WK X pins H b)->tn i s.heap->J.go i H ->iM (model P w) X.A (k4 (.ref it)) (λr s1=>∃ u,r=iE u /\
   iM (model P w) X.A (l5 tg (.ref it) u) (λ_ s2=>∃ x H',Inv X pins σ H' s2/\RelV x u/\J.yld i H x H'/\tn (i+1) s2.heap/\∀ b∈fp,H' b=iG) E s1) E s
 done:∀ (X:Cx),X.prog=P->X.w=w->X.K=K->X.calm=iJ->∀ (i:Nat) (pins:Pns) (s:iK) (σ:St) (H:Hp) (E:iH->iK->Prop),Inv X pins σ H s->(∀ b∈fp,WK X pins H b)->tn i s.heap->J.stop i H ->iM (model P w) X.A (k4 (.ref it)) (λr s1=>r=iG/\Inv X pins σ H s1) E s
 self:∀ (A:iX) (i:Nat) (s:iK) (Q:iH->iK->Prop) (E:iH->iK->Prop),tn i s.heap->Q (.ref it) s->iM (model P w) A (mE (.ref it)) Q E s
abbrev TI:=St->Hp->(It->Hp->Prop)->Prop
def PIE (X:Cx) (pins:Pns) (σ:St) (tg:Expr) (R:It->Hp->Prop) (i:iH) (s2:iK):Prop:=
 ∃ (it:Addr) (fp:List Addr) (tn:Nat->Heap->Prop) (J:It) (H':Hp),i=.ref it/\Inv X pins σ H' s2/\Turn X.prog X.w X.K tg J fp it tn/\tn 0 s2.heap/\(∀ b∈fp,WK X pins H' b)/\R J H'
structure PI (X:Cx) (tg iter:Expr) (wi:TI):Prop where
 run:∀ (pins:Pns) (s:iK) (σ:St) (H:Hp) (R:It->Hp->Prop),Inv X pins σ H s->wi σ H R ->iM (model X.prog X.w) X.A (eval iter X.env) (λv s1=>iM (model X.prog X.w) X.A (mE v) (PIE X pins σ tg R) X.xe s1) X.xe s
instance {X:Cx} {tg iter:Expr} {wi:TI}:CoeFun (PI X tg iter wi) (λ_=>∀ (pins:Pns) (s:iK) (σ:St) (H:Hp) (R:It->Hp->Prop),Inv X pins σ H s->wi σ H R ->iM (model X.prog X.w) X.A (eval iter X.env) (λv s1=>iM (model X.prog X.w) X.A (mE v) (PIE X pins σ tg R) X.xe s1) X.xe s):=⟨λh=>h.run⟩
theorem qcl {M:Model} {A:iX} {E:iH->iK->Prop} {tg:Expr} {u:iH} {o:Obj} {n:String} {vs:Array iH} {Q:Unit->iK->Prop} (l:s.heap.get? it=iE o) (d:o.cls=.type n) (hd:o.data=.fields vs)
    (a:["enumerate", "zip", "dict_itemiterator", "dict_reverseitemiterator", "odict_iterator", "itertools.zip_longest", "itertools.pairwise"].contains n=iI) (c:Q () s):iM M A (l5 tg (.ref it) u) Q E s:=by
  unfold l5;cases tg <;> first
    | exact iL c
    | (cases u <;> first
        | exact iL c
        | (refine iF (wpAny_load l ?_)
           rw [d,hd];show iM M A (if (["enumerate", "zip", "dict_itemiterator", "dict_reverseitemiterator", "odict_iterator", "itertools.zip_longest", "itertools.pairwise"].contains n&&vs[0]? == iE (i6 _))=iJ then _ else _) Q E s;rw [Ab (by intro h; rw [a,Bool.false_and] at h; cases h)];exact iL c))
noncomputable def Itl (K:Frag) (a:Addr):It:=
 ⟨λi H=>∃ xs x,SqL K H a xs/\xs[i]?=iE x,λi H x H'=>H'=H/\∀ xs,SqL K H a xs->xs[i]?=iE x,λi H=>∃ xs,SqL K H a xs/\xs.length<=i⟩
noncomputable def Itt (K:Frag) (a:Addr):It:=
 ⟨λi H=>∃ xs x,SqT K H a xs/\xs[i]?=iE x,λi H x H'=>H'=H/\∀ xs,SqT K H a xs->xs[i]?=iE x,λi H=>∃ xs,SqT K H a xs/\xs.length<=i⟩
noncomputable def Itr (lo:Int) (n:Nat):It:=⟨λi _=>i < n,λi H x H'=>H'=H/\x=.int (lo+i),λi _=>n<=i⟩
theorem Gk (a it:Addr):Turn P w K tg (Itl K a) [it] it (λi h=>h.IsListIter it a i) where
 mem:=by simp
 obj:=λi h st b f=>by
  have e:b=it:=by simpa using f
  subst e;obtain ⟨o,e,c,d⟩:=st;exact ⟨o,e,λv z=>by rw [d] at z; cases z⟩
 keep:=λi h h' st k=>st.at λo e=>k it (by simp) o e
 item:=by intro X m l n y i pins s σ H E I j st hg;subst m l n;obtain ⟨xs,x,hq,hx⟩:=hg;obtain ⟨its,r,p,C⟩:=I.list hq;obtain ⟨u,G,B⟩:=r.get hx;obtain ⟨f0,f1,f2,t,f4,q⟩:=j it (by simp);refine wpAny_pyNext_list_item st p.isList (x:=u) (by simpa using G) λh' g A=>?_;have L:Inv X pins σ H { s with heap:=h' }:=I.turned (t':=s.toks) (λb o f e=>(A.2 b f).trans e) f0 f1 t f4 q;obtain ⟨o,e,c,d⟩:=id g;exact ⟨u,rfl,qcl (s:={ s with heap:=h' }) e c d (by decide) ⟨x,H,L,B,⟨rfl,λys D=>by rw [I.list_inj D hq]; exact hx⟩,g,λb f=>(j b f).1⟩⟩
 done:=by intro X m l n y i pins s σ H E I j st hg;subst m l n;obtain ⟨xs,hq,hx⟩:=hg;obtain ⟨its,r,p,C⟩:=I.list hq;obtain ⟨f0,f1,f2,t,f4,q⟩:=j it (by simp);have hl:=r.length;exact wpAny_pyNext_list_end (I.ok.hd y) st p.isList (by simp; lia) λh' J=>⟨rfl,I.turned (t':=s.toks) (λb o f e=>J b o f e) f0 f1 t f4 q⟩
 self:=λ_ _ _ _ _ st h=>wpAny_pyIter_listiter st h
theorem XX (a it:Addr):Turn P w K tg (Itt K a) [it] it (λi h=>h.IsTupleIter it a i) where
 mem:=by simp
 obj:=λi h st b f=>by
  have e:b=it:=by simpa using f
  subst e;obtain ⟨o,e,c,d⟩:=st;exact ⟨o,e,λv z=>by rw [d] at z; cases z⟩
 keep:=λi h h' st k=>st.at λo e=>k it (by simp) o e
 item:=by intro X m l n y i pins s σ H E I j st hg;subst m l n;obtain ⟨xs,x,hq,hx⟩:=hg;obtain ⟨its,r,p,C⟩:=I.tuple hq;obtain ⟨u,G,B⟩:=r.get hx;obtain ⟨f0,f1,f2,t,f4,q⟩:=j it (by simp);refine wpAny_pyNext_tuple_item st (show s.heap.IsTuple a its.toArray from p) (x:=u) (by simpa using G) λh' g A=>?_;have L:Inv X pins σ H { s with heap:=h' }:=I.turned (t':=s.toks) (λb o f e=>(A.2 b f).trans e) f0 f1 t f4 q;obtain ⟨o,e,c,d⟩:=id g;exact ⟨u,rfl,qcl (s:={ s with heap:=h' }) e c d (by decide) ⟨x,H,L,B,⟨rfl,λys D=>by rw [I.tuple_inj D hq]; exact hx⟩,g,λb f=>(j b f).1⟩⟩
 done:=by intro X m l n y i pins s σ H E I j st hg;subst m l n;obtain ⟨xs,hq,hx⟩:=hg;obtain ⟨its,r,p,C⟩:=I.tuple hq;obtain ⟨f0,f1,f2,t,f4,q⟩:=j it (by simp);have hl:=r.length;exact wpAny_pyNext_tuple_end (I.ok.hd y) st (show s.heap.IsTuple a its.toArray from p) (by simp; lia) λh' J=>⟨rfl,I.turned (t':=s.toks) (λb o f e=>J b o f e) f0 f1 t f4 q⟩
 self:=λ_ _ _ _ _ st h=>wpAny_pyIter_tupleiter st h
theorem XY (it:Addr) (lo:Int) (n:Nat):Turn P w K tg (Itr lo n) [it] it (λi h=>IsRangeIter h it (lo+(i:Nat) * 1) ((n:Int) - (i:Nat)) 1) where
 mem:=by simp
 obj:=λi h st b d=>by
  have e:b=it:=by simpa using d
  subst e;exact ⟨_,st,λv z=>by have p:Data.fields _=Data.cell v:=z;cases p⟩
 keep:=λi h h' st k=>k it (by simp) _ st
 item:=by intro X m a j c i pins s σ H E I f st hg;subst m a j;obtain ⟨f0,f1,f2,l,f4,q⟩:=f it (by simp);have W:=Walks.range (prog:=X.prog) (w:=X.w) (I.ok.hd c) it lo 1 n;refine W.item i s _ _ hg st λv h' tk u g r=>?_;obtain ⟨t,rfl⟩:=u;have x:Inv X pins σ H { s with heap:=h',toks:=tk }:=I.turned (λb o d e=>r b o (by simpa using d) e) f0 f1 l f4 q;refine ⟨_,rfl,qcl (s:={ s with heap:=h',toks:=tk }) (n := "range_iterator") g rfl rfl (by decide) ⟨.int (lo+i),H,x,⟨t,?_⟩,⟨rfl,rfl⟩,g,λb d=>(f b d).1⟩⟩;rw [Int.mul_one]
 done:=by intro X m a j c i pins s σ H E I f st hg;subst m a j;obtain ⟨f0,f1,f2,l,f4,q⟩:=f it (by simp);exact wpAny_pyNext_range_end (I.ok.hd c) st (by have:n<=i:=hg; lia) λh' J=>⟨rfl,I.turned (t':=s.toks) (λb o d e=>J b o d e) f0 f1 l f4 q⟩
 self:=λ_ _ _ _ _ st h=>wpAny_pyIter_rangeiter st h
variable {p:Pos} {fp:List Addr}
section
theorem qcm {R:It->Hp->Prop} {E:iH->iK->Prop} {lo hi:Int} {t u v:Tok} {tk:Nat} (I:Inv X pins σ H s) (h1:-(2 ^ 62)<=lo) (h2:lo < 2 ^ 62) (i:-(2 ^ 62)<=hi) (a:hi < 2 ^ 62)
  (q:R (Itr lo (hi - lo).toNat) H):iM (model X.prog X.w) X.A (mE (.ref s.heap.objs.size)) (PIE X pins σ tg R) E { s with heap:=s.heap.push { cls:=.type "range",data:=.fields #[.int lo t,.int hi u,.int 1 v] },toks:=tk }:=by
 refine wpAny_pyIter_range (iu ..) (small_one h1 h2 i a) ?_;have d:Inv X pins σ H { s with heap:=s.heap.push { cls:=.type "range",data:=.fields #[.int lo t,.int hi u,.int 1 v] },toks:=tk }:=I.kept λb o e=>aa _ e;refine ⟨(s.heap.push { cls:=.type "range",data:=.fields #[.int lo t,.int hi u,.int 1 v] }).objs.size,[(s.heap.push { cls:=.type "range",data:=.fields #[.int lo t,.int hi u,.int 1 v] }).objs.size],_,_,H,rfl,d.kept (t':=tk) λb o e=>aa _ e,XY _ lo (hi - lo).toNat,?_,λb h=>?_,q⟩
 ·have e1:lo+((0:Nat):Int) * 1=lo:=by simp
  have c:(((hi - lo).toNat:Nat):Int) - ((0:Nat):Int)=Builtin.Range.rangeSize lo hi 1:=by rw [rangeSize_one]; split <;> lia
  show IsRangeIter _ _ (lo+((0:Nat):Int) * 1) ((((hi - lo).toNat:Nat):Int) - ((0:Nat):Int)) 1;rw [e1,c];exact ao _ rfl
 ·have e:b=(s.heap.push { cls:=.type "range",data:=.fields #[.int lo t,.int hi u,.int 1 v] }).objs.size:=by simpa using h
  subst e;exact d.fpOk (aA _) (d.hok.fresh (aA _))
def qkh (ta:TA):TI:=λσ H R=>ta σ H λvs H1=>∃ j:Int,vs=[.int j]/\-(2 ^ 62)<=j/\j < 2 ^ 62/\R (Itr 0 j.toNat) H1
theorem Gm {a:Expr} {ta:TA} (hg:Gl X "range") (m:X.mg "range"=iG) (g:PA X [a] ta) (f:iN [a] X.env=[(iI,eval a X.env)]:=by rfl):PI X tg (.Call (.Name "range" p) [a] [] pos) (qkh ta):=by
 refine ⟨?_⟩;intro pins s σ H R I h;refine Call_ (yH I hg m boot_range (bi (thn (g pos pins s σ H _ I h) λus s1 ⟨vs,H1,i,r1,b⟩=>?_) f rfl));obtain ⟨j,e,b,d,q⟩:=b;subst e;cases r1 with
 | cons r c=>cases c;obtain ⟨t,rfl⟩:=r;exact call_range_1 (qcm i (by lia) (by lia) b d (by simpa using q))
def ql0 (wi:TI) (g:TG) (tb:TS):TS:=λD σ H=>wi σ H λJ H1=>∃ W:Nat->Nat->St->Hp->Prop,(∃ m,W 0 m σ H1)/\∀ i m σ H,W i m σ H ->(J.stop i H/\D.nx σ H)\/(J.go i H/\∃ N:St->Hp->Prop,(∀ σ' H',N σ' H'->∃ f,f < m/\W (i+1) f σ' H')/\∀ x H',J.yld i H x H'->g x σ H' λa H2=>tb { D with nx:=N,ct:=N,bk:=D.nx } a H2)
noncomputable def Vd (fp:List Addr) (h:Heap):Pns:=fp.filterMap λb=>(h.get? b).map λo=>(b,o)
theorem uP {o:Obj} (d:b∈fp) (e:h.get? b=iE o):(b,o)∈Vd fp h:=fF.mpr ⟨b,d,by rw [e]; rfl⟩
theorem Gn {p:Addr×Obj} (hp:p∈Vd fp h):p.1∈fp/\h.get? p.1=iE p.2:=by
 obtain ⟨b,d,e⟩:=fF.mp hp;cases q:h.get? b with
 | none=>rw [q] at e; cases e
 | some o=>rw [q] at e;have a:(b,o)=p:=aK.inj e;subst a;exact ⟨d,q⟩
theorem Inv.pinned (I:Inv X pins σ H s) (f:∀ b∈fp,WK X pins H b) (l:∀ b∈fp,∃ o,s.heap.get? b=iE o/\∀ v,o.data≠.cell v):Inv X (pins++Vd fp s.heap) σ H s:=
 I.pins_of λp hp=>(aj.mp hp).elim (λz=>I.pin p (aX _ z)) λz=>by obtain ⟨h,e⟩:=Gn z;obtain ⟨f0,f1,f2,_⟩:=f p.1 h;obtain ⟨o,a,d⟩:=l p.1 h;rw [e] at a; cases a;exact ⟨e,f0,f1,f2,d⟩
theorem Inv.unpinned {pl:Pns} (I:Inv X (pins++pl) σ H s):Inv X pins σ H s:=I.pins_of λp hp=>I.pin p (aX _ (fk _ hp))
theorem qhj {iter:Expr} {wi:TI} {g:TG} {pos:Pos} (hp:PassesOwn (model X.prog X.w) X.A X.env X.xe) (R:X.calm=iJ) (hi:PI X tg iter wi) (hg:PG X tg g) (j:PSs X body tb)
  (hs:∀ x,lq iter X.env x=pure x:=by intro _; rfl):PS X (.For tg iter body [] pos) (ql0 wi g tb):=by
 refine ⟨?_⟩;intro pins s σ H D I h;refine wpAny_For (thn (hi pins s σ H _ I h) λv s1 h1=>thn h1 λitv s2 h2=>?_) hs;obtain ⟨it,fp,tn,J,H2,e,I2,T,L,f2,W,⟨m0,w0⟩,z⟩:=h2;subst e;have t:∀ {H':Hp},(∀ b∈fp,H' b=iG)->∀ b∈fp,WK X pins H' b:=λhn b j=>⟨hn b j,(f2 b j).2⟩
 refine codeAny_forLoop_any (λn s'=>∃ i σ' H',Inv X pins σ' H' s'/\tn i s'.heap/\(∀ b∈fp,H' b=iG)/\W i n σ' H') ?_ m0 ⟨0,σ,H2,I2,L,λb j=>(f2 b j).1,w0⟩;rintro n s3 ⟨i,c,G,S,B,E,F⟩;rcases z i n c G F with ⟨stop,qn⟩ | ⟨go,N,hN,step⟩
 ·refine lm hp (thn (T.done X rfl rfl rfl R i pins s3 c G X.xe S (t E) B stop) λr s4 ⟨O,I4⟩=>?_);subst O;exact l4 ⟨c,G,I4,qn⟩
 ·refine lm hp (thn (T.item X rfl rfl rfl R i pins s3 c G X.xe S (t E) B go) λr s4 ⟨u,O,h4⟩=>?_);subst O;refine lm hp (thn h4 λ_ s5 ⟨x,U,I5,r5,V,y,P⟩=>?_);have Q:=I5.pinned (t P) (T.obj _ _ y);refine lm hp (thn (hg _ s5 c U x u _ Q r5 (step x U V)) λ_ s6 ⟨K,H6,I6,q6⟩=>?_);refine lm hp (thn (j _ s6 K H6 _ I6 q6) λf M q=>?_);have k:∀ {a:St} {p:Hp},Inv X (pins++Vd fp s5.heap) a p M->N a p->∃ m,m < n/\∃ i σ' H',Inv X pins σ' H' M/\tn i M.heap/\(∀ b∈fp,H' b=iG)/\W i m σ' H':=λ{a p} l C=>by obtain ⟨m',hm,Z⟩:=hN a p C;refine ⟨m',hm,i+1,a,p,l.unpinned,T.keep _ _ _ y λb j o e=>(l.pin (b,o) (aX _ (aX _ (uP j e)))).1,λb j=>?_,Z⟩;obtain ⟨o,e,d⟩:=T.obj _ _ y b j;exact (l.pin (b,o) (aX _ (aX _ (uP j e)))).2.1
  cases f with
  | next=>obtain ⟨a,p,l,C⟩:=q; exact k l C
  | cont=>obtain ⟨a,p,l,C⟩:=q; exact k l C
  | brk=>obtain ⟨a,p,l,q⟩:=q; exact ⟨a,p,l.unpinned,q⟩
  | ret v=>obtain ⟨Y,a,p,l,r7,q⟩:=q; exact ⟨Y,a,p,l.unpinned,r7,q⟩
end
abbrev R2:=V->V->Hp->VK->Prop
def OpR (X:Cx) (f:iH->iH->Sem iH) (r:R2):Prop:=
 ∀ (pins:Pns) (s:iK) (σ:St) (H:Hp) (x y:V) (v u:iH) (Q:VK),Inv X pins σ H s->RelV x v->RelV y u->r x y H Q ->iM (model X.prog X.w) X.A (f v u) (EP X pins σ Q) X.xe s
def UnR (X:Cx) (f:iH->Sem iH) (r:V->Hp->VK->Prop):Prop:=
 ∀ (pins:Pns) (s:iK) (σ:St) (H:Hp) (x:V) (v:iH) (Q:VK),Inv X pins σ H s->RelV x v->r x H Q ->iM (model X.prog X.w) X.A (f v) (EP X pins σ Q) X.xe s
def wU (X:Cx) (f:iH) (r:List V->Hp->VK->Prop):Prop:=
 ∀ (pins:Pns) (s:iK) (σ:St) (H:Hp) (xs:List V) (us:List iH) (Q:VK),Inv X pins σ H s->Vals xs us->r xs H Q ->iM (model X.prog X.w) X.A (call f us) (EP X pins σ Q) X.xe s
def ql1 (X:Cx) (r:V->Hp->(Bool->Hp->Prop)->Prop):Prop:=
 ∀ (pins:Pns) (s:iK) (σ:St) (H:Hp) (x:V) (v:iH) (Q:Bool->Hp->Prop),Inv X pins σ H s->RelV x v->r x H Q ->iM (model X.prog X.w) X.A (truthy v) (TP X pins σ Q) X.xe s
def tOp (r:R2) (ta tb:TE):TE:=λσ H Q=>ta σ H λx H1=>tb σ H1 λy H2=>r x y H2 Q
def tUn (r:V->Hp->VK->Prop) (ta:TE):TE:=λσ H Q=>ta σ H λx H1=>r x H1 Q
def rI (C:Int->Int->Prop) (g:Int->Int->V):R2:=λx y H Q=>∃ i j,x=.int i/\y=.int j/\C i j/\Q (g i j) H
def rI0 (g:Int->Int->V):R2:=λx y H Q=>∃ i j,x=.int i/\y=.int j/\Q (g i j) H
def rU (g:Int->V):V->Hp->VK->Prop:=λx H Q=>∃ i,x=.int i/\Q (g i) H
variable {r:R2}
section
variable {a b:Expr} {tb tc:TE}
theorem qki (j:PE X a ta) (i:PE X b tb) {R:V->V->Hp->Prop} (I:Inv X pins σ H s)
  (h:ta σ H λx H1=>tb σ H1 λy H2=>R x y H2) {Q:iH->iK->Prop} {f:iH->iH->Sem iH}
  (g:∀ v u s2 x y H2,Inv X pins σ H2 s2->RelV x v->RelV y u->R x y H2->iM (model X.prog X.w) X.A (f v u) Q X.xe s2) :
  iM (model X.prog X.w) X.A (eval a X.env) (λv d=>iM (model X.prog X.w) X.A (eval b X.env) (λu c=>iM (model X.prog X.w) X.A (f v u) Q X.xe c) X.xe d) X.xe s:=by
 refine thn (j pins s σ H _ I h) λv s1 ⟨x,H1,l,r1,e⟩=>?_;refine thn (i pins s1 σ H1 _ l e) λu s2 ⟨y,H2,k,r2,q⟩=>?_;exact g v u s2 x y H2 k r1 r2 q
theorem qkj {op:Operator} (l:OpR X (k6 op) r) (g:PE X a ta) (e:PE X b tb):PE X (.BinOp a op b pos) (tOp r ta tb):=by refine ⟨?_⟩;intro pins s σ H Q I h;exact wpAny_BinOp (qki g e I h λv u s2 x y H2 k d c q=>l pins s2 σ H2 x y v u Q k d c q)
theorem qkk {op:UnaryOp} {r:V->Hp->VK->Prop} (l:UnR X (unaryOp op) r) (g:PE X a ta):PE X (.UnaryOp op a pos) (tUn r ta):=by refine ⟨?_⟩;intro pins s σ H Q I h;exact UnaryOp_ (thn (g pins s σ H _ I h) λv s1 ⟨x,H1,d,r1,q⟩=>l pins s1 σ H1 x v Q d r1 q)
theorem opI {f:iH->iH->Sem iH} {C:Int->Int->Prop} {g:Int->Int->Int}
  (r:∀ (i j:Int) (t u:Tok) (s:iK) (Q:iH->iK->Prop) (E:iH->iK->Prop),C i j->Q (.int (g i j) s.toks) { s with toks:=s.toks+1 }->iM (model X.prog X.w) X.A (f (.int i t) (.int j u)) Q E s) :
  OpR X f (rI C λi j=>.int (g i j)):=by
 intro pins s σ H x y v u Q I d c h;obtain ⟨i,j,rfl,rfl,a,q⟩:=h;obtain ⟨t,rfl⟩:=d;obtain ⟨t',rfl⟩:=c;exact r i j t t' s _ _ a ⟨.int (g i j),H,I.tok _,⟨_,rfl⟩,q⟩
theorem qln {f:iH->iH->Sem iH} {g:Int->Int->Int}
  (r:∀ (i j:Int) (t u:Tok) (s:iK) (Q:iH->iK->Prop) (E:iH->iK->Prop),Q (.int (g i j) s.toks) { s with toks:=s.toks+1 }->iM (model X.prog X.w) X.A (f (.int i t) (.int j u)) Q E s) :
  OpR X f (rI0 λi j=>.int (g i j)):=by
 intro pins s σ H x y v u Q I d c h;obtain ⟨i,j,rfl,rfl,q⟩:=h;obtain ⟨t,rfl⟩:=d;obtain ⟨t',rfl⟩:=c;exact r i j t t' s _ _ ⟨.int (g i j),H,I.tok _,⟨_,rfl⟩,q⟩
theorem qjK {f:iH->iH->Sem iH} {g:Int->Int->Bool}
  (r:∀ (i j:Int) (t u:Tok) (s:iK) (Q:iH->iK->Prop) (E:iH->iK->Prop),Q (.bool (g i j)) s->iM (model X.prog X.w) X.A (f (.int i t) (.int j u)) Q E s) :
  OpR X f (rI0 λi j=>.bl (g i j)):=by
 intro pins s σ H x y v u Q I d c h;obtain ⟨i,j,rfl,rfl,q⟩:=h;obtain ⟨t,rfl⟩:=d;obtain ⟨t',rfl⟩:=c;exact r i j t t' s _ _ ⟨.bl (g i j),H,I,rfl,q⟩
def qgV (i j:Int):Prop:=0 < j/\j < 1073741824
def CMul (i j:Int):Prop:=(-(2 ^ 64) < i/\i < 2 ^ 64)\/(-(2 ^ 64) < j/\j < 2 ^ 64)
theorem CMul.ok {i j:Int} (h:CMul i j):IntMulOk i j:=by
 rcases h with ⟨h1,h2⟩ | ⟨h1,h2⟩
 ·exact .of_left (intBits_le_64 h1 h2)
 ·exact .of_right (intBits_le_64 h1 h2)
theorem qhk:OpR X (k6 .Add) (rI0 λi j=>.int (i+j)):=qln λ_ _ _ _ _ _ _ q=>add_int q
theorem qhl:OpR X (k6 .Sub) (rI0 λi j=>.int (i - j)):=qln λ_ _ _ _ _ _ _ q=>sub_int q
theorem qhm:OpR X (k6 .Mult) (rI CMul λi j=>.int (i * j)):=opI λ_ _ _ _ _ _ _ d q=>mul_int q d.ok
theorem qe0:OpR X (k6 .FloorDiv) (rI qgV λi j=>.int (i / j)):=opI λi j _ _ _ _ _ d q=>by have h1:(0:Int) < j:=d.1;have h2:j < 1073741824:=d.2;exact floordiv_int (by lia) (by rw [Int.fdiv_eq_ediv_of_nonneg i (by lia)]; exact q) (.inl (PyProof.noPylong_small (by lia)))
theorem qhn:OpR X (k6 .Mod) (rI (λ_ j=>0 < j) λi j=>.int (i % j)):=opI λi j _ _ _ _ _ d q=>by have h1:(0:Int) < j:=d;exact mod_int' (by lia) (by rw [Int.fmod_eq_emod_of_nonneg i (by lia)]; exact q)
theorem unI {f:iH->Sem iH} {g:Int->Int}
  (r:∀ (i:Int) (t:Tok) (s:iK) (Q:iH->iK->Prop) (E:iH->iK->Prop),Q (.int (g i) s.toks) { s with toks:=s.toks+1 }->iM (model X.prog X.w) X.A (f (.int i t)) Q E s) :
  UnR X f (rU λi=>.int (g i)):=by
 intro pins s σ H x v Q I d h;obtain ⟨i,rfl,q⟩:=h;obtain ⟨t,rfl⟩:=d;exact r i t s _ _ ⟨.int (g i),H,I.tok _,⟨_,rfl⟩,q⟩
theorem qho:UnR X (unaryOp .USub) (rU λi=>.int (-i)):=unI λ_ _ _ _ _ q=>neg_int q
end
variable {op op':CmpOp} {r':R2}
section
variable {a b:Expr} {tb tc:TE}
theorem Go {Q:VK} {k k':Bool} (I:Inv X pins σ H s) (q:Q (.bl k) H) (e:k=k'):EP X pins σ Q (.bool k') s:=by subst e;exact ⟨.bl k,H,I,rfl,q⟩
theorem qkl:OpR X (iS .Lt) (rI0 λi j=>.bl (decide (i < j))):=qjK λ_ _ _ _ _ _ _ q=>lt_int q
theorem qkm:OpR X (iS .LtE) (rI0 λi j=>.bl (decide (i<=j))):=qjK λ_ _ _ _ _ _ _ q=>le_int q
theorem qkn:OpR X (iS .Gt) (rI0 λi j=>.bl (decide (j < i))):=qjK λ_ _ _ _ _ _ _ q=>gt_int q
theorem qko:OpR X (iS .GtE) (rI0 λi j=>.bl (decide (j<=i))):=qjK λ_ _ _ _ _ _ _ q=>ge_int q
theorem Gp:OpR X (iS .Lt) (λx y H Q=>∃ i j,x=.str i/\y=.str j/\Q (.bl (decide (i.cps.toList < j.cps.toList))) H):=by intro pins s σ H x y v u Q I d c h;obtain ⟨i,j,rfl,rfl,q⟩:=h;obtain ⟨t,rfl⟩:=d;obtain ⟨t',rfl⟩:=c;exact lt_str (Go I q rfl)
theorem qe1:OpR X (iS .IsNot) (λx y H Q=>y=.non/\Q (.bl (!decide (x=.non))) H):=by
 intro pins s σ H x y v u Q I d c h;obtain ⟨rfl,q⟩:=h;cases c;refine isnot_none_gen (Go I q ?_);cases x <;> first
  | (cases d; rfl)
  | (obtain ⟨t,rfl⟩:=d; rfl)
theorem Gq (b:Expr) (h:op≠.In:=by decide) (h2:op≠.NotIn:=by decide):lC op b=false:=by
 have e1:(op == CmpOp.In)=false:=by cases op <;> first | rfl | exact absurd rfl h
 have i:(op == CmpOp.NotIn)=false:=by cases op <;> first | rfl | exact absurd rfl h2
 cases b <;> simp [lC,e1,i]
theorem qe2 (l:OpR X (iS op) r) (g:PE X a ta) (e:PE X b tb) (m:lC op b=iI):PE X (.Compare a [op] [b] pos) (tOp r ta tb):=by refine ⟨?_⟩;intro pins s σ H Q I h;exact wpAny_Compare1 (qki g e I h λv u s2 x y H2 k d c q=>l pins s2 σ H2 x y v u Q k d c q) m
def qhp (t:TE):TT:=λσ H Q=>t σ H λx H'=>∃ k,x=.bl k/\Q k H'
theorem Gr (l:OpR X (iS op) r) (i:PE X a ta) (g:PE X b tb) (m:lC op b=iI):PT X (.Compare a [op] [b] pos) (qhp (tOp r ta tb)):=by
 refine ⟨?_⟩;intro pins s σ H Q I h;refine wpAny_isTrue_Compare1 (thn (i pins s σ H _ I h) λv s1 ⟨x,H1,o,r1,f⟩=>thn (g pins s1 σ H1 _ o f) λu s2 ⟨y,H2,n,r2,d⟩=>
  thn (l pins s2 σ H2 x y v u _ n r1 r2 d) λc s3 ⟨z,p,j,r3,k,e,q⟩=>?_) m
 subst e;cases r3;exact j7 ⟨p,j,q⟩
def Gs (r r':R2) (ta tb tc:TE):TE:=λσ H Q=>ta σ H λx H1=>tb σ H1 λy H2=>r x y H2 λz b=>∃ k,z=.bl k /\
 (if k=iJ then tc σ b λT a=>r' y T a Q else Q (.bl iI) b)
theorem qcn (o:OpR X (iS op) r) (f:OpR X (iS op') r') (A:PE X a ta) (w:PE X b tb) (t:PE X c tc)
  (n:lastMarks [op,op'] [b,c]=false:=by with_unfolding_all rfl):PE X (.Compare a [op,op'] [b,c] pos) (Gs r r' ta tb tc):=by
 refine ⟨?_⟩;intro pins s σ H Q I h;refine Compare_chain (thn (A pins s σ H _ I h) λv s1 ⟨x,H1,D,r1,m⟩=>chain_link (thn (w pins s1 σ H1 _ D m) λu s2 ⟨y,H2,C,r2,l⟩=>
  thn (o pins s2 σ H2 x y v u _ C r1 r2 l) λd s3 ⟨z,g,j,r3,k,e,q⟩=>?_)) n
 subst e;cases r3;refine j7 ?_;cases k with
 | false=>exact ite_ff ⟨.bl iI,g,j,rfl,q⟩
 | true=>exact ite_tt (chain_last (thn (t pins s3 σ g _ j q) λT s4 ⟨p,E,B,r4,i⟩=>f pins s4 σ E y p u T Q B r2 r4 i))
theorem qco (t:OpR X (iS op) r) (f:OpR X (iS op') r') (C:PE X a ta) (B:PE X b tb) (A:PE X c tc)
  (w:lastMarks [op,op'] [b,c]=false:=by with_unfolding_all rfl):PT X (.Compare a [op,op'] [b,c] pos) (qhp (Gs r r' ta tb tc)):=by
 refine ⟨?_⟩;intro pins s σ H Q I h;refine isTrue_chain (thn (C pins s σ H _ I h) λv s1 ⟨x,H1,L,r1,n⟩=>test_link (thn (B pins s1 σ H1 _ L n) λu s2 ⟨y,H2,K,r2,m⟩=>
  thn (t pins s2 σ H2 x y v u _ K r1 r2 m) λd s3 ⟨z,g,j,r3,k,e,q⟩=>?_)) w
 subst e;cases r3;refine j7 ?_;cases k with
 | false=>obtain ⟨k',E,o⟩:=q;cases E;exact ite_ff ⟨g,j,o⟩
 | true=>refine ite_tt (test_last (thn (A pins s3 σ g _ j q) λT s4 ⟨p,M,J,r4,l⟩=>thn (f pins s4 σ M y p u T _ J r2 r4 l) λd' s5 ⟨z2,U,G,r5,k2,D,i⟩=>?_));subst D;cases r5;exact j7 ⟨U,G,i⟩
def qkp (K:Frag) (x:V) (H:Hp) (k:Bool):Prop:=
 match x with
 | .non=>k=iI
 | .bl b=>k=b
 | .int i=>k=(i != 0)
 | .str y=>y.length<=sizeLine/\k=((y.length:Int) != 0)
 | .byt y=>y.size<=sizeLine/\k=((y.size:Int) != 0)
 | .ref p=>(∃ xs,SqL K H p xs/\k=!xs.isEmpty)\/(∃ xs,SqT K H p xs/\k=!xs.isEmpty)\/∃ kvs,H p=iE (.dK kvs)/\k=!kvs.isEmpty
 | _=>False
theorem XZ {κ:Type} {kvs:List (κ×V)} {vs:List (κ×iH)} (r:KV kvs vs):(!vs.isEmpty)=!kvs.isEmpty:=by cases r <;> rfl
theorem QQ {its:List iH} (r:Vals xs its):(!its.toArray.isEmpty)=!xs.isEmpty:=by cases r <;> simp
theorem QR:(sizeLine:Nat) < 2 ^ 63:=by rw [iT]; decide
theorem qhq:ql1 X (λx H Q=>∃ k,qkp X.K x H k/\Q k H):=by
 intro pins s σ H x v Q I d h;obtain ⟨k,e,q⟩:=h;have hl:=QR;have c:sizeLine=16777216:=iT;cases x with
 | non=>cases d;have a:k=false:=e;subst a;exact truthy_none ⟨H,I,q⟩
 | bl b=>cases d;have a:k=b:=e;subst a;exact j7 ⟨H,I,q⟩
 | int i=>obtain ⟨t,rfl⟩:=d;have a:k=(i != 0):=e;subst a;exact PySem.P.truthy_int ⟨H,I,q⟩
 | str y=>obtain ⟨t,rfl⟩:=d;obtain ⟨hy,a⟩:y.length<=sizeLine/\k=((y.length:Int) != 0):=e;subst a;exact PySem.P.truthy_str (by lia) ⟨H,I.tok _,q⟩
 | byt y=>obtain ⟨t,rfl⟩:=d;obtain ⟨hy,a⟩:y.size<=sizeLine/\k=((y.size:Int) != 0):=e;subst a;exact PySem.W.truthy_bytes (by lia) ⟨H,I.tok _,q⟩
 | ref p=>
  cases d;have a:(∃ xs,SqL X.K H p xs/\k=!xs.isEmpty)\/(∃ xs,SqT X.K H p xs/\k=!xs.isEmpty)\/∃ kvs,H p=iE (.dK kvs)/\k=!kvs.isEmpty:=e;rcases a with ⟨xs,hx,a⟩ | ⟨xs,hx,a⟩ | ⟨kvs,hx,a⟩
  ·subst a;obtain ⟨its,r,pl,z⟩:=I.list hx;have n:=r.length;exact wpAny_truthy_list pl.isList (by simp only [ax]; lia) ⟨H,I.tok _,by rw [QQ r]; exact q⟩
  ·subst a;obtain ⟨its,r,pl,z⟩:=I.tuple hx;have n:=r.length;exact truthy_tuple pl (by simp only [ax]; lia) ⟨H,I.tok _,by rw [QQ r]; exact q⟩
  ·subst a;obtain ⟨z,hS,vs,r,m⟩:kvs.length<=sizeLine/\(p == k8)=iI/\∃ vs,KV kvs vs/\s.heap.DictOf (qP X.prog X.w) p vs:=I.hok p _ hx;have n:kvs.length=vs.length:=fP r;exact wpAny_truthy_dict hS m (by lia) ⟨H,I.tok _,by rw [XZ r]; exact q⟩
 | _=>exact (show False from e).elim
theorem qcp (g:PE X a ta) (i:∀ whole,isTrue a X.env whole=(do let v <-whole; standAt a.pos; holding [v] (truthy v))):PT X a (λσ H Q=>ta σ H λx H'=>∃ k,qkp X.K x H' k/\Q k H'):=by refine ⟨?_⟩;intro pins s σ H Q I h;exact isTrue_plain (thn (g pins s σ H _ I h) λv s1 ⟨x,H1,d,r1,q⟩=>qhq pins s1 σ H1 x v Q d r1 q) (i _)
theorem Za:OpR X (k6 .Add) (λx y H Q=>∃ i j,x=.str i/\y=.str j/\i.length+j.length<=sizeLine/\Q (.str (i++j)) H):=by intro pins s σ H x y v u Q I d c h;obtain ⟨i,j,rfl,rfl,z,q⟩:=h;obtain ⟨t,rfl⟩:=d;obtain ⟨t',rfl⟩:=c;exact add_str (λt' tk=>⟨.str (i++j),H,I.tok _,⟨_,rfl⟩,q⟩) z
theorem wf {x:V} (r:Vals [x] us):∃ u,us=[u]/\RelV x u:=by
 cases r with
 | cons r1 r2=>cases r2; exact ⟨_,rfl,r1⟩
theorem qcq {x y:V} (r:Vals [x,y] us):∃ u T,us=[u,T]/\RelV x u/\RelV y T:=by
 cases r with
 | cons r1 r2=>
  cases r2 with
  | cons r3 r4=>cases r4; exact ⟨_,_,rfl,r1,r3⟩
theorem Gu (d:X.calm=iJ):wU X (.builtin "max") (λxs H Q=>∃ i j,xs=[.int i,.int j]/\Q (.int (if j > i then j else i)) H):=by
 intro pins s σ H xs us Q I r h;obtain ⟨i,j,rfl,q⟩:=h;obtain ⟨u,T,rfl,⟨t,rfl⟩,⟨t',rfl⟩⟩:=qcq r;refine max_two_ints (I.ok.hd d) λh' tk k=>⟨_,H,I.kept k,?_,q⟩
 by_cases G:j > i;·rw [Aa G,Aa G]; exact ⟨_,rfl⟩
 ·rw [Ab G,Ab G]; exact ⟨_,rfl⟩
theorem Gv (d:X.calm=iJ):wU X (.builtin "min") (λxs H Q=>∃ i j,xs=[.int i,.int j]/\Q (.int (if j < i then j else i)) H):=by
 intro pins s σ H xs us Q I r h;obtain ⟨i,j,rfl,q⟩:=h;obtain ⟨u,T,rfl,⟨t,rfl⟩,⟨t',rfl⟩⟩:=qcq r;refine min_two_ints (I.ok.hd d) λh' tk k=>⟨_,H,I.kept k,?_,q⟩
 by_cases G:j < i;·rw [Aa G,Aa G]; exact ⟨_,rfl⟩
 ·rw [Ab G,Ab G]; exact ⟨_,rfl⟩
def ql2 (K:Frag) (x:V) (H:Hp) (n:Nat):Prop:=
 match x with
 | .str y=>y.length<=sizeLine/\n=y.length
 | .byt y=>y.size<=sizeLine/\n=y.size
 | .ref p=>(∃ xs,SqL K H p xs/\n=xs.length)\/∃ xs,SqT K H p xs/\n=xs.length
 | _=>False
theorem JF:wU X (.builtin "len") (λxs H Q=>∃ x n,xs=[x]/\ql2 X.K x H n/\Q (.int n) H):=by
 intro pins s σ H xs us Q I r h;obtain ⟨x,n,rfl,e,q⟩:=h;obtain ⟨u,rfl,d⟩:=wf r;have hl:=QR;have c:sizeLine=16777216:=iT;cases x with
 | str y=>obtain ⟨t,rfl⟩:=d;obtain ⟨hy,b⟩:y.length<=sizeLine/\n=y.length:=e;subst b;exact len_str (by lia) ⟨.int _,H,I.tok _,⟨_,rfl⟩,q⟩
 | byt y=>obtain ⟨t,rfl⟩:=d;obtain ⟨hy,b⟩:y.size<=sizeLine/\n=y.size:=e;subst b;exact PySem.W.len_bytes (by lia) ⟨.int _,H,I.tok _,⟨_,rfl⟩,q⟩
 | ref p=>
  cases d;have b:(∃ xs,SqL X.K H p xs/\n=xs.length)\/∃ xs,SqT X.K H p xs/\n=xs.length:=e;rcases b with ⟨xs,hx,b⟩ | ⟨xs,hx,b⟩
  ·subst b;obtain ⟨its,r',pl,z⟩:=I.list hx;have a:=r'.length;exact Calls.call_len_list pl.isList (by simp only [ax]; lia) ⟨.int xs.length,H,I.tok _,⟨_,by simp only [ax]; rw [a]⟩,q⟩
  ·subst b;obtain ⟨its,r',pl,z⟩:=I.tuple hx;have a:=r'.length;exact len_tuple pl (by simp only [ax]; lia) ⟨.int xs.length,H,I.tok _,⟨_,by simp only [ax]; rw [a]⟩,q⟩
 | _=>exact (show False from e).elim
end
theorem RelO.some_of {o:Option iH} (r:RelO (iE v) o):∃ u,o=iE u/\RelV v u:=by
 cases o with
 | none=>exact (show False from r).elim
 | some u=>exact ⟨u,rfl,r⟩
structure Room (k:Nat) (A:iX):Prop where
 hd:A.handled=iG
 dp:A.depth+3 * k+5 < recursionLimit
 un:A.units+16 * k+200 < k7
theorem Room.mono {j k:Nat} (r:Room k A) (h:j<=k):Room j A:=⟨r.hd,by have:=r.dp; lia,by have:=r.un; lia⟩
theorem Room.deeper {k:Nat} (r:Room (k+1) A) (env:Env):Room k (A.deeper env):=
 ⟨r.hd,by have:=r.dp; show A.depth+1+3 * k+5 < _; lia,by have:=r.un; show A.units+3+16 * k+200 < _; lia⟩
theorem Room.depth {k:Nat} (r:Room k A):A.depth < recursionLimit:=by have:=r.dp; lia
theorem Room.units {k:Nat} (r:Room k A):A.units+64 < k7:=by have:=r.un; lia
def qjL:TA:=λ_ H Q=>Q [] H
def qcr (ta:TE) (t:TA):TA:=λσ H Q=>ta σ H λx H1=>t σ H1 λxs H2=>Q (x::xs) H2
variable {t:TA}
section
theorem jB:PA X [] qjL:=⟨λ_ _ _ _ H Q I h=>d9 ⟨[],H,I,.nil,h⟩⟩
theorem qM (g:PE X e te) (f:PA X es t) (c:iN (e::es) X.env=(iI,eval e X.env)::iN es X.env:=by rfl):PA X (e::es) (qcr te t):=by refine ⟨?_⟩;intro pos pins s σ H Q I h;rw [c];show iM _ _ (spliced ((iI,eval e X.env)::j6 pos (iN es X.env))) _ _ s;refine cV (thn (g pins s σ H _ I h) λu s1 ⟨x,H1,a,r1,q⟩=>?_);exact thn (f pos pins s1 σ H1 _ a q) λus s2 ⟨xs,H2,k,r2,d⟩=>⟨x::xs,H2,k,.cons r1 r2,d⟩
def ql3 (t:TA):TE:=λσ H Q=>t σ H λxs H1=>xs.length<=sizeLine/\∀ p,H1 p=iG->Q (.ref p) (upd H1 p (.tup xs))
def ql4 (t:TA):TE:=λσ H Q=>t σ H λxs H1=>xs.length<=sizeLine/\∀ p,H1 p=iG->Q (.ref p) (upd H1 p (.lst xs))
theorem qhr {x1} (h:PA X es t):PE X (.Tuple es x1 pos) (ql3 t):=by refine ⟨?_⟩;intro pins s σ H Q I hq;refine wpAny_Tuple_spliced (thn (h pos pins s σ H _ I hq) λus s1 ⟨xs,H1,d,r,z,q⟩=>⟨by rw [<-r.length]; exact z,?_⟩);have f:H1 s1.heap.objs.size=none:=d.hok.fresh (aA _);refine ⟨.ref s1.heap.objs.size,upd H1 s1.heap.objs.size (.tup xs),d.laid (t':=s1.toks) (λb u e=>aa _ e) (aA _) ?_,rfl,q _ f⟩;exact ⟨⟨z,_,ao _ rfl,rfl⟩,us,r,⟨_,ao _ rfl,rfl,_,rfl⟩⟩
theorem qhs (h:PA X es t):PE X (.List es pos) (ql4 t):=by refine ⟨?_⟩;intro pins s σ H Q I hq;refine wpAny_List_spliced (thn (h pos pins s σ H _ I hq) λus s1 ⟨xs,H1,d,r,z,q⟩=>⟨by rw [<-r.length]; exact z,?_⟩);have f:H1 s1.heap.objs.size=none:=d.hok.fresh (aA _);refine ⟨.ref s1.heap.objs.size,upd H1 s1.heap.objs.size (.lst xs),d.laid (t':=s1.toks) (λb u e=>aa _ e) (aA _) ?_,rfl,q _ f⟩;exact ⟨z,us,0,r,ao _ rfl⟩
end
abbrev Sp:=List V->Hp->VK->XK->Prop
abbrev CXT:=List Env->Hp->iK->XK->iH->iK->Prop
structure Env0 (P:iQ) (w:iR) (K:Frag) (mg:Str->Option iH) (base:Heap) (A:iX) (outer:List Env) (s:iK) (H:Hp):Prop where
 frames:A.frames=iE outer
 mod:Mod K mg base
 bs:∀ b o,base.get? b=iE o->s.heap.get? b=iE o/\H b=iG
 bsz:base.objs.size<=s.heap.objs.size
 funs:s.heap.FunFrames base outer
 frf:∀ b∈frs outer,H b=iG
 hok:HOk P w H s.heap
 bare:l8 s.gens
def CE (outer:List Env) (P:iQ) (w:iR) (H:Hp) (s:iK) (Q:VK) (u:iH) (s':iK):Prop:=
 ∃ v H',s'.os=s.os/\l8 s'.gens/\Un (frs outer) [] H H' s.heap s'.heap/\HOk P w H' s'.heap/\RelV v u/\Q v H'
def CR (CX:CXT) (outer:List Env) (P:iQ) (w:iR) (H:Hp) (s:iK) (Q:VK) (E:XK) (r:mR) (s':iK):Prop:=
 match r with
 | .ok (.ret u)=>CE outer P w H s Q u s'
 | .ok _=>False
 | .error e=>CX outer H s E e s'
structure FnOk (P:iQ) (w:iR) (K:Frag) (mg:Str->Option iH) (base:Heap) (CX:CXT) (k:Nat) (f:Addr) (fd:lz) (ps:List Str) (sp:Sp):Prop where
 len:∀ vs H Q E,sp vs H Q E->vs.length=ps.length
 run:∀ (A:iX) (outer:List Env) (s:iK) (H:Hp) (args:Args) (us:List iH) (vs:List V) (Q:VK) (E:XK),Room k A->Env0 P w K mg base A outer s H->mV s fd args (ps.zip us)->Vals vs us->sp vs H Q E ->lI (model P w) A (.call (.ref f) args) (CR CX outer P w H s Q E) s
variable {CX:CXT} {f:Addr} {fd:lz} {ps:List Str} {sp:Sp}
theorem FnOk.imp {mg:Str->Option iH} {base:Heap} {k:Nat} {a:Sp} (F:FnOk P w K mg base CX k f fd ps sp)
  (h:∀ vs H Q E,a vs H Q E->sp vs H Q E):FnOk P w K mg base CX k f fd ps a:=
 ⟨λvs H Q E q=>F.len vs H Q E (h _ _ _ _ q),λA outer s H args us vs Q E r i d c b=>F.run A outer s H args us vs Q E r i d c (h _ _ _ _ b)⟩
section
theorem Inv.env0 (I:Inv X pins σ H s):Env0 X.prog X.w X.K X.mg X.base X.A X.stack s H:=
 ⟨I.ok.frames,I.ok.mod,I.bs,bI I.ok.bsz I.sz,I.stack,I.stkFree,I.hok,I.bare⟩
theorem Inv.after {Q:VK} (I:Inv X pins σ H s) (h:CE X.stack X.prog X.w H s Q u s'):EP X pins σ Q u s':=by obtain ⟨v,H',os,bare,un,hok,r,q⟩:=h;obtain ⟨a,g,d,t,o⟩:=s';obtain rfl:o=s.os:=os;exact ⟨v,H',I.call (h':=a) (g':=g) (d':=d) (t':=t) (ch:=[]) un hok bare (λb z=>absurd z (by simp)),r,q⟩
end
def qht (sp:Sp) (dvs:List V) (E:XK) (t:TA):TE:=λσ H Q=>t σ H λvs H1=>sp (vs++dvs) H1 Q E
def Binds (K:Frag) (fd:lz) (ps:List Str) (ds:List iH):Prop:=
 ∀ (s:iK) (us:List iH),K.In s.heap->(us++ds).length=ps.length->mV s fd ⟨us,[]⟩ (ps.zip (us++ds))
theorem Binds.all (h:∀ us:List iH,us.length=ps.length->lJ fd ⟨us,[]⟩=pure (ps.zip us)):Binds K fd ps []:=λs us _ hl=>by rw [aY] at hl ⊢;exact .of_eq (h us hl)
def yI (CX:CXT) (X:Cx) (E:XK):Prop:=∀ (pins:Pns) (σ:St) (H:Hp) (s:iK) (e:iH) (s':iK),Inv X pins σ H s->CX X.stack H s E e s'->X.xe e s'
variable {apos:Pos}
section
variable {k:Nat} {C:Addr} {dvs:List V} {ds:List iH} {E:XK} {m:Str} {o:Expr}
theorem qd6 {pins:Pns} {σ:St} {H:Hp} {s:iK} {Q:VK} {us:List iH} {vs:List V} (F:FnOk X.prog X.w X.K X.mg X.base CX k f fd ps sp) (a:Room k X.A) (d:Binds X.K fd ps ds) (hd:Vals dvs ds) (hx:yI CX X E)
  (I:Inv X pins σ H s) (r:Vals vs us) (h:sp (vs++dvs) H Q E):iM (model X.prog X.w) X.A (call (.ref f) us) (EP X pins σ Q) X.xe s:=by
 have r2:Vals (vs++dvs) (us++ds):=r.append hd;have hl:(us++ds).length=ps.length:=by rw [<-r2.length]; exact F.len _ _ _ _ h
 refine wpAny_call (l9 (F.run X.A X.stack s H ⟨us,[]⟩ (us++ds) (vs++dvs) Q E a I.env0 (d s us I.kIn hl) r2 h) λr s' hq=>?_);cases r with
 | error e=>exact hx pins σ H s e s' I hq
 | ok l=>
  cases l with
  | ret u=>exact I.after hq
  | next=>exact dn hq
  | brk=>exact dn hq
  | cont=>exact dn hq
theorem qe3 (F:FnOk X.prog X.w X.K X.mg X.base CX k f fd ps sp) (a:Room k X.A) (hg:Gl X x) (c:X.mg x=iE (.ref f)) (g:mS X.K (.ref f)=iJ) (j:Binds X.K fd ps ds) (hd:Vals dvs ds) (hx:yI CX X E)
  (m:PA X (e::es) t) (b:Dbg x:=by decide) (i:iN (e::es) X.env=(iI,eval e X.env)::iN es X.env:=by rfl) (l:(j6 pos (iN es X.env)).any (·.1)=false:=by rfl) :
  PE X (.Call (.Name x p) (e::es) [] pos) (qht sp dvs E t):=by
 refine ⟨?_⟩;intro pins s σ H Q I h;refine j3 (JE I hg c ?_ b);refine PySem.W.callWith_K (h₀:=X.base) I.ok.mod.kin g (thn (m pos pins s σ H _ I h) λus s1 ⟨vs,H1,d,r,q⟩=>⟨d.kIn,?_⟩) i l;exact qd6 F a j hd hx d r q
theorem qcs (F:FnOk X.prog X.w X.K X.mg X.base CX k f fd ps sp) (r:Room k X.A) (hg:Gl X x) (c:X.mg x=iE (.ref f)) (a:mS X.K (.ref f)=iJ) (d:Binds X.K fd ps ds) (hd:Vals dvs ds) (hx:yI CX X E)
  (b:Dbg x:=by decide):PE X (.Call (.Name x p) [] [] pos) (qht sp dvs E qjL):=by
 refine ⟨?_⟩;intro pins s σ H Q I h;refine j3 (JE I hg c ?_ b);exact PySem.W.callWith_K0 I.kIn a (qd6 (us:=[]) F r d hd hx I .nil h)
end
section
variable {k:Nat} {C:Addr} {ks:List Str} {E:XK} {m:Str} {kpos:Pos} {o:Expr} {kws:List i9} {tk:TA} {nm:Option Str}
variable {g:List iH->List iH->List iH} {gV:List V->List V->List V}
end
structure FnScope (N P:List Str) (sc:lU):Prop where
 kind:sc.kind=.function
 co:sc.isCoroutine=iI
 gen:sc.isGenerator=iI
 nd:N.Nodup
 pre:N.take P.length=P
 par:∀ x∈P,sc.names.lookup x=iE .local\/sc.names.lookup x=iE .cell
 nofree:∀ y∈sc.names,y.2≠.free
variable {kindOf:Str->Option lu}
theorem Ve:∀ {binds:List (Str×iH)} {m:Str->Option iH},(∀ v,(x,v)∉binds)->bindL kindOf binds m x=m x
 | [],_,_=>rfl
 | (n,v)::r,m,h=>by
  unfold bindL;rw [Ve λw a=>h w (ac _ a)];split
  ·have:x≠n:=by rintro rfl; exact h v ap
   simp [this]
  ·rfl
theorem Vf:∀ {binds:List (Str×iH)} {m:Str->Option iH},(∀ v,(x,v)∉binds)->bindC kindOf binds m x=m x
 | [],_,_=>rfl
 | (n,v)::r,m,h=>by
  unfold bindC;rw [Vf λw a=>h w (ac _ a)];split;·rfl
  ·have:x≠n:=by rintro rfl; exact h v ap
   simp [this]
theorem Vg {kindOf:Str->Option lu} {x:Str} {v:iH}:∀ {P:List Str} {vs:List iH} {i:Nat} {m:Str->Option iH},P.Nodup->P[i]?=iE x->vs[i]?=iE v->kindOf x=iE .local ->bindL kindOf (P.zip vs) m x=iE v
 | [],_,_,_,_,h,_,_=>by simp at h
 | _::_,[],_,_,_,_,h,_=>by simp at h
 | p::P,w::vs,0,m,nd,h1,h2,hk=>by simp at h1 h2; subst h1; subst h2;show bindL kindOf ((p,w)::P.zip vs) m p=_;unfold bindL;rw [Ve λv c=>(aH.mp nd).1 (g6 c).1,Aa hk];simp
 | p::P,w::vs,i+1,m,nd,h1,h2,hk=>by show bindL kindOf ((p,w)::P.zip vs) m x=_;unfold bindL;exact Vg (i:=i) (aH.mp nd).2 (by simpa using h1) (by simpa using h2) hk
theorem Vh {kindOf:Str->Option lu} {x:Str} {v:iH}:∀ {P:List Str} {vs:List iH} {i:Nat} {m:Str->Option iH},P.Nodup->P[i]?=iE x->vs[i]?=iE v->kindOf x≠iE .local ->bindC kindOf (P.zip vs) m x=iE v
 | [],_,_,_,_,h,_,_=>by simp at h
 | _::_,[],_,_,_,_,h,_=>by simp at h
 | p::P,w::vs,0,m,nd,h1,h2,hk=>by simp at h1 h2; subst h1; subst h2;show bindC kindOf ((p,w)::P.zip vs) m p=_;unfold bindC;rw [Vf λv c=>(aH.mp nd).1 (g6 c).1,Ab hk];simp
 | p::P,w::vs,i+1,m,nd,h1,h2,hk=>by show bindC kindOf ((p,w)::P.zip vs) m x=_;unfold bindC;exact Vh (i:=i) (aH.mp nd).2 (by simpa using h1) (by simpa using h2) hk
noncomputable def yJ (N:List Str) (vs:List V):St:=vs.map iE++fG (N.length - vs.length) iG
def qe4 (CX:CXT) (P:iQ) (w:iR) (K:Frag) (mg:Str->Option iH) (base:Heap) (N:List Str) (qual:Str) (scope:lU) (f:Addr) (cd:iH) (A:iX) (outer:List Env) (s:iK) (H:Hp) (E:XK):Cx where
 prog:=P
 w:=w
 K:=K
 mg:=mg
 base:=base
 A:=A.deeper (mm qual scope s.heap.objs.size f cd)
 N:=N
 s₀:=s
 H₀:=H
 env:=mm qual scope s.heap.objs.size f cd
 outer:=outer
 stack:=mm qual scope s.heap.objs.size f cd::outer
 ex:=[]
 calm:=iJ
 fn:=λ_=>iJ
 pn:=[]
 xe:=λe s'=>iM (model P w) (A.deeper (mm qual scope s.heap.objs.size f cd)) (leaving (mm qual scope s.heap.objs.size f cd) e) (λ_ a=>CX outer H s E e a) (λb a=>CX outer H s E b a) s'
theorem Yp {sc:lU} {n:Nat} (h:sc.names.lookup x=iE .cell):∃ c,(cellsFrom n sc.names []).lookup x=iE c:=by have q:=PySem.W.cellsFrom_some sc.names n [] (.inl h);exact Option.isSome_iff_exists.mp q
theorem Gw {CX:CXT} {P:iQ} {w:iR} {K:Frag} {mg:Str->Option iH} {base:Heap} {N ps:List Str} {qual:Str} {scope:lU} {f:Addr} {cd:iH} {A:iX} {outer:List Env} {s s1:iK} {H:Hp} {E:XK} {us:List iH} {vs:List V}
  (S:FnScope N ps scope) (hd:A.handled=iG) (e0:Env0 P w K mg base A outer s H) (hl:vs.length=ps.length) (r:Vals vs us)
  (x:InCallC s s.heap.objs.size (bindL (mm qual scope s.heap.objs.size f cd).kindOf (ps.zip us) λ_=>iG) (cellsFrom (s.heap.objs.size+1) scope.names []) (bindC (mm qual scope s.heap.objs.size f cd).kindOf (ps.zip us) λ_=>iG) s1) :
  Inv (qe4 CX P w K mg base N qual scope f cd A outer s H E) [] (yJ N vs) H s1:=by
 have o:ps.length<=N.length:=by have:=congrArg iw S.pre; rw [bY] at this; lia
 obtain ⟨h1,tk,rfl,l⟩:=x.done;have d:∀ b:Addr,b∉(qe4 CX P w K mg base N qual scope f cd A outer s H E).ex:=λb z=>absurd (show b∈([]:List Addr) from z) (by simp);refine ⟨⟨e0.mod,S.kind,rfl,rfl,aA _,λy z c h1 h2=>?_,λy D=>?_,λy c _ h=>?_,λ_=>hd,Around.frames_deeper e0.frames,.inr ⟨rfl,rfl⟩,λb z=>absurd z (d b),e0.bs,e0.bsz,λb _ _=>d b,λb z=>absurd z (d b),e0.funs,e0.frf⟩,rfl,e0.bare,Un.kept l,⟨_,x.toInCall.ns,λi y v h1 h2 B=>?_⟩,λy c h=>⟨_,x.cell y c h⟩,e0.hok.fresh (aA _),λy c h=>?_,λp hp=>absurd (show p∈([]:Pns) from hp) (by simp),e0.hok.kept l,?_⟩;·exact name_of_addr x.apart (cJ h1) (cJ h2)
 ·have D:scope.names.lookup y=iE .cell\/scope.names.lookup y=iE .free:=D;rcases D with D | D;·exact Yp D
  ·exact absurd rfl (S.nofree _ (cJ D))
 ·exact cU (x.above y c (cJ h))
 ·have hi:i < vs.length:=by
   unfold yJ at h2;by_cases hi:i < vs.length;·exact hi
   ·rw [cr (by simpa using hi)] at h2;rw [dU] at h2;split at h2 <;> cases h2
  have t:vs[i]?=iE v:=by
   unfold yJ at h2;rw [dF (by simpa using hi),aF] at h2;cases e:vs[i]? with
   | none=>rw [e] at h2; cases h2
   | some a=>rw [e] at h2; cases h2; rfl
  obtain ⟨u,j,m⟩:=r.get t;have hp:ps[i]?=iE y:=by rw [<-S.pre,List.getElem?_take_of_lt (by lia)]; exact h1
  have g:ps.Nodup:=by rw [<-S.pre]; exact S.nd.sublist (List.take_sublist _ _)
  refine ⟨u,m,?_⟩;rcases S.par y (bG hp) with k | k;·exact .inl ⟨k,Vg g hp j k⟩
  ·obtain ⟨c,e⟩:=Yp (n:=s.heap.objs.size+1) k;refine .inr ⟨.inl k,c,e,?_⟩;have q:=x.cell y c e;rw [Vh g hp j (by show scope.names.lookup y≠_; rw [k]; decide)] at q;exact q
 ·exact e0.hok.fresh (cU (x.above y c (cJ h)))
 ·unfold yJ;show _=N.length;rw [ai,af,eu]
  lia
theorem qkq {CX:CXT} {P:iQ} {w:iR} {K:Frag} {mg:Str->Option iH} {base:Heap} {k:Nat} {f:Addr} {name qual:Str} {params:Arguments} {body:List Stmt} {scope:lU} {j kV doc pm cdv ct oc:iH} {an od:Option Addr}
  {osl:Array (Option iH)} {N ps:List Str} {sp:Sp} (m:K.lookup f=iE ⟨oc,od,.func (cm name qual params body scope j kV doc pm an cdv ct),osl⟩) (i:codeIn K cdv qual=iJ) (S:FnScope N ps scope)
  (len:∀ vs H Q E,sp vs H Q E->vs.length=ps.length)
  (a:∀ (A:iX) (outer:List Env) (s:iK) (H:Hp) (vs:List V) (Q:VK) (E:XK),Room k (A.deeper (mm qual scope s.heap.objs.size f cdv))->sp vs H Q E ->∃ t,PSs (qe4 CX P w K mg base N qual scope f cdv A outer s H E) body t/\t { nx:=λ_ H'=>Q .non H',rt:=Q } (yJ N vs) H) :
  FnOk P w K mg base CX (k+1) f (cm name qual params body scope j kV doc pm an cdv ct) ps sp:=by
 refine ⟨len,λA outer s H args us vs Q E g e0 B r p=>?_⟩;have hl:=len _ _ _ _ p;have X:K.In s.heap:=e0.mod.kin.keeps λb o e=>(e0.bs b o e).1;have l:s.heap.NoLimit:=e0.mod.nolimit.keeps λb o e=>(e0.bs b o e).1;have h:∀ y∈ps.zip us,scope.names.lookup y.1=iE .local\/(scope.names.lookup y.1=iE .cell/\((cellsFrom (s.heap.objs.size+1) scope.names []).lookup y.1).isSome=iJ):=λ⟨n,v⟩ D=>by
  rcases S.par n (g6 D).1 with q | q;·exact .inl q
  ·exact .inr ⟨q,PySem.W.cellsFrom_some _ _ _ (.inl q)⟩
 refine codeAny_call_function g.depth (X _ _ m) rfl S.co S.gen rfl (PySem.W.codeRec_of X i) (B _ _ _ _ ?_);refine wpAny_newFunctionEnv_cells S.kind h λenv z s1 x=>?_;subst z;refine ⟨l.keeps x.toInCall.keep,codeAny_func ?_⟩;obtain ⟨t,ht,hq⟩:=a A outer s H vs Q E (g.deeper _) p;have I:Inv (qe4 CX P w K mg base N qual scope f cdv A outer s H E) [] (yJ N vs) H s1:=Gw S g.hd e0 hl r x;refine lV (ht [] s1 (yJ N vs) H _ I hq) (λC s' c=>?_) λe s' c=>c;have fin:∀ {σ':St} {H':Hp} {v:V} {u:iH},Inv (qe4 CX P w K mg base N qual scope f cdv A outer s H E) [] σ' H' s'->RelV v u->Q v H'->CE outer P w H s Q u s':=
  λ{σ' H' v u} J d q=>⟨v,H',J.os,J.bare,J.base,J.hok,d,q⟩
 cases C with
 | ret u=>obtain ⟨v,σ',H',J,d,q⟩:=c;exact fin J d q
 | next=>obtain ⟨σ',H',J,q⟩:=c;exact fin (v:=V.non) (u:=bX) J rfl q
 | brk=>obtain ⟨_,_,_,q⟩:=c;exact dn q
 | cont=>obtain ⟨_,_,_,q⟩:=c;exact dn q
section
variable {id T:String} {r:List V->Hp->VK->Prop}
def tCB (r:List V->Hp->VK->Prop) (t:TA):TE:=λσ H Q=>t σ H λvs H1=>r vs H1 Q
theorem yK (d:wU X (.builtin id) r) (hg:Gl X x) (m:X.mg x=iG) (c:iO x=iE (.builtin id)) (g:PA X (e::es) t) (n:x ≠ "__name__":=by decide) (b:Dbg x:=by decide)
  (i:iN (e::es) X.env=(iI,eval e X.env)::iN es X.env:=by rfl) (l:(j6 pos (iN es X.env)).any (·.1)=false:=by rfl):PE X (.Call (.Name x p) (e::es) [] pos) (tCB r t):=by
 refine ⟨?_⟩;intro pins s σ H Q I h;refine j3 (yH I hg m c ?_ n b);exact PyProof.Rows.callWith_builtin1 (thn (g pos pins s σ H _ I h) λus s1 ⟨vs,H1,a,r1,q⟩=>d pins s1 σ H1 vs us Q a r1 q) i l
theorem kZ (d:wU X (.type T) r) (hg:Gl X x) (m:X.mg x=iG) (c:iO x=iE (.type T)) (g:PA X (e::es) t) (n:x ≠ "__name__":=by decide) (b:Dbg x:=by decide)
  (i:iN (e::es) X.env=(iI,eval e X.env)::iN es X.env:=by rfl) (l:(j6 pos (iN es X.env)).any (·.1)=false:=by rfl):PE X (.Call (.Name x p) (e::es) [] pos) (tCB r t):=by
 refine ⟨?_⟩;intro pins s σ H Q I h;refine j3 (yH I hg m c ?_ n b);exact bi (thn (g pos pins s σ H _ I h) λus s1 ⟨vs,H1,a,r1,q⟩=>d pins s1 σ H1 vs us Q a r1 q) i l
end
end L2
namespace HT
open PySem PyProof.Rows
section
open PySem.SeqAt
open PySem.AutoSeq1 (wpAny_loadPart')
open PySem.MeetsSeq PySem.MeetsSeq2 PySem.MeetsSeq3
end
section
variable {prog:iQ} {w:iR} {A:iX} {E:iH->iK->Prop} {s:iK}
theorem cat_tup {t b:Addr} {vs ws:List iH} {Q:iH->iK->Prop} (ht:IsTup s.heap t vs.toArray) (k:IsTup s.heap b ws.toArray) (v:vs≠[])
  (h1:ws=[]->Q (.ref t) s) (h2:ws≠[]->Q (.ref s.heap.objs.size) { s with heap:=s.heap.push { cls:=.type "tuple",data:=.seq (vs++ws).toArray } })
  (hsz:vs.length+ws.length<=sizeLine):iM (model prog w) A (k6 .Add (.ref t) (.ref b)) Q E s:=by
 obtain ⟨⟨cls,dd,data,sl⟩,l,i,n,hd⟩:=id ht;obtain ⟨⟨j,d,g,a⟩,h,c,n2,hd2⟩:=id k;simp only at i hd c hd2;subst i hd c hd2;have e:vs.toArray++ws.toArray=(vs++ws).toArray:=by simp
 by_cases f:ws=[]
 ·exact mF ⟨_,l,rfl⟩ ⟨_,h,rfl⟩ noFill_tuple_add seq_tuple_add eh dX (dL _ _)
   (tuple_addW1 t b vs.toArray ws.toArray n n2 dd d sl a (by simpa using v) (by simp [f])) ⟨l,h,h1 f⟩
 ·refine mF ⟨_,l,rfl⟩ ⟨_,h,rfl⟩ noFill_tuple_add seq_tuple_add eh dX (dL _ _)
   (tuple_addW2 t b vs.toArray ws.toArray n n2 dd d sl a (by simpa using v) (by simpa using f) (by rw [ax,ax]; exact hsz)) ⟨l,h,?_⟩
  rw [e];exact h2 f
noncomputable def sIx (n d:Nat):Option Int->Nat
 | none=>d
 | some v=>if v < 0 then (v+(n:Int)).toNat else min v.toNat n
theorem sIx_none (n d:Nat):sIx n d iG=d:=rfl
theorem sIx_nat (n d k:Nat):sIx n d (iE (k:Int))=min k n:=by show (if (k:Int) < 0 then ((k:Int)+(n:Int)).toNat else min (k:Int).toNat n)=min k n;rw [Ab (by lia),cB]
end
end HT
namespace L2
open PySem PySem.Spec PyProof.Rows
abbrev TO:=St->Hp->(Option Int->Hp->Prop)->Prop
def PO (X:Cx) (e:Option Expr) (t:TO):Prop:=
 ∀ (pins:Pns) (s:iK) (σ:St) (H:Hp) (Q:Option Int->Hp->Prop),Inv X pins σ H s->t σ H Q ->iM (model X.prog X.w) X.A (evalPart e X.env) (λu s'=>∃ o H',Inv X pins σ H' s'/\IsPart u o/\Q o H') X.xe s
def qe5:TO:=λ_ H Q=>Q iG H
def qkr (t:TE):TO:=λσ H Q=>t σ H λx H1=>∃ i,x=.int i/\Q (iE i) H1
variable {X:Cx} {e:Expr} {pos:Pos} {xs:List V} {us:List iH}
section
variable {te:TE} {lo hi:Option Expr} {tl th:TO} {p2:Pos}
theorem qe6:PO X iG qe5:=by intro pins s σ H Q I h;rw [evalPart_none];exact iL ⟨iG,H,I,.none,h⟩
theorem qe7 (h:PE X e te):PO X (iE e) (qkr te):=by intro pins s σ H Q I w;rw [evalPart_some];refine thn (h pins s σ H _ I w) λu s1 ⟨x,H1,d,r1,a⟩=>?_;obtain ⟨i,rfl,q⟩:=a;obtain ⟨t,rfl⟩:=r1;exact ⟨iE i,H1,d,.int i t,q⟩
def SlR (X:Cx) (r:V->Option Int->Option Int->Hp->VK->Prop):Prop:=
 ∀ (pins:Pns) (s:iK) (σ:St) (H:Hp) (x:V) (v vl u:iH) (lo hi:Option Int) (sl:Addr) (Q:VK),Inv X pins σ H s->RelV x v->s.heap.IsSliceOf sl vl u .none->IsPart vl lo->IsPart u hi->r x lo hi H Q ->∃ T id,lL (.type T) "__getitem__"=pure (iE (.builtin id))/\s.TypeIs v T/\iM (model X.prog X.w) X.A (getItem v (.ref sl)) (EP X pins σ Q) X.xe s
def tSl (r:V->Option Int->Option Int->Hp->VK->Prop) (te:TE) (tl th:TO):TE:=λσ H Q=>te σ H λx H1=>tl σ H1 λl H2=>th σ H2 λu b=>r x l u b Q
theorem qct {r:V->Option Int->Option Int->Hp->VK->Prop} (j:SlR X r) (k:PE X e te) (hl:PO X lo tl) (i:PO X hi th):PE X (.Subscript e (.Slice lo hi iG p2) pos) (tSl r te tl th):=by refine ⟨?_⟩;intro pins s σ H Q I h;refine Subscript_ (thn (k pins s σ H _ I h) λv s1 ⟨x,H1,t,r1,g⟩=>?_);refine wpAny_Slice (thn (hl pins s1 σ H1 _ t g) λvl s2 ⟨l,H2,o,pl,f⟩=>thn (i pins s2 σ H2 _ o f) λa s3 ⟨u,c,n,p,d⟩=>?_);rw [evalPart_none];refine iL ?_;have B:Inv X pins σ c { s3 with heap:=s3.heap.push { cls:=.type "slice",data:=.fields #[vl,a,.none] } }:=n.kept (t':=s3.toks) λb y q=>aa _ q;obtain ⟨T,id,m,ht,hg⟩:=j pins { s3 with heap:=s3.heap.push { cls:=.type "slice",data:=.fields #[vl,a,.none] } } σ c x v vl a l u s3.heap.objs.size Q B r1 (Heap.IsSliceOf.new ..) pl p d;show iM (model X.prog X.w) X.A (subscriptTail e (.Slice lo hi iG p2) v (.ref s3.heap.objs.size)) (EP X pins σ Q) X.xe { s3 with heap:=s3.heap.push { cls:=.type "slice",data:=.fields #[vl,a,.none] } };exact tail_any (ops:=[.ref s3.heap.objs.size,v]) ht m hg (by with_unfolding_all rfl)
noncomputable def qe8 (xs:List V) (lo hi:Option Int):List V:=(xs.drop (HT.sIx xs.length 0 lo)).take (HT.sIx xs.length xs.length hi - HT.sIx xs.length 0 lo)
theorem WN (xs:List V) (lo hi:Option Int):(qe8 xs lo hi).length<=xs.length:=by
 unfold qe8;rw [bY,List.length_drop]
 lia
def qks (K:Frag):R2:=λx y H Q=>∃ a b xs ys,x=.ref a/\y=.ref b/\SqT K H a xs/\SqT K H b ys/\xs≠[]/\xs.length+ys.length<=sizeLine /\
 (ys=[]->Q (.ref a) H)/\(ys≠[]->∀ p,H p=iG->Q (.ref p) (upd H p (.tup (xs++ys))))
theorem Vals.nil_iff (r:Vals xs us):us=[]↔xs=[]:=by
 cases r with
 | nil=>simp
 | cons _ _=>simp
theorem qe9:OpR X (k6 .Add) (qks X.K):=by intro pins s σ H x y v u Q I d r h;obtain ⟨a,b,xs,ys,rfl,rfl,j,g,hx,c,f,e⟩:=h;cases d;cases r;obtain ⟨its,r1,p1,_⟩:=I.tuple j;obtain ⟨i,r2,p2,_⟩:=I.tuple g;refine HT.cat_tup p1 p2 (λz=>hx (r1.nil_iff.mp z)) (λz=>⟨.ref a,H,I,rfl,f (r2.nil_iff.mp z)⟩) (λz=>?_) (by rw [<-r1.length,<-r2.length]; exact c);refine ⟨.ref s.heap.objs.size,_,I.laid (t':=s.toks) (o:=.tup (xs++ys)) (λb k q=>aa _ q) (aA _) ?_,rfl,e (λw=>z (r2.nil_iff.mpr w)) _ (I.hok.fresh (aA _))⟩;exact ⟨⟨by rw [ai]; exact c,_,ao _ rfl,rfl⟩,_,r1.append r2,IsTup.new _ _⟩
end
noncomputable def ixN (n:Nat) (i:Int):Option Nat:=if 0<=i then (if i < n then iE i.toNat else iG) else if -(n:Int)<=i then iE (i+n).toNat else iG
variable {α:Type}
noncomputable def atI (xs:List α) (i:Int):Option α:=(ixN xs.length i).bind λj=>xs[j]?
variable {n:Nat} {i:Int}
theorem Gx {j:Nat} (h:ixN n i=iE j):my i n=iE j/\j < n/\-(n:Int)<=i/\i < n:=by
 unfold ixN at h;by_cases a:0<=i
 ·rw [Aa a] at h;by_cases h1:i < n;·rw [Aa h1] at h;have e:i.toNat=j:=aK.inj h;exact ⟨by rw [seqIndex_of a h1,e],by lia,by lia,h1⟩
  ·rw [Ab h1] at h; cases h
 ·rw [Ab a] at h;by_cases h1:-(n:Int)<=i;·rw [Aa h1] at h;have e:(i+n).toNat=j:=aK.inj h;exact ⟨by rw [seqIndex_neg (by lia) h1,e],by lia,h1,by lia⟩
  ·rw [Ab h1] at h; cases h
theorem WO {xs:List α} {v:α} (h:atI xs i=iE v):∃ j,my i xs.length=iE j/\xs[j]?=iE v/\j < xs.length/\-(xs.length:Int)<=i/\i < xs.length:=by
 unfold atI at h;cases e:ixN xs.length i with
 | none=>rw [e] at h; cases h
 | some j=>rw [e] at h;obtain ⟨h1,h2,b,a⟩:=Gx e;exact ⟨j,h1,h,h2,b,a⟩
def JG (b:Expr):Prop:=∀ o i,subscripted b iI o i=operate [o,i] (getItem o i)
def IxR (X:Cx) (r:R2):Prop:=
 ∀ (value e:Expr) (pins:Pns) (s:iK) (σ:St) (H:Hp) (x y:V) (v u:iH) (Q:VK),Inv X pins σ H s->RelV x v->RelV y u->r x y H Q ->subscripted e iI v u=operate [v,u] (getItem v u)->iM (model X.prog X.w) X.A (subscriptTail value e v u) (EP X pins σ Q) X.xe s
def MtR (X:Cx) (id:String) (r:V->List V->Hp->VK->Prop):Prop:=
 ∀ (pins:Pns) (s:iK) (σ:St) (H:Hp) (x:V) (xs:List V) (v:iH) (us:List iH) (Q:VK),Inv X pins σ H s->RelV x v->Vals xs us->r x xs H Q ->iM (model X.prog X.w) X.A (call (.builtin id) (v::us)) (EP X pins σ Q) X.xe s
variable {pins:Pns} {σ:St} {H:Hp} {s:iK} {p:Addr} {T:String} {x:V}
section
variable {a b:Expr} {ta tb:TE}
theorem IxR.or {r r':R2} (h:IxR X r) (h':IxR X r'):IxR X (λx y H Q=>r x y H Q\/r' x y H Q):=by
 intro value e pins s σ H x y v u Q I d c q a;rcases q with q | q;·exact h value e pins s σ H x y v u Q I d c q a
 ·exact h' value e pins s σ H x y v u Q I d c q a
theorem qhu {r:R2} (f:IxR X r) (i:PE X a ta) (g:PE X b tb) (e:JG b):PE X (.Subscript a b pos) (tOp r ta tb):=by refine ⟨?_⟩;intro pins s σ H Q I h;exact Subscript_ (qki i g I h λv u s2 x y H2 k d c q=>f a b pins s2 σ H2 x y v u Q k d c q (e _ _))
def qlo (K:Frag):R2:=λx y H Q=>∃ p xs i v,x=.ref p/\y=.int i/\SqL K H p xs/\atI xs i=iE v/\Q v H
def qlp (K:Frag):R2:=λx y H Q=>∃ p xs i v,x=.ref p/\y=.int i/\SqT K H p xs/\atI xs i=iE v/\Q v H
def qlq:R2:=λx y H Q=>∃ z i c,x=.str z/\y=.int i/\z.length<=sizeLine/\atI z.cps.toList i=iE c/\Q (.str ⟨#[c]⟩) H
theorem qfa:IxR X (qlo X.K):=by
 intro value e pins s σ H x y v u Q I g f h c;obtain ⟨p,xs,i,z,rfl,rfl,hq,k,q⟩:=h;cases g;obtain ⟨t,rfl⟩:=f;obtain ⟨its,r,pl,n⟩:=I.list hq;obtain ⟨j,h1,h2,A,m,l⟩:=WO k;obtain ⟨w,d,a⟩:=r.get h2;have hl:=r.length;have o:=QR;have fin:EP X pins σ Q w s:=⟨z,H,I,a,q⟩
 by_cases b:0<=i
 ·have G:i.toNat=j:=by rw [seqIndex_of b l] at h1;exact aK.inj h1
  exact item_listR pl.isList b (by lia) (by rw [G]; simpa using d) fin c
 ·have G:(i+(its.toArray.size:Int)).toNat=j:=by rw [seqIndex_neg (by lia) m] at h1;rw [ax,<-hl];exact aK.inj h1
  exact subscriptTail_builtinR (x:=w) pl.isList.typeIs slot_list_getitem.lookup
   (wpAny_getItem_list_neg (Q:=λr s'=>r=w/\EP X pins σ Q r s') pl.isList (by lia) (by rw [ax] <;> lia) (by lia) (by rw [G]; simpa using d) ⟨rfl,fin⟩) c
theorem qhv:IxR X (qlp X.K):=by
 intro value e pins s σ H x y v u Q I d c h b;obtain ⟨p,xs,i,z,rfl,rfl,hq,f,q⟩:=h;cases d;obtain ⟨t,rfl⟩:=c;obtain ⟨its,r,pl,k⟩:=I.tuple hq;obtain ⟨j,h1,h2,o,m,l⟩:=WO f;obtain ⟨w,g,a⟩:=r.get h2;have hl:=r.length;have n:=QR;have fin:EP X pins σ Q w s:=⟨z,H,I,a,q⟩
 exact subscriptTail_builtinR (x:=w) pl.typeIs slot_tuple_getitem.lookup
  (getItem_tuple (j:=j) (Q:=λr s'=>r=w/\EP X pins σ Q r s') pl (by lia) (by lia) (by rw [ax,<-hl]; exact h1) (by simpa using g) ⟨rfl,fin⟩) b
theorem qhw:IxR X qlq:=by
 intro value e pins s σ H x y v u Q I d r h a;obtain ⟨z,i,c,rfl,rfl,k,b,q⟩:=h;obtain ⟨t,rfl⟩:=d;obtain ⟨t',rfl⟩:=r;obtain ⟨j,h1,h2,m,f,l⟩:=WO b;have hl:z.cps.toList.length=z.length:=by simp [fY]
 rw [hl] at h1 f l;have n:=QR;exact tail_any (typeIs_str s z t) slot_str_getitem.lookup (getItem_str (c:=c) (by have e1:decide (i < -(2 ^ 63:Int))=false:=Ac (by lia);have g:decide (i ≥ 2 ^ 63)=false:=Ac (by lia);rw [e1,g,Bool.or_false]) (by rw [h1]; simpa using h2) ⟨.str ⟨#[c]⟩,H,I.tok _,⟨_,rfl⟩,q⟩) a
def rIx (K:Frag):R2:=λx y H Q=>qlo K x y H Q\/qlp K x y H Q\/qlq x y H Q
theorem qhx:IxR X (rIx X.K):=qfa.or (qhv.or qhw)
theorem Zb (its:List iH) (n j:Nat) (u:iH):cF (·.setIfInBounds j u) { cls:=.type "list",data:=.seq its.toArray n }={ cls:=.type "list",data:=.seq (its.set j u).toArray n }:=by simp [cF]
theorem Inv.lst (I:Inv X pins σ H s) (h:H p=iE (.lst xs)):∃ (its:List iH) (n:Nat),Vals xs its/\s.heap.get? p=iE { cls:=.type "list",data:=.seq its.toArray n }/\xs.length<=sizeLine:=by obtain ⟨z,its,n,r,e⟩:=I.hok p _ h;exact ⟨its,n,r,e,z⟩
theorem Inv.lstUpd {ys:List V} {its its':List iH} {n c:Nat} {f:Obj->Obj} (I:Inv X pins σ H s) (h:H p=iE (.lst xs))
  (l:s.heap.get? p=iE { cls:=.type "list",data:=.seq its.toArray n }) (a:f { cls:=.type "list",data:=.seq its.toArray n }={ cls:=.type "list",data:=.seq its'.toArray c }) (r:Vals ys its') (z:ys.length<=sizeLine) (t:Nat) :
  Inv X pins σ (upd H p (.lst ys)) { s with heap:=s.heap.update p f,toks:=t }:=by
 have e:(s.heap.update p f).get? p=iE { cls:=.type "list",data:=.seq its'.toArray c }:=by rw [be f l (by rw [a] <;> rfl),a]
 refine I.write (x:=p) (e:=p) (by rw [h]; trivial) (.inl rfl) (λb u d q=>(cq _ _ (bw d)).trans q) ⟨_,e⟩ ?_;exact ⟨z,its',c,r,e⟩
def qkt:V->V->V->Hp->(Hp->Prop)->Prop:=λo i v H Q=>∃ p xs k j,o=.ref p/\i=.int k/\H p=iE (.lst xs)/\ixN xs.length k=iE j/\Q (upd H p (.lst (xs.set j v)))
theorem qcu:qll X qkt:=by
 intro pins s σ H o i v w x u Q I g m f h;obtain ⟨p,xs,k,j,rfl,rfl,hp,G,q⟩:=h;cases g;obtain ⟨t,rfl⟩:=m;obtain ⟨its,n,r,l,z⟩:=I.lst hp;obtain ⟨h1,h2,c,b⟩:=Gx G;have hl:=r.length;have y:=QR;have e:Inv X pins σ (upd H p (.lst (xs.set j v))) { s with heap:=s.heap.update p (cF (·.setIfInBounds j u)) }:=
  I.lstUpd hp l (Zb its n j u) (r.set f j) (by rw [c6]; exact z) s.toks
 by_cases d:0<=k
 ·have a:k.toNat=j:=by rw [seqIndex_of d b] at h1;exact aK.inj h1
  exact PySem.W.ki_setAt l d (by lia) (by rw [ax,<-hl]; exact b) (by rw [a]; exact ⟨_,e,q⟩)
 ·have a:(k+(its.toArray.size:Int)).toNat=j:=by rw [seqIndex_neg (by lia) c] at h1;rw [ax,<-hl];exact aK.inj h1
  exact PySem.W.ki_setBack l (by lia) (by rw [ax,<-hl]; exact c) (by lia) (by rw [a]; exact ⟨_,e,q⟩)
theorem Vi (lo hi:Option Int) (n:Nat):(lO lo hi iG n).1=((HT.sIx n 0 lo:Nat):Int)/\(lO lo hi iG n).2.1=((HT.sIx n n hi:Nat):Int)/\(lO lo hi iG n).2.2=1:=by
 refine ⟨?_,?_,rfl⟩
 ·cases lo with
  | none=>simp [lO,HT.sIx]
  | some i=>
   simp only [lO,HT.sIx,Option.getD_none,show (1:Int) > 0 by decide,if_true];by_cases h:i < 0;·simp only [h,if_true] <;> lia
   ·simp only [h,if_false] <;> lia
 ·cases hi with
  | none=>simp [lO,HT.sIx]
  | some i=>
   simp only [lO,HT.sIx,Option.getD_none,show (1:Int) > 0 by decide,if_true];by_cases h:i < 0;·simp only [h,if_true] <;> lia
   ·simp only [h,if_false] <;> lia
theorem JH (its:List iH) (lo hi:Option Int):slicePick its.toArray lo hi iG=((its.drop (HT.sIx its.length 0 lo)).take (HT.sIx its.length its.length hi - HT.sIx its.length 0 lo)).toArray:=by obtain ⟨h1,h2,i⟩:=Vi lo hi its.toArray.size;unfold slicePick;rw [h1,h2,i];simp only [sliceRange_one,pick_run,ax] <;> rfl
def ql5 (K:Frag):V->Option Int->Option Int->Hp->VK->Prop:=λx lo hi H Q=>∃ a xs,x=.ref a/\SqL K H a xs/\∀ p,H p=iG->Q (.ref p) (upd H p (.lst (qe8 xs lo hi)))
theorem qfb:SlR X (ql5 X.K):=by intro pins s σ H x v vl u lo hi sl Q I d c pl p h;obtain ⟨a,xs,rfl,hx,q⟩:=h;cases d;obtain ⟨its,r,ht,z⟩:=I.list hx;have n:=r.length;refine ⟨"list",_,slot_list_getitem.lookup,ht.isList.typeIs,?_⟩;refine wpAny_getItem_list_slice ht.isList c pl p .none (by simp) ?_ (by rw [ax] <;> lia);rw [JH,<-n];refine ⟨.ref s.heap.objs.size,_,I.laid (t':=s.toks) (o:=.lst (qe8 xs lo hi)) (λb e q=>aa _ q) (aA _) ?_,rfl,q _ (I.hok.fresh (aA _))⟩;exact ⟨bI (WN xs lo hi) z,_,0,(r.drop (HT.sIx xs.length 0 lo)).take (HT.sIx xs.length xs.length hi - HT.sIx xs.length 0 lo),ao _ rfl⟩
theorem zd:wU X (.type "list") (λxs H Q=>∃ p ys,xs=[.ref p]/\(SqL X.K H p ys\/SqT X.K H p ys)/\∀ l,H l=iG->Q (.ref l) (upd H l (.lst ys))):=by
 intro pins s σ H xs us Q I r h;obtain ⟨p,ys,rfl,hq,q⟩:=h;obtain ⟨u,rfl,x⟩:=wf r;cases x;have fin:∀ (its:List iH),Vals ys its->ys.length<=sizeLine->∀ (h':Heap) (U:Nat),(∀ b o',s.heap.get? b=iE o'->h'.get? b=iE o') ->h'.get? s.heap.objs.size=iE { cls:=.type "list",dict:=iG,data:=.seq its.toArray U,slots:=#[] }->EP X pins σ Q (.ref s.heap.objs.size) { s with heap:=h' }:=λits r' z h' U kp e=>
  ⟨.ref s.heap.objs.size,_,I.laid (t':=s.toks) kp (aA _) (show ObjOk X.prog X.w _ h' _ (.lst ys) from ⟨z,its,U,r',e⟩),rfl,q _ (I.hok.fresh (aA _))⟩
 rcases hq with hq | hq;·obtain ⟨its,r',pl,z⟩:=I.list hq;have a:=r'.length;obtain ⟨o,c,d,n,hd⟩:=pl.isList;exact call_list_seq p (.inl rfl) c d hd (λh' U kp e=>fin its r' z h' U kp e) (by simp only [ax] <;> lia)
 ·obtain ⟨its,r',pl,z⟩:=I.tuple hq;have a:=r'.length;obtain ⟨o,c,d,n,hd⟩:=pl;exact call_list_seq p (.inr rfl) c d hd (λh' U kp e=>fin its r' z h' U kp e) (by simp only [ax] <;> lia)
theorem yL:wU X (.type "tuple") (λxs H Q=>∃ p ys,xs=[.ref p]/\((SqL X.K H p ys/\∀ l,H l=iG->Q (.ref l) (upd H l (.tup ys)))\/(SqT X.K H p ys/\Q (.ref p) H))):=by
 intro pins s σ H xs us Q I r h;obtain ⟨p,ys,rfl,h⟩:=h;obtain ⟨u,rfl,x⟩:=wf r;cases x;rcases h with ⟨hq,q⟩ | ⟨hq,q⟩
 ·obtain ⟨its,r',pl,z⟩:=I.list hq;have n:=r'.length;refine call_tuple_list pl.isList (λh' kp=>?_) (by simp only [ax] <;> lia);have d:Inv X pins σ H { s with heap:=h' }:=I.kept (t':=s.toks) kp;have k:Inv X pins σ (upd H h'.objs.size (.tup ys)) { s with heap:=h'.push { cls:=.type "tuple",data:=.seq its.toArray } }:=
   d.laid (t':=s.toks) (λb o e=>aa _ e) (aA _) (show ObjOk X.prog X.w _ _ _ (.tup ys) from ⟨⟨z,_,ao _ rfl,rfl⟩,its,r',IsTup.new _ _⟩)
  exact ⟨.ref h'.objs.size,_,k,rfl,q _ (d.hok.fresh (aA _))⟩
 ·obtain ⟨its,r',pl,z⟩:=I.tuple hq;exact call_tuple_same pl ⟨.ref p,H,I,rfl,q⟩
def tyV (K:Frag) (T:String) (x:V) (H:Hp):Prop:=match x with
 | .str _=>T = "str"
 | .int _=>T = "int"
 | .ref p=>(T = "list"/\∃ xs,SqL K H p xs)\/(T = "tuple"/\∃ o,K.lookup p=iE o/\o.cls=.type "tuple"/\o.dict=iG) \/
   (T = "dict"/\((∃ kvs,H p=iE (.dK kvs))\/∃ kvs,H p=iE (.dT kvs)))\/(T = "set"/\∃ S n,H p=iE (.set S n))
 | _=>False
theorem qhy {v:iH} (I:Inv X pins σ H s) (r:RelV x v) (ty:tyV X.K T x H):s.TypeIs v T/\∀ a,v=.ref a->∃ d,s.heap.get? a=iE d/\d.dict=none:=by
 cases x with
 | str z=>obtain ⟨t,rfl⟩:=r;cases (show T = "str" from ty);exact ⟨typeIs_str s z t,λ_ e=>nomatch e⟩
 | int i=>obtain ⟨t,rfl⟩:=r;cases (show T = "int" from ty);exact ⟨typeIs_int s i t,λ_ e=>nomatch e⟩
 | ref p=>
  cases r;rcases ty with ⟨rfl,xs,hq⟩ | ⟨rfl,o,k,h,hd⟩ | ⟨rfl,k⟩ | ⟨rfl,S,n,k⟩
  ·obtain ⟨its,_,pl,_⟩:=I.list hq;refine ⟨pl.isList.typeIs,λa e=>?_⟩;cases e;obtain ⟨o,n,e,c,hd,_⟩:=pl;exact ⟨o,e,hd⟩
  ·refine ⟨⟨o,I.kIn p o k,h⟩,λa e=>?_⟩;cases e;exact ⟨o,I.kIn _ o k,hd⟩
  ·have z:∃ o,s.heap.get? p=iE o/\o.ExactDict:=by
    rcases k with ⟨kvs,k⟩ | ⟨kvs,k⟩
    ·obtain ⟨_,_,_,_,o,_,_,e,ex,_⟩:=I.hok p _ k;exact ⟨o,e,ex⟩
    ·obtain ⟨_,_,_,_,o,_,_,e,ex,_⟩:=I.hok p _ k;exact ⟨o,e,ex⟩
   obtain ⟨o,e,ex⟩:=z;refine ⟨⟨o,e,ex.1⟩,λa b=>?_⟩;cases b;exact ⟨o,e,ex.2.1⟩
  ·obtain ⟨o,_,_,_,e,ex,_⟩:=I.hok p _ k;refine ⟨⟨o,e,ex.1⟩,λa b=>?_⟩;cases b;exact ⟨o,e,ex.2.1⟩
 | _=>exact dn ty
def tBM (K:Frag) (T:String) (r:V->List V->Hp->VK->Prop) (to:TE) (t:TA):TE:=λσ H Q=>to σ H λx H1=>tyV K T x H1/\t σ H1 λxs H2=>r x xs H2 Q
variable {o:Expr} {es:List Expr} {to:TE} {t:TA} {name:Str} {apos cpos:Pos} {id:String} {r:V->List V->Hp->VK->Prop}
theorem WP (pa:PlainAttrs T) (slot:Slot T name id) (y:typeOf (.builtin id)=pure (.type "method_descriptor")) (m:MtR X id r) (l:PE X o to) (g:PA X (e::es) t)
  (b:j0 o name X.env (eval o X.env)=eval o X.env:=by rfl)
  (w:((j6 cpos (iN (e::es) X.env)).all (λx=>!x.1)&&(lA cpos (j9 [] X.env)).all (λx=>x.1.isSome)
   && decide ((e::es).length+([]:List i9).length+(if ([]:List i9).isEmpty then 0 else 1) < 30))=true:=by rfl)
  (a:(apos.endLine == cpos.line)=true:=by rfl) (f:iN (e::es) X.env=(iI,eval e X.env)::iN es X.env:=by rfl) (n:(j6 cpos (iN es X.env)).any (·.1)=false:=by rfl) :
  PE X (.Call (.Attribute o name apos) (e::es) [] cpos) (tBM X.K T r to t):=by
 refine ⟨?_⟩;intro pins s σ H Q I h;refine wpAny_Call_method_late b w a rfl (thn (l pins s σ H _ I h) λv s1 ⟨x,H1,d,r1,ty,c⟩=>?_);obtain ⟨h1,h2⟩:=qhy d r1 ty;refine ⟨T,id,pa,slot,y,h1,h2,?_⟩;have hA:=g cpos pins s1 σ H1 _ d c;rw [f] at hA ⊢;refine ei (by show (iI||(j6 cpos (iN es X.env)).any (·.1))=iI; rw [n] <;> rfl) (dq ?_);exact thn hA λus s2 ⟨vs,H2,k,r2,q⟩=>m pins s2 σ H2 x vs v us Q k r1 r2 q
end
def MtM (X:Cx) (id:String) (r:V->List V->Hp->VK->Prop):Prop:=
 ∀ (pins:Pns) (s:iK) (σ:St) (H:Hp) (x:V) (xs:List V) (v:iH) (us:List iH) (Q:VK),Inv X pins σ H s->RelV x v->Vals xs us->r x xs H Q ->iM (model X.prog X.w) X.A (call (.builtin id) (v::us)) (EP X pins σ Q) X.xe s
theorem Vals.one (h:Vals [x] us):∃ u,us=[u]/\RelV x u:=by
 cases h with
 | cons r t=>cases t;exact ⟨_,rfl,r⟩
theorem Vals.eraseIdx:∀ {xs:List V} {us:List iH} (i:Nat),Vals xs us->Vals (xs.eraseIdx i) (us.eraseIdx i)
 | _,_,_,.nil=>.nil
 | _,_,0,.cons _ t=>t
 | _,_,i+1,.cons r t=>.cons r (Vals.eraseIdx i t)
theorem Vals.reverse (h:Vals xs us):Vals xs.reverse us.reverse:=by
 induction h with
 | nil=>exact .nil
 | cons r t j=>rw [de,de]; exact Vals.append j (.cons r .nil)
theorem Vj:∀ (l:List α) (i:Nat),(l.eraseIdx i).length<=l.length
 | [],_=>aA _
 | _::_,0=>fm _
 | _::r,i+1=>Nat.succ_le_succ (Vj r i)
section
variable {l b:Addr} {ys zs:List V}
theorem Inv.lset {its its':List iH} {n:Nat} {f:Array iH->Array iH} {t':Nat} (I:Inv X pins σ H s) (b:H l=iE (.lst xs))
  (e:s.heap.get? l=iE { cls:=.type "list",data:=.seq its.toArray n }) (a:f its.toArray=its'.toArray) (c:Vals ys its') (z:ys.length<=sizeLine) :
  Inv X pins σ (upd H l (.lst ys)) { s with heap:=s.heap.update l (cF f),toks:=t' }:=by
 have q:=PySem.IsL.update e f;rw [a] at q;refine I.write (x:=l) (e:=l) (by rw [b]; exact trivial) (.inl rfl) (λg u d h=>(cq s.heap (cF f) (bw d)).trans h) ⟨_,q⟩ ?_;exact ⟨z,its',_,c,q⟩
theorem Inv.lnew {its:List iH} {t':Nat} (I:Inv X pins σ H s) (c:Vals ys its) (z:ys.length<=sizeLine):Inv X pins σ (upd H s.heap.objs.size (.lst ys)) { s with heap:=s.heap.push { cls:=.type "list",data:=.seq its.toArray },toks:=t' }:=
 I.laid (λ_ _ q=>aa _ q) (aA _) ⟨z,its,0,c,ao _ rfl⟩
theorem Inv.fresh (I:Inv X pins σ H s):H s.heap.objs.size=none:=I.hok.fresh (aA _)
theorem Inv.lstM (I:Inv X pins σ H s) (b:H l=iE (.lst xs)):xs.length<=sizeLine/\∃ (its:List iH) (n:Nat),Vals xs its/\xs.length=its.length/\s.heap.get? l=iE { cls:=.type "list",data:=.seq its.toArray n }:=by obtain ⟨z,its,n,r,e⟩:=I.hok l _ b;exact ⟨z,its,n,r,r.length,e⟩
theorem qcv (h:n<=sizeLine):dN n=false:=by unfold dN;exact Ac (by lia)
end
section
def WQ:V->List V->Hp->VK->Prop:=λx vs H Q=>∃ l xs y,x=.ref l/\vs=[y]/\H l=iE (.lst xs)/\xs.length < sizeLine/\Q .non (upd H l (.lst (xs++[y])))
theorem Vk:MtM X "list.append" WQ:=by
 intro pins s σ H x vs v us Q I d a h;obtain ⟨l,xs,y,rfl,rfl,b,c,q⟩:=h;cases d;obtain ⟨u,rfl,B⟩:=a.one;obtain ⟨z,its,n,r,hl,e⟩:=I.lstM b;refine lM F.slot_list_append ⟨_,e,rfl⟩ F.entry_list_append (F.args_list_append_2 _ _) (PySem.list_append l its.toArray n u (by rw [ax]; lia)) ⟨e,?_⟩;refine ⟨.non,_,I.lset (its':=its++[u]) b e (by simp) (r.append (.cons B .nil)) ?_,rfl,q⟩;rw [ai,c8]
 lia
def qfc:V->List V->Hp->VK->Prop:=λx vs H Q=>∃ l b xs zs,x=.ref l/\vs=[.ref b]/\H l=iE (.lst xs)/\H b=iE (.lst zs)/\xs.length+zs.length<=sizeLine/\Q .non (upd H l (.lst (xs++zs)))
theorem Gy:MtM X "list.extend" qfc:=by
 intro pins s σ H x vs v us Q I d c h;obtain ⟨l,b,xs,zs,rfl,rfl,a,j,m,q⟩:=h;cases d;obtain ⟨u,rfl,B⟩:=c.one;cases B;obtain ⟨z,its,n,r,hl,e⟩:=I.lstM a;obtain ⟨z2,i,n2,r2,f,k⟩:=I.lstM j;have hsz:its.toArray.size+i.toArray.size<=sizeLine:=by rw [ax,ax]; lia
 have g:¬(!its.toArray.isEmpty&&dN (its.toArray.size+i.toArray.size))=true:=by rw [qcv hsz,Bool.and_false];exact bF
 refine lM F.slot_list_extend ⟨_,e,rfl⟩ F.entry_list_extend (F.args_list_extend_2 _ _)
  (AutoSeq1.list_extend_list_list_0 l its.toArray n b i.toArray n2 g (by rw [ax]; lia) (by lia)) ⟨e,k,?_⟩
 refine ⟨.non,_,I.lset (its':=its++i) a e (by simp) (r.append r2) ?_,rfl,q⟩;rw [ai]
 lia
def qhz:V->List V->Hp->VK->Prop:=λx vs H Q=>∃ l xs i k y,x=.ref l/\vs=[.int i]/\H l=iE (.lst xs)/\-(2 ^ 63)<=i/\i < 2 ^ 63/\my i xs.length=iE k/\xs[k]?=iE y/\Q y (upd H l (.lst (xs.eraseIdx k)))
theorem Yq:MtM X "list.pop" qhz:=by
 intro pins s σ H x vs v us Q I d c h;obtain ⟨l,xs,i,k,y,rfl,rfl,b,h1,h2,g,D,q⟩:=h;cases d;obtain ⟨u,rfl,B⟩:=c.one;obtain ⟨t,rfl⟩:=B;obtain ⟨z,its,n,r,hl,e⟩:=I.lstM b;obtain ⟨w,f,a⟩:=r.get D;refine lM F.slot_list_pop ⟨_,e,rfl⟩ F.entry_list_pop (F.args_list_pop_2 _ _)
  (MeetsSeq.list_pop_at l its.toArray n i t k w (fitsIndex_both h1 h2) (by rw [ax,<-hl]; exact g) (by rw [<-bn]; exact f) (by rw [ax]; lia)) ⟨e,?_⟩
 refine ⟨y,_,I.lset (its':=its.eraseIdx k) b e ?_ (r.eraseIdx k) ?_,a,q⟩;·show its.toArray.eraseIdxIfInBounds k=(its.eraseIdx k).toArray;rw [List.eraseIdxIfInBounds_toArray]
 ·have:=Vj xs k
  lia
end
end L2
namespace Att
open PySem PySem.W PySem.Calls PyProof.Rows
theorem gj {P:mh} {h:Heap}:∀ (ns:List Int) (vs:List iH),WellAll P h vs (ns.map WData.int)->IntsAre vs ns:=by
 intro ns
 induction ns with
 | nil=>intro vs w;rw [bM] at w;cases w;exact .nil
 | cons n ns j=>
  intro vs w;rw [aC] at w;cases w with
  | cons a b=>cases a;exact .cons _ _ (j _ b)
theorem Gz {l:OpenLaw} {n:Nat} (s:l.most=iE n) {P:mh} {h:Heap} {args:List WData} {v:List iH}
  (e:l.row.toRowW.claim.pre args=iJ) (i:WellAll P h v args) :
  ∃ a vs ns,v=[bT a]/\args=[WData.list (ns.map WData.int)]/\h.get? a=iE { cls:=.type "list",data:=.seq vs.toArray }/\IntsAre vs ns/\ns.length<=n:=by
 have j:WShape.hasAll [] args [.list .int]=true:=(pre_splitW e).1;have k:l.pre.holds [] { args:=args }=true:=(pre_splitW e).2;obtain ⟨d,r,rfl,h1,h2⟩:=hasAllW_cons j;obtain rfl:=hasAllW_nil h2;obtain ⟨xs,rfl,t⟩:=hasW_list h1;obtain ⟨ns,rfl⟩:=items_int t;have b:ns.length<=n:=by
  unfold OpenLaw.pre at k;have g:(WTm.not (.lt (.lit (.int (n:Int))) (.len (.arg 0)))).holds [] { args:=[.list (ns.map .int)] }=true:=by have g:=(holds_andW k).1;rw [s] at g;exact g
  have f:=condW_of g (w_not (w_lt w_lit (w_len_list (w_arg rfl))));rw [af] at f;refine Nat.le_of_not_lt λq=>?_;have m:(n:Int) < ((ns.length:Nat):Int):=by omega
  first
   | (rw [Ad m] at f; exact absurd f (by decide))
   | (simp at f; omega)
 cases i with
 | cons p w=>
  cases w;cases p with
  | list o c=>exact ⟨_,_,ns,rfl,rfl,o,gj ns _ c,b⟩
theorem GA (l:OpenLaw) (args:List WData):l.row.toRowW.claim.post args (.bool iJ) args=true:=
 postW_of (r:=l.row.toRowW) (X:=(iJ == iJ))
  (show WShape.has [] (.bool iJ) .bool=iJ by first | rfl | decide | simp [WShape.has,WShape.arms,WShape.armsAll])
  (show (WTm.eq .res (.lit (.bool iJ))).value [] { args:=args,res:=iE (.bool iJ),after:=args }=iE (.bool (iJ == iJ)) from w_eq_bool (w_res rfl) w_lit) rfl
theorem attach_call {l:OpenLaw} {n:Nat} {q:iQ} {loose:List Str} {XP:(Str->Option iH)->Heap->Prop} {YP:iR->Heap->Prop} {d:DefRec}
  (p:l.most=iE n) (hdf:d.params.defaults=[])
  (call:∀ (w:iR) (s₀ s:iK) (mg mb:Str->Option iH) (fa:Addr) (o:Obj) (pm cd doc:iH) (a:Addr) (vs:List iH) (ns:List Int),Ground q loose [] XP w s₀ mg mb s.heap->YP w s.heap ->s.heap.get? fa=iE o->o.data=.func (docDef d.name d.params d.body d.scope pm cd doc)->s.heap.CodeRec cd d.name->mg d.name=iE (.ref fa) ->s.heap.get? a=iE { cls:=.type "list",data:=.seq vs.toArray }->IntsAre vs ns->ns.length<=n->s.gens=#[] ->lI (model l.prog w) mP (.call (.ref fa) ⟨[.ref a],[]⟩) (λr s'=>r=.ok (.ret (.bool iJ))/\OldK s.heap s'.heap/\s'.os=s.os/\l8 s'.gens) s) :
  WalkO q loose XP YP l.row.toRowW d [] (λf vs=>iB f vs):=by
 intro w s₀ s mg mb G Y fa o pm cd doc V kV m hd c D g hg args v as e y k i u;obtain rfl:V=.none:=Dflts.none D hdf;obtain rfl:kV=.none:=Dflts.noKw D;obtain ⟨a,vs,ns,rfl,rfl,j,h,b⟩:=Gz p e i;refine enter_call (l9 (call w s₀ s mg mb fa o pm cd doc a vs ns G Y m (fd_plain hd) c g j h b hg) λr s' hq=>?_);obtain ⟨rfl,h2,z,x⟩:=hq;exact ⟨.inl ⟨.bool iJ,.bool iJ,[],rfl,λ_=>rfl,.bool iJ,GA l _,λ_=>⟨fL,λ_ t=>(nomatch t)⟩⟩,h2,z,x⟩
end Att
namespace L2
open PySem PySem.Spec PyProof.Rows
theorem Vl:∀ {vs:List iH} {ns:List Int},IntsAre vs ns->Vals (ns.map V.int) vs
 | _,_,.nil=>.nil
 | _,_,.cons n t h=>.cons ⟨t,rfl⟩ (Vl h)
def qku (H:Hp):Prop:=∀ b,H b=iG\/∃ o xs,H b=iE (.frz o (.lst xs))
theorem qcw {P:iQ} {w:iR} {K:Frag} {mg mb:Str->Option iH} {CX:CXT} {k:Nat} {fa a:Addr} {fd:lz} {x:Str} {sp:Sp} {c:iK} {vs:List iH} {ns:List Int}
  (N:K.In c.heap) (A:c.heap.Ns iP mg) (g:c.heap.Ns builtinsNs mb) (J:∀ x:Str,x ≠ "__name__"->mb x=iO x) (B:c.heap.NoLimit) (hg:c.gens=#[])
  (D:c.heap.get? a=iE { cls:=.type "list",data:=.seq vs.toArray }) (hi:IntsAre vs ns) (hl:ns.length<=sizeLine) (R:Room k mP)
  (F:∀ base:Heap,K.In base->base.Ns iP mg->FnOk P w K mg base CX k fa fd [x] sp) (l:∀ (s:iK) (u:iH),mV s fd ⟨[u],[]⟩ [(x,u)])
  (G:∀ H:Hp,qku H->SqL K H a (ns.map V.int)->sp [.ref a] H (λv _=>v=.bl iJ) λ_ _ _=>False)
  (X:∀ H e s',CX [] H c (λ_ _ _=>False) e s'->False) :
  lI (model P w) mP (.call (.ref fa) ⟨[.ref a],[]⟩) (λr s'=>r=.ok (.ret (.bool iJ))/\OldK c.heap s'.heap/\s'.os=c.os/\l8 s'.gens) c:=by
 have M:=Vl hi;have t:=hi.length;have j:∀ H:Hp,qku H->SqL K H a (ns.map V.int)->HOk P w H c.heap->(∀ b,H b≠iG->b=a)->(H a≠iG->K.lookup a=iG) ->lI (model P w) mP (.call (.ref fa) ⟨[.ref a],[]⟩) (λr s'=>r=.ok (.ret (.bool iJ))/\OldK c.heap s'.heap/\s'.os=c.os/\l8 s'.gens) c:=by
  intro H O S hok hA U;have f:∀ {b:Addr} {o:Obj},c.heap.get? b=iE o->H b=iG->(qcf c.heap H).get? b=iE o:=λe n=>qcg e n;have E:∀ {b:Addr} {o:Obj} {es:Array mO} {ep:Nat},c.heap.get? b=iE o->o.data=.dict es ep->H b=none:=λ{b o es ep} e d=>by
   cases q:H b with
   | none=>rfl
   | some u=>have L:b=a:=hA b (by rw [q]; simp);subst L;rw [D] at e; cases e;have d':Data.seq vs.toArray _=Data.dict es ep:=d;cases d'
  have i:∀ {b:Addr} {m:Str->Option iH},c.heap.Ns b m->(qcf c.heap H).Ns b m:=λ{b m} ⟨o,es,ep,e,d,r⟩=>⟨o,es,ep,f e (E e d),d,r⟩
  have C:K.In (qcf c.heap H):=λb o e=>f (N b o e) (by
   cases q:H b with
   | none=>rfl
   | some u=>have L:b=a:=hA b (by rw [q]; simp);subst L;rw [U (by rw [q]; simp)] at e; cases e)
  have T:Mod K mg (qcf c.heap H):=⟨C,i A,⟨mb,i g,J⟩,let ⟨mc,h1,h2⟩:=B; ⟨mc,i h1,h2⟩⟩
  have e0:Env0 P w K mg (qcf c.heap H) mP [] c H:=⟨rfl,T,λb o e=>qeR e,fZ (Gj _ _),trivial,λb g=>absurd (show b∈([]:List Addr) from g) (by simp),hok,.of_eq hg⟩
  refine l9 ((F _ C (i A)).run mP [] c H ⟨[.ref a],[]⟩ [.ref a] [.ref a] _ _ R e0 (l c (.ref a)) (.cons rfl .nil) (G H O S)) λr s' h=>?_;cases r with
  | error e=>exact (X H e s' h).elim
  | ok W=>
   cases W with
   | next=>exact dn h
   | brk=>exact dn h
   | cont=>exact dn h
   | ret u=>
    obtain ⟨v,H',os,bare,un,y,r',q⟩:=h;have Q:v=.bl true:=q;subst Q;obtain rfl:u=dm true:=r';refine ⟨rfl,OldK.of_keep λb o e=>?_,os,bare⟩;cases q:H b with
    | none=>exact un.keep b o e q (by intro z; exact absurd (show b∈([]:List Addr) from z) (by simp)) (by simp)
    | some u=>
     rcases O b with z | ⟨ob,xs,z⟩
     ·rw [q] at z; cases z
     ·have z2:=un.frzs b ob _ z;obtain ⟨e1,_⟩:=hok b _ z;obtain ⟨Y,_⟩:=y b _ z2;rw [e] at e1; cases e1;exact Y
 cases I:K.lookup a with
 | some o=>have e:=N a o I;rw [D] at e;cases e;refine j (λ_=>iG) (λ_=>.inl rfl) (.inr ⟨_,vs.toArray,_,I,rfl,rfl,rfl,by rw [ax,t]; exact hl,by simpa using M⟩) (λb u z=>by have p:(iG:Option HO)=iE u:=z; cases p) (λb z=>absurd rfl z) λz=>absurd rfl z
 | none=>
  refine j (λb=>if b=a then iE (.frz { cls:=.type "list",data:=.seq vs.toArray } (.lst (ns.map V.int))) else iG) (λb=>?_) (.inl (.inr ⟨{ cls:=.type "list",data:=.seq vs.toArray },Aa rfl⟩)) (λb u z=>?_) (λb z=>?_) λ_=>I
  ·by_cases g:b=a;·exact .inr ⟨_,_,Aa g⟩
   ·exact .inl (Ab g)
  ·by_cases g:b=a;·have p:=(Aa g).symm.trans z;cases p;subst g;exact ⟨D,by rw [af]; exact hl,vs,_,M,D⟩
   ·have p:=(Ab g).symm.trans z;cases p
  ·by_cases g:b=a;·exact g
   ·exact absurd (Ab g) z
theorem qfd {l:g7} {n k:Nat} {q:iQ} {loose:List Str} {XP:(Str->Option iH)->Heap->Prop} {YP:iR->Heap->Prop} {d:DefRec} {K:mh->Frag} {CX:iR->CXT} {sp:iR->Sp} {x:Str}
  (A:l.most=iE n) (r:n<=sizeLine) (hdf:d.params.defaults=[]) (z:Room k mP)
  (D:∀ (w:iR) (h:Heap),YP w h->(K w.params).In h)
  (F:∀ (w:iR) (mg:Str->Option iH) (fa:Addr) (h:Heap),(K w.params).In h->h.Ns iP mg->mg d.name=iE (.ref fa) ->∃ fd:lz,(∀ (s:iK) (u:iH),mV s fd ⟨[u],[]⟩ [(x,u)]) /\
    ∀ base:Heap,(K w.params).In base->base.Ns iP mg->FnOk l.prog w (K w.params) mg base (CX w) k fa fd [x] (sp w))
  (p:∀ (w:iR) (H:Hp) (a:Addr) (ns:List Int),ns.length<=n->qku H->SqL (K w.params) H a (ns.map V.int)->sp w [.ref a] H (λv _=>v=.bl iJ) λ_ _ _=>False)
  (X:∀ (w:iR) (H:Hp) (s:iK) (e:iH) (s':iK),CX w [] H s (λ_ _ _=>False) e s'->False) :
  PySem.W.WalkO q loose XP YP l.row.toRowW d [] (λf vs=>iB f vs):=by
 refine Att.attach_call A hdf λw s₀ j mg mb fa o pm cd doc a vs ns G Y I hd B t m i c hg=>?_;have y:=D w _ Y;obtain ⟨fd,C,E⟩:=F w mg fa _ y G.T.g t;exact qcw y G.T.g G.T.b G.T.builtins G.T.nolimit hg m i (bI c r) z E C (λH O S=>p w H a ns c O S) λH e s'=>X w H j e s'
noncomputable def wV (s:Stmt):Arguments:=match s with
 | .FunctionDef _ a _ _ _ _ _ _ _ _=>a
 | _=>{ posonlyargs:=[],args:=[],vararg:=iG,kwonlyargs:=[],kw_defaults:=[],kwarg:=iG,defaults:=[] }
noncomputable def va (s:Stmt):List Stmt:=match s with
 | .FunctionDef _ _ b _ _ _ _ _ _ _=>b
 | _=>[]
noncomputable def ja (s:Stmt):lU:=match s with
 | .FunctionDef _ _ _ _ _ _ sc _ _ _=>sc
 | _=>{ kind:=.function,names:=[],isGenerator:=iI,isCoroutine:=iI }
structure Fun (K:Frag) (x qual:Str) (st:Stmt) (f:Addr) (fd:lz):Prop where
 ex:∃ (oc:iH) (od:Option Addr) (kV doc pm:iH) (an:Option Addr) (cdv ct:iH) (osl:Array (Option iH)),fd=cm x qual (wV st) (va st) (ja st) .none kV doc pm an cdv ct/\K.lookup f=iE ⟨oc,od,.func fd,osl⟩/\codeIn K cdv qual=iJ
 kp:mS K (.ref f)=iJ
variable {P:iQ} {w:iR} {K:Frag} {qual:Str} {st:Stmt} {f:Addr}
section
variable {mg:Str->Option iH} {base:Heap}
theorem Fun.binds {x:Str} {fd:lz} {ps:List Str} (F:Fun K x qual st f fd)
  (h:∀ (kV doc pm:iH) (an:Option Addr) (cdv ct:iH) (us:List iH),us.length=ps.length->lJ (cm x qual (wV st) (va st) (ja st) .none kV doc pm an cdv ct) ⟨us,[]⟩=pure (ps.zip us)):Binds K fd ps []:=by
 obtain ⟨oc,od,kV,doc,pm,an,cdv,ct,osl,rfl,m,d⟩:=F.ex;exact .all (h kV doc pm an cdv ct)
theorem GB {x:Str} {oc:iH} {od an:Option Addr} {osl:Array (Option iH)} {kV doc pm cdv ct:iH} (l:K.lookup f=iE ⟨oc,od,.func (cm x qual (wV st) (va st) (ja st) .none kV doc pm an cdv ct),osl⟩)
  (c:codeIn K cdv qual=iJ) (k:mS K (.ref f)=iJ):Fun K x qual st f (cm x qual (wV st) (va st) (ja st) .none kV doc pm an cdv ct):=⟨⟨oc,od,kV,doc,pm,an,cdv,ct,osl,rfl,l,c⟩,k⟩
end
def Same (H H':Hp):Prop:=∀ b o,H b=iE o->H' b=iE o
theorem Same.refl (H:Hp):Same H H:=λ_ _ h=>h
variable {H:Hp}
theorem Same.trans {H1 H2:Hp} (a:Same H H1) (b:Same H1 H2):Same H H2:=λc o h=>b c o (a c o h)
variable {H':Hp} {a:Addr}
theorem Same.seq {xs:List V} (e:Same H H') (h:SqL K H a xs):SqL K H' a xs:=by
 rcases h with (h | ⟨o,h⟩) | h;·exact .inl (.inl (e _ _ h))
 ·exact .inl (.inr ⟨o,e _ _ h⟩)
 ·exact .inr h
variable {o:Option V} {u:iH} {d y:V}
section
variable {κ:Type} [DecidableEq κ]
noncomputable def WR (kvs:List (κ×V)) (k:κ):Option V:=(kvs.find? λkv=>decide (kv.1=k)).map (·.2)
noncomputable def zU (kvs:List (κ×V)) (k:κ) (v:V):List (κ×V):=
 if (kvs.any λkv=>decide (kv.1=k))=iJ then kvs.map (λkv=>if kv.1=k then (kv.1,v) else kv) else kvs++[(k,v)]
theorem zV {p:κ×V} {r:List (κ×V)} {k:κ} (e:p.1=k):WR (p::r) k=iE p.2:=by simp [WR,cy,e]
theorem yM {p:κ×V} {r:List (κ×V)} {k:κ} (e:¬p.1=k):WR (p::r) k=WR r k:=by simp [WR,cy,e]
theorem JI (k:κ):∀ kvs:List (κ×V),(kvs.any λkv=>decide (kv.1=k))=(WR kvs k).isSome
 | []=>rfl
 | p::r=>by
  rw [b7];by_cases e:p.1=k;·simp only [zV e,Ad e,Bool.true_or,Option.isSome_some]
  ·rw [yM e,Ac e,Bool.false_or]; exact JI k r
theorem ym (kvs:List (κ×V)) (k:κ) (v:V):(zU kvs k v).length<=kvs.length+1:=by
 unfold zU;split;·rw [af]; omega
 ·rw [ai,aq,bf]; omega
theorem RelO.isSome_eq {u:Option iH} (r:RelO o u):o.isSome=u.isSome:=by
 cases o with
 | none=>cases u with
  | none=>rfl
  | some _=>exact (show False from r).elim
 | some _=>cases u with
  | none=>exact (show False from r).elim
  | some _=>rfl
theorem RelO.getD {u:Option iH} {d':iH} (r:RelO o u) (rd:RelV d d'):RelV (o.getD d) (u.getD d'):=by
 cases o with
 | none=>cases u with
  | none=>exact rd
  | some _=>exact (show False from r).elim
 | some _=>cases u with
  | none=>exact (show False from r).elim
  | some _=>exact r
theorem KV.val {kvs:List (κ×V)} {vs:List (κ×iH)} (r:KV kvs vs) (k:κ):RelO (WR kvs k) (mQ vs k):=by
 unfold KV at r
 induction r with
 | nil=>exact dS
 | @cons p q ps qs h t ih=>
  obtain ⟨h1,h2⟩:=h;by_cases e:p.1=k
  ·have a:q.1=k:=h1.symm.trans e;have b:mQ (q::qs) k=iE q.2:=by simp [mQ,cy,a]
   rw [zV e,b]; exact h2
  ·have a:¬q.1=k:=λz=>e (h1.trans z);have b:mQ (q::qs) k=mQ qs k:=by simp [mQ,cy,a]
   rw [yM e,b]; exact ih
theorem KV.any {kvs:List (κ×V)} {vs:List (κ×iH)} (r:KV kvs vs) (k:κ):(kvs.any λkv=>decide (kv.1=k))=vs.any λkv=>decide (kv.1=k):=by
 unfold KV at r
 induction r with
 | nil=>rfl
 | cons h t j=>rw [b7,b7,j,h.1]
theorem KV.repl {kvs:List (κ×V)} {vs:List (κ×iH)} (r:KV kvs vs) (k:κ) (c:RelV y u):KV (kvs.map λkv=>if kv.1=k then (kv.1,y) else kv) (vs.map λkv=>if kv.1=k then (kv.1,u) else kv):=by
 unfold KV at r ⊢
 induction r with
 | nil=>exact .nil
 | @cons p q ps qs h t ih=>
  rw [aC,aC];refine .cons ?_ ih;obtain ⟨h1,h2⟩:=h;by_cases e:p.1=k;·rw [Aa e,Aa (h1.symm.trans e)]; exact ⟨h1,c⟩
  ·rw [Ab e,Ab (λz=>e (h1.trans z))]; exact ⟨h1,h2⟩
theorem KV.put {kvs:List (κ×V)} {vs:List (κ×iH)} (r:KV kvs vs) (k:κ) (c:RelV y u):KV (zU kvs k y) (stored vs k u):=by
 unfold zU stored;rw [r.any k];by_cases e:(vs.any λkv=>decide (kv.1=k))=iJ;·rw [Aa e,Aa e]; exact r.repl k c
 ·rw [Ab e,Ab e]; exact Paired.snoc r ⟨rfl,c⟩
theorem KV.length {kvs:List (κ×V)} {vs:List (κ×iH)} (r:KV kvs vs):kvs.length=vs.length:=fP r
end
theorem Zc {k:Key} (r:RelV (kV k) u):(qP P w).is k u=true:=by
 cases k with
 | inl i=>obtain ⟨t,e⟩:=(show ∃ t,u=fE i t from r); subst e; exact WL P w i t
 | inr x=>obtain ⟨t,e⟩:=(show ∃ t,u=bL x t from r); subst e; exact WM P w x t
theorem Vm:∀ {ks:List Key} {us:List iH},Vals (ks.map kV) us->ItemsAre (qP P w) ks us
 | [],_,r=>by rw [bM] at r; cases r; exact .nil
 | k::ks,_,r=>by
  rw [aC] at r;cases r with
  | cons h t=>exact .cons (Zc h) (Vm t)
abbrev KT (H:Hp):List (List Key×V)->List (List Key×Addr×iH)->Prop:=mJ λp q=>p.1=q.1/\H q.2.1=iE (.tup (p.1.map kV))/\RelV p.2 q.2.2
variable {xs:List (List Key×Addr×iH)} {kvs:List (List Key×V)}
theorem KT.val (r:KT H kvs xs) (k:List Key):RelO (WR kvs k) ((atKey xs k).map (·.2)):=by
 induction r with
 | nil=>exact dS
 | @cons p q ps qs h t ih=>
  obtain ⟨h1,_,h2⟩:=h;by_cases e:p.1=k
  ·have a:q.1=k:=h1.symm.trans e;have b:atKey (q::qs) k=iE q.2:=by simp [atKey,cy,a]
   rw [zV e,b]; exact h2
  ·have a:¬q.1=k:=λz=>e (h1.trans z);have b:atKey (q::qs) k=atKey qs k:=by simp [atKey,cy,a]
   rw [yM e,b]; exact ih
theorem KT.repl (r:KT H kvs xs) (k:List Key) (c:RelV y u):KT H (kvs.map λkv=>if kv.1=k then (kv.1,y) else kv) (xs.map (putAt k u)):=by
 induction r with
 | nil=>exact .nil
 | @cons p q ps qs h t ih=>
  rw [aC,aC];refine .cons ?_ ih;obtain ⟨h1,h2,i⟩:=h;unfold putAt;by_cases e:p.1=k;·rw [Aa e,Aa (h1.symm.trans e)]; exact ⟨h1,h2,c⟩
  ·rw [Ab e,Ab (λz=>e (h1.trans z))]; exact ⟨h1,h2,i⟩
theorem KT.put (r:KT H kvs xs) (k:List Key) {b:Addr} (d:H b=iE (.tup (k.map kV))) (c:RelV y u):KT H (zU kvs k y) (storedH xs k b u):=by
 have e:(kvs.any λkv=>decide (kv.1=k))=(atKey xs k).isSome:=by rw [JI,(r.val k).isSome_eq,fM]
 unfold zU storedH;rw [e];by_cases q:(atKey xs k).isSome=iJ;·rw [Aa q,Aa q]; exact r.repl k c
 ·rw [Ab q,Ab q]; exact Paired.snoc r ⟨rfl,d,c⟩
theorem KT.keeps (r:KT H kvs xs) (ht:∀ b ys,H b=iE (.tup ys)->H' b=iE (.tup ys)):KT H' kvs xs:=
 Paired.mapP r λ_ _ z=>⟨z.1,ht _ _ z.2.1,z.2.2⟩
section
variable {h:Heap}
theorem qhA {u:HO} (ok:HOk P w H h) (e:Rd H a u):ObjOk P w H h a u:=e.ok ok
theorem Vn {kvs:List (Key×V)} (ok:HOk P w H h) (e:Rd H a (.dK kvs)):kvs.length<=sizeLine/\(a == k8)=iI/\∃ vs,KV kvs vs/\h.DictOf (qP P w) a vs:=
 show ObjOk P w H h a (.dK kvs) from qhA ok e
theorem qkv {kvs:List (Key×V)} (ok:HOk P w H h) (e:H a=iE (.dK kvs)):kvs.length<=sizeLine/\(a == k8)=iI/\∃ vs,KV kvs vs/\h.DictOf (qP P w) a vs:=Vn ok (.inl e)
theorem ze {ks:List Key} (ok:HOk P w H h) (e:H a=iE (.tup (ks.map kV))):(mq (qP P w)).is h ks a:=by
 obtain ⟨_,its,r,o,h1,h2,n,i⟩:=(show ObjOk P w H h a (.tup (ks.map kV)) from ok a _ e)
 exact ⟨o,its.toArray,n,h1,h2,i,by simpa using Vm r⟩
theorem WS (ok:HOk P w H h) (e:Rd H a (.dT kvs)):kvs.length<=sizeLine/\(a == k8)=iI /\
  ∃ xs,KT H kvs xs/\h.DictOfH (mq (qP P w)) a xs:=by
 obtain ⟨z,y,xs,r,o,es,ep,h1,h2,i,c,b⟩:=(show ObjOk P w H h a (.dT kvs) from qhA ok e)
 refine ⟨z,y,xs,r,o,es,ep,h1,h2,i,c,λx hx=>?_,b⟩;have all:∀ {l:List (List Key×V)} {m:List (List Key×Addr×iH)},KT H l m->∀ x∈m,(mq (qP P w)).is h x.1 x.2.1:=by
  intro l m q
  induction q with
  | nil=>intro x hx; exact nomatch hx
  | @cons p q ps qs hq t ih=>
   intro x hx;rcases ae.mp hx with e | hx
   ·subst e;exact ze ok (by rw [<-hq.1]; exact hq.2.1)
   ·exact ih x hx
 exact all r x hx
theorem qkw (ok:HOk P w H h) (e:H a=iE (.dT kvs)):kvs.length<=sizeLine/\(a == k8)=iI /\
  ∃ xs,KT H kvs xs/\h.DictOfH (mq (qP P w)) a xs:=WS ok (.inl e)
end
def DGet (H:Hp) (a:Addr) (y:V) (r:Option V):Prop:=
 (∃ kvs k,Rd H a (.dK kvs)/\y=kV k/\r=WR kvs k)\/∃ kvs k b,Rd H a (.dT kvs)/\y=.ref b/\H b=iE (.tup (k.map kV))/\r=WR kvs k
def DPut (H:Hp) (a:Addr) (y v:V) (H':Hp):Prop:=
 (∃ kvs k,H a=iE (.dK kvs)/\y=kV k/\kvs.length < sizeLine/\H'=upd H a (.dK (zU kvs k v))) \/
 ∃ kvs k b,H a=iE (.dT kvs)/\y=.ref b/\H b=iE (.tup (k.map kV))/\kvs.length < sizeLine/\H'=upd H a (.dT (zU kvs k v))
theorem DGet.k {kvs:List (Key×V)} {k:Key} (e:H a=iE (.dK kvs)):DGet H a (kV k) (WR kvs k):=.inl ⟨kvs,k,.inl e,rfl,rfl⟩
variable {v:V}
theorem DPut.k {kvs:List (Key×V)} {k:Key} (e:H a=iE (.dK kvs)) (hl:kvs.length < sizeLine):DPut H a (kV k) v (upd H a (.dK (zU kvs k v))):=.inl ⟨kvs,k,e,rfl,hl,rfl⟩
variable {X:Cx} {pins:Pns} {σ:St} {s:iK} {A:iX} {E Q:iH->iK->Prop} {h':Heap}
section
variable {r:iH}
theorem Inv.big (I:Inv X pins σ H s):k8 < s.heap.objs.size:=by have h:iP < s.heap.objs.size:=(I.mod.glob.keeps I.bk).lt;exact ej (by decide) h
theorem GC (j:A.units+1 < k7) (I:Inv X pins σ H s) (g:DGet H a y (iE v)) (i:RelV y u) (h:∀ T s',Inv X pins σ H s'->RelV v T->Q T s'):iM (model X.prog X.w) A (getItem (.ref a) u) Q E s:=by
 rcases g with ⟨kvs,k,e,f,l⟩ | ⟨kvs,k,b,e,f,J,l⟩
 ·subst f;obtain ⟨z,hd,vs,rel,dd⟩:=Vn I.hok e;obtain ⟨T,c,r⟩:=RelO.some_of (v:=v) (o:=mQ vs k) (by rw [l]; exact rel.val k);exact wpAny_getItem_of (Zc i) dd.mapOf c (h T _ (I.tok _) r)
 ·subst f;cases (show u=bT b from i);obtain ⟨z,hd,xs,rel,dd⟩:=WS I.hok e;obtain ⟨T,c,r⟩:=RelO.some_of (v:=v) (o:=(atKey xs k).map (·.2)) (by rw [l]; exact rel.val k);obtain ⟨p,hp,d⟩:=aN.mp c;refine wpAny_getItem_heap (lv j) (ze I.hok J) dd hp ?_;rw [d];exact h T _ (I.tok _) r
theorem ql6 (d:A.units+1 < k7) (I:Inv X pins σ H s) (g:DGet H a y o) (c:RelV y u) (h:∀ s',Inv X pins σ H s'->Q (.bool o.isSome) s'):iM (model X.prog X.w) A (iS .In u (.ref a)) Q E s:=by
 rcases g with ⟨kvs,k,e,f,l⟩ | ⟨kvs,k,b,e,f,J,l⟩
 ·subst f;obtain ⟨z,hd,vs,rel,dd⟩:=Vn I.hok e;refine wpAny_in_of (Zc c) hd dd.mapOf ?_;rw [<-(rel.val k).isSome_eq,<-l];exact h _ (I.tok _)
 ·subst f;cases (show u=bT b from c);obtain ⟨z,hd,xs,rel,dd⟩:=WS I.hok e;refine wpAny_in_heap (lv d) (ze I.hok J) hd dd ?_;have q:=(rel.val k).isSome_eq;rw [fM] at q;rw [<-q,<-l];exact h _ (I.tok _)
theorem qfe (d:A.units+1 < k7) (I:Inv X pins σ H s) (g:DGet H a y o) (c:RelV y u) (h:∀ s',Inv X pins σ H s'->Q (.bool (!o.isSome)) s'):iM (model X.prog X.w) A (iS .NotIn u (.ref a)) Q E s:=by
 rcases g with ⟨kvs,k,e,f,l⟩ | ⟨kvs,k,b,e,f,J,l⟩
 ·subst f;obtain ⟨z,hd,vs,rel,dd⟩:=Vn I.hok e;refine wpAny_notIn_of (Zc c) hd dd.mapOf ?_;rw [<-(rel.val k).isSome_eq,<-l];exact h _ (I.tok _)
 ·subst f;cases (show u=bT b from c);obtain ⟨z,hd,xs,rel,dd⟩:=WS I.hok e;refine wpAny_notIn_heap (lv d) (ze I.hok J) hd dd ?_;have q:=(rel.val k).isSome_eq;rw [fM] at q;rw [<-q,<-l];exact h _ (I.tok _)
theorem GD {t':Nat} {o:HO} (I:Inv X pins σ H s) (m:Mut (H a)) (c:bC a s.heap h') (i:∃ q,h'.get? a=iE q) (new:ObjOk X.prog X.w (upd H a o) h' a o):Inv X pins σ (upd H a o) { s with heap:=h',toks:=t' }:=
 I.write (x:=a) (e:=a) m (.inl rfl) (λb q d z=>(c.2 b d).trans z) i new
theorem Yr {H':Hp} {kvs:List (Key×V)} {vs:List (Key×iH)} (z:kvs.length<=sizeLine) (hd:(a == k8)=iI) (rel:KV kvs vs) (dd:h'.DictOf (qP P w) a vs):ObjOk P w H' h' a (.dK kvs):=⟨z,hd,vs,rel,dd⟩
theorem GE {Q:Unit->iK->Prop} (t:A.units+1 < k7) (I:Inv X pins σ H s) (g:DPut H a y v H') (n:RelV y u) (o:RelV v r) (h:∀ s',Inv X pins σ H' s'->Q () s'):iM (model X.prog X.w) A (setItem (.ref a) u r) Q E s:=by
 rcases g with ⟨kvs,k,e,j,l,m⟩ | ⟨kvs,k,b,e,j,J,l,m⟩
 ·subst j m;obtain ⟨z,hd,vs,rel,dd⟩:=qkv I.hok e;have f:vs.length<=sizeLine:=by rw [<-rel.length]; exact z
  have hl:(zU kvs k v).length<=sizeLine:=by have:=ym kvs k v; omega
  refine wpAny_setItem_pairs (hsz:=f) (Zc n) dd λh' d i=>h _ ?_;have x:∃ q,h'.get? a=iE q:=let ⟨q,_,_,hq,_⟩:=d; ⟨q,hq⟩
  exact GD I (by rw [e]; exact dS) i x (Yr hl hd (rel.put k o) d)
 ·subst j m;cases (show u=bT b from n);obtain ⟨z,hd,xs,rel,dd⟩:=qkw I.hok e;have f:xs.length<=sizeLine:=by rw [<-fP rel]; exact z
  have hl:(zU kvs k v).length<=sizeLine:=by have:=ym kvs k v; omega
  refine wpAny_setItem_heap (hsz:=f) (lv t) (ze I.hok J) dd λh' d i=>h _ ?_;obtain ⟨q,es,ep,hq,h2,D,C,_,B⟩:=d;refine GD I (by rw [e]; exact dS) i ⟨q,hq⟩ ⟨hl,hd,_,(rel.put k J o).keeps λc ys p=>?_,q,es,ep,hq,h2,D,C,B⟩;rw [qB (qj7 p e (λz=>nomatch z))];exact p
end
section
variable {kvs:List (Key×V)} {k:Key}
theorem qkx (I:Inv X pins σ H s) (e:Rd H a (.dK kvs)) (h:∀ t s',Inv X pins σ H s'->Q (.int kvs.length t) s'):iM (model X.prog X.w) A (call (.builtin "len") [.ref a]) Q E s:=by obtain ⟨z,hd,vs,rel,dd⟩:=Vn I.hok e;refine call_len_dict hd dd (by rw [<-rel.length]; rw [iT] at z; omega) ?_;rw [<-rel.length];exact h _ _ (I.tok _)
end
theorem WT (I:Inv X pins σ H s) (g:DGet H a y o):s.TypeIs (.ref a) "dict":=by
 rcases g with ⟨kvs,k,e,_,_⟩ | ⟨kvs,k,b,e,_,_,_⟩
 ·obtain ⟨_,_,vs,_,dd⟩:=Vn I.hok e;exact dd.typeIs
 ·obtain ⟨_,_,xs,_,dd⟩:=WS I.hok e;exact dd.typeIs
def qky (td ty tv:TE):TS:=λD σ H=>tv σ H λv H1=>td σ H1 λx H2=>ty σ H2 λy c=>∃ a b,x=.ref a/\DPut c a y v b/\D.nx σ b
variable {pos:Pos}
section
variable {o i e value:Expr} {pos' tpos:Pos} {td ty tv:TE}
theorem qff (k:X.A.units+1 < k7) (m:PE X o td) (hi:PE X i ty) (j:PE X value tv) (l:lB value (iE (.Subscript o i pos')) pos.line X.env=pure iI):PS X (.Assign [.Subscript o i pos'] value pos) (qky td ty tv):=by refine ⟨?_⟩;intro pins s σ H D I h;refine wpAny_Assign_Subscript (thn (j pins s σ H _ I h) λr s1 ⟨v,H1,t,b,f⟩=>thn (m pins s1 σ H1 _ t f) λu s2 ⟨x,H2,p,d,e⟩=>thn (hi pins s2 σ H2 _ p e) λz s3 ⟨y,C,n,c,a,w,ex,g,q⟩=>?_) l;subst ex;obtain rfl:u=bT a:=d;exact GE k n g c b λs4 B=>⟨σ,w,B,q⟩
end
theorem qcx (h:Heap) (d:k8 < h.objs.size):ObjOk P w H (h.push { cls:=.type "dict",data:=.dict #[] }) h.objs.size (.dK []):=
 ⟨bo _,beq_eq_false_iff_ne.mpr (bw (aG d)),[],.nil,g8 h⟩
def qhB:TE:=λ_ H Q=>∀ p,H p=iG->Q (.ref p) (upd H p (.dK []))
section
theorem qcy:PE X (.Dict [] [] pos) qhB:=⟨λpins s σ H Q I h=>
 wpAny_Dict_empty ⟨.ref s.heap.objs.size,_,I.laid (a:=s.heap.objs.size) (o:=.dK []) (t':=s.toks) (λ_ _ q=>aa _ q) (aA _) (qcx s.heap I.big),rfl,h _ (I.hok.fresh (aA _))⟩⟩
end
structure M2 (X:Cx) (o:Expr) (m:Str) (apos:Pos) (e f:Expr) (cpos:Pos):Prop where
 base:j0 o m X.env (eval o X.env)=eval o X.env
 few:((j6 cpos (iN [e,f] X.env)).all (λx=>!x.1)&&(lA cpos (j9 [] X.env)).all (λx=>x.1.isSome)
  && decide (([e,f]:List Expr).length+([]:List i9).length+(if ([]:List i9).isEmpty then 0 else 1) < 30))=iJ
 line:(apos.endLine == cpos.line)=iJ
 trees:j6 cpos (iN [e,f] X.env)=[(iI,eval e X.env),(iI,eval f X.env)]
def IsD (H:Hp) (a:Addr):Prop:=(∃ kvs,Rd H a (.dK kvs))\/∃ kvs,Rd H a (.dT kvs)
theorem qhC (I:Inv X pins σ H s) (d:IsD H a):s.TypeIs (.ref a) "dict"/\(∀ b,bT a=.ref b->∃ o,s.heap.get? b=iE o/\o.dict=iG)/\(a == k8)=false:=by
 rcases d with ⟨kvs,e⟩ | ⟨kvs,e⟩
 ·obtain ⟨_,hd,vs,_,dd⟩:=Vn I.hok e;refine ⟨dd.typeIs,λb q=>?_,hd⟩;cases q;obtain ⟨o,_,_,h1,h2,_⟩:=dd;exact ⟨o,h1,h2.2.1⟩
 ·obtain ⟨_,hd,xs,_,dd⟩:=WS I.hok e;refine ⟨dd.typeIs,λb q=>?_,hd⟩;cases q;obtain ⟨o,_,_,h1,h2,_⟩:=dd;exact ⟨o,h1,h2.2.1⟩
section
variable {r:iH}
theorem qhD (i:A.units+1 < k7) (I:Inv X pins σ H s) (g:DGet H a y o) (c:RelV y u) (rd:RelV d r) (h:∀ T s',Inv X pins σ H s'->RelV (o.getD d) T->Q T s'):iM (model X.prog X.w) A (call (.builtin "dict.get") [.ref a,u,r]) Q E s:=by
 rcases g with ⟨kvs,k,e,f,l⟩ | ⟨kvs,k,b,e,f,J,l⟩
 ·subst f;obtain ⟨z,hd,vs,rel,dd⟩:=Vn I.hok e;refine call_meetsIn eG dd.typeIs PySem.F.entry_dict_get (PySem.F.args_dict_get_3 _ _ _) (meets_dict_get_default (qP X.prog X.w) a (Zc c) hd r) ⟨_,dd.mapOf,h _ _ (I.tok _) ?_⟩;rw [l];exact (rel.val k).getD rd
 ·subst f;cases (show u=bT b from c);obtain ⟨z,hd,xs,rel,dd⟩:=WS I.hok e;refine call_meetsIn eG dd.typeIs PySem.F.entry_dict_get (PySem.F.args_dict_get_3 _ _ _) (meetsH_dict_get_default (mq (qP X.prog X.w)) a b hd r) ⟨lv i,k,xs,ze I.hok J,dd,h _ _ (I.tok _) ?_⟩;rw [l];exact (rel.val k).getD rd
end
def qhE (td ty tx:TE):TE:=λσ H Q=>td σ H λx H1=>∃ a,x=.ref a/\IsD H1 a/\ty σ H1 λy H2=>tx σ H2 λz b=>∃ o,DGet b a y o/\Q (o.getD z) b
section
variable {o e f:Expr} {apos cpos:Pos} {td ty tx:TE}
theorem qcz (l:X.A.units+1 < k7) (n:PE X o td) (t:PE X e ty) (p:PE X f tx) (m:M2 X o "get" apos e f cpos):PE X (.Call (.Attribute o "get" apos) [e,f] [] cpos) (qhE td ty tx):=by
 refine ⟨?_⟩;intro pins s σ H Q I h;refine wpAny_Call_method m.base m.few m.line PySem.F.plainAttrs_dict eG PySem.F.type_dict_get (thn (n pins s σ H _ I h) λu s1 ⟨x,H1,b,i,a,ex,d,k⟩=>?_);subst ex;obtain rfl:u=bT a:=i;obtain ⟨t1,t2,_⟩:=qhC b d;refine ⟨t1,t2,?_⟩;rw [m.trees];refine ei rfl (dq (cV (thn (t pins s1 σ H1 _ b k) λE s2 ⟨y,H2,w,c,j⟩=>
  cV (thn (p pins s2 σ H2 _ w j) λfv s3 ⟨z,C,v,rz,D,g,q⟩=>d9 ?_))))
 exact qhD l v g c rz λT s4 B r=>⟨_,C,B,r,q⟩
end
section
theorem GF:wU X (.builtin "len") (λxs H Q=>∃ a kvs,xs=[V.ref a]/\H a=iE (.dK kvs)/\Q (.int kvs.length) H):=by intro pins s σ H xs us Q I r h;obtain ⟨a,kvs,rfl,g,q⟩:=h;obtain ⟨u,rfl,B⟩:=wf r;cases B;exact qkx I (.inl g) λt s' b=>⟨.int kvs.length,H,b,⟨t,rfl⟩,q⟩
end
end L2
namespace L2.D2
open PySem PySem.Spec PyProof.Rows
variable {b:List Nat}
theorem wW {a:List Nat} (h:(a.all λi=>decide (i∈b))=iJ):∀ i∈a,i∈b:=λi hi=>Ae (aJ.mp h i hi)
theorem yN {i:Nat} (h:decide (i∈b)=iI):i∉b:=of_decide_eq_false h
noncomputable def WU:Expr->Bool
 | .Starred ..=>iI
 | _=>iJ
variable {e:Expr} {env:Env}
theorem jW {es:List Expr} (h:WU e=iJ):iN (e::es) env=(iI,eval e env)::iN es env:=by cases e <;> first | rfl | cases h
theorem qE (h:WU e=iJ):iN [e] env=[(iI,eval e env)]:=jW h
theorem qcA {a b:Expr} (h:WU a=iJ) (k:WU b=iJ):iN [a,b] env=[(iI,eval a env),(iI,eval b env)]:=by rw [jW h,qE k]
variable {pos:Pos}
theorem zW:∀ {es:List Expr},es.all WU=iJ->(j6 pos (iN es env)).any (·.1)=iI
 | [],_=>rfl
 | e::es,h=>by rw [fQ,aS] at h;rw [jW h.1];exact zW h.2
theorem kN (h:WU e=iJ):((j6 pos (iN [e] env)).all (λx=>!x.1)&&(lA pos (j9 [] env)).all (λx=>x.1.isSome)
   && decide ([e].length+([]:List i9).length+(if ([]:List i9).isEmpty then 0 else 1) < 30))=true:=by rw [qE h]; rfl
inductive D where
 | non | bl (b:Bool) | int (i:Int) | str (x:Str)
 | tup (xs:List D) | lst (xs:List D) | dct (kvs:List (Key×D)) | raw (v:V)
 | xcp (C:Addr) | ins (C:Addr) (fs:List (Str×D)) | at_ (a:Addr) (xs:List D)
 deriving Inhabited
abbrev Sl:=List (Option D)
inductive Out (α:Type) where
 | ok (a:α) | exc (c:Str) (o:Sl) | bad
variable {α β:Type}
noncomputable def Out.bind (o:Out α) (k:α->Out β):Out β:=match o with
 | .ok a=>k a
 | .exc c o=>.exc c o
 | .bad=>.bad
@[simp] theorem Out.oj (a:α) (k:α->Out β):(Out.ok a).bind k=k a:=rfl
@[simp] theorem Out.exc_bind (c:Str) (o:Sl) (k:α->Out β):(Out.exc c o:Out α).bind k=.exc c o:=rfl
@[simp] theorem Out.bad_bind (k:α->Out β):(Out.bad:Out α).bind k=.bad:=rfl
noncomputable def ql7 (a C:Addr):HO:=.ext λh=>∃ o vs,h.get? a=iE o/\o.cls=.ref C/\o.data=.fields vs
mutual
/-- the value v is the data d,all its objects in F -/
inductive Is (K:Frag) (F:Hp):V->D->Prop
 | non:Is K F .non .non
 | bl (b:Bool):Is K F (.bl b) (.bl b)
 | int (i:Int):Is K F (.int i) (.int i)
 | str {x:Str} (h:x.length<=sizeLine):Is K F (.str x) (.str x)
 | tup {a:Addr} {xs:List V} {ds:List D} (h:SqT K F a xs) (t:IsL K F xs ds):Is K F (.ref a) (.tup ds)
 | lst {a:Addr} {xs:List V} {ds:List D} (h:SqL K F a xs) (t:IsL K F xs ds):Is K F (.ref a) (.lst ds)
 | dct {a:Addr} {kv:List (Key×V)} {kvs:List (Key×D)} (h:F a=iE (.dK kv)) (t:IsK K F kv kvs):Is K F (.ref a) (.dct kvs)
 | raw (v:V):Is K F v (.raw v)
 | xcp {a C:Addr} (h:F a=iE (ql7 a C)):Is K F (.ref a) (.xcp C)
 | ins {a C dx:Addr} {fv:List (Str×V)} {fs:List (Str×D)} (h:F a=iE (.ins C dx fv)) (t:IsF K F fv fs):Is K F (.ref a) (.ins C fs)
 | at_ {a:Addr} {xs:List V} {ds:List D} (h:SqL K F a xs) (t:IsL K F xs ds):Is K F (.ref a) (.at_ a ds)
inductive IsL (K:Frag) (F:Hp):List V->List D->Prop
 | nil:IsL K F [] []
 | cons {v:V} {d:D} {vs:List V} {ds:List D} (h:Is K F v d) (t:IsL K F vs ds):IsL K F (v::vs) (d::ds)
inductive IsK (K:Frag) (F:Hp):List (Key×V)->List (Key×D)->Prop
 | nil:IsK K F [] []
 | cons {k:Key} {v:V} {d:D} {vs:List (Key×V)} {ds:List (Key×D)} (h:Is K F v d) (t:IsK K F vs ds):IsK K F ((k,v)::vs) ((k,d)::ds)
inductive IsF (K:Frag) (F:Hp):List (Str×V)->List (Str×D)->Prop
 | nil:IsF K F [] []
 | cons {k:Str} {v:V} {d:D} {vs:List (Str×V)} {ds:List (Str×D)} (h:Is K F v d) (t:IsF K F vs ds):IsF K F ((k,v)::vs) ((k,d)::ds)
end
theorem jm {K:Frag} {H H':Hp} {a:Addr} {xs:List V} (e:Same H H') (h:SqT K H a xs):SqT K H' a xs:=by
 rcases h with (h | ⟨o,h⟩) | h;·exact .inl (.inl (e _ _ h))
 ·exact .inl (.inr ⟨o,e _ _ h⟩)
 ·exact .inr h
mutual
theorem Is.mono {K:Frag} {F F':Hp} (e:Same F F'):∀ {v:V} {d:D},Is K F v d->Is K F' v d
 | _,_,.non=>.non
 | _,_,.bl b=>.bl b
 | _,_,.int i=>.int i
 | _,_,.str h=>.str h
 | _,_,.tup h t=>.tup (jm e h) (IsL.mono e t)
 | _,_,.lst h t=>.lst (e.seq h) (IsL.mono e t)
 | _,_,.dct h t=>.dct (e _ _ h) (IsK.mono e t)
 | _,_,.raw v=>.raw v
 | _,_,.xcp h=>.xcp (e _ _ h)
 | _,_,.ins h t=>.ins (e _ _ h) (IsF.mono e t)
 | _,_,.at_ h t=>.at_ (e.seq h) (IsL.mono e t)
theorem IsL.mono {K:Frag} {F F':Hp} (e:Same F F'):∀ {vs:List V} {ds:List D},IsL K F vs ds->IsL K F' vs ds
 | _,_,.nil=>.nil
 | _,_,.cons h t=>.cons (Is.mono e h) (IsL.mono e t)
theorem IsK.mono {K:Frag} {F F':Hp} (e:Same F F'):∀ {vs:List (Key×V)} {ds:List (Key×D)},IsK K F vs ds->IsK K F' vs ds
 | _,_,.nil=>.nil
 | _,_,.cons h t=>.cons (Is.mono e h) (IsK.mono e t)
theorem IsF.mono {K:Frag} {F F':Hp} (e:Same F F'):∀ {vs:List (Str×V)} {ds:List (Str×D)},IsF K F vs ds->IsF K F' vs ds
 | _,_,.nil=>.nil
 | _,_,.cons h t=>.cons (Is.mono e h) (IsF.mono e t)
end
theorem IsL.length {K:Frag} {F:Hp}:∀ {vs:List V} {ds:List D},IsL K F vs ds->vs.length=ds.length
 | _,_,.nil=>rfl
 | _,_,.cons _ t=>congrArg (·+1) (IsL.length t)
theorem IsL.get {K:Frag} {F:Hp}:∀ {vs:List V} {ds:List D} {i:Nat} {v:V},IsL K F vs ds->vs[i]?=iE v->∃ d,ds[i]?=iE d/\Is K F v d
 | _,_,_,_,.nil,e=>by simp at e
 | _,_,0,_,.cons h _,e=>by simp at e; subst e; exact ⟨_,rfl,h⟩
 | _,_,i+1,v,.cons _ t,e=>by obtain ⟨d,h1,h2⟩:=IsL.get (i:=i) (v:=v) t (by simpa using e);exact ⟨d,by simpa using h1,h2⟩
theorem IsL.getD {K:Frag} {F:Hp}:∀ {vs:List V} {ds:List D} {i:Nat} {d:D},IsL K F vs ds->ds[i]?=iE d->∃ v,vs[i]?=iE v/\Is K F v d
 | _,_,_,_,.nil,e=>by simp at e
 | _,_,0,_,.cons h _,e=>by simp at e; subst e; exact ⟨_,rfl,h⟩
 | _,_,i+1,v,.cons _ t,e=>by obtain ⟨d,h1,h2⟩:=IsL.getD (i:=i) (d:=v) t (by simpa using e);exact ⟨d,by simpa using h1,h2⟩
theorem IsL.append {K:Frag} {F:Hp}:∀ {vs ws:List V} {ds es:List D},IsL K F vs ds->IsL K F ws es->IsL K F (vs++ws) (ds++es)
 | _,_,_,_,.nil,s=>s
 | _,_,_,_,.cons h t,s=>.cons h (IsL.append t s)
theorem IsL.drop {K:Frag} {F:Hp}:∀ {vs:List V} {ds:List D} (n:Nat),IsL K F vs ds->IsL K F (vs.drop n) (ds.drop n)
 | _,_,0,r=>r
 | _,_,_+1,.nil=>.nil
 | _,_,n+1,.cons _ t=>IsL.drop n t
theorem IsL.take {K:Frag} {F:Hp}:∀ {vs:List V} {ds:List D} (n:Nat),IsL K F vs ds->IsL K F (vs.take n) (ds.take n)
 | _,_,0,_=>.nil
 | _,_,_+1,.nil=>.nil
 | _,_,n+1,.cons h t=>.cons h (IsL.take n t)
theorem IsL.set {K:Frag} {F:Hp} {v:V} {d:D} (h:Is K F v d):∀ {vs:List V} {ds:List D} (i:Nat),IsL K F vs ds->IsL K F (vs.set i v) (ds.set i d)
 | _,_,_,.nil=>.nil
 | _,_,0,.cons _ t=>.cons h t
 | _,_,i+1,.cons q t=>.cons q (IsL.set h i t)
def OwnIs (K:Frag) (F H:Hp) (a:Addr):D->Prop
 | .lst ds=>∃ xs,H a=iE (.lst xs)/\IsL K F xs ds
 | .dct kvs=>∃ kv,H a=iE (.dK kv)/\IsK K F kv kvs
 | .ins C fs=>∃ dx fv,H a=iE (.ins C dx fv)/\IsF K F fv fs
 | .at_ b ds=>b=a/\∃ xs,H a=iE (.lst xs)/\IsL K F xs ds
 | _=>False
def TopIs (K:Frag) (F H:Hp) (v:V) (d:D):Prop:=Is K F v d\/∃ a,v=.ref a/\OwnIs K F H a d
inductive Mo where
 | sh | fr | any
def MoIs (K:Frag) (m:Mo) (H0 F H:Hp) (v:V) (d:D):Prop:=match m with
 | .sh=>Is K F v d
 | .fr=>∃ a,v=.ref a/\H0 a=iG/\F a=iG/\OwnIs K F H a d
 | .any=>TopIs K F H v d
theorem MoIs.top {K:Frag} {m:Mo} {H0 F H:Hp} {v:V} {d:D} (h:MoIs K m H0 F H v d):TopIs K F H v d:=by
 cases m with
 | sh=>exact .inl h
 | fr=>obtain ⟨a,e,_,_,o⟩:=h; exact .inr ⟨a,e,o⟩
 | any=>exact h
structure Chg (A:Addr->Prop) (F H F' H':Hp):Prop where
 keep:∀ b o,H b=iE o->¬A b->H' b=iE o
 stay:∀ b,H b≠iG->H' b≠iG
 grow:Same F F'
 new:∀ b,F' b≠iG->F b≠iG\/H b=iG\/A b
theorem Chg.refl {A:Addr->Prop} {F H:Hp}:Chg A F H F H:=⟨λ_ _ e _=>e,λ_ h=>h,Same.refl _,λ_ h=>.inl h⟩
theorem Chg.trans {A A1:Addr->Prop} {F H F1 H1 c H2:Hp} (a:Chg A F H F1 H1) (b:Chg A1 F1 H1 c H2) (hA:∀ x,A1 x->A x\/H x=iG):Chg A F H c H2 where
 keep:=λx o e n=>b.keep x o (a.keep x o e n) λz=>(hA x z).elim n λq=>by rw [e] at q; cases q
 stay:=λx h=>b.stay x (a.stay x h)
 grow:=a.grow.trans b.grow
 new:=λx h=>by
  rcases b.new x h with q | q | q;·exact a.new x q
  ·refine .inr (.inl ?_);cases e:H x with
   | none=>rfl
   | some o=>exact absurd q (a.stay x (by rw [e]; simp))
  ·rcases hA x q with z | z;·exact .inr (.inr z)
   ·exact .inr (.inl z)
theorem Chg.trans' {A:Addr->Prop} {F H F1 H1 c H2:Hp} (a:Chg A F H F1 H1) (b:Chg A F1 H1 c H2):Chg A F H c H2:=a.trans b λ_ z=>.inl z
theorem Chg.mono {A c:Addr->Prop} {F H F1 H1:Hp} (a:Chg A F H F1 H1) (h:∀ x,A x->c x):Chg c F H F1 H1:=
 ⟨λb o e n=>a.keep b o e λz=>n (h b z),a.stay,a.grow,λb z=>(a.new b z).imp id (Or.imp id (h b))⟩
abbrev No:Addr->Prop:=λ_=>False
theorem Chg.ofNo {A:Addr->Prop} {F H F1 H1:Hp} (a:Chg No F H F1 H1):Chg A F H F1 H1:=a.mono λ_ z=>z.elim
structure Rep (K:Frag) (own:List Nat) (F H:Hp) (σ:St) (ρ:Sl):Prop where
 sub:Same F H
 len:σ.length=ρ.length
 val:∀ i d,i∉own->ρ[i]?=iE (iE d)->∃ v,σ[i]?=iE (iE v)/\Is K F v d
 ow:∀ i d,i∈own->ρ[i]?=iE (iE d)->∃ a,σ[i]?=iE (iE (.ref a))/\F a=iG/\OwnIs K F H a d
 opn:∀ i,i∈own->∃ d,ρ[i]?=iE (iE d)
 dis:∀ i j a,i∈own->j∈own->σ[i]?=iE (iE (V.ref a))->σ[j]?=iE (iE (V.ref a))->i=j
def OA (own:List Nat) (σ:St):Addr->Prop:=λb=>∃ i∈own,σ[i]?=iE (iE (V.ref b))
theorem OwnIs.there {K:Frag} {F H:Hp} {a:Addr} {d:D} (h:OwnIs K F H a d):H a≠none:=by
 cases d with
 | lst ds=>obtain ⟨xs,e,_⟩:=h; rw [e]; simp
 | dct ds=>obtain ⟨xs,e,_⟩:=h; rw [e]; simp
 | ins C fs=>obtain ⟨dx,xs,e,_⟩:=h; rw [e]; simp
 | at_ b ds=>obtain ⟨_,xs,e,_⟩:=h; rw [e]; simp
 | _=>exact h.elim
theorem OwnIs.grow {K:Frag} {F H F' H':Hp} {a:Addr} {d:D} (h:OwnIs K F H a d) (g:Same F F') (k:∀ o,H a=iE o->H' a=iE o):OwnIs K F' H' a d:=by
 cases d with
 | lst ds=>obtain ⟨xs,e,t⟩:=h; exact ⟨xs,k _ e,t.mono g⟩
 | dct ds=>obtain ⟨xs,e,t⟩:=h; exact ⟨xs,k _ e,t.mono g⟩
 | ins C fs=>obtain ⟨dx,xs,e,t⟩:=h; exact ⟨dx,xs,k _ e,t.mono g⟩
 | at_ b ds=>obtain ⟨J,xs,e,t⟩:=h; exact ⟨J,xs,k _ e,t.mono g⟩
 | _=>exact h.elim
theorem Rep.OA_there {K:Frag} {own:List Nat} {F H:Hp} {σ:St} {ρ:Sl} (r:Rep K own F H σ ρ) {b:Addr} (h:OA own σ b):H b≠iG/\F b=none:=by obtain ⟨i,hi,e⟩:=h;obtain ⟨d,hd⟩:=r.opn i hi;obtain ⟨a,e1,c,o⟩:=r.ow i d hi hd;rw [e] at e1;cases e1;exact ⟨o.there,c⟩
theorem Rep.grow {K:Frag} {own:List Nat} {F H F' H':Hp} {σ:St} {ρ:Sl} (r:Rep K own F H σ ρ) (c:Chg No F H F' H') (s:Same F' H'):Rep K own F' H' σ ρ where
 sub:=s
 len:=r.len
 val:=λi d hi e=>let ⟨v,h1,h2⟩:=r.val i d hi e; ⟨v,h1,h2.mono c.grow⟩
 ow:=λi d hi e=>by
  obtain ⟨a,h1,h2,h⟩:=r.ow i d hi e;refine ⟨a,h1,?_,h.grow c.grow λo q=>c.keep a o q λz=>z⟩;cases q:F' a with
  | none=>rfl
  | some o=>
   rcases c.new a (by rw [q]; simp) with z | z | z;·exact absurd h2 z
   ·exact absurd z h.there
   ·exact z.elim
 opn:=r.opn
 dis:=r.dis
theorem MoIs.grow {K:Frag} {A:Addr->Prop} {m:Mo} {H0 F H F' H':Hp} {v:V} {d:D} (h:MoIs K m H0 F H v d) (f:m≠.any) (c:Chg A F H F' H') (hA:∀ x,A x->H0 x≠iG):MoIs K m H0 F' H' v d:=by
 cases m with
 | sh=>exact Is.mono c.grow h
 | fr=>
  obtain ⟨a,e,b,E,o⟩:=h;have n:¬A a:=λz=>hA a z b;refine ⟨a,e,b,?_,o.grow c.grow λo q=>c.keep a o q n⟩;cases q:F' a with
  | none=>rfl
  | some u=>
   rcases c.new a (by rw [q]; simp) with z | z | z;·exact absurd E z
   ·exact absurd z o.there
   ·exact absurd z n
 | any=>exact absurd rfl f
def qcd (K:Frag) (io:List Nat) (F H:Hp) (σ:St) (ρ:Sl):Prop:=∀ i∈io,∃ d a,ρ[i]?=iE (iE d)/\σ[i]?=iE (iE (V.ref a))/\F a=iG/\OwnIs K F H a d
theorem Rep.ioIs {K:Frag} {own io:List Nat} {F H:Hp} {σ:St} {ρ:Sl} (r:Rep K own F H σ ρ) (h:∀ i∈io,i∈own):qcd K io F H σ ρ:=λi hi=>by obtain ⟨d,hd⟩:=r.opn i (h i hi);obtain ⟨a,h1,h2,b⟩:=r.ow i d (h i hi) hd;exact ⟨d,a,hd,h1,h2,b⟩
structure Ct where
 K:Frag
 cv:Str->iH
 E:XK
 io:List Nat
 mr:Mo
 ol:List Nat
 ox:List Nat
 oxs:∀ i∈ox,i∈io
abbrev Vo:=Out (D×Sl)
def Po (C:Ct) (own:List Nat) (m:Mo) (σ:St) (F H:Hp) (r:Vo) (Q:VK):Prop:=match r with
 | .ok (d,ρ')=>∀ v F' H',Rep C.K own F' H' σ ρ'->Chg (OA own σ) F H F' H'->MoIs C.K m H F' H' v d->Q v H'
 | .exc c ρ'=>∀ F' H',Same F' H'->qcd C.K C.ox F' H' σ ρ'->Chg (OA own σ) F H F' H'->C.E (C.cv c) iG H'
 | .bad=>False
abbrev qY:=Sl->Vo
def tE (C:Ct) (own:List Nat) (m:Mo) (f:qY):TE:=λσ H Q=>∃ F ρ,Rep C.K own F H σ ρ/\Po C own m σ F H (f ρ) Q
theorem MoIs.back {K:Frag} {m:Mo} {A:Addr->Prop} {H0 F H F1 H1:Hp} {f Ha:Hp} {v:V} {d:D} (c:Chg A f H0 F1 H1) (h:MoIs K m H1 F H v d):MoIs K m H0 F H v d:=by
 cases m with
 | sh=>exact h
 | fr=>
  obtain ⟨a,e,b,r⟩:=h;refine ⟨a,e,?_,r⟩;cases q:H0 a with
  | none=>rfl
  | some o=>exact absurd b (c.stay a (by rw [q]; simp))
 | any=>exact h
theorem Po.shift {C:Ct} {own:List Nat} {m:Mo} {σ:St} {F H F1 H1:Hp} {r:Vo} {Q:VK} (h:Po C own m σ F H r Q) (c:Chg (OA own σ) F H F1 H1):Po C own m σ F1 H1 r Q:=by
 cases r with
 | ok p=>exact λv F' H' a U mo=>h v F' H' a (c.trans' U) (MoIs.back (Ha:=H1) c mo)
 | exc x=>exact λF' H' s io U=>h F' H' s io (c.trans' U)
 | bad=>exact h.elim
theorem Po.bind {C:Ct} {own:List Nat} {m ma:Mo} {σ:St} {F H:Hp} {o:Vo} {k:D×Sl->Vo} {Q R:VK} (hp:Po C own m σ F H (o.bind k) Q)
  (h:∀ v F1 H1 d ρ1,Rep C.K own F1 H1 σ ρ1->Chg (OA own σ) F H F1 H1->MoIs C.K ma H F1 H1 v d->Po C own m σ F1 H1 (k (d,ρ1)) Q->R v H1):Po C own ma σ F H o R:=by
 cases o with
 | ok p=>obtain ⟨d,ρ1⟩:=p;exact λv F1 H1 a c mo=>h v F1 H1 d ρ1 a c mo (Po.shift (show Po C own m σ F H (k (d,ρ1)) Q from hp) c)
 | exc x=>exact hp
 | bad=>exact hp.elim
def PoV (C:Ct) (m:Mo) (F H:Hp) (r:Out D) (Q:VK):Prop:=match r with
 | .ok d=>∀ v F' H',Same F' H'->Chg No F H F' H'->MoIs C.K m H F' H' v d->Q v H'
 | _=>False
def OpD (X:Cx) (C:Ct) (m:Mo) (f:iH->iH->Sem iH) (g:D->D->Out D):Prop:=
 OpR X f (λx y H Q=>∃ F dx d,Same F H/\TopIs C.K F H x dx/\TopIs C.K F H y d/\PoV C m F H (g dx d) Q)
def UnD (X:Cx) (C:Ct) (m:Mo) (f:iH->Sem iH) (g:D->Out D):Prop:=
 UnR X f (λx H Q=>∃ F dx,Same F H/\TopIs C.K F H x dx/\PoV C m F H (g dx) Q)
noncomputable def Out.plain {α:Type}:Out α->Out α
 | .ok a=>.ok a
 | _=>.bad
theorem PoV.of {C:Ct} {own:List Nat} {m:Mo} {σ:St} {F H:Hp} {o:Out D} {ρ:Sl} {Q:VK} (a:Rep C.K own F H σ ρ) (h:Po C own m σ F H (o.plain.bind λd=>.ok (d,ρ)) Q):PoV C m F H o Q:=by
 cases o with
 | ok d=>exact λv F' H' s c mo=>h v F' H' (a.grow c s) c.ofNo mo
 | exc c=>exact h.elim
 | bad=>exact h.elim
noncomputable def d2 (g:D->D->Out D) (fa fb:qY):qY:=λρ=>(fa ρ).bind λp=>(fb p.2).bind λq=>(g p.1 q.1).plain.bind λd=>.ok (d,q.2)
noncomputable def d1 (g:D->Out D) (fa:qY):qY:=λρ=>(fa ρ).bind λp=>(g p.1).plain.bind λd=>.ok (d,p.2)
section
variable {X:Cx} {C:Ct} {own:List Nat} {a b:Expr} {fa fb:qY} {m ma mb:Mo} {pos:Pos}
theorem Vp {g:D->D->Out D} {σ:St} {H:Hp} {Q:VK} (f:ma≠.any) (h:tE C own m (d2 g fa fb) σ H Q):tE C own ma fa σ H λx H1=>tE C own mb fb σ H1 λy H2=>∃ F dx i,Same F H2/\TopIs C.K F H2 x dx/\TopIs C.K F H2 y i/\PoV C m F H2 (g dx i) Q:=by obtain ⟨F,ρ,p,h⟩:=h;refine ⟨F,ρ,p,Po.bind h λv F1 H1 d ρ1 a k c h1=>⟨F1,ρ1,a,Po.bind h1 λw j H2 e ρ2 r c2 b h2=>?_⟩⟩;exact ⟨j,d,e,r.sub,(c.grow f c2 λx z=>(p.OA_there z).1).top,b.top,PoV.of r h2⟩
theorem qcB {g:D->Out D} {σ:St} {H:Hp} {Q:VK} (h:tE C own m (d1 g fa) σ H Q):tE C own ma fa σ H λx H1=>∃ F dx,Same F H1/\TopIs C.K F H1 x dx/\PoV C m F H1 (g dx) Q:=by obtain ⟨F,ρ,r,h⟩:=h;refine ⟨F,ρ,r,Po.bind h λv F1 H1 d ρ1 a k c h1=>?_⟩;exact ⟨F1,d,a.sub,c.top,PoV.of a h1⟩
theorem jE {e:Expr} {t t':TE} (h:PE X e t) (i:∀ σ H Q,t' σ H Q->t σ H Q):PE X e t':=⟨λpins s σ H Q I w=>h pins s σ H Q I (i σ H Q w)⟩
theorem GG {e:Expr} {t t':TT} (h:PT X e t) (i:∀ σ H Q,t' σ H Q->t σ H Q):PT X e t':=⟨λpins s σ H Q I w=>h pins s σ H Q I (i σ H Q w)⟩
theorem qT {op:Operator} {g:D->D->Out D} (l:OpD X C m (k6 op) g) (c:PE X a (tE C own ma fa)) (d:PE X b (tE C own mb fb)) (f:ma≠.any:=by decide):PE X (.BinOp a op b pos) (tE C own m (d2 g fa fb)):=
 jE (qkj l c d) λ_ _ _ h=>Vp f h
theorem vC {op:CmpOp} {g:D->D->Out D} (l:OpD X C m (iS op) g) (c:PE X a (tE C own ma fa)) (d:PE X b (tE C own mb fb)) (f:ma≠.any:=by decide)
  (k:lC op b=false:=by first | exact Gq _ | with_unfolding_all rfl):PE X (.Compare a [op] [b] pos) (tE C own m (d2 g fa fb)):=
 jE (qe2 l c d k) λ_ _ _ h=>Vp f h
theorem qhF {op:UnaryOp} {g:D->Out D} (l:UnD X C m (unaryOp op) g) (b:PE X a (tE C own ma fa)):PE X (.UnaryOp op a pos) (tE C own m (d1 g fa)):=
 jE (qkk l b) λ_ _ _ h=>qcB h
end
instance:DecidableEq Mo:=λa b=>by cases a <;> cases b <;> first | exact isTrue rfl | exact isFalse (by intro h; cases h)
theorem qcC {K:Frag} {own:List Nat} {H0 F H:Hp} {σ:St} {ρ:Sl} {v:V} {d:D} (r:Rep K own F H σ ρ) (hA:∀ b,OA own σ b->H0 b≠iG) (h:MoIs K .fr H0 F H v d):∃ F',Rep K own F' H σ ρ/\Same F F'/\Is K F' v d/\∀ b,F' b≠iG->F b≠iG\/H0 b=none:=by
 obtain ⟨a,rfl,g,E,o⟩:=h;obtain ⟨u,hu⟩:∃ u,H a=iE u:=by
  cases q:H a with
  | none=>exact absurd q o.there
  | some u=>exact ⟨u,rfl⟩
 have gr:Same F (upd F a u):=λb w e=>by rw [qB (qJ e E)]; exact e
 have A:Same (upd F a u) H:=λb w e=>by
  by_cases q:b=a;·subst q; rw [qm] at e; cases e; exact hu
  ·rw [qB q] at e; exact r.sub b w e
 refine ⟨upd F a u,⟨A,r.len,λi d hi e=>?_,λi d hi e=>?_,r.opn,r.dis⟩,gr,?_,λb f=>?_⟩;·obtain ⟨v,h1,h2⟩:=r.val i d hi e;exact ⟨v,h1,h2.mono gr⟩
 ·obtain ⟨c,h1,h2,j⟩:=r.ow i d hi e;refine ⟨c,h1,?_,j.grow gr λ_ q=>q⟩;have n:c≠a:=λq=>by subst q; exact hA c ⟨i,hi,h1⟩ g
  rw [qB n]; exact h2
 ·cases d with
  | lst ds=>obtain ⟨xs,e,t⟩:=o; rw [hu] at e; cases e; exact .lst (.inl (.inl qm)) (t.mono gr)
  | dct ds=>obtain ⟨xs,e,t⟩:=o; rw [hu] at e; cases e; exact .dct qm (t.mono gr)
  | ins C fs=>obtain ⟨dx,xs,e,t⟩:=o; rw [hu] at e; cases e; exact .ins qm (t.mono gr)
  | at_ b ds=>obtain ⟨J,xs,e,t⟩:=o; rw [hu] at e; cases e; subst J; exact .at_ (.inl (.inl qm)) (t.mono gr)
  | _=>exact o.elim
 ·by_cases q:b=a;·exact .inr (by rw [q]; exact g)
  ·rw [qB q] at f; exact .inl f
theorem Po.toSh {C:Ct} {own:List Nat} {m:Mo} {σ:St} {F H:Hp} {d:Sl} {r:Vo} {Q:VK} (f:Rep C.K own F H σ d) (g:m≠.any) (h:Po C own .sh σ F H r Q):Po C own m σ F H r Q:=by
 cases r with
 | ok p=>
  intro v F' H' a c mo;cases m with
  | sh=>exact h v F' H' a c mo
  | fr=>
   obtain ⟨j,e,gr,is,n⟩:=qcC a (λb z=>(f.OA_there z).1) mo;refine h v j H' e ⟨c.keep,c.stay,c.grow.trans gr,λb i=>?_⟩ is;rcases n b i with z | z;·exact c.new b z
   ·exact .inr (.inl z)
  | any=>exact absurd rfl g
 | exc x=>exact h
 | bad=>exact h.elim
section
variable {X:Cx} {C:Ct} {own:List Nat} {a b e:Expr} {f fa fb:qY} {m ma mb:Mo} {pos:Pos}
theorem wX (h:PE X e (tE C own m f)) (c:m≠.any):PE X e (tE C own .sh f):=jE h λ_ _ _ ⟨F,ρ,a,p⟩=>⟨F,ρ,a,p.toSh a c⟩
noncomputable def qd (i:Nat):qY:=λρ=>match ρ[i]? with
 | some (iE d)=>.ok (d,ρ)
 | _=>.bad
noncomputable def dC (d:D):qY:=λρ=>.ok (d,ρ)
theorem qhG {i:Nat} {x:Str} (b:X.N[i]?=iE x) (c:Vis X.env.scope x) (l:i∉own) (hd:Dbg x:=by decide) (a:Cdk x:=by decide):PE X (.Name x pos) (tE C own .sh (qd i)):=by
 refine jE (wK b c hd a) λσ H Q ⟨F,ρ,r,h⟩=>?_;unfold qd at h;cases e:ρ[i]? with
 | none=>rw [e] at h; exact h.elim
 | some o=>
  cases o with
  | none=>rw [e] at h; exact h.elim
  | some d=>rw [e] at h;obtain ⟨v,h1,h2⟩:=r.val i d l e;exact ⟨v,h1,h v F H r .refl h2⟩
theorem qfg {i:Nat} {x:Str} (f:X.N[i]?=iE x) (c:Vis X.env.scope x) (l:i∈own) (hd:Dbg x:=by decide) (b:Cdk x:=by decide):PE X (.Name x pos) (tE C own .any (qd i)):=by
 refine jE (wK f c hd b) λσ H Q ⟨F,ρ,r,h⟩=>?_;unfold qd at h;cases e:ρ[i]? with
 | none=>rw [e] at h; exact h.elim
 | some o=>
  cases o with
  | none=>rw [e] at h; exact h.elim
  | some d=>rw [e] at h;obtain ⟨a,h1,h2,g⟩:=r.ow i d l e;exact ⟨_,h1,h _ F H r .refl (.inr ⟨a,rfl,g⟩)⟩
theorem qhH {v:V} {d:D} (h:PE X e (tC v)) (i:∀ F,Is C.K F v d):PE X e (tE C own .sh (dC d)):=jE h λσ H Q ⟨F,ρ,a,h⟩=>h v F H a .refl (i F)
theorem qp {i j pos}:PE X (.Constant (.int i) j pos) (tE C own .sh (dC (.int i))):=qhH qd2 λ_=>.int i
theorem wY {i j pos}:PE X (.Constant (.bool i) j pos) (tE C own .sh (dC (.bl i))):=qhH qj8 λ_=>.bl i
theorem QS {j pos}:PE X (.Constant .none j pos) (tE C own .sh (dC .non)):=qhH qg8 λ_=>.non
theorem wL {x j pos} (h:fY x<=sizeLine:=by decide):PE X (.Constant (.str x) j pos) (tE C own .sh (dC (.str x))):=qhH qd3 λ_=>.str h
theorem GH {x:Str} {v:V} {d:D} {u:iH} (hg:Gl X x) (c:X.mg x=iE u) (r:RelV v u) (i:∀ F,Is C.K F v d) (hd:Dbg x:=by decide):PE X (.Name x pos) (tE C own .sh (dC d)):=qhH (qeS hg c r hd) i
noncomputable def yn (g:Int->Int->Out D):D->D->Out D
 | .int i,.int j=>g i j
 | _,_=>.bad
theorem TopIs.int {K:Frag} {F H:Hp} {v:V} {i:Int} (h:TopIs K F H v (.int i)):v=.int i:=by
 rcases h with h | ⟨a,_,h⟩
 ·cases h; rfl
 ·exact h.elim
theorem TopIs.str {K:Frag} {F H:Hp} {v:V} {x:Str} (h:TopIs K F H v (.str x)):v=.str x/\x.length<=sizeLine:=by
 rcases h with h | ⟨a,_,h⟩
 ·cases h; exact ⟨rfl,by assumption⟩
 ·exact h.elim
theorem TopIs.bl {K:Frag} {F H:Hp} {v:V} {x:Bool} (h:TopIs K F H v (.bl x)):v=.bl x:=by
 rcases h with h | ⟨a,_,h⟩
 ·cases h; rfl
 ·exact h.elim
theorem TopIs.non {K:Frag} {F H:Hp} {v:V} (h:TopIs K F H v .non):v=.non:=by
 rcases h with h | ⟨a,_,h⟩
 ·cases h; rfl
 ·exact h.elim
theorem TopIs.lst {K:Frag} {F H:Hp} {v:V} {ds:List D} (s:Same F H) (h:TopIs K F H v (.lst ds)):∃ a xs,v=.ref a/\SqL K H a xs/\IsL K F xs ds:=by
 rcases h with h | ⟨a,e,h⟩
 ·cases h with
  | lst h t=>exact ⟨_,_,rfl,s.seq h,t⟩
 ·obtain ⟨xs,i,t⟩:=h;exact ⟨a,xs,e,.inl (.inl i),t⟩
theorem TopIs.tup {K:Frag} {F H:Hp} {v:V} {ds:List D} (s:Same F H) (h:TopIs K F H v (.tup ds)):∃ a xs,v=.ref a/\SqT K H a xs/\IsL K F xs ds:=by
 rcases h with h | ⟨a,e,h⟩
 ·cases h with
  | tup h t=>exact ⟨_,_,rfl,jm s h,t⟩
 ·exact h.elim
theorem TopIs.dct {K:Frag} {F H:Hp} {v:V} {ds:List (Key×D)} (s:Same F H) (h:TopIs K F H v (.dct ds)):∃ a kv,v=.ref a/\H a=iE (.dK kv)/\IsK K F kv ds:=by
 rcases h with h | ⟨a,e,h⟩
 ·cases h with
  | dct h t=>exact ⟨_,_,rfl,s _ _ h,t⟩
 ·obtain ⟨xs,i,t⟩:=h;exact ⟨a,xs,e,i,t⟩
theorem Ys {fn:iH->iH->Sem iH} {P:Int->Int->Prop} [∀ i j,Decidable (P i j)] {g:Int->Int->V} {d:Int->Int->D} (l:OpR X fn (rI P g)) (hg:∀ F i j,Is C.K F (g i j) (d i j)):OpD X C .sh fn (yn λi j=>if P i j then .ok (d i j) else .bad):=by
 intro pins s σ H x y v u Q I r c h;obtain ⟨F,dx,a,A,tx,ty,po⟩:=h;cases dx <;> try exact po.elim
 cases a <;> try exact po.elim
 rename_i i j;have po:PoV C .sh F H (if P i j then .ok (d i j) else .bad) Q:=po;obtain rfl:=tx.int;obtain rfl:=ty.int;by_cases q:P i j;·rw [Aa q] at po;exact l pins s σ H _ _ v u Q I r c ⟨i,j,rfl,rfl,q,po (g i j) F H A .refl (hg F i j)⟩
 ·rw [Ab q] at po; exact po.elim
theorem WV {fn:iH->iH->Sem iH} {g:Int->Int->V} {d:Int->Int->D} (l:OpR X fn (rI0 g)) (hg:∀ F i j,Is C.K F (g i j) (d i j)):OpD X C .sh fn (yn λi j=>.ok (d i j)):=by
 intro pins s σ H x y v u Q I r c h;obtain ⟨F,dx,a,A,tx,ty,po⟩:=h;cases dx <;> try exact po.elim
 cases a <;> try exact po.elim
 rename_i i j;obtain rfl:=tx.int;obtain rfl:=ty.int;exact l pins s σ H _ _ v u Q I r c ⟨i,j,rfl,rfl,po (g i j) F H A .refl (hg F i j)⟩
noncomputable def qce:D->D->Out D:=yn λi j=>.ok (.int (i - j))
theorem QT:OpD X C .sh (k6 .Sub) qce:=WV qhl λ_ _ _=>.int _
instance:∀ i j,Decidable (CMul i j):=λi j=>inferInstanceAs (Decidable (_\/_))
instance:∀ i j,Decidable (qgV i j):=λi j=>inferInstanceAs (Decidable (_/\_))
noncomputable def Gd:D->D->Out D:=yn λi j=>if CMul i j then .ok (.int (i * j)) else .bad
theorem Vq:OpD X C .sh (k6 .Mult) Gd:=Ys qhm λ_ _ _=>.int _
noncomputable def yG:D->D->Out D:=yn λi j=>if 0 < j then .ok (.int (i % j)) else .bad
theorem vb:OpD X C .sh (k6 .Mod) yG:=Ys qhn λ_ _ _=>.int _
noncomputable def JJ:D->D->Out D:=yn λi j=>if qgV i j then .ok (.int (i / j)) else .bad
theorem JK:OpD X C .sh (k6 .FloorDiv) JJ:=Ys qe0 λ_ _ _=>.int _
noncomputable def wZ (x y:Str):Bool:=decide (x.cps.toList < y.cps.toList)
noncomputable def ltD:D->D->Out D
 | .int i,.int j=>.ok (.bl (decide (i < j)))
 | .str x,.str y=>.ok (.bl (wZ x y))
 | _,_=>.bad
theorem qfh:OpD X C .sh (iS .Lt) ltD:=by
 intro pins s σ H x y v u Q I d c h;obtain ⟨F,dx,a,A,tx,ty,po⟩:=h;cases dx <;> try exact po.elim
 ·cases a <;> try exact po.elim
  obtain rfl:=tx.int;obtain rfl:=ty.int;exact qkl pins s σ H _ _ v u Q I d c ⟨_,_,rfl,rfl,po _ F H A .refl (.bl _)⟩
 ·cases a <;> try exact po.elim
  obtain ⟨rfl,_⟩:=tx.str;obtain ⟨rfl,_⟩:=ty.str;exact Gp pins s σ H _ _ v u Q I d c ⟨_,_,rfl,rfl,po _ F H A .refl (.bl _)⟩
end
noncomputable def eqS (a b:D):Option Bool:=match a with
 | .non=>match b with
  | .non=>iE iJ
  | .bl _=>iE iI
  | .int _=>iE iI
  | .str _=>iE iI
  | .tup _=>iE iI
  | .lst _=>iE iI
  | .dct _ | .raw _ | .xcp _ | .ins _ _ | .at_ _ _=>iG
 | .bl x=>match b with
  | .non=>iE iI
  | .bl y=>iE (x == y)
  | .int y=>iE ((if x then 1 else 0) == y)
  | .str _=>iE iI
  | .tup _=>iE iI
  | .lst _=>iE iI
  | .dct _ | .raw _ | .xcp _ | .ins _ _ | .at_ _ _=>iG
 | .int x=>match b with
  | .non=>iE iI
  | .bl y=>iE (x == (if y then 1 else 0))
  | .int y=>iE (x == y)
  | .str _=>iE iI
  | .tup _=>iE iI
  | .lst _=>iE iI
  | .dct _ | .raw _ | .xcp _ | .ins _ _ | .at_ _ _=>iG
 | .str x=>match b with
  | .non=>iE iI
  | .bl _=>iE iI
  | .int _=>iE iI
  | .str y=>iE (x == y)
  | .tup _=>iE iI
  | .lst _=>iE iI
  | .dct _ | .raw _ | .xcp _ | .ins _ _ | .at_ _ _=>iG
 | .tup x=>match b with
  | .non=>iE iI
  | .bl _=>iE iI
  | .int _=>iE iI
  | .str _=>iE iI
  | .tup _=>iG
  | .lst _=>iE iI
  | .dct _ | .raw _ | .xcp _ | .ins _ _ | .at_ _ _=>iG
 | .lst x=>match b with
  | .non=>iE iI
  | .bl _=>iE iI
  | .int _=>iE iI
  | .str _=>iE iI
  | .tup _=>iE iI
  | .lst _=>iG
  | .dct _ | .raw _ | .xcp _ | .ins _ _ | .at_ _ _=>iG
 | .dct _ | .raw _ | .xcp _ | .ins _ _ | .at_ _ _=>iG
noncomputable def wS (f:D->D->Option Bool):List D->List D->Option Bool
 | x::xs,y::ys=>(f x y).bind λa=>(wS f xs ys).bind λb=>iE (a&&b)
 | _,_=>iE iJ
noncomputable def eqN:Nat->D->D->Option Bool
 | n+1,.tup xs,.tup ys=>(wS (eqN n) xs ys).map λb=>b&&xs.length == ys.length
 | n+1,.lst xs,.lst ys=>if xs.length=ys.length then wS (eqN n) xs ys else iE iI
 | _,a,b=>eqS a b
theorem Yt {n:Nat} {a b:D} (h1:∀ xs ys,a=.tup xs->b≠.tup ys) (h2:∀ xs ys,a=.lst xs->b≠.lst ys):eqN n a b=eqS a b:=by
 cases n with
 | zero=>rfl
 | succ n=>
  cases a with
  | tup xs=>cases b with
   | tup ys=>exact absurd rfl (h1 xs ys rfl)
   | _=>rfl
  | lst xs=>cases b with
   | lst ys=>exact absurd rfl (h2 xs ys rfl)
   | _=>rfl
  | _=>rfl
noncomputable def itE (f:D->D->Option Bool) (xs ys:List D) (j:Nat):Bool:=((xs[j]?).bind λx=>(ys[j]?).bind λy=>f x y).getD iI
theorem vS {f:D->D->Option Bool}:∀ {xs ys:List D} {b:Bool},wS f xs ys=iE b->b=(aE (min xs.length ys.length)).all (itE f xs ys)
 | [],ys,b,h=>by simp [wS] at h ⊢; exact h
 | x::xs,[],b,h=>by simp [wS] at h ⊢; exact h
 | x::xs,y::ys,b,h=>by
  unfold wS at h;cases e:f x y with
  | none=>rw [e] at h; simp at h
  | some a=>
   cases i:wS f xs ys with
   | none=>rw [e,i] at h; simp at h
   | some c=>
    rw [e,i] at h;have h:(a&&c)=b:=by simpa using h
    have d:=vS i;have m:min (x::xs).length (y::ys).length=min xs.length ys.length+1:=by simp only [aq]; lia
    rw [m,List.range_succ_eq_map,fQ,List.all_map];have e0:itE f (x::xs) (y::ys) 0=a:=by simp [itE,e]
    have e1:(itE f (x::xs) (y::ys)) ∘ h8=itE f xs ys:=by funext j;simp [itE]
    rw [e0,e1,<-d];exact h.symm
theorem GI {f:D->D->Option Bool}:∀ {xs ys:List D} {b:Bool},wS f xs ys=iE b->∀ (j:Nat) (x y:D),xs[j]?=iE x->ys[j]?=iE y->f x y=iE (itE f xs ys j)
 | [],ys,b,_,j,x,y,hx,_=>by simp at hx
 | x::xs,[],b,_,j,_,y,_,hy=>by simp at hy
 | x::xs,y::ys,b,h,0,x',y',hx,hy=>by
  simp at hx hy;subst hx hy;unfold wS at h;cases e:f x y with
  | none=>rw [e] at h; simp at h
  | some a=>simp [itE,e]
 | x::xs,y::ys,b,h,j+1,x',y',hx,hy=>by
  unfold wS at h;cases e:f x y with
  | none=>rw [e] at h; simp at h
  | some a=>
   cases i:wS f xs ys with
   | none=>rw [e,i] at h; simp at h
   | some c=>have q:=GI i j x' y' (by simpa using hx) (by simpa using hy);rw [q];simp [itE]
section
variable {X:Cx} {pins:Pns} {σ:St} {F H:Hp} {s:iK}
noncomputable def smp:D->Bool
 | .non | .bl _ | .int _ | .str _ | .tup _ | .lst _=>iJ
 | .dct _ | .raw _ | .xcp _ | .ins _ _ | .at_ _ _=>iI
theorem GJ {n:Nat} {d e:D} {b:Bool} (h:eqN n d e=iE b):smp d=true:=by cases d <;> first | rfl | (cases n <;> exact nomatch (show iG=iE b from h))
theorem qkz {n:Nat} {d e:D} {b:Bool} (h:eqN n d e=iE b):smp e=true:=by cases e <;> first | rfl | (cases n <;> cases d <;> exact nomatch (show iG=iE b from h))
theorem GK (I:Inv X pins σ H s) (A:Same F H) {a:Addr} {xs ys:List V} (p:SqT X.K F a xs) (q:SqL X.K F a ys):False:=by obtain ⟨_,_,b,_⟩:=I.list (A.seq q);obtain ⟨_,_,d,_⟩:=I.tuple (jm A p);exact absurd rfl (PySem.SeqAt.ne_of_list_tuple b.isList d)
theorem gk {f:D->D->Option Bool} {x y:D} {xs ys:List D} {b:Bool} (h:wS f (x::xs) (y::ys)=iE b):∃ a c,f x y=iE a/\wS f xs ys=iE c/\b=(a&&c):=by
 unfold wS at h;cases e:f x y with
 | none=>rw [e] at h; cases h
 | some a=>
  cases i:wS f xs ys with
  | none=>rw [e,i] at h; cases h
  | some c=>rw [e,i] at h; exact ⟨a,c,rfl,rfl,(aK.inj h).symm⟩
theorem gl {n:Nat} {xs ys:List D} {b:Bool} (h:eqN (n+1) (.tup xs) (.tup ys)=iE b):∃ c,wS (eqN n) xs ys=iE c/\b=(c&&xs.length == ys.length):=by
 have h:((wS (eqN n) xs ys).map λb=>b&&xs.length == ys.length)=iE b:=h;cases e:wS (eqN n) xs ys with
 | none=>rw [e] at h; cases h
 | some c=>rw [e] at h; exact ⟨c,rfl,(aK.inj h).symm⟩
theorem GL (I:Inv X pins σ H s) (A:Same F H):∀ (n:Nat) {v:V} {d e:D} {b:Bool},Is X.K F v d->Is X.K F v e->eqN n d e=iE b->b=true:=by
 have base:∀ {n:Nat} {v:V} {d e:D} {b:Bool},Is X.K F v d->Is X.K F v e->eqN n d e=iE b->(∀ a xs ds es,Is X.K F (.ref a) (.tup ds)->SqT X.K F a xs->IsL X.K F xs ds->IsL X.K F xs es->eqN n (.tup ds) (.tup es)=iE b->b=iJ)->(∀ a xs ds es,SqL X.K F a xs->IsL X.K F xs ds->IsL X.K F xs es->eqN n (.lst ds) (.lst es)=iE b->b=iJ)->b=true:=by
  intro n v d e b h1 h2 h ht hl;have s1:=GJ h;have s2:=qkz h;cases h1 with
  | non=>cases h2 with
   | non=>cases n <;> exact (aK.inj h).symm
   | raw=>cases s2
  | bl x=>cases h2 with
   | bl=>cases n <;> exact (aK.inj h).symm.trans (beq_self_eq_true x)
   | raw=>cases s2
  | int x=>cases h2 with
   | int=>cases n <;> exact (aK.inj h).symm.trans (beq_self_eq_true x)
   | raw=>cases s2
  | str _=>cases h2 with
   | str _=>cases n <;> exact (aK.inj h).symm.trans (beq_self_eq_true _)
   | raw=>cases s2
  | tup p1 t1=>cases h2 with
   | tup p2 t2=>have q:=I.tuple_inj (jm A p1) (jm A p2);subst q;exact ht _ _ _ _ (.tup p1 t1) p1 t1 t2 h
   | lst p2 t2=>exact (GK I A p1 p2).elim
   | _=>cases s2
  | lst p1 t1=>cases h2 with
   | lst p2 t2=>have q:=I.list_inj (A.seq p1) (A.seq p2);subst q;exact hl _ _ _ _ p1 t1 t2 h
   | tup p2 t2=>exact (GK I A p2 p1).elim
   | _=>cases s2
  | _=>cases s1
 intro n
 induction n with
 | zero=>exact λ{_ _ _ _} h1 h2 h=>base h1 h2 h (λ_ _ _ _ _ _ _ _ h=>nomatch (show iG=iE _ from h)) λ_ _ _ _ _ _ _ h=>nomatch (show iG=iE _ from h)
 | succ n j=>
  have l:∀ {xs:List V} {ds es:List D} {b:Bool},IsL X.K F xs ds->IsL X.K F xs es->wS (eqN n) ds es=iE b->b=true:=by
   intro xs
   induction xs with
   | nil=>intro ds es b h1 h2 h; cases h1; cases h2; exact (aK.inj h).symm
   | cons x xs i=>
    intro ds es b h1 h2 h;cases h1 with
    | cons k t1=>
     cases h2 with
     | cons g t2=>obtain ⟨a,c,q,f,rfl⟩:=gk h;rw [j k g q,i t1 t2 f];rfl
  intro v d e b h1 h2 h;refine base h1 h2 h (λa xs ds es _ _ t1 t2 h=>?_) λa xs ds es _ t1 t2 h=>?_;·obtain ⟨c,q,rfl⟩:=gl h;rw [l t1 t2 q,t1.length.symm.trans t2.length,beq_self_eq_true];rfl
  ·have h:(if ds.length=es.length then wS (eqN n) ds es else iE iI)=iE _:=h;rw [Aa (t1.length.symm.trans t2.length)] at h;exact l t1 t2 h
end
open PySem.SeqAt
section
variable {X:Cx} {pins:Pns} {σ:St} {F H:Hp} {s:iK}
theorem Vals.getE {xs:List V} {us:List iH} (r:Vals xs us) {j:Nat} (h:j < us.length):∃ x,xs[j]?=iE x/\RelV x us[j]:=by
 have hl:=r.length;have G:j < xs.length:=by lia
 obtain ⟨u,e1,e⟩:=Vals.get (i:=j) (x:=xs[j]) r (by simp [G]);refine ⟨xs[j],by simp [G],?_⟩;rw [aw h] at e1;cases e1;exact e
theorem uQ {A:iX} {n:Nat} {xs ys:List V} {ds es:List D} {us ws:List iH} {b:Bool} (g:∀ {v w:V} {d e:D} {u t:iH} {b:Bool},Is X.K F v d->Is X.K F w e->RelV v u->RelV w t->eqN n d e=iE b->EqAt A s u t b)
  (r1:Vals xs us) (r2:Vals ys ws) (i1:IsL X.K F xs ds) (i2:IsL X.K F ys es) (h:wS (eqN n) ds es=iE b) :
  ∀ j (h1:j < us.toArray.size) (h2:j < ws.toArray.size),EqAt A s us.toArray[j] ws.toArray[j] (itE (eqN n) ds es j):=by
 intro j h1 h2;have c:j < us.length:=by simpa using h1
 have a:j < ws.length:=by simpa using h2
 obtain ⟨x,ex,f⟩:=Vals.getE r1 c;obtain ⟨y,l,r⟩:=Vals.getE r2 a;obtain ⟨d,o,i⟩:=i1.get ex;obtain ⟨e,m,k⟩:=i2.get l;have q:=GI h j d e o m;simpa using g i k f r q
theorem Yu {A:iX} {n:Nat} {a c:Addr} {xs ys:List V} {ds es:List D} {b:Bool} (I:Inv X pins σ H s) (j:∀ {v w:V} {d e:D} {u t:iH} {b:Bool},Is X.K F v d->Is X.K F w e->RelV v u->RelV w t->eqN n d e=iE b->EqAt A.in1 s u t b)
  (p1:SqT X.K H a xs) (p2:SqT X.K H c ys) (i1:IsL X.K F xs ds) (i2:IsL X.K F ys es) (h:eqN (n+1) (.tup ds) (.tup es)=iE b) (g:A.units < k7):RcAt A s (.ref a) (.ref c) b:=by
 obtain ⟨us,r1,t1,_⟩:=I.tuple p1;obtain ⟨ws,r2,t2,_⟩:=I.tuple p2;simp only [eqN] at h;cases q:wS (eqN n) ds es with
 | none=>rw [q] at h; simp at h
 | some k=>
  rw [q] at h;have f:us.toArray.size=ds.length:=by rw [ax,<-r1.length,i1.length]
  have l:ws.toArray.size=es.length:=by rw [ax,<-r2.length,i2.length]
  have z:=RcAt.tuples (A:=A) t1 t2 g (uQ (A:=A.in1) j r1 r2 i1 i2 q);rw [f,l,<-vS q] at z;have e:b=(k&&ds.length == es.length):=by simpa using h.symm
  rw [e]; exact z
theorem Yv {A:iX} {n:Nat} {a c:Addr} {xs ys:List V} {ds es:List D} {b:Bool} (I:Inv X pins σ H s) (j:∀ {v w:V} {d e:D} {u t:iH} {b:Bool},Is X.K F v d->Is X.K F w e->RelV v u->RelV w t->eqN n d e=iE b->EqAt A.in1 s u t b)
  (p1:SqL X.K H a xs) (p2:SqL X.K H c ys) (i1:IsL X.K F xs ds) (i2:IsL X.K F ys es) (h:eqN (n+1) (.lst ds) (.lst es)=iE b) (g:A.units < k7):RcAt A s (.ref a) (.ref c) b:=by
 obtain ⟨us,r1,t1,_⟩:=I.list p1;obtain ⟨ws,r2,t2,_⟩:=I.list p2;have f:us.toArray.size=ds.length:=by rw [ax,<-r1.length,i1.length]
 have l:ws.toArray.size=es.length:=by rw [ax,<-r2.length,i2.length]
 simp only [eqN] at h;by_cases hl:ds.length=es.length;·rw [Aa hl] at h;have z:=RcAt.lists (A:=A) t1.isList t2.isList (by lia) g (uQ (A:=A.in1) j r1 r2 i1 i2 h);have e:=vS h;rw [f] at z;rw [e,show min ds.length es.length=ds.length by lia];exact z
 ·rw [Ab hl] at h;cases h;exact RcAt.lists_lengths t1.isList t2.isList (bne_iff_ne.mpr (by rw [f,l]; exact hl)) g
def Kd (s:iK):D->iH->Prop
 | .non,u=>u=.none
 | .bl b,u=>u=.bool b
 | .int i,u=>∃ t,u=.int i t
 | .str x,u=>∃ t,u=.str x t
 | .tup _,u=>∃ a its,u=.ref a/\s.heap.IsTuple a its
 | .lst _,u=>∃ a its,u=.ref a/\s.heap.IsList a its
 | _,_=>True
theorem Zd (I:Inv X pins σ H s) (A:Same F H) {v:V} {d:D} {u:iH} (t:TopIs X.K F H v d) (r:RelV v u):Kd s d u:=by
 cases d with
 | non=>obtain rfl:=t.non; exact r
 | bl=>obtain rfl:=t.bl; exact r
 | int=>obtain rfl:=t.int; exact r
 | str=>obtain ⟨rfl,_⟩:=t.str; exact r
 | tup=>obtain ⟨a,_,rfl,p,_⟩:=t.tup A; obtain ⟨_,_,q,_⟩:=I.tuple p; exact ⟨a,_,r,q⟩
 | lst=>obtain ⟨a,_,rfl,p,_⟩:=t.lst A; obtain ⟨_,_,q,_⟩:=I.list p; exact ⟨a,_,r,q.isList⟩
 | _=>trivial
theorem qhI {A:iX} {d e:D} {u t:iH} {b:Bool} (f:A.units < k7) (k1:Kd s d u) (k2:Kd s e t) (h:eqS d e=iE b):EqAt A s u t b:=by
 cases d <;> cases e <;> try (cases h; done)
 all_goals
  cases h;first | obtain ⟨_,_,rfl,a⟩:=k1 | obtain ⟨_,rfl⟩:=k1 | cases k1
  first | obtain ⟨_,_,rfl,q⟩:=k2 | obtain ⟨_,rfl⟩:=k2 | cases k2
  with_reducible first | exact EqAt.same _ | exact EqAt.none_bool _ | exact EqAt.none_int _ _ | exact EqAt.none_str _ _ | exact EqAt.bool_none _ | exact EqAt.bool_bool _ _ | exact EqAt.bool_int _ _ _ | exact EqAt.bool_str _ _ _ | exact EqAt.int_none _ _ | exact EqAt.int_bool _ _ _ | exact EqAt.int_int _ _ _ _ | exact EqAt.int_str _ _ _ _ | exact EqAt.str_none _ _ | exact EqAt.str_bool _ _ _ | exact EqAt.str_int _ _ _ _ | exact EqAt.str_str _ _ _ _ | exact EqAt.none_tuple q f | exact EqAt.tuple_none a f | exact EqAt.none_list q f | exact EqAt.list_none a f | exact EqAt.bool_tuple _ q f | exact EqAt.tuple_bool _ a f | exact EqAt.bool_list _ q f | exact EqAt.list_bool _ a f | exact EqAt.int_tuple _ _ q f | exact EqAt.tuple_int _ _ a f | exact EqAt.int_list _ _ q f | exact EqAt.list_int _ _ a f | exact EqAt.str_tuple _ _ q f | exact EqAt.tuple_str _ _ a f | exact EqAt.str_list _ _ q f | exact EqAt.list_str _ _ a f | exact EqAt.tuple_list a q f | exact EqAt.list_tuple a q f
theorem GM (I:Inv X pins σ H s) (f:Same F H):∀ (n:Nat) {A:iX} {v w:V} {d e:D} {u t:iH} {b:Bool},A.units+n < k7->Is X.K F v d->Is X.K F w e->RelV v u->RelV w t->eqN n d e=iE b->EqAt A s u t b:=by
 intro n
 induction n with
 | zero=>exact λp h1 h2 x r h=>qhI (by lia) (Zd I f (.inl h1) x) (Zd I f (.inl h2) r) h
 | succ n m=>
  intro A v w d e u t b p h1 h2 x r h;have l:A.in1.units+n < k7:=by show A.units+1+n < k7; lia
  by_cases both:(∃ xs ys,d=.tup xs/\e=.tup ys)\/(∃ xs ys,d=.lst xs/\e=.lst ys)
  ·rcases both with ⟨ds,es,rfl,rfl⟩ | ⟨ds,es,rfl,rfl⟩
   ·have j:=h1;have i:=h2;cases h1 with
    | tup p1 t1=>
     cases h2 with
     | tup p2 t2=>
      rename_i a xs c ys;cases x;cases r;by_cases ne:a=c;·subst ne;rw [GL I f (n+1) j i h];exact EqAt.same _
      ·exact EqAt.of_refs ne (Yu I (λk g o a4 a5=>m l k g o a4 a5) (jm f p1) (jm f p2) t1 t2 h (by lia))
   ·have j:=h1;have i:=h2;cases h1 with
    | lst p1 t1=>
     cases h2 with
     | lst p2 t2=>
      rename_i a xs c ys;cases x;cases r;by_cases ne:a=c;·subst ne;rw [GL I f (n+1) j i h];exact EqAt.same _
      ·exact EqAt.of_refs ne (Yv I (λk g o a4 a5=>m l k g o a4 a5) (f.seq p1) (f.seq p2) t1 t2 h (by lia))
  ·have e1:eqN (n+1) d e=eqS d e:=Yt (λxs ys k g=>both (.inl ⟨xs,ys,k,g⟩)) (λxs ys k g=>both (.inr ⟨xs,ys,k,g⟩));have q:eqN n d e=eqS d e:=Yt (λxs ys k g=>both (.inl ⟨xs,ys,k,g⟩)) (λxs ys k g=>both (.inr ⟨xs,ys,k,g⟩));exact m (by lia) h1 h2 x r (by rw [q,<-e1]; exact h)
end
end L2.D2
namespace L2.D2
open PySem PySem.Spec PyProof.Rows
open PySem.SeqAt
variable {X:Cx} {A:iX} {n:Nat} {b:Bool}
section
variable {pins:Pns} {σ:St} {F H:Hp} {s:iK}
theorem qcD {a c:Addr} {xs ys:List V} {ds es:List D} (I:Inv X pins σ H s) (j:∀ {v w:V} {d e:D} {u t:iH} {b:Bool},Is X.K F v d->Is X.K F w e->RelV v u->RelV w t->eqN n d e=iE b->EqAt A.in1 s u t b)
  (p1:SqT X.K H a xs) (p2:SqT X.K H c ys) (i1:IsL X.K F xs ds) (i2:IsL X.K F ys es) (h:eqN (n+1) (.tup ds) (.tup es)=iE b) (g:A.units < k7):RcNeAt A s (.ref a) (.ref c) (!b):=by
 obtain ⟨us,r1,t1,_⟩:=I.tuple p1;obtain ⟨ws,r2,t2,_⟩:=I.tuple p2;simp only [eqN] at h;cases q:wS (eqN n) ds es with
 | none=>rw [q] at h; simp at h
 | some k=>
  rw [q] at h;have f:us.toArray.size=ds.length:=by rw [ax,<-r1.length,i1.length]
  have l:ws.toArray.size=es.length:=by rw [ax,<-r2.length,i2.length]
  have z:=RcNeAt.tuples (A:=A) t1 t2 g (uQ (A:=A.in1) j r1 r2 i1 i2 q);rw [f,l,<-vS q] at z;have e:b=(k&&ds.length == es.length):=by simpa using h.symm
  rw [e]; exact z
theorem qcE {a c:Addr} {xs ys:List V} {ds es:List D} (I:Inv X pins σ H s) (j:∀ {v w:V} {d e:D} {u t:iH} {b:Bool},Is X.K F v d->Is X.K F w e->RelV v u->RelV w t->eqN n d e=iE b->EqAt A.in1 s u t b)
  (p1:SqL X.K H a xs) (p2:SqL X.K H c ys) (i1:IsL X.K F xs ds) (i2:IsL X.K F ys es) (h:eqN (n+1) (.lst ds) (.lst es)=iE b) (g:A.units < k7):RcNeAt A s (.ref a) (.ref c) (!b):=by
 obtain ⟨us,r1,t1,_⟩:=I.list p1;obtain ⟨ws,r2,t2,_⟩:=I.list p2;have f:us.toArray.size=ds.length:=by rw [ax,<-r1.length,i1.length]
 have l:ws.toArray.size=es.length:=by rw [ax,<-r2.length,i2.length]
 simp only [eqN] at h;by_cases hl:ds.length=es.length;·rw [Aa hl] at h;have z:=RcNeAt.lists (A:=A) t1.isList t2.isList (by lia) g (uQ (A:=A.in1) j r1 r2 i1 i2 h);have e:=vS h;rw [f] at z;rw [e,show min ds.length es.length=ds.length by lia];exact z
 ·rw [Ab hl] at h;cases h;exact RcNeAt.lists_lengths t1.isList t2.isList (bne_iff_ne.mpr (by rw [f,l]; exact hl)) g
theorem qhJ (I:Inv X pins σ H s) (i:Same F H) {v w:V} {d e:D} {u t:iH} (k:A.units+n+1 < k7) (t1:TopIs X.K F H v d) (t2:TopIs X.K F H w e) (x:RelV v u) (r:RelV w t) (h:eqN (n+1) d e=iE b):RcAt A s u t b:=by
 have f:A.units < k7:=by lia
 have j:∀ {v w:V} {d e:D} {u t:iH} {b:Bool},Is X.K F v d->Is X.K F w e->RelV v u->RelV w t->eqN n d e=iE b->EqAt A.in1 s u t b:=λm l o a4 a5=>GM I i n (by show A.units+1+n < k7; lia) m l o a4 a5;have k1:=Zd I i t1 x;have k2:=Zd I i t2 r;cases d <;> cases e <;> try (cases h; done)
 case tup.tup=>
  obtain ⟨a,xs,rfl,p1,i1⟩:=t1.tup i; obtain ⟨c,ys,rfl,p2,i2⟩:=t2.tup i; cases x; cases r;exact Yu I j p1 p2 i1 i2 h f
 case lst.lst=>
  obtain ⟨a,xs,rfl,p1,i1⟩:=t1.lst i; obtain ⟨c,ys,rfl,p2,i2⟩:=t2.lst i; cases x; cases r;exact Yv I j p1 p2 i1 i2 h f
 all_goals
  cases h;clear x r t1 t2;first | obtain ⟨_,_,rfl,g⟩:=k1 | obtain ⟨_,rfl⟩:=k1 | cases k1
  first | obtain ⟨_,_,rfl,q⟩:=k2 | obtain ⟨_,rfl⟩:=k2 | cases k2
  with_reducible first | exact RcAt.none_none | exact RcAt.none_bool _ | exact RcAt.none_int _ _ | exact RcAt.none_str _ _ | exact RcAt.bool_none _ | exact RcAt.bool_bool _ _ | exact RcAt.bool_int _ _ _ | exact RcAt.bool_str _ _ _ | exact RcAt.int_none _ _ | exact RcAt.int_bool _ _ _ | exact RcAt.int_int _ _ _ _ | exact RcAt.int_str _ _ _ _ | exact RcAt.str_none _ _ | exact RcAt.str_bool _ _ _ | exact RcAt.str_int _ _ _ _ | exact RcAt.str_str _ _ _ _ | exact RcAt.none_tuple q f | exact RcAt.tuple_none g f | exact RcAt.none_list q f | exact RcAt.list_none g f | exact RcAt.bool_tuple _ q f | exact RcAt.tuple_bool _ g f | exact RcAt.bool_list _ q f | exact RcAt.list_bool _ g f | exact RcAt.int_tuple _ _ q f | exact RcAt.tuple_int _ _ g f | exact RcAt.int_list _ _ q f | exact RcAt.list_int _ _ g f | exact RcAt.str_tuple _ _ q f | exact RcAt.tuple_str _ _ g f | exact RcAt.str_list _ _ q f | exact RcAt.list_str _ _ g f | exact RcAt.tuple_list g q f | exact RcAt.list_tuple g q f
theorem qhK (I:Inv X pins σ H s) (i:Same F H) {v w:V} {d e:D} {u t:iH} (k:A.units+n+1 < k7) (t1:TopIs X.K F H v d) (t2:TopIs X.K F H w e) (x:RelV v u) (r:RelV w t) (h:eqN (n+1) d e=iE b):RcNeAt A s u t (!b):=by
 have f:A.units < k7:=by lia
 have j:∀ {v w:V} {d e:D} {u t:iH} {b:Bool},Is X.K F v d->Is X.K F w e->RelV v u->RelV w t->eqN n d e=iE b->EqAt A.in1 s u t b:=λm l o a4 a5=>GM I i n (by show A.units+1+n < k7; lia) m l o a4 a5;have k1:=Zd I i t1 x;have k2:=Zd I i t2 r;cases d <;> cases e <;> try (cases h; done)
 case tup.tup=>
  obtain ⟨a,xs,rfl,p1,i1⟩:=t1.tup i; obtain ⟨c,ys,rfl,p2,i2⟩:=t2.tup i; cases x; cases r;exact qcD I j p1 p2 i1 i2 h f
 case lst.lst=>
  obtain ⟨a,xs,rfl,p1,i1⟩:=t1.lst i; obtain ⟨c,ys,rfl,p2,i2⟩:=t2.lst i; cases x; cases r;exact qcE I j p1 p2 i1 i2 h f
 all_goals
  cases h;clear x r t1 t2;first | obtain ⟨_,_,rfl,g⟩:=k1 | obtain ⟨_,rfl⟩:=k1 | cases k1
  first | obtain ⟨_,_,rfl,q⟩:=k2 | obtain ⟨_,rfl⟩:=k2 | cases k2
  try simp only [Bool.not_true,Bool.not_false]
  with_reducible first | exact RcNeAt.none_none | exact RcNeAt.none_bool _ | exact RcNeAt.none_int _ _ | exact RcNeAt.none_str _ _ | exact RcNeAt.bool_none _ | exact RcNeAt.bool_bool _ _ | exact RcNeAt.bool_int _ _ _ | exact RcNeAt.bool_str _ _ _ | exact RcNeAt.int_none _ _ | exact RcNeAt.int_bool _ _ _ | exact RcNeAt.int_int _ _ _ _ | exact RcNeAt.int_str _ _ _ _ | exact RcNeAt.str_none _ _ | exact RcNeAt.str_bool _ _ _ | exact RcNeAt.str_int _ _ _ _ | exact RcNeAt.str_str _ _ _ _ | exact RcNeAt.none_tuple q f | exact RcNeAt.tuple_none g f | exact RcNeAt.none_list q f | exact RcNeAt.list_none g f | exact RcNeAt.bool_tuple _ q f | exact RcNeAt.tuple_bool _ g f | exact RcNeAt.bool_list _ q f | exact RcNeAt.list_bool _ g f | exact RcNeAt.int_tuple _ _ q f | exact RcNeAt.tuple_int _ _ g f | exact RcNeAt.int_list _ _ q f | exact RcNeAt.list_int _ _ g f | exact RcNeAt.str_tuple _ _ q f | exact RcNeAt.tuple_str _ _ g f | exact RcNeAt.str_list _ _ q f | exact RcNeAt.list_str _ _ g f | exact RcNeAt.tuple_list g q f | exact RcNeAt.list_tuple g q f | with_unfolding_all first | exact RcNeAt.bool_bool _ _ | exact RcNeAt.bool_int _ _ _ | exact RcNeAt.int_bool _ _ _ | exact RcNeAt.int_int _ _ _ _ | exact RcNeAt.str_str _ _ _ _
end
noncomputable def eqD (a b:D):Out D:=match eqN 8 a b with
 | some c=>.ok (.bl c)
 | none=>.bad
noncomputable def neD (a b:D):Out D:=match eqN 8 a b with
 | some c=>.ok (.bl (!c))
 | none=>.bad
section
variable {C:Ct}
theorem vA (a:C.K=X.K) (g:X.A.units+64 < k7):OpD X C .sh (iS .Eq) eqD:=by
 intro pins s σ H x y v u Q I d r h;obtain ⟨F,dx,f,b,tx,ty,po⟩:=h;rw [a] at tx ty;unfold eqD at po;cases e:eqN 8 dx f with
 | none=>rw [e] at po; exact po.elim
 | some c=>rw [e] at po;exact qhJ I b (n:=7) (by lia) tx ty d r e _ _ _ _ ⟨.bl c,H,I,rfl,po _ F H b .refl (.bl _)⟩
theorem QC (a:C.K=X.K) (g:X.A.units+64 < k7):OpD X C .sh (iS .NotEq) neD:=by
 intro pins s σ H x y v u Q I d r h;obtain ⟨F,dx,f,b,tx,ty,po⟩:=h;rw [a] at tx ty;unfold neD at po;cases e:eqN 8 dx f with
 | none=>rw [e] at po; exact po.elim
 | some c=>rw [e] at po;exact qhK I b (n:=7) (by lia) tx ty d r e _ _ _ _ ⟨.bl _,H,I,rfl,po _ F H b .refl (.bl _)⟩
end
end L2.D2
namespace L2.D2
open PySem PySem.Spec PyProof.Rows
open PySem.SeqAt
variable {X:Cx} {pins:Pns} {σ:St} {F H:Hp} {s:iK} {n:Nat} {v:V} {d e:D} {b:Bool}
section
theorem qfi (I:Inv X pins σ H s) (A:Same F H):∀ (n:Nat) {v:V} {d d' e:D} {b g:Bool},Is X.K F v d->Is X.K F v d'->eqN n d e=iE b->eqN n d' e=iE g->b=g:=by
 intro n
 induction n with
 | zero=>
  intro v d d' e b g h1 h2 e1 i;have s1:=GJ e1;have s2:=GJ i;cases h1 <;> cases h2 <;> first
   | exact aK.inj (e1.symm.trans i)
   | (cases s1; done)
   | (cases s2; done)
   | exact (GK I A (by assumption) (by assumption)).elim
   | exact aK.inj (e1.symm.trans (dO (by cases e <;> rfl) i))
 | succ n o=>
  have l:∀ {xs:List V} {ds f es:List D} {b g:Bool},IsL X.K F xs ds->IsL X.K F xs f->wS (eqN n) ds es=iE b->wS (eqN n) f es=iE g->b=g:=by
   intro xs
   induction xs with
   | nil=>intro ds f es b g h1 h2 e1 i; cases h1; cases h2; exact aK.inj (e1.symm.trans i)
   | cons x xs k=>
    intro ds f es b g h1 h2 e1 i;cases h1 with
    | cons r t1=>
     cases h2 with
     | cons p t2=>
      cases es with
      | nil=>exact aK.inj (e1.symm.trans i)
      | cons e es=>obtain ⟨a,c,q,m,rfl⟩:=gk e1;obtain ⟨t,U,j,h,rfl⟩:=gk i;rw [o r p q j,k t1 t2 m h]
  intro v d d' e b g h1 h2 e1 i;have s1:=GJ e1;have s2:=GJ i;cases h1 with
  | tup p1 t1=>
   cases h2 with
   | tup p2 t2=>
    have q:=I.tuple_inj (jm A p1) (jm A p2);subst q;have hl:=t1.length.symm.trans t2.length;cases e with
    | tup es=>obtain ⟨c,q,rfl⟩:=gl e1;obtain ⟨U,j,rfl⟩:=gl i;rw [l t1 t2 q j,hl]
    | _=>exact aK.inj (e1.symm.trans i)
   | lst p2 t2=>exact (GK I A p1 p2).elim
   | _=>cases s2
  | lst p1 t1=>
   cases h2 with
   | lst p2 t2=>
    have q:=I.list_inj (A.seq p1) (A.seq p2);subst q;have hl:=t1.length.symm.trans t2.length;cases e with
    | lst es=>
     have e1:(if _=es.length then wS (eqN n) _ es else iE iI)=iE b:=e1;have i:(if _=es.length then wS (eqN n) _ es else iE iI)=iE g:=i;rw [hl] at e1;split at i;·rw [Aa (by assumption)] at e1; exact l t1 t2 e1 i
     ·rw [Ab (by assumption)] at e1; exact aK.inj (e1.symm.trans i)
    | _=>exact aK.inj (e1.symm.trans i)
   | tup p2 t2=>exact (GK I A p2 p1).elim
   | _=>cases s2
  | _=>cases h2 <;> first
   | exact aK.inj (e1.symm.trans i)
   | (cases s1; done)
   | (cases s2; done)
open Classical in
noncomputable def Ge (X:Cx) (F:Hp) (n:Nat) (e:D) (u:iH):Bool:=decide (∃ v d,Is X.K F v d/\RelV v u/\eqN n d e=iE iJ)
open Classical in
theorem GN (I:Inv X pins σ H s) (A:Same F H) {u:iH} (h:Is X.K F v d) (r:RelV v u) (q:eqN n d e=iE b):Ge X F n e u=b:=by
 unfold Ge;cases b with
 | true=>exact Ad ⟨v,d,h,r,q⟩
 | false=>refine Ac ?_;rintro ⟨w,d',h',r',g⟩;have e:=r.inj r';subst e;exact absurd (qfi I A n h h' q g) (by decide)
noncomputable def QU (n:Nat) (e:D):List D->Option Bool
 | []=>iE iI
 | d::ds=>(eqN n d e).bind λa=>(QU n e ds).bind λb=>iE (a||b)
theorem Vr {ds:List D} (h:QU n e (d::ds)=iE b):∃ a c,eqN n d e=iE a/\QU n e ds=iE c/\b=(a||c):=by
 unfold QU at h;cases q:eqN n d e with
 | none=>rw [q] at h; simp at h
 | some a=>
  cases f:QU n e ds with
  | none=>rw [q,f] at h; simp at h
  | some c=>rw [q,f] at h; exact ⟨a,c,rfl,rfl,(aK.inj h).symm⟩
theorem GO (I:Inv X pins σ H s) (A:Same F H):∀ {vs:List V} {ds:List D} {us:List iH} {b:Bool},IsL X.K F vs ds->Vals vs us->QU n e ds=iE b->us.any (Ge X F n e)=b/\∀ u∈us,∃ v d a,Is X.K F v d/\RelV v u/\eqN n d e=iE a/\Ge X F n e u=a
 | _,_,_,b,.nil,.nil,h=>⟨by simpa using (aK.inj h),λu f=>nomatch f⟩
 | _,_,_,b,.cons i t,.cons r rs,h=>by
  obtain ⟨a,c,q,k,rfl⟩:=Vr h;obtain ⟨j,g⟩:=GO I A t rs k;have e1:=GN I A i r q;refine ⟨by rw [b7,e1,j],λu f=>?_⟩;rcases ae.mp f with rfl | f;·exact ⟨_,_,a,i,r,q,e1⟩
  ·exact g u f
end
noncomputable def inD (x y:D):Out Bool:=match y with
 | .lst ds=>match QU 7 x ds with
  | some b=>.ok b
  | none=>.bad
 | .tup ds=>match QU 7 x ds with
  | some b=>.ok b
  | none=>.bad
 | _=>.bad
noncomputable def qjM (x y:D):Out D:=(inD x y).bind λb=>.ok (.bl b)
noncomputable def Ze (x y:D):Out D:=(inD x y).bind λb=>.ok (.bl (!b))
theorem TopIs.is {K:Frag} (s:Same F H) (h:TopIs K F H v d):∃ F',Same F F'/\Same F' H/\Is K F' v d:=by
 rcases h with h | ⟨a,rfl,o⟩
 ·exact ⟨F,Same.refl _,s,h⟩
 ·obtain ⟨u,hu⟩:∃ u,H a=iE u:=by
   cases q:H a with
   | none=>exact absurd q o.there
   | some u=>exact ⟨u,rfl⟩
  by_cases E:F a=iG
  ·have gr:Same F (upd F a u):=λb w e=>by rw [qB (qJ e E)]; exact e
   refine ⟨upd F a u,gr,λb w e=>?_,?_⟩
   ·by_cases q:b=a;·subst q; rw [qm] at e; cases e; exact hu
    ·rw [qB q] at e; exact s b w e
   ·cases d with
    | lst ds=>obtain ⟨xs,e,t⟩:=o; rw [hu] at e; cases e; exact .lst (.inl (.inl qm)) (t.mono gr)
    | dct ds=>obtain ⟨xs,e,t⟩:=o; rw [hu] at e; cases e; exact .dct qm (t.mono gr)
    | ins C fs=>obtain ⟨dx,xs,e,t⟩:=o; rw [hu] at e; cases e; exact .ins qm (t.mono gr)
    | at_ b ds=>obtain ⟨J,xs,e,t⟩:=o; rw [hu] at e; cases e; subst J; exact .at_ (.inl (.inl qm)) (t.mono gr)
    | _=>exact o.elim
  ·obtain ⟨w,hw⟩:∃ w,F a=iE w:=by
    cases q:F a with
    | none=>exact absurd q E
    | some w=>exact ⟨w,rfl⟩
   have e:=s a w hw;cases d with
   | lst ds=>obtain ⟨xs,c,t⟩:=o; rw [c] at e; cases e; exact ⟨F,Same.refl _,s,.lst (.inl (.inl hw)) t⟩
   | dct ds=>obtain ⟨xs,c,t⟩:=o; rw [c] at e; cases e; exact ⟨F,Same.refl _,s,.dct hw t⟩
   | ins C fs=>obtain ⟨dx,xs,c,t⟩:=o; rw [c] at e; cases e; exact ⟨F,Same.refl _,s,.ins hw t⟩
   | at_ b ds=>obtain ⟨J,xs,c,t⟩:=o; rw [c] at e; cases e; subst J; exact ⟨F,Same.refl _,s,.at_ (.inl (.inl hw)) t⟩
   | _=>exact o.elim
section
variable {C:Ct}
theorem Vs {A:iX} {y x:V} {dx:D} {ds:List D} {b:Bool} {u v:iH} {a:Addr} {us:List iH} {xs:List V} (I:Inv X pins σ H s) (l:A.units+64 < k7) (c:Same F H) (ix:Is X.K F x dx) (f:RelV x v)
  (i:IsL X.K F xs ds) (r:Vals xs us) (h:QU 7 dx ds=iE b):us.any (Ge X F 7 dx)=b/\∀ w,w∈us.toArray->EqAt A.in1 s w v (Ge X F 7 dx w):=by
 obtain ⟨h1,h2⟩:=GO I c i r h;refine ⟨h1,λw g=>?_⟩;obtain ⟨j,d,k,i1,r1,q,e⟩:=h2 w (by simpa using g);rw [e];exact GM I c 7 (by show A.units+1+7 < k7; lia) i1 ix r1 f q
theorem qkA (n:C.K=X.K) (j:X.A.units+64 < k7):OpD X C .sh (iS .In) qjM:=by
 intro pins s σ H x y v u Q I g f h;obtain ⟨F,dx,k,d,tx,ty,po⟩:=h;rw [n] at tx ty;unfold qjM inD at po;obtain ⟨F',g',c,ix⟩:=tx.is d;cases k with
 | lst ds=>
  cases e:QU 7 dx ds with
  | none=>simp only [e] at po; exact po.elim
  | some b=>simp only [e] at po;obtain ⟨a,xs,rfl,p,i⟩:=ty.lst d;cases f;obtain ⟨us,r,pl,_⟩:=I.list p;obtain ⟨h1,h2⟩:=Vs (A:=X.A) (y:=.non) (a:=a) (u:=.none) I j c ix g (i.mono g') r e;refine in_listAt (Ge X F' 7 dx) pl.isList h2 ⟨.bl b,H,I,by show _=_; rw [<-h1]; simp,po _ F H d .refl (.bl _)⟩
 | tup ds=>
  cases e:QU 7 dx ds with
  | none=>simp only [e] at po; exact po.elim
  | some b=>simp only [e] at po;obtain ⟨a,xs,rfl,p,i⟩:=ty.tup d;cases f;obtain ⟨us,r,pl,_⟩:=I.tuple p;obtain ⟨h1,h2⟩:=Vs (A:=X.A) (y:=.non) (a:=a) (u:=.none) I j c ix g (i.mono g') r e;refine in_tupleAt (Ge X F' 7 dx) pl h2 ⟨.bl b,H,I,by show _=_; rw [<-h1]; simp,po _ F H d .refl (.bl _)⟩
 | _=>exact po.elim
theorem qcF (n:C.K=X.K) (j:X.A.units+64 < k7):OpD X C .sh (iS .NotIn) Ze:=by
 intro pins s σ H x y v u Q I g f h;obtain ⟨F,dx,k,d,tx,ty,po⟩:=h;rw [n] at tx ty;unfold Ze inD at po;obtain ⟨F',g',c,ix⟩:=tx.is d;cases k with
 | lst ds=>
  cases e:QU 7 dx ds with
  | none=>simp only [e] at po; exact po.elim
  | some b=>simp only [e] at po;obtain ⟨a,xs,rfl,p,i⟩:=ty.lst d;cases f;obtain ⟨us,r,pl,_⟩:=I.list p;obtain ⟨h1,h2⟩:=Vs (A:=X.A) (y:=.non) (a:=a) (u:=.none) I j c ix g (i.mono g') r e;refine notIn_listAt (Ge X F' 7 dx) pl.isList h2 ⟨.bl (!b),H,I,by show _=_; rw [<-h1]; simp,po _ F H d .refl (.bl _)⟩
 | tup ds=>
  cases e:QU 7 dx ds with
  | none=>simp only [e] at po; exact po.elim
  | some b=>simp only [e] at po;obtain ⟨a,xs,rfl,p,i⟩:=ty.tup d;cases f;obtain ⟨us,r,pl,_⟩:=I.tuple p;obtain ⟨h1,h2⟩:=Vs (A:=X.A) (y:=.non) (a:=a) (u:=.none) I j c ix g (i.mono g') r e;refine notIn_tupleAt (Ge X F' 7 dx) pl h2 ⟨.bl (!b),H,I,by show _=_; rw [<-h1]; simp,po _ F H d .refl (.bl _)⟩
 | _=>exact po.elim
end
end L2.D2
namespace L2.D2
open PySem PySem.Spec PyProof.Rows
def PoT (C:Ct) (own:List Nat) (σ:St) (F H:Hp) (r:Out (Bool×Sl)) (Q:Bool->Hp->Prop):Prop:=match r with
 | .ok (b,ρ')=>∀ F' H',Rep C.K own F' H' σ ρ'->Chg (OA own σ) F H F' H'->Q b H'
 | .exc c ρ'=>∀ F' H',Same F' H'->qcd C.K C.ox F' H' σ ρ'->Chg (OA own σ) F H F' H'->C.E (C.cv c) iG H'
 | .bad=>False
abbrev ua:=Sl->Out (Bool×Sl)
def tT (C:Ct) (own:List Nat) (f:ua):TT:=λσ H Q=>∃ F ρ,Rep C.K own F H σ ρ/\PoT C own σ F H (f ρ) Q
variable {C:Ct} {own:List Nat} {σ:St} {F H F1 H1:Hp} {Q:Bool->Hp->Prop}
theorem PoT.shift {r:Out (Bool×Sl)} (h:PoT C own σ F H r Q) (c:Chg (OA own σ) F H F1 H1):PoT C own σ F1 H1 r Q:=by
 cases r with
 | ok p=>exact λF' H' a U=>h F' H' a (c.trans' U)
 | exc x=>exact λF' H' s io U=>h F' H' s io (c.trans' U)
 | bad=>exact h.elim
theorem PoT.bindV {ma:Mo} {o:Vo} {k:D×Sl->Out (Bool×Sl)} {R:VK} (hp:PoT C own σ F H (o.bind k) Q)
  (h:∀ v F1 H1 d ρ1,Rep C.K own F1 H1 σ ρ1->Chg (OA own σ) F H F1 H1->MoIs C.K ma H F1 H1 v d->PoT C own σ F1 H1 (k (d,ρ1)) Q->R v H1):Po C own ma σ F H o R:=by
 cases o with
 | ok p=>obtain ⟨d,ρ1⟩:=p;exact λv F1 H1 a c mo=>h v F1 H1 d ρ1 a c mo (PoT.shift (show PoT C own σ F H (k (d,ρ1)) Q from hp) c)
 | exc x=>exact hp
 | bad=>exact hp.elim
variable {o:Out (Bool×Sl)}
theorem PoT.bindT {k:Bool×Sl->Out (Bool×Sl)} {R:Bool->Hp->Prop} (hp:PoT C own σ F H (o.bind k) Q)
  (h:∀ F1 H1 b ρ1,Rep C.K own F1 H1 σ ρ1->Chg (OA own σ) F H F1 H1->PoT C own σ F1 H1 (k (b,ρ1)) Q->R b H1):PoT C own σ F H o R:=by
 cases o with
 | ok p=>obtain ⟨d,ρ1⟩:=p;exact λF1 H1 a c=>h F1 H1 d ρ1 a c (PoT.shift (show PoT C own σ F H (k (d,ρ1)) Q from hp) c)
 | exc x=>exact hp
 | bad=>exact hp.elim
variable {m:Mo}
theorem Po.bindT {k:Bool×Sl->Vo} {Q:VK} {R:Bool->Hp->Prop} (hp:Po C own m σ F H (o.bind k) Q)
  (h:∀ F1 H1 b ρ1,Rep C.K own F1 H1 σ ρ1->Chg (OA own σ) F H F1 H1->Po C own m σ F1 H1 (k (b,ρ1)) Q->R b H1):PoT C own σ F H o R:=by
 cases o with
 | ok p=>obtain ⟨d,ρ1⟩:=p;exact λF1 H1 a c=>h F1 H1 d ρ1 a c (Po.shift (show Po C own m σ F H (k (d,ρ1)) Q from hp) c)
 | exc x=>exact hp
 | bad=>exact hp.elim
noncomputable def Gf:D->Out Bool
 | .non=>.ok iI
 | .bl b=>.ok b
 | .int i=>.ok (i != 0)
 | .str x=>.ok ((x.length:Int) != 0)
 | .tup xs=>.ok (!xs.isEmpty)
 | .lst xs=>.ok (!xs.isEmpty)
 | .dct xs=>.ok (!xs.isEmpty)
 | .raw _=>.bad
 | .xcp _=>.bad
 | .ins _ _=>.bad
 | .at_ _ _=>.bad
noncomputable def we (f:qY):ua:=λρ=>(f ρ).bind λp=>(Gf p.1).bind λb=>.ok (b,p.2)
variable {K:Frag} {vs:List V} {ds:List D}
theorem IsL.isEmpty (h:IsL K F vs ds):vs.isEmpty=ds.isEmpty:=by cases h <;> rfl
theorem IsK.isEmpty {vs:List (Key×V)} {ds:List (Key×D)} (h:IsK K F vs ds):vs.isEmpty=ds.isEmpty:=by cases h <;> rfl
variable {v:V} {d:D}
theorem qfj {b:Bool} (s:Same F H) (h:TopIs K F H v d) (e:Gf d=.ok b):qkp K v H b:=by
 cases d with
 | non=>obtain rfl:=h.non; cases e; rfl
 | bl x=>obtain rfl:=h.bl; cases e; rfl
 | int x=>obtain rfl:=h.int; cases e; rfl
 | str x=>obtain ⟨rfl,q⟩:=h.str; cases e; exact ⟨q,rfl⟩
 | tup x=>obtain ⟨a,xs,rfl,p,t⟩:=h.tup s; cases e; exact .inr (.inl ⟨xs,p,by rw [t.isEmpty]⟩)
 | lst x=>obtain ⟨a,xs,rfl,p,t⟩:=h.lst s; cases e; exact .inl ⟨xs,p,by rw [t.isEmpty]⟩
 | dct x=>obtain ⟨a,xs,rfl,p,t⟩:=h.dct s; cases e; exact .inr (.inr ⟨xs,p,by rw [t.isEmpty]⟩)
 | raw x=>cases e
 | xcp x=>cases e
 | ins x y=>cases e
 | at_ x y=>cases e
noncomputable def qL (f:qY):ua:=λρ=>(f ρ).bind λp=>match p.1 with
 | .bl b=>.ok (b,p.2)
 | _=>.bad
variable {X:Cx} {c e t:Expr} {ma mb:Mo} {pos:Pos} {op op':CmpOp} {ρ:Sl} {g':D->D->Out D}
section
variable {a b:Expr} {f fa fb fc:qY} {ft fu:ua} {mc:Mo} {rest:List Expr}
theorem qfk (n:C.K=X.K) (h:PE X e (tE C own m f)) (i:∀ whole,isTrue e X.env whole=(do let v <-whole; standAt e.pos; holding [v] (truthy v))):PT X e (tT C own (we f)):=by
 refine GG (qcp h i) λσ H Q ⟨F,ρ,r,h⟩=>⟨F,ρ,r,PoT.bindV h λv F1 H1 d ρ1 a g c h1=>?_⟩
 cases q:Gf d with
 | ok k=>have h1:PoT C own σ F1 H1 ((Gf d).bind λb=>.ok (b,ρ1)) Q:=h1;rw [q] at h1;exact ⟨k,by rw [<-n]; exact qfj a.sub c.top q,h1 F1 H1 a .refl⟩
 | exc x=>have h1:PoT C own σ F1 H1 ((Gf d).bind λb=>.ok (b,ρ1)) Q:=h1;cases d <;> cases q
 | bad=>have h1:PoT C own σ F1 H1 ((Gf d).bind λb=>.ok (b,ρ1)) Q:=h1;rw [q] at h1;exact h1.elim
theorem WW (h:tT C own (qL f) σ H Q):tE C own .sh f σ H λx H'=>∃ k,x=.bl k/\Q k H':=by
 obtain ⟨F,ρ,r,h⟩:=h;refine ⟨F,ρ,r,PoT.bindV h λv F1 H1 d ρ1 a b c h1=>?_⟩;cases d with
 | bl k=>have c:Is C.K F1 v (.bl k):=c;cases c;exact ⟨k,rfl,h1 F1 H1 a .refl⟩
 | _=>exact h1.elim
theorem qG {g:D->D->Out D} (l:OpD X C .sh (iS op) g) (c:PE X a (tE C own ma fa)) (d:PE X b (tE C own mb fb)) (f:ma≠.any:=by decide)
  (k:lC op b=false:=by first | exact Gq _ | with_unfolding_all rfl):PT X (.Compare a [op] [b] pos) (tT C own (qL (d2 g fa fb))):=by
 refine GG (Gr l c d k) λσ H Q h=>?_;exact Vp f (WW h)
noncomputable def gm (ft:ua):ua:=λρ=>(ft ρ).bind λp=>.ok (!p.1,p.2)
theorem jJ (h:PT X a (tT C own ft)):PT X (.UnaryOp .Not a pos) (tT C own (gm ft)):=by refine GG (qhb h) λσ H Q ⟨F,ρ,p,h⟩=>⟨F,ρ,p,PoT.bindT h λF1 H1 b ρ1 r k h1=>h1 F1 H1 r .refl⟩
theorem qhL {e:Expr} {t t':TT} (h:PW X e t) (i:∀ σ H Q,t' σ H Q->t σ H Q):PW X e t':=⟨λw pins s σ H Q I a=>h w pins s σ H Q I (i σ H Q a)⟩
noncomputable def qd7 (ft fu:ua):ua:=λρ=>(ft ρ).bind λp=>if p.1=iJ then fu p.2 else .ok (iI,p.2)
noncomputable def dOr (ft fu:ua):ua:=λρ=>(ft ρ).bind λp=>if p.1=iJ then .ok (iJ,p.2) else fu p.2
theorem vK {op} (h:PT X a (tT C own ft)):PW X (.BoolOp op [a] pos) (tT C own ft):=by
 cases op;·exact qeU h
 ·exact qg9 h
theorem WX (g:PT X a (tT C own ft)) (d:PW X (.BoolOp .And (b::rest) pos) (tT C own fu)):PW X (.BoolOp .And (a::b::rest) pos) (tT C own (qd7 ft fu)):=by
 refine qhL (qha g d) λσ H Q ⟨F,ρ,p,h⟩=>⟨F,ρ,p,PoT.bindT h λF1 H1 k ρ1 r c h1=>?_⟩
 cases k with
 | true=>exact ⟨F1,ρ1,r,h1⟩
 | false=>exact h1 F1 H1 r .refl
theorem gq (g:PT X a (tT C own ft)) (d:PW X (.BoolOp .Or (b::rest) pos) (tT C own fu)):PW X (.BoolOp .Or (a::b::rest) pos) (tT C own (dOr ft fu)):=by
 refine qhL (qj9 g d) λσ H Q ⟨F,ρ,p,h⟩=>⟨F,ρ,p,PoT.bindT h λF1 H1 k ρ1 r c h1=>?_⟩
 cases k with
 | true=>exact h1 F1 H1 r .refl
 | false=>exact ⟨F1,ρ1,r,h1⟩
noncomputable def JL (fa fb:qY):qY:=λρ=>(fa ρ).bind λp=>match p.1 with
 | .bl iJ=>fb p.2
 | .bl iI=>.ok (.bl iI,p.2)
 | _=>.bad
noncomputable def qhM (fa fb:qY):qY:=λρ=>(fa ρ).bind λp=>match p.1 with
 | .bl iJ=>.ok (.bl iJ,p.2)
 | .bl iI=>fb p.2
 | _=>.bad
theorem QV {op} (h:PE X a (tE C own m f)):PE X (.BoolOp op [a] pos) (tE C own m f):=qhc h
theorem QW (g:PE X a (tE C own .sh fa)) (e:PE X (.BoolOp .And (b::rest) pos) (tE C own .sh fb)):PE X (.BoolOp .And (a::b::rest) pos) (tE C own .sh (JL fa fb)):=by
 refine jE (qhd g e) λσ H Q ⟨F,ρ,p,h⟩=>⟨F,ρ,p,Po.bind h λv F1 H1 d ρ1 r f c h1=>?_⟩
 cases d with
 | bl k=>
  have c:Is C.K F1 v (.bl k):=c;cases c;refine ⟨k,rfl,?_⟩;cases k with
  | true=>exact ⟨F1,ρ1,r,h1⟩
  | false=>exact h1 _ F1 H1 r .refl (.bl _)
 | _=>exact h1.elim
theorem qhN (g:PE X a (tE C own .sh fa)) (e:PE X (.BoolOp .Or (b::rest) pos) (tE C own .sh fb)):PE X (.BoolOp .Or (a::b::rest) pos) (tE C own .sh (qhM fa fb)):=by
 refine jE (qkb g e) λσ H Q ⟨F,ρ,p,h⟩=>⟨F,ρ,p,Po.bind h λv F1 H1 d ρ1 r f c h1=>?_⟩
 cases d with
 | bl k=>
  have c:Is C.K F1 v (.bl k):=c;cases c;refine ⟨k,rfl,?_⟩;cases k with
  | true=>exact h1 _ F1 H1 r .refl (.bl _)
  | false=>exact ⟨F1,ρ1,r,h1⟩
 | _=>exact h1.elim
noncomputable def dIf (ft:ua) (fa fb:qY):qY:=λρ=>(ft ρ).bind λp=>if p.1=iJ then fa p.2 else fb p.2
theorem Zf (ht:PT X t (tT C own ft)) (g:PE X a (tE C own ma fa)) (d:PE X b (tE C own mb fb)) (h1:ma≠.any:=by decide) (h2:mb≠.any:=by decide):PE X (.IfExp t a b pos) (tE C own .sh (dIf ft fa fb)):=by
 refine jE (qch ht (wX g h1) (wX d h2)) λσ H Q ⟨F,ρ,p,h⟩=>⟨F,ρ,p,Po.bindT h λF1 H1 k ρ1 r c h1=>?_⟩
 cases k with
 | true=>exact ⟨F1,ρ1,r,h1⟩
 | false=>exact ⟨F1,ρ1,r,h1⟩
noncomputable def yO (g g':D->D->Out D) (fa fb fc:qY):qY:=λρ=>(fa ρ).bind λp=>(fb p.2).bind λq=>(g p.1 q.1).plain.bind λz=>match z with
 | .bl iJ=>(fc q.2).bind λr=>(g' q.1 r.1).plain.bind λd=>.ok (d,r.2)
 | .bl iI=>.ok (.bl iI,q.2)
 | _=>.bad
theorem PoV.bind {o:Out D} {k:D->Vo} {Q R:VK} (a:Rep C.K own F H σ ρ) (h:Po C own m σ F H (o.plain.bind k) Q)
  (b:∀ v F1 H1 d,Rep C.K own F1 H1 σ ρ->Chg No F H F1 H1->MoIs C.K ma H F1 H1 v d->Po C own m σ F1 H1 (k d) Q->R v H1):PoV C ma F H o R:=by
 cases o with
 | ok d=>exact λv F1 H1 s c mo=>b v F1 H1 d (a.grow c s) c mo (Po.shift (show Po C own m σ F H (k d) Q from h) c.ofNo)
 | exc c=>exact h.elim
 | bad=>exact h.elim
theorem Yw {g:D->D->Out D} {Q:VK} (s:ma≠.any) (l:mb≠.any) (h:tE C own .sh (yO g g' fa fb fc) σ H Q):Gs (λx y H Q=>∃ F dx n,Same F H/\TopIs C.K F H x dx/\TopIs C.K F H y n/\PoV C .sh F H (g dx n) Q) (λx y H Q=>∃ F dx n,Same F H/\TopIs C.K F H x dx/\TopIs C.K F H y n/\PoV C .sh F H (g' dx n) Q)
   (tE C own ma fa) (tE C own mb fb) (tE C own mc fc) σ H Q:=by
 obtain ⟨F,ρ,A,h⟩:=h;refine ⟨F,ρ,A,Po.bind h λv F1 H1 d ρ1 i O q h1=>⟨F1,ρ1,i,Po.bind h1 λw N H2 e ρ2 f c2 j h2=>?_⟩⟩;have oa:∀ x,OA own σ x->H x≠none:=λx z=>(A.OA_there z).1;have o:∀ x,OA own σ x->H1 x≠none:=λx z=>(i.OA_there z).1;refine ⟨N,d,e,f.sub,(q.grow s c2 oa).top,j.top,PoV.bind (m:=.sh) f h2 λz u L G c J a t=>?_⟩;cases G with
 | bl k=>
  have a:Is C.K u z (.bl k):=a;cases a;refine ⟨k,rfl,?_⟩;cases k with
  | true=>refine ⟨u,ρ2,c,Po.bind t λT M P r B b I p E=>?_⟩;exact ⟨M,e,r,b.sub,((j.grow l (J.ofNo) o).grow l I o).top,p.top,PoV.of b E⟩
  | false=>exact t _ u L c .refl (.bl _)
 | _=>exact t.elim
theorem Yx {g:D->D->Out D} (o:OpD X C .sh (iS op) g) (d:OpD X C .sh (iS op') g') (j:PE X a (tE C own ma fa)) (i:PE X b (tE C own mb fb)) (e:PE X c (tE C own mc fc)) (f:ma≠.any:=by decide) (l:mb≠.any:=by decide)
  (m:lastMarks [op,op'] [b,c]=false:=by with_unfolding_all rfl):PE X (.Compare a [op,op'] [b,c] pos) (tE C own .sh (yO g g' fa fb fc)):=jE (qcn o d j i e m) λ_ _ _ h=>Yw f l h
theorem Vt {g:D->D->Out D} (o:OpD X C .sh (iS op) g) (d:OpD X C .sh (iS op') g') (j:PE X a (tE C own ma fa)) (i:PE X b (tE C own mb fb)) (e:PE X c (tE C own mc fc)) (f:ma≠.any:=by decide) (l:mb≠.any:=by decide)
  (m:lastMarks [op,op'] [b,c]=false:=by with_unfolding_all rfl):PT X (.Compare a [op,op'] [b,c] pos) (tT C own (qL (yO g g' fa fb fc))):=GG (qco o d j i e m) λ_ _ _ h=>Yw f l (WW h)
theorem GP:OpR X (iS .LtE) (λx y H Q=>∃ i j,x=.str i/\y=.str j/\Q (.bl (!wZ j i)) H):=by intro pins s σ H x y v u Q I d c h;obtain ⟨i,j,rfl,rfl,q⟩:=h;obtain ⟨t,rfl⟩:=d;obtain ⟨t',rfl⟩:=c;exact PySem.P.le_str (Go I q (by simp [wZ]))
noncomputable def leD:D->D->Out D
 | .int i,.int j=>.ok (.bl (decide (i<=j)))
 | .str x,.str y=>.ok (.bl (!wZ y x))
 | _,_=>.bad
theorem Vu:OpD X C .sh (iS .LtE) leD:=by
 intro pins s σ H x y v u Q I d c h;obtain ⟨F,dx,a,A,tx,ty,po⟩:=h;cases dx <;> try exact po.elim
 ·cases a <;> try exact po.elim
  obtain rfl:=tx.int;obtain rfl:=ty.int;exact qkm pins s σ H _ _ v u Q I d c ⟨_,_,rfl,rfl,po _ F H A .refl (.bl _)⟩
 ·cases a <;> try exact po.elim
  obtain ⟨rfl,_⟩:=tx.str;obtain ⟨rfl,_⟩:=ty.str;exact GP pins s σ H _ _ v u Q I d c ⟨_,_,rfl,rfl,po _ F H A .refl (.bl _)⟩
noncomputable def gtD:D->D->Out D:=yn λi j=>.ok (.bl (decide (j < i)))
theorem qkB:OpD X C .sh (iS .Gt) gtD:=WV qkn λ_ _ _=>.bl _
noncomputable def geD:D->D->Out D:=yn λi j=>.ok (.bl (decide (j<=i)))
theorem qhO:OpD X C .sh (iS .GtE) geD:=WV qko λ_ _ _=>.bl _
noncomputable def qkC:D->D->Out D
 | .non,.non=>.ok (.bl iJ)
 | .raw _,.non=>.bad
 | _,.non=>.ok (.bl iI)
 | _,_=>.bad
noncomputable def Vv:D->D->Out D
 | .non,.non=>.ok (.bl iI)
 | .raw _,.non=>.bad
 | _,.non=>.ok (.bl iJ)
 | _,_=>.bad
theorem TopIs.notN (h:TopIs K F H v d) (h1:d≠.non) (h2:∀ u,d≠.raw u):v≠.non:=by
 rintro rfl;rcases h with h | ⟨a,e,_⟩
 ·cases h;·exact h1 rfl
  ·exact h2 _ rfl
 ·cases e
theorem WY:OpD X C .sh (iS .IsNot) Vv:=by
 intro pins s σ H x y v u Q I r c h;obtain ⟨F,dx,d,A,tx,ty,po⟩:=h;have D:d=.non:=by cases d <;> first | rfl | (cases dx <;> exact po.elim)
 subst D;obtain rfl:=ty.non;refine qe1 pins s σ H x .non v u Q I r c ⟨rfl,?_⟩;cases dx with
 | non=>obtain rfl:=tx.non; exact po _ F H A .refl (.bl _)
 | raw _=>exact po.elim
 | _=>rw [Ac (tx.notN (by intro z; cases z) (by intro _ z; cases z))]; exact po _ F H A .refl (.bl _)
end
inductive Fl where
 | nx | rt (d:D) | bk | ct
structure Nx (C:Ct) (own own':List Nat) (σ:St) (F H:Hp) (ρ':Sl) (σ':St) (F' H':Hp):Prop where
 rep:Rep C.K own' F' H' σ' ρ'
 chg:Chg (OA own σ) F H F' H'
 oa:∀ b,OA own' σ' b->OA own σ b\/H b=iG
 io:∀ i∈C.io,σ'[i]?=σ[i]?
def PoS (C:Ct) (own own':List Nat) (σ:St) (F H:Hp) (r:Out (Fl×Sl)) (D:Ends):Prop:=match r with
 | .ok (.nx,ρ')=>∀ σ' F' H',Nx C own own' σ F H ρ' σ' F' H'->D.nx σ' H'
 | .ok (.rt d,ρ')=>∀ v σ' F' H',Same F' H'->qcd C.K C.io F' H' σ' ρ'->Chg (OA own σ) F H F' H'->(∀ i∈C.io,σ'[i]?=σ[i]?)->MoIs C.K C.mr H F' H' v d->D.rt v H'
 | .ok (.bk,ρ')=>∀ σ' F' H',Nx C own C.ol σ F H ρ' σ' F' H'->D.bk σ' H'
 | .ok (.ct,ρ')=>∀ σ' F' H',Nx C own C.ol σ F H ρ' σ' F' H'->D.ct σ' H'
 | .exc c ρ'=>∀ F' H',Same F' H'->qcd C.K C.ox F' H' σ ρ'->Chg (OA own σ) F H F' H'->C.E (C.cv c) iG H'
 | .bad=>False
abbrev qR:=Sl->Out (Fl×Sl)
def tSt (C:Ct) (own own':List Nat) (f:qR):TS:=λD σ H=>∃ F ρ,Rep C.K own F H σ ρ/\PoS C own own' σ F H (f ρ) D
variable {o1 o2 o3:List Nat} {σ1:St} {ρ1:Sl}
theorem Nx.then {c:St} {d H2:Hp} {ρ2:Sl} (a:Nx C o1 o2 σ F H ρ1 σ1 F1 H1) (b:Nx C o2 o3 σ1 F1 H1 ρ2 c d H2):Nx C o1 o3 σ F H ρ2 c d H2 where
 rep:=b.rep
 chg:=a.chg.trans b.chg a.oa
 oa:=λx h=>by
  rcases b.oa x h with z | z;·exact a.oa x z
  ·refine .inr ?_;cases q:H x with
   | none=>rfl
   | some o=>exact absurd z (a.chg.stay x (by rw [q]; simp))
 io:=λi hi=>(b.io i hi).trans (a.io i hi)
theorem PoS.shift {r:Out (Fl×Sl)} {D:Ends} (h:PoS C o1 o3 σ F H r D) (a:Nx C o1 o2 σ F H ρ1 σ1 F1 H1):PoS C o2 o3 σ1 F1 H1 r D:=by
 cases r with
 | ok p=>
  obtain ⟨l,ρ'⟩:=p;cases l with
  | nx=>exact λσ' F' H' n=>h σ' F' H' (a.then n)
  | rt d=>exact λv σ' F' H' s io c e mo=>h v σ' F' H' s io (a.chg.trans c a.oa) (λi hi=>(e i hi).trans (a.io i hi)) (MoIs.back (Ha:=H1) a.chg mo)
  | bk=>exact λσ' F' H' n=>h σ' F' H' (a.then n)
  | ct=>exact λσ' F' H' n=>h σ' F' H' (a.then n)
 | exc c=>exact λF' H' s io U=>h F' H' s (λi hi=>by obtain ⟨d,b,e1,f,E⟩:=io i hi;exact ⟨d,b,e1,by rw [<-a.io i (C.oxs i hi)]; exact f,E⟩) (a.chg.trans U a.oa)
 | bad=>exact h.elim
theorem Nx.ofE (r:Rep C.K own F1 H1 σ ρ1) (c:Chg (OA own σ) F H F1 H1):Nx C own own σ F H ρ1 σ F1 H1:=⟨r,c,λ_ h=>.inl h,λ_ _=>rfl⟩
variable {own':List Nat}
theorem PoS.bindE {m:Mo} {o:Vo} {k:D×Sl->Out (Fl×Sl)} {D:Ends} {R:VK} (hp:PoS C own own' σ F H (o.bind k) D)
  (h:∀ v F1 H1 d ρ1,Rep C.K own F1 H1 σ ρ1->Chg (OA own σ) F H F1 H1->MoIs C.K m H F1 H1 v d->PoS C own own' σ F1 H1 (k (d,ρ1)) D->R v H1):Po C own m σ F H o R:=by
 cases o with
 | ok p=>obtain ⟨d,ρ1⟩:=p;exact λv F1 H1 a c mo=>h v F1 H1 d ρ1 a c mo (PoS.shift (show PoS C own own' σ F H (k (d,ρ1)) D from hp) (.ofE a c))
 | exc x=>exact hp
 | bad=>exact hp.elim
theorem PoS.bindT {k:Bool×Sl->Out (Fl×Sl)} {D:Ends} {R:Bool->Hp->Prop} (hp:PoS C own own' σ F H (o.bind k) D)
  (h:∀ F1 H1 b ρ1,Rep C.K own F1 H1 σ ρ1->Chg (OA own σ) F H F1 H1->PoS C own own' σ F1 H1 (k (b,ρ1)) D->R b H1):PoT C own σ F H o R:=by
 cases o with
 | ok p=>obtain ⟨d,ρ1⟩:=p;exact λF1 H1 a c=>h F1 H1 d ρ1 a c (PoS.shift (show PoS C own own' σ F H (k (d,ρ1)) D from hp) (.ofE a c))
 | exc x=>exact hp
 | bad=>exact hp.elim
variable {b a:Addr} {t':TS} {st:Stmt} {i:Nat} {x:Str} {pos':Pos}
section
variable {sts rest:List Stmt} {f g:qR} {fe:qY} {ft:ua}
theorem QD {t:TS} (h:PS X st t) (i:∀ D σ H,t' D σ H->t D σ H):PS X st t':=⟨λpins s σ H D I w=>h pins s σ H D I (i D σ H w)⟩
theorem GQ {t:TS} (h:PSs X sts t) (i:∀ D σ H,t' D σ H->t D σ H):PSs X sts t':=⟨λpins s σ H D I w=>h pins s σ H D I (i D σ H w)⟩
noncomputable def jk:qR:=λρ=>.ok (.nx,ρ)
noncomputable def qN (f g:qR):qR:=λρ=>(f ρ).bind λp=>match p.1 with
 | .nx=>g p.2
 | fl=>.ok (fl,p.2)
theorem Nx.refl (r:Rep C.K own F H σ ρ):Nx C own own σ F H ρ σ F H:=.ofE r .refl
theorem qH:PSs X [] (tSt C own own jk):=GQ qeV λD σ H ⟨F,ρ,a,h⟩=>h σ F H (.refl a)
theorem qhP {D:Ends} (h:tSt C o1 o3 (qN f g) D σ H):tSt C o1 o2 f { D with nx:=tSt C o2 o3 g D } σ H:=by
 obtain ⟨F,ρ,a,h⟩:=h;refine ⟨F,ρ,a,?_⟩;unfold qN at h;cases q:f ρ with
 | ok p=>
  rw [q] at h;obtain ⟨l,ρ1⟩:=p;cases l with
  | nx=>exact λσ' F' H' n=>⟨F',ρ1,n.rep,PoS.shift (show PoS C o1 o3 σ F H (g ρ1) D from h) n⟩
  | rt d=>exact h
  | bk=>exact h
  | ct=>exact h
 | exc c=>rw [q] at h; exact h
 | bad=>rw [q] at h; exact h.elim
theorem qf (h1:PS X st (tSt C o1 o2 f)) (h2:PSs X rest (tSt C o2 o3 g)):PSs X (st::rest) (tSt C o1 o3 (qN f g)):=GQ (qci h1 h2) λD σ H h=>qhP h
theorem qg (h1:PS X st (tSt C o1 o2 f)):PSs X [st] (tSt C o1 o2 f):=qeW h1
theorem Rep.weak {K:Frag} {F H:Hp} {σ:St} {ρ:Sl}:∀ (drop:List Nat) {own own':List Nat},(∀ i,i∈own'↔i∈own/\i∉drop)->Rep K own F H σ ρ->∃ F',Rep K own' F' H σ ρ/\Chg (OA own σ) F H F' H
 | [],own,own',hs,rp=>⟨F,⟨rp.sub,rp.len,λi d hi=>rp.val i d λz=>hi ((hs i).mpr ⟨z,by simp⟩),λi d hi=>rp.ow i d ((hs i).mp hi).1,λi hi=>rp.opn i ((hs i).mp hi).1,λi j a hi G=>rp.dis i j a ((hs i).mp hi).1 ((hs j).mp G).1⟩,.refl⟩
 | k::r,own,own',hs,rp=>by
  obtain ⟨F1,c,n⟩:=Rep.weak r (own:=own) (own':=own.filter λi=>decide (i∉r)) (λi=>by simp) rp;by_cases f:k∈own/\k∉r
  ·obtain ⟨d,hd⟩:=c.opn k (by simp [f.1,f.2]);obtain ⟨a,h1,h2,g⟩:=c.ow k d (by simp [f.1,f.2]) hd;obtain ⟨u,hu⟩:∃ u,H a=iE u:=by
    cases q:H a with
    | none=>exact absurd q g.there
    | some u=>exact ⟨u,rfl⟩
   have gr:Same F1 (upd F1 a u):=λb w e=>by rw [qB (qJ e h2)]; exact e
   refine ⟨upd F1 a u,⟨λb w e=>?_,c.len,λi d' hi e=>?_,λi d' hi e=>?_,λi hi=>?_,λi j b hi G=>?_⟩,?_⟩
   ·by_cases q:b=a;·subst q; rw [qm] at e; cases e; exact hu
    ·rw [qB q] at e; exact c.sub b w e
   ·by_cases q:i=k
    ·subst q;rw [hd] at e; cases e;refine ⟨_,h1,?_⟩;cases d with
     | lst ds=>obtain ⟨xs,e,t⟩:=g; rw [hu] at e; cases e; exact .lst (.inl (.inl qm)) (t.mono gr)
     | dct ds=>obtain ⟨xs,e,t⟩:=g; rw [hu] at e; cases e; exact .dct qm (t.mono gr)
     | ins C fs=>obtain ⟨dx,xs,e,t⟩:=g; rw [hu] at e; cases e; exact .ins qm (t.mono gr)
     | at_ b ds=>obtain ⟨J,xs,e,t⟩:=g; rw [hu] at e; cases e; subst J; exact .at_ (.inl (.inl qm)) (t.mono gr)
     | _=>exact g.elim
    ·obtain ⟨v,o,p⟩:=c.val i d' (λz=>by simp at z; exact hi ((hs i).mpr ⟨z.1,by simp [q,z.2]⟩)) e;exact ⟨v,o,p.mono gr⟩
   ·have h:=(hs i).mp hi;have s:i≠k:=λz=>h.2 (by simp [z]);have m:i∉r:=λz=>h.2 (by simp [z]);obtain ⟨b,o,p,y⟩:=c.ow i d' (by simp [h.1,m]) e;refine ⟨b,o,?_,y.grow gr λ_ z=>z⟩;have A:b≠a:=λz=>by subst z; exact s (c.dis i k b (by simp [h.1,m]) (by simp [f.1,f.2]) o h1)
    rw [qB A]; exact p
   ·have h:=(hs i).mp hi;exact c.opn i (by simp [h.1]; exact λz=>h.2 (by simp [z]))
   ·have h:=(hs i).mp hi;have l:=(hs j).mp G;exact c.dis i j b (by simp [h.1]; exact λz=>h.2 (by simp [z])) (by simp [l.1]; exact λz=>l.2 (by simp [z]))
   ·refine ⟨n.keep,n.stay,n.grow.trans gr,λb x=>?_⟩;by_cases q:b=a;·exact .inr (.inr ⟨k,f.1,by rw [q]; exact h1⟩)
    ·rw [qB q] at x; exact n.new b x
  ·refine ⟨F1,⟨c.sub,c.len,λi d hi=>c.val i d λz=>?_,λi d hi=>c.ow i d ?_,λi hi=>c.opn i ?_,λi j a hi G=>c.dis i j a ?_ ?_⟩,n⟩;·simp at z;refine hi ((hs i).mpr ⟨z.1,?_⟩);simp only [ae,not_or];exact ⟨λq=>f (by subst q; exact z),z.2⟩
   all_goals
    first
     | (have q:=(hs _).mp hi; simp only [br,decide_eq_true_eq]; exact ⟨q.1,λz=>q.2 (by simp [z])⟩)
     | (have q:=(hs _).mp G; simp only [br,decide_eq_true_eq]; exact ⟨q.1,λz=>q.2 (by simp [z])⟩)
theorem OA.sub (h:∀ i∈own',i∈own) (q:OA own' σ b):OA own σ b:=let ⟨i,hi,e⟩:=q; ⟨i,h i hi,e⟩
theorem Nx.drop (drop:List Nat) (h:∀ i,i∈own'↔i∈own/\i∉drop) (r:Rep C.K own F H σ ρ):∃ F',Nx C own own' σ F H ρ σ F' H:=by obtain ⟨F',a,c⟩:=Rep.weak drop h r;exact ⟨F',a,c,λb q=>.inl (OA.sub (λi hi=>((h i).mp hi).1) q),λ_ _=>rfl⟩
noncomputable def vL (own drop:List Nat):List Nat:=own.filter λi=>decide (i∉drop)
theorem jf {own drop:List Nat} (i:Nat):i∈vL own drop↔i∈own/\i∉drop:=by simp [vL]
theorem jI (drop:List Nat) (h:PSs X sts (tSt C (vL own drop) o2 f)):PSs X sts (tSt C own o2 f):=GQ h λD σ H ⟨F,ρ,a,h⟩=>by obtain ⟨F',n⟩:=Nx.drop (C:=C) drop (λi=>jf (own:=own) i) a;exact ⟨F',ρ,n.rep,h.shift n⟩
noncomputable def sIf (ft:ua) (f g:qR):qR:=λρ=>(ft ρ).bind λp=>if p.1=iJ then f p.2 else g p.2
theorem qW {a b:List Stmt} (d:PT X c (tT C own ft)) (i:PSs X a (tSt C own own' f)) (e:PSs X b (tSt C own own' g)):PS X (.If c a b pos) (tSt C own own' (sIf ft f g)):=by
 refine QD (qke d i e) λD σ H ⟨F,ρ,p,h⟩=>⟨F,ρ,p,PoS.bindT h λF1 H1 k ρ1 r j h1=>?_⟩
 cases k with
 | true=>exact ⟨F1,ρ1,r,h1⟩
 | false=>exact ⟨F1,ρ1,r,h1⟩
noncomputable def ki (fe:qY):qR:=λρ=>(fe ρ).bind λp=>.ok (.nx,p.2)
theorem ji (i:PE X e (tE C own m fe)) (s:lB e iG pos.line X.env=pure false:=by rfl):PS X (.Expr e pos) (tSt C own own (ki fe)):=by refine QD (qeX i s) λD σ H ⟨F,ρ,r,h⟩=>⟨F,ρ,r,PoS.bindE h λv F1 H1 d ρ1 a k c h1=>h1 σ F1 H1 (.refl a)⟩
noncomputable def jt (fe:qY):qR:=λρ=>(fe ρ).bind λp=>.ok (.rt p.1,p.2)
theorem qfl (b:PE X e (tE C own C.mr fe)) (o:∀ i∈C.io,i∈own:=by exact wW rfl):PS X (.Return (iE e) pos) (tSt C own own' (jt fe)):=by
 refine QD (qhe b) λD σ H ⟨F,ρ,r,h⟩=>⟨F,ρ,r,?_⟩
 unfold jt at h;cases q:fe ρ with
 | ok p=>rw [q] at h;obtain ⟨d,ρ1⟩:=p;exact λv F1 H1 a k m=>h v σ F1 H1 a.sub (a.ioIs o) k (λ_ _=>rfl) m
 | exc c=>rw [q] at h; exact h
 | bad=>rw [q] at h; exact h.elim
theorem qh (h:PE X e (tE C own m fe)) (c:m≠.any:=by decide) (f:C.mr=.sh:=by rfl) (o:∀ i∈C.io,i∈own:=by exact wW rfl):PS X (.Return (iE e) pos) (tSt C own own' (jt fe)):=qfl (by rw [f]; exact wX h c) o
theorem Rep.put (r:Rep K own F H σ ρ) (hi:i < ρ.length) (is:Is K F v d):Rep K (vL own [i]) F H (σ.set i (iE v)) (ρ.set i (iE d)) where
 sub:=r.sub
 len:=by simp [r.len]
 val:=λj d' G e=>by
  by_cases q:j=i;·subst q;rw [aO hi] at e;cases e;exact ⟨v,aO (by rw [r.len]; exact hi),is⟩
  ·rw [aB (bw q)] at e;obtain ⟨w,h1,h2⟩:=r.val j d' (λz=>G ((jf j).mpr ⟨z,by simp [q]⟩)) e;exact ⟨w,by rw [aB (bw q)]; exact h1,h2⟩
 ow:=λj d' G e=>by have l:=(jf j).mp G;have q:j≠i:=λz=>l.2 (by simp [z]);rw [aB (bw q)] at e;obtain ⟨a,h1,h2⟩:=r.ow j d' l.1 e;exact ⟨a,by rw [aB (bw q)]; exact h1,h2⟩
 opn:=λj G=>by have l:=(jf j).mp G;have q:j≠i:=λz=>l.2 (by simp [z]);obtain ⟨d',e⟩:=r.opn j l.1;exact ⟨d',by rw [aB (bw q)]; exact e⟩
 dis:=λj k a G c e1 b=>by have l:=(jf j).mp G;have h:=(jf k).mp c;rw [aB (λz=>l.2 (by simp [z]))] at e1;rw [aB (λz=>h.2 (by simp [z]))] at b;exact r.dis j k a l.1 h.1 e1 b
theorem OA.put (h:OA (vL own [i]) (σ.set i (iE v)) b):OA own σ b:=by obtain ⟨j,G,e⟩:=h;have l:=(jf j).mp G;rw [aB (λz=>l.2 (by simp [z]))] at e;exact ⟨j,l.1,e⟩
noncomputable def jx (i:Nat) (fe:qY):qR:=λρ=>(fe ρ).bind λp=>if i < p.2.length then .ok (.nx,p.2.set i (iE p.1)) else .bad
theorem qfm (l:X.N.Nodup) (hi:X.N[i]?=iE x) (hx:Loc X.env.scope x) (k:PE X e (tE C own m fe)) (f:m≠.any:=by decide) (o:i∉C.io:=by exact yN rfl) (s:lB e (iE (.Name x pos')) pos.line X.env=pure false:=by rfl)
  (g:X.fn x=iJ\/X.env.scope.names.lookup x=iE .local:=by first | exact .inl rfl | exact .inr rfl):PS X (.Assign [.Name x pos'] e pos) (tSt C own (vL own [i]) (jx i fe)):=by
 refine QD (qd5 l hi hx (wX k f) s g) λD σ H ⟨F,ρ,r,h⟩=>⟨F,ρ,r,PoS.bindE h λv F1 H1 d ρ1 a n c h1=>?_⟩
 by_cases q:i < ρ1.length;·have h1:PoS C own (vL own [i]) σ F1 H1 (if i < ρ1.length then .ok (.nx,ρ1.set i (iE d)) else .bad) D:=h1;rw [Aa q] at h1;exact h1 _ F1 H1 ⟨a.put q c,.refl,λb z=>.inl (OA.put z),λj G=>aB λz=>o (by rw [z]; exact G)⟩
 ·have h1:PoS C own (vL own [i]) σ F1 H1 (if i < ρ1.length then .ok (.nx,ρ1.set i (iE d)) else .bad) D:=h1;rw [Ab q] at h1;exact h1.elim
theorem Rep.putO (r:Rep K own F H σ ρ) (hi:i < ρ.length) (E:F a=iG) (n:¬OA own σ a) (o:OwnIs K F H a d):Rep K (i::vL own [i]) F H (σ.set i (iE (.ref a))) (ρ.set i (iE d)) where
 sub:=r.sub
 len:=by simp [r.len]
 val:=λj d' G e=>by have q:j≠i:=λz=>G (by simp [z]);rw [aB (bw q)] at e;obtain ⟨w,h1,h2⟩:=r.val j d' (λz=>G (ac _ ((jf j).mpr ⟨z,by simp [q]⟩))) e;exact ⟨w,by rw [aB (bw q)]; exact h1,h2⟩
 ow:=λj d' G e=>by
  by_cases q:j=i;·subst q;rw [aO hi] at e;cases e;exact ⟨a,aO (by rw [r.len]; exact hi),E,o⟩
  ·have l:=(jf j).mp ((ae.mp G).resolve_left q);rw [aB (bw q)] at e;obtain ⟨b,h1,h2⟩:=r.ow j d' l.1 e;exact ⟨b,by rw [aB (bw q)]; exact h1,h2⟩
 opn:=λj G=>by
  by_cases q:j=i;·subst q; exact ⟨d,aO hi⟩
  ·have l:=(jf j).mp ((ae.mp G).resolve_left q);obtain ⟨d',e⟩:=r.opn j l.1;exact ⟨d',by rw [aB (bw q)]; exact e⟩
 dis:=λj k b G p e1 f=>by
  have m:i < σ.length:=by rw [r.len]; exact hi
  by_cases g:j=i
  ·by_cases c:k=i;·rw [g,c]
   ·subst g;have h:=(jf k).mp ((ae.mp p).resolve_left c);rw [aO m] at e1;cases e1;rw [aB (bw c)] at f;exact absurd ⟨k,h.1,f⟩ n
  ·have l:=(jf j).mp ((ae.mp G).resolve_left g);by_cases c:k=i;·subst c;rw [aO m] at f;cases f;rw [aB (bw g)] at e1;exact absurd ⟨j,l.1,e1⟩ n
   ·have h:=(jf k).mp ((ae.mp p).resolve_left c);rw [aB (bw g)] at e1;rw [aB (bw c)] at f;exact r.dis j k b l.1 h.1 e1 f
theorem qcG (w:X.N.Nodup) (hi:X.N[i]?=iE x) (hx:Loc X.env.scope x) (u:PE X e (tE C own .fr fe)) (f:i∉C.io:=by exact yN rfl) (s:lB e (iE (.Name x pos')) pos.line X.env=pure false:=by rfl)
  (t:X.fn x=iJ\/X.env.scope.names.lookup x=iE .local:=by first | exact .inl rfl | exact .inr rfl):PS X (.Assign [.Name x pos'] e pos) (tSt C own (i::vL own [i]) (jx i fe)):=by
 refine QD (qd5 w hi hx u s t) λD σ H ⟨F,ρ,k,h⟩=>⟨F,ρ,k,?_⟩
 unfold jx at h;cases q:fe ρ with
 | ok p=>
  rw [q] at h;obtain ⟨d,ρ1⟩:=p;intro v F1 H1 r A m;obtain ⟨a,rfl,n,E,o⟩:=m;by_cases z:i < ρ1.length
  ·have h1:PoS C own (i::vL own [i]) σ F H (if i < ρ1.length then .ok (.nx,ρ1.set i (iE d)) else .bad) D:=h;rw [Aa z] at h1;refine h1 _ F1 H1 ⟨r.putO z E (λy=>(k.OA_there y).1 n) o,A,λb y=>?_,λj G=>aB λy=>f (by rw [y]; exact G)⟩;obtain ⟨j,G,e⟩:=y;by_cases g:j=i;·subst g;rw [aO (by rw [r.len]; exact z)] at e;cases e;exact .inr n
   ·have l:=(jf j).mp ((ae.mp G).resolve_left g);rw [aB (bw g)] at e;exact .inl ⟨j,l.1,e⟩
  ·have h1:PoS C own (i::vL own [i]) σ F H (if i < ρ1.length then .ok (.nx,ρ1.set i (iE d)) else .bad) D:=h;rw [Ab z] at h1;exact h1.elim
 | exc c=>rw [q] at h; exact h
 | bad=>rw [q] at h; exact h.elim
end
inductive AK where
 | vl | sl (i:Nat) | fr
 deriving DecidableEq
def ArgV (K:Frag) (H0 F H:Hp) (σ:St):List AK->List V->List D->Prop
 | [],[],[]=>True
 | .vl::as,v::vs,d::ds=>Is K F v d/\ArgV K H0 F H σ as vs ds
 | .sl i::as,v::vs,d::ds=>σ[i]?=iE (iE v)/\d=.non/\ArgV K H0 F H σ as vs ds
 | .fr::as,v::vs,d::ds=>MoIs K .fr H0 F H v d/\ArgV K H0 F H σ as vs ds
 | _,_,_=>False
variable {A:Addr->Prop} {H0 H':Hp}
theorem ArgV.grow {F':Hp} (c:Chg A F H F' H') (hA:∀ x,A x->H0 x≠iG):∀ {as:List AK} {vs:List V} {ds:List D},ArgV K H0 F H σ as vs ds->ArgV K H0 F' H' σ as vs ds
 | [],[],[],h=>trivial
 | .vl::as,v::vs,d::ds,h=>⟨h.1.mono c.grow,ArgV.grow c hA h.2⟩
 | .sl i::as,v::vs,d::ds,h=>⟨h.1,h.2.1,ArgV.grow c hA h.2.2⟩
 | .fr::as,v::vs,d::ds,h=>⟨h.1.grow (by decide) c hA,ArgV.grow c hA h.2⟩
 | [],_::_,_,h=>h.elim
 | [],[],_::_,h=>h.elim
 | .vl::_,[],_,h=>h.elim
 | .vl::_,_::_,[],h=>h.elim
 | .sl _::_,[],_,h=>h.elim
 | .sl _::_,_::_,[],h=>h.elim
 | .fr::_,[],_,h=>h.elim
 | .fr::_,_::_,[],h=>h.elim
theorem ArgV.back {F0:Hp} (c:Chg A F0 H0 F1 H1):∀ {as:List AK} {vs:List V} {ds:List D},ArgV K H1 F H σ as vs ds->ArgV K H0 F H σ as vs ds
 | [],[],[],h=>trivial
 | .vl::as,v::vs,d::ds,h=>⟨h.1,ArgV.back c h.2⟩
 | .sl i::as,v::vs,d::ds,h=>⟨h.1,h.2.1,ArgV.back c h.2.2⟩
 | .fr::as,v::vs,d::ds,h=>⟨MoIs.back (Ha:=H1) c h.1,ArgV.back c h.2⟩
 | [],_::_,_,h=>h.elim
 | [],[],_::_,h=>h.elim
 | .vl::_,[],_,h=>h.elim
 | .vl::_,_::_,[],h=>h.elim
 | .sl _::_,[],_,h=>h.elim
 | .sl _::_,_::_,[],h=>h.elim
 | .fr::_,[],_,h=>h.elim
 | .fr::_,_::_,[],h=>h.elim
def PoA (C:Ct) (own:List Nat) (as:List AK) (σ:St) (F H:Hp) (r:Out (List D×Sl)) (Q:List V->Hp->Prop):Prop:=match r with
 | .ok (ds,ρ')=>∀ vs F' H',Rep C.K own F' H' σ ρ'->Chg (OA own σ) F H F' H'->ArgV C.K H F' H' σ as vs ds->Q vs H'
 | .exc c ρ'=>∀ F' H',Same F' H'->qcd C.K C.ox F' H' σ ρ'->Chg (OA own σ) F H F' H'->C.E (C.cv c) iG H'
 | .bad=>False
abbrev wT:=Sl->Out (List D×Sl)
def tAr (C:Ct) (own:List Nat) (as:List AK) (f:wT):TA:=λσ H Q=>∃ F ρ,Rep C.K own F H σ ρ/\PoA C own as σ F H (f ρ) Q
variable {as:List AK}
theorem PoA.bindV {ma:Mo} {o:Vo} {k:D×Sl->Out (List D×Sl)} {Q:List V->Hp->Prop} {R:VK} (hp:PoA C own as σ F H (o.bind k) Q)
  (h:∀ v F1 H1 d ρ1,Rep C.K own F1 H1 σ ρ1->Chg (OA own σ) F H F1 H1->MoIs C.K ma H F1 H1 v d->PoA C own as σ F H (k (d,ρ1)) Q->R v H1):Po C own ma σ F H o R:=by
 cases o with
 | ok p=>obtain ⟨d,ρ1⟩:=p;exact λv F1 H1 a c mo=>h v F1 H1 d ρ1 a c mo hp
 | exc x=>exact hp
 | bad=>exact hp.elim
theorem Po.bindA {as:List AK} {o:Out (List D×Sl)} {k:List D×Sl->Vo} {Q:VK} {R:List V->Hp->Prop} (hp:Po C own m σ F H (o.bind k) Q)
  (h:∀ vs F1 H1 ds ρ1,Rep C.K own F1 H1 σ ρ1->Chg (OA own σ) F H F1 H1->ArgV C.K H F1 H1 σ as vs ds->Po C own m σ F1 H1 (k (ds,ρ1)) Q->R vs H1):PoA C own as σ F H o R:=by
 cases o with
 | ok p=>obtain ⟨d,ρ1⟩:=p;exact λvs F1 H1 a c v=>h vs F1 H1 d ρ1 a c v (Po.shift (show Po C own m σ F H (k (d,ρ1)) Q from hp) c)
 | exc x=>exact hp
 | bad=>exact hp.elim
noncomputable def qx:wT:=λρ=>.ok ([],ρ)
noncomputable def qc (fe:qY) (fr:wT):wT:=λρ=>(fe ρ).bind λp=>(fr p.2).bind λq=>.ok (p.1::q.1,q.2)
noncomputable def kj (fr:wT):wT:=λρ=>(fr ρ).bind λq=>.ok (D.non::q.1,q.2)
variable {es:List Expr} {p:Addr} {u:HO}
section
variable {fe:qY} {fr:wT}
theorem qfn {t t':TA} (h:PA X es t) (i:∀ σ H Q,t' σ H Q->t σ H Q):PA X es t':=⟨λpos pins s σ H Q I w=>h pos pins s σ H Q I (i σ H Q w)⟩
theorem qe:PA X [] (tAr C own [] qx):=qfn jB λσ H Q ⟨F,ρ,a,h⟩=>h [] F H a .refl trivial
theorem Vw {a:AK} {Q:List V->Hp->Prop} {v:V} (h:∀ x,OA own σ x->H x≠iG) (e:Rep C.K own F1 H1 σ ρ1) (k:Chg (OA own σ) F H F1 H1) (hp:PoA C own (a::as) σ F H ((fr ρ1).bind λq=>.ok (d::q.1,q.2)) Q)
  (g:∀ b H2 vs ds,Chg (OA own σ) F1 H1 b H2->ArgV C.K H b H2 σ as vs ds->ArgV C.K H b H2 σ (a::as) (v::vs) (d::ds)):tAr C own as fr σ H1 λxs H2=>Q (v::xs) H2:=by
 refine ⟨F1,ρ1,e,?_⟩;cases q:fr ρ1 with
 | ok p=>rw [q] at hp;obtain ⟨ds,ρ2⟩:=p;exact λvs b H2 r c2 f=>hp (v::vs) b H2 r (k.trans' c2) (g b H2 vs ds c2 (ArgV.back k f))
 | exc c=>rw [q] at hp; exact λF' H' s io U=>hp F' H' s io (k.trans' U)
 | bad=>rw [q] at hp; exact hp.elim
theorem qa (g:PE X e (tE C own m fe)) (f:PA X es (tAr C own as fr)) (b:m≠.any:=by decide) (s:iN (e::es) X.env=(iI,eval e X.env)::iN es X.env:=by exact jW rfl):PA X (e::es) (tAr C own (.vl::as) (qc fe fr)):=by
 refine qfn (qM (wX g b) f s) λσ H Q ⟨F,ρ,r,h⟩=>⟨F,ρ,r,PoA.bindV h λv F1 H1 d ρ1 a k c h1=>?_⟩
 exact Vw (λx z=>(r.OA_there z).1) a k h1 λj H2 vs ds c2 i=>⟨Is.mono c2.grow c,i⟩
theorem kx {px:Pos} (e:X.N[i]?=iE x) (c:Vis X.env.scope x) (l:i∈own) (f:PA X es (tAr C own as fr)) (s:iN (.Name x px::es) X.env=(iI,eval (.Name x px) X.env)::iN es X.env:=by rfl)
  (hd:Dbg x:=by decide) (b:Cdk x:=by decide):PA X (.Name x px::es) (tAr C own (.sl i::as) (kj fr)):=by
 refine qfn (qM (wK e c hd b) f s) λσ H Q ⟨F,ρ,r,h⟩=>?_;obtain ⟨d,hd⟩:=r.opn i l;obtain ⟨a,h1,h2,g⟩:=r.ow i d l hd;exact ⟨_,h1,Vw (λx z=>(r.OA_there z).1) r .refl h λj H2 vs ds c2 v=>⟨h1,rfl,v⟩⟩
theorem ArgV.isL:∀ {as:List AK} {vs:List V} {ds:List D},(as.all λa=>decide (a=.vl))=iJ->ArgV K H0 F H σ as vs ds->IsL K F vs ds
 | [],[],[],_,_=>.nil
 | .vl::as,v::vs,d::ds,h,a=>.cons a.1 (ArgV.isL (by simpa using h) a.2)
 | .sl i::as,_,_,h,a=>by simp at h
 | .fr::as,_,_,h,a=>by simp at h
 | [],_::_,_,_,h=>h.elim
 | [],[],_::_,_,h=>h.elim
 | .vl::_,[],_,_,h=>h.elim
 | .vl::_,_::_,[],_,h=>h.elim
noncomputable def yP (fr:wT):qY:=λρ=>(fr ρ).bind λp=>if p.1.length<=sizeLine then .ok (.tup p.1,p.2) else .bad
noncomputable def yd (fr:wT):qY:=λρ=>(fr ρ).bind λp=>if p.1.length<=sizeLine then .ok (.lst p.1,p.2) else .bad
theorem qhQ (a:Rep C.K own F H σ ρ) (hp:H p=iG):Rep C.K own (upd F p u) (upd H p u) σ ρ/\Chg No F H (upd F p u) (upd H p u):=by
 have E:F p=none:=by
  cases q:F p with
  | none=>rfl
  | some o=>rw [a.sub p o q] at hp; cases hp
 have c:Chg No F H (upd F p u) (upd H p u):=⟨λb o e _=>by rw [qB (qJ e hp)]; exact e,λb e=>by
  by_cases q:b=p;·rw [q,qm]; simp
  ·rw [qB q]; exact e,λb o e=>by rw [qB (qJ e E)]; exact e,λb e=>by
  by_cases q:b=p;·exact .inr (.inl (by rw [q]; exact hp))
  ·rw [qB q] at e; exact .inl e⟩
 refine ⟨a.grow c λb o e=>?_,c⟩;by_cases q:b=p;·subst q; rw [qm] at e ⊢; exact e
 ·rw [qB q] at e ⊢; exact a.sub b o e
theorem GR (a:Rep C.K own F H σ ρ) (hp:H p=iG):Rep C.K own F (upd H p u) σ ρ/\Chg No F H F (upd H p u)/\F p=none:=by
 have E:F p=none:=by
  cases q:F p with
  | none=>rfl
  | some o=>rw [a.sub p o q] at hp; cases hp
 have c:Chg No F H F (upd H p u):=⟨λb o e _=>by rw [qB (qJ e hp)]; exact e,λb e=>by
  by_cases q:b=p;·rw [q,qm]; simp
  ·rw [qB q]; exact e,Same.refl _,λb e=>.inl e⟩
 exact ⟨a.grow c λb o e=>by rw [qB (qJ e E)]; exact a.sub b o e,c,E⟩
theorem kM {x1} (h:PA X es (tAr C own as fr)) (g:(as.all λa=>decide (a=.vl))=true:=by decide):PE X (.Tuple es x1 pos) (tE C own .sh (yP fr)):=by
 refine jE (qhr h) λσ H Q ⟨F,ρ,c,h⟩=>⟨F,ρ,c,Po.bindA h λvs F1 H1 ds ρ1 b k v h1=>?_⟩
 have i:=v.isL g;have h1:Po C own .sh σ F1 H1 (if ds.length<=sizeLine then .ok (.tup ds,ρ1) else .bad) Q:=h1;by_cases z:ds.length<=sizeLine;·rw [Aa z] at h1;refine ⟨by rw [i.length]; exact z,λp hp=>?_⟩;obtain ⟨r,c2⟩:=qhQ (u:=.tup vs) b hp;exact h1 _ _ _ r c2.ofNo (.tup (.inl (.inl qm)) (i.mono c2.grow))
 ·rw [Ab z] at h1; exact h1.elim
theorem jX (h:PA X es (tAr C own as fr)) (g:(as.all λa=>decide (a=.vl))=true:=by decide):PE X (.List es pos) (tE C own .fr (yd fr)):=by
 refine jE (qhs h) λσ H Q ⟨F,ρ,c,h⟩=>⟨F,ρ,c,Po.bindA h λvs F1 H1 ds ρ1 b k v h1=>?_⟩
 have i:=v.isL g;have h1:Po C own .fr σ F1 H1 (if ds.length<=sizeLine then .ok (.lst ds,ρ1) else .bad) Q:=h1;by_cases z:ds.length<=sizeLine;·rw [Aa z] at h1;refine ⟨by rw [i.length]; exact z,λp hp=>?_⟩;obtain ⟨r,c2,E⟩:=GR (u:=.lst vs) b hp;exact h1 _ _ _ r c2.ofNo ⟨p,rfl,hp,E,vs,qm,i⟩
 ·rw [Ab z] at h1; exact h1.elim
theorem zX:PE X (.Dict [] [] pos) (tE C own .fr (dC (.dct []))):=by refine jE qcy λσ H Q ⟨F,ρ,a,h⟩ p hp=>?_;obtain ⟨r,c2,E⟩:=GR (u:=.dK []) a hp;exact h _ _ _ r c2.ofNo ⟨p,rfl,hp,E,[],qm,.nil⟩
noncomputable def ixD:D->D->Out D
 | .lst xs,.int i=>match atI xs i with
  | some d=>.ok d
  | none=>.bad
 | .tup xs,.int i=>match atI xs i with
  | some d=>.ok d
  | none=>.bad
 | .str x,.int i=>match atI x.cps.toList i with
  | some c=>.ok (.str ⟨#[c]⟩)
  | none=>.bad
 | .dct kvs,.str x=>match (kvs.find? λkv=>decide (kv.1=aU x)) with
  | some kv=>.ok kv.2
  | none=>.bad
 | .dct kvs,.int x=>match (kvs.find? λkv=>decide (kv.1=fg x)) with
  | some kv=>.ok kv.2
  | none=>.bad
 | _,_=>.bad
theorem IsL.atI {i:Int} (h:IsL K F vs ds) (e:L2.atI ds i=iE d):∃ v,L2.atI vs i=iE v/\Is K F v d:=by
 unfold L2.atI at e ⊢;rw [h.length];cases q:ixN ds.length i with
 | none=>rw [q] at e; cases e
 | some j=>rw [q] at e;exact h.getD e
theorem IsK.find {k:Key}:∀ {vs:List (Key×V)} {ds:List (Key×D)} {d:Key×D},IsK K F vs ds->(ds.find? λkv=>decide (kv.1=k))=iE d->∃ v,WR vs k=iE v/\Is K F v d.2
 | _,_,_,.nil,e=>by simp at e
 | _,_,d,.cons (k:=k') (vs:=vs) h t,e=>by
  by_cases q:k'=k;·rw [bx (by simp [q])] at e;cases e;exact ⟨_,zV q,h⟩
  ·rw [bg (by simp [q])] at e;obtain ⟨v,h1,h2⟩:=IsK.find t e;exact ⟨v,by rw [yM q]; exact h1,h2⟩
theorem JM (c:Nat):(⟨#[c]⟩:Str).length<=sizeLine:=by show 1<=sizeLine;rw [iT]; decide
def qlr (K:Frag):R2:=λx y H Q=>rIx K x y H Q\/∃ a v,x=.ref a/\DGet H a y (iE v)/\Q v H
theorem qd8 (f:X.A.units+1 < k7):IxR X (qlr X.K):=by
 refine IxR.or qhx ?_;intro value e pins s σ H x y v u Q I d c h b;obtain ⟨a,w,rfl,g,q⟩:=h;cases d;obtain ⟨T,ht⟩:∃ T,s.TypeIs (.ref a) T/\T = "dict":=⟨_,WT I g,rfl⟩
 obtain ⟨ht,rfl⟩:=ht;exact tail_any ht PySem.slot_dict_getitem.lookup (GC f I g c λj s' i r=>⟨w,H,i,r,q⟩) b
end
variable {T:String}
section
variable {a b:Expr} {f fa fb:qY}
theorem qd9 {σ:St} {x y:V} {dx b:D} {Q:VK} (n:C.K=X.K) (A:Same F H) (tx:TopIs C.K F H x dx) (ty:TopIs C.K F H y b) (po:PoV C .sh F H (ixD dx b) Q):qlr X.K x y H Q:=by
 rw [n] at tx ty;cases dx with
 | lst xs=>
  cases b <;> try exact po.elim
  rename_i i;obtain rfl:=ty.int;obtain ⟨a,vs,rfl,p,t⟩:=tx.lst A;unfold ixD at po;cases e:L2.atI xs i with
  | none=>simp only [e] at po; exact po.elim
  | some d=>simp only [e] at po;obtain ⟨v,h1,h2⟩:=t.atI e;exact .inl (.inl ⟨a,vs,i,v,rfl,rfl,p,h1,po v F H A .refl (by rw [n]; exact h2)⟩)
 | tup xs=>
  cases b <;> try exact po.elim
  rename_i i;obtain rfl:=ty.int;obtain ⟨a,vs,rfl,p,t⟩:=tx.tup A;unfold ixD at po;cases e:L2.atI xs i with
  | none=>simp only [e] at po; exact po.elim
  | some d=>simp only [e] at po;obtain ⟨v,h1,h2⟩:=t.atI e;exact .inl (.inr (.inl ⟨a,vs,i,v,rfl,rfl,p,h1,po v F H A .refl (by rw [n]; exact h2)⟩))
 | str z=>
  cases b <;> try exact po.elim
  rename_i i;obtain rfl:=ty.int;obtain ⟨rfl,h⟩:=tx.str;unfold ixD at po;cases e:L2.atI z.cps.toList i with
  | none=>simp only [e] at po; exact po.elim
  | some c=>simp only [e] at po;exact .inl (.inr (.inr ⟨z,i,c,rfl,rfl,h,e,po _ F H A .refl (.str (JM c))⟩))
 | dct kvs=>
  obtain ⟨a,kv,rfl,p,t⟩:=tx.dct A;cases b with
  | int i=>
   obtain rfl:=ty.int;unfold ixD at po;cases e:(kvs.find? λkv=>decide (kv.1=fg i)) with
   | none=>simp only [e] at po; exact po.elim
   | some d=>simp only [e] at po;obtain ⟨v,h1,h2⟩:=t.find e;exact .inr ⟨a,v,rfl,by rw [<-h1]; exact DGet.k (k:=fg i) p,po v F H A .refl (by rw [n]; exact h2)⟩
  | str z=>
   obtain ⟨rfl,_⟩:=ty.str;unfold ixD at po;cases e:(kvs.find? λkv=>decide (kv.1=aU z)) with
   | none=>simp only [e] at po; exact po.elim
   | some d=>simp only [e] at po;obtain ⟨v,h1,h2⟩:=t.find e;exact .inr ⟨a,v,rfl,by rw [<-h1]; exact DGet.k (k:=aU z) p,po v F H A .refl (by rw [n]; exact h2)⟩
  | _=>exact po.elim
 | _=>exact po.elim
theorem qkD (u:C.K=X.K) (D:X.A.units+64 < k7) (t:PE X a (tE C own ma fa)) (o:PE X b (tE C own mb fb)) (n:JG b) (j:ma≠.any:=by decide):PE X (.Subscript a b pos) (tE C own .sh (d2 ixD fa fb)):=by
 refine jE (qhu (qd8 (by lia)) t o n) λσ H Q h=>?_;obtain ⟨F,ρ,l,h⟩:=Vp (mb:=mb) j h;refine ⟨F,ρ,l,?_⟩;cases q:fa ρ with
 | ok p=>
  rw [q] at h;obtain ⟨d,ρ1⟩:=p;intro v F1 H1 f x i;obtain ⟨B,ρ2,e,h2⟩:=h v F1 H1 f x i;refine ⟨B,ρ2,e,?_⟩;cases g:fb ρ2 with
  | ok p=>rw [g] at h2;obtain ⟨d',k⟩:=p;intro w z y r J m;obtain ⟨M,dx,E,s,tx,ty,po⟩:=h2 w z y r J m;exact qd9 (σ:=σ) u s tx ty po
  | exc c=>rw [g] at h2; exact h2
  | bad=>rw [g] at h2; exact h2.elim
 | exc c=>rw [q] at h; exact h
 | bad=>rw [q] at h; exact h.elim
def xH (X:Cx) (C:Ct) (m:Mo) (f:iH) (g:D->Out D):Prop:=wU X f (λxs H Q=>∃ x F dx,xs=[x]/\Same F H/\TopIs C.K F H x dx/\PoV C m F H (g dx) Q)
theorem xI {Q:VK} {g:D->Out D} (h:tE C own m (d1 g fa) σ H Q):qcr (tE C own ma fa) qjL σ H λxs H1=>∃ x F dx,xs=[x]/\Same F H1/\TopIs C.K F H1 x dx/\PoV C m F H1 (g dx) Q:=by
 obtain ⟨F,ρ,r,h⟩:=qcB (ma:=ma) h;refine ⟨F,ρ,r,?_⟩;cases q:fa ρ with
 | ok p=>rw [q] at h;obtain ⟨d,ρ1⟩:=p;intro v F1 H1 a k b;obtain ⟨e,dx,A,tx,po⟩:=h v F1 H1 a k b;exact ⟨v,e,dx,rfl,A,tx,po⟩
 | exc c=>rw [q] at h; exact h
 | bad=>rw [q] at h; exact h.elim
theorem qw {id:String} {p:Pos} {g:D->Out D} (d:xH X C m (.builtin id) g) (hg:Gl X x) (a:X.mg x=iG) (c:iO x=iE (.builtin id)) (f:PE X e (tE C own ma fa)) (n:x ≠ "__name__":=by decide) (b:Dbg x:=by decide)
  (i:iN [e] X.env=[(iI,eval e X.env)]:=by exact qE rfl):PE X (.Call (.Name x p) [e] [] pos) (tE C own m (d1 g fa)):=
 jE (yK d hg a c (qM f jB i) n b (by rw [i]; rfl) rfl) λ_ _ _ h=>xI h
theorem jC {p:Pos} {g:D->Out D} (d:xH X C m (.type T) g) (hg:Gl X x) (a:X.mg x=iG) (c:iO x=iE (.type T)) (f:PE X e (tE C own ma fa)) (n:x ≠ "__name__":=by decide) (b:Dbg x:=by decide)
  (i:iN [e] X.env=[(iI,eval e X.env)]:=by exact qE rfl):PE X (.Call (.Name x p) [e] [] pos) (tE C own m (d1 g fa)):=
 jE (kZ d hg a c (qM f jB i) n b (by rw [i]; rfl) rfl) λ_ _ _ h=>xI h
noncomputable def ky:D->Out D
 | .str x=>.ok (.int x.length)
 | .lst xs=>.ok (.int xs.length)
 | .tup xs=>.ok (.int xs.length)
 | .dct xs=>.ok (.int xs.length)
 | _=>.bad
theorem IsK.length:∀ {vs:List (Key×V)} {ds:List (Key×D)},IsK K F vs ds->vs.length=ds.length
 | _,_,.nil=>rfl
 | _,_,.cons _ t=>congrArg (·+1) (IsK.length t)
theorem jj (n:C.K=X.K):xH X C .sh (.builtin "len") ky:=by
 intro pins s σ H xs us Q I r h;obtain ⟨x,F,dx,rfl,A,tx,po⟩:=h;cases dx with
 | str z=>obtain ⟨rfl,b⟩:=tx.str;exact JF pins s σ H _ us Q I r ⟨_,_,rfl,⟨b,rfl⟩,po _ F H A .refl (.int _)⟩
 | lst ds=>obtain ⟨a,vs,rfl,p,t⟩:=tx.lst A;exact JF pins s σ H _ us Q I r ⟨_,ds.length,rfl,.inl ⟨vs,by rw [<-n]; exact p,t.length.symm⟩,po _ F H A .refl (.int _)⟩
 | tup ds=>obtain ⟨a,vs,rfl,p,t⟩:=tx.tup A;exact JF pins s σ H _ us Q I r ⟨_,ds.length,rfl,.inr ⟨vs,by rw [<-n]; exact p,t.length.symm⟩,po _ F H A .refl (.int _)⟩
 | dct ds=>obtain ⟨a,vs,rfl,p,t⟩:=tx.dct A;refine GF pins s σ H _ us Q I r ⟨a,vs,rfl,p,?_⟩;rw [t.length];exact po _ F H A .refl (.int _)
 | _=>exact po.elim
noncomputable def vz:D->D->Out D
 | .int i,.int j=>.ok (.int (i+j))
 | .str x,.str y=>if x.length+y.length<=sizeLine then .ok (.str (x++y)) else .bad
 | .lst xs,.lst ys=>if xs.length+ys.length<=sizeLine then .ok (.lst (xs++ys)) else .bad
 | .tup xs,.tup ys=>if xs.length+ys.length<=sizeLine then .ok (.tup (xs++ys)) else .bad
 | _,_=>.bad
theorem gt (A:Same F H) (hp:H p=iG):Same (upd F p u) (upd H p u)/\Chg No F H (upd F p u) (upd H p u):=by
 have E:F p=none:=by
  cases q:F p with
  | none=>rfl
  | some o=>rw [A p o q] at hp; cases hp
 refine ⟨λb o e=>?_,⟨λb o e _=>by rw [qB (qJ e hp)]; exact e,λb e=>?_,λb o e=>by rw [qB (qJ e E)]; exact e,λb e=>?_⟩⟩
 ·by_cases q:b=p;·subst q; rw [qm] at e ⊢; exact e
  ·rw [qB q] at e ⊢; exact A b o e
 ·by_cases q:b=p;·rw [q,qm]; simp
  ·rw [qB q]; exact e
 ·by_cases q:b=p;·exact .inr (.inl (by rw [q]; exact hp))
  ·rw [qB q] at e; exact .inl e
theorem jV (A:Same F H) (hp:H p=iG):Same F (upd H p u)/\Chg No F H F (upd H p u)/\F p=none:=by
 have E:F p=none:=by
  cases q:F p with
  | none=>rfl
  | some o=>rw [A p o q] at hp; cases hp
 refine ⟨λb o e=>by rw [qB (qJ e E)]; exact A b o e,⟨λb o e _=>by rw [qB (qJ e hp)]; exact e,λb e=>?_,Same.refl _,λb e=>.inl e⟩,E⟩;by_cases q:b=p;·rw [q,qm]; simp
 ·rw [qB q]; exact e
theorem WZ (x y:Str):(x++y).length=x.length+y.length:=by show (x.cps++y.cps).size=_;simp [fY]
theorem qfo:OpR X (k6 .Add) (λx y H Q=>∃ l b xs zs,x=.ref l/\y=.ref b/\SqL X.K H l xs/\SqL X.K H b zs/\xs.length+zs.length<=sizeLine/\∀ p,H p=iG->Q (.ref p) (upd H p (.lst (xs++zs)))):=by
 intro pins s σ H x y v u Q I k r h;obtain ⟨l,b,xs,zs,rfl,rfl,h1,h2,z,q⟩:=h;cases k;cases r;obtain ⟨its,r1,p1,_⟩:=I.list h1;obtain ⟨i,r2,p2,_⟩:=I.list h2;obtain ⟨⟨cls,dd,data,sl⟩,o,f,n,hd⟩:=id p1.isList;obtain ⟨⟨j,e,g,d⟩,a,c,n2,hd2⟩:=id p2.isList;simp only at f hd c hd2;subst f hd c hd2;have t:=r1.length;have m:=r2.length;refine mF ⟨_,o,rfl⟩ ⟨_,a,rfl⟩ noFill_list_add seq_list_add PySem.F.slot_list_add PySem.F.entry_list_add (PySem.F.args_list_add_2 _ _)
  (list_addW l b its.toArray i.toArray n n2 dd e sl d (by simp only [ax]; lia)) ⟨o,a,?_⟩
 have w:its.toArray++i.toArray=(its++i).toArray:=by simp
 rw [w];exact ⟨.ref _,_,I.lnew (t':=s.toks) (r1.append r2) (by rw [ai]; exact z),rfl,q _ I.fresh⟩
theorem qfp:OpR X (k6 .Add) (λx y H Q=>∃ a b ys,x=.ref a/\y=.ref b/\SqT X.K H a []/\SqT X.K H b ys/\Q (.ref b) H):=by
 intro pins s σ H x y v u Q I m r h;obtain ⟨a,b,ys,rfl,rfl,h1,h2,q⟩:=h;cases m;cases r;obtain ⟨its,r1,p1,_⟩:=I.tuple h1;obtain ⟨i,r2,p2,_⟩:=I.tuple h2;cases r1;obtain ⟨⟨cls,dd,data,sl⟩,l,j,n,hd⟩:=id p1;obtain ⟨⟨k,f,g,e⟩,c,d,n2,hd2⟩:=id p2;simp only at j hd d hd2;subst j hd d hd2;exact mF ⟨_,l,rfl⟩ ⟨_,c,rfl⟩ noFill_tuple_add seq_tuple_add eh dX (dL _ _)
  (tuple_addW0 a b _ _ n n2 dd f sl e rfl) ⟨l,c,⟨.ref b,H,I,rfl,q⟩⟩
theorem jU (n:C.K=X.K):OpD X C .sh (k6 .Add) vz:=by
 intro pins s σ H x y v u Q I d c h;obtain ⟨F,dx,f,A,tx,ty,po⟩:=h;cases dx with
 | int i=>
  cases f <;> try exact po.elim
  obtain rfl:=tx.int;obtain rfl:=ty.int;exact qhk pins s σ H _ _ v u Q I d c ⟨_,_,rfl,rfl,po _ F H A .refl (.int _)⟩
 | str a=>
  cases f <;> try exact po.elim
  rename_i b;obtain ⟨rfl,_⟩:=tx.str;obtain ⟨rfl,_⟩:=ty.str;have po:PoV C .sh F H (if a.length+b.length<=sizeLine then .ok (.str (a++b)) else .bad) Q:=po;by_cases z:a.length+b.length<=sizeLine;·rw [Aa z] at po;exact Za pins s σ H _ _ v u Q I d c ⟨_,_,rfl,rfl,z,po _ F H A .refl (.str (by rw [WZ]; exact z))⟩
  ·rw [Ab z] at po; exact po.elim
 | lst xs=>
  cases f <;> try exact po.elim
  rename_i ys;obtain ⟨a,vs,rfl,p1,t1⟩:=tx.lst A;obtain ⟨b,ws,rfl,p2,t2⟩:=ty.lst A;have po:PoV C .sh F H (if xs.length+ys.length<=sizeLine then .ok (.lst (xs++ys)) else .bad) Q:=po;by_cases z:xs.length+ys.length<=sizeLine;·rw [Aa z] at po;refine qfo pins s σ H _ _ v u Q I d c ⟨a,b,vs,ws,rfl,rfl,by rw [<-n]; exact p1,by rw [<-n]; exact p2,by rw [t1.length,t2.length]; exact z,λp hp=>?_⟩;obtain ⟨s2,c2⟩:=gt (u:=.lst (vs++ws)) A hp;exact po _ _ _ s2 c2 (.lst (.inl (.inl qm)) ((t1.append t2).mono c2.grow))
  ·rw [Ab z] at po; exact po.elim
 | tup xs=>
  cases f <;> try exact po.elim
  rename_i ys;obtain ⟨a,vs,rfl,p1,t1⟩:=tx.tup A;obtain ⟨b,ws,rfl,p2,t2⟩:=ty.tup A;have po:PoV C .sh F H (if xs.length+ys.length<=sizeLine then .ok (.tup (xs++ys)) else .bad) Q:=po;by_cases z:xs.length+ys.length<=sizeLine
  ·rw [Aa z] at po;cases vs with
   | nil=>
    cases t1;rcases ty with ty | ⟨_,_,ty⟩
    ·exact qfp pins s σ H _ _ v u Q I d c ⟨a,b,ws,rfl,rfl,by rw [<-n]; exact p1,by rw [<-n]; exact p2,po _ F H A .refl ty⟩
    ·exact ty.elim
   | cons g vs=>
    refine qe9 pins s σ H _ _ v u Q I d c ⟨a,b,g::vs,ws,rfl,rfl,by rw [<-n]; exact p1,by rw [<-n]; exact p2,by simp,by rw [t1.length,t2.length]; exact z,λe=>?_,λe p hp=>?_⟩
    ·subst e;cases t2;rcases tx with tx | ⟨_,_,tx⟩
     ·refine po _ F H A .refl ?_;rw [aY];exact tx
     ·exact tx.elim
    ·obtain ⟨s2,c2⟩:=gt (u:=.tup (g::vs++ws)) A hp;exact po _ _ _ s2 c2 (.tup (.inl (.inl qm)) ((t1.append t2).mono c2.grow))
  ·rw [Ab z] at po; exact po.elim
 | _=>exact po.elim
end
inductive PM where
 | val | io | tk
 deriving DecidableEq
noncomputable def zG:List PM->List V->List Addr
 | .val::ms,_::vs=>zG ms vs
 | .io::ms,.ref a::vs=>a::zG ms vs
 | .tk::ms,.ref a::vs=>a::zG ms vs
 | _::ms,_::vs=>zG ms vs
 | _,_=>[]
def ArgsIs (K:Frag) (F H:Hp):List PM->List V->List D->Prop
 | [],[],[]=>True
 | .val::ms,v::vs,d::ds=>Is K F v d/\ArgsIs K F H ms vs ds
 | .io::ms,v::vs,d::ds=>(∃ a,v=.ref a/\F a=iG/\OwnIs K F H a d)/\ArgsIs K F H ms vs ds
 | .tk::ms,v::vs,d::ds=>(∃ a,v=.ref a/\F a=iG/\OwnIs K F H a d)/\ArgsIs K F H ms vs ds
 | _,_,_=>False
def yQ (K:Frag) (F H:Hp):List PM->List V->List D->Prop
 | [],_,_=>True
 | .io::ms,v::vs,d::ds=>(∃ a,v=.ref a/\F a=iG/\OwnIs K F H a d)/\yQ K F H ms vs ds
 | _::ms,_::vs,_::ds=>yQ K F H ms vs ds
 | _,_,_=>False
abbrev LA (ms:List PM) (vs:List V):Addr->Prop:=λb=>b∈zG ms vs
def PoG (K:Frag) (cv:Str->iH) (ms:List PM) (mr:Mo) (vs:List V) (F H:Hp) (Q:VK) (E:XK) (o:Out (D×List D)):Prop:=match o with
 | .ok (d,outs)=>∀ v F' H',Same F' H'->Chg (LA ms vs) F H F' H'->yQ K F' H' ms vs outs->MoIs K mr H F' H' v d->Q v H'
 | .exc c o=>∀ F' H',Same F' H'->Chg (LA ms vs) F H F' H'->yQ K F' H' ms vs (o.map (·.getD .non))->E (cv c) iG H'
 | .bad=>False
abbrev jD:=List D->Out (D×List D)
def spD (K:Frag) (cv:Str->iH) (ms:List PM) (mr:Mo) (G:jD):Sp:=λvs H Q E=>∃ F ds,Same F H/\ArgsIs K F H ms vs ds/\(zG ms vs).Nodup/\PoG K cv ms mr vs F H Q E (G ds)
theorem ArgsIs.length:∀ {ms:List PM} {vs:List V} {ds:List D},ArgsIs K F H ms vs ds->vs.length=ms.length/\ds.length=ms.length
 | [],[],[],_=>⟨rfl,rfl⟩
 | .val::ms,v::vs,d::ds,h=>by have:=ArgsIs.length h.2; simp [this]
 | .io::ms,v::vs,d::ds,h=>by have:=ArgsIs.length h.2; simp [this]
 | .tk::ms,v::vs,d::ds,h=>by have:=ArgsIs.length h.2; simp [this]
 | [],_::_,_,h=>h.elim
 | [],[],_::_,h=>h.elim
 | .val::_,[],_,h=>h.elim
 | .val::_,_::_,[],h=>h.elim
 | .io::_,[],_,h=>h.elim
 | .io::_,_::_,[],h=>h.elim
 | .tk::_,[],_,h=>h.elim
 | .tk::_,_::_,[],h=>h.elim
noncomputable def kn (n:Nat):List PM->List Nat
 | []=>[]
 | .val::ms=>kn (n+1) ms
 | _::ms=>n::kn (n+1) ms
noncomputable def Yy (n:Nat):List PM->List Nat
 | []=>[]
 | .io::ms=>n::Yy (n+1) ms
 | _::ms=>Yy (n+1) ms
variable {n:Nat}
theorem yR:∀ {ms:List PM} {i:Nat},i∈kn n ms->n<=i/\i < n+ms.length:=by
 intro ms
 induction ms generalizing n with
 | nil=>intro i h; simp [kn] at h
 | cons m ms j=>
  intro i h;cases m with
  | val=>have:=j (n:=n+1) h; simp only [aq]; lia
  | io=>
   rcases ae.mp h with e | h;·simp only [aq]; lia
   ·have:=j (n:=n+1) h; simp only [aq]; lia
  | tk=>
   rcases ae.mp h with e | h;·simp only [aq]; lia
   ·have:=j (n:=n+1) h; simp only [aq]; lia
theorem qcH:∀ {ms:List PM} {i:Nat},i∈Yy n ms->i∈kn n ms:=by
 intro ms
 induction ms generalizing n with
 | nil=>intro i h; simp [Yy] at h
 | cons m ms j=>
  intro i h;cases m with
  | val=>exact j (n:=n+1) h
  | io=>
   rcases ae.mp h with e | h;·exact ae.mpr (.inl e)
   ·exact ac _ (j (n:=n+1) h)
  | tk=>exact ac _ (j (n:=n+1) h)
theorem Zg:∀ {ms:List PM} {vs:List V} {ds:List D} {n:Nat},ArgsIs K F H ms vs ds ->(∀ j d,ds[j]?=iE d->n+j∉kn n ms->∃ v,vs[j]?=iE v/\Is K F v d) /\
  (∀ j d,ds[j]?=iE d->n+j∈kn n ms->∃ a,vs[j]?=iE (.ref a)/\F a=iG/\OwnIs K F H a d):=by
 intro ms
 induction ms with
 | nil=>intro vs ds n h; cases vs <;> cases ds <;> first | exact h.elim | (refine ⟨λj d e=>?_,λj d e=>?_⟩ <;> simp at e)
 | cons m ms i=>
  intro vs ds n h;cases vs with
  | nil=>cases m <;> exact h.elim
  | cons v vs=>
   cases ds with
   | nil=>cases m <;> exact h.elim
   | cons d ds=>
    cases m with
    | val=>
     obtain ⟨h1,h2⟩:=h;obtain ⟨i1,i2⟩:=i (n:=n+1) h2;refine ⟨λj e G b=>?_,λj e G b=>?_⟩
     ·cases j with
      | zero=>simp at G; subst G; exact ⟨v,rfl,h1⟩
      | succ j=>simpa using i1 j e (by simpa using G) (by rw [show n+1+j=n+(j+1) by lia]; exact b)
     ·cases j with
      | zero=>have:=yR (n:=n+1) b; lia
      | succ j=>simpa using i2 j e (by simpa using G) (by rw [show n+1+j=n+(j+1) by lia]; exact b)
    | io=>
     obtain ⟨⟨a,rfl,h1⟩,h2⟩:=h;obtain ⟨i1,i2⟩:=i (n:=n+1) h2;refine ⟨λj e G b=>?_,λj e G b=>?_⟩
     ·cases j with
      | zero=>exact absurd (ae.mpr (.inl rfl)) b
      | succ j=>simpa using i1 j e (by simpa using G) (λz=>b (ac _ (by rw [show n+(j+1)=n+1+j by lia]; exact z)))
     ·cases j with
      | zero=>simp at G; subst G; exact ⟨a,rfl,h1⟩
      | succ j=>
       have c:n+1+j∈kn (n+1) ms:=by
        rcases ae.mp b with z | z
        ·lia
        ·rw [show n+1+j=n+(j+1) by lia]; exact z
       simpa using i2 j e (by simpa using G) c
    | tk=>
     obtain ⟨⟨a,rfl,h1⟩,h2⟩:=h;obtain ⟨i1,i2⟩:=i (n:=n+1) h2;refine ⟨λj e G b=>?_,λj e G b=>?_⟩
     ·cases j with
      | zero=>exact absurd (ae.mpr (.inl rfl)) b
      | succ j=>simpa using i1 j e (by simpa using G) (λz=>b (ac _ (by rw [show n+(j+1)=n+1+j by lia]; exact z)))
     ·cases j with
      | zero=>simp at G; subst G; exact ⟨a,rfl,h1⟩
      | succ j=>
       have c:n+1+j∈kn (n+1) ms:=by
        rcases ae.mp b with z | z
        ·lia
        ·rw [show n+1+j=n+(j+1) by lia]; exact z
       simpa using i2 j e (by simpa using G) c
theorem GS:∀ {ms:List PM} {vs:List V} {j:Nat} {a:Addr},n+j∈kn n ms->vs[j]?=iE (.ref a)->a∈zG ms vs:=by
 intro ms
 induction ms generalizing n with
 | nil=>intro vs j a h; simp [kn] at h
 | cons m ms i=>
  intro vs j a h e;cases vs with
  | nil=>simp at e
  | cons v vs=>
   cases j with
   | zero=>
    simp at e; subst e;cases m with
    | val=>have:=yR (n:=n+1) h; omega
    | io=>exact ae.mpr (.inl rfl)
    | tk=>exact ae.mpr (.inl rfl)
   | succ j=>
    have b:vs[j]?=iE (.ref a):=by simpa using e
    have sub:n+1+j∈kn (n+1) ms:=by
     rw [show n+1+j=n+(j+1) by omega];cases m with
     | val=>exact h
     | io=>exact (ae.mp h).resolve_left (by omega)
     | tk=>exact (ae.mp h).resolve_left (by omega)
    have q:=i (n:=n+1) sub b;cases m <;> cases v <;> first | exact q | exact ac _ q
theorem GT:∀ {ms:List PM} {vs:List V} {a:Addr},a∈zG ms vs->∃ j,n+j∈kn n ms/\vs[j]?=iE (.ref a):=by
 intro ms
 induction ms generalizing n with
 | nil=>intro vs a h; cases vs <;> simp [zG] at h
 | cons m ms i=>
  intro vs a h;cases vs with
  | nil=>cases m <;> simp [zG] at h
  | cons v vs=>
   have up:∀ {b},b∈zG ms vs->∃ j,n+j∈kn n (m::ms)/\(v::vs)[j]?=iE (.ref b):=λd=>by
    obtain ⟨j,h1,h2⟩:=i (n:=n+1) d;refine ⟨j+1,?_,by simpa using h2⟩;rw [show n+(j+1)=n+1+j by lia];cases m with
    | val=>exact h1
    | io=>exact ac _ h1
    | tk=>exact ac _ h1
   cases m with
   | val=>exact up (by cases v <;> exact h)
   | io=>
    cases v with
    | ref c=>
     rcases ae.mp h with e | h;·subst e; exact ⟨0,ae.mpr (.inl rfl),rfl⟩
     ·exact up h
    | _=>exact up h
   | tk=>
    cases v with
    | ref c=>
     rcases ae.mp h with e | h;·subst e; exact ⟨0,ae.mpr (.inl rfl),rfl⟩
     ·exact up h
    | _=>exact up h
theorem qcI:∀ {ms:List PM} {vs:List V} {i j:Nat} {a:Addr},(zG ms vs).Nodup->n+i∈kn n ms->n+j∈kn n ms->vs[i]?=iE (.ref a)->vs[j]?=iE (.ref a)->i=j:=by
 intro ms
 induction ms generalizing n with
 | nil=>intro vs i j a _ h; simp [kn] at h
 | cons m ms f=>
  intro vs i j a nd hi G e1 e;cases vs with
  | nil=>simp at e1
  | cons v vs=>
   have sub:∀ {k},n+(k+1)∈kn n (m::ms)->n+1+k∈kn (n+1) ms:=λ{k} h=>by
    rw [show n+1+k=n+(k+1) by lia];cases m with
    | val=>exact h
    | io=>exact (ae.mp h).resolve_left (by lia)
    | tk=>exact (ae.mp h).resolve_left (by lia)
   have d:(zG ms vs).Nodup:=by cases m <;> cases v <;> first | exact nd | exact (aH.mp nd).2
   have c:∀ {k b},n+0∈kn n (m::ms)->v=.ref b->n+(k+1)∈kn n (m::ms)->vs[k]?=iE (.ref b)->False:=λ{k b} o g l p=>by
    subst g;have q:=GS (n:=n+1) (sub l) p;cases m with
    | val=>have:=yR (n:=n+1) o; lia
    | io=>exact (aH.mp nd).1 q
    | tk=>exact (aH.mp nd).1 q
   cases i with
   | zero=>
    cases j with
    | zero=>rfl
    | succ j=>exact (c hi (by simpa using e1) G (by simpa using e)).elim
   | succ i=>
    cases j with
    | zero=>exact (c G (by simpa using e) hi (by simpa using e1)).elim
    | succ j=>exact congrArg (·+1) (f (n:=n+1) d (sub hi) (sub G) (by simpa using e1) (by simpa using e))
noncomputable def qt (N:List Str) (ds:List D):Sl:=ds.map iE++fG (N.length - ds.length) iG
variable {α:Type} {N:List Str}
theorem jY {xs:List α} {x:α}:(xs.map iE++fG (N.length - xs.length) iG)[i]?=iE (iE x)↔xs[i]?=iE x:=by
 by_cases h:i < xs.length
 ·rw [dF (by simpa using h),aF];cases e:xs[i]? with
  | none=>simp
  | some y=>simp
 ·rw [cr (by simpa using h),dU];have e:xs[i]?=none:=List.getElem?_eq_none_iff.mpr (by lia);rw [e];split <;> simp
variable {ms:List PM}
theorem GU (A:Same F H) (r:ArgsIs K F H ms vs ds) (nd:(zG ms vs).Nodup):Rep K (kn 0 ms) F H (yJ N vs) (qt N ds):=by
 obtain ⟨h1,h2⟩:=Zg (n:=0) r;obtain ⟨f,l⟩:=r.length;refine ⟨A,by simp [yJ,qt,f,l],λi d hi e=>?_,λi d hi e=>?_,λi hi=>?_,λi j a hi G e1 c=>?_⟩;·obtain ⟨v,a,b⟩:=h1 i d (jY.mp e) (by simpa using hi);exact ⟨v,jY.mpr a,b⟩
 ·obtain ⟨v,a,b⟩:=h2 i d (jY.mp e) (by simpa using hi);exact ⟨v,jY.mpr a,b⟩
 ·have q:=yR hi;have hl:i < ds.length:=by lia
  exact ⟨ds[i],jY.mpr (by simp [hl])⟩
 ·exact qcI (n:=0) nd (by simpa using hi) (by simpa using G) (jY.mp e1) (jY.mp c)
theorem qcJ:OA (kn 0 ms) (yJ N vs) b↔LA ms vs b:=by
 constructor;·rintro ⟨i,hi,e⟩;exact GS (n:=0) (by simpa using hi) (jY.mp e)
 ·intro h;obtain ⟨j,h1,h2⟩:=GT (n:=0) h;exact ⟨j,by simpa using h1,jY.mpr h2⟩
noncomputable def jZ (ρ:Sl):Nat->List PM->List D
 | _,[]=>[]
 | n,.io::ms=>((ρ[n]?).getD iG).getD .non::jZ ρ (n+1) ms
 | n,_::ms=>.non::jZ ρ (n+1) ms
theorem qfq {σ:St} {N:List Str}:∀ {ms:List PM} {vs:List V} {n:Nat},vs.length=ms.length->(∀ i∈Yy n ms,∃ d a,ρ[i]?=iE (iE d)/\vs[i - n]?=iE (V.ref a)/\F a=iG/\OwnIs K F H a d)->yQ K F H ms vs (jZ ρ n ms):=by
 intro ms
 induction ms with
 | nil=>intro vs n _ _; trivial
 | cons m ms j=>
  intro vs n hl h;cases vs with
  | nil=>simp at hl
  | cons v vs=>
   have rest:(∀ i∈Yy (n+1) ms,i∈Yy n (m::ms))->yQ K F H ms vs (jZ ρ (n+1) ms):=λc=>by refine j (by simpa using hl) λi hi=>?_;obtain ⟨d,a,e1,e,E⟩:=h i (c i hi);have q:=yR (qcH hi);refine ⟨d,a,e1,?_,E⟩;rw [show i - n=(i - (n+1))+1 by lia] at e;simpa using e
   cases m with
   | val=>exact rest λi hi=>hi
   | io=>obtain ⟨d,a,e1,e,E⟩:=h n (ae.mpr (.inl rfl));refine ⟨⟨a,by simpa using e,E.1,?_⟩,rest λi hi=>ac _ hi⟩;rw [e1];exact E.2
   | tk=>exact rest λi hi=>hi
noncomputable def Fl.val:Fl->Option D
 | .nx=>iE .non
 | .rt d=>iE d
 | _=>iG
noncomputable def jQ (N:List Str) (ms:List PM) (f:qR) (ds:List D):Out (D×List D):=match f (qt N ds) with
 | .ok (.nx,ρ)=>.ok (.non,jZ ρ 0 ms)
 | .ok (.rt d,ρ)=>.ok (d,jZ ρ 0 ms)
 | .ok _=>.bad
 | .exc c ρ=>.exc c ((jZ ρ 0 ms).map iE)
 | .bad=>.bad
theorem Yz:∀ (l:List D),(l.map iE).map (λx:Option D=>x.getD .non)=l
 | []=>rfl
 | a::l=>congrArg (a::·) (Yz l)
def Out.le {α:Type} (a b:Out α):Prop:=a=.bad\/a=b
theorem qfr {f:qR} {Q:VK} {o:Out (D×List D)} (j:C.io=Yy 0 ms) (l:C.ox=C.io) (r:C.mr=.sh\/∀ ρ,(f (qt N ds))≠.ok (.nx,ρ)) (g:∀ i∈Yy 0 ms,i∈own') (A:Same F H) (t:ArgsIs C.K F H ms vs ds) (nd:(zG ms vs).Nodup)
  (G:Out.le o (jQ N ms f ds)) (h:PoG C.K C.cv ms C.mr vs F H Q C.E o):tSt C (kn 0 ms) own' f { nx:=λ_ H'=>Q .non H',rt:=Q } (yJ N vs) H:=by
 refine ⟨F,qt N ds,GU A t nd,?_⟩;have hl:=t.length.1;have ch:∀ {F' H'},Chg (OA (kn 0 ms) (yJ N vs)) F H F' H'->Chg (LA ms vs) F H F' H':=λc=>c.mono λx z=>qcJ.mp z;have b:∀ {σ':St} {ρ':Sl} {F' H':Hp},qcd C.K C.io F' H' σ' ρ'->(∀ i∈C.io,σ'[i]?=(yJ N vs)[i]?)->yQ C.K F' H' ms vs (jZ ρ' 0 ms):=λ{σ' ρ' F' H'} io e=>by
  refine qfq (N:=N) (σ:=σ') hl λi hi=>?_;have k:i∈C.io:=by rw [j]; exact hi
  obtain ⟨d,a,e1,m,y⟩:=io i k;refine ⟨d,a,e1,?_,y⟩;rw [e i k] at m;exact jY.mp m
 rcases G with e | e;·subst e; exact h.elim
 ·subst e;unfold jQ at h;cases q:f (qt N ds) with
  | ok p=>
   rw [q] at h;obtain ⟨w,ρ'⟩:=p;cases w with
   | nx=>have u:C.mr=.sh:=r.resolve_right λz=>z ρ' q;exact λσ' F' H' n=>h .non F' H' n.rep.sub (ch n.chg) (b (n.rep.ioIs (by rw [j]; exact g)) n.io) (by rw [u]; exact .non)
   | rt d=>exact λv σ' F' H' s io c e mo=>h v F' H' s (ch c) (b io e) mo
   | bk=>exact h.elim
   | ct=>exact h.elim
  | exc c ρ'=>rw [q] at h;exact λF' H' s io U=>h F' H' s (ch U) (by rw [Yz]; exact b (σ':=yJ N vs) (by rw [<-l]; exact io) λ_ _=>rfl)
  | bad=>rw [q] at h; exact h.elim
def qjN (K:Frag) (cv:Str->iH) (E:XK) (ms:List PM) (mr:Mo):Ct:=⟨K,cv,E,Yy 0 ms,mr,[],Yy 0 ms,λ_ h=>h⟩
theorem qls {P:iQ} {w:iR} {K:Frag} {mg:Str->Option iH} {base:Heap} {CX:CXT} {x qual:Str} {st:Stmt} {f:Addr} {fd:lz} {N ps:List Str} {k:Nat} {cv:Str->iH} {ms:List PM} {mr:Mo} {own':List Nat} {fb:qR} {G:jD}
  (F:Fun K x qual st f fd) (S:FnScope N ps (ja st)) (hl:ms.length=ps.length) (g:∀ i∈Yy 0 ms,i∈own') (r:mr=.sh\/∀ ds ρ,(fb (qt N ds))≠.ok (.nx,ρ))
  (a:∀ (cdv:iH) (A:iX) (outer:List Env) (s:iK) (H:Hp) (E:XK),Room k (A.deeper (mm qual (ja st) s.heap.objs.size f cdv)) ->PSs (qe4 CX P w K mg base N qual (ja st) f cdv A outer s H E) (va st) (tSt (qjN K cv E ms mr) (kn 0 ms) own' fb))
  (j:∀ ds,Out.le (G ds) (jQ N ms fb ds)):FnOk P w K mg base CX (k+1) f fd ps (spD K cv ms mr G):=by
 obtain ⟨oc,od,kV,doc,pm,an,cdv,ct,osl,rfl,m,d⟩:=F.ex;refine qkq m d S (λvs H Q E h=>?_) λA outer s H vs Q E e p=>?_;·obtain ⟨F,ds,_,b,_⟩:=h;rw [b.length.1,hl]
 ·obtain ⟨F1,ds,c,b,nd,h⟩:=p;refine ⟨_,a cdv A outer s H E e,?_⟩;exact qfr (C:=qjN K cv E ms mr) rfl rfl (r.imp id λz ρ=>z ds ρ) g c b nd (j ds) h
noncomputable def KW:AK->PM
 | .vl=>.val
 | .sl _=>.io
 | .fr=>.tk
noncomputable def kD:List AK->List D->Sl->Option (List D)
 | [],[],_=>iE []
 | .sl i::as,_::ds,ρ=>match ρ[i]? with
  | some (iE d)=>(kD as ds ρ).map (d::·)
  | _=>iG
 | .vl::as,d::ds,ρ=>(kD as ds ρ).map (d::·)
 | .fr::as,d::ds,ρ=>(kD as ds ρ).map (d::·)
 | _,_,_=>iG
noncomputable def zH:List AK->List D->Sl->Sl
 | .sl i::as,d::outs,ρ=>zH as outs (ρ.set i (iE d))
 | _::as,_::outs,ρ=>zH as outs ρ
 | _,_,ρ=>ρ
noncomputable def ju:List AK->List Nat
 | []=>[]
 | .sl i::as=>i::ju as
 | _::as=>ju as
noncomputable def frA:List AK->Nat
 | []=>0
 | .fr::as=>frA as+1
 | _::as=>frA as
section
theorem yS:∀ {as:List AK} {vs:List V} {ds f:List D},Rep K own F H σ ρ->(∀ i∈ju as,i∈own)->ArgV K H0 F H σ as vs ds->kD as ds ρ=iE f->ArgsIs K F H (as.map KW) vs f
 | [],vs,ds,f,rp,hs,av,e=>by cases vs <;> cases ds <;> first | exact av.elim | (simp [kD] at e; subst e; trivial)
 | a::as,[],ds,f,rp,hs,av,e=>by cases a <;> exact av.elim
 | a::as,v::vs,[],f,rp,hs,av,e=>by cases a <;> exact av.elim
 | .vl::as,v::vs,d::ds,f,rp,hs,av,e=>by
  cases q:kD as ds ρ with
  | none=>simp [kD,q] at e
  | some l=>
   have e:d::l=f:=by simpa [kD,q] using e
   subst e;exact ⟨av.1,yS rp hs av.2 q⟩
 | .fr::as,v::vs,d::ds,f,rp,hs,av,e=>by
  cases q:kD as ds ρ with
  | none=>simp [kD,q] at e
  | some l=>
   have e:d::l=f:=by simpa [kD,q] using e
   subst e;obtain ⟨a,h1,_,h2,h⟩:=av.1;exact ⟨⟨a,h1,h2,h⟩,yS rp hs av.2 q⟩
 | .sl i::as,v::vs,d::ds,f,rp,hs,av,e=>by
  obtain ⟨h1,_,b⟩:=av;have hi:i∈own:=hs i (ae.mpr (.inl rfl));obtain ⟨d',hd⟩:=rp.opn i hi;obtain ⟨a,e1,c,E⟩:=rp.ow i d' hi hd;rw [h1] at e1;cases e1;cases q:kD as ds ρ with
  | none=>simp [kD,q,hd] at e
  | some l=>
   have e:d'::l=f:=by simpa [kD,q,hd] using e
   subst e;exact ⟨⟨a,rfl,c,E⟩,yS rp (λj G=>hs j (ac _ G)) b q⟩
theorem vc:∀ {as:List AK} {vs:List V} {ds:List D} {b:Addr},ArgV K H0 F H σ as vs ds->b∈zG (as.map KW) vs->(∃ i∈ju as,σ[i]?=iE (iE (V.ref b)))\/(H0 b=iG/\frA as≠0/\H b≠iG/\F b=iG)
 | [],vs,ds,b,av,h=>by cases vs <;> simp [zG] at h
 | a::as,[],ds,b,av,h=>by cases a <;> exact av.elim
 | a::as,v::vs,[],b,av,h=>by cases a <;> exact av.elim
 | .vl::as,v::vs,d::ds,b,av,h=>by
  have h:b∈zG (as.map KW) vs:=by cases v <;> exact h
  exact vc (as:=as) av.2 h
 | .fr::as,v::vs,d::ds,b,av,h=>by
  obtain ⟨⟨a,rfl,f,E,o⟩,c⟩:=av;have h:b∈a::zG (as.map KW) vs:=h;rcases ae.mp h with e | h;·subst e; exact .inr ⟨f,by simp [frA],o.there,E⟩
  ·rcases vc c h with z | ⟨z,_,z2⟩
   ·exact .inl z
   ·exact .inr ⟨z,by simp [frA],z2⟩
 | .sl i::as,v::vs,d::ds,b,av,h=>by
  obtain ⟨h1,_,c⟩:=av;have up:b∈zG (as.map KW) vs->(∃ j∈ju (.sl i::as),σ[j]?=iE (iE (V.ref b)))\/(H0 b=iG/\frA (.sl i::as)≠0/\H b≠iG/\F b=iG):=λh=>by
   rcases vc c h with ⟨j,hj,e⟩ | z;·exact .inl ⟨j,ac _ hj,e⟩
   ·exact .inr z
  cases v with
  | ref a=>
   have h:b∈a::zG (as.map KW) vs:=h;rcases ae.mp h with e | h;·subst e; exact .inl ⟨i,ae.mpr (.inl rfl),h1⟩
   ·exact up h
  | _=>exact up h
theorem uR:∀ {as:List AK} {vs:List V} {ds:List D},Rep K own F H σ ρ->(∀ x,OA own σ x->H0 x≠iG)->(∀ i∈ju as,i∈own)->(ju as).Nodup->frA as<=1->ArgV K H0 F H σ as vs ds->(zG (as.map KW) vs).Nodup
 | [],vs,ds,rp,h0,hs,nd,hf,av=>by cases vs <;> simp [zG]
 | a::as,[],ds,rp,h0,hs,nd,hf,av=>by cases a <;> exact av.elim
 | a::as,v::vs,[],rp,h0,hs,nd,hf,av=>by cases a <;> exact av.elim
 | .vl::as,v::vs,d::ds,rp,h0,hs,nd,hf,av=>by have q:=uR (as:=as) rp h0 hs nd hf av.2;cases v <;> exact q
 | .fr::as,v::vs,d::ds,rp,h0,hs,nd,hf,av=>by
  have f:frA as=0:=by simp only [frA] at hf; lia
  obtain ⟨⟨a,rfl,k,E,o⟩,b⟩:=av;show (a::zG (as.map KW) vs).Nodup;refine aH.mpr ⟨λz=>?_,uR rp h0 hs nd (by lia) b⟩;rcases vc b z with ⟨i,hi,e⟩ | ⟨_,n,_⟩
  ·exact h0 a ⟨i,hs i hi,e⟩ k
  ·exact n f
 | .sl i::as,v::vs,d::ds,rp,h0,hs,nd,hf,av=>by
  obtain ⟨h1,_,b⟩:=av;have h:∀ j∈ju as,j∈own:=λj G=>hs j (ac _ G);have hi:i∈own:=hs i (ae.mpr (.inl rfl));obtain ⟨g,c⟩:=aH.mp nd;have q:=uR rp h0 h c hf b;cases v with
  | ref a=>
   show (a::zG (as.map KW) vs).Nodup;refine aH.mpr ⟨λz=>?_,q⟩;rcases vc b z with ⟨j,G,e⟩ | ⟨n,_⟩
   ·exact g (by rw [rp.dis i j a hi (h j G) h1 e]; exact G)
   ·exact h0 a ⟨i,hi,h1⟩ n
  | _=>exact q
theorem wg:∀ {as:List AK} {b:List D} {ρ:Sl} {i:Nat},i∉ju as->(zH as b ρ)[i]?=ρ[i]?
 | [],b,ρ,i,h=>by cases b <;> rfl
 | a::as,[],ρ,i,h=>by cases a <;> rfl
 | .vl::as,d::b,ρ,i,h=>wg (as:=as) h
 | .fr::as,d::b,ρ,i,h=>wg (as:=as) h
 | .sl j::as,d::b,ρ,i,h=>by
  have h':i≠j/\i∉ju as:=by simpa [ju] using h
  show (zH as b (ρ.set j (iE d)))[i]?=_;rw [wg h'.2,aB (bw h'.1)]
theorem zY:∀ {as:List AK} {b:List D} {ρ:Sl},(zH as b ρ).length=ρ.length
 | [],b,ρ=>by cases b <;> rfl
 | a::as,[],ρ=>by cases a <;> rfl
 | .vl::as,d::b,ρ=>zY (as:=as)
 | .fr::as,d::b,ρ=>zY (as:=as)
 | .sl j::as,d::b,ρ=>by show (zH as b (ρ.set j (iE d))).length=_;rw [zY,c6]
theorem JO {F' H':Hp}:∀ {as:List AK} {vs:List V} {ds b:List D} {ρ:Sl},(ju as).Nodup->(∀ i∈ju as,i < ρ.length)->ArgV K H0 F H σ as vs ds->yQ K F' H' (as.map KW) vs b->∀ i∈ju as,∃ d a,(zH as b ρ)[i]?=iE (iE d)/\σ[i]?=iE (iE (V.ref a))/\F' a=iG/\OwnIs K F' H' a d
 | [],vs,ds,b,ρ,nd,hl,av,o,i,hi=>by simp [ju] at hi
 | a::as,[],ds,b,ρ,nd,hl,av,o,i,hi=>by cases a <;> exact av.elim
 | a::as,v::vs,[],b,ρ,nd,hl,av,o,i,hi=>by cases a <;> exact av.elim
 | a::as,v::vs,d::ds,[],ρ,nd,hl,av,o,i,hi=>by cases a <;> exact o.elim
 | .vl::as,v::vs,d::ds,u::b,ρ,nd,hl,av,o,i,hi=>JO (as:=as) nd hl av.2 o i hi
 | .fr::as,v::vs,d::ds,u::b,ρ,nd,hl,av,o,i,hi=>JO (as:=as) nd hl av.2 o i hi
 | .sl j::as,v::vs,d::ds,u::b,ρ,nd,hl,av,o,i,hi=>by
  obtain ⟨g,n⟩:=aH.mp nd;obtain ⟨h1,_,c⟩:=av;obtain ⟨⟨a,e,E,ow⟩,o2⟩:=o;subst e;rcases ae.mp hi with e | hi;·subst e;refine ⟨u,a,?_,h1,E,ow⟩;show (zH as b (ρ.set i (iE u)))[i]?=_;rw [wg g,aO (hl i (ae.mpr (.inl rfl)))]
  ·exact JO (as:=as) (ρ:=ρ.set j (iE u)) n (λk h=>by rw [c6]; exact hl k (ac _ h)) c o2 i hi
end
noncomputable def ql (as:List AK) (G:jD) (fr:wT):qY:=λρ=>(fr ρ).bind λp=>match kD as p.1 p.2 with
 | some ds=>match G ds with
  | .ok q=>.ok (q.1,zH as q.2 p.2)
  | .exc c o=>.exc c (zH as (o.map (·.getD .non)) p.2)
  | .bad=>.bad
 | none=>.bad
variable {mr:Mo} {f:Addr} {ps:List Str}
section
variable {G:jD} {fr:wT}
theorem YA {F' H':Hp} {b:List D} (r:Rep C.K own F H σ ρ) (m:∀ x,OA own σ x->H0 x≠iG) (h:∀ i∈ju as,i∈own) (nd:(ju as).Nodup) (k:ArgV C.K H0 F H σ as vs ds)
  (A:Same F' H') (c:Chg (LA (as.map KW) vs) F H F' H') (o:yQ C.K F' H' (as.map KW) vs b):Rep C.K own F' H' σ (zH as b ρ):=by
 have pin:=JO (ρ:=ρ) nd (λi hi=>by obtain ⟨d,e⟩:=r.opn i (h i hi);exact (aD.mp e).1) k o;refine ⟨A,by rw [zY]; exact r.len,λi d hi e=>?_,λi d hi e=>?_,λi hi=>?_,r.dis⟩;·rw [wg (λz=>hi (h i z))] at e;obtain ⟨v,h1,h2⟩:=r.val i d hi e;exact ⟨v,h1,h2.mono c.grow⟩
 ·by_cases q:i∈ju as;·obtain ⟨d',a,e1,s,E,p⟩:=pin i q;rw [e1] at e;cases e;exact ⟨a,s,E,p⟩
  ·rw [wg q] at e;obtain ⟨a,h1,h2,f⟩:=r.ow i d hi e;have l:¬LA (as.map KW) vs a:=λz=>by
    rcases vc k z with ⟨j,G,t⟩ | ⟨n,_⟩
    ·exact q (by rw [r.dis i j a hi (h j G) h1 t]; exact G)
    ·exact m a ⟨i,hi,h1⟩ n
   refine ⟨a,h1,?_,f.grow c.grow λo' g=>c.keep a o' g l⟩;cases g:F' a with
   | none=>rfl
   | some u=>
    rcases c.new a (by rw [g]; simp) with z | z | z;·exact absurd h2 z
    ·exact absurd z f.there
    ·exact absurd z l
 ·by_cases q:i∈ju as;·obtain ⟨d',a,e1,_⟩:=pin i q;exact ⟨d',e1⟩
  ·rw [wg q];exact r.opn i hi
theorem GV {Q:VK} (l:∀ i∈C.ox,i∈own) (s:∀ i∈ju as,i∈own) (nd:(ju as).Nodup) (u:frA as<=1) (h:tE C own mr (ql as G fr) σ H Q):tAr C own as fr σ H λvs H1=>spD C.K C.cv (as.map KW) mr G (vs++[]) H1 Q C.E:=by
 obtain ⟨F,ρ,t,h⟩:=h;have m:∀ x,OA own σ x->H x≠none:=λx z=>(t.OA_there z).1;refine ⟨F,ρ,t,?_⟩;unfold ql at h;cases k:fr ρ with
 | ok p=>
  rw [k] at h;obtain ⟨ds,ρ1⟩:=p;intro vs F1 H1 a r g;rw [aY];have h1:Po C own mr σ F H (match kD as ds ρ1 with | some ds=>(match G ds with | .ok q=>.ok (q.1,zH as q.2 ρ1) | .exc c o=>.exc c (zH as (o.map (·.getD .non)) ρ1) | .bad=>.bad) | none=>.bad) Q:=h;cases q:kD as ds ρ1 with
  | none=>simp only [q] at h1; exact h1.elim
  | some f=>
   simp only [q] at h1;have lo:∀ x,LA (as.map KW) vs x->OA own σ x\/H x=none:=λx z=>by
    rcases vc g z with ⟨i,hi,e⟩ | ⟨n,_⟩
    ·exact .inl ⟨i,s i hi,e⟩
    ·exact .inr n
   refine ⟨F1,f,a.sub,yS a s g q,uR a m s nd u g,?_⟩;cases j:G f with
   | ok p=>rw [j] at h1;obtain ⟨d,b⟩:=p;exact λv F' H' A c o mo=>h1 v F' H' (YA a m s nd g A c o) (r.trans c lo) (MoIs.back (Ha:=H1) r mo)
   | exc x o=>rw [j] at h1; exact λF' H' A c b=>h1 F' H' A ((YA a m s nd g A c b).ioIs l) (r.trans c lo)
   | bad=>rw [j] at h1; exact h1.elim
 | exc c=>rw [k] at h; exact h
 | bad=>rw [k] at h; exact h.elim
theorem qfs {CX:CXT} {k:Nat} {fd:lz} {p pos:Pos} (F:FnOk X.prog X.w X.K X.mg X.base CX k f fd ps (spD C.K C.cv ms mr G)) (r:Room k X.A) (hg:Gl X x) (m:X.mg x=iE (.ref f)) (a:mS X.K (.ref f)=iJ) (j:Binds X.K fd ps []) (hx:yI CX X C.E)
  (n:PA X (e::es) (tAr C own as fr)) (s:ms=as.map KW:=by rfl) (c:∀ i∈ju as,i∈own:=by decide) (nd:(ju as).Nodup:=by decide) (d:frA as<=1:=by decide) (o:∀ i∈C.ox,i∈own:=by exact wW rfl) (b:Dbg x:=by decide) (g:iN (e::es) X.env=(iI,eval e X.env)::iN es X.env:=by exact jW rfl)
  (l:(j6 pos (iN es X.env)).any (·.1)=false:=by exact zW rfl):PE X (.Call (.Name x p) (e::es) [] pos) (tE C own mr (ql as G fr)):=by
 subst s;exact jE (qe3 F r hg m a j .nil hx n b g l) λσ H Q h=>GV o c nd d h
end
structure ItIs (K:Frag) (F:Hp) (J:It) (ds:List D):Prop where
 go:∀ i H,i < ds.length->Same F H->J.go i H
 yld:∀ i Fi H x H' d,ds[i]?=iE d->Same F Fi->Same Fi H->J.yld i H x H'->∃ F',Chg No Fi H F' H'/\Same F' H'/\Is K F' x d
 stop:∀ i H,ds.length<=i->Same F H->J.stop i H
def PoI (C:Ct) (own:List Nat) (σ:St) (F H:Hp) (r:Out (List D×Sl)) (R:It->Hp->Prop):Prop:=match r with
 | .ok (ds,ρ')=>∀ J F' H',Rep C.K own F' H' σ ρ'->Chg (OA own σ) F H F' H'->ItIs C.K F' J ds->R J H'
 | .exc c ρ'=>∀ F' H',Same F' H'->qcd C.K C.ox F' H' σ ρ'->Chg (OA own σ) F H F' H'->C.E (C.cv c) iG H'
 | .bad=>False
def tIt (C:Ct) (own:List Nat) (f:wT):TI:=λσ H R=>∃ F ρ,Rep C.K own F H σ ρ/\PoI C own σ F H (f ρ) R
noncomputable def Zh:D->Out (List D)
 | .lst xs=>.ok xs
 | .tup xs=>.ok xs
 | _=>.bad
noncomputable def ql8 (f:qY):wT:=λρ=>(f ρ).bind λp=>(Zh p.1).bind λds=>.ok (ds,p.2)
theorem PoI.bindV {m:Mo} {o:Vo} {k:D×Sl->Out (List D×Sl)} {Q:It->Hp->Prop} {R:VK} (hp:PoI C own σ F H (o.bind k) Q)
  (h:∀ v F1 H1 d ρ1,Rep C.K own F1 H1 σ ρ1->Chg (OA own σ) F H F1 H1->MoIs C.K m H F1 H1 v d->PoI C own σ F H (k (d,ρ1)) Q->R v H1):Po C own m σ F H o R:=by
 cases o with
 | ok p=>exact λv F1 H1 a c mo=>h v F1 H1 p.1 p.2 a c mo hp
 | exc x=>exact hp
 | bad=>exact hp.elim
variable {g:D->Sl->Out Sl} {tg iter:Expr} {xs:List V}
section
variable {f:qY}
theorem qft {t t':TI} (h:PI X tg e t) (i:∀ σ H Q,t' σ H Q->t σ H Q):PI X tg e t':=⟨λpins s σ H R I w=>h pins s σ H R I (i σ H R w)⟩
theorem qhR (p:SqL K F a xs) (t:IsL K F xs ds):ItIs K F (Itl K a) ds where
 go:=λi H hi s=>by
  have hx:i < xs.length:=by rw [t.length]; exact hi
  exact ⟨xs,xs[i],s.seq p,by simp [hx]⟩
 yld:=λi Fi H x H' d e s1 s2 y=>by obtain ⟨rfl,y⟩:=y;obtain ⟨v,h1,h2⟩:=t.getD e;have q:=y xs ((s1.trans s2).seq p);rw [h1] at q;cases q;exact ⟨Fi,.refl,s2,h2.mono s1⟩
 stop:=λi H hi s=>⟨xs,s.seq p,by rw [t.length]; exact hi⟩
theorem qhS (p:SqT K F a xs) (t:IsL K F xs ds):ItIs K F (Itt K a) ds where
 go:=λi H hi s=>by
  have hx:i < xs.length:=by rw [t.length]; exact hi
  exact ⟨xs,xs[i],jm s p,by simp [hx]⟩
 yld:=λi Fi H x H' d e s1 s2 y=>by obtain ⟨rfl,y⟩:=y;obtain ⟨v,h1,h2⟩:=t.getD e;have q:=y xs (jm (s1.trans s2) p);rw [h1] at q;cases q;exact ⟨Fi,.refl,s2,h2.mono s1⟩
 stop:=λi H hi s=>⟨xs,jm s p,by rw [t.length]; exact hi⟩
noncomputable def zZ (lo:Int) (n:Nat):List D:=(aE n).map λk=>.int (lo+(k:Nat))
theorem qhT {lo:Int}:ItIs K F (Itr lo n) (zZ lo n) where
 go:=λi H hi _=>by
  have:i < n:=by simpa [zZ] using hi
  exact this
 yld:=λi Fi H x H' d e s1 s2 y=>by
  obtain ⟨rfl,rfl⟩:=y;have e:d=.int (lo+i):=by
   unfold zZ at e;rw [aF] at e;cases q:(aE n)[i]? with
   | none=>rw [q] at e; cases e
   | some k=>
    rw [q] at e;have h:k=i:=by have:=aD.mp q;obtain ⟨_,z⟩:=this;simpa using z.symm
    subst h;exact (aK.inj e).symm
  subst e;exact ⟨Fi,.refl,s2,.int _⟩
 stop:=λi H hi _=>by
  have:n<=i:=by simpa [zZ] using hi
  exact this
noncomputable def kr (f:qY):wT:=λρ=>(f ρ).bind λp=>match p.1 with
 | .int j=>if -(2 ^ 62)<=j/\j < 2 ^ 62 then .ok (zZ 0 j.toNat,p.2) else .bad
 | _=>.bad
theorem vT {p:Pos} (hg:Gl X "range") (b:X.mg "range"=iG) (h:PE X e (tE C own m f)) (s:iN [e] X.env=[(iI,eval e X.env)]:=by exact qE rfl):PI X tg (.Call (.Name "range" p) [e] [] pos) (tIt C own (kr f)):=by
 refine qft (Gm hg b (qM h jB s) s) λσ H R ⟨F,ρ,r,h⟩=>⟨F,ρ,r,PoI.bindV h λv F1 H1 d ρ1 a k c h1=>?_⟩
 cases d with
 | int j=>
  obtain rfl:=c.top.int;have h1:PoI C own σ F H (if -(2 ^ 62)<=j/\j < 2 ^ 62 then .ok (zZ 0 j.toNat,ρ1) else .bad) R:=h1;by_cases z:-(2 ^ 62)<=j/\j < 2 ^ 62;·rw [Aa z] at h1;exact ⟨j,rfl,z.1,z.2,h1 _ F1 H1 a k qhT⟩
  ·rw [Ab z] at h1; exact h1.elim
 | _=>exact h1.elim
def tGd (C:Ct) (own:List Nat) (g:D->Sl->Out Sl):TG:=λv σ H Q=>∃ F ρ d,Rep C.K own F H σ ρ/\Is C.K F v d/\∃ ρ',g d ρ=.ok ρ'/\∀ σ',Rep C.K own F H σ' ρ'->(∀ b,OA own σ' b->OA own σ b)->(∀ i∈C.io,σ'[i]?=σ[i]?)->Q σ' H
def qjO (C:Ct) (own:List Nat) (g:List D->Sl->Out Sl):TGs:=λvs σ H Q=>∃ F ρ ds,Rep C.K own F H σ ρ/\IsL C.K F vs ds/\∃ ρ',g ds ρ=.ok ρ'/\∀ σ',Rep C.K own F H σ' ρ'->(∀ b,OA own σ' b->OA own σ b)->(∀ i∈C.io,σ'[i]?=σ[i]?)->Q σ' H
theorem qhU {t t':TG} (h:PG X e t) (i:∀ v σ H Q,t' v σ H Q->t v σ H Q):PG X e t':=⟨λpins s σ H v u Q I r w=>h pins s σ H v u Q I r (i v σ H Q w)⟩
theorem qea {t t':TGs} (h:PGs X es t) (i:∀ v σ H Q,t' v σ H Q->t v σ H Q):PGs X es t':=⟨λpins s σ H v u Q I r w=>h pins s σ H v u Q I r (i v σ H Q w)⟩
noncomputable def gNm (i:Nat):D->Sl->Out Sl:=λd ρ=>if i < ρ.length then .ok (ρ.set i (iE d)) else .bad
theorem QX {own:List Nat} (h:i∉own):vL own [i]=own:=by unfold vL;rw [fB];intro j G;simp only [au,decide_eq_true_eq];exact λz=>h (by rw [<-z]; exact G)
theorem YB (c:X.N.Nodup) (hi:X.N[i]?=iE x) (hx:Loc X.env.scope x) (l:i∉own:=by decide) (o:i∉C.io:=by exact yN rfl) (h:X.fn x=iJ\/X.env.scope.names.lookup x=iE .local:=by first | exact .inl rfl | exact .inr rfl):PG X (.Name x pos) (tGd C own (gNm i)):=by
 refine qhU (qeY c hi hx h) λv σ H Q ⟨F,ρ,d,a,is,ρ',e,k⟩=>?_;unfold gNm at e;by_cases z:i < ρ.length
 ·rw [Aa z] at e;cases e;have r2:=a.put z is;rw [QX l] at r2;refine k _ r2 (λb q=>?_) λj G=>aB λq=>o (by rw [q]; exact G);have g:OA (vL own [i]) (σ.set i (iE v)) b:=by rw [QX l]; exact q
  exact g.put
 ·rw [Ab z] at e; cases e
noncomputable def jn:List D->Sl->Out Sl
 | [],ρ=>.ok ρ
 | _::_,_=>.bad
noncomputable def qu (g:D->Sl->Out Sl) (gs:List D->Sl->Out Sl):List D->Sl->Out Sl
 | d::ds,ρ=>(g d ρ).bind λρ1=>gs ds ρ1
 | [],_=>.bad
theorem ke:PGs X [] (qjO C own jn):=by
 refine qea qeZ λvs σ H Q ⟨F,ρ,ds,a,is,ρ',e,k⟩=>?_;cases is with
 | nil=>cases e; exact ⟨rfl,k σ a (λ_ z=>z) λ_ _=>rfl⟩
 | cons _ _=>cases e
theorem qC {gs:List D->Sl->Out Sl} (h1:PG X e (tGd C own g)) (h2:PGs X es (qjO C own gs)) (s:(lg (e::es) X.env).map (·.2)=assign e X.env::(lg es X.env).map (·.2):=by rfl):PGs X (e::es) (qjO C own (qu g gs)):=by
 refine qea (qcj h1 h2 s) λvs σ H Q ⟨F,ρ,ds,p,is,ρ',e,k⟩=>?_;cases is with
 | nil=>cases e
 | @cons v d vs ds a t=>
  have e:(g d ρ).bind (λρ1=>gs ds ρ1)=.ok ρ':=e;cases q:g d ρ with
  | ok ρ1=>rw [q] at e;exact ⟨v,vs,rfl,F,ρ,d,p,a,ρ1,q,λσ1 h j m=>⟨F,ρ1,ds,h,t,ρ',e,λf r o l=>k f r (λb z=>j b (o b z)) λi hi=>(l i hi).trans (m i hi)⟩⟩
  | exc c=>rw [q] at e; cases e
  | bad=>rw [q] at e; cases e
noncomputable def jo (n:Nat) (gs:List D->Sl->Out Sl):D->Sl->Out Sl
 | .tup ds,ρ=>if ds.length=n then gs ds ρ else .bad
 | _,_=>.bad
theorem kK {k:Nat} {gs:List D->Sl->Out Sl} (g:C.K=X.K) (f:X.calm=iJ) (h:PGs X es (qjO C own gs)) (b:(lg es X.env).length=n:=by rfl) (c:(lg es X.env).findIdx? (·.1)=none:=by rfl):PG X (.Tuple es k pos) (tGd C own (jo n gs)):=by
 refine qhU (qhg f h b c) λv σ H Q ⟨F,ρ,d,r,is,ρ',e,k⟩=>?_;cases is with
 | @tup a xs ds p t=>
  have e:(if ds.length=n then gs ds ρ else .bad)=.ok ρ':=e;by_cases z:ds.length=n;·rw [Aa z] at e;exact ⟨a,xs,rfl,by rw [<-g]; exact jm r.sub p,by rw [t.length]; exact z,F,ρ,ds,r,t,ρ',e,k⟩
  ·rw [Ab z] at e; cases e
 | _=>cases e
noncomputable def qkE (fe:qY) (g:D->Sl->Out Sl):qR:=λρ=>(fe ρ).bind λp=>match g p.1 p.2 with
 | .ok ρ'=>.ok (.nx,ρ')
 | _=>.bad
theorem qfu (k:PE X e (tE C own m f)) (hg:PG X tg (tGd C own g)) (j:m≠.any:=by decide) (s:swapsWithSole [tg] e pos.line X.env=pure false:=by rfl) (w:swappedStores [tg] e X.env=pure none:=by rfl)
  (h1:(lg [tg] X.env).map (·.2)=[assign tg X.env]:=by rfl):PS X (.Assign [tg] e pos) (tSt C own own (qkE f g)):=by
 refine QD (qd4 (wX k j) hg s w h1) λD σ H ⟨F,ρ,p,h⟩=>⟨F,ρ,p,PoS.bindE h λv F1 H1 d ρ1 a l i h1=>?_⟩
 cases q:g d ρ1 with
 | ok ρ'=>simp only [q] at h1;exact ⟨F1,ρ1,d,a,i,ρ',q,λσ' r oa io=>h1 σ' F1 H1 ⟨r,.refl,λb z=>.inl (oa b z),io⟩⟩
 | exc c=>simp only [q] at h1; exact h1.elim
 | bad=>simp only [q] at h1; exact h1.elim
noncomputable def jR (g:D->Sl->Out Sl) (fb:qR):List D->qR
 | [],ρ=>.ok (.nx,ρ)
 | d::ds,ρ=>(g d ρ).plain.bind λρ1=>(fb ρ1).bind λp=>match p.1 with
  | .nx=>jR g fb ds p.2
  | .ct=>jR g fb ds p.2
  | .bk=>.ok (.nx,p.2)
  | .rt v=>.ok (.rt v,p.2)
noncomputable def zI (fi:wT) (g:D->Sl->Out Sl) (fb:qR):qR:=λρ=>(fi ρ).bind λp=>jR g fb p.1 p.2
theorem jF {body:List Stmt} {fi:wT} {fb:qR} (hp:PassesOwn (model X.prog X.w) X.A X.env X.xe) (T:X.calm=iJ) (hi:PI X tg iter (tIt C own fi)) (hg:PG X tg (tGd C own g))
  (U:PSs X body (tSt { C with ol:=own } own own fb)) (R:∀ x,lq iter X.env x=pure x:=by intro _; rfl):PS X (.For tg iter body [] pos) (tSt C own own (zI fi g fb)):=by
 refine QD (qhj hp T hi hg U R) λD σ H ⟨F,ρ,Q,h⟩=>⟨F,ρ,Q,?_⟩
 unfold zI at h;cases I:fi ρ with
 | exc c=>rw [I] at h; exact h
 | bad=>rw [I] at h; exact h.elim
 | ok p=>
  rw [I] at h;obtain ⟨ds,ρ1⟩:=p;intro J F1 H1 u P it;have h:PoS C own own σ F H (jR g fb ds ρ1) D:=h;refine ⟨λi m σ' H'=>m=ds.length - i/\i<=ds.length/\∃ F' ρ',Nx C own own σ F H ρ' σ' F' H'/\Same F1 F'/\PoS C own own σ' F' H' (jR g fb (ds.drop i) ρ') D,⟨ds.length,by simp,bo _,F1,ρ1,.ofE u P,Same.refl _,h.shift (.ofE u P)⟩,?_⟩;rintro i m σ' H' ⟨rfl,S,F',ρ',nx,gr,po⟩;by_cases t:i < ds.length
  ·have hd:ds.drop i=ds[i]::ds.drop (i+1):=List.drop_eq_getElem_cons t;rw [hd] at po;have po:PoS C own own σ' F' H' ((g ds[i] ρ').plain.bind λρ1=>(fb ρ1).bind λp=>match p.1 with | .nx=>jR g fb (ds.drop (i+1)) p.2 | .ct=>jR g fb (ds.drop (i+1)) p.2 | .bk=>.ok (.nx,p.2) | .rt v=>.ok (.rt v,p.2)) D:=po;refine .inr ⟨it.go i H' t (gr.trans nx.rep.sub),λl H2=>ds.length - (i+1)=ds.length - (i+1)/\i+1<=ds.length/\∃ F' ρ',Nx C own own σ F H ρ' l F' H2/\Same F1 F'/\PoS C own own l F' H2 (jR g fb (ds.drop (i+1)) ρ') D,λl H2 q=>⟨ds.length - (i+1),by omega,q⟩,λx H2 y=>?_⟩;obtain ⟨o,c2,s2,N⟩:=it.yld i F' H' x H2 ds[i] (by simp [t]) gr nx.rep.sub y;cases E:g ds[i] ρ' with
   | exc c=>rw [E] at po; exact po.elim
   | bad=>rw [E] at po; exact po.elim
   | ok ρ2=>
    rw [E] at po;refine ⟨o,ρ',ds[i],nx.rep.grow c2 s2,N,ρ2,E,λj r K O=>⟨o,ρ2,r,?_⟩⟩;have L:Nx C own own σ' F' H' ρ2 j o H2:=⟨r,c2.ofNo,λb z=>.inl (K b z),O⟩
    have a:=PoS.shift (show PoS C own own σ' F' H' ((fb ρ2).bind λp=>match p.1 with | .nx=>jR g fb (ds.drop (i+1)) p.2 | .ct=>jR g fb (ds.drop (i+1)) p.2 | .bk=>.ok (.nx,p.2) | .rt v=>.ok (.rt v,p.2)) D from po) L;have up:∀ {B f M k},Nx { C with ol:=own } own own j o H2 B f M k->Nx C own own j o H2 B f M k:=λz=>⟨z.rep,z.chg,z.oa,z.io⟩
    cases G:fb ρ2 with
    | exc c=>rw [G] at a; exact a
    | bad=>rw [G] at a; exact a.elim
    | ok p=>
     rw [G] at a;obtain ⟨V,B⟩:=p;cases V with
     | nx=>exact λf M k n=>⟨rfl,t,M,B,(nx.then L).then (up n),(gr.trans c2.grow).trans n.chg.grow,PoS.shift (show PoS C own own j o H2 (jR g fb (ds.drop (i+1)) B) D from a) (up n)⟩
     | ct=>exact λf M k n=>⟨rfl,t,M,B,(nx.then L).then (up n),(gr.trans c2.grow).trans n.chg.grow,PoS.shift (show PoS C own own j o H2 (jR g fb (ds.drop (i+1)) B) D from a) (up n)⟩
     | bk=>exact λf M k n=>a f M k (up n)
     | rt d=>exact λv f M k s io c e mo=>a v f M k s io c e mo
  ·have e:i=ds.length:=by omega
   subst e;rw [List.drop_length] at po;exact .inl ⟨it.stop _ H' (aA _) (gr.trans nx.rep.sub),po σ' F' H' (.refl nx.rep)⟩
noncomputable def qZ (ft:ua) (fb:qR):Nat->qR
 | 0,_=>.bad
 | n+1,ρ=>(ft ρ).bind λq=>if q.1=iJ then (fb q.2).bind λp=>match p.1 with
  | .nx=>qZ ft fb n p.2
  | .ct=>qZ ft fb n p.2
  | .bk=>.ok (.nx,p.2)
  | .rt v=>.ok (.rt v,p.2)
  else .ok (.nx,q.2)
theorem yT {body:List Stmt} {ft:ua} {fb:qR} (n:Nat) (hp:PassesOwn (model X.prog X.w) X.A X.env X.xe) (ht:PT X t (tT C own ft)) (x:PSs X body (tSt { C with ol:=own } own own fb)):PS X (.While t body [] pos) (tSt C own own (qZ ft fb n)):=by
 refine QD (qck hp ht x) λD σ H ⟨F,ρ,u,h⟩=>?_;refine ⟨λm σ' H'=>∃ F' ρ',Rep C.K own F' H' σ' ρ'/\PoS C own own σ' F' H' (qZ ft fb m ρ') D,⟨n,F,ρ,u,h⟩,?_⟩;rintro m σ1 H1 ⟨F1,ρ1,j,po⟩;refine ⟨F1,ρ1,j,?_⟩;cases m with
 | zero=>exact po.elim
 | succ m=>
  have po:PoS C own own σ1 F1 H1 ((ft ρ1).bind λq=>if q.1=iJ then (fb q.2).bind λp=>match p.1 with | .nx=>qZ ft fb m p.2 | .ct=>qZ ft fb m p.2 | .bk=>.ok (.nx,p.2) | .rt v=>.ok (.rt v,p.2) else .ok (.nx,q.2)) D:=po;refine PoS.bindT po λi H2 k ρ2 r c2 h2=>?_;cases k with
  | false=>exact h2 σ1 i H2 (.refl r)
  | true=>
   refine ⟨λb o=>∃ F' ρ',Rep C.K own F' o b ρ'/\PoS C own own b F' o (qZ ft fb m ρ') D,λb o q=>⟨m,by omega,q⟩,i,ρ2,r,?_⟩;have h2:PoS C own own σ1 i H2 ((fb ρ2).bind λp=>match p.1 with | .nx=>qZ ft fb m p.2 | .ct=>qZ ft fb m p.2 | .bk=>.ok (.nx,p.2) | .rt v=>.ok (.rt v,p.2)) D:=h2;have up:∀ {B f M a},Nx { C with ol:=own } own own σ1 i H2 B f M a->Nx C own own σ1 i H2 B f M a:=λz=>⟨z.rep,z.chg,z.oa,z.io⟩
   cases l:fb ρ2 with
   | exc c=>rw [l] at h2; exact h2
   | bad=>rw [l] at h2; exact h2.elim
   | ok p=>
    rw [l] at h2;obtain ⟨y,B⟩:=p;cases y with
    | nx=>exact λf M a g=>⟨M,B,g.rep,PoS.shift (show PoS C own own σ1 i H2 (qZ ft fb m B) D from h2) (up g)⟩
    | ct=>exact λf M a g=>⟨M,B,g.rep,PoS.shift (show PoS C own own σ1 i H2 (qZ ft fb m B) D from h2) (up g)⟩
    | bk=>exact λf M a g=>h2 f M a (up g)
    | rt d=>exact λv f M a s io c e mo=>h2 v f M a s io c e mo
end
noncomputable def KY (cells:List (Str×Addr)):List (Str×lu)->List (Str×Addr)->List (Str×Addr)
 | [],acc=>acc
 | (n,k)::r,acc=>if (k == .free)=iJ then KY cells r ((n,(cells.lookup n).getD 0)::acc) else KY cells r acc
variable {env:Env}
theorem ub:∀ (names:List (Str×lu)) (acc:List (Str×Addr)),(∀ x∈names,x.2=.free->∃ c,env.cells.lookup x.1=iE c) ->(forIn names acc λ(x:Str×lu) (cs:List (Str×Addr))=>if (x.2 == bz)=iJ then (do let a <-cellOf env x.1; pure (ci ((x.1,a)::cs))) else pure (ci cs):Sem (List (Str×Addr)))=pure (KY env.cells names acc)
 | [],acc,_=>rfl
 | (n,k)::r,acc,h=>by
  rw [dR];by_cases q:(k == bz)=iJ
  ·obtain ⟨c,d⟩:=h (n,k) ap (by simpa using q);have e:cellOf env n=pure c:=by unfold cellOf; rw [d]
   simp only [q,if_true,e];have j:=ub r ((n,c)::acc) (λx hx=>h x (ac _ hx));simp only [KY,q,if_true,d,Option.getD_some];exact j
  ·simp only [q,if_false,KY];exact ub r acc (λx hx=>h x (ac _ hx))
variable {scope:lU}
theorem QY (h:∀ x∈scope.names,x.2=.free->∃ c,env.cells.lookup x.1=iE c):closureFor scope env=pure (KY env.cells scope.names []):=by have:=ub scope.names [] h;unfold closureFor;simp only [bind_pure];exact this
variable {cells:List (Str×Addr)}
theorem yo:∀ {names:List (Str×lu)} {acc:List (Str×Addr)} {x:Str} {c:Addr},(∀ y∈names,y.2=.free->∃ c,cells.lookup y.1=iE c)->(KY cells names acc).lookup x=iE c->cells.lookup x=iE c\/acc.lookup x=iE c
 | [],acc,x,c,_,h=>.inr h
 | (n,k)::r,acc,x,c,hf,h=>by
  unfold KY at h;by_cases q:(k == bz)=iJ
  ·rw [Aa q] at h;obtain ⟨U,d⟩:=hf (n,k) ap (by simpa using q);rcases yo (λy D=>hf y (ac _ D)) h with z | z;·exact .inl z
   ·rw [eX] at z;have d:cells.lookup n=iE U:=d;by_cases e:(x == n)=iJ
    ·rw [e] at z;simp only [d,Option.getD_some] at z;have:x=n:=by simpa using e
     subst this;rw [d]; exact .inl z
    ·have e:(x == n)=false:=by simpa using e
     rw [e] at z;exact .inr z
  ·rw [Ab q] at h;exact yo (λy D=>hf y (ac _ D)) h
theorem JP:∀ {names:List (Str×lu)} {acc:List (Str×Addr)} {x:Str},(∃ c,acc.lookup x=iE c)->∃ c,(KY cells names acc).lookup x=iE c
 | [],_,_,h=>h
 | (n,k)::r,acc,x,h=>by
  unfold KY;by_cases q:(k == bz)=iJ
  ·rw [Aa q];refine JP ?_;obtain ⟨c,d⟩:=h;rw [eX];by_cases e:(x == n)=iJ;·rw [e]; exact ⟨_,rfl⟩
   ·have e:(x == n)=false:=by simpa using e
    rw [e]; exact ⟨c,d⟩
  ·rw [Ab q]; exact JP h
theorem ga:∀ {names:List (Str×lu)} {acc:List (Str×Addr)} {x:Str},(x,bz)∈names->∃ c,(KY cells names acc).lookup x=iE c
 | (n,k)::r,acc,x,h=>by
  unfold KY;rcases ae.mp h with e | h
  ·cases e;rw [Aa (by rfl)];refine JP ?_;rw [eX,beq_self_eq_true];exact ⟨_,rfl⟩
  ·by_cases q:(k == bz)=iJ;·rw [Aa q]; exact ga h
   ·rw [Ab q]; exact ga h
noncomputable def jy (X:Cx) (scope:lU) (N:List Str) (fp:List Addr) (L:Addr) (s:iK) (H:Hp):Cx:=
 { X with N:=N,s₀:=s,H₀:=H,env:=compEnvC scope (KY X.env.cells scope.names []) L X.env,outer:=X.stack,stack:=X.stack,ex:=fp,fn:=λ_=>iI,pn:=[],xe:=λ_ _=>False }
structure ScOk (X:Cx) (scope:lU):Prop where
 kind:scope.kind=.function
 nocell:∀ y∈scope.names,y.2≠.cell
 names:∀ y∈scope.names,y.2=.local->scope.names.lookup y.1=iE .local
 free:∀ y∈scope.names,y.2=.free->X.env.kindOf y.1=iE .cell\/X.env.kindOf y.1=iE .free
 frl:∀ y∈scope.names,y.2=.free->scope.names.lookup y.1=iE .free
theorem uS {a:α}:∀ {l:List (Str×α)},l.lookup x=iE a->(x,a)∈l
 | [],h=>by simp at h
 | (n,k)::r,h=>by
  rw [eX] at h;by_cases e:(x == n)=iJ
  ·rw [e] at h;have h:iE k=iE a:=h;cases h;have:x=n:=by simpa using e
   subst this;exact ap
  ·have e:(x == n)=false:=by simpa using e
   rw [e] at h;exact ac _ (uS h)
theorem zf {k:lu} (h:(relabel scope env).names.lookup x=iE k) (b:k=.cell\/k=.free) (a:∀ y∈scope.names,y.2≠.cell):(x,bz)∈scope.names:=by
 have m:=uS h;obtain ⟨⟨n,k'⟩,c,e⟩:=ah.mp m;dsimp only at e;by_cases q:(k' == bz&&env.scope.kind == .function&&env.kindOf n == iE .cell)=iJ
 ·rw [Aa q] at e;cases e;have:k'=.free:=by rw [aS,aS] at q;simpa using q.1.1
  subst this;exact c
 ·rw [Ab q] at e;cases e;rcases b with rfl | rfl;·exact absurd rfl (a _ c)
  ·exact c
theorem Vx (h:Vis (relabel scope env) x):∃ k,(x,k)∈scope.names:=by
 have go:∀ {k:lu},(relabel scope env).names.lookup x=iE k->∃ k,(x,k)∈scope.names:=λ{k} h=>by
  obtain ⟨⟨n,k'⟩,c,e⟩:=ah.mp (uS h);dsimp only at e;by_cases q:(k' == bz&&env.scope.kind == .function&&env.kindOf n == iE .cell)=iJ;·rw [Aa q] at e;cases e;exact ⟨_,c⟩
  ·rw [Ab q] at e;cases e;exact ⟨_,c⟩
 rcases h with h | h | h <;> exact go h
variable {pins:Pns} {σc:St} {s s':iK} {fp:List Addr} {h':Heap}
section
theorem gu (I:Inv X pins σ H s) (S:ScOk X scope):∀ y∈scope.names,y.2=.free->∃ c,X.env.cells.lookup y.1=iE c:=λy D e=>I.ok.has y.1 (S.free y D e)
theorem qcK (I:Inv X pins σ H s) (S:ScOk X scope) (K:∀ b∈fp,WK X pins H b) (U:∀ b∈fp,b < s.heap.objs.size) (D:h'.Ns s.heap.objs.size (λ_=>iG))
  (A:∀ b o,s.heap.get? b=iE o->h'.get? b=iE o) (hl:σc.length=N.length)
  (C:∀ (j:Nat) (x:Str) (v:V),N[j]?=iE x->σc[j]?=iE (iE v)->(∃ k,(x,k)∈scope.names)->∃ i:Nat,X.N[i]?=iE x/\σ[i]?=iE (iE v)/\Vis X.env.scope x/\(x,bz)∈scope.names) {t:Nat} :
  Inv (jy X scope N fp s.heap.objs.size s H) [] σc H { s with heap:=h',toks:=t }:=by
 have J:=gu I S;have cl:∀ x c,(KY X.env.cells scope.names []).lookup x=iE c->X.env.cells.lookup x=iE c:=λx c e=>(yo J e).resolve_right (by simp);have B:∀ b∈fp,b∉frs X.stack:=λb g z=>by
  obtain ⟨f0,f1,f2,_⟩:=K b g;rcases ae.mp (I.stkSub b z) with e | e;·exact f1 e
  ·exact f2 e
 refine ⟨⟨I.ok.mod,?_,I.ok.glob,I.ok.blt,aA _,λx y c h1 h2=>I.ok.inj x y c (cl x c h1) (cl y c h2),λx hx=>?_,λx c h=>absurd h (by show ¬(iI=iJ); exact bF),I.ok.hd,I.ok.frames,.inl rfl,λb g=>⟨aG (U b g),λx c e z=>?_⟩,I.bs,bI I.ok.bsz I.sz,λb o e g=>?_,B,I.stack,I.stkFree⟩,rfl,I.bare,Un.kept A,⟨_,D,λj x v e1 l R=>?_⟩,λx c e=>?_,I.hok.fresh (aA _),λx c e=>I.freeC x c (cl x c e),λp hp=>absurd (show p∈([]:Pns) from hp) (by simp),I.hok.kept A,hl⟩;·exact S.kind
 ·refine ga ?_;rcases hx with hx | hx;·exact zf hx (.inl rfl) S.nocell
  ·exact zf hx (.inr rfl) S.nocell
 ·exact (K b g).2.2.2.2.1 x c (cl x c e) z
 ·rcases (K b g).2.2.2.1 with z | z;·exact I.ok.noex b o e z
  ·have E:=ay e;exact absurd (aI E (bI I.ok.bsz z)) (b6 _)
 ·obtain ⟨i,g1,Z,Y,M⟩:=C j x v e1 l (Vx R);obtain ⟨m,F,G⟩:=I.loc;obtain ⟨u,r,w⟩:=G i x v g1 Z Y;refine ⟨u,r,?_⟩;obtain ⟨O,f⟩:=ga (cells:=X.env.cells) (acc:=[]) M;have L:=cl x O f;have kd:(jy X scope N fp s.heap.objs.size s H).env.kindOf x=iE .cell\/(jy X scope N fp s.heap.objs.size s H).env.kindOf x=iE .free\/(jy X scope N fp s.heap.objs.size s H).env.kindOf x=iE .local:=by
   rcases R with z | z | z;·exact .inr (.inr z)
   ·exact .inl z
   ·exact .inr (.inl z)
  rcases w with ⟨k,_⟩ | ⟨k,c,Q,z⟩
  ·rcases S.free _ M rfl with q | q;·have q:X.env.kindOf x=iE .cell:=q;rw [k] at q; cases q
   ·have q:X.env.kindOf x=iE .free:=q;rw [k] at q; cases q
  ·rw [L] at Q;cases Q;obtain ⟨oc,d,a⟩:=z;rcases kd with q | q | q;·exact .inr ⟨.inl q,O,f,⟨oc,A _ _ d,a⟩⟩
   ·exact .inr ⟨.inr q,O,f,⟨oc,A _ _ d,a⟩⟩
   ·refine absurd q ?_;intro q;have T:=uS (show (relabel scope X.env).names.lookup x=iE .local from q);obtain ⟨⟨n,k'⟩,W,e⟩:=ah.mp T;dsimp only at e;by_cases P:(k' == bz&&X.env.scope.kind == .function&&X.env.kindOf n == iE .cell)=iJ;·rw [Aa P] at e; cases e
    ·rw [Ab P] at e;cases e;have e1:=S.names _ W rfl;have l:=S.frl _ M rfl;have e1:scope.names.lookup x=iE .local:=e1;have l:scope.names.lookup x=iE .free:=l;rw [e1] at l;cases l
 ·obtain ⟨v,oc,d,a⟩:=I.cell x c (cl x c e);exact ⟨v,oc,A _ _ d,a⟩
theorem qcL {H1:Hp} {s1:iK} {L:Addr} (I:Inv X pins σ H s) (h:∀ b∈fp,WK X pins H b) (J:Inv (jy X scope N fp s.heap.objs.size s H) [] σc H' s') (A:bC s.heap.objs.size s'.heap h'):Inv X pins σ H' { s' with heap:=h' }:=by
 have a:H' s.heap.objs.size=none:=J.free;have ne:∀ b o,s.heap.get? b=iE o->b≠s.heap.objs.size:=λb o e=>aG (ay e);have U:Un (frs X.stack) fp H H' s.heap s'.heap:=J.base;refine I.call' (s':={ s' with heap:=h' }) (ch:=fp) J.os ⟨λb o e n h1 h2=>(A.2 b (ne b o e)).trans (U.keep b o e n h1 h2),λb o e n h1 h2=>?_,U.free,λb o e h2=>?_,U.tups,U.frzs,U.tbls⟩ (λb u e=>?_) J.bare λb f=>?_;·obtain ⟨sl,q⟩:=U.slot b o e n h1 h2;exact ⟨sl,(A.2 b (ne b o e)).trans q⟩
 ·obtain ⟨o',q⟩:=U.there b o e h2;exact ⟨o',(A.2 b (ne b o e)).trans q⟩
 ·refine (J.hok b u e).stay (λc w d q=>(A.2 c ?_).trans q) (λ_ q=>q) λ_ _ q=>q;rintro rfl;rcases d with z | z;·rw [<-z,a] at e; cases e
  ·rw [a] at z; cases z
 ·obtain ⟨f0,f1,f2,t,f4,g⟩:=h b f;exact ⟨t,f1,f4,g⟩
end
theorem JQ {prog:iQ} {w:iR} {A:iX} {R:mR->iK->Prop} {s:iK} {elt target iter:Expr} {ifs:List Expr} {scope:lU} {pos:Pos} {it acc:iH} {env:Env} (I:Nat->iK->Prop)
  (l:∀ n s,I n s->iM (model prog w) A (k4 it) (λr d=>match r with
   | none=>R (.ok .next) d
   | some v=>iM (model prog w) A (l5 target it v) (λ_ e=>iM (model prog w) A (assign target env v) (λ_ i=>
     iM (model prog w) A (forIn ifs iJ λc r=>if r=iJ then do let ok <-isTrue c env (eval c env); pure (ci ok) else pure (ci r)) (λok b=>
      if ok=iJ then iM (model prog w) A (eval elt env) (λx g=>
       iM (model prog w) A (call (.builtin "list.append") [acc,x]) (λ_ f=>∃ m,m < n/\I m f) (λ_ _=>False) g) (λ_ _=>False) b
      else ∃ m,m < n/\I m b) (λ_ _=>False) i) (λ_ _=>False) e) (λ_ _=>False) d) (λ_ _=>False) s)
  (n:Nat) (h:I n s):lI (model prog w) A (.compLoop (.ListComp elt [⟨target,iter,ifs,0⟩] scope pos) 0 it acc env) R s:=by
 have no:∀ {α:Type} {t:Sem α} {Q y:α->iK->Prop} {E:iH->iK->Prop} {s:iK},iM (model prog w) A t Q (λ_ _=>False) s->(∀ a s,Q a s->y a s)->iM (model prog w) A t y E s:=λh k=>lV h k λ_ _ z=>z.elim;refine codeAny_loop rfl I (λn s B=>?_) n h;show iM _ A ((compTurn (.ListComp elt [⟨target,iter,ifs,0⟩] scope pos) 0 it acc env).onRaise (λx=>do noteFrame x env; theTreesLotGoes x)) _ _ s;refine wpAny_noted ?_;rw [compTurn_list];refine iF (wpAny_standAt (iF (no (l n s B) λr d h₁=>?_)));cases r with
 | none=>exact iL h₁
 | some v=>
  refine iF (no h₁ λ_ e o=>iF (no o λ_ i u=>iF (no u λok b j=>?_)));cases ok with
  | false=>exact iL ⟨rfl,j⟩
  | true=>exact iF (iF (no j λx g q=>iF (no q λ_ f p=>iL (iL ⟨rfl,p⟩))))
structure PTs (Y:Cx) (ifs:List Expr) (t:TT):Prop where
 run:∀ (pins:Pns) (s:iK) (σ:St) (H:Hp) (Q:Bool->Hp->Prop),Inv Y pins σ H s->t σ H Q ->iM (model Y.prog Y.w) Y.A (forIn ifs iJ λc r=>if r=iJ then do let ok <-isTrue c Y.env (eval c Y.env); pure (ci ok) else pure (ci r)) (TP Y pins σ Q) Y.xe s
instance {Y:Cx} {ifs:List Expr} {t:TT}:CoeFun (PTs Y ifs t) (λ_=>∀ (pins:Pns) (s:iK) (σ:St) (H:Hp) (Q:Bool->Hp->Prop),Inv Y pins σ H s->t σ H Q ->iM (model Y.prog Y.w) Y.A (forIn ifs iJ λc r=>if r=iJ then do let ok <-isTrue c Y.env (eval c Y.env); pure (ci ok) else pure (ci r)) (TP Y pins σ Q) Y.xe s):=⟨λh=>h.run⟩
variable {Y:Cx}
theorem qfv:PTs Y [] (λ_ H Q=>Q iJ H):=⟨λ_ _ _ H _ I h=>wpAny_tests_nil ⟨H,I,h⟩⟩
theorem uc {t:TT} (h:PT Y c t):PTs Y [c] t:=⟨λpins s σ H Q I q=>wpAny_tests_one (h pins s σ H Q I q)⟩
variable {ifs:List Expr}
section
variable {it:Addr} {tn:Nat->Heap->Prop} {J:It} {elt:Expr} {g:TG} {tt:TT} {te:TE} {E:iH->iK->Prop}
theorem qcM (I:Inv X pins σ H s) (P:X.calm=iJ) (S:ScOk X scope) (T:Turn X.prog X.w X.K tg J fp it tn) (st0:tn 0 s.heap) (hf:∀ b∈fp,WK X pins H b)
  (hg:∀ fp L s' H',PG (jy X scope N fp L s' H') tg g) (ht:∀ fp L s' H',PTs (jy X scope N fp L s' H') ifs tt) (he:∀ fp L s' H',PE (jy X scope N fp L s' H') elt te) (hl:σc.length=N.length)
  (hσ:∀ (j:Nat) (x:Str) (v:V),N[j]?=iE x->σc[j]?=iE (iE v)->(∃ k,(x,k)∈scope.names)->∃ i:Nat,X.N[i]?=iE x/\σ[i]?=iE (iE v)/\Vis X.env.scope x/\(x,bz)∈scope.names)
  (W:Addr->Nat->Nat->St->Hp->Prop) (Fin:Addr->Hp->Prop) (w0:∀ p,H p=iG->∃ m,W p 0 m σc (upd H p (.lst [])))
  (F:∀ p i m σ1 H1,W p i m σ1 H1->(J.stop i H1/\Fin p H1)\/(J.go i H1/\∀ x H2,J.yld i H1 x H2->g x σ1 H2 λB H3=>tt B H3 λb H4=>if b=iJ then te B H4 λy H5=>∃ xs,H5 p=iE (.lst xs)/\xs.length < sizeLine/\∃ f,f < m/\W p (i+1) f B (upd H5 p (.lst (xs++[y]))) else ∃ f,f < m/\W p (i+1) f B H4))
  (RR:iH->Addr->mR->iK->Prop)
  (hRR:∀ p L H' s',Fin p H'->(∃ m,s'.heap.Ns L m)->WK X pins H' L->(∀ h',bC L s'.heap h'->Inv X pins σ H' { s' with heap:=h' })->RR (.ref p) L (.ok .next) s') :
  iM (model X.prog X.w) X.A (newList []) (λacc s₃=>iM (model X.prog X.w) X.A (newFunctionEnv scope X.env.globals (KY X.env.cells scope.names []) [] X.env.qual iG .none (iE X.env)) (λG s₄=>
   lI (model X.prog X.w) X.A (.compStart (.ListComp elt [⟨tg,iter,ifs,0⟩] scope pos) 0 (.ref it) acc { G with scope:=relabel scope X.env }) (RR acc G.locals) s₄) E s₃) E s:=by
 have hfo:∀ b∈fp,b < s.heap.objs.size:=λb h=>let ⟨o,e,_⟩:=T.obj 0 _ st0 b h; ay e;have C:=I.fresh;have I3:Inv X pins σ (upd H s.heap.objs.size (.lst [])) { s with heap:=s.heap.push { cls:=.type "list",data:=.seq ([]:List iH).toArray } }:=I.lnew (t':=s.toks) (ys:=[]) (its:=[]) .nil (bo _);have O:∀ b∈fp,WK X pins (upd H s.heap.objs.size (.lst [])) b:=λb h=>⟨by rw [qB (aG (hfo b h))]; exact (hf b h).1,(hf b h).2⟩
 have st3:tn 0 (s.heap.push { cls:=.type "list",data:=.seq ([]:List iH).toArray }):=T.keep 0 _ _ st0 λb h o e=>aa _ e;refine iY (wpAny_newFunctionEnv S.nocell (λy hy=>by simp at hy) (λh₁ c a=>?_) S.kind);dsimp only at c a ⊢;generalize hs3:({ s with heap:=s.heap.push { cls:=.type "list",data:=.seq ([]:List iH).toArray } }:iK)=s3 at I3;have e3:s3.heap=s.heap.push { cls:=.type "list",data:=.seq ([]:List iH).toArray }:=by rw [<-hs3]
 rw [<-e3] at c a st3 ⊢;have keep:∀ b o,s3.heap.get? b=iE o->h₁.get? b=iE o:=λb o e=>(a.2 b (aG (ay e))).trans (aa _ e);have ho3:∀ b∈fp,b < s3.heap.objs.size:=λb h=>by rw [e3,bh]; exact df (hfo b h)
 have J1:Inv (jy X scope N fp s3.heap.objs.size s3 (upd H s.heap.objs.size (.lst []))) [] σc (upd H s.heap.objs.size (.lst [])) { s3 with heap:=h₁,toks:=s.toks+0 }:=
  qcK I3 S O ho3 (by simpa using c) keep hl hσ
 have st4:tn 0 h₁:=T.keep 0 _ _ st3 λb h o e=>keep b o e;have loop:∀ s4:iK,s4={ s3 with heap:=h₁,toks:=s.toks+0 }->lI (model X.prog X.w) X.A (.compLoop (.ListComp elt [⟨tg,iter,ifs,0⟩] scope pos) 0 (.ref it) (.ref s.heap.objs.size) (compEnvC scope (KY X.env.cells scope.names []) s3.heap.objs.size X.env)) (RR (.ref s.heap.objs.size) s3.heap.objs.size) s4:=by
  rintro s4 rfl;generalize D:jy X scope N fp s3.heap.objs.size s3 (upd H s.heap.objs.size (.lst []))=Y at J1;have eP:Y.prog=X.prog:=by rw [<-D]; rfl
  have ew:Y.w=X.w:=by rw [<-D]; rfl
  have eA:Y.A=X.A:=by rw [<-D]; rfl
  have ee:Y.env=compEnvC scope (KY X.env.cells scope.names []) s3.heap.objs.size X.env:=by rw [<-D]; rfl
  have eK:Y.K=X.K:=by rw [<-D]; rfl
  have ec:Y.calm=true:=by rw [<-D]; exact P
  have ex:Y.xe=λ_ _=>False:=by rw [<-D]; rfl
  have hgY:PG Y tg g:=by rw [<-D]; exact hg fp _ _ _
  have htY:PTs Y ifs tt:=by rw [<-D]; exact ht fp _ _ _
  have heY:PE Y elt te:=by rw [<-D]; exact he fp _ _ _
  have t:∀ {H1:Hp},(∀ b∈fp,H1 b=iG)->∀ b∈fp,WK Y [] H1 b:=λhn b h=>by have q:=J1.ok.exf b (by rw [<-D]; exact h);refine ⟨hn b h,q.1,J1.ok.exfs b (by rw [<-D]; exact h),.inl (by rw [<-D]; exact h),q.2,λp hp=>?_⟩;rw [<-D] at hp;exact absurd (show p∈([]:Pns) from hp) (by simp)
  obtain ⟨m0,hm0⟩:=w0 s.heap.objs.size C;refine JQ (λn s'=>∃ i σ1 H1,Inv Y [] σ1 H1 s'/\tn i s'.heap/\(∀ b∈fp,H1 b=iG)/\W s.heap.objs.size i n σ1 H1) ?_ m0 ⟨0,σc,_,J1,st4,λb h=>(O b h).1,hm0⟩;rintro n s5 ⟨i,σ1,H1,J5,st5,fr5,w5⟩;rw [<-eP,<-ew,<-eA,<-ee];have TY:Turn Y.prog Y.w Y.K tg J fp it tn:=by rw [eP,ew,eK]; exact T
  rcases F _ i n σ1 H1 w5 with ⟨stop,fin⟩ | ⟨go,step⟩
  ·refine thn (TY.done Y rfl rfl rfl ec i [] s5 σ1 H1 _ J5 (t fr5) st5 stop) λr s6 ⟨hr,J6⟩=>?_;subst hr;have Q:Inv (jy X scope N fp s3.heap.objs.size s3 (upd H s.heap.objs.size (.lst []))) [] σ1 H1 s6:=by rw [D]; exact J6
   exact hRR _ _ H1 s6 fin (let ⟨m,hn,_⟩:=Q.loc; ⟨m,hn⟩) (I3.fpOk (aA _) Q.free) λh' sb=>qcL (s1:=s6) (H1:=H1) (L:=0) I3 O Q sb
  ·refine thn (TY.item Y rfl rfl rfl ec i [] s5 σ1 H1 _ J5 (t fr5) st5 go) λr s6 ⟨u,hr,h6⟩=>?_;subst hr;refine thn h6 λ_ s7 ⟨x,H7,J7,r7,y7,M,fr7⟩=>?_;have J7':=J7.pinned (t fr7) (TY.obj _ _ M);have back:∀ {l:St} {Z:Hp} {R:iK},Inv Y ([]++Vd fp s7.heap) l Z R->(∃ f,f < n/\W s.heap.objs.size (i+1) f l Z)->∃ m,m < n/\∃ i σ1 H1,Inv Y [] σ1 H1 R/\tn i R.heap/\(∀ b∈fp,H1 b=iG)/\W s.heap.objs.size i m σ1 H1:=λ{l Z R} U ⟨f,hm,w9⟩=>by refine ⟨f,hm,i+1,l,Z,U.unpinned,TY.keep _ _ _ M λb h o e=>(U.pin (b,o) (aX _ (aX _ (uP h e)))).1,λb h=>?_,w9⟩;obtain ⟨o,e,d⟩:=TY.obj _ _ M b h;exact (U.pin (b,o) (aX _ (aX _ (uP h e)))).2.1
   rw [<-ex];refine thn (hgY _ s7 σ1 H7 x u _ J7' r7 (step x H7 y7)) λ_ s8 ⟨z,H8,J8,q8⟩=>?_;refine thn (htY _ s8 z H8 _ J8 q8) λok R ⟨Z,U,q9⟩=>?_;cases ok with
   | false=>exact back U q9
   | true=>refine thn (heY _ R z Z _ U q9) λv s10 ⟨y,H10,J10,r10,xs,hx,hlen,q10⟩=>?_;exact thn (Vk _ s10 z H10 (.ref s.heap.objs.size) [y] (.ref s.heap.objs.size) [v] (λ_ H11=>∃ f,f < n/\W s.heap.objs.size (i+1) f z H11) J10 rfl (.cons r10 .nil) ⟨_,xs,y,rfl,rfl,hx,hlen,q10⟩) λ_ s11 ⟨_,H11,J11,_,q11⟩=>back J11 q11
 have e4:({ heap:=h₁,gens:=s.gens,drawn:=s.drawn,toks:=s.toks+([]:List (Str×iH)).length,os:=s.os }:iK)={ s3 with heap:=h₁,toks:=s.toks+0 }:=by rw [<-hs3]; rfl
 exact codeAny_compStart_list (loop _ e4) (T.self _ 0 _ _ _ st4 (loop _ e4))
end
noncomputable def kE (nt:Nat) (cap:List Nat) (ρ:List (Option α)):List (Option α):=fG nt iG++cap.map λk=>(ρ[k]?).getD iG
noncomputable def wP (own:List Nat):Nat->List Nat->List Nat
 | _,[]=>[]
 | n,k::cap=>if k∈own then n::wP own (n+1) cap else wP own (n+1) cap
noncomputable def ioC (nt len:Nat):List Nat:=(aE len).map (nt + ·)
noncomputable def ka (own:List Nat) (ρc:Sl):Nat->List Nat->Sl->Sl
 | _,[],ρ=>ρ
 | n,k::cap,ρ=>if k∈own then ka own ρc (n+1) cap (ρ.set k ((ρc[n]?).getD iG)) else ka own ρc (n+1) cap ρ
variable {nt:Nat} {cap:List Nat}
theorem vd {ρ:List (Option α)} {d:α}:(kE nt cap ρ)[i]?=iE (iE d)↔∃ j k,i=nt+j/\cap[j]?=iE k/\ρ[k]?=iE (iE d):=by
 unfold kE;constructor
 ·intro h;by_cases hi:i < nt;·rw [dF (by simpa using hi),dU] at h;split at h <;> cases h
  ·rw [cr (by simpa using hi),eu,aF] at h;cases q:cap[i - nt]? with
   | none=>rw [q] at h; cases h
   | some k=>
    rw [q] at h;have h:(ρ[k]?).getD iG=iE d:=aK.inj h;refine ⟨i - nt,k,by lia,q,?_⟩;cases a:ρ[k]? with
    | none=>rw [a] at h; cases h
    | some o=>rw [a] at h; exact congrArg iE h
 ·rintro ⟨j,k,rfl,h1,h2⟩;rw [cr (by simp),eu,aF,show nt+j - nt=j by lia,h1];simp [h2]
theorem kl {own:List Nat}:∀ {n:Nat} {cap:List Nat} {i:Nat},i∈wP own n cap↔∃ j k,i=n+j/\cap[j]?=iE k/\k∈own
 | n,[],i=>by simp [wP]
 | n,k::cap,i=>by
  have a:=@kl own (n+1) cap i;unfold wP;by_cases h:k∈own
  ·rw [Aa h,ae,a];constructor
   ·rintro (rfl | ⟨j,k',e,h1,h2⟩);·exact ⟨0,k,rfl,rfl,h⟩
    ·exact ⟨j+1,k',by lia,by simpa using h1,h2⟩
   ·rintro ⟨j,k',e,h1,h2⟩;cases j with
    | zero=>exact .inl (by lia)
    | succ j=>exact .inr ⟨j,k',by lia,by simpa using h1,h2⟩
  ·rw [Ab h,a];constructor;·rintro ⟨j,k',e,h1,h2⟩;exact ⟨j+1,k',by lia,by simpa using h1,h2⟩
   ·rintro ⟨j,k',e,h1,h2⟩;cases j with
    | zero=>simp at h1; subst h1; exact absurd h2 h
    | succ j=>exact ⟨j,k',by lia,by simpa using h1,h2⟩
theorem JR {len:Nat}:i∈ioC nt len↔∃ j,j < len/\i=nt+j:=by
 unfold ioC;rw [ah];constructor;·rintro ⟨j,h1,h2⟩; exact ⟨j,aM.mp h1,h2.symm⟩
 ·rintro ⟨j,h1,h2⟩; exact ⟨j,aM.mpr h1,h2.symm⟩
variable {ρc:Sl}
theorem xJ:∀ {n:Nat} {cap:List Nat} {ρ:Sl},(ka own ρc n cap ρ).length=ρ.length
 | _,[],_=>rfl
 | n,k::cap,ρ=>by
  unfold ka;by_cases h:k∈own;·rw [Aa h,xJ,c6]
  ·rw [Ab h,xJ]
theorem kU:∀ {n:Nat} {cap:List Nat} {ρ:Sl} {i:Nat},¬(i∈cap/\i∈own)->(ka own ρc n cap ρ)[i]?=ρ[i]?
 | _,[],_,_,_=>rfl
 | n,k::cap,ρ,i,h=>by
  unfold ka;have h':¬(i∈cap/\i∈own):=λz=>h ⟨ac _ z.1,z.2⟩;by_cases a:k∈own;·rw [Aa a,kU h',aB (λe=>h ⟨ae.mpr (.inl e.symm),by rw [<-e]; exact a⟩)]
  ·rw [Ab a,kU h']
theorem yU:∀ {n:Nat} {cap:List Nat} {ρ:Sl} {j k:Nat} {d:D},cap.Nodup->cap[j]?=iE k->k∈own->k < ρ.length->ρc[n+j]?=iE (iE d)->(ka own ρc n cap ρ)[k]?=iE (iE d)
 | _,[],_,_,_,_,_,h,_,_,_=>by simp at h
 | n,k0::cap,ρ,0,k,d,nd,h,hk,hl,e=>by simp at h; subst h;obtain ⟨n1,n2⟩:=aH.mp nd;unfold ka;rw [Aa hk,kU (λz=>n1 z.1),aO hl];have e:ρc[n]?=iE (iE d):=e;rw [e]; rfl
 | n,k0::cap,ρ,j+1,k,d,nd,h,hk,hl,e=>by
  obtain ⟨n1,n2⟩:=aH.mp nd;have h:cap[j]?=iE k:=by simpa using h
  have e:ρc[n+1+j]?=iE (iE d):=by rw [show n+1+j=n+(j+1) by lia]; exact e
  unfold ka;by_cases a:k0∈own;·rw [Aa a]; exact yU n2 h hk (by rw [c6]; exact hl) e
  ·rw [Ab a]; exact yU n2 h hk hl e
section
theorem Ua {ρ:List (Option α)}:(kE nt cap ρ).length=nt+cap.length:=by simp [kE]
theorem GW {l:List Nat} (h:l.Nodup) {j k:Nat} (a:l[i]?=iE k) (b:l[j]?=iE k):i=j:=by obtain ⟨h1,e1⟩:=aD.mp a;obtain ⟨h2,e⟩:=aD.mp b;exact (eU h).mp (e1.trans e.symm)
theorem qfw (r:Rep K own F H σ ρ) (nd:cap.Nodup):Rep K (wP own nt cap) F H (kE nt cap σ) (kE nt cap ρ) where
 sub:=r.sub
 len:=by rw [Ua,Ua]
 val:=λi d hi e=>by obtain ⟨j,k,rfl,h1,h2⟩:=vd.mp e;obtain ⟨v,g1,Z⟩:=r.val k d (λz=>hi (kl.mpr ⟨j,k,rfl,h1,z⟩)) h2;exact ⟨v,vd.mpr ⟨j,k,rfl,h1,g1⟩,Z⟩
 ow:=λi d hi e=>by
  obtain ⟨j,k,rfl,h1,h2⟩:=vd.mp e;obtain ⟨f,k',m,c,h⟩:=kl.mp hi;have:j=f:=by lia
  subst this;rw [h1] at c; cases c;obtain ⟨a,g1,Z⟩:=r.ow k d h h2;exact ⟨a,vd.mpr ⟨j,k,rfl,h1,g1⟩,Z⟩
 opn:=λi hi=>by obtain ⟨j,k,rfl,h1,h2⟩:=kl.mp hi;obtain ⟨d,e⟩:=r.opn k h2;exact ⟨d,vd.mpr ⟨j,k,rfl,h1,e⟩⟩
 dis:=λi u a hi g e m=>by
  obtain ⟨j,k,rfl,h1,h2⟩:=kl.mp hi;obtain ⟨f,k',rfl,c,h⟩:=kl.mp g;obtain ⟨x,y,t,l,o⟩:=vd.mp e;obtain ⟨n,s,p,q,b⟩:=vd.mp m;have:x=j:=by lia
  subst this;have:n=f:=by lia
  subst this;rw [h1] at l; cases l;rw [c] at q; cases q;have e:=r.dis k k' a h2 h o b;subst e;rw [GW nd h1 c]
theorem GX (o:∀ i∈ioC nt cap.length,σ1[i]?=(kE nt cap σ)[i]?) (h:OA (wP own nt cap) σ1 b):OA own σ b:=by
 obtain ⟨i,hi,e⟩:=h;obtain ⟨j,k,rfl,h1,h2⟩:=kl.mp hi;rw [o _ (JR.mpr ⟨j,(aD.mp h1).1,rfl⟩)] at e;obtain ⟨x,y,a,d,q⟩:=vd.mp e;have:x=j:=by lia
 subst this;rw [h1] at d; cases d;exact ⟨k,h2,q⟩
theorem GY {F':Hp} (p:Rep K own F H σ ρ) (nd:cap.Nodup) (r:Rep K (wP own nt cap) F' H' σ1 ρ1) (g:∀ i∈ioC nt cap.length,σ1[i]?=(kE nt cap σ)[i]?) (c:Chg (OA (wP own nt cap) σ1) F H F' H'):Rep K own F' H' σ (ka own ρ1 nt cap ρ) where
 sub:=r.sub
 len:=by rw [xJ]; exact p.len
 val:=λi d hi e=>by rw [kU (λz=>hi z.2)] at e;obtain ⟨v,h1,h2⟩:=p.val i d hi e;exact ⟨v,h1,h2.mono c.grow⟩
 ow:=λi d hi e=>by
  by_cases q:i∈cap
  ·obtain ⟨j,G⟩:=List.getElem?_of_mem q;have m:nt+j∈wP own nt cap:=kl.mpr ⟨j,i,rfl,G,hi⟩;obtain ⟨d',h⟩:=r.opn _ m;obtain ⟨A,b⟩:=p.opn i hi;rw [yU nd G hi (aD.mp b).1 h] at e;cases e;obtain ⟨a,h1,h2⟩:=r.ow _ _ m h;rw [g _ (JR.mpr ⟨j,(aD.mp G).1,rfl⟩)] at h1;obtain ⟨x,y,w,f,l⟩:=vd.mp h1;have:x=j:=by lia
   subst this;rw [G] at f; cases f;exact ⟨a,l,h2⟩
  ·rw [kU (λz=>q z.1)] at e;obtain ⟨a,h1,h2,s⟩:=p.ow i d hi e;have na:¬OA (wP own nt cap) σ1 a:=λz=>by
    obtain ⟨B,n,t⟩:=z;obtain ⟨j,k,rfl,g1,Z⟩:=kl.mp n;rw [g _ (JR.mpr ⟨j,(aD.mp g1).1,rfl⟩)] at t;obtain ⟨x,y,w,f,l⟩:=vd.mp t;have:x=j:=by lia
    subst this;rw [g1] at f; cases f;have e:=p.dis i k a hi Z h1 l;subst e;exact q (bG g1)
   refine ⟨a,h1,?_,s.grow c.grow λo z=>c.keep a o z na⟩;cases P:F' a with
   | none=>rfl
   | some u=>
    rcases c.new a (by rw [P]; simp) with z | z | z;·exact absurd h2 z
    ·exact absurd z s.there
    ·exact absurd z na
 opn:=λi hi=>by
  by_cases q:i∈cap;·obtain ⟨j,G⟩:=List.getElem?_of_mem q;have m:nt+j∈wP own nt cap:=kl.mpr ⟨j,i,rfl,G,hi⟩;obtain ⟨d',h⟩:=r.opn _ m;obtain ⟨A,b⟩:=p.opn i hi;exact ⟨d',yU nd G hi (aD.mp b).1 h⟩
  ·rw [kU (λz=>q z.1)];exact p.opn i hi
 dis:=p.dis
end
noncomputable def yV (g:D->Sl->Out Sl) (ft:ua) (fe:qY) (d:D) (ρ:Sl):Out (Option D×Sl):=
 (g d ρ).plain.bind λρ1=>(ft ρ1).plain.bind λq=>if q.1=iJ then (fe q.2).plain.bind λr=>.ok (iE r.1,r.2) else .ok (iG,q.2)
noncomputable def jG (g:D->Sl->Out Sl) (ft:ua) (fe:qY):List D->wT
 | [],ρ=>.ok ([],ρ)
 | d::ds,ρ=>(yV g ft fe d ρ).bind λp=>(jG g ft fe ds p.2).bind λq=>.ok (p.1.toList++q.1,q.2)
noncomputable def qI (own:List Nat) (nt:Nat) (cap:List Nat) (fi:wT) (g:D->Sl->Out Sl) (ft:ua) (fe:qY):qY:=λρ=>(fi ρ).bind λp=>
 if p.1.length<=sizeLine then (jG g ft fe p.1 (kE nt cap p.2)).bind λq=>.ok (.lst q.1,ka own q.2 nt cap p.2) else .bad
noncomputable def ctC (C:Ct) (nt len:Nat):Ct:=⟨C.K,C.cv,λ_ _ _=>False,ioC nt len,.sh,[],[],λ_ h=>absurd h (by simp)⟩
noncomputable def ftT:ua:=λρ=>.ok (iJ,ρ)
theorem YC:PTs Y [] (tT C own ftT):=⟨λpins s σ H Q I ⟨F,ρ,a,h⟩=>qfv pins s σ H Q I (h F H a .refl)⟩
structure CW (C:Ct) (own:List Nat) (nt:Nat) (cap:List Nat) (σ:St) (F H F0:Hp) (g:D->Sl->Out Sl) (ft:ua) (fe:qY) (ds ys:List D) (ρe:Sl) (p:Addr) (i:Nat) (σ1:St) (H1:Hp) (F1:Hp) (ρi:Sl) (accD:List D) (xs:List V) (rest:List D):Prop where
 rep:Rep C.K (wP own nt cap) F1 H1 σ1 ρi
 io:∀ i∈ioC nt cap.length,σ1[i]?=(kE nt cap σ)[i]?
 chg:Chg (OA (wP own nt cap) σ1) F H F1 H1
 gr:Same F0 F1
 at_:H1 p=iE (.lst xs)
 nF:F1 p=iG
 is:IsL C.K F1 xs accD
 le:accD.length<=i
 run:jG g ft fe (ds.drop i) ρi=.ok (rest,ρe)
 all:accD++rest=ys
theorem Zi {ft:ua} {fe:qY} {rest:List D} {ρe:Sl} (h:jG g ft fe (d::ds) ρ=.ok (rest,ρe)):∃ ρ1,g d ρ=.ok ρ1/\∃ b ρ2,ft ρ1=.ok (b,ρ2)/\((b=iJ/\∃ y k r,fe ρ2=.ok (y,k)/\jG g ft fe ds k=.ok (r,ρe)/\rest=y::r)\/(b=iI/\jG g ft fe ds ρ2=.ok (rest,ρe))):=by
 unfold jG yV at h;cases e:g d ρ with
 | exc c=>rw [e] at h; cases h
 | bad=>rw [e] at h; cases h
 | ok ρ1=>
  rw [e] at h;refine ⟨ρ1,rfl,?_⟩;simp only [Out.plain,Out.oj] at h;cases a:ft ρ1 with
  | exc c=>rw [a] at h; cases h
  | bad=>rw [a] at h; cases h
  | ok p=>
   obtain ⟨b,ρ2⟩:=p;rw [a] at h;refine ⟨b,ρ2,rfl,?_⟩;simp only [Out.plain,Out.oj] at h;cases b with
   | true=>
    refine .inl ⟨rfl,?_⟩;simp only [if_true] at h;cases q:fe ρ2 with
    | exc c=>rw [q] at h; cases h
    | bad=>rw [q] at h; cases h
    | ok p=>
     obtain ⟨y,k⟩:=p;rw [q] at h;simp only [Out.plain,Out.oj] at h;cases i:jG g ft fe ds k with
     | exc c=>rw [i] at h; cases h
     | bad=>rw [i] at h; cases h
     | ok p=>obtain ⟨r,B⟩:=p;rw [i] at h;simp only [Out.oj] at h;cases h;exact ⟨y,k,r,rfl,i,rfl⟩
   | false=>
    refine .inr ⟨rfl,?_⟩;simp only [cW,if_false,Out.oj] at h;cases i:jG g ft fe ds ρ2 with
    | exc c=>rw [i] at h; cases h
    | bad=>rw [i] at h; cases h
    | ok p=>obtain ⟨r,B⟩:=p;rw [i] at h;simp only [Out.oj] at h;cases h;rfl
section
variable {elt:Expr} {fi:wT} {ft:ua} {fe:qY} {me:Mo}
structure CapOk (X:Cx) (scope:lU) (N:List Str) (nt:Nat) (cap:List Nat):Prop where
 nd:cap.Nodup
 len:N.length=nt+cap.length
 at_:∀ (j k:Nat),cap[j]?=iE k->∃ x,N[nt+j]?=iE x/\X.N[k]?=iE x/\((Vis X.env.scope x/\(x,bz)∈scope.names)\/∀ k',(x,k')∉scope.names)
theorem Vy {F:Hp} {ρ1:Sl} {it:Addr} {fp:List Addr} {tn:Nat->Heap->Prop} {J:It} {E:iH->iK->Prop} {ds ys:List D} {ρe:Sl} (I:Inv X pins σ H s) (W:X.calm=iJ) (S:ScOk X scope) (CO:CapOk X scope N nt cap)
  (T:Turn X.prog X.w X.K tg J fp it tn) (st0:tn 0 s.heap) (hf:∀ b∈fp,WK X pins H b) (rp:Rep C.K own F H σ ρ1) (O:ItIs C.K F J ds) (hz:ds.length<=sizeLine)
  (hg:∀ fp L s' H',PG (jy X scope N fp L s' H') tg (tGd (ctC C nt cap.length) (wP own nt cap) g)) (ht:∀ fp L s' H',PTs (jy X scope N fp L s' H') ifs (tT (ctC C nt cap.length) (wP own nt cap) ft))
  (he:∀ fp L s' H',PE (jy X scope N fp L s' H') elt (tE (ctC C nt cap.length) (wP own nt cap) me fe)) (hme:me≠.any)
  (hrun:jG g ft fe ds (kE nt cap ρ1)=.ok (ys,ρe)) (RR:iH->Addr->mR->iK->Prop)
  (hRR:∀ p L s' F' H',H p=iG->Rep C.K own F' H' σ (ka own ρe nt cap ρ1)->Chg (OA own σ) F H F' H'->F' p=iG->OwnIs C.K F' H' p (.lst ys)->(∃ m,s'.heap.Ns L m)->WK X pins H' L->(∀ h',bC L s'.heap h'->Inv X pins σ H' { s' with heap:=h' })->RR (.ref p) L (.ok .next) s') :
  iM (model X.prog X.w) X.A (newList []) (λacc s₃=>iM (model X.prog X.w) X.A (newFunctionEnv scope X.env.globals (KY X.env.cells scope.names []) [] X.env.qual iG .none (iE X.env)) (λG s₄=>
   lI (model X.prog X.w) X.A (.compStart (.ListComp elt [⟨tg,iter,ifs,0⟩] scope pos) 0 (.ref it) acc { G with scope:=relabel scope X.env }) (RR acc G.locals) s₄) E s₃) E s:=by
 have oaH:∀ {σ1:St} {b:Addr},(∀ i∈ioC nt cap.length,σ1[i]?=(kE nt cap σ)[i]?)->OA (wP own nt cap) σ1 b->H b≠none:=λU z=>(rp.OA_there (GX U z)).1;refine qcM (σc:=kE nt cap σ) I W S T st0 hf hg ht (λfp L s' H'=>wX (he fp L s' H') hme) (by rw [Ua,CO.len]) (λj x v e1 e2 e3=>?_)
  (λp i m σ1 H1=>H p=iG/\m=ds.length - i/\i<=ds.length/\∃ F1 ρi accD xs rest,CW C own nt cap σ F H F g ft fe ds ys ρe p i σ1 H1 F1 ρi accD xs rest)
  (λp H1=>H p=iG/\∃ σ1 F1 xs,Rep C.K (wP own nt cap) F1 H1 σ1 ρe/\(∀ i∈ioC nt cap.length,σ1[i]?=(kE nt cap σ)[i]?)/\Chg (OA (wP own nt cap) σ1) F H F1 H1/\H1 p=iE (.lst xs)/\F1 p=iG/\IsL C.K F1 xs ys) (λp hp=>?_) ?_ RR ?_
 ·obtain ⟨j',k,rfl,h1,h2⟩:=vd.mp e2;obtain ⟨y,g1,g2,g3⟩:=CO.at_ j' k h1;rw [g1] at e1; cases e1;obtain ⟨k',hk'⟩:=e3;rcases g3 with ⟨g3,g4⟩ | g3;·exact ⟨k,g2,h2,g3,g4⟩
  ·exact absurd hk' (g3 k')
 ·obtain ⟨r1,c1,hF⟩:=GR (C:=C) (u:=.lst []) (qfw (nt:=nt) rp CO.nd) hp;exact ⟨ds.length,hp,by simp,bo _,F,kE nt cap ρ1,[],[],ys,r1,λ_ _=>rfl,c1.ofNo,Same.refl _,qm,hF,.nil,aA _,by simpa using hrun,rfl⟩
 ·rintro p i m σ1 H1 ⟨hp,rfl,hle,F1,ρi,accD,xs,rest,w⟩;by_cases t:i < ds.length
  ·have hd:ds.drop i=ds[i]::ds.drop (i+1):=List.drop_eq_getElem_cons t;have run:=w.run;rw [hd] at run;obtain ⟨ρa,ea,b,Z,eb,R⟩:=Zi run;have sub1:Same F H1:=w.gr.trans w.rep.sub;refine .inr ⟨O.go i H1 t sub1,λx H2 y=>?_⟩;obtain ⟨F2,c2,s2,is2⟩:=O.yld i F1 H1 x H2 ds[i] (by simp [t]) w.gr w.rep.sub y;have rp2:=w.rep.grow c2 s2;have M:∀ {Y:St},(∀ i∈ioC nt cap.length,Y[i]?=(kE nt cap σ)[i]?)->¬OA (wP own nt cap) Y p:=λU z=>oaH U z hp;have P:∀ {A:Addr->Prop} {Fa Ha Fb Hb:Hp} {zs:List V},Chg A Fa Ha Fb Hb->¬A p->Ha p=iE (.lst zs)->Fa p=iG->Hb p=iE (.lst zs)/\Fb p=none:=λ{A Fa Ha Fb Hb zs} c na e1 e2=>by
    refine ⟨c.keep p _ e1 na,?_⟩;cases q:Fb p with
    | none=>rfl
    | some u=>
     rcases c.new p (by rw [q]; simp) with z | z | z;·exact absurd e2 z
     ·rw [e1] at z; cases z
     ·exact absurd z na
   obtain ⟨at2,nF2⟩:=P c2 (λz=>z) w.at_ w.nF;refine ⟨F2,ρi,ds[i],rp2,is2,ρa,ea,λl rp3 oa3 io3=>?_⟩;have f:∀ i∈ioC nt cap.length,l[i]?=(kE nt cap σ)[i]?:=λi hi=>(io3 i hi).trans (w.io i hi);refine ⟨F2,ρa,rp3,?_⟩;rw [eb];intro F4 H4 rp4 c4;obtain ⟨at4,nF4⟩:=P c4 (M f) at2 nF2;have B:Chg (OA (wP own nt cap) l) F H F4 H4:=by
    have q1:Chg (OA own σ) F H F1 H1:=w.chg.mono λb z=>GX w.io z;have mv:∀ {b},OA (wP own nt cap) σ1 b->OA (wP own nt cap) l b:=λ{b} z=>by obtain ⟨i',hi',e'⟩:=z;obtain ⟨j,k,rfl,g1,g2⟩:=kl.mp hi';have hm:nt+j∈ioC nt cap.length:=JR.mpr ⟨j,(aD.mp g1).1,rfl⟩;exact ⟨nt+j,hi',by rw [f _ hm,<-w.io _ hm]; exact e'⟩
    exact ((w.chg.mono λb z=>mv z).trans' c2.ofNo).trans' c4
   have gr4:Same F F4:=(w.gr.trans c2.grow).trans c4.grow;have Q:IsL C.K F4 xs accD:=(w.is.mono c2.grow).mono c4.grow;rcases R with ⟨rfl,y',ρc,r,ec,er,hr⟩ | ⟨rfl,er⟩
   ·rw [Aa rfl];refine ⟨F4,Z,rp4,?_⟩;rw [ec];intro v F5 H5 h c5 mo5;obtain ⟨at5,nF5⟩:=P c5 (M f) at4 nF4;have hlen:xs.length=accD.length:=Q.length;refine ⟨xs,at5,by have:=w.le; lia,ds.length - (i+1),by lia,hp,rfl,t,F5,ρc,accD++[y'],xs++[v],r,?_⟩;have cp:Chg (λb=>b=p) F5 H5 F5 (upd H5 p (.lst (xs++[v]))):=⟨λb o e n=>by rw [qB n]; exact e,λb e=>by
     by_cases q:b=p;·rw [q,qm]; simp
     ·rw [qB q]; exact e,Same.refl _,λb e=>.inl e⟩
    have sb5:Same F5 (upd H5 p (.lst (xs++[v]))):=λb o e=>by rw [qB (qJ e nF5)]; exact h.sub b o e
    have rp6:Rep C.K (wP own nt cap) F5 (upd H5 p (.lst (xs++[v]))) l ρc:=by
     refine ⟨sb5,h.len,h.val,λi d hi e=>?_,h.opn,h.dis⟩;obtain ⟨a,h1,h2,h3⟩:=h.ow i d hi e;have na:a≠p:=λz=>by subst z; exact M f ⟨i,hi,h1⟩
     exact ⟨a,h1,h2,h3.grow (Same.refl _) λo z=>by rw [qB na]; exact z⟩
    refine ⟨rp6,f,?_,(gr4.trans c5.grow),qm,nF5,(Q.mono c5.grow).append (.cons mo5 .nil),by simp only [ai,aq,bf]; have:=w.le; lia,er,?_⟩;·exact (B.trans' c5).trans cp λb z=>.inr (by rw [z]; exact hp)
    ·rw [aV,<-w.all,hr]; rfl
   ·rw [Ab bF];exact ⟨ds.length - (i+1),by lia,hp,rfl,t,F4,Z,accD,xs,rest,rp4,f,B,gr4,at4,nF4,Q,by have:=w.le; lia,er,w.all⟩
  ·have e:i=ds.length:=by lia
   subst e;have run:=w.run;rw [List.drop_length] at run;unfold jG at run;cases run;have ha:=w.all;rw [aY] at ha;subst ha;exact .inl ⟨O.stop _ H1 (aA _) (w.gr.trans w.rep.sub),hp,σ1,F1,xs,w.rep,w.io,w.chg,w.at_,w.nF,w.is⟩
 ·rintro p L H' s' ⟨hp,σ1,F1,xs,r1,io1,c1,e1,n1,is1⟩ hns hfp hinv;exact hRR p L s' F1 H' hp (GY rp CO.nd r1 io1 c1) (c1.mono λb z=>GX io1 z) n1 ⟨xs,e1,is1⟩ hns hfp hinv
theorem Ub:∀ (ds:List D) (ρ:Sl) (c:Str) (o:Sl),jG g ft fe ds ρ≠.exc c o:=by
 intro ds
 induction ds with
 | nil=>intro ρ c o z; cases z
 | cons d ds j=>
  intro ρ c o z;unfold jG yV at z;cases b:g d ρ with
  | exc c=>rw [b] at z; cases z
  | bad=>rw [b] at z; cases z
  | ok ρ1=>
   rw [b] at z;simp only [Out.plain,Out.oj] at z;cases a:ft ρ1 with
   | exc c=>rw [a] at z; cases z
   | bad=>rw [a] at z; cases z
   | ok p=>
    rw [a] at z;simp only [Out.plain,Out.oj] at z;by_cases h:p.1=iJ
    ·rw [Aa h] at z;cases q:fe p.2 with
     | exc c=>rw [q] at z; cases z
     | bad=>rw [q] at z; cases z
     | ok r=>
      rw [q] at z;simp only [Out.plain,Out.oj] at z;cases i:jG g ft fe ds r.2 with
      | exc c=>exact j _ _ _ i
      | bad=>rw [i] at z; cases z
      | ok t=>rw [i] at z; cases z
    ·rw [Ab h] at z;simp only [Out.oj] at z;cases i:jG g ft fe ds p.2 with
     | exc c=>exact j _ _ _ i
     | bad=>rw [i] at z; cases z
     | ok t=>rw [i] at z; cases z
theorem Vz {α:Type} {Z:Vo->Prop} (r:Rep C.K own F H σ ρ) (b:¬Z .bad) (hx:∀ c ρ',Z (.exc c ρ')->∀ F' H',Same F' H'->qcd C.K C.ox F' H' σ ρ'->Chg (OA own σ) F H F' H'->C.E (C.cv c) iG H') (h:Z (qI own nt cap fi g ft fe ρ)):tIt C own fi σ H λJ H1=>∃ ds ρ1 ys ρe F1,ds.length<=sizeLine/\jG g ft fe ds (kE nt cap ρ1)=.ok (ys,ρe)/\Rep C.K own F1 H1 σ ρ1/\Chg (OA own σ) F H F1 H1/\ItIs C.K F1 J ds/\Z (.ok (.lst ys,ka own ρe nt cap ρ1)):=by
 refine ⟨F,ρ,r,?_⟩;unfold qI at h;cases q:fi ρ with
 | exc c=>rw [q] at h; exact hx c _ h
 | bad=>rw [q] at h; exact (b h).elim
 | ok p=>
  obtain ⟨ds,ρ1⟩:=p;rw [q] at h;have h:Z (if ds.length<=sizeLine then (jG g ft fe ds (kE nt cap ρ1)).bind λq=>.ok (.lst q.1,ka own q.2 nt cap ρ1) else .bad):=h;by_cases z:ds.length<=sizeLine
  ·rw [Aa z] at h;cases d:jG g ft fe ds (kE nt cap ρ1) with
   | exc c=>exact absurd d (Ub _ _ _ _)
   | bad=>rw [d] at h; exact (b h).elim
   | ok p=>obtain ⟨ys,ρe⟩:=p;rw [d] at h;exact λJ F1 H1 a k it=>⟨ds,ρ1,ys,ρe,F1,z,d,a,k,it,h⟩
  ·rw [Ab z] at h; exact (b h).elim
theorem qfx (P:X.calm=iJ) (S:ScOk X scope) (R:CapOk X scope N nt cap) (hi:PI X tg iter (tIt C own fi))
  (hg:∀ fp L s' H',PG (jy X scope N fp L s' H') tg (tGd (ctC C nt cap.length) (wP own nt cap) g)) (ht:∀ fp L s' H',PTs (jy X scope N fp L s' H') ifs (tT (ctC C nt cap.length) (wP own nt cap) ft))
  (K:∀ fp L s' H',PE (jy X scope N fp L s' H') elt (tE (ctC C nt cap.length) (wP own nt cap) me fe)) (j:me≠.any:=by decide) (D:∀ x,lq iter X.env x=pure x:=by intro _; rfl) :
  PE X (.ListComp elt [⟨tg,iter,ifs,0⟩] scope pos) (tE C own .fr (qI own nt cap fi g ft fe)):=by
 refine ⟨?_⟩;intro pins s σ H Q I ⟨F,ρ,t,h⟩;rw [eval_ListComp];have n:=Vz (α:=Unit) (Z:=λr=>Po C own .fr σ F H r Q) t (λz=>z) (λc _ z=>z) h;refine wpAny_comprehension_free (use:=iG) rfl D (QY (gu I S)) S.kind S.names (thn (hi pins s σ H _ I n) λW s1 h1=>thn h1 λy s2 h2=>?_);obtain ⟨it,fp,tn,J,H2,e,M,T,b,f2,ds,ρ1,ys,ρe,F1,B,a,d,k,O,po⟩:=h2;subst e;refine Vy (RR:=λacc V=>compPost (model X.prog X.w) X.A X.xe iG (EP X pins σ Q) acc V) M P S R T b f2 d O B hg ht K j a λp L s' F' H' hp f U nF o i G v=>?_;obtain ⟨m,E⟩:=i;refine ⟨m,E,λh' l=>⟨.ref p,H',v h' l,rfl,?_⟩⟩;refine po (.ref p) F' H' f (k.trans' U) ⟨p,rfl,?_,nF,o⟩;cases q:H p with
 | none=>rfl
 | some u=>exact absurd hp (k.stay p (by rw [q]; simp))
theorem qcN {pos' spos:Pos} (hN:X.N.Nodup) (V:X.N[i]?=iE x) (hx:Loc X.env.scope x) (P:X.calm=iJ) (S:ScOk X scope) (CO:CapOk X scope N nt cap) (hi:PI X tg iter (tIt C own fi))
  (hg:∀ fp L s' H',PG (jy X scope N fp L s' H') tg (tGd (ctC C nt cap.length) (wP own nt cap) g)) (ht:∀ fp L s' H',PTs (jy X scope N fp L s' H') ifs (tT (ctC C nt cap.length) (wP own nt cap) ft))
  (he:∀ fp L s' H',PE (jy X scope N fp L s' H') elt (tE (ctC C nt cap.length) (wP own nt cap) me fe)) (M:me≠.any:=by decide) (W:i∉C.io:=by exact yN rfl)
  (G:lB (.ListComp elt [⟨tg,iter,ifs,0⟩] scope pos) (iE (.Name x pos')) spos.line X.env=pure true:=by rfl) (hs:∀ x,lq iter X.env x=pure x:=by intro _; rfl)
  (Y:X.fn x=iJ\/X.env.scope.names.lookup x=iE .local:=by first | exact .inl rfl | exact .inr rfl) :
  PS X (.Assign [.Name x pos'] (.ListComp elt [⟨tg,iter,ifs,0⟩] scope pos) spos) (tSt C own (i::vL own [i]) (jx i (qI own nt cap fi g ft fe))):=by
 refine ⟨?_⟩;intro pins s σ H D I ⟨F,ρ,rp,h⟩;rw [exec_Assign_Name_used _ _ _ _ G];refine iF (wpAny_standAt (iF ?_));show iM _ X.A (do let _ <-comprehension (.ListComp elt [⟨tg,iter,ifs,0⟩] scope pos) scope X.env _ (newList []) iI (eval iter X.env) (iE (assign (.Name x pos') X.env))) _ _ s;have n:=Vz (α:=Unit) (Z:=λr=>PoS C own (i::vL own [i]) σ F H (r.bind λp=>if i < p.2.length then .ok (.nx,p.2.set i (iE p.1)) else .bad) D) rp (λz=>z) (λc _ z=>z) h;refine iF (lV (wpAny_comprehension_free (use:=iE (assign (.Name x pos') X.env)) (Q:=λ_ s'=>SP X pins D .next s') rfl hs (QY (gu I S)) S.kind S.names (thn (hi pins s σ H _ I n) λxv s1 h1=>thn h1 λitv s2 h2=>?_)) (λ_ s' hq=>iL (iL hq)) λ_ _ e=>e);obtain ⟨it,fp,tn,J,H2,e,I2,T,l,f2,ds,ρ1,ys,ρe,F1,hz,f,B,c1,O,po⟩:=h2;subst e;refine Vy (RR:=λacc C'=>compPost (model X.prog X.w) X.A X.xe (iE (assign (.Name x pos') X.env)) (λ_ s'=>SP X pins D .next s') acc C') I2 P S CO T l f2 B O hz hg ht he M f λp L s' F' H' hp d c' nF o K hfp k=>?_;obtain ⟨m,hn⟩:=K;have I3:Inv X pins σ H' s':=by simpa using k s'.heap (.refl ..)
 have hH:H p=none:=by
  cases q:H p with
  | none=>rfl
  | some u=>exact absurd hp (c1.stay p (by rw [q]; simp))
 show iM _ X.A (assign (.Name x pos') X.env (.ref p)) _ _ s';refine wpAny_assign_Name (Vc I3 hN V hx (v:=.ref p) rfl (λs4 I4 ⟨a,t,ha⟩=>?_) Y);obtain ⟨f0,f1,f2',f3,f4,f5⟩:=hfp;have nL:L≠a:=by
  rcases ha with z | z;·rw [z]; exact f1
  ·exact λq=>f4 x a z q.symm
 refine ⟨m,hn.sameBut t nL,λh' sb=>?_⟩;have I5:Inv X pins (σ.set i (iE (.ref p))) H' { s4 with heap:=h' }:=by have:=I4.turned (h':=h') (t':=s4.toks) (it:=L) (λb o hb e=>(sb.2 b hb).trans e) f0 f1 f3 f4 f5;exact this
 refine ⟨_,H',I5,?_⟩;have po:PoS C own (i::vL own [i]) σ F H (if i < (ka own ρe nt cap ρ1).length then .ok (.nx,(ka own ρe nt cap ρ1).set i (iE (.lst ys))) else .bad) D:=po;by_cases z:i < (ka own ρe nt cap ρ1).length
 ·rw [Aa z] at po;refine po _ F' H' ⟨d.putO z nF (λy=>(rp.OA_there y).1 hH) o,c1.trans' c',λb y=>?_,λj U=>aB λy=>W (by rw [y]; exact U)⟩;obtain ⟨j,U,e⟩:=y;by_cases E:j=i;·subst E;rw [aO (by rw [d.len]; exact z)] at e;cases e;exact .inr hH
  ·have R:=(jf j).mp ((ae.mp U).resolve_left E);rw [aB (bw E)] at e;exact .inl ⟨j,R.1,e⟩
 ·rw [Ab z] at po; exact po.elim
end
def Fly (h:Heap) (ex T:Addr) (cls:iH):Prop:=∃ o vs a ts,h.get? ex=iE o/\o.cls=cls/\o.data=.fields vs/\vs[1]?=iE (.ref T)/\T≠ex/\h.get? T=iE a/\a.data=.fields ts/\ts[3]?=iE .none
def CXk (P:iQ) (w:iR):CXT:=λouter H s E e s'=>∃ ex T C H',e=.ref ex/\s'.os=s.os/\l8 s'.gens/\Un (frs outer) [] H H' s.heap s'.heap/\HOk P w H' s'.heap/\Fly s'.heap ex T (.ref C)/\H' ex=iG/\H' T=iG/\s.heap.get? ex=iG/\s.heap.get? T=iG/\E (.ref C) iG H'
def InB (X:Cx) (H:Hp) (s:iK) (ex:Addr) (cls:iH):Prop:=H ex=iG/\X.s₀.heap.get? ex=iG /\
 ((∃ o vs,s.heap.get? ex=iE o/\o.cls=cls/\o.data=.fields vs/\vs[1]?=iE .none)\/∃ T,Fly s.heap ex T cls/\H T=iG/\X.s₀.heap.get? T=iG)
variable {ex:Addr} {T0:Option Addr}
section
variable {cls:iH}
noncomputable def VA (ex:Addr) (T:Option Addr) (X:Cx):List Addr:=ex::(T.toList++frs X.stack)
theorem YD (I:Inv X pins σ H s) (d:b∈frs X.stack):∃ o,s.heap.get? b=iE o/\∀ vs,o.data≠.fields vs:=(I.stack.mem d).2
theorem GZ (c:X.stack=X.env::X.outer):∀ env∈X.stack,∀ b,env.frame=iE b->b∈frs X.stack:=λenv i b d=>fF.mpr ⟨env,i,d⟩
structure Gone (X:Cx) (H:Hp) (s:iK) (ex:Addr) (cls:iH) (h2:Heap):Prop where
 keep:∀ b o,s.heap.get? b=iE o->H b≠iG\/(X.s₀.heap.get? b≠iG/\b∉frs X.stack)->h2.get? b=iE o
 slot:∀ b o,s.heap.get? b=iE o->b∈frs X.stack->∃ sl,h2.get? b=iE { o with slots:=sl }
 ok:HOk X.prog X.w H h2
 un:Un (frs X.stack) [] H H s.heap h2\/True
theorem qaa {h2:Heap} (I:Inv X pins σ H s) (hex:H ex=iG) (g:∀ T,T0=iE T->H T=iG) (n1:X.s₀.heap.get? ex=iG) (n2:∀ T,T0=iE T->X.s₀.heap.get? T=iG)
  (st:(bU s.heap (VA ex T0 X)).StaysIn h2) (sl:∀ b o,s.heap.get? b=iE o->(∀ vs,o.data≠.fields vs)->∃ sl,h2.get? b=iE { o with slots:=sl }):Gone X H s ex cls h2:=by
 have keep:∀ b o,s.heap.get? b=iE o->b≠ex->(∀ T,T0=iE T->b≠T)->b∉frs X.stack->h2.get? b=iE o:=λb o e h1 h2 i=>st b o (fA _ e λm=>by
  rcases ae.mp m with q | m;·exact h1 q
  ·rcases aj.mp m with q | q;·exact h2 b (Option.mem_toList.mp q) rfl
   ·exact i q)
 have k1:∀ b o,s.heap.get? b=iE o->H b≠iG->h2.get? b=iE o:=λb o e n=>keep b o e (λq=>n (by rw [q]; exact hex)) (λT h q=>n (by rw [q]; exact g T h)) λq=>n (I.stkFree b q);refine ⟨λb o e d=>?_,λb o e d=>?_,λb u e=>?_,.inr trivial⟩
 ·rcases d with d | ⟨d,hf⟩
  ·exact k1 b o e d
  ·exact keep b o e (λq=>d (by rw [q]; exact n1)) (λT h q=>d (by rw [q]; exact n2 T h)) hf
 ·obtain ⟨o',a,y⟩:=YD I d;rw [e] at a; cases a;exact sl b o e y
 ·refine (I.hok b u e).stay (λc v f q=>k1 c v q ?_) (λ_ q=>q) λ_ _ q=>q;rcases f with z | z;·rw [z,e]; simp
  ·rw [z]; simp
theorem VB {h2:Heap} (I:Inv X pins σ H s) (x:∀ T,T0=iE T->H T=iG) (n2:∀ T,T0=iE T->X.s₀.heap.get? T=iG) (g:Gone X H s ex cls h2) (c:X.ex=[])
  (t:h2.Traced (bU s.heap (VA ex T0 X)) ex cls):∃ T,Fly h2 ex T cls/\H T=iG/\X.s₀.heap.get? T=none:=by
 obtain ⟨k,vs,T,l,ts,D,B,A,a4,a5,a6,a7,a8,a9⟩:=t;have a:∀ o,s.heap.get? T=iE o->(∃ q,T0=iE q/\T=q):=λo e=>by
  have m:T∈VA ex T0 X:=by refine aZ λr=>?_;rw [fA _ e r] at a5;cases a5
  rcases ae.mp m with q | m;·exact absurd q a6
  ·rcases aj.mp m with q | q;·exact ⟨T,Option.mem_toList.mp q,rfl⟩
   ·obtain ⟨o',d,p⟩:=YD I q;obtain ⟨sl,i⟩:=g.slot T o' d q;rw [a7] at i;cases i;exact absurd a8 (p ts)
 refine ⟨T,⟨k,vs,l,ts,D,B,A,a4,a6,a7,a8,a9⟩,?_,?_⟩
 ·cases q:H T with
  | none=>rfl
  | some u=>
   have w:=I.hok.lt q;obtain ⟨o,e⟩:∃ o,s.heap.get? T=iE o:=by
    have:=(I.hok T u q)
    have st:=this.stay (H':=H) (h':=s.heap) (λb v _ z=>z) (λ_ z=>z) λ_ _ z=>z;cases z:s.heap.get? T with
    | some o=>exact ⟨o,rfl⟩
    | none=>
     exfalso;cases u with
     | lst xs=>obtain ⟨_,_,_,_,e⟩:=st; rw [z] at e; cases e
     | tup xs=>obtain ⟨_,_,_,_,e,_⟩:=st; rw [z] at e; cases e
     | dK kvs=>obtain ⟨_,_,_,_,o,_,_,e,_⟩:=st; rw [z] at e; cases e
     | dT kvs=>obtain ⟨_,_,_,_,o,_,_,e,_⟩:=st; rw [z] at e; cases e
     | set S n=>obtain ⟨o,_,_,_,e,_⟩:=st; rw [z] at e; cases e
     | ins C dx fs=>obtain ⟨_,_,_,e,_⟩:=st; rw [z] at e; cases e
     | own y=>obtain ⟨_,e⟩:=st; rw [z] at e; cases e
     | xd fs=>obtain ⟨_,⟨_,_,_,e,_⟩,_⟩:=st; rw [z] at e; cases e
     | rng lo hi=>obtain ⟨_,_,_,e⟩:=st; rw [z] at e; cases e
     | frz E u=>obtain ⟨e,_⟩:=st; rw [z] at e; cases e
     | tbl ps=>have e:s.heap.get? T=iE _:=st; rw [z] at e; cases e
     | met f y=>have e:s.heap.get? T=iE _:=st; rw [z] at e; cases e
     | ext φ=>obtain ⟨_,⟨_,e⟩,_⟩:=st; rw [z] at e; cases e
   obtain ⟨j,h,rfl⟩:=a o e;rw [x _ h] at q; cases q
 ·cases q:X.s₀.heap.get? T with
  | none=>rfl
  | some o=>obtain ⟨o',d⟩:=I.base.there T o q (by rw [c]; simp);obtain ⟨j,h,rfl⟩:=a o' d;rw [n2 _ h] at q; cases q
theorem Zj {E:iH->iK->Prop} {Q:Unit->iK->Prop} (I:Inv X pins σ H s) (h:X.stack=X.env::X.outer) (r:X.env.frame=iE X.env.locals) (c:X.ex=[]) (x:InB X H s ex cls)
  (k:∀ h2 T,Gone X H s ex cls h2->Fly h2 ex T cls->H T=iG->X.s₀.heap.get? T=iG->Q () { s with heap:=h2 }):iM (model X.prog X.w) X.A (leaving X.env (.ref ex)) Q E s:=by
 obtain ⟨hex,n1,hx⟩:=x;have F:X.A.frames=iE (X.env::X.outer):=by rw [I.ok.frames,h]
 have B:∀ as,(bU s.heap as).StaysIn s.heap:=λas b o e=>PySem.W.of_hideAll as e;have hl:∀ T0,s.heap.FunFrames (bU s.heap (VA ex T0 X)) (X.env::X.outer):=λT0=>by rw [<-h];exact PySem.W.funFrames_hide I.stack λenv y b C=>ac _ (aX _ (GZ h env y b C))
 have u:∀ T0,(bU s.heap (VA ex T0 X)).get? ex=none:=λT0=>fj _ (ae.mpr (.inl rfl));rcases hx with ⟨q,vs,m,l,j,a4⟩ | ⟨T,⟨q,vs,v,ts,m,l,j,a4,a5,a6,a7,a8⟩,D,n2⟩
 ·refine wpAny_leaving_first (base:=bU s.heap (VA ex iG X)) F (hl iG) r m (B _) (u iG) j a4 λh2 ⟨st,_,t,sl⟩=>?_;have g:Gone X H s ex cls h2:=qaa I hex (T0:=iG) (λ_ z=>nomatch z) n1 (λ_ z=>nomatch z) st sl;rw [l] at t;obtain ⟨p,f1,f2,i⟩:=VB I (T0:=iG) (λ_ z=>nomatch z) (λ_ z=>nomatch z) g c t;exact k h2 p g f1 f2 i
 ·have d:∀ a,iE T=iE a->H a=none:=λa z=>by cases z; exact D
  have n:∀ a,iE T=iE a->X.s₀.heap.get? a=none:=λa z=>by cases z; exact n2
  have f:s.heap.Traced (bU s.heap (VA ex (iE T) X)) ex cls:=⟨q,vs,T,v,ts,m,l,j,a4,fj _ (ac _ (fk _ (by simp))),a5,a6,a7,a8⟩
  refine wpAny_leaving_next (base:=bU s.heap (VA ex (iE T) X)) F (hl (iE T)) r f (B _) (u _) λh2 ⟨st,_,t,sl⟩=>?_;have g:Gone X H s ex cls h2:=qaa I hex d n1 n st sl;obtain ⟨p,f1,f2,i⟩:=VB I d n g c t;exact k h2 p g f1 f2 i
end
variable {P:iQ} {w:iR} {mg:Str->Option iH} {base h:Heap} {qual:Str} {outer:List Env} {s0:iK}
section
variable {cd:iH} {A:iX} {E:XK}
abbrev cxk (P:iQ) (w:iR) (K:Frag) (mg:Str->Option iH) (base:Heap) (N:List Str) (qual:Str) (scope:lU) (f:Addr) (cd:iH) (A:iX) (outer:List Env) (s0:iK) (H0:Hp) (E:XK):Cx:=qe4 (CXk P w) P w K mg base N qual scope f cd A outer s0 H0 E
theorem qhV {C:Addr} (I:Inv (cxk P w K mg base N qual scope f cd A outer s0 H0 E) pins σ H s) (x:InB (cxk P w K mg base N qual scope f cd A outer s0 H0 E) H s ex (.ref C)) (k:E (.ref C) iG H):(cxk P w K mg base N qual scope f cd A outer s0 H0 E).xe (.ref ex) s:=by
 refine Zj I rfl rfl rfl x λh2 T g l m j=>?_;have a:=I.base;have L:∀ b o,s0.heap.get? b=iE o->b≠(cxk P w K mg base N qual scope f cd A outer s0 H0 E).env.locals:=λb o e=>aG (aI (ay e) I.ok.above);have t:∀ b o,s0.heap.get? b=iE o->b∉frs outer->b∉frs (cxk P w K mg base N qual scope f cd A outer s0 H0 E).stack:=λb o e d z=>by
  rcases ae.mp (I.stkSub b z) with q | q;·exact L b o e q
  ·exact d q
 have i:∀ b,b∈frs outer->b∈frs (cxk P w K mg base N qual scope f cd A outer s0 H0 E).stack:=λb d=>by show b∈frs (_::outer);unfold frs;rw [dJ];exact ac _ d
 refine ⟨ex,T,C,H,rfl,I.os,I.bare,⟨λb o e n d hx=>?_,λb o e n d hx=>?_,a.free,λb o e hx=>?_,a.tups,a.frzs,a.tbls⟩,g.ok,l,x.1,m,x.2.1,j,k⟩;·exact g.keep b o (a.keep b o e n d hx) (.inr ⟨by show s0.heap.get? b≠iG; rw [e]; simp,t b o e d⟩)
 ·obtain ⟨sl,q⟩:=a.slot b o e n d hx;obtain ⟨c,h⟩:=g.slot b _ q (i b d);exact ⟨c,h⟩
 ·obtain ⟨o',q⟩:=a.there b o e hx;by_cases d:b∈frs (cxk P w K mg base N qual scope f cd A outer s0 H0 E).stack;·obtain ⟨sl,h⟩:=g.slot b o' q d;exact ⟨_,h⟩
  ·exact ⟨o',g.keep b o' q (.inr ⟨by show s0.heap.get? b≠iG; rw [e]; simp,d⟩)⟩
theorem qfy {e:iH} (c:X.ex=[]) (I:Inv X pins σ H s) (h:CXk X.prog X.w X.stack H s E e s'):∃ ex C H',e=.ref ex/\Inv X pins σ H' s'/\InB X H' s' ex (.ref C)/\E (.ref C) iG H':=by
 obtain ⟨ex,T,C,H',rfl,os,bare,un,hok,l,e1,i,n1,n2,k⟩:=h;have old:∀ b,s.heap.get? b=iG->X.s₀.heap.get? b=none:=λb d=>by
  cases q:X.s₀.heap.get? b with
  | none=>rfl
  | some o=>obtain ⟨o',a⟩:=I.base.there b o q (by rw [c]; simp);rw [d] at a; cases a
 exact ⟨ex,C,H',rfl,I.call' (ch:=[]) os un hok bare (λb z=>absurd z (by simp)),⟨e1,old ex n1,.inr ⟨T,l,i,old T n2⟩⟩,k⟩
theorem qcO:yI (CXk P w) (cxk P w K mg base N qual scope f cd A outer s0 H0 E) E:=λpins σ H s e s' I h=>by obtain ⟨ex,C,H',rfl,b,x,k⟩:=qfy rfl I h;exact qhV b x k
theorem qfz {C:Addr} {b:List iH} {d:String} (kin:K.In h) (c:mg x=iE (.ref C)) (q:dP K C b d=iJ):OwnCls x C b d mg h:=by
 refine ⟨c,?_⟩;unfold dP at q;split at q
 case h_2=>cases q
 case h_1 dd cd sl lk=>
  split at q
  case h_2=>cases q
  case h_1 C' bm a0 a1 a2 a3 n a5 em es=>
   have g:=q;simp only [aS,beq_iff_eq,Bool.not_eq_true'] at g;obtain ⟨⟨⟨⟨⟨e1,i⟩,l⟩,tl⟩,k⟩,t⟩:=g;obtain ⟨nm,bs,mro,ns,a,hd,sn,sub,ab,col,del⟩:=cd;dsimp only at em l k t;obtain ⟨s⟩:=sl;dsimp only at es;subst em l es e1 i;exact ⟨bm,ns,nm,a,bs,hd,sn,sub,ab,col,dd,a0,a1,a2,a3,a5,_,kin _ _ lk,.of_isNs (PySem.W.isNs_of_in kin k),PySem.W.nsMap_none_of_in kin k t,PySem.W.tail_of_in kin tl⟩
end
theorem qhW {T:Addr} (hok:HOk P w H h) (q:H T=iE u):∃ o,h.get? T=iE o:=by
 have st:=hok T u q;cases z:h.get? T with
 | some o=>exact ⟨o,rfl⟩
 | none=>
  exfalso;cases u with
  | lst xs=>obtain ⟨_,_,_,_,e⟩:=st; rw [z] at e; cases e
  | tup xs=>obtain ⟨_,_,_,_,e,_⟩:=st; rw [z] at e; cases e
  | dK kvs=>obtain ⟨_,_,_,_,o,_,_,e,_⟩:=st; rw [z] at e; cases e
  | dT kvs=>obtain ⟨_,_,_,_,o,_,_,e,_⟩:=st; rw [z] at e; cases e
  | set S n=>obtain ⟨o,_,_,_,e,_⟩:=st; rw [z] at e; cases e
  | ins C dx fs=>obtain ⟨_,_,_,e,_⟩:=st; rw [z] at e; cases e
  | own y=>obtain ⟨_,e⟩:=st; rw [z] at e; cases e
  | xd fs=>obtain ⟨_,⟨_,_,_,e,_⟩,_⟩:=st; rw [z] at e; cases e
  | rng lo hi=>obtain ⟨_,_,_,e⟩:=st; rw [z] at e; cases e
  | frz b u=>obtain ⟨e,_⟩:=st; rw [z] at e; cases e
  | tbl ps=>have e:h.get? T=iE _:=st; rw [z] at e; cases e
  | met f y=>have e:h.get? T=iE _:=st; rw [z] at e; cases e
  | ext φ=>obtain ⟨_,⟨_,e⟩,_⟩:=st; rw [z] at e; cases e
abbrev bmV:List iH:=[.type "ValueError",.type "Exception",.type "BaseException",.type "object"]
noncomputable def wj (x:Str) (fr:wT):qR:=λρ=>(fr ρ).bind λp=>.exc x p.2
theorem PoS.bindA {as:List AK} {o:Out (List D×Sl)} {k:List D×Sl->Out (Fl×Sl)} {D:Ends} {R:List V->Hp->Prop} (hp:PoS C own own' σ F H (o.bind k) D)
  (h:∀ vs F1 H1 ds ρ1,Rep C.K own F1 H1 σ ρ1->Chg (OA own σ) F H F1 H1->ArgV C.K H F1 H1 σ as vs ds->PoS C own own' σ F1 H1 (k (ds,ρ1)) D->R vs H1):PoA C own as σ F H o R:=by
 cases o with
 | ok p=>obtain ⟨ds,ρ1⟩:=p;exact λvs F1 H1 a c v=>h vs F1 H1 ds ρ1 a c v (PoS.shift (show PoS C own own' σ F H (k (ds,ρ1)) D from hp) (.ofE a c))
 | exc x=>exact hp
 | bad=>exact hp.elim
def YE (X:Cx) (C:Ct):Prop:=∀ (pins:Pns) (σ:St) (H:Hp) (s:iK) (ex A:Addr),Inv X pins σ H s->InB X H s ex (.ref A)->C.E (.ref A) iG H->X.xe (.ref ex) s
theorem qhX {cd:iH} {A:iX}:YE (cxk P w K mg base N qual scope f cd A outer s0 H0 C.E) C:=λpins σ H s ex A I x k=>qhV I x k
section
variable {fr:wT} {Cc:Addr} {np cpos:Pos}
theorem ArgV.len:∀ {as:List AK} {vs:List V} {ds:List D},ArgV K H0 F H σ as vs ds->vs.length=as.length
 | [],[],[],_=>rfl
 | .vl::as,v::vs,d::ds,h=>congrArg (·+1) (ArgV.len h.2)
 | .sl i::as,v::vs,d::ds,h=>congrArg (·+1) (ArgV.len h.2.2)
 | .fr::as,v::vs,d::ds,h=>congrArg (·+1) (ArgV.len h.2)
 | [],_::_,_,h=>h.elim
 | [],[],_::_,h=>h.elim
 | .vl::_,[],_,h=>h.elim
 | .vl::_,_::_,[],h=>h.elim
 | .sl _::_,[],_,h=>h.elim
 | .sl _::_,_::_,[],h=>h.elim
 | .fr::_,[],_,h=>h.elim
 | .fr::_,_::_,[],h=>h.elim
theorem qab (b:X.ex=[]) (ht:YE X C) (P:X.calm=iJ) (hg:Gl X x) (m:X.mg x=iE (.ref Cc)) (v:C.cv x=.ref Cc) (q:dP X.K Cc bmV "ValueError.__new__"=iJ) (z:PA X (e::es) (tAr C own as fr)) (hsz:as.length<=1000:=by decide) (f:∀ i∈C.ox,i∈own:=by exact wW rfl) (hd:Dbg x:=by decide)
  (g:iN (e::es) X.env=(iI,eval e X.env)::iN es X.env:=by exact jW rfl) (l:(j6 cpos (iN es X.env)).any (·.1)=false:=by rfl) :
  PS X (.Raise (iE (.Call (.Name x np) (e::es) [] cpos)) iG pos) (tSt C own own' (wj x fr)):=by
 refine ⟨?_⟩;intro pins s σ H D I ⟨F,ρ,r,h⟩;obtain ⟨tl,N,nm,p,bs,hdct,sn,sub,ab,col,dd,k0,k1,k2,k3,k5,mN,hC,A,c,T⟩:=(qfz I.ok.mod.kin m q).obj;refine wpAny_Raise_call_subT (C:=Cc) (nm:=nm) (q:=p) (N:=N) (bs:=bs) (bm:=tl) (hdct:=hdct) (sn:=sn) (sub:=sub) (ab:=ab) (col:=col) (dd:=dd) (k0:=k0) (k1:=k1) (k2:=k2) (k3:=k3) (k5:=k5)
  PySem.F.excBase_ValueError (mN:=mN) (T.hasType PySem.F.excBase_ValueError.hasBase) (I.ok.hd P) (by rw [g]; show (iI||(j6 cpos (iN es X.env)).any (·.1))=iI; rw [l]; rfl) c (JE I hg m ⟨rfl,?_⟩ hd)
 have n:tAr C own as fr σ H λvs H1=>vs.length<=sizeLine/\C.E (.ref Cc) iG H1:=by
  refine ⟨F,ρ,r,PoS.bindA h λvs F1 H1 ds ρ1 a M G h1=>⟨?_,?_⟩⟩;·rw [G.len]; exact bI hsz (by rw [iT]; decide)
  ·rw [<-v]; exact h1 F1 H1 a.sub (a.ioIs f) .refl
 have run:=z cpos pins s σ H _ I n;rw [g] at run ⊢;refine dq (lV run (λus s2 ⟨vs,H2,k,r2,z2,B⟩=>?_) λ_ _ y=>y);refine ⟨rfl,by rw [<-r2.length]; exact z2,k.bk _ _ hC,A.keeps k.bk,T.keeps k.bk,λh' ex mk=>?_⟩;have J:Inv X pins σ H2 { s2 with heap:=h' }:=k.kept (t':=s2.toks) mk.keeps;obtain ⟨t,h1,h2,L⟩:=mk.there;refine ht pins σ H2 _ ex Cc J ⟨?_,?_,.inl ⟨_,_,h1,rfl,rfl,rfl⟩⟩ B
 ·cases d:H2 ex with
  | none=>rfl
  | some u=>have w:=k.hok.lt d;refine absurd mk.new ?_;obtain ⟨o,e⟩:=qhW k.hok d;rw [e]; simp
 ·cases d:X.s₀.heap.get? ex with
  | none=>rfl
  | some o=>obtain ⟨o',j⟩:=k.base.there ex o d (by rw [b]; simp);rw [mk.new] at j; cases j
end
def Zk (P:iQ) (w:iR) (K:Frag) (mg:Str->Option iH) (base:Heap) (cv:Str->iH) (k:Nat) (x:Str) (ps:List Str) (ms:List PM) (mr:Mo) (G:jD):Prop:=
 ∃ f fd,FnOk P w K mg base (CXk P w) k f fd ps (spD K cv ms mr G)/\mg x=iE (.ref f)/\mS K (.ref f)=iJ/\Binds K fd ps []
def kb (K:Frag) (mg:Str->Option iH) (x:Str) (st:Stmt) (ps:List Str):Prop:=∃ f fd,Fun K x x st f fd/\mg x=iE (.ref f)/\Binds K fd ps []
theorem qeb {P:iQ} {w:iR} {base:Heap} {cv:Str->iH} {k:Nat} {ms:List PM} {mr:Mo} {own':List Nat} {fb:qR} (T:kb K mg x st ps) (S:FnScope N ps (ja st))
  (a:∀ (cdv:iH) (f:Addr) (A:iX) (outer:List Env) (s:iK) (H:Hp) (E:XK),Room k (A.deeper (mm x (ja st) s.heap.objs.size f cdv)) ->PSs (cxk P w K mg base N x (ja st) f cdv A outer s H E) (va st) (tSt (qjN K cv E ms mr) (kn 0 ms) own' fb))
  (hl:ms.length=ps.length:=by rfl) (g:∀ i∈Yy 0 ms,i∈own':=by exact wW rfl) (r:mr=.sh\/∀ ds ρ,(fb (qt N ds))≠.ok (.nx,ρ):=by exact .inl rfl):Zk P w K mg base cv (k+1) x ps ms mr (jQ N ms fb):=by
 obtain ⟨f,fd,F,c,d⟩:=T;exact ⟨f,fd,qls F S hl g r (λcdv A outer s H E h=>a cdv f A outer s H E h) λ_=>.inr rfl,c,F.kp,d⟩
section
variable {G:jD} {fr:wT} {p:Pos} {k j:Nat} {cv:Str->iH}
theorem qQ (F:Zk X.prog X.w X.K X.mg X.base cv j x ps ms mr G) (h:Room k X.A) (d:j<=k) (hx:yI (CXk X.prog X.w) X C.E) (hg:Gl X x) (t:PA X (e::es) (tAr C own as fr)) (v:C.cv=cv:=by rfl) (n:C.K=X.K:=by rfl) (s:ms=as.map KW:=by rfl) (c:∀ i∈ju as,i∈own:=by decide) (nd:(ju as).Nodup:=by decide) (g:frA as<=1:=by decide) (o:∀ i∈C.ox,i∈own:=by exact wW rfl)
  (b:Dbg x:=by decide) (q:iN (e::es) X.env=(iI,eval e X.env)::iN es X.env:=by exact jW rfl) (l:(j6 pos (iN es X.env)).any (·.1)=false:=by exact zW rfl):PE X (.Call (.Name x p) (e::es) [] pos) (tE C own mr (ql as G fr)):=by
 subst v;obtain ⟨f,fd,F,m,a,r⟩:=F;rw [<-n] at F;exact qfs (by rw [<-n]; exact F) (h.mono d) hg m a r hx t s c nd g o b q l
noncomputable def qlt:D->Out D
 | .int i=>.ok (.int (-i))
 | _=>.bad
theorem qec:UnD X C .sh (unaryOp .USub) qlt:=by
 intro pins s σ H x v Q I d h;obtain ⟨F,dx,A,tx,po⟩:=h;cases dx <;> try exact po.elim
 obtain rfl:=tx.int;exact qho pins s σ H _ v Q I d ⟨_,rfl,po _ F H A .refl (.int _)⟩
end
noncomputable def wQ:Option (Option D)->Bool
 | some (iE (.lst _))=>iJ
 | _=>iI
noncomputable def xE (i:Nat) (g:List D->D->Out (List D)) (fe:qY):qY:=λρ=>if wQ ρ[i]?=iJ then (fe ρ).bind λp=>match p.2[i]? with
 | some (iE (.lst xs))=>match g xs p.1 with
  | .ok ys=>.ok (.non,p.2.set i (iE (.lst ys)))
  | _=>.bad
 | _=>.bad
 else .bad
noncomputable def QE (xs:List D) (d:D):Out (List D):=if xs.length < sizeLine then .ok (xs++[d]) else .bad
noncomputable def qcP (xs:List D):D->Out (List D)
 | .lst ys=>if xs.length+ys.length<=sizeLine then .ok (xs++ys) else .bad
 | .tup ys=>if xs.length+ys.length<=sizeLine then .ok (xs++ys) else .bad
 | _=>.bad
section
variable {fe:qY}
theorem Rep.write (r:Rep K own F H σ ρ) (hi:i∈own) (g:σ[i]?=iE (iE (V.ref a))) (ow:OwnIs K F (upd H a u) a d):Rep K own F (upd H a u) σ (ρ.set i (iE d))/\Chg (OA own σ) F H F (upd H a u):=by
 obtain ⟨f,h⟩:=r.opn i hi;obtain ⟨t,e1,E,k⟩:=r.ow i f hi h;rw [g] at e1; cases e1;have hl:i < ρ.length:=(aD.mp h).1;refine ⟨⟨λb o e=>by rw [qB (qJ e E)]; exact r.sub b o e,by simp [r.len],λj d' G e=>?_,λj d' G e=>?_,λj G=>?_,r.dis⟩,⟨λb o e n=>?_,λb e=>?_,Same.refl _,λb e=>.inl e⟩⟩;·rw [aB (λz=>G (by rw [<-z]; exact hi))] at e;exact r.val j d' G e
 ·by_cases q:j=i;·subst q;rw [aO hl] at e;cases e;exact ⟨a,g,E,ow⟩
  ·rw [aB (bw q)] at e;obtain ⟨b,h1,h2,c⟩:=r.ow j d' G e;have A:b≠a:=λz=>by subst z; exact q (r.dis j i b G hi h1 g)
   exact ⟨b,h1,h2,c.grow (Same.refl _) λo z=>by rw [qB A]; exact z⟩
 ·by_cases q:j=i;·subst q; exact ⟨d,aO hl⟩
  ·rw [aB (bw q)]; exact r.opn j G
 ·have A:b≠a:=λz=>n (by rw [z]; exact ⟨i,hi,g⟩);rw [qB A]; exact e
 ·by_cases q:b=a;·rw [q,qm]; simp
  ·rw [qB q]; exact e
theorem JS {o:Option (Option D)} (h:wQ o=iJ):∃ xs,o=iE (iE (.lst xs)):=by
 unfold wQ at h;split at h;·exact ⟨_,rfl⟩
 ·cases h
theorem YF {g:List D->D->Out (List D)} {R:V->V->Hp->VK->Prop} {σ:St} {H:Hp} {Q:VK} (l:i∈own) (t:m≠.any)
  (j:∀ (a:Addr) (xs:List V) (ds ys:List D) (v:V) (d:D) (F H:Hp),Same F H->H a=iE (.lst xs)->F a=iG->IsL C.K F xs ds->Is C.K F v d->g ds d=.ok ys->(∀ zs,IsL C.K F zs ys->Q .non (upd H a (.lst zs)))->R (.ref a) v H Q)
  (h:tE C own .sh (xE i g fe) σ H Q):∃ a xs,σ[i]?=iE (iE (V.ref a))/\H a=iE (.lst xs)/\tE C own .sh fe σ H λv H1=>R (.ref a) v H1 Q:=by
 obtain ⟨F,ρ,p,h⟩:=h;unfold xE at h;by_cases q:wQ ρ[i]?=iJ
 ·rw [Aa q] at h;obtain ⟨ds,hd⟩:=JS q;obtain ⟨a,h1,h2,xs,k,w⟩:=p.ow i _ l hd;refine ⟨a,xs,h1,k,F,ρ,p,Po.bind h λv F1 H1 d ρ1 r x f po=>?_⟩;cases e:ρ1[i]? with
  | none=>simp only [e] at po; exact po.elim
  | some o=>
   cases o with
   | none=>simp only [e] at po; exact po.elim
   | some dd=>
    simp only [e] at po;cases dd with
    | lst es=>
     simp only at po;cases b:g es d with
     | ok ys=>simp only [b] at po;obtain ⟨y,e1,s,vs,E,n⟩:=r.ow i _ l e;rw [h1] at e1; cases e1;refine j a vs es ys v d F1 H1 r.sub E s n f b λzs z=>?_;obtain ⟨r2,c2⟩:=r.write (u:=.lst zs) (d:=.lst ys) l h1 ⟨zs,qm,z⟩;exact po .non F1 _ r2 c2 .non
     | exc c o=>simp only [b] at po; exact po.elim
     | bad=>simp only [b] at po; exact po.elim
    | _=>exact po.elim
 ·rw [Ab q] at h; exact h.elim
theorem vU {px apos cpos:Pos} (u:C.K=X.K) (r:X.N[i]?=iE x) (n:Vis X.env.scope x) (o:i∈own) (p:PE X e (tE C own m fe)) (j:m≠.any:=by decide)
  (hd:Dbg x:=by decide) (f:Cdk x:=by decide)
  (c:j0 (.Name x px) "append" X.env (eval (.Name x px) X.env)=eval (.Name x px) X.env:=by rfl)
  (w:((j6 cpos (iN [e] X.env)).all (λx=>!x.1)&&(lA cpos (j9 [] X.env)).all (λx=>x.1.isSome)
   && decide ([e].length+([]:List i9).length+(if ([]:List i9).isEmpty then 0 else 1) < 30))=true:=by exact kN rfl)
  (b:(apos.endLine == cpos.line)=true:=by rfl) (s:iN [e] X.env=[(iI,eval e X.env)]:=by exact qE rfl) :
  PE X (.Call (.Attribute (.Name x px) "append" apos) [e] [] cpos) (tE C own .sh (xE i QE fe)):=by
 refine jE (WP b9 PySem.F.slot_list_append PySem.F.type_list_append Vk (wK r n hd f) (qM (wX p j) jB s) c w b s rfl) λσ H Q h=>?_;have q:∀ (a:Addr) (xs:List V) (ds ys:List D) (v:V) (d:D) (F H:Hp),Same F H->H a=iE (.lst xs)->F a=iG->IsL C.K F xs ds->Is C.K F v d->QE ds d=.ok ys->(∀ zs,IsL C.K F zs ys->Q .non (upd H a (.lst zs)))->WQ (.ref a) [v] H Q:=λa xs ds ys v d F H A t y ix l g k=>by
  unfold QE at g;split at g;·cases g;exact ⟨a,xs,v,rfl,rfl,t,by rw [ix.length]; assumption,k _ (ix.append (.cons l .nil))⟩
  ·cases g
 obtain ⟨a,xs,h1,h2,k⟩:=YF (R:=λx v H Q=>WQ x [v] H Q) o j q h;exact ⟨.ref a,h1,.inl ⟨rfl,xs,.inl (.inl h2)⟩,k⟩
theorem gx {px apos cpos:Pos} (I:X.N[i]?=iE x) (A:Vis X.env.scope x) (l:i∈own) (B:PE X e (tE C own .fr fe))
  (hd:Dbg x:=by decide) (j:Cdk x:=by decide)
  (f:j0 (.Name x px) "extend" X.env (eval (.Name x px) X.env)=eval (.Name x px) X.env:=by rfl)
  (w:((j6 cpos (iN [e] X.env)).all (λx=>!x.1)&&(lA cpos (j9 [] X.env)).all (λx=>x.1.isSome)
   && decide ([e].length+([]:List i9).length+(if ([]:List i9).isEmpty then 0 else 1) < 30))=true:=by exact kN rfl)
  (c:(apos.endLine == cpos.line)=true:=by rfl) (s:iN [e] X.env=[(iI,eval e X.env)]:=by exact qE rfl) :
  PE X (.Call (.Attribute (.Name x px) "extend" apos) [e] [] cpos) (tE C own .sh (xE i qcP fe)):=by
 refine jE (WP b9 PySem.F.slot_list_extend PySem.F.type_list_extend Gy (wK I A hd j) (qM B jB s) f w c s rfl) λσ H Q ⟨F,ρ,p,h⟩=>?_;unfold xE at h;by_cases q:wQ ρ[i]?=iJ
 ·rw [Aa q] at h;obtain ⟨ds,hd⟩:=JS q;obtain ⟨a,h1,h2,xs,J,L⟩:=p.ow i _ l hd;refine ⟨.ref a,h1,.inl ⟨rfl,xs,.inl (.inl J)⟩,F,ρ,p,Po.bind h λv F1 H1 d ρ1 r O m po=>?_⟩;obtain ⟨b,rfl,G,E,k⟩:=m;cases g:ρ1[i]? with
  | none=>simp only [g] at po; exact po.elim
  | some o=>
   cases o with
   | none=>simp only [g] at po; exact po.elim
   | some dd=>
    simp only [g] at po;cases dd with
    | lst es=>
     simp only at po;obtain ⟨P,e1,M,vs,K,t⟩:=r.ow i _ l g;rw [h1] at e1; cases e1;cases d with
     | lst ys=>
      obtain ⟨zs,y,n⟩:=k;have po:Po C own .sh σ F1 H1 (match (if es.length+ys.length<=sizeLine then .ok (es++ys) else .bad:Out (List D)) with | .ok ys=>.ok (.non,ρ1.set i (iE (.lst ys))) | _=>.bad) Q:=po;by_cases z:es.length+ys.length<=sizeLine;·rw [Aa z] at po;refine ⟨a,b,vs,zs,rfl,rfl,K,y,by rw [t.length,n.length]; exact z,?_⟩;obtain ⟨r2,c2⟩:=r.write (u:=.lst (vs++zs)) (d:=.lst (es++ys)) l h1 ⟨_,qm,t.append n⟩;exact po .non F1 _ r2 c2 .non
      ·rw [Ab z] at po; exact po.elim
     | dct ys=>exact po.elim
     | ins _ _=>exact po.elim
     | at_ _ _=>exact po.elim
     | _=>exact k.elim
    | _=>exact po.elim
 ·rw [Ab q] at h; exact h.elim
end
noncomputable def scB (names:List (Str×lu)) (scope:lU):Bool:=decide (scope.kind=.function)&&scope.names.all λy=>decide (y.2≠.cell)&&(!decide (y.2=.local)||decide (scope.names.lookup y.1=iE .local)) &&
 (!decide (y.2=.free)||((decide (names.lookup y.1=iE .cell)||decide (names.lookup y.1=iE .free))&&decide (scope.names.lookup y.1=iE .free)))
variable {names:List (Str×lu)}
theorem qhY (h:X.env.scope.names=names) (b:scB names scope=iJ):ScOk X scope:=by
 subst h;unfold scB at b;rw [aS,aJ] at b;obtain ⟨c,a⟩:=b;refine ⟨Ae c,λy D=>?_,λy D e=>?_,λy D e=>?_,λy D e=>?_⟩;all_goals
  have q:=a y D;simp only [aS,g9,Bool.not_eq_true',decide_eq_true_eq,decide_eq_false_iff_not] at q
 ·exact q.1.1
 ·exact q.1.2.resolve_left λz=>z e
 ·exact (q.2.resolve_left λz=>z e).1
 ·exact (q.2.resolve_left λz=>z e).2
noncomputable def qjP (names:List (Str×lu)) (N:List Str) (scope:lU) (c:List Str) (nt:Nat) (cap:List Nat):Bool:=decide cap.Nodup&&decide (c.length=nt+cap.length)&&(aE cap.length).all λj=>match cap[j]? with
 | some k=>match c[nt+j]? with
  | some x=>decide (N[k]?=iE x)&&(((decide (names.lookup x=iE .local)||decide (names.lookup x=iE .cell)||decide (names.lookup x=iE .free))&&decide ((x,bz)∈scope.names))||scope.names.all λy=>decide (y.1≠x))
  | none=>iI
 | none=>iI
theorem qed {c:List Str} (a:X.env.scope.names=names) (d:X.N=N) (b:qjP names N scope c nt cap=iJ):CapOk X scope c nt cap:=by
 subst a d;unfold qjP at b;rw [aS,aS,aJ] at b;obtain ⟨⟨i,g⟩,f⟩:=b;refine ⟨Ae i,Ae g,λj k G=>?_⟩;have q:=f j (aM.mpr (aD.mp G).1);rw [G] at q;cases e:c[nt+j]? with
 | none=>simp only [e] at q; cases q
 | some x=>
  simp only [e,aS,g9,decide_eq_true_eq] at q;refine ⟨x,rfl,q.1,?_⟩;rcases q.2 with ⟨z,q2⟩ | z
  ·refine .inl ⟨?_,q2⟩;rcases z with (z | z) | z;·exact .inl z
   ·exact .inr (.inl z)
   ·exact .inr (.inr z)
  ·refine .inr λk' h=>?_;rw [aJ] at z;exact Ae (z (x,k') h) rfl
theorem vV:yI (CXk P w) X (λ_ _ _=>False):=λ_ _ _ _ _ _ _ h=>by obtain ⟨_,_,_,_,_,_,_,_,_,_,_,_,_,_,k⟩:=h;exact k.elim
noncomputable def qkF (f:qY):qY:=λρ=>(qL f ρ).bind λp=>.ok (.bl (!p.1),p.2)
section
variable {i:Int}
theorem wk (h:∃ t,X.mg x=iE (.int i t)) (hg:Gl X x) (hd:Dbg x:=by decide):PE X (.Name x pos) (tE C own .sh (dC (.int i))):=by obtain ⟨t,h⟩:=h;exact GH (v:=.int i) hg h ⟨t,rfl⟩ (λ_=>.int i) hd
end
section
variable {a b:Expr} {f fa fb:qY}
noncomputable def vW:D->Out D
 | .lst xs=>.ok (.tup xs)
 | .tup xs=>.ok (.tup xs)
 | _=>.bad
noncomputable def VC:D->Out D
 | .lst xs=>.ok (.lst xs)
 | .tup xs=>.ok (.lst xs)
 | _=>.bad
theorem yW (n:C.K=X.K):xH X C .sh (.type "tuple") vW:=by
 intro pins s σ H xs us Q I r h;obtain ⟨x,F,dx,rfl,A,tx,po⟩:=h;cases dx with
 | lst ds=>obtain ⟨p,vs,rfl,hq,t⟩:=tx.lst A;refine yL pins s σ H _ us Q I r ⟨p,vs,rfl,.inl ⟨by rw [<-n]; exact hq,λl hl=>?_⟩⟩;obtain ⟨s2,c2⟩:=gt (u:=.tup vs) A hl;exact po _ _ _ s2 c2 (.tup (.inl (.inl qm)) (t.mono c2.grow))
 | tup ds=>
  rcases tx with tx | ⟨_,_,tx⟩
  ·have a:=tx;cases tx with
   | tup hq t=>exact yL pins s σ H _ us Q I r ⟨_,_,rfl,.inr ⟨by rw [<-n]; exact jm A hq,po _ F H A .refl a⟩⟩
  ·exact tx.elim
 | _=>exact po.elim
theorem Uc (n:C.K=X.K):xH X C .fr (.type "list") VC:=by
 intro pins s σ H xs us Q I r h;obtain ⟨x,F,dx,rfl,A,tx,po⟩:=h;cases dx with
 | lst ds=>obtain ⟨p,vs,rfl,hq,t⟩:=tx.lst A;refine zd pins s σ H _ us Q I r ⟨p,vs,rfl,.inl (by rw [<-n]; exact hq),λl hl=>?_⟩;obtain ⟨s2,c2,E⟩:=jV (u:=.lst vs) A hl;exact po _ _ _ s2 c2 ⟨l,rfl,hl,E,vs,qm,t⟩
 | tup ds=>obtain ⟨p,vs,rfl,hq,t⟩:=tx.tup A;refine zd pins s σ H _ us Q I r ⟨p,vs,rfl,.inr (by rw [<-n]; exact hq),λl hl=>?_⟩;obtain ⟨s2,c2,E⟩:=jV (u:=.lst vs) A hl;exact po _ _ _ s2 c2 ⟨l,rfl,hl,E,vs,qm,t⟩
 | _=>exact po.elim
def qac (X:Cx) (C:Ct) (m:Mo) (f:iH) (g:D->D->Out D):Prop:=wU X f (λxs H Q=>∃ x y F dx d,xs=[x,y]/\Same F H/\TopIs C.K F H x dx/\TopIs C.K F H y d/\PoV C m F H (g dx d) Q)
theorem JT {Q:VK} {g:D->D->Out D} (k:ma≠.any) (h:tE C own m (d2 g fa fb) σ H Q):qcr (tE C own ma fa) (qcr (tE C own mb fb) qjL) σ H λxs H1=>∃ x y F dx a,xs=[x,y]/\Same F H1/\TopIs C.K F H1 x dx/\TopIs C.K F H1 y a/\PoV C m F H1 (g dx a) Q:=by
 obtain ⟨F,ρ,n,h⟩:=Vp (mb:=mb) k h;refine ⟨F,ρ,n,?_⟩;cases q:fa ρ with
 | ok p=>
  rw [q] at h;obtain ⟨d,ρ1⟩:=p;intro v F1 H1 e o j;obtain ⟨t,ρ2,b,h2⟩:=h v F1 H1 e o j;refine ⟨t,ρ2,b,?_⟩;cases f:fb ρ2 with
  | ok p=>rw [f] at h2;obtain ⟨d',l⟩:=p;intro w u s r J i;obtain ⟨M,dx,a,z⟩:=h2 w u s r J i;exact ⟨v,w,M,dx,a,rfl,z⟩
  | exc c=>rw [f] at h2; exact h2
  | bad=>rw [f] at h2; exact h2.elim
 | exc c=>rw [q] at h; exact h
 | bad=>rw [q] at h; exact h.elim
theorem VD {id:String} {p:Pos} {g:D->D->Out D} (e:qac X C m (.builtin id) g) (hg:Gl X x) (d:X.mg x=iG) (v:iO x=iE (.builtin id)) (j:PE X a (tE C own ma fa)) (i:PE X b (tE C own mb fb)) (f:ma≠.any:=by decide) (n:x ≠ "__name__":=by decide) (c:Dbg x:=by decide)
  (h1:iN [a,b] X.env=(iI,eval a X.env)::iN [b] X.env:=by rfl) (h2:iN [b] X.env=[(iI,eval b X.env)]:=by exact qE rfl):PE X (.Call (.Name x p) [a,b] [] pos) (tE C own m (d2 g fa fb)):=
 jE (yK e hg d v (qM j (qM i jB h2) h1) n c (by rw [h1]) (by rw [h2]; rfl)) λ_ _ _ h=>JT f h
noncomputable def qjQ:D->D->Out D:=yn λi j=>.ok (.int (if j > i then j else i))
noncomputable def qjR:D->D->Out D:=yn λi j=>.ok (.int (if j < i then j else i))
theorem qhZ (d:X.calm=iJ):qac X C .sh (.builtin "max") qjQ:=by
 intro pins s σ H xs us Q I r h;obtain ⟨x,y,F,dx,a,rfl,A,tx,ty,po⟩:=h;cases dx <;> try exact po.elim
 cases a <;> try exact po.elim
 obtain rfl:=tx.int;obtain rfl:=ty.int;exact Gu d pins s σ H _ us Q I r ⟨_,_,rfl,po _ F H A .refl (.int _)⟩
theorem qh0 (d:X.calm=iJ):qac X C .sh (.builtin "min") qjR:=by
 intro pins s σ H xs us Q I r h;obtain ⟨x,y,F,dx,a,rfl,A,tx,ty,po⟩:=h;cases dx <;> try exact po.elim
 cases a <;> try exact po.elim
 obtain rfl:=tx.int;obtain rfl:=ty.int;exact Gv d pins s σ H _ us Q I r ⟨_,_,rfl,po _ F H A .refl (.int _)⟩
noncomputable def kt (a T:String):Option Bool:=if (iq a == iq T)=iJ then iE iJ else if PySem.W.kitMeta T=iJ then (fastBuiltinMro a).map (·.contains (.type T)) else iG
theorem qcQ (K:Frag) (a T:String):cu K (.type a) (.type T)=kt a T:=rfl
noncomputable def tyN:D->Option String
 | .non=>iE "NoneType"
 | .bl _=>iE "bool"
 | .int _=>iE "int"
 | .str _=>iE "str"
 | .tup _=>iE "tuple"
 | .lst _=>iE "list"
 | .dct _=>iE "dict"
 | _=>iG
noncomputable def zg (T:String) (d:D):Out D:=match tyN d with
 | some a=>match kt a T with
  | some b=>.ok (.bl b)
  | none=>.bad
 | none=>.bad
theorem qcR (g:C.K=X.K):wU X (.builtin "isinstance") (λxs H Q=>∃ x F d,xs=[x,.ty T]/\Same F H/\TopIs C.K F H x d/\PoV C .sh F H (zg T d) Q):=by
 intro pins s σ H xs us Q I r h;obtain ⟨x,F,d,rfl,A,tx,po⟩:=h;obtain ⟨u,c,rfl,B,i⟩:=qcq r;cases i;cases q:tyN d with
 | none=>unfold zg at po; rw [q] at po; exact po.elim
 | some a=>
  cases f:kt a T with
  | none=>unfold zg at po; rw [q] at po; simp only [f] at po; exact po.elim
  | some b=>
   have po:PoV C .sh F H (.ok (.bl b)) Q:=by unfold zg at po; rw [q] at po; simp only [f] at po; exact po
   have fin:∀ tk,EP X pins σ Q (.bool b) { s with toks:=tk }:=λtk=>⟨.bl b,H,I.tok tk,rfl,po _ F H A .refl (.bl b)⟩
   have e:cu X.K (.type a) (.type T)=iE b:=(qcQ X.K a T).trans f;cases d with
   | non=>obtain rfl:=tx.non; cases B; cases q; exact cz PySem.W.kitx_none I.kIn dS e (λz=>nomatch z) fin
   | bl y=>obtain rfl:=tx.bl; cases B; cases q; exact cz PySem.W.kitx_bool I.kIn dS e (λz=>nomatch z) fin
   | int y=>obtain rfl:=tx.int; obtain ⟨t,rfl⟩:=B; cases q; exact cz PySem.W.kitx_int I.kIn dS e (λz=>nomatch z) fin
   | str y=>obtain ⟨rfl,_⟩:=tx.str; obtain ⟨t,rfl⟩:=B; cases q; exact cz PySem.W.kitx_str I.kIn dS e (λz=>nomatch z) fin
   | tup y=>obtain ⟨p,vs,rfl,hq,t⟩:=tx.tup A;cases B; cases q;obtain ⟨its,_,⟨o,h1,h2,_⟩,_⟩:=I.tuple (show SqT X.K H p vs by rw [<-g]; exact hq);exact cz PySem.W.kitx_tuple I.kIn ⟨o,h1,h2⟩ e (λz=>nomatch z) fin
   | lst y=>obtain ⟨p,vs,rfl,hq,t⟩:=tx.lst A;cases B; cases q;obtain ⟨its,_,⟨o,n,h1,h2,_⟩,_⟩:=I.list (show SqL X.K H p vs by rw [<-g]; exact hq);exact cz PySem.W.kitx_list I.kIn ⟨o,h1,h2⟩ e (λz=>nomatch z) fin
   | dct y=>
    obtain ⟨p,vs,rfl,hq,t⟩:=tx.dct A;cases B; cases q;obtain ⟨_,_,ws,_,o,es,ep,h1,h2,_⟩:=(show ObjOk X.prog X.w H s.heap p (.dK vs) from I.hok p _ hq)
    exact cz PySem.W.kitx_dict I.kIn ⟨o,h1,h2.1⟩ e (λz=>nomatch z) fin
   | _=>cases q
theorem zh {tn:Str} {p t:Pos} (l:C.K=X.K) (hg:Gl X "isinstance") (j:X.mg "isinstance"=iG) (i:iO "isinstance"=iE (.builtin "isinstance")) (ht:Gl X tn) (e:X.mg tn=iG) (b:iO tn=iE (.type T)) (k:PE X a (tE C own ma fa)) (n:tn ≠ "__name__":=by decide) (f:Dbg tn:=by decide)
  (h1:iN [a,.Name tn t] X.env=(iI,eval a X.env)::iN [.Name tn t] X.env:=by rfl) (h2:iN [.Name tn t] X.env=[(iI,eval (.Name tn t) X.env)]:=by rfl):PE X (.Call (.Name "isinstance" p) [a,.Name tn t] [] pos) (tE C own .sh (d1 (zg T) fa)):=by
 refine jE (yK (qcR (T:=T) l) hg j i (qM k (qM (qeT (v:=.ty T) ht e b rfl n f) jB h2) h1) (by decide) (by decide) (by rw [h1]) (by rw [h2]; rfl)) λσ H Q h=>?_;obtain ⟨F,ρ,g,h⟩:=qcB (ma:=ma) h;refine ⟨F,ρ,g,?_⟩;cases q:fa ρ with
 | ok p=>rw [q] at h;obtain ⟨d,ρ1⟩:=p;intro v F1 H1 r o m;obtain ⟨s,dx,z⟩:=h v F1 H1 r o m;exact ⟨v,s,dx,rfl,z⟩
 | exc c=>rw [q] at h; exact h
 | bad=>rw [q] at h; exact h.elim
noncomputable def zi:List D->Option (List Bool)
 | []=>iE []
 | .bl b::ds=>(zi ds).map (b::·)
 | _::_=>iG
noncomputable def Zl:D->Out D
 | .lst ds=>match zi ds with
  | some bs=>.ok (.bl (bs.all id))
  | none=>.bad
 | _=>.bad
theorem qcS {us:List iH} {bs:List Bool} (a:IsL K F vs ds) (l:Vals vs us) (e:zi ds=iE bs):us=bs.map dm:=by
 induction ds generalizing vs us bs with
 | nil=>cases a;cases l;cases e;rfl
 | cons d ds j=>
  cases a with
  | cons i a=>
   cases l with
   | cons r l=>
    cases d with
    | bl b=>obtain ⟨c,e1,rfl⟩:=aN.mp (show (zi ds).map (b::·)=iE bs from e);cases i;cases r;rw [j a l e1];rfl
    | _=>cases e
theorem QZ (n:C.K=X.K) (j:X.calm=iJ):xH X C .sh (.builtin "all") Zl:=by
 intro pins s σ H xs us Q I r h;obtain ⟨x,F,dx,rfl,d,tx,po⟩:=h;cases dx <;> try exact po.elim
 rename_i ds;obtain ⟨p,vs,rfl,hq,t⟩:=tx.lst d;obtain ⟨u,rfl,B⟩:=wf r;cases B;unfold Zl at po;cases q:zi ds with
 | none=>simp only [q] at po; exact po.elim
 | some bs=>
  simp only [q] at po;obtain ⟨its,g,pl,z⟩:=I.list (show SqL X.K H p vs by rw [<-n]; exact hq);have J:=qcS t g q;subst J;have hp:p < s.heap.objs.size:=let ⟨o,h1,_⟩:=pl.isList; ay h1;refine call_all_walk (lQ pl.isList ?_);have W:Walks X.prog X.w X.A.in1 s.heap.objs.size [s.heap.objs.size,p] [s.heap.objs.size] (bs.map dm).toArray.size (λi v=>(bs.map dm).toArray[i]?=iE v) (λi h=>h.IsListIter s.heap.objs.size p i/\h.IsList p (bs.map dm).toArray):=iC (A:=X.A.in1) (show X.A.in1.handled=iG from I.ok.hd j) s.heap.objs.size p (aG hp) _;have st:(s.heap.push { cls:=.type "list_iterator",data:=.fields #[.ref p,.int 0 0] }).IsListIter s.heap.objs.size p 0/\(s.heap.push { cls:=.type "list_iterator",data:=.fields #[.ref p,.int 0 0] }).IsList p (bs.map dm).toArray:=⟨⟨_,ao _ rfl,rfl,rfl⟩,let ⟨o,h1,h2⟩:=pl.isList; ⟨o,aa _ h1,h2⟩⟩
  refine ⟨_,_,_,_,_,_,λi=>(bs[i]?).getD iI,rfl,W,st,λi v s' l E m c=>?_,λh' tk kp=>?_⟩
  ·have m:(bs.map dm).toArray[i]?=iE v:=m;rw [eI,aF] at m;cases f:bs[i]? with
   | none=>rw [f] at m; cases m
   | some b=>have a:l ((bs[i]?).getD iI) s':=c;rw [f] at m a;cases m;exact j7 a
  ·have e:(aE (bs.map dm).toArray.size).all (λi=>(bs[i]?).getD iI)=bs.all id:=by
    rw [ax,af,Bool.eq_iff_iff,aJ,aJ];constructor;·intro h b k;obtain ⟨i,hi,e⟩:=dw.mp k;have:=h i (aM.mpr hi);rw [aw hi,e] at this;exact this
    ·intro h i hi;have hi:=aM.mp hi;rw [aw hi];exact h _ (bt hi)
   rw [e];refine ⟨.bl (bs.all id),H,?_,rfl,po _ F H d .refl (.bl _)⟩;have k2:∀ b o,s.heap.get? b=iE o->h'.get? b=iE o:=λb o J=>kp b o (by simp; exact aG (ay J)) (aa _ J);exact I.kept (t':=tk) k2
end
def PoO (C:Ct) (own:List Nat) (σ:St) (F H:Hp) (r:Out (Option Int×Sl)) (Q:Option Int->Hp->Prop):Prop:=match r with
 | .ok (b,ρ')=>∀ F' H',Rep C.K own F' H' σ ρ'->Chg (OA own σ) F H F' H'->Q b H'
 | .exc c ρ'=>∀ F' H',Same F' H'->qcd C.K C.ox F' H' σ ρ'->Chg (OA own σ) F H F' H'->C.E (C.cv c) iG H'
 | .bad=>False
def tO (C:Ct) (own:List Nat) (f:Sl->Out (Option Int×Sl)):TO:=λσ H Q=>∃ F ρ,Rep C.K own F H σ ρ/\PoO C own σ F H (f ρ) Q
noncomputable def JU:Option (qY)->Sl->Out (Option Int×Sl)
 | none,ρ=>.ok (iG,ρ)
 | some f,ρ=>(f ρ).bind λp=>match p.1 with
  | .int i=>.ok (iE i,p.2)
  | _=>.bad
theorem Po.bindO {o:Out (Option Int×Sl)} {k:Option Int×Sl->Vo} {Q:VK} {R:Option Int->Hp->Prop} (hp:Po C own m σ F H (o.bind k) Q)
  (h:∀ F1 H1 b ρ1,Rep C.K own F1 H1 σ ρ1->Chg (OA own σ) F H F1 H1->Po C own m σ F1 H1 (k (b,ρ1)) Q->R b H1):PoO C own σ F H o R:=by
 cases o with
 | ok p=>obtain ⟨d,ρ1⟩:=p;exact λF1 H1 a c=>h F1 H1 d ρ1 a c (Po.shift (show Po C own m σ F H (k (d,ρ1)) Q from hp) c)
 | exc x=>exact hp
 | bad=>exact hp.elim
section
variable {a:Expr} {fa f:qY} {p2:Pos}
theorem YG:PO X iG (tO C own (JU iG)):=by intro pins s σ H Q I ⟨F,ρ,a,h⟩;exact qe6 pins s σ H Q I (h F H a .refl)
theorem YH (h:PE X e (tE C own m f)):PO X (iE e) (tO C own (JU (iE f))):=by
 intro pins s σ H Q I ⟨F,ρ,r,hp⟩;refine qe7 h pins s σ H Q I ⟨F,ρ,r,?_⟩;have hp:PoO C own σ F H ((f ρ).bind λp=>match p.1 with | .int i=>.ok (iE i,p.2) | _=>.bad) Q:=hp;cases q:f ρ with
 | ok p=>
  rw [q] at hp;obtain ⟨d,ρ1⟩:=p;cases d with
  | int i=>exact λv F1 H1 a k b=>⟨i,b.top.int,hp F1 H1 a k⟩
  | _=>exact hp.elim
 | exc c=>rw [q] at hp; exact hp
 | bad=>rw [q] at hp; exact hp.elim
end
noncomputable def Its (x:Str):It:=⟨λi _=>i < x.cps.size,λi H v H'=>H'=H/\∃ c,x.cps[i]?=iE c/\v=.str ⟨#[c]⟩,λi _=>x.cps.size<=i⟩
noncomputable def wl (x:Str):List D:=x.cps.toList.map λc=>.str ⟨#[c]⟩
theorem YI {P:iQ} {w:iR} {K:Frag} {tg:Expr} (it:Addr) (x:Str) (t:Tok) (ty:String) (y:["enumerate", "zip", "dict_itemiterator", "dict_reverseitemiterator", "odict_iterator", "itertools.zip_longest", "itertools.pairwise"].contains ty=iI)
  (W:∀ A:iX,A.handled=iG->Walks P w A it [it] [it] x.cps.size (SignAt x) (λi h=>h.IsStrIter it ty x t i)) (sf:∀ (A:iX) (i:Nat) (s:iK) (Q:iH->iK->Prop) (E:iH->iK->Prop),s.heap.IsStrIter it ty x t i->Q (.ref it) s->iM (model P w) A (mE (.ref it)) Q E s) :
  Turn P w K tg (Its x) [it] it (λi h=>h.IsStrIter it ty x t i/\i<=x.cps.size) where
 mem:=by simp
 obj:=λi h st b a=>by
  have e:b=it:=by simpa using a
  subst e;obtain ⟨o,e,c,d⟩:=st.1;exact ⟨o,e,λv z=>by rw [d] at z; cases z⟩
 keep:=λi h h' st k=>by obtain ⟨⟨o,e,r⟩,hi⟩:=st;exact ⟨⟨o,k it (by simp) o e,r⟩,hi⟩
 item:=by
  intro X m j n l i pins s σ H E I f st hg;subst m j n;obtain ⟨f0,f1,f2,p,f4,q⟩:=f it (by simp);refine (W X.A (I.ok.hd l)).item i s _ _ hg st.1 λv h' tk m g kp=>?_;have B:Inv X pins σ H { s with heap:=h',toks:=tk }:=I.turned (t':=tk) (λb o a e=>kp b o (by simpa using a) e) f0 f1 p f4 q;obtain ⟨o,e,c,d⟩:=id g;obtain ⟨U,u,h1,h2⟩:∃ U u,x.cps[i]?=iE U/\v=bL ⟨#[U]⟩ u:=by
   unfold SignAt at m;first
    | exact m
    | (obtain ⟨U,u,h1,h2⟩:=m; exact ⟨U,u,h1,h2⟩)
    | (obtain ⟨U,h1,u,h2⟩:=m; exact ⟨U,u,h1,h2⟩)
    | (obtain ⟨u,U,h1,h2⟩:=m; exact ⟨U,u,h1,h2⟩)
  subst h2;exact ⟨_,rfl,qcl (s:={ s with heap:=h',toks:=tk }) e c d y ⟨.str ⟨#[U]⟩,H,B,⟨u,rfl⟩,⟨rfl,U,h1,rfl⟩,⟨g,hg⟩,λb a=>(f b a).1⟩⟩
 done:=by intro X m j n l i pins s σ H E I f st hg;subst m j n;obtain ⟨f0,f1,f2,p,f4,q⟩:=f it (by simp);have hi:i=x.cps.size:=fy st.2 hg;subst hi;exact (W X.A (I.ok.hd l)).done s _ _ st.1 λh' tk kp=>⟨rfl,I.turned (t':=tk) (λb o a e=>kp b o (by simpa using a) e) f0 f1 p f4 q⟩
 self:=λA i s Q E st h=>sf A i s Q E st.1 h
theorem qh1:ItIs K F (Its x) (wl x) where
 go:=λi H hi _=>by
  have:i < x.cps.size:=by simpa [wl] using hi
  exact this
 yld:=λi Fi H v H' d e s1 s2 y=>by
  obtain ⟨rfl,c,h1,rfl⟩:=y;have e:d=.str ⟨#[c]⟩:=by
   unfold wl at e;rw [aF] at e;have h1:x.cps.toList[i]?=iE c:=by simpa using h1
   rw [h1] at e;exact (aK.inj e).symm
  subst e;exact ⟨Fi,.refl,s2,.str (JM c)⟩
 stop:=λi H hi _=>by
  have:x.cps.size<=i:=by simpa [wl] using hi
  exact this
noncomputable def jg:D->Out (List D)
 | .lst xs=>.ok xs
 | .tup xs=>.ok xs
 | .str x=>.ok (wl x)
 | _=>.bad
noncomputable def jl (f:qY):wT:=λρ=>(f ρ).bind λp=>(jg p.1).bind λds=>.ok (ds,p.2)
section
variable {f:qY}
theorem qh2 {l:Expr} {tl:TE} (hl:PE X l tl):PI X tg l (λσ H R=>tl σ H λx H1=>(∃ a,x=.ref a/\(((∃ xs,SqL X.K H1 a xs)/\R (Itl X.K a) H1)\/((∃ xs,SqT X.K H1 a xs)/\R (Itt X.K a) H1)))\/∃ z,x=.str z/\R (Its z) H1):=by
 refine ⟨?_⟩;intro pins s σ H R I h;refine thn (hl pins s σ H _ I h) λv s1 ⟨x,H1,d,r1,c⟩=>?_;have fp:∀ b∈[s1.heap.objs.size],WK X pins H1 b:=λb j=>by
  have e:b=s1.heap.objs.size:=by simpa using j
  subst e;exact d.fpOk (aA _) (d.hok.fresh (aA _))
 rcases c with ⟨a,rfl,q⟩ | ⟨z,rfl,q⟩
 ·cases r1;rcases q with ⟨⟨xs,hq⟩,q⟩ | ⟨⟨xs,hq⟩,q⟩
  ·obtain ⟨its,r,p,f⟩:=d.list hq;refine lQ p.isList ?_;exact ⟨s1.heap.objs.size,[s1.heap.objs.size],_,_,H1,rfl,d.kept (t':=s1.toks) λb o e=>aa _ e,Gk a _,⟨_,ao _ rfl,rfl,rfl⟩,fp,q⟩
  ·obtain ⟨its,r,p,f⟩:=d.tuple hq;refine lw (show s1.heap.IsTuple a its.toArray from p) ?_;exact ⟨s1.heap.objs.size,[s1.heap.objs.size],_,_,H1,rfl,d.kept (t':=s1.toks) λb o e=>aa _ e,XX a _,⟨_,ao _ rfl,rfl,rfl⟩,fp,q⟩
 ·obtain ⟨t,rfl⟩:=r1;cases g:z.cps.all (· < 128) with
  | true=>refine wpAny_pyIter_ascii g ?_;exact ⟨s1.heap.objs.size,[s1.heap.objs.size],_,_,H1,rfl,d.kept (t':=s1.toks) λb o e=>aa _ e,YI _ z t "str_ascii_iterator" (by decide) (λA hA=>Walks.strAscii hA _ z t) (λA i s Q E st h=>wpAny_pyIter_striter_ascii st h),⟨⟨_,ao _ rfl,rfl,rfl⟩,bo _⟩,fp,q⟩
  | false=>refine wpAny_pyIter_wide g ?_;exact ⟨s1.heap.objs.size,[s1.heap.objs.size],_,_,H1,rfl,d.kept (t':=s1.toks) λb o e=>aa _ e,YI _ z t "str_iterator" (by decide) (λA hA=>Walks.strWide hA _ z t) (λA i s Q E st h=>wpAny_pyIter_striter_wide st h),⟨⟨_,ao _ rfl,rfl,rfl⟩,bo _⟩,fp,q⟩
theorem qD (n:C.K=X.K) (h:PE X e (tE C own m f)) (b:m≠.any:=by decide):PI X tg e (tIt C own (jl f)):=by
 refine qft (qh2 (wX h b)) λσ H R ⟨F,ρ,r,h⟩=>⟨F,ρ,r,PoI.bindV h λv F1 H1 d ρ1 a k c h1=>?_⟩
 have c:Is C.K F1 v d:=c;cases c with
 | lst p t=>exact .inl ⟨_,rfl,.inl ⟨⟨_,by rw [<-n]; exact a.sub.seq p⟩,by rw [<-n]; exact h1 _ F1 H1 a k (qhR p t)⟩⟩
 | tup p t=>exact .inl ⟨_,rfl,.inr ⟨⟨_,by rw [<-n]; exact jm a.sub p⟩,by rw [<-n]; exact h1 _ F1 H1 a k (qhS p t)⟩⟩
 | str z=>exact .inr ⟨_,rfl,h1 _ F1 H1 a k qh1⟩
 | _=>exact h1.elim
end
end L2.D2
namespace L2.D2
open PySem PySem.Spec PySem.Calls PyProof.Rows PySem.W Builtin Builtin.ObjectAttr Builtin.Getset_descriptor
noncomputable def xcB (K:Frag) (C:Addr):Bool:=decide (subIn K (.ref C) (.type "BaseException")=iE iJ)&&decide (findIn K (.ref C) "__getattribute__"=iE (iE (.builtin "BaseException.__getattribute__")))&&decide (findIn K (.ref C) "__getattr__"=iE iG) &&
 decide (findIn K (.ref C) "__class__"=iE (iE (.builtin "object.__class__")))&&decide (mroIn K C (.type "object")=iE iJ)&&(clsIn K C).isSome
end L2.D2
namespace L2.D2
open PySem PySem.Spec PyProof.Rows
variable {P:iQ} {w:iR} {K:Frag} {N:List Str} {A:iX} {C:Ct}
theorem qh3 {mg:Str->Option iH} {base:Heap} {qual:Str} {scope:lU} {f:Addr} {cd:iH} {outer:List Env} {s0:iK} {H0:Hp} {E:XK} (h:C.E=E):YE (cxk P w K mg base N qual scope f cd A outer s0 H0 E) C:=by subst h;exact qhX
structure Xs (K:Frag) (cv:Str->iH) (ca:Str->Addr) (cs:List Str) (top:Str):Prop where
 val:∀ c∈cs,cv c=.ref (ca c)
 own:∀ c∈cs,fH K (.ref (ca c)) (cv top)=iE iJ
 cls:∀ c∈cs,xcB K (ca c)=iJ
 kit:∀ c∈cs,∀ d∈cs,cu K (.ref (ca c)) (.ref (ca d))=iE (decide (ca c=ca d))
 ve:∀ c∈cs,cu K (.ref (ca c)) (.type "ValueError")=iE iJ
inductive SK where
 | l | t
noncomputable def SK.itc:SK->String
 | .l => "list_iterator"
 | .t => "tuple_iterator"
def SeqK (h:Heap) (a:Addr):SK->Array iH->Prop
 | .l,xs=>h.IsList a xs
 | .t,xs=>h.IsTuple a xs
def ItK (h:Heap) (it a:Addr):SK->Nat->Prop
 | .l,i=>h.IsListIter it a i
 | .t,i=>h.IsTupleIter it a i
def SqK (K:Frag) (H:Hp) (a:Addr):SK->List V->Prop
 | .l,xs=>SqL K H a xs
 | .t,xs=>SqT K H a xs
variable {h h':Heap} {a:Addr} {xs:Array iH}
theorem SeqK.at:∀ {k:SK},SeqK h a k xs->(∀ o,h.get? a=iE o->h'.get? a=iE o)->SeqK h' a k xs
 | .l,⟨o,e,c⟩,k=>⟨o,k _ e,c⟩
 | .t,⟨o,e,c⟩,k=>⟨o,k _ e,c⟩
theorem SeqK.lt:∀ {k:SK},SeqK h a k xs->a < h.objs.size
 | .l,⟨o,e,c⟩=>ay e
 | .t,⟨o,e,c⟩=>ay e
variable {it:Addr} {i:Nat}
theorem ItK.obj:∀ {k:SK},ItK h it a k i->∃ o,h.get? it=iE o/\o.cls=.type k.itc/\o.data=.fields #[.ref a,.int i 0]
 | .l,⟨o,e,c,d⟩=>⟨o,e,c,d⟩
 | .t,⟨o,e,c,d⟩=>⟨o,e,c,d⟩
theorem ItK.of:∀ {k:SK},(∃ o,h.get? it=iE o/\o.cls=.type k.itc/\o.data=.fields #[.ref a,.int i 0])->ItK h it a k i
 | .l,⟨o,e,c,d⟩=>⟨o,e,c,d⟩
 | .t,⟨o,e,c,d⟩=>⟨o,e,c,d⟩
variable {E:iH->iK->Prop} {prog:iQ} {s:iK} {Q:Option iH->iK->Prop} {l:Addr} {items:Array iH} {x:iH} {o:Obj} {n:Nat}
section
theorem qh4 {k:SK} {Q:iH->iK->Prop} (h:SeqK s.heap a k xs) (c:Q (.ref s.heap.objs.size) { s with heap:=s.heap.push { cls:=.type k.itc,data:=.fields #[.ref a,.int 0 0] } }):iM (model prog w) A (mE (.ref a)) Q E s:=by
 cases k with
 | l=>exact lQ h c
 | t=>exact lw h c
noncomputable def SK.cl:SK->String
 | .l => "list"
 | .t => "tuple"
theorem qad {k:SK} (a:A.handled=iG) (hi:ItK s.heap it l k i) (hl:SeqK s.heap l k items) (hx:items[i]?=iG) (c:∀ h',ia it s.heap h'->Q iG { s with heap:=h' }):iM (model prog w) A (k4 (.ref it)) Q E s:=by
 cases k with
 | l=>exact wpAny_pyNext_list_end a hi hl hx c
 | t=>exact wpAny_pyNext_tuple_end a hi hl hx c
theorem Zm {k:SK} (hi:ItK s.heap it l k i) (hl:SeqK s.heap l k items) (hx:items[i]?=iE x) (c:∀ h',ItK h' it l k (i+1)->bC it s.heap h'->Q (iE x) { s with heap:=h' }):iM (model prog w) A (k4 (.ref it)) Q E s:=by
 cases k with
 | l=>exact wpAny_pyNext_list_item hi hl hx c
 | t=>exact wpAny_pyNext_tuple_item hi hl hx c
theorem SeqK.of (e:h.get? a=iE o) (d:o.data=.seq xs n):∀ {k:SK},o.cls=.type k.cl->SeqK h a k xs
 | .l,c=>⟨o,e,c,n,d⟩
 | .t,c=>⟨o,e,c,n,d⟩
end
variable {sk:SK}
section
theorem Zn:lL (.type "tuple") "keys"=pure none:=by rw [lh,i5]; kernel_rfl
theorem QF {k:Nat} {Q:Option iH->iK->Prop} (n:A.handled=iG) (hx:s.heap.get? a=iE o) (l:o.cls=.type "tuple") (t:o.data=.seq xs k) (hd:o.dict=iG)
  (h:∀ h' tk,(∀ b j,s.heap.get? b=iE j->h'.get? b=iE j)->Q iG { s with heap:=h',toks:=tk }):iM (model prog w) A (mz (.ref a) "keys") Q E s:=by
 obtain ⟨c,dct,q,sl⟩:=o;simp only at l t hd;subst l t hd;obtain ⟨hp,g,d,tk,os⟩:=s;have T:∀ f,(⟨hp,g,d,f,os⟩:iK).TypeIs (.ref a) "tuple":=λ_=>⟨_,hx,rfl⟩
 have f1:=sub_AttributeError;have v:=dG.lookup;have f4:=dG.bind (.ref a);have u:=am_tuple_getattr_none;have p:=Zn;have m:(["__module__", "__name__", "__qualname__", "__doc__", "__annotations__"]:List Str).contains ("keys":Str)=false:=by decide +kernel
 have hsz:("keys":Str).length+100<=sizeLine:=by rw [iT]; decide +kernel
 unfold mz getAttrBy?;refine iF (wpAny_mkText (iF (j5 ?_)));unfold getAttrBy;repeat (any_goals (first | assumption | exact T _ | ((with_reducible show iM _ _ (call (ii "tuple.__getattribute__") _ _) _ _ _); refine lM dG (T _) am_entry_tuple_getattribute (F.args_tuple_getattribute_2 _ _) (meets_getattribute_miss_tuple a xs k sl "keys" _ p m hsz) ⟨hx,n,λh' f e i=>?_⟩) | wp_step))
 obtain ⟨t',V,r⟩:=i.there;show iM _ _ (li _ _ _ _ _ _ _) _ _ _;unfold li;repeat (any_goals (first | assumption | wp_step))
 exact h h' f i.keeps
theorem Zo:lL (.type "list") "keys"=pure none:=by rw [lh,i5]; kernel_rfl
theorem gy {k:Nat} {Q:Option iH->iK->Prop} (n:A.handled=iG) (hx:s.heap.get? a=iE o) (l:o.cls=.type "list") (t:o.data=.seq xs k) (hd:o.dict=iG)
  (h:∀ h' tk,(∀ b j,s.heap.get? b=iE j->h'.get? b=iE j)->Q iG { s with heap:=h',toks:=tk }):iM (model prog w) A (mz (.ref a) "keys") Q E s:=by
 obtain ⟨c,dct,q,sl⟩:=o;simp only at l t hd;subst l t hd;obtain ⟨hp,g,d,tk,os⟩:=s;have T:∀ f,(⟨hp,g,d,f,os⟩:iK).TypeIs (.ref a) "list":=λ_=>⟨_,hx,rfl⟩
 have f1:=sub_AttributeError;have v:=dQ.lookup;have f4:=dQ.bind (.ref a);have u:=am_list_getattr_none;have p:=Zo;have m:(["__module__", "__name__", "__qualname__", "__doc__", "__annotations__"]:List Str).contains ("keys":Str)=false:=by decide +kernel
 have hsz:("keys":Str).length+100<=sizeLine:=by rw [iT]; decide +kernel
 unfold mz getAttrBy?;refine iF (wpAny_mkText (iF (j5 ?_)));unfold getAttrBy;repeat (any_goals (first | assumption | exact T _ | ((with_reducible show iM _ _ (call (ii "list.__getattribute__") _ _) _ _ _); refine lM dQ (T _) am_entry_list_getattribute (F.args_list_getattribute_2 _ _) (meets_getattribute_miss_list a xs k sl "keys" _ p m hsz) ⟨hx,n,λh' f e i=>?_⟩) | wp_step))
 obtain ⟨t',V,r⟩:=i.there;show iM _ _ (li _ _ _ _ _ _ _) _ _ _;unfold li;repeat (any_goals (first | assumption | wp_step))
 exact h h' f i.keeps
theorem vD:mK table "dict.update.loop"=iE Builtin.«dict.update.loop»:=entryFor_of_tree (by kernel_rfl)
theorem je:plainId "dict.update.loop"=true:=by decide +kernel
def qae (h:Heap) (v key val:iH):Prop:=∃ p o n,v=.ref p/\h.get? p=iE o/\o.cls=.type "tuple"/\o.data=.seq #[key,val] n
theorem qcT {sk:SK} {R:mR->iK->Prop} {d t:Addr} (hh:A.in1.handled=iG) (Q:d≠t) (u:d≠it) (M:t≠it):∀ (n i:Nat) (s:iK) (kvs:List (Key×iH)) (ps:List (Key×iH×iH)),items.size - i=n->i<=items.size ->ItK s.heap it t sk i->SeqK s.heap t sk items->s.heap.DictOf (qP prog w) d kvs->ps.length=n->(∀ j p,ps[j]?=iE p->∃ v,items[i+j]?=iE v/\xG p.1 p.2.1=iJ/\qae s.heap v p.2.1 p.2.2)->kvs.length+n<=sizeLine ->(∀ h' tk,h'.DictOf (qP prog w) d (ps.foldl (λl p=>stored l p.1 p.2.2) kvs)->(∀ b o,b≠d->b≠it->s.heap.get? b=iE o->h'.get? b=iE o)->R (.ok (.ret .none)) { s with heap:=h',toks:=tk }) ->lI (model prog w) A (.builtin "dict.update.loop" ⟨[.ref d,.ref it,i6 i,.none],[]⟩) R s:=by
 intro n
 induction n with
 | zero=>intro i s kvs ps hn hi st ht hd hl hp hz V;have e:ps=[]:=dY.mp hl;subst e;refine i4 vD ?_;rw [ba je _];show iM _ A.in1 (k4 (.ref it) >>= _) _ _ s;refine iF (qad hh st ht (by simp; lia) λh' Y=>?_);show iM _ A.in1 (ret bX) _ _ _;refine iL (V h' s.toks ?_ λb o _ h2 e=>Y b o h2 e);obtain ⟨o,es,ep,D,r⟩:=hd;exact ⟨o,es,ep,Y d o u D,r⟩
 | succ n ih=>
  intro i s kvs ps hn hi st ht hd hl hp hz V;cases ps with
  | nil=>simp at hl
  | cons p ps=>
   obtain ⟨v,hv,hk,q,W,nq,rfl,hq,O,c⟩:=hp 0 p rfl;obtain ⟨od,es,ep,g,hdx,a⟩:=id hd;have F:q≠d:=λz=>by subst z;rw [hq] at g; cases g;rw [a.1] at c; cases c
   obtain ⟨oi,f,hic,E⟩:=st.obj;have J:q≠it:=λz=>by subst z;rw [hq] at f; cases f;rw [E] at c; cases c
   refine i4 vD ?_;rw [ba je _];show iM _ A.in1 (k4 (.ref it) >>= _) _ _ s;refine iF (Zm st ht (x:=.ref q) (by simpa using hv) λh' H G=>?_);have C:h'.get? q=iE W:=(G.2 q J).trans hq;have U:fh { s with heap:=h' } (.ref q) "tuple":=⟨W,C,O⟩
   have T:h'.DictOf (qP prog w) d kvs:=by obtain ⟨o,es,ep,D,r⟩:=hd;exact ⟨o,es,ep,(G.2 d u).trans D,r⟩
   have N:SeqK h' t sk items:=ht.at λo D=>(G.2 t M).trans D;dsimp only;refine iF (iW (iF ?_));refine wpAny_tryCatch ?_;unfold Builtin.Dict.pairItems;refine iF (lx U ?_);rw [Aa (by decide)];refine iF (iZ C c (iL ?_));show iM _ A.in1 (holding [p.2.1,p.2.2] (dictSet d p.2.1 p.2.2)) _ _ _;refine iW (wpAny_dictSet_pairs (knd:=qP prog w) hk T (λh2 hd2 k=>?_) (by lia));have keep:∀ b o,b≠d->b≠it->s.heap.get? b=iE o->h2.get? b=iE o:=λb o n1 n2 e=>(k.2 b n1).trans ((G.2 b n2).trans e);have X:(stored kvs p.1 p.2.2).length<=kvs.length+1:=by unfold stored;split <;> simp
   refine iL ⟨lf je _,?_⟩;have ec:i6 ((i:Int)+1)=i6 ((i+1:Nat):Int):=by push_cast; rfl
   rw [ec];refine ih (i+1) _ (stored kvs p.1 p.2.2) ps (by lia) (by lia) ?_ ?_ hd2 (by simpa using hl) (λj Z e=>?_) (by lia) λh3 tk S k3=>?_;·obtain ⟨o,e,r⟩:=H.obj;exact .of ⟨o,(k.2 it (bw u)).trans e,r⟩
   ·exact N.at λo e=>(k.2 t (bw Q)).trans e
   ·obtain ⟨v',L,P,I,y,K,rfl,m,B,h⟩:=hp (j+1) Z (by simpa using e);refine ⟨.ref I,by rw [show i+1+j=i+(j+1) by lia]; exact L,P,I,y,K,rfl,keep I y (λz=>?_) (λz=>?_) m,B,h⟩;·subst z;rw [m] at g; cases g;rw [a.1] at h; cases h
    ·subst z;rw [m] at f; cases f;rw [E] at h; cases h
   ·exact V h3 tk S λb o n1 n2 e=>k3 b o n1 n2 (keep b o n1 n2 e)
theorem gz {t:Addr} {ps:List (Key×iH×iH)} {Q:iH->iK->Prop} (J:A.handled=iG) {m:Obj} {nt:Nat} (z:s.heap.get? t=iE m) (d:m.cls=.type sk.cl) (n:m.dict=iG) (f:m.data=.seq items nt)
  (hl:ps.length=items.size) (hp:∀ (j:Nat) (p:Key×iH×iH),ps[j]?=iE p->∃ v,items[j]?=iE v/\xG p.1 p.2.1=iJ/\qae s.heap v p.2.1 p.2.2) (N:items.size<=sizeLine)
  (h:∀ h' tk,h'.DictOf (qP prog w) s.heap.objs.size (ps.foldl (λl p=>stored l p.1 p.2.2) [])->(∀ b o,s.heap.get? b=iE o->h'.get? b=iE o)->Q (.ref s.heap.objs.size) { s with heap:=h',toks:=tk }) :
  iM (model prog w) A (call (.type "dict") [.ref t]) Q E s:=by
 refine callType_codes (Q₁:=λobj k=>obj=.ref s.heap.objs.size/\k={ s with heap:=s.heap.push { cls:=.type "dict",data:=.dict #[] } }) F.kt_called_dict (F.kt_typeCall_dict_1 _) F.entry_dict_init (kt_code_dict_new _ ⟨rfl,rfl⟩) ?_;rintro obj k ⟨rfl,rfl⟩;have i:(s.heap.push { cls:=.type "dict",data:=.dict #[] }).DictOf (qP prog w) s.heap.objs.size []:=g8 s.heap;refine ⟨i.typeIs,F.args_dict_init_2 _ _,?_⟩;unfold Builtin.«dict.__init__»;refine iF ?_;unfold Builtin.Dict.selfAndRest;refine iF (wpAny_notOrdered_dict i.typeIs ?_);show iM _ _ (pure (s.heap.objs.size,[bT t])) _ _ _;refine iL ?_;show iM _ _ (cL "dict.__init__" s.heap.objs.size (.ref t) [] .none) _ _ _;unfold cL;have g:(s.heap.push { cls:=.type "dict",data:=.dict #[] }).get? t=iE m:=aa _ z;have C:t < s.heap.objs.size:=ay z;refine iF (lx (T:=sk.cl) ⟨m,g,d⟩ ?_);rw [Aa (by cases sk <;> decide)];have R:∀ {L:Option iH->iK->Prop} {A1:iX} {S:iH->iK->Prop} {s1:iK},A1.handled=iG->s1.heap.get? t=iE m->(∀ h' tk,(∀ b I,s1.heap.get? b=iE I->h'.get? b=iE I)->L iG { s1 with heap:=h',toks:=tk })->iM (model prog w) A1 (mz (.ref t) "keys") L S s1:=λa b c=>by
  cases sk with
  | l=>exact gy a b d f n c
  | t=>exact QF a b d f n c
 refine iF (R (by exact J) g λh1 H k1=>?_);rw [Aa (show (iG:Option iH).isNone=iJ from rfl)];refine iF (lE ?_);have y:h1.get? t=iE m:=k1 _ _ g;have D:h1.DictOf (qP prog w) s.heap.objs.size []:=by obtain ⟨o,es,ep,B,r⟩:=i;exact ⟨o,es,ep,k1 _ _ B,r⟩
 have x:SeqK h1 t sk items:=.of y f d;refine iF (qh4 (s:={ s with heap:=h1,toks:=H }) x ?_);have u:s.heap.objs.size < h1.objs.size:=let ⟨o,es,ep,B,r⟩:=D; ay B;have up:∀ b o,s.heap.get? b=iE o->(h1.push { cls:=.type sk.itc,data:=.fields #[.ref t,.int 0 0] }).get? b=iE o:=λb o e=>aa _ (k1 _ _ (aa _ e));refine iL ⟨lf je _,?_⟩;refine qcT (items:=items) (t:=t) (A:=A.in1) (show A.in1.in1.handled=iG from J) (bQ C) (aG u) (aG (ej C u)) items.size 0 _ [] ps (by lia) (bo _) (.of ⟨_,ao _ rfl,rfl,rfl⟩) ?_ ?_ hl (λj p e=>?_) (by simpa using N) λh2 G hd2 k2=>⟨rfl,h h2 G hd2 λb o e=>?_⟩
 ·exact .of (aa _ y) f d
 ·obtain ⟨o,es,ep,B,r⟩:=D;exact ⟨o,es,ep,aa _ B,r⟩
 ·obtain ⟨v,O,P,q,W,M,rfl,hq,r⟩:=hp j p e;exact ⟨.ref q,by simpa using O,P,q,W,M,rfl,up q W hq,r⟩
 ·have K:=ay e;exact k2 b o (aG K) (aG (ej K u)) (up b o e)
end
noncomputable def QG:D->Option Key
 | .int i=>iE (.inl i)
 | .str x=>iE (.inr x)
 | _=>iG
noncomputable def vX (kvs:List (Key×D)) (k:Key) (d:D):List (Key×D):=if kvs.any (λp=>decide (p.1=k)) then kvs.map λp=>if p.1=k then (p.1,d) else p else kvs++[(k,d)]
noncomputable def qcU:D->Option (Key×D)
 | .tup [k,v]=>(QG k).map λk=>(k,v)
 | _=>iG
noncomputable def ye:List D->Option (List (Key×D))
 | []=>iE []
 | d::ds=>match qcU d,ye ds with
  | some p,iE ps=>iE (p::ps)
  | _,_=>iG
noncomputable def qh5 (d:D):Out D:=(Zh d).bind λds=>match ye ds with
 | some ps=>.ok (.dct (ps.foldl (λl p=>vX l p.1 p.2) []))
 | none=>.bad
variable {d:D} {F H:Hp} {v:V} {ds:List D}
theorem qee (A:Same F H) (h:TopIs K F H v d) (e:Zh d=.ok ds):∃ a k xs,v=.ref a/\SqK K H a k xs/\IsL K F xs ds:=by
 cases d with
 | lst es=>cases e; obtain ⟨a,xs,rfl,q,t⟩:=h.lst A; exact ⟨a,.l,xs,rfl,q,t⟩
 | tup es=>cases e; obtain ⟨a,xs,rfl,q,t⟩:=h.tup A; exact ⟨a,.t,xs,rfl,q,t⟩
 | _=>cases e
theorem IsK.any {k:Key}:∀ {kv:List (Key×V)} {ks:List (Key×D)},IsK K F kv ks->(kv.any λp=>decide (p.1=k))=(ks.any λp=>decide (p.1=k))
 | _,_,.nil=>rfl
 | _,_,.cons h t=>by rw [b7,b7,IsK.any t]
theorem IsK.repl {k:Key} (i:Is K F v d):∀ {kv:List (Key×V)} {ks:List (Key×D)},IsK K F kv ks->IsK K F (kv.map λp=>if p.1=k then (p.1,v) else p) (ks.map λp=>if p.1=k then (p.1,d) else p)
 | _,_,.nil=>.nil
 | _,_,.cons (k:=k') h t=>by
  rw [aC,aC];by_cases e:k'=k;·simp only [e,if_true]; exact .cons i (IsK.repl i t)
  ·simp only [e,if_false]; exact .cons h (IsK.repl i t)
theorem IsK.snoc {k:Key} (i:Is K F v d):∀ {kv:List (Key×V)} {ks:List (Key×D)},IsK K F kv ks->IsK K F (kv++[(k,v)]) (ks++[(k,d)])
 | _,_,.nil=>.cons i .nil
 | _,_,.cons h t=>.cons h (IsK.snoc i t)
variable {kv:List (Key×V)}
theorem IsK.put {k:Key} {ks:List (Key×D)} (h:IsK K F kv ks) (i:Is K F v d):IsK K F (zU kv k v) (vX ks k d):=by
 unfold zU vX;rw [h.any];by_cases e:(ks.any λp=>decide (p.1=k))=iJ;·rw [Aa e,Aa e]; exact IsK.repl i h
 ·rw [Ab e,Ab e]; exact IsK.snoc i h
theorem JV:∀ {v:List (Key×V)} {ps:List (Key×D)} {kv:List (Key×V)} {ks:List (Key×D)},IsK K F v ps->IsK K F kv ks->IsK K F (v.foldl (λl p=>zU l p.1 p.2) kv) (ps.foldl (λl p=>vX l p.1 p.2) ks)
 | _,_,_,_,.nil,h=>h
 | _,_,_,_,.cons i t,h=>by rw [bN,bN];exact JV t (h.put i)
def qkG (p:Key×V) (q:Key×iH×iH):Prop:=p.1=q.1/\RelV p.2 q.2.2
theorem Ud:∀ {v:List (Key×V)} {a:List (Key×iH×iH)} {kv:List (Key×V)} {vs:List (Key×iH)},mJ qkG v a->KV kv vs->KV (v.foldl (λl p=>zU l p.1 p.2) kv) (a.foldl (λl p=>stored l p.1 p.2.2) vs)
 | _,_,_,_,.nil,h=>h
 | _,_,_,_,.cons r t,h=>by rw [bN,bN];refine Ud t ?_;rw [r.1];exact h.put _ r.2
theorem JW:∀ {v:List (Key×V)} {kv:List (Key×V)},(v.foldl (λl p=>zU l p.1 p.2) kv).length<=kv.length+v.length
 | [],kv=>aA _
 | p::v,kv=>by
  have h1:=@JW v (zU kv p.1 p.2);have h2:=ym kv p.1 p.2;rw [bN,aq]
  lia
variable {X:Cx} {pins:Pns} {σ:St} {u:iH} {vs:List V}
section
theorem ze {k:Key} (i:Is C.K F v d) (r:RelV v u) (e:QG d=iE k):xG k u=true:=by
 cases d with
 | int z=>cases i; cases e; obtain ⟨t,rfl⟩:=r; exact Va z t
 | str z=>cases i; cases e; obtain ⟨t,rfl⟩:=r; exact Vb z t
 | _=>cases e
theorem YJ (l:C.K=X.K) (I:Inv X pins σ H s) (A:Same F H):∀ {vs:List V} {us:List iH} {ds:List D} {ps:List (Key×D)},IsL C.K F vs ds->Vals vs us->ye ds=iE ps ->∃ (f:List (Key×V)) (c:List (Key×iH×iH)),IsK C.K F f ps/\mJ qkG f c/\c.length=us.length/\f.length=us.length/\∀ (j:Nat) (p:Key×iH×iH),c[j]?=iE p->∃ v,us[j]?=iE v/\xG p.1 p.2.1=iJ/\qae s.heap v p.2.1 p.2.2
 | _,_,_,_,.nil,.nil,e=>by cases e; exact ⟨[],[],.nil,.nil,rfl,rfl,λj p e=>by simp at e⟩
 | _,_,_,_,.cons (d:=d) (ds:=ds) i t,.cons (b:=u) r rs,e=>by
  unfold ye at e;cases q:qcU d with
  | none=>rw [q] at e; cases e
  | some kd=>
   cases g:ye ds with
   | none=>rw [q,g] at e; cases e
   | some rest=>
    rw [q,g] at e;cases e;obtain ⟨f,c,h1,h2,B,h,z⟩:=YJ l I A t rs g;unfold qcU at q;split at q
    ·rename_i G E;obtain ⟨k,x,rfl⟩:=aN.mp q;cases i with
     | @tup a xs _ hq il=>
      cases il with
      | @cons xk _ xr _ ik il2=>
       cases il2 with
       | @cons xv _ xr2 _ iv il3=>
        cases il3;cases r;obtain ⟨its,m,⟨o,w,y,n,hd⟩,_⟩:=I.tuple (show SqT X.K H a [xk,xv] by rw [<-l]; exact jm A hq);cases m with
        | @cons _ uk _ _ rk rv2=>
         cases rv2 with
         | @cons _ uv _ _ rv3 rv4=>
          cases rv4;refine ⟨(k,xv)::f,(k,uk,uv)::c,.cons iv h1,.cons ⟨rfl,rv3⟩ h2,by simp [B],by simp [h],λj p e=>?_⟩;cases j with
          | zero=>simp at e;subst e;exact ⟨_,rfl,ze ik rk x,a,o,n,rfl,w,y,hd⟩
          | succ j=>simpa using z j p (by simpa using e)
    ·cases q
theorem VE (I:Inv X pins σ H s):∀ {k:SK},SqK X.K H a k vs->∃ its o n,Vals vs its/\s.heap.get? a=iE o/\o.cls=.type k.cl/\o.dict=iG/\o.data=.seq its.toArray n/\vs.length<=sizeLine
 | .l,h=>let ⟨its,r,⟨o,n,e,c,b,hd⟩,z⟩:=I.list h; ⟨its,o,n,r,e,c,b,hd,z⟩
 | .t,h=>by obtain ⟨its,r,⟨o,e,c,n,hd⟩,z⟩:=I.tuple h;obtain ⟨o2,d,b⟩:=I.tupleN h;rw [e] at d; cases d;exact ⟨its,o,n,r,e,c,b,hd,z⟩
theorem qcV (w:C.K=X.K) (D:X.calm=iJ):xH X C .fr (.type "dict") qh5:=by
  intro pins s σ H xs us Q I r h;obtain ⟨x,F,dx,rfl,A,tx,po⟩:=h;unfold qh5 at po;cases e:Zh dx with
  | bad=>rw [e] at po; exact po.elim
  | exc c o=>cases dx <;> cases e
  | ok ds=>
   rw [e] at po;have po:PoV C .fr F H (match ye ds with | some ps=>.ok (.dct (ps.foldl (λl p=>vX l p.1 p.2) [])) | none=>.bad) Q:=po;cases q:ye ds with
   | none=>simp only [q] at po; exact po.elim
   | some ps=>
    simp only [q] at po;obtain ⟨a,sk,vs,rfl,hq,t⟩:=qee A tx e;obtain ⟨u,rfl,B⟩:=wf r;cases B;rw [w] at hq;obtain ⟨its,o,n,k,z,i,f,hd,N⟩:=VE I hq;obtain ⟨d,y,h1,h2,L,J,G⟩:=YJ w I A t k q;have m:=k.length;refine gz (ps:=y) (I.ok.hd D) z i f hd (by simp [L]) (λj p e=>?_) (by simp; lia) λh' tk g kp=>?_;· obtain ⟨v,e1,M⟩:=G j p e;exact ⟨v,by simpa using e1,M⟩
    · have hp:H s.heap.objs.size=none:=I.hok.fresh (aA _);obtain ⟨s2,c2,E⟩:=jV (u:=.dK (d.foldl (λl p=>zU l p.1 p.2) [])) A hp;have hl:(d.foldl (λl p=>zU l p.1 p.2) ([]:List (Key×V))).length<=sizeLine:=by
        have:=@JW d [];simp at this
        lia
      have b:(s.heap.objs.size == k8)=false:=beq_eq_false_iff_ne.mpr (bQ I.big);refine ⟨.ref s.heap.objs.size,_,I.laid (o:=.dK (d.foldl (λl p=>zU l p.1 p.2) [])) (t':=tk) kp (aA _) (Yr hl b (Ud h2 .nil) g),rfl,po _ F _ s2 c2 ⟨_,rfl,hp,E,_,qm,JV h1 .nil⟩⟩
noncomputable def kJ (kvs:List (Key×D)) (k:Key):Bool:=kvs.any λp=>decide (p.1=k)
noncomputable def inA:D->D->Out D
 | x,.dct kvs=>match QG x with
  | some k=>.ok (.bl (kJ kvs k))
  | none=>.bad
 | x,y=>qjM x y
noncomputable def zJ:D->D->Out D
 | x,.dct kvs=>match QG x with
  | some k=>.ok (.bl (!kJ kvs k))
  | none=>.bad
 | x,y=>Ze x y
theorem YK {ks:List (Key×D)} {k:Key} (h:IsK K F kv ks):(WR kv k).isSome=kJ ks k:=by rw [<-JI,h.any]; rfl
theorem qjS {k:Key} (h:TopIs C.K F H v d) (e:QG d=iE k):v=kV k:=by
 cases d with
 | int z=>cases e; exact h.int
 | str z=>cases e; exact h.str.1
 | _=>cases e
theorem qaf (n:C.K=X.K) (f:X.A.units+64 < k7):OpD X C .sh (iS .In) inA:=by
 intro pins s σ H x y v u Q I r c h;obtain ⟨F,dx,d,b,tx,ty,po⟩:=h;by_cases hd:∃ kvs,d=.dct kvs
 ·obtain ⟨kvs,rfl⟩:=hd;cases q:QG dx with
  | none=>unfold inA at po; simp only [q] at po; exact po.elim
  | some k=>
   unfold inA at po;simp only [q] at po;obtain ⟨a,kv,rfl,g,i⟩:=ty.dct b;cases c;have ex:=qjS tx q;subst ex;refine ql6 (by lia) I (DGet.k (k:=k) g) r λs' j=>⟨.bl _,H,j,rfl,?_⟩
   rw [YK i];exact po _ F H b .refl (.bl _)
 ·have e:inA dx d=qjM dx d:=by cases d <;> first | rfl | exact absurd ⟨_,rfl⟩ hd
  rw [e] at po;exact qkA n f pins s σ H x y v u Q I r c ⟨F,dx,d,b,tx,ty,po⟩
theorem vY (n:C.K=X.K) (f:X.A.units+64 < k7):OpD X C .sh (iS .NotIn) zJ:=by
 intro pins s σ H x y v u Q I r c h;obtain ⟨F,dx,d,b,tx,ty,po⟩:=h;by_cases hd:∃ kvs,d=.dct kvs
 ·obtain ⟨kvs,rfl⟩:=hd;cases q:QG dx with
  | none=>unfold zJ at po; simp only [q] at po; exact po.elim
  | some k=>
   unfold zJ at po;simp only [q] at po;obtain ⟨a,kv,rfl,g,i⟩:=ty.dct b;cases c;have ex:=qjS tx q;subst ex;refine qfe (by lia) I (DGet.k (k:=k) g) r λs' j=>⟨.bl _,H,j,rfl,?_⟩
   rw [YK i];exact po _ F H b .refl (.bl _)
 ·have e:zJ dx d=Ze dx d:=by cases d <;> first | rfl | exact absurd ⟨_,rfl⟩ hd
  rw [e] at po;exact qcF n f pins s σ H x y v u Q I r c ⟨F,dx,d,b,tx,ty,po⟩
end
theorem qfA (t:lZ) (es:Array (Int×iH)) (h:Int) (x:iH):(layNew t es h x).2.1.led=t.led:=by
 unfold layNew;cases t.freeSlot h with
 | none=>rfl
 | some p=>obtain ⟨sl,w⟩:=p;show (SetTable.orStandIn (t.put sl).1 _).led=t.led;unfold SetTable.orStandIn;split <;> rfl
variable {t:lZ}
theorem qfB {m f v:Nat} {l p:Bool} {c:Array Int} {o:Array Nat} (h:im m f v l p c=iE (t,o)):t.led=l/\t.plain=p:=by
 unfold im at h;cases e:SetTable.layClean m c with
 | none=>rw [e] at h;cases h
 | some ow=>rw [e] at h;have h2:=congrArg Prod.fst (aK.inj h);subst h2;exact ⟨rfl,rfl⟩
theorem Ue (t:lZ) (es:Array (Int×iH)) (n:Nat):(mB t es n).2.1.led=t.led/\(t.plain=iI->(mB t es n).2.1.plain=iI):=by
 unfold mB;cases e:t.relaid (es.map (·.1)) n with
 | none=>exact ⟨rfl,λ_=>rfl⟩
 | some q=>
  obtain ⟨t',o⟩:=q;have k:=qfB (show im _ _ _ _ _ _=iE (t',o) from e);dsimp only;split;·exact ⟨k.1,λz=>k.2.trans z⟩
  ·exact ⟨rfl,λ_=>rfl⟩
variable {κ:Type}
noncomputable def xF [DecidableEq κ] (ks:List κ) (x:κ):List κ:=if x∈ks then ks else ks++[x]
noncomputable def gA (ks:List Str) (x:Str):List Str:=if x∈ks then ks else ks++[x]
noncomputable def km (es:Array (Int×iH)) (ep:Nat) (t:lZ):Obj:={ cls:=.type "set",dict:=iG,data:=.set es ep t,slots:=#[] }
structure KP (κ:Type) [DecidableEq κ] where
 kd:∀ (p:iQ) (w:iR),PySem.KeyKind p w κ
 of:iH->κ
 pb:Bool
 ofi:∀ {p:iQ} {w:iR} {x:κ} {v:iH},(kd p w).is x v=iJ->of v=x
 sc:∀ {p:iQ} {w:iR} {x:κ} {v:iH},(kd p w).is x v=iJ->v.scannable=iJ
 pl:∀ {p:iQ} {w:iR} {x:κ} {v:iH},(kd p w).is x v=iJ->pb=iJ->plainKind v=iI
noncomputable def KpS:KP Str where
 kd:=PySem.strKind
 of:=strOf
 pb:=iJ
 ofi:=λh=>let ⟨_,e⟩:=cI h; by rw [e]; rfl
 sc:=λh=>let ⟨_,e⟩:=cI h; by rw [e]; rfl
 pl:=λh _=>let ⟨_,e⟩:=cI h; by rw [e]; rfl
structure SetG {κ:Type} [DecidableEq κ] (T:KP κ) (prog:iQ) (w:iR) (es:Array (Int×iH)) (t:lZ) (ks:List κ):Prop where
 el:ElemsOf (T.kd prog w) es.toList
 perm:(es.toList.map λe=>T.of e.2).Perm ks
 nd:ks.Nodup
 bd:es.size < lW
 fits:t.fits es.size=iJ
 led:t.led=!(w.params.followText "set-order")
 plain:T.pb=iJ->ks≠[]->t.plain=iI
def SetK {κ:Type} [DecidableEq κ] (T:KP κ) (prog:iQ) (w:iR) (h:Heap) (a:Addr) (ks:List κ):Prop:=∃ es ep t,h.get? a=iE (km es ep t)/\SetG T prog w es t ks
variable {es:Array (Int×iH)} {ep:Nat}
section
theorem qh6 {l:List (Int×iH)} (h:ElemsOf (PySem.strKind prog w) l) {e:Int×iH} (i:e∈l):∃ x t,e.2=.str x t:=by obtain ⟨⟨k,a,_⟩,_⟩:=h e i;obtain ⟨t,ht⟩:=cI a;exact ⟨k,t,ht⟩
variable [DecidableEq κ] {T:KP κ}
theorem SetG.mem {ks:List κ} (h:SetG T prog w es t ks) {x:κ}:x∈ks↔∃ e∈es.toList,(T.kd prog w).is x e.2=true:=by
 rw [<-h.perm.mem_iff,ah];constructor;·rintro ⟨e,i,z⟩;obtain ⟨⟨k,a,_⟩,_⟩:=h.el e i;rw [T.ofi a] at z;exact ⟨e,i,z ▸ a⟩
 ·rintro ⟨e,i,z⟩;exact ⟨e,i,T.ofi z⟩
theorem SetG.size {ks:List κ} (h:SetG T prog w es t ks):es.size=ks.length:=by have e:=h.perm.length_eq;simpa using e
theorem qef {es':Array (Int×iH)} {t':lZ} (l:h.get? a=iE (km es ep t)):(h.update a (ir es' t')).get? a=iE (km es' (ep+1) t'):=by have e:=be (ir es' t') l (by rw [putSet_of (o:=km es ep t) es' t' rfl]; rfl);rw [putSet_of (o:=km es ep t) es' t' rfl] at e;exact e
theorem SetG.more {e:Array (Int×iH)} {t1:lZ} {ks:List κ} {x:κ} {v:iH} (h:SetG T prog w es t ks) (c:(T.kd prog w).is x v=iJ) (nx:x∉ks) (f:ks.length+1 < lW)
  (hp:e.toList.Perm (es.toList++[((T.kd prog w).hash x,v)])) (g:t1.fits e.size=iJ) (hl:t1.led=t.led) (hq:T.pb=iJ->t1.plain=iI):SetG T prog w e t1 (xF ks x):=by
 have ex:xF ks x=ks++[x]:=Ab nx;have d:e.size=ks.length+1:=by rw [<-bp,hp.length_eq,ai,bp,h.size];rfl
 rw [ex];refine ⟨(h.el.push c (T.sc c)).perm hp,?_,?_,?_,g,hl.trans h.led,λb _=>hq b⟩;·refine (hp.map _).trans ?_;rw [bV,List.map_singleton,T.ofi c];exact h.perm.append (cw _)
 ·exact cC.mpr ⟨h.nd,by simp,λa j b i=>by rw [au.mp i]; exact λz=>nx (z ▸ j)⟩
 ·rw [d];exact f
theorem qfC {ks:List κ} {x:κ} {v:iH} {Q:Bool->iK->Prop} (k:(T.kd prog w).is x v=iJ) (S:SetK T prog w s.heap a ks) (H:ks.length+1 < lW)
  (h:∀ h' b,bC a s.heap h'->SetK T prog w h' a (xF ks x)->Q b { s with heap:=h' }):iM (model prog w) A (setAddHashed a v ((T.kd prog w).hash x)) Q E s:=by
 obtain ⟨es,ep,t,o,d⟩:=S;unfold setAddHashed setAddHashedIn;refine iW (iF (j8 o rfl d.fits ?_));dsimp only;rw [byScan_of (T.sc k) d.bd d.el,Aa rfl];unfold setAddByScan;refine iF (iF (lE (iF (wpAny_setScan_of k o rfl d.fits d.el ?_))));cases hq:es.toList.findIdx? (λe=>(T.kd prog w).is x e.2) with
 | some j=>obtain ⟨K,hp,_⟩:=List.findIdx?_eq_some_iff_getElem.mp hq;have hx:x∈ks:=d.mem.mpr ⟨_,bt K,hp⟩;have q:=h s.heap iI (Heap.SameBut.refl a s.heap) ⟨es,ep,t,o,by rw [show xF ks x=ks from Aa hx]; exact d⟩;dsimp only;exact iL (iL q)
 | none=>
  have hx:x∉ks:=λz=>by obtain ⟨e,M,q⟩:=d.mem.mp z;have:=List.findIdx?_eq_none_iff.mp hq e M;rw [q] at this;cases this
  dsimp only;have hp:=layNew_perm t es ((T.kd prog w).hash x) v;have m:=layNew_fits t es ((T.kd prog w).hash x) v;have hl:=qfA t es ((T.kd prog w).hash x) v;generalize layNew t es ((T.kd prog w).hash x) v=L at hp m hl ⊢;obtain ⟨c,t1,J,O⟩:=L;dsimp only at hp m hl ⊢;rw [Array.toList_push] at hp;have l:∀ t2:lZ,t2.fits c.size=iJ->t2.led=t.led->(T.pb=iJ->t2.plain=iI)->iM (model prog w) A (do
    storeSet a c t2
    if (!J&&t2.tooFull)=iJ then do
      (match (mB t2 c (cM c.size)).2.2 with | true=>rule "set.scan.the-table-gave-way" | false=>pure ())
      storeSet a (mB t2 c (cM c.size)).1 (mB t2 c (cM c.size)).2.1
      pure (iE iJ)
     else pure (iE iJ)) (λr s'=>∃ h',s'={ s with heap:=h' }/\r=iE iJ/\bC a s.heap h'/\SetK T prog w h' a (xF ks x)) E s:=by
   intro t2 f2 G p2;have d2:=d.more k hx H hp f2 G p2;refine iF (wpAny_storeSet_of o rfl ?_ (lR d2.bd));have g:=qef (es':=c) (t':=t2) o;have p:=bq s.heap a (ir c t2);split
   ·have y:=relayAll_perm t2 c (cM c.size);have B:=relayAll_fits t2 c (cM c.size);have u:=Ue t2 c (cM c.size);generalize mB t2 c (cM c.size)=R at y B u ⊢;obtain ⟨n,D,Z⟩:=R;dsimp only at y B u ⊢;have I:=d.more k hx H (y.trans hp) B (u.1.trans G) (λb=>u.2 (p2 b));refine iF ?_;have go:iM (model prog w) A (storeSet a n D >>= λ_=>pure (iE iJ)) (λr s'=>∃ h',s'={ s with heap:=h' }/\r=iE iJ/\bC a s.heap h'/\SetK T prog w h' a (xF ks x)) E { s with heap:=s.heap.update a (ir c t2) }:=
     iF (wpAny_storeSet_of g rfl (iL ⟨_,rfl,rfl,p.trans (bq _ a _),n,_,D,qef g,I⟩) (lR I.bd))
    cases Z;·exact iL go
    ·exact lE go
   ·exact iL ⟨_,rfl,rfl,p,c,_,t2,g,d2⟩
  have fin:∀ (r:Option Bool) (s':iK),(∃ h',s'={ s with heap:=h' }/\r=iE iJ/\bC a s.heap h'/\SetK T prog w h' a (xF ks x)) ->iM (model prog w) A (match r with | some i=>pure i | none=>setAddHashedIn a v ((T.kd prog w).hash x) 99999) Q E s':=by rintro r s' ⟨h',rfl,rfl,p,S⟩;exact iL (h h' iJ p S)
  have N:∀ (b:Bool) {f:iK} {C:Unit->iK->Prop},C () f->iM (model prog w) A (match b with | true=>rule "set.scan.the-table-gave-way" | false=>pure ()) C E f:=λb f C q=>by
   cases b;·exact iL q
   ·exact lE q
  refine iF (N _ ?_);cases e1:t1.plain with
  | true=>rw [Aa rfl,hashByValue_scannable 8 (T.sc k)];refine iF (iL ?_);exact lV (l (if plainKind v=iJ then t1 else { t1 with plain:=iI }) (by split; exact m; exact SetTable.fits_plain_off m) (by split <;> exact hl) (λb=>by rw [T.pl k b]; rfl)) fin λ_ _ z=>z
  | false=>rw [Ab (by simp)];refine iF (iL ?_);exact lV (l t1 m hl λ_=>e1) fin λ_ _ z=>z
end
theorem qcW [DecidableEq κ] (ks:List κ) (x:κ):(xF ks x).length<=ks.length+1:=by
 unfold xF;split
 ·lia
 ·rw [ai];exact aA _
theorem yX [DecidableEq κ]:∀ (l ks:List κ),(l.foldl xF ks).length<=ks.length+l.length
 | [],ks=>aA _
 | x::l,ks=>by
  have h1:=yX l (xF ks x);have h2:=qcW ks x;rw [bN,aq]
  lia
theorem YL:(xF:List Str->Str->List Str)=gA:=by funext ks x;unfold xF gA;congr
theorem VF (l ks:List Str):(l.foldl gA ks).length<=ks.length+l.length:=by rw [<-YL];exact yX l ks
theorem SetK.at [DecidableEq κ] {T:KP κ} {ks:List κ} (S:SetK T prog w h a ks) (k:∀ o,h.get? a=iE o->h'.get? a=iE o):SetK T prog w h' a ks:=
 let ⟨es,ep,t,l,d⟩:=S; ⟨es,ep,t,k _ l,d⟩
section
variable [DecidableEq κ] {T:KP κ} {R:mR->iK->Prop} {I:Addr} {fp wr:List Addr} {P:Nat->iH->Prop} {St:Nat->iK->Prop}
theorem qcX {G:Array mU->Array mU->Prop} (W:WalksS prog w A.in1 I fp wr G n P St) (S:Addr) (j:S∉fp) (ss:List κ) (K:ss.length=n) (J:∀ i v,P i v->∃ x,ss[i]?=iE x/\(T.kd prog w).is x v=iJ) (d:n+1 < lW):∀ (k i:Nat) (s:iK),n - i=k->i<=n->St i s->SetK T prog w s.heap S ((ss.take i).foldl xF []) ->(∀ s',Moved (S::wr) G s s'->SetK T prog w s'.heap S (ss.foldl xF [])->R (.ok (.ret .none)) s')->lI (model prog w) A (.builtin "set.update.loop" ⟨[.ref S,.ref I],[]⟩) R s:=by
 have E:S∉wr:=λh=>j (W.sub _ h);have up:∀ b∈wr,b∈S::wr:=λb d=>ac _ d;intro k
 induction k with
 | zero=>
  intro i s q hi c r C;have y:i=n:=by lia
  subst y;refine i4 F.entry_set_update_loop ?_;rw [ba dZ _]; show iM _ A.in1 (k4 (.ref I) >>= _) _ _ s;refine iF (W.done s _ _ c λs' g=>iL (C s' (g.mono up) ?_));rw [List.take_of_length_le (fZ K)] at r;exact r.at λo e=>g.heap S o E e
 | succ k H=>
  intro i s q hi c r C;have t:i < n:=by lia
  refine i4 F.entry_set_update_loop ?_;rw [ba dZ _]; show iM _ A.in1 (k4 (.ref I) >>= _) _ _ s;refine iF (W.item i s _ _ t c λv s' L a g=>?_);obtain ⟨x,hx,q⟩:=J i v L;have B:SetK T prog w s'.heap S ((ss.take i).foldl xF []):=r.at λo e=>g.heap S o E e;show iM _ A.in1 (holding [v] (setAdd S v) >>= _) _ _ s';refine iF (iW ?_);unfold setAdd;refine iW (iF ((T.kd prog w).pyHash q ?_));have m:((ss.take i).foldl xF []).length+1 < lW:=by
   have h1:=yX (ss.take i) [];rw [bY,bf] at h1
   lia
  refine qfC (s:={ s' with toks:=s'.toks+1 }) q B m λh' b D l=>?_;have M:xF ((ss.take i).foldl xF []) x=(ss.take (i+1)).foldl xF []:=by rw [List.take_add_one,hx,List.foldl_append];rfl
  rw [M] at l;refine iL ⟨lf dZ _,H (i+1) _ (by lia) t (W.frame _ s' _ _ a (fm _) λb d o e=>?_) l λu f p=>?_⟩;·rw [D.2 b λz:b=S=>j (z ▸ d)];exact e
  ·refine C u (Moved.trans W.gtrans ((g.mono up).then_heap (fm _) λb o d e=>?_) f) p;rw [D.2 b λz:b=S=>d (z ▸ ap)];exact e
end
section
variable [DecidableEq κ] {T:KP κ}
abbrev qh7 (w:iR):Obj:=km #[] 0 (.fresh 0 0 (!(w.params.followText "set-order")))
theorem qag (e:h.get? a=iE (qh7 w)):SetK T prog w h a []:=
 ⟨_,_,_,e,⟨λe i=>by simp at i,by simp,cx,by decide,by rfl,rfl,λ_ z=>absurd rfl z⟩⟩
theorem qfD (a:iH) {Q₁:iH->iK->Prop} (h:Q₁ (.ref s.heap.objs.size) { s with heap:=s.heap.push (qh7 w) }):lI (model prog w) A (.call (.builtin "set.__new__") ⟨[.type "set",a],[]⟩) (wants Q₁ E) s:=by
 refine codeAny_of_tree ?_; show iM _ A.in1 (do checkBuiltinCall "set.__new__" ⟨[.type "set",a],[]⟩; again (.builtin "set.__new__" ⟨[.type "set",a],[]⟩)) _ _ s;refine iF (mL (PySem.F.newCall_set_1 a) (iL ⟨lf PySem.F.plain_set_new _,i4 PySem.F.entry_set_new ?_⟩)); rw [ba PySem.F.plain_set_new _];unfold Builtin.«set.__new__» Builtin.Frozenset.newClass; have b:=sub_set_self; obtain ⟨hp,g,d,tk,os⟩:=s; dsimp only; wp_walk
 refine j4 (iL ?_); dsimp only; simp only [newObj];exact iF (wpAny_alloc (iL (iL h)))
theorem Uf:isSubtype (.type "tuple") (.type "set")=pure false:=by rw [lF]; kernel_rfl
theorem QH:isSubtype (.type "tuple") (.type "frozenset")=pure false:=by rw [lF]; kernel_rfl
theorem qcY:∀ sk:SK,isSubtype (.type sk.cl) (.type "set")=pure iI
 | .l=>PySem.F.sub_list_set
 | .t=>Uf
theorem Ug:∀ sk:SK,isSubtype (.type sk.cl) (.type "frozenset")=pure iI
 | .l=>PySem.F.sub_list_frozenset
 | .t=>QH
theorem qh8 (a:A.handled=iG) (sk:SK) (it l:Addr) (e:l≠it) (items:Array iH):Walks prog w A it [it,l] [it] items.size (λi v=>items[i]?=iE v) (λi h=>ItK h it l sk i/\SeqK h l sk items):=by
 cases sk with
 | l=>exact iC a it l e items
 | t=>exact Walks.tuple a it l e items
theorem SeqK.ty:∀ {sk:SK},SeqK s.heap a sk xs->s.TypeIs (.ref a) sk.cl
 | .l,⟨o,e,c,_⟩=>⟨o,e,c⟩
 | .t,⟨o,e,c,_⟩=>⟨o,e,c⟩
theorem ql9 {S:Addr} {ss:List κ} {Q:Unit->iK->Prop} (u:A.handled=iG) (n:SetK T prog w s.heap S []) (hl:SeqK s.heap l sk items) (r:ss.length=items.size) (hi:∀ (i:Nat) (v:iH),items[i]?=iE v->∃ x,ss[i]?=iE x/\(T.kd prog w).is x v=iJ) (j:items.size+1 < lW) (g:l≠S)
  (h:∀ h' tk,SetK T prog w h' S (ss.foldl xF [])->(∀ b o,b≠S->s.heap.get? b=iE o->h'.get? b=iE o)->Q () { s with heap:=h',toks:=tk }) :
  iM (model prog w) A (cj "set.__init__" S (.ref l)) Q E s:=by
 have k:=hl.ty;unfold cj;refine iF (m:=Builtin.Frozenset.isAnySet _) ?_;unfold Builtin.Frozenset.isAnySet;refine iF (k9 k (qcY sk) ?_);refine k9 k (Ug sk) ?_;rw [Ab (by decide)];refine iF (lx k ?_);rw [Ab (by cases sk <;> decide)];refine iF (qh4 hl ?_);have p:s.heap.objs.size≠S:=λz=>by obtain ⟨es,ep,t,q,_⟩:=n;exact b6 _ (z ▸ ay q)
 have d:l≠s.heap.objs.size:=aG hl.lt;refine iF (wpAny_runValue (qcX ((qh8 (A:=A.in1) u sk _ l d items).toS) S ?_ ss r hi j items.size 0 _ (by lia) (bo _) ⟨.of ⟨_,ao _ rfl,rfl,rfl⟩,hl.at λo e=>aa _ e⟩ ?_ ?_))
 ·intro z;rcases ae.mp z with z | z;·exact p z.symm
  ·exact g (au.mp z).symm
 ·exact n.at λo e=>aa _ e
 ·intro s' c B;obtain ⟨h',g',d',f,a⟩:=s';have C:g'=s.gens:=c.gens;have D:d'=s.drawn:=c.drawn;have y:a=s.os:=c.os;subst C D y;refine iL (h h' f B λb o j e=>c.heap b o ?_ (aa _ e));intro z;rcases ae.mp z with z | z;·exact j z
  ·rw [au.mp z] at e;exact b6 _ (ay e)
set_option maxHeartbeats 3200000 in
theorem qah {l:Addr} {ks:List κ} {Q:iH->iK->Prop}
  (p:∀ (A1:iX) (L:Unit->iK->Prop) (G:iH->iK->Prop),A1.handled=A.handled->(∀ h' tk,SetK T prog w h' s.heap.objs.size ks->(∀ b o,s.heap.get? b=iE o->h'.get? b=iE o)->L () { s with heap:=h',toks:=tk }) ->iM (model prog w) A1 (cj "set.__init__" s.heap.objs.size (.ref l)) L G { s with heap:=s.heap.push (qh7 w) })
  (h:∀ h' tk,SetK T prog w h' s.heap.objs.size ks->(∀ b o,s.heap.get? b=iE o->h'.get? b=iE o)->Q (.ref s.heap.objs.size) { s with heap:=h',toks:=tk }) :
  iM (model prog w) A (call (.type "set") [.ref l]) Q E s:=by
 have i:∀ {Q₁:iH->iK->Prop},Q₁ (.ref s.heap.objs.size) { s with heap:=s.heap.push (qh7 w) }->lI (model prog w) A.in1 (.call (.builtin "set.__new__") ⟨[.type "set",.ref l],[]⟩) (wants Q₁ E) s:=λh=>qfD (.ref l) h;unfold qh7 km at i p;generalize (!(w.params.followText "set-order"))=led at i p;obtain ⟨c,tl,t⟩:=bO.mro;have m:=bO.made;have q:=bO.sub;refine wpAny_call (codeAny_of_tree ?_); show iM _ _ (callAny (.type "set") _) _ _ _;refine iL ⟨Code.quiet_builtin _ (by decide +kernel),i4 PySem.F.entry_type_call ?_⟩; rw [Around.under_plain (weight_type_call_type "set" [.ref l] []) rfl];have h1:=bO.notType;have h2:=bO.canCreate;have x:=PySem.F.typeCall_set_1 (.ref l);repeat (any_goals (first | assumption | wp_step))
 refine l9 (i (Q₁:=λobj f=>obj=.ref s.heap.objs.size/\f={ s with heap:=s.heap.push { cls:=.type "set",dict:=iG,data:=.set #[] 0 (.fresh 0 0 led) } }) ⟨rfl,rfl⟩) λr f k=>?_;cases r with
 | error e=>exact k
 | ok D=>
  cases D with
  | ret obj=>
   obtain ⟨rfl,rfl⟩:=k;have S:(s.heap.push { cls:=.type "set",dict:=iG,data:=.set #[] 0 (.fresh 0 0 led) }).get? s.heap.objs.size=iE { cls:=.type "set",dict:=iG,data:=.set #[] 0 (.fresh 0 0 led) }:=ao _ rfl;have C:fh { s with heap:=s.heap.push { cls:=.type "set",dict:=iG,data:=.set #[] 0 (.fresh 0 0 led) } } (.ref s.heap.objs.size) "set":=⟨_,S,rfl⟩
   have u:=bO.init.lookup;have y:=bO.init.bind (.ref s.heap.objs.size);repeat (any_goals (first | assumption | wp_step))
   refine l9 (codeAny_call_builtin (R:=wants (λr d=>r=.none/\∃ h' tk,d={ s with heap:=h',toks:=tk }/\SetK T prog w h' s.heap.objs.size ks/\(∀ b o,s.heap.get? b=iE o->h'.get? b=iE o)) E) bO.init.plain PySem.F.entry_set_init (check_set_init_1 C ?_)) λj d a=>?_
   ·unfold Builtin.«set.__init__» noKeywords;generalize z:cj=U;wp_walk
    subst z;refine p _ _ _ rfl λh' tk B v=>?_;exact iL ⟨rfl,h',tk,rfl,B,v⟩
   ·cases j with
    | error e=>exact a
    | ok g=>
     cases g with
     | ret r=>
      obtain ⟨rfl,h',tk,rfl,B,n⟩:=a;repeat (any_goals (first | assumption | wp_step))
      exact h _ _ B n
     | _=>exact a.elim
  | _=>exact k.elim
end
theorem kX {α:Type}:∀ {xs:List α} {i:Nat} (h:i < xs.length),(xs[i]::xs.eraseIdx i).Perm xs
 | [],_,h=>absurd h (c7 _)
 | x::xs,0,h=>cw _
 | x::xs,i+1,h=>(ib _ _ _).trans ((kX (xs:=xs) (i:=i) (Nat.lt_of_succ_lt_succ h)).cons x)
variable {M:Model}
theorem Zp {c:Source} {Q:Nat->iK->Prop} (a:n≠0) (h:∀ i d',i < n->Q i { s with drawn:=d' }):iM M A (choose c n) Q E s:=
 λ_ _ _=>⟨a,h _ _ (Nat.mod_lt _ (Nat.pos_of_ne_zero a))⟩
variable {α:Type}
theorem qai:∀ (n:Nat) (xs:List α) (s:iK) {Q:List α->iK->Prop},n=xs.length->(∀ ys d',ys.Perm xs->Q ys { s with drawn:=d' })->iM M A (drawOrder n xs) Q E s
 | 0,xs,s,Q,hn,h=>by
  cases xs with
  | nil=>exact iL (h [] s.drawn (cw _))
  | cons x l=>cases hn
 | n+1,[],s,Q,hn,h=>by cases hn
 | n+1,x::l,s,Q,hn,h=>by show iM M A (choose .order (x::l).length >>= _) Q E s;refine iF (Zp (by simp) λi d' hi=>?_);have e:(x::l)[i]?=iE (x::l)[i]:=aw hi;rw [e];refine iF (qai n _ _ (by rw [dA hi]; simp only [aq] at hn ⊢; lia) λys d2 hp=>iL (h _ d2 ?_));exact (hp.cons _).trans (kX hi)
theorem qaj (next:Nat->Nat):∀ (f k:Nat) (left:List α) (out:Array α),f=left.length->(pickOrder.go next f k left out).toList.Perm (out.toList++left)
 | 0,k,left,out,hf=>by
  cases left with
  | nil=>rw [aY];exact cw _
  | cons x l=>cases hf
 | f+1,k,left,out,hf=>by have t:next k % left.length < left.length:=Nat.mod_lt _ (by lia);have e:left[next k % left.length]?=iE left[next k % left.length]:=aw t;unfold pickOrder.go;rw [e];refine (qaj next f (k+1) _ _ (by rw [dA t]; lia)).trans ?_;rw [Array.toList_push,aV];exact List.Perm.append_left _ (kX t)
theorem gB (next:Nat->Nat) (xs:Array α):(lP next xs).toList.Perm xs.toList:=by unfold lP;exact qaj next _ _ _ _ (by simp)
noncomputable def ud (first:iH) (i:Nat) (a:Addr) (n ep:Nat):Obj:={ cls:=.type "set_iterator",data:=.fields #[first,i6 i,.ref a,i6 n,i6 ep] }
theorem qS:Slot "set_iterator" "__next__" "set_iterator.__next__":=
 .of (owner := "set_iterator") (n := "__next__") (by rw [lh,i5]; kernel_rfl) (by decide +kernel) (by decide +kernel) (by decide +kernel) (by first | exact .inl (by decide +kernel) | exact .inr (by decide +kernel)) (by rw [lF]; kernel_rfl)
theorem zj:Slot "set_iterator" "__iter__" "set_iterator.__iter__":=
 .of (owner := "set_iterator") (n := "__iter__") (by rw [lh,i5]; kernel_rfl) (by decide +kernel) (by decide +kernel) (by decide +kernel) (by first | exact .inl (by decide +kernel) | exact .inr (by decide +kernel)) (by rw [lF]; kernel_rfl)
theorem vE (a:iH):argsOk "set_iterator.__next__" ⟨[a],[]⟩:=by unfold argsOk; kernel_rfl
theorem VG (a:iH):argsOk "set_iterator.__iter__" ⟨[a],[]⟩:=by unfold argsOk; kernel_rfl
theorem kO:mK table "set_iterator.__next__"=iE Builtin.«set_iterator.__next__»:=entryFor_of_tree (by kernel_rfl)
theorem JX:mK table "set_iterator.__iter__"=iE Builtin.«dict_keyiterator.__iter__»:=entryFor_alias (id' := "dict_keyiterator.__iter__") (by kernel_rfl) rfl (by decide +kernel) (by kernel_rfl)
theorem VH:mK table "set.__iter__"=iE Builtin.«frozenset.__iter__»:=entryFor_alias (id' := "frozenset.__iter__") (by kernel_rfl) rfl (by decide +kernel) (by kernel_rfl)
variable {ks:List Str} {p:Addr} {b:Bool} {ps:List Nat}
section
theorem vf (d:w.params.followText "set-order"=b):({ program:=(model prog w).prog,params:=(model prog w).w.params }:Setting).params.followText "set-order"=b:=d
theorem VI {sl nx:Nat} {x:iH} {Q:Option iH->iK->Prop} (hi:s.heap.get? it=iE (ud (i6 sl) i a n ep)) (g:s.heap.get? a=iE (km es ep t)) (f:t.fits es.size=iJ) (z:es.size=n)
  (h:∀ (A1:iX) (L:Option (iH×Nat)->iK->Prop) (S:iH->iK->Prop),L (iE (x,nx)) s->iM (model prog w) A1 (mG a sl i ep) L S s)
  (c:∀ h',h'.get? it=iE (ud (i6 nx) (i+1) a n ep)->bC it s.heap h'->Q (iE x) { s with heap:=h' }):iM (model prog w) A (k4 (.ref it)) Q E s:=by
 have m:s.TypeIs (.ref it) "set_iterator":=⟨_,hi,rfl⟩
 unfold k4;refine iF (j5 (iU (name:=aP "__next__") m qS (iV qS m kO ?_ (vE _))));show iM _ _ (fieldsOf (.ref it) >>= _) _ _ s;refine iF (mi hi rfl ?_);show iM _ _ (mT a >>= _) _ _ s;refine iF (lr g rfl f ?_);rw [Ab (by rw [z]; simp)];show iM _ _ (mG a sl i ep >>= _) _ _ s;refine iF (h _ _ _ ?_);show iM _ _ (setField (.ref it) 0 (i6 nx) >>= _) _ _ s;refine iF (lj hi rfl (by simp) ?_);have h1:(s.heap.update it (Obj.mapFields (·.setIfInBounds 0 (i6 nx)))).get? it=iE (ud (i6 nx) i a n ep):=be _ hi rfl;refine iF (lj h1 rfl (by simp) (iL ⟨x,rfl,iL (c _ ?_ ((bq ..).trans (bq ..)))⟩));exact be _ h1 rfl
theorem VJ {sl:Nat} {Q:Option iH->iK->Prop} (h:A.handled=iG) (hi:s.heap.get? it=iE (ud (i6 sl) i a n ep)) (g:s.heap.get? a=iE (km es ep t)) (f:t.fits es.size=iJ) (z:es.size=n)
  (d:∀ (A1:iX) (L:Option (iH×Nat)->iK->Prop) (S:iH->iK->Prop),L iG s->iM (model prog w) A1 (mG a sl i ep) L S s)
  (e:∀ h',ia it s.heap h'->Q iG { s with heap:=h' }):iM (model prog w) A (k4 (.ref it)) Q E s:=by
 have c:s.TypeIs (.ref it) "set_iterator":=⟨_,hi,rfl⟩
 unfold k4;refine iF (j5 (iU (name:=aP "__next__") c qS (iV qS c kO ?_ (vE _))));show iM _ _ (fieldsOf (.ref it) >>= _) _ _ s;refine iF (mi hi rfl ?_);show iM _ _ (mT a >>= _) _ _ s;refine iF (lr g rfl f ?_);rw [Ab (by rw [z]; simp)];show iM _ _ (mG a sl i ep >>= _) _ _ s;refine iF (d _ _ _ ?_);show iM _ _ (setField (.ref it) 2 bX >>= _) _ _ s;refine iF (lj hi rfl (by simp) ?_); show iM _ _ (newExc (.type "StopIteration") [] >>= _) _ _ _;refine iF ?_; simp only [newExc,newTuple]; refine iF (iY ?_ (by size_fits));refine iF (m:=lG _ _) (mL (a:=bX) (by first | rfl | (simp only [lG]; rfl)) ?_); refine iY ?_ (by size_fits); simp only [raiseNew];refine iF (wpAny_handled ?_); first | rw [show A.in1.handled=iG from h] | rw [h]
 refine iF (iL (wpAny_throw ?_)); refine iF (k9 (T := "StopIteration") (b:=iJ) ⟨_,ao _ rfl,rfl⟩ mj ?_);exact iL (e _ (((bq ..).extBut.push _).push _))
theorem Zq {pl m:Nat} {hx:Int} {x:iH} {ps:Array iH} {Q:Option iH->iK->Prop} (hi:s.heap.get? it=iE (ud (.ref p) i a n ep)) (g:s.heap.get? a=iE (km es ep t)) (h:t.fits es.size=iJ) (z:es.size=n)
  (hp:s.heap.get? p=iE { cls:=.type "tuple",data:=.seq ps m }) (l:ps[i]?=iE (i6 pl)) (hx:es[pl]?=iE (hx,x))
  (c:∀ h',h'.get? it=iE (ud (.ref p) (i+1) a n ep)->bC it s.heap h'->Q (iE x) { s with heap:=h' }):iM (model prog w) A (k4 (.ref it)) Q E s:=by
 have T:s.TypeIs (.ref it) "set_iterator":=⟨_,hi,rfl⟩
 unfold k4;refine iF (j5 (iU (name:=aP "__next__") T qS (iV qS T kO ?_ (vE _))));show iM _ _ (fieldsOf (.ref it) >>= _) _ _ s;refine iF (mi hi rfl ?_);show iM _ _ (mT a >>= _) _ _ s;refine iF (lr g rfl h ?_);rw [Ab (by rw [z]; simp)];show iM _ _ (seqItems? (.ref p) >>= _) _ _ s;refine iF (iZ hp rfl ?_);dsimp only;rw [show ps[Int.toNat (i:Int)]?=iE (i6 pl) from l];show iM _ _ (setNextDrawn a pl ep >>= _) _ _ s;refine iF ?_;unfold setNextDrawn;refine iF (j8 g rfl h ?_);dsimp only;rw [Ab (by simp),hx];refine iL ?_;show iM _ _ (setField (.ref it) 1 (i6 (i+1)) >>= _) _ _ s;refine iF (lj hi rfl (by simp) (iL ⟨x,rfl,iL (c _ ?_ (bq ..))⟩));exact be _ hi rfl
theorem qak {m:Nat} {ps:Array iH} {Q:Option iH->iK->Prop} (h:A.handled=iG) (hi:s.heap.get? it=iE (ud (.ref p) i a n ep)) (g:s.heap.get? a=iE (km es ep t)) (f:t.fits es.size=iJ) (z:es.size=n)
  (hp:s.heap.get? p=iE { cls:=.type "tuple",data:=.seq ps m }) (l:ps[i]?=iG)
  (d:∀ h',ia it s.heap h'->Q iG { s with heap:=h' }):iM (model prog w) A (k4 (.ref it)) Q E s:=by
 have c:s.TypeIs (.ref it) "set_iterator":=⟨_,hi,rfl⟩
 unfold k4;refine iF (j5 (iU (name:=aP "__next__") c qS (iV qS c kO ?_ (vE _))));show iM _ _ (fieldsOf (.ref it) >>= _) _ _ s;refine iF (mi hi rfl ?_);show iM _ _ (mT a >>= _) _ _ s;refine iF (lr g rfl f ?_);rw [Ab (by rw [z]; simp)];show iM _ _ (seqItems? (.ref p) >>= _) _ _ s;refine iF (iZ hp rfl ?_);dsimp only;rw [show ps[Int.toNat (i:Int)]?=iG from l];show iM _ _ (setField (.ref it) 0 (i6 0) >>= _) _ _ s;refine iF (lj hi rfl (by simp) ?_);have h1:(s.heap.update it (Obj.mapFields (·.setIfInBounds 0 (i6 0)))).get? it=iE (ud (i6 0) i a n ep):=be _ hi rfl;refine iF (lj h1 rfl (by simp) ?_); show iM _ _ (newExc (.type "StopIteration") [] >>= _) _ _ _;refine iF ?_; simp only [newExc,newTuple]; refine iF (iY ?_ (by size_fits));refine iF (m:=lG _ _) (mL (a:=bX) (by first | rfl | (simp only [lG]; rfl)) ?_); refine iY ?_ (by size_fits); simp only [raiseNew];refine iF (wpAny_handled ?_); first | rw [show A.in1.handled=iG from h] | rw [h]
 refine iF (iL (wpAny_throw ?_)); refine iF (k9 (T := "StopIteration") (b:=iJ) ⟨_,ao _ rfl,rfl⟩ mj ?_);exact iL (d _ (((((bq ..).trans (bq ..))).extBut.push _).push _))
theorem gE {Q:iH->iK->Prop} (hi:s.heap.get? it=iE o) (d:o.cls=.type "set_iterator") (h:Q (.ref it) s):iM (model prog w) A (mE (.ref it)) Q E s:=by
 have m:s.TypeIs (.ref it) "set_iterator":=⟨_,hi,d⟩
 refine wpAny_pyIter_slot m zj (iV zj m JX ?_ (VG _)); show iM _ _ (ret (.ref it)) _ _ s;exact iL ⟨_,rfl, "set_iterator",_,m,qS.lookup,h⟩
theorem qal {ep:Nat} (u:A.handled=iG) (d:w.params.followText "set-order"=iJ) (f:t.fits es.size=iJ) (j:a≠it):Walks prog w A it [it,a] [it] es.size (λi v=>((lP (w.params.setOrder a ep) es).toList.map (·.2))[i]?=iE v) (λi h=>h.get? it=iE (ud (i6 0) i a es.size ep)/\h.get? a=iE (km es ep t)) where
 sub:=λb d=>by simp at d; simp [d]
 frame:=λ_ _ _ st r=>⟨r it (by simp) _ st.1,r a (by simp) _ st.2⟩
 item:=λi s Q E hi st c=>by
  have n:(lP (w.params.setOrder a ep) es).size=es.size:=by have:=(gB (w.params.setOrder a ep) es).length_eq;simpa using this
  have k:i < (lP (w.params.setOrder a ep) es).size:=by lia
  obtain ⟨e,he⟩:∃ e,(lP (w.params.setOrder a ep) es)[i]?=iE e:=⟨_,bJ k⟩
  refine VI (x:=e.2) (nx:=0) st.1 st.2 f rfl (λA1 L S q=>?_) λh' l p=>c e.2 h' s.toks ?_ ⟨l,?_⟩ λb o g y=>?_;·unfold mG;refine iF (j8 st.2 rfl f ?_);dsimp only;refine iF (m:=ml) (iF (j4 (iL ?_)));rw [vf d,Aa rfl,Ab (by simp)];refine iF ?_;unfold setWalk;refine iF (j8 st.2 rfl f ?_);dsimp only;refine iF (m:=ml) (iF (j4 (iL ?_)));rw [vf d,Aa rfl];refine iF (j4 (iL ?_));refine iL ?_;rw [show (lP ((⟨(model prog w).prog,(model prog w).w.params⟩:Setting).params.setOrder a ep) es)[i]?=iE e from he];exact q
  ·rw [aF,bn,he];rfl
  ·rw [p.2 a j];exact st.2
  ·rw [p.2 b (λz=>g (by simp [z]))];exact y
 done:=λs Q E st c=>by
  have n:(lP (w.params.setOrder a ep) es).size=es.size:=by have:=(gB (w.params.setOrder a ep) es).length_eq;simpa using this
  refine VJ u st.1 st.2 f rfl (λA1 L S q=>?_) λh' J=>c h' s.toks λb o g y=>J b o (λz=>g (by simp [z])) y;unfold mG;refine iF (j8 st.2 rfl f ?_);dsimp only;refine iF (m:=ml) (iF (j4 (iL ?_)));rw [vf d,Aa rfl,Ab (by simp)];refine iF ?_;unfold setWalk;refine iF (j8 st.2 rfl f ?_);dsimp only;refine iF (m:=ml) (iF (j4 (iL ?_)));rw [vf d,Aa rfl];refine iF (j4 (iL ?_));refine iL ?_;rw [show (lP ((⟨(model prog w).prog,(model prog w).w.params⟩:Setting).params.setOrder a ep) es)[es.size]?=iG from cX (fZ n)];exact q
 self:=λi s Q E st c=>gE st.1 rfl c
noncomputable def yp (t:lZ) (i:Nat):Nat:=if i=0 then 0 else t.place.getD 0 0+1
theorem VL (j k:Nat):bu #[j] k=if j < k then 1 else 0:=by unfold bu;show bu.go #[j] k 1 0 1=_;unfold bu.go;rw [Aa (by lia)];show (if (#[j]:Array Nat).getD 0 k < k then bu.go #[j] k 0 1 1 else bu.go #[j] k 0 0 0)=_;show (if j < k then bu.go #[j] k 0 1 1 else bu.go #[j] k 0 0 0)=_;split <;> rfl
theorem YM {Q:Option (iH×Nat)->iK->Prop} (d:w.params.followText "set-order"=iI) (f:t.fits es.size=iJ) (hl:t.led=iJ) (c:es.size<=1) (g:s.heap.get? a=iE (km es ep t)) (hi:i<=es.size)
  (q:Q (match es[i]? with | some e=>iE (e.2,yp t (i+1)) | none=>iG) s):iM (model prog w) A (mG a (yp t i) i ep) Q E s:=by
 have h:t.place.size=es.size:=by have:=f;simp only [SetTable.fits,aS,beq_iff_eq] at this;exact this.1
 unfold mG;refine iF (j8 g rfl f ?_);dsimp only;refine iF (m:=ml) (iF (j4 (iL ?_)));rw [vf d,Ab (by simp)];show iM _ _ (if (!t.plain&&decide (es.size > 1))=iJ then _ else _) _ _ _;rw [Ab (by simp; intro _; lia)];refine iF ?_;show iM _ _ (if (!t.led&&!es.isEmpty)=iJ then _ else _) _ _ _;rw [hl,Ab (by simp)];refine iL (iL ?_);have e:(match es[bu t.place (yp t i)]?,t.place[bu t.place (yp t i)]? with | some (_,x),iE j=>iE (x,j+1) | _,_=>iG)=(match es[i]? with | some e=>iE (e.2,yp t (i+1)) | none=>iG:Option (iH×Nat)):=by
  obtain ⟨l⟩:=es;obtain ⟨k,⟨pl⟩,u,fi,le,mo,pn⟩:=t;cases l with
  | nil=>simp
  | cons e0 l=>
   cases l with
   | cons _ _=>exact absurd c (by simp)
   | nil=>
    cases pl with
    | nil=>exact absurd h (by simp)
    | cons j pl=>
     cases pl with
     | cons _ _=>exact absurd h (by simp)
     | nil=>
      have b:i=0\/i=1:=by simp at hi; lia
      rcases b with rfl | rfl;·show (match (#[e0]:Array (Int×iH))[bu #[j] 0]?,(#[j]:Array Nat)[bu #[j] 0]? with | some (_,x),iE j=>iE (x,j+1) | _,_=>iG)=iE (e0.2,j+1);rw [VL,Ab (by lia)];rfl
      ·show (match (#[e0]:Array (Int×iH))[bu #[j] (j+1)]?,(#[j]:Array Nat)[bu #[j] (j+1)]? with | some (_,x),iE j=>iE (x,j+1) | _,_=>iG)=iG;rw [VL,Aa (by lia)];rfl
 exact Eq.mp (congrArg (λz=>Q z s) e.symm) q
theorem qcZ {ep:Nat} (p:A.handled=iG) (d:w.params.followText "set-order"=iI) (f:t.fits es.size=iJ) (hl:t.led=iJ) (k:es.size<=1) (e:a≠it):Walks prog w A it [it,a] [it] es.size (λi v=>(es.toList.map (·.2))[i]?=iE v) (λi h=>h.get? it=iE (ud (i6 (yp t i)) i a es.size ep)/\h.get? a=iE (km es ep t)) where
 sub:=λb d=>by simp at d; simp [d]
 frame:=λ_ _ _ st l=>⟨l it (by simp) _ st.1,l a (by simp) _ st.2⟩
 item:=λi s Q E hi st c=>by
  have m:es[i]?=iE es[i]:=bJ hi;refine VI (x:=es[i].2) (nx:=yp t (i+1)) st.1 st.2 f rfl (λA1 L S q=>YM d f hl k st.2 (cU hi) (by rw [m]; exact q)) λh' g j=>c es[i].2 h' s.toks ?_ ⟨g,?_⟩ λb o n y=>?_;·rw [aF,bn,m];rfl
  ·rw [j.2 a e];exact st.2
  ·rw [j.2 b (λz=>n (by simp [z]))];exact y
 done:=λs Q E st c=>VJ p st.1 st.2 f rfl (λA1 L S q=>YM d f hl k st.2 (aA _) (by rw [cX (aA _)]; exact q)) λh' J=>c h' s.toks λb o n y=>J b o (λz=>n (by simp [z])) y
 self:=λi s Q E st c=>gE st.1 rfl c
noncomputable def qh9 (es:Array (Int×iH)) (ps:List Nat):List iH:=ps.map λk=>(es[k]?.map (·.2)).getD .none
theorem qam (h:ps.Perm (aE es.size)):(qh9 es ps).Perm (es.toList.map (·.2)):=by
 have e:qh9 es (aE es.size)=es.toList.map (·.2):=by
  apply dg;intro i;unfold qh9;rw [aF,aF,show es.toList[i]?=es[i]? from bn];by_cases hi:i < es.size;·rw [List.getElem?_range hi,bJ hi];simp [hi]
  ·rw [bA (by rw [bK]; lia),cX (by lia)];rfl
 rw [<-e];exact h.map _
theorem Zr {ep m:Nat} (B:A.handled=iG) (q:t.fits es.size=iJ) (hp:ps.Perm (aE es.size)) (g:a≠it) (f:p≠it):Walks prog w A it [it,a,p] [it] es.size (λi v=>(qh9 es ps)[i]?=iE v) (λi h=>h.get? it=iE (ud (.ref p) i a es.size ep)/\h.get? a=iE (km es ep t)/\h.get? p=iE { cls:=.type "tuple",data:=.seq (ps.map λ(i:Nat)=>i6 i).toArray m }) where
 sub:=λb u=>by simp at u; simp [u]
 frame:=λ_ _ _ st k=>⟨k it (by simp) _ st.1,k a (by simp) _ st.2.1,k p (by simp) _ st.2.2⟩
 item:=λi s Q E hi st c=>by
  have n:ps.length=es.size:=by rw [hp.length_eq,bK]
  have l:i < ps.length:=by lia
  have k:ps[i] < es.size:=aM.mp (hp.mem_iff.mp (bt l));have r:es[ps[i]]?=iE es[ps[i]]:=bJ k;refine Zq (x:=es[ps[i]].2) (hx:=es[ps[i]].1) (pl:=ps[i]) st.1 st.2.1 q rfl st.2.2 ?_ r λh' j d=>c es[ps[i]].2 h' s.toks ?_ ⟨j,?_,?_⟩ λb o e y=>?_;·rw [eI,aF,aw l];rfl
  ·unfold qh9;rw [aF,aw l];simp [r]
  ·rw [d.2 a g];exact st.2.1
  ·rw [d.2 p f];exact st.2.2
  ·rw [d.2 b (λz=>e (by simp [z]))];exact y
 done:=λs Q E st c=>by
  have n:ps.length=es.size:=by rw [hp.length_eq,bK]
  refine qak B st.1 st.2.1 q rfl st.2.2 ?_ λh' J=>c h' s.toks λb o e y=>J b o (λz=>e (by simp [z])) y;rw [eI,bA (by simp; lia)]
 self:=λi s Q E st c=>gE st.1 rfl c
theorem qc0 {A1:iX} {Q:iH->iK->Prop} (n:A1.handled=iG) (g:s.heap.get? a=iE (km es ep t)) (d:SetG KpS prog w es t ks)
  (q:∀ (it:Addr) (h':Heap) (dr:Drawn) (ord:List iH) (fp:List Addr) (St:Nat->Heap->Prop),(∀ b o,s.heap.get? b=iE o->h'.get? b=iE o)->ord.Perm (es.toList.map (·.2))->Walks prog w A1 it fp [it] es.size (λi v=>ord[i]?=iE v) St->St 0 h' ->(∀ b∈fp,b=a\/s.heap.objs.size<=b)->s.heap.objs.size<=it->Q (.ref it) { s with heap:=h',drawn:=dr }):iM (model prog w) A (mE (.ref a)) Q E s:=by
 have T:s.TypeIs (.ref a) "set":=⟨_,g,rfl⟩
 have f:a < s.heap.objs.size:=ay g;refine wpAny_pyIter_slot T PySem.F.slot_set_iter (iV PySem.F.slot_set_iter T VH ?_ (PySem.F.args_set_iter_1 _));show iM _ _ (Builtin.Frozenset.sizeOf a >>= _) _ _ s;refine iF (m:=Builtin.Frozenset.sizeOf a) (iF (lr g rfl d.fits (iL ?_)));refine iF (m:=setDrawn a) ?_;unfold setDrawn;refine iF (j8 g rfl d.fits ?_);dsimp only;refine iF (m:=ml) (iF (j4 (iL ?_)));refine iL ?_;cases h:w.params.followText "set-order" with
 | true=>
  rw [vf h,Ab (by simp)];refine iF (iL ?_);refine iF (m:=setEpoch a) (wpAny_setEpoch_of g rfl d.fits ?_);refine iF (iY (iL ⟨_,rfl, "set_iterator",_,⟨_,ao _ rfl,rfl⟩,qS.lookup,?_⟩));refine q _ _ s.drawn _ _ _ (λb o e=>aa _ e) ((gB (w.params.setOrder a ep) es).map _) (qal n h d.fits (aG f)) ⟨ao _ rfl,aa _ g⟩ ?_ (aA _);intro b h;rcases ae.mp h with z | z;·exact .inr (z ▸ aA _)
  ·exact .inl (au.mp z)
 | false=>
  have k:t.led=true:=by rw [d.led,h]; rfl
  rw [vf h];show iM _ _ (if (!false&&(!t.plain&&decide (es.size > 1)))=iJ then _ else _) _ _ _;by_cases r:es.size<=1
  ·rw [Ab (by simp; intro _; lia)];refine iF (iL ?_);refine iF (m:=setEpoch a) (wpAny_setEpoch_of g rfl d.fits ?_);refine iF (iY (iL ⟨_,rfl, "set_iterator",_,⟨_,ao _ rfl,rfl⟩,qS.lookup,?_⟩));refine q _ _ s.drawn _ _ _ (λb o e=>aa _ e) (cw _) (qcZ n h d.fits k r (aG f)) ⟨ao _ rfl,aa _ g⟩ ?_ (aA _);intro b h;rcases ae.mp h with z | z;·exact .inr (z ▸ aA _)
   ·exact .inl (au.mp z)
  ·have l:t.plain=false:=d.plain rfl λz=>by
    have u:=d.size;rw [z,bf] at u
    lia
   rw [Aa (by rw [l]; simp; lia)];refine iF (qai es.size (aE es.size) s (by simp) λps dr hp=>?_);have j:ps.length=es.size:=by rw [hp.length_eq,bK]
   have hsz:(ps.map λ(i:Nat)=>i6 i).length<=sizeLine:=by rw [af,j]; exact lR d.bd
   refine iF (wpAny_newTuple ?_ hsz);refine iF (m:=setEpoch a) (wpAny_setEpoch_of (aa _ g) rfl d.fits ?_);refine iF (iY (iL ⟨_,rfl, "set_iterator",_,⟨_,ao _ rfl,rfl⟩,qS.lookup,?_⟩));have c:s.heap.objs.size < (s.heap.push ({ cls:=.type "tuple",data:=.seq (ps.map λ(i:Nat)=>i6 i).toArray }:Obj)).objs.size:=by rw [bh]; exact Nat.lt_succ_self _
   refine q _ _ dr _ _ _ (λb o e=>aa _ (aa _ e)) (qam hp) (Zr (p:=s.heap.objs.size) n d.fits hp (aG (ej f c)) (aG c)) ⟨ao _ rfl,aa _ (aa _ g),aa _ (ao _ rfl)⟩ ?_ (cU c);intro b h;rcases ae.mp h with z | z;·exact .inr (z ▸ cU c)
   ·rcases ae.mp z with z | z;·exact .inl z
    ·exact .inr (fZ (au.mp z).symm)
end
section
theorem qc1 {ord:List iH} {acc:Array iH} (hl:ord.length=n) (h:mH (λi v=>ord[i]?=iE v) acc n):acc.toList=ord:=by
 apply dg;intro i;rw [show acc.toList[i]?=acc[i]? from bn];by_cases hi:i < acc.size;·rw [bJ hi];exact (h.2 i _ (bJ hi)).symm
 ·rw [cX (by lia),bA (by have:=h.1; lia)]
theorem Uh {Q:List iH->iK->Prop} (L:A.handled=iG) (I:s.heap.get? a=iE (km es ep t)) (d:SetG KpS prog w es t ks)
  (M:∀ h' dr tk ord,(∀ b o,s.heap.get? b=iE o->h'.get? b=iE o)->ord.Perm (es.toList.map (·.2))->Q ord { s with heap:=h',drawn:=dr,toks:=tk }):iM (model prog w) A (collect (.ref a)) Q E s:=by
 have n:a < s.heap.objs.size:=ay I;unfold collect;refine iF (wpAny_runValue (i4 PySem.F.entry_proto_collect ?_)); rw [ba PySem.F.plain_proto_collect _];show iM _ A.in1 (newList [] >>= λl=>again (.builtin "list.__iadd__" ⟨[l,.ref a],[]⟩)) _ _ s; refine iF (iY ?_);refine iL ⟨lf PySem.F.plain_list_iadd _,i4 PySem.F.entry_list_iadd ?_⟩; rw [ba PySem.F.plain_list_iadd _];have g:(s.heap.push { cls:=.type "list",data:=.seq ([]:List iH).toArray }).get? a=iE (km es ep t):=aa _ I;have T:fh { s with heap:=s.heap.push { cls:=.type "list",data:=.seq ([]:List iH).toArray } } (.ref a) "set":=⟨_,g,rfl⟩
 show iM _ A.in1 (bj (.ref s.heap.objs.size) (.ref a) (.ref s.heap.objs.size)) _ _ _; unfold bj;refine iF (lx T ?_);have h1:cG (.ref s.heap.objs.size) (.ref a)=false:=by simp [cG,bQ n]
 rw [Ab (by rw [h1]; decide)];refine iF (qc0 (A1:=A.in1) L g d λit h2 dr ord fp St k2 hp W B G hit=>?_);have u:h2.get? s.heap.objs.size=iE { cls:=.type "list",data:=.seq ([]:List iH).toArray }:=k2 _ _ (ao _ rfl);have C:h2.get? a=iE (km es ep t):=k2 _ _ g;refine iF (iW ?_);unfold Builtin.List.listLengthHint;have i:fh { s with heap:=h2,drawn:=dr } (.ref a) "set":=⟨_,C,rfl⟩
 refine iF (wpAny_specialOf i PySem.F.slot_set_len.lookup ?_)
 (generalize f:("set.__len__":String)=id0; (fail_if_success (clear f id0)); wp_delta; rw [show splitId id0=iE ("set", "__len__") from by subst f; decide +kernel]; subst f)
 refine iF (k9 (b:=iJ) i (by rw [lF]; kernel_rfl) ?_);refine iF (m:=typeOf (.ref a)) (lx i ?_);refine iL ?_;show iM _ A.in1 (rule "list.extend.makes-room" >>= λ_=>Builtin.List.listTouch (.ref s.heap.objs.size) >>= λ_=>again (.builtin "list.extend.loop" ⟨[.ref s.heap.objs.size,.ref it,.ref s.heap.objs.size],[]⟩)) _ _ _;refine iF (lE (iF ?_)); show iM _ A.in1 (updateSeq s.heap.objs.size (·.push .none) >>= λ_=>updateSeq s.heap.objs.size (·.pop)) _ _ _;refine iF (wpAny_updateSeq u rfl ?_); have h:=be (cF (·.push bX)) u rfl;refine wpAny_updateSeq h rfl ?_; have j:=be (cF (·.pop)) h rfl;have k:(s.heap.push ({ cls:=.type "list",data:=.seq ([]:List iH).toArray }:Obj)).objs.size=s.heap.objs.size+1:=bh ..;have oth:∀ b o,b≠s.heap.objs.size->h2.get? b=iE o->((h2.update s.heap.objs.size (cF (·.push bX))).update s.heap.objs.size (cF (·.pop))).get? b=iE o:=λb o c e=>(cq _ _ (bw c)).trans ((cq _ _ (bw c)).trans e);have H:s.heap.objs.size∉fp:=λz=>by
  rcases G _ z with q | q;·exact bQ n q
  ·exact Nat.not_succ_le_self _ (k ▸ q)
 have p:ord.length=es.size:=by rw [hp.length_eq];simp
 refine iL ⟨lf PySem.F.plain_extend_loop _,codeAny_extend_loopS W.toS (lR d.bd) _ H _ es.size 0 _ _ _ rfl (bo _) (W.frame 0 h2 _ B λb c o e=>oth b o (λz=>H (z ▸ c)) e) j (ItemsOf.nil _) λs' K U v D r=>?_⟩;show iM _ A (load s.heap.objs.size >>= _) _ _ s';refine iF (wpAny_load D (iL ?_));rw [qc1 p r];obtain ⟨h',g',d',x,y⟩:=s';have O:g'=s.gens:=v.gens;have P:d'=dr:=v.drawn;have N:y=s.os:=v.os;subst O P N;refine M h' d' x ord (λb o e=>?_) hp;have c:=ay e;refine v.heap b o (λz=>?_) (oth b o (aG c) (k2 b o (aa _ e)));rcases ae.mp z with z | z;·exact aG c z
 ·have J:s.heap.objs.size+1<=it:=k ▸ hit;rw [<-au.mp z] at J;exact b6 _ (ej c J)
theorem Zs {Q:iH->iK->Prop} (q:A.handled=iG) (S:SetK KpS prog w s.heap a ks) (j:ks.length < 64)
  (u:∀ (h1 h':Heap) dr tk vs e ss,(∀ b o,s.heap.get? b=iE o->h1.get? b=iE o)->(∀ b o,h1.get? b=iE o->h'.get? b=iE o)->h'.get? h1.objs.size=iE (lT "list" vs e)->lX vs.toList ss->ss.Perm ks->sortedS ss=iJ->Q (.ref h1.objs.size) { s with heap:=h',drawn:=dr,toks:=tk }) :
  iM (model prog w) A (call (.builtin "sorted") [.ref a]) Q E s:=by
 obtain ⟨es,ep,t,r,d⟩:=S;refine dH kind_sorted plain_sorted entry_sorted (args_sorted1 _) ?_; unfold Builtin.«sorted»;refine iF (m:=checkCount "sorted" 1 1 _) (iL ?_);refine iF (Uh (by exact q) r d λh1 dr tk ord k1 hp=>?_);have c:lX ord (ord.map strOf):=strsAre_map ord λv p=>by obtain ⟨e,i,rfl⟩:=ah.mp (hp.mem_iff.mp p);exact qh6 d.el i
 have h:(ord.map strOf).Perm ks:=(hp.map strOf).trans (by rw [aR]; exact d.perm);have n:ord.length=ks.length:=by have:=h.length_eq;rwa [af] at this
 refine iF (wpAny_newList ?_ (by rw [n,iT]; lia));have Y:(h1.push (lT "list" ord.toArray 0)).get? h1.objs.size=iE (lT "list" ord.toArray 0):=ao _ rfl;refine iF (iW (iV slot_list_sort (s:={ s with heap:=h1.push (lT "list" ord.toArray 0),drawn:=dr,toks:=tk }) ⟨_,Y,rfl⟩ entry_list_sort (list_sort_treeK strKind_oneLt Y c.keysOf (λv₁ k rest e=>keyKind_strs (by rw [<-e]; exact c)) (by rw [n]; exact j) λg C B=>⟨_,rfl,?_⟩) (args_list_sort _)));obtain ⟨f,z,y,x⟩:=sorted_out_str c C B;obtain ⟨e,i⟩:=sortedHeap_at (out:=(arrOf g).map (·.2)) Y;refine iL ⟨_,rfl,u h1 _ dr tk _ e f k1 (λb o J=>?_) i z (y.trans h) x⟩;have l:=ay J;rw [sortedHeap_old (aG l) (by rw [bh]; exact df l)];exact aa _ J
end
section
theorem VM {Q:iH->iK->Prop} (hit:s.heap.IsTupleIter it l i) (hl:s.heap.IsTuple l items) (hx:items[i]?=iE x)
  (c:∀ h',h'.IsTupleIter it l (i+1)->bC it s.heap h'->Q x { s with heap:=h' }):iM (model prog w) A (aQ (.ref it)) Q E s:=by
 obtain ⟨o,h,d,hd⟩:=id hit;obtain ⟨ol,a,_,n,b⟩:=hl;unfold aQ;refine iF (iU (name:=aP "__next__") hit.typeIs bR (iV bR hit.typeIs PySem.F.entry_tuple_iterator_next ?_ (PySem.F.args_tuple_iterator_next_1 _))); show iM _ _ (field (.ref it) 0 >>= _) _ _ s;refine iF (i3 h hd (x:=.ref l) rfl ?_); show iM _ _ (if (bT l == bX)=iJ then _ else _) _ _ s;rw [Ab (show ¬((bT l == bX)=iJ) from bF)]; show iM _ _ (field (.ref it) 1 >>= _) _ _ s;refine iF (i3 h hd (x:=.int i 0) rfl ?_); show iM _ _ (seqItems? (.ref l) >>= _) _ _ s;refine iF (iZ a b ?_); simp only [cB,hx];refine iF (lj h hd (by simp) (iL ⟨x,rfl,iL (c _ ?_ (bq ..))⟩)); exact ⟨_,be _ h (Obj.isFreed_of_fields (Obj.data_mapFields hd _)),(Obj.cls_mapFields ..).trans d,by rw [Obj.data_mapFields hd]; simp [i6]⟩
theorem zK {Q:iH->iK->Prop} (d:A.handled=iG) (hit:s.heap.IsTupleIter it l i) (hl:s.heap.IsTuple l items) (hx:items[i]?=iG)
  (k:∀ h' e,ia it s.heap h'->(∃ o,h'.get? e=iE o/\o.cls=.type "StopIteration")->E (.ref e) { s with heap:=h' }):iM (model prog w) A (aQ (.ref it)) Q E s:=by
 obtain ⟨o,b,f,hd⟩:=id hit;obtain ⟨ol,h,_,n,c⟩:=hl;unfold aQ;refine iF (iU (name:=aP "__next__") hit.typeIs bR (iV bR hit.typeIs PySem.F.entry_tuple_iterator_next ?_ (PySem.F.args_tuple_iterator_next_1 _))); show iM _ _ (field (.ref it) 0 >>= _) _ _ s;refine iF (i3 b hd (x:=.ref l) rfl ?_); show iM _ _ (if (bT l == bX)=iJ then _ else _) _ _ s;rw [Ab (show ¬((bT l == bX)=iJ) from bF)]; show iM _ _ (field (.ref it) 1 >>= _) _ _ s;refine iF (i3 b hd (x:=.int i 0) rfl ?_); show iM _ _ (seqItems? (.ref l) >>= _) _ _ s;refine iF (iZ h c ?_); simp only [cB,hx];refine iF (lE (iF (lj b hd (by simp) ?_))); show iM _ _ (newExc (.type "StopIteration") [] >>= _) _ _ _;refine iF ?_; simp only [newExc,newTuple]; refine iF (iY ?_ (by size_fits));refine iF (m:=lG _ _) (mL (a:=bX) (by first | rfl | (simp only [lG]; rfl)) ?_); refine iY ?_ (by size_fits); simp only [raiseNew];refine iF (wpAny_handled ?_); first | rw [show A.in1.handled=iG from d] | rw [d]
 refine iF (iL (wpAny_throw ?_)); exact k _ _ (((bq ..).extBut.push _).push _) ⟨_,ao _ rfl,rfl⟩
theorem Ui (g:A.handled=iG) (it l:Addr) (d:l≠it) (items:Array iH):lK prog w A it [it,l] items.size (λi v=>items[i]?=iE v) (λi h=>h.IsTupleIter it l i/\h.IsTuple l items) where
 live:=λ_ _ st=>let ⟨o,f,_⟩:=st.1; ⟨o,f⟩
 frame:=λ_ _ _ st k=>⟨st.1.at λo e=>k it (by simp) o e,let ⟨o,e,c⟩:=st.2; ⟨o,k l (by simp) o e,c⟩⟩
 item:=λi s Q E hi st j=>by refine VM st.1 st.2 (x:=items[i]) (by simp [hi]) λh' b a=>j _ h' s.toks (by simp [hi]) ⟨b,?_⟩ a;obtain ⟨o,e,c⟩:=st.2;exact ⟨o,(a.2 l d).trans e,c⟩
 done:=λs Q E st m=>zK g st.1 st.2 (by simp) m
structure Apart2 (z TI TO i1 i2:Addr) (fp1 fp2:List Addr):Prop where
 TIz:TI≠z
 TOz:TO≠z
 i1z:i1≠z
 i2z:i2≠z
 TITO:TI≠TO
 TIi1:TI≠i1
 TIi2:TI≠i2
 TOi1:TO≠i1
 TOi2:TO≠i2
 i12:i1≠i2
 z1:z∉fp1
 z2:z∉fp2
 o1:TO∉fp1
 o2:TO∉fp2
 a12:i1∉fp2
 a21:i2∉fp1
variable {z TI TO i1 i2:Addr} {fp1 fp2:List Addr} {n1 n2:Nat} {P1 P2:Nat->iH->Prop} {S1 S2:Nat->Heap->Prop} {a b:iH}
theorem qc2 {Q:iH->iK->Prop} (D:Apart2 z TI TO i1 i2 fp1 fp2) (D1:lK prog w A i1 fp1 n1 P1 S1) (D2:lK prog w A i2 fp2 n2 P2 S2)
  (W:l7 s.heap z TI TO .none) (Z:i8 s.heap TI (.ref i1) (.ref i2)) (Y:i8 s.heap TO a b) (h1:S1 i s.heap) (h2:S2 i s.heap) (l1:i < n1) (l2:i < n2)
  (hQ:∀ x y h' tk,P1 i x->P2 i y->l7 h' z TI TO (i6 s.heap.objs.size)->i8 h' TO x y->S1 (i+1) h'->S2 (i+1) h'->i8 h' s.heap.objs.size x y ->(∀ c o,c≠z->c≠TO->c≠i1->c≠i2->s.heap.get? c=iE o->h'.get? c=iE o)->Q (.ref s.heap.objs.size) { s with heap:=h',toks:=tk }) :
  iM (model prog w) A (Builtin.«zip.__next__» ⟨[.ref z],[]⟩) (λfin s'=>∃ v,fin=.done (.ret v)/\Q v s') E s:=by
 show iM _ _ (field (.ref z) 2 >>= _) _ _ _; refine iF (i3 W rfl (x:=.bool iI) rfl ?_);show iM _ _ (field (.ref z) 3 >>= _) _ _ _; refine iF (i3 W rfl (x:=.ref TI) rfl ?_); refine iF (iZ Z rfl ?_);show iM _ _ (aT (.ref z) >>= _) _ _ _; refine iF ?_; unfold aT;refine iF (i3 W rfl (x:=.none) rfl (iL ?_)); simp only [if_true];refine iF (lE ?_); refine iF (i3 W rfl (x:=.ref TO) rfl ?_);refine iF (lc W (by simp) λh₁ r k=>?_); replace r:l7 h₁ z TI TO .ellipsis:=r;refine iF ?_; simp only [dE,List.zipIdx_nil,dR,fI];refine iF (iF (mn ?_)); show iM _ _ (aQ (.ref i1) >>= _) _ _ _;refine iF (D1.item i _ _ _ l1 (D1.frame _ _ _ h1 λc C o e=>k.extBut _ _ (λq=>D.z1 (q ▸ C)) e) λx V X hx N j=>iL ?_);have B:i8 V TO a b:=(j.2 _ D.TOi1).trans (k.extBut _ _ D.TOz Y);refine iF (iZ B rfl ?_); refine iF (wpAny_updateSeq_pair B λU m g=>?_);replace m:i8 U TO x b:=m; refine iF (mM (iL ?_));refine iF (iF (mn ?_)); show iM _ _ (aQ (.ref i2) >>= _) _ _ _;refine iF (D2.item i _ _ _ l2 (D2.frame _ _ _ h2 λc C o e=>(g.extBut _ _ (λq=>D.o2 (q ▸ C)) ((j.2 _ (λq=>D.a12 (q ▸ C))).trans (k.extBut _ _ (λq=>D.z2 (q ▸ C)) e)))) λy T L hy M f=>iL ?_);have u:i8 T TO x b:=(f.2 _ D.TOi2).trans m;refine iF (iZ u rfl ?_); refine iF (wpAny_updateSeq_pair u λp h d=>?_);replace h:i8 p TO x y:=h; refine iF (mM (iL (iL ?_)));refine iF (iZ h rfl ?_); refine iF (wpAny_newTuple ?_);have hsz:p.objs.size=s.heap.objs.size:=by rw [d.1,f.1,g.1,j.1,k.1]
 have G:l7 p z TI TO .ellipsis:=d.extBut _ _ D.TOz.symm ((f.2 _ D.i2z.symm).trans (g.extBut _ _ D.TOz.symm ((j.2 _ D.i1z.symm).trans r)));have P:∀ c o,c≠z->c≠TO->c≠i1->c≠i2->s.heap.get? c=iE o->p.get? c=iE o:=λc o R c2 c3 F e=>d.extBut _ _ c2 ((f.2 _ F).trans (g.extBut _ _ c2 ((j.2 _ c3).trans (k.extBut _ _ R e))));have K:z < p.objs.size:=ay G;show iM _ _ (Builtin.SmallTypes.ownedTupleHandOut (.ref z) (.ref p.objs.size) >>= _) _ _ _; refine iF ?_; unfold Builtin.SmallTypes.ownedTupleHandOut;have O:l7 (p.push { cls:=.type "tuple",data:=.seq #[x,y] }) z TI TO .ellipsis:=aa _ G;refine iF (lc O (by simp) λS n I=>?_); replace n:l7 S z TI TO (i6 p.objs.size):=n;refine lc n (by simp) λt l H=>?_; replace l:l7 t z TI TO (i6 p.objs.size):=l;have up:∀ c o,c≠z->p.get? c=iE o->t.get? c=iE o:=λc o R e=>H.extBut _ _ R (I.extBut _ _ R (aa _ e));have J:i8 t p.objs.size x y:=H.extBut _ _ (bQ K) (I.extBut _ _ (bQ K) (ao _ rfl));rw [hsz] at l J;refine iL ⟨_,rfl,?_⟩;show Q (.ref p.objs.size) _;rw [hsz];refine hQ x y t L hx hy l (up _ _ D.TOz h) (D1.frame _ _ _ N λc C o e=>up _ _ (λq=>D.z1 (q ▸ C)) (d.extBut _ _ (λq=>D.o1 (q ▸ C)) ((f.2 _ (λq=>D.a21 (q ▸ C))).trans (g.extBut _ _ (λq=>D.o1 (q ▸ C)) e))))
  (D2.frame _ _ _ M λc C o e=>up _ _ (λq=>D.z2 (q ▸ C)) (d.extBut _ _ (λq=>D.o2 (q ▸ C)) e)) J λc o R c2 c3 F e=>up c o R (P c o R c2 c3 F e)
theorem qfE {Q:Fin->iK->Prop} (D:Apart2 z TI TO i1 i2 fp1 fp2) (O:lK prog w A i1 fp1 n1 P1 S1) (R:lK prog w A i2 fp2 n2 P2 S2)
  (y:l7 s.heap z TI TO .none) (Z:i8 s.heap TI (.ref i1) (.ref i2)) (Y:i8 s.heap TO a b) (h1:S1 i s.heap) (h2:S2 i s.heap) (C:i=n1\/(i < n1/\i=n2))
  (P:∀ h' tk e,(∀ c o,c≠z->c≠TO->c≠i1->c≠i2->s.heap.get? c=iE o->h'.get? c=iE o)->(∃ o,h'.get? e=iE o/\o.cls=.type "StopIteration")->E (.ref e) { s with heap:=h',toks:=tk }) :
  iM (model prog w) A (Builtin.«zip.__next__» ⟨[.ref z],[]⟩) Q E s:=by
 show iM _ _ (field (.ref z) 2 >>= _) _ _ _; refine iF (i3 y rfl (x:=.bool iI) rfl ?_);show iM _ _ (field (.ref z) 3 >>= _) _ _ _; refine iF (i3 y rfl (x:=.ref TI) rfl ?_); refine iF (iZ Z rfl ?_);show iM _ _ (aT (.ref z) >>= _) _ _ _; refine iF ?_; unfold aT;refine iF (i3 y rfl (x:=.none) rfl (iL ?_)); simp only [if_true];refine iF (lE ?_); refine iF (i3 y rfl (x:=.ref TO) rfl ?_);refine iF (lc y (by simp) λh₁ r k=>?_); replace r:l7 h₁ z TI TO .ellipsis:=r;refine iF ?_; simp only [dE,List.zipIdx_nil,dR,fI];refine iF (iF (mn ?_)); show iM _ _ (aQ (.ref i1) >>= _) _ _ _;have f1:S1 i h₁:=O.frame _ _ _ h1 λc G o e=>k.extBut _ _ (λq=>D.z1 (q ▸ G)) e;rcases C with rfl | ⟨hlt,rfl⟩
 ·refine iF (O.done _ _ _ f1 λu e j K=>?_);obtain ⟨J,h,L⟩:=K;have f:l7 u z TI TO .ellipsis:=j _ _ D.i1z.symm r;have p:e≠z:=λx=>by subst x; rw [f] at h; cases h; simp at L
  exact lc f (by simp) λn _ g=>P n s.toks e (λc o H _ M _ x=>g.extBut _ _ H (j _ _ M (k.extBut _ _ H x))) ⟨J,g.extBut _ _ p h,L⟩
 ·refine iF (O.item i _ _ _ hlt f1 λx u X hx N j=>iL ?_);have B:i8 u TO a b:=(j.2 _ D.TOi1).trans (k.extBut _ _ D.TOz Y);refine iF (iZ B rfl ?_); refine iF (wpAny_updateSeq_pair B λn I g=>?_);refine iF (mM (iL ?_)); refine iF (iF (mn ?_)); show iM _ _ (aQ (.ref i2) >>= _) _ _ _;refine iF (R.done _ _ _ (R.frame _ _ _ h2 λc G o e=>(g.extBut _ _ (λq=>D.o2 (q ▸ G)) ((j.2 _ (λq=>D.a12 (q ▸ G))).trans (k.extBut _ _ (λq=>D.z2 (q ▸ G)) e)))) λv e m K=>?_);obtain ⟨J,h,L⟩:=K;have d:l7 v z TI TO .ellipsis:=m _ _ D.i2z.symm (g.extBut _ _ D.TOz.symm ((j.2 _ D.i1z.symm).trans r));have p:e≠z:=λx=>by subst x; rw [d] at h; cases h; simp at L
  exact lc d (by simp) λt _ l=>P t X e (λc o H c2 M S x=>l.extBut _ _ H (m _ _ S (g.extBut _ _ c2 ((j.2 _ M).trans (k.extBut _ _ H x))))) ⟨J,l.extBut _ _ p h,L⟩
theorem Uj {Q:Option iH->iK->Prop} (D:Apart2 z TI TO i1 i2 fp1 fp2) (O:lK prog w A.in1 i1 fp1 n1 P1 S1) (R:lK prog w A.in1 i2 fp2 n2 P2 S2)
  (h:l7 s.heap z TI TO .none) (Z:i8 s.heap TI (.ref i1) (.ref i2)) (Y:i8 s.heap TO a b) (h1:S1 i s.heap) (h2:S2 i s.heap) (f:i < n1) (l:i < n2)
  (d:∀ x y h' tk,P1 i x->P2 i y->l7 h' z TI TO (i6 s.heap.objs.size)->i8 h' TO x y->S1 (i+1) h'->S2 (i+1) h'->i8 h' s.heap.objs.size x y ->(∀ c o,c≠z->c≠TO->c≠i1->c≠i2->s.heap.get? c=iE o->h'.get? c=iE o)->Q (iE (.ref s.heap.objs.size)) { s with heap:=h',toks:=tk }):iM (model prog w) A (k4 (.ref z)) Q E s:=by
 have m:s.TypeIs (.ref z) "zip":=⟨_,h,rfl⟩
 unfold k4;exact iF (j5 (iU (name:=aP "__next__") m bB (iV bB m cY
  (qc2 D O R h Z Y h1 h2 f l λx y h' tk k g e a4 a5 a6 a7 a8=>iL (d x y h' tk k g e a4 a5 a6 a7 a8)) (cO _))))
theorem Zu {Q:Option iH->iK->Prop} (D:Apart2 z TI TO i1 i2 fp1 fp2) (O:lK prog w A.in1 i1 fp1 n1 P1 S1) (R:lK prog w A.in1 i2 fp2 n2 P2 S2)
  (h:l7 s.heap z TI TO .none) (Z:i8 s.heap TI (.ref i1) (.ref i2)) (Y:i8 s.heap TO a b) (h1:S1 i s.heap) (h2:S2 i s.heap) (C:i=n1\/(i < n1/\i=n2))
  (g:∀ h' tk,(∀ c o,c≠z->c≠TO->c≠i1->c≠i2->s.heap.get? c=iE o->h'.get? c=iE o)->Q iG { s with heap:=h',toks:=tk }):iM (model prog w) A (k4 (.ref z)) Q E s:=by
 have m:s.TypeIs (.ref z) "zip":=⟨_,h,rfl⟩
 unfold k4;refine iF (j5 (iU (name:=aP "__next__") m bB (iV bB m cY (qfE D O R h Z Y h1 h2 C λh' tk e k d=>?_) (cO _))));obtain ⟨o,l,f⟩:=d;refine iF (k9 (T := "StopIteration") (b:=iJ) ⟨o,l,f⟩ mj ?_);exact iL (g _ _ k)
end
section
theorem qeg (a:A.handled=iG) (k:SK) (it l:Addr) (e:l≠it) (items:Array iH):lK prog w A it [it,l] items.size (λi v=>items[i]?=iE v) (λi h=>ItK h it l k i/\SeqK h l k items):=by
 cases k with
 | l=>exact Draws.list a it l e items
 | t=>exact Ui a it l e items
end
variable {t':Nat}
section
theorem qan {ch:List Addr} (I:Inv X pins σ H s) (k:∀ b o,b∉ch->s.heap.get? b=iE o->h'.get? b=iE o) (h:∀ b∈ch,WK X pins H b):Inv X pins σ H { s with heap:=h',toks:=t' }:=by
 have t:∀ b u,H b=iE u->b∉ch:=λb u e z=>by rw [(h b z).1] at e;cases e
 refine I.step (g':=s.gens) (d':=s.drawn) (ch:=ch) (λb f=>?_) (λb o _ _ d e _=>k b o d e) (λb o _ _ d e _=>⟨o.slots,k b o d e⟩) (λ_ _ _ _ n=>n) (λb o d e=>⟨o,k b o d e⟩) (λ_ _ e=>e) (λ_ _ _ e=>e) (λb ps e=>⟨#[],by rw [e]; simp⟩) (λm a=>?_) (λb u e=>?_) I.bare;·obtain ⟨f0,f1,f2,i,f4,g⟩:=h b f;exact ⟨i,f1,f4,g⟩
 ·obtain ⟨o,es,ep,l,r⟩:=a;exact ⟨o,es,ep,k _ o (λz=>(h _ z).2.1 rfl) l,r⟩
 ·refine (I.hok b u e).stay (λc v d q=>k c v ?_ q) (λ_ q=>q) λ_ _ q=>q;rcases d with z | z
  ·rw [z];exact t b u e
  ·exact t c _ z
theorem qma {d':Drawn} (I:Inv X pins σ H s) (k:∀ b u,s.heap.get? b=iE u->h'.get? b=iE u):Inv X pins σ H { s with heap:=h',drawn:=d',toks:=t' }:=by refine I.step (g':=s.gens) (d':=d') (ch:=[]) (λ_ z=>nomatch z) (λb o _ _ _ e _=>k b o e) (λb o _ _ _ e _=>⟨o.slots,k b o e⟩) (λ_ _ _ _ n=>n) (λb o _ e=>⟨o,k b o e⟩) (λ_ _ e=>e) (λ_ _ _ e=>e) (λb ps e=>⟨#[],by rw [e]; simp⟩) (λm c=>?_) (I.hok.kept k) I.bare;obtain ⟨o,es,ep,l,r⟩:=c;exact ⟨o,es,ep,k _ o l,r⟩
end
variable {us:List iH}
theorem qao {xs:List V} (r:Vals xs us) (h:us[i]?=iE u):∃ x,xs[i]?=iE x/\RelV x u:=by
 have hi:i < us.length:=(aD.mp h).1;have hx:i < xs.length:=by rw [r.length]; exact hi
 obtain ⟨a,h1,h2⟩:=r.get (aw hx);rw [h] at h1;cases h1;exact ⟨xs[i],aw hx,h2⟩
theorem qap:iO "zip"=iE (.type "zip"):=by decide +kernel
def leS (x y:Str):Prop:=¬y.cps.toList < x.cps.toList
noncomputable def qgW (x:Str):List Str->List Str
 | []=>[x]
 | y::l=>if wZ y x=iJ then y::qgW x l else x::y::l
noncomputable def kc:List Str->List Str
 | []=>[]
 | x::l=>qgW x (kc l)
variable {y:Str}
theorem VN {x z:Str} (a:leS x y) (b:leS y z):leS x z:=List.le_trans (α:=Nat) a b
theorem VO (x y:Str):leS x y\/leS y x:=List.le_total (α:=Nat) x.cps.toList y.cps.toList
theorem qc3 {x:Str} (a:leS x y) (b:leS y x):x=y:=by have e:=List.le_antisymm (α:=Nat) (as:=x.cps.toList) (bs:=y.cps.toList) a b;obtain ⟨⟨l⟩⟩:=x;obtain ⟨⟨m⟩⟩:=y;simp at e;rw [e]
theorem gF {x:Str}:wZ y x=iI↔leS x y:=by unfold wZ leS;exact decide_eq_false_iff_not
theorem gG (x:Str):∀ l,(qgW x l).Perm (x::l)
 | []=>cw _
 | y::l=>by
  unfold qgW;split;·exact ((gG x l).cons y).trans (ib _ _ _)
  ·exact cw _
theorem qF:∀ l,(kc l).Perm l
 | []=>cw _
 | x::l=>(gG x _).trans ((qF l).cons x)
theorem gH (x:Str):∀ l,l.Pairwise leS->(qgW x l).Pairwise leS
 | [],_=>List.pairwise_singleton _ _
 | y::l,h=>by
  have d:=bH.mp h;unfold qgW;split
  ·rename_i t;have c:leS y x:=by
    rcases VO y x with q | q;·exact q
    ·rw [<-gF] at q;rw [q] at t;cases t
   refine bH.mpr ⟨λz a=>?_,gH x l d.2⟩;rcases ae.mp ((gG x l).mem_iff.mp a) with rfl | a;·exact c
   ·exact d.1 z a
  ·rename_i t;have b:leS x y:=gF.mp (by cases e:wZ y x with | true=>exact absurd e t | false=>rfl);refine bH.mpr ⟨λz a=>?_,h⟩;rcases ae.mp a with rfl | a;·exact b
   ·exact VN b (d.1 z a)
theorem kf:∀ l,(kc l).Pairwise leS
 | []=>fL
 | x::l=>gH x _ (kf l)
theorem yY:∀ {l m:List Str},l.Perm m->l.Pairwise leS->m.Pairwise leS->l=m
 | [],m,p,_,_=>p.nil_eq
 | x::l,[],p,_,_=>absurd p.length_eq (by simp)
 | x::l,y::m,p,hl,hm=>by
  have a:=bH.mp hl;have b:=bH.mp hm;have c:x=y:=by
   have h1:y∈x::l:=p.mem_iff.mpr (ap ..);have h2:x∈y::m:=p.mem_iff.mp (ap ..);rcases ae.mp h1 with e | e;·exact e.symm
   ·rcases ae.mp h2 with d | d;·exact d
    ·exact qc3 (a.1 y e) (b.1 x d)
  subst c;rw [yY p.cons_inv a.2 b.2]
theorem Ja:∀ (x:Str) (l:List Str),risingS x l=iJ->(x::l).Pairwise leS
 | x,[],_=>List.pairwise_singleton _ _
 | x,y::l,h=>by
  have h:(!ltCps y.cps.toList x.cps.toList&&risingS y l)=true:=h;rw [aS] at h;have j:=Ja y l h.2;have b:leS x y:=by have h1:=h.1;rw [ltCps_eq] at h1;unfold leS;simpa using h1
  refine bH.mpr ⟨λz a=>?_,j⟩;rcases ae.mp a with rfl | a;·exact b
  ·exact VN b ((bH.mp j).1 z a)
theorem Uk:∀ (l:List Str),sortedS l=iJ->l.Pairwise leS
 | [],_=>fL
 | x::l,h=>Ja x l h
variable {ss:List Str}
theorem gI (p:ss.Perm ks) (h:sortedS ss=iJ):ss=kc ks:=yY (p.trans (qF ks).symm) (Uk ss h) (kf ks)
noncomputable def xK:List D->Option (List Str)
 | []=>iE []
 | .str x::l=>(xK l).map (x::·)
 | _::_=>iG
noncomputable def yZ:D->Option (List Str)
 | .lst ds=>xK ds
 | .tup ds=>xK ds
 | _=>iG
noncomputable def qgX [DecidableEq κ] (T:KP κ) (P:iQ) (w:iR) (p:Addr) (ks:List κ):HO:=.ext λh=>SetK T P w h p ks
theorem qfF [DecidableEq κ] {T:KP κ} {ks:List κ} (x:SetK T P w h p ks):ObjOk P w H h p (qgX T P w p ks):=
 ⟨x,let ⟨_,_,_,e,_⟩:=x; ⟨_,e⟩,λ_ _ a k=>a.at k⟩
structure KD {κ:Type} [DecidableEq κ] (T:KP κ) where
 sqd:D->Option (List κ)
 ok:κ->Prop
 get:∀ {K:Frag} {F:Hp} {dx:D} {ss:List κ},sqd dx=iE ss->∃ ds,Zh dx=.ok ds/\∀ {vs:List V} {us:List iH},IsL K F vs ds->Vals vs us->us.length=ss.length/\(∀ (i:Nat) (v:iH),us[i]?=iE v->∃ x,ss[i]?=iE x/\∀ p w,(T.kd p w).is x v=iJ)/\∀ x∈ss,ok x
theorem qaq (a:IsL K F vs ds) (l:Vals vs us) (e:xK ds=iE ss):lX us ss/\∀ x∈ss,x.length<=sizeLine:=by
 induction ds generalizing vs us ss with
 | nil=>cases a;cases l;cases e;exact ⟨.nil,λx h=>nomatch h⟩
 | cons d ds j=>
  cases a with
  | cons i a=>
   cases l with
   | cons r l=>
    cases d with
    | str x=>
     obtain ⟨sl,q,rfl⟩:=aN.mp (show (xK ds).map (x::·)=iE ss from e);cases i with
     | str b=>obtain ⟨t,rfl⟩:=r;obtain ⟨i1,i2⟩:=j a l q;exact ⟨.cons x t i1,λy D=>(ae.mp D).elim (λz=>z ▸ b) (i2 y)⟩
    | _=>cases e
section
variable {own:List Nat} {e:Expr} {fa:qY} {ma:Mo} {pos:Pos}
theorem VP:∀ (l ks:List Str) {x:Str},x∈l.foldl gA ks->x∈ks\/x∈l
 | [],ks,x,h=>.inl h
 | y::l,ks,x,h=>by
  rcases VP l (gA ks y) h with q | q
  ·unfold gA at q;split at q;·exact .inl q
   ·rcases aj.mp q with q | q;·exact .inl q
    ·exact .inr (by rw [au.mp q]; exact ap ..)
  ·exact .inr (ac _ q)
theorem YN (e:xK ds=iE ss) (l:IsL K F vs ds) (d:Vals vs us):us.length=ss.length/\(∀ (i:Nat) (v:iH),us[i]?=iE v->∃ x,ss[i]?=iE x/\∀ p w,(KpS.kd p w).is x v=iJ)/\∀ x∈ss,x.length<=sizeLine:=by obtain ⟨st,D⟩:=qaq l d e;refine ⟨st.length,λi v h=>?_,D⟩;obtain ⟨y,t,e1,a⟩:=st.item i v h;refine ⟨y,a,λp w=>?_⟩;rw [e1];show eZ y (.str y t)=iJ;simp [eZ]
noncomputable def KdS:KD KpS where
 sqd:=yZ
 ok:=λy=>y.length<=sizeLine
 get:=λ{K F dx ss} e=>by
  cases dx with
  | lst ds=>exact ⟨ds,rfl,YN e⟩
  | tup ds=>exact ⟨ds,rfl,YN e⟩
  | _=>cases e
theorem qeh [DecidableEq κ] {T:KP κ} (U:KD T) (t:C.K=X.K) (m:X.calm=iJ):wU X (.type "set") (λxs H Q=>∃ x F dx ss,xs=[x]/\Same F H/\TopIs C.K F H x dx/\U.sqd dx=iE ss/\ss.length < 4000/\((∀ y∈ss,U.ok y)->∀ p,H p=iG->Q (.ref p) (upd H p (qgX T X.prog X.w p (ss.foldl xF []))))):=by
 intro pins s σ H xs us Q I r h;obtain ⟨x,F,dx,ss,rfl,A,tx,es,hl,q⟩:=h;obtain ⟨u,rfl,B⟩:=wf r;obtain ⟨ds,e,hg⟩:=U.get (K:=C.K) (F:=F) es;obtain ⟨a,sk,vs,rfl,hq,g⟩:=qee A tx e;cases B;rw [t] at hq;obtain ⟨its,o,n,f,l,c,j,hd,z⟩:=VE I hq;obtain ⟨d,hi,D⟩:=hg g f;refine qah (T:=T) (λA1 L E hA k=>?_) λh' tk S kp=>⟨.ref s.heap.objs.size,_,I.laid (t':=tk) kp (aA _) (qfF S),rfl,q D _ (I.hok.fresh (aA _))⟩
 exact ql9 (sk:=sk) (items:=its.toArray) (hA.trans (I.ok.hd m)) (qag (ao _ rfl)) (.of (aa _ l) hd c) (by simp [d]) (λi v e=>(hi i v (by simpa using e)).imp λx h=>⟨h.1,h.2 _ _⟩) (by rw [ax,d]; unfold lW; lia) (aG (ay l)) λh' tk S kp=>k h' tk S λb o J=>kp b o (aG (ay J)) (aa _ J)
theorem xa:∀ {us:List iH} {ss:List Str},lX us ss->Vals (ss.map V.str) us
 | _,_,.nil=>.nil
 | _,_,.cons y t h=>.cons ⟨t,rfl⟩ (xa h)
theorem qar (c:X.calm=iJ):wU X (.builtin "sorted") (λxs H Q=>∃ a ks,xs=[.ref a]/\H a=iE (qgX KpS X.prog X.w a ks)/\ks.length < 64/\∀ p,H p=iG->Q (.ref p) (upd H p (.lst ((kc ks).map V.str)))):=by
 intro pins s σ H xs us Q I r h;obtain ⟨a,ks,rfl,g,j,q⟩:=h;obtain ⟨u,rfl,B⟩:=wf r;cases B;have S:SetK KpS X.prog X.w s.heap a ks:=(I.hok a _ g).1;refine Zs (I.ok.hd c) S j λh1 h' dr tk vs e ss k1 k2 hp st pm so=>?_;rw [gI pm so] at st;have d:Inv X pins σ H { s with heap:=h1,drawn:=dr,toks:=tk }:=qma I k1;have z:(kc ks).length<=sizeLine:=by
  rw [(qF ks).length_eq,iT]
  lia
 refine ⟨.ref h1.objs.size,_,d.laid (t':=tk) (o:=.lst ((kc ks).map V.str)) k2 (aA _) ⟨by rw [af]; exact z,vs.toList,e,xa st,by simpa [lT] using hp⟩,rfl,q _ (d.hok.fresh (aA _))⟩
theorem qfG [DecidableEq κ] {T:KP κ}:wU X (.builtin "len") (λxs H Q=>∃ a ks,xs=[.ref a]/\H a=iE (qgX T X.prog X.w a ks)/\Q (.int ks.length) H):=by intro pins s σ H xs us Q I r h;obtain ⟨a,ks,rfl,g,q⟩:=h;obtain ⟨u,rfl,B⟩:=wf r;cases B;obtain ⟨es,ep,t,l,d⟩:SetK T X.prog X.w s.heap a ks:=(I.hok a _ g).1;have b:=d.bd;refine call_len_set l ⟨rfl,rfl,rfl⟩ rfl d.fits (by unfold lW at b; lia) ?_;exact ⟨.int ks.length,H,I.tok _,⟨_,by rw [d.size]⟩,q⟩
theorem gJ {m:Mo} {f:qY} {Q R:VK} (h:tE C own m f σ H Q) (i:∀ v H1,Q v H1->R v H1):tE C own m f σ H R:=by
 obtain ⟨F,ρ,r,po⟩:=h;refine ⟨F,ρ,r,?_⟩;cases q:f ρ with
 | ok p=>rw [q] at po;obtain ⟨d,ρ1⟩:=p;exact λv F1 H1 a b c=>i _ _ (po v F1 H1 a b c)
 | exc c ρ1=>rw [q] at po;exact po
 | bad=>rw [q] at po;exact po.elim
noncomputable def uT (d:D):Out D:=match yZ d with
 | some ss=>if ss.length < 64 then .ok (.lst ((kc (ss.foldl gA [])).map D.str)) else .bad
 | none=>.bad
noncomputable def gK (d:D):Out D:=match yZ d with
 | some ss=>if ss.length < 4000 then .ok (.int (ss.foldl gA []).length) else .bad
 | none=>.bad
theorem xb:∀ {ss:List Str},(∀ x∈ss,x.length<=sizeLine)->IsL K F (ss.map V.str) (ss.map D.str)
 | [],_=>.nil
 | x::l,h=>.cons (.str (h x (ap ..))) (xb λy a=>h y (ac _ a))
theorem Jb {p p2 pos2:Pos} (o:C.K=X.K) (j:X.calm=iJ) (hg:Gl X "sorted") (m:X.mg "sorted"=iG) (v:iO "sorted"=iE (.builtin "sorted")) (g:Gl X "set") (d:X.mg "set"=iG) (c:iO "set"=iE (.type "set")) (n:PE X e (tE C own ma fa))
  (i:iN [e] X.env=[(iI,eval e X.env)]:=by exact qE rfl) (b:iN [.Call (.Name "set" p2) [e] [] pos2] X.env=[(iI,eval (.Call (.Name "set" p2) [e] [] pos2) X.env)]:=by exact qE rfl) :
  PE X (.Call (.Name "sorted" p) [.Call (.Name "set" p2) [e] [] pos2] [] pos) (tE C own .fr (d1 uT fa)):=by
 refine jE (yK (qar j) hg m v (qM (kZ (qeh KdS o j) g d c (qM n jB i) (by decide) (by decide) (by rw [i]; rfl) rfl) jB b) (by decide) (by decide) (by rw [b]; rfl) rfl) λσ H Q h=>?_;refine gJ (xI (ma:=ma) h) λx H1 ⟨s,F,dx,ex,A,tx,po⟩=>?_;cases ex;unfold uT at po;cases es:yZ dx with
 | none=>rw [es] at po;exact po.elim
 | some ss=>
  rw [es] at po;by_cases hl:ss.length < 64
  ·have po:PoV C .fr F H1 (if ss.length < 64 then .ok (.lst ((kc (ss.foldl gA [])).map D.str)) else .bad) Q:=po;rw [Aa hl,<-YL] at po;refine ⟨x,F,dx,ss,rfl,A,tx,es,by lia,λk q hq=>⟨q,_,rfl,qm,?_,λl f=>?_⟩⟩
   ·have:=yX ss [];rw [bf] at this
    lia
   ·obtain ⟨s1,r,f1⟩:=jV (u:=qgX KpS X.prog X.w q (ss.foldl xF [])) A hq;obtain ⟨s2,c2,f2⟩:=jV (u:=.lst ((kc (ss.foldl xF [])).map V.str)) s1 f;have t:H1 l=none:=by
     by_cases z:l=q;·rw [z] at f;rw [qm] at f;cases f
     ·rwa [qB z] at f
    refine po _ _ _ s2 (r.trans' c2) ⟨l,rfl,t,f2,_,qm,xb λy a=>k y ?_⟩;rw [YL] at a;rcases VP ss [] ((qF _).mem_iff.mp a) with z | z;·cases z
    ·exact z
  ·have po:PoV C .fr F H1 (if ss.length < 64 then .ok (.lst ((kc (ss.foldl gA [])).map D.str)) else .bad) Q:=po;rw [Ab hl] at po;exact po.elim
noncomputable def qjT [DecidableEq κ] {T:KP κ} (U:KD T) (add:List κ->κ->List κ) (d:D):Out D:=match U.sqd d with
 | some ss=>if ss.length < 4000 then .ok (.int (ss.foldl add []).length) else .bad
 | none=>.bad
theorem Zv [DecidableEq κ] {T:KP κ} (U:KD T) {p p2 pos2:Pos} (n:C.K=X.K) (a:X.calm=iJ) (hg:Gl X "len") (m:X.mg "len"=iG) (v:iO "len"=iE (.builtin "len")) (g:Gl X "set") (d:X.mg "set"=iG) (c:iO "set"=iE (.type "set")) (f:PE X e (tE C own ma fa))
  (i:iN [e] X.env=[(iI,eval e X.env)]:=by exact qE rfl) (b:iN [.Call (.Name "set" p2) [e] [] pos2] X.env=[(iI,eval (.Call (.Name "set" p2) [e] [] pos2) X.env)]:=by exact qE rfl) :
  PE X (.Call (.Name "len" p) [.Call (.Name "set" p2) [e] [] pos2] [] pos) (tE C own .sh (d1 (qjT U xF) fa)):=by
 refine jE (yK (qfG (T:=T)) hg m v (qM (kZ (qeh U n a) g d c (qM f jB i) (by decide) (by decide) (by rw [i]; rfl) rfl) jB b) (by decide) (by decide) (by rw [b]; rfl) rfl) λσ H Q h=>?_;refine gJ (xI (ma:=ma) h) λx H1 ⟨j,F,dx,ex,A,tx,po⟩=>?_;cases ex;unfold qjT at po;cases es:U.sqd dx with
 | none=>rw [es] at po;exact po.elim
 | some ss=>
  rw [es] at po;have po:PoV C .sh F H1 (if ss.length < 4000 then .ok (.int (ss.foldl xF []).length) else .bad) Q:=po;by_cases hl:ss.length < 4000;·rw [Aa hl] at po;refine ⟨x,F,dx,ss,rfl,A,tx,es,hl,λD q hq=>⟨q,_,rfl,qm,?_⟩⟩;obtain ⟨s1,k,f1⟩:=jV (u:=qgX T X.prog X.w q (ss.foldl xF [])) A hq;exact po _ _ _ s1 k (.int _)
  ·rw [Ab hl] at po;exact po.elim
theorem qas {p p2 pos2:Pos} (n:C.K=X.K) (a:X.calm=iJ) (hg:Gl X "len") (m:X.mg "len"=iG) (v:iO "len"=iE (.builtin "len")) (g:Gl X "set") (h:X.mg "set"=iG) (c:iO "set"=iE (.type "set")) (f:PE X e (tE C own ma fa))
  (i:iN [e] X.env=[(iI,eval e X.env)]:=by exact qE rfl) (b:iN [.Call (.Name "set" p2) [e] [] pos2] X.env=[(iI,eval (.Call (.Name "set" p2) [e] [] pos2) X.env)]:=by exact qE rfl) :
  PE X (.Call (.Name "len" p) [.Call (.Name "set" p2) [e] [] pos2] [] pos) (tE C own .sh (d1 gK fa)):=by
 rw [show gK=qjT KdS xF by rw [YL];funext d;have q:KdS.sqd d=yZ d:=rfl;unfold gK qjT;rw [q];cases yZ d <;> rfl];exact Zv KdS n a hg m v g h c f i b
end
variable {β:Type}
@[simp] theorem jr {a:α} {k:α->Out β}:(Out.ok a).bind k=k a:=rfl
@[simp] theorem qlu {c:Str} {o:Sl} {k:α->Out β}:(Out.exc c o:Out α).bind k=.exc c o:=rfl
@[simp] theorem qlv {k:α->Out β}:(Out.bad:Out α).bind k=.bad:=rfl
@[simp] theorem qkH {a:α}:(Out.ok a).plain=.ok a:=rfl
@[simp] theorem qlw:(Out.bad:Out α).plain=.bad:=rfl
variable {c:Prop}
@[simp] theorem qlx [Decidable c] {a b:Out α} {k:α->Out β}:(if c then a else b).bind k=if c then a.bind k else b.bind k:=by split <;> rfl
@[simp] theorem qly [Decidable c] {a b:Out α}:(if c then a else b).plain=if c then a.plain else b.plain:=by split <;> rfl
noncomputable def qc4 (d:D) (A B:Out α):Out α:=match d with
 | .bl b=>if b=iJ then A else B
 | _=>.bad
@[simp] theorem qjU {A B:Out α}:qc4 (.bl b) A B=if b=iJ then A else B:=rfl
noncomputable def qlz (p:D×Sl):Out (Bool×Sl):=match p.1 with
 | .bl b=>.ok (b,p.2)
 | _=>.bad
variable {ρ:Sl}
@[simp] theorem qkI:qlz (.bl b,ρ)=.ok (b,ρ):=rfl
noncomputable def Gg (ms:List PM):Out (Fl×Sl)->Out (D×List D)
 | .ok (.nx,ρ)=>.ok (.non,jZ ρ 0 ms)
 | .ok (.rt d,ρ)=>.ok (d,jZ ρ 0 ms)
 | .ok _=>.bad
 | .exc c ρ=>.exc c ((jZ ρ 0 ms).map iE)
 | .bad=>.bad
variable {ms:List PM}
theorem qr {f:qR}:jQ N ms f ds=Gg ms (f (qt N ds)):=by unfold jQ Gg;rfl
@[simp] theorem qlA:Gg ms (.ok (.rt d,ρ))=.ok (d,jZ ρ 0 ms):=rfl
@[simp] theorem qlB:Gg ms (.ok (.nx,ρ))=.ok (.non,jZ ρ 0 ms):=rfl
@[simp] theorem qkJ {c:Str}:Gg ms (.exc c ρ)=.exc c ((jZ ρ 0 ms).map iE):=rfl
@[simp] theorem qkK [Decidable c] {a b:Out (Fl×Sl)}:Gg ms (if c then a else b)=if c then Gg ms a else Gg ms b:=by split <;> rfl
noncomputable def Ul (as:List AK) (ρ:Sl):Out (D×List D)->Vo
 | .ok q=>.ok (q.1,zH as q.2 ρ)
 | .exc c o=>.exc c (zH as (o.map (·.getD .non)) ρ)
 | .bad=>.bad
variable {as:List AK}
@[simp] theorem qjV {q:D×List D}:Ul as ρ (.ok q)=.ok (q.1,zH as q.2 ρ):=rfl
@[simp] theorem qia {c:Str} {o:Sl}:Ul as ρ (.exc c o)=.exc c (zH as (o.map (·.getD .non)) ρ):=rfl
@[simp] theorem qib [Decidable c] {a b:Out (D×List D)}:Ul as ρ (if c then a else b)=if c then Ul as ρ a else Ul as ρ b:=by split <;> rfl
variable {ρ:Sl}
@[simp] theorem xL:qd i ρ=match ρ[i]? with | some (iE d)=>.ok (d,ρ) | _=>.bad:=rfl
@[simp] theorem qic:dC d ρ=.ok (d,ρ):=rfl
variable {gg:D->Sl->Out Sl}
section
variable {g g':D->D->Out D} {g1:D->Out D} {fa fb fc f:qY} {ft fu:ua} {fr:wT} {fs ft1:qR} {fi:wT} {G:jD}
@[simp] theorem vB:d1 g1 fa ρ=(fa ρ).bind λp=>(g1 p.1).plain.bind λd=>.ok (d,p.2):=rfl
@[simp] theorem qc5:d2 g fa fb ρ=(fa ρ).bind λp=>(fb p.2).bind λq=>(g p.1 q.1).plain.bind λd=>.ok (d,q.2):=rfl
@[simp] theorem qkL:we f ρ=(f ρ).bind λp=>(Gf p.1).bind λb=>.ok (b,p.2):=rfl
@[simp] theorem qc6:qL f ρ=(f ρ).bind qlz:=rfl
@[simp] theorem qkM:gm ft ρ=(ft ρ).bind λp=>.ok (!p.1,p.2):=rfl
@[simp] theorem qjW:qkF f ρ=(qL f ρ).bind λp=>.ok (.bl (!p.1),p.2):=rfl
@[simp] theorem qkN:qd7 ft fu ρ=(ft ρ).bind λp=>if p.1=iJ then fu p.2 else .ok (iI,p.2):=rfl
@[simp] theorem qlC:dOr ft fu ρ=(ft ρ).bind λp=>if p.1=iJ then .ok (iJ,p.2) else fu p.2:=rfl
@[simp] theorem qjX:JL fa fb ρ=(fa ρ).bind λp=>qc4 p.1 (fb p.2) (.ok (.bl iI,p.2)):=by
 unfold JL;cases fa ρ with
 | ok p=>
  obtain ⟨d,r⟩:=p;cases d <;> try rfl
  rename_i b;cases b <;> rfl
 | exc c o=>rfl
 | bad=>rfl
@[simp] theorem qkO:qhM fa fb ρ=(fa ρ).bind λp=>qc4 p.1 (.ok (.bl iJ,p.2)) (fb p.2):=by
 unfold qhM;cases fa ρ with
 | ok p=>
  obtain ⟨d,r⟩:=p;cases d <;> try rfl
  rename_i b;cases b <;> rfl
 | exc c o=>rfl
 | bad=>rfl
@[simp] theorem qlD:dIf ft fa fb ρ=(ft ρ).bind λp=>if p.1=iJ then fa p.2 else fb p.2:=rfl
@[simp] theorem qid:yO g g' fa fb fc ρ=(fa ρ).bind λp=>(fb p.2).bind λq=>(g p.1 q.1).plain.bind λz=>qc4 z ((fc q.2).bind λr=>(g' q.1 r.1).plain.bind λd=>.ok (d,r.2)) (.ok (.bl iI,q.2)):=by
 unfold yO;congr 1;funext p;congr 1;funext q;congr 1;funext z;cases z <;> try rfl
 rename_i b;cases b <;> rfl
@[simp] theorem qat:qx ρ=.ok ([],ρ):=rfl
@[simp] theorem YO:qc fa fr ρ=(fa ρ).bind λp=>(fr p.2).bind λq=>.ok (p.1::q.1,q.2):=rfl
@[simp] theorem YQ:kj fr ρ=(fr ρ).bind λq=>.ok (D.non::q.1,q.2):=rfl
@[simp] theorem qkP:yP fr ρ=(fr ρ).bind λp=>if p.1.length<=sizeLine then .ok (.tup p.1,p.2) else .bad:=rfl
@[simp] theorem qkQ:yd fr ρ=(fr ρ).bind λp=>if p.1.length<=sizeLine then .ok (.lst p.1,p.2) else .bad:=rfl
@[simp] theorem qjY:jk ρ=.ok (.nx,ρ):=rfl
@[simp] theorem gL:qN fs ft1 ρ=(fs ρ).bind λp=>match p.1 with | .nx=>ft1 p.2 | _=>.ok p:=by
 show _=_;unfold qN;cases fs ρ with
 | ok p=>obtain ⟨l,r⟩:=p; cases l <;> rfl
 | exc c o=>rfl
 | bad=>rfl
@[simp] theorem qei:sIf ft fs ft1 ρ=(ft ρ).bind λp=>if p.1=iJ then fs p.2 else ft1 p.2:=rfl
@[simp] theorem qjZ:ki f ρ=(f ρ).bind λp=>.ok (.nx,p.2):=rfl
@[simp] theorem yq:jt f ρ=(f ρ).bind λp=>.ok (.rt p.1,p.2):=rfl
@[simp] theorem wm:jx i f ρ=(f ρ).bind λp=>if i < p.2.length then .ok (.nx,p.2.set i (iE p.1)) else .bad:=rfl
@[simp] theorem YR:ql as G fr ρ=(fr ρ).bind λp=>match kD as p.1 p.2 with | some ds=>Ul as p.2 (G ds) | none=>.bad:=rfl
@[simp] theorem qkR:ql8 f ρ=(f ρ).bind λp=>(Zh p.1).bind λds=>.ok (ds,p.2):=rfl
@[simp] theorem qkS:jl f ρ=(f ρ).bind λp=>(jg p.1).bind λds=>.ok (ds,p.2):=rfl
@[simp] theorem qlE:gNm i d ρ=if i < ρ.length then .ok (ρ.set i (iE d)) else .bad:=rfl
@[simp] theorem vg:zI fi gg fs ρ=(fi ρ).bind λp=>jR gg fs p.1 p.2:=rfl
@[simp] theorem qkT:qkE f gg ρ=(f ρ).bind λp=>match gg p.1 p.2 with | .ok ρ'=>.ok (.nx,ρ') | _=>.bad:=rfl
@[simp] theorem qkU {gg:List D->D->Out (List D)}:xE i gg f ρ=if wQ ρ[i]?=iJ then (f ρ).bind λp=>(match p.2[i]? with | some (iE (.lst xs))=>(match gg xs p.1 with | .ok ys=>.ok (.non,p.2.set i (iE (.lst ys))) | _=>.bad) | _=>.bad) else .bad:=rfl
@[simp] theorem qlF:ftT ρ=.ok (iJ,ρ):=rfl
end
end L2.D2
namespace L2.D2
open PySem PySem.Spec PyProof.Rows
def qj0 (i j:Int):Prop:=(0<=j/\j<=64)/\-4611686018427387904 < i/\i < 4611686018427387904
instance:∀ i j,Decidable (qj0 i j):=λi j=>inferInstanceAs (Decidable (_/\_))
variable {X:Cx} {C:Ct}
section
theorem qie:OpR X (k6 .Pow) (rI qj0 λi j=>.int (i ^ j.toNat)):=opI λi j _ _ _ _ _ d q=>by obtain ⟨⟨a,h1⟩,h2,h⟩:=d;exact pow_int_small a (by omega) (by omega) q
noncomputable def qkV:D->D->Out D:=yn λi j=>if qj0 i j then .ok (.int (i ^ j.toNat)) else .bad
theorem qif:OpD X C .sh (k6 .Pow) qkV:=Ys qie λ_ _ _=>.int _
end
noncomputable def gM (sep:Str):D->Out D
 | .lst ds=>match xK ds with
  | some ss=>if (ss.map (·.length)).sum+ss.length * sep.length<=16777216/\(fS sep ss).length<=sizeLine then .ok (.str (fS sep ss)) else .bad
  | none=>.bad
 | _=>.bad
variable {own:List Nat} {e:Expr} {m:Mo}
section
variable {fe:qY} {apos cpos:Pos} {sep:Str}
theorem qfH:MtR X "str.join" (λx vs H Q=>∃ (sep:Str) (a:Addr) (xs:List V) (ss:List Str),x=.str sep/\vs=[.ref a]/\SqL X.K H a xs/\(∀ us,Vals xs us->lX us ss)/\(ss.map (·.length)).sum+ss.length * sep.length<=16777216/\Q (.str (fS sep ss)) H):=by intro pins s σ H x vs v us Q I d c h;obtain ⟨sep,a,xs,ss,rfl,rfl,hq,f,z,q⟩:=h;obtain ⟨t,rfl⟩:=d;obtain ⟨u,rfl,B⟩:=c.one;cases B;obtain ⟨its,r,pl,_⟩:=I.list hq;obtain ⟨o,n,l,e,hd,b⟩:=pl;exact join_list ⟨o,l,e,n,b⟩ (by simpa using f its r) z λt' k=>⟨.str (fS sep ss),H,I.tok _,⟨_,rfl⟩,q⟩
theorem Um {k c2} (u:C.K=X.K) (o:PE X e (tE C own m fe))
  (f:j0 (.Constant (.str sep) k c2) "join" X.env (eval (.Constant (.str sep) k c2) X.env)=eval (.Constant (.str sep) k c2) X.env:=by rfl)
  (w:((j6 cpos (iN [e] X.env)).all (λx=>!x.1)&&(lA cpos (j9 [] X.env)).all (λx=>x.1.isSome)
   && decide ([e].length+([]:List i9).length+(if ([]:List i9).isEmpty then 0 else 1) < 30))=true:=by exact kN rfl)
  (b:(apos.endLine == cpos.line)=true:=by rfl) (s:iN [e] X.env=[(iI,eval e X.env)]:=by exact qE rfl) :
  PE X (.Call (.Attribute (.Constant (.str sep) k c2) "join" apos) [e] [] cpos) (tE C own .sh (d1 (gM sep) fe)):=by
 refine jE (WP PySem.F.plainAttrs_str PySem.F.slot_str_join PySem.F.type_str_join qfH qd3 (qM o jB s) f w b s rfl) λσ H Q h=>?_;refine ⟨rfl,?_⟩;obtain ⟨F,ρ,n,h⟩:=qcB (ma:=m) h;refine ⟨F,ρ,n,?_⟩;cases q:fe ρ with
 | ok p=>
  rw [q] at h;obtain ⟨d,ρ1⟩:=p;intro v F1 H1 g k j;obtain ⟨y,dx,A,tx,po⟩:=h v F1 H1 g k j;cases dx <;> try exact po.elim
  rename_i ds;unfold gM at po;cases i:xK ds with
  | none=>simp only [i] at po; exact po.elim
  | some ss=>
   simp only [i] at po;by_cases z:(ss.map (·.length)).sum+ss.length * sep.length<=16777216/\(fS sep ss).length<=sizeLine
   ·rw [Aa z] at po;obtain ⟨a,vs,rfl,hq,t⟩:=tx.lst A;have l:SqL X.K H1 a vs:=by rw [<-u]; exact hq
    exact ⟨sep,a,vs,ss,rfl,rfl,l,λus r=>(qaq t r i).1,z.1,po _ y H1 A .refl (.str z.2)⟩
   ·rw [Ab z] at po;exact po.elim
 | exc c=>rw [q] at h; exact h
 | bad=>rw [q] at h; exact h.elim
end
noncomputable def dM (k:D->Bool) (g:D->D->Out D) (fo fa:qY):qY:=λρ=>(fo ρ).bind λp=>if k p.1 then (fa p.2).bind λq=>(g p.1 q.1).plain.bind λd=>.ok (d,q.2) else .bad
variable {ma mb:Mo} {pos:Pos} {σ:St} {F H:Hp} {Q:VK}
section
variable {a b:Expr} {fa fb:qY}
theorem Po.imp {r:Vo} {R:VK} (h:Po C own m σ F H r Q) (i:∀ v H',Q v H'->R v H'):Po C own m σ F H r R:=by
 cases r with
 | ok p=>exact λv F' H' a c mo=>i v H' (h v F' H' a c mo)
 | exc x=>exact h
 | bad=>exact h.elim
theorem qau {k:D->Bool} {g:D->D->Out D} (f:ma≠.any) (h:tE C own m (dM k g fa fb) σ H Q):tE C own ma fa σ H λx H1=>(∃ F dx,Same F H1/\TopIs C.K F H1 x dx/\k dx=iJ)/\tE C own mb fb σ H1 λy H2=>∃ F dx j,Same F H2/\TopIs C.K F H2 x dx/\TopIs C.K F H2 y j/\PoV C m F H2 (g dx j) Q:=by
 obtain ⟨F,ρ,p,h⟩:=h;refine ⟨F,ρ,p,Po.bind h λv F1 H1 d ρ1 a n c h1=>?_⟩;cases i:k d with
 | false=>simp only [i] at h1; exact h1.elim
 | true=>simp only [i,if_true] at h1;exact ⟨⟨F1,d,a.sub,c.top,i⟩,F1,ρ1,a,Po.bind h1 λw l H2 e ρ2 r c2 b h2=>⟨l,d,e,r.sub,(c.grow f c2 λx z=>(p.OA_there z).1).top,b.top,PoV.of r h2⟩⟩
def MtD (X:Cx) (C:Ct) (m:Mo) (id:String) (g:D->D->Out D):Prop:=
 MtR X id (λx vs H Q=>∃ y F dx d,vs=[y]/\Same F H/\TopIs C.K F H x dx/\TopIs C.K F H y d/\PoV C m F H (g dx d) Q)
end
theorem qav {pins:Pns} {s:iK} (I:Inv X pins σ H s) (A:Same F H) {n:Nat} {e:D}:∀ {vs:List V} {ds:List D} {us:List iH} {b:Bool},IsL X.K F vs ds->Vals vs us->QU n e ds=iE b ->us.map (Ge X F n e)=ds.map λd=>eqN n d e == iE iJ
 | _,_,_,b,.nil,.nil,h=>rfl
 | _,_,_,b,.cons i t,.cons r rs,h=>by obtain ⟨a,c,q,f,rfl⟩:=Vr h;rw [aC,aC,qav I A t rs f,GN I A i r q,q];cases a <;> rfl
noncomputable def qlG:qR:=λ_=>.bad
section
variable {own':List Nat} {sts:List Stmt}
theorem qfI:PSs X sts (tSt C own own' qlG):=by refine ⟨?_⟩;intro pins s σ H D I h;obtain ⟨_,_,_,h⟩:=h;exact h.elim
end
def qej (i j:Int):Prop:=(-(2 ^ 62)<=i/\i < 2 ^ 62)/\-(2 ^ 62)<=j/\j < 2 ^ 62
instance:∀ i j,Decidable (qej i j):=λi j=>inferInstanceAs (Decidable (_/\_))
variable {lo:Int}
section
variable {a b tg:Expr} {fa fb:qY}
theorem qaw:∀ {xs:List V} {us:List iH},xs.length=us.length->(∀ (j:Nat) (x:V) (u:iH),xs[j]?=iE x->us[j]?=iE u->RelV x u)->Vals xs us
 | [],[],_,_=>.nil
 | x::xs,u::us,hl,h=>.cons (h 0 x u rfl rfl) (qaw (h8.inj hl) λj y w a b=>h (j+1) y w (by simpa using a) (by simpa using b))
 | [],_::_,hl,_=>nomatch hl
 | _::_,[],hl,_=>nomatch hl
noncomputable def qgY (p:Addr) (lo hi:Int):HO:=.ext λh=>∃ t u v,IsRange h p lo hi 1 t u v
theorem qax {P:iQ} {w:iR} {h:Heap} {p:Addr} {hi:Int} {t u v:Tok} (x:IsRange h p lo hi 1 t u v):ObjOk P w H h p (qgY p lo hi):=
 ⟨⟨t,u,v,x⟩,⟨_,x⟩,λ_ _ ⟨t,u,v,x⟩ k=>⟨t,u,v,k _ x⟩⟩
theorem qay:wU X (.type "range") (λxs H Q=>∃ j:Int,xs=[.int j]/\∀ p,H p=iG->Q (.ref p) (upd H p (qgY p 0 j))):=by intro pins s σ H xs us Q I r h;obtain ⟨j,rfl,q⟩:=h;obtain ⟨u,rfl,B⟩:=wf r;obtain ⟨t,rfl⟩:=B;exact call_range_1 ⟨.ref s.heap.objs.size,_,I.laid (t':=s.toks+1+1) (λb o e=>aa _ e) (aA _) (qax (iu ..)),rfl,q _ (I.hok.fresh (aA _))⟩
theorem YS (d:X.calm=iJ):wU X (.type "list") (λxs H Q=>∃ r lo hi,xs=[.ref r]/\H r=iE (qgY r lo hi)/\(qej lo hi/\hi - lo<=1000000)/\∀ p,H p=iG->Q (.ref p) (upd H p (.lst ((aE (hi - lo).toNat).map λk=>V.int (lo+(k:Nat)))))):=by
 intro pins s σ H xs us Q I r h;obtain ⟨a,lo,hi,rfl,g,z,q⟩:=h;obtain ⟨u,rfl,B⟩:=wf r;cases B;obtain ⟨t,u,v,f⟩:=(I.hok a _ g).1;have l:Builtin.Range.rangeSize lo hi 1=(((hi - lo).toNat:Nat):Int):=by rw [rangeSize_one]; split <;> lia
 refine call_list_range (n:=(hi - lo).toNat) (I.ok.hd d) f (small_one z.1.1.1 z.1.1.2 z.1.2.1 z.1.2.2) l (by lia) λh' tk acc c k hp b=>?_;refine ⟨.ref s.heap.objs.size,_,I.laid (t':=tk) (o:=.lst ((aE (hi - lo).toNat).map λk=>V.int (lo+(k:Nat)))) k (aA _) ⟨by rw [af,bK,iT]; lia,acc.toList,c,?_,by simpa using hp⟩,rfl,q _ (I.hok.fresh (aA _))⟩;refine qaw (by rw [af,bK,bp,b.1]) λj x w ex e=>?_;rw [aF] at ex;obtain ⟨k,i,rfl⟩:=aN.mp ex;obtain ⟨G,rfl⟩:=aD.mp i;obtain ⟨t,rfl⟩:=b.2 j w (by simpa using e);exact ⟨t,by simp⟩
noncomputable def kP:D->Out D
 | .int j=>if qej 0 j/\j - 0<=1000000 then .ok (.lst (zZ 0 (j - 0).toNat)) else .bad
 | _=>.bad
theorem Uo {K:Frag}:∀ l:List Nat,IsL K F (l.map λk=>V.int (lo+(k:Nat))) (l.map λk=>D.int (lo+(k:Nat)))
 | []=>.nil
 | k::l=>.cons (.int _) (Uo l)
theorem Jc {p p2 pos2:Pos} (n:X.calm=iJ) (hg:Gl X "list") (m:X.mg "list"=iG) (v:iO "list"=iE (.type "list")) (g:Gl X "range") (d:X.mg "range"=iG) (c:iO "range"=iE (.type "range")) (o:PE X e (tE C own ma fa))
  (i:iN [e] X.env=[(iI,eval e X.env)]:=by exact qE rfl) (b:iN [.Call (.Name "range" p2) [e] [] pos2] X.env=[(iI,eval (.Call (.Name "range" p2) [e] [] pos2) X.env)]:=by exact qE rfl) :
  PE X (.Call (.Name "list" p) [.Call (.Name "range" p2) [e] [] pos2] [] pos) (tE C own .fr (d1 kP fa)):=by
 refine jE (kZ (YS n) hg m v (qM (kZ qay g d c (qM o jB i) (by decide) (by decide) (by rw [i]; rfl) rfl) jB b) (by decide) (by decide) (by rw [b]; rfl) rfl) λσ H Q h=>?_;refine gJ (xI (ma:=ma) h) λx H1 ⟨s,F,dx,ex,A,tx,po⟩=>?_;cases ex;cases dx <;> try exact po.elim
 rename_i j;unfold kP at po;by_cases a:qej 0 j/\j - 0<=1000000
 ·simp only [Aa a] at po;obtain rfl:=tx.int;refine ⟨j,rfl,λq hq=>⟨q,0,j,rfl,qm,a,λl f=>?_⟩⟩;obtain ⟨s1,r,f1⟩:=jV (u:=qgY q 0 j) A hq;obtain ⟨s2,c2,f2⟩:=jV (u:=.lst ((aE (j - 0).toNat).map λk=>V.int (0+(k:Nat)))) s1 f;have t:H1 l=none:=by
   by_cases z:l=q;·rw [z] at f;rw [qm] at f;cases f
   ·rwa [qB z] at f
  exact po _ _ _ s2 (r.trans' c2) ⟨l,rfl,t,f2,_,qm,Uo _⟩
 ·simp only [Ab a] at po;exact po.elim
end
theorem qaz:iO "enumerate"=iE (.type "enumerate"):=by decide +kernel
noncomputable def zL (xs:List D):List D:=(xs.zipIdx).map λp=>.tup [.int (p.2:Nat),p.1]
noncomputable def ue (f:qY):wT:=λρ=>(f ρ).bind λp=>match p.1 with
 | .lst xs=>.ok (zL xs,p.2)
 | _=>.bad
mutual
def qig:Nat->Expr->Option D
 | 0,_=>iG
 | n+1,e=>match e with
  | .Constant c _ _=>match c with
   | .none=>iE .non
   | .bool b=>iE (.bl b)
   | .int i=>iE (.int i)
   | .str x=>if x.length<=sizeLine then iE (.str x) else iG
   | _=>iG
  | .UnaryOp .USub (.Constant (.int i) _ _) _=>iE (.int (-i))
  | .List es _=>(qgZ n es).bind λds=>if ds.length<=sizeLine then iE (.lst ds) else iG
  | .Tuple es _ _=>(qgZ n es).bind λds=>if ds.length<=sizeLine then iE (.tup ds) else iG
  | _=>iG
def qgZ:Nat->List Expr->Option (List D)
 | _,[]=>iE []
 | 0,_::_=>iG
 | n+1,e::es=>(qig n e).bind λd=>(qgZ n es).bind λds=>iE (d::ds)
end
theorem YT {α:Type}:∀ l:List α,((l.map λ_=>AK.vl).all λa=>decide (a=.vl))=iJ
 | []=>rfl
 | _::l=>by rw [aC,fQ,YT l]; rfl
theorem qaA {n:Nat} {e:Expr} {d:D} (h:qig n e=iE d):WU e=true:=by
 cases n with
 | zero=>cases h
 | succ n=>cases e <;> first | rfl | (simp [qig] at h)
section
variable {X:Cx} {C:Ct} {own:List Nat}
mutual
theorem qih:∀ (n:Nat) {e:Expr} {d:D},qig n e=iE d->PE X e (tE C own .sh (dC d))
 | 0,_,_,h=>by cases h
 | n+1,e,d,h=>by
  unfold qig at h;split at h
  ·split at h;·cases h; exact QS
   ·cases h; exact wY
   ·cases h; exact qp
   ·split at h;·rename_i z;cases h;exact wL z
    ·cases h
   ·cases h
  ·cases h;exact jE (qhF qec qp) λσ H Q h=>h
  ·obtain ⟨ds,h1,h2⟩:=b8.mp h;split at h2
   ·rename_i z;cases h2;have i:yd (λρ=>.ok (ds,ρ))=dC (.lst ds):=by funext ρ;unfold yd dC;rw [Out.oj,Aa z]
    rw [<-i];exact wX (jX (JY n h1) (YT _)) (by decide)
   ·cases h2
  ·obtain ⟨ds,h1,h2⟩:=b8.mp h;split at h2
   ·rename_i z;cases h2;have i:yP (λρ=>.ok (ds,ρ))=dC (.tup ds):=by funext ρ;unfold yP dC;rw [Out.oj,Aa z]
    rw [<-i];exact kM (JY n h1) (YT _)
   ·cases h2
  ·cases h
theorem JY:∀ (n:Nat) {es:List Expr} {ds:List D},qgZ n es=iE ds->PA X es (tAr C own (es.map λ_=>.vl) λρ=>.ok (ds,ρ))
 | 0,[],ds,h=>by cases h;exact qe
 | _+1,[],ds,h=>by cases h;exact qe
 | 0,_::_,ds,h=>by cases h
 | n+1,e::es,ds,h=>by unfold qgZ at h;obtain ⟨d,h1,h⟩:=b8.mp h;obtain ⟨f,h2,h⟩:=b8.mp h;cases h;have i:qc (dC d) (λρ=>.ok (f,ρ))=λρ=>.ok (d::f,ρ):=rfl;rw [<-i];exact qa (qih n h1) (JY n h2) (by decide) (jW (qaA h1))
end
theorem qfJ {es:List Expr} {ds:List D} {pos:Pos} (n:Nat) (h:qgZ n es=iE ds):PE X (.List es pos) (tE C own .fr (yd λρ=>.ok (ds,ρ))):=jX (JY n h) (YT _)
end
noncomputable def txI (i:Int):Str:=toString i
def CTx (i:Int):Prop:=i.natAbs.log2 < 1920/\(txI i).length<=sizeLine
instance:∀ i,Decidable (CTx i):=λi=>inferInstanceAs (Decidable (_/\_))
end L2.D2
namespace PySem
open Builtin Builtin.Str
end PySem
namespace L2.D2
open PySem PySem.Spec PyProof.Rows
def qmb (x y:Str):Prop:=(y.length == 0)=iI/\(Txt.split x y).length<=sizeLine/\∀ z∈Txt.split x y,z.length<=sizeLine
instance:∀ x y,Decidable (qmb x y):=λx y=>inferInstanceAs (Decidable (_/\_))
noncomputable def qj1:D->Bool
 | .str _=>iJ
 | _=>iI
variable {X:Cx} {C:Ct} {own:List Nat} {b:Expr} {m mb:Mo} {pos:Pos} {g:D->D->Out D}
section
variable {a:Expr} {fa fb:qY} {ma:Mo}
theorem qc7 {name:Str} {id:String} {apos cpos:Pos} (slot:Slot "str" name id) (d:typeOf (.builtin id)=pure (.type "method_descriptor")) (i:MtD X C m id g) (o:C.K=X.K)
  (l:PE X a (tE C own ma fa)) (j:PE X b (tE C own mb fb)) (f:ma≠.any:=by decide)
  (c:j0 a name X.env (eval a X.env)=eval a X.env:=by rfl)
  (w:((j6 cpos (iN [b] X.env)).all (λx=>!x.1)&&(lA cpos (j9 [] X.env)).all (λx=>x.1.isSome)
   && decide ([b].length+([]:List i9).length+(if ([]:List i9).isEmpty then 0 else 1) < 30))=true:=by exact kN rfl)
  (e:(apos.endLine == cpos.line)=true:=by rfl) (s:iN [b] X.env=[(iI,eval b X.env)]:=by exact qE rfl) :
  PE X (.Call (.Attribute a name apos) [b] [] cpos) (tE C own m (dM qj1 g fa fb)):=by
 refine jE (WP PySem.F.plainAttrs_str slot d i l (qM j jB s) c w e s rfl) λσ H Q h=>?_;obtain ⟨F,ρ,p,h⟩:=qau (ma:=ma) (mb:=mb) f h;refine ⟨F,ρ,p,Po.imp h λx H1 h1=>?_⟩;obtain ⟨⟨F1,dx,A,tx,k⟩,h2⟩:=h1;refine ⟨?_,?_⟩
 ·cases dx <;> try (cases k; done)
  obtain ⟨rfl,z⟩:=tx.str;rfl
 ·obtain ⟨n,ρ2,r,h2⟩:=h2;exact ⟨n,ρ2,r,Po.imp h2 λy H2 q=>⟨y,q.choose,q.choose_spec.choose,q.choose_spec.choose_spec.choose,rfl,q.choose_spec.choose_spec.choose_spec⟩⟩
end
inductive IntsAre:List iH->List Int->Prop
 | nil:IntsAre [] []
 | cons (y:Int) (t:Tok) {vs:List iH} {ys:List Int} (h:IntsAre vs ys):IntsAre (fE y t::vs) (y::ys)
theorem IntsAre.length:∀ {vs:List iH} {ys:List Int},IntsAre vs ys->vs.length=ys.length
 | _,_,.nil=>rfl
 | _,_,.cons _ _ h=>congrArg (·+1) h.length
theorem IntsAre.item:∀ {vs:List iH} {ys:List Int},IntsAre vs ys->∀ (i:Nat) (v:iH),vs[i]?=iE v->∃ y t,v=fE y t/\ys[i]?=iE y
 | _,_,.nil,i,v,e=>by simp at e
 | _,_,.cons y t h,0,v,e=>by simp at e; subst e; exact ⟨y,t,rfl,rfl⟩
 | _,_,.cons y t h,i+1,v,e=>by obtain ⟨z,t',e1,a⟩:=h.item i v (by simpa using e);exact ⟨z,t',e1,by simpa using a⟩
noncomputable def JZ:List D->Option (List Int)
 | []=>iE []
 | .int x::l=>(JZ l).map (x::·)
 | _::_=>iG
variable {K:Frag} {F:Hp}
theorem qfK {vs:List V} {us:List iH} {ds:List D} {ss:List Int} (a:IsL K F vs ds) (l:Vals vs us) (e:JZ ds=iE ss):IntsAre us ss:=by
 induction ds generalizing vs us ss with
 | nil=>cases a;cases l;cases e;exact .nil
 | cons d ds j=>
  cases a with
  | cons i a=>
   cases l with
   | cons r l=>
    cases d with
    | int x=>obtain ⟨sl,q,rfl⟩:=aN.mp (show (JZ ds).map (x::·)=iE ss from e);cases i;obtain ⟨t,rfl⟩:=r;exact .cons x t (j a l q)
    | _=>cases e
noncomputable def gN (x:Str):List V:=x.cps.toList.map λc=>.str ⟨#[c]⟩
theorem Jd:∀ (cs:List Nat) (us:List iH),us.length=cs.length->(∀ (j:Nat) (v:iH),us[j]?=iE v->∃ c u,cs[j]?=iE c/\v=bL ⟨#[c]⟩ u)->Vals (cs.map λc=>V.str ⟨#[c]⟩) us
 | [],[],_,_=>.nil
 | [],_::_,h,_=>by cases h
 | _::_,[],h,_=>by cases h
 | c::cs,u::us,h,k=>by obtain ⟨U,t,e1,i⟩:=k 0 u rfl;cases e1;refine .cons ⟨t,i⟩ (Jd cs us (by simpa using h) λj v e=>?_);simpa using k (j+1) v (by simpa using e)
variable {x:Str} {acc:Array iH}
theorem Zw (h:mH (SignAt x) acc x.cps.size):Vals (gN x) acc.toList:=by refine Jd _ _ (by simpa using h.1) λj v e=>?_;obtain ⟨c,u,e1,i⟩:=h.2 j v (by rw [<-bn]; exact e);exact ⟨c,u,by simpa using e1,i⟩
theorem qaB (x:Str):IsL K F (gN x) (wl x):=by
 unfold gN wl
 induction x.cps.toList with
 | nil=>exact .nil
 | cons c cs j=>exact .cons (.str (show 1<=sizeLine by rw [iT]; decide)) j
noncomputable def VQ:D->Out D
 | .str x=>.ok (.lst (wl x))
 | _=>.bad
section
theorem YU (d:X.calm=iJ):xH X C .fr (.type "list") VQ:=by
 intro pins s σ H xs us Q I r h;obtain ⟨x,F,dx,rfl,A,tx,po⟩:=h;cases dx with
 | str z=>
  obtain ⟨rfl,a⟩:=tx.str;obtain ⟨u,rfl,B⟩:=wf r;obtain ⟨t,rfl⟩:=B;have hl:(gN z).length=z.cps.size:=by simp [gN]
  have hq:H s.heap.objs.size=none:=I.hok.fresh (aA _);refine call_list_str (I.ok.hd d) z t (λh' tk acc n kp e it=>?_) a;have k:Inv X pins σ (upd H s.heap.objs.size (.lst (gN z))) { s with heap:=h',toks:=tk }:=
   I.laid (t':=tk) kp (aA _) ⟨by rw [hl]; exact a,acc.toList,n,Zw it,by simpa using e⟩
  obtain ⟨s2,c2,f2⟩:=jV (u:=.lst (gN z)) A hq;exact ⟨.ref s.heap.objs.size,_,k,rfl,po _ _ _ s2 c2 ⟨_,rfl,hq,f2,_,qm,qaB z⟩⟩
 | _=>exact po.elim
end
variable {i:Nat}
section
theorem vr (h:X.N[i]?=iE x:=by rfl) (c:Vis X.env.scope x:=by first | exact bE rfl | exact cP (bE rfl) | exact cP (cP rfl)) (l:i∉own:=by decide) (hd:Dbg x:=by decide) (d:Cdk x:=by decide):PE X (.Name x pos) (tE C own .sh (qd i)):=qhG h c l hd d
end
noncomputable def YV (n:Nat) (fw fx:qY):qR:=λρ=>(fw ρ).bind λp=>(fx p.2).bind λq=>match (q.2[n]?:Option (Option D)),q.1 with
 | some (iE (.lst ds)),.int k=>(match ixN ds.length k with | some j=>.ok (.nx,q.2.set n (iE (.lst (ds.set j p.1)))) | none=>.bad)
 | _,_=>.bad
variable {mx:Mo} {e:Expr} {apos cpos:Pos} {n:Nat}
section
variable {mo mw:Mo} {o w ix:Expr} {fe fo fw fx:qY} {p1 p2 p3:Pos}
theorem qaC (I:X.N[n]?=iE x) (G:Vis X.env.scope x) (l:n∈own) (E:PE X w (tE C own mw fw)) (hx:PE X ix (tE C own mx fx)) (e:mw≠.any:=by decide)
  (hd:Dbg x:=by decide) (p:Cdk x:=by decide)
  (g:∀ v,assign (.Subscript (.Name x p1) ix p2) X.env v=(do
   let ov <-holding [v] (eval (.Name x p1) X.env)
   let i <-holding [v,ov] (eval ix X.env)
   standAt p2
   holding [v,ov,i] (setItem ov i v)
   release [v,ov,i] []):=by intro _; rfl)
  (y:swapsWithSole [.Subscript (.Name x p1) ix p2] w p3.line X.env=pure false:=by rfl) (t:swappedStores [.Subscript (.Name x p1) ix p2] w X.env=pure none:=by rfl)
  (s:(lg [.Subscript (.Name x p1) ix p2] X.env).map (·.2)=[assign (.Subscript (.Name x p1) ix p2) X.env]:=by rfl) :
  PS X (.Assign [.Subscript (.Name x p1) ix p2] w p3) (tSt C own own (YV n fw fx)):=by
 refine QD (qd4 (wX E e) (qhh (wK I G hd p) hx qcu g) y t s) λU σ H ⟨F,ρ,D,h⟩=>⟨F,ρ,D,PoS.bindE h λv F1 H1 d ρ1 b S c h1=>?_⟩
 have c:Is C.K F1 v d:=c;obtain ⟨M,o⟩:=b.opn n l;obtain ⟨a,e1,R,Q⟩:=b.ow n M l o;refine ⟨_,e1,F1,ρ1,b,PoS.bindE h1 λi P H2 L ρ2 r c2 m h2=>?_⟩;obtain ⟨d2,hd2⟩:=r.opn n l;obtain ⟨T,B,J,o2⟩:=r.ow n d2 l hd2;rw [e1] at B;cases B;simp only [hd2] at h2;cases d2 with
 | lst ds=>
  cases L with
  | int k=>
   have f:=m.top.int;subst f;obtain ⟨xs,ex,A⟩:=o2;cases q:ixN ds.length k with
   | none=>simp only [q] at h2; exact h2.elim
   | some j=>simp only [q] at h2;obtain ⟨r3,O⟩:=r.write (u:=.lst (xs.set j v)) (d:=.lst (ds.set j d)) l e1 ⟨_,qm,A.set (c.mono c2.grow) j⟩;exact ⟨a,xs,k,j,rfl,rfl,ex,by rw [A.length]; exact q,h2 σ P _ ⟨r3,O,λ_ z=>.inl z,λ_ _=>rfl⟩⟩
  | _=>exact h2.elim
 | _=>exact h2.elim
end
theorem gO (ks:List Int):∀ n,n<=ks.length->preSum (λi=>ks.getD i 0) n=(ks.take n).sum
 | 0,_=>rfl
 | n+1,h=>by
  have j:=gO ks n (by lia);show preSum (λi=>ks.getD i 0) n+ks.getD n 0=_;rw [j,List.take_add_one,hJ];have:ks[n]?=iE (ks.getD n 0):=by rw [dB,aw (by lia)]; rfl
  rw [this];simp
theorem qek:∀ (ks:List Int),(ks.all λk=>decide (0<=k/\k<=100000))=iJ->0<=ks.sum/\ks.sum<=100000 * ks.length
 | [],_=>by simp
 | k::ks,h=>by rw [fQ,aS] at h;have h1:=Ae h.1;have j:=qek ks h.2;rw [List.sum_cons,aq];omega
section
variable {ix:Expr} {fb:qY} {px:Pos}
noncomputable def d2O (i:Nat) (g:D->D->Out D) (fb:qY):qY:=λρ=>(fb ρ).bind λq=>match (q.2[i]?:Option (Option D)) with
 | some (iE d)=>(g d q.1).plain.bind λr=>.ok (r,q.2)
 | _=>.bad
theorem qaD {σ:St} {H:Hp} {Q:VK} (l:i∈own) (h:tE C own m (d2O i g fb) σ H Q):qlk i σ H λx H1=>tE C own mb fb σ H1 λy H2=>∃ F dx f,Same F H2/\TopIs C.K F H2 x dx/\TopIs C.K F H2 y f/\PoV C m F H2 (g dx f) Q:=by obtain ⟨F,ρ,p,h⟩:=h;obtain ⟨A,b⟩:=p.opn i l;obtain ⟨a,e1,E,k⟩:=p.ow i A l b;refine ⟨_,e1,F,ρ,p,Po.bind h λv F1 H1 d ρ1 r n c h1=>?_⟩;obtain ⟨d1,D⟩:=r.opn i l;obtain ⟨t,e,j,o1⟩:=r.ow i d1 l D;rw [e1] at e;cases e;simp only [D] at h1;exact ⟨F1,d1,d,r.sub,.inr ⟨a,rfl,o1⟩,c.top,PoV.of r h1⟩
theorem qc8 {op:CmpOp} (e:X.N[i]?=iE x) (c:Vis X.env.scope x) (l:i∈own) (p:OpD X C .sh (iS op) g) (a:PE X b (tE C own mb fb))
  (hd:Dbg x:=by decide) (d:Cdk x:=by decide) (k:lC op b=false:=by first | exact Gq _ | with_unfolding_all rfl):PT X (.Compare (.Name x px) [op] [b] pos) (tT C own (qL (d2O i g fb))):=by
 refine GG (Gr p (wK e c hd d) a k) λσ H Q h=>?_;exact qaD l (WW h)
theorem qii (o:C.K=X.K) (t:X.A.units+64 < k7) (n:X.N[i]?=iE x) (g:Vis X.env.scope x) (l:i∈own) (m:PE X b (tE C own mb fb)) (j:JG b)
  (hd:Dbg x:=by decide) (e:Cdk x:=by decide):PE X (.Subscript (.Name x px) b pos) (tE C own .sh (d2O i ixD fb)):=by
 refine jE (qhu (qd8 (by lia)) (wK n g hd e) m j) λσ H Q h=>?_;obtain ⟨v,e1,F,ρ,f,h⟩:=qaD (mb:=mb) l h;refine ⟨v,e1,F,ρ,f,?_⟩;cases d:fb ρ with
 | ok p=>rw [d] at h;obtain ⟨d',k⟩:=p;intro w u q r J a;obtain ⟨M,dx,y,s,tx,ty,po⟩:=h w u q r J a;exact qd9 (σ:=σ) o s tx ty po
 | exc c=>rw [d] at h; exact h
 | bad=>rw [d] at h; exact h.elim
end
section
variable {prog:iQ} {w:iR} {A:iX} {E:iH->iK->Prop} {s:iK}
theorem qfL {T:String} {name:Str} {id:String} {B:Builtin} {self:iH} {rest:List iH} {m:Made} {Q:iH->iK->Prop}
  (slot:Slot T name id) (a:s.TypeIs self T) (y:mK table id=iE B) (args:argsOk id ⟨self::rest,[]⟩) (g:Gives (B ⟨self::rest,[]⟩) m) (h:m.post Q s) :
  iM (model prog w) A (call (.builtin id) (self::rest)) Q E s:=
 wpAny_call (codeAny_call_builtin slot.plain y (slot.check _ _ _ _ _ _ _ _ a args
  (g prog w A (λr s'=>match r with | .ok (.ret v)=>Q v s' | .ok _=>False | .error e=>E e s') s h)))
noncomputable def wn (x:Str):List Str:=x.cps.toList.map λc=>⟨#[c]⟩
theorem Je:∀ (cs:List Nat) (us:List iH),us.length=cs.length->(∀ (j:Nat) (v:iH),us[j]?=iE v->∃ c u,cs[j]?=iE c/\v=bL ⟨#[c]⟩ u)->lX us (cs.map λc=>(⟨#[c]⟩:Str))
 | [],[],_,_=>.nil
 | [],_::_,h,_=>by cases h
 | _::_,[],h,_=>by cases h
 | c::cs,u::us,h,k=>by obtain ⟨U,t,e1,i⟩:=k 0 u rfl;cases e1;rw [i];refine .cons _ t (Je cs us (by simpa using h) λj v e=>?_);simpa using k (j+1) v (by simpa using e)
theorem Zx (h:mH (SignAt x) acc x.cps.size):lX acc.toList (wn x):=by refine Je _ _ (by simpa using h.1) λj v e=>?_;obtain ⟨c,u,e1,i⟩:=h.2 j v (by rw [<-bn]; exact e);exact ⟨c,u,by simpa using e1,i⟩
theorem Zy {t:Tok} {Q:iH->iK->Prop} (n:A.handled=iG) (j:x.length < 64)
  (q:∀ (h1 h':Heap) tk vs e f,(∀ b o,s.heap.get? b=iE o->h1.get? b=iE o)->(∀ b o,h1.get? b=iE o->h'.get? b=iE o)->h'.get? h1.objs.size=iE (lT "list" vs e)->lX vs.toList f->f.Perm (wn x)->sortedS f=iJ->Q (.ref h1.objs.size) { s with heap:=h',toks:=tk }) :
  iM (model prog w) A (call (.builtin "sorted") [.str x t]) Q E s:=by
 refine dH kind_sorted plain_sorted entry_sorted (args_sorted1 _) ?_; unfold Builtin.«sorted»;refine iF (m:=checkCount "sorted" 1 1 _) (iL ?_);refine iF (wpAny_collect_str (A:=A.in1) (show A.in1.handled=iG from n) x t (λs' acc k1 e1 i h hi=>?_) (by rw [iT]; exact bI (cU j) (by decide)));obtain ⟨h1,g',d',a,d⟩:=s';have e1:g'=s.gens:=e1;have i:d'=s.drawn:=i;have h:d=s.os:=h;subst e1 i h;have c:=Zx hi;have hl:acc.toList.length < 64:=by rw [c.length];unfold wn;rw [af,bp];exact j
 refine iF (wpAny_newList ?_ (by rw [iT]; lia));have Y:(h1.push (lT "list" acc.toList.toArray 0)).get? h1.objs.size=iE (lT "list" acc.toList.toArray 0):=ao _ rfl;refine iF (iW (iV slot_list_sort (s:={ s with heap:=h1.push (lT "list" acc.toList.toArray 0),toks:=a }) ⟨_,Y,rfl⟩ entry_list_sort (list_sort_treeK strKind_oneLt Y c.keysOf (λv₁ k rest e=>keyKind_strs (by rw [<-e]; exact c)) hl λg z y=>⟨_,rfl,?_⟩) (args_list_sort _)));obtain ⟨f,v,u,r⟩:=sorted_out_str c z y;obtain ⟨e,p⟩:=sortedHeap_at (out:=(arrOf g).map (·.2)) Y;refine iL ⟨_,rfl,q h1 _ a _ e f k1 (λb o J=>?_) p v u r⟩;have l:=ay J;rw [sortedHeap_old (aG l) (by rw [bh]; exact df l)];exact aa _ J
end
noncomputable def gb:D->Out D
 | .str x=>if x.length < 64 then .ok (.lst ((kc (wn x)).map D.str)) else .bad
 | _=>.bad
noncomputable def gP:D->D->Out D
 | .str x,.str y=>match cQ x y 0 x.length 1 with
  | i::_=>.ok (.int i)
  | []=>.bad
 | _,_=>.bad
section
variable {a:Expr} {fa fb:qY} {ma:Mo}
theorem gQ {z:Str} (h:∃ t,X.mg x=iE (.str z t)) (hg:Gl X x) (a:z.length<=sizeLine:=by decide) (hd:Dbg x:=by decide):PE X (.Name x pos) (tE C own .sh (dC (.str z))):=by obtain ⟨t,h⟩:=h;exact GH (v:=.str z) hg h ⟨t,rfl⟩ (λ_=>.str a) hd
theorem Zz (g:X.calm=iJ):xH X C .fr (.builtin "sorted") gb:=by
 intro pins s σ H xs us Q I r h;obtain ⟨x,F,dx,rfl,A,tx,po⟩:=h;obtain ⟨u,rfl,B⟩:=wf r;cases dx with
 | str z=>
  obtain ⟨rfl,b⟩:=tx.str;obtain ⟨t,rfl⟩:=B;have po:PoV C .fr F H (if z.length < 64 then .ok (.lst ((kc (wn z)).map D.str)) else .bad) Q:=po;by_cases hl:z.length < 64
  ·rw [Aa hl] at po;refine Zy (I.ok.hd g) hl λh1 h' tk vs e f k1 k2 hp st pm so=>?_;rw [gI pm so] at st;have d:Inv X pins σ H { s with heap:=h1,toks:=tk }:=I.kept (t':=tk) k1;have b:(kc (wn z)).length<=sizeLine:=by rw [(qF _).length_eq,iT];unfold wn;rw [af,bp];exact bI (cU hl) (by decide)
   have hq:H h1.objs.size=none:=d.hok.fresh (aA _);obtain ⟨s2,c2,f2⟩:=jV (u:=.lst ((kc (wn z)).map V.str)) A hq;exact ⟨.ref h1.objs.size,_,d.laid (t':=tk) (o:=.lst ((kc (wn z)).map V.str)) k2 (aA _) ⟨by rw [af]; exact b,vs.toList,e,xa st,by simpa [lT] using hp⟩,rfl,po _ _ _ s2 c2 ⟨_,rfl,hq,f2,_,qm,xb λy a=>by have:=(qF _).mem_iff.mp a;unfold wn at this;obtain ⟨c,_,rfl⟩:=ah.mp this;show 1<=sizeLine;rw [iT];decide⟩⟩
  ·rw [Ab hl] at po; exact po.elim
 | _=>exact po.elim
theorem qaE:MtD X C .sh "str.index" gP:=by
 intro pins s σ H x vs v us Q I d r h;obtain ⟨y,F,dx,f,rfl,A,tx,ty,po⟩:=h;obtain ⟨u,rfl,B⟩:=r.one;cases dx <;> try exact po.elim
 rename_i a;cases f <;> try exact po.elim
 rename_i b;obtain ⟨rfl,e⟩:=tx.str;obtain ⟨rfl,c⟩:=ty.str;obtain ⟨t,rfl⟩:=d;obtain ⟨t',rfl⟩:=B;have po:PoV C .sh F H (match cQ a b 0 a.length 1 with | i::_=>.ok (.int i) | []=>.bad) Q:=po;cases l:cQ a b 0 a.length 1 with
 | nil=>rw [l] at po; exact po.elim
 | cons i rest=>rw [l] at po;exact qfL PySem.F.slot_str_index (typeIs_str _ _ _) PySem.F.entry_str_index (PySem.F.args_str_index_2 _ _) (gives_str_index a b t t' i rest l) ⟨.int i,H,I.tok _,⟨_,rfl⟩,po _ F H A .refl (.int i)⟩
theorem qaF:wU X (.type "range") (λxs H Q=>∃ i j:Int,xs=[.int i,.int j]/\∀ p,H p=iG->Q (.ref p) (upd H p (qgY p i j))):=by
 intro pins s σ H xs us Q I r h;obtain ⟨i,j,rfl,q⟩:=h;cases r with
 | cons m a=>obtain ⟨t,rfl⟩:=m;obtain ⟨u,rfl,B⟩:=wf a;obtain ⟨t',rfl⟩:=B;exact call_range_2 ⟨.ref s.heap.objs.size,_,I.laid (t':=s.toks+1) (λb o e=>aa _ e) (aA _) (qax (iu ..)),rfl,q _ (I.hok.fresh (aA _))⟩
noncomputable def gR:D->D->Out D
 | .int i,.int j=>if qej i j/\j - i<=1000000 then .ok (.lst (zZ i (j - i).toNat)) else .bad
 | _,_=>.bad
theorem Up {p p2 pos2:Pos} {a:Expr} (w:X.calm=iJ) (hg:Gl X "list") (s:X.mg "list"=iG) (v:iO "list"=iE (.type "list")) (r:Gl X "range") (o:X.mg "range"=iG) (m:iO "range"=iE (.type "range")) (D:PE X e (tE C own ma fa)) (B:PE X a (tE C own mb fb)) (n:ma≠.any:=by decide)
  (d:iN [a] X.env=[(iI,eval a X.env)]:=by exact qE rfl) (b:iN [e,a] X.env=[(iI,eval e X.env),(iI,eval a X.env)]:=by rfl) (c:iN [.Call (.Name "range" p2) [e,a] [] pos2] X.env=[(iI,eval (.Call (.Name "range" p2) [e,a] [] pos2) X.env)]:=by exact qE rfl) :
  PE X (.Call (.Name "list" p) [.Call (.Name "range" p2) [e,a] [] pos2] [] pos) (tE C own .fr (d2 gR fa fb)):=by
 refine jE (kZ (YS w) hg s v (qM (kZ qaF r o m (qM D (qM B jB d) (by rw [b,d])) (by decide) (by decide) (by rw [b,d]) (by rw [d]; rfl)) jB c) (by decide) (by decide) (by rw [c]; rfl) rfl) λσ H Q h=>?_;refine gJ (JT (ma:=ma) (mb:=mb) n h) λx H0 E=>gJ E λy H1 ⟨K,J,F,dx,G,ex,A,tx,ty,po⟩=>?_;cases ex;cases dx <;> try exact po.elim
 rename_i i;cases G <;> try exact po.elim
 rename_i j;unfold gR at po;by_cases g:qej i j/\j - i<=1000000
 ·simp only [Aa g] at po;obtain rfl:=tx.int;obtain rfl:=ty.int;refine ⟨i,j,rfl,λq hq=>⟨q,i,j,rfl,qm,g,λl f=>?_⟩⟩;obtain ⟨s1,I,f1⟩:=jV (u:=qgY q i j) A hq;obtain ⟨s2,c2,f2⟩:=jV (u:=.lst ((aE (j - i).toNat).map λk=>V.int (i+(k:Nat)))) s1 f;have t:H1 l=none:=by
   by_cases z:l=q;·rw [z] at f;rw [qm] at f;cases f
   ·rwa [qB z] at f
  exact po _ _ _ s2 (I.trans' c2) ⟨l,rfl,t,f2,_,qm,Uo _⟩
 ·simp only [Ab g] at po;exact po.elim
end
section
variable {G:jD} {mr:Mo} {p:Pos} {ps:List Str} {k j:Nat} {cv:Str->iH}
theorem qaG (F:Zk X.prog X.w X.K X.mg X.base cv j x ps [] mr G) (r:Room k X.A) (e:j<=k) (hx:yI (CXk X.prog X.w) X C.E) (hg:Gl X x) (v:C.cv=cv:=by rfl) (n:C.K=X.K:=by rfl) (o:∀ i∈C.ox,i∈own:=by exact wW rfl)
  (b:Dbg x:=by decide):PE X (.Call (.Name x p) [] [] pos) (tE C own mr (ql [] G qx)):=by
 subst v;obtain ⟨f,fd,F,c,d,g⟩:=F;rw [<-n] at F;refine jE (qcs (E:=C.E) (F:=by rw [<-n]; exact F) (r.mono e) hg c d g .nil hx b) λσ H Q h=>?_;obtain ⟨F,ρ,a,h⟩:=GV (as:=[]) o (λi hi=>nomatch hi) (by decide) (by decide) h;exact h [] F H a .refl trivial
end
noncomputable def gS (n:Nat) (fw fx:qY):qR:=λρ=>(fw ρ).bind λp=>(fx p.2).bind λq=>match (q.2[n]?:Option (Option D)) with
 | some (iE (.dct kvs))=>(match QG q.1 with
  | some k=>if kvs.length < sizeLine then .ok (.nx,q.2.set n (iE (.dct (vX kvs k p.1)))) else .bad
  | none=>.bad)
 | _=>.bad
section
variable {w ix:Expr} {fw fx:qY} {mw:Mo} {p1 p2 p3:Pos}
theorem gc (P:X.A.units+64 < k7) (D:X.N[n]?=iE x) (y:Vis X.env.scope x) (l:n∈own) (t:PE X w (tE C own mw fw)) (hx:PE X ix (tE C own mx fx)) (f:mw≠.any:=by decide)
  (hd:Dbg x:=by decide) (j:Cdk x:=by decide) (B:lB w (iE (.Subscript (.Name x p1) ix p2)) p3.line X.env=pure false:=by rfl) :
  PS X (.Assign [.Subscript (.Name x p1) ix p2] w p3) (tSt C own own (gS n fw fx)):=by
 refine QD (qff (by lia) (wK D y hd j) hx (wX t f) B) λU σ H ⟨F,ρ,s,h⟩=>⟨F,ρ,s,PoS.bindE h λv F1 H1 d ρ1 b R c h1=>?_⟩
 have c:Is C.K F1 v d:=c;obtain ⟨E,i⟩:=b.opn n l;obtain ⟨a,e1,Q,M⟩:=b.ow n E l i;refine ⟨_,e1,F1,ρ1,b,PoS.bindE h1 λO I H2 L ρ2 r c2 m h2=>?_⟩;obtain ⟨d2,hd2⟩:=r.opn n l;obtain ⟨S,p,J,o2⟩:=r.ow n d2 l hd2;rw [e1] at p;cases p;simp only [hd2] at h2;cases d2 with
 | dct kvs=>
  cases q:QG L with
  | none=>simp only [q] at h2; exact h2.elim
  | some k=>
   simp only [q] at h2;have g:=qjS m.top q;subst g;obtain ⟨kv,ex,o⟩:=o2;by_cases e:kvs.length < sizeLine;·simp only [Aa e] at h2;obtain ⟨r3,G⟩:=r.write (u:=.dK (zU kv k v)) (d:=.dct (vX kvs k d)) l e1 ⟨_,qm,o.put (c.mono c2.grow)⟩;exact ⟨a,_,rfl,DPut.k ex (by rw [o.length]; exact e),h2 σ I _ ⟨r3,G,λ_ z=>.inl z,λ_ _=>rfl⟩⟩
   ·simp only [Ab e] at h2; exact h2.elim
 | _=>exact h2.elim
end
noncomputable def qaH (i:Nat):qY:=λρ=>match (ρ[i]?:Option (Option D)) with
 | some (iE (.lst (d::es)))=>.ok (d,ρ.set i (iE (.lst es)))
 | _=>.bad
section
variable {px:Pos}
theorem qfM:MtR X "list.pop" (λx vs H Q=>∃ l v xs,x=.ref l/\vs=[.int 0]/\H l=iE (.lst (v::xs))/\Q v (upd H l (.lst xs))):=by intro pins s σ H x vs v us Q I d r h;obtain ⟨l,y,xs,rfl,rfl,b,q⟩:=h;exact Yq pins s σ H _ _ v us Q I d r ⟨l,_,0,0,y,rfl,rfl,b,by decide,by decide,by simp [my],rfl,q⟩
theorem qfN {j:Nat} {p:Pos} (m:X.N[i]?=iE x) (g:Vis X.env.scope x) (o:i∈own) (hd:Dbg x:=by decide) (f:Cdk x:=by decide)
  (b:j0 (.Name x px) "pop" X.env (eval (.Name x px) X.env)=eval (.Name x px) X.env:=by rfl) (e:(apos.endLine == cpos.line)=true:=by rfl)
  (w:((j6 cpos (iN [.Constant (.int 0) j p] X.env)).all (λx=>!x.1)&&(lA cpos (j9 [] X.env)).all (λx=>x.1.isSome)
   && decide ([Expr.Constant (.int 0) j p].length+([]:List i9).length+(if ([]:List i9).isEmpty then 0 else 1) < 30))=true:=by exact kN rfl)
  (s:iN [.Constant (.int 0) j p] X.env=[(iI,eval (.Constant (.int 0) j p) X.env)]:=by exact qE rfl) :
  PE X (.Call (.Attribute (.Name x px) "pop" apos) [.Constant (.int 0) j p] [] cpos) (tE C own .sh (qaH i)):=by
 refine jE (WP b9 PySem.F.slot_list_pop PySem.F.type_list_pop qfM (wK m g hd f) (qM qd2 jB s) b w e s rfl) λσ H Q ⟨F,ρ,r,h⟩=>?_;obtain ⟨A,c⟩:=r.opn i o;obtain ⟨a,e1,E,k⟩:=r.ow i A o c;unfold qaH at h;simp only [c] at h;cases A with
 | lst es=>
  cases es with
  | nil=>exact h.elim
  | cons d es=>
   obtain ⟨xs,ex,l⟩:=k;cases l with
   | cons v l=>refine ⟨_,e1,.inl ⟨rfl,_,.inl (.inl ex)⟩,?_⟩;obtain ⟨r2,J⟩:=r.write (u:=.lst _) (d:=.lst es) o e1 ⟨_,qm,l⟩;exact ⟨a,_,_,rfl,rfl,ex,h _ F _ r2 J v⟩
 | _=>exact h.elim
end
noncomputable def qj2 (kvs:List (Key×D)) (k:Key) (d:D):D:=match kvs.find? λkv=>decide (kv.1=k) with
 | some kv=>kv.2
 | none=>d
noncomputable def qc9 (fo fe ff:qY):qY:=λρ=>(fo ρ).bind λp=>if (match p.1 with | .dct _=>iJ | _=>iI)=iJ then (fe p.2).bind λq=>(ff q.2).bind λr=>(match p.1 with
 | .dct kvs=>(match QG q.1 with
  | some k=>.ok (qj2 kvs k r.1,r.2)
  | none=>.bad)
 | _=>.bad) else .bad
theorem IsK.miss {k:Key}:∀ {vs:List (Key×V)} {ds:List (Key×D)},IsK K F vs ds->(ds.find? λkv=>decide (kv.1=k))=iG->WR vs k=iG
 | _,_,.nil,e=>rfl
 | _,_,.cons (k:=k') (vs:=vs) h t,e=>by
  by_cases q:k'=k;·rw [bx (by simp [q])] at e;cases e
  ·rw [bg (by simp [q])] at e;rw [yM q];exact IsK.miss t e
section
variable {o f:Expr} {fo fe ff:qY} {me mf:Mo}
theorem qfO (Z:X.A.units+64 < k7) (P:PE X o (tE C own .sh fo)) (T:PE X e (tE C own me fe)) (S:PE X f (tE C own mf ff)) (D:mf≠.any:=by decide) (R:me≠.any:=by decide)
  (j:j0 o "get" X.env (eval o X.env)=eval o X.env:=by rfl)
  (n:((j6 cpos (iN [e,f] X.env)).all (λx=>!x.1)&&(lA cpos (j9 [] X.env)).all (λx=>x.1.isSome)
   && decide (([e,f]:List Expr).length+([]:List i9).length+(if ([]:List i9).isEmpty then 0 else 1) < 30))=true:=by exact kN rfl)
  (g:(apos.endLine == cpos.line)=true:=by rfl) (B:j6 cpos (iN [e,f] X.env)=[(iI,eval e X.env),(iI,eval f X.env)]:=by rfl) :
  PE X (.Call (.Attribute o "get" apos) [e,f] [] cpos) (tE C own .sh (qc9 fo fe ff)):=by
 refine jE (qcz (by lia) P T (wX S D) ⟨j,n,g,B⟩) λσ H Q ⟨F,ρ,M,h⟩=>?_;refine ⟨F,ρ,M,Po.bind h λv F1 H1 d ρ1 r c1 b h1=>?_⟩;have b:Is C.K F1 v d:=b;cases d with
 | dct kvs=>
  simp only [if_true] at h1;cases b with
  | dct G N=>
   rename_i a kv;refine ⟨a,rfl,.inl ⟨kv,.inl (r.sub _ _ G)⟩,F1,ρ1,r,Po.bind h1 λy Y H2 W ρ2 s c2 t h2=>?_⟩;refine ⟨Y,ρ2,s,Po.bind h2 λz u I V L c J m i=>?_⟩;have m:Is C.K u z V:=m;cases q:QG W with
   | none=>simp only [q] at i; exact i.elim
   | some k=>
    simp only [q] at i;have O:=qjS t.top q;subst O;have E:u a=iE (.dK kv):=J.grow _ _ (c2.grow _ _ G);have l:IsK C.K u kv kvs:=(N.mono c2.grow).mono J.grow;refine ⟨WR kv k,.inl ⟨kv,k,.inl (c.sub _ _ E),rfl,rfl⟩,?_⟩;unfold qj2 at i;cases p:kvs.find? λkv=>decide (kv.1=k) with
    | none=>simp only [p] at i;rw [l.miss p];exact i z u I c .refl m
    | some kd=>simp only [p] at i;obtain ⟨w,e1,U⟩:=l.find p;rw [e1];exact i w u I c .refl U
 | _=>exact h1.elim
end
end L2.D2
namespace L2.D2
open PySem PySem.Spec PyProof.Rows PySem.W
section
variable {prog:iQ} {w:iR} {A:iX} {E:iH->iK->Prop} {s:iK} {T:String} {r d:Addr} {n:Nat} {P:Nat->iH->Prop} {OK:Heap->Prop}
theorem qaI {Q:List iH->iK->Prop} (K:KdlSrc prog w T r d n P OK) (g:A.handled=iG) (hok:OK s.heap) (f:n<=sizeLine)
  (i:∀ h' tk acc,(∀ b o,s.heap.get? b=iE o->h'.get? b=iE o)->mH P acc n->Q acc.toList { s with heap:=h',toks:=tk }):iM (model prog w) A (collect (.ref r)) Q E s:=by
 unfold collect;refine iF (wpAny_runValue (i4 F.entry_proto_collect ?_));rw [ba F.plain_proto_collect _];show iM _ A.in1 (newList [] >>= λl=>again (.builtin "list.__iadd__" ⟨[l,.ref r],[]⟩)) _ _ s;refine iF (iY ?_);refine iL ⟨lf F.plain_list_iadd _,i4 F.entry_list_iadd ?_⟩;rw [ba F.plain_list_iadd _];have t:=K.there _ hok;have S:(s.heap.push { cls:=.type "list",data:=.seq ([]:List iH).toArray }).get? s.heap.objs.size=iE { cls:=.type "list",data:=.seq ([]:List iH).toArray }:=ao _ rfl;show iM _ A.in1 (bj (.ref s.heap.objs.size) (.ref r) (.ref s.heap.objs.size)) _ _ _;refine kdl_extend (R:=λr s'=>match r with
  | .ok (.ret v)=>iM (model prog w) A (match v with
   | .ref a=>do
    let o <-load a
    match o.data with
     | .seq xs _=>pure xs.toList
     | _=>unsupported "internal:collect"
   | _=>unsupported "internal:collect") Q E s'
  | .ok _=>False
  | .error e=>E e s') (s:={ s with heap:=s.heap.push { cls:=.type "list",data:=.seq ([]:List iH).toArray } }) K g (K.keep _ _ hok λb _ o e=>aa _ e) _ (bQ t.1) (bQ t.2) _ 0 S (λh' tk c U k B h=>?_) f
 show iM _ A (load s.heap.objs.size >>= _) _ _ _;refine iF (wpAny_load B ?_);exact iL (i h' tk c (λb o e=>k b o (aG (ay e)) (aa _ e)) h)
theorem qaJ:∀ (ss:List Str) (us:List iH),us.length=ss.length->(∀ (j:Nat) (v:iH),us[j]?=iE v->∃ x t,ss[j]?=iE x/\v=bL x t)->lX us ss
 | [],[],_,_=>.nil
 | [],_::_,h,_=>by cases h
 | _::_,[],h,_=>by cases h
 | x::ss,u::us,h,k=>by obtain ⟨n,t,e1,i⟩:=k 0 u rfl;cases e1;rw [i];refine .cons _ t (qaJ ss us (by simpa using h) λj v e=>?_);simpa using k (j+1) v (by simpa using e)
theorem qda {ss:List Str} {Q:iH->iK->Prop} (K:KdlSrc prog w T r d n P OK) (l:A.handled=iG) (hok:OK s.heap) (h:∀ acc:Array iH,mH P acc n->lX acc.toList ss) (j:ss.length < 64) (i:n<=sizeLine)
  (q:∀ (h1 h':Heap) tk vs e f,(∀ b o,s.heap.get? b=iE o->h1.get? b=iE o)->(∀ b o,h1.get? b=iE o->h'.get? b=iE o)->h'.get? h1.objs.size=iE (lT "list" vs e)->lX vs.toList f->f.Perm ss->sortedS f=iJ->Q (.ref h1.objs.size) { s with heap:=h',toks:=tk }) :
  iM (model prog w) A (call (.builtin "sorted") [.ref r]) Q E s:=by
 refine dH kind_sorted plain_sorted entry_sorted (args_sorted1 _) ?_; unfold Builtin.«sorted»;refine iF (m:=checkCount "sorted" 1 1 _) (iL ?_);refine iF (qaI (A:=A.in1) K (show A.in1.handled=iG from l) hok i λh1 tk acc k1 hi=>?_);have c:=h acc hi;have hl:acc.toList.length < 64:=by rw [c.length]; exact j
 refine iF (wpAny_newList ?_ (by rw [iT]; lia));have Y:(h1.push (lT "list" acc.toList.toArray 0)).get? h1.objs.size=iE (lT "list" acc.toList.toArray 0):=ao _ rfl;refine iF (iW (iV slot_list_sort (s:={ s with heap:=h1.push (lT "list" acc.toList.toArray 0),toks:=tk }) ⟨_,Y,rfl⟩ entry_list_sort (list_sort_treeK strKind_oneLt Y c.keysOf (λv₁ k rest e=>keyKind_strs (by rw [<-e]; exact c)) hl λg y v=>⟨_,rfl,?_⟩) (args_list_sort _)));obtain ⟨f,u,t,x⟩:=sorted_out_str c y v;obtain ⟨e,p⟩:=sortedHeap_at (out:=(arrOf g).map (·.2)) Y;refine iL ⟨_,rfl,q h1 _ tk _ e f k1 (λb o J=>?_) p u t x⟩;have a:=ay J;rw [sortedHeap_old (aG a) (by rw [bh]; exact df a)];exact aa _ J
end
variable {α:Type}
noncomputable def Uq:List (Key×α)->Option (List Str)
 | []=>iE []
 | (.inr x,_)::l=>(Uq l).map (x::·)
 | (.inl _,_)::_=>iG
theorem YW:∀ {l:List (Key×α)} {ss:List Str},Uq l=iE ss->l.map (·.1)=ss.map aU
 | [],ss,h=>by cases h; rfl
 | (.inr x,_)::l,ss,h=>by obtain ⟨f,e,rfl⟩:=aN.mp (show (Uq l).map (x::·)=iE ss from h);rw [aC,aC,YW e]
 | (.inl _,_)::_,ss,h=>by cases h
theorem IsK.keys {K:Frag} {F:Hp}:∀ {kv:List (Key×V)} {ks:List (Key×D)},IsK K F kv ks->kv.map (·.1)=ks.map (·.1)
 | _,_,.nil=>rfl
 | _,_,.cons h t=>by rw [aC,aC,IsK.keys t]
theorem KV.keys:∀ {kv:List (Key×V)} {vs:List (Key×iH)},KV kv vs->kv.map (·.1)=vs.map (·.1)
 | _,_,.nil=>rfl
 | _,_,.cons h t=>by rw [aC,aC,h.1,KV.keys t]
noncomputable def wo:D->Out D
 | .dct kvs=>(match Uq kvs with
  | some ss=>if ss.length < 64/\(ss.all λy=>decide (y.length<=sizeLine))=iJ then .ok (.lst ((kc ss).map D.str)) else .bad
  | none=>.bad)
 | _=>.bad
section
variable {X:Cx} {C:Ct} {own:List Nat} {e:Expr} {fa:qY} {ma:Mo} {pos:Pos}
theorem ZA (D:X.calm=iJ):xH X C .fr (.builtin "sorted") wo:=by
 intro pins s σ H xs us Q I r h;obtain ⟨x,F,dx,rfl,A,tx,po⟩:=h;obtain ⟨u,rfl,B⟩:=wf r;cases dx with
 | dct kvs=>
  obtain ⟨a,kv,rfl,G,p⟩:=tx.dct A;cases B;cases q:Uq kvs with
  | none=>simp only [wo,q] at po; exact po.elim
  | some ss=>
   simp only [wo,q] at po;by_cases hl:ss.length < 64/\(ss.all λy=>decide (y.length<=sizeLine))=iJ
   ·rw [Aa hl] at po;obtain ⟨f,b,vs,rel,dd⟩:=(show ObjOk X.prog X.w H s.heap a (.dK kv) from I.hok a _ G)
    obtain ⟨ep,L⟩:=dd.dictAt;have g:vs.map (·.1)=ss.map aU:=by rw [<-KV.keys rel,p.keys,YW q]
    have n:vs.length=ss.length:=by have:=congrArg iw g; simpa using this
    refine qda (kdl_dict (kvs:=vs) (ep:=ep) b) (I.ok.hd D) L (λacc hi=>qaJ _ _ (by rw [bp,hi.1,n]) λj v e=>?_) hl.1 (by rw [n,iT]; lia) λh1 h' tk us e m k1 k2 hp st pm so=>?_
    ·obtain ⟨k,x,e1,K⟩:=hi.2 j v (by rw [<-bn]; exact e);have E:(vs.map (·.1))[j]?=iE k:=by rw [aF,e1]; rfl
     rw [g,aF] at E;obtain ⟨y,J,rfl⟩:=aN.mp E;rcases jq (show xG (aU y) v=iJ from K) with ⟨i,t,d,_⟩ | ⟨z,t,d,rfl⟩
     ·cases d
     ·cases d;exact ⟨_,t,J,rfl⟩
    ·rw [gI pm so] at st;have l:Inv X pins σ H { s with heap:=h1,toks:=tk }:=I.kept (t':=tk) k1;have f:(kc ss).length<=sizeLine:=by
      rw [(qF _).length_eq,iT]
      lia
     have hq:H h1.objs.size=none:=l.hok.fresh (aA _);obtain ⟨s2,c2,f2⟩:=jV (u:=.lst ((kc ss).map V.str)) A hq;exact ⟨.ref h1.objs.size,_,l.laid (t':=tk) (o:=.lst ((kc ss).map V.str)) k2 (aA _) ⟨by rw [af]; exact f,us.toList,e,xa st,by simpa [lT] using hp⟩,rfl,po _ _ _ s2 c2 ⟨_,rfl,hq,f2,_,qm,xb λy c=>by have:=(qF _).mem_iff.mp c;exact Ae (aJ.mp hl.2 y this)⟩⟩
   ·rw [Ab hl] at po; exact po.elim
 | _=>exact po.elim
end
end L2.D2
namespace PySem.F
theorem nolen_lri:lL (.type "list_reverseiterator") "__len__"=pure none:=by rw [lh,i5]; kernel_rfl
theorem hint_lri:lL (.type "list_reverseiterator") "__length_hint__"=pure (iE (.builtin "list_reverseiterator.__length_hint__")):=by rw [lh,i5]; kernel_rfl
end PySem.F
namespace L2.D2
open PySem PySem.Spec PyProof.Rows PySem.W
section
variable {prog:iQ} {w:iR} {A:iX} {E:iH->iK->Prop} {s:iK} {I l:Addr} {items:Array iH}
theorem ZC {R:mR->iK->Prop} (p:A.handled=iG) (d:l≠I) (hit:s.heap.IsRevIter I l ((items.size:Int) - 1)) (hl:s.heap.IsList l items) (S:Addr) (a:S≠I) (j:S≠l) (res:iH) (c:Nat) (t:s.heap.get? S=iE { cls:=.type "list",data:=.seq #[] c })
  (u:∀ h' tk K U,(∀ b o,b≠S->b≠I->s.heap.get? b=iE o->h'.get? b=iE o)->h'.get? S=iE { cls:=.type "list",dict:=iG,data:=.seq K U,slots:=#[] }->mH (λi v=>items[items.size - 1 - i]?=iE v) K items.size->R (.ok (.ret res)) { s with heap:=h',toks:=tk }) (n:items.size<=sizeLine) :
  iM (model prog w) A.in1 (bj (.ref S) (.ref I) res)
   (λfin s'=>match fin with | .done f=>R (.ok f) s' | .again U=>U.quiet=iJ/\lI (model prog w) A U R s') (λe s'=>R (.error e) s') s:=by
 have W:=Walks.listRev (prog:=prog) (w:=w) (A:=A.in1) p I l d items;have k:S∉[I,l]:=by simp only [ae,bb,or_false,not_or]; exact ⟨a,j⟩
 have st:0<=items.size/\s.heap.IsRevIter I l ((items.size:Int) - 1 - ((0:Nat):Int))/\s.heap.IsList l items:=⟨bo _,by simpa using hit,hl⟩
 unfold bj;refine iF (lx hit.typeIs ?_);have h1:cG (.ref S) (.ref I)=false:=by simp [cG,a]
 rw [Ab (by rw [h1]; decide)];refine iF (W.self 0 _ _ _ st ?_);refine iF (iW ?_);unfold Builtin.List.listLengthHint;refine iF (wpAny_specialOf hit.typeIs F.nolen_lri ?_);show iM _ A.in1 (specialOf (bT I) (aP "__length_hint__") >>= _) _ _ _;refine iF (wpAny_specialOf hit.typeIs F.hint_lri ?_);generalize E:("list_reverseiterator.__length_hint__":String)=id0
 wp_delta
 rw [show splitId id0=iE ("list_reverseiterator", "__length_hint__") from by subst E; decide +kernel];subst E;refine iF (k9 (b:=iJ) hit.typeIs (by rw [lF]; kernel_rfl) ?_);refine iL ?_;rw [Ab (by decide)];refine iL ⟨lf F.plain_extend_loop _,codeAny_extend_loopS W.toS n S k res items.size 0 _ #[] c rfl (bo _) st t (ItemsOf.nil _) λs' K U m B r=>?_⟩;rw [Moved.eq_with m];refine u s'.heap s'.toks K U (λb o q g e=>m.heap b o (λh=>?_) e) B r;rcases ae.mp h with x | h;·exact q x
 ·exact g (au.mp h)
theorem qdb {Q:iH->iK->Prop} (p:A.handled=iG) (g:l≠I) (hit:s.heap.IsRevIter I l ((items.size:Int) - 1)) (hl:s.heap.IsList l items) (n:items.size<=sizeLine)
  (q:∀ h' tk K U,(∀ b o,b≠I->s.heap.get? b=iE o->h'.get? b=iE o)->h'.get? s.heap.objs.size=iE { cls:=.type "list",dict:=iG,data:=.seq K U,slots:=#[] }->mH (λi v=>items[items.size - 1 - i]?=iE v) K items.size->Q (.ref s.heap.objs.size) { s with heap:=h',toks:=tk }) :
  iM (model prog w) A (call (.type "list") [.ref I]) Q E s:=by
 refine callType_codes (Q₁:=λobj d=>obj=.ref s.heap.objs.size/\d={ s with heap:=s.heap.push { cls:=.type "list",data:=.seq #[] } }) PySem.F.called_list (PySem.F.typeCall_list_1 _) PySem.F.entry_list_init
  (code_list_new _ ⟨rfl,rfl⟩) λobj d h₁=>?_
 obtain ⟨rfl,rfl⟩:=h₁;have S:(s.heap.push { cls:=.type "list",data:=.seq #[] }).get? s.heap.objs.size=iE { cls:=.type "list",data:=.seq #[] }:=ao _ rfl;obtain ⟨t,f,_⟩:=id hit;obtain ⟨ol,c,_⟩:=id hl;have a:s.heap.objs.size≠I:=bQ (ay f);have j:s.heap.objs.size≠l:=bQ (ay c);refine ⟨⟨_,S,rfl⟩,PySem.F.args_list_init_2 _ _,?_⟩;show iM _ _ (do let old <-Builtin.List.listItems (.ref s.heap.objs.size); Builtin.List.listUpdate (.ref s.heap.objs.size) (λ_=>#[]); letGo old.toList.reverse; bj (.ref s.heap.objs.size) (.ref I) .none) _ _ _;refine iF ?_;unfold Builtin.List.listItems;refine iF (iZ S rfl (iL ?_));show iM _ _ (updateSeq s.heap.objs.size (λ_=>#[]) >>= λ_=>letGo (#[]:Array iH).toList.reverse >>= λ_=>bj (.ref s.heap.objs.size) (.ref I) .none) _ _ _;refine iF (wpAny_updateSeq S rfl ?_);have h:=be (cF (λ_=>(#[]:Array iH))) S rfl;have oth:∀ b o,b≠s.heap.objs.size->s.heap.get? b=iE o->((s.heap.push { cls:=.type "list",data:=.seq #[] }).update s.heap.objs.size (cF (λ_=>(#[]:Array iH)))).get? b=iE o:=
  λb o k e=>(cq _ _ (bw k)).trans (aa _ e)
 refine iF (mM ?_);refine ZC (A:=A.in1) p g (hit.at λo e=>oth I o a.symm e) (hl.at λo e=>oth l o j.symm e) _ a j .none _ h (λh' tk K U m B r=>?_) n;exact ⟨rfl,q h' tk K U (λb o k e=>m b o (aG (ay e)) k (oth b o (aG (ay e)) e)) B r⟩
end
noncomputable def xc:D->Out D
 | .lst xs=>.ok (.lst xs.reverse)
 | _=>.bad
theorem qdc {vs:List V} {its:List iH} {acc:Array iH} (r:Vals vs its) (h:mH (λi v=>its.toArray[its.toArray.size - 1 - i]?=iE v) acc its.toArray.size):Vals vs.reverse acc.toList:=by
 have e:acc.toList=its.reverse:=by
  apply dg;intro j;have s:acc.size=its.length:=by simpa using h.1
  by_cases G:j < its.length;·have c:acc.toList[j]?=iE (acc.toList[j]'(by rw [bp]; lia)):=aw _;have h2:=h.2 j _ (by rw [<-bn]; exact c);rw [c,List.getElem?_reverse G,<-h2];simp
  ·rw [bA (by rw [bp]; lia),bA (by rw [List.length_reverse]; lia)]
 rw [e];exact r.reverse
theorem qaK {K:Frag} {F:Hp}:∀ {vs:List V} {ds:List D},IsL K F vs ds->IsL K F vs.reverse ds.reverse
 | _,_,.nil=>.nil
 | _,_,.cons h t=>by rw [de,de];exact (qaK t).append (.cons h .nil)
section
variable {X:Cx} {C:Ct} {own:List Nat} {e:Expr} {fa:qY} {ma:Mo} {pos:Pos}
theorem ZD {p p2 pos2:Pos} (T:C.K=X.K) (R:X.calm=iJ) (hg:Gl X "list") (P:X.mg "list"=iG) (M:iO "list"=iE (.type "list")) (v:Gl X "reversed") (r:X.mg "reversed"=iG) (j:iO "reversed"=iE (.type "reversed")) (S:PE X e (tE C own ma fa))
  (G:iN [e] X.env=[(iI,eval e X.env)]:=by exact qE rfl) (d:iN [.Call (.Name "reversed" p2) [e] [] pos2] X.env=[(iI,eval (.Call (.Name "reversed" p2) [e] [] pos2) X.env)]:=by exact qE rfl) :
  PE X (.Call (.Name "list" p) [.Call (.Name "reversed" p2) [e] [] pos2] [] pos) (tE C own .fr (d1 xc fa)):=by
 refine ⟨?_⟩;intro pins s σ H Q I h;refine j3 (yH I hg P M ?_ (by decide) (by decide));refine bi ?_ (by rw [d]; rfl) rfl;rw [d];show iM _ _ (spliced ((iI,eval (.Call (.Name "reversed" p2) [e] [] pos2) X.env)::[])) _ _ s;refine cV ?_;refine j3 (yH I v r j ?_ (by decide) (by decide));refine bi (thn ((qM S jB G) pos2 pins s σ H _ I (xI (ma:=ma) h)) λus s1 ⟨vs,H1,A,r1,L⟩=>?_) (by rw [G]; rfl) rfl;obtain ⟨x,F,dx,rfl,B,tx,po⟩:=L;obtain ⟨u,rfl,J⟩:=wf r1;cases dx with
 | lst ds=>
  obtain ⟨a,vs,rfl,hq,t⟩:=tx.lst B;rw [T] at hq;cases J;obtain ⟨its,D,i,E⟩:=A.list hq;have pl:s1.heap.IsList a its.toArray:=by obtain ⟨o,n,O,z,_,w⟩:=i;exact ⟨o,O,z,n,w⟩
  refine call_reversed_list pl ?_;refine d9 ?_;have N:=ao (h:=s1.heap) (o:=revObj a ((its.toArray.size:Int) - 1)) ;have f:(s1.heap.push (revObj a ((its.toArray.size:Int) - 1))).IsList a its.toArray:=pl.at λo y=>aa _ y;obtain ⟨oa,l,_⟩:=id pl;have q:a≠s1.heap.objs.size:=aG (ay l);refine qdb (s:={ s1 with heap:=s1.heap.push (revObj a ((its.toArray.size:Int) - 1)) }) (I.ok.hd R) q ⟨_,ao _ rfl,rfl,rfl⟩ f (by rw [ax,<-D.length]; exact E) λh' tk acc c kp hp hi=>?_;have k:∀ b o,s1.heap.get? b=iE o->h'.get? b=iE o:=λb o y=>kp b o (aG (ay y)) (aa _ y);have hsz:(s1.heap.push (revObj a ((its.toArray.size:Int) - 1))).objs.size=s1.heap.objs.size+1:=bh ..;have m:H1 (s1.heap.objs.size+1)=none:=A.hok.fresh (fm _);obtain ⟨s2,c2,f2⟩:=jV (u:=.lst vs.reverse) B m;have hp:h'.get? (s1.heap.objs.size+1)=iE { cls:=.type "list",dict:=iG,data:=.seq acc c,slots:=#[] }:=by rw [<-hsz]; exact hp
  have g:EP X pins σ Q (.ref (s1.heap.objs.size+1)) { s1 with heap:=h',toks:=tk }:=
   ⟨.ref (s1.heap.objs.size+1),_,A.laid (t':=tk) (o:=.lst vs.reverse) k (fm _) ⟨by rw [List.length_reverse]; exact E,acc.toList,c,qdc D hi,by simpa using hp⟩,rfl,po _ _ _ s2 c2 ⟨_,rfl,m,f2,_,qm,qaK t⟩⟩
  rw [<-hsz] at g;exact g
 | _=>exact po.elim
end
end L2.D2
namespace L2.D2
open PySem PySem.Spec PyProof.Rows
noncomputable def YX:D->Out D
 | .lst ds=>match ye ds with
  | some ps=>.ok (.dct (ps.foldl (λl p=>vX l p.1 p.2) []))
  | none=>.bad
 | _=>.bad
variable {X:Cx} {C:Ct}
section
variable {pins:Pns} {σ:St} {F H:Hp} {s:iK}
theorem qdd (n:C.K=X.K) (d:X.calm=iJ):xH X C .fr (.type "dict") YX:=by
 intro pins s σ H xs us Q I r h;obtain ⟨x,F,dx,rfl,A,tx,po⟩:=h;cases dx <;> try exact po.elim
 exact qcV n d pins s σ H _ us Q I r ⟨x,F,_,rfl,A,tx,po⟩
end
noncomputable def Ka:D->Out D
 | .lst ds=>(match JZ ds with
  | some ks=>if ks.length<=1000/\(ks.all λk=>decide (0<=k/\k<=100000))=iJ then .ok (.int ks.sum) else .bad
  | none=>.bad)
 | _=>.bad
section
variable {own:List Nat} {mb mx:Mo} {b ix:Expr} {fb:qY} {pos apos cpos px:Pos}
theorem Ur (R:C.K=X.K) (P:X.calm=iJ):xH X C .sh (.builtin "sum") Ka:=by
 intro pins s σ H xs us Q I r h;obtain ⟨x,F,dx,rfl,J,tx,po⟩:=h;cases dx with
 | lst ds=>
  obtain ⟨u,rfl,N⟩:=wf r;obtain ⟨a,vs,rfl,hq,O⟩:=tx.lst J;cases N;rw [R] at hq;obtain ⟨its,M,p,U⟩:=I.list hq;have pl:s.heap.IsList a its.toArray:=by obtain ⟨o,n,f,B,_,w⟩:=p;exact ⟨o,f,B,n,w⟩
  cases e:JZ ds with
  | none=>have po:PoV C .sh F H (match JZ ds with | some ks=>if ks.length<=1000/\(ks.all λk=>decide (0<=k/\k<=100000))=iJ then .ok (.int ks.sum) else .bad | none=>.bad) Q:=po;rw [e] at po; exact po.elim
  | some ks=>
   have po:PoV C .sh F H (match JZ ds with | some ks=>if ks.length<=1000/\(ks.all λk=>decide (0<=k/\k<=100000))=iJ then .ok (.int ks.sum) else .bad | none=>.bad) Q:=po;rw [e] at po;by_cases m:ks.length<=1000/\(ks.all λk=>decide (0<=k/\k<=100000))=iJ
   ·have po:PoV C .sh F H (if ks.length<=1000/\(ks.all λk=>decide (0<=k/\k<=100000))=iJ then .ok (.int ks.sum) else .bad) Q:=po;rw [Aa m] at po;have st:=qfK O M e;have d:a < s.heap.objs.size:=let ⟨o,f,_⟩:=pl; ay f;have L:its.length=ks.length:=st.length;refine call_sum_walk (lQ (show s.heap.IsList a its.toArray from pl) ?_);refine ⟨s.heap.objs.size,_,_,_,_,_,λi=>ks.getD i 0,rfl,iC (A:=X.A.in1) (I.ok.hd P) _ a (aG d) its.toArray,⟨⟨_,ao _ rfl,rfl,rfl⟩,?_⟩,?_,λi v ev=>?_,λj G=>?_,λh' tk t' kp=>?_⟩;·obtain ⟨o,e,c⟩:=pl;exact ⟨o,aa _ e,c⟩
    ·intro z b;rw [bh];simp only [ae,bb,or_false] at b;rcases b with rfl | rfl;·exact Nat.lt_succ_self _
     ·exact df d
    ·obtain ⟨y,t,e1,S⟩:=st.item i v (by simpa using ev);exact ⟨t,by rw [e1]; show fE y t=fE (ks.getD i 0) t; rw [dB,S]; rfl⟩
    ·rw [ax,L] at G;have l:=m.2;rw [aJ] at l;have h1:=Ae (l (ks.getD j 0) (by rw [dB,aw G]; exact bt G));have h2:=qek (ks.take (j+1)) (aJ.mpr λk g=>l k (List.mem_of_mem_take g));have V:(ks.take (j+1)).length<=1000:=by rw [bY]; lia
     have E:=gO ks (j+1) G;refine ⟨⟨by show (-2 ^ 63:Int)<=ks.getD j 0; lia,by show ks.getD j 0 < (2 ^ 63:Int); lia⟩,?_⟩;rw [E];exact ⟨by lia,by lia⟩
    ·have T:Inv X pins σ H { s with heap:=h',toks:=tk }:=I.kept (t':=tk) λz o D=>kp z o (λq=>by rw [au.mp q] at D;exact b6 _ (ay D)) (aa _ D);have E:preSum (λi=>ks.getD i 0) its.toArray.size=ks.sum:=by rw [ax,L,gO ks _ (aA _),List.take_length]
     exact ⟨.int ks.sum,H,T,⟨t',by rw [E]⟩,po _ F H J .refl (.int _)⟩
   ·have po:PoV C .sh F H (if ks.length<=1000/\(ks.all λk=>decide (0<=k/\k<=100000))=iJ then .ok (.int ks.sum) else .bad) Q:=po;rw [Ab m] at po; exact po.elim
 | _=>exact po.elim
end
open PySem.SeqAt
open AutoSeq1 (wpAny_loadPart')
open MeetsSeq MeetsSeq2 MeetsSeq3
end L2.D2
namespace L2.D2
open PySem PySem.Spec PyProof.Rows
open PySem.SeqAt
end L2.D2
namespace L2.D2
open PySem PySem.Spec PyProof.Rows
open AutoSeq1 (wpAny_loadPart')
theorem qaL (l:Addr) (items:Array iH) (n:Nat) (dct:Option Addr) (sl:Array (Option iH)):Meets (Builtin.«enumerate.__new__» ⟨[.type "enumerate",.ref l],[]⟩) (λ_ R s=>s.heap.get? l=iE { cls:=.type "tuple",dict:=dct,data:=.seq items n,slots:=sl } /\
   R (.ok (.ret (.ref (s.heap.push { cls:=.type "tuple_iterator",data:=.fields #[.ref l,.int 0 0] }).objs.size)))
    { s with heap:=(s.heap.push { cls:=.type "tuple_iterator",data:=.fields #[.ref l,.int 0 0] }).push { cls:=.type "enumerate",data:=.fields #[.none,.bool iI,.ref s.heap.objs.size,i6 0,.none,.none] } }):=
 .of_wp λprog w A R s h=>by
  obtain ⟨hp,g,d,tk,os⟩:=s; obtain ⟨hl,h⟩:=h;have b:=sub_enumerate;have a:Heap.IsTuple (Shared.heap ⟨hp,g,d,tk,os⟩) l items:=⟨_,hl,rfl,n,rfl⟩
  wp_walk using l6 hl
  refine wpAny_stack_any λst=>iL ?_;split
  ·rename_i c _ _ _ _ _;cases (c == iq "enumerate")
   ·wp_walk using l6 hl,lw a
    exact ⟨_,rfl,h⟩
   ·wp_walk using l6 hl,lw a
    exact ⟨_,rfl,h⟩
  ·wp_walk using l6 hl,lw a
   exact ⟨_,rfl,h⟩
variable {s:iK} {l:Addr} {items:Array iH}
theorem ya {prog:iQ} {w:iR} {A:iX} {E:iH->iK->Prop} {Q:iH->iK->Prop} (a:s.heap.IsTuple l items)
  (h:∀ h',IsEnum h' (s.heap.objs.size+1) s.heap.objs.size 0 .none->h'.IsTupleIter s.heap.objs.size l 0->h'.objs.size=s.heap.objs.size+2 ->(∀ b o,s.heap.get? b=iE o->h'.get? b=iE o)->Q (.ref (s.heap.objs.size+1)) { s with heap:=h' }) :
  iM (model prog w) A (call (.type "enumerate") [.ref l]) Q E s:=by
 obtain ⟨⟨c,dct,t,sl⟩,hl,d,n,hd⟩:=a;replace d:c=.type "tuple":=d;replace hd:t=.seq items n:=hd;subst d hd;refine callType_new F.called_enumerate (by decide) (F.typeCall_enumerate_1 _) (F.newCall_enumerate_1 _) (λobj=>F.args_object_init_2 obj _) F.entry_enumerate_new (qaL l items n dct sl) ⟨hl,?_⟩;have z:(s.heap.push { cls:=.type "tuple_iterator",data:=.fields #[.ref l,.int 0 0] }).objs.size=s.heap.objs.size+1:=bh ..;show _/\_;rw [z];have i:IsEnum ((s.heap.push { cls:=.type "tuple_iterator",data:=.fields #[.ref l,.int 0 0] }).push { cls:=.type "enumerate",data:=.fields #[.none,.bool iI,.ref s.heap.objs.size,i6 0,.none,.none] }) (s.heap.objs.size+1) s.heap.objs.size 0 .none:=by have:=ao (s.heap.push { cls:=.type "tuple_iterator",data:=.fields #[.ref l,.int 0 0] }) (o:={ cls:=.type "enumerate",data:=.fields #[.none,.bool iI,.ref s.heap.objs.size,i6 0,.none,.none] }) rfl;rw [z] at this; exact this
 exact ⟨⟨_,i,rfl⟩,h _ i ⟨_,aa _ (ao _ rfl),rfl,rfl⟩ (by rw [bh,z]) λb o x=>aa _ (aa _ x)⟩
theorem ZE {prog:iQ} {w:iR} {A:iX} {E:iH->iK->Prop} {k:SK} {Q:iH->iK->Prop} (L:SeqK s.heap l k items)
  (h:∀ h',IsEnum h' (s.heap.objs.size+1) s.heap.objs.size 0 .none->ItK h' s.heap.objs.size l k 0->(∀ b o,s.heap.get? b=iE o->h'.get? b=iE o)->Q (.ref (s.heap.objs.size+1)) { s with heap:=h' }) :
  iM (model prog w) A (call (.type "enumerate") [.ref l]) Q E s:=by
 cases k with
 | l=>exact call_enumerate_list L λh' a b _ c=>h h' a b c
 | t=>exact ya L λh' a b _ c=>h h' a b c
variable {K:Frag} {a:Addr} {xs:List V}
theorem YY {H H':Hp} (e:Same H H'):∀ {k:SK},SqK K H a k xs->SqK K H' a k xs
 | .l,p=>e.seq p
 | .t,p=>jm e p
noncomputable def qj3 (k:SK) (K:Frag) (a:Addr) (xs:List V):It:=
 ⟨λi H=>i < xs.length/\SqK K H a k xs,λi H v H'=>∃ x p,xs[i]?=iE x/\H p=iG/\v=.ref p/\H'=upd H p (.tup [.int (i:Nat),x]),λi H=>xs.length<=i/\SqK K H a k xs⟩
theorem ZF {P:iQ} {w:iR} {K:Frag} {k:SK} {y:List Expr} {B} {pos:Pos} (b a:Nat) (xs:List V) (h1:a < b):Turn P w K (.Tuple y B pos) (qj3 k K a xs) [b+1,b] (b+1) (λi h=>(∃ old,IsEnum h (b+1) b i old)/\ItK h b a k i/\i<=xs.length) where
 mem:=by simp
 obj:=λi h st c d=>by
  obtain ⟨⟨old,g⟩,hit,S⟩:=st;obtain ⟨o,t,l,hd⟩:=hit.obj;simp only [ae,bb,or_false] at d;rcases d with rfl | rfl;·exact ⟨_,g,λv z=>by cases z⟩
  ·exact ⟨o,t,λv z=>by rw [hd] at z; cases z⟩
 keep:=λi h h' st k=>by obtain ⟨⟨old,g⟩,hit,S⟩:=st;obtain ⟨o,t,l,hd⟩:=hit.obj;exact ⟨⟨old,k _ (by simp) _ g⟩,.of ⟨o,k _ (by simp) _ t,l,hd⟩,S⟩
 item:=by
  intro X M G N d i pins s σ H E I u st hg;subst M G N;obtain ⟨⟨old,g⟩,hit,S⟩:=st;obtain ⟨hl,q⟩:=hg;obtain ⟨its,F,n,r,e0,R,_,Q,_⟩:=VE I q;have pl:=SeqK.of e0 Q R;have hi:i < its.length:=by rw [<-r.length]; exact hl
  have hx:its.toArray[i]?=iE its[i]:=by simp [hi]
  have J:a≠b:=aG h1;refine wpAny_pyNext_enum_itemD (qeg (A:=X.A.in1) (I.ok.hd d) k b a J its.toArray) g ⟨hit,pl⟩ (by simpa using hi) (Nat.succ_ne_self b) (by
   intro z;simp only [ae,bb,or_false] at z;have h1:@LT.lt Nat _ a b:=h1;rcases z with z | z
   ·have z:@Eq Nat _ _:=z
    lia
   ·have z:@Eq Nat _ _:=z
    lia) λB h' tk f eo D Y hz kp=>?_
  have O:B=its[i]:=by have f:its.toArray[i]?=iE B:=f;rw [hx] at f;exact (aK.inj f).symm
  subst O;refine ⟨_,rfl,wpAny_letOwnedTupleGo_enum eo λhq e2 p=>?_⟩;obtain ⟨x,ex,Z⟩:=qao r (aw hi);have hT:H s.heap.objs.size=none:=I.hok.fresh (aA _);have C:b+1 < s.heap.objs.size:=ay g;have T:∀ c∈[b+1,b],c≠s.heap.objs.size:=λc d=>by
   simp only [ae,bb,or_false] at d;have lt':b+1 < s.heap.objs.size:=C;generalize s.heap.objs.size=m at lt';intro z
   lia
  have I1:Inv X pins σ (upd H s.heap.objs.size (.tup [.int (i:Nat),x])) { s with heap:=s.heap.push { cls:=.type "tuple",data:=.seq #[.int i tk,its[i]] } }:=
   I.laid (t':=s.toks) (λ_ _ e=>aa _ e) (aA _) ⟨⟨by simp only [aq,bf]; rw [iT]; decide,_,ao _ rfl,rfl⟩,[.int i tk,its[i]],.cons ⟨_,rfl⟩ (.cons Z .nil),⟨_,ao _ rfl,rfl,_,rfl⟩⟩
  have I2:Inv X pins σ (upd H s.heap.objs.size (.tup [.int (i:Nat),x])) { s with heap:=hq,toks:=tk+1 }:=by
   refine qan (s:={ s with heap:=s.heap.push { cls:=.type "tuple",data:=.seq #[.int i tk,its[i]] } }) (ch:=[b+1,b]) I1 (λc o j e=>?_) λc d=>⟨by rw [qB (T c d)]; exact (u c d).1,(u c d).2⟩
   simp only [ae,bb,or_false,not_or] at j;rw [p.2 c j.1];by_cases U:c=s.heap.objs.size;·subst U;have W:(s.heap.push ({ cls:=.type "tuple",data:=.seq #[.int i tk,its[i]] }:Obj)).get? s.heap.objs.size=iE { cls:=.type "tuple",data:=.seq #[.int i tk,its[i]] }:=ao _ rfl;rw [show (s.heap.push ({ cls:=.type "tuple",data:=.seq #[.int i tk,its[i]] }:Obj)).get? s.heap.objs.size=iE o from e] at W;rw [W];exact Y
   ·have e4:s.heap.get? c=iE o:=by have:=e;rwa [show (s.heap.push ({ cls:=.type "tuple",data:=.seq #[.int i tk,its[i]] }:Obj)).get? c=s.heap.get? c from Heap.get?_push_ne _ _ _ U] at this
    exact kp c o j.1 j.2 e4
  refine ⟨.ref s.heap.objs.size,_,I2,rfl,⟨x,_,ex,hT,rfl,rfl⟩,⟨⟨_,by simpa using e2⟩,?_,hl⟩,λc d=>by rw [qB (T c d)]; exact (u c d).1⟩;obtain ⟨o,t,l,hd⟩:=D.1.obj;exact .of ⟨o,(p.2 _ (Nat.succ_ne_self b).symm).trans t,l,hd⟩
 done:=by
  intro X M G N d i pins s σ H E I u st hg;subst M G N;obtain ⟨⟨old,g⟩,hit,S⟩:=st;obtain ⟨hl,q⟩:=hg;obtain ⟨its,F,n,r,e0,R,_,Q,_⟩:=VE I q;have pl:=SeqK.of e0 Q R;have L:i=its.toArray.size:=by rw [ax,<-r.length];exact fy S hl
  subst L;refine wpAny_pyNext_enum_endD (qeg (A:=X.A.in1) (I.ok.hd d) k b a (aG h1) its.toArray) g ⟨hit,pl⟩ λh' ex=>⟨rfl,qan (t':=s.toks) (ch:=[b+1,b]) I (λc o j e=>?_) u⟩
  simp only [ae,bb,or_false,not_or] at j;exact ex c o j.2 e
 self:=λ_ _ _ _ _ st h=>wpAny_pyIter_enum st.1.choose_spec h
theorem qfP {k:SK} {F:Hp} {ds:List D} (p:SqK K F a k xs) (t:IsL K F xs ds):ItIs K F (qj3 k K a xs) (zL ds) where
 go:=λi H hi s=>by unfold zL at hi;rw [af,List.length_zipIdx] at hi;exact ⟨by rw [t.length]; exact hi,YY s p⟩
 yld:=λi Fi H v H' d e s1 s2 y=>by
  obtain ⟨x,q,hx,n,rfl,rfl⟩:=y;obtain ⟨d1,e1,i1⟩:=t.get hx;have o:d=.tup [.int (i:Nat),d1]:=by unfold zL at e;rw [aF,List.getElem?_zipIdx,e1] at e;simpa using e.symm
  subst o;obtain ⟨g1,Z⟩:=gt (u:=.tup [.int (i:Nat),x]) s2 n;exact ⟨_,Z,g1,.tup (.of qm) (.cons (.int _) (.cons ((i1.mono s1).mono Z.grow) .nil))⟩
 stop:=λi H hi s=>by unfold zL at hi;rw [af,List.length_zipIdx] at hi;exact ⟨by rw [t.length]; exact hi,YY s p⟩
section
variable {X:Cx} {C:Ct} {own:List Nat} {a:Expr} {fa:qY} {ma:Mo} {pos:Pos}
theorem qde {k:SK} {ta:TA} {p tpos:Pos} {y:List Expr} {x1} (hg:Gl X "enumerate") (m:X.mg "enumerate"=iG) (j:PA X [a] ta) (g:iN [a] X.env=[(iI,eval a X.env)]):PI X (.Tuple y x1 tpos) (.Call (.Name "enumerate" p) [a] [] pos) (λσ H R=>ta σ H λvs H1=>∃ c xs,vs=[.ref c]/\SqK X.K H1 c k xs/\R (qj3 k X.K c xs) H1):=by
 refine ⟨?_⟩;intro pins s σ H R I h;refine Call_ (yH I hg m qaz (bi (thn (j pos pins s σ H _ I h) λus s1 ⟨vs,H1,d,r1,f⟩=>?_) g rfl));obtain ⟨c,xs,rfl,w,q⟩:=f;obtain ⟨u,rfl,e1⟩:=wf r1;cases e1;obtain ⟨its,W,n,v,e0,O,_,A,_⟩:=VE d w;have pl:=SeqK.of e0 A O;have t:c < s1.heap.objs.size:=pl.lt;refine ZE pl λh' i hit kp=>?_;refine wpAny_pyIter_enum i ?_;refine ⟨s1.heap.objs.size+1,_,_,qj3 k X.K c xs,H1,rfl,d.kept (t':=s1.toks) kp,ZF s1.heap.objs.size c xs t,⟨⟨_,i⟩,hit,bo _⟩,λb e=>?_,q⟩;have S:s1.heap.objs.size<=b:=by
  simp only [ae,bb,or_false] at e;rcases e with rfl | rfl;·exact fU _ _
  ·exact aA _
 exact d.fpOk S (d.hok.fresh S)
theorem uU {p tpos:Pos} {y:List Expr} {x1} (n:C.K=X.K) (hg:Gl X "enumerate") (m:X.mg "enumerate"=iG) (g:PE X a (tE C own ma fa)) (h1:ma≠.any:=by decide) (s:iN [a] X.env=[(iI,eval a X.env)]:=by exact qE rfl):PI X (.Tuple y x1 tpos) (.Call (.Name "enumerate" p) [a] [] pos) (tIt C own (ue fa)):=by
 refine qft (qde (k:=.l) hg m (qM (wX g h1) jB s) s) λσ H R ⟨F,ρ,b,h⟩=>⟨F,ρ,b,PoI.bindV h λv F1 H1 d ρ1 r e c h1=>?_⟩
 have c:Is C.K F1 v d:=c;cases c with
 | lst p t=>exact ⟨_,_,rfl,by rw [<-n]; exact r.sub.seq p,by rw [<-n]; exact h1 _ F1 H1 r e (qfP (k:=.l) p t)⟩
 | _=>exact h1.elim
end
end L2.D2
namespace L2.D2
open PySem PySem.Spec PyProof.Rows
section
variable {X:Cx} {C:Ct} {own:List Nat} {m ma mb:Mo} {a b e:Expr} {fa fb fe:qY} {apos cpos px:Pos}
noncomputable def qj4 (y:Str):iH->Bool
 | .str x _=>x.cps.toList == y.cps.toList
 | _=>iI
theorem qel {y:Str}:∀ (ss:List Str) (its:List iH),Vals (ss.map V.str) its->y∈ss->∃ j,∃ G:j < its.length,qj4 y its[j]=iJ/\(∀ m (c:m < its.length),m < j->qj4 y its[m]=iI)/\Vals ((ss.erase y).map V.str) (its.eraseIdx j)
 | x::ss,u::its,.cons r rs,hy=>by
  obtain ⟨t,rfl⟩:=(show ∃ t,u=bL x t from r)
  by_cases q:x=y;·subst q;refine ⟨0,by simp,by simp [qj4],λm c h=>absurd h (c7 _),?_⟩;rw [List.erase_cons_head];exact rs
  ·obtain ⟨j,G,h1,h2,i⟩:=qel ss its rs ((ae.mp hy).resolve_left λz=>q z.symm);refine ⟨j+1,by simp; omega,h1,λm c h=>?_,?_⟩
   ·cases m with
    | zero=>show (x.cps.toList == y.cps.toList)=iI;refine beq_eq_false_iff_ne.mpr λz=>q ?_;obtain ⟨x⟩:=x;obtain ⟨y⟩:=y;have z:x.toList=y.toList:=z;rw [Array.toList_inj.mp z]
    | succ m=>exact h2 m (by simpa using c) (by omega)
   ·rw [List.erase_cons_tail (by simpa using q)];exact .cons ⟨t,rfl⟩ i
def qkW:V->List V->Hp->VK->Prop:=λx vs H Q=>∃ (l:Addr) (ss:List Str) (y:Str),x=.ref l/\vs=[.str y]/\H l=iE (.lst (ss.map V.str))/\y∈ss/\Q .non (upd H l (.lst ((ss.erase y).map V.str)))
theorem qij:MtM X "list.remove" qkW:=by
 intro pins s σ H x vs v us Q I d g h;obtain ⟨l,ss,y,rfl,rfl,c,D,q⟩:=h;cases d;obtain ⟨u,rfl,B⟩:=g.one;obtain ⟨t,rfl⟩:=B;obtain ⟨z,its,n,r,hl,e⟩:=I.lstM c;obtain ⟨j,G,h1,h2,p⟩:=qel ss its r D;refine lM PySem.F.slot_list_remove ⟨_,e,rfl⟩ PySem.F.entry_list_remove (PySem.F.args_list_remove_2 _ _)
  (MeetsSeq.list_remove l its.toArray n (.str y t) (qj4 y) (λw k=>?_) j (by simpa using G) (by simpa using h1) (λm o b=>by simpa using h2 m (by simpa using o) b) (by rw [ax]; lia)) ⟨e,?_⟩
 ·obtain ⟨i,hi,rfl⟩:=dw.mp (show w∈its by simpa using k);obtain ⟨x,ex,d⟩:=Vals.getE r hi;rw [aF] at ex;obtain ⟨f,_,rfl⟩:=aN.mp ex;obtain ⟨t',A⟩:=(show ∃ t,its[i]=bL f t from d)
  rw [A];exact SeqRoads2.EqGives.str _ _ _ _
 ·refine ⟨.non,_,I.lset (its':=its.eraseIdx j) c e ?_ p ?_,rfl,q⟩;·show its.toArray.eraseIdxIfInBounds j=(its.eraseIdx j).toArray;rw [List.eraseIdxIfInBounds_toArray]
  ·have:=List.length_erase_le (a:=y) (l:=ss);rw [af] at z ⊢
   lia
noncomputable def qfQ (ds:List D) (d:D):Out (List D):=match xK ds,d with
 | some ss,.str y=>if y∈ss then .ok ((ss.erase y).map D.str) else .bad
 | _,_=>.bad
theorem qik {K:Frag} {F:Hp} {vs:List V} {ds:List D} {ss:List Str} (l:IsL K F vs ds) (e:xK ds=iE ss):vs=ss.map V.str/\∀ x∈ss,x.length<=sizeLine:=by
 induction ds generalizing vs ss with
 | nil=>cases l;cases e;exact ⟨rfl,λx h=>nomatch h⟩
 | cons d ds j=>
  cases l with
  | cons i l=>
   cases d with
   | str x=>
    obtain ⟨s2,q,rfl⟩:=aN.mp (show (xK ds).map (x::·)=iE ss from e);obtain ⟨h1,h2⟩:=j l q;cases i with
    | str a=>exact ⟨by rw [h1]; rfl,λy b=>(ae.mp b).elim (λz=>z ▸ a) (h2 y)⟩
   | _=>cases e
theorem qaM {i:Nat} {x:Str} {px apos cpos:Pos} (u:X.N[i]?=iE x) (p:Vis X.env.scope x) (q:i∈own) (r:PE X e (tE C own m fe)) (j:m≠.any:=by decide)
  (hd:Dbg x:=by decide) (f:Cdk x:=by decide)
  (c:j0 (.Name x px) "remove" X.env (eval (.Name x px) X.env)=eval (.Name x px) X.env:=by rfl)
  (w:((j6 cpos (iN [e] X.env)).all (λx=>!x.1)&&(lA cpos (j9 [] X.env)).all (λx=>x.1.isSome)
   && decide ([e].length+([]:List i9).length+(if ([]:List i9).isEmpty then 0 else 1) < 30))=true:=by exact kN rfl)
  (b:(apos.endLine == cpos.line)=true:=by rfl) (s:iN [e] X.env=[(iI,eval e X.env)]:=by exact qE rfl) :
  PE X (.Call (.Attribute (.Name x px) "remove" apos) [e] [] cpos) (tE C own .sh (xE i qfQ fe)):=by
 refine jE (WP b9 PySem.F.slot_list_remove PySem.F.type_list_remove qij (wK u p hd f) (qM (wX r j) jB s) c w b s rfl) λσ H Q h=>?_;have t:∀ (a:Addr) (xs:List V) (ds ys:List D) (v:V) (d:D) (F H:Hp),Same F H->H a=iE (.lst xs)->F a=iG->IsL C.K F xs ds->Is C.K F v d->qfQ ds d=.ok ys->(∀ zs,IsL C.K F zs ys->Q .non (upd H a (.lst zs)))->qkW (.ref a) [v] H Q:=λa xs ds ys v d F H B A E ix l g k=>by
  unfold qfQ at g;split at g
  ·rename_i ss y e1;split at g;·rename_i o;cases g;cases l;obtain ⟨hx,hl⟩:=qik ix e1;subst hx;exact ⟨a,ss,y,rfl,rfl,A,o,k _ (xb λz n=>hl z (eJ n))⟩
   ·cases g
  ·cases g
 obtain ⟨a,xs,h1,h2,k⟩:=YF (R:=λx v H Q=>qkW x [v] H Q) q j t h;exact ⟨.ref a,h1,.inl ⟨rfl,xs,.inl (.inl h2)⟩,k⟩
theorem qil {o e:Expr} {to:TE} {t:TA} {name:Str} {id:String} {r:V->List V->Hp->VK->Prop} (slot:Slot "tuple" name id) (y:typeOf (.builtin id)=pure (.type "method_descriptor")) (m:MtR X id r) (l:PE X o to) (j:PA X [e] t)
  (c:j0 o name X.env (eval o X.env)=eval o X.env)
  (w:((j6 cpos (iN [e] X.env)).all (λx=>!x.1)&&(lA cpos (j9 [] X.env)).all (λx=>x.1.isSome)
   && decide ([e].length+([]:List i9).length+(if ([]:List i9).isEmpty then 0 else 1) < 30))=iJ)
  (b:(apos.endLine == cpos.line)=iJ) (g:iN [e] X.env=[(iI,eval e X.env)]) :
  PE X (.Call (.Attribute o name apos) [e] [] cpos) (λσ H Q=>to σ H λx H1=>(∃ p xs,x=.ref p/\SqT X.K H1 p xs)/\t σ H1 λxs H2=>r x xs H2 Q):=by
 refine ⟨?_⟩;intro pins s σ H Q I h;refine wpAny_Call_method_late c w b rfl (thn (l pins s σ H _ I h) λv s1 ⟨x,H1,d,r1,ty,f⟩=>?_);obtain ⟨p,xs,rfl,hq⟩:=ty;cases r1;obtain ⟨o',e1,k⟩:=d.tupleN hq;obtain ⟨its,u,⟨o2,E,i,_⟩,_⟩:=d.tuple hq;refine ⟨"tuple",id,PySem.F.plainAttrs_tuple,slot,y,⟨o2,E,i⟩,λa z=>by cases z; exact ⟨o',e1,k⟩,?_⟩;have hA:=j cpos pins s1 σ H1 _ d f;rw [g] at hA ⊢;refine ei rfl (dq ?_);exact thn hA λus s2 ⟨vs,H2,n,r2,q⟩=>m pins s2 σ H2 (.ref p) vs _ us Q n rfl r2 q
noncomputable def qg0:D->Bool
 | .tup _=>iJ
 | _=>iI
noncomputable def yf:D->D->Out D
 | .tup ds,e=>match QU 7 e ds with
  | some _=>.ok (.int ((ds.map λd=>eqN 7 d e == iE iJ).countP id:Nat))
  | none=>.bad
 | _,_=>.bad
theorem qaN (E:C.K=X.K) (z:X.A.units+64 < k7):MtD X C .sh "tuple.count" yf:=by
 intro pins s σ H x vs v us Q I k m h;obtain ⟨y,F,dx,g,rfl,f,tx,ty,po⟩:=h;rw [E] at tx ty;obtain ⟨u,rfl,B⟩:=m.one;unfold yf at po;cases dx <;> try exact po.elim
 rename_i ds;cases e:QU 7 g ds with
 | none=>simp only [e] at po; exact po.elim
 | some b=>simp only [e] at po;obtain ⟨F',g',c,o⟩:=ty.is f;obtain ⟨a,xs,rfl,p,i⟩:=tx.tup f;cases k;obtain ⟨its,r,pl,G⟩:=I.tuple p;obtain ⟨h1,h2⟩:=Vs (A:=X.A) (y:=.non) (a:=a) (u:=.none) I z c o B (i.mono g') r e;have D:=qav I c (i.mono g') r e;obtain ⟨⟨cls,dd,data,sl⟩,l,j,n,t⟩:=pl;simp only at j t;subst j t;refine lM PySem.F.slot_tuple_count ⟨_,l,rfl⟩ PySem.F.entry_tuple_count (PySem.F.args_tuple_count_2 _ _) (SeqAt.tuple_countAt a _ n dd sl u (Ge X F' 7 g)) ⟨l,λw q=>h2 w q,?_⟩;refine ⟨.int ((ds.map λd=>eqN 7 d g == iE iJ).countP id:Nat),H,I.tok _,⟨s.toks,?_⟩,po _ F H f .refl (.int _)⟩;rw [<-D,List.countP_map];rfl
theorem qaO (n:C.K=X.K) (u:X.A.units+64 < k7)
  (i:PE X a (tE C own ma fa)) (g:PE X b (tE C own mb fb)) (f:ma≠.any:=by decide)
  (c:j0 a "count" X.env (eval a X.env)=eval a X.env:=by rfl)
  (w:((j6 cpos (iN [b] X.env)).all (λx=>!x.1)&&(lA cpos (j9 [] X.env)).all (λx=>x.1.isSome)
   && decide ([b].length+([]:List i9).length+(if ([]:List i9).isEmpty then 0 else 1) < 30))=true:=by exact kN rfl)
  (e:(apos.endLine == cpos.line)=true:=by rfl) (s:iN [b] X.env=[(iI,eval b X.env)]:=by exact qE rfl) :
  PE X (.Call (.Attribute a "count" apos) [b] [] cpos) (tE C own .sh (dM qg0 yf fa fb)):=by
 refine jE (qil PySem.F.slot_tuple_count PySem.F.type_tuple_count (qaN n u) i (qM g jB s) c w e s) λσ H Q h=>?_;obtain ⟨F,ρ,p,h⟩:=qau (ma:=ma) (mb:=mb) f h;refine ⟨F,ρ,p,Po.imp h λx H1 h1=>?_⟩;obtain ⟨⟨F1,dx,d,tx,k⟩,h2⟩:=h1;refine ⟨?_,?_⟩
 ·cases dx <;> try (cases k; done)
  obtain ⟨a,vs,rfl,hq,t⟩:=tx.tup d;exact ⟨a,vs,rfl,by rw [<-n]; exact hq⟩
 ·obtain ⟨j,ρ2,r,h2⟩:=h2;exact ⟨j,ρ2,r,Po.imp h2 λy H2 q=>⟨y,q.choose,q.choose_spec.choose,q.choose_spec.choose_spec.choose,rfl,q.choose_spec.choose_spec.choose_spec⟩⟩
end
end L2.D2
namespace L2.D2
open PySem PySem.Spec PyProof.Rows PySem.W
theorem VR:∀ l:List Int,JZ (l.map D.int)=iE l
 | []=>rfl
 | x::l=>by show (JZ (l.map D.int)).map (x::·)=iE (x::l);rw [VR l];rfl
end L2.D2
namespace L2.D2
open PySem PySem.Spec PyProof.Rows
noncomputable def qaP:D->Out D
 | .dct kvs=>.ok (.dct kvs)
 | _=>.bad
variable {X:Cx} {C:Ct}
theorem qdf (n:C.K=X.K):xH X C .fr (.type "dict") qaP:=by
 intro pins s σ H xs us Q I r h;obtain ⟨x,F,dx,rfl,A,tx,po⟩:=h;cases dx <;> try exact po.elim
 rename_i ks;have po:PoV C .fr F H (.ok (.dct ks)) Q:=po;obtain ⟨a,kv,rfl,hq,i⟩:=tx.dct A;obtain ⟨u,rfl,B⟩:=wf r;cases B;obtain ⟨z,S,vs,k,hd⟩:=(show ObjOk X.prog X.w H s.heap a (.dK kv) from I.hok a _ hq)
 have hl:=k.length;refine kt_call_dict S hd (by lia) λh' f d=>?_;have kp:∀ b o,s.heap.get? b=iE o->h'.get? b=iE o:=λb o e=>(d.2 b (aG (ay e))).trans (aa _ e);have hp:H s.heap.objs.size=none:=I.hok.fresh (aA _);obtain ⟨s2,c2,E⟩:=jV (u:=.dK kv) A hp;have c:(s.heap.objs.size == k8)=false:=beq_eq_false_iff_ne.mpr (bQ I.big);exact ⟨.ref s.heap.objs.size,_,I.laid (o:=.dK kv) (t':=s.toks) kp (aA _) (Yr z c k f),rfl,po _ F _ s2 c2 ⟨_,rfl,hp,E,_,qm,i⟩⟩
noncomputable def qdg {α:Type} (ds:List α) (lo hi:Option Int):List α:=(ds.drop (HT.sIx ds.length 0 lo)).take (HT.sIx ds.length ds.length hi - HT.sIx ds.length 0 lo)
noncomputable def qim (lo hi:Option Int):D->Out D
 | .lst ds=>.ok (.lst (qdg ds lo hi))
 | _=>.bad
noncomputable def vh (fa:qY) (l u:Option (qY)):qY:=λρ=>(fa ρ).bind λp=>(JU l p.2).bind λa=>(JU u a.2).bind λb=>(qim a.1 b.1 p.1).plain.bind λd=>.ok (d,b.2)
section
variable {own:List Nat} {e:Expr} {fa:qY} {ma:Mo} {pos p2:Pos}
theorem qkX (n:C.K=X.K):SlR X (λx lo hi H Q=>∃ F d,Same F H/\Is C.K F x d/\PoV C .sh F H (qim lo hi d) Q):=by
 intro pins s σ H x v vl b lo hi sl Q I r e pl c h;obtain ⟨F,d,A,is,po⟩:=h;cases d with
 | lst ds=>
  cases is with
  | @lst a xs _ hq t=>
   have po:PoV C .sh F H (.ok (.lst (qdg ds lo hi))) Q:=po;refine qfb pins s σ H _ v vl b lo hi sl Q I r e pl c ⟨a,xs,rfl,by rw [<-n]; exact A.seq hq,λp hp=>?_⟩;obtain ⟨s2,c2⟩:=gt (u:=.lst (qe8 xs lo hi)) A hp;have i:IsL C.K F (qe8 xs lo hi) (qdg ds lo hi):=by unfold qe8 qdg;rw [t.length];exact IsL.take _ (IsL.drop _ t)
   exact po _ _ _ s2 c2 (.lst (.inl (.inl qm)) (i.mono c2.grow))
 | _=>exact po.elim
theorem VS {lo hi:Option Expr} {l u:Option (qY)} (n:C.K=X.K) (j:PE X e (tE C own ma fa)) (hl:PO X lo (tO C own (JU l))) (i:PO X hi (tO C own (JU u))) (g:ma≠.any:=by decide):PE X (.Subscript e (.Slice lo hi iG p2) pos) (tE C own .sh (vh fa l u)):=by
 refine jE (qct (qkX (C:=C) n) (wX j g) hl i) λσ H Q ⟨F,ρ,p,h⟩=>⟨F,ρ,p,Po.bind h λv F1 H1 d ρ1 f t m h1=>?_⟩
 refine ⟨F1,ρ1,f,Po.bindO h1 λs H2 a ρ2 r c2 h2=>⟨s,ρ2,r,Po.bindO h2 λq w b k c J o=>?_⟩⟩;exact ⟨q,d,c.sub,(m.mono c2.grow).mono J.grow,PoV.of c o⟩
end
theorem fsc {N P:List Str} {sc:lU} (a:sc.kind=.function:=by rfl) (b:sc.isCoroutine=false:=by rfl) (c:sc.isGenerator=false:=by rfl) (d:N.Nodup:=by decide +kernel) (e:N.take P.length=P:=by rfl) (f:∀ x∈P,sc.names.lookup x=iE .local\/sc.names.lookup x=iE .cell:=by decide +kernel) (g:∀ y∈sc.names,y.2≠.free:=by decide +kernel):FnScope N P sc:=⟨a,b,c,d,e,f,g⟩
end L2.D2
namespace L2.D2
open PySem PySem.Spec PyProof.Rows PySem.W
section
variable {prog:iQ} {w:iR} {A:iX} {E:iH->iK->Prop} {s:iK}
variable {z TI TO i1 i2:Addr} {fp1 fp2:List Addr} {n1 n2 i:Nat} {P1 P2:Nat->iH->Prop} {S1 S2:Nat->Heap->Prop} {a b:iH}
abbrev xf (h:Heap) (z TI TO:Addr) (p:Nat):Prop:=∃ c:Bool,h.get? z=iE { cls:=.type "zip",dict:=iG,data:=.fields #[i6 p,.bool c,.bool iI,.ref TI,.ref TO],slots:=#[] }
theorem YZ {p:Nat} {Q:Bool->iK->Prop} (h:xf s.heap z TI TO p) (hp:∃ o,s.heap.get? p=iE o) (a:∀ h',xf h' z TI TO p->bC z s.heap h'->Q iI { s with heap:=h' }):iM (model prog w) A (aT (.ref z)) Q E s:=by
 obtain ⟨c,h⟩:=h;obtain ⟨o,l⟩:=hp;unfold aT;refine iF (i3 h rfl (x:=i6 p) rfl ?_);show iM _ _ (loadIfAlive (Int.toNat p) >>= _) _ _ _;rw [cB];refine iF (kdx_alive l ?_);rw [Ab (by simp)];refine iF (i3 h rfl (x:=.bool c) rfl ?_);cases c with
 | true=>rw [Ab (by decide)];exact iL (a s.heap ⟨iJ,h⟩ ⟨rfl,λ_ _=>rfl⟩)
 | false=>rw [Aa (by decide)];refine iF (lc h (by simp) λh₁ r k=>iL (a h₁ ⟨iJ,r⟩ k))
theorem qaQ {p:Nat} {Q:iH->iK->Prop} (D:Apart2 z TI TO i1 i2 fp1 fp2) (O:lK prog w A i1 fp1 n1 P1 S1) (R:lK prog w A i2 fp2 n2 P2 S2)
  (b:xf s.heap z TI TO p) (hp:∃ o,s.heap.get? p=iE o) (Z:i8 s.heap TI (.ref i1) (.ref i2)) (h1:S1 i s.heap) (h2:S2 i s.heap) (g:i < n1) (l:i < n2)
  (n:∀ x y h' tk,P1 i x->P2 i y->xf h' z TI TO p->S1 (i+1) h'->S2 (i+1) h'->i8 h' s.heap.objs.size x y ->(∀ c o,c≠z->c≠i1->c≠i2->s.heap.get? c=iE o->h'.get? c=iE o)->Q (.ref s.heap.objs.size) { s with heap:=h',toks:=tk }) :
  iM (model prog w) A (Builtin.«zip.__next__» ⟨[.ref z],[]⟩) (λfin s'=>∃ v,fin=.done (.ret v)/\Q v s') E s:=by
 obtain ⟨B,a⟩:=id b;show iM _ _ (field (.ref z) 2 >>= _) _ _ _; refine iF (i3 a rfl (x:=.bool iI) rfl ?_);show iM _ _ (field (.ref z) 3 >>= _) _ _ _; refine iF (i3 a rfl (x:=.ref TI) rfl ?_); refine iF (iZ Z rfl ?_);show iM _ _ (aT (.ref z) >>= _) _ _ _;refine iF (YZ b hp λh₁ r k=>?_);simp only [cW,if_false];refine iF ?_;rw [<-Array.forIn_toList];simp only [dR,fI];refine iF (iF (iW ?_)); show iM _ _ (aQ (.ref i1) >>= _) _ _ _;refine iF (O.item i _ _ _ g (O.frame _ _ _ h1 λc d o e=>k.extBut _ _ (λq=>D.z1 (q ▸ d)) e) λx u X hx N j=>iL ?_);refine iL ?_;refine iF (iF (iW ?_)); show iM _ _ (aQ (.ref i2) >>= _) _ _ _;refine iF (R.item i _ _ _ l (R.frame _ _ _ h2 λc d o e=>(j.2 _ (λq=>D.a12 (q ▸ d))).trans (k.extBut _ _ (λq=>D.z2 (q ▸ d)) e)) λy h L m M f=>iL ?_);refine iL (iL ?_);show iM _ _ (newTuple [x,y] >>= _) _ _ _;refine iF (wpAny_newTuple ?_);have hsz:h.objs.size=s.heap.objs.size:=by rw [f.1,j.1,k.1]
 refine iL ⟨_,rfl,?_⟩;show Q (.ref h.objs.size) _;rw [hsz];have up:∀ c o,h.get? c=iE o->(h.push { cls:=.type "tuple",data:=.seq #[x,y] }).get? c=iE o:=λc o e=>aa _ e;obtain ⟨t,r⟩:=r;refine n x y _ L hx m ⟨t,up _ _ ((f.2 _ D.i2z.symm).trans ((j.2 _ D.i1z.symm).trans r))⟩ (O.frame _ _ _ N λc d o e=>up _ _ ((f.2 _ (λq=>D.a21 (q ▸ d))).trans e)) (R.frame _ _ _ M λc d o e=>up _ _ e) (by rw [<-hsz]; exact ao _ rfl) λc o k1 k2 k3 e=>up c o ((f.2 _ k3).trans ((j.2 _ k2).trans (k.extBut _ _ k1 e)))
theorem qdh {p:Nat} {Q:Fin->iK->Prop} (D:Apart2 z TI TO i1 i2 fp1 fp2) (O:lK prog w A i1 fp1 n1 P1 S1) (R:lK prog w A i2 fp2 n2 P2 S2)
  (g:xf s.heap z TI TO p) (hp:∃ o,s.heap.get? p=iE o) (Z:i8 s.heap TI (.ref i1) (.ref i2)) (h1:S1 i s.heap) (h2:S2 i s.heap) (C:i=n1\/(i < n1/\i=n2))
  (l:∀ h' tk e,(∀ c o,c≠z->c≠i1->c≠i2->s.heap.get? c=iE o->h'.get? c=iE o)->(∃ o,h'.get? e=iE o/\o.cls=.type "StopIteration")->E (.ref e) { s with heap:=h',toks:=tk }) :
  iM (model prog w) A (Builtin.«zip.__next__» ⟨[.ref z],[]⟩) Q E s:=by
 obtain ⟨m,a⟩:=id g;show iM _ _ (field (.ref z) 2 >>= _) _ _ _; refine iF (i3 a rfl (x:=.bool iI) rfl ?_);show iM _ _ (field (.ref z) 3 >>= _) _ _ _; refine iF (i3 a rfl (x:=.ref TI) rfl ?_); refine iF (iZ Z rfl ?_);show iM _ _ (aT (.ref z) >>= _) _ _ _;refine iF (YZ g hp λh₁ r k=>?_);simp only [cW,if_false];refine iF ?_;rw [<-Array.forIn_toList];simp only [dR,fI];refine iF (iF (iW ?_)); show iM _ _ (aQ (.ref i1) >>= _) _ _ _;have f1:S1 i h₁:=O.frame _ _ _ h1 λc d o e=>k.extBut _ _ (λq=>D.z1 (q ▸ d)) e;rcases C with rfl | ⟨hlt,rfl⟩
 ·refine iF (O.done _ _ _ f1 λu e j b=>?_);exact l u s.toks e (λc o k1 k2 _ x=>j _ _ k2 (k.extBut _ _ k1 x)) b
 ·refine iF (O.item i _ _ _ hlt f1 λx u X hx N j=>iL ?_);refine iL ?_;refine iF (iF (iW ?_)); show iM _ _ (aQ (.ref i2) >>= _) _ _ _;refine iF (R.done _ _ _ (R.frame _ _ _ h2 λc d o e=>(j.2 _ (λq=>D.a12 (q ▸ d))).trans (k.extBut _ _ (λq=>D.z2 (q ▸ d)) e)) λh e f b=>?_);exact l h X e (λc o k1 k2 k3 x=>f _ _ k3 ((j.2 _ k2).trans (k.extBut _ _ k1 x))) b
theorem VT {p:Nat} {Q:Option iH->iK->Prop} (D:Apart2 z TI TO i1 i2 fp1 fp2) (O:lK prog w A.in1 i1 fp1 n1 P1 S1) (R:lK prog w A.in1 i2 fp2 n2 P2 S2)
  (h:xf s.heap z TI TO p) (hp:∃ o,s.heap.get? p=iE o) (Z:i8 s.heap TI (.ref i1) (.ref i2)) (h1:S1 i s.heap) (h2:S2 i s.heap) (f:i < n1) (l:i < n2)
  (a:∀ x y h' tk,P1 i x->P2 i y->xf h' z TI TO p->S1 (i+1) h'->S2 (i+1) h'->i8 h' s.heap.objs.size x y ->(∀ c o,c≠z->c≠i1->c≠i2->s.heap.get? c=iE o->h'.get? c=iE o)->Q (iE (.ref s.heap.objs.size)) { s with heap:=h',toks:=tk }):iM (model prog w) A (k4 (.ref z)) Q E s:=by
 have m:s.TypeIs (.ref z) "zip":=let ⟨_,e⟩:=h; ⟨_,e,rfl⟩
 unfold k4;exact iF (j5 (iU (name:=aP "__next__") m bB (iV bB m cY
  (qaQ D O R h hp Z h1 h2 f l λx y h' tk k g b a5 a6 a7 a8=>iL (a x y h' tk k g b a5 a6 a7 a8)) (cO _))))
theorem Us {p:Nat} {Q:Option iH->iK->Prop} (D:Apart2 z TI TO i1 i2 fp1 fp2) (O:lK prog w A.in1 i1 fp1 n1 P1 S1) (R:lK prog w A.in1 i2 fp2 n2 P2 S2)
  (h:xf s.heap z TI TO p) (hp:∃ o,s.heap.get? p=iE o) (Z:i8 s.heap TI (.ref i1) (.ref i2)) (h1:S1 i s.heap) (h2:S2 i s.heap) (C:i=n1\/(i < n1/\i=n2))
  (f:∀ h' tk,(∀ c o,c≠z->c≠i1->c≠i2->s.heap.get? c=iE o->h'.get? c=iE o)->Q iG { s with heap:=h',toks:=tk }):iM (model prog w) A (k4 (.ref z)) Q E s:=by
 have m:s.TypeIs (.ref z) "zip":=let ⟨_,e⟩:=h; ⟨_,e,rfl⟩
 unfold k4;refine iF (j5 (iU (name:=aP "__next__") m bB (iV bB m cY (qdh D O R h hp Z h1 h2 C λh' tk e k a=>?_) (cO _))));obtain ⟨o,l,d⟩:=a;refine iF (k9 (T := "StopIteration") (b:=iJ) ⟨o,l,d⟩ mj ?_);exact iL (f _ _ k)
end
def N4 (b q:Nat):Prop:=q≠b+4/\q≠b+3/\q≠b/\q≠b+1
variable {b:Nat}
theorem lo4 {q:Nat} (h:q < b):N4 b q:=by unfold N4; lia
theorem hi4 {q:Nat} (h:b+4 < q):N4 b q:=by unfold N4; lia
theorem mi4:N4 b (b+2):=by unfold N4; lia
end L2.D2
namespace L2.D2
open PySem PySem.Spec PyProof.Rows
variable {X:Cx} {C:Ct} {own:List Nat} {mr:Mo} {x:Str} {pos':Pos} {ms:List PM} {ps:List Str} {cv:Str->iH} {i:Nat}
section
variable {own':List Nat} {as:List AK} {G:jD} {fr:wT} {m ma mb:Mo} {a b e:Expr} {es:List Expr} {p pos px:Pos} {k j:Nat} {fe f fa fb:qY}
theorem cN (F:Zk X.prog X.w X.K X.mg X.base cv j x ps ms mr G) (g:PA X (e::es) (tAr C own as fr)) (f:Room k X.A:=by assumption) (h:j<=k:=by decide) (hx:yI (CXk X.prog X.w) X C.E:=by exact qcO) (hg:Gl X x:=by rfl) (v:C.cv=cv:=by rfl) (n:C.K=X.K:=by rfl) (s:ms=as.map KW:=by rfl) (c:∀ i∈ju as,i∈own:=by decide) (nd:(ju as).Nodup:=by decide) (a:frA as<=1:=by decide) (o:∀ i∈C.ox,i∈own:=by exact wW rfl)
  (b:Dbg x:=by decide) (d:iN (e::es) X.env=(iI,eval e X.env)::iN es X.env:=by exact jW rfl) (l:(j6 pos (iN es X.env)).any (·.1)=false:=by exact zW rfl):PE X (.Call (.Name x p) (e::es) [] pos) (tE C own mr (ql as G fr)):=
 qQ F f h hx hg g v n s c nd a o b d l
theorem sl {x:Str} {px:Pos} (g:PA X es (tAr C own as fr)) (a:X.N[i]?=iE x:=by rfl) (c:Vis X.env.scope x:=by exact bE rfl) (l:i∈own:=by decide) (h:iN (.Name x px::es) X.env=(iI,eval (.Name x px) X.env)::iN es X.env:=by rfl)
  (hd:Dbg x:=by decide) (d:Cdk x:=by decide):PA X (.Name x px::es) (tAr C own (.sl i::as) (kj fr)):=kx a c l g h hd d
theorem vO {x:Str} (h:X.N[i]?=iE x:=by rfl) (c:Vis X.env.scope x:=by exact bE rfl) (l:i∈own:=by decide) (hd:Dbg x:=by decide) (d:Cdk x:=by decide):PE X (.Name x pos) (tE C own .any (qd i)):=qfg h c l hd d
theorem se {x:Str} {pos':Pos} (a:PE X e (tE C own m fe)) (b:decide X.N.Nodup=true:=by kernel_rfl) (hi:X.N[i]?=iE x:=by rfl) (hx:Loc X.env.scope x:=by first | exact bE rfl | exact cP rfl) (h:m≠.any:=by decide) (o:i∉C.io:=by exact yN rfl) (c:lB e (iE (.Name x pos')) pos.line X.env=pure false:=by rfl)
  (f:X.fn x=iJ\/X.env.scope.names.lookup x=iE .local:=by first | exact .inl rfl | exact .inr rfl):PS X (.Assign [.Name x pos'] e pos) (tSt C own (vL own [i]) (jx i fe)):=qfm (Ae b) hi hx a h o c f
theorem sO {x:Str} {pos':Pos} (a:PE X e (tE C own .fr fe)) (b:decide X.N.Nodup=true:=by kernel_rfl) (hi:X.N[i]?=iE x:=by rfl) (hx:Loc X.env.scope x:=by first | exact bE rfl | exact cP rfl) (o:i∉C.io:=by exact yN rfl) (c:lB e (iE (.Name x pos')) pos.line X.env=pure false:=by rfl)
  (h:X.fn x=iJ\/X.env.scope.names.lookup x=iE .local:=by first | exact .inl rfl | exact .inr rfl):PS X (.Assign [.Name x pos'] e pos) (tSt C own (i::vL own [i]) (jx i fe)):=qcG (Ae b) hi hx a o c h
theorem gn {x:Str} (a:decide X.N.Nodup=true:=by kernel_rfl) (hi:X.N[i]?=iE x:=by rfl) (hx:Loc X.env.scope x:=by first | exact bE rfl | exact cP rfl) (l:i∉own:=by decide) (o:i∉C.io:=by exact yN rfl) (h:X.fn x=iJ\/X.env.scope.names.lookup x=iE .local:=by first | exact .inl rfl | exact .inr rfl):PG X (.Name x pos) (tGd C own (gNm i)):=YB (Ae a) hi hx l o h
theorem ix (g:PE X a (tE C own ma fa)) (d:PE X b (tE C own mb fb)) (h:Room k X.A:=by assumption) (c:JG b:=by exact λ_ _=>rfl) (n:C.K=X.K:=by rfl) (f:ma≠.any:=by decide):PE X (.Subscript a b pos) (tE C own .sh (d2 ixD fa fb)):=qkD n h.units g d c f
theorem tv (h:PE X e (tE C own m f)) (n:C.K=X.K:=by rfl) (i:∀ whole,isTrue e X.env whole=(do let v <-whole; standAt e.pos; holding [v] (truthy v)):=by exact λ_=>rfl):PT X e (tT C own (we f)):=qfk n h i
end
noncomputable def tgN:Expr->List Str
 | .Name x _=>[x]
 | .Tuple es _ _=>es.flatMap λe=>match e with
  | .Name x _=>[x]
  | _=>[]
 | _=>[]
noncomputable def cNm (tg:Expr) (N:List Str) (cap:List Nat):List Str:=tgN tg++cap.map λk=>N.getD k Str.empty
section
variable {elt iter tg:Expr} {ifs:List Expr} {scope:lU} {pos spos:Pos} {fi:wT} {g:D->Sl->Out Sl} {ft:ua} {fe:qY} {me:Mo} {nt:Nat} {cap:List Nat}
theorem gC (a:decide X.N.Nodup=true:=by kernel_rfl) (hi:X.N[i]?=iE x:=by rfl) (hx:Loc X.env.scope x:=by first | exact bE rfl | exact cP rfl) (l:i∉own:=by decide) (o:i∉C.io:=by exact yN rfl) (h:X.fn x=iJ\/X.env.scope.names.lookup x=iE .local:=by first | exact .inl rfl | exact .inr rfl):PG X (.Name x pos) (tGd C own (gNm i)):=YB (Ae a) hi hx l o h
theorem cmp (hi:PI X tg iter (tIt C own fi)) (i:∀ fp L s' H',PE (jy X scope (cNm tg X.N cap) fp L s' H') elt (tE (ctC C nt cap.length) (wP own nt cap) me fe)) (hg:∀ fp L s' H',PG (jy X scope (cNm tg X.N cap) fp L s' H') tg (tGd (ctC C nt cap.length) (wP own nt cap) g):=by exact λ_ _ _ _=>gC) (ht:∀ fp L s' H',PTs (jy X scope (cNm tg X.N cap) fp L s' H') ifs (tT (ctC C nt cap.length) (wP own nt cap) ft):=by exact λ_ _ _ _=>YC)
  (P:X.calm=true:=by rfl) (bs:scB X.env.scope.names scope=true:=by kernel_rfl) (b:qjP X.env.scope.names X.N scope (cNm tg X.N cap) nt cap=true:=by kernel_rfl) (j:me≠.any:=by decide) (c:∀ x,lq iter X.env x=pure x:=by intro _; rfl) :
  PE X (.ListComp elt [⟨tg,iter,ifs,0⟩] scope pos) (tE C own .fr (qI own nt cap fi g ft fe)):=qfx P (qhY rfl bs) (qed rfl rfl b) hi hg ht i j c
theorem qfR {i:Nat} {x:Str} (hi:PI X tg iter (tIt C own fi)) (h:∀ fp L s' H',PE (jy X scope (cNm tg X.N cap) fp L s' H') elt (tE (ctC C nt cap.length) (wP own nt cap) me fe)) (hg:∀ fp L s' H',PG (jy X scope (cNm tg X.N cap) fp L s' H') tg (tGd (ctC C nt cap.length) (wP own nt cap) g):=by exact λ_ _ _ _=>gC) (ht:∀ fp L s' H',PTs (jy X scope (cNm tg X.N cap) fp L s' H') ifs (tT (ctC C nt cap.length) (wP own nt cap) ft):=by exact λ_ _ _ _=>YC)
  (a:decide X.N.Nodup=true:=by kernel_rfl) (V:X.N[i]?=iE x:=by rfl) (hx:Loc X.env.scope x:=by first | exact bE rfl | exact cP rfl) (P:X.calm=true:=by rfl) (bs:scB X.env.scope.names scope=true:=by kernel_rfl) (b:qjP X.env.scope.names X.N scope (cNm tg X.N cap) nt cap=true:=by kernel_rfl) (j:me≠.any:=by decide) (o:i∉C.io:=by exact yN rfl)
  (G:lB (.ListComp elt [⟨tg,iter,ifs,0⟩] scope pos) (iE (.Name x pos')) spos.line X.env=pure true:=by rfl) (c:∀ x,lq iter X.env x=pure x:=by intro _; rfl) (Y:X.fn x=iJ\/X.env.scope.names.lookup x=iE .local:=by first | exact .inl rfl | exact .inr rfl) :
  PS X (.Assign [.Name x pos'] (.ListComp elt [⟨tg,iter,ifs,0⟩] scope pos) spos) (tSt C own (i::vL own [i]) (jx i (qI own nt cap fi g ft fe))):=qcN (Ae a) V hx P (qhY rfl bs) (qed rfl rfl b) hi hg ht h j o G c Y
end
section
variable {P:iQ} {w:iR} {K:Frag} {mg:Str->Option iH} {base:Heap} {st:Stmt} {N:List Str} {k:Nat} {fb:qR}
theorem dW (own':List Nat) (T:kb K mg x st ps)
  (a:∀ (cdv:iH) (f:Addr) (A:iX) (outer:List Env) (s:iK) (H:Hp) (E:XK),Room k (A.deeper (mm x (ja st) s.heap.objs.size f cdv)) ->PSs (cxk P w K mg base N x (ja st) f cdv A outer s H E) (va st) (tSt (qjN K cv E ms mr) (kn 0 ms) own' fb))
  (S:FnScope N ps (ja st):=by exact fsc) (hl:ms.length=ps.length:=by rfl) (g:∀ i∈Yy 0 ms,i∈own':=by exact wW rfl) (r:mr=.sh\/∀ ds ρ,(fb (qt N ds))≠.ok (.nx,ρ):=by exact .inl rfl):Zk P w K mg base cv (k+1) x ps ms mr (jQ N ms fb):=qeb T S a hl g r
end
end L2.D2
namespace L2.D2
open PySem
end L2.D2
namespace L2.D2
open PySem PySem.SetTable
end L2.D2
namespace L2.D2
open PySem PySem.Spec PyProof.Rows
def qmc (x y:Str):Prop:=(y.length == 0)=iI/\(ip x y).1.length<=sizeLine/\(ip x y).2.1.length<=sizeLine/\(ip x y).2.2.length<=sizeLine
instance:∀ x y,Decidable (qmc x y):=λx y=>inferInstanceAs (Decidable (_/\_))
end L2.D2
namespace PySem
open Sem (wp)
open Builtin PySem.Spec PyProof.Rows
end PySem
namespace L2.D2
open PySem PySem.Spec PyProof.Rows
noncomputable def qaR (i:Nat) (fe:qY):qY:=λρ=>if wQ ρ[i]?=iJ then (fe ρ).bind λp=>match p.2[i]? with
 | some (iE (.lst es))=>(match p.1 with
  | .int k=>if 0<=k/\k.toNat<=2000 then (match es[k.toNat]? with
   | some d=>.ok (d,p.2.set i (iE (.lst (es.eraseIdx k.toNat))))
   | none=>.bad) else .bad
  | _=>.bad)
 | _=>.bad
 else .bad
theorem IsL.eraseAt {K:Frag} {F:Hp}:∀ {vs:List V} {ds:List D} (k:Nat),IsL K F vs ds->IsL K F (vs.eraseIdx k) (ds.eraseIdx k)
 | _,_,_,.nil=>.nil
 | _,_,0,.cons _ t=>t
 | _,_,k+1,.cons h t=>.cons h (IsL.eraseAt k t)
variable {X:Cx} {C:Ct} {own:List Nat} {i:Nat} {x:Str}
section
variable {m:Mo} {e:Expr} {fe:qY} {px apos cpos:Pos}
theorem qfS (K:X.N[i]?=iE x) (G:Vis X.env.scope x) (n:i∈own) (J:PE X e (tE C own m fe)) (I:m≠.any:=by decide)
  (hd:Dbg x:=by decide) (s:Cdk x:=by decide)
  (c:j0 (.Name x px) "pop" X.env (eval (.Name x px) X.env)=eval (.Name x px) X.env:=by rfl)
  (w:((j6 cpos (iN [e] X.env)).all (λx=>!x.1)&&(lA cpos (j9 [] X.env)).all (λx=>x.1.isSome)
   && decide ([e].length+([]:List i9).length+(if ([]:List i9).isEmpty then 0 else 1) < 30))=true:=by exact kN rfl)
  (b:(apos.endLine == cpos.line)=true:=by rfl) (A:iN [e] X.env=[(iI,eval e X.env)]:=by exact qE rfl) :
  PE X (.Call (.Attribute (.Name x px) "pop" apos) [e] [] cpos) (tE C own .sh (qaR i fe)):=by
 refine jE (WP b9 PySem.F.slot_list_pop PySem.F.type_list_pop Yq (wK K G hd s) (qM (wX J I) jB A) c w b A rfl) λσ H Q ⟨F,ρ,z,h⟩=>?_;unfold qaR at h;by_cases q:wQ ρ[i]?=iJ
 ·rw [Aa q] at h;obtain ⟨ds,hd⟩:=JS q;obtain ⟨a,h1,h2,xs,L,P⟩:=z.ow i _ n hd;refine ⟨.ref a,h1,.inl ⟨rfl,xs,.inl (.inl L)⟩,F,ρ,z,Po.bind h λv F1 H1 d ρ1 r S j po=>?_⟩;cases g:ρ1[i]? with
  | none=>simp only [g] at po; exact po.elim
  | some o=>
   cases o with
   | none=>simp only [g] at po; exact po.elim
   | some dd=>
    simp only [g] at po;cases dd with
    | lst es=>
     cases d with
     | int k=>
      simp only at po;by_cases B:0<=k/\k.toNat<=2000
      ·rw [Aa B] at po;cases f:es[k.toNat]? with
       | none=>simp only [f] at po; exact po.elim
       | some y=>
        simp only [f] at po;obtain ⟨T,e1,R,vs,M,t⟩:=r.ow i _ n g;rw [h1] at e1; cases e1;cases j;have p:k.toNat < es.length:=(aD.mp f).1;have l:k.toNat < vs.length:=by rw [t.length]; exact p
        obtain ⟨O,D,E⟩:=t.get (aw l);rw [f] at D;cases D;obtain ⟨r2,c2⟩:=r.write (u:=.lst (vs.eraseIdx k.toNat)) (d:=.lst (es.eraseIdx k.toNat)) n h1 ⟨_,qm,t.eraseAt _⟩;have V:my k vs.length=iE k.toNat:=by unfold my;simp only [];rw [Ab (show ¬k < 0 by lia),Aa (by rw [aS,decide_eq_true_eq,decide_eq_true_eq]; lia)]
        exact ⟨a,vs,k,k.toNat,_,rfl,rfl,M,by lia,by lia,V,aw l,po _ F1 _ r2 c2 E⟩
      ·rw [Ab B] at po; exact po.elim
     | _=>exact po.elim
    | _=>exact po.elim
 ·rw [Ab q] at h; exact h.elim
end
def SgP (x:Str) (i:Nat) (v:iH):Prop:=∃ c u,x.cps[i]?=iE c/\v=.str ⟨#[c]⟩ u
def SgI (it:Addr) (x:Str) (t:Tok) (i:Nat) (h:Heap):Prop:=h.IsStrIter it "str_ascii_iterator" x t i
def ZS2 (h:Heap) (b i:Nat):Prop:=(i=0/\l7 h (b+4) (b+2) (b+3) .none/\∃ u v,i8 h (b+3) u v)\/∃ p,xf h (b+4) (b+2) (b+3) p/\b+4 < p/\∃ u v,i8 h p u v
def qin (x y:Str) (j:Nat) (p:Key×iH×iH):Prop:=∃ c e u,x.cps[j]?=iE c/\y.cps[j]?=iE e/\p.1=.inr ⟨#[c]⟩/\p.2.2=.str ⟨#[e]⟩ u
variable {prog:iQ} {w:iR} {A:iX} {b:Nat} {y:Str} {t1 t2:Tok} {s:iK} {E:iH->iK->Prop}
section
variable {R:mR->iK->Prop}
section
variable {Q:Option iH->iK->Prop}
theorem qdi:Apart2 (b+4) (b+2) (b+3) b (b+1) [b] [b+1]:=⟨by lia,by lia,by lia,by lia,by lia,by lia,by lia,by lia,by lia,by lia,by simp,by simp,by simp,by simp,by simp,by simp⟩
theorem qfT (B:A.handled=iG) (t:ZS2 s.heap b i) (Z:i8 s.heap (b+2) (.ref b) (.ref (b+1))) (h1:SgI b x t1 i s.heap) (h2:SgI (b+1) y t2 i s.heap) (r:i < x.cps.size) (q:i < y.cps.size) (D:b+4 < s.heap.objs.size)
  (C:∀ u v h' tk,SgP x i u->SgP y i v->ZS2 h' b (i+1)->SgI b x t1 (i+1) h'->SgI (b+1) y t2 (i+1) h'->i8 h' s.heap.objs.size u v->(∀ c o,N4 b c->s.heap.get? c=iE o->h'.get? c=iE o)->Q (iE (.ref s.heap.objs.size)) { s with heap:=h',toks:=tk }) :
  iM (model prog w) A (k4 (.ref (b+4))) Q E s:=by
 have O:lK prog w A.in1 b [b] x.cps.size (SgP x) (SgI b x t1):=fJ (A:=A.in1) B b x t1;have R:lK prog w A.in1 (b+1) [b+1] y.cps.size (SgP y) (SgI (b+1) y t2):=fJ (A:=A.in1) B (b+1) y t2;rcases t with ⟨_,z,u,v,Y⟩ | ⟨p,z,hp,a,c,g⟩
 ·exact Uj qdi O R z Z Y h1 h2 r q λk j h' tk p1 p2 f _ m l h d=>C k j h' tk p1 p2 (.inr ⟨_,⟨iI,f⟩,D,_,_,h⟩) m l h λc o n e=>d c o n.1 n.2.1 n.2.2.1 n.2.2.2 e
 ·exact VT qdi O R z ⟨_,g⟩ Z h1 h2 r q λk j h' tk p1 p2 f m l h d=>C k j h' tk p1 p2 (.inr ⟨p,f,hp,a,c,d p _ (hi4 hp).1 (hi4 hp).2.2.1 (hi4 hp).2.2.2 g⟩) m l h λc o n e=>d c o n.1 n.2.2.1 n.2.2.2 e
theorem qio (d:A.handled=iG) (h:ZS2 s.heap b i) (Z:i8 s.heap (b+2) (.ref b) (.ref (b+1))) (h1:SgI b x t1 i s.heap) (h2:SgI (b+1) y t2 i s.heap) (f:i=x.cps.size)
  (j:∀ h' tk,(∀ c o,N4 b c->s.heap.get? c=iE o->h'.get? c=iE o)->Q iG { s with heap:=h',toks:=tk }):iM (model prog w) A (k4 (.ref (b+4))) Q E s:=by
 have O:lK prog w A.in1 b [b] x.cps.size (SgP x) (SgI b x t1):=fJ (A:=A.in1) d b x t1;have R:lK prog w A.in1 (b+1) [b+1] y.cps.size (SgP y) (SgI (b+1) y t2):=fJ (A:=A.in1) d (b+1) y t2;rcases h with ⟨_,z,u,v,Y⟩ | ⟨p,z,hp,a,c,g⟩
 ·exact Zu qdi O R z Z Y h1 h2 (.inl f) λh' tk e=>j h' tk λc o n=>e c o n.1 n.2.1 n.2.2.1 n.2.2.2
 ·exact Us qdi O R z ⟨_,g⟩ Z h1 h2 (.inl f) λh' tk e=>j h' tk λc o n=>e c o n.1 n.2.2.1 n.2.2.2
end
theorem qaS {d:Nat} {t1 t2:Tok} (P:A.in1.handled=iG) (E:b+4 < d) (hn:x.cps.size=y.cps.size) (hz:x.cps.size<=1000):∀ (n i:Nat) (s:iK) (kvs:List (Key×iH)),x.cps.size - i=n->i<=x.cps.size->kvs.length<=i->ZS2 s.heap b i->i8 s.heap (b+2) (.ref b) (.ref (b+1))->SgI b x t1 i s.heap->SgI (b+1) y t2 i s.heap->s.heap.DictOf (qP prog w) d kvs ->(∀ (h':Heap) (tk:Nat) (ps:List (Key×iH×iH)),ps.length=n->(∀ j p,ps[j]?=iE p->qin x y (i+j) p)->h'.DictOf (qP prog w) d (ps.foldl (λl p=>stored l p.1 p.2.2) kvs)->(∀ q o,q < b->s.heap.get? q=iE o->h'.get? q=iE o)->R (.ok (.ret .none)) { s with heap:=h',toks:=tk }) ->lI (model prog w) A (.builtin "dict.update.loop" ⟨[.ref d,.ref (b+4),i6 i,.none],[]⟩) R s:=by
 intro n
 induction n with
 | zero=>intro i s kvs L hi X t Z h1 h2 hd M;refine i4 vD ?_;rw [ba je _];show iM _ A.in1 (k4 (.ref (b+4)) >>= _) _ _ s;refine iF (qio P t Z h1 h2 (by lia) λh' tk Q=>?_);show iM _ A.in1 (ret bX) _ _ _;refine iL (M h' tk [] rfl (λj p e=>by simp at e) ?_ λq o hq e=>Q q o (lo4 hq) e);obtain ⟨o,es,ep,h,r⟩:=hd;exact ⟨o,es,ep,Q d o (hi4 E) h,r⟩
 | succ n T=>
  intro i s kvs L hi X t Z h1 h2 hd M;have F:d < s.heap.objs.size:=let ⟨o,es,ep,h,r⟩:=hd; ay h;refine i4 vD ?_;rw [ba je _];show iM _ A.in1 (k4 (.ref (b+4)) >>= _) _ _ s;refine iF (qfT P t Z h1 h2 (by lia) (by lia) (by lia) λvx vy h' tk hx W v s1 s2 hq kp=>?_);obtain ⟨c,u,ec,rfl⟩:=hx;obtain ⟨e,V,ee,rfl⟩:=W;have U:fh { s with heap:=h',toks:=tk } (.ref s.heap.objs.size) "tuple":=⟨_,hq,rfl⟩
  have G:h'.DictOf (qP prog w) d kvs:=by obtain ⟨o,es,ep,h,r⟩:=hd;exact ⟨o,es,ep,kp d o (hi4 E) h,r⟩
  dsimp only;refine iF (iW (iF ?_));refine wpAny_tryCatch ?_;unfold Builtin.Dict.pairItems;refine iF (lx U ?_);rw [Aa (by decide)];refine iF (iZ hq rfl (iL ?_));show iM _ A.in1 (holding [bL ⟨#[c]⟩ u,bL ⟨#[e]⟩ V] (dictSet d (bL ⟨#[c]⟩ u) (bL ⟨#[e]⟩ V))) _ _ _;have D:xG (aU ⟨#[c]⟩) (bL ⟨#[c]⟩ u)=true:=by simp [xG,eZ]
  refine iW (wpAny_dictSet_pairs (knd:=qP prog w) (k:=(aU ⟨#[c]⟩:Key)) D G (λh2 hd2 m=>?_) (by rw [iT]; lia));have keep:∀ q o,q≠d->N4 b q->s.heap.get? q=iE o->h2.get? q=iE o:=λq o n1 n2 e=>(m.2 q n1).trans (kp q o n2 e);have kd:∀ q o,q≠d->h'.get? q=iE o->h2.get? q=iE o:=λq o n e=>(m.2 q n).trans e;have O:(stored kvs (aU ⟨#[c]⟩:Key) (bL ⟨#[e]⟩ V)).length<=kvs.length+1:=by unfold stored;split <;> simp
  refine iL ⟨lf je _,?_⟩;have N:i6 ((i:Int)+1)=i6 ((i+1:Nat):Int):=by push_cast; rfl
  rw [N];refine T (i+1) _ (stored kvs (aU ⟨#[c]⟩:Key) (bL ⟨#[e]⟩ V)) (by lia) (by lia) (by lia) ?_ (kd _ _ (by lia) (kp _ _ mi4 Z)) ?_ ?_ hd2 λh3 I ps hl hp S k3=>?_
  ·rcases v with ⟨z,_⟩ | ⟨p,⟨f,K⟩,hp,a,c',B⟩
   ·cases z
   ·have J:p≠d:=λz=>by subst z;obtain ⟨od,es,ep,C,Y,g⟩:=G;rw [B] at C;cases C;cases g.1
    exact .inr ⟨p,⟨f,kd _ _ (by lia) K⟩,hp,a,c',kd _ _ J B⟩
  ·obtain ⟨o,h,r⟩:=s1;exact ⟨o,kd b o (by lia) h,r⟩
  ·obtain ⟨o,h,r⟩:=s2;exact ⟨o,kd (b+1) o (by lia) h,r⟩
  ·refine M h3 I ((aU ⟨#[c]⟩,bL ⟨#[c]⟩ u,bL ⟨#[e]⟩ V)::ps) (by rw [aq,hl]) (λj p H=>?_) S λq o hq H=>k3 q o hq (keep q o (by lia) (lo4 hq) H);cases j with
   | zero=>cases H;exact ⟨c,e,V,ec,ee,rfl,rfl⟩
   | succ j=>have:=hp j p H;rw [show i+1+j=i+(j+1) by lia] at this;exact this
end
theorem ZG:lL (.type "zip") "keys"=pure none:=by rw [lh,i5]; kernel_rfl
theorem qdj:lL (.type "zip") "__getattr__"=pure none:=by rw [lh,i5]; kernel_rfl
theorem VU:mK table "zip.__getattribute__"=iE Builtin.«object.__getattribute__»:=entryFor_alias (id' := "object.__getattribute__") (by kernel_rfl) (by decide +kernel) (by decide +kernel) (by kernel_rfl)
theorem QI (a:Addr) (fs:Array iH) (name:Str) (u:Tok) (b:lL (.type "zip") name=pure iG) (h:(["__module__", "__name__", "__qualname__", "__doc__", "__annotations__"]:List Str).contains name=iI) (hsz:name.length+100<=sizeLine):Meets (Builtin.«object.__getattribute__» ⟨[.ref a,.str name u],[]⟩) (λA R s=>s.heap.get? a=iE { cls:=.type "zip",data:=.fields fs }/\raisesAttr (.ref a) name A R s):=
 Meets.of_wp λprog w A R s c=>by
  obtain ⟨hp,g,d,tk,os⟩:=s;obtain ⟨hx,c⟩:=c;have m:(⟨hp,g,d,tk,os⟩:iK).TypeIs (.ref a) "zip":=⟨_,hx,rfl⟩
  unfold Builtin.«object.__getattribute__»;repeat (any_goals (first | assumption | wp_step))
  simp only [h,cW,if_false];repeat (any_goals (first | assumption | wp_step))
  exact wpAny_raiseAttrError c.1 c.2 (attrMsg_fits (by decide +kernel) hsz)
section
theorem Kb {a:Addr} {fs:Array iH} {Q:Option iH->iK->Prop} (c:A.handled=iG) (hx:s.heap.get? a=iE { cls:=.type "zip",data:=.fields fs })
  (h:∀ h' tk,(∀ b o,s.heap.get? b=iE o->h'.get? b=iE o)->Q iG { s with heap:=h',toks:=tk }):iM (model prog w) A (mz (.ref a) "keys") Q E s:=by
 obtain ⟨hp,g,d,tk,os⟩:=s;have m:∀ f,(⟨hp,g,d,f,os⟩:iK).TypeIs (.ref a) "zip":=λ_=>⟨_,hx,rfl⟩
 have f1:=sub_AttributeError;have t:=d4.lookup;have f4:=d4.bind (.ref a);have q:=qdj;have p:=ZG;unfold mz getAttrBy?;refine iF (wpAny_mkText (iF (j5 ?_)));unfold getAttrBy;repeat (any_goals (first | assumption | exact m _ | ((with_reducible show iM _ _ (call (ii "zip.__getattribute__") _ _) _ _ _); refine lM d4 (m _) VU (F.args_zip_getattribute_2 _ _) (QI a fs "keys" _ p (by decide +kernel) (by rw [iT]; decide +kernel)) ⟨hx,c,λh' f e i=>?_⟩) | wp_step))
 obtain ⟨t',V,j⟩:=i.there;show iM _ _ (li _ _ _ _ _ _ _) _ _ _;unfold li;repeat (any_goals (first | assumption | wp_step))
 exact h h' f i.keeps
end
noncomputable def zS3 (h:Heap) (o1 o2:Obj):Heap:=((h.push o1).push o2).push { cls:=.type "tuple",data:=.seq #[.ref h.objs.size,.ref (h.push o1).objs.size] }
noncomputable def zS4 (h:Heap) (o1 o2:Obj):Heap:=(zS3 h o1 o2).push { cls:=.type "tuple",data:=.seq #[.none,.none] }
noncomputable def zS (h:Heap) (o1 o2:Obj):Heap:=(zS4 h o1 o2).push { cls:=.type "zip",data:=.fields #[.none,.bool iI,.bool iI,.ref ((h.push o1).push o2).objs.size,.ref (zS3 h o1 o2).objs.size] }
theorem qdk {prog:iQ} {w:iR} {A:iX} {E:iH->iK->Prop} {s:iK} {Q:Fin->iK->Prop} {a v:iH} {o1 o2:Obj}
  (i1:∀ {A:iX} {E:iH->iK->Prop} {s:iK} {Q:iH->iK->Prop},Q (.ref s.heap.objs.size) { s with heap:=s.heap.push o1 }->iM (model prog w) A (mE a) Q E s)
  (i2:∀ {A:iX} {E:iH->iK->Prop} {s:iK} {Q:iH->iK->Prop},Q (.ref s.heap.objs.size) { s with heap:=s.heap.push o2 }->iM (model prog w) A (mE v) Q E s)
  (h:Q (.done (.ret (.ref (zS4 s.heap o1 o2).objs.size))) { s with heap:=zS s.heap o1 o2 }):iM (model prog w) A (Builtin.«zip.__new__» ⟨[.type "zip",a,v],[]⟩) Q E s:=by
 obtain ⟨hp,g,d,tk,os⟩:=s;have b:=sub_zip;wp_walk using i1,i2
 exact h
abbrev sIt (x:Str) (t:Tok):Obj:={ cls:=.type "str_ascii_iterator",data:=.fields #[.str x t,.int 0 0] }
theorem ZH (hx:x.cps.all (· < 128)=iJ) (D:y.cps.all (· < 128)=iJ):Meets (Builtin.«zip.__new__» ⟨[.type "zip",.str x t1,.str y t2],[]⟩) (λ_ R s=>R (.ok (.ret (.ref (zS4 s.heap (sIt x t1) (sIt y t2)).objs.size))) { s with heap:=zS s.heap (sIt x t1) (sIt y t2) }):=
 .of_wp λprog w A R s h=>qdk (wpAny_pyIter_ascii hx) (wpAny_pyIter_ascii D) ⟨_,rfl,h⟩
section
theorem qaT {t1 t2:Tok} (hx:x.cps.all (· < 128)=iJ) (D:y.cps.all (· < 128)=iJ) {Q:iH->iK->Prop}
  (h:∀ h':Heap,h'.objs.size=s.heap.objs.size+5->l7 h' (s.heap.objs.size+4) (s.heap.objs.size+2) (s.heap.objs.size+3) .none->i8 h' (s.heap.objs.size+2) (.ref s.heap.objs.size) (.ref (s.heap.objs.size+1)) ->i8 h' (s.heap.objs.size+3) .none .none->SgI s.heap.objs.size x t1 0 h'->SgI (s.heap.objs.size+1) y t2 0 h'->(∀ c o,s.heap.get? c=iE o->h'.get? c=iE o)->Q (.ref (s.heap.objs.size+4)) { s with heap:=h' }) :
  iM (model prog w) A (call (.type "zip") [.str x t1,.str y t2]) Q E s:=by
 refine callType_new PySem.F.called_zip (by decide) (PySem.F.typeCall_zip_2 _ _) (PySem.F.newCall_zip_2 _ _) (λobj=>PySem.F.args_object_init_3 obj _ _) PySem.F.entry_zip_new (ZH hx D) ?_;have z1:(s.heap.push (sIt x t1)).objs.size=s.heap.objs.size+1:=bh ..;have z2:((s.heap.push (sIt x t1)).push (sIt y t2)).objs.size=s.heap.objs.size+2:=by rw [bh,z1]
 have a:(zS3 s.heap (sIt x t1) (sIt y t2)).objs.size=s.heap.objs.size+3:=by unfold zS3; rw [bh,z2]
 have z:(zS4 s.heap (sIt x t1) (sIt y t2)).objs.size=s.heap.objs.size+4:=by unfold zS4; rw [bh,a]
 have b:(zS s.heap (sIt x t1) (sIt y t2)).objs.size=s.heap.objs.size+5:=by unfold zS; rw [bh,z]
 have g:(zS s.heap (sIt x t1) (sIt y t2)).get? (zS4 s.heap (sIt x t1) (sIt y t2)).objs.size=iE _:=ao _ rfl;have M:(zS s.heap (sIt x t1) (sIt y t2)).get? (zS3 s.heap (sIt x t1) (sIt y t2)).objs.size=iE _:=aa _ (ao _ rfl);have Y:(zS s.heap (sIt x t1) (sIt y t2)).get? ((s.heap.push (sIt x t1)).push (sIt y t2)).objs.size=iE _:=aa _ (aa _ (ao _ rfl));have Z:(zS s.heap (sIt x t1) (sIt y t2)).get? (s.heap.push (sIt x t1)).objs.size=iE _:=aa _ (aa _ (aa _ (ao _ rfl)));have g1:(zS s.heap (sIt x t1) (sIt y t2)).get? s.heap.objs.size=iE _:=aa _ (aa _ (aa _ (aa _ (ao _ rfl))));show _/\_;rw [z2,a,z] at g;rw [z1,z2] at Y;rw [a] at M;rw [z1] at Z;rw [z];exact ⟨⟨_,g,rfl⟩,h _ b g Y M ⟨_,g1,rfl,rfl⟩ ⟨_,Z,rfl,rfl⟩ λc o x=>aa _ (aa _ (aa _ (aa _ (aa _ x))))⟩
theorem ZI {t1 t2:Tok} {Q:iH->iK->Prop} (c:A.handled=iG) (hsz:s.heap.objs.size=b+5) (n:x.cps.size=y.cps.size) (k:x.cps.size<=1000)
  (z:l7 s.heap (b+4) (b+2) (b+3) .none) (Z:i8 s.heap (b+2) (.ref b) (.ref (b+1))) (Y:i8 s.heap (b+3) .none .none) (s1:SgI b x t1 0 s.heap) (s2:SgI (b+1) y t2 0 s.heap)
  (h:∀ (h':Heap) (tk:Nat) (ps:List (Key×iH×iH)),ps.length=x.cps.size->(∀ j p,ps[j]?=iE p->qin x y j p)->h'.DictOf (qP prog w) (b+5) (ps.foldl (λl p=>stored l p.1 p.2.2) [])->(∀ q o,q < b->s.heap.get? q=iE o->h'.get? q=iE o)->Q (.ref (b+5)) { s with heap:=h',toks:=tk }) :
  iM (model prog w) A (call (.type "dict") [.ref (b+4)]) Q E s:=by
 refine callType_codes (Q₁:=λobj d=>obj=.ref s.heap.objs.size/\d={ s with heap:=s.heap.push { cls:=.type "dict",data:=.dict #[] } }) F.kt_called_dict (F.kt_typeCall_dict_1 _) F.entry_dict_init (kt_code_dict_new _ ⟨rfl,rfl⟩) ?_;rintro obj d ⟨rfl,rfl⟩;have i:(s.heap.push { cls:=.type "dict",data:=.dict #[] }).DictOf (qP prog w) s.heap.objs.size []:=g8 s.heap;refine ⟨i.typeIs,F.args_dict_init_2 _ _,?_⟩;unfold Builtin.«dict.__init__»;refine iF ?_;unfold Builtin.Dict.selfAndRest;refine iF (wpAny_notOrdered_dict i.typeIs ?_);show iM _ _ (pure (s.heap.objs.size,[bT (b+4)])) _ _ _;refine iL ?_;show iM _ _ (cL "dict.__init__" s.heap.objs.size (.ref (b+4)) [] .none) _ _ _;unfold cL;have up:∀ {q o},s.heap.get? q=iE o->(s.heap.push { cls:=.type "dict",data:=.dict #[] }).get? q=iE o:=λe=>aa _ e;refine iF (lx (T := "zip") ⟨_,up z,rfl⟩ ?_);rw [Aa (by decide)];refine iF (Kb (by exact c) (up z) λh1 H k1=>?_);rw [Aa (show (iG:Option iH).isNone=iJ from rfl)];refine iF (lE ?_);refine iF (wpAny_pyIter_zip (k1 _ _ (up z)) ?_);refine iL ⟨lf je _,?_⟩;rw [hsz] at i ⊢;refine qaS (t1:=t1) (t2:=t2) (A:=A.in1) (show A.in1.in1.handled=iG from c) (by lia) n k x.cps.size 0 _ [] (by lia) (by lia) (by simp) (.inl ⟨rfl,k1 _ _ (up z),_,_,k1 _ _ (up Y)⟩) (k1 _ _ (up Z)) ?_ ?_ ?_ λh2 G ps hl hp hd2 k2=>⟨rfl,h h2 G ps hl (λj p e=>by have:=hp j p e; rw [Nat.zero_add] at this; exact this) hd2 λq o hq e=>k2 q o hq (k1 _ _ (up e))⟩
 ·obtain ⟨o,a,r⟩:=s1;exact ⟨o,k1 _ _ (up a),r⟩
 ·obtain ⟨o,a,r⟩:=s2;exact ⟨o,k1 _ _ (up a),r⟩
 ·obtain ⟨o,es,ep,a,r⟩:=i;exact ⟨o,es,ep,k1 _ _ a,r⟩
end
noncomputable def qkY (x y:Str):List (Key×D):=f7 (λc e=>(aU ⟨#[c]⟩,D.str ⟨#[e]⟩)) x.cps.toList y.cps.toList
noncomputable def VV:D->D->Out D
 | .str x,.str y=>if x.cps.all (· < 128)=iJ/\y.cps.all (· < 128)=iJ/\x.cps.size=y.cps.size/\x.cps.size<=1000 then .ok (.dct ((qkY x y).foldl (λl p=>vX l p.1 p.2) [])) else .bad
 | _,_=>.bad
section
variable {a c:Expr} {fa fb:qY} {ma mb:Mo} {pos p p2 pos2:Pos}
theorem Xa {K:Frag} {F:Hp}:∀ (xs ys:List Nat) (ps:List (Key×iH×iH)),xs.length=ys.length->ps.length=xs.length->(∀ (j:Nat) (p:Key×iH×iH),ps[j]?=iE p->∃ c e u,xs[j]?=iE c/\ys[j]?=iE e/\p.1=aU ⟨#[c]⟩/\p.2.2=bL ⟨#[e]⟩ u) ->∃ v:List (Key×V),IsK K F v (f7 (λc e=>(aU ⟨#[c]⟩,D.str ⟨#[e]⟩)) xs ys)/\mJ qkG v ps
 | [],[],[],_,_,_=>⟨[],.nil,.nil⟩
 | c::xs,e::ys,p::ps,h1,h2,h=>by obtain ⟨v,k,g⟩:=Xa xs ys ps (h8.inj h1) (h8.inj h2) λj q hq=>h (j+1) q hq;obtain ⟨U,b,u,e1,i,E,a⟩:=h 0 p rfl;cases e1;cases i;exact ⟨(aU ⟨#[c]⟩,V.str ⟨#[e]⟩)::v,.cons (.str (JM e)) k,.cons ⟨E.symm,u,a⟩ g⟩
 | [],[],_::_,_,h,_=>by cases h
 | [],_::_,_,h,_,_=>by cases h
 | _::_,[],_,h,_,_=>by cases h
 | _::_,_::_,[],_,h,_=>by cases h
theorem ZJ (T:X.calm=iJ) (hg:Gl X "dict") (S:X.mg "dict"=iG) (P:iO "dict"=iE (.type "dict")) (t:Gl X "zip") (r:X.mg "zip"=iG) (W:PE X a (tE C own ma fa)) (U:PE X c (tE C own mb fb)) (n:ma≠.any:=by decide)
  (A:iN [a,c] X.env=[(iI,eval a X.env),(iI,eval c X.env)]:=by exact qcA rfl rfl) (d:iN [c] X.env=[(iI,eval c X.env)]:=by exact qE rfl)
  (g:iN [.Call (.Name "zip" p2) [a,c] [] pos2] X.env=[(iI,eval (.Call (.Name "zip" p2) [a,c] [] pos2) X.env)]:=by exact qE rfl) :
  PE X (.Call (.Name "dict" p) [.Call (.Name "zip" p2) [a,c] [] pos2] [] pos) (tE C own .fr (d2 VV fa fb)):=by
 refine ⟨?_⟩;intro pins s σ H Q I h;refine j3 (yH I hg S P ?_ (by decide) (by decide));refine bi ?_ (by rw [g]; rfl) rfl;rw [g];show iM _ _ (spliced ((iI,eval (.Call (.Name "zip" p2) [a,c] [] pos2) X.env)::[])) _ _ s;refine cV ?_;refine j3 (yH I t r qap ?_ (by decide) (by decide));refine bi (thn ((qM W (qM U jB d) (by rw [A,d])) pos2 pins s σ H _ I (JT (mb:=mb) n h)) λus s1 ⟨vs,H1,w,r1,i⟩=>?_) (by rw [A,d]) (by rw [d]; rfl);obtain ⟨vx,vy,F,dx,dy,rfl,L,tx,ty,po⟩:=i;obtain ⟨u1,u2,rfl,e1,e2⟩:=qcq r1;cases dx <;> try exact po.elim
 cases dy <;> try exact po.elim
 rename_i x y;unfold VV at po;by_cases hq:x.cps.all (· < 128)=iJ/\y.cps.all (· < 128)=iJ/\x.cps.size=y.cps.size/\x.cps.size<=1000
 ·simp only [Aa hq] at po;obtain ⟨rfl,_⟩:=tx.str;obtain ⟨rfl,_⟩:=ty.str;obtain ⟨t1,rfl⟩:=e1;obtain ⟨t2,rfl⟩:=e2;obtain ⟨i,N,z,M⟩:=hq;refine qaT i N λh' hsz O Z Y E D kp=>?_;refine d9 ?_;refine ZI (s:={ s1 with heap:=h' }) (b:=s1.heap.objs.size) (I.ok.hd T) hsz z M O Z Y E D λh2 tk ps hl m hd2 k2=>?_;have k:∀ q o,s1.heap.get? q=iE o->h2.get? q=iE o:=λq o J=>k2 q o (ay J) (kp q o J);obtain ⟨v,a1,B⟩:=Xa (K:=C.K) (F:=F) x.cps.toList y.cps.toList ps (by simpa using z) (by simpa using hl) λj q e=>by obtain ⟨c',e',u,h1,h2,h3,h4⟩:=m j q e;exact ⟨c',e',u,by simpa using h1,by simpa using h2,h3,h4⟩
  have hp:H1 (s1.heap.objs.size+5)=none:=w.hok.fresh (fU _ _);obtain ⟨s2,c2,hF⟩:=jV (u:=.dK (v.foldl (λl p=>zU l p.1 p.2) [])) L hp;have R:v.length=x.cps.size:=by
   have:=B.length
   lia
  have G:(v.foldl (λl p=>zU l p.1 p.2) ([]:List (Key×V))).length<=sizeLine:=by
   have:=@JW v [];simp at this;rw [iT]
   lia
  have f:(s1.heap.objs.size+5 == k8)=false:=beq_eq_false_iff_ne.mpr (by have:=w.big; lia);exact ⟨.ref (s1.heap.objs.size+5),_,w.laid (o:=.dK (v.foldl (λl p=>zU l p.1 p.2) [])) (t':=tk) k (fU _ _) (Yr G f (Ud B .nil) hd2),rfl,po _ F _ s2 c2 ⟨_,rfl,hp,hF,_,qm,JV a1 .nil⟩⟩
 ·simp only [Ab hq] at po;exact po.elim
end
end L2.D2
set_option maxHeartbeats 4000000
namespace Kx
open PySem PySem.Spec PyProof.Rows L2 L2.D2
noncomputable def top (i:Nat):Stmt:=PySem.Challenge.pw_lookwords_k20_whole_renamed.main.body.getD i (.Pass ⟨0,0,0,0⟩)
noncomputable def CS:List Str:=["NoWords", "NoLook", "NoNumbers", "NoRoom", "Never", "NoLetters"]
noncomputable def FS:List Str:=[]
structure Zt (K:Frag) (mg:Str->Option iH) (cv:Str->iH) (ca:Str->Addr):Prop where
 xs:Xs K cv ca CS "WordError"
 mref:∀ c∈CS,mg c=iE (.ref (ca c))
 xin:∀ c∈CS,dP K (ca c) bmV "ValueError.__new__"=iJ
 fref:∀ x∈FS,mg x=iE (.ref (ca x))
 z_all:mg "all"=iG
 z_bool:mg "bool"=iG
 z_dict:mg "dict"=iG
 z_enumerate:mg "enumerate"=iG
 z_int:mg "int"=iG
 z_isinstance:mg "isinstance"=iG
 z_len:mg "len"=iG
 z_list:mg "list"=iG
 z_max:mg "max"=iG
 z_min:mg "min"=iG
 z_range:mg "range"=iG
 z_reversed:mg "reversed"=iG
 z_set:mg "set"=iG
 z_sorted:mg "sorted"=iG
 z_str:mg "str"=iG
 z_sum:mg "sum"=iG
 z_tuple:mg "tuple"=iG
 z_zip:mg "zip"=iG
 c_LEAST_PLACE:∃ t,mg "LEAST_PLACE"=iE (.int (-3) t)
 c_LETTERS:∃ t,mg "LETTERS"=iE (.str "abcdefghijklmnopqrstuvwxyz" t)
 c_MOST_LETTERS:∃ t,mg "MOST_LETTERS"=iE (.int 6 t)
 c_MOST_PLACE:∃ t,mg "MOST_PLACE"=iE (.int 2 t)
 c_MOST_ROOM:∃ t,mg "MOST_ROOM"=iE (.int 99 t)
 c_MOST_WORDS:∃ t,mg "MOST_WORDS"=iE (.int 6 t)
theorem Jf:iO "all"=iE (.builtin "all"):=by decide +kernel
theorem qfU:iO "bool"=iE (.type "bool"):=by decide +kernel
theorem Ut:iO "dict"=iE (.type "dict"):=by decide +kernel
theorem qip:iO "int"=iE (.type "int"):=by decide +kernel
theorem jp:iO "isinstance"=iE (.builtin "isinstance"):=by decide +kernel
theorem jh:iO "len"=iE (.builtin "len"):=by decide +kernel
theorem wq:iO "list"=iE (.type "list"):=by decide +kernel
theorem qiq:iO "max"=iE (.builtin "max"):=by decide +kernel
theorem qir:iO "min"=iE (.builtin "min"):=by decide +kernel
theorem Kc:iO "range"=iE (.type "range"):=by decide +kernel
theorem Uu:iO "reversed"=iE (.type "reversed"):=by decide +kernel
theorem qaU:iO "set"=iE (.type "set"):=by decide +kernel
theorem xg:iO "sorted"=iE (.builtin "sorted"):=by decide +kernel
theorem qaV:iO "str"=iE (.type "str"):=by decide +kernel
theorem qaW:iO "sum"=iE (.builtin "sum"):=by decide +kernel
theorem vF:iO "tuple"=iE (.type "tuple"):=by decide +kernel
variable {ca:Str->Addr}
theorem rz {X:Cx} {C:Ct} {own own':List Nat} {as:List AK} {e:Expr} {es:List Expr} {fr:wT} {np cpos pos:Pos} (Z:Zt X.K X.mg C.cv ca) (c:Str) (g:PA X (e::es) (tAr C own as fr)) (h:c∈CS:=by decide +kernel) (b:X.ex=[]:=by rfl) (ht:YE X C:=by exact qh3 rfl) (P:X.calm=true:=by rfl) (hg:Gl X c:=by rfl) (hsz:as.length<=1000:=by decide) (o:∀ i∈C.ox,i∈own:=by exact wW rfl) (hd:Dbg c:=by decide)
  (a:iN (e::es) X.env=(iI,eval e X.env)::iN es X.env:=by exact jW rfl) (l:(j6 cpos (iN es X.env)).any (·.1)=false:=by rfl):PS X (.Raise (iE (.Call (.Name c np) (e::es) [] cpos)) iG pos) (tSt C own own' (wj c fr)):=
 qab b ht P hg (Z.mref c h) (Z.xs.val c h) (Z.xin c h) g hsz o hd a l
instance {α:Type}:Inhabited (Out α):=⟨.bad⟩
structure Ev where
 P:iQ
 w:iR
 K:Frag
 mg:Str->Option iH
 base:Heap
 cv:Str->iH
abbrev qA (e0:Ev):=Zk e0.P e0.w e0.K e0.mg e0.base e0.cv
abbrev kh (e0:Ev):=kb e0.K e0.mg
abbrev ZtE (e0:Ev) (ca:Str->Addr):=Zt e0.K e0.mg e0.cv ca
section
variable {e0:Ev}
abbrev yr:Stmt:=top 16
abbrev Uv:List Str:=["thing"]
noncomputable def wt:qR:=(jt (JL (d1 (zg "str") (qd 0)) (JL (d2 eqD (d1 ky (qd 0)) (dC (.int 1))) (yO leD leD (dC (.str "a")) (qd 0) (dC (.str "z"))))))
noncomputable abbrev wu:jD:=jQ Uv [.val] (wt)
abbrev zk (e0:Ev):=qA e0 1 "is_letter" ["thing"] [.val] .sh (wu)
theorem VW (Z:ZtE e0 ca) (T:kh e0 "is_letter" yr ["thing"]):zk e0:=
 dW [] T λcdv f A outer s H E h=>(qg (qh (QW (zh rfl rfl Z.z_isinstance jp rfl Z.z_str qaV vr) (QW (vC (vA rfl h.units) (qw (jj rfl) rfl Z.z_len jh vr) qp) (QV (Yx Vu Vu wL vr wL))))))
abbrev gT:Stmt:=top 18
abbrev qaX:List Str:=["thing"]
noncomputable def VX:qR:=(qN (sIf (dOr (gm (we (d1 (zg "str") (qd 0)))) (gm (qL (yO leD leD (dC (.int 1)) (d1 ky (qd 0)) (dC (.int 6)))))) (jt (dC (.bl iI))) jk)
  (jt (d1 Zl (qI [] 1 [] (jl (qd 0)) (gNm 0) ftT (ql [.vl] wu (qc (qd 0) qx))))))
noncomputable abbrev xh:jD:=jQ qaX [.val] (VX)
abbrev Jg (e0:Ev):=qA e0 2 "is_word" ["thing"] [.val] .sh (xh)
theorem ZK (Z:ZtE e0 ca) (T:kh e0 "is_word" gT ["thing"]) (O:zk e0):Jg e0:=
 dW [] T λcdv f A outer s H E h=>(qf (qW (PW.pt (gq (jJ (tv (zh rfl rfl Z.z_isinstance jp rfl Z.z_str qaV vr))) (vK (jJ (Vt Vu Vu qp (qw (jj rfl) rfl Z.z_len jh vr) (wk Z.c_MOST_LETTERS rfl)))))) (qg (qh wY)) qH)
  (qg (qh (qw (QZ rfl rfl) rfl Z.z_all Jf (cmp (qD rfl vr) (λ_ _ _ _=>(qQ O h (by decide) vV rfl (qa vr qe))))))))
abbrev xM:Stmt:=top 19
abbrev ZL:List Str:=["thing"]
noncomputable def Jh:qR:=(qN (sIf (dOr (gm (we (d1 (zg "tuple") (qd 0)))) (gm (qL (yO leD leD (dC (.int 1)) (d1 ky (qd 0)) (dC (.int 6)))))) (jt (dC (.bl iI))) jk)
  (jt (JL (d1 Zl (qI [] 1 [] (jl (qd 0)) (gNm 0) ftT (ql [.vl] xh (qc (qd 0) qx)))) (d2 eqD (d1 gK (qd 0)) (d1 ky (qd 0))))))
noncomputable abbrev xN:jD:=jQ ZL [.val] (Jh)
abbrev gU (e0:Ev):=qA e0 3 "is_words" ["thing"] [.val] .sh (xN)
theorem Uw (Z:ZtE e0 ca) (T:kh e0 "is_words" xM ["thing"]) (O:Jg e0):gU e0:=
 dW [] T λcdv f A outer s H E h=>(qf (qW (PW.pt (gq (jJ (tv (zh rfl rfl Z.z_isinstance jp rfl Z.z_tuple vF vr))) (vK (jJ (Vt Vu Vu qp (qw (jj rfl) rfl Z.z_len jh vr) (wk Z.c_MOST_WORDS rfl)))))) (qg (qh wY)) qH)
  (qg (qh (QW (qw (QZ rfl rfl) rfl Z.z_all Jf (cmp (qD rfl vr) (λ_ _ _ _=>(qQ O h (by decide) vV rfl (qa vr qe))))) (QV (vC (vA rfl h.units) (qas rfl rfl rfl Z.z_len jh rfl Z.z_set qaU vr) (qw (jj rfl) rfl Z.z_len jh vr)))))))
abbrev wv:Stmt:=top 22
abbrev Ke:List Str:=["thing"]
noncomputable def xi:qR:=(sIf (gm (we (ql [.vl] xN (qc (qd 0) qx)))) (wj "NoWords" (qc (dC (.str "words are a tuple of 1 to 6 unlike words of 1 to 6 letters from a to z")) qx)) jk)
noncomputable abbrev jS:jD:=jQ Ke [.val] (xi)
abbrev kz (e0:Ev):=qA e0 4 "check_words" ["thing"] [.val] .sh (jS)
theorem QJ (Z:ZtE e0 ca) (T:kh e0 "check_words" wv ["thing"]) (O:gU e0):kz e0:=
 dW [] T λcdv f A outer s H E h=>(qg (qW (jJ (tv (cN O (qa vr qe)))) (qg (rz Z "NoWords" (qa wL qe))) qH))
abbrev uf:Stmt:=top 15
abbrev VY:List Str:=["thing", "least", "most"]
noncomputable def ug:qR:=(qN (sIf (dOr (gm (we (d1 (zg "int") (qd 0)))) (we (d1 (zg "bool") (qd 0)))) (jt (dC (.bl iI))) jk)
  (jt (yO leD leD (qd 1) (qd 0) (qd 2))))
noncomputable abbrev jK:jD:=jQ VY [.val,.val,.val] (ug)
abbrev kQ (e0:Ev):=qA e0 1 "is_between" ["thing", "least", "most"] [.val,.val,.val] .sh (jK)
theorem Kf (Z:ZtE e0 ca) (T:kh e0 "is_between" uf ["thing", "least", "most"]):kQ e0:=
 dW [] T λcdv f A outer s H E h=>(qf (qW (PW.pt (gq (jJ (tv (zh rfl rfl Z.z_isinstance jp rfl Z.z_int qip vr))) (vK (tv (zh rfl rfl Z.z_isinstance jp rfl Z.z_bool qfU vr))))) (qg (qh wY)) qH)
  (qg (qh (Yx Vu Vu vr vr vr))))
abbrev gW:Stmt:=top 20
abbrev qaY:List Str:=["thing"]
noncomputable def VZ:qR:=(qN (sIf (dOr (gm (we (d1 (zg "tuple") (qd 0)))) (qL (d2 neD (d1 ky (qd 0)) (dC (.int 2))))) (jt (dC (.bl iI))) jk)
  (jt (d1 Zl (qI [] 1 [] (jl (qd 0)) (gNm 0) ftT (ql [.vl,.vl,.vl] jK (qc (qd 0) (qc (dC (.int (-3))) (qc (dC (.int 2)) qx))))))))
noncomputable abbrev gX:jD:=jQ qaY [.val] (VZ)
abbrev Ji (e0:Ev):=qA e0 2 "is_look" ["thing"] [.val] .sh (gX)
theorem ZM (Z:ZtE e0 ca) (T:kh e0 "is_look" gW ["thing"]) (o:kQ e0):Ji e0:=
 dW [] T λcdv f A outer s H E h=>(qf (qW (PW.pt (gq (jJ (tv (zh rfl rfl Z.z_isinstance jp rfl Z.z_tuple vF vr))) (vK (qG (QC rfl h.units) (qw (jj rfl) rfl Z.z_len jh vr) qp)))) (qg (qh wY)) qH)
  (qg (qh (qw (QZ rfl rfl) rfl Z.z_all Jf (cmp (qD rfl vr) (λ_ _ _ _=>(qQ o h (by decide) vV rfl (qa vr (qa (wk Z.c_LEAST_PLACE rfl) (qa (wk Z.c_MOST_PLACE rfl) qe))))))))))
abbrev uh:Stmt:=top 24
abbrev Wa:List Str:=["thing"]
noncomputable def zl:qR:=(sIf (gm (we (ql [.vl] gX (qc (qd 0) qx)))) (wj "NoLook" (qc (dC (.str "a look is a tuple of two places from -3 to 2")) qx)) jk)
noncomputable abbrev ui:jD:=jQ Wa [.val] (zl)
abbrev xj (e0:Ev):=qA e0 3 "check_look" ["thing"] [.val] .sh (ui)
theorem Kg (Z:ZtE e0 ca) (T:kh e0 "check_look" uh ["thing"]) (O:Ji e0):xj e0:=
 dW [] T λcdv f A outer s H E h=>(qg (qW (jJ (tv (cN O (qa vr qe)))) (qg (rz Z "NoLook" (qa wL qe))) qH))
abbrev yt:Stmt:=top 29
abbrev Ux:List Str:=["word", "place", "at"]
noncomputable def yu:qR:=(qN (jx 2 (dIf (qL (d2 geD (qd 1) (dC (.int 0)))) (qd 1) (d2 vz (d1 ky (qd 0)) (qd 1))))
  (jt (d2 ixD (qd 0) (d2 qjQ (dC (.int 0)) (d2 qjR (qd 2) (d2 qce (d1 ky (qd 0)) (dC (.int 1))))))))
noncomputable abbrev vi:jD:=jQ Ux [.val,.val] (yu)
abbrev zm (e0:Ev):=qA e0 1 "letter_at" ["word", "place"] [.val,.val] .sh (vi)
theorem Wb (Z:ZtE e0 ca) (T:kh e0 "letter_at" yt ["word", "place"]):zm e0:=
 dW [] T λcdv f A outer s H E h=>(qf (se (Zf (qG qhO vr qp) vr (qT (jU rfl) (qw (jj rfl) rfl Z.z_len jh vr) vr)))
  (qg (qh (ix vr (VD (qhZ rfl) rfl Z.z_max qiq qp (VD (qh0 rfl) rfl Z.z_min qir vr (qT QT (qw (jj rfl) rfl Z.z_len jh vr) qp)))))))
abbrev Uy:Stmt:=top 30
abbrev qfV:List Str:=["words", "look"]
noncomputable def qaZ:qR:=(qN (ki (ql [.vl] jS (qc (qd 0) qx)))
  (qN (ki (ql [.vl] ui (qc (qd 1) qx)))
  (jt (qI [] 1 [1] (jl (qd 0)) (gNm 0) ftT (yP (qc (ql [.vl,.vl] vi (qc (qd 0) (qc (d2 ixD (qd 1) (dC (.int 0))) qx))) (qc (ql [.vl,.vl] vi (qc (qd 0) (qc (d2 ixD (qd 1) (dC (.int 1))) qx))) qx)))))))
noncomputable abbrev vj:jD:=jQ qfV [.val,.val] (qaZ)
abbrev ww (e0:Ev):=qA e0 5 "pairs" ["words", "look"] [.val,.val] .sh (vj)
theorem qdl (Z:ZtE e0 ca) (T:kh e0 "pairs" Uy ["words", "look"]) (m:kz e0) (a:xj e0) (o:zm e0):ww e0:=
 dW [] T λcdv f A outer s H E h=>(qf (ji (cN m (qa vr qe)))
  (qf (ji (cN a (qa vr qe)))
  (qg (qh (cmp (qD rfl vr) (λ_ _ _ _=>(kM (qa (qQ o h (by decide) vV rfl (qa vr (qa (ix vr qp) qe))) (qa (qQ o h (by decide) vV rfl (qa vr (qa (ix vr qp) qe))) qe)))))))))
abbrev yv:Stmt:=top 48
abbrev Uz:List Str:=["one", "two"]
noncomputable def yw:qR:=(jt (qhM (d2 eqD (qd 0) (qd 1)) (d2 eqD (qd 0) (yP (qc (d2 ixD (qd 1) (dC (.int 1))) (qc (d2 ixD (qd 1) (dC (.int 0))) qx))))))
noncomputable abbrev jL:jD:=jQ Uz [.val,.val] (yw)
abbrev uj (e0:Ev):=qA e0 1 "are_alike" ["one", "two"] [.val,.val] .sh (jL)
theorem Wc (Z:ZtE e0 ca) (T:kh e0 "are_alike" yv ["one", "two"]):uj e0:=
 dW [] T λcdv f A outer s H E h=>(qg (qh (qhN (vC (vA rfl h.units) vr vr) (QV (vC (vA rfl h.units) vr (kM (qa (ix vr qp) (qa (ix vr qp) qe))))))))
abbrev xO:Stmt:=top 49
abbrev ZN:List Str:=["seen", "later", "pair", "ahead"]
noncomputable def Jj:qR:=(qN (zI (ue (qd 0)) (jo 2 (qu (gNm 1) (qu (gNm 2) jn)))
  (zI (kr (qd 1)) (gNm 3)
  (sIf (we (ql [.vl,.vl] jL (qc (d2 ixD (qd 0) (qd 3)) (qc (qd 2) qx)))) (jt (yP (qc (qd 3) (qc (qd 1) qx)))) jk)))
  (jt (dC .non)))
noncomputable abbrev kY:jD:=jQ ZN [.val] (Jj)
abbrev yx (e0:Ev):=qA e0 2 "clash_of" ["seen"] [.val] .sh (kY)
theorem UA (Z:ZtE e0 ca) (T:kh e0 "clash_of" xO ["seen"]) (o:uj e0):yx e0:=
 dW [] T λcdv f A outer s H E h=>(qf (jF aL rfl (uU rfl rfl Z.z_enumerate vr) (kK rfl rfl (qC gn (qC gn ke)))
  (qg (jF aL rfl (vT rfl Z.z_range vr) gn
  (qg (qW (tv (cN o (qa (ix vr vr) (qa vr qe)))) (qg (qh (kM (qa vr (qa vr qe))))) qH)))))
  (qg (qh QS)))
abbrev UB:Stmt:=top 50
abbrev qfW:List Str:=["words", "look"]
noncomputable def qa0:qR:=(jt (ql [.vl] kY (qc (ql [.vl,.vl] vj (qc (qd 0) (qc (qd 1) qx))) qx)))
noncomputable abbrev UC:jD:=jQ qfW [.val,.val] (qa0)
abbrev Xb (e0:Ev):=qA e0 6 "clash" ["words", "look"] [.val,.val] .sh (UC)
theorem qdm (Z:ZtE e0 ca) (T:kh e0 "clash" UB ["words", "look"]) (o:ww e0) (a:yx e0):Xb e0:=
 dW [] T λcdv f A outer s H E h=>(qg (qh (cN a (qa (cN o (qa vr (qa vr qe))) qe))))
abbrev ul:Stmt:=top 31
abbrev We:List Str:=["seen"]
noncomputable def zn:qR:=(jt (d1 uT (d2 vz (qI [] 1 [] (jl (qd 0)) (gNm 0) ftT (d2 ixD (qd 0) (dC (.int 0)))) (qI [] 1 [] (jl (qd 0)) (gNm 0) ftT (d2 ixD (qd 0) (dC (.int 1)))))))
noncomputable abbrev jM:jD:=jQ We [.val] (zn)
abbrev wx (e0:Ev):=qA e0 1 "letters_of" ["seen"] [.val] .sh (jM)
theorem Kh (Z:ZtE e0 ca) (T:kh e0 "letters_of" ul ["seen"]):wx e0:=
 dW [] T λcdv f A outer s H E h=>(qg (qh (Jb rfl rfl rfl Z.z_sorted xg rfl Z.z_set qaU (qT (jU rfl) (cmp (qD rfl vr) (λ_ _ _ _=>(ix vr qp))) (cmp (qD rfl vr) (λ_ _ _ _=>(ix vr qp)))))))
abbrev xP:Stmt:=top 51
abbrev ZO:List Str:=["pair", "seen", "fixed", "letter"]
noncomputable def Jk:qR:=(qN (zI (jl (qd 0)) (gNm 3)
  (sIf (qd7 (qL (d2 zJ (qd 3) (qd 2))) (qL (d2 eqD (d1 Ka (qI [] 1 [3] (jl (qd 1)) (gNm 0) ftT (dM qg0 yf (qd 0) (qd 1)))) (dC (.int 1))))) (jt (dC (.bl iJ))) jk))
  (jt (dC (.bl iI))))
noncomputable abbrev kg:jD:=jQ ZO [.val,.val,.val] (Jk)
abbrev gY (e0:Ev):=qA e0 1 "is_loose" ["pair", "seen", "fixed"] [.val,.val,.val] .sh (kg)
theorem UD (Z:ZtE e0 ca) (T:kh e0 "is_loose" xP ["pair", "seen", "fixed"]):gY e0:=
 dW [] T λcdv f A outer s H E h=>(qf (jF aL rfl (qD rfl vr) gn
  (qg (qW (PW.pt (WX (qG (vY rfl h.units) vr vr) (vK (qG (vA rfl h.units) (qw (Ur rfl rfl) rfl Z.z_sum qaW (cmp (qD rfl vr) (λ_ _ _ _=>(qaO rfl h.units vr vr)))) qp)))) (qg (qh wY)) qH)))
  (qg (qh wY)))
abbrev wy:Stmt:=top 52
abbrev xl:List Str:=["seen", "fixed", "kept", "rest"]
noncomputable def xm:qR:=(qN (jx 2 (qd 0))
  (qN (jx 3 (qI [] 1 [2,1] (jl (qd 2)) (gNm 0) (gm (we (ql [.vl,.vl,.vl] kg (qc (qd 0) (qc (qd 1) (qc (qd 2) qx)))))) (qd 0)))
  (qN (qZ (qL (d2 ltD (d1 ky (qd 3)) (d1 ky (qd 2))))
  (qN (jx 2 (qd 3))
  (qN (jx 3 (qI [] 1 [2,1] (jl (qd 2)) (gNm 0) (gm (we (ql [.vl,.vl,.vl] kg (qc (qd 0) (qc (qd 1) (qc (qd 2) qx)))))) (qd 0))) jk)) 20)
  (jt (qd 2)))))
noncomputable abbrev wz:jD:=jQ xl [.val,.val] (xm)
abbrev yg (e0:Ev):=qA e0 2 "bound_pairs" ["seen", "fixed"] [.val,.val] .sh (wz)
theorem QK (Z:ZtE e0 ca) (T:kh e0 "bound_pairs" wy ["seen", "fixed"]) (o:gY e0):yg e0:=
 dW [] T λcdv f A outer s H E h=>(qf (se vr)
  (qf (qfR (qD rfl vr) (λ_ _ _ _=>vr) (ht:=λ_ _ _ _=>(uc (jJ (tv (qQ o h (by decide) vV rfl (qa vr (qa vr (qa vr qe)))))))))
  (jI [3] (qf (yT 20 aL (qG qfh (qw (jj rfl) rfl Z.z_len jh vr) (qw (jj rfl) rfl Z.z_len jh vr))
  (qf (se vr)
  (qf (qfR (qD rfl vr) (λ_ _ _ _=>vr) (ht:=λ_ _ _ _=>(uc (jJ (tv (qQ o h (by decide) vV rfl (qa vr (qa vr (qa vr qe)))))))))
  (jI [3] qH))))
  (qg (qh vr))))))
abbrev xQ:Stmt:=top 53
abbrev Jl:List Str:=["one", "two", "first", "second", "letter"]
noncomputable def Jm:qR:=(qN (jx 2 (d1 VC (qd 0)))
  (qN (jx 3 (yd qx))
  (qN (zI (jl (qd 1)) (gNm 4)
  (sIf (qL (d2 inA (qd 4) (qd 2))) (ki (xE 2 qfQ (qd 4))) (ki (xE 3 QE (qd 4)))))
  (jt (yP (qc (qd 2) (qc (qd 3) qx)))))))
noncomputable abbrev ku:jD:=jQ Jl [.val,.val] (Jm)
abbrev gZ (e0:Ev):=qA e0 1 "unshared" ["one", "two"] [.val,.val] .sh (ku)
theorem UE (Z:ZtE e0 ca) (T:kh e0 "unshared" xQ ["one", "two"]):gZ e0:=
 dW [] T λcdv f A outer s H E h=>(qf (sO (jC (Uc rfl) rfl Z.z_list wq vr))
  (qf (sO (jX qe))
  (qf (jF aL rfl (qD rfl vr) gn
  (qg (qW (qG (qaf rfl h.units) vr vO) (qg (ji (qaM (i:=2) rfl (bE rfl) (by decide) vr))) (qg (ji (vU (i:=3) rfl rfl (bE rfl) (by decide) vr))))))
  (jI [2,3] (qg (qh (kM (qa vr (qa vr qe)))))))))
abbrev vM:Stmt:=top 54
abbrev QL:List Str:=["seen", "found", "later", "pair"]
noncomputable def yh:qR:=(qN (jx 1 (yd qx))
  (qN (zI (ue (qd 0)) (jo 2 (qu (gNm 2) (qu (gNm 3) jn)))
  (ki (xE 1 qcP (qI [1] 1 [3] (jl (vh (qd 0) iG (iE (qd 2)))) (gNm 0) ftT (ql [.vl,.vl] ku (qc (qd 0) (qc (qd 1) qx)))))))
  (jt (qd 1))))
noncomputable abbrev vN:jD:=jQ QL [.val] (yh)
abbrev um (e0:Ev):=qA e0 2 "contrasts_of" ["seen"] [.val] .sh (vN)
theorem Qa (Z:ZtE e0 ca) (T:kh e0 "contrasts_of" vM ["seen"]) (O:gZ e0):um e0:=
 dW [] T λcdv f A outer s H E h=>(qf (sO (jX qe))
  (qf (jF aL rfl (uU rfl rfl Z.z_enumerate vr) (kK rfl rfl (qC gn (qC gn ke)))
  (qg (ji (gx (i:=1) rfl (bE rfl) (by decide) (cmp (qD rfl (VS rfl vr YG (YH vr))) (λ_ _ _ _=>(qQ O h (by decide) vV rfl (qa vr (qa vr qe)))))))))
  (jI [1] (qg (qh vr)))))
abbrev uo:Stmt:=top 55
abbrev zo:List Str:=["contrast", "room", "fixed", "first", "second"]
noncomputable def zp:qR:=(qN (jx 3 (d2 ixD (qd 0) (dC (.int 0))))
  (qN (jx 4 (d2 ixD (qd 0) (dC (.int 1))))
  (qN (sIf (gm (we (d1 Zl (qI [] 1 [2] (jl (d2 vz (qd 3) (qd 4))) (gNm 0) ftT (d2 inA (qd 0) (qd 1)))))) (jt (dC (.bl iJ))) jk)
  (jt (d2 neD (d2 yG (d2 qce (d1 Ka (qI [] 1 [2] (jl (qd 3)) (gNm 0) ftT (d2 ixD (qd 1) (qd 0)))) (d1 Ka (qI [] 1 [2] (jl (qd 4)) (gNm 0) ftT (d2 ixD (qd 1) (qd 0))))) (qd 1)) (dC (.int 0)))))))
noncomputable abbrev kG:jD:=jQ zo [.val,.val,.val] (zp)
abbrev wA (e0:Ev):=qA e0 1 "may_differ" ["contrast", "room", "fixed"] [.val,.val,.val] .sh (kG)
theorem Ki (Z:ZtE e0 ca) (T:kh e0 "may_differ" uo ["contrast", "room", "fixed"]):wA e0:=
 dW [] T λcdv f A outer s H E h=>(qf (se (ix vr qp))
  (qf (se (ix vr qp))
  (qf (qW (jJ (tv (qw (QZ rfl rfl) rfl Z.z_all Jf (cmp (qD rfl (qT (jU rfl) vr vr)) (λ_ _ _ _=>(vC (qaf rfl h.units) vr vr)))))) (qg (qh wY)) qH)
  (qg (qh (vC (QC rfl h.units) (qT vb (qT QT (qw (Ur rfl rfl) rfl Z.z_sum qaW (cmp (qD rfl vr) (λ_ _ _ _=>(ix vr vr)))) (qw (Ur rfl rfl) rfl Z.z_sum qaW (cmp (qD rfl vr) (λ_ _ _ _=>(ix vr vr))))) vr) qp))))))
abbrev uq:Stmt:=top 56
abbrev Wf:List Str:=["fixed", "letter", "worth", "more"]
noncomputable def zq:qR:=(qN (jx 3 (d1 qaP (qd 0)))
  (qN (gS 3 (qd 2) (qd 1))
  (jt (qd 3))))
noncomputable abbrev vG:jD:=jQ Wf [.val,.val,.val] (zq)
abbrev wB (e0:Ev):=qA e0 1 "with_worth" ["fixed", "letter", "worth"] [.val,.val,.val] .sh (vG)
theorem Kj (Z:ZtE e0 ca) (T:kh e0 "with_worth" uq ["fixed", "letter", "worth"]):wB e0:=
 dW [] T λcdv f A outer s H E h=>(qf (sO (jC (qdf rfl) rfl Z.z_dict Ut vr))
  (qf (gc (n:=3) h.units rfl (bE rfl) (by decide) vr vr)
  (jI [3] (qg (qh vr)))))
abbrev jN:Stmt:=top 57
abbrev jO:List Str:=["contrasts", "room", "fixed", "letters", "choices", "worth"]
abbrev jP:List Str:=["contrasts", "room", "fixed", "letters"]
theorem zM:FnScope jO jP (ja jN):=fsc
noncomputable def jv (gr:jD):qR:=(qN (sIf (gm (we (d1 Zl (qI [] 1 [1,2] (jl (qd 0)) (gNm 0) ftT (ql [.vl,.vl,.vl] kG (qc (qd 0) (qc (qd 1) (qc (qd 2) qx)))))))) (jt (dC (.bl iI))) jk)
  (qN (sIf (qL (d2 eqD (d1 ky (qd 3)) (dC (.int 0)))) (jt (dC (.bl iJ))) jk)
  (qN (jx 4 (dIf (qL (d2 eqD (d1 ky (qd 2)) (dC (.int 0)))) (yd (qc (dC (.int 0)) qx)) (d1 kP (qd 1))))
  (qN (zI (jl (qd 4)) (gNm 5)
  (sIf (we (ql [.vl,.vl,.vl,.vl] gr (qc (qd 0) (qc (qd 1) (qc (ql [.vl,.vl,.vl] vG (qc (qd 2) (qc (d2 ixD (qd 3) (dC (.int 0))) (qc (qd 5) qx)))) (qc (vh (qd 3) (iE (dC (.int 1))) iG) qx)))))) (jt (dC (.bl iJ))) jk))
  (jt (dC (.bl iI)))))))
noncomputable def qU:Nat->jD
 | 0=>jQ jO [.val,.val,.val,.val] qlG
 | n+1=>jQ jO [.val,.val,.val,.val] (jv (qU n))
noncomputable abbrev ur:jD:=qU 14
abbrev wM (e0:Ev):=qA e0 16 "can_be_filled" jP [.val,.val,.val,.val] .sh ur
theorem zN (Z:ZtE e0 ca) (T:kh e0 "can_be_filled" jN jP) (a:wA e0) (D:wB e0) (n:Nat):qA e0 (2+n) "can_be_filled" ["contrasts", "room", "fixed", "letters"] [.val,.val,.val,.val] .sh (qU n):=by
 induction n with
 | zero=>exact dW [] T λcdv f A outer s H E h=>qfI
 | succ n o=>exact qeb (k:=2+n) (own':=[]) (fb:=jv (qU n)) T zM λcdv f A outer s H E h=>(qf (qW (jJ (tv (qw (QZ rfl rfl) rfl Z.z_all Jf (cmp (qD rfl vr) (λ_ _ _ _=>(qQ a h (by omega) vV rfl (qa vr (qa vr (qa vr qe))))))))) (qg (qh wY)) qH)
  (qf (qW (qG (vA rfl h.units) (qw (jj rfl) rfl Z.z_len jh vr) qp) (qg (qh wY)) qH)
  (qf (se (Zf (qG (vA rfl h.units) (qw (jj rfl) rfl Z.z_len jh vr) qp) (jX (qa qp qe)) (Jc rfl rfl Z.z_list wq rfl Z.z_range Kc vr)))
  (qf (jF aL rfl (qD rfl vr) gn
  (qg (qW (tv (qQ o h (by omega) qcO rfl (qa vr (qa vr (qa (qQ D h (by omega) qcO rfl (qa vr (qa (ix vr qp) (qa vr qe)))) (qa (VS rfl vr (YH qp) YG) qe)))))) (qg (qh wY)) qH)))
  (qg (qh wY))))))
theorem zO (Z:ZtE e0 ca) (T:kh e0 "can_be_filled" jN jP) (a:wA e0) (D:wB e0):wM e0:=zN Z T a D 14
abbrev ut:Stmt:=top 58
abbrev zr:List Str:=["seen", "room", "fixed", "bound", "letters"]
noncomputable def uu:qR:=(qN (sIf (qL (d2 ltD (qd 1) (d1 ky (qd 0)))) (jt (dC (.bl iI))) jk)
  (qN (jx 3 (ql [.vl,.vl] wz (qc (qd 0) (qc (qd 2) qx))))
  (qN (jx 4 (qI [] 1 [2] (jl (ql [.vl] jM (qc (qd 3) qx))) (gNm 0) (qL (d2 zJ (qd 0) (qd 1))) (qd 0)))
  (jt (ql [.vl,.vl,.vl,.vl] ur (qc (ql [.vl] vN (qc (qd 3) qx)) (qc (qd 1) (qc (qd 2) (qc (qd 4) qx)))))))))
noncomputable abbrev jz:jD:=jQ zr [.val,.val,.val] (uu)
abbrev wC (e0:Ev):=qA e0 17 "can_differ" ["seen", "room", "fixed"] [.val,.val,.val] .sh (jz)
theorem Kk (Z:ZtE e0 ca) (T:kh e0 "can_differ" ut ["seen", "room", "fixed"]) (B:wx e0) (Y:yg e0) (U:um e0) (o:wM e0):wC e0:=
 dW [] T λcdv f A outer s H E h=>(qf (qW (qG qfh vr (qw (jj rfl) rfl Z.z_len jh vr)) (qg (qh wY)) qH)
  (qf (se (cN Y (qa vr (qa vr qe))))
  (qf (qfR (qD rfl (cN B (qa vr qe))) (λ_ _ _ _=>vr) (ht:=λ_ _ _ _=>(uc (qG (vY rfl h.units) vr vr))))
  (jI [4] (qg (qh (cN o (qa (cN U (qa vr qe)) (qa vr (qa vr (qa vr qe)))))))))))
abbrev yy:Stmt:=top 59
abbrev Qb:List Str:=["seen", "room", "found"]
noncomputable def Qc:qR:=(qN (jx 2 (qd 1))
  (qN (qZ (gm (we (ql [.vl,.vl,.vl] jz (qc (qd 0) (qc (qd 2) (qc (dC (.dct [])) qx))))))
  (jx 2 (d2 vz (qd 2) (dC (.int 1)))) 100)
  (jt (qd 2))))
noncomputable abbrev yz:jD:=jQ Qb [.val,.val] (Qc)
abbrev zt (e0:Ev):=qA e0 18 "room_from" ["seen", "room"] [.val,.val] .sh (yz)
theorem Wg (Z:ZtE e0 ca) (T:kh e0 "room_from" yy ["seen", "room"]) (o:wC e0):zt e0:=
 dW [] T λcdv f A outer s H E h=>(qf (se vr)
  (qf (yT 100 aL (jJ (tv (cN o (qa vr (qa vr (qa zX qe))))))
  (qg (se (qT (jU rfl) vr qp))))
  (qg (qh vr))))
abbrev uw:Stmt:=top 60
abbrev Wh:List Str:=["words", "look", "seen"]
noncomputable def zu:qR:=(qN (jx 2 (ql [.vl,.vl] vj (qc (qd 0) (qc (qd 1) qx))))
  (qN (sIf (qL (d2 Vv (ql [.vl] kY (qc (qd 2) qx)) (dC .non))) (wj "Never" (qc (dC (.str "two words are seen as the same two letters")) qx)) jk)
  (jt (ql [.vl,.vl] yz (qc (qd 2) (qc (d1 ky (qd 2)) qx))))))
noncomputable abbrev vH:jD:=jQ Wh [.val,.val] (zu)
abbrev xn (e0:Ev):=qA e0 19 "least_room" ["words", "look"] [.val,.val] .sh (vH)
theorem Kl (Z:ZtE e0 ca) (T:kh e0 "least_room" uw ["words", "look"]) (o:ww e0) (a:yx e0) (O:zt e0):xn e0:=
 dW [] T λcdv f A outer s H E h=>(qf (se (cN o (qa vr (qa vr qe))))
  (qf (qW (qG WY (cN a (qa vr qe)) QS) (qg (rz Z "Never" (qa wL qe))) qH)
  (qg (qh (cN O (qa vr (qa (qw (jj rfl) rfl Z.z_len jh vr) qe)))))))
abbrev yA:Stmt:=top 28
abbrev UF:List Str:=["places", "found", "first"]
noncomputable def UG:qR:=(qN (jx 0 (d2 gR (dC (.int (-3))) (d2 vz (dC (.int 2)) (dC (.int 1)))))
  (qN (jx 1 (yd qx))
  (qN (zI (jl (qd 0)) (gNm 2)
  (ki (xE 1 qcP (qI [1] 1 [2] (jl (qd 0)) (gNm 0) ftT (yP (qc (qd 1) (qc (qd 0) qx)))))))
  (jt (qd 1)))))
noncomputable abbrev vk:jD:=jQ UF [] (UG)
abbrev zv (e0:Ev):=qA e0 1 "all_looks" [] [] .sh (vk)
theorem Wi (Z:ZtE e0 ca) (T:kh e0 "all_looks" yA []):zv e0:=
 dW [] T λcdv f A outer s H E h=>(qf (se (Up rfl rfl Z.z_list wq rfl Z.z_range Kc (wk Z.c_LEAST_PLACE rfl) (qT (jU rfl) (wk Z.c_MOST_PLACE rfl) qp)))
  (qf (sO (jX qe))
  (qf (jF aL rfl (qD rfl vr) gn
  (qg (ji (gx (i:=1) rfl (bE rfl) (by decide) (cmp (qD rfl vr) (λ_ _ _ _=>(kM (qa vr (qa vr qe)))))))))
  (jI [1] (qg (qh vr))))))
abbrev UH:Stmt:=top 61
abbrev qa1:List Str:=["words"]
noncomputable def qa2:qR:=(qN (ki (ql [.vl] jS (qc (qd 0) qx)))
  (jt (qI [] 1 [0] (jl (ql [] vk qx)) (gNm 0) (we (ql [.vl,.vl,.vl] jz (qc (ql [.vl,.vl] vj (qc (qd 1) (qc (qd 0) qx))) (qc (d1 ky (qd 1)) (qc (dC (.dct [])) qx))))) (qd 0))))
noncomputable abbrev xR:jD:=jQ qa1 [.val] (qa2)
abbrev Xc (e0:Ev):=qA e0 18 "looks" ["words"] [.val] .sh (xR)
theorem qdn (Z:ZtE e0 ca) (T:kh e0 "looks" UH ["words"]) (m:kz e0) (b:zv e0) (a:ww e0) (o:wC e0):Xc e0:=
 dW [] T λcdv f A outer s H E h=>(qf (ji (cN m (qa vr qe)))
  (qg (qh (cmp (qD rfl (qaG b h (by decide) qcO rfl)) (λ_ _ _ _=>vr) (ht:=λ_ _ _ _=>(uc (tv (qQ o h (by decide) vV rfl (qa (qQ a h (by decide) vV rfl (qa vr (qa vr qe))) (qa (qw (jj rfl) rfl Z.z_len jh vr) (qa zX qe)))))))))))
abbrev UI:Stmt:=top 63
abbrev qfX:List Str:=["words", "look", "seen", "found", "first", "pair", "group"]
noncomputable def qa3:qR:=(qN (jx 2 (ql [.vl,.vl] vj (qc (qd 0) (qc (qd 1) qx))))
  (qN (jx 3 (yd qx))
  (qN (zI (ue (qd 2)) (jo 2 (qu (gNm 4) (qu (gNm 5) jn)))
  (qN (jx 6 (qI [3] 2 [5] (ue (qd 2)) (jo 2 (qu (gNm 0) (qu (gNm 1) jn))) (we (ql [.vl,.vl] jL (qc (qd 2) (qc (qd 1) qx)))) (qd 0)))
  (sIf (qL (d2 eqD (d2 ixD (qd 6) (dC (.int 0))) (qd 4))) (ki (xE 3 QE (qd 6))) jk)))
  (jt (qd 3)))))
noncomputable abbrev Km:jD:=jQ qfX [.val,.val] (qa3)
abbrev Xd (e0:Ev):=qA e0 6 "alike" ["words", "look"] [.val,.val] .sh (Km)
theorem qdo (Z:ZtE e0 ca) (T:kh e0 "alike" UI ["words", "look"]) (o:ww e0) (a:uj e0):Xd e0:=
 dW [] T λcdv f A outer s H E h=>(qf (se (cN o (qa vr (qa vr qe))))
  (qf (sO (jX qe))
  (qf (jF aL rfl (uU rfl rfl Z.z_enumerate vr) (kK rfl rfl (qC gn (qC gn ke)))
  (qf (qfR (uU rfl rfl Z.z_enumerate vr) (λ_ _ _ _=>vr) (hg:=λ_ _ _ _=>(kK rfl rfl (qC gC (qC gC ke)))) (ht:=λ_ _ _ _=>(uc (tv (qQ a h (by decide) vV rfl (qa vr (qa vr qe)))))))
  (jI [6] (qg (qW (qG (vA rfl h.units) (ix vr qp) vr) (qg (ji (vU (i:=3) rfl rfl (bE rfl) (by decide) vr))) qH)))))
  (jI [3] (qg (qh vr))))))
abbrev ux:Stmt:=top 17
abbrev Wj:List Str:=["thing"]
noncomputable def zw:qR:=(jt (JL (d1 (zg "str") (qd 0)) (JL (d2 eqD (d1 ky (qd 0)) (d1 ky (dC (.str "abcdefghijklmnopqrstuvwxyz")))) (d2 eqD (d1 gb (qd 0)) (d1 VQ (dC (.str "abcdefghijklmnopqrstuvwxyz")))))))
noncomputable abbrev uy:jD:=jQ Wj [.val] (zw)
abbrev xo (e0:Ev):=qA e0 1 "is_letters" ["thing"] [.val] .sh (uy)
theorem Kn (Z:ZtE e0 ca) (T:kh e0 "is_letters" ux ["thing"]):xo e0:=
 dW [] T λcdv f A outer s H E h=>(qg (qh (QW (zh rfl rfl Z.z_isinstance jp rfl Z.z_str qaV vr) (QW (vC (vA rfl h.units) (qw (jj rfl) rfl Z.z_len jh vr) (qw (jj rfl) rfl Z.z_len jh (gQ Z.c_LETTERS rfl))) (QV (vC (vA rfl h.units) (qw (Zz rfl) rfl Z.z_sorted xg vr) (jC (YU rfl) rfl Z.z_list wq (gQ Z.c_LETTERS rfl))))))))
abbrev vm:Stmt:=top 23
abbrev Qd:List Str:=["thing"]
noncomputable def uz:qR:=(sIf (gm (we (ql [.vl] uy (qc (qd 0) qx)))) (wj "NoLetters" (qc (dC (.str "other letters are a text of all letters from a to z, each once")) qx)) jk)
noncomputable abbrev vn:jD:=jQ Qd [.val] (uz)
abbrev wN (e0:Ev):=qA e0 2 "check_letters" ["thing"] [.val] .sh (vn)
theorem zQ (Z:ZtE e0 ca) (T:kh e0 "check_letters" vm ["thing"]) (o:xo e0):wN e0:=
 dW [] T λcdv f A outer s H E h=>(qg (qW (jJ (tv (cN o (qa vr qe)))) (qg (rz Z "NoLetters" (qa wL qe))) qH))
abbrev vP:Stmt:=top 64
abbrev yi:List Str:=["word", "letters"]
noncomputable def yj:qR:=(jt (d1 (gM "") (qI [] 1 [1] (jl (qd 0)) (gNm 0) ftT (d2 ixD (qd 1) (dM qj1 gP (dC (.str "abcdefghijklmnopqrstuvwxyz")) (qd 0))))))
noncomputable abbrev kA:jD:=jQ yi [.val,.val] (yj)
abbrev uA (e0:Ev):=qA e0 1 "with_letters" ["word", "letters"] [.val,.val] .sh (kA)
theorem Qe (Z:ZtE e0 ca) (T:kh e0 "with_letters" vP ["word", "letters"]):uA e0:=
 dW [] T λcdv f A outer s H E h=>(qg (qh (Um rfl (cmp (qD rfl vr) (λ_ _ _ _=>(ix vr (qc7 PySem.F.slot_str_index PySem.F.type_str_index qaE rfl (gQ Z.c_LETTERS rfl) vr)))))))
abbrev Qf:Stmt:=top 65
abbrev qa4:List Str:=["words", "letters"]
noncomputable def Wl:qR:=(qN (ki (ql [.vl] jS (qc (qd 0) qx)))
  (qN (ki (ql [.vl] vn (qc (qd 1) qx)))
  (jt (d1 vW (qI [] 1 [1] (jl (qd 0)) (gNm 0) ftT (ql [.vl,.vl] kA (qc (qd 0) (qc (qd 1) qx))))))))
noncomputable abbrev Qg:jD:=jQ qa4 [.val,.val] (Wl)
abbrev Jn (e0:Ev):=qA e0 5 "renamed" ["words", "letters"] [.val,.val] .sh (Qg)
theorem ZP (Z:ZtE e0 ca) (T:kh e0 "renamed" Qf ["words", "letters"]) (m:kz e0) (Q:wN e0) (o:uA e0):Jn e0:=
 dW [] T λcdv f A outer s H E h=>(qf (ji (cN m (qa vr qe)))
  (qf (ji (cN Q (qa vr qe)))
  (qg (qh (jC (yW rfl) rfl Z.z_tuple vF (cmp (qD rfl vr) (λ_ _ _ _=>(qQ o h (by decide) vV rfl (qa vr (qa vr qe))))))))))
abbrev uB:Stmt:=top 25
abbrev Wm:List Str:=["thing"]
noncomputable def zx:qR:=(sIf (gm (we (ql [.vl,.vl,.vl] jK (qc (qd 0) (qc (dC (.int 1)) (qc (dC (.int 99)) qx)))))) (wj "NoRoom" (qc (dC (.str "a room is a whole number from 1 to 99")) qx)) jk)
noncomputable abbrev uC:jD:=jQ Wm [.val] (zx)
abbrev xp (e0:Ev):=qA e0 2 "check_room" ["thing"] [.val] .sh (uC)
theorem Ko (Z:ZtE e0 ca) (T:kh e0 "check_room" uB ["thing"]) (o:kQ e0):xp e0:=
 dW [] T λcdv f A outer s H E h=>(qg (qW (jJ (tv (cN o (qa vr (qa qp (qa (wk Z.c_MOST_ROOM rfl) qe)))))) (qg (rz Z "NoRoom" (qa wL qe))) qH))
abbrev uD:Stmt:=top 21
abbrev Wn:List Str:=["thing", "count", "room"]
noncomputable def zy:qR:=(qN (sIf (dOr (gm (we (d1 (zg "tuple") (qd 0)))) (qL (d2 neD (d1 ky (qd 0)) (qd 1)))) (jt (dC (.bl iI))) jk)
  (jt (d1 Zl (qI [] 1 [2] (jl (qd 0)) (gNm 0) ftT (ql [.vl,.vl,.vl] jK (qc (qd 0) (qc (dC (.int 0)) (qc (d2 qce (qd 1) (dC (.int 1))) qx))))))))
noncomputable abbrev uE:jD:=jQ Wn [.val,.val,.val] (zy)
abbrev xq (e0:Ev):=qA e0 2 "is_numbers" ["thing", "count", "room"] [.val,.val,.val] .sh (uE)
theorem Kp (Z:ZtE e0 ca) (T:kh e0 "is_numbers" uD ["thing", "count", "room"]) (o:kQ e0):xq e0:=
 dW [] T λcdv f A outer s H E h=>(qf (qW (PW.pt (gq (jJ (tv (zh rfl rfl Z.z_isinstance jp rfl Z.z_tuple vF vr))) (vK (qG (QC rfl h.units) (qw (jj rfl) rfl Z.z_len jh vr) vr)))) (qg (qh wY)) qH)
  (qg (qh (qw (QZ rfl rfl) rfl Z.z_all Jf (cmp (qD rfl vr) (λ_ _ _ _=>(qQ o h (by decide) vV rfl (qa vr (qa qp (qa (qT QT vr qp) qe))))))))))
abbrev vo:Stmt:=top 26
abbrev Qh:List Str:=["thing", "count", "room"]
noncomputable def uF:qR:=(sIf (gm (we (ql [.vl,.vl,.vl] uE (qc (qd 0) (qc (qd 1) (qc (qd 2) qx)))))) (wj "NoNumbers" (qc (dC (.str "numbers are a tuple of a number within the room for each word")) qx)) jk)
noncomputable abbrev vp:jD:=jQ Qh [.val,.val,.val] (uF)
abbrev wO (e0:Ev):=qA e0 3 "check_numbers" ["thing", "count", "room"] [.val,.val,.val] .sh (vp)
theorem zR (Z:ZtE e0 ca) (T:kh e0 "check_numbers" vo ["thing", "count", "room"]) (o:xq e0):wO e0:=
 dW [] T λcdv f A outer s H E h=>(qg (qW (jJ (tv (cN o (qa vr (qa vr (qa vr qe)))))) (qg (rz Z "NoNumbers" (qa wL qe))) qH))
abbrev uG:Stmt:=top 33
abbrev Wo:List Str:=["words", "look", "room", "numbers", "seen"]
noncomputable def zA:qR:=(qN (jx 4 (ql [.vl,.vl] vj (qc (qd 0) (qc (qd 1) qx))))
  (qN (ki (ql [.vl] uC (qc (qd 2) qx)))
  (qN (ki (ql [.vl,.vl,.vl] vp (qc (qd 3) (qc (d1 ky (qd 0)) (qc (qd 2) qx)))))
  (jt (qd 4)))))
noncomputable abbrev uH:jD:=jQ Wo [.val,.val,.val,.val] (zA)
abbrev xu (e0:Ev):=qA e0 6 "told_pairs" ["words", "look", "room", "numbers"] [.val,.val,.val,.val] .sh (uH)
theorem Kq (Z:ZtE e0 ca) (T:kh e0 "told_pairs" uG ["words", "look", "room", "numbers"]) (a:xp e0) (P:wO e0) (o:ww e0):xu e0:=
 dW [] T λcdv f A outer s H E h=>(qf (se (cN o (qa vr (qa vr qe))))
  (qf (ji (cN a (qa vr qe)))
  (qf (ji (cN P (qa vr (qa (qw (jj rfl) rfl Z.z_len jh vr) (qa vr qe)))))
  (qg (qh vr)))))
abbrev Kr:Stmt:=top 36
abbrev qdp:List Str:=["walk"]
noncomputable def Ks:qR:=(jt (d2 eqD (d2 yG (d1 ky (qd 0)) (dC (.int 2))) (dC (.int 1))))
noncomputable abbrev wE:jD:=jQ qdp [.val] (Ks)
abbrev xw (e0:Ev):=qA e0 1 "is_odd" ["walk"] [.val] .sh (wE)
theorem qa5 (Z:ZtE e0 ca) (T:kh e0 "is_odd" Kr ["walk"]):xw e0:=
 dW [] T λcdv f A outer s H E h=>(qg (qh (vC (vA rfl h.units) (qT vb (qw (jj rfl) rfl Z.z_len jh vr) qp) qp)))
abbrev xS:Stmt:=top 35
abbrev Jo:List Str:=["walk", "numbers", "start", "total", "at"]
noncomputable def Jp:qR:=(qN (jx 3 (qd 2))
  (qN (zI (jl (qd 0)) (gNm 4)
  (jx 3 (d2 qce (d2 ixD (qd 1) (qd 4)) (qd 3))))
  (jt (qd 3))))
noncomputable abbrev uV:jD:=jQ Jo [.val,.val,.val] (Jp)
abbrev yB (e0:Ev):=qA e0 1 "comes_to" ["walk", "numbers", "start"] [.val,.val,.val] .sh (uV)
theorem UJ (Z:ZtE e0 ca) (T:kh e0 "comes_to" xS ["walk", "numbers", "start"]):yB e0:=
 dW [] T λcdv f A outer s H E h=>(qf (se vr)
  (qf (jF aL rfl (qD rfl vr) gn
  (qg (se (qT QT (ix vr vr) vr))))
  (qg (qh vr))))
abbrev qa6:Stmt:=top 37
abbrev qis:List Str:=["walk", "room", "numbers", "total"]
noncomputable def qa7:qR:=(qN (jx 3 (ql [.vl,.vl,.vl] uV (qc (qd 0) (qc (qd 2) (qc (dC (.int 0)) qx)))))
  (qN (sIf (we (ql [.vl] wE (qc (qd 0) qx))) (jt (JL (d2 eqD (d2 yG (qd 1) (dC (.int 2))) (dC (.int 0))) (d2 eqD (d2 yG (qd 3) (dC (.int 2))) (dC (.int 1))))) jk)
  (jt (d2 neD (d2 yG (qd 3) (qd 1)) (dC (.int 0))))))
noncomputable abbrev Xe:jD:=jQ qis [.val,.val,.val] (qa7)
abbrev qa8 (e0:Ev):=qA e0 2 "bars" ["walk", "room", "numbers"] [.val,.val,.val] .sh (Xe)
theorem qfY (Z:ZtE e0 ca) (T:kh e0 "bars" qa6 ["walk", "room", "numbers"]) (G:yB e0) (o:xw e0):qa8 e0:=
 dW [] T λcdv f A outer s H E h=>(qf (se (cN G (qa vr (qa vr (qa qp qe)))))
  (qf (qW (tv (cN o (qa vr qe))) (qg (qh (QW (vC (vA rfl h.units) (qT vb vr qp) qp) (QV (vC (vA rfl h.units) (qT vb vr qp) qp))))) qH)
  (qg (qh (vC (QC rfl h.units) (qT vb vr vr) qp)))))
abbrev vQ:Stmt:=top 34
abbrev QM:List Str:=["pair", "letter"]
noncomputable def yk:qR:=(jt (dIf (qL (d2 eqD (qd 1) (d2 ixD (qd 0) (dC (.int 0))))) (d2 ixD (qd 0) (dC (.int 1))) (d2 ixD (qd 0) (dC (.int 0)))))
noncomputable abbrev kB:jD:=jQ QM [.val,.val] (yk)
abbrev uI (e0:Ev):=qA e0 1 "other_letter" ["pair", "letter"] [.val,.val] .sh (kB)
theorem Qi (Z:ZtE e0 ca) (T:kh e0 "other_letter" vQ ["pair", "letter"]):uI e0:=
 dW [] T λcdv f A outer s H E h=>(qg (qh (Zf (qG (vA rfl h.units) vr (ix vr qp)) (ix vr qp) (ix vr qp))))
abbrev Kt:Stmt:=top 38
abbrev Xf:List Str:=["seen", "root", "ways", "waiting", "letter", "at", "pair", "reached"]
noncomputable def Xg:qR:=(qN (gS 2 (yP (qc (qd 1) (qc (yd qx) qx))) (qd 1))
  (qN (jx 3 (yd (qc (qd 1) qx)))
  (qZ (qL (d2 gtD (d1 ky (qd 3)) (dC (.int 0))))
  (qN (jx 4 (qaH 3))
  (zI (ue (qd 0)) (jo 2 (qu (gNm 5) (qu (gNm 6) jn)))
  (qN (jx 7 (ql [.vl,.vl] kB (qc (qd 6) (qc (qd 4) qx))))
  (sIf (qd7 (qL (d2 inA (qd 4) (qd 6))) (qL (d2 zJ (qd 7) (qd 2)))) (qN (gS 2 (yP (qc (qd 1) (qc (d2 vz (d2 ixD (d2O 2 ixD (qd 4)) (dC (.int 1))) (yd (qc (qd 5) qx))) qx))) (qd 7))
  (ki (xE 3 QE (qd 7)))) jk)))) 20)))
noncomputable abbrev ge:jD:=jQ Xf [.val,.val,.io] (Xg)
abbrev Wp (e0:Ev):=qA e0 2 "spread" ["seen", "root", "ways"] [.val,.val,.io] .sh (ge)
theorem qa9 (Z:ZtE e0 ca) (T:kh e0 "spread" Kt ["seen", "root", "ways"]) (o:uI e0):Wp e0:=
 dW [3,2] T λcdv f A outer s H E h=>(qf (gc (n:=2) h.units rfl (bE rfl) (by decide) (kM (qa vr (qa (jX qe) qe))) vr)
  (qf (sO (jX (qa vr qe)))
  (qg (yT 20 aL (qG qkB (qw (jj rfl) rfl Z.z_len jh vO) qp)
  (qf (se (qfN (i:=3) rfl (bE rfl) (by decide)))
  (qg (jF aL rfl (uU rfl rfl Z.z_enumerate vr) (kK rfl rfl (qC gn (qC gn ke)))
  (qf (se (cN o (qa vr (qa vr qe))))
  (qg (qW (PW.pt (WX (qG (qaf rfl h.units) vr vr) (vK (qG (vY rfl h.units) vr vO)))) (qf (gc (n:=2) h.units rfl (bE rfl) (by decide) (kM (qa vr (qa (qT (jU rfl) (ix (qii (i:=2) rfl h.units rfl (bE rfl) (by decide) vr (λ_ _=>rfl)) qp) (jX (qa vr qe))) qe))) vr)
  (qg (ji (vU (i:=3) rfl rfl (bE rfl) (by decide) vr)))) qH))))))))))
abbrev Qj:Stmt:=top 39
abbrev Wq:List Str:=["seen", "ways", "letter"]
noncomputable def Wr:qR:=(qN (jx 1 (dC (.dct [])))
  (qN (zI (jl (ql [.vl] jM (qc (qd 0) qx))) (gNm 2)
  (sIf (qL (d2 zJ (qd 2) (qd 1))) (ki (ql [.vl,.vl,.sl 1] ge (qc (qd 0) (qc (qd 2) (kj qx))))) jk))
  (jt (qd 1))))
noncomputable abbrev uJ:jD:=jQ Wq [.val] (Wr)
abbrev xT (e0:Ev):=qA e0 3 "ways_of" ["seen"] [.val] .sh (uJ)
theorem ZQ (Z:ZtE e0 ca) (T:kh e0 "ways_of" Qj ["seen"]) (B:wx e0) (O:Wp e0):xT e0:=
 dW [] T λcdv f A outer s H E h=>(qf (sO zX)
  (qf (jF aL rfl (qD rfl (cN B (qa vr qe))) gn
  (qg (qW (qG (vY rfl h.units) vr vO) (qg (ji (cN O (qa vr (qa vr (sl qe)))))) qH)))
  (jI [1] (qg (qh vr)))))
abbrev uK:Stmt:=top 40
abbrev zB:List Str:=["seen", "ways", "found", "at", "pair", "back"]
noncomputable def zD:qR:=(qN (jx 2 (yd qx))
  (qN (zI (ue (qd 0)) (jo 2 (qu (gNm 3) (qu (gNm 4) jn)))
  (qN (jx 5 (d1 xc (d2 ixD (d2 ixD (qd 1) (d2 ixD (qd 4) (dC (.int 1)))) (dC (.int 1)))))
  (ki (xE 2 QE (yP (qc (d2 ixD (d2 ixD (qd 1) (d2 ixD (qd 4) (dC (.int 0)))) (dC (.int 0))) (qc (d2 vz (d2 vz (d2 ixD (d2 ixD (qd 1) (d2 ixD (qd 4) (dC (.int 0)))) (dC (.int 1))) (yd (qc (qd 3) qx))) (qd 5)) qx)))))))
  (jt (qd 2))))
noncomputable abbrev vI:jD:=jQ zB [.val,.val] (zD)
abbrev wF (e0:Ev):=qA e0 1 "circles_of" ["seen", "ways"] [.val,.val] .sh (vI)
theorem Ku (Z:ZtE e0 ca) (T:kh e0 "circles_of" uK ["seen", "ways"]):wF e0:=
 dW [] T λcdv f A outer s H E h=>(qf (sO (jX qe))
  (qf (jF aL rfl (uU rfl rfl Z.z_enumerate vr) (kK rfl rfl (qC gn (qC gn ke)))
  (qf (se (ZD rfl rfl rfl Z.z_list wq rfl Z.z_reversed Uu (ix (ix vr (ix vr qp)) qp)))
  (qg (ji (vU (i:=2) rfl rfl (bE rfl) (by decide) (kM (qa (ix (ix vr (ix vr qp)) qp) (qa (qT (jU rfl) (qT (jU rfl) (ix (ix vr (ix vr qp)) qp) (jX (qa vr qe))) vr) qe))))))))
  (jI [2] (qg (qh vr)))))
abbrev yC:Stmt:=top 41
abbrev Qk:List Str:=["circles", "first", "root", "walk"]
noncomputable def Ql:qR:=(qN (jx 1 (dC (.dct [])))
  (qN (zI (jl (qd 0)) (jo 2 (qu (gNm 2) (qu (gNm 3) jn)))
  (sIf (qd7 (we (ql [.vl] wE (qc (qd 3) qx))) (qL (d2 zJ (qd 2) (qd 1)))) (gS 1 (qd 3) (qd 2)) jk))
  (jt (qd 1))))
noncomputable abbrev wG:jD:=jQ Qk [.val] (Ql)
abbrev uL (e0:Ev):=qA e0 2 "first_odd" ["circles"] [.val] .sh (wG)
theorem Ws (Z:ZtE e0 ca) (T:kh e0 "first_odd" yC ["circles"]) (o:xw e0):uL e0:=
 dW [] T λcdv f A outer s H E h=>(qf (sO zX)
  (qf (jF aL rfl (qD rfl vr) (kK rfl rfl (qC gn (qC gn ke)))
  (qg (qW (PW.pt (WX (tv (cN o (qa vr qe))) (vK (qG (vY rfl h.units) vr vO)))) (qg (gc (n:=1) h.units rfl (bE rfl) (by decide) vr vr)) qH)))
  (jI [1] (qg (qh vr)))))
abbrev Kv:Stmt:=top 42
abbrev Xh:List Str:=["seen", "room", "numbers", "circles", "first", "joined", "root", "walk"]
noncomputable def Xi:qR:=(qN (jx 3 (ql [.vl,.vl] vI (qc (qd 0) (qc (ql [.vl] uJ (qc (qd 0) qx)) qx))))
  (qN (jx 4 (ql [.vl] wG (qc (qd 3) qx)))
  (qN (jx 5 (qI [] 2 [4] (jl (qd 3)) (jo 2 (qu (gNm 0) (qu (gNm 1) jn))) (we (ql [.vl] wE (qc (qd 1) qx))) (yP (qc (qd 0) (qc (d2 vz (d2 ixD (qd 2) (qd 0)) (qd 1)) qx)))))
  (qN (zI (jl (d2 vz (qd 3) (qd 5))) (jo 2 (qu (gNm 6) (qu (gNm 7) jn)))
  (sIf (we (ql [.vl,.vl,.vl] Xe (qc (qd 7) (qc (qd 1) (qc (qd 2) qx))))) (jt (yP (qc (qd 6) (qc (qd 7) qx)))) jk))
  (jt (dC .non))))))
noncomputable abbrev Kw:jD:=jQ Xh [.val,.val,.val] (Xi)
abbrev Wt (e0:Ev):=qA e0 4 "bar_of" ["seen", "room", "numbers"] [.val,.val,.val] .sh (Kw)
theorem qba (Z:ZtE e0 ca) (T:kh e0 "bar_of" Kv ["seen", "room", "numbers"]) (o:xw e0) (O:qa8 e0) (J:xT e0) (C:wF e0) (F:uL e0):Wt e0:=
 dW [] T λcdv f A outer s H E h=>(qf (se (cN C (qa vr (qa (cN J (qa vr qe)) qe))))
  (qf (se (cN F (qa vr qe)))
  (qf (qfR (qD rfl vr) (λ_ _ _ _=>(kM (qa vr (qa (qT (jU rfl) (ix vr vr) vr) qe)))) (hg:=λ_ _ _ _=>(kK rfl rfl (qC gC (qC gC ke)))) (ht:=λ_ _ _ _=>(uc (tv (qQ o h (by decide) vV rfl (qa vr qe))))))
  (qf (jF aL rfl (qD rfl (qT (jU rfl) vr vO)) (kK rfl rfl (qC gn (qC gn ke)))
  (qg (qW (tv (cN O (qa vr (qa vr (qa vr qe))))) (qg (qh (kM (qa vr (qa vr qe))))) qH)))
  (qg (qh QS))))))
abbrev qfZ:Stmt:=top 43
abbrev qkZ:List Str:=["words", "look", "room", "numbers"]
noncomputable def qit:qR:=(jt (ql [.vl,.vl,.vl] Kw (qc (ql [.vl,.vl,.vl,.vl] uH (qc (qd 0) (qc (qd 1) (qc (qd 2) (qc (qd 3) qx))))) (qc (qd 2) (qc (qd 3) qx)))))
noncomputable abbrev qf0:jD:=jQ qkZ [.val,.val,.val,.val] (qit)
abbrev qem (e0:Ev):=qA e0 7 "bar" ["words", "look", "room", "numbers"] [.val,.val,.val,.val] .sh (qf0)
theorem qiu (Z:ZtE e0 ca) (T:kh e0 "bar" qfZ ["words", "look", "room", "numbers"]) (o:xu e0) (O:Wt e0):qem e0:=
 dW [] T λcdv f A outer s H E h=>(qg (qh (cN O (qa (cN o (qa vr (qa vr (qa vr (qa vr qe))))) (qa vr (qa vr qe))))))
abbrev qbb:Stmt:=top 44
abbrev qiv:List Str:=["total", "room", "rest"]
noncomputable def qen:qR:=(qN (jx 2 (d2 yG (qd 0) (qd 1)))
  (jt (dIf (qL (d2 eqD (d2 yG (qd 2) (dC (.int 2))) (dC (.int 0)))) (d2 JJ (qd 2) (dC (.int 2))) (d2 JJ (d2 vz (qd 2) (qd 1)) (dC (.int 2))))))
noncomputable abbrev qbc:jD:=jQ qiv [.val,.val] (qen)
abbrev qbd (e0:Ev):=qA e0 1 "half" ["total", "room"] [.val,.val] .sh (qbc)
theorem qf1 (Z:ZtE e0 ca) (T:kh e0 "half" qbb ["total", "room"]):qbd e0:=
 dW [] T λcdv f A outer s H E h=>(qf (se (qT vb vr vr))
  (qg (qh (Zf (qG (vA rfl h.units) (qT vb vr qp) qp) (qT JK vr qp) (qT JK (qT (jU rfl) vr vr) qp)))))
abbrev wH:Stmt:=top 45
abbrev Ky:List Str:=["walk", "room", "numbers", "worth"]
noncomputable def kR:qR:=(qN (sIf (qL (d2 eqD (d1 ky (qd 0)) (dC (.int 0)))) (jt (d1 kP (qd 1))) jk)
  (qN (jx 3 (ql [.vl,.vl] qbc (qc (ql [.vl,.vl,.vl] uV (qc (qd 0) (qc (qd 2) (qc (dC (.int 0)) qx)))) (qc (qd 1) qx))))
  (jt (dIf (qL (d2 eqD (d2 yG (qd 1) (dC (.int 2))) (dC (.int 0)))) (yd (qc (qd 3) (qc (d2 vz (qd 3) (d2 JJ (qd 1) (dC (.int 2)))) qx))) (yd (qc (qd 3) qx))))))
noncomputable abbrev kS:jD:=jQ Ky [.val,.val,.val] (kR)
abbrev yl (e0:Ev):=qA e0 2 "root_worths" ["walk", "room", "numbers"] [.val,.val,.val] .sh (kS)
theorem QN (Z:ZtE e0 ca) (T:kh e0 "root_worths" wH ["walk", "room", "numbers"]) (G:yB e0) (O:qbd e0):yl e0:=
 dW [] T λcdv f A outer s H E h=>(qf (qW (qG (vA rfl h.units) (qw (jj rfl) rfl Z.z_len jh vr) qp) (qg (qh (Jc rfl rfl Z.z_list wq rfl Z.z_range Kc vr))) qH)
  (qf (se (cN O (qa (cN G (qa vr (qa vr (qa qp qe)))) (qa vr qe))))
  (qg (qh (Zf (qG (vA rfl h.units) (qT vb vr qp) qp) (jX (qa vr (qa (qT (jU rfl) vr (qT JK vr qp)) qe))) (jX (qa vr qe)))))))
abbrev xU:Stmt:=top 46
abbrev Jq:List Str:=["seen", "room", "numbers", "ways", "first", "roots"]
noncomputable def Jr:qR:=(qN (jx 3 (ql [.vl] uJ (qc (qd 0) qx)))
  (qN (jx 4 (ql [.vl] wG (qc (ql [.vl,.vl] vI (qc (qd 0) (qc (qd 3) qx))) qx)))
  (qN (jx 5 (qI [] 1 [3] (jl (d1 wo (qd 3))) (gNm 0) (qL (d2 eqD (d2 ixD (d2 ixD (qd 1) (qd 0)) (dC (.int 0))) (qd 0))) (qd 0)))
  (jt (qI [] 1 [1,2,4] (jl (qd 5)) (gNm 0) ftT (yP (qc (qd 0) (qc (ql [.vl,.vl,.vl] kS (qc (qc9 (qd 3) (qd 0) (yd qx)) (qc (qd 1) (qc (qd 2) qx)))) qx))))))))
noncomputable abbrev uW:jD:=jQ Jq [.val,.val,.val] (Jr)
abbrev Qm (e0:Ev):=qA e0 4 "roots_of" ["seen", "room", "numbers"] [.val,.val,.val] .sh (uW)
theorem UK (Z:ZtE e0 ca) (T:kh e0 "roots_of" xU ["seen", "room", "numbers"]) (J:xT e0) (C:wF e0) (F:uL e0) (o:yl e0):Qm e0:=
 dW [] T λcdv f A outer s H E h=>(qf (se (cN J (qa vr qe)))
  (qf (se (cN F (qa (cN C (qa vr (qa vr qe))) qe)))
  (qf (qfR (qD rfl (qw (ZA rfl) rfl Z.z_sorted xg vr)) (λ_ _ _ _=>vr) (ht:=λ_ _ _ _=>(uc (qG (vA rfl h.units) (ix (ix vr vr) qp) vr))))
  (jI [5] (qg (qh (cmp (qD rfl vr) (λ_ _ _ _=>(kM (qa vr (qa (qQ o h (by decide) vV rfl (qa (qfO h.units vr vr (jX qe)) (qa vr (qa vr qe)))) qe)))))))))))
abbrev xV:Stmt:=top 67
abbrev Js:List Str:=["words", "look", "room", "numbers", "count", "root", "choices"]
noncomputable def xW:qR:=(qN (sIf (qL (d2 Vv (ql [.vl,.vl,.vl,.vl] qf0 (qc (qd 0) (qc (qd 1) (qc (qd 2) (qc (qd 3) qx))))) (dC .non))) (jt (dC (.int 0))) jk)
  (qN (jx 4 (dC (.int 1)))
  (qN (zI (jl (ql [.vl,.vl,.vl] uW (qc (ql [.vl,.vl] vj (qc (qd 0) (qc (qd 1) qx))) (qc (qd 2) (qc (qd 3) qx))))) (jo 2 (qu (gNm 5) (qu (gNm 6) jn)))
  (jx 4 (d2 Gd (qd 4) (d1 ky (qd 6)))))
  (jt (qd 4)))))
noncomputable abbrev uX:jD:=jQ Js [.val,.val,.val,.val] (xW)
abbrev Qn (e0:Ev):=qA e0 8 "how_many" ["words", "look", "room", "numbers"] [.val,.val,.val,.val] .sh (uX)
theorem UL (Z:ZtE e0 ca) (T:kh e0 "how_many" xV ["words", "look", "room", "numbers"]) (o:ww e0) (O:qem e0) (d:Qm e0):Qn e0:=
 dW [] T λcdv f A outer s H E h=>(qf (qW (qG WY (cN O (qa vr (qa vr (qa vr (qa vr qe))))) QS) (qg (qh qp)) qH)
  (qf (se qp)
  (qf (jF aL rfl (qD rfl (cN d (qa (cN o (qa vr (qa vr qe))) (qa vr (qa vr qe))))) (kK rfl rfl (qC gn (qC gn ke)))
  (qg (se (qT Vq vr (qw (jj rfl) rfl Z.z_len jh vr)))))
  (qg (qh vr)))))
abbrev xX:Stmt:=top 69
abbrev ZR:List Str:=["_law_script", "_law_k"]
noncomputable def uY:qR:=(qN (sIf (qL (d2 ltD (qd 1) (d1 ky (qd 0)))) (jt (d2 ixD (qd 0) (qd 1))) jk)
  (qN (sIf (qL (d2 eqD (qd 0) (yd qx))) (jt (dC (.int 0))) jk)
  (jt (d2 vz (d2 Gd (d2 ixD (qd 0) (d2 yG (qd 1) (d1 ky (qd 0)))) (dC (.int 31))) (qd 1)))))
noncomputable abbrev xY:jD:=jQ ZR [.val,.val] (uY)
abbrev Qo (e0:Ev):=qA e0 1 "_law_cell_at" ["_law_script", "_law_k"] [.val,.val] .sh (xY)
theorem UM (Z:ZtE e0 ca) (T:kh e0 "_law_cell_at" xX ["_law_script", "_law_k"]):Qo e0:=
 dW [] T λcdv f A outer s H E h=>(qf (qW (qG qfh vr (qw (jj rfl) rfl Z.z_len jh vr)) (qg (qh (ix vr vr))) qH)
  (qf (qW (qG (vA rfl h.units) vr (jX qe)) (qg (qh qp)) qH)
  (qg (qh (qT (jU rfl) (qT Vq (ix vr (qT vb vr (qw (jj rfl) rfl Z.z_len jh vr))) qp) vr)))))
abbrev Kz:Stmt:=top 70
abbrev qdq:List Str:=["_law_script", "_law_k", "_law_many", "_law_drawn"]
noncomputable def Xj:qR:=(qN (jx 3 (d2 yG (d2 vz (d2 vz (d2 Gd (ql [.vl,.vl] xY (qc (qd 0) (qc (qd 1) qx))) (dC (.int 1103515245))) (d2 Gd (dC (.int 7919)) (qd 1))) (dC (.int 12345))) (dC (.int 2147483647))))
  (jt (d2 yG (d2 yG (d2 yG (d2 qkV (qd 3) (dC (.int 5))) (dC (.int 2147483647))) (dC (.int 999983))) (qd 2))))
noncomputable abbrev KA:jD:=jQ qdq [.val,.val,.val] (Xj)
abbrev Wu (e0:Ev):=qA e0 2 "_law_mixed" ["_law_script", "_law_k", "_law_many"] [.val,.val,.val] .sh (KA)
theorem qbe (Z:ZtE e0 ca) (T:kh e0 "_law_mixed" Kz ["_law_script", "_law_k", "_law_many"]) (O:Qo e0):Wu e0:=
 dW [] T λcdv f A outer s H E h=>(qf (se (qT vb (qT (jU rfl) (qT (jU rfl) (qT Vq (cN O (qa vr (qa vr qe))) qp) (qT Vq qp vr)) qp) qp))
  (qg (qh (qT vb (qT vb (qT vb (qT qif vr qp) qp) qp) vr))))
abbrev UN:Stmt:=top 71
abbrev qf2:List Str:=["_law_script", "_law_town", "_law_many"]
noncomputable def qbf:qR:=(qN (ki (xE 1 QE (dC (.int 0))))
  (jt (ql [.vl,.vl,.vl] KA (qc (qd 0) (qc (d1 ky (qd 1)) (qc (qd 2) qx))))))
noncomputable abbrev jH:jD:=jQ qf2 [.val,.io,.val] (qbf)
abbrev wI (e0:Ev):=qA e0 3 "_law_draw" ["_law_script", "_law_town", "_law_many"] [.val,.io,.val] .sh (jH)
theorem qdr (Z:ZtE e0 ca) (T:kh e0 "_law_draw" UN ["_law_script", "_law_town", "_law_many"]) (O:Wu e0):wI e0:=
 dW [1] T λcdv f A outer s H E h=>(qf (ji (vU (i:=1) rfl rfl (bE rfl) (by decide) qp))
  (qg (qh (cN O (qa vr (qa (qw (jj rfl) rfl Z.z_len jh vO) (qa vr qe)))))))
abbrev UO:Stmt:=top 72
abbrev qf3:List Str:=["_law_script", "_law_town", "_law_some"]
noncomputable def qbg:qR:=(jt (d2 ixD (qd 2) (ql [.vl,.sl 1,.vl] jH (qc (qd 0) (kj (qc (d1 ky (qd 2)) qx))))))
noncomputable abbrev Qp:jD:=jQ qf3 [.val,.io,.val] (qbg)
abbrev KB (e0:Ev):=qA e0 4 "_law_pick" ["_law_script", "_law_town", "_law_some"] [.val,.io,.val] .sh (Qp)
theorem qds (Z:ZtE e0 ca) (T:kh e0 "_law_pick" UO ["_law_script", "_law_town", "_law_some"]) (o:wI e0):KB e0:=
 dW [1] T λcdv f A outer s H E h=>(qg (qh (ix vr (cN o (qa vr (sl (qa (qw (jj rfl) rfl Z.z_len jh vr) qe)))))))
abbrev UP:Stmt:=top 73
abbrev qf4:List Str:=["_law_script", "_law_town", "_law_letters_here", "_law_most"]
noncomputable def qbh:qR:=(jt (d1 (gM "") (qI [1] 1 [0,1,2] (kr (d2 vz (dC (.int 1)) (ql [.vl,.sl 1,.vl] jH (qc (qd 0) (kj (qc (qd 3) qx)))))) (gNm 0) ftT (ql [.vl,.sl 2,.vl] Qp (qc (qd 1) (kj (qc (qd 3) qx)))))))
noncomputable abbrev KC:jD:=jQ qf4 [.val,.io,.val,.val] (qbh)
abbrev Xk (e0:Ev):=qA e0 5 "_law_word" ["_law_script", "_law_town", "_law_letters_here", "_law_most"] [.val,.io,.val,.val] .sh (KC)
theorem qdt (Z:ZtE e0 ca) (T:kh e0 "_law_word" UP ["_law_script", "_law_town", "_law_letters_here", "_law_most"]) (o:wI e0) (R:KB e0):Xk e0:=
 dW [1] T λcdv f A outer s H E h=>(qg (qh (Um rfl (cmp (vT rfl Z.z_range (qT (jU rfl) qp (cN o (qa vr (kx (i:=1) rfl (cP (bE rfl)) (by decide) (qa vr qe)))))) (λ_ _ _ _=>(qQ R h (by decide) vV rfl (qa vr (kx (i:=2) rfl (by first | exact cP (cP rfl) | exact cP (bE rfl)) (by decide) (qa vr qe)))))))))
abbrev KF:Stmt:=top 74
abbrev qdu:List Str:=["_law_script", "_law_town", "_law_most", "_law_letters_here", "_law_made", "_law_k", "_law_word_here"]
noncomputable def Xl:qR:=(qN (jx 3 (ql [.vl,.sl 1,.vl] Qp (qc (qd 0) (kj (qc (yd λρ=>.ok ([(.lst [(.str "a"),(.str "b")]),(.lst [(.str "a"),(.str "b"),(.str "c")]),(.lst [(.str "a"),(.str "b"),(.str "c"),(.str "d")]),(.lst [(.str "k"),(.str "m"),(.str "z"),(.str "a"),(.str "e")])],ρ)) qx)))))
  (qN (jx 4 (yd qx))
  (qN (zI (kr (d2 vz (dC (.int 1)) (ql [.vl,.sl 1,.vl] jH (qc (qd 0) (kj (qc (qd 2) qx)))))) (gNm 5)
  (qN (jx 6 (ql [.vl,.sl 1,.vl,.vl] KC (qc (qd 0) (kj (qc (qd 3) (qc (dC (.int 6)) qx))))))
  (sIf (qL (d2 zJ (qd 6) (qd 4))) (ki (xE 4 QE (qd 6))) jk)))
  (jt (d1 vW (qd 4))))))
noncomputable abbrev KG:jD:=jQ qdu [.val,.io,.val] (Xl)
abbrev Wv (e0:Ev):=qA e0 6 "_law_words" ["_law_script", "_law_town", "_law_most"] [.val,.io,.val] .sh (KG)
theorem qbi (Z:ZtE e0 ca) (T:kh e0 "_law_words" KF ["_law_script", "_law_town", "_law_most"]) (o:wI e0) (R:KB e0) (O:Xk e0):Wv e0:=
 dW [1] T λcdv f A outer s H E h=>(qf (se (cN R (qa vr (sl (qa (qfJ 16 rfl) qe)))))
  (qf (sO (jX qe))
  (qf (jF aL rfl (vT rfl Z.z_range (qT (jU rfl) qp (cN o (qa vr (sl (qa vr qe)))))) gn
  (qf (se (cN O (qa vr (sl (qa vr (qa qp qe))))))
  (qg (qW (qG (vY rfl h.units) vr vO) (qg (ji (vU (i:=4) rfl rfl (bE rfl) (by decide) vr))) qH))))
  (qg (qh (jC (yW rfl) rfl Z.z_tuple vF vO))))))
abbrev UQ:Stmt:=top 75
abbrev qf5:List Str:=["_law_script", "_law_town"]
noncomputable def qbj:qR:=(jt (yP (qc (d2 qce (ql [.vl,.sl 1,.vl] jH (qc (qd 0) (kj (qc (dC (.int 6)) qx)))) (dC (.int 3))) (qc (d2 qce (ql [.vl,.sl 1,.vl] jH (qc (qd 0) (kj (qc (dC (.int 6)) qx)))) (dC (.int 3))) qx))))
noncomputable abbrev UR:jD:=jQ qf5 [.val,.io] (qbj)
abbrev Xm (e0:Ev):=qA e0 4 "_law_look" ["_law_script", "_law_town"] [.val,.io] .sh (UR)
theorem qdv (Z:ZtE e0 ca) (T:kh e0 "_law_look" UQ ["_law_script", "_law_town"]) (o:wI e0):Xm e0:=
 dW [1] T λcdv f A outer s H E h=>(qg (qh (kM (qa (qT QT (cN o (qa vr (sl (qa qp qe)))) qp) (qa (qT QT (cN o (qa vr (sl (qa qp qe)))) qp) qe)))))
abbrev qf6:Stmt:=top 76
abbrev qk0:List Str:=["_law_word_here", "_law_place", "_law_spots"]
noncomputable def qk1:qR:=(qN (jx 2 (qI [] 1 [1,0] (kr (d1 ky (qd 0))) (gNm 0) (dOr (qL (d2 eqD (qd 0) (qd 1))) (qL (d2 eqD (qd 0) (d2 vz (qd 1) (d1 ky (qd 2)))))) (qd 0)))
  (qN (sIf (qL (d2 neD (qd 2) (yd qx))) (jt (d2 ixD (qd 0) (d2 ixD (qd 2) (dC (.int 0))))) jk)
  (jt (dIf (qL (d2 geD (qd 1) (dC (.int 0)))) (d2 ixD (qd 0) (d1 qlt (dC (.int 1)))) (d2 ixD (qd 0) (dC (.int 0)))))))
noncomputable abbrev qbk:jD:=jQ qk0 [.val,.val] (qk1)
abbrev qeo (e0:Ev):=qA e0 1 "_law_at" ["_law_word_here", "_law_place"] [.val,.val] .sh (qbk)
theorem qiw (Z:ZtE e0 ca) (T:kh e0 "_law_at" qf6 ["_law_word_here", "_law_place"]):qeo e0:=
 dW [] T λcdv f A outer s H E h=>(qf (qfR (vT rfl Z.z_range (qw (jj rfl) rfl Z.z_len jh vr)) (λ_ _ _ _=>vr) (ht:=λ_ _ _ _=>(uc (PW.pt (gq (qG (vA rfl h.units) vr vr) (vK (qG (vA rfl h.units) vr (qT (jU rfl) vr (qw (jj rfl) rfl Z.z_len jh vr)))))))))
  (jI [2] (qf (qW (qG (QC rfl h.units) vr (jX qe)) (qg (qh (ix vr (ix vr qp)))) qH)
  (qg (qh (Zf (qG qhO vr qp) (ix vr (qhF qec qp)) (ix vr qp)))))))
abbrev US:Stmt:=top 77
abbrev qbl:List Str:=["_law_words_here", "_law_look_here"]
noncomputable def qbm:qR:=(jt (qI [] 1 [1] (jl (qd 0)) (gNm 0) ftT (yP (qc (ql [.vl,.vl] qbk (qc (qd 0) (qc (d2 ixD (qd 1) (dC (.int 0))) qx))) (qc (ql [.vl,.vl] qbk (qc (qd 0) (qc (d2 ixD (qd 1) (dC (.int 1))) qx))) qx)))))
noncomputable abbrev Qq:jD:=jQ qbl [.val,.val] (qbm)
abbrev KH (e0:Ev):=qA e0 2 "_law_seen" ["_law_words_here", "_law_look_here"] [.val,.val] .sh (Qq)
theorem qdw (Z:ZtE e0 ca) (T:kh e0 "_law_seen" US ["_law_words_here", "_law_look_here"]) (O:qeo e0):KH e0:=
 dW [] T λcdv f A outer s H E h=>(qg (qh (cmp (qD rfl vr) (λ_ _ _ _=>(kM (qa (qQ O h (by decide) vV rfl (qa vr (qa (ix vr qp) qe))) (qa (qQ O h (by decide) vV rfl (qa vr (qa (ix vr qp) qe))) qe)))))))
abbrev xZ:Stmt:=top 78
abbrev ZT:List Str:=["_law_words_here", "_law_look_here", "_law_made", "_law_pair"]
noncomputable def Jt:qR:=(qN (jx 2 (yd qx))
  (qN (zI (jl (ql [.vl,.vl] Qq (qc (qd 0) (qc (qd 1) qx)))) (gNm 3)
  (ki (xE 2 qcP (d1 VC (qd 3)))))
  (jt (d1 uT (qd 2)))))
noncomputable abbrev uZ:jD:=jQ ZT [.val,.val] (Jt)
abbrev Qr (e0:Ev):=qA e0 3 "_law_letters" ["_law_words_here", "_law_look_here"] [.val,.val] .sh (uZ)
theorem UT (Z:ZtE e0 ca) (T:kh e0 "_law_letters" xZ ["_law_words_here", "_law_look_here"]) (o:KH e0):Qr e0:=
 dW [] T λcdv f A outer s H E h=>(qf (sO (jX qe))
  (qf (jF aL rfl (qD rfl (cN o (qa vr (qa vr qe)))) gn
  (qg (ji (gx (i:=2) rfl (bE rfl) (by decide) (jC (Uc rfl) rfl Z.z_list wq vr)))))
  (qg (qh (Jb rfl rfl rfl Z.z_sorted xg rfl Z.z_set qaU vO)))))
abbrev qf7:Stmt:=top 79
abbrev qix:List Str:=["_law_words_here", "_law_look_here", "_law_room", "_law_book"]
noncomputable def qiy:qR:=(jt (d1 vW (qI [] 2 [2,3] (jl (ql [.vl,.vl] Qq (qc (qd 0) (qc (qd 1) qx)))) (jo 2 (qu (gNm 0) (qu (gNm 1) jn))) ftT (d2 yG (d2 vz (d2 ixD (qd 3) (qd 0)) (d2 ixD (qd 3) (qd 1))) (qd 2)))))
noncomputable abbrev qf8:jD:=jQ qix [.val,.val,.val,.val] (qiy)
abbrev qep (e0:Ev):=qA e0 3 "_law_by" ["_law_words_here", "_law_look_here", "_law_room", "_law_book"] [.val,.val,.val,.val] .sh (qf8)
theorem qiz (Z:ZtE e0 ca) (T:kh e0 "_law_by" qf7 ["_law_words_here", "_law_look_here", "_law_room", "_law_book"]) (o:KH e0):qep e0:=
 dW [] T λcdv f A outer s H E h=>(qg (qh (jC (yW rfl) rfl Z.z_tuple vF (cmp (qD rfl (cN o (qa vr (qa vr qe)))) (λ_ _ _ _=>(qT vb (qT (jU rfl) (ix vr vr) (ix vr vr)) vr)) (hg:=λ_ _ _ _=>(kK rfl rfl (qC gC (qC gC ke))))))))
abbrev UU:Stmt:=top 80
abbrev qbn:List Str:=["_law_script", "_law_town", "_law_most", "_law_wide", "_law_spoil", "_law_room", "_law_look_here", "_law_names", "_law_book", "_law_numbers", "_law_k"]
noncomputable def qbo:qR:=(qN (jx 4 (ql [.vl,.sl 1,.vl] jH (qc (qd 0) (kj (qc (dC (.int 4)) qx)))))
  (qN (jx 5 (d2 vz (dC (.int 1)) (ql [.vl,.sl 1,.vl] jH (qc (qd 0) (kj (qc (qd 3) qx))))))
  (qN (jx 6 (ql [.vl,.sl 1] UR (qc (qd 0) (kj qx))))
  (qN (jx 7 (ql [.vl,.sl 1,.vl] KG (qc (qd 0) (kj (qc (qd 2) qx)))))
  (qN (jx 8 (d1 YX (qI [1] 1 [0,1,5] (jl (ql [.vl,.vl] uZ (qc (qd 7) (qc (qd 6) qx)))) (gNm 0) ftT (yP (qc (qd 0) (qc (ql [.vl,.sl 2,.vl] jH (qc (qd 1) (kj (qc (qd 3) qx)))) qx))))))
  (qN (jx 9 (d1 VC (ql [.vl,.vl,.vl,.vl] qf8 (qc (qd 7) (qc (qd 6) (qc (qd 5) (qc (qd 8) qx)))))))
  (qN (zI (kr (d2 Gd (d2 JJ (qd 4) (dC (.int 2))) (d2 vz (dC (.int 1)) (d2 yG (qd 4) (dC (.int 2)))))) (gNm 10)
  (YV 9 (ql [.vl,.sl 1,.vl] jH (qc (qd 0) (kj (qc (qd 5) qx)))) (ql [.vl,.sl 1,.vl] jH (qc (qd 0) (kj (qc (d1 ky (qd 9)) qx))))))
  (jt (yP (qc (qd 7) (qc (qd 6) (qc (qd 5) (qc (d1 vW (qd 9)) qx)))))))))))))
noncomputable abbrev UV:jD:=jQ qbn [.val,.io,.val,.val] (qbo)
abbrev Xn (e0:Ev):=qA e0 7 "_law_told" ["_law_script", "_law_town", "_law_most", "_law_wide"] [.val,.io,.val,.val] .sh (UV)
theorem qdx (Z:ZtE e0 ca) (T:kh e0 "_law_told" UU ["_law_script", "_law_town", "_law_most", "_law_wide"]) (o:wI e0) (m:Wv e0) (O:Xm e0) (a:Qr e0) (B:qep e0):Xn e0:=
 dW [1] T λcdv f A outer s H E h=>(qf (se (cN o (qa vr (kx (i:=1) rfl (cP (bE rfl)) (by decide) (qa qp qe)))))
  (qf (se (qT (jU rfl) qp (cN o (qa vr (kx (i:=1) rfl (cP (bE rfl)) (by decide) (qa vr qe))))))
  (qf (se (cN O (qa vr (kx (i:=1) rfl (cP (bE rfl)) (by decide) qe))))
  (qf (se (cN m (qa vr (kx (i:=1) rfl (cP (bE rfl)) (by decide) (qa vr qe)))))
  (qf (se (jC (qdd rfl rfl) rfl Z.z_dict Ut (cmp (qD rfl (cN a (qa vr (qa vr qe)))) (λ_ _ _ _=>(kM (qa vr (qa (qQ o h (by decide) vV rfl (qa vr (kx (i:=2) rfl (by first | exact cP (cP rfl) | exact cP (bE rfl)) (by decide) (qa vr qe)))) qe)))))))
  (qf (sO (jC (Uc rfl) rfl Z.z_list wq (cN B (qa vr (qa vr (qa vr (qa vr qe)))))))
  (qf (jF aL rfl (vT rfl Z.z_range (qT Vq (qT JK vr qp) (qT (jU rfl) qp (qT vb vr qp)))) gn
  (qg (qaC (n:=9) rfl (bE rfl) (by decide) (cN o (qa vr (kx (i:=1) rfl (cP (bE rfl)) (by decide) (qa vr qe)))) (cN o (qa vr (kx (i:=1) rfl (cP (bE rfl)) (by decide) (qa (qw (jj rfl) rfl Z.z_len jh vO) qe)))))))
  (qg (qh (kM (qa vr (qa vr (qa vr (qa (jC (yW rfl) rfl Z.z_tuple vF vO) qe))))))))))))))
abbrev qbp:Stmt:=top 81
abbrev qf9:List Str:=["_law_script", "_law_town", "_law_left", "_law_letters_here", "_law_made", "_law_book", "_law_names", "_law_look_here", "_law_room", "_law_numbers"]
abbrev qiA:List Str:=["_law_script"]
theorem qiB:FnScope qf9 qiA (ja qbp):=fsc
noncomputable def qga:qR:=(qN (jx 1 (yd qx))
  (qN (qkE (ql [.vl,.sl 1,.vl,.vl] UV (qc (qd 0) (kj (qc (dC (.int 4)) (qc (dC (.int 6)) qx))))) (jo 4 (qu (gNm 6) (qu (gNm 7) (qu (gNm 8) (qu (gNm 9) jn))))))
  (qN (jx 2 (d1 VQ (dC (.str "abcdefghijklmnopqrstuvwxyz"))))
  (qN (jx 3 (dC (.str "")))
  (qN (qZ (qL (d2O 2 neD (yd qx)))
  (jx 3 (d2 vz (qd 3) (qaR 2 (ql [.vl,.sl 1,.vl] jH (qc (qd 0) (kj (qc (d1 ky (qd 2)) qx))))))) 30)
  (qN (jx 4 (ql [.vl,.vl] Qg (qc (qd 6) (qc (qd 3) qx))))
  (qN (jx 5 (d2 VV (dC (.str "abcdefghijklmnopqrstuvwxyz")) (qd 3)))
  (qN (sIf (qL (d2 neD (qd 4) (d1 vW (qI [2,1] 1 [5] (jl (qd 6)) (gNm 0) ftT (d1 (gM "") (qI [] 1 [1] (jl (qd 0)) (gNm 0) ftT (d2 ixD (qd 1) (qd 0)))))))) (jt (dC (.bl iI))) jk)
  (qN (sIf (dOr (qL (d2 neD (ql [.vl,.vl] Km (qc (qd 4) (qc (qd 7) qx))) (ql [.vl,.vl] Km (qc (qd 6) (qc (qd 7) qx))))) (qL (d2 neD (ql [.vl] xR (qc (qd 4) qx)) (ql [.vl] xR (qc (qd 6) qx))))) (jt (dC (.bl iI))) jk)
  (qN (sIf (qL (d2 neD (ql [.vl,.vl,.vl,.vl] uX (qc (qd 4) (qc (qd 7) (qc (qd 8) (qc (qd 9) qx))))) (ql [.vl,.vl,.vl,.vl] uX (qc (qd 6) (qc (qd 7) (qc (qd 8) (qc (qd 9) qx))))))) (jt (dC (.bl iI))) jk)
  (jt (qhM (d2 Vv (ql [.vl,.vl] UC (qc (qd 6) (qc (qd 7) qx))) (dC .non)) (d2 eqD (ql [.vl,.vl] vH (qc (qd 4) (qc (qd 7) qx))) (ql [.vl,.vl] vH (qc (qd 6) (qc (qd 7) qx))))))))))))))))
noncomputable abbrev qdy:jD:=jQ qf9 [.val] (qga)
theorem qiC {f:Addr} {fd:lz} (Z:ZtE e0 ca) (F:Fun e0.K "law" "law" qbp f fd) (c:Xb e0) (a:xn e0) (O:Xc e0) (b:Xd e0) (l:Jn e0) (o:Qn e0) (g:wI e0) (u:Xn e0):FnOk e0.P e0.w e0.K e0.mg e0.base (CXk e0.P e0.w) 20 f fd qiA (spD e0.K e0.cv [.val] .sh (qdy)):=
 qls (k:=19) (own':=[]) (fb:=qga) F qiB rfl (wW rfl) (.inl rfl) (λcdv A outer s H E h=>(qf (sO (jX qe))
  (qf (qfu (cN u (qa vr (sl (qa qp (qa qp qe))))) (kK rfl rfl (qC gn (qC gn (qC gn (qC gn ke))))))
  (qf (sO (jC (YU rfl) rfl Z.z_list wq wL))
  (qf (se wL)
  (qf (yT 30 aL (qc8 (i:=2) rfl (bE rfl) (by decide) (QC rfl h.units) (jX qe))
  (qg (se (qT (jU rfl) vr (qfS (i:=2) rfl (bE rfl) (by decide) (cN g (qa vr (sl (qa (qw (jj rfl) rfl Z.z_len jh vO) qe)))))))))
  (qf (se (cN l (qa vr (qa vr qe))))
  (qf (se (ZJ rfl rfl Z.z_dict Ut rfl Z.z_zip wL vr))
  (qf (qW (qG (QC rfl h.units) vr (jC (yW rfl) rfl Z.z_tuple vF (cmp (qD rfl vr) (λ_ _ _ _=>(Um rfl (cmp (qD rfl vr) (λ_ _ _ _=>(ix vr vr)))))))) (qg (qh wY)) qH)
  (qf (qW (PW.pt (gq (qG (QC rfl h.units) (cN b (qa vr (qa vr qe))) (cN b (qa vr (qa vr qe)))) (vK (qG (QC rfl h.units) (cN O (qa vr qe)) (cN O (qa vr qe)))))) (qg (qh wY)) qH)
  (qf (qW (qG (QC rfl h.units) (cN o (qa vr (qa vr (qa vr (qa vr qe))))) (cN o (qa vr (qa vr (qa vr (qa vr qe)))))) (qg (qh wY)) qH)
  (qg (qh (qhN (vC WY (cN c (qa vr (qa vr qe))) QS) (QV (vC (vA rfl h.units) (cN a (qa vr (qa vr qe))) (cN a (qa vr (qa vr qe))))))))))))))))))) λ_=>.inr rfl
end
end Kx
namespace Kx
open PySem PySem.Spec L2 L2.D2
variable {ρ:Sl} {ds:List D} {d:D} {ms:List PM} {n:Nat} {x y:Str} {b:Bool}
section
variable {as:List AK} {os:List D} {i j:Int} {ks:List (Key×D)}
@[simp] theorem qmk:kD [] [] ρ=iE []:=rfl
@[simp] theorem qml:kD (.sl n::as) (d::ds) ρ=match ρ[n]? with | some (iE d)=>(kD as ds ρ).map (d::·) | _=>none:=rfl
@[simp] theorem qmm:kD (.vl::as) (d::ds) ρ=(kD as ds ρ).map (d::·):=rfl
@[simp] theorem qmn:kD (.fr::as) (d::ds) ρ=(kD as ds ρ).map (d::·):=rfl
@[simp] theorem qmo:zH [] [] ρ=ρ:=rfl
@[simp] theorem qmp:zH (.sl n::as) (d::ds) ρ=zH as ds (ρ.set n (iE d)):=rfl
@[simp] theorem qmq:zH (.vl::as) (d::ds) ρ=zH as ds ρ:=rfl
@[simp] theorem qmr:zH (.fr::as) (d::ds) ρ=zH as ds ρ:=rfl
@[simp] theorem qms:jZ ρ n []=[]:=rfl
@[simp] theorem qmt:jZ ρ n (.io::ms)=((ρ[n]?).getD iG).getD .non::jZ ρ (n+1) ms:=rfl
@[simp] theorem qmu:jZ ρ n (.val::ms)=.non::jZ ρ (n+1) ms:=rfl
@[simp] theorem qmv:jZ ρ n (.tk::ms)=.non::jZ ρ (n+1) ms:=rfl
@[simp] theorem qmw:vz (.int i) (.int j)=.ok (.int (i+j)):=rfl
@[simp] theorem qmx:vz (.str x) (.str y)=if x.length+y.length<=sizeLine then .ok (.str (x++y)) else .bad:=rfl
@[simp] theorem qmd:vz (.lst ds) (.lst os)=if ds.length+os.length<=sizeLine then .ok (.lst (ds++os)) else .bad:=rfl
@[simp] theorem qmy:vz (.tup ds) (.tup os)=if ds.length+os.length<=sizeLine then .ok (.tup (ds++os)) else .bad:=rfl
@[simp] theorem qmz:qkC .non .non=.ok (.bl iJ):=rfl
@[simp] theorem qmA:qkC (.tup ds) .non=.ok (.bl iI):=rfl
@[simp] theorem qmB:qkC (.dct ks) .non=.ok (.bl iI):=rfl
@[simp] theorem qmC:Vv .non .non=.ok (.bl iI):=rfl
@[simp] theorem qmD:Vv (.tup ds) .non=.ok (.bl iJ):=rfl
@[simp] theorem ylI:ltD (.int i) (.int j)=.ok (.bl (decide (i < j))):=rfl
@[simp] theorem ylS:ltD (.str x) (.str y)=.ok (.bl (wZ x y)):=rfl
@[simp] theorem yeI:leD (.int i) (.int j)=.ok (.bl (decide (i<=j))):=rfl
@[simp] theorem yeS:leD (.str x) (.str y)=.ok (.bl (!wZ y x)):=rfl
@[simp] theorem ygI:gtD (.int i) (.int j)=.ok (.bl (decide (j < i))):=rfl
@[simp] theorem ysI:qce (.int i) (.int j)=.ok (.int (i - j)):=rfl
@[simp] theorem ytB:Gf (.bl b)=.ok b:=rfl
@[simp] theorem ytI:Gf (.int i)=.ok (i != 0):=rfl
@[simp] theorem ytN:Gf .non=.ok false:=rfl
@[simp] theorem ytL:Gf (.lst ds)=.ok (!ds.isEmpty):=rfl
@[simp] theorem ytT:Gf (.tup ds)=.ok (!ds.isEmpty):=rfl
@[simp] theorem ynS:ky (.str x)=.ok (.int x.length):=rfl
@[simp] theorem ynL:ky (.lst ds)=.ok (.int ds.length):=rfl
@[simp] theorem ynT:ky (.tup ds)=.ok (.int ds.length):=rfl
@[simp] theorem ynD:ky (.dct ks)=.ok (.int ks.length):=rfl
end
variable {α:Type}
theorem kL (xs:List α) (k:Nat):atI xs (k:Int)=xs[k]?:=by
 unfold atI ixN;rw [Aa (by lia)];by_cases h:k < xs.length;·rw [Aa (by lia)];simp
 ·rw [Ab (by lia),bA (by lia)];rfl
theorem qiD {xs:List α} {i:Int} (a:0<=i) (h1:i < xs.length):∃ d,atI xs i=iE d/\d∈xs:=by
 obtain ⟨k,rfl⟩:=d6 a;have h:k < xs.length:=by lia
 exact ⟨xs[k],by rw [kL,aw h],bt h⟩
theorem big:2000<=sizeLine:=by rw [iT]; decide
abbrev scr (ns:List Int):D:=.lst (ns.map .int)
theorem qgb (ns:List Int) (k:Nat):∃ i,xY [scr ns,.int k]=.ok (.int i,[.non,.non]):=by
 by_cases h:k < ns.length;·refine ⟨ns[k],?_⟩;refine qr.trans ?_;simp [uY,qt,ixD,h,kL]
 ·by_cases a:ns=[]
  ·subst a;have b:¬((k:Int) < 0):=by lia
   exact ⟨0,by refine qr.trans ?_; simp [uY,qt,ixD,eqD,eqN,wS,b]⟩
  ·have hp:0 < ns.length:=List.length_pos_iff.mpr a;have c:k % ns.length < ns.length:=Nat.mod_lt _ hp;have e:atI (ns.map D.int) ((k:Int) % (ns.length:Int))=iE (.int ns[k % ns.length]):=by rw [show ((k:Int) % (ns.length:Int))=((k % ns.length:Nat):Int) by simp,kL,aF,aw c];rfl
   refine ⟨ns[k % ns.length] * 31+k,?_⟩;refine qr.trans ?_;simp [uY,qt,ixD,eqD,eqN,h,a,yG,Gd,yn,hp,e,CMul]
variable {many:Int}
theorem qdz (ns:List Int) (k:Nat) (h:0 < many):∃ r,0<=r/\r < many/\KA [scr ns,.int k,.int many]=.ok (.int r,[.non,.non,.non]):=by
 obtain ⟨c,a⟩:=qgb ns k;have h1:=cA (c * 1103515245+7919 * k+12345) (show (2147483647:Int)≠0 by decide);have h2:=bZ (c * 1103515245+7919 * k+12345) (show (0:Int) < 2147483647 by decide);generalize hd:(c * 1103515245+7919 * (k:Int)+12345) % 2147483647=d at h1 h2;have b:L2.D2.qj0 d 5:=⟨⟨by lia,by lia⟩,by lia,by lia⟩
 refine ⟨d ^ 5 % 2147483647 % 999983 % many,cA _ (by lia),bZ _ h,?_⟩;refine qr.trans ?_;simp [Xj,qt,a,Gd,yG,qkV,yn,h,hd,b,show ∀ j,CMul 7919 j from λj=>.inl ⟨by lia,by lia⟩,show ∀ i,CMul i 1103515245 from λi=>.inr ⟨by lia,by lia⟩]
theorem vt (ns:List Int) (t:List D) (c:0 < many) (ht:t.length < 1000):∃ r,0<=r/\r < many/\jH [scr ns,.lst t,.int many]=.ok (.int r,[.non,.lst (t++[.int 0]),.non]):=by obtain ⟨r,a,h1,h⟩:=qdz ns (t.length+1) c;have hl:t.length < sizeLine:=aI (ej ht (by decide)) big;refine ⟨r,a,h1,?_⟩;simp at h;refine qr.trans ?_;simp [qbf,qt,wQ,QE,hl,h]
theorem qbq (ns:List Int) (t xs:List D) (hx:xs≠[]) (ht:t.length < 1000):∃ d,d∈xs/\Qp [scr ns,.lst t,.lst xs]=.ok (d,[.non,.lst (t++[.int 0]),.non]):=by have hp:0 < xs.length:=List.length_pos_iff.mpr hx;obtain ⟨r,a,h1,h⟩:=vt ns t (many:=(xs.length:Int)) (by lia) ht;obtain ⟨d,e,hd⟩:=qiD (xs:=xs) a h1;refine ⟨d,hd,?_⟩;refine qr.trans ?_;simp [qbg,qt,h,ixD,e]
def az (c:Nat):Prop:=97<=c/\c<=122
def ZU (w:Str):Prop:=1<=w.length/\w.length<=6/\∀ c∈w.cps.toList,az c
theorem uM (x:Str):x.length=x.cps.size:=rfl
theorem qbr (x y:Str):(x++y).cps=x.cps++y.cps:=rfl
def qj5 (ls:List Str):Prop:=ls≠[]/\∀ x∈ls,∃ c,az c/\x=⟨#[c]⟩
theorem Ww:∀ cs:List Nat,fS (aP "") (cs.map λc=>(⟨#[c]⟩:Str))=⟨cs.toArray⟩:=by
 intro cs;have e:∀ cs:List Nat,Str.join (aP "") (cs.map λc=>(⟨#[c]⟩:Str))=⟨cs.toArray⟩:=by
  intro cs
  induction cs with
  | nil=>rfl
  | cons c cs j=>
   cases cs with
   | nil=>rfl
   | cons d ds=>
    show (⟨#[c]⟩:Str)++aP ""++Str.join (aP "") ((d::ds).map λc=>(⟨#[c]⟩:Str))=_;rw [j];have:((⟨#[c]⟩:Str)++aP ""++(⟨(d::ds).toArray⟩:Str)).cps=(c::d::ds).toArray:=by
     rw [qbr,qbr];have:(aP "").cps=#[]:=by decide +kernel
     rw [this];simp
    generalize h:(⟨#[c]⟩:Str)++aP ""++(⟨(d::ds).toArray⟩:Str)=x at this;obtain ⟨y⟩:=x;simp only at this;rw [this]
 unfold fS;rw [StrLaws.glued_eq_join];exact e cs
theorem KI:∀ cs:List Nat,((cs.map λc=>(⟨#[c]⟩:Str)).map (·.length)).sum=cs.length
 | []=>rfl
 | c::cs=>by
  have j:=KI cs;rw [aC,aC,List.sum_cons,j,aq];show 1 + _=_
  lia
theorem vw:∀ ws:List Str,xK (ws.map D.str)=iE ws
 | []=>rfl
 | w::ws=>by simp [xK,vw ws]
variable {ls:List Str}
theorem Wx (ns:List Int) (hl:qj5 ls):∀ (ds:List D) (t:List D) (k:Option D),t.length+ds.length < 1000 ->∃ (cs:List Nat) (a:List D) (k':Option D),a.length=t.length+ds.length/\cs.length=ds.length/\(∀ c∈cs,az c) /\
   jG (gNm 0) ftT (ql [.vl,.sl 2,.vl] Qp (qc (qd 1) (kj (qc (qd 3) qx)))) ds [k,iE (scr ns),iE (.lst t),iE (.lst (ls.map D.str))]
    = .ok ((cs.map λc=>(⟨#[c]⟩:Str)).map D.str,[k',iE (scr ns),iE (.lst a),iE (.lst (ls.map D.str))])
 | [],t,k,_=>⟨[],t,k,by simp,rfl,by simp,rfl⟩
 | d::ds,t,k,ht=>by
  rw [aq] at ht;obtain ⟨e,i,hp⟩:=qbq ns t (ls.map D.str) (by simpa using hl.1) (by lia);obtain ⟨x,hx,rfl⟩:=ah.mp i;obtain ⟨c,b,rfl⟩:=hl.2 x hx;obtain ⟨cs,a,k',f,g,o,a4⟩:=Wx ns hl ds (t++[.int 0]) (iE d) (by rw [ai]; simp; lia);refine ⟨c::cs,a,k',?_,by simp [g],?_,?_⟩
  ·rw [f,ai,aq];simp
   lia
  ·intro y h;rcases ae.mp h with rfl | h;·exact b
   ·exact o y h
  ·simp [jG,yV,hp,a4]
theorem qgc (ns:List Int) (t:List D) (hl:qj5 ls) (ht:t.length < 900):∃ w a,ZU w/\a.length<=t.length+8/\KC [scr ns,.lst t,.lst (ls.map D.str),.int 6]=.ok (.str w,[.non,.lst a,.non,.non]):=by
 obtain ⟨r,r0,r1,f⟩:=vt ns t (many:=6) (by lia) (by lia);have n:(zZ 0 (1+r).toNat).length=(1+r).toNat:=by simp [zZ]
 obtain ⟨cs,a,k',k,g,o,a4⟩:=Wx ns hl (zZ 0 (1+r).toNat) (t++[.int 0]) iG (by rw [n,ai]; simp; lia);rw [n] at k g;rw [ai] at k;simp at k;refine ⟨⟨cs.toArray⟩,a,⟨?_,?_,?_⟩,by lia,?_⟩;·show 1<=cs.toArray.size;simp; lia
 ·show cs.toArray.size<=6;simp; lia
 ·simpa using o
 ·refine qr.trans ?_;have b:-(2 ^ 62:Int)<=1+r/\1+r < 2 ^ 62:=by lia
  have d:=big;have z:(zZ 0 (1+r).toNat).length<=sizeLine:=by rw [n]; lia
  have e0:fY (aP "")=0:=by decide +kernel
  have h:=KI cs;have G:gM (aP "") (.lst ((cs.map λc=>(⟨#[c]⟩:Str)).map D.str))=.ok (.str ⟨cs.toArray⟩):=by unfold gM;simp only [vw,Ww,h];rw [Aa ⟨by simp [e0]; lia,by show cs.toArray.size<=_; simp; lia⟩]
  simp only [qbh,qt,yq,vB,qI];simp [-aR,f,kr,-Int.reducePow,b,z,kE,a4,ka,G]
theorem vZ (w:Str):∀ ws:List Str,QU 7 (.str w) (ws.map D.str)=iE (decide (w∈ws))
 | []=>by simp [QU]
 | a::ws=>by
  have j:=vZ w ws;simp only [aC,QU,j];simp [eqN,eqS];by_cases h:a=w;·simp [h]
  ·simp [h,bw h]
def qX (ws:List Str):Prop:=1<=ws.length/\ws.length<=6/\ws.Nodup/\∀ w∈ws,ZU w
abbrev qbs:qR:=(qN (jx 6 (ql [.vl,.sl 1,.vl,.vl] KC (qc (qd 0) (kj (qc (qd 3) (qc (dC (.int 6)) qx))))))
  (sIf (qL (d2 zJ (qd 6) (qd 4))) (ki (xE 4 QE (qd 6))) jk))
theorem za (ns:List Int) (m:D) (h:qj5 ls):∀ (ds:List D) (n:List D) (ws:List Str) (k u:Option D),n.length+8 * ds.length < 900->ws.length+ds.length<=100->ws.Nodup->(∀ w∈ws,ZU w) ->∃ (t:List D) (c:List Str) (k' V:Option D),t.length<=n.length+8 * ds.length/\c.length<=ws.length+ds.length/\ws.length<=c.length/\(ds≠[]->1<=c.length)/\c.Nodup/\(∀ w∈c,ZU w) /\
   jR (gNm 5) qbs ds [iE (scr ns),iE (.lst n),iE m,iE (.lst (ls.map D.str)),iE (.lst (ws.map D.str)),k,u]=.ok (.nx,[iE (scr ns),iE (.lst t),iE m,iE (.lst (ls.map D.str)),iE (.lst (c.map D.str)),k',V])
 | [],n,ws,k,u,_,_,hn,hw=>⟨n,ws,k,u,by simp,by simp,by simp,by simp,hn,hw,rfl⟩
 | d::ds,n,ws,k,u,ht,hl,hn,hw=>by
  rw [aq] at ht hl;obtain ⟨w,t1,W,y,hg⟩:=qgc ns n h (by lia);have f:=big;have i:ws.length < sizeLine:=by lia
  by_cases e:w∈ws
  ·obtain ⟨t,c,k',V,l,g,o,a4,a5,a6,a7⟩:=za ns m h ds t1 ws (iE d) (iE (.str w)) (by lia) (by lia) hn hw;refine ⟨t,c,k',V,by rw [aq]; lia,by rw [aq]; lia,o,λ_=>?_,a5,a6,?_⟩
   ·have:0 < ws.length:=bS e
    lia
   ·rw [<-a7];simp [jR,qbs,hg,zJ,Ze,inD,vZ,e]
  ·obtain ⟨t,c,k',V,l,g,o,a4,a5,a6,a7⟩:=za ns m h ds t1 (ws++[w]) (iE d) (iE (.str w)) (by lia) (by rw [ai]; simp; lia) (cC.mpr ⟨hn,by simp,λa j b f=>by
    rw [au.mp f];exact λz=>e (z ▸ j)⟩) (λx hx=>by
    rcases aj.mp hx with hx | hx;·exact hw x hx
    ·rw [au.mp hx];exact W)
   rw [ai] at g o;simp at g o;refine ⟨t,c,k',V,by rw [aq]; lia,by rw [aq]; lia,by lia,λ_=>by lia,a5,a6,?_⟩;rw [<-a7];simp [jR,qbs,hg,zJ,Ze,inD,vZ,e,wQ,QE,i]
noncomputable def qg1:List (List Str):=[["a", "b"],["a", "b", "c"],["a", "b", "c", "d"],["k", "m", "z", "a", "e"]]
theorem qgd:∀ ls∈qg1,qj5 ls:=by
 have h1:∀ ls∈qg1,∀ x∈ls,x∈(["a", "b", "c", "d", "k", "m", "z", "e"]:List Str):=by decide +kernel
 have h2:∀ ls∈qg1,ls≠[]:=by decide +kernel
 intro ls h;refine ⟨h2 ls h,λx hx=>?_⟩;have i:=h1 ls h x hx;simp only [ae,bb,or_false] at i;rcases i with rfl | rfl | rfl | rfl | rfl | rfl | rfl | rfl;·exact ⟨97,by unfold az; decide,by decide +kernel⟩
 ·exact ⟨98,by unfold az; decide,by decide +kernel⟩
 ·exact ⟨99,by unfold az; decide,by decide +kernel⟩
 ·exact ⟨100,by unfold az; decide,by decide +kernel⟩
 ·exact ⟨107,by unfold az; decide,by decide +kernel⟩
 ·exact ⟨109,by unfold az; decide,by decide +kernel⟩
 ·exact ⟨122,by unfold az; decide,by decide +kernel⟩
 ·exact ⟨101,by unfold az; decide,by decide +kernel⟩
theorem qdA (ns:List Int) (t:List D) (ht:t.length < 700):∃ ws a,qX ws/\ws.length<=4/\a.length<=t.length+50/\KG [scr ns,.lst t,.int 4]=.ok (.tup (ws.map D.str),[.non,.lst a,.non]):=by
 obtain ⟨d,hd,hp⟩:=qbq ns t (qg1.map λl=>.lst (l.map D.str)) (by simp [qg1]) (by lia);obtain ⟨ls,h,rfl⟩:=ah.mp hd;have hl:=qgd ls h;obtain ⟨r,r0,r1,f⟩:=vt ns (t++[.int 0]) (many:=4) (by lia) (by rw [ai]; simp; lia);have n:(zZ 0 (1+r).toNat).length=(1+r).toNat:=by simp [zZ]
 obtain ⟨a,c,k',V,k,g,o,a4,a5,a6,a7⟩:=za ns (.int 4) hl (zZ 0 (1+r).toNat) (t++[.int 0]++[.int 0]) [] iG iG (by rw [n,ai,ai]; simp; lia) (by rw [n]; simp; lia) cx (by simp);have e:zZ 0 (1+r).toNat≠[]:=λz=>by
  rw [z] at n;simp at n
  lia
 refine ⟨c,a,⟨a4 e,?_,a5,a6⟩,?_,?_,?_⟩
 ·rw [n] at g;simp at g
  lia
 ·rw [n] at g;simp at g
  lia
 ·rw [n,ai,ai] at k;simp at k
  lia
 ·refine qr.trans ?_;have i:-(2 ^ 62:Int)<=1+r/\1+r < 2 ^ 62:=by lia
  have j:=big;have b:4<=sizeLine:=by lia
  simp only [aV,fV,bW,bM] at a7 f;simp only [qg1,aC,bM] at hp;simp [Xl,qt,hp,f,kr,-Int.reducePow,i,b,a7,vW]
def JD (p q:Int):Prop:=(-3<=p/\p<=2)/\-3<=q/\q<=2
theorem qge (ns:List Int) (t:List D) (ht:t.length < 900):∃ p q a,JD p q/\a.length=t.length+2/\UR [scr ns,.lst t]=.ok (.tup [.int p,.int q],[.non,.lst a]):=by
 obtain ⟨r,r0,r1,h⟩:=vt ns t (many:=6) (by lia) (by lia);obtain ⟨u,c,b,f⟩:=vt ns (t++[.int 0]) (many:=6) (by lia) (by rw [ai]; simp; lia);have d:=big;have z:2<=sizeLine:=by lia
 refine ⟨r - 3,u - 3,t++[.int 0,.int 0],⟨⟨by lia,by lia⟩,by lia,by lia⟩,by simp,?_⟩;refine qr.trans ?_;simp only [aV,fV,bW] at f;simp [qbj,qt,h,f,yn,z]
noncomputable def wa (n:Nat) (p:Int):Nat:=(max 0 (min (if 0<=p then p else (n:Int)+p) ((n:Int) - 1))).toNat
noncomputable def UW (w:Str) (p:Int):Str:=⟨#[(w.cps.toList[wa w.length p]?).getD 0]⟩
variable {w:Str}
theorem zE (h:ZU w) (p:Int):vi [.str w,.int p]=.ok (.str (UW w p),[.non,.non]):=by
 have h1:=h.1;have a:(w.cps.toList.length:Int)=w.length:=by simp [uM]
 have key:∀ q:Int,q=(if 0<=p then p else (w.length:Int)+p)->atI w.cps.toList (if 0 < (if (w.length:Int) - 1 < q then (w.length:Int) - 1 else q) then (if (w.length:Int) - 1 < q then (w.length:Int) - 1 else q) else 0)=iE ((w.cps.toList[wa w.length p]?).getD 0):=by
  intro q hq;have e:(if 0 < (if (w.length:Int) - 1 < q then (w.length:Int) - 1 else q) then (if (w.length:Int) - 1 < q then (w.length:Int) - 1 else q) else 0)=(wa w.length p:Int):=by
   unfold wa;rw [<-hq];have:1<=(w.length:Int):=by omega
   generalize (w.length:Int)=n at *;split <;> split <;> omega
  have hl:wa w.length p < w.cps.toList.length:=by
   have Z:w.cps.toList.length=w.length:=by simp [uM]
   rw [Z];unfold wa;omega
  rw [e,kL,aw hl];rfl
 refine qr.trans ?_;by_cases hp:0<=p;·have k:=key p (by rw [Aa hp]);simp [yu,qt,geD,yn,hp,qjQ,qjR,ixD,k,UW]
 ·have k:=key (w.length+p) (by rw [Ab hp]);simp [yu,qt,geD,yn,hp,qjQ,qjR,ixD,k,UW]
theorem qbt (h:ZU w):(∃ a,w=⟨#[a]⟩)\/(∃ a b,w=⟨#[a,b]⟩)\/(∃ a b c,w=⟨#[a,b,c]⟩)\/(∃ a b c d,w=⟨#[a,b,c,d]⟩)\/(∃ a b c d e,w=⟨#[a,b,c,d,e]⟩)\/∃ a b c d e f,w=⟨#[a,b,c,d,e,f]⟩:=by
 obtain ⟨⟨l⟩⟩:=w;have h1:1<=l.length:=h.1;have h2:l.length<=6:=h.2.1
 match l,h1,h2 with
 | [a],_,_=>exact .inl ⟨a,rfl⟩
 | [a,b],_,_=>exact .inr (.inl ⟨a,b,rfl⟩)
 | [a,b,c],_,_=>exact .inr (.inr (.inl ⟨a,b,c,rfl⟩))
 | [a,b,c,d],_,_=>exact .inr (.inr (.inr (.inl ⟨a,b,c,d,rfl⟩)))
 | [a,b,c,d,e],_,_=>exact .inr (.inr (.inr (.inr (.inl ⟨a,b,c,d,e,rfl⟩))))
 | [a,b,c,d,e,f],_,_=>exact .inr (.inr (.inr (.inr (.inr ⟨a,b,c,d,e,f,rfl⟩))))
variable {p:Int}
theorem Wz (h:ZU w) (g:-3<=p) (h1:p<=2):qbk [.str w,.int p]=.ok (.str (UW w p),[.non,.non]):=by
 have hp:p=-3\/p=-2\/p=-1\/p=0\/p=1\/p=2:=by lia
 rcases qbt h with ⟨a,rfl⟩ | ⟨a,b,rfl⟩ | ⟨a,b,c,rfl⟩ | ⟨a,b,c,d,rfl⟩ | ⟨a,b,c,d,e,rfl⟩ | ⟨a,b,c,d,e,f,rfl⟩ <;> rcases hp with rfl | rfl | rfl | rfl | rfl | rfl <;> kernel_rfl
variable {own:List Nat}
theorem wb (ρc:Sl):∀ (cap:List Nat) (n:Nat) (ρ:Sl),(∀ k∈cap,k∉own)->ka own ρc n cap ρ=ρ
 | [],n,ρ,_=>rfl
 | k::cap,n,ρ,h=>by unfold ka;rw [Ab (h k (ap ..))];exact wb ρc cap (n+1) ρ λx hx=>h x (ac _ hx)
variable {caps:Sl}
theorem qiE {fe:qY} {ft:ua} {P:D->Bool} {F:D->D}:∀ (ds:List D) (x:Option D),(∀ d∈ds,ft (iE d::caps)=.ok (P d,iE d::caps))->(∀ d∈ds,P d=iJ->fe (iE d::caps)=.ok (F d,iE d::caps))->∃ n,jG (gNm 0) ft fe ds (x::caps)=.ok ((ds.filter P).map F,n::caps)
 | [],x,_,_=>⟨x,rfl⟩
 | d::ds,x,h,h'=>by
  obtain ⟨n,e⟩:=qiE ds (iE d) (λd' hd=>h d' (ac _ hd)) λd' hd=>h' d' (ac _ hd);refine ⟨n,?_⟩;have h1:=h d (ap ..);have h2:=h' d (ap ..);cases q:P d with
  | true=>simp [jG,yV,h1,q,h2 q,e]
  | false=>simp [jG,yV,h1,q,e]
variable {cap:List Nat} {ρ1:Sl}
theorem Xo {fi:wT} {fe:qY} {ft:ua} (P:D->Bool) (F:D->D) (l:∀ k∈cap,k∉own) (h:fi ρ=.ok (ds,ρ1)) (hl:ds.length<=sizeLine)
  (ht:∀ d∈ds,ft (iE d::cap.map λk=>(ρ1[k]?).getD iG)=.ok (P d,iE d::cap.map λk=>(ρ1[k]?).getD iG)) (i:∀ d∈ds,P d=iJ->fe (iE d::cap.map λk=>(ρ1[k]?).getD iG)=.ok (F d,iE d::cap.map λk=>(ρ1[k]?).getD iG)) :
  qI own 1 cap fi (gNm 0) ft fe ρ=.ok (.lst ((ds.filter P).map F),ρ1):=by
 obtain ⟨n,e⟩:=qiE ds iG ht i;unfold qI;rw [h];simp only [jr];rw [Aa hl,show kE 1 cap ρ1=iG::cap.map λk=>(ρ1[k]?).getD iG from rfl,e];simp only [jr,wb _ _ _ _ l]
theorem UX {fi:wT} {fe:qY} (F:D->D) (l:∀ k∈cap,k∉own) (h:fi ρ=.ok (ds,ρ1)) (hl:ds.length<=sizeLine) (ht:∀ d∈ds,fe (iE d::cap.map λk=>(ρ1[k]?).getD iG)=.ok (F d,iE d::cap.map λk=>(ρ1[k]?).getD iG)):qI own 1 cap fi (gNm 0) ftT fe ρ=.ok (.lst (ds.map F),ρ1):=by have e:=Xo (ft:=ftT) (λ_=>iJ) F l h hl (λ_ _=>rfl) λd hd _=>ht d hd;rw [fB.mpr λ_ _=>rfl] at e;exact e
theorem vJ {fi:wT} {fe:qY} (F:D->D) (h:fi ρ=.ok (ds,ρ1)) (hl:ds.length<=sizeLine) (ht:∀ d∈ds,fe (iE d::cap.map λk=>(ρ1[k]?).getD iG)=.ok (F d,iE d::cap.map λk=>(ρ1[k]?).getD iG)):qI [] 1 cap fi (gNm 0) ftT fe ρ=.ok (.lst (ds.map F),ρ1):=UX F (λ_ _=>by simp) h hl ht
theorem qeq {fe:qY} {ft:ua} {P:D×D->Bool} {F:D×D->D}:∀ (ps:List (D×D)) (x y:Option D),(∀ p∈ps,ft (iE p.1::iE p.2::caps)=.ok (P p,iE p.1::iE p.2::caps))->(∀ p∈ps,P p=iJ->fe (iE p.1::iE p.2::caps)=.ok (F p,iE p.1::iE p.2::caps)) ->∃ n s,jG (jo 2 (qu (gNm 0) (qu (gNm 1) jn))) ft fe (ps.map λp=>.tup [p.1,p.2]) (x::y::caps)=.ok ((ps.filter P).map F,n::s::caps)
 | [],x,y,_,_=>⟨x,y,rfl⟩
 | p::ps,x,y,h,h'=>by
  obtain ⟨n,s,e⟩:=qeq ps (iE p.1) (iE p.2) (λd' hd=>h d' (ac _ hd)) λd' hd=>h' d' (ac _ hd);refine ⟨n,s,?_⟩;have h1:=h p (ap ..);have h2:=h' p (ap ..);cases q:P p with
  | true=>simp [jG,yV,jo,qu,jn,h1,q,h2 q,e]
  | false=>simp [jG,yV,jo,qu,jn,h1,q,e]
theorem qbu {fi:wT} {fe:qY} {ft:ua} {ps:List (D×D)} (P:D×D->Bool) (F:D×D->D) (l:∀ k∈cap,k∉own) (h:fi ρ=.ok (ps.map λp=>.tup [p.1,p.2],ρ1)) (hl:ps.length<=sizeLine)
  (ht:∀ p∈ps,ft (iE p.1::iE p.2::cap.map λk=>(ρ1[k]?).getD iG)=.ok (P p,iE p.1::iE p.2::cap.map λk=>(ρ1[k]?).getD iG))
  (i:∀ p∈ps,P p=iJ->fe (iE p.1::iE p.2::cap.map λk=>(ρ1[k]?).getD iG)=.ok (F p,iE p.1::iE p.2::cap.map λk=>(ρ1[k]?).getD iG)) :
  qI own 2 cap fi (jo 2 (qu (gNm 0) (qu (gNm 1) jn))) ft fe ρ=.ok (.lst ((ps.filter P).map F),ρ1):=by
 obtain ⟨n,s,e⟩:=qeq ps iG iG ht i;unfold qI;rw [h];simp only [jr];rw [Aa (by rw [af]; exact hl),show kE 2 cap ρ1=iG::iG::cap.map λk=>(ρ1[k]?).getD iG from rfl,e];simp only [jr,wb _ _ _ _ l]
noncomputable def qy (ws:List Str) (p q:Int):List (Str×Str):=ws.map λw=>(UW w p,UW w q)
noncomputable def qo (l:List (Str×Str)):List D:=l.map λx=>.tup [.str x.1,.str x.2]
theorem jb (h:n<=2000):n<=sizeLine:=bI h big
abbrev Wd (ws:List Str):D:=.tup (ws.map D.str)
abbrev Ld (p q:Int):D:=.tup [.int p,.int q]
variable {ws:List Str} {q:Int}
theorem Ju {G:jD} (h:qX ws) (a:∀ w∈ws,G [.str w,.int p]=.ok (.str (UW w p),[.non,.non])/\G [.str w,.int q]=.ok (.str (UW w q),[.non,.non])):qI [] 1 [1] (jl (qd 0)) (gNm 0) ftT (yP (qc (ql [.vl,.vl] G (qc (qd 0) (qc (d2 ixD (qd 1) (dC (.int 0))) qx))) (qc (ql [.vl,.vl] G (qc (qd 0) (qc (d2 ixD (qd 1) (dC (.int 1))) qx))) qx))) [iE (Wd ws),iE (Ld p q)]
   = .ok (.lst (qo (qy ws p q)),[iE (Wd ws),iE (Ld p q)]):=by
 have e:=vJ (cap:=[1]) (fi:=jl (qd 0)) (ρ:=[iE (Wd ws),iE (Ld p q)]) (ρ1:=[iE (Wd ws),iE (Ld p q)]) (ds:=ws.map D.str)
  (fe:=(yP (qc (ql [.vl,.vl] G (qc (qd 0) (qc (d2 ixD (qd 1) (dC (.int 0))) qx))) (qc (ql [.vl,.vl] G (qc (qd 0) (qc (d2 ixD (qd 1) (dC (.int 1))) qx))) qx))))
  (λd=>match d with | .str w=>.tup [.str (UW w p),.str (UW w q)] | d=>d) (by simp [jg]) (by rw [af]; exact jb (by have:=h.2.1; lia)) (λd hd=>by obtain ⟨w,c,rfl⟩:=ah.mp hd;obtain ⟨h1,h2⟩:=a w c;have z:2<=sizeLine:=jb (by lia);simp [ixD,atI,ixN,h1,h2,z])
 rw [e];simp [qo,qy]
theorem Qs (h:qX ws) (hl:JD p q):Qq [Wd ws,Ld p q]=.ok (.lst (qo (qy ws p q)),[.non,.non]):=by
 refine qr.trans ?_;have e:=Ju (G:=qbk) h (p:=p) (q:=q) λw c=>⟨Wz (h.2.2.2 w c) hl.1.1 hl.1.2,Wz (h.2.2.2 w c) hl.2.1 hl.2.2⟩
 unfold qbm;rw [yq,show qt qbl [Wd ws,Ld p q]=[iE (Wd ws),iE (Ld p q)] from rfl,e];rfl
def Pl:D->Prop
 | .raw _=>False
 | .xcp _=>False
 | .ins _ _=>False
 | .dct _=>False
 | .at_ _ _=>False
 | _=>True
@[simp] theorem kk1:kt "NoneType" "int"=iE false:=by decide +kernel
@[simp] theorem kk2:kt "bool" "int"=iE true:=by decide +kernel
@[simp] theorem kk3:kt "int" "int"=iE true:=by decide +kernel
@[simp] theorem kk4:kt "str" "int"=iE false:=by decide +kernel
@[simp] theorem kk5:kt "tuple" "int"=iE false:=by decide +kernel
@[simp] theorem kk6:kt "list" "int"=iE false:=by decide +kernel
@[simp] theorem kb1:kt "NoneType" "bool"=iE false:=by decide +kernel
@[simp] theorem kb2:kt "bool" "bool"=iE true:=by decide +kernel
@[simp] theorem kb3:kt "int" "bool"=iE false:=by decide +kernel
@[simp] theorem kb4:kt "str" "bool"=iE false:=by decide +kernel
@[simp] theorem kb5:kt "tuple" "bool"=iE false:=by decide +kernel
@[simp] theorem kb6:kt "list" "bool"=iE false:=by decide +kernel
@[simp] theorem ks1:kt "NoneType" "str"=iE false:=by decide +kernel
@[simp] theorem ks2:kt "bool" "str"=iE false:=by decide +kernel
@[simp] theorem ks3:kt "int" "str"=iE false:=by decide +kernel
@[simp] theorem ks4:kt "str" "str"=iE true:=by decide +kernel
@[simp] theorem ks5:kt "tuple" "str"=iE false:=by decide +kernel
@[simp] theorem ks6:kt "list" "str"=iE false:=by decide +kernel
@[simp] theorem kt1:kt "NoneType" "tuple"=iE false:=by decide +kernel
@[simp] theorem kt2:kt "bool" "tuple"=iE false:=by decide +kernel
@[simp] theorem kt3:kt "int" "tuple"=iE false:=by decide +kernel
@[simp] theorem kt4:kt "str" "tuple"=iE false:=by decide +kernel
@[simp] theorem kt5:kt "tuple" "tuple"=iE true:=by decide +kernel
@[simp] theorem kt6:kt "list" "tuple"=iE false:=by decide +kernel
noncomputable def qgf:D->Bool
 | .tup _=>iJ
 | _=>iI
noncomputable def qiF:D->Bool
 | .str _=>iJ
 | _=>iI
theorem qiG (h:Pl d):zg "tuple" d=.ok (.bl (qgf d)):=by cases d <;> first | exact h.elim | simp [zg,tyN,qgf]
theorem qiH (h:Pl d):zg "str" d=.ok (.bl (qiF d)):=by cases d <;> first | exact h.elim | simp [zg,tyN,qiF]
noncomputable def qer:D->Bool
 | .str x=>decide (x.length=1)&&(!wZ x "a"&&!wZ "z" x)
 | _=>iI
noncomputable def UY (lo hi:Int):D->Bool
 | .int i=>decide (lo<=i)&&decide (i<=hi)
 | _=>iI
theorem WA (h:Pl d):wu [d]=.ok (.bl (qer d),[.non]):=by
 refine qr.trans ?_;cases d <;> first
  | exact h.elim
  | (simp [wt,qt,zg,tyN,qer]; done)
  | skip
 rename_i x;by_cases h1:x.length=1
 ·have c:(x.length:Int)=1:=by lia
  cases h2:wZ x "a" <;> simp [wt,qt,zg,tyN,eqD,eqN,eqS,qer,h1,c,h2]
 ·have c:¬(x.length:Int)=1:=by lia
  simp [wt,qt,zg,tyN,eqD,eqN,eqS,qer,h1,c]
theorem kT (h:Pl d) (lo hi:Int):jK [d,.int lo,.int hi]=.ok (.bl (UY lo hi d),[.non,.non,.non]):=by
 refine qr.trans ?_;cases d <;> first
  | exact h.elim
  | (simp [ug,qt,zg,tyN,UY]; done)
  | skip
 rename_i i;by_cases h1:lo<=i <;> simp [ug,qt,zg,tyN,UY,h1]
theorem qiI {c:Nat} (h:az c):qer (.str ⟨#[c]⟩)=true:=by
 have g:(aP "a").cps.toList=[97]:=by decide +kernel
 have z:(aP "z").cps.toList=[122]:=by decide +kernel
 obtain ⟨h1,h2⟩:=h;have f:¬([c]:List Nat) < [97]:=by rw [List.cons_lt_cons_iff];simp;omega
 have l:¬([122]:List Nat) < [c]:=by rw [List.cons_lt_cons_iff];simp;omega
 have e1:wZ ⟨#[c]⟩ (aP "a")=false:=by unfold wZ;rw [g];exact Ac f
 have i:wZ (aP "z") ⟨#[c]⟩=false:=by unfold wZ;rw [z];exact Ac l
 simp [qer,uM,e1,i]
theorem Jv (f:α->Bool):∀ l:List α,zi (l.map λx=>.bl (f x))=iE (l.map f)
 | []=>rfl
 | a::l=>by have j:=Jv f l;simp [zi,j]
theorem xx (f:α->Bool) (l:List α):Zl (.lst (l.map λx=>.bl (f x)))=.ok (.bl (l.all f)):=by simp only [Zl,Jv];simp [List.all_map,Function.comp_def]
theorem qbv (h:ZU w) (p:Int):∃ c,az c/\UW w p=⟨#[c]⟩:=by
 have n:w.cps.toList.length=w.length:=by simp [uM]
 have hl:wa w.length p < w.cps.toList.length:=by have:=h.1;rw [n];unfold wa;omega
 refine ⟨w.cps.toList[wa w.length p],h.2.2 _ (bt hl),?_⟩;unfold UW;rw [aw hl];rfl
theorem ZV (h:ZU w):xh [.str w]=.ok (.bl iJ,[.non]):=by
 refine qr.trans ?_;have e:=vJ (cap:=[]) (fi:=jl (qd 0)) (ρ:=[iE (.str w)]) (ρ1:=[iE (.str w)]) (ds:=wl w) (fe:=ql [.vl] wu (qc (qd 0) qx)) (λd=>.bl (qer d)) (by simp [jg]) (by
   have:=h.2.1;simp [wl,<-uM];exact jb (by lia)) (λd hd=>by
   obtain ⟨c,a,rfl⟩:=ah.mp hd;have h1:=WA (d:=.str ⟨#[c]⟩) trivial;simp [h1])
 have g:(wl w).all qer=true:=by rw [aJ];intro d hd;obtain ⟨c,a,rfl⟩:=ah.mp hd;exact qiI (h.2.2 c a)
 have h1:(1:Int)<=w.length:=by have:=h.1; lia
 have b:(w.length:Int)<=6:=by have:=h.2.1; lia
 simp only [VX,qt,aC,bM,aq,bf,Nat.reduceAdd,fC,cK,aY];simp [zg,tyN,h1,b,e,xx,g]
theorem Qt:∀ (ws ks:List Str),ws.Nodup->(∀ x∈ws,x∉ks)->ws.foldl gA ks=ks++ws
 | [],ks,_,_=>by simp
 | w::ws,ks,hn,hd=>by
  have h1:=aH.mp hn;rw [bN,show gA ks w=ks++[w] from Ab (hd w (ap ..)),Qt ws (ks++[w]) h1.2 ?_];·simp
  ·intro x hx z;rcases aj.mp z with z | z;·exact hd x (ac _ hx) z
   ·rw [au.mp z] at hx;exact h1.1 hx
theorem uN (ws:List Str):∀ ks:List Str,ks.Nodup->(ws.foldl gA ks).Nodup/\∀ x,x∈ws.foldl gA ks↔x∈ks\/x∈ws:=by
 induction ws with
 | nil=>intro ks n; exact ⟨n,λx=>by simp⟩
 | cons w ws j=>
  intro ks n;have r:(gA ks w).Nodup:=by
   unfold gA;split;·exact n
   ·rename_i h;exact cC.mpr ⟨n,by simp,λa g b d=>by rw [au.mp d];exact λz=>h (z ▸ g)⟩
  obtain ⟨a,b⟩:=j (gA ks w) r;refine ⟨a,λx=>?_⟩;rw [bN,b x];unfold gA;split
  ·rename_i h;constructor
   ·rintro (q | q);·exact .inl q
    ·exact .inr (ac _ q)
   ·rintro (q | q);·exact .inl q
    ·rcases ae.mp q with rfl | q;·exact .inl h
     ·exact .inr q
  ·simp [aj,or_assoc]
theorem UZ (h:qX ws):xN [.tup (ws.map D.str)]=.ok (.bl iJ,[.non]):=by
 refine qr.trans ?_;have e:=vJ (cap:=[]) (fi:=jl (qd 0)) (ρ:=[iE (.tup (ws.map D.str))]) (ρ1:=[iE (.tup (ws.map D.str))]) (ds:=ws.map D.str) (fe:=ql [.vl] xh (qc (qd 0) qx)) (λd=>.bl iJ) (by simp [jg]) (by
   rw [af];exact jb (by have:=h.2.1; lia)) (λd hd=>by
   obtain ⟨w,c,rfl⟩:=ah.mp hd;have h1:=ZV (h.2.2.2 w c);simp [h1])
 have h1:(1:Int)<=ws.length:=by have:=h.1; lia
 have b:(ws.length:Int)<=6:=by have:=h.2.1; lia
 have f:ws.foldl gA []=ws:=by rw [Qt ws [] h.2.2.1 (by simp)]; simp
 have a:ws.length < 4000:=by lia
 have g:=xx (λ_:D=>iJ) (ws.map D.str);simp only [Jh,qt,aC,bM,aq,bf,Nat.reduceAdd,fC,cK,aY];simp [-aR,zg,tyN,h1,b,e,g,gK,yZ,vw,f,a,eqD,eqN,eqS]
theorem vR (w:qX ws):jS [.tup (ws.map D.str)]=.ok (.non,[.non]):=by refine qr.trans ?_;have h:=UZ w;simp [xi,qt,h]
theorem ZW (hl:JD p q):gX [.tup [.int p,.int q]]=.ok (.bl iJ,[.non]):=by
 refine qr.trans ?_;have e:=vJ (cap:=[]) (fi:=jl (qd 0)) (ρ:=[iE (.tup [.int p,.int q])]) (ρ1:=[iE (.tup [.int p,.int q])]) (ds:=[.int p,.int q]) (fe:=ql [.vl,.vl,.vl] jK (qc (qd 0) (qc (dC (.int (-3))) (qc (dC (.int 2)) qx)))) (λd=>.bl (UY (-3) 2 d)) (by simp [jg]) (jb (by simp)) (λd hd=>by
   have hd:d=.int p\/d=.int q:=by simpa using hd
   have h1:=kT (d:=.int p) trivial (-3) 2;have h2:=kT (d:=.int q) trivial (-3) 2;rcases hd with rfl | rfl;·simp [h1]
   ·simp [h2])
 have a:UY (-3) 2 (.int p)=true:=by simp [UY]; exact hl.1
 have f:UY (-3) 2 (.int q)=true:=by simp [UY]; exact hl.2
 simp only [VZ,qt,aC,bM,aq,bf,Nat.reduceAdd,fC,cK,aY];simp [zg,tyN,neD,eqN,eqS,e,Zl,zi,a,f]
theorem KJ (hl:JD p q):ui [.tup [.int p,.int q]]=.ok (.non,[.non]):=by refine qr.trans ?_;have h:=ZW hl;simp [zl,qt,h]
theorem xy (h:qX ws) (hl:JD p q):vj [Wd ws,Ld p q]=.ok (.lst (qo (qy ws p q)),[.non,.non]):=by
 refine qr.trans ?_;have e:=Ju (G:=vi) h (p:=p) (q:=q) λw c=>⟨zE (h.2.2.2 w c) p,zE (h.2.2.2 w c) q⟩
 have k:=vR h;have c2:=KJ hl;simp only [qaZ,qt,aC,bM,aq,bf,Nat.reduceAdd,fC,cK,aY];simp [k,c2,e]
theorem qbw {a b:List Str} (g:a.Nodup) (d:b.Nodup) (h:∀ x,x∈a↔x∈b):a.Perm b:=(List.perm_ext_iff_of_nodup g d).mpr h
theorem qbx {a b:List Str} (h:∀ x,x∈a↔x∈b):kc (a.foldl gA [])=kc (b.foldl gA []):=by
 obtain ⟨n1,m1⟩:=uN a [] cx;obtain ⟨n2,B⟩:=uN b [] cx;have p:=qbw n1 n2 λx=>by rw [m1,B,h]
 exact yY ((qF _).trans (p.trans (qF _).symm)) (kf _) (kf _)
noncomputable def LS (l:List (Str×Str)):List Str:=kc ((l.map (·.1)++l.map (·.2)).foldl gA [])
variable {l:List (Str×Str)}
theorem ko:x∈LS l↔∃ p∈l,x=p.1\/x=p.2:=by
 unfold LS;rw [(qF _).mem_iff,(uN _ [] cx).2];simp only [bb,false_or,aj,ah];constructor
 ·rintro (⟨p,hp,rfl⟩ | ⟨p,hp,rfl⟩);·exact ⟨p,hp,.inl rfl⟩
  ·exact ⟨p,hp,.inr rfl⟩
 ·rintro ⟨p,hp,rfl | rfl⟩;·exact .inl ⟨p,hp,rfl⟩
  ·exact .inr ⟨p,hp,rfl⟩
theorem xz (hl:l.length<=20):jM [.lst (qo l)]=.ok (.lst ((LS l).map D.str),[.non]):=by
 refine qr.trans ?_;have z:(qo l).length<=sizeLine:=by unfold qo;rw [af];exact jb (by lia)
 have e1:=vJ (cap:=[]) (fi:=jl (qd 0)) (ρ:=[iE (.lst (qo l))]) (ρ1:=[iE (.lst (qo l))]) (ds:=qo l) (fe:=d2 ixD (qd 0) (dC (.int 0))) (λd=>match d with | .tup [a,b]=>a | d=>d) (by simp [jg]) z (λd hd=>by obtain ⟨x,hx,rfl⟩:=ah.mp hd;simp [ixD,atI,ixN]);have i:=vJ (cap:=[]) (fi:=jl (qd 0)) (ρ:=[iE (.lst (qo l))]) (ρ1:=[iE (.lst (qo l))]) (ds:=qo l) (fe:=d2 ixD (qd 0) (dC (.int 1))) (λd=>match d with | .tup [a,b]=>b | d=>d) (by simp [jg]) z (λd hd=>by obtain ⟨x,hx,rfl⟩:=ah.mp hd;simp [ixD,atI,ixN]);have f1:(qo l).map (λd=>match d with | .tup [a,b]=>a | d=>d)=(l.map (·.1)).map D.str:=by simp [qo]
 have f2:(qo l).map (λd=>match d with | .tup [a,b]=>b | d=>d)=(l.map (·.2)).map D.str:=by simp [qo]
 rw [f1] at e1;rw [f2] at i;have c:l.length+l.length<=sizeLine:=jb (by lia);have j:l.length+l.length < 64:=by lia
 simp only [zn,qt,aC,bM,aq,bf,Nat.reduceAdd,fC,cK,aY,yq,vB,qc5,e1,i,jr];simp only [qmd,af,Aa c,qkH,jr,<-bV,uT,yZ,vw,ai,Aa j];simp [LS]
theorem Xp:∀ l:List (Str×Str),(l.flatMap λp=>[p.1,p.2]).length=2 * l.length
 | []=>rfl
 | a::l=>by
  rw [dh,ai,Xp l,aq];simp
  lia
variable {a:D}
theorem at0 {l:List D}:atI (a::l) 0=iE a:=by have:=kL (a::l) 0;simpa using this
theorem at1 {b:D} {l:List D}:atI (a::b::l) 1=iE b:=by have:=kL (a::b::l) 1;simpa using this
noncomputable def prL (l:List (Str×Int)):List D:=l.map λx=>.tup [.str x.1,.int x.2]
noncomputable def jT (l:List (Str×Int)):List Str:=l.map (·.1)
noncomputable def bk (l:List (Str×Int)):List (Key×D):=l.map λx=>(.inr x.1,.int x.2)
theorem WB:∀ l:List (Str×Int),ye (prL l)=iE (bk l)
 | []=>rfl
 | x::l=>by have j:=WB l;unfold prL at j ⊢;rw [aC];simp [ye,qcU,QG,j,bk]
theorem qby:∀ (l:List (Str×Int)) (a:List (Key×D)),(jT l).Nodup->(∀ x∈l,∀ p∈a,p.1≠.inr x.1)->(bk l).foldl (λa p=>vX a p.1 p.2) a=a++bk l
 | [],a,_,_=>by simp [bk]
 | x::l,a,hn,hd=>by
  have h1:=aH.mp (show (x.1::jT l).Nodup from hn);have hp:vX a (.inr x.1) (.int x.2)=a++[(.inr x.1,.int x.2)]:=by unfold vX;rw [Ab];simp only [eY,decide_eq_true_eq,not_exists,not_and];exact λp hp=>hd x (ap ..) p hp
  have j:=qby l (a++[(.inr x.1,.int x.2)]) h1.2 (λy h p hp=>by
   rcases aj.mp hp with hp | hp;·exact hd y (ac _ h) p hp
   ·rw [au.mp hp];intro z;have z:x.1=y.1:=aU.inj z;exact h1.1 (z ▸ ah.mpr ⟨y,h,rfl⟩))
  show ((bk l).foldl (λa p=>vX a p.1 p.2) (vX a (.inr x.1) (.int x.2)))=a++(.inr x.1,.int x.2)::bk l;rw [hp,j];simp
noncomputable def jw (l:List (Str×Int)) (x:Str):Int:=((l.find? λy=>decide (y.1=x)).map (·.2)).getD 0
theorem yD:∀ {l:List (Str×Int)} {x:Str},x∈jT l->(x,jw l x)∈l/\(bk l).find? (λkv=>decide (kv.1=aU x))=iE (.inr x,.int (jw l x))
 | [],x,h=>by cases h
 | a::l,x,h=>by
  by_cases e:a.1=x
  ·have c:jw (a::l) x=a.2:=by simp [jw,e]
   rw [c];refine ⟨?_,?_⟩;·rw [<-e];exact ap ..
   ·simp [bk,e]
  ·have hx:x∈jT l:=by
    rcases ae.mp (show x∈a.1::jT l from h) with z | z;·exact absurd z.symm e
    ·exact z
   obtain ⟨h1,h2⟩:=yD hx;have c:jw (a::l) x=jw l x:=by simp [jw,e]
   rw [c];refine ⟨ac _ h1,?_⟩;rw [<-h2];simp [bk,e]
theorem qiJ {l:List (Str×Int)} (h:x∈jT l):ixD (.dct (bk l)) (.str x)=.ok (.int (jw l x)):=by simp [ixD,(yD h).2]
theorem KK (h:Pl d):uC [d]=if UY 1 99 d=iJ then .ok (.non,[.non]) else .exc "NoRoom" [iE .non]:=by refine qr.trans ?_;have h1:=kT h 1 99;have z:1<=sizeLine:=jb (by lia);cases e:UY 1 99 d <;> simp [zx,qt,h1,e,wj]
noncomputable def qiK (l:List (Str×Int)) (s:List (Str×Str)) (r:Int):List D:=s.map λx=>.int ((jw l x.1+jw l x.2) % r)
theorem qv {f g:qR} (h:f ρ=.ok (.nx,ρ1)):Gg ms (qN f g ρ)=Gg ms (g ρ1):=by rw [gL,h];rfl
abbrev qiL:qR:=(ki (xE 2 qcP (d1 VC (qd 3))))
theorem WC (a b:Option D):∀ (l:List (Str×Str)) (m:List Str) (x:Option D),m.length+2 * l.length<=1000->∃ n,jR (gNm 3) qiL (qo l) [a,b,iE (.lst (m.map D.str)),x]=.ok (.nx,[a,b,iE (.lst ((m++l.flatMap λp=>[p.1,p.2]).map D.str)),n])
 | [],m,x,_=>⟨x,by simp [qo,jR]⟩
 | p::l,m,x,h=>by rw [aq] at h;obtain ⟨n,e⟩:=WC a b l (m++[p.1,p.2]) (iE (.tup [.str p.1,.str p.2])) (by rw [ai]; simp; lia);refine ⟨n,?_⟩;have z:2<=sizeLine:=jb (by lia);have c:m.length+2<=sizeLine:=jb (by lia);rw [show (m++(p::l).flatMap λp=>[p.1,p.2])=(m++[p.1,p.2])++l.flatMap λp=>[p.1,p.2] by simp,<-e];simp [qo,jR,qiL,wQ,qcP,VC,z,c]
theorem QO (w:qX ws) (hl:JD p q):uZ [Wd ws,Ld p q]=.ok (.lst ((LS (qy ws p q)).map D.str),[.non,.non]):=by
 refine qr.trans ?_;have h1:=Qs w hl;have a:(qy ws p q).length<=6:=by simp [qy]; exact w.2.1
 obtain ⟨n,e⟩:=WC (iE (Wd ws)) (iE (Ld p q)) (qy ws p q) [] iG (by simp; lia);have h:((qy ws p q).flatMap λp=>[p.1,p.2]).length < 64:=by
  rw [Xp]
  lia
 have c:kc (((qy ws p q).flatMap λp=>[p.1,p.2]).foldl gA [])=LS (qy ws p q):=qbx λx=>by
  simp only [cR,aj,ah,ae,bb,or_false];constructor
  ·rintro ⟨p,hp,rfl | rfl⟩;·exact .inl ⟨p,hp,rfl⟩
   ·exact .inr ⟨p,hp,rfl⟩
  ·rintro (⟨p,hp,rfl⟩ | ⟨p,hp,rfl⟩);·exact ⟨p,hp,.inl rfl⟩
   ·exact ⟨p,hp,.inr rfl⟩
 simp only [bM,bW] at e;simp [Jt,qt,h1,jg];rw [e];simp only [jr,vB,xL,cc,ce,uT,yZ,vw,Aa h,c];simp
variable {r:Int}
theorem qbz (w:qX ws) (hl:JD p q) (h:0 < r) {l:List (Str×Int)} (k:∀ x∈LS (qy ws p q),x∈jT l):qf8 [Wd ws,Ld p q,.int r,.dct (bk l)]=.ok (.tup (qiK l (qy ws p q) r),[.non,.non,.non,.non]):=by
 refine qr.trans ?_;have h1:=Qs w hl;have n:(qy ws p q).length<=6:=by simp [qy]; exact w.2.1
 have e:=qbu (own:=[]) (cap:=[2,3]) (fi:=jl (ql [.vl,.vl] Qq (qc (qd 0) (qc (qd 1) qx)))) (ft:=ftT) (fe:=d2 yG (d2 vz (d2 ixD (qd 3) (qd 0)) (d2 ixD (qd 3) (qd 1))) (qd 2))
  (ρ:=[iE (Wd ws),iE (Ld p q),iE (.int r),iE (.dct (bk l))]) (ρ1:=[iE (Wd ws),iE (Ld p q),iE (.int r),iE (.dct (bk l))]) (ps:=(qy ws p q).map λx=>(.str x.1,.str x.2)) (λ_=>iJ) (λd=>match d with | (.str a,.str b)=>.int ((jw l a+jw l b) % r) | _=>.non) (by simp)
  (by simp [h1,jg,qo]) (by rw [af]; exact jb (by lia)) (λ_ _=>rfl) (λd hd _=>by obtain ⟨x,hx,rfl⟩:=ah.mp hd;have c:=qiJ (k x.1 (ko.mpr ⟨x,hx,.inl rfl⟩));have j:=qiJ (k x.2 (ko.mpr ⟨x,hx,.inr rfl⟩));simp [c,j,yG,yn,h])
 rw [fB.mpr (λ_ _=>rfl)] at e;have f:((qy ws p q).map λx=>(D.str x.1,D.str x.2)).map (λd=>match d with | (.str a,.str b)=>.int ((jw l a+jw l b) % r) | _=>.non)=qiK l (qy ws p q) r:=by simp [qiK]
 rw [f] at e;unfold qiy;rw [yq,vB,show qt qix [Wd ws,Ld p q,.int r,.dct (bk l)]=[iE (Wd ws),iE (Ld p q),iE (.int r),iE (.dct (bk l))] from rfl,e];simp [vW]
theorem Jw (ns:List Int) {room:Int} (f:0 < room):∀ (L:List Str) (t:List D) (x:Option D),t.length+L.length < 1000 ->∃ (es:List (Str×Int)) (b:List D) (n:Option D),jT es=L/\(∀ e∈es,0<=e.2/\e.2 < room)/\b.length=t.length+L.length /\
   jG (gNm 0) ftT (yP (qc (qd 0) (qc (ql [.vl,.sl 2,.vl] jH (qc (qd 1) (kj (qc (qd 3) qx)))) qx))) (L.map D.str) [x,iE (scr ns),iE (.lst t),iE (.int room)]=.ok (prL es,[n,iE (scr ns),iE (.lst b),iE (.int room)])
 | [],t,x,_=>⟨[],t,x,rfl,by simp,by simp,rfl⟩
 | a::L,t,x,h=>by
  rw [aq] at h;obtain ⟨r,r0,r1,hd⟩:=vt ns t (many:=room) f (by lia);obtain ⟨es,b,n,k,c,g,o⟩:=Jw ns f L (t++[.int 0]) (iE (.str a)) (by rw [ai]; simp; lia);have z2:2<=sizeLine:=jb (by lia);refine ⟨(a,r)::es,b,n,by simp [jT] at k ⊢; exact k,λe i=>?_,by rw [g,ai]; simp; lia,?_⟩
  ·rcases ae.mp i with rfl | i;·exact ⟨r0,r1⟩
   ·exact c e i
  ·simp [jG,yV,hd,z2,o,prL]
theorem qes (w:qX ws) (p q:Int):(LS (qy ws p q)).length<=12:=by
 have c:(qy ws p q).length<=6:=by simp [qy]; exact w.2.1
 unfold LS;rw [(qF _).length_eq];have:=VF ((qy ws p q).map (·.1)++(qy ws p q).map (·.2)) [];simp only [ai,af,bf] at this
 lia
theorem qk2 (a:qX ws) (p q:Int):∀ x∈LS (qy ws p q),∃ c,az c/\x=⟨#[c]⟩:=λx hx=>by
 obtain ⟨y,D,h⟩:=ko.mp hx;obtain ⟨w,m,rfl⟩:=ah.mp D;rcases h with rfl | rfl;·exact qbv (a.2.2.2 w m) p
 ·exact qbv (a.2.2.2 w m) q
abbrev Pr:=Str×Str
abbrev Wk:=List Nat
noncomputable def inL (l:Wk):List D:=l.map λ(k:Nat)=>.int (k:Nat)
abbrev lD (l:Wk):D:=.lst (inL l)
abbrev nD (ns:List Int):D:=.tup (ns.map D.int)
abbrev pD (p:Pr):D:=.tup [.str p.1,.str p.2]
noncomputable def nI (ns:List Int) (k:Nat):Int:=(ns[k]?).getD 0
variable {ns:List Int}
theorem qiM {k:Nat} (h:k < ns.length):ixD (nD ns) (.int (k:Nat))=.ok (.int (nI ns k)):=by unfold ixD nI;simp only [];rw [kL,aF,aw h];rfl
noncomputable def qK (ns:List Int) (t:Int) (l:Wk):Int:=l.foldl (λa k=>nI ns k - a) t
def qg2 (nd:D) (ns:List Int):Prop:=∀ k:Nat,k < ns.length->ixD nd (.int (k:Nat))=.ok (.int (nI ns k))
theorem qet (ns:List Int):qg2 (nD ns) ns:=λ_ h=>qiM h
theorem Jx {nd:D} {ns:List Int} (d:qg2 nd ns) {a s:Option D}:∀ (l:Wk) (t:Int) (x:Option D),(∀ k∈l,k < ns.length)->∃ n,jR (gNm 4) (jx 3 (d2 qce (d2 ixD (qd 1) (qd 4)) (qd 3))) (inL l) [a,iE nd,s,iE (.int t),x]=.ok (.nx,[a,iE nd,s,iE (.int (qK ns t l)),n])
 | [],t,x,_=>⟨x,rfl⟩
 | k::l,t,x,h=>by have b:=d k (h k (ap ..));obtain ⟨n,e⟩:=Jx d (a:=a) (s:=s) l (nI ns k - t) (iE (.int (k:Nat))) λj G=>h j (ac _ G);refine ⟨n,?_⟩;have e0:qK ns t (k::l)=qK ns (nI ns k - t) l:=rfl;rw [e0,<-e];simp [inL,jR,b,yn]
variable {nd:D}
theorem Qu (d:qg2 nd ns) {l:Wk} (h:∀ k∈l,k < ns.length) (t:Int):uV [lD l,nd,.int t]=.ok (.int (qK ns t l),[.non,.non,.non]):=by obtain ⟨n,e⟩:=Jx d (a:=iE (lD l)) (s:=iE (.int t)) l t iG h;refine qr.trans ?_;unfold Jp;rw [show qt Jo [lD l,nd,.int t]=[iE (lD l),iE nd,iE (.int t),iG,iG] from rfl];refine (qv (ρ1:=[iE (lD l),iE nd,iE (.int t),iE (.int t),iG]) (by simp)).trans ?_;refine (qv (ρ1:=[iE (lD l),iE nd,iE (.int t),iE (.int (qK ns t l)),n]) (by rw [vg]; exact e)).trans ?_;simp
noncomputable def odd (l:Wk):Bool:=decide (l.length % 2=1)
theorem Qv (l:Wk):wE [lD l]=.ok (.bl (odd l),[.non]):=by
 refine qr.trans ?_;have h:((inL l).length:Int) % 2=((l.length % 2:Nat):Int):=by simp [inL]
 by_cases q:l.length % 2=1;·simp [Ks,qt,yG,yn,eqD,eqN,eqS,h,odd,q]
 ·have g:¬((l.length % 2:Nat):Int)=1:=by omega
  simp [Ks,qt,yG,yn,eqD,eqN,eqS,h,odd,q,g];omega
noncomputable def ZX (l:Wk) (r:Int) (ns:List Int):Bool:=if odd l=iJ then decide (r % 2=0)&&decide (qK ns 0 l % 2=1) else !decide (qK ns 0 l % r=0)
theorem qgg (d:qg2 nd ns) {l:Wk} (h:∀ k∈l,k < ns.length) (f:1<=r):Xe [lD l,.int r,nd]=.ok (.bl (ZX l r ns),[.non,.non,.non]):=by
 have h1:=Qu d h 0;have h2:=Qv l;have a:0 < r:=by omega
 refine qr.trans ?_;unfold ZX;generalize qK ns 0 l=t at h1;cases q:odd l with
 | true=>rw [q] at h2;by_cases e1:r % 2=0 <;> simp [qa7,qt,h1,h2,yG,yn,eqD,eqN,eqS,e1] <;> rfl
 | false=>rw [q] at h2;simp [qa7,qt,h1,h2,yG,yn,neD,eqN,eqS,a];rfl
abbrev Wy:=List (Str×Str×Wk)
noncomputable def wD (W:Wy):List (Key×D):=W.map λe=>(.inr e.1,.tup [.str e.2.1,lD e.2.2])
noncomputable def kW (W:Wy):List Str:=W.map (·.1)
theorem qeu (W:Wy) (x:Str):kJ (wD W) (.inr x)=decide (x∈kW W):=by
 unfold kJ wD kW
 induction W with
 | nil=>rfl
 | cons e W j=>
  rw [aC,b7,j];by_cases h:e.1=x;·subst h; simp
  ·have h2:¬(aU e.1:Key)=aU x:=λz=>h (aU.inj z);have i:¬x=e.1:=λz=>h z.symm;simp [h2,i]
variable {W:Wy}
theorem qev {r:Str} {l:Wk} (h:x∉kW W):vX (wD W) (.inr x) (.tup [.str r,lD l])=wD (W++[(x,r,l)]):=by
 unfold vX;have h1:((wD W).any λp=>decide (p.1=(aU x:Key)))=false:=by have:=qeu W x;unfold kJ at this;rw [this];exact Ac h
 rw [h1,Ab bF];unfold wD;rw [bV];rfl
theorem qgh:∀ {W:Wy} {e:Str×Str×Wk},(kW W).Nodup->e∈W->ixD (.dct (wD W)) (.str e.1)=.ok (.tup [.str e.2.1,lD e.2.2])
 | [],e,_,h=>by cases h
 | a::W,e,hn,h=>by
  have r:=aH.mp (show (a.1::kW W).Nodup from hn);rcases ae.mp h with rfl | h;·simp [ixD,wD]
  ·have b:a.1≠e.1:=λz=>r.1 (by rw [z]; exact ah.mpr ⟨e,h,rfl⟩);have j:=qgh r.2 h;unfold ixD at j ⊢;simp only [wD,aC] at j ⊢;have h2:¬(aU a.1:Key)=aU e.1:=λz=>b (aU.inj z);rw [bg (by simpa using h2)];exact j
inductive Path (seen:List Pr) (r:Str):Wk->Str->Prop
 | nil:Path seen r [] r
 | snoc {l:Wk} {x y:Str} {k:Nat} {p:Pr}:Path seen r l x->seen[k]?=iE p->(p=(x,y)\/p=(y,x))->Path seen r (l++[k]) y
variable {seen:List Pr}
theorem Path.lt {r:Str} {l:Wk} (h:Path seen r l x):∀ k∈l,k < seen.length:=by
 induction h with
 | nil=>simp
 | snoc _ e _ j=>
  intro k a;rcases aj.mp a with a | a;·exact j k a
  ·rw [au.mp a];exact (aD.mp e).1
structure WI (seen:List Pr) (W:Wy):Prop where
 nd:(kW W).Nodup
 sub:∀ x∈kW W,x∈LS seen
 path:∀ e∈W,Path seen e.2.1 e.2.2 e.1
 len:∀ e∈W,e.2.2.length < W.length
theorem kI (W V:Wy):kW (W++V)=kW W++kW V:=by simp [kW]
theorem WI.add (h:WI seen W) {r:Str} {l:Wk} (hx:x∉kW W) (c:x∈LS seen) (hp:Path seen r l x) (hl:l.length<=W.length):WI seen (W++[(x,r,l)]) where
 nd:=by rw [kI];refine cC.mpr ⟨h.nd,by simp [kW],λa g b d=>?_⟩;rw [show kW [(x,r,l)]=[x] from rfl] at d;rw [au.mp d];exact λz=>hx (z ▸ g)
 sub:=λy D=>by
  rw [kI] at D;rcases aj.mp D with D | D;·exact h.sub y D
  ·rw [show y=x from au.mp D]; exact c
 path:=λe i=>by
  rcases aj.mp i with i | i;·exact h.path e i
  ·rw [au.mp i]; exact hp
 len:=λe i=>by
  rw [ai];rcases aj.mp i with i | i;·have:=h.len e i; simp; omega
  ·rw [au.mp i]; simp; omega
theorem qbA:∀ {a b:List Str},a.Nodup->(∀ x∈a,x∈b)->a.length<=b.length
 | [],b,_,_=>bo _
 | x::a,b,hn,h=>by have r:=aH.mp hn;have hx:=h x (ap ..);have j:=qbA (b:=b.erase x) r.2 λy D=>(fq (λz=>r.1 (by rw [<-z]; exact D))).mpr (h y (ac _ D));rw [cH hx] at j;have:=bS hx;rw [aq];omega
theorem WI.le (h:WI seen W):W.length<=(LS seen).length:=by have:=qbA h.nd h.sub;simpa [kW] using this
noncomputable def oth (p:Pr) (x:Str):Str:=if x=p.1 then p.2 else p.1
theorem qdB (p:Pr) (x:Str):kB [pD p,.str x]=.ok (.str (oth p x),[.non,.non]):=by refine qr.trans ?_;unfold oth;by_cases h:x=p.1 <;> simp [yk,qt,ixD,at0,at1,eqD,eqN,eqS,h]
theorem qgi (p:Pr) (x:Str):inA (.str x) (pD p)=.ok (.bl (decide (x=p.1\/x=p.2))):=by have h:=vZ x [p.1,p.2];simp only [aC,bM] at h;show (inD (.str x) (pD p)).bind (λb=>Out.ok (D.bl b))=_;unfold inD;simp only [h];simp
theorem Xq (W:Wy) (x:Str):zJ (.str x) (.dct (wD W))=.ok (.bl (!decide (x∈kW W))):=by unfold zJ;simp only [QG];rw [qeu]
theorem qiN {p:Pr} (hp:p∈seen) (x:Str):oth p x∈LS seen:=by
 rw [ko];refine ⟨p,hp,?_⟩;unfold oth;split;·exact .inr rfl
 ·exact .inl rfl
abbrev spB:qR:=(qN (jx 7 (ql [.vl,.vl] kB (qc (qd 6) (qc (qd 4) qx))))
  (sIf (qd7 (qL (d2 inA (qd 4) (qd 6))) (qL (d2 zJ (qd 7) (qd 2)))) (qN (gS 2 (yP (qc (qd 1) (qc (d2 vz (d2 ixD (d2O 2 ixD (qd 4)) (dC (.int 1))) (yd (qc (qd 5) qx))) qx))) (qd 7))
  (ki (xE 3 QE (qd 7)))) jk))
theorem qiO {f g:qR} (h:f ρ=.ok (.nx,ρ1)):qN f g ρ=g ρ1:=by rw [gL,h];rfl
variable {g:D->Sl->Out Sl} {ρ2:Sl}
theorem xA {fb:qR} (h1:g d ρ=.ok ρ1) (h2:fb ρ1=.ok (.nx,ρ2)):jR g fb (d::ds) ρ=jR g fb ds ρ2:=by rw [jR,h1];simp only [Out.plain,jr];rw [h2];rfl
theorem qiP {fb:qR} {v:D} (h1:g d ρ=.ok ρ1) (h2:fb ρ1=.ok (.rt v,ρ2)):jR g fb (d::ds) ρ=.ok (.rt v,ρ2):=by rw [jR,h1];simp only [Out.plain,jr];rw [h2];rfl
variable {root:Str} {ly:Wk}
theorem qgj (B:(LS seen).length<=20) (a:WI seen W) (f:(y,root,ly)∈W) {k:Nat} {p:Pr} (u:seen[k]?=iE p) (Q:List Str) (C:Q.length<=1000) (s Y:Option D):∃ (M:Wy) (d:Option D),WI seen (W++M)/\(∀ e∈M,e.2.1=root)/\M.length<=1/\((y=p.1\/y=p.2)->oth p y∈kW (W++M)) /\
   spB [s,iE (.str root),iE (.dct (wD W)),iE (.lst (Q.map D.str)),iE (.str y),iE (.int (k:Nat)),iE (pD p),Y]=.ok (.nx,[s,iE (.str root),iE (.dct (wD (W++M))),iE (.lst ((Q++kW M).map D.str)),iE (.str y),iE (.int (k:Nat)),iE (pD p),d]):=by
 have h1:=qdB p y;have h2:=qgi p y;have i:=Xq W (oth p y);have S:=a.le;have A:=big;have b:=a.len _ f;have n:p∈seen:=bG u;by_cases q:(y=p.1\/y=p.2)/\oth p y∉kW W
 ·refine ⟨[(oth p y,root,ly++[k])],iE (.str (oth p y)),a.add q.2 (qiN n y) (.snoc (a.path _ f) u ?_) (by rw [ai]; simp; simp at b; lia),by simp,by simp,λ_=>by rw [kI]; exact aj.mpr (.inr (by simp [kW])),?_⟩
  ·obtain ⟨p1,p2⟩:=p;unfold oth;rcases q.1 with e | e;·have e:y=p1:=e;subst e;simp
   ·have e:y=p2:=e;subst e;by_cases z:y=p1;·subst z; simp
    ·simp [z]
  ·unfold spB;rw [qiO (ρ1:=[s,iE (.str root),iE (.dct (wD W)),iE (.lst (Q.map D.str)),iE (.str y),iE (.int (k:Nat)),iE (pD p),iE (.str (oth p y))]) (by simp [h1])];have h:decide (y=p.1\/y=p.2)=true:=Ad q.1;have g:(!decide (oth p y∈kW W))=true:=by rw [Ac q.2]; rfl
   rw [h] at h2;rw [g] at i;have V:=qgh a.nd f;simp only [] at V;have c:ixD (.tup [.str root,lD ly]) (.int 1)=.ok (lD ly):=by simp [ixD,at1]
   have t:=qev (W:=W) (x:=oth p y) (r:=root) (l:=ly++[k]) q.2;have hl:(inL ly).length+1<=sizeLine:=by simp [inL]; simp at b; lia
   have z1:1<=sizeLine:=by lia
   have z2:2<=sizeLine:=by lia
   have j:(wD W).length < sizeLine:=by simp [wD]; lia
   have m:Q.length < sizeLine:=by lia
   have o:inL ly++[.int (k:Nat)]=inL (ly++[k]):=by simp [inL]
   rw [qei,show qd7 (qL (d2 inA (qd 4) (qd 6))) (qL (d2 zJ (qd 7) (qd 2))) [s,iE (.str root),iE (.dct (wD W)),iE (.lst (Q.map D.str)),iE (.str y),iE (.int (k:Nat)),iE (pD p),iE (.str (oth p y))]=.ok (iJ,[s,iE (.str root),iE (.dct (wD W)),iE (.lst (Q.map D.str)),iE (.str y),iE (.int (k:Nat)),iE (pD p),iE (.str (oth p y))]) by simp [h2,i]];simp only [jr,if_true];rw [qiO (ρ1:=[s,iE (.str root),iE (.dct (wD (W++[(oth p y,root,ly++[k])]))),iE (.lst (Q.map D.str)),iE (.str y),iE (.int (k:Nat)),iE (pD p),iE (.str (oth p y))]) (by simp [gS,d2O,V,c,z1,z2,hl,o,QG,j,t])];simp [wQ,QE,m,kW]
 ·refine ⟨[],iE (.str (oth p y)),by simpa using a,by simp,by simp,λz=>?_,?_⟩;·rw [aY];exact aZ λw=>q ⟨z,w⟩
  ·unfold spB;rw [qiO (ρ1:=[s,iE (.str root),iE (.dct (wD W)),iE (.lst (Q.map D.str)),iE (.str y),iE (.int (k:Nat)),iE (pD p),iE (.str (oth p y))]) (by simp [h1])];by_cases z:y=p.1\/y=p.2
   ·have h:decide (y=p.1\/y=p.2)=true:=Ad z;have v:oth p y∈kW W:=aZ λw=>q ⟨z,w⟩;have g:(!decide (oth p y∈kW W))=false:=by rw [Ad v]; rfl
    rw [h] at h2;rw [g] at i;simp [h2,i,kW]
   ·have h:decide (y=p.1\/y=p.2)=false:=Ac z;rw [h] at h2;simp [h2,kW]
noncomputable def en (k0:Nat) (rest:List Pr):List D:=(rest.zipIdx k0).map λp=>.tup [.int (p.2:Nat),pD p.1]
theorem qiQ (seen:List Pr):zL (qo seen)=en 0 seen:=by unfold zL en qo;rw [List.zipIdx_map,aR];rfl
theorem qew (f:(LS seen).length<=20) (s:Option D):∀ (rest:List Pr) (k0:Nat) (W:Wy) (Q:List Str) (a x Y:Option D),seen.drop k0=rest->WI seen W->(y,root,ly)∈W->Q.length+rest.length<=500 ->∃ (M:Wy) (V d c:Option D),WI seen (W++M)/\(∀ e∈M,e.2.1=root)/\(∀ p∈rest,(y=p.1\/y=p.2)->oth p y∈kW (W++M))/\M.length<=rest.length /\
   jR (jo 2 (qu (gNm 5) (qu (gNm 6) jn))) spB (en k0 rest) [s,iE (.str root),iE (.dct (wD W)),iE (.lst (Q.map D.str)),iE (.str y),a,x,Y]=.ok (.nx,[s,iE (.str root),iE (.dct (wD (W++M))),iE (.lst ((Q++kW M).map D.str)),iE (.str y),V,d,c])
 | [],k0,W,Q,a,x,Y,_,hW,_,_=>⟨[],a,x,Y,by simpa using hW,by simp,by simp,by simp,by simp [en,jR,kW]⟩
 | p::rest,k0,W,Q,a,x,Y,hd,hW,hy,hQ=>by
  rw [aq] at hQ;have k:seen[k0]?=iE p:=by have:=congrArg List.head? hd;rw [List.head?_drop] at this;simpa using this
  have hd2:seen.drop (k0+1)=rest:=by have:=congrArg List.tail hd;rw [List.tail_drop] at this;simpa using this
  obtain ⟨b,r1,r,q,o,a4,a5⟩:=qgj f hW hy k Q (by lia) s Y;have g:(kW b).length<=1:=by simpa [kW] using o
  obtain ⟨M2,V,d,c,n,m,l,t,j⟩:=qew f s rest (k0+1) (W++b) (Q++kW b) (iE (.int (k0:Nat))) (iE (pD p)) r1 hd2 r (aj.mpr (.inl hy)) (by rw [ai]; lia);refine ⟨b++M2,V,d,c,by rw [<-aV]; exact n,λe i=>?_,λZ h z=>?_,by rw [ai,aq]; lia,?_⟩
  ·rcases aj.mp i with i | i;·exact q e i
   ·exact m e i
  ·rw [<-aV,kI];rcases ae.mp h with rfl | h;·exact aj.mpr (.inl (a4 z))
   ·have:=l Z h z;rw [kI] at this;exact this
  ·rw [kI,<-aV,<-aV];refine dO ?_ j;have e0:en k0 (p::rest)=.tup [.int (k0:Nat),pD p]::en (k0+1) rest:=by simp [en,dE]
   rw [e0];exact xA rfl a5
theorem qdC {ft:ua} {fb:qR} (h1:ft ρ=.ok (iJ,ρ1)) (h2:fb ρ1=.ok (.nx,ρ2)):qZ ft fb (n+1) ρ=qZ ft fb n ρ2:=by rw [qZ,h1];simp only [jr,if_true];rw [h2];rfl
theorem qbB {ft:ua} {fb:qR} (h1:ft ρ=.ok (iI,ρ1)):qZ ft fb (n+1) ρ=.ok (.nx,ρ1):=by rw [qZ,h1];rfl
abbrev spC:ua:=qL (d2 gtD (d1 ky (qd 3)) (dC (.int 0)))
abbrev spW:qR:=(qN (jx 4 (qaH 3)) (zI (ue (qd 0)) (jo 2 (qu (gNm 5) (qu (gNm 6) jn))) spB))
abbrev sD (seen:List Pr):D:=.lst (qo seen)
theorem Xr (w:seen.length<=10) (s:(LS seen).length<=20) (root:Str):∀ (n:Nat) (W:Wy) (Q:List Str) (c b a Y:Option D),n<=100->WI seen W->(∀ x∈Q,∃ l,(x,root,l)∈W)->Q.length+((LS seen).length - W.length) < n ->∃ (M:Wy) (u V g f:Option D),WI seen (W++M)/\(∀ e∈M,e.2.1=root)/\(∀ x,x∈Q\/x∈kW M->∀ p∈seen,(x=p.1\/x=p.2)->oth p x∈kW (W++M)) /\
   qZ spC spW n [iE (sD seen),iE (.str root),iE (.dct (wD W)),iE (.lst (Q.map D.str)),c,b,a,Y]=.ok (.nx,[iE (sD seen),iE (.str root),iE (.dct (wD (W++M))),iE (.lst []),u,V,g,f])
 | 0,W,Q,c,b,a,Y,_,_,_,h=>absurd h (c7 _)
 | n+1,W,[],c,b,a,Y,_,hW,_,_=>⟨[],c,b,a,Y,by simpa using hW,by simp,by simp [kW],by rw [aY];exact qbB (by simp [yn])⟩
 | n+1,W,y::Q,c,b,a,Y,h100,hW,hQ,hm=>by
  obtain ⟨ly,v⟩:=hQ y (ap ..);rw [aq] at hm;obtain ⟨d,V,g,f,k,j,G,a4,a5⟩:=qew s (iE (sD seen)) seen 0 W Q b a Y (by simp) hW v (by lia);have S:=k.le;rw [ai] at S;obtain ⟨M2,t,r,o,m,E,C,B,A⟩:=Xr w s root n (W++d) (Q++kW d) (iE (.str y)) V g f (by lia) k (λx hx=>by
   rcases aj.mp hx with hx | hx;·obtain ⟨l,hl⟩:=hQ x (ac _ hx);exact ⟨l,aj.mpr (.inl hl)⟩
   ·obtain ⟨e,i,rfl⟩:=ah.mp hx;refine ⟨e.2.2,aj.mpr (.inr ?_)⟩;rw [<-j e i];exact i) (by
   rw [ai,ai,show (kW d).length=d.length by simp [kW]]
   lia)
  refine ⟨d++M2,t,r,o,m,by rw [<-aV]; exact E,λe i=>?_,λx hx p hp z=>?_,?_⟩
  ·rcases aj.mp i with i | i;·exact j e i
   ·exact C e i
  ·rw [<-aV];by_cases q:x=y;·subst q;rw [kI];exact aj.mpr (.inl (G p hp z))
   ·refine B x ?_ p hp z;rcases hx with hx | hx
    ·rcases ae.mp hx with e | hx;·exact absurd e q
     ·exact .inl (aj.mpr (.inl hx))
    ·rw [kI] at hx;rcases aj.mp hx with hx | hx;·exact .inl (aj.mpr (.inr hx))
     ·exact .inr hx
  ·rw [<-aV];refine dO ?_ A;refine qdC (ρ1:=[iE (sD seen),iE (.str root),iE (.dct (wD W)),iE (.lst ((y::Q).map D.str)),c,b,a,Y]) (by
    have:(0:Int) < (Q.length:Int)+1:=by lia
    simp [yn,this]) ?_
   unfold spW;rw [qiO (ρ1:=[iE (sD seen),iE (.str root),iE (.dct (wD W)),iE (.lst (Q.map D.str)),iE (.str y),b,a,Y]) (by simp [qaH])];rw [vg,show ue (qd 0) [iE (sD seen),iE (.str root),iE (.dct (wD W)),iE (.lst (Q.map D.str)),iE (.str y),b,a,Y]=.ok (zL (qo seen),[iE (sD seen),iE (.str root),iE (.dct (wD W)),iE (.lst (Q.map D.str)),iE (.str y),b,a,Y]) from rfl,jr,qiQ];exact a5
theorem qbC (n:seen.length<=6) (s:(LS seen).length<=12) (c:WI seen W) (f:root∉kW W) (m:root∈LS seen):∃ M:Wy,WI seen (W++M)/\(∀ e∈M,e.2.1=root)/\(root,root,[])∈M/\(∀ x∈kW M,∀ p∈seen,(x=p.1\/x=p.2)->oth p x∈kW (W++M))/\ge [sD seen,.str root,.dct (wD W)]=.ok (.non,[.non,.non,.dct (wD (W++M))]):=by
 have h:=c.add f m (r:=root) (l:=[]) .nil (bo _);have S:=h.le;have b:=c.le;have A:=big;obtain ⟨M,u,V,d,y,k,g,o,a4⟩:=Xr (by lia) (by lia) root 20 (W++[(root,root,[])]) [root] iG iG iG iG (by lia) h (λx hx=>⟨[],by rw [au.mp hx]; exact aj.mpr (.inr (au.mpr rfl))⟩) (by simp; lia);rw [aV] at k o a4;refine ⟨[(root,root,[])]++M,k,λe i=>?_,aj.mpr (.inl (au.mpr rfl)),λx hx p hp z=>o x ?_ p hp z,?_⟩
 ·rcases aj.mp i with i | i;·rw [au.mp i]
  ·exact g e i
 ·rw [kI] at hx;rcases aj.mp hx with hx | hx;·exact .inl hx
  ·exact .inr hx
 ·refine qr.trans ?_;unfold Xg;rw [show qt Xf [sD seen,.str root,.dct (wD W)]=[iE (sD seen),iE (.str root),iE (.dct (wD W)),iG,iG,iG,iG,iG] from rfl];have t:=qev (W:=W) (x:=root) (r:=root) (l:=[]) f;rw [show lD []=.lst [] from rfl] at t;have z2:2<=sizeLine:=by lia
  have z1:1<=sizeLine:=by lia
  have a:(wD W).length < sizeLine:=by simp [wD]; lia
  refine (qv (ρ1:=[iE (sD seen),iE (.str root),iE (.dct (wD (W++[(root,root,[])]))),iG,iG,iG,iG,iG]) (by simp [gS,z2,QG,a,t])).trans ?_;refine (qv (ρ1:=[iE (sD seen),iE (.str root),iE (.dct (wD (W++[(root,root,[])]))),iE (.lst [.str root]),iG,iG,iG,iG]) (by simp [z1])).trans ?_;exact (congrArg (Gg [.val,.val,.io]) a4).trans rfl
def CI (seen:List Pr) (W:Wy):Prop:=∀ e∈W,∀ p∈seen,(e.1=p.1\/e.1=p.2)->∃ a∈W,a.1=oth p e.1/\a.2.1=e.2.1
def RI (W:Wy):Prop:=∀ e∈W,(e.2.1,e.2.1,[])∈W
theorem qgk {p:Pr} (h:x=p.1\/x=p.2):oth p (oth p x)=x/\(oth p x=p.1\/oth p x=p.2):=by
 obtain ⟨a,b⟩:=p;unfold oth;simp only [];by_cases q:x=a
 ·subst q;simp only [if_true];by_cases d:b=x;·subst d; simp
  ·simp [d]
 ·have:x=b:=by rcases h with h | h; exact absurd h q; exact h
  subst this;simp [q]
theorem gf:∀ {W:Wy},(kW W).Nodup->∀ {e b:Str×Str×Wk},e∈W->b∈W->e.1=b.1->e=b
 | [],_,e,b,h,_,_=>by cases h
 | a::W,hn,e,b,h,h',q=>by
  have r:=aH.mp (show (a.1::kW W).Nodup from hn);rcases ae.mp h with h1 | h1
  ·rcases ae.mp h' with h2 | h2;·rw [h1,h2]
   ·exact absurd (show a.1∈kW W from ah.mpr ⟨b,h2,by rw [<-q,h1]⟩) r.1
  ·rcases ae.mp h' with h2 | h2;·exact absurd (show a.1∈kW W from ah.mpr ⟨e,h1,by rw [q,h2]⟩) r.1
   ·exact gf r.2 h1 h2 q
abbrev woB:qR:=(sIf (qL (d2 zJ (qd 2) (qd 1))) (ki (ql [.vl,.vl,.sl 1] ge (qc (qd 0) (qc (qd 2) (kj qx))))) jk)
def MI (W:Wy):Prop:=∀ e∈W,leS e.2.1 e.1
theorem qdD (x:Str):leS x x:=(VO x x).elim id id
theorem Qw (v:seen.length<=6) (u:(LS seen).length<=12):∀ (xs:List Str) (W:Wy) (x:Option D),(∀ x∈xs,x∈LS seen)->xs.Pairwise leS->(∀ z∈LS seen,z∈kW W\/z∈xs)->WI seen W->CI seen W->RI W->MI W ->∃ (M:Wy) (n:Option D),WI seen (W++M)/\CI seen (W++M)/\RI (W++M)/\MI (W++M)/\(∀ x∈xs,x∈kW (W++M))/\jR (gNm 2) woB (xs.map D.str) [iE (sD seen),iE (.dct (wD W)),x]=.ok (.nx,[iE (sD seen),iE (.dct (wD (W++M))),n])
 | [],W,x,_,_,_,hW,hC,hR,hM=>⟨[],x,by simpa using hW,by simpa using hC,by simpa using hR,by simpa using hM,by simp,by simp [jR]⟩
 | y::xs,W,x,hx,hso,hal,hW,hC,hR,hM=>by
  have b:=bH.mp hso;have k:=Xq W y;by_cases q:y∈kW W
  ·obtain ⟨M,n,t,s,r,o,a4,a5⟩:=Qw v u xs W (iE (.str y)) (λz a=>hx z (ac _ a)) b.2 (λz a=>by
    rcases hal z a with h | h;·exact .inl h
    ·rcases ae.mp h with rfl | h;·exact .inl q
     ·exact .inr h) hW hC hR hM
   refine ⟨M,n,t,s,r,o,λz a=>?_,?_⟩
   ·rcases ae.mp a with rfl | a;·rw [kI]; exact aj.mpr (.inl q)
    ·exact a4 z a
   ·refine dO (xA (ρ1:=[iE (sD seen),iE (.dct (wD W)),iE (.str y)]) rfl ?_) a5;rw [Ad q] at k;simp [k]
  ·obtain ⟨j,g,m,G,L,K⟩:=qbC v u hW q (hx y (ap ..));have B:RI (W++j):=λe i=>by
    rcases aj.mp i with i | i;·exact aj.mpr (.inl (hR e i))
    ·rw [m e i];exact aj.mpr (.inr G)
   have E:CI seen (W++j):=λe i p hp a=>by
    rcases aj.mp i with i | i;·obtain ⟨f,h1,h2⟩:=hC e i p hp a;exact ⟨f,aj.mpr (.inl h1),h2⟩
    ·have J:=L e.1 (ah.mpr ⟨e,i,rfl⟩) p hp a;obtain ⟨f,h1,h2⟩:=ah.mp J;refine ⟨f,h1,h2,?_⟩;rcases aj.mp h1 with c | c
     ·exfalso;obtain ⟨o1,o2⟩:=qgk a;rw [<-h2] at o1 o2;obtain ⟨l,I,H,_⟩:=hC f c p hp o2;rw [o1] at H;have:=gf g.nd (aj.mpr (.inl I)) (aj.mpr (.inr i)) H;subst this;have d:=g.nd;rw [kI] at d;exact (cC.mp d).2.2 l.1 (ah.mpr ⟨l,I,rfl⟩) l.1 (ah.mpr ⟨l,i,rfl⟩) rfl
     ·rw [m f c,m e i]
   have C:MI (W++j):=λe i=>by
    rcases aj.mp i with i | i;·exact hM e i
    ·rw [m e i];have d:=g.nd;rw [kI] at d;have w:e.1∉kW W:=λz=>(cC.mp d).2.2 e.1 z e.1 (ah.mpr ⟨e,i,rfl⟩) rfl;have A:=g.sub e.1 (by rw [kI]; exact aj.mpr (.inr (ah.mpr ⟨e,i,rfl⟩)));rcases hal e.1 A with h | h;·exact absurd h w
     ·rcases ae.mp h with h | h;·rw [h]; exact qdD _
      ·exact b.1 e.1 h
   obtain ⟨M2,n,t,s,r,o,a4,a5⟩:=Qw v u xs (W++j) (iE (.str y)) (λz a=>hx z (ac _ a)) b.2 (λz a=>by
    rcases hal z a with h | h;·exact .inl (by rw [kI]; exact aj.mpr (.inl h))
    ·rcases ae.mp h with rfl | h;·exact .inl (by rw [kI]; exact aj.mpr (.inr (ah.mpr ⟨_,G,rfl⟩)))
     ·exact .inr h) g E B C
   rw [aV] at t s r o a4 a5;refine ⟨j++M2,n,t,s,r,o,λz a=>?_,?_⟩
   ·rcases ae.mp a with rfl | a;·rw [kI,kI];exact aj.mpr (.inr (aj.mpr (.inl (ah.mpr ⟨_,G,rfl⟩))))
    ·exact a4 z a
   ·refine dO (xA (ρ1:=[iE (sD seen),iE (.dct (wD W)),iE (.str y)]) rfl ?_) a5;rw [Ac q] at k;simp [k,K]
theorem ZY (d:seen.length<=6) (c:(LS seen).length<=12):∃ W:Wy,WI seen W/\CI seen W/\RI W/\MI W/\(∀ x∈LS seen,x∈kW W)/\uJ [sD seen]=.ok (.dct (wD W),[.non]):=by obtain ⟨W,n,k,g,a,o,a4,a5⟩:=Qw d c (LS seen) [] iG (λ_ h=>h) (by unfold LS; exact kf _) (λz b=>.inr b) ⟨by simp [kW],by simp [kW],by simp,by simp⟩ (λe i=>by cases i) (λe i=>by cases i) (λe i=>by cases i);rw [bW] at k g a o a4 a5;refine ⟨W,k,g,a,o,a4,?_⟩;have u:=xz (l:=seen) (by lia);refine qr.trans ?_;unfold Wr;rw [show qt Wq [sD seen]=[iE (sD seen),iG,iG] from rfl];refine (qv (ρ1:=[iE (sD seen),iE (.dct []),iG]) (by simp)).trans ?_;refine (qv (ρ1:=[iE (sD seen),iE (.dct (wD W)),n]) (by rw [vg,show jl (ql [.vl] jM (qc (qd 0) qx)) [iE (sD seen),iE (.dct []),iG]=.ok ((LS seen).map D.str,[iE (sD seen),iE (.dct []),iG]) by simp [u,jg],jr];exact a5)).trans ?_;simp
noncomputable def qV (W:Wy) (x:Str):Str×Wk:=((W.find? λe=>decide (e.1=x)).map (·.2)).getD (⟨#[]⟩,[])
theorem jA (h:x∈kW W):(x,qV W x)∈W:=by
 unfold qV;cases q:W.find? λe=>decide (e.1=x) with
 | none=>obtain ⟨e,i,rfl⟩:=ah.mp h;have:=bP.mp q e i;simp at this
 | some e=>
  have h1:=bv q;have h2:e.1=x:=by simpa using hV q
  rw [<-h2];exact h1
theorem Yb (n:(kW W).Nodup) (h:x∈kW W):ixD (.dct (wD W)) (.str x)=.ok (.tup [.str (qV W x).1,lD (qV W x).2]):=qgh n (jA h)
theorem qlH {b:D}:ixD (.tup [a,b]) (.int 0)=.ok a:=by simp [ixD,at0]
theorem qlI {b:D}:ixD (.tup [a,b]) (.int 1)=.ok b:=by simp [ixD,at1]
theorem qgl (a b:Wk):inL a++inL b=inL (a++b):=by simp [inL]
theorem qbD (a:Wk):(inL a).length=a.length:=by simp [inL]
theorem qiR (l:Wk):xc (lD l)=.ok (lD l.reverse):=by simp [xc,inL]
theorem qbE {a b:Wk} (h:a.length+b.length<=2000):vz (lD a) (lD b)=.ok (lD (a++b)):=by
 have z:(inL a).length+(inL b).length<=sizeLine:=by rw [qbD,qbD]; exact jb h
 show (if (inL a).length+(inL b).length<=sizeLine then Out.ok (D.lst (inL a++inL b)) else .bad)=_;rw [Aa z,qgl]
abbrev Ci:=Str×Wk
noncomputable def cd (c:Ci):D:=.tup [.str c.1,lD c.2]
noncomputable def cD (C:List Ci):List D:=C.map cd
noncomputable def Yc (W:Wy) (p:Pr) (k:Nat):Ci:=((qV W p.1).1,(qV W p.1).2++[k]++(qV W p.2).2.reverse)
noncomputable def CL (W:Wy) (k0:Nat) (rest:List Pr):List Ci:=(rest.zipIdx k0).map λp=>Yc W p.1 p.2
abbrev ciB:qR:=(qN (jx 5 (d1 xc (d2 ixD (d2 ixD (qd 1) (d2 ixD (qd 4) (dC (.int 1)))) (dC (.int 1)))))
  (ki (xE 2 QE (yP (qc (d2 ixD (d2 ixD (qd 1) (d2 ixD (qd 4) (dC (.int 0)))) (dC (.int 0))) (qc (d2 vz (d2 vz (d2 ixD (d2 ixD (qd 1) (d2 ixD (qd 4) (dC (.int 0)))) (dC (.int 1))) (yd (qc (qd 3) qx))) (qd 5)) qx))))))
theorem qgm (e:(LS seen).length<=20) (h:WI seen W) {p:Pr} (h1:p.1∈kW W) (h2:p.2∈kW W) {k:Nat} {acc:List D} (i:acc.length < 1000) (s x:Option D):∃ V,ciB [s,iE (.dct (wD W)),iE (.lst acc),iE (.int (k:Nat)),iE (pD p),x]=.ok (.nx,[s,iE (.dct (wD W)),iE (.lst (acc++[cd (Yc W p k)])),iE (.int (k:Nat)),iE (pD p),V]):=by
 have i1:=Yb h.nd h1;have i2:=Yb h.nd h2;have f:=h.len _ (jA h1);have d:=h.len _ (jA h2);have S:=h.le;have A:=big;simp only [] at f d;have z1:1<=sizeLine:=by lia
 have z2:2<=sizeLine:=by lia
 have l:acc.length < sizeLine:=by lia
 have c:=qbE (a:=(qV W p.1).2) (b:=[k]) (by simp; lia);have g:=qbE (a:=(qV W p.1).2++[k]) (b:=(qV W p.2).2.reverse) (by simp; lia);have c:vz (lD (qV W p.1).2) (.lst [.int (k:Nat)])=.ok (lD ((qV W p.1).2++[k])):=c;have r2:=qiR (qV W p.2).2;refine ⟨iE (lD (qV W p.2).2.reverse),?_⟩;unfold ciB Yc cd;rw [qiO (ρ1:=[s,iE (.dct (wD W)),iE (.lst acc),iE (.int (k:Nat)),iE (pD p),iE (lD (qV W p.2).2.reverse)]) (by simp [qlI,i2,r2])];simp [wQ,qlH,qlI,i1,c,g,z1,z2,QE,l]
theorem qbF (b:(LS seen).length<=20) (d:WI seen W) (s:Option D):∀ (rest:List Pr) (k0:Nat) (acc:List Ci) (x c a:Option D),(∀ p∈rest,p.1∈kW W/\p.2∈kW W)->acc.length+rest.length<=500 ->∃ y u V,jR (jo 2 (qu (gNm 3) (qu (gNm 4) jn))) ciB (en k0 rest) [s,iE (.dct (wD W)),iE (.lst (cD acc)),x,c,a]=.ok (.nx,[s,iE (.dct (wD W)),iE (.lst (cD (acc++CL W k0 rest))),y,u,V])
 | [],k0,acc,x,c,a,_,_=>⟨x,c,a,by simp [en,CL,jR]⟩
 | p::rest,k0,acc,x,c,a,h,hl=>by
  rw [aq] at hl;obtain ⟨h1,h2⟩:=h p (ap ..);obtain ⟨r5,e⟩:=qgm b d h1 h2 (k:=k0) (acc:=cD acc) (by simp [cD]; lia) s a;obtain ⟨y,u,V,j⟩:=qbF b d s rest (k0+1) (acc++[Yc W p k0]) (iE (.int (k0:Nat))) (iE (pD p)) r5 (λq hq=>h q (ac _ hq)) (by rw [ai]; simp; lia);refine ⟨y,u,V,?_⟩;have e0:en k0 (p::rest)=.tup [.int (k0:Nat),pD p]::en (k0+1) rest:=by simp [en,dE]
  have e1:acc++CL W k0 (p::rest)=(acc++[Yc W p k0])++CL W (k0+1) rest:=by simp [CL,dE]
  rw [e0,e1];refine dO (xA rfl e) ?_;rw [show cD acc++[cd (Yc W p k0)]=cD (acc++[Yc W p k0]) by simp [cD]];exact j
theorem wc (g:∀ x∈LS seen,x∈kW W):∀ p∈seen,p.1∈kW W/\p.2∈kW W:=λp hp=>⟨g _ (ko.mpr ⟨p,hp,.inl rfl⟩),g _ (ko.mpr ⟨p,hp,.inr rfl⟩)⟩
theorem Jy (n:seen.length<=6) (c:(LS seen).length<=20) (h:WI seen W) (g:∀ x∈LS seen,x∈kW W):vI [sD seen,.dct (wD W)]=.ok (.lst (cD (CL W 0 seen)),[.non,.non]):=by obtain ⟨y,u,V,e⟩:=qbF c h (iE (sD seen)) seen 0 [] iG iG iG (wc g) (by simp; lia);rw [bW] at e;refine qr.trans ?_;unfold zD;rw [show qt zB [sD seen,.dct (wD W)]=[iE (sD seen),iE (.dct (wD W)),iG,iG,iG,iG] from rfl];refine (qv (ρ1:=[iE (sD seen),iE (.dct (wD W)),iE (.lst []),iG,iG,iG]) (by simp)).trans ?_;refine (qv (ρ1:=[iE (sD seen),iE (.dct (wD W)),iE (.lst (cD (CL W 0 seen))),y,u,V]) (by rw [vg,show ue (qd 0) [iE (sD seen),iE (.dct (wD W)),iE (.lst []),iG,iG,iG]=.ok (zL (qo seen),[iE (sD seen),iE (.dct (wD W)),iE (.lst []),iG,iG,iG]) from rfl,jr,qiQ];exact e)).trans ?_;simp
theorem qiS (a:WI seen W) (g:∀ x∈LS seen,x∈kW W):∀ c∈CL W 0 seen,∀ k∈c.2,k < seen.length:=by
 intro c d k h;obtain ⟨q,hq,rfl⟩:=ah.mp d;obtain ⟨p,j⟩:=q;have G:=List.mem_zipIdx hq;have hp:p∈seen:=by rw [G.2.2]; exact bt _
 obtain ⟨h1,h2⟩:=wc g p hp;unfold Yc at h;simp only [aj,List.mem_reverse,au] at h;rcases h with (h | h) | h;·exact (a.path _ (jA h1)).lt k h
 ·have:=G.2.1;omega
 ·exact (a.path _ (jA h2)).lt k h
noncomputable def fD (F:List Ci):List (Key×D):=F.map λc=>(.inr c.1,lD c.2)
noncomputable def kF (F:List Ci):List Str:=F.map (·.1)
theorem qex (F:List Ci) (x:Str):kJ (fD F) (.inr x)=decide (x∈kF F):=by
 unfold kJ fD kF
 induction F with
 | nil=>rfl
 | cons e F j=>
  rw [aC,b7,j];by_cases h:e.1=x;·subst h; simp
  ·have h2:¬(aU e.1:Key)=aU x:=λz=>h (aU.inj z);have i:¬x=e.1:=λz=>h z.symm;simp [h2,i]
variable {F:List Ci}
theorem qiT {l:Wk} (h:x∉kF F):vX (fD F) (.inr x) (lD l)=fD (F++[(x,l)]):=by
 unfold vX;have h1:((fD F).any λp=>decide (p.1=(aU x:Key)))=false:=by have:=qex F x;unfold kJ at this;rw [this];exact Ac h
 rw [h1,Ab bF];unfold fD;rw [bV];rfl
noncomputable def yb (F:List Ci) (x:Str):Wk:=((F.find? λc=>decide (c.1=x)).map (·.2)).getD []
theorem Yd:∀ (F:List Ci) (x:Str),(fD F).find? (λkv=>decide (kv.1=(aU x:Key)))=(F.find? λc=>decide (c.1=x)).map λc=>(aU c.1,lD c.2)
 | [],x=>rfl
 | c::F,x=>by
  have j:=Yd F x;unfold fD at j ⊢;rw [aC];by_cases h:c.1=x;·rw [bx (by simp [h]),bx (by simp [h])];rfl
  ·have h2:¬(aU c.1:Key)=aU x:=λz=>h (aU.inj z);rw [bg (by simpa using h2),bg (by simpa using h),j]
theorem qk3 (h:x∈kF F):ixD (.dct (fD F)) (.str x)=.ok (lD (yb F x)):=by
 unfold ixD yb;simp only [Yd];cases q:F.find? λc=>decide (c.1=x) with
 | none=>obtain ⟨e,i,rfl⟩:=ah.mp h;have:=bP.mp q e i;simp at this
 | some c=>rfl
theorem qiU (F:List Ci) (x:Str):qj2 (fD F) (.inr x) (.lst [])=lD (yb F x):=by unfold qj2 yb;rw [Yd];cases F.find? λc=>decide (c.1=x) <;> rfl
noncomputable def FO:List Ci->List Ci->List Ci
 | F,[]=>F
 | F,c::C=>FO (if odd c.2=iJ/\c.1∉kF F then F++[c] else F) C
theorem Qx:∀ (C F:List Ci),(∀ c∈FO F C,c∈F\/c∈C)/\(∀ x∈kF F,x∈kF (FO F C))/\(∀ c∈C,odd c.2=iJ->c.1∈kF (FO F C))/\(FO F C).length<=F.length+C.length
 | [],F=>⟨λc h=>.inl h,λx h=>h,by simp,by simp [FO]⟩
 | c::C,F=>by
  unfold FO;by_cases q:odd c.2=iJ/\c.1∉kF F
  ·rw [Aa q];obtain ⟨a,b,d,e⟩:=Qx C (F++[c]);refine ⟨λy D=>?_,λx hx=>b x (by simp [kF] at hx ⊢; exact .inl hx),λy D l=>?_,by rw [ai] at e; simp at e ⊢; lia⟩
   ·rcases a y D with h | h
    ·rcases aj.mp h with h | h;·exact .inl h
     ·exact .inr (by rw [au.mp h]; exact ap ..)
    ·exact .inr (ac _ h)
   ·rcases ae.mp D with rfl | D;·exact b _ (by simp [kF])
    ·exact d y D l
  ·rw [Ab q];obtain ⟨a,b,d,e⟩:=Qx C F;refine ⟨λy D=>?_,b,λy D l=>?_,by simp at e ⊢; lia⟩
   ·rcases a y D with h | h;·exact .inl h
    ·exact .inr (ac _ h)
   ·rcases ae.mp D with rfl | D;·exact b _ (aZ λw=>q ⟨l,w⟩)
    ·exact d y D l
abbrev foB:qR:=(sIf (qd7 (we (ql [.vl] wE (qc (qd 3) qx))) (qL (d2 zJ (qd 2) (qd 1)))) (gS 1 (qd 3) (qd 2)) jk)
theorem qiV (F:List Ci) (x:Str):zJ (.str x) (.dct (fD F))=.ok (.bl (!decide (x∈kF F))):=by unfold zJ;simp only [QG];rw [qex]
theorem Ye (a:Option D):∀ (C F:List Ci) (f e:Option D),F.length+C.length<=500->∃ b y,jR (jo 2 (qu (gNm 2) (qu (gNm 3) jn))) foB (cD C) [a,iE (.dct (fD F)),f,e]=.ok (.nx,[a,iE (.dct (fD (FO F C))),b,y])
 | [],F,f,e,_=>⟨f,e,rfl⟩
 | c::C,F,f,e,hl=>by
  rw [aq] at hl;have h1:=Qv c.2;have h2:=qiV F c.1;have i:(fD F).length < sizeLine:=aI (by simp [fD]; lia) big;unfold FO;by_cases q:odd c.2=iJ/\c.1∉kF F;·rw [Aa q];obtain ⟨b,y,j⟩:=Ye a C (F++[c]) (iE (.str c.1)) (iE (lD c.2)) (by rw [ai]; simp; lia);refine ⟨b,y,dO (xA (d:=cd c) (ρ1:=[a,iE (.dct (fD F)),iE (.str c.1),iE (lD c.2)]) rfl ?_) j⟩;rw [q.1] at h1;rw [Ac q.2] at h2;have hp:=qiT (F:=F) (x:=c.1) (l:=c.2) q.2;simp [h1,h2,gS,QG,i,hp]
  ·rw [Ab q];obtain ⟨b,y,j⟩:=Ye a C F (iE (.str c.1)) (iE (lD c.2)) (by lia);refine ⟨b,y,dO (xA (d:=cd c) (ρ1:=[a,iE (.dct (fD F)),iE (.str c.1),iE (lD c.2)]) rfl ?_) j⟩;cases g:odd c.2 with
   | false=>rw [g] at h1;simp [h1]
   | true=>rw [g] at h1;have:c.1∈kF F:=aZ λw=>q ⟨g,w⟩;rw [Ad this] at h2;simp [h1,h2]
theorem Xu (C:List Ci) (hl:C.length<=400):wG [.lst (cD C)]=.ok (.dct (fD (FO [] C)),[.non]):=by obtain ⟨b,y,e⟩:=Ye (iE (.lst (cD C))) C [] iG iG (by simp; lia);refine qr.trans ?_;unfold Ql;rw [show qt Qk [.lst (cD C)]=[iE (.lst (cD C)),iG,iG,iG] from rfl];refine (qv (ρ1:=[iE (.lst (cD C)),iE (.dct []),iG,iG]) (by simp)).trans ?_;refine (qv (ρ1:=[iE (.lst (cD C)),iE (.dct (fD (FO [] C))),b,y]) (by rw [vg,show jl (qd 0) [iE (.lst (cD C)),iE (.dct []),iG,iG]=.ok (cD C,[iE (.lst (cD C)),iE (.dct []),iG,iG]) from rfl,jr];exact e)).trans ?_;simp
noncomputable def JN (F C:List Ci):List Ci:=(C.filter λc=>odd c.2).map λc=>(c.1,yb F c.1++c.2)
abbrev joT:ua:=we (ql [.vl] wE (qc (qd 1) qx))
abbrev joE:qY:=yP (qc (qd 0) (qc (d2 vz (d2 ixD (qd 2) (qd 0)) (qd 1)) qx))
theorem qbG (E:∀ c∈F,c.2.length<=100):∀ (C:List Ci) (x y:Option D),(∀ c∈C,c.2.length<=100)->(∀ c∈C,odd c.2=iJ->c.1∈kF F) ->∃ n s,jG (jo 2 (qu (gNm 0) (qu (gNm 1) jn))) joT joE (cD C) [x,y,iE (.dct (fD F))]=.ok (cD (JN F C),[n,s,iE (.dct (fD F))])
 | [],x,y,_,_=>⟨x,y,rfl⟩
 | c::C,x,y,hl,hk=>by
  obtain ⟨n,s,j⟩:=qbG E C (iE (.str c.1)) (iE (lD c.2)) (λd hd=>hl d (ac _ hd)) λd hd=>hk d (ac _ hd);refine ⟨n,s,?_⟩;have h1:=Qv c.2;have z2:2<=sizeLine:=jb (by lia);have e0:cD (c::C)=.tup [.str c.1,lD c.2]::cD C:=rfl;cases q:odd c.2 with
  | false=>
   rw [q] at h1;have e1:JN F (c::C)=JN F C:=by simp [JN,q]
   rw [e0,e1];simp [jG,yV,jo,qu,jn,h1,j]
  | true=>
   rw [q] at h1;have e1:JN F (c::C)=(c.1,yb F c.1++c.2)::JN F C:=by simp [JN,q]
   have h:=hk c (ap ..) q;have i1:=qk3 h;have hg:(yb F c.1).length<=100:=by
    unfold yb;cases w:F.find? λd=>decide (d.1=c.1) with
    | none=>simp
    | some d=>exact E d (bv w)
   have l:=hl c (ap ..);have k:=qbE (a:=yb F c.1) (b:=c.2) (by lia);rw [e0,e1];simp [jG,yV,jo,qu,jn,h1,i1,k,z2,j];simp [cD,cd]
theorem Xv {nt:Nat} {fi:wT} {ft:ua} {fe:qY} {es:List D} (h:fi ρ=.ok (ds,ρ1)) (hl:ds.length<=sizeLine) (d:jG g ft fe ds (kE nt cap ρ1)=.ok (es,ρ2)):qI own nt cap fi g ft fe ρ=.ok (.lst es,ka own ρ2 nt cap ρ1):=by unfold qI;rw [h];simp only [jr];rw [Aa hl,d];rfl
abbrev baB:qR:=(sIf (we (ql [.vl,.vl,.vl] Xe (qc (qd 7) (qc (qd 1) (qc (qd 2) qx))))) (jt (yP (qc (qd 6) (qc (qd 7) qx)))) jk)
theorem qbH (e:qg2 nd ns) (f:1<=r) (a b c d:Option D):∀ (L:List Ci) (x y:Option D),(∀ w∈L,∀ k∈w.2,k < ns.length)->∃ ρ,jR (jo 2 (qu (gNm 6) (qu (gNm 7) jn))) baB (cD L) [a,iE (.int r),iE nd,b,c,d,x,y]=.ok (match L.find? λw=>ZX w.2 r ns with | some w=>.rt (cd w) | none=>.nx,ρ)
 | [],x,y,_=>⟨_,rfl⟩
 | w::L,x,y,h=>by
  have h1:=qgg e (h w (ap ..)) f;have z2:2<=sizeLine:=jb (by lia);cases q:ZX w.2 r ns with
  | true=>rw [q] at h1;refine ⟨[a,iE (.int r),iE nd,b,c,d,iE (.str w.1),iE (lD w.2)],?_⟩;rw [bx (by simpa using q)];exact qiP (d:=cd w) (ρ1:=[a,iE (.int r),iE nd,b,c,d,iE (.str w.1),iE (lD w.2)]) rfl (by simp [h1,z2,cd])
  | false=>rw [q] at h1;obtain ⟨ρ,j⟩:=qbH e f a b c d L (iE (.str w.1)) (iE (lD w.2)) λv g=>h v (ac _ g);refine ⟨ρ,?_⟩;rw [bg (by simpa using q)];exact dO (xA (d:=cd w) (ρ1:=[a,iE (.int r),iE nd,b,c,d,iE (.str w.1),iE (lD w.2)]) rfl (by simp [h1])) j
noncomputable def BO (W:Wy) (seen:List Pr) (r:Int) (ns:List Int):Option Ci:=(CL W 0 seen++JN (FO [] (CL W 0 seen)) (CL W 0 seen)).find? λw=>ZX w.2 r ns
theorem qiW (s:(LS seen).length<=20) (h:WI seen W) (g:∀ x∈LS seen,x∈kW W):∀ c∈CL W 0 seen,c.2.length<=100:=by
 intro c d;obtain ⟨q,hq,rfl⟩:=ah.mp d;obtain ⟨p,j⟩:=q;have G:=List.mem_zipIdx hq;have hp:p∈seen:=by rw [G.2.2]; exact bt _
 obtain ⟨h1,h2⟩:=wc g p hp;have f:=h.len _ (jA h1);have l:=h.len _ (jA h2);have S:=h.le;simp only [] at f l;unfold Yc;simp
 lia
theorem qbI (W:Wy) (k0:Nat) (seen:List Pr):(CL W k0 seen).length=seen.length:=by simp [CL]
structure Sn (seen:List Pr) (W:Wy):Prop where
 n:seen.length<=6
 s:(LS seen).length<=12
 w:WI seen W
 C:CI seen W
 R:RI W
 a:∀ x∈LS seen,x∈kW W
 e:uJ [sD seen]=.ok (.dct (wD W),[.non])
 z:∀ x∈LS seen,x.length<=2000
 m:MI W
theorem qbJ (S:Sn seen W) (m:qg2 nd ns) (A:ns.length=seen.length) (B:1<=r):Kw [sD seen,.int r,nd]=.ok (match BO W seen r ns with | some w=>cd w | none=>.non,[.non,.non,.non]):=by
 have u:(LS seen).length<=20:=by have:=S.s; lia
 have h1:=Jy S.n u S.w S.a;have o:=qbI W 0 seen;have J:=S.n;have h2:=Xu (CL W 0 seen) (by lia);have b:=qiW u S.w S.a;have t:=qiS S.w S.a;obtain ⟨f1,_,p,f4⟩:=Qx (CL W 0 seen) [];have E:∀ c∈FO [] (CL W 0 seen),c∈CL W 0 seen:=λc i=>by
  rcases f1 c i with h | h;·cases h
  ·exact h
 unfold BO;generalize hC:CL W 0 seen=C at h1 h2 o b t p E;generalize G:FO [] C=F at h2 p E;obtain ⟨I,H,y⟩:=qbG (F:=F) (λc i=>b c (E c i)) C iG iG b p;refine qr.trans ?_;unfold Xi;rw [show qt Xh [sD seen,.int r,nd]=[iE (sD seen),iE (.int r),iE (nd),iG,iG,iG,iG,iG] from rfl];have j:=S.e;refine (qv (ρ1:=[iE (sD seen),iE (.int r),iE (nd),iE (.lst (cD C)),iG,iG,iG,iG]) (by simp [j,h1])).trans ?_;refine (qv (ρ1:=[iE (sD seen),iE (.int r),iE (nd),iE (.lst (cD C)),iE (.dct (fD F)),iG,iG,iG]) (by simp [h2])).trans ?_;have x:=Xv (own:=[]) (cap:=[4]) (nt:=2) (fi:=jl (qd 3)) (g:=jo 2 (qu (gNm 0) (qu (gNm 1) jn))) (ft:=joT) (fe:=joE) (ρ:=[iE (sD seen),iE (.int r),iE (nd),iE (.lst (cD C)),iE (.dct (fD F)),iG,iG,iG]) (ρ1:=[iE (sD seen),iE (.int r),iE (nd),iE (.lst (cD C)),iE (.dct (fD F)),iG,iG,iG]) (ds:=cD C) rfl (by simp [cD]; exact jb (by lia)) y;refine (qv (ρ1:=[iE (sD seen),iE (.int r),iE (nd),iE (.lst (cD C)),iE (.dct (fD F)),iE (.lst (cD (JN F C))),iG,iG]) (by rw [wm,x]; rfl)).trans ?_;have D:(JN F C).length<=6:=by
  unfold JN;rw [af];have:=c9 (λc:Ci=>odd c.2) C
  lia
 have z:(cD C).length+(cD (JN F C)).length<=sizeLine:=by simp [cD]; exact jb (by lia)
 have l:∀ w∈C++JN F C,∀ k∈w.2,k < ns.length:=λw j k v=>by
  rw [A];rcases aj.mp j with h | h;·exact t w h k v
  ·obtain ⟨c,i,rfl⟩:=ah.mp h;have i:=(br.mp i).1;rcases aj.mp v with h | h
   ·unfold yb at h;cases w:F.find? λd=>decide (d.1=c.1) with
    | none=>rw [w] at h; cases h
    | some d=>rw [w] at h;exact t d (E d (bv w)) k h
   ·exact t c i k h
 obtain ⟨ρ,e⟩:=qbH m B (iE (sD seen)) (iE (.lst (cD C))) (iE (.dct (fD F))) (iE (.lst (cD (JN F C)))) (C++JN F C) iG iG l;have f:zI (jl (d2 vz (qd 3) (qd 5))) (jo 2 (qu (gNm 6) (qu (gNm 7) jn))) baB [iE (sD seen),iE (.int r),iE (nd),iE (.lst (cD C)),iE (.dct (fD F)),iE (.lst (cD (JN F C))),iG,iG]=jR (jo 2 (qu (gNm 6) (qu (gNm 7) jn))) baB (cD (C++JN F C)) [iE (sD seen),iE (.int r),iE (nd),iE (.lst (cD C)),iE (.dct (fD F)),iE (.lst (cD (JN F C))),iG,iG]:=by rw [vg,show jl (d2 vz (qd 3) (qd 5)) [iE (sD seen),iE (.int r),iE (nd),iE (.lst (cD C)),iE (.dct (fD F)),iE (.lst (cD (JN F C))),iG,iG]=.ok (cD (C++JN F C),[iE (sD seen),iE (.int r),iE (nd),iE (.lst (cD C)),iE (.dct (fD F)),iE (.lst (cD (JN F C))),iG,iG]) by simp [z,jg];simp [cD]];rfl
 cases q:(C++JN F C).find? λw=>ZX w.2 r ns with
 | some w=>rw [q] at e;rw [gL,f.trans e];rfl
 | none=>rw [q] at e;refine (qv (f.trans e)).trans ?_;rfl
theorem Xw (w:qX ws) (hl:JD p q):vj [Wd ws,Ld p q]=.ok (sD (qy ws p q),[.non,.non]):=xy w hl
def kq (n:Nat) (r:Int) (ns:List Int):Prop:=ns.length=n/\∀ i∈ns,0<=i/\i < r
theorem KL (h:kq n r ns) (b:n<=50):uE [nD ns,.int (n:Nat),.int r]=.ok (.bl iJ,[.non,.non,.non]):=by
 have ht:=qiG (d:=nD ns) trivial;have e:=vJ (cap:=[2]) (fi:=jl (qd 0)) (ρ:=[iE (nD ns),iE (.int (n:Nat)),iE (.int r)]) (ρ1:=[iE (nD ns),iE (.int (n:Nat)),iE (.int r)]) (ds:=ns.map D.int) (fe:=ql [.vl,.vl,.vl] jK (qc (qd 0) (qc (dC (.int 0)) (qc (d2 qce (qd 1) (dC (.int 1))) qx)))) (λd=>.bl (UY 0 (r - 1) d)) (by simp [jg]) (by rw [af,h.1]; exact jb (by lia)) (λd hd=>by obtain ⟨i,hi,rfl⟩:=ah.mp hd;have h1:=kT (d:=.int i) trivial 0 (r - 1);simp [yn,h1]);have g:=xx (UY 0 (r - 1)) (ns.map D.int);have c:(ns.map D.int).all (UY 0 (r - 1))=true:=by
  rw [aJ];intro d hd;obtain ⟨i,hi,rfl⟩:=ah.mp hd;have:=h.2 i hi;simp [UY]
  lia
 rw [c] at g;have a:(ns.map D.int).length=n:=by rw [af,h.1]
 refine qr.trans ?_;simp [-aR,zy,qt,ht,qgf,neD,eqN,eqS,h.1,e,g]
theorem zT (h:kq n r ns) (a:n<=50):vp [nD ns,.int (n:Nat),.int r]=.ok (.non,[.non,.non,.non]):=by have h1:=KL h a;refine qr.trans ?_;simp [uF,qt,h1]
theorem qgn (w:qX ws) (hl:JD p q) (a:1<=r) (h1:r<=99) (n:kq ws.length r ns):uH [Wd ws,Ld p q,.int r,nD ns]=.ok (sD (qy ws p q),[.non,.non,.non,.non]):=by have e1:=Xw w hl;have i:=KK (d:=.int r) trivial;rw [Aa (by simp [UY]; exact ⟨a,h1⟩)] at i;have E:=zT n (by have:=w.2.1; lia);refine qr.trans ?_;simp [zA,qt,e1,i,E]
theorem qiX (w:qX ws) (p q:Int):∃ W,Sn (qy ws p q) W:=by
 have h1:(qy ws p q).length<=6:=by simp [qy]; exact w.2.1
 have h2:=qes w p q;obtain ⟨W,a,b,c,m,d,e⟩:=ZY h1 h2;exact ⟨W,h1,h2,a,b,c,d,e,λx hx=>by
  obtain ⟨k,_,rfl⟩:=qk2 w p q x hx;show 1<=2000
  lia,m⟩
theorem qiY (h:qX ws) (hl:JD p q) (a:1<=r) (h1:r<=99) (n:kq ws.length r ns) (S:Sn (qy ws p q) W):qf0 [Wd ws,Ld p q,.int r,nD ns]=.ok (match BO W (qy ws p q) r ns with | some w=>cd w | none=>.non,[.non,.non,.non,.non]):=by have e1:=qgn h hl a h1 n;have i:=qbJ S (qet ns) (by rw [n.1]; simp [qy]) a;refine qr.trans ?_;simp [qit,qt,e1,i]
noncomputable def xB (t r:Int):Int:=if t % r % 2=0 then t % r / 2 else (t % r+r) / 2
theorem qgo (t:Int) (f:1<=r):qbc [.int t,.int r]=.ok (.int (xB t r),[.non,.non]):=by
 have a:0 < r:=by lia
 have d:∀ i,qgV i 2:=λi=>⟨by lia,by lia⟩
 unfold xB;refine qr.trans ?_;by_cases q:t % r % 2=0 <;> simp [qen,qt,yG,yn,a,eqD,eqN,eqS,JJ,d,q]
noncomputable def rW (l:Wk) (r:Int) (ns:List Int):List Int:=if l=[] then (aE r.toNat).map λ(j:Nat)=>(j:Int) else if r % 2=0 then [xB (qK ns 0 l) r,xB (qK ns 0 l) r+r / 2] else [xB (qK ns 0 l) r]
abbrev iD (xs:List Int):D:=.lst (xs.map D.int)
theorem QP {l:Wk} (h:∀ k∈l,k < ns.length) (f:1<=r) (g:r<=99):kS [lD l,.int r,nD ns]=.ok (iD (rW l r ns),[.non,.non,.non]):=by
 have z2:2<=sizeLine:=jb (by lia);have z1:1<=sizeLine:=jb (by lia);have d:∀ i,qgV i 2:=λi=>⟨by lia,by lia⟩
 refine qr.trans ?_;unfold rW;cases l with
 | nil=>
  have c:qej 0 r/\r - 0<=1000000:=⟨⟨⟨by lia,by lia⟩,by lia,by lia⟩,by lia⟩
  have e:kP (.int r)=.ok (.lst ((aE r.toNat).map λ(j:Nat)=>.int (j:Int))):=by unfold kP;dsimp only;rw [Aa c,Int.sub_zero];simp [zZ]
  rw [Aa rfl,show iD ((aE r.toNat).map λ(j:Nat)=>(j:Int))=.lst ((aE r.toNat).map λ(j:Nat)=>.int (j:Int)) by simp [iD]];simp [kR,qt,inL,eqD,eqN,eqS,e]
 | cons a l=>
  have h1:=Qu (qet ns) h 0;have h2:=qgo (qK ns 0 (a::l)) f;have n:¬inL (a::l)=[]:=by simp [inL]
  rw [Ab (by simp)];generalize hx:qK ns 0 (a::l)=t at h1 h2;generalize D:xB t r=w at h2;generalize z:lD (a::l)=ld at h1;have b:ky ld=.ok (.int ((inL (a::l)).length:Int)):=by rw [<-z]; rfl
  by_cases q:r % 2=0;·rw [Aa q];simp [kR,qt,b,eqD,eqN,eqS,n,h1,h2,yG,yn,q,JJ,d,z2]
  ·rw [Ab q];simp [kR,qt,b,eqD,eqN,eqS,n,h1,h2,yG,yn,q,z1]
noncomputable def RT (W:Wy):List Str:=(kc (kW W)).filter λx=>decide ((qV W x).1=x)
abbrev Rt:=Str×List Int
noncomputable def rd (x:Rt):D:=.tup [.str x.1,iD x.2]
noncomputable def RO (W:Wy) (seen:List Pr) (r:Int) (ns:List Int):List Rt:=(RT W).map λx=>(x,rW (yb (FO [] (CL W 0 seen)) x) r ns)
theorem qbK:∀ W:Wy,Uq (wD W)=iE (kW W)
 | []=>rfl
 | e::W=>by have j:=qbK W;show (Uq (wD W)).map (e.1::·)=_;rw [j];rfl
theorem Yg (S:Sn seen W) (A:ns.length=seen.length) (H:1<=r) (M:r<=99):uW [sD seen,.int r,nD ns]=.ok (.lst ((RO W seen r ns).map rd),[.non,.non,.non]):=by
 have G:(LS seen).length<=20:=by have:=S.s; lia
 have h1:=Jy S.n G S.w S.a;have i:=qbI W 0 seen;have P:=S.n;have h2:=Xu (CL W 0 seen) (by lia);have t:=qiS S.w S.a;obtain ⟨f1,_,p,f4⟩:=Qx (CL W 0 seen) [];have E:∀ c∈FO [] (CL W 0 seen),c∈CL W 0 seen:=λc J=>by
  rcases f1 c J with h | h;·cases h
  ·exact h
 unfold RO;generalize hC:CL W 0 seen=C at h1 h2 i t p E;generalize L:FO [] C=F at h2 p E;have I:=S.w.le;have j:=S.s;have b:(kW W).length < 64:=by simp [kW]; lia
 have g:((kW W).all λy=>decide (y.length<=sizeLine))=true:=by rw [aJ];intro y u;exact Ad (jb (S.z y (S.w.sub y u)))
 have o:wo (.dct (wD W))=.ok (.lst ((kc (kW W)).map D.str)):=by unfold wo;simp only [qbK];rw [Aa ⟨b,g⟩]
 have m:∀ x∈kc (kW W),x∈kW W:=λx hx=>(qF _).mem_iff.mp hx;have B:(kc (kW W)).length<=12:=by rw [(qF _).length_eq]; simp [kW]; lia
 refine qr.trans ?_;unfold Jr;rw [show qt Jq [sD seen,.int r,nD ns]=[iE (sD seen),iE (.int r),iE (nD ns),iG,iG,iG] from rfl];have v:=S.e;refine (qv (ρ1:=[iE (sD seen),iE (.int r),iE (nD ns),iE (.dct (wD W)),iG,iG]) (by simp [v])).trans ?_;refine (qv (ρ1:=[iE (sD seen),iE (.int r),iE (nD ns),iE (.dct (wD W)),iE (.dct (fD F)),iG]) (by simp [h1,h2])).trans ?_;have q:=Xo (own:=[]) (cap:=[3]) (fi:=jl (d1 wo (qd 3))) (ft:=qL (d2 eqD (d2 ixD (d2 ixD (qd 1) (qd 0)) (dC (.int 0))) (qd 0))) (fe:=qd 0) (ρ:=[iE (sD seen),iE (.int r),iE (nD ns),iE (.dct (wD W)),iE (.dct (fD F)),iG]) (ρ1:=[iE (sD seen),iE (.int r),iE (nD ns),iE (.dct (wD W)),iE (.dct (fD F)),iG]) (ds:=(kc (kW W)).map D.str) (λd=>match d with | .str x=>decide ((qV W x).1=x) | _=>iI) (λd=>d) (by simp) (by simp [o,jg]) (by rw [af]; exact jb (by lia)) (λd hd=>by obtain ⟨x,hx,rfl⟩:=ah.mp hd;have i1:=Yb S.w.nd (m x hx);simp [i1,qlH,eqD,eqN,eqS];rfl) (λd hd _=>by simp);have e1:(((kc (kW W)).map D.str).filter λd=>match d with | .str x=>decide ((qV W x).1=x) | _=>iI).map (λd=>d)=(RT W).map D.str:=by rw [f9,fz];rfl
 rw [e1] at q;refine (qv (ρ1:=[iE (sD seen),iE (.int r),iE (nD ns),iE (.dct (wD W)),iE (.dct (fD F)),iE (.lst ((RT W).map D.str))]) (by rw [wm,q]; rfl)).trans ?_;have K:(RT W).length<=12:=by
  have:=c9 (λx=>decide ((qV W x).1=x)) (kc (kW W));unfold RT
  lia
 have z2:2<=sizeLine:=jb (by lia);have c2:=vJ (cap:=[1,2,4]) (fi:=jl (qd 5)) (fe:=yP (qc (qd 0) (qc (ql [.vl,.vl,.vl] kS (qc (qc9 (qd 3) (qd 0) (yd qx)) (qc (qd 1) (qc (qd 2) qx)))) qx))) (ρ:=[iE (sD seen),iE (.int r),iE (nD ns),iE (.dct (wD W)),iE (.dct (fD F)),iE (.lst ((RT W).map D.str))]) (ρ1:=[iE (sD seen),iE (.int r),iE (nD ns),iE (.dct (wD W)),iE (.dct (fD F)),iE (.lst ((RT W).map D.str))]) (ds:=(RT W).map D.str) (λd=>match d with | .str x=>rd (x,rW (yb F x) r ns) | d=>d) (by simp [jg]) (by rw [af]; exact jb (by lia)) (λd hd=>by
  obtain ⟨x,hx,rfl⟩:=ah.mp hd;have g1:=qiU F x;have l:∀ k∈yb F x,k < ns.length:=λk f=>by
   unfold yb at f;cases w:F.find? λd=>decide (d.1=x) with
   | none=>rw [w] at f; cases f
   | some d=>rw [w] at f;rw [A];exact t d (E d (bv w)) k f
  have N:=QP l H M;simp [qc9,QG,g1,N,z2,rd])
 have O:((RT W).map D.str).map (λd=>match d with | .str x=>rd (x,rW (yb F x) r ns) | d=>d)=((RT W).map λx=>(x,rW (yb F x) r ns)).map rd:=by rw [aR,aR];rfl
 rw [O] at c2;rw [yq,c2];rfl
noncomputable def HM (W:Wy) (seen:List Pr) (r:Int) (ns:List Int):Int:=match BO W seen r ns with
 | some _=>0
 | none=>(RO W seen r ns).foldl (λa x=>a * (x.2.length:Int)) 1
theorem qiZ (l:Wk) (f:1<=r) (g:r<=99) (ns:List Int):(rW l r ns).length<=99:=by
 unfold rW;split;·simp; omega
 ·split <;> simp
theorem qbL (a b c d:Option D):∀ (L:List Rt) (t:Int) (x y:Option D),(∀ w∈L,w.2.length<=99)->∃ n s,jR (jo 2 (qu (gNm 5) (qu (gNm 6) jn))) (jx 4 (d2 Gd (qd 4) (d1 ky (qd 6)))) (L.map rd) [a,b,c,d,iE (.int t),x,y]=.ok (.nx,[a,b,c,d,iE (.int (L.foldl (λa x=>a * (x.2.length:Int)) t)),n,s])
 | [],t,x,y,_=>⟨x,y,rfl⟩
 | w::L,t,x,y,h=>by have g:=h w (ap ..);obtain ⟨n,s,j⟩:=qbL a b c d L (t * (w.2.length:Int)) (iE (.str w.1)) (iE (iD w.2)) λv e=>h v (ac _ e);have f:CMul t (w.2.length:Int):=.inr ⟨by lia,by lia⟩;refine ⟨n,s,dO (xA (d:=rd w) (ρ1:=[a,b,c,d,iE (.int t),iE (.str w.1),iE (iD w.2)]) rfl ?_) j⟩;simp [Gd,yn,f]
theorem Qy (h:qX ws) (hl:JD p q) (b:1<=r) (g:r<=99) (n:kq ws.length r ns) (S:Sn (qy ws p q) W):uX [Wd ws,Ld p q,.int r,nD ns]=.ok (.int (HM W (qy ws p q) r ns),[.non,.non,.non,.non]):=by
 have e1:=qiY h hl b g n S;have i:=Xw h hl;have E:=Yg S (ns:=ns) (by rw [n.1]; simp [qy]) b g;refine qr.trans ?_;unfold HM;cases d:BO W (qy ws p q) r ns with
 | some c=>rw [d] at e1;simp [xW,qt,e1,cd]
 | none=>rw [d] at e1;obtain ⟨e,s,f⟩:=qbL (iE (Wd ws)) (iE (Ld p q)) (iE (.int r)) (iE (nD ns)) (RO W (qy ws p q) r ns) 1 iG iG (λw h=>by obtain ⟨x,_,rfl⟩:=ah.mp h;exact qiZ _ b g _);unfold xW;rw [show qt Js [Wd ws,Ld p q,.int r,nD ns]=[iE (Wd ws),iE (Ld p q),iE (.int r),iE (nD ns),iG,iG,iG] from rfl];refine (qv (ρ1:=[iE (Wd ws),iE (Ld p q),iE (.int r),iE (nD ns),iG,iG,iG]) (by simp [e1])).trans ?_;refine (qv (ρ1:=[iE (Wd ws),iE (Ld p q),iE (.int r),iE (nD ns),iE (.int 1),iG,iG]) (by simp)).trans ?_;refine (qv (ρ1:=[iE (Wd ws),iE (Ld p q),iE (.int r),iE (nD ns),iE (.int ((RO W (qy ws p q) r ns).foldl (λa x=>a * (x.2.length:Int)) 1)),e,s]) (by rw [vg,show jl (ql [.vl,.vl,.vl] uW (qc (ql [.vl,.vl] vj (qc (qd 0) (qc (qd 1) qx))) (qc (qd 2) (qc (qd 3) qx)))) [iE (Wd ws),iE (Ld p q),iE (.int r),iE (nD ns),iE (.int 1),iG,iG]=.ok ((RO W (qy ws p q) r ns).map rd,[iE (Wd ws),iE (Ld p q),iE (.int r),iE (nD ns),iE (.int 1),iG,iG]) by simp [i,E,jg],jr];exact f)).trans ?_;simp
theorem qbM (l:List Pr):(LS l).Nodup:=(qF _).nodup_iff.mpr (uN _ [] cx).1
theorem qdE {l:List (Str×Int)} (h:(jT l).Nodup):YX (.lst (prL l))=.ok (.dct (bk l)):=by have:=qby l [] h (by simp);unfold YX;simp only [WB];rw [this];rfl
noncomputable def yc (l:List (Str×Int)) (s:List Pr) (r:Int):List Int:=s.map λx=>(jw l x.1+jw l x.2) % r
theorem qdF (l:List (Str×Int)) (s:List Pr) (r:Int):qiK l s r=(yc l s r).map D.int:=by unfold qiK yc;rw [aR];rfl
theorem iR0 {f:qY} {k:Int} (a:0<=k) (h1:k<=2000) (h:f ρ=.ok (.int k,ρ1)):kr f ρ=.ok (zZ 0 k.toNat,ρ1):=by
 have c:-(2 ^ 62:Int)<=k/\k < 2 ^ 62:=by lia
 simp [kr,h,-Int.reducePow,c]
abbrev stB:qR:=YV 9 (ql [.vl,.sl 1,.vl] jH (qc (qd 0) (kj (qc (qd 5) qx)))) (ql [.vl,.sl 1,.vl] jH (qc (qd 0) (kj (qc (d1 ky (qd 9)) qx))))
theorem qbN (l:List Int) (B:1<=n) (A:1<=r) (a b c d e f:Option D):∀ (ks:List D) (t:List D) (ns:List Int) (x:Option D),t.length+2 * ks.length < 900->kq n r ns ->∃ (g:List D) (m:List Int) (q:Option D),g.length=t.length+2 * ks.length/\kq n r m/\jR (gNm 10) stB ks [iE (scr l),iE (.lst t),a,b,c,iE (.int r),d,e,f,iE (iD ns),x]=.ok (.nx,[iE (scr l),iE (.lst g),a,b,c,iE (.int r),d,e,f,iE (iD m),q])
 | [],t,ns,x,_,h=>⟨t,ns,x,by simp,h,rfl⟩
 | k::ks,t,ns,x,ht,h=>by
  rw [aq] at ht;obtain ⟨v,w,u,g1⟩:=vt l t (many:=r) (by lia) (by lia);obtain ⟨i,z,i1,Z⟩:=vt l (t++[.int 0]) (many:=(ns.length:Int)) (by rw [h.1]; lia) (by rw [ai]; simp; lia);obtain ⟨j,rfl⟩:=d6 z;have H:j < ns.length:=by lia
  have h':kq n r (ns.set j v):=⟨by rw [c6]; exact h.1,λy s=>by
   rcases List.mem_or_eq_of_mem_set s with s | rfl;·exact h.2 y s
   ·exact ⟨w,u⟩⟩
  obtain ⟨g,m,q,G,E,C⟩:=qbN l B A a b c d e f ks (t++[.int 0]++[.int 0]) (ns.set j v) (iE k) (by rw [ai,ai]; simp; lia) h';refine ⟨g,m,q,by rw [G,ai,ai,aq]; simp; lia,E,dO (xA (ρ1:=[iE (scr l),iE (.lst t),a,b,c,iE (.int r),d,e,f,iE (iD ns),iE k]) rfl ?_) C⟩;have V:ixN (ns.map D.int).length (j:Int)=iE j:=by unfold ixN;rw [af,Aa (by lia),Aa (by lia),cB]
  have o:(ns.map D.int).set j (.int v)=(ns.set j v).map D.int:=by rw [List.map_set]
  have p:ky (iD ns)=.ok (.int (ns.length:Int)):=by simp
  simp only [stB,YV];simp only [YR,YO,YQ,qat,xL,vB,cc,ce,jr];simp [g1,p,Z];simp at V o;simp [V,o]
structure Told (ws:List Str) (p q r:Int) (ns:List Int):Prop where
 w:qX ws
 w5:ws.length<=4
 l:JD p q
 r0:1<=r
 r9:r<=6
 n:kq ws.length r ns
theorem Yh (a:List Int) (t:List D) (ht:t.length < 300):∃ ws p q r ns b,Told ws p q r ns/\b.length<=t.length+200 /\
  UV [scr a,.lst t,.int 4,.int 6]=.ok (.tup [Wd ws,Ld p q,.int r,nD ns],[.non,.lst b,.non,.non]):=by
 obtain ⟨sp,s0,s1,g1⟩:=vt a t (many:=4) (by lia) (by lia);obtain ⟨r',r0,r1,Z⟩:=vt a (t++[.int 0]) (many:=6) (by lia) (by rw [ai]; simp; lia);obtain ⟨p,q,H,hl,d,Y⟩:=qge a (t++[.int 0]++[.int 0]) (by rw [ai,ai]; simp; lia);rw [ai,ai] at d;simp at d;obtain ⟨ws,j,w,P,M,Q⟩:=qdA a H (by lia);have O:=qes w p q;obtain ⟨es,c,U,k5,V,L,T⟩:=Jw a (room:=1+r') (by lia) (LS (qy ws p q)) j iG (by lia);have u:(jT es).Nodup:=by rw [k5]; exact qbM _
 have hd:=qdE u;have z:=QO w hl;have i:=qbz w hl (r:=1+r') (by lia) (l:=es) (by rw [k5]; exact λx hx=>hx);rw [qdF] at i;have B:(qy ws p q).length=ws.length:=by simp [qy]
 have v:kq ws.length (1+r') (yc es (qy ws p q) (1+r')):=⟨by unfold yc; rw [af,B],λy K=>by obtain ⟨x,_,rfl⟩:=ah.mp K;exact ⟨cA _ (by lia),bZ _ (by lia)⟩⟩
 have h:0<=sp / 2 * (1+sp % 2)/\sp / 2 * (1+sp % 2)<=2:=by
  have:sp=0\/sp=1\/sp=2\/sp=3:=by lia
  rcases this with rfl | rfl | rfl | rfl <;> decide
 generalize N:sp / 2 * (1+sp % 2)=m at h;have e:(zZ 0 m.toNat).length=m.toNat:=by simp [zZ]
 obtain ⟨G,ns,J,o,A,R⟩:=qbN a (n:=ws.length) (w.1) (r:=1+r') (by lia) (iE (.int 4)) (iE (.int 6)) (iE (.int sp)) (iE (Ld p q)) (iE (Wd ws)) (iE (.dct (bk es))) (zZ 0 m.toNat) c _ iG (by rw [e]; lia) v;rw [e] at o;refine ⟨ws,p,q,1+r',ns,G,⟨w,P,hl,by lia,by lia,A⟩,by lia,?_⟩;refine qr.trans ?_;unfold qbo;rw [show qt qbn [scr a,.lst t,.int 4,.int 6]=[iE (scr a),iE (.lst t),iE (.int 4),iE (.int 6),iG,iG,iG,iG,iG,iG,iG] from rfl];refine (qv (ρ1:=[iE (scr a),iE (.lst (t++[.int 0])),iE (.int 4),iE (.int 6),iE (.int sp),iG,iG,iG,iG,iG,iG]) (by simp [g1])).trans ?_;refine (qv (ρ1:=[iE (scr a),iE (.lst (t++[.int 0]++[.int 0])),iE (.int 4),iE (.int 6),iE (.int sp),iE (.int (1+r')),iG,iG,iG,iG,iG]) (by simp [Z])).trans ?_;refine (qv (ρ1:=[iE (scr a),iE (.lst H),iE (.int 4),iE (.int 6),iE (.int sp),iE (.int (1+r')),iE (Ld p q),iG,iG,iG,iG]) (by simp only [aV,fV,bW] at Y ⊢;simp [Y])).trans ?_;refine (qv (ρ1:=[iE (scr a),iE (.lst j),iE (.int 4),iE (.int 6),iE (.int sp),iE (.int (1+r')),iE (Ld p q),iE (Wd ws),iG,iG,iG]) (by simp [Q])).trans ?_;have S:=Xv (own:=[1]) (cap:=[0,1,5]) (nt:=1) (fi:=jl (ql [.vl,.vl] uZ (qc (qd 7) (qc (qd 6) qx)))) (g:=gNm 0) (ft:=ftT) (fe:=yP (qc (qd 0) (qc (ql [.vl,.sl 2,.vl] jH (qc (qd 1) (kj (qc (qd 3) qx)))) qx))) (ρ:=[iE (scr a),iE (.lst j),iE (.int 4),iE (.int 6),iE (.int sp),iE (.int (1+r')),iE (Ld p q),iE (Wd ws),iG,iG,iG]) (ρ1:=[iE (scr a),iE (.lst j),iE (.int 4),iE (.int 6),iE (.int sp),iE (.int (1+r')),iE (Ld p q),iE (Wd ws),iG,iG,iG]) (ds:=(LS (qy ws p q)).map D.str) (by simp [z,jg]) (by rw [af]; exact jb (by lia)) T;refine (qv (ρ1:=[iE (scr a),iE (.lst c),iE (.int 4),iE (.int 6),iE (.int sp),iE (.int (1+r')),iE (Ld p q),iE (Wd ws),iE (.dct (bk es)),iG,iG]) (by rw [wm,vB,S,jr];simp only [];rw [hd];rfl)).trans ?_;refine (qv (ρ1:=[iE (scr a),iE (.lst c),iE (.int 4),iE (.int 6),iE (.int sp),iE (.int (1+r')),iE (Ld p q),iE (Wd ws),iE (.dct (bk es)),iE (iD (yc es (qy ws p q) (1+r'))),iG]) (by simp [i,VC])).trans ?_;have E:qgV sp 2:=⟨by lia,by lia⟩
 have C:CMul (sp / 2) (1+sp % 2):=.inr ⟨by lia,by lia⟩;have s:=iR0 (f:=d2 Gd (d2 JJ (qd 4) (dC (.int 2))) (d2 vz (dC (.int 1)) (d2 yG (qd 4) (dC (.int 2))))) (ρ:=[iE (scr a),iE (.lst c),iE (.int 4),iE (.int 6),iE (.int sp),iE (.int (1+r')),iE (Ld p q),iE (Wd ws),iE (.dct (bk es)),iE (iD (yc es (qy ws p q) (1+r'))),iG]) (ρ1:=[iE (scr a),iE (.lst c),iE (.int 4),iE (.int 6),iE (.int sp),iE (.int (1+r')),iE (Ld p q),iE (Wd ws),iE (.dct (bk es)),iE (iD (yc es (qy ws p q) (1+r'))),iG]) (k:=m) h.1 (by lia) (by simp [JJ,yG,Gd,yn,E,C,N]);refine (qv (ρ1:=[iE (scr a),iE (.lst G),iE (.int 4),iE (.int 6),iE (.int sp),iE (.int (1+r')),iE (Ld p q),iE (Wd ws),iE (.dct (bk es)),iE (iD ns),J]) (by rw [vg,s,jr]; exact R)).trans ?_;have I:4<=sizeLine:=jb (by lia);simp [vW,I]
noncomputable def sg (l:Wk):Int:=if odd l=iJ then -1 else 1
theorem qdG (k:Nat) (l:Wk):odd (k::l)=!odd l:=by
 unfold odd;rw [aq];by_cases h:l.length % 2=1;·rw [Ad h,Ac (by lia)]; rfl
 ·rw [Ac h,Ad (by lia)]; rfl
theorem qgp (k:Nat) (l:Wk):sg (k::l)=- sg l:=by unfold sg;rw [qdG];cases odd l <;> rfl
theorem uO (ns:List Int) (t:Int) (a b:Wk):qK ns t (a++b)=qK ns (qK ns t a) b:=List.foldl_append ..
theorem zb (ns:List Int) (t:Int) (k:Nat) (l:Wk):qK ns t (k::l)=qK ns (nI ns k - t) l:=rfl
theorem wJ (ns:List Int):∀ (l:Wk) (t:Int),qK ns t l=qK ns 0 l+sg l * t
 | [],t=>by simp [qK,sg,odd]
 | k::l,t=>by
  have h1:=wJ ns l (nI ns k - t);have h2:=wJ ns l (nI ns k - 0);rw [zb,zb,h1,h2,qgp,ic,ic,Int.neg_mul];simp
  lia
theorem WD (ns:List Int):∀ (l:Wk) (s:Int),qK ns (qK ns s l) l.reverse=s
 | [],s=>rfl
 | k::l,s=>by
  have h:=WD ns l (nI ns k - s);rw [zb,de,uO,h];show nI ns k - (nI ns k - s)=s
  lia
theorem qdH (l:Wk):sg l=1\/sg l=-1:=by
 unfold sg;split;·exact .inr rfl
 ·exact .inl rfl
theorem qi0 {a:Int} (l:Wk):r ∣ sg l * a↔r ∣ a:=by
 rcases qdH l with h | h;·rw [h,iA]
 ·rw [h,Int.neg_one_mul,ig]
theorem Yi {a b:Int}:a % r=b % r↔r ∣ a - b:=by rw [Int.emod_eq_emod_iff_emod_sub_eq_zero,Int.dvd_iff_emod_eq_zero]
theorem qdI {a b:Int} (h:r ∣ a - b) (e:0<=a) (k:a < r) (d:0<=b) (c:b < r):a=b:=by have:=Yi.mpr h;rwa [bD e k,bD d c] at this
def Sol (seen:List Pr) (r:Int) (ns:List Int) (v:Str->Int):Prop:=∀ (k:Nat) (p:Pr),seen[k]?=iE p->r ∣ v p.1+v p.2 - nI ns k
variable {v:Str->Int}
theorem Path.val (S:Sol seen r ns v) {ρ:Str} {l:Wk} (h:Path seen ρ l x):r ∣ v x - qK ns (v ρ) l:=by
 induction h with
 | nil=>show r ∣ v ρ - v ρ;rw [Int.sub_self];exact ⟨0,by simp⟩
 | snoc hp e hq j=>
  rename_i l x y k p;have a:=S k p e;have m:r ∣ v x+v y - nI ns k:=by
   rcases hq with rfl | rfl;·exact a
   ·rw [Int.add_comm (v x)]; exact a
  rw [uO];show r ∣ v y - (nI ns k - qK ns (v ρ) l);have e1:v y - (nI ns k - qK ns (v ρ) l)=(v x+v y - nI ns k) - (v x - qK ns (v ρ) l):=by lia
  rw [e1];exact cT m j
def okS (r:Int) (ns:List Int) (c:Wk) (s:Int):Prop:=r ∣ qK ns s c - s
theorem KM {c:Wk} (h:odd c=iI) (s:Int):okS r ns c s↔r ∣ qK ns 0 c:=by unfold okS;rw [wJ,show sg c=1 by unfold sg; rw [h]; rfl,iA,Int.add_sub_cancel]
theorem KN {c:Wk} (h:odd c=iJ) (s:Int):okS r ns c s↔r ∣ qK ns 0 c - 2 * s:=by unfold okS;rw [wJ,show sg c=-1 by unfold sg; rw [h]; rfl,show qK ns 0 c + -1 * s - s=qK ns 0 c - 2 * s by lia]
theorem qbO (W:Wy) (p:Pr) (k:Nat) (r:Int) (ns:List Int) (s:Int):okS r ns (Yc W p k).2 s↔r ∣ qK ns s (qV W p.1).2+qK ns s (qV W p.2).2 - nI ns k:=by
 unfold okS Yc;simp only [];rw [uO,uO];have h1:=WD ns (qV W p.2).2 s;generalize qK ns s (qV W p.1).2=A;generalize qK ns s (qV W p.2).2=B at h1;generalize (qV W p.2).2.reverse=L at h1;show r ∣ qK ns (nI ns k - A) L - s↔_;have e:qK ns (nI ns k - A) L - s=sg L * (nI ns k - A - B):=by
  have h2:=wJ ns L (nI ns k - A);have i:=wJ ns L B;rw [h1] at i;rw [h2,ic (sg L) (nI ns k - A) B]
  lia
 rw [e,qi0,show nI ns k - A - B=-(A+B - nI ns k) by lia,ig]
theorem qi1 {k:Nat} {p:Pr} (h:seen[k]?=iE p):Yc W p k∈CL W 0 seen:=ah.mpr ⟨(p,k),List.mem_zipIdx_iff_getElem?.mpr h,rfl⟩
theorem qi2 {c:Ci} (h:c∈CL W 0 seen):∃ (k:Nat) (p:Pr),seen[k]?=iE p/\c=Yc W p k:=by obtain ⟨q,hq,rfl⟩:=ah.mp h;obtain ⟨p,k⟩:=q;exact ⟨k,p,List.mem_zipIdx_iff_getElem?.mp hq,rfl⟩
theorem qgq (p:Pr):oth p p.1=p.2:=by unfold oth; rw [Aa rfl]
theorem WE (S:Sn seen W) {p:Pr} (hp:p∈seen):(qV W p.1).1=(qV W p.2).1:=by obtain ⟨h1,h2⟩:=wc S.a p hp;obtain ⟨e,h,e1,i⟩:=S.C _ (jA h1) p hp (.inl rfl);simp only [] at e1 i;rw [qgq] at e1;have:=gf S.w.nd h (jA h2) e1;rw [this] at i;exact i.symm
theorem qey (S:Sn seen W) (h:Sol seen r ns v):∀ c∈CL W 0 seen,okS r ns c.2 (v c.1):=by
 intro c g;obtain ⟨k,p,f,rfl⟩:=qi2 g;have hp:=bG f;obtain ⟨h1,h2⟩:=wc S.a p hp;have d:=(S.w.path _ (jA h1)).val h;have b:=(S.w.path _ (jA h2)).val h;simp only [] at d b;rw [<-WE S hp] at b;show okS r ns (Yc W p k).2 (v (qV W p.1).1);rw [qbO];have s:=h k p f;generalize qK ns (v (qV W p.1).1) (qV W p.1).2=A at d;generalize qK ns (v (qV W p.1).1) (qV W p.2).2=B at b;have e:A+B - nI ns k=(v p.1+v p.2 - nI ns k) - (v p.1 - A) - (v p.2 - B):=by lia
 rw [e];exact cT (cT s d) b
noncomputable def vO (W:Wy) (r:Int) (ns:List Int) (σ:Str->Int) (x:Str):Int:=qK ns (σ (qV W x).1) (qV W x).2 % r
theorem qi3 (S:Sn seen W) {σ:Str->Int} (h:∀ c∈CL W 0 seen,okS r ns c.2 (σ c.1)):Sol seen r ns (vO W r ns σ):=by
 intro k p a;have hp:=bG a;have h1:=h _ (qi1 a);have h1:okS r ns (Yc W p k).2 (σ (qV W p.1).1):=h1;rw [qbO] at h1;unfold vO;rw [<-WE S hp];generalize qK ns (σ (qV W p.1).1) (qV W p.1).2=A at h1;generalize qK ns (σ (qV W p.1).1) (qV W p.2).2=B at h1;have d1:r ∣ A - A % r:=db;have d2:r ∣ B - B % r:=db;have e:A % r+B % r - nI ns k=(A+B - nI ns k) - (A - A % r) - (B - B % r):=by lia
 rw [e];exact cT (cT h1 d1) d2
theorem qbP:∀ (C F:List Ci),∀ c∈FO F C,c∈F\/(c∈C/\odd c.2=iJ)
 | [],F,c,h=>.inl h
 | d::C,F,c,h=>by
  unfold FO at h;by_cases q:odd d.2=iJ/\d.1∉kF F
  ·rw [Aa q] at h;rcases qbP C _ c h with h | h
   ·rcases aj.mp h with h | h;·exact .inl h
    ·rw [au.mp h];exact .inr ⟨ap ..,q.1⟩
   ·exact .inr ⟨ac _ h.1,h.2⟩
  ·rw [Ab q] at h;rcases qbP C _ c h with h | h;·exact .inl h
   ·exact .inr ⟨ac _ h.1,h.2⟩
theorem KO (h:x∈kF F):(x,yb F x)∈F:=by
 unfold yb;cases q:F.find? λc=>decide (c.1=x) with
 | none=>obtain ⟨e,i,rfl⟩:=ah.mp h;have:=bP.mp q e i;simp at this
 | some c=>
  have h1:=bv q;have h2:c.1=x:=by simpa using hV q
  rw [<-h2];exact h1
theorem qdJ (h:x∉kF F):yb F x=[]:=by
 unfold yb;cases q:F.find? λc=>decide (c.1=x) with
 | none=>rfl
 | some c=>
  have h1:=bv q;have h2:c.1=x:=by simpa using hV q
  exact absurd (ah.mpr ⟨c,h1,h2⟩) h
theorem qbQ (a b:Wk):odd (a++b)=(odd a != odd b):=by
 unfold odd;rw [ai];by_cases h1:a.length % 2=1 <;> by_cases h2:b.length % 2=1;·rw [Ad h1,Ad h2,Ac (by lia)]; rfl
 ·rw [Ad h1,Ac h2,Ad (by lia)]; rfl
 ·rw [Ac h1,Ad h2,Ad (by lia)]; rfl
 ·rw [Ac h1,Ac h2,Ac (by lia)]; rfl
theorem gh {c:Wk} (h:odd c=iI):ZX c r ns=iI↔r ∣ qK ns 0 c:=by unfold ZX;rw [h,Ab bF,Int.dvd_iff_emod_eq_zero];simp
theorem qbR {c:Wk} (h:odd c=iJ):ZX c r ns=iI↔¬(r % 2=0/\qK ns 0 c % 2=1):=by unfold ZX;rw [h,Aa rfl];simp
theorem qez (ns:List Int) (f c:Wk) (h:odd c=iJ):qK ns 0 (f++c)=qK ns 0 c - qK ns 0 f:=by
 rw [uO,wJ,show sg c=-1 by unfold sg; rw [h]; rfl]
 lia
section
abbrev FF (W:Wy) (seen:List Pr):List Ci:=FO [] (CL W 0 seen)
theorem qbS {c:Ci} (h:c∈FF W seen):c∈CL W 0 seen/\odd c.2=true:=by
 rcases qbP _ _ c h with h | h;·cases h
 ·exact h
theorem qbT:BO W seen r ns=iG↔∀ c∈CL W 0 seen,(odd c.2=iI->r ∣ qK ns 0 c.2)/\(odd c.2=iJ->¬(r % 2=0/\qK ns 0 c.2 % 2=1)/\r ∣ qK ns 0 c.2 - qK ns 0 (yb (FF W seen) c.1)):=by
 unfold BO;rw [bP];have k:∀ c∈CL W 0 seen,odd c.2=iJ->odd (yb (FF W seen) c.1)=true:=λc d l=>(qbS (KO ((Qx _ _).2.2.1 c d l))).2;constructor
 ·intro h c d;have h1:ZX c.2 r ns=false:=by simpa using h c (aj.mpr (.inl d))
  refine ⟨λl=>(gh l).mp h1,λl=>⟨(qbR l).mp h1,?_⟩⟩;have h2:ZX (yb (FF W seen) c.1++c.2) r ns=false:=by have:=h (c.1,yb (FF W seen) c.1++c.2) (aj.mpr (.inr (ah.mpr ⟨c,br.mpr ⟨d,by simpa using l⟩,rfl⟩)));simpa using this
  rw [gh (by rw [qbQ,k c d l,l]; rfl),qez _ _ _ l] at h2;exact h2
 ·intro h w a;rcases aj.mp a with a | a
  ·cases l:odd w.2 with
   | false=>simpa using (gh l).mpr ((h w a).1 l)
   | true=>simpa using (qbR l).mpr ((h w a).2 l).1
  ·obtain ⟨c,d,rfl⟩:=ah.mp a;obtain ⟨d,l⟩:=br.mp d;have l:odd c.2=true:=by simpa using l
   have:ZX (yb (FF W seen) c.1++c.2) r ns=false:=by rw [gh (by rw [qbQ,k c d l,l]; rfl),qez _ _ _ l];exact ((h c d).2 l).2
   simpa using this
theorem qgr (S:Sn seen W) (a:Sol seen r ns v):BO W seen r ns=none:=by
 have hok:=qey S a;rw [qbT];intro c d;refine ⟨λl=>(KM l _).mp (hok c d),λl=>?_⟩;have h1:=(KN l _).mp (hok c d);have h:=KO ((Qx (CL W 0 seen) []).2.2.1 c d l);obtain ⟨f1,f2⟩:=qbS h;have h2:=(KN f2 _).mp (hok _ f1);refine ⟨λ⟨e1,i⟩=>?_,?_⟩
 ·obtain ⟨m,h⟩:=h1;obtain ⟨j,G⟩:=cS e1;rw [G,fR] at h
  lia
 ·simp only [] at h2;have e:qK ns 0 c.2 - qK ns 0 (yb (FF W seen) c.1)=(qK ns 0 c.2 - 2 * v c.1) - (qK ns 0 (yb (FF W seen) c.1) - 2 * v c.1):=by lia
  rw [e];exact cT h1 h2
end
theorem qbU {t s:Int} (k:1<=r) (s0:0<=s) (s1:s < r) (hp:¬(r % 2=0/\t % 2=1)):r ∣ t - 2 * s↔s∈(if r % 2=0 then [xB t r,xB t r+r / 2] else [xB t r]):=by
 have b:0 < r:=by lia
 have g:=cA t (show r≠0 by lia);have t1:=bZ t b;have hd:r ∣ t - t % r:=db;have a:r % 2=0->t % r % 2=0:=λe=>by
  obtain ⟨m,c⟩:=hd;obtain ⟨j,G⟩:=cS e;have:t % 2=0:=by
   have:=Int.emod_two_eq t;rcases this with h | h;·exact h
   ·exact absurd ⟨e,h⟩ hp
  have l:r * m=2 * (j * m):=by rw [G,fR]
  generalize t % r=u at c ⊢
  lia
 have key:r ∣ t - 2 * s↔(t % r - 2 * s=0\/t % r - 2 * s=-r):=by
  constructor
  ·intro h;have h2:r ∣ t % r - 2 * s:=by
    have e:t % r - 2 * s=(t - 2 * s) - (t - t % r):=by lia
    rw [e];exact cT h hd
   generalize t % r=u at *;by_cases q:2 * s<=u;·refine .inl ?_;have:=cg h2;rwa [bD (by lia) (by lia)] at this
   ·by_cases d:2 * s<=u+r
    ·refine .inr ?_;have i:r ∣ u - 2 * s+r:=d7 h2 ⟨1,by simp⟩;have:=cg i;rw [bD (by lia) (by lia)] at this
     lia
    ·exfalso;have i:r ∣ u - 2 * s+r+r:=d7 (d7 h2 ⟨1,by simp⟩) ⟨1,by simp⟩;have:=cg i;rw [bD (by lia) (by lia)] at this
     lia
  ·intro h;have e:t - 2 * s=(t - t % r)+(t % r - 2 * s):=by lia
   rw [e];refine d7 hd ?_;rcases h with h | h;·rw [h]; exact ⟨0,by simp⟩
   ·rw [h]; exact ⟨-1,by simp⟩
 rw [key];clear hp hd key;unfold xB;by_cases q:r % 2=0
 ·have f:=a q;clear a;rw [Aa q,Aa f];generalize t % r=u at *;simp only [ae,bb,or_false];constructor
  ·rintro (h | h);·exact .inl (by lia)
   ·exact .inr (by lia)
  ·rintro (h | h);·exact .inl (by lia)
   ·exact .inr (by lia)
 ·rw [Ab q];clear a;generalize t % r=u at *;rw [au];by_cases d:u % 2=0
  ·rw [Aa d];constructor;·rintro (h | h) <;> lia
   ·intro h; exact .inl (by lia)
  ·rw [Ab d];constructor;·rintro (h | h) <;> lia
   ·intro h; exact .inr (by lia)
theorem qgs {t:Int} (f:1<=r):0<=xB t r/\xB t r < r/\(r % 2=0->t % r % 2=0->xB t r+r / 2 < r):=by have g:=cA t (show r≠0 by lia);have t1:=bZ t (show 0 < r by lia);unfold xB;generalize t % r=u at *;split <;> refine ⟨by lia,by lia,λh h2=>by lia⟩
section
abbrev ch (W:Wy) (seen:List Pr) (r:Int) (ns:List Int) (x:Str):List Int:=rW (yb (FF W seen) x) r ns
theorem qk4 (k:1<=r) (v:BO W seen r ns=iG) (x:Str) (s:Int):s∈ch W seen r ns x↔(0<=s/\s < r)/\∀ c∈CL W 0 seen,c.1=x->okS r ns c.2 s:=by
 have a:=qbT.mp v;unfold ch rW;by_cases q:x∈kF (FF W seen)
 ·have o:=KO q;obtain ⟨f1,f2⟩:=qbS o;simp only [] at f2;have n:yb (FF W seen) x≠[]:=λz=>by rw [z] at f2; exact absurd f2 (by decide)
  have f:=(a _ f1).2 f2;simp only [] at f;rw [Ab n];have T:∀ s,(∀ c∈CL W 0 seen,c.1=x->okS r ns c.2 s)↔r ∣ qK ns 0 (yb (FF W seen) x) - 2 * s:=λs=>by
   constructor;·intro h;exact (KN f2 s).mp (h _ f1 rfl)
   ·intro h c g p;cases l:odd c.2 with
    | false=>exact (KM l s).mpr ((a c g).1 l)
    | true=>
     have h1:=((a c g).2 l).2;rw [p] at h1;rw [KN l];have e:qK ns 0 c.2 - 2 * s=(qK ns 0 c.2 - qK ns 0 (yb (FF W seen) x))+(qK ns 0 (yb (FF W seen) x) - 2 * s):=by lia
     rw [e];exact d7 h1 h
  rw [T s];generalize qK ns 0 (yb (FF W seen) x)=t at f;have y:=qgs (t:=t) k;have d:r % 2=0->t % r % 2=0:=λe=>by
   obtain ⟨m,o⟩:r ∣ t - t % r:=db;obtain ⟨j,G⟩:=cS e;have:t % 2=0:=by
    rcases Int.emod_two_eq t with h | h;·exact h
    ·exact absurd ⟨e,h⟩ f.1
   have w:r * m=2 * (j * m):=by rw [G,fR]
   generalize t % r=u at o ⊢
   lia
  constructor
  ·intro h;have b:0<=s/\s < r:=by
    by_cases i:r % 2=0
    ·rw [Aa i] at h;simp only [ae,bb,or_false] at h;have:=y.2.2 i (d i);rcases h with rfl | rfl;·exact ⟨y.1,y.2.1⟩
     ·exact ⟨by lia,this⟩
    ·rw [Ab i] at h;rw [au.mp h];exact ⟨y.1,y.2.1⟩
   exact ⟨b,(qbU k b.1 b.2 f.1).mpr h⟩
  ·rintro ⟨b,h⟩;exact (qbU k b.1 b.2 f.1).mp h
 ·rw [qdJ q,Aa rfl];constructor
  ·intro h;obtain ⟨j,G,rfl⟩:=ah.mp h;have:=aM.mp G;refine ⟨⟨by lia,by lia⟩,λc g p=>?_⟩;cases l:odd c.2 with
   | false=>exact (KM l _).mpr ((a c g).1 l)
   | true=>exact absurd (by rw [<-p]; exact (Qx (CL W 0 seen) []).2.2.1 c g l) q
  ·rintro ⟨⟨s0,s1⟩,_⟩;exact ah.mpr ⟨s.toNat,aM.mpr (by lia),by lia⟩
theorem qk5 (f:1<=r) (x:Str):(ch W seen r ns x).Nodup:=by
 unfold ch rW;split;·have:(aE r.toNat).Nodup:=fW;exact fN _ (λa b h=>by lia) this
 ·split
  ·refine aH.mpr ⟨λh=>?_,by simp⟩;have:=au.mp h
   lia
  ·simp
end
abbrev Ln:=List (Str×Int)
noncomputable def evS (r:Int) (x:Str) (rows:List Ln):List Ln:=rows.flatMap λl=>(aE r.toNat).map λ(j:Nat)=>l++[(x,(j:Int))]
noncomputable def EV (r:Int) (rows:List Ln):List Str->List Ln
 | []=>rows
 | x::L=>EV r (evS r x rows) L
variable {rows:List Ln}
theorem qbV (f:1<=r) {l:Ln}:l∈evS r x rows↔∃ a∈rows,∃ i:Int,0<=i/\i < r/\l=a++[(x,i)]:=by
 unfold evS;rw [cR];constructor;·rintro ⟨a,b,h⟩;obtain ⟨j,G,rfl⟩:=ah.mp h;have:=aM.mp G;exact ⟨a,b,j,by lia,by lia,rfl⟩
 ·rintro ⟨a,b,i,z,i1,rfl⟩;exact ⟨a,b,ah.mpr ⟨i.toNat,aM.mpr (by lia),by rw [Int.toNat_of_nonneg z]⟩⟩
theorem qeA (g:1<=r):∀ (L:List Str) (rows:List Ln) (l:Ln),l∈EV r rows L↔∃ b∈rows,∃ m:Ln,l=b++m/\jT m=L/\∀ e∈m,0<=e.2/\e.2 < r
 | [],rows,l=>by
  constructor;·intro h;exact ⟨l,h,[],by simp,rfl,by simp⟩
  ·rintro ⟨b,d,m,rfl,k,_⟩;have:m=[]:=by cases m with
    | nil=>rfl
    | cons a m=>cases k
   subst this;rw [aY];exact d
 | x::L,rows,l=>by
  show l∈EV r (evS r x rows) L↔_;rw [qeA g L];constructor
  ·rintro ⟨j,h1,m,rfl,k,f⟩;obtain ⟨b,d,i,z,i1,rfl⟩:=(qbV g).mp h1;refine ⟨b,d,(x,i)::m,by simp,by simp [jT] at k ⊢; exact k,λe c=>?_⟩;rcases ae.mp c with rfl | c;·exact ⟨z,i1⟩
   ·exact f e c
  ·rintro ⟨b,d,m,rfl,k,f⟩;cases m with
   | nil=>cases k
   | cons a m=>obtain ⟨y,i⟩:=a;have k:y::jT m=x::L:=k;injection k with h1 h2;subst h1;have:=f (y,i) (ap ..);exact ⟨b++[(y,i)],(qbV g).mpr ⟨b,d,i,this.1,this.2,rfl⟩,m,by simp,h2,λe c=>f e (ac _ c)⟩
theorem qi4 (h:rows.Nodup):(evS r x rows).Nodup:=by
 unfold evS;unfold g0;rw [List.pairwise_flatMap];constructor;·intro l hl;have:(aE r.toNat).Nodup:=fW;exact fN _ (λa b h=>λz=>by have:=List.append_cancel_left z;simp at this;exact h (by lia)) this
 ·refine et (λ{a b} c=>?_) h;intro y D z d e;obtain ⟨i,_,rfl⟩:=ah.mp D;obtain ⟨j,_,rfl⟩:=ah.mp d;exact c (List.append_inj_left' e rfl)
theorem qgt:∀ (L:List Str) (rows:List Ln),rows.Nodup->(EV r rows L).Nodup
 | [],rows,h=>h
 | x::L,rows,h=>qgt L _ (qi4 h)
abbrev EV0 (r:Int) (L:List Str):List Ln:=EV r [[]] L
theorem qbW (f:1<=r) {L:List Str} {l:Ln}:l∈EV0 r L↔jT l=L/\∀ e∈l,0<=e.2/\e.2 < r:=by
 rw [qeA f];constructor;·rintro ⟨b,a,m,rfl,h⟩;rw [au.mp a,bW];exact h
 ·intro h;exact ⟨[],au.mpr rfl,l,rfl,h⟩
theorem kw (f:Str->Int):∀ {L:List Str} {x:Str},x∈L->jw (L.map λx=>(x,f x)) x=f x
 | [],x,h=>by cases h
 | y::L,x,h=>by
  unfold jw;rw [aC];by_cases q:y=x;·subst q;rw [bx (by simp)];rfl
  ·rw [bg (by simpa using q)];rcases ae.mp h with h | h;·exact absurd h.symm q
   ·exact kw f h
theorem yE:∀ {l:Ln},(jT l).Nodup->l=(jT l).map λx=>(x,jw l x)
 | [],_=>rfl
 | (y,i)::l,h=>by
  have n:=aH.mp (show (y::jT l).Nodup from h);have j:=yE n.2;show (y,i)::l=(y,jw ((y,i)::l) y)::(jT l).map λx=>(x,jw ((y,i)::l) x)
  have e1:jw ((y,i)::l) y=i:=by unfold jw; rw [bx (by simp)]; rfl
  have e:((jT l).map λx=>(x,jw ((y,i)::l) x))=(jT l).map λx=>(x,jw l x):=by refine ck λx hx=>?_;have:y≠x:=λz=>n.1 (z ▸ hx);show (x,jw ((y,i)::l) x)=_;unfold jw;rw [bg (by simpa using this)]
  rw [e1,e,<-j]
theorem xC (f:Str->Int) (L:List Str):jT (L.map λx=>(x,f x))=L:=by unfold jT;rw [aR];exact f9 L
theorem Xx {α:Type} [DecidableEq α]:∀ {a b:List α},a.Nodup->(∀ x∈a,x∈b)->a.length<=b.length
 | [],b,_,_=>bo _
 | x::a,b,hn,h=>by
  have r:=aH.mp hn;have hx:=h x (ap ..);have j:=Xx (b:=b.erase x) r.2 λy D=>(fq (λz=>r.1 (by rw [<-z]; exact D))).mpr (h y (ac _ D));rw [cH hx] at j;have:=bS hx;rw [aq]
  lia
variable {β:Type}
theorem KQ [DecidableEq β] {A:List α} {B:List β} (f:α->β) (hA:A.Nodup) (d:∀ a∈A,f a∈B) (hi:∀ a∈A,∀ b∈A,f a=f b->a=b):A.length<=B.length:=by
 have h:(A.map f).Nodup:=by unfold g0;rw [dj];refine List.Pairwise.imp_of_mem (λ{a b} g e c=>λz=>c (hi a g b e z)) hA
 have:=Xx h (b:=B) λx hx=>by obtain ⟨a,g,rfl⟩:=ah.mp hx;exact d a g
 rwa [af] at this
noncomputable def PV (c:Str->List Int):List Str->List Ln
 | []=>[[]]
 | x::R=>(c x).flatMap λs=>(PV c R).map λl=>(x,s)::l
theorem qeB {γ:Type} (P:List β) (g:α->β->γ):∀ c:List α,(c.flatMap λs=>P.map (g s)).length=c.length * P.length
 | []=>by simp
 | a::c=>by
  rw [dh,ai,qeB P g c,af,aq,Nat.succ_mul]
  lia
theorem qeC (c:Str->List Int):∀ (R:List Str) (t:Int),(R.map λx=>((x,c x):Rt)).foldl (λa x=>a * (x.2.length:Int)) t=t * ((PV c R).length:Int)
 | [],t=>by simp [PV]
 | x::R,t=>by rw [aC,bN,qeC c R,show PV c (x::R)=(c x).flatMap λs=>(PV c R).map λl=>(x,s)::l from rfl,qeB,Int.natCast_mul,fR]
theorem Qz (c:Str->List Int):∀ {R:List Str} {l:Ln},l∈PV c R↔jT l=R/\∀ e∈l,e.2∈c e.1
 | [],l=>by
  constructor;·intro h;rw [au.mp h];exact ⟨rfl,by simp⟩
  ·rintro ⟨h,_⟩;cases l with
   | nil=>exact au.mpr rfl
   | cons a l=>cases h
 | x::R,l=>by
  unfold PV;rw [cR];constructor
  ·rintro ⟨s,d,h⟩;obtain ⟨b,hl,rfl⟩:=ah.mp h;obtain ⟨h1,h2⟩:=(Qz c).mp hl;refine ⟨by show x::jT b=_; rw [h1],λe i=>?_⟩;rcases ae.mp i with rfl | i;·exact d
   ·exact h2 e i
  ·rintro ⟨h1,h2⟩;cases l with
   | nil=>cases h1
   | cons a l=>obtain ⟨y,s⟩:=a;have h1:y::jT l=x::R:=h1;injection h1 with h3 h4;subst h3;exact ⟨s,h2 _ (ap ..),ah.mpr ⟨l,(Qz c).mpr ⟨h4,λe i=>h2 e (ac _ i)⟩,rfl⟩⟩
theorem qi5 (c:Str->List Int) (f:∀ x,(c x).Nodup):∀ R:List Str,(PV c R).Nodup
 | []=>by simp [PV]
 | x::R=>by
  unfold PV;unfold g0;rw [List.pairwise_flatMap];constructor;·intro s i;exact fN _ (λa b h=>λz=>by injection z with _ z; exact h z) (qi5 c f R)
  ·refine et (λ{a b} d=>?_) (f x);intro y D z g e;obtain ⟨l,_,rfl⟩:=ah.mp D;obtain ⟨m,_,rfl⟩:=ah.mp g;injection e with e _;injection e with _ e;exact d e
section
theorem Xy (n:kq seen.length r ns) (l:Ln):yc l seen r=ns↔Sol seen r ns (jw l):=by
 have a:∀ k p,seen[k]?=iE p->∃ i,ns[k]?=iE i/\nI ns k=i/\0<=i/\i < r:=λk p h=>by
  have t:k < ns.length:=by rw [n.1]; exact (aD.mp h).1
  refine ⟨ns[k],aw t,by unfold nI; rw [aw t]; rfl,n.2 _ (bt t)⟩
 constructor
 ·intro h k p hp;obtain ⟨i,e1,e,z,i1⟩:=a k p hp;rw [<-h] at e1;unfold yc at e1;rw [aF,hp] at e1;have e1:(jw l p.1+jw l p.2) % r=i:=by simpa using e1
  rw [e];apply Yi.mp;rw [e1,bD z i1]
 ·intro h;apply dg;intro k;unfold yc;rw [aF];cases hp:seen[k]? with
  | none=>
   have:ns[k]?=none:=by rw [List.getElem?_eq_none_iff] at hp ⊢;rw [n.1];exact hp
   rw [this];rfl
  | some p=>obtain ⟨i,e1,e,z,i1⟩:=a k p hp;have:=Yi.mpr (h k p hp);rw [e,bD z i1] at this;rw [e1,<-this];rfl
theorem Yj (S:Sn seen W) (D:y∈kW W):(qV W y).1∈kW W/\qV W (qV W y).1=((qV W y).1,[]):=by have h1:=S.R _ (jA D);have h2:(qV W y).1∈kW W:=ah.mpr ⟨_,h1,rfl⟩;have:=gf S.w.nd (jA h2) h1 rfl;refine ⟨h2,?_⟩;injection this
theorem Xz:x∈RT W↔x∈kW W/\(qV W x).1=x:=by unfold RT;rw [br,(qF _).mem_iff];simp
theorem qi6 (S:Sn seen W):(RT W).Nodup:=((qF _).nodup_iff.mpr S.w.nd).filter _
theorem count (S:Sn seen W) (O:1<=r) (hn:kq seen.length r ns):HM W seen r ns=(((EV0 r (LS seen)).filter λl=>decide (yc l seen r=ns)).length:Int)/\(BO W seen r ns=iG↔0 < ((EV0 r (LS seen)).filter λl=>decide (yc l seen r=ns)).length):=by
 have hA:∀ l,l∈(EV0 r (LS seen)).filter (λl=>decide (yc l seen r=ns))↔(jT l=LS seen/\∀ e∈l,0<=e.2/\e.2 < r)/\Sol seen r ns (jw l):=λl=>by rw [br,qbW O,decide_eq_true_eq,Xy hn]
 have C:((EV0 r (LS seen)).filter λl=>decide (yc l seen r=ns)).Nodup:=(qgt _ _ (by simp)).filter _;generalize (EV0 r (LS seen)).filter (λl=>decide (yc l seen r=ns))=A at hA C;have h:∀ l∈A,∀ x∈LS seen,0<=jw l x/\jw l x < r:=λl hl x hx=>by obtain ⟨⟨h1,h2⟩,_⟩:=(hA l).mp hl;exact h2 _ (yD (by rw [h1]; exact hx)).1
 unfold HM;cases U:BO W seen r ns with
 | some c=>
  have:A=[]:=by
   cases A with
   | nil=>rfl
   | cons l A=>have:=qgr S ((hA l).mp (ap ..)).2;rw [U] at this;cases this
  rw [this];simp
 | none=>
  have f:=qk4 O U;have L:∀ x∈RT W,x∈LS seen:=λx hx=>S.w.sub x (Xz.mp hx).1;have R:∀ c∈CL W 0 seen,c.1∈RT W:=λc i=>by obtain ⟨k,p,G,rfl⟩:=qi2 i;have hp:=(wc S.a p (bG G)).1;obtain ⟨h1,h2⟩:=Yj S hp;exact Xz.mpr ⟨h1,by show (qV W (qV W p.1).1).1=_; rw [h2]; rfl⟩
  have K:A.length<=(PV (ch W seen r ns) (RT W)).length:=by
   refine KQ (λl=>(RT W).map λx=>(x,jw l x)) C (λl hl=>?_) (λa H b g e=>?_);·refine (Qz _).mpr ⟨xC _ _,λe v=>?_⟩;obtain ⟨x,hx,rfl⟩:=ah.mp v;refine (f x _).mpr ⟨h l hl x (L x hx),λc i Q=>?_⟩;have:=qey S ((hA l).mp hl).2 c i;rw [Q] at this;exact this
   ·obtain ⟨⟨q,Y⟩,a3⟩:=(hA a).mp H;obtain ⟨⟨o,X⟩,b3⟩:=(hA b).mp g;have t:∀ x∈RT W,jw a x=jw b x:=λx hx=>by have h1:=kw (jw a) hx;have h2:=kw (jw b) hx;rw [<-h1,<-h2];exact congrArg (λl=>jw l x) e
    have B:∀ y∈LS seen,jw a y=jw b y:=λy D=>by
     have j:=S.a y D;obtain ⟨r1,r2⟩:=Yj S j;have N:(qV W y).1∈RT W:=Xz.mpr ⟨r1,by rw [r2]⟩;have I:=(S.w.path _ (jA j)).val a3;have T:=(S.w.path _ (jA j)).val b3;simp only [] at I T;rw [t _ N] at I;have h1:=h a H y D;have h2:=h b g y D;refine qdI ?_ h1.1 h1.2 h2.1 h2.2;have e1:jw a y - jw b y=(jw a y - qK ns (jw b (qV W y).1) (qV W y).2) - (jw b y - qK ns (jw b (qV W y).1) (qV W y).2):=by lia
     rw [e1];exact cT I T
    have n:(jT a).Nodup:=by rw [q]; exact qbM _
    have d:(jT b).Nodup:=by rw [o]; exact qbM _
    rw [yE n,yE d,q,o];exact ck λy D=>by rw [B y D]
  have J:(PV (ch W seen r ns) (RT W)).length<=A.length:=by
   refine KQ (λl=>(LS seen).map λx=>(x,vO W r ns (jw l) x)) (qi5 _ (λx=>qk5 O x) _) (λl hl=>?_) (λa H b g e=>?_)
   ·obtain ⟨l1,F⟩:=(Qz _).mp hl;have hok:∀ c∈CL W 0 seen,okS r ns c.2 (jw l c.1):=λc i=>by have:=F _ (yD (by rw [l1]; exact R c i)).1;exact ((f _ _).mp this).2 c i rfl
    have hs:=qi3 S hok;refine (hA _).mpr ⟨⟨xC _ _,λe v=>?_⟩,λk p G=>?_⟩;·obtain ⟨x,_,rfl⟩:=ah.mp v;exact ⟨cA _ (by lia),bZ _ (by lia)⟩
    ·have hp:=bG G;have m1:p.1∈LS seen:=ko.mpr ⟨p,hp,.inl rfl⟩;have Z:p.2∈LS seen:=ko.mpr ⟨p,hp,.inr rfl⟩;rw [kw (vO W r ns (jw l)) m1,kw (vO W r ns (jw l)) Z];exact hs k p G
   ·obtain ⟨q,Y⟩:=(Qz _).mp H;obtain ⟨o,X⟩:=(Qz _).mp g;have M:∀ x∈RT W,jw a x=jw b x:=λx hx=>by
     have m:=L x hx;have h1:=kw (vO W r ns (jw a)) m;have h2:=kw (vO W r ns (jw b)) m;have E:vO W r ns (jw a) x=vO W r ns (jw b) x:=by rw [<-h1,<-h2];exact congrArg (λl=>jw l x) e
     obtain ⟨k1,k2⟩:=Xz.mp hx;obtain ⟨_,r2⟩:=Yj S k1;rw [k2] at r2;unfold vO at E;rw [r2] at E;have E:jw a x % r=jw b x % r:=E;have V:=((f x _).mp (Y _ (yD (by rw [q]; exact hx)).1)).1;have c2:=((f x _).mp (X _ (yD (by rw [o]; exact hx)).1)).1;rwa [bD V.1 V.2,bD c2.1 c2.2] at E
    have n:(jT a).Nodup:=by rw [q]; exact qi6 S
    have d:(jT b).Nodup:=by rw [o]; exact qi6 S
    rw [yE n,yE d,q,o];exact ck λy D=>by rw [M y D]
  have u:A.length=(PV (ch W seen r ns) (RT W)).length:=fy K J;have s:0 < (PV (ch W seen r ns) (RT W)).length:=by
   have hl:((RT W).map λx=>(x,((ch W seen r ns x).head?).getD 0))∈PV (ch W seen r ns) (RT W):=(Qz _).mpr ⟨xC _ _,λe v=>by
    obtain ⟨x,_,rfl⟩:=ah.mp v;show ((ch W seen r ns x).head?).getD 0∈ch W seen r ns x;have P:ch W seen r ns x≠[]:=by
     unfold ch rW;split
     ·intro z;have:=congrArg iw z;simp at this
      lia
     ·split <;> simp
    cases i:ch W seen r ns x with
    | nil=>exact absurd i P
    | cons a l=>exact ap ..⟩
   exact bS hl
  refine ⟨?_,λ_=>by rw [u]; exact s,λ_=>rfl⟩;have:=qeC (ch W seen r ns) (RT W) 1;rw [iA,<-u] at this;exact this
end
noncomputable def al (x y:Str×Str):Bool:=decide (x=y)||decide (x=(y.2,y.1))
theorem XA {x y:Str×Str}:al x y=iJ↔x=y\/x=(y.2,y.1):=by simp [al]
theorem qgu (x:Str×Str):al x x=true:=XA.mpr (.inl rfl)
noncomputable def pa (l:List (Str×Str)) (i:Nat):Str×Str:=(l[i]?).getD ("", "")
variable {i:Nat}
theorem qeD (h:i < l.length):(qo l)[i]?=iE (pD (pa l i)):=by unfold qo pa;rw [aF,aw h];rfl
noncomputable def grp (l:List (Str×Str)) (i:Nat):List Nat:=(aE l.length).filter λj=>al (pa l i) (pa l j)
noncomputable def Gh (l:List (Str×Str)) (i:Nat):Bool:=(aE i).all λj=>!al (pa l i) (pa l j)
noncomputable def AL (l:List (Str×Str)):List (List Nat):=((aE l.length).filter (Gh l)).map (grp l)
theorem XB:Gh l i=iJ↔∀ j,j < i->al (pa l i) (pa l j)=false:=by unfold Gh;rw [aJ];simp
theorem qdK (h:i < l.length):∃ k rest,grp l i=k::rest/\(k=i↔Gh l i=iJ):=by
 have e:aE l.length=aE i++i::dD (i+1) (l.length - i - 1):=by rw [List.range_eq_range',List.range_eq_range',<-List.range'_succ];have:=List.range'_append_1 (s:=0) (m:=i) (n:=l.length - i - 1+1);rw [Nat.zero_add] at this;rw [this];congr 1;omega
 unfold grp;rw [e,List.filter_append,d8 (p:=λj=>al (pa l i) (pa l j)) (qgu _)];cases q:(aE i).filter λj=>al (pa l i) (pa l j) with
 | nil=>refine ⟨i,_,rfl,λ_=>XB.mpr λj G=>?_,λ_=>rfl⟩;have:=List.filter_eq_nil_iff.mp q j (aM.mpr G);simpa using this
 | cons k t=>
  have a:k∈(aE i).filter λj=>al (pa l i) (pa l j):=by rw [q]; exact ap ..
  obtain ⟨h1,h2⟩:=br.mp a;have h1:=aM.mp h1;refine ⟨k,_,rfl,λz=>absurd z (by omega),λz=>?_⟩;have:=XB.mp z k h1;rw [this] at h2;cases h2
noncomputable def gD (g:List Nat):D:=.lst (g.map λ(j:Nat)=>.int j)
theorem zF (x y:Str×Str):jL [pD x,pD y]=.ok (.bl (al x y),[.non,.non]):=by
 obtain ⟨a,b⟩:=x;obtain ⟨c,d⟩:=y;refine qr.trans ?_;have h:2<=sizeLine:=jb (by omega);by_cases h1:a=c/\b=d;·obtain ⟨rfl,rfl⟩:=h1;simp [yw,qt,pD,eqD,eqN,wS,eqS,al]
 ·have e1:(a == c&&b == d)=false:=by
   cases q:(a == c&&b == d) with
   | false=>rfl
   | true=>simp at q; exact absurd q h1
  have i:¬((a,b)=(c,d)):=λz=>h1 ⟨congrArg Prod.fst z,congrArg Prod.snd z⟩;have E:(a == d&&b == c)=decide ((a,b)=(d,c)):=by
   by_cases q:(a,b)=(d,c)
   ·rw [Ad q];cases q;simp
   ·rw [Ac q];cases g:(a == d&&b == c) with
    | false=>rfl
    | true=>simp at g; exact absurd (by rw [g.1,g.2]) q
  have l:al (a,b) (c,d)=decide ((a,b)=(d,c)):=by unfold al;rw [Ac i];rfl
  rw [l,<-E];simp [yw,qt,pD,eqD,eqN,wS,eqS,e1,ixD,atI,ixN,h]
theorem gi:zL (qo l)=(aE l.length).map λ(j:Nat)=>.tup [.int j,pD (pa l j)]:=by
 refine dg λj=>?_;unfold zL;rw [aF,aF,List.getElem?_zipIdx];by_cases h:j < l.length;·rw [qeD h,List.getElem?_range h];simp
 ·have n:(qo l).length=l.length:=by simp [qo]
  rw [bA (by omega),bA (by simp; omega)];rfl
abbrev qk6:qR:=(qN (jx 6 (qI [3] 2 [5] (ue (qd 2)) (jo 2 (qu (gNm 0) (qu (gNm 1) jn))) (we (ql [.vl,.vl] jL (qc (qd 2) (qc (qd 1) qx)))) (qd 0)))
  (sIf (qL (d2 eqD (d2 ixD (qd 6) (dC (.int 0))) (qd 4))) (ki (xE 3 QE (qd 6))) jk))
theorem qdL (hl:l.length<=100) {a b c d x:Option D} (o:5∉own):qI own 2 [5] (ue (qd 2)) (jo 2 (qu (gNm 0) (qu (gNm 1) jn))) (we (ql [.vl,.vl] jL (qc (qd 2) (qc (qd 1) qx)))) (qd 0) [a,b,iE (.lst (qo l)),c,d,iE (pD (pa l i)),x]
  = .ok (gD (grp l i),[a,b,iE (.lst (qo l)),c,d,iE (pD (pa l i)),x]):=by
 have e:=qbu (own:=own) (cap:=[5]) (fi:=ue (qd 2)) (ft:=we (ql [.vl,.vl] jL (qc (qd 2) (qc (qd 1) qx)))) (fe:=qd 0) (ρ:=[a,b,iE (.lst (qo l)),c,d,iE (pD (pa l i)),x]) (ρ1:=[a,b,iE (.lst (qo l)),c,d,iE (pD (pa l i)),x])
  (ps:=(aE l.length).map λ(j:Nat)=>(D.int j,pD (pa l j))) (λp=>match p.1 with | .int j=>al (pa l i) (pa l j.toNat) | _=>iI) (λp=>p.1) (by simpa using o) (by simp [ue,gi,Function.comp_def]) (by simp; exact jb (by omega))
  (λp hp=>by obtain ⟨j,G,rfl⟩:=ah.mp hp;have h:=zF (pa l i) (pa l j);simp [h]) (λp hp _=>rfl)
 rw [e];congr 2;unfold gD grp;congr 1;rw [fz,aR];rfl
theorem zc (hl:l.length<=100) (a b:Option D):∀ (s:List Nat) (f:List D) (x y z:Option D),(∀ j∈s,j < l.length)->f.length+s.length<=100 ->∃ n g p,jR (jo 2 (qu (gNm 4) (qu (gNm 5) jn))) qk6 (s.map λ(j:Nat)=>.tup [.int j,pD (pa l j)]) [a,b,iE (.lst (qo l)),iE (.lst f),x,y,z]
   = .ok (.nx,[a,b,iE (.lst (qo l)),iE (.lst (f++((s.filter (Gh l)).map λi=>gD (grp l i)))),n,g,p])
 | [],f,x,y,z,_,_=>⟨x,y,z,by simp [jR]⟩
 | j::s,f,x,y,z,hj,hf=>by
  rw [aq] at hf;have t:f.length < sizeLine:=aI (by omega) big;have m:=qdL hl (a:=a) (b:=b) (c:=iE (.lst f)) (d:=iE (.int j)) (x:=z) (i:=j) (own:=[3]) (by simp);obtain ⟨k,rest,hg,h⟩:=qdK (hj j (ap ..));have o:atI ((grp l j).map λ(j:Nat)=>D.int j) 0=iE (.int k):=by rw [show (0:Int)=((0:Nat):Int) from rfl,kL,hg];rfl
  by_cases q:k=j;·obtain ⟨n,g,p,e⟩:=zc hl a b s (f++[gD (grp l j)]) (iE (.int j)) (iE (pD (pa l j))) (iE (gD (grp l j))) (λi hi=>hj i (ac _ hi)) (by rw [ai]; simp; omega);refine ⟨n,g,p,?_⟩;rw [d8 (h.mp q),show f++((j::s.filter (Gh l)).map λi=>gD (grp l i))=f++[gD (grp l j)]++((s.filter (Gh l)).map λi=>gD (grp l i)) by simp,<-e];have h1:gD (grp l j)=.lst ((grp l j).map λ(j:Nat)=>D.int j):=rfl;simp [jR,jo,qu,jn,qk6,m,h1,ixD,o,eqD,eqN,eqS,q,wQ,QE,t]
  ·obtain ⟨n,g,p,e⟩:=zc hl a b s f (iE (.int j)) (iE (pD (pa l j))) (iE (gD (grp l j))) (λi hi=>hj i (ac _ hi)) (by omega);refine ⟨n,g,p,?_⟩;have u:¬Gh l j=true:=λz=>q (h.mpr z);have r:¬((k:Int)=(j:Int)):=by omega
   rw [List.filter_cons_of_neg u,<-e];have h1:gD (grp l j)=.lst ((grp l j).map λ(j:Nat)=>D.int j):=rfl;simp [jR,jo,qu,jn,qk6,m,h1,ixD,o,eqD,eqN,eqS,r]
noncomputable def ALd (l:List (Str×Str)):D:=.lst ((AL l).map gD)
theorem KR (ws:List Str) (p q:Int):(qy ws p q).length=ws.length:=by simp [qy]
theorem XC (w:qX ws) (hl:JD p q):Km [Wd ws,Ld p q]=.ok (ALd (qy ws p q),[.non,.non]):=by
 refine qr.trans ?_;have h:=xy w hl;have c:=KR ws p q;have d:=w.2.1;obtain ⟨n,s,z,e⟩:=zc (l:=qy ws p q) (by omega) (iE (Wd ws)) (iE (Ld p q)) (aE (qy ws p q).length) [] iG iG iG (λj G=>aM.mp G) (by simp; omega);have a:((aE (qy ws p q).length).filter (Gh (qy ws p q))).map (λi=>gD (grp (qy ws p q) i))=(AL (qy ws p q)).map gD:=by unfold AL;rw [aR];rfl
 rw [bW,a,<-gi] at e;have b:0<=sizeLine:=bo _;simp [qa3,qt,h,ue,e,ALd]
abbrev qdM:qR:=(sIf (we (ql [.vl,.vl] jL (qc (d2 ixD (qd 0) (qd 3)) (qc (qd 2) qx)))) (jt (yP (qc (qd 3) (qc (qd 1) qx)))) jk)
abbrev qdN:qR:=(zI (kr (qd 1)) (gNm 3) qdM)
abbrev clP (l:List (Str×Str)) (i j:Nat):Bool:=al (pa l j) (pa l i)
theorem XD {i:Nat}:∀ (s:List Nat) (x:Option D),(∀ j∈s,j < l.length) ->(∃ n,jR (gNm 3) qdM (s.map λ(j:Nat)=>.int j) [iE (.lst (qo l)),iE (.int i),iE (pD (pa l i)),x]=.ok (.nx,[iE (.lst (qo l)),iE (.int i),iE (pD (pa l i)),n])/\s.find? (clP l i)=iG)
  \/ ∃ a ρ',s.find? (clP l i)=iE a/\jR (gNm 3) qdM (s.map λ(j:Nat)=>.int j) [iE (.lst (qo l)),iE (.int i),iE (pD (pa l i)),x]=.ok (.rt (.tup [.int a,.int i]),ρ')
 | [],x,_=>.inl ⟨x,rfl,rfl⟩
 | j::s,x,hj=>by
  have h:=zF (pa l j) (pa l i);have hg:=qeD (hj j (ap ..));have z:2<=sizeLine:=jb (by omega);rw [cy];cases q:al (pa l j) (pa l i) with
  | true=>rw [q] at h;have q:clP l i j=true:=q;rw [q];exact .inr ⟨j,_,rfl,by simp [jR,qdM,ixD,kL,hg,h,z]; rfl⟩
  | false=>
   rw [q] at h;have q:clP l i j=false:=q;rw [q];have s1:jR (gNm 3) qdM ((j::s).map λ(j:Nat)=>.int j) [iE (.lst (qo l)),iE (.int i),iE (pD (pa l i)),x]=jR (gNm 3) qdM (s.map λ(j:Nat)=>.int j) [iE (.lst (qo l)),iE (.int i),iE (pD (pa l i)),iE (.int j)]:=by simp [jR,qdM,ixD,kL,hg,h]
   rw [s1];exact XD s (iE (.int j)) (λk b=>hj k (ac _ b))
theorem qlJ (n:Nat):zZ 0 n=(aE n).map λ(j:Nat)=>.int j:=by unfold zZ;simp
theorem iR1 {f:qY} (h:f ρ=.ok (.int n,ρ1)) (a:n<=2000):kr f ρ=.ok ((aE n).map λ(j:Nat)=>.int j,ρ1):=by rw [iR0 (by omega) (by omega) h,qlJ,cB]
abbrev clS (l:List (Str×Str)) (i:Nat) (z:Option D):Sl:=[iE (.lst (qo l)),iE (.int i),iE (pD (pa l i)),z]
theorem qdO (hl:l.length<=100) (hi:i < l.length) (z:Option D):(∃ x,qdN (clS l i z)=.ok (.nx,clS l i x)/\(aE i).find? (clP l i)=iG)
  \/ ∃ a ρ',(aE i).find? (clP l i)=iE a/\qdN (clS l i z)=.ok (.rt (.tup [.int a,.int i]),ρ'):=by
 have h:=iR1 (f:=qd 1) (ρ:=clS l i z) (ρ1:=clS l i z) (n:=i) rfl (by omega);have e0:qdN (clS l i z)=jR (gNm 3) qdM ((aE i).map λ(j:Nat)=>.int j) (clS l i z):=by show (kr (qd 1) (clS l i z)).bind (λp=>jR (gNm 3) qdM p.1 p.2)=_;rw [h,jr]
 rw [e0];exact XD (l:=l) (i:=i) (aE i) z (λj G=>by have:=aM.mp G; omega)
noncomputable def clF (l:List (Str×Str)) (i:Nat):Option (Nat×Nat):=((aE i).find? (clP l i)).map λa=>(a,i)
theorem qbX {B:qR} (m:∀ i,i < l.length->∀ z,(∃ c,B (clS l i z)=.ok (.nx,clS l i c)/\(aE i).find? (clP l i)=iG)
  \/ ∃ a ρ',(aE i).find? (clP l i)=iE a/\B (clS l i z)=.ok (.rt (.tup [.int a,.int i]),ρ')):∀ (is:List Nat) (x y z:Option D),(∀ i∈is,i < l.length) ->
  (∃ c s p,jR (jo 2 (qu (gNm 1) (qu (gNm 2) jn))) B (is.map λ(j:Nat)=>.tup [.int j,pD (pa l j)]) [iE (.lst (qo l)),x,y,z]=.ok (.nx,[iE (.lst (qo l)),c,s,p])/\is.findSome? (clF l)=iG)
  \/ ∃ (a b:Nat) (ρ':Sl),is.findSome? (clF l)=iE (a,b)/\jR (jo 2 (qu (gNm 1) (qu (gNm 2) jn))) B (is.map λ(j:Nat)=>.tup [.int j,pD (pa l j)]) [iE (.lst (qo l)),x,y,z]=.ok (.rt (.tup [.int a,.int b]),ρ'):=by
 intro is
 induction is with
 | nil=>exact λx y z _=>.inl ⟨x,y,z,rfl,rfl⟩
 | cons i is h=>
  intro x y z hi;rw [List.findSome?_cons];rcases m i (hi i (ap ..)) z with ⟨c,e,n⟩ | ⟨a,ρ',g,e⟩
  ·have s1:jR (jo 2 (qu (gNm 1) (qu (gNm 2) jn))) B ((i::is).map λ(j:Nat)=>.tup [.int j,pD (pa l j)]) [iE (.lst (qo l)),x,y,z]=jR (jo 2 (qu (gNm 1) (qu (gNm 2) jn))) B (is.map λ(j:Nat)=>.tup [.int j,pD (pa l j)]) (clS l i c):=by simp [jR,jo,qu,jn,e]
   have d:clF l i=none:=by unfold clF; rw [n]; rfl
   rw [s1,d];exact h (iE (.int i)) (iE (pD (pa l i))) c (λk f=>hi k (ac _ f))
  ·have d:clF l i=iE (a,i):=by unfold clF; rw [g]; rfl
   rw [d];refine .inr ⟨a,i,ρ',rfl,?_⟩;simp [jR,jo,qu,jn,e]
noncomputable def clo (l:List (Str×Str)):Option (Nat×Nat):=(aE l.length).findSome? (clF l)
noncomputable def clD:Option (Nat×Nat)->D
 | none=>.non
 | some x=>.tup [.int x.1,.int x.2]
theorem QA (hl:l.length<=100):kY [.lst (qo l)]=.ok (clD (clo l),[.non]):=by
 refine qr.trans ?_;rcases qbX (l:=l) (B:=qdN) (λi hi z=>qdO (by omega) hi z) (aE l.length) iG iG iG (λj G=>aM.mp G) with ⟨x,s,p,e,n⟩ | ⟨a,b,ρ',n,e⟩
 all_goals
  rw [<-gi] at e;have n:clo l=_:=n;rw [n];simp [Jj,qt,ue,e,clD]
theorem qgv (w:qX ws) (hl:JD p q) (e:kY [.lst (qo (qy ws p q))]=.ok (d,[.non])):UC [Wd ws,Ld p q]=.ok (d,[.non,.non]):=by have h:=xy w hl;refine qr.trans ?_;simp [qa0,qt,h,e]
noncomputable def co (x:Str×Str) (c:Str):Int:=(if x.1=c then 1 else 0)+if x.2=c then 1 else 0
noncomputable def cn (K:List (Str×Str)) (c:Str):Int:=(K.map λx=>co x c).sum
theorem qdP (x:Str×Str) (c:Str):0<=co x c/\co x c<=2:=by unfold co;split <;> split <;> lia
theorem qbY (x:Str×Str) (c:Str):yf (pD x) (.str c)=.ok (.int (co x c)):=by obtain ⟨a,b⟩:=x;have h:=vZ c [a,b];have h:QU 7 (.str c) [.str a,.str b]=iE (decide (c∈[a,b])):=h;unfold yf co;simp only [h];by_cases q:a=c <;> by_cases d:b=c <;> simp [eqN,eqS,q,d]
theorem qbZ {l:List Int} (h1:l.length<=1000) (h2:∀ k∈l,0<=k/\k<=100000):Ka (.lst (l.map D.int))=.ok (.int l.sum):=by
 have:l.length<=1000/\(l.all λk=>decide (0<=k/\k<=100000))=true:=⟨h1,aJ.mpr λk h=>Ad (h2 k h)⟩
 simp only [Ka,VR,Aa this]
variable {K:List (Str×Str)}
theorem qgw (n:K.length<=100) (c:Str) (a b:Option D):qI [] 1 [3] (jl (qd 1)) (gNm 0) ftT (dM qg0 yf (qd 0) (qd 1)) [a,iE (.lst (qo K)),b,iE (.str c)]=.ok (.lst ((K.map λx=>co x c).map D.int),[a,iE (.lst (qo K)),b,iE (.str c)]):=by have e:=vJ (cap:=[3]) (fi:=jl (qd 1)) (ρ:=[a,iE (.lst (qo K)),b,iE (.str c)]) (ρ1:=[a,iE (.lst (qo K)),b,iE (.str c)]) (ds:=qo K) (fe:=dM qg0 yf (qd 0) (qd 1)) (λd=>match d with | .tup [.str x,.str y]=>.int (co (x,y) c) | d=>d) (by simp [jg]) (by unfold qo; rw [af]; exact jb (by lia)) (λd hd=>by obtain ⟨x,hx,rfl⟩:=ah.mp hd;have h:=qbY x c;have h:yf (.tup [.str x.1,.str x.2]) (.str c)=.ok (.int (co x c)):=h;simp [dM,qg0,h]);rw [e];congr 2;simp [qo]
theorem qeE (K L:List (Str×Str)) (c:Str):cn (K++L) c=cn K c+cn L c:=by unfold cn;rw [bV,hJ]
theorem qi7 (K:List (Str×Str)) (c:Str):0<=cn K c:=by
 induction K with
 | nil=>exact Int.le_refl _
 | cons x K j=>
  have:=qdP x c;show 0<=co x c+cn K c
  lia
theorem qi8:∀ {K L:List (Str×Str)},K.Sublist L->∀ c,cn K c<=cn L c:=by
 intro K L h
 induction h with
 | slnil=>intro c; exact Int.le_refl _
 | cons x h j=>
  intro c;have:=qdP x c;have:=j c;show _<=co x c+cn _ c
  lia
 | cons_cons x h j=>
  intro c;have:=j c;show co x c+cn _ c<=co x c+cn _ c
  lia
def NA (K:List (Str×Str)):Prop:=K.Pairwise λx y=>al x y=iI
abbrev Cn:=List Str×List Str
abbrev sE (l:List Str):D:=.lst (l.map D.str)
noncomputable def cE (c:Cn):D:=.tup [sE c.1,sE c.2]
noncomputable def st1 (c:Cn) (y:Str):Cn:=if y∈c.1 then (c.1.erase y,c.2) else (c.1,c.2++[y])
noncomputable def un (x y:Str×Str):Cn:=st1 (st1 ([x.1,x.2],[]) y.1) y.2
abbrev unB:qR:=(sIf (qL (d2 inA (qd 4) (qd 2))) (ki (xE 2 qfQ (qd 4))) (ki (xE 3 QE (qd 4))))
theorem qk7 (y:Str) (l:List Str):inA (.str y) (sE l)=.ok (.bl (decide (y∈l))):=by show (inD (.str y) (.lst (l.map D.str))).bind _=_;unfold inD;simp only [vZ];rfl
variable {c:Cn}
theorem qb0 {a b:Option D} (h2:c.2.length<=2) (y:Str):unB [a,b,iE (sE c.1),iE (sE c.2),iE (.str y)]=.ok (.nx,[a,b,iE (sE (st1 c y).1),iE (sE (st1 c y).2),iE (.str y)]):=by
 have h:=qk7 y c.1;have z:c.2.length < sizeLine:=aI (by lia) big;unfold st1;by_cases q:y∈c.1
 ·rw [Aa q];have f:qfQ (c.1.map D.str) (.str y)=.ok ((c.1.erase y).map D.str):=by unfold qfQ;simp only [vw,Aa q]
  simp [unB,h,q,xE,wQ,sE,f]
 ·rw [Ab q];have g:QE (c.2.map D.str) (.str y)=.ok ((c.2++[y]).map D.str):=by unfold QE;rw [af,Aa z];simp
  simp [unB,h,q,xE,wQ,sE,g]
theorem Yk (c:Cn) (y:Str):(st1 c y).1.length<=c.1.length/\(st1 c y).2.length<=c.2.length+1:=by
 unfold st1;split;·exact ⟨List.length_erase_le,fm _⟩
 ·simp
theorem qi9 (x y:Str×Str):(un x y).1.length<=2/\(un x y).2.length<=2:=by
 have h1:=Yk ([x.1,x.2],[]) y.1;have h2:=Yk (st1 ([x.1,x.2],[]) y.1) y.2;unfold un;simp at h1
 lia
theorem qme {B:qR} {d1 d2:D} {d k a:Sl} (h1:g d1 d=.ok ρ1) (h2:B ρ1=.ok (.nx,ρ2)) (i:g d2 ρ2=.ok k) (h:B k=.ok (.nx,a)):jR g B [d1,d2] d=.ok (.nx,a):=by simp [jR,h1,h2,i,h]
theorem Yl (x y:Str×Str):ku [pD x,pD y]=.ok (cE (un x y),[.non,.non]):=by
 refine qr.trans ?_;have h1:=Yk ([x.1,x.2],[]) y.1;have e1:=qb0 (a:=iE (pD x)) (b:=iE (pD y)) (c:=([x.1,x.2],[])) (by simp) y.1;have i:=qb0 (a:=iE (pD x)) (b:=iE (pD y)) (c:=st1 ([x.1,x.2],[]) y.1) (by simp at h1; lia) y.2;have z:2<=sizeLine:=jb (by lia);have h:0<=sizeLine:=bo _;have E:jR (gNm 4) unB [.str y.1,.str y.2] [iE (pD x),iE (pD y),iE (sE [x.1,x.2]),iE (sE []),iG]=.ok (.nx,[iE (pD x),iE (pD y),iE (sE (un x y).1),iE (sE (un x y).2),iE (.str y.2)]):=by have e:unB [iE (pD x),iE (pD y),iE (sE [x.1,x.2]),iE (sE []),iE (.str y.1)]=_:=e1;exact qme rfl e rfl i
 unfold Jm;rw [show qt Jl [pD x,pD y]=[iE (pD x),iE (pD y),iG,iG,iG] from rfl];refine (qv (ρ1:=[iE (pD x),iE (pD y),iE (sE [x.1,x.2]),iG,iG]) (by simp [VC,sE,z])).trans ?_;refine (qv (ρ1:=[iE (pD x),iE (pD y),iE (sE [x.1,x.2]),iE (sE []),iG]) (by simp [sE])).trans ?_;refine (qv (ρ1:=[iE (pD x),iE (pD y),iE (sE (un x y).1),iE (sE (un x y).2),iE (.str y.2)]) (by rw [vg,show jl (qd 1) [iE (pD x),iE (pD y),iE (sE [x.1,x.2]),iE (sE []),iG]=.ok ([.str y.1,.str y.2],[iE (pD x),iE (pD y),iE (sE [x.1,x.2]),iE (sE []),iG]) from rfl,jr];exact E)).trans ?_;simp [cE,z]
noncomputable def CT (l:List (Str×Str)):List Cn:=(aE l.length).flatMap λj=>(l.take j).map λa=>un a (pa l j)
abbrev ctB:qR:=(ki (xE 1 qcP (qI [1] 1 [3] (jl (vh (qd 0) iG (iE (qd 2)))) (gNm 0) ftT (ql [.vl,.vl] ku (qc (qd 0) (qc (qd 1) qx))))))
variable {j:Nat}
theorem qgx (hl:l.length<=10) (G:j < l.length) (f:Option D):qI [1] 1 [3] (jl (vh (qd 0) iG (iE (qd 2)))) (gNm 0) ftT (ql [.vl,.vl] ku (qc (qd 0) (qc (qd 1) qx))) [iE (.lst (qo l)),f,iE (.int j),iE (pD (pa l j))]
  = .ok (.lst (((l.take j).map λa=>un a (pa l j)).map cE),[iE (.lst (qo l)),f,iE (.int j),iE (pD (pa l j))]):=by
 have c:qdg (qo l) iG (iE (j:Int))=qo (l.take j):=by
  unfold qdg;rw [HT.sIx_none,HT.sIx_nat];have:(qo l).length=l.length:=by simp [qo]
  rw [this,show min j l.length - 0=j by lia];simp [qo]
 have hi:jl (vh (qd 0) iG (iE (qd 2))) [iE (.lst (qo l)),f,iE (.int j),iE (pD (pa l j))]=.ok (qo (l.take j),[iE (.lst (qo l)),f,iE (.int j),iE (pD (pa l j))]):=by simp [jl,vh,JU,qim,c,jg]
 have e:=UX (own:=[1]) (cap:=[3]) (fi:=jl (vh (qd 0) iG (iE (qd 2)))) (ρ:=[iE (.lst (qo l)),f,iE (.int j),iE (pD (pa l j))]) (ρ1:=[iE (.lst (qo l)),f,iE (.int j),iE (pD (pa l j))]) (ds:=qo (l.take j)) (fe:=ql [.vl,.vl] ku (qc (qd 0) (qc (qd 1) qx))) (λd=>match d with | .tup [.str x,.str y]=>cE (un (x,y) (pa l j)) | d=>d) (by simp) hi (by simp only [qo,af,bY]; exact jb (by lia)) (λd hd=>by obtain ⟨x,hx,rfl⟩:=ah.mp hd;have h:=Yl x (pa l j);have h:ku [.tup [.str x.1,.str x.2],pD (pa l j)]=.ok (cE (un x (pa l j)),[.non,.non]):=h;simp [h]);rw [e];congr 2;unfold qo;rw [aR,aR];rfl
theorem qb1 (hl:l.length<=10):∀ (s:List Nat) (f:List Cn) (x y:Option D),(∀ j∈s,j < l.length)->f.length+10 * s.length<=500 ->∃ n b,jR (jo 2 (qu (gNm 2) (qu (gNm 3) jn))) ctB (s.map λ(j:Nat)=>.tup [.int j,pD (pa l j)]) [iE (.lst (qo l)),iE (.lst (f.map cE)),x,y]
   = .ok (.nx,[iE (.lst (qo l)),iE (.lst ((f++s.flatMap λj=>(l.take j).map λa=>un a (pa l j)).map cE)),n,b])
 | [],f,x,y,_,_=>⟨x,y,by simp [jR]⟩
 | j::s,f,x,y,hj,hf=>by
  rw [aq] at hf;have h:=hj j (ap ..);have ht:(l.take j).length<=10:=by rw [bY]; lia
  obtain ⟨n,b,e⟩:=qb1 hl s (f++(l.take j).map λa=>un a (pa l j)) (iE (.int j)) (iE (pD (pa l j))) (λi hi=>hj i (ac _ hi)) (by rw [ai,af]; lia);refine ⟨n,b,?_⟩;rw [dh,<-aV,<-e];have d:=qgx hl h (iE (.lst (f.map cE)));have z:(f.map cE).length+(((l.take j).map λa=>un a (pa l j)).map cE).length<=sizeLine:=by rw [af,af,af]; exact jb (by lia)
  have hx:qcP (f.map cE) (.lst (((l.take j).map λa=>un a (pa l j)).map cE))=.ok ((f++(l.take j).map λa=>un a (pa l j)).map cE):=by unfold qcP;simp only [Aa z,<-bV]
  generalize ((l.take j).map λa=>un a (pa l j)).map cE=M at d hx;generalize (f++(l.take j).map λa=>un a (pa l j)).map cE=M2 at hx ⊢;generalize f.map cE=M1 at d hx ⊢;generalize D.lst (qo l)=Z at d ⊢;simp [jR,jo,qu,jn,ctB,xE,wQ,d,hx]
theorem WF (hl:l.length<=10):vN [.lst (qo l)]=.ok (.lst ((CT l).map cE),[.non]):=by refine qr.trans ?_;obtain ⟨n,s,e⟩:=qb1 hl (aE l.length) [] iG iG (λj G=>aM.mp G) (by simp; lia);rw [<-gi] at e;have e:jR (jo 2 (qu (gNm 2) (qu (gNm 3) jn))) ctB (zL (qo l)) [iE (.lst (qo l)),iE (.lst []),iG,iG]=.ok (.nx,[iE (.lst (qo l)),iE (.lst ((CT l).map cE)),n,s]):=e;have a:0<=sizeLine:=bo _;generalize (CT l).map cE=M at e ⊢;simp [yh,qt,ue,e]
theorem qja (l:List (Str×Str)) (hl:l.length<=10):(CT l).length<=100:=by
 unfold CT;have:∀ s:List Nat,(s.flatMap λj=>(l.take j).map λa=>un a (pa l j)).length<=10 * s.length:=λs=>by
  induction s with
  | nil=>simp
  | cons j s i=>
   rw [dh,ai,af,bY,aq]
   lia
 have:=this (aE l.length);rw [bK] at this
 lia
theorem qeF (h:c∈CT l):c.1.length<=2/\c.2.length<=2:=by obtain ⟨j,_,h⟩:=cR.mp h;obtain ⟨a,_,rfl⟩:=ah.mp h;exact qi9 a _
abbrev Fx:=List (Key×D)
def qdQ (k:Fx):Prop:=∀ kv∈k,∃ v:Int,kv.2=.int v/\0<=v/\v<=1000
noncomputable def vl (k:Fx) (x:Str):Int:=match k.find? λkv=>decide (kv.1=aU x) with
 | some (_,.int v)=>v
 | _=>0
theorem qjb {k:Fx} (a:qdQ k) (h:kJ k (.inr x)=iJ):ixD (.dct k) (.str x)=.ok (.int (vl k x))/\0<=vl k x/\vl k x<=1000:=by
 unfold kJ at h;cases q:k.find? λkv=>decide (kv.1=aU x) with
 | none=>rw [bP] at q;obtain ⟨p,hp,h⟩:=eY.mp h;exact absurd h (q p hp)
 | some kv=>
  obtain ⟨v,e,h1,h2⟩:=a kv (bv q);obtain ⟨k0,d⟩:=kv;have e:d=.int v:=e;subst e;have i:vl k x=v:=by unfold vl; simp only [q]
  rw [i];exact ⟨by unfold ixD; simp only [q],h1,h2⟩
theorem qk8 {Cs:List α} {cap:List Nat} {fi:wT} {fe:qY} (A B:α->D) (h:fi ρ=.ok (Cs.map A,ρ)) (hl:Cs.length<=sizeLine)
  (ht:∀ c∈Cs,fe (iE (A c)::cap.map λk=>(ρ[k]?).getD iG)=.ok (B c,iE (A c)::cap.map λk=>(ρ[k]?).getD iG)):qI [] 1 cap fi (gNm 0) ftT fe ρ=.ok (.lst (Cs.map B),ρ):=by
 have key:∀ (l:List α) (x:Option D),(∀ c∈l,c∈Cs)->∃ n,jG (gNm 0) ftT fe (l.map A) (x::cap.map λk=>(ρ[k]?).getD iG)=.ok (l.map B,n::cap.map λk=>(ρ[k]?).getD iG):=by
  intro l
  induction l with
  | nil=>intro x _; exact ⟨x,rfl⟩
  | cons c l j=>intro x a;obtain ⟨n,e⟩:=j (iE (A c)) λd hd=>a d (ac _ hd);have h1:=ht c (a c (ap ..));exact ⟨n,by simp [jG,yV,h1,e]⟩
 obtain ⟨n,e⟩:=key Cs iG λ_ h=>h;unfold qI;rw [h];simp only [jr];rw [Aa (by rw [af]; exact hl),show kE 1 cap ρ=iG::cap.map λk=>(ρ[k]?).getD iG from rfl,e];simp only [jr];rw [wb (own:=[]) _ cap 1 ρ λ_ _=>bb]
noncomputable def md (r:Int) (k:Fx) (c:Cn):Bool:=if ((c.1++c.2).all λx=>kJ k (.inr x))=iJ then decide (¬((c.1.map (vl k)).sum - (c.2.map (vl k)).sum) % r=0) else iJ
theorem XE {k:Fx} (a:qdQ k) (j:Nat) {l:List Str} (hl:l.length<=2) (g:∀ x∈l,kJ k (.inr x)=iJ) (h1:ρ[j]?=iE (iE (sE l))) (h2:ρ[2]?=iE (iE (.dct k))):d1 Ka (qI [] 1 [2] (jl (qd j)) (gNm 0) ftT (d2 ixD (qd 1) (qd 0))) ρ=.ok (.int (l.map (vl k)).sum,ρ):=by
 have e:=vJ (cap:=[2]) (fi:=jl (qd j)) (ρ:=ρ) (ρ1:=ρ) (ds:=l.map D.str) (fe:=d2 ixD (qd 1) (qd 0)) (λd=>match d with | .str x=>.int (vl k x) | d=>d) (by simp [h1,jg]) (by rw [af]; exact jb (by omega)) (λd hd=>by obtain ⟨x,hx,rfl⟩:=ah.mp hd;have h:=(qjb a (g x hx)).1;simp [h2,h]);have b:(l.map D.str).map (λd=>match d with | .str x=>.int (vl k x) | d=>d)=(l.map (vl k)).map D.int:=by rw [aR,aR];rfl
 rw [b] at e;have c:=qbZ (l:=l.map (vl k)) (by rw [af]; omega) λi hi=>by obtain ⟨x,hx,rfl⟩:=ah.mp hi;have:=(qjb a (g x hx)).2;omega
 rw [vB,e];simp only [jr];rw [c];rfl
theorem qjc (h1:c.1.length<=2) (h2:c.2.length<=2) (f:0 < r) {k:Fx} (a:qdQ k):kG [cE c,.int r,.dct k]=.ok (.bl (md r k c),[.non,.non,.non]):=by
 refine qr.trans ?_;have z:(c.1.map D.str).length+(c.2.map D.str).length<=sizeLine:=by rw [af,af]; exact jb (by lia)
 have hi:jl (d2 vz (qd 3) (qd 4)) [iE (cE c),iE (.int r),iE (.dct k),iE (sE c.1),iE (sE c.2)]=.ok ((c.1++c.2).map D.str,[iE (cE c),iE (.int r),iE (.dct k),iE (sE c.1),iE (sE c.2)]):=by
  have:vz (sE c.1) (sE c.2)=.ok (.lst ((c.1++c.2).map D.str)):=by unfold vz;simp only [Aa z,bV]
  generalize sE c.1=U at this ⊢;generalize sE c.2=V at this ⊢;simp [this,jg]
 have e:=vJ (cap:=[2]) (fi:=jl (d2 vz (qd 3) (qd 4))) (ρ:=[iE (cE c),iE (.int r),iE (.dct k),iE (sE c.1),iE (sE c.2)]) (ρ1:=[iE (cE c),iE (.int r),iE (.dct k),iE (sE c.1),iE (sE c.2)]) (ds:=(c.1++c.2).map D.str) (fe:=d2 inA (qd 0) (qd 1)) (λd=>match d with | .str x=>.bl (kJ k (.inr x)) | d=>d) hi (by rw [af,ai]; exact jb (by lia)) (λd hd=>by obtain ⟨x,hx,rfl⟩:=ah.mp hd;simp [inA,QG]);have i:((c.1++c.2).map D.str).map (λd=>match d with | .str x=>.bl (kJ k (.inr x)) | d=>d)=(c.1++c.2).map λx=>D.bl (kJ k (.inr x)):=by rw [aR];rfl
 rw [i] at e;have g:=xx (λx=>kJ k (.inr x)) (c.1++c.2);have hA:d1 Zl (qI [] 1 [2] (jl (d2 vz (qd 3) (qd 4))) (gNm 0) ftT (d2 inA (qd 0) (qd 1))) [iE (cE c),iE (.int r),iE (.dct k),iE (sE c.1),iE (sE c.2)]=.ok (.bl ((c.1++c.2).all λx=>kJ k (.inr x)),[iE (cE c),iE (.int r),iE (.dct k),iE (sE c.1),iE (sE c.2)]):=by rw [vB,e];simp only [jr];rw [g];rfl
 unfold zp md;rw [show qt zo [cE c,.int r,.dct k]=[iE (cE c),iE (.int r),iE (.dct k),iG,iG] from rfl];refine (qv (ρ1:=[iE (cE c),iE (.int r),iE (.dct k),iE (sE c.1),iG]) (by simp [cE,ixD,at0])).trans ?_;refine (qv (ρ1:=[iE (cE c),iE (.int r),iE (.dct k),iE (sE c.1),iE (sE c.2)]) (by simp [cE,ixD,at1])).trans ?_;cases q:(c.1++c.2).all λx=>kJ k (.inr x) with
 | false=>rw [q] at hA;simp [-vB,hA]
 | true=>rw [q] at hA;have h:=aJ.mp q;have s1:=XE a 3 h1 (λx hx=>h x (aj.mpr (.inl hx))) (ρ:=[iE (cE c),iE (.int r),iE (.dct k),iE (sE c.1),iE (sE c.2)]) rfl rfl;have s2:=XE a 4 h2 (λx hx=>h x (aj.mpr (.inr hx))) (ρ:=[iE (cE c),iE (.int r),iE (.dct k),iE (sE c.1),iE (sE c.2)]) rfl rfl;refine (qv (ρ1:=[iE (cE c),iE (.int r),iE (.dct k),iE (sE c.1),iE (sE c.2)]) (by simp [-vB,hA])).trans ?_;by_cases b:((c.1.map (vl k)).sum - (c.2.map (vl k)).sum) % r=0 <;> simp [-vB,s1,s2,yG,yn,f,neD,eqN,eqS,b]
theorem qgy {k:Fx} (hl:k.length<=100) (x:Str) (v:Int):vG [.dct k,.str x,.int v]=.ok (.dct (vX k (.inr x) (.int v)),[.non,.non,.non]):=by refine qr.trans ?_;have z:k.length < sizeLine:=aI (by lia) big;simp [zq,qt,qaP,gS,QG,z]
theorem qgz (k:Fx) (x:Key) (d:D):(vX k x d).length<=k.length+1:=by unfold vX;split <;> simp
theorem qjd {k:Fx} (b:qdQ k) (x:Key) {v:Int} (c:0<=v) (h1:v<=1000):qdQ (vX k x (.int v)):=by
 unfold vX;intro kv a;split at a
 ·obtain ⟨p,hp,rfl⟩:=ah.mp a;split;·exact ⟨v,rfl,c,h1⟩
  ·exact b p hp
 ·rcases aj.mp a with h | h;·exact b kv h
  ·rw [au.mp h];exact ⟨v,rfl,c,h1⟩
abbrev cfB (gr:jD):qR:=(sIf (we (ql [.vl,.vl,.vl,.vl] gr (qc (qd 0) (qc (qd 1) (qc (ql [.vl,.vl,.vl] vG (qc (qd 2) (qc (d2 ixD (qd 3) (dC (.int 0))) (qc (qd 5) qx)))) (qc (vh (qd 3) (iE (dC (.int 1))) iG) qx)))))) (jt (dC (.bl iJ))) jk)
theorem qje (x:Str) (ls:List Str):ixD (sE (x::ls)) (.int 0)=.ok (.str x)/\qim (iE 1) iG (sE (x::ls))=.ok (sE ls):=by
 refine ⟨by simp [ixD,at0],?_⟩;have:qdg ((x::ls).map D.str) (iE 1) iG=ls.map D.str:=by unfold qdg;rw [HT.sIx_none,show (iE (1:Int))=iE ((1:Nat):Int) from rfl,HT.sIx_nat];simp;exact List.take_of_length_le (by simp)
 show Out.ok (D.lst (qdg ((x::ls).map D.str) (iE 1) iG))=_;rw [this]
variable {Cs:List Cn}
theorem qgA (hC:∀ c∈Cs,c.1.length<=2/\c.2.length<=2) (n:Cs.length<=100) (f:0 < r) {k:Fx} (g:qdQ k) (a b c:Option D):d1 Zl (qI [] 1 [1,2] (jl (qd 0)) (gNm 0) ftT (ql [.vl,.vl,.vl] kG (qc (qd 0) (qc (qd 1) (qc (qd 2) qx))))) [iE (.lst (Cs.map cE)),iE (.int r),iE (.dct k),a,b,c]=.ok (.bl (Cs.all (md r k)),[iE (.lst (Cs.map cE)),iE (.int r),iE (.dct k),a,b,c]):=by
 have e:=qk8 (Cs:=Cs) (ρ:=[iE (.lst (Cs.map cE)),iE (.int r),iE (.dct k),a,b,c]) (cap:=[1,2]) (fi:=jl (qd 0)) (fe:=ql [.vl,.vl,.vl] kG (qc (qd 0) (qc (qd 1) (qc (qd 2) qx)))) cE (λc=>.bl (md r k c)) (by simp [jg]) (jb (by lia)) λc d=>by have h:=qjc (hC c d).1 (hC c d).2 f g;generalize cE c=Z at h ⊢;simp [h]
 rw [vB,e];simp only [jr];rw [xx];rfl
theorem qdR (n:Nat):zZ 0 n=((aE n).map λ(j:Nat)=>(j:Int)).map D.int:=by rw [qlJ,aR];rfl
theorem qjf (l:List (Str×Str)):(LS l).length<=2 * l.length:=by
 unfold LS;rw [(qF _).length_eq];have:=VF (l.map (·.1)++l.map (·.2)) [];simp only [ai,af,bf] at this
 lia
noncomputable def nu (v:Str->Int) (p:Str×Str):Int:=v p.1+v p.2
def Ds (r:Int) (v:Str->Int) (K:List (Str×Str)):Prop:=K.Pairwise λp q=>¬r ∣ nu v p - nu v q
def Ext (k:Fx) (v:Str->Int):Prop:=∀ x,kJ k (.inr x)=iJ->v x=vl k x
def OKs (r:Int) (k:Fx) (K:List (Str×Str)):Prop:=∃ v,Ext k v/\Ds r v K
theorem qgB {a b:Int} (h:¬r ∣ a - b):¬r ∣ b - a:=λz=>h (by have:=ig.mpr z;rwa [Int.neg_sub] at this)
theorem qjg {A C:List (Str×Str)} {x:Str×Str}:Ds r v (A++x::C)↔(∀ p∈A++C,¬r ∣ nu v x - nu v p)/\Ds r v (A++C):=by unfold Ds;rw [List.pairwise_middle λh=>qgB h,bH]
theorem qeG {α:Type} [DecidableEq α]:∀ {a b:List α},a.Nodup->(∀ x∈a,x∈b)->a.length<=b.length
 | [],_,_,_=>bo _
 | x::a,b,hn,h=>by
  obtain ⟨h1,h2⟩:=aH.mp hn;have hx:=h x (ap ..);have j:=qeG (b:=b.erase x) h2 λy D=>(fq λ(z:y=x)=>h1 (z ▸ D)).mpr (h y (ac _ D));rw [cH hx] at j;have:=bS hx;rw [aq]
  lia
theorem XF (g:1<=r) (bad:List Int) (h:(bad.length:Int) < r):∃ t:Int,0<=t/\t < r/\t∉bad:=by
 refine aZ λz=>?_;have c:∀ t∈(aE r.toNat).map λ(j:Nat)=>(j:Int),t∈bad:=λt ht=>by obtain ⟨j,G,rfl⟩:=ah.mp ht;have:=aM.mp G;exact aZ λq=>z ⟨j,by lia,by lia,q⟩
 have d:((aE r.toNat).map λ(j:Nat)=>(j:Int)).Nodup:=dj.mpr (fW.imp λ{a b} f e=>f (by lia));have:=qeG d c;rw [af,bK] at this
 lia
noncomputable def loK (k:Fx) (K:List (Str×Str)) (x:Str×Str):Bool:=(!kJ k (.inr x.1)&&decide (cn K x.1=1))||(!kJ k (.inr x.2)&&decide (cn K x.2=1))
theorem qeH (A C:List (Str×Str)) (x:Str×Str) (c:Str):cn (A++x::C) c=co x c+cn (A++C) c:=by
 rw [qeE,qeE];show cn A c+(co x c+cn C c)=_
 lia
theorem qgC {c:Str} (h:cn K c=0):∀ p∈K,p.1≠c/\p.2≠c:=λp hp=>by
 obtain ⟨A,C,rfl⟩:=List.append_of_mem hp;rw [qeH] at h;have h1:=qi7 (A++C) c;have h2:=qdP p c;have i:co p c=0:=by lia
 unfold co at i;refine ⟨λz=>?_,λz=>?_⟩;·rw [Aa z] at i;split at i <;> lia
 ·rw [Aa z] at i;split at i <;> lia
variable {K0:List (Str×Str)}
theorem qjh (B:1<=r) {k:Fx} {A C:List (Str×Str)} {x:Str×Str} (u:(A++x::C).Sublist K0) (hl:loK k K0 x=iJ) (G:((A++x::C).length:Int)<=r) (h:OKs r k (A++C)):OKs r k (A++x::C):=by
 obtain ⟨v,s,hd⟩:=h;have key:∀ c d:Str,(∀ w:Str->Int,nu w x=w c+w d)->(c=x.1\/c=x.2)->kJ k (.inr c)=iI->cn K0 c=1->OKs r k (A++x::C):=λc d f J H h1=>by
  have S:=qi8 u c;rw [qeH] at S;have E:=qi7 (A++C) c;have I:1<=co x c:=by
   unfold co;rcases J with rfl | rfl
   ·rw [Aa rfl];split <;> lia
   ·rw [Aa (rfl:x.2=x.2)];split <;> lia
  have K:cn (A++C) c=0:=by lia
  have j:=qgC K;have m:d≠c:=λz=>by
   have e:=f λy=>if y=c then 1 else 0
   subst z;unfold nu at e;have:co x d=2:=by unfold co;simpa using e
   lia
  obtain ⟨t,o,t1,ht⟩:=XF B ((A++C).map λp=>(nu v p - v d) % r) (by
   rw [af];rw [ai,aq] at G;rw [ai]
   lia)
  refine ⟨λy=>if y=c then t else v y,λy D=>?_,qjg.mpr ⟨λp hp=>?_,?_⟩⟩
  ·have:y≠c:=λz=>by rw [z,H] at D; cases D
   show (if y=c then t else v y)=_;rw [Ab this];exact s y D
  ·have e1:nu (λy=>if y=c then t else v y) x=t+v d:=by rw [f];simp [m]
   have n:nu (λy=>if y=c then t else v y) p=nu v p:=by obtain ⟨i,g⟩:=j p hp;simp [nu,i,g]
   rw [e1,n];intro z;refine ht (ah.mpr ⟨p,hp,?_⟩);have:r ∣ (nu v p - v d) - t:=by have:=ig.mpr z;rw [show -(t+v d - nu v p)=nu v p - v d - t by lia] at this;exact this
   have L:(nu v p - v d) % r=t % r:=Int.emod_eq_emod_iff_emod_sub_eq_zero.mpr (cg this);exact L.trans (bD o t1)
  ·refine hd.imp_of_mem λ{p q} hp hq l=>?_;obtain ⟨p1,p2⟩:=j p hp;obtain ⟨i,g⟩:=j q hq;have e1:nu (λy=>if y=c then t else v y) p=nu v p:=by simp [nu,p1,p2]
   have n:nu (λy=>if y=c then t else v y) q=nu v q:=by simp [nu,i,g]
   rw [e1,n];exact l
 unfold loK at hl;rw [g9,aS,aS] at hl;rcases hl with ⟨a,b⟩ | ⟨a,b⟩
 ·exact key x.1 x.2 (λw=>rfl) (.inl rfl) (by simpa using a) (Ae b)
 ·exact key x.2 x.1 (λw=>Int.add_comm _ _) (.inr rfl) (by simpa using a) (Ae b)
noncomputable def peK (k:Fx) (K:List (Str×Str)):List (Str×Str):=K.filter λx=>!loK k K x
theorem qgD (f:1<=r) {k:Fx} (a:(K0.length:Int)<=r):∀ (M A:List (Str×Str)),(A++M).Sublist K0->OKs r k (A++M.filter λx=>!loK k K0 x)->OKs r k (A++M)
 | [],A,_,h=>h
 | x::M,A,hs,h=>by
  have n:((A++x::M).length:Int)<=r:=by
   have:=hs.length_le
   lia
  cases q:loK k K0 x with
  | false=>rw [d8 (by simp [q])] at h;have:=qgD f a M (A++[x]) (by simpa using hs) (by simpa using h);simpa using this
  | true=>rw [List.filter_cons_of_neg (by simp [q])] at h;exact qjh f hs q n (qgD f a M A ((fO A).append (List.sublist_cons_self x M) |>.trans hs) h)
theorem qji (f:1<=r) {k:Fx} (n:(K.length:Int)<=r):OKs r k (peK k K)↔OKs r k K:=
 ⟨λh=>qgD f n K [] (fO _) h,λ⟨v,a,b⟩=>⟨v,a,List.Pairwise.sublist List.filter_sublist b⟩⟩
noncomputable def sv (v:Str->Int) (l:List Str):Int:=(l.map v).sum
noncomputable def Dc (v:Str->Int) (c:Cn):Int:=sv v c.1 - sv v c.2
theorem qjj (v:Str->Int) (a b:List Str):sv v (a++b)=sv v a+sv v b:=by unfold sv;rw [bV,hJ]
theorem XG (v:Str->Int):∀ {l:List Str} {y:Str},y∈l->sv v (l.erase y)=sv v l - v y
 | x::l,y,h=>by
  by_cases q:x=y
  ·subst q;rw [List.erase_cons_head];show _=v x+sv v l - v x
   lia
  ·rw [List.erase_cons_tail (by simpa using q)];have j:=XG v ((ae.mp h).resolve_left λz=>q z.symm);show v x+sv v (l.erase y)=v x+sv v l - v y
   lia
theorem qjk (v:Str->Int) (c:Cn) (y:Str):Dc v (st1 c y)=Dc v c - v y:=by
 unfold st1 Dc;split
 ·rename_i h;show sv v (c.1.erase y) - sv v c.2=_;rw [XG v h]
  lia
 ·show sv v c.1 - sv v (c.2++[y])=_;rw [qjj,show sv v [y]=v y by simp [sv]]
  lia
theorem qk9 (v:Str->Int) (x y:Str×Str):Dc v (un x y)=nu v x - nu v y:=by
 unfold un;rw [qjk,qjk];simp [Dc,sv,nu]
 lia
theorem qjl (c:Cn) (y:Str):((st1 c y).1.length:Int) - (st1 c y).2.length=(c.1.length:Int) - c.2.length - 1:=by
 unfold st1;split
 ·rename_i h;show ((c.1.erase y).length:Int) - c.2.length=_;rw [cH h];have:=bS h
  lia
 ·show (c.1.length:Int) - (c.2++[y]).length=_;rw [ai];simp
  lia
theorem qmf (x y:Str×Str):(un x y).1.length=(un x y).2.length:=by
 have h1:=qjl ([x.1,x.2],[]) y.1;have h2:=qjl (st1 ([x.1,x.2],[]) y.1) y.2;unfold un;simp at h1
 lia
variable {P:Str->Prop}
theorem qeI (h1:∀ z∈c.1++c.2,P z) (h2:P y):∀ z∈(st1 c y).1++(st1 c y).2,P z:=by
 unfold st1;split;·exact λz h=>(aj.mp h).elim (λq=>h1 z (aj.mpr (.inl (eJ q)))) λq=>h1 z (aj.mpr (.inr q))
 ·intro z h;rcases aj.mp h with q | q;·exact h1 z (aj.mpr (.inl q))
  ·rcases aj.mp q with q | q;·exact h1 z (aj.mpr (.inr q))
   ·rw [au.mp q]; exact h2
theorem qla {x y:Str×Str} (h1:P x.1) (h2:P x.2) (i:P y.1) (a:P y.2):∀ z∈(un x y).1++(un x y).2,P z:=
 qeI (qeI (λz h=>by
  simp at h;rcases h with rfl | rfl;·exact h1
  ·exact h2) i) a
theorem Jz:c∈CT l↔∃ i j,∃ (hi:i < l.length) (G:j < l.length),i < j/\c=un l[i] l[j]:=by
 unfold CT;rw [cR];constructor
 ·rintro ⟨j,G,h⟩;have G:=aM.mp G;obtain ⟨a,g,rfl⟩:=ah.mp h;obtain ⟨i,hi,rfl⟩:=List.mem_take_iff_getElem.mp g;refine ⟨i,j,by lia,G,by lia,?_⟩;have:pa l j=l[j]:=by unfold pa; rw [aw G]; rfl
  rw [this]
 ·rintro ⟨i,j,hi,G,b,rfl⟩;refine ⟨j,aM.mpr G,ah.mpr ⟨l[i],List.mem_take_iff_getElem.mpr ⟨i,by lia,rfl⟩,?_⟩⟩;have:pa l j=l[j]:=by unfold pa; rw [aw G]; rfl
  rw [this]
theorem qgE:Ds r v l↔∀ c∈CT l,¬r ∣ Dc v c:=by
 unfold Ds;rw [dI];constructor;·intro h c d;obtain ⟨i,j,hi,G,b,rfl⟩:=Jz.mp d;rw [qk9];exact h i j hi G b
 ·intro h i j hi G b;have:=h _ (Jz.mpr ⟨i,j,hi,G,b,rfl⟩);rw [qk9] at this;exact this
theorem qjm (h:c∈CT l):∀ z∈c.1++c.2,z∈LS l:=by obtain ⟨i,j,hi,G,_,rfl⟩:=Jz.mp h;have m1:=bt hi;have B:=bt G;exact qla (ko.mpr ⟨_,m1,.inl rfl⟩) (ko.mpr ⟨_,m1,.inr rfl⟩) (ko.mpr ⟨_,B,.inl rfl⟩) (ko.mpr ⟨_,B,.inr rfl⟩)
theorem qmg (h:c∈CT l):c.1.length=c.2.length:=by obtain ⟨i,j,hi,G,_,rfl⟩:=Jz.mp h;exact qmf _ _
theorem KS {k:Fx} (h:kJ k (.inr x)=iI) (d:D):vX k (.inr x) d=k++[(.inr x,d)]:=by unfold vX;unfold kJ at h;rw [h];rfl
theorem yF {k:Fx} (h:kJ k (.inr x)=iI) (d:D) (y:Str):kJ (vX k (.inr x) d) (.inr y)=(kJ k (.inr y)||decide (x=y)):=by rw [KS h];unfold kJ;rw [List.any_append];simp
theorem XH {k:Fx} (h:kJ k (.inr x)=iI) (w:Int):vl (vX k (.inr x) (.int w)) x=w/\∀ y,y≠x->vl (vX k (.inr x) (.int w)) y=vl k y:=by
 rw [KS h];unfold vl;refine ⟨?_,λy a=>?_⟩
 ·have:(k.find? λkv=>decide (kv.1=aU x))=none:=by rw [bP];intro p hp z;unfold kJ at h;rw [List.any_eq_false] at h;exact h p hp z
  rw [List.find?_append,this];simp
 ·rw [List.find?_append];have:([(aU x,D.int w)]:Fx).find? (λkv=>decide (kv.1=aU y))=none:=by rw [bP];intro p hp z;rw [au.mp hp] at z;have:=Ae z;exact a (aU.inj this).symm
  rw [this,Option.or_none]
theorem qjn {w:Str->Int} {l:List Str} (h:∀ x∈l,v x=w x):sv v l=sv w l:=by unfold sv;rw [ck h]
theorem qgF {w:Str->Int} (h:∀ x∈c.1++c.2,v x=w x):Dc v c=Dc w c:=by unfold Dc;rw [qjn λx hx=>h x (aj.mpr (.inl hx)),qjn λx hx=>h x (aj.mpr (.inr hx))]
theorem qgG {w:Str->Int} (h:∀ x,r ∣ v x - w x):∀ l:List Str,r ∣ sv v l - sv w l
 | []=>by simp [sv]
 | x::l=>by have j:=qgG h l;show r ∣ (v x+sv v l) - (w x+sv w l);rw [show (v x+sv v l) - (w x+sv w l)=(v x - w x)+(sv v l - sv w l) by lia];exact d7 (h x) j
theorem qlb {w:Str->Int} (h:∀ x,r ∣ v x - w x) (d:¬r ∣ Dc v c):¬r ∣ Dc w c:=λz=>d (by
 have h1:=qgG h c.1;have h2:=qgG h c.2;have:Dc v c=(sv v c.1 - sv w c.1) - (sv v c.2 - sv w c.2)+Dc w c:=by unfold Dc; lia
 rw [this];exact d7 (cT h1 h2) z)
theorem XI {k:Fx}:md r k c=iJ↔((∀ y∈c.1++c.2,kJ k (.inr y)=iJ)->¬r ∣ Dc (vl k) c):=by
 unfold md;cases q:(c.1++c.2).all λx=>kJ k (.inr x) with
 | false=>
  have:¬∀ y∈c.1++c.2,kJ k (.inr y)=true:=λz=>by rw [aJ.mpr z] at q;cases q
  exact ⟨λ_ z=>absurd z this,λ_=>rfl⟩
 | true=>rw [Aa rfl,decide_eq_true_eq];have l:=aJ.mp q;exact ⟨λh _ z=>h (cg z),λh z=>h l (cS z)⟩
noncomputable def chs (r:Int) (k:Fx):List Int:=if k=[] then [0] else (aE r.toNat).map λ(j:Nat)=>(j:Int)
noncomputable def cf (r:Int) (Cs:List Cn):Nat->List Str->Fx->Bool
 | 0,_,_=>iI
 | n+1,ls,k=>Cs.all (md r k)&&(match ls with
  | []=>iJ
  | x::ls=>(chs r k).any λw=>cf r Cs n ls (vX k (.inr x) (.int w)))
def qg3 (r:Int) (Cs:List Cn) (v:Str->Int):Prop:=∀ c∈Cs,¬r ∣ Dc v c
theorem qb2 {r:Int} (m:1<=r) {Cs:List Cn}:∀ (n:Nat) (ls:List Str) (k:Fx),ls.length < n->k≠[]->ls.Nodup->(∀ y∈ls,kJ k (.inr y)=iI)->(∀ c∈Cs,∀ y∈c.1++c.2,kJ k (.inr y)=iJ\/y∈ls)->(cf r Cs n ls k=iJ↔∃ v,Ext k v/\qg3 r Cs v)
 | 0,ls,k,h,_,_,_,_=>absurd h (c7 _)
 | n+1,ls,k,h,hk,hnd,hno,hin=>by
  have e:∀ v,Ext k v->qg3 r Cs v->Cs.all (md r k)=true:=λv a hg=>aJ.mpr λc d=>XI.mpr λl=>by rw [<-qgF λy D=>a y (l y D)];exact hg c d
  cases ls with
  | nil=>show (Cs.all (md r k)&&iJ)=iJ↔_;rw [Bool.and_true];refine ⟨λh=>⟨vl k,λ_ _=>rfl,λc d=>XI.mp (aJ.mp h c d) λy D=>(hin c d y D).resolve_right λz=>by cases z⟩,λ⟨v,a,hg⟩=>e v a hg⟩
  | cons x ls=>
   have hx:=hno x (ap ..);obtain ⟨g,b⟩:=aH.mp hnd;have j:=λw=>qb2 m (Cs:=Cs) n ls (vX k (.inr x) (.int w)) (by rw [aq] at h; lia) (by rw [KS hx]; simp) b (λy D=>by
    rw [yF hx,hno y (ac _ D)];simp;exact λz=>g (z ▸ D)) λc d y D=>by
    rw [yF hx];rcases hin c d y D with q | q;·exact .inl (by rw [q]; rfl)
    ·rcases ae.mp q with q | q;·exact .inl (by simp [q])
     ·exact .inr q
   show (Cs.all (md r k)&&(chs r k).any λw=>cf r Cs n ls (vX k (.inr x) (.int w)))=iJ↔_;rw [aS,eY];constructor
   ·rintro ⟨_,w,_,i⟩;obtain ⟨v,a,hg⟩:=(j w).mp i;refine ⟨v,λy D=>?_,hg⟩;have f:y≠x:=λz=>by rw [z,hx] at D; cases D
    rw [a y (by rw [yF hx,D]; rfl),(XH hx w).2 y f]
   ·rintro ⟨v,a,hg⟩;refine ⟨e v a hg,v x % r,?_,(j _).mpr ⟨λy=>if y=x then v x % r else v y,λy D=>?_,λc d=>qlb (λy=>?_) (hg c d)⟩⟩;·unfold chs;rw [Ab hk];have h1:=cA (v x) (show r≠0 by lia);have h2:=bZ (v x) (show 0 < r by lia);exact ah.mpr ⟨(v x % r).toNat,aM.mpr (by lia),by lia⟩
    ·show (if y=x then v x % r else v y)=_;by_cases q:y=x;·rw [Aa q,q,(XH hx _).1]
     ·rw [Ab q,(XH hx _).2 y q];rw [yF hx] at D;refine a y ?_;simpa [show ¬x=y from λz=>q z.symm] using D
    ·show r ∣ v y - (if y=x then v x % r else v y);by_cases q:y=x;·rw [Aa q,q];exact Int.dvd_self_sub_of_emod_eq rfl
     ·rw [Ab q,Int.sub_self];exact Int.dvd_zero r
theorem KU (v:Str->Int) (t:Int):∀ l:List Str,sv (λy=>v y - t) l=sv v l - t * l.length
 | []=>by simp [sv]
 | x::l=>by
  have j:=KU v t l;show (v x - t)+sv (λy=>v y - t) l=(v x+sv v l) - t * ((l.length+1:Nat):Int);rw [j,Int.natCast_add,Int.mul_add];simp
  lia
theorem qdS (v:Str->Int) (t:Int) (h:c.1.length=c.2.length):Dc (λy=>v y - t) c=Dc v c:=by
 unfold Dc;rw [KU,KU,h]
 lia
theorem qgH (k:1<=r) (o:∀ c∈Cs,c.1.length=c.2.length) (n:Nat) (ls:List Str) (h:ls.length < n) (i:ls.Nodup) (f:∀ c∈Cs,∀ y∈c.1++c.2,y∈ls):cf r Cs n ls []=iJ↔∃ v,qg3 r Cs v:=by
 obtain ⟨n,rfl⟩:∃ m,n=m+1:=⟨n - 1,by lia⟩
 have a:∀ y:Str,kJ [] (.inr y)=false:=λy=>rfl;have e:∀ v,qg3 r Cs v->Cs.all (md r [])=true:=λv hg=>aJ.mpr λc d=>XI.mpr λl=>by rw [qgF (w:=v) λy D=>absurd (l y D) (by rw [a]; simp)];exact hg c d
 cases ls with
 | nil=>show (Cs.all (md r [])&&iJ)=iJ↔_;rw [Bool.and_true];exact ⟨λh=>⟨vl [],λc d=>XI.mp (aJ.mp h c d) λy D=>by cases f c d y D⟩,λ⟨v,hg⟩=>e v hg⟩
 | cons x ls=>
  obtain ⟨g,b⟩:=aH.mp i;have j:=qb2 k (Cs:=Cs) n ls (vX [] (.inr x) (.int 0)) (by rw [aq] at h; lia) (by rw [KS (a x)]; simp) b (λy D=>by
   rw [yF (a x),a];simp;exact λz=>g (z ▸ D)) λc d y D=>by
   rw [yF (a x),a];rcases ae.mp (f c d y D) with q | q;·exact .inl (by simp [q])
   ·exact .inr q
  show (Cs.all (md r [])&&(chs r []).any λw=>cf r Cs n ls (vX [] (.inr x) (.int w)))=iJ↔_;rw [show chs r []=[0] from Aa rfl,aS];simp only [b7,List.any_nil,Bool.or_false];rw [j];constructor;·rintro ⟨_,v,_,hg⟩;exact ⟨v,hg⟩
  ·rintro ⟨v,hg⟩;refine ⟨e v hg,λy=>v y - v x,λy D=>?_,λc d=>?_⟩
   ·rw [yF (a x),a] at D;have:x=y:=by simpa using D
    subst this;rw [(XH (a x) 0).1];show v x - v x=0
    lia
   ·rw [qdS v (v x) (o c d)];exact hg c d
theorem qeJ (h:∀ z∈c.1,z∉c.2) (y:Str):∀ z∈(st1 c y).1,z∉(st1 c y).2:=by
 unfold st1;split;·exact λz a=>h z (eJ a)
 ·rename_i D;intro z a q;rcases aj.mp q with q | q;·exact h z a q
  ·rw [au.mp q] at a;exact D a
theorem qlc (x y:Str×Str):∀ z∈(un x y).1,z∉(un x y).2:=qeJ (qeJ (λz _ q=>by cases q) _) _
theorem qjo {x y:Str×Str} (h:un x y=([],[])):al x y=true:=by
 have e:∀ v,nu v x=nu v y:=λv=>by
  have:=qk9 v x y;rw [h] at this;simp [Dc,sv] at this
  lia
 obtain ⟨a,b⟩:=x;obtain ⟨c,d⟩:=y;have h1:=e λz=>if z=a then 1 else 0
 simp only [nu,if_true] at h1;have f:c=a\/d=a:=by refine aZ λz=>?_;have z1:¬c=a:=λq=>z (.inl q);have z2:¬d=a:=λq=>z (.inr q);rw [Ab z1,Ab z2] at h1;split at h1 <;> lia
 have one:∀ s t:Str,(∀ v:Str->Int,v s=v t)->s=t:=λs t q=>by
  refine aZ λz=>?_;have:=q λy=>if y=s then 1 else 0
  rw [Aa rfl,Ab λw=>z w.symm] at this;cases this
 refine XA.mpr ?_;rcases f with rfl | rfl
 ·refine .inl ?_;have:=one b d λv=>by
   have:=e v;simp only [nu] at this
   lia
  rw [this]
 ·refine .inr ?_;have:=one b c λv=>by
   have:=e v;simp only [nu] at this
   lia
  rw [this]
noncomputable def up (v:Str->Int) (x:Str) (t:Int) (y:Str):Int:=if y=x then t else v y
theorem qgI (v:Str->Int) (x:Str) (t:Int):∀ l:List Str,sv (up v x t) l=sv (up v x 0) l+t * (l.count x:Nat)
 | []=>by simp [sv]
 | y::l=>by
  have j:=qgI v x t l;show up v x t y+sv (up v x t) l=(up v x 0 y+sv (up v x 0) l)+t * ((y::l).count x:Nat);rw [j,List.count_cons];by_cases q:y=x
  ·subst q;simp only [up,if_true,beq_self_eq_true,Int.natCast_add,Int.mul_add];simp
   lia
  ·have g:(y == x)=false:=beq_false_of_ne q;simp only [up,Ab q,g,cW,if_false,Nat.add_zero]
   lia
noncomputable def bd (e D:Int):Int:=if e=1 then (-D) % 97 else if e=-1 then D % 97 else if e=2 then (-D * 49) % 97 else (D * 49) % 97
theorem qld {e D t:Int} (i:e=1\/e=-1\/e=2\/e=-2) (g:0<=t) (t1:t < 97) (h:t≠bd e D):¬(97:Int) ∣ D+t * e:=by
 unfold bd at h;rcases i with rfl | rfl | rfl | rfl
 ·simp at h;omega
 ·simp at h;omega
 ·simp at h;omega
 ·simp at h;omega
theorem qeK (hd:∀ c∈Cs,∀ z∈c.1,z∉c.2) (h2:∀ c∈Cs,c.1.length<=2/\c.2.length<=2) (hl:Cs.length < 97):∀ (ls S:List Str) (v:Str->Int),(∀ c∈Cs,(∀ y∈c.1++c.2,y∈S)->¬(97:Int) ∣ Dc v c)->(∀ c∈Cs,∀ y∈c.1++c.2,y∈S\/y∈ls)->∃ w,qg3 97 Cs w
 | [],S,v,h,hin=>⟨v,λc d=>h c d λy D=>(hin c d y D).resolve_right λz=>by cases z⟩
 | x::ls,S,v,h,hin=>by
  obtain ⟨t,g,t1,ht⟩:=XF (r:=97) (by lia) (Cs.map λc=>bd ((c.1.count x:Int) - (c.2.count x:Int)) (Dc (up v x 0) c)) (by rw [af]; lia);refine qeK hd h2 hl ls (x::S) (if x∈S then v else up v x t) (λc d l=>?_) λc d y D=>?_
  ·by_cases b:x∈S;·rw [Aa b];exact h c d λy D=>(ae.mp (l y D)).elim (λz=>z ▸ b) id
   ·rw [Ab b];by_cases a:x∈c.1++c.2
    ·have e:Dc (up v x t) c=Dc (up v x 0) c+t * ((c.1.count x:Int) - (c.2.count x:Int)):=by
      unfold Dc;rw [qgI v x t c.1,qgI v x t c.2,ic]
      lia
     rw [e];have f:t≠bd ((c.1.count x:Int) - (c.2.count x:Int)) (Dc (up v x 0) c):=λz=>ht (ah.mpr ⟨c,d,z.symm⟩);refine qld ?_ g t1 f;have k:c.1.count x<=c.1.length:=List.count_le_length;have c2:c.2.count x<=c.2.length:=List.count_le_length;have i:=h2 c d;rcases aj.mp a with q | q
     ·have z:c.2.count x=0:=List.count_eq_zero.mpr (hd c d x q);have p:0 < c.1.count x:=List.count_pos_iff.mpr q
      lia
     ·have z:c.1.count x=0:=List.count_eq_zero.mpr λz=>hd c d x z q;have p:0 < c.2.count x:=List.count_pos_iff.mpr q
      lia
    ·rw [qgF (w:=v) λy D=>by have:y≠x:=λz=>a (z ▸ D);simp [up,this]];exact h c d λy D=>(ae.mp (l y D)).resolve_left λz=>a (z ▸ D)
  ·rcases hin c d y D with q | q;·exact .inl (ac _ q)
   ·rcases ae.mp q with q | q;·exact .inl (by rw [q]; exact ap ..)
    ·exact .inr q
theorem qgJ (hl:l.length<=6):(CT l).length < 97:=by
 unfold CT;have:∀ s:List Nat,(s.flatMap λj=>(l.take j).map λa=>un a (pa l j)).length<=6 * s.length:=λs=>by
  induction s with
  | nil=>simp
  | cons j s i=>
   rw [dh,ai,af,bY,aq]
   lia
 have:=this (aE l.length);rw [bK] at this
 lia
theorem qmh (a:NA l) (g:l.length<=6):∃ v,Ds 97 v l:=by
 obtain ⟨w,f⟩:=qeK (Cs:=CT l) (λc d=>by
  obtain ⟨i,j,hi,G,_,rfl⟩:=Jz.mp d;exact qlc _ _) (λc d=>qeF d) (qgJ g) (LS l) [] (λ_=>0) (λc d h=>by
  obtain ⟨i,j,hi,G,b,rfl⟩:=Jz.mp d;exfalso;have e:(un l[i] l[j]).1++(un l[i] l[j]).2=[]:=by
   cases q:(un l[i] l[j]).1++(un l[i] l[j]).2 with
   | nil=>rfl
   | cons z t=>cases h z (by rw [q]; exact ap ..)
  obtain ⟨e1,k⟩:=List.append_eq_nil_iff.mp e;have:=qjo (x:=l[i]) (y:=l[j]) (h7 e1 k);rw [dI.mp a i j hi G b] at this;cases this) λc d y D=>.inr (qjm d y D)
 exact ⟨w,qgE.mpr f⟩
theorem qdT (n:K.length<=100) (c:Str) (a:Option D) (b:D):d1 Ka (qI [] 1 [3] (jl (qd 1)) (gNm 0) ftT (dM qg0 yf (qd 0) (qd 1))) [a,iE (.lst (qo K)),iE b,iE (.str c)]=.ok (.int (cn K c),[a,iE (.lst (qo K)),iE b,iE (.str c)]):=by
 have h:Ka (.lst ((K.map λx=>co x c).map D.int))=.ok (.int (cn K c)):=qbZ (by rw [af]; lia) λk d=>by
  obtain ⟨y,_,rfl⟩:=ah.mp d;have:=qdP y c
  lia
 rw [vB,qgw n c a (iE b)];simp only [jr];rw [h];rfl
theorem qgK (f:K.length<=100) (k:Fx) (x:Str×Str):kg [pD x,.lst (qo K),.dct k]=.ok (.bl (loK k K x),[.non,.non,.non]):=by refine qr.trans ?_;have h:=λc=>qdT f c (iE (pD x)) (.dct k);have n:∀ c:Str,zJ (.str c) (.dct k)=.ok (.bl (!kJ k (.inr c))):=λc=>rfl;generalize D.lst (qo K)=Z at h ⊢;generalize D.dct k=Y at h n ⊢;obtain ⟨a,b⟩:=x;unfold loK;cases e:kJ k (.inr a) <;> cases d:kJ k (.inr b) <;> by_cases q:cn K a=1 <;> by_cases i:cn K b=1 <;> simp [Jk,qt,jg,jR,n,e,d,-vB,h,eqD,eqN,eqS,q,i]
theorem XJ (n:K.length<=100) (k:Fx) (a b:Option D):qI [] 1 [2,1] (jl (qd 2)) (gNm 0) (gm (we (ql [.vl,.vl,.vl] kg (qc (qd 0) (qc (qd 1) (qc (qd 2) qx)))))) (qd 0) [a,iE (.dct k),iE (.lst (qo K)),b]=.ok (.lst (qo (peK k K)),[a,iE (.dct k),iE (.lst (qo K)),b]):=by have e:=Xo (own:=[]) (cap:=[2,1]) (fi:=jl (qd 2)) (ρ:=[a,iE (.dct k),iE (.lst (qo K)),b]) (ρ1:=[a,iE (.dct k),iE (.lst (qo K)),b]) (ds:=qo K) (ft:=gm (we (ql [.vl,.vl,.vl] kg (qc (qd 0) (qc (qd 1) (qc (qd 2) qx)))))) (fe:=qd 0) (λd=>match d with | .tup [.str x,.str y]=>!loK k K (x,y) | d=>iI) (λd=>d) (by simp) (by simp [jg]) (by unfold qo; rw [af]; exact jb (by lia)) (λd hd=>by obtain ⟨x,hx,rfl⟩:=ah.mp hd;have h:=qgK n k x;have h:kg [.tup [.str x.1,.str x.2],.lst (qo K),.dct k]=.ok (.bl (loK k K x),[.non,.non,.non]):=h;simp [h]) (λd hd _=>rfl);rw [e];congr 2;unfold peK;rw [f9];unfold qo;rw [fz];rfl
theorem WG {r:Int} (f:1<=r) (k:Fx) {a:Option D}:∀ (n:Nat) (K:List (Str×Str)),K.length < n->K.length<=100->(K.length:Int)<=r->∃ B R,(OKs r k B↔OKs r k K)/\B.Sublist K /\
  qZ (qL (d2 ltD (d1 ky (qd 3)) (d1 ky (qd 2))))
   (qN (jx 2 (qd 3))
   (qN (jx 3 (qI [] 1 [2,1] (jl (qd 2)) (gNm 0) (gm (we (ql [.vl,.vl,.vl] kg (qc (qd 0) (qc (qd 1) (qc (qd 2) qx)))))) (qd 0))) jk)) n [a,iE (.dct k),iE (.lst (qo K)),iE (.lst (qo (peK k K)))]=.ok (.nx,[a,iE (.dct k),iE (.lst (qo B)),iE (.lst R)])
 | 0,K,h,_,_=>absurd h (c7 _)
 | n+1,K,h,hK,hKr=>by
  have h1:ky (.lst (qo K))=.ok (.int K.length):=by simp [qo]
  have h2:ky (.lst (qo (peK k K)))=.ok (.int (peK k K).length):=by simp [qo]
  have S:(peK k K).length<=K.length:=c9 _ _;by_cases q:(peK k K).length < K.length;·obtain ⟨B,R,n1,n2,e⟩:=WG f k (a:=a) n (peK k K) (by lia) (by lia) (by lia);refine ⟨B,R,n1.trans (qji f hKr),n2.trans List.filter_sublist,?_⟩;have d:=XJ (K:=peK k K) (by lia) k a (iE (.lst (qo (peK k K))));rw [<-e];generalize D.lst (qo (peK k (peK k K)))=Z2 at d ⊢;generalize D.lst (qo (peK k K))=Z1 at h2 d ⊢;generalize D.lst (qo K)=Z at h1 ⊢;generalize D.dct k=Y at d ⊢;simp [qZ,h1,h2,q,d]
  ·refine ⟨K,qo (peK k K),Iff.rfl,fO _,?_⟩;generalize D.lst (qo (peK k K))=Z1 at h2 ⊢;generalize D.lst (qo K)=Z at h1 ⊢;simp [qZ,h1,h2,q]
theorem qgL (f:1<=r) (k:Fx) (n:K.length<=10) (h:(K.length:Int)<=r):∃ B,(OKs r k B↔OKs r k K)/\B.Sublist K/\wz [.lst (qo K),.dct k]=.ok (.lst (qo B),[.non,.non]):=by obtain ⟨B,R,n1,n2,e⟩:=WG f k (a:=iE (.lst (qo K))) 20 K (by lia) (by lia) h;refine ⟨B,n1,n2,?_⟩;have d:=XJ (K:=K) (by lia) k (iE (.lst (qo K))) iG;refine qr.trans ?_;unfold xm;rw [show qt xl [.lst (qo K),.dct k]=[iE (.lst (qo K)),iE (.dct k),iG,iG] from rfl];refine (qv (ρ1:=[iE (.lst (qo K)),iE (.dct k),iE (.lst (qo K)),iG]) (by simp)).trans ?_;refine (qv (ρ1:=[iE (.lst (qo K)),iE (.dct k),iE (.lst (qo K)),iE (.lst (qo (peK k K)))]) (by rw [wm,d]; rfl)).trans ?_;refine (qv e).trans ?_;simp
theorem XM {gr:jD} {C S S1:D} {k:Fx} (hl:k.length<=100) {ch:Option D} (hi:ixD S (.int 0)=.ok (.str x)) (c:qim (iE 1) iG S=.ok S1) (P:Int->Bool):∀ (vs:List Int) (y:Option D),(∀ v∈vs,gr [C,.int r,.dct (vX k (.inr x) (.int v)),S1]=.ok (.bl (P v),[.non,.non,.non,.non])) ->(vs.any P=iJ/\∃ ρ,jR (gNm 5) (cfB gr) (vs.map D.int) [iE C,iE (.int r),iE (.dct k),iE S,ch,y]=.ok (.rt (.bl iJ),iE C::iE (.int r)::iE (.dct k)::iE S::ρ))\/(vs.any P=iI/\∃ s,jR (gNm 5) (cfB gr) (vs.map D.int) [iE C,iE (.int r),iE (.dct k),iE S,ch,y]=.ok (.nx,[iE C,iE (.int r),iE (.dct k),iE S,ch,s]))
 | [],y,_=>.inr ⟨rfl,y,rfl⟩
 | v::vs,y,h=>by
  have d:=h v (ap ..);have w:=qgy hl x v;cases q:P v with
  | true=>rw [q] at d;refine .inl ⟨by simp [q],[ch,iE (.int v)],?_⟩;simp [jR,cfB,w,hi,vh,JU,c,d]
  | false=>
   rw [q] at d;have s1:jR (gNm 5) (cfB gr) ((v::vs).map D.int) [iE C,iE (.int r),iE (.dct k),iE S,ch,y]=jR (gNm 5) (cfB gr) (vs.map D.int) [iE C,iE (.int r),iE (.dct k),iE S,ch,iE (.int v)]:=by simp [jR,cfB,w,hi,vh,JU,c,d]
   rw [s1,b7,q,Bool.false_or];exact XM hl hi c P vs _ λu f=>h u (ac _ f)
theorem qgM (r:Int) (Cs:List Cn) (n:Nat) (x:Str) (ls:List Str) (k:Fx):cf r Cs (n+1) (x::ls) k=(Cs.all (md r k)&&(chs r k).any λw=>cf r Cs n ls (vX k (.inr x) (.int w))):=rfl
theorem JA (hC:∀ c∈Cs,c.1.length<=2/\c.2.length<=2) (y:Cs.length<=100) (u:0 < r) (l:r<=99):∀ (n:Nat) (ls:List Str) (k:Fx),ls.length < n->qdQ k->k.length+ls.length<=100 ->qU n [.lst (Cs.map cE),.int r,.dct k,sE ls]=.ok (.bl (cf r Cs n ls k),[.non,.non,.non,.non])
 | 0,ls,k,h,_,_=>absurd h (c7 _)
 | n+1,ls,k,h,hk,hl=>by
  have hA:=λa b c=>qgA hC y u hk a b c;show jQ jO [.val,.val,.val,.val] (jv (qU n)) [.lst (Cs.map cE),.int r,.dct k,sE ls]=_;have t:qt jO [.lst (Cs.map cE),.int r,.dct k,sE ls]=[iE (.lst (Cs.map cE)),iE (.int r),iE (.dct k),iE (sE ls),iG,iG]:=rfl;cases q:Cs.all (md r k) with
  | false=>
   refine qr.trans ?_;have s:cf r Cs (n+1) ls k=false:=by cases ls <;> (unfold cf; rw [q]; rfl)
   rw [q] at hA;rw [t,s];simp [jv,-vB,hA]
  | true=>
   rw [q] at hA;have hA:=hA (iE (sE ls)) iG iG;cases ls with
   | nil=>refine qr.trans ?_;rw [show cf r Cs (n+1) [] k=iJ by unfold cf; rw [q]; rfl];rw [t];unfold jv;refine (qv (ρ1:=[iE (.lst (Cs.map cE)),iE (.int r),iE (.dct k),iE (sE []),iG,iG]) (by simp [-vB,hA])).trans ?_;simp [eqD,eqN,eqS]
   | cons x ls=>
    rw [aq] at h hl;rw [qgM,q,Bool.true_and];obtain ⟨hi,z⟩:=qje x ls;have d:∀ v∈chs r k,0<=v/\v < r:=λv d=>by
     unfold chs at d;split at d;·rw [au.mp d]; lia
     ·obtain ⟨j,G,rfl⟩:=ah.mp d;have:=aM.mp G
      lia
    have o:dIf (qL (d2 eqD (d1 ky (qd 2)) (dC (.int 0)))) (yd (qc (dC (.int 0)) qx)) (d1 kP (qd 1)) [iE (.lst (Cs.map cE)),iE (.int r),iE (.dct k),iE (sE (x::ls)),iG,iG]=.ok (.lst ((chs r k).map D.int),[iE (.lst (Cs.map cE)),iE (.int r),iE (.dct k),iE (sE (x::ls)),iG,iG]):=by
     unfold chs;by_cases i:k=[];·have z1:1<=sizeLine:=jb (by lia);simp [eqD,eqN,eqS,i,z1]
     ·rw [Ab i];have g:kP (.int r)=.ok (.lst (((aE r.toNat).map λ(j:Nat)=>(j:Int)).map D.int)):=by
       unfold kP;have A:qej 0 r/\r<=1000000:=⟨⟨by decide,by lia⟩,by lia⟩
       simp only [Int.sub_zero,Aa A];rw [qdR]
      generalize ((aE r.toNat).map λ(j:Nat)=>(j:Int)).map D.int=M at g ⊢;simp [eqD,eqN,eqS,i,g]
    have p:=XM (gr:=qU n) (C:=.lst (Cs.map cE)) (r:=r) (k:=k) (ch:=iE (.lst ((chs r k).map D.int))) (by lia) hi z (λw=>cf r Cs n ls (vX k (.inr x) (.int w))) (chs r k) iG λv L=>
     JA hC y u l n ls (vX k (.inr x) (.int v)) (by lia) (qjd hk _ (d v L).1 (by have:=(d v L).2; lia)) (by have:=qgz k (.inr x) (.int v); lia)
    have f:ky (sE (x::ls))=.ok (.int ((ls.length:Int)+1)):=by simp
    have m:¬((ls.length:Int)+1=0):=by lia
    generalize E:sE (x::ls)=S at *;generalize D.lst (Cs.map cE)=C at *;have fin:Gg [.val,.val,.val,.val] ((qN (zI (jl (qd 4)) (gNm 5) (cfB (qU n))) (jt (dC (.bl iI)))) [iE C,iE (.int r),iE (.dct k),iE S,iE (.lst ((chs r k).map D.int)),iG])=.ok (.bl ((chs r k).any λw=>cf r Cs n ls (vX k (.inr x) (.int w))),[.non,.non,.non,.non]):=by
     have hit:jl (qd 4) [iE C,iE (.int r),iE (.dct k),iE S,iE (.lst ((chs r k).map D.int)),iG]=.ok ((chs r k).map D.int,[iE C,iE (.int r),iE (.dct k),iE S,iE (.lst ((chs r k).map D.int)),iG]):=by simp [jg]
     generalize (chs r k).map D.int=M at hit p ⊢;rcases p with ⟨e0,ρ,e⟩ | ⟨e0,B,e⟩
     ·rw [e0,gL,vg,hit,jr,e]; rfl
     ·rw [e0,gL,vg,hit,jr,e]; rfl
    refine qr.trans ?_;rw [t];unfold jv;refine (qv (ρ1:=[iE C,iE (.int r),iE (.dct k),iE S,iG,iG]) (by simp [-vB,hA])).trans ?_;refine (qv (ρ1:=[iE C,iE (.int r),iE (.dct k),iE S,iG,iG]) (by simp [f,eqD,eqN,eqS,m])).trans ?_;refine (qv (ρ1:=[iE C,iE (.int r),iE (.dct k),iE S,iE (.lst ((chs r k).map D.int)),iG]) (by rw [wm,o]; rfl)).trans ?_;exact fin
theorem JB (I:l.length<=6) (p:1<=r) (s:r<=99) {k:Fx} (A:qdQ k) (w:k.length<=50):∃ b,jz [.lst (qo l),.int r,.dct k]=.ok (.bl b,[.non,.non,.non])/\(b=iJ↔(l.length:Int)<=r/\OKs r k l):=by
 have n:ky (.lst (qo l))=.ok (.int l.length):=by simp [qo]
 by_cases m:r < (l.length:Int);·refine ⟨iI,?_,⟨(λz=>by cases z),λz=>absurd z.1 (by lia)⟩⟩;refine qr.trans ?_;generalize D.lst (qo l)=Z at n ⊢;simp [uu,qt,n,m]
 ·have g:(l.length:Int)<=r:=by lia
  obtain ⟨B,n1,n2,H⟩:=qgL p k (K:=l) (by lia) g;have J:B.length<=6:=bI n2.length_le I;have L:=xz (l:=B) (by lia);have f:=WF (l:=B) (by lia);have u:=qjf B;have E:((LS B).filter λx=>!kJ k (.inr x)).length<=12:=by
   have:=c9 (λx=>!kJ k (.inr x)) (LS B)
   lia
  have G:=JA (Cs:=CT B) (λc f=>qeF f) (qja B (by lia)) (r:=r) (by lia) s 14 ((LS B).filter λx=>!kJ k (.inr x)) k (by lia) A (by lia);refine ⟨cf r (CT B) 14 ((LS B).filter λx=>!kJ k (.inr x)) k,?_,?_⟩
  ·refine qr.trans ?_;have e:=Xo (own:=[]) (cap:=[2]) (fi:=jl (ql [.vl] jM (qc (qd 3) qx))) (ρ:=[iE (.lst (qo l)),iE (.int r),iE (.dct k),iE (.lst (qo B)),iG]) (ρ1:=[iE (.lst (qo l)),iE (.int r),iE (.dct k),iE (.lst (qo B)),iG]) (ds:=(LS B).map D.str) (ft:=qL (d2 zJ (qd 0) (qd 1))) (fe:=qd 0) (λd=>match d with | .str x=>!kJ k (.inr x) | _=>iI) (λd=>d) (by simp) (by
     generalize D.lst (qo B)=Z at L ⊢;simp [L,jg]) (by rw [af]; exact jb (by lia)) (λd hd=>by
     obtain ⟨x,hx,rfl⟩:=ah.mp hd;simp [zJ,QG]) (λd hd _=>rfl)
   rw [f9,fz] at e;have e:qI [] 1 [2] (jl (ql [.vl] jM (qc (qd 3) qx))) (gNm 0) (qL (d2 zJ (qd 0) (qd 1))) (qd 0) [iE (.lst (qo l)),iE (.int r),iE (.dct k),iE (.lst (qo B)),iG]=.ok (sE ((LS B).filter λx=>!kJ k (.inr x)),[iE (.lst (qo l)),iE (.int r),iE (.dct k),iE (.lst (qo B)),iG]):=e;unfold uu;rw [show qt zr [.lst (qo l),.int r,.dct k]=[iE (.lst (qo l)),iE (.int r),iE (.dct k),iG,iG] from rfl];generalize D.lst (qo l)=Z at *;generalize D.lst (qo B)=ZB at *;generalize D.dct k=Y at *;refine (qv (ρ1:=[iE Z,iE (.int r),iE Y,iG,iG]) (by simp [n,m])).trans ?_;refine (qv (ρ1:=[iE Z,iE (.int r),iE Y,iE ZB,iG]) (by simp [H])).trans ?_;refine (qv (ρ1:=[iE Z,iE (.int r),iE Y,iE ZB,iE (sE ((LS B).filter λx=>!kJ k (.inr x)))]) (by rw [wm,e]; rfl)).trans ?_;generalize sE ((LS B).filter λx=>!kJ k (.inr x))=S at *;generalize D.lst ((CT B).map cE)=C at *;simp [f,G]
  ·have j:((LS B).filter λx=>!kJ k (.inr x)).Nodup:=((qF _).nodup_iff.mpr (uN _ [] cx).1).filter _;have hok:(∃ v,Ext k v/\qg3 r (CT B) v)↔OKs r k B:=⟨λ⟨v,a,b⟩=>⟨v,a,qgE.mpr b⟩,λ⟨v,a,b⟩=>⟨v,a,qgE.mp b⟩⟩
   rw [<-n1,<-hok];have o:∀ c∈CT B,∀ y∈c.1++c.2,kJ k (.inr y)=iJ\/y∈(LS B).filter λx=>!kJ k (.inr x):=λc f y i=>by
    cases q:kJ k (.inr y) with
    | true=>exact .inl rfl
    | false=>exact .inr (br.mpr ⟨qjm f y i,by rw [q]; rfl⟩)
   by_cases t:k=[];·subst t;rw [qgH p (λc f=>qmg f) 14 _ (by lia) j λc f y i=>(o c f y i).resolve_left λz=>by cases z];exact ⟨λ⟨v,h⟩=>⟨g,v,(λx hx=>by cases hx),h⟩,λ⟨_,v,_,h⟩=>⟨v,h⟩⟩
   ·rw [qb2 p 14 _ k (by lia) t j (λy i=>by simpa using (br.mp i).2) o];exact ⟨λh=>⟨g,h⟩,λh=>h.2⟩
def Lst (l:List (Str×Str)) (R:Int):Prop:=(l.length:Int)<=R/\OKs R [] l/\∀ r,(l.length:Int)<=r->r < R->¬OKs r [] l
variable {R:Int}
theorem Lst.one {d:Int} (h:Lst l R) (h':Lst l d):R=d:=by
 obtain ⟨a,b,c⟩:=h;obtain ⟨t,e,U⟩:=h';by_cases q:R < d;·exact absurd b (U R a q)
 ·by_cases g:d < R;·exact absurd e (c d t g)
  ·omega
abbrev rfT:ua:=(gm (we (ql [.vl,.vl,.vl] jz (qc (qd 0) (qc (qd 2) (qc (dC (.dct [])) qx))))))
abbrev rfB:qR:=(jx 2 (d2 vz (qd 2) (dC (.int 1))))
theorem XN {Z:D} {P:Int->Prop} (hd:∀ r,1<=r->r<=99->∃ b,jz [Z,.int r,.dct []]=.ok (.bl b,[.non,.non,.non])/\(b=iJ↔P r)) {m:Int} (c:P m) (h:m<=97) {a:Option D}:∀ (n:Nat) (f:Int),1<=f->f<=m->m < f+n ->∃ R,f<=R/\P R/\(∀ r,f<=r->r < R->¬P r)/\qZ rfT rfB n [iE Z,a,iE (.int f)]=.ok (.nx,[iE Z,a,iE (.int R)])
 | 0,f,h1,h2,h3=>by omega
 | n+1,f,h1,h2,h3=>by
  obtain ⟨b,e,g⟩:=hd f h1 (by omega);cases b with
  | true=>exact ⟨f,by omega,g.mp rfl,λr r1 r2=>by omega,by simp [qZ,e]⟩
  | false=>
   have d:¬P f:=λz=>by have:=g.mpr z; cases this
   have j:f≠m:=λz=>d (by rw [z]; exact c);obtain ⟨R,r1,r2,r3,r4⟩:=XN hd c h n (f+1) (by omega) (by omega) (by omega);refine ⟨R,by omega,r2,λr k i=>?_,?_⟩
   ·by_cases q:r=f;·rw [q]; exact d
    ·exact r3 r (by omega) i
   ·have s1:qZ rfT rfB (n+1) [iE Z,a,iE (.int f)]=qZ rfT rfB n [iE Z,a,iE (.int (f+1))]:=by simp [qZ,e]
    rw [s1];exact r4
theorem qjp (h:clo l=iG):NA l:=by
 unfold NA;rw [dI];intro i j hi G b;have h1:=List.findSome?_eq_none_iff.mp h j (aM.mpr G);unfold clF at h1;rw [Option.map_eq_none_iff,bP] at h1;have h2:=h1 i (aM.mpr b);have e1:pa l i=l[i]:=by simp [pa,hi]
 have e:pa l j=l[j]:=by simp [pa,G]
 rw [<-e1,<-e];simpa using h2
theorem XO (w:qX ws) (hl:JD p q) (e:clo (qy ws p q)=iG):∃ R,vH [Wd ws,Ld p q]=.ok (.int R,[.non,.non])/\Lst (qy ws p q) R:=by
 have s:=KR ws p q;have g:=w.2.1;have j:=w.1;have h1:=xy w hl;have h2:=QA (l:=qy ws p q) (by omega);rw [e] at h2;have h2:kY [.lst (qo (qy ws p q))]=.ok (.non,[.non]):=h2;have n:ky (.lst (qo (qy ws p q)))=.ok (.int (qy ws p q).length):=by simp [qo]
 have k:qdQ []:=λkv h=>by cases h
 obtain ⟨v,f⟩:=qmh (qjp e) (by omega);have d:((qy ws p q).length:Int)<=97/\OKs 97 [] (qy ws p q):=⟨by omega,v,(λx hx=>by cases hx),f⟩
 obtain ⟨R,r1,r2,r3,r4⟩:=XN (Z:=.lst (qo (qy ws p q))) (P:=λr=>((qy ws p q).length:Int)<=r/\OKs r [] (qy ws p q)) (λr a b=>JB (by omega) a b k (by simp)) d (by omega) (a:=iE (.int (qy ws p q).length)) 100 (qy ws p q).length (by omega) (by omega) (by omega);refine ⟨R,?_,r1,r2.2,λr a b c=>r3 r a b ⟨a,c⟩⟩;generalize D.lst (qo (qy ws p q))=Z at *;have i:yz [Z,.int (qy ws p q).length]=.ok (.int R,[.non,.non]):=by refine qr.trans ?_;unfold Qc;rw [show qt Qb [Z,.int (qy ws p q).length]=[iE Z,iE (.int (qy ws p q).length),iG] from rfl];refine (qv (ρ1:=[iE Z,iE (.int (qy ws p q).length),iE (.int (qy ws p q).length)]) (by simp)).trans ?_;refine (qv r4).trans ?_;simp
 refine qr.trans ?_;simp [zu,qt,h1,h2,n,i]
abbrev Pm:={ ls:List Nat // ls.Perm (dD 97 26) }
theorem Pm.len (t:Pm):t.1.length=26:=by rw [t.2.length_eq,cZ]
theorem Pm.az (t:Pm) {c:Nat} (h:c∈t.1):Kx.az c:=by have:=List.mem_range'_1.mp (t.2.mem_iff.mp h);exact ⟨by lia,by lia⟩
noncomputable def sf (t:Pm) (c:Nat):Nat:=if 97<=c/\c<=122 then (t.1[c - 97]?).getD 0 else c
theorem WH (t:Pm) {c:Nat} (h:az c):∃ d:c - 97 < t.1.length,sf t c=t.1[c - 97]:=by
 obtain ⟨h1,h2⟩:=h;have hl:c - 97 < t.1.length:=by rw [t.len]; lia
 refine ⟨hl,?_⟩;unfold sf;rw [Aa ⟨h1,h2⟩,aw hl];rfl
variable {t:Pm}
theorem qgN {c:Nat} (h:az c):az (sf t c):=by obtain ⟨hl,e⟩:=WH t h;rw [e];exact t.az (bt hl)
theorem qdU {c:Nat} (h:¬az c):sf t c=c:=Ab h
theorem qjq {a b:Nat} (h:sf t a=sf t b):a=b:=by
 by_cases g:az a
 ·by_cases d:az b
  ·obtain ⟨c,w⟩:=WH t g;obtain ⟨l,J⟩:=WH t d;rw [w,J] at h;have n:t.1.Nodup:=t.2.nodup_iff.mpr List.nodup_range';have:=(eU n).mp h;obtain ⟨_,_⟩:=g;obtain ⟨_,_⟩:=d
   lia
  ·rw [qdU d] at h;exact absurd (h ▸ qgN g) d
 ·by_cases d:az b;·rw [qdU g] at h;exact absurd (h ▸ qgN d) g
  ·rw [qdU g,qdU d] at h;exact h
noncomputable def gs (t:Pm) (x:Str):Str:=⟨⟨x.cps.toList.map (sf t)⟩⟩
theorem qb3 {f:α->β} (c:∀ a b,f a=f b->a=b):∀ {l m:List α},l.map f=m.map f->l=m
 | [],[],_=>rfl
 | [],_::_,h=>by simp at h
 | _::_,[],h=>by simp at h
 | a::l,b::m,h=>by simp only [aC,List.cons.injEq] at h;rw [c _ _ h.1,qb3 c h.2]
theorem JC (h:gs t x=gs t y):x=y:=by obtain ⟨⟨a⟩⟩:=x;obtain ⟨⟨b⟩⟩:=y;have h:(⟨⟨a.map (sf t)⟩⟩:Str)=⟨⟨b.map (sf t)⟩⟩:=h;injection h with h;injection h with h;rw [qb3 (λ_ _=>qjq) h]
abbrev gp (t:Pm) (x:Str×Str):Str×Str:=(gs t x.1,gs t x.2)
theorem qb4 (t:Pm) (w:Str):(gs t w).length=w.length:=by obtain ⟨⟨a⟩⟩:=w;show (a.map (sf t)).length=a.length;rw [af]
theorem qjr (t:Pm) (w:Str) (p:Int):UW (gs t w) p=gs t (UW w p):=by
 have e:(((gs t w).cps.toList)[wa (gs t w).length p]?).getD 0=sf t ((w.cps.toList[wa w.length p]?).getD 0):=by
  rw [qb4];show ((w.cps.toList.map (sf t))[wa w.length p]?).getD 0=_;rw [aF];cases w.cps.toList[wa w.length p]? with
  | none=>rfl
  | some c=>rfl
 unfold UW;rw [e];rfl
theorem qgO (h:ZU w):ZU (gs t w):=⟨by rw [qb4]; exact h.1,by rw [qb4]; exact h.2.1,λc a=>by obtain ⟨d,hd,rfl⟩:=ah.mp (show c∈w.cps.toList.map (sf t) from a);exact qgN (h.2.2 d hd)⟩
abbrev gss (t:Pm) (ws:List Str):List Str:=ws.map (gs t)
theorem qeL (h:qX ws):qX (gss t ws):=by
 refine ⟨by rw [af]; exact h.1,by rw [af]; exact h.2.1,?_,λw a=>?_⟩;·unfold g0;rw [dj];exact et (λc z=>c (JC z)) h.2.2.1
 ·obtain ⟨x,hx,rfl⟩:=ah.mp a;exact qgO (h.2.2.2 x hx)
theorem XQ (t:Pm) (ws:List Str) (p q:Int):qy (gss t ws) p q=(qy ws p q).map (gp t):=by unfold qy gss;rw [aR,aR];refine ck λw _=>?_;simp [qjr]
theorem qgP (t:Pm) (x y:Str×Str):al (gp t x) (gp t y)=al x y:=by
 have h:al (gp t x) (gp t y)=iJ↔al x y=true:=by
  rw [XA,XA];obtain ⟨B,f⟩:=x;obtain ⟨a,b⟩:=y;simp only [gp,Prod.mk.injEq];constructor
  ·rintro (⟨h1,h2⟩ | ⟨h1,h2⟩);·exact .inl ⟨JC h1,JC h2⟩
   ·exact .inr ⟨JC h1,JC h2⟩
  ·rintro (⟨rfl,rfl⟩ | ⟨rfl,rfl⟩);·exact .inl ⟨rfl,rfl⟩
   ·exact .inr ⟨rfl,rfl⟩
 cases q:al x y with
 | true=>exact h.mpr q
 | false=>
  cases g:al (gp t x) (gp t y) with
  | false=>rfl
  | true=>rw [h.mp g] at q; cases q
theorem ZZ (t:Pm) (l:List (Str×Str)) (i:Nat):pa (l.map (gp t)) i=gp t (pa l i):=by
 unfold pa;rw [aF];cases l[i]? with
 | none=>rfl
 | some x=>rfl
theorem qjs (t:Pm) (l:List (Str×Str)):clo (l.map (gp t))=clo l:=by
 have e:clF (l.map (gp t))=clF l:=by
  funext i;unfold clF;have:clP (l.map (gp t)) i=clP l i:=by funext j;unfold clP;rw [ZZ,ZZ,qgP]
  rw [this]
 unfold clo;rw [e,af]
theorem back (t:Pm) (v:Str->Int):∃ v':Str->Int,∀ x,v' (gs t x)=v x:=by
 classical
 refine ⟨λy=>if h:∃ x,gs t x=y then v h.choose else 0,λx=>?_⟩;have h:∃ z,gs t z=gs t x:=⟨x,rfl⟩
 simp only [dif_pos h];rw [JC h.choose_spec]
variable {v':Str->Int}
theorem qjt (h:∀ x,v' (gs t x)=v x):Ds r v' (l.map (gp t))↔Ds r v l:=by
 unfold Ds;rw [dj];have:∀ p,nu v' (gp t p)=nu v p:=λp=>by simp [nu,h]
 simp only [this]
theorem qeM:OKs r [] (l.map (gp t))↔OKs r [] l:=by
 constructor;·rintro ⟨v,_,h⟩;exact ⟨λx=>v (gs t x),(λx hx=>by cases hx),(qjt λ_=>rfl).mp h⟩
 ·rintro ⟨v,_,h⟩;obtain ⟨v',c⟩:=back t v;exact ⟨v',(λx hx=>by cases hx),(qjt c).mpr h⟩
theorem qju:Lst (l.map (gp t)) R↔Lst l R:=by unfold Lst;rw [af];simp only [qeM]
theorem qeN (h:∀ x,v' (gs t x)=v x):Sol (l.map (gp t)) r ns v'↔Sol l r ns v:=by
 unfold Sol;constructor;·intro q k p hp;have:=q k (gp t p) (by rw [aF,hp]; rfl);simpa [h] using this
 ·intro q k p hp;rw [aF] at hp;obtain ⟨a,b,rfl⟩:=aN.mp hp;have:=q k a b;simpa [h] using this
theorem qle (t:Pm) (l:List (Str×Str)):AL (l.map (gp t))=AL l:=by
 have e1:∀ i,grp (l.map (gp t)) i=grp l i:=λi=>by unfold grp;rw [af];refine List.filter_congr λj _=>?_;rw [ZZ,ZZ,qgP]
 have e:∀ i,Gh (l.map (gp t)) i=Gh l i:=λi=>by unfold Gh;congr 1;funext j;rw [ZZ,ZZ,qgP]
 unfold AL;rw [af,funext e,funext e1]
theorem qdV (t:Pm) (l:List (Str×Str)) (y:Str):y∈LS (l.map (gp t))↔∃ x∈LS l,y=gs t x:=by
 rw [ko];constructor
 ·rintro ⟨p,hp,h⟩;obtain ⟨q,hq,rfl⟩:=ah.mp hp;rcases h with rfl | rfl;·exact ⟨q.1,ko.mpr ⟨q,hq,.inl rfl⟩,rfl⟩
  ·exact ⟨q.2,ko.mpr ⟨q,hq,.inr rfl⟩,rfl⟩
 ·rintro ⟨x,hx,rfl⟩;obtain ⟨q,hq,h⟩:=ko.mp hx;refine ⟨gp t q,ah.mpr ⟨q,hq,rfl⟩,?_⟩;rcases h with rfl | rfl;·exact .inl rfl
  ·exact .inr rfl
theorem XR (h:∀ x∈LS seen,v x=v' x) (s:Sol seen r ns v):Sol seen r ns v':=λk p hp=>by have c:=bG hp;rw [<-h _ (ko.mpr ⟨p,c,.inl rfl⟩),<-h _ (ko.mpr ⟨p,c,.inr rfl⟩)];exact s k p hp
noncomputable def tl (seen:List Pr) (r:Int) (ns:List Int):List Ln:=(EV0 r (LS seen)).filter λl=>decide (yc l seen r=ns)
theorem xD (f:1<=r) (n:kq seen.length r ns) (l:Ln):l∈tl seen r ns↔(jT l=LS seen/\∀ e∈l,0<=e.2/\e.2 < r)/\Sol seen r ns (jw l):=by unfold tl;rw [br,qbW f,decide_eq_true_eq,Xy n]
theorem qjv:(tl seen r ns).Nodup:=(qgt _ _ (by simp)).filter _
theorem qjw {l m:Ln} (hl:jT l=LS seen) (c:jT m=LS seen) (h:∀ x∈LS seen,jw l x=jw m x):l=m:=by rw [yE (l:=l) (by rw [hl]; exact qbM _),yE (l:=m) (by rw [c]; exact qbM _),hl,c];exact ck λx hx=>by rw [h x hx]
theorem qeO (f:1<=r) (n:kq seen.length r ns) {l:Ln} (h:l∈tl seen r ns) (hx:x∈LS seen):0<=jw l x/\jw l x < r:=by obtain ⟨⟨h1,h2⟩,_⟩:=(xD f n l).mp h;exact h2 _ (yD (by rw [h1]; exact hx)).1
theorem qlf (t:Pm) (f:1<=r) (n:kq seen.length r ns):(tl (seen.map (gp t)) r ns).length=(tl seen r ns).length:=by
 have Z:kq (seen.map (gp t)).length r ns:=by rw [af]; exact n
 refine fy (KQ (λl=>(LS seen).map λx=>(x,jw l (gs t x))) qjv (λl hl=>?_) λa g b d e=>?_) (KQ (λl=>(LS (seen.map (gp t))).map λy=>(y,(back t (jw l)).choose y)) qjv (λl hl=>?_) λa g b d e=>?_)
 ·refine (xD f n _).mpr ⟨⟨xC _ _,λe i=>?_⟩,?_⟩;·obtain ⟨x,hx,rfl⟩:=ah.mp i;exact qeO f Z hl ((qdV t seen _).mpr ⟨x,hx,rfl⟩)
  ·exact XR (λx hx=>(kw (λx=>jw l (gs t x)) hx).symm) ((qeN (v:=λx=>jw l (gs t x)) λ_=>rfl).mp ((xD f Z l).mp hl).2)
 ·refine qjw ((xD f Z a).mp g).1.1 ((xD f Z b).mp d).1.1 λy D=>?_;obtain ⟨x,hx,rfl⟩:=(qdV t seen y).mp D;have h1:=kw (λx=>jw a (gs t x)) hx;have h2:=kw (λx=>jw b (gs t x)) hx;rw [e] at h1;exact h1.symm.trans h2
 ·have d:=(back t (jw l)).choose_spec;refine (xD f Z _).mpr ⟨⟨xC _ _,λe i=>?_⟩,?_⟩;·obtain ⟨y,D,rfl⟩:=ah.mp i;obtain ⟨x,hx,rfl⟩:=(qdV t seen y).mp D;show 0<=(back t (jw l)).choose (gs t x)/\(back t (jw l)).choose (gs t x) < r;rw [d x];exact qeO f n hl hx
  ·exact XR (λy D=>(kw (λy=>(back t (jw l)).choose y) D).symm) ((qeN d).mpr ((xD f n l).mp hl).2)
 ·refine qjw ((xD f n a).mp g).1.1 ((xD f n b).mp d).1.1 λx hx=>?_;have D:=(qdV t seen (gs t x)).mpr ⟨x,hx,rfl⟩;have h1:=kw (λy=>(back t (jw a)).choose y) D;have h2:=kw (λy=>(back t (jw b)).choose y) D;have e:(LS (seen.map (gp t))).map (λy=>(y,(back t (jw a)).choose y))=(LS (seen.map (gp t))).map λy=>(y,(back t (jw b)).choose y):=e;rw [e] at h1;have h:=h1.symm.trans h2;rw [(back t (jw a)).choose_spec x,(back t (jw b)).choose_spec x] at h;exact h
abbrev Lk:=Int×Int
abbrev LD (x:Lk):D:=Ld x.1 x.2
noncomputable def LK:List Lk:=(aE 6).flatMap λ(a:Nat)=>(aE 6).map λ(b:Nat)=>((a:Int) - 3,(b:Int) - 3)
theorem WJ:vk []=.ok (.lst (LK.map LD),[]):=by kernel_rfl
theorem qjx:LK.length=36:=by kernel_rfl
theorem qjy {x:Lk}:x∈LK↔JD x.1 x.2:=by
 unfold LK JD;simp only [cR,ah,aM];constructor
 ·rintro ⟨a,g,b,d,rfl⟩;simp only
  lia
 ·rintro ⟨⟨h1,h2⟩,i,h⟩;refine ⟨(x.1+3).toNat,by lia,(x.2+3).toNat,by lia,?_⟩;obtain ⟨a,b⟩:=x;simp only at *;refine h7 ?_ ?_
  ·show ((a+3).toNat:Int) - 3=a
   lia
  ·show ((b+3).toNat:Int) - 3=b
   lia
theorem qjz {Cs:List α} {fi:wT} {fe:qY} {ft:ua} (A B:α->D) (P:α->Bool) (o:∀ k∈cap,k∉own) (h:fi ρ=.ok (Cs.map A,ρ)) (hl:Cs.length<=sizeLine)
  (ht:∀ c∈Cs,ft (iE (A c)::cap.map λk=>(ρ[k]?).getD iG)=.ok (P c,iE (A c)::cap.map λk=>(ρ[k]?).getD iG))
  (i:∀ c∈Cs,P c=iJ->fe (iE (A c)::cap.map λk=>(ρ[k]?).getD iG)=.ok (B c,iE (A c)::cap.map λk=>(ρ[k]?).getD iG)):qI own 1 cap fi (gNm 0) ft fe ρ=.ok (.lst ((Cs.filter P).map B),ρ):=by
 have key:∀ (l:List α) (x:Option D),(∀ c∈l,c∈Cs)->∃ n,jG (gNm 0) ft fe (l.map A) (x::cap.map λk=>(ρ[k]?).getD iG)=.ok ((l.filter P).map B,n::cap.map λk=>(ρ[k]?).getD iG):=by
  intro l
  induction l with
  | nil=>intro x _; exact ⟨x,rfl⟩
  | cons c l j=>
   intro x a;obtain ⟨n,e⟩:=j (iE (A c)) λd hd=>a d (ac _ hd);have h1:=ht c (a c (ap ..));have h2:=i c (a c (ap ..));cases q:P c with
   | true=>exact ⟨n,by simp [jG,yV,h1,q,h2 q,e]⟩
   | false=>exact ⟨n,by simp [jG,yV,h1,q,e]⟩
 obtain ⟨n,e⟩:=key Cs iG λ_ h=>h;unfold qI;rw [h];simp only [jr];rw [Aa (by rw [af]; exact hl),show kE 1 cap ρ=iG::cap.map λk=>(ρ[k]?).getD iG from rfl,e];simp only [jr];rw [wb _ cap 1 ρ o]
theorem qgQ:LK.length<=sizeLine:=by rw [qjx]; exact jb (by lia)
theorem qlg (x y:Lk):eqN 7 (LD x) (LD y)=iE (decide (x=y)):=by obtain ⟨a,b⟩:=x;obtain ⟨c,d⟩:=y;by_cases q:a=c <;> by_cases e:b=d <;> simp [eqN,wS,eqS,q,e]
theorem qb5:∀ l:List Lk,wS (eqN 7) (l.map LD) (l.map LD)=iE iJ
 | []=>rfl
 | x::l=>by rw [aC];unfold wS;rw [qlg,qb5 l];simp
theorem qgR (l:List Lk):neD (.lst (l.map LD)) (.lst (l.map LD))=.ok (.bl iI):=by
 have:eqN 8 (.lst (l.map LD)) (.lst (l.map LD))=iE true:=by show (if _ then _ else _)=_;rw [Aa rfl];exact qb5 l
 simp only [neD,this];rfl
abbrev AZ:Str:=aP "abcdefghijklmnopqrstuvwxyz"
theorem qjA:∀ k∈aE 26,cQ AZ ⟨#[97+k]⟩ 0 AZ.length 1=[k]/\AZ.cps.toList[k]?=iE (97+k):=by decide +kernel
theorem qjB {c:Nat} (h:az c):gP (.str AZ) (.str ⟨#[c]⟩)=.ok (.int ((c - 97:Nat):Int))/\ixD (.str AZ) (.int ((c - 97:Nat):Int))=.ok (.str ⟨#[c]⟩):=by
 obtain ⟨a,b⟩:=qjA (c - 97) (aM.mpr (by unfold az at h; lia));rw [show 97+(c - 97)=c by unfold az at h; lia] at a b;constructor;·unfold gP;dsimp only;rw [a]
 ·unfold ixD;simp only [];rw [kL,b]
theorem qb6:AZ.cps.toList=dD 97 26:=by decide +kernel
abbrev lS (t:Pm):Str:=⟨⟨t.1⟩⟩
theorem Ga (t:Pm):vn [.str (lS t)]=.ok (.non,[.non]):=by
 have hl:(lS t).length=26:=t.len;have h:AZ.length=26:=by decide +kernel
 have c:kc (wn (lS t))=wn AZ:=by refine yY ((qF _).trans ?_) (kf _) (show (wn AZ).Pairwise (λx y=>¬y.cps.toList < x.cps.toList) by decide +kernel);unfold wn;rw [qb6];exact t.2.map _
 have h1:gb (.str (lS t))=.ok (.lst ((wn AZ).map D.str)):=by unfold gb;simp only [];rw [Aa (by rw [hl]; decide),c]
 have h2:VQ (.str AZ)=.ok (.lst ((wn AZ).map D.str)):=by kernel_rfl
 have i:eqD (.lst ((wn AZ).map D.str)) (.lst ((wn AZ).map D.str))=.ok (.bl iJ):=by kernel_rfl
 have a:ky (.str (lS t))=.ok (.int 26):=by show Out.ok (D.int ((lS t).length:Nat))=_;rw [hl];rfl
 have l:ky (.str AZ)=.ok (.int 26):=by kernel_rfl
 have b:eqD (.int 26) (.int 26)=.ok (.bl iJ):=rfl;have ht:zg "str" (.str (lS t))=.ok (.bl iJ):=qiH trivial;have hi:uy [.str (lS t)]=.ok (.bl iJ,[.non]):=by refine qr.trans ?_;generalize D.str (lS t)=X at *;generalize D.lst ((wn AZ).map D.str)=Y at *;simp [zw,qt,ht,a,l,b,h1,h2,i]
 refine qr.trans ?_;simp [uz,qt,hi]
theorem qjC (t:Pm) {c:Nat} (h:az c):ixD (.str (lS t)) (.int ((c - 97:Nat):Int))=.ok (.str ⟨#[sf t c]⟩):=by obtain ⟨hl,e⟩:=WH t h;unfold ixD;simp only [];rw [kL,aw hl,e]
theorem qb7 (t:Pm) (h:ZU w):gM (aP "") (.lst (w.cps.toList.map λc=>.str ⟨#[sf t c]⟩))=.ok (.str (gs t w)):=by
 have hl:w.cps.toList.length<=6:=by have:=h.2.1; simpa [uM] using this
 have h1:(w.cps.toList.map λc=>D.str ⟨#[sf t c]⟩)=((w.cps.toList.map (sf t)).map λc=>(⟨#[c]⟩:Str)).map D.str:=by rw [aR,aR];rfl
 have h2:=KI (w.cps.toList.map (sf t));have i:=Ww (w.cps.toList.map (sf t));have a:fY (aP "")=0:=by decide +kernel
 have m:(w.cps.toList.map (sf t)).length<=6:=by rw [af]; exact hl
 rw [h1];unfold gM;simp only [vw];rw [Aa ⟨by rw [h2,a]; lia,by rw [i]; exact jb (by show (w.cps.toList.map (sf t)).length<=2000; lia)⟩,i];rfl
noncomputable def sfD (t:Pm):D->D
 | .str x=>.str ⟨#[sf t ((x.cps.toList[0]?).getD 0)]⟩
 | d=>d
noncomputable def gsD (t:Pm):D->D
 | .str x=>.str (gs t x)
 | d=>d
theorem qdW (t:Pm) (h:ZU w):kA [.str w,.str (lS t)]=.ok (.str (gs t w),[.non,.non]):=by
 have hl:w.cps.toList.length<=6:=by have:=h.2.1; simpa [uM] using this
 have G:=qb7 t h;have e:=vJ (cap:=[1]) (fi:=jl (qd 0)) (fe:=d2 ixD (qd 1) (dM qj1 gP (dC (.str "abcdefghijklmnopqrstuvwxyz")) (qd 0))) (ρ:=[iE (.str w),iE (.str (lS t))]) (ρ1:=[iE (.str w),iE (.str (lS t))]) (ds:=wl w) (sfD t) (by simp [jg]) (by unfold wl; rw [af]; exact jb (by lia)) (λd hd=>by obtain ⟨c,a,rfl⟩:=ah.mp hd;obtain ⟨k,_⟩:=qjB (h.2.2 c a);have g:=qjC t (h.2.2 c a);generalize D.str (lS t)=X at *;simp [dM,qj1,k,g,sfD]);rw [show (wl w).map (sfD t)=w.cps.toList.map λc=>D.str ⟨#[sf t c]⟩ by unfold wl;rw [aR];rfl] at e;refine qr.trans ?_;unfold yj;rw [show qt yi [.str w,.str (lS t)]=[iE (.str w),iE (.str (lS t))] from rfl,yq,vB,e];simp only [jr,G];rfl
theorem Gb (t:Pm) (a:qX ws):Qg [Wd ws,.str (lS t)]=.ok (Wd (gss t ws),[.non,.non]):=by
 have h2:jS [Wd ws]=_:=vR a;have i:=Ga t;have hl:=a.2.1;have e:=vJ (cap:=[1]) (fi:=jl (qd 0)) (fe:=ql [.vl,.vl] kA (qc (qd 0) (qc (qd 1) qx))) (ρ:=[iE (Wd ws),iE (.str (lS t))]) (ρ1:=[iE (Wd ws),iE (.str (lS t))]) (ds:=ws.map D.str) (gsD t) (by simp [jg]) (by rw [af]; exact jb (by lia)) (λd hd=>by obtain ⟨w,h,rfl⟩:=ah.mp hd;have hi:=qdW t (a.2.2.2 w h);generalize D.str (lS t)=X at *;simp [hi,gsD]);rw [show (ws.map D.str).map (gsD t)=(gss t ws).map D.str by unfold gss;rw [aR,aR];rfl] at e;have ht:vW (.lst ((gss t ws).map D.str))=.ok (Wd (gss t ws)):=by
  have:((gss t ws).map D.str).length<=sizeLine:=by rw [af,af]; exact jb (by lia)
  simp [vW,this]
 refine qr.trans ?_;generalize D.str (lS t)=X at *;generalize D.lst ((gss t ws).map D.str)=Y at *;generalize Wd (gss t ws)=V at *;generalize Wd ws=W at *;simp [Wl,qt,h2,i,e,ht]
theorem XS (w:qX ws):∃ P:Lk->Bool,xR [Wd ws]=.ok (.lst ((LK.filter P).map LD),[.non])/\∀ x∈LK,(P x=iJ↔OKs ws.length [] (qy ws x.1 x.2)):=by
 have hd:∀ x:Lk,∃ b,jz [.lst (qo (qy ws x.1 x.2)),.int ws.length,.dct []]=.ok (.bl b,[.non,.non,.non])/\(b=iJ↔OKs ws.length [] (qy ws x.1 x.2)):=λx=>by have c:=KR ws x.1 x.2;have h1:=w.1;have f:=w.2.1;obtain ⟨b,e1,i⟩:=JB (l:=qy ws x.1 x.2) (by lia) (r:=ws.length) (by lia) (by lia) (k:=[]) (λkv a=>by cases a) (by simp);exact ⟨b,e1,i.trans ⟨λh=>h.2,λh=>⟨by lia,h⟩⟩⟩
 refine ⟨λx=>(hd x).choose,?_,λx hx=>(hd x).choose_spec.2⟩;have hi:jl (ql [] vk qx) [iE (Wd ws)]=.ok (LK.map LD,[iE (Wd ws)]):=by have h:=WJ;generalize LK.map LD=Z at h ⊢;simp [h,jg]
 have n:ky (Wd ws)=.ok (.int ws.length):=by simp
 have e:=qjz (own:=[]) (cap:=[0]) (Cs:=LK) (ρ:=[iE (Wd ws)]) (fi:=jl (ql [] vk qx)) (ft:=we (ql [.vl,.vl,.vl] jz (qc (ql [.vl,.vl] vj (qc (qd 1) (qc (qd 0) qx))) (qc (d1 ky (qd 1)) (qc (dC (.dct [])) qx))))) (fe:=qd 0) LD LD (λx=>(hd x).choose) (by simp) hi qgQ (λx hx=>by have h1:=xy w (qjy.mp hx);have h2:=(hd x).choose_spec.1;generalize (hd x).choose=b at h2 ⊢;generalize D.lst (qo (qy ws x.1 x.2))=Z at h1 h2;generalize Wd ws=W at h1 n ⊢;simp [h1,n,h2]) λ_ _ _=>rfl;have d:=vR w;refine qr.trans ?_;unfold qa2;rw [show qt qa1 [Wd ws]=[iE (Wd ws)] from rfl];refine (qv (ρ1:=[iE (Wd ws)]) (by simp [d])).trans ?_;rw [yq,e];rfl
theorem Gc (t:Pm) (w:qX ws):∃ L:List Lk,xR [Wd ws]=.ok (.lst (L.map LD),[.non])/\xR [Wd (gss t ws)]=.ok (.lst (L.map LD),[.non]):=by
 obtain ⟨P,e1,h1⟩:=XS w;obtain ⟨c,i,h2⟩:=XS (qeL (t:=t) w);have:LK.filter c=LK.filter P:=List.filter_congr λx hx=>by
  have a:=h1 x hx;have b:=h2 x hx;rw [XQ,qeM,af] at b;cases q:P x with
  | true=>exact b.mpr (a.mp q)
  | false=>
   cases g:c x with
   | false=>rfl
   | true=>rw [a.mpr (b.mp g)] at q; cases q
 rw [this] at i;exact ⟨_,e1,i⟩
theorem XT:∀ (l a:List (Key×D)),(l.map (·.1)).Nodup->(∀ x∈l,∀ p∈a,p.1≠x.1)->l.foldl (λl p=>vX l p.1 p.2) a=a++l
 | [],a,_,_=>by simp
 | x::l,a,hn,h=>by
  rw [aC,aH] at hn;have e:vX a x.1 x.2=a++[x]:=by unfold vX;rw [Ab];rw [eY];rintro ⟨p,hp,z⟩;exact h x (ap ..) p hp (Ae z)
  rw [bN,e,XT l _ hn.2 λy b p hp=>?_];·simp
  ·rcases aj.mp hp with hp | hp;·exact h y (ac _ b) p hp
   ·rw [au.mp hp];exact λz=>hn.1 (z ▸ ah.mpr ⟨y,b,rfl⟩)
theorem qb8 {k:Key}:∀ {L:List (Key×D)},(L.map (·.1)).Nodup->(k,d)∈L->L.find? (λkv=>decide (kv.1=k))=iE (k,d)
 | [],_,h=>by cases h
 | x::L,hn,h=>by
  rw [aC,aH] at hn;rcases ae.mp h with rfl | h;·rw [bx (by simp)]
  ·rw [bg,qb8 hn.2 h];simp only [decide_eq_true_eq];exact λz=>hn.1 (z ▸ ah.mpr ⟨_,h,rfl⟩)
noncomputable def kC (c:Nat):Key:=aU ⟨#[c]⟩
theorem XU:∀ (xs ys:List Nat),xs.length=ys.length->(f7 (λc e=>(kC c,D.str ⟨#[e]⟩)) xs ys).map (·.1)=xs.map kC
 | [],_,_=>by simp
 | _::_,[],h=>by cases h
 | x::xs,y::ys,h=>by have:=XU xs ys (h8.inj h);rw [List.zipWith_cons_cons,aC,aC,this]
theorem qjD {a b:Nat} (h:kC a=kC b):a=b:=by have h:=aU.inj h;injection h with h;injection h with h;injection h
noncomputable def bkS (t:Pm):List (Key×D):=f7 (λc e=>(kC c,D.str ⟨#[e]⟩)) (dD 97 26) t.1
theorem qeP (t:Pm):((bkS t).map (·.1)).Nodup:=by unfold bkS;rw [XU _ _ (by rw [cZ,t.len])];unfold g0;rw [dj];exact et (λh z=>h (qjD z)) (List.nodup_range' (s:=97) (n:=26))
theorem qgS (t:Pm):VV (.str AZ) (.str (lS t))=.ok (.dct (bkS t)):=by
 have h1:AZ.cps.all (· < 128)=true:=by decide +kernel
 have h2:(lS t).cps.all (· < 128)=true:=by rw [Array.all_eq_true'];intro c d;have:=(t.az (show c∈t.1 by simpa using d)).2;exact Ad (by lia)
 have i:AZ.cps.size=26:=by decide +kernel
 have a:(lS t).cps.size=26:=by show t.1.length=26; exact t.len
 unfold VV;simp only [];rw [Aa ⟨h1,h2,by rw [i,a],by rw [i]; decide⟩];have e:qkY AZ (lS t)=bkS t:=by unfold qkY bkS;rw [qb6];rfl
 rw [e,XT _ _ (qeP t) (by simp)];rfl
theorem qjE (t:Pm) {c:Nat} (h:az c):ixD (.dct (bkS t)) (.str ⟨#[c]⟩)=.ok (.str ⟨#[sf t c]⟩):=by
 obtain ⟨hl,e⟩:=WH t h;have m:(kC c,D.str ⟨#[sf t c]⟩)∈bkS t:=by unfold bkS;refine List.mem_iff_getElem?.mpr ⟨c - 97,?_⟩;rw [List.getElem?_zipWith,aw hl,List.getElem?_range' (by obtain ⟨_,_⟩:=h; lia),e];obtain ⟨_,_⟩:=h;simp only [Nat.one_mul];rw [show 97+(c - 97)=c by lia]
 have:=qb8 (qeP t) m;simp [ixD,show aU ⟨#[c]⟩=kC c from rfl,this]
abbrev chr (c:Nat):D:=.str ⟨#[c]⟩
noncomputable def pF (dr:jD):qR:=jx 3 (d2 vz (qd 3) (qaR 2 (ql [.vl,.sl 1,.vl] dr (qc (qd 0) (kj (qc (d1 ky (qd 2)) qx))))))
theorem kX:∀ (l:List Nat) (j:Nat) (h:j < l.length),(l[j]::l.eraseIdx j).Perm l
 | a::l,0,_=>.refl _
 | a::l,j+1,h=>(ib ..).trans ((kX l j (Nat.lt_of_succ_lt_succ h)).cons a)
variable {L:List D}
section
variable {dr:jD} {s0:D} {a4 a5 a6 a7 a8 a9:Option D}
theorem XV (h:neD (.lst L) (.lst [])=.ok (.bl b)) {a d c:Option D}:qL (d2O 2 neD (yd qx)) [a,d,iE (.lst L),c,a4,a5,a6,a7,a8,a9]=.ok (b,[a,d,iE (.lst L),c,a4,a5,a6,a7,a8,a9]):=by simp [d2O,h]
theorem qdX {n t:List D} {N:Int} {x A B:D} (g1:dr [s0,.lst n,.int N]=.ok (.int (j:Nat),[.non,.lst t,.non])) (h:ky (.lst L)=.ok (.int N)) (hg:L[j]?=iE x) (k:j<=2000) (d:vz A x=.ok B):pF dr [iE s0,iE (.lst n),iE (.lst L),iE A,a4,a5,a6,a7,a8,a9]=.ok (.nx,[iE s0,iE (.lst t),iE (.lst (L.eraseIdx j)),iE B,a4,a5,a6,a7,a8,a9]):=by
 have a:(j:Int)<=2000:=by lia
 unfold pF;simp only [wm,qc5,xL,cc,ce,jr,qaR,wQ,if_true];simp only [YR,YO,YQ,qat,vB,xL,cc,ce,jr,h,Out.plain];simp only [kD,zH,g1,Ul];simp [g1,hg,d,a]
theorem qdY (i:∀ (t:List D) (m:Nat),1<=m->t.length < 1000->∃ j:Nat,j < m/\dr [s0,.lst t,.int (m:Nat)]=.ok (.int (j:Nat),[.non,.lst (t++[.int 0]),.non])):∀ (n:Nat) (left acc:List Nat) (t:List D),left.length<=n->acc.length+left.length<=30->t.length+left.length < 1000 ->∃ (a:List D) (out:List Nat),out.Perm left/\a.length<=t.length+left.length/\qZ (qL (d2O 2 neD (yd qx))) (pF dr) (n+1) [iE s0,iE (.lst t),iE (.lst (left.map chr)),iE (.str ⟨⟨acc⟩⟩),a4,a5,a6,a7,a8,a9]=.ok (.nx,[iE s0,iE (.lst a),iE (.lst []),iE (.str ⟨⟨acc++out⟩⟩),a4,a5,a6,a7,a8,a9]):=by
 have nil:∀ (n:Nat) (acc:List Nat) (t:List D),qZ (qL (d2O 2 neD (yd qx))) (pF dr) (n+1) [iE s0,iE (.lst t),iE (.lst []),iE (.str ⟨⟨acc⟩⟩),a4,a5,a6,a7,a8,a9]=.ok (.nx,[iE s0,iE (.lst t),iE (.lst []),iE (.str ⟨⟨acc⟩⟩),a4,a5,a6,a7,a8,a9]):=λn acc t=>by rw [qZ,XV (b:=iI) rfl,jr];rfl
 intro n
 induction n with
 | zero=>intro left acc t h o ht;obtain rfl:left=[]:=dY.mp (by lia);exact ⟨t,[],.refl _,by simp,by rw [aY]; exact nil 0 acc t⟩
 | succ n p=>
  intro left acc t h o ht;cases left with
  | nil=>exact ⟨t,[],.refl _,by simp,by rw [aY]; exact nil (n+1) acc t⟩
  | cons c left=>
   obtain ⟨j,G,g1⟩:=i t (c::left).length (by simp) (by lia);have g:=dA G;rw [aq] at h o ht g;obtain ⟨a,out,hp,l,e⟩:=p ((c::left).eraseIdx j) (acc++[(c::left)[j]]) (t++[.int 0]) (by lia) (by rw [ai,c8]; lia) (by rw [ai,c8]; lia);rw [ai,c8] at l;refine ⟨a,(c::left)[j]::out,((hp.cons _).trans (kX _ _ G)),by rw [aq]; lia,?_⟩;rw [show acc++(c::left)[j]::out=acc++[(c::left)[j]]++out by simp,<-e];have z:(⟨⟨acc⟩⟩:Str).length+(⟨#[(c::left)[j]]⟩:Str).length<=sizeLine:=jb (by show acc.length+1<=2000; lia);have k:vz (.str ⟨⟨acc⟩⟩) (chr (c::left)[j])=.ok (.str ⟨⟨acc++[(c::left)[j]]⟩⟩):=by
    show (if _ then _ else _)=_;rw [Aa z];have:(⟨⟨acc⟩⟩:Str)++(⟨#[(c::left)[j]]⟩:Str)=⟨⟨acc++[(c::left)[j]]⟩⟩:=by show (⟨(⟨acc⟩:Array Nat)++#[(c::left)[j]]⟩:Str)=_;simp
    rw [this]
   have d:=qdX (a4:=a4) (a5:=a5) (a6:=a6) (a7:=a7) (a8:=a8) (a9:=a9) (L:=(c::left).map chr) (x:=chr (c::left)[j]) g1 (by show Out.ok (D.int _)=_; rw [af]) (by rw [aF,aw G]; rfl) (by rw [aq] at G; lia) k;have r:((c::left).map chr).eraseIdx j=((c::left).eraseIdx j).map chr:=by rw [List.eraseIdx_eq_take_drop_succ,List.eraseIdx_eq_take_drop_succ,bV,List.map_take,List.map_drop]
   rw [r] at d;have f:neD (.lst ((c::left).map chr)) (.lst [])=.ok (.bl iJ):=by simp [neD,eqN]
   rw [qZ,XV f,jr];simp only [if_true];rw [d,jr]
end
theorem QB {k:Nat}:∀ ds:List D,(∀ d∈ds,eqN k d d=iE iJ)->wS (eqN k) ds ds=iE iJ
 | [],_=>rfl
 | d::ds,h=>by have e:=h d (ap ..);have j:=QB ds λd' hd=>h d' (ac _ hd);simp [wS,e,j]
theorem qb9 {k:Nat} (h:∀ d∈ds,eqN k d d=iE iJ):eqN (k+1) (.lst ds) (.lst ds)=iE true:=by have e:=QB ds h;simp [eqN,e]
theorem gl {k:Nat} (h:∀ d∈ds,eqN k d d=iE iJ):eqN (k+1) (.tup ds) (.tup ds)=iE true:=by have e:=QB ds h;simp [eqN,e]
theorem qgT (k:Nat) (x:Str):eqN k (.str x) (.str x)=iE true:=by cases k <;> simp [eqN,eqS]
theorem qca (k:Nat) (x:Int):eqN k (.int x) (.int x)=iE true:=by cases k <;> simp [eqN,eqS]
theorem Ym (h:eqN 8 d d=iE iJ):neD d d=.ok (.bl iI):=by simp [neD,h]
theorem qjF (l:List Str):neD (Wd l) (Wd l)=.ok (.bl iI):=Ym (gl λd hd=>by obtain ⟨x,_,rfl⟩:=ah.mp hd;exact qgT _ _)
theorem qlh (l:List (Str×Str)):neD (ALd l) (ALd l)=.ok (.bl iI):=Ym (qb9 λd hd=>by obtain ⟨g,_,rfl⟩:=ah.mp hd;exact qb9 λe h=>by obtain ⟨i,_,rfl⟩:=ah.mp h;exact qca _ _)
theorem qcb (t:Pm) (a:qX ws) (f:ρ[6]?=iE (iE (Wd ws))) (l:(ρ[5]?).getD iG=iE (.dct (bkS t))):qI [2,1] 1 [5] (jl (qd 6)) (gNm 0) ftT (d1 (gM "") (qI [] 1 [1] (jl (qd 0)) (gNm 0) ftT (d2 ixD (qd 1) (qd 0)))) ρ=.ok (.lst ((gss t ws).map D.str),ρ):=by
 have hl:=a.2.1;have e:=UX (own:=[2,1]) (cap:=[5]) (fi:=jl (qd 6)) (fe:=d1 (gM "") (qI [] 1 [1] (jl (qd 0)) (gNm 0) ftT (d2 ixD (qd 1) (qd 0)))) (ρ:=ρ) (ρ1:=ρ) (ds:=ws.map D.str) (gsD t) (by decide) (by simp [jl,f,jg]) (by rw [af]; exact jb (by lia)) (λd hd=>by
  obtain ⟨w,h,rfl⟩:=ah.mp hd;have W:=a.2.2.2 w h;have i:w.cps.toList.length<=6:=by have:=W.2.1; simpa [uM] using this
  have G:=qb7 t W;have e:=vJ (cap:=[1]) (fi:=jl (qd 0)) (fe:=d2 ixD (qd 1) (qd 0)) (ρ:=[iE (.str w),iE (.dct (bkS t))]) (ρ1:=[iE (.str w),iE (.dct (bkS t))]) (ds:=wl w) (sfD t) (by simp [jg]) (by unfold wl; rw [af]; exact jb (by lia)) (λd hd=>by obtain ⟨c,b,rfl⟩:=ah.mp hd;have:=qjE t (W.2.2 c b);generalize D.dct (bkS t)=X at *;simp [this,sfD]);rw [show (wl w).map (sfD t)=w.cps.toList.map λc=>D.str ⟨#[sf t c]⟩ by unfold wl;rw [aR];rfl] at e;rw [aC,bM,l,vB,e,jr,G];rfl)
 rw [show (ws.map D.str).map (gsD t)=(gss t ws).map D.str by unfold gss;rw [aR,aR];rfl] at e;exact e
theorem qjG (a:List Int):qdy [scr a]=.ok (.bl iJ,[.non]):=by
 refine qr.trans ?_;obtain ⟨ws,p,q,r,ns,t1,T,y,g1⟩:=Yh a [] (by simp);rw [bf] at y;have h:=T.w;have hl:=T.l;have k:=T.r0;have A:r<=99:=by have:=T.r9; lia
 have s:=T.n;have B:(qy ws p q).length=ws.length:=by simp [qy]
 obtain ⟨t2,out,hp,N,C⟩:=qdY (dr:=jH) (s0:=scr a) (a4:=iG) (a5:=iG) (a6:=iE (Wd ws)) (a7:=iE (Ld p q)) (a8:=iE (.int r)) (a9:=iE (nD ns)) (λf m X ht=>by obtain ⟨i,K,i1,g⟩:=vt a f (many:=(m:Int)) (by lia) ht;obtain ⟨j,rfl⟩:=d6 K;exact ⟨j,by lia,g⟩) 29 (dD 97 26) [] t1 (by rw [cZ]; lia) (by rw [cZ]; simp) (by rw [cZ]; lia);rw [bW] at C;obtain ⟨t,rfl⟩:∃ t:Pm,out=t.1:=⟨⟨out,hp⟩,rfl⟩
 have b:=qeL (t:=t) h;have c:=XQ t ws p q;have R:=Gb t h;have Q:=qgS t;have O:=XC h hl;have e:=XC b hl;rw [c] at e;have v:ALd ((qy ws p q).map (gp t))=ALd (qy ws p q):=by unfold ALd;rw [qle]
 rw [v] at e;have H:=qlh (qy ws p q);obtain ⟨L,J,I⟩:=Gc t h;have E:=qgR L;obtain ⟨W,S⟩:=qiX h p q;obtain ⟨V,x⟩:=qiX b p q;have Z:kq (gss t ws).length r ns:=by rw [af]; exact s
 have h1:=Qy h hl k A s S;have h2:=Qy b hl k A Z x;have d:kq (qy ws p q).length r ns:=by rw [B]; exact s
 have M:HM V (qy (gss t ws) p q) r ns=HM W (qy ws p q) r ns:=by rw [c] at x ⊢;rw [(count x k (by rw [af]; exact d)).1,(count S k d).1];exact congrArg Int.ofNat (qlf t k d)
 rw [M] at h2;have G:neD (.int (HM W (qy ws p q) r ns)) (.int (HM W (qy ws p q) r ns))=.ok (.bl iI):=Ym (qca _ _);have nt:=qjF (gss t ws);have tt:vW (.lst ((gss t ws).map D.str))=.ok (Wd (gss t ws)):=by
  have:((gss t ws).map D.str).length<=sizeLine:=by have:=h.2.1; rw [af,af]; exact jb (by lia)
  simp [vW,this]
 have e0:aP ""=⟨⟨[]⟩⟩:=by decide +kernel
 have U:VQ (.str AZ)=.ok (.lst ((dD 97 26).map chr)):=by kernel_rfl
 unfold qga;rw [show qt qf9 [scr a]=[iE (scr a),iG,iG,iG,iG,iG,iG,iG,iG,iG] from rfl];refine (qv (ρ1:=[iE (scr a),iE (.lst []),iG,iG,iG,iG,iG,iG,iG,iG]) (by simp)).trans ?_;refine (qv (ρ1:=[iE (scr a),iE (.lst t1),iG,iG,iG,iG,iE (Wd ws),iE (Ld p q),iE (.int r),iE (nD ns)]) (by generalize Wd ws=W0 at *;generalize Ld p q=L0 at *;generalize nD ns=N0 at *;simp [g1,jo,qu,jn])).trans ?_;refine (qv (ρ1:=[iE (scr a),iE (.lst t1),iE (.lst ((dD 97 26).map chr)),iG,iG,iG,iE (Wd ws),iE (Ld p q),iE (.int r),iE (nD ns)]) (by rw [wm,vB,qic,jr,U];rfl)).trans ?_;refine (qv (ρ1:=[iE (scr a),iE (.lst t1),iE (.lst ((dD 97 26).map chr)),iE (.str ⟨⟨[]⟩⟩),iG,iG,iE (Wd ws),iE (Ld p q),iE (.int r),iE (nD ns)]) (by rw [e0];rfl)).trans ?_;refine (qv (ρ1:=[iE (scr a),iE (.lst t2),iE (.lst []),iE (.str (lS t)),iG,iG,iE (Wd ws),iE (Ld p q),iE (.int r),iE (nD ns)]) (by exact C)).trans ?_;refine (qv (ρ1:=[iE (scr a),iE (.lst t2),iE (.lst []),iE (.str (lS t)),iE (Wd (gss t ws)),iG,iE (Wd ws),iE (Ld p q),iE (.int r),iE (nD ns)]) (by generalize Wd (gss t ws)=V0 at *;generalize D.str (lS t)=S0 at *;generalize Wd ws=W0 at *;generalize Ld p q=L0 at *;generalize nD ns=N0 at *;simp [R])).trans ?_;refine (qv (ρ1:=[iE (scr a),iE (.lst t2),iE (.lst []),iE (.str (lS t)),iE (Wd (gss t ws)),iE (.dct (bkS t)),iE (Wd ws),iE (Ld p q),iE (.int r),iE (nD ns)]) (by generalize D.str (lS t)=S0 at *;generalize D.dct (bkS t)=B0 at *;generalize Wd (gss t ws)=V0 at *;generalize Wd ws=W0 at *;generalize Ld p q=L0 at *;generalize nD ns=N0 at *;rw [wm,qc5,qic,jr,xL];simp [Q])).trans ?_;have P:=qcb t h (ρ:=[iE (scr a),iE (.lst t2),iE (.lst []),iE (.str (lS t)),iE (Wd (gss t ws)),iE (.dct (bkS t)),iE (Wd ws),iE (Ld p q),iE (.int r),iE (nD ns)]) rfl rfl;refine (qv (ρ1:=[iE (scr a),iE (.lst t2),iE (.lst []),iE (.str (lS t)),iE (Wd (gss t ws)),iE (.dct (bkS t)),iE (Wd ws),iE (Ld p q),iE (.int r),iE (nD ns)]) (by rw [qei,qc6,qc5,xL];simp only [cc,ce,jr];rw [vB,P,jr,tt];generalize Wd (gss t ws)=V0 at *;simp [nt])).trans ?_;refine (qv (ρ1:=[iE (scr a),iE (.lst t2),iE (.lst []),iE (.str (lS t)),iE (Wd (gss t ws)),iE (.dct (bkS t)),iE (Wd ws),iE (Ld p q),iE (.int r),iE (nD ns)]) (by generalize D.dct (bkS t)=B0 at *;generalize ALd (qy ws p q)=A0 at *;generalize D.lst (L.map LD)=L1 at *;generalize Wd (gss t ws)=V0 at *;generalize D.str (lS t)=S0 at *;generalize Wd ws=W0 at *;generalize Ld p q=L0 at *;generalize nD ns=N0 at *;simp [O,e,H,J,I,E])).trans ?_;refine (qv (ρ1:=[iE (scr a),iE (.lst t2),iE (.lst []),iE (.str (lS t)),iE (Wd (gss t ws)),iE (.dct (bkS t)),iE (Wd ws),iE (Ld p q),iE (.int r),iE (nD ns)]) (by generalize D.dct (bkS t)=B0 at *;generalize HM W (qy ws p q) r ns=H0 at *;generalize Wd (gss t ws)=V0 at *;generalize D.str (lS t)=S0 at *;generalize Wd ws=W0 at *;generalize Ld p q=L0 at *;generalize nD ns=N0 at *;simp [h1,h2,G])).trans ?_;have o:=qgv h hl (QA (l:=qy ws p q) (by have:=h.2.1; lia));cases hq:clo (qy ws p q) with
 | some z=>rw [hq] at o;have hi:Vv (clD (iE z)) .non=.ok (.bl iJ):=rfl;generalize clD (iE z)=C0 at *;generalize D.dct (bkS t)=B0 at *;generalize Wd (gss t ws)=V0 at *;generalize D.str (lS t)=S0 at *;generalize Wd ws=W0 at *;generalize Ld p q=L0 at *;generalize nD ns=N0 at *;simp [o,hi]
 | none=>
  rw [hq] at o;have hi:Vv (clD iG) .non=.ok (.bl iI):=rfl;obtain ⟨Y,r1,r2⟩:=XO h hl hq;obtain ⟨R2,r3,r4⟩:=XO b hl (by rw [c,qjs]; exact hq);rw [c,qju] at r4;obtain rfl:=r4.one r2;have u:eqD (.int R2) (.int R2)=.ok (.bl iJ):=by simp [eqD,eqN,eqS]
  generalize clD iG=C0 at *;generalize D.dct (bkS t)=B0 at *;generalize Wd (gss t ws)=V0 at *;generalize D.str (lS t)=S0 at *;generalize Wd ws=W0 at *;generalize Ld p q=L0 at *;generalize nD ns=N0 at *;simp [o,hi,r1,r3,u]
end Kx
namespace Kx
open PySem PySem.Spec PyProof.Rows L2 L2.D2
variable {us:List iH} {P:List iH->Prop}
theorem qlK (hl:us.length=0) (h:P []):P us:=dY.mp hl ▸ h
theorem qj6 {n:Nat} (hl:us.length=n+1):∃ a l,us=a::l/\l.length=n:=by
 cases us with
 | nil=>cases hl
 | cons a l=>exact ⟨a,l,rfl,h8.inj hl⟩
theorem qlL (hl:us.length=1) (h:∀ a,P [a]):P us:=by obtain ⟨a,l,rfl,e⟩:=qj6 hl;exact qlK (P:=λl=>P (a::l)) e (h a)
theorem qlM (hl:us.length=2) (h:∀ a b,P [a,b]):P us:=by obtain ⟨a,l,rfl,e⟩:=qj6 hl;exact qlL (P:=λl=>P (a::l)) e (h a)
theorem qlN (hl:us.length=3) (h:∀ a b c,P [a,b,c]):P us:=by obtain ⟨a,l,rfl,e⟩:=qj6 hl;exact qlM (P:=λl=>P (a::l)) e (h a)
theorem qmi (hl:us.length=4) (h:∀ a b c d,P [a,b,c,d]):P us:=by obtain ⟨a,l,rfl,e⟩:=qj6 hl;exact qlN (P:=λl=>P (a::l)) e (h a)
variable {K:Frag} {h:Heap} {mg:Str->Option iH}
theorem qgU (X:K.In h) (G:h.Ns iP mg) {x:Str} {st:Stmt} {ps:List Str} {f:Addr} {oc:iH} {od an:Option Addr} {osl:Array (Option iH)} {kV doc pm cdv ct:iH}
  (a:nsIn K iP x=iE (iE (.ref f))) (l:K.lookup f=iE ⟨oc,od,.func (cm x x (wV st) (va st) (ja st) .none kV doc pm an cdv ct),osl⟩) (c:codeIn K cdv x=iJ) (k:mS K (.ref f)=iJ)
  (d:∀ (kV doc pm:iH) (an:Option Addr) (cdv ct:iH) (us:List iH),us.length=ps.length->lJ (cm x x (wV st) (va st) (ja st) .none kV doc pm an cdv ct) ⟨us,[]⟩=pure (ps.zip us)):kb K mg x st ps:=
 ⟨f,_,GB l c k,mC X G a,(GB l c k).binds d⟩
variable {x:Str}
theorem qcc {l:List Str} {f:Str->Addr} (nd:(l.map f).Nodup) {y:Str} (hx:x∈l) (D:y∈l) (e:f x=f y):x=y:=by obtain ⟨i,hi,rfl⟩:=dw.mp hx;obtain ⟨j,G,rfl⟩:=dw.mp D;have q:=(eU (h₀:=by simpa using hi) (h₁:=by simpa using G) nd).mp (show (l.map f)[i]'(by simpa using hi)=(l.map f)[j]'(by simpa using G) by simpa using e);subst q;rfl
noncomputable def caT (T:List (Str×Addr)) (x:Str):Addr:=(T.lookup x).getD 0
noncomputable def qdZ (K:Frag) (Cs:List Addr) (W:Addr):Bool:=decide Cs.Nodup&&Cs.all λc=>xcB K c&&decide (fH K (.ref c) (.ref W)=iE iJ)&&decide (cu K (.ref c) (.type "ValueError")=iE iJ)&&dP K c bmV "ValueError.__new__"&&Cs.all λd=>decide (cu K (.ref c) (.ref d)=iE (decide (c=d)))
theorem qd0 {Cs:List Addr} {W:Addr} (h:qdZ K Cs W=iJ):Cs.Nodup/\∀ c∈Cs,xcB K c=iJ/\fH K (.ref c) (.ref W)=iE iJ/\cu K (.ref c) (.type "ValueError")=iE iJ/\dP K c bmV "ValueError.__new__"=iJ/\∀ d∈Cs,cu K (.ref c) (.ref d)=iE (decide (c=d)):=by unfold qdZ at h;rw [aS,aJ] at h;refine ⟨Ae h.1,λc a=>?_⟩;have q:=h.2 c a;simp only [aS,decide_eq_true_eq,aJ] at q;exact ⟨q.1.1.1.1,q.1.1.1.2,q.1.1.2,q.1.2,q.2⟩
def qlO (ca:Str->Addr):Prop:=∀ x∈CS,∀ y∈CS,ca x=ca y->x=y
noncomputable def ZS:List Str:=["all", "bool", "dict", "enumerate", "int", "isinstance", "len", "list", "max", "min", "range", "reversed", "set", "sorted", "str", "sum", "tuple", "zip"]
noncomputable def zsB (K:Frag):Bool:=ZS.all λx=>decide (nsIn K iP x=iE iG)
theorem wR (h:zsB K=iJ) (x:Str) (hx:x∈ZS:=by decide +kernel):nsIn K iP x=iE none:=Ae (aJ.mp h x hx)
theorem qjH {c:Str} (h:c∈CS):c = "NoWords"\/c = "NoLook"\/c = "NoNumbers"\/c = "NoRoom"\/c = "Never"\/c = "NoLetters":=by simpa [CS] using h
theorem qli (X:K.In h) (G:h.Ns iP mg) {CW l k j i g C:Addr}  {E b t a M S:Tok}
    (B:nsIn K iP "WordError"=iE (iE (.ref CW)))
    (A:nsIn K iP "NoWords"=iE (iE (.ref l)))
    (w:nsIn K iP "NoLook"=iE (iE (.ref k)))
    (v:nsIn K iP "NoNumbers"=iE (iE (.ref j)))
    (u:nsIn K iP "NoRoom"=iE (iE (.ref i)))
    (a4:nsIn K iP "Never"=iE (iE (.ref g)))
    (a5:nsIn K iP "NoLetters"=iE (iE (.ref C)))
    (z:zsB K=iJ)
    (c_LEAST_PLACE:nsIn K iP "LEAST_PLACE"=iE (iE (.int (-3) E)))
    (c_LETTERS:nsIn K iP "LETTERS"=iE (iE (.str "abcdefghijklmnopqrstuvwxyz" b)))
    (c_MOST_LETTERS:nsIn K iP "MOST_LETTERS"=iE (iE (.int 6 t)))
    (c_MOST_PLACE:nsIn K iP "MOST_PLACE"=iE (iE (.int 2 a)))
    (c_MOST_ROOM:nsIn K iP "MOST_ROOM"=iE (iE (.int 99 M)))
    (c_MOST_WORDS:nsIn K iP "MOST_WORDS"=iE (iE (.int 6 S)))
    (ex:qdZ K [l,k,j,i,g,C] CW=iJ)
     :
    Zt K mg (λx=>.ref (caT [("WordError",CW),("NoWords",l),("NoLook",k),("NoNumbers",j),("NoRoom",i),("Never",g),("NoLetters",C)] x)) (caT [("WordError",CW),("NoWords",l),("NoLook",k),("NoNumbers",j),("NoRoom",i),("Never",g),("NoLetters",C)])/\qlO (caT [("WordError",CW),("NoWords",l),("NoLook",k),("NoNumbers",j),("NoRoom",i),("Never",g),("NoLetters",C)]):=by
  obtain ⟨nd,al⟩:=qd0 ex;generalize m:([("WordError",CW),("NoWords",l),("NoLook",k),("NoNumbers",j),("NoRoom",i),("Never",g),("NoLetters",C)]:List (Str×Addr))=T;have W:caT T "WordError"=CW:=by subst m; kernel_rfl
  have e0:caT T "NoWords"=l:=by subst m; kernel_rfl
  have e1:caT T "NoLook"=k:=by subst m; kernel_rfl
  have s:caT T "NoNumbers"=j:=by subst m; kernel_rfl
  have r:caT T "NoRoom"=i:=by subst m; kernel_rfl
  have q:caT T "Never"=g:=by subst m; kernel_rfl
  have p:caT T "NoLetters"=C:=by subst m; kernel_rfl
  have o:CS.map (caT T)=[l,k,j,i,g,C]:=by unfold CS;simp only [aC,bM,e0,e1,s,r,q,p]
  have n:∀ c∈CS,caT T c∈[l,k,j,i,g,C]:=λc f=>o ▸ ah.mpr ⟨c,f,rfl⟩;refine ⟨⟨⟨λc f=>rfl,λc f=>?_,λc f=>(al _ (n c f)).1,λc f d hd=>(al _ (n c f)).2.2.2.2 _ (n d hd),λc f=>(al _ (n c f)).2.2.1⟩,λc f=>?_,λc f=>(al _ (n c f)).2.2.2.1,λx hx=>absurd hx (by simp [FS]),i7 X G (wR z "all"),i7 X G (wR z "bool"),i7 X G (wR z "dict"),i7 X G (wR z "enumerate"),i7 X G (wR z "int"),i7 X G (wR z "isinstance"),i7 X G (wR z "len"),i7 X G (wR z "list"),i7 X G (wR z "max"),i7 X G (wR z "min"),i7 X G (wR z "range"),i7 X G (wR z "reversed"),i7 X G (wR z "set"),i7 X G (wR z "sorted"),i7 X G (wR z "str"),i7 X G (wR z "sum"),i7 X G (wR z "tuple"),i7 X G (wR z "zip"),⟨_,mC X G c_LEAST_PLACE⟩,⟨_,mC X G c_LETTERS⟩,⟨_,mC X G c_MOST_LETTERS⟩,⟨_,mC X G c_MOST_PLACE⟩,⟨_,mC X G c_MOST_ROOM⟩,⟨_,mC X G c_MOST_WORDS⟩⟩,λx hx y D e=>?_⟩;· show fH K (.ref (caT T c)) (.ref (caT T "WordError"))=iE iJ;rw [W];exact (al _ (n c f)).2.1
  · rcases qjH f with rfl | rfl | rfl | rfl | rfl | rfl;· rw [e0]; exact mC X G A
    · rw [e1]; exact mC X G w
    · rw [s]; exact mC X G v
    · rw [r]; exact mC X G u
    · rw [q]; exact mC X G a4
    · rw [p]; exact mC X G a5
  ·
    rw [<-o] at nd;exact qcc nd hx D e
structure Tx (K:Frag) (mg:Str->Option iH) (ca:Str->Addr):Prop where
 x_is_letter:kb K mg "is_letter" yr ["thing"]
 x_is_word:kb K mg "is_word" gT ["thing"]
 x_is_words:kb K mg "is_words" xM ["thing"]
 x_check_words:kb K mg "check_words" wv ["thing"]
 x_is_between:kb K mg "is_between" uf ["thing", "least", "most"]
 x_is_look:kb K mg "is_look" gW ["thing"]
 x_check_look:kb K mg "check_look" uh ["thing"]
 x_letter_at:kb K mg "letter_at" yt ["word", "place"]
 x_pairs:kb K mg "pairs" Uy ["words", "look"]
 x_are_alike:kb K mg "are_alike" yv ["one", "two"]
 x_clash_of:kb K mg "clash_of" xO ["seen"]
 x_clash:kb K mg "clash" UB ["words", "look"]
 x_letters_of:kb K mg "letters_of" ul ["seen"]
 x_is_loose:kb K mg "is_loose" xP ["pair", "seen", "fixed"]
 x_bound_pairs:kb K mg "bound_pairs" wy ["seen", "fixed"]
 x_unshared:kb K mg "unshared" xQ ["one", "two"]
 x_contrasts_of:kb K mg "contrasts_of" vM ["seen"]
 x_may_differ:kb K mg "may_differ" uo ["contrast", "room", "fixed"]
 x_with_worth:kb K mg "with_worth" uq ["fixed", "letter", "worth"]
 x_can_be_filled:kb K mg "can_be_filled" jN jP
 x_can_differ:kb K mg "can_differ" ut ["seen", "room", "fixed"]
 x_room_from:kb K mg "room_from" yy ["seen", "room"]
 x_least_room:kb K mg "least_room" uw ["words", "look"]
 x_all_looks:kb K mg "all_looks" yA []
 x_looks:kb K mg "looks" UH ["words"]
 x_alike:kb K mg "alike" UI ["words", "look"]
 x_is_letters:kb K mg "is_letters" ux ["thing"]
 x_check_letters:kb K mg "check_letters" vm ["thing"]
 x_with_letters:kb K mg "with_letters" vP ["word", "letters"]
 x_renamed:kb K mg "renamed" Qf ["words", "letters"]
 x_check_room:kb K mg "check_room" uB ["thing"]
 x_is_numbers:kb K mg "is_numbers" uD ["thing", "count", "room"]
 x_check_numbers:kb K mg "check_numbers" vo ["thing", "count", "room"]
 x_told_pairs:kb K mg "told_pairs" uG ["words", "look", "room", "numbers"]
 x_is_odd:kb K mg "is_odd" Kr ["walk"]
 x_comes_to:kb K mg "comes_to" xS ["walk", "numbers", "start"]
 x_bars:kb K mg "bars" qa6 ["walk", "room", "numbers"]
 x_other_letter:kb K mg "other_letter" vQ ["pair", "letter"]
 x_spread:kb K mg "spread" Kt ["seen", "root", "ways"]
 x_ways_of:kb K mg "ways_of" Qj ["seen"]
 x_circles_of:kb K mg "circles_of" uK ["seen", "ways"]
 x_first_odd:kb K mg "first_odd" yC ["circles"]
 x_bar_of:kb K mg "bar_of" Kv ["seen", "room", "numbers"]
 x_bar:kb K mg "bar" qfZ ["words", "look", "room", "numbers"]
 x_half:kb K mg "half" qbb ["total", "room"]
 x_root_worths:kb K mg "root_worths" wH ["walk", "room", "numbers"]
 x_roots_of:kb K mg "roots_of" xU ["seen", "room", "numbers"]
 x_how_many:kb K mg "how_many" xV ["words", "look", "room", "numbers"]
 x_Lcell_at:kb K mg "_law_cell_at" xX ["_law_script", "_law_k"]
 x_Lmixed:kb K mg "_law_mixed" Kz ["_law_script", "_law_k", "_law_many"]
 x_Ldraw:kb K mg "_law_draw" UN ["_law_script", "_law_town", "_law_many"]
 x_Lpick:kb K mg "_law_pick" UO ["_law_script", "_law_town", "_law_some"]
 x_Lword:kb K mg "_law_word" UP ["_law_script", "_law_town", "_law_letters_here", "_law_most"]
 x_Lwords:kb K mg "_law_words" KF ["_law_script", "_law_town", "_law_most"]
 x_Llook:kb K mg "_law_look" UQ ["_law_script", "_law_town"]
 x_Lat:kb K mg "_law_at" qf6 ["_law_word_here", "_law_place"]
 x_Lseen:kb K mg "_law_seen" US ["_law_words_here", "_law_look_here"]
 x_Lletters:kb K mg "_law_letters" xZ ["_law_words_here", "_law_look_here"]
 x_Lby:kb K mg "_law_by" qf7 ["_law_words_here", "_law_look_here", "_law_room", "_law_book"]
 x_Ltold:kb K mg "_law_told" UU ["_law_script", "_law_town", "_law_most", "_law_wide"]
variable {ca:Str->Addr}
theorem qjI {e0:Ev} {f:Addr} {fd:lz} (Z:ZtE e0 ca) (T:Tx e0.K e0.mg ca) (F:Fun e0.K "law" "law" qbp f fd):FnOk e0.P e0.w e0.K e0.mg e0.base (CXk e0.P e0.w) 20 f fd ["_law_script"] (spD e0.K e0.cv [.val] .sh qdy):=by have I:=VW Z T.x_is_letter ;have X:=ZK Z T.x_is_word I;have N:=Uw Z T.x_is_words X;have o:=QJ Z T.x_check_words N;have n:=Kf Z T.x_is_between ;have Y:=ZM Z T.x_is_look n;have E:=Kg Z T.x_check_look Y;have H:=Wb Z T.x_letter_at ;have s:=qdl Z T.x_pairs o E H;have e:=Wc Z T.x_are_alike ;have l:=UA Z T.x_clash_of e;have o_clash:=qdm Z T.x_clash s l;have b:=Kh Z T.x_letters_of ;have O:=UD Z T.x_is_loose ;have v:=QK Z T.x_bound_pairs O;have L:=UE Z T.x_unshared ;have q:=Qa Z T.x_contrasts_of L;have z:=Ki Z T.x_may_differ ;have x:=Kj Z T.x_with_worth ;have j:=zO Z T.x_can_be_filled z x;have r:=Kk Z T.x_can_differ b v q j;have G:=Wg Z T.x_room_from r;have A:=Kl Z T.x_least_room s l G;have J:=Wi Z T.x_all_looks ;have o_looks:=qdn Z T.x_looks o J s r;have o_alike:=qdo Z T.x_alike s e;have C:=Kn Z T.x_is_letters ;have i:=zQ Z T.x_check_letters C;have m:=Qe Z T.x_with_letters ;have W:=ZP Z T.x_renamed o i m;have D:=Ko Z T.x_check_room n;have B:=Kp Z T.x_is_numbers n;have h:=zR Z T.x_check_numbers B;have y:=Kq Z T.x_told_pairs D h s;have g:=qa5 Z T.x_is_odd ;have k:=UJ Z T.x_comes_to ;have o_bars:=qfY Z T.x_bars k g;have p:=Qi Z T.x_other_letter ;have o_spread:=qa9 Z T.x_spread p;have t:=ZQ Z T.x_ways_of b o_spread;have c:=Ku Z T.x_circles_of ;have d:=Ws Z T.x_first_odd g;have o_bar_of:=qba Z T.x_bar_of g o_bars t c d;have o_bar:=qiu Z T.x_bar y o_bar_of;have o_half:=qf1 Z T.x_half ;have u:=QN Z T.x_root_worths k o_half;have M:=UK Z T.x_roots_of t c d u;have Q:=UL Z T.x_how_many s o_bar M;have V:=UM Z T.x_Lcell_at ;have o_Lmixed:=qbe Z T.x_Lmixed V;have a:=qdr Z T.x_Ldraw o_Lmixed;have S:=qds Z T.x_Lpick a;have o_Lword:=qdt Z T.x_Lword a S;have o_Lwords:=qbi Z T.x_Lwords a S o_Lword;have o_Llook:=qdv Z T.x_Llook a;have o_Lat:=qiw Z T.x_Lat ;have R:=qdw Z T.x_Lseen o_Lat;have U:=UT Z T.x_Lletters R;have o_Lby:=qiz Z T.x_Lby R;have o_Ltold:=qdx Z T.x_Ltold a o_Lwords o_Llook U o_Lby;exact qiC Z F o_clash A o_looks o_alike W Q a o_Ltold
def qd1 (K:Frag):Sp:=λvs H Q _=>∃ (a:Addr) (ns:List Int),vs=[.ref a]/\SqL K H a (ns.map V.int)/\∀ H',Q (.bl iJ) H'
theorem XW {F:Hp}:∀ ns:List Int,IsL K F (ns.map V.int) (ns.map D.int)
 | []=>.nil
 | n::ns=>.cons (.int n) (XW ns)
theorem qlj {cv:Str->iH} (h:qlO ca) (vs:List V) (H:Hp) (Q:VK) (E:XK) (q:qd1 K vs H Q E):spD K cv [.val] .sh qdy vs H Q E:=by obtain ⟨a,ns,rfl,c,hq⟩:=q;refine ⟨H,[scr ns],Same.refl _,⟨.lst c (XW ns),trivial⟩,cx,?_⟩;rw [qjG ns];intro v F' H' k g o a4;have a4:Is K F' v (.bl iJ):=a4;cases a4;exact hq H'
abbrev NsX (K:Frag) (x:Str) (f:Addr):Prop:=nsIn K iP x=iE (iE (.ref f))
abbrev CdX (K:Frag) (v:iH) (x:Str):Prop:=codeIn K v x=iJ
abbrev KpX (K:Frag) (f:Addr):Prop:=mS K (.ref f)=iJ
abbrev LkX (K:Frag) (x:Str) (st:Stmt) (f:Addr) (oc:iH) (od an:Option Addr) (sl:Array (Option iH)) (kV d pm cd ct:iH):Prop:=K.lookup f=iE ⟨oc,od,.func (cm x x (wV st) (va st) (ja st) .none kV d pm an cd ct),sl⟩
def Dx (K:Frag) (x:Str) (st:Stmt):Prop:=∃ (f:Addr) (oc:iH) (od an:Option Addr) (sl:Array (Option iH)) (kV d pm cd ct:iH),NsX K x f/\LkX K x st f oc od an sl kV d pm cd ct/\CdX K cd x/\KpX K f
theorem qO (X:K.In h) (G:h.Ns iP mg) {st:Stmt} {ps:List Str} (q:Dx K x st) (d:∀ (kV doc pm:iH) (an:Option Addr) (cdv ct:iH) (us:List iH),us.length=ps.length->lJ (cm x x (wV st) (va st) (ja st) .none kV doc pm an cdv ct) ⟨us,[]⟩=pure (ps.zip us):=by
  intro _ _ _ _ _ _ us hl;first | refine qlK (P:=λus=>lJ _ ⟨us,[]⟩=pure (fX _ us)) hl ?_ | refine qlL (P:=λus=>lJ _ ⟨us,[]⟩=pure (fX _ us)) hl ?_ | refine qlM (P:=λus=>lJ _ ⟨us,[]⟩=pure (fX _ us)) hl ?_ | refine qlN (P:=λus=>lJ _ ⟨us,[]⟩=pure (fX _ us)) hl ?_ | refine qmi (P:=λus=>lJ _ ⟨us,[]⟩=pure (fX _ us)) hl ?_ | refine len5 (P:=λus=>lJ _ ⟨us,[]⟩=pure (fX _ us)) hl ?_ | refine len6 (P:=λus=>lJ _ ⟨us,[]⟩=pure (fX _ us)) hl ?_
  all_goals intros; rfl):kb K mg x st ps:=by
 obtain ⟨f,oc,od,an,sl,kV,b,pm,cd,ct,a,l,c,k⟩:=q;exact qgU X G a l c k d
theorem qjJ {l:g7} {w:iR} {fa:Addr} (X:K.In h) (G:h.Ns iP mg) (hfa:mg "law"=iE (.ref fa)) {CW C0 C1 C2 C3 C4 C5:Addr} {a c t b M S:Tok}
  (aW:nsIn K iP "WordError"=iE (iE (.ref CW)))
  (a0:nsIn K iP "NoWords"=iE (iE (.ref C0)))
  (a1:nsIn K iP "NoLook"=iE (iE (.ref C1)))
  (a2:nsIn K iP "NoNumbers"=iE (iE (.ref C2)))
  (a3:nsIn K iP "NoRoom"=iE (iE (.ref C3)))
  (a4:nsIn K iP "Never"=iE (iE (.ref C4)))
  (a5:nsIn K iP "NoLetters"=iE (iE (.ref C5)))
  (zz:zsB K=iJ)
  (c_LEAST_PLACE:nsIn K iP "LEAST_PLACE"=iE (iE (.int (-3) a)))
  (c_LETTERS:nsIn K iP "LETTERS"=iE (iE (.str "abcdefghijklmnopqrstuvwxyz" c)))
  (c_MOST_LETTERS:nsIn K iP "MOST_LETTERS"=iE (iE (.int 6 t)))
  (c_MOST_PLACE:nsIn K iP "MOST_PLACE"=iE (iE (.int 2 b)))
  (c_MOST_ROOM:nsIn K iP "MOST_ROOM"=iE (iE (.int 99 M)))
  (c_MOST_WORDS:nsIn K iP "MOST_WORDS"=iE (iE (.int 6 S)))
  (ex:qdZ K [C0,C1,C2,C3,C4,C5] CW=iJ)
  (q0:Dx K "is_letter" yr)
  (q1:Dx K "is_word" gT)
  (q2:Dx K "is_words" xM)
  (q3:Dx K "check_words" wv)
  (q4:Dx K "is_between" uf)
  (q5:Dx K "is_look" gW)
  (q6:Dx K "check_look" uh)
  (q7:Dx K "letter_at" yt)
  (q8:Dx K "pairs" Uy)
  (q9:Dx K "are_alike" yv)
  (q10:Dx K "clash_of" xO)
  (q11:Dx K "clash" UB)
  (q12:Dx K "letters_of" ul)
  (q13:Dx K "is_loose" xP)
  (q14:Dx K "bound_pairs" wy)
  (q15:Dx K "unshared" xQ)
  (q16:Dx K "contrasts_of" vM)
  (q17:Dx K "may_differ" uo)
  (q18:Dx K "with_worth" uq)
  (q19:Dx K "can_be_filled" jN)
  (q20:Dx K "can_differ" ut)
  (q21:Dx K "room_from" yy)
  (q22:Dx K "least_room" uw)
  (q23:Dx K "all_looks" yA)
  (q24:Dx K "looks" UH)
  (q25:Dx K "alike" UI)
  (q26:Dx K "is_letters" ux)
  (q27:Dx K "check_letters" vm)
  (q28:Dx K "with_letters" vP)
  (q29:Dx K "renamed" Qf)
  (q30:Dx K "check_room" uB)
  (q31:Dx K "is_numbers" uD)
  (q32:Dx K "check_numbers" vo)
  (q33:Dx K "told_pairs" uG)
  (q34:Dx K "is_odd" Kr)
  (Y:Dx K "comes_to" xS)
  (W:Dx K "bars" qa6)
  (V:Dx K "other_letter" vQ)
  (U:Dx K "spread" Kt)
  (R:Dx K "ways_of" Qj)
  (P:Dx K "circles_of" uK)
  (O:Dx K "first_odd" yC)
  (N:Dx K "bar_of" Kv)
  (L:Dx K "bar" qfZ)
  (J:Dx K "half" qbb)
  (I:Dx K "root_worths" wH)
  (D:Dx K "roots_of" xU)
  (C:Dx K "how_many" xV)
  (B:Dx K "_law_cell_at" xX)
  (A:Dx K "_law_mixed" Kz)
  (z:Dx K "_law_draw" UN)
  (y:Dx K "_law_pick" UO)
  (x:Dx K "_law_word" UP)
  (u:Dx K "_law_words" KF)
  (r:Dx K "_law_look" UQ)
  (p:Dx K "_law_at" qf6)
  (o:Dx K "_law_seen" US)
  (n:Dx K "_law_letters" xZ)
  (m:Dx K "_law_by" qf7)
  (j:Dx K "_law_told" UU)
  (i:Dx K "law" qbp) :
  ∃ fd:lz,(∀ (s:iK) (v:iH),mV s fd ⟨[v],[]⟩ [("_law_script",v)])/\∀ base:Heap,K.In base->base.Ns iP mg->FnOk l.prog w K mg base (CXk l.prog w) 20 fa fd ["_law_script"] (qd1 K):=by
 obtain ⟨f60,_,_,_,_,_,_,_,_,_,g,d,f,k⟩:=i;have e:=hfa.symm.trans (mC X G g);cases e;obtain ⟨Z,cok⟩:=qli X G aW a0 a1 a2 a3 a4 a5 zz c_LEAST_PLACE c_LETTERS c_MOST_LETTERS c_MOST_PLACE c_MOST_ROOM c_MOST_WORDS ex;have T:Tx K mg (caT [("WordError",CW),("NoWords",C0),("NoLook",C1),("NoNumbers",C2),("NoRoom",C3),("Never",C4),("NoLetters",C5)]):=⟨qO X G q0,qO X G q1,qO X G q2,qO X G q3,qO X G q4,qO X G q5,qO X G q6,qO X G q7,qO X G q8,qO X G q9,qO X G q10,qO X G q11,qO X G q12,qO X G q13,qO X G q14,qO X G q15,qO X G q16,qO X G q17,qO X G q18,qO X G q19,qO X G q20,qO X G q21,qO X G q22,qO X G q23,qO X G q24,qO X G q25,qO X G q26,qO X G q27,qO X G q28,qO X G q29,qO X G q30,qO X G q31,qO X G q32,qO X G q33,qO X G q34,qO X G Y,qO X G W,qO X G V,qO X G U,qO X G R,qO X G P,qO X G O,qO X G N,qO X G L,qO X G J,qO X G I,qO X G D,qO X G C,qO X G B,qO X G A,qO X G z,qO X G y,qO X G x,qO X G u,qO X G r,qO X G p,qO X G o,qO X G n,qO X G m,qO X G j⟩
 have F:=GB (st:=qbp) d f k;exact ⟨_,λs v=>.of_eq rfl,λbase _ _=>(qjI (e0:=⟨l.prog,w,K,mg,base,_⟩) Z T F).imp λvs H Q E q=>qlj cok vs H Q E q⟩
theorem qmj {l:g7} {q:iQ} {loose:List Str} {XP:(Str->Option iH)->Heap->Prop} {YP:iR->Heap->Prop} {d:DefRec} {K:mh->Frag} (b:l.most=iE 63) (hdf:d.params.defaults=[])
  (D:∀ (w:iR) (h:Heap),YP w h->(K w.params).In h)
  (F:∀ (w:iR) (mg:Str->Option iH) (fa:Addr) (h:Heap),(K w.params).In h->h.Ns iP mg->mg d.name=iE (.ref fa) ->∃ fd:lz,(∀ (s:iK) (u:iH),mV s fd ⟨[u],[]⟩ [("_law_script",u)])/\∀ base:Heap,(K w.params).In base->base.Ns iP mg->FnOk l.prog w (K w.params) mg base (CXk l.prog w) 20 fa fd ["_law_script"] (qd1 (K w.params))) :
  PySem.W.WalkO q loose XP YP l.row.toRowW d [] (λf vs=>iB f vs):=
 L2.qfd (n:=63) (k:=20) (x := "_law_script") (CX:=λw=>CXk l.prog w) (sp:=λw=>qd1 (K w.params)) b (by decide) hdf ⟨rfl,by decide,by decide⟩ D F (λ_ _ a ns hl _ S=>⟨a,ns,rfl,S,λ_=>rfl⟩) λw H s e s' z=>by obtain ⟨ex,T,C,H',_,_,_,_,_,_,_,_,_,_,q⟩:=z;exact q.elim
end Kx
open PySem PySem.W PyProof.Rows
set_option maxRecDepth 100000 in
set_option maxHeartbeats 0 in
theorem PySem.Challenge.cw_lookwords_k20_whole_renamed_holds : PySem.Challenge.rw_lookwords_k20_whole_renamed.Holds := by
  refine Kx.hd ?_;k_fill
  refine Kx.qmj (l := PySem.Challenge.rw_lookwords_k20_whole_renamed) rfl rfl (λw h Y => PySem.W.kIn_of Y) ?F
  case F =>
    intro w mg fa h X G g;refine' Kx.qjJ X G g ?_ ?_ ?_ ?_ ?_ ?_ ?_ ?_ ?_ ?_ ?_ ?_ ?_ ?_ ?_ ?_ ?_ ?_ ?_ ?_ ?_ ?_ ?_ ?_ ?_ ?_ ?_ ?_ ?_ ?_ ?_ ?_ ?_ ?_ ?_ ?_ ?_ ?_ ?_ ?_ ?_ ?_ ?_ ?_ ?_ ?_ ?_ ?_ ?_ ?_ ?_ ?_ ?_ ?_ ?_ ?_ ?_ ?_ ?_ ?_ ?_ ?_ ?_ ?_ ?_ ?_ ?_ ?_ ?_ ?_ ?_ ?_ ?_ ?_ ?_ ?_;all_goals try first | k_is | exact ⟨_, _, _, _, _, _, _, _, _, _, by unfold Kx.NsX; k_is, by unfold Kx.LkX; k_is, by unfold Kx.CdX; k_is, by unfold Kx.KpX; k_is⟩ | kernel_rfl
