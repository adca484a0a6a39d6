import PyProof.Rows.All
import KE.KTryMore
import KE.KDictOf
import KE.KSortTup
import KE.KItemsList
import PySem.Challenge.RW_lookwords_k28_whole_lists_written
open Option renaming some→iO,none→iQ
open PySem renaming wpAny_bind→iP,Value→iR,Shared→iU,wpAny_pure→iV,wpAny→iW,starEach→iX,mainGlobals→iY,bootBuiltins→iZ,Program→i7,World→i8,sizeLine_eq→i9,compareOp→j0,wpAny_callSpecial?_slot→j7,wpAny_call_entry→j8,Around→j9,wpAny_seqItems→k6,wpAny_newObj_type→k7,wpAny_field→k8,wpAny_holding→k9,rawInt→lb,attributeBase→lg,codeAny_builtin→lh,backTo→li,IsPair→lj,wpAny_askSetting→ll,wpAny_truthy_bool→lm,wpAny_setState_of→lq,keywordEach→lr,builtinLookup_eq_fast→lu,wpAny_Call_Name_kw→lv,wpAny_setField_rec→lx,wpAny_attempt→ly,pyNext→lz,sysModules→lA,wpAny_mono→lB,binaryOp→lD,cLine→lE,wpAny_isInstance→lF,bindArgs→lG,wpAny_setField→lH,Keyword→lI,swapsWith→lK,wpAny_passesOwn→lL,OsState→lM,foldedSetIterable→lN,plainId_quiet→lO,codeAny→lP,wpAny_setEntries_of→lQ,NameKind→lR,assignEach→lS,call_meets→lT,wpAny_pyIter_tuple→lU,FuncData→lV,backToKw→lW,typeLookup_type→lX,wpAny_updateSeq→lY,strLen_append→lZ,wpAny_rule→l0,firstArgMember→l4,behindInMarks→l7,tupleKind_room_in1→l9,getattributeRaised→mf,treeTable→mh,sliceBounds→mi,pickOrder→mj,codeAny_mono→ml,wpAny_pyIter_list→mm,wpAny_typeOf→mn,fits_of_scanBound→mq,isSubtype_type→my,Draws→mz,Scope→mC,scanBound→mD,SetTable→mF,IsZip→mG,importedModules→mI,wpAny_execs_nil→mJ,letOwnedTupleGo→mK,wpAny_loadPart'→mM,Params→mP,typeIs_str→mQ,wpAny_fieldsOf→mR,isSubtype_stop→mS,setsByText→mT,wpAny_newTuple→mU,wpAny_onRaise→mW,getMethod→mX,relayAll→mY,updateSeq→mZ,concat_meets→m8,typeLookup→m9,setNext→ng,wpAny_of_eq→nj,wpAny_letGo→nk,DictEntry→nr,tupleKind→nv,standAt→ny,callerA→nz,valueAt→nB,Paired→nC,pyIter→nD,Result→nE,setEntries→nG,GenState→nH,BindsTo→nI,getAttr?→nJ
open Bool renaming false→iS,true→iT
open PySem.W renaming mg_none_of→lf,boot_heap→lJ,behindTheImports→l6,keepIn→l8,openGood→mE,mg_of→mH,codeIn→mV,boot_drawn→m7,topFrame→nh
open PyProof.Rows renaming seqObj→lC,envOfC→mL,AllBare→mO
open PySem.Str renaming ofString→aa,empty→aY,length→cC,cps_append→df,join→dS,ext'→iD
open PySem.Heap renaming get?_push_of_some→ac,get?_push_size→ah,lt_size→aq,get?_update_self→aV,size_push→bf,SameBut→bo,get?_update_other→bE,get?_push_ne→fX,ExtBut→iC
open List renaming mem_cons_of_mem→ae,mem_cons→af,length_cons→ai,mem_cons_self→aj,length_map→am,length_append→ao,size_toArray→au,getElem?_set_ne→aw,mem_singleton→ax,getElem?_eq_getElem→aA,mem_map→aC,map_cons→aD,getElem?_eq_some_iff→aE,getElem?_map→aF,mem_append→aG,getElem?_set_self→aI,all_eq_true→aJ,range→aK,nodup_cons→aT,mem_append_right→aU,mem_range→aZ,length_nil→be,replicate→bg,pairwise_cons→bh,append_nil→bv,getElem?_replicate→bB,lookup_cons→bF,not_mem_nil→bG,length_range→bK,getElem?_eq_none→bL,map_map→bR,getD_eq_getElem?_getD→bT,drop_eq_nil_of_le→bU,length_take→bX,getElem_mem→bZ,mem_append_left→ci,lookup→cj,foldl_cons→cq,filterMap_cons→cu,map_nil→cx,any_cons→cy,getElem?_append_right→cB,getElem?_append_left→cG,drop_eq_getElem_cons→cH,find?_cons→cI,forIn_cons→cJ,map_append→cM,append_assoc→cS,replicate_zero→cX,nodup_nil→c7,pairwise_singleton→c9,take_of_length_le→dn,zipWith→dA,mem_filter→dB,of_mem_zip→dD,mem_of_getElem?→dO,mem_iff_getElem→dQ,zip→dU,toArray→dY,pairwise_iff_getElem→d4,find?_eq_none→eu,length_eq_zero_iff→eJ,nodup_append→e9,ext_getElem?→ff,length_pos_of_mem→fg,flatMap_cons→fh,length_replicate→fj,length_singleton→fk,getElem?_toArray→fm,mem_of_mem_erase→fq,mem_iff_getElem?→fy,all_cons→fC,length_set→fD,mem_filterMap→fJ,forIn_nil→fN,zip_cons_cons→fQ,sum_cons→hJ,getElem_inj→h7,length_drop→h8,take_length→ia,cons_append→ib,any_eq_true→ic,sum_append→iq,nil_append→iu,drop_drop→iE
open Nat renaming le_refl→ap,ne_of_lt→ay,lt_of_lt_of_le→aH,zero_le→bi,le_trans→bu,lt_irrefl→bM,ne_of_gt→cw,lt_trans→cR,le_of_lt→dh,lt_succ_of_lt→dJ,le_add_right→dX,not_lt_zero→d9,lt_succ_self→fA,le_of_eq→fG,sub_self→fH,le_succ→iB
open PySem.Value renaming ref→aL,none→bO,isStrOf_shape→cU,bool→dg,str→dE,type→dN,int→fz,isStrOf→f9
open Option renaming some→aM,map_eq_some_iff→aQ,bind_eq_some_iff→ck,isSome_map→fU
open Bool renaming and_eq_true→aN,false_ne_true→bD,false_eq_true→bY,not_eq_true'→eZ,or_false→g8,or_eq_true→ip,and_true→iG
open PySem.Txt renaming partition→aO,split→db,join→dR
open PySem.W renaming findIn→aP,hideAll→bj,emptyDict→bJ,fnOf→cg,instObj→cm,kitOne→cD,kia_one→cK,hideAll_none→cP,isFn→cQ,hideAll_get→cV,plainGet→cY,exmOne→cZ,hasDictIn→dG,excIn→d7,of_hideAll→eh,plainOver→eX,plainGet_of→fF,lookIn→fK,callWith_K→fM,methodObj→fR,takerIn→ig,makesIn→ii,OpenLaw→ij
open PySem.Builtin.SmallTypes renaming nextOf→aR,ownedTupleIsFree→aS
open PySem.PassesOwn renaming leaving→aX
open PySem.Builtin.Str renaming strKind→ba
open Ne renaming symm→bb
open ForInStep renaming yield→bn
open PySem.Heap.SameBut renaming update→bp
open PySem.SetTable renaming below→bq,grown→c6,laid→iF
open Or renaming inl→br,inr→fP
open PySem.Around renaming under_plainId→bt,under→iJ
open PySem.NameKind renaming free→bw
open PySem.Obj renaming mapSeq→bx,putSet→iH
open PySem.F renaming slot_zip_next→bz,called_set→bP,slot_tuple_iterator_next→bS,plain_extend_loop→bW,args_zip_next_1→c8,entry_zip_next→dw,slot_tuple_getattribute→dZ,args_tuple_add_2→d5,slot_list_getattribute→d8,entry_tuple_add→eG,plainAttrs_list→eI,slot_tuple_add→eY,args_str_split_2→fO,entry_str_split→fW,slot_str_split→h9
open PyProof.Rows renaming callWith_type1→bA
open Classical renaming byContradiction→bH
open Array renaming getElem?_eq_getElem→bI,length_toList→bV,toList_inj→cz,getElem?_eq_none→dq,getElem?_toList→dF,toList_push→fV,mk→iA
open PySem.Builtin.List renaming listExtendWith→bQ,listSameRef→cT,listLengthHint→dL,listTooLong→d6
open Sum renaming inr→ce,inl→fB
open PySem.Builtin.Frozenset renaming updateFrom→cr
open False renaming elim→cA
open List.Perm renaming refl→cF
open PySem renaming mem_of_lookup→cW,Within→iI,call→iM
open True renaming intro→dj
open PySem.Calls renaming callWith_builtin→dm,evalArgs_plain→dP,Constant_str→fI,spliced_cons→fL,spliced_nil→fS
open Int renaming toNat_natCast→dH,emod_lt_of_pos→ei,emod_nonneg→fE,emod_eq_of_lt→fY,dvd_add→f7
open List.Pairwise renaming nil→dI
open PyProof.Rows.F renaming plain_set_update_loop→eU
open List.Sublist renaming refl→fZ
open PySem.Paired renaming length→g7
open PySem.Shared renaming TypeIs→g9,heap→iL
open Prod renaming ext→hZ
open PySem.Code renaming isFrame→iK
open PySem.Walks renaming list→iN
theorem Aa {c:Prop}{h:Decidable c}(k:c){a:Sort _}{t e:a}:ite c t e=t:=if_pos k
theorem Ab {c:Prop}{h:Decidable c}(k:¬c){a:Sort _}{t e:a}:ite c t e=e:=if_neg k
theorem Ac {p:Prop}[h:Decidable p](k:¬p):decide p=false:=decide_eq_false k
theorem Ad {p:Prop}[h:Decidable p](k:p):decide p=true:=decide_eq_true k
theorem Ae {p:Prop}[h:Decidable p](k:decide p=true):p:=of_decide_eq_true k
noncomputable section
open PySem.W (Frag nsIn keepIn codeIn mg_of mg_none_of)
set_option Elab.async false
set_option linter.all false
set_option maxRecDepth 100000
namespace Kx
noncomputable section
open PySem PySem.W PySem.Calls PyProof.Rows
noncomputable def zP:Pos:=⟨0,0,0,0⟩
noncomputable def anV:Option iR:=iO (.ref 6)
noncomputable def hA (P:mP):List Obj:=(lJ P).objs.toList++[⟨.type "tuple",iQ,.seq #[] 0,#[]⟩,⟨.none,iQ,.fields #[],#[]⟩,
 ⟨.type "code",iQ,.fields #[.str "<module>" 182,.str "<module>" 183,.str "/claim/cut.py" 184,.int 1 0,.int 0 0,.int 0 0,.int 0 0,.int 0 0,.ref 11,.bool iS,.int 181 0,.ref 12,.none,.none,.none,.none,.int 185 0,.int 1 0,.str "/claim/cut.py" 186],#[]⟩,
 ⟨.type "frame",iQ,.plain,#[iO (.ref 13),iO (.ref 3),iO (.ref 3),iQ,iO (.str "__main__" 164),iQ,iO (.ref 0)]⟩]
noncomputable def enP (p:i7):Env:={ scope:=p.main.scope,locals:=mainNs,globals:=mainNs,cells:=[],code:=.ref 13,frame:=iO 14 }
noncomputable def cdP (p:i7):Code:=.body (l6 p) (enP p)
noncomputable def trA:List Obj->Nat->BT->BT
 | [],_,t=>t
 | o::l,i,t=>trA l (i+1) (t.ins i o)
noncomputable def SA (w:i8) (os:lM):SharedT:=⟨trA (hA w.params) 0 .nil,15,(lJ w.params).life,iA [],m7,187,os⟩
noncomputable def kH (P:mP) (s:Str) (t:Nat) (v:iR):nr:=⟨PyData.keyHash P s,.str s t,v⟩
noncomputable def eM:iR:=.str "lookwords.errors" 187
noncomputable def eT (a:List iR):Obj:=⟨.type "tuple",iQ,.seq ⟨a⟩ 0,#[]⟩
noncomputable def eF (c:iR) (a:List iR):Obj:=⟨c,iQ,.fields ⟨a⟩,#[]⟩
noncomputable def eB:iR:=.type "builtin_function_or_method"
noncomputable def eD (a:List nr) (n:Nat):Obj:=⟨.type "dict",iQ,.dict ⟨a⟩ n,#[]⟩
noncomputable def eA (P:mP) (s:Str) (b:iR) (n t l:Nat):List Obj:=[eT [b],eF eB [.builtin "type.__prepare__",.type "type"],
 eD [kH P "__module__" (t+7) eM,kH P "__qualname__" (t+9) (.str s (t+8)),kH P "__firstlineno__" (t+11) (.int l (t+10)),kH P "__static_attributes__" (t+12) (.ref (n+7))] 4,
 eT [],eF .none [],eF (.type "code") [.str s (t+2),.str s (t+3),.str "/claim/cut.py" (t+4),.int l 0,.int 0 0,.int 0 0,.int 0 0,.int 0 0,.ref (n+3),.bool iS,.int 181 0,.ref (n+4),.none,.none,.none,.none,.int ((t+5:Nat):Int) 0,.int l 0,.str "/claim/cut.py" (t+6)],
 ⟨.type "frame",iQ,.plain,#[iO (.ref (n+5)),iO (.ref 3),iO (.ref (n+2)),iQ,iO eM,iQ,iO (.ref 0)]⟩,eT []]
noncomputable def eC (s:Str) (b:iR) (n t:Nat) (m sub:List iR):Obj:=⟨.type "type",iQ,.cls { name:=s,bases:=[b],mro:=.ref (n+9)::m,ns:=n+8,qualname:=s,subclasses:=sub },#[iO (.ref n),iQ,iO (.str s t),iO (.str s (t+8)),iO (.builtin "ValueError.__new__"),iO (.bool iT)]⟩
noncomputable def eS (a:Nat):List Obj:=[eF (.type "super") [.ref a,.ref a,.ref a],eF eB [.builtin "object.__init_subclass__",.ref a]]
noncomputable def eK (P:mP) (t l:Nat) (n:Nat):List nr:=[kH P "__module__" (t+7) eM,kH P "__firstlineno__" (t+11) (.int l (t+10)),kH P "__static_attributes__" (t+12) (.ref (n+7))]
noncomputable def eV:List iR:=[.type "ValueError",.type "Exception",.type "BaseException",.type "object"]
noncomputable def eL (P:mP):List Str->Nat->Nat->Nat->List Obj
 | [],_,_,_=>[]
 | s::r,n,t,l=>eA P s (.ref 24) n t l++eD (eK P t l n++[kH P "__doc__" (t+13) .none]) 2::eC s (.ref 24) n t (.ref 24::eV) []::eS (n+9)++eL P r (n+12) (t+16) (l+2)
noncomputable def eE (P:mP):List Str->Nat->Nat->List nr
 | [],_,_=>[]
 | s::r,n,t=>kH P s (t+15) (.ref (n+9))::eE P r (n+12) (t+16)
noncomputable def eR:Nat->Nat->List iR
 | 0,_=>[]
 | k+1,n=>.ref n::eR k (n+12)
noncomputable def eQ:Nat->Nat->Nat->List iR
 | 0,_,_=>[]
 | k+1,n,l=>.int l 0::.int 0 0::.ref n::eQ k (n+12) (l+2)
noncomputable def eO (P:mP) (L:List Str):Obj:=match (boot_o_3 P).data with
 | .dict a _=>eD (kH P "__name__" 165 eM::a.toList.drop 1++kH P "WordError" 206 (.ref 24)::eE P L 28 207) (L.length+10)
 | _=>eT []
noncomputable def hC (P:mP) (L:List Str):List Obj:=(hA P).take 3++eO P L::((hA P).drop 4).take 8++eF .none (.int 2 0::.int 0 0::.ref 20::eQ L.length 33 4)::(hA P).drop 13 ++
 eA P "WordError" (.type "ValueError") 15 189 2++eD (eK P 189 2 15++[kH P "__weakref__" 203 (.ref 25),kH P "__doc__" 204 .none]) 3::eC "WordError" (.type "ValueError") 15 189 eV (eR L.length 37) ::
 eF (.type "getset_descriptor") [.str "__weakref__" 202,.ref 24,.builtin "ExceptionGroup.__weakref__",.none]::eS 24++eL P L 28 207 4
noncomputable def SC (L:List Str) (w:i8) (os:lM):SharedT:=⟨trA (hC w.params L) 0 .nil,12 * L.length+28,(lJ w.params).life,iA [],m7,16 * L.length+207,os⟩
noncomputable def zC (L:List Str):Pos:=⟨2 * L.length+2,0,2 * L.length+3,8⟩
noncomputable def ZK (L:List Str) (p:i7) (w:i8) (M:Nat) (os:lM):Option (Flow×Code×iU):=
 (segRunT mh p w 11 anV 1 M (SC L w os) (piecesOf ((l6 p).drop (L.length+2)) (enP p) (cdP p) (zC L) [nh zP])).bind λr=>
  (topRun mh p w 11 anV 5 r.2.1.abs (restOf [] (enP p) (cdP p) r.2.2.2 [nh zP])).map λs=>(r.1,r.2.2.1,s)
abbrev qdL (p:i7) (w:i8) (x:Flow×Code×iU):=
 (x.1,x.2.1,(staticsOk (mI p.main.body) (lJ w.params) x.2.2.heap&&namesBound p x.2.2.heap&&gensDone x.2.2&&laidKept (lJ w.params) x.2.2.heap))
abbrev KG (p q:i7) (loose:List Str) (Xt:iU->Bool) (x:Flow×Code×iU):=openSeen q loose (mI p.main.body) Xt iT x.2.2
theorem left_T {L:List Str} {p q:i7} {loose:List Str} {Xt:iU->Bool} {α:Type} {Yf:iU->α} {Ya:i8->α} {N M:Nat}
  (e:opening p=plainProg p.main.scope.names) (hN:Nat.ble 600 N=iT) (f:∀ s,fenceModules? p s=iO s)
  (size:∀ w:i8,((lJ w.params).isNs iY&&(iA []:Array nH).size == 0,(lJ w.params).objs.size,(lJ w.params).nsMap iY "__annotations__")=(iT,11,anV))
  (pre:∀ (w:i8) (os:lM),topGo mh p w 11 anV 12 ⟨lJ w.params,iA [],m7,boot_toks,os⟩ (topStub p)=iO ((SA w os).abs,⟨denote mh (cdP p),cdP p,zP,[nh zP]⟩))
  (blk:∀ (w:i8) (os:lM),segRun mh p w 11 anV 1 1 (SA w os).abs (blockOf (l6 p) (enP p) (cdP p) zP [nh zP])=iO (.next,(SA w os).abs,cdP p,zP))
  (le:Nat.ble (12+(1+(3500+(M+5)))) N=iT)
  (m6:∀ (w:i8) (os:lM),segRunT mh p w 11 anV 1 3500 (SA w os) (piecesOf ((l6 p).take (L.length+2)) (enP p) (cdP p) zP [nh zP])=iO (.next,SC L w os,cdP p,zC L))
  (m0:∀ (w:i8) (os:lM),(ZK L p w M os).map (qdL p w)=iO (.next,cdP p,iT))
  (m1:∀ (w:i8) (os:lM),(ZK L p w M os).map (λx=>(KG p q loose Xt x).1)=iO (mE q loose).1)
  (m3:∀ (w:i8) (os:lM),(ZK L p w M os).map (λx=>(KG p q loose Xt x).2.1)=iO (mE q loose).2.1)
  (m4:∀ (w:i8) (os:lM),(ZK L p w M os).map (λx=>(KG p q loose Xt x).2.2.1)=iO (mE q loose).2.2.1)
  (m5:∀ (w:i8) (os:lM),(ZK L p w M os).map (λx=>(KG p q loose Xt x).2.2.2)=iO (mE q loose).2.2.2)
  (m2:∀ (w:i8) (os:lM),(ZK L p w M os).map (λx=>Yf x.2.2)=iO (Ya w)):LeftO p q loose Xt Yf Ya N:=λw=>by
 obtain ⟨⟨h,gs,d,k,os⟩,a,a'⟩:=aQ.mp (boot_open e hN f w)
 obtain ⟨rfl,rfl,rfl,rfl⟩:h=lJ w.params/\gs=iA []/\d=m7/\k=boot_toks:=by simpa using a'
 obtain ⟨x,hx,hl⟩:=aQ.mp (m0 w os)
 have l2:openSeen q loose (mI p.main.body) Xt iT x.2.2=mE q loose:=by
  have a1:=m1 w os
  have a3:=m3 w os
  have a4:=m4 w os
  have a5:=m5 w os
  rw [hx] at a1 a3 a4 a5
  exact hZ (aM.inj a1) (hZ (aM.inj a3) (hZ (aM.inj a4) (aM.inj a5)))
 obtain ⟨y,hy,hY⟩:=aQ.mp (m2 w os)
 obtain rfl:y=x:=aM.inj (hy.symm.trans hx)
 obtain ⟨r,hr,hz⟩:=ck.mp hx
 obtain ⟨s,hs,rfl⟩:=aQ.mp hz
 obtain ⟨fl,st,co,po⟩:=r
 unfold qdL at hl
 simp only [Prod.mk.injEq] at hl
 obtain ⟨rfl,rfl,l1⟩:=hl
 have t1:=piece_app (rest:=[]) (segRun_of hr) hs
 rw [bv] at t1
 have t1:=piece_app (segRun_of (m6 w os)) t1
 rw [List.take_append_drop] at t1
 have t2:=piece_block (blk w os) t1
 have t3:=topRun_mono (N - (12+(1+(3500+(M+5))))) _ _ _ _ (go_top (pre w os) t2)
 rw [show 12+(1+(3500+(M+5)))+(N - (12+(1+(3500+(M+5)))))=N by have:=Nat.le_of_ble_eq_true le; omega] at t3
 obtain ⟨z1,z2,z3⟩:_/\_/\_:=by simpa only [Prod.mk.injEq] using size w
 have t:topFrom mh p w N ⟨lJ w.params,iA [],m7,boot_toks,os⟩=iO s:=by
  unfold topFrom
  dsimp only
  rw [z1,z2,z3,t3]
  show (match staticsOk (mI p.main.body) (lJ w.params) s.heap&&namesBound p s.heap&&gensDone s&&laidKept (lJ w.params) s.heap with | true=>_ | false=>_)=_
  rw [l1]
 unfold openEnds
 rw [a]
 show (topFrom mh p w N _).map _=_
 rw [t]
 exact congrArg iO (hZ l2 hY)
end
end Kx
noncomputable section
open PySem PySem.W PyProof.Rows
noncomputable def Kx.vq:i7:=view PySem.Challenge.pw_lookwords_k28_whole_lists_written [1,2,3,4,5,6,7,8,9,10,12,13,14,15,16,17,18,19,20,21,22,23,24,25,26,27,28,29,31,32,33,34,35,37,38,39,40,41,42,43,44,45,46,47,48,50,52,53,54,55,56,58,59,60,61,62,63,64,65,66]
noncomputable def Kx.eN:List Str:=["NoWords", "NoLook", "NoRoom", "NoWord", "NoWorths", "Never", "Full", "Known", "NoText"]
noncomputable def Kx.xt (s:iU):Bool:=xlAt Kx.vq [] s&&recOk (RowW.records (OpenRow.toRowW (OpenLaw.row PySem.Challenge.rw_lookwords_k28_whole_lists_written))) s
theorem Kx.m6:∀ (w:i8) (os:lM),segRunT mh PySem.Challenge.pw_lookwords_k28_whole_lists_written w 11 Kx.anV 1 3500 (Kx.SA w os) (piecesOf ((l6 PySem.Challenge.pw_lookwords_k28_whole_lists_written).take (Kx.eN.length+2)) (Kx.enP PySem.Challenge.pw_lookwords_k28_whole_lists_written) (Kx.cdP PySem.Challenge.pw_lookwords_k28_whole_lists_written) Kx.zP [nh Kx.zP])=iO (.next,Kx.SC Kx.eN w os,Kx.cdP PySem.Challenge.pw_lookwords_k28_whole_lists_written,Kx.zC Kx.eN):=by intro w os; kernel_rfl
theorem Kx.m0:∀ (w:i8) (os:lM),(Kx.ZK Kx.eN PySem.Challenge.pw_lookwords_k28_whole_lists_written w 15000 os).map (Kx.qdL PySem.Challenge.pw_lookwords_k28_whole_lists_written w)=iO (.next,Kx.cdP PySem.Challenge.pw_lookwords_k28_whole_lists_written,iT):=by intro w os; kernel_rfl
theorem Kx.m1:∀ (w:i8) (os:lM),(Kx.ZK Kx.eN PySem.Challenge.pw_lookwords_k28_whole_lists_written w 15000 os).map (λx=>(Kx.KG PySem.Challenge.pw_lookwords_k28_whole_lists_written Kx.vq [] Kx.xt x).1)=iO (mE Kx.vq []).1:=by intro w os; kernel_rfl
theorem Kx.m3:∀ (w:i8) (os:lM),(Kx.ZK Kx.eN PySem.Challenge.pw_lookwords_k28_whole_lists_written w 15000 os).map (λx=>(Kx.KG PySem.Challenge.pw_lookwords_k28_whole_lists_written Kx.vq [] Kx.xt x).2.1)=iO (mE Kx.vq []).2.1:=by intro w os; kernel_rfl
theorem Kx.m4:∀ (w:i8) (os:lM),(Kx.ZK Kx.eN PySem.Challenge.pw_lookwords_k28_whole_lists_written w 15000 os).map (λx=>(Kx.KG PySem.Challenge.pw_lookwords_k28_whole_lists_written Kx.vq [] Kx.xt x).2.2.1)=iO (mE Kx.vq []).2.2.1:=by intro w os; kernel_rfl
theorem Kx.m5:∀ (w:i8) (os:lM),(Kx.ZK Kx.eN PySem.Challenge.pw_lookwords_k28_whole_lists_written w 15000 os).map (λx=>(Kx.KG PySem.Challenge.pw_lookwords_k28_whole_lists_written Kx.vq [] Kx.xt x).2.2.2)=iO (mE Kx.vq []).2.2.2:=by intro w os; kernel_rfl
local macro_rules | `(tactic| o_head $H) => `(tactic| (refine holds_open (q := Kx.vq) (loose := []) (Xt := Kx.xt) (XP := XL Kx.vq []) (Yf := Hook.obs $H) (Ya := Hook.val $H) (YP := Hook.says $H) (N := 20000) ?hl (Hook.of $H) (Hook.keeps $H) (fun s e => xl_of s (Bool.and_eq_true_iff.mp e).1) XL.keeps (by rfl) (by rfl) (by rfl) (fun s e => recFacts_of (Bool.and_eq_true_iff.mp e).2) (by rfl) (by first | assumption | decide +kernel) (by decide +kernel) ⟨rfl, rfl, rfl, rfl, rfl, by decide +kernel⟩ ?hw ?hc; (case hl => refine Kx.left_T (p := PySem.Challenge.pw_lookwords_k28_whole_lists_written) (M := 15000) ?e rfl ?f ?s ?p ?b rfl Kx.m6 Kx.m0 Kx.m1 Kx.m3 Kx.m4 Kx.m5 ?m; (case e => kernel_rfl); (case f => intro s; kernel_rfl); (case s => intro w; kernel_rfl); (case p => intro w os; kernel_rfl); (case b => intro w os; kernel_rfl); (case m => intro w os; kernel_rfl))))
set_option maxHeartbeats 0 in
open_top Kx.hd for PySem.Challenge.rw_lookwords_k28_whole_lists_written
end
namespace L2
open PySem PySem.Spec PyProof.Rows
abbrev Key:=Sum Int Str
noncomputable def zO:Key->iR->Bool
 | .inl k,v=>Value.isInt k v
 | .inr x,v=>f9 x v
noncomputable def qj2 (w:i8):Key->Int
 | .inl k=>hashInt k
 | .inr x=>hashStr w x
theorem jj:∀ {k:Key} {v:iR},zO k v=iT->(∃ i t,k=fB i/\v=fz i t)\/(∃ x t,k=ce x/\v=dE x t)
 | .inl i,v,h=>by obtain ⟨t,e⟩:=Value.isInt_shape (k:=i) (v:=v) h;exact .inl ⟨i,t,rfl,e⟩
 | .inr x,v,h=>by obtain ⟨t,e⟩:=cU (x:=x) (v:=v) h;exact .inr ⟨x,t,rfl,e⟩
theorem KH (i:Int) (t:Tok):zO (.inl i) (.int i t)=true:=by simp [zO,Value.isInt]
theorem KI (x:Str) (t:Tok):zO (.inr x) (.str x t)=true:=by simp [zO,f9]
theorem qfS (a b:Int):decide ((fB a:Key)=fB b)=(a == b):=by
 by_cases e:a=b;·subst e; simp
 ·have h:¬(fB a:Key)=fB b:=λq=>e (fB.inj q);rw [Ac h];exact (beq_eq_false_iff_ne.mpr e).symm
theorem qfT (a b:Str):decide ((ce a:Key)=ce b)=decide (a=b):=by
 by_cases e:a=b;·subst e; simp
 ·have h:¬(ce a:Key)=ce b:=λq=>e (ce.inj q);rw [Ac h,Ac e]
theorem qfU (a:Int) (b:Str):decide ((fB a:Key)=ce b)=false:=Ac (λq=>nomatch q)
theorem qfV (a:Str) (b:Int):decide ((ce a:Key)=fB b)=false:=Ac (λq=>nomatch q)
noncomputable def qP (prog:i7) (w:i8):PySem.KeyKind prog w Key where
 is:=zO
 hash:=qj2 w
 inj:=λv a b g d=>by
  rcases jj g with ⟨i,t,rfl,rfl⟩ | ⟨x,t,rfl,rfl⟩
  ·rcases jj d with ⟨j,u,rfl,e⟩ | ⟨y,u,rfl,e⟩
   ·injection e with e1 _; rw [e1]
   ·exact nomatch e
  ·rcases jj d with ⟨j,u,rfl,e⟩ | ⟨y,u,rfl,e⟩
   ·exact nomatch e
   ·injection e with e1 _; rw [e1]
 byValue:=λk v h=>by rcases jj h with ⟨i,t,rfl,rfl⟩ | ⟨x,t,rfl,rfl⟩ <;> rfl
 pyHash:=λc h=>by
  rcases jj c with ⟨i,t,rfl,rfl⟩ | ⟨x,t,rfl,rfl⟩
  ·exact wpAny_pyHash_int h
  ·exact wpAny_pyHash_str h
 eqBool:=λf c h=>by
  rcases jj f with ⟨i,t,rfl,rfl⟩ | ⟨x,t,rfl,rfl⟩
  ·rcases jj c with ⟨j,u,rfl,rfl⟩ | ⟨y,u,rfl,rfl⟩
   ·rw [qfS] at h; exact wpAny_eqBool_int h
   ·rw [qfU] at h; exact SeqAt.EqAt.int_str i t y u _ _ _ _ h
  ·rcases jj c with ⟨j,u,rfl,rfl⟩ | ⟨y,u,rfl,rfl⟩
   ·rw [qfV] at h; exact SeqAt.EqAt.str_int x t j u _ _ _ _ h
   ·rw [qfT] at h; exact wpAny_eqBool_str h
 «strs»:=λk x t v h=>by
  rcases jj h with ⟨i,u,rfl,e⟩ | ⟨y,u,rfl,e⟩
  ·exact nomatch e
  ·injection e with e1 _;subst e1;cases v <;> rfl
theorem Wx (prog:i7) (w:i8) (i:Int) (t:Tok):(qP prog w).is (.inl i) (.int i t)=true:=KH i t
theorem Wy (prog:i7) (w:i8) (x:Str) (t:Tok):(qP prog w).is (.inr x) (.str x t)=true:=KI x t
inductive V where
 | non | bl (b:Bool) | int (i:Int) | str (x:Str) | byt (b:Array UInt8) | flt (b:UInt64) | ref (a:Addr) | ty (n:String)
 deriving DecidableEq
def RelV:V->iR->Prop
 | .non,u=>u=bO
 | .bl b,u=>u=dg b
 | .int i,u=>∃ t,u=fz i t
 | .str x,u=>∃ t,u=dE x t
 | .byt b,u=>∃ t,u=Value.bytes b t
 | .flt b,u=>∃ t,u=Value.float b t
 | .ref a,u=>u=aL a
 | .ty n,u=>u=dN n
abbrev Vals:List V->List iR->Prop:=nC RelV
variable {xs:List V} {us:List iR}
theorem Vals.length (r:Vals xs us):xs.length=us.length:=g7 r
theorem Vals.get:∀ {xs:List V} {us:List iR} {i:Nat} {x:V},Vals xs us->xs[i]?=iO x->∃ u,us[i]?=iO u/\RelV x u
 | _,_,_,_,.nil,e=>by simp at e
 | _,_,0,_,.cons r _,e=>by simp at e; subst e; exact ⟨_,rfl,r⟩
 | _,_,i+1,x,.cons _ t,e=>by obtain ⟨u,h1,h2⟩:=Vals.get (i:=i) (x:=x) t (by simpa using e);exact ⟨u,by simpa using h1,h2⟩
theorem Vals.append:∀ {xs ys:List V} {us ws:List iR},Vals xs us->Vals ys ws->Vals (xs++ys) (us++ws)
 | _,_,_,_,.nil,s=>s
 | _,_,_,_,.cons r t,s=>.cons r (Vals.append t s)
theorem Vals.take:∀ {xs:List V} {us:List iR} (n:Nat),Vals xs us->Vals (xs.take n) (us.take n)
 | _,_,0,_=>.nil
 | _,_,_+1,.nil=>.nil
 | _,_,n+1,.cons r t=>.cons r (Vals.take n t)
theorem Vals.drop:∀ {xs:List V} {us:List iR} (n:Nat),Vals xs us->Vals (xs.drop n) (us.drop n)
 | _,_,0,r=>r
 | _,_,_+1,.nil=>.nil
 | _,_,n+1,.cons _ t=>Vals.drop n t
def RelO:Option V->Option iR->Prop
 | some v,iO u=>RelV v u
 | none,iQ=>True
 | _,_=>False
def KV {κ:Type}:List (κ×V)->List (κ×iR)->Prop:=nC λ(p:κ×V) (q:κ×iR)=>p.1=q.1/\RelV p.2 q.2
noncomputable def kV:Key->V
 | .inl i=>.int i
 | .inr x=>.str x
inductive HO where
 /-- a list -/
 | lst (xs:List V)
 /-- a tuple (never changes) -/
 | tup (xs:List V)
 /-- a dict whose keys are ints and texts; one whose keys are tuples of ints and texts (the empty one is both) -/
 | dK (kvs:List (Key×V)) | dT (kvs:List (List Key×V))
 /-- a set of ints: its members,its size -/
 | set (S:Int->Bool) (n:Nat)
 /-- an instance of the class at C,its dict at dx,its attributes -/
 | ins (C dx:Addr) (fs:List (Str×V))
 /-- the dict of the instance at x -/
 | own (x:Addr)
 /-- the dict of an exception -/
 | xd (fs:List (Str×V))
 /-- a bound method,f of x -/
 | met (f x:Addr)
 /-- a range object lo,lo+1,.. below hi -/
 | rng (lo hi:Int)
 /-- a thing that is known to the object (the script; a dict while a loop walks it): read,never written while it is so -/
 | frz (o:Obj) (u:HO)
 /-- a code object's table -/
 | tbl (ps:Array iR)
 /-- any other thing,by what is iT of its one object (a def of one's own: SetO a S n:=HO.ext λh=>..) -/
 | ext (φ:Heap->Prop)
abbrev Hp:=Addr->Option HO
noncomputable def upd (H:Hp) (a:Addr) (o:HO):Hp:=λb=>if b=a then iO o else H b
variable {H:Hp} {a:Addr} {o:HO}
theorem qm:upd H a o a=iO o:=by unfold upd; rw [Aa rfl]
variable {b:Addr}
theorem qu (h:b≠a):upd H a o b=H b:=by unfold upd; rw [Ab h]
theorem qio {u:HO} (h:H a=iO o) (h':H b=iO u) (d:o≠u):a≠b:=by intro e; subst e; rw [h] at h'; exact d (aM.inj h')
theorem qA (h:H a=iO o) (h':H b=iQ):a≠b:=by intro e; subst e; rw [h] at h'; cases h'
section
variable (P:i7) (w:i8)
def ObjOk (H:Hp) (h:Heap) (a:Addr):HO->Prop
 | .lst xs=>xs.length<=sizeLine/\∃ (its:List iR) (n:Nat),Vals xs its/\h.get? a=iO { cls:=.type "list",data:=.seq its.toArray n }
 | .tup xs=>(xs.length<=sizeLine/\∃ o,h.get? a=iO o/\o.dict=iQ)/\∃ its:List iR,Vals xs its/\IsTup h a its.toArray
 | .dK kvs=>kvs.length<=sizeLine/\(a == lA)=iS/\∃ vs,KV kvs vs/\h.DictOf (qP P w) a vs
 | .dT kvs=>kvs.length<=sizeLine/\(a == lA)=iS/\∃ xs:List (List Key×Addr×iR),nC (λ(p:List Key×V) (q:List Key×Addr×iR)=>p.1=q.1/\H q.2.1=iO (.tup (p.1.map kV))/\RelV p.2 q.2.2) kvs xs /\
   ∃ o es ep,h.get? a=iO o/\o.ExactDict/\o.data=.dict es ep/\es.toList=xs.map (entryOfKey (nv (qP P w)))/\(xs.map (·.1)).Nodup
 | .set S n=>h.SetOf (intKind P w) a S n
 | .ins C dx fs=>H dx=iO (.own a)/\fs.length<=1000/\dx≠a/\h.get? a=iO (cm C dx) /\
   ∃ mA,h.Ns1 dx mA/\(∀ f,RelO (fs.lookup f) (mA f))/\iI mA (fs.map (·.1))
 | .own _=>∃ o,h.get? a=iO o
 | .xd fs=>∃ mA,h.Ns1 a mA/\∀ f,RelO (fs.lookup f) (mA f)
 | .rng lo hi=>∃ t u v,h.get? a=iO { cls:=.type "range",data:=.fields #[.int lo t,.int hi u,.int 1 v] }
 | .frz o u=>h.get? a=iO o/\ObjOk H h a u
 | .tbl ps=>h.get? a=iO { cls:=.none,data:=.fields ps }
 | .met f x=>h.get? a=iO (fR (.ref f) (.ref x))
 | .ext φ=>φ h/\(∃ o,h.get? a=iO o)/\∀ h1 h2:Heap,φ h1->(∀ o,h1.get? a=iO o->h2.get? a=iO o)->φ h2
def HOk (H:Hp) (h:Heap):Prop:=∀ a o,H a=iO o->ObjOk P w H h a o
end
variable {P:i7} {w:i8} {H':Hp} {h h':Heap} {α:Type}
section
theorem ObjOk.lt (x:ObjOk P w H h a o):a < h.objs.size:=by
 cases o with
 | lst xs=>obtain ⟨_,_,_,_,e⟩:=x; exact aq e
 | tup xs=>obtain ⟨_,_,_,p⟩:=x; exact p.lt
 | dK kvs=>obtain ⟨_,_,_,_,o,_,_,e,_⟩:=x; exact aq e
 | dT kvs=>obtain ⟨_,_,_,_,o,_,_,e,_⟩:=x; exact aq e
 | set S n=>obtain ⟨o,_,_,_,e,_⟩:=x; exact aq e
 | ins C dx fs=>obtain ⟨_,_,_,e,_⟩:=x; exact aq e
 | own y=>obtain ⟨_,e⟩:=x; exact aq e
 | xd fs=>obtain ⟨_,⟨_,_,_,e,_⟩,_⟩:=x; exact aq e
 | rng lo hi=>obtain ⟨_,_,_,e⟩:=x; exact aq e
 | frz b u=>obtain ⟨e,_⟩:=x; exact aq e
 | tbl ps=>exact aq (show h.get? a=iO _ from x)
 | met f y=>exact aq (show h.get? a=iO _ from x)
 | ext φ=>obtain ⟨_,⟨_,e⟩,_⟩:=x; exact aq e
theorem Paired.mapP {β:Type} {F G:α->β->Prop}:∀ {c:List α} {l:List β},nC F c l->(∀ a b,F a b->G a b)->nC G c l
 | _,_,.nil,_=>.nil
 | _,_,.cons r t,f=>.cons (f _ _ r) (Paired.mapP t f)
theorem ObjOk.stay (x:ObjOk P w H h a o) (k:∀ b u,(b=a\/H b=iO (.own a))->h.get? b=iO u->h'.get? b=iO u)
  (l:∀ b,H b=iO (.own a)->H' b=iO (.own a)) (ht:∀ b xs,H b=iO (.tup xs)->H' b=iO (.tup xs)):ObjOk P w H' h' a o:=by
 induction o with
 | lst xs=>obtain ⟨z,its,n,r,e⟩:=x; exact ⟨z,its,n,r,k _ _ (.inl rfl) e⟩
 | tup xs=>obtain ⟨⟨z,o2,i,d2⟩,its,r,g,e,c⟩:=x; exact ⟨⟨z,o2,k _ _ (.inl rfl) i,d2⟩,its,r,g,k _ _ (.inl rfl) e,c⟩
 | dK kvs=>obtain ⟨z,y,vs,r,g,es,ep,e,c⟩:=x; exact ⟨z,y,vs,r,g,es,ep,k _ _ (.inl rfl) e,c⟩
 | dT kvs=>obtain ⟨z,y,xs,r,g,es,ep,e,c⟩:=x;exact ⟨z,y,xs,Paired.mapP r λp q z=>⟨z.1,ht _ _ z.2.1,z.2.2⟩,g,es,ep,k _ _ (.inl rfl) e,c⟩
 | set S n=>obtain ⟨g,es,ep,t,e,c⟩:=x; exact ⟨g,es,ep,t,k _ _ (.inl rfl) e,c⟩
 | ins C dx fs=>obtain ⟨d,z,ne,e,mA,⟨od,es,ep,i,c⟩,r⟩:=x;exact ⟨l _ d,z,ne,k _ _ (.inl rfl) e,mA,⟨od,es,ep,k _ _ (.inr d) i,c⟩,r⟩
 | own y=>obtain ⟨g,e⟩:=x; exact ⟨g,k _ _ (.inl rfl) e⟩
 | xd fs=>obtain ⟨mA,⟨od,es,ep,e,c⟩,r⟩:=x; exact ⟨mA,⟨od,es,ep,k _ _ (.inl rfl) e,c⟩,r⟩
 | rng lo hi=>obtain ⟨t,u,v,e⟩:=x; exact ⟨t,u,v,k _ _ (.inl rfl) e⟩
 | frz g u j=>obtain ⟨e,q⟩:=x; exact ⟨k _ _ (.inl rfl) e,j q⟩
 | tbl ps=>have e:h.get? a=iO { cls:=.none,data:=.fields ps }:=x;show h'.get? a=iO { cls:=.none,data:=.fields ps };exact k a _ (.inl rfl) e
 | met f y=>have e:h.get? a=iO (fR (.ref f) (.ref y)):=x;show h'.get? a=iO (fR (.ref f) (.ref y));exact k a _ (.inl rfl) e
 | ext φ=>obtain ⟨p,⟨o,e⟩,st⟩:=x; exact ⟨st _ _ p λo q=>k _ _ (.inl rfl) q,⟨o,k _ _ (.inl rfl) e⟩,st⟩
theorem HOk.lt (x:HOk P w H h) (e:H a=iO o):a < h.objs.size:=(x a o e).lt
theorem HOk.fresh (x:HOk P w H h) (e:h.objs.size<=a):H a=none:=by
 cases q:H a with
 | none=>rfl
 | some u=>exact absurd (aH (x.lt q) e) (bM _)
theorem HOk.kept (x:HOk P w H h) (k:∀ b u,h.get? b=iO u->h'.get? b=iO u):HOk P w H h':=λa o e=>
 (x a o e).stay (λb u _ q=>k b u q) (λ_ q=>q) λ_ _ q=>q
theorem HOk.laid (x:HOk P w H h) (k:∀ b u,h.get? b=iO u->h'.get? b=iO u) (hp:h.objs.size<=a) (new:ObjOk P w (upd H a o) h' a o):HOk P w (upd H a o) h':=λb u e=>by
 have n:=x.fresh hp;by_cases d:b=a;·subst d; rw [qm] at e; cases e; exact new
 ·rw [qu d] at e;exact (x b u e).stay (λc v _ q=>k c v q) (λc q=>by rw [qu (qA q n)]; exact q) λc xs q=>by rw [qu (qA q n)]; exact q
end
def Rd (H:Hp) (a:Addr) (u:HO):Prop:=H a=iO u\/∃ o,H a=iO (.frz o u)
theorem Rd.ok {u:HO} (r:Rd H a u) (x:HOk P w H h):ObjOk P w H h a u:=by
 rcases r with r | ⟨o,r⟩
 ·exact x a u r
 ·obtain ⟨_,q⟩:=x a _ r;exact q
def Mut:Option HO->Prop
 | some (.lst _)=>True
 | some (.dK _)=>True
 | some (.dT _)=>True
 | some (.set _ _)=>True
 | some (.ins _ _ _)=>True
 | some (.ext _)=>True
 | _=>False
section
variable {x e:Addr} {o':HO}
theorem HOk.write (ok:HOk P w H h) (m:Mut (H x)) (i:e=x\/H e=iO (.own x)) (k:∀ b u,b≠e->h.get? b=iO u->h'.get? b=iO u) (o:∃ u,h'.get? e=iO u)
  (new:ObjOk P w (upd H x o') h' x o'):HOk P w (upd H x o') h':=λb u q=>by
 have n:∀ c y,H c=iO (.own y)->c≠x:=λc y r z=>by subst z; rw [r] at m; exact m
 have p:∀ c xs,H c=iO (.tup xs)->c≠x:=λc xs r z=>by subst z; rw [r] at m; exact m
 by_cases f:b=x;·subst f; rw [qm] at q; cases q; exact new
 ·rw [qu f] at q;by_cases a:b=e
  ·have g:H b=iO (.own x):=by
    rcases i with z | z;·exact absurd (a.trans z) f
    ·rw [a]; exact z
   rw [q] at g; cases g;obtain ⟨v,j⟩:=o;exact ⟨v,by rw [a]; exact j⟩
  ·refine (ok b u q).stay (λc v d r=>k c v ?_ r) (λc r=>by rw [qu (n c b r)]; exact r) λc xs r=>by rw [qu (p c xs r)]; exact r
   rcases d with rfl | d;·exact a
   ·rintro rfl;rcases i with z | z;·exact n c b d z
    ·rw [d] at z; cases z; exact f rfl
end
structure Un (fs ex:List Addr) (H H':Hp) (h h':Heap):Prop where
 keep:∀ b o,h.get? b=iO o->H b=iQ->b∉fs->b∉ex->h'.get? b=iO o
 slot:∀ b o,h.get? b=iO o->H b=iQ->b∈fs->b∉ex->∃ sl,h'.get? b=iO { o with slots:=sl }
 free:∀ b o,h.get? b=iO o->H b=iQ->b∉ex->H' b=iQ
 there:∀ b o,h.get? b=iO o->b∉ex->∃ o',h'.get? b=iO o'
 tups:∀ b xs,H b=iO (.tup xs)->H' b=iO (.tup xs)
 frzs:∀ b o u,H b=iO (.frz o u)->H' b=iO (.frz o u)
 tbls:∀ b ps,H b=iO (.tbl ps)->∃ more,H' b=iO (.tbl (ps++more))
section
variable {fs fs' ex ex':List Addr} {H1 H2:Hp} {h1 h2:Heap} {x e:Addr}
theorem Un.any (u:Un fs ex H H1 h h1) {o:Obj} (q:h.get? b=iO o) (n:H b=iQ) (hx:b∉ex):∃ sl,h1.get? b=iO { o with slots:=sl }:=by
 by_cases d:b∈fs;·exact u.slot b o q n d hx
 ·exact ⟨o.slots,u.keep b o q n d hx⟩
theorem Un.kept (k:∀ b u,h.get? b=iO u->h'.get? b=iO u):Un fs ex H H h h':=
 ⟨λb o q _ _ _=>k b o q,λb o q _ _ _=>⟨o.slots,k b o q⟩,λ_ _ _ n _=>n,λb o q _=>⟨o,k b o q⟩,λ_ _ q=>q,λ_ _ _ q=>q,λ_ ps q=>⟨#[],by rw [q]; simp⟩⟩
theorem Un.refl:Un fs ex H H h h:=Un.kept λ_ _ q=>q
theorem Un.laid (k:∀ b u,h.get? b=iO u->h'.get? b=iO u) (hp:h.objs.size<=a) (c:H a=iQ):Un fs ex H (upd H a o) h h' where
 keep:=λb u q _ _ _=>k b u q
 slot:=λb u q _ _ _=>⟨u.slots,k b u q⟩
 free:=λb u q n _=>by rw [qu (ay (aH (aq q) hp))]; exact n
 there:=λb u q _=>⟨u,k b u q⟩
 tups:=λb xs q=>by rw [qu (qA q c)]; exact q
 frzs:=λb u xs q=>by rw [qu (qA q c)]; exact q
 tbls:=λb ps q=>⟨#[],by rw [qu (qA q c),q]; simp⟩
theorem Un.write (m:Mut (H x)) (i:e=x\/H e=iO (.own x)) (k:∀ b u,b≠e->h.get? b=iO u->h'.get? b=iO u) (d:∃ u,h'.get? e=iO u):Un fs ex H (upd H x o) h h':=by
 have hx:∀ b,H b=iQ->b≠x:=λb n z=>by subst z; rw [n] at m; exact m
 have f:∀ b,H b=iQ->b≠e:=λb n z=>by
  subst z;rcases i with r | r;·exact hx b n r
  ·rw [n] at r; cases r
 have c:∀ b u,H b=iO u->¬Mut (iO u)->b≠x:=λb u q nm z=>by subst z; rw [q] at m; exact nm m
 refine ⟨λb u q n _ _=>k b u (f b n) q,λb u q n _ _=>⟨u.slots,k b u (f b n) q⟩,λb u q n _=>by rw [qu (hx b n)]; exact n,λb u q _=>?_,λb xs q=>by rw [qu (c b _ q λz=>z)]; exact q,λb u xs q=>by rw [qu (c b _ q λz=>z)]; exact q,λb ps q=>⟨#[],by rw [qu (c b _ q λz=>z),q]; simp⟩⟩;by_cases a:b=e;·subst a; exact d
 ·exact ⟨u,k b u a q⟩
end
noncomputable def trk (h:Heap) (H:Hp):List Addr:=(aK h.objs.size).filter λa=>(H a).isSome
noncomputable def qbD (h:Heap) (H:Hp):Heap:=bj h (trk h H)
theorem ZL (h:Heap) (H:Hp):(qbD h H).objs.size=h.objs.size:=PySem.W.hideAll_size _ _
theorem qbE {o:Obj} (e:h.get? b=iO o) (n:H b=iQ):(qbD h H).get? b=iO o:=
 cV _ e λc=>by have q:(H b).isSome=true:=(dB.mp c).2;rw [n] at q; simp at q
theorem qdM {o:Obj} (e:(qbD h H).get? b=iO o):h.get? b=iO o/\H b=none:=by
 have a:h.get? b=iO o:=eh (trk h H) e;refine ⟨a,?_⟩;cases q:H b with
 | none=>rfl
 | some x=>have c:b∈trk h H:=dB.mpr ⟨aZ.mpr (aq a),by simp [q]⟩;have z:(qbD h H).get? b=none:=cP (trk h H) c;rw [z] at e; cases e
structure Mod (K:Frag) (mg:Str->Option iR) (base:Heap):Prop where
 kin:K.In base
 glob:base.Ns iY mg
 blt:∃ mb,base.Ns builtinsNs mb/\∀ x:Str,x ≠ "__name__"->mb x=iZ x
 nolimit:base.NoLimit
abbrev Pns:=List (Addr×Obj)
structure Cx where
 prog:i7
 w:i8
 K:Frag
 mg:Str->Option iR
 base:Heap
 A:j9
 N:List Str
 s₀:iU
 H₀:Hp
 env:Env
 outer:List Env
 stack:List Env
 ex:List Addr
 fn:Str->Bool
 calm:Bool
 pn:Pns
 xe:iR->iU->Prop
noncomputable def frs (l:List Env):List Addr:=l.filterMap (·.frame)
abbrev Cx.fs (X:Cx):List Addr:=frs X.outer
def Vis (sc:mC) (x:Str):Prop:=sc.names.lookup x=iO .local\/sc.names.lookup x=iO .cell\/sc.names.lookup x=iO .free
def Loc (sc:mC) (x:Str):Prop:=sc.names.lookup x=iO .local\/sc.names.lookup x=iO .cell
def KB (env:Env) (h:Heap) (m:Str->Option iR) (x:Str) (u:iR):Prop:=
 (env.kindOf x=iO .local/\m x=iO u)\/((env.kindOf x=iO .cell\/env.kindOf x=iO .free)/\∃ c,env.cells.lookup x=iO c/\h.IsCell c (iO u))
structure Cx.Ok (X:Cx):Prop where
 mod:Mod X.K X.mg X.base
 kind:X.env.scope.kind=.function
 glob:X.env.globals=iY
 blt:X.env.builtins=builtinsNs
 above:X.s₀.heap.objs.size<=X.env.locals
 inj:∀ x y c,X.env.cells.lookup x=iO c->X.env.cells.lookup y=iO c->x=y
 has:∀ x,(X.env.kindOf x=iO .cell\/X.env.kindOf x=iO .free)->∃ c,X.env.cells.lookup x=iO c
 cab:∀ x c,X.fn x=iT->X.env.cells.lookup x=iO c->X.s₀.heap.objs.size<=c
 hd:X.calm=iT->X.A.handled=iQ
 frames:X.A.frames=iO X.stack
 stk:X.stack=X.outer\/(X.stack=X.env::X.outer/\X.env.frame=iO X.env.locals)
 exf:∀ b∈X.ex,b≠X.env.locals/\∀ x c,X.env.cells.lookup x=iO c->c≠b
 bs:∀ b o,X.base.get? b=iO o->X.s₀.heap.get? b=iO o/\X.H₀ b=iQ
 bsz:X.base.objs.size<=X.s₀.heap.objs.size
 noex:∀ b o,X.base.get? b=iO o->b∉X.ex
 exfs:∀ b∈X.ex,b∉X.fs
 funs:X.s₀.heap.FunFrames X.base X.outer
 frf:∀ b∈X.fs,X.H₀ b=iQ
structure Inv (X:Cx) (pins:Pns) (σ:List (Option V)) (H:Hp) (s:iU):Prop where
 ok:X.Ok
 os:s.os=X.s₀.os
 bare:mO s.gens
 base:Un X.fs X.ex X.H₀ H X.s₀.heap s.heap
 loc:∃ m,s.heap.Ns X.env.locals m/\∀ (i:Nat) (x:Str) (v:V),X.N[i]?=iO x->σ[i]?=iO (iO v)->Vis X.env.scope x->∃ u,RelV v u/\KB X.env s.heap m x u
 cell:∀ x c,X.env.cells.lookup x=iO c->∃ v,s.heap.IsCell c v
 free:H X.env.locals=iQ
 freeC:∀ x c,X.env.cells.lookup x=iO c->H c=iQ
 pin:∀ p∈X.pn++pins,s.heap.get? p.1=iO p.2/\H p.1=iQ/\p.1≠X.env.locals/\p.1∉X.fs/\∀ v,p.2.data≠.cell v
 hok:HOk X.prog X.w H s.heap
 len:σ.length=X.N.length
variable {u:iR} {x:Str} {X:Cx} {pins:Pns} {s s':iU} {t' i:Nat} {ch:List Addr} {it:Addr} {v:V}
section
variable {σ:List (Option V)}
theorem Cx.Ok.nofr (ok:X.Ok) {o:Obj} (e:X.base.get? b=iO o):b∉X.fs:=λd=>by have:=(ok.funs.mem d).1;rw [e] at this; cases this
theorem Inv.bs (I:Inv X pins σ H s):∀ b o,X.base.get? b=iO o->s.heap.get? b=iO o/\H b=none:=λb o e=>
 ⟨I.base.keep b o (I.ok.bs b o e).1 (I.ok.bs b o e).2 (I.ok.nofr e) (I.ok.noex b o e),I.base.free b o (I.ok.bs b o e).1 (I.ok.bs b o e).2 (I.ok.noex b o e)⟩
theorem Inv.bk (I:Inv X pins σ H s):∀ b o,X.base.get? b=iO o->s.heap.get? b=iO o:=λb o e=>(I.bs b o e).1
theorem Inv.mod (I:Inv X pins σ H s):Mod X.K X.mg X.base:=I.ok.mod
theorem Inv.kIn (I:Inv X pins σ H s):X.K.In s.heap:=I.ok.mod.kin.keeps I.bk
theorem Inv.fr (I:Inv X pins σ H s):∃ m,Fr X.base X.env.locals s.heap m:=
 let ⟨m,n,_⟩:=I.loc
 ⟨m,n,I.bk,bu I.ok.bsz I.ok.above⟩
theorem Inv.lt (I:Inv X pins σ H s):X.env.locals < s.heap.objs.size:=let ⟨_,n,_⟩:=I.loc; n.lt
theorem Inv.sz (I:Inv X pins σ H s):X.s₀.heap.objs.size<=s.heap.objs.size:=bu I.ok.above (dh I.lt)
theorem Inv.nofs (I:Inv X pins σ H s) (h:s.heap.objs.size<=a):a∉X.fs:=λd=>by obtain ⟨_,o,l,_⟩:=I.ok.funs.mem d;exact absurd (aH (aq l) (bu I.sz h)) (bM _)
theorem Inv.cne (I:Inv X pins σ H s):∀ x c,X.env.cells.lookup x=iO c->c≠X.env.locals:=λx c e z=>by obtain ⟨v,o,l,hd⟩:=I.cell x c e;obtain ⟨m,⟨o',es,ep,h,a,_⟩,_⟩:=I.loc;rw [z,h] at l; cases l; rw [a] at hd; cases hd
theorem Inv.funs (I:Inv X pins σ H s):s.heap.FunFrames X.base X.outer:=by
 have all:∀ (l:List Env),(∀ b∈frs l,b∈X.fs)->X.s₀.heap.FunFrames X.base l->s.heap.FunFrames X.base l:=by
  intro l
  induction l with
  | nil=>intro _ _; trivial
  | cons env r j=>intro hs hl;obtain ⟨k,⟨L,o,h,n,f,hd⟩,c⟩:=hl;have a:L∈X.fs:=hs L (by unfold frs; rw [cu,h]; exact aj);obtain ⟨sl,e⟩:=I.base.slot L o f (I.ok.frf L a) a λz=>I.ok.exfs L z a;exact ⟨k,⟨L,_,h,n,e,hd⟩,j (λb d=>hs b (by unfold frs; rw [cu,h]; exact ae _ d)) c⟩
 exact all X.outer (λ_ d=>d) I.ok.funs
theorem Inv.stack (I:Inv X pins σ H s):s.heap.FunFrames X.base X.stack:=by
 rcases I.ok.stk with e | ⟨e,hf⟩
 ·rw [e]; exact I.funs
 ·rw [e];obtain ⟨m,n,_⟩:=I.loc;refine .cons (by rw [I.ok.kind]; decide) hf n ?_ I.funs;exact Heap.get?_none_of_le (bu I.ok.bsz I.ok.above)
theorem Inv.stkSub (I:Inv X pins σ H s):∀ b∈frs X.stack,b∈X.env.locals::X.fs:=λb d=>by
 rcases I.ok.stk with e | ⟨e,hf⟩
 ·rw [e] at d; exact ae _ d
 ·rw [e] at d;unfold frs at d;rw [cu,hf] at d;exact d
theorem Inv.stkFree (I:Inv X pins σ H s):∀ b∈frs X.stack,H b=none:=λb d=>by
 rcases af.mp (I.stkSub b d) with e | d;·rw [e]; exact I.free
 ·obtain ⟨_,o,l,_⟩:=I.ok.funs.mem d;exact I.base.free b o l (I.ok.frf b d) λz=>I.ok.exfs b z d
theorem Inv.step {g':Array nH} {t':Nat} {d':Drawn} {ch:List Addr} (I:Inv X pins σ H s)
  (a:∀ b∈ch,(b∈X.ex\/X.s₀.heap.objs.size<=b)/\b≠X.env.locals/\(∀ x c,X.env.cells.lookup x=iO c->c≠b)/\∀ p∈X.pn++pins,p.1≠b)
  (keep:∀ b o,b≠X.env.locals->b∉X.fs->b∉ch->s.heap.get? b=iO o->H b=iQ->h'.get? b=iO o)
  (slot:∀ b o,b≠X.env.locals->b∈X.fs->b∉ch->s.heap.get? b=iO o->H b=iQ->∃ sl,h'.get? b=iO { o with slots:=sl }) (free:∀ b o,b∉ch->s.heap.get? b=iO o->H b=iQ->H' b=iQ)
  (there:∀ b o,b∉ch->s.heap.get? b=iO o->∃ o',h'.get? b=iO o')
  (tups:∀ b xs,H b=iO (.tup xs)->H' b=iO (.tup xs)) (frzs:∀ b o u,H b=iO (.frz o u)->H' b=iO (.frz o u)) (tbls:∀ b ps,H b=iO (.tbl ps)->∃ more,H' b=iO (.tbl (ps++more)))
  (ns:∀ m,s.heap.Ns X.env.locals m->h'.Ns X.env.locals m) (hok:HOk X.prog X.w H' h') (hg:mO g') :
  Inv X pins σ H' { s with heap:=h',gens:=g',drawn:=d',toks:=t' }:=by
 have L:∀ b o,X.s₀.heap.get? b=iO o->b≠X.env.locals:=λb o e=>ay (aH (aq e) I.ok.above);have C:∀ b o,X.s₀.heap.get? b=iO o->b∉X.ex->b∉ch:=λb o e hx f=>by
  rcases (a b f).1 with z | z;·exact hx z
  ·exact absurd (aH (aq e) z) (bM _)
 have K:∀ x c,X.env.cells.lookup x=iO c->∀ v,s.heap.IsCell c v->h'.IsCell c v:=λx c e v ⟨o,g,hd⟩=>by
  have h:c∉ch:=λz=>(a c z).2.2.1 x c e rfl;by_cases A:c∈X.fs;·obtain ⟨sl,q⟩:=slot c o (I.cne x c e) A h g (I.freeC x c e);exact ⟨_,q,hd⟩
  ·exact ⟨o,keep c o (I.cne x c e) A h g (I.freeC x c e),hd⟩
 refine ⟨I.ok,I.os,hg,⟨λb o e n f hx=>?_,λb o e n f hx=>?_,λb o e n hx=>?_,λb o e hx=>?_,λb xs e=>tups b xs (I.base.tups b xs e),λb o xs e=>frzs b o xs (I.base.frzs b o xs e),λb ps e=>?_⟩,?_,λx c e=>?_,?_,λx c e=>?_,λp hp=>?_,hok,I.len⟩;·exact keep b o (L b o e) f (C b o e hx) (I.base.keep b o e n f hx) (I.base.free b o e n hx)
 ·obtain ⟨sl,e1⟩:=I.base.slot b o e n f hx;obtain ⟨t,j⟩:=slot b _ (L b o e) f (C b o e hx) e1 (I.base.free b o e n hx);exact ⟨t,j⟩
 ·obtain ⟨o',e1⟩:=I.base.there b o e hx;exact free b o' (C b o e hx) e1 (I.base.free b o e n hx)
 ·obtain ⟨o',e1⟩:=I.base.there b o e hx;exact there b o' (C b o e hx) e1
 ·obtain ⟨m1,e1⟩:=I.base.tbls b ps e;obtain ⟨B,j⟩:=tbls b _ e1;exact ⟨m1++B,by rw [j,Array.append_assoc]⟩
 ·obtain ⟨m,D,hl⟩:=I.loc;refine ⟨m,ns m D,λi x v e1 j E=>?_⟩;obtain ⟨u,r,l⟩:=hl i x v e1 j E;refine ⟨u,r,?_⟩;rcases l with l | ⟨k,c,e,z⟩
  ·exact .inl l
  ·exact .inr ⟨k,c,e,K x c e _ z⟩
 ·obtain ⟨v,z⟩:=I.cell x c e;exact ⟨v,K x c e v z⟩
 ·obtain ⟨m,⟨o,_,_,g,_⟩,_⟩:=I.loc;exact free _ o (λz=>(a _ z).2.1 rfl) g I.free
 ·obtain ⟨v,o,g,hd⟩:=I.cell x c e;exact free c o (λz=>(a c z).2.2.1 x c e rfl) g (I.freeC x c e)
 ·obtain ⟨e,n,ne,y,d⟩:=I.pin p hp;have h:p.1∉ch:=λz=>(a p.1 z).2.2.2 p hp rfl;exact ⟨keep p.1 p.2 ne y h e n,free p.1 p.2 h e n,ne,y,d⟩
theorem Inv.un (I:Inv X pins σ H s) (u:Un X.fs [] H H' s.heap h') (hok:HOk X.prog X.w H' h'):Inv X pins σ H' { s with heap:=h',toks:=t' }:=by obtain ⟨m,⟨o,es,ep,l,r⟩,_⟩:=id I.loc;obtain ⟨sl,L⟩:=u.any l I.free (by simp);exact I.step (g':=s.gens) (d':=s.drawn) (ch:=[]) (λ_ z=>nomatch z) (λb o _ d _ e n=>u.keep b o e n d (by simp)) (λb o _ d _ e n=>u.slot b o e n d (by simp)) (λb o _ e n=>u.free b o e n (by simp)) (λb o _ e=>u.there b o e (by simp)) u.tups u.frzs u.tbls (λf c=>by obtain ⟨o',es',a,h,r'⟩:=c;rw [l] at h; cases h;exact ⟨_,es',a,L,r'⟩) hok I.bare
theorem Inv.call {g':Array nH} {t':Nat} {d':Drawn} (I:Inv X pins σ H s) (u:Un (frs X.stack) ch H H' s.heap h') (hok:HOk X.prog X.w H' h') (hg:mO g')
  (a:∀ b∈ch,(b∈X.ex\/X.s₀.heap.objs.size<=b)/\b≠X.env.locals/\(∀ x c,X.env.cells.lookup x=iO c->c≠b)/\∀ p∈X.pn++pins,p.1≠b) :
  Inv X pins σ H' { s with heap:=h',gens:=g',drawn:=d',toks:=t' }:=by
 obtain ⟨m,⟨o,es,ep,l,r⟩,_⟩:=id I.loc;obtain ⟨sl,L⟩:=u.any l I.free λz=>(a _ z).2.1 rfl;exact I.step (ch:=ch) a (λb o L i d e n=>u.keep b o e n (λz=>(af.mp (I.stkSub b z)).elim L i) d) (λb o _ _ d e n=>u.any e n d) (λb o d e n=>u.free b o e n d) (λb o d e=>u.there b o e d) u.tups u.frzs u.tbls (λj g=>by obtain ⟨o',es',f,h,r'⟩:=g;rw [l] at h; cases h;exact ⟨_,es',f,L,r'⟩) hok hg
theorem Inv.turned {t':Nat} (I:Inv X pins σ H s) (k:∀ b o,b≠it->s.heap.get? b=iO o->h'.get? b=iO o) (h:H it=iQ) (a:it≠X.env.locals)
  (h1:it∈X.ex\/X.s₀.heap.objs.size<=it) (h2:∀ x c,X.env.cells.lookup x=iO c->c≠it) (h3:∀ p∈X.pn++pins,p.1≠it):Inv X pins σ H { s with heap:=h',toks:=t' }:=by
 have t:∀ b u,H b=iO u->b≠it:=λb u e z=>by rw [z,h] at e; cases e
 refine I.step (g':=s.gens) (d':=s.drawn) (ch:=[it]) (λb g=>?_) (λb o _ _ d e _=>k b o (λz=>d (by simp [z])) e) (λb o _ _ d e _=>⟨o.slots,k b o (λz=>d (by simp [z])) e⟩) (λ_ _ _ _ n=>n)
  (λb o d e=>⟨o,k b o (λz=>d (by simp [z])) e⟩) (λ_ _ e=>e) (λ_ _ _ e=>e) (λb ps e=>⟨#[],by rw [e]; simp⟩) (λm f=>?_) (λb u e=>?_) I.bare
 ·have e:b=it:=by simpa using g
  subst e;exact ⟨h1,a,h2,h3⟩
 ·obtain ⟨o,es,ep,l,r⟩:=f;exact ⟨o,es,ep,k _ o (bb a) l,r⟩
 ·refine (I.hok b u e).stay (λc v d q=>k c v ?_ q) (λ_ q=>q) λ_ _ q=>q;rcases d with z | z;·rw [z]; exact t b u e
  ·exact t c _ z
theorem Inv.tok (I:Inv X pins σ H s) (t:Nat):Inv X pins σ H { s with toks:=t }:=I.un (h':=s.heap) (t':=t) Un.refl I.hok
theorem Inv.kept (I:Inv X pins σ H s) (k:∀ b u,s.heap.get? b=iO u->h'.get? b=iO u):Inv X pins σ H { s with heap:=h',toks:=t' }:=I.un (Un.kept k) (I.hok.kept k)
theorem Inv.laid {t':Nat} (I:Inv X pins σ H s) (k:∀ b u,s.heap.get? b=iO u->h'.get? b=iO u) (hp:s.heap.objs.size<=a) (new:ObjOk X.prog X.w (upd H a o) h' a o):Inv X pins σ (upd H a o) { s with heap:=h',toks:=t' }:=I.un (Un.laid k hp (I.hok.fresh hp)) (I.hok.laid k hp new)
theorem Inv.write {x e:Addr} {o:HO} {t':Nat} (I:Inv X pins σ H s) (m:Mut (H x)) (i:e=x\/H e=iO (.own x)) (k:∀ b u,b≠e->s.heap.get? b=iO u->h'.get? b=iO u) (h:∃ u,h'.get? e=iO u)
  (new:ObjOk X.prog X.w (upd H x o) h' x o):Inv X pins σ (upd H x o) { s with heap:=h',toks:=t' }:=I.un (Un.write m i k h) (I.hok.write m i k h new)
theorem Inv.weak {σ':List (Option V)} (I:Inv X pins σ H s) (hl:σ'.length=σ.length) (w:∀ (i:Nat) v,σ'[i]?=iO (iO v)->σ[i]?=iO (iO v)):Inv X pins σ' H s:=
 ⟨I.ok,I.os,I.bare,I.base,let ⟨m,n,h⟩:=I.loc; ⟨m,n,λi x v e1 e E=>h i x v e1 (w i v e) E⟩,I.cell,I.free,I.freeC,I.pin,I.hok,hl.trans I.len⟩
theorem Inv.pins_of {a:Pns} (I:Inv X pins σ H s) (h:∀ p∈a,s.heap.get? p.1=iO p.2/\H p.1=iQ/\p.1≠X.env.locals/\p.1∉X.fs/\∀ v,p.2.data≠.cell v):Inv X a σ H s:=
 ⟨I.ok,I.os,I.bare,I.base,I.loc,I.cell,I.free,I.freeC,λp hp=>(aG.mp hp).elim (λz=>I.pin p (ci _ z)) (h p),I.hok,I.len⟩
theorem UR {N:List Str} (h:N.Nodup) {j:Nat} (a:N[i]?=iO x) (b:N[j]?=iO x):i=j:=by obtain ⟨h1,e1⟩:=aE.mp a;obtain ⟨h2,e⟩:=aE.mp b;exact (h7 h).mp (e1.trans e.symm)
theorem KJ {M:Model} {A:j9} {E:iR->iU->Prop} {Q:Unit->iU->Prop} (I:Inv X pins σ H s) (hN:X.N.Nodup) (hi:X.N[i]?=iO x) (hx:Loc X.env.scope x) (r:RelV v u)
  (h:∀ s',Inv X pins (σ.set i (iO v)) H s'->(∃ a,bo a s.heap s'.heap/\(a=X.env.locals\/X.env.cells.lookup x=iO a))->Q () s') (hf:X.fn x=iT\/X.env.scope.names.lookup x=iO .local:=by first | exact .inl rfl | exact .inr rfl | assumption):iW M A (storeName X.env x u) Q E s:=by
 obtain ⟨m,Z,hl⟩:=id I.loc;have O:(X.env.scope.kind == .class||(X.env.scope.kind == .module&&X.env.locals != X.env.globals))=false:=by rw [I.ok.kind]; rfl
 have C:i < σ.length:=by rw [I.len]; exact (aE.mp hi).1
 have cne:=I.cne;have t:∀ {a:Addr} {h':Heap},(∃ o,s.heap.get? a=iO o/\H a=iQ)->bo a s.heap h'->HOk X.prog X.w H h':=λ{a h'} ha hs b ob e=>by
  obtain ⟨_,_,g⟩:=ha;refine (I.hok b ob e).stay (λc w' f q=>(hs.2 c ?_).trans q) (λ_ q=>q) λ_ _ q=>q;rintro rfl;rcases f with rfl | f;·rw [g] at e; cases e
  ·rw [g] at f; cases f
 rcases hx with B | B
 ·refine wpAny_storeName_local B Z (λh' Y hs=>?_) O;obtain ⟨oL,_,_,W,_⟩:=id Z;refine h _ ⟨I.ok,I.os,I.bare,⟨λb o e n J hx=>?_,λb o e n J hx=>?_,I.base.free,λb o e hx=>?_,I.base.tups,I.base.frzs,I.base.tbls⟩,⟨_,Y,λj y T e1 l F=>?_⟩,λy c e=>?_,I.free,I.freeC,λp hp=>?_,t ⟨oL,W,I.free⟩ hs,by simpa using I.len⟩ ⟨_,hs,.inl rfl⟩;·exact (hs.2 b (ay (aH (aq e) I.ok.above))).trans (I.base.keep b o e n J hx)
  ·obtain ⟨sl,e1⟩:=I.base.slot b o e n J hx;exact ⟨sl,(hs.2 b (ay (aH (aq e) I.ok.above))).trans e1⟩
  ·obtain ⟨o',e1⟩:=I.base.there b o e hx;exact ⟨o',(hs.2 b (ay (aH (aq e) I.ok.above))).trans e1⟩
  ·by_cases D:j=i;·subst D;rw [hi] at e1; cases e1;rw [aI C] at l;cases l;exact ⟨u,r,.inl ⟨B,by simp⟩⟩
   ·rw [aw (bb D)] at l;obtain ⟨U,r',q⟩:=hl j y T e1 l F;refine ⟨U,r',?_⟩;rcases q with ⟨k,e⟩ | ⟨k,c,e,z⟩
    ·refine .inl ⟨k,?_⟩;have:y≠x:=λe=>D (UR hN e1 (e ▸ hi));simp [this,e]
    ·exact .inr ⟨k,c,e,z.sameBut hs (cne y c e)⟩
  ·obtain ⟨w',z⟩:=I.cell y c e;exact ⟨w',z.sameBut hs (cne y c e)⟩
  ·obtain ⟨e,n,ne,V,d⟩:=I.pin p hp;exact ⟨(hs.2 p.1 ne).trans e,n,ne,V,d⟩
 ·have G:X.fn x=true:=by
   rcases hf with z | z;·exact z
   ·rw [z] at B; cases B
  obtain ⟨c,f⟩:=I.ok.has x (.inl B);obtain ⟨w',z⟩:=I.cell x c f;refine wpAny_storeName_cell I.ok.kind B f z (λh' R hs=>?_);obtain ⟨oc,L,K⟩:=id z;refine h { s with heap:=h' } ⟨I.ok,I.os,I.bare,⟨λb o e n J hx=>?_,λb o e n J hx=>?_,I.base.free,λb o e hx=>?_,I.base.tups,I.base.frzs,I.base.tbls⟩,⟨m,Z.sameBut hs (bb (cne x c f)),λj y T e1 l F=>?_⟩,λy S e=>?_,I.free,I.freeC,λp hp=>?_,t ⟨oc,L,I.freeC x c f⟩ hs,by simpa using I.len⟩ ⟨c,hs,.inr f⟩;·exact (hs.2 b (ay (aH (aq e) (I.ok.cab x c G f)))).trans (I.base.keep b o e n J hx)
  ·obtain ⟨sl,e1⟩:=I.base.slot b o e n J hx;exact ⟨sl,(hs.2 b (ay (aH (aq e) (I.ok.cab x c G f)))).trans e1⟩
  ·obtain ⟨o',e1⟩:=I.base.there b o e hx;exact ⟨o',(hs.2 b (ay (aH (aq e) (I.ok.cab x c G f)))).trans e1⟩
  ·by_cases D:j=i;·subst D;rw [hi] at e1; cases e1;rw [aI C] at l;cases l;exact ⟨u,r,.inr ⟨.inl B,c,f,R⟩⟩
   ·rw [aw (bb D)] at l;obtain ⟨U,r',q⟩:=hl j y T e1 l F;refine ⟨U,r',?_⟩;rcases q with q | ⟨k,S,e,z'⟩
    ·exact .inl q
    ·refine .inr ⟨k,S,e,z'.sameBut hs ?_⟩;rintro rfl;exact D (UR hN e1 (I.ok.inj _ _ _ e f ▸ hi))
  ·by_cases P:S=c;·subst P; exact ⟨_,R⟩
   ·obtain ⟨w2,z2⟩:=I.cell y S e;exact ⟨w2,z2.sameBut hs P⟩
  ·obtain ⟨e,n,ne,V,d⟩:=I.pin p hp;refine ⟨(hs.2 p.1 ?_).trans e,n,ne,V,d⟩;intro q;rw [q,L] at e;have q':oc=p.2:=aM.inj e;exact d w' (by rw [<-q']; exact K)
theorem Jr {M:Model} {A:j9} {E:iR->iU->Prop} {Q:Unit->iU->Prop} (I:Inv X pins σ H s) (a:X.N.Nodup) (hi:X.N[i]?=iO x) (hx:Loc X.env.scope x) (r:RelV v u)
  (h:∀ s',Inv X pins (σ.set i (iO v)) H s'->Q () s') (f:X.fn x=iT\/X.env.scope.names.lookup x=iO .local:=by first | exact .inl rfl | exact .inr rfl | assumption):iW M A (storeName X.env x u) Q E s:=
 KJ I a hi hx r (λs' b _=>h s' b) f
theorem Inv.call' (I:Inv X pins σ H s) (l:s'.os=s.os) (u:Un (frs X.stack) ch H H' s.heap s'.heap) (hok:HOk X.prog X.w H' s'.heap) (hg:mO s'.gens)
  (a:∀ b∈ch,(b∈X.ex\/X.s₀.heap.objs.size<=b)/\b≠X.env.locals/\(∀ x c,X.env.cells.lookup x=iO c->c≠b)/\∀ p∈X.pn++pins,p.1≠b):Inv X pins σ H' s':=by
 obtain ⟨h',g',d',t',o'⟩:=s';have e:o'=s.os:=l;subst e;exact I.call (g':=g') (t':=t') (d':=d') u hok hg a
end
abbrev XK:=iR->Option Addr->Hp->Prop
abbrev St:=List (Option V)
abbrev VK:=V->Hp->Prop
abbrev TE:=St->Hp->VK->Prop
abbrev TT:=St->Hp->(Bool->Hp->Prop)->Prop
abbrev TA:=St->Hp->(List V->Hp->Prop)->Prop
structure Ends where
 nx:St->Hp->Prop
 rt:VK
 bk:St->Hp->Prop:=λ_ _=>False
 ct:St->Hp->Prop:=λ_ _=>False
abbrev TS:=Ends->St->Hp->Prop
def EP (X:Cx) (pins:Pns) (σ:St) (Q:VK) (u:iR) (s':iU):Prop:=∃ v H',Inv X pins σ H' s'/\RelV v u/\Q v H'
def TP (X:Cx) (pins:Pns) (σ:St) (Q:Bool->Hp->Prop) (b:Bool) (s':iU):Prop:=∃ H',Inv X pins σ H' s'/\Q b H'
def AP (X:Cx) (pins:Pns) (σ:St) (Q:List V->Hp->Prop) (us:List iR) (s':iU):Prop:=∃ vs H',Inv X pins σ H' s'/\Vals vs us/\Q vs H'
def SP (X:Cx) (pins:Pns) (D:Ends) (f:Flow) (s':iU):Prop:=
 match f with
 | .next=>∃ σ' H',Inv X pins σ' H' s'/\D.nx σ' H'
 | .brk=>∃ σ' H',Inv X pins σ' H' s'/\D.bk σ' H'
 | .cont=>∃ σ' H',Inv X pins σ' H' s'/\D.ct σ' H'
 | .ret u=>∃ v σ' H',Inv X pins σ' H' s'/\RelV v u/\D.rt v H'
structure PE (X:Cx) (e:Expr) (t:TE):Prop where
 run:∀ (pins:Pns) (s:iU) (σ:St) (H:Hp) (Q:VK),Inv X pins σ H s->t σ H Q->iW (model X.prog X.w) X.A (eval e X.env) (EP X pins σ Q) X.xe s
instance {X:Cx} {e:Expr} {t:TE}:CoeFun (PE X e t) (λ_=>∀ (pins:Pns) (s:iU) (σ:St) (H:Hp) (Q:VK),Inv X pins σ H s->t σ H Q->iW (model X.prog X.w) X.A (eval e X.env) (EP X pins σ Q) X.xe s):=⟨λh=>h.run⟩
structure PT (X:Cx) (e:Expr) (t:TT):Prop where
 run:∀ (pins:Pns) (s:iU) (σ:St) (H:Hp) (Q:Bool->Hp->Prop),Inv X pins σ H s->t σ H Q->iW (model X.prog X.w) X.A (isTrue e X.env (eval e X.env)) (TP X pins σ Q) X.xe s
instance {X:Cx} {e:Expr} {t:TT}:CoeFun (PT X e t) (λ_=>∀ (pins:Pns) (s:iU) (σ:St) (H:Hp) (Q:Bool->Hp->Prop),Inv X pins σ H s->t σ H Q->iW (model X.prog X.w) X.A (isTrue e X.env (eval e X.env)) (TP X pins σ Q) X.xe s):=⟨λh=>h.run⟩
structure PW (X:Cx) (e:Expr) (t:TT):Prop where
 run:∀ (whole:Sem iR) (pins:Pns) (s:iU) (σ:St) (H:Hp) (Q:Bool->Hp->Prop),Inv X pins σ H s->t σ H Q->iW (model X.prog X.w) X.A (isTrue e X.env whole) (TP X pins σ Q) X.xe s
instance {X:Cx} {e:Expr} {t:TT}:CoeFun (PW X e t) (λ_=>∀ (whole:Sem iR) (pins:Pns) (s:iU) (σ:St) (H:Hp) (Q:Bool->Hp->Prop),Inv X pins σ H s->t σ H Q->iW (model X.prog X.w) X.A (isTrue e X.env whole) (TP X pins σ Q) X.xe s):=⟨λh=>h.run⟩
variable {e:Expr}
theorem PW.pt {t:TT} (h:PW X e t):PT X e t:=⟨h.run _⟩
structure PA (X:Cx) (es:List Expr) (t:TA):Prop where
 run:∀ (pos:Pos) (pins:Pns) (s:iU) (σ:St) (H:Hp) (Q:List V->Hp->Prop),Inv X pins σ H s->t σ H Q->iW (model X.prog X.w) X.A (spliced (li pos (iX es X.env))) (AP X pins σ Q) X.xe s
instance {X:Cx} {es:List Expr} {t:TA}:CoeFun (PA X es t) (λ_=>∀ (pos:Pos) (pins:Pns) (s:iU) (σ:St) (H:Hp) (Q:List V->Hp->Prop),Inv X pins σ H s->t σ H Q->iW (model X.prog X.w) X.A (spliced (li pos (iX es X.env))) (AP X pins σ Q) X.xe s):=⟨λh=>h.run⟩
structure PS (X:Cx) (st:Stmt) (t:TS):Prop where
 run:∀ (pins:Pns) (s:iU) (σ:St) (H:Hp) (D:Ends),Inv X pins σ H s->t D σ H->iW (model X.prog X.w) X.A (exec st X.env) (SP X pins D) X.xe s
instance {X:Cx} {st:Stmt} {t:TS}:CoeFun (PS X st t) (λ_=>∀ (pins:Pns) (s:iU) (σ:St) (H:Hp) (D:Ends),Inv X pins σ H s->t D σ H->iW (model X.prog X.w) X.A (exec st X.env) (SP X pins D) X.xe s):=⟨λh=>h.run⟩
structure PSs (X:Cx) (st:List Stmt) (t:TS):Prop where
 run:∀ (pins:Pns) (s:iU) (σ:St) (H:Hp) (D:Ends),Inv X pins σ H s->t D σ H->iW (model X.prog X.w) X.A (execs st X.env) (SP X pins D) X.xe s
instance {X:Cx} {st:List Stmt} {t:TS}:CoeFun (PSs X st t) (λ_=>∀ (pins:Pns) (s:iU) (σ:St) (H:Hp) (D:Ends),Inv X pins σ H s->t D σ H->iW (model X.prog X.w) X.A (execs st X.env) (SP X pins D) X.xe s):=⟨λh=>h.run⟩
variable {A:j9} {E:iR->iU->Prop}
theorem thn {t:Sem α} {Q b:α->iU->Prop} {M:Model} (h:iW M A t Q E s) (c:∀ a s,Q a s->b a s):iW M A t b E s:=lB h c λ_ _ x=>x
variable {σ:St} {pos:Pos} {Q:iR->iU->Prop} {ta:TE} {c:Expr}
section
def qj3 (i:Nat):TE:=λσ H Q=>∃ v,σ[i]?=iO (iO v)/\Q v H
def tC (v:V):TE:=λ_ H Q=>Q v H
abbrev Dbg (x:Str):Prop:=(x == ("__debug__":Str))=iS
abbrev Cdk (x:Str):Prop:=(x == ("__classdict__":Str))=iS
theorem wA (j:X.N[i]?=iO x) (f:Vis X.env.scope x) (hd:Dbg x:=by decide) (d:Cdk x:=by decide):PE X (.Name x pos) (qj3 i):=by
 refine ⟨?_⟩;intro pins s σ H Q I h;obtain ⟨v,e,h⟩:=h;obtain ⟨m,n,hl⟩:=I.loc;obtain ⟨u,r,l⟩:=hl i x v j e f;have fin:EP X pins σ Q u s:=⟨v,H,I,r,h⟩
 rcases l with ⟨k,g⟩ | ⟨k,c,b,a⟩
 ·exact wpAny_Name (wpAny_loadName_local I.ok.kind k n g fin) hd
 ·rcases k with k | k;·exact wpAny_Name (wpAny_loadName_cell I.ok.kind k b a fin) hd
  ·exact wpAny_Name (wpAny_loadName_free I.ok.kind k b a fin d) hd
theorem qfW {i j pos}:PE X (.Constant (.int i) j pos) (tC (.int i)):=⟨λ_ _ _ H _ I h=>wpAny_Constant_int ⟨.int i,H,I.tok _,⟨_,rfl⟩,h⟩⟩
theorem qip {b j pos}:PE X (.Constant (.bool b) j pos) (tC (.bl b)):=⟨λ_ _ _ H _ I h=>Constant_bool ⟨.bl b,H,I,rfl,h⟩⟩
theorem qfX {j pos}:PE X (.Constant .none j pos) (tC .non):=⟨λ_ _ _ H _ I h=>Constant_none ⟨.non,H,I,rfl,h⟩⟩
theorem qc7 {x j pos}:PE X (.Constant (.str x) j pos) (tC (.str x)):=⟨λ_ _ _ H _ I h=>fI ⟨.str x,H,I.tok _,⟨_,rfl⟩,h⟩⟩
def Gl (X:Cx) (x:Str):Prop:=X.env.kindOf x=iO .globalImplicit
theorem xh {E:iR->iU->Prop} {pos:Pos} (I:Inv X pins σ H s) (hg:Gl X x) (c:X.mg x=iO u) (h:Q u s)
  (hd:Dbg x:=by decide):iW (model X.prog X.w) X.A (eval (.Name x pos) X.env) Q E s:=
 Calls.Name_function_global I.ok.kind hg (Calls.loadGlobal_global (by rw [I.ok.glob]; exact I.mod.glob.keeps I.bk) c h) hd
theorem yn {E:iR->iU->Prop} {pos:Pos} (I:Inv X pins σ H s) (hg:Gl X x) (m:X.mg x=iQ) (c:iZ x=iO u) (h:Q u s)
  (n:x ≠ "__name__":=by decide) (hd:Dbg x:=by decide):iW (model X.prog X.w) X.A (eval (.Name x pos) X.env) Q E s:=by
 obtain ⟨mb,h1,h2⟩:=I.mod.blt;exact Calls.Name_function_global I.ok.kind hg (Calls.loadGlobal_builtin (by rw [I.ok.glob]; exact I.mod.glob.keeps I.bk) m (by rw [I.ok.blt]; exact h1.keeps I.bk) ((h2 x n).trans c) h) hd
theorem qdN (hg:Gl X x) (c:X.mg x=iO u) (r:RelV v u) (hd:Dbg x:=by decide):PE X (.Name x pos) (tC v):=⟨λ_ _ _ H _ I h=>xh I hg c ⟨v,H,I,r,h⟩ hd⟩
theorem qdO (hg:Gl X x) (m:X.mg x=iQ) (c:iZ x=iO u) (r:RelV v u) (n:x ≠ "__name__":=by decide) (hd:Dbg x:=by decide):PE X (.Name x pos) (tC v):=⟨λ_ _ _ H _ I h=>yn I hg m c ⟨v,H,I,r,h⟩ n hd⟩
variable {a b:Expr} {tb:TE}
variable {tA tB':TT} {rest:List Expr}
def qj4 (t u:TT):TT:=λσ H Q=>t σ H λc H1=>if c=iT then u σ H1 Q else Q iS H1
def tOr (t u:TT):TT:=λσ H Q=>t σ H λc H1=>if c=iT then Q iT H1 else u σ H1 Q
def qj5 (t:TT):TT:=λσ H Q=>t σ H λc H1=>Q (!c) H1
theorem qdP (g:PT X a tA):PW X (.BoolOp .And [a] pos) tA:=by
 refine ⟨?_⟩;intro w pins s σ H Q I h;refine isTrue_and (thn (g pins s σ H Q I h) λc s1 e=>?_);cases c with
 | true=>exact isTrue_and_nil e
 | false=>exact e
theorem qfY (g:PT X a tA):PW X (.BoolOp .Or [a] pos) tA:=by
 refine ⟨?_⟩;intro w pins s σ H Q I h;refine isTrue_or (thn (g pins s σ H Q I h) λc s1 e=>?_);cases c with
 | false=>exact isTrue_or_nil e
 | true=>exact e
theorem qfZ (g:PT X a tA) (e:PW X (.BoolOp .And (b::rest) pos) tB'):PW X (.BoolOp .And (a::b::rest) pos) (qj4 tA tB'):=by
 refine ⟨?_⟩;intro w pins s σ H Q I h;refine isTrue_and (thn (g pins s σ H _ I h) λc s1 ⟨H1,d,q⟩=>?_);cases c with
 | true=>exact e w pins s1 σ H1 Q d q
 | false=>exact ⟨H1,d,q⟩
theorem qiq (g:PT X a tA) (e:PW X (.BoolOp .Or (b::rest) pos) tB'):PW X (.BoolOp .Or (a::b::rest) pos) (tOr tA tB'):=by
 refine ⟨?_⟩;intro w pins s σ H Q I h;refine isTrue_or (thn (g pins s σ H _ I h) λc s1 ⟨H1,d,q⟩=>?_);cases c with
 | true=>exact ⟨H1,d,q⟩
 | false=>exact e w pins s1 σ H1 Q d q
theorem qf0 (g:PT X a tA):PT X (.UnaryOp .Not a pos) (qj5 tA):=by refine ⟨?_⟩;intro pins s σ H Q I h;exact isTrue_not (g pins s σ H (λc H1=>Q (!c) H1) I h)
def qir (ta tb:TE):TE:=λσ H Q=>ta σ H λx H1=>∃ c,x=.bl c/\if c=iT then tb σ H1 Q else Q (.bl iS) H1
def qj6 (ta tb:TE):TE:=λσ H Q=>ta σ H λx H1=>∃ c,x=.bl c/\if c=iT then Q (.bl iT) H1 else tb σ H1 Q
theorem qf1 {op} {t:TE} (h:PE X a t):PE X (.BoolOp op [a] pos) t:=⟨λpins s σ H Q I hw=>BoolOp_one (h pins s σ H Q I hw)⟩
theorem qf2 (g:PE X a ta) (e:PE X (.BoolOp .And (b::rest) pos) tb):PE X (.BoolOp .And (a::b::rest) pos) (qir ta tb):=by
 refine ⟨?_⟩;intro pins s σ H Q I h;refine BoolOp_and (thn (g pins s σ H _ I h) λv s1 ⟨x,H1,d,r1,q⟩=>?_);obtain ⟨c,rfl,q⟩:=q;cases r1;refine lm ?_;cases c with
 | true=>exact e pins s1 σ H1 Q d q
 | false=>exact ⟨.bl iS,H1,d,rfl,q⟩
theorem qis (g:PE X a ta) (e:PE X (.BoolOp .Or (b::rest) pos) tb):PE X (.BoolOp .Or (a::b::rest) pos) (qj6 ta tb):=by
 refine ⟨?_⟩;intro pins s σ H Q I h;refine BoolOp_or (thn (g pins s σ H _ I h) λv s1 ⟨x,H1,d,r1,q⟩=>?_);obtain ⟨c,rfl,q⟩:=q;cases r1;refine lm ?_;cases c with
 | false=>exact e pins s1 σ H1 Q d q
 | true=>exact ⟨.bl iT,H1,d,rfl,q⟩
def tIf (t:TT) (ta tb:TE):TE:=λσ H Q=>t σ H λc H1=>if c=iT then ta σ H1 Q else tb σ H1 Q
theorem qbF (f:PT X c tA) (i:PE X a ta) (g:PE X b tb):PE X (.IfExp c a b pos) (tIf tA ta tb):=by
 refine ⟨?_⟩;intro pins s σ H Q I h;refine wpAny_IfExp (thn (f pins s σ H _ I h) λd s1 ⟨H1,e,q⟩=>?_);cases d with
 | true=>exact i pins s1 σ H1 Q e q
 | false=>exact g pins s1 σ H1 Q e q
end
def SqL (K:Frag) (H:Hp) (a:Addr) (xs:List V):Prop:=
 Rd H a (.lst xs) \/
  ∃ (o:Obj) (its:Array iR) (n:Nat),K.lookup a=iO o/\o.cls=.type "list"/\o.dict=iQ/\o.data=.seq its n/\its.size<=sizeLine/\Vals xs its.toList
def SqT (K:Frag) (H:Hp) (a:Addr) (xs:List V):Prop:=
 Rd H a (.tup xs) \/
  ∃ (o:Obj) (its:Array iR) (n:Nat),K.lookup a=iO o/\(o.cls=.type "tuple"/\o.dict=iQ)/\o.data=.seq its n/\its.size<=sizeLine/\Vals xs its.toList
noncomputable def qj7:iR->Option V
 | .none=>iO .non
 | .bool b=>iO (.bl b)
 | .int i _=>iO (.int i)
 | .str x _=>iO (.str x)
 | .bytes b _=>iO (.byt b)
 | .float b _=>iO (.flt b)
 | .ref a=>iO (.ref a)
 | .type n=>iO (.ty n)
 | _=>iQ
theorem RelV.abs {x:V} (r:RelV x u):qj7 u=iO x:=by
 cases x with
 | non=>cases r; rfl
 | bl _=>cases r; rfl
 | int _=>obtain ⟨t,rfl⟩:=r; rfl
 | str _=>obtain ⟨t,rfl⟩:=r; rfl
 | byt _=>obtain ⟨t,rfl⟩:=r; rfl
 | flt _=>obtain ⟨t,rfl⟩:=r; rfl
 | ref _=>cases r; rfl
 | ty _=>cases r; rfl
variable {y:V}
theorem RelV.inj {x:V} (r:RelV x u) (q:RelV y u):x=y:=aM.inj (r.abs.symm.trans q.abs)
variable {ys:List V}
theorem Vals.inj (h:Vals xs us) (h':Vals ys us):xs=ys:=by
 induction h generalizing ys with
 | nil=>cases h'; rfl
 | cons r t j=>
  cases h' with
  | cons r' t'=>rw [r.inj r',j t']
variable {K:Frag}
section
theorem SqT.of (h:H a=iO (.tup xs)):SqT K H a xs:=.inl (.inl h)
theorem Inv.list (I:Inv X pins σ H s) (h:SqL X.K H a xs):∃ its:List iR,Vals xs its/\PlainL s.heap a its.toArray/\xs.length<=sizeLine:=by
 rcases h with h | ⟨o,its,n,hk,hc,hd,hs,hz,r⟩
 ·obtain ⟨z,its,n,r,e⟩:=h.ok I.hok;exact ⟨its,r,⟨_,n,e,rfl,rfl,rfl⟩,z⟩
 ·refine ⟨its.toList,r,⟨o,n,I.kIn a o hk,hc,hd,by simpa using hs⟩,?_⟩;have e:=r.length;simp only [bV] at e
  lia
theorem Inv.tuple (I:Inv X pins σ H s) (h:SqT X.K H a xs):∃ its:List iR,Vals xs its/\IsTup s.heap a its.toArray/\xs.length<=sizeLine:=by
 rcases h with h | ⟨o,its,n,hk,hc,hs,hz,r⟩
 ·obtain ⟨⟨z,_⟩,its,r,p⟩:=h.ok I.hok;exact ⟨its,r,p,z⟩
 ·refine ⟨its.toList,r,⟨o,I.kIn a o hk,hc.1,n,by simpa using hs⟩,?_⟩;have e:=r.length;simp only [bV] at e
  lia
theorem Inv.tupleN (I:Inv X pins σ H s) (h:SqT X.K H a xs):∃ o,s.heap.get? a=iO o/\o.dict=none:=by
 rcases h with h | ⟨o,its,n,hk,hc,hs,hz,r⟩
 ·obtain ⟨⟨z,w⟩,its,r,p⟩:=h.ok I.hok;exact w
 ·exact ⟨o,I.kIn a o hk,hc.2⟩
theorem Inv.list_inj (I:Inv X pins σ H s) (h:SqL X.K H a xs) (h':SqL X.K H a ys):xs=ys:=by
 obtain ⟨its,r,⟨o,n,e,_,_,d⟩,_⟩:=I.list h;obtain ⟨its',r',⟨o',c,b,_,_,d'⟩,_⟩:=I.list h';rw [e] at b; cases b;rw [d] at d';injection d' with d1 _;have:its=its':=by simpa using congrArg Array.toList d1
 subst this;exact r.inj r'
theorem Inv.tuple_inj (I:Inv X pins σ H s) (h:SqT X.K H a xs) (h':SqT X.K H a ys):xs=ys:=by
 obtain ⟨its,r,⟨o,e,_,n,d⟩,_⟩:=I.tuple h;obtain ⟨its',r',⟨o',b,_,c,d'⟩,_⟩:=I.tuple h';rw [e] at b; cases b;rw [d] at d';injection d' with d1 _;have:its=its':=by simpa using congrArg Array.toList d1
 subst this;exact r.inj r'
end
variable {te:TE} {tc:TT}
section
variable {st:Stmt} {rest:List Stmt} {t u:TS}
def qit:TS:=λD σ H=>D.nx σ H
def qj8 (t u:TS):TS:=λD σ H=>t { D with nx:=u D } σ H
theorem Wz:PSs X [] qit:=⟨λ_ _ σ H _ I h=>mJ ⟨σ,H,I,h⟩⟩
theorem US (h1:PS X st t) (h2:PSs X rest u):PSs X (st::rest) (qj8 t u):=by
 refine ⟨?_⟩;intro pins s σ H D I h;refine wpAny_execs_cons (thn (h1 pins s σ H { D with nx:=u D } I h) λf s1 q=>?_);cases f with
 | next=>obtain ⟨σ',H',b,q⟩:=q;exact h2 pins s1 σ' H' D b q
 | ret v=>exact q
 | brk=>exact q
 | cont=>exact q
theorem ZM (h1:PS X st t):PSs X [st] t:=by
 refine ⟨?_⟩;intro pins s σ H D I h;refine wpAny_execs_cons (thn (h1 pins s σ H D I h) λf s1 q=>?_);cases f with
 | next=>exact mJ q
 | ret v=>exact q
 | brk=>exact q
 | cont=>exact q
theorem Inv.quiet (I:Inv X pins σ H s):interactive X.env=false:=by simp [interactive,I.ok.kind]
def qiu (te:TE):TS:=λD σ H=>te σ H λ_ H1=>D.nx σ H1
theorem qdQ (i:PE X e te) (hs:lK e iQ pos.line X.env=pure false:=by rfl):PS X (.Expr e pos) (qiu te):=by refine ⟨?_⟩;intro pins s σ H D I h;exact wpAny_Expr_any (thn (i pins s σ H _ I h) λv s1 ⟨x,H1,d,r1,q⟩=>⟨σ,H1,d,q⟩) I.quiet hs
def qj9 (te:TE):TS:=λD σ H=>te σ H D.rt
theorem qc8 (i:PE X e te):PS X (.Return (iO e) pos) (qj9 te):=by refine ⟨?_⟩;intro pins s σ H D I h;exact wpAny_Return_some (thn (i pins s σ H _ I h) λv s1 ⟨x,H1,d,r1,q⟩=>⟨x,σ,H1,d,r1,q⟩)
def qka (c:TT) (t u:TS):TS:=λD σ H=>c σ H λb H1=>if b=iT then t D σ H1 else u D σ H1
theorem qiv {a b:List Stmt} (f:PT X c tc) (i:PSs X a t) (g:PSs X b u):PS X (.If c a b pos) (qka tc t u):=by
 refine ⟨?_⟩;intro pins s σ H D I h;refine wpAny_If (thn (f pins s σ H _ I h) λd s1 ⟨H1,e,q⟩=>?_);cases d with
 | true=>exact i pins s1 σ H1 D e q
 | false=>exact g pins s1 σ H1 D e q
end
abbrev TG:=V->St->Hp->(St->Hp->Prop)->Prop
abbrev TGs:=List V->St->Hp->(St->Hp->Prop)->Prop
structure PG (X:Cx) (target:Expr) (t:TG):Prop where
 run:∀ (pins:Pns) (s:iU) (σ:St) (H:Hp) (v:V) (u:iR) (Q:St->Hp->Prop),Inv X pins σ H s->RelV v u->t v σ H Q ->iW (model X.prog X.w) X.A (assign target X.env u) (λ_ s'=>∃ σ' H',Inv X pins σ' H' s'/\Q σ' H') X.xe s
instance {X:Cx} {target:Expr} {t:TG}:CoeFun (PG X target t) (λ_=>∀ (pins:Pns) (s:iU) (σ:St) (H:Hp) (v:V) (u:iR) (Q:St->Hp->Prop),Inv X pins σ H s->RelV v u->t v σ H Q ->iW (model X.prog X.w) X.A (assign target X.env u) (λ_ s'=>∃ σ' H',Inv X pins σ' H' s'/\Q σ' H') X.xe s):=⟨λh=>h.run⟩
structure PGs (X:Cx) (ts:List Expr) (t:TGs):Prop where
 run:∀ (pins:Pns) (s:iU) (σ:St) (H:Hp) (vs:List V) (us:List iR) (Q:St->Hp->Prop),Inv X pins σ H s->Vals vs us->t vs σ H Q ->iW (model X.prog X.w) X.A (assignInOrder ((lS ts X.env).map (·.2)) us) (λ_ s'=>∃ σ' H',Inv X pins σ' H' s'/\Q σ' H') X.xe s
instance {X:Cx} {ts:List Expr} {t:TGs}:CoeFun (PGs X ts t) (λ_=>∀ (pins:Pns) (s:iU) (σ:St) (H:Hp) (vs:List V) (us:List iR) (Q:St->Hp->Prop),Inv X pins σ H s->Vals vs us->t vs σ H Q ->iW (model X.prog X.w) X.A (assignInOrder ((lS ts X.env).map (·.2)) us) (λ_ s'=>∃ σ' H',Inv X pins σ' H' s'/\Q σ' H') X.xe s):=⟨λh=>h.run⟩
variable {es:List Expr} {pos':Pos}
section
def qf3 (i:Nat):TG:=λv σ H Q=>Q (σ.set i (iO v)) H
theorem qdR (a:X.N.Nodup) (hi:X.N[i]?=iO x) (hx:Loc X.env.scope x) (f:X.fn x=iT\/X.env.scope.names.lookup x=iO .local:=by first | exact .inl rfl | exact .inr rfl | assumption):PG X (.Name x pos) (qf3 i):=by refine ⟨?_⟩;intro pins s σ H v u Q I r h;exact wpAny_assign_Name (Jr I a hi hx r (λs' b=>⟨_,H,b,h⟩) f)
def qkb:TGs:=λvs σ H Q=>vs=[]/\Q σ H
def qiw (t:TG) (u:TGs):TGs:=λvs σ H Q=>∃ v r,vs=v::r/\t v σ H λσ' H'=>u r σ' H' Q
theorem qdS:PGs X [] qkb:=by refine ⟨?_⟩;intro pins s σ H vs us Q I r h;obtain ⟨e,h⟩:=h;subst e;cases r;exact assignInOrder_nil ⟨σ,H,I,h⟩
theorem qbG {t:TG} {u:TGs} (h1:PG X e t) (h2:PGs X es u)
  (hs:(lS (e::es) X.env).map (·.2)=assign e X.env::(lS es X.env).map (·.2):=by rfl):PGs X (e::es) (qiw t u):=by
 refine ⟨?_⟩;intro pins s σ H vs us Q I r h;obtain ⟨v,vr,e1,h⟩:=h;subst e1;cases r with
 | cons r a=>rw [hs];refine assignInOrder_cons (thn (h1 pins s σ H _ _ _ I r h) λ_ s1 ⟨σ1,H1,d,q⟩=>?_);exact h2 pins s1 σ1 H1 _ _ Q d a q
def qkc (K:Frag) (n:Nat) (t:TGs):TG:=λv σ H Q=>∃ a xs,v=.ref a/\SqT K H a xs/\xs.length=n/\t xs σ H Q
theorem qf4 {k:Nat} {t:TGs} {n:Nat} (g:X.calm=iT) (h:PGs X es t)
  (f:(lS es X.env).length=n:=by rfl) (c:(lS es X.env).findIdx? (·.1)=none:=by rfl):PG X (.Tuple es k pos) (qkc X.K n t):=by
 refine ⟨?_⟩;intro pins s σ H v u Q I r hw;obtain ⟨a,xs,e1,hq,hl,hw⟩:=hw;subst e1;cases r;obtain ⟨its,d,ht,hz⟩:=I.tuple hq;refine assign_Tuple_tuple (I.ok.hd g) ht (by simp [f,<-hl,d.length]) c λh' hx=>?_;have i:Inv X pins σ H { s with heap:=h' }:=I.kept (t':=s.toks) λb o e=>hx b o (ay (aq e)) e;exact h pins _ σ H xs _ Q i (by simpa using d) hw
def qkd (te:TE) (g:TG):TS:=λD σ H=>te σ H λx H1=>g x σ H1 D.nx
theorem qc9 (b:X.N.Nodup) (hi:X.N[i]?=iO x) (hx:Loc X.env.scope x) (a:PE X e te) (hs:lK e (iO (.Name x pos')) pos.line X.env=pure false:=by rfl) (f:X.fn x=iT\/X.env.scope.names.lookup x=iO .local:=by first | exact .inl rfl | exact .inr rfl | assumption):PS X (.Assign [.Name x pos'] e pos) (qkd te (qf3 i)):=by refine ⟨?_⟩;intro pins s σ H D I h;refine wpAny_Assign_Name (thn (a pins s σ H _ I h) λv s1 ⟨y,H1,d,r1,q⟩=>?_) hs;exact Jr d b hi hx r1 (λs2 c=>⟨_,H1,c,q⟩) f
end
variable {tb:TS} {body:List Stmt}
section
def qf5 (c:TT) (tb:TS):TS:=λD σ H=>∃ W:Nat->St->Hp->Prop,(∃ m,W m σ H)/\∀ m σ H,W m σ H ->c σ H λb H1=>if b=iT then ∃ N:St->Hp->Prop,(∀ σ' H',N σ' H'->∃ f,f < m/\W f σ' H')/\tb { D with nx:=N,ct:=N,bk:=D.nx } σ H1 else D.nx σ H1
theorem qbH (hp:PassesOwn (model X.prog X.w) X.A X.env X.xe) (u:PT X c tc) (x:PSs X body tb):PS X (.While c body [] pos) (qf5 tc tb):=by
 refine ⟨?_⟩;intro pins s σ H D I h;obtain ⟨W,⟨m0,r⟩,t⟩:=h;refine wpAny_While (codeAny_whileLoop (λn s'=>∃ σ' H',Inv X pins σ' H' s'/\W n σ' H') ?_ m0 ⟨σ,H,I,r⟩);rintro n s1 ⟨σ1,H1,y,p⟩;refine lL hp (thn (u pins s1 σ1 H1 _ y (t n σ1 H1 p)) λb s2 ⟨H2,o,e⟩=>?_);cases b with
 | true=>
  obtain ⟨N,l,e⟩:=e;rw [Aa rfl];refine lL hp (thn (x pins s2 σ1 H2 _ o e) λf s3 q=>?_);cases f with
  | next=>obtain ⟨a,d,k,i⟩:=q;obtain ⟨m,j,g⟩:=l a d i;exact ⟨m,j,a,d,k,g⟩
  | cont=>obtain ⟨a,d,k,i⟩:=q;obtain ⟨m,j,g⟩:=l a d i;exact ⟨m,j,a,d,k,g⟩
  | brk=>exact q
  | ret v=>exact q
 | false=>rw [Ab bD];exact mJ ⟨σ1,H2,o,e⟩
end
structure It where
 go:Nat->Hp->Prop
 yld:Nat->Hp->V->Hp->Prop
 stop:Nat->Hp->Prop
def Wu (X:Cx) (pins:Pns) (H:Hp) (b:Addr):Prop:=
 H b=iQ/\b≠X.env.locals/\b∉X.fs/\(b∈X.ex\/X.s₀.heap.objs.size<=b)/\(∀ x c,X.env.cells.lookup x=iO c->c≠b)/\∀ p∈X.pn++pins,p.1≠b
theorem Inv.fpOk (I:Inv X pins σ H s) (d:s.heap.objs.size<=b) (n:H' b=iQ):Wu X pins H' b:=by
 refine ⟨n,cw (aH I.lt d),I.nofs d,.inr (bu I.sz d),λx c e z=>?_,λp hp z=>?_⟩;·obtain ⟨v,q⟩:=I.cell x c e;exact absurd (aH q.lt (by rw [z]; exact d)) (bM _)
 ·exact absurd (aH (aq (I.pin p hp).1) (by rw [z]; exact d)) (bM _)
structure Turn (P:i7) (w:i8) (K:Frag) (tg:Expr) (J:It) (fp:List Addr) (it:Addr) (tn:Nat->Heap->Prop):Prop where
 mem:it∈fp
 obj:∀ i h,tn i h->∀ b∈fp,∃ o,h.get? b=iO o/\∀ v,o.data≠.cell v
 keep:∀ i h h',tn i h->(∀ b∈fp,∀ o,h.get? b=iO o->h'.get? b=iO o)->tn i h'
 item:∀ (X:Cx),X.prog=P->X.w=w->X.K=K->X.calm=iT->∀ (i:Nat) (pins:Pns) (s:iU) (σ:St) (H:Hp) (E:iR->iU->Prop),Inv X pins σ H s->(∀ b∈fp,Wu X pins H b)->tn i s.heap->J.go i H ->iW (model P w) X.A (lz (.ref it)) (λr s1=>∃ u,r=iO u /\
   iW (model P w) X.A (mK tg (.ref it) u) (λ_ s2=>∃ x H',Inv X pins σ H' s2/\RelV x u/\J.yld i H x H'/\tn (i+1) s2.heap/\∀ b∈fp,H' b=iQ) E s1) E s
 done:∀ (X:Cx),X.prog=P->X.w=w->X.K=K->X.calm=iT->∀ (i:Nat) (pins:Pns) (s:iU) (σ:St) (H:Hp) (E:iR->iU->Prop),Inv X pins σ H s->(∀ b∈fp,Wu X pins H b)->tn i s.heap->J.stop i H ->iW (model P w) X.A (lz (.ref it)) (λr s1=>r=iQ/\Inv X pins σ H s1) E s
 self:∀ (A:j9) (i:Nat) (s:iU) (Q:iR->iU->Prop) (E:iR->iU->Prop),tn i s.heap->Q (.ref it) s->iW (model P w) A (nD (.ref it)) Q E s
abbrev TI:=St->Hp->(It->Hp->Prop)->Prop
def PIE (X:Cx) (pins:Pns) (σ:St) (tg:Expr) (R:It->Hp->Prop) (i:iR) (s2:iU):Prop:=
 ∃ (it:Addr) (fp:List Addr) (tn:Nat->Heap->Prop) (J:It) (H':Hp),i=.ref it/\Inv X pins σ H' s2/\Turn X.prog X.w X.K tg J fp it tn/\tn 0 s2.heap/\(∀ b∈fp,Wu X pins H' b)/\R J H'
structure PI (X:Cx) (tg iter:Expr) (wi:TI):Prop where
 run:∀ (pins:Pns) (s:iU) (σ:St) (H:Hp) (R:It->Hp->Prop),Inv X pins σ H s->wi σ H R ->iW (model X.prog X.w) X.A (eval iter X.env) (λv s1=>iW (model X.prog X.w) X.A (nD v) (PIE X pins σ tg R) X.xe s1) X.xe s
instance {X:Cx} {tg iter:Expr} {wi:TI}:CoeFun (PI X tg iter wi) (λ_=>∀ (pins:Pns) (s:iU) (σ:St) (H:Hp) (R:It->Hp->Prop),Inv X pins σ H s->wi σ H R ->iW (model X.prog X.w) X.A (eval iter X.env) (λv s1=>iW (model X.prog X.w) X.A (nD v) (PIE X pins σ tg R) X.xe s1) X.xe s):=⟨λh=>h.run⟩
theorem qbI {M:Model} {A:j9} {E:iR->iU->Prop} {tg:Expr} {u:iR} {o:Obj} {n:String} {vs:Array iR} {Q:Unit->iU->Prop} (l:s.heap.get? it=iO o) (d:o.cls=.type n) (hd:o.data=.fields vs)
    (a:["enumerate", "zip", "dict_itemiterator", "dict_reverseitemiterator", "odict_iterator", "itertools.zip_longest", "itertools.pairwise"].contains n=iS) (c:Q () s):iW M A (mK tg (.ref it) u) Q E s:=by
  unfold mK;cases tg <;> first
    | exact iV c
    | (cases u <;> first
        | exact iV c
        | (refine iP (wpAny_load l ?_)
           rw [d,hd];show iW M A (if (["enumerate", "zip", "dict_itemiterator", "dict_reverseitemiterator", "odict_iterator", "itertools.zip_longest", "itertools.pairwise"].contains n&&vs[0]? == iO (lb _))=iT then _ else _) Q E s;rw [Ab (by intro h; rw [a,Bool.false_and] at h; cases h)];exact iV c))
noncomputable def Itl (K:Frag) (a:Addr):It:=
 ⟨λi H=>∃ xs x,SqL K H a xs/\xs[i]?=iO x,λi H x H'=>H'=H/\∀ xs,SqL K H a xs->xs[i]?=iO x,λi H=>∃ xs,SqL K H a xs/\xs.length<=i⟩
noncomputable def Itt (K:Frag) (a:Addr):It:=
 ⟨λi H=>∃ xs x,SqT K H a xs/\xs[i]?=iO x,λi H x H'=>H'=H/\∀ xs,SqT K H a xs->xs[i]?=iO x,λi H=>∃ xs,SqT K H a xs/\xs.length<=i⟩
noncomputable def Itr (lo:Int) (n:Nat):It:=⟨λi _=>i < n,λi H x H'=>H'=H/\x=.int (lo+i),λi _=>n<=i⟩
variable {tg:Expr}
theorem ZN (a it:Addr):Turn P w K tg (Itl K a) [it] it (λi h=>h.IsListIter it a i) where
 mem:=by simp
 obj:=λi h st b f=>by
  have e:b=it:=by simpa using f
  subst e;obtain ⟨o,e,c,d⟩:=st;exact ⟨o,e,λv z=>by rw [d] at z; cases z⟩
 keep:=λi h h' st k=>st.at λo e=>k it (by simp) o e
 item:=by intro X l hw m t i pins s σ H E I j st hg;subst l hw m;obtain ⟨xs,x,hq,hx⟩:=hg;obtain ⟨its,r,p,hz⟩:=I.list hq;obtain ⟨u,C,A⟩:=r.get hx;obtain ⟨f0,f1,f2,q,f4,n⟩:=j it (by simp);refine wpAny_pyNext_list_item st p.isList (x:=u) (by simpa using C) λh' g y=>?_;have D:Inv X pins σ H { s with heap:=h' }:=I.turned (t':=s.toks) (λb o f e=>(y.2 b f).trans e) f0 f1 q f4 n;obtain ⟨o,e,c,d⟩:=id g;exact ⟨u,rfl,qbI (s:={ s with heap:=h' }) e c d (by decide) ⟨x,H,D,A,⟨rfl,λys B=>by rw [I.list_inj B hq]; exact hx⟩,g,λb f=>(j b f).1⟩⟩
 done:=by intro X l hw m t i pins s σ H E I j st hg;subst l hw m;obtain ⟨xs,hq,hx⟩:=hg;obtain ⟨its,r,p,hz⟩:=I.list hq;obtain ⟨f0,f1,f2,q,f4,n⟩:=j it (by simp);have hl:=r.length;exact wpAny_pyNext_list_end (I.ok.hd t) st p.isList (by simp; lia) λh' eb=>⟨rfl,I.turned (t':=s.toks) (λb o f e=>eb b o f e) f0 f1 q f4 n⟩
 self:=λ_ _ _ _ _ st h=>wpAny_pyIter_listiter st h
theorem Xz (a it:Addr):Turn P w K tg (Itt K a) [it] it (λi h=>h.IsTupleIter it a i) where
 mem:=by simp
 obj:=λi h st b f=>by
  have e:b=it:=by simpa using f
  subst e;obtain ⟨o,e,c,d⟩:=st;exact ⟨o,e,λv z=>by rw [d] at z; cases z⟩
 keep:=λi h h' st k=>st.at λo e=>k it (by simp) o e
 item:=by intro X l hw m t i pins s σ H E I j st hg;subst l hw m;obtain ⟨xs,x,hq,hx⟩:=hg;obtain ⟨its,r,p,hz⟩:=I.tuple hq;obtain ⟨u,C,A⟩:=r.get hx;obtain ⟨f0,f1,f2,q,f4,n⟩:=j it (by simp);refine wpAny_pyNext_tuple_item st (show s.heap.IsTuple a its.toArray from p) (x:=u) (by simpa using C) λh' g y=>?_;have D:Inv X pins σ H { s with heap:=h' }:=I.turned (t':=s.toks) (λb o f e=>(y.2 b f).trans e) f0 f1 q f4 n;obtain ⟨o,e,c,d⟩:=id g;exact ⟨u,rfl,qbI (s:={ s with heap:=h' }) e c d (by decide) ⟨x,H,D,A,⟨rfl,λys B=>by rw [I.tuple_inj B hq]; exact hx⟩,g,λb f=>(j b f).1⟩⟩
 done:=by intro X l hw m t i pins s σ H E I j st hg;subst l hw m;obtain ⟨xs,hq,hx⟩:=hg;obtain ⟨its,r,p,hz⟩:=I.tuple hq;obtain ⟨f0,f1,f2,q,f4,n⟩:=j it (by simp);have hl:=r.length;exact wpAny_pyNext_tuple_end (I.ok.hd t) st (show s.heap.IsTuple a its.toArray from p) (by simp; lia) λh' eb=>⟨rfl,I.turned (t':=s.toks) (λb o f e=>eb b o f e) f0 f1 q f4 n⟩
 self:=λ_ _ _ _ _ st h=>wpAny_pyIter_tupleiter st h
theorem XA (it:Addr) (lo:Int) (n:Nat):Turn P w K tg (Itr lo n) [it] it (λi h=>IsRangeIter h it (lo+(i:Nat) * 1) ((n:Int) - (i:Nat)) 1) where
 mem:=by simp
 obj:=λi h st b d=>by
  have e:b=it:=by simpa using d
  subst e;exact ⟨_,st,λv z=>by have j:Data.fields _=Data.cell v:=z;cases j⟩
 keep:=λi h h' st k=>k it (by simp) _ st
 item:=by intro X l hw m c i pins s σ H E I f st hg;subst l hw m;obtain ⟨f0,f1,f2,q,f4,a⟩:=f it (by simp);have W:=Walks.range (prog:=X.prog) (w:=X.w) (I.ok.hd c) it lo 1 n;refine W.item i s _ _ hg st λv h' tk r g p=>?_;obtain ⟨t,rfl⟩:=r;have u:Inv X pins σ H { s with heap:=h',toks:=tk }:=I.turned (λb o d e=>p b o (by simpa using d) e) f0 f1 q f4 a;refine ⟨_,rfl,qbI (s:={ s with heap:=h',toks:=tk }) (n := "range_iterator") g rfl rfl (by decide) ⟨.int (lo+i),H,u,⟨t,?_⟩,⟨rfl,rfl⟩,g,λb d=>(f b d).1⟩⟩;rw [Int.mul_one]
 done:=by intro X l hw m c i pins s σ H E I f st hg;subst l hw m;obtain ⟨f0,f1,f2,q,f4,a⟩:=f it (by simp);exact wpAny_pyNext_range_end (I.ok.hd c) st (by have:n<=i:=hg; lia) λh' eb=>⟨rfl,I.turned (t':=s.toks) (λb o d e=>eb b o d e) f0 f1 q f4 a⟩
 self:=λ_ _ _ _ _ st h=>wpAny_pyIter_rangeiter st h
variable {p:Pos} {fp:List Addr}
section
theorem UT {R:It->Hp->Prop} {E:iR->iU->Prop} {lo hi:Int} {t u v:Tok} {tk:Nat} (I:Inv X pins σ H s) (h1:-(2 ^ 62)<=lo) (h2:lo < 2 ^ 62) (h3:-(2 ^ 62)<=hi) (a:hi < 2 ^ 62)
  (q:R (Itr lo (hi - lo).toNat) H):iW (model X.prog X.w) X.A (nD (.ref s.heap.objs.size)) (PIE X pins σ tg R) E { s with heap:=s.heap.push { cls:=.type "range",data:=.fields #[.int lo t,.int hi u,.int 1 v] },toks:=tk }:=by
 refine wpAny_pyIter_range (IsRange.new ..) (small_one h1 h2 h3 a) ?_;have d:Inv X pins σ H { s with heap:=s.heap.push { cls:=.type "range",data:=.fields #[.int lo t,.int hi u,.int 1 v] },toks:=tk }:=I.kept λb o e=>ac _ e;refine ⟨(s.heap.push { cls:=.type "range",data:=.fields #[.int lo t,.int hi u,.int 1 v] }).objs.size,[(s.heap.push { cls:=.type "range",data:=.fields #[.int lo t,.int hi u,.int 1 v] }).objs.size],_,_,H,rfl,d.kept (t':=tk) λb o e=>ac _ e,XA _ lo (hi - lo).toNat,?_,λb h=>?_,q⟩
 ·have e1:lo+((0:Nat):Int) * 1=lo:=by simp
  have i:(((hi - lo).toNat:Nat):Int) - ((0:Nat):Int)=Builtin.Range.rangeSize lo hi 1:=by rw [rangeSize_one]; split <;> lia
  show IsRangeIter _ _ (lo+((0:Nat):Int) * 1) ((((hi - lo).toNat:Nat):Int) - ((0:Nat):Int)) 1;rw [e1,i];exact ah _ rfl
 ·have e:b=(s.heap.push { cls:=.type "range",data:=.fields #[.int lo t,.int hi u,.int 1 v] }).objs.size:=by simpa using h
  subst e;exact d.fpOk (ap _) (d.hok.fresh (ap _))
def qix (ta:TA):TI:=λσ H R=>ta σ H λvs H1=>∃ j:Int,vs=[.int j]/\-(2 ^ 62)<=j/\j < 2 ^ 62/\R (Itr 0 j.toNat) H1
def qiy (ta:TA):TI:=λσ H R=>ta σ H λvs H1=>∃ i j:Int,vs=[.int i,.int j]/\(-(2 ^ 62)<=i/\i < 2 ^ 62/\-(2 ^ 62)<=j/\j < 2 ^ 62)/\R (Itr i (j - i).toNat) H1
theorem ZO {a:Expr} {ta:TA} (hg:Gl X "range") (m:X.mg "range"=iQ) (g:PA X [a] ta) (hs:iX [a] X.env=[(iS,eval a X.env)]:=by rfl):PI X tg (.Call (.Name "range" p) [a] [] pos) (qix ta):=by
 refine ⟨?_⟩;intro pins s σ H R I h;refine Call_ (yn I hg m boot_range (bA (thn (g pos pins s σ H _ I h) λus s1 ⟨vs,H1,f,r1,b⟩=>?_) hs rfl));obtain ⟨j,e,b,d,q⟩:=b;subst e;cases r1 with
 | cons r c=>cases c;obtain ⟨t,rfl⟩:=r;exact call_range_1 (UT f (by lia) (by lia) b d (by simpa using q))
theorem ZP {a b:Expr} {ta:TA} {p pos:Pos} (hg:Gl X "range") (m:X.mg "range"=iQ) (n:PA X [a,b] ta) (hs:iX [a,b] X.env=[(iS,eval a X.env),(iS,eval b X.env)]:=by rfl) (c:iX [b] X.env=[(iS,eval b X.env)]:=by rfl):PI X tg (.Call (.Name "range" p) [a,b] [] pos) (qiy ta):=by
 refine ⟨?_⟩;intro pins s σ H R I h;refine Call_ (yn I hg m boot_range (bA (thn (n pos pins s σ H _ I h) λus s1 ⟨vs,H1,o,r1,f⟩=>?_) (by rw [hs,c]) (by rw [c]; rfl)));obtain ⟨i,j,e,⟨f,l,k,g⟩,q⟩:=f;subst e;cases r1 with
 | cons r d=>
  cases d with
  | cons r' d=>cases d;obtain ⟨t,rfl⟩:=r;obtain ⟨t',rfl⟩:=r';exact call_range_2 (UT o f l k g q)
def qke (wi:TI) (g:TG) (tb:TS):TS:=λD σ H=>wi σ H λJ H1=>∃ W:Nat->Nat->St->Hp->Prop,(∃ m,W 0 m σ H1)/\∀ i m σ H,W i m σ H ->(J.stop i H/\D.nx σ H)\/(J.go i H/\∃ N:St->Hp->Prop,(∀ σ' H',N σ' H'->∃ f,f < m/\W (i+1) f σ' H')/\∀ x H',J.yld i H x H'->g x σ H' λa H2=>tb { D with nx:=N,ct:=N,bk:=D.nx } a H2)
noncomputable def KK (fp:List Addr) (h:Heap):Pns:=fp.filterMap λb=>(h.get? b).map λo=>(b,o)
theorem uf {o:Obj} (d:b∈fp) (e:h.get? b=iO o):(b,o)∈KK fp h:=fJ.mpr ⟨b,d,by rw [e]; rfl⟩
theorem ZQ {p:Addr×Obj} (hp:p∈KK fp h):p.1∈fp/\h.get? p.1=iO p.2:=by
 obtain ⟨b,d,e⟩:=fJ.mp hp;cases q:h.get? b with
 | none=>rw [q] at e; cases e
 | some o=>rw [q] at e;have a:(b,o)=p:=aM.inj e;subst a;exact ⟨d,q⟩
theorem Inv.pinned (I:Inv X pins σ H s) (f:∀ b∈fp,Wu X pins H b) (l:∀ b∈fp,∃ o,s.heap.get? b=iO o/\∀ v,o.data≠.cell v):Inv X (pins++KK fp s.heap) σ H s:=
 I.pins_of λp hp=>(aG.mp hp).elim (λz=>I.pin p (aU _ z)) λz=>by obtain ⟨h,e⟩:=ZQ z;obtain ⟨f0,f1,f2,_⟩:=f p.1 h;obtain ⟨o,a,d⟩:=l p.1 h;rw [e] at a; cases a;exact ⟨e,f0,f1,f2,d⟩
theorem Inv.unpinned {pl:Pns} (I:Inv X (pins++pl) σ H s):Inv X pins σ H s:=I.pins_of λp hp=>I.pin p (aU _ (ci _ hp))
theorem qf6 {iter:Expr} {wi:TI} {g:TG} {pos:Pos} (hp:PassesOwn (model X.prog X.w) X.A X.env X.xe) (R:X.calm=iT) (hi:PI X tg iter wi) (hg:PG X tg g) (j:PSs X body tb)
  (hs:∀ x,lN iter X.env x=pure x:=by intro _; rfl):PS X (.For tg iter body [] pos) (qke wi g tb):=by
 refine ⟨?_⟩;intro pins s σ H D I h;refine wpAny_For (thn (hi pins s σ H _ I h) λv s1 h1=>thn h1 λitv s2 h2=>?_) hs;obtain ⟨it,fp,tn,J,H2,e,I2,T,L,f2,W,⟨m0,w0⟩,z⟩:=h2;subst e;have t:∀ {H':Hp},(∀ b∈fp,H' b=iQ)->∀ b∈fp,Wu X pins H' b:=λhn b j=>⟨hn b j,(f2 b j).2⟩
 refine codeAny_forLoop_any (λn s'=>∃ i σ' H',Inv X pins σ' H' s'/\tn i s'.heap/\(∀ b∈fp,H' b=iQ)/\W i n σ' H') ?_ m0 ⟨0,σ,H2,I2,L,λb j=>(f2 b j).1,w0⟩;rintro n s3 ⟨i,c,G,S,B,E,F⟩;rcases z i n c G F with ⟨stop,qn⟩ | ⟨go,N,hN,step⟩
 ·refine lL hp (thn (T.done X rfl rfl rfl R i pins s3 c G X.xe S (t E) B stop) λr s4 ⟨O,I4⟩=>?_);subst O;exact mJ ⟨c,G,I4,qn⟩
 ·refine lL hp (thn (T.item X rfl rfl rfl R i pins s3 c G X.xe S (t E) B go) λr s4 ⟨u,O,h4⟩=>?_);subst O;refine lL hp (thn h4 λ_ s5 ⟨x,U,I5,r5,V,y,P⟩=>?_);have Q:=I5.pinned (t P) (T.obj _ _ y);refine lL hp (thn (hg _ s5 c U x u _ Q r5 (step x U V)) λ_ s6 ⟨K,H6,I6,q6⟩=>?_);refine lL hp (thn (j _ s6 K H6 _ I6 q6) λf M q=>?_);have k:∀ {a:St} {p:Hp},Inv X (pins++KK fp s5.heap) a p M->N a p->∃ m,m < n/\∃ i σ' H',Inv X pins σ' H' M/\tn i M.heap/\(∀ b∈fp,H' b=iQ)/\W i m σ' H':=λ{a p} l C=>by obtain ⟨m',hm,Z⟩:=hN a p C;refine ⟨m',hm,i+1,a,p,l.unpinned,T.keep _ _ _ y λb j o e=>(l.pin (b,o) (aU _ (aU _ (uf j e)))).1,λb j=>?_,Z⟩;obtain ⟨o,e,d⟩:=T.obj _ _ y b j;exact (l.pin (b,o) (aU _ (aU _ (uf j e)))).2.1
  cases f with
  | next=>obtain ⟨a,p,l,C⟩:=q; exact k l C
  | cont=>obtain ⟨a,p,l,C⟩:=q; exact k l C
  | brk=>obtain ⟨a,p,l,q⟩:=q; exact ⟨a,p,l.unpinned,q⟩
  | ret v=>obtain ⟨Y,a,p,l,r7,q⟩:=q; exact ⟨Y,a,p,l.unpinned,r7,q⟩
end
abbrev R2:=V->V->Hp->VK->Prop
def OpR (X:Cx) (f:iR->iR->Sem iR) (r:R2):Prop:=
 ∀ (pins:Pns) (s:iU) (σ:St) (H:Hp) (x y:V) (v u:iR) (Q:VK),Inv X pins σ H s->RelV x v->RelV y u->r x y H Q ->iW (model X.prog X.w) X.A (f v u) (EP X pins σ Q) X.xe s
def UnR (X:Cx) (f:iR->Sem iR) (r:V->Hp->VK->Prop):Prop:=
 ∀ (pins:Pns) (s:iU) (σ:St) (H:Hp) (x:V) (v:iR) (Q:VK),Inv X pins σ H s->RelV x v->r x H Q ->iW (model X.prog X.w) X.A (f v) (EP X pins σ Q) X.xe s
def wB (X:Cx) (f:iR) (r:List V->Hp->VK->Prop):Prop:=
 ∀ (pins:Pns) (s:iU) (σ:St) (H:Hp) (xs:List V) (us:List iR) (Q:VK),Inv X pins σ H s->Vals xs us->r xs H Q ->iW (model X.prog X.w) X.A (call f us) (EP X pins σ Q) X.xe s
def qkf (X:Cx) (r:V->Hp->(Bool->Hp->Prop)->Prop):Prop:=
 ∀ (pins:Pns) (s:iU) (σ:St) (H:Hp) (x:V) (v:iR) (Q:Bool->Hp->Prop),Inv X pins σ H s->RelV x v->r x H Q ->iW (model X.prog X.w) X.A (truthy v) (TP X pins σ Q) X.xe s
def tOp (r:R2) (ta tb:TE):TE:=λσ H Q=>ta σ H λx H1=>tb σ H1 λy H2=>r x y H2 Q
def tUn (r:V->Hp->VK->Prop) (ta:TE):TE:=λσ H Q=>ta σ H λx H1=>r x H1 Q
def rI (C:Int->Int->Prop) (g:Int->Int->V):R2:=λx y H Q=>∃ i j,x=.int i/\y=.int j/\C i j/\Q (g i j) H
def rI0 (g:Int->Int->V):R2:=λx y H Q=>∃ i j,x=.int i/\y=.int j/\Q (g i j) H
def rU (g:Int->V):V->Hp->VK->Prop:=λx H Q=>∃ i,x=.int i/\Q (g i) H
variable {r:R2}
section
variable {a b:Expr} {tb tc:TE}
theorem qiz (j:PE X a ta) (i:PE X b tb) {R:V->V->Hp->Prop} (I:Inv X pins σ H s)
  (h:ta σ H λx H1=>tb σ H1 λy H2=>R x y H2) {Q:iR->iU->Prop} {f:iR->iR->Sem iR}
  (g:∀ v u s2 x y H2,Inv X pins σ H2 s2->RelV x v->RelV y u->R x y H2->iW (model X.prog X.w) X.A (f v u) Q X.xe s2) :
  iW (model X.prog X.w) X.A (eval a X.env) (λv d=>iW (model X.prog X.w) X.A (eval b X.env) (λu c=>iW (model X.prog X.w) X.A (f v u) Q X.xe c) X.xe d) X.xe s:=by
 refine thn (j pins s σ H _ I h) λv s1 ⟨x,H1,l,r1,q⟩=>?_;refine thn (i pins s1 σ H1 _ l q) λu s2 ⟨y,H2,k,r2,e⟩=>?_;exact g v u s2 x y H2 k r1 r2 e
theorem qiA {op:Operator} (l:OpR X (lD op) r) (g:PE X a ta) (e:PE X b tb):PE X (.BinOp a op b pos) (tOp r ta tb):=by refine ⟨?_⟩;intro pins s σ H Q I h;exact wpAny_BinOp (qiz g e I h λv u s2 x y H2 f d c q=>l pins s2 σ H2 x y v u Q f d c q)
theorem qiB {op:UnaryOp} {r:V->Hp->VK->Prop} (l:UnR X (unaryOp op) r) (g:PE X a ta):PE X (.UnaryOp op a pos) (tUn r ta):=by refine ⟨?_⟩;intro pins s σ H Q I h;exact UnaryOp_ (thn (g pins s σ H _ I h) λv s1 ⟨x,H1,d,r1,q⟩=>l pins s1 σ H1 x v Q d r1 q)
theorem opI {f:iR->iR->Sem iR} {C:Int->Int->Prop} {g:Int->Int->Int}
  (r:∀ (i j:Int) (t u:Tok) (s:iU) (Q:iR->iU->Prop) (E:iR->iU->Prop),C i j->Q (.int (g i j) s.toks) { s with toks:=s.toks+1 }->iW (model X.prog X.w) X.A (f (.int i t) (.int j u)) Q E s) :
  OpR X f (rI C λi j=>.int (g i j)):=by
 intro pins s σ H x y v u Q I d c h;obtain ⟨i,j,rfl,rfl,a,q⟩:=h;obtain ⟨t,rfl⟩:=d;obtain ⟨t',rfl⟩:=c;exact r i j t t' s _ _ a ⟨.int (g i j),H,I.tok _,⟨_,rfl⟩,q⟩
theorem qjE {f:iR->iR->Sem iR} {g:Int->Int->Int}
  (r:∀ (i j:Int) (t u:Tok) (s:iU) (Q:iR->iU->Prop) (E:iR->iU->Prop),Q (.int (g i j) s.toks) { s with toks:=s.toks+1 }->iW (model X.prog X.w) X.A (f (.int i t) (.int j u)) Q E s) :
  OpR X f (rI0 λi j=>.int (g i j)):=by
 intro pins s σ H x y v u Q I d c h;obtain ⟨i,j,rfl,rfl,q⟩:=h;obtain ⟨t,rfl⟩:=d;obtain ⟨t',rfl⟩:=c;exact r i j t t' s _ _ ⟨.int (g i j),H,I.tok _,⟨_,rfl⟩,q⟩
theorem qiC {f:iR->iR->Sem iR} {g:Int->Int->Bool}
  (r:∀ (i j:Int) (t u:Tok) (s:iU) (Q:iR->iU->Prop) (E:iR->iU->Prop),Q (.bool (g i j)) s->iW (model X.prog X.w) X.A (f (.int i t) (.int j u)) Q E s) :
  OpR X f (rI0 λi j=>.bl (g i j)):=by
 intro pins s σ H x y v u Q I d c h;obtain ⟨i,j,rfl,rfl,q⟩:=h;obtain ⟨t,rfl⟩:=d;obtain ⟨t',rfl⟩:=c;exact r i j t t' s _ _ ⟨.bl (g i j),H,I,rfl,q⟩
def qkg (i j:Int):Prop:=0 < j/\j < 1073741824
def CMul (i j:Int):Prop:=(-(2 ^ 64) < i/\i < 2 ^ 64)\/(-(2 ^ 64) < j/\j < 2 ^ 64)
theorem CMul.ok {i j:Int} (h:CMul i j):IntMulOk i j:=by
 rcases h with ⟨h1,h2⟩ | ⟨h1,h2⟩
 ·exact .of_left (intBits_le_64 h1 h2)
 ·exact .of_right (intBits_le_64 h1 h2)
theorem qf7:OpR X (lD .Add) (rI0 λi j=>.int (i+j)):=qjE λ_ _ _ _ _ _ _ q=>add_int q
theorem qf8:OpR X (lD .Sub) (rI0 λi j=>.int (i - j)):=qjE λ_ _ _ _ _ _ _ q=>sub_int q
theorem qf9:OpR X (lD .Mult) (rI CMul λi j=>.int (i * j)):=opI λ_ _ _ _ _ _ _ d q=>mul_int q d.ok
theorem qga:OpR X (lD .Mod) (rI (λ_ j=>0 < j) λi j=>.int (i % j)):=opI λi j _ _ _ _ _ d q=>by have h1:(0:Int) < j:=d;exact mod_int' (by lia) (by rw [Int.fmod_eq_emod_of_nonneg i (by lia)]; exact q)
theorem unI {f:iR->Sem iR} {g:Int->Int}
  (r:∀ (i:Int) (t:Tok) (s:iU) (Q:iR->iU->Prop) (E:iR->iU->Prop),Q (.int (g i) s.toks) { s with toks:=s.toks+1 }->iW (model X.prog X.w) X.A (f (.int i t)) Q E s) :
  UnR X f (rU λi=>.int (g i)):=by
 intro pins s σ H x v Q I d h;obtain ⟨i,rfl,q⟩:=h;obtain ⟨t,rfl⟩:=d;exact r i t s _ _ ⟨.int (g i),H,I.tok _,⟨_,rfl⟩,q⟩
theorem qgb:UnR X (unaryOp .USub) (rU λi=>.int (-i)):=unI λ_ _ _ _ _ q=>neg_int q
end
variable {op op':CmpOp} {r':R2}
section
variable {a b:Expr} {tb tc:TE}
theorem ZR {Q:VK} {k k':Bool} (I:Inv X pins σ H s) (q:Q (.bl k) H) (e:k=k'):EP X pins σ Q (.bool k') s:=by subst e;exact ⟨.bl k,H,I,rfl,q⟩
theorem qiD:OpR X (j0 .Lt) (rI0 λi j=>.bl (decide (i < j))):=qiC λ_ _ _ _ _ _ _ q=>lt_int q
theorem qiE:OpR X (j0 .LtE) (rI0 λi j=>.bl (decide (i<=j))):=qiC λ_ _ _ _ _ _ _ q=>le_int q
theorem qiF:OpR X (j0 .GtE) (rI0 λi j=>.bl (decide (j<=i))):=qiC λ_ _ _ _ _ _ _ q=>ge_int q
theorem ZT:OpR X (j0 .Lt) (λx y H Q=>∃ i j,x=.str i/\y=.str j/\Q (.bl (decide (i.cps.toList < j.cps.toList))) H):=by intro pins s σ H x y v u Q I d c h;obtain ⟨i,j,rfl,rfl,q⟩:=h;obtain ⟨t,rfl⟩:=d;obtain ⟨t',rfl⟩:=c;exact lt_str (ZR I q rfl)
theorem qdT:OpR X (j0 .IsNot) (λx y H Q=>y=.non/\Q (.bl (!decide (x=.non))) H):=by
 intro pins s σ H x y v u Q I d c h;obtain ⟨rfl,q⟩:=h;cases c;refine isnot_none_gen (ZR I q ?_);cases x <;> first
  | (cases d; rfl)
  | (obtain ⟨t,rfl⟩:=d; rfl)
theorem qda (b:Expr) (h:op≠.In:=by decide) (h2:op≠.NotIn:=by decide):l7 op b=false:=by
 have e1:(op == CmpOp.In)=false:=by cases op <;> first | rfl | exact absurd rfl h
 have i:(op == CmpOp.NotIn)=false:=by cases op <;> first | rfl | exact absurd rfl h2
 cases b <;> simp [l7,e1,i]
theorem qdU (l:OpR X (j0 op) r) (g:PE X a ta) (e:PE X b tb) (m:l7 op b=iS):PE X (.Compare a [op] [b] pos) (tOp r ta tb):=by refine ⟨?_⟩;intro pins s σ H Q I h;exact wpAny_Compare1 (qiz g e I h λv u s2 x y H2 f d c q=>l pins s2 σ H2 x y v u Q f d c q) m
def qgc (t:TE):TT:=λσ H Q=>t σ H λx H'=>∃ k,x=.bl k/\Q k H'
theorem qdV (l:OpR X (j0 op) r) (i:PE X a ta) (g:PE X b tb) (m:l7 op b=iS):PT X (.Compare a [op] [b] pos) (qgc (tOp r ta tb)):=by
 refine ⟨?_⟩;intro pins s σ H Q I h;refine wpAny_isTrue_Compare1 (thn (i pins s σ H _ I h) λv s1 ⟨x,H1,o,r1,f⟩=>thn (g pins s1 σ H1 _ o f) λu s2 ⟨y,H2,n,r2,d⟩=>
  thn (l pins s2 σ H2 x y v u _ n r1 r2 d) λc s3 ⟨z,p,j,r3,k,e,q⟩=>?_) m
 subst e;cases r3;exact lm ⟨p,j,q⟩
def ZU (r r':R2) (ta tb tc:TE):TE:=λσ H Q=>ta σ H λx H1=>tb σ H1 λy H2=>r x y H2 λz d=>∃ k,z=.bl k /\
 (if k=iT then tc σ d λw' a=>r' y w' a Q else Q (.bl iS) d)
theorem qbJ (o:OpR X (j0 op) r) (f:OpR X (j0 op') r') (A:PE X a ta) (w:PE X b tb) (t:PE X c tc)
  (p:lastMarks [op,op'] [b,c]=false:=by with_unfolding_all rfl):PE X (.Compare a [op,op'] [b,c] pos) (ZU r r' ta tb tc):=by
 refine ⟨?_⟩;intro pins s σ H Q I h;refine Compare_chain (thn (A pins s σ H _ I h) λv s1 ⟨x,H1,D,r1,n⟩=>chain_link (thn (w pins s1 σ H1 _ D n) λu s2 ⟨y,H2,C,r2,m⟩=>
  thn (o pins s2 σ H2 x y v u _ C r1 r2 m) λd s3 ⟨z,i,g,r3,k,e,q⟩=>?_)) p
 subst e;cases r3;refine lm ?_;cases k with
 | false=>exact ite_ff ⟨.bl iS,i,g,rfl,q⟩
 | true=>exact ite_tt (chain_last (thn (t pins s3 σ i _ g q) λw' s4 ⟨j,E,B,r4,l⟩=>f pins s4 σ E y j u w' Q B r2 r4 l))
theorem qbK (t:OpR X (j0 op) r) (f:OpR X (j0 op') r') (C:PE X a ta) (B:PE X b tb) (A:PE X c tc)
  (w:lastMarks [op,op'] [b,c]=false:=by with_unfolding_all rfl):PT X (.Compare a [op,op'] [b,c] pos) (qgc (ZU r r' ta tb tc)):=by
 refine ⟨?_⟩;intro pins s σ H Q I h;refine isTrue_chain (thn (C pins s σ H _ I h) λv s1 ⟨x,H1,L,r1,o⟩=>test_link (thn (B pins s1 σ H1 _ L o) λu s2 ⟨y,H2,K,r2,n⟩=>
  thn (t pins s2 σ H2 x y v u _ K r1 r2 n) λd s3 ⟨z,i,g,r3,k,e,q⟩=>?_)) w
 subst e;cases r3;refine lm ?_;cases k with
 | false=>obtain ⟨k',E,p⟩:=q;cases E;exact ite_ff ⟨i,g,p⟩
 | true=>refine ite_tt (test_last (thn (A pins s3 σ i _ g q) λw' s4 ⟨j,M,J,r4,m⟩=>thn (f pins s4 σ M y j u w' _ J r2 r4 m) λd' s5 ⟨z2,U,G,r5,k2,D,l⟩=>?_));subst D;cases r5;exact lm ⟨U,G,l⟩
def qiG (K:Frag) (x:V) (H:Hp) (k:Bool):Prop:=
 match x with
 | .non=>k=iS
 | .bl b=>k=b
 | .int i=>k=(i != 0)
 | .str y=>y.length<=sizeLine/\k=((y.length:Int) != 0)
 | .byt y=>y.size<=sizeLine/\k=((y.size:Int) != 0)
 | .ref p=>(∃ xs,SqL K H p xs/\k=!xs.isEmpty)\/(∃ xs,SqT K H p xs/\k=!xs.isEmpty)\/∃ kvs,H p=iO (.dK kvs)/\k=!kvs.isEmpty
 | _=>False
theorem XB {κ:Type} {kvs:List (κ×V)} {vs:List (κ×iR)} (r:KV kvs vs):(!vs.isEmpty)=!kvs.isEmpty:=by cases r <;> rfl
theorem QN {its:List iR} (r:Vals xs its):(!its.toArray.isEmpty)=!xs.isEmpty:=by cases r <;> simp
theorem KL:(sizeLine:Nat) < 2 ^ 63:=by rw [i9]; decide
theorem qgd:qkf X (λx H Q=>∃ k,qiG X.K x H k/\Q k H):=by
 intro pins s σ H x v Q I d h;obtain ⟨k,e,q⟩:=h;have hl:=KL;have hs:sizeLine=16777216:=i9;cases x with
 | non=>cases d;have a:k=false:=e;subst a;exact truthy_none ⟨H,I,q⟩
 | bl b=>cases d;have a:k=b:=e;subst a;exact lm ⟨H,I,q⟩
 | int i=>obtain ⟨t,rfl⟩:=d;have a:k=(i != 0):=e;subst a;exact PySem.P.truthy_int ⟨H,I,q⟩
 | str y=>obtain ⟨t,rfl⟩:=d;obtain ⟨hy,a⟩:y.length<=sizeLine/\k=((y.length:Int) != 0):=e;subst a;exact PySem.P.truthy_str (by lia) ⟨H,I.tok _,q⟩
 | byt y=>obtain ⟨t,rfl⟩:=d;obtain ⟨hy,a⟩:y.size<=sizeLine/\k=((y.size:Int) != 0):=e;subst a;exact PySem.W.truthy_bytes (by lia) ⟨H,I.tok _,q⟩
 | ref p=>
  cases d;have a:(∃ xs,SqL X.K H p xs/\k=!xs.isEmpty)\/(∃ xs,SqT X.K H p xs/\k=!xs.isEmpty)\/∃ kvs,H p=iO (.dK kvs)/\k=!kvs.isEmpty:=e;rcases a with ⟨xs,hx,a⟩ | ⟨xs,hx,a⟩ | ⟨kvs,hx,a⟩
  ·subst a;obtain ⟨its,r,pl,hz⟩:=I.list hx;have n:=r.length;exact wpAny_truthy_list pl.isList (by simp only [au]; lia) ⟨H,I.tok _,by rw [QN r]; exact q⟩
  ·subst a;obtain ⟨its,r,pl,hz⟩:=I.tuple hx;have n:=r.length;exact truthy_tuple pl (by simp only [au]; lia) ⟨H,I.tok _,by rw [QN r]; exact q⟩
  ·subst a;obtain ⟨hz,hS,vs,r,m⟩:kvs.length<=sizeLine/\(p == lA)=iS/\∃ vs,KV kvs vs/\s.heap.DictOf (qP X.prog X.w) p vs:=I.hok p _ hx;have n:kvs.length=vs.length:=g7 r;exact wpAny_truthy_dict hS m (by lia) ⟨H,I.tok _,by rw [XB r]; exact q⟩
 | _=>exact (show False from e).elim
theorem qbL (g:PE X a ta) (i:∀ whole,isTrue a X.env whole=(do let v <-whole; ny a.pos; holding [v] (truthy v))):PT X a (λσ H Q=>ta σ H λx H'=>∃ k,qiG X.K x H' k/\Q k H'):=by refine ⟨?_⟩;intro pins s σ H Q I h;exact isTrue_plain (thn (g pins s σ H _ I h) λv s1 ⟨x,H1,d,r1,q⟩=>qgd pins s1 σ H1 x v Q d r1 q) (i _)
theorem XD:OpR X (lD .Add) (λx y H Q=>∃ i j,x=.str i/\y=.str j/\i.length+j.length<=sizeLine/\Q (.str (i++j)) H):=by intro pins s σ H x y v u Q I d c h;obtain ⟨i,j,rfl,rfl,hz,q⟩:=h;obtain ⟨t,rfl⟩:=d;obtain ⟨t',rfl⟩:=c;exact add_str (λt' tk=>⟨.str (i++j),H,I.tok _,⟨_,rfl⟩,q⟩) hz
theorem uP {x:V} (r:Vals [x] us):∃ u,us=[u]/\RelV x u:=by
 cases r with
 | cons r1 r2=>cases r2; exact ⟨_,rfl,r1⟩
theorem qbM {x:V} (r:Vals [x,y] us):∃ u w',us=[u,w']/\RelV x u/\RelV y w':=by
 cases r with
 | cons r1 r2=>
  cases r2 with
  | cons r3 r4=>cases r4; exact ⟨_,_,rfl,r1,r3⟩
theorem ZV (d:X.calm=iT):wB X (.builtin "max") (λxs H Q=>∃ i j,xs=[.int i,.int j]/\Q (.int (if j > i then j else i)) H):=by
 intro pins s σ H xs us Q I r h;obtain ⟨i,j,rfl,q⟩:=h;obtain ⟨u,w',rfl,⟨t,rfl⟩,⟨t',rfl⟩⟩:=qbM r;refine max_two_ints (I.ok.hd d) λh' tk k=>⟨_,H,I.kept k,?_,q⟩
 by_cases D:j > i;·rw [Aa D,Aa D]; exact ⟨_,rfl⟩
 ·rw [Ab D,Ab D]; exact ⟨_,rfl⟩
theorem ZW (d:X.calm=iT):wB X (.builtin "min") (λxs H Q=>∃ i j,xs=[.int i,.int j]/\Q (.int (if j < i then j else i)) H):=by
 intro pins s σ H xs us Q I r h;obtain ⟨i,j,rfl,q⟩:=h;obtain ⟨u,w',rfl,⟨t,rfl⟩,⟨t',rfl⟩⟩:=qbM r;refine min_two_ints (I.ok.hd d) λh' tk k=>⟨_,H,I.kept k,?_,q⟩
 by_cases D:j < i;·rw [Aa D,Aa D]; exact ⟨_,rfl⟩
 ·rw [Ab D,Ab D]; exact ⟨_,rfl⟩
theorem KM:wB X (.type "str") (λxs H Q=>∃ i,xs=[.int i]/\i.natAbs.log2 < 1920/\Q (.str (toString i)) H):=by intro pins s σ H xs us Q I r h;obtain ⟨i,rfl,hz,q⟩:=h;obtain ⟨u,rfl,t,rfl⟩:=uP r;exact PySem.P.str_of_int hz ⟨.str _,H,I.tok _,⟨_,rfl⟩,q⟩
def qkh (K:Frag) (x:V) (H:Hp) (n:Nat):Prop:=
 match x with
 | .str y=>y.length<=sizeLine/\n=y.length
 | .byt y=>y.size<=sizeLine/\n=y.size
 | .ref p=>(∃ xs,SqL K H p xs/\n=xs.length)\/∃ xs,SqT K H p xs/\n=xs.length
 | _=>False
theorem Js:wB X (.builtin "len") (λxs H Q=>∃ x n,xs=[x]/\qkh X.K x H n/\Q (.int n) H):=by
 intro pins s σ H xs us Q I r h;obtain ⟨x,n,rfl,e,q⟩:=h;obtain ⟨u,rfl,d⟩:=uP r;have hl:=KL;have hs:sizeLine=16777216:=i9;cases x with
 | str y=>obtain ⟨t,rfl⟩:=d;obtain ⟨hy,b⟩:y.length<=sizeLine/\n=y.length:=e;subst b;exact len_str (by lia) ⟨.int _,H,I.tok _,⟨_,rfl⟩,q⟩
 | byt y=>obtain ⟨t,rfl⟩:=d;obtain ⟨hy,b⟩:y.size<=sizeLine/\n=y.size:=e;subst b;exact PySem.W.len_bytes (by lia) ⟨.int _,H,I.tok _,⟨_,rfl⟩,q⟩
 | ref p=>
  cases d;have b:(∃ xs,SqL X.K H p xs/\n=xs.length)\/∃ xs,SqT X.K H p xs/\n=xs.length:=e;rcases b with ⟨xs,hx,b⟩ | ⟨xs,hx,b⟩
  ·subst b;obtain ⟨its,r',pl,hz⟩:=I.list hx;have a:=r'.length;exact Calls.call_len_list pl.isList (by simp only [au]; lia) ⟨.int xs.length,H,I.tok _,⟨_,by simp only [au]; rw [a]⟩,q⟩
  ·subst b;obtain ⟨its,r',pl,hz⟩:=I.tuple hx;have a:=r'.length;exact len_tuple pl (by simp only [au]; lia) ⟨.int xs.length,H,I.tok _,⟨_,by simp only [au]; rw [a]⟩,q⟩
 | _=>exact (show False from e).elim
end
structure ObjM (h:Heap) (x dx C:Addr) (mA:Str->Option iR):Prop where
 obj:h.get? x=iO (cm C dx)
 ns:h.Ns1 dx mA
 ne:dx≠x
variable {dx:Addr} {mA:Str->Option iR}
theorem ZX (n:h.Ns1 dx mA):∃ od,h.get? dx=iO od/\∀ name,fK name od=iO (mA name):=by
 obtain ⟨o,es,ep,l,hd,k,_,c⟩:=n;refine ⟨o,l,λname=>?_⟩;have e:=c name;unfold nsFind findBy at e;rw [<-Array.find?_toList] at e;unfold fK;rw [hd];dsimp only;split;·rename_i y q;rw [q] at e;exact congrArg iO e
 ·rename_i q;rw [q] at e;have a:es.toList.any (·.refKey)=false:=by rw [List.any_eq_false];intro y B;obtain ⟨z,t,b⟩:=k y (Array.mem_toList_iff.mp B);simp [DictEntry.refKey,b]
  have d:¬es.toList.any (·.refKey)=true:=by rw [a]; exact bD
  rw [Ab d];exact congrArg iO e
variable {C:Addr}
theorem ObjM.look {x:Addr} (I:ObjM h x dx C mA):∃ od,PySem.W.InstAt h x (cm C dx) C (iO od)/\∀ name,fK name od=iO (mA name):=
 let ⟨od,l,hl⟩:=ZX I.ns
 ⟨od,⟨I.obj,rfl,rfl,l⟩,hl⟩
section
variable {prog:i7} {x f:Addr} {name:Str} {v:iR}
theorem qdW {e:Bool} {Q:iR->iU->Prop} (X:K.In s.heap) (I:ObjM s.heap x dx C mA) (hg:cY K C name=iT) (b:dG K C=iT)
  (g:aP K (.ref C) name=iO iQ) (c:mA name=iO v) (a:PySem.W.handedIn v=iT) (h:Q v { s with toks:=s.toks+1 }) :
  iW (model prog w) A (getAttr (.ref x) name e) Q E s:=by
 obtain ⟨od,J,hl⟩:=I.look;exact PySem.W.get_value X J (fF hg).1 (PySem.W.findObj_own b g rfl (by rw [hl,c])) a h
theorem qbN {pl:Sem Bool} {Q:iR×List iR->iU->Prop} (X:K.In s.heap) (I:ObjM s.heap x dx C mA) (hg:cY K C name=iT)
  (a:aP K (.ref C) name=iO (iO (.ref f))) (ht:cQ K (.ref f)=iT) (c:mA name=iQ) (h:Q (.ref f,[.ref x]) s) :
  iW (model prog w) A (mX (.ref x) name pl) Q E s:=by
 obtain ⟨od,J,hl⟩:=I.look;exact PySem.W.method_fn X J (fF hg).1 (fF hg).2 a (beq_iff_eq.mp ht) (by show (fK name od).map (·.isSome)=iO iS; rw [hl,c]; rfl) h
theorem qdX {ns:List Str} {Q:Unit->iU->Prop} (X:K.In s.heap) (I:ObjM s.heap x dx C mA)
  (hs:aP K (.ref C) "__setattr__"=iO (iO (.builtin "object.__setattr__"))) (hp:eX K C=iT) (ht:ig K C name=iO iQ) (i:dG K C=iT)
  (hw:iI mA ns) (hsz:ns.length<=sizeLine)
  (h:∀ h',ObjM h' x dx C (λy=>if y=name then iO v else mA y)->bo dx s.heap h'->Q () { s with heap:=h',toks:=s.toks+2 }) :
  iW (model prog w) A (setAttr (.ref x) name v) Q E s:=by
 obtain ⟨od,J,hl⟩:=I.look;refine PySem.W.set_plain X J hs (PySem.W.osa_open (s:={ s with toks:=s.toks+1 }) (r:=iQ) X J hp ht λb=>?_);obtain ⟨cd,j,f⟩:=PySem.W.any_some i;have hx:s.heap.get? x=iO ⟨.ref C,iO dx,.plain,#[]⟩:=I.obj;refine iP (iV (iP (iP (wpAny_loadPart hx (iP (PySem.W.Looks.here (s:={ s with toks:=s.toks+1 }) (PySem.W.looks_clsIn X j) ?_))))));rw [f];refine iV (a:=iO dx) (iP (iV (iP ?_)));refine wpAny_nsSet1 (s:={ s with toks:=s.toks+1 }) I.ns λh' d c=>?_;obtain ⟨o,k,l,D,e,g⟩:=d.count (PySem.Within.cons name v hw);refine iP (wpAny_lookBehind D (by rw [e]; exact pastItsLine_dict (bu g (by rw [ai]; lia))) ?_);exact iV (h _ ⟨(c.2 _ (bb I.ne)).trans I.obj,d,I.ne⟩ c)
theorem qbO {R:nE->iU->Prop} {vs:List iR} {kw:List (Str×iR)} (X:K.In s.heap) (c:ii K C=iT)
  (hi:aP K (.ref C) "__init__"=iO (iO (.ref f))) (a:PySem.W.typeIn K (.ref f)=iO (.type "function"))
  (h:lP (model prog w) (A.under (.builtin "type.__call__" ⟨.ref C::vs,kw⟩)) (.call (.ref f) ⟨.ref (s.heap.objs.size+1)::vs,kw⟩) (PySem.W.InitBack (s.heap.objs.size+1) R)
   { s with heap:=(s.heap.push bJ).push (cm C s.heap.objs.size) }) :
  lP (model prog w) A (.call (.ref C) ⟨vs,kw⟩) R s:=by
 obtain ⟨b,g,d,t,os⟩:=s;exact PySem.W.make_core (PySem.W.makes_of X c) (PySem.W.looks_findIn X hi) (λself=>PySem.W.bind_fn X self a) (.inl rfl) h
end
noncomputable def Jt (f:Str) (v:V):List (Str×V)->List (Str×V)
 | []=>[(f,v)]
 | (g,x)::r=>if g=f then (g,v)::r else (g,x)::Jt f v r
theorem zQ (f g:Str) (v:V):∀ fs:List (Str×V),(Jt f v fs).lookup g=if g=f then iO v else fs.lookup g
 | []=>by
  show cj g [(f,v)]=_;by_cases h:g=f;·have d:(g == f)=true:=beq_iff_eq.mpr h;simp only [cj,d,Aa h]
  ·have d:(g == f)=false:=beq_eq_false_iff_ne.mpr h;simp only [cj,d,Ab h]
 | (k,x)::r=>by
  have j:=zQ f g v r;rw [show Jt f v ((k,x)::r)=(if k=f then (k,v)::r else (k,x)::Jt f v r) from rfl];by_cases a:k=f
  ·rw [Aa a];by_cases h:g=k;·have d:(g == k)=true:=beq_iff_eq.mpr h;simp only [cj,d,Aa (h.trans a)]
   ·have d:(g == k)=false:=beq_eq_false_iff_ne.mpr h;simp only [cj,d,Ab (λe:g=f=>h (e.trans a.symm))]
  ·rw [Ab a];by_cases h:g=k;·have d:(g == k)=true:=beq_iff_eq.mpr h;simp only [cj,d,Ab (λe:g=f=>a (h.symm.trans e))]
   ·have d:(g == k)=false:=beq_eq_false_iff_ne.mpr h;simp only [cj,d];exact j
theorem zR (f:Str) (v:V):∀ fs:List (Str×V),f∈(Jt f v fs).map (·.1)/\∀ g,g∈fs.map (·.1)->g∈(Jt f v fs).map (·.1)
 | []=>⟨by simp [Jt],λg h=>by simp at h⟩
 | (k,x)::r=>by
  obtain ⟨i1,i2⟩:=zR f v r;rw [show Jt f v ((k,x)::r)=(if k=f then (k,v)::r else (k,x)::Jt f v r) from rfl];by_cases a:k=f;·rw [Aa a];subst a;exact ⟨by simp,λg h=>by simpa using h⟩
  ·rw [Ab a];refine ⟨?_,λg h=>?_⟩;·rw [aD];exact ae _ i1
   ·rw [aD] at h ⊢;rcases af.mp h with e | e;·exact af.mpr (.inl e)
    ·exact ae _ (i2 g e)
theorem zS (f:Str) (v:V):∀ fs:List (Str×V),(Jt f v fs).length<=fs.length+1
 | []=>by simp [Jt]
 | (k,x)::r=>by
  have j:=zS f v r;rw [show Jt f v ((k,x)::r)=(if k=f then (k,v)::r else (k,x)::Jt f v r) from rfl];by_cases h:k=f;·rw [Aa h,ai,ai]; lia
  ·rw [Ab h,ai,ai]; lia
theorem RelO.some_of {o:Option iR} (r:RelO (iO v) o):∃ u,o=iO u/\RelV v u:=by
 cases o with
 | none=>exact (show False from r).elim
 | some u=>exact ⟨u,rfl,r⟩
theorem RelO.none_of {o:Option iR} (r:RelO iQ o):o=none:=by
 cases o with
 | none=>rfl
 | some u=>exact (show False from r).elim
theorem ZY (r:RelV v u):PySem.W.handedIn u=true:=by
 cases v with
 | non=>cases (show u=bO from r); rfl
 | bl b=>cases (show u=dg b from r); rfl
 | int i=>obtain ⟨t,e⟩:=(show ∃ t,u=fz i t from r); cases e; rfl
 | str x=>obtain ⟨t,e⟩:=(show ∃ t,u=dE x t from r); cases e; rfl
 | byt b=>obtain ⟨t,e⟩:=(show ∃ t,u=Value.bytes b t from r); cases e; rfl
 | flt b=>obtain ⟨t,e⟩:=(show ∃ t,u=Value.float b t from r); cases e; rfl
 | ref a=>cases (show u=aL a from r); rfl
 | ty n=>cases (show u=dN n from r); rfl
section
variable {fs fs':List (Str×V)}
theorem WA (hok:HOk P w H h) (e:H a=iO (.ins C dx fs)):∃ mA,ObjM h a dx C mA/\(∀ f,RelO (fs.lookup f) (mA f))/\iI mA (fs.map (·.1))/\fs.length<=1000/\H dx=iO (.own a):=by
 obtain ⟨d,z,ne,b,mA,n,r,q⟩:=(show ObjOk P w H h a (.ins C dx fs) from hok a _ e)
 exact ⟨mA,⟨b,n,ne⟩,r,q,z,d⟩
end
structure Cls (K:Frag) (C:Addr):Prop where
 pg:cY K C aY=iT
 hd:dG K C=iT
 po:eX K C=iT
 sa:aP K (.ref C) "__setattr__"=iO (iO (.builtin "object.__setattr__"))
theorem Cls.get (c:Cls K C) (f:Str):cY K C f=true:=c.pg
def NoAttr (K:Frag) (C:Addr) (f:Str):Prop:=aP K (.ref C) f=iO iQ
variable {f:Str}
theorem NoAttr.taker (n:NoAttr K C f):ig K C f=iO none:=by unfold ig;rw [show aP K (.ref C) f=iO iQ from n];rfl
structure Meth (K:Frag) (C:Addr) (m:Str) (f:Addr):Prop where
 at_:aP K (.ref C) m=iO (iO (.ref f))
 fn:cQ K (.ref f)=iT
 kp:l8 K (.ref f)=iT
variable {m:Str}
section
variable {fs:List (Str×V)}
theorem XE {b:Bool} {Q:iR->iU->Prop} (I:Inv X pins σ H s) (e:H a=iO (.ins C dx fs)) (c:Cls X.K C) (n:NoAttr X.K C f) (l:fs.lookup f=iO v)
  (h:∀ u s',Inv X pins σ H s'->RelV v u->Q u s'):iW (model X.prog X.w) A (getAttr (.ref a) f b) Q E s:=by
 obtain ⟨mA,O,r,_,_,_⟩:=WA I.hok e;obtain ⟨u,g,d⟩:=RelO.some_of (v:=v) (o:=mA f) (by rw [<-l]; exact r f);exact qdW I.kIn O (c.get f) c.hd n g (ZY d) (h u _ (I.tok _) d)
theorem QO {g:Addr} {pl:Sem Bool} {Q:iR×List iR->iU->Prop} (I:Inv X pins σ H s) (e:H a=iO (.ins C dx fs)) (c:Cls X.K C) (k:Meth X.K C m g) (l:fs.lookup m=iQ)
  (h:Q (.ref g,[.ref a]) s):iW (model X.prog X.w) A (mX (.ref a) m pl) Q E s:=by
 obtain ⟨mA,O,r,_,_,_⟩:=WA I.hok e;have n:mA m=none:=RelO.none_of (by rw [<-l]; exact r m);exact qbN I.kIn O (c.get m) k.at_ k.fn n h
theorem XF {Q:Unit->iU->Prop} (I:Inv X pins σ H s) (e:H a=iO (.ins C dx fs)) (c:Cls X.K C) (n:NoAttr X.K C f) (hl:fs.length < 1000) (j:RelV y u)
  (h:∀ s',Inv X pins σ (upd H a (.ins C dx (Jt f y fs))) s'->Q () s'):iW (model X.prog X.w) A (setAttr (.ref a) f u) Q E s:=by
 obtain ⟨mA,O,r,wi,_,l⟩:=WA I.hok e;have hz:(fs.map (·.1)).length<=sizeLine:=by rw [am,i9]; lia
 refine qdX I.kIn O c.sa c.po n.taker c.hd wi hz λh' d i=>h _ ?_;have hd:∃ o,h'.get? dx=iO o:=let ⟨o,_,_,m,_⟩:=d.ns; ⟨o,m⟩
 refine I.write (x:=a) (e:=dx) (by rw [e]; exact dj) (.inr l) (λb q k z=>(i.2 b k).trans z) hd ?_;refine ⟨by rw [qu O.ne]; exact l,?_,O.ne,d.obj,_,d.ns,λg=>?_,λg hg=>?_⟩;·have:=zS f y fs; lia
 ·show RelO ((Jt f y fs).lookup g) (if g=f then iO u else mA g);rw [zQ];by_cases q:g=f;·rw [Aa q,Aa q]; exact j
  ·rw [Ab q,Ab q]; exact r g
 ·by_cases q:g=f;·rw [q]; exact (zR f y fs).1
  ·refine (zR f y fs).2 g (wi g λz=>hg ?_);show (if g=f then iO u else mA g)=iQ;rw [Ab q]; exact z
theorem Inv.made (I:Inv X pins σ H s):Inv X pins σ (upd (upd H s.heap.objs.size (.own (s.heap.objs.size+1))) (s.heap.objs.size+1) (.ins C s.heap.objs.size []))
  { s with heap:=(s.heap.push bJ).push (cm C s.heap.objs.size) }:=by
 have e1:(s.heap.push bJ).get? s.heap.objs.size=iO bJ:=ah s.heap rfl;have c:((s.heap.push bJ).push (cm C s.heap.objs.size)).get? (s.heap.objs.size+1)=iO (cm C s.heap.objs.size):=by have:=ah (s.heap.push bJ) (o:=cm C s.heap.objs.size) rfl;rwa [bf] at this
 have E:(s.heap.push bJ).Ns s.heap.objs.size (λ_=>iQ):=⟨bJ,#[],_,e1,rfl,(λe i=>absurd i (by simp)),λ_=>rfl⟩
 have d:=I.laid (a:=s.heap.objs.size) (o:=.own (s.heap.objs.size+1)) (h':=s.heap.push bJ) (t':=s.toks) (λb u q=>ac _ q) (ap _) ⟨_,e1⟩;refine d.laid (a:=s.heap.objs.size+1) (o:=.ins C s.heap.objs.size []) (t':=s.toks) (λb u q=>ac _ q) (fG (bf _ _)) ?_;have ne:s.heap.objs.size≠s.heap.objs.size+1:=ay (fA _);refine ⟨by rw [qu ne,qm],bi _,ne,c,λ_=>iQ,(Heap.Ns1.of_empty E).at λo q=>ac _ q,λ_=>dj,λy B=>absurd rfl B⟩
theorem qdY {prog:i7} {w:i8} {env:Env} {f:Str} {pos:Pos} {s:iU} {Q:iR->iU->Prop} (b:lg e f env (eval e env)=eval e env)
  (h:iW (model prog w) A (eval e env) (λo d=>iW (model prog w) A (getAttr o f iT) Q E d) E s):iW (model prog w) A (eval (.Attribute e f pos) env) Q E s:=
 Attribute_any_ h (by rw [arm_eval_Attribute,b])
end
def qki (K:Frag) (ta:TE) (f:Str):TE:=λσ H Q=>ta σ H λx H1=>∃ a C dx fs v,x=.ref a/\H1 a=iO (.ins C dx fs)/\Cls K C/\NoAttr K C f/\fs.lookup f=iO v/\Q v H1
def qkj (K:Frag) (ta tv:TE) (f:Str):TS:=λD σ H=>tv σ H λy H1=>ta σ H1 λx H2=>∃ a C dx fs,x=.ref a/\H2 a=iO (.ins C dx fs)/\Cls K C/\NoAttr K C f/\fs.length < 1000 /\
 D.nx σ (upd H2 a (.ins C dx (Jt f y fs)))
section
variable {o value:Expr} {tpos:Pos} {tv:TE}
theorem qge (i:PE X e ta) (b:lg e f X.env (eval e X.env)=eval e X.env):PE X (.Attribute e f pos) (qki X.K ta f):=by refine ⟨?_⟩;intro pins s σ H Q I h;refine qdY b (thn (i pins s σ H _ I h) λu s1 ⟨x,H1,k,d,a,C,dx,fs,v,ex,g,c,n,l,q⟩=>?_);subst ex;obtain rfl:u=aL a:=d;exact XE k g c n l λU s2 j A=>⟨v,H1,j,A,q⟩
theorem qgf (g:PE X o ta) (b:PE X value tv) (hs:lK value (iO (.Attribute o f pos')) pos.line X.env=pure iS):PS X (.Assign [.Attribute o f pos'] value pos) (qkj X.K ta tv f):=by refine ⟨?_⟩;intro pins s σ H D I h;refine plainObj_wpAny_Assign_Attribute (thn (b pins s σ H _ I h) λu s1 ⟨y,H1,m,r,q⟩=>thn (g pins s1 σ H1 _ m q) λv s2 ⟨x,H2,j,d,a,C,dx,fs,ex,i,c,n,l,e⟩=>?_) hs;subst ex;obtain rfl:v=aL a:=d;exact XF j i c n l r λs3 k=>⟨σ,_,k,e⟩
end
structure Room (k:Nat) (A:j9):Prop where
 hd:A.handled=iQ
 dp:A.depth+3 * k+5 < recursionLimit
 un:A.units+16 * k+200 < lE
theorem Room.mono {j k:Nat} (r:Room k A) (h:j<=k):Room j A:=⟨r.hd,by have:=r.dp; lia,by have:=r.un; lia⟩
theorem Room.deeper {k:Nat} (r:Room (k+1) A) (env:Env):Room k (A.deeper env):=
 ⟨r.hd,by have:=r.dp; show A.depth+1+3 * k+5 < _; lia,by have:=r.un; show A.units+3+16 * k+200 < _; lia⟩
variable {kw:List (Str×iR)}
theorem XG:(A.under (.builtin "type.__call__" ⟨.ref C::us,kw⟩)).depth=A.depth+1:=by first | rfl | simp [iJ,Code.weight,Code.isCreation,Code.isGuard,Code.isCaller,Code.frames,iK,guardIds]
theorem XH:(A.under (.builtin "type.__call__" ⟨.ref C::us,kw⟩)).units=A.units+1:=by first | rfl | simp [iJ,Code.cUnits,Code.frames,iK]
theorem Room.make {k:Nat} (r:Room (k+1) A) (C:Addr) (us:List iR) (kw:List (Str×iR)):Room k (A.under (.builtin "type.__call__" ⟨.ref C::us,kw⟩)):=
 ⟨r.hd,by have:=r.dp; rw [XG]; lia,by have:=r.un; rw [XH]; lia⟩
theorem Room.depth {k:Nat} (r:Room k A):A.depth < recursionLimit:=by have:=r.dp; lia
theorem Room.units {k:Nat} (r:Room k A):A.units+64 < lE:=by have:=r.un; lia
def qhU:TA:=λ_ H Q=>Q [] H
def qbP (ta:TE) (t:TA):TA:=λσ H Q=>ta σ H λx H1=>t σ H1 λxs H2=>Q (x::xs) H2
variable {t:TA}
section
theorem jK:PA X [] qhU:=⟨λ_ _ _ _ H Q I h=>fS ⟨[],H,I,.nil,h⟩⟩
theorem qJ (g:PE X e te) (c:PA X es t) (hs:iX (e::es) X.env=(iS,eval e X.env)::iX es X.env:=by rfl):PA X (e::es) (qbP te t):=by refine ⟨?_⟩;intro pos pins s σ H Q I h;rw [hs];show iW _ _ (spliced ((iS,eval e X.env)::li pos (iX es X.env))) _ _ s;refine fL (thn (g pins s σ H _ I h) λu s1 ⟨x,H1,d,r1,a⟩=>?_);exact thn (c pos pins s1 σ H1 _ d a) λus s2 ⟨xs,H2,b,r2,q⟩=>⟨x::xs,H2,b,.cons r1 r2,q⟩
def qkk (t:TA):TE:=λσ H Q=>t σ H λxs H1=>xs.length<=sizeLine/\∀ p,H1 p=iQ->Q (.ref p) (upd H1 p (.tup xs))
def qkl (t:TA):TE:=λσ H Q=>t σ H λxs H1=>xs.length<=sizeLine/\∀ p,H1 p=iQ->Q (.ref p) (upd H1 p (.lst xs))
theorem qgg {x1} (h:PA X es t):PE X (.Tuple es x1 pos) (qkk t):=by refine ⟨?_⟩;intro pins s σ H Q I hq;refine wpAny_Tuple_spliced (thn (h pos pins s σ H _ I hq) λus s1 ⟨xs,H1,d,r,z,q⟩=>⟨by rw [<-r.length]; exact z,?_⟩);have f:H1 s1.heap.objs.size=none:=d.hok.fresh (ap _);refine ⟨.ref s1.heap.objs.size,upd H1 s1.heap.objs.size (.tup xs),d.laid (t':=s1.toks) (λb u e=>ac _ e) (ap _) ?_,rfl,q _ f⟩;exact ⟨⟨z,_,ah _ rfl,rfl⟩,us,r,⟨_,ah _ rfl,rfl,_,rfl⟩⟩
theorem qgh (h:PA X es t):PE X (.List es pos) (qkl t):=by refine ⟨?_⟩;intro pins s σ H Q I hq;refine wpAny_List_spliced (thn (h pos pins s σ H _ I hq) λus s1 ⟨xs,H1,d,r,z,q⟩=>⟨by rw [<-r.length]; exact z,?_⟩);have f:H1 s1.heap.objs.size=none:=d.hok.fresh (ap _);refine ⟨.ref s1.heap.objs.size,upd H1 s1.heap.objs.size (.lst xs),d.laid (t':=s1.toks) (λb u e=>ac _ e) (ap _) ?_,rfl,q _ f⟩;exact ⟨z,us,0,r,ah _ rfl⟩
end
abbrev Sp:=List V->Hp->VK->XK->Prop
abbrev CXT:=List Env->Hp->iU->XK->iR->iU->Prop
structure Env0 (P:i7) (w:i8) (K:Frag) (mg:Str->Option iR) (base:Heap) (A:j9) (outer:List Env) (s:iU) (H:Hp):Prop where
 frames:A.frames=iO outer
 mod:Mod K mg base
 bs:∀ b o,base.get? b=iO o->s.heap.get? b=iO o/\H b=iQ
 bsz:base.objs.size<=s.heap.objs.size
 funs:s.heap.FunFrames base outer
 frf:∀ b∈frs outer,H b=iQ
 hok:HOk P w H s.heap
 bare:mO s.gens
def CE (outer:List Env) (P:i7) (w:i8) (H:Hp) (s:iU) (Q:VK) (u:iR) (s':iU):Prop:=
 ∃ v H',s'.os=s.os/\mO s'.gens/\Un (frs outer) [] H H' s.heap s'.heap/\HOk P w H' s'.heap/\RelV v u/\Q v H'
def CR (CX:CXT) (outer:List Env) (P:i7) (w:i8) (H:Hp) (s:iU) (Q:VK) (E:XK) (r:nE) (s':iU):Prop:=
 match r with
 | .ok (.ret u)=>CE outer P w H s Q u s'
 | .ok _=>False
 | .error e=>CX outer H s E e s'
structure FnOk (P:i7) (w:i8) (K:Frag) (mg:Str->Option iR) (base:Heap) (CX:CXT) (k:Nat) (f:Addr) (fd:lV) (ps:List Str) (sp:Sp):Prop where
 len:∀ vs H Q E,sp vs H Q E->vs.length=ps.length
 run:∀ (A:j9) (outer:List Env) (s:iU) (H:Hp) (args:Args) (us:List iR) (vs:List V) (Q:VK) (E:XK),Room k A->Env0 P w K mg base A outer s H->nI s fd args (ps.zip us)->Vals vs us->sp vs H Q E ->lP (model P w) A (.call (.ref f) args) (CR CX outer P w H s Q E) s
variable {mg:Str->Option iR} {base:Heap} {CX:CXT} {fd:lV} {ps:List Str} {sp:Sp}
theorem FnOk.imp {k:Nat} {f:Addr} {a:Sp} (F:FnOk P w K mg base CX k f fd ps sp)
  (h:∀ vs H Q E,a vs H Q E->sp vs H Q E):FnOk P w K mg base CX k f fd ps a:=
 ⟨λvs H Q E q=>F.len vs H Q E (h _ _ _ _ q),λA outer s H args us vs Q E r i d c hs=>F.run A outer s H args us vs Q E r i d c (h _ _ _ _ hs)⟩
theorem Env0.make {outer:List Env} (e:Env0 P w K mg base A outer s H) (C:Addr) (us:List iR) (kw:List (Str×iR)):Env0 P w K mg base (A.under (.builtin "type.__call__" ⟨.ref C::us,kw⟩)) outer s H:=⟨by first | exact e.frames | (simpa [iJ,Code.envs,iK,pushEnvs] using e.frames),e.mod,e.bs,e.bsz,e.funs,e.frf,e.hok,e.bare⟩
section
theorem Inv.env0 (I:Inv X pins σ H s):Env0 X.prog X.w X.K X.mg X.base X.A X.stack s H:=
 ⟨I.ok.frames,I.ok.mod,I.bs,bu I.ok.bsz I.sz,I.stack,I.stkFree,I.hok,I.bare⟩
theorem Inv.after {Q:VK} (I:Inv X pins σ H s) (h:CE X.stack X.prog X.w H s Q u s'):EP X pins σ Q u s':=by obtain ⟨v,H',os,bare,un,hok,r,q⟩:=h;obtain ⟨a,g,d,t,o⟩:=s';obtain rfl:o=s.os:=os;exact ⟨v,H',I.call (h':=a) (g':=g) (d':=d) (t':=t) (ch:=[]) un hok bare (λb z=>absurd z (by simp)),r,q⟩
end
def qiH (sp:Sp) (dvs:List V) (E:XK) (t:TA):TE:=λσ H Q=>t σ H λvs H1=>sp (vs++dvs) H1 Q E
def qgi (C:Addr) (m:Str) (sp:Sp) (dvs:List V) (E:XK) (ta:TE) (t:TA):TE:=λσ H Q=>ta σ H λx H1=>∃ a dx fs,x=.ref a/\H1 a=iO (.ins C dx fs)/\fs.lookup m=iQ /\
 t σ H1 λvs H2=>sp (x::(vs++dvs)) H2 Q E
def qiI (C:Addr) (sp:Sp) (dvs:List V) (E:XK) (t:TA):TE:=λσ H Q=>t σ H λvs H1=>∀ x dx,H1 x=iQ->H1 dx=iQ->dx≠x ->sp (.ref x::(vs++dvs)) (upd (upd H1 dx (.own x)) x (.ins C dx [])) (λv H2=>v=.non/\Q (.ref x) H2) E
def Binds (K:Frag) (fd:lV) (ps:List Str) (ds:List iR):Prop:=
 ∀ (s:iU) (us:List iR),K.In s.heap->(us++ds).length=ps.length->nI s fd ⟨us,[]⟩ (ps.zip (us++ds))
theorem Binds.all (h:∀ us:List iR,us.length=ps.length->lG fd ⟨us,[]⟩=pure (ps.zip us)):Binds K fd ps []:=λs us _ hl=>by rw [bv] at hl ⊢;exact .of_eq (h us hl)
def ky (CX:CXT) (X:Cx) (E:XK):Prop:=∀ (pins:Pns) (σ:St) (H:Hp) (s:iU) (e:iR) (s':iU),Inv X pins σ H s->CX X.stack H s E e s'->X.xe e s'
variable {apos:Pos}
section
variable {k:Nat} {f:Addr} {dvs:List V} {ds:List iR} {E:XK} {o:Expr}
theorem ZZ {pins:Pns} {σ:St} {H:Hp} {s:iU} {Q:VK} {us:List iR} {vs:List V} (F:FnOk X.prog X.w X.K X.mg X.base CX k f fd ps sp) (c:Room k X.A) (d:Binds X.K fd ps ds) (hd:Vals dvs ds) (hx:ky CX X E)
  (I:Inv X pins σ H s) (r:Vals vs us) (h:sp (vs++dvs) H Q E):iW (model X.prog X.w) X.A (call (.ref f) us) (EP X pins σ Q) X.xe s:=by
 have r2:Vals (vs++dvs) (us++ds):=r.append hd;have hl:(us++ds).length=ps.length:=by rw [<-r2.length]; exact F.len _ _ _ _ h
 refine wpAny_call (ml (F.run X.A X.stack s H ⟨us,[]⟩ (us++ds) (vs++dvs) Q E c I.env0 (d s us I.kIn hl) r2 h) λr s' hq=>?_);cases r with
 | error e=>exact hx pins σ H s e s' I hq
 | ok l=>
  cases l with
  | ret u=>exact I.after hq
  | next=>exact cA hq
  | brk=>exact cA hq
  | cont=>exact cA hq
theorem qdZ (F:FnOk X.prog X.w X.K X.mg X.base CX k f fd ps sp) (c:Room k X.A) (hg:Gl X x) (m:X.mg x=iO (.ref f)) (a:l8 X.K (.ref f)=iT) (g:Binds X.K fd ps ds) (hd:Vals dvs ds) (hx:ky CX X E)
  (j:PA X (e::es) t) (b:Dbg x:=by decide) (i:iX (e::es) X.env=(iS,eval e X.env)::iX es X.env:=by rfl) (l:(li pos (iX es X.env)).any (·.1)=false:=by rfl) :
  PE X (.Call (.Name x p) (e::es) [] pos) (qiH sp dvs E t):=by
 refine ⟨?_⟩;intro pins s σ H Q I h;refine lv (xh I hg m ?_ b);refine fM (h₀:=X.base) I.ok.mod.kin a (thn (j pos pins s σ H _ I h) λus s1 ⟨vs,H1,d,r,q⟩=>⟨d.kIn,?_⟩) i l;exact ZZ F c g hd hx d r q
theorem qd0 {pl:Sem Bool} (y:PE X o ta) (c:Cls X.K C) (g:Meth X.K C m f) (F:FnOk X.prog X.w X.K X.mg X.base CX k f fd ps sp) (v:Room k X.A) (z:Binds X.K fd ps ds) (hd:Vals dvs ds) (hx:ky CX X E) (B:PA X (e::es) t)
  (b:iX (e::es) X.env=(iS,eval e X.env)::iX es X.env:=by rfl) (d:(li pos (iX es X.env)).any (·.1)=false:=by rfl)
  (ht:eval (.Call (.Attribute o m apos) (e::es) [] pos) X.env=(do
   let ov <-eval o X.env
   ny apos.atName
   let (f,first) <-holding [ov] (mX ov m pl)
   callWith pos f first (li pos (iX (e::es) X.env)) (lW pos (lr [] X.env))):=by rfl) :
  PE X (.Call (.Attribute o m apos) (e::es) [] pos) (qgi C m sp dvs E ta t):=by
 refine ⟨?_⟩;intro pins s σ H Q I h;refine PySem.W.methodCall_KW (pl:=pl) (thn (y pins s σ H _ I h) λu s1 ⟨x,H1,j,n,a,dx,fs,ex,D,l,q⟩=>?_) ht;subst ex;obtain rfl:u=aL a:=n;refine QO j D c g l ?_;refine fM (first:=[.ref a]) (h₀:=X.base) I.ok.mod.kin g.kp (thn (B pos pins s1 σ H1 _ j q) λus s2 ⟨vs,H2,i,r,p⟩=>⟨i.kIn,?_⟩) b d;exact ZZ (us:=.ref a::us) (vs:=.ref a::vs) F v z hd hx i (.cons rfl r) p
theorem qbQ {pl:Sem Bool} (i:PE X o ta) (c:Cls X.K C) (b:Meth X.K C m f) (F:FnOk X.prog X.w X.K X.mg X.base CX k f fd ps sp) (e:Room k X.A) (g:Binds X.K fd ps ds) (hd:Vals dvs ds) (hx:ky CX X E)
  (ht:eval (.Call (.Attribute o m apos) [] [] pos) X.env=(do
   let ov <-eval o X.env
   ny apos.atName
   let (f,first) <-holding [ov] (mX ov m pl)
   callWith pos f first (li pos (iX [] X.env)) (lW pos (lr [] X.env))):=by rfl) :
  PE X (.Call (.Attribute o m apos) [] [] pos) (qgi C m sp dvs E ta qhU):=by
 refine ⟨?_⟩;intro pins s σ H Q I h;refine PySem.W.methodCall_KW (pl:=pl) (thn (i pins s σ H _ I h) λu s1 ⟨x,H1,d,r,a,dx,fs,ex,j,l,q⟩=>?_) ht;subst ex;obtain rfl:u=aL a:=r;refine QO d j c b l ?_;exact PySem.W.callWith_K0 (first:=[.ref a]) d.kIn b.kp (ZZ (us:=[.ref a]) (vs:=[.ref a]) F e g hd hx d (.cons rfl .nil) q)
structure Mk (K:Frag) (C f:Addr):Prop where
 makes:ii K C=iT
 init:aP K (.ref C) "__init__"=iO (iO (.ref f))
 fn:cQ K (.ref f)=iT
 kp:l8 K (.ref C)=iT
theorem qbR {pins:Pns} {σ:St} {H:Hp} {s:iU} {Q:VK} {us:List iR} {vs:List V} (M:Mk X.K C f) (F:FnOk X.prog X.w X.K X.mg X.base CX k f fd ps sp) (b:Room (k+1) X.A) (g:Binds X.K fd ps ds) (hd:Vals dvs ds)
  (hx:ky CX X E) (I:Inv X pins σ H s) (r:Vals vs us)
  (h:∀ x dx,H x=iQ->H dx=iQ->dx≠x->sp (.ref x::(vs++dvs)) (upd (upd H dx (.own x)) x (.ins C dx [])) (λv H2=>v=.non/\Q (.ref x) H2) E) :
  iW (model X.prog X.w) X.A (call (.ref C) us) (EP X pins σ Q) X.xe s:=by
 have hq:=h (s.heap.objs.size+1) s.heap.objs.size (I.hok.fresh (iB _)) (I.hok.fresh (ap _)) (ay (fA _));have c:=Inv.made (C:=C) I;have r2:Vals (V.ref (s.heap.objs.size+1)::(vs++dvs)) (aL (s.heap.objs.size+1)::(us++ds)):=.cons rfl (r.append hd);have hl:(aL (s.heap.objs.size+1)::us++ds).length=ps.length:=by have e:=r2.length;rw [F.len _ _ _ _ hq] at e;exact e.symm
 refine wpAny_call (qbO (f:=f) I.kIn M.makes M.init (beq_iff_eq.mp M.fn) (ml (F.run _ X.stack _ _ ⟨aL (s.heap.objs.size+1)::us,[]⟩ (aL (s.heap.objs.size+1)::(us++ds)) _ _ E (b.make C us [])
  (c.env0.make C us []) (g _ (aL (s.heap.objs.size+1)::us) c.kIn hl) r2 hq) λr s' a=>?_))
 cases r with
 | error e=>exact hx pins σ _ _ e s' c a
 | ok l=>
  cases l with
  | ret u=>obtain ⟨v,H',i,d,ev,q⟩:=c.after a;subst ev;exact ⟨d,⟨V.ref (s.heap.objs.size+1),H',i,rfl,q⟩⟩
  | next=>exact cA a
  | brk=>exact cA a
  | cont=>exact cA a
theorem qd1 (M:Mk X.K C f) (F:FnOk X.prog X.w X.K X.mg X.base CX k f fd ps sp) (c:Room (k+1) X.A) (hg:Gl X x) (m:X.mg x=iO (.ref C)) (a:Binds X.K fd ps ds) (hd:Vals dvs ds) (hx:ky CX X E)
  (g:PA X (e::es) t) (b:Dbg x:=by decide) (i:iX (e::es) X.env=(iS,eval e X.env)::iX es X.env:=by rfl) (l:(li pos (iX es X.env)).any (·.1)=false:=by rfl) :
  PE X (.Call (.Name x p) (e::es) [] pos) (qiI C sp dvs E t):=by
 refine ⟨?_⟩;intro pins s σ H Q I h;refine lv (xh I hg m ?_ b);refine fM (h₀:=X.base) I.ok.mod.kin M.kp (thn (g pos pins s σ H _ I h) λus s1 ⟨vs,H1,d,r,q⟩=>⟨d.kIn,?_⟩) i l;exact qbR M F c a hd hx d r q
end
section
variable {k:Nat} {f:Addr} {ks:List Str} {E:XK} {kpos:Pos} {o:Expr} {kws:List lI} {tk:TA} {nm:Option Str}
variable {g:List iR->List iR->List iR} {gV:List V->List V->List V}
end
structure FnScope (N P:List Str) (sc:mC):Prop where
 kind:sc.kind=.function
 co:sc.isCoroutine=iS
 gen:sc.isGenerator=iS
 nd:N.Nodup
 pre:N.take P.length=P
 par:∀ x∈P,sc.names.lookup x=iO .local\/sc.names.lookup x=iO .cell
 nofree:∀ y∈sc.names,y.2≠.free
variable {kindOf:Str->Option lR}
theorem KN:∀ {binds:List (Str×iR)} {m:Str->Option iR},(∀ v,(x,v)∉binds)->bindL kindOf binds m x=m x
 | [],_,_=>rfl
 | (n,v)::r,m,h=>by
  unfold bindL;rw [KN λw hw=>h w (ae _ hw)];split
  ·have:x≠n:=by rintro rfl; exact h v aj
   simp [this]
  ·rfl
theorem KO:∀ {binds:List (Str×iR)} {m:Str->Option iR},(∀ v,(x,v)∉binds)->bindC kindOf binds m x=m x
 | [],_,_=>rfl
 | (n,v)::r,m,h=>by
  unfold bindC;rw [KO λw hw=>h w (ae _ hw)];split;·rfl
  ·have:x≠n:=by rintro rfl; exact h v aj
   simp [this]
theorem KQ {kindOf:Str->Option lR} {x:Str} {v:iR}:∀ {P:List Str} {vs:List iR} {i:Nat} {m:Str->Option iR},P.Nodup->P[i]?=iO x->vs[i]?=iO v->kindOf x=iO .local ->bindL kindOf (P.zip vs) m x=iO v
 | [],_,_,_,_,h,_,_=>by simp at h
 | _::_,[],_,_,_,_,h,_=>by simp at h
 | p::P,w::vs,0,m,nd,h1,h2,hk=>by simp at h1 h2; subst h1; subst h2;show bindL kindOf ((p,w)::P.zip vs) m p=_;unfold bindL;rw [KN λv c=>(aT.mp nd).1 (dD c).1,Aa hk];simp
 | p::P,w::vs,i+1,m,nd,h1,h2,hk=>by show bindL kindOf ((p,w)::P.zip vs) m x=_;unfold bindL;exact KQ (i:=i) (aT.mp nd).2 (by simpa using h1) (by simpa using h2) hk
theorem KR {kindOf:Str->Option lR} {x:Str} {v:iR}:∀ {P:List Str} {vs:List iR} {i:Nat} {m:Str->Option iR},P.Nodup->P[i]?=iO x->vs[i]?=iO v->kindOf x≠iO .local ->bindC kindOf (P.zip vs) m x=iO v
 | [],_,_,_,_,h,_,_=>by simp at h
 | _::_,[],_,_,_,_,h,_=>by simp at h
 | p::P,w::vs,0,m,nd,h1,h2,hk=>by simp at h1 h2; subst h1; subst h2;show bindC kindOf ((p,w)::P.zip vs) m p=_;unfold bindC;rw [KO λv c=>(aT.mp nd).1 (dD c).1,Ab hk];simp
 | p::P,w::vs,i+1,m,nd,h1,h2,hk=>by show bindC kindOf ((p,w)::P.zip vs) m x=_;unfold bindC;exact KR (i:=i) (aT.mp nd).2 (by simpa using h1) (by simpa using h2) hk
noncomputable def yo (N:List Str) (vs:List V):St:=vs.map iO++bg (N.length - vs.length) iQ
def qd2 (CX:CXT) (P:i7) (w:i8) (K:Frag) (mg:Str->Option iR) (base:Heap) (N:List Str) (qual:Str) (scope:mC) (f:Addr) (cd:iR) (A:j9) (outer:List Env) (s:iU) (H:Hp) (E:XK):Cx where
 prog:=P
 w:=w
 K:=K
 mg:=mg
 base:=base
 A:=A.deeper (mL qual scope s.heap.objs.size f cd)
 N:=N
 s₀:=s
 H₀:=H
 env:=mL qual scope s.heap.objs.size f cd
 outer:=outer
 stack:=mL qual scope s.heap.objs.size f cd::outer
 ex:=[]
 calm:=iT
 fn:=λ_=>iT
 pn:=[]
 xe:=λe s'=>iW (model P w) (A.deeper (mL qual scope s.heap.objs.size f cd)) (leaving (mL qual scope s.heap.objs.size f cd) e) (λ_ a=>CX outer H s E e a) (λb a=>CX outer H s E b a) s'
theorem UU {sc:mC} {n:Nat} (h:sc.names.lookup x=iO .cell):∃ c,(cellsFrom n sc.names []).lookup x=iO c:=by have q:=PySem.W.cellsFrom_some sc.names n [] (.inl h);exact Option.isSome_iff_exists.mp q
theorem Ga {CX:CXT} {P:i7} {w:i8} {K:Frag} {mg:Str->Option iR} {base:Heap} {N ps:List Str} {qual:Str} {scope:mC} {f:Addr} {cd:iR} {A:j9} {outer:List Env} {s s1:iU} {H:Hp} {E:XK} {us:List iR} {vs:List V}
  (S:FnScope N ps scope) (hd:A.handled=iQ) (e0:Env0 P w K mg base A outer s H) (hl:vs.length=ps.length) (r:Vals vs us)
  (x:InCallC s s.heap.objs.size (bindL (mL qual scope s.heap.objs.size f cd).kindOf (ps.zip us) λ_=>iQ) (cellsFrom (s.heap.objs.size+1) scope.names []) (bindC (mL qual scope s.heap.objs.size f cd).kindOf (ps.zip us) λ_=>iQ) s1) :
  Inv (qd2 CX P w K mg base N qual scope f cd A outer s H E) [] (yo N vs) H s1:=by
 have o:ps.length<=N.length:=by have:=congrArg List.length S.pre; rw [bX] at this; lia
 obtain ⟨h1,tk,rfl,l⟩:=x.done;have d:∀ b:Addr,b∉(qd2 CX P w K mg base N qual scope f cd A outer s H E).ex:=λb z=>absurd (show b∈([]:List Addr) from z) (by simp);refine ⟨⟨e0.mod,S.kind,rfl,rfl,ap _,λy z c h1 h2=>?_,λy B=>?_,λy c _ h=>?_,λ_=>hd,Around.frames_deeper e0.frames,.inr ⟨rfl,rfl⟩,λb z=>absurd z (d b),e0.bs,e0.bsz,λb _ _=>d b,λb z=>absurd z (d b),e0.funs,e0.frf⟩,rfl,e0.bare,Un.kept l,⟨_,x.toInCall.ns,λi y v h1 h2 h3=>?_⟩,λy c h=>⟨_,x.cell y c h⟩,e0.hok.fresh (ap _),λy c h=>?_,λp hp=>absurd (show p∈([]:Pns) from hp) (by simp),e0.hok.kept l,?_⟩;·exact name_of_addr x.apart (cW h1) (cW h2)
 ·have B:scope.names.lookup y=iO .cell\/scope.names.lookup y=iO .free:=B;rcases B with B | B;·exact UU B
  ·exact absurd rfl (S.nofree _ (cW B))
 ·exact dh (x.above y c (cW h))
 ·have hi:i < vs.length:=by
   unfold yo at h2;by_cases hi:i < vs.length;·exact hi
   ·rw [cB (by simpa using hi)] at h2;rw [bB] at h2;split at h2 <;> cases h2
  have t:vs[i]?=iO v:=by
   unfold yo at h2;rw [cG (by simpa using hi),aF] at h2;cases e:vs[i]? with
   | none=>rw [e] at h2; cases h2
   | some a=>rw [e] at h2; cases h2; rfl
  obtain ⟨u,j,m⟩:=r.get t;have hp:ps[i]?=iO y:=by rw [<-S.pre,List.getElem?_take_of_lt (by lia)]; exact h1
  have g:ps.Nodup:=by rw [<-S.pre]; exact S.nd.sublist (List.take_sublist _ _)
  refine ⟨u,m,?_⟩;rcases S.par y (dO hp) with k | k;·exact .inl ⟨k,KQ g hp j k⟩
  ·obtain ⟨c,e⟩:=UU (n:=s.heap.objs.size+1) k;refine .inr ⟨.inl k,c,e,?_⟩;have q:=x.cell y c e;rw [KR g hp j (by show scope.names.lookup y≠_; rw [k]; decide)] at q;exact q
 ·exact e0.hok.fresh (dh (x.above y c (cW h)))
 ·unfold yo;show _=N.length;rw [ao,am,fj]
  lia
theorem qiJ {CX:CXT} {P:i7} {w:i8} {K:Frag} {mg:Str->Option iR} {base:Heap} {k:Nat} {f:Addr} {name qual:Str} {params:Arguments} {body:List Stmt} {scope:mC} {i kV doc pm cdv ct oc:iR} {an od:Option Addr}
  {osl:Array (Option iR)} {N ps:List Str} {sp:Sp} (j:K.lookup f=iO ⟨oc,od,.func (cg name qual params body scope i kV doc pm an cdv ct),osl⟩) (g:mV K cdv qual=iT) (S:FnScope N ps scope)
  (len:∀ vs H Q E,sp vs H Q E->vs.length=ps.length)
  (a:∀ (A:j9) (outer:List Env) (s:iU) (H:Hp) (vs:List V) (Q:VK) (E:XK),Room k (A.deeper (mL qual scope s.heap.objs.size f cdv))->sp vs H Q E ->∃ t,PSs (qd2 CX P w K mg base N qual scope f cdv A outer s H E) body t/\t { nx:=λ_ H'=>Q .non H',rt:=Q } (yo N vs) H) :
  FnOk P w K mg base CX (k+1) f (cg name qual params body scope i kV doc pm an cdv ct) ps sp:=by
 refine ⟨len,λA outer s H args us vs Q E c e0 z r p=>?_⟩;have hl:=len _ _ _ _ p;have X:K.In s.heap:=e0.mod.kin.keeps λb o e=>(e0.bs b o e).1;have l:s.heap.NoLimit:=e0.mod.nolimit.keeps λb o e=>(e0.bs b o e).1;have h:∀ y∈ps.zip us,scope.names.lookup y.1=iO .local\/(scope.names.lookup y.1=iO .cell/\((cellsFrom (s.heap.objs.size+1) scope.names []).lookup y.1).isSome=iT):=λ⟨n,v⟩ B=>by
  rcases S.par n (dD B).1 with q | q;·exact .inl q
  ·exact .inr ⟨q,PySem.W.cellsFrom_some _ _ _ (.inl q)⟩
 refine codeAny_call_function c.depth (X _ _ j) rfl S.co S.gen rfl (PySem.W.codeRec_of X g) (z _ _ _ _ ?_);refine wpAny_newFunctionEnv_cells S.kind h λenv m s1 x=>?_;subst m;refine ⟨l.keeps x.toInCall.keep,codeAny_func ?_⟩;obtain ⟨t,ht,hq⟩:=a A outer s H vs Q E (c.deeper _) p;have I:Inv (qd2 CX P w K mg base N qual scope f cdv A outer s H E) [] (yo N vs) H s1:=Ga S c.hd e0 hl r x;refine lB (ht [] s1 (yo N vs) H _ I hq) (λC s' hs=>?_) λe s' hs=>hs;have fin:∀ {σ':St} {H':Hp} {v:V} {u:iR},Inv (qd2 CX P w K mg base N qual scope f cdv A outer s H E) [] σ' H' s'->RelV v u->Q v H'->CE outer P w H s Q u s':=
  λ{σ' H' v u} J d q=>⟨v,H',J.os,J.bare,J.base,J.hok,d,q⟩
 cases C with
 | ret u=>obtain ⟨v,σ',H',J,d,q⟩:=hs;exact fin J d q
 | next=>obtain ⟨σ',H',J,q⟩:=hs;exact fin (v:=V.non) (u:=bO) J rfl q
 | brk=>obtain ⟨_,_,_,q⟩:=hs;exact cA q
 | cont=>obtain ⟨_,_,_,q⟩:=hs;exact cA q
section
variable {id T:String} {r:List V->Hp->VK->Prop}
def tCB (r:List V->Hp->VK->Prop) (t:TA):TE:=λσ H Q=>t σ H λvs H1=>r vs H1 Q
theorem yp (d:wB X (.builtin id) r) (hg:Gl X x) (m:X.mg x=iQ) (c:iZ x=iO (.builtin id)) (g:PA X (e::es) t) (n:x ≠ "__name__":=by decide) (b:Dbg x:=by decide)
  (i:iX (e::es) X.env=(iS,eval e X.env)::iX es X.env:=by rfl) (l:(li pos (iX es X.env)).any (·.1)=false:=by rfl):PE X (.Call (.Name x p) (e::es) [] pos) (tCB r t):=by
 refine ⟨?_⟩;intro pins s σ H Q I h;refine lv (yn I hg m c ?_ n b);exact PyProof.Rows.callWith_builtin1 (thn (g pos pins s σ H _ I h) λus s1 ⟨vs,H1,a,r1,q⟩=>d pins s1 σ H1 vs us Q a r1 q) i l
theorem wC (d:wB X (.type T) r) (hg:Gl X x) (m:X.mg x=iQ) (c:iZ x=iO (.type T)) (g:PA X (e::es) t) (n:x ≠ "__name__":=by decide) (b:Dbg x:=by decide)
  (i:iX (e::es) X.env=(iS,eval e X.env)::iX es X.env:=by rfl) (l:(li pos (iX es X.env)).any (·.1)=false:=by rfl):PE X (.Call (.Name x p) (e::es) [] pos) (tCB r t):=by
 refine ⟨?_⟩;intro pins s σ H Q I h;refine lv (yn I hg m c ?_ n b);exact bA (thn (g pos pins s σ H _ I h) λus s1 ⟨vs,H1,a,r1,q⟩=>d pins s1 σ H1 vs us Q a r1 q) i l
end
end L2
namespace HT
open PySem PyProof.Rows
section
open PySem.SeqAt
open PySem.AutoSeq1 (wpAny_loadPart')
open PySem.MeetsSeq PySem.MeetsSeq2 PySem.MeetsSeq3
end
section
variable {prog:i7} {w:i8} {A:j9} {E:iR->iU->Prop} {s:iU}
theorem cat_tup {t b:Addr} {vs ws:List iR} {Q:iR->iU->Prop} (ht:IsTup s.heap t vs.toArray) (j:IsTup s.heap b ws.toArray) (v:vs≠[])
  (h1:ws=[]->Q (.ref t) s) (h2:ws≠[]->Q (.ref s.heap.objs.size) { s with heap:=s.heap.push { cls:=.type "tuple",data:=.seq (vs++ws).toArray } })
  (hsz:vs.length+ws.length<=sizeLine):iW (model prog w) A (lD .Add (.ref t) (.ref b)) Q E s:=by
 obtain ⟨⟨cls,dd,data,sl⟩,l,g,n,hd⟩:=id ht;obtain ⟨⟨i,d,f,a⟩,h,c,n2,hd2⟩:=id j;simp only at g hd c hd2;subst g hd c hd2;have e:vs.toArray++ws.toArray=(vs++ws).toArray:=by simp
 by_cases hw:ws=[]
 ·exact m8 ⟨_,l,rfl⟩ ⟨_,h,rfl⟩ noFill_tuple_add seq_tuple_add eY eG (d5 _ _)
   (tuple_addW1 t b vs.toArray ws.toArray n n2 dd d sl a (by simpa using v) (by simp [hw])) ⟨l,h,h1 hw⟩
 ·refine m8 ⟨_,l,rfl⟩ ⟨_,h,rfl⟩ noFill_tuple_add seq_tuple_add eY eG (d5 _ _)
   (tuple_addW2 t b vs.toArray ws.toArray n n2 dd d sl a (by simpa using v) (by simpa using hw) (by rw [au,au]; exact hsz)) ⟨l,h,?_⟩
  rw [e];exact h2 hw
noncomputable def sIx (n d:Nat):Option Int->Nat
 | none=>d
 | some v=>if v < 0 then (v+(n:Int)).toNat else min v.toNat n
theorem sIx_none (n d:Nat):sIx n d iQ=d:=rfl
theorem sIx_nat (n d k:Nat):sIx n d (iO (k:Int))=min k n:=by show (if (k:Int) < 0 then ((k:Int)+(n:Int)).toNat else min (k:Int).toNat n)=min k n;rw [Ab (by lia),dH]
end
end HT
namespace L2
open PySem PySem.Spec PyProof.Rows
abbrev TO:=St->Hp->(Option Int->Hp->Prop)->Prop
def PO (X:Cx) (e:Option Expr) (t:TO):Prop:=
 ∀ (pins:Pns) (s:iU) (σ:St) (H:Hp) (Q:Option Int->Hp->Prop),Inv X pins σ H s->t σ H Q ->iW (model X.prog X.w) X.A (evalPart e X.env) (λu s'=>∃ o H',Inv X pins σ H' s'/\IsPart u o/\Q o H') X.xe s
def qd3:TO:=λ_ H Q=>Q iQ H
def qiK (t:TE):TO:=λσ H Q=>t σ H λx H1=>∃ i,x=.int i/\Q (iO i) H1
variable {X:Cx} {e:Expr} {pos:Pos} {xs:List V} {us:List iR}
section
variable {te:TE} {lo hi:Option Expr} {tl th:TO} {p2:Pos}
theorem qd4:PO X iQ qd3:=by intro pins s σ H Q I h;rw [evalPart_none];exact iV ⟨iQ,H,I,.none,h⟩
theorem qd5 (h:PE X e te):PO X (iO e) (qiK te):=by intro pins s σ H Q I hw;rw [evalPart_some];refine thn (h pins s σ H _ I hw) λu s1 ⟨x,H1,d,r1,a⟩=>?_;obtain ⟨i,rfl,q⟩:=a;obtain ⟨t,rfl⟩:=r1;exact ⟨iO i,H1,d,.int i t,q⟩
def SlR (X:Cx) (r:V->Option Int->Option Int->Hp->VK->Prop):Prop:=
 ∀ (pins:Pns) (s:iU) (σ:St) (H:Hp) (x:V) (v vl u:iR) (lo hi:Option Int) (sl:Addr) (Q:VK),Inv X pins σ H s->RelV x v->s.heap.IsSliceOf sl vl u .none->IsPart vl lo->IsPart u hi->r x lo hi H Q ->∃ T id,m9 (.type T) "__getitem__"=pure (iO (.builtin id))/\s.TypeIs v T/\iW (model X.prog X.w) X.A (getItem v (.ref sl)) (EP X pins σ Q) X.xe s
def tSl (r:V->Option Int->Option Int->Hp->VK->Prop) (te:TE) (tl th:TO):TE:=λσ H Q=>te σ H λx H1=>tl σ H1 λl H2=>th σ H2 λu d=>r x l u d Q
theorem qbS {r:V->Option Int->Option Int->Hp->VK->Prop} (j:SlR X r) (k:PE X e te) (hl:PO X lo tl) (i:PO X hi th):PE X (.Subscript e (.Slice lo hi iQ p2) pos) (tSl r te tl th):=by refine ⟨?_⟩;intro pins s σ H Q I h;refine Subscript_ (thn (k pins s σ H _ I h) λv s1 ⟨x,H1,o,r1,g⟩=>?_);refine wpAny_Slice (thn (hl pins s1 σ H1 _ o g) λvl s2 ⟨l,H2,n,pl,f⟩=>thn (i pins s2 σ H2 _ n f) λa s3 ⟨u,d,m,p,c⟩=>?_);rw [evalPart_none];refine iV ?_;have B:Inv X pins σ d { s3 with heap:=s3.heap.push { cls:=.type "slice",data:=.fields #[vl,a,.none] } }:=m.kept (t':=s3.toks) λb t q=>ac _ q;obtain ⟨T,id,hT,ht,hg⟩:=j pins { s3 with heap:=s3.heap.push { cls:=.type "slice",data:=.fields #[vl,a,.none] } } σ d x v vl a l u s3.heap.objs.size Q B r1 (Heap.IsSliceOf.new ..) pl p c;show iW (model X.prog X.w) X.A (subscriptTail e (.Slice lo hi iQ p2) v (.ref s3.heap.objs.size)) (EP X pins σ Q) X.xe { s3 with heap:=s3.heap.push { cls:=.type "slice",data:=.fields #[vl,a,.none] } };exact tail_any (ops:=[.ref s3.heap.objs.size,v]) ht hT hg (by with_unfolding_all rfl)
noncomputable def qd6 (xs:List V) (lo hi:Option Int):List V:=(xs.drop (HT.sIx xs.length 0 lo)).take (HT.sIx xs.length xs.length hi - HT.sIx xs.length 0 lo)
theorem WB (xs:List V) (lo hi:Option Int):(qd6 xs lo hi).length<=xs.length:=by
 unfold qd6;rw [bX,h8]
 lia
def qiL (K:Frag):R2:=λx y H Q=>∃ a b xs ys,x=.ref a/\y=.ref b/\SqT K H a xs/\SqT K H b ys/\xs≠[]/\xs.length+ys.length<=sizeLine /\
 (ys=[]->Q (.ref a) H)/\(ys≠[]->∀ p,H p=iQ->Q (.ref p) (upd H p (.tup (xs++ys))))
theorem Vals.nil_iff (r:Vals xs us):us=[]↔xs=[]:=by
 cases r with
 | nil=>simp
 | cons _ _=>simp
theorem qd7:OpR X (lD .Add) (qiL X.K):=by intro pins s σ H x y v u Q I d c h;obtain ⟨a,b,xs,ys,rfl,rfl,j,g,hx,hz,f,e⟩:=h;cases d;cases c;obtain ⟨its,r1,p1,_⟩:=I.tuple j;obtain ⟨i,r2,p2,_⟩:=I.tuple g;refine HT.cat_tup p1 p2 (λz=>hx (r1.nil_iff.mp z)) (λz=>⟨.ref a,H,I,rfl,f (r2.nil_iff.mp z)⟩) (λz=>?_) (by rw [<-r1.length,<-r2.length]; exact hz);refine ⟨.ref s.heap.objs.size,_,I.laid (t':=s.toks) (o:=.tup (xs++ys)) (λb k q=>ac _ q) (ap _) ?_,rfl,e (λw=>z (r2.nil_iff.mpr w)) _ (I.hok.fresh (ap _))⟩;exact ⟨⟨by rw [ao]; exact hz,_,ah _ rfl,rfl⟩,_,r1.append r2,IsTup.new _ _⟩
end
noncomputable def ixN (n:Nat) (i:Int):Option Nat:=if 0<=i then (if i < n then iO i.toNat else iQ) else if -(n:Int)<=i then iO (i+n).toNat else iQ
variable {α:Type}
noncomputable def atI (xs:List α) (i:Int):Option α:=(ixN xs.length i).bind λj=>xs[j]?
variable {n:Nat} {i:Int}
theorem qd8 {j:Nat} (h:ixN n i=iO j):seqIndex? i n=iO j/\j < n/\-(n:Int)<=i/\i < n:=by
 unfold ixN at h;by_cases h0:0<=i
 ·rw [Aa h0] at h;by_cases h1:i < n;·rw [Aa h1] at h;have e:i.toNat=j:=aM.inj h;exact ⟨by rw [seqIndex_of h0 h1,e],by lia,by lia,h1⟩
  ·rw [Ab h1] at h; cases h
 ·rw [Ab h0] at h;by_cases h1:-(n:Int)<=i;·rw [Aa h1] at h;have e:(i+n).toNat=j:=aM.inj h;exact ⟨by rw [seqIndex_neg (by lia) h1,e],by lia,h1,by lia⟩
  ·rw [Ab h1] at h; cases h
theorem WC {xs:List α} {v:α} (h:atI xs i=iO v):∃ j,seqIndex? i xs.length=iO j/\xs[j]?=iO v/\j < xs.length/\-(xs.length:Int)<=i/\i < xs.length:=by
 unfold atI at h;cases e:ixN xs.length i with
 | none=>rw [e] at h; cases h
 | some j=>rw [e] at h;obtain ⟨h1,h2,h3,a⟩:=qd8 e;exact ⟨j,h1,h,h2,h3,a⟩
def WD (b:Expr):Prop:=∀ o i,subscripted b iS o i=operate [o,i] (getItem o i)
def IxR (X:Cx) (r:R2):Prop:=
 ∀ (value e:Expr) (pins:Pns) (s:iU) (σ:St) (H:Hp) (x y:V) (v u:iR) (Q:VK),Inv X pins σ H s->RelV x v->RelV y u->r x y H Q ->subscripted e iS v u=operate [v,u] (getItem v u)->iW (model X.prog X.w) X.A (subscriptTail value e v u) (EP X pins σ Q) X.xe s
def MtR (X:Cx) (id:String) (r:V->List V->Hp->VK->Prop):Prop:=
 ∀ (pins:Pns) (s:iU) (σ:St) (H:Hp) (x:V) (xs:List V) (v:iR) (us:List iR) (Q:VK),Inv X pins σ H s->RelV x v->Vals xs us->r x xs H Q ->iW (model X.prog X.w) X.A (call (.builtin id) (v::us)) (EP X pins σ Q) X.xe s
variable {pins:Pns} {σ:St} {H:Hp} {s:iU} {T:String} {x:V}
section
variable {a b:Expr} {ta tb:TE}
theorem IxR.or {r r':R2} (h:IxR X r) (h':IxR X r'):IxR X (λx y H Q=>r x y H Q\/r' x y H Q):=by
 intro value e pins s σ H x y v u Q I d c q hs;rcases q with q | q;·exact h value e pins s σ H x y v u Q I d c q hs
 ·exact h' value e pins s σ H x y v u Q I d c q hs
theorem qiM {r:R2} (e:IxR X r) (g:PE X a ta) (f:PE X b tb) (hs:WD b):PE X (.Subscript a b pos) (tOp r ta tb):=by refine ⟨?_⟩;intro pins s σ H Q I h;exact Subscript_ (qiz g f I h λv u s2 x y H2 i d c q=>e a b pins s2 σ H2 x y v u Q i d c q (hs _ _))
def qjF (K:Frag):R2:=λx y H Q=>∃ p xs i v,x=.ref p/\y=.int i/\SqL K H p xs/\atI xs i=iO v/\Q v H
def qjG (K:Frag):R2:=λx y H Q=>∃ p xs i v,x=.ref p/\y=.int i/\SqT K H p xs/\atI xs i=iO v/\Q v H
def qjH:R2:=λx y H Q=>∃ z i c,x=.str z/\y=.int i/\z.length<=sizeLine/\atI z.cps.toList i=iO c/\Q (.str ⟨#[c]⟩) H
theorem qd9:IxR X (qjF X.K):=by
 intro value e pins s σ H x y v u Q I d c h hs;obtain ⟨p,xs,i,z,rfl,rfl,hq,b,q⟩:=h;cases d;obtain ⟨t,rfl⟩:=c;obtain ⟨its,r,pl,hz⟩:=I.list hq;obtain ⟨j,h1,h2,h3,g,f⟩:=WC b;obtain ⟨w,ew,a⟩:=r.get h2;have hl:=r.length;have n:=KL;have fin:EP X pins σ Q w s:=⟨z,H,I,a,q⟩
 by_cases h0:0<=i
 ·have D:i.toNat=j:=by rw [seqIndex_of h0 f] at h1;exact aM.inj h1
  exact item_listR pl.isList h0 (by lia) (by rw [D]; simpa using ew) fin hs
 ·have D:(i+(its.toArray.size:Int)).toNat=j:=by rw [seqIndex_neg (by lia) g] at h1;rw [au,<-hl];exact aM.inj h1
  exact subscriptTail_builtinR (x:=w) pl.isList.typeIs slot_list_getitem.lookup
   (wpAny_getItem_list_neg (Q:=λr s'=>r=w/\EP X pins σ Q r s') pl.isList (by lia) (by rw [au] <;> lia) (by lia) (by rw [D]; simpa using ew) ⟨rfl,fin⟩) hs
theorem qgj:IxR X (qjG X.K):=by
 intro value e pins s σ H x y v u Q I d c h hs;obtain ⟨p,xs,i,z,rfl,rfl,hq,b,q⟩:=h;cases d;obtain ⟨t,rfl⟩:=c;obtain ⟨its,r,pl,hz⟩:=I.tuple hq;obtain ⟨j,h1,h2,h3,g,f⟩:=WC b;obtain ⟨w,ew,a⟩:=r.get h2;have hl:=r.length;have n:=KL;have fin:EP X pins σ Q w s:=⟨z,H,I,a,q⟩
 exact subscriptTail_builtinR (x:=w) pl.typeIs slot_tuple_getitem.lookup
  (getItem_tuple (j:=j) (Q:=λr s'=>r=w/\EP X pins σ Q r s') pl (by lia) (by lia) (by rw [au,<-hl]; exact h1) (by simpa using ew) ⟨rfl,fin⟩) hs
theorem qgk:IxR X qjH:=by
 intro value e pins s σ H x y v u Q I d r h hs;obtain ⟨z,i,c,rfl,rfl,hz,a,q⟩:=h;obtain ⟨t,rfl⟩:=d;obtain ⟨t',rfl⟩:=r;obtain ⟨j,h1,h2,h3,b,f⟩:=WC a;have hl:z.cps.toList.length=z.length:=by simp [cC]
 rw [hl] at h1 b f;have n:=KL;exact tail_any (mQ s z t) slot_str_getitem.lookup (getItem_str (c:=c) (by have e1:decide (i < -(2 ^ 63:Int))=false:=Ac (by lia);have g:decide (i ≥ 2 ^ 63)=false:=Ac (by lia);rw [e1,g,g8]) (by rw [h1]; simpa using h2) ⟨.str ⟨#[c]⟩,H,I.tok _,⟨_,rfl⟩,q⟩) hs
def rIx (K:Frag):R2:=λx y H Q=>qjF K x y H Q\/qjG K x y H Q\/qjH x y H Q
theorem qgl:IxR X (rIx X.K):=qd9.or (qgj.or qgk)
theorem KS (lo hi:Option Int) (n:Nat):(mi lo hi iQ n).1=((HT.sIx n 0 lo:Nat):Int)/\(mi lo hi iQ n).2.1=((HT.sIx n n hi:Nat):Int)/\(mi lo hi iQ n).2.2=1:=by
 refine ⟨?_,?_,rfl⟩
 ·cases lo with
  | none=>simp [mi,HT.sIx]
  | some i=>
   simp only [mi,HT.sIx,Option.getD_none,show (1:Int) > 0 by decide,if_true];by_cases h:i < 0;·simp only [h,if_true] <;> lia
   ·simp only [h,if_false] <;> lia
 ·cases hi with
  | none=>simp [mi,HT.sIx]
  | some i=>
   simp only [mi,HT.sIx,Option.getD_none,show (1:Int) > 0 by decide,if_true];by_cases h:i < 0;·simp only [h,if_true] <;> lia
   ·simp only [h,if_false] <;> lia
theorem Ju (its:List iR) (lo hi:Option Int):slicePick its.toArray lo hi iQ=((its.drop (HT.sIx its.length 0 lo)).take (HT.sIx its.length its.length hi - HT.sIx its.length 0 lo)).toArray:=by obtain ⟨h1,h2,h3⟩:=KS lo hi its.toArray.size;unfold slicePick;rw [h1,h2,h3];simp only [sliceRange_one,pick_run,au] <;> rfl
def qkm (K:Frag):V->Option Int->Option Int->Hp->VK->Prop:=λx lo hi H Q=>∃ a xs,x=.ref a/\SqL K H a xs/\∀ p,H p=iQ->Q (.ref p) (upd H p (.lst (qd6 xs lo hi)))
theorem qea:SlR X (qkm X.K):=by intro pins s σ H x v vl u lo hi sl Q I d hs pl p h;obtain ⟨a,xs,rfl,hx,q⟩:=h;cases d;obtain ⟨its,r,ht,hz⟩:=I.list hx;have n:=r.length;refine ⟨"list",_,slot_list_getitem.lookup,ht.isList.typeIs,?_⟩;refine wpAny_getItem_list_slice ht.isList hs pl p .none (by simp) ?_ (by rw [au] <;> lia);rw [Ju,<-n];refine ⟨.ref s.heap.objs.size,_,I.laid (t':=s.toks) (o:=.lst (qd6 xs lo hi)) (λb c q=>ac _ q) (ap _) ?_,rfl,q _ (I.hok.fresh (ap _))⟩;exact ⟨bu (WB xs lo hi) hz,_,0,(r.drop (HT.sIx xs.length 0 lo)).take (HT.sIx xs.length xs.length hi - HT.sIx xs.length 0 lo),ah _ rfl⟩
theorem xN:wB X (.type "list") (λxs H Q=>∃ p ys,xs=[.ref p]/\(SqL X.K H p ys\/SqT X.K H p ys)/\∀ l,H l=iQ->Q (.ref l) (upd H l (.lst ys))):=by
 intro pins s σ H xs us Q I r h;obtain ⟨p,ys,rfl,hq,q⟩:=h;obtain ⟨u,rfl,x⟩:=uP r;cases x;have fin:∀ (its:List iR),Vals ys its->ys.length<=sizeLine->∀ (h':Heap) (S:Nat),(∀ b o',s.heap.get? b=iO o'->h'.get? b=iO o') ->h'.get? s.heap.objs.size=iO { cls:=.type "list",dict:=iQ,data:=.seq its.toArray S,slots:=#[] }->EP X pins σ Q (.ref s.heap.objs.size) { s with heap:=h' }:=λits r' hz h' S kp e=>
  ⟨.ref s.heap.objs.size,_,I.laid (t':=s.toks) kp (ap _) (show ObjOk X.prog X.w _ h' _ (.lst ys) from ⟨hz,its,S,r',e⟩),rfl,q _ (I.hok.fresh (ap _))⟩
 rcases hq with hq | hq;·obtain ⟨its,r',pl,hz⟩:=I.list hq;have a:=r'.length;obtain ⟨o,c,d,n,hd⟩:=pl.isList;exact call_list_seq p (.inl rfl) c d hd (λh' S kp e=>fin its r' hz h' S kp e) (by simp only [au] <;> lia)
 ·obtain ⟨its,r',pl,hz⟩:=I.tuple hq;have a:=r'.length;obtain ⟨o,c,d,n,hd⟩:=pl;exact call_list_seq p (.inr rfl) c d hd (λh' S kp e=>fin its r' hz h' S kp e) (by simp only [au] <;> lia)
theorem yq:wB X (.type "tuple") (λxs H Q=>∃ p ys,xs=[.ref p]/\((SqL X.K H p ys/\∀ l,H l=iQ->Q (.ref l) (upd H l (.tup ys)))\/(SqT X.K H p ys/\Q (.ref p) H))):=by
 intro pins s σ H xs us Q I r h;obtain ⟨p,ys,rfl,h⟩:=h;obtain ⟨u,rfl,x⟩:=uP r;cases x;rcases h with ⟨hq,q⟩ | ⟨hq,q⟩
 ·obtain ⟨its,r',pl,hz⟩:=I.list hq;have n:=r'.length;refine call_tuple_list pl.isList (λh' kp=>?_) (by simp only [au] <;> lia);have d:Inv X pins σ H { s with heap:=h' }:=I.kept (t':=s.toks) kp;have c:Inv X pins σ (upd H h'.objs.size (.tup ys)) { s with heap:=h'.push { cls:=.type "tuple",data:=.seq its.toArray } }:=
   d.laid (t':=s.toks) (λb o e=>ac _ e) (ap _) (show ObjOk X.prog X.w _ _ _ (.tup ys) from ⟨⟨hz,_,ah _ rfl,rfl⟩,its,r',IsTup.new _ _⟩)
  exact ⟨.ref h'.objs.size,_,c,rfl,q _ (d.hok.fresh (ap _))⟩
 ·obtain ⟨its,r',pl,hz⟩:=I.tuple hq;exact call_tuple_same pl ⟨.ref p,H,I,rfl,q⟩
def tyV (K:Frag) (T:String) (x:V) (H:Hp):Prop:=match x with
 | .str _=>T = "str"
 | .int _=>T = "int"
 | .ref p=>(T = "list"/\∃ xs,SqL K H p xs)\/(T = "tuple"/\∃ o,K.lookup p=iO o/\o.cls=.type "tuple"/\o.dict=iQ) \/
   (T = "dict"/\((∃ kvs,H p=iO (.dK kvs))\/∃ kvs,H p=iO (.dT kvs)))\/(T = "set"/\∃ S n,H p=iO (.set S n))
 | _=>False
theorem qgm {v:iR} (I:Inv X pins σ H s) (r:RelV x v) (ty:tyV X.K T x H):s.TypeIs v T/\∀ a,v=.ref a->∃ d,s.heap.get? a=iO d/\d.dict=none:=by
 cases x with
 | str z=>obtain ⟨t,rfl⟩:=r;cases (show T = "str" from ty);exact ⟨mQ s z t,λ_ e=>nomatch e⟩
 | int i=>obtain ⟨t,rfl⟩:=r;cases (show T = "int" from ty);exact ⟨typeIs_int s i t,λ_ e=>nomatch e⟩
 | ref p=>
  cases r;rcases ty with ⟨rfl,xs,hq⟩ | ⟨rfl,o,k,h,hd⟩ | ⟨rfl,k⟩ | ⟨rfl,S,n,k⟩
  ·obtain ⟨its,_,pl,_⟩:=I.list hq;refine ⟨pl.isList.typeIs,λa e=>?_⟩;cases e;obtain ⟨o,n,e,c,hd,_⟩:=pl;exact ⟨o,e,hd⟩
  ·refine ⟨⟨o,I.kIn p o k,h⟩,λa e=>?_⟩;cases e;exact ⟨o,I.kIn _ o k,hd⟩
  ·have z:∃ o,s.heap.get? p=iO o/\o.ExactDict:=by
    rcases k with ⟨kvs,k⟩ | ⟨kvs,k⟩
    ·obtain ⟨_,_,_,_,o,_,_,e,ex,_⟩:=I.hok p _ k;exact ⟨o,e,ex⟩
    ·obtain ⟨_,_,_,_,o,_,_,e,ex,_⟩:=I.hok p _ k;exact ⟨o,e,ex⟩
   obtain ⟨o,e,ex⟩:=z;refine ⟨⟨o,e,ex.1⟩,λa b=>?_⟩;cases b;exact ⟨o,e,ex.2.1⟩
  ·obtain ⟨o,_,_,_,e,ex,_⟩:=I.hok p _ k;refine ⟨⟨o,e,ex.1⟩,λa b=>?_⟩;cases b;exact ⟨o,e,ex.2.1⟩
 | _=>exact cA ty
def tBM (K:Frag) (T:String) (r:V->List V->Hp->VK->Prop) (to:TE) (t:TA):TE:=λσ H Q=>to σ H λx H1=>tyV K T x H1/\t σ H1 λxs H2=>r x xs H2 Q
variable {o:Expr} {es:List Expr} {to:TE} {t:TA} {name:Str} {apos cpos:Pos} {id:String} {r:V->List V->Hp->VK->Prop}
theorem Gb (pa:PlainAttrs T) (slot:Slot T name id) (y:typeOf (.builtin id)=pure (.type "method_descriptor")) (m:MtR X id r) (l:PE X o to) (g:PA X (e::es) t)
  (b:lg o name X.env (eval o X.env)=eval o X.env:=by rfl)
  (w:((li cpos (iX (e::es) X.env)).all (λx=>!x.1)&&(lW cpos (lr [] X.env)).all (λx=>x.1.isSome)
   && decide ((e::es).length+([]:List lI).length+(if ([]:List lI).isEmpty then 0 else 1) < 30))=true:=by rfl)
  (a:(apos.endLine == cpos.line)=true:=by rfl) (hs:iX (e::es) X.env=(iS,eval e X.env)::iX es X.env:=by rfl) (n:(li cpos (iX es X.env)).any (·.1)=false:=by rfl) :
  PE X (.Call (.Attribute o name apos) (e::es) [] cpos) (tBM X.K T r to t):=by
 refine ⟨?_⟩;intro pins s σ H Q I h;refine wpAny_Call_method_late b w a rfl (thn (l pins s σ H _ I h) λv s1 ⟨x,H1,d,r1,ty,c⟩=>?_);obtain ⟨h1,h2⟩:=qgm d r1 ty;refine ⟨T,id,pa,slot,y,h1,h2,?_⟩;have hA:=g cpos pins s1 σ H1 _ d c;rw [hs] at hA ⊢;refine dm (by show (iS||(li cpos (iX es X.env)).any (·.1))=iS; rw [n] <;> rfl) (dP ?_);exact thn hA λus s2 ⟨vs,H2,f,r2,q⟩=>m pins s2 σ H2 x vs v us Q f r1 r2 q
end
def MtM (X:Cx) (id:String) (r:V->List V->Hp->VK->Prop):Prop:=
 ∀ (pins:Pns) (s:iU) (σ:St) (H:Hp) (x:V) (xs:List V) (v:iR) (us:List iR) (Q:VK),Inv X pins σ H s->RelV x v->Vals xs us->r x xs H Q ->iW (model X.prog X.w) X.A (call (.builtin id) (v::us)) (EP X pins σ Q) X.xe s
theorem Vals.one (h:Vals [x] us):∃ u,us=[u]/\RelV x u:=by
 cases h with
 | cons r t=>cases t;exact ⟨_,rfl,r⟩
section
variable {l b:Addr} {ys zs:List V}
theorem Inv.lset {its its':List iR} {n:Nat} {f:Array iR->Array iR} {t':Nat} (I:Inv X pins σ H s) (b:H l=iO (.lst xs))
  (e:s.heap.get? l=iO { cls:=.type "list",data:=.seq its.toArray n }) (a:f its.toArray=its'.toArray) (c:Vals ys its') (hz:ys.length<=sizeLine) :
  Inv X pins σ (upd H l (.lst ys)) { s with heap:=s.heap.update l (bx f),toks:=t' }:=by
 have q:=PySem.IsL.update e f;rw [a] at q;refine I.write (x:=l) (e:=l) (by rw [b]; exact trivial) (.inl rfl) (λg u d h=>(bE s.heap (bx f) (bb d)).trans h) ⟨_,q⟩ ?_;exact ⟨hz,its',_,c,q⟩
theorem Inv.lnew {its:List iR} {t':Nat} (I:Inv X pins σ H s) (c:Vals ys its) (hz:ys.length<=sizeLine):Inv X pins σ (upd H s.heap.objs.size (.lst ys)) { s with heap:=s.heap.push { cls:=.type "list",data:=.seq its.toArray },toks:=t' }:=
 I.laid (λ_ _ q=>ac _ q) (ap _) ⟨hz,its,0,c,ah _ rfl⟩
theorem Inv.fresh (I:Inv X pins σ H s):H s.heap.objs.size=none:=I.hok.fresh (ap _)
theorem Inv.lstM (I:Inv X pins σ H s) (b:H l=iO (.lst xs)):xs.length<=sizeLine/\∃ (its:List iR) (n:Nat),Vals xs its/\xs.length=its.length/\s.heap.get? l=iO { cls:=.type "list",data:=.seq its.toArray n }:=by obtain ⟨z,its,n,r,e⟩:=I.hok l _ b;exact ⟨z,its,n,r,r.length,e⟩
theorem qbT (h:n<=sizeLine):d6 n=false:=by unfold d6;exact Ac (by lia)
end
section
def WE:V->List V->Hp->VK->Prop:=λx vs H Q=>∃ l xs y,x=.ref l/\vs=[y]/\H l=iO (.lst xs)/\xs.length < sizeLine/\Q .non (upd H l (.lst (xs++[y])))
theorem KU:MtM X "list.append" WE:=by
 intro pins s σ H x vs v us Q I d a h;obtain ⟨l,xs,y,rfl,rfl,b,hz,q⟩:=h;cases d;obtain ⟨u,rfl,A⟩:=a.one;obtain ⟨z,its,n,r,hl,e⟩:=I.lstM b;refine lT F.slot_list_append ⟨_,e,rfl⟩ F.entry_list_append (F.args_list_append_2 _ _) (PySem.list_append l its.toArray n u (by rw [au]; lia)) ⟨e,?_⟩;refine ⟨.non,_,I.lset (its':=its++[u]) b e (by simp) (r.append (.cons A .nil)) ?_,rfl,q⟩;rw [ao,fk]
 lia
def qeb:V->List V->Hp->VK->Prop:=λx vs H Q=>∃ l b xs zs,x=.ref l/\vs=[.ref b]/\H l=iO (.lst xs)/\H b=iO (.lst zs)/\xs.length+zs.length<=sizeLine/\Q .non (upd H l (.lst (xs++zs)))
theorem Gc:MtM X "list.extend" qeb:=by
 intro pins s σ H x vs v us Q I d c h;obtain ⟨l,b,xs,zs,rfl,rfl,a,B,hz,q⟩:=h;cases d;obtain ⟨u,rfl,A⟩:=c.one;cases A;obtain ⟨z,its,n,r,hl,e⟩:=I.lstM a;obtain ⟨z2,i,n2,r2,f,j⟩:=I.lstM B;have hsz:its.toArray.size+i.toArray.size<=sizeLine:=by rw [au,au]; lia
 have g:¬(!its.toArray.isEmpty&&d6 (its.toArray.size+i.toArray.size))=true:=by rw [qbT hsz,Bool.and_false];exact bD
 refine lT F.slot_list_extend ⟨_,e,rfl⟩ F.entry_list_extend (F.args_list_extend_2 _ _)
  (AutoSeq1.list_extend_list_list_0 l its.toArray n b i.toArray n2 g (by rw [au]; lia) (by lia)) ⟨e,j,?_⟩
 refine ⟨.non,_,I.lset (its':=its++i) a e (by simp) (r.append r2) ?_,rfl,q⟩;rw [ao]
 lia
end
end L2
namespace Att
open PySem PySem.W PySem.Calls PyProof.Rows
theorem zT {P:mP} {h:Heap}:∀ (ns:List Int) (vs:List iR),WellAll P h vs (ns.map WData.int)->IntsAre vs ns:=by
 intro ns
 induction ns with
 | nil=>intro vs w;rw [cx] at w;cases w;exact .nil
 | cons n ns j=>
  intro vs w;rw [aD] at w;cases w with
  | cons a b=>cases a;exact .cons _ _ (j _ b)
theorem Ge {l:OpenLaw} {n:Nat} (s:l.most=iO n) {P:mP} {h:Heap} {args:List WData} {v:List iR}
  (e:l.row.toRowW.claim.pre args=iT) (i:WellAll P h v args) :
  ∃ a vs ns,v=[aL a]/\args=[WData.list (ns.map WData.int)]/\h.get? a=iO { cls:=.type "list",data:=.seq vs.toArray }/\IntsAre vs ns/\ns.length<=n:=by
 have j:WShape.hasAll [] args [.list .int]=true:=(pre_splitW e).1;have k:l.pre.holds [] { args:=args }=true:=(pre_splitW e).2;obtain ⟨d,r,rfl,h1,h2⟩:=hasAllW_cons j;obtain rfl:=hasAllW_nil h2;obtain ⟨xs,rfl,h3⟩:=hasW_list h1;obtain ⟨ns,rfl⟩:=items_int h3;have b:ns.length<=n:=by
  unfold OpenLaw.pre at k;have g:(WTm.not (.lt (.lit (.int (n:Int))) (.len (.arg 0)))).holds [] { args:=[.list (ns.map .int)] }=true:=by have g:=(holds_andW k).1;rw [s] at g;exact g
  have f:=condW_of g (w_not (w_lt w_lit (w_len_list (w_arg rfl))));rw [am] at f;refine Nat.le_of_not_lt λq=>?_;have m:(n:Int) < ((ns.length:Nat):Int):=by omega
  first
   | (rw [Ad m] at f; exact absurd f (by decide))
   | (simp at f; omega)
 cases i with
 | cons p w=>
  cases w;cases p with
  | list o c=>exact ⟨_,_,ns,rfl,rfl,o,zT ns _ c,b⟩
theorem Gf (l:OpenLaw) (args:List WData):l.row.toRowW.claim.post args (.bool iT) args=true:=
 postW_of (r:=l.row.toRowW) (X:=(iT == iT))
  (show WShape.has [] (.bool iT) .bool=iT by first | rfl | decide | simp [WShape.has,WShape.arms,WShape.armsAll])
  (show (WTm.eq .res (.lit (.bool iT))).value [] { args:=args,res:=iO (.bool iT),after:=args }=iO (.bool (iT == iT)) from w_eq_bool (w_res rfl) w_lit) rfl
theorem attach_call {l:OpenLaw} {n:Nat} {q:i7} {loose:List Str} {XP:(Str->Option iR)->Heap->Prop} {YP:i8->Heap->Prop} {d:DefRec}
  (p:l.most=iO n) (hdf:d.params.defaults=[])
  (call:∀ (w:i8) (s₀ s:iU) (mg mb:Str->Option iR) (fa:Addr) (o:Obj) (pm cd doc:iR) (a:Addr) (vs:List iR) (ns:List Int),Ground q loose [] XP w s₀ mg mb s.heap->YP w s.heap ->s.heap.get? fa=iO o->o.data=.func (docDef d.name d.params d.body d.scope pm cd doc)->s.heap.CodeRec cd d.name->mg d.name=iO (.ref fa) ->s.heap.get? a=iO { cls:=.type "list",data:=.seq vs.toArray }->IntsAre vs ns->ns.length<=n->s.gens=#[] ->lP (model l.prog w) nz (.call (.ref fa) ⟨[.ref a],[]⟩) (λr s'=>r=.ok (.ret (.bool iT))/\OldK s.heap s'.heap/\s'.os=s.os/\mO s'.gens) s) :
  WalkO q loose XP YP l.row.toRowW d [] (λf vs=>iM f vs):=by
 intro w s₀ s mg mb G Y fa o pm cd doc V kV m hd c D g hg args v as e y k i u;obtain rfl:V=.none:=Dflts.none D hdf;obtain rfl:kV=.none:=Dflts.noKw D;obtain ⟨a,vs,ns,rfl,rfl,j,h,b⟩:=Ge p e i;refine enter_call (ml (call w s₀ s mg mb fa o pm cd doc a vs ns G Y m (fd_plain hd) c g j h b hg) λr s' hq=>?_);obtain ⟨rfl,h2,h3,x⟩:=hq;exact ⟨.inl ⟨.bool iT,.bool iT,[],rfl,λ_=>rfl,.bool iT,Gf l _,λ_=>⟨dI,λ_ t=>(nomatch t)⟩⟩,h2,h3,x⟩
end Att
namespace L2
open PySem PySem.Spec PyProof.Rows
theorem KW:∀ {vs:List iR} {ns:List Int},IntsAre vs ns->Vals (ns.map V.int) vs
 | _,_,.nil=>.nil
 | _,_,.cons n t h=>.cons ⟨t,rfl⟩ (KW h)
def qiN (H:Hp):Prop:=∀ b,H b=iQ\/∃ o xs,H b=iO (.frz o (.lst xs))
theorem qbU {P:i7} {w:i8} {K:Frag} {mg mb:Str->Option iR} {CX:CXT} {k:Nat} {fa a:Addr} {fd:lV} {x:Str} {sp:Sp} {c:iU} {vs:List iR} {ns:List Int}
  (N:K.In c.heap) (A:c.heap.Ns iY mg) (g:c.heap.Ns builtinsNs mb) (J:∀ x:Str,x ≠ "__name__"->mb x=iZ x) (B:c.heap.NoLimit) (hg:c.gens=#[])
  (D:c.heap.get? a=iO { cls:=.type "list",data:=.seq vs.toArray }) (hi:IntsAre vs ns) (hl:ns.length<=sizeLine) (R:Room k nz)
  (F:∀ base:Heap,K.In base->base.Ns iY mg->FnOk P w K mg base CX k fa fd [x] sp) (l:∀ (s:iU) (u:iR),nI s fd ⟨[u],[]⟩ [(x,u)])
  (G:∀ H:Hp,qiN H->SqL K H a (ns.map V.int)->sp [.ref a] H (λv _=>v=.bl iT) λ_ _ _=>False)
  (X:∀ H e s',CX [] H c (λ_ _ _=>False) e s'->False) :
  lP (model P w) nz (.call (.ref fa) ⟨[.ref a],[]⟩) (λr s'=>r=.ok (.ret (.bool iT))/\OldK c.heap s'.heap/\s'.os=c.os/\mO s'.gens) c:=by
 have M:=KW hi;have t:=hi.length;have j:∀ H:Hp,qiN H->SqL K H a (ns.map V.int)->HOk P w H c.heap->(∀ b,H b≠iQ->b=a)->(H a≠iQ->K.lookup a=iQ) ->lP (model P w) nz (.call (.ref fa) ⟨[.ref a],[]⟩) (λr s'=>r=.ok (.ret (.bool iT))/\OldK c.heap s'.heap/\s'.os=c.os/\mO s'.gens) c:=by
  intro H O S hok hA U;have f:∀ {b:Addr} {o:Obj},c.heap.get? b=iO o->H b=iQ->(qbD c.heap H).get? b=iO o:=λe n=>qbE e n;have E:∀ {b:Addr} {o:Obj} {es:Array nr} {ep:Nat},c.heap.get? b=iO o->o.data=.dict es ep->H b=none:=λ{b o es ep} e d=>by
   cases q:H b with
   | none=>rfl
   | some u=>have L:b=a:=hA b (by rw [q]; simp);subst L;rw [D] at e; cases e;have d':Data.seq vs.toArray _=Data.dict es ep:=d;cases d'
  have i:∀ {b:Addr} {m:Str->Option iR},c.heap.Ns b m->(qbD c.heap H).Ns b m:=λ{b m} ⟨o,es,ep,e,d,r⟩=>⟨o,es,ep,f e (E e d),d,r⟩
  have C:K.In (qbD c.heap H):=λb o e=>f (N b o e) (by
   cases q:H b with
   | none=>rfl
   | some u=>have L:b=a:=hA b (by rw [q]; simp);subst L;rw [U (by rw [q]; simp)] at e; cases e)
  have T:Mod K mg (qbD c.heap H):=⟨C,i A,⟨mb,i g,J⟩,let ⟨mc,h1,h2⟩:=B; ⟨mc,i h1,h2⟩⟩
  have e0:Env0 P w K mg (qbD c.heap H) nz [] c H:=⟨rfl,T,λb o e=>qdM e,fG (ZL _ _),trivial,λb g=>absurd (show b∈([]:List Addr) from g) (by simp),hok,.of_eq hg⟩
  refine ml ((F _ C (i A)).run nz [] c H ⟨[.ref a],[]⟩ [.ref a] [.ref a] _ _ R e0 (l c (.ref a)) (.cons rfl .nil) (G H O S)) λr s' h=>?_;cases r with
  | error e=>exact (X H e s' h).elim
  | ok W=>
   cases W with
   | next=>exact cA h
   | brk=>exact cA h
   | cont=>exact cA h
   | ret u=>
    obtain ⟨v,H',os,bare,un,y,r',q⟩:=h;have Q:v=.bl true:=q;subst Q;obtain rfl:u=dg true:=r';refine ⟨rfl,OldK.of_keep λb o e=>?_,os,bare⟩;cases q:H b with
    | none=>exact un.keep b o e q (by intro z; exact absurd (show b∈([]:List Addr) from z) (by simp)) (by simp)
    | some u=>
     rcases O b with z | ⟨ob,xs,z⟩
     ·rw [q] at z; cases z
     ·have z2:=un.frzs b ob _ z;obtain ⟨e1,_⟩:=hok b _ z;obtain ⟨Y,_⟩:=y b _ z2;rw [e] at e1; cases e1;exact Y
 cases I:K.lookup a with
 | some o=>have e:=N a o I;rw [D] at e;cases e;refine j (λ_=>iQ) (λ_=>.inl rfl) (.inr ⟨_,vs.toArray,_,I,rfl,rfl,rfl,by rw [au,t]; exact hl,by simpa using M⟩) (λb u z=>by have p:(iQ:Option HO)=iO u:=z; cases p) (λb z=>absurd rfl z) λz=>absurd rfl z
 | none=>
  refine j (λb=>if b=a then iO (.frz { cls:=.type "list",data:=.seq vs.toArray } (.lst (ns.map V.int))) else iQ) (λb=>?_) (.inl (.inr ⟨{ cls:=.type "list",data:=.seq vs.toArray },Aa rfl⟩)) (λb u z=>?_) (λb z=>?_) λ_=>I
  ·by_cases g:b=a;·exact .inr ⟨_,_,Aa g⟩
   ·exact .inl (Ab g)
  ·by_cases g:b=a;·have p:=(Aa g).symm.trans z;cases p;subst g;exact ⟨D,by rw [am]; exact hl,vs,_,M,D⟩
   ·have p:=(Ab g).symm.trans z;cases p
  ·by_cases g:b=a;·exact g
   ·exact absurd (Ab g) z
theorem qec {l:ij} {n k:Nat} {q:i7} {loose:List Str} {XP:(Str->Option iR)->Heap->Prop} {YP:i8->Heap->Prop} {d:DefRec} {K:mP->Frag} {CX:i8->CXT} {sp:i8->Sp} {x:Str}
  (A:l.most=iO n) (r:n<=sizeLine) (hdf:d.params.defaults=[]) (z:Room k nz)
  (D:∀ (w:i8) (h:Heap),YP w h->(K w.params).In h)
  (F:∀ (w:i8) (mg:Str->Option iR) (fa:Addr) (h:Heap),(K w.params).In h->h.Ns iY mg->mg d.name=iO (.ref fa) ->∃ fd:lV,(∀ (s:iU) (u:iR),nI s fd ⟨[u],[]⟩ [(x,u)]) /\
    ∀ base:Heap,(K w.params).In base->base.Ns iY mg->FnOk l.prog w (K w.params) mg base (CX w) k fa fd [x] (sp w))
  (p:∀ (w:i8) (H:Hp) (a:Addr) (ns:List Int),ns.length<=n->qiN H->SqL (K w.params) H a (ns.map V.int)->sp w [.ref a] H (λv _=>v=.bl iT) λ_ _ _=>False)
  (X:∀ (w:i8) (H:Hp) (s:iU) (e:iR) (s':iU),CX w [] H s (λ_ _ _=>False) e s'->False) :
  PySem.W.WalkO q loose XP YP l.row.toRowW d [] (λf vs=>iM f vs):=by
 refine Att.attach_call A hdf λw s₀ j mg mb fa o pm cd doc a vs ns G Y I hd B t m i c hg=>?_;have y:=D w _ Y;obtain ⟨fd,C,E⟩:=F w mg fa _ y G.T.g t;exact qbU y G.T.g G.T.b G.T.builtins G.T.nolimit hg m i (bu c r) z E C (λH O S=>p w H a ns c O S) λH e s'=>X w H j e s'
noncomputable def xi (s:Stmt) (j:Nat):Stmt:=match s with
 | .ClassDef _ _ _ body _ _ _ _ _ _ _=>body.getD j (.Pass ⟨0,0,0,0⟩)
 | _=>.Pass ⟨0,0,0,0⟩
noncomputable def vV (s:Stmt):Arguments:=match s with
 | .FunctionDef _ a _ _ _ _ _ _ _ _=>a
 | _=>{ posonlyargs:=[],args:=[],vararg:=iQ,kwonlyargs:=[],kw_defaults:=[],kwarg:=iQ,defaults:=[] }
noncomputable def ka (s:Stmt):List Stmt:=match s with
 | .FunctionDef _ _ b _ _ _ _ _ _ _=>b
 | _=>[]
noncomputable def qx (s:Stmt):mC:=match s with
 | .FunctionDef _ _ _ _ _ _ sc _ _ _=>sc
 | _=>{ kind:=.function,names:=[],isGenerator:=iS,isCoroutine:=iS }
structure Fun (K:Frag) (x qual:Str) (st:Stmt) (f:Addr) (fd:lV):Prop where
 ex:∃ (oc:iR) (od:Option Addr) (kV doc pm:iR) (an:Option Addr) (cdv ct:iR) (osl:Array (Option iR)),fd=cg x qual (vV st) (ka st) (qx st) .none kV doc pm an cdv ct/\K.lookup f=iO ⟨oc,od,.func fd,osl⟩/\mV K cdv qual=iT
 kp:l8 K (.ref f)=iT
variable {P:i7} {w:i8} {K:Frag} {qual:Str} {st:Stmt} {f:Addr}
section
variable {mg:Str->Option iR} {base:Heap}
theorem Fun.binds {x:Str} {fd:lV} {ps:List Str} (F:Fun K x qual st f fd)
  (h:∀ (kV doc pm:iR) (an:Option Addr) (cdv ct:iR) (us:List iR),us.length=ps.length->lG (cg x qual (vV st) (ka st) (qx st) .none kV doc pm an cdv ct) ⟨us,[]⟩=pure (ps.zip us)):Binds K fd ps []:=by
 obtain ⟨oc,od,kV,doc,pm,an,cdv,ct,osl,rfl,j,d⟩:=F.ex;exact .all (h kV doc pm an cdv ct)
theorem kZ {x:Str} {oc:iR} {od an:Option Addr} {osl:Array (Option iR)} {kV doc pm cdv ct:iR} (l:K.lookup f=iO ⟨oc,od,.func (cg x qual (vV st) (ka st) (qx st) .none kV doc pm an cdv ct),osl⟩)
  (c:mV K cdv qual=iT) (k:l8 K (.ref f)=iT):Fun K x qual st f (cg x qual (vV st) (ka st) (qx st) .none kV doc pm an cdv ct):=⟨⟨oc,od,kV,doc,pm,an,cdv,ct,osl,rfl,l,c⟩,k⟩
end
def Same (H H':Hp):Prop:=∀ b o,H b=iO o->H' b=iO o
theorem Same.refl (H:Hp):Same H H:=λ_ _ h=>h
variable {H:Hp}
theorem Same.trans {H1 H2:Hp} (a:Same H H1) (b:Same H1 H2):Same H H2:=λc o h=>b c o (a c o h)
variable {H':Hp}
theorem Same.free (e:Same H H') {l:Addr} (h:H' l=Option.none):H l=Option.none:=by
 cases q:H l with
 | none=>rfl
 | some o=>rw [e l o q] at h;cases h
variable {a:Addr}
theorem Same.seq {xs:List V} (e:Same H H') (h:SqL K H a xs):SqL K H' a xs:=by
 rcases h with (h | ⟨o,h⟩) | h;·exact .inl (.inl (e _ _ h))
 ·exact .inl (.inr ⟨o,e _ _ h⟩)
 ·exact .inr h
variable {o:Option V} {u:iR} {y:V}
section
variable {κ:Type} [DecidableEq κ]
noncomputable def XI (kvs:List (κ×V)) (k:κ):Option V:=(kvs.find? λkv=>decide (kv.1=k)).map (·.2)
noncomputable def Qx (kvs:List (κ×V)) (k:κ) (v:V):List (κ×V):=
 if (kvs.any λkv=>decide (kv.1=k))=iT then kvs.map (λkv=>if kv.1=k then (kv.1,v) else kv) else kvs++[(k,v)]
theorem zA {p:κ×V} {r:List (κ×V)} {k:κ} (e:p.1=k):XI (p::r) k=iO p.2:=by simp [XI,cI,e]
theorem zB {p:κ×V} {r:List (κ×V)} {k:κ} (e:¬p.1=k):XI (p::r) k=XI r k:=by simp [XI,cI,e]
theorem Jv (k:κ):∀ kvs:List (κ×V),(kvs.any λkv=>decide (kv.1=k))=(XI kvs k).isSome
 | []=>rfl
 | p::r=>by
  rw [cy];by_cases e:p.1=k;·simp only [zA e,Ad e,Bool.true_or,Option.isSome_some]
  ·rw [zB e,Ac e,Bool.false_or]; exact Jv k r
theorem uQ (kvs:List (κ×V)) (k:κ) (v:V):(Qx kvs k v).length<=kvs.length+1:=by
 unfold Qx;split;·rw [am]; lia
 ·rw [ao,ai,be]; lia
theorem RelO.isSome_eq {u:Option iR} (r:RelO o u):o.isSome=u.isSome:=by
 cases o with
 | none=>cases u with
  | none=>rfl
  | some _=>exact (show False from r).elim
 | some _=>cases u with
  | none=>exact (show False from r).elim
  | some _=>rfl
theorem KV.val {kvs:List (κ×V)} {vs:List (κ×iR)} (r:KV kvs vs) (k:κ):RelO (XI kvs k) (nB vs k):=by
 unfold KV at r
 induction r with
 | nil=>exact dj
 | @cons p q ps qs h t ih=>
  obtain ⟨h1,h2⟩:=h;by_cases e:p.1=k
  ·have a:q.1=k:=h1.symm.trans e;have b:nB (q::qs) k=iO q.2:=by simp [nB,cI,a]
   rw [zA e,b]; exact h2
  ·have a:¬q.1=k:=λz=>e (h1.trans z);have b:nB (q::qs) k=nB qs k:=by simp [nB,cI,a]
   rw [zB e,b]; exact ih
theorem KV.any {kvs:List (κ×V)} {vs:List (κ×iR)} (r:KV kvs vs) (k:κ):(kvs.any λkv=>decide (kv.1=k))=vs.any λkv=>decide (kv.1=k):=by
 unfold KV at r
 induction r with
 | nil=>rfl
 | cons h t j=>rw [cy,cy,j,h.1]
theorem KV.repl {kvs:List (κ×V)} {vs:List (κ×iR)} (r:KV kvs vs) (k:κ) (c:RelV y u):KV (kvs.map λkv=>if kv.1=k then (kv.1,y) else kv) (vs.map λkv=>if kv.1=k then (kv.1,u) else kv):=by
 unfold KV at r ⊢
 induction r with
 | nil=>exact .nil
 | @cons p q ps qs h t ih=>
  rw [aD,aD];refine .cons ?_ ih;obtain ⟨h1,h2⟩:=h;by_cases e:p.1=k;·rw [Aa e,Aa (h1.symm.trans e)]; exact ⟨h1,c⟩
  ·rw [Ab e,Ab (λz=>e (h1.trans z))]; exact ⟨h1,h2⟩
theorem KV.put {kvs:List (κ×V)} {vs:List (κ×iR)} (r:KV kvs vs) (k:κ) (c:RelV y u):KV (Qx kvs k y) (stored vs k u):=by
 unfold Qx stored;rw [r.any k];by_cases e:(vs.any λkv=>decide (kv.1=k))=iT;·rw [Aa e,Aa e]; exact r.repl k c
 ·rw [Ab e,Ab e]; exact Paired.snoc r ⟨rfl,c⟩
theorem KV.length {kvs:List (κ×V)} {vs:List (κ×iR)} (r:KV kvs vs):kvs.length=vs.length:=g7 r
end
theorem Gg {k:Key} (r:RelV (kV k) u):(qP P w).is k u=true:=by
 cases k with
 | inl i=>obtain ⟨t,e⟩:=(show ∃ t,u=fz i t from r); subst e; exact Wx P w i t
 | inr x=>obtain ⟨t,e⟩:=(show ∃ t,u=dE x t from r); subst e; exact Wy P w x t
theorem KY:∀ {ks:List Key} {us:List iR},Vals (ks.map kV) us->ItemsAre (qP P w) ks us
 | [],_,r=>by rw [cx] at r; cases r; exact .nil
 | k::ks,_,r=>by
  rw [aD] at r;cases r with
  | cons h t=>exact .cons (Gg h) (KY t)
abbrev KT (H:Hp):List (List Key×V)->List (List Key×Addr×iR)->Prop:=nC λp q=>p.1=q.1/\H q.2.1=iO (.tup (p.1.map kV))/\RelV p.2 q.2.2
variable {xs:List (List Key×Addr×iR)} {kvs:List (List Key×V)}
theorem KT.val (r:KT H kvs xs) (k:List Key):RelO (XI kvs k) ((atKey xs k).map (·.2)):=by
 induction r with
 | nil=>exact dj
 | @cons p q ps qs h t ih=>
  obtain ⟨h1,_,h2⟩:=h;by_cases e:p.1=k
  ·have a:q.1=k:=h1.symm.trans e;have b:atKey (q::qs) k=iO q.2:=by simp [atKey,cI,a]
   rw [zA e,b]; exact h2
  ·have a:¬q.1=k:=λz=>e (h1.trans z);have b:atKey (q::qs) k=atKey qs k:=by simp [atKey,cI,a]
   rw [zB e,b]; exact ih
theorem KT.repl (r:KT H kvs xs) (k:List Key) (c:RelV y u):KT H (kvs.map λkv=>if kv.1=k then (kv.1,y) else kv) (xs.map (putAt k u)):=by
 induction r with
 | nil=>exact .nil
 | @cons p q ps qs h t ih=>
  rw [aD,aD];refine .cons ?_ ih;obtain ⟨h1,h2,h3⟩:=h;unfold putAt;by_cases e:p.1=k;·rw [Aa e,Aa (h1.symm.trans e)]; exact ⟨h1,h2,c⟩
  ·rw [Ab e,Ab (λz=>e (h1.trans z))]; exact ⟨h1,h2,h3⟩
theorem KT.put (r:KT H kvs xs) (k:List Key) {b:Addr} (d:H b=iO (.tup (k.map kV))) (c:RelV y u):KT H (Qx kvs k y) (storedH xs k b u):=by
 have e:(kvs.any λkv=>decide (kv.1=k))=(atKey xs k).isSome:=by rw [Jv,(r.val k).isSome_eq,fU]
 unfold Qx storedH;rw [e];by_cases q:(atKey xs k).isSome=iT;·rw [Aa q,Aa q]; exact r.repl k c
 ·rw [Ab q,Ab q]; exact Paired.snoc r ⟨rfl,d,c⟩
theorem KT.keeps (r:KT H kvs xs) (ht:∀ b ys,H b=iO (.tup ys)->H' b=iO (.tup ys)):KT H' kvs xs:=
 Paired.mapP r λ_ _ z=>⟨z.1,ht _ _ z.2.1,z.2.2⟩
section
variable {h:Heap}
theorem qgn {u:HO} (ok:HOk P w H h) (e:Rd H a u):ObjOk P w H h a u:=e.ok ok
theorem WF {kvs:List (Key×V)} (ok:HOk P w H h) (e:Rd H a (.dK kvs)):kvs.length<=sizeLine/\(a == lA)=iS/\∃ vs,KV kvs vs/\h.DictOf (qP P w) a vs:=
 show ObjOk P w H h a (.dK kvs) from qgn ok e
theorem qiO {kvs:List (Key×V)} (ok:HOk P w H h) (e:H a=iO (.dK kvs)):kvs.length<=sizeLine/\(a == lA)=iS/\∃ vs,KV kvs vs/\h.DictOf (qP P w) a vs:=WF ok (.inl e)
theorem zU {ks:List Key} (ok:HOk P w H h) (e:H a=iO (.tup (ks.map kV))):(nv (qP P w)).is h ks a:=by
 obtain ⟨_,its,r,o,h1,h2,n,h3⟩:=(show ObjOk P w H h a (.tup (ks.map kV)) from ok a _ e)
 exact ⟨o,its.toArray,n,h1,h2,h3,by simpa using KY r⟩
theorem XJ (ok:HOk P w H h) (e:Rd H a (.dT kvs)):kvs.length<=sizeLine/\(a == lA)=iS /\
  ∃ xs,KT H kvs xs/\h.DictOfH (nv (qP P w)) a xs:=by
 obtain ⟨z,y,xs,r,o,es,ep,h1,h2,h3,b,f⟩:=(show ObjOk P w H h a (.dT kvs) from qgn ok e)
 refine ⟨z,y,xs,r,o,es,ep,h1,h2,h3,b,λx hx=>?_,f⟩;have all:∀ {l:List (List Key×V)} {m:List (List Key×Addr×iR)},KT H l m->∀ x∈m,(nv (qP P w)).is h x.1 x.2.1:=by
  intro l m q
  induction q with
  | nil=>intro x hx; exact nomatch hx
  | @cons p q ps qs hq t ih=>
   intro x hx;rcases af.mp hx with e | hx
   ·subst e;exact zU ok (by rw [<-hq.1]; exact hq.2.1)
   ·exact ih x hx
 exact all r x hx
theorem qiP (ok:HOk P w H h) (e:H a=iO (.dT kvs)):kvs.length<=sizeLine/\(a == lA)=iS /\
  ∃ xs,KT H kvs xs/\h.DictOfH (nv (qP P w)) a xs:=XJ ok (.inl e)
end
def DGet (H:Hp) (a:Addr) (y:V) (r:Option V):Prop:=
 (∃ kvs k,Rd H a (.dK kvs)/\y=kV k/\r=XI kvs k)\/∃ kvs k b,Rd H a (.dT kvs)/\y=.ref b/\H b=iO (.tup (k.map kV))/\r=XI kvs k
def DPut (H:Hp) (a:Addr) (y v:V) (H':Hp):Prop:=
 (∃ kvs k,H a=iO (.dK kvs)/\y=kV k/\kvs.length < sizeLine/\H'=upd H a (.dK (Qx kvs k v))) \/
 ∃ kvs k b,H a=iO (.dT kvs)/\y=.ref b/\H b=iO (.tup (k.map kV))/\kvs.length < sizeLine/\H'=upd H a (.dT (Qx kvs k v))
theorem DGet.k {kvs:List (Key×V)} {k:Key} (e:H a=iO (.dK kvs)):DGet H a (kV k) (XI kvs k):=.inl ⟨kvs,k,.inl e,rfl,rfl⟩
variable {v:V}
theorem DPut.k {kvs:List (Key×V)} {k:Key} (e:H a=iO (.dK kvs)) (hl:kvs.length < sizeLine):DPut H a (kV k) v (upd H a (.dK (Qx kvs k v))):=.inl ⟨kvs,k,e,rfl,hl,rfl⟩
variable {X:Cx} {pins:Pns} {σ:St} {s:iU} {A:j9} {E Q:iR->iU->Prop} {h':Heap}
section
variable {r:iR}
theorem Inv.big (I:Inv X pins σ H s):lA < s.heap.objs.size:=by have h:iY < s.heap.objs.size:=(I.mod.glob.keeps I.bk).lt;exact cR (by decide) h
theorem Gh (i:A.units+1 < lE) (I:Inv X pins σ H s) (g:DGet H a y (iO v)) (f:RelV y u) (h:∀ w' s',Inv X pins σ H s'->RelV v w'->Q w' s'):iW (model X.prog X.w) A (getItem (.ref a) u) Q E s:=by
 rcases g with ⟨kvs,k,e,d,l⟩ | ⟨kvs,k,b,e,d,eb,l⟩
 ·subst d;obtain ⟨z,hd,vs,rel,dd⟩:=WF I.hok e;obtain ⟨w',hw,r⟩:=RelO.some_of (v:=v) (o:=nB vs k) (by rw [l]; exact rel.val k);exact wpAny_getItem_of (Gg f) dd.mapOf hw (h w' _ (I.tok _) r)
 ·subst d;cases (show u=aL b from f);obtain ⟨z,hd,xs,rel,dd⟩:=XJ I.hok e;obtain ⟨w',hw,r⟩:=RelO.some_of (v:=v) (o:=(atKey xs k).map (·.2)) (by rw [l]; exact rel.val k);obtain ⟨p,hp,c⟩:=aQ.mp hw;refine wpAny_getItem_heap (l9 i) (zU I.hok eb) dd hp ?_;rw [c];exact h w' _ (I.tok _) r
theorem qkn (f:A.units+1 < lE) (I:Inv X pins σ H s) (g:DGet H a y o) (c:RelV y u) (h:∀ s',Inv X pins σ H s'->Q (.bool o.isSome) s'):iW (model X.prog X.w) A (j0 .In u (.ref a)) Q E s:=by
 rcases g with ⟨kvs,k,e,d,l⟩ | ⟨kvs,k,b,e,d,eb,l⟩
 ·subst d;obtain ⟨z,hd,vs,rel,dd⟩:=WF I.hok e;refine wpAny_in_of (Gg c) hd dd.mapOf ?_;rw [<-(rel.val k).isSome_eq,<-l];exact h _ (I.tok _)
 ·subst d;cases (show u=aL b from c);obtain ⟨z,hd,xs,rel,dd⟩:=XJ I.hok e;refine wpAny_in_heap (l9 f) (zU I.hok eb) hd dd ?_;have q:=(rel.val k).isSome_eq;rw [fU] at q;rw [<-q,<-l];exact h _ (I.tok _)
theorem qed (f:A.units+1 < lE) (I:Inv X pins σ H s) (g:DGet H a y o) (c:RelV y u) (h:∀ s',Inv X pins σ H s'->Q (.bool (!o.isSome)) s'):iW (model X.prog X.w) A (j0 .NotIn u (.ref a)) Q E s:=by
 rcases g with ⟨kvs,k,e,d,l⟩ | ⟨kvs,k,b,e,d,eb,l⟩
 ·subst d;obtain ⟨z,hd,vs,rel,dd⟩:=WF I.hok e;refine wpAny_notIn_of (Gg c) hd dd.mapOf ?_;rw [<-(rel.val k).isSome_eq,<-l];exact h _ (I.tok _)
 ·subst d;cases (show u=aL b from c);obtain ⟨z,hd,xs,rel,dd⟩:=XJ I.hok e;refine wpAny_notIn_heap (l9 f) (zU I.hok eb) hd dd ?_;have q:=(rel.val k).isSome_eq;rw [fU] at q;rw [<-q,<-l];exact h _ (I.tok _)
theorem Gi {t':Nat} {o:HO} (I:Inv X pins σ H s) (m:Mut (H a)) (hs:bo a s.heap h') (i:∃ q,h'.get? a=iO q) (new:ObjOk X.prog X.w (upd H a o) h' a o):Inv X pins σ (upd H a o) { s with heap:=h',toks:=t' }:=
 I.write (x:=a) (e:=a) m (.inl rfl) (λb q d z=>(hs.2 b d).trans z) i new
theorem Gj {H':Hp} {kvs:List (Key×V)} {vs:List (Key×iR)} (z:kvs.length<=sizeLine) (hd:(a == lA)=iS) (rel:KV kvs vs) (dd:h'.DictOf (qP P w) a vs):ObjOk P w H' h' a (.dK kvs):=⟨z,hd,vs,rel,dd⟩
theorem Gk {Q:Unit->iU->Prop} (o:A.units+1 < lE) (I:Inv X pins σ H s) (g:DPut H a y v H') (j:RelV y u) (m:RelV v r) (h:∀ s',Inv X pins σ H' s'->Q () s'):iW (model X.prog X.w) A (setItem (.ref a) u r) Q E s:=by
 rcases g with ⟨kvs,k,e,f,l,i⟩ | ⟨kvs,k,b,e,f,eb,l,i⟩
 ·subst f i;obtain ⟨z,hd,vs,rel,dd⟩:=qiO I.hok e;have hz:vs.length<=sizeLine:=by rw [<-rel.length]; exact z
  have hl:(Qx kvs k v).length<=sizeLine:=by have:=uQ kvs k v; lia
  refine wpAny_setItem_pairs (hsz:=hz) (Gg j) dd λh' d hs=>h _ ?_;have p:∃ q,h'.get? a=iO q:=let ⟨q,_,_,hq,_⟩:=d; ⟨q,hq⟩
  exact Gi I (by rw [e]; exact dj) hs p (Gj hl hd (rel.put k m) d)
 ·subst f i;cases (show u=aL b from j);obtain ⟨z,hd,xs,rel,dd⟩:=qiP I.hok e;have hz:xs.length<=sizeLine:=by rw [<-g7 rel]; exact z
  have hl:(Qx kvs k v).length<=sizeLine:=by have:=uQ kvs k v; lia
  refine wpAny_setItem_heap (hsz:=hz) (l9 o) (zU I.hok eb) dd λh' d hs=>h _ ?_;obtain ⟨q,es,ep,hq,h2,h3,x,_,t⟩:=d;refine Gi I (by rw [e]; exact dj) hs ⟨q,hq⟩ ⟨hl,hd,_,(rel.put k eb m).keeps λc ys n=>?_,q,es,ep,hq,h2,h3,x,t⟩;rw [qu (qio n e (λz=>nomatch z))];exact n
end
section
variable {kvs:List (Key×V)} {k:Key}
theorem qiQ (I:Inv X pins σ H s) (e:Rd H a (.dK kvs)) (h:∀ t s',Inv X pins σ H s'->Q (.int kvs.length t) s'):iW (model X.prog X.w) A (call (.builtin "len") [.ref a]) Q E s:=by obtain ⟨z,hd,vs,rel,dd⟩:=WF I.hok e;refine call_len_dict hd dd (by rw [<-rel.length]; rw [i9] at z; lia) ?_;rw [<-rel.length];exact h _ _ (I.tok _)
end
theorem WG (I:Inv X pins σ H s) (g:DGet H a y o):s.TypeIs (.ref a) "dict":=by
 rcases g with ⟨kvs,k,e,_,_⟩ | ⟨kvs,k,b,e,_,_,_⟩
 ·obtain ⟨_,_,vs,_,dd⟩:=WF I.hok e;exact dd.typeIs
 ·obtain ⟨_,_,xs,_,dd⟩:=XJ I.hok e;exact dd.typeIs
def qiR (td ty tv:TE):TS:=λD σ H=>tv σ H λv H1=>td σ H1 λx H2=>ty σ H2 λy d=>∃ a b,x=.ref a/\DPut d a y v b/\D.nx σ b
variable {pos:Pos}
section
variable {o i e value:Expr} {pos' tpos:Pos} {td ty tv:TE}
theorem qee (k:X.A.units+1 < lE) (l:PE X o td) (hi:PE X i ty) (j:PE X value tv) (hs:lK value (iO (.Subscript o i pos')) pos.line X.env=pure iS):PS X (.Assign [.Subscript o i pos'] value pos) (qiR td ty tv):=by refine ⟨?_⟩;intro pins s σ H D I h;refine wpAny_Assign_Subscript (thn (j pins s σ H _ I h) λr s1 ⟨v,H1,p,b,f⟩=>thn (l pins s1 σ H1 _ p f) λu s2 ⟨x,H2,n,d,e⟩=>thn (hi pins s2 σ H2 _ n e) λw s3 ⟨y,z,m,c,a,t,ex,g,q⟩=>?_) hs;subst ex;obtain rfl:u=aL a:=d;exact Gk k m g c b λs4 B=>⟨σ,t,B,q⟩
end
theorem qbV (h:Heap) (d:lA < h.objs.size):ObjOk P w H (h.push { cls:=.type "dict",data:=.dict #[] }) h.objs.size (.dK []):=
 ⟨bi _,beq_eq_false_iff_ne.mpr (bb (ay d)),[],.nil,Heap.DictOf.new h⟩
def qgo:TE:=λ_ H Q=>∀ p,H p=iQ->Q (.ref p) (upd H p (.dK []))
section
theorem qbW:PE X (.Dict [] [] pos) qgo:=⟨λpins s σ H Q I h=>
 wpAny_Dict_empty ⟨.ref s.heap.objs.size,_,I.laid (a:=s.heap.objs.size) (o:=.dK []) (t':=s.toks) (λ_ _ q=>ac _ q) (ap _) (qbV s.heap I.big),rfl,h _ (I.hok.fresh (ap _))⟩⟩
end
def IsD (H:Hp) (a:Addr):Prop:=(∃ kvs,Rd H a (.dK kvs))\/∃ kvs,Rd H a (.dT kvs)
theorem qgp (I:Inv X pins σ H s) (d:IsD H a):s.TypeIs (.ref a) "dict"/\(∀ b,aL a=.ref b->∃ o,s.heap.get? b=iO o/\o.dict=iQ)/\(a == lA)=false:=by
 rcases d with ⟨kvs,e⟩ | ⟨kvs,e⟩
 ·obtain ⟨_,hd,vs,_,dd⟩:=WF I.hok e;refine ⟨dd.typeIs,λb q=>?_,hd⟩;cases q;obtain ⟨o,_,_,h1,h2,_⟩:=dd;exact ⟨o,h1,h2.2.1⟩
 ·obtain ⟨_,hd,xs,_,dd⟩:=XJ I.hok e;refine ⟨dd.typeIs,λb q=>?_,hd⟩;cases q;obtain ⟨o,_,_,h1,h2,_⟩:=dd;exact ⟨o,h1,h2.2.1⟩
section
theorem Gm:wB X (.builtin "len") (λxs H Q=>∃ a kvs,xs=[V.ref a]/\H a=iO (.dK kvs)/\Q (.int kvs.length) H):=by intro pins s σ H xs us Q I r h;obtain ⟨a,kvs,rfl,g,q⟩:=h;obtain ⟨u,rfl,A⟩:=uP r;cases A;exact qiQ I (.inl g) λt s' b=>⟨.int kvs.length,H,b,⟨t,rfl⟩,q⟩
end
end L2
namespace L2.D2
open PySem PySem.Spec PyProof.Rows
variable {b:List Nat}
theorem kj {a:List Nat} (h:(a.all λi=>decide (i∈b))=iT):∀ i∈a,i∈b:=λi hi=>Ae (aJ.mp h i hi)
theorem yr {i:Nat} (h:decide (i∈b)=iS):i∉b:=of_decide_eq_false h
noncomputable def WH:Expr->Bool
 | .Starred ..=>iS
 | _=>iT
variable {e:Expr} {env:Env}
theorem jl {es:List Expr} (h:WH e=iT):iX (e::es) env=(iS,eval e env)::iX es env:=by cases e <;> first | rfl | cases h
theorem qE (h:WH e=iT):iX [e] env=[(iS,eval e env)]:=jl h
theorem UV {a b:Expr} (h:WH a=iT) (k:WH b=iT):iX [a,b] env=[(iS,eval a env),(iS,eval b env)]:=by rw [jl h,qE k]
variable {pos:Pos}
theorem ug:∀ {es:List Expr},es.all WH=iT->(li pos (iX es env)).any (·.1)=iS
 | [],_=>rfl
 | e::es,h=>by rw [fC,aN] at h;rw [jl h.1];exact ug h.2
theorem uh (h:WH e=iT):((li pos (iX [e] env)).all (λx=>!x.1)&&(lW pos (lr [] env)).all (λx=>x.1.isSome)
   && decide ([e].length+([]:List lI).length+(if ([]:List lI).isEmpty then 0 else 1) < 30))=true:=by rw [qE h]; rfl
inductive D where
 | non | bl (b:Bool) | int (i:Int) | str (x:Str)
 | tup (xs:List D) | lst (xs:List D) | dct (kvs:List (Key×D)) | raw (v:V)
 | xcp (C:Addr) | ins (C:Addr) (fs:List (Str×D)) | at_ (a:Addr) (xs:List D)
 deriving Inhabited
abbrev Sl:=List (Option D)
inductive Out (α:Type) where
 | ok (a:α) | exc (c:Str) (o:Sl) | bad
variable {α β:Type}
noncomputable def Out.bind (o:Out α) (k:α->Out β):Out β:=match o with
 | .ok a=>k a
 | .exc c o=>.exc c o
 | .bad=>.bad
@[simp] theorem Out.oh (a:α) (k:α->Out β):(Out.ok a).bind k=k a:=rfl
@[simp] theorem Out.exc_bind (c:Str) (o:Sl) (k:α->Out β):(Out.exc c o:Out α).bind k=.exc c o:=rfl
@[simp] theorem Out.bad_bind (k:α->Out β):(Out.bad:Out α).bind k=.bad:=rfl
noncomputable def Jw (a C:Addr):HO:=.ext λh=>∃ o vs,h.get? a=iO o/\o.cls=.ref C/\o.data=.fields vs
mutual
/-- the value v is the data d,all its objects in F -/
inductive Is (K:Frag) (F:Hp):V->D->Prop
 | non:Is K F .non .non
 | bl (b:Bool):Is K F (.bl b) (.bl b)
 | int (i:Int):Is K F (.int i) (.int i)
 | str {x:Str} (h:x.length<=sizeLine):Is K F (.str x) (.str x)
 | tup {a:Addr} {xs:List V} {ds:List D} (h:SqT K F a xs) (t:IsL K F xs ds):Is K F (.ref a) (.tup ds)
 | lst {a:Addr} {xs:List V} {ds:List D} (h:SqL K F a xs) (t:IsL K F xs ds):Is K F (.ref a) (.lst ds)
 | dct {a:Addr} {kv:List (Key×V)} {kvs:List (Key×D)} (h:F a=iO (.dK kv)) (t:IsK K F kv kvs):Is K F (.ref a) (.dct kvs)
 | raw (v:V):Is K F v (.raw v)
 | xcp {a C:Addr} (h:F a=iO (Jw a C)):Is K F (.ref a) (.xcp C)
 | ins {a C dx:Addr} {fv:List (Str×V)} {fs:List (Str×D)} (h:F a=iO (.ins C dx fv)) (t:IsF K F fv fs):Is K F (.ref a) (.ins C fs)
 | at_ {a:Addr} {xs:List V} {ds:List D} (h:SqL K F a xs) (t:IsL K F xs ds):Is K F (.ref a) (.at_ a ds)
inductive IsL (K:Frag) (F:Hp):List V->List D->Prop
 | nil:IsL K F [] []
 | cons {v:V} {d:D} {vs:List V} {ds:List D} (h:Is K F v d) (t:IsL K F vs ds):IsL K F (v::vs) (d::ds)
inductive IsK (K:Frag) (F:Hp):List (Key×V)->List (Key×D)->Prop
 | nil:IsK K F [] []
 | cons {k:Key} {v:V} {d:D} {vs:List (Key×V)} {ds:List (Key×D)} (h:Is K F v d) (t:IsK K F vs ds):IsK K F ((k,v)::vs) ((k,d)::ds)
inductive IsF (K:Frag) (F:Hp):List (Str×V)->List (Str×D)->Prop
 | nil:IsF K F [] []
 | cons {k:Str} {v:V} {d:D} {vs:List (Str×V)} {ds:List (Str×D)} (h:Is K F v d) (t:IsF K F vs ds):IsF K F ((k,v)::vs) ((k,d)::ds)
end
theorem jg {K:Frag} {H H':Hp} {a:Addr} {xs:List V} (e:Same H H') (h:SqT K H a xs):SqT K H' a xs:=by
 rcases h with (h | ⟨o,h⟩) | h;·exact .inl (.inl (e _ _ h))
 ·exact .inl (.inr ⟨o,e _ _ h⟩)
 ·exact .inr h
mutual
theorem Is.mono {K:Frag} {F F':Hp} (e:Same F F'):∀ {v:V} {d:D},Is K F v d->Is K F' v d
 | _,_,.non=>.non
 | _,_,.bl b=>.bl b
 | _,_,.int i=>.int i
 | _,_,.str h=>.str h
 | _,_,.tup h t=>.tup (jg e h) (IsL.mono e t)
 | _,_,.lst h t=>.lst (e.seq h) (IsL.mono e t)
 | _,_,.dct h t=>.dct (e _ _ h) (IsK.mono e t)
 | _,_,.raw v=>.raw v
 | _,_,.xcp h=>.xcp (e _ _ h)
 | _,_,.ins h t=>.ins (e _ _ h) (IsF.mono e t)
 | _,_,.at_ h t=>.at_ (e.seq h) (IsL.mono e t)
theorem IsL.mono {K:Frag} {F F':Hp} (e:Same F F'):∀ {vs:List V} {ds:List D},IsL K F vs ds->IsL K F' vs ds
 | _,_,.nil=>.nil
 | _,_,.cons h t=>.cons (Is.mono e h) (IsL.mono e t)
theorem IsK.mono {K:Frag} {F F':Hp} (e:Same F F'):∀ {vs:List (Key×V)} {ds:List (Key×D)},IsK K F vs ds->IsK K F' vs ds
 | _,_,.nil=>.nil
 | _,_,.cons h t=>.cons (Is.mono e h) (IsK.mono e t)
theorem IsF.mono {K:Frag} {F F':Hp} (e:Same F F'):∀ {vs:List (Str×V)} {ds:List (Str×D)},IsF K F vs ds->IsF K F' vs ds
 | _,_,.nil=>.nil
 | _,_,.cons h t=>.cons (Is.mono e h) (IsF.mono e t)
end
theorem IsL.length {K:Frag} {F:Hp}:∀ {vs:List V} {ds:List D},IsL K F vs ds->vs.length=ds.length
 | _,_,.nil=>rfl
 | _,_,.cons _ t=>congrArg (·+1) (IsL.length t)
theorem IsL.get {K:Frag} {F:Hp}:∀ {vs:List V} {ds:List D} {i:Nat} {v:V},IsL K F vs ds->vs[i]?=iO v->∃ d,ds[i]?=iO d/\Is K F v d
 | _,_,_,_,.nil,e=>by simp at e
 | _,_,0,_,.cons h _,e=>by simp at e; subst e; exact ⟨_,rfl,h⟩
 | _,_,i+1,v,.cons _ t,e=>by obtain ⟨d,h1,h2⟩:=IsL.get (i:=i) (v:=v) t (by simpa using e);exact ⟨d,by simpa using h1,h2⟩
theorem IsL.getD {K:Frag} {F:Hp}:∀ {vs:List V} {ds:List D} {i:Nat} {d:D},IsL K F vs ds->ds[i]?=iO d->∃ v,vs[i]?=iO v/\Is K F v d
 | _,_,_,_,.nil,e=>by simp at e
 | _,_,0,_,.cons h _,e=>by simp at e; subst e; exact ⟨_,rfl,h⟩
 | _,_,i+1,v,.cons _ t,e=>by obtain ⟨d,h1,h2⟩:=IsL.getD (i:=i) (d:=v) t (by simpa using e);exact ⟨d,by simpa using h1,h2⟩
theorem IsL.append {K:Frag} {F:Hp}:∀ {vs ws:List V} {ds es:List D},IsL K F vs ds->IsL K F ws es->IsL K F (vs++ws) (ds++es)
 | _,_,_,_,.nil,s=>s
 | _,_,_,_,.cons h t,s=>.cons h (IsL.append t s)
theorem IsL.drop {K:Frag} {F:Hp}:∀ {vs:List V} {ds:List D} (n:Nat),IsL K F vs ds->IsL K F (vs.drop n) (ds.drop n)
 | _,_,0,r=>r
 | _,_,_+1,.nil=>.nil
 | _,_,n+1,.cons _ t=>IsL.drop n t
theorem IsL.take {K:Frag} {F:Hp}:∀ {vs:List V} {ds:List D} (n:Nat),IsL K F vs ds->IsL K F (vs.take n) (ds.take n)
 | _,_,0,_=>.nil
 | _,_,_+1,.nil=>.nil
 | _,_,n+1,.cons h t=>.cons h (IsL.take n t)
def OwnIs (K:Frag) (F H:Hp) (a:Addr):D->Prop
 | .lst ds=>∃ xs,H a=iO (.lst xs)/\IsL K F xs ds
 | .dct kvs=>∃ kv,H a=iO (.dK kv)/\IsK K F kv kvs
 | .ins C fs=>∃ dx fv,H a=iO (.ins C dx fv)/\IsF K F fv fs
 | .at_ b ds=>b=a/\∃ xs,H a=iO (.lst xs)/\IsL K F xs ds
 | _=>False
def TopIs (K:Frag) (F H:Hp) (v:V) (d:D):Prop:=Is K F v d\/∃ a,v=.ref a/\OwnIs K F H a d
inductive Mo where
 | sh | fr | any
def MoIs (K:Frag) (m:Mo) (H0 F H:Hp) (v:V) (d:D):Prop:=match m with
 | .sh=>Is K F v d
 | .fr=>∃ a,v=.ref a/\H0 a=iQ/\F a=iQ/\OwnIs K F H a d
 | .any=>TopIs K F H v d
theorem MoIs.top {K:Frag} {m:Mo} {H0 F H:Hp} {v:V} {d:D} (h:MoIs K m H0 F H v d):TopIs K F H v d:=by
 cases m with
 | sh=>exact .inl h
 | fr=>obtain ⟨a,e,_,_,o⟩:=h; exact .inr ⟨a,e,o⟩
 | any=>exact h
structure Chg (A:Addr->Prop) (F H F' H':Hp):Prop where
 keep:∀ b o,H b=iO o->¬A b->H' b=iO o
 stay:∀ b,H b≠iQ->H' b≠iQ
 grow:Same F F'
 new:∀ b,F' b≠iQ->F b≠iQ\/H b=iQ\/A b
theorem Chg.refl {A:Addr->Prop} {F H:Hp}:Chg A F H F H:=⟨λ_ _ e _=>e,λ_ h=>h,Same.refl _,λ_ h=>.inl h⟩
theorem Chg.trans {A A1:Addr->Prop} {F H F1 H1 c H2:Hp} (a:Chg A F H F1 H1) (b:Chg A1 F1 H1 c H2) (hA:∀ x,A1 x->A x\/H x=iQ):Chg A F H c H2 where
 keep:=λx o e n=>b.keep x o (a.keep x o e n) λz=>(hA x z).elim n λq=>by rw [e] at q; cases q
 stay:=λx h=>b.stay x (a.stay x h)
 grow:=a.grow.trans b.grow
 new:=λx h=>by
  rcases b.new x h with q | q | q;·exact a.new x q
  ·refine .inr (.inl ?_);cases e:H x with
   | none=>rfl
   | some o=>exact absurd q (a.stay x (by rw [e]; simp))
  ·rcases hA x q with z | z;·exact .inr (.inr z)
   ·exact .inr (.inl z)
theorem Chg.trans' {A:Addr->Prop} {F H F1 H1 c H2:Hp} (a:Chg A F H F1 H1) (b:Chg A F1 H1 c H2):Chg A F H c H2:=a.trans b λ_ z=>.inl z
theorem Chg.mono {A c:Addr->Prop} {F H F1 H1:Hp} (a:Chg A F H F1 H1) (h:∀ x,A x->c x):Chg c F H F1 H1:=
 ⟨λb o e n=>a.keep b o e λz=>n (h b z),a.stay,a.grow,λb z=>(a.new b z).imp id (Or.imp id (h b))⟩
abbrev No:Addr->Prop:=λ_=>False
theorem Chg.ofNo {A:Addr->Prop} {F H F1 H1:Hp} (a:Chg No F H F1 H1):Chg A F H F1 H1:=a.mono λ_ z=>z.elim
structure Rep (K:Frag) (own:List Nat) (F H:Hp) (σ:St) (ρ:Sl):Prop where
 sub:Same F H
 len:σ.length=ρ.length
 val:∀ i d,i∉own->ρ[i]?=iO (iO d)->∃ v,σ[i]?=iO (iO v)/\Is K F v d
 ow:∀ i d,i∈own->ρ[i]?=iO (iO d)->∃ a,σ[i]?=iO (iO (.ref a))/\F a=iQ/\OwnIs K F H a d
 opn:∀ i,i∈own->∃ d,ρ[i]?=iO (iO d)
 dis:∀ i j a,i∈own->j∈own->σ[i]?=iO (iO (V.ref a))->σ[j]?=iO (iO (V.ref a))->i=j
def OA (own:List Nat) (σ:St):Addr->Prop:=λb=>∃ i∈own,σ[i]?=iO (iO (V.ref b))
theorem OwnIs.there {K:Frag} {F H:Hp} {a:Addr} {d:D} (h:OwnIs K F H a d):H a≠none:=by
 cases d with
 | lst ds=>obtain ⟨xs,e,_⟩:=h; rw [e]; simp
 | dct ds=>obtain ⟨xs,e,_⟩:=h; rw [e]; simp
 | ins C fs=>obtain ⟨dx,xs,e,_⟩:=h; rw [e]; simp
 | at_ b ds=>obtain ⟨_,xs,e,_⟩:=h; rw [e]; simp
 | _=>exact h.elim
theorem OwnIs.grow {K:Frag} {F H F' H':Hp} {a:Addr} {d:D} (h:OwnIs K F H a d) (g:Same F F') (k:∀ o,H a=iO o->H' a=iO o):OwnIs K F' H' a d:=by
 cases d with
 | lst ds=>obtain ⟨xs,e,t⟩:=h; exact ⟨xs,k _ e,t.mono g⟩
 | dct ds=>obtain ⟨xs,e,t⟩:=h; exact ⟨xs,k _ e,t.mono g⟩
 | ins C fs=>obtain ⟨dx,xs,e,t⟩:=h; exact ⟨dx,xs,k _ e,t.mono g⟩
 | at_ b ds=>obtain ⟨eb,xs,e,t⟩:=h; exact ⟨eb,xs,k _ e,t.mono g⟩
 | _=>exact h.elim
theorem Rep.OA_there {K:Frag} {own:List Nat} {F H:Hp} {σ:St} {ρ:Sl} (r:Rep K own F H σ ρ) {b:Addr} (h:OA own σ b):H b≠iQ/\F b=none:=by obtain ⟨i,hi,e⟩:=h;obtain ⟨d,hd⟩:=r.opn i hi;obtain ⟨a,e1,c,o⟩:=r.ow i d hi hd;rw [e] at e1;cases e1;exact ⟨o.there,c⟩
theorem Rep.grow {K:Frag} {own:List Nat} {F H F' H':Hp} {σ:St} {ρ:Sl} (r:Rep K own F H σ ρ) (c:Chg No F H F' H') (s:Same F' H'):Rep K own F' H' σ ρ where
 sub:=s
 len:=r.len
 val:=λi d hi e=>let ⟨v,h1,h2⟩:=r.val i d hi e; ⟨v,h1,h2.mono c.grow⟩
 ow:=λi d hi e=>by
  obtain ⟨a,h1,h2,h3⟩:=r.ow i d hi e;refine ⟨a,h1,?_,h3.grow c.grow λo q=>c.keep a o q λz=>z⟩;cases q:F' a with
  | none=>rfl
  | some o=>
   rcases c.new a (by rw [q]; simp) with z | z | z;·exact absurd h2 z
   ·exact absurd z h3.there
   ·exact z.elim
 opn:=r.opn
 dis:=r.dis
theorem MoIs.grow {K:Frag} {A:Addr->Prop} {m:Mo} {H0 F H F' H':Hp} {v:V} {d:D} (h:MoIs K m H0 F H v d) (b:m≠.any) (c:Chg A F H F' H') (hA:∀ x,A x->H0 x≠iQ):MoIs K m H0 F' H' v d:=by
 cases m with
 | sh=>exact Is.mono c.grow h
 | fr=>
  obtain ⟨a,e,h0,E,o⟩:=h;have n:¬A a:=λz=>hA a z h0;refine ⟨a,e,h0,?_,o.grow c.grow λo q=>c.keep a o q n⟩;cases q:F' a with
  | none=>rfl
  | some u=>
   rcases c.new a (by rw [q]; simp) with z | z | z;·exact absurd E z
   ·exact absurd z o.there
   ·exact absurd z n
 | any=>exact absurd rfl b
def XM (K:Frag) (io:List Nat) (F H:Hp) (σ:St) (ρ:Sl):Prop:=∀ i∈io,∃ d a,ρ[i]?=iO (iO d)/\σ[i]?=iO (iO (V.ref a))/\F a=iQ/\OwnIs K F H a d
theorem Rep.ioIs {K:Frag} {own io:List Nat} {F H:Hp} {σ:St} {ρ:Sl} (r:Rep K own F H σ ρ) (h:∀ i∈io,i∈own):XM K io F H σ ρ:=λi hi=>by obtain ⟨d,hd⟩:=r.opn i (h i hi);obtain ⟨a,h1,h2,h3⟩:=r.ow i d (h i hi) hd;exact ⟨d,a,hd,h1,h2,h3⟩
structure Ct where
 K:Frag
 cv:Str->iR
 E:XK
 io:List Nat
 mr:Mo
 ol:List Nat
 ox:List Nat
 oxs:∀ i∈ox,i∈io
abbrev KZ:=Out (D×Sl)
def Po (C:Ct) (own:List Nat) (m:Mo) (σ:St) (F H:Hp) (r:KZ) (Q:VK):Prop:=match r with
 | .ok (d,ρ')=>∀ v F' H',Rep C.K own F' H' σ ρ'->Chg (OA own σ) F H F' H'->MoIs C.K m H F' H' v d->Q v H'
 | .exc c ρ'=>∀ F' H',Same F' H'->XM C.K C.ox F' H' σ ρ'->Chg (OA own σ) F H F' H'->C.E (C.cv c) iQ H'
 | .bad=>False
abbrev qZ:=Sl->KZ
def tE (C:Ct) (own:List Nat) (m:Mo) (f:qZ):TE:=λσ H Q=>∃ F ρ,Rep C.K own F H σ ρ/\Po C own m σ F H (f ρ) Q
theorem MoIs.back {K:Frag} {m:Mo} {A:Addr->Prop} {H0 F H F1 H1:Hp} {b Ha:Hp} {v:V} {d:D} (c:Chg A b H0 F1 H1) (h:MoIs K m H1 F H v d):MoIs K m H0 F H v d:=by
 cases m with
 | sh=>exact h
 | fr=>
  obtain ⟨a,e,h0,r⟩:=h;refine ⟨a,e,?_,r⟩;cases q:H0 a with
  | none=>rfl
  | some o=>exact absurd h0 (c.stay a (by rw [q]; simp))
 | any=>exact h
theorem Po.shift {C:Ct} {own:List Nat} {m:Mo} {σ:St} {F H F1 H1:Hp} {r:KZ} {Q:VK} (h:Po C own m σ F H r Q) (c:Chg (OA own σ) F H F1 H1):Po C own m σ F1 H1 r Q:=by
 cases r with
 | ok p=>exact λv F' H' a S mo=>h v F' H' a (c.trans' S) (MoIs.back (Ha:=H1) c mo)
 | exc x=>exact λF' H' s io S=>h F' H' s io (c.trans' S)
 | bad=>exact h.elim
theorem Po.bind {C:Ct} {own:List Nat} {m ma:Mo} {σ:St} {F H:Hp} {o:KZ} {k:D×Sl->KZ} {Q R:VK} (hp:Po C own m σ F H (o.bind k) Q)
  (h:∀ v F1 H1 d ρ1,Rep C.K own F1 H1 σ ρ1->Chg (OA own σ) F H F1 H1->MoIs C.K ma H F1 H1 v d->Po C own m σ F1 H1 (k (d,ρ1)) Q->R v H1):Po C own ma σ F H o R:=by
 cases o with
 | ok p=>obtain ⟨d,ρ1⟩:=p;exact λv F1 H1 a c mo=>h v F1 H1 d ρ1 a c mo (Po.shift (show Po C own m σ F H (k (d,ρ1)) Q from hp) c)
 | exc x=>exact hp
 | bad=>exact hp.elim
def PoV (C:Ct) (m:Mo) (F H:Hp) (r:Out D) (Q:VK):Prop:=match r with
 | .ok d=>∀ v F' H',Same F' H'->Chg No F H F' H'->MoIs C.K m H F' H' v d->Q v H'
 | _=>False
def OpD (X:Cx) (C:Ct) (m:Mo) (f:iR->iR->Sem iR) (g:D->D->Out D):Prop:=
 OpR X f (λx y H Q=>∃ F dx d,Same F H/\TopIs C.K F H x dx/\TopIs C.K F H y d/\PoV C m F H (g dx d) Q)
def UnD (X:Cx) (C:Ct) (m:Mo) (f:iR->Sem iR) (g:D->Out D):Prop:=
 UnR X f (λx H Q=>∃ F dx,Same F H/\TopIs C.K F H x dx/\PoV C m F H (g dx) Q)
noncomputable def Out.plain {α:Type}:Out α->Out α
 | .ok a=>.ok a
 | _=>.bad
theorem PoV.of {C:Ct} {own:List Nat} {m:Mo} {σ:St} {F H:Hp} {o:Out D} {ρ:Sl} {Q:VK} (a:Rep C.K own F H σ ρ) (h:Po C own m σ F H (o.plain.bind λd=>.ok (d,ρ)) Q):PoV C m F H o Q:=by
 cases o with
 | ok d=>exact λv F' H' s c mo=>h v F' H' (a.grow c s) c.ofNo mo
 | exc c=>exact h.elim
 | bad=>exact h.elim
noncomputable def d2 (g:D->D->Out D) (fa fb:qZ):qZ:=λρ=>(fa ρ).bind λp=>(fb p.2).bind λq=>(g p.1 q.1).plain.bind λd=>.ok (d,q.2)
noncomputable def d1 (g:D->Out D) (fa:qZ):qZ:=λρ=>(fa ρ).bind λp=>(g p.1).plain.bind λd=>.ok (d,p.2)
section
variable {X:Cx} {C:Ct} {own:List Nat} {a b:Expr} {fa fb:qZ} {m ma mb:Mo} {pos:Pos}
theorem Va {g:D->D->Out D} {σ:St} {H:Hp} {Q:VK} (f:ma≠.any) (h:tE C own m (d2 g fa fb) σ H Q):tE C own ma fa σ H λx H1=>tE C own mb fb σ H1 λy H2=>∃ F dx i,Same F H2/\TopIs C.K F H2 x dx/\TopIs C.K F H2 y i/\PoV C m F H2 (g dx i) Q:=by obtain ⟨F,ρ,p,h⟩:=h;refine ⟨F,ρ,p,Po.bind h λv F1 H1 d ρ1 a c1 c h1=>⟨F1,ρ1,a,Po.bind h1 λw j H2 e ρ2 r c2 b h2=>?_⟩⟩;exact ⟨j,d,e,r.sub,(c.grow f c2 λx z=>(p.OA_there z).1).top,b.top,PoV.of r h2⟩
theorem XN {g:D->Out D} {σ:St} {H:Hp} {Q:VK} (h:tE C own m (d1 g fa) σ H Q):tE C own ma fa σ H λx H1=>∃ F dx,Same F H1/\TopIs C.K F H1 x dx/\PoV C m F H1 (g dx) Q:=by obtain ⟨F,ρ,r,h⟩:=h;refine ⟨F,ρ,r,Po.bind h λv F1 H1 d ρ1 a c1 c h1=>?_⟩;exact ⟨F1,d,a.sub,c.top,PoV.of a h1⟩
theorem jz {e:Expr} {t t':TE} (h:PE X e t) (i:∀ σ H Q,t' σ H Q->t σ H Q):PE X e t':=⟨λpins s σ H Q I hw=>h pins s σ H Q I (i σ H Q hw)⟩
theorem qbX {e:Expr} {t t':TT} (h:PT X e t) (i:∀ σ H Q,t' σ H Q->t σ H Q):PT X e t':=⟨λpins s σ H Q I hw=>h pins s σ H Q I (i σ H Q hw)⟩
theorem jx {op:Operator} {g:D->D->Out D} (l:OpD X C m (lD op) g) (c:PE X a (tE C own ma fa)) (d:PE X b (tE C own mb fb)) (f:ma≠.any:=by decide):PE X (.BinOp a op b pos) (tE C own m (d2 g fa fb)):=
 jz (qiA l c d) λ_ _ _ h=>Va f h
theorem yt {op:CmpOp} {g:D->D->Out D} (l:OpD X C m (j0 op) g) (c:PE X a (tE C own ma fa)) (d:PE X b (tE C own mb fb)) (f:ma≠.any:=by decide)
  (k:l7 op b=false:=by first | exact qda _ | with_unfolding_all rfl):PE X (.Compare a [op] [b] pos) (tE C own m (d2 g fa fb)):=
 jz (qdU l c d k) λ_ _ _ h=>Va f h
theorem qef {op:UnaryOp} {g:D->Out D} (l:UnD X C m (unaryOp op) g) (b:PE X a (tE C own ma fa)):PE X (.UnaryOp op a pos) (tE C own m (d1 g fa)):=
 jz (qiB l b) λ_ _ _ h=>XN h
end
instance:DecidableEq Mo:=λa b=>by cases a <;> cases b <;> first | exact isTrue rfl | exact isFalse (by intro h; cases h)
theorem qbY {K:Frag} {own:List Nat} {H0 F H:Hp} {σ:St} {ρ:Sl} {v:V} {d:D} (r:Rep K own F H σ ρ) (hA:∀ b,OA own σ b->H0 b≠iQ) (h:MoIs K .fr H0 F H v d):∃ F',Rep K own F' H σ ρ/\Same F F'/\Is K F' v d/\∀ b,F' b≠iQ->F b≠iQ\/H0 b=none:=by
 obtain ⟨a,rfl,h0,E,o⟩:=h;obtain ⟨u,hu⟩:∃ u,H a=iO u:=by
  cases q:H a with
  | none=>exact absurd q o.there
  | some u=>exact ⟨u,rfl⟩
 have gr:Same F (upd F a u):=λb w e=>by rw [qu (qA e E)]; exact e
 have y:Same (upd F a u) H:=λb w e=>by
  by_cases q:b=a;·subst q; rw [qm] at e; cases e; exact hu
  ·rw [qu q] at e; exact r.sub b w e
 refine ⟨upd F a u,⟨y,r.len,λi d hi e=>?_,λi d hi e=>?_,r.opn,r.dis⟩,gr,?_,λb f=>?_⟩;·obtain ⟨v,h1,h2⟩:=r.val i d hi e;exact ⟨v,h1,h2.mono gr⟩
 ·obtain ⟨c,h1,h2,h3⟩:=r.ow i d hi e;refine ⟨c,h1,?_,h3.grow gr λ_ q=>q⟩;have n:c≠a:=λq=>by subst q; exact hA c ⟨i,hi,h1⟩ h0
  rw [qu n]; exact h2
 ·cases d with
  | lst ds=>obtain ⟨xs,e,t⟩:=o; rw [hu] at e; cases e; exact .lst (.inl (.inl qm)) (t.mono gr)
  | dct ds=>obtain ⟨xs,e,t⟩:=o; rw [hu] at e; cases e; exact .dct qm (t.mono gr)
  | ins C fs=>obtain ⟨dx,xs,e,t⟩:=o; rw [hu] at e; cases e; exact .ins qm (t.mono gr)
  | at_ b ds=>obtain ⟨eb,xs,e,t⟩:=o; rw [hu] at e; cases e; subst eb; exact .at_ (.inl (.inl qm)) (t.mono gr)
  | _=>exact o.elim
 ·by_cases q:b=a;·exact .inr (by rw [q]; exact h0)
  ·rw [qu q] at f; exact .inl f
theorem Po.toSh {C:Ct} {own:List Nat} {m:Mo} {σ:St} {F H:Hp} {d:Sl} {r:KZ} {Q:VK} (f:Rep C.K own F H σ d) (g:m≠.any) (h:Po C own .sh σ F H r Q):Po C own m σ F H r Q:=by
 cases r with
 | ok p=>
  intro v F' H' a c mo;cases m with
  | sh=>exact h v F' H' a c mo
  | fr=>
   obtain ⟨j,e,gr,is,n⟩:=qbY a (λb z=>(f.OA_there z).1) mo;refine h v j H' e ⟨c.keep,c.stay,c.grow.trans gr,λb i=>?_⟩ is;rcases n b i with z | z;·exact c.new b z
   ·exact .inr (.inl z)
  | any=>exact absurd rfl g
 | exc x=>exact h
 | bad=>exact h.elim
section
variable {X:Cx} {C:Ct} {own:List Nat} {a b e:Expr} {f fa fb:qZ} {m ma mb:Mo} {pos:Pos}
theorem yu (h:PE X e (tE C own m f)) (c:m≠.any):PE X e (tE C own .sh f):=jz h λ_ _ _ ⟨F,ρ,a,p⟩=>⟨F,ρ,a,p.toSh a c⟩
noncomputable def qc (i:Nat):qZ:=λρ=>match ρ[i]? with
 | some (iO d)=>.ok (d,ρ)
 | _=>.bad
noncomputable def dC (d:D):qZ:=λρ=>.ok (d,ρ)
theorem qgq {i:Nat} {x:Str} (b:X.N[i]?=iO x) (c:Vis X.env.scope x) (l:i∉own) (hd:Dbg x:=by decide) (a:Cdk x:=by decide):PE X (.Name x pos) (tE C own .sh (qc i)):=by
 refine jz (wA b c hd a) λσ H Q ⟨F,ρ,r,h⟩=>?_;unfold qc at h;cases e:ρ[i]? with
 | none=>rw [e] at h; exact h.elim
 | some o=>
  cases o with
  | none=>rw [e] at h; exact h.elim
  | some d=>rw [e] at h;obtain ⟨v,h1,h2⟩:=r.val i d l e;exact ⟨v,h1,h v F H r .refl h2⟩
theorem qeg {i:Nat} {x:Str} (f:X.N[i]?=iO x) (c:Vis X.env.scope x) (l:i∈own) (hd:Dbg x:=by decide) (b:Cdk x:=by decide):PE X (.Name x pos) (tE C own .any (qc i)):=by
 refine jz (wA f c hd b) λσ H Q ⟨F,ρ,r,h⟩=>?_;unfold qc at h;cases e:ρ[i]? with
 | none=>rw [e] at h; exact h.elim
 | some o=>
  cases o with
  | none=>rw [e] at h; exact h.elim
  | some d=>rw [e] at h;obtain ⟨a,h1,h2,h3⟩:=r.ow i d l e;exact ⟨_,h1,h _ F H r .refl (.inr ⟨a,rfl,h3⟩)⟩
theorem qgr {v:V} {d:D} (h:PE X e (tC v)) (i:∀ F,Is C.K F v d):PE X e (tE C own .sh (dC d)):=jz h λσ H Q ⟨F,ρ,a,h⟩=>h v F H a .refl (i F)
theorem qt {i j pos}:PE X (.Constant (.int i) j pos) (tE C own .sh (dC (.int i))):=qgr qfW λ_=>.int i
theorem wx {i j pos}:PE X (.Constant (.bool i) j pos) (tE C own .sh (dC (.bl i))):=qgr qip λ_=>.bl i
theorem UW {j pos}:PE X (.Constant .none j pos) (tE C own .sh (dC .non)):=qgr qfX λ_=>.non
theorem jh {x j pos} (h:cC x<=sizeLine:=by decide):PE X (.Constant (.str x) j pos) (tE C own .sh (dC (.str x))):=qgr qc7 λ_=>.str h
theorem qeh {x:Str} {v:V} {d:D} {u:iR} (hg:Gl X x) (c:X.mg x=iO u) (r:RelV v u) (i:∀ F,Is C.K F v d) (hd:Dbg x:=by decide):PE X (.Name x pos) (tE C own .sh (dC d)):=qgr (qdN hg c r hd) i
noncomputable def KC (g:Int->Int->Out D):D->D->Out D
 | .int i,.int j=>g i j
 | _,_=>.bad
theorem TopIs.int {K:Frag} {F H:Hp} {v:V} {i:Int} (h:TopIs K F H v (.int i)):v=.int i:=by
 rcases h with h | ⟨a,_,h⟩
 ·cases h; rfl
 ·exact h.elim
theorem TopIs.str {K:Frag} {F H:Hp} {v:V} {x:Str} (h:TopIs K F H v (.str x)):v=.str x/\x.length<=sizeLine:=by
 rcases h with h | ⟨a,_,h⟩
 ·cases h; exact ⟨rfl,by assumption⟩
 ·exact h.elim
theorem TopIs.bl {K:Frag} {F H:Hp} {v:V} {x:Bool} (h:TopIs K F H v (.bl x)):v=.bl x:=by
 rcases h with h | ⟨a,_,h⟩
 ·cases h; rfl
 ·exact h.elim
theorem TopIs.non {K:Frag} {F H:Hp} {v:V} (h:TopIs K F H v .non):v=.non:=by
 rcases h with h | ⟨a,_,h⟩
 ·cases h; rfl
 ·exact h.elim
theorem TopIs.lst {K:Frag} {F H:Hp} {v:V} {ds:List D} (s:Same F H) (h:TopIs K F H v (.lst ds)):∃ a xs,v=.ref a/\SqL K H a xs/\IsL K F xs ds:=by
 rcases h with h | ⟨a,e,h⟩
 ·cases h with
  | lst h t=>exact ⟨_,_,rfl,s.seq h,t⟩
 ·obtain ⟨xs,i,t⟩:=h;exact ⟨a,xs,e,.inl (.inl i),t⟩
theorem TopIs.tup {K:Frag} {F H:Hp} {v:V} {ds:List D} (s:Same F H) (h:TopIs K F H v (.tup ds)):∃ a xs,v=.ref a/\SqT K H a xs/\IsL K F xs ds:=by
 rcases h with h | ⟨a,e,h⟩
 ·cases h with
  | tup h t=>exact ⟨_,_,rfl,jg s h,t⟩
 ·exact h.elim
theorem TopIs.dct {K:Frag} {F H:Hp} {v:V} {ds:List (Key×D)} (s:Same F H) (h:TopIs K F H v (.dct ds)):∃ a kv,v=.ref a/\H a=iO (.dK kv)/\IsK K F kv ds:=by
 rcases h with h | ⟨a,e,h⟩
 ·cases h with
  | dct h t=>exact ⟨_,_,rfl,s _ _ h,t⟩
 ·obtain ⟨xs,i,t⟩:=h;exact ⟨a,xs,e,i,t⟩
theorem Gn {fn:iR->iR->Sem iR} {P:Int->Int->Prop} [∀ i j,Decidable (P i j)] {g:Int->Int->V} {d:Int->Int->D} (l:OpR X fn (rI P g)) (hg:∀ F i j,Is C.K F (g i j) (d i j)):OpD X C .sh fn (KC λi j=>if P i j then .ok (d i j) else .bad):=by
 intro pins s σ H x y v u Q I r c h;obtain ⟨F,dx,a,b,t,ty,po⟩:=h;cases dx <;> try exact po.elim
 cases a <;> try exact po.elim
 rename_i i j;have po:PoV C .sh F H (if P i j then .ok (d i j) else .bad) Q:=po;obtain rfl:=t.int;obtain rfl:=ty.int;by_cases q:P i j;·rw [Aa q] at po;exact l pins s σ H _ _ v u Q I r c ⟨i,j,rfl,rfl,q,po (g i j) F H b .refl (hg F i j)⟩
 ·rw [Ab q] at po; exact po.elim
theorem Go {fn:iR->iR->Sem iR} {g:Int->Int->V} {d:Int->Int->D} (l:OpR X fn (rI0 g)) (hg:∀ F i j,Is C.K F (g i j) (d i j)):OpD X C .sh fn (KC λi j=>.ok (d i j)):=by
 intro pins s σ H x y v u Q I r c h;obtain ⟨F,dx,a,b,t,ty,po⟩:=h;cases dx <;> try exact po.elim
 cases a <;> try exact po.elim
 rename_i i j;obtain rfl:=t.int;obtain rfl:=ty.int;exact l pins s σ H _ _ v u Q I r c ⟨i,j,rfl,rfl,po (g i j) F H b .refl (hg F i j)⟩
noncomputable def qdb:D->D->Out D:=KC λi j=>.ok (.int (i - j))
theorem QP:OpD X C .sh (lD .Sub) qdb:=Go qf8 λ_ _ _=>.int _
instance:∀ i j,Decidable (CMul i j):=λi j=>inferInstanceAs (Decidable (_\/_))
instance:∀ i j,Decidable (qkg i j):=λi j=>inferInstanceAs (Decidable (_/\_))
noncomputable def qfF:D->D->Out D:=KC λi j=>if CMul i j then .ok (.int (i * j)) else .bad
theorem Gp:OpD X C .sh (lD .Mult) qfF:=Gn qf9 λ_ _ _=>.int _
noncomputable def qbB:D->D->Out D:=KC λi j=>if 0 < j then .ok (.int (i % j)) else .bad
theorem QQ:OpD X C .sh (lD .Mod) qbB:=Gn qga λ_ _ _=>.int _
noncomputable def kL (x y:Str):Bool:=decide (x.cps.toList < y.cps.toList)
noncomputable def ltD:D->D->Out D
 | .int i,.int j=>.ok (.bl (decide (i < j)))
 | .str x,.str y=>.ok (.bl (kL x y))
 | _,_=>.bad
theorem qbZ:OpD X C .sh (j0 .Lt) ltD:=by
 intro pins s σ H x y v u Q I d c h;obtain ⟨F,dx,a,b,t,ty,po⟩:=h;cases dx <;> try exact po.elim
 ·cases a <;> try exact po.elim
  obtain rfl:=t.int;obtain rfl:=ty.int;exact qiD pins s σ H _ _ v u Q I d c ⟨_,_,rfl,rfl,po _ F H b .refl (.bl _)⟩
 ·cases a <;> try exact po.elim
  obtain ⟨rfl,_⟩:=t.str;obtain ⟨rfl,_⟩:=ty.str;exact ZT pins s σ H _ _ v u Q I d c ⟨_,_,rfl,rfl,po _ F H b .refl (.bl _)⟩
end
noncomputable def eqS (a b:D):Option Bool:=match a with
 | .non=>match b with
  | .non=>iO iT
  | .bl _=>iO iS
  | .int _=>iO iS
  | .str _=>iO iS
  | .tup _=>iO iS
  | .lst _=>iO iS
  | .dct _ | .raw _ | .xcp _ | .ins _ _ | .at_ _ _=>iQ
 | .bl x=>match b with
  | .non=>iO iS
  | .bl y=>iO (x == y)
  | .int y=>iO ((if x then 1 else 0) == y)
  | .str _=>iO iS
  | .tup _=>iO iS
  | .lst _=>iO iS
  | .dct _ | .raw _ | .xcp _ | .ins _ _ | .at_ _ _=>iQ
 | .int x=>match b with
  | .non=>iO iS
  | .bl y=>iO (x == (if y then 1 else 0))
  | .int y=>iO (x == y)
  | .str _=>iO iS
  | .tup _=>iO iS
  | .lst _=>iO iS
  | .dct _ | .raw _ | .xcp _ | .ins _ _ | .at_ _ _=>iQ
 | .str x=>match b with
  | .non=>iO iS
  | .bl _=>iO iS
  | .int _=>iO iS
  | .str y=>iO (x == y)
  | .tup _=>iO iS
  | .lst _=>iO iS
  | .dct _ | .raw _ | .xcp _ | .ins _ _ | .at_ _ _=>iQ
 | .tup x=>match b with
  | .non=>iO iS
  | .bl _=>iO iS
  | .int _=>iO iS
  | .str _=>iO iS
  | .tup _=>iQ
  | .lst _=>iO iS
  | .dct _ | .raw _ | .xcp _ | .ins _ _ | .at_ _ _=>iQ
 | .lst x=>match b with
  | .non=>iO iS
  | .bl _=>iO iS
  | .int _=>iO iS
  | .str _=>iO iS
  | .tup _=>iO iS
  | .lst _=>iQ
  | .dct _ | .raw _ | .xcp _ | .ins _ _ | .at_ _ _=>iQ
 | .dct _ | .raw _ | .xcp _ | .ins _ _ | .at_ _ _=>iQ
noncomputable def wy (f:D->D->Option Bool):List D->List D->Option Bool
 | x::xs,y::ys=>(f x y).bind λa=>(wy f xs ys).bind λb=>iO (a&&b)
 | _,_=>iO iT
noncomputable def eqN:Nat->D->D->Option Bool
 | n+1,.tup xs,.tup ys=>(wy (eqN n) xs ys).map λb=>b&&xs.length == ys.length
 | n+1,.lst xs,.lst ys=>if xs.length=ys.length then wy (eqN n) xs ys else iO iS
 | _,a,b=>eqS a b
theorem UX {n:Nat} {a b:D} (h1:∀ xs ys,a=.tup xs->b≠.tup ys) (h2:∀ xs ys,a=.lst xs->b≠.lst ys):eqN n a b=eqS a b:=by
 cases n with
 | zero=>rfl
 | succ n=>
  cases a with
  | tup xs=>cases b with
   | tup ys=>exact absurd rfl (h1 xs ys rfl)
   | _=>rfl
  | lst xs=>cases b with
   | lst ys=>exact absurd rfl (h2 xs ys rfl)
   | _=>rfl
  | _=>rfl
noncomputable def itE (f:D->D->Option Bool) (xs ys:List D) (j:Nat):Bool:=((xs[j]?).bind λx=>(ys[j]?).bind λy=>f x y).getD iS
theorem vN {f:D->D->Option Bool}:∀ {xs ys:List D} {b:Bool},wy f xs ys=iO b->b=(aK (min xs.length ys.length)).all (itE f xs ys)
 | [],ys,b,h=>by simp [wy] at h ⊢; exact h
 | x::xs,[],b,h=>by simp [wy] at h ⊢; exact h
 | x::xs,y::ys,b,h=>by
  unfold wy at h;cases e:f x y with
  | none=>rw [e] at h; simp at h
  | some a=>
   cases i:wy f xs ys with
   | none=>rw [e,i] at h; simp at h
   | some c=>
    rw [e,i] at h;have h:(a&&c)=b:=by simpa using h
    have d:=vN i;have m:min (x::xs).length (y::ys).length=min xs.length ys.length+1:=by simp only [ai]; lia
    rw [m,List.range_succ_eq_map,fC,List.all_map];have e0:itE f (x::xs) (y::ys) 0=a:=by simp [itE,e]
    have e1:(itE f (x::xs) (y::ys)) ∘ Nat.succ=itE f xs ys:=by funext j;simp [itE]
    rw [e0,e1,<-d];exact h.symm
theorem Gq {f:D->D->Option Bool}:∀ {xs ys:List D} {b:Bool},wy f xs ys=iO b->∀ (j:Nat) (x y:D),xs[j]?=iO x->ys[j]?=iO y->f x y=iO (itE f xs ys j)
 | [],ys,b,_,j,x,y,hx,_=>by simp at hx
 | x::xs,[],b,_,j,_,y,_,hy=>by simp at hy
 | x::xs,y::ys,b,h,0,x',y',hx,hy=>by
  simp at hx hy;subst hx hy;unfold wy at h;cases e:f x y with
  | none=>rw [e] at h; simp at h
  | some a=>simp [itE,e]
 | x::xs,y::ys,b,h,j+1,x',y',hx,hy=>by
  unfold wy at h;cases e:f x y with
  | none=>rw [e] at h; simp at h
  | some a=>
   cases i:wy f xs ys with
   | none=>rw [e,i] at h; simp at h
   | some c=>have q:=Gq i j x' y' (by simpa using hx) (by simpa using hy);rw [q];simp [itE]
section
variable {X:Cx} {pins:Pns} {σ:St} {F H:Hp} {s:iU}
noncomputable def smp:D->Bool
 | .non | .bl _ | .int _ | .str _ | .tup _ | .lst _=>iT
 | .dct _ | .raw _ | .xcp _ | .ins _ _ | .at_ _ _=>iS
theorem Gr {n:Nat} {d e:D} {b:Bool} (h:eqN n d e=iO b):smp d=true:=by cases d <;> first | rfl | (cases n <;> exact nomatch (show iQ=iO b from h))
theorem qiS {n:Nat} {d e:D} {b:Bool} (h:eqN n d e=iO b):smp e=true:=by cases e <;> first | rfl | (cases n <;> cases d <;> exact nomatch (show iQ=iO b from h))
theorem Gs (I:Inv X pins σ H s) (y:Same F H) {a:Addr} {xs ys:List V} (p:SqT X.K F a xs) (q:SqL X.K F a ys):False:=by obtain ⟨_,_,b,_⟩:=I.list (y.seq q);obtain ⟨_,_,e,_⟩:=I.tuple (jg y p);exact absurd rfl (PySem.SeqAt.ne_of_list_tuple b.isList e)
theorem zV {f:D->D->Option Bool} {x y:D} {xs ys:List D} {b:Bool} (h:wy f (x::xs) (y::ys)=iO b):∃ a c,f x y=iO a/\wy f xs ys=iO c/\b=(a&&c):=by
 unfold wy at h;cases e:f x y with
 | none=>rw [e] at h; cases h
 | some a=>
  cases i:wy f xs ys with
  | none=>rw [e,i] at h; cases h
  | some c=>rw [e,i] at h; exact ⟨a,c,rfl,rfl,(aM.inj h).symm⟩
theorem uR {n:Nat} {xs ys:List D} {b:Bool} (h:eqN (n+1) (.tup xs) (.tup ys)=iO b):∃ c,wy (eqN n) xs ys=iO c/\b=(c&&xs.length == ys.length):=by
 have h:((wy (eqN n) xs ys).map λb=>b&&xs.length == ys.length)=iO b:=h;cases e:wy (eqN n) xs ys with
 | none=>rw [e] at h; cases h
 | some c=>rw [e] at h; exact ⟨c,rfl,(aM.inj h).symm⟩
theorem Gt (I:Inv X pins σ H s) (y:Same F H):∀ (n:Nat) {v:V} {d e:D} {b:Bool},Is X.K F v d->Is X.K F v e->eqN n d e=iO b->b=true:=by
 have base:∀ {n:Nat} {v:V} {d e:D} {b:Bool},Is X.K F v d->Is X.K F v e->eqN n d e=iO b->(∀ a xs ds es,Is X.K F (.ref a) (.tup ds)->SqT X.K F a xs->IsL X.K F xs ds->IsL X.K F xs es->eqN n (.tup ds) (.tup es)=iO b->b=iT)->(∀ a xs ds es,SqL X.K F a xs->IsL X.K F xs ds->IsL X.K F xs es->eqN n (.lst ds) (.lst es)=iO b->b=iT)->b=true:=by
  intro n v d e b h1 h2 h ht hl;have s1:=Gr h;have s2:=qiS h;cases h1 with
  | non=>cases h2 with
   | non=>cases n <;> exact (aM.inj h).symm
   | raw=>cases s2
  | bl x=>cases h2 with
   | bl=>cases n <;> exact (aM.inj h).symm.trans (beq_self_eq_true x)
   | raw=>cases s2
  | int x=>cases h2 with
   | int=>cases n <;> exact (aM.inj h).symm.trans (beq_self_eq_true x)
   | raw=>cases s2
  | str _=>cases h2 with
   | str _=>cases n <;> exact (aM.inj h).symm.trans (beq_self_eq_true _)
   | raw=>cases s2
  | tup p1 f=>cases h2 with
   | tup p2 t=>have q:=I.tuple_inj (jg y p1) (jg y p2);subst q;exact ht _ _ _ _ (.tup p1 f) p1 f t h
   | lst p2 t=>exact (Gs I y p1 p2).elim
   | _=>cases s2
  | lst p1 f=>cases h2 with
   | lst p2 t=>have q:=I.list_inj (y.seq p1) (y.seq p2);subst q;exact hl _ _ _ _ p1 f t h
   | tup p2 t=>exact (Gs I y p2 p1).elim
   | _=>cases s2
  | _=>cases s1
 intro n
 induction n with
 | zero=>exact λ{_ _ _ _} h1 h2 h=>base h1 h2 h (λ_ _ _ _ _ _ _ _ h=>nomatch (show iQ=iO _ from h)) λ_ _ _ _ _ _ _ h=>nomatch (show iQ=iO _ from h)
 | succ n j=>
  have l:∀ {xs:List V} {ds es:List D} {b:Bool},IsL X.K F xs ds->IsL X.K F xs es->wy (eqN n) ds es=iO b->b=true:=by
   intro xs
   induction xs with
   | nil=>intro ds es b h1 h2 h; cases h1; cases h2; exact (aM.inj h).symm
   | cons x xs i=>
    intro ds es b h1 h2 h;cases h1 with
    | cons m f=>
     cases h2 with
     | cons k t=>obtain ⟨a,c,q,g,rfl⟩:=zV h;rw [j m k q,i f t g];rfl
  intro v d e b h1 h2 h;refine base h1 h2 h (λa xs ds es _ _ f t h=>?_) λa xs ds es _ f t h=>?_;·obtain ⟨c,q,rfl⟩:=uR h;rw [l f t q,f.length.symm.trans t.length,beq_self_eq_true];rfl
  ·have h:(if ds.length=es.length then wy (eqN n) ds es else iO iS)=iO _:=h;rw [Aa (f.length.symm.trans t.length)] at h;exact l f t h
end
open PySem.SeqAt
section
variable {X:Cx} {pins:Pns} {σ:St} {F H:Hp} {s:iU}
theorem Vals.getE {xs:List V} {us:List iR} (r:Vals xs us) {j:Nat} (h:j < us.length):∃ x,xs[j]?=iO x/\RelV x us[j]:=by
 have hl:=r.length;have D:j < xs.length:=by lia
 obtain ⟨u,e1,e⟩:=Vals.get (i:=j) (x:=xs[j]) r (by simp [D]);refine ⟨xs[j],by simp [D],?_⟩;rw [aA h] at e1;cases e1;exact e
theorem ui {A:j9} {n:Nat} {xs ys:List V} {ds es:List D} {us ws:List iR} {b:Bool} (g:∀ {v w:V} {d e:D} {u t:iR} {b:Bool},Is X.K F v d->Is X.K F w e->RelV v u->RelV w t->eqN n d e=iO b->EqAt A s u t b)
  (r1:Vals xs us) (r2:Vals ys ws) (i1:IsL X.K F xs ds) (i2:IsL X.K F ys es) (h:wy (eqN n) ds es=iO b) :
  ∀ j (h1:j < us.toArray.size) (h2:j < ws.toArray.size),EqAt A s us.toArray[j] ws.toArray[j] (itE (eqN n) ds es j):=by
 intro j h1 h2;have c:j < us.length:=by simpa using h1
 have a:j < ws.length:=by simpa using h2
 obtain ⟨x,ex,f⟩:=Vals.getE r1 c;obtain ⟨y,l,r⟩:=Vals.getE r2 a;obtain ⟨d,o,i⟩:=i1.get ex;obtain ⟨e,m,k⟩:=i2.get l;have q:=Gq h j d e o m;simpa using g i k f r q
theorem UY {A:j9} {n:Nat} {a c:Addr} {xs ys:List V} {ds es:List D} {b:Bool} (I:Inv X pins σ H s) (j:∀ {v w:V} {d e:D} {u t:iR} {b:Bool},Is X.K F v d->Is X.K F w e->RelV v u->RelV w t->eqN n d e=iO b->EqAt A.in1 s u t b)
  (p1:SqT X.K H a xs) (p2:SqT X.K H c ys) (i1:IsL X.K F xs ds) (i2:IsL X.K F ys es) (h:eqN (n+1) (.tup ds) (.tup es)=iO b) (m:A.units < lE):RcAt A s (.ref a) (.ref c) b:=by
 obtain ⟨us,r1,g,_⟩:=I.tuple p1;obtain ⟨ws,r2,f,_⟩:=I.tuple p2;simp only [eqN] at h;cases q:wy (eqN n) ds es with
 | none=>rw [q] at h; simp at h
 | some k=>
  rw [q] at h;have i:us.toArray.size=ds.length:=by rw [au,<-r1.length,i1.length]
  have l:ws.toArray.size=es.length:=by rw [au,<-r2.length,i2.length]
  have z:=RcAt.tuples (A:=A) g f m (ui (A:=A.in1) j r1 r2 i1 i2 q);rw [i,l,<-vN q] at z;have e:b=(k&&ds.length == es.length):=by simpa using h.symm
  rw [e]; exact z
theorem UZ {A:j9} {n:Nat} {a c:Addr} {xs ys:List V} {ds es:List D} {b:Bool} (I:Inv X pins σ H s) (k:∀ {v w:V} {d e:D} {u t:iR} {b:Bool},Is X.K F v d->Is X.K F w e->RelV v u->RelV w t->eqN n d e=iO b->EqAt A.in1 s u t b)
  (p1:SqL X.K H a xs) (p2:SqL X.K H c ys) (i1:IsL X.K F xs ds) (i2:IsL X.K F ys es) (h:eqN (n+1) (.lst ds) (.lst es)=iO b) (j:A.units < lE):RcAt A s (.ref a) (.ref c) b:=by
 obtain ⟨us,r1,g,_⟩:=I.list p1;obtain ⟨ws,r2,f,_⟩:=I.list p2;have i:us.toArray.size=ds.length:=by rw [au,<-r1.length,i1.length]
 have l:ws.toArray.size=es.length:=by rw [au,<-r2.length,i2.length]
 simp only [eqN] at h;by_cases hl:ds.length=es.length;·rw [Aa hl] at h;have z:=RcAt.lists (A:=A) g.isList f.isList (by lia) j (ui (A:=A.in1) k r1 r2 i1 i2 h);have e:=vN h;rw [i] at z;rw [e,show min ds.length es.length=ds.length by lia];exact z
 ·rw [Ab hl] at h;cases h;exact RcAt.lists_lengths g.isList f.isList (bne_iff_ne.mpr (by rw [i,l]; exact hl)) j
def Kd (s:iU):D->iR->Prop
 | .non,u=>u=.none
 | .bl b,u=>u=.bool b
 | .int i,u=>∃ t,u=.int i t
 | .str x,u=>∃ t,u=.str x t
 | .tup _,u=>∃ a its,u=.ref a/\s.heap.IsTuple a its
 | .lst _,u=>∃ a its,u=.ref a/\s.heap.IsList a its
 | _,_=>True
theorem XO (I:Inv X pins σ H s) (y:Same F H) {v:V} {d:D} {u:iR} (t:TopIs X.K F H v d) (r:RelV v u):Kd s d u:=by
 cases d with
 | non=>obtain rfl:=t.non; exact r
 | bl=>obtain rfl:=t.bl; exact r
 | int=>obtain rfl:=t.int; exact r
 | str=>obtain ⟨rfl,_⟩:=t.str; exact r
 | tup=>obtain ⟨a,_,rfl,p,_⟩:=t.tup y; obtain ⟨_,_,q,_⟩:=I.tuple p; exact ⟨a,_,r,q⟩
 | lst=>obtain ⟨a,_,rfl,p,_⟩:=t.lst y; obtain ⟨_,_,q,_⟩:=I.list p; exact ⟨a,_,r,q.isList⟩
 | _=>trivial
theorem qgs {A:j9} {d e:D} {u t:iR} {b:Bool} (f:A.units < lE) (k1:Kd s d u) (k2:Kd s e t) (h:eqS d e=iO b):EqAt A s u t b:=by
 cases d <;> cases e <;> try (cases h; done)
 all_goals
  cases h;first | obtain ⟨_,_,rfl,a⟩:=k1 | obtain ⟨_,rfl⟩:=k1 | cases k1
  first | obtain ⟨_,_,rfl,q⟩:=k2 | obtain ⟨_,rfl⟩:=k2 | cases k2
  with_reducible first | exact EqAt.same _ | exact EqAt.none_bool _ | exact EqAt.none_int _ _ | exact EqAt.none_str _ _ | exact EqAt.bool_none _ | exact EqAt.bool_bool _ _ | exact EqAt.bool_int _ _ _ | exact EqAt.bool_str _ _ _ | exact EqAt.int_none _ _ | exact EqAt.int_bool _ _ _ | exact EqAt.int_int _ _ _ _ | exact EqAt.int_str _ _ _ _ | exact EqAt.str_none _ _ | exact EqAt.str_bool _ _ _ | exact EqAt.str_int _ _ _ _ | exact EqAt.str_str _ _ _ _ | exact EqAt.none_tuple q f | exact EqAt.tuple_none a f | exact EqAt.none_list q f | exact EqAt.list_none a f | exact EqAt.bool_tuple _ q f | exact EqAt.tuple_bool _ a f | exact EqAt.bool_list _ q f | exact EqAt.list_bool _ a f | exact EqAt.int_tuple _ _ q f | exact EqAt.tuple_int _ _ a f | exact EqAt.int_list _ _ q f | exact EqAt.list_int _ _ a f | exact EqAt.str_tuple _ _ q f | exact EqAt.tuple_str _ _ a f | exact EqAt.str_list _ _ q f | exact EqAt.list_str _ _ a f | exact EqAt.tuple_list a q f | exact EqAt.list_tuple a q f
theorem Gu (I:Inv X pins σ H s) (y:Same F H):∀ (n:Nat) {A:j9} {v w:V} {d e:D} {u t:iR} {b:Bool},A.units+n < lE->Is X.K F v d->Is X.K F w e->RelV v u->RelV w t->eqN n d e=iO b->EqAt A s u t b:=by
 intro n
 induction n with
 | zero=>exact λB h1 h2 x r h=>qgs (by lia) (XO I y (.inl h1) x) (XO I y (.inl h2) r) h
 | succ n o=>
  intro A v w d e u t b B h1 h2 x r h;have i:A.in1.units+n < lE:=by show A.units+1+n < lE; lia
  by_cases both:(∃ xs ys,d=.tup xs/\e=.tup ys)\/(∃ xs ys,d=.lst xs/\e=.lst ys)
  ·rcases both with ⟨ds,es,rfl,rfl⟩ | ⟨ds,es,rfl,rfl⟩
   ·have g:=h1;have f:=h2;cases h1 with
    | tup p1 l=>
     cases h2 with
     | tup p2 j=>
      rename_i a xs c ys;cases x;cases r;by_cases ne:a=c;·subst ne;rw [Gt I y (n+1) g f h];exact EqAt.same _
      ·exact EqAt.of_refs ne (UY I (λm k z q p=>o i m k z q p) (jg y p1) (jg y p2) l j h (by lia))
   ·have g:=h1;have f:=h2;cases h1 with
    | lst p1 l=>
     cases h2 with
     | lst p2 j=>
      rename_i a xs c ys;cases x;cases r;by_cases ne:a=c;·subst ne;rw [Gt I y (n+1) g f h];exact EqAt.same _
      ·exact EqAt.of_refs ne (UZ I (λm k z q p=>o i m k z q p) (y.seq p1) (y.seq p2) l j h (by lia))
  ·have e1:eqN (n+1) d e=eqS d e:=UX (λxs ys m k=>both (.inl ⟨xs,ys,m,k⟩)) (λxs ys m k=>both (.inr ⟨xs,ys,m,k⟩));have C:eqN n d e=eqS d e:=UX (λxs ys m k=>both (.inl ⟨xs,ys,m,k⟩)) (λxs ys m k=>both (.inr ⟨xs,ys,m,k⟩));exact o (by lia) h1 h2 x r (by rw [C,<-e1]; exact h)
end
end L2.D2
namespace L2.D2
open PySem PySem.Spec PyProof.Rows
open PySem.SeqAt
variable {X:Cx} {A:j9} {n:Nat} {b:Bool}
section
variable {pins:Pns} {σ:St} {F H:Hp} {s:iU}
theorem qb0 {a c:Addr} {xs ys:List V} {ds es:List D} (I:Inv X pins σ H s) (j:∀ {v w:V} {d e:D} {u t:iR} {b:Bool},Is X.K F v d->Is X.K F w e->RelV v u->RelV w t->eqN n d e=iO b->EqAt A.in1 s u t b)
  (p1:SqT X.K H a xs) (p2:SqT X.K H c ys) (i1:IsL X.K F xs ds) (i2:IsL X.K F ys es) (h:eqN (n+1) (.tup ds) (.tup es)=iO b) (m:A.units < lE):RcNeAt A s (.ref a) (.ref c) (!b):=by
 obtain ⟨us,r1,g,_⟩:=I.tuple p1;obtain ⟨ws,r2,f,_⟩:=I.tuple p2;simp only [eqN] at h;cases q:wy (eqN n) ds es with
 | none=>rw [q] at h; simp at h
 | some k=>
  rw [q] at h;have i:us.toArray.size=ds.length:=by rw [au,<-r1.length,i1.length]
  have l:ws.toArray.size=es.length:=by rw [au,<-r2.length,i2.length]
  have z:=RcNeAt.tuples (A:=A) g f m (ui (A:=A.in1) j r1 r2 i1 i2 q);rw [i,l,<-vN q] at z;have e:b=(k&&ds.length == es.length):=by simpa using h.symm
  rw [e]; exact z
theorem qb1 {a c:Addr} {xs ys:List V} {ds es:List D} (I:Inv X pins σ H s) (k:∀ {v w:V} {d e:D} {u t:iR} {b:Bool},Is X.K F v d->Is X.K F w e->RelV v u->RelV w t->eqN n d e=iO b->EqAt A.in1 s u t b)
  (p1:SqL X.K H a xs) (p2:SqL X.K H c ys) (i1:IsL X.K F xs ds) (i2:IsL X.K F ys es) (h:eqN (n+1) (.lst ds) (.lst es)=iO b) (j:A.units < lE):RcNeAt A s (.ref a) (.ref c) (!b):=by
 obtain ⟨us,r1,g,_⟩:=I.list p1;obtain ⟨ws,r2,f,_⟩:=I.list p2;have i:us.toArray.size=ds.length:=by rw [au,<-r1.length,i1.length]
 have l:ws.toArray.size=es.length:=by rw [au,<-r2.length,i2.length]
 simp only [eqN] at h;by_cases hl:ds.length=es.length;·rw [Aa hl] at h;have z:=RcNeAt.lists (A:=A) g.isList f.isList (by lia) j (ui (A:=A.in1) k r1 r2 i1 i2 h);have e:=vN h;rw [i] at z;rw [e,show min ds.length es.length=ds.length by lia];exact z
 ·rw [Ab hl] at h;cases h;exact RcNeAt.lists_lengths g.isList f.isList (bne_iff_ne.mpr (by rw [i,l]; exact hl)) j
theorem qgt (I:Inv X pins σ H s) (y:Same F H) {v w:V} {d e:D} {u t:iR} (l:A.units+n+1 < lE) (j:TopIs X.K F H v d) (i:TopIs X.K F H w e) (x:RelV v u) (r:RelV w t) (h:eqN (n+1) d e=iO b):RcAt A s u t b:=by
 have f:A.units < lE:=by lia
 have k:∀ {v w:V} {d e:D} {u t:iR} {b:Bool},Is X.K F v d->Is X.K F w e->RelV v u->RelV w t->eqN n d e=iO b->EqAt A.in1 s u t b:=λB o z m p=>Gu I y n (by show A.units+1+n < lE; lia) B o z m p;have k1:=XO I y j x;have k2:=XO I y i r;cases d <;> cases e <;> try (cases h; done)
 case tup.tup=>
  obtain ⟨a,xs,rfl,p1,i1⟩:=j.tup y; obtain ⟨c,ys,rfl,p2,i2⟩:=i.tup y; cases x; cases r;exact UY I k p1 p2 i1 i2 h f
 case lst.lst=>
  obtain ⟨a,xs,rfl,p1,i1⟩:=j.lst y; obtain ⟨c,ys,rfl,p2,i2⟩:=i.lst y; cases x; cases r;exact UZ I k p1 p2 i1 i2 h f
 all_goals
  cases h;clear x r j i;first | obtain ⟨_,_,rfl,g⟩:=k1 | obtain ⟨_,rfl⟩:=k1 | cases k1
  first | obtain ⟨_,_,rfl,q⟩:=k2 | obtain ⟨_,rfl⟩:=k2 | cases k2
  with_reducible first | exact RcAt.none_none | exact RcAt.none_bool _ | exact RcAt.none_int _ _ | exact RcAt.none_str _ _ | exact RcAt.bool_none _ | exact RcAt.bool_bool _ _ | exact RcAt.bool_int _ _ _ | exact RcAt.bool_str _ _ _ | exact RcAt.int_none _ _ | exact RcAt.int_bool _ _ _ | exact RcAt.int_int _ _ _ _ | exact RcAt.int_str _ _ _ _ | exact RcAt.str_none _ _ | exact RcAt.str_bool _ _ _ | exact RcAt.str_int _ _ _ _ | exact RcAt.str_str _ _ _ _ | exact RcAt.none_tuple q f | exact RcAt.tuple_none g f | exact RcAt.none_list q f | exact RcAt.list_none g f | exact RcAt.bool_tuple _ q f | exact RcAt.tuple_bool _ g f | exact RcAt.bool_list _ q f | exact RcAt.list_bool _ g f | exact RcAt.int_tuple _ _ q f | exact RcAt.tuple_int _ _ g f | exact RcAt.int_list _ _ q f | exact RcAt.list_int _ _ g f | exact RcAt.str_tuple _ _ q f | exact RcAt.tuple_str _ _ g f | exact RcAt.str_list _ _ q f | exact RcAt.list_str _ _ g f | exact RcAt.tuple_list g q f | exact RcAt.list_tuple g q f
theorem qgu (I:Inv X pins σ H s) (y:Same F H) {v w:V} {d e:D} {u t:iR} (l:A.units+n+1 < lE) (j:TopIs X.K F H v d) (i:TopIs X.K F H w e) (x:RelV v u) (r:RelV w t) (h:eqN (n+1) d e=iO b):RcNeAt A s u t (!b):=by
 have f:A.units < lE:=by lia
 have k:∀ {v w:V} {d e:D} {u t:iR} {b:Bool},Is X.K F v d->Is X.K F w e->RelV v u->RelV w t->eqN n d e=iO b->EqAt A.in1 s u t b:=λB o z m p=>Gu I y n (by show A.units+1+n < lE; lia) B o z m p;have k1:=XO I y j x;have k2:=XO I y i r;cases d <;> cases e <;> try (cases h; done)
 case tup.tup=>
  obtain ⟨a,xs,rfl,p1,i1⟩:=j.tup y; obtain ⟨c,ys,rfl,p2,i2⟩:=i.tup y; cases x; cases r;exact qb0 I k p1 p2 i1 i2 h f
 case lst.lst=>
  obtain ⟨a,xs,rfl,p1,i1⟩:=j.lst y; obtain ⟨c,ys,rfl,p2,i2⟩:=i.lst y; cases x; cases r;exact qb1 I k p1 p2 i1 i2 h f
 all_goals
  cases h;clear x r j i;first | obtain ⟨_,_,rfl,g⟩:=k1 | obtain ⟨_,rfl⟩:=k1 | cases k1
  first | obtain ⟨_,_,rfl,q⟩:=k2 | obtain ⟨_,rfl⟩:=k2 | cases k2
  try simp only [Bool.not_true,Bool.not_false]
  with_reducible first | exact RcNeAt.none_none | exact RcNeAt.none_bool _ | exact RcNeAt.none_int _ _ | exact RcNeAt.none_str _ _ | exact RcNeAt.bool_none _ | exact RcNeAt.bool_bool _ _ | exact RcNeAt.bool_int _ _ _ | exact RcNeAt.bool_str _ _ _ | exact RcNeAt.int_none _ _ | exact RcNeAt.int_bool _ _ _ | exact RcNeAt.int_int _ _ _ _ | exact RcNeAt.int_str _ _ _ _ | exact RcNeAt.str_none _ _ | exact RcNeAt.str_bool _ _ _ | exact RcNeAt.str_int _ _ _ _ | exact RcNeAt.str_str _ _ _ _ | exact RcNeAt.none_tuple q f | exact RcNeAt.tuple_none g f | exact RcNeAt.none_list q f | exact RcNeAt.list_none g f | exact RcNeAt.bool_tuple _ q f | exact RcNeAt.tuple_bool _ g f | exact RcNeAt.bool_list _ q f | exact RcNeAt.list_bool _ g f | exact RcNeAt.int_tuple _ _ q f | exact RcNeAt.tuple_int _ _ g f | exact RcNeAt.int_list _ _ q f | exact RcNeAt.list_int _ _ g f | exact RcNeAt.str_tuple _ _ q f | exact RcNeAt.tuple_str _ _ g f | exact RcNeAt.str_list _ _ q f | exact RcNeAt.list_str _ _ g f | exact RcNeAt.tuple_list g q f | exact RcNeAt.list_tuple g q f | with_unfolding_all first | exact RcNeAt.bool_bool _ _ | exact RcNeAt.bool_int _ _ _ | exact RcNeAt.int_bool _ _ _ | exact RcNeAt.int_int _ _ _ _ | exact RcNeAt.str_str _ _ _ _
end
noncomputable def eqD (a b:D):Out D:=match eqN 8 a b with
 | some c=>.ok (.bl c)
 | none=>.bad
noncomputable def neD (a b:D):Out D:=match eqN 8 a b with
 | some c=>.ok (.bl (!c))
 | none=>.bad
section
variable {C:Ct}
theorem yv (m:C.K=X.K) (f:X.A.units+64 < lE):OpD X C .sh (j0 .Eq) eqD:=by
 intro pins s σ H x y v u Q I d r h;obtain ⟨F,dx,a,b,t,ty,po⟩:=h;rw [m] at t ty;unfold eqD at po;cases e:eqN 8 dx a with
 | none=>rw [e] at po; exact po.elim
 | some c=>rw [e] at po;exact qgt I b (n:=7) (by lia) t ty d r e _ _ _ _ ⟨.bl c,H,I,rfl,po _ F H b .refl (.bl _)⟩
theorem zW (m:C.K=X.K) (f:X.A.units+64 < lE):OpD X C .sh (j0 .NotEq) neD:=by
 intro pins s σ H x y v u Q I d r h;obtain ⟨F,dx,a,b,t,ty,po⟩:=h;rw [m] at t ty;unfold neD at po;cases e:eqN 8 dx a with
 | none=>rw [e] at po; exact po.elim
 | some c=>rw [e] at po;exact qgu I b (n:=7) (by lia) t ty d r e _ _ _ _ ⟨.bl _,H,I,rfl,po _ F H b .refl (.bl _)⟩
end
end L2.D2
namespace L2.D2
open PySem PySem.Spec PyProof.Rows
open PySem.SeqAt
variable {X:Cx} {pins:Pns} {σ:St} {F H:Hp} {s:iU} {n:Nat} {v:V} {d e:D} {b:Bool}
section
theorem qei (I:Inv X pins σ H s) (y:Same F H):∀ (n:Nat) {v:V} {d d' e:D} {b g:Bool},Is X.K F v d->Is X.K F v d'->eqN n d e=iO b->eqN n d' e=iO g->b=g:=by
 intro n
 induction n with
 | zero=>
  intro v d d' e b g h1 h2 e1 i;have s1:=Gr e1;have s2:=Gr i;cases h1 <;> cases h2 <;> first
   | exact aM.inj (e1.symm.trans i)
   | (cases s1; done)
   | (cases s2; done)
   | exact (Gs I y (by assumption) (by assumption)).elim
   | exact aM.inj (e1.symm.trans (Eq.trans (by cases e <;> rfl) i))
 | succ n p=>
  have l:∀ {xs:List V} {ds f es:List D} {b g:Bool},IsL X.K F xs ds->IsL X.K F xs f->wy (eqN n) ds es=iO b->wy (eqN n) f es=iO g->b=g:=by
   intro xs
   induction xs with
   | nil=>intro ds f es b g h1 h2 e1 i; cases h1; cases h2; exact aM.inj (e1.symm.trans i)
   | cons x xs m=>
    intro ds f es b g h1 h2 e1 i;cases h1 with
    | cons u h=>
     cases h2 with
     | cons r t=>
      cases es with
      | nil=>exact aM.inj (e1.symm.trans i)
      | cons e es=>obtain ⟨a,c,q,o,rfl⟩:=zV e1;obtain ⟨w,S,k,j,rfl⟩:=zV i;rw [p u r q k,m h t o j]
  intro v d d' e b g h1 h2 e1 i;have s1:=Gr e1;have s2:=Gr i;cases h1 with
  | tup p1 h=>
   cases h2 with
   | tup p2 t=>
    have q:=I.tuple_inj (jg y p1) (jg y p2);subst q;have hl:=h.length.symm.trans t.length;cases e with
    | tup es=>obtain ⟨c,q,rfl⟩:=uR e1;obtain ⟨S,k,rfl⟩:=uR i;rw [l h t q k,hl]
    | _=>exact aM.inj (e1.symm.trans i)
   | lst p2 t=>exact (Gs I y p1 p2).elim
   | _=>cases s2
  | lst p1 h=>
   cases h2 with
   | lst p2 t=>
    have q:=I.list_inj (y.seq p1) (y.seq p2);subst q;have hl:=h.length.symm.trans t.length;cases e with
    | lst es=>
     have e1:(if _=es.length then wy (eqN n) _ es else iO iS)=iO b:=e1;have i:(if _=es.length then wy (eqN n) _ es else iO iS)=iO g:=i;rw [hl] at e1;split at i;·rw [Aa (by assumption)] at e1; exact l h t e1 i
     ·rw [Ab (by assumption)] at e1; exact aM.inj (e1.symm.trans i)
    | _=>exact aM.inj (e1.symm.trans i)
   | tup p2 t=>exact (Gs I y p2 p1).elim
   | _=>cases s2
  | _=>cases h2 <;> first
   | exact aM.inj (e1.symm.trans i)
   | (cases s1; done)
   | (cases s2; done)
open Classical in
noncomputable def ZH (X:Cx) (F:Hp) (n:Nat) (e:D) (u:iR):Bool:=decide (∃ v d,Is X.K F v d/\RelV v u/\eqN n d e=iO iT)
open Classical in
theorem Gv (I:Inv X pins σ H s) (y:Same F H) {u:iR} (h:Is X.K F v d) (r:RelV v u) (q:eqN n d e=iO b):ZH X F n e u=b:=by
 unfold ZH;cases b with
 | true=>exact Ad ⟨v,d,h,r,q⟩
 | false=>refine Ac ?_;rintro ⟨w,d',h',r',g⟩;have e:=r.inj r';subst e;exact absurd (qei I y n h h' q g) (by decide)
noncomputable def QR (n:Nat) (e:D):List D->Option Bool
 | []=>iO iS
 | d::ds=>(eqN n d e).bind λa=>(QR n e ds).bind λb=>iO (a||b)
theorem Vb {ds:List D} (h:QR n e (d::ds)=iO b):∃ a c,eqN n d e=iO a/\QR n e ds=iO c/\b=(a||c):=by
 unfold QR at h;cases q:eqN n d e with
 | none=>rw [q] at h; simp at h
 | some a=>
  cases f:QR n e ds with
  | none=>rw [q,f] at h; simp at h
  | some c=>rw [q,f] at h; exact ⟨a,c,rfl,rfl,(aM.inj h).symm⟩
theorem Gw (I:Inv X pins σ H s) (y:Same F H):∀ {vs:List V} {ds:List D} {us:List iR} {b:Bool},IsL X.K F vs ds->Vals vs us->QR n e ds=iO b->us.any (ZH X F n e)=b/\∀ u∈us,∃ v d a,Is X.K F v d/\RelV v u/\eqN n d e=iO a/\ZH X F n e u=a
 | _,_,_,b,.nil,.nil,h=>⟨by simpa using (aM.inj h),λu f=>nomatch f⟩
 | _,_,_,b,.cons i t,.cons r rs,h=>by
  obtain ⟨a,c,q,k,rfl⟩:=Vb h;obtain ⟨j,g⟩:=Gw I y t rs k;have e1:=Gv I y i r q;refine ⟨by rw [cy,e1,j],λu f=>?_⟩;rcases af.mp f with rfl | f;·exact ⟨_,_,a,i,r,q,e1⟩
  ·exact g u f
end
noncomputable def inD (x y:D):Out Bool:=match y with
 | .lst ds=>match QR 7 x ds with
  | some b=>.ok b
  | none=>.bad
 | .tup ds=>match QR 7 x ds with
  | some b=>.ok b
  | none=>.bad
 | _=>.bad
noncomputable def qgv (x y:D):Out D:=(inD x y).bind λb=>.ok (.bl b)
noncomputable def XQ (x y:D):Out D:=(inD x y).bind λb=>.ok (.bl (!b))
theorem TopIs.is {K:Frag} (s:Same F H) (h:TopIs K F H v d):∃ F',Same F F'/\Same F' H/\Is K F' v d:=by
 rcases h with h | ⟨a,rfl,o⟩
 ·exact ⟨F,Same.refl _,s,h⟩
 ·obtain ⟨u,hu⟩:∃ u,H a=iO u:=by
   cases q:H a with
   | none=>exact absurd q o.there
   | some u=>exact ⟨u,rfl⟩
  by_cases E:F a=iQ
  ·have gr:Same F (upd F a u):=λb w e=>by rw [qu (qA e E)]; exact e
   refine ⟨upd F a u,gr,λb w e=>?_,?_⟩
   ·by_cases q:b=a;·subst q; rw [qm] at e; cases e; exact hu
    ·rw [qu q] at e; exact s b w e
   ·cases d with
    | lst ds=>obtain ⟨xs,e,t⟩:=o; rw [hu] at e; cases e; exact .lst (.inl (.inl qm)) (t.mono gr)
    | dct ds=>obtain ⟨xs,e,t⟩:=o; rw [hu] at e; cases e; exact .dct qm (t.mono gr)
    | ins C fs=>obtain ⟨dx,xs,e,t⟩:=o; rw [hu] at e; cases e; exact .ins qm (t.mono gr)
    | at_ b ds=>obtain ⟨eb,xs,e,t⟩:=o; rw [hu] at e; cases e; subst eb; exact .at_ (.inl (.inl qm)) (t.mono gr)
    | _=>exact o.elim
  ·obtain ⟨w,hw⟩:∃ w,F a=iO w:=by
    cases q:F a with
    | none=>exact absurd q E
    | some w=>exact ⟨w,rfl⟩
   have e:=s a w hw;cases d with
   | lst ds=>obtain ⟨xs,c,t⟩:=o; rw [c] at e; cases e; exact ⟨F,Same.refl _,s,.lst (.inl (.inl hw)) t⟩
   | dct ds=>obtain ⟨xs,c,t⟩:=o; rw [c] at e; cases e; exact ⟨F,Same.refl _,s,.dct hw t⟩
   | ins C fs=>obtain ⟨dx,xs,c,t⟩:=o; rw [c] at e; cases e; exact ⟨F,Same.refl _,s,.ins hw t⟩
   | at_ b ds=>obtain ⟨eb,xs,c,t⟩:=o; rw [c] at e; cases e; subst eb; exact ⟨F,Same.refl _,s,.at_ (.inl (.inl hw)) t⟩
   | _=>exact o.elim
section
variable {C:Ct}
theorem Vc {A:j9} {y x:V} {dx:D} {ds:List D} {b:Bool} {u v:iR} {a:Addr} {us:List iR} {xs:List V} (I:Inv X pins σ H s) (j:A.units+64 < lE) (c:Same F H) (ix:Is X.K F x dx) (f:RelV x v)
  (i:IsL X.K F xs ds) (r:Vals xs us) (h:QR 7 dx ds=iO b):us.any (ZH X F 7 dx)=b/\∀ w,w∈us.toArray->EqAt A.in1 s w v (ZH X F 7 dx w):=by
 obtain ⟨h1,h2⟩:=Gw I c i r h;refine ⟨h1,λw hw=>?_⟩;obtain ⟨g,d,k,i1,r1,q,e⟩:=h2 w (by simpa using hw);rw [e];exact Gu I c 7 (by show A.units+1+7 < lE; lia) i1 ix r1 f q
theorem qiT (m:C.K=X.K) (j:X.A.units+64 < lE):OpD X C .sh (j0 .In) qgv:=by
 intro pins s σ H x y v u Q I g f h;obtain ⟨F,dx,k,d,t,ty,po⟩:=h;rw [m] at t ty;unfold qgv inD at po;obtain ⟨F',g',c,ix⟩:=t.is d;cases k with
 | lst ds=>
  cases e:QR 7 dx ds with
  | none=>simp only [e] at po; exact po.elim
  | some b=>simp only [e] at po;obtain ⟨a,xs,rfl,p,i⟩:=ty.lst d;cases f;obtain ⟨us,r,pl,_⟩:=I.list p;obtain ⟨h1,h2⟩:=Vc (A:=X.A) (y:=.non) (a:=a) (u:=.none) I j c ix g (i.mono g') r e;refine in_listAt (ZH X F' 7 dx) pl.isList h2 ⟨.bl b,H,I,by show _=_; rw [<-h1]; simp,po _ F H d .refl (.bl _)⟩
 | tup ds=>
  cases e:QR 7 dx ds with
  | none=>simp only [e] at po; exact po.elim
  | some b=>simp only [e] at po;obtain ⟨a,xs,rfl,p,i⟩:=ty.tup d;cases f;obtain ⟨us,r,pl,_⟩:=I.tuple p;obtain ⟨h1,h2⟩:=Vc (A:=X.A) (y:=.non) (a:=a) (u:=.none) I j c ix g (i.mono g') r e;refine in_tupleAt (ZH X F' 7 dx) pl h2 ⟨.bl b,H,I,by show _=_; rw [<-h1]; simp,po _ F H d .refl (.bl _)⟩
 | _=>exact po.elim
theorem qb2 (m:C.K=X.K) (j:X.A.units+64 < lE):OpD X C .sh (j0 .NotIn) XQ:=by
 intro pins s σ H x y v u Q I g f h;obtain ⟨F,dx,k,d,t,ty,po⟩:=h;rw [m] at t ty;unfold XQ inD at po;obtain ⟨F',g',c,ix⟩:=t.is d;cases k with
 | lst ds=>
  cases e:QR 7 dx ds with
  | none=>simp only [e] at po; exact po.elim
  | some b=>simp only [e] at po;obtain ⟨a,xs,rfl,p,i⟩:=ty.lst d;cases f;obtain ⟨us,r,pl,_⟩:=I.list p;obtain ⟨h1,h2⟩:=Vc (A:=X.A) (y:=.non) (a:=a) (u:=.none) I j c ix g (i.mono g') r e;refine notIn_listAt (ZH X F' 7 dx) pl.isList h2 ⟨.bl (!b),H,I,by show _=_; rw [<-h1]; simp,po _ F H d .refl (.bl _)⟩
 | tup ds=>
  cases e:QR 7 dx ds with
  | none=>simp only [e] at po; exact po.elim
  | some b=>simp only [e] at po;obtain ⟨a,xs,rfl,p,i⟩:=ty.tup d;cases f;obtain ⟨us,r,pl,_⟩:=I.tuple p;obtain ⟨h1,h2⟩:=Vc (A:=X.A) (y:=.non) (a:=a) (u:=.none) I j c ix g (i.mono g') r e;refine notIn_tupleAt (ZH X F' 7 dx) pl h2 ⟨.bl (!b),H,I,by show _=_; rw [<-h1]; simp,po _ F H d .refl (.bl _)⟩
 | _=>exact po.elim
end
end L2.D2
namespace L2.D2
open PySem PySem.Spec PyProof.Rows
def PoT (C:Ct) (own:List Nat) (σ:St) (F H:Hp) (r:Out (Bool×Sl)) (Q:Bool->Hp->Prop):Prop:=match r with
 | .ok (b,ρ')=>∀ F' H',Rep C.K own F' H' σ ρ'->Chg (OA own σ) F H F' H'->Q b H'
 | .exc c ρ'=>∀ F' H',Same F' H'->XM C.K C.ox F' H' σ ρ'->Chg (OA own σ) F H F' H'->C.E (C.cv c) iQ H'
 | .bad=>False
abbrev xf:=Sl->Out (Bool×Sl)
def tT (C:Ct) (own:List Nat) (f:xf):TT:=λσ H Q=>∃ F ρ,Rep C.K own F H σ ρ/\PoT C own σ F H (f ρ) Q
variable {C:Ct} {own:List Nat} {σ:St} {F H F1 H1:Hp} {Q:Bool->Hp->Prop}
theorem PoT.shift {r:Out (Bool×Sl)} (h:PoT C own σ F H r Q) (c:Chg (OA own σ) F H F1 H1):PoT C own σ F1 H1 r Q:=by
 cases r with
 | ok p=>exact λF' H' a S=>h F' H' a (c.trans' S)
 | exc x=>exact λF' H' s io S=>h F' H' s io (c.trans' S)
 | bad=>exact h.elim
theorem PoT.bindV {ma:Mo} {o:KZ} {k:D×Sl->Out (Bool×Sl)} {R:VK} (hp:PoT C own σ F H (o.bind k) Q)
  (h:∀ v F1 H1 d ρ1,Rep C.K own F1 H1 σ ρ1->Chg (OA own σ) F H F1 H1->MoIs C.K ma H F1 H1 v d->PoT C own σ F1 H1 (k (d,ρ1)) Q->R v H1):Po C own ma σ F H o R:=by
 cases o with
 | ok p=>obtain ⟨d,ρ1⟩:=p;exact λv F1 H1 a c mo=>h v F1 H1 d ρ1 a c mo (PoT.shift (show PoT C own σ F H (k (d,ρ1)) Q from hp) c)
 | exc x=>exact hp
 | bad=>exact hp.elim
variable {o:Out (Bool×Sl)}
theorem PoT.bindT {k:Bool×Sl->Out (Bool×Sl)} {R:Bool->Hp->Prop} (hp:PoT C own σ F H (o.bind k) Q)
  (h:∀ F1 H1 b ρ1,Rep C.K own F1 H1 σ ρ1->Chg (OA own σ) F H F1 H1->PoT C own σ F1 H1 (k (b,ρ1)) Q->R b H1):PoT C own σ F H o R:=by
 cases o with
 | ok p=>obtain ⟨d,ρ1⟩:=p;exact λF1 H1 a c=>h F1 H1 d ρ1 a c (PoT.shift (show PoT C own σ F H (k (d,ρ1)) Q from hp) c)
 | exc x=>exact hp
 | bad=>exact hp.elim
variable {m:Mo}
theorem Po.bindT {k:Bool×Sl->KZ} {Q:VK} {R:Bool->Hp->Prop} (hp:Po C own m σ F H (o.bind k) Q)
  (h:∀ F1 H1 b ρ1,Rep C.K own F1 H1 σ ρ1->Chg (OA own σ) F H F1 H1->Po C own m σ F1 H1 (k (b,ρ1)) Q->R b H1):PoT C own σ F H o R:=by
 cases o with
 | ok p=>obtain ⟨d,ρ1⟩:=p;exact λF1 H1 a c=>h F1 H1 d ρ1 a c (Po.shift (show Po C own m σ F H (k (d,ρ1)) Q from hp) c)
 | exc x=>exact hp
 | bad=>exact hp.elim
noncomputable def ZI:D->Out Bool
 | .non=>.ok iS
 | .bl b=>.ok b
 | .int i=>.ok (i != 0)
 | .str x=>.ok ((x.length:Int) != 0)
 | .tup xs=>.ok (!xs.isEmpty)
 | .lst xs=>.ok (!xs.isEmpty)
 | .dct xs=>.ok (!xs.isEmpty)
 | .raw _=>.bad
 | .xcp _=>.bad
 | .ins _ _=>.bad
 | .at_ _ _=>.bad
noncomputable def uy (f:qZ):xf:=λρ=>(f ρ).bind λp=>(ZI p.1).bind λb=>.ok (b,p.2)
variable {K:Frag} {vs:List V} {ds:List D}
theorem IsL.isEmpty (h:IsL K F vs ds):vs.isEmpty=ds.isEmpty:=by cases h <;> rfl
theorem IsK.isEmpty {vs:List (Key×V)} {ds:List (Key×D)} (h:IsK K F vs ds):vs.isEmpty=ds.isEmpty:=by cases h <;> rfl
variable {v:V} {d:D}
theorem qej {b:Bool} (s:Same F H) (h:TopIs K F H v d) (e:ZI d=.ok b):qiG K v H b:=by
 cases d with
 | non=>obtain rfl:=h.non; cases e; rfl
 | bl x=>obtain rfl:=h.bl; cases e; rfl
 | int x=>obtain rfl:=h.int; cases e; rfl
 | str x=>obtain ⟨rfl,q⟩:=h.str; cases e; exact ⟨q,rfl⟩
 | tup x=>obtain ⟨a,xs,rfl,p,t⟩:=h.tup s; cases e; exact .inr (.inl ⟨xs,p,by rw [t.isEmpty]⟩)
 | lst x=>obtain ⟨a,xs,rfl,p,t⟩:=h.lst s; cases e; exact .inl ⟨xs,p,by rw [t.isEmpty]⟩
 | dct x=>obtain ⟨a,xs,rfl,p,t⟩:=h.dct s; cases e; exact .inr (.inr ⟨xs,p,by rw [t.isEmpty]⟩)
 | raw x=>cases e
 | xcp x=>cases e
 | ins x y=>cases e
 | at_ x y=>cases e
noncomputable def qO (f:qZ):xf:=λρ=>(f ρ).bind λp=>match p.1 with
 | .bl b=>.ok (b,p.2)
 | _=>.bad
variable {X:Cx} {c e t:Expr} {ma mb:Mo} {pos:Pos} {op op':CmpOp} {g g':D->D->Out D} {ρ:Sl}
section
variable {a b:Expr} {f fa fb fc:qZ} {ft fu:xf} {mc:Mo} {rest:List Expr}
theorem qek (g:C.K=X.K) (h:PE X e (tE C own m f)) (i:∀ whole,isTrue e X.env whole=(do let v <-whole; ny e.pos; holding [v] (truthy v))):PT X e (tT C own (uy f)):=by
 refine qbX (qbL h i) λσ H Q ⟨F,ρ,r,h⟩=>⟨F,ρ,r,PoT.bindV h λv F1 H1 d ρ1 a c1 c h1=>?_⟩
 cases q:ZI d with
 | ok k=>have h1:PoT C own σ F1 H1 ((ZI d).bind λb=>.ok (b,ρ1)) Q:=h1;rw [q] at h1;exact ⟨k,by rw [<-g]; exact qej a.sub c.top q,h1 F1 H1 a .refl⟩
 | exc x=>have h1:PoT C own σ F1 H1 ((ZI d).bind λb=>.ok (b,ρ1)) Q:=h1;cases d <;> cases q
 | bad=>have h1:PoT C own σ F1 H1 ((ZI d).bind λb=>.ok (b,ρ1)) Q:=h1;rw [q] at h1;exact h1.elim
theorem Gx (h:tT C own (qO f) σ H Q):tE C own .sh f σ H λx H'=>∃ k,x=.bl k/\Q k H':=by
 obtain ⟨F,ρ,r,h⟩:=h;refine ⟨F,ρ,r,PoT.bindV h λv F1 H1 d ρ1 a c1 c h1=>?_⟩;cases d with
 | bl k=>have c:Is C.K F1 v (.bl k):=c;cases c;exact ⟨k,rfl,h1 F1 H1 a .refl⟩
 | _=>exact h1.elim
theorem qH (l:OpD X C .sh (j0 op) g) (c:PE X a (tE C own ma fa)) (d:PE X b (tE C own mb fb)) (f:ma≠.any:=by decide)
  (k:l7 op b=false:=by first | exact qda _ | with_unfolding_all rfl):PT X (.Compare a [op] [b] pos) (tT C own (qO (d2 g fa fb))):=by
 refine qbX (qdV l c d k) λσ H Q h=>?_;exact Va f (Gx h)
noncomputable def yw (ft:xf):xf:=λρ=>(ft ρ).bind λp=>.ok (!p.1,p.2)
theorem ja (h:PT X a (tT C own ft)):PT X (.UnaryOp .Not a pos) (tT C own (yw ft)):=by refine qbX (qf0 h) λσ H Q ⟨F,ρ,p,h⟩=>⟨F,ρ,p,PoT.bindT h λF1 H1 b ρ1 r c1 h1=>h1 F1 H1 r .refl⟩
theorem qgw {e:Expr} {t t':TT} (h:PW X e t) (i:∀ σ H Q,t' σ H Q->t σ H Q):PW X e t':=⟨λw pins s σ H Q I hw=>h w pins s σ H Q I (i σ H Q hw)⟩
noncomputable def qgx (ft fu:xf):xf:=λρ=>(ft ρ).bind λp=>if p.1=iT then fu p.2 else .ok (iS,p.2)
noncomputable def dOr (ft fu:xf):xf:=λρ=>(ft ρ).bind λp=>if p.1=iT then .ok (iT,p.2) else fu p.2
theorem vE {op} (h:PT X a (tT C own ft)):PW X (.BoolOp op [a] pos) (tT C own ft):=by
 cases op;·exact qdP h
 ·exact qfY h
theorem Gy (g:PT X a (tT C own ft)) (d:PW X (.BoolOp .And (b::rest) pos) (tT C own fu)):PW X (.BoolOp .And (a::b::rest) pos) (tT C own (qgx ft fu)):=by
 refine qgw (qfZ g d) λσ H Q ⟨F,ρ,p,h⟩=>⟨F,ρ,p,PoT.bindT h λF1 H1 k ρ1 r c1 h1=>?_⟩
 cases k with
 | true=>exact ⟨F1,ρ1,r,h1⟩
 | false=>exact h1 F1 H1 r .refl
theorem yx (g:PT X a (tT C own ft)) (d:PW X (.BoolOp .Or (b::rest) pos) (tT C own fu)):PW X (.BoolOp .Or (a::b::rest) pos) (tT C own (dOr ft fu)):=by
 refine qgw (qiq g d) λσ H Q ⟨F,ρ,p,h⟩=>⟨F,ρ,p,PoT.bindT h λF1 H1 k ρ1 r c1 h1=>?_⟩
 cases k with
 | true=>exact h1 F1 H1 r .refl
 | false=>exact ⟨F1,ρ1,r,h1⟩
noncomputable def WI (fa fb:qZ):qZ:=λρ=>(fa ρ).bind λp=>match p.1 with
 | .bl iT=>fb p.2
 | .bl iS=>.ok (.bl iS,p.2)
 | _=>.bad
noncomputable def qhV (fa fb:qZ):qZ:=λρ=>(fa ρ).bind λp=>match p.1 with
 | .bl iT=>.ok (.bl iT,p.2)
 | .bl iS=>fb p.2
 | _=>.bad
theorem Yb {op} (h:PE X a (tE C own m f)):PE X (.BoolOp op [a] pos) (tE C own m f):=qf1 h
theorem Yc (g:PE X a (tE C own .sh fa)) (e:PE X (.BoolOp .And (b::rest) pos) (tE C own .sh fb)):PE X (.BoolOp .And (a::b::rest) pos) (tE C own .sh (WI fa fb)):=by
 refine jz (qf2 g e) λσ H Q ⟨F,ρ,p,h⟩=>⟨F,ρ,p,Po.bind h λv F1 H1 d ρ1 r c1 c h1=>?_⟩
 cases d with
 | bl k=>
  have c:Is C.K F1 v (.bl k):=c;cases c;refine ⟨k,rfl,?_⟩;cases k with
  | true=>exact ⟨F1,ρ1,r,h1⟩
  | false=>exact h1 _ F1 H1 r .refl (.bl _)
 | _=>exact h1.elim
theorem qiU (g:PE X a (tE C own .sh fa)) (e:PE X (.BoolOp .Or (b::rest) pos) (tE C own .sh fb)):PE X (.BoolOp .Or (a::b::rest) pos) (tE C own .sh (qhV fa fb)):=by
 refine jz (qis g e) λσ H Q ⟨F,ρ,p,h⟩=>⟨F,ρ,p,Po.bind h λv F1 H1 d ρ1 r c1 c h1=>?_⟩
 cases d with
 | bl k=>
  have c:Is C.K F1 v (.bl k):=c;cases c;refine ⟨k,rfl,?_⟩;cases k with
  | true=>exact h1 _ F1 H1 r .refl (.bl _)
  | false=>exact ⟨F1,ρ1,r,h1⟩
 | _=>exact h1.elim
noncomputable def dIf (ft:xf) (fa fb:qZ):qZ:=λρ=>(ft ρ).bind λp=>if p.1=iT then fa p.2 else fb p.2
theorem qel (ht:PT X t (tT C own ft)) (g:PE X a (tE C own ma fa)) (d:PE X b (tE C own mb fb)) (h1:ma≠.any:=by decide) (h2:mb≠.any:=by decide):PE X (.IfExp t a b pos) (tE C own .sh (dIf ft fa fb)):=by
 refine jz (qbF ht (yu g h1) (yu d h2)) λσ H Q ⟨F,ρ,p,h⟩=>⟨F,ρ,p,Po.bindT h λF1 H1 k ρ1 r c1 h1=>?_⟩
 cases k with
 | true=>exact ⟨F1,ρ1,r,h1⟩
 | false=>exact ⟨F1,ρ1,r,h1⟩
noncomputable def yy (g g':D->D->Out D) (fa fb fc:qZ):qZ:=λρ=>(fa ρ).bind λp=>(fb p.2).bind λq=>(g p.1 q.1).plain.bind λz=>match z with
 | .bl iT=>(fc q.2).bind λr=>(g' q.1 r.1).plain.bind λd=>.ok (d,r.2)
 | .bl iS=>.ok (.bl iS,q.2)
 | _=>.bad
theorem PoV.bind {o:Out D} {k:D->KZ} {Q R:VK} (a:Rep C.K own F H σ ρ) (h:Po C own m σ F H (o.plain.bind k) Q)
  (b:∀ v F1 H1 d,Rep C.K own F1 H1 σ ρ->Chg No F H F1 H1->MoIs C.K ma H F1 H1 v d->Po C own m σ F1 H1 (k d) Q->R v H1):PoV C ma F H o R:=by
 cases o with
 | ok d=>exact λv F1 H1 s c mo=>b v F1 H1 d (a.grow c s) c mo (Po.shift (show Po C own m σ F H (k d) Q from h) c.ofNo)
 | exc c=>exact h.elim
 | bad=>exact h.elim
theorem Yd {Q:VK} (s:ma≠.any) (l:mb≠.any) (h:tE C own .sh (yy g g' fa fb fc) σ H Q):ZU (λx y H Q=>∃ F dx n,Same F H/\TopIs C.K F H x dx/\TopIs C.K F H y n/\PoV C .sh F H (g dx n) Q) (λx y H Q=>∃ F dx n,Same F H/\TopIs C.K F H x dx/\TopIs C.K F H y n/\PoV C .sh F H (g' dx n) Q)
   (tE C own ma fa) (tE C own mb fb) (tE C own mc fc) σ H Q:=by
 obtain ⟨F,ρ,u,h⟩:=h;refine ⟨F,ρ,u,Po.bind h λv F1 H1 d ρ1 i c1 q h1=>⟨F1,ρ1,i,Po.bind h1 λw L H2 e ρ2 f c2 j h2=>?_⟩⟩;have oa:∀ x,OA own σ x->H x≠none:=λx z=>(u.OA_there z).1;have o:∀ x,OA own σ x->H1 x≠none:=λx z=>(i.OA_there z).1;refine ⟨L,d,e,f.sub,(q.grow s c2 oa).top,j.top,PoV.bind (m:=.sh) f h2 λz t I D c G a h3=>?_⟩;cases D with
 | bl k=>
  have a:Is C.K t z (.bl k):=a;cases a;refine ⟨k,rfl,?_⟩;cases k with
  | true=>refine ⟨t,ρ2,c,Po.bind h3 λw' J M r A b E p B=>?_⟩;exact ⟨J,e,r,b.sub,((j.grow l (G.ofNo) o).grow l E o).top,p.top,PoV.of b B⟩
  | false=>exact h3 _ t I c .refl (.bl _)
 | _=>exact h3.elim
theorem Ye (o:OpD X C .sh (j0 op) g) (d:OpD X C .sh (j0 op') g') (j:PE X a (tE C own ma fa)) (i:PE X b (tE C own mb fb)) (e:PE X c (tE C own mc fc)) (f:ma≠.any:=by decide) (l:mb≠.any:=by decide)
  (m:lastMarks [op,op'] [b,c]=false:=by with_unfolding_all rfl):PE X (.Compare a [op,op'] [b,c] pos) (tE C own .sh (yy g g' fa fb fc)):=jz (qbJ o d j i e m) λ_ _ _ h=>Yd f l h
theorem Vd (o:OpD X C .sh (j0 op) g) (d:OpD X C .sh (j0 op') g') (j:PE X a (tE C own ma fa)) (i:PE X b (tE C own mb fb)) (e:PE X c (tE C own mc fc)) (f:ma≠.any:=by decide) (l:mb≠.any:=by decide)
  (m:lastMarks [op,op'] [b,c]=false:=by with_unfolding_all rfl):PT X (.Compare a [op,op'] [b,c] pos) (tT C own (qO (yy g g' fa fb fc))):=qbX (qbK o d j i e m) λ_ _ _ h=>Yd f l (Gx h)
theorem Gz:OpR X (j0 .LtE) (λx y H Q=>∃ i j,x=.str i/\y=.str j/\Q (.bl (!kL j i)) H):=by intro pins s σ H x y v u Q I d c h;obtain ⟨i,j,rfl,rfl,q⟩:=h;obtain ⟨t,rfl⟩:=d;obtain ⟨t',rfl⟩:=c;exact PySem.P.le_str (ZR I q (by simp [kL]))
noncomputable def leD:D->D->Out D
 | .int i,.int j=>.ok (.bl (decide (i<=j)))
 | .str x,.str y=>.ok (.bl (!kL y x))
 | _,_=>.bad
theorem Ve:OpD X C .sh (j0 .LtE) leD:=by
 intro pins s σ H x y v u Q I d c h;obtain ⟨F,dx,a,b,t,ty,po⟩:=h;cases dx <;> try exact po.elim
 ·cases a <;> try exact po.elim
  obtain rfl:=t.int;obtain rfl:=ty.int;exact qiE pins s σ H _ _ v u Q I d c ⟨_,_,rfl,rfl,po _ F H b .refl (.bl _)⟩
 ·cases a <;> try exact po.elim
  obtain ⟨rfl,_⟩:=t.str;obtain ⟨rfl,_⟩:=ty.str;exact Gz pins s σ H _ _ v u Q I d c ⟨_,_,rfl,rfl,po _ F H b .refl (.bl _)⟩
noncomputable def gtD:D->D->Out D:=KC λi j=>.ok (.bl (decide (j < i)))
noncomputable def geD:D->D->Out D:=KC λi j=>.ok (.bl (decide (j<=i)))
theorem qgy:OpD X C .sh (j0 .GtE) geD:=Go qiF λ_ _ _=>.bl _
noncomputable def qjI:D->D->Out D
 | .non,.non=>.ok (.bl iT)
 | .raw _,.non=>.bad
 | _,.non=>.ok (.bl iS)
 | _,_=>.bad
noncomputable def GA:D->D->Out D
 | .non,.non=>.ok (.bl iS)
 | .raw _,.non=>.bad
 | _,.non=>.ok (.bl iT)
 | _,_=>.bad
theorem TopIs.notN (h:TopIs K F H v d) (h1:d≠.non) (h2:∀ u,d≠.raw u):v≠.non:=by
 rintro rfl;rcases h with h | ⟨a,e,_⟩
 ·cases h;·exact h1 rfl
  ·exact h2 _ rfl
 ·cases e
theorem qem:OpD X C .sh (j0 .IsNot) GA:=by
 intro pins s σ H x y v u Q I r c h;obtain ⟨F,dx,d,b,t,ty,po⟩:=h;have B:d=.non:=by cases d <;> first | rfl | (cases dx <;> exact po.elim)
 subst B;obtain rfl:=ty.non;refine qdT pins s σ H x .non v u Q I r c ⟨rfl,?_⟩;cases dx with
 | non=>obtain rfl:=t.non; exact po _ F H b .refl (.bl _)
 | raw _=>exact po.elim
 | _=>rw [Ac (t.notN (by intro z; cases z) (by intro _ z; cases z))]; exact po _ F H b .refl (.bl _)
end
inductive Fl where
 | nx | rt (d:D) | bk | ct
structure Nx (C:Ct) (own own':List Nat) (σ:St) (F H:Hp) (ρ':Sl) (σ':St) (F' H':Hp):Prop where
 rep:Rep C.K own' F' H' σ' ρ'
 chg:Chg (OA own σ) F H F' H'
 oa:∀ b,OA own' σ' b->OA own σ b\/H b=iQ
 io:∀ i∈C.io,σ'[i]?=σ[i]?
def PoS (C:Ct) (own own':List Nat) (σ:St) (F H:Hp) (r:Out (Fl×Sl)) (D:Ends):Prop:=match r with
 | .ok (.nx,ρ')=>∀ σ' F' H',Nx C own own' σ F H ρ' σ' F' H'->D.nx σ' H'
 | .ok (.rt d,ρ')=>∀ v σ' F' H',Same F' H'->XM C.K C.io F' H' σ' ρ'->Chg (OA own σ) F H F' H'->(∀ i∈C.io,σ'[i]?=σ[i]?)->MoIs C.K C.mr H F' H' v d->D.rt v H'
 | .ok (.bk,ρ')=>∀ σ' F' H',Nx C own C.ol σ F H ρ' σ' F' H'->D.bk σ' H'
 | .ok (.ct,ρ')=>∀ σ' F' H',Nx C own C.ol σ F H ρ' σ' F' H'->D.ct σ' H'
 | .exc c ρ'=>∀ F' H',Same F' H'->XM C.K C.ox F' H' σ ρ'->Chg (OA own σ) F H F' H'->C.E (C.cv c) iQ H'
 | .bad=>False
abbrev qK:=Sl->Out (Fl×Sl)
def tSt (C:Ct) (own own':List Nat) (f:qK):TS:=λD σ H=>∃ F ρ,Rep C.K own F H σ ρ/\PoS C own own' σ F H (f ρ) D
variable {o1 o2 o3:List Nat} {σ1:St} {ρ1:Sl}
theorem Nx.then {c:St} {d H2:Hp} {ρ2:Sl} (a:Nx C o1 o2 σ F H ρ1 σ1 F1 H1) (b:Nx C o2 o3 σ1 F1 H1 ρ2 c d H2):Nx C o1 o3 σ F H ρ2 c d H2 where
 rep:=b.rep
 chg:=a.chg.trans b.chg a.oa
 oa:=λx h=>by
  rcases b.oa x h with z | z;·exact a.oa x z
  ·refine .inr ?_;cases q:H x with
   | none=>rfl
   | some o=>exact absurd z (a.chg.stay x (by rw [q]; simp))
 io:=λi hi=>(b.io i hi).trans (a.io i hi)
theorem PoS.shift {r:Out (Fl×Sl)} {D:Ends} (h:PoS C o1 o3 σ F H r D) (a:Nx C o1 o2 σ F H ρ1 σ1 F1 H1):PoS C o2 o3 σ1 F1 H1 r D:=by
 cases r with
 | ok p=>
  obtain ⟨l,ρ'⟩:=p;cases l with
  | nx=>exact λσ' F' H' n=>h σ' F' H' (a.then n)
  | rt d=>exact λv σ' F' H' s io c e mo=>h v σ' F' H' s io (a.chg.trans c a.oa) (λi hi=>(e i hi).trans (a.io i hi)) (MoIs.back (Ha:=H1) a.chg mo)
  | bk=>exact λσ' F' H' n=>h σ' F' H' (a.then n)
  | ct=>exact λσ' F' H' n=>h σ' F' H' (a.then n)
 | exc c=>exact λF' H' s io S=>h F' H' s (λi hi=>by obtain ⟨d,b,e1,f,E⟩:=io i hi;exact ⟨d,b,e1,by rw [<-a.io i (C.oxs i hi)]; exact f,E⟩) (a.chg.trans S a.oa)
 | bad=>exact h.elim
theorem Nx.ofE (r:Rep C.K own F1 H1 σ ρ1) (c:Chg (OA own σ) F H F1 H1):Nx C own own σ F H ρ1 σ F1 H1:=⟨r,c,λ_ h=>.inl h,λ_ _=>rfl⟩
variable {own':List Nat}
theorem PoS.bindE {m:Mo} {o:KZ} {k:D×Sl->Out (Fl×Sl)} {D:Ends} {R:VK} (hp:PoS C own own' σ F H (o.bind k) D)
  (h:∀ v F1 H1 d ρ1,Rep C.K own F1 H1 σ ρ1->Chg (OA own σ) F H F1 H1->MoIs C.K m H F1 H1 v d->PoS C own own' σ F1 H1 (k (d,ρ1)) D->R v H1):Po C own m σ F H o R:=by
 cases o with
 | ok p=>obtain ⟨d,ρ1⟩:=p;exact λv F1 H1 a c mo=>h v F1 H1 d ρ1 a c mo (PoS.shift (show PoS C own own' σ F H (k (d,ρ1)) D from hp) (.ofE a c))
 | exc x=>exact hp
 | bad=>exact hp.elim
theorem PoS.bindT {k:Bool×Sl->Out (Fl×Sl)} {D:Ends} {R:Bool->Hp->Prop} (hp:PoS C own own' σ F H (o.bind k) D)
  (h:∀ F1 H1 b ρ1,Rep C.K own F1 H1 σ ρ1->Chg (OA own σ) F H F1 H1->PoS C own own' σ F1 H1 (k (b,ρ1)) D->R b H1):PoT C own σ F H o R:=by
 cases o with
 | ok p=>obtain ⟨d,ρ1⟩:=p;exact λF1 H1 a c=>h F1 H1 d ρ1 a c (PoS.shift (show PoS C own own' σ F H (k (d,ρ1)) D from hp) (.ofE a c))
 | exc x=>exact hp
 | bad=>exact hp.elim
variable {b a:Addr} {t':TS} {st:Stmt} {i:Nat} {x:Str} {pos':Pos}
section
variable {sts rest:List Stmt} {f g:qK} {fe:qZ} {ft:xf}
theorem Qy {t:TS} (h:PS X st t) (i:∀ D σ H,t' D σ H->t D σ H):PS X st t':=⟨λpins s σ H D I hw=>h pins s σ H D I (i D σ H hw)⟩
theorem Vf {t:TS} (h:PSs X sts t) (i:∀ D σ H,t' D σ H->t D σ H):PSs X sts t':=⟨λpins s σ H D I hw=>h pins s σ H D I (i D σ H hw)⟩
noncomputable def jb:qK:=λρ=>.ok (.nx,ρ)
noncomputable def qG (f g:qK):qK:=λρ=>(f ρ).bind λp=>match p.1 with
 | .nx=>g p.2
 | fl=>.ok (fl,p.2)
theorem Nx.refl (r:Rep C.K own F H σ ρ):Nx C own own σ F H ρ σ F H:=.ofE r .refl
theorem qB:PSs X [] (tSt C own own jb):=Vf Wz λD σ H ⟨F,ρ,a,h⟩=>h σ F H (.refl a)
theorem qgz {D:Ends} (h:tSt C o1 o3 (qG f g) D σ H):tSt C o1 o2 f { D with nx:=tSt C o2 o3 g D } σ H:=by
 obtain ⟨F,ρ,a,h⟩:=h;refine ⟨F,ρ,a,?_⟩;unfold qG at h;cases q:f ρ with
 | ok p=>
  rw [q] at h;obtain ⟨l,ρ1⟩:=p;cases l with
  | nx=>exact λσ' F' H' n=>⟨F',ρ1,n.rep,PoS.shift (show PoS C o1 o3 σ F H (g ρ1) D from h) n⟩
  | rt d=>exact h
  | bk=>exact h
  | ct=>exact h
 | exc c=>rw [q] at h; exact h
 | bad=>rw [q] at h; exact h.elim
theorem qd (h1:PS X st (tSt C o1 o2 f)) (h2:PSs X rest (tSt C o2 o3 g)):PSs X (st::rest) (tSt C o1 o3 (qG f g)):=Vf (US h1 h2) λD σ H h=>qgz h
theorem qf (h1:PS X st (tSt C o1 o2 f)):PSs X [st] (tSt C o1 o2 f):=ZM h1
theorem Rep.weak {K:Frag} {F H:Hp} {σ:St} {ρ:Sl}:∀ (drop:List Nat) {own own':List Nat},(∀ i,i∈own'↔i∈own/\i∉drop)->Rep K own F H σ ρ->∃ F',Rep K own' F' H σ ρ/\Chg (OA own σ) F H F' H
 | [],own,own',hs,rp=>⟨F,⟨rp.sub,rp.len,λi d hi=>rp.val i d λz=>hi ((hs i).mpr ⟨z,by simp⟩),λi d hi=>rp.ow i d ((hs i).mp hi).1,λi hi=>rp.opn i ((hs i).mp hi).1,λi j a hi D=>rp.dis i j a ((hs i).mp hi).1 ((hs j).mp D).1⟩,.refl⟩
 | k::r,own,own',hs,rp=>by
  obtain ⟨F1,c,c1⟩:=Rep.weak r (own:=own) (own':=own.filter λi=>decide (i∉r)) (λi=>by simp) rp;by_cases f:k∈own/\k∉r
  ·obtain ⟨d,hd⟩:=c.opn k (by simp [f.1,f.2]);obtain ⟨a,h1,h2,h3⟩:=c.ow k d (by simp [f.1,f.2]) hd;obtain ⟨u,hu⟩:∃ u,H a=iO u:=by
    cases q:H a with
    | none=>exact absurd q h3.there
    | some u=>exact ⟨u,rfl⟩
   have gr:Same F1 (upd F1 a u):=λb w e=>by rw [qu (qA e h2)]; exact e
   refine ⟨upd F1 a u,⟨λb w e=>?_,c.len,λi d' hi e=>?_,λi d' hi e=>?_,λi hi=>?_,λi j b hi D=>?_⟩,?_⟩
   ·by_cases q:b=a;·subst q; rw [qm] at e; cases e; exact hu
    ·rw [qu q] at e; exact c.sub b w e
   ·by_cases q:i=k
    ·subst q;rw [hd] at e; cases e;refine ⟨_,h1,?_⟩;cases d with
     | lst ds=>obtain ⟨xs,e,t⟩:=h3; rw [hu] at e; cases e; exact .lst (.inl (.inl qm)) (t.mono gr)
     | dct ds=>obtain ⟨xs,e,t⟩:=h3; rw [hu] at e; cases e; exact .dct qm (t.mono gr)
     | ins C fs=>obtain ⟨dx,xs,e,t⟩:=h3; rw [hu] at e; cases e; exact .ins qm (t.mono gr)
     | at_ b ds=>obtain ⟨eb,xs,e,t⟩:=h3; rw [hu] at e; cases e; subst eb; exact .at_ (.inl (.inl qm)) (t.mono gr)
     | _=>exact h3.elim
    ·obtain ⟨v,m,n⟩:=c.val i d' (λz=>by simp at z; exact hi ((hs i).mpr ⟨z.1,by simp [q,z.2]⟩)) e;exact ⟨v,m,n.mono gr⟩
   ·have h:=(hs i).mp hi;have o:i≠k:=λz=>h.2 (by simp [z]);have l:i∉r:=λz=>h.2 (by simp [z]);obtain ⟨b,m,n,s⟩:=c.ow i d' (by simp [h.1,l]) e;refine ⟨b,m,?_,s.grow gr λ_ z=>z⟩;have x:b≠a:=λz=>by subst z; exact o (c.dis i k b (by simp [h.1,l]) (by simp [f.1,f.2]) m h1)
    rw [qu x]; exact n
   ·have h:=(hs i).mp hi;exact c.opn i (by simp [h.1]; exact λz=>h.2 (by simp [z]))
   ·have h:=(hs i).mp hi;have g:=(hs j).mp D;exact c.dis i j b (by simp [h.1]; exact λz=>h.2 (by simp [z])) (by simp [g.1]; exact λz=>g.2 (by simp [z]))
   ·refine ⟨c1.keep,c1.stay,c1.grow.trans gr,λb p=>?_⟩;by_cases q:b=a;·exact .inr (.inr ⟨k,f.1,by rw [q]; exact h1⟩)
    ·rw [qu q] at p; exact c1.new b p
  ·refine ⟨F1,⟨c.sub,c.len,λi d hi=>c.val i d λz=>?_,λi d hi=>c.ow i d ?_,λi hi=>c.opn i ?_,λi j a hi D=>c.dis i j a ?_ ?_⟩,c1⟩;·simp at z;refine hi ((hs i).mpr ⟨z.1,?_⟩);simp only [af,not_or];exact ⟨λq=>f (by subst q; exact z),z.2⟩
   all_goals
    first
     | (have q:=(hs _).mp hi; simp only [dB,decide_eq_true_eq]; exact ⟨q.1,λz=>q.2 (by simp [z])⟩)
     | (have q:=(hs _).mp D; simp only [dB,decide_eq_true_eq]; exact ⟨q.1,λz=>q.2 (by simp [z])⟩)
theorem OA.sub (h:∀ i∈own',i∈own) (q:OA own' σ b):OA own σ b:=let ⟨i,hi,e⟩:=q; ⟨i,h i hi,e⟩
theorem Nx.drop (drop:List Nat) (hs:∀ i,i∈own'↔i∈own/\i∉drop) (r:Rep C.K own F H σ ρ):∃ F',Nx C own own' σ F H ρ σ F' H:=by obtain ⟨F',a,c⟩:=Rep.weak drop hs r;exact ⟨F',a,c,λb q=>.inl (OA.sub (λi hi=>((hs i).mp hi).1) q),λ_ _=>rfl⟩
noncomputable def vF (own drop:List Nat):List Nat:=own.filter λi=>decide (i∉drop)
theorem qY {own drop:List Nat} (i:Nat):i∈vF own drop↔i∈own/\i∉drop:=by simp [vF]
theorem vo (drop:List Nat) (h:PSs X sts (tSt C (vF own drop) o2 f)):PSs X sts (tSt C own o2 f):=Vf h λD σ H ⟨F,ρ,a,h⟩=>by obtain ⟨F',n⟩:=Nx.drop (C:=C) drop (λi=>qY (own:=own) i) a;exact ⟨F',ρ,n.rep,h.shift n⟩
noncomputable def sIf (ft:xf) (f g:qK):qK:=λρ=>(ft ρ).bind λp=>if p.1=iT then f p.2 else g p.2
theorem qL {a b:List Stmt} (d:PT X c (tT C own ft)) (i:PSs X a (tSt C own own' f)) (e:PSs X b (tSt C own own' g)):PS X (.If c a b pos) (tSt C own own' (sIf ft f g)):=by
 refine Qy (qiv d i e) λD σ H ⟨F,ρ,p,h⟩=>⟨F,ρ,p,PoS.bindT h λF1 H1 k ρ1 r c1 h1=>?_⟩
 cases k with
 | true=>exact ⟨F1,ρ1,r,h1⟩
 | false=>exact ⟨F1,ρ1,r,h1⟩
noncomputable def kM (fe:qZ):qK:=λρ=>(fe ρ).bind λp=>.ok (.nx,p.2)
theorem jt (i:PE X e (tE C own m fe)) (hs:lK e iQ pos.line X.env=pure false:=by rfl):PS X (.Expr e pos) (tSt C own own (kM fe)):=by refine Qy (qdQ i hs) λD σ H ⟨F,ρ,r,h⟩=>⟨F,ρ,r,PoS.bindE h λv F1 H1 d ρ1 a c1 c h1=>h1 σ F1 H1 (.refl a)⟩
noncomputable def jq (fe:qZ):qK:=λρ=>(fe ρ).bind λp=>.ok (.rt p.1,p.2)
theorem qen (b:PE X e (tE C own C.mr fe)) (o:∀ i∈C.io,i∈own:=by exact kj rfl):PS X (.Return (iO e) pos) (tSt C own own' (jq fe)):=by
 refine Qy (qc8 b) λD σ H ⟨F,ρ,r,h⟩=>⟨F,ρ,r,?_⟩
 unfold jq at h;cases q:fe ρ with
 | ok p=>rw [q] at h;obtain ⟨d,ρ1⟩:=p;exact λv F1 H1 a c1 m=>h v σ F1 H1 a.sub (a.ioIs o) c1 (λ_ _=>rfl) m
 | exc c=>rw [q] at h; exact h
 | bad=>rw [q] at h; exact h.elim
theorem qg (a:PE X e (tE C own m fe)) (h:m≠.any:=by decide) (c:C.mr=.sh:=by rfl) (o:∀ i∈C.io,i∈own:=by exact kj rfl):PS X (.Return (iO e) pos) (tSt C own own' (jq fe)):=qen (by rw [c]; exact yu a h) o
theorem Rep.put (r:Rep K own F H σ ρ) (hi:i < ρ.length) (is:Is K F v d):Rep K (vF own [i]) F H (σ.set i (iO v)) (ρ.set i (iO d)) where
 sub:=r.sub
 len:=by simp [r.len]
 val:=λj d' D e=>by
  by_cases q:j=i;·subst q;rw [aI hi] at e;cases e;exact ⟨v,aI (by rw [r.len]; exact hi),is⟩
  ·rw [aw (bb q)] at e;obtain ⟨w,h1,h2⟩:=r.val j d' (λz=>D ((qY j).mpr ⟨z,by simp [q]⟩)) e;exact ⟨w,by rw [aw (bb q)]; exact h1,h2⟩
 ow:=λj d' D e=>by have g:=(qY j).mp D;have q:j≠i:=λz=>g.2 (by simp [z]);rw [aw (bb q)] at e;obtain ⟨a,h1,h2⟩:=r.ow j d' g.1 e;exact ⟨a,by rw [aw (bb q)]; exact h1,h2⟩
 opn:=λj D=>by have g:=(qY j).mp D;have q:j≠i:=λz=>g.2 (by simp [z]);obtain ⟨d',e⟩:=r.opn j g.1;exact ⟨d',by rw [aw (bb q)]; exact e⟩
 dis:=λj k a D c e1 b=>by have g:=(qY j).mp D;have h:=(qY k).mp c;rw [aw (λz=>g.2 (by simp [z]))] at e1;rw [aw (λz=>h.2 (by simp [z]))] at b;exact r.dis j k a g.1 h.1 e1 b
theorem OA.put (h:OA (vF own [i]) (σ.set i (iO v)) b):OA own σ b:=by obtain ⟨j,D,e⟩:=h;have g:=(qY j).mp D;rw [aw (λz=>g.2 (by simp [z]))] at e;exact ⟨j,g.1,e⟩
noncomputable def jJ (i:Nat) (fe:qZ):qK:=λρ=>(fe ρ).bind λp=>if i < p.2.length then .ok (.nx,p.2.set i (iO p.1)) else .bad
theorem qeo (n:X.N.Nodup) (hi:X.N[i]?=iO x) (hx:Loc X.env.scope x) (l:PE X e (tE C own m fe)) (f:m≠.any:=by decide) (o:i∉C.io:=by exact yr rfl) (hs:lK e (iO (.Name x pos')) pos.line X.env=pure false:=by rfl)
  (k:X.fn x=iT\/X.env.scope.names.lookup x=iO .local:=by first | exact .inl rfl | exact .inr rfl):PS X (.Assign [.Name x pos'] e pos) (tSt C own (vF own [i]) (jJ i fe)):=by
 refine Qy (qc9 n hi hx (yu l f) hs k) λD σ H ⟨F,ρ,r,h⟩=>⟨F,ρ,r,PoS.bindE h λv F1 H1 d ρ1 a c1 c h1=>?_⟩
 by_cases q:i < ρ1.length;·have h1:PoS C own (vF own [i]) σ F1 H1 (if i < ρ1.length then .ok (.nx,ρ1.set i (iO d)) else .bad) D:=h1;rw [Aa q] at h1;exact h1 _ F1 H1 ⟨a.put q c,.refl,λb z=>.inl (OA.put z),λj g=>aw λz=>o (by rw [z]; exact g)⟩
 ·have h1:PoS C own (vF own [i]) σ F1 H1 (if i < ρ1.length then .ok (.nx,ρ1.set i (iO d)) else .bad) D:=h1;rw [Ab q] at h1;exact h1.elim
theorem Rep.putO (r:Rep K own F H σ ρ) (hi:i < ρ.length) (E:F a=iQ) (n:¬OA own σ a) (o:OwnIs K F H a d):Rep K (i::vF own [i]) F H (σ.set i (iO (.ref a))) (ρ.set i (iO d)) where
 sub:=r.sub
 len:=by simp [r.len]
 val:=λj d' D e=>by have q:j≠i:=λz=>D (by simp [z]);rw [aw (bb q)] at e;obtain ⟨w,h1,h2⟩:=r.val j d' (λz=>D (ae _ ((qY j).mpr ⟨z,by simp [q]⟩))) e;exact ⟨w,by rw [aw (bb q)]; exact h1,h2⟩
 ow:=λj d' D e=>by
  by_cases q:j=i;·subst q;rw [aI hi] at e;cases e;exact ⟨a,aI (by rw [r.len]; exact hi),E,o⟩
  ·have g:=(qY j).mp ((af.mp D).resolve_left q);rw [aw (bb q)] at e;obtain ⟨b,h1,h2⟩:=r.ow j d' g.1 e;exact ⟨b,by rw [aw (bb q)]; exact h1,h2⟩
 opn:=λj D=>by
  by_cases q:j=i;·subst q; exact ⟨d,aI hi⟩
  ·have g:=(qY j).mp ((af.mp D).resolve_left q);obtain ⟨d',e⟩:=r.opn j g.1;exact ⟨d',by rw [aw (bb q)]; exact e⟩
 dis:=λj k b D p e1 f=>by
  have m:i < σ.length:=by rw [r.len]; exact hi
  by_cases l:j=i
  ·by_cases c:k=i;·rw [l,c]
   ·subst l;have h:=(qY k).mp ((af.mp p).resolve_left c);rw [aI m] at e1;cases e1;rw [aw (bb c)] at f;exact absurd ⟨k,h.1,f⟩ n
  ·have g:=(qY j).mp ((af.mp D).resolve_left l);by_cases c:k=i;·subst c;rw [aI m] at f;cases f;rw [aw (bb l)] at e1;exact absurd ⟨j,g.1,e1⟩ n
   ·have h:=(qY k).mp ((af.mp p).resolve_left c);rw [aw (bb l)] at e1;rw [aw (bb c)] at f;exact r.dis j k b g.1 h.1 e1 f
theorem qb3 (u:X.N.Nodup) (hi:X.N[i]?=iO x) (hx:Loc X.env.scope x) (t:PE X e (tE C own .fr fe)) (k:i∉C.io:=by exact yr rfl) (hs:lK e (iO (.Name x pos')) pos.line X.env=pure false:=by rfl)
  (s:X.fn x=iT\/X.env.scope.names.lookup x=iO .local:=by first | exact .inl rfl | exact .inr rfl):PS X (.Assign [.Name x pos'] e pos) (tSt C own (i::vF own [i]) (jJ i fe)):=by
 refine Qy (qc9 u hi hx t hs s) λD σ H ⟨F,ρ,n,h⟩=>⟨F,ρ,n,?_⟩
 unfold jJ at h;cases q:fe ρ with
 | ok p=>
  rw [q] at h;obtain ⟨d,ρ1⟩:=p;intro v F1 H1 r c1 m;obtain ⟨a,rfl,h0,E,o⟩:=m;by_cases z:i < ρ1.length
  ·have h1:PoS C own (i::vF own [i]) σ F H (if i < ρ1.length then .ok (.nx,ρ1.set i (iO d)) else .bad) D:=h;rw [Aa z] at h1;refine h1 _ F1 H1 ⟨r.putO z E (λy=>(n.OA_there y).1 h0) o,c1,λb y=>?_,λj f=>aw λy=>k (by rw [y]; exact f)⟩;obtain ⟨j,f,e⟩:=y;by_cases l:j=i;·subst l;rw [aI (by rw [r.len]; exact z)] at e;cases e;exact .inr h0
   ·have g:=(qY j).mp ((af.mp f).resolve_left l);rw [aw (bb l)] at e;exact .inl ⟨j,g.1,e⟩
  ·have h1:PoS C own (i::vF own [i]) σ F H (if i < ρ1.length then .ok (.nx,ρ1.set i (iO d)) else .bad) D:=h;rw [Ab z] at h1;exact h1.elim
 | exc c=>rw [q] at h; exact h
 | bad=>rw [q] at h; exact h.elim
end
inductive AK where
 | vl | sl (i:Nat) | fr
 deriving DecidableEq
def ArgV (K:Frag) (H0 F H:Hp) (σ:St):List AK->List V->List D->Prop
 | [],[],[]=>True
 | .vl::as,v::vs,d::ds=>Is K F v d/\ArgV K H0 F H σ as vs ds
 | .sl i::as,v::vs,d::ds=>σ[i]?=iO (iO v)/\d=.non/\ArgV K H0 F H σ as vs ds
 | .fr::as,v::vs,d::ds=>MoIs K .fr H0 F H v d/\ArgV K H0 F H σ as vs ds
 | _,_,_=>False
variable {H0 F' H':Hp}
theorem ArgV.grow {A:Addr->Prop} (c:Chg A F H F' H') (hA:∀ x,A x->H0 x≠iQ):∀ {as:List AK} {vs:List V} {ds:List D},ArgV K H0 F H σ as vs ds->ArgV K H0 F' H' σ as vs ds
 | [],[],[],h=>trivial
 | .vl::as,v::vs,d::ds,h=>⟨h.1.mono c.grow,ArgV.grow c hA h.2⟩
 | .sl i::as,v::vs,d::ds,h=>⟨h.1,h.2.1,ArgV.grow c hA h.2.2⟩
 | .fr::as,v::vs,d::ds,h=>⟨h.1.grow (by decide) c hA,ArgV.grow c hA h.2⟩
 | [],_::_,_,h=>h.elim
 | [],[],_::_,h=>h.elim
 | .vl::_,[],_,h=>h.elim
 | .vl::_,_::_,[],h=>h.elim
 | .sl _::_,[],_,h=>h.elim
 | .sl _::_,_::_,[],h=>h.elim
 | .fr::_,[],_,h=>h.elim
 | .fr::_,_::_,[],h=>h.elim
theorem ArgV.back {A:Addr->Prop} {F0:Hp} (c:Chg A F0 H0 F1 H1):∀ {as:List AK} {vs:List V} {ds:List D},ArgV K H1 F H σ as vs ds->ArgV K H0 F H σ as vs ds
 | [],[],[],h=>trivial
 | .vl::as,v::vs,d::ds,h=>⟨h.1,ArgV.back c h.2⟩
 | .sl i::as,v::vs,d::ds,h=>⟨h.1,h.2.1,ArgV.back c h.2.2⟩
 | .fr::as,v::vs,d::ds,h=>⟨MoIs.back (Ha:=H1) c h.1,ArgV.back c h.2⟩
 | [],_::_,_,h=>h.elim
 | [],[],_::_,h=>h.elim
 | .vl::_,[],_,h=>h.elim
 | .vl::_,_::_,[],h=>h.elim
 | .sl _::_,[],_,h=>h.elim
 | .sl _::_,_::_,[],h=>h.elim
 | .fr::_,[],_,h=>h.elim
 | .fr::_,_::_,[],h=>h.elim
def PoA (C:Ct) (own:List Nat) (as:List AK) (σ:St) (F H:Hp) (r:Out (List D×Sl)) (Q:List V->Hp->Prop):Prop:=match r with
 | .ok (ds,ρ')=>∀ vs F' H',Rep C.K own F' H' σ ρ'->Chg (OA own σ) F H F' H'->ArgV C.K H F' H' σ as vs ds->Q vs H'
 | .exc c ρ'=>∀ F' H',Same F' H'->XM C.K C.ox F' H' σ ρ'->Chg (OA own σ) F H F' H'->C.E (C.cv c) iQ H'
 | .bad=>False
abbrev wq:=Sl->Out (List D×Sl)
def tAr (C:Ct) (own:List Nat) (as:List AK) (f:wq):TA:=λσ H Q=>∃ F ρ,Rep C.K own F H σ ρ/\PoA C own as σ F H (f ρ) Q
variable {as:List AK}
theorem PoA.bindV {ma:Mo} {o:KZ} {k:D×Sl->Out (List D×Sl)} {Q:List V->Hp->Prop} {R:VK} (hp:PoA C own as σ F H (o.bind k) Q)
  (h:∀ v F1 H1 d ρ1,Rep C.K own F1 H1 σ ρ1->Chg (OA own σ) F H F1 H1->MoIs C.K ma H F1 H1 v d->PoA C own as σ F H (k (d,ρ1)) Q->R v H1):Po C own ma σ F H o R:=by
 cases o with
 | ok p=>obtain ⟨d,ρ1⟩:=p;exact λv F1 H1 a c mo=>h v F1 H1 d ρ1 a c mo hp
 | exc x=>exact hp
 | bad=>exact hp.elim
theorem Po.bindA {as:List AK} {o:Out (List D×Sl)} {k:List D×Sl->KZ} {Q:VK} {R:List V->Hp->Prop} (hp:Po C own m σ F H (o.bind k) Q)
  (h:∀ vs F1 H1 ds ρ1,Rep C.K own F1 H1 σ ρ1->Chg (OA own σ) F H F1 H1->ArgV C.K H F1 H1 σ as vs ds->Po C own m σ F1 H1 (k (ds,ρ1)) Q->R vs H1):PoA C own as σ F H o R:=by
 cases o with
 | ok p=>obtain ⟨d,ρ1⟩:=p;exact λvs F1 H1 a c v=>h vs F1 H1 d ρ1 a c v (Po.shift (show Po C own m σ F H (k (d,ρ1)) Q from hp) c)
 | exc x=>exact hp
 | bad=>exact hp.elim
noncomputable def qv:wq:=λρ=>.ok ([],ρ)
noncomputable def qb (fe:qZ) (fr:wq):wq:=λρ=>(fe ρ).bind λp=>(fr p.2).bind λq=>.ok (p.1::q.1,q.2)
noncomputable def jP (fr:wq):wq:=λρ=>(fr ρ).bind λq=>.ok (D.non::q.1,q.2)
variable {es:List Expr} {p:Addr} {u:HO}
section
variable {fe:qZ} {fr:wq}
theorem qb4 {t t':TA} (h:PA X es t) (i:∀ σ H Q,t' σ H Q->t σ H Q):PA X es t':=⟨λpos pins s σ H Q I hw=>h pos pins s σ H Q I (i σ H Q hw)⟩
theorem qe:PA X [] (tAr C own [] qv):=qb4 jK λσ H Q ⟨F,ρ,a,h⟩=>h [] F H a .refl trivial
theorem yz {a:AK} {Q:List V->Hp->Prop} {v:V} (h:∀ x,OA own σ x->H x≠iQ) (e:Rep C.K own F1 H1 σ ρ1) (c1:Chg (OA own σ) F H F1 H1) (hp:PoA C own (a::as) σ F H ((fr ρ1).bind λq=>.ok (d::q.1,q.2)) Q)
  (g:∀ b H2 vs ds,Chg (OA own σ) F1 H1 b H2->ArgV C.K H b H2 σ as vs ds->ArgV C.K H b H2 σ (a::as) (v::vs) (d::ds)):tAr C own as fr σ H1 λxs H2=>Q (v::xs) H2:=by
 refine ⟨F1,ρ1,e,?_⟩;cases q:fr ρ1 with
 | ok p=>rw [q] at hp;obtain ⟨ds,ρ2⟩:=p;exact λvs b H2 r c2 f=>hp (v::vs) b H2 r (c1.trans' c2) (g b H2 vs ds c2 (ArgV.back c1 f))
 | exc c=>rw [q] at hp; exact λF' H' s io S=>hp F' H' s io (c1.trans' S)
 | bad=>rw [q] at hp; exact hp.elim
theorem qa (g:PE X e (tE C own m fe)) (b:PA X es (tAr C own as fr)) (f:m≠.any:=by decide) (hs:iX (e::es) X.env=(iS,eval e X.env)::iX es X.env:=by exact jl rfl):PA X (e::es) (tAr C own (.vl::as) (qb fe fr)):=by
 refine qb4 (qJ (yu g f) b hs) λσ H Q ⟨F,ρ,r,h⟩=>⟨F,ρ,r,PoA.bindV h λv F1 H1 d ρ1 a c1 c h1=>?_⟩
 exact yz (λx z=>(r.OA_there z).1) a c1 h1 λj H2 vs ds c2 i=>⟨Is.mono c2.grow c,i⟩
theorem Vg (g:PE X e (tE C own .fr fe)) (b:PA X es (tAr C own as fr)) (hs:iX (e::es) X.env=(iS,eval e X.env)::iX es X.env:=by exact jl rfl):PA X (e::es) (tAr C own (.fr::as) (qb fe fr)):=by
 refine qb4 (qJ g b hs) λσ H Q ⟨F,ρ,r,h⟩=>⟨F,ρ,r,PoA.bindV h λv F1 H1 d ρ1 a c1 c h1=>?_⟩
 have oa:∀ x,OA own σ x->H x≠none:=λx z=>(r.OA_there z).1;exact yz oa a c1 h1 λi H2 vs ds c2 f=>⟨c.grow (by decide) c2 oa,f⟩
theorem Jx {px:Pos} (f:X.N[i]?=iO x) (c:Vis X.env.scope x) (l:i∈own) (e:PA X es (tAr C own as fr)) (hs:iX (.Name x px::es) X.env=(iS,eval (.Name x px) X.env)::iX es X.env:=by rfl)
  (hd:Dbg x:=by decide) (b:Cdk x:=by decide):PA X (.Name x px::es) (tAr C own (.sl i::as) (jP fr)):=by
 refine qb4 (qJ (wA f c hd b) e hs) λσ H Q ⟨F,ρ,r,h⟩=>?_;obtain ⟨d,hd⟩:=r.opn i l;obtain ⟨a,h1,h2,h3⟩:=r.ow i d l hd;exact ⟨_,h1,yz (λx z=>(r.OA_there z).1) r .refl h λg H2 vs ds c2 v=>⟨h1,rfl,v⟩⟩
theorem ArgV.isL:∀ {as:List AK} {vs:List V} {ds:List D},(as.all λa=>decide (a=.vl))=iT->ArgV K H0 F H σ as vs ds->IsL K F vs ds
 | [],[],[],_,_=>.nil
 | .vl::as,v::vs,d::ds,h,a=>.cons a.1 (ArgV.isL (by simpa using h) a.2)
 | .sl i::as,_,_,h,a=>by simp at h
 | .fr::as,_,_,h,a=>by simp at h
 | [],_::_,_,_,h=>h.elim
 | [],[],_::_,_,h=>h.elim
 | .vl::_,[],_,_,h=>h.elim
 | .vl::_,_::_,[],_,h=>h.elim
noncomputable def Vh (fr:wq):qZ:=λρ=>(fr ρ).bind λp=>if p.1.length<=sizeLine then .ok (.tup p.1,p.2) else .bad
noncomputable def Vi (fr:wq):qZ:=λρ=>(fr ρ).bind λp=>if p.1.length<=sizeLine then .ok (.lst p.1,p.2) else .bad
theorem qgA (a:Rep C.K own F H σ ρ) (hp:H p=iQ):Rep C.K own (upd F p u) (upd H p u) σ ρ/\Chg No F H (upd F p u) (upd H p u):=by
 have E:F p=none:=by
  cases q:F p with
  | none=>rfl
  | some o=>rw [a.sub p o q] at hp; cases hp
 have c:Chg No F H (upd F p u) (upd H p u):=⟨λb o e _=>by rw [qu (qA e hp)]; exact e,λb e=>by
  by_cases q:b=p;·rw [q,qm]; simp
  ·rw [qu q]; exact e,λb o e=>by rw [qu (qA e E)]; exact e,λb e=>by
  by_cases q:b=p;·exact .inr (.inl (by rw [q]; exact hp))
  ·rw [qu q] at e; exact .inl e⟩
 refine ⟨a.grow c λb o e=>?_,c⟩;by_cases q:b=p;·subst q; rw [qm] at e ⊢; exact e
 ·rw [qu q] at e ⊢; exact a.sub b o e
theorem GB (a:Rep C.K own F H σ ρ) (hp:H p=iQ):Rep C.K own F (upd H p u) σ ρ/\Chg No F H F (upd H p u)/\F p=none:=by
 have E:F p=none:=by
  cases q:F p with
  | none=>rfl
  | some o=>rw [a.sub p o q] at hp; cases hp
 have c:Chg No F H F (upd H p u):=⟨λb o e _=>by rw [qu (qA e hp)]; exact e,λb e=>by
  by_cases q:b=p;·rw [q,qm]; simp
  ·rw [qu q]; exact e,Same.refl _,λb e=>.inl e⟩
 exact ⟨a.grow c λb o e=>by rw [qu (qA e E)]; exact a.sub b o e,c,E⟩
theorem uC {x1} (h:PA X es (tAr C own as fr)) (g:(as.all λa=>decide (a=.vl))=true:=by decide):PE X (.Tuple es x1 pos) (tE C own .sh (Vh fr)):=by
 refine jz (qgg h) λσ H Q ⟨F,ρ,c,h⟩=>⟨F,ρ,c,Po.bindA h λvs F1 H1 ds ρ1 b c1 v h1=>?_⟩
 have i:=v.isL g;have h1:Po C own .sh σ F1 H1 (if ds.length<=sizeLine then .ok (.tup ds,ρ1) else .bad) Q:=h1;by_cases z:ds.length<=sizeLine;·rw [Aa z] at h1;refine ⟨by rw [i.length]; exact z,λp hp=>?_⟩;obtain ⟨r,c2⟩:=qgA (u:=.tup vs) b hp;exact h1 _ _ _ r c2.ofNo (.tup (.inl (.inl qm)) (i.mono c2.grow))
 ·rw [Ab z] at h1; exact h1.elim
theorem wD (h:PA X es (tAr C own as fr)) (g:(as.all λa=>decide (a=.vl))=true:=by decide):PE X (.List es pos) (tE C own .fr (Vi fr)):=by
 refine jz (qgh h) λσ H Q ⟨F,ρ,c,h⟩=>⟨F,ρ,c,Po.bindA h λvs F1 H1 ds ρ1 b c1 v h1=>?_⟩
 have i:=v.isL g;have h1:Po C own .fr σ F1 H1 (if ds.length<=sizeLine then .ok (.lst ds,ρ1) else .bad) Q:=h1;by_cases z:ds.length<=sizeLine;·rw [Aa z] at h1;refine ⟨by rw [i.length]; exact z,λp hp=>?_⟩;obtain ⟨r,c2,E⟩:=GB (u:=.lst vs) b hp;exact h1 _ _ _ r c2.ofNo ⟨p,rfl,hp,E,vs,qm,i⟩
 ·rw [Ab z] at h1; exact h1.elim
theorem Yg:PE X (.Dict [] [] pos) (tE C own .fr (dC (.dct []))):=by refine jz qbW λσ H Q ⟨F,ρ,a,h⟩ p hp=>?_;obtain ⟨r,c2,E⟩:=GB (u:=.dK []) a hp;exact h _ _ _ r c2.ofNo ⟨p,rfl,hp,E,[],qm,.nil⟩
noncomputable def ixD:D->D->Out D
 | .lst xs,.int i=>match atI xs i with
  | some d=>.ok d
  | none=>.bad
 | .tup xs,.int i=>match atI xs i with
  | some d=>.ok d
  | none=>.bad
 | .str x,.int i=>match atI x.cps.toList i with
  | some c=>.ok (.str ⟨#[c]⟩)
  | none=>.bad
 | .dct kvs,.str x=>match (kvs.find? λkv=>decide (kv.1=ce x)) with
  | some kv=>.ok kv.2
  | none=>.bad
 | .dct kvs,.int x=>match (kvs.find? λkv=>decide (kv.1=fB x)) with
  | some kv=>.ok kv.2
  | none=>.bad
 | _,_=>.bad
theorem IsL.atI {i:Int} (h:IsL K F vs ds) (e:L2.atI ds i=iO d):∃ v,L2.atI vs i=iO v/\Is K F v d:=by
 unfold L2.atI at e ⊢;rw [h.length];cases q:ixN ds.length i with
 | none=>rw [q] at e; cases e
 | some j=>rw [q] at e;exact h.getD e
theorem IsK.find {k:Key}:∀ {vs:List (Key×V)} {ds:List (Key×D)} {d:Key×D},IsK K F vs ds->(ds.find? λkv=>decide (kv.1=k))=iO d->∃ v,XI vs k=iO v/\Is K F v d.2
 | _,_,_,.nil,e=>by simp at e
 | _,_,d,.cons (k:=k') (vs:=vs) h t,e=>by
  by_cases q:k'=k;·rw [List.find?_cons_of_pos (by simp [q])] at e;cases e;exact ⟨_,zA q,h⟩
  ·rw [List.find?_cons_of_neg (by simp [q])] at e;obtain ⟨v,h1,h2⟩:=IsK.find t e;exact ⟨v,by rw [zB q]; exact h1,h2⟩
theorem Yh (c:Nat):(⟨#[c]⟩:Str).length<=sizeLine:=by show 1<=sizeLine;rw [i9]; decide
def qjJ (K:Frag):R2:=λx y H Q=>rIx K x y H Q\/∃ a v,x=.ref a/\DGet H a y (iO v)/\Q v H
theorem qgB (f:X.A.units+1 < lE):IxR X (qjJ X.K):=by
 refine IxR.or qgl ?_;intro value e pins s σ H x y v u Q I d c h hs;obtain ⟨a,w,rfl,g,q⟩:=h;cases d;obtain ⟨T,ht⟩:∃ T,s.TypeIs (.ref a) T/\T = "dict":=⟨_,WG I g,rfl⟩
 obtain ⟨ht,rfl⟩:=ht;exact tail_any ht PySem.slot_dict_getitem.lookup (Gh f I g c λw' s' b r=>⟨w,H,b,r,q⟩) hs
end
variable {T:String}
section
variable {a b:Expr} {f fa fb:qZ}
theorem qgC {σ:St} {x y:V} {dx b:D} {Q:VK} (m:C.K=X.K) (s:Same F H) (f:TopIs C.K F H x dx) (ty:TopIs C.K F H y b) (po:PoV C .sh F H (ixD dx b) Q):qjJ X.K x y H Q:=by
 rw [m] at f ty;cases dx with
 | lst xs=>
  cases b <;> try exact po.elim
  rename_i i;obtain rfl:=ty.int;obtain ⟨a,vs,rfl,p,t⟩:=f.lst s;unfold ixD at po;cases e:L2.atI xs i with
  | none=>simp only [e] at po; exact po.elim
  | some d=>simp only [e] at po;obtain ⟨v,h1,h2⟩:=t.atI e;exact .inl (.inl ⟨a,vs,i,v,rfl,rfl,p,h1,po v F H s .refl (by rw [m]; exact h2)⟩)
 | tup xs=>
  cases b <;> try exact po.elim
  rename_i i;obtain rfl:=ty.int;obtain ⟨a,vs,rfl,p,t⟩:=f.tup s;unfold ixD at po;cases e:L2.atI xs i with
  | none=>simp only [e] at po; exact po.elim
  | some d=>simp only [e] at po;obtain ⟨v,h1,h2⟩:=t.atI e;exact .inl (.inr (.inl ⟨a,vs,i,v,rfl,rfl,p,h1,po v F H s .refl (by rw [m]; exact h2)⟩))
 | str z=>
  cases b <;> try exact po.elim
  rename_i i;obtain rfl:=ty.int;obtain ⟨rfl,hz⟩:=f.str;unfold ixD at po;cases e:L2.atI z.cps.toList i with
  | none=>simp only [e] at po; exact po.elim
  | some c=>simp only [e] at po;exact .inl (.inr (.inr ⟨z,i,c,rfl,rfl,hz,e,po _ F H s .refl (.str (Yh c))⟩))
 | dct kvs=>
  obtain ⟨a,kv,rfl,p,t⟩:=f.dct s;cases b with
  | int i=>
   obtain rfl:=ty.int;unfold ixD at po;cases e:(kvs.find? λkv=>decide (kv.1=fB i)) with
   | none=>simp only [e] at po; exact po.elim
   | some d=>simp only [e] at po;obtain ⟨v,h1,h2⟩:=t.find e;exact .inr ⟨a,v,rfl,by rw [<-h1]; exact DGet.k (k:=fB i) p,po v F H s .refl (by rw [m]; exact h2)⟩
  | str z=>
   obtain ⟨rfl,_⟩:=ty.str;unfold ixD at po;cases e:(kvs.find? λkv=>decide (kv.1=ce z)) with
   | none=>simp only [e] at po; exact po.elim
   | some d=>simp only [e] at po;obtain ⟨v,h1,h2⟩:=t.find e;exact .inr ⟨a,v,rfl,by rw [<-h1]; exact DGet.k (k:=ce z) p,po v F H s .refl (by rw [m]; exact h2)⟩
  | _=>exact po.elim
 | _=>exact po.elim
theorem qiV (s:C.K=X.K) (B:X.A.units+64 < lE) (o:PE X a (tE C own ma fa)) (n:PE X b (tE C own mb fb)) (hs:WD b) (j:ma≠.any:=by decide):PE X (.Subscript a b pos) (tE C own .sh (d2 ixD fa fb)):=by
 refine jz (qiM (qgB (by lia)) o n hs) λσ H Q h=>?_;obtain ⟨F,ρ,l,h⟩:=Va (mb:=mb) j h;refine ⟨F,ρ,l,?_⟩;cases q:fa ρ with
 | ok p=>
  rw [q] at h;obtain ⟨d,ρ1⟩:=p;intro v F1 H1 f c1 i;obtain ⟨z,ρ2,e,h2⟩:=h v F1 H1 f c1 i;refine ⟨z,ρ2,e,?_⟩;cases g:fb ρ2 with
  | ok p=>rw [g] at h2;obtain ⟨d',k⟩:=p;intro w x u r G m;obtain ⟨J,dx,D,y,t,ty,po⟩:=h2 w x u r G m;exact qgC (σ:=σ) s y t ty po
  | exc c=>rw [g] at h2; exact h2
  | bad=>rw [g] at h2; exact h2.elim
 | exc c=>rw [q] at h; exact h
 | bad=>rw [q] at h; exact h.elim
def zX (X:Cx) (C:Ct) (m:Mo) (f:iR) (g:D->Out D):Prop:=wB X f (λxs H Q=>∃ x F dx,xs=[x]/\Same F H/\TopIs C.K F H x dx/\PoV C m F H (g dx) Q)
theorem zY {Q:VK} {g:D->Out D} (h:tE C own m (d1 g fa) σ H Q):qbP (tE C own ma fa) qhU σ H λxs H1=>∃ x F dx,xs=[x]/\Same F H1/\TopIs C.K F H1 x dx/\PoV C m F H1 (g dx) Q:=by
 obtain ⟨F,ρ,r,h⟩:=XN (ma:=ma) h;refine ⟨F,ρ,r,?_⟩;cases q:fa ρ with
 | ok p=>rw [q] at h;obtain ⟨d,ρ1⟩:=p;intro v F1 H1 a c1 b;obtain ⟨e,dx,y,t,po⟩:=h v F1 H1 a c1 b;exact ⟨v,e,dx,rfl,y,t,po⟩
 | exc c=>rw [q] at h; exact h
 | bad=>rw [q] at h; exact h.elim
theorem qy {id:String} {p:Pos} {g:D->Out D} (d:zX X C m (.builtin id) g) (hg:Gl X x) (a:X.mg x=iQ) (c:iZ x=iO (.builtin id)) (f:PE X e (tE C own ma fa)) (n:x ≠ "__name__":=by decide) (b:Dbg x:=by decide)
  (i:iX [e] X.env=[(iS,eval e X.env)]:=by exact qE rfl):PE X (.Call (.Name x p) [e] [] pos) (tE C own m (d1 g fa)):=
 jz (yp d hg a c (qJ f jK i) n b (by rw [i]; rfl) rfl) λ_ _ _ h=>zY h
theorem jv {p:Pos} {g:D->Out D} (d:zX X C m (.type T) g) (hg:Gl X x) (a:X.mg x=iQ) (c:iZ x=iO (.type T)) (f:PE X e (tE C own ma fa)) (n:x ≠ "__name__":=by decide) (b:Dbg x:=by decide)
  (i:iX [e] X.env=[(iS,eval e X.env)]:=by exact qE rfl):PE X (.Call (.Name x p) [e] [] pos) (tE C own m (d1 g fa)):=
 jz (wC d hg a c (qJ f jK i) n b (by rw [i]; rfl) rfl) λ_ _ _ h=>zY h
noncomputable def uz:D->Out D
 | .str x=>.ok (.int x.length)
 | .lst xs=>.ok (.int xs.length)
 | .tup xs=>.ok (.int xs.length)
 | .dct xs=>.ok (.int xs.length)
 | _=>.bad
theorem IsK.length:∀ {vs:List (Key×V)} {ds:List (Key×D)},IsK K F vs ds->vs.length=ds.length
 | _,_,.nil=>rfl
 | _,_,.cons _ t=>congrArg (·+1) (IsK.length t)
theorem kb (m:C.K=X.K):zX X C .sh (.builtin "len") uz:=by
 intro pins s σ H xs us Q I r h;obtain ⟨x,F,dx,rfl,y,b,po⟩:=h;cases dx with
 | str z=>obtain ⟨rfl,hz⟩:=b.str;exact Js pins s σ H _ us Q I r ⟨_,_,rfl,⟨hz,rfl⟩,po _ F H y .refl (.int _)⟩
 | lst ds=>obtain ⟨a,vs,rfl,p,t⟩:=b.lst y;exact Js pins s σ H _ us Q I r ⟨_,ds.length,rfl,.inl ⟨vs,by rw [<-m]; exact p,t.length.symm⟩,po _ F H y .refl (.int _)⟩
 | tup ds=>obtain ⟨a,vs,rfl,p,t⟩:=b.tup y;exact Js pins s σ H _ us Q I r ⟨_,ds.length,rfl,.inr ⟨vs,by rw [<-m]; exact p,t.length.symm⟩,po _ F H y .refl (.int _)⟩
 | dct ds=>obtain ⟨a,vs,rfl,p,t⟩:=b.dct y;refine Gm pins s σ H _ us Q I r ⟨a,vs,rfl,p,?_⟩;rw [t.length];exact po _ F H y .refl (.int _)
 | _=>exact po.elim
noncomputable def vG:D->D->Out D
 | .int i,.int j=>.ok (.int (i+j))
 | .str x,.str y=>if x.length+y.length<=sizeLine then .ok (.str (x++y)) else .bad
 | .lst xs,.lst ys=>if xs.length+ys.length<=sizeLine then .ok (.lst (xs++ys)) else .bad
 | .tup xs,.tup ys=>if xs.length+ys.length<=sizeLine then .ok (.tup (xs++ys)) else .bad
 | _,_=>.bad
theorem vW (y:Same F H) (hp:H p=iQ):Same (upd F p u) (upd H p u)/\Chg No F H (upd F p u) (upd H p u):=by
 have E:F p=none:=by
  cases q:F p with
  | none=>rfl
  | some o=>rw [y p o q] at hp; cases hp
 refine ⟨λb o e=>?_,⟨λb o e _=>by rw [qu (qA e hp)]; exact e,λb e=>?_,λb o e=>by rw [qu (qA e E)]; exact e,λb e=>?_⟩⟩
 ·by_cases q:b=p;·subst q; rw [qm] at e ⊢; exact e
  ·rw [qu q] at e ⊢; exact y b o e
 ·by_cases q:b=p;·rw [q,qm]; simp
  ·rw [qu q]; exact e
 ·by_cases q:b=p;·exact .inr (.inl (by rw [q]; exact hp))
  ·rw [qu q] at e; exact .inl e
theorem kE (y:Same F H) (hp:H p=iQ):Same F (upd H p u)/\Chg No F H F (upd H p u)/\F p=none:=by
 have E:F p=none:=by
  cases q:F p with
  | none=>rfl
  | some o=>rw [y p o q] at hp; cases hp
 refine ⟨λb o e=>by rw [qu (qA e E)]; exact y b o e,⟨λb o e _=>by rw [qu (qA e hp)]; exact e,λb e=>?_,Same.refl _,λb e=>.inl e⟩,E⟩;by_cases q:b=p;·rw [q,qm]; simp
 ·rw [qu q]; exact e
theorem WJ (x y:Str):(x++y).length=x.length+y.length:=by show (x.cps++y.cps).size=_;simp [cC]
theorem qep:OpR X (lD .Add) (λx y H Q=>∃ l b xs zs,x=.ref l/\y=.ref b/\SqL X.K H l xs/\SqL X.K H b zs/\xs.length+zs.length<=sizeLine/\∀ p,H p=iQ->Q (.ref p) (upd H p (.lst (xs++zs)))):=by
 intro pins s σ H x y v u Q I k r h;obtain ⟨l,b,xs,zs,rfl,rfl,h1,h2,hz,q⟩:=h;cases k;cases r;obtain ⟨its,r1,p1,_⟩:=I.list h1;obtain ⟨i,r2,p2,_⟩:=I.list h2;obtain ⟨⟨cls,dd,data,sl⟩,o,g,n,hd⟩:=id p1.isList;obtain ⟨⟨j,e,f,d⟩,a,c,n2,hd2⟩:=id p2.isList;simp only at g hd c hd2;subst g hd c hd2;have t:=r1.length;have m:=r2.length;refine m8 ⟨_,o,rfl⟩ ⟨_,a,rfl⟩ noFill_list_add seq_list_add PySem.F.slot_list_add PySem.F.entry_list_add (PySem.F.args_list_add_2 _ _)
  (list_addW l b its.toArray i.toArray n n2 dd e sl d (by simp only [au]; lia)) ⟨o,a,?_⟩
 have w:its.toArray++i.toArray=(its++i).toArray:=by simp
 rw [w];exact ⟨.ref _,_,I.lnew (t':=s.toks) (r1.append r2) (by rw [ao]; exact hz),rfl,q _ I.fresh⟩
theorem qeq:OpR X (lD .Add) (λx y H Q=>∃ a b ys,x=.ref a/\y=.ref b/\SqT X.K H a []/\SqT X.K H b ys/\Q (.ref b) H):=by
 intro pins s σ H x y v u Q I m r h;obtain ⟨a,b,ys,rfl,rfl,h1,h2,q⟩:=h;cases m;cases r;obtain ⟨its,r1,p1,_⟩:=I.tuple h1;obtain ⟨i,r2,p2,_⟩:=I.tuple h2;cases r1;obtain ⟨⟨cls,dd,data,sl⟩,l,j,n,hd⟩:=id p1;obtain ⟨⟨k,f,g,e⟩,c,d,n2,hd2⟩:=id p2;simp only at j hd d hd2;subst j hd d hd2;exact m8 ⟨_,l,rfl⟩ ⟨_,c,rfl⟩ noFill_tuple_add seq_tuple_add eY eG (d5 _ _)
  (tuple_addW0 a b _ _ n n2 dd f sl e rfl) ⟨l,c,⟨.ref b,H,I,rfl,q⟩⟩
theorem jQ (m:C.K=X.K):OpD X C .sh (lD .Add) vG:=by
 intro pins s σ H x y v u Q I g r h;obtain ⟨F,dx,j,c,t,ty,po⟩:=h;cases dx with
 | int i=>
  cases j <;> try exact po.elim
  obtain rfl:=t.int;obtain rfl:=ty.int;exact qf7 pins s σ H _ _ v u Q I g r ⟨_,_,rfl,rfl,po _ F H c .refl (.int _)⟩
 | str a=>
  cases j <;> try exact po.elim
  rename_i b;obtain ⟨rfl,_⟩:=t.str;obtain ⟨rfl,_⟩:=ty.str;have po:PoV C .sh F H (if a.length+b.length<=sizeLine then .ok (.str (a++b)) else .bad) Q:=po;by_cases z:a.length+b.length<=sizeLine;·rw [Aa z] at po;exact XD pins s σ H _ _ v u Q I g r ⟨_,_,rfl,rfl,z,po _ F H c .refl (.str (by rw [WJ]; exact z))⟩
  ·rw [Ab z] at po; exact po.elim
 | lst xs=>
  cases j <;> try exact po.elim
  rename_i ys;obtain ⟨a,vs,rfl,p1,f⟩:=t.lst c;obtain ⟨b,ws,rfl,p2,d⟩:=ty.lst c;have po:PoV C .sh F H (if xs.length+ys.length<=sizeLine then .ok (.lst (xs++ys)) else .bad) Q:=po;by_cases z:xs.length+ys.length<=sizeLine;·rw [Aa z] at po;refine qep pins s σ H _ _ v u Q I g r ⟨a,b,vs,ws,rfl,rfl,by rw [<-m]; exact p1,by rw [<-m]; exact p2,by rw [f.length,d.length]; exact z,λp hp=>?_⟩;obtain ⟨s2,c2⟩:=vW (u:=.lst (vs++ws)) c hp;exact po _ _ _ s2 c2 (.lst (.inl (.inl qm)) ((f.append d).mono c2.grow))
  ·rw [Ab z] at po; exact po.elim
 | tup xs=>
  cases j <;> try exact po.elim
  rename_i ys;obtain ⟨a,vs,rfl,p1,f⟩:=t.tup c;obtain ⟨b,ws,rfl,p2,d⟩:=ty.tup c;have po:PoV C .sh F H (if xs.length+ys.length<=sizeLine then .ok (.tup (xs++ys)) else .bad) Q:=po;by_cases z:xs.length+ys.length<=sizeLine
  ·rw [Aa z] at po;cases vs with
   | nil=>
    cases f;rcases ty with ty | ⟨_,_,ty⟩
    ·exact qeq pins s σ H _ _ v u Q I g r ⟨a,b,ws,rfl,rfl,by rw [<-m]; exact p1,by rw [<-m]; exact p2,po _ F H c .refl ty⟩
    ·exact ty.elim
   | cons k vs=>
    refine qd7 pins s σ H _ _ v u Q I g r ⟨a,b,k::vs,ws,rfl,rfl,by rw [<-m]; exact p1,by rw [<-m]; exact p2,by simp,by rw [f.length,d.length]; exact z,λe=>?_,λe p hp=>?_⟩
    ·subst e;cases d;rcases t with t | ⟨_,_,t⟩
     ·refine po _ F H c .refl ?_;rw [bv];exact t
     ·exact t.elim
    ·obtain ⟨s2,c2⟩:=vW (u:=.tup (k::vs++ws)) c hp;exact po _ _ _ s2 c2 (.tup (.inl (.inl qm)) ((f.append d).mono c2.grow))
  ·rw [Ab z] at po; exact po.elim
 | _=>exact po.elim
end
inductive PM where
 | val | io | tk
 deriving DecidableEq
noncomputable def yA:List PM->List V->List Addr
 | .val::ms,_::vs=>yA ms vs
 | .io::ms,.ref a::vs=>a::yA ms vs
 | .tk::ms,.ref a::vs=>a::yA ms vs
 | _::ms,_::vs=>yA ms vs
 | _,_=>[]
def ArgsIs (K:Frag) (F H:Hp):List PM->List V->List D->Prop
 | [],[],[]=>True
 | .val::ms,v::vs,d::ds=>Is K F v d/\ArgsIs K F H ms vs ds
 | .io::ms,v::vs,d::ds=>(∃ a,v=.ref a/\F a=iQ/\OwnIs K F H a d)/\ArgsIs K F H ms vs ds
 | .tk::ms,v::vs,d::ds=>(∃ a,v=.ref a/\F a=iQ/\OwnIs K F H a d)/\ArgsIs K F H ms vs ds
 | _,_,_=>False
def uD (K:Frag) (F H:Hp):List PM->List V->List D->Prop
 | [],_,_=>True
 | .io::ms,v::vs,d::ds=>(∃ a,v=.ref a/\F a=iQ/\OwnIs K F H a d)/\uD K F H ms vs ds
 | _::ms,_::vs,_::ds=>uD K F H ms vs ds
 | _,_,_=>False
abbrev LA (ms:List PM) (vs:List V):Addr->Prop:=λb=>b∈yA ms vs
def PoG (K:Frag) (cv:Str->iR) (ms:List PM) (mr:Mo) (vs:List V) (F H:Hp) (Q:VK) (E:XK) (o:Out (D×List D)):Prop:=match o with
 | .ok (d,outs)=>∀ v F' H',Same F' H'->Chg (LA ms vs) F H F' H'->uD K F' H' ms vs outs->MoIs K mr H F' H' v d->Q v H'
 | .exc c o=>∀ F' H',Same F' H'->Chg (LA ms vs) F H F' H'->uD K F' H' ms vs (o.map (·.getD .non))->E (cv c) iQ H'
 | .bad=>False
abbrev jy:=List D->Out (D×List D)
def spD (K:Frag) (cv:Str->iR) (ms:List PM) (mr:Mo) (G:jy):Sp:=λvs H Q E=>∃ F ds,Same F H/\ArgsIs K F H ms vs ds/\(yA ms vs).Nodup/\PoG K cv ms mr vs F H Q E (G ds)
theorem ArgsIs.length:∀ {ms:List PM} {vs:List V} {ds:List D},ArgsIs K F H ms vs ds->vs.length=ms.length/\ds.length=ms.length
 | [],[],[],_=>⟨rfl,rfl⟩
 | .val::ms,v::vs,d::ds,h=>by have:=ArgsIs.length h.2; simp [this]
 | .io::ms,v::vs,d::ds,h=>by have:=ArgsIs.length h.2; simp [this]
 | .tk::ms,v::vs,d::ds,h=>by have:=ArgsIs.length h.2; simp [this]
 | [],_::_,_,h=>h.elim
 | [],[],_::_,h=>h.elim
 | .val::_,[],_,h=>h.elim
 | .val::_,_::_,[],h=>h.elim
 | .io::_,[],_,h=>h.elim
 | .io::_,_::_,[],h=>h.elim
 | .tk::_,[],_,h=>h.elim
 | .tk::_,_::_,[],h=>h.elim
noncomputable def jZ (n:Nat):List PM->List Nat
 | []=>[]
 | .val::ms=>jZ (n+1) ms
 | _::ms=>n::jZ (n+1) ms
noncomputable def Wv (n:Nat):List PM->List Nat
 | []=>[]
 | .io::ms=>n::Wv (n+1) ms
 | _::ms=>Wv (n+1) ms
variable {n:Nat}
theorem yB:∀ {ms:List PM} {i:Nat},i∈jZ n ms->n<=i/\i < n+ms.length:=by
 intro ms
 induction ms generalizing n with
 | nil=>intro i h; simp [jZ] at h
 | cons m ms j=>
  intro i h;cases m with
  | val=>have:=j (n:=n+1) h; simp only [ai]; lia
  | io=>
   rcases af.mp h with e | h;·simp only [ai]; lia
   ·have:=j (n:=n+1) h; simp only [ai]; lia
  | tk=>
   rcases af.mp h with e | h;·simp only [ai]; lia
   ·have:=j (n:=n+1) h; simp only [ai]; lia
theorem qb5:∀ {ms:List PM} {i:Nat},i∈Wv n ms->i∈jZ n ms:=by
 intro ms
 induction ms generalizing n with
 | nil=>intro i h; simp [Wv] at h
 | cons m ms j=>
  intro i h;cases m with
  | val=>exact j (n:=n+1) h
  | io=>
   rcases af.mp h with e | h;·exact af.mpr (.inl e)
   ·exact ae _ (j (n:=n+1) h)
  | tk=>exact ae _ (j (n:=n+1) h)
theorem XR:∀ {ms:List PM} {vs:List V} {ds:List D} {n:Nat},ArgsIs K F H ms vs ds ->(∀ j d,ds[j]?=iO d->n+j∉jZ n ms->∃ v,vs[j]?=iO v/\Is K F v d) /\
  (∀ j d,ds[j]?=iO d->n+j∈jZ n ms->∃ a,vs[j]?=iO (.ref a)/\F a=iQ/\OwnIs K F H a d):=by
 intro ms
 induction ms with
 | nil=>intro vs ds n h; cases vs <;> cases ds <;> first | exact h.elim | (refine ⟨λj d e=>?_,λj d e=>?_⟩ <;> simp at e)
 | cons m ms i=>
  intro vs ds n h;cases vs with
  | nil=>cases m <;> exact h.elim
  | cons v vs=>
   cases ds with
   | nil=>cases m <;> exact h.elim
   | cons d ds=>
    cases m with
    | val=>
     obtain ⟨h1,h2⟩:=h;obtain ⟨i1,i2⟩:=i (n:=n+1) h2;refine ⟨λj e b c=>?_,λj e b c=>?_⟩
     ·cases j with
      | zero=>simp at b; subst b; exact ⟨v,rfl,h1⟩
      | succ j=>simpa using i1 j e (by simpa using b) (by rw [show n+1+j=n+(j+1) by lia]; exact c)
     ·cases j with
      | zero=>have:=yB (n:=n+1) c; lia
      | succ j=>simpa using i2 j e (by simpa using b) (by rw [show n+1+j=n+(j+1) by lia]; exact c)
    | io=>
     obtain ⟨⟨a,rfl,h1⟩,h2⟩:=h;obtain ⟨i1,i2⟩:=i (n:=n+1) h2;refine ⟨λj e b c=>?_,λj e b c=>?_⟩
     ·cases j with
      | zero=>exact absurd (af.mpr (.inl rfl)) c
      | succ j=>simpa using i1 j e (by simpa using b) (λz=>c (ae _ (by rw [show n+(j+1)=n+1+j by lia]; exact z)))
     ·cases j with
      | zero=>simp at b; subst b; exact ⟨a,rfl,h1⟩
      | succ j=>
       have f:n+1+j∈jZ (n+1) ms:=by
        rcases af.mp c with z | z
        ·lia
        ·rw [show n+1+j=n+(j+1) by lia]; exact z
       simpa using i2 j e (by simpa using b) f
    | tk=>
     obtain ⟨⟨a,rfl,h1⟩,h2⟩:=h;obtain ⟨i1,i2⟩:=i (n:=n+1) h2;refine ⟨λj e b c=>?_,λj e b c=>?_⟩
     ·cases j with
      | zero=>exact absurd (af.mpr (.inl rfl)) c
      | succ j=>simpa using i1 j e (by simpa using b) (λz=>c (ae _ (by rw [show n+(j+1)=n+1+j by lia]; exact z)))
     ·cases j with
      | zero=>simp at b; subst b; exact ⟨a,rfl,h1⟩
      | succ j=>
       have f:n+1+j∈jZ (n+1) ms:=by
        rcases af.mp c with z | z
        ·lia
        ·rw [show n+1+j=n+(j+1) by lia]; exact z
       simpa using i2 j e (by simpa using b) f
theorem GC:∀ {ms:List PM} {vs:List V} {j:Nat} {a:Addr},n+j∈jZ n ms->vs[j]?=iO (.ref a)->a∈yA ms vs:=by
 intro ms
 induction ms generalizing n with
 | nil=>intro vs j a h; simp [jZ] at h
 | cons m ms i=>
  intro vs j a h e;cases vs with
  | nil=>simp at e
  | cons v vs=>
   cases j with
   | zero=>
    simp at e; subst e;cases m with
    | val=>have:=yB (n:=n+1) h; omega
    | io=>exact af.mpr (.inl rfl)
    | tk=>exact af.mpr (.inl rfl)
   | succ j=>
    have b:vs[j]?=iO (.ref a):=by simpa using e
    have sub:n+1+j∈jZ (n+1) ms:=by
     rw [show n+1+j=n+(j+1) by omega];cases m with
     | val=>exact h
     | io=>exact (af.mp h).resolve_left (by omega)
     | tk=>exact (af.mp h).resolve_left (by omega)
    have q:=i (n:=n+1) sub b;cases m <;> cases v <;> first | exact q | exact ae _ q
theorem GD:∀ {ms:List PM} {vs:List V} {a:Addr},a∈yA ms vs->∃ j,n+j∈jZ n ms/\vs[j]?=iO (.ref a):=by
 intro ms
 induction ms generalizing n with
 | nil=>intro vs a h; cases vs <;> simp [yA] at h
 | cons m ms i=>
  intro vs a h;cases vs with
  | nil=>cases m <;> simp [yA] at h
  | cons v vs=>
   have up:∀ {b},b∈yA ms vs->∃ j,n+j∈jZ n (m::ms)/\(v::vs)[j]?=iO (.ref b):=λd=>by
    obtain ⟨j,h1,h2⟩:=i (n:=n+1) d;refine ⟨j+1,?_,by simpa using h2⟩;rw [show n+(j+1)=n+1+j by lia];cases m with
    | val=>exact h1
    | io=>exact ae _ h1
    | tk=>exact ae _ h1
   cases m with
   | val=>exact up (by cases v <;> exact h)
   | io=>
    cases v with
    | ref c=>
     rcases af.mp h with e | h;·subst e; exact ⟨0,af.mpr (.inl rfl),rfl⟩
     ·exact up h
    | _=>exact up h
   | tk=>
    cases v with
    | ref c=>
     rcases af.mp h with e | h;·subst e; exact ⟨0,af.mpr (.inl rfl),rfl⟩
     ·exact up h
    | _=>exact up h
theorem qb6:∀ {ms:List PM} {vs:List V} {i j:Nat} {a:Addr},(yA ms vs).Nodup->n+i∈jZ n ms->n+j∈jZ n ms->vs[i]?=iO (.ref a)->vs[j]?=iO (.ref a)->i=j:=by
 intro ms
 induction ms generalizing n with
 | nil=>intro vs i j a _ h; simp [jZ] at h
 | cons m ms f=>
  intro vs i j a nd hi D e1 e;cases vs with
  | nil=>simp at e1
  | cons v vs=>
   have sub:∀ {k},n+(k+1)∈jZ n (m::ms)->n+1+k∈jZ (n+1) ms:=λ{k} h=>by
    rw [show n+1+k=n+(k+1) by lia];cases m with
    | val=>exact h
    | io=>exact (af.mp h).resolve_left (by lia)
    | tk=>exact (af.mp h).resolve_left (by lia)
   have d:(yA ms vs).Nodup:=by cases m <;> cases v <;> first | exact nd | exact (aT.mp nd).2
   have c:∀ {k b},n+0∈jZ n (m::ms)->v=.ref b->n+(k+1)∈jZ n (m::ms)->vs[k]?=iO (.ref b)->False:=λ{k b} h0 g l o=>by
    subst g;have q:=GC (n:=n+1) (sub l) o;cases m with
    | val=>have:=yB (n:=n+1) h0; lia
    | io=>exact (aT.mp nd).1 q
    | tk=>exact (aT.mp nd).1 q
   cases i with
   | zero=>
    cases j with
    | zero=>rfl
    | succ j=>exact (c hi (by simpa using e1) D (by simpa using e)).elim
   | succ i=>
    cases j with
    | zero=>exact (c D (by simpa using e) hi (by simpa using e1)).elim
    | succ j=>exact congrArg (·+1) (f (n:=n+1) d (sub hi) (sub D) (by simpa using e1) (by simpa using e))
noncomputable def qp (N:List Str) (ds:List D):Sl:=ds.map iO++bg (N.length - ds.length) iQ
variable {α:Type} {N:List Str}
theorem jL {xs:List α} {x:α}:(xs.map iO++bg (N.length - xs.length) iQ)[i]?=iO (iO x)↔xs[i]?=iO x:=by
 by_cases h:i < xs.length
 ·rw [cG (by simpa using h),aF];cases e:xs[i]? with
  | none=>simp
  | some y=>simp
 ·rw [cB (by simpa using h),bB];have e:xs[i]?=none:=List.getElem?_eq_none_iff.mpr (by lia);rw [e];split <;> simp
variable {ms:List PM}
theorem GE (y:Same F H) (r:ArgsIs K F H ms vs ds) (nd:(yA ms vs).Nodup):Rep K (jZ 0 ms) F H (yo N vs) (qp N ds):=by
 obtain ⟨h1,h2⟩:=XR (n:=0) r;obtain ⟨c,l⟩:=r.length;refine ⟨y,by simp [yo,qp,c,l],λi d hi e=>?_,λi d hi e=>?_,λi hi=>?_,λi j a hi D e1 f=>?_⟩;·obtain ⟨v,a,b⟩:=h1 i d (jL.mp e) (by simpa using hi);exact ⟨v,jL.mpr a,b⟩
 ·obtain ⟨v,a,b⟩:=h2 i d (jL.mp e) (by simpa using hi);exact ⟨v,jL.mpr a,b⟩
 ·have q:=yB hi;have hl:i < ds.length:=by lia
  exact ⟨ds[i],jL.mpr (by simp [hl])⟩
 ·exact qb6 (n:=0) nd (by simpa using hi) (by simpa using D) (jL.mp e1) (jL.mp f)
theorem qb7:OA (jZ 0 ms) (yo N vs) b↔LA ms vs b:=by
 constructor;·rintro ⟨i,hi,e⟩;exact GC (n:=0) (by simpa using hi) (jL.mp e)
 ·intro h;obtain ⟨j,h1,h2⟩:=GD (n:=0) h;exact ⟨j,by simpa using h1,jL.mpr h2⟩
noncomputable def jM (ρ:Sl):Nat->List PM->List D
 | _,[]=>[]
 | n,.io::ms=>((ρ[n]?).getD iQ).getD .non::jM ρ (n+1) ms
 | n,_::ms=>.non::jM ρ (n+1) ms
theorem qer {σ:St} {N:List Str}:∀ {ms:List PM} {vs:List V} {n:Nat},vs.length=ms.length->(∀ i∈Wv n ms,∃ d a,ρ[i]?=iO (iO d)/\vs[i - n]?=iO (V.ref a)/\F a=iQ/\OwnIs K F H a d)->uD K F H ms vs (jM ρ n ms):=by
 intro ms
 induction ms with
 | nil=>intro vs n _ _; trivial
 | cons m ms j=>
  intro vs n hl h;cases vs with
  | nil=>simp at hl
  | cons v vs=>
   have rest:(∀ i∈Wv (n+1) ms,i∈Wv n (m::ms))->uD K F H ms vs (jM ρ (n+1) ms):=λhs=>by refine j (by simpa using hl) λi hi=>?_;obtain ⟨d,a,e1,e,E⟩:=h i (hs i hi);have q:=yB (qb5 hi);refine ⟨d,a,e1,?_,E⟩;rw [show i - n=(i - (n+1))+1 by lia] at e;simpa using e
   cases m with
   | val=>exact rest λi hi=>hi
   | io=>obtain ⟨d,a,e1,e,E⟩:=h n (af.mpr (.inl rfl));refine ⟨⟨a,by simpa using e,E.1,?_⟩,rest λi hi=>ae _ hi⟩;rw [e1];exact E.2
   | tk=>exact rest λi hi=>hi
noncomputable def Fl.val:Fl->Option D
 | .nx=>iO .non
 | .rt d=>iO d
 | _=>iQ
noncomputable def jN (N:List Str) (ms:List PM) (f:qK) (ds:List D):Out (D×List D):=match f (qp N ds) with
 | .ok (.nx,ρ)=>.ok (.non,jM ρ 0 ms)
 | .ok (.rt d,ρ)=>.ok (d,jM ρ 0 ms)
 | .ok _=>.bad
 | .exc c ρ=>.exc c ((jM ρ 0 ms).map iO)
 | .bad=>.bad
theorem Yi:∀ (l:List D),(l.map iO).map (λx:Option D=>x.getD .non)=l
 | []=>rfl
 | a::l=>congrArg (a::·) (Yi l)
def Out.le {α:Type} (a b:Out α):Prop:=a=.bad\/a=b
theorem qes {f:qK} {Q:VK} {o:Out (D×List D)} (j:C.io=Wv 0 ms) (l:C.ox=C.io) (hmr:C.mr=.sh\/∀ ρ,(f (qp N ds))≠.ok (.nx,ρ)) (g:∀ i∈Wv 0 ms,i∈own') (y:Same F H) (r:ArgsIs C.K F H ms vs ds) (nd:(yA ms vs).Nodup)
  (G:Out.le o (jN N ms f ds)) (h:PoG C.K C.cv ms C.mr vs F H Q C.E o):tSt C (jZ 0 ms) own' f { nx:=λ_ H'=>Q .non H',rt:=Q } (yo N vs) H:=by
 refine ⟨F,qp N ds,GE y r nd,?_⟩;have hl:=r.length.1;have ch:∀ {F' H'},Chg (OA (jZ 0 ms) (yo N vs)) F H F' H'->Chg (LA ms vs) F H F' H':=λc=>c.mono λx z=>qb7.mp z;have b:∀ {σ':St} {ρ':Sl} {F' H':Hp},XM C.K C.io F' H' σ' ρ'->(∀ i∈C.io,σ'[i]?=(yo N vs)[i]?)->uD C.K F' H' ms vs (jM ρ' 0 ms):=λ{σ' ρ' F' H'} io e=>by
  refine qer (N:=N) (σ:=σ') hl λi hi=>?_;have k:i∈C.io:=by rw [j]; exact hi
  obtain ⟨d,a,e1,m,w⟩:=io i k;refine ⟨d,a,e1,?_,w⟩;rw [e i k] at m;exact jL.mp m
 rcases G with e | e;·subst e; exact h.elim
 ·subst e;unfold jN at h;cases q:f (qp N ds) with
  | ok p=>
   rw [q] at h;obtain ⟨u,ρ'⟩:=p;cases u with
   | nx=>have t:C.mr=.sh:=hmr.resolve_right λz=>z ρ' q;exact λσ' F' H' n=>h .non F' H' n.rep.sub (ch n.chg) (b (n.rep.ioIs (by rw [j]; exact g)) n.io) (by rw [t]; exact .non)
   | rt d=>exact λv σ' F' H' s io c e mo=>h v F' H' s (ch c) (b io e) mo
   | bk=>exact h.elim
   | ct=>exact h.elim
  | exc c ρ'=>rw [q] at h;exact λF' H' s io S=>h F' H' s (ch S) (by rw [Yi]; exact b (σ':=yo N vs) (by rw [<-l]; exact io) λ_ _=>rfl)
  | bad=>rw [q] at h; exact h.elim
def qfG (K:Frag) (cv:Str->iR) (E:XK) (ms:List PM) (mr:Mo):Ct:=⟨K,cv,E,Wv 0 ms,mr,[],Wv 0 ms,λ_ h=>h⟩
theorem qhW {P:i7} {w:i8} {K:Frag} {mg:Str->Option iR} {base:Heap} {CX:CXT} {x qual:Str} {st:Stmt} {f:Addr} {fd:lV} {N ps:List Str} {k:Nat} {cv:Str->iR} {ms:List PM} {mr:Mo} {own':List Nat} {fb:qK} {G:jy}
  (F:Fun K x qual st f fd) (S:FnScope N ps (qx st)) (hl:ms.length=ps.length) (g:∀ i∈Wv 0 ms,i∈own') (hmr:mr=.sh\/∀ ds ρ,(fb (qp N ds))≠.ok (.nx,ρ))
  (a:∀ (cdv:iR) (A:j9) (outer:List Env) (s:iU) (H:Hp) (E:XK),Room k (A.deeper (mL qual (qx st) s.heap.objs.size f cdv)) ->PSs (qd2 CX P w K mg base N qual (qx st) f cdv A outer s H E) (ka st) (tSt (qfG K cv E ms mr) (jZ 0 ms) own' fb))
  (b:∀ ds,Out.le (G ds) (jN N ms fb ds)):FnOk P w K mg base CX (k+1) f fd ps (spD K cv ms mr G):=by
 obtain ⟨oc,od,kV,doc,pm,an,cdv,ct,osl,rfl,j,d⟩:=F.ex;refine qiJ j d S (λvs H Q E h=>?_) λA outer s H vs Q E c p=>?_;·obtain ⟨F,ds,_,r,_⟩:=h;rw [r.length.1,hl]
 ·obtain ⟨F1,ds,y,r,nd,h⟩:=p;refine ⟨_,a cdv A outer s H E c,?_⟩;exact qes (C:=qfG K cv E ms mr) rfl rfl (hmr.imp id λz ρ=>z ds ρ) g y r nd (b ds) h
noncomputable def xj:AK->PM
 | .vl=>.val
 | .sl _=>.io
 | .fr=>.tk
noncomputable def kF:List AK->List D->Sl->Option (List D)
 | [],[],_=>iO []
 | .sl i::as,_::ds,ρ=>match ρ[i]? with
  | some (iO d)=>(kF as ds ρ).map (d::·)
  | _=>iQ
 | .vl::as,d::ds,ρ=>(kF as ds ρ).map (d::·)
 | .fr::as,d::ds,ρ=>(kF as ds ρ).map (d::·)
 | _,_,_=>iQ
noncomputable def zD:List AK->List D->Sl->Sl
 | .sl i::as,d::outs,ρ=>zD as outs (ρ.set i (iO d))
 | _::as,_::outs,ρ=>zD as outs ρ
 | _,_,ρ=>ρ
noncomputable def qR:List AK->List Nat
 | []=>[]
 | .sl i::as=>i::qR as
 | _::as=>qR as
noncomputable def frA:List AK->Nat
 | []=>0
 | .fr::as=>frA as+1
 | _::as=>frA as
section
theorem yC:∀ {as:List AK} {vs:List V} {ds f:List D},Rep K own F H σ ρ->(∀ i∈qR as,i∈own)->ArgV K H0 F H σ as vs ds->kF as ds ρ=iO f->ArgsIs K F H (as.map xj) vs f
 | [],vs,ds,f,rp,hs,av,e=>by cases vs <;> cases ds <;> first | exact av.elim | (simp [kF] at e; subst e; trivial)
 | a::as,[],ds,f,rp,hs,av,e=>by cases a <;> exact av.elim
 | a::as,v::vs,[],f,rp,hs,av,e=>by cases a <;> exact av.elim
 | .vl::as,v::vs,d::ds,f,rp,hs,av,e=>by
  cases q:kF as ds ρ with
  | none=>simp [kF,q] at e
  | some l=>
   have e:d::l=f:=by simpa [kF,q] using e
   subst e;exact ⟨av.1,yC rp hs av.2 q⟩
 | .fr::as,v::vs,d::ds,f,rp,hs,av,e=>by
  cases q:kF as ds ρ with
  | none=>simp [kF,q] at e
  | some l=>
   have e:d::l=f:=by simpa [kF,q] using e
   subst e;obtain ⟨a,h1,_,h2,h3⟩:=av.1;exact ⟨⟨a,h1,h2,h3⟩,yC rp hs av.2 q⟩
 | .sl i::as,v::vs,d::ds,f,rp,hs,av,e=>by
  obtain ⟨h1,_,b⟩:=av;have hi:i∈own:=hs i (af.mpr (.inl rfl));obtain ⟨d',hd⟩:=rp.opn i hi;obtain ⟨a,e1,c,E⟩:=rp.ow i d' hi hd;rw [h1] at e1;cases e1;cases q:kF as ds ρ with
  | none=>simp [kF,q,hd] at e
  | some l=>
   have e:d'::l=f:=by simpa [kF,q,hd] using e
   subst e;exact ⟨⟨a,rfl,c,E⟩,yC rp (λj h=>hs j (ae _ h)) b q⟩
theorem va:∀ {as:List AK} {vs:List V} {ds:List D} {b:Addr},ArgV K H0 F H σ as vs ds->b∈yA (as.map xj) vs->(∃ i∈qR as,σ[i]?=iO (iO (V.ref b)))\/(H0 b=iQ/\frA as≠0/\H b≠iQ/\F b=iQ)
 | [],vs,ds,b,av,h=>by cases vs <;> simp [yA] at h
 | a::as,[],ds,b,av,h=>by cases a <;> exact av.elim
 | a::as,v::vs,[],b,av,h=>by cases a <;> exact av.elim
 | .vl::as,v::vs,d::ds,b,av,h=>by
  have h:b∈yA (as.map xj) vs:=by cases v <;> exact h
  exact va (as:=as) av.2 h
 | .fr::as,v::vs,d::ds,b,av,h=>by
  obtain ⟨⟨a,rfl,h0,E,o⟩,c⟩:=av;have h:b∈a::yA (as.map xj) vs:=h;rcases af.mp h with e | h;·subst e; exact .inr ⟨h0,by simp [frA],o.there,E⟩
  ·rcases va c h with z | ⟨z,_,z2⟩
   ·exact .inl z
   ·exact .inr ⟨z,by simp [frA],z2⟩
 | .sl i::as,v::vs,d::ds,b,av,h=>by
  obtain ⟨h1,_,c⟩:=av;have up:b∈yA (as.map xj) vs->(∃ j∈qR (.sl i::as),σ[j]?=iO (iO (V.ref b)))\/(H0 b=iQ/\frA (.sl i::as)≠0/\H b≠iQ/\F b=iQ):=λh=>by
   rcases va c h with ⟨j,hj,e⟩ | z;·exact .inl ⟨j,ae _ hj,e⟩
   ·exact .inr z
  cases v with
  | ref a=>
   have h:b∈a::yA (as.map xj) vs:=h;rcases af.mp h with e | h;·subst e; exact .inl ⟨i,af.mpr (.inl rfl),h1⟩
   ·exact up h
  | _=>exact up h
theorem uj:∀ {as:List AK} {vs:List V} {ds:List D},Rep K own F H σ ρ->(∀ x,OA own σ x->H0 x≠iQ)->(∀ i∈qR as,i∈own)->(qR as).Nodup->frA as<=1->ArgV K H0 F H σ as vs ds->(yA (as.map xj) vs).Nodup
 | [],vs,ds,rp,h0,hs,nd,hf,av=>by cases vs <;> simp [yA]
 | a::as,[],ds,rp,h0,hs,nd,hf,av=>by cases a <;> exact av.elim
 | a::as,v::vs,[],rp,h0,hs,nd,hf,av=>by cases a <;> exact av.elim
 | .vl::as,v::vs,d::ds,rp,h0,hs,nd,hf,av=>by have q:=uj (as:=as) rp h0 hs nd hf av.2;cases v <;> exact q
 | .fr::as,v::vs,d::ds,rp,h0,hs,nd,hf,av=>by
  have g:frA as=0:=by simp only [frA] at hf; lia
  obtain ⟨⟨a,rfl,hz,E,o⟩,b⟩:=av;show (a::yA (as.map xj) vs).Nodup;refine aT.mpr ⟨λz=>?_,uj rp h0 hs nd (by lia) b⟩;rcases va b z with ⟨i,hi,e⟩ | ⟨_,n,_⟩
  ·exact h0 a ⟨i,hs i hi,e⟩ hz
  ·exact n g
 | .sl i::as,v::vs,d::ds,rp,h0,hs,nd,hf,av=>by
  obtain ⟨h1,_,b⟩:=av;have h:∀ j∈qR as,j∈own:=λj c=>hs j (ae _ c);have hi:i∈own:=hs i (af.mpr (.inl rfl));obtain ⟨k,f⟩:=aT.mp nd;have q:=uj rp h0 h f hf b;cases v with
  | ref a=>
   show (a::yA (as.map xj) vs).Nodup;refine aT.mpr ⟨λz=>?_,q⟩;rcases va b z with ⟨j,c,e⟩ | ⟨n,_⟩
   ·exact k (by rw [rp.dis i j a hi (h j c) h1 e]; exact c)
   ·exact h0 a ⟨i,hi,h1⟩ n
  | _=>exact q
theorem vX:∀ {as:List AK} {b:List D} {ρ:Sl} {i:Nat},i∉qR as->(zD as b ρ)[i]?=ρ[i]?
 | [],b,ρ,i,h=>by cases b <;> rfl
 | a::as,[],ρ,i,h=>by cases a <;> rfl
 | .vl::as,d::b,ρ,i,h=>vX (as:=as) h
 | .fr::as,d::b,ρ,i,h=>vX (as:=as) h
 | .sl j::as,d::b,ρ,i,h=>by
  have h':i≠j/\i∉qR as:=by simpa [qR] using h
  show (zD as b (ρ.set j (iO d)))[i]?=_;rw [vX h'.2,aw (bb h'.1)]
theorem zE:∀ {as:List AK} {b:List D} {ρ:Sl},(zD as b ρ).length=ρ.length
 | [],b,ρ=>by cases b <;> rfl
 | a::as,[],ρ=>by cases a <;> rfl
 | .vl::as,d::b,ρ=>zE (as:=as)
 | .fr::as,d::b,ρ=>zE (as:=as)
 | .sl j::as,d::b,ρ=>by show (zD as b (ρ.set j (iO d))).length=_;rw [zE,fD]
theorem Jy {F' H':Hp}:∀ {as:List AK} {vs:List V} {ds b:List D} {ρ:Sl},(qR as).Nodup->(∀ i∈qR as,i < ρ.length)->ArgV K H0 F H σ as vs ds->uD K F' H' (as.map xj) vs b->∀ i∈qR as,∃ d a,(zD as b ρ)[i]?=iO (iO d)/\σ[i]?=iO (iO (V.ref a))/\F' a=iQ/\OwnIs K F' H' a d
 | [],vs,ds,b,ρ,nd,hl,av,o,i,hi=>by simp [qR] at hi
 | a::as,[],ds,b,ρ,nd,hl,av,o,i,hi=>by cases a <;> exact av.elim
 | a::as,v::vs,[],b,ρ,nd,hl,av,o,i,hi=>by cases a <;> exact av.elim
 | a::as,v::vs,d::ds,[],ρ,nd,hl,av,o,i,hi=>by cases a <;> exact o.elim
 | .vl::as,v::vs,d::ds,u::b,ρ,nd,hl,av,o,i,hi=>Jy (as:=as) nd hl av.2 o i hi
 | .fr::as,v::vs,d::ds,u::b,ρ,nd,hl,av,o,i,hi=>Jy (as:=as) nd hl av.2 o i hi
 | .sl j::as,v::vs,d::ds,u::b,ρ,nd,hl,av,o,i,hi=>by
  obtain ⟨f,n⟩:=aT.mp nd;obtain ⟨h1,_,c⟩:=av;obtain ⟨⟨a,e,E,ow⟩,o2⟩:=o;subst e;rcases af.mp hi with e | hi;·subst e;refine ⟨u,a,?_,h1,E,ow⟩;show (zD as b (ρ.set i (iO u)))[i]?=_;rw [vX f,aI (hl i (af.mpr (.inl rfl)))]
  ·exact Jy (as:=as) (ρ:=ρ.set j (iO u)) n (λk h=>by rw [fD]; exact hl k (ae _ h)) c o2 i hi
end
noncomputable def qr (as:List AK) (G:jy) (fr:wq):qZ:=λρ=>(fr ρ).bind λp=>match kF as p.1 p.2 with
 | some ds=>match G ds with
  | .ok q=>.ok (q.1,zD as q.2 p.2)
  | .exc c o=>.exc c (zD as (o.map (·.getD .non)) p.2)
  | .bad=>.bad
 | none=>.bad
variable {mr:Mo} {f:Addr} {ps:List Str}
section
variable {G:jy} {fr:wq}
theorem Yj {F' H':Hp} {b:List D} (r:Rep C.K own F H σ ρ) (h0:∀ x,OA own σ x->H0 x≠iQ) (hs:∀ i∈qR as,i∈own) (nd:(qR as).Nodup) (f:ArgV C.K H0 F H σ as vs ds)
  (y:Same F' H') (c:Chg (LA (as.map xj) vs) F H F' H') (o:uD C.K F' H' (as.map xj) vs b):Rep C.K own F' H' σ (zD as b ρ):=by
 have pin:=Jy (ρ:=ρ) nd (λi hi=>by obtain ⟨d,e⟩:=r.opn i (hs i hi);exact (aE.mp e).1) f o;refine ⟨y,by rw [zE]; exact r.len,λi d hi e=>?_,λi d hi e=>?_,λi hi=>?_,r.dis⟩;·rw [vX (λz=>hi (hs i z))] at e;obtain ⟨v,h1,h2⟩:=r.val i d hi e;exact ⟨v,h1,h2.mono c.grow⟩
 ·by_cases q:i∈qR as;·obtain ⟨d',a,e1,m,E,k⟩:=pin i q;rw [e1] at e;cases e;exact ⟨a,m,E,k⟩
  ·rw [vX q] at e;obtain ⟨a,h1,h2,h3⟩:=r.ow i d hi e;have l:¬LA (as.map xj) vs a:=λz=>by
    rcases va f z with ⟨j,h,p⟩ | ⟨n,_⟩
    ·exact q (by rw [r.dis i j a hi (hs j h) h1 p]; exact h)
    ·exact h0 a ⟨i,hi,h1⟩ n
   refine ⟨a,h1,?_,h3.grow c.grow λo' g=>c.keep a o' g l⟩;cases g:F' a with
   | none=>rfl
   | some u=>
    rcases c.new a (by rw [g]; simp) with z | z | z;·exact absurd h2 z
    ·exact absurd z h3.there
    ·exact absurd z l
 ·by_cases q:i∈qR as;·obtain ⟨d',a,e1,_⟩:=pin i q;exact ⟨d',e1⟩
  ·rw [vX q];exact r.opn i hi
theorem GG {Q:VK} (l:∀ i∈C.ox,i∈own) (hs:∀ i∈qR as,i∈own) (nd:(qR as).Nodup) (m:frA as<=1) (h:tE C own mr (qr as G fr) σ H Q):tAr C own as fr σ H λvs H1=>spD C.K C.cv (as.map xj) mr G (vs++[]) H1 Q C.E:=by
 obtain ⟨F,ρ,r,h⟩:=h;have h0:∀ x,OA own σ x->H x≠none:=λx z=>(r.OA_there z).1;refine ⟨F,ρ,r,?_⟩;unfold qr at h;cases k:fr ρ with
 | ok p=>
  rw [k] at h;obtain ⟨ds,ρ1⟩:=p;intro vs F1 H1 a c1 g;rw [bv];have h1:Po C own mr σ F H (match kF as ds ρ1 with | some ds=>(match G ds with | .ok q=>.ok (q.1,zD as q.2 ρ1) | .exc c o=>.exc c (zD as (o.map (·.getD .non)) ρ1) | .bad=>.bad) | none=>.bad) Q:=h;cases q:kF as ds ρ1 with
  | none=>simp only [q] at h1; exact h1.elim
  | some f=>
   simp only [q] at h1;have lo:∀ x,LA (as.map xj) vs x->OA own σ x\/H x=none:=λx z=>by
    rcases va g z with ⟨i,hi,e⟩ | ⟨n,_⟩
    ·exact .inl ⟨i,hs i hi,e⟩
    ·exact .inr n
   refine ⟨F1,f,a.sub,yC a hs g q,uj a h0 hs nd m g,?_⟩;cases j:G f with
   | ok p=>rw [j] at h1;obtain ⟨d,b⟩:=p;exact λv F' H' y c o mo=>h1 v F' H' (Yj a h0 hs nd g y c o) (c1.trans c lo) (MoIs.back (Ha:=H1) c1 mo)
   | exc x o=>rw [j] at h1; exact λF' H' y c b=>h1 F' H' y ((Yj a h0 hs nd g y c b).ioIs l) (c1.trans c lo)
   | bad=>rw [j] at h1; exact h1.elim
 | exc c=>rw [k] at h; exact h
 | bad=>rw [k] at h; exact h.elim
theorem qet {CX:CXT} {k:Nat} {fd:lV} {p pos:Pos} (F:FnOk X.prog X.w X.K X.mg X.base CX k f fd ps (spD C.K C.cv ms mr G)) (c:Room k X.A) (hg:Gl X x) (m:X.mg x=iO (.ref f)) (a:l8 X.K (.ref f)=iT) (j:Binds X.K fd ps []) (hx:ky CX X C.E)
  (n:PA X (e::es) (tAr C own as fr)) (s:ms=as.map xj:=by rfl) (hs:∀ i∈qR as,i∈own:=by decide) (nd:(qR as).Nodup:=by decide) (d:frA as<=1:=by decide) (o:∀ i∈C.ox,i∈own:=by exact kj rfl) (b:Dbg x:=by decide) (g:iX (e::es) X.env=(iS,eval e X.env)::iX es X.env:=by exact jl rfl)
  (l:(li pos (iX es X.env)).any (·.1)=false:=by exact ug rfl):PE X (.Call (.Name x p) (e::es) [] pos) (tE C own mr (qr as G fr)):=by
 subst s;exact jz (qdZ F c hg m a j .nil hx n b g l) λσ H Q h=>GG o hs nd d h
end
structure ItIs (K:Frag) (F:Hp) (J:It) (ds:List D):Prop where
 go:∀ i H,i < ds.length->Same F H->J.go i H
 yld:∀ i Fi H x H' d,ds[i]?=iO d->Same F Fi->Same Fi H->J.yld i H x H'->∃ F',Chg No Fi H F' H'/\Same F' H'/\Is K F' x d
 stop:∀ i H,ds.length<=i->Same F H->J.stop i H
def PoI (C:Ct) (own:List Nat) (σ:St) (F H:Hp) (r:Out (List D×Sl)) (R:It->Hp->Prop):Prop:=match r with
 | .ok (ds,ρ')=>∀ J F' H',Rep C.K own F' H' σ ρ'->Chg (OA own σ) F H F' H'->ItIs C.K F' J ds->R J H'
 | .exc c ρ'=>∀ F' H',Same F' H'->XM C.K C.ox F' H' σ ρ'->Chg (OA own σ) F H F' H'->C.E (C.cv c) iQ H'
 | .bad=>False
def tIt (C:Ct) (own:List Nat) (f:wq):TI:=λσ H R=>∃ F ρ,Rep C.K own F H σ ρ/\PoI C own σ F H (f ρ) R
noncomputable def Qz:D->Out (List D)
 | .lst xs=>.ok xs
 | .tup xs=>.ok xs
 | _=>.bad
noncomputable def qko (f:qZ):wq:=λρ=>(f ρ).bind λp=>(Qz p.1).bind λds=>.ok (ds,p.2)
theorem PoI.bindV {m:Mo} {o:KZ} {k:D×Sl->Out (List D×Sl)} {Q:It->Hp->Prop} {R:VK} (hp:PoI C own σ F H (o.bind k) Q)
  (h:∀ v F1 H1 d ρ1,Rep C.K own F1 H1 σ ρ1->Chg (OA own σ) F H F1 H1->MoIs C.K m H F1 H1 v d->PoI C own σ F H (k (d,ρ1)) Q->R v H1):Po C own m σ F H o R:=by
 cases o with
 | ok p=>exact λv F1 H1 a c mo=>h v F1 H1 p.1 p.2 a c mo hp
 | exc x=>exact hp
 | bad=>exact hp.elim
variable {tg iter:Expr} {xs:List V} {gs:List D->Sl->Out Sl}
section
variable {f:qZ}
theorem qb8 {t t':TI} (h:PI X tg e t) (i:∀ σ H Q,t' σ H Q->t σ H Q):PI X tg e t':=⟨λpins s σ H R I hw=>h pins s σ H R I (i σ H R hw)⟩
theorem qgD (p:SqL K F a xs) (t:IsL K F xs ds):ItIs K F (Itl K a) ds where
 go:=λi H hi s=>by
  have hx:i < xs.length:=by rw [t.length]; exact hi
  exact ⟨xs,xs[i],s.seq p,by simp [hx]⟩
 yld:=λi Fi H x H' d e s1 s2 y=>by obtain ⟨rfl,y⟩:=y;obtain ⟨v,h1,h2⟩:=t.getD e;have q:=y xs ((s1.trans s2).seq p);rw [h1] at q;cases q;exact ⟨Fi,.refl,s2,h2.mono s1⟩
 stop:=λi H hi s=>⟨xs,s.seq p,by rw [t.length]; exact hi⟩
theorem qgE (p:SqT K F a xs) (t:IsL K F xs ds):ItIs K F (Itt K a) ds where
 go:=λi H hi s=>by
  have hx:i < xs.length:=by rw [t.length]; exact hi
  exact ⟨xs,xs[i],jg s p,by simp [hx]⟩
 yld:=λi Fi H x H' d e s1 s2 y=>by obtain ⟨rfl,y⟩:=y;obtain ⟨v,h1,h2⟩:=t.getD e;have q:=y xs (jg (s1.trans s2) p);rw [h1] at q;cases q;exact ⟨Fi,.refl,s2,h2.mono s1⟩
 stop:=λi H hi s=>⟨xs,jg s p,by rw [t.length]; exact hi⟩
noncomputable def QA (lo:Int) (n:Nat):List D:=(aK n).map λk=>.int (lo+(k:Nat))
theorem qdc {lo:Int}:ItIs K F (Itr lo n) (QA lo n) where
 go:=λi H hi _=>by
  have:i < n:=by simpa [QA] using hi
  exact this
 yld:=λi Fi H x H' d e s1 s2 y=>by
  obtain ⟨rfl,rfl⟩:=y;have e:d=.int (lo+i):=by
   unfold QA at e;rw [aF] at e;cases q:(aK n)[i]? with
   | none=>rw [q] at e; cases e
   | some k=>
    rw [q] at e;have h:k=i:=by have:=aE.mp q;obtain ⟨_,z⟩:=this;simpa using z.symm
    subst h;exact (aM.inj e).symm
  subst e;exact ⟨Fi,.refl,s2,.int _⟩
 stop:=λi H hi _=>by
  have:n<=i:=by simpa [QA] using hi
  exact this
noncomputable def vb (f:qZ):wq:=λρ=>(f ρ).bind λp=>match p.1 with
 | .int j=>if -(2 ^ 62)<=j/\j < 2 ^ 62 then .ok (QA 0 j.toNat,p.2) else .bad
 | _=>.bad
theorem xl {p:Pos} (hg:Gl X "range") (b:X.mg "range"=iQ) (h:PE X e (tE C own m f)) (hs:iX [e] X.env=[(iS,eval e X.env)]:=by exact qE rfl):PI X tg (.Call (.Name "range" p) [e] [] pos) (tIt C own (vb f)):=by
 refine qb8 (ZO hg b (qJ h jK hs) hs) λσ H R ⟨F,ρ,r,h⟩=>⟨F,ρ,r,PoI.bindV h λv F1 H1 d ρ1 a c1 c h1=>?_⟩
 cases d with
 | int j=>
  obtain rfl:=c.top.int;have h1:PoI C own σ F H (if -(2 ^ 62)<=j/\j < 2 ^ 62 then .ok (QA 0 j.toNat,ρ1) else .bad) R:=h1;by_cases z:-(2 ^ 62)<=j/\j < 2 ^ 62;·rw [Aa z] at h1;exact ⟨j,rfl,z.1,z.2,h1 _ F1 H1 a c1 qdc⟩
  ·rw [Ab z] at h1; exact h1.elim
 | _=>exact h1.elim
def tGd (C:Ct) (own:List Nat) (g:D->Sl->Out Sl):TG:=λv σ H Q=>∃ F ρ d,Rep C.K own F H σ ρ/\Is C.K F v d/\∃ ρ',g d ρ=.ok ρ'/\∀ σ',Rep C.K own F H σ' ρ'->(∀ b,OA own σ' b->OA own σ b)->(∀ i∈C.io,σ'[i]?=σ[i]?)->Q σ' H
def qhX (C:Ct) (own:List Nat) (g:List D->Sl->Out Sl):TGs:=λvs σ H Q=>∃ F ρ ds,Rep C.K own F H σ ρ/\IsL C.K F vs ds/\∃ ρ',g ds ρ=.ok ρ'/\∀ σ',Rep C.K own F H σ' ρ'->(∀ b,OA own σ' b->OA own σ b)->(∀ i∈C.io,σ'[i]?=σ[i]?)->Q σ' H
theorem qgF {t t':TG} (h:PG X e t) (i:∀ v σ H Q,t' v σ H Q->t v σ H Q):PG X e t':=⟨λpins s σ H v u Q I r hw=>h pins s σ H v u Q I r (i v σ H Q hw)⟩
theorem qdd {t t':TGs} (h:PGs X es t) (i:∀ v σ H Q,t' v σ H Q->t v σ H Q):PGs X es t':=⟨λpins s σ H v u Q I r hw=>h pins s σ H v u Q I r (i v σ H Q hw)⟩
noncomputable def gNm (i:Nat):D->Sl->Out Sl:=λd ρ=>if i < ρ.length then .ok (ρ.set i (iO d)) else .bad
theorem QS {own:List Nat} (h:i∉own):vF own [i]=own:=by unfold vF;rw [List.filter_eq_self];intro j D;simp only [ax,decide_eq_true_eq];exact λz=>h (by rw [<-z]; exact D)
theorem Yk (c:X.N.Nodup) (hi:X.N[i]?=iO x) (hx:Loc X.env.scope x) (l:i∉own:=by decide) (o:i∉C.io:=by exact yr rfl) (h:X.fn x=iT\/X.env.scope.names.lookup x=iO .local:=by first | exact .inl rfl | exact .inr rfl):PG X (.Name x pos) (tGd C own (gNm i)):=by
 refine qgF (qdR c hi hx h) λv σ H Q ⟨F,ρ,d,a,is,ρ',e,k⟩=>?_;unfold gNm at e;by_cases z:i < ρ.length
 ·rw [Aa z] at e;cases e;have r2:=a.put z is;rw [QS l] at r2;refine k _ r2 (λb q=>?_) λj D=>aw λq=>o (by rw [q]; exact D);have g:OA (vF own [i]) (σ.set i (iO v)) b:=by rw [QS l]; exact q
  exact g.put
 ·rw [Ab z] at e; cases e
noncomputable def zm:List D->Sl->Out Sl
 | [],ρ=>.ok ρ
 | _::_,_=>.bad
noncomputable def jR (g:D->Sl->Out Sl) (gs:List D->Sl->Out Sl):List D->Sl->Out Sl
 | d::ds,ρ=>(g d ρ).bind λρ1=>gs ds ρ1
 | [],_=>.bad
theorem Yl:PGs X [] (qhX C own zm):=by
 refine qdd qdS λvs σ H Q ⟨F,ρ,ds,a,is,ρ',e,k⟩=>?_;cases is with
 | nil=>cases e; exact ⟨rfl,k σ a (λ_ z=>z) λ_ _=>rfl⟩
 | cons _ _=>cases e
theorem yD {g:D->Sl->Out Sl} (h1:PG X e (tGd C own g)) (h2:PGs X es (qhX C own gs)) (hs:(lS (e::es) X.env).map (·.2)=assign e X.env::(lS es X.env).map (·.2):=by rfl):PGs X (e::es) (qhX C own (jR g gs)):=by
 refine qdd (qbG h1 h2 hs) λvs σ H Q ⟨F,ρ,ds,p,is,ρ',e,k⟩=>?_;cases is with
 | nil=>cases e
 | @cons v d vs ds a t=>
  have e:(g d ρ).bind (λρ1=>gs ds ρ1)=.ok ρ':=e;cases q:g d ρ with
  | ok ρ1=>rw [q] at e;exact ⟨v,vs,rfl,F,ρ,d,p,a,ρ1,q,λσ1 h j m=>⟨F,ρ1,ds,h,t,ρ',e,λf r o l=>k f r (λb z=>j b (o b z)) λi hi=>(l i hi).trans (m i hi)⟩⟩
  | exc c=>rw [q] at e; cases e
  | bad=>rw [q] at e; cases e
noncomputable def zn (n:Nat) (gs:List D->Sl->Out Sl):D->Sl->Out Sl
 | .tup ds,ρ=>if ds.length=n then gs ds ρ else .bad
 | _,_=>.bad
theorem GH {k:Nat} (m:C.K=X.K) (f:X.calm=iT) (h:PGs X es (qhX C own gs)) (b:(lS es X.env).length=n:=by rfl) (c:(lS es X.env).findIdx? (·.1)=none:=by rfl):PG X (.Tuple es k pos) (tGd C own (zn n gs)):=by
 refine qgF (qf4 f h b c) λv σ H Q ⟨F,ρ,d,r,is,ρ',e,k⟩=>?_;cases is with
 | @tup a xs ds p t=>
  have e:(if ds.length=n then gs ds ρ else .bad)=.ok ρ':=e;by_cases z:ds.length=n;·rw [Aa z] at e;exact ⟨a,xs,rfl,by rw [<-m]; exact jg r.sub p,by rw [t.length]; exact z,F,ρ,ds,r,t,ρ',e,k⟩
  ·rw [Ab z] at e; cases e
 | _=>cases e
noncomputable def qkp (fe:qZ) (g:D->Sl->Out Sl):qK:=λρ=>(fe ρ).bind λp=>match g p.1 p.2 with
 | .ok ρ'=>.ok (.nx,ρ')
 | _=>.bad
noncomputable def kC (g:D->Sl->Out Sl) (fb:qK):List D->qK
 | [],ρ=>.ok (.nx,ρ)
 | d::ds,ρ=>(g d ρ).plain.bind λρ1=>(fb ρ1).bind λp=>match p.1 with
  | .nx=>kC g fb ds p.2
  | .ct=>kC g fb ds p.2
  | .bk=>.ok (.nx,p.2)
  | .rt v=>.ok (.rt v,p.2)
noncomputable def Vj (fi:wq) (g:D->Sl->Out Sl) (fb:qK):qK:=λρ=>(fi ρ).bind λp=>kC g fb p.1 p.2
theorem kG {body:List Stmt} {fi:wq} {g:D->Sl->Out Sl} {fb:qK} (hp:PassesOwn (model X.prog X.w) X.A X.env X.xe) (R:X.calm=iT) (hi:PI X tg iter (tIt C own fi)) (hg:PG X tg (tGd C own g))
  (S:PSs X body (tSt { C with ol:=own } own own fb)) (hs:∀ x,lN iter X.env x=pure x:=by intro _; rfl):PS X (.For tg iter body [] pos) (tSt C own own (Vj fi g fb)):=by
 refine Qy (qf6 hp R hi hg S hs) λD σ H ⟨F,ρ,P,h⟩=>⟨F,ρ,P,?_⟩
 unfold Vj at h;cases K:fi ρ with
 | exc c=>rw [K] at h; exact h
 | bad=>rw [K] at h; exact h.elim
 | ok p=>
  rw [K] at h;obtain ⟨ds,ρ1⟩:=p;intro J F1 H1 E c1 it;have h:PoS C own own σ F H (kC g fb ds ρ1) D:=h;refine ⟨λi m σ' H'=>m=ds.length - i/\i<=ds.length/\∃ F' ρ',Nx C own own σ F H ρ' σ' F' H'/\Same F1 F'/\PoS C own own σ' F' H' (kC g fb (ds.drop i) ρ') D,⟨ds.length,by simp,bi _,F1,ρ1,.ofE E c1,Same.refl _,h.shift (.ofE E c1)⟩,?_⟩;rintro i m σ' H' ⟨rfl,Q,F',ρ',nx,gr,po⟩;by_cases t:i < ds.length
  ·have hd:ds.drop i=ds[i]::ds.drop (i+1):=cH t;rw [hd] at po;have po:PoS C own own σ' F' H' ((g ds[i] ρ').plain.bind λρ1=>(fb ρ1).bind λp=>match p.1 with | .nx=>kC g fb (ds.drop (i+1)) p.2 | .ct=>kC g fb (ds.drop (i+1)) p.2 | .bk=>.ok (.nx,p.2) | .rt v=>.ok (.rt v,p.2)) D:=po;refine .inr ⟨it.go i H' t (gr.trans nx.rep.sub),λr H2=>ds.length - (i+1)=ds.length - (i+1)/\i+1<=ds.length/\∃ F' ρ',Nx C own own σ F H ρ' r F' H2/\Same F1 F'/\PoS C own own r F' H2 (kC g fb (ds.drop (i+1)) ρ') D,λr H2 q=>⟨ds.length - (i+1),by omega,q⟩,λx H2 y=>?_⟩;obtain ⟨u,c2,s2,N⟩:=it.yld i F' H' x H2 ds[i] (by simp [t]) gr nx.rep.sub y;cases G:g ds[i] ρ' with
   | exc c=>rw [G] at po; exact po.elim
   | bad=>rw [G] at po; exact po.elim
   | ok ρ2=>
    rw [G] at po;refine ⟨u,ρ',ds[i],nx.rep.grow c2 s2,N,ρ2,G,λk B L O=>⟨u,ρ2,B,?_⟩⟩;have M:Nx C own own σ' F' H' ρ2 k u H2:=⟨B,c2.ofNo,λb z=>.inl (L b z),O⟩
    have a:=PoS.shift (show PoS C own own σ' F' H' ((fb ρ2).bind λp=>match p.1 with | .nx=>kC g fb (ds.drop (i+1)) p.2 | .ct=>kC g fb (ds.drop (i+1)) p.2 | .bk=>.ok (.nx,p.2) | .rt v=>.ok (.rt v,p.2)) D from po) M;have up:∀ {j f l o},Nx { C with ol:=own } own own k u H2 j f l o->Nx C own own k u H2 j f l o:=λz=>⟨z.rep,z.chg,z.oa,z.io⟩
    cases I:fb ρ2 with
    | exc c=>rw [I] at a; exact a
    | bad=>rw [I] at a; exact a.elim
    | ok p=>
     rw [I] at a;obtain ⟨T,j⟩:=p;cases T with
     | nx=>exact λf l o n=>⟨rfl,t,l,j,(nx.then M).then (up n),(gr.trans c2.grow).trans n.chg.grow,PoS.shift (show PoS C own own k u H2 (kC g fb (ds.drop (i+1)) j) D from a) (up n)⟩
     | ct=>exact λf l o n=>⟨rfl,t,l,j,(nx.then M).then (up n),(gr.trans c2.grow).trans n.chg.grow,PoS.shift (show PoS C own own k u H2 (kC g fb (ds.drop (i+1)) j) D from a) (up n)⟩
     | bk=>exact λf l o n=>a f l o (up n)
     | rt d=>exact λv f l o s io c e mo=>a v f l o s io c e mo
  ·have e:i=ds.length:=by omega
   subst e;rw [List.drop_length] at po;exact .inl ⟨it.stop _ H' (ap _) (gr.trans nx.rep.sub),po σ' F' H' (.refl nx.rep)⟩
noncomputable def qS (ft:xf) (fb:qK):Nat->qK
 | 0,_=>.bad
 | n+1,ρ=>(ft ρ).bind λq=>if q.1=iT then (fb q.2).bind λp=>match p.1 with
  | .nx=>qS ft fb n p.2
  | .ct=>qS ft fb n p.2
  | .bk=>.ok (.nx,p.2)
  | .rt v=>.ok (.rt v,p.2)
  else .ok (.nx,q.2)
theorem zZ {body:List Stmt} {ft:xf} {fb:qK} (n:Nat) (hp:PassesOwn (model X.prog X.w) X.A X.env X.xe) (ht:PT X t (tT C own ft)) (y:PSs X body (tSt { C with ol:=own } own own fb)):PS X (.While t body [] pos) (tSt C own own (qS ft fb n)):=by
 refine Qy (qbH hp ht y) λD σ H ⟨F,ρ,x,h⟩=>?_;refine ⟨λm σ' H'=>∃ F' ρ',Rep C.K own F' H' σ' ρ'/\PoS C own own σ' F' H' (qS ft fb m ρ') D,⟨n,F,ρ,x,h⟩,?_⟩;rintro m σ1 H1 ⟨F1,ρ1,l,po⟩;refine ⟨F1,ρ1,l,?_⟩;cases m with
 | zero=>exact po.elim
 | succ m=>
  have po:PoS C own own σ1 F1 H1 ((ft ρ1).bind λq=>if q.1=iT then (fb q.2).bind λp=>match p.1 with | .nx=>qS ft fb m p.2 | .ct=>qS ft fb m p.2 | .bk=>.ok (.nx,p.2) | .rt v=>.ok (.rt v,p.2) else .ok (.nx,q.2)) D:=po;refine PoS.bindT po λj H2 k ρ2 r c2 h2=>?_;cases k with
  | false=>exact h2 σ1 j H2 (.refl r)
  | true=>
   refine ⟨λg u=>∃ F' ρ',Rep C.K own F' u g ρ'/\PoS C own own g F' u (qS ft fb m ρ') D,λg u q=>⟨m,by omega,q⟩,j,ρ2,r,?_⟩;have h2:PoS C own own σ1 j H2 ((fb ρ2).bind λp=>match p.1 with | .nx=>qS ft fb m p.2 | .ct=>qS ft fb m p.2 | .bk=>.ok (.nx,p.2) | .rt v=>.ok (.rt v,p.2)) D:=h2;have up:∀ {a f J b},Nx { C with ol:=own } own own σ1 j H2 a f J b->Nx C own own σ1 j H2 a f J b:=λz=>⟨z.rep,z.chg,z.oa,z.io⟩
   cases o:fb ρ2 with
   | exc c=>rw [o] at h2; exact h2
   | bad=>rw [o] at h2; exact h2.elim
   | ok p=>
    rw [o] at h2;obtain ⟨B,a⟩:=p;cases B with
    | nx=>exact λf J b i=>⟨J,a,i.rep,PoS.shift (show PoS C own own σ1 j H2 (qS ft fb m a) D from h2) (up i)⟩
    | ct=>exact λf J b i=>⟨J,a,i.rep,PoS.shift (show PoS C own own σ1 j H2 (qS ft fb m a) D from h2) (up i)⟩
    | bk=>exact λf J b i=>h2 f J b (up i)
    | rt d=>exact λv f J b s io c e mo=>h2 v f J b s io c e mo
end
noncomputable def KF (cells:List (Str×Addr)):List (Str×lR)->List (Str×Addr)->List (Str×Addr)
 | [],acc=>acc
 | (n,k)::r,acc=>if (k == .free)=iT then KF cells r ((n,(cells.lookup n).getD 0)::acc) else KF cells r acc
variable {env:Env}
theorem wE:∀ (names:List (Str×lR)) (acc:List (Str×Addr)),(∀ x∈names,x.2=.free->∃ c,env.cells.lookup x.1=iO c) ->(forIn names acc λ(x:Str×lR) (cs:List (Str×Addr))=>if (x.2 == bw)=iT then (do let a <-cellOf env x.1; pure (bn ((x.1,a)::cs))) else pure (bn cs):Sem (List (Str×Addr)))=pure (KF env.cells names acc)
 | [],acc,_=>rfl
 | (n,k)::r,acc,h=>by
  rw [cJ];by_cases q:(k == bw)=iT
  ·obtain ⟨c,d⟩:=h (n,k) aj (by simpa using q);have e:cellOf env n=pure c:=by unfold cellOf; rw [d]
   simp only [q,if_true,e];have j:=wE r ((n,c)::acc) (λx hx=>h x (ae _ hx));simp only [KF,q,if_true,d,Option.getD_some];exact j
  ·simp only [q,if_false,KF];exact wE r acc (λx hx=>h x (ae _ hx))
variable {scope:mC}
theorem QT (h:∀ x∈scope.names,x.2=.free->∃ c,env.cells.lookup x.1=iO c):closureFor scope env=pure (KF env.cells scope.names []):=by have:=wE scope.names [] h;unfold closureFor;simp only [bind_pure];exact this
variable {cells:List (Str×Addr)}
theorem uS:∀ {names:List (Str×lR)} {acc:List (Str×Addr)} {x:Str} {c:Addr},(∀ y∈names,y.2=.free->∃ c,cells.lookup y.1=iO c)->(KF cells names acc).lookup x=iO c->cells.lookup x=iO c\/acc.lookup x=iO c
 | [],acc,x,c,_,h=>.inr h
 | (n,k)::r,acc,x,c,hf,h=>by
  unfold KF at h;by_cases q:(k == bw)=iT
  ·rw [Aa q] at h;obtain ⟨S,d⟩:=hf (n,k) aj (by simpa using q);rcases uS (λy B=>hf y (ae _ B)) h with z | z;·exact .inl z
   ·rw [bF] at z;have d:cells.lookup n=iO S:=d;by_cases e:(x == n)=iT
    ·rw [e] at z;simp only [d,Option.getD_some] at z;have:x=n:=by simpa using e
     subst this;rw [d]; exact .inl z
    ·have e:(x == n)=false:=by simpa using e
     rw [e] at z;exact .inr z
  ·rw [Ab q] at h;exact uS (λy B=>hf y (ae _ B)) h
theorem Jz:∀ {names:List (Str×lR)} {acc:List (Str×Addr)} {x:Str},(∃ c,acc.lookup x=iO c)->∃ c,(KF cells names acc).lookup x=iO c
 | [],_,_,h=>h
 | (n,k)::r,acc,x,h=>by
  unfold KF;by_cases q:(k == bw)=iT
  ·rw [Aa q];refine Jz ?_;obtain ⟨c,d⟩:=h;rw [bF];by_cases e:(x == n)=iT;·rw [e]; exact ⟨_,rfl⟩
   ·have e:(x == n)=false:=by simpa using e
    rw [e]; exact ⟨c,d⟩
  ·rw [Ab q]; exact Jz h
theorem zF:∀ {names:List (Str×lR)} {acc:List (Str×Addr)} {x:Str},(x,bw)∈names->∃ c,(KF cells names acc).lookup x=iO c
 | (n,k)::r,acc,x,h=>by
  unfold KF;rcases af.mp h with e | h
  ·cases e;rw [Aa (by rfl)];refine Jz ?_;rw [bF,beq_self_eq_true];exact ⟨_,rfl⟩
  ·by_cases q:(k == bw)=iT;·rw [Aa q]; exact zF h
   ·rw [Ab q]; exact zF h
noncomputable def jr (X:Cx) (scope:mC) (N:List Str) (fp:List Addr) (L:Addr) (s:iU) (H:Hp):Cx:=
 { X with N:=N,s₀:=s,H₀:=H,env:=compEnvC scope (KF X.env.cells scope.names []) L X.env,outer:=X.stack,stack:=X.stack,ex:=fp,fn:=λ_=>iS,pn:=[],xe:=λ_ _=>False }
structure ScOk (X:Cx) (scope:mC):Prop where
 kind:scope.kind=.function
 nocell:∀ y∈scope.names,y.2≠.cell
 names:∀ y∈scope.names,y.2=.local->scope.names.lookup y.1=iO .local
 free:∀ y∈scope.names,y.2=.free->X.env.kindOf y.1=iO .cell\/X.env.kindOf y.1=iO .free
 frl:∀ y∈scope.names,y.2=.free->scope.names.lookup y.1=iO .free
theorem ul {a:α}:∀ {l:List (Str×α)},l.lookup x=iO a->(x,a)∈l
 | [],h=>by simp at h
 | (n,k)::r,h=>by
  rw [bF] at h;by_cases e:(x == n)=iT
  ·rw [e] at h;have h:iO k=iO a:=h;cases h;have:x=n:=by simpa using e
   subst this;exact aj
  ·have e:(x == n)=false:=by simpa using e
   rw [e] at h;exact ae _ (ul h)
theorem xO {k:lR} (h:(relabel scope env).names.lookup x=iO k) (b:k=.cell\/k=.free) (a:∀ y∈scope.names,y.2≠.cell):(x,bw)∈scope.names:=by
 have m:=ul h;obtain ⟨⟨n,k'⟩,c,e⟩:=aC.mp m;dsimp only at e;by_cases q:(k' == bw&&env.scope.kind == .function&&env.kindOf n == iO .cell)=iT
 ·rw [Aa q] at e;cases e;have:k'=.free:=by rw [aN,aN] at q;simpa using q.1.1
  subst this;exact c
 ·rw [Ab q] at e;cases e;rcases b with rfl | rfl;·exact absurd rfl (a _ c)
  ·exact c
theorem Vk (h:Vis (relabel scope env) x):∃ k,(x,k)∈scope.names:=by
 have go:∀ {k:lR},(relabel scope env).names.lookup x=iO k->∃ k,(x,k)∈scope.names:=λ{k} h=>by
  obtain ⟨⟨n,k'⟩,c,e⟩:=aC.mp (ul h);dsimp only at e;by_cases q:(k' == bw&&env.scope.kind == .function&&env.kindOf n == iO .cell)=iT;·rw [Aa q] at e;cases e;exact ⟨_,c⟩
  ·rw [Ab q] at e;cases e;exact ⟨_,c⟩
 rcases h with h | h | h <;> exact go h
variable {pins:Pns} {σc:St} {s s':iU} {fp:List Addr} {h':Heap}
section
theorem ga (I:Inv X pins σ H s) (S:ScOk X scope):∀ y∈scope.names,y.2=.free->∃ c,X.env.cells.lookup y.1=iO c:=λy B e=>I.ok.has y.1 (S.free y B e)
theorem qb9 (I:Inv X pins σ H s) (S:ScOk X scope) (J:∀ b∈fp,Wu X pins H b) (T:∀ b∈fp,b < s.heap.objs.size) (C:h'.Ns s.heap.objs.size (λ_=>iQ))
  (w:∀ b o,s.heap.get? b=iO o->h'.get? b=iO o) (hl:σc.length=N.length)
  (B:∀ (j:Nat) (x:Str) (v:V),N[j]?=iO x->σc[j]?=iO (iO v)->(∃ k,(x,k)∈scope.names)->∃ i:Nat,X.N[i]?=iO x/\σ[i]?=iO (iO v)/\Vis X.env.scope x/\(x,bw)∈scope.names) {t:Nat} :
  Inv (jr X scope N fp s.heap.objs.size s H) [] σc H { s with heap:=h',toks:=t }:=by
 have G:=ga I S;have cl:∀ x c,(KF X.env.cells scope.names []).lookup x=iO c->X.env.cells.lookup x=iO c:=λx c e=>(uS G e).resolve_right (by simp);have A:∀ b∈fp,b∉frs X.stack:=λb g z=>by
  obtain ⟨f0,f1,f2,_⟩:=J b g;rcases af.mp (I.stkSub b z) with e | e;·exact f1 e
  ·exact f2 e
 refine ⟨⟨I.ok.mod,?_,I.ok.glob,I.ok.blt,ap _,λx y c h1 h2=>I.ok.inj x y c (cl x c h1) (cl y c h2),λx hx=>?_,λx c h=>absurd h (by show ¬(iS=iT); exact bD),I.ok.hd,I.ok.frames,.inl rfl,λb g=>⟨ay (T b g),λx c e z=>?_⟩,I.bs,bu I.ok.bsz I.sz,λb o e g=>?_,A,I.stack,I.stkFree⟩,rfl,I.bare,Un.kept w,⟨_,C,λj x v e1 l Q=>?_⟩,λx c e=>?_,I.hok.fresh (ap _),λx c e=>I.freeC x c (cl x c e),λp hp=>absurd (show p∈([]:Pns) from hp) (by simp),I.hok.kept w,hl⟩;·exact S.kind
 ·refine zF ?_;rcases hx with hx | hx;·exact xO hx (.inl rfl) S.nocell
  ·exact xO hx (.inr rfl) S.nocell
 ·exact (J b g).2.2.2.2.1 x c (cl x c e) z
 ·rcases (J b g).2.2.2.1 with z | z;·exact I.ok.noex b o e z
  ·have D:=aq e;exact absurd (aH D (bu I.ok.bsz z)) (bM _)
 ·obtain ⟨i,g1,Y,W,L⟩:=B j x v e1 l (Vk Q);obtain ⟨m,Z,E⟩:=I.loc;obtain ⟨u,r,look⟩:=E i x v g1 Y W;refine ⟨u,r,?_⟩;obtain ⟨M,f⟩:=zF (cells:=X.env.cells) (acc:=[]) L;have K:=cl x M f;have kd:(jr X scope N fp s.heap.objs.size s H).env.kindOf x=iO .cell\/(jr X scope N fp s.heap.objs.size s H).env.kindOf x=iO .free\/(jr X scope N fp s.heap.objs.size s H).env.kindOf x=iO .local:=by
   rcases Q with z | z | z;·exact .inr (.inr z)
   ·exact .inl z
   ·exact .inr (.inl z)
  rcases look with ⟨k,_⟩ | ⟨k,c,P,z⟩
  ·rcases S.free _ L rfl with q | q;·have q:X.env.kindOf x=iO .cell:=q;rw [k] at q; cases q
   ·have q:X.env.kindOf x=iO .free:=q;rw [k] at q; cases q
  ·rw [K] at P;cases P;obtain ⟨oc,d,a⟩:=z;rcases kd with q | q | q;·exact .inr ⟨.inl q,M,f,⟨oc,w _ _ d,a⟩⟩
   ·exact .inr ⟨.inr q,M,f,⟨oc,w _ _ d,a⟩⟩
   ·refine absurd q ?_;intro q;have R:=ul (show (relabel scope X.env).names.lookup x=iO .local from q);obtain ⟨⟨n,k'⟩,U,e⟩:=aC.mp R;dsimp only at e;by_cases O:(k' == bw&&X.env.scope.kind == .function&&X.env.kindOf n == iO .cell)=iT;·rw [Aa O] at e; cases e
    ·rw [Ab O] at e;cases e;have e1:=S.names _ U rfl;have l:=S.frl _ L rfl;have e1:scope.names.lookup x=iO .local:=e1;have l:scope.names.lookup x=iO .free:=l;rw [e1] at l;cases l
 ·obtain ⟨v,oc,d,a⟩:=I.cell x c (cl x c e);exact ⟨v,oc,w _ _ d,a⟩
theorem qca {H1:Hp} {s1:iU} {L:Addr} (I:Inv X pins σ H s) (h:∀ b∈fp,Wu X pins H b) (J:Inv (jr X scope N fp s.heap.objs.size s H) [] σc H' s') (y:bo s.heap.objs.size s'.heap h'):Inv X pins σ H' { s' with heap:=h' }:=by
 have a:H' s.heap.objs.size=none:=J.free;have ne:∀ b o,s.heap.get? b=iO o->b≠s.heap.objs.size:=λb o e=>ay (aq e);have U:Un (frs X.stack) fp H H' s.heap s'.heap:=J.base;refine I.call' (s':={ s' with heap:=h' }) (ch:=fp) J.os ⟨λb o e n h1 h2=>(y.2 b (ne b o e)).trans (U.keep b o e n h1 h2),λb o e n h1 h2=>?_,U.free,λb o e h2=>?_,U.tups,U.frzs,U.tbls⟩ (λb u e=>?_) J.bare λb f=>?_;·obtain ⟨sl,q⟩:=U.slot b o e n h1 h2;exact ⟨sl,(y.2 b (ne b o e)).trans q⟩
 ·obtain ⟨o',q⟩:=U.there b o e h2;exact ⟨o',(y.2 b (ne b o e)).trans q⟩
 ·refine (J.hok b u e).stay (λc w d q=>(y.2 c ?_).trans q) (λ_ q=>q) λ_ _ q=>q;rintro rfl;rcases d with z | z;·rw [<-z,a] at e; cases e
  ·rw [a] at z; cases z
 ·obtain ⟨f0,f1,f2,i,f4,g⟩:=h b f;exact ⟨i,f1,f4,g⟩
end
theorem JA {prog:i7} {w:i8} {A:j9} {R:nE->iU->Prop} {s:iU} {elt target iter:Expr} {ifs:List Expr} {scope:mC} {pos:Pos} {it acc:iR} {env:Env} (I:Nat->iU->Prop)
  (l:∀ n s,I n s->iW (model prog w) A (lz it) (λr d=>match r with
   | none=>R (.ok .next) d
   | some v=>iW (model prog w) A (mK target it v) (λ_ e=>iW (model prog w) A (assign target env v) (λ_ i=>
     iW (model prog w) A (forIn ifs iT λc r=>if r=iT then do let ok <-isTrue c env (eval c env); pure (bn ok) else pure (bn r)) (λok b=>
      if ok=iT then iW (model prog w) A (eval elt env) (λx g=>
       iW (model prog w) A (call (.builtin "list.append") [acc,x]) (λ_ f=>∃ m,m < n/\I m f) (λ_ _=>False) g) (λ_ _=>False) b
      else ∃ m,m < n/\I m b) (λ_ _=>False) i) (λ_ _=>False) e) (λ_ _=>False) d) (λ_ _=>False) s)
  (n:Nat) (h:I n s):lP (model prog w) A (.compLoop (.ListComp elt [⟨target,iter,ifs,0⟩] scope pos) 0 it acc env) R s:=by
 have no:∀ {α:Type} {t:Sem α} {Q y:α->iU->Prop} {E:iR->iU->Prop} {s:iU},iW (model prog w) A t Q (λ_ _=>False) s->(∀ a s,Q a s->y a s)->iW (model prog w) A t y E s:=λh k=>lB h k λ_ _ z=>z.elim;refine codeAny_loop rfl I (λn s B=>?_) n h;show iW _ A ((compTurn (.ListComp elt [⟨target,iter,ifs,0⟩] scope pos) 0 it acc env).onRaise (λx=>do noteFrame x env; theTreesLotGoes x)) _ _ s;refine wpAny_noted ?_;rw [compTurn_list];refine iP (wpAny_standAt (iP (no (l n s B) λr d h₁=>?_)));cases r with
 | none=>exact iV h₁
 | some v=>
  refine iP (no h₁ λ_ e o=>iP (no o λ_ i u=>iP (no u λok b j=>?_)));cases ok with
  | false=>exact iV ⟨rfl,j⟩
  | true=>exact iP (iP (no j λx g q=>iP (no q λ_ f p=>iV (iV ⟨rfl,p⟩))))
structure PTs (Y:Cx) (ifs:List Expr) (t:TT):Prop where
 run:∀ (pins:Pns) (s:iU) (σ:St) (H:Hp) (Q:Bool->Hp->Prop),Inv Y pins σ H s->t σ H Q ->iW (model Y.prog Y.w) Y.A (forIn ifs iT λc r=>if r=iT then do let ok <-isTrue c Y.env (eval c Y.env); pure (bn ok) else pure (bn r)) (TP Y pins σ Q) Y.xe s
instance {Y:Cx} {ifs:List Expr} {t:TT}:CoeFun (PTs Y ifs t) (λ_=>∀ (pins:Pns) (s:iU) (σ:St) (H:Hp) (Q:Bool->Hp->Prop),Inv Y pins σ H s->t σ H Q ->iW (model Y.prog Y.w) Y.A (forIn ifs iT λc r=>if r=iT then do let ok <-isTrue c Y.env (eval c Y.env); pure (bn ok) else pure (bn r)) (TP Y pins σ Q) Y.xe s):=⟨λh=>h.run⟩
variable {Y:Cx}
theorem qeu:PTs Y [] (λ_ H Q=>Q iT H):=⟨λ_ _ _ H _ I h=>wpAny_tests_nil ⟨H,I,h⟩⟩
theorem WK {t:TT} (h:PT Y c t):PTs Y [c] t:=⟨λpins s σ H Q I q=>wpAny_tests_one (h pins s σ H Q I q)⟩
variable {ifs:List Expr}
section
variable {it:Addr} {tn:Nat->Heap->Prop} {J:It} {elt:Expr} {g:TG} {tt:TT} {te:TE} {E:iR->iU->Prop}
theorem qcb (I:Inv X pins σ H s) (P:X.calm=iT) (S:ScOk X scope) (T:Turn X.prog X.w X.K tg J fp it tn) (st0:tn 0 s.heap) (hf:∀ b∈fp,Wu X pins H b)
  (hg:∀ fp L s' H',PG (jr X scope N fp L s' H') tg g) (ht:∀ fp L s' H',PTs (jr X scope N fp L s' H') ifs tt) (he:∀ fp L s' H',PE (jr X scope N fp L s' H') elt te) (hl:σc.length=N.length)
  (hσ:∀ (j:Nat) (x:Str) (v:V),N[j]?=iO x->σc[j]?=iO (iO v)->(∃ k,(x,k)∈scope.names)->∃ i:Nat,X.N[i]?=iO x/\σ[i]?=iO (iO v)/\Vis X.env.scope x/\(x,bw)∈scope.names)
  (W:Addr->Nat->Nat->St->Hp->Prop) (Fin:Addr->Hp->Prop) (w0:∀ p,H p=iQ->∃ m,W p 0 m σc (upd H p (.lst [])))
  (F:∀ p i m σ1 H1,W p i m σ1 H1->(J.stop i H1/\Fin p H1)\/(J.go i H1/\∀ x H2,J.yld i H1 x H2->g x σ1 H2 λB H3=>tt B H3 λb H4=>if b=iT then te B H4 λy H5=>∃ xs,H5 p=iO (.lst xs)/\xs.length < sizeLine/\∃ f,f < m/\W p (i+1) f B (upd H5 p (.lst (xs++[y]))) else ∃ f,f < m/\W p (i+1) f B H4))
  (RR:iR->Addr->nE->iU->Prop)
  (hRR:∀ p L H' s',Fin p H'->(∃ m,s'.heap.Ns L m)->Wu X pins H' L->(∀ h',bo L s'.heap h'->Inv X pins σ H' { s' with heap:=h' })->RR (.ref p) L (.ok .next) s') :
  iW (model X.prog X.w) X.A (newList []) (λacc s₃=>iW (model X.prog X.w) X.A (newFunctionEnv scope X.env.globals (KF X.env.cells scope.names []) [] X.env.qual iQ .none (iO X.env)) (λG s₄=>
   lP (model X.prog X.w) X.A (.compStart (.ListComp elt [⟨tg,iter,ifs,0⟩] scope pos) 0 (.ref it) acc { G with scope:=relabel scope X.env }) (RR acc G.locals) s₄) E s₃) E s:=by
 have hfo:∀ b∈fp,b < s.heap.objs.size:=λb h=>let ⟨o,e,_⟩:=T.obj 0 _ st0 b h; aq e;have C:=I.fresh;have I3:Inv X pins σ (upd H s.heap.objs.size (.lst [])) { s with heap:=s.heap.push { cls:=.type "list",data:=.seq ([]:List iR).toArray } }:=I.lnew (t':=s.toks) (ys:=[]) (its:=[]) .nil (bi _);have O:∀ b∈fp,Wu X pins (upd H s.heap.objs.size (.lst [])) b:=λb h=>⟨by rw [qu (ay (hfo b h))]; exact (hf b h).1,(hf b h).2⟩
 have st3:tn 0 (s.heap.push { cls:=.type "list",data:=.seq ([]:List iR).toArray }):=T.keep 0 _ _ st0 λb h o e=>ac _ e;refine k7 (wpAny_newFunctionEnv S.nocell (λy hy=>by simp at hy) (λh₁ c a=>?_) S.kind);dsimp only at c a ⊢;generalize hs3:({ s with heap:=s.heap.push { cls:=.type "list",data:=.seq ([]:List iR).toArray } }:iU)=s3 at I3;have e3:s3.heap=s.heap.push { cls:=.type "list",data:=.seq ([]:List iR).toArray }:=by rw [<-hs3]
 rw [<-e3] at c a st3 ⊢;have keep:∀ b o,s3.heap.get? b=iO o->h₁.get? b=iO o:=λb o e=>(a.2 b (ay (aq e))).trans (ac _ e);have ho3:∀ b∈fp,b < s3.heap.objs.size:=λb h=>by rw [e3,bf]; exact dJ (hfo b h)
 have J1:Inv (jr X scope N fp s3.heap.objs.size s3 (upd H s.heap.objs.size (.lst []))) [] σc (upd H s.heap.objs.size (.lst [])) { s3 with heap:=h₁,toks:=s.toks+0 }:=
  qb9 I3 S O ho3 (by simpa using c) keep hl hσ
 have st4:tn 0 h₁:=T.keep 0 _ _ st3 λb h o e=>keep b o e;have loop:∀ s4:iU,s4={ s3 with heap:=h₁,toks:=s.toks+0 }->lP (model X.prog X.w) X.A (.compLoop (.ListComp elt [⟨tg,iter,ifs,0⟩] scope pos) 0 (.ref it) (.ref s.heap.objs.size) (compEnvC scope (KF X.env.cells scope.names []) s3.heap.objs.size X.env)) (RR (.ref s.heap.objs.size) s3.heap.objs.size) s4:=by
  rintro s4 rfl;generalize D:jr X scope N fp s3.heap.objs.size s3 (upd H s.heap.objs.size (.lst []))=Y at J1;have eP:Y.prog=X.prog:=by rw [<-D]; rfl
  have ew:Y.w=X.w:=by rw [<-D]; rfl
  have eA:Y.A=X.A:=by rw [<-D]; rfl
  have ee:Y.env=compEnvC scope (KF X.env.cells scope.names []) s3.heap.objs.size X.env:=by rw [<-D]; rfl
  have eK:Y.K=X.K:=by rw [<-D]; rfl
  have ec:Y.calm=true:=by rw [<-D]; exact P
  have ex:Y.xe=λ_ _=>False:=by rw [<-D]; rfl
  have hgY:PG Y tg g:=by rw [<-D]; exact hg fp _ _ _
  have htY:PTs Y ifs tt:=by rw [<-D]; exact ht fp _ _ _
  have heY:PE Y elt te:=by rw [<-D]; exact he fp _ _ _
  have t:∀ {H1:Hp},(∀ b∈fp,H1 b=iQ)->∀ b∈fp,Wu Y [] H1 b:=λhn b h=>by have q:=J1.ok.exf b (by rw [<-D]; exact h);refine ⟨hn b h,q.1,J1.ok.exfs b (by rw [<-D]; exact h),.inl (by rw [<-D]; exact h),q.2,λp hp=>?_⟩;rw [<-D] at hp;exact absurd (show p∈([]:Pns) from hp) (by simp)
  obtain ⟨m0,hm0⟩:=w0 s.heap.objs.size C;refine JA (λn s'=>∃ i σ1 H1,Inv Y [] σ1 H1 s'/\tn i s'.heap/\(∀ b∈fp,H1 b=iQ)/\W s.heap.objs.size i n σ1 H1) ?_ m0 ⟨0,σc,_,J1,st4,λb h=>(O b h).1,hm0⟩;rintro n s5 ⟨i,σ1,H1,J5,st5,fr5,w5⟩;rw [<-eP,<-ew,<-eA,<-ee];have TY:Turn Y.prog Y.w Y.K tg J fp it tn:=by rw [eP,ew,eK]; exact T
  rcases F _ i n σ1 H1 w5 with ⟨stop,fin⟩ | ⟨go,step⟩
  ·refine thn (TY.done Y rfl rfl rfl ec i [] s5 σ1 H1 _ J5 (t fr5) st5 stop) λr s6 ⟨hr,J6⟩=>?_;subst hr;have Q:Inv (jr X scope N fp s3.heap.objs.size s3 (upd H s.heap.objs.size (.lst []))) [] σ1 H1 s6:=by rw [D]; exact J6
   exact hRR _ _ H1 s6 fin (let ⟨m,hn,_⟩:=Q.loc; ⟨m,hn⟩) (I3.fpOk (ap _) Q.free) λh' sb=>qca (s1:=s6) (H1:=H1) (L:=0) I3 O Q sb
  ·refine thn (TY.item Y rfl rfl rfl ec i [] s5 σ1 H1 _ J5 (t fr5) st5 go) λr s6 ⟨u,hr,h6⟩=>?_;subst hr;refine thn h6 λ_ s7 ⟨x,H7,J7,r7,y7,M,fr7⟩=>?_;have J7':=J7.pinned (t fr7) (TY.obj _ _ M);have back:∀ {l:St} {Z:Hp} {R:iU},Inv Y ([]++KK fp s7.heap) l Z R->(∃ f,f < n/\W s.heap.objs.size (i+1) f l Z)->∃ m,m < n/\∃ i σ1 H1,Inv Y [] σ1 H1 R/\tn i R.heap/\(∀ b∈fp,H1 b=iQ)/\W s.heap.objs.size i m σ1 H1:=λ{l Z R} U ⟨f,hm,w9⟩=>by refine ⟨f,hm,i+1,l,Z,U.unpinned,TY.keep _ _ _ M λb h o e=>(U.pin (b,o) (aU _ (aU _ (uf h e)))).1,λb h=>?_,w9⟩;obtain ⟨o,e,d⟩:=TY.obj _ _ M b h;exact (U.pin (b,o) (aU _ (aU _ (uf h e)))).2.1
   rw [<-ex];refine thn (hgY _ s7 σ1 H7 x u _ J7' r7 (step x H7 y7)) λ_ s8 ⟨z,H8,J8,q8⟩=>?_;refine thn (htY _ s8 z H8 _ J8 q8) λok R ⟨Z,U,q9⟩=>?_;cases ok with
   | false=>exact back U q9
   | true=>refine thn (heY _ R z Z _ U q9) λv s10 ⟨y,H10,J10,r10,xs,hx,hlen,q10⟩=>?_;exact thn (KU _ s10 z H10 (.ref s.heap.objs.size) [y] (.ref s.heap.objs.size) [v] (λ_ H11=>∃ f,f < n/\W s.heap.objs.size (i+1) f z H11) J10 rfl (.cons r10 .nil) ⟨_,xs,y,rfl,rfl,hx,hlen,q10⟩) λ_ s11 ⟨_,H11,J11,_,q11⟩=>back J11 q11
 have e4:({ heap:=h₁,gens:=s.gens,drawn:=s.drawn,toks:=s.toks+([]:List (Str×iR)).length,os:=s.os }:iU)={ s3 with heap:=h₁,toks:=s.toks+0 }:=by rw [<-hs3]; rfl
 exact codeAny_compStart_list (loop _ e4) (T.self _ 0 _ _ _ st4 (loop _ e4))
end
noncomputable def vc (nt:Nat) (cap:List Nat) (ρ:List (Option α)):List (Option α):=bg nt iQ++cap.map λk=>(ρ[k]?).getD iQ
noncomputable def wz (own:List Nat):Nat->List Nat->List Nat
 | _,[]=>[]
 | n,k::cap=>if k∈own then n::wz own (n+1) cap else wz own (n+1) cap
noncomputable def ioC (nt len:Nat):List Nat:=(aK len).map (nt + ·)
noncomputable def jS (own:List Nat) (ρc:Sl):Nat->List Nat->Sl->Sl
 | _,[],ρ=>ρ
 | n,k::cap,ρ=>if k∈own then jS own ρc (n+1) cap (ρ.set k ((ρc[n]?).getD iQ)) else jS own ρc (n+1) cap ρ
variable {nt:Nat} {cap:List Nat}
theorem vd {ρ:List (Option α)} {d:α}:(vc nt cap ρ)[i]?=iO (iO d)↔∃ j k,i=nt+j/\cap[j]?=iO k/\ρ[k]?=iO (iO d):=by
 unfold vc;constructor
 ·intro h;by_cases hi:i < nt;·rw [cG (by simpa using hi),bB] at h;split at h <;> cases h
  ·rw [cB (by simpa using hi),fj,aF] at h;cases q:cap[i - nt]? with
   | none=>rw [q] at h; cases h
   | some k=>
    rw [q] at h;have h:(ρ[k]?).getD iQ=iO d:=aM.inj h;refine ⟨i - nt,k,by lia,q,?_⟩;cases e:ρ[k]? with
    | none=>rw [e] at h; cases h
    | some o=>rw [e] at h; exact congrArg iO h
 ·rintro ⟨j,k,rfl,h1,h2⟩;rw [cB (by simp),fj,aF,show nt+j - nt=j by lia,h1];simp [h2]
theorem ke {own:List Nat}:∀ {n:Nat} {cap:List Nat} {i:Nat},i∈wz own n cap↔∃ j k,i=n+j/\cap[j]?=iO k/\k∈own
 | n,[],i=>by simp [wz]
 | n,k::cap,i=>by
  have a:=@ke own (n+1) cap i;unfold wz;by_cases h:k∈own
  ·rw [Aa h,af,a];constructor
   ·rintro (rfl | ⟨j,k',e,h1,h2⟩);·exact ⟨0,k,rfl,rfl,h⟩
    ·exact ⟨j+1,k',by lia,by simpa using h1,h2⟩
   ·rintro ⟨j,k',e,h1,h2⟩;cases j with
    | zero=>exact .inl (by lia)
    | succ j=>exact .inr ⟨j,k',by lia,by simpa using h1,h2⟩
  ·rw [Ab h,a];constructor;·rintro ⟨j,k',e,h1,h2⟩;exact ⟨j+1,k',by lia,by simpa using h1,h2⟩
   ·rintro ⟨j,k',e,h1,h2⟩;cases j with
    | zero=>simp at h1; subst h1; exact absurd h2 h
    | succ j=>exact ⟨j,k',by lia,by simpa using h1,h2⟩
theorem JB {len:Nat}:i∈ioC nt len↔∃ j,j < len/\i=nt+j:=by
 unfold ioC;rw [aC];constructor;·rintro ⟨j,h1,h2⟩; exact ⟨j,aZ.mp h1,h2.symm⟩
 ·rintro ⟨j,h1,h2⟩; exact ⟨j,aZ.mpr h1,h2.symm⟩
variable {ρc:Sl}
theorem xm:∀ {n:Nat} {cap:List Nat} {ρ:Sl},(jS own ρc n cap ρ).length=ρ.length
 | _,[],_=>rfl
 | n,k::cap,ρ=>by
  unfold jS;by_cases h:k∈own;·rw [Aa h,xm,fD]
  ·rw [Ab h,xm]
theorem kU:∀ {n:Nat} {cap:List Nat} {ρ:Sl} {i:Nat},¬(i∈cap/\i∈own)->(jS own ρc n cap ρ)[i]?=ρ[i]?
 | _,[],_,_,_=>rfl
 | n,k::cap,ρ,i,h=>by
  unfold jS;have h':¬(i∈cap/\i∈own):=λz=>h ⟨ae _ z.1,z.2⟩;by_cases a:k∈own;·rw [Aa a,kU h',aw (λe=>h ⟨af.mpr (.inl e.symm),by rw [<-e]; exact a⟩)]
  ·rw [Ab a,kU h']
theorem yE:∀ {n:Nat} {cap:List Nat} {ρ:Sl} {j k:Nat} {d:D},cap.Nodup->cap[j]?=iO k->k∈own->k < ρ.length->ρc[n+j]?=iO (iO d)->(jS own ρc n cap ρ)[k]?=iO (iO d)
 | _,[],_,_,_,_,_,h,_,_,_=>by simp at h
 | n,k0::cap,ρ,0,k,d,nd,h,hk,hl,e=>by simp at h; subst h;obtain ⟨n1,n2⟩:=aT.mp nd;unfold jS;rw [Aa hk,kU (λz=>n1 z.1),aI hl];have e:ρc[n]?=iO (iO d):=e;rw [e]; rfl
 | n,k0::cap,ρ,j+1,k,d,nd,h,hk,hl,e=>by
  obtain ⟨n1,n2⟩:=aT.mp nd;have h:cap[j]?=iO k:=by simpa using h
  have e:ρc[n+1+j]?=iO (iO d):=by rw [show n+1+j=n+(j+1) by lia]; exact e
  unfold jS;by_cases a:k0∈own;·rw [Aa a]; exact yE n2 h hk (by rw [fD]; exact hl) e
  ·rw [Ab a]; exact yE n2 h hk hl e
section
theorem WM {ρ:List (Option α)}:(vc nt cap ρ).length=nt+cap.length:=by simp [vc]
theorem GI {l:List Nat} (h:l.Nodup) {j k:Nat} (a:l[i]?=iO k) (b:l[j]?=iO k):i=j:=by obtain ⟨h1,e1⟩:=aE.mp a;obtain ⟨h2,e⟩:=aE.mp b;exact (h7 h).mp (e1.trans e.symm)
theorem qev (r:Rep K own F H σ ρ) (nd:cap.Nodup):Rep K (wz own nt cap) F H (vc nt cap σ) (vc nt cap ρ) where
 sub:=r.sub
 len:=by rw [WM,WM]
 val:=λi d hi e=>by obtain ⟨j,k,rfl,h1,h2⟩:=vd.mp e;obtain ⟨v,g1,Y⟩:=r.val k d (λz=>hi (ke.mpr ⟨j,k,rfl,h1,z⟩)) h2;exact ⟨v,vd.mpr ⟨j,k,rfl,h1,g1⟩,Y⟩
 ow:=λi d hi e=>by
  obtain ⟨j,k,rfl,h1,h2⟩:=vd.mp e;obtain ⟨f,k',m,c,h⟩:=ke.mp hi;have:j=f:=by lia
  subst this;rw [h1] at c; cases c;obtain ⟨a,g1,Y⟩:=r.ow k d h h2;exact ⟨a,vd.mpr ⟨j,k,rfl,h1,g1⟩,Y⟩
 opn:=λi hi=>by obtain ⟨j,k,rfl,h1,h2⟩:=ke.mp hi;obtain ⟨d,e⟩:=r.opn k h2;exact ⟨d,vd.mpr ⟨j,k,rfl,h1,e⟩⟩
 dis:=λi u a hi g e m=>by
  obtain ⟨j,k,rfl,h1,h2⟩:=ke.mp hi;obtain ⟨f,k',rfl,c,h⟩:=ke.mp g;obtain ⟨x,y,t,l,o⟩:=vd.mp e;obtain ⟨n,s,p,q,b⟩:=vd.mp m;have:x=j:=by lia
  subst this;have:n=f:=by lia
  subst this;rw [h1] at l; cases l;rw [c] at q; cases q;have e:=r.dis k k' a h2 h o b;subst e;rw [GI nd h1 c]
theorem GJ (o:∀ i∈ioC nt cap.length,σ1[i]?=(vc nt cap σ)[i]?) (h:OA (wz own nt cap) σ1 b):OA own σ b:=by
 obtain ⟨i,hi,e⟩:=h;obtain ⟨j,k,rfl,h1,h2⟩:=ke.mp hi;rw [o _ (JB.mpr ⟨j,(aE.mp h1).1,rfl⟩)] at e;obtain ⟨x,y,c,q,a⟩:=vd.mp e;have:x=j:=by lia
 subst this;rw [h1] at q; cases q;exact ⟨k,h2,a⟩
theorem GK (p:Rep K own F H σ ρ) (nd:cap.Nodup) (r:Rep K (wz own nt cap) F' H' σ1 ρ1) (g:∀ i∈ioC nt cap.length,σ1[i]?=(vc nt cap σ)[i]?) (c:Chg (OA (wz own nt cap) σ1) F H F' H'):Rep K own F' H' σ (jS own ρ1 nt cap ρ) where
 sub:=r.sub
 len:=by rw [xm]; exact p.len
 val:=λi d hi e=>by rw [kU (λz=>hi z.2)] at e;obtain ⟨v,h1,h2⟩:=p.val i d hi e;exact ⟨v,h1,h2.mono c.grow⟩
 ow:=λi d hi e=>by
  by_cases q:i∈cap
  ·obtain ⟨j,D⟩:=List.getElem?_of_mem q;have m:nt+j∈wz own nt cap:=ke.mpr ⟨j,i,rfl,D,hi⟩;obtain ⟨d',h⟩:=r.opn _ m;obtain ⟨w,b⟩:=p.opn i hi;rw [yE nd D hi (aE.mp b).1 h] at e;cases e;obtain ⟨a,h1,h2⟩:=r.ow _ _ m h;rw [g _ (JB.mpr ⟨j,(aE.mp D).1,rfl⟩)] at h1;obtain ⟨x,y,t,f,l⟩:=vd.mp h1;have:x=j:=by lia
   subst this;rw [D] at f; cases f;exact ⟨a,l,h2⟩
  ·rw [kU (λz=>q z.1)] at e;obtain ⟨a,h1,h2,h3⟩:=p.ow i d hi e;have na:¬OA (wz own nt cap) σ1 a:=λz=>by
    obtain ⟨A,n,s⟩:=z;obtain ⟨j,k,rfl,g1,Y⟩:=ke.mp n;rw [g _ (JB.mpr ⟨j,(aE.mp g1).1,rfl⟩)] at s;obtain ⟨x,y,t,f,l⟩:=vd.mp s;have:x=j:=by lia
    subst this;rw [g1] at f; cases f;have e:=p.dis i k a hi Y h1 l;subst e;exact q (dO g1)
   refine ⟨a,h1,?_,h3.grow c.grow λo z=>c.keep a o z na⟩;cases O:F' a with
   | none=>rfl
   | some u=>
    rcases c.new a (by rw [O]; simp) with z | z | z;·exact absurd h2 z
    ·exact absurd z h3.there
    ·exact absurd z na
 opn:=λi hi=>by
  by_cases q:i∈cap;·obtain ⟨j,D⟩:=List.getElem?_of_mem q;have m:nt+j∈wz own nt cap:=ke.mpr ⟨j,i,rfl,D,hi⟩;obtain ⟨d',h⟩:=r.opn _ m;obtain ⟨w,b⟩:=p.opn i hi;exact ⟨d',yE nd D hi (aE.mp b).1 h⟩
  ·rw [kU (λz=>q z.1)];exact p.opn i hi
 dis:=p.dis
end
noncomputable def WN (g:D->Sl->Out Sl) (ft:xf) (fe:qZ) (d:D) (ρ:Sl):Out (Option D×Sl):=
 (g d ρ).plain.bind λρ1=>(ft ρ1).plain.bind λq=>if q.1=iT then (fe q.2).plain.bind λr=>.ok (iO r.1,r.2) else .ok (iQ,q.2)
noncomputable def kI (g:D->Sl->Out Sl) (ft:xf) (fe:qZ):List D->wq
 | [],ρ=>.ok ([],ρ)
 | d::ds,ρ=>(WN g ft fe d ρ).bind λp=>(kI g ft fe ds p.2).bind λq=>.ok (p.1.toList++q.1,q.2)
noncomputable def jc (own:List Nat) (nt:Nat) (cap:List Nat) (fi:wq) (g:D->Sl->Out Sl) (ft:xf) (fe:qZ):qZ:=λρ=>(fi ρ).bind λp=>
 if p.1.length<=sizeLine then (kI g ft fe p.1 (vc nt cap p.2)).bind λq=>.ok (.lst q.1,jS own q.2 nt cap p.2) else .bad
noncomputable def ctC (C:Ct) (nt len:Nat):Ct:=⟨C.K,C.cv,λ_ _ _=>False,ioC nt len,.sh,[],[],λ_ h=>absurd h (by simp)⟩
noncomputable def ftT:xf:=λρ=>.ok (iT,ρ)
theorem Ym:PTs Y [] (tT C own ftT):=⟨λpins s σ H Q I ⟨F,ρ,a,h⟩=>qeu pins s σ H Q I (h F H a .refl)⟩
structure CW (C:Ct) (own:List Nat) (nt:Nat) (cap:List Nat) (σ:St) (F H F0:Hp) (g:D->Sl->Out Sl) (ft:xf) (fe:qZ) (ds ys:List D) (ρe:Sl) (p:Addr) (i:Nat) (σ1:St) (H1:Hp) (F1:Hp) (ρi:Sl) (accD:List D) (xs:List V) (rest:List D):Prop where
 rep:Rep C.K (wz own nt cap) F1 H1 σ1 ρi
 io:∀ i∈ioC nt cap.length,σ1[i]?=(vc nt cap σ)[i]?
 chg:Chg (OA (wz own nt cap) σ1) F H F1 H1
 gr:Same F0 F1
 at_:H1 p=iO (.lst xs)
 nF:F1 p=iQ
 is:IsL C.K F1 xs accD
 le:accD.length<=i
 run:kI g ft fe (ds.drop i) ρi=.ok (rest,ρe)
 all:accD++rest=ys
variable {ρe:Sl}
theorem XS {g:D->Sl->Out Sl} {ft:xf} {fe:qZ} {rest:List D} (h:kI g ft fe (d::ds) ρ=.ok (rest,ρe)):∃ ρ1,g d ρ=.ok ρ1/\∃ b ρ2,ft ρ1=.ok (b,ρ2)/\((b=iT/\∃ y k r,fe ρ2=.ok (y,k)/\kI g ft fe ds k=.ok (r,ρe)/\rest=y::r)\/(b=iS/\kI g ft fe ds ρ2=.ok (rest,ρe))):=by
 unfold kI WN at h;cases f:g d ρ with
 | exc c=>rw [f] at h; cases h
 | bad=>rw [f] at h; cases h
 | ok ρ1=>
  rw [f] at h;refine ⟨ρ1,rfl,?_⟩;simp only [Out.plain,Out.oh] at h;cases e:ft ρ1 with
  | exc c=>rw [e] at h; cases h
  | bad=>rw [e] at h; cases h
  | ok p=>
   obtain ⟨b,ρ2⟩:=p;rw [e] at h;refine ⟨b,ρ2,rfl,?_⟩;simp only [Out.plain,Out.oh] at h;cases b with
   | true=>
    refine .inl ⟨rfl,?_⟩;simp only [if_true] at h;cases a:fe ρ2 with
    | exc c=>rw [a] at h; cases h
    | bad=>rw [a] at h; cases h
    | ok p=>
     obtain ⟨y,k⟩:=p;rw [a] at h;simp only [Out.plain,Out.oh] at h;cases q:kI g ft fe ds k with
     | exc c=>rw [q] at h; cases h
     | bad=>rw [q] at h; cases h
     | ok p=>obtain ⟨r,A⟩:=p;rw [q] at h;simp only [Out.oh] at h;cases h;exact ⟨y,k,r,rfl,q,rfl⟩
   | false=>
    refine .inr ⟨rfl,?_⟩;simp only [bY,if_false,Out.oh] at h;cases q:kI g ft fe ds ρ2 with
    | exc c=>rw [q] at h; cases h
    | bad=>rw [q] at h; cases h
    | ok p=>obtain ⟨r,A⟩:=p;rw [q] at h;simp only [Out.oh] at h;cases h;rfl
section
variable {elt:Expr} {fi:wq} {g:D->Sl->Out Sl} {ft:xf} {fe:qZ} {me:Mo}
structure CapOk (X:Cx) (scope:mC) (N:List Str) (nt:Nat) (cap:List Nat):Prop where
 nd:cap.Nodup
 len:N.length=nt+cap.length
 at_:∀ (j k:Nat),cap[j]?=iO k->∃ x,N[nt+j]?=iO x/\X.N[k]?=iO x/\((Vis X.env.scope x/\(x,bw)∈scope.names)\/∀ k',(x,k')∉scope.names)
theorem Vl {F:Hp} {ρ1:Sl} {it:Addr} {fp:List Addr} {tn:Nat->Heap->Prop} {J:It} {E:iR->iU->Prop} {ds ys:List D} {ρe:Sl} (I:Inv X pins σ H s) (W:X.calm=iT) (S:ScOk X scope) (CO:CapOk X scope N nt cap)
  (T:Turn X.prog X.w X.K tg J fp it tn) (st0:tn 0 s.heap) (hf:∀ b∈fp,Wu X pins H b) (rp:Rep C.K own F H σ ρ1) (O:ItIs C.K F J ds) (hz:ds.length<=sizeLine)
  (hg:∀ fp L s' H',PG (jr X scope N fp L s' H') tg (tGd (ctC C nt cap.length) (wz own nt cap) g)) (ht:∀ fp L s' H',PTs (jr X scope N fp L s' H') ifs (tT (ctC C nt cap.length) (wz own nt cap) ft))
  (he:∀ fp L s' H',PE (jr X scope N fp L s' H') elt (tE (ctC C nt cap.length) (wz own nt cap) me fe)) (hme:me≠.any)
  (hrun:kI g ft fe ds (vc nt cap ρ1)=.ok (ys,ρe)) (RR:iR->Addr->nE->iU->Prop)
  (hRR:∀ p L s' F' H',H p=iQ->Rep C.K own F' H' σ (jS own ρe nt cap ρ1)->Chg (OA own σ) F H F' H'->F' p=iQ->OwnIs C.K F' H' p (.lst ys)->(∃ m,s'.heap.Ns L m)->Wu X pins H' L->(∀ h',bo L s'.heap h'->Inv X pins σ H' { s' with heap:=h' })->RR (.ref p) L (.ok .next) s') :
  iW (model X.prog X.w) X.A (newList []) (λacc s₃=>iW (model X.prog X.w) X.A (newFunctionEnv scope X.env.globals (KF X.env.cells scope.names []) [] X.env.qual iQ .none (iO X.env)) (λG s₄=>
   lP (model X.prog X.w) X.A (.compStart (.ListComp elt [⟨tg,iter,ifs,0⟩] scope pos) 0 (.ref it) acc { G with scope:=relabel scope X.env }) (RR acc G.locals) s₄) E s₃) E s:=by
 have oaH:∀ {σ1:St} {b:Addr},(∀ i∈ioC nt cap.length,σ1[i]?=(vc nt cap σ)[i]?)->OA (wz own nt cap) σ1 b->H b≠none:=λU z=>(rp.OA_there (GJ U z)).1;refine qcb (σc:=vc nt cap σ) I W S T st0 hf hg ht (λfp L s' H'=>yu (he fp L s' H') hme) (by rw [WM,CO.len]) (λj x v e1 e2 e3=>?_)
  (λp i m σ1 H1=>H p=iQ/\m=ds.length - i/\i<=ds.length/\∃ F1 ρi accD xs rest,CW C own nt cap σ F H F g ft fe ds ys ρe p i σ1 H1 F1 ρi accD xs rest)
  (λp H1=>H p=iQ/\∃ σ1 F1 xs,Rep C.K (wz own nt cap) F1 H1 σ1 ρe/\(∀ i∈ioC nt cap.length,σ1[i]?=(vc nt cap σ)[i]?)/\Chg (OA (wz own nt cap) σ1) F H F1 H1/\H1 p=iO (.lst xs)/\F1 p=iQ/\IsL C.K F1 xs ys) (λp hp=>?_) ?_ RR ?_
 ·obtain ⟨j',k,rfl,h1,h2⟩:=vd.mp e2;obtain ⟨y,g1,g2,g3⟩:=CO.at_ j' k h1;rw [g1] at e1; cases e1;obtain ⟨k',hk'⟩:=e3;rcases g3 with ⟨g3,g4⟩ | g3;·exact ⟨k,g2,h2,g3,g4⟩
  ·exact absurd hk' (g3 k')
 ·obtain ⟨r1,c1,hF⟩:=GB (C:=C) (u:=.lst []) (qev (nt:=nt) rp CO.nd) hp;exact ⟨ds.length,hp,by simp,bi _,F,vc nt cap ρ1,[],[],ys,r1,λ_ _=>rfl,c1.ofNo,Same.refl _,qm,hF,.nil,ap _,by simpa using hrun,rfl⟩
 ·rintro p i m σ1 H1 ⟨hp,rfl,hle,F1,ρi,accD,xs,rest,w⟩;by_cases t:i < ds.length
  ·have hd:ds.drop i=ds[i]::ds.drop (i+1):=cH t;have run:=w.run;rw [hd] at run;obtain ⟨ρa,ea,b,Z,eb,R⟩:=XS run;have sub1:Same F H1:=w.gr.trans w.rep.sub;refine .inr ⟨O.go i H1 t sub1,λx H2 y=>?_⟩;obtain ⟨F2,c2,s2,is2⟩:=O.yld i F1 H1 x H2 ds[i] (by simp [t]) w.gr w.rep.sub y;have rp2:=w.rep.grow c2 s2;have M:∀ {Y:St},(∀ i∈ioC nt cap.length,Y[i]?=(vc nt cap σ)[i]?)->¬OA (wz own nt cap) Y p:=λU z=>oaH U z hp;have P:∀ {A:Addr->Prop} {Fa Ha Fb Hb:Hp} {zs:List V},Chg A Fa Ha Fb Hb->¬A p->Ha p=iO (.lst zs)->Fa p=iQ->Hb p=iO (.lst zs)/\Fb p=none:=λ{A Fa Ha Fb Hb zs} c na e1 e2=>by
    refine ⟨c.keep p _ e1 na,?_⟩;cases q:Fb p with
    | none=>rfl
    | some u=>
     rcases c.new p (by rw [q]; simp) with z | z | z;·exact absurd e2 z
     ·rw [e1] at z; cases z
     ·exact absurd z na
   obtain ⟨at2,nF2⟩:=P c2 (λz=>z) w.at_ w.nF;refine ⟨F2,ρi,ds[i],rp2,is2,ρa,ea,λl rp3 oa3 io3=>?_⟩;have f:∀ i∈ioC nt cap.length,l[i]?=(vc nt cap σ)[i]?:=λi hi=>(io3 i hi).trans (w.io i hi);refine ⟨F2,ρa,rp3,?_⟩;rw [eb];intro F4 H4 rp4 c4;obtain ⟨at4,nF4⟩:=P c4 (M f) at2 nF2;have B:Chg (OA (wz own nt cap) l) F H F4 H4:=by
    have q1:Chg (OA own σ) F H F1 H1:=w.chg.mono λb z=>GJ w.io z;have mv:∀ {b},OA (wz own nt cap) σ1 b->OA (wz own nt cap) l b:=λ{b} z=>by obtain ⟨i',hi',e'⟩:=z;obtain ⟨j,k,rfl,g1,g2⟩:=ke.mp hi';have hm:nt+j∈ioC nt cap.length:=JB.mpr ⟨j,(aE.mp g1).1,rfl⟩;exact ⟨nt+j,hi',by rw [f _ hm,<-w.io _ hm]; exact e'⟩
    exact ((w.chg.mono λb z=>mv z).trans' c2.ofNo).trans' c4
   have gr4:Same F F4:=(w.gr.trans c2.grow).trans c4.grow;have Q:IsL C.K F4 xs accD:=(w.is.mono c2.grow).mono c4.grow;rcases R with ⟨rfl,y',ρc,r,ec,er,hr⟩ | ⟨rfl,er⟩
   ·rw [Aa rfl];refine ⟨F4,Z,rp4,?_⟩;rw [ec];intro v F5 H5 h c5 mo5;obtain ⟨at5,nF5⟩:=P c5 (M f) at4 nF4;have hlen:xs.length=accD.length:=Q.length;refine ⟨xs,at5,by have:=w.le; lia,ds.length - (i+1),by lia,hp,rfl,t,F5,ρc,accD++[y'],xs++[v],r,?_⟩;have cp:Chg (λb=>b=p) F5 H5 F5 (upd H5 p (.lst (xs++[v]))):=⟨λb o e n=>by rw [qu n]; exact e,λb e=>by
     by_cases q:b=p;·rw [q,qm]; simp
     ·rw [qu q]; exact e,Same.refl _,λb e=>.inl e⟩
    have sb5:Same F5 (upd H5 p (.lst (xs++[v]))):=λb o e=>by rw [qu (qA e nF5)]; exact h.sub b o e
    have rp6:Rep C.K (wz own nt cap) F5 (upd H5 p (.lst (xs++[v]))) l ρc:=by
     refine ⟨sb5,h.len,h.val,λi d hi e=>?_,h.opn,h.dis⟩;obtain ⟨a,h1,h2,h3⟩:=h.ow i d hi e;have na:a≠p:=λz=>by subst z; exact M f ⟨i,hi,h1⟩
     exact ⟨a,h1,h2,h3.grow (Same.refl _) λo z=>by rw [qu na]; exact z⟩
    refine ⟨rp6,f,?_,(gr4.trans c5.grow),qm,nF5,(Q.mono c5.grow).append (.cons mo5 .nil),by simp only [ao,ai,be]; have:=w.le; lia,er,?_⟩;·exact (B.trans' c5).trans cp λb z=>.inr (by rw [z]; exact hp)
    ·rw [cS,<-w.all,hr]; rfl
   ·rw [Ab bD];exact ⟨ds.length - (i+1),by lia,hp,rfl,t,F4,Z,accD,xs,rest,rp4,f,B,gr4,at4,nF4,Q,by have:=w.le; lia,er,w.all⟩
  ·have e:i=ds.length:=by lia
   subst e;have run:=w.run;rw [List.drop_length] at run;unfold kI at run;cases run;have ha:=w.all;rw [bv] at ha;subst ha;exact .inl ⟨O.stop _ H1 (ap _) (w.gr.trans w.rep.sub),hp,σ1,F1,xs,w.rep,w.io,w.chg,w.at_,w.nF,w.is⟩
 ·rintro p L H' s' ⟨hp,σ1,F1,xs,r1,io1,c1,e1,n1,is1⟩ hns hfp hinv;exact hRR p L s' F1 H' hp (GK rp CO.nd r1 io1 c1) (c1.mono λb z=>GJ io1 z) n1 ⟨xs,e1,is1⟩ hns hfp hinv
theorem WO:∀ (ds:List D) (ρ:Sl) (c:Str) (o:Sl),kI g ft fe ds ρ≠.exc c o:=by
 intro ds
 induction ds with
 | nil=>intro ρ c o z; cases z
 | cons d ds j=>
  intro ρ c o z;unfold kI WN at z;cases b:g d ρ with
  | exc c=>rw [b] at z; cases z
  | bad=>rw [b] at z; cases z
  | ok ρ1=>
   rw [b] at z;simp only [Out.plain,Out.oh] at z;cases e:ft ρ1 with
   | exc c=>rw [e] at z; cases z
   | bad=>rw [e] at z; cases z
   | ok p=>
    rw [e] at z;simp only [Out.plain,Out.oh] at z;by_cases h:p.1=iT
    ·rw [Aa h] at z;cases a:fe p.2 with
     | exc c=>rw [a] at z; cases z
     | bad=>rw [a] at z; cases z
     | ok r=>
      rw [a] at z;simp only [Out.plain,Out.oh] at z;cases q:kI g ft fe ds r.2 with
      | exc c=>exact j _ _ _ q
      | bad=>rw [q] at z; cases z
      | ok t=>rw [q] at z; cases z
    ·rw [Ab h] at z;simp only [Out.oh] at z;cases q:kI g ft fe ds p.2 with
     | exc c=>exact j _ _ _ q
     | bad=>rw [q] at z; cases z
     | ok t=>rw [q] at z; cases z
theorem Vm {α:Type} {Z:KZ->Prop} (r:Rep C.K own F H σ ρ) (d:¬Z .bad) (hx:∀ c ρ',Z (.exc c ρ')->∀ F' H',Same F' H'->XM C.K C.ox F' H' σ ρ'->Chg (OA own σ) F H F' H'->C.E (C.cv c) iQ H') (h:Z (jc own nt cap fi g ft fe ρ)):tIt C own fi σ H λJ H1=>∃ ds ρ1 ys ρe F1,ds.length<=sizeLine/\kI g ft fe ds (vc nt cap ρ1)=.ok (ys,ρe)/\Rep C.K own F1 H1 σ ρ1/\Chg (OA own σ) F H F1 H1/\ItIs C.K F1 J ds/\Z (.ok (.lst ys,jS own ρe nt cap ρ1)):=by
 refine ⟨F,ρ,r,?_⟩;unfold jc at h;cases q:fi ρ with
 | exc c=>rw [q] at h; exact hx c _ h
 | bad=>rw [q] at h; exact (d h).elim
 | ok p=>
  obtain ⟨ds,ρ1⟩:=p;rw [q] at h;have h:Z (if ds.length<=sizeLine then (kI g ft fe ds (vc nt cap ρ1)).bind λq=>.ok (.lst q.1,jS own q.2 nt cap ρ1) else .bad):=h;by_cases z:ds.length<=sizeLine
  ·rw [Aa z] at h;cases e:kI g ft fe ds (vc nt cap ρ1) with
   | exc c=>exact absurd e (WO _ _ _ _)
   | bad=>rw [e] at h; exact (d h).elim
   | ok p=>obtain ⟨ys,ρe⟩:=p;rw [e] at h;exact λJ F1 H1 a c1 it=>⟨ds,ρ1,ys,ρe,F1,z,e,a,c1,it,h⟩
  ·rw [Ab z] at h; exact (d h).elim
theorem qew (P:X.calm=iT) (S:ScOk X scope) (K:CapOk X scope N nt cap) (hi:PI X tg iter (tIt C own fi))
  (hg:∀ fp L s' H',PG (jr X scope N fp L s' H') tg (tGd (ctC C nt cap.length) (wz own nt cap) g)) (ht:∀ fp L s' H',PTs (jr X scope N fp L s' H') ifs (tT (ctC C nt cap.length) (wz own nt cap) ft))
  (D:∀ fp L s' H',PE (jr X scope N fp L s' H') elt (tE (ctC C nt cap.length) (wz own nt cap) me fe)) (j:me≠.any:=by decide) (hs:∀ x,lN iter X.env x=pure x:=by intro _; rfl) :
  PE X (.ListComp elt [⟨tg,iter,ifs,0⟩] scope pos) (tE C own .fr (jc own nt cap fi g ft fe)):=by
 refine ⟨?_⟩;intro pins s σ H Q I ⟨F,ρ,k,h⟩;rw [eval_ListComp];have n:=Vm (α:=Unit) (Z:=λr=>Po C own .fr σ F H r Q) k (λz=>z) (λc _ z=>z) h;refine wpAny_comprehension_free (use:=iQ) rfl hs (QT (ga I S)) S.kind S.names (thn (hi pins s σ H _ I n) λR s1 h1=>thn h1 λl s2 h2=>?_);obtain ⟨it,fp,tn,J,H2,e,G,T,b,f2,ds,ρ1,ys,ρe,F1,hz,a,d,c1,O,po⟩:=h2;subst e;refine Vl (RR:=λacc M=>compPost (model X.prog X.w) X.A X.xe iQ (EP X pins σ Q) acc M) G P S K T b f2 d O hz hg ht D j a λp L s' F' H' hp f E nF o i B v=>?_;obtain ⟨m,t⟩:=i;refine ⟨m,t,λh' y=>⟨.ref p,H',v h' y,rfl,?_⟩⟩;refine po (.ref p) F' H' f (c1.trans' E) ⟨p,rfl,?_,nF,o⟩;cases q:H p with
 | none=>rfl
 | some u=>exact absurd hp (c1.stay p (by rw [q]; simp))
theorem qcc {pos' spos:Pos} (hN:X.N.Nodup) (V:X.N[i]?=iO x) (hx:Loc X.env.scope x) (P:X.calm=iT) (S:ScOk X scope) (CO:CapOk X scope N nt cap) (hi:PI X tg iter (tIt C own fi))
  (hg:∀ fp L s' H',PG (jr X scope N fp L s' H') tg (tGd (ctC C nt cap.length) (wz own nt cap) g)) (ht:∀ fp L s' H',PTs (jr X scope N fp L s' H') ifs (tT (ctC C nt cap.length) (wz own nt cap) ft))
  (he:∀ fp L s' H',PE (jr X scope N fp L s' H') elt (tE (ctC C nt cap.length) (wz own nt cap) me fe)) (M:me≠.any:=by decide) (W:i∉C.io:=by exact yr rfl)
  (G:lK (.ListComp elt [⟨tg,iter,ifs,0⟩] scope pos) (iO (.Name x pos')) spos.line X.env=pure true:=by rfl) (hs:∀ x,lN iter X.env x=pure x:=by intro _; rfl)
  (Y:X.fn x=iT\/X.env.scope.names.lookup x=iO .local:=by first | exact .inl rfl | exact .inr rfl) :
  PS X (.Assign [.Name x pos'] (.ListComp elt [⟨tg,iter,ifs,0⟩] scope pos) spos) (tSt C own (i::vF own [i]) (jJ i (jc own nt cap fi g ft fe))):=by
 refine ⟨?_⟩;intro pins s σ H D I ⟨F,ρ,rp,h⟩;rw [exec_Assign_Name_used _ _ _ _ G];refine iP (wpAny_standAt (iP ?_));show iW _ X.A (do let _ <-comprehension (.ListComp elt [⟨tg,iter,ifs,0⟩] scope pos) scope X.env _ (newList []) iS (eval iter X.env) (iO (assign (.Name x pos') X.env))) _ _ s;have n:=Vm (α:=Unit) (Z:=λr=>PoS C own (i::vF own [i]) σ F H (r.bind λp=>if i < p.2.length then .ok (.nx,p.2.set i (iO p.1)) else .bad) D) rp (λz=>z) (λc _ z=>z) h;refine iP (lB (wpAny_comprehension_free (use:=iO (assign (.Name x pos') X.env)) (Q:=λ_ s'=>SP X pins D .next s') rfl hs (QT (ga I S)) S.kind S.names (thn (hi pins s σ H _ I n) λxv s1 h1=>thn h1 λitv s2 h2=>?_)) (λ_ s' hq=>iV (iV hq)) λ_ _ e=>e);obtain ⟨it,fp,tn,J,H2,e,I2,T,l,f2,ds,ρ1,ys,ρe,F1,hz,f,B,c1,O,po⟩:=h2;subst e;refine Vl (RR:=λacc C'=>compPost (model X.prog X.w) X.A X.xe (iO (assign (.Name x pos') X.env)) (λ_ s'=>SP X pins D .next s') acc C') I2 P S CO T l f2 B O hz hg ht he M f λp L s' F' H' hp d c' nF o K hfp k=>?_;obtain ⟨m,hn⟩:=K;have I3:Inv X pins σ H' s':=by simpa using k s'.heap (.refl ..)
 have hH:H p=none:=by
  cases q:H p with
  | none=>rfl
  | some u=>exact absurd hp (c1.stay p (by rw [q]; simp))
 show iW _ X.A (assign (.Name x pos') X.env (.ref p)) _ _ s';refine wpAny_assign_Name (KJ I3 hN V hx (v:=.ref p) rfl (λs4 I4 ⟨a,t,ha⟩=>?_) Y);obtain ⟨f0,f1,f2',f3,f4,f5⟩:=hfp;have nL:L≠a:=by
  rcases ha with z | z;·rw [z]; exact f1
  ·exact λq=>f4 x a z q.symm
 refine ⟨m,hn.sameBut t nL,λh' sb=>?_⟩;have I5:Inv X pins (σ.set i (iO (.ref p))) H' { s4 with heap:=h' }:=by have:=I4.turned (h':=h') (t':=s4.toks) (it:=L) (λb o hb e=>(sb.2 b hb).trans e) f0 f1 f3 f4 f5;exact this
 refine ⟨_,H',I5,?_⟩;have po:PoS C own (i::vF own [i]) σ F H (if i < (jS own ρe nt cap ρ1).length then .ok (.nx,(jS own ρe nt cap ρ1).set i (iO (.lst ys))) else .bad) D:=po;by_cases z:i < (jS own ρe nt cap ρ1).length
 ·rw [Aa z] at po;refine po _ F' H' ⟨d.putO z nF (λy=>(rp.OA_there y).1 hH) o,c1.trans' c',λb y=>?_,λj U=>aw λy=>W (by rw [y]; exact U)⟩;obtain ⟨j,U,e⟩:=y;by_cases E:j=i;·subst E;rw [aI (by rw [d.len]; exact z)] at e;cases e;exact .inr hH
  ·have R:=(qY j).mp ((af.mp U).resolve_left E);rw [aw (bb E)] at e;exact .inl ⟨j,R.1,e⟩
 ·rw [Ab z] at po; exact po.elim
end
def Fly (h:Heap) (ex T:Addr) (cls:iR):Prop:=∃ o vs a ts,h.get? ex=iO o/\o.cls=cls/\o.data=.fields vs/\vs[1]?=iO (.ref T)/\T≠ex/\h.get? T=iO a/\a.data=.fields ts/\ts[3]?=iO .none
def CXk (P:i7) (w:i8):CXT:=λouter H s E e s'=>∃ ex T C H',e=.ref ex/\s'.os=s.os/\mO s'.gens/\Un (frs outer) [] H H' s.heap s'.heap/\HOk P w H' s'.heap/\Fly s'.heap ex T (.ref C)/\H' ex=iQ/\H' T=iQ/\s.heap.get? ex=iQ/\s.heap.get? T=iQ/\E (.ref C) iQ H'
def InB (X:Cx) (H:Hp) (s:iU) (ex:Addr) (cls:iR):Prop:=H ex=iQ/\X.s₀.heap.get? ex=iQ /\
 ((∃ o vs,s.heap.get? ex=iO o/\o.cls=cls/\o.data=.fields vs/\vs[1]?=iO .none)\/∃ T,Fly s.heap ex T cls/\H T=iQ/\X.s₀.heap.get? T=iQ)
variable {ex:Addr} {T0:Option Addr} {h2:Heap}
section
variable {cls:iR}
noncomputable def yF (ex:Addr) (T:Option Addr) (X:Cx):List Addr:=ex::(T.toList++frs X.stack)
theorem yG (I:Inv X pins σ H s) (d:b∈frs X.stack):∃ o,s.heap.get? b=iO o/\∀ vs,o.data≠.fields vs:=(I.stack.mem d).2
theorem Vn (hs:X.stack=X.env::X.outer):∀ env∈X.stack,∀ b,env.frame=iO b->b∈frs X.stack:=λenv i b d=>fJ.mpr ⟨env,i,d⟩
structure Gone (X:Cx) (H:Hp) (s:iU) (ex:Addr) (cls:iR) (h2:Heap):Prop where
 keep:∀ b o,s.heap.get? b=iO o->H b≠iQ\/(X.s₀.heap.get? b≠iQ/\b∉frs X.stack)->h2.get? b=iO o
 slot:∀ b o,s.heap.get? b=iO o->b∈frs X.stack->∃ sl,h2.get? b=iO { o with slots:=sl }
 ok:HOk X.prog X.w H h2
 un:Un (frs X.stack) [] H H s.heap h2\/True
theorem GL {h2:Heap} (I:Inv X pins σ H s) (hex:H ex=iQ) (hT:∀ T,T0=iO T->H T=iQ) (n1:X.s₀.heap.get? ex=iQ) (n2:∀ T,T0=iO T->X.s₀.heap.get? T=iQ)
  (st:(bj s.heap (yF ex T0 X)).StaysIn h2) (sl:∀ b o,s.heap.get? b=iO o->(∀ vs,o.data≠.fields vs)->∃ sl,h2.get? b=iO { o with slots:=sl }):Gone X H s ex cls h2:=by
 have keep:∀ b o,s.heap.get? b=iO o->b≠ex->(∀ T,T0=iO T->b≠T)->b∉frs X.stack->h2.get? b=iO o:=λb o e h1 h2 h3=>st b o (cV _ e λm=>by
  rcases af.mp m with q | m;·exact h1 q
  ·rcases aG.mp m with q | q;·exact h2 b (Option.mem_toList.mp q) rfl
   ·exact h3 q)
 have k1:∀ b o,s.heap.get? b=iO o->H b≠iQ->h2.get? b=iO o:=λb o e n=>keep b o e (λq=>n (by rw [q]; exact hex)) (λT h q=>n (by rw [q]; exact hT T h)) λq=>n (I.stkFree b q);refine ⟨λb o e d=>?_,λb o e d=>?_,λb u e=>?_,.inr trivial⟩
 ·rcases d with d | ⟨d,hf⟩
  ·exact k1 b o e d
  ·exact keep b o e (λq=>d (by rw [q]; exact n1)) (λT h q=>d (by rw [q]; exact n2 T h)) hf
 ·obtain ⟨o',a,y⟩:=yG I d;rw [e] at a; cases a;exact sl b o e y
 ·refine (I.hok b u e).stay (λc v f q=>k1 c v q ?_) (λ_ q=>q) λ_ _ q=>q;rcases f with z | z;·rw [z,e]; simp
  ·rw [z]; simp
theorem Vo (I:Inv X pins σ H s) (hT:∀ T,T0=iO T->H T=iQ) (n2:∀ T,T0=iO T->X.s₀.heap.get? T=iQ) (g:Gone X H s ex cls h2) (h:X.ex=[])
  (t:h2.Traced (bj s.heap (yF ex T0 X)) ex cls):∃ T,Fly h2 ex T cls/\H T=iQ/\X.s₀.heap.get? T=none:=by
 obtain ⟨w,vs,T,x,ts,L,K,J,G,p,l,k,j,E⟩:=t;have c:∀ o,s.heap.get? T=iO o->(∃ q,T0=iO q/\T=q):=λo e=>by
  have m:T∈yF ex T0 X:=by refine bH λB=>?_;rw [cV _ e B] at p;cases p
  rcases af.mp m with q | m;·exact absurd q l
  ·rcases aG.mp m with q | q;·exact ⟨T,Option.mem_toList.mp q,rfl⟩
   ·obtain ⟨o',d,A⟩:=yG I q;obtain ⟨sl,i⟩:=g.slot T o' d q;rw [k] at i;cases i;exact absurd j (A ts)
 refine ⟨T,⟨w,vs,x,ts,L,K,J,G,l,k,j,E⟩,?_,?_⟩
 ·cases q:H T with
  | none=>rfl
  | some u=>
   have D:=I.hok.lt q;obtain ⟨o,e⟩:∃ o,s.heap.get? T=iO o:=by
    have:=(I.hok T u q)
    have st:=this.stay (H':=H) (h':=s.heap) (λb v _ z=>z) (λ_ z=>z) λ_ _ z=>z;cases z:s.heap.get? T with
    | some o=>exact ⟨o,rfl⟩
    | none=>
     exfalso;cases u with
     | lst xs=>obtain ⟨_,_,_,_,e⟩:=st; rw [z] at e; cases e
     | tup xs=>obtain ⟨_,_,_,_,e,_⟩:=st; rw [z] at e; cases e
     | dK kvs=>obtain ⟨_,_,_,_,o,_,_,e,_⟩:=st; rw [z] at e; cases e
     | dT kvs=>obtain ⟨_,_,_,_,o,_,_,e,_⟩:=st; rw [z] at e; cases e
     | set S n=>obtain ⟨o,_,_,_,e,_⟩:=st; rw [z] at e; cases e
     | ins C dx fs=>obtain ⟨_,_,_,e,_⟩:=st; rw [z] at e; cases e
     | own y=>obtain ⟨_,e⟩:=st; rw [z] at e; cases e
     | xd fs=>obtain ⟨_,⟨_,_,_,e,_⟩,_⟩:=st; rw [z] at e; cases e
     | rng lo hi=>obtain ⟨_,_,_,e⟩:=st; rw [z] at e; cases e
     | frz M u=>obtain ⟨e,_⟩:=st; rw [z] at e; cases e
     | tbl ps=>have e:s.heap.get? T=iO _:=st; rw [z] at e; cases e
     | met f y=>have e:s.heap.get? T=iO _:=st; rw [z] at e; cases e
     | ext φ=>obtain ⟨_,⟨_,e⟩,_⟩:=st; rw [z] at e; cases e
   obtain ⟨r,a,rfl⟩:=c o e;rw [hT _ a] at q; cases q
 ·cases q:X.s₀.heap.get? T with
  | none=>rfl
  | some o=>obtain ⟨o',d⟩:=I.base.there T o q (by rw [h]; simp);obtain ⟨r,a,rfl⟩:=c o' d;rw [n2 _ a] at q; cases q
theorem XT {E:iR->iU->Prop} {Q:Unit->iU->Prop} (I:Inv X pins σ H s) (h:X.stack=X.env::X.outer) (r:X.env.frame=iO X.env.locals) (a:X.ex=[]) (x:InB X H s ex cls)
  (k:∀ h2 T,Gone X H s ex cls h2->Fly h2 ex T cls->H T=iQ->X.s₀.heap.get? T=iQ->Q () { s with heap:=h2 }):iW (model X.prog X.w) X.A (leaving X.env (.ref ex)) Q E s:=by
 obtain ⟨hex,n1,hx⟩:=x;have F:X.A.frames=iO (X.env::X.outer):=by rw [I.ok.frames,h]
 have B:∀ as,(bj s.heap as).StaysIn s.heap:=λas b o e=>eh as e;have hl:∀ T0,s.heap.FunFrames (bj s.heap (yF ex T0 X)) (X.env::X.outer):=λT0=>by rw [<-h];exact PySem.W.funFrames_hide I.stack λenv C b D=>ae _ (aU _ (Vn h env C b D))
 have v:∀ T0,(bj s.heap (yF ex T0 X)).get? ex=none:=λT0=>cP _ (af.mpr (.inl rfl));rcases hx with ⟨u,vs,m,l,j,i⟩ | ⟨T,⟨u,vs,y,ts,m,l,j,i,L,K,J,G⟩,hT,n2⟩
 ·refine wpAny_leaving_first (base:=bj s.heap (yF ex iQ X)) F (hl iQ) r m (B _) (v iQ) j i λh2 ⟨st,_,t,sl⟩=>?_;have g:Gone X H s ex cls h2:=GL I hex (T0:=iQ) (λ_ z=>nomatch z) n1 (λ_ z=>nomatch z) st sl;rw [l] at t;obtain ⟨p,f1,f2,q⟩:=Vo I (T0:=iQ) (λ_ z=>nomatch z) (λ_ z=>nomatch z) g a t;exact k h2 p g f1 f2 q
 ·have d:∀ c,iO T=iO c->H c=none:=λc z=>by cases z; exact hT
  have n:∀ c,iO T=iO c->X.s₀.heap.get? c=none:=λc z=>by cases z; exact n2
  have f:s.heap.Traced (bj s.heap (yF ex (iO T) X)) ex cls:=⟨u,vs,T,y,ts,m,l,j,i,cP _ (ae _ (ci _ (by simp))),L,K,J,G⟩
  refine wpAny_leaving_next (base:=bj s.heap (yF ex (iO T) X)) F (hl (iO T)) r f (B _) (v _) λh2 ⟨st,_,t,sl⟩=>?_;have g:Gone X H s ex cls h2:=GL I hex d n1 n st sl;obtain ⟨p,f1,f2,q⟩:=Vo I d n g a t;exact k h2 p g f1 f2 q
end
variable {A:j9} {P:i7} {w:i8} {mg:Str->Option iR} {base h:Heap} {qual:Str} {cd:iR} {outer:List Env} {s0:iU}
section
variable {E:XK}
abbrev cxk (P:i7) (w:i8) (K:Frag) (mg:Str->Option iR) (base:Heap) (N:List Str) (qual:Str) (scope:mC) (f:Addr) (cd:iR) (A:j9) (outer:List Env) (s0:iU) (H0:Hp) (E:XK):Cx:=qd2 (CXk P w) P w K mg base N qual scope f cd A outer s0 H0 E
theorem qgG {C:Addr} (I:Inv (cxk P w K mg base N qual scope f cd A outer s0 H0 E) pins σ H s) (x:InB (cxk P w K mg base N qual scope f cd A outer s0 H0 E) H s ex (.ref C)) (k:E (.ref C) iQ H):(cxk P w K mg base N qual scope f cd A outer s0 H0 E).xe (.ref ex) s:=by
 refine XT I rfl rfl rfl x λh2 T g l hT j=>?_;have a:=I.base;have L:∀ b o,s0.heap.get? b=iO o->b≠(cxk P w K mg base N qual scope f cd A outer s0 H0 E).env.locals:=λb o e=>ay (aH (aq e) I.ok.above);have t:∀ b o,s0.heap.get? b=iO o->b∉frs outer->b∉frs (cxk P w K mg base N qual scope f cd A outer s0 H0 E).stack:=λb o e d z=>by
  rcases af.mp (I.stkSub b z) with q | q;·exact L b o e q
  ·exact d q
 have i:∀ b,b∈frs outer->b∈frs (cxk P w K mg base N qual scope f cd A outer s0 H0 E).stack:=λb d=>by show b∈frs (_::outer);unfold frs;rw [cu];exact ae _ d
 refine ⟨ex,T,C,H,rfl,I.os,I.bare,⟨λb o e n d hx=>?_,λb o e n d hx=>?_,a.free,λb o e hx=>?_,a.tups,a.frzs,a.tbls⟩,g.ok,l,x.1,hT,x.2.1,j,k⟩;·exact g.keep b o (a.keep b o e n d hx) (.inr ⟨by show s0.heap.get? b≠iQ; rw [e]; simp,t b o e d⟩)
 ·obtain ⟨sl,q⟩:=a.slot b o e n d hx;obtain ⟨c,h⟩:=g.slot b _ q (i b d);exact ⟨c,h⟩
 ·obtain ⟨o',q⟩:=a.there b o e hx;by_cases d:b∈frs (cxk P w K mg base N qual scope f cd A outer s0 H0 E).stack;·obtain ⟨sl,h⟩:=g.slot b o' q d;exact ⟨_,h⟩
  ·exact ⟨o',g.keep b o' q (.inr ⟨by show s0.heap.get? b≠iQ; rw [e]; simp,d⟩)⟩
theorem qex {e:iR} (a:X.ex=[]) (I:Inv X pins σ H s) (h:CXk X.prog X.w X.stack H s E e s'):∃ ex C H',e=.ref ex/\Inv X pins σ H' s'/\InB X H' s' ex (.ref C)/\E (.ref C) iQ H':=by
 obtain ⟨ex,T,C,H',rfl,os,bare,un,hok,l,e1,i,n1,n2,k⟩:=h;have old:∀ b,s.heap.get? b=iQ->X.s₀.heap.get? b=none:=λb d=>by
  cases q:X.s₀.heap.get? b with
  | none=>rfl
  | some o=>obtain ⟨o',c⟩:=I.base.there b o q (by rw [a]; simp);rw [d] at c; cases c
 exact ⟨ex,C,H',rfl,I.call' (ch:=[]) os un hok bare (λb z=>absurd z (by simp)),⟨e1,old ex n1,.inr ⟨T,l,i,old T n2⟩⟩,k⟩
theorem wF:ky (CXk P w) (cxk P w K mg base N qual scope f cd A outer s0 H0 E) E:=λpins σ H s e s' I h=>by obtain ⟨ex,C,H',rfl,b,x,k⟩:=qex rfl I h;exact qgG b x k
theorem qey {C:Addr} {b:List iR} {d:String} (kin:K.In h) (c:mg x=iO (.ref C)) (q:d7 K C b d=iT):OwnCls x C b d mg h:=by
 refine ⟨c,?_⟩;unfold d7 at q;split at q
 case h_2=>cases q
 case h_1 dd cd sl lk=>
  split at q
  case h_2=>cases q
  case h_1 C' bm a0 a1 a2 a3 n a5 em es=>
   have g:=q;simp only [aN,beq_iff_eq,eZ] at g;obtain ⟨⟨⟨⟨⟨e1,i⟩,l⟩,tl⟩,k⟩,t⟩:=g;obtain ⟨nm,bs,mro,ns,a,hd,sn,sub,ab,col,del⟩:=cd;dsimp only at em l k t;obtain ⟨s⟩:=sl;dsimp only at es;subst em l es e1 i;exact ⟨bm,ns,nm,a,bs,hd,sn,sub,ab,col,dd,a0,a1,a2,a3,a5,_,kin _ _ lk,.of_isNs (PySem.W.isNs_of_in kin k),PySem.W.nsMap_none_of_in kin k t,PySem.W.tail_of_in kin tl⟩
end
theorem qde {T:Addr} (hok:HOk P w H h) (q:H T=iO u):∃ o,h.get? T=iO o:=by
 have st:=hok T u q;cases z:h.get? T with
 | some o=>exact ⟨o,rfl⟩
 | none=>
  exfalso;cases u with
  | lst xs=>obtain ⟨_,_,_,_,e⟩:=st; rw [z] at e; cases e
  | tup xs=>obtain ⟨_,_,_,_,e,_⟩:=st; rw [z] at e; cases e
  | dK kvs=>obtain ⟨_,_,_,_,o,_,_,e,_⟩:=st; rw [z] at e; cases e
  | dT kvs=>obtain ⟨_,_,_,_,o,_,_,e,_⟩:=st; rw [z] at e; cases e
  | set S n=>obtain ⟨o,_,_,_,e,_⟩:=st; rw [z] at e; cases e
  | ins C dx fs=>obtain ⟨_,_,_,e,_⟩:=st; rw [z] at e; cases e
  | own y=>obtain ⟨_,e⟩:=st; rw [z] at e; cases e
  | xd fs=>obtain ⟨_,⟨_,_,_,e,_⟩,_⟩:=st; rw [z] at e; cases e
  | rng lo hi=>obtain ⟨_,_,_,e⟩:=st; rw [z] at e; cases e
  | frz b u=>obtain ⟨e,_⟩:=st; rw [z] at e; cases e
  | tbl ps=>have e:h.get? T=iO _:=st; rw [z] at e; cases e
  | met f y=>have e:h.get? T=iO _:=st; rw [z] at e; cases e
  | ext φ=>obtain ⟨_,⟨_,e⟩,_⟩:=st; rw [z] at e; cases e
abbrev bmV:List iR:=[.type "ValueError",.type "Exception",.type "BaseException",.type "object"]
noncomputable def jd (x:Str) (fr:wq):qK:=λρ=>(fr ρ).bind λp=>.exc x p.2
theorem PoS.bindA {as:List AK} {o:Out (List D×Sl)} {k:List D×Sl->Out (Fl×Sl)} {D:Ends} {R:List V->Hp->Prop} (hp:PoS C own own' σ F H (o.bind k) D)
  (h:∀ vs F1 H1 ds ρ1,Rep C.K own F1 H1 σ ρ1->Chg (OA own σ) F H F1 H1->ArgV C.K H F1 H1 σ as vs ds->PoS C own own' σ F1 H1 (k (ds,ρ1)) D->R vs H1):PoA C own as σ F H o R:=by
 cases o with
 | ok p=>obtain ⟨ds,ρ1⟩:=p;exact λvs F1 H1 a c v=>h vs F1 H1 ds ρ1 a c v (PoS.shift (show PoS C own own' σ F H (k (ds,ρ1)) D from hp) (.ofE a c))
 | exc x=>exact hp
 | bad=>exact hp.elim
def Yn (X:Cx) (C:Ct):Prop:=∀ (pins:Pns) (σ:St) (H:Hp) (s:iU) (ex A:Addr),Inv X pins σ H s->InB X H s ex (.ref A)->C.E (.ref A) iQ H->X.xe (.ref ex) s
theorem qgH:Yn (cxk P w K mg base N qual scope f cd A outer s0 H0 C.E) C:=λpins σ H s ex A I x k=>qgG I x k
variable {Cc:Addr}
section
variable {fr:wq} {np cpos:Pos}
theorem ArgV.len:∀ {as:List AK} {vs:List V} {ds:List D},ArgV K H0 F H σ as vs ds->vs.length=as.length
 | [],[],[],_=>rfl
 | .vl::as,v::vs,d::ds,h=>congrArg (·+1) (ArgV.len h.2)
 | .sl i::as,v::vs,d::ds,h=>congrArg (·+1) (ArgV.len h.2.2)
 | .fr::as,v::vs,d::ds,h=>congrArg (·+1) (ArgV.len h.2)
 | [],_::_,_,h=>h.elim
 | [],[],_::_,h=>h.elim
 | .vl::_,[],_,h=>h.elim
 | .vl::_,_::_,[],h=>h.elim
 | .sl _::_,[],_,h=>h.elim
 | .sl _::_,_::_,[],h=>h.elim
 | .fr::_,[],_,h=>h.elim
 | .fr::_,_::_,[],h=>h.elim
theorem GM (d:X.ex=[]) (ht:Yn X C) (P:X.calm=iT) (hg:Gl X x) (m:X.mg x=iO (.ref Cc)) (v:C.cv x=.ref Cc) (q:d7 X.K Cc bmV "ValueError.__new__"=iT) (z:PA X (e::es) (tAr C own as fr)) (hsz:as.length<=1000:=by decide) (g:∀ i∈C.ox,i∈own:=by exact kj rfl) (hd:Dbg x:=by decide)
  (j:iX (e::es) X.env=(iS,eval e X.env)::iX es X.env:=by exact jl rfl) (l:(li cpos (iX es X.env)).any (·.1)=false:=by rfl) :
  PS X (.Raise (iO (.Call (.Name x np) (e::es) [] cpos)) iQ pos) (tSt C own own' (jd x fr)):=by
 refine ⟨?_⟩;intro pins s σ H D I ⟨F,ρ,r,h⟩;obtain ⟨tl,N,nm,p,bs,hdct,sn,sub,ab,col,dd,k0,k1,k2,k3,k5,mN,hC,A,f,T⟩:=(qey I.ok.mod.kin m q).obj;refine wpAny_Raise_call_subT (C:=Cc) (nm:=nm) (q:=p) (N:=N) (bs:=bs) (bm:=tl) (hdct:=hdct) (sn:=sn) (sub:=sub) (ab:=ab) (col:=col) (dd:=dd) (k0:=k0) (k1:=k1) (k2:=k2) (k3:=k3) (k5:=k5)
  PySem.F.excBase_ValueError (mN:=mN) (T.hasType PySem.F.excBase_ValueError.hasBase) (I.ok.hd P) (by rw [j]; show (iS||(li cpos (iX es X.env)).any (·.1))=iS; rw [l]; rfl) f (xh I hg m ⟨rfl,?_⟩ hd)
 have n:tAr C own as fr σ H λvs H1=>vs.length<=sizeLine/\C.E (.ref Cc) iQ H1:=by
  refine ⟨F,ρ,r,PoS.bindA h λvs F1 H1 ds ρ1 a c1 G h1=>⟨?_,?_⟩⟩;·rw [G.len]; exact bu hsz (by rw [i9]; decide)
  ·rw [<-v]; exact h1 F1 H1 a.sub (a.ioIs g) .refl
 have run:=z cpos pins s σ H _ I n;rw [j] at run ⊢;refine dP (lB run (λus s2 ⟨vs,H2,c,r2,z2,B⟩=>?_) λ_ _ y=>y);refine ⟨rfl,by rw [<-r2.length]; exact z2,c.bk _ _ hC,A.keeps c.bk,T.keeps c.bk,λh' ex mk=>?_⟩;have J:Inv X pins σ H2 { s2 with heap:=h' }:=c.kept (t':=s2.toks) mk.keeps;obtain ⟨t,h1,h2,h3⟩:=mk.there;refine ht pins σ H2 _ ex Cc J ⟨?_,?_,.inl ⟨_,_,h1,rfl,rfl,rfl⟩⟩ B
 ·cases b:H2 ex with
  | none=>rfl
  | some u=>have w:=c.hok.lt b;refine absurd mk.new ?_;obtain ⟨o,e⟩:=qde c.hok b;rw [e]; simp
 ·cases b:X.s₀.heap.get? ex with
  | none=>rfl
  | some o=>obtain ⟨o',k⟩:=c.base.there ex o b (by rw [d]; simp);rw [mk.new] at k; cases k
end
structure Caught (X:Cx) (pins:Pns) (H:Hp) (s:iU) (ex T Cc:Addr):Prop where
 fly:Fly s.heap ex T (.ref Cc)
 hex:H ex=iQ
 hT:H T=iQ
 n1:X.s₀.heap.get? ex=iQ
 n2:X.s₀.heap.get? T=iQ
 pp:∀ p∈X.pn++pins,p.1≠ex/\p.1≠T
variable {xe:iR->iU->Prop}
section
variable {T:Addr}
theorem Caught.dex (c:Caught X pins H s ex T Cc):∃ o vs,s.heap.get? ex=iO o/\o.data=.fields vs:=let ⟨o,vs,a,ts,m,k,z,_⟩:=c.fly; ⟨o,vs,m,z⟩
theorem Caught.dT (c:Caught X pins H s ex T Cc):∃ o vs,s.heap.get? T=iO o/\o.data=.fields vs:=let ⟨o,vs,a,ts,m,b,z,q,p,l,k,_⟩:=c.fly; ⟨a,ts,l,k⟩
theorem Yo {h2:Heap} (I:Inv X pins σ H s) (g:X.stack=X.env::X.outer) (j:X.env.frame=iO X.env.locals) (K:X.ex=[]) (c:Caught X pins H s ex T Cc)
  (keep:∀ b o,s.heap.get? b=iO o->b≠ex->b≠T->b∉frs X.stack->h2.get? b=iO o)
  (slot:∀ b o,s.heap.get? b=iO o->b∈frs X.stack->∃ sl,h2.get? b=iO { o with slots:=sl }):Inv X pins σ H { s with heap:=h2 }:=by
 obtain ⟨Z,ve,N,R⟩:=c.dex;obtain ⟨F,Y,hT,dT⟩:=c.dT;have G:∀ b o,s.heap.get? b=iO o->(∀ vs,o.data≠.fields vs)->b≠ex/\b≠T:=λb o e n=>by
  constructor;·rintro rfl; rw [N] at e; cases e; exact n _ R
  ·rintro rfl; rw [hT] at e; cases e; exact n _ dT
 have W:X.env.locals∈frs X.stack:=by rw [g]; unfold frs; rw [cu,j]; exact aj
 have L:∀ b o,X.s₀.heap.get? b=iO o->b≠X.env.locals:=λb o e=>ay (aH (aq e) I.ok.above);have w:∀ b o,X.s₀.heap.get? b=iO o->b∉X.fs->b∉frs X.stack:=λb o e h z=>by
  rcases af.mp (I.stkSub b z) with q | q;·exact L b o e q
  ·exact h q
 have y:∀ b,b∈X.fs->b∈frs X.stack:=λb h=>by rw [g]; unfold frs; rw [cu,j]; exact ae _ h
 have f:∀ b o,X.s₀.heap.get? b=iO o->b≠ex/\b≠T:=λb o e=>⟨(by rintro rfl; rw [c.n1] at e; cases e),(by rintro rfl; rw [c.n2] at e; cases e)⟩
 have A:∀ {a:Addr} {v:Option iR},s.heap.IsCell a v->h2.IsCell a v:=λ{a v} ⟨oc,e1,l⟩=>by
  have q:=G a oc e1 λvs z=>by rw [l] at z; cases z
  by_cases h:a∈frs X.stack;·obtain ⟨sl,z⟩:=slot a oc e1 h;exact ⟨_,z,l⟩
  ·exact ⟨oc,keep a oc e1 q.1 q.2 h,l⟩
 refine ⟨I.ok,I.os,I.bare,⟨λb o e n h hx=>?_,λb o e n h hx=>?_,I.base.free,λb o e hx=>?_,I.base.tups,I.base.frzs,I.base.tbls⟩,?_,λx a e=>?_,I.free,I.freeC,λp hp=>?_,λb u e=>?_,I.len⟩;·exact keep b o (I.base.keep b o e n h hx) (f b o e).1 (f b o e).2 (w b o e h)
 ·obtain ⟨sl,q⟩:=I.base.slot b o e n h hx;obtain ⟨t,E⟩:=slot b _ q (y b h);exact ⟨t,E⟩
 ·obtain ⟨o',q⟩:=I.base.there b o e hx;by_cases h:b∈frs X.stack;·obtain ⟨sl,z⟩:=slot b o' q h;exact ⟨_,z⟩
  ·exact ⟨o',keep b o' q (f b o e).1 (f b o e).2 h⟩
 ·obtain ⟨m,⟨o,es,ep,M,r⟩,hl⟩:=I.loc;obtain ⟨sl,P⟩:=slot _ o M W;refine ⟨m,⟨_,es,ep,P,r⟩,λi x v e1 l Q=>?_⟩;obtain ⟨u,D,J⟩:=hl i x v e1 l Q;refine ⟨u,D,?_⟩;rcases J with z | ⟨k,a,e,z⟩
  ·exact .inl z
  ·exact .inr ⟨k,a,e,A z⟩
 ·obtain ⟨v,z⟩:=I.cell x a e;exact ⟨v,A z⟩
 ·obtain ⟨V,U,C,B,S⟩:=I.pin p hp;refine ⟨keep p.1 p.2 V (c.pp p hp).1 (c.pp p hp).2 λz=>?_,U,C,B,S⟩;rcases af.mp (I.stkSub p.1 z) with q | q;·exact C q
  ·exact B q
 ·refine (I.hok b u e).stay (λd v O q=>?_) (λ_ q=>q) λ_ _ q=>q;have hd:H d≠none:=by
   rcases O with z | z;·rw [z,e]; simp
   ·rw [z]; simp
  exact keep d v q (λz=>hd (by rw [z]; exact c.hex)) (λz=>hd (by rw [z]; exact c.hT)) λz=>hd (I.stkFree d z)
theorem QU {C:iR} (I:Inv X pins σ H s) (d:X.ex=[]) (c:Caught X pins H s ex T Cc) (slot:∀ b o,s.heap.get? b=iO o->b∈frs X.stack->∃ sl,h2.get? b=iO { o with slots:=sl })
  (t:h2.TracedW (bj s.heap (yF ex (iO T) X)) ex (.ref Cc) C):∃ a,Caught X pins H { s with heap:=h2 } ex a Cc:=by
 obtain ⟨m,vs,a,r,ts,B,⟨A,_⟩,z,x,l,k,j,g,w⟩:=t;have n:∀ o,s.heap.get? a=iO o->a=T:=λo e=>by
  have h:a∈yF ex (iO T) X:=by refine bH λv=>?_;rw [cV _ e v] at l;cases l
  rcases af.mp h with q | h;·exact absurd q k
  ·rcases aG.mp h with q | q;·simpa using q
   ·obtain ⟨o',f,y⟩:=yG I q;obtain ⟨sl,i⟩:=slot a o' f q;rw [j] at i;cases i;exact absurd g (y ts)
 refine ⟨a,⟨m,vs,r,ts,B,A,z,x,k,j,g,w⟩,c.hex,?_,c.n1,?_,λp hp=>⟨(c.pp p hp).1,?_⟩⟩
 ·cases q:H a with
  | none=>rfl
  | some u=>obtain ⟨o,e⟩:=qde I.hok q;rw [n o e,c.hT] at q; cases q
 ·cases q:X.s₀.heap.get? a with
  | none=>rfl
  | some o=>obtain ⟨o',f⟩:=I.base.there a o q (by rw [d]; simp);rw [n o' f,c.n2] at q; cases q
 ·rintro rfl;exact (c.pp p hp).2 (n _ (I.pin p hp).1)
theorem QV (st:(bj s.heap (yF ex (iO T) X)).StaysIn h2):∀ b o,s.heap.get? b=iO o->b≠ex->b≠T->b∉frs X.stack->h2.get? b=iO o:=λb o e h1 h2 h3=>st b o (cV _ e λc=>by
  rcases af.mp c with q | c;·exact h1 q
  ·rcases aG.mp c with q | q;·exact h2 (by simpa using q)
   ·exact h3 q)
theorem Vp (c:Caught X pins H s ex T Cc):∃ C,s.heap.TracedW (bj s.heap (yF ex (iO T) X)) ex (.ref Cc) C:=by obtain ⟨o,vs,a,ts,m,b,z,q,p,l,k,j⟩:=c.fly;have hz:0 < vs.size:=Nat.lt_of_succ_lt (Array.getElem?_eq_some_iff.mp q).1;exact ⟨vs[0],o,vs,T,a,ts,m,⟨b,by simp [hz]⟩,z,q,cP _ (ae _ (ci _ (by simp))),p,l,k,j⟩
theorem QW (I:Inv X pins σ H s) (h:X.stack=X.env::X.outer):s.heap.FunFrames (bj s.heap (yF ex (iO T) X)) (X.env::X.outer):=by rw [<-h];exact PySem.W.funFrames_hide I.stack λenv i b d=>ae _ (aU _ (Vn h env i b d))
theorem Vq {E:iR->iU->Prop} {Q:Unit->iU->Prop} (hA:A.frames=iO X.stack) (I:Inv X pins σ H s) (h:X.stack=X.env::X.outer) (r:X.env.frame=iO X.env.locals) (d:X.ex=[]) (c:Caught X pins H s ex T Cc)
  (k:∀ s' p,Inv X pins σ H s'->Caught X pins H s' ex p Cc->Q () s'):iW (model X.prog X.w) A (noteFrame (.ref ex) X.env) (λ_ s1=>iW (model X.prog X.w) A (setFlight (.ref ex) iQ) Q E s1) E s:=by
 obtain ⟨C,t⟩:=Vp c;refine wpAny_looks_onW (by rw [hA,h]) r ⟨λb o e=>eh _ e,cP _ (af.mpr (.inl rfl)),QW I h,t⟩ λh1 a i=>?_;refine wpAny_landsW a λh2 l u=>?_;have slot:∀ b o,s.heap.get? b=iO o->b∈frs X.stack->∃ sl,h2.get? b=iO { o with slots:=sl }:=λb o e m=>by obtain ⟨o',g,y⟩:=yG I m;rw [e] at g; cases g;obtain ⟨sl,q⟩:=i b o e y;obtain ⟨f,j⟩:=u b _ q y;exact ⟨f,j⟩
 obtain ⟨p,S⟩:=QU I d c slot l.2.2.2;have n:Inv X pins σ H { s with heap:=h2 }:=Yo I h r d c (QV l.1) slot;exact k { s with heap:=h2 } p n S
theorem gb {A:j9} {E:iR->iU->Prop} {Q:Unit->iU->Prop} (I:Inv X pins σ H s) (h:X.stack=X.env::X.outer) (r:X.env.frame=iO X.env.locals) (d:X.ex=[]) (c:Caught X pins H s ex T Cc)
  (k:∀ s' p,Inv X pins σ H s'->Caught X pins H s' ex p Cc->Q () s'):iW (model X.prog X.w) A (setFlight (.ref ex) iQ) Q E s:=by
 obtain ⟨C,f⟩:=Vp c;refine wpAny_setFlight_noneW (base:=bj s.heap (yF ex (iO T) X)) (λb o e=>eh _ e) (QW I h) f λh2 st _ t kp=>?_;have slot:∀ b o,s.heap.get? b=iO o->b∈frs X.stack->∃ sl,h2.get? b=iO { o with slots:=sl }:=λb o e g=>by obtain ⟨o',a,y⟩:=yG I g;rw [e] at a; cases a;exact ⟨o.slots,kp b o e y⟩
 obtain ⟨p,S⟩:=QU I d c slot t;exact k _ p (Yo I h r d c (QV st) slot) S
theorem qgI (I:Inv X pins σ H s) (c:Caught X pins H s ex T Cc):Inv X pins σ (upd H ex (Jw ex Cc)) s:=by
 obtain ⟨g,vs,w,ts,f,t,h,_⟩:=c.fly;have y:∀ b o,s.heap.get? b=iO o->(∀ vs,o.data≠.fields vs)->b≠ex:=λb o e n=>by rintro rfl; rw [f] at e; cases e; exact n _ h
 have up:∀ {b:Addr} {u:HO},H b=iO u->upd H ex (Jw ex Cc) b=iO u:=λ{b u} e=>by rw [qu (qA e c.hex)]; exact e
 refine ⟨I.ok,I.os,I.bare,⟨I.base.keep,I.base.slot,λb o e n hx=>?_,I.base.there,λb xs e=>up (I.base.tups b xs e),λb o u e=>up (I.base.frzs b o u e),λb ps e=>?_⟩,I.loc,I.cell,?_,λx a e=>?_,λp hp=>?_,λb u e=>?_,I.len⟩;·rw [qu (by rintro rfl; rw [c.n1] at e; cases e)]; exact I.base.free b o e n hx
 ·obtain ⟨more,z⟩:=I.base.tbls b ps e;exact ⟨more,up z⟩
 ·obtain ⟨m,⟨o,es,ep,l,hd,_⟩,_⟩:=I.loc;rw [qu (y _ o l λvs z=>by rw [hd] at z; cases z)]; exact I.free
 ·obtain ⟨v,oc,e1,i⟩:=I.cell x a e;rw [qu (y _ oc e1 λvs z=>by rw [i] at z; cases z)]; exact I.freeC x a e
 ·obtain ⟨B,A,r⟩:=I.pin p hp;refine ⟨B,?_,r⟩;rw [qu (c.pp p hp).1]; exact A
 ·by_cases q:b=ex;·subst q;rw [qm] at e; cases e;refine ⟨⟨g,vs,f,t,h⟩,⟨g,f⟩,λh1 h2 ⟨o1,j,e1,i,E⟩ k=>⟨o1,j,k _ e1,i,E⟩⟩
  ·rw [qu q] at e;exact (I.hok b u e).stay (λ_ _ _ z=>z) (λd z=>up z) λd xs z=>up z
def JC (X:Cx) (pn:Pns) (xe:iR->iU->Prop):Cx:={ X with pn:=pn,xe:=xe }
theorem GN (I:Inv X pins σ H s):Inv (JC X (X.pn++pins) xe) [] σ H s:=
 ⟨⟨I.ok.mod,I.ok.kind,I.ok.glob,I.ok.blt,I.ok.above,I.ok.inj,I.ok.has,I.ok.cab,I.ok.hd,I.ok.frames,I.ok.stk,I.ok.exf,I.ok.bs,I.ok.bsz,I.ok.noex,I.ok.exfs,I.ok.funs,I.ok.frf⟩,I.os,I.bare,I.base,I.loc,I.cell,I.free,I.freeC,λp hp=>I.pin p (by simpa [JC] using hp),I.hok,I.len⟩
theorem kf {a:Pns} (I:Inv (JC X (X.pn++pins) xe) a σ H s):Inv X pins σ H s:=
 ⟨⟨I.ok.mod,I.ok.kind,I.ok.glob,I.ok.blt,I.ok.above,I.ok.inj,I.ok.has,I.ok.cab,I.ok.hd,I.ok.frames,I.ok.stk,I.ok.exf,I.ok.bs,I.ok.bsz,I.ok.noex,I.ok.exfs,I.ok.funs,I.ok.frf⟩,I.os,I.bare,I.base,I.loc,I.cell,I.free,I.freeC,λp hp=>I.pin p (ci _ hp),I.hok,I.len⟩
noncomputable def qfH (X:Cx) (e:iR):Cx:={ X with A:=X.A.mark (iO e),calm:=iS,xe:=λ_ _=>False }
theorem Yp {e:iR} (I:Inv X pins σ H s):Inv (qfH X e) pins σ H s:=
 ⟨⟨I.ok.mod,I.ok.kind,I.ok.glob,I.ok.blt,I.ok.above,I.ok.inj,I.ok.has,I.ok.cab,λz=>absurd z (by show ¬(iS=iT); exact bD),I.ok.frames,I.ok.stk,I.ok.exf,I.ok.bs,I.ok.bsz,I.ok.noex,I.ok.exfs,I.ok.funs,I.ok.frf⟩,I.os,I.bare,I.base,I.loc,I.cell,I.free,I.freeC,I.pin,I.hok,I.len⟩
theorem GO {e:iR} (hok:X.Ok) (I:Inv (qfH X e) pins σ H s):Inv X pins σ H s:=
 ⟨hok,I.os,I.bare,I.base,I.loc,I.cell,I.free,I.freeC,I.pin,I.hok,I.len⟩
theorem XU {g:Str->Option iR} {t:Nat} (I:Inv X pins σ H s) (k:X.stack=X.env::X.outer) (r:X.env.frame=iO X.env.locals) (A:h'.Ns X.env.locals g) (y:bo X.env.locals s.heap h'):Inv X pins (σ.map λ_=>iQ) H { s with heap:=h',toks:=t }:=by
 have L:∀ b o,X.s₀.heap.get? b=iO o->b≠X.env.locals:=λb o e=>ay (aH (aq e) I.ok.above);obtain ⟨m,⟨E,es,ep,W,h,_⟩,_⟩:=id I.loc;have w:∀ {a:Addr} {v:Option iR},s.heap.IsCell a v->a≠X.env.locals:=λ{a v} ⟨oc,e1,c⟩=>by rintro rfl; rw [W] at e1; cases e1; rw [h] at c; cases c
 refine ⟨I.ok,I.os,I.bare,⟨λb o e n f hx=>(y.2 b (L b o e)).trans (I.base.keep b o e n f hx),λb o e n f hx=>?_,I.base.free,λb o e hx=>?_,I.base.tups,I.base.frzs,I.base.tbls⟩,⟨g,A,λi x v e1 c=>?_⟩,λx a e=>?_,I.free,I.freeC,λp hp=>?_,λb u e=>?_,by simp [I.len]⟩;·obtain ⟨sl,q⟩:=I.base.slot b o e n f hx;exact ⟨sl,(y.2 b (L b o e)).trans q⟩
 ·obtain ⟨o',q⟩:=I.base.there b o e hx;exact ⟨o',(y.2 b (L b o e)).trans q⟩
 ·simp only [aF] at c;cases q:σ[i]? <;> rw [q] at c <;> cases c
 ·obtain ⟨v,z⟩:=I.cell x a e;exact ⟨v,z.sameBut y (w z)⟩
 ·obtain ⟨D,C,j,B⟩:=I.pin p hp;exact ⟨(y.2 p.1 j).trans D,C,j,B⟩
 ·refine (I.hok b u e).stay (λd v l q=>(y.2 d ?_).trans q) (λ_ q=>q) λ_ _ q=>q;rintro rfl;rcases l with z | z;·rw [<-z,I.free] at e; cases e
  ·rw [I.free] at z; cases z
end
def qhY (C:Ct) (own:List Nat) (E:XK):Ct:=⟨C.K,C.cv,E,own,C.mr,C.ol,own,λ_ h=>h⟩
noncomputable def exC (C:Ct):Ct:=⟨C.K,C.cv,λ_ _ _=>False,[],C.mr,[],[],λ_ h=>h⟩
noncomputable def WP (n:Nat) (j:Option Nat) (hit:Str->Option Addr) (fb fs:qK):qK:=λρ=>match fb ρ with
 | .exc c ρe=>match hit c with
  | some Cc=>match fs (match j with | some j=>(bg n iQ).set j (iO (.xcp Cc)) | none=>bg n iQ) with
   | .ok (.rt d,_)=>.ok (.rt d,ρe)
   | _=>.bad
  | none=>.bad
 | o=>o
def qgJ (C:Ct) (own:List Nat) (σ:St) (F H:Hp) (r:Out (Fl×Sl)):XK:=λcls _ H'=>∃ c ρe F',r=.exc c ρe/\cls=C.cv c/\Same F' H'/\XM C.K own F' H' σ ρe/\Chg (OA own σ) F H F' H'
def qhZ (X:Cx) (pins:Pns) (E:XK):iR->iU->Prop:=λe s'=>∃ σ ex T Cc H',e=.ref ex/\Inv X pins σ H' s'/\Caught X pins H' s' ex T Cc/\E (.ref Cc) iQ H'
section
variable {fb fs:qK}
theorem QX {E:XK} (d:X.ex=[]):ky (CXk X.prog X.w) (JC X (X.pn++pins) (qhZ X pins E)) E:=λa σ H s e s' I h=>by
 obtain ⟨ex,T,Cc,H',rfl,os,bare,un,hok,l,e1,i,n1,n2,k⟩:=h;have old:∀ b,s.heap.get? b=iQ->X.s₀.heap.get? b=none:=λb f=>by
  cases q:X.s₀.heap.get? b with
  | none=>rfl
  | some o=>obtain ⟨o',c⟩:=I.base.there b o q (by show b∉X.ex; rw [d]; simp);rw [f] at c; cases c
 have g:Inv (JC X (X.pn++pins) (qhZ X pins E)) a σ H' s':=I.call' (ch:=[]) os un hok bare (λb z=>absurd z (by simp));refine ⟨σ,ex,T,Cc,H',rfl,kf g,⟨l,e1,i,old ex n1,old T n2,λp hp=>?_⟩,k⟩;have q:=(I.pin p (ci _ hp)).1;exact ⟨λz=>(by rw [z,n1] at q; cases q),λz=>(by rw [z,n2] at q; cases q)⟩
theorem Nx.untry {E:XK} {σ':St} {ρ':Sl} (g:∀ i∈C.io,i∈own) (n:Nx (qhY C own E) o1 o2 σ F H ρ' σ' F' H'):Nx C o1 o2 σ F H ρ' σ' F' H':=⟨n.rep,n.chg,n.oa,λi hi=>n.io i (g i hi)⟩
theorem Yq {D:Ends} {j:Option Nat} {hit:Str->Option Addr} (g:∀ i∈C.io,i∈own) (r:Rep C.K own F H σ ρ) (h:PoS C own own' σ F H (WP n j hit fb fs ρ) D):tSt (qhY C own (qgJ C own σ F H (fb ρ))) own own' fb D σ H:=by
 refine ⟨F,ρ,r,?_⟩;unfold WP at h;cases q:fb ρ with
 | ok p=>
  rw [q] at h;obtain ⟨l,ρ'⟩:=p;cases l with
  | nx=>exact λσ' F' H' a=>h σ' F' H' (a.untry g)
  | rt d=>exact λv σ' F' H' s io c e mo=>h v σ' F' H' s (λi hi=>io i (g i hi)) c (λi hi=>e i (g i hi)) mo
  | bk=>exact λσ' F' H' a=>h σ' F' H' (a.untry g)
  | ct=>exact λσ' F' H' a=>h σ' F' H' (a.untry g)
 | exc c ρe=>exact λF' H' s io ch=>⟨c,ρe,F',rfl,rfl,s,io,ch⟩
 | bad=>rw [q] at h; exact h.elim
theorem Vr {t e:Hp} {Cc:Addr} {D:Ends} {d:D2.D} {v:V} {w:St} (g:∀ i∈C.io,i∈own) (h:PoS C own own' σ F H (.ok (.rt d,ρe)) D) (n:H1 ex=iQ) (y:Same F1 H1) (io:XM C.K own F1 H1 σ ρe) (ch:Chg (OA own σ) F H F1 H1)
  (s3:Same t e) (G:Chg (OA [] w) (upd F1 ex (Jw ex Cc)) (upd H1 ex (Jw ex Cc)) t e) (mo:MoIs C.K C.mr (upd H1 ex (Jw ex Cc)) t e v d):D.rt v e:=by
 obtain ⟨s,c2⟩:=vW (u:=Jw ex Cc) y n;have no:∀ {b},OA [] w b->False:=λ⟨i,hi,_⟩=>by simp at hi
 have f:Chg No (upd F1 ex (Jw ex Cc)) (upd H1 ex (Jw ex Cc)) t e:=G.mono λx z=>no z;have c:Chg No F1 H1 t e:=c2.trans f λ_ z=>z.elim;refine h v σ t e s3 (λi hi=>?_) (ch.trans c λ_ z=>z.elim) (λ_ _=>rfl) (MoIs.back (Ha:=e) (ch.trans c2 λ_ z=>z.elim) mo);obtain ⟨d',a,e1,j,E,k⟩:=io i (g i hi);refine ⟨d',a,e1,j,?_,k.grow c.grow λo q=>c.keep a o q λz=>z⟩;cases q:t a with
 | none=>rfl
 | some u=>
  rcases c.new a (by rw [q]; simp) with z | z | z;·exact absurd E z
  ·exact absurd z k.there
  ·exact z.elim
theorem qez {cn en:Str} {np J pos:Pos} {body b:List Stmt} {b0:Stmt} {cls:iR} {n j:Nat} {hit:Str->Option Addr} {own2:List Nat} (t:X.ex=[]) (k:X.stack=X.env::X.outer) (x:X.env.frame=iO X.env.locals)
  (hg:Gl X cn) (hm:X.mg cn=iO cls) (L:∀ c Cc,hit c=iO Cc->C.cv c=.ref Cc/\cZ X.K (.ref Cc) cls=iO iT) (hN:X.N.Nodup) (hj:X.N[j]?=iO en) (hx:X.env.scope.names.lookup en=iO .local) (hn:X.N.length=n)
  (hb:∀ pn xe E,ky (CXk X.prog X.w) (JC X pn xe) E->PSs (JC X pn xe) body (tSt (qhY C own E) own own' fb)) (hs:∀ e,PSs (qfH X e) (b0::b) (tSt (exC C) [] own2 fs)) (o:∀ i∈C.io,i∈own:=by exact kj rfl) (hd:Dbg cn:=by decide) :
  PS X (.Try body [.ExceptHandler (iO (.Name cn np)) (iO en) (b0::b) J] [] [] pos) (tSt C own own' (WP n (iO j) hit fb fs)):=by
 refine ⟨?_⟩;intro pins s σ H D I ⟨F,ρ,rp,h⟩;have run:=hb (X.pn++pins) (qhZ X pins (qgJ C own σ F H (fb ρ))) (qgJ C own σ F H (fb ρ)) (QX t) [] s σ H D (GN I) (Yq o rp h);refine wpAny_Try_except (lB run (λf s1 l=>?_) λe s1 he=>?_)
 ·cases f with
  | next=>obtain ⟨σ',H',y,q⟩:=l;exact Wz pins s1 σ' H' D (kf y) q
  | brk=>obtain ⟨σ',H',y,q⟩:=l; exact ⟨σ',H',kf y,q⟩
  | cont=>obtain ⟨σ',H',y,q⟩:=l; exact ⟨σ',H',kf y,q⟩
  | ret u=>obtain ⟨v,σ',H',y,r,q⟩:=l; exact ⟨v,σ',H',kf y,r,q⟩
 ·obtain ⟨σ1,ex,T,Cc,H1,rfl,I1,c1,c,ρe,F1,hr,O,A,Z,ch1⟩:=he;refine Vq I1.ok.frames I1 k x t c1 λs2 T2 I2 c2=>?_;unfold WP at h;rw [hr] at h;cases Y:hit c with
  | none=>simp only [Y] at h; exact h.elim
  | some Ch=>
   simp only [Y] at h;obtain ⟨hc1,hc2⟩:=L c Ch Y;rw [hc1] at O;obtain rfl:Cc=Ch:=by injection O
   refine wpAny_handleBy_cons (codeAny_handlers_test (xh (X:=qfH X (.ref ex)) (Yp I2) hg hm ?_ hd)) (by intro q; cases q);obtain ⟨oe,vs,oT,ts,a1,a2,a3,_⟩:=id c2.fly;have LT:PySem.W.Looks (model X.prog X.w) s2.heap (typeOf (.ref ex)) (.ref Cc):=by rw [<-a2]; exact (PySem.W.Looks.ld a1).andThen .now
   refine (PySem.W.exm_one I2.kIn LT hc2) _ _ _ _ (λ_ _ z=>z) ?_;refine codeAny_handlers_suite_as (gb I2 k x t c2 λs3 T3 I3 c3=>?_);have I4:=qgI I3 c3;refine Jr I4 hN hj (.inl hx) (v:=.ref ex) rfl (λs5 I5=>?_) (.inr hx);have g:j < n:=by rw [<-hn]; exact (aE.mp hj).1
   have I6:Inv X pins ((bg n iQ).set j (iO (.ref ex))) (upd H1 ex (Jw ex Cc)) s5:=I5.weak (by simp [I3.len,hn]) λi v e=>by
    by_cases B:i=j;·subst B;rw [aI (by simpa using g)] at e;rw [aI (by rw [I3.len,hn]; exact g)];exact e
    ·rw [aw (bb B),bB] at e;split at e <;> cases e
   obtain ⟨Q,cc2⟩:=vW (u:=Jw ex Cc) A c1.hex;have S:Rep C.K [] (upd F1 ex (Jw ex Cc)) (upd H1 ex (Jw ex Cc)) ((bg n iQ).set j (iO (V.ref ex))) ((bg n iQ).set j (iO (.xcp Cc))):=by
    refine ⟨Q,by simp,λi d hi e=>?_,λi d hi=>by simp at hi,λi hi=>by simp at hi,λi j a hi=>by simp at hi⟩;by_cases B:i=j;·subst B;rw [aI (by simpa using g)] at e;cases e;exact ⟨.ref ex,by rw [aI (by simpa using g)],.xcp qm⟩
    ·rw [aw (bb B),bB] at e;split at e <;> cases e
   have G:tSt (exC C) [] own2 fs { nx:=λ_ _=>False,rt:=D.rt } ((bg n iQ).set j (iO (V.ref ex))) (upd H1 ex (Jw ex Cc)):=by
    refine ⟨_,_,S,?_⟩;cases U:fs ((bg n iQ).set j (iO (.xcp Cc))) with
    | ok p=>
     obtain ⟨fl,ρ5⟩:=p;rw [U] at h;cases fl with
     | rt d=>exact λv σ' F3 H3 s3 io c3 e mo=>Vr (own':=own') (D:=D) (ex:=ex) (Cc:=Cc) o h c1.hex A Z ch1 s3 c3 mo
     | nx=>exact h.elim
     | bk=>exact h.elim
     | ct=>exact h.elim
    | exc _ _=>rw [U] at h; exact h.elim
    | bad=>rw [U] at h; exact h.elim
   refine lB (hs (.ref ex) pins s5 _ _ _ (Yp I6) G) (λf s7 l=>?_) λ_ _ z=>z.elim;cases f with
   | next=>obtain ⟨_,_,_,q⟩:=l; exact q.elim
   | brk=>obtain ⟨_,_,_,q⟩:=l; exact q.elim
   | cont=>obtain ⟨_,_,_,q⟩:=l; exact q.elim
   | ret u=>obtain ⟨v,P,H7,I7,r7,q7⟩:=l;have M:Inv X pins P H7 s7:=GO I.ok I7;obtain ⟨m,hns,_⟩:=id M.loc;refine wpAny_nameGoes hx hns (by rw [I.ok.kind]; rfl) λh' m' hn' R=>?_;exact ⟨v,_,H7,XU M k x hn' R,r7,q7⟩
theorem Yr {cn:Str} {np J pos:Pos} {body b:List Stmt} {Z:Stmt} {cls:iR} {n:Nat} {hit:Str->Option Addr} {own2:List Nat} (m:X.ex=[]) (l:X.stack=X.env::X.outer) (x:X.env.frame=iO X.env.locals)
  (hg:Gl X cn) (hm:X.mg cn=iO cls) (L:∀ c Cc,hit c=iO Cc->C.cv c=.ref Cc/\cZ X.K (.ref Cc) cls=iO iT) (hn:X.N.length=n)
  (hb:∀ pn xe E,ky (CXk X.prog X.w) (JC X pn xe) E->PSs (JC X pn xe) body (tSt (qhY C own E) own own' fb)) (hs:∀ e,PSs (qfH X e) (Z::b) (tSt (exC C) [] own2 fs)) (k:∀ i∈C.io,i∈own:=by exact kj rfl) (hd:Dbg cn:=by decide) :
  PS X (.Try body [.ExceptHandler (iO (.Name cn np)) iQ (Z::b) J] [] [] pos) (tSt C own own' (WP n iQ hit fb fs)):=by
 refine ⟨?_⟩;intro pins s σ H D I ⟨F,ρ,rp,h⟩;have run:=hb (X.pn++pins) (qhZ X pins (qgJ C own σ F H (fb ρ))) (qgJ C own σ F H (fb ρ)) (QX m) [] s σ H D (GN I) (Yq k rp h);refine wpAny_Try_except (lB run (λf s1 g=>?_) λe s1 he=>?_)
 ·cases f with
  | next=>obtain ⟨σ',H',o,q⟩:=g;exact Wz pins s1 σ' H' D (kf o) q
  | brk=>obtain ⟨σ',H',o,q⟩:=g; exact ⟨σ',H',kf o,q⟩
  | cont=>obtain ⟨σ',H',o,q⟩:=g; exact ⟨σ',H',kf o,q⟩
  | ret u=>obtain ⟨v,σ',H',o,r,q⟩:=g; exact ⟨v,σ',H',kf o,r,q⟩
 ·obtain ⟨σ1,ex,T,Cc,H1,rfl,I1,c1,c,ρe,F1,hr,O,A,G,Q⟩:=he;refine Vq I1.ok.frames I1 l x m c1 λs2 T2 V c2=>?_;unfold WP at h;rw [hr] at h;cases Y:hit c with
  | none=>simp only [Y] at h; exact h.elim
  | some Ch=>
   simp only [Y] at h;obtain ⟨P,M⟩:=L c Ch Y;rw [P] at O;obtain rfl:Cc=Ch:=by injection O
   refine wpAny_handleBy_cons (codeAny_handlers_test (xh (X:=qfH X (.ref ex)) (Yp V) hg hm ?_ hd)) (by intro q; cases q);obtain ⟨oe,vs,oT,ts,a1,a2,a3,_⟩:=id c2.fly;have LT:PySem.W.Looks (model X.prog X.w) s2.heap (typeOf (.ref ex)) (.ref Cc):=by rw [<-a2]; exact (PySem.W.Looks.ld a1).andThen .now
   refine (PySem.W.exm_one V.kIn LT M) _ _ _ _ (λ_ _ z=>z) ?_;refine codeAny_handlers_suite (gb V l x m c2 λs3 T3 I3 R=>?_);have I4:=qgI I3 R;have I6:Inv X pins (bg n iQ) (upd H1 ex (Jw ex Cc)) s3:=I4.weak (by simp [I3.len,hn]) λi v e=>by rw [bB] at e;split at e <;> cases e
   obtain ⟨B,cc2⟩:=vW (u:=Jw ex Cc) A c1.hex;have S:Rep C.K [] (upd F1 ex (Jw ex Cc)) (upd H1 ex (Jw ex Cc)) (bg n iQ) (bg n iQ):=by refine ⟨B,by simp,λi d hi e=>?_,λi d hi=>by simp at hi,λi hi=>by simp at hi,λi j a hi=>by simp at hi⟩;rw [bB] at e;split at e <;> cases e
   have t:tSt (exC C) [] own2 fs { nx:=λ_ _=>False,rt:=D.rt } (bg n iQ) (upd H1 ex (Jw ex Cc)):=by
    refine ⟨_,_,S,?_⟩;cases U:fs (bg n iQ) with
    | ok p=>
     obtain ⟨fl,ρ5⟩:=p;rw [U] at h;cases fl with
     | rt d=>exact λv σ' F3 H3 s3 io R e mo=>Vr (own':=own') (D:=D) (ex:=ex) (Cc:=Cc) k h c1.hex A G Q s3 R mo
     | nx=>exact h.elim
     | bk=>exact h.elim
     | ct=>exact h.elim
    | exc _ _=>rw [U] at h; exact h.elim
    | bad=>rw [U] at h; exact h.elim
   refine lB (hs (.ref ex) pins s3 _ _ _ (Yp I6) t) (λf s7 g=>?_) λ_ _ z=>z.elim;cases f with
   | next=>obtain ⟨_,_,_,q⟩:=g; exact q.elim
   | brk=>obtain ⟨_,_,_,q⟩:=g; exact q.elim
   | cont=>obtain ⟨_,_,_,q⟩:=g; exact q.elim
   | ret u=>obtain ⟨v,y,H7,I7,r7,q7⟩:=g;exact ⟨v,y,H7,GO I.ok I7,r7,q7⟩
end
def GP (P:i7) (w:i8) (K:Frag) (mg:Str->Option iR) (base:Heap) (cv:Str->iR) (k:Nat) (x:Str) (ps:List Str) (ms:List PM) (mr:Mo) (G:jy):Prop:=
 ∃ f fd,FnOk P w K mg base (CXk P w) k f fd ps (spD K cv ms mr G)/\mg x=iO (.ref f)/\l8 K (.ref f)=iT/\Binds K fd ps []
def kW (K:Frag) (mg:Str->Option iR) (x:Str) (st:Stmt) (ps:List Str):Prop:=∃ f fd,Fun K x x st f fd/\mg x=iO (.ref f)/\Binds K fd ps []
theorem GQ {P:i7} {w:i8} {base:Heap} {cv:Str->iR} {k:Nat} {ms:List PM} {mr:Mo} {own':List Nat} {fb:qK} (T:kW K mg x st ps) (S:FnScope N ps (qx st))
  (a:∀ (cdv:iR) (f:Addr) (A:j9) (outer:List Env) (s:iU) (H:Hp) (E:XK),Room k (A.deeper (mL x (qx st) s.heap.objs.size f cdv)) ->PSs (cxk P w K mg base N x (qx st) f cdv A outer s H E) (ka st) (tSt (qfG K cv E ms mr) (jZ 0 ms) own' fb))
  (hl:ms.length=ps.length:=by rfl) (g:∀ i∈Wv 0 ms,i∈own':=by exact kj rfl) (hmr:mr=.sh\/∀ ds ρ,(fb (qp N ds))≠.ok (.nx,ρ):=by exact .inl rfl):GP P w K mg base cv (k+1) x ps ms mr (jN N ms fb):=by
 obtain ⟨f,fd,F,h,d⟩:=T;exact ⟨f,fd,qhW F S hl g hmr (λcdv A outer s H E c=>a cdv f A outer s H E c) λ_=>.inr rfl,h,F.kp,d⟩
section
variable {G:jy} {fr:wq} {p:Pos} {k j:Nat} {cv:Str->iR}
theorem ju (F:GP X.prog X.w X.K X.mg X.base cv j x ps ms mr G) (c:Room k X.A) (D:j<=k) (hx:ky (CXk X.prog X.w) X C.E) (hg:Gl X x) (q:PA X (e::es) (tAr C own as fr)) (v:C.cv=cv:=by rfl) (m:C.K=X.K:=by rfl) (s:ms=as.map xj:=by rfl) (hs:∀ i∈qR as,i∈own:=by decide) (nd:(qR as).Nodup:=by decide) (d:frA as<=1:=by decide) (o:∀ i∈C.ox,i∈own:=by exact kj rfl)
  (b:Dbg x:=by decide) (g:iX (e::es) X.env=(iS,eval e X.env)::iX es X.env:=by exact jl rfl) (l:(li pos (iX es X.env)).any (·.1)=false:=by exact ug rfl):PE X (.Call (.Name x p) (e::es) [] pos) (tE C own mr (qr as G fr)):=by
 subst v;obtain ⟨f,fd,F,h,a,n⟩:=F;rw [<-m] at F;exact qet (by rw [<-m]; exact F) (c.mono D) hg h a n hx q s hs nd d o b g l
noncomputable def qgK:D->Out D
 | .int i=>.ok (.int (-i))
 | _=>.bad
theorem GR:UnD X C .sh (unaryOp .USub) qgK:=by
 intro pins s σ H x v Q I d h;obtain ⟨F,dx,y,t,po⟩:=h;cases dx <;> try exact po.elim
 obtain rfl:=t.int;exact qgb pins s σ H _ v Q I d ⟨_,rfl,po _ F H y .refl (.int _)⟩
end
noncomputable def gc:Option (Option D)->Bool
 | some (iO (.lst _))=>iT
 | _=>iS
noncomputable def JD (i:Nat) (g:List D->D->Out (List D)) (fe:qZ):qZ:=λρ=>if gc ρ[i]?=iT then (fe ρ).bind λp=>match p.2[i]? with
 | some (iO (.lst xs))=>match g xs p.1 with
  | .ok ys=>.ok (.non,p.2.set i (iO (.lst ys)))
  | _=>.bad
 | _=>.bad
 else .bad
noncomputable def ZJ (xs:List D) (d:D):Out (List D):=if xs.length < sizeLine then .ok (xs++[d]) else .bad
noncomputable def qgL (xs:List D):D->Out (List D)
 | .lst ys=>if xs.length+ys.length<=sizeLine then .ok (xs++ys) else .bad
 | .tup ys=>if xs.length+ys.length<=sizeLine then .ok (xs++ys) else .bad
 | _=>.bad
section
variable {fe:qZ}
theorem Rep.write (r:Rep K own F H σ ρ) (hi:i∈own) (g:σ[i]?=iO (iO (V.ref a))) (ow:OwnIs K F (upd H a u) a d):Rep K own F (upd H a u) σ (ρ.set i (iO d))/\Chg (OA own σ) F H F (upd H a u):=by
 obtain ⟨w,h⟩:=r.opn i hi;obtain ⟨f,e1,E,c⟩:=r.ow i w hi h;rw [g] at e1; cases e1;have hl:i < ρ.length:=(aE.mp h).1;refine ⟨⟨λb o e=>by rw [qu (qA e E)]; exact r.sub b o e,by simp [r.len],λj d' D e=>?_,λj d' D e=>?_,λj D=>?_,r.dis⟩,⟨λb o e n=>?_,λb e=>?_,Same.refl _,λb e=>.inl e⟩⟩;·rw [aw (λz=>D (by rw [<-z]; exact hi))] at e;exact r.val j d' D e
 ·by_cases q:j=i;·subst q;rw [aI hl] at e;cases e;exact ⟨a,g,E,ow⟩
  ·rw [aw (bb q)] at e;obtain ⟨b,h1,h2,h3⟩:=r.ow j d' D e;have x:b≠a:=λz=>by subst z; exact q (r.dis j i b D hi h1 g)
   exact ⟨b,h1,h2,h3.grow (Same.refl _) λo z=>by rw [qu x]; exact z⟩
 ·by_cases q:j=i;·subst q; exact ⟨d,aI hl⟩
  ·rw [aw (bb q)]; exact r.opn j D
 ·have x:b≠a:=λz=>n (by rw [z]; exact ⟨i,hi,g⟩);rw [qu x]; exact e
 ·by_cases q:b=a;·rw [q,qm]; simp
  ·rw [qu q]; exact e
theorem Ys {o:Option (Option D)} (h:gc o=iT):∃ xs,o=iO (iO (.lst xs)):=by
 unfold gc at h;split at h;·exact ⟨_,rfl⟩
 ·cases h
theorem Yt {g:List D->D->Out (List D)} {R:V->V->Hp->VK->Prop} {σ:St} {H:Hp} {Q:VK} (l:i∈own) (s:m≠.any)
  (j:∀ (a:Addr) (xs:List V) (ds ys:List D) (v:V) (d:D) (F H:Hp),Same F H->H a=iO (.lst xs)->F a=iQ->IsL C.K F xs ds->Is C.K F v d->g ds d=.ok ys->(∀ zs,IsL C.K F zs ys->Q .non (upd H a (.lst zs)))->R (.ref a) v H Q)
  (h:tE C own .sh (JD i g fe) σ H Q):∃ a xs,σ[i]?=iO (iO (V.ref a))/\H a=iO (.lst xs)/\tE C own .sh fe σ H λv H1=>R (.ref a) v H1 Q:=by
 obtain ⟨F,ρ,p,h⟩:=h;unfold JD at h;by_cases q:gc ρ[i]?=iT
 ·rw [Aa q] at h;obtain ⟨ds,hd⟩:=Ys q;obtain ⟨a,h1,h2,xs,h3,t⟩:=p.ow i _ l hd;refine ⟨a,xs,h1,h3,F,ρ,p,Po.bind h λv F1 H1 d ρ1 r c1 f po=>?_⟩;cases b:ρ1[i]? with
  | none=>simp only [b] at po; exact po.elim
  | some o=>
   cases o with
   | none=>simp only [b] at po; exact po.elim
   | some dd=>
    simp only [b] at po;cases dd with
    | lst es=>
     simp only at po;cases e:g es d with
     | ok ys=>simp only [e] at po;obtain ⟨w,e1,n,vs,E,k⟩:=r.ow i _ l b;rw [h1] at e1; cases e1;refine j a vs es ys v d F1 H1 r.sub E n k f e λzs z=>?_;obtain ⟨r2,c2⟩:=r.write (u:=.lst zs) (d:=.lst ys) l h1 ⟨zs,qm,z⟩;exact po .non F1 _ r2 c2 .non
     | exc c o=>simp only [e] at po; exact po.elim
     | bad=>simp only [e] at po; exact po.elim
    | _=>exact po.elim
 ·rw [Ab q] at h; exact h.elim
theorem ge {px apos cpos:Pos} (t:C.K=X.K) (r:X.N[i]?=iO x) (n:Vis X.env.scope x) (o:i∈own) (p:PE X e (tE C own m fe)) (j:m≠.any:=by decide)
  (hd:Dbg x:=by decide) (f:Cdk x:=by decide)
  (c:lg (.Name x px) "append" X.env (eval (.Name x px) X.env)=eval (.Name x px) X.env:=by rfl)
  (w:((li cpos (iX [e] X.env)).all (λx=>!x.1)&&(lW cpos (lr [] X.env)).all (λx=>x.1.isSome)
   && decide ([e].length+([]:List lI).length+(if ([]:List lI).isEmpty then 0 else 1) < 30))=true:=by exact uh rfl)
  (b:(apos.endLine == cpos.line)=true:=by rfl) (hs:iX [e] X.env=[(iS,eval e X.env)]:=by exact qE rfl) :
  PE X (.Call (.Attribute (.Name x px) "append" apos) [e] [] cpos) (tE C own .sh (JD i ZJ fe)):=by
 refine jz (Gb eI PySem.F.slot_list_append PySem.F.type_list_append KU (wA r n hd f) (qJ (yu p j) jK hs) c w b hs rfl) λσ H Q h=>?_;have q:∀ (a:Addr) (xs:List V) (ds ys:List D) (v:V) (d:D) (F H:Hp),Same F H->H a=iO (.lst xs)->F a=iQ->IsL C.K F xs ds->Is C.K F v d->ZJ ds d=.ok ys->(∀ zs,IsL C.K F zs ys->Q .non (upd H a (.lst zs)))->WE (.ref a) [v] H Q:=λa xs ds ys v d F H y s u ix l g k=>by
  unfold ZJ at g;split at g;·cases g;exact ⟨a,xs,v,rfl,rfl,s,by rw [ix.length]; assumption,k _ (ix.append (.cons l .nil))⟩
  ·cases g
 obtain ⟨a,xs,h1,h2,k⟩:=Yt (R:=λx v H Q=>WE x [v] H Q) o j q h;exact ⟨.ref a,h1,.inl ⟨rfl,xs,.inl (.inl h2)⟩,k⟩
theorem GS {px apos cpos:Pos} (E:X.N[i]?=iO x) (t:Vis X.env.scope x) (l:i∈own) (y:PE X e (tE C own .fr fe))
  (hd:Dbg x:=by decide) (j:Cdk x:=by decide)
  (f:lg (.Name x px) "extend" X.env (eval (.Name x px) X.env)=eval (.Name x px) X.env:=by rfl)
  (w:((li cpos (iX [e] X.env)).all (λx=>!x.1)&&(lW cpos (lr [] X.env)).all (λx=>x.1.isSome)
   && decide ([e].length+([]:List lI).length+(if ([]:List lI).isEmpty then 0 else 1) < 30))=true:=by exact uh rfl)
  (c:(apos.endLine == cpos.line)=true:=by rfl) (hs:iX [e] X.env=[(iS,eval e X.env)]:=by exact qE rfl) :
  PE X (.Call (.Attribute (.Name x px) "extend" apos) [e] [] cpos) (tE C own .sh (JD i qgL fe)):=by
 refine jz (Gb eI PySem.F.slot_list_extend PySem.F.type_list_extend Gc (wA E t hd j) (qJ y jK hs) f w c hs rfl) λσ H Q ⟨F,ρ,p,h⟩=>?_;unfold JD at h;by_cases q:gc ρ[i]?=iT
 ·rw [Aa q] at h;obtain ⟨ds,hd⟩:=Ys q;obtain ⟨a,h1,h2,xs,h3,I⟩:=p.ow i _ l hd;refine ⟨.ref a,h1,.inl ⟨rfl,xs,.inl (.inl h3)⟩,F,ρ,p,Po.bind h λv F1 H1 d ρ1 r c1 m po=>?_⟩;obtain ⟨b,rfl,B,A,k⟩:=m;cases g:ρ1[i]? with
  | none=>simp only [g] at po; exact po.elim
  | some o=>
   cases o with
   | none=>simp only [g] at po; exact po.elim
   | some dd=>
    simp only [g] at po;cases dd with
    | lst es=>
     simp only at po;obtain ⟨K,e1,J,vs,G,s⟩:=r.ow i _ l g;rw [h1] at e1; cases e1;cases d with
     | lst ys=>
      obtain ⟨zs,hz,n⟩:=k;have po:Po C own .sh σ F1 H1 (match (if es.length+ys.length<=sizeLine then .ok (es++ys) else .bad:Out (List D)) with | .ok ys=>.ok (.non,ρ1.set i (iO (.lst ys))) | _=>.bad) Q:=po;by_cases z:es.length+ys.length<=sizeLine;·rw [Aa z] at po;refine ⟨a,b,vs,zs,rfl,rfl,G,hz,by rw [s.length,n.length]; exact z,?_⟩;obtain ⟨r2,c2⟩:=r.write (u:=.lst (vs++zs)) (d:=.lst (es++ys)) l h1 ⟨_,qm,s.append n⟩;exact po .non F1 _ r2 c2 .non
      ·rw [Ab z] at po; exact po.elim
     | dct ys=>exact po.elim
     | ins _ _=>exact po.elim
     | at_ _ _=>exact po.elim
     | _=>exact k.elim
    | _=>exact po.elim
 ·rw [Ab q] at h; exact h.elim
end
noncomputable def scB (names:List (Str×lR)) (scope:mC):Bool:=decide (scope.kind=.function)&&scope.names.all λy=>decide (y.2≠.cell)&&(!decide (y.2=.local)||decide (scope.names.lookup y.1=iO .local)) &&
 (!decide (y.2=.free)||((decide (names.lookup y.1=iO .cell)||decide (names.lookup y.1=iO .free))&&decide (scope.names.lookup y.1=iO .free)))
variable {names:List (Str×lR)}
theorem qgM (h:X.env.scope.names=names) (b:scB names scope=iT):ScOk X scope:=by
 subst h;unfold scB at b;rw [aN,aJ] at b;obtain ⟨Z,a⟩:=b;refine ⟨Ae Z,λy B=>?_,λy B e=>?_,λy B e=>?_,λy B e=>?_⟩;all_goals
  have q:=a y B;simp only [aN,ip,eZ,decide_eq_true_eq,decide_eq_false_iff_not] at q
 ·exact q.1.1
 ·exact q.1.2.resolve_left λz=>z e
 ·exact (q.2.resolve_left λz=>z e).1
 ·exact (q.2.resolve_left λz=>z e).2
noncomputable def qh0 (names:List (Str×lR)) (N:List Str) (scope:mC) (c:List Str) (nt:Nat) (cap:List Nat):Bool:=decide cap.Nodup&&decide (c.length=nt+cap.length)&&(aK cap.length).all λj=>match cap[j]? with
 | some k=>match c[nt+j]? with
  | some x=>decide (N[k]?=iO x)&&(((decide (names.lookup x=iO .local)||decide (names.lookup x=iO .cell)||decide (names.lookup x=iO .free))&&decide ((x,bw)∈scope.names))||scope.names.all λy=>decide (y.1≠x))
  | none=>iS
 | none=>iS
theorem qdf {c:List Str} (a:X.env.scope.names=names) (d:X.N=N) (b:qh0 names N scope c nt cap=iT):CapOk X scope c nt cap:=by
 subst a d;unfold qh0 at b;rw [aN,aN,aJ] at b;obtain ⟨⟨Z,B⟩,A⟩:=b;refine ⟨Ae Z,Ae B,λj k D=>?_⟩;have q:=A j (aZ.mpr (aE.mp D).1);rw [D] at q;cases e:c[nt+j]? with
 | none=>simp only [e] at q; cases q
 | some x=>
  simp only [e,aN,ip,decide_eq_true_eq] at q;refine ⟨x,rfl,q.1,?_⟩;rcases q.2 with ⟨z,q2⟩ | z
  ·refine .inl ⟨?_,q2⟩;rcases z with (z | z) | z;·exact .inl z
   ·exact .inr (.inl z)
   ·exact .inr (.inr z)
  ·refine .inr λk' h=>?_;rw [aJ] at z;exact Ae (z (x,k') h) rfl
theorem zo:ky (CXk P w) X (λ_ _ _=>False):=λ_ _ _ _ _ _ _ h=>by obtain ⟨_,_,_,_,_,_,_,_,_,_,_,_,_,_,k⟩:=h;exact k.elim
noncomputable def qiW (f:qZ):qZ:=λρ=>(qO f ρ).bind λp=>.ok (.bl (!p.1),p.2)
section
variable {i:Int}
theorem kt (h:∃ t,X.mg x=iO (.int i t)) (hg:Gl X x) (hd:Dbg x:=by decide):PE X (.Name x pos) (tE C own .sh (dC (.int i))):=by obtain ⟨t,h⟩:=h;exact qeh (v:=.int i) hg h ⟨t,rfl⟩ (λ_=>.int i) hd
end
section
variable {a b:Expr} {f fa fb:qZ}
noncomputable def gf:D->Out D
 | .lst xs=>.ok (.tup xs)
 | .tup xs=>.ok (.tup xs)
 | _=>.bad
noncomputable def XV:D->Out D
 | .lst xs=>.ok (.lst xs)
 | .tup xs=>.ok (.lst xs)
 | _=>.bad
theorem JE (m:C.K=X.K):zX X C .sh (.type "tuple") gf:=by
 intro pins s σ H xs us Q I r h;obtain ⟨x,F,dx,rfl,y,a,po⟩:=h;cases dx with
 | lst ds=>obtain ⟨p,vs,rfl,hq,t⟩:=a.lst y;refine yq pins s σ H _ us Q I r ⟨p,vs,rfl,.inl ⟨by rw [<-m]; exact hq,λl hl=>?_⟩⟩;obtain ⟨s2,c2⟩:=vW (u:=.tup vs) y hl;exact po _ _ _ s2 c2 (.tup (.inl (.inl qm)) (t.mono c2.grow))
 | tup ds=>
  rcases a with a | ⟨_,_,a⟩
  ·have b:=a;cases a with
   | tup hq t=>exact yq pins s σ H _ us Q I r ⟨_,_,rfl,.inr ⟨by rw [<-m]; exact jg y hq,po _ F H y .refl b⟩⟩
  ·exact a.elim
 | _=>exact po.elim
theorem WQ (m:C.K=X.K):zX X C .fr (.type "list") XV:=by
 intro pins s σ H xs us Q I r h;obtain ⟨x,F,dx,rfl,y,a,po⟩:=h;cases dx with
 | lst ds=>obtain ⟨p,vs,rfl,hq,t⟩:=a.lst y;refine xN pins s σ H _ us Q I r ⟨p,vs,rfl,.inl (by rw [<-m]; exact hq),λl hl=>?_⟩;obtain ⟨s2,c2,E⟩:=kE (u:=.lst vs) y hl;exact po _ _ _ s2 c2 ⟨l,rfl,hl,E,vs,qm,t⟩
 | tup ds=>obtain ⟨p,vs,rfl,hq,t⟩:=a.tup y;refine xN pins s σ H _ us Q I r ⟨p,vs,rfl,.inr (by rw [<-m]; exact hq),λl hl=>?_⟩;obtain ⟨s2,c2,E⟩:=kE (u:=.lst vs) y hl;exact po _ _ _ s2 c2 ⟨l,rfl,hl,E,vs,qm,t⟩
 | _=>exact po.elim
def GT (X:Cx) (C:Ct) (m:Mo) (f:iR) (g:D->D->Out D):Prop:=wB X f (λxs H Q=>∃ x y F dx d,xs=[x,y]/\Same F H/\TopIs C.K F H x dx/\TopIs C.K F H y d/\PoV C m F H (g dx d) Q)
theorem Yu {Q:VK} (k:ma≠.any) (h:tE C own m (d2 g fa fb) σ H Q):qbP (tE C own ma fa) (qbP (tE C own mb fb) qhU) σ H λxs H1=>∃ x y F dx a,xs=[x,y]/\Same F H1/\TopIs C.K F H1 x dx/\TopIs C.K F H1 y a/\PoV C m F H1 (g dx a) Q:=by
 obtain ⟨F,ρ,n,h⟩:=Va (mb:=mb) k h;refine ⟨F,ρ,n,?_⟩;cases q:fa ρ with
 | ok p=>
  rw [q] at h;obtain ⟨d,ρ1⟩:=p;intro v F1 H1 e c1 j;obtain ⟨s,ρ2,b,h2⟩:=h v F1 H1 e c1 j;refine ⟨s,ρ2,b,?_⟩;cases f:fb ρ2 with
  | ok p=>rw [f] at h2;obtain ⟨d',l⟩:=p;intro w t o r G i;obtain ⟨J,dx,a,z⟩:=h2 w t o r G i;exact ⟨v,w,J,dx,a,rfl,z⟩
  | exc c=>rw [f] at h2; exact h2
  | bad=>rw [f] at h2; exact h2.elim
 | exc c=>rw [q] at h; exact h
 | bad=>rw [q] at h; exact h.elim
theorem Vs {id:String} {p:Pos} (e:GT X C m (.builtin id) g) (hg:Gl X x) (d:X.mg x=iQ) (v:iZ x=iO (.builtin id)) (j:PE X a (tE C own ma fa)) (i:PE X b (tE C own mb fb)) (f:ma≠.any:=by decide) (n:x ≠ "__name__":=by decide) (c:Dbg x:=by decide)
  (h1:iX [a,b] X.env=(iS,eval a X.env)::iX [b] X.env:=by rfl) (h2:iX [b] X.env=[(iS,eval b X.env)]:=by exact qE rfl):PE X (.Call (.Name x p) [a,b] [] pos) (tE C own m (d2 g fa fb)):=
 jz (yp e hg d v (qJ j (qJ i jK h2) h1) n c (by rw [h1]) (by rw [h2]; rfl)) λ_ _ _ h=>Yu f h
noncomputable def qh1:D->D->Out D:=KC λi j=>.ok (.int (if j > i then j else i))
noncomputable def qh2:D->D->Out D:=KC λi j=>.ok (.int (if j < i then j else i))
theorem qgN (d:X.calm=iT):GT X C .sh (.builtin "max") qh1:=by
 intro pins s σ H xs us Q I r h;obtain ⟨x,y,F,dx,a,rfl,b,t,ty,po⟩:=h;cases dx <;> try exact po.elim
 cases a <;> try exact po.elim
 obtain rfl:=t.int;obtain rfl:=ty.int;exact ZV d pins s σ H _ us Q I r ⟨_,_,rfl,po _ F H b .refl (.int _)⟩
theorem qgO (d:X.calm=iT):GT X C .sh (.builtin "min") qh2:=by
 intro pins s σ H xs us Q I r h;obtain ⟨x,y,F,dx,a,rfl,b,t,ty,po⟩:=h;cases dx <;> try exact po.elim
 cases a <;> try exact po.elim
 obtain rfl:=t.int;obtain rfl:=ty.int;exact ZW d pins s σ H _ us Q I r ⟨_,_,rfl,po _ F H b .refl (.int _)⟩
noncomputable def kl (a T:String):Option Bool:=if (dN a == dN T)=iT then iO iT else if PySem.W.kitMeta T=iT then (fastBuiltinMro a).map (·.contains (.type T)) else iQ
theorem qcd (K:Frag) (a T:String):cD K (.type a) (.type T)=kl a T:=rfl
noncomputable def tyN:D->Option String
 | .non=>iO "NoneType"
 | .bl _=>iO "bool"
 | .int _=>iO "int"
 | .str _=>iO "str"
 | .tup _=>iO "tuple"
 | .lst _=>iO "list"
 | .dct _=>iO "dict"
 | _=>iQ
noncomputable def zp (T:String) (d:D):Out D:=match tyN d with
 | some a=>match kl a T with
  | some b=>.ok (.bl b)
  | none=>.bad
 | none=>.bad
theorem qce (m:C.K=X.K):wB X (.builtin "isinstance") (λxs H Q=>∃ x F d,xs=[x,.ty T]/\Same F H/\TopIs C.K F H x d/\PoV C .sh F H (zp T d) Q):=by
 intro pins s σ H xs us Q I r h;obtain ⟨x,F,d,rfl,g,f,po⟩:=h;obtain ⟨u,c,rfl,A,j⟩:=qbM r;cases j;cases q:tyN d with
 | none=>unfold zp at po; rw [q] at po; exact po.elim
 | some a=>
  cases i:kl a T with
  | none=>unfold zp at po; rw [q] at po; simp only [i] at po; exact po.elim
  | some b=>
   have po:PoV C .sh F H (.ok (.bl b)) Q:=by unfold zp at po; rw [q] at po; simp only [i] at po; exact po
   have fin:∀ tk,EP X pins σ Q (.bool b) { s with toks:=tk }:=λtk=>⟨.bl b,H,I.tok tk,rfl,po _ F H g .refl (.bl b)⟩
   have e:cD X.K (.type a) (.type T)=iO b:=(qcd X.K a T).trans i;cases d with
   | non=>obtain rfl:=f.non; cases A; cases q; exact cK PySem.W.kitx_none I.kIn dj e (λz=>nomatch z) fin
   | bl y=>obtain rfl:=f.bl; cases A; cases q; exact cK PySem.W.kitx_bool I.kIn dj e (λz=>nomatch z) fin
   | int y=>obtain rfl:=f.int; obtain ⟨t,rfl⟩:=A; cases q; exact cK PySem.W.kitx_int I.kIn dj e (λz=>nomatch z) fin
   | str y=>obtain ⟨rfl,_⟩:=f.str; obtain ⟨t,rfl⟩:=A; cases q; exact cK PySem.W.kitx_str I.kIn dj e (λz=>nomatch z) fin
   | tup y=>obtain ⟨p,vs,rfl,hq,t⟩:=f.tup g;cases A; cases q;obtain ⟨its,_,⟨o,h1,h2,_⟩,_⟩:=I.tuple (show SqT X.K H p vs by rw [<-m]; exact hq);exact cK PySem.W.kitx_tuple I.kIn ⟨o,h1,h2⟩ e (λz=>nomatch z) fin
   | lst y=>obtain ⟨p,vs,rfl,hq,t⟩:=f.lst g;cases A; cases q;obtain ⟨its,_,⟨o,n,h1,h2,_⟩,_⟩:=I.list (show SqL X.K H p vs by rw [<-m]; exact hq);exact cK PySem.W.kitx_list I.kIn ⟨o,h1,h2⟩ e (λz=>nomatch z) fin
   | dct y=>
    obtain ⟨p,vs,rfl,hq,t⟩:=f.dct g;cases A; cases q;obtain ⟨_,_,ws,_,o,es,ep,h1,h2,_⟩:=(show ObjOk X.prog X.w H s.heap p (.dK vs) from I.hok p _ hq)
    exact cK PySem.W.kitx_dict I.kIn ⟨o,h1,h2.1⟩ e (λz=>nomatch z) fin
   | _=>cases q
theorem yH {tn:Str} {p t:Pos} (l:C.K=X.K) (hg:Gl X "isinstance") (j:X.mg "isinstance"=iQ) (i:iZ "isinstance"=iO (.builtin "isinstance")) (ht:Gl X tn) (e:X.mg tn=iQ) (b:iZ tn=iO (.type T)) (k:PE X a (tE C own ma fa)) (n:tn ≠ "__name__":=by decide) (f:Dbg tn:=by decide)
  (h1:iX [a,.Name tn t] X.env=(iS,eval a X.env)::iX [.Name tn t] X.env:=by rfl) (h2:iX [.Name tn t] X.env=[(iS,eval (.Name tn t) X.env)]:=by rfl):PE X (.Call (.Name "isinstance" p) [a,.Name tn t] [] pos) (tE C own .sh (d1 (zp T) fa)):=by
 refine jz (yp (qce (T:=T) l) hg j i (qJ k (qJ (qdO (v:=.ty T) ht e b rfl n f) jK h2) h1) (by decide) (by decide) (by rw [h1]) (by rw [h2]; rfl)) λσ H Q h=>?_;obtain ⟨F,ρ,g,h⟩:=XN (ma:=ma) h;refine ⟨F,ρ,g,?_⟩;cases q:fa ρ with
 | ok p=>rw [q] at h;obtain ⟨d,ρ1⟩:=p;intro v F1 H1 r c1 m;obtain ⟨o,dx,z⟩:=h v F1 H1 r c1 m;exact ⟨v,o,dx,rfl,z⟩
 | exc c=>rw [q] at h; exact h
 | bad=>rw [q] at h; exact h.elim
noncomputable def xP:List D->Option (List Bool)
 | []=>iO []
 | .bl b::ds=>(xP ds).map (b::·)
 | _::_=>iQ
noncomputable def Yv:D->Out D
 | .lst ds=>match xP ds with
  | some bs=>.ok (.bl (bs.all id))
  | none=>.bad
 | _=>.bad
theorem qcf {us:List iR} {bs:List Bool} (a:IsL K F vs ds) (l:Vals vs us) (e:xP ds=iO bs):us=bs.map dg:=by
 induction ds generalizing vs us bs with
 | nil=>cases a;cases l;cases e;rfl
 | cons d ds j=>
  cases a with
  | cons i a=>
   cases l with
   | cons r l=>
    cases d with
    | bl b=>obtain ⟨c,e1,rfl⟩:=aQ.mp (show (xP ds).map (b::·)=iO bs from e);cases i;cases r;rw [j a l e1];rfl
    | _=>cases e
theorem gh (m:C.K=X.K) (j:X.calm=iT):zX X C .sh (.builtin "all") Yv:=by
 intro pins s σ H xs us Q I r h;obtain ⟨x,F,dx,rfl,y,d,po⟩:=h;cases dx <;> try exact po.elim
 rename_i ds;obtain ⟨p,vs,rfl,hq,t⟩:=d.lst y;obtain ⟨u,rfl,g⟩:=uP r;cases g;unfold Yv at po;cases q:xP ds with
 | none=>simp only [q] at po; exact po.elim
 | some bs=>
  simp only [q] at po;obtain ⟨its,f,pl,hz⟩:=I.list (show SqL X.K H p vs by rw [<-m]; exact hq);have eb:=qcf t f q;subst eb;have hp:p < s.heap.objs.size:=let ⟨o,h1,_⟩:=pl.isList; aq h1;refine call_all_walk (mm pl.isList ?_);have W:Walks X.prog X.w X.A.in1 s.heap.objs.size [s.heap.objs.size,p] [s.heap.objs.size] (bs.map dg).toArray.size (λi v=>(bs.map dg).toArray[i]?=iO v) (λi h=>h.IsListIter s.heap.objs.size p i/\h.IsList p (bs.map dg).toArray):=iN (A:=X.A.in1) (show X.A.in1.handled=iQ from I.ok.hd j) s.heap.objs.size p (ay hp) _;have st:(s.heap.push { cls:=.type "list_iterator",data:=.fields #[.ref p,.int 0 0] }).IsListIter s.heap.objs.size p 0/\(s.heap.push { cls:=.type "list_iterator",data:=.fields #[.ref p,.int 0 0] }).IsList p (bs.map dg).toArray:=⟨⟨_,ah _ rfl,rfl,rfl⟩,let ⟨o,h1,h2⟩:=pl.isList; ⟨o,ac _ h1,h2⟩⟩
  refine ⟨_,_,_,_,_,_,λi=>(bs[i]?).getD iS,rfl,W,st,λi v s' n E l c=>?_,λh' tk kp=>?_⟩
  ·have l:(bs.map dg).toArray[i]?=iO v:=l;rw [fm,aF] at l;cases B:bs[i]? with
   | none=>rw [B] at l; cases l
   | some b=>have a:n ((bs[i]?).getD iS) s':=c;rw [B] at l a;cases l;exact lm a
  ·have e:(aK (bs.map dg).toArray.size).all (λi=>(bs[i]?).getD iS)=bs.all id:=by
    rw [au,am,Bool.eq_iff_iff,aJ,aJ];constructor;·intro h b k;obtain ⟨i,hi,e⟩:=dQ.mp k;have:=h i (aZ.mpr hi);rw [aA hi,e] at this;exact this
    ·intro h i hi;have hi:=aZ.mp hi;rw [aA hi];exact h _ (bZ hi)
   rw [e];refine ⟨.bl (bs.all id),H,?_,rfl,po _ F H y .refl (.bl _)⟩;have k2:∀ b o,s.heap.get? b=iO o->h'.get? b=iO o:=λb o eb=>kp b o (by simp; exact ay (aq eb)) (ac _ eb);exact I.kept (t':=tk) k2
end
def PoO (C:Ct) (own:List Nat) (σ:St) (F H:Hp) (r:Out (Option Int×Sl)) (Q:Option Int->Hp->Prop):Prop:=match r with
 | .ok (b,ρ')=>∀ F' H',Rep C.K own F' H' σ ρ'->Chg (OA own σ) F H F' H'->Q b H'
 | .exc c ρ'=>∀ F' H',Same F' H'->XM C.K C.ox F' H' σ ρ'->Chg (OA own σ) F H F' H'->C.E (C.cv c) iQ H'
 | .bad=>False
def tO (C:Ct) (own:List Nat) (f:Sl->Out (Option Int×Sl)):TO:=λσ H Q=>∃ F ρ,Rep C.K own F H σ ρ/\PoO C own σ F H (f ρ) Q
noncomputable def QB:Option (qZ)->Sl->Out (Option Int×Sl)
 | none,ρ=>.ok (iQ,ρ)
 | some f,ρ=>(f ρ).bind λp=>match p.1 with
  | .int i=>.ok (iO i,p.2)
  | _=>.bad
theorem Po.bindO {o:Out (Option Int×Sl)} {k:Option Int×Sl->KZ} {Q:VK} {R:Option Int->Hp->Prop} (hp:Po C own m σ F H (o.bind k) Q)
  (h:∀ F1 H1 b ρ1,Rep C.K own F1 H1 σ ρ1->Chg (OA own σ) F H F1 H1->Po C own m σ F1 H1 (k (b,ρ1)) Q->R b H1):PoO C own σ F H o R:=by
 cases o with
 | ok p=>obtain ⟨d,ρ1⟩:=p;exact λF1 H1 a c=>h F1 H1 d ρ1 a c (Po.shift (show Po C own m σ F H (k (d,ρ1)) Q from hp) c)
 | exc x=>exact hp
 | bad=>exact hp.elim
section
variable {a:Expr} {fa f:qZ} {p2:Pos}
theorem JF:PO X iQ (tO C own (QB iQ)):=by intro pins s σ H Q I ⟨F,ρ,a,h⟩;exact qd4 pins s σ H Q I (h F H a .refl)
theorem JG (h:PE X e (tE C own m f)):PO X (iO e) (tO C own (QB (iO f))):=by
 intro pins s σ H Q I ⟨F,ρ,r,hp⟩;refine qd5 h pins s σ H Q I ⟨F,ρ,r,?_⟩;have hp:PoO C own σ F H ((f ρ).bind λp=>match p.1 with | .int i=>.ok (iO i,p.2) | _=>.bad) Q:=hp;cases q:f ρ with
 | ok p=>
  rw [q] at hp;obtain ⟨d,ρ1⟩:=p;cases d with
  | int i=>exact λv F1 H1 a c1 b=>⟨i,b.top.int,hp F1 H1 a c1⟩
  | _=>exact hp.elim
 | exc c=>rw [q] at hp; exact hp
 | bad=>rw [q] at hp; exact hp.elim
end
noncomputable def Its (x:Str):It:=⟨λi _=>i < x.cps.size,λi H v H'=>H'=H/\∃ c,x.cps[i]?=iO c/\v=.str ⟨#[c]⟩,λi _=>x.cps.size<=i⟩
noncomputable def Vt (x:Str):List D:=x.cps.toList.map λc=>.str ⟨#[c]⟩
theorem Yw {P:i7} {w:i8} {K:Frag} {tg:Expr} (it:Addr) (x:Str) (t:Tok) (ty:String) (y:["enumerate", "zip", "dict_itemiterator", "dict_reverseitemiterator", "odict_iterator", "itertools.zip_longest", "itertools.pairwise"].contains ty=iS)
  (W:∀ A:j9,A.handled=iQ->Walks P w A it [it] [it] x.cps.size (SignAt x) (λi h=>h.IsStrIter it ty x t i)) (p:∀ (A:j9) (i:Nat) (s:iU) (Q:iR->iU->Prop) (E:iR->iU->Prop),s.heap.IsStrIter it ty x t i->Q (.ref it) s->iW (model P w) A (nD (.ref it)) Q E s) :
  Turn P w K tg (Its x) [it] it (λi h=>h.IsStrIter it ty x t i/\i<=x.cps.size) where
 mem:=by simp
 obj:=λi h st b a=>by
  have e:b=it:=by simpa using a
  subst e;obtain ⟨o,e,c,d⟩:=st.1;exact ⟨o,e,λv z=>by rw [d] at z; cases z⟩
 keep:=λi h h' st k=>by obtain ⟨⟨o,e,r⟩,hi⟩:=st;exact ⟨⟨o,k it (by simp) o e,r⟩,hi⟩
 item:=by
  intro X l hw m j i pins s σ H E I f st hg;subst l hw m;obtain ⟨f0,f1,f2,q,f4,n⟩:=f it (by simp);refine (W X.A (I.ok.hd j)).item i s _ _ hg st.1 λv h' tk l g kp=>?_;have B:Inv X pins σ H { s with heap:=h',toks:=tk }:=I.turned (t':=tk) (λb o a e=>kp b o (by simpa using a) e) f0 f1 q f4 n;obtain ⟨o,e,c,d⟩:=id g;obtain ⟨S,u,h1,h2⟩:∃ S u,x.cps[i]?=iO S/\v=dE ⟨#[S]⟩ u:=by
   unfold SignAt at l;first
    | exact l
    | (obtain ⟨S,u,h1,h2⟩:=l; exact ⟨S,u,h1,h2⟩)
    | (obtain ⟨S,h1,u,h2⟩:=l; exact ⟨S,u,h1,h2⟩)
    | (obtain ⟨u,S,h1,h2⟩:=l; exact ⟨S,u,h1,h2⟩)
  subst h2;exact ⟨_,rfl,qbI (s:={ s with heap:=h',toks:=tk }) e c d y ⟨.str ⟨#[S]⟩,H,B,⟨u,rfl⟩,⟨rfl,S,h1,rfl⟩,⟨g,hg⟩,λb a=>(f b a).1⟩⟩
 done:=by intro X l hw m j i pins s σ H E I f st hg;subst l hw m;obtain ⟨f0,f1,f2,q,f4,n⟩:=f it (by simp);have hi:i=x.cps.size:=Nat.le_antisymm st.2 hg;subst hi;exact (W X.A (I.ok.hd j)).done s _ _ st.1 λh' tk kp=>⟨rfl,I.turned (t':=tk) (λb o a e=>kp b o (by simpa using a) e) f0 f1 q f4 n⟩
 self:=λA i s Q E st h=>p A i s Q E st.1 h
theorem qgP:ItIs K F (Its x) (Vt x) where
 go:=λi H hi _=>by
  have:i < x.cps.size:=by simpa [Vt] using hi
  exact this
 yld:=λi Fi H v H' d e s1 s2 y=>by
  obtain ⟨rfl,c,h1,rfl⟩:=y;have e:d=.str ⟨#[c]⟩:=by
   unfold Vt at e;rw [aF] at e;have h1:x.cps.toList[i]?=iO c:=by simpa using h1
   rw [h1] at e;exact (aM.inj e).symm
  subst e;exact ⟨Fi,.refl,s2,.str (Yh c)⟩
 stop:=λi H hi _=>by
  have:x.cps.size<=i:=by simpa [Vt] using hi
  exact this
noncomputable def jw:D->Out (List D)
 | .lst xs=>.ok xs
 | .tup xs=>.ok xs
 | .str x=>.ok (Vt x)
 | _=>.bad
noncomputable def jI (f:qZ):wq:=λρ=>(f ρ).bind λp=>(jw p.1).bind λds=>.ok (ds,p.2)
section
variable {f:qZ}
theorem qgQ {l:Expr} {tl:TE} (hl:PE X l tl):PI X tg l (λσ H R=>tl σ H λx H1=>(∃ a,x=.ref a/\(((∃ xs,SqL X.K H1 a xs)/\R (Itl X.K a) H1)\/((∃ xs,SqT X.K H1 a xs)/\R (Itt X.K a) H1)))\/∃ z,x=.str z/\R (Its z) H1):=by
 refine ⟨?_⟩;intro pins s σ H R I h;refine thn (hl pins s σ H _ I h) λv s1 ⟨x,H1,d,r1,c⟩=>?_;have fp:∀ b∈[s1.heap.objs.size],Wu X pins H1 b:=λb f=>by
  have e:b=s1.heap.objs.size:=by simpa using f
  subst e;exact d.fpOk (ap _) (d.hok.fresh (ap _))
 rcases c with ⟨a,rfl,q⟩ | ⟨z,rfl,q⟩
 ·cases r1;rcases q with ⟨⟨xs,hq⟩,q⟩ | ⟨⟨xs,hq⟩,q⟩
  ·obtain ⟨its,r,p,hz⟩:=d.list hq;refine mm p.isList ?_;exact ⟨s1.heap.objs.size,[s1.heap.objs.size],_,_,H1,rfl,d.kept (t':=s1.toks) λb o e=>ac _ e,ZN a _,⟨_,ah _ rfl,rfl,rfl⟩,fp,q⟩
  ·obtain ⟨its,r,p,hz⟩:=d.tuple hq;refine lU (show s1.heap.IsTuple a its.toArray from p) ?_;exact ⟨s1.heap.objs.size,[s1.heap.objs.size],_,_,H1,rfl,d.kept (t':=s1.toks) λb o e=>ac _ e,Xz a _,⟨_,ah _ rfl,rfl,rfl⟩,fp,q⟩
 ·obtain ⟨t,rfl⟩:=r1;cases g:z.cps.all (· < 128) with
  | true=>refine wpAny_pyIter_ascii g ?_;exact ⟨s1.heap.objs.size,[s1.heap.objs.size],_,_,H1,rfl,d.kept (t':=s1.toks) λb o e=>ac _ e,Yw _ z t "str_ascii_iterator" (by decide) (λA hA=>Walks.strAscii hA _ z t) (λA i s Q E st h=>wpAny_pyIter_striter_ascii st h),⟨⟨_,ah _ rfl,rfl,rfl⟩,bi _⟩,fp,q⟩
  | false=>refine wpAny_pyIter_wide g ?_;exact ⟨s1.heap.objs.size,[s1.heap.objs.size],_,_,H1,rfl,d.kept (t':=s1.toks) λb o e=>ac _ e,Yw _ z t "str_iterator" (by decide) (λA hA=>Walks.strWide hA _ z t) (λA i s Q E st h=>wpAny_pyIter_striter_wide st h),⟨⟨_,ah _ rfl,rfl,rfl⟩,bi _⟩,fp,q⟩
theorem qM (b:C.K=X.K) (h:PE X e (tE C own m f)) (g:m≠.any:=by decide):PI X tg e (tIt C own (jI f)):=by
 refine qb8 (qgQ (yu h g)) λσ H R ⟨F,ρ,r,h⟩=>⟨F,ρ,r,PoI.bindV h λv F1 H1 d ρ1 a c1 c h1=>?_⟩
 have c:Is C.K F1 v d:=c;cases c with
 | lst p t=>exact .inl ⟨_,rfl,.inl ⟨⟨_,by rw [<-b]; exact a.sub.seq p⟩,by rw [<-b]; exact h1 _ F1 H1 a c1 (qgD p t)⟩⟩
 | tup p t=>exact .inl ⟨_,rfl,.inr ⟨⟨_,by rw [<-b]; exact jg a.sub p⟩,by rw [<-b]; exact h1 _ F1 H1 a c1 (qgE p t)⟩⟩
 | str hz=>exact .inr ⟨_,rfl,h1 _ F1 H1 a c1 qgP⟩
 | _=>exact h1.elim
end
end L2.D2
namespace L2.D2
open PySem PySem.Spec PySem.Calls PyProof.Rows PySem.W Builtin Builtin.ObjectAttr Builtin.Getset_descriptor
noncomputable def xcB (K:Frag) (C:Addr):Bool:=decide (subIn K (.ref C) (.type "BaseException")=iO iT)&&decide (findIn K (.ref C) "__getattribute__"=iO (iO (.builtin "BaseException.__getattribute__")))&&decide (findIn K (.ref C) "__getattr__"=iO iQ) &&
 decide (findIn K (.ref C) "__class__"=iO (iO (.builtin "object.__class__")))&&decide (mroIn K C (.type "object")=iO iT)&&(clsIn K C).isSome
end L2.D2
namespace L2.D2
open PySem PySem.Spec PyProof.Rows
variable {P:i7} {w:i8} {K:Frag} {N:List Str} {A:j9} {C:Ct}
theorem qgR {mg:Str->Option iR} {base:Heap} {qual:Str} {scope:mC} {f:Addr} {cd:iR} {outer:List Env} {s0:iU} {H0:Hp} {E:XK} (h:C.E=E):Yn (cxk P w K mg base N qual scope f cd A outer s0 H0 E) C:=by subst h;exact qgH
noncomputable def qdg (ca:Str->Addr) (cs:List Str) (c:Str):Option Addr:=if c∈cs then iO (ca c) else iQ
structure Xs (K:Frag) (cv:Str->iR) (ca:Str->Addr) (cs:List Str) (top:Str):Prop where
 val:∀ c∈cs,cv c=.ref (ca c)
 own:∀ c∈cs,cZ K (.ref (ca c)) (cv top)=iO iT
 cls:∀ c∈cs,xcB K (ca c)=iT
 kit:∀ c∈cs,∀ d∈cs,cD K (.ref (ca c)) (.ref (ca d))=iO (decide (ca c=ca d))
 ve:∀ c∈cs,cD K (.ref (ca c)) (.type "ValueError")=iO iT
section
variable {cv:Str->iR} {ca:Str->Addr} {cs:List Str} {top:Str}
theorem Xs.hit (z:Xs K cv ca cs top):∀ c Cc,qdg ca cs c=iO Cc->cv c=.ref Cc/\cZ K (.ref Cc) (cv top)=iO true:=λc Cc h=>by
 unfold qdg at h;split at h;·cases h;exact ⟨z.val c (by assumption),z.own c (by assumption)⟩
 ·cases h
end
inductive SK where
 | l | t
noncomputable def SK.itc:SK->String
 | .l => "list_iterator"
 | .t => "tuple_iterator"
def SeqK (h:Heap) (a:Addr):SK->Array iR->Prop
 | .l,xs=>h.IsList a xs
 | .t,xs=>h.IsTuple a xs
def ItK (h:Heap) (it a:Addr):SK->Nat->Prop
 | .l,i=>h.IsListIter it a i
 | .t,i=>h.IsTupleIter it a i
def SqK (K:Frag) (H:Hp) (a:Addr):SK->List V->Prop
 | .l,xs=>SqL K H a xs
 | .t,xs=>SqT K H a xs
variable {h h':Heap} {a:Addr} {xs:Array iR}
theorem SeqK.at:∀ {k:SK},SeqK h a k xs->(∀ o,h.get? a=iO o->h'.get? a=iO o)->SeqK h' a k xs
 | .l,⟨o,e,c⟩,k=>⟨o,k _ e,c⟩
 | .t,⟨o,e,c⟩,k=>⟨o,k _ e,c⟩
theorem SeqK.lt:∀ {k:SK},SeqK h a k xs->a < h.objs.size
 | .l,⟨o,e,c⟩=>aq e
 | .t,⟨o,e,c⟩=>aq e
variable {it:Addr} {i:Nat}
theorem ItK.obj:∀ {k:SK},ItK h it a k i->∃ o,h.get? it=iO o/\o.cls=.type k.itc/\o.data=.fields #[.ref a,.int i 0]
 | .l,⟨o,e,c,d⟩=>⟨o,e,c,d⟩
 | .t,⟨o,e,c,d⟩=>⟨o,e,c,d⟩
theorem ItK.of:∀ {k:SK},(∃ o,h.get? it=iO o/\o.cls=.type k.itc/\o.data=.fields #[.ref a,.int i 0])->ItK h it a k i
 | .l,⟨o,e,c,d⟩=>⟨o,e,c,d⟩
 | .t,⟨o,e,c,d⟩=>⟨o,e,c,d⟩
variable {E:iR->iU->Prop} {prog:i7} {s:iU} {Q:Option iR->iU->Prop} {l:Addr} {items:Array iR} {x:iR} {o:Obj} {n:Nat}
section
theorem qcg {k:SK} {Q:iR->iU->Prop} (h:SeqK s.heap a k xs) (c:Q (.ref s.heap.objs.size) { s with heap:=s.heap.push { cls:=.type k.itc,data:=.fields #[.ref a,.int 0 0] } }):iW (model prog w) A (nD (.ref a)) Q E s:=by
 cases k with
 | l=>exact mm h c
 | t=>exact lU h c
noncomputable def SK.cl:SK->String
 | .l => "list"
 | .t => "tuple"
theorem GU {k:SK} (b:A.handled=iQ) (hi:ItK s.heap it l k i) (hl:SeqK s.heap l k items) (hx:items[i]?=iQ) (c:∀ h',iC it s.heap h'->Q iQ { s with heap:=h' }):iW (model prog w) A (lz (.ref it)) Q E s:=by
 cases k with
 | l=>exact wpAny_pyNext_list_end b hi hl hx c
 | t=>exact wpAny_pyNext_tuple_end b hi hl hx c
theorem XW {k:SK} (hi:ItK s.heap it l k i) (hl:SeqK s.heap l k items) (hx:items[i]?=iO x) (c:∀ h',ItK h' it l k (i+1)->bo it s.heap h'->Q (iO x) { s with heap:=h' }):iW (model prog w) A (lz (.ref it)) Q E s:=by
 cases k with
 | l=>exact wpAny_pyNext_list_item hi hl hx c
 | t=>exact wpAny_pyNext_tuple_item hi hl hx c
theorem SeqK.of (e:h.get? a=iO o) (d:o.data=.seq xs n):∀ {k:SK},o.cls=.type k.cl->SeqK h a k xs
 | .l,c=>⟨o,e,c,n,d⟩
 | .t,c=>⟨o,e,c,n,d⟩
end
variable {sk:SK}
section
theorem XX:m9 (.type "tuple") "keys"=pure none:=by rw [lX,lu]; kernel_rfl
theorem QC {k:Nat} {Q:Option iR->iU->Prop} (n:A.handled=iQ) (hx:s.heap.get? a=iO o) (l:o.cls=.type "tuple") (t:o.data=.seq xs k) (hd:o.dict=iQ)
  (h:∀ h' tk,(∀ b j,s.heap.get? b=iO j->h'.get? b=iO j)->Q iQ { s with heap:=h',toks:=tk }):iW (model prog w) A (nJ (.ref a) "keys") Q E s:=by
 obtain ⟨c,dct,q,sl⟩:=o;simp only at l t hd;subst l t hd;obtain ⟨hp,g,d,tk,os⟩:=s;have hT:∀ f,(⟨hp,g,d,f,os⟩:iU).TypeIs (.ref a) "tuple":=λ_=>⟨_,hx,rfl⟩
 have f1:=sub_AttributeError;have v:=dZ.lookup;have f4:=dZ.bind (.ref a);have u:=am_tuple_getattr_none;have p:=XX;have m:(["__module__", "__name__", "__qualname__", "__doc__", "__annotations__"]:List Str).contains ("keys":Str)=false:=by decide +kernel
 have hsz:("keys":Str).length+100<=sizeLine:=by rw [i9]; decide +kernel
 unfold nJ getAttrBy?;refine iP (wpAny_mkText (iP (ly ?_)));unfold getAttrBy;repeat (any_goals (first | assumption | exact hT _ | ((with_reducible show iW _ _ (call (Value.builtin "tuple.__getattribute__") _ _) _ _ _); refine lT dZ (hT _) am_entry_tuple_getattribute (F.args_tuple_getattribute_2 _ _) (meets_getattribute_miss_tuple a xs k sl "keys" _ p m hsz) ⟨hx,n,λh' f e i=>?_⟩) | wp_step))
 obtain ⟨t',U,r⟩:=i.there;show iW _ _ (mf _ _ _ _ _ _ _) _ _ _;unfold mf;repeat (any_goals (first | assumption | wp_step))
 exact h h' f i.keeps
theorem XY:m9 (.type "list") "keys"=pure none:=by rw [lX,lu]; kernel_rfl
theorem gi {k:Nat} {Q:Option iR->iU->Prop} (n:A.handled=iQ) (hx:s.heap.get? a=iO o) (l:o.cls=.type "list") (t:o.data=.seq xs k) (hd:o.dict=iQ)
  (h:∀ h' tk,(∀ b j,s.heap.get? b=iO j->h'.get? b=iO j)->Q iQ { s with heap:=h',toks:=tk }):iW (model prog w) A (nJ (.ref a) "keys") Q E s:=by
 obtain ⟨c,dct,q,sl⟩:=o;simp only at l t hd;subst l t hd;obtain ⟨hp,g,d,tk,os⟩:=s;have hT:∀ f,(⟨hp,g,d,f,os⟩:iU).TypeIs (.ref a) "list":=λ_=>⟨_,hx,rfl⟩
 have f1:=sub_AttributeError;have v:=d8.lookup;have f4:=d8.bind (.ref a);have u:=am_list_getattr_none;have p:=XY;have m:(["__module__", "__name__", "__qualname__", "__doc__", "__annotations__"]:List Str).contains ("keys":Str)=false:=by decide +kernel
 have hsz:("keys":Str).length+100<=sizeLine:=by rw [i9]; decide +kernel
 unfold nJ getAttrBy?;refine iP (wpAny_mkText (iP (ly ?_)));unfold getAttrBy;repeat (any_goals (first | assumption | exact hT _ | ((with_reducible show iW _ _ (call (Value.builtin "list.__getattribute__") _ _) _ _ _); refine lT d8 (hT _) am_entry_list_getattribute (F.args_list_getattribute_2 _ _) (meets_getattribute_miss_list a xs k sl "keys" _ p m hsz) ⟨hx,n,λh' f e i=>?_⟩) | wp_step))
 obtain ⟨t',U,r⟩:=i.there;show iW _ _ (mf _ _ _ _ _ _ _) _ _ _;unfold mf;repeat (any_goals (first | assumption | wp_step))
 exact h h' f i.keeps
theorem xQ:entryFor table "dict.update.loop"=iO Builtin.«dict.update.loop»:=entryFor_of_tree (by kernel_rfl)
theorem ku:plainId "dict.update.loop"=true:=by decide +kernel
def GV (h:Heap) (v key val:iR):Prop:=∃ p o n,v=.ref p/\h.get? p=iO o/\o.cls=.type "tuple"/\o.data=.seq #[key,val] n
theorem qch {sk:SK} {R:nE->iU->Prop} {d t:Addr} (hh:A.in1.handled=iQ) (Q:d≠t) (u:d≠it) (M:t≠it):∀ (n i:Nat) (s:iU) (kvs:List (Key×iR)) (ps:List (Key×iR×iR)),items.size - i=n->i<=items.size ->ItK s.heap it t sk i->SeqK s.heap t sk items->s.heap.DictOf (qP prog w) d kvs->ps.length=n->(∀ j p,ps[j]?=iO p->∃ v,items[i+j]?=iO v/\zO p.1 p.2.1=iT/\GV s.heap v p.2.1 p.2.2)->kvs.length+n<=sizeLine ->(∀ h' tk,h'.DictOf (qP prog w) d (ps.foldl (λl p=>stored l p.1 p.2.2) kvs)->(∀ b o,b≠d->b≠it->s.heap.get? b=iO o->h'.get? b=iO o)->R (.ok (.ret .none)) { s with heap:=h',toks:=tk }) ->lP (model prog w) A (.builtin "dict.update.loop" ⟨[.ref d,.ref it,lb i,.none],[]⟩) R s:=by
 intro n
 induction n with
 | zero=>intro i s kvs ps hn hi st ht hd hl hp hz V;have e:ps=[]:=eJ.mp hl;subst e;refine lh xQ ?_;rw [bt ku _];show iW _ A.in1 (lz (.ref it) >>= _) _ _ s;refine iP (GU hh st ht (by simp; lia) λh' eb=>?_);show iW _ A.in1 (ret bO) _ _ _;refine iV (V h' s.toks ?_ λb o _ h2 e=>eb b o h2 e);obtain ⟨o,es,ep,D,r⟩:=hd;exact ⟨o,es,ep,eb d o u D,r⟩
 | succ n F=>
  intro i s kvs ps hn hi st ht hd hl hp hz V;cases ps with
  | nil=>simp at hl
  | cons p ps=>
   obtain ⟨v,hv,hk,q,W,nq,rfl,hq,O,c⟩:=hp 0 p rfl;obtain ⟨od,es,ep,g,hdx,a⟩:=id hd;have Z:q≠d:=λz=>by subst z;rw [hq] at g; cases g;rw [a.1] at c; cases c
   obtain ⟨oi,f,hic,E⟩:=st.obj;have J:q≠it:=λz=>by subst z;rw [hq] at f; cases f;rw [E] at c; cases c
   refine lh xQ ?_;rw [bt ku _];show iW _ A.in1 (lz (.ref it) >>= _) _ _ s;refine iP (XW st ht (x:=.ref q) (by simpa using hv) λh' H G=>?_);have C:h'.get? q=iO W:=(G.2 q J).trans hq;have U:g9 { s with heap:=h' } (.ref q) "tuple":=⟨W,C,O⟩
   have T:h'.DictOf (qP prog w) d kvs:=by obtain ⟨o,es,ep,D,r⟩:=hd;exact ⟨o,es,ep,(G.2 d u).trans D,r⟩
   have N:SeqK h' t sk items:=ht.at λo D=>(G.2 t M).trans D;dsimp only;refine iP (k9 (iP ?_));refine wpAny_tryCatch ?_;unfold Builtin.Dict.pairItems;refine iP (mn U ?_);rw [Aa (by decide)];refine iP (k6 C c (iV ?_));show iW _ A.in1 (holding [p.2.1,p.2.2] (dictSet d p.2.1 p.2.2)) _ _ _;refine k9 (wpAny_dictSet_pairs (knd:=qP prog w) hk T (λh2 hd2 k=>?_) (by lia));have keep:∀ b o,b≠d->b≠it->s.heap.get? b=iO o->h2.get? b=iO o:=λb o n1 n2 e=>(k.2 b n1).trans ((G.2 b n2).trans e);have X:(stored kvs p.1 p.2.2).length<=kvs.length+1:=by unfold stored;split <;> simp
   refine iV ⟨lO ku _,?_⟩;have ec:lb ((i:Int)+1)=lb ((i+1:Nat):Int):=by push_cast; rfl
   rw [ec];refine F (i+1) _ (stored kvs p.1 p.2.2) ps (by lia) (by lia) ?_ ?_ hd2 (by simpa using hl) (λj Y e=>?_) (by lia) λh3 tk S k3=>?_;·obtain ⟨o,e,r⟩:=H.obj;exact .of ⟨o,(k.2 it (bb u)).trans e,r⟩
   ·exact N.at λo e=>(k.2 t (bb Q)).trans e
   ·obtain ⟨v',L,P,I,y,K,rfl,m,B,h⟩:=hp (j+1) Y (by simpa using e);refine ⟨.ref I,by rw [show i+1+j=i+(j+1) by lia]; exact L,P,I,y,K,rfl,keep I y (λz=>?_) (λz=>?_) m,B,h⟩;·subst z;rw [m] at g; cases g;rw [a.1] at h; cases h
    ·subst z;rw [m] at f; cases f;rw [E] at h; cases h
   ·exact V h3 tk S λb o n1 n2 e=>k3 b o n1 n2 (keep b o n1 n2 e)
theorem gj {t:Addr} {ps:List (Key×iR×iR)} {Q:iR->iU->Prop} (J:A.handled=iQ) {m:Obj} {nt:Nat} (z:s.heap.get? t=iO m) (d:m.cls=.type sk.cl) (n:m.dict=iQ) (f:m.data=.seq items nt)
  (hl:ps.length=items.size) (hp:∀ (j:Nat) (p:Key×iR×iR),ps[j]?=iO p->∃ v,items[j]?=iO v/\zO p.1 p.2.1=iT/\GV s.heap v p.2.1 p.2.2) (hz:items.size<=sizeLine)
  (h:∀ h' tk,h'.DictOf (qP prog w) s.heap.objs.size (ps.foldl (λl p=>stored l p.1 p.2.2) [])->(∀ b o,s.heap.get? b=iO o->h'.get? b=iO o)->Q (.ref s.heap.objs.size) { s with heap:=h',toks:=tk }) :
  iW (model prog w) A (call (.type "dict") [.ref t]) Q E s:=by
 refine callType_codes (Q₁:=λobj k=>obj=.ref s.heap.objs.size/\k={ s with heap:=s.heap.push { cls:=.type "dict",data:=.dict #[] } }) F.kt_called_dict (F.kt_typeCall_dict_1 _) F.entry_dict_init (kt_code_dict_new _ ⟨rfl,rfl⟩) ?_;rintro obj k ⟨rfl,rfl⟩;have i:(s.heap.push { cls:=.type "dict",data:=.dict #[] }).DictOf (qP prog w) s.heap.objs.size []:=Heap.DictOf.new s.heap;refine ⟨i.typeIs,F.args_dict_init_2 _ _,?_⟩;unfold Builtin.«dict.__init__»;refine iP ?_;unfold Builtin.Dict.selfAndRest;refine iP (wpAny_notOrdered_dict i.typeIs ?_);show iW _ _ (pure (s.heap.objs.size,[aL t])) _ _ _;refine iV ?_;show iW _ _ (Builtin.Dict.updateFrom "dict.__init__" s.heap.objs.size (.ref t) [] .none) _ _ _;unfold Builtin.Dict.updateFrom;have g:(s.heap.push { cls:=.type "dict",data:=.dict #[] }).get? t=iO m:=ac _ z;have C:t < s.heap.objs.size:=aq z;refine iP (mn (T:=sk.cl) ⟨m,g,d⟩ ?_);rw [Aa (by cases sk <;> decide)];have P:∀ {L:Option iR->iU->Prop} {A1:j9} {R:iR->iU->Prop} {s1:iU},A1.handled=iQ->s1.heap.get? t=iO m->(∀ h' tk,(∀ b I,s1.heap.get? b=iO I->h'.get? b=iO I)->L iQ { s1 with heap:=h',toks:=tk })->iW (model prog w) A1 (nJ (.ref t) "keys") L R s1:=λa b c=>by
  cases sk with
  | l=>exact gi a b d f n c
  | t=>exact QC a b d f n c
 refine iP (P (by exact J) g λh1 H k1=>?_);rw [Aa (show (iQ:Option iR).isNone=iT from rfl)];refine iP (l0 ?_);have y:h1.get? t=iO m:=k1 _ _ g;have D:h1.DictOf (qP prog w) s.heap.objs.size []:=by obtain ⟨o,es,ep,B,r⟩:=i;exact ⟨o,es,ep,k1 _ _ B,r⟩
 have x:SeqK h1 t sk items:=.of y f d;refine iP (qcg (s:={ s with heap:=h1,toks:=H }) x ?_);have u:s.heap.objs.size < h1.objs.size:=let ⟨o,es,ep,B,r⟩:=D; aq B;have up:∀ b o,s.heap.get? b=iO o->(h1.push { cls:=.type sk.itc,data:=.fields #[.ref t,.int 0 0] }).get? b=iO o:=λb o e=>ac _ (k1 _ _ (ac _ e));refine iV ⟨lO ku _,?_⟩;refine qch (items:=items) (t:=t) (A:=A.in1) (show A.in1.in1.handled=iQ from J) (cw C) (ay u) (ay (cR C u)) items.size 0 _ [] ps (by lia) (bi _) (.of ⟨_,ah _ rfl,rfl,rfl⟩) ?_ ?_ hl (λj p e=>?_) (by simpa using hz) λh2 G hd2 k2=>⟨rfl,h h2 G hd2 λb o e=>?_⟩
 ·exact .of (ac _ y) f d
 ·obtain ⟨o,es,ep,B,r⟩:=D;exact ⟨o,es,ep,ac _ B,r⟩
 ·obtain ⟨v,N,O,q,W,M,rfl,hq,r⟩:=hp j p e;exact ⟨.ref q,by simpa using N,O,q,W,M,rfl,up q W hq,r⟩
 ·have K:=aq e;exact k2 b o (ay K) (ay (cR K u)) (up b o e)
end
noncomputable def Ww:D->Option Key
 | .int i=>iO (.inl i)
 | .str x=>iO (.inr x)
 | _=>iQ
noncomputable def vU (kvs:List (Key×D)) (k:Key) (d:D):List (Key×D):=if kvs.any (λp=>decide (p.1=k)) then kvs.map λp=>if p.1=k then (p.1,d) else p else kvs++[(k,d)]
noncomputable def qci:D->Option (Key×D)
 | .tup [k,v]=>(Ww k).map λk=>(k,v)
 | _=>iQ
noncomputable def uE:List D->Option (List (Key×D))
 | []=>iO []
 | d::ds=>match qci d,uE ds with
  | some p,iO ps=>iO (p::ps)
  | _,_=>iQ
noncomputable def qcj:D->Out D
 | .tup ds=>match uE ds with
  | some ps=>.ok (.dct (ps.foldl (λl p=>vU l p.1 p.2) []))
  | none=>.bad
 | _=>.bad
noncomputable def qgS (d:D):Out D:=(Qz d).bind λds=>match uE ds with
 | some ps=>.ok (.dct (ps.foldl (λl p=>vU l p.1 p.2) []))
 | none=>.bad
variable {d:D} {F H:Hp} {v:V} {ds:List D}
theorem Yx (y:Same F H) (h:TopIs K F H v d) (e:Qz d=.ok ds):∃ a k xs,v=.ref a/\SqK K H a k xs/\IsL K F xs ds:=by
 cases d with
 | lst es=>cases e; obtain ⟨a,xs,rfl,q,t⟩:=h.lst y; exact ⟨a,.l,xs,rfl,q,t⟩
 | tup es=>cases e; obtain ⟨a,xs,rfl,q,t⟩:=h.tup y; exact ⟨a,.t,xs,rfl,q,t⟩
 | _=>cases e
theorem IsK.any {k:Key}:∀ {kv:List (Key×V)} {ks:List (Key×D)},IsK K F kv ks->(kv.any λp=>decide (p.1=k))=(ks.any λp=>decide (p.1=k))
 | _,_,.nil=>rfl
 | _,_,.cons h t=>by rw [cy,cy,IsK.any t]
theorem IsK.repl {k:Key} (i:Is K F v d):∀ {kv:List (Key×V)} {ks:List (Key×D)},IsK K F kv ks->IsK K F (kv.map λp=>if p.1=k then (p.1,v) else p) (ks.map λp=>if p.1=k then (p.1,d) else p)
 | _,_,.nil=>.nil
 | _,_,.cons (k:=k') h t=>by
  rw [aD,aD];by_cases e:k'=k;·simp only [e,if_true]; exact .cons i (IsK.repl i t)
  ·simp only [e,if_false]; exact .cons h (IsK.repl i t)
theorem IsK.snoc {k:Key} (i:Is K F v d):∀ {kv:List (Key×V)} {ks:List (Key×D)},IsK K F kv ks->IsK K F (kv++[(k,v)]) (ks++[(k,d)])
 | _,_,.nil=>.cons i .nil
 | _,_,.cons h t=>.cons h (IsK.snoc i t)
variable {kv:List (Key×V)}
theorem IsK.put {k:Key} {ks:List (Key×D)} (h:IsK K F kv ks) (i:Is K F v d):IsK K F (Qx kv k v) (vU ks k d):=by
 unfold Qx vU;rw [h.any];by_cases e:(ks.any λp=>decide (p.1=k))=iT;·rw [Aa e,Aa e]; exact IsK.repl i h
 ·rw [Ab e,Ab e]; exact IsK.snoc i h
theorem Yy:∀ {v:List (Key×V)} {ps:List (Key×D)} {kv:List (Key×V)} {ks:List (Key×D)},IsK K F v ps->IsK K F kv ks->IsK K F (v.foldl (λl p=>Qx l p.1 p.2) kv) (ps.foldl (λl p=>vU l p.1 p.2) ks)
 | _,_,_,_,.nil,h=>h
 | _,_,_,_,.cons i t,h=>by rw [cq,cq];exact Yy t (h.put i)
def qjK (p:Key×V) (q:Key×iR×iR):Prop:=p.1=q.1/\RelV p.2 q.2.2
theorem GW:∀ {v:List (Key×V)} {a:List (Key×iR×iR)} {kv:List (Key×V)} {vs:List (Key×iR)},nC qjK v a->KV kv vs->KV (v.foldl (λl p=>Qx l p.1 p.2) kv) (a.foldl (λl p=>stored l p.1 p.2.2) vs)
 | _,_,_,_,.nil,h=>h
 | _,_,_,_,.cons r t,h=>by rw [cq,cq];refine GW t ?_;rw [r.1];exact h.put _ r.2
theorem Yz:∀ {v:List (Key×V)} {kv:List (Key×V)},(v.foldl (λl p=>Qx l p.1 p.2) kv).length<=kv.length+v.length
 | [],kv=>ap _
 | p::v,kv=>by
  have h1:=@Yz v (Qx kv p.1 p.2);have h2:=uQ kv p.1 p.2;rw [cq,ai]
  lia
variable {X:Cx} {pins:Pns} {σ:St} {u:iR} {vs:List V}
section
theorem zU {k:Key} (i:Is C.K F v d) (r:RelV v u) (e:Ww d=iO k):zO k u=true:=by
 cases d with
 | int z=>cases i; cases e; obtain ⟨t,rfl⟩:=r; exact KH z t
 | str z=>cases i; cases e; obtain ⟨t,rfl⟩:=r; exact KI z t
 | _=>cases e
theorem YA (m:C.K=X.K) (I:Inv X pins σ H s) (y:Same F H):∀ {vs:List V} {us:List iR} {ds:List D} {ps:List (Key×D)},IsL C.K F vs ds->Vals vs us->uE ds=iO ps ->∃ (f:List (Key×V)) (c:List (Key×iR×iR)),IsK C.K F f ps/\nC qjK f c/\c.length=us.length/\f.length=us.length/\∀ (j:Nat) (p:Key×iR×iR),c[j]?=iO p->∃ v,us[j]?=iO v/\zO p.1 p.2.1=iT/\GV s.heap v p.2.1 p.2.2
 | _,_,_,_,.nil,.nil,e=>by cases e; exact ⟨[],[],.nil,.nil,rfl,rfl,λj p e=>by simp at e⟩
 | _,_,_,_,.cons (d:=d) (ds:=ds) i t,.cons (b:=u) r rs,e=>by
  unfold uE at e;cases q:qci d with
  | none=>rw [q] at e; cases e
  | some kd=>
   cases g:uE ds with
   | none=>rw [q,g] at e; cases e
   | some rest=>
    rw [q,g] at e;cases e;obtain ⟨f,c,h1,h2,h3,h,A⟩:=YA m I y t rs g;unfold qci at q;split at q
    ·rename_i E B;obtain ⟨k,x,rfl⟩:=aQ.mp q;cases i with
     | @tup a xs _ hq il=>
      cases il with
      | @cons xk _ xr _ ik il2=>
       cases il2 with
       | @cons xv _ xr2 _ iv il3=>
        cases il3;cases r;obtain ⟨its,l,⟨o,w,z,n,hd⟩,_⟩:=I.tuple (show SqT X.K H a [xk,xv] by rw [<-m]; exact jg y hq);cases l with
        | @cons _ uk _ _ rk rv2=>
         cases rv2 with
         | @cons _ uv _ _ rv3 rv4=>
          cases rv4;refine ⟨(k,xv)::f,(k,uk,uv)::c,.cons iv h1,.cons ⟨rfl,rv3⟩ h2,by simp [h3],by simp [h],λj p e=>?_⟩;cases j with
          | zero=>simp at e;subst e;exact ⟨_,rfl,zU ik rk x,a,o,n,rfl,w,z,hd⟩
          | succ j=>simpa using A j p (by simpa using e)
    ·cases q
theorem Vu (I:Inv X pins σ H s):∀ {k:SK},SqK X.K H a k vs->∃ its o n,Vals vs its/\s.heap.get? a=iO o/\o.cls=.type k.cl/\o.dict=iQ/\o.data=.seq its.toArray n/\vs.length<=sizeLine
 | .l,h=>let ⟨its,r,⟨o,n,e,c,b,hd⟩,hz⟩:=I.list h; ⟨its,o,n,r,e,c,b,hd,hz⟩
 | .t,h=>by obtain ⟨its,r,⟨o,e,c,n,hd⟩,hz⟩:=I.tuple h;obtain ⟨o2,d,b⟩:=I.tupleN h;rw [e] at d; cases d;exact ⟨its,o,n,r,e,c,b,hd,hz⟩
theorem qck (w:C.K=X.K) (E:X.calm=iT):zX X C .fr (.type "dict") qgS:=by
  intro pins s σ H xs us Q I r h;obtain ⟨x,F,dx,rfl,y,z,po⟩:=h;unfold qgS at po;cases e:Qz dx with
  | bad=>rw [e] at po; exact po.elim
  | exc c o=>cases dx <;> cases e
  | ok ds=>
   rw [e] at po;have po:PoV C .fr F H (match uE ds with | some ps=>.ok (.dct (ps.foldl (λl p=>vU l p.1 p.2) [])) | none=>.bad) Q:=po;cases q:uE ds with
   | none=>simp only [q] at po; exact po.elim
   | some ps=>
    simp only [q] at po;obtain ⟨a,sk,vs,rfl,hq,t⟩:=Yx y z e;obtain ⟨u,rfl,B⟩:=uP r;cases B;rw [w] at hq;obtain ⟨its,o,n,k,D,i,f,hd,hz⟩:=Vu I hq;obtain ⟨d,A,h1,h2,h3,L,J⟩:=YA w I y t k q;have m:=k.length;refine gj (ps:=A) (I.ok.hd E) D i f hd (by simp [h3]) (λj p e=>?_) (by simp; lia) λh' tk g kp=>?_;· obtain ⟨v,e1,M⟩:=J j p e;exact ⟨v,by simpa using e1,M⟩
    · have hp:H s.heap.objs.size=none:=I.hok.fresh (ap _);obtain ⟨s2,c2,G⟩:=kE (u:=.dK (d.foldl (λl p=>Qx l p.1 p.2) [])) y hp;have hl:(d.foldl (λl p=>Qx l p.1 p.2) ([]:List (Key×V))).length<=sizeLine:=by
        have:=@Yz d [];simp at this
        lia
      have b:(s.heap.objs.size == lA)=false:=beq_eq_false_iff_ne.mpr (cw I.big);refine ⟨.ref s.heap.objs.size,_,I.laid (o:=.dK (d.foldl (λl p=>Qx l p.1 p.2) [])) (t':=tk) kp (ap _) (Gj hl b (GW h2 .nil) g),rfl,po _ F _ s2 c2 ⟨_,rfl,hp,G,_,qm,Yy h1 .nil⟩⟩
theorem qeA (m:C.K=X.K) (d:X.calm=iT):zX X C .fr (.type "dict") qcj:=by
 intro pins s σ H xs us Q I r h;obtain ⟨x,F,dx,rfl,y,t,po⟩:=h;cases dx <;> try exact po.elim
 exact qck m d pins s σ H _ us Q I r ⟨x,F,_,rfl,y,t,po⟩
noncomputable def kN (kvs:List (Key×D)) (k:Key):Bool:=kvs.any λp=>decide (p.1=k)
noncomputable def inA:D->D->Out D
 | x,.dct kvs=>match Ww x with
  | some k=>.ok (.bl (kN kvs k))
  | none=>.bad
 | x,y=>qgv x y
noncomputable def YB:D->D->Out D
 | x,.dct kvs=>match Ww x with
  | some k=>.ok (.bl (!kN kvs k))
  | none=>.bad
 | x,y=>XQ x y
theorem YC {ks:List (Key×D)} {k:Key} (h:IsK K F kv ks):(XI kv k).isSome=kN ks k:=by rw [<-Jv,h.any]; rfl
theorem qiX {k:Key} (h:TopIs C.K F H v d) (e:Ww d=iO k):v=kV k:=by
 cases d with
 | int z=>cases e; exact h.int
 | str z=>cases e; exact h.str.1
 | _=>cases e
theorem YD (m:C.K=X.K) (f:X.A.units+64 < lE):OpD X C .sh (j0 .In) inA:=by
 intro pins s σ H x y v u Q I r c h;obtain ⟨F,dx,d,b,t,ty,po⟩:=h;by_cases hd:∃ kvs,d=.dct kvs
 ·obtain ⟨kvs,rfl⟩:=hd;cases q:Ww dx with
  | none=>unfold inA at po; simp only [q] at po; exact po.elim
  | some k=>
   unfold inA at po;simp only [q] at po;obtain ⟨a,kv,rfl,g,i⟩:=ty.dct b;cases c;have ex:=qiX t q;subst ex;refine qkn (by lia) I (DGet.k (k:=k) g) r λs' j=>⟨.bl _,H,j,rfl,?_⟩
   rw [YC i];exact po _ F H b .refl (.bl _)
 ·have e:inA dx d=qgv dx d:=by cases d <;> first | rfl | exact absurd ⟨_,rfl⟩ hd
  rw [e] at po;exact qiT m f pins s σ H x y v u Q I r c ⟨F,dx,d,b,t,ty,po⟩
theorem gk (m:C.K=X.K) (f:X.A.units+64 < lE):OpD X C .sh (j0 .NotIn) YB:=by
 intro pins s σ H x y v u Q I r c h;obtain ⟨F,dx,d,b,t,ty,po⟩:=h;by_cases hd:∃ kvs,d=.dct kvs
 ·obtain ⟨kvs,rfl⟩:=hd;cases q:Ww dx with
  | none=>unfold YB at po; simp only [q] at po; exact po.elim
  | some k=>
   unfold YB at po;simp only [q] at po;obtain ⟨a,kv,rfl,g,i⟩:=ty.dct b;cases c;have ex:=qiX t q;subst ex;refine qed (by lia) I (DGet.k (k:=k) g) r λs' j=>⟨.bl _,H,j,rfl,?_⟩
   rw [YC i];exact po _ F H b .refl (.bl _)
 ·have e:YB dx d=XQ dx d:=by cases d <;> first | rfl | exact absurd ⟨_,rfl⟩ hd
  rw [e] at po;exact qb2 m f pins s σ H x y v u Q I r c ⟨F,dx,d,b,t,ty,po⟩
end
theorem qeB (t:mF) (es:Array (Int×iR)) (h:Int) (x:iR):(layNew t es h x).2.1.led=t.led:=by
 unfold layNew;cases t.freeSlot h with
 | none=>rfl
 | some p=>obtain ⟨sl,w⟩:=p;show (SetTable.orStandIn (t.put sl).1 _).led=t.led;unfold SetTable.orStandIn;split <;> rfl
variable {t:mF}
theorem qeC {m f v:Nat} {l p:Bool} {hs:Array Int} {o:Array Nat} (h:iF m f v l p hs=iO (t,o)):t.led=l/\t.plain=p:=by
 unfold iF at h;cases e:SetTable.layClean m hs with
 | none=>rw [e] at h;cases h
 | some ow=>rw [e] at h;have h2:=congrArg Prod.fst (aM.inj h);subst h2;exact ⟨rfl,rfl⟩
theorem WR (t:mF) (es:Array (Int×iR)) (n:Nat):(mY t es n).2.1.led=t.led/\(t.plain=iS->(mY t es n).2.1.plain=iS):=by
 unfold mY;cases e:t.relaid (es.map (·.1)) n with
 | none=>exact ⟨rfl,λ_=>rfl⟩
 | some q=>
  obtain ⟨t',o⟩:=q;have k:=qeC (show iF _ _ _ _ _ _=iO (t',o) from e);dsimp only;split;·exact ⟨k.1,λz=>k.2.trans z⟩
  ·exact ⟨rfl,λ_=>rfl⟩
variable {κ:Type}
noncomputable def xg [DecidableEq κ] (ks:List κ) (x:κ):List κ:=if x∈ks then ks else ks++[x]
noncomputable def xR (ks:List Str) (x:Str):List Str:=if x∈ks then ks else ks++[x]
noncomputable def kg (es:Array (Int×iR)) (ep:Nat) (t:mF):Obj:={ cls:=.type "set",dict:=iQ,data:=.set es ep t,slots:=#[] }
structure KP (κ:Type) [DecidableEq κ] where
 kd:∀ (p:i7) (w:i8),PySem.KeyKind p w κ
 of:iR->κ
 pb:Bool
 ofi:∀ {p:i7} {w:i8} {x:κ} {v:iR},(kd p w).is x v=iT->of v=x
 sc:∀ {p:i7} {w:i8} {x:κ} {v:iR},(kd p w).is x v=iT->v.scannable=iT
 pl:∀ {p:i7} {w:i8} {x:κ} {v:iR},(kd p w).is x v=iT->pb=iT->plainKind v=iS
noncomputable def KpS:KP Str where
 kd:=PySem.strKind
 of:=strOf
 pb:=iT
 ofi:=λh=>let ⟨_,e⟩:=cU h; by rw [e]; rfl
 sc:=λh=>let ⟨_,e⟩:=cU h; by rw [e]; rfl
 pl:=λh _=>let ⟨_,e⟩:=cU h; by rw [e]; rfl
structure SetG {κ:Type} [DecidableEq κ] (T:KP κ) (prog:i7) (w:i8) (es:Array (Int×iR)) (t:mF) (ks:List κ):Prop where
 el:ElemsOf (T.kd prog w) es.toList
 perm:(es.toList.map λe=>T.of e.2).Perm ks
 nd:ks.Nodup
 bd:es.size < mD
 fits:t.fits es.size=iT
 led:t.led=!(w.params.followText "set-order")
 plain:T.pb=iT->ks≠[]->t.plain=iS
def SetK {κ:Type} [DecidableEq κ] (T:KP κ) (prog:i7) (w:i8) (h:Heap) (a:Addr) (ks:List κ):Prop:=∃ es ep t,h.get? a=iO (kg es ep t)/\SetG T prog w es t ks
variable {es:Array (Int×iR)} {ep:Nat}
section
theorem qgT {l:List (Int×iR)} (h:ElemsOf (PySem.strKind prog w) l) {e:Int×iR} (i:e∈l):∃ x t,e.2=.str x t:=by obtain ⟨⟨k,a,_⟩,_⟩:=h e i;obtain ⟨t,ht⟩:=cU a;exact ⟨k,t,ht⟩
variable [DecidableEq κ] {T:KP κ}
theorem SetG.mem {ks:List κ} (h:SetG T prog w es t ks) {x:κ}:x∈ks↔∃ e∈es.toList,(T.kd prog w).is x e.2=true:=by
 rw [<-h.perm.mem_iff,aC];constructor;·rintro ⟨e,i,z⟩;obtain ⟨⟨k,a,_⟩,_⟩:=h.el e i;rw [T.ofi a] at z;exact ⟨e,i,z ▸ a⟩
 ·rintro ⟨e,i,z⟩;exact ⟨e,i,T.ofi z⟩
theorem SetG.size {ks:List κ} (h:SetG T prog w es t ks):es.size=ks.length:=by have e:=h.perm.length_eq;simpa using e
theorem qdh {es':Array (Int×iR)} {t':mF} (l:h.get? a=iO (kg es ep t)):(h.update a (iH es' t')).get? a=iO (kg es' (ep+1) t'):=by have e:=aV (iH es' t') l (by rw [putSet_of (o:=kg es ep t) es' t' rfl]; rfl);rw [putSet_of (o:=kg es ep t) es' t' rfl] at e;exact e
theorem SetG.more {e:Array (Int×iR)} {f:mF} {ks:List κ} {x:κ} {v:iR} (h:SetG T prog w es t ks) (c:(T.kd prog w).is x v=iT) (nx:x∉ks) (r:ks.length+1 < mD)
  (hp:e.toList.Perm (es.toList++[((T.kd prog w).hash x,v)])) (d:f.fits e.size=iT) (hl:f.led=t.led) (hq:T.pb=iT->f.plain=iS):SetG T prog w e f (xg ks x):=by
 have ex:xg ks x=ks++[x]:=Ab nx;have hz:e.size=ks.length+1:=by rw [<-bV,hp.length_eq,ao,bV,h.size];rfl
 rw [ex];refine ⟨(h.el.push c (T.sc c)).perm hp,?_,?_,?_,d,hl.trans h.led,λb _=>hq b⟩;·refine (hp.map _).trans ?_;rw [cM,List.map_singleton,T.ofi c];exact h.perm.append (cF _)
 ·exact e9.mpr ⟨h.nd,by simp,λa i b g=>by rw [ax.mp g]; exact λz=>nx (z ▸ i)⟩
 ·rw [hz];exact r
theorem qeD {ks:List κ} {x:κ} {v:iR} {Q:Bool->iU->Prop} (m:(T.kd prog w).is x v=iT) (S:SetK T prog w s.heap a ks) (J:ks.length+1 < mD)
  (h:∀ h' b,bo a s.heap h'->SetK T prog w h' a (xg ks x)->Q b { s with heap:=h' }):iW (model prog w) A (setAddHashed a v ((T.kd prog w).hash x)) Q E s:=by
 obtain ⟨es,ep,t,o,d⟩:=S;unfold setAddHashed setAddHashedIn;refine k9 (iP (lq o rfl d.fits ?_));dsimp only;rw [byScan_of (T.sc m) d.bd d.el,Aa rfl];unfold setAddByScan;refine iP (iP (l0 (iP (wpAny_setScan_of m o rfl d.fits d.el ?_))));cases hq:es.toList.findIdx? (λe=>(T.kd prog w).is x e.2) with
 | some j=>obtain ⟨N,hp,_⟩:=List.findIdx?_eq_some_iff_getElem.mp hq;have hx:x∈ks:=d.mem.mpr ⟨_,bZ N,hp⟩;have q:=h s.heap iS (Heap.SameBut.refl a s.heap) ⟨es,ep,t,o,by rw [show xg ks x=ks from Aa hx]; exact d⟩;dsimp only;exact iV (iV q)
 | none=>
  have hx:x∉ks:=λz=>by obtain ⟨e,O,q⟩:=d.mem.mp z;have:=List.findIdx?_eq_none_iff.mp hq e O;rw [q] at this;cases this
  dsimp only;have hp:=layNew_perm t es ((T.kd prog w).hash x) v;have n:=layNew_fits t es ((T.kd prog w).hash x) v;have hl:=qeB t es ((T.kd prog w).hash x) v;generalize layNew t es ((T.kd prog w).hash x) v=L at hp n hl ⊢;obtain ⟨c,u,M,P⟩:=L;dsimp only at hp n hl ⊢;rw [fV] at hp;have l:∀ f:mF,f.fits c.size=iT->f.led=t.led->(T.pb=iT->f.plain=iS)->iW (model prog w) A (do
    storeSet a c f
    if (!M&&f.tooFull)=iT then do
      (match (mY f c (c6 c.size)).2.2 with | true=>rule "set.scan.the-table-gave-way" | false=>pure ())
      storeSet a (mY f c (c6 c.size)).1 (mY f c (c6 c.size)).2.1
      pure (iO iT)
     else pure (iO iT)) (λr s'=>∃ h',s'={ s with heap:=h' }/\r=iO iT/\bo a s.heap h'/\SetK T prog w h' a (xg ks x)) E s:=by
   intro f f2 I p2;have d2:=d.more m hx J hp f2 I p2;refine iP (wpAny_storeSet_of o rfl ?_ (mq d2.bd));have i:=qdh (es':=c) (t':=f) o;have y:=bp s.heap a (iH c f);split
   ·have C:=relayAll_perm f c (c6 c.size);have D:=relayAll_fits f c (c6 c.size);have B:=WR f c (c6 c.size);generalize mY f c (c6 c.size)=R at C D B ⊢;obtain ⟨p,H,Y⟩:=R;dsimp only at C D B ⊢;have K:=d.more m hx J (C.trans hp) D (B.1.trans I) (λb=>B.2 (p2 b));refine iP ?_;have go:iW (model prog w) A (storeSet a p H >>= λ_=>pure (iO iT)) (λr s'=>∃ h',s'={ s with heap:=h' }/\r=iO iT/\bo a s.heap h'/\SetK T prog w h' a (xg ks x)) E { s with heap:=s.heap.update a (iH c f) }:=
     iP (wpAny_storeSet_of i rfl (iV ⟨_,rfl,rfl,y.trans (bp _ a _),p,_,H,qdh i,K⟩) (mq K.bd))
    cases Y;·exact iV go
    ·exact l0 go
   ·exact iV ⟨_,rfl,rfl,y,c,_,f,i,d2⟩
  have fin:∀ (r:Option Bool) (s':iU),(∃ h',s'={ s with heap:=h' }/\r=iO iT/\bo a s.heap h'/\SetK T prog w h' a (xg ks x)) ->iW (model prog w) A (match r with | some k=>pure k | none=>setAddHashedIn a v ((T.kd prog w).hash x) 99999) Q E s':=by rintro r s' ⟨h',rfl,rfl,y,S⟩;exact iV (h h' iT y S)
  have gw:∀ (b:Bool) {g:iU} {G:Unit->iU->Prop},G () g->iW (model prog w) A (match b with | true=>rule "set.scan.the-table-gave-way" | false=>pure ()) G E g:=λb g G q=>by
   cases b;·exact iV q
   ·exact l0 q
  refine iP (gw _ ?_);cases e1:u.plain with
  | true=>rw [Aa rfl,hashByValue_scannable 8 (T.sc m)];refine iP (iV ?_);exact lB (l (if plainKind v=iT then u else { u with plain:=iS }) (by split; exact n; exact SetTable.fits_plain_off n) (by split <;> exact hl) (λb=>by rw [T.pl m b]; rfl)) fin λ_ _ z=>z
  | false=>rw [Ab (by simp)];refine iP (iV ?_);exact lB (l u n hl λ_=>e1) fin λ_ _ z=>z
end
theorem qcl [DecidableEq κ] (ks:List κ) (x:κ):(xg ks x).length<=ks.length+1:=by
 unfold xg;split
 ·lia
 ·rw [ao];exact ap _
theorem yI [DecidableEq κ]:∀ (l ks:List κ),(l.foldl xg ks).length<=ks.length+l.length
 | [],ks=>ap _
 | x::l,ks=>by
  have h1:=yI l (xg ks x);have h2:=qcl ks x;rw [cq,ai]
  lia
theorem YE:(xg:List Str->Str->List Str)=xR:=by funext ks x;unfold xg xR;congr
theorem gl (l ks:List Str):(l.foldl xR ks).length<=ks.length+l.length:=by rw [<-YE];exact yI l ks
theorem SetK.at [DecidableEq κ] {T:KP κ} {ks:List κ} (S:SetK T prog w h a ks) (k:∀ o,h.get? a=iO o->h'.get? a=iO o):SetK T prog w h' a ks:=
 let ⟨es,ep,t,l,d⟩:=S; ⟨es,ep,t,k _ l,d⟩
section
variable [DecidableEq κ] {T:KP κ} {R:nE->iU->Prop} {I:Addr} {fp wr:List Addr} {P:Nat->iR->Prop} {St:Nat->iU->Prop}
theorem qcm {G:Array nH->Array nH->Prop} (W:WalksS prog w A.in1 I fp wr G n P St) (S:Addr) (j:S∉fp) (ss:List κ) (K:ss.length=n) (J:∀ i v,P i v->∃ x,ss[i]?=iO x/\(T.kd prog w).is x v=iT) (d:n+1 < mD):∀ (k i:Nat) (s:iU),n - i=k->i<=n->St i s->SetK T prog w s.heap S ((ss.take i).foldl xg []) ->(∀ s',Moved (S::wr) G s s'->SetK T prog w s'.heap S (ss.foldl xg [])->R (.ok (.ret .none)) s')->lP (model prog w) A (.builtin "set.update.loop" ⟨[.ref S,.ref I],[]⟩) R s:=by
 have E:S∉wr:=λh=>j (W.sub _ h);have up:∀ b∈wr,b∈S::wr:=λb d=>ae _ d;intro k
 induction k with
 | zero=>
  intro i s q hi c r C;have y:i=n:=by lia
  subst y;refine lh F.entry_set_update_loop ?_;rw [bt eU _]; show iW _ A.in1 (lz (.ref I) >>= _) _ _ s;refine iP (W.done s _ _ c λs' g=>iV (C s' (g.mono up) ?_));rw [dn (fG K)] at r;exact r.at λo e=>g.heap S o E e
 | succ k H=>
  intro i s q hi c r C;have t:i < n:=by lia
  refine lh F.entry_set_update_loop ?_;rw [bt eU _]; show iW _ A.in1 (lz (.ref I) >>= _) _ _ s;refine iP (W.item i s _ _ t c λv s' L a g=>?_);obtain ⟨x,hx,q⟩:=J i v L;have B:SetK T prog w s'.heap S ((ss.take i).foldl xg []):=r.at λo e=>g.heap S o E e;show iW _ A.in1 (holding [v] (setAdd S v) >>= _) _ _ s';refine iP (k9 ?_);unfold setAdd;refine k9 (iP ((T.kd prog w).pyHash q ?_));have m:((ss.take i).foldl xg []).length+1 < mD:=by
   have h1:=yI (ss.take i) [];rw [bX,be] at h1
   lia
  refine qeD (s:={ s' with toks:=s'.toks+1 }) q B m λh' b D l=>?_;have M:xg ((ss.take i).foldl xg []) x=(ss.take (i+1)).foldl xg []:=by rw [List.take_add_one,hx,List.foldl_append];rfl
  rw [M] at l;refine iV ⟨lO eU _,H (i+1) _ (by lia) t (W.frame _ s' _ _ a (iB _) λb d o e=>?_) l λu f p=>?_⟩;·rw [D.2 b λz:b=S=>j (z ▸ d)];exact e
  ·refine C u (Moved.trans W.gtrans ((g.mono up).then_heap (iB _) λb o d e=>?_) f) p;rw [D.2 b λz:b=S=>d (z ▸ aj)];exact e
end
section
variable [DecidableEq κ] {T:KP κ}
abbrev qgU (w:i8):Obj:=kg #[] 0 (.fresh 0 0 (!(w.params.followText "set-order")))
theorem GX (e:h.get? a=iO (qgU w)):SetK T prog w h a []:=
 ⟨_,_,_,e,⟨λe i=>by simp at i,by simp,c7,by decide,by rfl,rfl,λ_ z=>absurd rfl z⟩⟩
theorem qeE (a:iR) {Q₁:iR->iU->Prop} (h:Q₁ (.ref s.heap.objs.size) { s with heap:=s.heap.push (qgU w) }):lP (model prog w) A (.call (.builtin "set.__new__") ⟨[.type "set",a],[]⟩) (wants Q₁ E) s:=by
 refine codeAny_of_tree ?_; show iW _ A.in1 (do checkBuiltinCall "set.__new__" ⟨[.type "set",a],[]⟩; again (.builtin "set.__new__" ⟨[.type "set",a],[]⟩)) _ _ s;refine iP (nj (PySem.F.newCall_set_1 a) (iV ⟨lO PySem.F.plain_set_new _,lh PySem.F.entry_set_new ?_⟩)); rw [bt PySem.F.plain_set_new _];unfold Builtin.«set.__new__» Builtin.Frozenset.newClass; have b:=sub_set_self; obtain ⟨hp,g,d,tk,os⟩:=s; dsimp only; wp_walk
 refine ll (iV ?_); dsimp only; simp only [newObj];exact iP (wpAny_alloc (iV (iV h)))
theorem WS:isSubtype (.type "tuple") (.type "set")=pure false:=by rw [my]; kernel_rfl
theorem QD:isSubtype (.type "tuple") (.type "frozenset")=pure false:=by rw [my]; kernel_rfl
theorem qcn:∀ sk:SK,isSubtype (.type sk.cl) (.type "set")=pure iS
 | .l=>PySem.F.sub_list_set
 | .t=>WS
theorem WT:∀ sk:SK,isSubtype (.type sk.cl) (.type "frozenset")=pure iS
 | .l=>PySem.F.sub_list_frozenset
 | .t=>QD
theorem qgV (b:A.handled=iQ) (sk:SK) (it l:Addr) (e:l≠it) (items:Array iR):Walks prog w A it [it,l] [it] items.size (λi v=>items[i]?=iO v) (λi h=>ItK h it l sk i/\SeqK h l sk items):=by
 cases sk with
 | l=>exact iN b it l e items
 | t=>exact Walks.tuple b it l e items
theorem SeqK.ty:∀ {sk:SK},SeqK s.heap a sk xs->s.TypeIs (.ref a) sk.cl
 | .l,⟨o,e,c,_⟩=>⟨o,e,c⟩
 | .t,⟨o,e,c,_⟩=>⟨o,e,c⟩
theorem qkq {S:Addr} {ss:List κ} {Q:Unit->iU->Prop} (q:A.handled=iQ) (k:SetK T prog w s.heap S []) (hl:SeqK s.heap l sk items) (p:ss.length=items.size) (hi:∀ (i:Nat) (v:iR),items[i]?=iO v->∃ x,ss[i]?=iO x/\(T.kd prog w).is x v=iT) (j:items.size+1 < mD) (g:l≠S)
  (h:∀ h' tk,SetK T prog w h' S (ss.foldl xg [])->(∀ b o,b≠S->s.heap.get? b=iO o->h'.get? b=iO o)->Q () { s with heap:=h',toks:=tk }) :
  iW (model prog w) A (cr "set.__init__" S (.ref l)) Q E s:=by
 have hT:=hl.ty;unfold cr;refine iP (m:=Builtin.Frozenset.isAnySet _) ?_;unfold Builtin.Frozenset.isAnySet;refine iP (lF hT (qcn sk) ?_);refine lF hT (WT sk) ?_;rw [Ab (by decide)];refine iP (mn hT ?_);rw [Ab (by cases sk <;> decide)];refine iP (qcg hl ?_);have hz:s.heap.objs.size≠S:=λz=>by obtain ⟨es,ep,t,n,_⟩:=k;exact bM _ (z ▸ aq n)
 have d:l≠s.heap.objs.size:=ay hl.lt;refine iP (wpAny_runValue (qcm ((qgV (A:=A.in1) q sk _ l d items).toS) S ?_ ss p hi j items.size 0 _ (by lia) (bi _) ⟨.of ⟨_,ah _ rfl,rfl,rfl⟩,hl.at λo e=>ac _ e⟩ ?_ ?_))
 ·intro z;rcases af.mp z with z | z;·exact hz z.symm
  ·exact g (ax.mp z).symm
 ·exact k.at λo e=>ac _ e
 ·intro s' c B;obtain ⟨h',g',d',f,a⟩:=s';have u:g'=s.gens:=c.gens;have y:d'=s.drawn:=c.drawn;have r:a=s.os:=c.os;subst u y r;refine iV (h h' f B λb o j e=>c.heap b o ?_ (ac _ e));intro z;rcases af.mp z with z | z;·exact j z
  ·rw [ax.mp z] at e;exact bM _ (aq e)
set_option maxHeartbeats 3200000 in
theorem GY {l:Addr} {ks:List κ} {Q:iR->iU->Prop}
  (p:∀ (A1:j9) (L:Unit->iU->Prop) (D:iR->iU->Prop),A1.handled=A.handled->(∀ h' tk,SetK T prog w h' s.heap.objs.size ks->(∀ b o,s.heap.get? b=iO o->h'.get? b=iO o)->L () { s with heap:=h',toks:=tk }) ->iW (model prog w) A1 (cr "set.__init__" s.heap.objs.size (.ref l)) L D { s with heap:=s.heap.push (qgU w) })
  (h:∀ h' tk,SetK T prog w h' s.heap.objs.size ks->(∀ b o,s.heap.get? b=iO o->h'.get? b=iO o)->Q (.ref s.heap.objs.size) { s with heap:=h',toks:=tk }) :
  iW (model prog w) A (call (.type "set") [.ref l]) Q E s:=by
 have i:∀ {Q₁:iR->iU->Prop},Q₁ (.ref s.heap.objs.size) { s with heap:=s.heap.push (qgU w) }->lP (model prog w) A.in1 (.call (.builtin "set.__new__") ⟨[.type "set",.ref l],[]⟩) (wants Q₁ E) s:=λh=>qeE (.ref l) h;unfold qgU kg at i p;generalize (!(w.params.followText "set-order"))=led at i p;obtain ⟨c,tl,t⟩:=bP.mro;have m:=bP.made;have q:=bP.sub;refine wpAny_call (codeAny_of_tree ?_); show iW _ _ (callAny (.type "set") _) _ _ _;refine iV ⟨Code.quiet_builtin _ (by decide +kernel),lh PySem.F.entry_type_call ?_⟩; rw [Around.under_plain (weight_type_call_type "set" [.ref l] []) rfl];have h1:=bP.notType;have h2:=bP.canCreate;have x:=PySem.F.typeCall_set_1 (.ref l);repeat (any_goals (first | assumption | wp_step))
 refine ml (i (Q₁:=λobj f=>obj=.ref s.heap.objs.size/\f={ s with heap:=s.heap.push { cls:=.type "set",dict:=iQ,data:=.set #[] 0 (.fresh 0 0 led) } }) ⟨rfl,rfl⟩) λr f k=>?_;cases r with
 | error e=>exact k
 | ok C=>
  cases C with
  | ret obj=>
   obtain ⟨rfl,rfl⟩:=k;have S:(s.heap.push { cls:=.type "set",dict:=iQ,data:=.set #[] 0 (.fresh 0 0 led) }).get? s.heap.objs.size=iO { cls:=.type "set",dict:=iQ,data:=.set #[] 0 (.fresh 0 0 led) }:=ah _ rfl;have hT:g9 { s with heap:=s.heap.push { cls:=.type "set",dict:=iQ,data:=.set #[] 0 (.fresh 0 0 led) } } (.ref s.heap.objs.size) "set":=⟨_,S,rfl⟩
   have u:=bP.init.lookup;have y:=bP.init.bind (.ref s.heap.objs.size);repeat (any_goals (first | assumption | wp_step))
   refine ml (codeAny_call_builtin (R:=wants (λr d=>r=.none/\∃ h' tk,d={ s with heap:=h',toks:=tk }/\SetK T prog w h' s.heap.objs.size ks/\(∀ b o,s.heap.get? b=iO o->h'.get? b=iO o)) E) bP.init.plain PySem.F.entry_set_init (check_set_init_1 hT ?_)) λj d a=>?_
   ·unfold Builtin.«set.__init__» noKeywords;generalize z:cr=U;wp_walk
    subst z;refine p _ _ _ rfl λh' tk B v=>?_;exact iV ⟨rfl,h',tk,rfl,B,v⟩
   ·cases j with
    | error e=>exact a
    | ok g=>
     cases g with
     | ret r=>
      obtain ⟨rfl,h',tk,rfl,B,n⟩:=a;repeat (any_goals (first | assumption | wp_step))
      exact h _ _ B n
     | _=>exact a.elim
  | _=>exact k.elim
end
theorem xn {α:Type}:∀ {xs:List α} {i:Nat} (h:i < xs.length),(xs[i]::xs.eraseIdx i).Perm xs
 | [],_,h=>absurd h (d9 _)
 | x::xs,0,h=>cF _
 | x::xs,i+1,h=>(List.Perm.swap _ _ _).trans ((xn (xs:=xs) (i:=i) (Nat.lt_of_succ_lt_succ h)).cons x)
variable {M:Model}
theorem XZ {c:Source} {Q:Nat->iU->Prop} (a:n≠0) (h:∀ i d',i < n->Q i { s with drawn:=d' }):iW M A (choose c n) Q E s:=
 λ_ _ _=>⟨a,h _ _ (Nat.mod_lt _ (Nat.pos_of_ne_zero a))⟩
variable {α:Type}
theorem GZ:∀ (n:Nat) (xs:List α) (s:iU) {Q:List α->iU->Prop},n=xs.length->(∀ ys d',ys.Perm xs->Q ys { s with drawn:=d' })->iW M A (drawOrder n xs) Q E s
 | 0,xs,s,Q,hn,h=>by
  cases xs with
  | nil=>exact iV (h [] s.drawn (cF _))
  | cons x l=>cases hn
 | n+1,[],s,Q,hn,h=>by cases hn
 | n+1,x::l,s,Q,hn,h=>by show iW M A (choose .order (x::l).length >>= _) Q E s;refine iP (XZ (by simp) λi d' hi=>?_);have e:(x::l)[i]?=iO (x::l)[i]:=aA hi;rw [e];refine iP (GZ n _ _ (by rw [List.length_eraseIdx_of_lt hi]; simp only [ai] at hn ⊢; lia) λys d2 hp=>iV (h _ d2 ?_));exact (hp.cons _).trans (xn hi)
theorem qaa (next:Nat->Nat):∀ (f k:Nat) (left:List α) (out:Array α),f=left.length->(pickOrder.go next f k left out).toList.Perm (out.toList++left)
 | 0,k,left,out,hf=>by
  cases left with
  | nil=>rw [bv];exact cF _
  | cons x l=>cases hf
 | f+1,k,left,out,hf=>by have t:next k % left.length < left.length:=Nat.mod_lt _ (by lia);have e:left[next k % left.length]?=iO left[next k % left.length]:=aA t;unfold pickOrder.go;rw [e];refine (qaa next f (k+1) _ _ (by rw [List.length_eraseIdx_of_lt t]; lia)).trans ?_;rw [fV,cS];exact List.Perm.append_left _ (xn t)
theorem gp (next:Nat->Nat) (xs:Array α):(mj next xs).toList.Perm xs.toList:=by unfold mj;exact qaa next _ _ _ _ (by simp)
noncomputable def wG (first:iR) (i:Nat) (a:Addr) (n ep:Nat):Obj:={ cls:=.type "set_iterator",data:=.fields #[first,lb i,.ref a,lb n,lb ep] }
theorem qI:Slot "set_iterator" "__next__" "set_iterator.__next__":=
 .of (owner := "set_iterator") (n := "__next__") (by rw [lX,lu]; kernel_rfl) (by decide +kernel) (by decide +kernel) (by decide +kernel) (by first | exact .inl (by decide +kernel) | exact .inr (by decide +kernel)) (by rw [my]; kernel_rfl)
theorem xS:Slot "set_iterator" "__iter__" "set_iterator.__iter__":=
 .of (owner := "set_iterator") (n := "__iter__") (by rw [lX,lu]; kernel_rfl) (by decide +kernel) (by decide +kernel) (by decide +kernel) (by first | exact .inl (by decide +kernel) | exact .inr (by decide +kernel)) (by rw [my]; kernel_rfl)
theorem vp (a:iR):argsOk "set_iterator.__next__" ⟨[a],[]⟩:=by unfold argsOk; kernel_rfl
theorem Vv (a:iR):argsOk "set_iterator.__iter__" ⟨[a],[]⟩:=by unfold argsOk; kernel_rfl
theorem kO:entryFor table "set_iterator.__next__"=iO Builtin.«set_iterator.__next__»:=entryFor_of_tree (by kernel_rfl)
theorem JH:entryFor table "set_iterator.__iter__"=iO Builtin.«dict_keyiterator.__iter__»:=entryFor_alias (id' := "dict_keyiterator.__iter__") (by kernel_rfl) rfl (by decide +kernel) (by kernel_rfl)
theorem Vw:entryFor table "set.__iter__"=iO Builtin.«frozenset.__iter__»:=entryFor_alias (id' := "frozenset.__iter__") (by kernel_rfl) rfl (by decide +kernel) (by kernel_rfl)
variable {ks:List Str} {p:Addr} {b:Bool} {ps:List Nat}
section
theorem vf (d:w.params.followText "set-order"=b):({ program:=(model prog w).prog,params:=(model prog w).w.params }:Setting).params.followText "set-order"=b:=d
theorem Vx {sl nx:Nat} {x:iR} {Q:Option iR->iU->Prop} (hi:s.heap.get? it=iO (wG (lb sl) i a n ep)) (g:s.heap.get? a=iO (kg es ep t)) (f:t.fits es.size=iT) (hz:es.size=n)
  (h:∀ (A1:j9) (L:Option (iR×Nat)->iU->Prop) (R:iR->iU->Prop),L (iO (x,nx)) s->iW (model prog w) A1 (ng a sl i ep) L R s)
  (c:∀ h',h'.get? it=iO (wG (lb nx) (i+1) a n ep)->bo it s.heap h'->Q (iO x) { s with heap:=h' }):iW (model prog w) A (lz (.ref it)) Q E s:=by
 have hT:s.TypeIs (.ref it) "set_iterator":=⟨_,hi,rfl⟩
 unfold lz;refine iP (ly (j7 (name:=aa "__next__") hT qI (j8 qI hT kO ?_ (vp _))));show iW _ _ (fieldsOf (.ref it) >>= _) _ _ s;refine iP (mR hi rfl ?_);show iW _ _ (nG a >>= _) _ _ s;refine iP (lQ g rfl f ?_);rw [Ab (by rw [hz]; simp)];show iW _ _ (ng a sl i ep >>= _) _ _ s;refine iP (h _ _ _ ?_);show iW _ _ (setField (.ref it) 0 (lb nx) >>= _) _ _ s;refine iP (lH hi rfl (by simp) ?_);have h1:(s.heap.update it (Obj.mapFields (·.setIfInBounds 0 (lb nx)))).get? it=iO (wG (lb nx) i a n ep):=aV _ hi rfl;refine iP (lH h1 rfl (by simp) (iV ⟨x,rfl,iV (c _ ?_ ((bp ..).trans (bp ..)))⟩));exact aV _ h1 rfl
theorem Vy {sl:Nat} {Q:Option iR->iU->Prop} (h:A.handled=iQ) (hi:s.heap.get? it=iO (wG (lb sl) i a n ep)) (g:s.heap.get? a=iO (kg es ep t)) (f:t.fits es.size=iT) (hz:es.size=n)
  (c:∀ (A1:j9) (L:Option (iR×Nat)->iU->Prop) (R:iR->iU->Prop),L iQ s->iW (model prog w) A1 (ng a sl i ep) L R s)
  (d:∀ h',iC it s.heap h'->Q iQ { s with heap:=h' }):iW (model prog w) A (lz (.ref it)) Q E s:=by
 have hT:s.TypeIs (.ref it) "set_iterator":=⟨_,hi,rfl⟩
 unfold lz;refine iP (ly (j7 (name:=aa "__next__") hT qI (j8 qI hT kO ?_ (vp _))));show iW _ _ (fieldsOf (.ref it) >>= _) _ _ s;refine iP (mR hi rfl ?_);show iW _ _ (nG a >>= _) _ _ s;refine iP (lQ g rfl f ?_);rw [Ab (by rw [hz]; simp)];show iW _ _ (ng a sl i ep >>= _) _ _ s;refine iP (c _ _ _ ?_);show iW _ _ (setField (.ref it) 2 bO >>= _) _ _ s;refine iP (lH hi rfl (by simp) ?_); show iW _ _ (newExc (.type "StopIteration") [] >>= _) _ _ _;refine iP ?_; simp only [newExc,newTuple]; refine iP (k7 ?_ (by size_fits));refine iP (m:=l4 _ _) (nj (a:=bO) (by first | rfl | (simp only [l4]; rfl)) ?_); refine k7 ?_ (by size_fits); simp only [raiseNew];refine iP (wpAny_handled ?_); first | rw [show A.in1.handled=iQ from h] | rw [h]
 refine iP (iV (wpAny_throw ?_)); refine iP (lF (T := "StopIteration") (b:=iT) ⟨_,ah _ rfl,rfl⟩ mS ?_);exact iV (d _ (((bp ..).extBut.push _).push _))
theorem Za {pl m:Nat} {hx:Int} {x:iR} {ps:Array iR} {Q:Option iR->iU->Prop} (hi:s.heap.get? it=iO (wG (.ref p) i a n ep)) (g:s.heap.get? a=iO (kg es ep t)) (h:t.fits es.size=iT) (hz:es.size=n)
  (hp:s.heap.get? p=iO { cls:=.type "tuple",data:=.seq ps m }) (l:ps[i]?=iO (lb pl)) (hx:es[pl]?=iO (hx,x))
  (c:∀ h',h'.get? it=iO (wG (.ref p) (i+1) a n ep)->bo it s.heap h'->Q (iO x) { s with heap:=h' }):iW (model prog w) A (lz (.ref it)) Q E s:=by
 have hT:s.TypeIs (.ref it) "set_iterator":=⟨_,hi,rfl⟩
 unfold lz;refine iP (ly (j7 (name:=aa "__next__") hT qI (j8 qI hT kO ?_ (vp _))));show iW _ _ (fieldsOf (.ref it) >>= _) _ _ s;refine iP (mR hi rfl ?_);show iW _ _ (nG a >>= _) _ _ s;refine iP (lQ g rfl h ?_);rw [Ab (by rw [hz]; simp)];show iW _ _ (seqItems? (.ref p) >>= _) _ _ s;refine iP (k6 hp rfl ?_);dsimp only;rw [show ps[Int.toNat (i:Int)]?=iO (lb pl) from l];show iW _ _ (setNextDrawn a pl ep >>= _) _ _ s;refine iP ?_;unfold setNextDrawn;refine iP (lq g rfl h ?_);dsimp only;rw [Ab (by simp),hx];refine iV ?_;show iW _ _ (setField (.ref it) 1 (lb (i+1)) >>= _) _ _ s;refine iP (lH hi rfl (by simp) (iV ⟨x,rfl,iV (c _ ?_ (bp ..))⟩));exact aV _ hi rfl
theorem qab {m:Nat} {ps:Array iR} {Q:Option iR->iU->Prop} (h:A.handled=iQ) (hi:s.heap.get? it=iO (wG (.ref p) i a n ep)) (g:s.heap.get? a=iO (kg es ep t)) (f:t.fits es.size=iT) (hz:es.size=n)
  (hp:s.heap.get? p=iO { cls:=.type "tuple",data:=.seq ps m }) (l:ps[i]?=iQ)
  (c:∀ h',iC it s.heap h'->Q iQ { s with heap:=h' }):iW (model prog w) A (lz (.ref it)) Q E s:=by
 have hT:s.TypeIs (.ref it) "set_iterator":=⟨_,hi,rfl⟩
 unfold lz;refine iP (ly (j7 (name:=aa "__next__") hT qI (j8 qI hT kO ?_ (vp _))));show iW _ _ (fieldsOf (.ref it) >>= _) _ _ s;refine iP (mR hi rfl ?_);show iW _ _ (nG a >>= _) _ _ s;refine iP (lQ g rfl f ?_);rw [Ab (by rw [hz]; simp)];show iW _ _ (seqItems? (.ref p) >>= _) _ _ s;refine iP (k6 hp rfl ?_);dsimp only;rw [show ps[Int.toNat (i:Int)]?=iQ from l];show iW _ _ (setField (.ref it) 0 (lb 0) >>= _) _ _ s;refine iP (lH hi rfl (by simp) ?_);have h1:(s.heap.update it (Obj.mapFields (·.setIfInBounds 0 (lb 0)))).get? it=iO (wG (lb 0) i a n ep):=aV _ hi rfl;refine iP (lH h1 rfl (by simp) ?_); show iW _ _ (newExc (.type "StopIteration") [] >>= _) _ _ _;refine iP ?_; simp only [newExc,newTuple]; refine iP (k7 ?_ (by size_fits));refine iP (m:=l4 _ _) (nj (a:=bO) (by first | rfl | (simp only [l4]; rfl)) ?_); refine k7 ?_ (by size_fits); simp only [raiseNew];refine iP (wpAny_handled ?_); first | rw [show A.in1.handled=iQ from h] | rw [h]
 refine iP (iV (wpAny_throw ?_)); refine iP (lF (T := "StopIteration") (b:=iT) ⟨_,ah _ rfl,rfl⟩ mS ?_);exact iV (c _ (((((bp ..).trans (bp ..))).extBut.push _).push _))
theorem gq {Q:iR->iU->Prop} (hi:s.heap.get? it=iO o) (d:o.cls=.type "set_iterator") (h:Q (.ref it) s):iW (model prog w) A (nD (.ref it)) Q E s:=by
 have hT:s.TypeIs (.ref it) "set_iterator":=⟨_,hi,d⟩
 refine wpAny_pyIter_slot hT xS (j8 xS hT JH ?_ (Vv _)); show iW _ _ (ret (.ref it)) _ _ s;exact iV ⟨_,rfl, "set_iterator",_,hT,qI.lookup,h⟩
theorem qac {ep:Nat} (u:A.handled=iQ) (d:w.params.followText "set-order"=iT) (f:t.fits es.size=iT) (j:a≠it):Walks prog w A it [it,a] [it] es.size (λi v=>((mj (w.params.setOrder a ep) es).toList.map (·.2))[i]?=iO v) (λi h=>h.get? it=iO (wG (lb 0) i a es.size ep)/\h.get? a=iO (kg es ep t)) where
 sub:=λb d=>by simp at d; simp [d]
 frame:=λ_ _ _ st p=>⟨p it (by simp) _ st.1,p a (by simp) _ st.2⟩
 item:=λi s Q E hi st c=>by
  have n:(mj (w.params.setOrder a ep) es).size=es.size:=by have:=(gp (w.params.setOrder a ep) es).length_eq;simpa using this
  have k:i < (mj (w.params.setOrder a ep) es).size:=by lia
  obtain ⟨e,he⟩:∃ e,(mj (w.params.setOrder a ep) es)[i]?=iO e:=⟨_,bI k⟩
  refine Vx (x:=e.2) (nx:=0) st.1 st.2 f rfl (λA1 L R q=>?_) λh' l y=>c e.2 h' s.toks ?_ ⟨l,?_⟩ λb o g r=>?_;·unfold ng;refine iP (lq st.2 rfl f ?_);dsimp only;refine iP (m:=mT) (iP (ll (iV ?_)));rw [vf d,Aa rfl,Ab (by simp)];refine iP ?_;unfold setWalk;refine iP (lq st.2 rfl f ?_);dsimp only;refine iP (m:=mT) (iP (ll (iV ?_)));rw [vf d,Aa rfl];refine iP (ll (iV ?_));refine iV ?_;rw [show (mj ((⟨(model prog w).prog,(model prog w).w.params⟩:Setting).params.setOrder a ep) es)[i]?=iO e from he];exact q
  ·rw [aF,dF,he];rfl
  ·rw [y.2 a j];exact st.2
  ·rw [y.2 b (λz=>g (by simp [z]))];exact r
 done:=λs Q E st c=>by
  have n:(mj (w.params.setOrder a ep) es).size=es.size:=by have:=(gp (w.params.setOrder a ep) es).length_eq;simpa using this
  refine Vy u st.1 st.2 f rfl (λA1 L R q=>?_) λh' eb=>c h' s.toks λb o g r=>eb b o (λz=>g (by simp [z])) r;unfold ng;refine iP (lq st.2 rfl f ?_);dsimp only;refine iP (m:=mT) (iP (ll (iV ?_)));rw [vf d,Aa rfl,Ab (by simp)];refine iP ?_;unfold setWalk;refine iP (lq st.2 rfl f ?_);dsimp only;refine iP (m:=mT) (iP (ll (iV ?_)));rw [vf d,Aa rfl];refine iP (ll (iV ?_));refine iV ?_;rw [show (mj ((⟨(model prog w).prog,(model prog w).w.params⟩:Setting).params.setOrder a ep) es)[es.size]?=iQ from dq (fG n)];exact q
 self:=λi s Q E st c=>gq st.1 rfl c
noncomputable def uT (t:mF) (i:Nat):Nat:=if i=0 then 0 else t.place.getD 0 0+1
theorem Vz (j k:Nat):bq #[j] k=if j < k then 1 else 0:=by unfold bq;show bq.go #[j] k 1 0 1=_;unfold bq.go;rw [Aa (by lia)];show (if (#[j]:Array Nat).getD 0 k < k then bq.go #[j] k 0 1 1 else bq.go #[j] k 0 0 0)=_;show (if j < k then bq.go #[j] k 0 1 1 else bq.go #[j] k 0 0 0)=_;split <;> rfl
theorem YF {Q:Option (iR×Nat)->iU->Prop} (d:w.params.followText "set-order"=iS) (f:t.fits es.size=iT) (hl:t.led=iT) (hz:es.size<=1) (g:s.heap.get? a=iO (kg es ep t)) (hi:i<=es.size)
  (q:Q (match es[i]? with | some e=>iO (e.2,uT t (i+1)) | none=>iQ) s):iW (model prog w) A (ng a (uT t i) i ep) Q E s:=by
 have h:t.place.size=es.size:=by have:=f;simp only [SetTable.fits,aN,beq_iff_eq] at this;exact this.1
 unfold ng;refine iP (lq g rfl f ?_);dsimp only;refine iP (m:=mT) (iP (ll (iV ?_)));rw [vf d,Ab (by simp)];show iW _ _ (if (!t.plain&&decide (es.size > 1))=iT then _ else _) _ _ _;rw [Ab (by simp; intro _; lia)];refine iP ?_;show iW _ _ (if (!t.led&&!es.isEmpty)=iT then _ else _) _ _ _;rw [hl,Ab (by simp)];refine iV (iV ?_);have e:(match es[bq t.place (uT t i)]?,t.place[bq t.place (uT t i)]? with | some (_,x),iO j=>iO (x,j+1) | _,_=>iQ)=(match es[i]? with | some e=>iO (e.2,uT t (i+1)) | none=>iQ:Option (iR×Nat)):=by
  obtain ⟨l⟩:=es;obtain ⟨k,⟨pl⟩,u,fi,le,mo,pn⟩:=t;cases l with
  | nil=>simp
  | cons e0 l=>
   cases l with
   | cons _ _=>exact absurd hz (by simp)
   | nil=>
    cases pl with
    | nil=>exact absurd h (by simp)
    | cons j pl=>
     cases pl with
     | cons _ _=>exact absurd h (by simp)
     | nil=>
      have b:i=0\/i=1:=by simp at hi; lia
      rcases b with rfl | rfl;·show (match (#[e0]:Array (Int×iR))[bq #[j] 0]?,(#[j]:Array Nat)[bq #[j] 0]? with | some (_,x),iO j=>iO (x,j+1) | _,_=>iQ)=iO (e0.2,j+1);rw [Vz,Ab (by lia)];rfl
      ·show (match (#[e0]:Array (Int×iR))[bq #[j] (j+1)]?,(#[j]:Array Nat)[bq #[j] (j+1)]? with | some (_,x),iO j=>iO (x,j+1) | _,_=>iQ)=iQ;rw [Vz,Aa (by lia)];rfl
 exact Eq.mp (congrArg (λz=>Q z s) e.symm) q
theorem qco {ep:Nat} (l:A.handled=iQ) (d:w.params.followText "set-order"=iS) (f:t.fits es.size=iT) (hl:t.led=iT) (hz:es.size<=1) (e:a≠it):Walks prog w A it [it,a] [it] es.size (λi v=>(es.toList.map (·.2))[i]?=iO v) (λi h=>h.get? it=iO (wG (lb (uT t i)) i a es.size ep)/\h.get? a=iO (kg es ep t)) where
 sub:=λb d=>by simp at d; simp [d]
 frame:=λ_ _ _ st k=>⟨k it (by simp) _ st.1,k a (by simp) _ st.2⟩
 item:=λi s Q E hi st c=>by
  have j:es[i]?=iO es[i]:=bI hi;refine Vx (x:=es[i].2) (nx:=uT t (i+1)) st.1 st.2 f rfl (λA1 L R q=>YF d f hl hz st.2 (dh hi) (by rw [j]; exact q)) λh' g y=>c es[i].2 h' s.toks ?_ ⟨g,?_⟩ λb o n r=>?_;·rw [aF,dF,j];rfl
  ·rw [y.2 a e];exact st.2
  ·rw [y.2 b (λz=>n (by simp [z]))];exact r
 done:=λs Q E st c=>Vy l st.1 st.2 f rfl (λA1 L R q=>YF d f hl hz st.2 (ap _) (by rw [dq (ap _)]; exact q)) λh' eb=>c h' s.toks λb o n r=>eb b o (λz=>n (by simp [z])) r
 self:=λi s Q E st c=>gq st.1 rfl c
noncomputable def qgW (es:Array (Int×iR)) (ps:List Nat):List iR:=ps.map λk=>(es[k]?.map (·.2)).getD .none
theorem qad (h:ps.Perm (aK es.size)):(qgW es ps).Perm (es.toList.map (·.2)):=by
 have e:qgW es (aK es.size)=es.toList.map (·.2):=by
  apply ff;intro i;unfold qgW;rw [aF,aF,show es.toList[i]?=es[i]? from dF];by_cases hi:i < es.size;·rw [List.getElem?_range hi,bI hi];simp [hi]
  ·rw [bL (by rw [bK]; lia),dq (by lia)];rfl
 rw [<-e];exact h.map _
theorem Zb {ep m:Nat} (B:A.handled=iQ) (j:t.fits es.size=iT) (hp:ps.Perm (aK es.size)) (f:a≠it) (e:p≠it):Walks prog w A it [it,a,p] [it] es.size (λi v=>(qgW es ps)[i]?=iO v) (λi h=>h.get? it=iO (wG (.ref p) i a es.size ep)/\h.get? a=iO (kg es ep t)/\h.get? p=iO { cls:=.type "tuple",data:=.seq (ps.map λ(i:Nat)=>lb i).toArray m }) where
 sub:=λb u=>by simp at u; simp [u]
 frame:=λ_ _ _ st k=>⟨k it (by simp) _ st.1,k a (by simp) _ st.2.1,k p (by simp) _ st.2.2⟩
 item:=λi s Q E hi st c=>by
  have n:ps.length=es.size:=by rw [hp.length_eq,bK]
  have l:i < ps.length:=by lia
  have k:ps[i] < es.size:=aZ.mp (hp.mem_iff.mp (bZ l));have q:es[ps[i]]?=iO es[ps[i]]:=bI k;refine Za (x:=es[ps[i]].2) (hx:=es[ps[i]].1) (pl:=ps[i]) st.1 st.2.1 j rfl st.2.2 ?_ q λh' g y=>c es[ps[i]].2 h' s.toks ?_ ⟨g,?_,?_⟩ λb o d r=>?_;·rw [fm,aF,aA l];rfl
  ·unfold qgW;rw [aF,aA l];simp [q]
  ·rw [y.2 a f];exact st.2.1
  ·rw [y.2 p e];exact st.2.2
  ·rw [y.2 b (λz=>d (by simp [z]))];exact r
 done:=λs Q E st c=>by
  have n:ps.length=es.size:=by rw [hp.length_eq,bK]
  refine qab B st.1 st.2.1 j rfl st.2.2 ?_ λh' eb=>c h' s.toks λb o d r=>eb b o (λz=>d (by simp [z])) r;rw [fm,bL (by simp; lia)]
 self:=λi s Q E st c=>gq st.1 rfl c
theorem qcp {A1:j9} {Q:iR->iU->Prop} (n:A1.handled=iQ) (g:s.heap.get? a=iO (kg es ep t)) (d:SetG KpS prog w es t ks)
  (q:∀ (it:Addr) (h':Heap) (r:Drawn) (ord:List iR) (fp:List Addr) (St:Nat->Heap->Prop),(∀ b o,s.heap.get? b=iO o->h'.get? b=iO o)->ord.Perm (es.toList.map (·.2))->Walks prog w A1 it fp [it] es.size (λi v=>ord[i]?=iO v) St->St 0 h' ->(∀ b∈fp,b=a\/s.heap.objs.size<=b)->s.heap.objs.size<=it->Q (.ref it) { s with heap:=h',drawn:=r }):iW (model prog w) A (nD (.ref a)) Q E s:=by
 have hT:s.TypeIs (.ref a) "set":=⟨_,g,rfl⟩
 have f:a < s.heap.objs.size:=aq g;refine wpAny_pyIter_slot hT PySem.F.slot_set_iter (j8 PySem.F.slot_set_iter hT Vw ?_ (PySem.F.args_set_iter_1 _));show iW _ _ (Builtin.Frozenset.sizeOf a >>= _) _ _ s;refine iP (m:=Builtin.Frozenset.sizeOf a) (iP (lQ g rfl d.fits (iV ?_)));refine iP (m:=setDrawn a) ?_;unfold setDrawn;refine iP (lq g rfl d.fits ?_);dsimp only;refine iP (m:=mT) (iP (ll (iV ?_)));refine iV ?_;cases h:w.params.followText "set-order" with
 | true=>
  rw [vf h,Ab (by simp)];refine iP (iV ?_);refine iP (m:=setEpoch a) (wpAny_setEpoch_of g rfl d.fits ?_);refine iP (k7 (iV ⟨_,rfl, "set_iterator",_,⟨_,ah _ rfl,rfl⟩,qI.lookup,?_⟩));refine q _ _ s.drawn _ _ _ (λb o e=>ac _ e) ((gp (w.params.setOrder a ep) es).map _) (qac n h d.fits (ay f)) ⟨ah _ rfl,ac _ g⟩ ?_ (ap _);intro b h;rcases af.mp h with z | z;·exact .inr (z ▸ ap _)
  ·exact .inl (ax.mp z)
 | false=>
  have k:t.led=true:=by rw [d.led,h]; rfl
  rw [vf h];show iW _ _ (if (!false&&(!t.plain&&decide (es.size > 1)))=iT then _ else _) _ _ _;by_cases u:es.size<=1
  ·rw [Ab (by simp; intro _; lia)];refine iP (iV ?_);refine iP (m:=setEpoch a) (wpAny_setEpoch_of g rfl d.fits ?_);refine iP (k7 (iV ⟨_,rfl, "set_iterator",_,⟨_,ah _ rfl,rfl⟩,qI.lookup,?_⟩));refine q _ _ s.drawn _ _ _ (λb o e=>ac _ e) (cF _) (qco n h d.fits k u (ay f)) ⟨ah _ rfl,ac _ g⟩ ?_ (ap _);intro b h;rcases af.mp h with z | z;·exact .inr (z ▸ ap _)
   ·exact .inl (ax.mp z)
  ·have l:t.plain=false:=d.plain rfl λz=>by
    have h0:=d.size;rw [z,be] at h0
    lia
   rw [Aa (by rw [l]; simp; lia)];refine iP (GZ es.size (aK es.size) s (by simp) λps r hp=>?_);have j:ps.length=es.size:=by rw [hp.length_eq,bK]
   have hsz:(ps.map λ(i:Nat)=>lb i).length<=sizeLine:=by rw [am,j]; exact mq d.bd
   refine iP (mU ?_ hsz);refine iP (m:=setEpoch a) (wpAny_setEpoch_of (ac _ g) rfl d.fits ?_);refine iP (k7 (iV ⟨_,rfl, "set_iterator",_,⟨_,ah _ rfl,rfl⟩,qI.lookup,?_⟩));have c:s.heap.objs.size < (s.heap.push ({ cls:=.type "tuple",data:=.seq (ps.map λ(i:Nat)=>lb i).toArray }:Obj)).objs.size:=by rw [bf]; exact fA _
   refine q _ _ r _ _ _ (λb o e=>ac _ (ac _ e)) (qad hp) (Zb (p:=s.heap.objs.size) n d.fits hp (ay (cR f c)) (ay c)) ⟨ah _ rfl,ac _ (ac _ g),ac _ (ah _ rfl)⟩ ?_ (dh c);intro b h;rcases af.mp h with z | z;·exact .inr (z ▸ dh c)
   ·rcases af.mp z with z | z;·exact .inl z
    ·exact .inr (fG (ax.mp z).symm)
end
section
theorem qcq {ord:List iR} {acc:Array iR} (hl:ord.length=n) (h:ItemsOf (λi v=>ord[i]?=iO v) acc n):acc.toList=ord:=by
 apply ff;intro i;rw [show acc.toList[i]?=acc[i]? from dF];by_cases hi:i < acc.size;·rw [bI hi];exact (h.2 i _ (bI hi)).symm
 ·rw [dq (by lia),bL (by have:=h.1; lia)]
theorem WU {Q:List iR->iU->Prop} (M:A.handled=iQ) (K:s.heap.get? a=iO (kg es ep t)) (d:SetG KpS prog w es t ks)
  (N:∀ h' y tk ord,(∀ b o,s.heap.get? b=iO o->h'.get? b=iO o)->ord.Perm (es.toList.map (·.2))->Q ord { s with heap:=h',drawn:=y,toks:=tk }):iW (model prog w) A (collect (.ref a)) Q E s:=by
 have p:a < s.heap.objs.size:=aq K;unfold collect;refine iP (wpAny_runValue (lh PySem.F.entry_proto_collect ?_)); rw [bt PySem.F.plain_proto_collect _];show iW _ A.in1 (newList [] >>= λl=>again (.builtin "list.__iadd__" ⟨[l,.ref a],[]⟩)) _ _ s; refine iP (k7 ?_);refine iV ⟨lO PySem.F.plain_list_iadd _,lh PySem.F.entry_list_iadd ?_⟩; rw [bt PySem.F.plain_list_iadd _];have g:(s.heap.push { cls:=.type "list",data:=.seq ([]:List iR).toArray }).get? a=iO (kg es ep t):=ac _ K;have hT:g9 { s with heap:=s.heap.push { cls:=.type "list",data:=.seq ([]:List iR).toArray } } (.ref a) "set":=⟨_,g,rfl⟩
 show iW _ A.in1 (bQ (.ref s.heap.objs.size) (.ref a) (.ref s.heap.objs.size)) _ _ _; unfold bQ;refine iP (mn hT ?_);have h1:cT (.ref s.heap.objs.size) (.ref a)=false:=by simp [cT,cw p]
 rw [Ab (by rw [h1]; decide)];refine iP (qcp (A1:=A.in1) M g d λit h2 y ord fp St k2 hp W D G hit=>?_);have v:h2.get? s.heap.objs.size=iO { cls:=.type "list",data:=.seq ([]:List iR).toArray }:=k2 _ _ (ah _ rfl);have H:h2.get? a=iO (kg es ep t):=k2 _ _ g;refine iP (k9 ?_);unfold dL;have i:g9 { s with heap:=h2,drawn:=y } (.ref a) "set":=⟨_,H,rfl⟩
 refine iP (wpAny_specialOf i PySem.F.slot_set_len.lookup ?_)
 (generalize f:("set.__len__":String)=id0; (fail_if_success (clear f id0)); wp_delta; rw [show splitId id0=iO ("set", "__len__") from by subst f; decide +kernel]; subst f)
 refine iP (lF (b:=iT) i (by rw [my]; kernel_rfl) ?_);refine iP (m:=typeOf (.ref a)) (mn i ?_);refine iV ?_;show iW _ A.in1 (rule "list.extend.makes-room" >>= λ_=>Builtin.List.listTouch (.ref s.heap.objs.size) >>= λ_=>again (.builtin "list.extend.loop" ⟨[.ref s.heap.objs.size,.ref it,.ref s.heap.objs.size],[]⟩)) _ _ _;refine iP (l0 (iP ?_)); show iW _ A.in1 (mZ s.heap.objs.size (·.push .none) >>= λ_=>mZ s.heap.objs.size (·.pop)) _ _ _;refine iP (lY v rfl ?_); have h:=aV (bx (·.push bO)) v rfl;refine lY h rfl ?_; have j:=aV (bx (·.pop)) h rfl;have n:(s.heap.push ({ cls:=.type "list",data:=.seq ([]:List iR).toArray }:Obj)).objs.size=s.heap.objs.size+1:=bf ..;have k:∀ b o,b≠s.heap.objs.size->h2.get? b=iO o->((h2.update s.heap.objs.size (bx (·.push bO))).update s.heap.objs.size (bx (·.pop))).get? b=iO o:=λb o c e=>(bE _ _ (bb c)).trans ((bE _ _ (bb c)).trans e);have J:s.heap.objs.size∉fp:=λz=>by
  rcases G _ z with q | q;·exact cw p q
  ·exact Nat.not_succ_le_self _ (n ▸ q)
 have r:ord.length=es.size:=by rw [hp.length_eq];simp
 refine iV ⟨lO bW _,codeAny_extend_loopS W.toS (mq d.bd) _ J _ es.size 0 _ _ _ rfl (bi _) (W.frame 0 h2 _ D λb c o e=>k b o (λz=>J (z ▸ c)) e) j (ItemsOf.nil _) λs' L S x I u=>?_⟩;show iW _ A (load s.heap.objs.size >>= _) _ _ s';refine iP (wpAny_load I (iV ?_));rw [qcq r u];obtain ⟨h',g',d',B,C⟩:=s';have P:g'=s.gens:=x.gens;have R:d'=y:=x.drawn;have O:C=s.os:=x.os;subst P R O;refine N h' d' B ord (λb o e=>?_) hp;have c:=aq e;refine x.heap b o (λz=>?_) (k b o (ay c) (k2 b o (ac _ e)));rcases af.mp z with z | z;·exact ay c z
 ·have h3:s.heap.objs.size+1<=it:=n ▸ hit;rw [<-ax.mp z] at h3;exact bM _ (cR c h3)
theorem Zc {Q:iR->iU->Prop} (q:A.handled=iQ) (S:SetK KpS prog w s.heap a ks) (j:ks.length < 64)
  (x:∀ (h1 h':Heap) r tk vs e ss,(∀ b o,s.heap.get? b=iO o->h1.get? b=iO o)->(∀ b o,h1.get? b=iO o->h'.get? b=iO o)->h'.get? h1.objs.size=iO (lC "list" vs e)->StrsAre vs.toList ss->ss.Perm ks->sortedS ss=iT->Q (.ref h1.objs.size) { s with heap:=h',drawn:=r,toks:=tk }) :
  iW (model prog w) A (call (.builtin "sorted") [.ref a]) Q E s:=by
 obtain ⟨es,ep,t,u,d⟩:=S;refine Calls.call_function_entry kind_sorted plain_sorted entry_sorted (args_sorted1 _) ?_; unfold Builtin.«sorted»;refine iP (m:=checkCount "sorted" 1 1 _) (iV ?_);refine iP (WU (by exact q) u d λh1 r tk ord k1 hp=>?_);have c:StrsAre ord (ord.map strOf):=strsAre_map ord λv p=>by obtain ⟨e,i,rfl⟩:=aC.mp (hp.mem_iff.mp p);exact qgT d.el i
 have h:(ord.map strOf).Perm ks:=(hp.map strOf).trans (by rw [bR]; exact d.perm);have n:ord.length=ks.length:=by have:=h.length_eq;rwa [am] at this
 refine iP (wpAny_newList ?_ (by rw [n,i9]; lia));have W:(h1.push (lC "list" ord.toArray 0)).get? h1.objs.size=iO (lC "list" ord.toArray 0):=ah _ rfl;refine iP (k9 (j8 slot_list_sort (s:={ s with heap:=h1.push (lC "list" ord.toArray 0),drawn:=r,toks:=tk }) ⟨_,W,rfl⟩ entry_list_sort (list_sort_treeK strKind_oneLt W c.keysOf (λv₁ k rest e=>keyKind_strs (by rw [<-e]; exact c)) (by rw [n]; exact j) λg D C=>⟨_,rfl,?_⟩) (args_list_sort _)));obtain ⟨f,B,y,z⟩:=sorted_out_str c D C;obtain ⟨e,i⟩:=sortedHeap_at (out:=(arrOf g).map (·.2)) W;refine iV ⟨_,rfl,x h1 _ r tk _ e f k1 (λb o eb=>?_) i B (y.trans h) z⟩;have l:=aq eb;rw [sortedHeap_old (ay l) (by rw [bf]; exact dJ l)];exact ac _ eb
end
section
theorem VA {Q:iR->iU->Prop} (hit:s.heap.IsTupleIter it l i) (hl:s.heap.IsTuple l items) (hx:items[i]?=iO x)
  (c:∀ h',h'.IsTupleIter it l (i+1)->bo it s.heap h'->Q x { s with heap:=h' }):iW (model prog w) A (aR (.ref it)) Q E s:=by
 obtain ⟨o,h,d,hd⟩:=id hit;obtain ⟨ol,a,_,n,b⟩:=hl;unfold aR;refine iP (j7 (name:=aa "__next__") hit.typeIs bS (j8 bS hit.typeIs PySem.F.entry_tuple_iterator_next ?_ (PySem.F.args_tuple_iterator_next_1 _))); show iW _ _ (field (.ref it) 0 >>= _) _ _ s;refine iP (k8 h hd (x:=.ref l) rfl ?_); show iW _ _ (if (aL l == bO)=iT then _ else _) _ _ s;rw [Ab (show ¬((aL l == bO)=iT) from bD)]; show iW _ _ (field (.ref it) 1 >>= _) _ _ s;refine iP (k8 h hd (x:=.int i 0) rfl ?_); show iW _ _ (seqItems? (.ref l) >>= _) _ _ s;refine iP (k6 a b ?_); simp only [dH,hx];refine iP (lH h hd (by simp) (iV ⟨x,rfl,iV (c _ ?_ (bp ..))⟩)); exact ⟨_,aV _ h (Obj.isFreed_of_fields (Obj.data_mapFields hd _)),(Obj.cls_mapFields ..).trans d,by rw [Obj.data_mapFields hd]; simp [lb]⟩
theorem zq {Q:iR->iU->Prop} (d:A.handled=iQ) (hit:s.heap.IsTupleIter it l i) (hl:s.heap.IsTuple l items) (hx:items[i]?=iQ)
  (k:∀ h' e,iC it s.heap h'->(∃ o,h'.get? e=iO o/\o.cls=.type "StopIteration")->E (.ref e) { s with heap:=h' }):iW (model prog w) A (aR (.ref it)) Q E s:=by
 obtain ⟨o,b,f,hd⟩:=id hit;obtain ⟨ol,h,_,n,c⟩:=hl;unfold aR;refine iP (j7 (name:=aa "__next__") hit.typeIs bS (j8 bS hit.typeIs PySem.F.entry_tuple_iterator_next ?_ (PySem.F.args_tuple_iterator_next_1 _))); show iW _ _ (field (.ref it) 0 >>= _) _ _ s;refine iP (k8 b hd (x:=.ref l) rfl ?_); show iW _ _ (if (aL l == bO)=iT then _ else _) _ _ s;rw [Ab (show ¬((aL l == bO)=iT) from bD)]; show iW _ _ (field (.ref it) 1 >>= _) _ _ s;refine iP (k8 b hd (x:=.int i 0) rfl ?_); show iW _ _ (seqItems? (.ref l) >>= _) _ _ s;refine iP (k6 h c ?_); simp only [dH,hx];refine iP (l0 (iP (lH b hd (by simp) ?_))); show iW _ _ (newExc (.type "StopIteration") [] >>= _) _ _ _;refine iP ?_; simp only [newExc,newTuple]; refine iP (k7 ?_ (by size_fits));refine iP (m:=l4 _ _) (nj (a:=bO) (by first | rfl | (simp only [l4]; rfl)) ?_); refine k7 ?_ (by size_fits); simp only [raiseNew];refine iP (wpAny_handled ?_); first | rw [show A.in1.handled=iQ from d] | rw [d]
 refine iP (iV (wpAny_throw ?_)); exact k _ _ (((bp ..).extBut.push _).push _) ⟨_,ah _ rfl,rfl⟩
theorem WV (g:A.handled=iQ) (it l:Addr) (d:l≠it) (items:Array iR):mz prog w A it [it,l] items.size (λi v=>items[i]?=iO v) (λi h=>h.IsTupleIter it l i/\h.IsTuple l items) where
 live:=λ_ _ st=>let ⟨o,f,_⟩:=st.1; ⟨o,f⟩
 frame:=λ_ _ _ st k=>⟨st.1.at λo e=>k it (by simp) o e,let ⟨o,e,c⟩:=st.2; ⟨o,k l (by simp) o e,c⟩⟩
 item:=λi s Q E hi st j=>by refine VA st.1 st.2 (x:=items[i]) (by simp [hi]) λh' b a=>j _ h' s.toks (by simp [hi]) ⟨b,?_⟩ a;obtain ⟨o,e,c⟩:=st.2;exact ⟨o,(a.2 l d).trans e,c⟩
 done:=λs Q E st m=>zq g st.1 st.2 (by simp) m
structure Apart2 (z TI TO i1 i2:Addr) (fp1 fp2:List Addr):Prop where
 TIz:TI≠z
 TOz:TO≠z
 i1z:i1≠z
 i2z:i2≠z
 TITO:TI≠TO
 TIi1:TI≠i1
 TIi2:TI≠i2
 TOi1:TO≠i1
 TOi2:TO≠i2
 i12:i1≠i2
 z1:z∉fp1
 z2:z∉fp2
 o1:TO∉fp1
 o2:TO∉fp2
 a12:i1∉fp2
 a21:i2∉fp1
variable {z TI TO i1 i2:Addr} {fp1 fp2:List Addr} {n1 n2:Nat} {P1 P2:Nat->iR->Prop} {S1 S2:Nat->Heap->Prop} {a b:iR}
theorem qcr {Q:iR->iU->Prop} (D:Apart2 z TI TO i1 i2 fp1 fp2) (D1:mz prog w A i1 fp1 n1 P1 S1) (F:mz prog w A i2 fp2 n2 P2 S2)
  (hz:mG s.heap z TI TO .none) (X:lj s.heap TI (.ref i1) (.ref i2)) (W:lj s.heap TO a b) (h1:S1 i s.heap) (h2:S2 i s.heap) (l1:i < n1) (l2:i < n2)
  (hQ:∀ x y h' tk,P1 i x->P2 i y->mG h' z TI TO (lb s.heap.objs.size)->lj h' TO x y->S1 (i+1) h'->S2 (i+1) h'->lj h' s.heap.objs.size x y ->(∀ c o,c≠z->c≠TO->c≠i1->c≠i2->s.heap.get? c=iO o->h'.get? c=iO o)->Q (.ref s.heap.objs.size) { s with heap:=h',toks:=tk }) :
  iW (model prog w) A (Builtin.«zip.__next__» ⟨[.ref z],[]⟩) (λfin s'=>∃ v,fin=.done (.ret v)/\Q v s') E s:=by
 show iW _ _ (field (.ref z) 2 >>= _) _ _ _; refine iP (k8 hz rfl (x:=.bool iS) rfl ?_);show iW _ _ (field (.ref z) 3 >>= _) _ _ _; refine iP (k8 hz rfl (x:=.ref TI) rfl ?_); refine iP (k6 X rfl ?_);show iW _ _ (aS (.ref z) >>= _) _ _ _; refine iP ?_; unfold aS;refine iP (k8 hz rfl (x:=.none) rfl (iV ?_)); simp only [if_true];refine iP (l0 ?_); refine iP (k8 hz rfl (x:=.ref TO) rfl ?_);refine iP (lx hz (by simp) λh₁ r k=>?_); replace r:mG h₁ z TI TO .ellipsis:=r;refine iP ?_; simp only [List.zipIdx_cons,List.zipIdx_nil,cJ,fN];refine iP (iP (mW ?_)); show iW _ _ (aR (.ref i1) >>= _) _ _ _;refine iP (D1.item i _ _ _ l1 (D1.frame _ _ _ h1 λc C o e=>k.extBut _ _ (λq=>D.z1 (q ▸ C)) e) λx U V hx N j=>iV ?_);have B:lj U TO a b:=(j.2 _ D.TOi1).trans (k.extBut _ _ D.TOz W);refine iP (k6 B rfl ?_); refine iP (wpAny_updateSeq_pair B λT m g=>?_);replace m:lj T TO x b:=m; refine iP (nk (iV ?_));refine iP (iP (mW ?_)); show iW _ _ (aR (.ref i2) >>= _) _ _ _;refine iP (F.item i _ _ _ l2 (F.frame _ _ _ h2 λc C o e=>(g.extBut _ _ (λq=>D.o2 (q ▸ C)) ((j.2 _ (λq=>D.a12 (q ▸ C))).trans (k.extBut _ _ (λq=>D.z2 (q ▸ C)) e)))) λy S L hy M f=>iV ?_);have u:lj S TO x b:=(f.2 _ D.TOi2).trans m;refine iP (k6 u rfl ?_); refine iP (wpAny_updateSeq_pair u λp h d=>?_);replace h:lj p TO x y:=h; refine iP (nk (iV (iV ?_)));refine iP (k6 h rfl ?_); refine iP (mU ?_);have hsz:p.objs.size=s.heap.objs.size:=by rw [d.1,f.1,g.1,j.1,k.1]
 have G:mG p z TI TO .ellipsis:=d.extBut _ _ D.TOz.symm ((f.2 _ D.i2z.symm).trans (g.extBut _ _ D.TOz.symm ((j.2 _ D.i1z.symm).trans r)));have P:∀ c o,c≠z->c≠TO->c≠i1->c≠i2->s.heap.get? c=iO o->p.get? c=iO o:=λc o c1 c2 Z Y e=>d.extBut _ _ c2 ((f.2 _ Y).trans (g.extBut _ _ c2 ((j.2 _ Z).trans (k.extBut _ _ c1 e))));have K:z < p.objs.size:=aq G;show iW _ _ (Builtin.SmallTypes.ownedTupleHandOut (.ref z) (.ref p.objs.size) >>= _) _ _ _; refine iP ?_; unfold Builtin.SmallTypes.ownedTupleHandOut;have O:mG (p.push { cls:=.type "tuple",data:=.seq #[x,y] }) z TI TO .ellipsis:=ac _ G;refine iP (lx O (by simp) λR n I=>?_); replace n:mG R z TI TO (lb p.objs.size):=n;refine lx n (by simp) λt l H=>?_; replace l:mG t z TI TO (lb p.objs.size):=l;have up:∀ c o,c≠z->p.get? c=iO o->t.get? c=iO o:=λc o c1 e=>H.extBut _ _ c1 (I.extBut _ _ c1 (ac _ e));have J:lj t p.objs.size x y:=H.extBut _ _ (cw K) (I.extBut _ _ (cw K) (ah _ rfl));rw [hsz] at l J;refine iV ⟨_,rfl,?_⟩;show Q (.ref p.objs.size) _;rw [hsz];refine hQ x y t L hx hy l (up _ _ D.TOz h) (D1.frame _ _ _ N λc C o e=>up _ _ (λq=>D.z1 (q ▸ C)) (d.extBut _ _ (λq=>D.o1 (q ▸ C)) ((f.2 _ (λq=>D.a21 (q ▸ C))).trans (g.extBut _ _ (λq=>D.o1 (q ▸ C)) e))))
  (F.frame _ _ _ M λc C o e=>up _ _ (λq=>D.z2 (q ▸ C)) (d.extBut _ _ (λq=>D.o2 (q ▸ C)) e)) J λc o c1 c2 Z Y e=>up c o c1 (P c o c1 c2 Z Y e)
theorem qeF {Q:Fin->iU->Prop} (D:Apart2 z TI TO i1 i2 fp1 fp2) (L:mz prog w A i1 fp1 n1 P1 S1) (F:mz prog w A i2 fp2 n2 P2 S2)
  (hz:mG s.heap z TI TO .none) (X:lj s.heap TI (.ref i1) (.ref i2)) (W:lj s.heap TO a b) (h1:S1 i s.heap) (h2:S2 i s.heap) (y:i=n1\/(i < n1/\i=n2))
  (M:∀ h' tk e,(∀ c o,c≠z->c≠TO->c≠i1->c≠i2->s.heap.get? c=iO o->h'.get? c=iO o)->(∃ o,h'.get? e=iO o/\o.cls=.type "StopIteration")->E (.ref e) { s with heap:=h',toks:=tk }) :
  iW (model prog w) A (Builtin.«zip.__next__» ⟨[.ref z],[]⟩) Q E s:=by
 show iW _ _ (field (.ref z) 2 >>= _) _ _ _; refine iP (k8 hz rfl (x:=.bool iS) rfl ?_);show iW _ _ (field (.ref z) 3 >>= _) _ _ _; refine iP (k8 hz rfl (x:=.ref TI) rfl ?_); refine iP (k6 X rfl ?_);show iW _ _ (aS (.ref z) >>= _) _ _ _; refine iP ?_; unfold aS;refine iP (k8 hz rfl (x:=.none) rfl (iV ?_)); simp only [if_true];refine iP (l0 ?_); refine iP (k8 hz rfl (x:=.ref TO) rfl ?_);refine iP (lx hz (by simp) λh₁ r k=>?_); replace r:mG h₁ z TI TO .ellipsis:=r;refine iP ?_; simp only [List.zipIdx_cons,List.zipIdx_nil,cJ,fN];refine iP (iP (mW ?_)); show iW _ _ (aR (.ref i1) >>= _) _ _ _;have f1:S1 i h₁:=L.frame _ _ _ h1 λc C o e=>k.extBut _ _ (λq=>D.z1 (q ▸ C)) e;rcases y with rfl | ⟨hlt,rfl⟩
 ·refine iP (L.done _ _ _ f1 λu e j I=>?_);obtain ⟨H,h,K⟩:=I;have f:mG u z TI TO .ellipsis:=j _ _ D.i1z.symm r;have p:e≠z:=λx=>by subst x; rw [f] at h; cases h; simp at K
  exact lx f (by simp) λn _ g=>M n s.toks e (λc o c1 _ J _ x=>g.extBut _ _ c1 (j _ _ J (k.extBut _ _ c1 x))) ⟨H,g.extBut _ _ p h,K⟩
 ·refine iP (L.item i _ _ _ hlt f1 λx u V hx N j=>iV ?_);have B:lj u TO a b:=(j.2 _ D.TOi1).trans (k.extBut _ _ D.TOz W);refine iP (k6 B rfl ?_); refine iP (wpAny_updateSeq_pair B λn G g=>?_);refine iP (nk (iV ?_)); refine iP (iP (mW ?_)); show iW _ _ (aR (.ref i2) >>= _) _ _ _;refine iP (F.done _ _ _ (F.frame _ _ _ h2 λc C o e=>(g.extBut _ _ (λq=>D.o2 (q ▸ C)) ((j.2 _ (λq=>D.a12 (q ▸ C))).trans (k.extBut _ _ (λq=>D.z2 (q ▸ C)) e)))) λv e m I=>?_);obtain ⟨H,h,K⟩:=I;have d:mG v z TI TO .ellipsis:=m _ _ D.i2z.symm (g.extBut _ _ D.TOz.symm ((j.2 _ D.i1z.symm).trans r));have p:e≠z:=λx=>by subst x; rw [d] at h; cases h; simp at K
  exact lx d (by simp) λt _ l=>M t V e (λc o c1 c2 J O x=>l.extBut _ _ c1 (m _ _ O (g.extBut _ _ c2 ((j.2 _ J).trans (k.extBut _ _ c1 x))))) ⟨H,l.extBut _ _ p h,K⟩
theorem WW {Q:Option iR->iU->Prop} (D:Apart2 z TI TO i1 i2 fp1 fp2) (L:mz prog w A.in1 i1 fp1 n1 P1 S1) (F:mz prog w A.in1 i2 fp2 n2 P2 S2)
  (hz:mG s.heap z TI TO .none) (X:lj s.heap TI (.ref i1) (.ref i2)) (W:lj s.heap TO a b) (h1:S1 i s.heap) (h2:S2 i s.heap) (d:i < n1) (l:i < n2)
  (h:∀ x y h' tk,P1 i x->P2 i y->mG h' z TI TO (lb s.heap.objs.size)->lj h' TO x y->S1 (i+1) h'->S2 (i+1) h'->lj h' s.heap.objs.size x y ->(∀ c o,c≠z->c≠TO->c≠i1->c≠i2->s.heap.get? c=iO o->h'.get? c=iO o)->Q (iO (.ref s.heap.objs.size)) { s with heap:=h',toks:=tk }):iW (model prog w) A (lz (.ref z)) Q E s:=by
 have hT:s.TypeIs (.ref z) "zip":=⟨_,hz,rfl⟩
 unfold lz;exact iP (ly (j7 (name:=aa "__next__") hT bz (j8 bz hT dw
  (qcr D L F hz X W h1 h2 d l λx y h' tk m g f q p e k j=>iV (h x y h' tk m g f q p e k j)) (c8 _))))
theorem Zd {Q:Option iR->iU->Prop} (D:Apart2 z TI TO i1 i2 fp1 fp2) (L:mz prog w A.in1 i1 fp1 n1 P1 S1) (F:mz prog w A.in1 i2 fp2 n2 P2 S2)
  (hz:mG s.heap z TI TO .none) (X:lj s.heap TI (.ref i1) (.ref i2)) (W:lj s.heap TO a b) (h1:S1 i s.heap) (h2:S2 i s.heap) (y:i=n1\/(i < n1/\i=n2))
  (f:∀ h' tk,(∀ c o,c≠z->c≠TO->c≠i1->c≠i2->s.heap.get? c=iO o->h'.get? c=iO o)->Q iQ { s with heap:=h',toks:=tk }):iW (model prog w) A (lz (.ref z)) Q E s:=by
 have hT:s.TypeIs (.ref z) "zip":=⟨_,hz,rfl⟩
 unfold lz;refine iP (ly (j7 (name:=aa "__next__") hT bz (j8 bz hT dw (qeF D L F hz X W h1 h2 y λh' tk e k h=>?_) (c8 _))));obtain ⟨o,l,d⟩:=h;refine iP (lF (T := "StopIteration") (b:=iT) ⟨o,l,d⟩ mS ?_);exact iV (f _ _ k)
end
section
theorem YG (b:A.handled=iQ) (k:SK) (it l:Addr) (e:l≠it) (items:Array iR):mz prog w A it [it,l] items.size (λi v=>items[i]?=iO v) (λi h=>ItK h it l k i/\SeqK h l k items):=by
 cases k with
 | l=>exact Draws.list b it l e items
 | t=>exact WV b it l e items
end
abbrev zH1 (k1:SK) (h:Heap) (i:Addr):Heap:=h.push { cls:=.type k1.itc,data:=.fields #[.ref i,.int 0 0] }
abbrev zH2 (k1 k2:SK) (h:Heap) (i l:Addr):Heap:=(zH1 k1 h i).push { cls:=.type k2.itc,data:=.fields #[.ref l,.int 0 0] }
abbrev zH3 (k1 k2:SK) (h:Heap) (i l:Addr):Heap:=(zH2 k1 k2 h i l).push { cls:=.type "tuple",data:=.seq #[.ref h.objs.size,.ref (zH1 k1 h i).objs.size] }
abbrev zH4 (k1 k2:SK) (h:Heap) (i l:Addr):Heap:=(zH3 k1 k2 h i l).push { cls:=.type "tuple",data:=.seq #[.none,.none] }
abbrev zH5 (k1 k2:SK) (h:Heap) (i l:Addr):Heap:=(zH4 k1 k2 h i l).push { cls:=.type "zip",data:=.fields #[.none,.bool iS,.bool iS,.ref (zH2 k1 k2 h i l).objs.size,.ref (zH3 k1 k2 h i l).objs.size] }
theorem qae (k1 k2:SK) (i l:Addr) (xs ys:Array iR):Meets (Builtin.«zip.__new__» ⟨[.type "zip",.ref i,.ref l],[]⟩) (λ_ R s=>SeqK s.heap i k1 xs/\SeqK s.heap l k2 ys/\R (.ok (.ret (.ref (zH4 k1 k2 s.heap i l).objs.size))) { s with heap:=zH5 k1 k2 s.heap i l }):=
 .of_wp λprog w A R s h=>by
  obtain ⟨hp,g,d,tk,os⟩:=s; obtain ⟨t,f,h⟩:=h;have c:=sub_zip;have b:SeqK (iL ⟨hp,g,d,tk,os⟩) i k1 xs:=t;have a:SeqK (iL ⟨hp.push { cls:=.type k1.itc,data:=.fields #[.ref i,.int 0 0] },g,d,tk,os⟩) l k2 ys:=SeqK.at f λo e=>ac _ e;wp_walk using qcg b,qcg a
  exact ⟨_,rfl,h⟩
variable {t':Nat}
section
theorem qaf {ch:List Addr} (I:Inv X pins σ H s) (k:∀ b o,b∉ch->s.heap.get? b=iO o->h'.get? b=iO o) (h:∀ b∈ch,Wu X pins H b):Inv X pins σ H { s with heap:=h',toks:=t' }:=by
 have t:∀ b u,H b=iO u->b∉ch:=λb u e z=>by rw [(h b z).1] at e;cases e
 refine I.step (g':=s.gens) (d':=s.drawn) (ch:=ch) (λb f=>?_) (λb o _ _ d e _=>k b o d e) (λb o _ _ d e _=>⟨o.slots,k b o d e⟩) (λ_ _ _ _ n=>n) (λb o d e=>⟨o,k b o d e⟩) (λ_ _ e=>e) (λ_ _ _ e=>e) (λb ps e=>⟨#[],by rw [e]; simp⟩) (λm a=>?_) (λb u e=>?_) I.bare;·obtain ⟨f0,f1,f2,i,f4,g⟩:=h b f;exact ⟨i,f1,f4,g⟩
 ·obtain ⟨o,es,ep,l,r⟩:=a;exact ⟨o,es,ep,k _ o (λz=>(h _ z).2.1 rfl) l,r⟩
 ·refine (I.hok b u e).stay (λc v d q=>k c v ?_ q) (λ_ q=>q) λ_ _ q=>q;rcases d with z | z
  ·rw [z];exact t b u e
  ·exact t c _ z
theorem qkr {d':Drawn} (I:Inv X pins σ H s) (k:∀ b u,s.heap.get? b=iO u->h'.get? b=iO u):Inv X pins σ H { s with heap:=h',drawn:=d',toks:=t' }:=by refine I.step (g':=s.gens) (d':=d') (ch:=[]) (λ_ z=>nomatch z) (λb o _ _ _ e _=>k b o e) (λb o _ _ _ e _=>⟨o.slots,k b o e⟩) (λ_ _ _ _ n=>n) (λb o _ e=>⟨o,k b o e⟩) (λ_ _ e=>e) (λ_ _ _ e=>e) (λb ps e=>⟨#[],by rw [e]; simp⟩) (λm c=>?_) (I.hok.kept k) I.bare;obtain ⟨o,es,ep,l,r⟩:=c;exact ⟨o,es,ep,k _ o l,r⟩
theorem qag {xs:List V} (I:Inv X pins σ H s):∀ {k:SK},SqK X.K H a k xs->∃ its:List iR,Vals xs its/\SeqK s.heap a k its.toArray
 | .l,h=>let ⟨its,r,p,_⟩:=I.list h; ⟨its,r,p.isList⟩
 | .t,h=>let ⟨its,r,p,_⟩:=I.tuple h; ⟨its,r,p⟩
end
variable {us:List iR}
theorem gt {xs:List V} (r:Vals xs us) (h:us[i]?=iO u):∃ x,xs[i]?=iO x/\RelV x u:=by
 have hi:i < us.length:=(aE.mp h).1;have hx:i < xs.length:=by rw [r.length]; exact hi
 obtain ⟨U,h1,h2⟩:=r.get (aA hx);rw [h] at h1;cases h1;exact ⟨xs[i],aA hx,h2⟩
theorem qah (b m k:Nat) (h1:m < b) (h2:k < b):Apart2 (b+4) (b+2) (b+3) b (b+1) [b,m] [b+1,k]:=by have ne:∀ x y:Nat,x≠y->x≠y:=λ_ _ h=>h;have n:∀ x a c:Nat,x≠a->x≠c->x∉[a,c]:=λx a c n1 n2 h=>(af.mp h).elim n1 λh=>n2 (ax.mp h);exact ⟨ne _ _ (by lia),ne _ _ (by lia),ne _ _ (by lia),ne _ _ (by lia),ne _ _ (by lia),ne _ _ (by lia),ne _ _ (by lia),ne _ _ (by lia),ne _ _ (by lia),ne _ _ (by lia),n _ _ _ (by lia) (by lia),n _ _ _ (by lia) (by lia),n _ _ _ (by lia) (by lia),n _ _ _ (by lia) (by lia),n _ _ _ (by lia) (by lia),n _ _ _ (by lia) (by lia)⟩
theorem qai:iZ "zip"=iO (.type "zip"):=by decide +kernel
variable {own:List Nat} {ma:Mo} {pos:Pos}
section
variable {a c:Expr} {fa fb:qZ} {mb:Mo}
noncomputable def qdi (xs ys:List D):List D:=dA (λx y=>.tup [x,y]) xs ys
end
def leS (x y:Str):Prop:=¬y.cps.toList < x.cps.toList
noncomputable def qfI (x:Str):List Str->List Str
 | []=>[x]
 | y::l=>if kL y x=iT then y::qfI x l else x::y::l
noncomputable def uA:List Str->List Str
 | []=>[]
 | x::l=>qfI x (uA l)
variable {y:Str}
theorem gu {x z:Str} (a:leS x y) (b:leS y z):leS x z:=List.le_trans (α:=Nat) a b
theorem qaj (x y:Str):leS x y\/leS y x:=List.le_total (α:=Nat) x.cps.toList y.cps.toList
theorem JI {x:Str} (a:leS x y) (b:leS y x):x=y:=by have e:=List.le_antisymm (α:=Nat) (as:=x.cps.toList) (bs:=y.cps.toList) a b;obtain ⟨⟨l⟩⟩:=x;obtain ⟨⟨m⟩⟩:=y;simp at e;rw [e]
theorem uU {x:Str}:kL y x=iS↔leS x y:=by unfold kL leS;exact decide_eq_false_iff_not
theorem gx (x:Str):∀ l,(qfI x l).Perm (x::l)
 | []=>cF _
 | y::l=>by
  unfold qfI;split;·exact ((gx x l).cons y).trans (List.Perm.swap _ _ _)
  ·exact cF _
theorem je:∀ l,(uA l).Perm l
 | []=>cF _
 | x::l=>(gx x _).trans ((je l).cons x)
theorem gy (x:Str):∀ l,l.Pairwise leS->(qfI x l).Pairwise leS
 | [],_=>c9 _ _
 | y::l,h=>by
  have h0:=bh.mp h;unfold qfI;split
  ·rename_i t;have b:leS y x:=by
    rcases qaj y x with q | q;·exact q
    ·rw [<-uU] at q;rw [q] at t;cases t
   refine bh.mpr ⟨λz hz=>?_,gy x l h0.2⟩;rcases af.mp ((gx x l).mem_iff.mp hz) with rfl | hz;·exact b
   ·exact h0.1 z hz
  ·rename_i t;have a:leS x y:=uU.mp (by cases e:kL y x with | true=>exact absurd e t | false=>rfl);refine bh.mpr ⟨λz hz=>?_,h⟩;rcases af.mp hz with rfl | hz;·exact a
   ·exact gu a (h0.1 z hz)
theorem kz:∀ l,(uA l).Pairwise leS
 | []=>dI
 | x::l=>gy x _ (kz l)
theorem gz:∀ {l m:List Str},l.Perm m->l.Pairwise leS->m.Pairwise leS->l=m
 | [],m,p,_,_=>p.nil_eq
 | x::l,[],p,_,_=>absurd p.length_eq (by simp)
 | x::l,y::m,p,hl,hm=>by
  have a:=bh.mp hl;have b:=bh.mp hm;have c:x=y:=by
   have h1:y∈x::l:=p.mem_iff.mpr (aj ..);have h2:x∈y::m:=p.mem_iff.mp (aj ..);rcases af.mp h1 with e | e;·exact e.symm
   ·rcases af.mp h2 with d | d;·exact d
    ·exact JI (a.1 y e) (b.1 x d)
  subst c;rw [gz p.cons_inv a.2 b.2]
theorem QY:∀ (x:Str) (l:List Str),risingS x l=iT->(x::l).Pairwise leS
 | x,[],_=>c9 _ _
 | x,y::l,h=>by
  have h:(!ltCps y.cps.toList x.cps.toList&&risingS y l)=true:=h;rw [aN] at h;have j:=QY y l h.2;have a:leS x y:=by have h1:=h.1;rw [ltCps_eq] at h1;unfold leS;simpa using h1
  refine bh.mpr ⟨λz hz=>?_,j⟩;rcases af.mp hz with rfl | hz;·exact a
  ·exact gu a ((bh.mp j).1 z hz)
theorem WX:∀ (l:List Str),sortedS l=iT->l.Pairwise leS
 | [],_=>dI
 | x::l,h=>QY x l h
variable {ss:List Str}
theorem qak (p:ss.Perm ks) (h:sortedS ss=iT):ss=uA ks:=gz (p.trans (je ks).symm) (WX ss h) (kz ks)
noncomputable def xo:List D->Option (List Str)
 | []=>iO []
 | .str x::l=>(xo l).map (x::·)
 | _::_=>iQ
noncomputable def yJ:D->Option (List Str)
 | .lst ds=>xo ds
 | .tup ds=>xo ds
 | _=>iQ
noncomputable def qfJ [DecidableEq κ] (T:KP κ) (P:i7) (w:i8) (p:Addr) (ks:List κ):HO:=.ext λh=>SetK T P w h p ks
theorem qeG [DecidableEq κ] {T:KP κ} {ks:List κ} (x:SetK T P w h p ks):ObjOk P w H h p (qfJ T P w p ks):=
 ⟨x,let ⟨_,_,_,e,_⟩:=x; ⟨_,e⟩,λ_ _ a k=>a.at k⟩
structure KD {κ:Type} [DecidableEq κ] (T:KP κ) where
 sqd:D->Option (List κ)
 ok:κ->Prop
 get:∀ {K:Frag} {F:Hp} {dx:D} {ss:List κ},sqd dx=iO ss->∃ ds,Qz dx=.ok ds/\∀ {vs:List V} {us:List iR},IsL K F vs ds->Vals vs us->us.length=ss.length/\(∀ (i:Nat) (v:iR),us[i]?=iO v->∃ x,ss[i]?=iO x/\∀ p w,(T.kd p w).is x v=iT)/\∀ x∈ss,ok x
theorem qal (a:IsL K F vs ds) (l:Vals vs us) (e:xo ds=iO ss):StrsAre us ss/\∀ x∈ss,x.length<=sizeLine:=by
 induction ds generalizing vs us ss with
 | nil=>cases a;cases l;cases e;exact ⟨.nil,λx h=>nomatch h⟩
 | cons d ds j=>
  cases a with
  | cons i a=>
   cases l with
   | cons r l=>
    cases d with
    | str x=>
     obtain ⟨sl,q,rfl⟩:=aQ.mp (show (xo ds).map (x::·)=iO ss from e);cases i with
     | str hz=>obtain ⟨t,rfl⟩:=r;obtain ⟨i1,i2⟩:=j a l q;exact ⟨.cons x t i1,λy B=>(af.mp B).elim (λz=>z ▸ hz) (i2 y)⟩
    | _=>cases e
section
variable {e:Expr} {fa:qZ}
theorem VB:∀ (l ks:List Str) {x:Str},x∈l.foldl xR ks->x∈ks\/x∈l
 | [],ks,x,h=>.inl h
 | y::l,ks,x,h=>by
  rcases VB l (xR ks y) h with q | q
  ·unfold xR at q;split at q;·exact .inl q
   ·rcases aG.mp q with q | q;·exact .inl q
    ·exact .inr (by rw [ax.mp q]; exact aj ..)
  ·exact .inr (ae _ q)
theorem YH (e:xo ds=iO ss) (l:IsL K F vs ds) (d:Vals vs us):us.length=ss.length/\(∀ (i:Nat) (v:iR),us[i]?=iO v->∃ x,ss[i]?=iO x/\∀ p w,(KpS.kd p w).is x v=iT)/\∀ x∈ss,x.length<=sizeLine:=by obtain ⟨st,B⟩:=qal l d e;refine ⟨st.length,λi v h=>?_,B⟩;obtain ⟨y,t,e1,a⟩:=st.item i v h;refine ⟨y,a,λp w=>?_⟩;rw [e1];show f9 y (.str y t)=iT;simp [f9]
noncomputable def KdS:KD KpS where
 sqd:=yJ
 ok:=λy=>y.length<=sizeLine
 get:=λ{K F dx ss} e=>by
  cases dx with
  | lst ds=>exact ⟨ds,rfl,YH e⟩
  | tup ds=>exact ⟨ds,rfl,YH e⟩
  | _=>cases e
theorem qdj [DecidableEq κ] {T:KP κ} (U:KD T) (D:C.K=X.K) (z:X.calm=iT):wB X (.type "set") (λxs H Q=>∃ x F dx ss,xs=[x]/\Same F H/\TopIs C.K F H x dx/\U.sqd dx=iO ss/\ss.length < 4000/\((∀ y∈ss,U.ok y)->∀ p,H p=iQ->Q (.ref p) (upd H p (qfJ T X.prog X.w p (ss.foldl xg []))))):=by
 intro pins s σ H xs us Q I r h;obtain ⟨x,F,dx,ss,rfl,f,t,es,hl,q⟩:=h;obtain ⟨u,rfl,A⟩:=uP r;obtain ⟨ds,e,hg⟩:=U.get (K:=C.K) (F:=F) es;obtain ⟨a,sk,vs,rfl,hq,j⟩:=Yx f t e;cases A;rw [D] at hq;obtain ⟨its,o,n,g,l,c,m,hd,hz⟩:=Vu I hq;obtain ⟨d,hi,B⟩:=hg j g;refine GY (T:=T) (λA1 L R hA k=>?_) λh' tk S kp=>⟨.ref s.heap.objs.size,_,I.laid (t':=tk) kp (ap _) (qeG S),rfl,q B _ (I.hok.fresh (ap _))⟩
 exact qkq (sk:=sk) (items:=its.toArray) (hA.trans (I.ok.hd z)) (GX (ah _ rfl)) (.of (ac _ l) hd c) (by simp [d]) (λi v e=>(hi i v (by simpa using e)).imp λx h=>⟨h.1,h.2 _ _⟩) (by rw [au,d]; unfold mD; lia) (ay (aq l)) λh' tk S kp=>k h' tk S λb o eb=>kp b o (ay (aq eb)) (ac _ eb)
theorem gA:∀ {us:List iR} {ss:List Str},StrsAre us ss->Vals (ss.map V.str) us
 | _,_,.nil=>.nil
 | _,_,.cons y t h=>.cons ⟨t,rfl⟩ (gA h)
theorem qam (c:X.calm=iT):wB X (.builtin "sorted") (λxs H Q=>∃ a ks,xs=[.ref a]/\H a=iO (qfJ KpS X.prog X.w a ks)/\ks.length < 64/\∀ p,H p=iQ->Q (.ref p) (upd H p (.lst ((uA ks).map V.str)))):=by
 intro pins s σ H xs us Q I r h;obtain ⟨a,ks,rfl,g,j,q⟩:=h;obtain ⟨u,rfl,A⟩:=uP r;cases A;have S:SetK KpS X.prog X.w s.heap a ks:=(I.hok a _ g).1;refine Zc (I.ok.hd c) S j λh1 h' b tk vs e ss k1 k2 hp st pm so=>?_;rw [qak pm so] at st;have d:Inv X pins σ H { s with heap:=h1,drawn:=b,toks:=tk }:=qkr I k1;have hz:(uA ks).length<=sizeLine:=by
  rw [(je ks).length_eq,i9]
  lia
 refine ⟨.ref h1.objs.size,_,d.laid (t':=tk) (o:=.lst ((uA ks).map V.str)) k2 (ap _) ⟨by rw [am]; exact hz,vs.toList,e,gA st,by simpa [lC] using hp⟩,rfl,q _ (d.hok.fresh (ap _))⟩
theorem qeH [DecidableEq κ] {T:KP κ}:wB X (.builtin "len") (λxs H Q=>∃ a ks,xs=[.ref a]/\H a=iO (qfJ T X.prog X.w a ks)/\Q (.int ks.length) H):=by intro pins s σ H xs us Q I r h;obtain ⟨a,ks,rfl,g,q⟩:=h;obtain ⟨u,rfl,A⟩:=uP r;cases A;obtain ⟨es,ep,t,l,d⟩:SetK T X.prog X.w s.heap a ks:=(I.hok a _ g).1;have b:=d.bd;refine call_len_set l ⟨rfl,rfl,rfl⟩ rfl d.fits (by unfold mD at b; lia) ?_;exact ⟨.int ks.length,H,I.tok _,⟨_,by rw [d.size]⟩,q⟩
theorem JJ {m:Mo} {f:qZ} {Q R:VK} (h:tE C own m f σ H Q) (i:∀ v H1,Q v H1->R v H1):tE C own m f σ H R:=by
 obtain ⟨F,ρ,r,po⟩:=h;refine ⟨F,ρ,r,?_⟩;cases q:f ρ with
 | ok p=>rw [q] at po;obtain ⟨d,ρ1⟩:=p;exact λv F1 H1 a b c=>i _ _ (po v F1 H1 a b c)
 | exc c ρ1=>rw [q] at po;exact po
 | bad=>rw [q] at po;exact po.elim
noncomputable def um (d:D):Out D:=match yJ d with
 | some ss=>if ss.length < 64 then .ok (.lst ((uA (ss.foldl xR [])).map D.str)) else .bad
 | none=>.bad
noncomputable def gB (d:D):Out D:=match yJ d with
 | some ss=>if ss.length < 4000 then .ok (.int (ss.foldl xR []).length) else .bad
 | none=>.bad
theorem zG:∀ {ss:List Str},(∀ x∈ss,x.length<=sizeLine)->IsL K F (ss.map V.str) (ss.map D.str)
 | [],_=>.nil
 | x::l,h=>.cons (.str (h x (aj ..))) (zG λy B=>h y (ae _ B))
theorem QZ {p p2 pos2:Pos} (o:C.K=X.K) (j:X.calm=iT) (hg:Gl X "sorted") (m:X.mg "sorted"=iQ) (v:iZ "sorted"=iO (.builtin "sorted")) (g:Gl X "set") (d:X.mg "set"=iQ) (c:iZ "set"=iO (.type "set")) (n:PE X e (tE C own ma fa))
  (i:iX [e] X.env=[(iS,eval e X.env)]:=by exact qE rfl) (b:iX [.Call (.Name "set" p2) [e] [] pos2] X.env=[(iS,eval (.Call (.Name "set" p2) [e] [] pos2) X.env)]:=by exact qE rfl) :
  PE X (.Call (.Name "sorted" p) [.Call (.Name "set" p2) [e] [] pos2] [] pos) (tE C own .fr (d1 um fa)):=by
 refine jz (yp (qam j) hg m v (qJ (wC (qdj KdS o j) g d c (qJ n jK i) (by decide) (by decide) (by rw [i]; rfl) rfl) jK b) (by decide) (by decide) (by rw [b]; rfl) rfl) λσ H Q h=>?_;refine JJ (zY (ma:=ma) h) λx H1 ⟨r,F,dx,ex,s,k,po⟩=>?_;cases ex;unfold um at po;cases es:yJ dx with
 | none=>rw [es] at po;exact po.elim
 | some ss=>
  rw [es] at po;by_cases hl:ss.length < 64
  ·have po:PoV C .fr F H1 (if ss.length < 64 then .ok (.lst ((uA (ss.foldl xR [])).map D.str)) else .bad) Q:=po;rw [Aa hl,<-YE] at po;refine ⟨x,F,dx,ss,rfl,s,k,es,by lia,λB q hq=>⟨q,_,rfl,qm,?_,λl f=>?_⟩⟩
   ·have:=yI ss [];rw [be] at this
    lia
   ·obtain ⟨s1,c1,f1⟩:=kE (u:=qfJ KpS X.prog X.w q (ss.foldl xg [])) s hq;obtain ⟨s2,c2,f2⟩:=kE (u:=.lst ((uA (ss.foldl xg [])).map V.str)) s1 f;have t:H1 l=none:=by
     by_cases z:l=q;·rw [z] at f;rw [qm] at f;cases f
     ·rwa [qu z] at f
    refine po _ _ _ s2 (c1.trans' c2) ⟨l,rfl,t,f2,_,qm,zG λy a=>B y ?_⟩;rw [YE] at a;rcases VB ss [] ((je _).mem_iff.mp a) with z | z;·cases z
    ·exact z
  ·have po:PoV C .fr F H1 (if ss.length < 64 then .ok (.lst ((uA (ss.foldl xR [])).map D.str)) else .bad) Q:=po;rw [Ab hl] at po;exact po.elim
noncomputable def qh3 [DecidableEq κ] {T:KP κ} (U:KD T) (add:List κ->κ->List κ) (d:D):Out D:=match U.sqd d with
 | some ss=>if ss.length < 4000 then .ok (.int (ss.foldl add []).length) else .bad
 | none=>.bad
theorem Ze [DecidableEq κ] {T:KP κ} (U:KD T) {p p2 pos2:Pos} (j:C.K=X.K) (a:X.calm=iT) (hg:Gl X "len") (m:X.mg "len"=iQ) (v:iZ "len"=iO (.builtin "len")) (g:Gl X "set") (d:X.mg "set"=iQ) (c:iZ "set"=iO (.type "set")) (f:PE X e (tE C own ma fa))
  (i:iX [e] X.env=[(iS,eval e X.env)]:=by exact qE rfl) (b:iX [.Call (.Name "set" p2) [e] [] pos2] X.env=[(iS,eval (.Call (.Name "set" p2) [e] [] pos2) X.env)]:=by exact qE rfl) :
  PE X (.Call (.Name "len" p) [.Call (.Name "set" p2) [e] [] pos2] [] pos) (tE C own .sh (d1 (qh3 U xg) fa)):=by
 refine jz (yp (qeH (T:=T)) hg m v (qJ (wC (qdj U j a) g d c (qJ f jK i) (by decide) (by decide) (by rw [i]; rfl) rfl) jK b) (by decide) (by decide) (by rw [b]; rfl) rfl) λσ H Q h=>?_;refine JJ (zY (ma:=ma) h) λx H1 ⟨n,F,dx,ex,y,t,po⟩=>?_;cases ex;unfold qh3 at po;cases es:U.sqd dx with
 | none=>rw [es] at po;exact po.elim
 | some ss=>
  rw [es] at po;have po:PoV C .sh F H1 (if ss.length < 4000 then .ok (.int (ss.foldl xg []).length) else .bad) Q:=po;by_cases hl:ss.length < 4000;·rw [Aa hl] at po;refine ⟨x,F,dx,ss,rfl,y,t,es,hl,λB q hq=>⟨q,_,rfl,qm,?_⟩⟩;obtain ⟨s1,c1,f1⟩:=kE (u:=qfJ T X.prog X.w q (ss.foldl xg [])) y hq;exact po _ _ _ s1 c1 (.int _)
  ·rw [Ab hl] at po;exact po.elim
theorem qan {p p2 pos2:Pos} (j:C.K=X.K) (a:X.calm=iT) (hg:Gl X "len") (m:X.mg "len"=iQ) (v:iZ "len"=iO (.builtin "len")) (g:Gl X "set") (h:X.mg "set"=iQ) (c:iZ "set"=iO (.type "set")) (f:PE X e (tE C own ma fa))
  (i:iX [e] X.env=[(iS,eval e X.env)]:=by exact qE rfl) (b:iX [.Call (.Name "set" p2) [e] [] pos2] X.env=[(iS,eval (.Call (.Name "set" p2) [e] [] pos2) X.env)]:=by exact qE rfl) :
  PE X (.Call (.Name "len" p) [.Call (.Name "set" p2) [e] [] pos2] [] pos) (tE C own .sh (d1 gB fa)):=by
 rw [show gB=qh3 KdS xg by rw [YE];funext d;have q:KdS.sqd d=yJ d:=rfl;unfold gB qh3;rw [q];cases yJ d <;> rfl];exact Ze KdS j a hg m v g h c f i b
end
variable {β:Type}
@[simp] theorem vY {a:α} {k:α->Out β}:(Out.ok a).bind k=k a:=rfl
@[simp] theorem qjL {c:Str} {o:Sl} {k:α->Out β}:(Out.exc c o:Out α).bind k=.exc c o:=rfl
@[simp] theorem qjM {k:α->Out β}:(Out.bad:Out α).bind k=.bad:=rfl
@[simp] theorem qiY {a:α}:(Out.ok a).plain=.ok a:=rfl
@[simp] theorem qjN:(Out.bad:Out α).plain=.bad:=rfl
variable {c:Prop}
@[simp] theorem qjO [Decidable c] {a b:Out α} {k:α->Out β}:(if c then a else b).bind k=if c then a.bind k else b.bind k:=by split <;> rfl
@[simp] theorem qjP [Decidable c] {a b:Out α}:(if c then a else b).plain=if c then a.plain else b.plain:=by split <;> rfl
noncomputable def qcs (d:D) (A B:Out α):Out α:=match d with
 | .bl b=>if b=iT then A else B
 | _=>.bad
@[simp] theorem qh4 {A B:Out α}:qcs (.bl b) A B=if b=iT then A else B:=rfl
noncomputable def qjQ (p:D×Sl):Out (Bool×Sl):=match p.1 with
 | .bl b=>.ok (b,p.2)
 | _=>.bad
variable {ρ:Sl}
@[simp] theorem qiZ:qjQ (.bl b,ρ)=.ok (b,ρ):=rfl
noncomputable def YI (ms:List PM):Out (Fl×Sl)->Out (D×List D)
 | .ok (.nx,ρ)=>.ok (.non,jM ρ 0 ms)
 | .ok (.rt d,ρ)=>.ok (d,jM ρ 0 ms)
 | .ok _=>.bad
 | .exc c ρ=>.exc c ((jM ρ 0 ms).map iO)
 | .bad=>.bad
variable {ms:List PM}
theorem qo {f:qK}:jN N ms f ds=YI ms (f (qp N ds)):=by unfold jN YI;rfl
@[simp] theorem qjR:YI ms (.ok (.rt d,ρ))=.ok (d,jM ρ 0 ms):=rfl
@[simp] theorem qjS:YI ms (.ok (.nx,ρ))=.ok (.non,jM ρ 0 ms):=rfl
@[simp] theorem qi0 {c:Str}:YI ms (.exc c ρ)=.exc c ((jM ρ 0 ms).map iO):=rfl
@[simp] theorem qi1 [Decidable c] {a b:Out (Fl×Sl)}:YI ms (if c then a else b)=if c then YI ms a else YI ms b:=by split <;> rfl
noncomputable def Zf (as:List AK) (ρ:Sl):Out (D×List D)->KZ
 | .ok q=>.ok (q.1,zD as q.2 ρ)
 | .exc c o=>.exc c (zD as (o.map (·.getD .non)) ρ)
 | .bad=>.bad
variable {as:List AK}
@[simp] theorem qh5 {q:D×List D}:Zf as ρ (.ok q)=.ok (q.1,zD as q.2 ρ):=rfl
@[simp] theorem qgX {c:Str} {o:Sl}:Zf as ρ (.exc c o)=.exc c (zD as (o.map (·.getD .non)) ρ):=rfl
@[simp] theorem qgY [Decidable c] {a b:Out (D×List D)}:Zf as ρ (if c then a else b)=if c then Zf as ρ a else Zf as ρ b:=by split <;> rfl
variable {ρ:Sl}
@[simp] theorem qi2:qc i ρ=match ρ[i]? with | some (iO d)=>.ok (d,ρ) | _=>.bad:=rfl
@[simp] theorem qks:dC d ρ=.ok (d,ρ):=rfl
variable {gg:D->Sl->Out Sl}
section
variable {g g':D->D->Out D} {g1:D->Out D} {fa fb fc f:qZ} {ft fu:xf} {fr:wq} {fs ft1:qK} {fi:wq} {G:jy}
@[simp] theorem xp:d1 g1 fa ρ=(fa ρ).bind λp=>(g1 p.1).plain.bind λd=>.ok (d,p.2):=rfl
@[simp] theorem qi3:d2 g fa fb ρ=(fa ρ).bind λp=>(fb p.2).bind λq=>(g p.1 q.1).plain.bind λd=>.ok (d,q.2):=rfl
@[simp] theorem qi4:uy f ρ=(f ρ).bind λp=>(ZI p.1).bind λb=>.ok (b,p.2):=rfl
@[simp] theorem qh6:qO f ρ=(f ρ).bind qjQ:=rfl
@[simp] theorem qi5:yw ft ρ=(ft ρ).bind λp=>.ok (!p.1,p.2):=rfl
@[simp] theorem qh7:qiW f ρ=(qO f ρ).bind λp=>.ok (.bl (!p.1),p.2):=rfl
@[simp] theorem qi6:qgx ft fu ρ=(ft ρ).bind λp=>if p.1=iT then fu p.2 else .ok (iS,p.2):=rfl
@[simp] theorem qjT:dOr ft fu ρ=(ft ρ).bind λp=>if p.1=iT then .ok (iT,p.2) else fu p.2:=rfl
@[simp] theorem qh8:WI fa fb ρ=(fa ρ).bind λp=>qcs p.1 (fb p.2) (.ok (.bl iS,p.2)):=by
 unfold WI;cases fa ρ with
 | ok p=>
  obtain ⟨d,r⟩:=p;cases d <;> try rfl
  rename_i b;cases b <;> rfl
 | exc c o=>rfl
 | bad=>rfl
@[simp] theorem qi7:qhV fa fb ρ=(fa ρ).bind λp=>qcs p.1 (.ok (.bl iT,p.2)) (fb p.2):=by
 unfold qhV;cases fa ρ with
 | ok p=>
  obtain ⟨d,r⟩:=p;cases d <;> try rfl
  rename_i b;cases b <;> rfl
 | exc c o=>rfl
 | bad=>rfl
@[simp] theorem qjU:dIf ft fa fb ρ=(ft ρ).bind λp=>if p.1=iT then fa p.2 else fb p.2:=rfl
@[simp] theorem qgZ:yy g g' fa fb fc ρ=(fa ρ).bind λp=>(fb p.2).bind λq=>(g p.1 q.1).plain.bind λz=>qcs z ((fc q.2).bind λr=>(g' q.1 r.1).plain.bind λd=>.ok (d,r.2)) (.ok (.bl iS,q.2)):=by
 unfold yy;congr 1;funext p;congr 1;funext q;congr 1;funext z;cases z <;> try rfl
 rename_i b;cases b <;> rfl
@[simp] theorem qi8:qv ρ=.ok ([],ρ):=rfl
@[simp] theorem qh9:qb fa fr ρ=(fa ρ).bind λp=>(fr p.2).bind λq=>.ok (p.1::q.1,q.2):=rfl
@[simp] theorem qia:jP fr ρ=(fr ρ).bind λq=>.ok (D.non::q.1,q.2):=rfl
@[simp] theorem qi9:Vh fr ρ=(fr ρ).bind λp=>if p.1.length<=sizeLine then .ok (.tup p.1,p.2) else .bad:=rfl
@[simp] theorem qja:Vi fr ρ=(fr ρ).bind λp=>if p.1.length<=sizeLine then .ok (.lst p.1,p.2) else .bad:=rfl
@[simp] theorem qib:jb ρ=.ok (.nx,ρ):=rfl
@[simp] theorem WY:qG fs ft1 ρ=(fs ρ).bind λp=>match p.1 with | .nx=>ft1 p.2 | _=>.ok p:=by
 show _=_;unfold qG;cases fs ρ with
 | ok p=>obtain ⟨l,r⟩:=p; cases l <;> rfl
 | exc c o=>rfl
 | bad=>rfl
@[simp] theorem qjV:sIf ft fs ft1 ρ=(ft ρ).bind λp=>if p.1=iT then fs p.2 else ft1 p.2:=rfl
@[simp] theorem qic:kM f ρ=(f ρ).bind λp=>.ok (.nx,p.2):=rfl
@[simp] theorem qao:jq f ρ=(f ρ).bind λp=>.ok (.rt p.1,p.2):=rfl
@[simp] theorem WZ:jJ i f ρ=(f ρ).bind λp=>if i < p.2.length then .ok (.nx,p.2.set i (iO p.1)) else .bad:=rfl
@[simp] theorem qid:qr as G fr ρ=(fr ρ).bind λp=>match kF as p.1 p.2 with | some ds=>Zf as p.2 (G ds) | none=>.bad:=rfl
@[simp] theorem qjb:qko f ρ=(f ρ).bind λp=>(Qz p.1).bind λds=>.ok (ds,p.2):=rfl
@[simp] theorem qjc:jI f ρ=(f ρ).bind λp=>(jw p.1).bind λds=>.ok (ds,p.2):=rfl
@[simp] theorem qjW:gNm i d ρ=if i < ρ.length then .ok (ρ.set i (iO d)) else .bad:=rfl
@[simp] theorem uV:Vj fi gg fs ρ=(fi ρ).bind λp=>kC gg fs p.1 p.2:=rfl
@[simp] theorem qjd:qkp f gg ρ=(f ρ).bind λp=>match gg p.1 p.2 with | .ok ρ'=>.ok (.nx,ρ') | _=>.bad:=rfl
@[simp] theorem qje {gg:List D->D->Out (List D)}:JD i gg f ρ=if gc ρ[i]?=iT then (f ρ).bind λp=>(match p.2[i]? with | some (iO (.lst xs))=>(match gg xs p.1 with | .ok ys=>.ok (.non,p.2.set i (iO (.lst ys))) | _=>.bad) | _=>.bad) else .bad:=rfl
@[simp] theorem qjX:ftT ρ=.ok (iT,ρ):=rfl
end
end L2.D2
namespace L2.D2
open PySem PySem.Spec PyProof.Rows
def qie (i j:Int):Prop:=(0<=j/\j<=64)/\-4611686018427387904 < i/\i < 4611686018427387904
instance:∀ i j,Decidable (qie i j):=λi j=>inferInstanceAs (Decidable (_/\_))
variable {X:Cx} {C:Ct}
section
theorem qg0:OpR X (lD .Pow) (rI qie λi j=>.int (i ^ j.toNat)):=opI λi j _ _ _ _ _ d q=>by obtain ⟨⟨h0,h1⟩,h2,h3⟩:=d;exact pow_int_small h0 (by omega) (by omega) q
noncomputable def qjf:D->D->Out D:=KC λi j=>if qie i j then .ok (.int (i ^ j.toNat)) else .bad
theorem qg1:OpD X C .sh (lD .Pow) qjf:=Gn qg0 λ_ _ _=>.int _
end
noncomputable def QE (sep:Str):D->Out D
 | .lst ds=>match xo ds with
  | some ss=>if (ss.map (·.length)).sum+ss.length * sep.length<=16777216/\(dR sep ss).length<=sizeLine then .ok (.str (dR sep ss)) else .bad
  | none=>.bad
 | _=>.bad
variable {own:List Nat} {e:Expr} {m:Mo}
section
variable {fe:qZ} {apos cpos:Pos} {sep:Str}
theorem qeI:MtR X "str.join" (λx vs H Q=>∃ (sep:Str) (a:Addr) (xs:List V) (ss:List Str),x=.str sep/\vs=[.ref a]/\SqL X.K H a xs/\(∀ us,Vals xs us->StrsAre us ss)/\(ss.map (·.length)).sum+ss.length * sep.length<=16777216/\Q (.str (dR sep ss)) H):=by intro pins s σ H x vs v us Q I d c h;obtain ⟨sep,a,xs,ss,rfl,rfl,hq,f,hz,q⟩:=h;obtain ⟨t,rfl⟩:=d;obtain ⟨u,rfl,A⟩:=c.one;cases A;obtain ⟨its,r,pl,_⟩:=I.list hq;obtain ⟨o,n,l,e,hd,b⟩:=pl;exact join_list ⟨o,l,e,n,b⟩ (by simpa using f its r) hz λt' k=>⟨.str (dR sep ss),H,I.tok _,⟨_,rfl⟩,q⟩
theorem Ua {c1 c2} (s:C.K=X.K) (o:PE X e (tE C own m fe))
  (f:lg (.Constant (.str sep) c1 c2) "join" X.env (eval (.Constant (.str sep) c1 c2) X.env)=eval (.Constant (.str sep) c1 c2) X.env:=by rfl)
  (w:((li cpos (iX [e] X.env)).all (λx=>!x.1)&&(lW cpos (lr [] X.env)).all (λx=>x.1.isSome)
   && decide ([e].length+([]:List lI).length+(if ([]:List lI).isEmpty then 0 else 1) < 30))=true:=by exact uh rfl)
  (b:(apos.endLine == cpos.line)=true:=by rfl) (hs:iX [e] X.env=[(iS,eval e X.env)]:=by exact qE rfl) :
  PE X (.Call (.Attribute (.Constant (.str sep) c1 c2) "join" apos) [e] [] cpos) (tE C own .sh (d1 (QE sep) fe)):=by
 refine jz (Gb PySem.F.plainAttrs_str PySem.F.slot_str_join PySem.F.type_str_join qeI qc7 (qJ o jK hs) f w b hs rfl) λσ H Q h=>?_;refine ⟨rfl,?_⟩;obtain ⟨F,ρ,n,h⟩:=XN (ma:=m) h;refine ⟨F,ρ,n,?_⟩;cases q:fe ρ with
 | ok p=>
  rw [q] at h;obtain ⟨d,ρ1⟩:=p;intro v F1 H1 g c1 j;obtain ⟨u,dx,y,l,po⟩:=h v F1 H1 g c1 j;cases dx <;> try exact po.elim
  rename_i ds;unfold QE at po;cases i:xo ds with
  | none=>simp only [i] at po; exact po.elim
  | some ss=>
   simp only [i] at po;by_cases hz:(ss.map (·.length)).sum+ss.length * sep.length<=16777216/\(dR sep ss).length<=sizeLine
   ·rw [Aa hz] at po;obtain ⟨a,vs,rfl,hq,t⟩:=l.lst y;have k:SqL X.K H1 a vs:=by rw [<-s]; exact hq
    exact ⟨sep,a,vs,ss,rfl,rfl,k,λus r=>(qal t r i).1,hz.1,po _ u H1 y .refl (.str hz.2)⟩
   ·rw [Ab hz] at po;exact po.elim
 | exc c=>rw [q] at h; exact h
 | bad=>rw [q] at h; exact h.elim
end
noncomputable def dM (k:D->Bool) (g:D->D->Out D) (fo fa:qZ):qZ:=λρ=>(fo ρ).bind λp=>if k p.1 then (fa p.2).bind λq=>(g p.1 q.1).plain.bind λd=>.ok (d,q.2) else .bad
variable {ma mb:Mo} {pos:Pos} {σ:St} {F H:Hp} {Q:VK}
section
variable {a b:Expr} {fa fb:qZ}
theorem Po.imp {r:KZ} {R:VK} (h:Po C own m σ F H r Q) (i:∀ v H',Q v H'->R v H'):Po C own m σ F H r R:=by
 cases r with
 | ok p=>exact λv F' H' a c mo=>i v H' (h v F' H' a c mo)
 | exc x=>exact h
 | bad=>exact h.elim
theorem Ub {k:D->Bool} {g:D->D->Out D} (f:ma≠.any) (h:tE C own m (dM k g fa fb) σ H Q):tE C own ma fa σ H λx H1=>(∃ F dx,Same F H1/\TopIs C.K F H1 x dx/\k dx=iT)/\tE C own mb fb σ H1 λy H2=>∃ F dx j,Same F H2/\TopIs C.K F H2 x dx/\TopIs C.K F H2 y j/\PoV C m F H2 (g dx j) Q:=by
 obtain ⟨F,ρ,p,h⟩:=h;refine ⟨F,ρ,p,Po.bind h λv F1 H1 d ρ1 a c1 c h1=>?_⟩;cases i:k d with
 | false=>simp only [i] at h1; exact h1.elim
 | true=>simp only [i,if_true] at h1;exact ⟨⟨F1,d,a.sub,c.top,i⟩,F1,ρ1,a,Po.bind h1 λw l H2 e ρ2 r c2 b h2=>⟨l,d,e,r.sub,(c.grow f c2 λx z=>(p.OA_there z).1).top,b.top,PoV.of r h2⟩⟩
def MtD (X:Cx) (C:Ct) (m:Mo) (id:String) (g:D->D->Out D):Prop:=
 MtR X id (λx vs H Q=>∃ y F dx d,vs=[y]/\Same F H/\TopIs C.K F H x dx/\TopIs C.K F H y d/\PoV C m F H (g dx d) Q)
end
theorem qap {pins:Pns} {s:iU} (I:Inv X pins σ H s) (y:Same F H) {n:Nat} {e:D}:∀ {vs:List V} {ds:List D} {us:List iR} {b:Bool},IsL X.K F vs ds->Vals vs us->QR n e ds=iO b ->us.map (ZH X F n e)=ds.map λd=>eqN n d e == iO iT
 | _,_,_,b,.nil,.nil,h=>rfl
 | _,_,_,b,.cons i t,.cons r rs,h=>by obtain ⟨a,c,q,f,rfl⟩:=Vb h;rw [aD,aD,qap I y t rs f,Gv I y i r q,q];cases a <;> rfl
noncomputable def qif:qK:=λ_=>.bad
section
variable {own':List Nat} {sts:List Stmt}
theorem qaq:PSs X sts (tSt C own own' qif):=by refine ⟨?_⟩;intro pins s σ H D I h;obtain ⟨_,_,_,h⟩:=h;exact h.elim
end
theorem PoI.shift {F1 H1:Hp} {r:Out (List D×Sl)} {R:It->Hp->Prop} (h:PoI C own σ F H r R) (c:Chg (OA own σ) F H F1 H1):PoI C own σ F1 H1 r R:=by
 cases r with
 | ok p=>exact λJ F' H' a S j=>h J F' H' a (c.trans' S) j
 | exc x=>exact λF' H' s io S=>h F' H' s io (c.trans' S)
 | bad=>exact h.elim
def qdk (i j:Int):Prop:=(-(2 ^ 62)<=i/\i < 2 ^ 62)/\-(2 ^ 62)<=j/\j < 2 ^ 62
instance:∀ i j,Decidable (qdk i j):=λi j=>inferInstanceAs (Decidable (_/\_))
noncomputable def qar (fa fb:qZ):wq:=λρ=>(fa ρ).bind λp=>(fb p.2).bind λq=>match p.1,q.1 with
 | .int i,.int j=>if qdk i j then .ok (QA i (j - i).toNat,q.2) else .bad
 | _,_=>.bad
variable {lo:Int}
section
variable {a b tg:Expr} {fa fb:qZ}
theorem Zg {p:Pos} (hg:Gl X "range") (l:X.mg "range"=iQ) (o:PE X a (tE C own .sh fa)) (n:PE X b (tE C own mb fb)) (hs:iX [a,b] X.env=[(iS,eval a X.env),(iS,eval b X.env)]:=by exact UV rfl rfl) (f:iX [b] X.env=[(iS,eval b X.env)]:=by exact qE rfl):PI X tg (.Call (.Name "range" p) [a,b] [] pos) (tIt C own (qar fa fb)):=by
 refine qb8 (ZP hg l (qJ o (qJ n jK f) (by rw [hs,f])) hs f) λσ H R ⟨F,ρ,k,h⟩=>⟨F,ρ,k,PoI.bindV h λv F1 H1 d ρ1 g c1 c h1=>⟨F1,ρ1,g,PoI.bindV (h1.shift c1) λw q H2 e ρ2 r c2 m h2=>?_⟩⟩
 have c:Is C.K F1 v d:=c;cases d with
 | int i=>
  cases e with
  | int j=>
   cases c;obtain rfl:=m.top.int;have h2:PoI C own σ F1 H1 (if qdk i j then .ok (QA i (j - i).toNat,ρ2) else .bad) R:=h2;by_cases z:qdk i j;·rw [Aa z] at h2;exact ⟨i,j,rfl,⟨z.1.1,z.1.2,z.2.1,z.2.2⟩,h2 _ q H2 r c2 qdc⟩
   ·rw [Ab z] at h2; exact h2.elim
  | _=>exact h2.elim
 | _=>exact h2.elim
theorem qas:∀ {xs:List V} {us:List iR},xs.length=us.length->(∀ (j:Nat) (x:V) (u:iR),xs[j]?=iO x->us[j]?=iO u->RelV x u)->Vals xs us
 | [],[],_,_=>.nil
 | x::xs,u::us,hl,h=>.cons (h 0 x u rfl rfl) (qas (Nat.succ.inj hl) λj y w a b=>h (j+1) y w (by simpa using a) (by simpa using b))
 | [],_::_,hl,_=>nomatch hl
 | _::_,[],hl,_=>nomatch hl
noncomputable def qig (p:Addr) (lo hi:Int):HO:=.ext λh=>∃ t u v,IsRange h p lo hi 1 t u v
theorem qeJ {P:i7} {w:i8} {h:Heap} {p:Addr} {hi:Int} {t u v:Tok} (x:IsRange h p lo hi 1 t u v):ObjOk P w H h p (qig p lo hi):=
 ⟨⟨t,u,v,x⟩,⟨_,x⟩,λ_ _ ⟨t,u,v,x⟩ k=>⟨t,u,v,k _ x⟩⟩
theorem qat:wB X (.type "range") (λxs H Q=>∃ j:Int,xs=[.int j]/\∀ p,H p=iQ->Q (.ref p) (upd H p (qig p 0 j))):=by intro pins s σ H xs us Q I r h;obtain ⟨j,rfl,q⟩:=h;obtain ⟨u,rfl,A⟩:=uP r;obtain ⟨t,rfl⟩:=A;exact call_range_1 ⟨.ref s.heap.objs.size,_,I.laid (t':=s.toks+1+1) (λb o e=>ac _ e) (ap _) (qeJ (IsRange.new ..)),rfl,q _ (I.hok.fresh (ap _))⟩
theorem qct (e:X.calm=iT):wB X (.type "list") (λxs H Q=>∃ r lo hi,xs=[.ref r]/\H r=iO (qig r lo hi)/\(qdk lo hi/\hi - lo<=1000000)/\∀ p,H p=iQ->Q (.ref p) (upd H p (.lst ((aK (hi - lo).toNat).map λk=>V.int (lo+(k:Nat)))))):=by
 intro pins s σ H xs us Q I r h;obtain ⟨a,lo,hi,rfl,g,hz,q⟩:=h;obtain ⟨u,rfl,A⟩:=uP r;cases A;obtain ⟨t,u,v,d⟩:=(I.hok a _ g).1;have i:Builtin.Range.rangeSize lo hi 1=(((hi - lo).toNat:Nat):Int):=by rw [rangeSize_one]; split <;> lia
 refine call_list_range (n:=(hi - lo).toNat) (I.ok.hd e) d (small_one hz.1.1.1 hz.1.1.2 hz.1.2.1 hz.1.2.2) i (by lia) λh' tk acc c k hp b=>?_;refine ⟨.ref s.heap.objs.size,_,I.laid (t':=tk) (o:=.lst ((aK (hi - lo).toNat).map λk=>V.int (lo+(k:Nat)))) k (ap _) ⟨by rw [am,bK,i9]; lia,acc.toList,c,?_,by simpa using hp⟩,rfl,q _ (I.hok.fresh (ap _))⟩;refine qas (by rw [am,bK,bV,b.1]) λj x w ex ew=>?_;rw [aF] at ex;obtain ⟨k,f,rfl⟩:=aQ.mp ex;obtain ⟨D,rfl⟩:=aE.mp f;obtain ⟨t,rfl⟩:=b.2 j w (by simpa using ew);exact ⟨t,by simp⟩
noncomputable def uo:D->Out D
 | .int j=>if qdk 0 j/\j - 0<=1000000 then .ok (.lst (QA 0 (j - 0).toNat)) else .bad
 | _=>.bad
theorem qau {K:Frag}:∀ l:List Nat,IsL K F (l.map λk=>V.int (lo+(k:Nat))) (l.map λk=>D.int (lo+(k:Nat)))
 | []=>.nil
 | k::l=>.cons (.int _) (qau l)
theorem Zh {p p2 pos2:Pos} (n:X.calm=iT) (hg:Gl X "list") (m:X.mg "list"=iQ) (v:iZ "list"=iO (.type "list")) (g:Gl X "range") (d:X.mg "range"=iQ) (c:iZ "range"=iO (.type "range")) (o:PE X e (tE C own ma fa))
  (i:iX [e] X.env=[(iS,eval e X.env)]:=by exact qE rfl) (b:iX [.Call (.Name "range" p2) [e] [] pos2] X.env=[(iS,eval (.Call (.Name "range" p2) [e] [] pos2) X.env)]:=by exact qE rfl) :
  PE X (.Call (.Name "list" p) [.Call (.Name "range" p2) [e] [] pos2] [] pos) (tE C own .fr (d1 uo fa)):=by
 refine jz (wC (qct n) hg m v (qJ (wC qat g d c (qJ o jK i) (by decide) (by decide) (by rw [i]; rfl) rfl) jK b) (by decide) (by decide) (by rw [b]; rfl) rfl) λσ H Q h=>?_;refine JJ (zY (ma:=ma) h) λx H1 ⟨r,F,dx,ex,y,a,po⟩=>?_;cases ex;cases dx <;> try exact po.elim
 rename_i j;unfold uo at po;by_cases hz:qdk 0 j/\j - 0<=1000000
 ·simp only [Aa hz] at po;obtain rfl:=a.int;refine ⟨j,rfl,λq hq=>⟨q,0,j,rfl,qm,hz,λl f=>?_⟩⟩;obtain ⟨s1,c1,f1⟩:=kE (u:=qig q 0 j) y hq;obtain ⟨s2,c2,f2⟩:=kE (u:=.lst ((aK (j - 0).toNat).map λk=>V.int (0+(k:Nat)))) s1 f;have t:H1 l=none:=by
   by_cases z:l=q;·rw [z] at f;rw [qm] at f;cases f
   ·rwa [qu z] at f
  exact po _ _ _ s2 (c1.trans' c2) ⟨l,rfl,t,f2,_,qm,qau _⟩
 ·simp only [Ab hz] at po;exact po.elim
end
theorem qav:iZ "enumerate"=iO (.type "enumerate"):=by decide +kernel
noncomputable def VC (xs:List D):List D:=(xs.zipIdx).map λp=>.tup [.int (p.2:Nat),p.1]
noncomputable def qaw (f:qZ):wq:=λρ=>(f ρ).bind λp=>match p.1 with
 | .lst xs=>.ok (VC xs,p.2)
 | _=>.bad
mutual
def qg2:Nat->Expr->Option D
 | 0,_=>iQ
 | n+1,e=>match e with
  | .Constant c _ _=>match c with
   | .none=>iO .non
   | .bool b=>iO (.bl b)
   | .int i=>iO (.int i)
   | .str x=>if x.length<=sizeLine then iO (.str x) else iQ
   | _=>iQ
  | .UnaryOp .USub (.Constant (.int i) _ _) _=>iO (.int (-i))
  | .List es _=>(qfK n es).bind λds=>if ds.length<=sizeLine then iO (.lst ds) else iQ
  | .Tuple es _ _=>(qfK n es).bind λds=>if ds.length<=sizeLine then iO (.tup ds) else iQ
  | _=>iQ
def qfK:Nat->List Expr->Option (List D)
 | _,[]=>iO []
 | 0,_::_=>iQ
 | n+1,e::es=>(qg2 n e).bind λd=>(qfK n es).bind λds=>iO (d::ds)
end
theorem YJ {α:Type}:∀ l:List α,((l.map λ_=>AK.vl).all λa=>decide (a=.vl))=iT
 | []=>rfl
 | _::l=>by rw [aD,fC,YJ l]; rfl
theorem qax {n:Nat} {e:Expr} {d:D} (h:qg2 n e=iO d):WH e=true:=by
 cases n with
 | zero=>cases h
 | succ n=>cases e <;> first | rfl | (simp [qg2] at h)
section
variable {X:Cx} {C:Ct} {own:List Nat}
mutual
theorem qg3:∀ (n:Nat) {e:Expr} {d:D},qg2 n e=iO d->PE X e (tE C own .sh (dC d))
 | 0,_,_,h=>by cases h
 | n+1,e,d,h=>by
  unfold qg2 at h;split at h
  ·split at h;·cases h; exact UW
   ·cases h; exact wx
   ·cases h; exact qt
   ·split at h;·rename_i hz;cases h;exact jh hz
    ·cases h
   ·cases h
  ·cases h;exact jz (qef GR qt) λσ H Q h=>h
  ·obtain ⟨ds,h1,h2⟩:=ck.mp h;split at h2
   ·rename_i hz;cases h2;have i:Vi (λρ=>.ok (ds,ρ))=dC (.lst ds):=by funext ρ;unfold Vi dC;rw [Out.oh,Aa hz]
    rw [<-i];exact yu (wD (JK n h1) (YJ _)) (by decide)
   ·cases h2
  ·obtain ⟨ds,h1,h2⟩:=ck.mp h;split at h2
   ·rename_i hz;cases h2;have i:Vh (λρ=>.ok (ds,ρ))=dC (.tup ds):=by funext ρ;unfold Vh dC;rw [Out.oh,Aa hz]
    rw [<-i];exact uC (JK n h1) (YJ _)
   ·cases h2
  ·cases h
theorem JK:∀ (n:Nat) {es:List Expr} {ds:List D},qfK n es=iO ds->PA X es (tAr C own (es.map λ_=>.vl) λρ=>.ok (ds,ρ))
 | 0,[],ds,h=>by cases h;exact qe
 | _+1,[],ds,h=>by cases h;exact qe
 | 0,_::_,ds,h=>by cases h
 | n+1,e::es,ds,h=>by unfold qfK at h;obtain ⟨d,h1,h⟩:=ck.mp h;obtain ⟨f,h2,h⟩:=ck.mp h;cases h;have i:qb (dC d) (λρ=>.ok (f,ρ))=λρ=>.ok (d::f,ρ):=rfl;rw [<-i];exact qa (qg3 n h1) (JK n h2) (by decide) (jl (qax h1))
end
theorem qeK {es:List Expr} {ds:List D} {pos:Pos} (n:Nat) (h:qfK n es=iO ds):PE X (.List es pos) (tE C own .fr (Vi λρ=>.ok (ds,ρ))):=wD (JK n h) (YJ _)
end
noncomputable def txI (i:Int):Str:=toString i
def CTx (i:Int):Prop:=i.natAbs.log2 < 1920/\(txI i).length<=sizeLine
instance:∀ i,Decidable (CTx i):=λi=>inferInstanceAs (Decidable (_/\_))
noncomputable def qfL:D->Out D
 | .int i=>if CTx i then .ok (.str (txI i)) else .bad
 | _=>.bad
section
variable {X:Cx} {C:Ct}
theorem qay:zX X C .sh (.type "str") qfL:=by
 intro pins s σ H xs us Q I r h;obtain ⟨x,F,dx,rfl,y,t,po⟩:=h;cases dx <;> try exact po.elim
 rename_i i;have po:PoV C .sh F H (if CTx i then .ok (.str (txI i)) else .bad) Q:=po;by_cases d:CTx i;·rw [Aa d] at po;cases t.int;exact KM pins s σ H _ us Q I r ⟨i,rfl,d.1,po _ F H y .refl (.str d.2)⟩
 ·rw [Ab d] at po;exact po.elim
end
noncomputable def qcu:D->Option Str
 | .str x=>iO x
 | .int i=>if CTx i then iO (txI i) else iQ
 | _=>iQ
inductive Fmt:V->Str->Prop
 | str {x:Str} (h:x.length<=sizeLine):Fmt (.str x) x
 | int {i:Int} (h:CTx i):Fmt (.int i) (txI i)
theorem Fmt.len {v:V} {x:Str} (h:Fmt v x):x.length<=sizeLine:=by
 cases h with
 | str h=>exact h
 | int h=>exact h.2
theorem uF (x:Str):aY++x=x:=by apply iD;show (#[]:Array Nat)++x.cps=x.cps;simp
theorem qaz {K:Frag} {F H:Hp} {v:V} {d:D} {x:Str} (t:TopIs K F H v d) (h:qcu d=iO x):Fmt v x:=by
 cases d <;> try (cases h; done)
 ·have h:(if CTx _ then iO (txI _) else iQ)=iO x:=h;split at h;·cases h;cases t.int;exact .int (by assumption)
  ·cases h
 ·cases h;obtain ⟨rfl,hz⟩:=t.str;exact .str hz
section
variable {X:Cx} {C:Ct} {own:List Nat} {a b:Expr} {fa fb:qZ} {ma mb:Mo} {pos p1 p2:Pos}
theorem qdl {pins:Pns} {s:iU} {σ:St} {H:Hp} {v:V} {u:iR} {x:Str} {Q:iR->iU->Prop} (I:Inv X pins σ H s) (r:RelV v u) (f:Fmt v x) (h:∀ t k,Q (.str x t) { s with toks:=k }):iW (model X.prog X.w) X.A (formatField u aY) Q X.xe s:=by
 cases f with
 | str hz=>obtain ⟨t,rfl⟩:=r;exact wpAny_formatField_str (h t s.toks) (h _ _) hz
 | int d=>obtain ⟨t,rfl⟩:=r;exact wpAny_formatField_int d.1 (h _ _)
end
end L2.D2
namespace PySem
open Builtin Builtin.Str
theorem Zi {prog:i7} {w:i8} {A:j9} {E:iR->iU->Prop} {s:iU} {x y:Str} {t u:Tok} {Q:iR->iU->Prop} (B:(y.length == 0)=iS) (hx:x.length<=sizeLine) (n:(db x y).length<=sizeLine)
  (hq:∀ (l:List (Str×Tok)) (k:Nat),l.map (·.1)=db x y->Q (.ref s.heap.objs.size) { s with toks:=k,heap:=s.heap.push { cls:=.type "list",data:=.seq (strValues l).toArray } }) :
  iW (model prog w) A (call (.builtin "str.split") [.str x t,.str y u]) Q E s:=by
 cases h1:(decide (x.length < y.length)||decide (ba x < ba y))
 ·cases h:(occurrences x y 0 x.length (x.length+1)).isEmpty;·have e:db x y=partsBetween x (occurrences x y 0 x.length (x.length+1)) y.length:=(Ab (ne_true_of_eq_false h1)).trans (Ab (ne_true_of_eq_false h));rw [e] at n;refine lT h9 (mQ _ _ _) fW (fO _ _) (meets_str_split_sep x y t u h1 B h hx n) ?_;show wants Q E _ { s with toks:=_,heap:=s.heap.push { cls:=.type "list",data:=.seq (strsFrom s.toks (partsBetween x (occurrences x y 0 x.length (x.length+1)) y.length)).toArray } };rw [strsFrom_eq];exact hq (numbered s.toks _) _ ((numbered_texts _ _).trans e.symm)
  ·exact lT h9 (mQ _ _ _) fW (fO _ _) (meets_str_split_not_found x y t u h1 B h) (hq [(x,t)] s.toks ((Ab (ne_true_of_eq_false h1)).trans (Aa h)).symm)
 ·exact lT h9 (mQ _ _ _) fW (fO _ _) (meets_str_split_cannot_occur x y t u h1) (hq [(x,t)] s.toks (Aa h1).symm)
end PySem
namespace L2.D2
open PySem PySem.Spec PyProof.Rows
def qg4 (x y:Str):Prop:=(y.length == 0)=iS/\(db x y).length<=sizeLine/\∀ z∈db x y,z.length<=sizeLine
instance:∀ x y,Decidable (qg4 x y):=λx y=>inferInstanceAs (Decidable (_/\_))
noncomputable def YK:D->D->Out D
 | .str x,.str y=>if qg4 x y then .ok (.lst ((db x y).map D.str)) else .bad
 | _,_=>.bad
noncomputable def qfM:D->Bool
 | .str _=>iT
 | _=>iS
variable {X:Cx} {C:Ct} {own:List Nat} {pos:Pos}
section
variable {a b:Expr} {fa fb:qZ} {m ma mb:Mo}
theorem YL:MtD X C .fr "str.split" YK:=by
 intro pins s σ H x vs v us Q I r j h;obtain ⟨y,F,dx,p,rfl,i,g,ty,po⟩:=h;obtain ⟨u,rfl,A⟩:=j.one;cases dx <;> try exact po.elim
 rename_i c;cases p <;> try exact po.elim
 rename_i a;obtain ⟨rfl,f⟩:=g.str;obtain ⟨rfl,m⟩:=ty.str;obtain ⟨t,rfl⟩:=r;obtain ⟨t',rfl⟩:=A;have po:PoV C .fr F H (if qg4 c a then .ok (.lst ((db c a).map D.str)) else .bad) Q:=po;by_cases d:qg4 c a;·rw [Aa d] at po;refine Zi d.1 f d.2.1 λl k e=>?_;have hq:H s.heap.objs.size=none:=I.hok.fresh (ap _);obtain ⟨s2,c2,f2⟩:=kE (u:=.lst ((db c a).map V.str)) i hq;have st:=strsAre_of_values l;rw [e] at st;exact ⟨.ref s.heap.objs.size,_,I.laid (t':=k) (o:=.lst ((db c a).map V.str)) (λb o n=>ac _ n) (ap _) ⟨by rw [am]; exact d.2.1,strValues l,0,gA st,ah _ rfl⟩,rfl,po _ _ _ s2 c2 ⟨_,rfl,hq,f2,_,qm,zG d.2.2⟩⟩
 ·rw [Ab d] at po;exact po.elim
theorem JL {name:Str} {id:String} {g:D->D->Out D} {apos cpos:Pos} (slot:Slot "str" name id) (d:typeOf (.builtin id)=pure (.type "method_descriptor")) (i:MtD X C m id g) (o:C.K=X.K)
  (l:PE X a (tE C own ma fa)) (j:PE X b (tE C own mb fb)) (f:ma≠.any:=by decide)
  (c:lg a name X.env (eval a X.env)=eval a X.env:=by rfl)
  (w:((li cpos (iX [b] X.env)).all (λx=>!x.1)&&(lW cpos (lr [] X.env)).all (λx=>x.1.isSome)
   && decide ([b].length+([]:List lI).length+(if ([]:List lI).isEmpty then 0 else 1) < 30))=true:=by exact uh rfl)
  (e:(apos.endLine == cpos.line)=true:=by rfl) (hs:iX [b] X.env=[(iS,eval b X.env)]:=by exact qE rfl) :
  PE X (.Call (.Attribute a name apos) [b] [] cpos) (tE C own m (dM qfM g fa fb)):=by
 refine jz (Gb PySem.F.plainAttrs_str slot d i l (qJ j jK hs) c w e hs rfl) λσ H Q h=>?_;obtain ⟨F,ρ,p,h⟩:=Ub (ma:=ma) (mb:=mb) f h;refine ⟨F,ρ,p,Po.imp h λx H1 h1=>?_⟩;obtain ⟨⟨F1,dx,s,t,k⟩,h2⟩:=h1;refine ⟨?_,?_⟩
 ·cases dx <;> try (cases k; done)
  obtain ⟨rfl,hz⟩:=t.str;rfl
 ·obtain ⟨n,ρ2,r,h2⟩:=h2;exact ⟨n,ρ2,r,Po.imp h2 λy H2 q=>⟨y,q.choose,q.choose_spec.choose,q.choose_spec.choose_spec.choose,rfl,q.choose_spec.choose_spec.choose_spec⟩⟩
end
inductive IntsAre:List iR->List Int->Prop
 | nil:IntsAre [] []
 | cons (y:Int) (t:Tok) {vs:List iR} {ys:List Int} (h:IntsAre vs ys):IntsAre (fz y t::vs) (y::ys)
theorem IntsAre.length:∀ {vs:List iR} {ys:List Int},IntsAre vs ys->vs.length=ys.length
 | _,_,.nil=>rfl
 | _,_,.cons _ _ h=>congrArg (·+1) h.length
theorem IntsAre.item:∀ {vs:List iR} {ys:List Int},IntsAre vs ys->∀ (i:Nat) (v:iR),vs[i]?=iO v->∃ y t,v=fz y t/\ys[i]?=iO y
 | _,_,.nil,i,v,e=>by simp at e
 | _,_,.cons y t h,0,v,e=>by simp at e; subst e; exact ⟨y,t,rfl,rfl⟩
 | _,_,.cons y t h,i+1,v,e=>by obtain ⟨z,t',e1,a⟩:=h.item i v (by simpa using e);exact ⟨z,t',e1,by simpa using a⟩
noncomputable def JM:List D->Option (List Int)
 | []=>iO []
 | .int x::l=>(JM l).map (x::·)
 | _::_=>iQ
variable {K:Frag} {F:Hp} {vs:List V}
theorem qeL {us:List iR} {ds:List D} {ss:List Int} (a:IsL K F vs ds) (l:Vals vs us) (e:JM ds=iO ss):IntsAre us ss:=by
 induction ds generalizing vs us ss with
 | nil=>cases a;cases l;cases e;exact .nil
 | cons d ds j=>
  cases a with
  | cons i a=>
   cases l with
   | cons r l=>
    cases d with
    | int x=>obtain ⟨sl,q,rfl⟩:=aQ.mp (show (JM ds).map (x::·)=iO ss from e);cases i;obtain ⟨t,rfl⟩:=r;exact .cons x t (j a l q)
    | _=>cases e
noncomputable def gD (f:Str) (d:D):List (Str×D)->List (Str×D)
 | []=>[(f,d)]
 | (g,x)::r=>if g=f then (g,d)::r else (g,x)::gD f d r
variable {f:Str} {v:V} {d:D} {H:Hp} {c:Addr}
section
theorem IsF.put (h:Is K F v d):∀ {fv:List (Str×V)} {fs:List (Str×D)},IsF K F fv fs->IsF K F (Jt f v fv) (gD f d fs)
 | _,_,.nil=>.cons h .nil
 | _,_,.cons (k:=k) q t=>by
  unfold Jt gD;by_cases z:k=f;·rw [Aa z,Aa z]; exact .cons h t
  ·rw [Ab z,Ab z]; exact .cons q (IsF.put h t)
theorem IsF.get:∀ {fv:List (Str×V)} {fs:List (Str×D)},IsF K F fv fs->fs.lookup f=iO d->∃ v,fv.lookup f=iO v/\Is K F v d
 | _,_,.nil,e=>by cases e
 | _,_,.cons (k:=k) q t,e=>by
  rw [bF] at e ⊢;cases z:f == k with
  | true=>rw [z] at e; cases e; exact ⟨_,rfl,q⟩
  | false=>rw [z] at e; exact IsF.get t e
theorem IsF.non:∀ {fv:List (Str×V)} {fs:List (Str×D)},IsF K F fv fs->fs.lookup f=iQ->fv.lookup f=iQ
 | _,_,.nil,e=>rfl
 | _,_,.cons (k:=k) q t,e=>by
  rw [bF] at e ⊢;cases z:f == k with
  | true=>rw [z] at e; cases e
  | false=>rw [z] at e; exact IsF.non t e
theorem IsF.length:∀ {fv:List (Str×V)} {fs:List (Str×D)},IsF K F fv fs->fv.length=fs.length
 | _,_,.nil=>rfl
 | _,_,.cons _ t=>congrArg (·+1) t.length
theorem TopIs.ins {fs:List (Str×D)} (s:Same F H) (h:TopIs K F H v (.ins c fs)):∃ a dx fv,v=.ref a/\H a=iO (.ins c dx fv)/\IsF K F fv fs:=by
 rcases h with h | ⟨a,rfl,dx,fv,e,t⟩
 ·cases h with
  | ins e t=>exact ⟨_,_,_,rfl,s _ _ e,t⟩
 ·exact ⟨a,dx,fv,rfl,e,t⟩
end
noncomputable def zr (c:Addr) (f:Str):D->Out D
 | .ins k fs=>if k=c then (match fs.lookup f with | some d=>.ok d | none=>.bad) else .bad
 | _=>.bad
noncomputable def gE (c:Addr) (i:Nat) (f:Str) (fe:qZ):qK:=λρ=>(fe ρ).bind λp=>match p.2[i]? with
 | some (iO (.ins k fs))=>if k=c/\fs.length < 1000 then .ok (.nx,p.2.set i (iO (.ins k (gD f p.1 fs)))) else .bad
 | _=>.bad
variable {i:Nat} {x:Str} {ms:List PM} {ps:List Str} {cv:Str->iR}
section
variable {m mo:Mo} {e o:Expr} {es:List Expr} {fa fe fo:qZ} {p1 p2:Pos}
theorem vt (p:C.K=X.K) (g:Cls X.K c) (n:NoAttr X.K c f) (i:PE X e (tE C own m fa)) (j:lg e f X.env (eval e X.env)=eval e X.env:=by rfl):PE X (.Attribute e f pos) (tE C own .sh (d1 (zr c f) fa)):=by
 refine jz (qge i j) λσ H Q h=>JJ (XN (ma:=m) h) λx H1 ⟨F,dx,y,b,po⟩=>?_;cases dx with
 | ins k fs=>
  replace po:PoV C .sh F H1 (if k=c then (match fs.lookup f with | some d=>.ok d | none=>.bad) else .bad) Q:=po;by_cases z:k=c
  ·subst z;rw [Aa rfl] at po;cases q:fs.lookup f with
   | none=>rw [q] at po; exact po.elim
   | some d=>rw [q] at po;obtain ⟨a,dx,fv,rfl,o,t⟩:=b.ins y;obtain ⟨v,l,is⟩:=t.get q;exact ⟨a,k,dx,fv,v,rfl,o,g,n,l,po v F H1 y .refl is⟩
  ·rw [Ab z] at po; exact po.elim
 | _=>exact po.elim
theorem uW (I:C.K=X.K) (E:Cls X.K c) (y:NoAttr X.K c f) (hi:X.N[i]?=iO x) (s:Vis X.env.scope x) (l:i∈own) (B:PE X e (tE C own m fe)) (A:m≠.any:=by decide) (hd:Dbg x:=by decide) (n:Cdk x:=by decide)
  (hs:lK e (iO (.Attribute (.Name x p1) f p2)) pos.line X.env=pure false:=by rfl):PS X (.Assign [.Attribute (.Name x p1) f p2] e pos) (tSt C own own (gE c i f fe)):=by
 refine Qy (qgf (wA hi s hd n) (yu B A) hs) λD σ H ⟨F,ρ,p,h⟩=>⟨F,ρ,p,PoS.bindE h λv F1 H1 d ρ1 r c1 j h1=>?_⟩
 obtain ⟨w,b⟩:=r.opn i l;obtain ⟨a,e1,J,q⟩:=r.ow i w l b;simp only [b] at h1;cases w with
 | ins k fs=>
  by_cases z:k=c/\fs.length < 1000;·simp only [Aa z] at h1;obtain ⟨rfl,hl⟩:=z;obtain ⟨dx,fv,G,t⟩:=q;obtain ⟨g,o⟩:=r.write (u:=.ins k dx (Jt f v fv)) (d:=.ins k (gD f d fs)) l e1 ⟨dx,_,qm,t.put j⟩;exact ⟨_,e1,a,k,dx,fv,rfl,G,E,y,by rw [t.length]; exact hl,h1 σ F1 _ ⟨g,o,λ_ z=>.inl z,λ_ _=>rfl⟩⟩
  ·simp only [Ab z] at h1; exact h1.elim
 | _=>exact h1.elim
noncomputable def Zj (c:Addr) (G:jy) (fr:wq):qZ:=λρ=>(fr ρ).bind λp=>match G (.ins c []::p.1) with
 | .ok (.non,q::_)=>.ok (q,p.2)
 | .exc x _=>.exc x p.2
 | _=>.bad
def YM (P:i7) (w:i8) (K:Frag) (mg:Str->Option iR) (base:Heap) (cv:Str->iR) (k:Nat) (c:Addr) (x:Str) (ps:List Str) (ms:List PM) (mr:Mo) (G:jy):Prop:=
 ∃ f fd,FnOk P w K mg base (CXk P w) k f fd ps (spD K cv ms mr G)/\Meth K c x f/\Binds K fd ps []
def qaA (P:i7) (w:i8) (K:Frag) (mg:Str->Option iR) (base:Heap) (cv:Str->iR) (k:Nat) (c:Addr) (ps:List Str) (ms:List PM) (G:jy):Prop:=
 ∃ f fd,FnOk P w K mg base (CXk P w) k f fd ps (spD K cv ms .sh G)/\Mk K c f/\Binds K fd ps []
noncomputable def qjg:List AK->Bool
 | []=>iT
 | .vl::l=>qjg l
 | _::_=>iS
theorem qg5 {K:Frag} {H0 F F' H H':Hp} {σ:St} (g:Same F F'):∀ {as:List AK} {vs:List V} {ds:List D},qjg as=iT->ArgV K H0 F H σ as vs ds->ArgsIs K F' H' (as.map xj) vs ds/\yA (as.map xj) vs=[]
 | [],[],[],_,_=>⟨trivial,rfl⟩
 | .vl::as,v::vs,d::ds,h,a=>by have j:=qg5 (H':=H') g (as:=as) h a.2;exact ⟨⟨a.1.mono g,j.1⟩,j.2⟩
 | [],_::_,_,_,a=>a.elim
 | [],[],_::_,_,a=>a.elim
 | .vl::_,[],_,_,a=>a.elim
 | .vl::_,_::_,[],_,a=>a.elim
 | .sl _::_,_,_,h,_=>by cases h
 | .fr::_,_,_,h,_=>by cases h
theorem qjh {x:Addr} {q:D} {os:List D} (h:uD K F H (.io::ms) (.ref x::vs) (q::os)):F x=iQ/\OwnIs K F H x q:=by obtain ⟨⟨a,e,h1,h2⟩,_⟩:=h;cases e;exact ⟨h1,h2⟩
theorem qaB {as:List AK} {fr:wq} {k j:Nat} {p:Pos} {G:jy} (MF:qaA X.prog X.w X.K X.mg X.base cv j c ps ms G) (hr:Room k X.A) (hj:j+1<=k) (hx:ky (CXk X.prog X.w) X C.E) (hg:Gl X x) (hm:X.mg x=iO (.ref c)) (ha:PA X (e::es) (tAr C own as fr)) (N:C.cv=cv:=by rfl) (S:C.K=X.K:=by rfl) (I:ms=.io::as.map xj:=by rfl) (hv:qjg as=true:=by rfl) (J:∀ i∈C.ox,i∈own:=by exact kj rfl)
  (L:Dbg x:=by decide) (he:iX (e::es) X.env=(iS,eval e X.env)::iX es X.env:=by exact jl rfl) (D:(li pos (iX es X.env)).any (·.1)=false:=by exact ug rfl):PE X (.Call (.Name x p) (e::es) [] pos) (tE C own .fr (Zj c G fr)):=by
 subst N;obtain ⟨f,fd,F0,M,O⟩:=MF;refine jz (qd1 M F0 (hr.mono hj) hg hm O .nil hx ha L he D) λσ H Q ⟨F,ρ,T,h⟩=>⟨F,ρ,T,?_⟩
 unfold Zj at h;cases u:fr ρ with
 | exc c=>rw [u] at h; exact h
 | bad=>rw [u] at h; exact h.elim
 | ok U=>
  rw [u] at h;obtain ⟨ds,ρ1⟩:=U;intro vs F1 H1 r c1 av x dx a l ne;rw [bv];have P:H x=none:=by
   cases q:H x with
   | none=>rfl
   | some o=>exact absurd a (c1.stay x (by rw [q]; simp))
  have nF:∀ {z:Addr},H1 z=iQ->F1 z=none:=λ{z} hz=>r.sub.free hz;have ex:(upd (upd H1 dx (.own x)) x (.ins c dx [])) x=iO (.ins c dx []):=qm;have c2:Chg No F1 H1 F1 (upd (upd H1 dx (.own x)) x (.ins c dx [])):=⟨λb o eb _=>by
    rw [qu (λz=>by rw [z,a] at eb; cases eb),qu (λz=>by rw [z,l] at eb; cases eb)]; exact eb,λb Z=>by
    by_cases z:b=x;·rw [z,ex]; simp
    ·rw [qu z];by_cases z2:b=dx;·rw [z2,qm]; simp
     ·rw [qu z2]; exact Z,Same.refl _,λb O=>.inl O⟩
  have s2:Same F1 (upd (upd H1 dx (.own x)) x (.ins c dx [])):=λb o eb=>by rw [qu (λz=>by rw [z,nF a] at eb; cases eb),qu (λz=>by rw [z,nF l] at eb; cases eb)]; exact r.sub b o eb
  obtain ⟨ar,le⟩:=qg5 (H':=upd (upd H1 dx (.own x)) x (.ins c dx [])) (Same.refl F1) hv av;have R:yA (PM.io::as.map xj) (V.ref x::vs)=[x]:=by show x::yA (as.map xj) vs=[x]; rw [le]
  subst I;refine ⟨F1,.ins c []::ds,s2,⟨⟨x,rfl,nF a,dx,[],ex,.nil⟩,by rw [<-S]; exact ar⟩,by rw [R]; simp,?_⟩;have n:∀ {F' H':Hp},Chg (LA (PM.io::as.map xj) (V.ref x::vs)) F1 (upd (upd H1 dx (.own x)) x (.ins c dx [])) F' H'->Chg No F1 H1 F' H':=λ{F' H'} g=>by
   have g:Chg (λz=>z=x) F1 (upd (upd H1 dx (.own x)) x (.ins c dx [])) F' H':=g.mono λz hz=>by have hz:z∈yA (PM.io::as.map xj) (V.ref x::vs):=hz;rw [R] at hz; simpa using hz
   exact c2.trans g λz hz=>.inr (by rw [hz]; exact a)
  have h:Po C own .fr σ F H (match G (.ins c []::ds) with | .ok (.non,q::_)=>.ok (q,ρ1) | .exc x _=>.exc x ρ1 | _=>.bad) Q:=h;cases t:G (.ins c []::ds) with
  | bad=>rw [t] at h; exact h.elim
  | exc y o=>rw [t] at h;exact λF' H' m g _=>h F' H' m ((r.grow (n g) m).ioIs J) (c1.trans' (n g).ofNo)
  | ok W=>
   rw [t] at h;obtain ⟨d,s⟩:=W;cases d with
   | non=>
    cases s with
    | nil=>exact h.elim
    | cons q os=>
     intro v F' H' m g Y mo;have B:v=.non:=by have mo:Is _ F' v .non:=mo;cases mo; rfl
     obtain ⟨fx,ow⟩:=qjh Y;refine ⟨B,h (.ref x) F' H' (r.grow (n g) m) (c1.trans' (n g).ofNo) ⟨x,rfl,P,fx,?_⟩⟩;rw [S]; exact ow
   | _=>exact h.elim
end
def gF (K:Frag) (c:Addr) (x qual:Str) (st:Stmt) (ps:List Str):Prop:=∃ f fd,Fun K x qual st f fd/\Meth K c x f/\Binds K fd ps []
def qeM (K:Frag) (c:Addr) (qual:Str) (st:Stmt) (ps:List Str):Prop:=∃ f fd,Fun K "__init__" qual st f fd/\Mk K c f/\Binds K fd ps []
section
variable {P:i7} {w:i8} {mg:Str->Option iR} {base:Heap} {qual:Str} {st:Stmt} {N:List Str} {k:Nat} {mr:Mo} {own':List Nat} {fb:qK}
theorem gG (T:gF K c x qual st ps) (S:FnScope N ps (qx st))
  (a:∀ (cdv:iR) (f:Addr) (A:j9) (outer:List Env) (s:iU) (H:Hp) (E:XK),Room k (A.deeper (mL qual (qx st) s.heap.objs.size f cdv)) ->PSs (cxk P w K mg base N qual (qx st) f cdv A outer s H E) (ka st) (tSt (qfG K cv E ms mr) (jZ 0 ms) own' fb))
  (hl:ms.length=ps.length:=by rfl) (g:∀ i∈Wv 0 ms,i∈own':=by exact kj rfl) (hmr:mr=.sh\/∀ ds ρ,(fb (qp N ds))≠.ok (.nx,ρ):=by exact .inl rfl):YM P w K mg base cv (k+1) c x ps ms mr (jN N ms fb):=by
 obtain ⟨f,fd,F,m,d⟩:=T;exact ⟨f,fd,qhW F S hl g hmr (λcdv A outer s H E h=>a cdv f A outer s H E h) λ_=>.inr rfl,m,d⟩
theorem qeN (T:qeM K c qual st ps) (S:FnScope N ps (qx st))
  (a:∀ (cdv:iR) (f:Addr) (A:j9) (outer:List Env) (s:iU) (H:Hp) (E:XK),Room k (A.deeper (mL qual (qx st) s.heap.objs.size f cdv)) ->PSs (cxk P w K mg base N qual (qx st) f cdv A outer s H E) (ka st) (tSt (qfG K cv E ms .sh) (jZ 0 ms) own' fb))
  (hl:ms.length=ps.length:=by rfl) (g:∀ i∈Wv 0 ms,i∈own':=by exact kj rfl):qaA P w K mg base cv (k+1) c ps ms (jN N ms fb):=by
 obtain ⟨f,fd,F,m,d⟩:=T;exact ⟨f,fd,qhW F S hl g (.inl rfl) (λcdv A outer s H E h=>a cdv f A outer s H E h) λ_=>.inr rfl,m,d⟩
end
section
theorem vr (h:X.N[i]?=iO x:=by rfl) (c:Vis X.env.scope x:=by first | exact br rfl | exact fP (br rfl) | exact fP (fP rfl)) (l:i∉own:=by decide) (hd:Dbg x:=by decide) (d:Cdk x:=by decide):PE X (.Name x pos) (tE C own .sh (qc i)):=qgq h c l hd d
end
theorem qg6 {f:qZ} {ρ ρ':Sl}:jq f ρ≠.ok (.nx,ρ'):=by
 unfold jq;cases f ρ with
 | ok p=>intro h; cases h
 | exc c o=>intro h; cases h
 | bad=>intro h; cases h
theorem gH (ks:List Int):∀ n,n<=ks.length->preSum (λi=>ks.getD i 0) n=(ks.take n).sum
 | 0,_=>rfl
 | n+1,h=>by
  have j:=gH ks n (by lia);show preSum (λi=>ks.getD i 0) n+ks.getD n 0=_;rw [j,List.take_add_one,iq];have:ks[n]?=iO (ks.getD n 0):=by rw [bT,aA (by lia)]; rfl
  rw [this];simp
theorem qdm:∀ (ks:List Int),(ks.all λk=>decide (0<=k/\k<=100000))=iT->0<=ks.sum/\ks.sum<=100000 * ks.length
 | [],_=>by simp
 | k::ks,h=>by rw [fC,aN] at h;have h1:=Ae h.1;have j:=qdm ks h.2;rw [hJ,ai];omega
noncomputable def VD (n:Nat) (fw fx:qZ):qK:=λρ=>(fw ρ).bind λp=>(fx p.2).bind λq=>match (q.2[n]?:Option (Option D)) with
 | some (iO (.dct kvs))=>(match Ww q.1 with
  | some k=>if kvs.length < sizeLine then .ok (.nx,q.2.set n (iO (.dct (vU kvs k p.1)))) else .bad
  | none=>.bad)
 | _=>.bad
section
variable {w ix:Expr} {fw fx:qZ} {mw mx:Mo} {p1 p2 p3:Pos}
theorem JN {n:Nat} (L:X.A.units+64 < lE) (t:X.N[n]?=iO x) (s:Vis X.env.scope x) (l:n∈own) (hw:PE X w (tE C own mw fw)) (hx:PE X ix (tE C own mx fx)) (e:mw≠.any:=by decide)
  (hd:Dbg x:=by decide) (i:Cdk x:=by decide) (hs:lK w (iO (.Subscript (.Name x p1) ix p2)) p3.line X.env=pure false:=by rfl) :
  PS X (.Assign [.Subscript (.Name x p1) ix p2] w p3) (tSt C own own (VD n fw fx)):=by
 refine Qy (qee (by lia) (wA t s hd i) hx (yu hw e) hs) λP σ H ⟨F,ρ,p,h⟩=>⟨F,ρ,p,PoS.bindE h λv F1 H1 d ρ1 b c1 c h1=>?_⟩
 have c:Is C.K F1 v d:=c;obtain ⟨D,g⟩:=b.opn n l;obtain ⟨a,e1,M,I⟩:=b.ow n D l g;refine ⟨_,e1,F1,ρ1,b,PoS.bindE h1 λJ E H2 B ρ2 r c2 m h2=>?_⟩;obtain ⟨d2,hd2⟩:=r.opn n l;obtain ⟨O,o,y,o2⟩:=r.ow n d2 l hd2;rw [e1] at o;cases o;simp only [hd2] at h2;cases d2 with
 | dct kvs=>
  cases q:Ww B with
  | none=>simp only [q] at h2; exact h2.elim
  | some k=>
   simp only [q] at h2;have f:=qiX m.top q;subst f;obtain ⟨kv,ex,j⟩:=o2;by_cases hz:kvs.length < sizeLine;·simp only [Aa hz] at h2;obtain ⟨r3,G⟩:=r.write (u:=.dK (Qx kv k v)) (d:=.dct (vU kvs k d)) l e1 ⟨_,qm,j.put (c.mono c2.grow)⟩;exact ⟨a,_,rfl,DPut.k ex (by rw [j.length]; exact hz),h2 σ E _ ⟨r3,G,λ_ z=>.inl z,λ_ _=>rfl⟩⟩
   ·simp only [Ab hz] at h2; exact h2.elim
 | _=>exact h2.elim
end
end L2.D2
namespace L2.D2
open PySem PySem.Spec PyProof.Rows PySem.W
variable {α:Type}
noncomputable def Uc:List (Key×α)->Option (List Str)
 | []=>iO []
 | (.inr x,_)::l=>(Uc l).map (x::·)
 | (.inl _,_)::_=>iQ
theorem YN:∀ {l:List (Key×α)} {ss:List Str},Uc l=iO ss->l.map (·.1)=ss.map ce
 | [],ss,h=>by cases h; rfl
 | (.inr x,_)::l,ss,h=>by obtain ⟨f,e,rfl⟩:=aQ.mp (show (Uc l).map (x::·)=iO ss from h);rw [aD,aD,YN e]
 | (.inl _,_)::_,ss,h=>by cases h
theorem IsK.keys {K:Frag} {F:Hp}:∀ {kv:List (Key×V)} {ks:List (Key×D)},IsK K F kv ks->kv.map (·.1)=ks.map (·.1)
 | _,_,.nil=>rfl
 | _,_,.cons h t=>by rw [aD,aD,IsK.keys t]
theorem KV.keys:∀ {kv:List (Key×V)} {vs:List (Key×iR)},KV kv vs->kv.map (·.1)=vs.map (·.1)
 | _,_,.nil=>rfl
 | _,_,.cons h t=>by rw [aD,aD,h.1,KV.keys t]
end L2.D2
namespace PySem.F
end PySem.F
namespace L2.D2
open PySem PySem.Spec PyProof.Rows PySem.W
end L2.D2
namespace L2.D2
open PySem PySem.Spec PyProof.Rows
noncomputable def JO:D->Out D
 | .lst ds=>(match JM ds with
  | some ks=>if ks.length<=1000/\(ks.all λk=>decide (0<=k/\k<=100000))=iT then .ok (.int ks.sum) else .bad
  | none=>.bad)
 | _=>.bad
section
variable {X:Cx} {C:Ct} {own:List Nat} {mb mx:Mo} {b ix:Expr} {fb:qZ} {pos apos cpos px:Pos}
theorem Ud (S:C.K=X.K) (R:X.calm=iT):zX X C .sh (.builtin "sum") JO:=by
 intro pins s σ H xs us Q I r h;obtain ⟨x,F,dx,rfl,G,L,po⟩:=h;cases dx with
 | lst ds=>
  obtain ⟨u,rfl,N⟩:=uP r;obtain ⟨a,vs,rfl,hq,O⟩:=L.lst G;cases N;rw [S] at hq;obtain ⟨its,M,p,hz⟩:=I.list hq;have pl:s.heap.IsList a its.toArray:=by obtain ⟨o,n,f,P,_,w⟩:=p;exact ⟨o,f,P,n,w⟩
  cases e:JM ds with
  | none=>have po:PoV C .sh F H (match JM ds with | some ks=>if ks.length<=1000/\(ks.all λk=>decide (0<=k/\k<=100000))=iT then .ok (.int ks.sum) else .bad | none=>.bad) Q:=po;rw [e] at po; exact po.elim
  | some ks=>
   have po:PoV C .sh F H (match JM ds with | some ks=>if ks.length<=1000/\(ks.all λk=>decide (0<=k/\k<=100000))=iT then .ok (.int ks.sum) else .bad | none=>.bad) Q:=po;rw [e] at po;by_cases m:ks.length<=1000/\(ks.all λk=>decide (0<=k/\k<=100000))=iT
   ·have po:PoV C .sh F H (if ks.length<=1000/\(ks.all λk=>decide (0<=k/\k<=100000))=iT then .ok (.int ks.sum) else .bad) Q:=po;rw [Aa m] at po;have st:=qeL O M e;have d:a < s.heap.objs.size:=let ⟨o,f,_⟩:=pl; aq f;have J:its.length=ks.length:=st.length;refine call_sum_walk (mm (show s.heap.IsList a its.toArray from pl) ?_);refine ⟨s.heap.objs.size,_,_,_,_,_,λi=>ks.getD i 0,rfl,iN (A:=X.A.in1) (I.ok.hd R) _ a (ay d) its.toArray,⟨⟨_,ah _ rfl,rfl,rfl⟩,?_⟩,?_,λi v ev=>?_,λj D=>?_,λh' tk t' kp=>?_⟩;·obtain ⟨o,e,c⟩:=pl;exact ⟨o,ac _ e,c⟩
    ·intro z b;rw [bf];simp only [af,bG,or_false] at b;rcases b with rfl | rfl;·exact fA _
     ·exact dJ d
    ·obtain ⟨y,t,e1,T⟩:=st.item i v (by simpa using ev);exact ⟨t,by rw [e1]; show fz y t=fz (ks.getD i 0) t; rw [bT,T]; rfl⟩
    ·rw [au,J] at D;have l:=m.2;rw [aJ] at l;have h1:=Ae (l (ks.getD j 0) (by rw [bT,aA D]; exact bZ D));have h2:=qdm (ks.take (j+1)) (aJ.mpr λk g=>l k (List.mem_of_mem_take g));have h3:(ks.take (j+1)).length<=1000:=by rw [bX]; lia
     have E:=gH ks (j+1) D;refine ⟨⟨by show (-2 ^ 63:Int)<=ks.getD j 0; lia,by show ks.getD j 0 < (2 ^ 63:Int); lia⟩,?_⟩;rw [E];exact ⟨by lia,by lia⟩
    ·have U:Inv X pins σ H { s with heap:=h',toks:=tk }:=I.kept (t':=tk) λz o B=>kp z o (λq=>by rw [ax.mp q] at B;exact bM _ (aq B)) (ac _ B);have E:preSum (λi=>ks.getD i 0) its.toArray.size=ks.sum:=by rw [au,J,gH ks _ (ap _),ia]
     exact ⟨.int ks.sum,H,U,⟨t',by rw [E]⟩,po _ F H G .refl (.int _)⟩
   ·have po:PoV C .sh F H (if ks.length<=1000/\(ks.all λk=>decide (0<=k/\k<=100000))=iT then .ok (.int ks.sum) else .bad) Q:=po;rw [Ab m] at po; exact po.elim
 | _=>exact po.elim
end
open PySem.SeqAt
open AutoSeq1 (wpAny_loadPart')
open MeetsSeq MeetsSeq2 MeetsSeq3
end L2.D2
namespace L2.D2
open PySem PySem.Spec PyProof.Rows
open PySem.SeqAt
end L2.D2
namespace L2.D2
open PySem PySem.Spec PyProof.Rows
open AutoSeq1 (wpAny_loadPart')
theorem qaC (l:Addr) (items:Array iR) (n:Nat) (dct:Option Addr) (sl:Array (Option iR)):Meets (Builtin.«enumerate.__new__» ⟨[.type "enumerate",.ref l],[]⟩) (λ_ R s=>s.heap.get? l=iO { cls:=.type "tuple",dict:=dct,data:=.seq items n,slots:=sl } /\
   R (.ok (.ret (.ref (s.heap.push { cls:=.type "tuple_iterator",data:=.fields #[.ref l,.int 0 0] }).objs.size)))
    { s with heap:=(s.heap.push { cls:=.type "tuple_iterator",data:=.fields #[.ref l,.int 0 0] }).push { cls:=.type "enumerate",data:=.fields #[.none,.bool iS,.ref s.heap.objs.size,lb 0,.none,.none] } }):=
 .of_wp λprog w A R s h=>by
  obtain ⟨hp,g,d,tk,os⟩:=s; obtain ⟨hl,h⟩:=h;have b:=sub_enumerate;have a:Heap.IsTuple (iL ⟨hp,g,d,tk,os⟩) l items:=⟨_,hl,rfl,n,rfl⟩
  wp_walk using mM hl
  refine wpAny_stack_any λst=>iV ?_;split
  ·rename_i c _ _ _ _ _;cases (c == dN "enumerate")
   ·wp_walk using mM hl,lU a
    exact ⟨_,rfl,h⟩
   ·wp_walk using mM hl,lU a
    exact ⟨_,rfl,h⟩
  ·wp_walk using mM hl,lU a
   exact ⟨_,rfl,h⟩
variable {s:iU} {l:Addr} {items:Array iR}
theorem uB {prog:i7} {w:i8} {A:j9} {E:iR->iU->Prop} {Q:iR->iU->Prop} (a:s.heap.IsTuple l items)
  (h:∀ h',IsEnum h' (s.heap.objs.size+1) s.heap.objs.size 0 .none->h'.IsTupleIter s.heap.objs.size l 0->h'.objs.size=s.heap.objs.size+2 ->(∀ b o,s.heap.get? b=iO o->h'.get? b=iO o)->Q (.ref (s.heap.objs.size+1)) { s with heap:=h' }) :
  iW (model prog w) A (call (.type "enumerate") [.ref l]) Q E s:=by
 obtain ⟨⟨c,dct,t,sl⟩,hl,d,n,hd⟩:=a;replace d:c=.type "tuple":=d;replace hd:t=.seq items n:=hd;subst d hd;refine callType_new F.called_enumerate (by decide) (F.typeCall_enumerate_1 _) (F.newCall_enumerate_1 _) (λobj=>F.args_object_init_2 obj _) F.entry_enumerate_new (qaC l items n dct sl) ⟨hl,?_⟩;have hz:(s.heap.push { cls:=.type "tuple_iterator",data:=.fields #[.ref l,.int 0 0] }).objs.size=s.heap.objs.size+1:=bf ..;show _/\_;rw [hz];have i:IsEnum ((s.heap.push { cls:=.type "tuple_iterator",data:=.fields #[.ref l,.int 0 0] }).push { cls:=.type "enumerate",data:=.fields #[.none,.bool iS,.ref s.heap.objs.size,lb 0,.none,.none] }) (s.heap.objs.size+1) s.heap.objs.size 0 .none:=by have:=ah (s.heap.push { cls:=.type "tuple_iterator",data:=.fields #[.ref l,.int 0 0] }) (o:={ cls:=.type "enumerate",data:=.fields #[.none,.bool iS,.ref s.heap.objs.size,lb 0,.none,.none] }) rfl;rw [hz] at this; exact this
 exact ⟨⟨_,i,rfl⟩,h _ i ⟨_,ac _ (ah _ rfl),rfl,rfl⟩ (by rw [bf,hz]) λb o x=>ac _ (ac _ x)⟩
theorem Zk {prog:i7} {w:i8} {A:j9} {E:iR->iU->Prop} {k:SK} {Q:iR->iU->Prop} (L:SeqK s.heap l k items)
  (h:∀ h',IsEnum h' (s.heap.objs.size+1) s.heap.objs.size 0 .none->ItK h' s.heap.objs.size l k 0->(∀ b o,s.heap.get? b=iO o->h'.get? b=iO o)->Q (.ref (s.heap.objs.size+1)) { s with heap:=h' }) :
  iW (model prog w) A (call (.type "enumerate") [.ref l]) Q E s:=by
 cases k with
 | l=>exact call_enumerate_list L λh' a b _ c=>h h' a b c
 | t=>exact uB L λh' a b _ c=>h h' a b c
variable {K:Frag} {a:Addr} {xs:List V}
theorem YO {H H':Hp} (e:Same H H'):∀ {k:SK},SqK K H a k xs->SqK K H' a k xs
 | .l,p=>e.seq p
 | .t,p=>jg e p
noncomputable def qih (k:SK) (K:Frag) (a:Addr) (xs:List V):It:=
 ⟨λi H=>i < xs.length/\SqK K H a k xs,λi H v H'=>∃ x p,xs[i]?=iO x/\H p=iQ/\v=.ref p/\H'=upd H p (.tup [.int (i:Nat),x]),λi H=>xs.length<=i/\SqK K H a k xs⟩
theorem Zl {P:i7} {w:i8} {K:Frag} {k:SK} {y:List Expr} {B} {pos:Pos} (b a:Nat) (xs:List V) (h1:a < b):Turn P w K (.Tuple y B pos) (qih k K a xs) [b+1,b] (b+1) (λi h=>(∃ old,IsEnum h (b+1) b i old)/\ItK h b a k i/\i<=xs.length) where
 mem:=by simp
 obj:=λi h st c d=>by
  obtain ⟨⟨old,g⟩,hit,Q⟩:=st;obtain ⟨o,t,l,hd⟩:=hit.obj;simp only [af,bG,or_false] at d;rcases d with rfl | rfl;·exact ⟨_,g,λv z=>by cases z⟩
  ·exact ⟨o,t,λv z=>by rw [hd] at z; cases z⟩
 keep:=λi h h' st k=>by obtain ⟨⟨old,g⟩,hit,Q⟩:=st;obtain ⟨o,t,l,hd⟩:=hit.obj;exact ⟨⟨old,k _ (by simp) _ g⟩,.of ⟨o,k _ (by simp) _ t,l,hd⟩,Q⟩
 item:=by
  intro X L hw M d i pins s σ H E I u st hg;subst L hw M;obtain ⟨⟨old,g⟩,hit,Q⟩:=st;obtain ⟨hl,q⟩:=hg;obtain ⟨its,Z,n,r,e0,R,_,O,_⟩:=Vu I q;have pl:=SeqK.of e0 O R;have hi:i < its.length:=by rw [<-r.length]; exact hl
  have hx:its.toArray[i]?=iO its[i]:=by simp [hi]
  have G:a≠b:=ay h1;refine wpAny_pyNext_enum_itemD (YG (A:=X.A.in1) (I.ok.hd d) k b a G its.toArray) g ⟨hit,pl⟩ (by simpa using hi) (Nat.succ_ne_self b) (by
   intro z;simp only [af,bG,or_false] at z;have h1:@LT.lt Nat _ a b:=h1;rcases z with z | z
   ·have z:@Eq Nat _ _:=z
    lia
   ·have z:@Eq Nat _ _:=z
    lia) λB h' tk f F D W hz kp=>?_
  have N:B=its[i]:=by have f:its.toArray[i]?=iO B:=f;rw [hx] at f;exact (aM.inj f).symm
  subst N;refine ⟨_,rfl,wpAny_letOwnedTupleGo_enum F λhq e2 p=>?_⟩;obtain ⟨x,ex,Y⟩:=gt r (aA hi);have hT:H s.heap.objs.size=none:=I.hok.fresh (ap _);have C:b+1 < s.heap.objs.size:=aq g;have T:∀ c∈[b+1,b],c≠s.heap.objs.size:=λc d=>by
   simp only [af,bG,or_false] at d;have lt':b+1 < s.heap.objs.size:=C;generalize s.heap.objs.size=m at lt';intro z
   lia
  have I1:Inv X pins σ (upd H s.heap.objs.size (.tup [.int (i:Nat),x])) { s with heap:=s.heap.push { cls:=.type "tuple",data:=.seq #[.int i tk,its[i]] } }:=
   I.laid (t':=s.toks) (λ_ _ e=>ac _ e) (ap _) ⟨⟨by simp only [ai,be]; rw [i9]; decide,_,ah _ rfl,rfl⟩,[.int i tk,its[i]],.cons ⟨_,rfl⟩ (.cons Y .nil),⟨_,ah _ rfl,rfl,_,rfl⟩⟩
  have I2:Inv X pins σ (upd H s.heap.objs.size (.tup [.int (i:Nat),x])) { s with heap:=hq,toks:=tk+1 }:=by
   refine qaf (s:={ s with heap:=s.heap.push { cls:=.type "tuple",data:=.seq #[.int i tk,its[i]] } }) (ch:=[b+1,b]) I1 (λc o j e=>?_) λc d=>⟨by rw [qu (T c d)]; exact (u c d).1,(u c d).2⟩
   simp only [af,bG,or_false,not_or] at j;rw [p.2 c j.1];by_cases S:c=s.heap.objs.size;·subst S;have U:(s.heap.push ({ cls:=.type "tuple",data:=.seq #[.int i tk,its[i]] }:Obj)).get? s.heap.objs.size=iO { cls:=.type "tuple",data:=.seq #[.int i tk,its[i]] }:=ah _ rfl;rw [show (s.heap.push ({ cls:=.type "tuple",data:=.seq #[.int i tk,its[i]] }:Obj)).get? s.heap.objs.size=iO o from e] at U;rw [U];exact W
   ·have e4:s.heap.get? c=iO o:=by have:=e;rwa [show (s.heap.push ({ cls:=.type "tuple",data:=.seq #[.int i tk,its[i]] }:Obj)).get? c=s.heap.get? c from fX _ _ _ S] at this
    exact kp c o j.1 j.2 e4
  refine ⟨.ref s.heap.objs.size,_,I2,rfl,⟨x,_,ex,hT,rfl,rfl⟩,⟨⟨_,by simpa using e2⟩,?_,hl⟩,λc d=>by rw [qu (T c d)]; exact (u c d).1⟩;obtain ⟨o,t,l,hd⟩:=D.1.obj;exact .of ⟨o,(p.2 _ (Nat.succ_ne_self b).symm).trans t,l,hd⟩
 done:=by
  intro X L hw M d i pins s σ H E I u st hg;subst L hw M;obtain ⟨⟨old,g⟩,hit,Q⟩:=st;obtain ⟨hl,q⟩:=hg;obtain ⟨its,Z,n,r,e0,R,_,O,_⟩:=Vu I q;have pl:=SeqK.of e0 O R;have J:i=its.toArray.size:=by rw [au,<-r.length];exact Nat.le_antisymm Q hl
  subst J;refine wpAny_pyNext_enum_endD (YG (A:=X.A.in1) (I.ok.hd d) k b a (ay h1) its.toArray) g ⟨hit,pl⟩ λh' ex=>⟨rfl,qaf (t':=s.toks) (ch:=[b+1,b]) I (λc o j e=>?_) u⟩
  simp only [af,bG,or_false,not_or] at j;exact ex c o j.2 e
 self:=λ_ _ _ _ _ st h=>wpAny_pyIter_enum st.1.choose_spec h
theorem qeO {k:SK} {F:Hp} {ds:List D} (p:SqK K F a k xs) (t:IsL K F xs ds):ItIs K F (qih k K a xs) (VC ds) where
 go:=λi H hi s=>by unfold VC at hi;rw [am,List.length_zipIdx] at hi;exact ⟨by rw [t.length]; exact hi,YO s p⟩
 yld:=λi Fi H v H' d e s1 s2 y=>by
  obtain ⟨x,q,hx,n,rfl,rfl⟩:=y;obtain ⟨d1,e1,i1⟩:=t.get hx;have o:d=.tup [.int (i:Nat),d1]:=by unfold VC at e;rw [aF,List.getElem?_zipIdx,e1] at e;simpa using e.symm
  subst o;obtain ⟨g1,Y⟩:=vW (u:=.tup [.int (i:Nat),x]) s2 n;exact ⟨_,Y,g1,.tup (.of qm) (.cons (.int _) (.cons ((i1.mono s1).mono Y.grow) .nil))⟩
 stop:=λi H hi s=>by unfold VC at hi;rw [am,List.length_zipIdx] at hi;exact ⟨by rw [t.length]; exact hi,YO s p⟩
section
variable {X:Cx} {C:Ct} {own:List Nat} {a:Expr} {fa:qZ} {ma:Mo} {pos:Pos}
theorem qcv {k:SK} {ta:TA} {p tpos:Pos} {y:List Expr} {x1} (hg:Gl X "enumerate") (f:X.mg "enumerate"=iQ) (g:PA X [a] ta) (hs:iX [a] X.env=[(iS,eval a X.env)]):PI X (.Tuple y x1 tpos) (.Call (.Name "enumerate" p) [a] [] pos) (λσ H R=>ta σ H λvs H1=>∃ m xs,vs=[.ref m]/\SqK X.K H1 m k xs/\R (qih k X.K m xs) H1):=by
 refine ⟨?_⟩;intro pins s σ H R I h;refine Call_ (yn I hg f qav (bA (thn (g pos pins s σ H _ I h) λus s1 ⟨vs,H1,d,r1,e⟩=>?_) hs rfl));obtain ⟨m,xs,rfl,w,q⟩:=e;obtain ⟨u,rfl,e1⟩:=uP r1;cases e1;obtain ⟨its,W,n,v,e0,M,_,j,_⟩:=Vu d w;have pl:=SeqK.of e0 j M;have t:m < s1.heap.objs.size:=pl.lt;refine Zk pl λh' i hit kp=>?_;refine wpAny_pyIter_enum i ?_;refine ⟨s1.heap.objs.size+1,_,_,qih k X.K m xs,H1,rfl,d.kept (t':=s1.toks) kp,Zl s1.heap.objs.size m xs t,⟨⟨_,i⟩,hit,bi _⟩,λb c=>?_,q⟩;have Q:s1.heap.objs.size<=b:=by
  simp only [af,bG,or_false] at c;rcases c with rfl | rfl;·exact dX _ _
  ·exact ap _
 exact d.fpOk Q (d.hok.fresh Q)
theorem YQ {p tpos:Pos} {y:List Expr} {x1} (m:C.K=X.K) (hg:Gl X "enumerate") (e:X.mg "enumerate"=iQ) (g:PE X a (tE C own ma fa)) (h1:ma≠.any:=by decide) (hs:iX [a] X.env=[(iS,eval a X.env)]:=by exact qE rfl):PI X (.Tuple y x1 tpos) (.Call (.Name "enumerate" p) [a] [] pos) (tIt C own (qaw fa)):=by
 refine qb8 (qcv (k:=.l) hg e (qJ (yu g h1) jK hs) hs) λσ H R ⟨F,ρ,b,h⟩=>⟨F,ρ,b,PoI.bindV h λv F1 H1 d ρ1 r c1 c h1=>?_⟩
 have c:Is C.K F1 v d:=c;cases c with
 | lst p t=>exact ⟨_,_,rfl,by rw [<-m]; exact r.sub.seq p,by rw [<-m]; exact h1 _ F1 H1 r c1 (qeO (k:=.l) p t)⟩
 | _=>exact h1.elim
end
end L2.D2
namespace L2.D2
open PySem PySem.Spec PyProof.Rows
section
variable {X:Cx} {C:Ct} {own:List Nat} {m ma mb:Mo} {a b e:Expr} {fa fb fe:qZ} {apos cpos px:Pos}
noncomputable def qii (y:Str):iR->Bool
 | .str x _=>x.cps.toList == y.cps.toList
 | _=>iS
theorem qdn {y:Str}:∀ (ss:List Str) (its:List iR),Vals (ss.map V.str) its->y∈ss->∃ j,∃ D:j < its.length,qii y its[j]=iT/\(∀ m (c:m < its.length),m < j->qii y its[m]=iS)/\Vals ((ss.erase y).map V.str) (its.eraseIdx j)
 | x::ss,u::its,.cons r rs,hy=>by
  obtain ⟨t,rfl⟩:=(show ∃ t,u=dE x t from r)
  by_cases q:x=y;·subst q;refine ⟨0,by simp,by simp [qii],λm c h=>absurd h (d9 _),?_⟩;rw [List.erase_cons_head];exact rs
  ·obtain ⟨j,D,h1,h2,h3⟩:=qdn ss its rs ((af.mp hy).resolve_left λz=>q z.symm);refine ⟨j+1,by simp; omega,h1,λm c h=>?_,?_⟩
   ·cases m with
    | zero=>show (x.cps.toList == y.cps.toList)=iS;refine beq_eq_false_iff_ne.mpr λz=>q ?_;obtain ⟨x⟩:=x;obtain ⟨y⟩:=y;have z:x.toList=y.toList:=z;rw [cz.mp z]
    | succ m=>exact h2 m (by simpa using c) (by omega)
   ·rw [List.erase_cons_tail (by simpa using q)];exact .cons ⟨t,rfl⟩ h3
def qji:V->List V->Hp->VK->Prop:=λx vs H Q=>∃ (l:Addr) (ss:List Str) (y:Str),x=.ref l/\vs=[.str y]/\H l=iO (.lst (ss.map V.str))/\y∈ss/\Q .non (upd H l (.lst ((ss.erase y).map V.str)))
theorem qg7:MtM X "list.remove" qji:=by
 intro pins s σ H x vs v us Q I d g h;obtain ⟨l,ss,y,rfl,rfl,c,B,q⟩:=h;cases d;obtain ⟨u,rfl,A⟩:=g.one;obtain ⟨t,rfl⟩:=A;obtain ⟨z,its,n,r,hl,e⟩:=I.lstM c;obtain ⟨j,D,h1,h2,h3⟩:=qdn ss its r B;refine lT PySem.F.slot_list_remove ⟨_,e,rfl⟩ PySem.F.entry_list_remove (PySem.F.args_list_remove_2 _ _)
  (MeetsSeq.list_remove l its.toArray n (.str y t) (qii y) (λw hw=>?_) j (by simpa using D) (by simpa using h1) (λm k b=>by simpa using h2 m (by simpa using k) b) (by rw [au]; lia)) ⟨e,?_⟩
 ·obtain ⟨i,hi,rfl⟩:=dQ.mp (show w∈its by simpa using hw);obtain ⟨x,ex,d⟩:=Vals.getE r hi;rw [aF] at ex;obtain ⟨f,_,rfl⟩:=aQ.mp ex;obtain ⟨t',o⟩:=(show ∃ t,its[i]=dE f t from d)
  rw [o];exact SeqRoads2.EqGives.str _ _ _ _
 ·refine ⟨.non,_,I.lset (its':=its.eraseIdx j) c e ?_ h3 ?_,rfl,q⟩;·show its.toArray.eraseIdxIfInBounds j=(its.eraseIdx j).toArray;rw [List.eraseIdxIfInBounds_toArray]
  ·have:=List.length_erase_le (a:=y) (l:=ss);rw [am] at z ⊢
   lia
noncomputable def qeP (ds:List D) (d:D):Out (List D):=match xo ds,d with
 | some ss,.str y=>if y∈ss then .ok ((ss.erase y).map D.str) else .bad
 | _,_=>.bad
theorem qg8 {K:Frag} {F:Hp} {vs:List V} {ds:List D} {ss:List Str} (l:IsL K F vs ds) (e:xo ds=iO ss):vs=ss.map V.str/\∀ x∈ss,x.length<=sizeLine:=by
 induction ds generalizing vs ss with
 | nil=>cases l;cases e;exact ⟨rfl,λx h=>nomatch h⟩
 | cons d ds j=>
  cases l with
  | cons i l=>
   cases d with
   | str x=>
    obtain ⟨s2,q,rfl⟩:=aQ.mp (show (xo ds).map (x::·)=iO ss from e);obtain ⟨h1,h2⟩:=j l q;cases i with
    | str hz=>exact ⟨by rw [h1]; rfl,λy B=>(af.mp B).elim (λz=>z ▸ hz) (h2 y)⟩
   | _=>cases e
theorem qaD {i:Nat} {x:Str} {px apos cpos:Pos} (r:X.N[i]?=iO x) (n:Vis X.env.scope x) (o:i∈own) (p:PE X e (tE C own m fe)) (j:m≠.any:=by decide)
  (hd:Dbg x:=by decide) (f:Cdk x:=by decide)
  (c:lg (.Name x px) "remove" X.env (eval (.Name x px) X.env)=eval (.Name x px) X.env:=by rfl)
  (w:((li cpos (iX [e] X.env)).all (λx=>!x.1)&&(lW cpos (lr [] X.env)).all (λx=>x.1.isSome)
   && decide ([e].length+([]:List lI).length+(if ([]:List lI).isEmpty then 0 else 1) < 30))=true:=by exact uh rfl)
  (b:(apos.endLine == cpos.line)=true:=by rfl) (hs:iX [e] X.env=[(iS,eval e X.env)]:=by exact qE rfl) :
  PE X (.Call (.Attribute (.Name x px) "remove" apos) [e] [] cpos) (tE C own .sh (JD i qeP fe)):=by
 refine jz (Gb eI PySem.F.slot_list_remove PySem.F.type_list_remove qg7 (wA r n hd f) (qJ (yu p j) jK hs) c w b hs rfl) λσ H Q h=>?_;have q:∀ (a:Addr) (xs:List V) (ds ys:List D) (v:V) (d:D) (F H:Hp),Same F H->H a=iO (.lst xs)->F a=iQ->IsL C.K F xs ds->Is C.K F v d->qeP ds d=.ok ys->(∀ zs,IsL C.K F zs ys->Q .non (upd H a (.lst zs)))->qji (.ref a) [v] H Q:=λa xs ds ys v d F H t s u ix l g k=>by
  unfold qeP at g;split at g
  ·rename_i ss y e1;split at g;·rename_i B;cases g;cases l;obtain ⟨hx,hl⟩:=qg8 ix e1;subst hx;exact ⟨a,ss,y,rfl,rfl,s,B,k _ (zG λz hz=>hl z (fq hz))⟩
   ·cases g
  ·cases g
 obtain ⟨a,xs,h1,h2,k⟩:=Yt (R:=λx v H Q=>qji x [v] H Q) o j q h;exact ⟨.ref a,h1,.inl ⟨rfl,xs,.inl (.inl h2)⟩,k⟩
theorem qg9 {o e:Expr} {to:TE} {t:TA} {name:Str} {id:String} {r:V->List V->Hp->VK->Prop} (slot:Slot "tuple" name id) (y:typeOf (.builtin id)=pure (.type "method_descriptor")) (m:MtR X id r) (l:PE X o to) (i:PA X [e] t)
  (c:lg o name X.env (eval o X.env)=eval o X.env)
  (w:((li cpos (iX [e] X.env)).all (λx=>!x.1)&&(lW cpos (lr [] X.env)).all (λx=>x.1.isSome)
   && decide ([e].length+([]:List lI).length+(if ([]:List lI).isEmpty then 0 else 1) < 30))=iT)
  (b:(apos.endLine == cpos.line)=iT) (hs:iX [e] X.env=[(iS,eval e X.env)]) :
  PE X (.Call (.Attribute o name apos) [e] [] cpos) (λσ H Q=>to σ H λx H1=>(∃ p xs,x=.ref p/\SqT X.K H1 p xs)/\t σ H1 λxs H2=>r x xs H2 Q):=by
 refine ⟨?_⟩;intro pins s σ H Q I h;refine wpAny_Call_method_late c w b rfl (thn (l pins s σ H _ I h) λv s1 ⟨x,H1,d,r1,ty,f⟩=>?_);obtain ⟨p,xs,rfl,hq⟩:=ty;cases r1;obtain ⟨o',e1,j⟩:=d.tupleN hq;obtain ⟨its,n,⟨o2,E,g,_⟩,_⟩:=d.tuple hq;refine ⟨"tuple",id,PySem.F.plainAttrs_tuple,slot,y,⟨o2,E,g⟩,λa z=>by cases z; exact ⟨o',e1,j⟩,?_⟩;have hA:=i cpos pins s1 σ H1 _ d f;rw [hs] at hA ⊢;refine dm rfl (dP ?_);exact thn hA λus s2 ⟨vs,H2,k,r2,q⟩=>m pins s2 σ H2 (.ref p) vs _ us Q k rfl r2 q
noncomputable def qfN:D->Bool
 | .tup _=>iT
 | _=>iS
noncomputable def uG:D->D->Out D
 | .tup ds,e=>match QR 7 e ds with
  | some _=>.ok (.int ((ds.map λd=>eqN 7 d e == iO iT).countP id:Nat))
  | none=>.bad
 | _,_=>.bad
theorem qaE (E:C.K=X.K) (B:X.A.units+64 < lE):MtD X C .sh "tuple.count" uG:=by
 intro pins s σ H x vs v us Q I k m h;obtain ⟨y,F,dx,g,rfl,f,i,ty,po⟩:=h;rw [E] at i ty;obtain ⟨u,rfl,q⟩:=m.one;unfold uG at po;cases dx <;> try exact po.elim
 rename_i ds;cases e:QR 7 g ds with
 | none=>simp only [e] at po; exact po.elim
 | some b=>simp only [e] at po;obtain ⟨F',g',c,z⟩:=ty.is f;obtain ⟨a,xs,rfl,p,l⟩:=i.tup f;cases k;obtain ⟨its,r,pl,hz⟩:=I.tuple p;obtain ⟨h1,h2⟩:=Vc (A:=X.A) (y:=.non) (a:=a) (u:=.none) I B c z q (l.mono g') r e;have D:=qap I c (l.mono g') r e;obtain ⟨⟨cls,dd,data,sl⟩,o,j,n,t⟩:=pl;simp only at j t;subst j t;refine lT PySem.F.slot_tuple_count ⟨_,o,rfl⟩ PySem.F.entry_tuple_count (PySem.F.args_tuple_count_2 _ _) (SeqAt.tuple_countAt a _ n dd sl u (ZH X F' 7 g)) ⟨o,λw hw=>h2 w hw,?_⟩;refine ⟨.int ((ds.map λd=>eqN 7 d g == iO iT).countP id:Nat),H,I.tok _,⟨s.toks,?_⟩,po _ F H f .refl (.int _)⟩;rw [<-D,List.countP_map];rfl
theorem qaF (m:C.K=X.K) (u:X.A.units+64 < lE)
  (i:PE X a (tE C own ma fa)) (g:PE X b (tE C own mb fb)) (f:ma≠.any:=by decide)
  (c:lg a "count" X.env (eval a X.env)=eval a X.env:=by rfl)
  (w:((li cpos (iX [b] X.env)).all (λx=>!x.1)&&(lW cpos (lr [] X.env)).all (λx=>x.1.isSome)
   && decide ([b].length+([]:List lI).length+(if ([]:List lI).isEmpty then 0 else 1) < 30))=true:=by exact uh rfl)
  (e:(apos.endLine == cpos.line)=true:=by rfl) (hs:iX [b] X.env=[(iS,eval b X.env)]:=by exact qE rfl) :
  PE X (.Call (.Attribute a "count" apos) [b] [] cpos) (tE C own .sh (dM qfN uG fa fb)):=by
 refine jz (qg9 PySem.F.slot_tuple_count PySem.F.type_tuple_count (qaE m u) i (qJ g jK hs) c w e hs) λσ H Q h=>?_;obtain ⟨F,ρ,p,h⟩:=Ub (ma:=ma) (mb:=mb) f h;refine ⟨F,ρ,p,Po.imp h λx H1 h1=>?_⟩;obtain ⟨⟨F1,dx,s,d,k⟩,h2⟩:=h1;refine ⟨?_,?_⟩
 ·cases dx <;> try (cases k; done)
  obtain ⟨a,vs,rfl,hq,t⟩:=d.tup s;exact ⟨a,vs,rfl,by rw [<-m]; exact hq⟩
 ·obtain ⟨j,ρ2,r,h2⟩:=h2;exact ⟨j,ρ2,r,Po.imp h2 λy H2 q=>⟨y,q.choose,q.choose_spec.choose,q.choose_spec.choose_spec.choose,rfl,q.choose_spec.choose_spec.choose_spec⟩⟩
end
end L2.D2
namespace L2.D2
open PySem PySem.Spec PyProof.Rows PySem.W
variable {N:Nat} {s:iU}
theorem qdo {cmp:Nat->Nat->(Bool->iU->Prop)->iU->Prop} {Q:Nat->iU->Prop} (d:∀ i,i+1 < N->∀ C:Bool->iU->Prop,C iS s->cmp (i+1) i C s):∀ (f n:Nat),1<=n->n+f<=N->Q (n+f) s->(kas_asc (dY (aK N)) f n).kasWp cmp Q s
 | 0,n,_,_,h=>h
 | f+1,n,h1,h2,h=>by
  obtain ⟨m,rfl⟩:∃ m,n=m+1:=⟨n - 1,by lia⟩
  have e1:(dY (aK N)).getD (m+1) 0=m+1:=by simp [Array.getD,show m+1 < N by lia]
  have e:(dY (aK N)).getD (m+1 - 1) 0=m:=by simp [Array.getD,show m < N by lia]
  show cmp ((dY (aK N)).getD (m+1) 0) ((dY (aK N)).getD (m+1 - 1) 0) _ s;rw [e1,e];refine d m (by lia) _ ?_;have h:Q (m+1+1+f) s:=by rw [show m+1+1+f=m+1+(f+1) by lia]; exact h
  exact qdo d f (m+1+1) (by lia) (by lia) h
theorem qeQ {cmp:Nat->Nat->(Bool->iU->Prop)->iU->Prop} {G:Array Nat->iU->Prop} (a:1<=N) (d:∀ i,i+1 < N->∀ C:Bool->iU->Prop,C iS s->cmp (i+1) i C s) (h:G (dY (aK N)) s):(kas_sort N).kasWp cmp G s:=by unfold kas_sort kas_count;rw [KasT.kasWp_bind,KasT.kasWp_bind];refine qdo d (N - 1) 1 (ap _) (by lia) ?_;rw [show 1+(N - 1)=N by lia,Aa (by simp)];show (if N < N then _ else KasT.ret _:KasT (Array Nat)).kasWp cmp G s;rw [Ab (bM _)];exact h
section
variable {prog:i7} {w:i8} {A:j9} {E:iR->iU->Prop}
theorem JP {a:Addr} {vs:List iR} {n:Nat} {P:PySem.Fin->iU->Prop} (l:s.heap.get? a=iO (lC "list" vs.toArray n)) (j:vs.length < 64)
  (k:2<=vs.length->∀ h':Heap,(∀ b o,b≠a->s.heap.get? b=iO o->h'.get? b=iO o)->∃ κ,(∀ Q:SortKind->iU->Prop,Q κ { s with heap:=h' }->iW (model prog w) A (keyKind' vs.toArray) Q (λ_ _=>False) { s with heap:=h' })/\∀ i,i+1 < vs.length->∀ C:Bool->iU->Prop,C iS { s with heap:=h' }->kas_ask prog w A κ vs (i+1) i C { s with heap:=h' })
  (h:P (.done (.ret .none)) { s with heap:=sortedHeap s.heap a vs vs.toArray }) :
  iW (model prog w) A (Builtin.«list.sort» ⟨[.ref a],[]⟩) P E s:=by
 rw [list_sort_plain];have m:a < s.heap.objs.size:=aq l;refine iP (listItems_at l rfl ?_);refine iP (listUpdate_at l rfl ?_ (by rw [au,i9]; lia) (bi _));obtain ⟨e1,ho1⟩:∃ e1,(s.heap.update a (bx λ_=>#[])).get? a=iO (lC "list" #[] e1):=⟨_,get?_update_seq l (λ_=>#[])⟩
 refine iP (seqEpoch_at ho1 rfl ?_);refine iP (mU ?_ (by show vs.length<=_; rw [i9]; lia));refine iP (wpAny_newList ?_ (bi _));refine k9 ?_;have c:(((s.heap.update a (bx λ_=>#[])).push (lC "tuple" vs.toArray 0)).push (lC "list" #[] 0)).get? a=iO (lC "list" #[] e1):=by rw [fX _ _ _ (by rw [size_push',Heap.size_update]; exact ay (dJ m)),fX _ _ _ (by rw [Heap.size_update]; exact ay m)];exact ho1
 have keep:∀ b o,b≠a->s.heap.get? b=iO o->(((s.heap.update a (bx λ_=>#[])).push (lC "tuple" vs.toArray 0)).push (lC "list" #[] 0)).get? b=iO o:=λb o y e=>
  ac _ (ac _ (by rw [Heap.get?_update_ne _ _ _ _ y]; exact e))
 show iW (model prog w) A _ P E { s with heap:=((s.heap.update a (bx λ_=>#[])).push (lC "tuple" vs.toArray 0)).push (lC "list" #[] 0) };dsimp only;have hsz:vs.toArray.size=vs.length:=by simp
 have f:(vs.toArray.zip vs.toArray).map (·.2)=vs.toArray:=by apply cz.mp;rw [Array.toList_map,Array.toList_zip];exact List.map_snd_zip (ap _)
 by_cases h2:vs.toArray.size < 2;·rw [Aa h2,Aa h2];refine iP (iV ?_);rw [StateT.run_pure];refine iP (iV ?_);dsimp only;have z:arrOf (SortSt.mk' general' (vs.toArray.zip vs.toArray) #[] 7 iQ)=vs.toArray.zip vs.toArray:=rfl;refine iP (seqEpoch_at c rfl ?_);rw [z,f];refine iP (listUpdate_at c rfl ?_ (bi _) (by rw [hsz,i9]; lia));simp only [bne_self_eq_false,bY,if_false];exact iV h
 ·rw [Ab h2,Ab h2];rw [hsz] at h2;obtain ⟨κ,t,v⟩:=k (by lia) _ keep;refine iP (lB (t (λd s'=>d=κ/\s'={ s with heap:=((s.heap.update a (bx λ_=>#[])).push (lC "tuple" vs.toArray 0)).push (lC "list" #[] 0) }) ⟨rfl,rfl⟩) (λd s' q=>?_) λ_ _ x=>x.elim);obtain ⟨rfl,rfl⟩:=q;refine iP (lB (kat_run (Q:=λg s'=>(arrOf g).map (·.2)=vs.toArray/\failedOf g=iQ/\s'={ s with heap:=((s.heap.update a (bx λ_=>#[])).push (lC "tuple" vs.toArray 0)).push (lC "list" #[] 0) })
   (G:=λp s'=>p=dY (aK vs.length)/\s'={ s with heap:=((s.heap.update a (bx λ_=>#[])).push (lC "tuple" vs.toArray 0)).push (lC "list" #[] 0) })
   rfl (by lia) j (λY g s' H D B r=>⟨?_,B,r.2⟩) (qeQ (by lia) v ⟨rfl,rfl⟩)) ?_ λ_ _ e=>e)
  ·rw [kat_snds rfl D,r.1];congr 1;refine ff λi=>?_;by_cases hi:i < vs.length;·simp [hi]
   ·simp [hi]
  ·rintro ⟨⟨⟩,g⟩ s' ⟨hp,u,rfl⟩;dsimp only;refine iP (seqEpoch_at c rfl ?_);rw [hp];refine iP (listUpdate_at c rfl ?_ (bi _) (by rw [hsz,i9]; lia));rw [u];simp only [bne_self_eq_false,bY,if_false];exact iV h
end
theorem VE:∀ l:List Int,JM (l.map D.int)=iO l
 | []=>rfl
 | x::l=>by show (JM (l.map D.int)).map (x::·)=iO (x::l);rw [VE l];rfl
end L2.D2
namespace L2.D2
open PySem PySem.Spec PyProof.Rows
noncomputable def VF:D->Out D
 | .dct kvs=>.ok (.dct kvs)
 | _=>.bad
variable {X:Cx} {C:Ct}
theorem YR (m:C.K=X.K):zX X C .fr (.type "dict") VF:=by
 intro pins s σ H xs us Q I r h;obtain ⟨x,F,dx,rfl,y,t,po⟩:=h;cases dx <;> try exact po.elim
 rename_i ks;have po:PoV C .fr F H (.ok (.dct ks)) Q:=po;obtain ⟨a,kv,rfl,hq,i⟩:=t.dct y;obtain ⟨u,rfl,A⟩:=uP r;cases A;obtain ⟨hz,S,vs,B,hd⟩:=(show ObjOk X.prog X.w H s.heap a (.dK kv) from I.hok a _ hq)
 have hl:=B.length;refine kt_call_dict S hd (by lia) λh' f d=>?_;have kp:∀ b o,s.heap.get? b=iO o->h'.get? b=iO o:=λb o e=>(d.2 b (ay (aq e))).trans (ac _ e);have hp:H s.heap.objs.size=none:=I.hok.fresh (ap _);obtain ⟨s2,c2,E⟩:=kE (u:=.dK kv) y hp;have c:(s.heap.objs.size == lA)=false:=beq_eq_false_iff_ne.mpr (cw I.big);exact ⟨.ref s.heap.objs.size,_,I.laid (o:=.dK kv) (t':=s.toks) kp (ap _) (Gj hz c B f),rfl,po _ F _ s2 c2 ⟨_,rfl,hp,E,_,qm,i⟩⟩
noncomputable def qcw {α:Type} (ds:List α) (lo hi:Option Int):List α:=(ds.drop (HT.sIx ds.length 0 lo)).take (HT.sIx ds.length ds.length hi - HT.sIx ds.length 0 lo)
noncomputable def qha (lo hi:Option Int):D->Out D
 | .lst ds=>.ok (.lst (qcw ds lo hi))
 | _=>.bad
noncomputable def km (fa:qZ) (l u:Option (qZ)):qZ:=λρ=>(fa ρ).bind λp=>(QB l p.2).bind λa=>(QB u a.2).bind λb=>(qha a.1 b.1 p.1).plain.bind λd=>.ok (d,b.2)
section
variable {own:List Nat} {e:Expr} {fa:qZ} {ma:Mo} {pos p2:Pos}
theorem qjj (m:C.K=X.K):SlR X (λx lo hi H Q=>∃ F d,Same F H/\Is C.K F x d/\PoV C .sh F H (qha lo hi d) Q):=by
 intro pins s σ H x v vl b lo hi sl Q I r hs pl c h;obtain ⟨F,d,y,is,po⟩:=h;cases d with
 | lst ds=>
  cases is with
  | @lst a xs _ hq t=>
   have po:PoV C .sh F H (.ok (.lst (qcw ds lo hi))) Q:=po;refine qea pins s σ H _ v vl b lo hi sl Q I r hs pl c ⟨a,xs,rfl,by rw [<-m]; exact y.seq hq,λp hp=>?_⟩;obtain ⟨s2,c2⟩:=vW (u:=.lst (qd6 xs lo hi)) y hp;have w:IsL C.K F (qd6 xs lo hi) (qcw ds lo hi):=by unfold qd6 qcw;rw [t.length];exact IsL.take _ (IsL.drop _ t)
   exact po _ _ _ s2 c2 (.lst (.inl (.inl qm)) (w.mono c2.grow))
 | _=>exact po.elim
theorem gI {lo hi:Option Expr} {l u:Option (qZ)} (n:C.K=X.K) (j:PE X e (tE C own ma fa)) (hl:PO X lo (tO C own (QB l))) (i:PO X hi (tO C own (QB u))) (g:ma≠.any:=by decide):PE X (.Subscript e (.Slice lo hi iQ p2) pos) (tE C own .sh (km fa l u)):=by
 refine jz (qbS (qjj (C:=C) n) (yu j g) hl i) λσ H Q ⟨F,ρ,p,h⟩=>⟨F,ρ,p,Po.bind h λv F1 H1 d ρ1 f c1 m h1=>?_⟩
 refine ⟨F1,ρ1,f,Po.bindO h1 λo H2 a ρ2 r c2 h2=>⟨o,ρ2,r,Po.bindO h2 λt q b k c G h3=>?_⟩⟩;exact ⟨t,d,c.sub,(m.mono c2.grow).mono G.grow,PoV.of c h3⟩
end
theorem fsc {N P:List Str} {sc:mC} (a:sc.kind=.function:=by rfl) (b:sc.isCoroutine=false:=by rfl) (c:sc.isGenerator=false:=by rfl) (d:N.Nodup:=by decide +kernel) (e:N.take P.length=P:=by rfl) (f:∀ x∈P,sc.names.lookup x=iO .local\/sc.names.lookup x=iO .cell:=by decide +kernel) (g:∀ y∈sc.names,y.2≠.free:=by decide +kernel):FnScope N P sc:=⟨a,b,c,d,e,f,g⟩
end L2.D2
namespace L2.D2
open PySem PySem.Spec PyProof.Rows PySem.W
noncomputable def vg (H:Hp) (l:List (Addr×List V)):Hp:=λb=>match l.lookup b with
 | some xs=>iO (.tup xs)
 | none=>H b
variable {α:Type}
theorem qaG {x:Addr} {a:α}:∀ {l:List (Addr×α)},l.lookup x=iO a->(x,a)∈l
 | [],h=>by simp at h
 | (n,k)::r,h=>by
  rw [bF] at h;by_cases e:(x == n)=iT
  ·rw [e] at h;have h:iO k=iO a:=h;cases h;have:x=n:=by simpa using e
   rw [this];exact aj ..
  ·rw [Bool.not_eq_true] at e;rw [e] at h;exact ae _ (qaG h)
variable {H:Hp} {l:List (Addr×List V)}
theorem zH {b:Addr} (h:∀ p∈l,p.1≠b):vg H l b=H b:=by
 unfold vg;cases e:l.lookup b with
 | none=>rfl
 | some xs=>exact absurd rfl (h _ (qaG e))
theorem kh {b:Addr} {o:HO} (n:∀ p∈l,H p.1=iQ) (e:H b=iO o):vg H l b=iO o:=by rw [zH λp hp q=>?_,e];have:=n p hp;rw [q,e] at this;cases this
variable {X:Cx} {pins:Pns} {σ:St} {F:Hp} {s:iU} {h':Heap}
section
theorem Inv.lays {t':Nat} (I:Inv X pins σ H s) (k:∀ b u,s.heap.get? b=iO u->h'.get? b=iO u) (hp:∀ p∈l,s.heap.objs.size<=p.1)
  (new:∀ b xs,l.lookup b=iO xs->(xs.length<=sizeLine/\∃ o,h'.get? b=iO o/\o.dict=iQ)/\∃ its:List iR,Vals xs its/\IsTup h' b its.toArray):Inv X pins σ (vg H l) { s with heap:=h',toks:=t' }:=by
 have h:∀ p∈l,H p.1=none:=λp hq=>I.hok.fresh (hp p hq);refine I.un ⟨λb u q _ _ _=>k b u q,λb u q _ _ _=>⟨u.slots,k b u q⟩,λb u q n _=>?_,λb u q _=>⟨u,k b u q⟩,λb xs q=>kh h q,λb u xs q=>kh h q,λb ps q=>⟨#[],by rw [kh h q]; simp⟩⟩ λb u e=>?_
 ·rw [zH λp hq z=>?_];·exact n
  ·exact absurd (aq q) (by rw [<-z]; exact Nat.not_lt.mpr (hp p hq))
 ·cases q:l.lookup b with
  | some xs=>have e:vg H l b=iO u:=e;unfold vg at e;rw [q] at e;cases e;exact new b xs q
  | none=>have e:vg H l b=iO u:=e;unfold vg at e;rw [q] at e;exact (I.hok b u e).stay (λc v _ q=>k c v q) (λc q=>kh h q) λc xs q=>kh h q
theorem YS (y:Same F H) (n:∀ p∈l,H p.1=iQ):Same (vg F l) (vg H l)/\Chg No F H (vg F l) (vg H l):=by
 have E:∀ p∈l,F p.1=none:=λp hp=>by
  cases q:F p.1 with
  | none=>rfl
  | some o=>have:=n p hp;rw [y _ o q] at this;cases this
 refine ⟨λb o e=>?_,⟨λb o e _=>kh n e,λb e=>?_,λb o e=>kh E e,λb e=>?_⟩⟩
 ·unfold vg at e ⊢;cases q:l.lookup b with
  | some xs=>rw [q] at e; exact e
  | none=>rw [q] at e; exact y b o e
 ·cases q:H b with
  | none=>exact absurd q e
  | some o=>rw [kh n q]; simp
 ·cases q:l.lookup b with
  | some xs=>exact .inr (.inl (n _ (qaG q)))
  | none=>have e:vg F l b≠none:=e;unfold vg at e;rw [q] at e;exact .inl e
end
variable {prog:i7} {w:i8} {A:j9} {E:iR->iU->Prop}
section
theorem VG {K:Type} [DecidableEq K] {knd:KeyKind prog w K} {r d:Addr} {kvs:List (K×iR)} {ep:Nat} {Q:iR->iU->Prop} (t:A.handled=iQ) (v:s.heap.IsItemsView r d) (q:s.heap.DictAt knd d kvs ep) (g:kvs.length < 64)
  (c:2<=kvs.length->∀ (as:List Addr) (s':iU) (p:j9),as.length=kvs.length->KdxG knd kvs s.heap.objs.size s'.heap as->∃ κ,(∀ Q:SortKind->iU->Prop,Q κ s'->iW (model prog w) p (keyKind' (as.map aL).toArray) Q (λ_ _=>False) s')/\∀ i,i+1 < kvs.length->∀ C:Bool->iU->Prop,C iS s'->kas_ask prog w p κ (as.map aL) (i+1) i C s')
  (y:∀ (h1 h':Heap) (tk e:Nat) (as:List Addr),(∀ b o,s.heap.get? b=iO o->h1.get? b=iO o)->(∀ b o,h1.get? b=iO o->h'.get? b=iO o)->as.length=kvs.length->KdxG knd kvs s.heap.objs.size h1 as->h'.get? h1.objs.size=iO (lC "list" (as.map aL).toArray e)->Q (.ref h1.objs.size) { s with heap:=h',toks:=tk }) :
  iW (model prog w) A (call (.builtin "sorted") [.ref r]) Q E s:=by
 refine Calls.call_function_entry kind_sorted plain_sorted entry_sorted (args_sorted1 _) ?_; unfold Builtin.«sorted»;refine iP (m:=checkCount "sorted" 1 1 _) (iV ?_);refine iP (kdx_collect (A:=A.in1) (knd:=knd) (kvs:=kvs) (ep:=ep) t v q (by rw [i9]; lia) λh1 tk as k1 hl G=>?_);have h:(as.map aL).length=kvs.length:=by rw [am]; exact hl
 refine iP (wpAny_newList ?_ (by rw [h,i9]; lia));have W:(h1.push (lC "list" (as.map aL).toArray 0)).get? h1.objs.size=iO (lC "list" (as.map aL).toArray 0):=ah _ rfl;have Y:∀ h2:Heap,(∀ b o,b≠h1.objs.size->(h1.push (lC "list" (as.map aL).toArray 0)).get? b=iO o->h2.get? b=iO o)->KdxG knd kvs s.heap.objs.size h2 as:=λh2 k2=>
  ⟨G.rise,G.above,λj a D=>by obtain ⟨key,k,x,e1,z,n⟩:=G.pairs j a D;exact ⟨key,k,x,e1,z,k2 a _ (ay (aq n)) (ac _ n)⟩⟩
 refine iP (k9 (j8 slot_list_sort (s:={ s with heap:=h1.push (lC "list" (as.map aL).toArray 0),toks:=tk }) ⟨_,W,rfl⟩ entry_list_sort (JP W (by rw [h]; exact g) (λf h2 k2=>by rw [h] at f ⊢;exact c f as { s with heap:=h2,toks:=tk } _ hl (Y h2 k2)) ⟨_,rfl,?_⟩) (args_list_sort _)));obtain ⟨e,u⟩:=sortedHeap_at (out:=(as.map aL).toArray) W;refine iV ⟨_,rfl,y h1 _ tk e as k1 (λb o eb=>?_) hl G u⟩;have l:=aq eb;rw [sortedHeap_old (ay l) (by rw [bf]; exact dJ l)];exact ac _ eb
end
noncomputable def kD:Key->D
 | .inl i=>.int i
 | .inr x=>.str x
noncomputable def qeR:List Str->Bool
 | x::y::r=>decide (y≠x)&&!decide (y.cps.toList < x.cps.toList)&&qeR (y::r)
 | _=>iT
theorem qaH:∀ {ss:List Str},qeR ss=iT->∀ i x y,ss[i]?=iO x->ss[i+1]?=iO y->y≠x/\¬y.cps.toList < x.cps.toList
 | [],_,i,x,y,h1,_=>by simp at h1
 | [_],_,i,x,y,_,h2=>by simp at h2
 | a::b::r,h,i,x,y,h1,h2=>by
  unfold qeR at h;simp only [aN,decide_eq_true_eq,eZ,decide_eq_false_iff_not] at h;cases i with
  | zero=>cases h1;cases h2;exact h.1
  | succ i=>exact qaH h.2 i x y h1 h2
noncomputable def YT (kvs:List (Key×D)):List D:=kvs.map λkv=>.tup [kD kv.1,kv.2]
noncomputable def kX:D->Out D
 | .dct kvs=>(match Uc kvs with
  | some ss=>if ss.length < 64/\qeR ss=iT/\(ss.all λy=>decide (y.length<=sizeLine))=iT then .ok (.lst (YT kvs)) else .bad
  | none=>.bad)
 | _=>.bad
theorem qdp {κ:Type}:∀ {kv:List (κ×V)} {vs:List (κ×iR)},KV kv vs->∀ (j:Nat) (k:κ) (x:iR),vs[j]?=iO (k,x)->∃ v,kv[j]?=iO (k,v)/\RelV v x
 | _,_,.nil,j,k,x,h=>by simp at h
 | _,_,.cons (a:=p) (b:=q) r t,j,k,x,h=>by
  cases j with
  | zero=>cases h;obtain ⟨p1,p2⟩:=p;obtain ⟨rfl,r2⟩:=r;exact ⟨p2,rfl,r2⟩
  | succ j=>exact qdp t j k x h
theorem qaI:∀ {as:List Addr} {ys:List α} {b:Addr} {y:α},(as.zip ys).lookup b=iO y->∃ j:Nat,as[j]?=iO b/\ys[j]?=iO y
 | [],_,b,y,h=>by simp at h
 | _::_,[],b,y,h=>by simp at h
 | a::as,z::ys,b,y,h=>by
  rw [fQ,bF] at h;by_cases e:(b == a)=iT
  ·rw [e] at h;have h:iO z=iO y:=h;cases h;have:b=a:=by simpa using e
   rw [this];exact ⟨0,rfl,rfl⟩
  ·rw [Bool.not_eq_true] at e;rw [e] at h;obtain ⟨j,h1,h2⟩:=qaI h;exact ⟨j+1,h1,h2⟩
theorem qaJ:∀ {as:List Addr} {ys:List α} {j:Nat} {b:Addr} {y:α},as.Nodup->as[j]?=iO b->ys[j]?=iO y->(as.zip ys).lookup b=iO y
 | [],_,j,b,y,_,h,_=>by simp at h
 | _::_,[],j,b,y,_,_,h=>by simp at h
 | a::as,z::ys,0,b,y,_,h1,h2=>by cases h1;cases h2;rw [fQ,bF];simp
 | a::as,z::ys,j+1,b,y,n,h1,h2=>by
  rw [fQ,bF];have n:=aT.mp n;have:(b == a)=false:=by rw [beq_eq_false_iff_ne];intro q;rw [q] at h1;exact n.1 (fy.mpr ⟨j,h1⟩)
  rw [this];exact qaJ n.2 h1 h2
theorem gJ:∀ as:List Addr,Vals (as.map V.ref) (as.map aL)
 | []=>.nil
 | _::as=>.cons rfl (gJ as)
variable {K:Frag} {F':Hp}
theorem VH (g:Same F F'):∀ {kv:List (Key×V)} {ks:List (Key×D)} {as:List Addr},IsK K F kv ks->as.length=kv.length->(∀ k∈ks.map (·.1),∃ x:Str,k=.inr x/\x.length<=sizeLine) ->(∀ (j:Nat) (a:Addr) (p:Key×V),as[j]?=iO a->kv[j]?=iO p->F' a=iO (.tup [kV p.1,p.2]))->IsL K F' (as.map V.ref) (YT ks)
 | _,_,[],.nil,_,_,_=>.nil
 | _,_,_::_,.nil,h,_,_=>by simp at h
 | _,_,[],.cons _ _,h,_,_=>by simp at h
 | _,_,a::as,.cons (k:=k) (v:=v) (d:=d) h t,hl,hk,hF=>by obtain ⟨x,rfl,hx⟩:=hk _ (aj ..);have e:=hF 0 a (.inr x,v) rfl rfl;exact .cons (.tup (.inl (.inl e)) (.cons (.str hx) (.cons (h.mono g) .nil))) (VH g t (by simpa using hl) (λk b=>hk k (ae _ b)) λj a p h1 h2=>hF (j+1) a p h1 h2)
variable {C:Ct} {own:List Nat} {ma:Mo}
section
variable {o:Expr} {fa:qZ} {pos p apos cpos:Pos}
theorem VI (hK:C.K=X.K) (hc:X.calm=iT) (hg:Gl X "sorted") (hm:X.mg "sorted"=iQ) (c:iZ "sorted"=iO (.builtin "sorted")) (ha:PE X o (tE C own ma fa))
  (m:lg o "items" X.env (eval o X.env)=eval o X.env:=by rfl) (g:(apos.endLine == cpos.line)=true:=by rfl)
  (he2:iX [.Call (.Attribute o "items" apos) [] [] cpos] X.env=[(iS,eval (.Call (.Attribute o "items" apos) [] [] cpos) X.env)]:=by exact qE rfl) :
  PE X (.Call (.Name "sorted" p) [.Call (.Attribute o "items" apos) [] [] cpos] [] pos) (tE C own .fr (d1 kX fa)):=by
 refine ⟨?_⟩;intro pins s σ H Q I h;refine lv (yn I hg hm c ?_ (by decide) (by decide));rw [he2];refine dm rfl (dP (fL ?_));refine wpAny_Call_method m rfl g PySem.F.plainAttrs_dict PySem.F.slot_dict_items PySem.F.type_dict_items (thn (ha pins s σ H _ I (XN (ma:=ma) h)) λu s1 ⟨x,H1,S,rx,F,dx,sb,tx,po⟩=>?_);cases dx with
 | dct kvs=>
  obtain ⟨a,kv,rfl,hH,Z⟩:=tx.dct sb;obtain rfl:u=aL a:=rx;obtain ⟨t1,t2,f⟩:=qgp S (.inl ⟨kv,.inl hH⟩);refine ⟨t1,t2,?_⟩;refine dm rfl (PySem.evalArgs_none ?_);cases q:Uc kvs with
  | none=>simp only [kX,q] at po; exact po.elim
  | some ss=>
   simp only [kX,q] at po;by_cases hl:ss.length < 64/\qeR ss=iT/\(ss.all λy=>decide (y.length<=sizeLine))=iT
   ·rw [Aa hl] at po;obtain ⟨l1,l2,l3⟩:=hl;obtain ⟨hz,f,vs,rel,dd⟩:=(show ObjOk X.prog X.w H1 s1.heap a (.dK kv) from S.hok a _ hH)
    have hk:vs.map (·.1)=ss.map ce:=by rw [<-KV.keys rel,Z.keys,YN q]
    have hlen:vs.length=ss.length:=by have:=congrArg List.length hk; simpa using this
    have hlk:kv.length=vs.length:=rel.length;refine call_meetsIn PySem.F.slot_dict_items dd.typeIs PySem.F.entry_dict_items (PySem.F.args_dict_items_1 _) (meets_dict_items (qP X.prog X.w) a f) ⟨⟨vs,dd⟩,?_⟩;refine fS ?_;obtain ⟨ep,da⟩:=dd.dictAt;have J:∀ (j:Nat) (k:Key) (x:iR),vs[j]?=iO (k,x)->∃ y,ss[j]?=iO y/\k=.inr y:=λj k x e=>by
     have E:(vs.map (·.1))[j]?=iO k:=by rw [aF,e]; rfl
     rw [hk,aF] at E;obtain ⟨y,R,A⟩:=aQ.mp E;exact ⟨y,R,A.symm⟩
    have r:∀ {lo:Addr} {h:Heap} {as:List Addr},KdxG (qP X.prog X.w) vs lo h as->∀ (j:Nat) (b:Addr),as[j]?=iO b->∃ y t x,ss[j]?=iO y/\vs[j]?=iO (.inr y,x)/\h.get? b=iO { cls:=.type "tuple",data:=.seq #[.str y t,x] }:=λG j b hj=>by
     obtain ⟨key,k,x,e1,e2,E⟩:=G.pairs j b hj;obtain ⟨y,R,rfl⟩:=J j k x e1;rcases jj (show zO (ce y) key=iT from e2) with ⟨i,t,A,_⟩ | ⟨z,t,A,rfl⟩
     ·cases A
     ·cases A;exact ⟨_,t,x,R,e1,E⟩
    refine VG (knd:=qP X.prog X.w) (d:=a) (kvs:=vs) (ep:=ep) (I.ok.hd hc) ⟨_,ah _ rfl,rfl,rfl⟩ (da.push _) (by lia) (λh2 as s' A' hla n=>?_) λh1 h' tk e as k1 k2 hla n hp=>?_
    ·refine ⟨tuples' iT,λQ' hQ'=>?_,λi hi C' hC=>?_⟩
     ·obtain ⟨fs,f1,f2,P⟩:∃ fs:List iR,KatTups s'.heap (as.map aL) fs/\fs.length=as.length/\∀ v∈fs,∃ y t,v=dE y t:=by
       have go:∀ (l:List Addr),(∀ b∈l,∃ y t x,s'.heap.get? b=iO { cls:=.type "tuple",data:=.seq #[dE y t,x] })->∃ fs:List iR,KatTups s'.heap (l.map aL) fs/\fs.length=l.length/\∀ v∈fs,∃ y t,v=dE y t:=by
        intro l
        induction l with
        | nil=>intro _; exact ⟨[],.nil,rfl,λv c=>by cases c⟩
        | cons b l ih=>
         intro c;obtain ⟨y,t,x,ho⟩:=c b (aj ..);obtain ⟨fs,f1,f2,P⟩:=ih λW h'=>c W (ae _ h');refine ⟨dE y t::fs,.cons ho rfl rfl (by simp) f1,by simp [f2],λW h'=>?_⟩;rcases af.mp h' with rfl | h';·exact ⟨_,_,rfl⟩
         ·exact P W h'
       refine go as λb O=>?_;obtain ⟨j,hj⟩:=fy.mp O;obtain ⟨y,t,x,_,_,E⟩:=r n j b hj;exact ⟨y,t,x,E⟩
      refine kat_kind (T:=.type "str") f1 (by lia) (λv c=>?_) (by decide) hQ';obtain ⟨y,t,rfl⟩:=P v c;exact .now
     ·have M:as[i+1]?=iO (as[i+1]'(by lia)):=aA _;have N:as[i]?=iO (as[i]'(by lia)):=aA _;obtain ⟨y1,u1,x1,g1,_,g2⟩:=r n (i+1) _ M;obtain ⟨y0,u0,x0,g3,_,g4⟩:=r n i _ N;obtain ⟨n1,n2⟩:=qaH l2 i y0 y1 g3 g1;unfold kas_ask;rw [show (as.map aL).getD (i+1) .none=.ref (as[i+1]'(by lia)) by rw [bT,aF,M]; rfl,show (as.map aL).getD i .none=.ref (as[i]'(by lia)) by rw [bT,aF,N]; rfl];refine kat_lt g2 rfl g4 rfl (kat_cons (wpAny_eqBool_str ?_));rw [Ac n1];refine kat_no (oneLt_str ?_);rw [Ac n2];exact hC
    ·have B:∀ b o,s1.heap.get? b=iO o->h1.get? b=iO o:=λb o eb=>k1 b o (ac _ eb);have hsz:(s1.heap.push { cls:=.type "dict_items",data:=.fields #[.ref a] }).objs.size=s1.heap.objs.size+1:=bf ..;have hab:∀ b∈as,s1.heap.objs.size<=b:=λb O=>by have:=n.above b O;have this:(s1.heap.push { cls:=.type "dict_items",data:=.fields #[.ref a] }).objs.size < b:=this;rw [hsz] at this;exact dh (Nat.lt_of_succ_lt this)
     have hnd:as.Nodup:=n.rise.imp λz=>ay z;have hlz:as.length=(kv.map λp=>[kV p.1,p.2]).length:=by rw [am]; lia
     have D:∀ q∈as.zip (kv.map λp=>[kV p.1,p.2]),s1.heap.objs.size<=q.1:=λq hq=>hab _ (dD hq).1;have I2:Inv X pins σ (vg H1 (as.zip (kv.map λp=>[kV p.1,p.2]))) { s1 with heap:=h1,toks:=tk }:=Inv.lays S B D λb xs O=>by obtain ⟨j,Y,U⟩:=qaI O;obtain ⟨y,t,x,e1,e2,E⟩:=r n j b Y;obtain ⟨v,R,A⟩:=qdp rel j _ x e2;rw [aF,R] at U;cases U;exact ⟨⟨by show 2<=_; rw [i9]; decide,_,E,rfl⟩,[.str y t,x],.cons ⟨t,rfl⟩ (.cons A .nil),_,E,rfl,_,rfl⟩
     have hq0:H1 h1.objs.size=none:=(S.kept (t':=tk) B).hok.fresh (ap _);have hq2:vg H1 (as.zip (kv.map λp=>[kV p.1,p.2])) h1.objs.size=none:=I2.hok.fresh (ap _);obtain ⟨s2,c2⟩:=YS (l:=as.zip (kv.map λp=>[kV p.1,p.2])) sb λq hq=>S.hok.fresh (D q hq);obtain ⟨s3,c3,P⟩:=kE (u:=.lst (as.map V.ref)) s2 hq2;have il:=VH (as:=as) c2.grow Z (by lia) (λk L=>by
      rw [<-Z.keys,KV.keys rel,hk] at L;obtain ⟨y,hy,rfl⟩:=aC.mp L;exact ⟨y,rfl,Ae (aJ.mp l3 y hy)⟩) λj b q Y U=>by
      unfold vg;rw [qaJ hnd Y (by rw [aF,U]; rfl)]
     exact ⟨.ref h1.objs.size,_,I2.laid (t':=tk) (o:=.lst (as.map V.ref)) k2 (ap _) ⟨by rw [am,i9]; lia,as.map aL,e,gJ as,by simpa [lC] using hp⟩,rfl,po _ _ _ s3 (c2.trans' c3) ⟨_,rfl,hq0,P,_,qm,il⟩⟩
   ·rw [Ab hl] at po; exact po.elim
 | _=>exact po.elim
end
variable {z:Addr} {i:Nat} {Q:Bool->iU->Prop}
section
variable {TI TO i1 i2:Addr} {fp1 fp2:List Addr} {n1 n2:Nat} {P1 P2:Nat->iR->Prop} {S1 S2:Nat->Heap->Prop} {a b:iR}
abbrev uH (h:Heap) (z TI TO:Addr) (p:Nat):Prop:=∃ c:Bool,h.get? z=iO { cls:=.type "zip",dict:=iQ,data:=.fields #[lb p,.bool c,.bool iS,.ref TI,.ref TO],slots:=#[] }
theorem YU {p:Nat} (hz:uH s.heap z TI TO p) (hp:∃ o,s.heap.get? p=iO o) (h:∀ h',uH h' z TI TO p->bo z s.heap h'->Q iS { s with heap:=h' }):iW (model prog w) A (aS (.ref z)) Q E s:=by
 obtain ⟨c,hz⟩:=hz;obtain ⟨o,l⟩:=hp;unfold aS;refine iP (k8 hz rfl (x:=lb p) rfl ?_);show iW _ _ (loadIfAlive (Int.toNat p) >>= _) _ _ _;rw [dH];refine iP (kdx_alive l ?_);rw [Ab (by simp)];refine iP (k8 hz rfl (x:=.bool c) rfl ?_);cases c with
 | true=>rw [Ab (by decide)];exact iV (h s.heap ⟨iT,hz⟩ ⟨rfl,λ_ _=>rfl⟩)
 | false=>rw [Aa (by decide)];refine iP (lx hz (by simp) λh₁ r k=>iV (h h₁ ⟨iT,r⟩ k))
theorem qaK {p:Nat} {Q:iR->iU->Prop} (D:Apart2 z TI TO i1 i2 fp1 fp2) (b:mz prog w A i1 fp1 n1 P1 S1) (F:mz prog w A i2 fp2 n2 P2 S2)
  (hz:uH s.heap z TI TO p) (hp:∃ o,s.heap.get? p=iO o) (X:lj s.heap TI (.ref i1) (.ref i2)) (h1:S1 i s.heap) (h2:S2 i s.heap) (g:i < n1) (l:i < n2)
  (m:∀ x y h' tk,P1 i x->P2 i y->uH h' z TI TO p->S1 (i+1) h'->S2 (i+1) h'->lj h' s.heap.objs.size x y ->(∀ c o,c≠z->c≠i1->c≠i2->s.heap.get? c=iO o->h'.get? c=iO o)->Q (.ref s.heap.objs.size) { s with heap:=h',toks:=tk }) :
  iW (model prog w) A (Builtin.«zip.__next__» ⟨[.ref z],[]⟩) (λfin s'=>∃ v,fin=.done (.ret v)/\Q v s') E s:=by
 obtain ⟨n,a⟩:=id hz;show iW _ _ (field (.ref z) 2 >>= _) _ _ _; refine iP (k8 a rfl (x:=.bool iS) rfl ?_);show iW _ _ (field (.ref z) 3 >>= _) _ _ _; refine iP (k8 a rfl (x:=.ref TI) rfl ?_); refine iP (k6 X rfl ?_);show iW _ _ (aS (.ref z) >>= _) _ _ _;refine iP (YU hz hp λh₁ r k=>?_);simp only [bY,if_false];refine iP ?_;rw [<-Array.forIn_toList];simp only [cJ,fN];refine iP (iP (k9 ?_)); show iW _ _ (aR (.ref i1) >>= _) _ _ _;refine iP (b.item i _ _ _ g (b.frame _ _ _ h1 λc d o e=>k.extBut _ _ (λq=>D.z1 (q ▸ d)) e) λx u V hx N j=>iV ?_);refine iV ?_;refine iP (iP (k9 ?_)); show iW _ _ (aR (.ref i2) >>= _) _ _ _;refine iP (F.item i _ _ _ l (F.frame _ _ _ h2 λc d o e=>(j.2 _ (λq=>D.a12 (q ▸ d))).trans (k.extBut _ _ (λq=>D.z2 (q ▸ d)) e)) λy h L B M f=>iV ?_);refine iV (iV ?_);show iW _ _ (newTuple [x,y] >>= _) _ _ _;refine iP (mU ?_);have hsz:h.objs.size=s.heap.objs.size:=by rw [f.1,j.1,k.1]
 refine iV ⟨_,rfl,?_⟩;show Q (.ref h.objs.size) _;rw [hsz];have up:∀ c o,h.get? c=iO o->(h.push { cls:=.type "tuple",data:=.seq #[x,y] }).get? c=iO o:=λc o e=>ac _ e;obtain ⟨c1,r⟩:=r;refine m x y _ L hx B ⟨c1,up _ _ ((f.2 _ D.i2z.symm).trans ((j.2 _ D.i1z.symm).trans r))⟩ (b.frame _ _ _ N λc d o e=>up _ _ ((f.2 _ (λq=>D.a21 (q ▸ d))).trans e)) (F.frame _ _ _ M λc d o e=>up _ _ e) (by rw [<-hsz]; exact ah _ rfl) λc o k1 k2 k3 e=>up c o ((f.2 _ k3).trans ((j.2 _ k2).trans (k.extBut _ _ k1 e)))
theorem qcx {p:Nat} {Q:Fin->iU->Prop} (D:Apart2 z TI TO i1 i2 fp1 fp2) (L:mz prog w A i1 fp1 n1 P1 S1) (F:mz prog w A i2 fp2 n2 P2 S2)
  (hz:uH s.heap z TI TO p) (hp:∃ o,s.heap.get? p=iO o) (X:lj s.heap TI (.ref i1) (.ref i2)) (h1:S1 i s.heap) (h2:S2 i s.heap) (y:i=n1\/(i < n1/\i=n2))
  (g:∀ h' tk e,(∀ c o,c≠z->c≠i1->c≠i2->s.heap.get? c=iO o->h'.get? c=iO o)->(∃ o,h'.get? e=iO o/\o.cls=.type "StopIteration")->E (.ref e) { s with heap:=h',toks:=tk }) :
  iW (model prog w) A (Builtin.«zip.__next__» ⟨[.ref z],[]⟩) Q E s:=by
 obtain ⟨M,a⟩:=id hz;show iW _ _ (field (.ref z) 2 >>= _) _ _ _; refine iP (k8 a rfl (x:=.bool iS) rfl ?_);show iW _ _ (field (.ref z) 3 >>= _) _ _ _; refine iP (k8 a rfl (x:=.ref TI) rfl ?_); refine iP (k6 X rfl ?_);show iW _ _ (aS (.ref z) >>= _) _ _ _;refine iP (YU hz hp λh₁ r k=>?_);simp only [bY,if_false];refine iP ?_;rw [<-Array.forIn_toList];simp only [cJ,fN];refine iP (iP (k9 ?_)); show iW _ _ (aR (.ref i1) >>= _) _ _ _;have f1:S1 i h₁:=L.frame _ _ _ h1 λc d o e=>k.extBut _ _ (λq=>D.z1 (q ▸ d)) e;rcases y with rfl | ⟨hlt,rfl⟩
 ·refine iP (L.done _ _ _ f1 λu e j b=>?_);exact g u s.toks e (λc o k1 k2 _ x=>j _ _ k2 (k.extBut _ _ k1 x)) b
 ·refine iP (L.item i _ _ _ hlt f1 λx u V hx N j=>iV ?_);refine iV ?_;refine iP (iP (k9 ?_)); show iW _ _ (aR (.ref i2) >>= _) _ _ _;refine iP (F.done _ _ _ (F.frame _ _ _ h2 λc d o e=>(j.2 _ (λq=>D.a12 (q ▸ d))).trans (k.extBut _ _ (λq=>D.z2 (q ▸ d)) e)) λh e f b=>?_);exact g h V e (λc o k1 k2 k3 x=>f _ _ k3 ((j.2 _ k2).trans (k.extBut _ _ k1 x))) b
theorem VJ {p:Nat} {Q:Option iR->iU->Prop} (D:Apart2 z TI TO i1 i2 fp1 fp2) (L:mz prog w A.in1 i1 fp1 n1 P1 S1) (F:mz prog w A.in1 i2 fp2 n2 P2 S2)
  (hz:uH s.heap z TI TO p) (hp:∃ o,s.heap.get? p=iO o) (X:lj s.heap TI (.ref i1) (.ref i2)) (h1:S1 i s.heap) (h2:S2 i s.heap) (a:i < n1) (l:i < n2)
  (h:∀ x y h' tk,P1 i x->P2 i y->uH h' z TI TO p->S1 (i+1) h'->S2 (i+1) h'->lj h' s.heap.objs.size x y ->(∀ c o,c≠z->c≠i1->c≠i2->s.heap.get? c=iO o->h'.get? c=iO o)->Q (iO (.ref s.heap.objs.size)) { s with heap:=h',toks:=tk }):iW (model prog w) A (lz (.ref z)) Q E s:=by
 have hT:s.TypeIs (.ref z) "zip":=let ⟨_,e⟩:=hz; ⟨_,e,rfl⟩
 unfold lz;exact iP (ly (j7 (name:=aa "__next__") hT bz (j8 bz hT dw
  (qaK D L F hz hp X h1 h2 a l λx y h' tk m g f d b k j=>iV (h x y h' tk m g f d b k j)) (c8 _))))
theorem Ue {p:Nat} {Q:Option iR->iU->Prop} (D:Apart2 z TI TO i1 i2 fp1 fp2) (L:mz prog w A.in1 i1 fp1 n1 P1 S1) (F:mz prog w A.in1 i2 fp2 n2 P2 S2)
  (hz:uH s.heap z TI TO p) (hp:∃ o,s.heap.get? p=iO o) (X:lj s.heap TI (.ref i1) (.ref i2)) (h1:S1 i s.heap) (h2:S2 i s.heap) (y:i=n1\/(i < n1/\i=n2))
  (a:∀ h' tk,(∀ c o,c≠z->c≠i1->c≠i2->s.heap.get? c=iO o->h'.get? c=iO o)->Q iQ { s with heap:=h',toks:=tk }):iW (model prog w) A (lz (.ref z)) Q E s:=by
 have hT:s.TypeIs (.ref z) "zip":=let ⟨_,e⟩:=hz; ⟨_,e,rfl⟩
 unfold lz;refine iP (ly (j7 (name:=aa "__next__") hT bz (j8 bz hT dw (qcx D L F hz hp X h1 h2 y λh' tk e k h=>?_) (c8 _))));obtain ⟨o,l,d⟩:=h;refine iP (lF (T := "StopIteration") (b:=iT) ⟨o,l,d⟩ mS ?_);exact iV (a _ _ k)
end
theorem ad {x y:Nat} (h:x < y\/y < x):x≠y:=by lia
def N4 (b q:Nat):Prop:=q≠b+4/\q≠b+3/\q≠b/\q≠b+1
variable {b:Nat}
theorem lo4 {q:Nat} (h:q < b):N4 b q:=by unfold N4; lia
theorem hi4 {q:Nat} (h:b+4 < q):N4 b q:=by unfold N4; lia
theorem mi4:N4 b (b+2):=by unfold N4; lia
structure ZG (xs ys:Array iR) (lo:Nat) (h:Heap) (as:List Addr):Prop where
 rise:as.Pairwise (· < ·)
 above:∀ a∈as,lo < a
 pairs:∀ (j:Nat) (a:Addr),as[j]?=iO a->∃ x y,xs[j]?=iO x/\ys[j]?=iO y/\lj h a x y
variable {xs ys:Array iR}
theorem ZG.mono {lo:Nat} {h:Heap} {as:List Addr} (g:ZG xs ys lo h as) (k:∀ c o,lo < c->h.get? c=iO o->h'.get? c=iO o):ZG xs ys lo h' as:=
 ⟨g.rise,g.above,λj a D=>by obtain ⟨x,y,e1,i,E⟩:=g.pairs j a D;exact ⟨x,y,e1,i,k _ _ (g.above a (dO D)) E⟩⟩
def ZSt (h:Heap) (b i:Nat) (as:List Addr):Prop:=(i=0/\mG h (b+4) (b+2) (b+3) .none/\∃ u v,lj h (b+3) u v)\/∃ p,as[0]?=iO p/\uH h (b+4) (b+2) (b+3) p
variable {a:Addr}
theorem ItK.at {h:Heap} {it:Addr} {k:SK} (x:ItK h it a k i) (f:∀ o,h.get? it=iO o->h'.get? it=iO o):ItK h' it a k i:=by obtain ⟨o,e,c,d⟩:=x.obj;exact .of ⟨o,f _ e,c,d⟩
section
variable {R:nE->iU->Prop}
theorem qcy {E C S:Nat} {k1 k2:SK} {ys:Array iR} (hh:A.handled=iQ) (h1:E < b) (h2:C < b) (r:b+4 < S) (hn:xs.size<=sizeLine) (res:iR) {h₁:Heap}
  (hR:∀ h' tk acc c as,(∀ q o,q < b->h₁.get? q=iO o->h'.get? q=iO o)->h'.get? S=iO { cls:=.type "list",dict:=iQ,data:=.seq acc c,slots:=#[] }->as.length=min xs.size ys.size->ZG xs ys S h' as ->acc.toList=as.map aL->R (.ok (.ret res)) { s with heap:=h',toks:=tk }) :
  ∀ (k i:Nat) (h:Heap) (tk c:Nat) (acc:Array iR) (as:List Addr),min xs.size ys.size - i=k->i<=min xs.size ys.size->ZSt h b i as->lj h (b+2) (.ref b) (.ref (b+1))->ItK h b E k1 i->ItK h (b+1) C k2 i->SeqK h E k1 xs->SeqK h C k2 ys ->(∀ q o,q < b->h₁.get? q=iO o->h.get? q=iO o)->h.get? S=iO { cls:=.type "list",dict:=iQ,data:=.seq acc c,slots:=#[] }->acc.toList=as.map aL->as.length=i->ZG xs ys S h as ->lP (model prog w) A (.builtin "list.extend.loop" ⟨[.ref S,.ref (b+4),res],[]⟩) R { s with heap:=h,toks:=tk }:=by
 have D:=qah b E C h1 h2;have D1:mz prog w A.in1.in1 b [b,E] xs.size (λi v=>xs[i]?=iO v) (λi h=>ItK h b E k1 i/\SeqK h E k1 xs):=YG (A:=A.in1.in1) hh k1 b E (ay h1) xs;have D2:mz prog w A.in1.in1 (b+1) [b+1,C] ys.size (λi v=>ys[i]?=iO v) (λi h=>ItK h (b+1) C k2 i/\SeqK h C k2 ys):=YG (A:=A.in1.in1) hh k2 (b+1) C (ad (by lia)) ys;have s0:b≠S:=by lia
 have s1:b+1≠S:=by lia
 have s2:b+2≠S:=by lia
 have s4:b+4≠S:=by lia
 have w1:E≠S:=by lia
 have w2:C≠S:=by lia
 have sq:∀ {q},q < b->q≠S:=λh=>by lia
 intro k
 induction k with
 | zero=>
  intro i h tk c acc as hk hi N X Z Y q1 q2 d hS l B G;have L:i=xs.size\/(i < xs.size/\i=ys.size):=by lia
  refine lh PySem.F.entry_extend_loop ?_;rw [bt bW _];show iW _ A.in1 (lz (.ref (b+4)) >>= _) _ _ _;rcases N with ⟨_,hz,u,v,W⟩ | ⟨p,hp,hz⟩
  ·refine iP (Zd (s:={ s with heap:=h,toks:=tk }) D D1 D2 hz X W ⟨Z,q1⟩ ⟨Y,q2⟩ L λh' t he=>?_);have m:∀ q o,N4 b q->h.get? q=iO o->h'.get? q=iO o:=λq o n=>he q o n.1 n.2.1 n.2.2.1 n.2.2.2;exact iV (hR h' t acc c as (λq o h1 e=>m q o (lo4 h1) (d q o h1 e)) (m S _ (hi4 r) hS) (by lia) (G.mono λc o hc e=>m c o (hi4 (cR r hc)) e) l)
  ·have O:∃ o,h.get? p=iO o:=by obtain ⟨x,y,_,_,e3⟩:=G.pairs 0 p hp;exact ⟨_,e3⟩
   refine iP (Ue (s:={ s with heap:=h,toks:=tk }) D D1 D2 hz O X ⟨Z,q1⟩ ⟨Y,q2⟩ L λh' t he=>?_);have m:∀ q o,N4 b q->h.get? q=iO o->h'.get? q=iO o:=λq o n=>he q o n.1 n.2.2.1 n.2.2.2;exact iV (hR h' t acc c as (λq o h1 e=>m q o (lo4 h1) (d q o h1 e)) (m S _ (hi4 r) hS) (by lia) (G.mono λc o hc e=>m c o (hi4 (cR r hc)) e) l)
 | succ k ih=>
  intro i h tk c acc as hk hi N X Z Y q1 q2 d hS l B G;have J:i < xs.size:=by lia
  have I:i < ys.size:=by lia
  have hsz:acc.size=i:=by rw [<-bV,l,am,B]
  have hSl:S < h.objs.size:=aq hS;have step:∀ (x y:iR) (h':Heap) (t:Nat),xs[i]?=iO x->ys[i]?=iO y->(∀ H:List Addr,H[0]?=(as++[h.objs.size])[0]?->∃ p,H[0]?=iO p/\uH h' (b+4) (b+2) (b+3) p)->(ItK h' b E k1 (i+1)/\SeqK h' E k1 xs)->(ItK h' (b+1) C k2 (i+1)/\SeqK h' C k2 ys)->lj h' h.objs.size x y ->(∀ c o,N4 b c->h.get? c=iO o->h'.get? c=iO o) ->
    iW (model prog w) A.in1 (mZ S (·.push (aL h.objs.size)) >>= λ_=>again (.builtin "list.extend.loop" ⟨[.ref S,.ref (b+4),res],[]⟩))
     (λfin s'=>match fin with | .done f=>R (.ok f) s' | .again c'=>c'.quiet=iT/\lP (model prog w) A c' R s') (λe s'=>R (.error e) s') { s with heap:=h',toks:=t }:=by
   intro x y h' t ex ey hzz U T z g;have hS':=g S _ (hi4 r) hS;have up:∀ q o,q≠S->h'.get? q=iO o->(h'.update S (bx (·.push (aL h.objs.size)))).get? q=iO o:=λq o hq e=>(bE _ _ (bb hq)).trans e;refine iP (lY hS' rfl (iV ⟨lO bW _,ih (i+1) _ t _ (acc.push (aL h.objs.size)) (as++[h.objs.size]) (by lia) (by lia) ?_ (up _ _ s2 (g _ _ mi4 X)) (U.1.at λo e=>up _ o s0 e) (T.1.at λo e=>up _ o s1 e)
    (U.2.at λo e=>up _ o w1 e) (T.2.at λo e=>up _ o w2 e) (λq o hq e=>up q o (sq hq) (g q o (lo4 hq) (d q o hq e))) (aV _ hS' rfl) (by rw [fV,l,cM]; rfl) (by rw [ao,B]; rfl) ⟨?_,?_,?_⟩⟩)
    (by rw [hsz]; lia) (by show (acc.push (aL h.objs.size)).size<=sizeLine+1; rw [Array.size_push]; lia))
   ·obtain ⟨p,hp,c',hz⟩:=hzz (as++[h.objs.size]) rfl;exact .inr ⟨p,hp,c',up _ _ s4 hz⟩
   ·refine List.pairwise_append.mpr ⟨G.rise,c9 _ _,λa Q b' V=>?_⟩;rw [ax.mp V];obtain ⟨j,K⟩:=fy.mp Q;obtain ⟨_,_,_,_,e⟩:=G.pairs j a K;exact aq e
   ·intro a Q;rcases aG.mp Q with Q | Q;·exact G.above a Q
    ·rw [ax.mp Q]; exact hSl
   ·intro j a K;rcases Nat.lt_trichotomy j as.length with g1 | g1 | g1
    ·rw [cG g1] at K;obtain ⟨x',y',e1,e2,e3⟩:=G.pairs j a K;have V:=G.above a (dO K);exact ⟨x',y',e1,e2,up a _ (cw V) (g a _ (hi4 (cR r V)) e3)⟩
    ·subst g1;have V:h.objs.size=a:=by simpa using K
     subst V;exact ⟨x,y,by rw [B]; exact ex,by rw [B]; exact ey,up _ _ (cw hSl) z⟩
    ·have P:(as++[h.objs.size])[j]?=none:=bL (by rw [ao,fk]; lia);rw [P] at K; cases K
  refine lh PySem.F.entry_extend_loop ?_;rw [bt bW _];show iW _ A.in1 (lz (.ref (b+4)) >>= _) _ _ _;rcases N with ⟨hi0,hz,u,v,W⟩ | ⟨p,hp,hz⟩
  ·have has:as=[]:=eJ.mp (by lia);refine iP (WW (s:={ s with heap:=h,toks:=tk }) D D1 D2 hz X W ⟨Z,q1⟩ ⟨Y,q2⟩ J I λx y h' t p1 p2 M hTO' U T z g=>?_);exact step x y h' t p1 p2 (λH e=>⟨h.objs.size,by rw [e,has]; rfl,iS,M⟩) U T z λc o n e=>g c o n.1 n.2.1 n.2.2.1 n.2.2.2 e
  ·have O:∃ o,h.get? p=iO o:=by obtain ⟨x,y,_,_,e3⟩:=G.pairs 0 p hp;exact ⟨_,e3⟩
   refine iP (VJ (s:={ s with heap:=h,toks:=tk }) D D1 D2 hz O X ⟨Z,q1⟩ ⟨Y,q2⟩ J I λx y h' t p1 p2 M U T z g=>?_);exact step x y h' t p1 p2 (λH e=>⟨p,by rw [e]; cases as with | nil=>simp at hp | cons a as=>exact hp,M⟩) U T z λc o n e=>g c o n.1 n.2.2.1 n.2.2.2 e
end
theorem qaL:m9 (.type "zip") "__len__"=pure none:=by rw [lX,lu]; kernel_rfl
theorem Zm:m9 (.type "zip") "__length_hint__"=pure none:=by rw [lX,lu]; kernel_rfl
section
theorem qcz (hT:s.TypeIs (.ref z) "zip") (h:Q iT s):iW (model prog w) A (dL (.ref z)) Q E s:=by unfold dL;refine iP (wpAny_specialOf hT qaL ?_);show iW _ _ (specialOf (aL z) (aa "__length_hint__") >>= _) _ _ _;refine iP (wpAny_specialOf hT Zm ?_);exact iV h
theorem qcA {D C:Nat} {k1 k2:SK} {ys:Array iR} {Q:iR->iU->Prop} (M:A.handled=iQ) (h1:D < b) (h2:C < b) (hsz:s.heap.objs.size=b+5) (K:xs.size<=sizeLine)
  (hz:mG s.heap (b+4) (b+2) (b+3) .none) (X:lj s.heap (b+2) (.ref b) (.ref (b+1))) (W:∃ u v,lj s.heap (b+3) u v) (H:ItK s.heap b D k1 0) (G:ItK s.heap (b+1) C k2 0) (J:SeqK s.heap D k1 xs) (I:SeqK s.heap C k2 ys)
  (O:∀ h' tk acc c as,(∀ q o,q < b->s.heap.get? q=iO o->h'.get? q=iO o)->h'.get? (b+5)=iO { cls:=.type "list",dict:=iQ,data:=.seq acc c,slots:=#[] }->as.length=min xs.size ys.size->ZG xs ys (b+5) h' as->acc.toList=as.map aL->Q (.ref (b+5)) { s with heap:=h',toks:=tk }) :
  iW (model prog w) A (call (.type "list") [.ref (b+4)]) Q E s:=by
 refine callType_codes (Q₁:=λobj l=>obj=.ref s.heap.objs.size/\l={ s with heap:=s.heap.push { cls:=.type "list",data:=.seq #[] } }) PySem.F.called_list (PySem.F.typeCall_list_1 _) PySem.F.entry_list_init
  (code_list_new _ ⟨rfl,rfl⟩) λobj l h₁=>?_
 obtain ⟨rfl,rfl⟩:=h₁;have S:(s.heap.push { cls:=.type "list",data:=.seq #[] }).get? s.heap.objs.size=iO { cls:=.type "list",data:=.seq #[] }:=ah _ rfl;rw [hsz] at S ⊢;refine ⟨⟨_,S,rfl⟩,PySem.F.args_list_init_2 _ _,?_⟩;show iW _ _ (do let old <-Builtin.List.listItems (.ref (b+5)); Builtin.List.listUpdate (.ref (b+5)) (λ_=>#[]); letGo old.toList.reverse; bQ (.ref (b+5)) (.ref (b+4)) .none) _ _ _;refine iP ?_;unfold Builtin.List.listItems;refine iP (k6 S rfl (iV ?_));show iW _ _ (mZ (b+5) (λ_=>#[]) >>= λ_=>letGo (#[]:Array iR).toList.reverse >>= λ_=>bQ (.ref (b+5)) (.ref (b+4)) .none) _ _ _;refine iP (lY S rfl ?_);have d:=aV (bx (λ_=>(#[]:Array iR))) S rfl;have k:∀ q o,q≠b+5->s.heap.get? q=iO o->((s.heap.push { cls:=.type "list",data:=.seq #[] }).update (b+5) (bx (λ_=>(#[]:Array iR)))).get? q=iO o:=
  λq o hq e=>(bE _ _ (bb hq)).trans (ac _ e)
 refine iP (nk ?_);generalize (s.heap.push { cls:=.type "list",data:=.seq #[] }).update (b+5) (bx (λ_=>(#[]:Array iR)))=h₂ at d k;have f:mG h₂ (b+4) (b+2) (b+3) .none:=k _ _ (ad (by lia)) hz;have key:∀ (h:Heap) (i:Nat),(∀ q o,q≠b+5->h₂.get? q=iO o->h.get? q=iO o)->h.get? (b+5)=iO { cls:=.type "list",data:=.seq #[] i }->lP (model prog w) A.in1 (.builtin "list.extend.loop" ⟨[.ref (b+5),.ref (b+4),.none],[]⟩) (wants (λr t=>r=bO/\Q (.ref (b+5)) t) E) { s with heap:=h }:=by
  intro h i m p;obtain ⟨u,v,W⟩:=W;refine qcy (A:=A.in1) (s:=s) (h₁:=s.heap) (k1:=k1) (k2:=k2) (xs:=xs) (ys:=ys) M h1 h2 (by lia) K .none (λh' y acc c as z B hl P x=>⟨rfl,O h' y acc c as z B hl P x⟩)
   (min xs.size ys.size) 0 h s.toks i #[] [] (Nat.sub_zero _) (bi _) (.inl ⟨rfl,m _ _ (ad (by lia)) f,u,v,m _ _ (ad (by lia)) (k _ _ (ad (by lia)) W)⟩) (m _ _ (ad (by lia)) (k _ _ (ad (by lia)) X)) (H.at λo e=>m _ o (ad (by lia)) (k _ o (ad (by lia)) e)) (G.at λo e=>m _ o (ad (by lia)) (k _ o (ad (by lia)) e))
   (J.at λo e=>m _ o (ad (by lia)) (k _ o (ad (by lia)) e)) (I.at λo e=>m _ o (ad (by lia)) (k _ o (ad (by lia)) e)) (λq o hq e=>m q o (ad (by lia)) (k q o (ad (by lia)) e)) p rfl rfl ⟨dI,(λ_ N=>nomatch N),(λj a L=>by simp at L)⟩
 unfold bQ;refine iP (mn (T := "zip") ⟨_,f,rfl⟩ ?_);have e1:cT (.ref (b+5)) (.ref (b+4))=false:=by simp [cT]
 have U:(dN "zip" == dN "list")=false:=by decide
 have R:(dN "zip" == dN "tuple")=false:=by decide
 simp only [e1,U,R,g8,bY,if_false];refine iP (wpAny_pyIter_zip f ?_);refine iP (k9 (qcz ⟨_,f,rfl⟩ ?_));rw [Aa (by simp)];refine iP (l0 ?_);refine iP ?_;show iW _ _ (mZ (b+5) (·.push .none) >>= λ_=>mZ (b+5) (·.pop)) _ _ _;refine iP (lY d rfl ?_);have g:=aV (bx (·.push bO)) d rfl;refine lY (hz:=by seq_fits) g rfl ?_;have n:=aV (bx (·.pop)) g rfl;refine iV ⟨lO bW _,key _ _ (λq o hq e=>?_) n⟩;exact (bE _ _ (bb hq)).trans ((bE _ _ (bb hq)).trans e)
theorem qaM {k1 k2:SK} {i l:Addr} {Q:iR->iU->Prop} (t:SeqK s.heap i k1 xs) (f:SeqK s.heap l k2 ys)
  (h:∀ h':Heap,h'.objs.size=s.heap.objs.size+5->mG h' (s.heap.objs.size+4) (s.heap.objs.size+2) (s.heap.objs.size+3) .none->lj h' (s.heap.objs.size+2) (.ref s.heap.objs.size) (.ref (s.heap.objs.size+1)) ->lj h' (s.heap.objs.size+3) .none .none->ItK h' s.heap.objs.size i k1 0->ItK h' (s.heap.objs.size+1) l k2 0->(∀ c o,s.heap.get? c=iO o->h'.get? c=iO o)->Q (.ref (s.heap.objs.size+4)) { s with heap:=h' }) :
  iW (model prog w) A (call (.type "zip") [.ref i,.ref l]) Q E s:=by
 refine callType_new PySem.F.called_zip (by decide) (PySem.F.typeCall_zip_2 _ _) (PySem.F.newCall_zip_2 _ _) (λobj=>PySem.F.args_object_init_3 obj _ _) PySem.F.entry_zip_new (qae k1 k2 i l xs ys) ⟨t,f,?_⟩;have z1:(zH1 k1 s.heap i).objs.size=s.heap.objs.size+1:=bf ..;have z2:(zH2 k1 k2 s.heap i l).objs.size=s.heap.objs.size+2:=by rw [bf,z1]
 have a:(zH3 k1 k2 s.heap i l).objs.size=s.heap.objs.size+3:=by rw [bf,z2]
 have z:(zH4 k1 k2 s.heap i l).objs.size=s.heap.objs.size+4:=by rw [bf,a]
 have b:(zH5 k1 k2 s.heap i l).objs.size=s.heap.objs.size+5:=by rw [bf,z]
 have g:(zH5 k1 k2 s.heap i l).get? (zH4 k1 k2 s.heap i l).objs.size=iO _:=ah _ rfl;have L:(zH5 k1 k2 s.heap i l).get? (zH3 k1 k2 s.heap i l).objs.size=iO _:=ac _ (ah _ rfl);have W:(zH5 k1 k2 s.heap i l).get? (zH2 k1 k2 s.heap i l).objs.size=iO _:=ac _ (ac _ (ah _ rfl));have Y:(zH5 k1 k2 s.heap i l).get? (zH1 k1 s.heap i).objs.size=iO _:=ac _ (ac _ (ac _ (ah _ rfl)));have g1:(zH5 k1 k2 s.heap i l).get? s.heap.objs.size=iO _:=ac _ (ac _ (ac _ (ac _ (ah _ rfl))));show _/\_;rw [z2,a,z] at g;rw [z1,z2] at W;rw [a] at L;rw [z1] at Y;rw [z];exact ⟨⟨_,g,rfl⟩,h _ b g W L (.of ⟨_,g1,rfl,rfl⟩) (.of ⟨_,Y,rfl,rfl⟩) λc o x=>ac _ (ac _ (ac _ (ac _ (ac _ x))))⟩
end
theorem qaN (g:Same F F'):∀ {xs ys:List V} {ds es:List D} {as:List Addr},IsL K F xs ds->IsL K F ys es->as.length=min xs.length ys.length ->(∀ (j:Nat) (a:Addr) (x y:V),as[j]?=iO a->xs[j]?=iO x->ys[j]?=iO y->F' a=iO (.tup [x,y]))->IsL K F' (as.map V.ref) (qdi ds es)
 | _,_,_,_,[],.nil,_,_,_=>.nil
 | _,_,_,_,[],.cons _ _,.nil,_,_=>.nil
 | _,_,_,_,_::_,.nil,_,h,_=>by simp at h
 | _,_,_,_,_::_,.cons _ _,.nil,h,_=>by simp at h
 | _,_,_,_,[],.cons _ _,.cons _ _,h,_=>by simp at h
 | _,_,_,_,a::as,.cons (v:=x) h1 t1,.cons (v:=y) h2 t2,hl,hF=>
  .cons (.tup (.inl (.inl (hF 0 a x y rfl rfl rfl))) (.cons (h1.mono g) (.cons (h2.mono g) .nil))) (qaN g t1 t2 (by simp only [ai] at hl; lia) λj a x y e1 i E=>hF (j+1) a x y e1 i E)
section
variable {H':Hp}
theorem Inv.grown {t':Nat} (I:Inv X pins σ H s) (k:∀ b u,s.heap.get? b=iO u->h'.get? b=iO u) (old:∀ b o,H b=iO o->H' b=iO o) (low:∀ b,b < s.heap.objs.size->H b=iQ->H' b=iQ)
  (new:∀ b o,H b=iQ->H' b=iO o->ObjOk X.prog X.w H' h' b o):Inv X pins σ H' { s with heap:=h',toks:=t' }:=by
 refine I.un ⟨λb u q _ _ _=>k b u q,λb u q _ _ _=>⟨u.slots,k b u q⟩,λb u q n _=>low b (aq q) n,λb u q _=>⟨u,k b u q⟩,λb xs q=>old _ _ q,λb u xs q=>old _ _ q,λb ps q=>⟨#[],by rw [old _ _ q]; simp⟩⟩ λb u e=>?_;cases q:H b with
 | none=>exact new b u q e
 | some o=>have:=old b o q;rw [e] at this;cases this;exact (I.hok b u q).stay (λc v _ q=>k c v q) (λc q=>old _ _ q) λc xs q=>old _ _ q
theorem qeS {xs:List V} (I:Inv X pins σ H s):∀ {k:SK},SqK X.K H a k xs->xs.length<=sizeLine
 | .l,h=>let ⟨_,_,_,z⟩:=I.list h; z
 | .t,h=>let ⟨_,_,_,z⟩:=I.tuple h; z
end
noncomputable def vw (x y:D):Out D:=(Qz x).bind λds=>(Qz y).bind λes=>.ok (.lst (qdi ds es))
section
variable {a c:Expr} {fa fb:qZ} {mb:Mo} {pos p p2 pos2:Pos}
theorem Zn (hK:C.K=X.K) (hc:X.calm=iT) (hg:Gl X "list") (hm:X.mg "list"=iQ) (hv:iZ "list"=iO (.type "list")) (Z:Gl X "zip") (T:X.mg "zip"=iQ) (ha:PE X a (tE C own ma fa)) (i:PE X c (tE C own mb fb)) (S:ma≠.any:=by decide)
  (hs:iX [a,c] X.env=[(iS,eval a X.env),(iS,eval c X.env)]:=by exact UV rfl rfl) (d:iX [c] X.env=[(iS,eval c X.env)]:=by exact qE rfl)
  (m:iX [.Call (.Name "zip" p2) [a,c] [] pos2] X.env=[(iS,eval (.Call (.Name "zip" p2) [a,c] [] pos2) X.env)]:=by exact qE rfl) :
  PE X (.Call (.Name "list" p) [.Call (.Name "zip" p2) [a,c] [] pos2] [] pos) (tE C own .fr (d2 vw fa fb)):=by
 refine ⟨?_⟩;intro pins s σ H Q I h;refine lv (yn I hg hm hv ?_ (by decide) (by decide));refine bA ?_ (by rw [m]; rfl) rfl;rw [m];show iW _ _ (spliced ((iS,eval (.Call (.Name "zip" p2) [a,c] [] pos2) X.env)::[])) _ _ s;refine fL ?_;refine lv (yn I Z T qai ?_ (by decide) (by decide));refine bA (thn ((qJ ha (qJ i jK d) (by rw [hs,d])) pos2 pins s σ H _ I (Yu (mb:=mb) S h)) λus s1 ⟨vs,H1,k,r1,q1⟩=>?_) (by rw [hs,d]) (by rw [d]; rfl);obtain ⟨x,y,F,dx,dy,rfl,B,tx,ty,po⟩:=q1;obtain ⟨u1,u2,rfl,e1,e2⟩:=qbM r1;cases n1:Qz dx with
 | exc c' o=>unfold vw at po; rw [n1] at po; cases dx <;> cases n1
 | bad=>unfold vw at po; rw [n1] at po; exact po.elim
 | ok ds=>
  cases n2:Qz dy with
  | exc c' o=>unfold vw at po; rw [n1,n2] at po; cases dy <;> cases n2
  | bad=>unfold vw at po; rw [n1,n2] at po; exact po.elim
  | ok es=>
   have po:PoV C .fr F H1 (.ok (.lst (qdi ds es))) Q:=by unfold vw at po; rw [n1,n2] at po; exact po
   obtain ⟨a1,k1,xs,rfl,A,O⟩:=Yx B tx n1;obtain ⟨a2,k2,ys,rfl,w2,M⟩:=Yx B ty n2;rw [hK] at A w2;cases e1;cases e2;obtain ⟨L,v1,p1⟩:=qag k A;obtain ⟨N,v2,p2⟩:=qag k w2;refine qaM p1 p2 λh' hsz hz hTI hTO t1 t2 kp=>?_;refine fS ?_;have t:L.length=xs.length:=v1.length.symm;have W:N.length=ys.length:=v2.length.symm;have hn:xs.length<=sizeLine:=qeS k A;refine qcA (s:={ s1 with heap:=h' }) (b:=s1.heap.objs.size) (I.ok.hd hc) p1.lt p2.lt hsz (by rw [au,t]; exact hn) hz hTI ⟨_,_,hTO⟩ t1 t2 (p1.at λo e=>kp _ o e) (p2.at λo e=>kp _ o e) λh1 tk acc e' as J hp f G r=>?_;have E:∀ b o,s1.heap.get? b=iO o->h1.get? b=iO o:=λb o eb=>J b o (aq eb) (kp b o eb);have f:as.length=min xs.length ys.length:=by rw [f,au,au,t,W]
   have R:as.Nodup:=G.rise.imp λz=>ay z;have D:∀ q∈as.zip (dA (λx y=>[x,y]) xs ys),s1.heap.objs.size<=q.1:=λq hq=>by have:=G.above _ (dD hq).1;exact dh (Nat.lt_of_le_of_lt (dX _ 5) this)
   have hB:s1.heap.objs.size+5∉as:=λz=>bM _ (G.above _ z);have w:∀ q∈as.zip (dA (λx y=>[x,y]) xs ys),H1 q.1=none:=λq hq=>k.hok.fresh (D q hq);have g:H1 (s1.heap.objs.size+5)=none:=k.hok.fresh (dX _ _);have P:vg H1 (as.zip (dA (λx y=>[x,y]) xs ys)) (s1.heap.objs.size+5)=none:=by refine (zH λq hq z=>hB ?_).trans g;rw [<-z];exact (dD hq).1
   obtain ⟨s2,c2⟩:=YS (l:=as.zip (dA (λx y=>[x,y]) xs ys)) B w;obtain ⟨s3,c3,f3⟩:=kE (u:=.lst (as.map V.ref)) s2 P;have zw:∀ (j:Nat) (x y:V),xs[j]?=iO x->ys[j]?=iO y->(dA (λx y=>[x,y]) xs ys)[j]?=iO [x,y]:=λj x y e1 e2=>by rw [List.getElem?_zipWith,e1,e2]
   have il:=qaN (as:=as) c2.grow O M f λj b x y Y U j3=>by unfold vg;rw [qaJ R Y (zw j x y U j3)]
   have I3:Inv X pins σ (upd (vg H1 (as.zip (dA (λx y=>[x,y]) xs ys))) (s1.heap.objs.size+5) (.lst (as.map V.ref))) { s1 with heap:=h1,toks:=tk }:=by
    refine Inv.grown k E (λb o e=>?_) (λb i e=>?_) λb o n e=>?_;·rw [qu (qA e g)];exact kh w e
    ·rw [qu (ay (aH i (dX _ _))),zH λq hq z=>?_];·exact e
     ·exact absurd i (by rw [<-z]; exact Nat.not_lt.mpr (D q hq))
    ·by_cases i:b=s1.heap.objs.size+5;·subst i;rw [qm] at e;cases e;exact ⟨by rw [am,f]; lia,as.map aL,e',gJ as,by rw [hp,show acc=(as.map aL).toArray by rw [<-r,Array.toArray_toList]]⟩
     ·rw [qu i] at e;unfold vg at e;cases q:(as.zip (dA (λx y=>[x,y]) xs ys)).lookup b with
      | none=>rw [q,n] at e; cases e
      | some zs=>rw [q] at e;cases e;obtain ⟨j,Y,U⟩:=qaI q;obtain ⟨u,v,g1,g2,g3⟩:=G.pairs j b Y;obtain ⟨x,x1,x2⟩:=gt v1 (by simpa using g1);obtain ⟨y,y1,y2⟩:=gt v2 (by simpa using g2);rw [zw j x y x1 y1] at U;cases U;exact ⟨⟨by show 2<=_; rw [i9]; decide,_,g3,rfl⟩,[u,v],.cons x2 (.cons y2 .nil),_,g3,rfl,_,rfl⟩
   exact ⟨.ref (s1.heap.objs.size+5),_,I3,rfl,po _ _ _ s3 (c2.trans' c3) ⟨_,rfl,g,f3,_,qm,il⟩⟩
end
end L2.D2
namespace L2.D2
open PySem PySem.Spec PyProof.Rows
noncomputable def uX (c:Addr) (n:Str):Option (Option D)->Bool
 | some (iO (.ins k fs))=>decide (k=c)&&(fs.lookup n).isNone
 | _=>iS
noncomputable def qD (c:Addr) (i:Nat) (n:Str) (as:List AK) (G:jy) (fr:wq):qZ:=λρ=>if uX c n ρ[i]?=iT then qr (.sl i::as) G (jP fr) ρ else .bad
variable {X:Cx} {C:Ct} {own:List Nat} {as:List AK} {mr:Mo} {e:Expr} {es:List Expr} {x:Str} {pos:Pos} {ms:List PM} {ps:List Str} {i:Nat} {cv:Str->iR}
section
variable {fr:wq} {n:Str} {apos px:Pos} {c:Addr} {G:jy} {k j:Nat}
theorem YV {σ:St} {H:Hp} {Q:VK} (l:i∈own) (o:∀ i∈C.ox,i∈own) (hs:∀ j∈qR (.sl i::as),j∈own) (nd:(qR (.sl i::as)).Nodup) (f:frA (.sl i::as)<=1) (h:tE C own mr (qD c i n as G fr) σ H Q):∃ a dx fv,σ[i]?=iO (iO (.ref a))/\H a=iO (.ins c dx fv)/\fv.lookup n=iQ/\tAr C own as fr σ H λvs H1=>spD C.K C.cv ((AK.sl i::as).map xj) mr G (.ref a::vs++[]) H1 Q C.E:=by
 obtain ⟨F,ρ,p,h⟩:=h;obtain ⟨d,hd⟩:=p.opn i l;obtain ⟨a,h1,h2,h3⟩:=p.ow i d l hd;unfold qD at h;rw [hd] at h;cases d with
 | ins k fs=>
  by_cases z:uX c n (iO (iO (.ins k fs)))=iT;·rw [Aa z] at h;have z:(decide (k=c)&&(fs.lookup n).isNone)=true:=z;rw [aN] at z;obtain ⟨z1,z2⟩:=z;have z1:=Ae z1;subst z1;obtain ⟨dx,fv,g,t⟩:=h3;refine ⟨a,dx,fv,h1,g,t.non (by cases q:fs.lookup n with | none=>rfl | some y=>rw [q] at z2; cases z2),?_⟩;obtain ⟨F',ρ',r,h'⟩:=GG (as:=.sl i::as) o hs nd f ⟨F,ρ,p,h⟩;exact yz (a:=.sl i) (v:=.ref a) (λx z=>(r.OA_there z).1) r .refl h' λe H2 vs ds c2 b=>⟨h1,rfl,b⟩
  ·rw [Ab z] at h;exact h.elim
 | _=>exact h.elim
theorem zI {pl:Sem Bool} (q:Cls X.K c) (F:YM X.prog X.w X.K X.mg X.base cv j c n ps ms mr G) (r:Room k X.A) (D:j<=k) (hx:ky (CXk X.prog X.w) X C.E) (z:X.N[i]?=iO x) (b:Vis X.env.scope x) (m:i∈own) (y:PA X (e::es) (tAr C own as fr)) (v:C.cv=cv:=by rfl) (B:C.K=X.K:=by rfl) (s:ms=(AK.sl i::as).map xj:=by rfl)
  (hs:∀ j∈qR (.sl i::as),j∈own:=by decide) (nd:(qR (.sl i::as)).Nodup:=by decide) (p:frA (.sl i::as)<=1:=by decide) (o:∀ i∈C.ox,i∈own:=by exact kj rfl) (hd:Dbg x:=by decide) (d:Cdk x:=by decide)
  (t:iX (e::es) X.env=(iS,eval e X.env)::iX es X.env:=by exact jl rfl) (l:(li pos (iX es X.env)).any (·.1)=false:=by exact ug rfl)
  (ht:eval (.Call (.Attribute (.Name x px) n apos) (e::es) [] pos) X.env=(do
   let ov <-eval (.Name x px) X.env
   ny apos.atName
   let (f,first) <-holding [ov] (mX ov n pl)
   callWith pos f first (li pos (iX (e::es) X.env)) (lW pos (lr [] X.env))):=by rfl):PE X (.Call (.Attribute (.Name x px) n apos) (e::es) [] pos) (tE C own mr (qD c i n as G fr)):=by
 subst v s;obtain ⟨f,fd,F0,M,u⟩:=F;refine jz (qd0 (pl:=pl) (wA z b hd d) q M F0 (r.mono D) u .nil hx y t l ht) λσ H Q h=>?_;obtain ⟨a,dx,fv,h1,h2,h3,g⟩:=YV m o hs nd p h;rw [B] at g;exact ⟨_,h1,a,dx,fv,rfl,h2,h3,g⟩
theorem jA {pl:Sem Bool} (m:Cls X.K c) (F:YM X.prog X.w X.K X.mg X.base cv j c n ps ms mr G) (g:Room k X.A) (D:j<=k) (hx:ky (CXk X.prog X.w) X C.E) (q:X.N[i]?=iO x) (b:Vis X.env.scope x) (l:i∈own) (v:C.cv=cv:=by rfl) (t:C.K=X.K:=by rfl) (s:ms=[.io]:=by rfl)
  (o:∀ i∈C.ox,i∈own:=by exact kj rfl) (hd:Dbg x:=by decide) (d:Cdk x:=by decide)
  (ht:eval (.Call (.Attribute (.Name x px) n apos) [] [] pos) X.env=(do
   let ov <-eval (.Name x px) X.env
   ny apos.atName
   let (f,first) <-holding [ov] (mX ov n pl)
   callWith pos f first (li pos (iX [] X.env)) (lW pos (lr [] X.env))):=by rfl):PE X (.Call (.Attribute (.Name x px) n apos) [] [] pos) (tE C own mr (qD c i n [] G qv)):=by
 subst v s;obtain ⟨f,fd,F0,M,p⟩:=F;refine jz (qbQ (pl:=pl) (wA q b hd d) m M F0 (g.mono D) p .nil hx ht) λσ H Q h=>?_;obtain ⟨a,dx,fv,h1,h2,h3,F',ρ',r,e⟩:=YV (as:=[]) l o (λj D=>by
  rcases af.mp D with rfl | D;·exact l
  ·cases D) (by simp [qR]) (by simp [frA]) h
 rw [t] at e;exact ⟨_,h1,a,dx,fv,rfl,h2,h3,e [] F' H r .refl trivial⟩
end
variable {pos':Pos}
section
variable {own':List Nat} {G:jy} {fr:wq} {m ma mb:Mo} {a b:Expr} {p px:Pos} {k j:Nat} {fe f fa fb:qZ}
theorem cN (F:GP X.prog X.w X.K X.mg X.base cv j x ps ms mr G) (g:PA X (e::es) (tAr C own as fr)) (c:Room k X.A:=by assumption) (D:j<=k:=by decide) (hx:ky (CXk X.prog X.w) X C.E:=by exact wF) (hg:Gl X x:=by rfl) (v:C.cv=cv:=by rfl) (m:C.K=X.K:=by rfl) (s:ms=as.map xj:=by rfl) (hs:∀ i∈qR as,i∈own:=by decide) (nd:(qR as).Nodup:=by decide) (h:frA as<=1:=by decide) (o:∀ i∈C.ox,i∈own:=by exact kj rfl)
  (b:Dbg x:=by decide) (a:iX (e::es) X.env=(iS,eval e X.env)::iX es X.env:=by exact jl rfl) (l:(li pos (iX es X.env)).any (·.1)=false:=by exact ug rfl):PE X (.Call (.Name x p) (e::es) [] pos) (tE C own mr (qr as G fr)):=
 ju F c D hx hg g v m s hs nd h o b a l
theorem sl {x:Str} {px:Pos} (g:PA X es (tAr C own as fr)) (h:X.N[i]?=iO x:=by rfl) (c:Vis X.env.scope x:=by exact br rfl) (l:i∈own:=by decide) (hs:iX (.Name x px::es) X.env=(iS,eval (.Name x px) X.env)::iX es X.env:=by rfl)
  (hd:Dbg x:=by decide) (d:Cdk x:=by decide):PA X (.Name x px::es) (tAr C own (.sl i::as) (jP fr)):=Jx h c l g hs hd d
theorem vO {x:Str} (h:X.N[i]?=iO x:=by rfl) (c:Vis X.env.scope x:=by exact br rfl) (l:i∈own:=by decide) (hd:Dbg x:=by decide) (d:Cdk x:=by decide):PE X (.Name x pos) (tE C own .any (qc i)):=qeg h c l hd d
theorem se {x:Str} {pos':Pos} (a:PE X e (tE C own m fe)) (b:decide X.N.Nodup=true:=by kernel_rfl) (hi:X.N[i]?=iO x:=by rfl) (hx:Loc X.env.scope x:=by first | exact br rfl | exact fP rfl) (c:m≠.any:=by decide) (o:i∉C.io:=by exact yr rfl) (hs:lK e (iO (.Name x pos')) pos.line X.env=pure false:=by rfl)
  (h:X.fn x=iT\/X.env.scope.names.lookup x=iO .local:=by first | exact .inl rfl | exact .inr rfl):PS X (.Assign [.Name x pos'] e pos) (tSt C own (vF own [i]) (jJ i fe)):=qeo (Ae b) hi hx a c o hs h
theorem sO {x:Str} {pos':Pos} (a:PE X e (tE C own .fr fe)) (b:decide X.N.Nodup=true:=by kernel_rfl) (hi:X.N[i]?=iO x:=by rfl) (hx:Loc X.env.scope x:=by first | exact br rfl | exact fP rfl) (o:i∉C.io:=by exact yr rfl) (hs:lK e (iO (.Name x pos')) pos.line X.env=pure false:=by rfl)
  (h:X.fn x=iT\/X.env.scope.names.lookup x=iO .local:=by first | exact .inl rfl | exact .inr rfl):PS X (.Assign [.Name x pos'] e pos) (tSt C own (i::vF own [i]) (jJ i fe)):=qb3 (Ae b) hi hx a o hs h
theorem gn {x:Str} (a:decide X.N.Nodup=true:=by kernel_rfl) (hi:X.N[i]?=iO x:=by rfl) (hx:Loc X.env.scope x:=by first | exact br rfl | exact fP rfl) (l:i∉own:=by decide) (o:i∉C.io:=by exact yr rfl) (h:X.fn x=iT\/X.env.scope.names.lookup x=iO .local:=by first | exact .inl rfl | exact .inr rfl):PG X (.Name x pos) (tGd C own (gNm i)):=Yk (Ae a) hi hx l o h
theorem ix (g:PE X a (tE C own ma fa)) (d:PE X b (tE C own mb fb)) (c:Room k X.A:=by assumption) (hs:WD b:=by exact λ_ _=>rfl) (m:C.K=X.K:=by rfl) (f:ma≠.any:=by decide):PE X (.Subscript a b pos) (tE C own .sh (d2 ixD fa fb)):=qiV m c.units g d hs f
theorem tv (h:PE X e (tE C own m f)) (a:C.K=X.K:=by rfl) (i:∀ whole,isTrue e X.env whole=(do let v <-whole; ny e.pos; holding [v] (truthy v)):=by exact λ_=>rfl):PT X e (tT C own (uy f)):=qek a h i
end
noncomputable def tgN:Expr->List Str
 | .Name x _=>[x]
 | .Tuple es _ _=>es.flatMap λe=>match e with
  | .Name x _=>[x]
  | _=>[]
 | _=>[]
noncomputable def cNm (tg:Expr) (N:List Str) (cap:List Nat):List Str:=tgN tg++cap.map λk=>N.getD k aY
section
variable {elt iter tg:Expr} {ifs:List Expr} {scope:mC} {spos:Pos} {fi:wq} {g:D->Sl->Out Sl} {ft:xf} {fe:qZ} {me:Mo} {nt:Nat} {cap:List Nat}
theorem gC (a:decide X.N.Nodup=true:=by kernel_rfl) (hi:X.N[i]?=iO x:=by rfl) (hx:Loc X.env.scope x:=by first | exact br rfl | exact fP rfl) (l:i∉own:=by decide) (o:i∉C.io:=by exact yr rfl) (h:X.fn x=iT\/X.env.scope.names.lookup x=iO .local:=by first | exact .inl rfl | exact .inr rfl):PG X (.Name x pos) (tGd C own (gNm i)):=Yk (Ae a) hi hx l o h
theorem cmp (hi:PI X tg iter (tIt C own fi)) (i:∀ fp L s' H',PE (jr X scope (cNm tg X.N cap) fp L s' H') elt (tE (ctC C nt cap.length) (wz own nt cap) me fe)) (hg:∀ fp L s' H',PG (jr X scope (cNm tg X.N cap) fp L s' H') tg (tGd (ctC C nt cap.length) (wz own nt cap) g):=by exact λ_ _ _ _=>gC) (ht:∀ fp L s' H',PTs (jr X scope (cNm tg X.N cap) fp L s' H') ifs (tT (ctC C nt cap.length) (wz own nt cap) ft):=by exact λ_ _ _ _=>Ym)
  (P:X.calm=true:=by rfl) (bs:scB X.env.scope.names scope=true:=by kernel_rfl) (b:qh0 X.env.scope.names X.N scope (cNm tg X.N cap) nt cap=true:=by kernel_rfl) (j:me≠.any:=by decide) (hs:∀ x,lN iter X.env x=pure x:=by intro _; rfl) :
  PE X (.ListComp elt [⟨tg,iter,ifs,0⟩] scope pos) (tE C own .fr (jc own nt cap fi g ft fe)):=qew P (qgM rfl bs) (qdf rfl rfl b) hi hg ht i j hs
theorem qij {i:Nat} {x:Str} (hi:PI X tg iter (tIt C own fi)) (h:∀ fp L s' H',PE (jr X scope (cNm tg X.N cap) fp L s' H') elt (tE (ctC C nt cap.length) (wz own nt cap) me fe)) (hg:∀ fp L s' H',PG (jr X scope (cNm tg X.N cap) fp L s' H') tg (tGd (ctC C nt cap.length) (wz own nt cap) g):=by exact λ_ _ _ _=>gC) (ht:∀ fp L s' H',PTs (jr X scope (cNm tg X.N cap) fp L s' H') ifs (tT (ctC C nt cap.length) (wz own nt cap) ft):=by exact λ_ _ _ _=>Ym)
  (a:decide X.N.Nodup=true:=by kernel_rfl) (V:X.N[i]?=iO x:=by rfl) (hx:Loc X.env.scope x:=by first | exact br rfl | exact fP rfl) (P:X.calm=true:=by rfl) (bs:scB X.env.scope.names scope=true:=by kernel_rfl) (b:qh0 X.env.scope.names X.N scope (cNm tg X.N cap) nt cap=true:=by kernel_rfl) (j:me≠.any:=by decide) (o:i∉C.io:=by exact yr rfl)
  (G:lK (.ListComp elt [⟨tg,iter,ifs,0⟩] scope pos) (iO (.Name x pos')) spos.line X.env=pure true:=by rfl) (hs:∀ x,lN iter X.env x=pure x:=by intro _; rfl) (Y:X.fn x=iT\/X.env.scope.names.lookup x=iO .local:=by first | exact .inl rfl | exact .inr rfl) :
  PS X (.Assign [.Name x pos'] (.ListComp elt [⟨tg,iter,ifs,0⟩] scope pos) spos) (tSt C own (i::vF own [i]) (jJ i (jc own nt cap fi g ft fe))):=qcc (Ae a) V hx P (qgM rfl bs) (qdf rfl rfl b) hi hg ht h j o G hs Y
end
section
variable {P:i7} {w:i8} {K:Frag} {mg:Str->Option iR} {base:Heap} {st:Stmt} {N:List Str} {k:Nat} {fb:qK}
theorem dW (own':List Nat) (T:kW K mg x st ps)
  (a:∀ (cdv:iR) (f:Addr) (A:j9) (outer:List Env) (s:iU) (H:Hp) (E:XK),Room k (A.deeper (mL x (qx st) s.heap.objs.size f cdv)) ->PSs (cxk P w K mg base N x (qx st) f cdv A outer s H E) (ka st) (tSt (qfG K cv E ms mr) (jZ 0 ms) own' fb))
  (S:FnScope N ps (qx st):=by exact fsc) (hl:ms.length=ps.length:=by rfl) (g:∀ i∈Wv 0 ms,i∈own':=by exact kj rfl) (hmr:mr=.sh\/∀ ds ρ,(fb (qp N ds))≠.ok (.nx,ρ):=by exact .inl rfl):GP P w K mg base cv (k+1) x ps ms mr (jN N ms fb):=GQ T S a hl g hmr
end
end L2.D2
namespace L2.D2
open PySem
end L2.D2
namespace L2.D2
open PySem PySem.SetTable
end L2.D2
namespace L2.D2
open PySem PySem.Spec PyProof.Rows
def PoSF (C:Ct) (own own':List Nat) (σ:St) (F H:Hp) (r:Out (Fl×Sl)) (D:Ends):Prop:=match r with
 | .ok (.rt d,ρ')=>∀ v σ' F' H',Same F' H'->XM C.K C.io F' H' σ' ρ'->Chg (OA own σ) F H F' H'->(∀ i∈C.io,σ'[i]?=σ[i]?)->(∃ a,v=.ref a/\(H a=iQ\/OA own σ a)/\F' a=iQ/\OwnIs C.K F' H' a d)->D.rt v H'
 | r=>PoS C own own' σ F H r D
def qik (C:Ct) (own own':List Nat) (f:qK):TS:=λD σ H=>∃ F ρ,Rep C.K own F H σ ρ/\PoSF C own own' σ F H (f ρ) D
variable {X:Cx} {C:Ct} {own:List Nat} {pos:Pos} {x:Str}
section
variable {own' o1 o2 o3:List Nat} {st:Stmt} {sts rest:List Stmt} {f g:qK}
theorem PoSF.shift {σ σ1:St} {F H F1 H1:Hp} {ρ1:Sl} {r:Out (Fl×Sl)} {D:Ends} (h:PoSF C o1 o3 σ F H r D) (a:Nx C o1 o2 σ F H ρ1 σ1 F1 H1):PoSF C o2 o3 σ1 F1 H1 r D:=by
 cases r with
 | ok p=>
  obtain ⟨f,ρ'⟩:=p;cases f with
  | rt d=>
   intro v σ' F' H' s io c e ⟨x,b,hx,E,l⟩;refine h v σ' F' H' s io (a.chg.trans c a.oa) (λi hi=>(e i hi).trans (a.io i hi)) ⟨x,b,?_,E,l⟩;rcases hx with hx | hx
   ·refine .inl ?_;cases q:H x with
    | none=>rfl
    | some o=>exact absurd hx (a.chg.stay x (by rw [q]; simp))
   ·exact (a.oa x hx).symm
  | nx=>exact PoS.shift (o3:=o3) (r:=.ok (.nx,ρ')) h a
  | bk=>exact PoS.shift (o3:=o3) (r:=.ok (.bk,ρ')) h a
  | ct=>exact PoS.shift (o3:=o3) (r:=.ok (.ct,ρ')) h a
 | exc c=>exact PoS.shift (o3:=o3) (D:=D) (r:=.exc c _) h a
 | bad=>exact h.elim
theorem yK (m:C.mr=.fr) (h1:PS X st (tSt C o1 o2 f)) (h2:PSs X rest (qik C o2 o3 g)):PSs X (st::rest) (qik C o1 o3 (qG f g)):=Vf (US h1 h2) λD σ H h=>by
 obtain ⟨F,ρ,r,h⟩:=h;refine ⟨F,ρ,r,?_⟩;unfold qG at h;cases q:f ρ with
 | ok p=>
  rw [q] at h;obtain ⟨l,ρ1⟩:=p;cases l with
  | nx=>exact λσ' F' H' n=>⟨F',ρ1,n.rep,PoSF.shift (show PoSF C o1 o3 σ F H (g ρ1) D from h) n⟩
  | rt d=>exact λv σ' F' H' s io c e mo=>h v σ' F' H' s io c e (by rw [m] at mo; obtain ⟨a,e1,i,E⟩:=mo; exact ⟨a,e1,.inl i,E⟩)
  | bk=>exact h
  | ct=>exact h
 | exc c=>rw [q] at h; exact h
 | bad=>rw [q] at h; exact h.elim
theorem qeT {i:Nat} {p:Pos} (e:X.N[i]?=iO x:=by rfl) (c:Vis X.env.scope x:=by exact br rfl) (l:i∈own:=by decide) (o:∀ i∈C.io,i∈own:=by exact kj rfl) (hd:Dbg x:=by decide) (b:Cdk x:=by decide):PSs X [.Return (iO (.Name x p)) pos] (qik C own own' (jq (qc i))):=ZM (Qy (qc8 (wA e c hd b)) λD σ H ⟨F,ρ,r,h⟩=>by obtain ⟨d,hd⟩:=r.opn i l;obtain ⟨a,h1,h2,h3⟩:=r.ow i d l hd;unfold jq qc at h;rw [hd] at h;exact ⟨.ref a,h1,h (.ref a) σ F H r.sub (r.ioIs o) .refl (λ_ _=>rfl) ⟨a,rfl,.inr ⟨i,l,h1⟩,h2,h3⟩⟩)
theorem qhb (m:C.mr=.fr) (h:PSs X sts (qik C [] own' f)):PSs X sts (tSt C [] own' f):=Vf h λD σ H ⟨F,ρ,r,h⟩=>⟨F,ρ,r,by
 cases q:f ρ with
 | ok p=>
  rw [q] at h;obtain ⟨l,ρ1⟩:=p;cases l with
  | rt d=>exact λv σ' F' H' s io c e ⟨a,e1,i,E⟩=>h v σ' F' H' s io c e (by rw [m]; exact ⟨a,e1,i.resolve_right (λ⟨_,z,_⟩=>by cases z),E⟩)
  | _=>exact h
 | exc c=>rw [q] at h; exact h
 | bad=>rw [q] at h; exact h.elim⟩
theorem VL (h:∀ ρ ρ',g ρ≠.ok (.nx,ρ')) (ρ ρ':Sl):qG f g ρ≠.ok (.nx,ρ'):=by
 unfold qG;cases f ρ with
 | ok p=>
  obtain ⟨l,ρ1⟩:=p;cases l with
  | nx=>exact h ρ1 ρ'
  | _=>intro z; cases z
 | exc c o=>intro z; cases z
 | bad=>intro z; cases z
end
def qfO (x y:Str):Prop:=(y.length == 0)=iS/\(aO x y).1.length<=sizeLine/\(aO x y).2.1.length<=sizeLine/\(aO x y).2.2.length<=sizeLine
instance:∀ x y,Decidable (qfO x y):=λx y=>inferInstanceAs (Decidable (_/\_))
noncomputable def qeU:D->D->Out D
 | .str x,.str y=>if qfO x y then .ok (.tup [.str (aO x y).1,.str (aO x y).2.1,.str (aO x y).2.2]) else .bad
 | _,_=>.bad
section
variable {a b c1 c2:Expr} {fa fb:qZ} {m ma mb:Mo} {p1 p2:Pos}
theorem qaO {prog:i7} {w:i8} {A:j9} {E:iR->iU->Prop} {s:iU} {y:Str} {t u:Tok} {Q:iR->iU->Prop} (B:(y.length == 0)=iS) (hx:x.length<=sizeLine)
  (h:∀ ta tb tc k,Q (.ref s.heap.objs.size) { s with toks:=k,heap:=s.heap.push { cls:=.type "tuple",data:=.seq [.str (aO x y).1 ta,.str (aO x y).2.1 tb,.str (aO x y).2.2 tc].toArray } }) :
  iW (model prog w) A (call (.builtin "str.partition") [.str x t,.str y u]) Q E s:=by
 refine lT F.slot_str_partition (mQ _ _ _) F.entry_str_partition (F.args_str_partition_2 _ _) (meets_str_partition x y t u B hx) ?_;have h':=h;unfold aO at h';revert h';cases Builtin.Str.occurrences x y 0 x.length 1 with
 | nil=>intro h'; exact h' _ _ _ _
 | cons i r=>intro h'; exact h' _ _ _ _
theorem qeV:MtD X C .sh "str.partition" qeU:=by
 intro pins s σ H x vs v us Q I r j h;obtain ⟨y,F,dx,l,rfl,i,g,ty,po⟩:=h;obtain ⟨u,rfl,A⟩:=j.one;cases dx with
 | str c=>
  cases l with
  | str a=>
   obtain ⟨rfl,f⟩:=g.str;obtain ⟨rfl,m⟩:=ty.str;obtain ⟨t,rfl⟩:=r;obtain ⟨t',rfl⟩:=A;have po:PoV C .sh F H (if qfO c a then .ok (.tup [.str (aO c a).1,.str (aO c a).2.1,.str (aO c a).2.2]) else .bad) Q:=po;by_cases d:qfO c a
   ·rw [Aa d] at po;refine qaO d.1 f λta tb tc k=>?_;have n:Inv X pins σ (upd H s.heap.objs.size (.tup [.str (aO c a).1,.str (aO c a).2.1,.str (aO c a).2.2])) _:=
     I.laid (t':=k) (λb o e=>ac _ e) (ap _) (show ObjOk X.prog X.w _ _ _ (.tup [.str (aO c a).1,.str (aO c a).2.1,.str (aO c a).2.2]) from ⟨⟨by show 3<=_; rw [i9]; decide,_,ah _ rfl,rfl⟩,[.str (aO c a).1 ta,.str (aO c a).2.1 tb,.str (aO c a).2.2 tc],.cons ⟨ta,rfl⟩ (.cons ⟨tb,rfl⟩ (.cons ⟨tc,rfl⟩ .nil)),IsTup.new s.heap _⟩)
    obtain ⟨s2,c2⟩:=vW (u:=.tup [.str (aO c a).1,.str (aO c a).2.1,.str (aO c a).2.2]) i (I.hok.fresh (ap _));exact ⟨.ref s.heap.objs.size,_,n,rfl,po _ _ _ s2 c2 (.tup (.inl (.inl qm)) (.cons (.str d.2.1) (.cons (.str d.2.2.1) (.cons (.str d.2.2.2) .nil))))⟩
   ·rw [Ab d] at po;exact po.elim
  | _=>exact po.elim
 | _=>exact po.elim
noncomputable def k4 (p:Str) (d:D):Bool:=match qcu d with
 | some x=>decide ((x++p).length<=sizeLine)
 | none=>iS
noncomputable def Ja (p q:Str) (a b:D):Out D:=match qcu a,qcu b with
 | some x,iO y=>if (x++p++y++q).length<=sizeLine then .ok (.str (x++p++y++q)) else .bad
 | _,_=>.bad
theorem YW {p q:Str} {j1 j2} {f l:Pos} (E:PE X a (tE C own ma fa)) (D:PE X b (tE C own mb fb)) (n:ma≠.any:=by decide):PE X (.JoinedStr [.FormattedValue a (-1) iQ p1,.Constant (.str p) j1 f,.FormattedValue b (-1) iQ p2,.Constant (.str q) j2 l] pos) (tE C own .sh (dM (k4 p) (Ja p q) fa fb)):=by
 refine ⟨?_⟩;intro pins s σ H Q I h;have h:=Ub (ma:=ma) (mb:=mb) n h;refine wpAny_JoinedStr ?_;refine wpAny_FormattedValue_plain (thn (E pins s σ H _ I h) λv s1 ⟨x,H1,z,r1,f⟩=>?_);obtain ⟨⟨F1,dx,B,i,c⟩,f⟩:=f;unfold k4 at c;cases ex:qcu dx with
 | none=>rw [ex] at c; cases c
 | some d=>
  rw [ex] at c;have c:=Ae c;have f1:=qaz i ex;refine qdl z r1 f1 λt k=>⟨d,t,rfl,by rw [uF]; exact f1.len,?_⟩
  rw [uF];refine fI ⟨p,_,rfl,c,?_⟩;refine wpAny_FormattedValue_plain (thn (D pins _ σ H1 _ ((z.tok k).tok _) f) λu s2 ⟨y,H2,w,r2,l⟩=>?_);obtain ⟨F,r,J,j,g,ty,po⟩:=l;unfold Ja at po;cases e1:qcu r with
  | none=>simp only [e1] at po; exact po.elim
  | some A=>
   cases o:qcu J with
   | none=>simp only [e1,o] at po; exact po.elim
   | some e=>
    simp only [e1,o] at po;have f2:=qaz g e1;have G:=qaz ty o;have hx:d=A:=by cases f1 <;> cases f2 <;> rfl
    subst hx;by_cases hz:(d++p++e++q).length<=sizeLine
    ·rw [Aa hz] at po;have m:(d++p++e).length<=sizeLine:=bu (by rw [lZ (d++p++e)]; exact dX _ _) hz;refine qdl w r2 G λt' k'=>⟨e,t',rfl,m,?_⟩
     refine fI ⟨q,_,rfl,hz,hz,?_⟩;exact ⟨.str (d++p++e++q),H2,((w.tok k').tok _).tok _,⟨_,rfl⟩,po _ F H2 j .refl (.str hz)⟩
    ·rw [Ab hz] at po;exact po.elim
end
end L2.D2
set_option maxHeartbeats 4000000
namespace Kx
open PySem PySem.Spec PyProof.Rows L2 L2.D2
noncomputable def top (i:Nat):Stmt:=PySem.Challenge.pw_lookwords_k28_whole_lists_written.main.body.getD i (.Pass ⟨0,0,0,0⟩)
noncomputable def CS:List Str:=["NoWords", "NoLook", "NoRoom", "NoWord", "NoWorths", "Never", "Full", "Known", "NoText"]
noncomputable def FS:List Str:=[]
structure Zt (K:Frag) (mg:Str->Option iR) (cv:Str->iR) (ca:Str->Addr):Prop where
 xs:Xs K cv ca CS "WordError"
 mref:∀ c∈CS,mg c=iO (.ref (ca c))
 xin:∀ c∈CS,d7 K (ca c) bmV "ValueError.__new__"=iT
 fref:∀ x∈FS,mg x=iO (.ref (ca x))
 m_WordError:mg "WordError"=iO (cv "WordError")
 z_all:mg "all"=iQ
 z_bool:mg "bool"=iQ
 z_dict:mg "dict"=iQ
 z_enumerate:mg "enumerate"=iQ
 z_int:mg "int"=iQ
 z_isinstance:mg "isinstance"=iQ
 z_len:mg "len"=iQ
 z_list:mg "list"=iQ
 z_max:mg "max"=iQ
 z_min:mg "min"=iQ
 z_range:mg "range"=iQ
 z_set:mg "set"=iQ
 z_sorted:mg "sorted"=iQ
 z_str:mg "str"=iQ
 z_sum:mg "sum"=iQ
 z_tuple:mg "tuple"=iQ
 z_zip:mg "zip"=iQ
 c_LEAST_PLACE:∃ t,mg "LEAST_PLACE"=iO (.int (-3) t)
 c_MOST_LETTERS:∃ t,mg "MOST_LETTERS"=iO (.int 6 t)
 c_MOST_PLACE:∃ t,mg "MOST_PLACE"=iO (.int 2 t)
 c_MOST_ROOM:∃ t,mg "MOST_ROOM"=iO (.int 99 t)
 c_MOST_WORDS:∃ t,mg "MOST_WORDS"=iO (.int 6 t)
 m_Words:mg "Words"=iO (.ref (ca "Words"))
 b_cls:Cls K (ca "Words")
 b_no:∀ f∈(["look", "came", "width", "held"]:List Str),NoAttr K (ca "Words") f
theorem gK:iZ "all"=iO (.builtin "all"):=by decide +kernel
theorem qeW:iZ "bool"=iO (.type "bool"):=by decide +kernel
theorem Uf:iZ "dict"=iO (.type "dict"):=by decide +kernel
theorem qhc:iZ "int"=iO (.type "int"):=by decide +kernel
theorem qQ:iZ "isinstance"=iO (.builtin "isinstance"):=by decide +kernel
theorem jT:iZ "len"=iO (.builtin "len"):=by decide +kernel
theorem gL:iZ "list"=iO (.type "list"):=by decide +kernel
theorem qhd:iZ "max"=iO (.builtin "max"):=by decide +kernel
theorem qhe:iZ "min"=iO (.builtin "min"):=by decide +kernel
theorem qcB:iZ "range"=iO (.type "range"):=by decide +kernel
theorem qaP:iZ "set"=iO (.type "set"):=by decide +kernel
theorem gM:iZ "sorted"=iO (.builtin "sorted"):=by decide +kernel
theorem Jb:iZ "str"=iO (.type "str"):=by decide +kernel
theorem qaQ:iZ "sum"=iO (.builtin "sum"):=by decide +kernel
theorem vZ:iZ "tuple"=iO (.type "tuple"):=by decide +kernel
variable {ca:Str->Addr}
theorem rz {X:Cx} {C:Ct} {own own':List Nat} {as:List AK} {e:Expr} {es:List Expr} {fr:wq} {np cpos pos:Pos} (Z:Zt X.K X.mg C.cv ca) (c:Str) (g:PA X (e::es) (tAr C own as fr)) (h:c∈CS:=by decide +kernel) (d:X.ex=[]:=by rfl) (ht:Yn X C:=by exact qgR rfl) (P:X.calm=true:=by rfl) (hg:Gl X c:=by rfl) (hsz:as.length<=1000:=by decide) (o:∀ i∈C.ox,i∈own:=by exact kj rfl) (hd:Dbg c:=by decide)
  (a:iX (e::es) X.env=(iS,eval e X.env)::iX es X.env:=by exact jl rfl) (l:(li cpos (iX es X.env)).any (·.1)=false:=by rfl):PS X (.Raise (iO (.Call (.Name c np) (e::es) [] cpos)) iQ pos) (tSt C own own' (jd c fr)):=
 GM d ht P hg (Z.mref c h) (Z.xs.val c h) (Z.xin c h) g hsz o hd a l
instance {α:Type}:Inhabited (Out α):=⟨.bad⟩
structure Ev where
 P:i7
 w:i8
 K:Frag
 mg:Str->Option iR
 base:Heap
 cv:Str->iR
abbrev qC (e0:Ev):=GP e0.P e0.w e0.K e0.mg e0.base e0.cv
abbrev qeX (e0:Ev):=qaA e0.P e0.w e0.K e0.mg e0.base e0.cv
abbrev gN (e0:Ev):=YM e0.P e0.w e0.K e0.mg e0.base e0.cv
abbrev vh (e0:Ev):=kW e0.K e0.mg
abbrev ZtE (e0:Ev) (ca:Str->Addr):=Zt e0.K e0.mg e0.cv ca
section
variable {e0:Ev}
abbrev wH:Stmt:=top 17
abbrev VM:List Str:=["thing", "least", "most"]
noncomputable def wI:qK:=(qG (sIf (dOr (yw (uy (d1 (zp "int") (qc 0)))) (uy (d1 (zp "bool") (qc 0)))) (jq (dC (.bl iS))) jb)
  (jq (yy leD leD (qc 1) (qc 0) (qc 2))))
noncomputable abbrev jU:jy:=jN VM [.val,.val,.val] (wI)
abbrev kP (e0:Ev):=qC e0 1 "is_between" ["thing", "least", "most"] [.val,.val,.val] .sh (jU)
theorem JQ (Z:ZtE e0 ca) (T:vh e0 "is_between" wH ["thing", "least", "most"]):kP e0:=
 dW [] T λcdv f A outer s H E c=>(qd (qL (PW.pt (yx (ja (tv (yH rfl rfl Z.z_isinstance qQ rfl Z.z_int qhc vr))) (vE (tv (yH rfl rfl Z.z_isinstance qQ rfl Z.z_bool qeW vr))))) (qf (qg wx)) qB)
  (qf (qg (Ye Ve Ve vr vr vr))))
abbrev gO:Stmt:=top 21
abbrev qaR:List Str:=["thing"]
noncomputable def VN:qK:=(qG (sIf (dOr (yw (uy (d1 (zp "tuple") (qc 0)))) (qO (d2 neD (d1 uz (qc 0)) (dC (.int 2))))) (jq (dC (.bl iS))) jb)
  (jq (d1 Yv (jc [] 1 [] (jI (qc 0)) (gNm 0) ftT (qr [.vl,.vl,.vl] jU (qb (qc 0) (qb (dC (.int (-3))) (qb (dC (.int 2)) qv))))))))
noncomputable abbrev gP:jy:=jN qaR [.val] (VN)
abbrev Jc (e0:Ev):=qC e0 2 "is_look" ["thing"] [.val] .sh (gP)
theorem Zo (Z:ZtE e0 ca) (T:vh e0 "is_look" gO ["thing"]) (o:kP e0):Jc e0:=
 dW [] T λcdv f A outer s H E c=>(qd (qL (PW.pt (yx (ja (tv (yH rfl rfl Z.z_isinstance qQ rfl Z.z_tuple vZ vr))) (vE (qH (zW rfl c.units) (qy (kb rfl) rfl Z.z_len jT vr) qt)))) (qf (qg wx)) qB)
  (qf (qg (qy (gh rfl rfl) rfl Z.z_all gK (cmp (qM rfl vr) (λ_ _ _ _=>(ju o c (by decide) zo rfl (qa vr (qa (kt Z.c_LEAST_PLACE rfl) (qa (kt Z.c_MOST_PLACE rfl) qe))))))))))
abbrev wJ:Stmt:=top 26
abbrev VO:List Str:=["thing"]
noncomputable def xT:qK:=(sIf (yw (uy (qr [.vl] gP (qb (qc 0) qv)))) (jd "NoLook" (qb (dC (.str "a look is a tuple of two places from -3 to 2")) qv)) jb)
noncomputable abbrev vx:jy:=jN VO [.val] (xT)
abbrev wa (e0:Ev):=qC e0 3 "check_look" ["thing"] [.val] .sh (vx)
theorem JR (Z:ZtE e0 ca) (T:vh e0 "check_look" wJ ["thing"]) (O:Jc e0):wa e0:=
 dW [] T λcdv f A outer s H E c=>(qf (qL (ja (tv (cN O (qa vr qe)))) (qf (rz Z "NoLook" (qa jh qe))) qB))
abbrev jf:Stmt:=xi (top 50) 0
abbrev wt:List Str:=["self", "look"]
abbrev kJ:List Str:=["self", "look"]
theorem xq:FnScope wt kJ (qx jf):=fsc
noncomputable def kK (ca:Str->Addr):qK:=(qG (kM (qr [.vl] vx (qb (qc 1) qv)))
  (qG (gE (ca "Words") 0 "look" (qc 1))
  (qG (gE (ca "Words") 0 "came" (Vh qv))
  (qG (gE (ca "Words") 0 "width" (dC (.int 0)))
  (gE (ca "Words") 0 "held" (Vh qv))))))
noncomputable abbrev jO (ca:Str->Addr):jy:=jN wt [.io,.val] (kK ca)
abbrev kn (ca:Str->Addr) (e0:Ev):=qeX e0 4 (ca "Words") ["self", "look"] [.io,.val] (jO ca)
theorem xu (Z:ZtE e0 ca) (T:qeM e0.K (ca "Words") "Words.__init__" jf kJ) (o:wa e0):kn ca e0:=
 qeN (k:=3) (own':=[0]) (fb:=kK ca) T xq λcdv f A outer s H E c=>(qd (jt (cN o (qa vr qe)))
  (qd (uW rfl Z.b_cls (Z.b_no "look" (by decide +kernel)) (i:=0) rfl (br rfl) (by decide) vr)
  (qd (uW rfl Z.b_cls (Z.b_no "came" (by decide +kernel)) (i:=0) rfl (br rfl) (by decide) (uC qe))
  (qd (uW rfl Z.b_cls (Z.b_no "width" (by decide +kernel)) (i:=0) rfl (br rfl) (by decide) qt)
  (qf (uW rfl Z.b_cls (Z.b_no "held" (by decide +kernel)) (i:=0) rfl (br rfl) (by decide) (uC qe)))))))
abbrev jF:Stmt:=xi (top 50) 1
abbrev yL:List Str:=["self"]
theorem QF:FnScope yL ["self"] (qx jF):=fsc
noncomputable def wb (ca:Str->Addr):qK:=(jq (d1 (zr (ca "Words") "came") (qc 0)))
noncomputable abbrev qF (ca:Str->Addr):jy:=jN yL [.io] (wb ca)
abbrev kx (ca:Str->Addr) (e0:Ev):=gN e0 1 (ca "Words") "words" ["self"] [.io] .sh (qF ca)
theorem QG (Z:ZtE e0 ca) (T:gF e0.K (ca "Words") "words" "Words.words" jF ["self"]):kx ca e0:=
 gG (k:=0) (own':=[0]) (fb:=wb ca) T QF λcdv f A outer s H E c=>(qf (qg (vt rfl Z.b_cls (Z.b_no "came" (by decide +kernel)) vO)))
abbrev jV:Stmt:=xi (top 50) 2
abbrev xU:List Str:=["self"]
theorem JS:FnScope xU ["self"] (qx jV):=fsc
noncomputable def wK (ca:Str->Addr):qK:=(jq (d1 (zr (ca "Words") "width") (qc 0)))
noncomputable abbrev kA (ca:Str->Addr):jy:=jN xU [.io] (wK ca)
abbrev yM (ca:Str->Addr) (e0:Ev):=gN e0 1 (ca "Words") "room" ["self"] [.io] .sh (kA ca)
theorem JT (Z:ZtE e0 ca) (T:gF e0.K (ca "Words") "room" "Words.room" jV ["self"]):yM ca e0:=
 gG (k:=0) (own':=[0]) (fb:=wK ca) T JS λcdv f A outer s H E c=>(qf (qg (vt rfl Z.b_cls (Z.b_no "width" (by decide +kernel)) vO)))
abbrev jm:Stmt:=xi (top 50) 6
abbrev wL:List Str:=["self"]
theorem zt:FnScope wL ["self"] (qx jm):=fsc
noncomputable def vi (ca:Str->Addr):qK:=(jq (d2 vw (d1 (zr (ca "Words") "came") (qc 0)) (d1 (zr (ca "Words") "held") (qc 0))))
noncomputable abbrev jB (ca:Str->Addr):jy:=jN wL [.io] (vi ca)
abbrev wu (ca:Str->Addr) (e0:Ev):=gN e0 1 (ca "Words") "numbers" ["self"] [.io] .sh (jB ca)
theorem zu (Z:ZtE e0 ca) (T:gF e0.K (ca "Words") "numbers" "Words.numbers" jm ["self"]):wu ca e0:=
 gG (k:=0) (own':=[0]) (fb:=vi ca) T zt λcdv f A outer s H E c=>(qf (qg (Zn rfl rfl rfl Z.z_list gL rfl Z.z_zip (vt rfl Z.b_cls (Z.b_no "came" (by decide +kernel)) vO) (vt rfl Z.b_cls (Z.b_no "held" (by decide +kernel)) vO))))
abbrev VP:Stmt:=top 53
abbrev VQ:List Str:=["some", "first", "second"]
noncomputable def xV (ca:Str->Addr):qK:=(qG (jJ 1 (d2 ixD (d1 (zr (ca "Words") "look") (qc 0)) (dC (.int 0))))
  (qG (jJ 2 (d2 ixD (d1 (zr (ca "Words") "look") (qc 0)) (dC (.int 1))))
  (jq (d1 (QE " ") (d2 vG (Vi (qb (dM (k4 " ") (Ja " " ":") (qc 1) (qc 2)) qv)) (d1 XV (qD (ca "Words") 0 "words" [] (qF ca) qv)))))))
noncomputable abbrev vy (ca:Str->Addr):jy:=jN VQ [.tk] (xV ca)
abbrev yN (ca:Str->Addr) (e0:Ev):=qC e0 2 "list_text" ["some"] [.tk] .sh (vy ca)
theorem JU (Z:ZtE e0 ca) (T:vh e0 "list_text" VP ["some"]) (o:kx ca e0):yN ca e0:=
 dW [] T λcdv f A outer s H E c=>(qd (se (ix (vt rfl Z.b_cls (Z.b_no "look" (by decide +kernel)) vO) qt))
  (qd (se (ix (vt rfl Z.b_cls (Z.b_no "look" (by decide +kernel)) vO) qt))
  (qf (qg (Ua rfl (jx (jQ rfl) (wD (qa (YW vr vr) qe)) (jv (WQ rfl) rfl Z.z_list gL (jA (i:=0) Z.b_cls o c (by decide) wF rfl (br rfl) (by decide)))))))))
abbrev uY:Stmt:=top 53
abbrev Ug:List Str:=["some", "first", "second"]
noncomputable def gQ (ca:Str->Addr):qK:=(qG (jJ 1 (d2 ixD (d1 (zr (ca "Words") "look") (qc 0)) (dC (.int 0))))
  (qG (jJ 2 (d2 ixD (d1 (zr (ca "Words") "look") (qc 0)) (dC (.int 1))))
  (jq (d1 (QE " ") (d2 vG (Vi (qb (dM (k4 " ") (Ja " " ":") (qc 1) (qc 2)) qv)) (d1 XV (qD (ca "Words") 0 "words" [] (qF ca) qv)))))))
noncomputable abbrev ko (ca:Str->Addr):jy:=jN Ug [.io] (gQ ca)
abbrev xW (ca:Str->Addr) (e0:Ev):=qC e0 2 "list_text" ["some"] [.io] .sh (ko ca)
theorem VR (Z:ZtE e0 ca) (T:vh e0 "list_text" uY ["some"]) (o:kx ca e0):xW ca e0:=
 dW [0] T λcdv f A outer s H E c=>(qd (se (ix (vt rfl Z.b_cls (Z.b_no "look" (by decide +kernel)) vO) qt))
  (qd (se (ix (vt rfl Z.b_cls (Z.b_no "look" (by decide +kernel)) vO) qt))
  (qf (qg (Ua rfl (jx (jQ rfl) (wD (qa (YW vr vr) qe)) (jv (WQ rfl) rfl Z.z_list gL (jA (i:=0) Z.b_cls o c (by decide) wF rfl (br rfl) (by decide)))))))))
abbrev wM:Stmt:=top 29
abbrev VS:List Str:=["thing"]
noncomputable def xX:qK:=(sIf (yw (uy (d1 (zp "str") (qc 0)))) (jd "NoText" (qb (dC (.str "this is no text")) qv)) jb)
noncomputable abbrev wN:jy:=jN VS [.val] (xX)
abbrev yO (e0:Ev):=qC e0 1 "check_text" ["thing"] [.val] .sh (wN)
theorem JV (Z:ZtE e0 ca) (T:vh e0 "check_text" wM ["thing"]):yO e0:=
 dW [] T λcdv f A outer s H E c=>(qf (qL (ja (tv (yH rfl rfl Z.z_isinstance qQ rfl Z.z_str Jb vr))) (qf (rz Z "NoText" (qa jh qe))) qB))
abbrev uZ:Stmt:=top 18
abbrev Uh:List Str:=["thing"]
noncomputable def wc:qK:=(jq (WI (d1 (zp "str") (qc 0)) (WI (d2 eqD (d1 uz (qc 0)) (dC (.int 1))) (yy leD leD (dC (.str "a")) (qc 0) (dC (.str "z"))))))
noncomputable abbrev vj:jy:=jN Uh [.val] (wc)
abbrev wO (e0:Ev):=qC e0 1 "is_letter" ["thing"] [.val] .sh (vj)
theorem VT (Z:ZtE e0 ca) (T:vh e0 "is_letter" uZ ["thing"]):wO e0:=
 dW [] T λcdv f A outer s H E c=>(qf (qg (Yc (yH rfl rfl Z.z_isinstance qQ rfl Z.z_str Jb vr) (Yc (yt (yv rfl c.units) (qy (kb rfl) rfl Z.z_len jT vr) qt) (Yb (Ye Ve Ve jh vr jh))))))
abbrev gR:Stmt:=top 19
abbrev qaS:List Str:=["thing"]
noncomputable def VU:qK:=(qG (sIf (dOr (yw (uy (d1 (zp "str") (qc 0)))) (yw (qO (yy leD leD (dC (.int 1)) (d1 uz (qc 0)) (dC (.int 6)))))) (jq (dC (.bl iS))) jb)
  (jq (d1 Yv (jc [] 1 [] (jI (qc 0)) (gNm 0) ftT (qr [.vl] vj (qb (qc 0) qv))))))
noncomputable abbrev wP:jy:=jN qaS [.val] (VU)
abbrev xw (e0:Ev):=qC e0 2 "is_word" ["thing"] [.val] .sh (wP)
theorem Zp (Z:ZtE e0 ca) (T:vh e0 "is_word" gR ["thing"]) (o:wO e0):xw e0:=
 dW [] T λcdv f A outer s H E c=>(qd (qL (PW.pt (yx (ja (tv (yH rfl rfl Z.z_isinstance qQ rfl Z.z_str Jb vr))) (vE (ja (Vd Ve Ve qt (qy (kb rfl) rfl Z.z_len jT vr) (kt Z.c_MOST_LETTERS rfl)))))) (qf (qg wx)) qB)
  (qf (qg (qy (gh rfl rfl) rfl Z.z_all gK (cmp (qM rfl vr) (λ_ _ _ _=>(ju o c (by decide) zo rfl (qa vr qe))))))))
abbrev xx:Stmt:=top 20
abbrev Zq:List Str:=["thing"]
noncomputable def Jd:qK:=(qG (sIf (dOr (yw (uy (d1 (zp "tuple") (qc 0)))) (yw (qO (yy leD leD (dC (.int 1)) (d1 uz (qc 0)) (dC (.int 6)))))) (jq (dC (.bl iS))) jb)
  (jq (WI (d1 Yv (jc [] 1 [] (jI (qc 0)) (gNm 0) ftT (qr [.vl] wP (qb (qc 0) qv)))) (d2 eqD (d1 gB (qc 0)) (d1 uz (qc 0))))))
noncomputable abbrev xy:jy:=jN Zq [.val] (Jd)
abbrev gS (e0:Ev):=qC e0 3 "is_words" ["thing"] [.val] .sh (xy)
theorem Ui (Z:ZtE e0 ca) (T:vh e0 "is_words" xx ["thing"]) (o:xw e0):gS e0:=
 dW [] T λcdv f A outer s H E c=>(qd (qL (PW.pt (yx (ja (tv (yH rfl rfl Z.z_isinstance qQ rfl Z.z_tuple vZ vr))) (vE (ja (Vd Ve Ve qt (qy (kb rfl) rfl Z.z_len jT vr) (kt Z.c_MOST_WORDS rfl)))))) (qf (qg wx)) qB)
  (qf (qg (Yc (qy (gh rfl rfl) rfl Z.z_all gK (cmp (qM rfl vr) (λ_ _ _ _=>(ju o c (by decide) zo rfl (qa vr qe))))) (Yb (yt (yv rfl c.units) (qan rfl rfl rfl Z.z_len jT rfl Z.z_set qaP vr) (qy (kb rfl) rfl Z.z_len jT vr)))))))
abbrev we:Stmt:=top 24
abbrev JW:List Str:=["thing"]
noncomputable def yP:qK:=(sIf (yw (uy (qr [.vl] xy (qb (qc 0) qv)))) (jd "NoWords" (qb (dC (.str "words are a tuple of 1 to 6 unlike words of 1 to 6 letters from a to z")) qv)) jb)
noncomputable abbrev wf:jy:=jN JW [.val] (yP)
abbrev uI (e0:Ev):=qC e0 4 "check_words" ["thing"] [.val] .sh (wf)
theorem QH (Z:ZtE e0 ca) (T:vh e0 "check_words" we ["thing"]) (O:gS e0):uI e0:=
 dW [] T λcdv f A outer s H E c=>(qf (qL (ja (tv (cN O (qa vr qe)))) (qf (rz Z "NoWords" (qa jh qe))) qB))
abbrev ya:Stmt:=top 31
abbrev Uj:List Str:=["word", "place", "at"]
noncomputable def yb:qK:=(qG (jJ 2 (dIf (qO (d2 geD (qc 1) (dC (.int 0)))) (qc 1) (d2 vG (d1 uz (qc 0)) (qc 1))))
  (jq (d2 ixD (qc 0) (d2 qh1 (dC (.int 0)) (d2 qh2 (qc 2) (d2 qdb (d1 uz (qc 0)) (dC (.int 1))))))))
noncomputable abbrev vk:jy:=jN Uj [.val,.val] (yb)
abbrev xY (e0:Ev):=qC e0 1 "letter_at" ["word", "place"] [.val,.val] .sh (vk)
theorem VV (Z:ZtE e0 ca) (T:vh e0 "letter_at" ya ["word", "place"]):xY e0:=
 dW [] T λcdv f A outer s H E c=>(qd (se (qel (qH qgy vr qt) vr (jx (jQ rfl) (qy (kb rfl) rfl Z.z_len jT vr) vr)))
  (qf (qg (ix vr (Vs (qgN rfl) rfl Z.z_max qhd qt (Vs (qgO rfl) rfl Z.z_min qhe vr (jx QP (qy (kb rfl) rfl Z.z_len jT vr) qt)))))))
abbrev Uk:Stmt:=top 32
abbrev qeY:List Str:=["words", "look"]
noncomputable def qaT:qK:=(qG (kM (qr [.vl] wf (qb (qc 0) qv)))
  (qG (kM (qr [.vl] vx (qb (qc 1) qv)))
  (jq (jc [] 1 [1] (jI (qc 0)) (gNm 0) ftT (Vh (qb (qr [.vl,.vl] vk (qb (qc 0) (qb (d2 ixD (qc 1) (dC (.int 0))) qv))) (qb (qr [.vl,.vl] vk (qb (qc 0) (qb (d2 ixD (qc 1) (dC (.int 1))) qv))) qv)))))))
noncomputable abbrev gT:jy:=jN qeY [.val,.val] (qaT)
abbrev JX (e0:Ev):=qC e0 5 "pairs" ["words", "look"] [.val,.val] .sh (gT)
theorem qcC (Z:ZtE e0 ca) (T:vh e0 "pairs" Uk ["words", "look"]) (Y:uI e0) (B:wa e0) (o:xY e0):JX e0:=
 dW [] T λcdv f A outer s H E c=>(qd (jt (cN Y (qa vr qe)))
  (qd (jt (cN B (qa vr qe)))
  (qf (qg (cmp (qM rfl vr) (λ_ _ _ _=>(uC (qa (ju o c (by decide) zo rfl (qa vr (qa (ix vr qt) qe))) (qa (ju o c (by decide) zo rfl (qa vr (qa (ix vr qt) qe))) qe)))))))))
abbrev wQ:Stmt:=top 27
abbrev VW:List Str:=["thing"]
noncomputable def xZ:qK:=(sIf (yw (uy (qr [.vl,.vl,.vl] jU (qb (qc 0) (qb (dC (.int 1)) (qb (dC (.int 99)) qv)))))) (jd "NoRoom" (qb (dC (.str "a room is a whole number from 1 to 99")) qv)) jb)
noncomputable abbrev wR:jy:=jN VW [.val] (xZ)
abbrev yQ (e0:Ev):=qC e0 2 "check_room" ["thing"] [.val] .sh (wR)
theorem JY (Z:ZtE e0 ca) (T:vh e0 "check_room" wQ ["thing"]) (o:kP e0):yQ e0:=
 dW [] T λcdv f A outer s H E c=>(qf (qL (ja (tv (cN o (qa vr (qa qt (qa (kt Z.c_MOST_ROOM rfl) qe)))))) (qf (rz Z "NoRoom" (qa jh qe))) qB))
abbrev xz:Stmt:=top 22
abbrev Zr:List Str:=["thing", "room"]
noncomputable def kY:qK:=(qG (sIf (dOr (yw (uy (d1 (zp "tuple") (qc 0)))) (qO (d2 neD (d1 uz (qc 0)) (dC (.int 2))))) (jq (dC (.bl iS))) jb)
  (jq (WI (qr [.vl] vj (qb (d2 ixD (qc 0) (dC (.int 0))) qv)) (qr [.vl,.vl,.vl] jU (qb (d2 ixD (qc 0) (dC (.int 1))) (qb (dC (.int 0)) (qb (d2 qdb (qc 1) (dC (.int 1))) qv)))))))
noncomputable abbrev uq:jy:=jN Zr [.val,.val] (kY)
abbrev gU (e0:Ev):=qC e0 2 "is_worth" ["thing", "room"] [.val,.val] .sh (uq)
theorem Ul (Z:ZtE e0 ca) (T:vh e0 "is_worth" xz ["thing", "room"]) (o:kP e0) (a:wO e0):gU e0:=
 dW [] T λcdv f A outer s H E c=>(qd (qL (PW.pt (yx (ja (tv (yH rfl rfl Z.z_isinstance qQ rfl Z.z_tuple vZ vr))) (vE (qH (zW rfl c.units) (qy (kb rfl) rfl Z.z_len jT vr) qt)))) (qf (qg wx)) qB)
  (qf (qg (Yc (cN a (qa (ix vr qt) qe)) (Yb (cN o (qa (ix vr qt) (qa qt (qa (jx QP vr qt) qe)))))))))
abbrev yc:Stmt:=top 23
abbrev Um:List Str:=["thing", "room", "letters"]
noncomputable def yd:qK:=(qG (sIf (dOr (yw (uy (d1 (zp "tuple") (qc 0)))) (yw (uy (d1 Yv (jc [] 1 [1] (jI (qc 0)) (gNm 0) ftT (qr [.vl,.vl] uq (qb (qc 0) (qb (qc 1) qv)))))))) (jq (dC (.bl iS))) jb)
  (qG (jJ 2 (jc [] 1 [] (jI (qc 0)) (gNm 0) ftT (d2 ixD (qc 0) (dC (.int 0)))))
  (jq (d2 eqD (qc 2) (d1 um (qc 2))))))
noncomputable abbrev kq:jy:=jN Um [.val,.val] (yd)
abbrev za (e0:Ev):=qC e0 3 "is_worths" ["thing", "room"] [.val,.val] .sh (kq)
theorem VX (Z:ZtE e0 ca) (T:vh e0 "is_worths" yc ["thing", "room"]) (O:gU e0):za e0:=
 dW [] T λcdv f A outer s H E c=>(qd (qL (PW.pt (yx (ja (tv (yH rfl rfl Z.z_isinstance qQ rfl Z.z_tuple vZ vr))) (vE (ja (tv (qy (gh rfl rfl) rfl Z.z_all gK (cmp (qM rfl vr) (λ_ _ _ _=>(ju O c (by decide) zo rfl (qa vr (qa vr qe))))))))))) (qf (qg wx)) qB)
  (qd (qij (qM rfl vr) (λ_ _ _ _=>(ix vr qt)))
  (vo [2] (qf (qg (yt (yv rfl c.units) vr (QZ rfl rfl rfl Z.z_sorted gM rfl Z.z_set qaP vr)))))))
abbrev vH:Stmt:=top 28
abbrev QI:List Str:=["thing", "room"]
noncomputable def uJ:qK:=(sIf (yw (uy (qr [.vl,.vl] kq (qb (qc 0) (qb (qc 1) qv))))) (jd "NoWorths" (qb (dC (.str "worths are a rising tuple of unlike letters, each with a number within the room")) qv)) jb)
noncomputable abbrev vI:jy:=jN QI [.val,.val] (uJ)
abbrev wS (e0:Ev):=qC e0 4 "check_worths" ["thing", "room"] [.val,.val] .sh (vI)
theorem gW (Z:ZtE e0 ca) (T:vh e0 "check_worths" vH ["thing", "room"]) (O:za e0):wS e0:=
 dW [] T λcdv f A outer s H E c=>(qf (qL (ja (tv (cN O (qa vr (qa vr qe))))) (qf (rz Z "NoWorths" (qa jh qe))) qB))
abbrev wT:Stmt:=top 33
abbrev VY:List Str:=["seen"]
noncomputable def zb:qK:=(jq (d1 um (d2 vG (jc [] 1 [] (jI (qc 0)) (gNm 0) ftT (d2 ixD (qc 0) (dC (.int 0)))) (jc [] 1 [] (jI (qc 0)) (gNm 0) ftT (d2 ixD (qc 0) (dC (.int 1)))))))
noncomputable abbrev qT:jy:=jN VY [.val] (zb)
abbrev kQ (e0:Ev):=qC e0 1 "letters_of" ["seen"] [.val] .sh (qT)
theorem JZ (Z:ZtE e0 ca) (T:vh e0 "letters_of" wT ["seen"]):kQ e0:=
 dW [] T λcdv f A outer s H E c=>(qf (qg (QZ rfl rfl rfl Z.z_sorted gM rfl Z.z_set qaP (jx (jQ rfl) (cmp (qM rfl vr) (λ_ _ _ _=>(ix vr qt))) (cmp (qM rfl vr) (λ_ _ _ _=>(ix vr qt)))))))
abbrev Ka:Stmt:=top 34
abbrev qcD:List Str:=["total", "room"]
noncomputable def YX:qK:=(jq (dIf (qO (d2 geD (qc 0) (qc 1))) (d2 qdb (qc 0) (qc 1)) (qc 0)))
noncomputable abbrev zJ:jy:=jN qcD [.val,.val] (YX)
abbrev VZ (e0:Ev):=qC e0 1 "within" ["total", "room"] [.val,.val] .sh (zJ)
theorem qaU (Z:ZtE e0 ca) (T:vh e0 "within" Ka ["total", "room"]):VZ e0:=
 dW [] T λcdv f A outer s H E c=>(qf (qg (qel (qH qgy vr vr) (jx QP vr vr) vr)))
abbrev xA:Stmt:=top 35
abbrev Zs:List Str:=["words", "look", "room", "worths", "seen", "worth_of"]
noncomputable def xB:qK:=(qG (jJ 4 (qr [.vl,.vl] gT (qb (qc 0) (qb (qc 1) qv))))
  (qG (kM (qr [.vl] wR (qb (qc 2) qv)))
  (qG (kM (qr [.vl,.vl] vI (qb (qc 3) (qb (qc 2) qv))))
  (qG (jJ 5 (d1 qcj (qc 3)))
  (qG (sIf (yw (uy (d1 Yv (jc [] 1 [5] (jI (qr [.vl] qT (qb (qc 4) qv))) (gNm 0) ftT (d2 inA (qc 0) (qc 1)))))) (jd "NoWorths" (qb (dC (.str "a letter that is seen has no worth")) qv)) jb)
  (jq (d1 gf (jc [] 1 [2,5] (jI (qc 4)) (gNm 0) ftT (qr [.vl,.vl] zJ (qb (d2 vG (d2 ixD (qc 2) (d2 ixD (qc 0) (dC (.int 0)))) (d2 ixD (qc 2) (d2 ixD (qc 0) (dC (.int 1))))) (qb (qc 1) qv)))))))))))
noncomputable abbrev ur:jy:=jN Zs [.val,.val,.val,.val] (xB)
abbrev gX (e0:Ev):=qC e0 6 "numbered" ["words", "look", "room", "worths"] [.val,.val,.val,.val] .sh (ur)
theorem Uo (Z:ZtE e0 ca) (T:vh e0 "numbered" xA ["words", "look", "room", "worths"]) (a:yQ e0) (U:wS e0) (R:JX e0) (o:kQ e0) (O:VZ e0):gX e0:=
 dW [] T λcdv f A outer s H E c=>(qd (se (cN R (qa vr (qa vr qe))))
  (qd (jt (cN a (qa vr qe)))
  (qd (jt (cN U (qa vr (qa vr qe))))
  (qd (se (jv (qeA rfl rfl) rfl Z.z_dict Uf vr))
  (qd (qL (ja (tv (qy (gh rfl rfl) rfl Z.z_all gK (cmp (qM rfl (cN o (qa vr qe))) (λ_ _ _ _=>(yt (YD rfl c.units) vr vr)))))) (qf (rz Z "NoWorths" (qa jh qe))) qB)
  (qf (qg (jv (JE rfl) rfl Z.z_tuple vZ (cmp (qM rfl vr) (λ_ _ _ _=>(ju O c (by decide) zo rfl (qa (jx (jQ rfl) (ix vr (ix vr qt)) (ix vr (ix vr qt))) (qa vr qe)))))))))))))
abbrev ye:Stmt:=top 37
abbrev Up:List Str:=["one", "two"]
noncomputable def yf:qK:=(jq (qhV (d2 eqD (qc 0) (qc 1)) (d2 eqD (qc 0) (Vh (qb (d2 ixD (qc 1) (dC (.int 1))) (qb (d2 ixD (qc 1) (dC (.int 0))) qv))))))
noncomputable abbrev wg:jy:=jN Up [.val,.val] (yf)
abbrev zc (e0:Ev):=qC e0 1 "are_alike" ["one", "two"] [.val,.val] .sh (wg)
theorem Wa (Z:ZtE e0 ca) (T:vh e0 "are_alike" ye ["one", "two"]):zc e0:=
 dW [] T λcdv f A outer s H E c=>(qf (qg (qiU (yt (yv rfl c.units) vr vr) (Yb (yt (yv rfl c.units) vr (uC (qa (ix vr qt) (qa (ix vr qt) qe))))))))
abbrev xC:Stmt:=top 38
abbrev Zu:List Str:=["seen", "later", "pair", "ahead"]
noncomputable def Je:qK:=(qG (Vj (qaw (qc 0)) (zn 2 (jR (gNm 1) (jR (gNm 2) zm)))
  (Vj (vb (qc 1)) (gNm 3)
  (sIf (uy (qr [.vl,.vl] wg (qb (d2 ixD (qc 0) (qc 3)) (qb (qc 2) qv)))) (jq (Vh (qb (qc 3) (qb (qc 1) qv)))) jb)))
  (jq (dC .non)))
noncomputable abbrev ut:jy:=jN Zu [.val] (Je)
abbrev gY (e0:Ev):=qC e0 2 "clash_of" ["seen"] [.val] .sh (ut)
theorem Uq (Z:ZtE e0 ca) (T:vh e0 "clash_of" xC ["seen"]) (O:zc e0):gY e0:=
 dW [] T λcdv f A outer s H E c=>(qd (kG aX rfl (YQ rfl rfl Z.z_enumerate vr) (GH rfl rfl (yD gn (yD gn Yl)))
  (qf (kG aX rfl (xl rfl Z.z_range vr) gn
  (qf (qL (tv (cN O (qa (ix vr vr) (qa vr qe)))) (qf (qg (uC (qa vr (qa vr qe))))) qB)))))
  (qf (qg UW)))
abbrev Kb:Stmt:=top 44
abbrev Kc:List Str:=["fixed", "letter", "worth", "more"]
noncomputable def yR:qK:=(qG (jJ 3 (d1 VF (qc 0)))
  (qG (VD 3 (qc 2) (qc 1))
  (jq (qc 3))))
noncomputable abbrev kR:jy:=jN Kc [.io,.val,.val] (yR)
abbrev uK (e0:Ev):=qC e0 1 "with_worth" ["fixed", "letter", "worth"] [.io,.val,.val] .sh (kR)
theorem QJ (Z:ZtE e0 ca) (T:vh e0 "with_worth" Kb ["fixed", "letter", "worth"]):uK e0:=
 dW [0] T λcdv f A outer s H E c=>(qd (sO (jv (YR rfl) rfl Z.z_dict Uf vO))
  (qd (JN (n:=3) c.units rfl (br rfl) (by decide) vr vr)
  (vo [3] (qf (qg vr)))))
abbrev xD:Stmt:=top 39
abbrev Zv:List Str:=["pair", "seen", "fixed", "letter"]
noncomputable def Jf:qK:=(qG (Vj (jI (qc 0)) (gNm 3)
  (sIf (qgx (qO (d2 YB (qc 3) (qc 2))) (qO (d2 eqD (d1 JO (jc [] 1 [3] (jI (qc 1)) (gNm 0) ftT (dM qfN uG (qc 0) (qc 1)))) (dC (.int 1))))) (jq (dC (.bl iT))) jb))
  (jq (dC (.bl iS))))
noncomputable abbrev jW:jy:=jN Zv [.val,.val,.val] (Jf)
abbrev gZ (e0:Ev):=qC e0 1 "is_loose" ["pair", "seen", "fixed"] [.val,.val,.val] .sh (jW)
theorem Ur (Z:ZtE e0 ca) (T:vh e0 "is_loose" xD ["pair", "seen", "fixed"]):gZ e0:=
 dW [] T λcdv f A outer s H E c=>(qd (kG aX rfl (qM rfl vr) gn
  (qf (qL (PW.pt (Gy (qH (gk rfl c.units) vr vr) (vE (qH (yv rfl c.units) (qy (Ud rfl rfl) rfl Z.z_sum qaQ (cmp (qM rfl vr) (λ_ _ _ _=>(qaF rfl c.units vr vr)))) qt)))) (qf (qg wx)) qB)))
  (qf (qg wx)))
abbrev wj:Stmt:=top 40
abbrev yS:List Str:=["seen", "fixed", "kept", "rest"]
noncomputable def yT:qK:=(qG (jJ 2 (qc 0))
  (qG (jJ 3 (jc [] 1 [2,1] (jI (qc 2)) (gNm 0) (yw (uy (qr [.vl,.vl,.vl] jW (qb (qc 0) (qb (qc 1) (qb (qc 2) qv)))))) (qc 0)))
  (qG (qS (qO (d2 ltD (d1 uz (qc 3)) (d1 uz (qc 2))))
  (qG (jJ 2 (qc 3))
  (qG (jJ 3 (jc [] 1 [2,1] (jI (qc 2)) (gNm 0) (yw (uy (qr [.vl,.vl,.vl] jW (qb (qc 0) (qb (qc 1) (qb (qc 2) qv)))))) (qc 0))) jb)) 20)
  (jq (qc 2)))))
noncomputable abbrev wk:jy:=jN yS [.val,.val] (yT)
abbrev uL (e0:Ev):=qC e0 2 "bound_pairs" ["seen", "fixed"] [.val,.val] .sh (wk)
theorem QK (Z:ZtE e0 ca) (T:vh e0 "bound_pairs" wj ["seen", "fixed"]) (o:gZ e0):uL e0:=
 dW [] T λcdv f A outer s H E c=>(qd (se vr)
  (qd (qij (qM rfl vr) (λ_ _ _ _=>vr) (ht:=λ_ _ _ _=>(WK (ja (tv (ju o c (by decide) zo rfl (qa vr (qa vr (qa vr qe)))))))))
  (vo [3] (qd (zZ 20 aX (qH qbZ (qy (kb rfl) rfl Z.z_len jT vr) (qy (kb rfl) rfl Z.z_len jT vr))
  (qd (se vr)
  (qd (qij (qM rfl vr) (λ_ _ _ _=>vr) (ht:=λ_ _ _ _=>(WK (ja (tv (ju o c (by decide) zo rfl (qa vr (qa vr (qa vr qe)))))))))
  (vo [3] qB))))
  (qf (qg vr))))))
abbrev xE:Stmt:=top 41
abbrev Jg:List Str:=["one", "two", "first", "second", "letter"]
noncomputable def Jh:qK:=(qG (jJ 2 (d1 XV (qc 0)))
  (qG (jJ 3 (Vi qv))
  (qG (Vj (jI (qc 1)) (gNm 4)
  (sIf (qO (d2 inA (qc 4) (qc 2))) (kM (JD 2 qeP (qc 4))) (kM (JD 3 ZJ (qc 4)))))
  (jq (Vh (qb (qc 2) (qb (qc 3) qv)))))))
noncomputable abbrev kr:jy:=jN Jg [.val,.val] (Jh)
abbrev Qa (e0:Ev):=qC e0 1 "unshared" ["one", "two"] [.val,.val] .sh (kr)
theorem Us (Z:ZtE e0 ca) (T:vh e0 "unshared" xE ["one", "two"]):Qa e0:=
 dW [] T λcdv f A outer s H E c=>(qd (sO (jv (WQ rfl) rfl Z.z_list gL vr))
  (qd (sO (wD qe))
  (qd (kG aX rfl (qM rfl vr) gn
  (qf (qL (qH (YD rfl c.units) vr vO) (qf (jt (qaD (i:=2) rfl (br rfl) (by decide) vr))) (qf (jt (ge (i:=3) rfl rfl (br rfl) (by decide) vr))))))
  (vo [2,3] (qf (qg (uC (qa vr (qa vr qe)))))))))
abbrev vJ:Stmt:=top 42
abbrev QL:List Str:=["seen", "found", "later", "pair"]
noncomputable def uM:qK:=(qG (jJ 1 (Vi qv))
  (qG (Vj (qaw (qc 0)) (zn 2 (jR (gNm 2) (jR (gNm 3) zm)))
  (kM (JD 1 qgL (jc [1] 1 [3] (jI (km (qc 0) iQ (iO (qc 2)))) (gNm 0) ftT (qr [.vl,.vl] kr (qb (qc 0) (qb (qc 1) qv)))))))
  (jq (qc 1))))
noncomputable abbrev vK:jy:=jN QL [.val] (uM)
abbrev wU (e0:Ev):=qC e0 2 "contrasts_of" ["seen"] [.val] .sh (vK)
theorem Qb (Z:ZtE e0 ca) (T:vh e0 "contrasts_of" vJ ["seen"]) (O:Qa e0):wU e0:=
 dW [] T λcdv f A outer s H E c=>(qd (sO (wD qe))
  (qd (kG aX rfl (YQ rfl rfl Z.z_enumerate vr) (GH rfl rfl (yD gn (yD gn Yl)))
  (qf (jt (GS (i:=1) rfl (br rfl) (by decide) (cmp (qM rfl (gI rfl vr JF (JG vr))) (λ_ _ _ _=>(ju O c (by decide) zo rfl (qa vr (qa vr qe)))))))))
  (vo [1] (qf (qg vr)))))
abbrev wV:Stmt:=top 43
abbrev zd:List Str:=["contrast", "room", "fixed", "first", "second"]
noncomputable def ze:qK:=(qG (jJ 3 (d2 ixD (qc 0) (dC (.int 0))))
  (qG (jJ 4 (d2 ixD (qc 0) (dC (.int 1))))
  (qG (sIf (yw (uy (d1 Yv (jc [] 1 [2] (jI (d2 vG (qc 3) (qc 4))) (gNm 0) ftT (d2 inA (qc 0) (qc 1)))))) (jq (dC (.bl iT))) jb)
  (jq (d2 neD (d2 qbB (d2 qdb (d1 JO (jc [] 1 [2] (jI (qc 3)) (gNm 0) ftT (d2 ixD (qc 1) (qc 0)))) (d1 JO (jc [] 1 [2] (jI (qc 4)) (gNm 0) ftT (d2 ixD (qc 1) (qc 0))))) (qc 1)) (dC (.int 0)))))))
noncomputable abbrev kB:jy:=jN zd [.val,.val,.val] (ze)
abbrev wl (e0:Ev):=qC e0 1 "may_differ" ["contrast", "room", "fixed"] [.val,.val,.val] .sh (kB)
theorem Ke (Z:ZtE e0 ca) (T:vh e0 "may_differ" wV ["contrast", "room", "fixed"]):wl e0:=
 dW [] T λcdv f A outer s H E c=>(qd (se (ix vr qt))
  (qd (se (ix vr qt))
  (qd (qL (ja (tv (qy (gh rfl rfl) rfl Z.z_all gK (cmp (qM rfl (jx (jQ rfl) vr vr)) (λ_ _ _ _=>(yt (YD rfl c.units) vr vr)))))) (qf (qg wx)) qB)
  (qf (qg (yt (zW rfl c.units) (jx QQ (jx QP (qy (Ud rfl rfl) rfl Z.z_sum qaQ (cmp (qM rfl vr) (λ_ _ _ _=>(ix vr vr)))) (qy (Ud rfl rfl) rfl Z.z_sum qaQ (cmp (qM rfl vr) (λ_ _ _ _=>(ix vr vr))))) vr) qt))))))
abbrev wW:Stmt:=top 44
abbrev Wb:List Str:=["fixed", "letter", "worth", "more"]
noncomputable def zf:qK:=(qG (jJ 3 (d1 VF (qc 0)))
  (qG (VD 3 (qc 2) (qc 1))
  (jq (qc 3))))
noncomputable abbrev vz:jy:=jN Wb [.val,.val,.val] (zf)
abbrev wm (e0:Ev):=qC e0 1 "with_worth" ["fixed", "letter", "worth"] [.val,.val,.val] .sh (vz)
theorem Kf (Z:ZtE e0 ca) (T:vh e0 "with_worth" wW ["fixed", "letter", "worth"]):wm e0:=
 dW [] T λcdv f A outer s H E c=>(qd (sO (jv (YR rfl) rfl Z.z_dict Uf vr))
  (qd (JN (n:=3) c.units rfl (br rfl) (by decide) vr vr)
  (vo [3] (qf (qg vr)))))
abbrev jC:Stmt:=top 45
abbrev jD:List Str:=["contrasts", "room", "fixed", "letters", "choices", "worth"]
abbrev jE:List Str:=["contrasts", "room", "fixed", "letters"]
theorem zv:FnScope jD jE (qx jC):=fsc
noncomputable def jn (gr:jy):qK:=(qG (sIf (yw (uy (d1 Yv (jc [] 1 [1,2] (jI (qc 0)) (gNm 0) ftT (qr [.vl,.vl,.vl] kB (qb (qc 0) (qb (qc 1) (qb (qc 2) qv)))))))) (jq (dC (.bl iS))) jb)
  (qG (sIf (qO (d2 eqD (d1 uz (qc 3)) (dC (.int 0)))) (jq (dC (.bl iT))) jb)
  (qG (jJ 4 (dIf (qO (d2 eqD (d1 uz (qc 2)) (dC (.int 0)))) (Vi (qb (dC (.int 0)) qv)) (d1 uo (qc 1))))
  (qG (Vj (jI (qc 4)) (gNm 5)
  (sIf (uy (qr [.vl,.vl,.vl,.vl] gr (qb (qc 0) (qb (qc 1) (qb (qr [.vl,.vl,.vl] vz (qb (qc 2) (qb (d2 ixD (qc 3) (dC (.int 0))) (qb (qc 5) qv)))) (qb (km (qc 3) (iO (dC (.int 1))) iQ) qv)))))) (jq (dC (.bl iT))) jb))
  (jq (dC (.bl iS)))))))
noncomputable def qN:Nat->jy
 | 0=>jN jD [.val,.val,.val,.val] qif
 | n+1=>jN jD [.val,.val,.val,.val] (jn (qN n))
noncomputable abbrev wX:jy:=qN 14
abbrev wv (e0:Ev):=qC e0 16 "can_be_filled" jE [.val,.val,.val,.val] .sh wX
theorem zx (Z:ZtE e0 ca) (T:vh e0 "can_be_filled" jC jE) (a:wl e0) (b:wm e0) (n:Nat):qC e0 (2+n) "can_be_filled" ["contrasts", "room", "fixed", "letters"] [.val,.val,.val,.val] .sh (qN n):=by
 induction n with
 | zero=>exact dW [] T λcdv f A outer s H E c=>qaq
 | succ n o=>exact GQ (k:=2+n) (own':=[]) (fb:=jn (qN n)) T zv λcdv f A outer s H E c=>(qd (qL (ja (tv (qy (gh rfl rfl) rfl Z.z_all gK (cmp (qM rfl vr) (λ_ _ _ _=>(ju a c (by omega) zo rfl (qa vr (qa vr (qa vr qe))))))))) (qf (qg wx)) qB)
  (qd (qL (qH (yv rfl c.units) (qy (kb rfl) rfl Z.z_len jT vr) qt) (qf (qg wx)) qB)
  (qd (se (qel (qH (yv rfl c.units) (qy (kb rfl) rfl Z.z_len jT vr) qt) (wD (qa qt qe)) (Zh rfl rfl Z.z_list gL rfl Z.z_range qcB vr)))
  (qd (kG aX rfl (qM rfl vr) gn
  (qf (qL (tv (ju o c (by omega) wF rfl (qa vr (qa vr (qa (ju b c (by omega) wF rfl (qa vr (qa (ix vr qt) (qa vr qe)))) (qa (gI rfl vr (JG qt) JF) qe)))))) (qf (qg wx)) qB)))
  (qf (qg wx))))))
theorem zy (Z:ZtE e0 ca) (T:vh e0 "can_be_filled" jC jE) (a:wl e0) (b:wm e0):wv e0:=zx Z T a b 14
abbrev wY:Stmt:=top 46
abbrev zg:List Str:=["seen", "room", "fixed", "bound", "letters"]
noncomputable def vA:qK:=(qG (sIf (qO (d2 ltD (qc 1) (d1 uz (qc 0)))) (jq (dC (.bl iS))) jb)
  (qG (jJ 3 (qr [.vl,.vl] wk (qb (qc 0) (qb (qc 2) qv))))
  (qG (jJ 4 (jc [] 1 [2] (jI (qr [.vl] qT (qb (qc 3) qv))) (gNm 0) (qO (d2 YB (qc 0) (qc 1))) (qc 0)))
  (jq (qr [.vl,.vl,.vl,.vl] wX (qb (qr [.vl] vK (qb (qc 3) qv)) (qb (qc 1) (qb (qc 2) (qb (qc 4) qv)))))))))
noncomputable abbrev qU:jy:=jN zg [.val,.val,.val] (vA)
abbrev wo (e0:Ev):=qC e0 17 "can_differ" ["seen", "room", "fixed"] [.val,.val,.val] .sh (qU)
theorem Kg (Z:ZtE e0 ca) (T:vh e0 "can_differ" wY ["seen", "room", "fixed"]) (m:kQ e0) (a:uL e0) (V:wU e0) (o:wv e0):wo e0:=
 dW [] T λcdv f A outer s H E c=>(qd (qL (qH qbZ vr (qy (kb rfl) rfl Z.z_len jT vr)) (qf (qg wx)) qB)
  (qd (se (cN a (qa vr (qa vr qe))))
  (qd (qij (qM rfl (cN m (qa vr qe))) (λ_ _ _ _=>vr) (ht:=λ_ _ _ _=>(WK (qH (gk rfl c.units) vr vr))))
  (vo [4] (qf (qg (cN o (qa (cN V (qa vr qe)) (qa vr (qa vr (qa vr qe)))))))))))
abbrev vL:Stmt:=top 47
abbrev uN:List Str:=["seen", "room", "fixed", "letter", "worth"]
noncomputable def uO:qK:=(qG (jJ 2 (dC (.dct [])))
  (qG (Vj (jI (qr [.vl] qT (qb (qc 0) qv))) (gNm 3)
  (qG (jJ 4 (dC (.int 0)))
  (qG (qS (qgx (qO (d2 ltD (qc 4) (qc 1))) (yw (uy (qr [.vl,.vl,.vl] qU (qb (qc 0) (qb (qc 1) (qb (qr [.sl 2,.vl,.vl] kR (jP (qb (qc 3) (qb (qc 4) qv)))) qv)))))))
  (jJ 4 (d2 vG (qc 4) (dC (.int 1)))) 102)
  (qG (sIf (qO (d2 eqD (qc 4) (qc 1))) (jq (dC .non)) jb)
  (VD 2 (qc 4) (qc 3))))))
  (jq (d1 gf (d1 kX (qc 2))))))
noncomputable abbrev vM:jy:=jN uN [.val,.val] (uO)
abbrev wZ (e0:Ev):=qC e0 18 "least_worths" ["seen", "room"] [.val,.val] .sh (vM)
theorem Qc (Z:ZtE e0 ca) (T:vh e0 "least_worths" vL ["seen", "room"]) (o:kQ e0) (X:uK e0) (C:wo e0):wZ e0:=
 dW [] T λcdv f A outer s H E c=>(qd (sO Yg)
  (qd (kG aX rfl (qM rfl (cN o (qa vr qe))) gn
  (qd (se qt)
  (qd (zZ 102 aX (PW.pt (Gy (qH qbZ vr vr) (vE (ja (tv (cN C (qa vr (qa vr (qa (cN X (sl (qa vr (qa vr qe)))) qe)))))))))
  (qf (se (jx (jQ rfl) vr qt))))
  (qd (qL (qH (yv rfl c.units) vr vr) (qf (qg UW)) qB)
  (qf (JN (n:=2) c.units rfl (br rfl) (by decide) vr vr))))))
  (qf (qg (jv (JE rfl) rfl Z.z_tuple vZ (VI rfl rfl rfl Z.z_sorted gM vO))))))
abbrev yg:Stmt:=top 48
abbrev Qd:List Str:=["seen", "room", "found"]
noncomputable def Qe:qK:=(qG (jJ 2 (qc 1))
  (qG (qS (yw (uy (qr [.vl,.vl,.vl] qU (qb (qc 0) (qb (qc 2) (qb (dC (.dct [])) qv))))))
  (jJ 2 (d2 vG (qc 2) (dC (.int 1)))) 100)
  (jq (qc 2))))
noncomputable abbrev yh:jy:=jN Qd [.val,.val] (Qe)
abbrev zh (e0:Ev):=qC e0 18 "room_from" ["seen", "room"] [.val,.val] .sh (yh)
theorem Wc (Z:ZtE e0 ca) (T:vh e0 "room_from" yg ["seen", "room"]) (C:wo e0):zh e0:=
 dW [] T λcdv f A outer s H E c=>(qd (se vr)
  (qd (zZ 100 aX (ja (tv (cN C (qa vr (qa vr (qa Yg qe))))))
  (qf (se (jx (jQ rfl) vr qt))))
  (qf (qg vr))))
abbrev ua:Stmt:=top 25
abbrev We:List Str:=["thing"]
noncomputable def zi:qK:=(sIf (yw (uy (qr [.vl] wP (qb (qc 0) qv)))) (jd "NoWord" (qb (dC (.str "a word has 1 to 6 letters from a to z")) qv)) jb)
noncomputable abbrev ub:jy:=jN We [.val] (zi)
abbrev yU (e0:Ev):=qC e0 3 "check_word" ["thing"] [.val] .sh (ub)
theorem Kh (Z:ZtE e0 ca) (T:vh e0 "check_word" ua ["thing"]) (o:xw e0):yU e0:=
 dW [] T λcdv f A outer s H E c=>(qf (qL (ja (tv (cN o (qa vr qe)))) (qf (rz Z "NoWord" (qa jh qe))) qB))
abbrev qW:Stmt:=xi (top 50) 3
abbrev vP:List Str:=["self", "word"]
abbrev jG:List Str:=["self", "word"]
theorem yV:FnScope vP jG (qx qW):=fsc
noncomputable def jo (ca:Str->Addr):qK:=(qG (kM (qr [.vl] ub (qb (qc 1) qv)))
  (qG (sIf (qO (d2 inA (qc 1) (d1 (zr (ca "Words") "came") (qc 0)))) (jd "Known" (qb (dC (.str "the word is there")) qv)) jb)
  (sIf (qO (d2 eqD (d1 uz (d1 (zr (ca "Words") "came") (qc 0))) (dC (.int 6)))) (jd "Full" (qb (dC (.str "there are 6 words")) qv)) jb)))
noncomputable abbrev jH (ca:Str->Addr):jy:=jN vP [.io,.val] (jo ca)
abbrev vB (ca:Str->Addr) (e0:Ev):=gN e0 4 (ca "Words") "check_new" jG [.io,.val] .sh (jH ca)
theorem yW (Z:ZtE e0 ca) (T:gF e0.K (ca "Words") "check_new" "Words.check_new" qW jG) (O:yU e0):vB ca e0:=
 gG (k:=3) (own':=[0]) (fb:=jo ca) T yV λcdv f A outer s H E c=>(qd (jt (cN O (qa vr qe)))
  (qd (qL (qH (YD rfl c.units) vr (vt rfl Z.b_cls (Z.b_no "came" (by decide +kernel)) vO)) (qf (rz Z "Known" (qa jh qe))) qB)
  (qf (qL (qH (yv rfl c.units) (qy (kb rfl) rfl Z.z_len jT (vt rfl Z.b_cls (Z.b_no "came" (by decide +kernel)) vO)) (kt Z.c_MOST_WORDS rfl)) (qf (rz Z "Full" (qa jh qe))) qB))))
abbrev jX:Stmt:=xi (top 50) 4
abbrev vC:List Str:=["self", "word", "words", "seen", "width"]
abbrev vD:List Str:=["self", "word"]
theorem Ki:FnScope vC vD (qx jX):=fsc
noncomputable def jY (ca:Str->Addr):qK:=(qG (kM (qD (ca "Words") 0 "check_new" [.vl] (jH ca) (qb (qc 1) qv)))
  (qG (jJ 2 (d2 vG (d1 (zr (ca "Words") "came") (qc 0)) (Vh (qb (qc 1) qv))))
  (qG (jJ 3 (qr [.vl,.vl] gT (qb (qc 2) (qb (d1 (zr (ca "Words") "look") (qc 0)) qv))))
  (qG (sIf (qO (d2 GA (qr [.vl] ut (qb (qc 3) qv)) (dC .non))) (jd "Never" (qb (dC (.str "the word is seen as the same two letters as one that is there")) qv)) jb)
  (qG (jJ 4 (qr [.vl,.vl] yh (qb (qc 3) (qb (d1 (zr (ca "Words") "width") (qc 0)) qv))))
  (qG (gE (ca "Words") 0 "held" (qr [.vl,.vl,.vl,.vl] ur (qb (qc 2) (qb (d1 (zr (ca "Words") "look") (qc 0)) (qb (qc 4) (qb (qr [.vl,.vl] vM (qb (qc 3) (qb (qc 4) qv))) qv))))))
  (qG (gE (ca "Words") 0 "came" (qc 2))
  (qG (gE (ca "Words") 0 "width" (qc 4))
  (jq (qc 4))))))))))
noncomputable abbrev qV (ca:Str->Addr):jy:=jN vC [.io,.val] (jY ca)
abbrev kS (ca:Str->Addr) (e0:Ev):=gN e0 19 (ca "Words") "come" vD [.io,.val] .sh (qV ca)
theorem Kj (Z:ZtE e0 ca) (T:gF e0.K (ca "Words") "come" "Words.come" jX vD) (R:JX e0) (O:gX e0) (a:gY e0) (o:wZ e0) (b:zh e0) (M:vB ca e0):kS ca e0:=
 gG (k:=18) (own':=[0]) (fb:=jY ca) T Ki λcdv f A outer s H E c=>(qd (jt (zI (i:=0) Z.b_cls M c (by decide) wF rfl (br rfl) (by decide) (qa vr qe)))
  (qd (se (jx (jQ rfl) (vt rfl Z.b_cls (Z.b_no "came" (by decide +kernel)) vO) (uC (qa vr qe))))
  (qd (se (cN R (qa vr (qa (vt rfl Z.b_cls (Z.b_no "look" (by decide +kernel)) vO) qe))))
  (qd (qL (qH qem (cN a (qa vr qe)) UW) (qf (rz Z "Never" (qa jh qe))) qB)
  (qd (se (cN b (qa vr (qa (vt rfl Z.b_cls (Z.b_no "width" (by decide +kernel)) vO) qe))))
  (qd (uW rfl Z.b_cls (Z.b_no "held" (by decide +kernel)) (i:=0) rfl (br rfl) (by decide) (cN O (qa vr (qa (vt rfl Z.b_cls (Z.b_no "look" (by decide +kernel)) vO) (qa vr (qa (cN o (qa vr (qa vr qe))) qe))))))
  (qd (uW rfl Z.b_cls (Z.b_no "came" (by decide +kernel)) (i:=0) rfl (br rfl) (by decide) vr)
  (qd (uW rfl Z.b_cls (Z.b_no "width" (by decide +kernel)) (i:=0) rfl (br rfl) (by decide) vr)
  (qf (qg vr))))))))))
abbrev yi:Stmt:=top 52
abbrev Ut:List Str:=["text", "least", "most", "number"]
noncomputable def Uu:qK:=(qG (Vj (qar (qc 1) (d2 vG (qc 2) (dC (.int 1)))) (gNm 3)
  (sIf (qO (d2 eqD (d1 qfL (qc 3)) (qc 0))) (jq (qc 3)) jb))
  (jd "NoText" (qb (dC (.str "this writes no number within its bounds")) qv)))
noncomputable abbrev yj:jy:=jN Ut [.val,.val,.val] (Uu)
abbrev zj (e0:Ev):=qC e0 1 "number_in" ["text", "least", "most"] [.val,.val,.val] .sh (yj)
theorem Wf (Z:ZtE e0 ca) (T:vh e0 "number_in" yi ["text", "least", "most"]):zj e0:=
 dW [] T λcdv f A outer s H E c=>(qd (kG aX rfl (Zg rfl Z.z_range vr (jx (jQ rfl) vr qt)) gn
  (qf (qL (qH (yv rfl c.units) (jv (qay) rfl Z.z_str Jb vr) vr) (qf (qg vr)) qB)))
  (qf (rz Z "NoText" (qa jh qe))))
abbrev Qf:Stmt:=top 54
abbrev qaV:List Str:=["text", "parts"]
noncomputable def qaW:qK:=(qG (jJ 1 (dM qfM YK (qc 0) (dC (.str " "))))
  (qG (sIf (qO (d2 neD (d1 uz (qc 1)) (dC (.int 2)))) (jd "NoText" (qb (dC (.str "a look is written as two places, a blank between")) qv)) jb)
  (jq (Vh (qb (qr [.vl,.vl,.vl] yj (qb (d2 ixD (qc 1) (dC (.int 0))) (qb (dC (.int (-3))) (qb (dC (.int 2)) qv)))) (qb (qr [.vl,.vl,.vl] yj (qb (d2 ixD (qc 1) (dC (.int 1))) (qb (dC (.int (-3))) (qb (dC (.int 2)) qv)))) qv))))))
noncomputable abbrev Qg:jy:=jN qaV [.val] (qaW)
abbrev Ji (e0:Ev):=qC e0 2 "look_in" ["text"] [.val] .sh (Qg)
theorem Zw (Z:ZtE e0 ca) (T:vh e0 "look_in" Qf ["text"]) (o:zj e0):Ji e0:=
 dW [] T λcdv f A outer s H E c=>(qd (se (JL PySem.F.slot_str_split PySem.F.type_str_split YL rfl vr jh))
  (qd (qL (qH (zW rfl c.units) (qy (kb rfl) rfl Z.z_len jT vr) qt) (qf (rz Z "NoText" (qa jh qe))) qB)
  (qf (qg (uC (qa (cN o (qa (ix vr qt) (qa (kt Z.c_LEAST_PLACE rfl) (qa (kt Z.c_MOST_PLACE rfl) qe)))) (qa (cN o (qa (ix vr qt) (qa (kt Z.c_LEAST_PLACE rfl) (qa (kt Z.c_MOST_PLACE rfl) qe)))) qe)))))))
abbrev xF:Stmt:=top 55
abbrev Zx:List Str:=["text", "parts"]
noncomputable def Jj:qK:=(qG (jJ 1 (dM qfM YK (qc 0) (dC (.str " "))))
  (qG (sIf (qO (d2 neD (d2 ixD (qc 1) (dC (.int 0))) (dC (.str "")))) (jd "NoText" (qb (dC (.str "a blank is ahead of each word")) qv)) jb)
  (jq (km (qc 1) (iO (dC (.int 1))) iQ))))
noncomputable abbrev uu:jy:=jN Zx [.val] (Jj)
abbrev Qh (e0:Ev):=qC e0 1 "words_in" ["text"] [.val] .sh (uu)
theorem Uv (Z:ZtE e0 ca) (T:vh e0 "words_in" xF ["text"]):Qh e0:=
 dW [] T λcdv f A outer s H E c=>(qd (se (JL PySem.F.slot_str_split PySem.F.type_str_split YL rfl vr jh))
  (qd (qL (qH (zW rfl c.units) (ix vr qt) jh) (qf (rz Z "NoText" (qa jh qe))) qB)
  (qf (qg (gI rfl vr (JG qt) JF)))))
abbrev yX:Stmt:=top 56
abbrev Qi:List Str:=["text", "parts", "some", "word", "refusal"]
theorem Jk:FnScope Qi ["text"] (qx yX):=fsc
noncomputable def Qj (ca:Str->Addr):qK:=(qG (kM (qr [.vl] wN (qb (qc 0) qv)))
  (qG (jJ 1 (dM qfM qeU (qc 0) (dC (.str ":"))))
  (qG (sIf (qO (d2 eqD (d2 ixD (qc 1) (dC (.int 1))) (dC (.str "")))) (jd "NoText" (qb (dC (.str "`:` is behind the look")) qv)) jb)
  (qG (jJ 2 (Zj (ca "Words") (jO ca) (qb (qr [.vl] Qg (qb (d2 ixD (qc 1) (dC (.int 0))) qv)) qv)))
  (qG (Vj (jI (qr [.vl] uu (qb (d2 ixD (qc 1) (dC (.int 2))) qv))) (gNm 3)
  (WP 5 (iO 4) (qdg ca CS) (kM (qD (ca "Words") 2 "come" [.vl] (qV ca) (qb (qc 3) qv))) qif))
  (jq (qc 2)))))))
noncomputable abbrev vQ (ca:Str->Addr):jy:=jN Qi [.val] (Qj ca)
abbrev Jl (ca:Str->Addr) (e0:Ev):=qC e0 20 "list_of" ["text"] [.val] .fr (vQ ca)
theorem Zy (Z:ZtE e0 ca) (T:vh e0 "list_of" yX ["text"]) (b:yO e0) (o:kn ca e0) (a:kS ca e0) (O:Ji e0) (m:Qh e0):Jl ca e0:=
 GQ (k:=19) (own':=[]) (fb:=Qj ca) (hmr:=.inr λ_=>(VL (VL (VL (VL (VL (λ_ _=>qg6)))))) _) T Jk λcdv f A outer s H E c=>(qhb rfl (yK rfl (jt (cN b (qa vr qe)))
  (yK rfl (se (JL PySem.F.slot_str_partition PySem.F.type_str_partition qeV rfl vr jh))
  (yK rfl (qL (qH (yv rfl c.units) (ix vr qt) jh) (qf (rz Z "NoText" (qa jh qe))) qB)
  (yK rfl (sO (qaB o c (by decide) wF rfl Z.m_Words (qa (cN O (qa (ix vr qt) qe)) qe)))
  (yK rfl (kG aX rfl (qM rfl (cN m (qa (ix vr qt) qe))) gn
  (qf (qez (own2:=[]) (n:=5) (j:=4) rfl rfl rfl rfl Z.m_WordError Z.xs.hit Jk.nd rfl rfl rfl (λpn xe E hx=>(qf (jt (zI (i:=2) Z.b_cls a c (by decide) hx rfl (br rfl) (by decide) (qa vr qe))))) (λe=>qaq))))
  qeT))))))
abbrev xG:Stmt:=top 58
abbrev Zz:List Str:=["_law_script", "_law_k"]
noncomputable def uw:qK:=(qG (sIf (qO (d2 ltD (qc 1) (d1 uz (qc 0)))) (jq (d2 ixD (qc 0) (qc 1))) jb)
  (qG (sIf (qO (d2 eqD (qc 0) (Vi qv))) (jq (dC (.int 0))) jb)
  (jq (d2 vG (d2 qfF (d2 ixD (qc 0) (d2 qbB (qc 1) (d1 uz (qc 0)))) (dC (.int 31))) (qc 1)))))
noncomputable abbrev xH:jy:=jN Zz [.val,.val] (uw)
abbrev Qk (e0:Ev):=qC e0 1 "_law_cell_at" ["_law_script", "_law_k"] [.val,.val] .sh (xH)
theorem Uw (Z:ZtE e0 ca) (T:vh e0 "_law_cell_at" xG ["_law_script", "_law_k"]):Qk e0:=
 dW [] T λcdv f A outer s H E c=>(qd (qL (qH qbZ vr (qy (kb rfl) rfl Z.z_len jT vr)) (qf (qg (ix vr vr))) qB)
  (qd (qL (qH (yv rfl c.units) vr (wD qe)) (qf (qg qt)) qB)
  (qf (qg (jx (jQ rfl) (jx Gp (ix vr (jx QQ vr (qy (kb rfl) rfl Z.z_len jT vr))) qt) vr)))))
abbrev Kk:Stmt:=top 59
abbrev qcE:List Str:=["_law_script", "_law_k", "_law_many", "_law_drawn"]
noncomputable def YY:qK:=(qG (jJ 3 (d2 qbB (d2 vG (d2 vG (d2 qfF (qr [.vl,.vl] xH (qb (qc 0) (qb (qc 1) qv))) (dC (.int 1103515245))) (d2 qfF (dC (.int 7919)) (qc 1))) (dC (.int 12345))) (dC (.int 2147483647))))
  (jq (d2 qbB (d2 qbB (d2 qbB (d2 qjf (qc 3) (dC (.int 5))) (dC (.int 2147483647))) (dC (.int 999983))) (qc 2))))
noncomputable abbrev Kl:jy:=jN qcE [.val,.val,.val] (YY)
abbrev Wg (e0:Ev):=qC e0 2 "_law_mixed" ["_law_script", "_law_k", "_law_many"] [.val,.val,.val] .sh (Kl)
theorem qaX (Z:ZtE e0 ca) (T:vh e0 "_law_mixed" Kk ["_law_script", "_law_k", "_law_many"]) (O:Qk e0):Wg e0:=
 dW [] T λcdv f A outer s H E c=>(qd (se (jx QQ (jx (jQ rfl) (jx (jQ rfl) (jx Gp (cN O (qa vr (qa vr qe))) qt) (jx Gp qt vr)) qt) qt))
  (qf (qg (jx QQ (jx QQ (jx QQ (jx qg1 vr qt) qt) qt) vr))))
abbrev Ux:Stmt:=top 60
abbrev qeZ:List Str:=["_law_script", "_law_town", "_law_many"]
noncomputable def qaY:qK:=(qG (kM (JD 1 ZJ (dC (.int 0))))
  (jq (qr [.vl,.vl,.vl] Kl (qb (qc 0) (qb (d1 uz (qc 1)) (qb (qc 2) qv))))))
noncomputable abbrev yk:jy:=jN qeZ [.val,.io,.val] (qaY)
abbrev yY (e0:Ev):=qC e0 3 "_law_draw" ["_law_script", "_law_town", "_law_many"] [.val,.io,.val] .sh (yk)
theorem qcF (Z:ZtE e0 ca) (T:vh e0 "_law_draw" Ux ["_law_script", "_law_town", "_law_many"]) (O:Wg e0):yY e0:=
 dW [1] T λcdv f A outer s H E c=>(qd (jt (ge (i:=1) rfl rfl (br rfl) (by decide) qt))
  (qf (qg (cN O (qa vr (qa (qy (kb rfl) rfl Z.z_len jT vO) (qa vr qe)))))))
abbrev Uy:Stmt:=top 61
abbrev qe0:List Str:=["_law_script", "_law_town", "_law_some"]
noncomputable def qaZ:qK:=(jq (d2 ixD (qc 2) (qr [.vl,.sl 1,.vl] yk (qb (qc 0) (jP (qb (d1 uz (qc 2)) qv))))))
noncomputable abbrev Ql:jy:=jN qe0 [.val,.io,.val] (qaZ)
abbrev Km (e0:Ev):=qC e0 4 "_law_pick" ["_law_script", "_law_town", "_law_some"] [.val,.io,.val] .sh (Ql)
theorem qcG (Z:ZtE e0 ca) (T:vh e0 "_law_pick" Uy ["_law_script", "_law_town", "_law_some"]) (o:yY e0):Km e0:=
 dW [1] T λcdv f A outer s H E c=>(qf (qg (ix vr (cN o (qa vr (sl (qa (qy (kb rfl) rfl Z.z_len jT vr) qe)))))))
abbrev Uz:Stmt:=top 62
abbrev qe1:List Str:=["_law_script", "_law_town", "_law_letters", "_law_most"]
noncomputable def qa0:qK:=(jq (d1 (QE "") (jc [1] 1 [0,1,2] (vb (d2 vG (dC (.int 1)) (qr [.vl,.sl 1,.vl] yk (qb (qc 0) (jP (qb (qc 3) qv)))))) (gNm 0) ftT (qr [.vl,.sl 2,.vl] Ql (qb (qc 1) (jP (qb (qc 3) qv)))))))
noncomputable abbrev Qm:jy:=jN qe1 [.val,.io,.val,.val] (qa0)
abbrev Kn (e0:Ev):=qC e0 5 "_law_word" ["_law_script", "_law_town", "_law_letters", "_law_most"] [.val,.io,.val,.val] .sh (Qm)
theorem qcH (Z:ZtE e0 ca) (T:vh e0 "_law_word" Uz ["_law_script", "_law_town", "_law_letters", "_law_most"]) (o:yY e0) (Q:Km e0):Kn e0:=
 dW [1] T λcdv f A outer s H E c=>(qf (qg (Ua rfl (cmp (xl rfl Z.z_range (jx (jQ rfl) qt (cN o (qa vr (Jx (i:=1) rfl (fP (br rfl)) (by decide) (qa vr qe)))))) (λ_ _ _ _=>(ju Q c (by decide) zo rfl (qa vr (Jx (i:=2) rfl (by first | exact fP (fP rfl) | exact fP (br rfl)) (by decide) (qa vr qe)))))))))
abbrev Ko:Stmt:=top 63
abbrev qcI:List Str:=["_law_script", "_law_town", "_law_most", "_law_letters", "_law_made", "_law_k", "_law_word_here"]
noncomputable def YZ:qK:=(qG (jJ 3 (qr [.vl,.sl 1,.vl] Ql (qb (qc 0) (jP (qb (Vi λρ=>.ok ([(.lst [(.str "a"),(.str "b")]),(.lst [(.str "a"),(.str "b"),(.str "c")]),(.lst [(.str "a"),(.str "b"),(.str "c"),(.str "d")]),(.lst [(.str "k"),(.str "m"),(.str "z"),(.str "a"),(.str "e")])],ρ)) qv)))))
  (qG (jJ 4 (Vi qv))
  (qG (Vj (vb (d2 vG (dC (.int 1)) (qr [.vl,.sl 1,.vl] yk (qb (qc 0) (jP (qb (qc 2) qv)))))) (gNm 5)
  (qG (jJ 6 (qr [.vl,.sl 1,.vl,.vl] Qm (qb (qc 0) (jP (qb (qc 3) (qb (dC (.int 6)) qv))))))
  (sIf (qO (d2 YB (qc 6) (qc 4))) (kM (JD 4 ZJ (qc 6))) jb)))
  (jq (d1 gf (qc 4))))))
noncomputable abbrev zK:jy:=jN qcI [.val,.io,.val] (YZ)
abbrev Wh (e0:Ev):=qC e0 6 "_law_words" ["_law_script", "_law_town", "_law_most"] [.val,.io,.val] .sh (zK)
theorem qa1 (Z:ZtE e0 ca) (T:vh e0 "_law_words" Ko ["_law_script", "_law_town", "_law_most"]) (o:yY e0) (Q:Km e0) (S:Kn e0):Wh e0:=
 dW [1] T λcdv f A outer s H E c=>(qd (se (cN Q (qa vr (sl (qa (qeK 16 rfl) qe)))))
  (qd (sO (wD qe))
  (qd (kG aX rfl (xl rfl Z.z_range (jx (jQ rfl) qt (cN o (qa vr (sl (qa vr qe)))))) gn
  (qd (se (cN S (qa vr (sl (qa vr (qa qt qe))))))
  (qf (qL (qH (gk rfl c.units) vr vO) (qf (jt (ge (i:=4) rfl rfl (br rfl) (by decide) vr))) qB))))
  (qf (qg (jv (JE rfl) rfl Z.z_tuple vZ vO))))))
abbrev UA:Stmt:=top 64
abbrev qe2:List Str:=["_law_script", "_law_town"]
noncomputable def qa2:qK:=(jq (Vh (qb (d2 qdb (qr [.vl,.sl 1,.vl] yk (qb (qc 0) (jP (qb (dC (.int 6)) qv)))) (dC (.int 3))) (qb (d2 qdb (qr [.vl,.sl 1,.vl] yk (qb (qc 0) (jP (qb (dC (.int 6)) qv)))) (dC (.int 3))) qv))))
noncomputable abbrev UB:jy:=jN qe2 [.val,.io] (qa2)
abbrev Xa (e0:Ev):=qC e0 4 "_law_look" ["_law_script", "_law_town"] [.val,.io] .sh (UB)
theorem qcJ (Z:ZtE e0 ca) (T:vh e0 "_law_look" UA ["_law_script", "_law_town"]) (o:yY e0):Xa e0:=
 dW [1] T λcdv f A outer s H E c=>(qf (qg (uC (qa (jx QP (cN o (qa vr (sl (qa qt qe)))) qt) (qa (jx QP (cN o (qa vr (sl (qa qt qe)))) qt) qe)))))
abbrev UC:Stmt:=top 65
abbrev qe3:List Str:=["_law_some", "_law_word_here"]
noncomputable def UD (ca:Str->Addr):qK:=(WP 2 iQ (qdg ca CS) (jq (qD (ca "Words") 0 "come" [.vl] (qV ca) (qb (qc 1) qv))) (jq (d1 qgK (dC (.int 1)))))
noncomputable abbrev xI (ca:Str->Addr):jy:=jN qe3 [.io,.val] (UD ca)
abbrev Xb (ca:Str->Addr) (e0:Ev):=qC e0 20 "_law_come" ["_law_some", "_law_word_here"] [.io,.val] .sh (xI ca)
theorem qcK (Z:ZtE e0 ca) (T:vh e0 "_law_come" UC ["_law_some", "_law_word_here"]) (a:kS ca e0):Xb ca e0:=
 dW [0] T λcdv f A outer s H E c=>(qf (Yr (own2:=[]) (n:=2) rfl rfl rfl rfl Z.m_WordError Z.xs.hit rfl (λpn xe E hx=>(qf (qg (zI (i:=0) Z.b_cls a c (by decide) hx rfl (br rfl) (by decide) (qa vr qe))))) (λe=>(qf (qg (qef GR qt))))))
abbrev qcL:Stmt:=top 65
abbrev qcM:List Str:=["_law_some", "_law_word_here"]
noncomputable def Kp (ca:Str->Addr):qK:=(WP 2 iQ (qdg ca CS) (jq (qD (ca "Words") 0 "come" [.vl] (qV ca) (qb (qc 1) qv))) (jq (d1 qgK (dC (.int 1)))))
noncomputable abbrev zL (ca:Str->Addr):jy:=jN qcM [.tk,.val] (Kp ca)
abbrev Wi (ca:Str->Addr) (e0:Ev):=qC e0 20 "_law_come" ["_law_some", "_law_word_here"] [.tk,.val] .sh (zL ca)
theorem qa3 (Z:ZtE e0 ca) (T:vh e0 "_law_come" qcL ["_law_some", "_law_word_here"]) (a:kS ca e0):Wi ca e0:=
 dW [] T λcdv f A outer s H E c=>(qf (Yr (own2:=[]) (n:=2) rfl rfl rfl rfl Z.m_WordError Z.xs.hit rfl (λpn xe E hx=>(qf (qg (zI (i:=0) Z.b_cls a c (by decide) hx rfl (br rfl) (by decide) (qa vr qe))))) (λe=>(qf (qg (qef GR qt))))))
abbrev qa4:Stmt:=top 66
abbrev qe4:List Str:=["_law_script", "_law_town", "_law_look_here", "_law_some", "_law_word_here", "_law_text", "_law_other", "_law_more", "_law_there"]
abbrev qhf:List Str:=["_law_script"]
theorem qhg:FnScope qe4 qhf (qx qa4):=fsc
noncomputable def qe5 (ca:Str->Addr):qK:=(qG (jJ 1 (Vi qv))
  (qG (jJ 2 (qr [.vl,.sl 1] UB (qb (qc 0) (jP qv))))
  (qG (jJ 3 (Zj (ca "Words") (jO ca) (qb (qc 2) qv)))
  (qG (Vj (jI (qr [.vl,.sl 1,.vl] zK (qb (qc 0) (jP (qb (dC (.int 6)) qv))))) (gNm 4)
  (kM (qr [.sl 3,.vl] (xI ca) (jP (qb (qc 4) qv)))))
  (qG (jJ 5 (d2 vG (d2 vG (d2 vG (d1 qfL (d2 ixD (qc 2) (dC (.int 0)))) (dC (.str " "))) (d1 qfL (d2 ixD (qc 2) (dC (.int 1))))) (dC (.str ":"))))
  (qG (Vj (jI (qD (ca "Words") 3 "words" [] (qF ca) qv)) (gNm 4)
  (jJ 5 (d2 vG (d2 vG (qc 5) (dC (.str " "))) (qc 4))))
  (qG (jJ 6 (qr [.vl] (vQ ca) (qb (qc 5) qv)))
  (qG (sIf (dOr (qO (d2 neD (qr [.sl 3] (ko ca) (jP qv)) (qc 5))) (dOr (qO (d2 neD (qD (ca "Words") 6 "words" [] (qF ca) qv) (qD (ca "Words") 3 "words" [] (qF ca) qv))) (qO (d2 neD (qD (ca "Words") 6 "room" [] (kA ca) qv) (qD (ca "Words") 3 "room" [] (kA ca) qv))))) (jq (dC (.bl iS))) jb)
  (qG (sIf (qO (d2 neD (qD (ca "Words") 6 "numbers" [] (jB ca) qv) (qD (ca "Words") 3 "numbers" [] (jB ca) qv))) (jq (dC (.bl iS))) jb)
  (qG (jJ 7 (qr [.vl,.sl 1,.vl,.vl] Qm (qb (qc 0) (jP (qb (Vi (qb (dC (.str "a")) (qb (dC (.str "b")) (qb (dC (.str "c")) (qb (dC (.str "q")) qv))))) (qb (dC (.int 6)) qv))))))
  (qG (jJ 8 (qD (ca "Words") 3 "words" [] (qF ca) qv))
  (qG (sIf (dOr (qO (d2 neD (qr [.sl 6,.vl] (xI ca) (jP (qb (qc 7) qv))) (qr [.fr,.vl] (zL ca) (qb (qr [.vl] (vQ ca) (qb (qc 5) qv)) (qb (qc 7) qv))))) (qO (d2 neD (qD (ca "Words") 3 "words" [] (qF ca) qv) (qc 8)))) (jq (dC (.bl iS))) jb)
  (jq (d2 eqD (qr [.fr] (vy ca) (qb (qr [.vl] (vQ ca) (qb (qr [.sl 6] (ko ca) (jP qv)) qv)) qv)) (qr [.sl 6] (ko ca) (jP qv))))))))))))))))
noncomputable abbrev qcN (ca:Str->Addr):jy:=jN qe4 [.val] (qe5 ca)
theorem qhh {f:Addr} {fd:lV} (Z:ZtE e0 ca) (F:Fun e0.K "law" "law" qa4 f fd) (y:kn ca e0) (a:yM ca e0) (b:wu ca e0) (o:kx ca e0) (d:yN ca e0) (G:xW ca e0) (J:Jl ca e0) (S:Kn e0) (u:Wh e0) (v:Xa e0) (O:Xb ca e0) (t:Wi ca e0):FnOk e0.P e0.w e0.K e0.mg e0.base (CXk e0.P e0.w) 21 f fd qhf (spD e0.K e0.cv [.val] .sh (qcN ca)):=
 qhW (k:=20) (own':=[]) (fb:=qe5 ca) F qhg rfl (kj rfl) (.inl rfl) (λcdv A outer s H E c=>(qd (sO (wD qe))
  (qd (se (cN v (qa vr (sl qe))))
  (qd (sO (qaB y c (by decide) wF rfl Z.m_Words (qa vr qe)))
  (qd (kG aX rfl (qM rfl (cN u (qa vr (sl (qa qt qe))))) gn
  (qf (jt (cN O (sl (qa vr qe))))))
  (qd (se (jx (jQ rfl) (jx (jQ rfl) (jx (jQ rfl) (jv (qay) rfl Z.z_str Jb (ix vr qt)) jh) (jv (qay) rfl Z.z_str Jb (ix vr qt))) jh))
  (qd (kG aX rfl (qM rfl (jA (i:=3) Z.b_cls o c (by decide) wF rfl (br rfl) (by decide))) gn
  (qf (se (jx (jQ rfl) (jx (jQ rfl) vr jh) vr))))
  (qd (sO (cN J (qa vr qe)))
  (qd (qL (PW.pt (yx (qH (zW rfl c.units) (cN G (sl qe)) vr) (yx (qH (zW rfl c.units) (jA (i:=6) Z.b_cls o c (by decide) wF rfl (br rfl) (by decide)) (jA (i:=3) Z.b_cls o c (by decide) wF rfl (br rfl) (by decide))) (vE (qH (zW rfl c.units) (jA (i:=6) Z.b_cls a c (by decide) wF rfl (br rfl) (by decide)) (jA (i:=3) Z.b_cls a c (by decide) wF rfl (br rfl) (by decide))))))) (qf (qg wx)) qB)
  (qd (qL (qH (zW rfl c.units) (jA (i:=6) Z.b_cls b c (by decide) wF rfl (br rfl) (by decide)) (jA (i:=3) Z.b_cls b c (by decide) wF rfl (br rfl) (by decide))) (qf (qg wx)) qB)
  (qd (se (cN S (qa vr (sl (qa (wD (qa jh (qa jh (qa jh (qa jh qe))))) (qa qt qe))))))
  (qd (se (jA (i:=3) Z.b_cls o c (by decide) wF rfl (br rfl) (by decide)))
  (qd (qL (PW.pt (yx (qH (zW rfl c.units) (cN O (sl (qa vr qe))) (cN t (Vg (cN J (qa vr qe)) (qa vr qe)))) (vE (qH (zW rfl c.units) (jA (i:=3) Z.b_cls o c (by decide) wF rfl (br rfl) (by decide)) vr)))) (qf (qg wx)) qB)
  (qf (qg (yt (yv rfl c.units) (cN d (Vg (cN J (qa (cN G (sl qe)) qe)) qe)) (cN G (sl qe)))))))))))))))))) λ_=>.inr rfl
end
end Kx
namespace Kx
open PySem PySem.Spec L2 L2.D2
variable {ρ:Sl} {ds:List D} {d:D} {ms:List PM} {n:Nat} {x y:Str} {b:Bool}
section
variable {as:List AK} {os:List D} {i j:Int} {ks:List (Key×D)}
@[simp] theorem qkC:kF [] [] ρ=iO []:=rfl
@[simp] theorem qkD:kF (.sl n::as) (d::ds) ρ=match ρ[n]? with | some (iO d)=>(kF as ds ρ).map (d::·) | _=>none:=rfl
@[simp] theorem qkE:kF (.vl::as) (d::ds) ρ=(kF as ds ρ).map (d::·):=rfl
@[simp] theorem qkF:kF (.fr::as) (d::ds) ρ=(kF as ds ρ).map (d::·):=rfl
@[simp] theorem qkG:zD [] [] ρ=ρ:=rfl
@[simp] theorem qkH:zD (.sl n::as) (d::ds) ρ=zD as ds (ρ.set n (iO d)):=rfl
@[simp] theorem qkI:zD (.vl::as) (d::ds) ρ=zD as ds ρ:=rfl
@[simp] theorem qkJ:zD (.fr::as) (d::ds) ρ=zD as ds ρ:=rfl
@[simp] theorem qkK:jM ρ n []=[]:=rfl
@[simp] theorem qkL:jM ρ n (.io::ms)=((ρ[n]?).getD iQ).getD .non::jM ρ (n+1) ms:=rfl
@[simp] theorem qkM:jM ρ n (.val::ms)=.non::jM ρ (n+1) ms:=rfl
@[simp] theorem qkN:jM ρ n (.tk::ms)=.non::jM ρ (n+1) ms:=rfl
@[simp] theorem qkO:vG (.int i) (.int j)=.ok (.int (i+j)):=rfl
@[simp] theorem qkP:vG (.str x) (.str y)=if x.length+y.length<=sizeLine then .ok (.str (x++y)) else .bad:=rfl
@[simp] theorem qkt:vG (.lst ds) (.lst os)=if ds.length+os.length<=sizeLine then .ok (.lst (ds++os)) else .bad:=rfl
@[simp] theorem qkQ:vG (.tup ds) (.tup os)=if ds.length+os.length<=sizeLine then .ok (.tup (ds++os)) else .bad:=rfl
@[simp] theorem qkR:qjI .non .non=.ok (.bl iT):=rfl
@[simp] theorem qkS:qjI (.tup ds) .non=.ok (.bl iS):=rfl
@[simp] theorem qkT:GA .non .non=.ok (.bl iS):=rfl
@[simp] theorem qkU:GA (.tup ds) .non=.ok (.bl iT):=rfl
@[simp] theorem ylI:ltD (.int i) (.int j)=.ok (.bl (decide (i < j))):=rfl
@[simp] theorem ylS:ltD (.str x) (.str y)=.ok (.bl (kL x y)):=rfl
@[simp] theorem yeI:leD (.int i) (.int j)=.ok (.bl (decide (i<=j))):=rfl
@[simp] theorem yeS:leD (.str x) (.str y)=.ok (.bl (!kL y x)):=rfl
@[simp] theorem ygI:gtD (.int i) (.int j)=.ok (.bl (decide (j < i))):=rfl
@[simp] theorem ysI:qdb (.int i) (.int j)=.ok (.int (i - j)):=rfl
@[simp] theorem ytB:ZI (.bl b)=.ok b:=rfl
@[simp] theorem ytI:ZI (.int i)=.ok (i != 0):=rfl
@[simp] theorem ytN:ZI .non=.ok false:=rfl
@[simp] theorem ytL:ZI (.lst ds)=.ok (!ds.isEmpty):=rfl
@[simp] theorem ytT:ZI (.tup ds)=.ok (!ds.isEmpty):=rfl
@[simp] theorem ynS:uz (.str x)=.ok (.int x.length):=rfl
@[simp] theorem ynL:uz (.lst ds)=.ok (.int ds.length):=rfl
@[simp] theorem ynT:uz (.tup ds)=.ok (.int ds.length):=rfl
@[simp] theorem ynD:uz (.dct ks)=.ok (.int ks.length):=rfl
end
variable {α:Type}
theorem uc (xs:List α) (k:Nat):atI xs (k:Int)=xs[k]?:=by
 unfold atI ixN;rw [Aa (by lia)];by_cases h:k < xs.length;·rw [Aa (by lia)];simp
 ·rw [Ab (by lia),bL (by lia)];rfl
theorem qhi {xs:List α} {i:Int} (h0:0<=i) (h1:i < xs.length):∃ d,atI xs i=iO d/\d∈xs:=by
 obtain ⟨k,rfl⟩:=Int.eq_ofNat_of_zero_le h0;have h:k < xs.length:=by lia
 exact ⟨xs[k],by rw [uc,aA h],bZ h⟩
theorem big:2000<=sizeLine:=by rw [i9]; decide
abbrev scr (ns:List Int):D:=.lst (ns.map .int)
theorem qe6 (ns:List Int) (k:Nat):∃ i,xH [scr ns,.int k]=.ok (.int i,[.non,.non]):=by
 by_cases h:k < ns.length;·refine ⟨ns[k],?_⟩;refine qo.trans ?_;simp [uw,qp,ixD,h,uc]
 ·by_cases h0:ns=[]
  ·subst h0;have a:¬((k:Int) < 0):=by lia
   exact ⟨0,by refine qo.trans ?_; simp [uw,qp,ixD,eqD,eqN,wy,a]⟩
  ·have hp:0 < ns.length:=List.length_pos_iff.mpr h0;have c:k % ns.length < ns.length:=Nat.mod_lt _ hp;have e:atI (ns.map D.int) ((k:Int) % (ns.length:Int))=iO (.int ns[k % ns.length]):=by rw [show ((k:Int) % (ns.length:Int))=((k % ns.length:Nat):Int) by simp,uc,aF,aA c];rfl
   refine ⟨ns[k % ns.length] * 31+k,?_⟩;refine qo.trans ?_;simp [uw,qp,ixD,eqD,eqN,h,h0,qbB,qfF,KC,hp,e,CMul]
variable {many:Int}
theorem qcO (ns:List Int) (k:Nat) (h:0 < many):∃ r,0<=r/\r < many/\Kl [scr ns,.int k,.int many]=.ok (.int r,[.non,.non,.non]):=by
 obtain ⟨c,a⟩:=qe6 ns k;have h1:=fE (c * 1103515245+7919 * k+12345) (show (2147483647:Int)≠0 by decide);have h2:=ei (c * 1103515245+7919 * k+12345) (show (0:Int) < 2147483647 by decide);generalize hd:(c * 1103515245+7919 * (k:Int)+12345) % 2147483647=d at h1 h2;have c1:L2.D2.qie d 5:=⟨⟨by lia,by lia⟩,by lia,by lia⟩
 refine ⟨d ^ 5 % 2147483647 % 999983 % many,fE _ (by lia),ei _ h,?_⟩;refine qo.trans ?_;simp [YY,qp,a,qfF,qbB,qjf,KC,h,hd,c1,show ∀ j,CMul 7919 j from λj=>.inl ⟨by lia,by lia⟩,show ∀ i,CMul i 1103515245 from λi=>.inr ⟨by lia,by lia⟩]
theorem Qn (ns:List Int) (t:List D) (c:0 < many) (ht:t.length < 1000):∃ r,0<=r/\r < many/\yk [scr ns,.lst t,.int many]=.ok (.int r,[.non,.lst (t++[.int 0]),.non]):=by obtain ⟨r,h0,h1,h⟩:=qcO ns (t.length+1) c;have hl:t.length < sizeLine:=aH (cR ht (by decide)) big;refine ⟨r,h0,h1,?_⟩;simp at h;refine qo.trans ?_;simp [qaY,qp,gc,ZJ,hl,h]
theorem qa5 (ns:List Int) (t xs:List D) (hx:xs≠[]) (ht:t.length < 1000):∃ d,d∈xs/\Ql [scr ns,.lst t,.lst xs]=.ok (d,[.non,.lst (t++[.int 0]),.non]):=by have hp:0 < xs.length:=List.length_pos_iff.mpr hx;obtain ⟨r,h0,h1,h⟩:=Qn ns t (many:=(xs.length:Int)) (by lia) ht;obtain ⟨d,e,hd⟩:=qhi (xs:=xs) h0 h1;refine ⟨d,hd,?_⟩;refine qo.trans ?_;simp [qaZ,qp,h,ixD,e]
def az (c:Nat):Prop:=97<=c/\c<=122
def zM (w:Str):Prop:=1<=w.length/\w.length<=6/\∀ c∈w.cps.toList,az c
theorem Qo (x:Str):x.length=x.cps.size:=rfl
theorem qa6 (x y:Str):(x++y).cps=x.cps++y.cps:=rfl
def qil (ls:List Str):Prop:=ls≠[]/\∀ x∈ls,∃ c,az c/\x=⟨#[c]⟩
theorem qa7:∀ cs:List Nat,dR (aa "") (cs.map λc=>(⟨#[c]⟩:Str))=⟨cs.toArray⟩:=by
 intro cs;have e:∀ cs:List Nat,dS (aa "") (cs.map λc=>(⟨#[c]⟩:Str))=⟨cs.toArray⟩:=by
  intro cs
  induction cs with
  | nil=>rfl
  | cons c cs j=>
   cases cs with
   | nil=>rfl
   | cons d ds=>
    show (⟨#[c]⟩:Str)++aa ""++dS (aa "") ((d::ds).map λc=>(⟨#[c]⟩:Str))=_;rw [j];have:((⟨#[c]⟩:Str)++aa ""++(⟨(d::ds).toArray⟩:Str)).cps=(c::d::ds).toArray:=by
     rw [qa6,qa6];have:(aa "").cps=#[]:=by decide +kernel
     rw [this];simp
    generalize h:(⟨#[c]⟩:Str)++aa ""++(⟨(d::ds).toArray⟩:Str)=x at this;obtain ⟨y⟩:=x;simp only at this;rw [this]
 unfold dR;rw [StrLaws.glued_eq_join];exact e cs
theorem Xc:∀ cs:List Nat,((cs.map λc=>(⟨#[c]⟩:Str)).map (·.length)).sum=cs.length
 | []=>rfl
 | c::cs=>by
  have j:=Xc cs;rw [aD,aD,hJ,j,ai];show 1 + _=_
  lia
theorem vm:∀ ws:List Str,xo (ws.map D.str)=iO ws
 | []=>rfl
 | w::ws=>by simp [xo,vm ws]
variable {ls:List Str}
theorem Wj (ns:List Int) (hl:qil ls):∀ (ds:List D) (t:List D) (k:Option D),t.length+ds.length < 1000 ->∃ (cs:List Nat) (a:List D) (k':Option D),a.length=t.length+ds.length/\cs.length=ds.length/\(∀ c∈cs,az c) /\
   kI (gNm 0) ftT (qr [.vl,.sl 2,.vl] Ql (qb (qc 1) (jP (qb (qc 3) qv)))) ds [k,iO (scr ns),iO (.lst t),iO (.lst (ls.map D.str))]
    = .ok ((cs.map λc=>(⟨#[c]⟩:Str)).map D.str,[k',iO (scr ns),iO (.lst a),iO (.lst (ls.map D.str))])
 | [],t,k,_=>⟨[],t,k,by simp,rfl,by simp,rfl⟩
 | d::ds,t,k,ht=>by
  rw [ai] at ht;obtain ⟨e,i,hp⟩:=qa5 ns t (ls.map D.str) (by simpa using hl.1) (by lia);obtain ⟨x,hx,rfl⟩:=aC.mp i;obtain ⟨c,h,rfl⟩:=hl.2 x hx;obtain ⟨cs,a,k',m,b,z,q⟩:=Wj ns hl ds (t++[.int 0]) (iO d) (by rw [ao]; simp; lia);refine ⟨c::cs,a,k',?_,by simp [b],?_,?_⟩
  ·rw [m,ao,ai];simp
   lia
  ·intro y B;rcases af.mp B with rfl | B;·exact h
   ·exact z y B
  ·simp [kI,WN,hp,q]
theorem qa8 (ns:List Int) (t:List D) (hl:qil ls) (ht:t.length < 900):∃ w a,zM w/\a.length<=t.length+8/\Qm [scr ns,.lst t,.lst (ls.map D.str),.int 6]=.ok (.str w,[.non,.lst a,.non,.non]):=by
 obtain ⟨r,r0,r1,h⟩:=Qn ns t (many:=6) (by lia) (by lia);have n:(QA 0 (1+r).toNat).length=(1+r).toNat:=by simp [QA]
 obtain ⟨cs,a,k',m,k,z,q⟩:=Wj ns hl (QA 0 (1+r).toNat) (t++[.int 0]) iQ (by rw [n,ao]; simp; lia);rw [n] at m k;rw [ao] at m;simp at m;refine ⟨⟨cs.toArray⟩,a,⟨?_,?_,?_⟩,by lia,?_⟩;·show 1<=cs.toArray.size;simp; lia
 ·show cs.toArray.size<=6;simp; lia
 ·simpa using z
 ·refine qo.trans ?_;have c1:-(2 ^ 62:Int)<=1+r/\1+r < 2 ^ 62:=by lia
  have d:=big;have hz:(QA 0 (1+r).toNat).length<=sizeLine:=by rw [n]; lia
  have e0:cC (aa "")=0:=by decide +kernel
  have hs:=Xc cs;have j:QE (aa "") (.lst ((cs.map λc=>(⟨#[c]⟩:Str)).map D.str))=.ok (.str ⟨cs.toArray⟩):=by unfold QE;simp only [vm,qa7,hs];rw [Aa ⟨by simp [e0]; lia,by show cs.toArray.size<=_; simp; lia⟩]
  simp only [qa0,qp,qao,xp,jc];simp [-bR,h,vb,-Int.reducePow,c1,hz,vc,q,jS,j]
theorem vR (w:Str):∀ ws:List Str,QR 7 (.str w) (ws.map D.str)=iO (decide (w∈ws))
 | []=>by simp [QR]
 | a::ws=>by
  have j:=vR w ws;simp only [aD,QR,j];simp [eqN,eqS];by_cases h:a=w;·simp [h]
  ·simp [h,bb h]
def vn (ws:List Str):Prop:=1<=ws.length/\ws.length<=6/\ws.Nodup/\∀ w∈ws,zM w
abbrev qa9:qK:=(qG (jJ 6 (qr [.vl,.sl 1,.vl,.vl] Qm (qb (qc 0) (jP (qb (qc 3) (qb (dC (.int 6)) qv))))))
  (sIf (qO (d2 YB (qc 6) (qc 4))) (kM (JD 4 ZJ (qc 6))) jb))
theorem xJ (ns:List Int) (m:D) (h:qil ls):∀ (ds:List D) (n:List D) (ws:List Str) (k u:Option D),n.length+8 * ds.length < 900->ws.length+ds.length<=100->ws.Nodup->(∀ w∈ws,zM w) ->∃ (t:List D) (c:List Str) (k' U:Option D),t.length<=n.length+8 * ds.length/\c.length<=ws.length+ds.length/\ws.length<=c.length/\(ds≠[]->1<=c.length)/\c.Nodup/\(∀ w∈c,zM w) /\
   kC (gNm 5) qa9 ds [iO (scr ns),iO (.lst n),iO m,iO (.lst (ls.map D.str)),iO (.lst (ws.map D.str)),k,u]=.ok (.nx,[iO (scr ns),iO (.lst t),iO m,iO (.lst (ls.map D.str)),iO (.lst (c.map D.str)),k',U])
 | [],n,ws,k,u,_,_,hn,hw=>⟨n,ws,k,u,by simp,by simp,by simp,by simp,hn,hw,rfl⟩
 | d::ds,n,ws,k,u,ht,hl,hn,hw=>by
  rw [ai] at ht hl;obtain ⟨w,j,W,y,hg⟩:=qa8 ns n h (by lia);have o:=big;have hz:ws.length < sizeLine:=by lia
  by_cases e:w∈ws
  ·obtain ⟨t,c,k',U,s,i,f,r,p,l,g⟩:=xJ ns m h ds j ws (iO d) (iO (.str w)) (by lia) (by lia) hn hw;refine ⟨t,c,k',U,by rw [ai]; lia,by rw [ai]; lia,f,λ_=>?_,p,l,?_⟩
   ·have:0 < ws.length:=fg e
    lia
   ·rw [<-g];simp [kC,qa9,hg,YB,XQ,inD,vR,e]
  ·obtain ⟨t,c,k',U,s,i,f,r,p,l,g⟩:=xJ ns m h ds j (ws++[w]) (iO d) (iO (.str w)) (by lia) (by rw [ao]; simp; lia) (e9.mpr ⟨hn,by simp,λa q b o=>by
    rw [ax.mp o];exact λz=>e (z ▸ q)⟩) (λx hx=>by
    rcases aG.mp hx with hx | hx;·exact hw x hx
    ·rw [ax.mp hx];exact W)
   rw [ao] at i f;simp at i f;refine ⟨t,c,k',U,by rw [ai]; lia,by rw [ai]; lia,by lia,λ_=>by lia,p,l,?_⟩;rw [<-g];simp [kC,qa9,hg,YB,XQ,inD,vR,e,gc,ZJ,hz]
noncomputable def qfP:List (List Str):=[["a", "b"],["a", "b", "c"],["a", "b", "c", "d"],["k", "m", "z", "a", "e"]]
theorem qe7:∀ ls∈qfP,qil ls:=by
 have h1:∀ ls∈qfP,∀ x∈ls,x∈(["a", "b", "c", "d", "k", "m", "z", "e"]:List Str):=by decide +kernel
 have h2:∀ ls∈qfP,ls≠[]:=by decide +kernel
 intro ls h;refine ⟨h2 ls h,λx hx=>?_⟩;have h3:=h1 ls h x hx;simp only [af,bG,or_false] at h3;rcases h3 with rfl | rfl | rfl | rfl | rfl | rfl | rfl | rfl;·exact ⟨97,by unfold az; decide,by decide +kernel⟩
 ·exact ⟨98,by unfold az; decide,by decide +kernel⟩
 ·exact ⟨99,by unfold az; decide,by decide +kernel⟩
 ·exact ⟨100,by unfold az; decide,by decide +kernel⟩
 ·exact ⟨107,by unfold az; decide,by decide +kernel⟩
 ·exact ⟨109,by unfold az; decide,by decide +kernel⟩
 ·exact ⟨122,by unfold az; decide,by decide +kernel⟩
 ·exact ⟨101,by unfold az; decide,by decide +kernel⟩
theorem qcP (ns:List Int) (t:List D) (ht:t.length < 700):∃ ws a,vn ws/\ws.length<=6/\a.length<=t.length+50/\zK [scr ns,.lst t,.int 6]=.ok (.tup (ws.map D.str),[.non,.lst a,.non]):=by
 obtain ⟨d,hd,hp⟩:=qa5 ns t (qfP.map λl=>.lst (l.map D.str)) (by simp [qfP]) (by lia);obtain ⟨ls,h,rfl⟩:=aC.mp hd;have hl:=qe7 ls h;obtain ⟨r,r0,r1,b⟩:=Qn ns (t++[.int 0]) (many:=6) (by lia) (by rw [ao]; simp; lia);have n:(QA 0 (1+r).toNat).length=(1+r).toNat:=by simp [QA]
 obtain ⟨a,c,k',U,m,k,j,q,p,g,f⟩:=xJ ns (.int 6) hl (QA 0 (1+r).toNat) (t++[.int 0]++[.int 0]) [] iQ iQ (by rw [n,ao,ao]; simp; lia) (by rw [n]; simp; lia) c7 (by simp);have e:QA 0 (1+r).toNat≠[]:=λz=>by
  rw [z] at n;simp at n
  lia
 refine ⟨c,a,⟨q e,?_,p,g⟩,?_,?_,?_⟩
 ·rw [n] at k;simp at k
  lia
 ·rw [n] at k;simp at k
  lia
 ·rw [n,ao,ao] at m;simp at m
  lia
 ·refine qo.trans ?_;have c1:-(2 ^ 62:Int)<=1+r/\1+r < 2 ^ 62:=by lia
  have i:=big;have hz:4<=sizeLine:=by lia
  simp only [cS,ib,iu,cx] at f b;simp only [qfP,aD,cx] at hp;simp [YZ,qp,hp,b,vb,-Int.reducePow,c1,hz,f,gf]
def KB (p q:Int):Prop:=(-3<=p/\p<=2)/\-3<=q/\q<=2
theorem qe8 (ns:List Int) (t:List D) (ht:t.length < 900):∃ p q a,KB p q/\a.length=t.length+2/\UB [scr ns,.lst t]=.ok (.tup [.int p,.int q],[.non,.lst a]):=by
 obtain ⟨r,r0,r1,c⟩:=Qn ns t (many:=6) (by lia) (by lia);obtain ⟨u,b,i,f⟩:=Qn ns (t++[.int 0]) (many:=6) (by lia) (by rw [ao]; simp; lia);have d:=big;have hz:2<=sizeLine:=by lia
 refine ⟨r - 3,u - 3,t++[.int 0,.int 0],⟨⟨by lia,by lia⟩,by lia,by lia⟩,by simp,?_⟩;refine qo.trans ?_;simp only [cS,ib,iu] at f;simp [qa2,qp,c,f,KC,hz]
noncomputable def yZ (n:Nat) (p:Int):Nat:=(max 0 (min (if 0<=p then p else (n:Int)+p) ((n:Int) - 1))).toNat
noncomputable def qba (w:Str) (p:Int):Str:=⟨#[(w.cps.toList[yZ w.length p]?).getD 0]⟩
variable {w:Str}
theorem zk (hw:zM w) (p:Int):vk [.str w,.int p]=.ok (.str (qba w p),[.non,.non]):=by
 have h1:=hw.1;have h:(w.cps.toList.length:Int)=w.length:=by simp [Qo]
 have key:∀ q:Int,q=(if 0<=p then p else (w.length:Int)+p)->atI w.cps.toList (if 0 < (if (w.length:Int) - 1 < q then (w.length:Int) - 1 else q) then (if (w.length:Int) - 1 < q then (w.length:Int) - 1 else q) else 0)=iO ((w.cps.toList[yZ w.length p]?).getD 0):=by
  intro q hq;have e:(if 0 < (if (w.length:Int) - 1 < q then (w.length:Int) - 1 else q) then (if (w.length:Int) - 1 < q then (w.length:Int) - 1 else q) else 0)=(yZ w.length p:Int):=by
   unfold yZ;rw [<-hq];have:1<=(w.length:Int):=by omega
   generalize (w.length:Int)=n at *;split <;> split <;> omega
  have hl:yZ w.length p < w.cps.toList.length:=by
   have Y:w.cps.toList.length=w.length:=by simp [Qo]
   rw [Y];unfold yZ;omega
  rw [e,uc,aA hl];rfl
 refine qo.trans ?_;by_cases hp:0<=p;·have k:=key p (by rw [Aa hp]);simp [yb,qp,geD,KC,hp,qh1,qh2,ixD,k,qba]
 ·have k:=key (w.length+p) (by rw [Ab hp]);simp [yb,qp,geD,KC,hp,qh1,qh2,ixD,k,qba]
variable {own:List Nat}
theorem xK (ρc:Sl):∀ (cap:List Nat) (n:Nat) (ρ:Sl),(∀ k∈cap,k∉own)->jS own ρc n cap ρ=ρ
 | [],n,ρ,_=>rfl
 | k::cap,n,ρ,h=>by unfold jS;rw [Ab (h k (aj ..))];exact xK ρc cap (n+1) ρ λx hx=>h x (ae _ hx)
theorem qhj {fe:qZ} {ft:xf} {P:D->Bool} {F:D->D} {c:Sl}:∀ (ds:List D) (x:Option D),(∀ d∈ds,ft (iO d::c)=.ok (P d,iO d::c))->(∀ d∈ds,P d=iT->fe (iO d::c)=.ok (F d,iO d::c))->∃ n,kI (gNm 0) ft fe ds (x::c)=.ok ((ds.filter P).map F,n::c)
 | [],x,_,_=>⟨x,rfl⟩
 | d::ds,x,h,h'=>by
  obtain ⟨n,e⟩:=qhj ds (iO d) (λd' hd=>h d' (ae _ hd)) λd' hd=>h' d' (ae _ hd);refine ⟨n,?_⟩;have h1:=h d (aj ..);have h2:=h' d (aj ..);cases q:P d with
  | true=>simp [kI,WN,h1,q,h2 q,e]
  | false=>simp [kI,WN,h1,q,e]
variable {cap:List Nat} {ρ1:Sl}
theorem qbb {fi:wq} {fe:qZ} {ft:xf} (P:D->Bool) (F:D->D) (l:∀ k∈cap,k∉own) (h:fi ρ=.ok (ds,ρ1)) (hl:ds.length<=sizeLine)
  (ht:∀ d∈ds,ft (iO d::cap.map λk=>(ρ1[k]?).getD iQ)=.ok (P d,iO d::cap.map λk=>(ρ1[k]?).getD iQ)) (i:∀ d∈ds,P d=iT->fe (iO d::cap.map λk=>(ρ1[k]?).getD iQ)=.ok (F d,iO d::cap.map λk=>(ρ1[k]?).getD iQ)) :
  jc own 1 cap fi (gNm 0) ft fe ρ=.ok (.lst ((ds.filter P).map F),ρ1):=by
 obtain ⟨n,e⟩:=qhj ds iQ ht i;unfold jc;rw [h];simp only [vY];rw [Aa hl,show vc 1 cap ρ1=iQ::cap.map λk=>(ρ1[k]?).getD iQ from rfl,e];simp only [vY,xK _ _ _ _ l]
theorem qbc {fi:wq} {fe:qZ} (F:D->D) (l:∀ k∈cap,k∉own) (h:fi ρ=.ok (ds,ρ1)) (hl:ds.length<=sizeLine) (ht:∀ d∈ds,fe (iO d::cap.map λk=>(ρ1[k]?).getD iQ)=.ok (F d,iO d::cap.map λk=>(ρ1[k]?).getD iQ)):jc own 1 cap fi (gNm 0) ftT fe ρ=.ok (.lst (ds.map F),ρ1):=by have e:=qbb (ft:=ftT) (λ_=>iT) F l h hl (λ_ _=>rfl) λd hd _=>ht d hd;rw [List.filter_eq_self.mpr λ_ _=>rfl] at e;exact e
theorem vS {fi:wq} {fe:qZ} (F:D->D) (h:fi ρ=.ok (ds,ρ1)) (hl:ds.length<=sizeLine) (ht:∀ d∈ds,fe (iO d::cap.map λk=>(ρ1[k]?).getD iQ)=.ok (F d,iO d::cap.map λk=>(ρ1[k]?).getD iQ)):jc [] 1 cap fi (gNm 0) ftT fe ρ=.ok (.lst (ds.map F),ρ1):=qbc F (λ_ _=>by simp) h hl ht
noncomputable def qX (ws:List Str) (p q:Int):List (Str×Str):=ws.map λw=>(qba w p,qba w q)
noncomputable def ql (l:List (Str×Str)):List D:=l.map λx=>.tup [.str x.1,.str x.2]
theorem ji (h:n<=2000):n<=sizeLine:=bu h big
abbrev Wd (ws:List Str):D:=.tup (ws.map D.str)
abbrev Ld (p q:Int):D:=.tup [.int p,.int q]
variable {ws:List Str} {p q:Int}
theorem ZA {G:jy} (hw:vn ws) (h:∀ w∈ws,G [.str w,.int p]=.ok (.str (qba w p),[.non,.non])/\G [.str w,.int q]=.ok (.str (qba w q),[.non,.non])):jc [] 1 [1] (jI (qc 0)) (gNm 0) ftT (Vh (qb (qr [.vl,.vl] G (qb (qc 0) (qb (d2 ixD (qc 1) (dC (.int 0))) qv))) (qb (qr [.vl,.vl] G (qb (qc 0) (qb (d2 ixD (qc 1) (dC (.int 1))) qv))) qv))) [iO (Wd ws),iO (Ld p q)]
   = .ok (.lst (ql (qX ws p q)),[iO (Wd ws),iO (Ld p q)]):=by
 have e:=vS (cap:=[1]) (fi:=jI (qc 0)) (ρ:=[iO (Wd ws),iO (Ld p q)]) (ρ1:=[iO (Wd ws),iO (Ld p q)]) (ds:=ws.map D.str)
  (fe:=(Vh (qb (qr [.vl,.vl] G (qb (qc 0) (qb (d2 ixD (qc 1) (dC (.int 0))) qv))) (qb (qr [.vl,.vl] G (qb (qc 0) (qb (d2 ixD (qc 1) (dC (.int 1))) qv))) qv))))
  (λd=>match d with | .str w=>.tup [.str (qba w p),.str (qba w q)] | d=>d) (by simp [jw]) (by rw [am]; exact ji (by have:=hw.2.1; lia)) (λd hd=>by obtain ⟨w,c,rfl⟩:=aC.mp hd;obtain ⟨h1,h2⟩:=h w c;have hz:2<=sizeLine:=ji (by lia);simp [ixD,atI,ixN,h1,h2,hz])
 rw [e];simp [ql,qX]
def Pl:D->Prop
 | .raw _=>False
 | .xcp _=>False
 | .ins _ _=>False
 | .dct _=>False
 | .at_ _ _=>False
 | _=>True
@[simp] theorem kk1:kl "NoneType" "int"=iO false:=by decide +kernel
@[simp] theorem kk2:kl "bool" "int"=iO true:=by decide +kernel
@[simp] theorem kk3:kl "int" "int"=iO true:=by decide +kernel
@[simp] theorem kk4:kl "str" "int"=iO false:=by decide +kernel
@[simp] theorem kk5:kl "tuple" "int"=iO false:=by decide +kernel
@[simp] theorem kk6:kl "list" "int"=iO false:=by decide +kernel
@[simp] theorem kb1:kl "NoneType" "bool"=iO false:=by decide +kernel
@[simp] theorem kb2:kl "bool" "bool"=iO true:=by decide +kernel
@[simp] theorem kb3:kl "int" "bool"=iO false:=by decide +kernel
@[simp] theorem kb4:kl "str" "bool"=iO false:=by decide +kernel
@[simp] theorem kb5:kl "tuple" "bool"=iO false:=by decide +kernel
@[simp] theorem kb6:kl "list" "bool"=iO false:=by decide +kernel
@[simp] theorem ks1:kl "NoneType" "str"=iO false:=by decide +kernel
@[simp] theorem ks2:kl "bool" "str"=iO false:=by decide +kernel
@[simp] theorem ks3:kl "int" "str"=iO false:=by decide +kernel
@[simp] theorem ks4:kl "str" "str"=iO true:=by decide +kernel
@[simp] theorem ks5:kl "tuple" "str"=iO false:=by decide +kernel
@[simp] theorem ks6:kl "list" "str"=iO false:=by decide +kernel
@[simp] theorem kt1:kl "NoneType" "tuple"=iO false:=by decide +kernel
@[simp] theorem kt2:kl "bool" "tuple"=iO false:=by decide +kernel
@[simp] theorem kt3:kl "int" "tuple"=iO false:=by decide +kernel
@[simp] theorem kt4:kl "str" "tuple"=iO false:=by decide +kernel
@[simp] theorem kt5:kl "tuple" "tuple"=iO true:=by decide +kernel
@[simp] theorem kt6:kl "list" "tuple"=iO false:=by decide +kernel
noncomputable def Kq:D->Bool
 | .tup _=>iT
 | _=>iS
theorem qdq (h:Pl d):zp "tuple" d=.ok (.bl (Kq d)):=by cases d <;> first | exact h.elim | simp [zp,tyN,Kq]
noncomputable def qbd:D->Bool
 | .str x=>decide (x.length=1)&&(!kL x "a"&&!kL "z" x)
 | _=>iS
noncomputable def UE (lo hi:Int):D->Bool
 | .int i=>decide (lo<=i)&&decide (i<=hi)
 | _=>iS
theorem zl (h:Pl d):vj [d]=.ok (.bl (qbd d),[.non]):=by
 refine qo.trans ?_;cases d <;> first
  | exact h.elim
  | (simp [wc,qp,zp,tyN,qbd]; done)
  | skip
 rename_i x;by_cases h1:x.length=1
 ·have c:(x.length:Int)=1:=by lia
  cases h2:kL x "a" <;> simp [wc,qp,zp,tyN,eqD,eqN,eqS,qbd,h1,c,h2]
 ·have c:¬(x.length:Int)=1:=by lia
  simp [wc,qp,zp,tyN,eqD,eqN,eqS,qbd,h1,c]
theorem kT (h:Pl d) (lo hi:Int):jU [d,.int lo,.int hi]=.ok (.bl (UE lo hi d),[.non,.non,.non]):=by
 refine qo.trans ?_;cases d <;> first
  | exact h.elim
  | (simp [wI,qp,zp,tyN,UE]; done)
  | skip
 rename_i i;by_cases h1:lo<=i <;> simp [wI,qp,zp,tyN,UE,h1]
theorem qdr {c:Nat} (h:az c):qbd (.str ⟨#[c]⟩)=true:=by
 have g:(aa "a").cps.toList=[97]:=by decide +kernel
 have hz:(aa "z").cps.toList=[122]:=by decide +kernel
 obtain ⟨h1,h2⟩:=h;have i:¬([c]:List Nat) < [97]:=by rw [List.cons_lt_cons_iff];simp;omega
 have l:¬([122]:List Nat) < [c]:=by rw [List.cons_lt_cons_iff];simp;omega
 have e1:kL ⟨#[c]⟩ (aa "a")=false:=by unfold kL;rw [g];exact Ac i
 have e:kL (aa "z") ⟨#[c]⟩=false:=by unfold kL;rw [hz];exact Ac l
 simp [qbd,Qo,e1,e]
theorem Jm (f:α->Bool):∀ l:List α,xP (l.map λx=>.bl (f x))=iO (l.map f)
 | []=>rfl
 | a::l=>by have j:=Jm f l;simp [xP,j]
theorem ux (f:α->Bool) (l:List α):Yv (.lst (l.map λx=>.bl (f x)))=.ok (.bl (l.all f)):=by simp only [Yv,Jm];simp [List.all_map,Function.comp_def]
theorem qbe (hw:zM w) (p:Int):∃ c,az c/\qba w p=⟨#[c]⟩:=by
 have n:w.cps.toList.length=w.length:=by simp [Qo]
 have hl:yZ w.length p < w.cps.toList.length:=by have:=hw.1;rw [n];unfold yZ;omega
 refine ⟨w.cps.toList[yZ w.length p],hw.2.2 _ (bZ hl),?_⟩;unfold qba;rw [aA hl];rfl
theorem Jn (hw:zM w):wP [.str w]=.ok (.bl iT,[.non]):=by
 refine qo.trans ?_;have e:=vS (cap:=[]) (fi:=jI (qc 0)) (ρ:=[iO (.str w)]) (ρ1:=[iO (.str w)]) (ds:=Vt w) (fe:=qr [.vl] vj (qb (qc 0) qv)) (λd=>.bl (qbd d)) (by simp [jw]) (by
   have:=hw.2.1;simp [Vt,<-Qo];exact ji (by lia)) (λd hd=>by
   obtain ⟨c,h,rfl⟩:=aC.mp hd;have h1:=zl (d:=.str ⟨#[c]⟩) trivial;simp [h1])
 have g:(Vt w).all qbd=true:=by rw [aJ];intro d hd;obtain ⟨c,h,rfl⟩:=aC.mp hd;exact qdr (hw.2.2 c h)
 have h1:(1:Int)<=w.length:=by have:=hw.1; lia
 have a:(w.length:Int)<=6:=by have:=hw.2.1; lia
 simp only [VU,qp,aD,cx,ai,be,Nat.reduceAdd,fH,cX,bv];simp [zp,tyN,h1,a,e,ux,g]
theorem yl:∀ (ws ks:List Str),ws.Nodup->(∀ x∈ws,x∉ks)->ws.foldl xR ks=ks++ws
 | [],ks,_,_=>by simp
 | w::ws,ks,hn,hd=>by
  have h1:=aT.mp hn;rw [cq,show xR ks w=ks++[w] from Ab (hd w (aj ..)),yl ws (ks++[w]) h1.2 ?_];·simp
  ·intro x hx z;rcases aG.mp z with z | z;·exact hd x (ae _ hx) z
   ·rw [ax.mp z] at hx;exact h1.1 hx
theorem xa (ws:List Str):∀ ks:List Str,ks.Nodup->(ws.foldl xR ks).Nodup/\∀ x,x∈ws.foldl xR ks↔x∈ks\/x∈ws:=by
 induction ws with
 | nil=>intro ks n; exact ⟨n,λx=>by simp⟩
 | cons w ws j=>
  intro ks n;have d:(xR ks w).Nodup:=by
   unfold xR;split;·exact n
   ·rename_i h;exact e9.mpr ⟨n,by simp,λa g b c=>by rw [ax.mp c];exact λz=>h (z ▸ g)⟩
  obtain ⟨a,b⟩:=j (xR ks w) d;refine ⟨a,λx=>?_⟩;rw [cq,b x];unfold xR;split
  ·rename_i h;constructor
   ·rintro (q | q);·exact .inl q
    ·exact .inr (ae _ q)
   ·rintro (q | q);·exact .inl q
    ·rcases af.mp q with rfl | q;·exact .inl h
     ·exact .inr q
  ·simp [aG,or_assoc]
theorem UF (hw:vn ws):xy [.tup (ws.map D.str)]=.ok (.bl iT,[.non]):=by
 refine qo.trans ?_;have e:=vS (cap:=[]) (fi:=jI (qc 0)) (ρ:=[iO (.tup (ws.map D.str))]) (ρ1:=[iO (.tup (ws.map D.str))]) (ds:=ws.map D.str) (fe:=qr [.vl] wP (qb (qc 0) qv)) (λd=>.bl iT) (by simp [jw]) (by
   rw [am];exact ji (by have:=hw.2.1; lia)) (λd hd=>by
   obtain ⟨w,c,rfl⟩:=aC.mp hd;have h1:=Jn (hw.2.2.2 w c);simp [h1])
 have h1:(1:Int)<=ws.length:=by have:=hw.1; lia
 have a:(ws.length:Int)<=6:=by have:=hw.2.1; lia
 have h:ws.foldl xR []=ws:=by rw [yl ws [] hw.2.2.1 (by simp)]; simp
 have b:ws.length < 4000:=by lia
 have g:=ux (λ_:D=>iT) (ws.map D.str);simp only [Jd,qp,aD,cx,ai,be,Nat.reduceAdd,fH,cX,bv];simp [-bR,zp,tyN,h1,a,e,g,gB,yJ,vm,h,b,eqD,eqN,eqS]
theorem QM (hw:vn ws):wf [.tup (ws.map D.str)]=.ok (.non,[.non]):=by refine qo.trans ?_;have h:=UF hw;simp [yP,qp,h]
theorem ZC (hl:KB p q):gP [.tup [.int p,.int q]]=.ok (.bl iT,[.non]):=by
 refine qo.trans ?_;have e:=vS (cap:=[]) (fi:=jI (qc 0)) (ρ:=[iO (.tup [.int p,.int q])]) (ρ1:=[iO (.tup [.int p,.int q])]) (ds:=[.int p,.int q]) (fe:=qr [.vl,.vl,.vl] jU (qb (qc 0) (qb (dC (.int (-3))) (qb (dC (.int 2)) qv)))) (λd=>.bl (UE (-3) 2 d)) (by simp [jw]) (ji (by simp)) (λd hd=>by
   have hd:d=.int p\/d=.int q:=by simpa using hd
   have h1:=kT (d:=.int p) trivial (-3) 2;have h2:=kT (d:=.int q) trivial (-3) 2;rcases hd with rfl | rfl;·simp [h1]
   ·simp [h2])
 have B:UE (-3) 2 (.int p)=true:=by simp [UE]; exact hl.1
 have A:UE (-3) 2 (.int q)=true:=by simp [UE]; exact hl.2
 simp only [VN,qp,aD,cx,ai,be,Nat.reduceAdd,fH,cX,bv];simp [zp,tyN,neD,eqN,eqS,e,Yv,xP,B,A]
theorem xb (hl:KB p q):vx [.tup [.int p,.int q]]=.ok (.non,[.non]):=by refine qo.trans ?_;have h:=ZC hl;simp [xT,qp,h]
theorem Xd (hw:vn ws) (hl:KB p q):gT [Wd ws,Ld p q]=.ok (.lst (ql (qX ws p q)),[.non,.non]):=by
 refine qo.trans ?_;have e:=ZA (G:=vk) hw (p:=p) (q:=q) λw c=>⟨zk (hw.2.2.2 w c) p,zk (hw.2.2.2 w c) q⟩
 have c1:=QM hw;have c2:=xb hl;simp only [qaT,qp,aD,cx,ai,be,Nat.reduceAdd,fH,cX,bv];simp [c1,c2,e]
noncomputable def LS (l:List (Str×Str)):List Str:=uA ((l.map (·.1)++l.map (·.2)).foldl xR [])
variable {l:List (Str×Str)}
theorem xc:x∈LS l↔∃ p∈l,x=p.1\/x=p.2:=by
 unfold LS;rw [(je _).mem_iff,(xa _ [] c7).2];simp only [bG,false_or,aG,aC];constructor
 ·rintro (⟨p,hp,rfl⟩ | ⟨p,hp,rfl⟩);·exact ⟨p,hp,.inl rfl⟩
  ·exact ⟨p,hp,.inr rfl⟩
 ·rintro ⟨p,hp,rfl | rfl⟩;·exact .inl ⟨p,hp,rfl⟩
  ·exact .inr ⟨p,hp,rfl⟩
theorem wp (hl:l.length<=20):qT [.lst (ql l)]=.ok (.lst ((LS l).map D.str),[.non]):=by
 refine qo.trans ?_;have hz:(ql l).length<=sizeLine:=by unfold ql;rw [am];exact ji (by lia)
 have e1:=vS (cap:=[]) (fi:=jI (qc 0)) (ρ:=[iO (.lst (ql l))]) (ρ1:=[iO (.lst (ql l))]) (ds:=ql l) (fe:=d2 ixD (qc 0) (dC (.int 0))) (λd=>match d with | .tup [a,b]=>a | d=>d) (by simp [jw]) hz (λd hd=>by obtain ⟨x,hx,rfl⟩:=aC.mp hd;simp [ixD,atI,ixN]);have i:=vS (cap:=[]) (fi:=jI (qc 0)) (ρ:=[iO (.lst (ql l))]) (ρ1:=[iO (.lst (ql l))]) (ds:=ql l) (fe:=d2 ixD (qc 0) (dC (.int 1))) (λd=>match d with | .tup [a,b]=>b | d=>d) (by simp [jw]) hz (λd hd=>by obtain ⟨x,hx,rfl⟩:=aC.mp hd;simp [ixD,atI,ixN]);have f1:(ql l).map (λd=>match d with | .tup [a,b]=>a | d=>d)=(l.map (·.1)).map D.str:=by simp [ql]
 have f2:(ql l).map (λd=>match d with | .tup [a,b]=>b | d=>d)=(l.map (·.2)).map D.str:=by simp [ql]
 rw [f1] at e1;rw [f2] at i;have hs:l.length+l.length<=sizeLine:=ji (by lia);have j:l.length+l.length < 64:=by lia
 simp only [zb,qp,aD,cx,ai,be,Nat.reduceAdd,fH,cX,bv,qao,xp,qi3,e1,i,vY];simp only [qkt,am,Aa hs,qiY,vY,<-cM,um,yJ,vm,ao,Aa j];simp [LS]
variable {a:D}
theorem at0 {l:List D}:atI (a::l) 0=iO a:=by have:=uc (a::l) 0;simpa using this
theorem at1 {b:D} {l:List D}:atI (a::b::l) 1=iO b:=by have:=uc (a::b::l) 1;simpa using this
abbrev nn4:Sl:=[iO .non,iO .non,iO .non,iO .non]
theorem Kr (h:Pl d):wR [d]=if UE 1 99 d=iT then .ok (.non,[.non]) else .exc "NoRoom" [iO .non]:=by refine qo.trans ?_;have h1:=kT h 1 99;have hz:1<=sizeLine:=ji (by lia);cases e:UE 1 99 d <;> simp [xZ,qp,h1,e,jd]
theorem qw {f g:qK} (h:f ρ=.ok (.nx,ρ1)):YI ms (qG f g ρ)=YI ms (g ρ1):=by rw [WY,h];rfl
theorem qhk (hw:vn ws) (p q:Int):(LS (qX ws p q)).length<=12:=by
 have hs:(qX ws p q).length<=6:=by simp [qX]; exact hw.2.1
 unfold LS;rw [(je _).length_eq];have:=gl ((qX ws p q).map (·.1)++(qX ws p q).map (·.2)) [];simp only [ao,am,be] at this
 lia
theorem qhl (hw:vn ws) (p q:Int):∀ x∈LS (qX ws p q),∃ c,az c/\x=⟨#[c]⟩:=λx hx=>by
 obtain ⟨y,B,h⟩:=xc.mp hx;obtain ⟨w,m,rfl⟩:=aC.mp B;rcases h with rfl | rfl;·exact qbe (hw.2.2.2 w m) p
 ·exact qbe (hw.2.2.2 w m) q
theorem qhm (l:List (Str×Str)):(LS l).Nodup:=(je _).nodup_iff.mpr (xa _ [] c7).1
def qjY (d:D):Prop:=Pl d/\∀ xs,d=.tup xs->∀ x∈xs,Pl x
noncomputable def qbf (room:Int):D->Bool
 | .tup [a,b]=>qbd a&&UE 0 (room - 1) b
 | _=>iS
theorem UG (h:qjY d) (room:Int):uq [d,.int room]=.ok (.bl (qbf room d),[.non,.non]):=by
 refine qo.trans ?_;have ht:=qdq h.1;cases d with
 | tup xs=>
  have hp:=h.2 xs rfl
  match xs,hp with
  | [],_=>simp [kY,qp,ht,Kq,neD,eqN,eqS,qbf]
  | [a],_=>simp [kY,qp,ht,Kq,neD,eqN,eqS,qbf]
  | [a,b],hp=>have h1:=zl (hp a (by simp));have h2:=kT (hp b (by simp)) 0 (room - 1);cases f:qbd a <;> simp [kY,qp,ht,Kq,neD,eqN,eqS,qbf,ixD,at0,at1,h1,h2,f,KC]
  | a::b::c::l,_=>
   have e:¬((l.length:Int)+1+1+1=2):=by lia
   simp [kY,qp,ht,Kq,neD,eqN,eqS,qbf,e]
 | _=>first | exact h.1.elim | simp [kY,qp,ht,Kq,qbf]
noncomputable def prL (l:List (Str×Int)):List D:=l.map λx=>.tup [.str x.1,.int x.2]
def OkW (room:Int) (l:List (Str×Int)):Prop:=∀ x∈l,qbd (.str x.1)=iT/\0<=x.2/\x.2 < room
variable {room:Int}
theorem qe9 {l:List (Str×Int)} (h:OkW room l):(prL l).all (qbf room)=true:=by
 rw [aJ];intro d hd;obtain ⟨x,hx,rfl⟩:=aC.mp hd;obtain ⟨h1,h2,h3⟩:=h x hx;simp [qbf,h1,UE,h2]
 lia
noncomputable def jp (l:List (Str×Int)):List Str:=l.map (·.1)
theorem Wk:∀ (a b:List Str),wy (eqN 7) (a.map D.str) (b.map D.str)=iO (decide (a.take (min a.length b.length)=b.take (min a.length b.length)))
 | [],b=>by simp [wy]
 | a::l,[]=>by simp [wy]
 | a::l,b::m=>by have j:=Wk l m;simp only [aD,wy,j,eqN,eqS,ai,Nat.succ_eq_add_one,Nat.add_min_add_right,List.take_succ_cons];by_cases h:a=b <;> simp [h]
theorem qcQ (a b:List Str):eqD (.lst (a.map D.str)) (.lst (b.map D.str))=.ok (.bl (decide (a=b))):=by
 by_cases h:a.length=b.length;·have e:=Wk a b;rw [h,Nat.min_self,ia,<-h,ia] at e;simp [eqD,eqN,h,e]
 ·have c:a≠b:=λz=>h (by rw [z]);simp [eqD,eqN,h,c]
noncomputable def UH (l:List (Str×Int)):Bool:=decide (jp l=uA ((jp l).foldl xR []))
theorem Wl (h:∀ d∈ds,qjY d) (hl:ds.length<=50) (room:Int):(ds.all (qbf room)=iS->kq [.tup ds,.int room]=.ok (.bl iS,[.non,.non]))/\∀ l,ds=prL l->OkW room l->kq [.tup ds,.int room]=.ok (.bl (UH l),[.non,.non]):=by
 have hz:ds.length<=sizeLine:=ji (by lia);have ht:=qdq (d:=.tup ds) trivial;have e1:=vS (cap:=[1]) (fi:=jI (qc 0)) (ρ:=[iO (.tup ds),iO (.int room),iQ]) (ρ1:=[iO (.tup ds),iO (.int room),iQ]) (ds:=ds) (fe:=qr [.vl,.vl] uq (qb (qc 0) (qb (qc 1) qv))) (λd=>.bl (qbf room d)) (by simp [jw]) hz (λd hd=>by have h1:=UG (h d hd) room;simp [h1]);have g:=ux (qbf room) ds;constructor;·intro c;refine qo.trans ?_;simp [yd,qp,ht,Kq,e1,g,c]
 ·rintro l rfl hw;refine qo.trans ?_;have c:=qe9 hw;have i:=vS (cap:=[]) (fi:=jI (qc 0)) (ρ:=[iO (.tup (prL l)),iO (.int room),iQ]) (ρ1:=[iO (.tup (prL l)),iO (.int room),iQ]) (ds:=prL l) (fe:=d2 ixD (qc 0) (dC (.int 0))) (λd=>match d with | .tup [a,b]=>a | d=>d) (by simp [jw]) hz (λd hd=>by obtain ⟨x,hx,rfl⟩:=aC.mp hd;simp [ixD,at0]);have f2:(prL l).map (λd=>match d with | .tup [a,b]=>a | d=>d)=(jp l).map D.str:=by simp [prL,jp]
  rw [f2] at i;have j:(jp l).length < 64:=by
   simp [jp];simp [prL] at hl
   lia
  have m:=qcQ (jp l) (uA ((jp l).foldl xR []));simp [yd,qp,ht,Kq,e1,g,c,i,um,yJ,vm,j,m,UH]
noncomputable def UI:List Str->Bool
 | x::y::l=>kL x y&&UI (y::l)
 | _=>iT
theorem qjk (h:kL x y=iT):leS x y/\x≠y:=by
 unfold kL at h;have h:=Ae h;constructor;·exact List.le_of_lt h
 ·rintro rfl;exact List.lt_irrefl _ h
theorem qjl (h:leS x y) (n:x≠y):kL x y=true:=by
 cases e:kL x y with
 | true=>rfl
 | false=>exact absurd (JI h (uU.mp e)) n
theorem UJ:∀ (l:List Str),UI l=iT->l.Pairwise (λx y=>leS x y/\x≠y)
 | [],_=>dI
 | [x],_=>c9 _ _
 | x::y::l,h=>by
  have h:(kL x y&&UI (y::l))=true:=h;rw [aN] at h;have j:=UJ (y::l) h.2;have a:=qjk h.1;refine bh.mpr ⟨λz hz=>?_,j⟩;rcases af.mp hz with rfl | hz;·exact a
  ·have b:=(bh.mp j).1 z hz;refine ⟨gu a.1 b.1,λe=>?_⟩;subst e;exact a.2 (JI a.1 b.1)
theorem UK:∀ (l:List Str),l.Pairwise (λx y=>leS x y/\x≠y)->UI l=iT
 | [],_=>rfl
 | [x],_=>rfl
 | x::y::l,h=>by have h1:=bh.mp h;have a:=h1.1 y (aj ..);show (kL x y&&UI (y::l))=iT;rw [qjl a.1 a.2,UK (y::l) h1.2];rfl
theorem Xe {l:List Str} (h:l.Pairwise (λx y=>leS x y/\x≠y)):l.Nodup:=h.imp λh=>h.2
theorem Xf (L:List Str):decide (L=uA (L.foldl xR []))=UI L:=by
 cases e:UI L with
 | true=>
  have p:=UJ L e;have n:=Xe p;have f:L.foldl xR []=L:=by rw [yl L [] n (by simp)]; simp
  rw [f];exact Ad (gz (je L).symm (p.imp λh=>h.1) (kz L))
 | false=>refine Ac λz=>?_;have n:(uA (L.foldl xR [])).Nodup:=(je _).nodup_iff.mpr (xa L [] c7).1;have hs:=kz (L.foldl xR []);rw [<-z] at n hs;have p:L.Pairwise (λx y=>leS x y/\x≠y):=hs.and n;rw [UK L p] at e;cases e
theorem ZD {l:List (Str×Int)} (h:UH l=iT):(jp l).Nodup:=by unfold UH at h;rw [Xf] at h;exact Xe (UJ _ h)
noncomputable def bk (l:List (Str×Int)):List (Key×D):=l.map λx=>(.inr x.1,.int x.2)
theorem Wm:∀ l:List (Str×Int),uE (prL l)=iO (bk l)
 | []=>rfl
 | x::l=>by have j:=Wm l;unfold prL at j ⊢;rw [aD];simp [uE,qci,Ww,j,bk]
theorem qbg:∀ (l:List (Str×Int)) (a:List (Key×D)),(jp l).Nodup->(∀ x∈l,∀ p∈a,p.1≠.inr x.1)->(bk l).foldl (λa p=>vU a p.1 p.2) a=a++bk l
 | [],a,_,_=>by simp [bk]
 | x::l,a,hn,hd=>by
  have h1:=aT.mp (show (x.1::jp l).Nodup from hn);have hp:vU a (.inr x.1) (.int x.2)=a++[(.inr x.1,.int x.2)]:=by unfold vU;rw [Ab];simp only [ic,decide_eq_true_eq,not_exists,not_and];exact λp hp=>hd x (aj ..) p hp
  have j:=qbg l (a++[(.inr x.1,.int x.2)]) h1.2 (λy B p hp=>by
   rcases aG.mp hp with hp | hp;·exact hd y (ae _ B) p hp
   ·rw [ax.mp hp];intro z;have z:x.1=y.1:=ce.inj z;exact h1.1 (z ▸ aC.mpr ⟨y,B,rfl⟩))
  show ((bk l).foldl (λa p=>vU a p.1 p.2) (vU a (.inr x.1) (.int x.2)))=a++(.inr x.1,.int x.2)::bk l;rw [hp,j];simp
theorem qfa {l:List (Str×Int)} (h:(jp l).Nodup):qcj (.tup (prL l))=.ok (.dct (bk l)):=by have e:=qbg l [] h (λ_ _ p hp=>by cases hp);simp at e;simp [qcj,Wm,e]
theorem Xg (l:List (Str×Int)) (x:Str):kN (bk l) (.inr x)=decide (x∈jp l):=by
 unfold kN bk jp;rw [List.any_map]
 induction l with
 | nil=>simp
 | cons a l j=>
  simp only [cy,aD,af,j];by_cases h:a.1=x;·simp [h]
  ·simp [h,bb h]
noncomputable def Qw (l:List (Str×Int)) (x:Str):Int:=((l.find? λy=>decide (y.1=x)).map (·.2)).getD 0
theorem Ks:∀ {l:List (Str×Int)} {x:Str},x∈jp l->(x,Qw l x)∈l/\(bk l).find? (λkv=>decide (kv.1=ce x))=iO (.inr x,.int (Qw l x))
 | [],x,h=>by cases h
 | a::l,x,h=>by
  by_cases e:a.1=x
  ·have c:Qw (a::l) x=a.2:=by simp [Qw,e]
   rw [c];refine ⟨?_,?_⟩;·rw [<-e];exact aj ..
   ·simp [bk,e]
  ·have hx:x∈jp l:=by
    rcases af.mp (show x∈a.1::jp l from h) with z | z;·exact absurd z.symm e
    ·exact z
   obtain ⟨h1,h2⟩:=Ks hx;have c:Qw (a::l) x=Qw l x:=by simp [Qw,e]
   rw [c];refine ⟨ae _ h1,?_⟩;rw [<-h2];simp [bk,e]
theorem qhn {l:List (Str×Int)} (h:x∈jp l):ixD (.dct (bk l)) (.str x)=.ok (.int (Qw l x)):=by simp [ixD,(Ks h).2]
theorem qds {l:List (Str×Int)} (hw:OkW room l) (h:x∈jp l):0<=Qw l x/\Qw l x < room:=(hw _ (Ks h).1).2
theorem Qp (h:kq [d,.int room]=.ok (.bl b,[.non,.non])):vI [d,.int room]=if b=iT then .ok (.non,[.non,.non]) else .exc "NoWorths" [iO .non,iO .non]:=by refine qo.trans ?_;cases b <;> simp [uJ,qp,h,jd]
theorem qbh (t room:Int):zJ [.int t,.int room]=.ok (.int (if room<=t then t - room else t),[.non,.non]):=by refine qo.trans ?_;by_cases h:room<=t <;> simp [YX,qp,geD,KC,h]
variable {r:Int}
section
variable (hw:vn ws) (hl:KB p q)
include hw hl
noncomputable def qim (l:List (Str×Int)) (s:List (Str×Str)) (r:Int):List D:=s.map λx=>.int ((Qw l x.1+Qw l x.2) % r)
omit hw hl in
theorem qku {a b:Int} (g:0<=a/\a < r) (d:0<=b/\b < r):(if r<=a+b then a+b - r else a+b)=(a+b) % r:=by
 split;·rw [<-Int.sub_emod_right,fY (by lia) (by lia)]
 ·rw [fY (by lia) (by lia)]
theorem UL {l:List (Str×Int)} (f:UE 1 99 (.int r)=iT) (o:OkW r l) (hs:UH l=iT) (h:kq [.tup (prL l),.int r]=.ok (.bl iT,[.non,.non])):ur [Wd ws,Ld p q,.int r,.tup (prL l)]=if (LS (qX ws p q)).all (λx=>decide (x∈jp l))=iT then .ok (.tup (qim l (qX ws p q) r),[.non,.non,.non,.non]) else .exc "NoWorths" nn4:=by
 refine qo.trans ?_;have h1:=Xd hw hl;have h2:=Kr (d:=.int r) trivial;rw [f] at h2;have h3:=Qp h;have c:=qfa (ZD hs);have k:(qX ws p q).length<=6:=by simp [qX]; exact hw.2.1
 have j:=wp (l:=qX ws p q) (by omega);have n:(LS (qX ws p q)).length<=2000:=by unfold LS;rw [(je _).length_eq];have:=gl ((qX ws p q).map (·.1)++(qX ws p q).map (·.2)) [];simp only [ao,am,be] at this;omega
 have e1:=vS (cap:=[5]) (fi:=jI (qr [.vl] qT (qb (qc 4) qv))) (ρ:=[iO (Wd ws),iO (Ld p q),iO (.int r),iO (.tup (prL l)),iO (.lst (ql (qX ws p q))),iO (.dct (bk l))]) (ρ1:=[iO (Wd ws),iO (Ld p q),iO (.int r),iO (.tup (prL l)),iO (.lst (ql (qX ws p q))),iO (.dct (bk l))]) (ds:=(LS (qX ws p q)).map D.str)
  (fe:=d2 inA (qc 0) (qc 1)) (λd=>match d with | .str x=>.bl (decide (x∈jp l)) | d=>d) (by simp [j,jw]) (by rw [am]; exact ji n) (λd hd=>by obtain ⟨x,hx,rfl⟩:=aC.mp hd;simp [inA,Ww,Xg])
 rw [bR] at e1;have g:=ux (λx=>decide (x∈jp l)) (LS (qX ws p q));have e:jc [] 1 [5] (jI (qr [.vl] qT (qb (qc 4) qv))) (gNm 0) ftT (d2 inA (qc 0) (qc 1)) [iO (Wd ws),iO (Ld p q),iO (.int r),iO (.tup (prL l)),iO (.lst (ql (qX ws p q))),iO (.dct (bk l))]=.ok (.lst ((LS (qX ws p q)).map λx=>.bl (decide (x∈jp l))),[iO (Wd ws),iO (Ld p q),iO (.int r),iO (.tup (prL l)),iO (.lst (ql (qX ws p q))),iO (.dct (bk l))]):=e1;cases hA:(LS (qX ws p q)).all (λx=>decide (x∈jp l)) with
 | false=>rw [hA] at g;simp [xB,qp,h1,h2,h3,c,e,g,jd]
 | true=>
  rw [hA] at g;have y:∀ x∈qX ws p q,x.1∈jp l/\x.2∈jp l:=λx hx=>by rw [aJ] at hA;exact ⟨Ae (hA x.1 (xc.mpr ⟨x,hx,.inl rfl⟩)),Ae (hA x.2 (xc.mpr ⟨x,hx,.inr rfl⟩))⟩
  have i:=vS (cap:=[2,5]) (fi:=jI (qc 4)) (ρ:=[iO (Wd ws),iO (Ld p q),iO (.int r),iO (.tup (prL l)),iO (.lst (ql (qX ws p q))),iO (.dct (bk l))]) (ρ1:=[iO (Wd ws),iO (Ld p q),iO (.int r),iO (.tup (prL l)),iO (.lst (ql (qX ws p q))),iO (.dct (bk l))]) (ds:=ql (qX ws p q))
   (fe:=qr [.vl,.vl] zJ (qb (d2 vG (d2 ixD (qc 2) (d2 ixD (qc 0) (dC (.int 0)))) (d2 ixD (qc 2) (d2 ixD (qc 0) (dC (.int 1))))) (qb (qc 1) qv))) (λd=>match d with | .tup [.str a,.str b]=>.int ((Qw l a+Qw l b) % r) | d=>d) (by simp [jw]) (by simp [ql]; exact ji (by omega)) (λd hd=>by
    obtain ⟨x,hx,rfl⟩:=aC.mp hd;obtain ⟨i1,i2⟩:=y x hx;have Y:=qhn i1;have U:=qhn i2;have wr:=qku (qds o i1) (qds o i2);have wi:=qbh (Qw l x.1+Qw l x.2) r;rw [wr] at wi;have k0:ixD (.tup [.str x.1,.str x.2]) (.int 0)=.ok (.str x.1):=by simp [ixD,at0]
    have k1:ixD (.tup [.str x.1,.str x.2]) (.int 1)=.ok (.str x.2):=by simp [ixD,at1]
    simp [k0,k1,Y,U,wi])
  have f2:(ql (qX ws p q)).map (λd=>match d with | .tup [.str a,.str b]=>.int ((Qw l a+Qw l b) % r) | d=>d)=qim l (qX ws p q) r:=by simp [ql,qim]
  rw [f2] at i;simp [xB,qp,h1,h2,h3,c,e,g,i,gf]
end
def qjm (ca:Str->Addr):Prop:=∀ x∈CS,∀ y∈CS,ca x=ca y->x=y
variable {ca:Str->Addr}
theorem qho (B:y∈CS):qdg ca CS y=iO (ca y):=by unfold qdg;rw [Aa B]
abbrev pD (x:Str×Str):D:=.tup [.str x.1,.str x.2]
noncomputable def al (x y:Str×Str):Bool:=decide (x=y)||decide (x=(y.2,y.1))
theorem qhp {x y:Str×Str}:al x y=iT↔x=y\/x=(y.2,y.1):=by simp [al]
noncomputable def pa (l:List (Str×Str)) (i:Nat):Str×Str:=(l[i]?).getD ("", "")
variable {i:Nat}
theorem qdt (h:i < l.length):(ql l)[i]?=iO (pD (pa l i)):=by unfold ql pa;rw [aF,aA h];rfl
theorem Wn (x y:Str×Str):wg [pD x,pD y]=.ok (.bl (al x y),[.non,.non]):=by
 obtain ⟨a,b⟩:=x;obtain ⟨c,d⟩:=y;refine qo.trans ?_;have hz:2<=sizeLine:=ji (by lia);by_cases h1:a=c/\b=d;·obtain ⟨rfl,rfl⟩:=h1;simp [yf,qp,pD,eqD,eqN,wy,eqS,al]
 ·have e1:(a == c&&b == d)=false:=by
   cases q:(a == c&&b == d) with
   | false=>rfl
   | true=>simp at q; exact absurd q h1
  have i:¬((a,b)=(c,d)):=λz=>h1 ⟨congrArg Prod.fst z,congrArg Prod.snd z⟩;have E:(a == d&&b == c)=decide ((a,b)=(d,c)):=by
   by_cases q:(a,b)=(d,c)
   ·rw [Ad q];cases q;simp
   ·rw [Ac q];cases g:(a == d&&b == c) with
    | false=>rfl
    | true=>simp at g; exact absurd (by rw [g.1,g.2]) q
  have B:al (a,b) (c,d)=decide ((a,b)=(d,c)):=by unfold al;rw [Ac i];rfl
  rw [B,<-E];simp [yf,qp,pD,eqD,eqN,wy,eqS,e1,ixD,atI,ixN,hz]
theorem Xh:VC (ql l)=(aK l.length).map λ(j:Nat)=>.tup [.int j,pD (pa l j)]:=by
 refine ff λj=>?_;unfold VC;rw [aF,aF,List.getElem?_zipIdx];by_cases h:j < l.length;·rw [qdt h,List.getElem?_range h];simp
 ·have n:(ql l).length=l.length:=by simp [ql]
  rw [bL (by lia),bL (by simp; lia)];rfl
theorem qcR (ws:List Str) (p q:Int):(qX ws p q).length=ws.length:=by simp [qX]
abbrev qcS:qK:=(sIf (uy (qr [.vl,.vl] wg (qb (d2 ixD (qc 0) (qc 3)) (qb (qc 2) qv)))) (jq (Vh (qb (qc 3) (qb (qc 1) qv)))) jb)
abbrev qcT:qK:=(Vj (vb (qc 1)) (gNm 3) qcS)
abbrev clP (l:List (Str×Str)) (i j:Nat):Bool:=al (pa l j) (pa l i)
theorem Xi {i:Nat}:∀ (s:List Nat) (x:Option D),(∀ j∈s,j < l.length) ->(∃ n,kC (gNm 3) qcS (s.map λ(j:Nat)=>.int j) [iO (.lst (ql l)),iO (.int i),iO (pD (pa l i)),x]=.ok (.nx,[iO (.lst (ql l)),iO (.int i),iO (pD (pa l i)),n])/\s.find? (clP l i)=iQ)
  \/ ∃ a ρ',s.find? (clP l i)=iO a/\kC (gNm 3) qcS (s.map λ(j:Nat)=>.int j) [iO (.lst (ql l)),iO (.int i),iO (pD (pa l i)),x]=.ok (.rt (.tup [.int a,.int i]),ρ')
 | [],x,_=>.inl ⟨x,rfl,rfl⟩
 | j::s,x,hj=>by
  have h:=Wn (pa l j) (pa l i);have hg:=qdt (hj j (aj ..));have hz:2<=sizeLine:=ji (by lia);rw [cI];cases q:al (pa l j) (pa l i) with
  | true=>rw [q] at h;have q:clP l i j=true:=q;rw [q];exact .inr ⟨j,_,rfl,by simp [kC,qcS,ixD,uc,hg,h,hz]; rfl⟩
  | false=>
   rw [q] at h;have q:clP l i j=false:=q;rw [q];have s1:kC (gNm 3) qcS ((j::s).map λ(j:Nat)=>.int j) [iO (.lst (ql l)),iO (.int i),iO (pD (pa l i)),x]=kC (gNm 3) qcS (s.map λ(j:Nat)=>.int j) [iO (.lst (ql l)),iO (.int i),iO (pD (pa l i)),iO (.int j)]:=by simp [kC,qcS,ixD,uc,hg,h]
   rw [s1];exact Xi s (iO (.int j)) (λk b=>hj k (ae _ b))
theorem qjZ (n:Nat):QA 0 n=(aK n).map λ(j:Nat)=>.int j:=by unfold QA;simp
theorem iR0 {f:qZ} {k:Int} (h0:0<=k) (h1:k<=2000) (h:f ρ=.ok (.int k,ρ1)):vb f ρ=.ok (QA 0 k.toNat,ρ1):=by
 have c1:-(2 ^ 62:Int)<=k/\k < 2 ^ 62:=by lia
 simp [vb,h,-Int.reducePow,c1]
theorem iR1 {f:qZ} (h:f ρ=.ok (.int n,ρ1)) (a:n<=2000):vb f ρ=.ok ((aK n).map λ(j:Nat)=>.int j,ρ1):=by rw [iR0 (by lia) (by lia) h,qjZ,dH]
abbrev clS (l:List (Str×Str)) (i:Nat) (z:Option D):Sl:=[iO (.lst (ql l)),iO (.int i),iO (pD (pa l i)),z]
theorem qcU (hl:l.length<=100) (hi:i < l.length) (z:Option D):(∃ x,qcT (clS l i z)=.ok (.nx,clS l i x)/\(aK i).find? (clP l i)=iQ)
  \/ ∃ a ρ',(aK i).find? (clP l i)=iO a/\qcT (clS l i z)=.ok (.rt (.tup [.int a,.int i]),ρ'):=by
 have c:=iR1 (f:=qc 1) (ρ:=clS l i z) (ρ1:=clS l i z) (n:=i) rfl (by lia);have e0:qcT (clS l i z)=kC (gNm 3) qcS ((aK i).map λ(j:Nat)=>.int j) (clS l i z):=by show (vb (qc 1) (clS l i z)).bind (λp=>kC (gNm 3) qcS p.1 p.2)=_;rw [c,vY]
 rw [e0];exact Xi (l:=l) (i:=i) (aK i) z (λj h=>by have:=aZ.mp h; lia)
noncomputable def clF (l:List (Str×Str)) (i:Nat):Option (Nat×Nat):=((aK i).find? (clP l i)).map λa=>(a,i)
theorem qbi {B:qK} (o:∀ i,i < l.length->∀ z,(∃ c,B (clS l i z)=.ok (.nx,clS l i c)/\(aK i).find? (clP l i)=iQ)
  \/ ∃ a ρ',(aK i).find? (clP l i)=iO a/\B (clS l i z)=.ok (.rt (.tup [.int a,.int i]),ρ')):∀ (is:List Nat) (x y z:Option D),(∀ i∈is,i < l.length) ->
  (∃ c s f,kC (zn 2 (jR (gNm 1) (jR (gNm 2) zm))) B (is.map λ(j:Nat)=>.tup [.int j,pD (pa l j)]) [iO (.lst (ql l)),x,y,z]=.ok (.nx,[iO (.lst (ql l)),c,s,f])/\is.findSome? (clF l)=iQ)
  \/ ∃ (a b:Nat) (ρ':Sl),is.findSome? (clF l)=iO (a,b)/\kC (zn 2 (jR (gNm 1) (jR (gNm 2) zm))) B (is.map λ(j:Nat)=>.tup [.int j,pD (pa l j)]) [iO (.lst (ql l)),x,y,z]=.ok (.rt (.tup [.int a,.int b]),ρ'):=by
 intro is
 induction is with
 | nil=>exact λx y z _=>.inl ⟨x,y,z,rfl,rfl⟩
 | cons i is h=>
  intro x y z hi;rw [List.findSome?_cons];rcases o i (hi i (aj ..)) z with ⟨c,e,n⟩ | ⟨a,ρ',m,e⟩
  ·have s1:kC (zn 2 (jR (gNm 1) (jR (gNm 2) zm))) B ((i::is).map λ(j:Nat)=>.tup [.int j,pD (pa l j)]) [iO (.lst (ql l)),x,y,z]=kC (zn 2 (jR (gNm 1) (jR (gNm 2) zm))) B (is.map λ(j:Nat)=>.tup [.int j,pD (pa l j)]) (clS l i c):=by simp [kC,zn,jR,zm,e]
   have d:clF l i=none:=by unfold clF; rw [n]; rfl
   rw [s1,d];exact h (iO (.int i)) (iO (pD (pa l i))) c (λk g=>hi k (ae _ g))
  ·have d:clF l i=iO (a,i):=by unfold clF; rw [m]; rfl
   rw [d];refine .inr ⟨a,i,ρ',rfl,?_⟩;simp [kC,zn,jR,zm,e]
noncomputable def clo (l:List (Str×Str)):Option (Nat×Nat):=(aK l.length).findSome? (clF l)
noncomputable def clD:Option (Nat×Nat)->D
 | none=>.non
 | some x=>.tup [.int x.1,.int x.2]
theorem UM (hl:l.length<=100):ut [.lst (ql l)]=.ok (clD (clo l),[.non]):=by
 refine qo.trans ?_;rcases qbi (l:=l) (B:=qcT) (λi hi z=>qcU (by omega) hi z) (aK l.length) iQ iQ iQ (λj D=>aZ.mp D) with ⟨x,s,c,e,n⟩ | ⟨a,b,ρ',n,e⟩
 all_goals
  rw [<-Xh] at e;have n:clo l=_:=n;rw [n];simp [Je,qp,qaw,e,clD]
noncomputable def co (x:Str×Str) (c:Str):Int:=(if x.1=c then 1 else 0)+if x.2=c then 1 else 0
noncomputable def cn (K:List (Str×Str)) (c:Str):Int:=(K.map λx=>co x c).sum
theorem qcV (x:Str×Str) (c:Str):0<=co x c/\co x c<=2:=by unfold co;split <;> split <;> lia
theorem qbj (x:Str×Str) (c:Str):uG (pD x) (.str c)=.ok (.int (co x c)):=by obtain ⟨a,b⟩:=x;have h:=vR c [a,b];have h:QR 7 (.str c) [.str a,.str b]=iO (decide (c∈[a,b])):=h;unfold uG co;simp only [h];by_cases q:a=c <;> by_cases e:b=c <;> simp [eqN,eqS,q,e]
theorem qbk {l:List Int} (h1:l.length<=1000) (h2:∀ k∈l,0<=k/\k<=100000):JO (.lst (l.map D.int))=.ok (.int l.sum):=by
 have:l.length<=1000/\(l.all λk=>decide (0<=k/\k<=100000))=true:=⟨h1,aJ.mpr λk h=>Ad (h2 k h)⟩
 simp only [JO,VE,Aa this]
variable {K:List (Str×Str)}
theorem qfb (m:K.length<=100) (c:Str) (a b:Option D):jc [] 1 [3] (jI (qc 1)) (gNm 0) ftT (dM qfN uG (qc 0) (qc 1)) [a,iO (.lst (ql K)),b,iO (.str c)]=.ok (.lst ((K.map λx=>co x c).map D.int),[a,iO (.lst (ql K)),b,iO (.str c)]):=by have e:=vS (cap:=[3]) (fi:=jI (qc 1)) (ρ:=[a,iO (.lst (ql K)),b,iO (.str c)]) (ρ1:=[a,iO (.lst (ql K)),b,iO (.str c)]) (ds:=ql K) (fe:=dM qfN uG (qc 0) (qc 1)) (λd=>match d with | .tup [.str x,.str y]=>.int (co (x,y) c) | d=>d) (by simp [jw]) (by unfold ql; rw [am]; exact ji (by lia)) (λd hd=>by obtain ⟨x,hx,rfl⟩:=aC.mp hd;have h:=qbj x c;have h:uG (.tup [.str x.1,.str x.2]) (.str c)=.ok (.int (co x c)):=h;simp [dM,qfN,h]);rw [e];congr 2;simp [ql]
theorem qdu (K L:List (Str×Str)) (c:Str):cn (K++L) c=cn K c+cn L c:=by unfold cn;rw [cM,iq]
theorem qhq (K:List (Str×Str)) (c:Str):0<=cn K c:=by
 induction K with
 | nil=>exact Int.le_refl _
 | cons x K j=>
  have:=qcV x c;show 0<=co x c+cn K c
  lia
theorem qhr:∀ {K L:List (Str×Str)},K.Sublist L->∀ c,cn K c<=cn L c:=by
 intro K L h
 induction h with
 | slnil=>intro c; exact Int.le_refl _
 | cons x h j=>
  intro c;have:=qcV x c;have:=j c;show _<=co x c+cn _ c
  lia
 | cons_cons x h j=>
  intro c;have:=j c;show co x c+cn _ c<=co x c+cn _ c
  lia
def NA (K:List (Str×Str)):Prop:=K.Pairwise λx y=>al x y=iS
abbrev Cn:=List Str×List Str
abbrev sE (l:List Str):D:=.lst (l.map D.str)
noncomputable def cE (c:Cn):D:=.tup [sE c.1,sE c.2]
noncomputable def st1 (c:Cn) (y:Str):Cn:=if y∈c.1 then (c.1.erase y,c.2) else (c.1,c.2++[y])
noncomputable def un (x y:Str×Str):Cn:=st1 (st1 ([x.1,x.2],[]) y.1) y.2
abbrev unB:qK:=(sIf (qO (d2 inA (qc 4) (qc 2))) (kM (JD 2 qeP (qc 4))) (kM (JD 3 ZJ (qc 4))))
theorem qjn (y:Str) (l:List Str):inA (.str y) (sE l)=.ok (.bl (decide (y∈l))):=by show (inD (.str y) (.lst (l.map D.str))).bind _=_;unfold inD;simp only [vR];rfl
variable {c:Cn}
theorem qbl {a b:Option D} (h2:c.2.length<=2) (y:Str):unB [a,b,iO (sE c.1),iO (sE c.2),iO (.str y)]=.ok (.nx,[a,b,iO (sE (st1 c y).1),iO (sE (st1 c y).2),iO (.str y)]):=by
 have h:=qjn y c.1;have hz:c.2.length < sizeLine:=aH (by lia) big;unfold st1;by_cases q:y∈c.1
 ·rw [Aa q];have r:qeP (c.1.map D.str) (.str y)=.ok ((c.1.erase y).map D.str):=by unfold qeP;simp only [vm,Aa q]
  simp [unB,h,q,JD,gc,sE,r]
 ·rw [Ab q];have g:ZJ (c.2.map D.str) (.str y)=.ok ((c.2++[y]).map D.str):=by unfold ZJ;rw [am,Aa hz];simp
  simp [unB,h,q,JD,gc,sE,g]
theorem UN (c:Cn) (y:Str):(st1 c y).1.length<=c.1.length/\(st1 c y).2.length<=c.2.length+1:=by
 unfold st1;split;·exact ⟨List.length_erase_le,iB _⟩
 ·simp
theorem qhs (x y:Str×Str):(un x y).1.length<=2/\(un x y).2.length<=2:=by
 have h1:=UN ([x.1,x.2],[]) y.1;have h2:=UN (st1 ([x.1,x.2],[]) y.1) y.2;unfold un;simp at h1
 lia
variable {g:D->Sl->Out Sl}
theorem qkv {B:qK} {d1 d2:D} {d ρ2 k A:Sl} (h1:g d1 d=.ok ρ1) (h2:B ρ1=.ok (.nx,ρ2)) (h3:g d2 ρ2=.ok k) (a:B k=.ok (.nx,A)):kC g B [d1,d2] d=.ok (.nx,A):=by simp [kC,h1,h2,h3,a]
theorem UO (x y:Str×Str):kr [pD x,pD y]=.ok (cE (un x y),[.non,.non]):=by
 refine qo.trans ?_;have h1:=UN ([x.1,x.2],[]) y.1;have e1:=qbl (a:=iO (pD x)) (b:=iO (pD y)) (c:=([x.1,x.2],[])) (by simp) y.1;have i:=qbl (a:=iO (pD x)) (b:=iO (pD y)) (c:=st1 ([x.1,x.2],[]) y.1) (by simp at h1; lia) y.2;have hz:2<=sizeLine:=ji (by lia);have h:0<=sizeLine:=bi _;have E:kC (gNm 4) unB [.str y.1,.str y.2] [iO (pD x),iO (pD y),iO (sE [x.1,x.2]),iO (sE []),iQ]=.ok (.nx,[iO (pD x),iO (pD y),iO (sE (un x y).1),iO (sE (un x y).2),iO (.str y.2)]):=by have e:unB [iO (pD x),iO (pD y),iO (sE [x.1,x.2]),iO (sE []),iO (.str y.1)]=_:=e1;exact qkv rfl e rfl i
 unfold Jh;rw [show qp Jg [pD x,pD y]=[iO (pD x),iO (pD y),iQ,iQ,iQ] from rfl];refine (qw (ρ1:=[iO (pD x),iO (pD y),iO (sE [x.1,x.2]),iQ,iQ]) (by simp [XV,sE,hz])).trans ?_;refine (qw (ρ1:=[iO (pD x),iO (pD y),iO (sE [x.1,x.2]),iO (sE []),iQ]) (by simp [sE])).trans ?_;refine (qw (ρ1:=[iO (pD x),iO (pD y),iO (sE (un x y).1),iO (sE (un x y).2),iO (.str y.2)]) (by rw [uV,show jI (qc 1) [iO (pD x),iO (pD y),iO (sE [x.1,x.2]),iO (sE []),iQ]=.ok ([.str y.1,.str y.2],[iO (pD x),iO (pD y),iO (sE [x.1,x.2]),iO (sE []),iQ]) from rfl,vY];exact E)).trans ?_;simp [cE,hz]
noncomputable def CT (l:List (Str×Str)):List Cn:=(aK l.length).flatMap λj=>(l.take j).map λa=>un a (pa l j)
abbrev ctB:qK:=(kM (JD 1 qgL (jc [1] 1 [3] (jI (km (qc 0) iQ (iO (qc 2)))) (gNm 0) ftT (qr [.vl,.vl] kr (qb (qc 0) (qb (qc 1) qv))))))
theorem qfc (hl:l.length<=10) {j:Nat} (b:j < l.length) (f:Option D):jc [1] 1 [3] (jI (km (qc 0) iQ (iO (qc 2)))) (gNm 0) ftT (qr [.vl,.vl] kr (qb (qc 0) (qb (qc 1) qv))) [iO (.lst (ql l)),f,iO (.int j),iO (pD (pa l j))]
  = .ok (.lst (((l.take j).map λa=>un a (pa l j)).map cE),[iO (.lst (ql l)),f,iO (.int j),iO (pD (pa l j))]):=by
 have c:qcw (ql l) iQ (iO (j:Int))=ql (l.take j):=by
  unfold qcw;rw [HT.sIx_none,HT.sIx_nat];have:(ql l).length=l.length:=by simp [ql]
  rw [this,show min j l.length - 0=j by lia];simp [ql]
 have hi:jI (km (qc 0) iQ (iO (qc 2))) [iO (.lst (ql l)),f,iO (.int j),iO (pD (pa l j))]=.ok (ql (l.take j),[iO (.lst (ql l)),f,iO (.int j),iO (pD (pa l j))]):=by simp [jI,km,QB,qha,c,jw]
 have e:=qbc (own:=[1]) (cap:=[3]) (fi:=jI (km (qc 0) iQ (iO (qc 2)))) (ρ:=[iO (.lst (ql l)),f,iO (.int j),iO (pD (pa l j))]) (ρ1:=[iO (.lst (ql l)),f,iO (.int j),iO (pD (pa l j))]) (ds:=ql (l.take j)) (fe:=qr [.vl,.vl] kr (qb (qc 0) (qb (qc 1) qv))) (λd=>match d with | .tup [.str x,.str y]=>cE (un (x,y) (pa l j)) | d=>d) (by simp) hi (by simp only [ql,am,bX]; exact ji (by lia)) (λd hd=>by obtain ⟨x,hx,rfl⟩:=aC.mp hd;have h:=UO x (pa l j);have h:kr [.tup [.str x.1,.str x.2],pD (pa l j)]=.ok (cE (un x (pa l j)),[.non,.non]):=h;simp [h]);rw [e];congr 2;unfold ql;rw [bR,bR];rfl
theorem qbm (hl:l.length<=10):∀ (s:List Nat) (f:List Cn) (x y:Option D),(∀ j∈s,j < l.length)->f.length+10 * s.length<=500 ->∃ n b,kC (zn 2 (jR (gNm 2) (jR (gNm 3) zm))) ctB (s.map λ(j:Nat)=>.tup [.int j,pD (pa l j)]) [iO (.lst (ql l)),iO (.lst (f.map cE)),x,y]
   = .ok (.nx,[iO (.lst (ql l)),iO (.lst ((f++s.flatMap λj=>(l.take j).map λa=>un a (pa l j)).map cE)),n,b])
 | [],f,x,y,_,_=>⟨x,y,by simp [kC]⟩
 | j::s,f,x,y,hj,hf=>by
  rw [ai] at hf;have h:=hj j (aj ..);have ht:(l.take j).length<=10:=by rw [bX]; lia
  obtain ⟨n,b,e⟩:=qbm hl s (f++(l.take j).map λa=>un a (pa l j)) (iO (.int j)) (iO (pD (pa l j))) (λi hi=>hj i (ae _ hi)) (by rw [ao,am]; lia);refine ⟨n,b,?_⟩;rw [fh,<-cS,<-e];have d:=qfc hl h (iO (.lst (f.map cE)));have hz:(f.map cE).length+(((l.take j).map λa=>un a (pa l j)).map cE).length<=sizeLine:=by rw [am,am,am]; exact ji (by lia)
  have hx:qgL (f.map cE) (.lst (((l.take j).map λa=>un a (pa l j)).map cE))=.ok ((f++(l.take j).map λa=>un a (pa l j)).map cE):=by unfold qgL;simp only [Aa hz,<-cM]
  generalize ((l.take j).map λa=>un a (pa l j)).map cE=M at d hx;generalize (f++(l.take j).map λa=>un a (pa l j)).map cE=M2 at hx ⊢;generalize f.map cE=M1 at d hx ⊢;generalize D.lst (ql l)=Z at d ⊢;simp [kC,zn,jR,zm,ctB,JD,gc,d,hx]
theorem Wo (hl:l.length<=10):vK [.lst (ql l)]=.ok (.lst ((CT l).map cE),[.non]):=by refine qo.trans ?_;obtain ⟨n,s,e⟩:=qbm hl (aK l.length) [] iQ iQ (λj D=>aZ.mp D) (by simp; lia);rw [<-Xh] at e;have e:kC (zn 2 (jR (gNm 2) (jR (gNm 3) zm))) ctB (VC (ql l)) [iO (.lst (ql l)),iO (.lst []),iQ,iQ]=.ok (.nx,[iO (.lst (ql l)),iO (.lst ((CT l).map cE)),n,s]):=e;have a:0<=sizeLine:=bi _;generalize (CT l).map cE=M at e ⊢;simp [uM,qp,qaw,e]
theorem qht (l:List (Str×Str)) (hl:l.length<=10):(CT l).length<=100:=by
 unfold CT;have:∀ s:List Nat,(s.flatMap λj=>(l.take j).map λa=>un a (pa l j)).length<=10 * s.length:=λs=>by
  induction s with
  | nil=>simp
  | cons j s i=>
   rw [fh,ao,am,bX,ai]
   lia
 have:=this (aK l.length);rw [bK] at this
 lia
theorem qdv (h:c∈CT l):c.1.length<=2/\c.2.length<=2:=by obtain ⟨j,_,h⟩:=List.mem_flatMap.mp h;obtain ⟨a,_,rfl⟩:=aC.mp h;exact qhs a _
abbrev Fx:=List (Key×D)
def qbC (k:Fx):Prop:=∀ kv∈k,∃ v:Int,kv.2=.int v/\0<=v/\v<=1000
noncomputable def vl (k:Fx) (x:Str):Int:=match k.find? λkv=>decide (kv.1=ce x) with
 | some (_,.int v)=>v
 | _=>0
theorem qhu {k:Fx} (a:qbC k) (h:kN k (.inr x)=iT):ixD (.dct k) (.str x)=.ok (.int (vl k x))/\0<=vl k x/\vl k x<=1000:=by
 unfold kN at h;cases q:k.find? λkv=>decide (kv.1=ce x) with
 | none=>rw [eu] at q;obtain ⟨p,hp,h⟩:=ic.mp h;exact absurd h (q p hp)
 | some kv=>
  obtain ⟨v,e,h1,h2⟩:=a kv (List.mem_of_find?_eq_some q);obtain ⟨k0,d⟩:=kv;have e:d=.int v:=e;subst e;have i:vl k x=v:=by unfold vl; simp only [q]
  rw [i];exact ⟨by unfold ixD; simp only [q],h1,h2⟩
theorem qjo {Cs:List α} {cap:List Nat} {fi:wq} {fe:qZ} (A B:α->D) (h:fi ρ=.ok (Cs.map A,ρ)) (hl:Cs.length<=sizeLine)
  (ht:∀ c∈Cs,fe (iO (A c)::cap.map λk=>(ρ[k]?).getD iQ)=.ok (B c,iO (A c)::cap.map λk=>(ρ[k]?).getD iQ)):jc [] 1 cap fi (gNm 0) ftT fe ρ=.ok (.lst (Cs.map B),ρ):=by
 have key:∀ (l:List α) (x:Option D),(∀ c∈l,c∈Cs)->∃ n,kI (gNm 0) ftT fe (l.map A) (x::cap.map λk=>(ρ[k]?).getD iQ)=.ok (l.map B,n::cap.map λk=>(ρ[k]?).getD iQ):=by
  intro l
  induction l with
  | nil=>intro x _; exact ⟨x,rfl⟩
  | cons c l j=>intro x a;obtain ⟨n,e⟩:=j (iO (A c)) λd hd=>a d (ae _ hd);have h1:=ht c (a c (aj ..));exact ⟨n,by simp [kI,WN,h1,e]⟩
 obtain ⟨n,e⟩:=key Cs iQ λ_ h=>h;unfold jc;rw [h];simp only [vY];rw [Aa (by rw [am]; exact hl),show vc 1 cap ρ=iQ::cap.map λk=>(ρ[k]?).getD iQ from rfl,e];simp only [vY];rw [xK (own:=[]) _ cap 1 ρ λ_ _=>bG]
noncomputable def md (r:Int) (k:Fx) (c:Cn):Bool:=if ((c.1++c.2).all λx=>kN k (.inr x))=iT then decide (¬((c.1.map (vl k)).sum - (c.2.map (vl k)).sum) % r=0) else iT
theorem Xj {k:Fx} (a:qbC k) (j:Nat) {l:List Str} (hl:l.length<=2) (g:∀ x∈l,kN k (.inr x)=iT) (h1:ρ[j]?=iO (iO (sE l))) (h2:ρ[2]?=iO (iO (.dct k))):d1 JO (jc [] 1 [2] (jI (qc j)) (gNm 0) ftT (d2 ixD (qc 1) (qc 0))) ρ=.ok (.int (l.map (vl k)).sum,ρ):=by
 have e:=vS (cap:=[2]) (fi:=jI (qc j)) (ρ:=ρ) (ρ1:=ρ) (ds:=l.map D.str) (fe:=d2 ixD (qc 1) (qc 0)) (λd=>match d with | .str x=>.int (vl k x) | d=>d) (by simp [h1,jw]) (by rw [am]; exact ji (by omega)) (λd hd=>by obtain ⟨x,hx,rfl⟩:=aC.mp hd;have h:=(qhu a (g x hx)).1;simp [h2,h]);have b:(l.map D.str).map (λd=>match d with | .str x=>.int (vl k x) | d=>d)=(l.map (vl k)).map D.int:=by rw [bR,bR];rfl
 rw [b] at e;have hs:=qbk (l:=l.map (vl k)) (by rw [am]; omega) λi hi=>by obtain ⟨x,hx,rfl⟩:=aC.mp hi;have:=(qhu a (g x hx)).2;omega
 rw [xp,e];simp only [vY];rw [hs];rfl
theorem qhv (h1:c.1.length<=2) (h2:c.2.length<=2) (f:0 < r) {k:Fx} (a:qbC k):kB [cE c,.int r,.dct k]=.ok (.bl (md r k c),[.non,.non,.non]):=by
 refine qo.trans ?_;have z:(c.1.map D.str).length+(c.2.map D.str).length<=sizeLine:=by rw [am,am]; exact ji (by lia)
 have hi:jI (d2 vG (qc 3) (qc 4)) [iO (cE c),iO (.int r),iO (.dct k),iO (sE c.1),iO (sE c.2)]=.ok ((c.1++c.2).map D.str,[iO (cE c),iO (.int r),iO (.dct k),iO (sE c.1),iO (sE c.2)]):=by
  have:vG (sE c.1) (sE c.2)=.ok (.lst ((c.1++c.2).map D.str)):=by unfold vG;simp only [Aa z,cM]
  generalize sE c.1=U at this ⊢;generalize sE c.2=V at this ⊢;simp [this,jw]
 have e:=vS (cap:=[2]) (fi:=jI (d2 vG (qc 3) (qc 4))) (ρ:=[iO (cE c),iO (.int r),iO (.dct k),iO (sE c.1),iO (sE c.2)]) (ρ1:=[iO (cE c),iO (.int r),iO (.dct k),iO (sE c.1),iO (sE c.2)]) (ds:=(c.1++c.2).map D.str) (fe:=d2 inA (qc 0) (qc 1)) (λd=>match d with | .str x=>.bl (kN k (.inr x)) | d=>d) hi (by rw [am,ao]; exact ji (by lia)) (λd hd=>by obtain ⟨x,hx,rfl⟩:=aC.mp hd;simp [inA,Ww]);have i:((c.1++c.2).map D.str).map (λd=>match d with | .str x=>.bl (kN k (.inr x)) | d=>d)=(c.1++c.2).map λx=>D.bl (kN k (.inr x)):=by rw [bR];rfl
 rw [i] at e;have g:=ux (λx=>kN k (.inr x)) (c.1++c.2);have hA:d1 Yv (jc [] 1 [2] (jI (d2 vG (qc 3) (qc 4))) (gNm 0) ftT (d2 inA (qc 0) (qc 1))) [iO (cE c),iO (.int r),iO (.dct k),iO (sE c.1),iO (sE c.2)]=.ok (.bl ((c.1++c.2).all λx=>kN k (.inr x)),[iO (cE c),iO (.int r),iO (.dct k),iO (sE c.1),iO (sE c.2)]):=by rw [xp,e];simp only [vY];rw [g];rfl
 unfold ze md;rw [show qp zd [cE c,.int r,.dct k]=[iO (cE c),iO (.int r),iO (.dct k),iQ,iQ] from rfl];refine (qw (ρ1:=[iO (cE c),iO (.int r),iO (.dct k),iO (sE c.1),iQ]) (by simp [cE,ixD,at0])).trans ?_;refine (qw (ρ1:=[iO (cE c),iO (.int r),iO (.dct k),iO (sE c.1),iO (sE c.2)]) (by simp [cE,ixD,at1])).trans ?_;cases q:(c.1++c.2).all λx=>kN k (.inr x) with
 | false=>rw [q] at hA;simp [-xp,hA]
 | true=>rw [q] at hA;have h:=aJ.mp q;have s1:=Xj a 3 h1 (λx hx=>h x (aG.mpr (.inl hx))) (ρ:=[iO (cE c),iO (.int r),iO (.dct k),iO (sE c.1),iO (sE c.2)]) rfl rfl;have s2:=Xj a 4 h2 (λx hx=>h x (aG.mpr (.inr hx))) (ρ:=[iO (cE c),iO (.int r),iO (.dct k),iO (sE c.1),iO (sE c.2)]) rfl rfl;refine (qw (ρ1:=[iO (cE c),iO (.int r),iO (.dct k),iO (sE c.1),iO (sE c.2)]) (by simp [-xp,hA])).trans ?_;by_cases b:((c.1.map (vl k)).sum - (c.2.map (vl k)).sum) % r=0 <;> simp [-xp,s1,s2,qbB,KC,f,neD,eqN,eqS,b]
theorem qfd {k:Fx} (hl:k.length<=100) (x:Str) (v:Int):vz [.dct k,.str x,.int v]=.ok (.dct (vU k (.inr x) (.int v)),[.non,.non,.non]):=by refine qo.trans ?_;have hz:k.length < sizeLine:=aH (by lia) big;simp [zf,qp,VF,VD,Ww,hz]
theorem qbn (k:Fx) (x:Key) (d:D):(vU k x d).length<=k.length+1:=by unfold vU;split <;> simp
theorem qhw {k:Fx} (b:qbC k) (x:Key) {v:Int} (h0:0<=v) (h1:v<=1000):qbC (vU k x (.int v)):=by
 unfold vU;intro kv a;split at a
 ·obtain ⟨p,hp,rfl⟩:=aC.mp a;split;·exact ⟨v,rfl,h0,h1⟩
  ·exact b p hp
 ·rcases aG.mp a with h | h;·exact b kv h
  ·rw [ax.mp h];exact ⟨v,rfl,h0,h1⟩
abbrev cfB (gr:jy):qK:=(sIf (uy (qr [.vl,.vl,.vl,.vl] gr (qb (qc 0) (qb (qc 1) (qb (qr [.vl,.vl,.vl] vz (qb (qc 2) (qb (d2 ixD (qc 3) (dC (.int 0))) (qb (qc 5) qv)))) (qb (km (qc 3) (iO (dC (.int 1))) iQ) qv)))))) (jq (dC (.bl iT))) jb)
theorem qdw (x:Str) (ls:List Str):ixD (sE (x::ls)) (.int 0)=.ok (.str x)/\qha (iO 1) iQ (sE (x::ls))=.ok (sE ls):=by
 refine ⟨by simp [ixD,at0],?_⟩;have:qcw ((x::ls).map D.str) (iO 1) iQ=ls.map D.str:=by unfold qcw;rw [HT.sIx_none,show (iO (1:Int))=iO ((1:Nat):Int) from rfl,HT.sIx_nat];simp;exact dn (by simp)
 show Out.ok (D.lst (qcw ((x::ls).map D.str) (iO 1) iQ))=_;rw [this]
variable {Cs:List Cn}
theorem qfe (hC:∀ c∈Cs,c.1.length<=2/\c.2.length<=2) (n:Cs.length<=100) (f:0 < r) {k:Fx} (g:qbC k) (a b c:Option D):d1 Yv (jc [] 1 [1,2] (jI (qc 0)) (gNm 0) ftT (qr [.vl,.vl,.vl] kB (qb (qc 0) (qb (qc 1) (qb (qc 2) qv))))) [iO (.lst (Cs.map cE)),iO (.int r),iO (.dct k),a,b,c]=.ok (.bl (Cs.all (md r k)),[iO (.lst (Cs.map cE)),iO (.int r),iO (.dct k),a,b,c]):=by
 have e:=qjo (Cs:=Cs) (ρ:=[iO (.lst (Cs.map cE)),iO (.int r),iO (.dct k),a,b,c]) (cap:=[1,2]) (fi:=jI (qc 0)) (fe:=qr [.vl,.vl,.vl] kB (qb (qc 0) (qb (qc 1) (qb (qc 2) qv)))) cE (λc=>.bl (md r k c)) (by simp [jw]) (ji (by lia)) λc d=>by have h:=qhv (hC c d).1 (hC c d).2 f g;generalize cE c=Z at h ⊢;simp [h]
 rw [xp,e];simp only [vY];rw [ux];rfl
theorem qcW (n:Nat):QA 0 n=((aK n).map λ(j:Nat)=>(j:Int)).map D.int:=by rw [qjZ,bR];rfl
theorem qdx (l:List (Str×Str)):(LS l).length<=2 * l.length:=by
 unfold LS;rw [(je _).length_eq];have:=gl (l.map (·.1)++l.map (·.2)) [];simp only [ao,am,be] at this
 lia
noncomputable def nu (v:Str->Int) (p:Str×Str):Int:=v p.1+v p.2
def Ds (r:Int) (v:Str->Int) (K:List (Str×Str)):Prop:=K.Pairwise λp q=>¬r ∣ nu v p - nu v q
def Ext (k:Fx) (v:Str->Int):Prop:=∀ x,kN k (.inr x)=iT->v x=vl k x
def OKs (r:Int) (k:Fx) (K:List (Str×Str)):Prop:=∃ v,Ext k v/\Ds r v K
theorem qff {a b:Int} (h:¬r ∣ a - b):¬r ∣ b - a:=λz=>h (by have:=Int.dvd_neg.mpr z;rwa [Int.neg_sub] at this)
variable {v:Str->Int}
theorem qhx {A C:List (Str×Str)} {x:Str×Str}:Ds r v (A++x::C)↔(∀ p∈A++C,¬r ∣ nu v x - nu v p)/\Ds r v (A++C):=by unfold Ds;rw [List.pairwise_middle λh=>qff h,bh]
theorem qdy {α:Type} [DecidableEq α]:∀ {a b:List α},a.Nodup->(∀ x∈a,x∈b)->a.length<=b.length
 | [],_,_,_=>bi _
 | x::a,b,hn,h=>by
  obtain ⟨h1,h2⟩:=aT.mp hn;have hx:=h x (aj ..);have j:=qdy (b:=b.erase x) h2 λy B=>(List.mem_erase_of_ne λ(z:y=x)=>h1 (z ▸ B)).mpr (h y (ae _ B));rw [List.length_erase_of_mem hx] at j;have:=fg hx;rw [ai]
  lia
theorem Xk (f:1<=r) (bad:List Int) (h:(bad.length:Int) < r):∃ t:Int,0<=t/\t < r/\t∉bad:=by
 refine bH λz=>?_;have c:∀ t∈(aK r.toNat).map λ(j:Nat)=>(j:Int),t∈bad:=λt ht=>by obtain ⟨j,D,rfl⟩:=aC.mp ht;have:=aZ.mp D;exact bH λq=>z ⟨j,by lia,by lia,q⟩
 have R:((aK r.toNat).map λ(j:Nat)=>(j:Int)).Nodup:=List.pairwise_map.mpr (List.nodup_range.imp λ{a b} d e=>d (by lia));have:=qdy R c;rw [am,bK] at this
 lia
noncomputable def loK (k:Fx) (K:List (Str×Str)) (x:Str×Str):Bool:=(!kN k (.inr x.1)&&decide (cn K x.1=1))||(!kN k (.inr x.2)&&decide (cn K x.2=1))
theorem qdz (A C:List (Str×Str)) (x:Str×Str) (c:Str):cn (A++x::C) c=co x c+cn (A++C) c:=by
 rw [qdu,qdu];show cn A c+(co x c+cn C c)=_
 lia
theorem qfg {c:Str} (h:cn K c=0):∀ p∈K,p.1≠c/\p.2≠c:=λp hp=>by
 obtain ⟨A,C,rfl⟩:=List.append_of_mem hp;rw [qdz] at h;have h1:=qhq (A++C) c;have h2:=qcV p c;have h3:co p c=0:=by lia
 unfold co at h3;refine ⟨λz=>?_,λz=>?_⟩;·rw [Aa z] at h3;split at h3 <;> lia
 ·rw [Aa z] at h3;split at h3 <;> lia
variable {K0:List (Str×Str)}
theorem qhy (u:1<=r) {k:Fx} {A C:List (Str×Str)} {x:Str×Str} (hs:(A++x::C).Sublist K0) (hl:loK k K0 x=iT) (E:((A++x::C).length:Int)<=r) (h:OKs r k (A++C)):OKs r k (A++x::C):=by
 obtain ⟨v,s,hd⟩:=h;have key:∀ c d:Str,(∀ w:Str->Int,nu w x=w c+w d)->(c=x.1\/c=x.2)->kN k (.inr c)=iS->cn K0 c=1->OKs r k (A++x::C):=λc d f I G h1=>by
  have Q:=qhr hs c;rw [qdz] at Q;have D:=qhq (A++C) c;have H:1<=co x c:=by
   unfold co;rcases I with rfl | rfl
   ·rw [Aa rfl];split <;> lia
   ·rw [Aa (rfl:x.2=x.2)];split <;> lia
  have h0:cn (A++C) c=0:=by lia
  have hz:=qfg h0;have l:d≠c:=λz=>by
   have e:=f λy=>if y=c then 1 else 0
   subst z;unfold nu at e;have:co x d=2:=by unfold co;simpa using e
   lia
  obtain ⟨t,o,n,ht⟩:=Xk u ((A++C).map λp=>(nu v p - v d) % r) (by
   rw [am];rw [ao,ai] at E;rw [ao]
   lia)
  refine ⟨λy=>if y=c then t else v y,λy B=>?_,qhx.mpr ⟨λp hp=>?_,?_⟩⟩
  ·have:y≠c:=λz=>by rw [z,G] at B; cases B
   show (if y=c then t else v y)=_;rw [Ab this];exact s y B
  ·have e1:nu (λy=>if y=c then t else v y) x=t+v d:=by rw [f];simp [l]
   have m:nu (λy=>if y=c then t else v y) p=nu v p:=by obtain ⟨i,g⟩:=hz p hp;simp [nu,i,g]
   rw [e1,m];intro z;refine ht (aC.mpr ⟨p,hp,?_⟩);have:r ∣ (nu v p - v d) - t:=by have:=Int.dvd_neg.mpr z;rw [show -(t+v d - nu v p)=nu v p - v d - t by lia] at this;exact this
   have J:(nu v p - v d) % r=t % r:=Int.emod_eq_emod_iff_emod_sub_eq_zero.mpr (Int.emod_eq_zero_of_dvd this);exact J.trans (fY o n)
  ·refine hd.imp_of_mem λ{p q} hp hq j=>?_;obtain ⟨p1,p2⟩:=hz p hp;obtain ⟨i,g⟩:=hz q hq;have e1:nu (λy=>if y=c then t else v y) p=nu v p:=by simp [nu,p1,p2]
   have m:nu (λy=>if y=c then t else v y) q=nu v q:=by simp [nu,i,g]
   rw [e1,m];exact j
 unfold loK at hl;rw [ip,aN,aN] at hl;rcases hl with ⟨a,b⟩ | ⟨a,b⟩
 ·exact key x.1 x.2 (λw=>rfl) (.inl rfl) (by simpa using a) (Ae b)
 ·exact key x.2 x.1 (λw=>Int.add_comm _ _) (.inr rfl) (by simpa using a) (Ae b)
noncomputable def peK (k:Fx) (K:List (Str×Str)):List (Str×Str):=K.filter λx=>!loK k K x
theorem qfh (c:1<=r) {k:Fx} (a:(K0.length:Int)<=r):∀ (M A:List (Str×Str)),(A++M).Sublist K0->OKs r k (A++M.filter λx=>!loK k K0 x)->OKs r k (A++M)
 | [],A,_,h=>h
 | x::M,A,hs,h=>by
  have n:((A++x::M).length:Int)<=r:=by
   have:=hs.length_le
   lia
  cases q:loK k K0 x with
  | false=>rw [List.filter_cons_of_pos (by simp [q])] at h;have:=qfh c a M (A++[x]) (by simpa using hs) (by simpa using h);simpa using this
  | true=>rw [List.filter_cons_of_neg (by simp [q])] at h;exact qhy c hs q n (qfh c a M A ((fZ A).append (List.sublist_cons_self x M) |>.trans hs) h)
theorem qhz (c:1<=r) {k:Fx} (n:(K.length:Int)<=r):OKs r k (peK k K)↔OKs r k K:=
 ⟨λh=>qfh c n K [] (fZ _) h,λ⟨v,a,b⟩=>⟨v,a,List.Pairwise.sublist List.filter_sublist b⟩⟩
noncomputable def sv (v:Str->Int) (l:List Str):Int:=(l.map v).sum
noncomputable def Dc (v:Str->Int) (c:Cn):Int:=sv v c.1 - sv v c.2
theorem qhA (v:Str->Int) (a b:List Str):sv v (a++b)=sv v a+sv v b:=by unfold sv;rw [cM,iq]
theorem Xl (v:Str->Int):∀ {l:List Str} {y:Str},y∈l->sv v (l.erase y)=sv v l - v y
 | x::l,y,h=>by
  by_cases q:x=y
  ·subst q;rw [List.erase_cons_head];show _=v x+sv v l - v x
   lia
  ·rw [List.erase_cons_tail (by simpa using q)];have j:=Xl v ((af.mp h).resolve_left λz=>q z.symm);show v x+sv v (l.erase y)=v x+sv v l - v y
   lia
theorem qhB (v:Str->Int) (c:Cn) (y:Str):Dc v (st1 c y)=Dc v c - v y:=by
 unfold st1 Dc;split
 ·rename_i h;show sv v (c.1.erase y) - sv v c.2=_;rw [Xl v h]
  lia
 ·show sv v c.1 - sv v (c.2++[y])=_;rw [qhA,show sv v [y]=v y by simp [sv]]
  lia
theorem qjp (v:Str->Int) (x y:Str×Str):Dc v (un x y)=nu v x - nu v y:=by
 unfold un;rw [qhB,qhB];simp [Dc,sv,nu]
 lia
theorem qhC (c:Cn) (y:Str):((st1 c y).1.length:Int) - (st1 c y).2.length=(c.1.length:Int) - c.2.length - 1:=by
 unfold st1;split
 ·rename_i h;show ((c.1.erase y).length:Int) - c.2.length=_;rw [List.length_erase_of_mem h];have:=fg h
  lia
 ·show (c.1.length:Int) - (c.2++[y]).length=_;rw [ao];simp
  lia
theorem qkw (x y:Str×Str):(un x y).1.length=(un x y).2.length:=by
 have h1:=qhC ([x.1,x.2],[]) y.1;have h2:=qhC (st1 ([x.1,x.2],[]) y.1) y.2;unfold un;simp at h1
 lia
variable {P:Str->Prop}
theorem qdA (h1:∀ z∈c.1++c.2,P z) (h2:P y):∀ z∈(st1 c y).1++(st1 c y).2,P z:=by
 unfold st1;split;·exact λz hz=>(aG.mp hz).elim (λq=>h1 z (aG.mpr (.inl (fq q)))) λq=>h1 z (aG.mpr (.inr q))
 ·intro z hz;rcases aG.mp hz with q | q;·exact h1 z (aG.mpr (.inl q))
  ·rcases aG.mp q with q | q;·exact h1 z (aG.mpr (.inr q))
   ·rw [ax.mp q]; exact h2
theorem qjq {x y:Str×Str} (h1:P x.1) (h2:P x.2) (h3:P y.1) (a:P y.2):∀ z∈(un x y).1++(un x y).2,P z:=
 qdA (qdA (λz hz=>by
  simp at hz;rcases hz with rfl | rfl;·exact h1
  ·exact h2) h3) a
theorem Jo:c∈CT l↔∃ i j,∃ (hi:i < l.length) (D:j < l.length),i < j/\c=un l[i] l[j]:=by
 unfold CT;rw [List.mem_flatMap];constructor
 ·rintro ⟨j,D,h⟩;have D:=aZ.mp D;obtain ⟨a,g,rfl⟩:=aC.mp h;obtain ⟨i,hi,rfl⟩:=List.mem_take_iff_getElem.mp g;refine ⟨i,j,by lia,D,by lia,?_⟩;have:pa l j=l[j]:=by unfold pa; rw [aA D]; rfl
  rw [this]
 ·rintro ⟨i,j,hi,D,b,rfl⟩;refine ⟨j,aZ.mpr D,aC.mpr ⟨l[i],List.mem_take_iff_getElem.mpr ⟨i,by lia,rfl⟩,?_⟩⟩;have:pa l j=l[j]:=by unfold pa; rw [aA D]; rfl
  rw [this]
theorem qfi:Ds r v l↔∀ c∈CT l,¬r ∣ Dc v c:=by
 unfold Ds;rw [d4];constructor;·intro h c d;obtain ⟨i,j,hi,D,b,rfl⟩:=Jo.mp d;rw [qjp];exact h i j hi D b
 ·intro h i j hi D b;have:=h _ (Jo.mpr ⟨i,j,hi,D,b,rfl⟩);rw [qjp] at this;exact this
theorem qhD (h:c∈CT l):∀ z∈c.1++c.2,z∈LS l:=by obtain ⟨i,j,hi,D,_,rfl⟩:=Jo.mp h;have m1:=bZ hi;have B:=bZ D;exact qjq (xc.mpr ⟨_,m1,.inl rfl⟩) (xc.mpr ⟨_,m1,.inr rfl⟩) (xc.mpr ⟨_,B,.inl rfl⟩) (xc.mpr ⟨_,B,.inr rfl⟩)
theorem qkx (h:c∈CT l):c.1.length=c.2.length:=by obtain ⟨i,j,hi,D,_,rfl⟩:=Jo.mp h;exact qkw _ _
theorem Qq {k:Fx} (h:kN k (.inr x)=iS) (d:D):vU k (.inr x) d=k++[(.inr x,d)]:=by unfold vU;unfold kN at h;rw [h];rfl
theorem ud {k:Fx} (h:kN k (.inr x)=iS) (d:D) (y:Str):kN (vU k (.inr x) d) (.inr y)=(kN k (.inr y)||decide (x=y)):=by rw [Qq h];unfold kN;rw [List.any_append];simp
theorem Wp {k:Fx} (h:kN k (.inr x)=iS) (w:Int):vl (vU k (.inr x) (.int w)) x=w/\∀ y,y≠x->vl (vU k (.inr x) (.int w)) y=vl k y:=by
 rw [Qq h];unfold vl;refine ⟨?_,λy B=>?_⟩
 ·have:(k.find? λkv=>decide (kv.1=ce x))=none:=by rw [eu];intro p hp z;unfold kN at h;rw [List.any_eq_false] at h;exact h p hp z
  rw [List.find?_append,this];simp
 ·rw [List.find?_append];have:([(ce x,D.int w)]:Fx).find? (λkv=>decide (kv.1=ce y))=none:=by rw [eu];intro p hp z;rw [ax.mp hp] at z;have:=Ae z;exact B (ce.inj this).symm
  rw [this,Option.or_none]
theorem qhE {w:Str->Int} {l:List Str} (h:∀ x∈l,v x=w x):sv v l=sv w l:=by unfold sv;rw [List.map_congr_left h]
theorem qfj {w:Str->Int} (h:∀ x∈c.1++c.2,v x=w x):Dc v c=Dc w c:=by unfold Dc;rw [qhE λx hx=>h x (aG.mpr (.inl hx)),qhE λx hx=>h x (aG.mpr (.inr hx))]
theorem qfk {w:Str->Int} (h:∀ x,r ∣ v x - w x):∀ l:List Str,r ∣ sv v l - sv w l
 | []=>by simp [sv]
 | x::l=>by have j:=qfk h l;show r ∣ (v x+sv v l) - (w x+sv w l);rw [show (v x+sv v l) - (w x+sv w l)=(v x - w x)+(sv v l - sv w l) by lia];exact f7 (h x) j
theorem qjr {w:Str->Int} (h:∀ x,r ∣ v x - w x) (d:¬r ∣ Dc v c):¬r ∣ Dc w c:=λz=>d (by
 have h1:=qfk h c.1;have h2:=qfk h c.2;have:Dc v c=(sv v c.1 - sv w c.1) - (sv v c.2 - sv w c.2)+Dc w c:=by unfold Dc; lia
 rw [this];exact f7 (Int.dvd_sub h1 h2) z)
theorem Xm {k:Fx}:md r k c=iT↔((∀ y∈c.1++c.2,kN k (.inr y)=iT)->¬r ∣ Dc (vl k) c):=by
 unfold md;cases q:(c.1++c.2).all λx=>kN k (.inr x) with
 | false=>
  have:¬∀ y∈c.1++c.2,kN k (.inr y)=true:=λz=>by rw [aJ.mpr z] at q;cases q
  exact ⟨λ_ z=>absurd z this,λ_=>rfl⟩
 | true=>rw [Aa rfl,decide_eq_true_eq];have l:=aJ.mp q;exact ⟨λh _ z=>h (Int.emod_eq_zero_of_dvd z),λh z=>h l (Int.dvd_of_emod_eq_zero z)⟩
noncomputable def chs (r:Int) (k:Fx):List Int:=if k=[] then [0] else (aK r.toNat).map λ(j:Nat)=>(j:Int)
noncomputable def cf (r:Int) (Cs:List Cn):Nat->List Str->Fx->Bool
 | 0,_,_=>iS
 | n+1,ls,k=>Cs.all (md r k)&&(match ls with
  | []=>iT
  | x::ls=>(chs r k).any λw=>cf r Cs n ls (vU k (.inr x) (.int w)))
def qfQ (r:Int) (Cs:List Cn) (v:Str->Int):Prop:=∀ c∈Cs,¬r ∣ Dc v c
theorem qbo {r:Int} (i:1<=r) {Cs:List Cn}:∀ (n:Nat) (ls:List Str) (k:Fx),ls.length < n->k≠[]->ls.Nodup->(∀ y∈ls,kN k (.inr y)=iS)->(∀ c∈Cs,∀ y∈c.1++c.2,kN k (.inr y)=iT\/y∈ls)->(cf r Cs n ls k=iT↔∃ v,Ext k v/\qfQ r Cs v)
 | 0,ls,k,h,_,_,_,_=>absurd h (d9 _)
 | n+1,ls,k,h,hk,hnd,hno,hin=>by
  have e:∀ v,Ext k v->qfQ r Cs v->Cs.all (md r k)=true:=λv a hg=>aJ.mpr λc d=>Xm.mpr λl=>by rw [<-qfj λy B=>a y (l y B)];exact hg c d
  cases ls with
  | nil=>show (Cs.all (md r k)&&iT)=iT↔_;rw [iG];refine ⟨λh=>⟨vl k,λ_ _=>rfl,λc d=>Xm.mp (aJ.mp h c d) λy B=>(hin c d y B).resolve_right λz=>by cases z⟩,λ⟨v,a,hg⟩=>e v a hg⟩
  | cons x ls=>
   have hx:=hno x (aj ..);obtain ⟨g,b⟩:=aT.mp hnd;have j:=λw=>qbo i (Cs:=Cs) n ls (vU k (.inr x) (.int w)) (by rw [ai] at h; lia) (by rw [Qq hx]; simp) b (λy B=>by
    rw [ud hx,hno y (ae _ B)];simp;exact λz=>g (z ▸ B)) λc d y B=>by
    rw [ud hx];rcases hin c d y B with q | q;·exact .inl (by rw [q]; rfl)
    ·rcases af.mp q with q | q;·exact .inl (by simp [q])
     ·exact .inr q
   show (Cs.all (md r k)&&(chs r k).any λw=>cf r Cs n ls (vU k (.inr x) (.int w)))=iT↔_;rw [aN,ic];constructor
   ·rintro ⟨_,w,_,hw⟩;obtain ⟨v,a,hg⟩:=(j w).mp hw;refine ⟨v,λy B=>?_,hg⟩;have f:y≠x:=λz=>by rw [z,hx] at B; cases B
    rw [a y (by rw [ud hx,B]; rfl),(Wp hx w).2 y f]
   ·rintro ⟨v,a,hg⟩;refine ⟨e v a hg,v x % r,?_,(j _).mpr ⟨λy=>if y=x then v x % r else v y,λy B=>?_,λc d=>qjr (λy=>?_) (hg c d)⟩⟩;·unfold chs;rw [Ab hk];have h1:=fE (v x) (show r≠0 by lia);have h2:=ei (v x) (show 0 < r by lia);exact aC.mpr ⟨(v x % r).toNat,aZ.mpr (by lia),by lia⟩
    ·show (if y=x then v x % r else v y)=_;by_cases q:y=x;·rw [Aa q,q,(Wp hx _).1]
     ·rw [Ab q,(Wp hx _).2 y q];rw [ud hx] at B;refine a y ?_;simpa [show ¬x=y from λz=>q z.symm] using B
    ·show r ∣ v y - (if y=x then v x % r else v y);by_cases q:y=x;·rw [Aa q,q];exact Int.dvd_self_sub_of_emod_eq rfl
     ·rw [Ab q,Int.sub_self];exact Int.dvd_zero r
theorem Kt (v:Str->Int) (t:Int):∀ l:List Str,sv (λy=>v y - t) l=sv v l - t * l.length
 | []=>by simp [sv]
 | x::l=>by
  have j:=Kt v t l;show (v x - t)+sv (λy=>v y - t) l=(v x+sv v l) - t * ((l.length+1:Nat):Int);rw [j,Int.natCast_add,Int.mul_add];simp
  lia
theorem qcX (v:Str->Int) (t:Int) (h:c.1.length=c.2.length):Dc (λy=>v y - t) c=Dc v c:=by
 unfold Dc;rw [Kt,Kt,h]
 lia
theorem qfl (f:1<=r) (i:∀ c∈Cs,c.1.length=c.2.length) (n:Nat) (ls:List Str) (h:ls.length < n) (R:ls.Nodup) (a:∀ c∈Cs,∀ y∈c.1++c.2,y∈ls):cf r Cs n ls []=iT↔∃ v,qfQ r Cs v:=by
 obtain ⟨n,rfl⟩:∃ m,n=m+1:=⟨n - 1,by lia⟩
 have h0:∀ y:Str,kN [] (.inr y)=false:=λy=>rfl;have e:∀ v,qfQ r Cs v->Cs.all (md r [])=true:=λv hg=>aJ.mpr λc d=>Xm.mpr λl=>by rw [qfj (w:=v) λy B=>absurd (l y B) (by rw [h0]; simp)];exact hg c d
 cases ls with
 | nil=>show (Cs.all (md r [])&&iT)=iT↔_;rw [iG];exact ⟨λh=>⟨vl [],λc d=>Xm.mp (aJ.mp h c d) λy B=>by cases a c d y B⟩,λ⟨v,hg⟩=>e v hg⟩
 | cons x ls=>
  obtain ⟨g,b⟩:=aT.mp R;have j:=qbo f (Cs:=Cs) n ls (vU [] (.inr x) (.int 0)) (by rw [ai] at h; lia) (by rw [Qq (h0 x)]; simp) b (λy B=>by
   rw [ud (h0 x),h0];simp;exact λz=>g (z ▸ B)) λc d y B=>by
   rw [ud (h0 x),h0];rcases af.mp (a c d y B) with q | q;·exact .inl (by simp [q])
   ·exact .inr q
  show (Cs.all (md r [])&&(chs r []).any λw=>cf r Cs n ls (vU [] (.inr x) (.int w)))=iT↔_;rw [show chs r []=[0] from Aa rfl,aN];simp only [cy,List.any_nil,g8];rw [j];constructor;·rintro ⟨_,v,_,hg⟩;exact ⟨v,hg⟩
  ·rintro ⟨v,hg⟩;refine ⟨e v hg,λy=>v y - v x,λy B=>?_,λc d=>?_⟩
   ·rw [ud (h0 x),h0] at B;have:x=y:=by simpa using B
    subst this;rw [(Wp (h0 x) 0).1];show v x - v x=0
    lia
   ·rw [qcX v (v x) (i c d)];exact hg c d
theorem qdB (h:∀ z∈c.1,z∉c.2) (y:Str):∀ z∈(st1 c y).1,z∉(st1 c y).2:=by
 unfold st1;split;·exact λz hz=>h z (fq hz)
 ·rename_i B;intro z hz q;rcases aG.mp q with q | q;·exact h z hz q
  ·rw [ax.mp q] at hz;exact B hz
theorem qjs (x y:Str×Str):∀ z∈(un x y).1,z∉(un x y).2:=qdB (qdB (λz _ q=>by cases q) _) _
theorem qhF {x y:Str×Str} (h:un x y=([],[])):al x y=true:=by
 have e:∀ v,nu v x=nu v y:=λv=>by
  have:=qjp v x y;rw [h] at this;simp [Dc,sv] at this
  lia
 obtain ⟨a,b⟩:=x;obtain ⟨c,d⟩:=y;have h1:=e λz=>if z=a then 1 else 0
 simp only [nu,if_true] at h1;have f:c=a\/d=a:=by refine bH λz=>?_;have z1:¬c=a:=λq=>z (.inl q);have z2:¬d=a:=λq=>z (.inr q);rw [Ab z1,Ab z2] at h1;split at h1 <;> lia
 have one:∀ s t:Str,(∀ v:Str->Int,v s=v t)->s=t:=λs t q=>by
  refine bH λz=>?_;have:=q λy=>if y=s then 1 else 0
  rw [Aa rfl,Ab λw=>z w.symm] at this;cases this
 refine qhp.mpr ?_;rcases f with rfl | rfl
 ·refine .inl ?_;have:=one b d λv=>by
   have:=e v;simp only [nu] at this
   lia
  rw [this]
 ·refine .inr ?_;have:=one b c λv=>by
   have:=e v;simp only [nu] at this
   lia
  rw [this]
noncomputable def up (v:Str->Int) (x:Str) (t:Int) (y:Str):Int:=if y=x then t else v y
theorem qfm (v:Str->Int) (x:Str) (t:Int):∀ l:List Str,sv (up v x t) l=sv (up v x 0) l+t * (l.count x:Nat)
 | []=>by simp [sv]
 | y::l=>by
  have j:=qfm v x t l;show up v x t y+sv (up v x t) l=(up v x 0 y+sv (up v x 0) l)+t * ((y::l).count x:Nat);rw [j,List.count_cons];by_cases q:y=x
  ·subst q;simp only [up,if_true,beq_self_eq_true,Int.natCast_add,Int.mul_add];simp
   lia
  ·have g:(y == x)=false:=beq_false_of_ne q;simp only [up,Ab q,g,bY,if_false,Nat.add_zero]
   lia
noncomputable def bd (e D:Int):Int:=if e=1 then (-D) % 97 else if e=-1 then D % 97 else if e=2 then (-D * 49) % 97 else (D * 49) % 97
theorem qjt {e D t:Int} (i:e=1\/e=-1\/e=2\/e=-2) (o:0<=t) (f:t < 97) (h:t≠bd e D):¬(97:Int) ∣ D+t * e:=by
 unfold bd at h;rcases i with rfl | rfl | rfl | rfl
 ·simp at h;omega
 ·simp at h;omega
 ·simp at h;omega
 ·simp at h;omega
theorem qdC (hd:∀ c∈Cs,∀ z∈c.1,z∉c.2) (h2:∀ c∈Cs,c.1.length<=2/\c.2.length<=2) (hl:Cs.length < 97):∀ (ls S:List Str) (v:Str->Int),(∀ c∈Cs,(∀ y∈c.1++c.2,y∈S)->¬(97:Int) ∣ Dc v c)->(∀ c∈Cs,∀ y∈c.1++c.2,y∈S\/y∈ls)->∃ w,qfQ 97 Cs w
 | [],S,v,h,hin=>⟨v,λc d=>h c d λy B=>(hin c d y B).resolve_right λz=>by cases z⟩
 | x::ls,S,v,h,hin=>by
  obtain ⟨t,o,f,ht⟩:=Xk (r:=97) (by lia) (Cs.map λc=>bd ((c.1.count x:Int) - (c.2.count x:Int)) (Dc (up v x 0) c)) (by rw [am]; lia);refine qdC hd h2 hl ls (x::S) (if x∈S then v else up v x t) (λc d l=>?_) λc d y B=>?_
  ·by_cases b:x∈S;·rw [Aa b];exact h c d λy B=>(af.mp (l y B)).elim (λz=>z ▸ b) id
   ·rw [Ab b];by_cases a:x∈c.1++c.2
    ·have e:Dc (up v x t) c=Dc (up v x 0) c+t * ((c.1.count x:Int) - (c.2.count x:Int)):=by
      unfold Dc;rw [qfm v x t c.1,qfm v x t c.2,Int.mul_sub]
      lia
     rw [e];have g:t≠bd ((c.1.count x:Int) - (c.2.count x:Int)) (Dc (up v x 0) c):=λz=>ht (aC.mpr ⟨c,d,z.symm⟩);refine qjt ?_ o f g;have c1:c.1.count x<=c.1.length:=List.count_le_length;have c2:c.2.count x<=c.2.length:=List.count_le_length;have i:=h2 c d;rcases aG.mp a with q | q
     ·have z:c.2.count x=0:=List.count_eq_zero.mpr (hd c d x q);have p:0 < c.1.count x:=List.count_pos_iff.mpr q
      lia
     ·have z:c.1.count x=0:=List.count_eq_zero.mpr λz=>hd c d x z q;have p:0 < c.2.count x:=List.count_pos_iff.mpr q
      lia
    ·rw [qfj (w:=v) λy B=>by have:y≠x:=λz=>a (z ▸ B);simp [up,this]];exact h c d λy B=>(af.mp (l y B)).resolve_left λz=>a (z ▸ B)
  ·rcases hin c d y B with q | q;·exact .inl (ae _ q)
   ·rcases af.mp q with q | q;·exact .inl (by rw [q]; exact aj ..)
    ·exact .inr q
theorem qfn (hl:l.length<=6):(CT l).length < 97:=by
 unfold CT;have:∀ s:List Nat,(s.flatMap λj=>(l.take j).map λa=>un a (pa l j)).length<=6 * s.length:=λs=>by
  induction s with
  | nil=>simp
  | cons j s i=>
   rw [fh,ao,am,bX,ai]
   lia
 have:=this (aK l.length);rw [bK] at this
 lia
theorem qky (a:NA l) (f:l.length<=6):∃ v,Ds 97 v l:=by
 obtain ⟨w,hw⟩:=qdC (Cs:=CT l) (λc d=>by
  obtain ⟨i,j,hi,D,_,rfl⟩:=Jo.mp d;exact qjs _ _) (λc d=>qdv d) (qfn f) (LS l) [] (λ_=>0) (λc d h=>by
  obtain ⟨i,j,hi,D,b,rfl⟩:=Jo.mp d;exfalso;have e:(un l[i] l[j]).1++(un l[i] l[j]).2=[]:=by
   cases q:(un l[i] l[j]).1++(un l[i] l[j]).2 with
   | nil=>rfl
   | cons z t=>cases h z (by rw [q]; exact aj ..)
  obtain ⟨e1,g⟩:=List.append_eq_nil_iff.mp e;have:=qhF (x:=l[i]) (y:=l[j]) (hZ e1 g);rw [d4.mp a i j hi D b] at this;cases this) λc d y B=>.inr (qhD d y B)
 exact ⟨w,qfi.mpr hw⟩
theorem qcY (m:K.length<=100) (c:Str) (a:Option D) (b:D):d1 JO (jc [] 1 [3] (jI (qc 1)) (gNm 0) ftT (dM qfN uG (qc 0) (qc 1))) [a,iO (.lst (ql K)),iO b,iO (.str c)]=.ok (.int (cn K c),[a,iO (.lst (ql K)),iO b,iO (.str c)]):=by
 have hs:JO (.lst ((K.map λx=>co x c).map D.int))=.ok (.int (cn K c)):=qbk (by rw [am]; lia) λk h=>by
  obtain ⟨y,_,rfl⟩:=aC.mp h;have:=qcV y c
  lia
 rw [xp,qfb m c a (iO b)];simp only [vY];rw [hs];rfl
theorem qfo (m:K.length<=100) (k:Fx) (x:Str×Str):jW [pD x,.lst (ql K),.dct k]=.ok (.bl (loK k K x),[.non,.non,.non]):=by refine qo.trans ?_;have h:=λc=>qcY m c (iO (pD x)) (.dct k);have n:∀ c:Str,YB (.str c) (.dct k)=.ok (.bl (!kN k (.inr c))):=λc=>rfl;generalize D.lst (ql K)=Z at h ⊢;generalize D.dct k=Y at h n ⊢;obtain ⟨a,b⟩:=x;unfold loK;cases d:kN k (.inr a) <;> cases e:kN k (.inr b) <;> by_cases q:cn K a=1 <;> by_cases g:cn K b=1 <;> simp [Jf,qp,jw,kC,n,d,e,-xp,h,eqD,eqN,eqS,q,g]
theorem Xn (m:K.length<=100) (k:Fx) (a b:Option D):jc [] 1 [2,1] (jI (qc 2)) (gNm 0) (yw (uy (qr [.vl,.vl,.vl] jW (qb (qc 0) (qb (qc 1) (qb (qc 2) qv)))))) (qc 0) [a,iO (.dct k),iO (.lst (ql K)),b]=.ok (.lst (ql (peK k K)),[a,iO (.dct k),iO (.lst (ql K)),b]):=by have e:=qbb (own:=[]) (cap:=[2,1]) (fi:=jI (qc 2)) (ρ:=[a,iO (.dct k),iO (.lst (ql K)),b]) (ρ1:=[a,iO (.dct k),iO (.lst (ql K)),b]) (ds:=ql K) (ft:=yw (uy (qr [.vl,.vl,.vl] jW (qb (qc 0) (qb (qc 1) (qb (qc 2) qv)))))) (fe:=qc 0) (λd=>match d with | .tup [.str x,.str y]=>!loK k K (x,y) | d=>iS) (λd=>d) (by simp) (by simp [jw]) (by unfold ql; rw [am]; exact ji (by lia)) (λd hd=>by obtain ⟨x,hx,rfl⟩:=aC.mp hd;have h:=qfo m k x;have h:jW [.tup [.str x.1,.str x.2],.lst (ql K),.dct k]=.ok (.bl (loK k K x),[.non,.non,.non]):=h;simp [h]) (λd hd _=>rfl);rw [e];congr 2;unfold peK;rw [List.map_id'];unfold ql;rw [List.filter_map];rfl
theorem Wq {r:Int} (c:1<=r) (k:Fx) {a:Option D}:∀ (n:Nat) (K:List (Str×Str)),K.length < n->K.length<=100->(K.length:Int)<=r->∃ B R,(OKs r k B↔OKs r k K)/\B.Sublist K /\
  qS (qO (d2 ltD (d1 uz (qc 3)) (d1 uz (qc 2))))
   (qG (jJ 2 (qc 3))
   (qG (jJ 3 (jc [] 1 [2,1] (jI (qc 2)) (gNm 0) (yw (uy (qr [.vl,.vl,.vl] jW (qb (qc 0) (qb (qc 1) (qb (qc 2) qv)))))) (qc 0))) jb)) n [a,iO (.dct k),iO (.lst (ql K)),iO (.lst (ql (peK k K)))]=.ok (.nx,[a,iO (.dct k),iO (.lst (ql B)),iO (.lst R)])
 | 0,K,h,_,_=>absurd h (d9 _)
 | n+1,K,h,hK,hKr=>by
  have h1:uz (.lst (ql K))=.ok (.int K.length):=by simp [ql]
  have h2:uz (.lst (ql (peK k K)))=.ok (.int (peK k K).length):=by simp [ql]
  have Q:(peK k K).length<=K.length:=List.length_filter_le _ _;by_cases q:(peK k K).length < K.length;·obtain ⟨B,R,n1,n2,e⟩:=Wq c k (a:=a) n (peK k K) (by lia) (by lia) (by lia);refine ⟨B,R,n1.trans (qhz c hKr),n2.trans List.filter_sublist,?_⟩;have d:=Xn (K:=peK k K) (by lia) k a (iO (.lst (ql (peK k K))));rw [<-e];generalize D.lst (ql (peK k (peK k K)))=Z2 at d ⊢;generalize D.lst (ql (peK k K))=Z1 at h2 d ⊢;generalize D.lst (ql K)=Z at h1 ⊢;generalize D.dct k=Y at d ⊢;simp [qS,h1,h2,q,d]
  ·refine ⟨K,ql (peK k K),Iff.rfl,fZ _,?_⟩;generalize D.lst (ql (peK k K))=Z1 at h2 ⊢;generalize D.lst (ql K)=Z at h1 ⊢;simp [qS,h1,h2,q]
theorem qfp (c:1<=r) (k:Fx) (m:K.length<=10) (h:(K.length:Int)<=r):∃ B,(OKs r k B↔OKs r k K)/\B.Sublist K/\wk [.lst (ql K),.dct k]=.ok (.lst (ql B),[.non,.non]):=by obtain ⟨B,R,n1,n2,e⟩:=Wq c k (a:=iO (.lst (ql K))) 20 K (by lia) (by lia) h;refine ⟨B,n1,n2,?_⟩;have d:=Xn (K:=K) (by lia) k (iO (.lst (ql K))) iQ;refine qo.trans ?_;unfold yT;rw [show qp yS [.lst (ql K),.dct k]=[iO (.lst (ql K)),iO (.dct k),iQ,iQ] from rfl];refine (qw (ρ1:=[iO (.lst (ql K)),iO (.dct k),iO (.lst (ql K)),iQ]) (by simp)).trans ?_;refine (qw (ρ1:=[iO (.lst (ql K)),iO (.dct k),iO (.lst (ql K)),iO (.lst (ql (peK k K)))]) (by rw [WZ,d]; rfl)).trans ?_;refine (qw e).trans ?_;simp
theorem Xo {gr:jy} {C S S1:D} {k:Fx} (hl:k.length<=100) {ch:Option D} (hi:ixD S (.int 0)=.ok (.str x)) (hs:qha (iO 1) iQ S=.ok S1) (P:Int->Bool):∀ (vs:List Int) (y:Option D),(∀ v∈vs,gr [C,.int r,.dct (vU k (.inr x) (.int v)),S1]=.ok (.bl (P v),[.non,.non,.non,.non])) ->(vs.any P=iT/\∃ ρ,kC (gNm 5) (cfB gr) (vs.map D.int) [iO C,iO (.int r),iO (.dct k),iO S,ch,y]=.ok (.rt (.bl iT),iO C::iO (.int r)::iO (.dct k)::iO S::ρ))\/(vs.any P=iS/\∃ s,kC (gNm 5) (cfB gr) (vs.map D.int) [iO C,iO (.int r),iO (.dct k),iO S,ch,y]=.ok (.nx,[iO C,iO (.int r),iO (.dct k),iO S,ch,s]))
 | [],y,_=>.inr ⟨rfl,y,rfl⟩
 | v::vs,y,h=>by
  have d:=h v (aj ..);have hw:=qfd hl x v;cases q:P v with
  | true=>rw [q] at d;refine .inl ⟨by simp [q],[ch,iO (.int v)],?_⟩;simp [kC,cfB,hw,hi,km,QB,hs,d]
  | false=>
   rw [q] at d;have s1:kC (gNm 5) (cfB gr) ((v::vs).map D.int) [iO C,iO (.int r),iO (.dct k),iO S,ch,y]=kC (gNm 5) (cfB gr) (vs.map D.int) [iO C,iO (.int r),iO (.dct k),iO S,ch,iO (.int v)]:=by simp [kC,cfB,hw,hi,km,QB,hs,d]
   rw [s1,cy,q,Bool.false_or];exact Xo hl hi hs P vs _ λu f=>h u (ae _ f)
theorem qfq (r:Int) (Cs:List Cn) (n:Nat) (x:Str) (ls:List Str) (k:Fx):cf r Cs (n+1) (x::ls) k=(Cs.all (md r k)&&(chs r k).any λw=>cf r Cs n ls (vU k (.inr x) (.int w))):=rfl
theorem Jp (hC:∀ c∈Cs,c.1.length<=2/\c.2.length<=2) (z:Cs.length<=100) (y:0 < r) (m:r<=99):∀ (n:Nat) (ls:List Str) (k:Fx),ls.length < n->qbC k->k.length+ls.length<=100 ->qN n [.lst (Cs.map cE),.int r,.dct k,sE ls]=.ok (.bl (cf r Cs n ls k),[.non,.non,.non,.non])
 | 0,ls,k,h,_,_=>absurd h (d9 _)
 | n+1,ls,k,h,hk,hl=>by
  have hA:=λa b c=>qfe hC z y hk a b c;show jN jD [.val,.val,.val,.val] (jn (qN n)) [.lst (Cs.map cE),.int r,.dct k,sE ls]=_;have t:qp jD [.lst (Cs.map cE),.int r,.dct k,sE ls]=[iO (.lst (Cs.map cE)),iO (.int r),iO (.dct k),iO (sE ls),iQ,iQ]:=rfl;cases q:Cs.all (md r k) with
  | false=>
   refine qo.trans ?_;have u:cf r Cs (n+1) ls k=false:=by cases ls <;> (unfold cf; rw [q]; rfl)
   rw [q] at hA;rw [t,u];simp [jn,-xp,hA]
  | true=>
   rw [q] at hA;have hA:=hA (iO (sE ls)) iQ iQ;cases ls with
   | nil=>refine qo.trans ?_;rw [show cf r Cs (n+1) [] k=iT by unfold cf; rw [q]; rfl];rw [t];unfold jn;refine (qw (ρ1:=[iO (.lst (Cs.map cE)),iO (.int r),iO (.dct k),iO (sE []),iQ,iQ]) (by simp [-xp,hA])).trans ?_;simp [eqD,eqN,eqS]
   | cons x ls=>
    rw [ai] at h hl;rw [qfq,q,Bool.true_and];obtain ⟨hi,hs⟩:=qdw x ls;have d:∀ v∈chs r k,0<=v/\v < r:=λv d=>by
     unfold chs at d;split at d;·rw [ax.mp d]; lia
     ·obtain ⟨j,A,rfl⟩:=aC.mp d;have:=aZ.mp A
      lia
    have s:dIf (qO (d2 eqD (d1 uz (qc 2)) (dC (.int 0)))) (Vi (qb (dC (.int 0)) qv)) (d1 uo (qc 1)) [iO (.lst (Cs.map cE)),iO (.int r),iO (.dct k),iO (sE (x::ls)),iQ,iQ]=.ok (.lst ((chs r k).map D.int),[iO (.lst (Cs.map cE)),iO (.int r),iO (.dct k),iO (sE (x::ls)),iQ,iQ]):=by
     unfold chs;by_cases l:k=[];·have z1:1<=sizeLine:=ji (by lia);simp [eqD,eqN,eqS,l,z1]
     ·rw [Ab l];have g:uo (.int r)=.ok (.lst (((aK r.toNat).map λ(j:Nat)=>(j:Int)).map D.int)):=by
       unfold uo;have c1:qdk 0 r/\r<=1000000:=⟨⟨by decide,by lia⟩,by lia⟩
       simp only [Int.sub_zero,Aa c1];rw [qcW]
      generalize ((aK r.toNat).map λ(j:Nat)=>(j:Int)).map D.int=M at g ⊢;simp [eqD,eqN,eqS,l,g]
    have p:=Xo (gr:=qN n) (C:=.lst (Cs.map cE)) (r:=r) (k:=k) (ch:=iO (.lst ((chs r k).map D.int))) (by lia) hi hs (λw=>cf r Cs n ls (vU k (.inr x) (.int w))) (chs r k) iQ λv f=>
     Jp hC z y m n ls (vU k (.inr x) (.int v)) (by lia) (qhw hk _ (d v f).1 (by have:=(d v f).2; lia)) (by have:=qbn k (.inr x) (.int v); lia)
    have i:uz (sE (x::ls))=.ok (.int ((ls.length:Int)+1)):=by simp
    have o:¬((ls.length:Int)+1=0):=by lia
    generalize E:sE (x::ls)=S at *;generalize D.lst (Cs.map cE)=C at *;have fin:YI [.val,.val,.val,.val] ((qG (Vj (jI (qc 4)) (gNm 5) (cfB (qN n))) (jq (dC (.bl iS)))) [iO C,iO (.int r),iO (.dct k),iO S,iO (.lst ((chs r k).map D.int)),iQ])=.ok (.bl ((chs r k).any λw=>cf r Cs n ls (vU k (.inr x) (.int w))),[.non,.non,.non,.non]):=by
     have hit:jI (qc 4) [iO C,iO (.int r),iO (.dct k),iO S,iO (.lst ((chs r k).map D.int)),iQ]=.ok ((chs r k).map D.int,[iO C,iO (.int r),iO (.dct k),iO S,iO (.lst ((chs r k).map D.int)),iQ]):=by simp [jw]
     generalize (chs r k).map D.int=M at hit p ⊢;rcases p with ⟨e0,ρ,e⟩ | ⟨e0,B,e⟩
     ·rw [e0,WY,uV,hit,vY,e]; rfl
     ·rw [e0,WY,uV,hit,vY,e]; rfl
    refine qo.trans ?_;rw [t];unfold jn;refine (qw (ρ1:=[iO C,iO (.int r),iO (.dct k),iO S,iQ,iQ]) (by simp [-xp,hA])).trans ?_;refine (qw (ρ1:=[iO C,iO (.int r),iO (.dct k),iO S,iQ,iQ]) (by simp [i,eqD,eqN,eqS,o])).trans ?_;refine (qw (ρ1:=[iO C,iO (.int r),iO (.dct k),iO S,iO (.lst ((chs r k).map D.int)),iQ]) (by rw [WZ,s]; rfl)).trans ?_;exact fin
theorem Jq (H:l.length<=6) (o:1<=r) (p:r<=99) {k:Fx} (w:qbC k) (u:k.length<=50):∃ b,qU [.lst (ql l),.int r,.dct k]=.ok (.bl b,[.non,.non,.non])/\(b=iT↔(l.length:Int)<=r/\OKs r k l):=by
 have n:uz (.lst (ql l))=.ok (.int l.length):=by simp [ql]
 by_cases j:r < (l.length:Int);·refine ⟨iS,?_,⟨(λz=>by cases z),λz=>absurd z.1 (by lia)⟩⟩;refine qo.trans ?_;generalize D.lst (ql l)=Z at n ⊢;simp [vA,qp,n,j]
 ·have g:(l.length:Int)<=r:=by lia
  obtain ⟨B,n1,n2,G⟩:=qfp o k (K:=l) (by lia) g;have I:B.length<=6:=bu n2.length_le H;have L:=wp (l:=B) (by lia);have f:=Wo (l:=B) (by lia);have t:=qdx B;have A:((LS B).filter λx=>!kN k (.inr x)).length<=12:=by
   have:=List.length_filter_le (λx=>!kN k (.inr x)) (LS B)
   lia
  have E:=Jp (Cs:=CT B) (λc f=>qdv f) (qht B (by lia)) (r:=r) (by lia) p 14 ((LS B).filter λx=>!kN k (.inr x)) k (by lia) w (by lia);refine ⟨cf r (CT B) 14 ((LS B).filter λx=>!kN k (.inr x)) k,?_,?_⟩
  ·refine qo.trans ?_;have e:=qbb (own:=[]) (cap:=[2]) (fi:=jI (qr [.vl] qT (qb (qc 3) qv))) (ρ:=[iO (.lst (ql l)),iO (.int r),iO (.dct k),iO (.lst (ql B)),iQ]) (ρ1:=[iO (.lst (ql l)),iO (.int r),iO (.dct k),iO (.lst (ql B)),iQ]) (ds:=(LS B).map D.str) (ft:=qO (d2 YB (qc 0) (qc 1))) (fe:=qc 0) (λd=>match d with | .str x=>!kN k (.inr x) | _=>iS) (λd=>d) (by simp) (by
     generalize D.lst (ql B)=Z at L ⊢;simp [L,jw]) (by rw [am]; exact ji (by lia)) (λd hd=>by
     obtain ⟨x,hx,rfl⟩:=aC.mp hd;simp [YB,Ww]) (λd hd _=>rfl)
   rw [List.map_id',List.filter_map] at e;have e:jc [] 1 [2] (jI (qr [.vl] qT (qb (qc 3) qv))) (gNm 0) (qO (d2 YB (qc 0) (qc 1))) (qc 0) [iO (.lst (ql l)),iO (.int r),iO (.dct k),iO (.lst (ql B)),iQ]=.ok (sE ((LS B).filter λx=>!kN k (.inr x)),[iO (.lst (ql l)),iO (.int r),iO (.dct k),iO (.lst (ql B)),iQ]):=e;unfold vA;rw [show qp zg [.lst (ql l),.int r,.dct k]=[iO (.lst (ql l)),iO (.int r),iO (.dct k),iQ,iQ] from rfl];generalize D.lst (ql l)=Z at *;generalize D.lst (ql B)=ZB at *;generalize D.dct k=Y at *;refine (qw (ρ1:=[iO Z,iO (.int r),iO Y,iQ,iQ]) (by simp [n,j])).trans ?_;refine (qw (ρ1:=[iO Z,iO (.int r),iO Y,iO ZB,iQ]) (by simp [G])).trans ?_;refine (qw (ρ1:=[iO Z,iO (.int r),iO Y,iO ZB,iO (sE ((LS B).filter λx=>!kN k (.inr x)))]) (by rw [WZ,e]; rfl)).trans ?_;generalize sE ((LS B).filter λx=>!kN k (.inr x))=S at *;generalize D.lst ((CT B).map cE)=C at *;simp [f,E]
  ·have R:((LS B).filter λx=>!kN k (.inr x)).Nodup:=((je _).nodup_iff.mpr (xa _ [] c7).1).filter _;have hok:(∃ v,Ext k v/\qfQ r (CT B) v)↔OKs r k B:=⟨λ⟨v,a,b⟩=>⟨v,a,qfi.mpr b⟩,λ⟨v,a,b⟩=>⟨v,a,qfi.mp b⟩⟩
   rw [<-n1,<-hok];have m:∀ c∈CT B,∀ y∈c.1++c.2,kN k (.inr y)=iT\/y∈(LS B).filter λx=>!kN k (.inr x):=λc f y i=>by
    cases q:kN k (.inr y) with
    | true=>exact .inl rfl
    | false=>exact .inr (dB.mpr ⟨qhD f y i,by rw [q]; rfl⟩)
   by_cases s:k=[];·subst s;rw [qfl o (λc f=>qkx f) 14 _ (by lia) R λc f y i=>(m c f y i).resolve_left λz=>by cases z];exact ⟨λ⟨v,h⟩=>⟨g,v,(λx hx=>by cases hx),h⟩,λ⟨_,v,_,h⟩=>⟨v,h⟩⟩
   ·rw [qbo o 14 _ k (by lia) s R (λy i=>by simpa using (dB.mp i).2) m];exact ⟨λh=>⟨g,h⟩,λh=>h.2⟩
abbrev rfT:xf:=(yw (uy (qr [.vl,.vl,.vl] qU (qb (qc 0) (qb (qc 2) (qb (dC (.dct [])) qv))))))
abbrev rfB:qK:=(jJ 2 (d2 vG (qc 2) (dC (.int 1))))
variable {Z:D}
theorem Ku {P:Int->Prop} (hd:∀ r,1<=r->r<=99->∃ b,qU [Z,.int r,.dct []]=.ok (.bl b,[.non,.non,.non])/\(b=iT↔P r)) {m:Int} (c:P m) (h:m<=97) {a:Option D}:∀ (n:Nat) (f:Int),1<=f->f<=m->m < f+n ->∃ R,f<=R/\P R/\(∀ r,f<=r->r < R->¬P r)/\qS rfT rfB n [iO Z,a,iO (.int f)]=.ok (.nx,[iO Z,a,iO (.int R)])
 | 0,f,h1,h2,h3=>by lia
 | n+1,f,h1,h2,h3=>by
  obtain ⟨b,e,g⟩:=hd f h1 (by lia);cases b with
  | true=>exact ⟨f,by lia,g.mp rfl,λr r1 r2=>by lia,by simp [qS,e]⟩
  | false=>
   have d:¬P f:=λz=>by have:=g.mpr z; cases this
   have j:f≠m:=λz=>d (by rw [z]; exact c);obtain ⟨R,r1,r2,r3,r4⟩:=Ku hd c h n (f+1) (by lia) (by lia) (by lia);refine ⟨R,by lia,r2,λr k i=>?_,?_⟩
   ·by_cases q:r=f;·rw [q]; exact d
    ·exact r3 r (by lia) i
   ·have s1:qS rfT rfB (n+1) [iO Z,a,iO (.int f)]=qS rfT rfB n [iO Z,a,iO (.int (f+1))]:=by simp [qS,e]
    rw [s1];exact r4
theorem qhG (h:clo l=iQ):NA l:=by
 unfold NA;rw [d4];intro i j hi D b;have h1:=List.findSome?_eq_none_iff.mp h j (aZ.mpr D);unfold clF at h1;rw [Option.map_eq_none_iff,eu] at h1;have h2:=h1 i (aZ.mpr b);have e1:pa l i=l[i]:=by simp [pa,hi]
 have e:pa l j=l[j]:=by simp [pa,D]
 rw [<-e1,<-e];simpa using h2
theorem qhH {k:Fx} (hl:k.length<=100) (x:Str) (v:Int):kR [.dct k,.str x,.int v]=.ok (.dct (vU k (.inr x) (.int v)),[.dct k,.non,.non]):=by have hz:k.length < sizeLine:=aH (show k.length < 2000 by lia) big;refine qo.trans ?_;simp [yR,qp,VF,VD,Ww,hz]
theorem qfr (b:1<=r) {k:Fx} (hx:kN k (.inr x)=iS) (h:OKs r k l):∃ w,0<=w/\w < r/\OKs r (vU k (.inr x) (.int w)) l:=by
 obtain ⟨v,a,hd⟩:=h;refine ⟨v x % r,fE _ (by lia),ei _ (by lia),up v x (v x % r),λy B=>?_,?_⟩
 ·rw [ud hx] at B;obtain ⟨h1,h2⟩:=Wp hx (v x % r);unfold up;by_cases q:y=x;·rw [Aa q,q,h1]
  ·rw [Ab q,h2 y q];refine a y ?_;have:decide (x=y)=false:=Ac λz=>q z.symm;rw [this,g8] at B;exact B
 ·have c:∀ y,r ∣ v y - up v x (v x % r) y:=λy=>by
   unfold up;split;·rename_i q;rw [q];exact Int.dvd_self_sub_emod
   ·rw [Int.sub_self];exact Int.dvd_zero _
  unfold Ds at hd ⊢;refine hd.imp λ{p q} j z=>j ?_;have e:nu v p - nu v q=(nu (up v x (v x % r)) p - nu (up v x (v x % r)) q)+((v p.1 - up v x (v x % r) p.1)+(v p.2 - up v x (v x % r) p.2)) - ((v q.1 - up v x (v x % r) q.1)+(v q.2 - up v x (v x % r) q.2)):=by
   unfold nu
   lia
  rw [e];exact Int.dvd_sub (f7 z (f7 (c _) (c _))) (f7 (c _) (c _))
abbrev lwT:xf:=(qgx (qO (d2 ltD (qc 4) (qc 1))) (yw (uy (qr [.vl,.vl,.vl] qU (qb (qc 0) (qb (qc 1) (qb (qr [.sl 2,.vl,.vl] kR (jP (qb (qc 3) (qb (qc 4) qv)))) qv)))))))
abbrev lwB:qK:=(jJ 4 (d2 vG (qc 4) (dC (.int 1))))
theorem Xp {k:Fx} (hl:k.length<=100) {P:Int->Prop} (hd:∀ w,0<=w->w < r->∃ b,qU [Z,.int r,.dct (vU k (.inr x) (.int w))]=.ok (.bl b,[.non,.non,.non])/\(b=iT↔P w)) {m:Int} (c:P m) (hmr:m < r):∀ (n:Nat) (f:Int),0<=f->f<=m->m < f+n ->∃ R,f<=R/\R < r/\P R/\(∀ w,f<=w->w < R->¬P w)/\qS lwT lwB n [iO Z,iO (.int r),iO (.dct k),iO (.str x),iO (.int f)]=.ok (.nx,[iO Z,iO (.int r),iO (.dct k),iO (.str x),iO (.int R)])
 | 0,f,h1,h2,h3=>by lia
 | n+1,f,h1,h2,h3=>by
  obtain ⟨b,e,d⟩:=hd f h1 (by lia);have hw:=qhH hl x f;have h:f < r:=by lia
  cases b with
  | true=>refine ⟨f,by lia,h,d.mp rfl,λw r1 r2=>by lia,?_⟩;generalize D.dct (vU k (.inr x) (.int f))=Y at *;simp [qS,hw,e,h]
  | false=>
   have a:¬P f:=λz=>by have:=d.mpr z; cases this
   have i:f≠m:=λz=>a (by rw [z]; exact c);obtain ⟨R,r1,r0,r2,r3,r4⟩:=Xp hl hd c hmr n (f+1) (by lia) (by lia) (by lia);refine ⟨R,by lia,r0,r2,λw j g=>?_,?_⟩
   ·by_cases q:w=f;·rw [q]; exact a
    ·exact r3 w (by lia) g
   ·have s1:qS lwT lwB (n+1) [iO Z,iO (.int r),iO (.dct k),iO (.str x),iO (.int f)]=qS lwT lwB n [iO Z,iO (.int r),iO (.dct k),iO (.str x),iO (.int (f+1))]:=by generalize D.dct (vU k (.inr x) (.int f))=Y at *;simp [qS,hw,e,h]
    rw [s1];exact r4
theorem sq {f g:qK} (h:f ρ=.ok (.nx,ρ1)):qG f g ρ=g ρ1:=by unfold qG;rw [h];rfl
theorem fnx {fb:qK} {ρ2:Sl} (h1:g d ρ=.ok ρ1) (h2:fb ρ1=.ok (.nx,ρ2)):kC g fb (d::ds) ρ=kC g fb ds ρ2:=by simp [kC,h1,h2]
inductive Lex (r:Int) (l:List (Str×Str)):List (Str×Int)->List (Str×Int)->Prop
 | nil (m:List (Str×Int)):Lex r l m []
 | cons {m:List (Str×Int)} {x:Str} {w:Int} {rest:List (Str×Int)} (h0:0<=w) (h1:w < r) (h2:OKs r (bk (m++[(x,w)])) l) (h3:∀ w',0<=w'->w' < w->¬OKs r (bk (m++[(x,w')])) l) (t:Lex r l (m++[(x,w)]) rest):Lex r l m ((x,w)::rest)
variable {m:List (Str×Int)}
theorem Xq (h:x∉jp m) (w:Int):vU (bk m) (.inr x) (.int w)=bk (m++[(x,w)]):=by rw [Qq (by rw [Xg]; exact Ac h)];simp [bk]
theorem qju (p:r<=99) (h:∀ e∈m,0<=e.2/\e.2 < r):qbC (bk m):=λkv a=>by obtain ⟨e,i,rfl⟩:=aC.mp a;have:=h e i;exact ⟨e.2,rfl,this.1,by lia⟩
theorem qcZ (m:List (Str×Int)) (x:Str) (w:Int):jp (m++[(x,w)])=jp m++[x]:=by simp [jp]
abbrev lwL:qK:=(qG (jJ 4 (dC (.int 0)))
  (qG (qS lwT lwB 102)
  (qG (sIf (qO (d2 eqD (qc 4) (qc 1))) (jq (dC .non)) jb)
  (VD 2 (qc 4) (qc 3)))))
theorem qbp (u:l.length<=6) (f:1<=r) (p:r<=99) (j:(l.length:Int)<=r):∀ (xs:List Str) (m:List (Str×Int)) (y z:Option D),xs.Nodup->(∀ x∈xs,x∉jp m)->m.length+xs.length<=40->(∀ e∈m,0<=e.2/\e.2 < r)->OKs r (bk m) l ->∃ ws s b,jp ws=xs/\(∀ e∈ws,0<=e.2/\e.2 < r)/\Lex r l m ws/\OKs r (bk (m++ws)) l/\kC (gNm 3) lwL (xs.map D.str) [iO (.lst (ql l)),iO (.int r),iO (.dct (bk m)),y,z]=.ok (.nx,[iO (.lst (ql l)),iO (.int r),iO (.dct (bk (m++ws))),s,b])
 | [],m,y,z,_,_,_,_,hok=>⟨[],y,z,rfl,by simp,.nil m,by simpa using hok,by simp [kC]⟩
 | x::xs,m,y,z,h,hnm,hlen,hm,hok=>by
  rw [ai] at hlen;have hx:x∉jp m:=hnm x (aj ..);have h:=aT.mp h;have B:(bk m).length<=40:=by simp [bk]; lia
  have n:∀ w,0<=w->w < r->∀ e∈m++[(x,w)],0<=e.2/\e.2 < r:=λw o v e i=>by
   rcases aG.mp i with i | i;·exact hm e i
   ·rw [ax.mp i];exact ⟨o,v⟩
  obtain ⟨o,L,K,J⟩:=qfr f (x:=x) (by rw [Xg]; exact Ac hx) hok;obtain ⟨R,r0,r1,r2,r3,r4⟩:=Xp (Z:=.lst (ql l)) (r:=r) (k:=bk m) (by lia) (x:=x) (P:=λw=>(l.length:Int)<=r/\OKs r (vU (bk m) (.inr x) (.int w)) l) (λw d c=>by have t:=qju p (n w d c);rw [<-Xq hx] at t;exact Jq u f p t (bu (qbn _ _ _) (by lia))) ⟨j,J⟩ K 102 0 (by lia) L (by lia);have a:OKs r (bk (m++[(x,R)])) l:=by rw [<-Xq hx]; exact r2.2
  obtain ⟨ws,s,b,I,H,G,E,C⟩:=qbp u f p j xs (m++[(x,R)]) (iO (.str x)) (iO (.int R)) h.2 (λe i=>by
   rw [qcZ];intro q;rcases aG.mp q with q | q;·exact hnm e (ae _ i) q
   ·rw [ax.mp q] at i;exact h.1 i) (by rw [ao,fk]; lia) (n R r0 r1) a
  refine ⟨(x,R)::ws,s,b,?_,λe i=>?_,.cons r0 r1 a (λw' d c A=>r3 w' d c ⟨j,by rw [Xq hx]; exact A⟩) G,by simpa using E,?_⟩;·show x::jp ws=_;rw [I]
  ·rcases af.mp i with rfl | i;·exact ⟨r0,r1⟩
   ·exact H e i
  ·have hz:(bk m).length < sizeLine:=aH (show (bk m).length < 2000 by lia) big;have g:¬R=r:=by lia
   have st:lwL [iO (.lst (ql l)),iO (.int r),iO (.dct (bk m)),iO (.str x),z]=.ok (.nx,[iO (.lst (ql l)),iO (.int r),iO (.dct (bk (m++[(x,R)]))),iO (.str x),iO (.int R)]):=by generalize D.lst (ql l)=Z at *;refine (sq (ρ1:=[iO Z,iO (.int r),iO (.dct (bk m)),iO (.str x),iO (.int 0)]) rfl).trans ?_;refine (sq r4).trans ?_;refine (sq (ρ1:=[iO Z,iO (.int r),iO (.dct (bk m)),iO (.str x),iO (.int R)]) (by simp [eqD,eqN,eqS,g])).trans ?_;rw [<-Xq hx];simp [VD,Ww,hz]
   rw [aD];refine (fnx (ρ1:=[iO (.lst (ql l)),iO (.int r),iO (.dct (bk m)),iO (.str x),z]) rfl st).trans ?_;rw [C,cS];rfl
theorem qdD:∀ {L:List Str},L.Pairwise (λx y=>leS x y/\x≠y)->qeR L=iT
 | [],_=>rfl
 | [_],_=>rfl
 | x::y::r,h=>by obtain ⟨h1,h2⟩:=bh.mp h;obtain ⟨a,b⟩:=h1 y (aj ..);unfold qeR;rw [qdD h2,Ad (bb b),Ac (show ¬y.cps.toList < x.cps.toList from a)];rfl
theorem qhI (l:List (Str×Str)):(LS l).Pairwise (λx y=>leS x y/\x≠y):=(kz _).and (qhm l)
theorem Xr:∀ m:List (Str×Int),Uc (bk m)=iO (jp m)
 | []=>rfl
 | e::m=>by have:=Xr m;simp [bk,jp,Uc] at this ⊢;exact this
theorem qc0 (m:List (Str×Int)):YT (bk m)=prL m:=by unfold YT bk prL;rw [bR];rfl
def qjv (l:List (Str×Str)) (r:Int) (ws:List (Str×Int)):Prop:=jp ws=LS l/\(∀ e∈ws,0<=e.2/\e.2 < r)/\Lex r l [] ws/\OKs r (bk ws) l
theorem Qr (i:l.length<=6) (z:∀ x∈LS l,∃ c,az c/\x=⟨#[c]⟩) (g:1<=r) (p:r<=99) (j:(l.length:Int)<=r) (hok:OKs r [] l):∃ ws,qjv l r ws/\vM [.lst (ql l),.int r]=.ok (.tup (prL ws),[.non,.non]):=by
 have a:=wp (l:=l) (by lia);have t:=qdx l;obtain ⟨ws,s,f,e,A,m,d,b⟩:=qbp i g p j (LS l) [] iQ iQ (qhm l) (λx _=>by simp [jp]) (by simp; lia) (by simp) hok;rw [iu] at d b;refine ⟨ws,⟨e,A,m,d⟩,?_⟩;have hs:kX (.dct (bk ws))=.ok (.lst (prL ws)):=by
  have h:((LS l).all λy=>decide (y.length<=sizeLine))=true:=by rw [aJ];intro x hx;obtain ⟨c,_,rfl⟩:=z x hx;exact Ad (show (1:Nat)<=sizeLine from ji (by lia))
  have k:=Xr ws;rw [e] at k;simp only [kX,k];rw [Aa ⟨by lia,qdD (qhI l),h⟩,qc0]
 refine qo.trans ?_;unfold uO;rw [show qp uN [.lst (ql l),.int r]=[iO (.lst (ql l)),iO (.int r),iQ,iQ,iQ] from rfl];refine (qw (ρ1:=[iO (.lst (ql l)),iO (.int r),iO (.dct (bk [])),iQ,iQ]) rfl).trans ?_;have hi:jI (qr [.vl] qT (qb (qc 0) qv)) [iO (.lst (ql l)),iO (.int r),iO (.dct (bk [])),iQ,iQ]=.ok ((LS l).map D.str,[iO (.lst (ql l)),iO (.int r),iO (.dct (bk [])),iQ,iQ]):=by generalize D.lst (ql l)=Z at a ⊢;simp [a,jw]
 refine (qw (ρ1:=[iO (.lst (ql l)),iO (.int r),iO (.dct (bk ws)),s,f]) (by rw [uV,hi,vY];exact b)).trans ?_;generalize D.lst (ql l)=Z;generalize D.dct (bk ws)=B at hs ⊢;simp [hs,gf]
theorem qjw (h:x∈jp m):vl (bk m) x=Qw m x:=by unfold vl;rw [(Ks h).2]
theorem qjx {w:Str->Int} (h:∀ x∈LS l,v x=w x) (hd:Ds r v l):Ds r w l:=by
 unfold Ds at hd ⊢;refine List.Pairwise.imp_of_mem (λ{p q} hp hq j=>?_) hd;have e:∀ p∈l,nu v p=nu w p:=λp hp=>by unfold nu;rw [h p.1 (xc.mpr ⟨p,hp,.inl rfl⟩),h p.2 (xc.mpr ⟨p,hp,.inr rfl⟩)]
 rw [<-e p hp,<-e q hq];exact j
theorem qfs {ws:List (Str×Int)} (h:qjv l r ws):Ds r (Qw ws) l:=by obtain ⟨h1,h2,h3,v,c,hd⟩:=h;refine qjx (λx hx=>?_) hd;rw [<-h1] at hx;rw [c x (by rw [Xg]; exact Ad hx),qjw hx]
theorem qft:(l.map λx=>(v x.1+v x.2) % r).Nodup↔Ds r v l:=by
 unfold Ds List.Nodup;rw [List.pairwise_map];have e:∀ p q:Str×Str,(v p.1+v p.2) % r≠(v q.1+v q.2) % r↔¬r ∣ nu v p - nu v q:=λp q=>by unfold nu;rw [Ne,Int.emod_eq_emod_iff_emod_sub_eq_zero,Int.dvd_iff_emod_eq_zero]
 simp only [e]
theorem Qs {k:Nat}:∀ ds:List D,(∀ d∈ds,eqN k d d=iO iT)->wy (eqN k) ds ds=iO iT
 | [],_=>rfl
 | d::ds,h=>by have e:=h d (aj ..);have j:=Qs ds λd' hd=>h d' (ae _ hd);simp [wy,e,j]
theorem qfu {k:Nat} (h:∀ d∈ds,eqN k d d=iO iT):eqN (k+1) (.lst ds) (.lst ds)=iO true:=by have e:=Qs ds h;simp [eqN,e]
theorem uR {k:Nat} (h:∀ d∈ds,eqN k d d=iO iT):eqN (k+1) (.tup ds) (.tup ds)=iO true:=by have e:=Qs ds h;simp [eqN,e]
theorem Wr (k:Nat) (x:Str):eqN k (.str x) (.str x)=iO true:=by cases k <;> simp [eqN,eqS]
theorem Kv (k:Nat) (x:Int):eqN k (.int x) (.int x)=iO true:=by cases k <;> simp [eqN,eqS]
theorem xL (h:eqN 8 d d=iO iT):neD d d=.ok (.bl iS):=by simp [neD,h]
theorem qc1 (h:eqN 8 d d=iO iT):eqD d d=.ok (.bl iT):=by simp [eqD,h]
abbrev wdF (p q:Int) (ws:List Str) (r:Int) (hs:List Int):List (Str×D):=[("look",Ld p q),("came",Wd ws),("width",.int r),("held",.tup (hs.map D.int))]
noncomputable def wdD (ca:Str->Addr) (p q:Int) (ws:List Str) (r:Int) (hs:List Int):D:=.ins (ca "Words") (wdF p q ws r hs)
variable {hs:List Int}
section
theorem s1:(aa "came" == aa "look")=iS/\(aa "width" == aa "look")=iS/\(aa "width" == aa "came")=iS/\(aa "held" == aa "look")=iS/\(aa "held" == aa "came")=iS/\(aa "held" == aa "width")=false:=by decide +kernel
theorem qdE:zr (ca "Words") "look" (wdD ca p q ws r hs)=.ok (Ld p q):=by simp [zr,wdD,cj]
theorem Xu:zr (ca "Words") "came" (wdD ca p q ws r hs)=.ok (Wd ws):=by obtain ⟨m,k,z,b,a,l⟩:=s1;simp [zr,wdD,cj,m]
theorem qbq:zr (ca "Words") "width" (wdD ca p q ws r hs)=.ok (.int r):=by obtain ⟨m,k,z,b,a,l⟩:=s1;simp [zr,wdD,cj,k,z]
theorem qhJ:zr (ca "Words") "held" (wdD ca p q ws r hs)=.ok (.tup (hs.map D.int)):=by obtain ⟨m,k,z,b,a,l⟩:=s1;simp [zr,wdD,cj,b,a,l]
theorem ym {n:Str} (h:([aa "look",aa "came",aa "width",aa "held"].all λf=>!(n == f))=iT):uX (ca "Words") n (iO (iO (wdD ca p q ws r hs)))=true:=by simp only [fC,List.all_nil,iG,aN,eZ] at h;obtain ⟨h1,h2,h3,a⟩:=h;simp [uX,wdD,cj,h1,h2,h3,a]
theorem qbr (hl:KB p q):jO ca [.ins (ca "Words") [],Ld p q]=.ok (.non,[wdD ca p q [] 0 [],.non]):=by
 have h:=xb hl;have e1:¬aa "look"=aa "came":=by decide +kernel
 have i:¬aa "look"=aa "width":=by decide +kernel
 have E:¬aa "came"=aa "width":=by decide +kernel
 have k:¬aa "look"=aa "held":=by decide +kernel
 have A:¬aa "came"=aa "held":=by decide +kernel
 have e:¬aa "width"=aa "held":=by decide +kernel
 refine qo.trans ?_;simp [kK,qp,h,gE,gD,e1,i,E,k,A,e,wdD]
theorem UP:qF ca [wdD ca p q ws r hs]=.ok (Wd ws,[wdD ca p q ws r hs]):=by have h:=Xu (ca:=ca) (p:=p) (q:=q) (ws:=ws) (r:=r) (hs:=hs);refine qo.trans ?_;generalize wdD ca p q ws r hs=O at *;simp [wb,qp,h]
theorem qhK:kA ca [wdD ca p q ws r hs]=.ok (.int r,[wdD ca p q ws r hs]):=by have h:=qbq (ca:=ca) (p:=p) (q:=q) (ws:=ws) (r:=r) (hs:=hs);refine qo.trans ?_;generalize wdD ca p q ws r hs=O at *;simp [wK,qp,h]
noncomputable def nmL (ws:List Str) (hs:List Int):D:=.lst (qdi (ws.map D.str) (hs.map D.int))
theorem qbs:jB ca [wdD ca p q ws r hs]=.ok (nmL ws hs,[wdD ca p q ws r hs]):=by have h1:=Xu (ca:=ca) (p:=p) (q:=q) (ws:=ws) (r:=r) (hs:=hs);have h2:=qhJ (ca:=ca) (p:=p) (q:=q) (ws:=ws) (r:=r) (hs:=hs);have h3:vw (Wd ws) (.tup (hs.map D.int))=.ok (nmL ws hs):=rfl;refine qo.trans ?_;generalize wdD ca p q ws r hs=O at *;simp [vi,qp,h1,h2,h3]
end
noncomputable def nuL (r:Int) (l:List (Str×Str)) (m:List (Str×Int)):List Int:=l.map λx=>(Qw m x.1+Qw m x.2) % r
section
variable (hw:vn ws) (hl:KB p q)
include hw hl
theorem qc2 (i:1<=r) (g:r<=99) {es:List (Str×Int)} (h:qjv (qX ws p q) r es):ur [Wd ws,Ld p q,.int r,.tup (prL es)]=.ok (.tup ((nuL r (qX ws p q) es).map D.int),[.non,.non,.non,.non])/\(nuL r (qX ws p q) es).Nodup:=by
 have hd:=qft.mpr (qfs h);obtain ⟨k,v,_,_⟩:=h;have z:=qhl hw p q;have t:=qhk hw p q;have a:es.length<=12:=by
  have:(jp es).length=es.length:=by simp [jp]
  rw [<-this,k];exact t
 have l:OkW r es:=λx hx=>by obtain ⟨c,b,e⟩:=z x.1 (by rw [<-k]; exact aC.mpr ⟨x,hx,rfl⟩);have:=v x hx;exact ⟨by rw [e]; exact qdr b,this.1,this.2⟩
 have hs:UH es=true:=by unfold UH;rw [Xf,k];exact UK _ (qhI _)
 have f:UE 1 99 (.int r)=true:=by simp [UE]; lia
 have hi:=(Wl (ds:=prL es) (λd hd=>by
  obtain ⟨x,_,rfl⟩:=aC.mp hd;refine ⟨trivial,λxs e y B=>?_⟩;cases e;rcases af.mp B with rfl | B;·trivial
  ·rw [ax.mp B];trivial) (by simp [prL]; lia) r).2 es rfl l
 rw [hs] at hi;have:=UL hw hl f l hs hi;rw [Aa (by rw [aJ];intro x hx;rw [k];exact Ad hx)] at this;refine ⟨?_,hd⟩;rw [this];unfold qim nuL;rw [bR];rfl
end
theorem qfv (h:1<=l.length):qU [.lst (ql l),.int 0,.dct []]=.ok (.bl iS,[.non,.non,.non]):=by
 have a:uz (.lst (ql l))=.ok (.int l.length):=by simp [ql]
 have h0:(0:Int) < l.length:=by lia
 refine qo.trans ?_;generalize D.lst (ql l)=Z at *;generalize (l.length:Int)=n at *;simp [vA,qp,a,h0]
theorem qfw (h1:1<=l.length) (e:l.length<=6) (i:clo l=iQ) (r0:0<=r) (r1:r<=97):∃ R,yh [.lst (ql l),.int r]=.ok (.int R,[.non,.non])/\1<=R/\R<=97/\(l.length:Int)<=R/\OKs R [] l:=by
 have j:qbC []:=λkv c=>by cases c
 obtain ⟨v,g⟩:=qky (qhG i) e;have h:(l.length:Int)<=97/\OKs 97 [] l:=⟨by lia,v,(λx hx=>by cases hx),g⟩
 have hd:∀ r,1<=r->r<=99->∃ b,qU [.lst (ql l),.int r,.dct []]=.ok (.bl b,[.non,.non,.non])/\(b=iT↔(l.length:Int)<=r/\OKs r [] l):=λr a b=>Jq e a b j (by simp);have h0:=qfv h1;have n:∃ R,1<=R/\R<=97/\((l.length:Int)<=R/\OKs R [] l)/\qS rfT rfB 100 [iO (.lst (ql l)),iO (.int r),iO (.int r)]=.ok (.nx,[iO (.lst (ql l)),iO (.int r),iO (.int R)]):=by
  generalize D.lst (ql l)=Z at *;by_cases z:r=0
  ·subst z;obtain ⟨R,o,k,d,q⟩:=Ku (Z:=Z) hd h (by lia) (a:=iO (.int 0)) 99 1 (by lia) (by lia) (by lia);refine ⟨R,by lia,Int.not_lt.mp λy=>d 97 (by lia) y h,k,?_⟩;have s1:qS rfT rfB (99+1) [iO Z,iO (.int 0),iO (.int 0)]=qS rfT rfB 99 [iO Z,iO (.int 0),iO (.int 1)]:=by simp [qS,h0]
   exact s1.trans q
  ·obtain ⟨R,o,k,d,q⟩:=Ku (Z:=Z) hd h (by lia) (a:=iO (.int r)) 100 r (by lia) (by lia) (by lia);exact ⟨R,by lia,Int.not_lt.mp λy=>d 97 (by lia) y h,k,q⟩
 obtain ⟨R,B,A,f,m⟩:=n;refine ⟨R,?_,B,A,f.1,f.2⟩;refine qo.trans ?_;unfold Qe;generalize D.lst (ql l)=Z at *;rw [show qp Qd [Z,.int r]=[iO Z,iO (.int r),iQ] from rfl];refine (qw (ρ1:=[iO Z,iO (.int r),iO (.int r)]) (by simp)).trans ?_;refine (qw m).trans ?_;simp
section
theorem Kw (h:zM w):ub [.str w]=.ok (.non,[.non]):=by have h1:=Jn h;refine qo.trans ?_;simp [zi,qp,h1]
theorem Ws (h:zM w):jH ca [wdD ca p q ws r hs,.str w]=if w∈ws then .exc "Known" [iO (wdD ca p q ws r hs),iO .non] else if ws.length=6 then .exc "Full" [iO (wdD ca p q ws r hs),iO .non] else .ok (.non,[wdD ca p q ws r hs,.non]):=by
 have h1:=Kw h;have h2:=Xu (ca:=ca) (p:=p) (q:=q) (ws:=ws) (r:=r) (hs:=hs);have h3:inA (.str w) (Wd ws)=.ok (.bl (decide (w∈ws))):=by simp [inA,qgv,inD,vR]
 have c:uz (Wd ws)=.ok (.int ws.length):=by simp [Wd]
 have z1:1<=sizeLine:=ji (by lia);refine qo.trans ?_;generalize wdD ca p q ws r hs=O at *;generalize Wd ws=W at *;by_cases a:w∈ws;·rw [Aa a];rw [Ad a] at h3;simp [jo,qp,h1,h2,h3,jd,z1]
 ·rw [Ab a];rw [Ac a] at h3;by_cases b:ws.length=6
  ·rw [Aa b];have g:(ws.length:Int)=6:=by lia
   simp [jo,qp,h1,h2,h3,c,eqD,eqN,eqS,g,jd,z1]
  ·rw [Ab b];have g:¬(ws.length:Int)=6:=by lia
   simp [jo,qp,h1,h2,h3,c,eqD,eqN,eqS,g]
end
def Gd (ws:List Str) (r:Int) (hs:List Int):Prop:=(ws=[]/\r=0/\hs=[])\/(vn ws/\1<=r/\r<=97/\hs.length=ws.length)
section
theorem Gd.nx (h:Gd ws r hs) (hw:zM w) (n:w∉ws) (b:ws.length≠6):vn (ws++[w])/\0<=r/\r<=97:=by
 rcases h with ⟨rfl,rfl,rfl⟩ | ⟨⟨m,k,a,q⟩,d,A,c⟩
 ·exact ⟨⟨by simp,by simp,by simp,λx hx=>by
   rcases aG.mp hx with z | z;·cases z
   ·rw [ax.mp z]; exact hw⟩,by lia,by lia⟩
 ·refine ⟨⟨by rw [ao]; simp,by rw [ao]; simp; lia,e9.mpr ⟨a,by simp,λx hx y B=>by rw [ax.mp B];rintro rfl;exact n hx⟩,λx hx=>?_⟩,by lia,by lia⟩;rcases aG.mp hx with z | z;·exact q x z
  ·rw [ax.mp z];exact hw
theorem pf {b c x:D}:gD "held" x [(aa "look",a),(aa "came",b),(aa "width",c),(aa "held",d)]=[(aa "look",a),(aa "came",b),(aa "width",c),(aa "held",x)]/\gD "came" x [(aa "look",a),(aa "came",b),(aa "width",c),(aa "held",d)]=[(aa "look",a),(aa "came",x),(aa "width",c),(aa "held",d)]/\gD "width" x [(aa "look",a),(aa "came",b),(aa "width",c),(aa "held",d)]=[(aa "look",a),(aa "came",b),(aa "width",x),(aa "held",d)]:=by
 have e1:¬aa "look"=aa "came":=by decide +kernel
 have i:¬aa "look"=aa "width":=by decide +kernel
 have E:¬aa "came"=aa "width":=by decide +kernel
 have k:¬aa "look"=aa "held":=by decide +kernel
 have A:¬aa "came"=aa "held":=by decide +kernel
 have e:¬aa "width"=aa "held":=by decide +kernel
 simp [gD,e1,i,E,k,A,e]
theorem qfx {f:Str} {b c x e g S d':D} {fe:qZ} (h:fe ρ=.ok (x,ρ1)) (h0:ρ1[0]?=iO (iO (.ins (ca "Words") [(aa "look",a),(aa "came",b),(aa "width",c),(aa "held",d)])))
  (hp:gD f x [(aa "look",a),(aa "came",b),(aa "width",c),(aa "held",d)]=[(aa "look",e),(aa "came",g),(aa "width",S),(aa "held",d')]) :
  gE (ca "Words") 0 f fe ρ=.ok (.nx,ρ1.set 0 (iO (.ins (ca "Words") [(aa "look",e),(aa "came",g),(aa "width",S),(aa "held",d')]))):=by
 unfold gE;rw [h,vY];simp only [h0];rw [Aa (by simp),hp]
def XC (c:Str):Prop:=c = "Known"\/c = "Full"\/c = "Never"
theorem qfy (hl:KB p q) (hg:Gd ws r hs) (hw:zM w):(∃ R f,Gd (ws++[w]) R f/\qV ca [wdD ca p q ws r hs,.str w]=.ok (.int R,[wdD ca p q (ws++[w]) R f,.non]))
  \/ ∃ c,XC c/\qV ca [wdD ca p q ws r hs,.str w]=.exc c [iO (wdD ca p q ws r hs),iO .non]:=by
 have h:=Ws (ca:=ca) (p:=p) (q:=q) (ws:=ws) (r:=r) (hs:=hs) hw;have y:uX (ca "Words") "check_new" (iO (iO (wdD ca p q ws r hs)))=true:=ym (by decide +kernel);by_cases a:w∈ws;·rw [Aa a] at h;refine .inr ⟨"Known",.inl rfl,?_⟩;refine qo.trans ?_;generalize wdD ca p q ws r hs=O at *;simp [jY,qp,qD,y,h]
 rw [Ab a] at h;by_cases b:ws.length=6;·rw [Aa b] at h;refine .inr ⟨"Full",.inr (.inl rfl),?_⟩;refine qo.trans ?_;generalize wdD ca p q ws r hs=O at *;simp [jY,qp,qD,y,h]
 rw [Ab b] at h;obtain ⟨e,r0,r1⟩:=hg.nx hw a b;have fc:=Xu (ca:=ca) (p:=p) (q:=q) (ws:=ws) (r:=r) (hs:=hs);have v:=qdE (ca:=ca) (p:=p) (q:=q) (ws:=ws) (r:=r) (hs:=hs);have fw:=qbq (ca:=ca) (p:=p) (q:=q) (ws:=ws) (r:=r) (hs:=hs);have u:=qcR (ws++[w]) p q;have h1:=e.1;have t:=e.2.1;have hp:=Xd e hl;have d:=UM (l:=qX (ws++[w]) p q) (by lia);have z1:1<=sizeLine:=ji (by lia);have hz:ws.length+1<=sizeLine:=ji (by rw [ao] at t; simp at t; lia);have g:vG (Wd ws) (.tup [.str w])=.ok (Wd (ws++[w])):=by simp [hz]
 have B:∀ fb:qK,YI [.io,.val] (qG (kM (qD (ca "Words") 0 "check_new" [.vl] (jH ca) (qb (qc 1) qv)))
  (qG (jJ 2 (d2 vG (d1 (zr (ca "Words") "came") (qc 0)) (Vh (qb (qc 1) qv))))
  (qG (jJ 3 (qr [.vl,.vl] gT (qb (qc 2) (qb (d1 (zr (ca "Words") "look") (qc 0)) qv)))) fb)) [iO (wdD ca p q ws r hs),iO (.str w),iQ,iQ,iQ])=YI [.io,.val] (fb [iO (wdD ca p q ws r hs),iO (.str w),iO (Wd (ws++[w])),iO (.lst (ql (qX (ws++[w]) p q))),iQ]):=λfb=>by
  clear d;generalize wdD ca p q ws r hs=O at *;generalize D.lst (ql (qX (ws++[w]) p q))=Z at *;refine (qw (ρ1:=[iO O,iO (.str w),iQ,iQ,iQ]) (by simp [qD,y,h])).trans ?_;generalize Wd ws=W at *;generalize Wd (ws++[w])=W' at *;refine (qw (ρ1:=[iO O,iO (.str w),iO W',iQ,iQ]) (by simp [fc,g,z1])).trans ?_;refine (qw (ρ1:=[iO O,iO (.str w),iO W',iO Z,iQ]) (by simp [v,hp])).trans ?_;rfl
 cases m:clo (qX (ws++[w]) p q) with
 | some c=>
  refine .inr ⟨"Never",.inr (.inr rfl),?_⟩;refine qo.trans ?_;unfold jY;rw [show qp vC [wdD ca p q ws r hs,.str w]=[iO (wdD ca p q ws r hs),iO (.str w),iQ,iQ,iQ] from rfl];refine (B _).trans ?_;rw [m] at d;have o:GA (clD (iO c)) .non=.ok (.bl iT):=by simp [clD]
  generalize clD (iO c)=C at *;generalize wdD ca p q ws r hs=O at *;generalize D.lst (ql (qX (ws++[w]) p q))=Z at *;generalize Wd (ws++[w])=W' at *;simp [d,o,jd,z1]
 | none=>
  obtain ⟨R,z,s,n,k,hok⟩:=qfw (l:=qX (ws++[w]) p q) (by lia) (by lia) m r0 r1;obtain ⟨es,A,Q⟩:=Qr (l:=qX (ws++[w]) p q) (by lia) (qhl e p q) s (by lia) k hok;obtain ⟨i,_⟩:=qc2 e hl s (by lia) A;have j:(nuL R (qX (ws++[w]) p q) es).length=(ws++[w]).length:=by unfold nuL; rw [am,u]
  refine .inl ⟨R,nuL R (qX (ws++[w]) p q) es,.inr ⟨e,s,n,j⟩,?_⟩;refine qo.trans ?_;unfold jY;rw [show qp vC [wdD ca p q ws r hs,.str w]=[iO (wdD ca p q ws r hs),iO (.str w),iQ,iQ,iQ] from rfl];refine (B _).trans ?_;rw [m] at d;have d:ut [.lst (ql (qX (ws++[w]) p q))]=.ok (.non,[.non]):=d;generalize nuL R (qX (ws++[w]) p q) es=nu at *;generalize D.lst (ql (qX (ws++[w]) p q))=Z at *;generalize D.tup (prL es)=Pe at *;refine (qw (ρ1:=[iO (wdD ca p q ws r hs),iO (.str w),iO (Wd (ws++[w])),iO Z,iQ]) (by generalize wdD ca p q ws r hs=O at *;generalize Wd (ws++[w])=W' at *;simp [d])).trans ?_;refine (qw (ρ1:=[iO (wdD ca p q ws r hs),iO (.str w),iO (Wd (ws++[w])),iO Z,iO (.int R)]) (by generalize wdD ca p q ws r hs=O at *;generalize Wd (ws++[w])=W' at *;simp [fw,z])).trans ?_;refine (qw (ρ1:=[iO (wdD ca p q ws r nu),iO (.str w),iO (Wd (ws++[w])),iO Z,iO (.int R)]) (qfx (x:=.tup (nu.map D.int)) (ρ1:=[iO (wdD ca p q ws r hs),iO (.str w),iO (Wd (ws++[w])),iO Z,iO (.int R)]) (by generalize wdD ca p q ws r hs=O at *;generalize Wd (ws++[w])=W' at *;generalize D.tup (nu.map D.int)=U at *;simp [v,Q,i]) rfl pf.1)).trans ?_;refine (qw (ρ1:=[iO (wdD ca p q (ws++[w]) r nu),iO (.str w),iO (Wd (ws++[w])),iO Z,iO (.int R)]) (qfx (x:=Wd (ws++[w])) (ρ1:=[iO (wdD ca p q ws r nu),iO (.str w),iO (Wd (ws++[w])),iO Z,iO (.int R)]) rfl rfl pf.2.1)).trans ?_;refine (qw (ρ1:=[iO (wdD ca p q (ws++[w]) R nu),iO (.str w),iO (Wd (ws++[w])),iO Z,iO (.int R)]) (qfx (x:=.int R) (ρ1:=[iO (wdD ca p q (ws++[w]) r nu),iO (.str w),iO (Wd (ws++[w])),iO Z,iO (.int R)]) rfl rfl pf.2.2)).trans ?_;generalize wdD ca p q (ws++[w]) R nu=O at *;generalize Wd (ws++[w])=W' at *;simp
end
theorem Xv:∀ (ws:List Str) (hs:List Int) (d:D),d∈qdi (ws.map D.str) (hs.map D.int)->∃ x i,d=.tup [.str x,.int i]
 | [],_,d,h=>by simp [qdi] at h
 | _::_,[],d,h=>by simp [qdi] at h
 | x::ws,i::hs,d,h=>by
  have h:d∈D.tup [.str x,.int i]::qdi (ws.map D.str) (hs.map D.int):=h;rcases af.mp h with h | h;·exact ⟨x,i,h⟩
  ·exact Xv ws hs d h
theorem qdF (k:Nat) (ws:List Str) (hs:List Int):eqN (k+2) (nmL ws hs) (nmL ws hs)=iO true:=qfu λd hd=>by
 obtain ⟨x,i,rfl⟩:=Xv ws hs d hd;exact uR λd hd=>by
  rcases af.mp hd with rfl | hd;·exact Wr _ _
  ·rw [ax.mp hd];exact Kv _ _
theorem qdG (k:Nat) (ws:List Str):eqN (k+1) (Wd ws) (Wd ws)=iO true:=uR λd hd=>by obtain ⟨x,_,rfl⟩:=aC.mp hd;exact Wr _ _
theorem qfz (ws:List Str) (r:Int) (hs:List Int):eqN 8 (.tup [Wd ws,.int r,nmL ws hs]) (.tup [Wd ws,.int r,nmL ws hs])=iO true:=uR λd hd=>by
 rcases af.mp hd with rfl | hd;·exact qdG 6 ws
 ·rcases af.mp hd with rfl | hd;·exact Kv _ _
  ·rw [ax.mp hd];exact qdF 5 ws hs
section
def GdO (ca:Str->Addr) (p q:Int) (O:D):Prop:=∃ ws r hs,Gd ws r hs/\O=wdD ca p q ws r hs
structure Tells (ca:Str->Addr) (O:D) (W R M:D):Prop where
 iw:uX (ca "Words") "words" (iO (iO O))=iT
 ir:uX (ca "Words") "room" (iO (iO O))=iT
 im:uX (ca "Words") "numbers" (iO (iO O))=iT
 gw:qF ca [O]=.ok (W,[O])
 gr:kA ca [O]=.ok (R,[O])
 gm:jB ca [O]=.ok (M,[O])
 eb:eqN 8 (.tup [W,R,M]) (.tup [W,R,M])=iO iT
 ew:eqN 8 W W=iO iT
 er:eqN 8 R R=iO iT
 em:eqN 8 M M=iO iT
theorem GdO.tells {O:D} (h:GdO ca p q O):∃ W R M,Tells ca O W R M:=by obtain ⟨ws,r,hs,hg,rfl⟩:=h;exact ⟨Wd ws,.int r,nmL ws hs,ym (by decide +kernel),ym (by decide +kernel),ym (by decide +kernel),UP,qhK,qbs,qfz ws r hs,qdG 7 ws,Kv 8 r,qdF 6 ws hs⟩
end
end Kx
namespace PySem
open Builtin Builtin.Str StrLaws
noncomputable def ki (c:Nat):Nat->List Nat->List Nat
 | _,[]=>[]
 | a,d::r=>if d=c then a::ki c (a+1) r else ki c (a+1) r
theorem Ky (x:Str) (c i:Nat):subAt x ⟨#[c]⟩ i=decide ((x.cps.toList.drop i).head?=iO c):=by
 rw [subAt_eq];show ((x.cps.toList.drop i).take 1 == [c])=_;cases x.cps.toList.drop i with
 | nil=>rfl
 | cons d r=>by_cases h:d=c <;> simp [h]
theorem Kz (x:Str) (c:Nat):∀ (m i:Nat) (st:Array Nat×Nat),i+m=x.length+1->st.1.size<=i->st.2<=i ->(forIn (List.range' i m) st (occBody x ⟨#[c]⟩ x.length (x.length+1))).run.fst.toList=st.1.toList++ki c i (x.cps.toList.drop i)
 | 0,i,st,h,_,_=>by
  have b:x.cps.toList.length=x.length:=by simp [cC]
  have:x.cps.toList.drop i=[]:=bU (by lia);rw [this];simp [ki]
 | m+1,i,st,h,h1,h2=>by
  rw [List.range'_succ,cJ];have hl:x.cps.toList.length=x.length:=by simp [cC]
  by_cases hi:i < x.length
  ·have hd:x.cps.toList.drop i=x.cps.toList[i]'(by lia)::x.cps.toList.drop (i+1):=cH (by lia);by_cases a:x.cps.toList[i]'(by lia)=c
   ·have d:occBody x ⟨#[c]⟩ x.length (x.length+1) i st=pure (bn (st.1.push i,i+1)):=by unfold occBody;rw [Aa ⟨⟨⟨by lia,h2⟩,by show i+1<=x.length; lia⟩,by rw [Ky,hd,a]; simp⟩];rfl
    rw [d];have j:=Kz x c m (i+1) (st.1.push i,i+1) (by lia) (by rw [Array.size_push]; lia) (ap _);rw [hd,a,ki,Aa rfl];refine Eq.trans j ?_;simp
   ·have d:occBody x ⟨#[c]⟩ x.length (x.length+1) i st=pure (bn (st.1,st.2)):=by unfold occBody;rw [Ab λz=>a (by have:=z.2; rw [Ky,hd] at this; simpa using this)]
    rw [d];have j:=Kz x c m (i+1) st (by lia) (by lia) (by lia);rw [hd,ki,Ab a];exact j
  ·have hd:x.cps.toList.drop i=[]:=bU (by lia);have hd2:x.cps.toList.drop (i+1)=[]:=bU (by lia);have d:occBody x ⟨#[c]⟩ x.length (x.length+1) i st=pure (bn (st.1,st.2)):=by unfold occBody;rw [Ab λz=>by have:i+1<=x.length:=z.1.2; lia]
   rw [d];have j:=Kz x c m (i+1) st (by lia) (by lia) (by lia);rw [hd2] at j;rw [hd];exact j
theorem qhL (x:Str) (c:Nat):occurrences x ⟨#[c]⟩ 0 x.length (x.length+1)=ki c 0 x.cps.toList:=by rw [occ_eq];have:=Kz x c (x.length+1) 0 (#[],0) (by lia) (by simp) (ap _);simpa using this
variable {c:Nat}
theorem Qt:∀ (l:List Nat) (a:Nat),c∉l->ki c a l=[]
 | [],a,_=>rfl
 | d::r,a,h=>by rw [ki,Ab λz=>h (by rw [z]; exact aj ..)];exact Qt r (a+1) λz=>h (ae _ z)
theorem xM:∀ (l r:List Nat) (a:Nat),c∉l->ki c a (l++c::r)=(a+l.length)::ki c (a+l.length+1) r
 | [],r,a,_=>by simp [ki]
 | d::l,r,a,h=>by
  rw [ib,ki,Ab λz=>h (by rw [z]; exact aj ..),xM l r (a+1) λz=>h (ae _ z)];simp only [ai];congr 1
  ·lia
  ·congr 1
   lia
theorem Qu (c:Nat) (p:Str) (q:Str) (r:List Str):(dS ⟨#[c]⟩ (p::q::r)).cps.toList=p.cps.toList++c::(dS ⟨#[c]⟩ (q::r)).cps.toList:=by show (p++⟨#[c]⟩++dS ⟨#[c]⟩ (q::r)).cps.toList=_;rw [df,df];simp
theorem Xw {x:Str} {c:Nat}:∀ (ps:List Str) (a:Nat),ps≠[]->(∀ p∈ps,c∉p.cps.toList)->a<=x.length->x.cps.toList.drop a=(dS ⟨#[c]⟩ ps).cps.toList->partsFrom x 1 a (ki c a (x.cps.toList.drop a))=ps
 | [],_,h,_,_,_=>absurd rfl h
 | [p],a,_,hn,ha,e=>by
  have b:x.cps.toList.drop a=p.cps.toList:=e;rw [b,Qt _ _ (hn p (aj ..))];show [strSub x a x.length]=[p];congr 1;apply iD;apply cz.mp;have hl:x.cps.toList.length=x.length:=by simp [cC]
  rw [strSub_toList,b,dn];rw [<-b,h8]
  lia
 | p::q::r,a,_,hn,ha,e=>by
  have hl:x.cps.toList.length=x.length:=by simp [cC]
  rw [Qu] at e;have hp:=hn p (aj ..);have n:(x.cps.toList.drop a).length=x.length - a:=by rw [h8,hl]
  rw [e,ao,ai] at n;have i:x.cps.toList.drop (a+p.cps.toList.length+1)=(dS ⟨#[c]⟩ (q::r)).cps.toList:=by rw [Nat.add_assoc,<-iE,e,<-iE,List.drop_left];rfl
  have j:=Xw (x:=x) (q::r) (a+p.cps.toList.length+1) (by simp) (λz hz=>hn z (ae _ hz)) (by lia) i;rw [e,xM _ _ _ hp,<-i];show strSub x a (a+p.cps.toList.length)::partsFrom x 1 (a+p.cps.toList.length+1) _=_;rw [j];congr 1;apply iD;apply cz.mp;rw [strSub_toList,e,Nat.add_sub_cancel_left,List.take_left]
theorem ZE (b:c < 256) {ps:List Str} (h:ps≠[]) (n:∀ p∈ps,c∉p.cps.toList):db (dR ⟨#[c]⟩ ps) ⟨#[c]⟩=ps:=by
 have j:dR ⟨#[c]⟩ ps=dS ⟨#[c]⟩ ps:=glued_eq_join _ _;rw [j];generalize hx:dS ⟨#[c]⟩ ps=x;have hp:=Xw (x:=x) ps 0 h n (bi _) (by rw [hx]; rfl);rw [List.drop_zero] at hp;have k:ba (⟨#[c]⟩:Str)=1:=by unfold ba;rw [Aa (by simpa using b)]
 have a:∀ y:Str,1<=ba y:=by
  intro y;unfold ba;split
  ·lia
  ·split <;> lia
 unfold db;by_cases h0:x.length < 1
 ·have P:(decide (x.length < (⟨#[c]⟩:Str).length)||decide (ba x < ba (⟨#[c]⟩:Str)))=true:=by have:decide (x.length < (⟨#[c]⟩:Str).length)=true:=Ad h0;rw [this]; rfl
  rw [Aa P];have t:x.cps.toList.length=x.length:=by simp [cC]
  have e:x.cps.toList=[]:=List.eq_nil_of_length_eq_zero (by lia);rw [e] at hp;rw [<-hp];show [x]=[strSub x 0 x.length];rw [sub_whole]
 ·have P:(decide (x.length < (⟨#[c]⟩:Str).length)||decide (ba x < ba (⟨#[c]⟩:Str)))=false:=by have h1:decide (x.length < (⟨#[c]⟩:Str).length)=false:=Ac h0;have h2:decide (ba x < ba (⟨#[c]⟩:Str))=false:=Ac (by rw [k]; have:=a x; lia);rw [h1,h2]; rfl
  rw [Ab (by rw [P]; exact bD),qhL];cases d:ki c 0 x.cps.toList with
  | nil=>rw [Aa (show ([]:List Nat).isEmpty=iT from rfl)];rw [d] at hp;rw [<-hp];show [x]=[strSub x 0 x.length];rw [sub_whole]
  | cons i r=>rw [Ab (by simp),partsBetween_eq,<-d];exact hp
end PySem
namespace PySem
open Builtin Builtin.Str StrLaws
theorem zN (x:Str) (c:Nat):∀ (m i:Nat) (st:Array Nat×Nat),i+m=x.length+1->st.2<=i ->(forIn (List.range' i m) st (occBody x ⟨#[c]⟩ x.length 1)).run.fst.toList=st.1.toList++(ki c i (x.cps.toList.drop i)).take (1 - st.1.size)
 | 0,i,st,h,_=>by
  have a:x.cps.toList.length=x.length:=by simp [cC]
  have:x.cps.toList.drop i=[]:=bU (by lia);rw [this];simp [ki]
 | m+1,i,st,h,h2=>by
  rw [List.range'_succ,cJ];have hl:x.cps.toList.length=x.length:=by simp [cC]
  by_cases hi:i < x.length
  ·have hd:x.cps.toList.drop i=x.cps.toList[i]'(by lia)::x.cps.toList.drop (i+1):=cH (by lia);by_cases d:x.cps.toList[i]'(by lia)=c/\st.1.size=0
   ·have b:occBody x ⟨#[c]⟩ x.length 1 i st=pure (bn (st.1.push i,i+1)):=by unfold occBody;rw [Aa ⟨⟨⟨by lia,h2⟩,by show i+1<=x.length; lia⟩,by rw [Ky,hd,d.1]; simp⟩];rfl
    rw [b];have j:=zN x c m (i+1) (st.1.push i,i+1) (by lia) (ap _);rw [hd,d.1,ki,Aa rfl];refine Eq.trans j ?_;simp [d.2]
   ·have b:occBody x ⟨#[c]⟩ x.length 1 i st=pure (bn (st.1,st.2)):=by unfold occBody;rw [Ab λz=>d ⟨by have:=z.2; rw [Ky,hd] at this; simpa using this,by have:=z.1.1.1; lia⟩]
    rw [b];have j:=zN x c m (i+1) st (by lia) (by lia);refine Eq.trans j ?_;congr 1;by_cases hs:st.1.size=0;·rw [hd,ki,Ab λz=>d ⟨z,hs⟩]
    ·have:1 - st.1.size=0:=by lia
     rw [this,List.take_zero,List.take_zero]
  ·have hd:x.cps.toList.drop i=[]:=bU (by lia);have hd2:x.cps.toList.drop (i+1)=[]:=bU (by lia);have b:occBody x ⟨#[c]⟩ x.length 1 i st=pure (bn (st.1,st.2)):=by unfold occBody;rw [Ab λz=>by have:i+1<=x.length:=z.1.2; lia]
   rw [b];have j:=zN x c m (i+1) st (by lia) (by lia);rw [hd2] at j;rw [hd];exact j
theorem qfA {a b:Str} {c:Nat} (h:c∉a.cps.toList):aO (a++⟨#[c]⟩++b) ⟨#[c]⟩=(a,⟨#[c]⟩,b):=by
 have hx:(a++⟨#[c]⟩++b).cps.toList=a.cps.toList++c::b.cps.toList:=by rw [df,df];simp
 generalize a++(⟨#[c]⟩:Str)++b=x at hx;have l:occurrences x ⟨#[c]⟩ 0 x.length 1=[a.cps.toList.length]:=by rw [occ_eq];have:=zN x c (x.length+1) 0 (#[],0) (by lia) (ap _);rw [List.drop_zero,hx,xM _ _ _ h] at this;simpa using this
 have hl:x.length=a.cps.toList.length+(b.cps.toList.length+1):=by show x.cps.size=_;rw [<-bV,hx];simp
 unfold aO;rw [l];refine hZ ?_ (hZ rfl ?_);·apply iD;apply cz.mp;rw [strSub_toList,hx];simp
 ·apply iD;apply cz.mp;show (strSub x (a.cps.toList.length+1) x.length).cps.toList=_;rw [strSub_toList,hx,hl,<-iE,List.drop_left];show List.take _ b.cps.toList=_;exact dn (by lia)
end PySem
namespace Kx
open PySem PySem.Spec L2 L2.D2
theorem qfB:aa " "=⟨#[32]⟩:=by decide +kernel
theorem qhM:aa ":"=⟨#[58]⟩:=by decide +kernel
abbrev lkT (p q:Int):Str:=txI p++aa " "++txI q
variable {p q:Int}
theorem qbt (h:KB p q):CTx p/\CTx q/\(58:Nat)∉(lkT p q).cps.toList/\(lkT p q).length<=5/\(txI p).length<=2/\(txI q).length<=2/\Qg [.str (lkT p q)]=.ok (Ld p q,[.non]):=by
 obtain ⟨⟨a,b⟩,c,d⟩:=h;have hp:p=-3\/p=-2\/p=-1\/p=0\/p=1\/p=2:=by lia
 have hq:q=-3\/q=-2\/q=-1\/q=0\/q=1\/q=2:=by lia
 clear a b c d;rcases hp with rfl | rfl | rfl | rfl | rfl | rfl <;> rcases hq with rfl | rfl | rfl | rfl | rfl | rfl <;> exact ⟨by decide +kernel,by decide +kernel,by decide +kernel,by decide +kernel,by decide +kernel,by decide +kernel,by kernel_rfl⟩
theorem qjy:aa ""=aY:=by decide +kernel
noncomputable def qc3 (ws:List Str):List Nat:=ws.flatMap λw=>32::w.cps.toList
noncomputable def vg (t:Str) (ws:List Str):Str:=ws.foldl (λt w=>t++aa " "++w) t
theorem Qv:∀ (ws:List Str) (t:Str),(vg t ws).cps.toList=t.cps.toList++qc3 ws
 | [],t=>by simp [vg,qc3]
 | w::ws,t=>by show (vg (t++aa " "++w) ws).cps.toList=_;rw [Qv ws,qfB,df,df];simp [qc3]
theorem qbu:∀ (ws:List Str) (t:Str),(dS ⟨#[32]⟩ (t::ws)).cps.toList=t.cps.toList++qc3 ws
 | [],t=>by simp [dS,qc3]
 | w::ws,t=>by rw [Qu,qbu ws w];simp [qc3]
theorem qbv {x y:Str} (h:x.cps.toList=y.cps.toList):x=y:=iD (cz.mp h)
theorem Xx (t:Str) (ws:List Str):dR ⟨#[32]⟩ (t::ws)=vg t ws:=qbv (by rw [show dR ⟨#[32]⟩ (t::ws)=dS ⟨#[32]⟩ (t::ws) from StrLaws.glued_eq_join _ _,qbu,Qv])
abbrev TX (p q:Int) (ws:List Str):Str:=vg (lkT p q++aa ":") ws
theorem qjz (p q:Int) (ws:List Str):TX p q ws=lkT p q++⟨#[58]⟩++vg aY ws:=qbv (by rw [Qv,qhM,df (_++_) (vg _ _),Array.toList_append,Qv];simp [aY])
theorem qdH:∀ {ws:List Str},(∀ w∈ws,zM w)->(qc3 ws).length<=7 * ws.length
 | [],_=>by simp [qc3]
 | w::ws,h=>by
  have j:=qdH (ws:=ws) λx hx=>h x (ae _ hx);have:w.cps.toList.length<=6:=(h w (aj ..)).2.1;simp only [qc3,fh,ao,ai] at j ⊢
  lia
theorem qdI (x:Str):x.length=x.cps.toList.length:=by simp [cC]
variable {t:Str} {ws:List Str}
theorem qbw (h:∀ w∈ws,zM w):(vg t ws).length<=t.length+7 * ws.length:=by
 have:=qdH h;rw [qdI,Qv,ao,qdI]
 lia
variable {w:Str}
theorem qkz (h:zM w):(32:Nat)∉w.cps.toList:=λz=>by
 have:=(h.2.2 32 z).1
 lia
theorem qhN (h:∀ w∈ws,zM w):db (vg aY ws) (aa " ")=aY::ws:=by
 rw [qfB,<-Xx];exact ZE (by decide) (by simp) λp hp=>by
  rcases af.mp hp with rfl | hp;·simp [aY]
  ·exact qkz (h p hp)
theorem UQ (h:∀ w∈ws,zM w) (a:ws.length<=6):uu [.str (vg aY ws)]=.ok (sE ws,[.non]):=by
 have p:=qhN h;have s:qg4 (vg aY ws) (aa " "):=by
  refine ⟨by decide +kernel,?_,?_⟩;·rw [p];exact ji (by rw [ai]; lia)
  ·rw [p];intro z hz;rcases af.mp hz with rfl | hz;·exact bi _
   ·exact ji (by have:=(h z hz).2.1; lia)
 obtain ⟨c1,c2⟩:=qdw aY ws;have n:neD (.str aY) (.str (aa ""))=.ok (.bl iS):=by rw [qjy]; exact xL (Wr _ _)
 have hs:YK (.str (vg aY ws)) (.str (aa " "))=.ok (sE (aY::ws)):=by refine (Aa s).trans ?_;rw [p]
 refine qo.trans ?_;generalize sE (aY::ws)=S at *;generalize sE ws=S' at *;generalize vg aY ws=T at *;simp [Jj,qp,dM,qfM,hs,c1,n,km,QB,c2]
variable {ca:Str->Addr} {hs:List Int}
section
variable {r:Int}
theorem qjA (h:Gd ws r hs):(∀ w∈ws,zM w)/\ws.length<=6:=by
 rcases h with ⟨rfl,_,_⟩ | ⟨h,_⟩
 ·exact ⟨λw hw=>(by cases hw),by simp⟩
 ·exact ⟨h.2.2.2,h.2.1⟩
theorem qjB (hl:KB p q) (hg:Gd ws r hs) (hw:zM w):∃ v d,xI ca [wdD ca p q ws r hs,.str w]=.ok (.int v,[d,.non])/\zL ca [wdD ca p q ws r hs,.str w]=.ok (.int v,[.non,.non]) /\
  ((∃ R h,Gd (ws++[w]) R h/\d=wdD ca p q (ws++[w]) R h/\qV ca [wdD ca p q ws r hs,.str w]=.ok (.int R,[d,.non]))\/d=wdD ca p q ws r hs):=by
 have y:uX (ca "Words") "come" (iO (iO (wdD ca p q ws r hs)))=true:=ym (by decide +kernel);rcases qfy (ca:=ca) hl hg hw with ⟨R,h,a,e⟩ | ⟨c,b,e⟩
 ·refine ⟨R,_,?_,?_,.inl ⟨R,h,a,rfl,e⟩⟩;·refine qo.trans ?_;generalize wdD ca p q ws r hs=O at *;generalize wdD ca p q (ws++[w]) R h=d at *;simp [UD,WP,qp,qD,y,e]
  ·refine qo.trans ?_;generalize wdD ca p q ws r hs=O at *;generalize wdD ca p q (ws++[w]) R h=d at *;simp [Kp,WP,qp,qD,y,e]
 ·have m:c∈CS:=by rcases b with rfl | rfl | rfl <;> decide +kernel
  have hi:=qho (ca:=ca) m;refine ⟨-1,_,?_,?_,.inr rfl⟩;·refine qo.trans ?_;generalize wdD ca p q ws r hs=O at *;simp [UD,WP,qp,qD,y,e,hi,qgK]
  ·refine qo.trans ?_;generalize wdD ca p q ws r hs=O at *;simp [Kp,WP,qp,qD,y,e,hi,qgK]
theorem qfC (hl:KB p q) (hw:∀ w∈ws,zM w) (f:ws.length<=6):k4 (aa " ") (.int p)=iT/\Ja (aa " ") (aa ":") (.int p) (.int q)=.ok (.str (lkT p q++aa ":")) /\
  QE (aa " ") (.lst (D.str (lkT p q++aa ":")::ws.map D.str))=.ok (.str (TX p q ws)):=by
 obtain ⟨c1,c2,_,c,e,d,_⟩:=qbt hl;have e1:(aa " ").length=1:=by decide +kernel
 have i:(aa ":").length=1:=by decide +kernel
 have f1:qcu (.int p)=iO (txI p):=Aa c1;have f2:qcu (.int q)=iO (txI q):=Aa c2;have h0:(lkT p q++aa ":").length<=6:=by rw [lZ,i]; lia
 refine ⟨?_,?_,?_⟩;·unfold k4;simp only [f1];exact Ad (ji (by rw [lZ,e1]; lia))
 ·unfold Ja;simp only [f1,f2];exact Aa (ji (by lia))
 ·have hT:dR (aa " ") ((lkT p q++aa ":")::ws)=TX p q ws:=by rw [qfB]; exact Xx _ _
  have hs:((((lkT p q++aa ":")::ws).map (·.length)).sum+((lkT p q++aa ":")::ws).length * (aa " ").length<=16777216):=by
   have:∀ l:List Str,(∀ w∈l,zM w)->(l.map (·.length)).sum<=6 * l.length:=λl=>by
    induction l with
    | nil=>intro _; simp
    | cons x l j=>
     intro h;have a:=j λy B=>h y (ae _ B);have b:=(h x (aj ..)).2.1;simp only [aD,hJ,ai]
     lia
   have a:=this ws hw;simp only [aD,hJ,ai,e1]
   lia
  have hz:(TX p q ws).length<=sizeLine:=ji (by have:=qbw (t:=lkT p q++aa ":") hw; lia);show QE (aa " ") (.lst (((lkT p q++aa ":")::ws).map D.str))=_;unfold QE;simp only [vm];rw [Aa ⟨hs,by rw [hT]; exact hz⟩,hT]
theorem Wt (hl:KB p q) (hg:Gd ws r hs):ko ca [wdD ca p q ws r hs]=.ok (.str (TX p q ws),[wdD ca p q ws r hs])/\vy ca [wdD ca p q ws r hs]=.ok (.str (TX p q ws),[.non]):=by obtain ⟨hw,a⟩:=qjA hg;obtain ⟨k1,k2,k3⟩:=qfC hl hw a;have l:=qdE (ca:=ca) (p:=p) (q:=q) (ws:=ws) (r:=r) (hs:=hs);have y:uX (ca "Words") "words" (iO (iO (wdD ca p q ws r hs)))=true:=ym (by decide +kernel);have c:=UP (ca:=ca) (p:=p) (q:=q) (ws:=ws) (r:=r) (hs:=hs);have i:ixD (Ld p q) (.int 0)=.ok (.int p):=rfl;have i1:ixD (Ld p q) (.int 1)=.ok (.int q):=rfl;have h:XV (Wd ws)=.ok (.lst (ws.map D.str)):=rfl;have z1:1<=sizeLine:=ji (by lia);have g:vG (.lst [.str (lkT p q++aa ":")]) (.lst (ws.map D.str))=.ok (.lst (.str (lkT p q++aa ":")::ws.map D.str)):=Aa (ji (by rw [am]; simp; lia));generalize D.lst (.str (lkT p q++aa ":")::ws.map D.str)=J at *;generalize D.lst (ws.map D.str)=WL at *;generalize lkT p q++aa ":"=T at *;generalize TX p q ws=T2 at *;generalize wdD ca p q ws r hs=O at *;generalize Wd ws=W' at *;generalize Ld p q=L at *;exact ⟨qo.trans (by simp [gQ,qp,l,i,i1,dM,k1,k2,z1,qD,y,c,h,g,k3]),qo.trans (by simp [xV,qp,l,i,i1,dM,k1,k2,z1,qD,y,c,h,g,k3])⟩
end
def Cm (ca:Str->Addr):List Str->D->D->Prop
 | [],O,O'=>O'=O
 | w::ws,O,O'=>∃ R a,qV ca [O,.str w]=.ok (.int R,[a,.non])/\uX (ca "Words") "come" (iO (iO O))=iT/\Cm ca ws a O'
theorem Cm.snoc {R:Int} {d f:D} (e:qV ca [d,.str w]=.ok (.int R,[f,.non])) (hi:uX (ca "Words") "come" (iO (iO d))=iT):∀ {ws:List Str} {O:D},Cm ca ws O d->Cm ca (ws++[w]) O f
 | [],O,h=>by obtain rfl:d=O:=h;exact ⟨R,f,e,hi,rfl⟩
 | x::ws,O,⟨R',O',a,b,c⟩=>⟨R',O',a,b,Cm.snoc e hi c⟩
abbrev loB (ca:Str->Addr):qK:=(WP 5 (iO 4) (qdg ca CS) (kM (qD (ca "Words") 2 "come" [.vl] (qV ca) (qb (qc 3) qv))) qif)
theorem qbx {ca:Str->Addr} {a b c:Option D}:∀ (ws:List Str) (O d:D) (x:Option D),Cm ca ws O d->∃ n,kC (gNm 3) (loB ca) (ws.map D.str) [a,b,iO O,x,c]=.ok (.nx,[a,b,iO d,n,c])
 | [],O,d,x,h=>by obtain rfl:d=O:=h;exact ⟨x,rfl⟩
 | w::ws,O,d,x,⟨R,O1,e,hi,h⟩=>by obtain ⟨n,j⟩:=qbx (a:=a) (b:=b) (c:=c) ws O1 d (iO (.str w)) h;refine ⟨n,?_⟩;rw [aD];refine (fnx (ρ1:=[a,b,iO O,iO (.str w),c]) rfl (ρ2:=[a,b,iO O1,iO (.str w),c]) ?_).trans j;simp [WP,qD,hi,e]
variable {O:D}
section
variable {r:Int}
theorem KA:wN [.str t]=.ok (.non,[.non]):=by refine qo.trans ?_;simp [xX,qp,zp,tyN]
theorem ZF (hl:KB p q) (hw:∀ w∈ws,zM w) (m:ws.length<=6) (h:Cm ca ws (wdD ca p q [] 0 []) O):vQ ca [.str (TX p q ws)]=.ok (O,[.non]):=by
 obtain ⟨c1,c2,n,o,s,r,k⟩:=qbt hl;have hp:aO (TX p q ws) (aa ":")=(lkT p q,aa ":",vg aY ws):=by rw [qjz,qhM];exact qfA n
 have j:qfO (TX p q ws) (aa ":"):=by unfold qfO;rw [hp];have:=qbw (t:=aY) hw;have e0:aY.length=0:=rfl;exact ⟨by decide +kernel,ji (by show (lkT p q).length<=_; lia),ji (by show (aa ":").length<=_; decide +kernel),ji (by show (vg aY ws).length<=_; lia)⟩
 have e:qeU (.str (TX p q ws)) (.str (aa ":"))=.ok (.tup [.str (lkT p q),.str (aa ":"),.str (vg aY ws)]):=by refine (Aa j).trans ?_;rw [hp]
 have i:=UQ hw m;have y:=qbr (ca:=ca) hl;have ht:=KA (t:=TX p q ws);have f:eqD (.str (aa ":")) (.str (aa ""))=.ok (.bl iS):=by
  have:¬aa ":"=aa "":=by decide +kernel
  simp [eqD,eqN,eqS,this]
 obtain ⟨x,l⟩:=qbx (a:=iO (.str (TX p q ws))) (b:=iO (.tup [.str (lkT p q),.str (aa ":"),.str (vg aY ws)])) (c:=iQ) ws _ O iQ h;have g:ixD (.tup [.str (lkT p q),.str (aa ":"),.str (vg aY ws)]) (.int 0)=.ok (.str (lkT p q)):=rfl;have i1:ixD (.tup [.str (lkT p q),.str (aa ":"),.str (vg aY ws)]) (.int 1)=.ok (.str (aa ":")):=rfl;have i2:ixD (.tup [.str (lkT p q),.str (aa ":"),.str (vg aY ws)]) (.int 2)=.ok (.str (vg aY ws)):=rfl;refine qo.trans ?_;unfold Qj;rw [show qp Qi [.str (TX p q ws)]=[iO (.str (TX p q ws)),iQ,iQ,iQ,iQ] from rfl];generalize wdD ca p q [] 0 []=O0 at *;generalize Ld p q=L at *;generalize D.tup [.str (lkT p q),.str (aa ":"),.str (vg aY ws)]=P at *;generalize lkT p q=K at *;generalize vg aY ws=A at *;generalize TX p q ws=T at *;refine (qw (ρ1:=[iO (.str T),iQ,iQ,iQ,iQ]) (by simp [ht])).trans ?_;refine (qw (ρ1:=[iO (.str T),iO P,iQ,iQ,iQ]) (by simp [dM,qfM,e])).trans ?_;refine (qw (ρ1:=[iO (.str T),iO P,iQ,iQ,iQ]) (by simp [i1,f])).trans ?_;refine (qw (ρ1:=[iO (.str T),iO P,iO O0,iQ,iQ]) (by simp [Zj,g,k,y])).trans ?_;refine (qw (ρ1:=[iO (.str T),iO P,iO O,x,iQ]) (by
  have hit:jI (qr [.vl] uu (qb (d2 ixD (qc 1) (dC (.int 2))) qv)) [iO (.str T),iO P,iO O0,iQ,iQ]=.ok (ws.map D.str,[iO (.str T),iO P,iO O0,iQ,iQ]):=by have d:jw (sE ws)=.ok (ws.map D.str):=rfl;generalize sE ws=S at *;generalize ws.map D.str=M at *;simp [i2,i,d]
  rw [uV,hit,vY];exact l)).trans ?_
 simp
def qfR (ca:Str->Addr) (p q:Int) (ws:List Str) (O:D):Prop:=∃ r hs,Gd ws r hs/\O=wdD ca p q ws r hs/\Cm ca ws (wdD ca p q [] 0 []) O
theorem qby (hl:KB p q) (h:qfR ca p q ws O) (hw:zM w):∃ v c d,xI ca [O,.str w]=.ok (.int v,[d,.non])/\zL ca [O,.str w]=.ok (.int v,[.non,.non])/\qfR ca p q c d:=by
 obtain ⟨r,hs,hg,rfl,a⟩:=h;obtain ⟨v,d,e1,i,h⟩:=qjB (ca:=ca) hl hg hw;rcases h with ⟨R,hs',hg',rfl,e⟩ | rfl;·exact ⟨v,ws++[w],_,e1,i,R,hs',hg',rfl,a.snoc e (ym (by decide +kernel))⟩
 ·exact ⟨v,ws,_,e1,i,r,hs,hg,rfl,a⟩
theorem qbz (hl:KB p q) (h:qfR ca p q ws O):ko ca [O]=.ok (.str (TX p q ws),[O])/\vy ca [O]=.ok (.str (TX p q ws),[.non])/\vQ ca [.str (TX p q ws)]=.ok (O,[.non]):=by obtain ⟨r,hs,hg,rfl,d⟩:=h;obtain ⟨a,b⟩:=Wt (ca:=ca) hl hg;obtain ⟨hw,c⟩:=qjA hg;exact ⟨a,b,ZF hl hw c d⟩
abbrev aB (ca:Str->Addr):qK:=(kM (qr [.sl 3,.vl] (xI ca) (jP (qb (qc 4) qv))))
theorem qdJ (hl:KB p q) {a b c d e f g:Option D}:∀ (V:List Str) (ws:List Str) (O:D) (x:Option D),(∀ w∈V,zM w)->qfR ca p q ws O->∃ i j n,qfR ca p q i j/\kC (gNm 4) (aB ca) (V.map D.str) [a,b,c,iO O,x,d,e,f,g]=.ok (.nx,[a,b,c,iO j,n,d,e,f,g])
 | [],ws,O,x,_,h=>⟨ws,O,x,h,rfl⟩
 | w::V,ws,O,x,hV,h=>by obtain ⟨v,k,l,e1,_,h1⟩:=qby hl h (hV w (aj ..));obtain ⟨i,j,n,h',m⟩:=qdJ hl (a:=a) (b:=b) (c:=c) (d:=d) (e:=e) (f:=f) (g:=g) V k l (iO (.str w)) (λy B=>hV y (ae _ B)) h1;refine ⟨i,j,n,h',?_⟩;rw [aD];refine (fnx (ρ1:=[a,b,c,iO O,iO (.str w),d,e,f,g]) rfl (ρ2:=[a,b,c,iO l,iO (.str w),d,e,f,g]) ?_).trans m;simp [e1]
abbrev tB:qK:=(jJ 5 (d2 vG (d2 vG (qc 5) (dC (.str " "))) (qc 4)))
theorem qdK {a b c d e f g:Option D}:∀ (ws:List Str) (t:Str) (x:Option D),(∀ w∈ws,zM w)->t.length+7 * ws.length<=1000->∃ n,kC (gNm 4) tB (ws.map D.str) [a,b,c,d,x,iO (.str t),e,f,g]=.ok (.nx,[a,b,c,d,n,iO (.str (vg t ws)),e,f,g])
 | [],t,x,_,_=>⟨x,rfl⟩
 | w::ws,t,x,hw,hz=>by
  have h1:=(hw w (aj ..)).2.1;have e1:(aa " ").length=1:=by decide +kernel
  rw [ai] at hz;have h:(t++aa " ").length=t.length+1:=by rw [lZ,e1]
  have i:(t++aa " "++w).length=t.length+1+w.length:=by rw [lZ,h]
  obtain ⟨n,j⟩:=qdK (a:=a) (b:=b) (c:=c) (d:=d) (e:=e) (f:=f) (g:=g) ws (t++aa " "++w) (iO (.str w)) (λy B=>hw y (ae _ B)) (by rw [i]; lia);refine ⟨n,?_⟩;rw [aD];have m:vG (.str t) (.str (aa " "))=.ok (.str (t++aa " ")):=Aa (ji (by rw [e1]; lia));have k:vG (.str (t++aa " ")) (.str w)=.ok (.str (t++aa " "++w)):=Aa (ji (by rw [h]; lia));refine (fnx (ρ1:=[a,b,c,d,iO (.str w),iO (.str t),e,f,g]) rfl (ρ2:=[a,b,c,d,iO (.str w),iO (.str (t++aa " "++w)),e,f,g]) ?_).trans j;generalize t++aa " "++w=T2 at *;generalize t++aa " "=T1 at *;simp [m,k]
end
abbrev GF:=jy
noncomputable def FT (ca:Str->Addr) (lo lt ww wr wn lw lc lcT ltT:GF):qK:=(qG (jJ 6 (qr [.vl] lo (qb (qc 5) qv)))
  (qG (sIf (dOr (qO (d2 neD (qr [.sl 3] lt (jP qv)) (qc 5))) (dOr (qO (d2 neD (qD (ca "Words") 6 "words" [] ww qv) (qD (ca "Words") 3 "words" [] ww qv))) (qO (d2 neD (qD (ca "Words") 6 "room" [] wr qv) (qD (ca "Words") 3 "room" [] wr qv))))) (jq (dC (.bl iS))) jb)
  (qG (sIf (qO (d2 neD (qD (ca "Words") 6 "numbers" [] wn qv) (qD (ca "Words") 3 "numbers" [] wn qv))) (jq (dC (.bl iS))) jb)
  (qG (jJ 7 (qr [.vl,.sl 1,.vl,.vl] lw (qb (qc 0) (jP (qb (Vi (qb (dC (.str "a")) (qb (dC (.str "b")) (qb (dC (.str "c")) (qb (dC (.str "q")) qv))))) (qb (dC (.int 6)) qv))))))
  (qG (jJ 8 (qD (ca "Words") 3 "words" [] ww qv))
  (qG (sIf (dOr (qO (d2 neD (qr [.sl 6,.vl] lc (jP (qb (qc 7) qv))) (qr [.fr,.vl] lcT (qb (qr [.vl] lo (qb (qc 5) qv)) (qb (qc 7) qv))))) (qO (d2 neD (qD (ca "Words") 3 "words" [] ww qv) (qc 8)))) (jq (dC (.bl iS))) jb)
  (jq (d2 eqD (qr [.fr] ltT (qb (qr [.vl] lo (qb (qr [.sl 6] lt (jP qv)) qv)) qv)) (qr [.sl 6] lt (jP qv))))))))))
section
variable {lo lt ww wr wn lw lc lcT ltT:GF}
theorem qfD {S L d W R M:D} {x:Option D} {t t':List D} {T p m:Str} {v:Int} (h1:lo [.str T]=.ok (O,[.non])) (h2:lt [O]=.ok (.str T,[O])) (iw:uX (ca "Words") "words" (iO (iO O))=iT) (ir:uX (ca "Words") "room" (iO (iO O))=iT) (im:uX (ca "Words") "numbers" (iO (iO O))=iT)
  (gw:ww [O]=.ok (W,[O])) (gr:wr [O]=.ok (R,[O])) (gm:wn [O]=.ok (M,[O])) (ew:neD W W=.ok (.bl iS)) (er:neD R R=.ok (.bl iS)) (em:neD M M=.ok (.bl iS))
  (hl:lw [S,.lst t,.lst [.str "a",.str "b",.str "c",.str "q"],.int 6]=.ok (.str m,[.non,.lst t',.non,.non])) (h:lc [O,.str m]=.ok (.int v,[d,.non])) (hT:lcT [O,.str m]=.ok (.int v,[.non,.non]))
  (h3:lt [d]=.ok (.str p,[d])) (a:lo [.str p]=.ok (d,[.non])) (f:ltT [d]=.ok (.str p,[.non])) :
  YI [.val] (FT ca lo lt ww wr wn lw lc lcT ltT [iO S,iO (.lst t),iO L,iO O,x,iO (.str T),iQ,iQ,iQ])=.ok (.bl iT,[.non]):=by
 have z:4<=sizeLine:=ji (by lia);have e:neD (.str T) (.str T)=.ok (.bl iS):=xL (Wr _ _);have ev:neD (.int v) (.int v)=.ok (.bl iS):=xL (Kv _ _);have i:eqD (.str p) (.str p)=.ok (.bl iT):=qc1 (Wr _ _);unfold FT;refine (qw (ρ1:=[iO S,iO (.lst t),iO L,iO O,x,iO (.str T),iO O,iQ,iQ]) (by simp [h1])).trans ?_;refine (qw (ρ1:=[iO S,iO (.lst t),iO L,iO O,x,iO (.str T),iO O,iQ,iQ]) (by simp [h2,e,qD,iw,ir,gw,gr,ew,er])).trans ?_;refine (qw (ρ1:=[iO S,iO (.lst t),iO L,iO O,x,iO (.str T),iO O,iQ,iQ]) (by simp [qD,im,gm,em])).trans ?_;refine (qw (ρ1:=[iO S,iO (.lst t'),iO L,iO O,x,iO (.str T),iO O,iO (.str m),iQ]) (by simp [z,hl])).trans ?_;refine (qw (ρ1:=[iO S,iO (.lst t'),iO L,iO O,x,iO (.str T),iO O,iO (.str m),iO W]) (by simp [qD,iw,gw])).trans ?_;refine (qw (ρ1:=[iO S,iO (.lst t'),iO L,iO O,x,iO (.str T),iO d,iO (.str m),iO W]) (by simp [h,h1,hT,ev,qD,iw,gw,ew])).trans ?_;simp [h3,a,f,i]
theorem qhO {ca:Str->Addr} (P:qjm ca) (n:List Int):qcN ca [scr n]=.ok (.bl iT,[.non]):=by
 refine qo.trans ?_;obtain ⟨p,q,k,hl,y,g1⟩:=qe8 n [] (by simp);obtain ⟨V,h,Q,_,K,Z⟩:=qcP n k (by simp at y; lia);rw [be] at y;have hi:=qbr (ca:=ca) hl;have F:qfR ca p q [] (wdD ca p q [] 0 []):=⟨0,[],.inl ⟨rfl,rfl,rfl⟩,rfl,rfl⟩
 obtain ⟨ws,O,j,S,I⟩:=qdJ hl (a:=iO (scr n)) (b:=iO (.lst h)) (c:=iO (Ld p q)) (d:=iQ) (e:=iQ) (f:=iQ) (g:=iQ) V [] (wdD ca p q [] 0 []) iQ Q.2.2.2 F;obtain ⟨s1,s2,s3⟩:=qbz hl S;obtain ⟨r,hs,hg,s,_⟩:=id S;obtain ⟨hw,h6⟩:=qjA hg;obtain ⟨c1,c2,_,l5,l1,l2,_⟩:=qbt hl;have E:(aa " ").length=1:=by decide +kernel
 have C:(aa ":").length=1:=by decide +kernel
 obtain ⟨z,H⟩:=qdK (a:=iO (scr n)) (b:=iO (.lst h)) (c:=iO (Ld p q)) (d:=iO O) (e:=iQ) (f:=iQ) (g:=iQ) ws (lkT p q++aa ":") j hw (by rw [lZ,C]; lia);obtain ⟨m,t3,N,_,X⟩:=qa8 n h (ls:=["a", "b", "c", "q"]) ⟨by simp,λx hx=>by
  have hx:x=aa "a"\/x=aa "b"\/x=aa "c"\/x=aa "q":=by simpa using hx
  rcases hx with rfl | rfl | rfl | rfl;·exact ⟨97,⟨by lia,by lia⟩,by decide +kernel⟩
  ·exact ⟨98,⟨by lia,by lia⟩,by decide +kernel⟩
  ·exact ⟨99,⟨by lia,by lia⟩,by decide +kernel⟩
  ·exact ⟨113,⟨by lia,by lia⟩,by decide +kernel⟩⟩ (by lia)
 obtain ⟨v,G,O',e1,e2,o⟩:=qby hl S N;obtain ⟨k1,k2,k3⟩:=qbz hl o;obtain ⟨W,R,M,t⟩:=GdO.tells (ca:=ca) (p:=p) (q:=q) (O:=O) ⟨ws,r,hs,hg,s⟩;have gw:qF ca [O]=.ok (Wd ws,[O]):=by rw [s]; exact UP
 have l:=qfD (L:=Ld p q) (x:=z) s3 s1 t.iw t.ir t.im t.gw t.gr t.gm (xL t.ew) (xL t.er) (xL t.em) X e1 e2 k1 k3 k2;have iw:=t.iw;clear t s;generalize wdD ca p q [] 0 []=O0 at *;have a0:ixD (Ld p q) (.int 0)=.ok (.int p):=rfl;have a1:ixD (Ld p q) (.int 1)=.ok (.int q):=rfl;have w:qfL (.int p)=.ok (.str (txI p)):=Aa c1;have u:qfL (.int q)=.ok (.str (txI q)):=Aa c2;have Y:vG (.str (txI p)) (.str (aa " "))=.ok (.str (txI p++aa " ")):=Aa (ji (by rw [E]; lia));have U:vG (.str (txI p++aa " ")) (.str (txI q))=.ok (.str (lkT p q)):=Aa (ji (by rw [lZ,E]; lia));have J:vG (.str (lkT p q)) (.str (aa ":"))=.ok (.str (lkT p q++aa ":")):=Aa (ji (by rw [C]; lia));unfold qe5;rw [show qp qe4 [scr n]=[iO (scr n),iQ,iQ,iQ,iQ,iQ,iQ,iQ,iQ] from rfl];refine (qw (ρ1:=[iO (scr n),iO (.lst []),iQ,iQ,iQ,iQ,iQ,iQ,iQ]) (by simp)).trans ?_;refine (qw (ρ1:=[iO (scr n),iO (.lst k),iO (Ld p q),iQ,iQ,iQ,iQ,iQ,iQ]) (by simp [g1])).trans ?_;refine (qw (ρ1:=[iO (scr n),iO (.lst k),iO (Ld p q),iO O0,iQ,iQ,iQ,iQ,iQ]) (by generalize Ld p q=L at *;simp [Zj,hi])).trans ?_;refine (qw (ρ1:=[iO (scr n),iO (.lst h),iO (Ld p q),iO O,j,iQ,iQ,iQ,iQ]) (by
  have hit:jI (qr [.vl,.sl 1,.vl] zK (qb (qc 0) (jP (qb (dC (.int 6)) qv)))) [iO (scr n),iO (.lst k),iO (Ld p q),iO O0,iQ,iQ,iQ,iQ,iQ]=.ok (V.map D.str,[iO (scr n),iO (.lst h),iO (Ld p q),iO O0,iQ,iQ,iQ,iQ,iQ]):=by have i:jw (.tup (V.map D.str))=.ok (V.map D.str):=rfl;generalize Ld p q=L at *;generalize D.tup (V.map D.str)=A at *;generalize V.map D.str=B at *;simp [Z,i]
  rw [uV,hit,vY];exact I)).trans ?_
 refine (qw (ρ1:=[iO (scr n),iO (.lst h),iO (Ld p q),iO O,j,iO (.str (lkT p q++aa ":")),iQ,iQ,iQ]) (by generalize lkT p q++aa ":"=T at *;generalize lkT p q=T1 at *;generalize txI p++aa " "=T2 at *;generalize Ld p q=L at *;simp [a0,a1,w,u,Y,U,J])).trans ?_;refine (qw (ρ1:=[iO (scr n),iO (.lst h),iO (Ld p q),iO O,z,iO (.str (TX p q ws)),iQ,iQ,iQ]) (by
  have hit:jI (qD (ca "Words") 3 "words" [] (qF ca) qv) [iO (scr n),iO (.lst h),iO (Ld p q),iO O,j,iO (.str (lkT p q++aa ":")),iQ,iQ,iQ]=.ok (ws.map D.str,[iO (scr n),iO (.lst h),iO (Ld p q),iO O,j,iO (.str (lkT p q++aa ":")),iQ,iQ,iQ]):=by have i:jw (Wd ws)=.ok (ws.map D.str):=rfl;generalize lkT p q++aa ":"=T at *;generalize Ld p q=L at *;generalize Wd ws=A at *;generalize ws.map D.str=B at *;simp [qD,iw,gw,i]
  rw [uV,hit,vY];exact H)).trans ?_
 exact l
end
end Kx
namespace Kx
open PySem PySem.Spec PyProof.Rows L2 L2.D2
variable {us:List iR} {P:List iR->Prop}
theorem qj0 (hl:us.length=0) (h:P []):P us:=eJ.mp hl ▸ h
theorem qin {n:Nat} (hl:us.length=n+1):∃ a l,us=a::l/\l.length=n:=by
 cases us with
 | nil=>cases hl
 | cons a l=>exact ⟨a,l,rfl,Nat.succ.inj hl⟩
theorem qhP (hl:us.length=1) (h:∀ a,P [a]):P us:=by obtain ⟨a,l,rfl,e⟩:=qin hl;exact qj0 (P:=λl=>P (a::l)) e (h a)
theorem qhQ (hl:us.length=2) (h:∀ a b,P [a,b]):P us:=by obtain ⟨a,l,rfl,e⟩:=qin hl;exact qhP (P:=λl=>P (a::l)) e (h a)
theorem qj1 (hl:us.length=3) (h:∀ a b c,P [a,b,c]):P us:=by obtain ⟨a,l,rfl,e⟩:=qin hl;exact qhQ (P:=λl=>P (a::l)) e (h a)
theorem qkA (hl:us.length=4) (h:∀ a b c d,P [a,b,c,d]):P us:=by obtain ⟨a,l,rfl,e⟩:=qin hl;exact qj1 (P:=λl=>P (a::l)) e (h a)
variable {K:Frag} {h:Heap} {mg:Str->Option iR}
theorem qfE (X:K.In h) (G:h.Ns iY mg) {x:Str} {st:Stmt} {ps:List Str} {f:Addr} {oc:iR} {od an:Option Addr} {osl:Array (Option iR)} {kV doc pm cdv ct:iR}
  (a:nsIn K iY x=iO (iO (.ref f))) (l:K.lookup f=iO ⟨oc,od,.func (cg x x (vV st) (ka st) (qx st) .none kV doc pm an cdv ct),osl⟩) (c:mV K cdv x=iT) (k:l8 K (.ref f)=iT)
  (d:∀ (kV doc pm:iR) (an:Option Addr) (cdv ct:iR) (us:List iR),us.length=ps.length->lG (cg x x (vV st) (ka st) (qx st) .none kV doc pm an cdv ct) ⟨us,[]⟩=pure (ps.zip us)):kW K mg x st ps:=
 ⟨f,_,kZ l c k,mH X G a,(kZ l c k).binds d⟩
variable {x:Str}
theorem qbA {l:List Str} {f:Str->Addr} (nd:(l.map f).Nodup) {y:Str} (hx:x∈l) (B:y∈l) (e:f x=f y):x=y:=by obtain ⟨i,hi,rfl⟩:=dQ.mp hx;obtain ⟨j,D,rfl⟩:=dQ.mp B;have q:=(h7 (h₀:=by simpa using hi) (h₁:=by simpa using D) nd).mp (show (l.map f)[i]'(by simpa using hi)=(l.map f)[j]'(by simpa using D) by simpa using e);subst q;rfl
noncomputable def caT (T:List (Str×Addr)) (x:Str):Addr:=(T.lookup x).getD 0
noncomputable def qc4 (K:Frag) (Cs:List Addr) (W:Addr):Bool:=decide Cs.Nodup&&Cs.all λc=>xcB K c&&decide (cZ K (.ref c) (.ref W)=iO iT)&&decide (cD K (.ref c) (.type "ValueError")=iO iT)&&d7 K c bmV "ValueError.__new__"&&Cs.all λd=>decide (cD K (.ref c) (.ref d)=iO (decide (c=d)))
theorem qc5 {Cs:List Addr} {W:Addr} (h:qc4 K Cs W=iT):Cs.Nodup/\∀ c∈Cs,xcB K c=iT/\cZ K (.ref c) (.ref W)=iO iT/\cD K (.ref c) (.type "ValueError")=iO iT/\d7 K c bmV "ValueError.__new__"=iT/\∀ d∈Cs,cD K (.ref c) (.ref d)=iO (decide (c=d)):=by unfold qc4 at h;rw [aN,aJ] at h;refine ⟨Ae h.1,λc a=>?_⟩;have q:=h.2 c a;simp only [aN,decide_eq_true_eq,aJ] at q;exact ⟨q.1.1.1.1,q.1.1.1.2,q.1.1.2,q.1.2,q.2⟩
noncomputable def ZS:List Str:=["all", "bool", "dict", "enumerate", "int", "isinstance", "len", "list", "max", "min", "range", "set", "sorted", "str", "sum", "tuple", "zip"]
noncomputable def zsB (K:Frag):Bool:=ZS.all λx=>decide (nsIn K iY x=iO iQ)
theorem ue (h:zsB K=iT) (x:Str) (hx:x∈ZS:=by decide +kernel):nsIn K iY x=iO none:=Ae (aJ.mp h x hx)
theorem qhR {c:Str} (h:c∈CS):c = "NoWords"\/c = "NoLook"\/c = "NoRoom"\/c = "NoWord"\/c = "NoWorths"\/c = "Never"\/c = "Full"\/c = "Known"\/c = "NoText":=by simpa [CS] using h
theorem qjC (X:K.In h) (G:h.Ns iY mg) {CW C q p o m l k j i g:Addr}  {E t a M S:Tok}
    (R:nsIn K iY "WordError"=iO (iO (.ref CW)))
    (a0:nsIn K iY "NoWords"=iO (iO (.ref q)))
    (a1:nsIn K iY "NoLook"=iO (iO (.ref p)))
    (a2:nsIn K iY "NoRoom"=iO (iO (.ref o)))
    (a3:nsIn K iY "NoWord"=iO (iO (.ref m)))
    (F:nsIn K iY "NoWorths"=iO (iO (.ref l)))
    (Z:nsIn K iY "Never"=iO (iO (.ref k)))
    (Y:nsIn K iY "Full"=iO (iO (.ref j)))
    (V:nsIn K iY "Known"=iO (iO (.ref i)))
    (U:nsIn K iY "NoText"=iO (iO (.ref g)))
    (z:zsB K=iT)
    (c_LEAST_PLACE:nsIn K iY "LEAST_PLACE"=iO (iO (.int (-3) E)))
    (c_MOST_LETTERS:nsIn K iY "MOST_LETTERS"=iO (iO (.int 6 t)))
    (c_MOST_PLACE:nsIn K iY "MOST_PLACE"=iO (iO (.int 2 a)))
    (c_MOST_ROOM:nsIn K iY "MOST_ROOM"=iO (iO (.int 99 M)))
    (c_MOST_WORDS:nsIn K iY "MOST_WORDS"=iO (iO (.int 6 S)))
    (ex:qc4 K [q,p,o,m,l,k,j,i,g] CW=iT)
    (aB:nsIn K iY "Words"=iO (iO (.ref C)))
    (Q:cY K C aY=iT)
    (P:dG K C=iT)
    (O:eX K C=iT)
    (N:aP K (.ref C) "__setattr__"=iO (iO (.builtin "object.__setattr__")))
    (J:aP K (.ref C) "look"=iO iQ)
    (n1:aP K (.ref C) "came"=iO iQ)
    (n2:aP K (.ref C) "width"=iO iQ)
    (I:aP K (.ref C) "held"=iO iQ)
     :
    Zt K mg (λx=>.ref (caT [("WordError",CW),("NoWords",q),("NoLook",p),("NoRoom",o),("NoWord",m),("NoWorths",l),("Never",k),("Full",j),("Known",i),("NoText",g),("Words",C)] x)) (caT [("WordError",CW),("NoWords",q),("NoLook",p),("NoRoom",o),("NoWord",m),("NoWorths",l),("Never",k),("Full",j),("Known",i),("NoText",g),("Words",C)])/\qjm (caT [("WordError",CW),("NoWords",q),("NoLook",p),("NoRoom",o),("NoWord",m),("NoWorths",l),("Never",k),("Full",j),("Known",i),("NoText",g),("Words",C)])/\caT [("WordError",CW),("NoWords",q),("NoLook",p),("NoRoom",o),("NoWord",m),("NoWorths",l),("Never",k),("Full",j),("Known",i),("NoText",g),("Words",C)] "Words"=C:=by
  obtain ⟨nd,al⟩:=qc5 ex;generalize hT:([("WordError",CW),("NoWords",q),("NoLook",p),("NoRoom",o),("NoWord",m),("NoWorths",l),("Never",k),("Full",j),("Known",i),("NoText",g),("Words",C)]:List (Str×Addr))=T;have W:caT T "WordError"=CW:=by subst hT; kernel_rfl
  have eB:caT T "Words"=C:=by subst hT; kernel_rfl
  have e0:caT T "NoWords"=q:=by subst hT; kernel_rfl
  have e1:caT T "NoLook"=p:=by subst hT; kernel_rfl
  have H:caT T "NoRoom"=o:=by subst hT; kernel_rfl
  have D:caT T "NoWord"=m:=by subst hT; kernel_rfl
  have B:caT T "NoWorths"=l:=by subst hT; kernel_rfl
  have A:caT T "Never"=k:=by subst hT; kernel_rfl
  have w:caT T "Full"=j:=by subst hT; kernel_rfl
  have v:caT T "Known"=i:=by subst hT; kernel_rfl
  have u:caT T "NoText"=g:=by subst hT; kernel_rfl
  have s:CS.map (caT T)=[q,p,o,m,l,k,j,i,g]:=by unfold CS;simp only [aD,cx,e0,e1,H,D,B,A,w,v,u]
  have n:∀ c∈CS,caT T c∈[q,p,o,m,l,k,j,i,g]:=λc b=>s ▸ aC.mpr ⟨c,b,rfl⟩;refine ⟨⟨⟨λc b=>rfl,λc b=>?_,λc b=>(al _ (n c b)).1,λc b d hd=>(al _ (n c b)).2.2.2.2 _ (n d hd),λc b=>(al _ (n c b)).2.2.1⟩,λc b=>?_,λc b=>(al _ (n c b)).2.2.2.1,λx hx=>absurd hx (by simp [FS]),?_,lf X G (ue z "all"),lf X G (ue z "bool"),lf X G (ue z "dict"),lf X G (ue z "enumerate"),lf X G (ue z "int"),lf X G (ue z "isinstance"),lf X G (ue z "len"),lf X G (ue z "list"),lf X G (ue z "max"),lf X G (ue z "min"),lf X G (ue z "range"),lf X G (ue z "set"),lf X G (ue z "sorted"),lf X G (ue z "str"),lf X G (ue z "sum"),lf X G (ue z "tuple"),lf X G (ue z "zip"),⟨_,mH X G c_LEAST_PLACE⟩,⟨_,mH X G c_MOST_LETTERS⟩,⟨_,mH X G c_MOST_PLACE⟩,⟨_,mH X G c_MOST_ROOM⟩,⟨_,mH X G c_MOST_WORDS⟩,?mB,?bC,?bN⟩,?cO,eB⟩
  case mB=>rw [eB]; exact mH X G aB
  case bC=>rw [eB]; exact ⟨Q,P,O,N⟩
  case bN=>
    rw [eB];intro f r;have r:f = "look"\/f = "came"\/f = "width"\/f = "held":=by simpa using r
    rcases r with rfl | rfl | rfl | rfl;· exact J
    · exact n1
    · exact n2
    · exact I
  · show cZ K (.ref (caT T c)) (.ref (caT T "WordError"))=iO iT;rw [W];exact (al _ (n c b)).2.1
  · rcases qhR b with rfl | rfl | rfl | rfl | rfl | rfl | rfl | rfl | rfl;· rw [e0]; exact mH X G a0
    · rw [e1]; exact mH X G a1
    · rw [H]; exact mH X G a2
    · rw [D]; exact mH X G a3
    · rw [B]; exact mH X G F
    · rw [A]; exact mH X G Z
    · rw [w]; exact mH X G Y
    · rw [v]; exact mH X G V
    · rw [u]; exact mH X G U
  · show mg "WordError"=iO (.ref (caT T "WordError"));rw [W];exact mH X G R
  case cO=>
    intro x hx y L e;rw [<-s] at nd;exact qbA nd hx L e
structure Tx (K:Frag) (mg:Str->Option iR) (ca:Str->Addr):Prop where
 x_is_between:kW K mg "is_between" wH ["thing", "least", "most"]
 x_is_look:kW K mg "is_look" gO ["thing"]
 x_check_look:kW K mg "check_look" wJ ["thing"]
 x_Words___init__:qeM K (ca "Words") "Words.__init__" jf kJ
 x_Words_words:gF K (ca "Words") "words" "Words.words" jF ["self"]
 x_Words_room:gF K (ca "Words") "room" "Words.room" jV ["self"]
 x_Words_numbers:gF K (ca "Words") "numbers" "Words.numbers" jm ["self"]
 x_list_text:kW K mg "list_text" uY ["some"]
 x_check_text:kW K mg "check_text" wM ["thing"]
 x_is_letter:kW K mg "is_letter" uZ ["thing"]
 x_is_word:kW K mg "is_word" gR ["thing"]
 x_is_words:kW K mg "is_words" xx ["thing"]
 x_check_words:kW K mg "check_words" we ["thing"]
 x_letter_at:kW K mg "letter_at" ya ["word", "place"]
 x_pairs:kW K mg "pairs" Uk ["words", "look"]
 x_check_room:kW K mg "check_room" wQ ["thing"]
 x_is_worth:kW K mg "is_worth" xz ["thing", "room"]
 x_is_worths:kW K mg "is_worths" yc ["thing", "room"]
 x_check_worths:kW K mg "check_worths" vH ["thing", "room"]
 x_letters_of:kW K mg "letters_of" wT ["seen"]
 x_within:kW K mg "within" Ka ["total", "room"]
 x_numbered:kW K mg "numbered" xA ["words", "look", "room", "worths"]
 x_are_alike:kW K mg "are_alike" ye ["one", "two"]
 x_clash_of:kW K mg "clash_of" xC ["seen"]
 x_is_loose:kW K mg "is_loose" xD ["pair", "seen", "fixed"]
 x_bound_pairs:kW K mg "bound_pairs" wj ["seen", "fixed"]
 x_unshared:kW K mg "unshared" xE ["one", "two"]
 x_contrasts_of:kW K mg "contrasts_of" vJ ["seen"]
 x_may_differ:kW K mg "may_differ" wV ["contrast", "room", "fixed"]
 x_with_worth:kW K mg "with_worth" wW ["fixed", "letter", "worth"]
 x_can_be_filled:kW K mg "can_be_filled" jC jE
 x_can_differ:kW K mg "can_differ" wY ["seen", "room", "fixed"]
 x_least_worths:kW K mg "least_worths" vL ["seen", "room"]
 x_room_from:kW K mg "room_from" yg ["seen", "room"]
 x_check_word:kW K mg "check_word" ua ["thing"]
 x_Words_check_new:gF K (ca "Words") "check_new" "Words.check_new" qW jG
 x_Words_come:gF K (ca "Words") "come" "Words.come" jX vD
 x_number_in:kW K mg "number_in" yi ["text", "least", "most"]
 x_look_in:kW K mg "look_in" Qf ["text"]
 x_words_in:kW K mg "words_in" xF ["text"]
 x_list_of:kW K mg "list_of" yX ["text"]
 x_Lcell_at:kW K mg "_law_cell_at" xG ["_law_script", "_law_k"]
 x_Lmixed:kW K mg "_law_mixed" Kk ["_law_script", "_law_k", "_law_many"]
 x_Ldraw:kW K mg "_law_draw" Ux ["_law_script", "_law_town", "_law_many"]
 x_Lpick:kW K mg "_law_pick" Uy ["_law_script", "_law_town", "_law_some"]
 x_Lword:kW K mg "_law_word" Uz ["_law_script", "_law_town", "_law_letters", "_law_most"]
 x_Lwords:kW K mg "_law_words" Ko ["_law_script", "_law_town", "_law_most"]
 x_Llook:kW K mg "_law_look" UA ["_law_script", "_law_town"]
 x_Lcome:kW K mg "_law_come" UC ["_law_some", "_law_word_here"]
variable {ca:Str->Addr}
theorem qhS {e0:Ev} {f:Addr} {fd:lV} (Z:ZtE e0 ca) (T:Tx e0.K e0.mg ca) (F:Fun e0.K "law" "law" qa4 f fd):FnOk e0.P e0.w e0.K e0.mg e0.base (CXk e0.P e0.w) 21 f fd ["_law_script"] (spD e0.K e0.cv [.val] .sh (qcN ca)):=by have n:=JQ Z T.x_is_between ;have o_is_look:=Zo Z T.x_is_look n;have k:=JR Z T.x_check_look o_is_look;have a:=xu Z T.x_Words___init__ k;have o:=QG Z T.x_Words_words ;have A:=JT Z T.x_Words_room ;have s:=zu Z T.x_Words_numbers ;have v:=JU Z T.x_list_text o;have D:=VR Z T.x_list_text o;have y:=JV Z T.x_check_text ;have d:=VT Z T.x_is_letter ;have m:=Zp Z T.x_is_word d;have Q:=Ui Z T.x_is_words m;have p:=QH Z T.x_check_words Q;have E:=VV Z T.x_letter_at ;have M:=qcC Z T.x_pairs p k E;have z:=JY Z T.x_check_room n;have O:=Ul Z T.x_is_worth n d;have G:=VX Z T.x_is_worths O;have l:=gW Z T.x_check_worths G;have b:=JZ Z T.x_letters_of ;have o_within:=qaU Z T.x_within ;have N:=Uo Z T.x_numbered z l M b o_within;have H:=Wa Z T.x_are_alike ;have S:=Uq Z T.x_clash_of H;have L:=QJ Z T.x_with_worth ;have R:=Ur Z T.x_is_loose ;have q:=QK Z T.x_bound_pairs R;have J:=Us Z T.x_unshared ;have j:=Qb Z T.x_contrasts_of J;have u:=Ke Z T.x_may_differ ;have t:=Kf Z T.x_with_worth ;have h:=zy Z T.x_can_be_filled u t;have r:=Kg Z T.x_can_differ b q j h;have i:=Qc Z T.x_least_worths b L r;have B:=Wc Z T.x_room_from r;have x:=Kh Z T.x_check_word m;have c:=yW Z T.x_Words_check_new x;have e:=Kj Z T.x_Words_come M N S i B c;have C:=Wf Z T.x_number_in ;have X:=Zw Z T.x_look_in C;have I:=Uv Z T.x_words_in ;have Y:=Zy Z T.x_list_of y a e X I;have W:=Uw Z T.x_Lcell_at ;have o_Lmixed:=qaX Z T.x_Lmixed W;have g:=qcF Z T.x_Ldraw o_Lmixed;have V:=qcG Z T.x_Lpick g;have U:=qcH Z T.x_Lword g V;have o_Lwords:=qa1 Z T.x_Lwords g V U;have o_Llook:=qcJ Z T.x_Llook g;have o_Lcome:=qcK Z T.x_Lcome e;have o_LcomeT:=qa3 Z T.x_Lcome e;exact qhh Z F a A s o v D Y U o_Lwords o_Llook o_Lcome o_LcomeT
def qc6 (K:Frag):Sp:=λvs H Q _=>∃ (a:Addr) (ns:List Int),vs=[.ref a]/\SqL K H a (ns.map V.int)/\∀ H',Q (.bl iT) H'
theorem Xy {F:Hp}:∀ ns:List Int,IsL K F (ns.map V.int) (ns.map D.int)
 | []=>.nil
 | n::ns=>.cons (.int n) (Xy ns)
theorem qjD {cv:Str->iR} (h:qjm ca) (vs:List V) (H:Hp) (Q:VK) (E:XK) (q:qc6 K vs H Q E):spD K cv [.val] .sh (qcN ca) vs H Q E:=by obtain ⟨a,ns,rfl,hs,hq⟩:=q;refine ⟨H,[scr ns],Same.refl _,⟨.lst hs (Xy ns),trivial⟩,c7,?_⟩;rw [qhO h ns];intro v F' H' m k z b;have b:Is K F' v (.bl iT):=b;cases b;exact hq H'
abbrev NsX (K:Frag) (x:Str) (f:Addr):Prop:=nsIn K iY x=iO (iO (.ref f))
abbrev CdX (K:Frag) (v:iR) (x:Str):Prop:=mV K v x=iT
abbrev KpX (K:Frag) (f:Addr):Prop:=l8 K (.ref f)=iT
abbrev LkX (K:Frag) (x:Str) (st:Stmt) (f:Addr) (oc:iR) (od an:Option Addr) (sl:Array (Option iR)) (kV d pm cd ct:iR):Prop:=K.lookup f=iO ⟨oc,od,.func (cg x x (vV st) (ka st) (qx st) .none kV d pm an cd ct),sl⟩
def Dx (K:Frag) (x:Str) (st:Stmt):Prop:=∃ (f:Addr) (oc:iR) (od an:Option Addr) (sl:Array (Option iR)) (kV d pm cd ct:iR),NsX K x f/\LkX K x st f oc od an sl kV d pm cd ct/\CdX K cd x/\KpX K f
theorem jk (X:K.In h) (G:h.Ns iY mg) {st:Stmt} {ps:List Str} (q:Dx K x st) (d:∀ (kV doc pm:iR) (an:Option Addr) (cdv ct:iR) (us:List iR),us.length=ps.length->lG (cg x x (vV st) (ka st) (qx st) .none kV doc pm an cdv ct) ⟨us,[]⟩=pure (ps.zip us):=by
  intro _ _ _ _ _ _ us hl;first | refine qj0 (P:=λus=>lG _ ⟨us,[]⟩=pure (dU _ us)) hl ?_ | refine qhP (P:=λus=>lG _ ⟨us,[]⟩=pure (dU _ us)) hl ?_ | refine qhQ (P:=λus=>lG _ ⟨us,[]⟩=pure (dU _ us)) hl ?_ | refine qj1 (P:=λus=>lG _ ⟨us,[]⟩=pure (dU _ us)) hl ?_ | refine qkA (P:=λus=>lG _ ⟨us,[]⟩=pure (dU _ us)) hl ?_ | refine len5 (P:=λus=>lG _ ⟨us,[]⟩=pure (dU _ us)) hl ?_
  all_goals intros; rfl):kW K mg x st ps:=by
 obtain ⟨f,oc,od,an,sl,kV,b,pm,cd,ct,a,l,c,k⟩:=q;exact qfE X G a l c k d
abbrev LkM (K:Frag) (x q:Str) (st:Stmt) (f:Addr) (oc:iR) (od an:Option Addr) (sl:Array (Option iR)) (kV d pm cd ct:iR):Prop:=K.lookup f=iO ⟨oc,od,.func (cg x q (vV st) (ka st) (qx st) .none kV d pm an cd ct),sl⟩
theorem qhT {l:ij} {w:i8} {fa:Addr} (X:K.In h) (G:h.Ns iY mg) (hfa:mg "law"=iO (.ref fa)) {CW C C0 C1 C2 C3 C4 C5 C6 C7 C8:Addr} {a t b M S:Tok} {R f4 O N d f:Addr} {v3 g3 h3 i3 j3 m3 v4 g4 h4 i4 j4 m4 v5 g5 h5 i5 j5 m5 v6 g6 h6 i6 j6 m6 v35 g35 h35 i35 L m35 v36 g36 h36 i36 J m36:iR} {o3 p3 o4 p4 o5 p5 o6 p6 o35 p35 o36 p36:Option Addr} {s3 s4 s5 s6 s35 s36:Array (Option iR)}
  (aW:nsIn K iY "WordError"=iO (iO (.ref CW)))
  (a0:nsIn K iY "NoWords"=iO (iO (.ref C0)))
  (a1:nsIn K iY "NoLook"=iO (iO (.ref C1)))
  (a2:nsIn K iY "NoRoom"=iO (iO (.ref C2)))
  (a3:nsIn K iY "NoWord"=iO (iO (.ref C3)))
  (a4:nsIn K iY "NoWorths"=iO (iO (.ref C4)))
  (a5:nsIn K iY "Never"=iO (iO (.ref C5)))
  (a6:nsIn K iY "Full"=iO (iO (.ref C6)))
  (a7:nsIn K iY "Known"=iO (iO (.ref C7)))
  (a8:nsIn K iY "NoText"=iO (iO (.ref C8)))
  (zz:zsB K=iT)
  (c_LEAST_PLACE:nsIn K iY "LEAST_PLACE"=iO (iO (.int (-3) a)))
  (c_MOST_LETTERS:nsIn K iY "MOST_LETTERS"=iO (iO (.int 6 t)))
  (c_MOST_PLACE:nsIn K iY "MOST_PLACE"=iO (iO (.int 2 b)))
  (c_MOST_ROOM:nsIn K iY "MOST_ROOM"=iO (iO (.int 99 M)))
  (c_MOST_WORDS:nsIn K iY "MOST_WORDS"=iO (iO (.int 6 S)))
  (ex:qc4 K [C0,C1,C2,C3,C4,C5,C6,C7,C8] CW=iT)
  (aB:nsIn K iY "Words"=iO (iO (.ref C)))
  (b1:cY K C aY=iT)
  (b2:dG K C=iT)
  (b3:eX K C=iT)
  (b4:aP K (.ref C) "__setattr__"=iO (iO (.builtin "object.__setattr__")))
  (n0:aP K (.ref C) "look"=iO iQ)
  (n1:aP K (.ref C) "came"=iO iQ)
  (n2:aP K (.ref C) "width"=iO iQ)
  (n3:aP K (.ref C) "held"=iO iQ)
  (q0:Dx K "is_between" wH)
  (q1:Dx K "is_look" gO)
  (q2:Dx K "check_look" wJ)
  (b_3:aP K (.ref C) "__init__"=iO (iO (.ref R))) (B:LkM K "__init__" "Words.__init__" jf R v3 o3 p3 s3 g3 h3 i3 j3 m3) (d_3:mV K j3 "Words.__init__"=iT) (I:l8 K (.ref R)=iT) (q_3:cQ K (.ref R)=iT) (y1:ii K C=iT) (y2:l8 K (.ref C)=iT)
  (b_4:aP K (.ref C) "words"=iO (iO (.ref f4))) (A:LkM K "words" "Words.words" jF f4 v4 o4 p4 s4 g4 h4 i4 j4 m4) (Y:mV K j4 "Words.words"=iT) (p:l8 K (.ref f4)=iT) (q_4:cQ K (.ref f4)=iT)
  (b_5:aP K (.ref C) "room"=iO (iO (.ref O))) (y:LkM K "room" "Words.room" jV O v5 o5 p5 s5 g5 h5 i5 j5 m5) (V:mV K j5 "Words.room"=iT) (o:l8 K (.ref O)=iT) (q_5:cQ K (.ref O)=iT)
  (b_6:aP K (.ref C) "numbers"=iO (iO (.ref N))) (x:LkM K "numbers" "Words.numbers" jm N v6 o6 p6 s6 g6 h6 i6 j6 m6) (U:mV K j6 "Words.numbers"=iT) (n:l8 K (.ref N)=iT) (q_6:cQ K (.ref N)=iT)
  (q7:Dx K "list_text" uY)
  (q8:Dx K "check_text" wM)
  (q9:Dx K "is_letter" uZ)
  (q10:Dx K "is_word" gR)
  (q11:Dx K "is_words" xx)
  (q12:Dx K "check_words" we)
  (q13:Dx K "letter_at" ya)
  (q14:Dx K "pairs" Uk)
  (q15:Dx K "check_room" wQ)
  (q16:Dx K "is_worth" xz)
  (q17:Dx K "is_worths" yc)
  (q18:Dx K "check_worths" vH)
  (q19:Dx K "letters_of" wT)
  (q20:Dx K "within" Ka)
  (q21:Dx K "numbered" xA)
  (q22:Dx K "are_alike" ye)
  (q23:Dx K "clash_of" xC)
  (q24:Dx K "is_loose" xD)
  (q25:Dx K "bound_pairs" wj)
  (q26:Dx K "unshared" xE)
  (q27:Dx K "contrasts_of" vJ)
  (q28:Dx K "may_differ" wV)
  (q29:Dx K "with_worth" wW)
  (q30:Dx K "can_be_filled" jC)
  (q31:Dx K "can_differ" wY)
  (q32:Dx K "least_worths" vL)
  (q33:Dx K "room_from" yg)
  (q34:Dx K "check_word" ua)
  (b_35:aP K (.ref C) "check_new"=iO (iO (.ref d))) (i:LkM K "check_new" "Words.check_new" qW d v35 o35 p35 s35 g35 h35 i35 L m35) (m:mV K L "Words.check_new"=iT) (c:l8 K (.ref d)=iT) (u:cQ K (.ref d)=iT)
  (b_36:aP K (.ref C) "come"=iO (iO (.ref f))) (g:LkM K "come" "Words.come" jX f v36 o36 p36 s36 g36 h36 i36 J m36) (j:mV K J "Words.come"=iT) (k:l8 K (.ref f)=iT) (r:cQ K (.ref f)=iT)
  (q37:Dx K "number_in" yi)
  (q38:Dx K "look_in" Qf)
  (q39:Dx K "words_in" xF)
  (q40:Dx K "list_of" yX)
  (q41:Dx K "_law_cell_at" xG)
  (q42:Dx K "_law_mixed" Kk)
  (q43:Dx K "_law_draw" Ux)
  (q44:Dx K "_law_pick" Uy)
  (q45:Dx K "_law_word" Uz)
  (q46:Dx K "_law_words" Ko)
  (q47:Dx K "_law_look" UA)
  (q48:Dx K "_law_come" UC)
  (q49:Dx K "law" qa4) :
  ∃ fd:lV,(∀ (s:iU) (v:iR),nI s fd ⟨[v],[]⟩ [("_law_script",v)])/\∀ base:Heap,K.In base->base.Ns iY mg->FnOk l.prog w K mg base (CXk l.prog w) 21 fa fd ["_law_script"] (qc6 K):=by
 obtain ⟨f49,_,_,_,_,_,_,_,_,_,b_49,z,W,D⟩:=q49;have e:=hfa.symm.trans (mH X G b_49);cases e;obtain ⟨Z,cok,eB⟩:=qjC X G aW a0 a1 a2 a3 a4 a5 a6 a7 a8 zz c_LEAST_PLACE c_MOST_LETTERS c_MOST_PLACE c_MOST_ROOM c_MOST_WORDS ex aB b1 b2 b3 b4 n0 n1 n2 n3;have T:Tx K mg (caT [("WordError",CW),("NoWords",C0),("NoLook",C1),("NoRoom",C2),("NoWord",C3),("NoWorths",C4),("Never",C5),("Full",C6),("Known",C7),("NoText",C8),("Words",C)]):=⟨jk X G q0,jk X G q1,jk X G q2,by rw [eB]; exact ⟨R,_,(kZ (st:=jf) B d_3 I),⟨y1,b_3,q_3,y2⟩,(kZ (st:=jf) B d_3 I).binds (λ_ _ _ _ _ _ us hl=>by revert hl; refine λhl=>qhQ (P:=λus=>lG _ ⟨us,[]⟩=pure (dU _ us)) hl ?_; intros; rfl)⟩,by rw [eB]; exact ⟨f4,_,(kZ (st:=jF) A Y p),⟨b_4,q_4,p⟩,(kZ (st:=jF) A Y p).binds (λ_ _ _ _ _ _ us hl=>by revert hl; refine λhl=>qhP (P:=λus=>lG _ ⟨us,[]⟩=pure (dU _ us)) hl ?_; intros; rfl)⟩,by rw [eB]; exact ⟨O,_,(kZ (st:=jV) y V o),⟨b_5,q_5,o⟩,(kZ (st:=jV) y V o).binds (λ_ _ _ _ _ _ us hl=>by revert hl; refine λhl=>qhP (P:=λus=>lG _ ⟨us,[]⟩=pure (dU _ us)) hl ?_; intros; rfl)⟩,by rw [eB]; exact ⟨N,_,(kZ (st:=jm) x U n),⟨b_6,q_6,n⟩,(kZ (st:=jm) x U n).binds (λ_ _ _ _ _ _ us hl=>by revert hl; refine λhl=>qhP (P:=λus=>lG _ ⟨us,[]⟩=pure (dU _ us)) hl ?_; intros; rfl)⟩,jk X G q7,jk X G q8,jk X G q9,jk X G q10,jk X G q11,jk X G q12,jk X G q13,jk X G q14,jk X G q15,jk X G q16,jk X G q17,jk X G q18,jk X G q19,jk X G q20,jk X G q21,jk X G q22,jk X G q23,jk X G q24,jk X G q25,jk X G q26,jk X G q27,jk X G q28,jk X G q29,jk X G q30,jk X G q31,jk X G q32,jk X G q33,jk X G q34,by rw [eB]; exact ⟨d,_,(kZ (st:=qW) i m c),⟨b_35,u,c⟩,(kZ (st:=qW) i m c).binds (λ_ _ _ _ _ _ us hl=>by revert hl; refine λhl=>qhQ (P:=λus=>lG _ ⟨us,[]⟩=pure (dU _ us)) hl ?_; intros; rfl)⟩,by rw [eB]; exact ⟨f,_,(kZ (st:=jX) g j k),⟨b_36,r,k⟩,(kZ (st:=jX) g j k).binds (λ_ _ _ _ _ _ us hl=>by revert hl; refine λhl=>qhQ (P:=λus=>lG _ ⟨us,[]⟩=pure (dU _ us)) hl ?_; intros; rfl)⟩,jk X G q37,jk X G q38,jk X G q39,jk X G q40,jk X G q41,jk X G q42,jk X G q43,jk X G q44,jk X G q45,jk X G q46,jk X G q47,jk X G q48⟩
 have F:=kZ (st:=qa4) z W D;exact ⟨_,λs v=>.of_eq rfl,λbase _ _=>(qhS (e0:=⟨l.prog,w,K,mg,base,_⟩) Z T F).imp λvs H Q E q=>qjD cok vs H Q E q⟩
theorem qkB {l:ij} {q:i7} {loose:List Str} {XP:(Str->Option iR)->Heap->Prop} {YP:i8->Heap->Prop} {d:DefRec} {K:mP->Frag} (b:l.most=iO 63) (hdf:d.params.defaults=[])
  (D:∀ (w:i8) (h:Heap),YP w h->(K w.params).In h)
  (F:∀ (w:i8) (mg:Str->Option iR) (fa:Addr) (h:Heap),(K w.params).In h->h.Ns iY mg->mg d.name=iO (.ref fa) ->∃ fd:lV,(∀ (s:iU) (u:iR),nI s fd ⟨[u],[]⟩ [("_law_script",u)])/\∀ base:Heap,(K w.params).In base->base.Ns iY mg->FnOk l.prog w (K w.params) mg base (CXk l.prog w) 21 fa fd ["_law_script"] (qc6 (K w.params))) :
  PySem.W.WalkO q loose XP YP l.row.toRowW d [] (λf vs=>iM f vs):=
 L2.qec (n:=63) (k:=21) (x := "_law_script") (CX:=λw=>CXk l.prog w) (sp:=λw=>qc6 (K w.params)) b (by decide) hdf ⟨rfl,by decide,by decide⟩ D F (λ_ _ a ns hl _ S=>⟨a,ns,rfl,S,λ_=>rfl⟩) λw H s e s' z=>by obtain ⟨ex,T,C,H',_,_,_,_,_,_,_,_,_,_,q⟩:=z;exact q.elim
end Kx
open PySem PySem.W PyProof.Rows
set_option maxRecDepth 100000 in
set_option maxHeartbeats 0 in
theorem PySem.Challenge.cw_lookwords_k28_whole_lists_written_holds : PySem.Challenge.rw_lookwords_k28_whole_lists_written.Holds := by
  refine Kx.hd ?_;k_fill
  refine Kx.qkB (l := PySem.Challenge.rw_lookwords_k28_whole_lists_written) rfl rfl (λw h Y => PySem.W.kIn_of Y) ?F
  case F =>
    intro w mg fa h X G g;refine' Kx.qhT X G g ?_ ?_ ?_ ?_ ?_ ?_ ?_ ?_ ?_ ?_ ?_ ?_ ?_ ?_ ?_ ?_ ?_ ?_ ?_ ?_ ?_ ?_ ?_ ?_ ?_ ?_ ?_ ?_ ?_ ?_ ?_ ?_ ?_ ?_ ?_ ?_ ?_ ?_ ?_ ?_ ?_ ?_ ?_ ?_ ?_ ?_ ?_ ?_ ?_ ?_ ?_ ?_ ?_ ?_ ?_ ?_ ?_ ?_ ?_ ?_ ?_ ?_ ?_ ?_ ?_ ?_ ?_ ?_ ?_ ?_ ?_ ?_ ?_ ?_ ?_ ?_ ?_ ?_ ?_ ?_ ?_ ?_ ?_ ?_ ?_ ?_ ?_ ?_ ?_ ?_ ?_ ?_ ?_ ?_ ?_ ?_ ?_ ?_ ?_ ?_ ?_ ?_;all_goals try first | k_is | exact ⟨_, _, _, _, _, _, _, _, _, _, by unfold Kx.NsX; k_is, by unfold Kx.LkX; k_is, by unfold Kx.CdX; k_is, by unfold Kx.KpX; k_is⟩ | (unfold Kx.LkM; k_is) | kernel_rfl
