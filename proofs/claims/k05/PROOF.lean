import PyProof.Rows.All
import KE.KTryMore
import KE.KDictOf
import KE.KRevSl
import KE.KSortTup
import KE.KItemsList
import PySem.Challenge.RW_lookwords_k05_whole_one_to_one
open Option renaming some→iB,none→iD
open PySem renaming wpAny_bind→iC,Value→iE,wpAny_pure→iG,Shared→iI,Program→iJ,World→iK,sizeLine_eq→iL,wpAny_callSpecial?_slot→iM,wpAny_newObj_type→iN,wpAny_call_entry→iO,Around→iP,wpAny_field→iQ,wpAny_holding→iR,wpAny_seqItems→iS,codeAny_builtin→iU,IsPair→iV,SetTable→iW,wpAny_askSetting→iX,Keyword→iY,wpAny_attempt→iZ,wpAny_truthy_bool→i0,wpAny_setState_of→i3,builtinLookup_eq_fast→i4,wpAny_Call_Name_kw→i5,wpAny_setField_rec→i6,wpAny_isInstance→i7,wpAny_mono→i8,wpAny_setField→i9,OsState→j0,wpAny_passesOwn→j5,FuncData→j6,wpAny_rule→j7,plainId_quiet→j8,wpAny_setEntries_of→j9,NameKind→k6,wpAny_typeOf→k7,typeLookup_type→k8,wpAny_updateSeq→k9,call_meets→la,tupleKind_room_in1→lb,Scope→lc,codeAny_mono→lf,wpAny_pyIter_list→lg,fits_of_scanBound→lh,isSubtype_type→li,Draws→lj,IsPart→ll,IsZip→lm,wpAny_execs_nil→lp,Params→lu,wpAny_fieldsOf→lv,isSubtype_stop→lw,wpAny_newTuple→lx,wpAny_newList→ly,wpAny_onRaise→lz,concat_meets→lB,GenState→lC,wpAny_of_eq→lD,wpAny_letGo→lE,DictEntry→lF,BindsTo→lG,Paired→lI,Result→lJ
open Bool renaming false→iF,true→iH
open PySem.W renaming mg_none_of→iT,boot_heap→j4,mg_of→lq,boot_drawn→lA
open PyProof.Rows renaming AllBare→lr,StrsAre→lH,tail_any→lK
open PySem.Heap renaming get?_push_of_some→aa,get?_push_size→af,lt_size→aq,get?_update_self→aX,size_push→bh,SameBut→bt,get?_update_other→bG,get?_push_ne→fO,ExtBut→h8
open List renaming mem_cons_of_mem→ac,mem_cons→ae,length_map→ah,mem_cons_self→ai,length_append→aj,size_toArray→am,length_cons→ao,getElem?_set_ne→ap,range→au,mem_map→aw,getElem?_eq_getElem→ay,getElem?_eq_some_iff→aB,mem_singleton→aD,getElem?_map→aE,map_cons→aF,getElem?_set_self→aG,mem_append→aI,all_eq_true→aJ,mem_range→aM,nodup_cons→aP,mem_append_right→aV,length_nil→aZ,map_map→bb,Nodup→bc,pairwise_cons→be,append_nil→bf,filterMap_cons→bj,replicate→bu,append_assoc→bB,length_range→bC,foldl_cons→bF,not_mem_nil→bH,getElem?_eq_none→bK,nil_append→bM,length_take→bO,getElem?_replicate→bP,findIdx?_eq_some_iff_getElem→bS,getElem?_append_right→bU,nodup_nil→bX,getD_eq_getElem?_getD→bZ,flatMap_cons→cc,find?_cons→ce,getElem?_eq_none_iff→cg,getElem?_append_left→ci,lookup_cons→cm,getElem_mem→cr,find?_eq_none→cu,map_nil→cx,mem_append_left→cy,replicate_zero→cG,any_cons→cI,length_singleton→cJ,pairwise_iff_getElem→cK,of_mem_zip→cO,map_append→cQ,mem_of_getElem?→cU,pairwise_singleton→db,mem_flatMap→df,zipWith→dm,length_pos_of_mem→dq,mem_filter→dt,length_replicate→dA,nodup_append→dG,mem_iff_getElem→dP,toArray→dR,findSome?_cons→dX,length_erase_of_mem→d6,forIn_cons→d7,length_eq_zero_iff→ej,reverse_cons→eJ,ext_getElem?→eX,find?_append→eZ,getElem?_toArray→e9,mem_of_mem_erase→ff,mem_iff_getElem?→fg,any_eq_true→fm,length_set→fz,toList_toArray→fA,mem_filterMap→fC,forIn_nil→fF,zip_cons_cons→fG,any_eq_false→fI,all_cons→fW,getElem_inj→fY,take_length→f9,cons_append→g0,getElem_map→g6,sum_append→hJ,zip→ia,any_map→ij,length→iq
open Nat renaming le_refl→ax,ne_of_lt→aC,lt_of_lt_of_le→aH,zero_le→bi,le_trans→bz,lt_irrefl→bL,le_of_lt→cH,ne_of_gt→cT,lt_succ_of_lt→cV,not_lt_zero→d8,lt_trans→eU,sub_self→eY,le_add_right→fk,le_of_eq→fB,lt_of_succ_lt→fM,lt_succ_self→fZ,le_succ→ir
open Or renaming inl→aA,inr→fj
open Bool renaming and_eq_true→aK,false_ne_true→bE,false_eq_true→cq,not_eq_true'→fL,or_false→fV,or_eq_true→g9
open PySem.Value renaming ref→aL,bool→aY,none→bD,isStrOf_shape→cZ,builtin→dw,type→dI,str→dQ,int→fh,isInt→fy,isStrOf→fS
open PySem.PassesOwn renaming leaving→aN
open PySem.Builtin.SmallTypes renaming nextOf→aO,ownedTupleIsFree→aR
open PySem.Str renaming ofString→aQ,length→g7
open Option renaming map_eq_some_iff→aS,some→aU,bind_eq_some_iff→cA,isSome_map→fK
open Ne renaming symm→ba
open PySem.W renaming hideAll→bg,emptyDict→bT,fnOf→bV,kitOne→bW,instObj→cM,kia_one→cP,hideAll_none→cS,hideAll_get→c6,exmOne→dO,excIn→d4,of_hideAll→eh,cellsFrom_some→eG,methodObj→fH,OpenLaw→g8,lookIn→hZ
open PySem renaming mem_of_lookup→bn,call→iu
open PySem.Heap.SameBut renaming update→bo
open PySem.SetTable renaming below→bp,grown→c8,laid→ic
open PySem.Around renaming under_plainId→bq
open PySem.Builtin.Slice renaming sliceAdjust→br,slicePlaces→dS
open PySem.NameKind renaming free→bv
open PySem.Obj renaming mapSeq→bw,putSet→ig
open PySem.F renaming slot_zip_next→bx,called_set→bN,plainAttrs_list→bQ,slot_tuple_iterator_next→bY,plain_extend_loop→cj,slot_list_index→c7,args_zip_next_1→c9,entry_zip_next→dj,slot_tuple_getattribute→dU,args_tuple_add_2→dY,slot_list_getattribute→d5,entry_tuple_add→ei,slot_tuple_add→eI
open PyProof.Rows renaming callWith_type1→bA,slot_tuple_getitem→cY
open Classical renaming byContradiction→bI
open Array renaming getElem?_eq_getElem→bJ,length_toList→cF,getElem?_eq_none→dh,getElem?_toList→dB,toList_push→fN,mk→hV
open PySem.Builtin.List renaming listExtendWith→bR,listSameRef→cX,listLengthHint→dH,listTooLong→dZ
open False renaming elim→ck
open Sum renaming inr→cw,inl→fq
open List.Perm renaming refl→cz,swap→fE
open PySem.SeqAt renaming ne_of_list_tuple→cB,EqAt→iA
open ForInStep renaming yield→cC
open PySem.Builtin.Frozenset renaming updateFrom→cD
open PySem.Builtin.Tuple renaming tupleExact→cW
open PySem.Calls renaming callWith_builtin→dg,evalArgs_plain→dL,call_function_entry→dW,spliced_cons→fD,spliced_nil→fJ
open Int renaming emod_lt_of_pos→dn,toNat_natCast→dD,emod_nonneg→d9,emod_eq_of_lt→fP,dvd_add→fR,sub_self→im,dvd_zero→ip
open List.Pairwise renaming nil→dE
open PySem.Builtin.Str renaming strSliceIndices→dF
open True renaming intro→dJ
open Eq renaming trans→dN
open PyProof.Rows.F renaming plain_set_update_loop→et
open List.Sublist renaming refl→fQ
open PySem.Paired renaming length→fU
open PySem.Shared renaming TypeIs→fX
open PySem.W.KF renaming type_class→ib
open Prod renaming ext→ii
open PySem.Walks renaming list→iw
noncomputable section
open PySem.W (Frag nsIn keepIn codeIn mg_of mg_none_of)
set_option Elab.async false
set_option linter.all false
set_option maxRecDepth 100000
namespace Kx
noncomputable section
open PySem PySem.W PySem.Calls PyProof.Rows
noncomputable def zP:Pos:=⟨0,0,0,0⟩
noncomputable def anV:Option iE:=iB (.ref 6)
noncomputable def hA (P:lu):List Obj:=(j4 P).objs.toList++[⟨.type "tuple",iD,.seq #[] 0,#[]⟩,⟨.none,iD,.fields #[],#[]⟩,
 ⟨.type "code",iD,.fields #[.str "<module>" 182,.str "<module>" 183,.str "/claim/cut.py" 184,.int 1 0,.int 0 0,.int 0 0,.int 0 0,.int 0 0,.ref 11,.bool iF,.int 181 0,.ref 12,.none,.none,.none,.none,.int 185 0,.int 1 0,.str "/claim/cut.py" 186],#[]⟩,
 ⟨.type "frame",iD,.plain,#[iB (.ref 13),iB (.ref 3),iB (.ref 3),iD,iB (.str "__main__" 164),iD,iB (.ref 0)]⟩]
noncomputable def enP (p:iJ):Env:={ scope:=p.main.scope,locals:=mainNs,globals:=mainNs,cells:=[],code:=.ref 13,frame:=iB 14 }
noncomputable def cdP (p:iJ):Code:=.body (behindTheImports p) (enP p)
noncomputable def trA:List Obj->Nat->BT->BT
 | [],_,t=>t
 | o::l,i,t=>trA l (i+1) (t.ins i o)
noncomputable def SA (w:iK) (os:j0):SharedT:=⟨trA (hA w.params) 0 .nil,15,(j4 w.params).life,hV [],lA,187,os⟩
noncomputable def kH (P:lu) (s:Str) (t:Nat) (v:iE):lF:=⟨PyData.keyHash P s,.str s t,v⟩
noncomputable def eM:iE:=.str "lookwords.errors" 187
noncomputable def eT (a:List iE):Obj:=⟨.type "tuple",iD,.seq ⟨a⟩ 0,#[]⟩
noncomputable def eF (c:iE) (a:List iE):Obj:=⟨c,iD,.fields ⟨a⟩,#[]⟩
noncomputable def eB:iE:=.type "builtin_function_or_method"
noncomputable def eD (a:List lF) (n:Nat):Obj:=⟨.type "dict",iD,.dict ⟨a⟩ n,#[]⟩
noncomputable def eA (P:lu) (s:Str) (b:iE) (n t l:Nat):List Obj:=[eT [b],eF eB [.builtin "type.__prepare__",.type "type"],
 eD [kH P "__module__" (t+7) eM,kH P "__qualname__" (t+9) (.str s (t+8)),kH P "__firstlineno__" (t+11) (.int l (t+10)),kH P "__static_attributes__" (t+12) (.ref (n+7))] 4,
 eT [],eF .none [],eF (.type "code") [.str s (t+2),.str s (t+3),.str "/claim/cut.py" (t+4),.int l 0,.int 0 0,.int 0 0,.int 0 0,.int 0 0,.ref (n+3),.bool iF,.int 181 0,.ref (n+4),.none,.none,.none,.none,.int ((t+5:Nat):Int) 0,.int l 0,.str "/claim/cut.py" (t+6)],
 ⟨.type "frame",iD,.plain,#[iB (.ref (n+5)),iB (.ref 3),iB (.ref (n+2)),iD,iB eM,iD,iB (.ref 0)]⟩,eT []]
noncomputable def eC (s:Str) (b:iE) (n t:Nat) (m sub:List iE):Obj:=⟨.type "type",iD,.cls { name:=s,bases:=[b],mro:=.ref (n+9)::m,ns:=n+8,qualname:=s,subclasses:=sub },#[iB (.ref n),iD,iB (.str s t),iB (.str s (t+8)),iB (.builtin "ValueError.__new__"),iB (.bool iH)]⟩
noncomputable def eS (a:Nat):List Obj:=[eF (.type "super") [.ref a,.ref a,.ref a],eF eB [.builtin "object.__init_subclass__",.ref a]]
noncomputable def eK (P:lu) (t l:Nat) (n:Nat):List lF:=[kH P "__module__" (t+7) eM,kH P "__firstlineno__" (t+11) (.int l (t+10)),kH P "__static_attributes__" (t+12) (.ref (n+7))]
noncomputable def eV:List iE:=[.type "ValueError",.type "Exception",.type "BaseException",.type "object"]
noncomputable def eL (P:lu):List Str->Nat->Nat->Nat->List Obj
 | [],_,_,_=>[]
 | s::r,n,t,l=>eA P s (.ref 24) n t l++eD (eK P t l n++[kH P "__doc__" (t+13) .none]) 2::eC s (.ref 24) n t (.ref 24::eV) []::eS (n+9)++eL P r (n+12) (t+16) (l+2)
noncomputable def eE (P:lu):List Str->Nat->Nat->List lF
 | [],_,_=>[]
 | s::r,n,t=>kH P s (t+15) (.ref (n+9))::eE P r (n+12) (t+16)
noncomputable def eR:Nat->Nat->List iE
 | 0,_=>[]
 | k+1,n=>.ref n::eR k (n+12)
noncomputable def eQ:Nat->Nat->Nat->List iE
 | 0,_,_=>[]
 | k+1,n,l=>.int l 0::.int 0 0::.ref n::eQ k (n+12) (l+2)
noncomputable def eO (P:lu) (L:List Str):Obj:=match (boot_o_3 P).data with
 | .dict a _=>eD (kH P "__name__" 165 eM::a.toList.drop 1++kH P "WordError" 206 (.ref 24)::eE P L 28 207) (L.length+10)
 | _=>eT []
noncomputable def hC (P:lu) (L:List Str):List Obj:=(hA P).take 3++eO P L::((hA P).drop 4).take 8++eF .none (.int 2 0::.int 0 0::.ref 20::eQ L.length 33 4)::(hA P).drop 13 ++
 eA P "WordError" (.type "ValueError") 15 189 2++eD (eK P 189 2 15++[kH P "__weakref__" 203 (.ref 25),kH P "__doc__" 204 .none]) 3::eC "WordError" (.type "ValueError") 15 189 eV (eR L.length 37) ::
 eF (.type "getset_descriptor") [.str "__weakref__" 202,.ref 24,.builtin "ExceptionGroup.__weakref__",.none]::eS 24++eL P L 28 207 4
noncomputable def SC (L:List Str) (w:iK) (os:j0):SharedT:=⟨trA (hC w.params L) 0 .nil,12 * L.length+28,(j4 w.params).life,hV [],lA,16 * L.length+207,os⟩
noncomputable def zC (L:List Str):Pos:=⟨2 * L.length+2,0,2 * L.length+3,8⟩
noncomputable def XU (L:List Str) (p:iJ) (w:iK) (M:Nat) (os:j0):Option (Flow×Code×iI):=
 (segRunT treeTable p w 11 anV 1 M (SC L w os) (piecesOf ((behindTheImports p).drop (L.length+2)) (enP p) (cdP p) (zC L) [topFrame zP])).bind λr=>
  (topRun treeTable p w 11 anV 5 r.2.1.abs (restOf [] (enP p) (cdP p) r.2.2.2 [topFrame zP])).map λs=>(r.1,r.2.2.1,s)
abbrev qc1 (p:iJ) (w:iK) (x:Flow×Code×iI):=
 (x.1,x.2.1,(staticsOk (importedModules p.main.body) (j4 w.params) x.2.2.heap&&namesBound p x.2.2.heap&&gensDone x.2.2&&laidKept (j4 w.params) x.2.2.heap))
abbrev Kk (p q:iJ) (loose:List Str) (Xt:iI->Bool) (x:Flow×Code×iI):=openSeen q loose (importedModules p.main.body) Xt iH x.2.2
theorem left_T {L:List Str} {p q:iJ} {loose:List Str} {Xt:iI->Bool} {α:Type} {Yf:iI->α} {Ya:iK->α} {N M:Nat}
  (e:opening p=plainProg p.main.scope.names) (hN:Nat.ble 600 N=iH) (f:∀ s,fenceModules? p s=iB s)
  (size:∀ w:iK,((j4 w.params).isNs mainGlobals&&(hV []:Array lC).size == 0,(j4 w.params).objs.size,(j4 w.params).nsMap mainGlobals "__annotations__")=(iH,11,anV))
  (pre:∀ (w:iK) (os:j0),topGo treeTable p w 11 anV 12 ⟨j4 w.params,hV [],lA,boot_toks,os⟩ (topStub p)=iB ((SA w os).abs,⟨denote treeTable (cdP p),cdP p,zP,[topFrame zP]⟩))
  (blk:∀ (w:iK) (os:j0),segRun treeTable p w 11 anV 1 1 (SA w os).abs (blockOf (behindTheImports p) (enP p) (cdP p) zP [topFrame zP])=iB (.next,(SA w os).abs,cdP p,zP))
  (le:Nat.ble (12+(1+(3500+(M+5)))) N=iH)
  (m6:∀ (w:iK) (os:j0),segRunT treeTable p w 11 anV 1 3500 (SA w os) (piecesOf ((behindTheImports p).take (L.length+2)) (enP p) (cdP p) zP [topFrame zP])=iB (.next,SC L w os,cdP p,zC L))
  (m0:∀ (w:iK) (os:j0),(XU L p w M os).map (qc1 p w)=iB (.next,cdP p,iH))
  (m1:∀ (w:iK) (os:j0),(XU L p w M os).map (λx=>(Kk p q loose Xt x).1)=iB (openGood q loose).1)
  (m3:∀ (w:iK) (os:j0),(XU L p w M os).map (λx=>(Kk p q loose Xt x).2.1)=iB (openGood q loose).2.1)
  (m4:∀ (w:iK) (os:j0),(XU L p w M os).map (λx=>(Kk p q loose Xt x).2.2.1)=iB (openGood q loose).2.2.1)
  (m5:∀ (w:iK) (os:j0),(XU L p w M os).map (λx=>(Kk p q loose Xt x).2.2.2)=iB (openGood q loose).2.2.2)
  (m2:∀ (w:iK) (os:j0),(XU L p w M os).map (λx=>Yf x.2.2)=iB (Ya w)):LeftO p q loose Xt Yf Ya N:=λw=>by
 obtain ⟨⟨h,gs,d,k,os⟩,a,a'⟩:=aS.mp (boot_open e hN f w)
 obtain ⟨rfl,rfl,rfl,rfl⟩:h=j4 w.params/\gs=hV []/\d=lA/\k=boot_toks:=by simpa using a'
 obtain ⟨x,hx,hl⟩:=aS.mp (m0 w os)
 have l2:openSeen q loose (importedModules p.main.body) Xt iH x.2.2=openGood q loose:=by
  have a1:=m1 w os
  have a3:=m3 w os
  have a4:=m4 w os
  have a5:=m5 w os
  rw [hx] at a1 a3 a4 a5
  exact ii (aU.inj a1) (ii (aU.inj a3) (ii (aU.inj a4) (aU.inj a5)))
 obtain ⟨y,hy,hY⟩:=aS.mp (m2 w os)
 obtain rfl:y=x:=aU.inj (hy.symm.trans hx)
 obtain ⟨r,hr,hz⟩:=cA.mp hx
 obtain ⟨s,hs,rfl⟩:=aS.mp hz
 obtain ⟨fl,st,co,po⟩:=r
 unfold qc1 at hl
 simp only [Prod.mk.injEq] at hl
 obtain ⟨rfl,rfl,l1⟩:=hl
 have t1:=piece_app (rest:=[]) (segRun_of hr) hs
 rw [bf] at t1
 have t1:=piece_app (segRun_of (m6 w os)) t1
 rw [List.take_append_drop] at t1
 have t2:=piece_block (blk w os) t1
 have t3:=topRun_mono (N - (12+(1+(3500+(M+5))))) _ _ _ _ (go_top (pre w os) t2)
 rw [show 12+(1+(3500+(M+5)))+(N - (12+(1+(3500+(M+5)))))=N by have:=Nat.le_of_ble_eq_true le; omega] at t3
 obtain ⟨z1,z2,z3⟩:_/\_/\_:=by simpa only [Prod.mk.injEq] using size w
 have t:topFrom treeTable p w N ⟨j4 w.params,hV [],lA,boot_toks,os⟩=iB s:=by
  unfold topFrom
  dsimp only
  rw [z1,z2,z3,t3]
  show (match staticsOk (importedModules p.main.body) (j4 w.params) s.heap&&namesBound p s.heap&&gensDone s&&laidKept (j4 w.params) s.heap with | true=>_ | false=>_)=_
  rw [l1]
 unfold openEnds
 rw [a]
 show (topFrom treeTable p w N _).map _=_
 rw [t]
 exact congrArg iB (ii l2 hY)
end
end Kx
noncomputable section
open PySem PySem.W PyProof.Rows
noncomputable def Kx.vq:iJ:=view PySem.Challenge.pw_lookwords_k05_whole_one_to_one [1,2,3,4,5,6,7,8,9,10,12,13,14,15,16,17,18,19,20,21,22,23,24,25,26,27,29,30,31,32,33,35,36,37,38,39,40,41,42,43,44,45,46,47,48,49,51,52,53,54,55,56,57,58,59,60,61,62,63,64,65]
noncomputable def Kx.eN:List Str:=["NoWords", "NoLook", "NoNumbers", "NoRoom", "NoWord", "NoWorths", "Never", "Full", "Known"]
noncomputable def Kx.xt (s:iI):Bool:=xlAt Kx.vq [] s&&recOk (RowW.records (OpenRow.toRowW (OpenLaw.row PySem.Challenge.rw_lookwords_k05_whole_one_to_one))) s
theorem Kx.m6:∀ (w:iK) (os:j0),segRunT treeTable PySem.Challenge.pw_lookwords_k05_whole_one_to_one w 11 Kx.anV 1 3500 (Kx.SA w os) (piecesOf ((behindTheImports PySem.Challenge.pw_lookwords_k05_whole_one_to_one).take (Kx.eN.length+2)) (Kx.enP PySem.Challenge.pw_lookwords_k05_whole_one_to_one) (Kx.cdP PySem.Challenge.pw_lookwords_k05_whole_one_to_one) Kx.zP [topFrame Kx.zP])=iB (.next,Kx.SC Kx.eN w os,Kx.cdP PySem.Challenge.pw_lookwords_k05_whole_one_to_one,Kx.zC Kx.eN):=by intro w os; kernel_rfl
theorem Kx.m0:∀ (w:iK) (os:j0),(Kx.XU Kx.eN PySem.Challenge.pw_lookwords_k05_whole_one_to_one w 15000 os).map (Kx.qc1 PySem.Challenge.pw_lookwords_k05_whole_one_to_one w)=iB (.next,Kx.cdP PySem.Challenge.pw_lookwords_k05_whole_one_to_one,iH):=by intro w os; kernel_rfl
theorem Kx.m1:∀ (w:iK) (os:j0),(Kx.XU Kx.eN PySem.Challenge.pw_lookwords_k05_whole_one_to_one w 15000 os).map (λx=>(Kx.Kk PySem.Challenge.pw_lookwords_k05_whole_one_to_one Kx.vq [] Kx.xt x).1)=iB (openGood Kx.vq []).1:=by intro w os; kernel_rfl
theorem Kx.m3:∀ (w:iK) (os:j0),(Kx.XU Kx.eN PySem.Challenge.pw_lookwords_k05_whole_one_to_one w 15000 os).map (λx=>(Kx.Kk PySem.Challenge.pw_lookwords_k05_whole_one_to_one Kx.vq [] Kx.xt x).2.1)=iB (openGood Kx.vq []).2.1:=by intro w os; kernel_rfl
theorem Kx.m4:∀ (w:iK) (os:j0),(Kx.XU Kx.eN PySem.Challenge.pw_lookwords_k05_whole_one_to_one w 15000 os).map (λx=>(Kx.Kk PySem.Challenge.pw_lookwords_k05_whole_one_to_one Kx.vq [] Kx.xt x).2.2.1)=iB (openGood Kx.vq []).2.2.1:=by intro w os; kernel_rfl
theorem Kx.m5:∀ (w:iK) (os:j0),(Kx.XU Kx.eN PySem.Challenge.pw_lookwords_k05_whole_one_to_one w 15000 os).map (λx=>(Kx.Kk PySem.Challenge.pw_lookwords_k05_whole_one_to_one Kx.vq [] Kx.xt x).2.2.2)=iB (openGood Kx.vq []).2.2.2:=by intro w os; kernel_rfl
local macro_rules | `(tactic| o_head $H) => `(tactic| (refine holds_open (q := Kx.vq) (loose := []) (Xt := Kx.xt) (XP := XL Kx.vq []) (Yf := Hook.obs $H) (Ya := Hook.val $H) (YP := Hook.says $H) (N := 20000) ?hl (Hook.of $H) (Hook.keeps $H) (fun s e => xl_of s (Bool.and_eq_true_iff.mp e).1) XL.keeps (by rfl) (by rfl) (by rfl) (fun s e => recFacts_of (Bool.and_eq_true_iff.mp e).2) (by rfl) (by first | assumption | decide +kernel) (by decide +kernel) ⟨rfl, rfl, rfl, rfl, rfl, by decide +kernel⟩ ?hw ?hc; (case hl => refine Kx.left_T (p := PySem.Challenge.pw_lookwords_k05_whole_one_to_one) (M := 15000) ?e rfl ?f ?s ?p ?b rfl Kx.m6 Kx.m0 Kx.m1 Kx.m3 Kx.m4 Kx.m5 ?m; (case e => kernel_rfl); (case f => intro s; kernel_rfl); (case s => intro w; kernel_rfl); (case p => intro w os; kernel_rfl); (case b => intro w os; kernel_rfl); (case m => intro w os; kernel_rfl))))
set_option maxHeartbeats 0 in
open_top Kx.hd for PySem.Challenge.rw_lookwords_k05_whole_one_to_one
end
namespace L2
open PySem PySem.Spec PyProof.Rows
abbrev Key:=Sum Int Str
noncomputable def zT:Key->iE->Bool
 | .inl k,v=>fy k v
 | .inr x,v=>fS x v
noncomputable def qiS (w:iK):Key->Int
 | .inl k=>hashInt k
 | .inr x=>hashStr w x
theorem jp:∀ {k:Key} {v:iE},zT k v=iH->(∃ i t,k=fq i/\v=fh i t)\/(∃ x t,k=cw x/\v=dQ x t)
 | .inl i,v,h=>by obtain ⟨t,e⟩:=Value.isInt_shape (k:=i) (v:=v) h;exact .inl ⟨i,t,rfl,e⟩
 | .inr x,v,h=>by obtain ⟨t,e⟩:=cZ (x:=x) (v:=v) h;exact .inr ⟨x,t,rfl,e⟩
theorem Kl (i:Int) (t:Tok):zT (.inl i) (.int i t)=true:=by simp [zT,fy]
theorem Km (x:Str) (t:Tok):zT (.inr x) (.str x t)=true:=by simp [zT,fS]
theorem qe0 (a b:Int):decide ((fq a:Key)=fq b)=(a == b):=by
 by_cases e:a=b;·subst e; simp
 ·have h:¬(fq a:Key)=fq b:=λq=>e (fq.inj q);rw [decide_eq_false h];exact (beq_eq_false_iff_ne.mpr e).symm
theorem qe1 (a b:Str):decide ((cw a:Key)=cw b)=decide (a=b):=by
 by_cases e:a=b;·subst e; simp
 ·have h:¬(cw a:Key)=cw b:=λq=>e (cw.inj q);rw [decide_eq_false h,decide_eq_false e]
theorem qe2 (a:Int) (b:Str):decide ((fq a:Key)=cw b)=false:=decide_eq_false (λq=>nomatch q)
theorem qe3 (a:Str) (b:Int):decide ((cw a:Key)=fq b)=false:=decide_eq_false (λq=>nomatch q)
noncomputable def ja (prog:iJ) (w:iK):PySem.KeyKind prog w Key where
 is:=zT
 hash:=qiS w
 inj:=λv a b g d=>by
  rcases jp g with ⟨i,t,rfl,rfl⟩ | ⟨x,t,rfl,rfl⟩
  ·rcases jp d with ⟨j,u,rfl,e⟩ | ⟨y,u,rfl,e⟩
   ·injection e with e1 _; rw [e1]
   ·exact nomatch e
  ·rcases jp d with ⟨j,u,rfl,e⟩ | ⟨y,u,rfl,e⟩
   ·exact nomatch e
   ·injection e with e1 _; rw [e1]
 byValue:=λk v h=>by rcases jp h with ⟨i,t,rfl,rfl⟩ | ⟨x,t,rfl,rfl⟩ <;> rfl
 pyHash:=λc h=>by
  rcases jp c with ⟨i,t,rfl,rfl⟩ | ⟨x,t,rfl,rfl⟩
  ·exact wpAny_pyHash_int h
  ·exact wpAny_pyHash_str h
 eqBool:=λf c h=>by
  rcases jp f with ⟨i,t,rfl,rfl⟩ | ⟨x,t,rfl,rfl⟩
  ·rcases jp c with ⟨j,u,rfl,rfl⟩ | ⟨y,u,rfl,rfl⟩
   ·rw [qe0] at h; exact wpAny_eqBool_int h
   ·rw [qe2] at h; exact SeqAt.EqAt.int_str i t y u _ _ _ _ h
  ·rcases jp c with ⟨j,u,rfl,rfl⟩ | ⟨y,u,rfl,rfl⟩
   ·rw [qe3] at h; exact SeqAt.EqAt.str_int x t j u _ _ _ _ h
   ·rw [qe1] at h; exact wpAny_eqBool_str h
 «strs»:=λk x t v h=>by
  rcases jp h with ⟨i,u,rfl,e⟩ | ⟨y,u,rfl,e⟩
  ·exact nomatch e
  ·injection e with e1 _;subst e1;cases v <;> rfl
theorem VV (prog:iJ) (w:iK) (i:Int) (t:Tok):(ja prog w).is (.inl i) (.int i t)=true:=Kl i t
theorem VW (prog:iJ) (w:iK) (x:Str) (t:Tok):(ja prog w).is (.inr x) (.str x t)=true:=Km x t
inductive V where
 | non | bl (b:Bool) | int (i:Int) | str (x:Str) | byt (b:Array UInt8) | flt (b:UInt64) | ref (a:Addr) | ty (n:String)
 deriving DecidableEq
def RelV:V->iE->Prop
 | .non,u=>u=bD
 | .bl b,u=>u=aY b
 | .int i,u=>∃ t,u=fh i t
 | .str x,u=>∃ t,u=dQ x t
 | .byt b,u=>∃ t,u=Value.bytes b t
 | .flt b,u=>∃ t,u=Value.float b t
 | .ref a,u=>u=aL a
 | .ty n,u=>u=dI n
abbrev Vals:List V->List iE->Prop:=lI RelV
variable {xs:List V} {us:List iE}
theorem Vals.length (r:Vals xs us):xs.length=us.length:=fU r
theorem Vals.get:∀ {xs:List V} {us:List iE} {i:Nat} {x:V},Vals xs us->xs[i]?=iB x->∃ u,us[i]?=iB u/\RelV x u
 | _,_,_,_,.nil,e=>by simp at e
 | _,_,0,_,.cons r _,e=>by simp at e; subst e; exact ⟨_,rfl,r⟩
 | _,_,i+1,x,.cons _ t,e=>by obtain ⟨u,h1,h2⟩:=Vals.get (i:=i) (x:=x) t (by simpa using e);exact ⟨u,by simpa using h1,h2⟩
variable {u:iE}
theorem Vals.set {x:V} (r:RelV x u):∀ {xs:List V} {us:List iE} (i:Nat),Vals xs us->Vals (xs.set i x) (us.set i u)
 | _,_,_,.nil=>.nil
 | _,_,0,.cons _ t=>.cons r t
 | _,_,i+1,.cons q t=>.cons q (Vals.set r i t)
theorem Vals.append:∀ {xs ys:List V} {us ws:List iE},Vals xs us->Vals ys ws->Vals (xs++ys) (us++ws)
 | _,_,_,_,.nil,s=>s
 | _,_,_,_,.cons r t,s=>.cons r (Vals.append t s)
theorem Vals.take:∀ {xs:List V} {us:List iE} (n:Nat),Vals xs us->Vals (xs.take n) (us.take n)
 | _,_,0,_=>.nil
 | _,_,_+1,.nil=>.nil
 | _,_,n+1,.cons r t=>.cons r (Vals.take n t)
theorem Vals.drop:∀ {xs:List V} {us:List iE} (n:Nat),Vals xs us->Vals (xs.drop n) (us.drop n)
 | _,_,0,r=>r
 | _,_,_+1,.nil=>.nil
 | _,_,n+1,.cons _ t=>Vals.drop n t
theorem Vals.none_of:∀ {xs:List V} {us:List iE} {i:Nat},Vals xs us->xs[i]?=iD->us[i]?=none:=λ{xs us i} r e=>by have h1:=r.length;have h2:xs.length<=i:=cg.mp e;exact cg.mpr (by omega)
def RelO:Option V->Option iE->Prop
 | some v,iB u=>RelV v u
 | none,iD=>True
 | _,_=>False
def KV {κ:Type}:List (κ×V)->List (κ×iE)->Prop:=lI λ(p:κ×V) (q:κ×iE)=>p.1=q.1/\RelV p.2 q.2
noncomputable def kV:Key->V
 | .inl i=>.int i
 | .inr x=>.str x
inductive HO where
 /-- a list -/
 | lst (xs:List V)
 /-- a tuple (never changes) -/
 | tup (xs:List V)
 /-- a dict whose keys are ints and texts; one whose keys are tuples of ints and texts (the empty one is both) -/
 | dK (kvs:List (Key×V)) | dT (kvs:List (List Key×V))
 /-- a set of ints: its members,its size -/
 | set (S:Int->Bool) (n:Nat)
 /-- an instance of the class at C,its dict at dx,its attributes -/
 | ins (C dx:Addr) (fs:List (Str×V))
 /-- the dict of the instance at x -/
 | own (x:Addr)
 /-- the dict of an exception -/
 | xd (fs:List (Str×V))
 /-- a bound method,f of x -/
 | met (f x:Addr)
 /-- a range object lo,lo+1,.. below hi -/
 | rng (lo hi:Int)
 /-- a thing that is known to the object (the script; a dict while a loop walks it): read,never written while it is so -/
 | frz (o:Obj) (u:HO)
 /-- a code object's table -/
 | tbl (ps:Array iE)
 /-- any other thing,by what is iH of its one object (a def of one's own: SetO a S n:=HO.ext λh=>..) -/
 | ext (φ:Heap->Prop)
abbrev Hp:=Addr->Option HO
noncomputable def upd (H:Hp) (a:Addr) (o:HO):Hp:=λb=>if b=a then iB o else H b
variable {H:Hp} {a:Addr} {o:HO}
theorem qt:upd H a o a=iB o:=by unfold upd; rw [if_pos rfl]
variable {b:Addr}
theorem qB (h:b≠a):upd H a o b=H b:=by unfold upd; rw [if_neg h]
theorem qg9 {u:HO} (h:H a=iB o) (h':H b=iB u) (d:o≠u):a≠b:=by intro e; subst e; rw [h] at h'; exact d (aU.inj h')
theorem qH (h:H a=iB o) (h':H b=iD):a≠b:=by intro e; subst e; rw [h] at h'; cases h'
section
variable (P:iJ) (w:iK)
def ObjOk (H:Hp) (h:Heap) (a:Addr):HO->Prop
 | .lst xs=>xs.length<=sizeLine/\∃ (its:List iE) (n:Nat),Vals xs its/\h.get? a=iB { cls:=.type "list",data:=.seq its.toArray n }
 | .tup xs=>(xs.length<=sizeLine/\∃ o,h.get? a=iB o/\o.dict=iD)/\∃ its:List iE,Vals xs its/\IsTup h a its.toArray
 | .dK kvs=>kvs.length<=sizeLine/\(a == sysModules)=iF/\∃ vs,KV kvs vs/\h.DictOf (ja P w) a vs
 | .dT kvs=>kvs.length<=sizeLine/\(a == sysModules)=iF/\∃ xs:List (List Key×Addr×iE),lI (λ(p:List Key×V) (q:List Key×Addr×iE)=>p.1=q.1/\H q.2.1=iB (.tup (p.1.map kV))/\RelV p.2 q.2.2) kvs xs /\
   ∃ o es ep,h.get? a=iB o/\o.ExactDict/\o.data=.dict es ep/\es.toList=xs.map (entryOfKey (tupleKind (ja P w)))/\(xs.map (·.1)).Nodup
 | .set S n=>h.SetOf (intKind P w) a S n
 | .ins C dx fs=>H dx=iB (.own a)/\fs.length<=1000/\dx≠a/\h.get? a=iB (cM C dx) /\
   ∃ mA,h.Ns1 dx mA/\(∀ f,RelO (fs.lookup f) (mA f))/\PySem.Within mA (fs.map (·.1))
 | .own _=>∃ o,h.get? a=iB o
 | .xd fs=>∃ mA,h.Ns1 a mA/\∀ f,RelO (fs.lookup f) (mA f)
 | .rng lo hi=>∃ t u v,h.get? a=iB { cls:=.type "range",data:=.fields #[.int lo t,.int hi u,.int 1 v] }
 | .frz o u=>h.get? a=iB o/\ObjOk H h a u
 | .tbl ps=>h.get? a=iB { cls:=.none,data:=.fields ps }
 | .met f x=>h.get? a=iB (fH (.ref f) (.ref x))
 | .ext φ=>φ h/\(∃ o,h.get? a=iB o)/\∀ h1 h2:Heap,φ h1->(∀ o,h1.get? a=iB o->h2.get? a=iB o)->φ h2
def HOk (H:Hp) (h:Heap):Prop:=∀ a o,H a=iB o->ObjOk P w H h a o
end
variable {P:iJ} {w:iK} {H':Hp} {h h':Heap} {α:Type}
section
theorem ObjOk.lt (x:ObjOk P w H h a o):a < h.objs.size:=by
 cases o with
 | lst xs=>obtain ⟨_,_,_,_,e⟩:=x; exact aq e
 | tup xs=>obtain ⟨_,_,_,p⟩:=x; exact p.lt
 | dK kvs=>obtain ⟨_,_,_,_,o,_,_,e,_⟩:=x; exact aq e
 | dT kvs=>obtain ⟨_,_,_,_,o,_,_,e,_⟩:=x; exact aq e
 | set S n=>obtain ⟨o,_,_,_,e,_⟩:=x; exact aq e
 | ins C dx fs=>obtain ⟨_,_,_,e,_⟩:=x; exact aq e
 | own y=>obtain ⟨_,e⟩:=x; exact aq e
 | xd fs=>obtain ⟨_,⟨_,_,_,e,_⟩,_⟩:=x; exact aq e
 | rng lo hi=>obtain ⟨_,_,_,e⟩:=x; exact aq e
 | frz b u=>obtain ⟨e,_⟩:=x; exact aq e
 | tbl ps=>exact aq (show h.get? a=iB _ from x)
 | met f y=>exact aq (show h.get? a=iB _ from x)
 | ext φ=>obtain ⟨_,⟨_,e⟩,_⟩:=x; exact aq e
theorem Paired.mapP {β:Type} {F G:α->β->Prop}:∀ {c:List α} {l:List β},lI F c l->(∀ a b,F a b->G a b)->lI G c l
 | _,_,.nil,_=>.nil
 | _,_,.cons r t,f=>.cons (f _ _ r) (Paired.mapP t f)
theorem ObjOk.stay (x:ObjOk P w H h a o) (k:∀ b u,(b=a\/H b=iB (.own a))->h.get? b=iB u->h'.get? b=iB u)
  (m:∀ b,H b=iB (.own a)->H' b=iB (.own a)) (l:∀ b xs,H b=iB (.tup xs)->H' b=iB (.tup xs)):ObjOk P w H' h' a o:=by
 induction o with
 | lst xs=>obtain ⟨z,its,n,r,e⟩:=x; exact ⟨z,its,n,r,k _ _ (.inl rfl) e⟩
 | tup xs=>obtain ⟨⟨z,o2,i,d2⟩,its,r,g,e,c⟩:=x; exact ⟨⟨z,o2,k _ _ (.inl rfl) i,d2⟩,its,r,g,k _ _ (.inl rfl) e,c⟩
 | dK kvs=>obtain ⟨z,y,vs,r,g,es,ep,e,c⟩:=x; exact ⟨z,y,vs,r,g,es,ep,k _ _ (.inl rfl) e,c⟩
 | dT kvs=>obtain ⟨z,y,xs,r,g,es,ep,e,c⟩:=x;exact ⟨z,y,xs,Paired.mapP r λp q z=>⟨z.1,l _ _ z.2.1,z.2.2⟩,g,es,ep,k _ _ (.inl rfl) e,c⟩
 | set S n=>obtain ⟨g,es,ep,t,e,c⟩:=x; exact ⟨g,es,ep,t,k _ _ (.inl rfl) e,c⟩
 | ins C dx fs=>obtain ⟨d,z,ne,e,mA,⟨od,es,ep,i,c⟩,r⟩:=x;exact ⟨m _ d,z,ne,k _ _ (.inl rfl) e,mA,⟨od,es,ep,k _ _ (.inr d) i,c⟩,r⟩
 | own y=>obtain ⟨g,e⟩:=x; exact ⟨g,k _ _ (.inl rfl) e⟩
 | xd fs=>obtain ⟨mA,⟨od,es,ep,e,c⟩,r⟩:=x; exact ⟨mA,⟨od,es,ep,k _ _ (.inl rfl) e,c⟩,r⟩
 | rng lo hi=>obtain ⟨t,u,v,e⟩:=x; exact ⟨t,u,v,k _ _ (.inl rfl) e⟩
 | frz g u j=>obtain ⟨e,q⟩:=x; exact ⟨k _ _ (.inl rfl) e,j q⟩
 | tbl ps=>have e:h.get? a=iB { cls:=.none,data:=.fields ps }:=x;show h'.get? a=iB { cls:=.none,data:=.fields ps };exact k a _ (.inl rfl) e
 | met f y=>have e:h.get? a=iB (fH (.ref f) (.ref y)):=x;show h'.get? a=iB (fH (.ref f) (.ref y));exact k a _ (.inl rfl) e
 | ext φ=>obtain ⟨p,⟨o,e⟩,st⟩:=x; exact ⟨st _ _ p λo q=>k _ _ (.inl rfl) q,⟨o,k _ _ (.inl rfl) e⟩,st⟩
theorem HOk.lt (x:HOk P w H h) (e:H a=iB o):a < h.objs.size:=(x a o e).lt
theorem HOk.fresh (x:HOk P w H h) (e:h.objs.size<=a):H a=none:=by
 cases q:H a with
 | none=>rfl
 | some u=>exact absurd (aH (x.lt q) e) (bL _)
theorem HOk.kept (x:HOk P w H h) (k:∀ b u,h.get? b=iB u->h'.get? b=iB u):HOk P w H h':=λa o e=>
 (x a o e).stay (λb u _ q=>k b u q) (λ_ q=>q) λ_ _ q=>q
theorem HOk.laid (x:HOk P w H h) (k:∀ b u,h.get? b=iB u->h'.get? b=iB u) (hp:h.objs.size<=a) (new:ObjOk P w (upd H a o) h' a o):HOk P w (upd H a o) h':=λb u e=>by
 have n:=x.fresh hp;by_cases d:b=a;·subst d; rw [qt] at e; cases e; exact new
 ·rw [qB d] at e;exact (x b u e).stay (λc v _ q=>k c v q) (λc q=>by rw [qB (qH q n)]; exact q) λc xs q=>by rw [qB (qH q n)]; exact q
end
def Rd (H:Hp) (a:Addr) (u:HO):Prop:=H a=iB u\/∃ o,H a=iB (.frz o u)
theorem Rd.ok {u:HO} (r:Rd H a u) (x:HOk P w H h):ObjOk P w H h a u:=by
 rcases r with r | ⟨o,r⟩
 ·exact x a u r
 ·obtain ⟨_,q⟩:=x a _ r;exact q
def Mut:Option HO->Prop
 | some (.lst _)=>True
 | some (.dK _)=>True
 | some (.dT _)=>True
 | some (.set _ _)=>True
 | some (.ins _ _ _)=>True
 | some (.ext _)=>True
 | _=>False
section
variable {x e:Addr} {o':HO}
theorem HOk.write (ok:HOk P w H h) (m:Mut (H x)) (i:e=x\/H e=iB (.own x)) (k:∀ b u,b≠e->h.get? b=iB u->h'.get? b=iB u) (o:∃ u,h'.get? e=iB u)
  (new:ObjOk P w (upd H x o') h' x o'):HOk P w (upd H x o') h':=λb u q=>by
 have n:∀ c y,H c=iB (.own y)->c≠x:=λc y r z=>by subst z; rw [r] at m; exact m
 have p:∀ c xs,H c=iB (.tup xs)->c≠x:=λc xs r z=>by subst z; rw [r] at m; exact m
 by_cases f:b=x;·subst f; rw [qt] at q; cases q; exact new
 ·rw [qB f] at q;by_cases a:b=e
  ·have g:H b=iB (.own x):=by
    rcases i with z | z;·exact absurd (a.trans z) f
    ·rw [a]; exact z
   rw [q] at g; cases g;obtain ⟨v,j⟩:=o;exact ⟨v,by rw [a]; exact j⟩
  ·refine (ok b u q).stay (λc v d r=>k c v ?_ r) (λc r=>by rw [qB (n c b r)]; exact r) λc xs r=>by rw [qB (p c xs r)]; exact r
   rcases d with rfl | d;·exact a
   ·rintro rfl;rcases i with z | z;·exact n c b d z
    ·rw [d] at z; cases z; exact f rfl
end
structure Un (fs ex:List Addr) (H H':Hp) (h h':Heap):Prop where
 keep:∀ b o,h.get? b=iB o->H b=iD->b∉fs->b∉ex->h'.get? b=iB o
 slot:∀ b o,h.get? b=iB o->H b=iD->b∈fs->b∉ex->∃ sl,h'.get? b=iB { o with slots:=sl }
 free:∀ b o,h.get? b=iB o->H b=iD->b∉ex->H' b=iD
 there:∀ b o,h.get? b=iB o->b∉ex->∃ o',h'.get? b=iB o'
 tups:∀ b xs,H b=iB (.tup xs)->H' b=iB (.tup xs)
 frzs:∀ b o u,H b=iB (.frz o u)->H' b=iB (.frz o u)
 tbls:∀ b ps,H b=iB (.tbl ps)->∃ more,H' b=iB (.tbl (ps++more))
section
variable {fs fs' ex ex':List Addr} {H1 H2:Hp} {h1 h2:Heap} {x e:Addr}
theorem Un.any (u:Un fs ex H H1 h h1) {o:Obj} (q:h.get? b=iB o) (n:H b=iD) (hx:b∉ex):∃ sl,h1.get? b=iB { o with slots:=sl }:=by
 by_cases d:b∈fs;·exact u.slot b o q n d hx
 ·exact ⟨o.slots,u.keep b o q n d hx⟩
theorem Un.kept (k:∀ b u,h.get? b=iB u->h'.get? b=iB u):Un fs ex H H h h':=
 ⟨λb o q _ _ _=>k b o q,λb o q _ _ _=>⟨o.slots,k b o q⟩,λ_ _ _ n _=>n,λb o q _=>⟨o,k b o q⟩,λ_ _ q=>q,λ_ _ _ q=>q,λ_ ps q=>⟨#[],by rw [q]; simp⟩⟩
theorem Un.refl:Un fs ex H H h h:=Un.kept λ_ _ q=>q
theorem Un.laid (k:∀ b u,h.get? b=iB u->h'.get? b=iB u) (hp:h.objs.size<=a) (c:H a=iD):Un fs ex H (upd H a o) h h' where
 keep:=λb u q _ _ _=>k b u q
 slot:=λb u q _ _ _=>⟨u.slots,k b u q⟩
 free:=λb u q n _=>by rw [qB (aC (aH (aq q) hp))]; exact n
 there:=λb u q _=>⟨u,k b u q⟩
 tups:=λb xs q=>by rw [qB (qH q c)]; exact q
 frzs:=λb u xs q=>by rw [qB (qH q c)]; exact q
 tbls:=λb ps q=>⟨#[],by rw [qB (qH q c),q]; simp⟩
theorem Un.write (m:Mut (H x)) (i:e=x\/H e=iB (.own x)) (k:∀ b u,b≠e->h.get? b=iB u->h'.get? b=iB u) (d:∃ u,h'.get? e=iB u):Un fs ex H (upd H x o) h h':=by
 have hx:∀ b,H b=iD->b≠x:=λb n z=>by subst z; rw [n] at m; exact m
 have f:∀ b,H b=iD->b≠e:=λb n z=>by
  subst z;rcases i with r | r;·exact hx b n r
  ·rw [n] at r; cases r
 have c:∀ b u,H b=iB u->¬Mut (iB u)->b≠x:=λb u q nm z=>by subst z; rw [q] at m; exact nm m
 refine ⟨λb u q n _ _=>k b u (f b n) q,λb u q n _ _=>⟨u.slots,k b u (f b n) q⟩,λb u q n _=>by rw [qB (hx b n)]; exact n,λb u q _=>?_,λb xs q=>by rw [qB (c b _ q λz=>z)]; exact q,λb u xs q=>by rw [qB (c b _ q λz=>z)]; exact q,λb ps q=>⟨#[],by rw [qB (c b _ q λz=>z),q]; simp⟩⟩;by_cases a:b=e;·subst a; exact d
 ·exact ⟨u,k b u a q⟩
end
noncomputable def trk (h:Heap) (H:Hp):List Addr:=(au h.objs.size).filter λa=>(H a).isSome
noncomputable def qaP (h:Heap) (H:Hp):Heap:=bg h (trk h H)
theorem XV (h:Heap) (H:Hp):(qaP h H).objs.size=h.objs.size:=PySem.W.hideAll_size _ _
theorem qaQ {o:Obj} (e:h.get? b=iB o) (n:H b=iD):(qaP h H).get? b=iB o:=
 c6 _ e λc=>by have q:(H b).isSome=true:=(dt.mp c).2;rw [n] at q; simp at q
theorem qc2 {o:Obj} (e:(qaP h H).get? b=iB o):h.get? b=iB o/\H b=none:=by
 have a:h.get? b=iB o:=eh (trk h H) e;refine ⟨a,?_⟩;cases q:H b with
 | none=>rfl
 | some x=>have c:b∈trk h H:=dt.mpr ⟨aM.mpr (aq a),by simp [q]⟩;have z:(qaP h H).get? b=none:=cS (trk h H) c;rw [z] at e; cases e
noncomputable def qc3 (g h:Heap) (L:Addr):List (Addr×Obj):=(au h.objs.size).filterMap λa=>if a=L\/(g.get? a).isSome=iH then iD else (h.get? a).map λo=>(a,o)
noncomputable def rest (g h:Heap) (L d:Addr):List (Addr×Obj):=(qc3 g h L).filter λp=>decide (p.1≠d)
structure Mod (K:Frag) (mg:Str->Option iE) (base:Heap):Prop where
 kin:K.In base
 glob:base.Ns mainGlobals mg
 blt:∃ mb,base.Ns builtinsNs mb/\∀ x:Str,x ≠ "__name__"->mb x=bootBuiltins x
 nolimit:base.NoLimit
structure Cx where
 prog:iJ
 w:iK
 K:Frag
 mg:Str->Option iE
 base:Heap
 A:iP
 N:List Str
 s₀:iI
 H₀:Hp
 env:Env
 outer:List Env
 stack:List Env
 ex:List Addr
 fn:Str->Bool
 calm:Bool
 pn:List (Addr×Obj)
 xe:iE->iI->Prop
noncomputable def frs (l:List Env):List Addr:=l.filterMap (·.frame)
abbrev Cx.fs (X:Cx):List Addr:=frs X.outer
def Vis (sc:lc) (x:Str):Prop:=sc.names.lookup x=iB .local\/sc.names.lookup x=iB .cell\/sc.names.lookup x=iB .free
def Loc (sc:lc) (x:Str):Prop:=sc.names.lookup x=iB .local\/sc.names.lookup x=iB .cell
def VS (env:Env) (h:Heap) (m:Str->Option iE) (x:Str) (u:iE):Prop:=
 (env.kindOf x=iB .local/\m x=iB u)\/((env.kindOf x=iB .cell\/env.kindOf x=iB .free)/\∃ c,env.cells.lookup x=iB c/\h.IsCell c (iB u))
structure Cx.Ok (X:Cx):Prop where
 mod:Mod X.K X.mg X.base
 kind:X.env.scope.kind=.function
 glob:X.env.globals=mainGlobals
 blt:X.env.builtins=builtinsNs
 above:X.s₀.heap.objs.size<=X.env.locals
 inj:∀ x y c,X.env.cells.lookup x=iB c->X.env.cells.lookup y=iB c->x=y
 has:∀ x,(X.env.kindOf x=iB .cell\/X.env.kindOf x=iB .free)->∃ c,X.env.cells.lookup x=iB c
 cab:∀ x c,X.fn x=iH->X.env.cells.lookup x=iB c->X.s₀.heap.objs.size<=c
 hd:X.calm=iH->X.A.handled=iD
 frames:X.A.frames=iB X.stack
 stk:X.stack=X.outer\/(X.stack=X.env::X.outer/\X.env.frame=iB X.env.locals)
 exf:∀ b∈X.ex,b≠X.env.locals/\∀ x c,X.env.cells.lookup x=iB c->c≠b
 bs:∀ b o,X.base.get? b=iB o->X.s₀.heap.get? b=iB o/\X.H₀ b=iD
 bsz:X.base.objs.size<=X.s₀.heap.objs.size
 noex:∀ b o,X.base.get? b=iB o->b∉X.ex
 exfs:∀ b∈X.ex,b∉X.fs
 funs:X.s₀.heap.FunFrames X.base X.outer
 frf:∀ b∈X.fs,X.H₀ b=iD
structure Inv (X:Cx) (pins:List (Addr×Obj)) (σ:List (Option V)) (H:Hp) (s:iI):Prop where
 ok:X.Ok
 os:s.os=X.s₀.os
 bare:lr s.gens
 base:Un X.fs X.ex X.H₀ H X.s₀.heap s.heap
 loc:∃ m,s.heap.Ns X.env.locals m/\∀ (i:Nat) (x:Str) (v:V),X.N[i]?=iB x->σ[i]?=iB (iB v)->Vis X.env.scope x->∃ u,RelV v u/\VS X.env s.heap m x u
 cell:∀ x c,X.env.cells.lookup x=iB c->∃ v,s.heap.IsCell c v
 free:H X.env.locals=iD
 freeC:∀ x c,X.env.cells.lookup x=iB c->H c=iD
 pin:∀ p∈X.pn++pins,s.heap.get? p.1=iB p.2/\H p.1=iD/\p.1≠X.env.locals/\p.1∉X.fs/\∀ v,p.2.data≠.cell v
 hok:HOk X.prog X.w H s.heap
 len:σ.length=X.N.length
variable {x:Str} {X:Cx} {pins:List (Addr×Obj)} {s s':iI} {t' i:Nat} {ch:List Addr} {it:Addr} {v:V}
section
variable {σ:List (Option V)}
theorem Cx.Ok.nofr (ok:X.Ok) {o:Obj} (e:X.base.get? b=iB o):b∉X.fs:=λd=>by have:=(ok.funs.mem d).1;rw [e] at this; cases this
theorem Inv.bs (I:Inv X pins σ H s):∀ b o,X.base.get? b=iB o->s.heap.get? b=iB o/\H b=none:=λb o e=>
 ⟨I.base.keep b o (I.ok.bs b o e).1 (I.ok.bs b o e).2 (I.ok.nofr e) (I.ok.noex b o e),I.base.free b o (I.ok.bs b o e).1 (I.ok.bs b o e).2 (I.ok.noex b o e)⟩
theorem Inv.bk (I:Inv X pins σ H s):∀ b o,X.base.get? b=iB o->s.heap.get? b=iB o:=λb o e=>(I.bs b o e).1
theorem Inv.mod (I:Inv X pins σ H s):Mod X.K X.mg X.base:=I.ok.mod
theorem Inv.kIn (I:Inv X pins σ H s):X.K.In s.heap:=I.ok.mod.kin.keeps I.bk
theorem Inv.nolimit (I:Inv X pins σ H s):s.heap.NoLimit:=I.ok.mod.nolimit.keeps I.bk
theorem Inv.fr (I:Inv X pins σ H s):∃ m,Fr X.base X.env.locals s.heap m:=
 let ⟨m,n,_⟩:=I.loc
 ⟨m,n,I.bk,bz I.ok.bsz I.ok.above⟩
theorem Inv.lt (I:Inv X pins σ H s):X.env.locals < s.heap.objs.size:=let ⟨_,n,_⟩:=I.loc; n.lt
theorem Inv.sz (I:Inv X pins σ H s):X.s₀.heap.objs.size<=s.heap.objs.size:=bz I.ok.above (cH I.lt)
theorem Inv.nofs (I:Inv X pins σ H s) (h:s.heap.objs.size<=a):a∉X.fs:=λd=>by obtain ⟨_,o,m,_⟩:=I.ok.funs.mem d;exact absurd (aH (aq m) (bz I.sz h)) (bL _)
theorem Inv.cne (I:Inv X pins σ H s):∀ x c,X.env.cells.lookup x=iB c->c≠X.env.locals:=λx c e z=>by obtain ⟨v,o,b,hd⟩:=I.cell x c e;obtain ⟨m,⟨o',es,ep,h,a,_⟩,_⟩:=I.loc;rw [z,h] at b; cases b; rw [a] at hd; cases hd
theorem Inv.funs (I:Inv X pins σ H s):s.heap.FunFrames X.base X.outer:=by
 have all:∀ (l:List Env),(∀ b∈frs l,b∈X.fs)->X.s₀.heap.FunFrames X.base l->s.heap.FunFrames X.base l:=by
  intro l
  induction l with
  | nil=>intro _ _; trivial
  | cons env r j=>intro c hl;obtain ⟨k,⟨L,o,h,n,m,hd⟩,f⟩:=hl;have a:L∈X.fs:=c L (by unfold frs; rw [bj,h]; exact ai);obtain ⟨sl,e⟩:=I.base.slot L o m (I.ok.frf L a) a λz=>I.ok.exfs L z a;exact ⟨k,⟨L,_,h,n,e,hd⟩,j (λb d=>c b (by unfold frs; rw [bj,h]; exact ac _ d)) f⟩
 exact all X.outer (λ_ d=>d) I.ok.funs
theorem Inv.stack (I:Inv X pins σ H s):s.heap.FunFrames X.base X.stack:=by
 rcases I.ok.stk with e | ⟨e,hf⟩
 ·rw [e]; exact I.funs
 ·rw [e];obtain ⟨m,n,_⟩:=I.loc;refine .cons (by rw [I.ok.kind]; decide) hf n ?_ I.funs;exact Heap.get?_none_of_le (bz I.ok.bsz I.ok.above)
theorem Inv.stkSub (I:Inv X pins σ H s):∀ b∈frs X.stack,b∈X.env.locals::X.fs:=λb d=>by
 rcases I.ok.stk with e | ⟨e,hf⟩
 ·rw [e] at d; exact ac _ d
 ·rw [e] at d;unfold frs at d;rw [bj,hf] at d;exact d
theorem Inv.stkFree (I:Inv X pins σ H s):∀ b∈frs X.stack,H b=none:=λb d=>by
 rcases ae.mp (I.stkSub b d) with e | d;·rw [e]; exact I.free
 ·obtain ⟨_,o,m,_⟩:=I.ok.funs.mem d;exact I.base.free b o m (I.ok.frf b d) λz=>I.ok.exfs b z d
theorem Inv.step {g':Array lC} {t':Nat} {d':Drawn} {ch:List Addr} (I:Inv X pins σ H s)
  (a:∀ b∈ch,(b∈X.ex\/X.s₀.heap.objs.size<=b)/\b≠X.env.locals/\(∀ x c,X.env.cells.lookup x=iB c->c≠b)/\∀ p∈X.pn++pins,p.1≠b)
  (keep:∀ b o,b≠X.env.locals->b∉X.fs->b∉ch->s.heap.get? b=iB o->H b=iD->h'.get? b=iB o)
  (slot:∀ b o,b≠X.env.locals->b∈X.fs->b∉ch->s.heap.get? b=iB o->H b=iD->∃ sl,h'.get? b=iB { o with slots:=sl }) (free:∀ b o,b∉ch->s.heap.get? b=iB o->H b=iD->H' b=iD)
  (there:∀ b o,b∉ch->s.heap.get? b=iB o->∃ o',h'.get? b=iB o')
  (tups:∀ b xs,H b=iB (.tup xs)->H' b=iB (.tup xs)) (frzs:∀ b o u,H b=iB (.frz o u)->H' b=iB (.frz o u)) (tbls:∀ b ps,H b=iB (.tbl ps)->∃ more,H' b=iB (.tbl (ps++more)))
  (ns:∀ m,s.heap.Ns X.env.locals m->h'.Ns X.env.locals m) (hok:HOk X.prog X.w H' h') (hg:lr g') :
  Inv X pins σ H' { s with heap:=h',gens:=g',drawn:=d',toks:=t' }:=by
 have L:∀ b o,X.s₀.heap.get? b=iB o->b≠X.env.locals:=λb o e=>aC (aH (aq e) I.ok.above);have C:∀ b o,X.s₀.heap.get? b=iB o->b∉X.ex->b∉ch:=λb o e hx f=>by
  rcases (a b f).1 with z | z;·exact hx z
  ·exact absurd (aH (aq e) z) (bL _)
 have K:∀ x c,X.env.cells.lookup x=iB c->∀ v,s.heap.IsCell c v->h'.IsCell c v:=λx c e v ⟨o,g,hd⟩=>by
  have h:c∉ch:=λz=>(a c z).2.2.1 x c e rfl;by_cases A:c∈X.fs;·obtain ⟨sl,q⟩:=slot c o (I.cne x c e) A h g (I.freeC x c e);exact ⟨_,q,hd⟩
  ·exact ⟨o,keep c o (I.cne x c e) A h g (I.freeC x c e),hd⟩
 refine ⟨I.ok,I.os,hg,⟨λb o e n f hx=>?_,λb o e n f hx=>?_,λb o e n hx=>?_,λb o e hx=>?_,λb xs e=>tups b xs (I.base.tups b xs e),λb o xs e=>frzs b o xs (I.base.frzs b o xs e),λb ps e=>?_⟩,?_,λx c e=>?_,?_,λx c e=>?_,λp hp=>?_,hok,I.len⟩;·exact keep b o (L b o e) f (C b o e hx) (I.base.keep b o e n f hx) (I.base.free b o e n hx)
 ·obtain ⟨sl,e1⟩:=I.base.slot b o e n f hx;obtain ⟨t,j⟩:=slot b _ (L b o e) f (C b o e hx) e1 (I.base.free b o e n hx);exact ⟨t,j⟩
 ·obtain ⟨o',e1⟩:=I.base.there b o e hx;exact free b o' (C b o e hx) e1 (I.base.free b o e n hx)
 ·obtain ⟨o',e1⟩:=I.base.there b o e hx;exact there b o' (C b o e hx) e1
 ·obtain ⟨m1,e1⟩:=I.base.tbls b ps e;obtain ⟨B,j⟩:=tbls b _ e1;exact ⟨m1++B,by rw [j,Array.append_assoc]⟩
 ·obtain ⟨m,D,hl⟩:=I.loc;refine ⟨m,ns m D,λi x v e1 j E=>?_⟩;obtain ⟨u,r,l⟩:=hl i x v e1 j E;refine ⟨u,r,?_⟩;rcases l with l | ⟨k,c,e,z⟩
  ·exact .inl l
  ·exact .inr ⟨k,c,e,K x c e _ z⟩
 ·obtain ⟨v,z⟩:=I.cell x c e;exact ⟨v,K x c e v z⟩
 ·obtain ⟨m,⟨o,_,_,g,_⟩,_⟩:=I.loc;exact free _ o (λz=>(a _ z).2.1 rfl) g I.free
 ·obtain ⟨v,o,g,hd⟩:=I.cell x c e;exact free c o (λz=>(a c z).2.2.1 x c e rfl) g (I.freeC x c e)
 ·obtain ⟨e,n,ne,y,d⟩:=I.pin p hp;have h:p.1∉ch:=λz=>(a p.1 z).2.2.2 p hp rfl;exact ⟨keep p.1 p.2 ne y h e n,free p.1 p.2 h e n,ne,y,d⟩
theorem Inv.un (I:Inv X pins σ H s) (u:Un X.fs [] H H' s.heap h') (hok:HOk X.prog X.w H' h'):Inv X pins σ H' { s with heap:=h',toks:=t' }:=by obtain ⟨m,⟨o,es,ep,c,r⟩,_⟩:=id I.loc;obtain ⟨sl,L⟩:=u.any c I.free (by simp);exact I.step (g':=s.gens) (d':=s.drawn) (ch:=[]) (λ_ z=>nomatch z) (λb o _ d _ e n=>u.keep b o e n d (by simp)) (λb o _ d _ e n=>u.slot b o e n d (by simp)) (λb o _ e n=>u.free b o e n (by simp)) (λb o _ e=>u.there b o e (by simp)) u.tups u.frzs u.tbls (λg f=>by obtain ⟨o',es',a,h,r'⟩:=f;rw [c] at h; cases h;exact ⟨_,es',a,L,r'⟩) hok I.bare
theorem Inv.call {g':Array lC} {t':Nat} {d':Drawn} (I:Inv X pins σ H s) (u:Un (frs X.stack) ch H H' s.heap h') (hok:HOk X.prog X.w H' h') (hg:lr g')
  (a:∀ b∈ch,(b∈X.ex\/X.s₀.heap.objs.size<=b)/\b≠X.env.locals/\(∀ x c,X.env.cells.lookup x=iB c->c≠b)/\∀ p∈X.pn++pins,p.1≠b) :
  Inv X pins σ H' { s with heap:=h',gens:=g',drawn:=d',toks:=t' }:=by
 obtain ⟨m,⟨o,es,ep,g,r⟩,_⟩:=id I.loc;obtain ⟨sl,L⟩:=u.any g I.free λz=>(a _ z).2.1 rfl;exact I.step (ch:=ch) a (λb o L j d e n=>u.keep b o e n (λz=>(ae.mp (I.stkSub b z)).elim L j) d) (λb o _ _ d e n=>u.any e n d) (λb o d e n=>u.free b o e n d) (λb o d e=>u.there b o e d) u.tups u.frzs u.tbls (λk i=>by obtain ⟨o',es',f,h,r'⟩:=i;rw [g] at h; cases h;exact ⟨_,es',f,L,r'⟩) hok hg
theorem Inv.turned {t':Nat} (I:Inv X pins σ H s) (k:∀ b o,b≠it->s.heap.get? b=iB o->h'.get? b=iB o) (f:H it=iD) (a:it≠X.env.locals)
  (h1:it∈X.ex\/X.s₀.heap.objs.size<=it) (h2:∀ x c,X.env.cells.lookup x=iB c->c≠it) (h3:∀ p∈X.pn++pins,p.1≠it):Inv X pins σ H { s with heap:=h',toks:=t' }:=by
 have t:∀ b u,H b=iB u->b≠it:=λb u e z=>by rw [z,f] at e; cases e
 refine I.step (g':=s.gens) (d':=s.drawn) (ch:=[it]) (λb i=>?_) (λb o _ _ d e _=>k b o (λz=>d (by simp [z])) e) (λb o _ _ d e _=>⟨o.slots,k b o (λz=>d (by simp [z])) e⟩) (λ_ _ _ _ n=>n)
  (λb o d e=>⟨o,k b o (λz=>d (by simp [z])) e⟩) (λ_ _ e=>e) (λ_ _ _ e=>e) (λb ps e=>⟨#[],by rw [e]; simp⟩) (λm g=>?_) (λb u e=>?_) I.bare
 ·have e:b=it:=by simpa using i
  subst e;exact ⟨h1,a,h2,h3⟩
 ·obtain ⟨o,es,ep,h,r⟩:=g;exact ⟨o,es,ep,k _ o (ba a) h,r⟩
 ·refine (I.hok b u e).stay (λc v d q=>k c v ?_ q) (λ_ q=>q) λ_ _ q=>q;rcases d with z | z;·rw [z]; exact t b u e
  ·exact t c _ z
theorem Inv.tok (I:Inv X pins σ H s) (t:Nat):Inv X pins σ H { s with toks:=t }:=I.un (h':=s.heap) (t':=t) Un.refl I.hok
theorem Inv.kept (I:Inv X pins σ H s) (k:∀ b u,s.heap.get? b=iB u->h'.get? b=iB u):Inv X pins σ H { s with heap:=h',toks:=t' }:=I.un (Un.kept k) (I.hok.kept k)
theorem Inv.laid {t':Nat} (I:Inv X pins σ H s) (k:∀ b u,s.heap.get? b=iB u->h'.get? b=iB u) (hp:s.heap.objs.size<=a) (new:ObjOk X.prog X.w (upd H a o) h' a o):Inv X pins σ (upd H a o) { s with heap:=h',toks:=t' }:=I.un (Un.laid k hp (I.hok.fresh hp)) (I.hok.laid k hp new)
theorem Inv.write {x e:Addr} {o:HO} {t':Nat} (I:Inv X pins σ H s) (m:Mut (H x)) (i:e=x\/H e=iB (.own x)) (k:∀ b u,b≠e->s.heap.get? b=iB u->h'.get? b=iB u) (h:∃ u,h'.get? e=iB u)
  (new:ObjOk X.prog X.w (upd H x o) h' x o):Inv X pins σ (upd H x o) { s with heap:=h',toks:=t' }:=I.un (Un.write m i k h) (I.hok.write m i k h new)
theorem Inv.weak {σ':List (Option V)} (I:Inv X pins σ H s) (hl:σ'.length=σ.length) (w:∀ (i:Nat) v,σ'[i]?=iB (iB v)->σ[i]?=iB (iB v)):Inv X pins σ' H s:=
 ⟨I.ok,I.os,I.bare,I.base,let ⟨m,n,h⟩:=I.loc; ⟨m,n,λi x v e1 e E=>h i x v e1 (w i v e) E⟩,I.cell,I.free,I.freeC,I.pin,I.hok,hl.trans I.len⟩
theorem Inv.pins_of {a:List (Addr×Obj)} (I:Inv X pins σ H s) (h:∀ p∈a,s.heap.get? p.1=iB p.2/\H p.1=iD/\p.1≠X.env.locals/\p.1∉X.fs/\∀ v,p.2.data≠.cell v):Inv X a σ H s:=
 ⟨I.ok,I.os,I.bare,I.base,I.loc,I.cell,I.free,I.freeC,λp hp=>(aI.mp hp).elim (λz=>I.pin p (cy _ z)) (h p),I.hok,I.len⟩
theorem Uu {N:List Str} (h:N.Nodup) {j:Nat} (a:N[i]?=iB x) (b:N[j]?=iB x):i=j:=by obtain ⟨h1,e1⟩:=aB.mp a;obtain ⟨h2,e⟩:=aB.mp b;exact (fY h).mp (e1.trans e.symm)
theorem Kn {M:Model} {A:iP} {E:iE->iI->Prop} {Q:Unit->iI->Prop} (I:Inv X pins σ H s) (hN:X.N.Nodup) (hi:X.N[i]?=iB x) (hx:Loc X.env.scope x) (r:RelV v u)
  (h:∀ s',Inv X pins (σ.set i (iB v)) H s'->(∃ a,bt a s.heap s'.heap/\(a=X.env.locals\/X.env.cells.lookup x=iB a))->Q () s') (hf:X.fn x=iH\/X.env.scope.names.lookup x=iB .local:=by first | exact .inl rfl | exact .inr rfl | assumption):wpAny M A (storeName X.env x u) Q E s:=by
 obtain ⟨m,F,hl⟩:=id I.loc;have P:(X.env.scope.kind == .class||(X.env.scope.kind == .module&&X.env.locals != X.env.globals))=false:=by rw [I.ok.kind]; rfl
 have D:i < σ.length:=by rw [I.len]; exact (aB.mp hi).1
 have cne:=I.cne;have t:∀ {a:Addr} {h':Heap},(∃ o,s.heap.get? a=iB o/\H a=iD)->bt a s.heap h'->HOk X.prog X.w H h':=λ{a h'} ha f b ob e=>by
  obtain ⟨_,_,l⟩:=ha;refine (I.hok b ob e).stay (λc w' g q=>(f.2 c ?_).trans q) (λ_ q=>q) λ_ _ q=>q;rintro rfl;rcases g with rfl | g;·rw [l] at e; cases e
  ·rw [l] at g; cases g
 rcases hx with C | C
 ·refine wpAny_storeName_local C F (λh' Z f=>?_) P;obtain ⟨oL,_,_,Y,_⟩:=id F;refine h _ ⟨I.ok,I.os,I.bare,⟨λb o e n K hx=>?_,λb o e n K hx=>?_,I.base.free,λb o e hx=>?_,I.base.tups,I.base.frzs,I.base.tbls⟩,⟨_,Z,λj y U e1 B e3=>?_⟩,λy c e=>?_,I.free,I.freeC,λp hp=>?_,t ⟨oL,Y,I.free⟩ f,by simpa using I.len⟩ ⟨_,f,.inl rfl⟩;·exact (f.2 b (aC (aH (aq e) I.ok.above))).trans (I.base.keep b o e n K hx)
  ·obtain ⟨sl,e1⟩:=I.base.slot b o e n K hx;exact ⟨sl,(f.2 b (aC (aH (aq e) I.ok.above))).trans e1⟩
  ·obtain ⟨o',e1⟩:=I.base.there b o e hx;exact ⟨o',(f.2 b (aC (aH (aq e) I.ok.above))).trans e1⟩
  ·by_cases G:j=i;·subst G;rw [hi] at e1; cases e1;rw [aG D] at B;cases B;exact ⟨u,r,.inl ⟨C,by simp⟩⟩
   ·rw [ap (ba G)] at B;obtain ⟨V,r',q⟩:=hl j y U e1 B e3;refine ⟨V,r',?_⟩;rcases q with ⟨k,e⟩ | ⟨k,c,e,z⟩
    ·refine .inl ⟨k,?_⟩;have:y≠x:=λe=>G (Uu hN e1 (e ▸ hi));simp [this,e]
    ·exact .inr ⟨k,c,e,z.sameBut f (cne y c e)⟩
  ·obtain ⟨w',z⟩:=I.cell y c e;exact ⟨w',z.sameBut f (cne y c e)⟩
  ·obtain ⟨e,n,ne,W,d⟩:=I.pin p hp;exact ⟨(f.2 p.1 ne).trans e,n,ne,W,d⟩
 ·have J:X.fn x=true:=by
   rcases hf with z | z;·exact z
   ·rw [z] at C; cases C
  obtain ⟨c,g⟩:=I.ok.has x (.inl C);obtain ⟨w',z⟩:=I.cell x c g;refine wpAny_storeName_cell I.ok.kind C g z (λh' S f=>?_);obtain ⟨oc,O,L⟩:=id z;refine h { s with heap:=h' } ⟨I.ok,I.os,I.bare,⟨λb o e n K hx=>?_,λb o e n K hx=>?_,I.base.free,λb o e hx=>?_,I.base.tups,I.base.frzs,I.base.tbls⟩,⟨m,F.sameBut f (ba (cne x c g)),λj y U e1 B e3=>?_⟩,λy T e=>?_,I.free,I.freeC,λp hp=>?_,t ⟨oc,O,I.freeC x c g⟩ f,by simpa using I.len⟩ ⟨c,f,.inr g⟩;·exact (f.2 b (aC (aH (aq e) (I.ok.cab x c J g)))).trans (I.base.keep b o e n K hx)
  ·obtain ⟨sl,e1⟩:=I.base.slot b o e n K hx;exact ⟨sl,(f.2 b (aC (aH (aq e) (I.ok.cab x c J g)))).trans e1⟩
  ·obtain ⟨o',e1⟩:=I.base.there b o e hx;exact ⟨o',(f.2 b (aC (aH (aq e) (I.ok.cab x c J g)))).trans e1⟩
  ·by_cases G:j=i;·subst G;rw [hi] at e1; cases e1;rw [aG D] at B;cases B;exact ⟨u,r,.inr ⟨.inl C,c,g,S⟩⟩
   ·rw [ap (ba G)] at B;obtain ⟨V,r',q⟩:=hl j y U e1 B e3;refine ⟨V,r',?_⟩;rcases q with q | ⟨k,T,e,z'⟩
    ·exact .inl q
    ·refine .inr ⟨k,T,e,z'.sameBut f ?_⟩;rintro rfl;exact G (Uu hN e1 (I.ok.inj _ _ _ e g ▸ hi))
  ·by_cases R:T=c;·subst R; exact ⟨_,S⟩
   ·obtain ⟨w2,z2⟩:=I.cell y T e;exact ⟨w2,z2.sameBut f R⟩
  ·obtain ⟨e,n,ne,W,d⟩:=I.pin p hp;refine ⟨(f.2 p.1 ?_).trans e,n,ne,W,d⟩;intro q;rw [q,O] at e;have q':oc=p.2:=aU.inj e;exact d w' (by rw [<-q']; exact L)
theorem QW {M:Model} {A:iP} {E:iE->iI->Prop} {Q:Unit->iI->Prop} (I:Inv X pins σ H s) (a:X.N.Nodup) (hi:X.N[i]?=iB x) (hx:Loc X.env.scope x) (r:RelV v u)
  (h:∀ s',Inv X pins (σ.set i (iB v)) H s'->Q () s') (f:X.fn x=iH\/X.env.scope.names.lookup x=iB .local:=by first | exact .inl rfl | exact .inr rfl | assumption):wpAny M A (storeName X.env x u) Q E s:=
 Kn I a hi hx r (λs' b _=>h s' b) f
theorem Inv.call' (I:Inv X pins σ H s) (m:s'.os=s.os) (u:Un (frs X.stack) ch H H' s.heap s'.heap) (hok:HOk X.prog X.w H' s'.heap) (hg:lr s'.gens)
  (a:∀ b∈ch,(b∈X.ex\/X.s₀.heap.objs.size<=b)/\b≠X.env.locals/\(∀ x c,X.env.cells.lookup x=iB c->c≠b)/\∀ p∈X.pn++pins,p.1≠b):Inv X pins σ H' s':=by
 obtain ⟨h',g',d',t',o'⟩:=s';have e:o'=s.os:=m;subst e;exact I.call (g':=g') (t':=t') (d':=d') u hok hg a
end
abbrev XK:=iE->Option Addr->Hp->Prop
abbrev St:=List (Option V)
abbrev VK:=V->Hp->Prop
abbrev TE:=St->Hp->VK->Prop
abbrev TT:=St->Hp->(Bool->Hp->Prop)->Prop
abbrev TA:=St->Hp->(List V->Hp->Prop)->Prop
structure Ends where
 nx:St->Hp->Prop
 rt:VK
 bk:St->Hp->Prop:=λ_ _=>False
 ct:St->Hp->Prop:=λ_ _=>False
abbrev TS:=Ends->St->Hp->Prop
def EP (X:Cx) (pins:List (Addr×Obj)) (σ:St) (Q:VK) (u:iE) (s':iI):Prop:=∃ v H',Inv X pins σ H' s'/\RelV v u/\Q v H'
def TP (X:Cx) (pins:List (Addr×Obj)) (σ:St) (Q:Bool->Hp->Prop) (b:Bool) (s':iI):Prop:=∃ H',Inv X pins σ H' s'/\Q b H'
def AP (X:Cx) (pins:List (Addr×Obj)) (σ:St) (Q:List V->Hp->Prop) (us:List iE) (s':iI):Prop:=∃ vs H',Inv X pins σ H' s'/\Vals vs us/\Q vs H'
def SP (X:Cx) (pins:List (Addr×Obj)) (D:Ends) (f:Flow) (s':iI):Prop:=
 match f with
 | .next=>∃ σ' H',Inv X pins σ' H' s'/\D.nx σ' H'
 | .brk=>∃ σ' H',Inv X pins σ' H' s'/\D.bk σ' H'
 | .cont=>∃ σ' H',Inv X pins σ' H' s'/\D.ct σ' H'
 | .ret u=>∃ v σ' H',Inv X pins σ' H' s'/\RelV v u/\D.rt v H'
structure PE (X:Cx) (e:Expr) (t:TE):Prop where
 run:∀ (pins:List (Addr×Obj)) (s:iI) (σ:St) (H:Hp) (Q:VK),Inv X pins σ H s->t σ H Q->wpAny (model X.prog X.w) X.A (eval e X.env) (EP X pins σ Q) X.xe s
instance {X:Cx} {e:Expr} {t:TE}:CoeFun (PE X e t) (λ_=>∀ (pins:List (Addr×Obj)) (s:iI) (σ:St) (H:Hp) (Q:VK),Inv X pins σ H s->t σ H Q->wpAny (model X.prog X.w) X.A (eval e X.env) (EP X pins σ Q) X.xe s):=⟨λh=>h.run⟩
structure PT (X:Cx) (e:Expr) (t:TT):Prop where
 run:∀ (pins:List (Addr×Obj)) (s:iI) (σ:St) (H:Hp) (Q:Bool->Hp->Prop),Inv X pins σ H s->t σ H Q->wpAny (model X.prog X.w) X.A (isTrue e X.env (eval e X.env)) (TP X pins σ Q) X.xe s
instance {X:Cx} {e:Expr} {t:TT}:CoeFun (PT X e t) (λ_=>∀ (pins:List (Addr×Obj)) (s:iI) (σ:St) (H:Hp) (Q:Bool->Hp->Prop),Inv X pins σ H s->t σ H Q->wpAny (model X.prog X.w) X.A (isTrue e X.env (eval e X.env)) (TP X pins σ Q) X.xe s):=⟨λh=>h.run⟩
structure PW (X:Cx) (e:Expr) (t:TT):Prop where
 run:∀ (whole:Sem iE) (pins:List (Addr×Obj)) (s:iI) (σ:St) (H:Hp) (Q:Bool->Hp->Prop),Inv X pins σ H s->t σ H Q->wpAny (model X.prog X.w) X.A (isTrue e X.env whole) (TP X pins σ Q) X.xe s
instance {X:Cx} {e:Expr} {t:TT}:CoeFun (PW X e t) (λ_=>∀ (whole:Sem iE) (pins:List (Addr×Obj)) (s:iI) (σ:St) (H:Hp) (Q:Bool->Hp->Prop),Inv X pins σ H s->t σ H Q->wpAny (model X.prog X.w) X.A (isTrue e X.env whole) (TP X pins σ Q) X.xe s):=⟨λh=>h.run⟩
variable {e:Expr}
theorem PW.pt {t:TT} (h:PW X e t):PT X e t:=⟨h.run _⟩
structure PA (X:Cx) (es:List Expr) (t:TA):Prop where
 run:∀ (pos:Pos) (pins:List (Addr×Obj)) (s:iI) (σ:St) (H:Hp) (Q:List V->Hp->Prop),Inv X pins σ H s->t σ H Q->wpAny (model X.prog X.w) X.A (spliced (backTo pos (starEach es X.env))) (AP X pins σ Q) X.xe s
instance {X:Cx} {es:List Expr} {t:TA}:CoeFun (PA X es t) (λ_=>∀ (pos:Pos) (pins:List (Addr×Obj)) (s:iI) (σ:St) (H:Hp) (Q:List V->Hp->Prop),Inv X pins σ H s->t σ H Q->wpAny (model X.prog X.w) X.A (spliced (backTo pos (starEach es X.env))) (AP X pins σ Q) X.xe s):=⟨λh=>h.run⟩
structure PS (X:Cx) (st:Stmt) (t:TS):Prop where
 run:∀ (pins:List (Addr×Obj)) (s:iI) (σ:St) (H:Hp) (D:Ends),Inv X pins σ H s->t D σ H->wpAny (model X.prog X.w) X.A (exec st X.env) (SP X pins D) X.xe s
instance {X:Cx} {st:Stmt} {t:TS}:CoeFun (PS X st t) (λ_=>∀ (pins:List (Addr×Obj)) (s:iI) (σ:St) (H:Hp) (D:Ends),Inv X pins σ H s->t D σ H->wpAny (model X.prog X.w) X.A (exec st X.env) (SP X pins D) X.xe s):=⟨λh=>h.run⟩
structure PSs (X:Cx) (st:List Stmt) (t:TS):Prop where
 run:∀ (pins:List (Addr×Obj)) (s:iI) (σ:St) (H:Hp) (D:Ends),Inv X pins σ H s->t D σ H->wpAny (model X.prog X.w) X.A (execs st X.env) (SP X pins D) X.xe s
instance {X:Cx} {st:List Stmt} {t:TS}:CoeFun (PSs X st t) (λ_=>∀ (pins:List (Addr×Obj)) (s:iI) (σ:St) (H:Hp) (D:Ends),Inv X pins σ H s->t D σ H->wpAny (model X.prog X.w) X.A (execs st X.env) (SP X pins D) X.xe s):=⟨λh=>h.run⟩
variable {A:iP} {E:iE->iI->Prop}
theorem thn {t:Sem α} {Q b:α->iI->Prop} {M:Model} (h:wpAny M A t Q E s) (c:∀ a s,Q a s->b a s):wpAny M A t b E s:=i8 h c λ_ _ x=>x
variable {σ:St} {pos:Pos} {Q:iE->iI->Prop} {ta:TE} {c:Expr}
section
def qil (i:Nat):TE:=λσ H Q=>∃ v,σ[i]?=iB (iB v)/\Q v H
def tC (v:V):TE:=λ_ H Q=>Q v H
theorem xT (j:X.N[i]?=iB x) (f:Vis X.env.scope x) (hd:(x == ("__debug__":Str))=false:=by decide) (d:(x == ("__classdict__":Str))=false:=by decide):PE X (.Name x pos) (qil i):=by
 refine ⟨?_⟩;intro pins s σ H Q I h;obtain ⟨v,e,h⟩:=h;obtain ⟨m,n,hl⟩:=I.loc;obtain ⟨u,r,l⟩:=hl i x v j e f;have fin:EP X pins σ Q u s:=⟨v,H,I,r,h⟩
 rcases l with ⟨k,g⟩ | ⟨k,c,b,a⟩
 ·exact wpAny_Name (wpAny_loadName_local I.ok.kind k n g fin) hd
 ·rcases k with k | k;·exact wpAny_Name (wpAny_loadName_cell I.ok.kind k b a fin) hd
  ·exact wpAny_Name (wpAny_loadName_free I.ok.kind k b a fin d) hd
theorem qe4 {i j pos}:PE X (.Constant (.int i) j pos) (tC (.int i)):=⟨λ_ _ _ H _ I h=>wpAny_Constant_int ⟨.int i,H,I.tok _,⟨_,rfl⟩,h⟩⟩
theorem qc4 {b j pos}:PE X (.Constant (.bool b) j pos) (tC (.bl b)):=⟨λ_ _ _ H _ I h=>Constant_bool ⟨.bl b,H,I,rfl,h⟩⟩
theorem qe5 {j pos}:PE X (.Constant .none j pos) (tC .non):=⟨λ_ _ _ H _ I h=>Constant_none ⟨.non,H,I,rfl,h⟩⟩
theorem qe6 {x j pos}:PE X (.Constant (.str x) j pos) (tC (.str x)):=⟨λ_ _ _ H _ I h=>Calls.Constant_str ⟨.str x,H,I.tok _,⟨_,rfl⟩,h⟩⟩
def Gl (X:Cx) (x:Str):Prop:=X.env.kindOf x=iB .globalImplicit
theorem zU {E:iE->iI->Prop} {pos:Pos} (I:Inv X pins σ H s) (hg:Gl X x) (c:X.mg x=iB u) (h:Q u s)
  (hd:(x == ("__debug__":Str))=false:=by decide):wpAny (model X.prog X.w) X.A (eval (.Name x pos) X.env) Q E s:=
 Calls.Name_function_global I.ok.kind hg (Calls.loadGlobal_global (by rw [I.ok.glob]; exact I.mod.glob.keeps I.bk) c h) hd
theorem yK {E:iE->iI->Prop} {pos:Pos} (I:Inv X pins σ H s) (hg:Gl X x) (m:X.mg x=iD) (c:bootBuiltins x=iB u) (h:Q u s)
  (n:x ≠ "__name__":=by decide) (hd:(x == ("__debug__":Str))=false:=by decide):wpAny (model X.prog X.w) X.A (eval (.Name x pos) X.env) Q E s:=by
 obtain ⟨mb,h1,h2⟩:=I.mod.blt;exact Calls.Name_function_global I.ok.kind hg (Calls.loadGlobal_builtin (by rw [I.ok.glob]; exact I.mod.glob.keeps I.bk) m (by rw [I.ok.blt]; exact h1.keeps I.bk) ((h2 x n).trans c) h) hd
theorem XW (hg:Gl X x) (c:X.mg x=iB u) (r:RelV v u) (hd:(x == ("__debug__":Str))=false:=by decide):PE X (.Name x pos) (tC v):=⟨λ_ _ _ H _ I h=>zU I hg c ⟨v,H,I,r,h⟩ hd⟩
theorem XX (hg:Gl X x) (m:X.mg x=iD) (c:bootBuiltins x=iB u) (r:RelV v u) (n:x ≠ "__name__":=by decide) (hd:(x == ("__debug__":Str))=false:=by decide):PE X (.Name x pos) (tC v):=⟨λ_ _ _ H _ I h=>yK I hg m c ⟨v,H,I,r,h⟩ n hd⟩
variable {a b:Expr} {tb:TE}
variable {tA tB':TT} {rest:List Expr}
def qiT (t u:TT):TT:=λσ H Q=>t σ H λc H1=>if c=iH then u σ H1 Q else Q iF H1
def tOr (t u:TT):TT:=λσ H Q=>t σ H λc H1=>if c=iH then Q iH H1 else u σ H1 Q
def qiU (t:TT):TT:=λσ H Q=>t σ H λc H1=>Q (!c) H1
theorem qc5 (g:PT X a tA):PW X (.BoolOp .And [a] pos) tA:=by
 refine ⟨?_⟩;intro w pins s σ H Q I h;refine isTrue_and (thn (g pins s σ H Q I h) λc s1 e=>?_);cases c with
 | true=>exact isTrue_and_nil e
 | false=>exact e
theorem qe7 (g:PT X a tA):PW X (.BoolOp .Or [a] pos) tA:=by
 refine ⟨?_⟩;intro w pins s σ H Q I h;refine isTrue_or (thn (g pins s σ H Q I h) λc s1 e=>?_);cases c with
 | false=>exact isTrue_or_nil e
 | true=>exact e
theorem qe8 (g:PT X a tA) (e:PW X (.BoolOp .And (b::rest) pos) tB'):PW X (.BoolOp .And (a::b::rest) pos) (qiT tA tB'):=by
 refine ⟨?_⟩;intro w pins s σ H Q I h;refine isTrue_and (thn (g pins s σ H _ I h) λc s1 ⟨H1,d,q⟩=>?_);cases c with
 | true=>exact e w pins s1 σ H1 Q d q
 | false=>exact ⟨H1,d,q⟩
theorem qha (g:PT X a tA) (e:PW X (.BoolOp .Or (b::rest) pos) tB'):PW X (.BoolOp .Or (a::b::rest) pos) (tOr tA tB'):=by
 refine ⟨?_⟩;intro w pins s σ H Q I h;refine isTrue_or (thn (g pins s σ H _ I h) λc s1 ⟨H1,d,q⟩=>?_);cases c with
 | true=>exact ⟨H1,d,q⟩
 | false=>exact e w pins s1 σ H1 Q d q
theorem qe9 (g:PT X a tA):PT X (.UnaryOp .Not a pos) (qiU tA):=by refine ⟨?_⟩;intro pins s σ H Q I h;exact isTrue_not (g pins s σ H (λc H1=>Q (!c) H1) I h)
def qhb (ta tb:TE):TE:=λσ H Q=>ta σ H λx H1=>∃ c,x=.bl c/\if c=iH then tb σ H1 Q else Q (.bl iF) H1
def qiV (ta tb:TE):TE:=λσ H Q=>ta σ H λx H1=>∃ c,x=.bl c/\if c=iH then Q (.bl iH) H1 else tb σ H1 Q
theorem qfa {op} {t:TE} (h:PE X a t):PE X (.BoolOp op [a] pos) t:=⟨λpins s σ H Q I hw=>BoolOp_one (h pins s σ H Q I hw)⟩
theorem qfb (g:PE X a ta) (e:PE X (.BoolOp .And (b::rest) pos) tb):PE X (.BoolOp .And (a::b::rest) pos) (qhb ta tb):=by
 refine ⟨?_⟩;intro pins s σ H Q I h;refine BoolOp_and (thn (g pins s σ H _ I h) λv s1 ⟨x,H1,d,r1,q⟩=>?_);obtain ⟨c,rfl,q⟩:=q;cases r1;refine i0 ?_;cases c with
 | true=>exact e pins s1 σ H1 Q d q
 | false=>exact ⟨.bl iF,H1,d,rfl,q⟩
theorem qhc (g:PE X a ta) (e:PE X (.BoolOp .Or (b::rest) pos) tb):PE X (.BoolOp .Or (a::b::rest) pos) (qiV ta tb):=by
 refine ⟨?_⟩;intro pins s σ H Q I h;refine BoolOp_or (thn (g pins s σ H _ I h) λv s1 ⟨x,H1,d,r1,q⟩=>?_);obtain ⟨c,rfl,q⟩:=q;cases r1;refine i0 ?_;cases c with
 | false=>exact e pins s1 σ H1 Q d q
 | true=>exact ⟨.bl iH,H1,d,rfl,q⟩
def tIf (t:TT) (ta tb:TE):TE:=λσ H Q=>t σ H λc H1=>if c=iH then ta σ H1 Q else tb σ H1 Q
theorem qaR (f:PT X c tA) (i:PE X a ta) (g:PE X b tb):PE X (.IfExp c a b pos) (tIf tA ta tb):=by
 refine ⟨?_⟩;intro pins s σ H Q I h;refine wpAny_IfExp (thn (f pins s σ H _ I h) λd s1 ⟨H1,e,q⟩=>?_);cases d with
 | true=>exact i pins s1 σ H1 Q e q
 | false=>exact g pins s1 σ H1 Q e q
end
def SqL (K:Frag) (H:Hp) (a:Addr) (xs:List V):Prop:=
 Rd H a (.lst xs) \/
  ∃ (o:Obj) (its:Array iE) (n:Nat),K.lookup a=iB o/\o.cls=.type "list"/\o.dict=iD/\o.data=.seq its n/\its.size<=sizeLine/\Vals xs its.toList
def SqT (K:Frag) (H:Hp) (a:Addr) (xs:List V):Prop:=
 Rd H a (.tup xs) \/
  ∃ (o:Obj) (its:Array iE) (n:Nat),K.lookup a=iB o/\(o.cls=.type "tuple"/\o.dict=iD)/\o.data=.seq its n/\its.size<=sizeLine/\Vals xs its.toList
noncomputable def qiW:iE->Option V
 | .none=>iB .non
 | .bool b=>iB (.bl b)
 | .int i _=>iB (.int i)
 | .str x _=>iB (.str x)
 | .bytes b _=>iB (.byt b)
 | .float b _=>iB (.flt b)
 | .ref a=>iB (.ref a)
 | .type n=>iB (.ty n)
 | _=>iD
theorem RelV.abs {x:V} (r:RelV x u):qiW u=iB x:=by
 cases x with
 | non=>cases r; rfl
 | bl _=>cases r; rfl
 | int _=>obtain ⟨t,rfl⟩:=r; rfl
 | str _=>obtain ⟨t,rfl⟩:=r; rfl
 | byt _=>obtain ⟨t,rfl⟩:=r; rfl
 | flt _=>obtain ⟨t,rfl⟩:=r; rfl
 | ref _=>cases r; rfl
 | ty _=>cases r; rfl
theorem RelV.inj {x y:V} (r:RelV x u) (q:RelV y u):x=y:=aU.inj (r.abs.symm.trans q.abs)
theorem Vals.inj:∀ {xs ys:List V} {us:List iE},Vals xs us->Vals ys us->xs=ys
 | _,_,_,.nil,.nil=>rfl
 | _,_,_,.cons r t,.cons r' t'=>by rw [r.inj r',Vals.inj t t']
variable {K:Frag}
section
variable {ys:List V}
theorem SqT.of (h:H a=iB (.tup xs)):SqT K H a xs:=.inl (.inl h)
theorem Inv.list (I:Inv X pins σ H s) (h:SqL X.K H a xs):∃ its:List iE,Vals xs its/\PlainL s.heap a its.toArray/\xs.length<=sizeLine:=by
 rcases h with h | ⟨o,its,n,hk,hc,hd,hs,hz,r⟩
 ·obtain ⟨z,its,n,r,e⟩:=h.ok I.hok;exact ⟨its,r,⟨_,n,e,rfl,rfl,rfl⟩,z⟩
 ·refine ⟨its.toList,r,⟨o,n,I.kIn a o hk,hc,hd,by simpa using hs⟩,?_⟩;have e:=r.length;simp only [cF] at e;omega
theorem Inv.tuple (I:Inv X pins σ H s) (h:SqT X.K H a xs):∃ its:List iE,Vals xs its/\IsTup s.heap a its.toArray/\xs.length<=sizeLine:=by
 rcases h with h | ⟨o,its,n,hk,hc,hs,hz,r⟩
 ·obtain ⟨⟨z,_⟩,its,r,p⟩:=h.ok I.hok;exact ⟨its,r,p,z⟩
 ·refine ⟨its.toList,r,⟨o,I.kIn a o hk,hc.1,n,by simpa using hs⟩,?_⟩;have e:=r.length;simp only [cF] at e;omega
theorem Inv.tupleN (I:Inv X pins σ H s) (h:SqT X.K H a xs):∃ o,s.heap.get? a=iB o/\o.dict=none:=by
 rcases h with h | ⟨o,its,n,hk,hc,hs,hz,r⟩
 ·obtain ⟨⟨z,w⟩,its,r,p⟩:=h.ok I.hok;exact w
 ·exact ⟨o,I.kIn a o hk,hc.2⟩
theorem Inv.list_inj (I:Inv X pins σ H s) (h:SqL X.K H a xs) (h':SqL X.K H a ys):xs=ys:=by
 obtain ⟨its,r,⟨o,n,e,_,_,d⟩,_⟩:=I.list h;obtain ⟨its',r',⟨o',c,b,_,_,d'⟩,_⟩:=I.list h';rw [e] at b; cases b;rw [d] at d';injection d' with d1 _;have:its=its':=by simpa using congrArg Array.toList d1
 subst this;exact r.inj r'
theorem Inv.tuple_inj (I:Inv X pins σ H s) (h:SqT X.K H a xs) (h':SqT X.K H a ys):xs=ys:=by
 obtain ⟨its,r,⟨o,e,_,n,d⟩,_⟩:=I.tuple h;obtain ⟨its',r',⟨o',b,_,c,d'⟩,_⟩:=I.tuple h';rw [e] at b; cases b;rw [d] at d';injection d' with d1 _;have:its=its':=by simpa using congrArg Array.toList d1
 subst this;exact r.inj r'
end
variable {te:TE} {tc:TT}
section
variable {st:Stmt} {rest:List Stmt} {t u:TS}
def qhd:TS:=λD σ H=>D.nx σ H
def qiX (t u:TS):TS:=λD σ H=>t { D with nx:=u D } σ H
theorem XY:PSs X [] qhd:=⟨λ_ _ σ H _ I h=>lp ⟨σ,H,I,h⟩⟩
theorem qaS (h1:PS X st t) (h2:PSs X rest u):PSs X (st::rest) (qiX t u):=by
 refine ⟨?_⟩;intro pins s σ H D I h;refine wpAny_execs_cons (thn (h1 pins s σ H { D with nx:=u D } I h) λf s1 q=>?_);cases f with
 | next=>obtain ⟨σ',H',b,q⟩:=q;exact h2 pins s1 σ' H' D b q
 | ret v=>exact q
 | brk=>exact q
 | cont=>exact q
theorem qc6 (h1:PS X st t):PSs X [st] t:=by
 refine ⟨?_⟩;intro pins s σ H D I h;refine wpAny_execs_cons (thn (h1 pins s σ H D I h) λf s1 q=>?_);cases f with
 | next=>exact lp q
 | ret v=>exact q
 | brk=>exact q
 | cont=>exact q
theorem Inv.quiet (I:Inv X pins σ H s):interactive X.env=false:=by simp [interactive,I.ok.kind]
def qhe (te:TE):TS:=λD σ H=>te σ H λ_ H1=>D.nx σ H1
theorem qc7 (i:PE X e te) (c:swapsWith e iD pos.line X.env=pure false:=by rfl):PS X (.Expr e pos) (qhe te):=by refine ⟨?_⟩;intro pins s σ H D I h;exact wpAny_Expr_any (thn (i pins s σ H _ I h) λv s1 ⟨x,H1,d,r1,q⟩=>⟨σ,H1,d,q⟩) I.quiet c
def qiY (te:TE):TS:=λD σ H=>te σ H D.rt
theorem qfc (i:PE X e te):PS X (.Return (iB e) pos) (qiY te):=by refine ⟨?_⟩;intro pins s σ H D I h;exact wpAny_Return_some (thn (i pins s σ H _ I h) λv s1 ⟨x,H1,d,r1,q⟩=>⟨x,σ,H1,d,r1,q⟩)
def qiZ (c:TT) (t u:TS):TS:=λD σ H=>c σ H λb H1=>if b=iH then t D σ H1 else u D σ H1
theorem qhf {a b:List Stmt} (f:PT X c tc) (i:PSs X a t) (g:PSs X b u):PS X (.If c a b pos) (qiZ tc t u):=by
 refine ⟨?_⟩;intro pins s σ H D I h;refine wpAny_If (thn (f pins s σ H _ I h) λd s1 ⟨H1,e,q⟩=>?_);cases d with
 | true=>exact i pins s1 σ H1 D e q
 | false=>exact g pins s1 σ H1 D e q
end
abbrev TG:=V->St->Hp->(St->Hp->Prop)->Prop
abbrev TGs:=List V->St->Hp->(St->Hp->Prop)->Prop
structure PG (X:Cx) (target:Expr) (t:TG):Prop where
 run:∀ (pins:List (Addr×Obj)) (s:iI) (σ:St) (H:Hp) (v:V) (u:iE) (Q:St->Hp->Prop),Inv X pins σ H s->RelV v u->t v σ H Q ->wpAny (model X.prog X.w) X.A (assign target X.env u) (λ_ s'=>∃ σ' H',Inv X pins σ' H' s'/\Q σ' H') X.xe s
instance {X:Cx} {target:Expr} {t:TG}:CoeFun (PG X target t) (λ_=>∀ (pins:List (Addr×Obj)) (s:iI) (σ:St) (H:Hp) (v:V) (u:iE) (Q:St->Hp->Prop),Inv X pins σ H s->RelV v u->t v σ H Q ->wpAny (model X.prog X.w) X.A (assign target X.env u) (λ_ s'=>∃ σ' H',Inv X pins σ' H' s'/\Q σ' H') X.xe s):=⟨λh=>h.run⟩
structure PGs (X:Cx) (ts:List Expr) (t:TGs):Prop where
 run:∀ (pins:List (Addr×Obj)) (s:iI) (σ:St) (H:Hp) (vs:List V) (us:List iE) (Q:St->Hp->Prop),Inv X pins σ H s->Vals vs us->t vs σ H Q ->wpAny (model X.prog X.w) X.A (assignInOrder ((assignEach ts X.env).map (·.2)) us) (λ_ s'=>∃ σ' H',Inv X pins σ' H' s'/\Q σ' H') X.xe s
instance {X:Cx} {ts:List Expr} {t:TGs}:CoeFun (PGs X ts t) (λ_=>∀ (pins:List (Addr×Obj)) (s:iI) (σ:St) (H:Hp) (vs:List V) (us:List iE) (Q:St->Hp->Prop),Inv X pins σ H s->Vals vs us->t vs σ H Q ->wpAny (model X.prog X.w) X.A (assignInOrder ((assignEach ts X.env).map (·.2)) us) (λ_ s'=>∃ σ' H',Inv X pins σ' H' s'/\Q σ' H') X.xe s):=⟨λh=>h.run⟩
variable {es:List Expr}
section
def qfd (i:Nat):TG:=λv σ H Q=>Q (σ.set i (iB v)) H
theorem qc8 (a:X.N.Nodup) (hi:X.N[i]?=iB x) (hx:Loc X.env.scope x) (f:X.fn x=iH\/X.env.scope.names.lookup x=iB .local:=by first | exact .inl rfl | exact .inr rfl | assumption):PG X (.Name x pos) (qfd i):=by refine ⟨?_⟩;intro pins s σ H v u Q I r h;exact wpAny_assign_Name (QW I a hi hx r (λs' b=>⟨_,H,b,h⟩) f)
def qi0:TGs:=λvs σ H Q=>vs=[]/\Q σ H
def qhg (t:TG) (u:TGs):TGs:=λvs σ H Q=>∃ v r,vs=v::r/\t v σ H λσ' H'=>u r σ' H' Q
theorem qc9:PGs X [] qi0:=by refine ⟨?_⟩;intro pins s σ H vs us Q I r h;obtain ⟨e,h⟩:=h;subst e;cases r;exact assignInOrder_nil ⟨σ,H,I,h⟩
theorem qaT {t:TG} {u:TGs} (h1:PG X e t) (h2:PGs X es u)
  (c:(assignEach (e::es) X.env).map (·.2)=assign e X.env::(assignEach es X.env).map (·.2):=by rfl):PGs X (e::es) (qhg t u):=by
 refine ⟨?_⟩;intro pins s σ H vs us Q I r h;obtain ⟨v,vr,e1,h⟩:=h;subst e1;cases r with
 | cons r a=>rw [c];refine assignInOrder_cons (thn (h1 pins s σ H _ _ _ I r h) λ_ s1 ⟨σ1,H1,d,q⟩=>?_);exact h2 pins s1 σ1 H1 _ _ Q d a q
def qi1 (K:Frag) (n:Nat) (t:TGs):TG:=λv σ H Q=>∃ a xs,v=.ref a/\SqT K H a xs/\xs.length=n/\t xs σ H Q
theorem qfe {k:Nat} {t:TGs} {n:Nat} (g:X.calm=iH) (h:PGs X es t)
  (f:(assignEach es X.env).length=n:=by rfl) (c:(assignEach es X.env).findIdx? (·.1)=none:=by rfl):PG X (.Tuple es k pos) (qi1 X.K n t):=by
 refine ⟨?_⟩;intro pins s σ H v u Q I r hw;obtain ⟨a,xs,e1,hq,hl,hw⟩:=hw;subst e1;cases r;obtain ⟨its,d,l,hz⟩:=I.tuple hq;refine assign_Tuple_tuple (I.ok.hd g) l (by simp [f,<-hl,d.length]) c λh' hx=>?_;have i:Inv X pins σ H { s with heap:=h' }:=I.kept (t':=s.toks) λb o e=>hx b o (aC (aq e)) e;exact h pins _ σ H xs _ Q i (by simpa using d) hw
def qi2 (te:TE) (g:TG):TS:=λD σ H=>te σ H λx H1=>g x σ H1 D.nx
theorem qcp {pos':Pos} (b:X.N.Nodup) (hi:X.N[i]?=iB x) (hx:Loc X.env.scope x) (a:PE X e te) (c:swapsWith e (iB (.Name x pos')) pos.line X.env=pure false:=by rfl) (f:X.fn x=iH\/X.env.scope.names.lookup x=iB .local:=by first | exact .inl rfl | exact .inr rfl | assumption):PS X (.Assign [.Name x pos'] e pos) (qi2 te (qfd i)):=by refine ⟨?_⟩;intro pins s σ H D I h;refine wpAny_Assign_Name (thn (a pins s σ H _ I h) λv s1 ⟨y,H1,g,r1,q⟩=>?_) c;exact QW g b hi hx r1 (λs2 d=>⟨_,H1,d,q⟩) f
end
variable {tb:TS} {body:List Stmt}
section
def qff (c:TT) (tb:TS):TS:=λD σ H=>∃ W:Nat->St->Hp->Prop,(∃ m,W m σ H)/\∀ m σ H,W m σ H ->c σ H λb H1=>if b=iH then ∃ N:St->Hp->Prop,(∀ σ' H',N σ' H'->∃ g,g < m/\W g σ' H')/\tb { D with nx:=N,ct:=N,bk:=D.nx } σ H1 else D.nx σ H1
theorem qaU (hp:PassesOwn (model X.prog X.w) X.A X.env X.xe) (t:PT X c tc) (u:PSs X body tb):PS X (.While c body [] pos) (qff tc tb):=by
 refine ⟨?_⟩;intro pins s σ H D I h;obtain ⟨W,⟨m0,r⟩,turn⟩:=h;refine wpAny_While (codeAny_whileLoop (λn s'=>∃ σ' H',Inv X pins σ' H' s'/\W n σ' H') ?_ m0 ⟨σ,H,I,r⟩);rintro n s1 ⟨σ1,H1,x,p⟩;refine j5 hp (thn (t pins s1 σ1 H1 _ x (turn n σ1 H1 p)) λb s2 ⟨H2,o,e⟩=>?_);cases b with
 | true=>
  obtain ⟨N,l,e⟩:=e;rw [if_pos rfl];refine j5 hp (thn (u pins s2 σ1 H2 _ o e) λf s3 q=>?_);cases f with
  | next=>obtain ⟨a,d,k,i⟩:=q;obtain ⟨m,j,g⟩:=l a d i;exact ⟨m,j,a,d,k,g⟩
  | cont=>obtain ⟨a,d,k,i⟩:=q;obtain ⟨m,j,g⟩:=l a d i;exact ⟨m,j,a,d,k,g⟩
  | brk=>exact q
  | ret v=>exact q
 | false=>rw [if_neg bE];exact lp ⟨σ1,H2,o,e⟩
end
structure It where
 go:Nat->Hp->Prop
 yld:Nat->Hp->V->Hp->Prop
 stop:Nat->Hp->Prop
def VT (X:Cx) (pins:List (Addr×Obj)) (H:Hp) (b:Addr):Prop:=
 H b=iD/\b≠X.env.locals/\b∉X.fs/\(b∈X.ex\/X.s₀.heap.objs.size<=b)/\(∀ x c,X.env.cells.lookup x=iB c->c≠b)/\∀ p∈X.pn++pins,p.1≠b
theorem Inv.fpOk (I:Inv X pins σ H s) (d:s.heap.objs.size<=b) (n:H' b=iD):VT X pins H' b:=by
 refine ⟨n,cT (aH I.lt d),I.nofs d,.inr (bz I.sz d),λx c e z=>?_,λp hp z=>?_⟩;·obtain ⟨v,q⟩:=I.cell x c e;exact absurd (aH q.lt (by rw [z]; exact d)) (bL _)
 ·exact absurd (aH (aq (I.pin p hp).1) (by rw [z]; exact d)) (bL _)
structure Turn (P:iJ) (w:iK) (K:Frag) (tg:Expr) (J:It) (fp:List Addr) (it:Addr) (tn:Nat->Heap->Prop):Prop where
 mem:it∈fp
 obj:∀ i h,tn i h->∀ b∈fp,∃ o,h.get? b=iB o/\∀ v,o.data≠.cell v
 keep:∀ i h h',tn i h->(∀ b∈fp,∀ o,h.get? b=iB o->h'.get? b=iB o)->tn i h'
 item:∀ (X:Cx),X.prog=P->X.w=w->X.K=K->X.calm=iH->∀ (i:Nat) (pins:List (Addr×Obj)) (s:iI) (σ:St) (H:Hp) (E:iE->iI->Prop),Inv X pins σ H s->(∀ b∈fp,VT X pins H b)->tn i s.heap->J.go i H ->wpAny (model P w) X.A (pyNext (.ref it)) (λr s1=>∃ u,r=iB u /\
   wpAny (model P w) X.A (letOwnedTupleGo tg (.ref it) u) (λ_ s2=>∃ x H',Inv X pins σ H' s2/\RelV x u/\J.yld i H x H'/\tn (i+1) s2.heap/\∀ b∈fp,H' b=iD) E s1) E s
 done:∀ (X:Cx),X.prog=P->X.w=w->X.K=K->X.calm=iH->∀ (i:Nat) (pins:List (Addr×Obj)) (s:iI) (σ:St) (H:Hp) (E:iE->iI->Prop),Inv X pins σ H s->(∀ b∈fp,VT X pins H b)->tn i s.heap->J.stop i H ->wpAny (model P w) X.A (pyNext (.ref it)) (λr s1=>r=iD/\Inv X pins σ H s1) E s
 self:∀ (A:iP) (i:Nat) (s:iI) (Q:iE->iI->Prop) (E:iE->iI->Prop),tn i s.heap->Q (.ref it) s->wpAny (model P w) A (pyIter (.ref it)) Q E s
abbrev TI:=St->Hp->(It->Hp->Prop)->Prop
def PIE (X:Cx) (pins:List (Addr×Obj)) (σ:St) (tg:Expr) (R:It->Hp->Prop) (i:iE) (s2:iI):Prop:=
 ∃ (it:Addr) (fp:List Addr) (tn:Nat->Heap->Prop) (J:It) (H':Hp),i=.ref it/\Inv X pins σ H' s2/\Turn X.prog X.w X.K tg J fp it tn/\tn 0 s2.heap/\(∀ b∈fp,VT X pins H' b)/\R J H'
structure PI (X:Cx) (tg iter:Expr) (wi:TI):Prop where
 run:∀ (pins:List (Addr×Obj)) (s:iI) (σ:St) (H:Hp) (R:It->Hp->Prop),Inv X pins σ H s->wi σ H R ->wpAny (model X.prog X.w) X.A (eval iter X.env) (λv s1=>wpAny (model X.prog X.w) X.A (pyIter v) (PIE X pins σ tg R) X.xe s1) X.xe s
instance {X:Cx} {tg iter:Expr} {wi:TI}:CoeFun (PI X tg iter wi) (λ_=>∀ (pins:List (Addr×Obj)) (s:iI) (σ:St) (H:Hp) (R:It->Hp->Prop),Inv X pins σ H s->wi σ H R ->wpAny (model X.prog X.w) X.A (eval iter X.env) (λv s1=>wpAny (model X.prog X.w) X.A (pyIter v) (PIE X pins σ tg R) X.xe s1) X.xe s):=⟨λh=>h.run⟩
theorem qaV {M:Model} {A:iP} {E:iE->iI->Prop} {tg:Expr} {u:iE} {o:Obj} {n:String} {vs:Array iE} {Q:Unit->iI->Prop} (m:s.heap.get? it=iB o) (d:o.cls=.type n) (hd:o.data=.fields vs)
    (a:["enumerate", "zip", "dict_itemiterator", "dict_reverseitemiterator", "odict_iterator", "itertools.zip_longest", "itertools.pairwise"].contains n=iF) (c:Q () s):wpAny M A (letOwnedTupleGo tg (.ref it) u) Q E s:=by
  unfold letOwnedTupleGo;cases tg <;> first
    | exact iG c
    | (cases u <;> first
        | exact iG c
        | (refine iC (wpAny_load m ?_)
           rw [d,hd];show wpAny M A (if (["enumerate", "zip", "dict_itemiterator", "dict_reverseitemiterator", "odict_iterator", "itertools.zip_longest", "itertools.pairwise"].contains n&&vs[0]? == iB (rawInt _))=iH then _ else _) Q E s;rw [if_neg (by intro h; rw [a,Bool.false_and] at h; cases h)];exact iG c))
noncomputable def Itl (K:Frag) (a:Addr):It:=
 ⟨λi H=>∃ xs x,SqL K H a xs/\xs[i]?=iB x,λi H x H'=>H'=H/\∀ xs,SqL K H a xs->xs[i]?=iB x,λi H=>∃ xs,SqL K H a xs/\xs.length<=i⟩
noncomputable def Itt (K:Frag) (a:Addr):It:=
 ⟨λi H=>∃ xs x,SqT K H a xs/\xs[i]?=iB x,λi H x H'=>H'=H/\∀ xs,SqT K H a xs->xs[i]?=iB x,λi H=>∃ xs,SqT K H a xs/\xs.length<=i⟩
noncomputable def Itr (lo:Int) (n:Nat):It:=⟨λi _=>i < n,λi H x H'=>H'=H/\x=.int (lo+i),λi _=>n<=i⟩
variable {tg:Expr}
theorem XZ (a it:Addr):Turn P w K tg (Itl K a) [it] it (λi h=>h.IsListIter it a i) where
 mem:=by simp
 obj:=λi h st b f=>by
  have e:b=it:=by simpa using f
  subst e;obtain ⟨o,e,c,d⟩:=st;exact ⟨o,e,λv z=>by rw [d] at z; cases z⟩
 keep:=λi h h' st k=>st.at λo e=>k it (by simp) o e
 item:=by intro X l hw m t i pins s σ H E I j st hg;subst l hw m;obtain ⟨xs,x,hq,hx⟩:=hg;obtain ⟨its,r,p,hz⟩:=I.list hq;obtain ⟨u,C,A⟩:=r.get hx;obtain ⟨f0,f1,f2,q,f4,n⟩:=j it (by simp);refine wpAny_pyNext_list_item st p.isList (x:=u) (by simpa using C) λh' g y=>?_;have G:Inv X pins σ H { s with heap:=h' }:=I.turned (t':=s.toks) (λb o f e=>(y.2 b f).trans e) f0 f1 q f4 n;obtain ⟨o,e,c,d⟩:=id g;exact ⟨u,rfl,qaV (s:={ s with heap:=h' }) e c d (by decide) ⟨x,H,G,A,⟨rfl,λys B=>by rw [I.list_inj B hq]; exact hx⟩,g,λb f=>(j b f).1⟩⟩
 done:=by intro X l hw m t i pins s σ H E I j st hg;subst l hw m;obtain ⟨xs,hq,hx⟩:=hg;obtain ⟨its,r,p,hz⟩:=I.list hq;obtain ⟨f0,f1,f2,q,f4,n⟩:=j it (by simp);have hl:=r.length;exact wpAny_pyNext_list_end (I.ok.hd t) st p.isList (by simp; omega) λh' D=>⟨rfl,I.turned (t':=s.toks) (λb o f e=>D b o f e) f0 f1 q f4 n⟩
 self:=λ_ _ _ _ _ st h=>wpAny_pyIter_listiter st h
theorem YT (a it:Addr):Turn P w K tg (Itt K a) [it] it (λi h=>h.IsTupleIter it a i) where
 mem:=by simp
 obj:=λi h st b f=>by
  have e:b=it:=by simpa using f
  subst e;obtain ⟨o,e,c,d⟩:=st;exact ⟨o,e,λv z=>by rw [d] at z; cases z⟩
 keep:=λi h h' st k=>st.at λo e=>k it (by simp) o e
 item:=by intro X l hw m t i pins s σ H E I j st hg;subst l hw m;obtain ⟨xs,x,hq,hx⟩:=hg;obtain ⟨its,r,p,hz⟩:=I.tuple hq;obtain ⟨u,C,A⟩:=r.get hx;obtain ⟨f0,f1,f2,q,f4,n⟩:=j it (by simp);refine wpAny_pyNext_tuple_item st (show s.heap.IsTuple a its.toArray from p) (x:=u) (by simpa using C) λh' g y=>?_;have G:Inv X pins σ H { s with heap:=h' }:=I.turned (t':=s.toks) (λb o f e=>(y.2 b f).trans e) f0 f1 q f4 n;obtain ⟨o,e,c,d⟩:=id g;exact ⟨u,rfl,qaV (s:={ s with heap:=h' }) e c d (by decide) ⟨x,H,G,A,⟨rfl,λys B=>by rw [I.tuple_inj B hq]; exact hx⟩,g,λb f=>(j b f).1⟩⟩
 done:=by intro X l hw m t i pins s σ H E I j st hg;subst l hw m;obtain ⟨xs,hq,hx⟩:=hg;obtain ⟨its,r,p,hz⟩:=I.tuple hq;obtain ⟨f0,f1,f2,q,f4,n⟩:=j it (by simp);have hl:=r.length;exact wpAny_pyNext_tuple_end (I.ok.hd t) st (show s.heap.IsTuple a its.toArray from p) (by simp; omega) λh' D=>⟨rfl,I.turned (t':=s.toks) (λb o f e=>D b o f e) f0 f1 q f4 n⟩
 self:=λ_ _ _ _ _ st h=>wpAny_pyIter_tupleiter st h
theorem YU (it:Addr) (lo:Int) (n:Nat):Turn P w K tg (Itr lo n) [it] it (λi h=>IsRangeIter h it (lo+(i:Nat) * 1) ((n:Int) - (i:Nat)) 1) where
 mem:=by simp
 obj:=λi h st b d=>by
  have e:b=it:=by simpa using d
  subst e;exact ⟨_,st,λv z=>by have j:Data.fields _=Data.cell v:=z;cases j⟩
 keep:=λi h h' st k=>k it (by simp) _ st
 item:=by intro X l hw m c i pins s σ H E I f st hg;subst l hw m;obtain ⟨f0,f1,f2,q,f4,a⟩:=f it (by simp);have W:=Walks.range (prog:=X.prog) (w:=X.w) (I.ok.hd c) it lo 1 n;refine W.item i s _ _ hg st λv h' tk r g p=>?_;obtain ⟨t,rfl⟩:=r;have u:Inv X pins σ H { s with heap:=h',toks:=tk }:=I.turned (λb o d e=>p b o (by simpa using d) e) f0 f1 q f4 a;refine ⟨_,rfl,qaV (s:={ s with heap:=h',toks:=tk }) (n := "range_iterator") g rfl rfl (by decide) ⟨.int (lo+i),H,u,⟨t,?_⟩,⟨rfl,rfl⟩,g,λb d=>(f b d).1⟩⟩;rw [Int.mul_one]
 done:=by intro X l hw m c i pins s σ H E I f st hg;subst l hw m;obtain ⟨f0,f1,f2,q,f4,a⟩:=f it (by simp);exact wpAny_pyNext_range_end (I.ok.hd c) st (by have:n<=i:=hg; omega) λh' D=>⟨rfl,I.turned (t':=s.toks) (λb o d e=>D b o d e) f0 f1 q f4 a⟩
 self:=λ_ _ _ _ _ st h=>wpAny_pyIter_rangeiter st h
variable {p:Pos} {fp:List Addr}
section
theorem Uv {R:It->Hp->Prop} {E:iE->iI->Prop} {lo hi:Int} {t u v:Tok} {tk:Nat} (I:Inv X pins σ H s) (h1:-(2 ^ 62)<=lo) (h2:lo < 2 ^ 62) (h3:-(2 ^ 62)<=hi) (a:hi < 2 ^ 62)
  (q:R (Itr lo (hi - lo).toNat) H):wpAny (model X.prog X.w) X.A (pyIter (.ref s.heap.objs.size)) (PIE X pins σ tg R) E { s with heap:=s.heap.push { cls:=.type "range",data:=.fields #[.int lo t,.int hi u,.int 1 v] },toks:=tk }:=by
 refine wpAny_pyIter_range (IsRange.new ..) (small_one h1 h2 h3 a) ?_;have d:Inv X pins σ H { s with heap:=s.heap.push { cls:=.type "range",data:=.fields #[.int lo t,.int hi u,.int 1 v] },toks:=tk }:=I.kept λb o e=>aa _ e;refine ⟨(s.heap.push { cls:=.type "range",data:=.fields #[.int lo t,.int hi u,.int 1 v] }).objs.size,[(s.heap.push { cls:=.type "range",data:=.fields #[.int lo t,.int hi u,.int 1 v] }).objs.size],_,_,H,rfl,d.kept (t':=tk) λb o e=>aa _ e,YU _ lo (hi - lo).toNat,?_,λb h=>?_,q⟩
 ·have e1:lo+((0:Nat):Int) * 1=lo:=by simp
  have i:(((hi - lo).toNat:Nat):Int) - ((0:Nat):Int)=Builtin.Range.rangeSize lo hi 1:=by rw [rangeSize_one]; split <;> omega
  show IsRangeIter _ _ (lo+((0:Nat):Int) * 1) ((((hi - lo).toNat:Nat):Int) - ((0:Nat):Int)) 1;rw [e1,i];exact af _ rfl
 ·have e:b=(s.heap.push { cls:=.type "range",data:=.fields #[.int lo t,.int hi u,.int 1 v] }).objs.size:=by simpa using h
  subst e;exact d.fpOk (ax _) (d.hok.fresh (ax _))
def qhh (ta:TA):TI:=λσ H R=>ta σ H λvs H1=>∃ j:Int,vs=[.int j]/\-(2 ^ 62)<=j/\j < 2 ^ 62/\R (Itr 0 j.toNat) H1
def qhi (ta:TA):TI:=λσ H R=>ta σ H λvs H1=>∃ i j:Int,vs=[.int i,.int j]/\(-(2 ^ 62)<=i/\i < 2 ^ 62/\-(2 ^ 62)<=j/\j < 2 ^ 62)/\R (Itr i (j - i).toNat) H1
theorem Za {a:Expr} {ta:TA} (hg:Gl X "range") (m:X.mg "range"=iD) (g:PA X [a] ta) (f:starEach [a] X.env=[(iF,eval a X.env)]:=by rfl):PI X tg (.Call (.Name "range" p) [a] [] pos) (qhh ta):=by
 refine ⟨?_⟩;intro pins s σ H R I h;refine Call_ (yK I hg m boot_range (bA (thn (g pos pins s σ H _ I h) λus s1 ⟨vs,H1,i,r1,b⟩=>?_) f rfl));obtain ⟨j,e,b,d,q⟩:=b;subst e;cases r1 with
 | cons r c=>cases c;obtain ⟨t,rfl⟩:=r;exact call_range_1 (Uv i (by omega) (by omega) b d (by simpa using q))
theorem Zb {a b:Expr} {ta:TA} {p pos:Pos} (hg:Gl X "range") (n:X.mg "range"=iD) (o:PA X [a,b] ta) (m:starEach [a,b] X.env=[(iF,eval a X.env),(iF,eval b X.env)]:=by rfl) (c:starEach [b] X.env=[(iF,eval b X.env)]:=by rfl):PI X tg (.Call (.Name "range" p) [a,b] [] pos) (qhi ta):=by
 refine ⟨?_⟩;intro pins s σ H R I h;refine Call_ (yK I hg n boot_range (bA (thn (o pos pins s σ H _ I h) λus s1 ⟨vs,H1,u,r1,f⟩=>?_) (by rw [m,c]) (by rw [c]; rfl)));obtain ⟨i,j,e,⟨f,l,k,g⟩,q⟩:=f;subst e;cases r1 with
 | cons r d=>
  cases d with
  | cons r' d=>cases d;obtain ⟨t,rfl⟩:=r;obtain ⟨t',rfl⟩:=r';exact call_range_2 (Uv u f l k g q)
def qi3 (wi:TI) (g:TG) (tb:TS):TS:=λD σ H=>wi σ H λJ H1=>∃ W:Nat->Nat->St->Hp->Prop,(∃ m,W 0 m σ H1)/\∀ i m σ H,W i m σ H ->(J.stop i H/\D.nx σ H)\/(J.go i H/\∃ N:St->Hp->Prop,(∀ σ' H',N σ' H'->∃ b,b < m/\W (i+1) b σ' H')/\∀ x H',J.yld i H x H'->g x σ H' λa H2=>tb { D with nx:=N,ct:=N,bk:=D.nx } a H2)
noncomputable def Ko (fp:List Addr) (h:Heap):List (Addr×Obj):=fp.filterMap λb=>(h.get? b).map λo=>(b,o)
theorem uN {o:Obj} (d:b∈fp) (e:h.get? b=iB o):(b,o)∈Ko fp h:=fC.mpr ⟨b,d,by rw [e]; rfl⟩
theorem Zc {p:Addr×Obj} (hp:p∈Ko fp h):p.1∈fp/\h.get? p.1=iB p.2:=by
 obtain ⟨b,d,e⟩:=fC.mp hp;cases q:h.get? b with
 | none=>rw [q] at e; cases e
 | some o=>rw [q] at e;have a:(b,o)=p:=aU.inj e;subst a;exact ⟨d,q⟩
theorem Inv.pinned (I:Inv X pins σ H s) (f:∀ b∈fp,VT X pins H b) (m:∀ b∈fp,∃ o,s.heap.get? b=iB o/\∀ v,o.data≠.cell v):Inv X (pins++Ko fp s.heap) σ H s:=
 I.pins_of λp hp=>(aI.mp hp).elim (λz=>I.pin p (aV _ z)) λz=>by obtain ⟨h,e⟩:=Zc z;obtain ⟨f0,f1,f2,_⟩:=f p.1 h;obtain ⟨o,a,d⟩:=m p.1 h;rw [e] at a; cases a;exact ⟨e,f0,f1,f2,d⟩
theorem Inv.unpinned {pl:List (Addr×Obj)} (I:Inv X (pins++pl) σ H s):Inv X pins σ H s:=I.pins_of λp hp=>I.pin p (aV _ (cy _ hp))
theorem qfg {iter:Expr} {wi:TI} {g:TG} {pos:Pos} (hp:PassesOwn (model X.prog X.w) X.A X.env X.xe) (Q:X.calm=iH) (hi:PI X tg iter wi) (hg:PG X tg g) (j:PSs X body tb)
  (hs:∀ x,foldedSetIterable iter X.env x=pure x:=by intro _; rfl):PS X (.For tg iter body [] pos) (qi3 wi g tb):=by
 refine ⟨?_⟩;intro pins s σ H D I h;refine wpAny_For (thn (hi pins s σ H _ I h) λv s1 h1=>thn h1 λitv s2 h2=>?_) hs;obtain ⟨it,fp,tn,J,H2,e,I2,T,K,f2,W,⟨m0,F⟩,turn⟩:=h2;subst e;have t:∀ {H':Hp},(∀ b∈fp,H' b=iD)->∀ b∈fp,VT X pins H' b:=λhn b j=>⟨hn b j,(f2 b j).2⟩
 refine codeAny_forLoop_any (λn s'=>∃ i σ' H',Inv X pins σ' H' s'/\tn i s'.heap/\(∀ b∈fp,H' b=iD)/\W i n σ' H') ?_ m0 ⟨0,σ,H2,I2,K,λb j=>(f2 b j).1,F⟩;rintro n s3 ⟨i,c,E,R,z,C,Z⟩;rcases turn i n c E Z with ⟨stop,qn⟩ | ⟨go,N,hN,step⟩
 ·refine j5 hp (thn (T.done X rfl rfl rfl Q i pins s3 c E X.xe R (t C) z stop) λr s4 ⟨M,I4⟩=>?_);subst M;exact lp ⟨c,E,I4,qn⟩
 ·refine j5 hp (thn (T.item X rfl rfl rfl Q i pins s3 c E X.xe R (t C) z go) λr s4 ⟨u,M,h4⟩=>?_);subst M;refine j5 hp (thn h4 λ_ s5 ⟨x,S,I5,r5,U,y,O⟩=>?_);have P:=I5.pinned (t O) (T.obj _ _ y);refine j5 hp (thn (hg _ s5 c S x u _ P r5 (step x S U)) λ_ s6 ⟨G,H6,I6,q6⟩=>?_);refine j5 hp (thn (j _ s6 G H6 _ I6 q6) λf L q=>?_);have k:∀ {a:St} {p:Hp},Inv X (pins++Ko fp s5.heap) a p L->N a p->∃ m,m < n/\∃ i σ' H',Inv X pins σ' H' L/\tn i L.heap/\(∀ b∈fp,H' b=iD)/\W i m σ' H':=λ{a p} l B=>by obtain ⟨m',hm,Y⟩:=hN a p B;refine ⟨m',hm,i+1,a,p,l.unpinned,T.keep _ _ _ y λb j o e=>(l.pin (b,o) (aV _ (aV _ (uN j e)))).1,λb j=>?_,Y⟩;obtain ⟨o,e,d⟩:=T.obj _ _ y b j;exact (l.pin (b,o) (aV _ (aV _ (uN j e)))).2.1
  cases f with
  | next=>obtain ⟨a,p,l,B⟩:=q; exact k l B
  | cont=>obtain ⟨a,p,l,B⟩:=q; exact k l B
  | brk=>obtain ⟨a,p,l,q⟩:=q; exact ⟨a,p,l.unpinned,q⟩
  | ret v=>obtain ⟨V,a,p,l,r7,q⟩:=q; exact ⟨V,a,p,l.unpinned,r7,q⟩
end
abbrev R2:=V->V->Hp->VK->Prop
def OpR (X:Cx) (f:iE->iE->Sem iE) (r:R2):Prop:=
 ∀ (pins:List (Addr×Obj)) (s:iI) (σ:St) (H:Hp) (x y:V) (v u:iE) (Q:VK),Inv X pins σ H s->RelV x v->RelV y u->r x y H Q ->wpAny (model X.prog X.w) X.A (f v u) (EP X pins σ Q) X.xe s
def UnR (X:Cx) (f:iE->Sem iE) (r:V->Hp->VK->Prop):Prop:=
 ∀ (pins:List (Addr×Obj)) (s:iI) (σ:St) (H:Hp) (x:V) (v:iE) (Q:VK),Inv X pins σ H s->RelV x v->r x H Q ->wpAny (model X.prog X.w) X.A (f v) (EP X pins σ Q) X.xe s
def uh (X:Cx) (f:iE) (r:List V->Hp->VK->Prop):Prop:=
 ∀ (pins:List (Addr×Obj)) (s:iI) (σ:St) (H:Hp) (xs:List V) (us:List iE) (Q:VK),Inv X pins σ H s->Vals xs us->r xs H Q ->wpAny (model X.prog X.w) X.A (call f us) (EP X pins σ Q) X.xe s
def qi4 (X:Cx) (r:V->Hp->(Bool->Hp->Prop)->Prop):Prop:=
 ∀ (pins:List (Addr×Obj)) (s:iI) (σ:St) (H:Hp) (x:V) (v:iE) (Q:Bool->Hp->Prop),Inv X pins σ H s->RelV x v->r x H Q ->wpAny (model X.prog X.w) X.A (truthy v) (TP X pins σ Q) X.xe s
def tOp (r:R2) (ta tb:TE):TE:=λσ H Q=>ta σ H λx H1=>tb σ H1 λy H2=>r x y H2 Q
def tUn (r:V->Hp->VK->Prop) (ta:TE):TE:=λσ H Q=>ta σ H λx H1=>r x H1 Q
def rI (C:Int->Int->Prop) (g:Int->Int->V):R2:=λx y H Q=>∃ i j,x=.int i/\y=.int j/\C i j/\Q (g i j) H
def rI0 (g:Int->Int->V):R2:=λx y H Q=>∃ i j,x=.int i/\y=.int j/\Q (g i j) H
def rU (g:Int->V):V->Hp->VK->Prop:=λx H Q=>∃ i,x=.int i/\Q (g i) H
variable {r:R2}
section
variable {a b:Expr} {tb tc:TE}
theorem qhj (j:PE X a ta) (i:PE X b tb) {R:V->V->Hp->Prop} (I:Inv X pins σ H s)
  (h:ta σ H λx H1=>tb σ H1 λy H2=>R x y H2) {Q:iE->iI->Prop} {f:iE->iE->Sem iE}
  (g:∀ v u s2 x y H2,Inv X pins σ H2 s2->RelV x v->RelV y u->R x y H2->wpAny (model X.prog X.w) X.A (f v u) Q X.xe s2) :
  wpAny (model X.prog X.w) X.A (eval a X.env) (λv d=>wpAny (model X.prog X.w) X.A (eval b X.env) (λu c=>wpAny (model X.prog X.w) X.A (f v u) Q X.xe c) X.xe d) X.xe s:=by
 refine thn (j pins s σ H _ I h) λv s1 ⟨x,H1,l,r1,q⟩=>?_;refine thn (i pins s1 σ H1 _ l q) λu s2 ⟨y,H2,k,r2,e⟩=>?_;exact g v u s2 x y H2 k r1 r2 e
theorem qhk {op:Operator} (m:OpR X (binaryOp op) r) (g:PE X a ta) (e:PE X b tb):PE X (.BinOp a op b pos) (tOp r ta tb):=by refine ⟨?_⟩;intro pins s σ H Q I h;exact wpAny_BinOp (qhj g e I h λv u s2 x y H2 f d c q=>m pins s2 σ H2 x y v u Q f d c q)
theorem qhl {op:UnaryOp} {r:V->Hp->VK->Prop} (m:UnR X (unaryOp op) r) (g:PE X a ta):PE X (.UnaryOp op a pos) (tUn r ta):=by refine ⟨?_⟩;intro pins s σ H Q I h;exact UnaryOp_ (thn (g pins s σ H _ I h) λv s1 ⟨x,H1,d,r1,q⟩=>m pins s1 σ H1 x v Q d r1 q)
theorem opI {f:iE->iE->Sem iE} {C:Int->Int->Prop} {g:Int->Int->Int}
  (r:∀ (i j:Int) (t u:Tok) (s:iI) (Q:iE->iI->Prop) (E:iE->iI->Prop),C i j->Q (.int (g i j) s.toks) { s with toks:=s.toks+1 }->wpAny (model X.prog X.w) X.A (f (.int i t) (.int j u)) Q E s) :
  OpR X f (rI C λi j=>.int (g i j)):=by
 intro pins s σ H x y v u Q I d c h;obtain ⟨i,j,rfl,rfl,a,q⟩:=h;obtain ⟨t,rfl⟩:=d;obtain ⟨t',rfl⟩:=c;exact r i j t t' s _ _ a ⟨.int (g i j),H,I.tok _,⟨_,rfl⟩,q⟩
theorem qim {f:iE->iE->Sem iE} {g:Int->Int->Int}
  (r:∀ (i j:Int) (t u:Tok) (s:iI) (Q:iE->iI->Prop) (E:iE->iI->Prop),Q (.int (g i j) s.toks) { s with toks:=s.toks+1 }->wpAny (model X.prog X.w) X.A (f (.int i t) (.int j u)) Q E s) :
  OpR X f (rI0 λi j=>.int (g i j)):=by
 intro pins s σ H x y v u Q I d c h;obtain ⟨i,j,rfl,rfl,q⟩:=h;obtain ⟨t,rfl⟩:=d;obtain ⟨t',rfl⟩:=c;exact r i j t t' s _ _ ⟨.int (g i j),H,I.tok _,⟨_,rfl⟩,q⟩
theorem qhm {f:iE->iE->Sem iE} {g:Int->Int->Bool}
  (r:∀ (i j:Int) (t u:Tok) (s:iI) (Q:iE->iI->Prop) (E:iE->iI->Prop),Q (.bool (g i j)) s->wpAny (model X.prog X.w) X.A (f (.int i t) (.int j u)) Q E s) :
  OpR X f (rI0 λi j=>.bl (g i j)):=by
 intro pins s σ H x y v u Q I d c h;obtain ⟨i,j,rfl,rfl,q⟩:=h;obtain ⟨t,rfl⟩:=d;obtain ⟨t',rfl⟩:=c;exact r i j t t' s _ _ ⟨.bl (g i j),H,I,rfl,q⟩
def qi5 (i j:Int):Prop:=0 < j/\j < 1073741824
def qin (i j:Int):Prop:=0<=j/\j<=1000000/\i.natAbs < 2 ^ 64
def CMul (i j:Int):Prop:=(-(2 ^ 64) < i/\i < 2 ^ 64)\/(-(2 ^ 64) < j/\j < 2 ^ 64)
theorem CMul.ok {i j:Int} (h:CMul i j):IntMulOk i j:=by
 rcases h with ⟨h1,h2⟩ | ⟨h1,h2⟩
 ·exact .of_left (intBits_le_64 h1 h2)
 ·exact .of_right (intBits_le_64 h1 h2)
theorem qfh:OpR X (binaryOp .Add) (rI0 λi j=>.int (i+j)):=qim λ_ _ _ _ _ _ _ q=>add_int q
theorem qfi:OpR X (binaryOp .Sub) (rI0 λi j=>.int (i - j)):=qim λ_ _ _ _ _ _ _ q=>sub_int q
theorem qfj:OpR X (binaryOp .Mult) (rI CMul λi j=>.int (i * j)):=opI λ_ _ _ _ _ _ _ d q=>mul_int q d.ok
theorem qfk:OpR X (binaryOp .Mod) (rI (λ_ j=>0 < j) λi j=>.int (i % j)):=opI λi j _ _ _ _ _ d q=>by have h1:(0:Int) < j:=d;exact mod_int' (by omega) (by rw [Int.fmod_eq_emod_of_nonneg i (by omega)]; exact q)
theorem unI {f:iE->Sem iE} {g:Int->Int}
  (r:∀ (i:Int) (t:Tok) (s:iI) (Q:iE->iI->Prop) (E:iE->iI->Prop),Q (.int (g i) s.toks) { s with toks:=s.toks+1 }->wpAny (model X.prog X.w) X.A (f (.int i t)) Q E s) :
  UnR X f (rU λi=>.int (g i)):=by
 intro pins s σ H x v Q I d h;obtain ⟨i,rfl,q⟩:=h;obtain ⟨t,rfl⟩:=d;exact r i t s _ _ ⟨.int (g i),H,I.tok _,⟨_,rfl⟩,q⟩
theorem qfl:UnR X (unaryOp .USub) (rU λi=>.int (-i)):=unI λ_ _ _ _ _ q=>neg_int q
end
variable {op op':CmpOp} {r':R2}
section
variable {a b:Expr} {tb tc:TE}
theorem Uw {Q:VK} {k k':Bool} (I:Inv X pins σ H s) (q:Q (.bl k) H) (e:k=k'):EP X pins σ Q (.bool k') s:=by subst e;exact ⟨.bl k,H,I,rfl,q⟩
theorem qhn:OpR X (compareOp .Lt) (rI0 λi j=>.bl (decide (i < j))):=qhm λ_ _ _ _ _ _ _ q=>lt_int q
theorem qho:OpR X (compareOp .LtE) (rI0 λi j=>.bl (decide (i<=j))):=qhm λ_ _ _ _ _ _ _ q=>le_int q
theorem qhp:OpR X (compareOp .GtE) (rI0 λi j=>.bl (decide (j<=i))):=qhm λ_ _ _ _ _ _ _ q=>ge_int q
theorem Zd:OpR X (compareOp .Lt) (λx y H Q=>∃ i j,x=.str i/\y=.str j/\Q (.bl (decide (i.cps.toList < j.cps.toList))) H):=by intro pins s σ H x y v u Q I d c h;obtain ⟨i,j,rfl,rfl,q⟩:=h;obtain ⟨t,rfl⟩:=d;obtain ⟨t',rfl⟩:=c;exact lt_str (Uw I q rfl)
theorem qfm:OpR X (compareOp .Is) (λx y H Q=>y=.non/\Q (.bl (decide (x=.non))) H):=by
 intro pins s σ H x y v u Q I d c h;obtain ⟨rfl,q⟩:=h;cases c;refine is_none_gen (Uw I q ?_);cases x <;> first
  | (cases d; rfl)
  | (obtain ⟨t,rfl⟩:=d; rfl)
theorem qda:OpR X (compareOp .IsNot) (λx y H Q=>y=.non/\Q (.bl (!decide (x=.non))) H):=by
 intro pins s σ H x y v u Q I d c h;obtain ⟨rfl,q⟩:=h;cases c;refine isnot_none_gen (Uw I q ?_);cases x <;> first
  | (cases d; rfl)
  | (obtain ⟨t,rfl⟩:=d; rfl)
theorem qcq (b:Expr) (h:op≠.In:=by decide) (h2:op≠.NotIn:=by decide):behindInMarks op b=false:=by
 have e1:(op == CmpOp.In)=false:=by cases op <;> first | rfl | exact absurd rfl h
 have i:(op == CmpOp.NotIn)=false:=by cases op <;> first | rfl | exact absurd rfl h2
 cases b <;> simp [behindInMarks,e1,i]
theorem qdb (m:OpR X (compareOp op) r) (g:PE X a ta) (f:PE X b tb) (e:behindInMarks op b=iF):PE X (.Compare a [op] [b] pos) (tOp r ta tb):=by refine ⟨?_⟩;intro pins s σ H Q I h;exact wpAny_Compare1 (qhj g f I h λv u s2 x y H2 i d c q=>m pins s2 σ H2 x y v u Q i d c q) e
def qfn (t:TE):TT:=λσ H Q=>t σ H λx H'=>∃ k,x=.bl k/\Q k H'
theorem qdc (m:OpR X (compareOp op) r) (j:PE X a ta) (i:PE X b tb) (g:behindInMarks op b=iF):PT X (.Compare a [op] [b] pos) (qfn (tOp r ta tb)):=by
 refine ⟨?_⟩;intro pins s σ H Q I h;refine wpAny_isTrue_Compare1 (thn (j pins s σ H _ I h) λv s1 ⟨x,H1,o,r1,f⟩=>thn (i pins s1 σ H1 _ o f) λu s2 ⟨y,H2,n,r2,d⟩=>
  thn (m pins s2 σ H2 x y v u _ n r1 r2 d) λc s3 ⟨z,p,l,r3,k,e,q⟩=>?_) g
 subst e;cases r3;exact i0 ⟨p,l,q⟩
def Ze (r r':R2) (ta tb tc:TE):TE:=λσ H Q=>ta σ H λx H1=>tb σ H1 λy H2=>r x y H2 λz d=>∃ k,z=.bl k /\
 (if k=iH then tc σ d λw' a=>r' y w' a Q else Q (.bl iF) d)
theorem qaW (o:OpR X (compareOp op) r) (f:OpR X (compareOp op') r') (A:PE X a ta) (w:PE X b tb) (t:PE X c tc)
  (p:lastMarks [op,op'] [b,c]=false:=by with_unfolding_all rfl):PE X (.Compare a [op,op'] [b,c] pos) (Ze r r' ta tb tc):=by
 refine ⟨?_⟩;intro pins s σ H Q I h;refine Compare_chain (thn (A pins s σ H _ I h) λv s1 ⟨x,H1,D,r1,n⟩=>chain_link (thn (w pins s1 σ H1 _ D n) λu s2 ⟨y,H2,C,r2,m⟩=>
  thn (o pins s2 σ H2 x y v u _ C r1 r2 m) λd s3 ⟨z,i,g,r3,k,e,q⟩=>?_)) p
 subst e;cases r3;refine i0 ?_;cases k with
 | false=>exact ite_ff ⟨.bl iF,i,g,rfl,q⟩
 | true=>exact ite_tt (chain_last (thn (t pins s3 σ i _ g q) λw' s4 ⟨j,E,B,r4,l⟩=>f pins s4 σ E y j u w' Q B r2 r4 l))
theorem qaX (t:OpR X (compareOp op) r) (f:OpR X (compareOp op') r') (C:PE X a ta) (B:PE X b tb) (A:PE X c tc)
  (w:lastMarks [op,op'] [b,c]=false:=by with_unfolding_all rfl):PT X (.Compare a [op,op'] [b,c] pos) (qfn (Ze r r' ta tb tc)):=by
 refine ⟨?_⟩;intro pins s σ H Q I h;refine isTrue_chain (thn (C pins s σ H _ I h) λv s1 ⟨x,H1,L,r1,o⟩=>test_link (thn (B pins s1 σ H1 _ L o) λu s2 ⟨y,H2,K,r2,n⟩=>
  thn (t pins s2 σ H2 x y v u _ K r1 r2 n) λd s3 ⟨z,i,g,r3,k,e,q⟩=>?_)) w
 subst e;cases r3;refine i0 ?_;cases k with
 | false=>obtain ⟨k',E,p⟩:=q;cases E;exact ite_ff ⟨i,g,p⟩
 | true=>refine ite_tt (test_last (thn (A pins s3 σ i _ g q) λw' s4 ⟨j,M,J,r4,m⟩=>thn (f pins s4 σ M y j u w' _ J r2 r4 m) λd' s5 ⟨z2,S,G,r5,k2,D,l⟩=>?_));subst D;cases r5;exact i0 ⟨S,G,l⟩
def qhq (K:Frag) (x:V) (H:Hp) (k:Bool):Prop:=
 match x with
 | .non=>k=iF
 | .bl b=>k=b
 | .int i=>k=(i != 0)
 | .str y=>y.length<=sizeLine/\k=((y.length:Int) != 0)
 | .byt y=>y.size<=sizeLine/\k=((y.size:Int) != 0)
 | .ref p=>(∃ xs,SqL K H p xs/\k=!xs.isEmpty)\/(∃ xs,SqT K H p xs/\k=!xs.isEmpty)\/∃ kvs,H p=iB (.dK kvs)/\k=!kvs.isEmpty
 | _=>False
theorem YV {κ:Type} {kvs:List (κ×V)} {vs:List (κ×iE)} (r:KV kvs vs):(!vs.isEmpty)=!kvs.isEmpty:=by cases r <;> rfl
theorem Qu {its:List iE} (r:Vals xs its):(!its.toArray.isEmpty)=!xs.isEmpty:=by cases r <;> simp
theorem Kp:(sizeLine:Nat) < 2 ^ 63:=by rw [iL]; decide
theorem qfo:qi4 X (λx H Q=>∃ k,qhq X.K x H k/\Q k H):=by
 intro pins s σ H x v Q I d h;obtain ⟨k,e,q⟩:=h;have hl:=Kp;have c:sizeLine=16777216:=iL;cases x with
 | non=>cases d;have a:k=false:=e;subst a;exact truthy_none ⟨H,I,q⟩
 | bl b=>cases d;have a:k=b:=e;subst a;exact i0 ⟨H,I,q⟩
 | int i=>obtain ⟨t,rfl⟩:=d;have a:k=(i != 0):=e;subst a;exact PySem.P.truthy_int ⟨H,I,q⟩
 | str y=>obtain ⟨t,rfl⟩:=d;obtain ⟨hy,a⟩:y.length<=sizeLine/\k=((y.length:Int) != 0):=e;subst a;exact PySem.P.truthy_str (by omega) ⟨H,I.tok _,q⟩
 | byt y=>obtain ⟨t,rfl⟩:=d;obtain ⟨hy,a⟩:y.size<=sizeLine/\k=((y.size:Int) != 0):=e;subst a;exact PySem.W.truthy_bytes (by omega) ⟨H,I.tok _,q⟩
 | ref p=>
  cases d;have a:(∃ xs,SqL X.K H p xs/\k=!xs.isEmpty)\/(∃ xs,SqT X.K H p xs/\k=!xs.isEmpty)\/∃ kvs,H p=iB (.dK kvs)/\k=!kvs.isEmpty:=e;rcases a with ⟨xs,hx,a⟩ | ⟨xs,hx,a⟩ | ⟨kvs,hx,a⟩
  ·subst a;obtain ⟨its,r,pl,hz⟩:=I.list hx;have n:=r.length;exact wpAny_truthy_list pl.isList (by simp only [am]; omega) ⟨H,I.tok _,by rw [Qu r]; exact q⟩
  ·subst a;obtain ⟨its,r,pl,hz⟩:=I.tuple hx;have n:=r.length;exact truthy_tuple pl (by simp only [am]; omega) ⟨H,I.tok _,by rw [Qu r]; exact q⟩
  ·subst a;obtain ⟨hz,hS,vs,r,m⟩:kvs.length<=sizeLine/\(p == sysModules)=iF/\∃ vs,KV kvs vs/\s.heap.DictOf (ja X.prog X.w) p vs:=I.hok p _ hx;have n:kvs.length=vs.length:=fU r;exact wpAny_truthy_dict hS m (by omega) ⟨H,I.tok _,by rw [YV r]; exact q⟩
 | _=>exact (show False from e).elim
theorem qaY (g:PE X a ta) (i:∀ whole,isTrue a X.env whole=(do let v <-whole; standAt a.pos; holding [v] (truthy v))):PT X a (λσ H Q=>ta σ H λx H'=>∃ k,qhq X.K x H' k/\Q k H'):=by refine ⟨?_⟩;intro pins s σ H Q I h;exact isTrue_plain (thn (g pins s σ H _ I h) λv s1 ⟨x,H1,d,r1,q⟩=>qfo pins s1 σ H1 x v Q d r1 q) (i _)
theorem YW:OpR X (binaryOp .Add) (λx y H Q=>∃ i j,x=.str i/\y=.str j/\i.length+j.length<=sizeLine/\Q (.str (i++j)) H):=by intro pins s σ H x y v u Q I d c h;obtain ⟨i,j,rfl,rfl,hz,q⟩:=h;obtain ⟨t,rfl⟩:=d;obtain ⟨t',rfl⟩:=c;exact add_str (λt' tk=>⟨.str (i++j),H,I.tok _,⟨_,rfl⟩,q⟩) hz
theorem yv {x:V} (r:Vals [x] us):∃ u,us=[u]/\RelV x u:=by
 cases r with
 | cons r1 r2=>cases r2; exact ⟨_,rfl,r1⟩
theorem Zf {x y:V} (r:Vals [x,y] us):∃ u w',us=[u,w']/\RelV x u/\RelV y w':=by
 cases r with
 | cons r1 r2=>
  cases r2 with
  | cons r3 r4=>cases r4; exact ⟨_,_,rfl,r1,r3⟩
theorem Zg (d:X.calm=iH):uh X (.builtin "max") (λxs H Q=>∃ i j,xs=[.int i,.int j]/\Q (.int (if j > i then j else i)) H):=by
 intro pins s σ H xs us Q I r h;obtain ⟨i,j,rfl,q⟩:=h;obtain ⟨u,w',rfl,⟨t,rfl⟩,⟨t',rfl⟩⟩:=Zf r;refine max_two_ints (I.ok.hd d) λh' tk k=>⟨_,H,I.kept k,?_,q⟩
 by_cases G:j > i;·rw [if_pos G,if_pos G]; exact ⟨_,rfl⟩
 ·rw [if_neg G,if_neg G]; exact ⟨_,rfl⟩
theorem Zh (d:X.calm=iH):uh X (.builtin "min") (λxs H Q=>∃ i j,xs=[.int i,.int j]/\Q (.int (if j < i then j else i)) H):=by
 intro pins s σ H xs us Q I r h;obtain ⟨i,j,rfl,q⟩:=h;obtain ⟨u,w',rfl,⟨t,rfl⟩,⟨t',rfl⟩⟩:=Zf r;refine min_two_ints (I.ok.hd d) λh' tk k=>⟨_,H,I.kept k,?_,q⟩
 by_cases G:j < i;·rw [if_pos G,if_pos G]; exact ⟨_,rfl⟩
 ·rw [if_neg G,if_neg G]; exact ⟨_,rfl⟩
def qi6 (K:Frag) (x:V) (H:Hp) (n:Nat):Prop:=
 match x with
 | .str y=>y.length<=sizeLine/\n=y.length
 | .byt y=>y.size<=sizeLine/\n=y.size
 | .ref p=>(∃ xs,SqL K H p xs/\n=xs.length)\/∃ xs,SqT K H p xs/\n=xs.length
 | _=>False
theorem QX:uh X (.builtin "len") (λxs H Q=>∃ x n,xs=[x]/\qi6 X.K x H n/\Q (.int n) H):=by
 intro pins s σ H xs us Q I r h;obtain ⟨x,n,rfl,e,q⟩:=h;obtain ⟨u,rfl,d⟩:=yv r;have hl:=Kp;have c:sizeLine=16777216:=iL;cases x with
 | str y=>obtain ⟨t,rfl⟩:=d;obtain ⟨hy,b⟩:y.length<=sizeLine/\n=y.length:=e;subst b;exact len_str (by omega) ⟨.int _,H,I.tok _,⟨_,rfl⟩,q⟩
 | byt y=>obtain ⟨t,rfl⟩:=d;obtain ⟨hy,b⟩:y.size<=sizeLine/\n=y.size:=e;subst b;exact PySem.W.len_bytes (by omega) ⟨.int _,H,I.tok _,⟨_,rfl⟩,q⟩
 | ref p=>
  cases d;have b:(∃ xs,SqL X.K H p xs/\n=xs.length)\/∃ xs,SqT X.K H p xs/\n=xs.length:=e;rcases b with ⟨xs,hx,b⟩ | ⟨xs,hx,b⟩
  ·subst b;obtain ⟨its,r',pl,hz⟩:=I.list hx;have a:=r'.length;exact Calls.call_len_list pl.isList (by simp only [am]; omega) ⟨.int xs.length,H,I.tok _,⟨_,by simp only [am]; rw [a]⟩,q⟩
  ·subst b;obtain ⟨its,r',pl,hz⟩:=I.tuple hx;have a:=r'.length;exact len_tuple pl (by simp only [am]; omega) ⟨.int xs.length,H,I.tok _,⟨_,by simp only [am]; rw [a]⟩,q⟩
 | _=>exact (show False from e).elim
end
structure ObjM (h:Heap) (x dx C:Addr) (mA:Str->Option iE):Prop where
 obj:h.get? x=iB (cM C dx)
 ns:h.Ns1 dx mA
 ne:dx≠x
variable {dx:Addr} {mA:Str->Option iE}
theorem Zi (n:h.Ns1 dx mA):∃ od,h.get? dx=iB od/\∀ name,hZ name od=iB (mA name):=by
 obtain ⟨o,es,ep,m,hd,k,_,c⟩:=n;refine ⟨o,m,λname=>?_⟩;have e:=c name;unfold nsFind findBy at e;rw [<-Array.find?_toList] at e;unfold hZ;rw [hd];dsimp only;split;·rename_i y q;rw [q] at e;exact congrArg iB e
 ·rename_i q;rw [q] at e;have a:es.toList.any (·.refKey)=false:=by rw [fI];intro y B;obtain ⟨z,t,b⟩:=k y (Array.mem_toList_iff.mp B);simp [DictEntry.refKey,b]
  have d:¬es.toList.any (·.refKey)=true:=by rw [a]; exact bE
  rw [if_neg d];exact congrArg iB e
variable {C:Addr}
theorem ObjM.look {x:Addr} (I:ObjM h x dx C mA):∃ od,PySem.W.InstAt h x (cM C dx) C (iB od)/\∀ name,hZ name od=iB (mA name):=
 let ⟨od,m,hl⟩:=Zi I.ns
 ⟨od,⟨I.obj,rfl,rfl,m⟩,hl⟩
theorem RelO.some_of {o:Option iE} (r:RelO (iB v) o):∃ u,o=iB u/\RelV v u:=by
 cases o with
 | none=>exact (show False from r).elim
 | some u=>exact ⟨u,rfl,r⟩
section
variable {fs:List (Str×V)} {f:Str}
theorem Inv.made (I:Inv X pins σ H s):Inv X pins σ (upd (upd H s.heap.objs.size (.own (s.heap.objs.size+1))) (s.heap.objs.size+1) (.ins C s.heap.objs.size []))
  { s with heap:=(s.heap.push bT).push (cM C s.heap.objs.size) }:=by
 have e1:(s.heap.push bT).get? s.heap.objs.size=iB bT:=af s.heap rfl;have c:((s.heap.push bT).push (cM C s.heap.objs.size)).get? (s.heap.objs.size+1)=iB (cM C s.heap.objs.size):=by have:=af (s.heap.push bT) (o:=cM C s.heap.objs.size) rfl;rwa [bh] at this
 have E:(s.heap.push bT).Ns s.heap.objs.size (λ_=>iD):=⟨bT,#[],_,e1,rfl,(λe i=>absurd i (by simp)),λ_=>rfl⟩
 have d:=I.laid (a:=s.heap.objs.size) (o:=.own (s.heap.objs.size+1)) (h':=s.heap.push bT) (t':=s.toks) (λb u q=>aa _ q) (ax _) ⟨_,e1⟩;refine d.laid (a:=s.heap.objs.size+1) (o:=.ins C s.heap.objs.size []) (t':=s.toks) (λb u q=>aa _ q) (fB (bh _ _)) ?_;have ne:s.heap.objs.size≠s.heap.objs.size+1:=aC (fZ _);refine ⟨by rw [qB ne,qt],bi _,ne,c,λ_=>iD,(Heap.Ns1.of_empty E).at λo q=>aa _ q,λ_=>dJ,λy B=>absurd rfl B⟩
end
structure Room (k:Nat) (A:iP):Prop where
 hd:A.handled=iD
 dp:A.depth+3 * k+5 < recursionLimit
 un:A.units+16 * k+200 < cLine
theorem Room.mono {j k:Nat} (r:Room k A) (h:j<=k):Room j A:=⟨r.hd,by have:=r.dp; omega,by have:=r.un; omega⟩
theorem Room.deeper {k:Nat} (r:Room (k+1) A) (env:Env):Room k (A.deeper env):=
 ⟨r.hd,by have:=r.dp; show A.depth+1+3 * k+5 < _; omega,by have:=r.un; show A.units+3+16 * k+200 < _; omega⟩
theorem Room.in1 {k:Nat} (r:Room (k+1) A):Room k A.in1:=
 ⟨r.hd,by have:=r.dp; show A.depth+3 * k+5 < _; omega,by have:=r.un; show A.units+1+16 * k+200 < _; omega⟩
theorem Room.depth {k:Nat} (r:Room k A):A.depth < recursionLimit:=by have:=r.dp; omega
theorem Room.units {k:Nat} (r:Room k A):A.units+64 < cLine:=by have:=r.un; omega
def qgP:TA:=λ_ H Q=>Q [] H
def YX (ta:TE) (tr:TA):TA:=λσ H Q=>ta σ H λx H1=>tr σ H1 λxs H2=>Q (x::xs) H2
section
variable {t:TA}
theorem jE:PA X [] qgP:=⟨λ_ _ _ _ H Q I h=>fJ ⟨[],H,I,.nil,h⟩⟩
theorem qO (g:PE X e te) (f:PA X es t) (c:starEach (e::es) X.env=(iF,eval e X.env)::starEach es X.env:=by rfl):PA X (e::es) (YX te t):=by refine ⟨?_⟩;intro pos pins s σ H Q I h;rw [c];show wpAny _ _ (spliced ((iF,eval e X.env)::backTo pos (starEach es X.env))) _ _ s;refine fD (thn (g pins s σ H _ I h) λu s1 ⟨x,H1,b,r1,a⟩=>?_);exact thn (f pos pins s1 σ H1 _ b a) λus s2 ⟨xs,H2,d,r2,q⟩=>⟨x::xs,H2,d,.cons r1 r2,q⟩
def qi7 (t:TA):TE:=λσ H Q=>t σ H λxs H1=>xs.length<=sizeLine/\∀ p,H1 p=iD->Q (.ref p) (upd H1 p (.tup xs))
def qi8 (t:TA):TE:=λσ H Q=>t σ H λxs H1=>xs.length<=sizeLine/\∀ p,H1 p=iD->Q (.ref p) (upd H1 p (.lst xs))
theorem qfp {x1} (h:PA X es t):PE X (.Tuple es x1 pos) (qi7 t):=by refine ⟨?_⟩;intro pins s σ H Q I hq;refine wpAny_Tuple_spliced (thn (h pos pins s σ H _ I hq) λus s1 ⟨xs,H1,d,r,z,q⟩=>⟨by rw [<-r.length]; exact z,?_⟩);have f:H1 s1.heap.objs.size=none:=d.hok.fresh (ax _);refine ⟨.ref s1.heap.objs.size,upd H1 s1.heap.objs.size (.tup xs),d.laid (t':=s1.toks) (λb u e=>aa _ e) (ax _) ?_,rfl,q _ f⟩;exact ⟨⟨z,_,af _ rfl,rfl⟩,us,r,⟨_,af _ rfl,rfl,_,rfl⟩⟩
theorem qfq (h:PA X es t):PE X (.List es pos) (qi8 t):=by refine ⟨?_⟩;intro pins s σ H Q I hq;refine wpAny_List_spliced (thn (h pos pins s σ H _ I hq) λus s1 ⟨xs,H1,d,r,z,q⟩=>⟨by rw [<-r.length]; exact z,?_⟩);have f:H1 s1.heap.objs.size=none:=d.hok.fresh (ax _);refine ⟨.ref s1.heap.objs.size,upd H1 s1.heap.objs.size (.lst xs),d.laid (t':=s1.toks) (λb u e=>aa _ e) (ax _) ?_,rfl,q _ f⟩;exact ⟨z,us,0,r,af _ rfl⟩
end
abbrev Sp:=List V->Hp->VK->XK->Prop
abbrev CXT:=List Env->Hp->iI->XK->iE->iI->Prop
structure Env0 (P:iJ) (w:iK) (K:Frag) (mg:Str->Option iE) (base:Heap) (A:iP) (outer:List Env) (s:iI) (H:Hp):Prop where
 frames:A.frames=iB outer
 mod:Mod K mg base
 bs:∀ b o,base.get? b=iB o->s.heap.get? b=iB o/\H b=iD
 bsz:base.objs.size<=s.heap.objs.size
 funs:s.heap.FunFrames base outer
 frf:∀ b∈frs outer,H b=iD
 hok:HOk P w H s.heap
 bare:lr s.gens
def CE (outer:List Env) (P:iJ) (w:iK) (H:Hp) (s:iI) (Q:VK) (u:iE) (s':iI):Prop:=
 ∃ v H',s'.os=s.os/\lr s'.gens/\Un (frs outer) [] H H' s.heap s'.heap/\HOk P w H' s'.heap/\RelV v u/\Q v H'
def CR (CX:CXT) (outer:List Env) (P:iJ) (w:iK) (H:Hp) (s:iI) (Q:VK) (E:XK) (r:lJ) (s':iI):Prop:=
 match r with
 | .ok (.ret u)=>CE outer P w H s Q u s'
 | .ok _=>False
 | .error e=>CX outer H s E e s'
structure FnOk (P:iJ) (w:iK) (K:Frag) (mg:Str->Option iE) (base:Heap) (CX:CXT) (k:Nat) (f:Addr) (fd:j6) (ps:List Str) (sp:Sp):Prop where
 len:∀ vs H Q E,sp vs H Q E->vs.length=ps.length
 run:∀ (A:iP) (outer:List Env) (s:iI) (H:Hp) (args:Args) (us:List iE) (vs:List V) (Q:VK) (E:XK),Room k A->Env0 P w K mg base A outer s H->lG s fd args (ps.zip us)->Vals vs us->sp vs H Q E ->codeAny (model P w) A (.call (.ref f) args) (CR CX outer P w H s Q E) s
variable {f:Addr} {mg:Str->Option iE} {base:Heap} {CX:CXT} {fd:j6} {ps:List Str} {sp:Sp}
theorem FnOk.imp {k:Nat} {a:Sp} (F:FnOk P w K mg base CX k f fd ps sp)
  (h:∀ vs H Q E,a vs H Q E->sp vs H Q E):FnOk P w K mg base CX k f fd ps a:=
 ⟨λvs H Q E q=>F.len vs H Q E (h _ _ _ _ q),λA outer s H args us vs Q E r i d c b=>F.run A outer s H args us vs Q E r i d c (h _ _ _ _ b)⟩
theorem Env0.in1 {outer:List Env} (e:Env0 P w K mg base A outer s H):Env0 P w K mg base A.in1 outer s H:=⟨e.frames,e.mod,e.bs,e.bsz,e.funs,e.frf,e.hok,e.bare⟩
section
theorem Inv.env0 (I:Inv X pins σ H s):Env0 X.prog X.w X.K X.mg X.base X.A X.stack s H:=
 ⟨I.ok.frames,I.ok.mod,I.bs,bz I.ok.bsz I.sz,I.stack,I.stkFree,I.hok,I.bare⟩
theorem Inv.after {Q:VK} (I:Inv X pins σ H s) (h:CE X.stack X.prog X.w H s Q u s'):EP X pins σ Q u s':=by obtain ⟨v,H',os,bare,un,hok,r,q⟩:=h;obtain ⟨a,g,d,t,o⟩:=s';obtain rfl:o=s.os:=os;exact ⟨v,H',I.call (h':=a) (g':=g) (d':=d) (t':=t) (ch:=[]) un hok bare (λb z=>absurd z (by simp)),r,q⟩
end
def qhr (sp:Sp) (dvs:List V) (E:XK) (t:TA):TE:=λσ H Q=>t σ H λvs H1=>sp (vs++dvs) H1 Q E
def Binds (K:Frag) (fd:j6) (ps:List Str) (ds:List iE):Prop:=
 ∀ (s:iI) (us:List iE),K.In s.heap->(us++ds).length=ps.length->lG s fd ⟨us,[]⟩ (ps.zip (us++ds))
theorem Binds.all (h:∀ us:List iE,us.length=ps.length->bindArgs fd ⟨us,[]⟩=pure (ps.zip us)):Binds K fd ps []:=λs us _ hl=>by rw [bf] at hl ⊢;exact .of_eq (h us hl)
def ui (CX:CXT) (X:Cx) (E:XK):Prop:=∀ (pins:List (Addr×Obj)) (σ:St) (H:Hp) (s:iI) (e:iE) (s':iI),Inv X pins σ H s->CX X.stack H s E e s'->X.xe e s'
variable {apos:Pos}
section
variable {k:Nat} {dvs:List V} {ds:List iE} {E:XK} {m:Str} {o:Expr} {t:TA}
theorem qfr {pins:List (Addr×Obj)} {σ:St} {H:Hp} {s:iI} {Q:VK} {us:List iE} {vs:List V} (F:FnOk X.prog X.w X.K X.mg X.base CX k f fd ps sp) (a:Room k X.A) (d:Binds X.K fd ps ds) (hd:Vals dvs ds) (hx:ui CX X E)
  (I:Inv X pins σ H s) (r:Vals vs us) (h:sp (vs++dvs) H Q E):wpAny (model X.prog X.w) X.A (call (.ref f) us) (EP X pins σ Q) X.xe s:=by
 have r2:Vals (vs++dvs) (us++ds):=r.append hd;have hl:(us++ds).length=ps.length:=by rw [<-r2.length]; exact F.len _ _ _ _ h
 refine wpAny_call (lf (F.run X.A X.stack s H ⟨us,[]⟩ (us++ds) (vs++dvs) Q E a I.env0 (d s us I.kIn hl) r2 h) λr s' hq=>?_);cases r with
 | error e=>exact hx pins σ H s e s' I hq
 | ok l=>
  cases l with
  | ret u=>exact I.after hq
  | next=>exact ck hq
  | brk=>exact ck hq
  | cont=>exact ck hq
theorem qdd (F:FnOk X.prog X.w X.K X.mg X.base CX k f fd ps sp) (a:Room k X.A) (hg:Gl X x) (c:X.mg x=iB (.ref f)) (g:keepIn X.K (.ref f)=iH) (j:Binds X.K fd ps ds) (hd:Vals dvs ds) (hx:ui CX X E)
  (m:PA X (e::es) t) (b:(x == ("__debug__":Str))=false:=by decide) (i:starEach (e::es) X.env=(iF,eval e X.env)::starEach es X.env:=by rfl) (l:(backTo pos (starEach es X.env)).any (·.1)=false:=by rfl) :
  PE X (.Call (.Name x p) (e::es) [] pos) (qhr sp dvs E t):=by
 refine ⟨?_⟩;intro pins s σ H Q I h;refine i5 (zU I hg c ?_ b);refine PySem.W.callWith_K (h₀:=X.base) I.ok.mod.kin g (thn (m pos pins s σ H _ I h) λus s1 ⟨vs,H1,d,r,q⟩=>⟨d.kIn,?_⟩) i l;exact qfr F a j hd hx d r q
end
section
variable {k:Nat} {ks:List Str} {E:XK} {m:Str} {kpos:Pos} {o:Expr} {kws:List iY} {t tk:TA} {nm:Option Str}
variable {g:List iE->List iE->List iE} {gV:List V->List V->List V}
end
structure FnScope (N P:List Str) (sc:lc):Prop where
 kind:sc.kind=.function
 co:sc.isCoroutine=iF
 gen:sc.isGenerator=iF
 nd:N.Nodup
 pre:N.take P.length=P
 par:∀ x∈P,sc.names.lookup x=iB .local\/sc.names.lookup x=iB .cell
 nofree:∀ y∈sc.names,y.2≠.free
variable {kindOf:Str->Option k6}
theorem Kq:∀ {binds:List (Str×iE)} {m:Str->Option iE},(∀ v,(x,v)∉binds)->bindL kindOf binds m x=m x
 | [],_,_=>rfl
 | (n,v)::r,m,h=>by
  unfold bindL;rw [Kq λw hw=>h w (ac _ hw)];split
  ·have:x≠n:=by rintro rfl; exact h v ai
   simp [this]
  ·rfl
theorem Kr:∀ {binds:List (Str×iE)} {m:Str->Option iE},(∀ v,(x,v)∉binds)->bindC kindOf binds m x=m x
 | [],_,_=>rfl
 | (n,v)::r,m,h=>by
  unfold bindC;rw [Kr λw hw=>h w (ac _ hw)];split;·rfl
  ·have:x≠n:=by rintro rfl; exact h v ai
   simp [this]
theorem zV {kindOf:Str->Option k6} {x:Str} {v:iE}:∀ {P:List Str} {vs:List iE} {i:Nat} {m:Str->Option iE},P.Nodup->P[i]?=iB x->vs[i]?=iB v->kindOf x=iB .local ->bindL kindOf (P.zip vs) m x=iB v
 | [],_,_,_,_,h,_,_=>by simp at h
 | _::_,[],_,_,_,_,h,_=>by simp at h
 | p::P,w::vs,0,m,nd,h1,h2,hk=>by simp at h1 h2; subst h1; subst h2;show bindL kindOf ((p,w)::P.zip vs) m p=_;unfold bindL;rw [Kq λv c=>(aP.mp nd).1 (cO c).1,if_pos hk];simp
 | p::P,w::vs,i+1,m,nd,h1,h2,hk=>by show bindL kindOf ((p,w)::P.zip vs) m x=_;unfold bindL;exact zV (i:=i) (aP.mp nd).2 (by simpa using h1) (by simpa using h2) hk
theorem zW {kindOf:Str->Option k6} {x:Str} {v:iE}:∀ {P:List Str} {vs:List iE} {i:Nat} {m:Str->Option iE},P.Nodup->P[i]?=iB x->vs[i]?=iB v->kindOf x≠iB .local ->bindC kindOf (P.zip vs) m x=iB v
 | [],_,_,_,_,h,_,_=>by simp at h
 | _::_,[],_,_,_,_,h,_=>by simp at h
 | p::P,w::vs,0,m,nd,h1,h2,hk=>by simp at h1 h2; subst h1; subst h2;show bindC kindOf ((p,w)::P.zip vs) m p=_;unfold bindC;rw [Kr λv c=>(aP.mp nd).1 (cO c).1,if_neg hk];simp
 | p::P,w::vs,i+1,m,nd,h1,h2,hk=>by show bindC kindOf ((p,w)::P.zip vs) m x=_;unfold bindC;exact zW (i:=i) (aP.mp nd).2 (by simpa using h1) (by simpa using h2) hk
noncomputable def vZ (N:List Str) (vs:List V):St:=vs.map iB++bu (N.length - vs.length) iD
def qde (CX:CXT) (P:iJ) (w:iK) (K:Frag) (mg:Str->Option iE) (base:Heap) (N:List Str) (qual:Str) (scope:lc) (f:Addr) (cd:iE) (A:iP) (outer:List Env) (s:iI) (H:Hp) (E:XK):Cx where
 prog:=P
 w:=w
 K:=K
 mg:=mg
 base:=base
 A:=A.deeper (envOfC qual scope s.heap.objs.size f cd)
 N:=N
 s₀:=s
 H₀:=H
 env:=envOfC qual scope s.heap.objs.size f cd
 outer:=outer
 stack:=envOfC qual scope s.heap.objs.size f cd::outer
 ex:=[]
 calm:=iH
 fn:=λ_=>iH
 pn:=[]
 xe:=λe s'=>wpAny (model P w) (A.deeper (envOfC qual scope s.heap.objs.size f cd)) (leaving (envOfC qual scope s.heap.objs.size f cd) e) (λ_ a=>CX outer H s E e a) (λb a=>CX outer H s E b a) s'
theorem zz {sc:lc} {n:Nat} (h:sc.names.lookup x=iB .cell):∃ c,(cellsFrom n sc.names []).lookup x=iB c:=by have q:=eG sc.names n [] (.inl h);exact Option.isSome_iff_exists.mp q
theorem Zj {CX:CXT} {P:iJ} {w:iK} {K:Frag} {mg:Str->Option iE} {base:Heap} {N ps:List Str} {qual:Str} {scope:lc} {f:Addr} {cd:iE} {A:iP} {outer:List Env} {s s1:iI} {H:Hp} {E:XK} {us:List iE} {vs:List V}
  (S:FnScope N ps scope) (hd:A.handled=iD) (d:Env0 P w K mg base A outer s H) (hl:vs.length=ps.length) (r:Vals vs us)
  (x:InCallC s s.heap.objs.size (bindL (envOfC qual scope s.heap.objs.size f cd).kindOf (ps.zip us) λ_=>iD) (cellsFrom (s.heap.objs.size+1) scope.names []) (bindC (envOfC qual scope s.heap.objs.size f cd).kindOf (ps.zip us) λ_=>iD) s1) :
  Inv (qde CX P w K mg base N qual scope f cd A outer s H E) [] (vZ N vs) H s1:=by
 have t:ps.length<=N.length:=by have:=congrArg iq S.pre; rw [bO] at this; omega
 obtain ⟨h1,tk,rfl,m⟩:=x.done;have g:∀ b:Addr,b∉(qde CX P w K mg base N qual scope f cd A outer s H E).ex:=λb z=>absurd (show b∈([]:List Addr) from z) (by simp);refine ⟨⟨d.mod,S.kind,rfl,rfl,ax _,λy z c h1 h2=>?_,λy B=>?_,λy c _ h=>?_,λ_=>hd,Around.frames_deeper d.frames,.inr ⟨rfl,rfl⟩,λb z=>absurd z (g b),d.bs,d.bsz,λb _ _=>g b,λb z=>absurd z (g b),d.funs,d.frf⟩,rfl,d.bare,Un.kept m,⟨_,x.toInCall.ns,λi y v h1 h2 h3=>?_⟩,λy c h=>⟨_,x.cell y c h⟩,d.hok.fresh (ax _),λy c h=>?_,λp hp=>absurd (show p∈([]:List (Addr×Obj)) from hp) (by simp),d.hok.kept m,?_⟩;·exact name_of_addr x.apart (bn h1) (bn h2)
 ·have B:scope.names.lookup y=iB .cell\/scope.names.lookup y=iB .free:=B;rcases B with B | B;·exact zz B
  ·exact absurd rfl (S.nofree _ (bn B))
 ·exact cH (x.above y c (bn h))
 ·have hi:i < vs.length:=by
   unfold vZ at h2;by_cases hi:i < vs.length;·exact hi
   ·rw [bU (by simpa using hi)] at h2;rw [bP] at h2;split at h2 <;> cases h2
  have C:vs[i]?=iB v:=by
   unfold vZ at h2;rw [ci (by simpa using hi),aE] at h2;cases e:vs[i]? with
   | none=>rw [e] at h2; cases h2
   | some a=>rw [e] at h2; cases h2; rfl
  obtain ⟨u,l,o⟩:=r.get C;have hp:ps[i]?=iB y:=by rw [<-S.pre,List.getElem?_take_of_lt (by omega)]; exact h1
  have j:ps.Nodup:=by rw [<-S.pre]; exact S.nd.sublist (List.take_sublist _ _)
  refine ⟨u,o,?_⟩;rcases S.par y (cU hp) with k | k;·exact .inl ⟨k,zV j hp l k⟩
  ·obtain ⟨c,e⟩:=zz (n:=s.heap.objs.size+1) k;refine .inr ⟨.inl k,c,e,?_⟩;have q:=x.cell y c e;rw [zW j hp l (by show scope.names.lookup y≠_; rw [k]; decide)] at q;exact q
 ·exact d.hok.fresh (cH (x.above y c (bn h)))
 ·unfold vZ;show _=N.length;rw [aj,ah,dA];omega
theorem qhs {CX:CXT} {P:iJ} {w:iK} {K:Frag} {mg:Str->Option iE} {base:Heap} {k:Nat} {f:Addr} {name qual:Str} {params:Arguments} {body:List Stmt} {scope:lc} {m kV doc pm cdv ct oc:iE} {an od:Option Addr}
  {osl:Array (Option iE)} {N ps:List Str} {sp:Sp} (z:K.lookup f=iB ⟨oc,od,.func (bV name qual params body scope m kV doc pm an cdv ct),osl⟩) (j:codeIn K cdv qual=iH) (S:FnScope N ps scope)
  (len:∀ vs H Q E,sp vs H Q E->vs.length=ps.length)
  (a:∀ (A:iP) (outer:List Env) (s:iI) (H:Hp) (vs:List V) (Q:VK) (E:XK),Room k (A.deeper (envOfC qual scope s.heap.objs.size f cdv))->sp vs H Q E ->∃ t,PSs (qde CX P w K mg base N qual scope f cdv A outer s H E) body t/\t { nx:=λ_ H'=>Q .non H',rt:=Q } (vZ N vs) H) :
  FnOk P w K mg base CX (k+1) f (bV name qual params body scope m kV doc pm an cdv ct) ps sp:=by
 refine ⟨len,λA outer s H args us vs Q E i d G r p=>?_⟩;have hl:=len _ _ _ _ p;have X:K.In s.heap:=d.mod.kin.keeps λb o e=>(d.bs b o e).1;have l:s.heap.NoLimit:=d.mod.nolimit.keeps λb o e=>(d.bs b o e).1;have h:∀ y∈ps.zip us,scope.names.lookup y.1=iB .local\/(scope.names.lookup y.1=iB .cell/\((cellsFrom (s.heap.objs.size+1) scope.names []).lookup y.1).isSome=iH):=λ⟨n,v⟩ B=>by
  rcases S.par n (cO B).1 with q | q;·exact .inl q
  ·exact .inr ⟨q,eG _ _ _ (.inl q)⟩
 refine codeAny_call_function i.depth (X _ _ z) rfl S.co S.gen rfl (PySem.W.codeRec_of X j) (G _ _ _ _ ?_);refine wpAny_newFunctionEnv_cells S.kind h λenv D s1 x=>?_;subst D;refine ⟨l.keeps x.toInCall.keep,codeAny_func ?_⟩;obtain ⟨t,C,hq⟩:=a A outer s H vs Q E (i.deeper _) p;have I:Inv (qde CX P w K mg base N qual scope f cdv A outer s H E) [] (vZ N vs) H s1:=Zj S i.hd d hl r x;refine i8 (C [] s1 (vZ N vs) H _ I hq) (λL s' c=>?_) λe s' c=>c;have fin:∀ {σ':St} {H':Hp} {v:V} {u:iE},Inv (qde CX P w K mg base N qual scope f cdv A outer s H E) [] σ' H' s'->RelV v u->Q v H'->CE outer P w H s Q u s':=
  λ{σ' H' v u} J g q=>⟨v,H',J.os,J.bare,J.base,J.hok,g,q⟩
 cases L with
 | ret u=>obtain ⟨v,σ',H',J,g,q⟩:=c;exact fin J g q
 | next=>obtain ⟨σ',H',J,q⟩:=c;exact fin (v:=V.non) (u:=bD) J rfl q
 | brk=>obtain ⟨_,_,_,q⟩:=c;exact ck q
 | cont=>obtain ⟨_,_,_,q⟩:=c;exact ck q
section
variable {t:TA} {id T:String} {r:List V->Hp->VK->Prop}
def tCB (r:List V->Hp->VK->Prop) (t:TA):TE:=λσ H Q=>t σ H λvs H1=>r vs H1 Q
theorem wF (d:uh X (.builtin id) r) (hg:Gl X x) (m:X.mg x=iD) (c:bootBuiltins x=iB (.builtin id)) (g:PA X (e::es) t) (n:x ≠ "__name__":=by decide) (b:(x == ("__debug__":Str))=false:=by decide)
  (i:starEach (e::es) X.env=(iF,eval e X.env)::starEach es X.env:=by rfl) (l:(backTo pos (starEach es X.env)).any (·.1)=false:=by rfl):PE X (.Call (.Name x p) (e::es) [] pos) (tCB r t):=by
 refine ⟨?_⟩;intro pins s σ H Q I h;refine i5 (yK I hg m c ?_ n b);exact PyProof.Rows.callWith_builtin1 (thn (g pos pins s σ H _ I h) λus s1 ⟨vs,H1,a,r1,q⟩=>d pins s1 σ H1 vs us Q a r1 q) i l
theorem uj (d:uh X (.type T) r) (hg:Gl X x) (m:X.mg x=iD) (c:bootBuiltins x=iB (.type T)) (g:PA X (e::es) t) (n:x ≠ "__name__":=by decide) (b:(x == ("__debug__":Str))=false:=by decide)
  (i:starEach (e::es) X.env=(iF,eval e X.env)::starEach es X.env:=by rfl) (l:(backTo pos (starEach es X.env)).any (·.1)=false:=by rfl):PE X (.Call (.Name x p) (e::es) [] pos) (tCB r t):=by
 refine ⟨?_⟩;intro pins s σ H Q I h;refine i5 (yK I hg m c ?_ n b);exact bA (thn (g pos pins s σ H _ I h) λus s1 ⟨vs,H1,a,r1,q⟩=>d pins s1 σ H1 vs us Q a r1 q) i l
end
end L2
namespace HT
open PySem PyProof.Rows
section
open PySem.SeqAt
open PySem.AutoSeq1 (wpAny_loadPart')
open PySem.MeetsSeq PySem.MeetsSeq2 PySem.MeetsSeq3
end
section
variable {prog:iJ} {w:iK} {A:iP} {E:iE->iI->Prop} {s:iI}
theorem cat_tup {t b:Addr} {vs ws:List iE} {Q:iE->iI->Prop} (l:IsTup s.heap t vs.toArray) (j:IsTup s.heap b ws.toArray) (v:vs≠[])
  (h1:ws=[]->Q (.ref t) s) (h2:ws≠[]->Q (.ref s.heap.objs.size) { s with heap:=s.heap.push { cls:=.type "tuple",data:=.seq (vs++ws).toArray } })
  (hsz:vs.length+ws.length<=sizeLine):wpAny (model prog w) A (binaryOp .Add (.ref t) (.ref b)) Q E s:=by
 obtain ⟨⟨cls,dd,data,sl⟩,m,g,n,hd⟩:=id l;obtain ⟨⟨i,d,f,a⟩,h,c,n2,hd2⟩:=id j;simp only at g hd c hd2;subst g hd c hd2;have e:vs.toArray++ws.toArray=(vs++ws).toArray:=by simp
 by_cases hw:ws=[]
 ·exact lB ⟨_,m,rfl⟩ ⟨_,h,rfl⟩ noFill_tuple_add seq_tuple_add eI ei (dY _ _)
   (tuple_addW1 t b vs.toArray ws.toArray n n2 dd d sl a (by simpa using v) (by simp [hw])) ⟨m,h,h1 hw⟩
 ·refine lB ⟨_,m,rfl⟩ ⟨_,h,rfl⟩ noFill_tuple_add seq_tuple_add eI ei (dY _ _)
   (tuple_addW2 t b vs.toArray ws.toArray n n2 dd d sl a (by simpa using v) (by simpa using hw) (by rw [am,am]; exact hsz)) ⟨m,h,?_⟩
  rw [e];exact h2 hw
noncomputable def sIx (n d:Nat):Option Int->Nat
 | none=>d
 | some v=>if v < 0 then (v+(n:Int)).toNat else min v.toNat n
theorem sIx_none (n d:Nat):sIx n d iD=d:=rfl
theorem sIx_nat (n d k:Nat):sIx n d (iB (k:Int))=min k n:=by show (if (k:Int) < 0 then ((k:Int)+(n:Int)).toNat else min (k:Int).toNat n)=min k n;rw [if_neg (by omega),dD]
theorem slicePart_ {v:iE} {o:Option Int} {Q:Option Int->iI->Prop} (p:ll v o) (h:Q o s):wpAny (model prog w) A (Builtin.Slice.slicePartIndex v) Q E s:=by
 cases p with
 | none=>exact slicePart_none h
 | int i t=>exact slicePart_int h
end
end HT
namespace L2
open PySem PySem.Spec PyProof.Rows
abbrev TO:=St->Hp->(Option Int->Hp->Prop)->Prop
def PO (X:Cx) (e:Option Expr) (t:TO):Prop:=
 ∀ (pins:List (Addr×Obj)) (s:iI) (σ:St) (H:Hp) (Q:Option Int->Hp->Prop),Inv X pins σ H s->t σ H Q ->wpAny (model X.prog X.w) X.A (evalPart e X.env) (λu s'=>∃ o H',Inv X pins σ H' s'/\ll u o/\Q o H') X.xe s
def qdf:TO:=λ_ H Q=>Q iD H
def qht (t:TE):TO:=λσ H Q=>t σ H λx H1=>∃ i,x=.int i/\Q (iB i) H1
variable {X:Cx} {e:Expr} {pos:Pos} {xs:List V} {us:List iE}
section
variable {te:TE} {lo hi:Option Expr} {tl th:TO} {p2:Pos}
theorem qdg:PO X iD qdf:=by intro pins s σ H Q I h;rw [evalPart_none];exact iG ⟨iD,H,I,.none,h⟩
theorem qdh (h:PE X e te):PO X (iB e) (qht te):=by intro pins s σ H Q I hw;rw [evalPart_some];refine thn (h pins s σ H _ I hw) λu s1 ⟨x,H1,d,r1,a⟩=>?_;obtain ⟨i,rfl,q⟩:=a;obtain ⟨t,rfl⟩:=r1;exact ⟨iB i,H1,d,.int i t,q⟩
def SlR (X:Cx) (r:V->Option Int->Option Int->Hp->VK->Prop):Prop:=
 ∀ (pins:List (Addr×Obj)) (s:iI) (σ:St) (H:Hp) (x:V) (v vl u:iE) (lo hi:Option Int) (sl:Addr) (Q:VK),Inv X pins σ H s->RelV x v->s.heap.IsSliceOf sl vl u .none->ll vl lo->ll u hi->r x lo hi H Q ->∃ T id,typeLookup (.type T) "__getitem__"=pure (iB (.builtin id))/\s.TypeIs v T/\wpAny (model X.prog X.w) X.A (getItem v (.ref sl)) (EP X pins σ Q) X.xe s
def tSl (r:V->Option Int->Option Int->Hp->VK->Prop) (te:TE) (tl th:TO):TE:=λσ H Q=>te σ H λx H1=>tl σ H1 λl H2=>th σ H2 λu d=>r x l u d Q
theorem qaZ {r:V->Option Int->Option Int->Hp->VK->Prop} (j:SlR X r) (k:PE X e te) (hl:PO X lo tl) (i:PO X hi th):PE X (.Subscript e (.Slice lo hi iD p2) pos) (tSl r te tl th):=by refine ⟨?_⟩;intro pins s σ H Q I h;refine Subscript_ (thn (k pins s σ H _ I h) λv s1 ⟨x,H1,o,r1,g⟩=>?_);refine wpAny_Slice (thn (hl pins s1 σ H1 _ o g) λvl s2 ⟨l,H2,n,pl,f⟩=>thn (i pins s2 σ H2 _ n f) λa s3 ⟨u,d,m,p,c⟩=>?_);rw [evalPart_none];refine iG ?_;have B:Inv X pins σ d { s3 with heap:=s3.heap.push { cls:=.type "slice",data:=.fields #[vl,a,.none] } }:=m.kept (t':=s3.toks) λb y q=>aa _ q;obtain ⟨T,id,hT,t,hg⟩:=j pins { s3 with heap:=s3.heap.push { cls:=.type "slice",data:=.fields #[vl,a,.none] } } σ d x v vl a l u s3.heap.objs.size Q B r1 (Heap.IsSliceOf.new ..) pl p c;show wpAny (model X.prog X.w) X.A (subscriptTail e (.Slice lo hi iD p2) v (.ref s3.heap.objs.size)) (EP X pins σ Q) X.xe { s3 with heap:=s3.heap.push { cls:=.type "slice",data:=.fields #[vl,a,.none] } };exact lK (ops:=[.ref s3.heap.objs.size,v]) t hT hg (by with_unfolding_all rfl)
noncomputable def qdi (xs:List V) (lo hi:Option Int):List V:=(xs.drop (HT.sIx xs.length 0 lo)).take (HT.sIx xs.length xs.length hi - HT.sIx xs.length 0 lo)
theorem VX (xs:List V) (lo hi:Option Int):(qdi xs lo hi).length<=xs.length:=by unfold qdi;rw [bO,List.length_drop];omega
def qhu (K:Frag):R2:=λx y H Q=>∃ a b xs ys,x=.ref a/\y=.ref b/\SqT K H a xs/\SqT K H b ys/\xs≠[]/\xs.length+ys.length<=sizeLine /\
 (ys=[]->Q (.ref a) H)/\(ys≠[]->∀ p,H p=iD->Q (.ref p) (upd H p (.tup (xs++ys))))
theorem Vals.nil_iff (r:Vals xs us):us=[]↔xs=[]:=by
 cases r with
 | nil=>simp
 | cons _ _=>simp
theorem qdj:OpR X (binaryOp .Add) (qhu X.K):=by intro pins s σ H x y v u Q I d c h;obtain ⟨a,b,xs,ys,rfl,rfl,j,g,hx,hz,f,e⟩:=h;cases d;cases c;obtain ⟨its,r1,p1,_⟩:=I.tuple j;obtain ⟨i,r2,p2,_⟩:=I.tuple g;refine HT.cat_tup p1 p2 (λz=>hx (r1.nil_iff.mp z)) (λz=>⟨.ref a,H,I,rfl,f (r2.nil_iff.mp z)⟩) (λz=>?_) (by rw [<-r1.length,<-r2.length]; exact hz);refine ⟨.ref s.heap.objs.size,_,I.laid (t':=s.toks) (o:=.tup (xs++ys)) (λb k q=>aa _ q) (ax _) ?_,rfl,e (λw=>z (r2.nil_iff.mpr w)) _ (I.hok.fresh (ax _))⟩;exact ⟨⟨by rw [aj]; exact hz,_,af _ rfl,rfl⟩,_,r1.append r2,IsTup.new _ _⟩
end
noncomputable def ixN (n:Nat) (i:Int):Option Nat:=if 0<=i then (if i < n then iB i.toNat else iD) else if -(n:Int)<=i then iB (i+n).toNat else iD
variable {α:Type}
noncomputable def atI (xs:List α) (i:Int):Option α:=(ixN xs.length i).bind λj=>xs[j]?
variable {n j:Nat} {i:Int}
theorem qdk (h:ixN n i=iB j):seqIndex? i n=iB j/\j < n/\-(n:Int)<=i/\i < n:=by
 unfold ixN at h;by_cases h0:0<=i
 ·rw [if_pos h0] at h;by_cases h1:i < n;·rw [if_pos h1] at h;have e:i.toNat=j:=aU.inj h;exact ⟨by rw [seqIndex_of h0 h1,e],by omega,by omega,h1⟩
  ·rw [if_neg h1] at h; cases h
 ·rw [if_neg h0] at h;by_cases h1:-(n:Int)<=i;·rw [if_pos h1] at h;have e:(i+n).toNat=j:=aU.inj h;exact ⟨by rw [seqIndex_neg (by omega) h1,e],by omega,h1,by omega⟩
  ·rw [if_neg h1] at h; cases h
theorem VY {xs:List α} {v:α} (h:atI xs i=iB v):∃ j,seqIndex? i xs.length=iB j/\xs[j]?=iB v/\j < xs.length/\-(xs.length:Int)<=i/\i < xs.length:=by
 unfold atI at h;cases e:ixN xs.length i with
 | none=>rw [e] at h; cases h
 | some j=>rw [e] at h;obtain ⟨h1,h2,h3,a⟩:=qdk e;exact ⟨j,h1,h,h2,h3,a⟩
theorem wa {xs:List α} {v:α} (h:xs[j]?=iB v):atI xs (j:Int)=iB v:=by
 have G:j < xs.length:=(aB.mp h).1;have e:ixN xs.length (j:Int)=iB j:=by unfold ixN;rw [if_pos (by omega),if_pos (by omega)]; simp
 unfold atI; rw [e]; exact h
def Zk (b:Expr):Prop:=∀ o i,subscripted b iF o i=operate [o,i] (getItem o i)
def IxR (X:Cx) (r:R2):Prop:=
 ∀ (value e:Expr) (pins:List (Addr×Obj)) (s:iI) (σ:St) (H:Hp) (x y:V) (v u:iE) (Q:VK),Inv X pins σ H s->RelV x v->RelV y u->r x y H Q ->subscripted e iF v u=operate [v,u] (getItem v u)->wpAny (model X.prog X.w) X.A (subscriptTail value e v u) (EP X pins σ Q) X.xe s
def MtR (X:Cx) (id:String) (r:V->List V->Hp->VK->Prop):Prop:=
 ∀ (pins:List (Addr×Obj)) (s:iI) (σ:St) (H:Hp) (x:V) (xs:List V) (v:iE) (us:List iE) (Q:VK),Inv X pins σ H s->RelV x v->Vals xs us->r x xs H Q ->wpAny (model X.prog X.w) X.A (call (.builtin id) (v::us)) (EP X pins σ Q) X.xe s
variable {pins:List (Addr×Obj)} {σ:St} {H:Hp} {s:iI} {T:String}
section
variable {a b:Expr} {ta tb:TE}
theorem IxR.or {r r':R2} (h:IxR X r) (h':IxR X r'):IxR X (λx y H Q=>r x y H Q\/r' x y H Q):=by
 intro value e pins s σ H x y v u Q I d c q a;rcases q with q | q;·exact h value e pins s σ H x y v u Q I d c q a
 ·exact h' value e pins s σ H x y v u Q I d c q a
theorem qhv {r:R2} (f:IxR X r) (i:PE X a ta) (g:PE X b tb) (e:Zk b):PE X (.Subscript a b pos) (tOp r ta tb):=by refine ⟨?_⟩;intro pins s σ H Q I h;exact Subscript_ (qhj i g I h λv u s2 x y H2 j d c q=>f a b pins s2 σ H2 x y v u Q j d c q (e _ _))
def qio (K:Frag):R2:=λx y H Q=>∃ p xs i v,x=.ref p/\y=.int i/\SqL K H p xs/\atI xs i=iB v/\Q v H
def qip (K:Frag):R2:=λx y H Q=>∃ p xs i v,x=.ref p/\y=.int i/\SqT K H p xs/\atI xs i=iB v/\Q v H
def qiq:R2:=λx y H Q=>∃ z i c,x=.str z/\y=.int i/\z.length<=sizeLine/\atI z.cps.toList i=iB c/\Q (.str ⟨#[c]⟩) H
theorem ix_list:IxR X (qio X.K):=by
 intro value e pins s σ H x y v u Q I f d h c;obtain ⟨p,xs,i,z,rfl,rfl,hq,g,q⟩:=h;cases f;obtain ⟨t,rfl⟩:=d;obtain ⟨its,r,pl,hz⟩:=I.list hq;obtain ⟨j,h1,h2,h3,l,k⟩:=VY g;obtain ⟨w,b,a⟩:=r.get h2;have hl:=r.length;have n:=Kp;have fin:EP X pins σ Q w s:=⟨z,H,I,a,q⟩
 by_cases h0:0<=i
 ·have G:i.toNat=j:=by rw [seqIndex_of h0 k] at h1;exact aU.inj h1
  exact item_listR pl.isList h0 (by omega) (by rw [G]; simpa using b) fin c
 ·have G:(i+(its.toArray.size:Int)).toNat=j:=by rw [seqIndex_neg (by omega) l] at h1;rw [am,<-hl];exact aU.inj h1
  exact subscriptTail_builtinR (x:=w) pl.isList.typeIs slot_list_getitem.lookup
   (wpAny_getItem_list_neg (Q:=λr s'=>r=w/\EP X pins σ Q r s') pl.isList (by omega) (by rw [am] <;> omega) (by omega) (by rw [G]; simpa using b) ⟨rfl,fin⟩) c
theorem ix_tup:IxR X (qip X.K):=by
 intro value e pins s σ H x y v u Q I d c h b;obtain ⟨p,xs,i,z,rfl,rfl,hq,f,q⟩:=h;cases d;obtain ⟨t,rfl⟩:=c;obtain ⟨its,r,pl,hz⟩:=I.tuple hq;obtain ⟨j,h1,h2,h3,l,k⟩:=VY f;obtain ⟨w,g,a⟩:=r.get h2;have hl:=r.length;have n:=Kp;have fin:EP X pins σ Q w s:=⟨z,H,I,a,q⟩
 exact subscriptTail_builtinR (x:=w) pl.typeIs slot_tuple_getitem.lookup
  (getItem_tuple (j:=j) (Q:=λr s'=>r=w/\EP X pins σ Q r s') pl (by omega) (by omega) (by rw [am,<-hl]; exact h1) (by simpa using g) ⟨rfl,fin⟩) b
theorem qfs:IxR X qiq:=by
 intro value e pins s σ H x y v u Q I d r h a;obtain ⟨z,i,c,rfl,rfl,hz,b,q⟩:=h;obtain ⟨t,rfl⟩:=d;obtain ⟨t',rfl⟩:=r;obtain ⟨j,h1,h2,h3,f,k⟩:=VY b;have hl:z.cps.toList.length=z.length:=by simp [g7]
 rw [hl] at h1 f k;have n:=Kp;exact lK (typeIs_str s z t) slot_str_getitem.lookup (getItem_str (c:=c) (by have e1:decide (i < -(2 ^ 63:Int))=false:=decide_eq_false (by omega);have g:decide (i ≥ 2 ^ 63)=false:=decide_eq_false (by omega);rw [e1,g,fV]) (by rw [h1]; simpa using h2) ⟨.str ⟨#[c]⟩,H,I.tok _,⟨_,rfl⟩,q⟩) a
def rIx (K:Frag):R2:=λx y H Q=>qio K x y H Q\/qip K x y H Q\/qiq x y H Q
theorem qft:IxR X (rIx X.K):=ix_list.or (ix_tup.or qfs)
theorem Ks (lo hi:Option Int) (n:Nat):(sliceBounds lo hi iD n).1=((HT.sIx n 0 lo:Nat):Int)/\(sliceBounds lo hi iD n).2.1=((HT.sIx n n hi:Nat):Int)/\(sliceBounds lo hi iD n).2.2=1:=by
 refine ⟨?_,?_,rfl⟩
 ·cases lo with
  | none=>simp [sliceBounds,HT.sIx]
  | some i=>
   simp only [sliceBounds,HT.sIx,Option.getD_none,show (1:Int) > 0 by decide,if_true];by_cases h:i < 0;·simp only [h,if_true] <;> omega
   ·simp only [h,if_false] <;> omega
 ·cases hi with
  | none=>simp [sliceBounds,HT.sIx]
  | some i=>
   simp only [sliceBounds,HT.sIx,Option.getD_none,show (1:Int) > 0 by decide,if_true];by_cases h:i < 0;·simp only [h,if_true] <;> omega
   ·simp only [h,if_false] <;> omega
theorem QY (its:List iE) (lo hi:Option Int):slicePick its.toArray lo hi iD=((its.drop (HT.sIx its.length 0 lo)).take (HT.sIx its.length its.length hi - HT.sIx its.length 0 lo)).toArray:=by obtain ⟨h1,h2,h3⟩:=Ks lo hi its.toArray.size;unfold slicePick;rw [h1,h2,h3];simp only [sliceRange_one,pick_run,am] <;> rfl
def qi9 (K:Frag):V->Option Int->Option Int->Hp->VK->Prop:=λx lo hi H Q=>∃ a xs,x=.ref a/\SqL K H a xs/\∀ p,H p=iD->Q (.ref p) (upd H p (.lst (qdi xs lo hi)))
theorem qdl:SlR X (qi9 X.K):=by intro pins s σ H x v vl u lo hi sl Q I d c pl p h;obtain ⟨a,xs,rfl,hx,q⟩:=h;cases d;obtain ⟨its,r,l,hz⟩:=I.list hx;have n:=r.length;refine ⟨"list",_,slot_list_getitem.lookup,l.isList.typeIs,?_⟩;refine wpAny_getItem_list_slice l.isList c pl p .none (by simp) ?_ (by rw [am] <;> omega);rw [QY,<-n];refine ⟨.ref s.heap.objs.size,_,I.laid (t':=s.toks) (o:=.lst (qdi xs lo hi)) (λb e q=>aa _ q) (ax _) ?_,rfl,q _ (I.hok.fresh (ax _))⟩;exact ⟨bz (VX xs lo hi) hz,_,0,(r.drop (HT.sIx xs.length 0 lo)).take (HT.sIx xs.length xs.length hi - HT.sIx xs.length 0 lo),af _ rfl⟩
theorem xU:uh X (.type "list") (λxs H Q=>∃ p ys,xs=[.ref p]/\(SqL X.K H p ys\/SqT X.K H p ys)/\∀ l,H l=iD->Q (.ref l) (upd H l (.lst ys))):=by
 intro pins s σ H xs us Q I r h;obtain ⟨p,ys,rfl,hq,q⟩:=h;obtain ⟨u,rfl,x⟩:=yv r;cases x;have fin:∀ (its:List iE),Vals ys its->ys.length<=sizeLine->∀ (h':Heap) (T:Nat),(∀ b o',s.heap.get? b=iB o'->h'.get? b=iB o') ->h'.get? s.heap.objs.size=iB { cls:=.type "list",dict:=iD,data:=.seq its.toArray T,slots:=#[] }->EP X pins σ Q (.ref s.heap.objs.size) { s with heap:=h' }:=λits r' hz h' T kp e=>
  ⟨.ref s.heap.objs.size,_,I.laid (t':=s.toks) kp (ax _) (show ObjOk X.prog X.w _ h' _ (.lst ys) from ⟨hz,its,T,r',e⟩),rfl,q _ (I.hok.fresh (ax _))⟩
 rcases hq with hq | hq;·obtain ⟨its,r',pl,hz⟩:=I.list hq;have a:=r'.length;obtain ⟨o,m,d,n,hd⟩:=pl.isList;exact call_list_seq p (.inl rfl) m d hd (λh' T kp e=>fin its r' hz h' T kp e) (by simp only [am] <;> omega)
 ·obtain ⟨its,r',pl,hz⟩:=I.tuple hq;have a:=r'.length;obtain ⟨o,m,d,n,hd⟩:=pl;exact call_list_seq p (.inr rfl) m d hd (λh' T kp e=>fin its r' hz h' T kp e) (by simp only [am] <;> omega)
theorem yL:uh X (.type "tuple") (λxs H Q=>∃ p ys,xs=[.ref p]/\((SqL X.K H p ys/\∀ l,H l=iD->Q (.ref l) (upd H l (.tup ys)))\/(SqT X.K H p ys/\Q (.ref p) H))):=by
 intro pins s σ H xs us Q I r h;obtain ⟨p,ys,rfl,h⟩:=h;obtain ⟨u,rfl,x⟩:=yv r;cases x;rcases h with ⟨hq,q⟩ | ⟨hq,q⟩
 ·obtain ⟨its,r',pl,hz⟩:=I.list hq;have n:=r'.length;refine call_tuple_list pl.isList (λh' kp=>?_) (by simp only [am] <;> omega);have d:Inv X pins σ H { s with heap:=h' }:=I.kept (t':=s.toks) kp;have a:Inv X pins σ (upd H h'.objs.size (.tup ys)) { s with heap:=h'.push { cls:=.type "tuple",data:=.seq its.toArray } }:=
   d.laid (t':=s.toks) (λb o e=>aa _ e) (ax _) (show ObjOk X.prog X.w _ _ _ (.tup ys) from ⟨⟨hz,_,af _ rfl,rfl⟩,its,r',IsTup.new _ _⟩)
  exact ⟨.ref h'.objs.size,_,a,rfl,q _ (d.hok.fresh (ax _))⟩
 ·obtain ⟨its,r',pl,hz⟩:=I.tuple hq;exact call_tuple_same pl ⟨.ref p,H,I,rfl,q⟩
def tyV (K:Frag) (T:String) (x:V) (H:Hp):Prop:=match x with
 | .str _=>T = "str"
 | .int _=>T = "int"
 | .ref p=>(T = "list"/\∃ xs,SqL K H p xs)\/(T = "tuple"/\∃ o,K.lookup p=iB o/\o.cls=.type "tuple"/\o.dict=iD) \/
   (T = "dict"/\((∃ kvs,H p=iB (.dK kvs))\/∃ kvs,H p=iB (.dT kvs)))\/(T = "set"/\∃ S n,H p=iB (.set S n))
 | _=>False
theorem qfu {x:V} {v:iE} (I:Inv X pins σ H s) (r:RelV x v) (ty:tyV X.K T x H):s.TypeIs v T/\∀ a,v=.ref a->∃ d,s.heap.get? a=iB d/\d.dict=none:=by
 cases x with
 | str z=>obtain ⟨t,rfl⟩:=r;cases (show T = "str" from ty);exact ⟨typeIs_str s z t,λ_ e=>nomatch e⟩
 | int i=>obtain ⟨t,rfl⟩:=r;cases (show T = "int" from ty);exact ⟨typeIs_int s i t,λ_ e=>nomatch e⟩
 | ref p=>
  cases r;rcases ty with ⟨rfl,xs,hq⟩ | ⟨rfl,o,k,h,hd⟩ | ⟨rfl,k⟩ | ⟨rfl,S,n,k⟩
  ·obtain ⟨its,_,pl,_⟩:=I.list hq;refine ⟨pl.isList.typeIs,λa e=>?_⟩;cases e;obtain ⟨o,n,e,c,hd,_⟩:=pl;exact ⟨o,e,hd⟩
  ·refine ⟨⟨o,I.kIn p o k,h⟩,λa e=>?_⟩;cases e;exact ⟨o,I.kIn _ o k,hd⟩
  ·have z:∃ o,s.heap.get? p=iB o/\o.ExactDict:=by
    rcases k with ⟨kvs,k⟩ | ⟨kvs,k⟩
    ·obtain ⟨_,_,_,_,o,_,_,e,ex,_⟩:=I.hok p _ k;exact ⟨o,e,ex⟩
    ·obtain ⟨_,_,_,_,o,_,_,e,ex,_⟩:=I.hok p _ k;exact ⟨o,e,ex⟩
   obtain ⟨o,e,ex⟩:=z;refine ⟨⟨o,e,ex.1⟩,λa b=>?_⟩;cases b;exact ⟨o,e,ex.2.1⟩
  ·obtain ⟨o,_,_,_,e,ex,_⟩:=I.hok p _ k;refine ⟨⟨o,e,ex.1⟩,λa b=>?_⟩;cases b;exact ⟨o,e,ex.2.1⟩
 | _=>exact ck ty
def tBM (K:Frag) (T:String) (r:V->List V->Hp->VK->Prop) (to:TE) (t:TA):TE:=λσ H Q=>to σ H λx H1=>tyV K T x H1/\t σ H1 λxs H2=>r x xs H2 Q
variable {o:Expr} {es:List Expr} {to:TE} {t:TA} {name:Str} {apos cpos:Pos} {id:String} {r:V->List V->Hp->VK->Prop}
theorem YY (pa:PlainAttrs T) (slot:Slot T name id) (y:typeOf (.builtin id)=pure (.type "method_descriptor")) (g:MtR X id r) (m:PE X o to) (i:PA X (e::es) t)
  (b:attributeBase o name X.env (eval o X.env)=eval o X.env:=by rfl)
  (w:((backTo cpos (starEach (e::es) X.env)).all (λx=>!x.1)&&(backToKw cpos (keywordEach [] X.env)).all (λx=>x.1.isSome)
   && decide ((e::es).length+([]:List iY).length+(if ([]:List iY).isEmpty then 0 else 1) < 30))=true:=by rfl)
  (a:(apos.endLine == cpos.line)=true:=by rfl) (f:starEach (e::es) X.env=(iF,eval e X.env)::starEach es X.env:=by rfl) (n:(backTo cpos (starEach es X.env)).any (·.1)=false:=by rfl) :
  PE X (.Call (.Attribute o name apos) (e::es) [] cpos) (tBM X.K T r to t):=by
 refine ⟨?_⟩;intro pins s σ H Q I h;refine wpAny_Call_method_late b w a rfl (thn (m pins s σ H _ I h) λv s1 ⟨x,H1,d,r1,ty,c⟩=>?_);obtain ⟨h1,h2⟩:=qfu d r1 ty;refine ⟨T,id,pa,slot,y,h1,h2,?_⟩;have hA:=i cpos pins s1 σ H1 _ d c;rw [f] at hA ⊢;refine dg (by show (iF||(backTo cpos (starEach es X.env)).any (·.1))=iF; rw [n] <;> rfl) (dL ?_);exact thn hA λus s2 ⟨vs,H2,j,r2,q⟩=>g pins s2 σ H2 x vs v us Q j r1 r2 q
end
def MtM (X:Cx) (id:String) (r:V->List V->Hp->VK->Prop):Prop:=
 ∀ (pins:List (Addr×Obj)) (s:iI) (σ:St) (H:Hp) (x:V) (xs:List V) (v:iE) (us:List iE) (Q:VK),Inv X pins σ H s->RelV x v->Vals xs us->r x xs H Q ->wpAny (model X.prog X.w) X.A (call (.builtin id) (v::us)) (EP X pins σ Q) X.xe s
theorem Vals.one:∀ {x:V} {us:List iE},Vals [x] us->∃ u,us=[u]/\RelV x u
 | _,_,.cons r .nil=>⟨_,rfl,r⟩
theorem Vals.two:∀ {x y:V} {us:List iE},Vals [x,y] us->∃ u v,us=[u,v]/\RelV x u/\RelV y v
 | _,_,_,.cons r (.cons q .nil)=>⟨_,_,rfl,r,q⟩
theorem Vals.zero:∀ {us:List iE},Vals [] us->us=[]
 | _,.nil=>rfl
theorem Vals.eraseIdx:∀ {xs:List V} {us:List iE} (i:Nat),Vals xs us->Vals (xs.eraseIdx i) (us.eraseIdx i)
 | _,_,_,.nil=>.nil
 | _,_,0,.cons _ t=>t
 | _,_,i+1,.cons r t=>.cons r (Vals.eraseIdx i t)
theorem Vals.reverse (h:Vals xs us):Vals xs.reverse us.reverse:=by
 induction h with
 | nil=>exact .nil
 | cons r t j=>rw [eJ,eJ]; exact Vals.append j (.cons r .nil)
theorem Vals.rep (h:Vals xs us):∀ k:Nat,Vals (bu k xs).flatten (bu k us).flatten
 | 0=>.nil
 | k+1=>by rw [List.replicate_succ,List.replicate_succ,List.flatten_cons,List.flatten_cons];exact Vals.append h (Vals.rep h k)
section
variable {l b:Addr} {ys zs:List V}
theorem Inv.lset {its its':List iE} {n:Nat} {f:Array iE->Array iE} {t':Nat} (I:Inv X pins σ H s) (b:H l=iB (.lst xs))
  (e:s.heap.get? l=iB { cls:=.type "list",data:=.seq its.toArray n }) (a:f its.toArray=its'.toArray) (c:Vals ys its') (hz:ys.length<=sizeLine) :
  Inv X pins σ (upd H l (.lst ys)) { s with heap:=s.heap.update l (bw f),toks:=t' }:=by
 have q:=PySem.IsL.update e f;rw [a] at q;refine I.write (x:=l) (e:=l) (by rw [b]; exact trivial) (.inl rfl) (λg u d h=>(bG s.heap (bw f) (ba d)).trans h) ⟨_,q⟩ ?_;exact ⟨hz,its',_,c,q⟩
theorem Inv.lnew {its:List iE} {t':Nat} (I:Inv X pins σ H s) (c:Vals ys its) (hz:ys.length<=sizeLine):Inv X pins σ (upd H s.heap.objs.size (.lst ys)) { s with heap:=s.heap.push { cls:=.type "list",data:=.seq its.toArray },toks:=t' }:=
 I.laid (λ_ _ q=>aa _ q) (ax _) ⟨hz,its,0,c,af _ rfl⟩
theorem Inv.fresh (I:Inv X pins σ H s):H s.heap.objs.size=none:=I.hok.fresh (ax _)
theorem Inv.lstM (I:Inv X pins σ H s) (b:H l=iB (.lst xs)):xs.length<=sizeLine/\∃ (its:List iE) (n:Nat),Vals xs its/\xs.length=its.length/\s.heap.get? l=iB { cls:=.type "list",data:=.seq its.toArray n }:=by obtain ⟨z,its,n,r,e⟩:=I.hok l _ b;exact ⟨z,its,n,r,r.length,e⟩
theorem qa0 (h:n<=sizeLine):dZ n=false:=by unfold dZ;exact decide_eq_false (by omega)
end
section
def VZ:V->List V->Hp->VK->Prop:=λx vs H Q=>∃ l xs y,x=.ref l/\vs=[y]/\H l=iB (.lst xs)/\xs.length < sizeLine/\Q .non (upd H l (.lst (xs++[y])))
theorem Kt:MtM X "list.append" VZ:=by intro pins s σ H x vs v us Q I d a h;obtain ⟨l,xs,y,rfl,rfl,b,hz,q⟩:=h;cases d;obtain ⟨u,rfl,A⟩:=a.one;obtain ⟨z,its,n,r,hl,e⟩:=I.lstM b;refine la F.slot_list_append ⟨_,e,rfl⟩ F.entry_list_append (F.args_list_append_2 _ _) (PySem.list_append l its.toArray n u (by rw [am]; omega)) ⟨e,?_⟩;refine ⟨.non,_,I.lset (its':=its++[u]) b e (by simp) (r.append (.cons A .nil)) ?_,rfl,q⟩;rw [aj,cJ];omega
def qdm:V->List V->Hp->VK->Prop:=λx vs H Q=>∃ l b xs zs,x=.ref l/\vs=[.ref b]/\H l=iB (.lst xs)/\H b=iB (.lst zs)/\xs.length+zs.length<=sizeLine/\Q .non (upd H l (.lst (xs++zs)))
theorem Zl:MtM X "list.extend" qdm:=by
 intro pins s σ H x vs v us Q I d c h;obtain ⟨l,b,xs,zs,rfl,rfl,a,B,hz,q⟩:=h;cases d;obtain ⟨u,rfl,A⟩:=c.one;cases A;obtain ⟨z,its,n,r,hl,e⟩:=I.lstM a;obtain ⟨z2,i,n2,r2,f,j⟩:=I.lstM B;have hsz:its.toArray.size+i.toArray.size<=sizeLine:=by rw [am,am]; omega
 have g:¬(!its.toArray.isEmpty&&dZ (its.toArray.size+i.toArray.size))=true:=by rw [qa0 hsz,Bool.and_false];exact bE
 refine la F.slot_list_extend ⟨_,e,rfl⟩ F.entry_list_extend (F.args_list_extend_2 _ _)
  (AutoSeq1.list_extend_list_list_0 l its.toArray n b i.toArray n2 g (by rw [am]; omega) (by omega)) ⟨e,j,?_⟩
 refine ⟨.non,_,I.lset (its':=its++i) a e (by simp) (r.append r2) ?_,rfl,q⟩;rw [aj];omega
end
end L2
namespace Att
open PySem PySem.W PySem.Calls PyProof.Rows
theorem zX {P:lu} {h:Heap}:∀ (ns:List Int) (vs:List iE),WellAll P h vs (ns.map WData.int)->IntsAre vs ns:=by
 intro ns
 induction ns with
 | nil=>intro vs w;rw [cx] at w;cases w;exact .nil
 | cons n ns j=>
  intro vs w;rw [aF] at w;cases w with
  | cons a b=>cases a;exact .cons _ _ (j _ b)
theorem Zm {l:OpenLaw} {n:Nat} (s:l.most=iB n) {P:lu} {h:Heap} {args:List WData} {v:List iE}
  (e:l.row.toRowW.claim.pre args=iH) (g:WellAll P h v args) :
  ∃ a vs ns,v=[aL a]/\args=[WData.list (ns.map WData.int)]/\h.get? a=iB { cls:=.type "list",data:=.seq vs.toArray }/\IntsAre vs ns/\ns.length<=n:=by
 have i:WShape.hasAll [] args [.list .int]=true:=(pre_splitW e).1;have j:l.pre.holds [] { args:=args }=true:=(pre_splitW e).2;obtain ⟨d,r,rfl,h1,h2⟩:=hasAllW_cons i;obtain rfl:=hasAllW_nil h2;obtain ⟨xs,rfl,h3⟩:=hasW_list h1;obtain ⟨ns,rfl⟩:=items_int h3;have b:ns.length<=n:=by
  unfold OpenLaw.pre at j;have f:(WTm.not (.lt (.lit (.int (n:Int))) (.len (.arg 0)))).holds [] { args:=[.list (ns.map .int)] }=true:=by have f:=(holds_andW j).1;rw [s] at f;exact f
  have k:=condW_of f (w_not (w_lt w_lit (w_len_list (w_arg rfl))));rw [ah] at k;refine Nat.le_of_not_lt λq=>?_;have m:(n:Int) < ((ns.length:Nat):Int):=by omega
  first
   | (rw [decide_eq_true m] at k; exact absurd k (by decide))
   | (simp at k; omega)
 cases g with
 | cons p w=>
  cases w;cases p with
  | list o c=>exact ⟨_,_,ns,rfl,rfl,o,zX ns _ c,b⟩
theorem Zn (l:OpenLaw) (args:List WData):l.row.toRowW.claim.post args (.bool iH) args=true:=
 postW_of (r:=l.row.toRowW) (X:=(iH == iH))
  (show WShape.has [] (.bool iH) .bool=iH by first | rfl | decide | simp [WShape.has,WShape.arms,WShape.armsAll])
  (show (WTm.eq .res (.lit (.bool iH))).value [] { args:=args,res:=iB (.bool iH),after:=args }=iB (.bool (iH == iH)) from w_eq_bool (w_res rfl) w_lit) rfl
theorem attach_call {l:OpenLaw} {n:Nat} {q:iJ} {loose:List Str} {XP:(Str->Option iE)->Heap->Prop} {YP:iK->Heap->Prop} {d:DefRec}
  (p:l.most=iB n) (hdf:d.params.defaults=[])
  (call:∀ (w:iK) (s₀ s:iI) (mg mb:Str->Option iE) (fa:Addr) (o:Obj) (pm cd doc:iE) (a:Addr) (vs:List iE) (ns:List Int),Ground q loose [] XP w s₀ mg mb s.heap->YP w s.heap ->s.heap.get? fa=iB o->o.data=.func (docDef d.name d.params d.body d.scope pm cd doc)->s.heap.CodeRec cd d.name->mg d.name=iB (.ref fa) ->s.heap.get? a=iB { cls:=.type "list",data:=.seq vs.toArray }->IntsAre vs ns->ns.length<=n->s.gens=#[] ->codeAny (model l.prog w) callerA (.call (.ref fa) ⟨[.ref a],[]⟩) (λr s'=>r=.ok (.ret (.bool iH))/\OldK s.heap s'.heap/\s'.os=s.os/\lr s'.gens) s) :
  WalkO q loose XP YP l.row.toRowW d [] (λf vs=>iu f vs):=by
 intro w s₀ s mg mb G Y fa o pm cd doc V kV m hd i D c hg args v as e y k g u;obtain rfl:V=.none:=Dflts.none D hdf;obtain rfl:kV=.none:=Dflts.noKw D;obtain ⟨a,vs,ns,rfl,rfl,j,h,b⟩:=Zm p e g;refine enter_call (lf (call w s₀ s mg mb fa o pm cd doc a vs ns G Y m (fd_plain hd) i c j h b hg) λr s' hq=>?_);obtain ⟨rfl,h2,h3,x⟩:=hq;exact ⟨.inl ⟨.bool iH,.bool iH,[],rfl,λ_=>rfl,.bool iH,Zn l _,λ_=>⟨dE,λ_ t=>(nomatch t)⟩⟩,h2,h3,x⟩
end Att
namespace L2
open PySem PySem.Spec PyProof.Rows
theorem Ku:∀ {vs:List iE} {ns:List Int},IntsAre vs ns->Vals (ns.map V.int) vs
 | _,_,.nil=>.nil
 | _,_,.cons n t h=>.cons ⟨t,rfl⟩ (Ku h)
def qhw (H:Hp):Prop:=∀ b,H b=iD\/∃ o xs,H b=iB (.frz o (.lst xs))
theorem qa1 {P:iJ} {w:iK} {K:Frag} {mg mb:Str->Option iE} {CX:CXT} {k:Nat} {fa a:Addr} {fd:j6} {x:Str} {sp:Sp} {c:iI} {vs:List iE} {ns:List Int}
  (N:K.In c.heap) (A:c.heap.Ns mainGlobals mg) (g:c.heap.Ns builtinsNs mb) (J:∀ x:Str,x ≠ "__name__"->mb x=bootBuiltins x) (B:c.heap.NoLimit) (hg:c.gens=#[])
  (D:c.heap.get? a=iB { cls:=.type "list",data:=.seq vs.toArray }) (hi:IntsAre vs ns) (hl:ns.length<=sizeLine) (R:Room k callerA)
  (F:∀ base:Heap,K.In base->base.Ns mainGlobals mg->FnOk P w K mg base CX k fa fd [x] sp) (l:∀ (s:iI) (u:iE),lG s fd ⟨[u],[]⟩ [(x,u)])
  (G:∀ H:Hp,qhw H->SqL K H a (ns.map V.int)->sp [.ref a] H (λv _=>v=.bl iH) λ_ _ _=>False)
  (X:∀ H e s',CX [] H c (λ_ _ _=>False) e s'->False) :
  codeAny (model P w) callerA (.call (.ref fa) ⟨[.ref a],[]⟩) (λr s'=>r=.ok (.ret (.bool iH))/\OldK c.heap s'.heap/\s'.os=c.os/\lr s'.gens) c:=by
 have M:=Ku hi;have t:=hi.length;have j:∀ H:Hp,qhw H->SqL K H a (ns.map V.int)->HOk P w H c.heap->(∀ b,H b≠iD->b=a)->(H a≠iD->K.lookup a=iD) ->codeAny (model P w) callerA (.call (.ref fa) ⟨[.ref a],[]⟩) (λr s'=>r=.ok (.ret (.bool iH))/\OldK c.heap s'.heap/\s'.os=c.os/\lr s'.gens) c:=by
  intro H O S hok hA U;have f:∀ {b:Addr} {o:Obj},c.heap.get? b=iB o->H b=iD->(qaP c.heap H).get? b=iB o:=λe n=>qaQ e n;have E:∀ {b:Addr} {o:Obj} {es:Array lF} {ep:Nat},c.heap.get? b=iB o->o.data=.dict es ep->H b=none:=λ{b o es ep} e d=>by
   cases q:H b with
   | none=>rfl
   | some u=>have L:b=a:=hA b (by rw [q]; simp);subst L;rw [D] at e; cases e;have d':Data.seq vs.toArray _=Data.dict es ep:=d;cases d'
  have i:∀ {b:Addr} {m:Str->Option iE},c.heap.Ns b m->(qaP c.heap H).Ns b m:=λ{b m} ⟨o,es,ep,e,d,r⟩=>⟨o,es,ep,f e (E e d),d,r⟩
  have C:K.In (qaP c.heap H):=λb o e=>f (N b o e) (by
   cases q:H b with
   | none=>rfl
   | some u=>have L:b=a:=hA b (by rw [q]; simp);subst L;rw [U (by rw [q]; simp)] at e; cases e)
  have T:Mod K mg (qaP c.heap H):=⟨C,i A,⟨mb,i g,J⟩,let ⟨mc,h1,h2⟩:=B; ⟨mc,i h1,h2⟩⟩
  have Z:Env0 P w K mg (qaP c.heap H) callerA [] c H:=⟨rfl,T,λb o e=>qc2 e,fB (XV _ _),trivial,λb g=>absurd (show b∈([]:List Addr) from g) (by simp),hok,.of_eq hg⟩
  refine lf ((F _ C (i A)).run callerA [] c H ⟨[.ref a],[]⟩ [.ref a] [.ref a] _ _ R Z (l c (.ref a)) (.cons rfl .nil) (G H O S)) λr s' h=>?_;cases r with
  | error e=>exact (X H e s' h).elim
  | ok W=>
   cases W with
   | next=>exact ck h
   | brk=>exact ck h
   | cont=>exact ck h
   | ret u=>
    obtain ⟨v,H',os,bare,un,y,r',q⟩:=h;have Q:v=.bl true:=q;subst Q;obtain rfl:u=aY true:=r';refine ⟨rfl,OldK.of_keep λb o e=>?_,os,bare⟩;cases q:H b with
    | none=>exact un.keep b o e q (by intro z; exact absurd (show b∈([]:List Addr) from z) (by simp)) (by simp)
    | some u=>
     rcases O b with z | ⟨ob,xs,z⟩
     ·rw [q] at z; cases z
     ·have z2:=un.frzs b ob _ z;obtain ⟨e1,_⟩:=hok b _ z;obtain ⟨Y,_⟩:=y b _ z2;rw [e] at e1; cases e1;exact Y
 cases I:K.lookup a with
 | some o=>have e:=N a o I;rw [D] at e;cases e;refine j (λ_=>iD) (λ_=>.inl rfl) (.inr ⟨_,vs.toArray,_,I,rfl,rfl,rfl,by rw [am,t]; exact hl,by simpa using M⟩) (λb u z=>by have p:(iD:Option HO)=iB u:=z; cases p) (λb z=>absurd rfl z) λz=>absurd rfl z
 | none=>
  refine j (λb=>if b=a then iB (.frz { cls:=.type "list",data:=.seq vs.toArray } (.lst (ns.map V.int))) else iD) (λb=>?_) (.inl (.inr ⟨{ cls:=.type "list",data:=.seq vs.toArray },if_pos rfl⟩)) (λb u z=>?_) (λb z=>?_) λ_=>I
  ·by_cases g:b=a;·exact .inr ⟨_,_,if_pos g⟩
   ·exact .inl (if_neg g)
  ·by_cases g:b=a;·have p:=(if_pos g).symm.trans z;cases p;subst g;exact ⟨D,by rw [ah]; exact hl,vs,_,M,D⟩
   ·have p:=(if_neg g).symm.trans z;cases p
  ·by_cases g:b=a;·exact g
   ·exact absurd (if_neg g) z
theorem qdn {l:g8} {n k:Nat} {q:iJ} {loose:List Str} {XP:(Str->Option iE)->Heap->Prop} {YP:iK->Heap->Prop} {d:DefRec} {K:lu->Frag} {CX:iK->CXT} {sp:iK->Sp} {x:Str}
  (A:l.most=iB n) (r:n<=sizeLine) (hdf:d.params.defaults=[]) (z:Room k callerA)
  (D:∀ (w:iK) (h:Heap),YP w h->(K w.params).In h)
  (F:∀ (w:iK) (mg:Str->Option iE) (fa:Addr) (h:Heap),(K w.params).In h->h.Ns mainGlobals mg->mg d.name=iB (.ref fa) ->∃ fd:j6,(∀ (s:iI) (u:iE),lG s fd ⟨[u],[]⟩ [(x,u)]) /\
    ∀ base:Heap,(K w.params).In base->base.Ns mainGlobals mg->FnOk l.prog w (K w.params) mg base (CX w) k fa fd [x] (sp w))
  (p:∀ (w:iK) (H:Hp) (a:Addr) (ns:List Int),ns.length<=n->qhw H->SqL (K w.params) H a (ns.map V.int)->sp w [.ref a] H (λv _=>v=.bl iH) λ_ _ _=>False)
  (X:∀ (w:iK) (H:Hp) (s:iI) (e:iE) (s':iI),CX w [] H s (λ_ _ _=>False) e s'->False) :
  PySem.W.WalkO q loose XP YP l.row.toRowW d [] (λf vs=>iu f vs):=by
 refine Att.attach_call A hdf λw s₀ j mg mb fa o pm cd doc a vs ns G Y I hd B t m i c hg=>?_;have y:=D w _ Y;obtain ⟨fd,C,E⟩:=F w mg fa _ y G.T.g t;exact qa1 y G.T.g G.T.b G.T.builtins G.T.nolimit hg m i (bz c r) z E C (λH O S=>p w H a ns c O S) λH e s'=>X w H j e s'
noncomputable def ul (s:Stmt):Arguments:=match s with
 | .FunctionDef _ a _ _ _ _ _ _ _ _=>a
 | _=>{ posonlyargs:=[],args:=[],vararg:=iD,kwonlyargs:=[],kw_defaults:=[],kwarg:=iD,defaults:=[] }
noncomputable def kJ (s:Stmt):List Stmt:=match s with
 | .FunctionDef _ _ b _ _ _ _ _ _ _=>b
 | _=>[]
noncomputable def qe (s:Stmt):lc:=match s with
 | .FunctionDef _ _ _ _ _ _ sc _ _ _=>sc
 | _=>{ kind:=.function,names:=[],isGenerator:=iF,isCoroutine:=iF }
structure Fun (K:Frag) (x qual:Str) (st:Stmt) (f:Addr) (fd:j6):Prop where
 ex:∃ (oc:iE) (od:Option Addr) (kV doc pm:iE) (an:Option Addr) (cdv ct:iE) (osl:Array (Option iE)),fd=bV x qual (ul st) (kJ st) (qe st) .none kV doc pm an cdv ct/\K.lookup f=iB ⟨oc,od,.func fd,osl⟩/\codeIn K cdv qual=iH
 kp:keepIn K (.ref f)=iH
variable {P:iJ} {w:iK} {K:Frag} {x qual:Str} {st:Stmt} {f:Addr}
section
variable {mg:Str->Option iE} {base:Heap}
theorem Fun.binds {fd:j6} {ps:List Str} (F:Fun K x qual st f fd)
  (h:∀ (kV doc pm:iE) (an:Option Addr) (cdv ct:iE) (us:List iE),us.length=ps.length->bindArgs (bV x qual (ul st) (kJ st) (qe st) .none kV doc pm an cdv ct) ⟨us,[]⟩=pure (ps.zip us)):Binds K fd ps []:=by
 obtain ⟨oc,od,kV,doc,pm,an,cdv,ct,osl,rfl,z,d⟩:=F.ex;exact .all (h kV doc pm an cdv ct)
theorem Zo {oc:iE} {od an:Option Addr} {osl:Array (Option iE)} {kV doc pm cdv ct:iE} (l:K.lookup f=iB ⟨oc,od,.func (bV x qual (ul st) (kJ st) (qe st) .none kV doc pm an cdv ct),osl⟩)
  (c:codeIn K cdv qual=iH) (k:keepIn K (.ref f)=iH):Fun K x qual st f (bV x qual (ul st) (kJ st) (qe st) .none kV doc pm an cdv ct):=⟨⟨oc,od,kV,doc,pm,an,cdv,ct,osl,rfl,l,c⟩,k⟩
end
variable {X:Cx}
section
theorem pv (i:Nat) {pos:Pos} (h:X.N[i]?=iB x:=by rfl) (c:Vis X.env.scope x:=by first | exact aA rfl | exact fj (aA rfl) | exact fj (fj rfl)) (hd:(x == ("__debug__":Str))=false:=by decide)
  (d:(x == ("__classdict__":Str))=false:=by decide):PE X (.Name x pos) (qil i):=xT h c hd d
end
def Same (H H':Hp):Prop:=∀ b o,H b=iB o->H' b=iB o
theorem Same.refl (H:Hp):Same H H:=λ_ _ h=>h
variable {H:Hp}
theorem Same.trans {H1 H2:Hp} (a:Same H H1) (b:Same H1 H2):Same H H2:=λc o h=>b c o (a c o h)
variable {H':Hp}
theorem Same.free (e:Same H H') {l:Addr} (h:H' l=Option.none):H l=Option.none:=by
 cases q:H l with
 | none=>rfl
 | some o=>rw [e l o q] at h;cases h
variable {a:Addr}
theorem Same.seq {xs:List V} (e:Same H H') (h:SqL K H a xs):SqL K H' a xs:=by
 rcases h with (h | ⟨o,h⟩) | h;·exact .inl (.inl (e _ _ h))
 ·exact .inl (.inr ⟨o,e _ _ h⟩)
 ·exact .inr h
variable {o:Option V} {u:iE} {y:V}
section
variable {κ:Type} [DecidableEq κ]
noncomputable def Ux (kvs:List (κ×V)) (k:κ):Option V:=(kvs.find? λkv=>decide (kv.1=k)).map (·.2)
noncomputable def Qi (kvs:List (κ×V)) (k:κ) (v:V):List (κ×V):=
 if (kvs.any λkv=>decide (kv.1=k))=iH then kvs.map (λkv=>if kv.1=k then (kv.1,v) else kv) else kvs++[(k,v)]
theorem zA {p:κ×V} {r:List (κ×V)} {k:κ} (e:p.1=k):Ux (p::r) k=iB p.2:=by simp [Ux,ce,e]
theorem zB {p:κ×V} {r:List (κ×V)} {k:κ} (e:¬p.1=k):Ux (p::r) k=Ux r k:=by simp [Ux,ce,e]
theorem QZ (k:κ):∀ kvs:List (κ×V),(kvs.any λkv=>decide (kv.1=k))=(Ux kvs k).isSome
 | []=>rfl
 | p::r=>by
  rw [cI];by_cases e:p.1=k;·simp only [zA e,decide_eq_true e,Bool.true_or,Option.isSome_some]
  ·rw [zB e,decide_eq_false e,Bool.false_or]; exact QZ k r
theorem yw (kvs:List (κ×V)) (k:κ) (v:V):(Qi kvs k v).length<=kvs.length+1:=by
 unfold Qi;split;·rw [ah]; omega
 ·rw [aj,ao,aZ]; omega
theorem RelO.isSome_eq {u:Option iE} (r:RelO o u):o.isSome=u.isSome:=by
 cases o with
 | none=>cases u with
  | none=>rfl
  | some _=>exact (show False from r).elim
 | some _=>cases u with
  | none=>exact (show False from r).elim
  | some _=>rfl
theorem KV.val {kvs:List (κ×V)} {vs:List (κ×iE)} (r:KV kvs vs) (k:κ):RelO (Ux kvs k) (valueAt vs k):=by
 unfold KV at r
 induction r with
 | nil=>exact dJ
 | @cons p q ps qs h t ih=>
  obtain ⟨h1,h2⟩:=h;by_cases e:p.1=k
  ·have a:q.1=k:=h1.symm.trans e;have b:valueAt (q::qs) k=iB q.2:=by simp [valueAt,ce,a]
   rw [zA e,b]; exact h2
  ·have a:¬q.1=k:=λz=>e (h1.trans z);have b:valueAt (q::qs) k=valueAt qs k:=by simp [valueAt,ce,a]
   rw [zB e,b]; exact ih
theorem KV.any {kvs:List (κ×V)} {vs:List (κ×iE)} (r:KV kvs vs) (k:κ):(kvs.any λkv=>decide (kv.1=k))=vs.any λkv=>decide (kv.1=k):=by
 unfold KV at r
 induction r with
 | nil=>rfl
 | cons h t j=>rw [cI,cI,j,h.1]
theorem KV.repl {kvs:List (κ×V)} {vs:List (κ×iE)} (r:KV kvs vs) (k:κ) (c:RelV y u):KV (kvs.map λkv=>if kv.1=k then (kv.1,y) else kv) (vs.map λkv=>if kv.1=k then (kv.1,u) else kv):=by
 unfold KV at r ⊢
 induction r with
 | nil=>exact .nil
 | @cons p q ps qs h t ih=>
  rw [aF,aF];refine .cons ?_ ih;obtain ⟨h1,h2⟩:=h;by_cases e:p.1=k;·rw [if_pos e,if_pos (h1.symm.trans e)]; exact ⟨h1,c⟩
  ·rw [if_neg e,if_neg (λz=>e (h1.trans z))]; exact ⟨h1,h2⟩
theorem KV.put {kvs:List (κ×V)} {vs:List (κ×iE)} (r:KV kvs vs) (k:κ) (c:RelV y u):KV (Qi kvs k y) (stored vs k u):=by
 unfold Qi stored;rw [r.any k];by_cases e:(vs.any λkv=>decide (kv.1=k))=iH;·rw [if_pos e,if_pos e]; exact r.repl k c
 ·rw [if_neg e,if_neg e]; exact Paired.snoc r ⟨rfl,c⟩
theorem KV.keys {kvs:List (κ×V)} {vs:List (κ×iE)} (r:KV kvs vs):kvs.map (·.1)=vs.map (·.1):=by
 unfold KV at r
 induction r with
 | nil=>rfl
 | cons h t j=>rw [aF,aF,j,h.1]
theorem KV.length {kvs:List (κ×V)} {vs:List (κ×iE)} (r:KV kvs vs):kvs.length=vs.length:=fU r
end
theorem Zp {k:Key} (r:RelV (kV k) u):(ja P w).is k u=true:=by
 cases k with
 | inl i=>obtain ⟨t,e⟩:=(show ∃ t,u=fh i t from r); subst e; exact VV P w i t
 | inr x=>obtain ⟨t,e⟩:=(show ∃ t,u=dQ x t from r); subst e; exact VW P w x t
theorem Kv:∀ {ks:List Key} {us:List iE},Vals (ks.map kV) us->ItemsAre (ja P w) ks us
 | [],_,r=>by rw [cx] at r; cases r; exact .nil
 | k::ks,_,r=>by
  rw [aF] at r;cases r with
  | cons h t=>exact .cons (Zp h) (Kv t)
abbrev KT (H:Hp):List (List Key×V)->List (List Key×Addr×iE)->Prop:=lI λp q=>p.1=q.1/\H q.2.1=iB (.tup (p.1.map kV))/\RelV p.2 q.2.2
variable {xs:List (List Key×Addr×iE)} {kvs:List (List Key×V)}
theorem KT.val (r:KT H kvs xs) (k:List Key):RelO (Ux kvs k) ((atKey xs k).map (·.2)):=by
 induction r with
 | nil=>exact dJ
 | @cons p q ps qs h t ih=>
  obtain ⟨h1,_,h2⟩:=h;by_cases e:p.1=k
  ·have a:q.1=k:=h1.symm.trans e;have b:atKey (q::qs) k=iB q.2:=by simp [atKey,ce,a]
   rw [zA e,b]; exact h2
  ·have a:¬q.1=k:=λz=>e (h1.trans z);have b:atKey (q::qs) k=atKey qs k:=by simp [atKey,ce,a]
   rw [zB e,b]; exact ih
theorem KT.repl (r:KT H kvs xs) (k:List Key) (c:RelV y u):KT H (kvs.map λkv=>if kv.1=k then (kv.1,y) else kv) (xs.map (putAt k u)):=by
 induction r with
 | nil=>exact .nil
 | @cons p q ps qs h t ih=>
  rw [aF,aF];refine .cons ?_ ih;obtain ⟨h1,h2,h3⟩:=h;unfold putAt;by_cases e:p.1=k;·rw [if_pos e,if_pos (h1.symm.trans e)]; exact ⟨h1,h2,c⟩
  ·rw [if_neg e,if_neg (λz=>e (h1.trans z))]; exact ⟨h1,h2,h3⟩
variable {b:Addr}
theorem KT.put (r:KT H kvs xs) (k:List Key) (d:H b=iB (.tup (k.map kV))) (c:RelV y u):KT H (Qi kvs k y) (storedH xs k b u):=by
 have e:(kvs.any λkv=>decide (kv.1=k))=(atKey xs k).isSome:=by rw [QZ,(r.val k).isSome_eq,fK]
 unfold Qi storedH;rw [e];by_cases q:(atKey xs k).isSome=iH;·rw [if_pos q,if_pos q]; exact r.repl k c
 ·rw [if_neg q,if_neg q]; exact Paired.snoc r ⟨rfl,d,c⟩
theorem KT.keeps (r:KT H kvs xs) (l:∀ b ys,H b=iB (.tup ys)->H' b=iB (.tup ys)):KT H' kvs xs:=
 Paired.mapP r λ_ _ z=>⟨z.1,l _ _ z.2.1,z.2.2⟩
section
variable {h:Heap}
theorem qfv {u:HO} (ok:HOk P w H h) (e:Rd H a u):ObjOk P w H h a u:=e.ok ok
theorem Wa {kvs:List (Key×V)} (ok:HOk P w H h) (e:Rd H a (.dK kvs)):kvs.length<=sizeLine/\(a == sysModules)=iF/\∃ vs,KV kvs vs/\h.DictOf (ja P w) a vs:=
 show ObjOk P w H h a (.dK kvs) from qfv ok e
theorem qhx {kvs:List (Key×V)} (ok:HOk P w H h) (e:H a=iB (.dK kvs)):kvs.length<=sizeLine/\(a == sysModules)=iF/\∃ vs,KV kvs vs/\h.DictOf (ja P w) a vs:=Wa ok (.inl e)
theorem zY {ks:List Key} (ok:HOk P w H h) (e:H a=iB (.tup (ks.map kV))):(tupleKind (ja P w)).is h ks a:=by
 obtain ⟨_,its,r,o,h1,h2,n,h3⟩:=(show ObjOk P w H h a (.tup (ks.map kV)) from ok a _ e)
 exact ⟨o,its.toArray,n,h1,h2,h3,by simpa using Kv r⟩
theorem YZ (ok:HOk P w H h) (e:Rd H a (.dT kvs)):kvs.length<=sizeLine/\(a == sysModules)=iF /\
  ∃ xs,KT H kvs xs/\h.DictOfH (tupleKind (ja P w)) a xs:=by
 obtain ⟨z,y,xs,r,o,es,ep,h1,h2,h3,b,k⟩:=(show ObjOk P w H h a (.dT kvs) from qfv ok e)
 refine ⟨z,y,xs,r,o,es,ep,h1,h2,h3,b,λx hx=>?_,k⟩;have all:∀ {l:List (List Key×V)} {m:List (List Key×Addr×iE)},KT H l m->∀ x∈m,(tupleKind (ja P w)).is h x.1 x.2.1:=by
  intro l m q
  induction q with
  | nil=>intro x hx; exact nomatch hx
  | @cons p q ps qs hq t ih=>
   intro x hx;rcases ae.mp hx with e | hx
   ·subst e;exact zY ok (by rw [<-hq.1]; exact hq.2.1)
   ·exact ih x hx
 exact all r x hx
theorem qhy (ok:HOk P w H h) (e:H a=iB (.dT kvs)):kvs.length<=sizeLine/\(a == sysModules)=iF /\
  ∃ xs,KT H kvs xs/\h.DictOfH (tupleKind (ja P w)) a xs:=YZ ok (.inl e)
end
def DGet (H:Hp) (a:Addr) (y:V) (r:Option V):Prop:=
 (∃ kvs k,Rd H a (.dK kvs)/\y=kV k/\r=Ux kvs k)\/∃ kvs k b,Rd H a (.dT kvs)/\y=.ref b/\H b=iB (.tup (k.map kV))/\r=Ux kvs k
def DPut (H:Hp) (a:Addr) (y v:V) (H':Hp):Prop:=
 (∃ kvs k,H a=iB (.dK kvs)/\y=kV k/\kvs.length < sizeLine/\H'=upd H a (.dK (Qi kvs k v))) \/
 ∃ kvs k b,H a=iB (.dT kvs)/\y=.ref b/\H b=iB (.tup (k.map kV))/\kvs.length < sizeLine/\H'=upd H a (.dT (Qi kvs k v))
theorem DGet.k {kvs:List (Key×V)} {k:Key} (e:H a=iB (.dK kvs)):DGet H a (kV k) (Ux kvs k):=.inl ⟨kvs,k,.inl e,rfl,rfl⟩
theorem DGet.t {k:List Key} (e:H a=iB (.dT kvs)) (D:H b=iB (.tup (k.map kV))):DGet H a (.ref b) (Ux kvs k):=.inr ⟨kvs,k,b,.inl e,rfl,D,rfl⟩
variable {v:V}
theorem DPut.k {kvs:List (Key×V)} {k:Key} (e:H a=iB (.dK kvs)) (hl:kvs.length < sizeLine):DPut H a (kV k) v (upd H a (.dK (Qi kvs k v))):=.inl ⟨kvs,k,e,rfl,hl,rfl⟩
theorem DPut.t {k:List Key} {v:V} (e:H a=iB (.dT kvs)) (D:H b=iB (.tup (k.map kV))) (hl:kvs.length < sizeLine):DPut H a (.ref b) v (upd H a (.dT (Qi kvs k v))):=.inr ⟨kvs,k,b,e,rfl,D,hl,rfl⟩
variable {pins:List (Addr×Obj)} {σ:St} {s:iI} {A:iP} {E Q:iE->iI->Prop} {h':Heap}
section
variable {r:iE}
theorem Inv.big (I:Inv X pins σ H s):sysModules < s.heap.objs.size:=by have h:mainGlobals < s.heap.objs.size:=(I.mod.glob.keeps I.bk).lt;exact eU (by decide) h
theorem Zq (i:A.units+1 < cLine) (I:Inv X pins σ H s) (g:DGet H a y (iB v)) (f:RelV y u) (h:∀ w' s',Inv X pins σ H s'->RelV v w'->Q w' s'):wpAny (model X.prog X.w) A (getItem (.ref a) u) Q E s:=by
 rcases g with ⟨kvs,k,e,d,l⟩ | ⟨kvs,k,b,e,d,D,l⟩
 ·subst d;obtain ⟨z,hd,vs,rel,dd⟩:=Wa I.hok e;obtain ⟨w',hw,r⟩:=RelO.some_of (v:=v) (o:=valueAt vs k) (by rw [l]; exact rel.val k);exact wpAny_getItem_of (Zp f) dd.mapOf hw (h w' _ (I.tok _) r)
 ·subst d;cases (show u=aL b from f);obtain ⟨z,hd,xs,rel,dd⟩:=YZ I.hok e;obtain ⟨w',hw,r⟩:=RelO.some_of (v:=v) (o:=(atKey xs k).map (·.2)) (by rw [l]; exact rel.val k);obtain ⟨p,hp,c⟩:=aS.mp hw;refine wpAny_getItem_heap (lb i) (zY I.hok D) dd hp ?_;rw [c];exact h w' _ (I.tok _) r
theorem qja (f:A.units+1 < cLine) (I:Inv X pins σ H s) (g:DGet H a y o) (c:RelV y u) (h:∀ s',Inv X pins σ H s'->Q (.bool o.isSome) s'):wpAny (model X.prog X.w) A (compareOp .In u (.ref a)) Q E s:=by
 rcases g with ⟨kvs,k,e,d,l⟩ | ⟨kvs,k,b,e,d,D,l⟩
 ·subst d;obtain ⟨z,hd,vs,rel,dd⟩:=Wa I.hok e;refine wpAny_in_of (Zp c) hd dd.mapOf ?_;rw [<-(rel.val k).isSome_eq,<-l];exact h _ (I.tok _)
 ·subst d;cases (show u=aL b from c);obtain ⟨z,hd,xs,rel,dd⟩:=YZ I.hok e;refine wpAny_in_heap (lb f) (zY I.hok D) hd dd ?_;have q:=(rel.val k).isSome_eq;rw [fK] at q;rw [<-q,<-l];exact h _ (I.tok _)
theorem qdo (f:A.units+1 < cLine) (I:Inv X pins σ H s) (g:DGet H a y o) (c:RelV y u) (h:∀ s',Inv X pins σ H s'->Q (.bool (!o.isSome)) s'):wpAny (model X.prog X.w) A (compareOp .NotIn u (.ref a)) Q E s:=by
 rcases g with ⟨kvs,k,e,d,l⟩ | ⟨kvs,k,b,e,d,D,l⟩
 ·subst d;obtain ⟨z,hd,vs,rel,dd⟩:=Wa I.hok e;refine wpAny_notIn_of (Zp c) hd dd.mapOf ?_;rw [<-(rel.val k).isSome_eq,<-l];exact h _ (I.tok _)
 ·subst d;cases (show u=aL b from c);obtain ⟨z,hd,xs,rel,dd⟩:=YZ I.hok e;refine wpAny_notIn_heap (lb f) (zY I.hok D) hd dd ?_;have q:=(rel.val k).isSome_eq;rw [fK] at q;rw [<-q,<-l];exact h _ (I.tok _)
theorem Zr {t':Nat} {o:HO} (I:Inv X pins σ H s) (m:Mut (H a)) (c:bt a s.heap h') (i:∃ q,h'.get? a=iB q) (new:ObjOk X.prog X.w (upd H a o) h' a o):Inv X pins σ (upd H a o) { s with heap:=h',toks:=t' }:=
 I.write (x:=a) (e:=a) m (.inl rfl) (λb q d z=>(c.2 b d).trans z) i new
theorem Zs {H':Hp} {kvs:List (Key×V)} {vs:List (Key×iE)} (z:kvs.length<=sizeLine) (hd:(a == sysModules)=iF) (rel:KV kvs vs) (dd:h'.DictOf (ja P w) a vs):ObjOk P w H' h' a (.dK kvs):=⟨z,hd,vs,rel,dd⟩
theorem Zu {Q:Unit->iI->Prop} (p:A.units+1 < cLine) (I:Inv X pins σ H s) (g:DPut H a y v H') (m:RelV y u) (n:RelV v r) (h:∀ s',Inv X pins σ H' s'->Q () s'):wpAny (model X.prog X.w) A (setItem (.ref a) u r) Q E s:=by
 rcases g with ⟨kvs,k,e,i,l,j⟩ | ⟨kvs,k,b,e,i,D,l,j⟩
 ·subst i j;obtain ⟨z,hd,vs,rel,dd⟩:=qhx I.hok e;have hz:vs.length<=sizeLine:=by rw [<-rel.length]; exact z
  have hl:(Qi kvs k v).length<=sizeLine:=by have:=yw kvs k v; omega
  refine wpAny_setItem_pairs (hsz:=hz) (Zp m) dd λh' d f=>h _ ?_;have t:∃ q,h'.get? a=iB q:=let ⟨q,_,_,hq,_⟩:=d; ⟨q,hq⟩
  exact Zr I (by rw [e]; exact dJ) f t (Zs hl hd (rel.put k n) d)
 ·subst i j;cases (show u=aL b from m);obtain ⟨z,hd,xs,rel,dd⟩:=qhy I.hok e;have hz:xs.length<=sizeLine:=by rw [<-fU rel]; exact z
  have hl:(Qi kvs k v).length<=sizeLine:=by have:=yw kvs k v; omega
  refine wpAny_setItem_heap (hsz:=hz) (lb p) (zY I.hok D) dd λh' d f=>h _ ?_;obtain ⟨q,es,ep,hq,h2,h3,B,_,x⟩:=d;refine Zr I (by rw [e]; exact dJ) f ⟨q,hq⟩ ⟨hl,hd,_,(rel.put k D n).keeps λc ys o=>?_,q,es,ep,hq,h2,h3,B,x⟩;rw [qB (qg9 o e (λz=>nomatch z))];exact o
end
section
variable {kvs:List (Key×V)} {k:Key}
theorem qhz (I:Inv X pins σ H s) (e:Rd H a (.dK kvs)) (h:∀ t s',Inv X pins σ H s'->Q (.int kvs.length t) s'):wpAny (model X.prog X.w) A (call (.builtin "len") [.ref a]) Q E s:=by obtain ⟨z,hd,vs,rel,dd⟩:=Wa I.hok e;refine call_len_dict hd dd (by rw [<-rel.length]; rw [iL] at z; omega) ?_;rw [<-rel.length];exact h _ _ (I.tok _)
end
theorem Wb (I:Inv X pins σ H s) (g:DGet H a y o):s.TypeIs (.ref a) "dict":=by
 rcases g with ⟨kvs,k,e,_,_⟩ | ⟨kvs,k,b,e,_,_,_⟩
 ·obtain ⟨_,_,vs,_,dd⟩:=Wa I.hok e;exact dd.typeIs
 ·obtain ⟨_,_,xs,_,dd⟩:=YZ I.hok e;exact dd.typeIs
def qhA (td ty tv:TE):TS:=λD σ H=>tv σ H λv H1=>td σ H1 λx H2=>ty σ H2 λy d=>∃ a b,x=.ref a/\DPut d a y v b/\D.nx σ b
variable {pos:Pos}
section
variable {o i e value:Expr} {pos' tpos:Pos} {td ty tv:TE}
theorem qdp (k:X.A.units+1 < cLine) (m:PE X o td) (hi:PE X i ty) (j:PE X value tv) (l:swapsWith value (iB (.Subscript o i pos')) pos.line X.env=pure iF):PS X (.Assign [.Subscript o i pos'] value pos) (qhA td ty tv):=by refine ⟨?_⟩;intro pins s σ H D I h;refine wpAny_Assign_Subscript (thn (j pins s σ H _ I h) λr s1 ⟨v,H1,t,b,f⟩=>thn (m pins s1 σ H1 _ t f) λu s2 ⟨x,H2,p,d,e⟩=>thn (hi pins s2 σ H2 _ p e) λz s3 ⟨y,C,n,c,a,w,ex,g,q⟩=>?_) l;subst ex;obtain rfl:u=aL a:=d;exact Zu k n g c b λs4 B=>⟨σ,w,B,q⟩
end
theorem qa2 (h:Heap) (d:sysModules < h.objs.size):ObjOk P w H (h.push { cls:=.type "dict",data:=.dict #[] }) h.objs.size (.dK []):=
 ⟨bi _,beq_eq_false_iff_ne.mpr (ba (aC d)),[],.nil,Heap.DictOf.new h⟩
def qfw:TE:=λ_ H Q=>∀ p,H p=iD->Q (.ref p) (upd H p (.dK []))
section
theorem qa3:PE X (.Dict [] [] pos) qfw:=⟨λpins s σ H Q I h=>
 wpAny_Dict_empty ⟨.ref s.heap.objs.size,_,I.laid (a:=s.heap.objs.size) (o:=.dK []) (t':=s.toks) (λ_ _ q=>aa _ q) (ax _) (qa2 s.heap I.big),rfl,h _ (I.hok.fresh (ax _))⟩⟩
end
structure M1 (X:Cx) (o:Expr) (m:Str) (apos:Pos) (e:Expr) (cpos:Pos):Prop where
 base:attributeBase o m X.env (eval o X.env)=eval o X.env
 few:((backTo cpos (starEach [e] X.env)).all (λx=>!x.1)&&(backToKw cpos (keywordEach [] X.env)).all (λx=>x.1.isSome)
  && decide (([e]:List Expr).length+([]:List iY).length+(if ([]:List iY).isEmpty then 0 else 1) < 30))=iH
 line:(apos.endLine == cpos.line)=iH
 trees:backTo cpos (starEach [e] X.env)=[(iF,eval e X.env)]
structure M2 (X:Cx) (o:Expr) (m:Str) (apos:Pos) (e f:Expr) (cpos:Pos):Prop where
 base:attributeBase o m X.env (eval o X.env)=eval o X.env
 few:((backTo cpos (starEach [e,f] X.env)).all (λx=>!x.1)&&(backToKw cpos (keywordEach [] X.env)).all (λx=>x.1.isSome)
  && decide (([e,f]:List Expr).length+([]:List iY).length+(if ([]:List iY).isEmpty then 0 else 1) < 30))=iH
 line:(apos.endLine == cpos.line)=iH
 trees:backTo cpos (starEach [e,f] X.env)=[(iF,eval e X.env),(iF,eval f X.env)]
def IsD (H:Hp) (a:Addr):Prop:=(∃ kvs,Rd H a (.dK kvs))\/∃ kvs,Rd H a (.dT kvs)
theorem qfx (I:Inv X pins σ H s) (d:IsD H a):s.TypeIs (.ref a) "dict"/\(∀ b,aL a=.ref b->∃ o,s.heap.get? b=iB o/\o.dict=iD)/\(a == sysModules)=false:=by
 rcases d with ⟨kvs,e⟩ | ⟨kvs,e⟩
 ·obtain ⟨_,hd,vs,_,dd⟩:=Wa I.hok e;refine ⟨dd.typeIs,λb q=>?_,hd⟩;cases q;obtain ⟨o,_,_,h1,h2,_⟩:=dd;exact ⟨o,h1,h2.2.1⟩
 ·obtain ⟨_,hd,xs,_,dd⟩:=YZ I.hok e;refine ⟨dd.typeIs,λb q=>?_,hd⟩;cases q;obtain ⟨o,_,_,h1,h2,_⟩:=dd;exact ⟨o,h1,h2.2.1⟩
section
theorem Zv:uh X (.builtin "len") (λxs H Q=>∃ a kvs,xs=[V.ref a]/\H a=iB (.dK kvs)/\Q (.int kvs.length) H):=by intro pins s σ H xs us Q I r h;obtain ⟨a,kvs,rfl,g,q⟩:=h;obtain ⟨u,rfl,A⟩:=yv r;cases A;exact qhz I (.inl g) λt s' b=>⟨.int kvs.length,H,b,⟨t,rfl⟩,q⟩
end
end L2
namespace L2.D2
open PySem PySem.Spec PyProof.Rows
variable {b:List Nat}
theorem um {a:List Nat} (h:(a.all λi=>decide (i∈b))=iH):∀ i∈a,i∈b:=λi hi=>of_decide_eq_true (aJ.mp h i hi)
theorem Uy {i:Nat} (h:decide (i∈b)=iF):i∉b:=of_decide_eq_false h
noncomputable def Wc:Expr->Bool
 | .Starred ..=>iF
 | _=>iH
variable {e:Expr} {env:Env}
theorem jT {es:List Expr} (h:Wc e=iH):starEach (e::es) env=(iF,eval e env)::starEach es env:=by cases e <;> first | rfl | cases h
theorem qJ (h:Wc e=iH):starEach [e] env=[(iF,eval e env)]:=jT h
theorem Uz {a b:Expr} (h:Wc a=iH) (k:Wc b=iH):starEach [a,b] env=[(iF,eval a env),(iF,eval b env)]:=by rw [jT h,qJ k]
variable {pos:Pos}
theorem yM:∀ {es:List Expr},es.all Wc=iH->(backTo pos (starEach es env)).any (·.1)=iF
 | [],_=>rfl
 | e::es,h=>by rw [fW,aK] at h;rw [jT h.1];exact yM h.2
theorem wG (h:Wc e=iH):((backTo pos (starEach [e] env)).all (λx=>!x.1)&&(backToKw pos (keywordEach [] env)).all (λx=>x.1.isSome)
   && decide ([e].length+([]:List iY).length+(if ([]:List iY).isEmpty then 0 else 1) < 30))=true:=by rw [qJ h]; rfl
inductive D where
 | non | bl (b:Bool) | int (i:Int) | str (x:Str)
 | tup (xs:List D) | lst (xs:List D) | dct (kvs:List (Key×D)) | raw (v:V)
 | xcp (C:Addr) | ins (C:Addr) (fs:List (Str×D)) | at_ (a:Addr) (xs:List D)
 deriving Inhabited
abbrev Sl:=List (Option D)
inductive Out (α:Type) where
 | ok (a:α) | exc (c:Str) (o:Sl) | bad
variable {α β:Type}
noncomputable def Out.bind (o:Out α) (k:α->Out β):Out β:=match o with
 | .ok a=>k a
 | .exc c o=>.exc c o
 | .bad=>.bad
@[simp] theorem Out.og (a:α) (k:α->Out β):(Out.ok a).bind k=k a:=rfl
@[simp] theorem Out.exc_bind (c:Str) (o:Sl) (k:α->Out β):(Out.exc c o:Out α).bind k=.exc c o:=rfl
@[simp] theorem Out.bad_bind (k:α->Out β):(Out.bad:Out α).bind k=.bad:=rfl
noncomputable def We (a C:Addr):HO:=.ext λh=>∃ o vs,h.get? a=iB o/\o.cls=.ref C/\o.data=.fields vs
mutual
/-- the value v is the data d,all its objects in F -/
inductive Is (K:Frag) (F:Hp):V->D->Prop
 | non:Is K F .non .non
 | bl (b:Bool):Is K F (.bl b) (.bl b)
 | int (i:Int):Is K F (.int i) (.int i)
 | str {x:Str} (h:x.length<=sizeLine):Is K F (.str x) (.str x)
 | tup {a:Addr} {xs:List V} {ds:List D} (h:SqT K F a xs) (t:IsL K F xs ds):Is K F (.ref a) (.tup ds)
 | lst {a:Addr} {xs:List V} {ds:List D} (h:SqL K F a xs) (t:IsL K F xs ds):Is K F (.ref a) (.lst ds)
 | dct {a:Addr} {kv:List (Key×V)} {kvs:List (Key×D)} (h:F a=iB (.dK kv)) (t:IsK K F kv kvs):Is K F (.ref a) (.dct kvs)
 | raw (v:V):Is K F v (.raw v)
 | xcp {a C:Addr} (h:F a=iB (We a C)):Is K F (.ref a) (.xcp C)
 | ins {a C dx:Addr} {fv:List (Str×V)} {fs:List (Str×D)} (h:F a=iB (.ins C dx fv)) (t:IsF K F fv fs):Is K F (.ref a) (.ins C fs)
 | at_ {a:Addr} {xs:List V} {ds:List D} (h:SqL K F a xs) (t:IsL K F xs ds):Is K F (.ref a) (.at_ a ds)
inductive IsL (K:Frag) (F:Hp):List V->List D->Prop
 | nil:IsL K F [] []
 | cons {v:V} {d:D} {vs:List V} {ds:List D} (h:Is K F v d) (t:IsL K F vs ds):IsL K F (v::vs) (d::ds)
inductive IsK (K:Frag) (F:Hp):List (Key×V)->List (Key×D)->Prop
 | nil:IsK K F [] []
 | cons {k:Key} {v:V} {d:D} {vs:List (Key×V)} {ds:List (Key×D)} (h:Is K F v d) (t:IsK K F vs ds):IsK K F ((k,v)::vs) ((k,d)::ds)
inductive IsF (K:Frag) (F:Hp):List (Str×V)->List (Str×D)->Prop
 | nil:IsF K F [] []
 | cons {k:Str} {v:V} {d:D} {vs:List (Str×V)} {ds:List (Str×D)} (h:Is K F v d) (t:IsF K F vs ds):IsF K F ((k,v)::vs) ((k,d)::ds)
end
theorem qV {K:Frag} {H H':Hp} {a:Addr} {xs:List V} (e:Same H H') (h:SqT K H a xs):SqT K H' a xs:=by
 rcases h with (h | ⟨o,h⟩) | h;·exact .inl (.inl (e _ _ h))
 ·exact .inl (.inr ⟨o,e _ _ h⟩)
 ·exact .inr h
mutual
theorem Is.mono {K:Frag} {F F':Hp} (e:Same F F'):∀ {v:V} {d:D},Is K F v d->Is K F' v d
 | _,_,.non=>.non
 | _,_,.bl b=>.bl b
 | _,_,.int i=>.int i
 | _,_,.str h=>.str h
 | _,_,.tup h t=>.tup (qV e h) (IsL.mono e t)
 | _,_,.lst h t=>.lst (e.seq h) (IsL.mono e t)
 | _,_,.dct h t=>.dct (e _ _ h) (IsK.mono e t)
 | _,_,.raw v=>.raw v
 | _,_,.xcp h=>.xcp (e _ _ h)
 | _,_,.ins h t=>.ins (e _ _ h) (IsF.mono e t)
 | _,_,.at_ h t=>.at_ (e.seq h) (IsL.mono e t)
theorem IsL.mono {K:Frag} {F F':Hp} (e:Same F F'):∀ {vs:List V} {ds:List D},IsL K F vs ds->IsL K F' vs ds
 | _,_,.nil=>.nil
 | _,_,.cons h t=>.cons (Is.mono e h) (IsL.mono e t)
theorem IsK.mono {K:Frag} {F F':Hp} (e:Same F F'):∀ {vs:List (Key×V)} {ds:List (Key×D)},IsK K F vs ds->IsK K F' vs ds
 | _,_,.nil=>.nil
 | _,_,.cons h t=>.cons (Is.mono e h) (IsK.mono e t)
theorem IsF.mono {K:Frag} {F F':Hp} (e:Same F F'):∀ {vs:List (Str×V)} {ds:List (Str×D)},IsF K F vs ds->IsF K F' vs ds
 | _,_,.nil=>.nil
 | _,_,.cons h t=>.cons (Is.mono e h) (IsF.mono e t)
end
theorem IsL.length {K:Frag} {F:Hp}:∀ {vs:List V} {ds:List D},IsL K F vs ds->vs.length=ds.length
 | _,_,.nil=>rfl
 | _,_,.cons _ t=>congrArg (·+1) (IsL.length t)
theorem IsL.get {K:Frag} {F:Hp}:∀ {vs:List V} {ds:List D} {i:Nat} {v:V},IsL K F vs ds->vs[i]?=iB v->∃ d,ds[i]?=iB d/\Is K F v d
 | _,_,_,_,.nil,e=>by simp at e
 | _,_,0,_,.cons h _,e=>by simp at e; subst e; exact ⟨_,rfl,h⟩
 | _,_,i+1,v,.cons _ t,e=>by obtain ⟨d,h1,h2⟩:=IsL.get (i:=i) (v:=v) t (by simpa using e);exact ⟨d,by simpa using h1,h2⟩
theorem IsL.getD {K:Frag} {F:Hp}:∀ {vs:List V} {ds:List D} {i:Nat} {d:D},IsL K F vs ds->ds[i]?=iB d->∃ v,vs[i]?=iB v/\Is K F v d
 | _,_,_,_,.nil,e=>by simp at e
 | _,_,0,_,.cons h _,e=>by simp at e; subst e; exact ⟨_,rfl,h⟩
 | _,_,i+1,v,.cons _ t,e=>by obtain ⟨d,h1,h2⟩:=IsL.getD (i:=i) (d:=v) t (by simpa using e);exact ⟨d,by simpa using h1,h2⟩
theorem IsL.append {K:Frag} {F:Hp}:∀ {vs ws:List V} {ds es:List D},IsL K F vs ds->IsL K F ws es->IsL K F (vs++ws) (ds++es)
 | _,_,_,_,.nil,s=>s
 | _,_,_,_,.cons h t,s=>.cons h (IsL.append t s)
theorem IsL.drop {K:Frag} {F:Hp}:∀ {vs:List V} {ds:List D} (n:Nat),IsL K F vs ds->IsL K F (vs.drop n) (ds.drop n)
 | _,_,0,r=>r
 | _,_,_+1,.nil=>.nil
 | _,_,n+1,.cons _ t=>IsL.drop n t
theorem IsL.take {K:Frag} {F:Hp}:∀ {vs:List V} {ds:List D} (n:Nat),IsL K F vs ds->IsL K F (vs.take n) (ds.take n)
 | _,_,0,_=>.nil
 | _,_,_+1,.nil=>.nil
 | _,_,n+1,.cons h t=>.cons h (IsL.take n t)
theorem IsL.set {K:Frag} {F:Hp} {v:V} {d:D} (h:Is K F v d):∀ {vs:List V} {ds:List D} (i:Nat),IsL K F vs ds->IsL K F (vs.set i v) (ds.set i d)
 | _,_,_,.nil=>.nil
 | _,_,0,.cons _ t=>.cons h t
 | _,_,i+1,.cons q t=>.cons q (IsL.set h i t)
theorem IsL.reverse {K:Frag} {F:Hp}:∀ {vs:List V} {ds:List D},IsL K F vs ds->IsL K F vs.reverse ds.reverse
 | _,_,.nil=>.nil
 | _,_,.cons h t=>by rw [eJ,eJ];exact (IsL.reverse t).append (.cons h .nil)
def OwnIs (K:Frag) (F H:Hp) (a:Addr):D->Prop
 | .lst ds=>∃ xs,H a=iB (.lst xs)/\IsL K F xs ds
 | .dct kvs=>∃ kv,H a=iB (.dK kv)/\IsK K F kv kvs
 | .ins C fs=>∃ dx fv,H a=iB (.ins C dx fv)/\IsF K F fv fs
 | .at_ b ds=>b=a/\∃ xs,H a=iB (.lst xs)/\IsL K F xs ds
 | _=>False
def TopIs (K:Frag) (F H:Hp) (v:V) (d:D):Prop:=Is K F v d\/∃ a,v=.ref a/\OwnIs K F H a d
inductive Mo where
 | sh | fr | any
def MoIs (K:Frag) (m:Mo) (H0 F H:Hp) (v:V) (d:D):Prop:=match m with
 | .sh=>Is K F v d
 | .fr=>∃ a,v=.ref a/\H0 a=iD/\F a=iD/\OwnIs K F H a d
 | .any=>TopIs K F H v d
theorem MoIs.top {K:Frag} {m:Mo} {H0 F H:Hp} {v:V} {d:D} (h:MoIs K m H0 F H v d):TopIs K F H v d:=by
 cases m with
 | sh=>exact .inl h
 | fr=>obtain ⟨a,e,_,_,o⟩:=h; exact .inr ⟨a,e,o⟩
 | any=>exact h
structure Chg (A:Addr->Prop) (F H F' H':Hp):Prop where
 keep:∀ b o,H b=iB o->¬A b->H' b=iB o
 stay:∀ b,H b≠iD->H' b≠iD
 grow:Same F F'
 new:∀ b,F' b≠iD->F b≠iD\/H b=iD\/A b
theorem Chg.refl {A:Addr->Prop} {F H:Hp}:Chg A F H F H:=⟨λ_ _ e _=>e,λ_ h=>h,Same.refl _,λ_ h=>.inl h⟩
theorem Chg.trans {A A1:Addr->Prop} {F H F1 H1 c H2:Hp} (a:Chg A F H F1 H1) (b:Chg A1 F1 H1 c H2) (hA:∀ x,A1 x->A x\/H x=iD):Chg A F H c H2 where
 keep:=λx o e n=>b.keep x o (a.keep x o e n) λz=>(hA x z).elim n λq=>by rw [e] at q; cases q
 stay:=λx h=>b.stay x (a.stay x h)
 grow:=a.grow.trans b.grow
 new:=λx h=>by
  rcases b.new x h with q | q | q;·exact a.new x q
  ·refine .inr (.inl ?_);cases e:H x with
   | none=>rfl
   | some o=>exact absurd q (a.stay x (by rw [e]; simp))
  ·rcases hA x q with z | z;·exact .inr (.inr z)
   ·exact .inr (.inl z)
theorem Chg.trans' {A:Addr->Prop} {F H F1 H1 c H2:Hp} (a:Chg A F H F1 H1) (b:Chg A F1 H1 c H2):Chg A F H c H2:=a.trans b λ_ z=>.inl z
theorem Chg.mono {A c:Addr->Prop} {F H F1 H1:Hp} (a:Chg A F H F1 H1) (h:∀ x,A x->c x):Chg c F H F1 H1:=
 ⟨λb o e n=>a.keep b o e λz=>n (h b z),a.stay,a.grow,λb z=>(a.new b z).imp id (Or.imp id (h b))⟩
abbrev No:Addr->Prop:=λ_=>False
theorem Chg.ofNo {A:Addr->Prop} {F H F1 H1:Hp} (a:Chg No F H F1 H1):Chg A F H F1 H1:=a.mono λ_ z=>z.elim
structure Rep (K:Frag) (own:List Nat) (F H:Hp) (σ:St) (ρ:Sl):Prop where
 sub:Same F H
 len:σ.length=ρ.length
 val:∀ i d,i∉own->ρ[i]?=iB (iB d)->∃ v,σ[i]?=iB (iB v)/\Is K F v d
 ow:∀ i d,i∈own->ρ[i]?=iB (iB d)->∃ a,σ[i]?=iB (iB (.ref a))/\F a=iD/\OwnIs K F H a d
 opn:∀ i,i∈own->∃ d,ρ[i]?=iB (iB d)
 dis:∀ i j a,i∈own->j∈own->σ[i]?=iB (iB (V.ref a))->σ[j]?=iB (iB (V.ref a))->i=j
def OA (own:List Nat) (σ:St):Addr->Prop:=λb=>∃ i∈own,σ[i]?=iB (iB (V.ref b))
theorem OwnIs.there {K:Frag} {F H:Hp} {a:Addr} {d:D} (h:OwnIs K F H a d):H a≠none:=by
 cases d with
 | lst ds=>obtain ⟨xs,e,_⟩:=h; rw [e]; simp
 | dct ds=>obtain ⟨xs,e,_⟩:=h; rw [e]; simp
 | ins C fs=>obtain ⟨dx,xs,e,_⟩:=h; rw [e]; simp
 | at_ b ds=>obtain ⟨_,xs,e,_⟩:=h; rw [e]; simp
 | _=>exact h.elim
theorem OwnIs.grow {K:Frag} {F H F' H':Hp} {a:Addr} {d:D} (h:OwnIs K F H a d) (g:Same F F') (k:∀ o,H a=iB o->H' a=iB o):OwnIs K F' H' a d:=by
 cases d with
 | lst ds=>obtain ⟨xs,e,t⟩:=h; exact ⟨xs,k _ e,t.mono g⟩
 | dct ds=>obtain ⟨xs,e,t⟩:=h; exact ⟨xs,k _ e,t.mono g⟩
 | ins C fs=>obtain ⟨dx,xs,e,t⟩:=h; exact ⟨dx,xs,k _ e,t.mono g⟩
 | at_ b ds=>obtain ⟨c,xs,e,t⟩:=h; exact ⟨c,xs,k _ e,t.mono g⟩
 | _=>exact h.elim
theorem Rep.OA_there {K:Frag} {own:List Nat} {F H:Hp} {σ:St} {ρ:Sl} (r:Rep K own F H σ ρ) {b:Addr} (h:OA own σ b):H b≠iD/\F b=none:=by obtain ⟨i,hi,e⟩:=h;obtain ⟨d,hd⟩:=r.opn i hi;obtain ⟨a,e1,c,o⟩:=r.ow i d hi hd;rw [e] at e1;cases e1;exact ⟨o.there,c⟩
theorem Rep.grow {K:Frag} {own:List Nat} {F H F' H':Hp} {σ:St} {ρ:Sl} (r:Rep K own F H σ ρ) (c:Chg No F H F' H') (s:Same F' H'):Rep K own F' H' σ ρ where
 sub:=s
 len:=r.len
 val:=λi d hi e=>let ⟨v,h1,h2⟩:=r.val i d hi e; ⟨v,h1,h2.mono c.grow⟩
 ow:=λi d hi e=>by
  obtain ⟨a,h1,h2,h3⟩:=r.ow i d hi e;refine ⟨a,h1,?_,h3.grow c.grow λo q=>c.keep a o q λz=>z⟩;cases q:F' a with
  | none=>rfl
  | some o=>
   rcases c.new a (by rw [q]; simp) with z | z | z;·exact absurd h2 z
   ·exact absurd z h3.there
   ·exact z.elim
 opn:=r.opn
 dis:=r.dis
theorem MoIs.grow {K:Frag} {A:Addr->Prop} {m:Mo} {H0 F H F' H':Hp} {v:V} {d:D} (h:MoIs K m H0 F H v d) (b:m≠.any) (c:Chg A F H F' H') (hA:∀ x,A x->H0 x≠iD):MoIs K m H0 F' H' v d:=by
 cases m with
 | sh=>exact Is.mono c.grow h
 | fr=>
  obtain ⟨a,e,h0,E,o⟩:=h;have n:¬A a:=λz=>hA a z h0;refine ⟨a,e,h0,?_,o.grow c.grow λo q=>c.keep a o q n⟩;cases q:F' a with
  | none=>rfl
  | some u=>
   rcases c.new a (by rw [q]; simp) with z | z | z;·exact absurd E z
   ·exact absurd z o.there
   ·exact absurd z n
 | any=>exact absurd rfl b
def XS (K:Frag) (io:List Nat) (F H:Hp) (σ:St) (ρ:Sl):Prop:=∀ i∈io,∃ d a,ρ[i]?=iB (iB d)/\σ[i]?=iB (iB (V.ref a))/\F a=iD/\OwnIs K F H a d
theorem Rep.ioIs {K:Frag} {own io:List Nat} {F H:Hp} {σ:St} {ρ:Sl} (r:Rep K own F H σ ρ) (h:∀ i∈io,i∈own):XS K io F H σ ρ:=λi hi=>by obtain ⟨d,hd⟩:=r.opn i (h i hi);obtain ⟨a,h1,h2,h3⟩:=r.ow i d (h i hi) hd;exact ⟨d,a,hd,h1,h2,h3⟩
structure Ct where
 K:Frag
 cv:Str->iE
 E:XK
 io:List Nat
 mr:Mo
 ol:List Nat
 ox:List Nat
 oxs:∀ i∈ox,i∈io
def Po (C:Ct) (own:List Nat) (m:Mo) (σ:St) (F H:Hp) (r:Out (D×Sl)) (Q:VK):Prop:=match r with
 | .ok (d,ρ')=>∀ v F' H',Rep C.K own F' H' σ ρ'->Chg (OA own σ) F H F' H'->MoIs C.K m H F' H' v d->Q v H'
 | .exc c ρ'=>∀ F' H',Same F' H'->XS C.K C.ox F' H' σ ρ'->Chg (OA own σ) F H F' H'->C.E (C.cv c) iD H'
 | .bad=>False
def tE (C:Ct) (own:List Nat) (m:Mo) (f:Sl->Out (D×Sl)):TE:=λσ H Q=>∃ F ρ,Rep C.K own F H σ ρ/\Po C own m σ F H (f ρ) Q
theorem MoIs.back {K:Frag} {m:Mo} {A:Addr->Prop} {H0 F H F1 H1:Hp} {b Ha:Hp} {v:V} {d:D} (c:Chg A b H0 F1 H1) (h:MoIs K m H1 F H v d):MoIs K m H0 F H v d:=by
 cases m with
 | sh=>exact h
 | fr=>
  obtain ⟨a,e,h0,r⟩:=h;refine ⟨a,e,?_,r⟩;cases q:H0 a with
  | none=>rfl
  | some o=>exact absurd h0 (c.stay a (by rw [q]; simp))
 | any=>exact h
theorem Po.shift {C:Ct} {own:List Nat} {m:Mo} {σ:St} {F H F1 H1:Hp} {r:Out (D×Sl)} {Q:VK} (h:Po C own m σ F H r Q) (c:Chg (OA own σ) F H F1 H1):Po C own m σ F1 H1 r Q:=by
 cases r with
 | ok p=>exact λv F' H' a T o=>h v F' H' a (c.trans' T) (MoIs.back (Ha:=H1) c o)
 | exc x=>exact λF' H' s io T=>h F' H' s io (c.trans' T)
 | bad=>exact h.elim
theorem Po.bind {C:Ct} {own:List Nat} {m ma:Mo} {σ:St} {F H:Hp} {o:Out (D×Sl)} {k:D×Sl->Out (D×Sl)} {Q R:VK} (hp:Po C own m σ F H (o.bind k) Q)
  (h:∀ v F1 H1 d ρ1,Rep C.K own F1 H1 σ ρ1->Chg (OA own σ) F H F1 H1->MoIs C.K ma H F1 H1 v d->Po C own m σ F1 H1 (k (d,ρ1)) Q->R v H1):Po C own ma σ F H o R:=by
 cases o with
 | ok p=>obtain ⟨d,ρ1⟩:=p;exact λv F1 H1 a c b=>h v F1 H1 d ρ1 a c b (Po.shift (show Po C own m σ F H (k (d,ρ1)) Q from hp) c)
 | exc x=>exact hp
 | bad=>exact hp.elim
def PoV (C:Ct) (m:Mo) (F H:Hp) (r:Out D) (Q:VK):Prop:=match r with
 | .ok d=>∀ v F' H',Same F' H'->Chg No F H F' H'->MoIs C.K m H F' H' v d->Q v H'
 | _=>False
def OpD (X:Cx) (C:Ct) (m:Mo) (f:iE->iE->Sem iE) (g:D->D->Out D):Prop:=
 OpR X f (λx y H Q=>∃ F dx d,Same F H/\TopIs C.K F H x dx/\TopIs C.K F H y d/\PoV C m F H (g dx d) Q)
def UnD (X:Cx) (C:Ct) (m:Mo) (f:iE->Sem iE) (g:D->Out D):Prop:=
 UnR X f (λx H Q=>∃ F dx,Same F H/\TopIs C.K F H x dx/\PoV C m F H (g dx) Q)
noncomputable def Out.plain {α:Type}:Out α->Out α
 | .ok a=>.ok a
 | _=>.bad
theorem PoV.of {C:Ct} {own:List Nat} {m:Mo} {σ:St} {F H:Hp} {o:Out D} {ρ:Sl} {Q:VK} (a:Rep C.K own F H σ ρ) (h:Po C own m σ F H (o.plain.bind λd=>.ok (d,ρ)) Q):PoV C m F H o Q:=by
 cases o with
 | ok d=>exact λv F' H' s c b=>h v F' H' (a.grow c s) c.ofNo b
 | exc c=>exact h.elim
 | bad=>exact h.elim
noncomputable def d2 (g:D->D->Out D) (fa fb:Sl->Out (D×Sl)):Sl->Out (D×Sl):=λρ=>(fa ρ).bind λp=>(fb p.2).bind λq=>(g p.1 q.1).plain.bind λd=>.ok (d,q.2)
noncomputable def d1 (g:D->Out D) (fa:Sl->Out (D×Sl)):Sl->Out (D×Sl):=λρ=>(fa ρ).bind λp=>(g p.1).plain.bind λd=>.ok (d,p.2)
section
variable {X:Cx} {C:Ct} {own:List Nat} {a b:Expr} {fa fb:Sl->Out (D×Sl)} {m ma mb:Mo} {pos:Pos}
theorem Kw {g:D->D->Out D} {σ:St} {H:Hp} {Q:VK} (f:ma≠.any) (h:tE C own m (d2 g fa fb) σ H Q):tE C own ma fa σ H λx H1=>tE C own mb fb σ H1 λy H2=>∃ F dx i,Same F H2/\TopIs C.K F H2 x dx/\TopIs C.K F H2 y i/\PoV C m F H2 (g dx i) Q:=by obtain ⟨F,ρ,p,h⟩:=h;refine ⟨F,ρ,p,Po.bind h λv F1 H1 d ρ1 a k c h1=>⟨F1,ρ1,a,Po.bind h1 λw j H2 e ρ2 r c2 b h2=>?_⟩⟩;exact ⟨j,d,e,r.sub,(c.grow f c2 λx z=>(p.OA_there z).1).top,b.top,PoV.of r h2⟩
theorem Wf {g:D->Out D} {σ:St} {H:Hp} {Q:VK} (h:tE C own m (d1 g fa) σ H Q):tE C own ma fa σ H λx H1=>∃ F dx,Same F H1/\TopIs C.K F H1 x dx/\PoV C m F H1 (g dx) Q:=by obtain ⟨F,ρ,r,h⟩:=h;refine ⟨F,ρ,r,Po.bind h λv F1 H1 d ρ1 a k c h1=>?_⟩;exact ⟨F1,d,a.sub,c.top,PoV.of a h1⟩
theorem jG {e:Expr} {t t':TE} (h:PE X e t) (i:∀ σ H Q,t' σ H Q->t σ H Q):PE X e t':=⟨λpins s σ H Q I hw=>h pins s σ H Q I (i σ H Q hw)⟩
theorem qa4 {e:Expr} {t t':TT} (h:PT X e t) (i:∀ σ H Q,t' σ H Q->t σ H Q):PT X e t':=⟨λpins s σ H Q I hw=>h pins s σ H Q I (i σ H Q hw)⟩
theorem jx {op:Operator} {g:D->D->Out D} (o:OpD X C m (binaryOp op) g) (c:PE X a (tE C own ma fa)) (d:PE X b (tE C own mb fb)) (f:ma≠.any:=by decide):PE X (.BinOp a op b pos) (tE C own m (d2 g fa fb)):=
 jG (qhk o c d) λ_ _ _ h=>Kw f h
theorem yk {op:CmpOp} {g:D->D->Out D} (o:OpD X C m (compareOp op) g) (c:PE X a (tE C own ma fa)) (d:PE X b (tE C own mb fb)) (f:ma≠.any:=by decide)
  (k:behindInMarks op b=false:=by first | exact qcq _ | with_unfolding_all rfl):PE X (.Compare a [op] [b] pos) (tE C own m (d2 g fa fb)):=
 jG (qdb o c d k) λ_ _ _ h=>Kw f h
theorem Xa {op:UnaryOp} {g:D->Out D} (o:UnD X C m (unaryOp op) g) (b:PE X a (tE C own ma fa)):PE X (.UnaryOp op a pos) (tE C own m (d1 g fa)):=
 jG (qhl o b) λ_ _ _ h=>Wf h
end
instance:DecidableEq Mo:=λa b=>by cases a <;> cases b <;> first | exact isTrue rfl | exact isFalse (by intro h; cases h)
theorem qa5 {K:Frag} {own:List Nat} {H0 F H:Hp} {σ:St} {ρ:Sl} {v:V} {d:D} (r:Rep K own F H σ ρ) (hA:∀ b,OA own σ b->H0 b≠iD) (h:MoIs K .fr H0 F H v d):∃ F',Rep K own F' H σ ρ/\Same F F'/\Is K F' v d/\∀ b,F' b≠iD->F b≠iD\/H0 b=none:=by
 obtain ⟨a,rfl,h0,E,o⟩:=h;obtain ⟨u,hu⟩:∃ u,H a=iB u:=by
  cases q:H a with
  | none=>exact absurd q o.there
  | some u=>exact ⟨u,rfl⟩
 have gr:Same F (upd F a u):=λb w e=>by rw [qB (qH e E)]; exact e
 have y:Same (upd F a u) H:=λb w e=>by
  by_cases q:b=a;·subst q; rw [qt] at e; cases e; exact hu
  ·rw [qB q] at e; exact r.sub b w e
 refine ⟨upd F a u,⟨y,r.len,λi d hi e=>?_,λi d hi e=>?_,r.opn,r.dis⟩,gr,?_,λb f=>?_⟩;·obtain ⟨v,h1,h2⟩:=r.val i d hi e;exact ⟨v,h1,h2.mono gr⟩
 ·obtain ⟨c,h1,h2,h3⟩:=r.ow i d hi e;refine ⟨c,h1,?_,h3.grow gr λ_ q=>q⟩;have n:c≠a:=λq=>by subst q; exact hA c ⟨i,hi,h1⟩ h0
  rw [qB n]; exact h2
 ·cases d with
  | lst ds=>obtain ⟨xs,e,t⟩:=o; rw [hu] at e; cases e; exact .lst (.inl (.inl qt)) (t.mono gr)
  | dct ds=>obtain ⟨xs,e,t⟩:=o; rw [hu] at e; cases e; exact .dct qt (t.mono gr)
  | ins C fs=>obtain ⟨dx,xs,e,t⟩:=o; rw [hu] at e; cases e; exact .ins qt (t.mono gr)
  | at_ b ds=>obtain ⟨g,xs,e,t⟩:=o; rw [hu] at e; cases e; subst g; exact .at_ (.inl (.inl qt)) (t.mono gr)
  | _=>exact o.elim
 ·by_cases q:b=a;·exact .inr (by rw [q]; exact h0)
  ·rw [qB q] at f; exact .inl f
theorem Po.toSh {C:Ct} {own:List Nat} {m:Mo} {σ:St} {F H:Hp} {d:Sl} {r:Out (D×Sl)} {Q:VK} (f:Rep C.K own F H σ d) (g:m≠.any) (h:Po C own .sh σ F H r Q):Po C own m σ F H r Q:=by
 cases r with
 | ok p=>
  intro v F' H' a c o;cases m with
  | sh=>exact h v F' H' a c o
  | fr=>
   obtain ⟨j,e,gr,is,n⟩:=qa5 a (λb z=>(f.OA_there z).1) o;refine h v j H' e ⟨c.keep,c.stay,c.grow.trans gr,λb i=>?_⟩ is;rcases n b i with z | z;·exact c.new b z
   ·exact .inr (.inl z)
  | any=>exact absurd rfl g
 | exc x=>exact h
 | bad=>exact h.elim
section
variable {X:Cx} {C:Ct} {own:List Nat} {a b e:Expr} {f fa fb:Sl->Out (D×Sl)} {m ma mb:Mo} {pos:Pos}
theorem yN (h:PE X e (tE C own m f)) (c:m≠.any):PE X e (tE C own .sh f):=jG h λ_ _ _ ⟨F,ρ,a,p⟩=>⟨F,ρ,a,p.toSh a c⟩
noncomputable def qd (i:Nat):Sl->Out (D×Sl):=λρ=>match ρ[i]? with
 | some (iB d)=>.ok (d,ρ)
 | _=>.bad
noncomputable def dC (d:D):Sl->Out (D×Sl):=λρ=>.ok (d,ρ)
theorem qfy {i:Nat} {x:Str} (b:X.N[i]?=iB x) (c:Vis X.env.scope x) (m:i∉own) (hd:(x == ("__debug__":Str))=false:=by decide) (a:(x == ("__classdict__":Str))=false:=by decide):PE X (.Name x pos) (tE C own .sh (qd i)):=by
 refine jG (xT b c hd a) λσ H Q ⟨F,ρ,r,h⟩=>?_;unfold qd at h;cases e:ρ[i]? with
 | none=>rw [e] at h; exact h.elim
 | some o=>
  cases o with
  | none=>rw [e] at h; exact h.elim
  | some d=>rw [e] at h;obtain ⟨v,h1,h2⟩:=r.val i d m e;exact ⟨v,h1,h v F H r .refl h2⟩
theorem yx {i:Nat} {x:Str} (f:X.N[i]?=iB x) (c:Vis X.env.scope x) (m:i∈own) (hd:(x == ("__debug__":Str))=false:=by decide) (b:(x == ("__classdict__":Str))=false:=by decide):PE X (.Name x pos) (tE C own .any (qd i)):=by
 refine jG (xT f c hd b) λσ H Q ⟨F,ρ,r,h⟩=>?_;unfold qd at h;cases e:ρ[i]? with
 | none=>rw [e] at h; exact h.elim
 | some o=>
  cases o with
  | none=>rw [e] at h; exact h.elim
  | some d=>rw [e] at h;obtain ⟨a,h1,h2,h3⟩:=r.ow i d m e;exact ⟨_,h1,h _ F H r .refl (.inr ⟨a,rfl,h3⟩)⟩
theorem qfz {v:V} {d:D} (h:PE X e (tC v)) (i:∀ F,Is C.K F v d):PE X e (tE C own .sh (dC d)):=jG h λσ H Q ⟨F,ρ,a,h⟩=>h v F H a .refl (i F)
theorem qu {i j pos}:PE X (.Constant (.int i) j pos) (tE C own .sh (dC (.int i))):=qfz qe4 λ_=>.int i
theorem vh {i j pos}:PE X (.Constant (.bool i) j pos) (tE C own .sh (dC (.bl i))):=qfz qc4 λ_=>.bl i
theorem vi {j pos}:PE X (.Constant .none j pos) (tE C own .sh (dC .non)):=qfz qe5 λ_=>.non
theorem kO {x j pos} (h:g7 x<=sizeLine:=by decide):PE X (.Constant (.str x) j pos) (tE C own .sh (dC (.str x))):=qfz qe6 λ_=>.str h
theorem qdq {x:Str} {v:V} {d:D} {u:iE} (hg:Gl X x) (c:X.mg x=iB u) (r:RelV v u) (i:∀ F,Is C.K F v d) (hd:(x == ("__debug__":Str))=false:=by decide):PE X (.Name x pos) (tE C own .sh (dC d)):=qfz (XW hg c r hd) i
noncomputable def Kf (g:Int->Int->Out D):D->D->Out D
 | .int i,.int j=>g i j
 | _,_=>.bad
theorem TopIs.int {K:Frag} {F H:Hp} {v:V} {i:Int} (h:TopIs K F H v (.int i)):v=.int i:=by
 rcases h with h | ⟨a,_,h⟩
 ·cases h; rfl
 ·exact h.elim
theorem TopIs.str {K:Frag} {F H:Hp} {v:V} {x:Str} (h:TopIs K F H v (.str x)):v=.str x/\x.length<=sizeLine:=by
 rcases h with h | ⟨a,_,h⟩
 ·cases h; exact ⟨rfl,by assumption⟩
 ·exact h.elim
theorem TopIs.bl {K:Frag} {F H:Hp} {v:V} {x:Bool} (h:TopIs K F H v (.bl x)):v=.bl x:=by
 rcases h with h | ⟨a,_,h⟩
 ·cases h; rfl
 ·exact h.elim
theorem TopIs.non {K:Frag} {F H:Hp} {v:V} (h:TopIs K F H v .non):v=.non:=by
 rcases h with h | ⟨a,_,h⟩
 ·cases h; rfl
 ·exact h.elim
theorem TopIs.raw {K:Frag} {F H:Hp} {v u:V} (h:TopIs K F H v (.raw u)):v=u:=by
 rcases h with h | ⟨a,_,h⟩
 ·cases h; rfl
 ·exact h.elim
theorem TopIs.lst {K:Frag} {F H:Hp} {v:V} {ds:List D} (s:Same F H) (h:TopIs K F H v (.lst ds)):∃ a xs,v=.ref a/\SqL K H a xs/\IsL K F xs ds:=by
 rcases h with h | ⟨a,e,h⟩
 ·cases h with
  | lst h t=>exact ⟨_,_,rfl,s.seq h,t⟩
 ·obtain ⟨xs,i,t⟩:=h;exact ⟨a,xs,e,.inl (.inl i),t⟩
theorem TopIs.tup {K:Frag} {F H:Hp} {v:V} {ds:List D} (s:Same F H) (h:TopIs K F H v (.tup ds)):∃ a xs,v=.ref a/\SqT K H a xs/\IsL K F xs ds:=by
 rcases h with h | ⟨a,e,h⟩
 ·cases h with
  | tup h t=>exact ⟨_,_,rfl,qV s h,t⟩
 ·exact h.elim
theorem TopIs.dct {K:Frag} {F H:Hp} {v:V} {ds:List (Key×D)} (s:Same F H) (h:TopIs K F H v (.dct ds)):∃ a kv,v=.ref a/\H a=iB (.dK kv)/\IsK K F kv ds:=by
 rcases h with h | ⟨a,e,h⟩
 ·cases h with
  | dct h t=>exact ⟨_,_,rfl,s _ _ h,t⟩
 ·obtain ⟨xs,i,t⟩:=h;exact ⟨a,xs,e,i,t⟩
theorem qcr {fn:iE->iE->Sem iE} {P:Int->Int->Prop} [∀ i j,Decidable (P i j)] {g:Int->Int->V} {d:Int->Int->D} (m:OpR X fn (rI P g)) (hg:∀ F i j,Is C.K F (g i j) (d i j)):OpD X C .sh fn (Kf λi j=>if P i j then .ok (d i j) else .bad):=by
 intro pins s σ H x y v u Q I r c h;obtain ⟨F,dx,a,b,t,ty,po⟩:=h;cases dx <;> try exact po.elim
 cases a <;> try exact po.elim
 rename_i i j;have po:PoV C .sh F H (if P i j then .ok (d i j) else .bad) Q:=po;obtain rfl:=t.int;obtain rfl:=ty.int;by_cases q:P i j;·rw [if_pos q] at po;exact m pins s σ H _ _ v u Q I r c ⟨i,j,rfl,rfl,q,po (g i j) F H b .refl (hg F i j)⟩
 ·rw [if_neg q] at po; exact po.elim
theorem Zw {fn:iE->iE->Sem iE} {g:Int->Int->V} {d:Int->Int->D} (m:OpR X fn (rI0 g)) (hg:∀ F i j,Is C.K F (g i j) (d i j)):OpD X C .sh fn (Kf λi j=>.ok (d i j)):=by
 intro pins s σ H x y v u Q I r c h;obtain ⟨F,dx,a,b,t,ty,po⟩:=h;cases dx <;> try exact po.elim
 cases a <;> try exact po.elim
 rename_i i j;obtain rfl:=t.int;obtain rfl:=ty.int;exact m pins s σ H _ _ v u Q I r c ⟨i,j,rfl,rfl,po (g i j) F H b .refl (hg F i j)⟩
noncomputable def Wg:D->D->Out D:=Kf λi j=>.ok (.int (i - j))
theorem xV:OpD X C .sh (binaryOp .Sub) Wg:=Zw qfi λ_ _ _=>.int _
instance:∀ i j,Decidable (CMul i j):=λi j=>inferInstanceAs (Decidable (_\/_))
instance:∀ i j,Decidable (qi5 i j):=λi j=>inferInstanceAs (Decidable (_/\_))
noncomputable def XT:D->D->Out D:=Kf λi j=>if CMul i j then .ok (.int (i * j)) else .bad
theorem Qv:OpD X C .sh (binaryOp .Mult) XT:=qcr qfj λ_ _ _=>.int _
noncomputable def UA:D->D->Out D:=Kf λi j=>if 0 < j then .ok (.int (i % j)) else .bad
theorem Qw:OpD X C .sh (binaryOp .Mod) UA:=qcr qfk λ_ _ _=>.int _
noncomputable def vB (x y:Str):Bool:=decide (x.cps.toList < y.cps.toList)
noncomputable def ltD:D->D->Out D
 | .int i,.int j=>.ok (.bl (decide (i < j)))
 | .str x,.str y=>.ok (.bl (vB x y))
 | _,_=>.bad
theorem Xb:OpD X C .sh (compareOp .Lt) ltD:=by
 intro pins s σ H x y v u Q I d c h;obtain ⟨F,dx,a,b,t,ty,po⟩:=h;cases dx <;> try exact po.elim
 ·cases a <;> try exact po.elim
  obtain rfl:=t.int;obtain rfl:=ty.int;exact qhn pins s σ H _ _ v u Q I d c ⟨_,_,rfl,rfl,po _ F H b .refl (.bl _)⟩
 ·cases a <;> try exact po.elim
  obtain ⟨rfl,_⟩:=t.str;obtain ⟨rfl,_⟩:=ty.str;exact Zd pins s σ H _ _ v u Q I d c ⟨_,_,rfl,rfl,po _ F H b .refl (.bl _)⟩
end
noncomputable def eqS (a b:D):Option Bool:=match a with
 | .non=>match b with
  | .non=>iB iH
  | .bl _=>iB iF
  | .int _=>iB iF
  | .str _=>iB iF
  | .tup _=>iB iF
  | .lst _=>iB iF
  | .dct _ | .raw _ | .xcp _ | .ins _ _ | .at_ _ _=>iD
 | .bl x=>match b with
  | .non=>iB iF
  | .bl y=>iB (x == y)
  | .int y=>iB ((if x then 1 else 0) == y)
  | .str _=>iB iF
  | .tup _=>iB iF
  | .lst _=>iB iF
  | .dct _ | .raw _ | .xcp _ | .ins _ _ | .at_ _ _=>iD
 | .int x=>match b with
  | .non=>iB iF
  | .bl y=>iB (x == (if y then 1 else 0))
  | .int y=>iB (x == y)
  | .str _=>iB iF
  | .tup _=>iB iF
  | .lst _=>iB iF
  | .dct _ | .raw _ | .xcp _ | .ins _ _ | .at_ _ _=>iD
 | .str x=>match b with
  | .non=>iB iF
  | .bl _=>iB iF
  | .int _=>iB iF
  | .str y=>iB (x == y)
  | .tup _=>iB iF
  | .lst _=>iB iF
  | .dct _ | .raw _ | .xcp _ | .ins _ _ | .at_ _ _=>iD
 | .tup x=>match b with
  | .non=>iB iF
  | .bl _=>iB iF
  | .int _=>iB iF
  | .str _=>iB iF
  | .tup _=>iD
  | .lst _=>iB iF
  | .dct _ | .raw _ | .xcp _ | .ins _ _ | .at_ _ _=>iD
 | .lst x=>match b with
  | .non=>iB iF
  | .bl _=>iB iF
  | .int _=>iB iF
  | .str _=>iB iF
  | .tup _=>iB iF
  | .lst _=>iD
  | .dct _ | .raw _ | .xcp _ | .ins _ _ | .at_ _ _=>iD
 | .dct _ | .raw _ | .xcp _ | .ins _ _ | .at_ _ _=>iD
noncomputable def vC (f:D->D->Option Bool):List D->List D->Option Bool
 | x::xs,y::ys=>(f x y).bind λa=>(vC f xs ys).bind λb=>iB (a&&b)
 | _,_=>iB iH
noncomputable def eqN:Nat->D->D->Option Bool
 | n+1,.tup xs,.tup ys=>(vC (eqN n) xs ys).map λb=>b&&xs.length == ys.length
 | n+1,.lst xs,.lst ys=>if xs.length=ys.length then vC (eqN n) xs ys else iB iF
 | _,a,b=>eqS a b
theorem UB {n:Nat} {a b:D} (h1:∀ xs ys,a=.tup xs->b≠.tup ys) (h2:∀ xs ys,a=.lst xs->b≠.lst ys):eqN n a b=eqS a b:=by
 cases n with
 | zero=>rfl
 | succ n=>
  cases a with
  | tup xs=>cases b with
   | tup ys=>exact absurd rfl (h1 xs ys rfl)
   | _=>rfl
  | lst xs=>cases b with
   | lst ys=>exact absurd rfl (h2 xs ys rfl)
   | _=>rfl
  | _=>rfl
noncomputable def itE (f:D->D->Option Bool) (xs ys:List D) (j:Nat):Bool:=((xs[j]?).bind λx=>(ys[j]?).bind λy=>f x y).getD iF
theorem wq {f:D->D->Option Bool}:∀ {xs ys:List D} {b:Bool},vC f xs ys=iB b->b=(au (min xs.length ys.length)).all (itE f xs ys)
 | [],ys,b,h=>by simp [vC] at h ⊢; exact h
 | x::xs,[],b,h=>by simp [vC] at h ⊢; exact h
 | x::xs,y::ys,b,h=>by
  unfold vC at h;cases e:f x y with
  | none=>rw [e] at h; simp at h
  | some a=>
   cases i:vC f xs ys with
   | none=>rw [e,i] at h; simp at h
   | some c=>
    rw [e,i] at h;have h:(a&&c)=b:=by simpa using h
    have d:=wq i;have m:min (x::xs).length (y::ys).length=min xs.length ys.length+1:=by simp only [ao]; omega
    rw [m,List.range_succ_eq_map,fW,List.all_map];have g:itE f (x::xs) (y::ys) 0=a:=by simp [itE,e]
    have e1:(itE f (x::xs) (y::ys)) ∘ Nat.succ=itE f xs ys:=by funext j;simp [itE]
    rw [g,e1,<-d];exact h.symm
theorem Zx {f:D->D->Option Bool}:∀ {xs ys:List D} {b:Bool},vC f xs ys=iB b->∀ (j:Nat) (x y:D),xs[j]?=iB x->ys[j]?=iB y->f x y=iB (itE f xs ys j)
 | [],ys,b,_,j,x,y,hx,_=>by simp at hx
 | x::xs,[],b,_,j,_,y,_,hy=>by simp at hy
 | x::xs,y::ys,b,h,0,x',y',hx,hy=>by
  simp at hx hy;subst hx hy;unfold vC at h;cases e:f x y with
  | none=>rw [e] at h; simp at h
  | some a=>simp [itE,e]
 | x::xs,y::ys,b,h,j+1,x',y',hx,hy=>by
  unfold vC at h;cases e:f x y with
  | none=>rw [e] at h; simp at h
  | some a=>
   cases i:vC f xs ys with
   | none=>rw [e,i] at h; simp at h
   | some c=>have q:=Zx i j x' y' (by simpa using hx) (by simpa using hy);rw [q];simp [itE]
section
variable {X:Cx} {pins:List (Addr×Obj)} {σ:St} {F H:Hp} {s:iI}
theorem Zy (I:Inv X pins σ H s) (y:Same F H):∀ (n:Nat) {v:V} {d e:D} {b:Bool},Is X.K F v d->Is X.K F v e->eqN n d e=iB b->b=true:=by
 intro n
 induction n with
 | zero=>
  intro v d e b h1 h2 h;cases h1 <;> cases h2 <;> simp [eqN,eqS] at h <;> try exact h.symm
  all_goals first
   | exact h
   | (rename_i p1 _ _ _ p2 _; obtain ⟨_,_,i,_⟩:=I.list (y.seq (by assumption)); obtain ⟨_,_,f,_⟩:=I.tuple (qV y (by assumption)); exact absurd rfl (cB i.isList f))
   | (rename_i p1 _ _ _ p2 _; obtain ⟨_,_,i,_⟩:=I.list (y.seq (by assumption)); obtain ⟨_,_,f,_⟩:=I.tuple (qV y (by assumption)); exact absurd rfl (cB i.isList f).symm)
   | skip
 | succ n k=>
  have l:∀ {xs:List V} {ds es:List D} {b:Bool},IsL X.K F xs ds->IsL X.K F xs es->vC (eqN n) ds es=iB b->b=true:=by
   intro xs
   induction xs with
   | nil=>intro ds es b h1 h2 h; cases h1; cases h2; simp [vC] at h; exact h
   | cons x xs j=>
    intro ds es b h1 h2 h;cases h1 with
    | cons p g=>
     cases h2 with
     | cons o t=>
      rename_i d ds e es;unfold vC at h;cases q:eqN n d e with
      | none=>rw [q] at h; simp at h
      | some a=>
       cases f:vC (eqN n) ds es with
       | none=>rw [q,f] at h; simp at h
       | some c=>rw [q,f] at h;rw [k p o q,j g t f] at h;simpa using h.symm
  intro v d e b h1 h2 h;cases h1 with
  | tup p1 g=>
   cases h2 with
   | tup p2 t=>
    have e:=I.tuple_inj (qV y p1) (qV y p2);subst e;simp only [eqN] at h;rename_i xs ds es;cases q:vC (eqN n) ds es with
    | none=>rw [q] at h; simp at h
    | some c=>
     rw [q] at h;have hl:ds.length=es.length:=by rw [<-g.length,<-t.length]
     have m:(ds.length == es.length)=true:=by simp [hl]
     rw [l g t q] at h;simpa [m] using h.symm
   | lst p2 t=>obtain ⟨_,_,i,_⟩:=I.list (y.seq p2);obtain ⟨_,_,f,_⟩:=I.tuple (qV y p1);exact absurd rfl (cB i.isList f)
   | _=>simp [eqN,eqS] at h
  | lst p1 g=>
   cases h2 with
   | lst p2 t=>have e:=I.list_inj (y.seq p1) (y.seq p2);subst e;simp only [eqN] at h;have hl:=g.length.symm.trans t.length;rw [if_pos hl] at h;exact l g t h
   | tup p2 t=>obtain ⟨_,_,i,_⟩:=I.list (y.seq p1);obtain ⟨_,_,f,_⟩:=I.tuple (qV y p2);exact absurd rfl (cB i.isList f)
   | _=>simp [eqN,eqS] at h
  | _=>cases h2 <;> simp [eqN,eqS] at h <;> first | exact h.symm | exact h | skip
end
open PySem.SeqAt
section
variable {X:Cx} {pins:List (Addr×Obj)} {σ:St} {F H:Hp} {s:iI}
theorem Vals.getE {xs:List V} {us:List iE} (r:Vals xs us) {j:Nat} (h:j < us.length):∃ x,xs[j]?=iB x/\RelV x us[j]:=by
 have hl:=r.length;have G:j < xs.length:=by omega
 obtain ⟨u,e1,e⟩:=Vals.get (i:=j) (x:=xs[j]) r (by simp [G]);refine ⟨xs[j],by simp [G],?_⟩;rw [ay h] at e1;cases e1;exact e
theorem uO {A:iP} {n:Nat} {xs ys:List V} {ds es:List D} {us ws:List iE} {b:Bool} (g:∀ {v w:V} {d e:D} {u t:iE} {b:Bool},Is X.K F v d->Is X.K F w e->RelV v u->RelV w t->eqN n d e=iB b->EqAt A s u t b)
  (r1:Vals xs us) (r2:Vals ys ws) (i1:IsL X.K F xs ds) (i2:IsL X.K F ys es) (h:vC (eqN n) ds es=iB b) :
  ∀ j (h1:j < us.toArray.size) (h2:j < ws.toArray.size),EqAt A s us.toArray[j] ws.toArray[j] (itE (eqN n) ds es j):=by
 intro j h1 h2;have c:j < us.length:=by simpa using h1
 have a:j < ws.length:=by simpa using h2
 obtain ⟨x,ex,f⟩:=Vals.getE r1 c;obtain ⟨y,l,r⟩:=Vals.getE r2 a;obtain ⟨d,o,i⟩:=i1.get ex;obtain ⟨e,m,k⟩:=i2.get l;have q:=Zx h j d e o m;simpa using g i k f r q
theorem UC {A:iP} {n:Nat} {a c:Addr} {xs ys:List V} {ds es:List D} {b:Bool} (I:Inv X pins σ H s) (j:∀ {v w:V} {d e:D} {u t:iE} {b:Bool},Is X.K F v d->Is X.K F w e->RelV v u->RelV w t->eqN n d e=iB b->EqAt A.in1 s u t b)
  (p1:SqT X.K H a xs) (p2:SqT X.K H c ys) (i1:IsL X.K F xs ds) (i2:IsL X.K F ys es) (h:eqN (n+1) (.tup ds) (.tup es)=iB b) (m:A.units < cLine):RcAt A s (.ref a) (.ref c) b:=by
 obtain ⟨us,r1,g,_⟩:=I.tuple p1;obtain ⟨ws,r2,f,_⟩:=I.tuple p2;simp only [eqN] at h;cases q:vC (eqN n) ds es with
 | none=>rw [q] at h; simp at h
 | some k=>
  rw [q] at h;have i:us.toArray.size=ds.length:=by rw [am,<-r1.length,i1.length]
  have l:ws.toArray.size=es.length:=by rw [am,<-r2.length,i2.length]
  have z:=RcAt.tuples (A:=A) g f m (uO (A:=A.in1) j r1 r2 i1 i2 q);rw [i,l,<-wq q] at z;have e:b=(k&&ds.length == es.length):=by simpa using h.symm
  rw [e]; exact z
theorem UD {A:iP} {n:Nat} {a c:Addr} {xs ys:List V} {ds es:List D} {b:Bool} (I:Inv X pins σ H s) (k:∀ {v w:V} {d e:D} {u t:iE} {b:Bool},Is X.K F v d->Is X.K F w e->RelV v u->RelV w t->eqN n d e=iB b->EqAt A.in1 s u t b)
  (p1:SqL X.K H a xs) (p2:SqL X.K H c ys) (i1:IsL X.K F xs ds) (i2:IsL X.K F ys es) (h:eqN (n+1) (.lst ds) (.lst es)=iB b) (j:A.units < cLine):RcAt A s (.ref a) (.ref c) b:=by
 obtain ⟨us,r1,g,_⟩:=I.list p1;obtain ⟨ws,r2,f,_⟩:=I.list p2;have i:us.toArray.size=ds.length:=by rw [am,<-r1.length,i1.length]
 have l:ws.toArray.size=es.length:=by rw [am,<-r2.length,i2.length]
 simp only [eqN] at h;by_cases hl:ds.length=es.length;·rw [if_pos hl] at h;have z:=RcAt.lists (A:=A) g.isList f.isList (by omega) j (uO (A:=A.in1) k r1 r2 i1 i2 h);have e:=wq h;rw [i] at z;rw [e,show min ds.length es.length=ds.length by omega];exact z
 ·rw [if_neg hl] at h;cases h;exact RcAt.lists_lengths g.isList f.isList (bne_iff_ne.mpr (by rw [i,l]; exact hl)) j
def Kd (s:iI):D->iE->Prop
 | .non,u=>u=.none
 | .bl b,u=>u=.bool b
 | .int i,u=>∃ t,u=.int i t
 | .str x,u=>∃ t,u=.str x t
 | .tup _,u=>∃ a its,u=.ref a/\s.heap.IsTuple a its
 | .lst _,u=>∃ a its,u=.ref a/\s.heap.IsList a its
 | _,_=>True
theorem Xc (I:Inv X pins σ H s) (y:Same F H) {v:V} {d:D} {u:iE} (t:TopIs X.K F H v d) (r:RelV v u):Kd s d u:=by
 cases d with
 | non=>obtain rfl:=t.non; exact r
 | bl=>obtain rfl:=t.bl; exact r
 | int=>obtain rfl:=t.int; exact r
 | str=>obtain ⟨rfl,_⟩:=t.str; exact r
 | tup=>obtain ⟨a,_,rfl,p,_⟩:=t.tup y; obtain ⟨_,_,q,_⟩:=I.tuple p; exact ⟨a,_,r,q⟩
 | lst=>obtain ⟨a,_,rfl,p,_⟩:=t.lst y; obtain ⟨_,_,q,_⟩:=I.list p; exact ⟨a,_,r,q.isList⟩
 | _=>trivial
theorem qfA {A:iP} {d e:D} {u t:iE} {b:Bool} (f:A.units < cLine) (k1:Kd s d u) (k2:Kd s e t) (h:eqS d e=iB b):EqAt A s u t b:=by
 cases d <;> cases e <;> try (cases h; done)
 all_goals
  cases h;first | obtain ⟨_,_,rfl,a⟩:=k1 | obtain ⟨_,rfl⟩:=k1 | cases k1
  first | obtain ⟨_,_,rfl,q⟩:=k2 | obtain ⟨_,rfl⟩:=k2 | cases k2
  with_reducible first | exact EqAt.same _ | exact EqAt.none_bool _ | exact EqAt.none_int _ _ | exact EqAt.none_str _ _ | exact EqAt.bool_none _ | exact EqAt.bool_bool _ _ | exact EqAt.bool_int _ _ _ | exact EqAt.bool_str _ _ _ | exact EqAt.int_none _ _ | exact EqAt.int_bool _ _ _ | exact EqAt.int_int _ _ _ _ | exact EqAt.int_str _ _ _ _ | exact EqAt.str_none _ _ | exact EqAt.str_bool _ _ _ | exact EqAt.str_int _ _ _ _ | exact EqAt.str_str _ _ _ _ | exact EqAt.none_tuple q f | exact EqAt.tuple_none a f | exact EqAt.none_list q f | exact EqAt.list_none a f | exact EqAt.bool_tuple _ q f | exact EqAt.tuple_bool _ a f | exact EqAt.bool_list _ q f | exact EqAt.list_bool _ a f | exact EqAt.int_tuple _ _ q f | exact EqAt.tuple_int _ _ a f | exact EqAt.int_list _ _ q f | exact EqAt.list_int _ _ a f | exact EqAt.str_tuple _ _ q f | exact EqAt.tuple_str _ _ a f | exact EqAt.str_list _ _ q f | exact EqAt.list_str _ _ a f | exact EqAt.tuple_list a q f | exact EqAt.list_tuple a q f
theorem Zz (I:Inv X pins σ H s) (y:Same F H):∀ (n:Nat) {A:iP} {v w:V} {d e:D} {u t:iE} {b:Bool},A.units+n < cLine->Is X.K F v d->Is X.K F w e->RelV v u->RelV w t->eqN n d e=iB b->EqAt A s u t b:=by
 intro n
 induction n with
 | zero=>exact λB h1 h2 x r h=>qfA (by omega) (Xc I y (.inl h1) x) (Xc I y (.inl h2) r) h
 | succ n l=>
  intro A v w d e u t b B h1 h2 x r h;have i:A.in1.units+n < cLine:=by show A.units+1+n < cLine; omega
  by_cases both:(∃ xs ys,d=.tup xs/\e=.tup ys)\/(∃ xs ys,d=.lst xs/\e=.lst ys)
  ·rcases both with ⟨ds,es,rfl,rfl⟩ | ⟨ds,es,rfl,rfl⟩
   ·have g:=h1;have f:=h2;cases h1 with
    | tup p1 k=>
     cases h2 with
     | tup p2 j=>
      rename_i a xs c ys;cases x;cases r;by_cases ne:a=c;·subst ne;rw [Zy I y (n+1) g f h];exact EqAt.same _
      ·exact EqAt.of_refs ne (UC I (λp o z q m=>l i p o z q m) (qV y p1) (qV y p2) k j h (by omega))
   ·have g:=h1;have f:=h2;cases h1 with
    | lst p1 k=>
     cases h2 with
     | lst p2 j=>
      rename_i a xs c ys;cases x;cases r;by_cases ne:a=c;·subst ne;rw [Zy I y (n+1) g f h];exact EqAt.same _
      ·exact EqAt.of_refs ne (UD I (λp o z q m=>l i p o z q m) (y.seq p1) (y.seq p2) k j h (by omega))
  ·have e1:eqN (n+1) d e=eqS d e:=UB (λxs ys p o=>both (.inl ⟨xs,ys,p,o⟩)) (λxs ys p o=>both (.inr ⟨xs,ys,p,o⟩));have C:eqN n d e=eqS d e:=UB (λxs ys p o=>both (.inl ⟨xs,ys,p,o⟩)) (λxs ys p o=>both (.inr ⟨xs,ys,p,o⟩));exact l (by omega) h1 h2 x r (by rw [C,<-e1]; exact h)
end
end L2.D2
namespace L2.D2
open PySem PySem.Spec PyProof.Rows
open PySem.SeqAt
variable {X:Cx} {A:iP} {n:Nat} {b:Bool}
section
variable {pins:List (Addr×Obj)} {σ:St} {F H:Hp} {s:iI}
theorem qa6 {a c:Addr} {xs ys:List V} {ds es:List D} (I:Inv X pins σ H s) (j:∀ {v w:V} {d e:D} {u t:iE} {b:Bool},Is X.K F v d->Is X.K F w e->RelV v u->RelV w t->eqN n d e=iB b->EqAt A.in1 s u t b)
  (p1:SqT X.K H a xs) (p2:SqT X.K H c ys) (i1:IsL X.K F xs ds) (i2:IsL X.K F ys es) (h:eqN (n+1) (.tup ds) (.tup es)=iB b) (m:A.units < cLine):RcNeAt A s (.ref a) (.ref c) (!b):=by
 obtain ⟨us,r1,g,_⟩:=I.tuple p1;obtain ⟨ws,r2,f,_⟩:=I.tuple p2;simp only [eqN] at h;cases q:vC (eqN n) ds es with
 | none=>rw [q] at h; simp at h
 | some k=>
  rw [q] at h;have i:us.toArray.size=ds.length:=by rw [am,<-r1.length,i1.length]
  have l:ws.toArray.size=es.length:=by rw [am,<-r2.length,i2.length]
  have z:=RcNeAt.tuples (A:=A) g f m (uO (A:=A.in1) j r1 r2 i1 i2 q);rw [i,l,<-wq q] at z;have e:b=(k&&ds.length == es.length):=by simpa using h.symm
  rw [e]; exact z
theorem qa7 {a c:Addr} {xs ys:List V} {ds es:List D} (I:Inv X pins σ H s) (k:∀ {v w:V} {d e:D} {u t:iE} {b:Bool},Is X.K F v d->Is X.K F w e->RelV v u->RelV w t->eqN n d e=iB b->EqAt A.in1 s u t b)
  (p1:SqL X.K H a xs) (p2:SqL X.K H c ys) (i1:IsL X.K F xs ds) (i2:IsL X.K F ys es) (h:eqN (n+1) (.lst ds) (.lst es)=iB b) (j:A.units < cLine):RcNeAt A s (.ref a) (.ref c) (!b):=by
 obtain ⟨us,r1,g,_⟩:=I.list p1;obtain ⟨ws,r2,f,_⟩:=I.list p2;have i:us.toArray.size=ds.length:=by rw [am,<-r1.length,i1.length]
 have l:ws.toArray.size=es.length:=by rw [am,<-r2.length,i2.length]
 simp only [eqN] at h;by_cases hl:ds.length=es.length;·rw [if_pos hl] at h;have z:=RcNeAt.lists (A:=A) g.isList f.isList (by omega) j (uO (A:=A.in1) k r1 r2 i1 i2 h);have e:=wq h;rw [i] at z;rw [e,show min ds.length es.length=ds.length by omega];exact z
 ·rw [if_neg hl] at h;cases h;exact RcNeAt.lists_lengths g.isList f.isList (bne_iff_ne.mpr (by rw [i,l]; exact hl)) j
theorem qfB (I:Inv X pins σ H s) (y:Same F H) {v w:V} {d e:D} {u t:iE} (l:A.units+n+1 < cLine) (j:TopIs X.K F H v d) (i:TopIs X.K F H w e) (x:RelV v u) (r:RelV w t) (h:eqN (n+1) d e=iB b):RcAt A s u t b:=by
 have f:A.units < cLine:=by omega
 have k:∀ {v w:V} {d e:D} {u t:iE} {b:Bool},Is X.K F v d->Is X.K F w e->RelV v u->RelV w t->eqN n d e=iB b->EqAt A.in1 s u t b:=λB p z o m=>Zz I y n (by show A.units+1+n < cLine; omega) B p z o m;have k1:=Xc I y j x;have k2:=Xc I y i r;cases d <;> cases e <;> try (cases h; done)
 case tup.tup=>
  obtain ⟨a,xs,rfl,p1,i1⟩:=j.tup y; obtain ⟨c,ys,rfl,p2,i2⟩:=i.tup y; cases x; cases r;exact UC I k p1 p2 i1 i2 h f
 case lst.lst=>
  obtain ⟨a,xs,rfl,p1,i1⟩:=j.lst y; obtain ⟨c,ys,rfl,p2,i2⟩:=i.lst y; cases x; cases r;exact UD I k p1 p2 i1 i2 h f
 all_goals
  cases h;clear x r j i;first | obtain ⟨_,_,rfl,g⟩:=k1 | obtain ⟨_,rfl⟩:=k1 | cases k1
  first | obtain ⟨_,_,rfl,q⟩:=k2 | obtain ⟨_,rfl⟩:=k2 | cases k2
  with_reducible first | exact RcAt.none_none | exact RcAt.none_bool _ | exact RcAt.none_int _ _ | exact RcAt.none_str _ _ | exact RcAt.bool_none _ | exact RcAt.bool_bool _ _ | exact RcAt.bool_int _ _ _ | exact RcAt.bool_str _ _ _ | exact RcAt.int_none _ _ | exact RcAt.int_bool _ _ _ | exact RcAt.int_int _ _ _ _ | exact RcAt.int_str _ _ _ _ | exact RcAt.str_none _ _ | exact RcAt.str_bool _ _ _ | exact RcAt.str_int _ _ _ _ | exact RcAt.str_str _ _ _ _ | exact RcAt.none_tuple q f | exact RcAt.tuple_none g f | exact RcAt.none_list q f | exact RcAt.list_none g f | exact RcAt.bool_tuple _ q f | exact RcAt.tuple_bool _ g f | exact RcAt.bool_list _ q f | exact RcAt.list_bool _ g f | exact RcAt.int_tuple _ _ q f | exact RcAt.tuple_int _ _ g f | exact RcAt.int_list _ _ q f | exact RcAt.list_int _ _ g f | exact RcAt.str_tuple _ _ q f | exact RcAt.tuple_str _ _ g f | exact RcAt.str_list _ _ q f | exact RcAt.list_str _ _ g f | exact RcAt.tuple_list g q f | exact RcAt.list_tuple g q f
theorem qfC (I:Inv X pins σ H s) (y:Same F H) {v w:V} {d e:D} {u t:iE} (l:A.units+n+1 < cLine) (j:TopIs X.K F H v d) (i:TopIs X.K F H w e) (x:RelV v u) (r:RelV w t) (h:eqN (n+1) d e=iB b):RcNeAt A s u t (!b):=by
 have f:A.units < cLine:=by omega
 have k:∀ {v w:V} {d e:D} {u t:iE} {b:Bool},Is X.K F v d->Is X.K F w e->RelV v u->RelV w t->eqN n d e=iB b->EqAt A.in1 s u t b:=λB p z o m=>Zz I y n (by show A.units+1+n < cLine; omega) B p z o m;have k1:=Xc I y j x;have k2:=Xc I y i r;cases d <;> cases e <;> try (cases h; done)
 case tup.tup=>
  obtain ⟨a,xs,rfl,p1,i1⟩:=j.tup y; obtain ⟨c,ys,rfl,p2,i2⟩:=i.tup y; cases x; cases r;exact qa6 I k p1 p2 i1 i2 h f
 case lst.lst=>
  obtain ⟨a,xs,rfl,p1,i1⟩:=j.lst y; obtain ⟨c,ys,rfl,p2,i2⟩:=i.lst y; cases x; cases r;exact qa7 I k p1 p2 i1 i2 h f
 all_goals
  cases h;clear x r j i;first | obtain ⟨_,_,rfl,g⟩:=k1 | obtain ⟨_,rfl⟩:=k1 | cases k1
  first | obtain ⟨_,_,rfl,q⟩:=k2 | obtain ⟨_,rfl⟩:=k2 | cases k2
  try simp only [Bool.not_true,Bool.not_false]
  with_reducible first | exact RcNeAt.none_none | exact RcNeAt.none_bool _ | exact RcNeAt.none_int _ _ | exact RcNeAt.none_str _ _ | exact RcNeAt.bool_none _ | exact RcNeAt.bool_bool _ _ | exact RcNeAt.bool_int _ _ _ | exact RcNeAt.bool_str _ _ _ | exact RcNeAt.int_none _ _ | exact RcNeAt.int_bool _ _ _ | exact RcNeAt.int_int _ _ _ _ | exact RcNeAt.int_str _ _ _ _ | exact RcNeAt.str_none _ _ | exact RcNeAt.str_bool _ _ _ | exact RcNeAt.str_int _ _ _ _ | exact RcNeAt.str_str _ _ _ _ | exact RcNeAt.none_tuple q f | exact RcNeAt.tuple_none g f | exact RcNeAt.none_list q f | exact RcNeAt.list_none g f | exact RcNeAt.bool_tuple _ q f | exact RcNeAt.tuple_bool _ g f | exact RcNeAt.bool_list _ q f | exact RcNeAt.list_bool _ g f | exact RcNeAt.int_tuple _ _ q f | exact RcNeAt.tuple_int _ _ g f | exact RcNeAt.int_list _ _ q f | exact RcNeAt.list_int _ _ g f | exact RcNeAt.str_tuple _ _ q f | exact RcNeAt.tuple_str _ _ g f | exact RcNeAt.str_list _ _ q f | exact RcNeAt.list_str _ _ g f | exact RcNeAt.tuple_list g q f | exact RcNeAt.list_tuple g q f | with_unfolding_all first | exact RcNeAt.bool_bool _ _ | exact RcNeAt.bool_int _ _ _ | exact RcNeAt.int_bool _ _ _ | exact RcNeAt.int_int _ _ _ _ | exact RcNeAt.str_str _ _ _ _
end
noncomputable def eqD (a b:D):Out D:=match eqN 8 a b with
 | some c=>.ok (.bl c)
 | none=>.bad
noncomputable def neD (a b:D):Out D:=match eqN 8 a b with
 | some c=>.ok (.bl (!c))
 | none=>.bad
section
variable {C:Ct}
theorem yO (m:C.K=X.K) (f:X.A.units+64 < cLine):OpD X C .sh (compareOp .Eq) eqD:=by
 intro pins s σ H x y v u Q I d r h;obtain ⟨F,dx,a,b,t,ty,po⟩:=h;rw [m] at t ty;unfold eqD at po;cases e:eqN 8 dx a with
 | none=>rw [e] at po; exact po.elim
 | some c=>rw [e] at po;exact qfB I b (n:=7) (by omega) t ty d r e _ _ _ _ ⟨.bl c,H,I,rfl,po _ F H b .refl (.bl _)⟩
theorem Ky (m:C.K=X.K) (f:X.A.units+64 < cLine):OpD X C .sh (compareOp .NotEq) neD:=by
 intro pins s σ H x y v u Q I d r h;obtain ⟨F,dx,a,b,t,ty,po⟩:=h;rw [m] at t ty;unfold neD at po;cases e:eqN 8 dx a with
 | none=>rw [e] at po; exact po.elim
 | some c=>rw [e] at po;exact qfC I b (n:=7) (by omega) t ty d r e _ _ _ _ ⟨.bl _,H,I,rfl,po _ F H b .refl (.bl _)⟩
end
end L2.D2
namespace L2.D2
open PySem PySem.Spec PyProof.Rows
open PySem.SeqAt
variable {X:Cx} {pins:List (Addr×Obj)} {σ:St} {F H:Hp} {s:iI} {n:Nat} {v:V} {d e:D} {b:Bool}
section
theorem qdr (I:Inv X pins σ H s) (y:Same F H):∀ (n:Nat) {v:V} {d d' e:D} {b g:Bool},Is X.K F v d->Is X.K F v d'->eqN n d e=iB b->eqN n d' e=iB g->b=g:=by
 have L:∀ {a:Addr} {xs ys:List V},SqT X.K F a xs->SqL X.K F a ys->False:=λp q=>by obtain ⟨_,_,u,_⟩:=I.list (y.seq q);obtain ⟨_,_,m,_⟩:=I.tuple (qV y p);exact absurd rfl (ne_of_list_tuple u.isList m)
 intro n
 induction n with
 | zero=>
  intro v d d' e b g h1 h2 e1 i;have e1:eqS d e=iB b:=e1;have i:eqS d' e=iB g:=i;cases h1 <;> cases h2 <;> first
   | exact aU.inj (e1.symm.trans i)
   | exact (L (by assumption) (by assumption)).elim
   | (refine aU.inj (e1.symm.trans (dN ?_ i)); cases e <;> rfl; done)
   | (refine nomatch (show iD=iB g from dN ?_ i); cases e <;> rfl; done)
   | (refine nomatch (show iD=iB b from dN ?_ e1); cases e <;> rfl; done)
 | succ n w=>
  have l:∀ {xs:List V} {ds c es:List D} {b g:Bool},IsL X.K F xs ds->IsL X.K F xs c->vC (eqN n) ds es=iB b->vC (eqN n) c es=iB g->b=g:=by
   intro xs
   induction xs with
   | nil=>intro ds c es b g h1 h2 e1 i; cases h1; cases h2; simp only [vC] at e1 i; cases e1; cases i; rfl
   | cons x xs r=>
    intro ds c es b g h1 h2 e1 i;cases h1 with
    | cons B f=>
     cases h2 with
     | cons A t=>
      rename_i d ds d' c;cases es with
      | nil=>simp only [vC] at e1 i; cases e1; cases i; rfl
      | cons e es=>
       unfold vC at e1 i;cases q:eqN n d e with
       | none=>rw [q] at e1; simp at e1
       | some k=>
        cases m:eqN n d' e with
        | none=>rw [m] at i; simp at i
        | some k'=>
         cases j:vC (eqN n) ds es with
         | none=>rw [q,j] at e1; simp at e1
         | some k3=>
          cases h:vC (eqN n) c es with
          | none=>rw [m,h] at i; simp at i
          | some o=>rw [q,j] at e1;rw [m,h] at i;rw [w B A q m,r f t j h] at e1;have e1:iB (k'&&o)=iB b:=e1;have i:iB (k'&&o)=iB g:=i;rw [e1] at i;exact aU.inj i
  intro v d d' e b g h1 h2 e1 i;cases h1 with
  | tup p1 f=>
   cases h2 with
   | tup p2 t=>
    have q:=I.tuple_inj (qV y p1) (qV y p2);subst q;have hl:=f.length.symm.trans t.length;cases e with
    | tup es=>
     rename_i ds c;simp only [eqN] at e1 i;cases j:vC (eqN n) ds es with
     | none=>rw [j] at e1; simp at e1
     | some k3=>
      cases h:vC (eqN n) c es with
      | none=>rw [h] at i; simp at i
      | some o=>rw [j] at e1;rw [h] at i;rw [l f t j h,hl] at e1;exact aU.inj (e1.symm.trans i)
    | _=>simp only [eqN,eqS] at e1 i <;> first | (cases e1; cases i; rfl) | (cases e1; done)
   | lst p2 t=>exact (L p1 p2).elim
   | _=>cases e <;> simp [eqN,eqS] at i
  | lst p1 f=>
   cases h2 with
   | lst p2 t=>
    have q:=I.list_inj (y.seq p1) (y.seq p2);subst q;have hl:=f.length.symm.trans t.length;cases e with
    | lst es=>
     rename_i ds c;simp only [eqN] at e1 i;rw [hl] at e1;by_cases z:c.length=es.length;·rw [if_pos z] at e1 i;exact l f t e1 i
     ·rw [if_neg z] at e1 i;exact aU.inj (e1.symm.trans i)
    | _=>simp only [eqN,eqS] at e1 i <;> first | (cases e1; cases i; rfl) | (cases e1; done)
   | tup p2 t=>exact (L p2 p1).elim
   | _=>cases e <;> simp [eqN,eqS] at i
  | _=>cases h2 <;> first
   | exact aU.inj (e1.symm.trans i)
   | (refine aU.inj (e1.symm.trans (dN ?_ i)); cases e <;> rfl; done)
   | (refine nomatch (show iD=iB g from dN ?_ i); cases e <;> rfl; done)
   | (refine nomatch (show iD=iB b from dN ?_ e1); cases e <;> rfl; done)
open Classical in
noncomputable def Xd (X:Cx) (F:Hp) (n:Nat) (e:D) (u:iE):Bool:=decide (∃ v d,Is X.K F v d/\RelV v u/\eqN n d e=iB iH)
open Classical in
theorem ZA (I:Inv X pins σ H s) (y:Same F H) {u:iE} (h:Is X.K F v d) (r:RelV v u) (q:eqN n d e=iB b):Xd X F n e u=b:=by
 unfold Xd;cases b with
 | true=>exact decide_eq_true ⟨v,d,h,r,q⟩
 | false=>refine decide_eq_false ?_;rintro ⟨w,d',h',r',g⟩;have e:=r.inj r';subst e;exact absurd (qdr I y n h h' q g) (by decide)
noncomputable def zp (n:Nat) (e:D):List D->Option Bool
 | []=>iB iF
 | d::ds=>(eqN n d e).bind λa=>(zp n e ds).bind λb=>iB (a||b)
theorem Kz {ds:List D} (h:zp n e (d::ds)=iB b):∃ a c,eqN n d e=iB a/\zp n e ds=iB c/\b=(a||c):=by
 unfold zp at h;cases q:eqN n d e with
 | none=>rw [q] at h; simp at h
 | some a=>
  cases f:zp n e ds with
  | none=>rw [q,f] at h; simp at h
  | some c=>rw [q,f] at h; exact ⟨a,c,rfl,rfl,(aU.inj h).symm⟩
theorem ZC (I:Inv X pins σ H s) (y:Same F H):∀ {vs:List V} {ds:List D} {us:List iE} {b:Bool},IsL X.K F vs ds->Vals vs us->zp n e ds=iB b->us.any (Xd X F n e)=b/\∀ u∈us,∃ v d a,Is X.K F v d/\RelV v u/\eqN n d e=iB a/\Xd X F n e u=a
 | _,_,_,b,.nil,.nil,h=>⟨by simpa using (aU.inj h),λu f=>nomatch f⟩
 | _,_,_,b,.cons i t,.cons r rs,h=>by
  obtain ⟨a,c,q,k,rfl⟩:=Kz h;obtain ⟨j,g⟩:=ZC I y t rs k;have e1:=ZA I y i r q;refine ⟨by rw [cI,e1,j],λu f=>?_⟩;rcases ae.mp f with rfl | f;·exact ⟨_,_,a,i,r,q,e1⟩
  ·exact g u f
end
noncomputable def inD (x y:D):Out Bool:=match y with
 | .lst ds=>match zp 7 x ds with
  | some b=>.ok b
  | none=>.bad
 | .tup ds=>match zp 7 x ds with
  | some b=>.ok b
  | none=>.bad
 | _=>.bad
noncomputable def qeQ (x y:D):Out D:=(inD x y).bind λb=>.ok (.bl b)
noncomputable def Xe (x y:D):Out D:=(inD x y).bind λb=>.ok (.bl (!b))
theorem TopIs.is {K:Frag} (s:Same F H) (h:TopIs K F H v d):∃ F',Same F F'/\Same F' H/\Is K F' v d:=by
 rcases h with h | ⟨a,rfl,o⟩
 ·exact ⟨F,Same.refl _,s,h⟩
 ·obtain ⟨u,hu⟩:∃ u,H a=iB u:=by
   cases q:H a with
   | none=>exact absurd q o.there
   | some u=>exact ⟨u,rfl⟩
  by_cases E:F a=iD
  ·have gr:Same F (upd F a u):=λb w e=>by rw [qB (qH e E)]; exact e
   refine ⟨upd F a u,gr,λb w e=>?_,?_⟩
   ·by_cases q:b=a;·subst q; rw [qt] at e; cases e; exact hu
    ·rw [qB q] at e; exact s b w e
   ·cases d with
    | lst ds=>obtain ⟨xs,e,t⟩:=o; rw [hu] at e; cases e; exact .lst (.inl (.inl qt)) (t.mono gr)
    | dct ds=>obtain ⟨xs,e,t⟩:=o; rw [hu] at e; cases e; exact .dct qt (t.mono gr)
    | ins C fs=>obtain ⟨dx,xs,e,t⟩:=o; rw [hu] at e; cases e; exact .ins qt (t.mono gr)
    | at_ b ds=>obtain ⟨D,xs,e,t⟩:=o; rw [hu] at e; cases e; subst D; exact .at_ (.inl (.inl qt)) (t.mono gr)
    | _=>exact o.elim
  ·obtain ⟨w,hw⟩:∃ w,F a=iB w:=by
    cases q:F a with
    | none=>exact absurd q E
    | some w=>exact ⟨w,rfl⟩
   have e:=s a w hw;cases d with
   | lst ds=>obtain ⟨xs,c,t⟩:=o; rw [c] at e; cases e; exact ⟨F,Same.refl _,s,.lst (.inl (.inl hw)) t⟩
   | dct ds=>obtain ⟨xs,c,t⟩:=o; rw [c] at e; cases e; exact ⟨F,Same.refl _,s,.dct hw t⟩
   | ins C fs=>obtain ⟨dx,xs,c,t⟩:=o; rw [c] at e; cases e; exact ⟨F,Same.refl _,s,.ins hw t⟩
   | at_ b ds=>obtain ⟨D,xs,c,t⟩:=o; rw [c] at e; cases e; subst D; exact ⟨F,Same.refl _,s,.at_ (.inl (.inl hw)) t⟩
   | _=>exact o.elim
section
variable {C:Ct}
theorem Qx {A:iP} {y x:V} {dx:D} {ds:List D} {b:Bool} {u v:iE} {a:Addr} {us:List iE} {xs:List V} (I:Inv X pins σ H s) (j:A.units+64 < cLine) (c:Same F H) (ix:Is X.K F x dx) (f:RelV x v)
  (i:IsL X.K F xs ds) (r:Vals xs us) (h:zp 7 dx ds=iB b):us.any (Xd X F 7 dx)=b/\∀ w,w∈us.toArray->EqAt A.in1 s w v (Xd X F 7 dx w):=by
 obtain ⟨h1,h2⟩:=ZC I c i r h;refine ⟨h1,λw hw=>?_⟩;obtain ⟨g,d,k,i1,r1,q,e⟩:=h2 w (by simpa using hw);rw [e];exact Zz I c 7 (by show A.units+1+7 < cLine; omega) i1 ix r1 f q
theorem qhB (m:C.K=X.K) (j:X.A.units+64 < cLine):OpD X C .sh (compareOp .In) qeQ:=by
 intro pins s σ H x y v u Q I g f h;obtain ⟨F,dx,k,d,t,ty,po⟩:=h;rw [m] at t ty;unfold qeQ inD at po;obtain ⟨F',g',c,ix⟩:=t.is d;cases k with
 | lst ds=>
  cases e:zp 7 dx ds with
  | none=>simp only [e] at po; exact po.elim
  | some b=>simp only [e] at po;obtain ⟨a,xs,rfl,p,i⟩:=ty.lst d;cases f;obtain ⟨us,r,pl,_⟩:=I.list p;obtain ⟨h1,h2⟩:=Qx (A:=X.A) (y:=.non) (a:=a) (u:=.none) I j c ix g (i.mono g') r e;refine in_listAt (Xd X F' 7 dx) pl.isList h2 ⟨.bl b,H,I,by show _=_; rw [<-h1]; simp,po _ F H d .refl (.bl _)⟩
 | tup ds=>
  cases e:zp 7 dx ds with
  | none=>simp only [e] at po; exact po.elim
  | some b=>simp only [e] at po;obtain ⟨a,xs,rfl,p,i⟩:=ty.tup d;cases f;obtain ⟨us,r,pl,_⟩:=I.tuple p;obtain ⟨h1,h2⟩:=Qx (A:=X.A) (y:=.non) (a:=a) (u:=.none) I j c ix g (i.mono g') r e;refine in_tupleAt (Xd X F' 7 dx) pl h2 ⟨.bl b,H,I,by show _=_; rw [<-h1]; simp,po _ F H d .refl (.bl _)⟩
 | _=>exact po.elim
theorem qa8 (m:C.K=X.K) (j:X.A.units+64 < cLine):OpD X C .sh (compareOp .NotIn) Xe:=by
 intro pins s σ H x y v u Q I g f h;obtain ⟨F,dx,k,d,t,ty,po⟩:=h;rw [m] at t ty;unfold Xe inD at po;obtain ⟨F',g',c,ix⟩:=t.is d;cases k with
 | lst ds=>
  cases e:zp 7 dx ds with
  | none=>simp only [e] at po; exact po.elim
  | some b=>simp only [e] at po;obtain ⟨a,xs,rfl,p,i⟩:=ty.lst d;cases f;obtain ⟨us,r,pl,_⟩:=I.list p;obtain ⟨h1,h2⟩:=Qx (A:=X.A) (y:=.non) (a:=a) (u:=.none) I j c ix g (i.mono g') r e;refine notIn_listAt (Xd X F' 7 dx) pl.isList h2 ⟨.bl (!b),H,I,by show _=_; rw [<-h1]; simp,po _ F H d .refl (.bl _)⟩
 | tup ds=>
  cases e:zp 7 dx ds with
  | none=>simp only [e] at po; exact po.elim
  | some b=>simp only [e] at po;obtain ⟨a,xs,rfl,p,i⟩:=ty.tup d;cases f;obtain ⟨us,r,pl,_⟩:=I.tuple p;obtain ⟨h1,h2⟩:=Qx (A:=X.A) (y:=.non) (a:=a) (u:=.none) I j c ix g (i.mono g') r e;refine notIn_tupleAt (Xd X F' 7 dx) pl h2 ⟨.bl (!b),H,I,by show _=_; rw [<-h1]; simp,po _ F H d .refl (.bl _)⟩
 | _=>exact po.elim
end
end L2.D2
namespace L2.D2
open PySem PySem.Spec PyProof.Rows
def PoT (C:Ct) (own:List Nat) (σ:St) (F H:Hp) (r:Out (Bool×Sl)) (Q:Bool->Hp->Prop):Prop:=match r with
 | .ok (b,ρ')=>∀ F' H',Rep C.K own F' H' σ ρ'->Chg (OA own σ) F H F' H'->Q b H'
 | .exc c ρ'=>∀ F' H',Same F' H'->XS C.K C.ox F' H' σ ρ'->Chg (OA own σ) F H F' H'->C.E (C.cv c) iD H'
 | .bad=>False
def tT (C:Ct) (own:List Nat) (f:Sl->Out (Bool×Sl)):TT:=λσ H Q=>∃ F ρ,Rep C.K own F H σ ρ/\PoT C own σ F H (f ρ) Q
variable {C:Ct} {own:List Nat} {σ:St} {F H F1 H1:Hp} {Q:Bool->Hp->Prop}
theorem PoT.shift {r:Out (Bool×Sl)} (h:PoT C own σ F H r Q) (c:Chg (OA own σ) F H F1 H1):PoT C own σ F1 H1 r Q:=by
 cases r with
 | ok p=>exact λF' H' a T=>h F' H' a (c.trans' T)
 | exc x=>exact λF' H' s io T=>h F' H' s io (c.trans' T)
 | bad=>exact h.elim
variable {o:Out (D×Sl)}
theorem PoT.bindV {ma:Mo} {k:D×Sl->Out (Bool×Sl)} {R:VK} (hp:PoT C own σ F H (o.bind k) Q)
  (h:∀ v F1 H1 d ρ1,Rep C.K own F1 H1 σ ρ1->Chg (OA own σ) F H F1 H1->MoIs C.K ma H F1 H1 v d->PoT C own σ F1 H1 (k (d,ρ1)) Q->R v H1):Po C own ma σ F H o R:=by
 cases o with
 | ok p=>obtain ⟨d,ρ1⟩:=p;exact λv F1 H1 a c m=>h v F1 H1 d ρ1 a c m (PoT.shift (show PoT C own σ F H (k (d,ρ1)) Q from hp) c)
 | exc x=>exact hp
 | bad=>exact hp.elim
theorem PoT.bindT {o:Out (Bool×Sl)} {k:Bool×Sl->Out (Bool×Sl)} {R:Bool->Hp->Prop} (hp:PoT C own σ F H (o.bind k) Q)
  (h:∀ F1 H1 b ρ1,Rep C.K own F1 H1 σ ρ1->Chg (OA own σ) F H F1 H1->PoT C own σ F1 H1 (k (b,ρ1)) Q->R b H1):PoT C own σ F H o R:=by
 cases o with
 | ok p=>obtain ⟨d,ρ1⟩:=p;exact λF1 H1 a c=>h F1 H1 d ρ1 a c (PoT.shift (show PoT C own σ F H (k (d,ρ1)) Q from hp) c)
 | exc x=>exact hp
 | bad=>exact hp.elim
variable {m:Mo}
theorem Po.bindT {o:Out (Bool×Sl)} {k:Bool×Sl->Out (D×Sl)} {Q:VK} {R:Bool->Hp->Prop} (hp:Po C own m σ F H (o.bind k) Q)
  (h:∀ F1 H1 b ρ1,Rep C.K own F1 H1 σ ρ1->Chg (OA own σ) F H F1 H1->Po C own m σ F1 H1 (k (b,ρ1)) Q->R b H1):PoT C own σ F H o R:=by
 cases o with
 | ok p=>obtain ⟨d,ρ1⟩:=p;exact λF1 H1 a c=>h F1 H1 d ρ1 a c (Po.shift (show Po C own m σ F H (k (d,ρ1)) Q from hp) c)
 | exc x=>exact hp
 | bad=>exact hp.elim
noncomputable def vD:D->Out Bool
 | .non=>.ok iF
 | .bl b=>.ok b
 | .int i=>.ok (i != 0)
 | .str x=>.ok ((x.length:Int) != 0)
 | .tup xs=>.ok (!xs.isEmpty)
 | .lst xs=>.ok (!xs.isEmpty)
 | .dct xs=>.ok (!xs.isEmpty)
 | .raw _=>.bad
 | .xcp _=>.bad
 | .ins _ _=>.bad
 | .at_ _ _=>.bad
noncomputable def yl (f:Sl->Out (D×Sl)):Sl->Out (Bool×Sl):=λρ=>(f ρ).bind λp=>(vD p.1).bind λb=>.ok (b,p.2)
variable {K:Frag} {vs:List V} {ds:List D}
theorem IsL.isEmpty (h:IsL K F vs ds):vs.isEmpty=ds.isEmpty:=by cases h <;> rfl
theorem IsK.isEmpty {vs:List (Key×V)} {ds:List (Key×D)} (h:IsK K F vs ds):vs.isEmpty=ds.isEmpty:=by cases h <;> rfl
variable {v:V} {d:D}
theorem qds {b:Bool} (s:Same F H) (h:TopIs K F H v d) (e:vD d=.ok b):qhq K v H b:=by
 cases d with
 | non=>obtain rfl:=h.non; cases e; rfl
 | bl x=>obtain rfl:=h.bl; cases e; rfl
 | int x=>obtain rfl:=h.int; cases e; rfl
 | str x=>obtain ⟨rfl,q⟩:=h.str; cases e; exact ⟨q,rfl⟩
 | tup x=>obtain ⟨a,xs,rfl,p,t⟩:=h.tup s; cases e; exact .inr (.inl ⟨xs,p,by rw [t.isEmpty]⟩)
 | lst x=>obtain ⟨a,xs,rfl,p,t⟩:=h.lst s; cases e; exact .inl ⟨xs,p,by rw [t.isEmpty]⟩
 | dct x=>obtain ⟨a,xs,rfl,p,t⟩:=h.dct s; cases e; exact .inr (.inr ⟨xs,p,by rw [t.isEmpty]⟩)
 | raw x=>cases e
 | xcp x=>cases e
 | ins x y=>cases e
 | at_ x y=>cases e
noncomputable def qP (f:Sl->Out (D×Sl)):Sl->Out (Bool×Sl):=λρ=>(f ρ).bind λp=>match p.1 with
 | .bl b=>.ok (b,p.2)
 | _=>.bad
variable {X:Cx} {c e:Expr} {f fa:Sl->Out (D×Sl)} {ft:Sl->Out (Bool×Sl)} {ma mb:Mo} {pos:Pos} {op op':CmpOp} {g g':D->D->Out D} {ρ:Sl}
section
variable {a b:Expr} {fb fc:Sl->Out (D×Sl)} {fu:Sl->Out (Bool×Sl)} {mc:Mo} {rest:List Expr}
theorem je (g:C.K=X.K) (h:PE X e (tE C own m f)) (i:∀ whole,isTrue e X.env whole=(do let v <-whole; standAt e.pos; holding [v] (truthy v))):PT X e (tT C own (yl f)):=by
 refine qa4 (qaY h i) λσ H Q ⟨F,ρ,r,h⟩=>⟨F,ρ,r,PoT.bindV h λv F1 H1 d ρ1 a j c h1=>?_⟩
 cases q:vD d with
 | ok k=>have h1:PoT C own σ F1 H1 ((vD d).bind λb=>.ok (b,ρ1)) Q:=h1;rw [q] at h1;exact ⟨k,by rw [<-g]; exact qds a.sub c.top q,h1 F1 H1 a .refl⟩
 | exc x=>have h1:PoT C own σ F1 H1 ((vD d).bind λb=>.ok (b,ρ1)) Q:=h1;cases d <;> cases q
 | bad=>have h1:PoT C own σ F1 H1 ((vD d).bind λb=>.ok (b,ρ1)) Q:=h1;rw [q] at h1;exact h1.elim
theorem ZD (h:tT C own (qP f) σ H Q):tE C own .sh f σ H λx H'=>∃ k,x=.bl k/\Q k H':=by
 obtain ⟨F,ρ,r,h⟩:=h;refine ⟨F,ρ,r,PoT.bindV h λv F1 H1 d ρ1 a b c h1=>?_⟩;cases d with
 | bl k=>have c:Is C.K F1 v (.bl k):=c;cases c;exact ⟨k,rfl,h1 F1 H1 a .refl⟩
 | _=>exact h1.elim
theorem qM (m:OpD X C .sh (compareOp op) g) (c:PE X a (tE C own ma fa)) (d:PE X b (tE C own mb fb)) (f:ma≠.any:=by decide)
  (k:behindInMarks op b=false:=by first | exact qcq _ | with_unfolding_all rfl):PT X (.Compare a [op] [b] pos) (tT C own (qP (d2 g fa fb))):=by
 refine qa4 (qdc m c d k) λσ H Q h=>?_;exact Kw f (ZD h)
noncomputable def yP (ft:Sl->Out (Bool×Sl)):Sl->Out (Bool×Sl):=λρ=>(ft ρ).bind λp=>.ok (!p.1,p.2)
theorem jj (h:PT X a (tT C own ft)):PT X (.UnaryOp .Not a pos) (tT C own (yP ft)):=by refine qa4 (qe9 h) λσ H Q ⟨F,ρ,p,h⟩=>⟨F,ρ,p,PoT.bindT h λF1 H1 b ρ1 r k h1=>h1 F1 H1 r .refl⟩
theorem qfD {e:Expr} {t t':TT} (h:PW X e t) (i:∀ σ H Q,t' σ H Q->t σ H Q):PW X e t':=⟨λw pins s σ H Q I hw=>h w pins s σ H Q I (i σ H Q hw)⟩
noncomputable def Xf (ft fu:Sl->Out (Bool×Sl)):Sl->Out (Bool×Sl):=λρ=>(ft ρ).bind λp=>if p.1=iH then fu p.2 else .ok (iF,p.2)
noncomputable def dOr (ft fu:Sl->Out (Bool×Sl)):Sl->Out (Bool×Sl):=λρ=>(ft ρ).bind λp=>if p.1=iH then .ok (iH,p.2) else fu p.2
theorem ki {op} (h:PT X a (tT C own ft)):PW X (.BoolOp op [a] pos) (tT C own ft):=by
 cases op;·exact qc5 h
 ·exact qe7 h
theorem xy (g:PT X a (tT C own ft)) (d:PW X (.BoolOp .And (b::rest) pos) (tT C own fu)):PW X (.BoolOp .And (a::b::rest) pos) (tT C own (Xf ft fu)):=by
 refine qfD (qe8 g d) λσ H Q ⟨F,ρ,p,h⟩=>⟨F,ρ,p,PoT.bindT h λF1 H1 k ρ1 r c h1=>?_⟩
 cases k with
 | true=>exact ⟨F1,ρ1,r,h1⟩
 | false=>exact h1 F1 H1 r .refl
theorem xW (g:PT X a (tT C own ft)) (d:PW X (.BoolOp .Or (b::rest) pos) (tT C own fu)):PW X (.BoolOp .Or (a::b::rest) pos) (tT C own (dOr ft fu)):=by
 refine qfD (qha g d) λσ H Q ⟨F,ρ,p,h⟩=>⟨F,ρ,p,PoT.bindT h λF1 H1 k ρ1 r c h1=>?_⟩
 cases k with
 | true=>exact h1 F1 H1 r .refl
 | false=>exact ⟨F1,ρ1,r,h1⟩
noncomputable def KA (fa fb:Sl->Out (D×Sl)):Sl->Out (D×Sl):=λρ=>(fa ρ).bind λp=>match p.1 with
 | .bl iH=>fb p.2
 | .bl iF=>.ok (.bl iF,p.2)
 | _=>.bad
noncomputable def qgQ (fa fb:Sl->Out (D×Sl)):Sl->Out (D×Sl):=λρ=>(fa ρ).bind λp=>match p.1 with
 | .bl iH=>.ok (.bl iH,p.2)
 | .bl iF=>fb p.2
 | _=>.bad
theorem KB {op} (h:PE X a (tE C own m f)):PE X (.BoolOp op [a] pos) (tE C own m f):=qfa h
theorem KC (g:PE X a (tE C own .sh fa)) (e:PE X (.BoolOp .And (b::rest) pos) (tE C own .sh fb)):PE X (.BoolOp .And (a::b::rest) pos) (tE C own .sh (KA fa fb)):=by
 refine jG (qfb g e) λσ H Q ⟨F,ρ,p,h⟩=>⟨F,ρ,p,Po.bind h λv F1 H1 d ρ1 r f c h1=>?_⟩
 cases d with
 | bl k=>
  have c:Is C.K F1 v (.bl k):=c;cases c;refine ⟨k,rfl,?_⟩;cases k with
  | true=>exact ⟨F1,ρ1,r,h1⟩
  | false=>exact h1 _ F1 H1 r .refl (.bl _)
 | _=>exact h1.elim
theorem qhC (g:PE X a (tE C own .sh fa)) (e:PE X (.BoolOp .Or (b::rest) pos) (tE C own .sh fb)):PE X (.BoolOp .Or (a::b::rest) pos) (tE C own .sh (qgQ fa fb)):=by
 refine jG (qhc g e) λσ H Q ⟨F,ρ,p,h⟩=>⟨F,ρ,p,Po.bind h λv F1 H1 d ρ1 r f c h1=>?_⟩
 cases d with
 | bl k=>
  have c:Is C.K F1 v (.bl k):=c;cases c;refine ⟨k,rfl,?_⟩;cases k with
  | true=>exact h1 _ F1 H1 r .refl (.bl _)
  | false=>exact ⟨F1,ρ1,r,h1⟩
 | _=>exact h1.elim
noncomputable def dIf (ft:Sl->Out (Bool×Sl)) (fa fb:Sl->Out (D×Sl)):Sl->Out (D×Sl):=λρ=>(ft ρ).bind λp=>if p.1=iH then fa p.2 else fb p.2
theorem ZE {t:Expr} (l:PT X t (tT C own ft)) (g:PE X a (tE C own ma fa)) (d:PE X b (tE C own mb fb)) (h1:ma≠.any:=by decide) (h2:mb≠.any:=by decide):PE X (.IfExp t a b pos) (tE C own .sh (dIf ft fa fb)):=by
 refine jG (qaR l (yN g h1) (yN d h2)) λσ H Q ⟨F,ρ,p,h⟩=>⟨F,ρ,p,Po.bindT h λF1 H1 k ρ1 r c h1=>?_⟩
 cases k with
 | true=>exact ⟨F1,ρ1,r,h1⟩
 | false=>exact ⟨F1,ρ1,r,h1⟩
noncomputable def ym (g g':D->D->Out D) (fa fb fc:Sl->Out (D×Sl)):Sl->Out (D×Sl):=λρ=>(fa ρ).bind λp=>(fb p.2).bind λq=>(g p.1 q.1).plain.bind λz=>match z with
 | .bl iH=>(fc q.2).bind λr=>(g' q.1 r.1).plain.bind λd=>.ok (d,r.2)
 | .bl iF=>.ok (.bl iF,q.2)
 | _=>.bad
theorem PoV.bind {o:Out D} {k:D->Out (D×Sl)} {Q R:VK} (a:Rep C.K own F H σ ρ) (h:Po C own m σ F H (o.plain.bind k) Q)
  (e:∀ v F1 H1 d,Rep C.K own F1 H1 σ ρ->Chg No F H F1 H1->MoIs C.K ma H F1 H1 v d->Po C own m σ F1 H1 (k d) Q->R v H1):PoV C ma F H o R:=by
 cases o with
 | ok d=>exact λv F1 H1 s c b=>e v F1 H1 d (a.grow c s) c b (Po.shift (show Po C own m σ F H (k d) Q from h) c.ofNo)
 | exc c=>exact h.elim
 | bad=>exact h.elim
theorem UE {Q:VK} (s:ma≠.any) (l:mb≠.any) (h:tE C own .sh (ym g g' fa fb fc) σ H Q):Ze (λx y H Q=>∃ F dx n,Same F H/\TopIs C.K F H x dx/\TopIs C.K F H y n/\PoV C .sh F H (g dx n) Q) (λx y H Q=>∃ F dx n,Same F H/\TopIs C.K F H x dx/\TopIs C.K F H y n/\PoV C .sh F H (g' dx n) Q)
   (tE C own ma fa) (tE C own mb fb) (tE C own mc fc) σ H Q:=by
 obtain ⟨F,ρ,u,h⟩:=h;refine ⟨F,ρ,u,Po.bind h λv F1 H1 d ρ1 i M q h1=>⟨F1,ρ1,i,Po.bind h1 λw L H2 e ρ2 f c2 j h2=>?_⟩⟩;have oa:∀ x,OA own σ x->H x≠none:=λx z=>(u.OA_there z).1;have o:∀ x,OA own σ x->H1 x≠none:=λx z=>(i.OA_there z).1;refine ⟨L,d,e,f.sub,(q.grow s c2 oa).top,j.top,PoV.bind (m:=.sh) f h2 λz t I D c G a h3=>?_⟩;cases D with
 | bl k=>
  have a:Is C.K t z (.bl k):=a;cases a;refine ⟨k,rfl,?_⟩;cases k with
  | true=>refine ⟨t,ρ2,c,Po.bind h3 λw' J N r A b E p B=>?_⟩;exact ⟨J,e,r,b.sub,((j.grow l (G.ofNo) o).grow l E o).top,p.top,PoV.of b B⟩
  | false=>exact h3 _ t I c .refl (.bl _)
 | _=>exact h3.elim
theorem UF (m:OpD X C .sh (compareOp op) g) (d:OpD X C .sh (compareOp op') g') (k:PE X a (tE C own ma fa)) (j:PE X b (tE C own mb fb)) (i:PE X c (tE C own mc fc)) (f:ma≠.any:=by decide) (l:mb≠.any:=by decide)
  (e:lastMarks [op,op'] [b,c]=false:=by with_unfolding_all rfl):PE X (.Compare a [op,op'] [b,c] pos) (tE C own .sh (ym g g' fa fb fc)):=jG (qaW m d k j i e) λ_ _ _ h=>UE f l h
theorem zZ (m:OpD X C .sh (compareOp op) g) (d:OpD X C .sh (compareOp op') g') (k:PE X a (tE C own ma fa)) (j:PE X b (tE C own mb fb)) (i:PE X c (tE C own mc fc)) (f:ma≠.any:=by decide) (l:mb≠.any:=by decide)
  (e:lastMarks [op,op'] [b,c]=false:=by with_unfolding_all rfl):PT X (.Compare a [op,op'] [b,c] pos) (tT C own (qP (ym g g' fa fb fc))):=qa4 (qaX m d k j i e) λ_ _ _ h=>UE f l (ZD h)
theorem ZF:OpR X (compareOp .LtE) (λx y H Q=>∃ i j,x=.str i/\y=.str j/\Q (.bl (!vB j i)) H):=by intro pins s σ H x y v u Q I d c h;obtain ⟨i,j,rfl,rfl,q⟩:=h;obtain ⟨t,rfl⟩:=d;obtain ⟨t',rfl⟩:=c;exact PySem.P.le_str (Uw I q (by simp [vB]))
noncomputable def leD:D->D->Out D
 | .int i,.int j=>.ok (.bl (decide (i<=j)))
 | .str x,.str y=>.ok (.bl (!vB y x))
 | _,_=>.bad
theorem Qk:OpD X C .sh (compareOp .LtE) leD:=by
 intro pins s σ H x y v u Q I d c h;obtain ⟨F,dx,a,b,t,ty,po⟩:=h;cases dx <;> try exact po.elim
 ·cases a <;> try exact po.elim
  obtain rfl:=t.int;obtain rfl:=ty.int;exact qho pins s σ H _ _ v u Q I d c ⟨_,_,rfl,rfl,po _ F H b .refl (.bl _)⟩
 ·cases a <;> try exact po.elim
  obtain ⟨rfl,_⟩:=t.str;obtain ⟨rfl,_⟩:=ty.str;exact ZF pins s σ H _ _ v u Q I d c ⟨_,_,rfl,rfl,po _ F H b .refl (.bl _)⟩
noncomputable def geD:D->D->Out D:=Kf λi j=>.ok (.bl (decide (j<=i)))
theorem qdt:OpD X C .sh (compareOp .GtE) geD:=Zw qhp λ_ _ _=>.bl _
noncomputable def qdu:D->D->Out D
 | .non,.non=>.ok (.bl iH)
 | .raw _,.non=>.bad
 | _,.non=>.ok (.bl iF)
 | _,_=>.bad
noncomputable def yi:D->D->Out D
 | .non,.non=>.ok (.bl iF)
 | .raw _,.non=>.bad
 | _,.non=>.ok (.bl iH)
 | _,_=>.bad
theorem TopIs.notN (h:TopIs K F H v d) (h1:d≠.non) (h2:∀ u,d≠.raw u):v≠.non:=by
 rintro rfl;rcases h with h | ⟨a,e,_⟩
 ·cases h;·exact h1 rfl
  ·exact h2 _ rfl
 ·cases e
theorem qcs:OpD X C .sh (compareOp .Is) qdu:=by
 intro pins s σ H x y v u Q I r c h;obtain ⟨F,dx,d,b,t,ty,po⟩:=h;have B:d=.non:=by cases d <;> first | rfl | (cases dx <;> exact po.elim)
 subst B;obtain rfl:=ty.non;refine qfm pins s σ H x .non v u Q I r c ⟨rfl,?_⟩;cases dx with
 | non=>obtain rfl:=t.non; exact po _ F H b .refl (.bl _)
 | raw _=>exact po.elim
 | _=>rw [decide_eq_false (t.notN (by intro z; cases z) (by intro _ z; cases z))]; exact po _ F H b .refl (.bl _)
theorem Ja:OpD X C .sh (compareOp .IsNot) yi:=by
 intro pins s σ H x y v u Q I r c h;obtain ⟨F,dx,d,b,t,ty,po⟩:=h;have B:d=.non:=by cases d <;> first | rfl | (cases dx <;> exact po.elim)
 subst B;obtain rfl:=ty.non;refine qda pins s σ H x .non v u Q I r c ⟨rfl,?_⟩;cases dx with
 | non=>obtain rfl:=t.non; exact po _ F H b .refl (.bl _)
 | raw _=>exact po.elim
 | _=>rw [decide_eq_false (t.notN (by intro z; cases z) (by intro _ z; cases z))]; exact po _ F H b .refl (.bl _)
end
inductive Fl where
 | nx | rt (d:D) | bk | ct
structure Nx (C:Ct) (own own':List Nat) (σ:St) (F H:Hp) (ρ':Sl) (σ':St) (F' H':Hp):Prop where
 rep:Rep C.K own' F' H' σ' ρ'
 chg:Chg (OA own σ) F H F' H'
 oa:∀ b,OA own' σ' b->OA own σ b\/H b=iD
 io:∀ i∈C.io,σ'[i]?=σ[i]?
def PoS (C:Ct) (own own':List Nat) (σ:St) (F H:Hp) (r:Out (Fl×Sl)) (D:Ends):Prop:=match r with
 | .ok (.nx,ρ')=>∀ σ' F' H',Nx C own own' σ F H ρ' σ' F' H'->D.nx σ' H'
 | .ok (.rt d,ρ')=>∀ v σ' F' H',Same F' H'->XS C.K C.io F' H' σ' ρ'->Chg (OA own σ) F H F' H'->(∀ i∈C.io,σ'[i]?=σ[i]?)->MoIs C.K C.mr H F' H' v d->D.rt v H'
 | .ok (.bk,ρ')=>∀ σ' F' H',Nx C own C.ol σ F H ρ' σ' F' H'->D.bk σ' H'
 | .ok (.ct,ρ')=>∀ σ' F' H',Nx C own C.ol σ F H ρ' σ' F' H'->D.ct σ' H'
 | .exc c ρ'=>∀ F' H',Same F' H'->XS C.K C.ox F' H' σ ρ'->Chg (OA own σ) F H F' H'->C.E (C.cv c) iD H'
 | .bad=>False
def tSt (C:Ct) (own own':List Nat) (f:Sl->Out (Fl×Sl)):TS:=λD σ H=>∃ F ρ,Rep C.K own F H σ ρ/\PoS C own own' σ F H (f ρ) D
variable {o1 o2 o3:List Nat} {σ1:St} {ρ1:Sl}
theorem Nx.then {c:St} {d H2:Hp} {ρ2:Sl} (a:Nx C o1 o2 σ F H ρ1 σ1 F1 H1) (b:Nx C o2 o3 σ1 F1 H1 ρ2 c d H2):Nx C o1 o3 σ F H ρ2 c d H2 where
 rep:=b.rep
 chg:=a.chg.trans b.chg a.oa
 oa:=λx h=>by
  rcases b.oa x h with z | z;·exact a.oa x z
  ·refine .inr ?_;cases q:H x with
   | none=>rfl
   | some o=>exact absurd z (a.chg.stay x (by rw [q]; simp))
 io:=λi hi=>(b.io i hi).trans (a.io i hi)
theorem PoS.shift {r:Out (Fl×Sl)} {D:Ends} (h:PoS C o1 o3 σ F H r D) (a:Nx C o1 o2 σ F H ρ1 σ1 F1 H1):PoS C o2 o3 σ1 F1 H1 r D:=by
 cases r with
 | ok p=>
  obtain ⟨l,ρ'⟩:=p;cases l with
  | nx=>exact λσ' F' H' n=>h σ' F' H' (a.then n)
  | rt d=>exact λv σ' F' H' s io c e o=>h v σ' F' H' s io (a.chg.trans c a.oa) (λi hi=>(e i hi).trans (a.io i hi)) (MoIs.back (Ha:=H1) a.chg o)
  | bk=>exact λσ' F' H' n=>h σ' F' H' (a.then n)
  | ct=>exact λσ' F' H' n=>h σ' F' H' (a.then n)
 | exc c=>exact λF' H' s io T=>h F' H' s (λi hi=>by obtain ⟨d,b,e1,f,E⟩:=io i hi;exact ⟨d,b,e1,by rw [<-a.io i (C.oxs i hi)]; exact f,E⟩) (a.chg.trans T a.oa)
 | bad=>exact h.elim
theorem Nx.ofE (r:Rep C.K own F1 H1 σ ρ1) (c:Chg (OA own σ) F H F1 H1):Nx C own own σ F H ρ1 σ F1 H1:=⟨r,c,λ_ h=>.inl h,λ_ _=>rfl⟩
variable {own':List Nat}
theorem PoS.bindE {m:Mo} {k:D×Sl->Out (Fl×Sl)} {D:Ends} {R:VK} (hp:PoS C own own' σ F H (o.bind k) D)
  (h:∀ v F1 H1 d ρ1,Rep C.K own F1 H1 σ ρ1->Chg (OA own σ) F H F1 H1->MoIs C.K m H F1 H1 v d->PoS C own own' σ F1 H1 (k (d,ρ1)) D->R v H1):Po C own m σ F H o R:=by
 cases o with
 | ok p=>obtain ⟨d,ρ1⟩:=p;exact λv F1 H1 a c b=>h v F1 H1 d ρ1 a c b (PoS.shift (show PoS C own own' σ F H (k (d,ρ1)) D from hp) (.ofE a c))
 | exc x=>exact hp
 | bad=>exact hp.elim
theorem PoS.bindT {o:Out (Bool×Sl)} {k:Bool×Sl->Out (Fl×Sl)} {D:Ends} {R:Bool->Hp->Prop} (hp:PoS C own own' σ F H (o.bind k) D)
  (h:∀ F1 H1 b ρ1,Rep C.K own F1 H1 σ ρ1->Chg (OA own σ) F H F1 H1->PoS C own own' σ F1 H1 (k (b,ρ1)) D->R b H1):PoT C own σ F H o R:=by
 cases o with
 | ok p=>obtain ⟨d,ρ1⟩:=p;exact λF1 H1 a c=>h F1 H1 d ρ1 a c (PoS.shift (show PoS C own own' σ F H (k (d,ρ1)) D from hp) (.ofE a c))
 | exc x=>exact hp
 | bad=>exact hp.elim
variable {b a:Addr} {t':TS} {st:Stmt} {fe:Sl->Out (D×Sl)} {i:Nat} {x:Str} {pos':Pos}
section
variable {sts rest:List Stmt} {f g:Sl->Out (Fl×Sl)}
theorem KG {t:TS} (h:PS X st t) (i:∀ D σ H,t' D σ H->t D σ H):PS X st t':=⟨λpins s σ H D I hw=>h pins s σ H D I (i D σ H hw)⟩
theorem ZH {t:TS} (h:PSs X sts t) (i:∀ D σ H,t' D σ H->t D σ H):PSs X sts t':=⟨λpins s σ H D I hw=>h pins s σ H D I (i D σ H hw)⟩
noncomputable def jf:Sl->Out (Fl×Sl):=λρ=>.ok (.nx,ρ)
noncomputable def qT (f g:Sl->Out (Fl×Sl)):Sl->Out (Fl×Sl):=λρ=>(f ρ).bind λp=>match p.1 with
 | .nx=>g p.2
 | fl=>.ok (fl,p.2)
theorem Nx.refl (r:Rep C.K own F H σ ρ):Nx C own own σ F H ρ σ F H:=.ofE r .refl
theorem qK:PSs X [] (tSt C own own jf):=ZH XY λD σ H ⟨F,ρ,a,h⟩=>h σ F H (.refl a)
theorem qfE {D:Ends} (h:tSt C o1 o3 (qT f g) D σ H):tSt C o1 o2 f { D with nx:=tSt C o2 o3 g D } σ H:=by
 obtain ⟨F,ρ,a,h⟩:=h;refine ⟨F,ρ,a,?_⟩;unfold qT at h;cases q:f ρ with
 | ok p=>
  rw [q] at h;obtain ⟨l,ρ1⟩:=p;cases l with
  | nx=>exact λσ' F' H' n=>⟨F',ρ1,n.rep,PoS.shift (show PoS C o1 o3 σ F H (g ρ1) D from h) n⟩
  | rt d=>exact h
  | bk=>exact h
  | ct=>exact h
 | exc c=>rw [q] at h; exact h
 | bad=>rw [q] at h; exact h.elim
theorem qg (h1:PS X st (tSt C o1 o2 f)) (h2:PSs X rest (tSt C o2 o3 g)):PSs X (st::rest) (tSt C o1 o3 (qT f g)):=ZH (qaS h1 h2) λD σ H h=>qfE h
theorem qm (h1:PS X st (tSt C o1 o2 f)):PSs X [st] (tSt C o1 o2 f):=qc6 h1
theorem Rep.weak {K:Frag} {F H:Hp} {σ:St} {ρ:Sl}:∀ (drop:List Nat) {own own':List Nat},(∀ i,i∈own'↔i∈own/\i∉drop)->Rep K own F H σ ρ->∃ F',Rep K own' F' H σ ρ/\Chg (OA own σ) F H F' H
 | [],own,own',hs,rp=>⟨F,⟨rp.sub,rp.len,λi d hi=>rp.val i d λz=>hi ((hs i).mpr ⟨z,by simp⟩),λi d hi=>rp.ow i d ((hs i).mp hi).1,λi hi=>rp.opn i ((hs i).mp hi).1,λi j a hi G=>rp.dis i j a ((hs i).mp hi).1 ((hs j).mp G).1⟩,.refl⟩
 | k::r,own,own',hs,rp=>by
  obtain ⟨F1,c,m⟩:=Rep.weak r (own:=own) (own':=own.filter λi=>decide (i∉r)) (λi=>by simp) rp;by_cases f:k∈own/\k∉r
  ·obtain ⟨d,hd⟩:=c.opn k (by simp [f.1,f.2]);obtain ⟨a,h1,h2,h3⟩:=c.ow k d (by simp [f.1,f.2]) hd;obtain ⟨u,hu⟩:∃ u,H a=iB u:=by
    cases q:H a with
    | none=>exact absurd q h3.there
    | some u=>exact ⟨u,rfl⟩
   have gr:Same F1 (upd F1 a u):=λb w e=>by rw [qB (qH e h2)]; exact e
   refine ⟨upd F1 a u,⟨λb w e=>?_,c.len,λi d' hi e=>?_,λi d' hi e=>?_,λi hi=>?_,λi j b hi G=>?_⟩,?_⟩
   ·by_cases q:b=a;·subst q; rw [qt] at e; cases e; exact hu
    ·rw [qB q] at e; exact c.sub b w e
   ·by_cases q:i=k
    ·subst q;rw [hd] at e; cases e;refine ⟨_,h1,?_⟩;cases d with
     | lst ds=>obtain ⟨xs,e,t⟩:=h3; rw [hu] at e; cases e; exact .lst (.inl (.inl qt)) (t.mono gr)
     | dct ds=>obtain ⟨xs,e,t⟩:=h3; rw [hu] at e; cases e; exact .dct qt (t.mono gr)
     | ins C fs=>obtain ⟨dx,xs,e,t⟩:=h3; rw [hu] at e; cases e; exact .ins qt (t.mono gr)
     | at_ b ds=>obtain ⟨D,xs,e,t⟩:=h3; rw [hu] at e; cases e; subst D; exact .at_ (.inl (.inl qt)) (t.mono gr)
     | _=>exact h3.elim
    ·obtain ⟨v,n,o⟩:=c.val i d' (λz=>by simp at z; exact hi ((hs i).mpr ⟨z.1,by simp [q,z.2]⟩)) e;exact ⟨v,n,o.mono gr⟩
   ·have h:=(hs i).mp hi;have p:i≠k:=λz=>h.2 (by simp [z]);have l:i∉r:=λz=>h.2 (by simp [z]);obtain ⟨b,n,o,x⟩:=c.ow i d' (by simp [h.1,l]) e;refine ⟨b,n,?_,x.grow gr λ_ z=>z⟩;have y:b≠a:=λz=>by subst z; exact p (c.dis i k b (by simp [h.1,l]) (by simp [f.1,f.2]) n h1)
    rw [qB y]; exact o
   ·have h:=(hs i).mp hi;exact c.opn i (by simp [h.1]; exact λz=>h.2 (by simp [z]))
   ·have h:=(hs i).mp hi;have g:=(hs j).mp G;exact c.dis i j b (by simp [h.1]; exact λz=>h.2 (by simp [z])) (by simp [g.1]; exact λz=>g.2 (by simp [z]))
   ·refine ⟨m.keep,m.stay,m.grow.trans gr,λb s=>?_⟩;by_cases q:b=a;·exact .inr (.inr ⟨k,f.1,by rw [q]; exact h1⟩)
    ·rw [qB q] at s; exact m.new b s
  ·refine ⟨F1,⟨c.sub,c.len,λi d hi=>c.val i d λz=>?_,λi d hi=>c.ow i d ?_,λi hi=>c.opn i ?_,λi j a hi G=>c.dis i j a ?_ ?_⟩,m⟩;·simp at z;refine hi ((hs i).mpr ⟨z.1,?_⟩);simp only [ae,not_or];exact ⟨λq=>f (by subst q; exact z),z.2⟩
   all_goals
    first
     | (have q:=(hs _).mp hi; simp only [dt,decide_eq_true_eq]; exact ⟨q.1,λz=>q.2 (by simp [z])⟩)
     | (have q:=(hs _).mp G; simp only [dt,decide_eq_true_eq]; exact ⟨q.1,λz=>q.2 (by simp [z])⟩)
theorem OA.sub (h:∀ i∈own',i∈own) (q:OA own' σ b):OA own σ b:=let ⟨i,hi,e⟩:=q; ⟨i,h i hi,e⟩
theorem Nx.drop (drop:List Nat) (h:∀ i,i∈own'↔i∈own/\i∉drop) (r:Rep C.K own F H σ ρ):∃ F',Nx C own own' σ F H ρ σ F' H:=by obtain ⟨F',a,c⟩:=Rep.weak drop h r;exact ⟨F',a,c,λb q=>.inl (OA.sub (λi hi=>((h i).mp hi).1) q),λ_ _=>rfl⟩
noncomputable def uf (own drop:List Nat):List Nat:=own.filter λi=>decide (i∉drop)
theorem jg {own drop:List Nat} (i:Nat):i∈uf own drop↔i∈own/\i∉drop:=by simp [uf]
theorem jV (drop:List Nat) (h:PSs X sts (tSt C (uf own drop) o2 f)):PSs X sts (tSt C own o2 f):=ZH h λD σ H ⟨F,ρ,a,h⟩=>by obtain ⟨F',n⟩:=Nx.drop (C:=C) drop (λi=>jg (own:=own) i) a;exact ⟨F',ρ,n.rep,h.shift n⟩
noncomputable def sIf (ft:Sl->Out (Bool×Sl)) (f g:Sl->Out (Fl×Sl)):Sl->Out (Fl×Sl):=λρ=>(ft ρ).bind λp=>if p.1=iH then f p.2 else g p.2
theorem qW {a b:List Stmt} (d:PT X c (tT C own ft)) (i:PSs X a (tSt C own own' f)) (e:PSs X b (tSt C own own' g)):PS X (.If c a b pos) (tSt C own own' (sIf ft f g)):=by
 refine KG (qhf d i e) λD σ H ⟨F,ρ,p,h⟩=>⟨F,ρ,p,PoS.bindT h λF1 H1 k ρ1 r j h1=>?_⟩
 cases k with
 | true=>exact ⟨F1,ρ1,r,h1⟩
 | false=>exact ⟨F1,ρ1,r,h1⟩
noncomputable def vj (fe:Sl->Out (D×Sl)):Sl->Out (Fl×Sl):=λρ=>(fe ρ).bind λp=>.ok (.nx,p.2)
theorem jF (i:PE X e (tE C own m fe)) (s:swapsWith e iD pos.line X.env=pure false:=by rfl):PS X (.Expr e pos) (tSt C own own (vj fe)):=by refine KG (qc7 i s) λD σ H ⟨F,ρ,r,h⟩=>⟨F,ρ,r,PoS.bindE h λv F1 H1 d ρ1 a k c h1=>h1 σ F1 H1 (.refl a)⟩
noncomputable def jt (fe:Sl->Out (D×Sl)):Sl->Out (Fl×Sl):=λρ=>(fe ρ).bind λp=>.ok (.rt p.1,p.2)
theorem qdv (b:PE X e (tE C own C.mr fe)) (o:∀ i∈C.io,i∈own:=by exact um rfl):PS X (.Return (iB e) pos) (tSt C own own' (jt fe)):=by
 refine KG (qfc b) λD σ H ⟨F,ρ,r,h⟩=>⟨F,ρ,r,?_⟩
 unfold jt at h;cases q:fe ρ with
 | ok p=>rw [q] at h;obtain ⟨d,ρ1⟩:=p;exact λv F1 H1 a k m=>h v σ F1 H1 a.sub (a.ioIs o) k (λ_ _=>rfl) m
 | exc c=>rw [q] at h; exact h
 | bad=>rw [q] at h; exact h.elim
theorem qp (h:PE X e (tE C own m fe)) (c:m≠.any:=by decide) (f:C.mr=.sh:=by rfl) (o:∀ i∈C.io,i∈own:=by exact um rfl):PS X (.Return (iB e) pos) (tSt C own own' (jt fe)):=qdv (by rw [f]; exact yN h c) o
theorem Rep.put (r:Rep K own F H σ ρ) (hi:i < ρ.length) (is:Is K F v d):Rep K (uf own [i]) F H (σ.set i (iB v)) (ρ.set i (iB d)) where
 sub:=r.sub
 len:=by simp [r.len]
 val:=λj d' G e=>by
  by_cases q:j=i;·subst q;rw [aG hi] at e;cases e;exact ⟨v,aG (by rw [r.len]; exact hi),is⟩
  ·rw [ap (ba q)] at e;obtain ⟨w,h1,h2⟩:=r.val j d' (λz=>G ((jg j).mpr ⟨z,by simp [q]⟩)) e;exact ⟨w,by rw [ap (ba q)]; exact h1,h2⟩
 ow:=λj d' G e=>by have g:=(jg j).mp G;have q:j≠i:=λz=>g.2 (by simp [z]);rw [ap (ba q)] at e;obtain ⟨a,h1,h2⟩:=r.ow j d' g.1 e;exact ⟨a,by rw [ap (ba q)]; exact h1,h2⟩
 opn:=λj G=>by have g:=(jg j).mp G;have q:j≠i:=λz=>g.2 (by simp [z]);obtain ⟨d',e⟩:=r.opn j g.1;exact ⟨d',by rw [ap (ba q)]; exact e⟩
 dis:=λj k a G c e1 b=>by have g:=(jg j).mp G;have h:=(jg k).mp c;rw [ap (λz=>g.2 (by simp [z]))] at e1;rw [ap (λz=>h.2 (by simp [z]))] at b;exact r.dis j k a g.1 h.1 e1 b
theorem OA.put (h:OA (uf own [i]) (σ.set i (iB v)) b):OA own σ b:=by obtain ⟨j,G,e⟩:=h;have g:=(jg j).mp G;rw [ap (λz=>g.2 (by simp [z]))] at e;exact ⟨j,g.1,e⟩
noncomputable def jO (i:Nat) (fe:Sl->Out (D×Sl)):Sl->Out (Fl×Sl):=λρ=>(fe ρ).bind λp=>if i < p.2.length then .ok (.nx,p.2.set i (iB p.1)) else .bad
theorem qN (l:X.N.Nodup) (hi:X.N[i]?=iB x) (hx:Loc X.env.scope x) (k:PE X e (tE C own m fe)) (f:m≠.any:=by decide) (o:i∉C.io:=by exact Uy rfl) (s:swapsWith e (iB (.Name x pos')) pos.line X.env=pure false:=by rfl)
  (g:X.fn x=iH\/X.env.scope.names.lookup x=iB .local:=by first | exact .inl rfl | exact .inr rfl):PS X (.Assign [.Name x pos'] e pos) (tSt C own (uf own [i]) (jO i fe)):=by
 refine KG (qcp l hi hx (yN k f) s g) λD σ H ⟨F,ρ,r,h⟩=>⟨F,ρ,r,PoS.bindE h λv F1 H1 d ρ1 a n c h1=>?_⟩
 by_cases q:i < ρ1.length;·have h1:PoS C own (uf own [i]) σ F1 H1 (if i < ρ1.length then .ok (.nx,ρ1.set i (iB d)) else .bad) D:=h1;rw [if_pos q] at h1;exact h1 _ F1 H1 ⟨a.put q c,.refl,λb z=>.inl (OA.put z),λj G=>ap λz=>o (by rw [z]; exact G)⟩
 ·have h1:PoS C own (uf own [i]) σ F1 H1 (if i < ρ1.length then .ok (.nx,ρ1.set i (iB d)) else .bad) D:=h1;rw [if_neg q] at h1;exact h1.elim
theorem Rep.putO (r:Rep K own F H σ ρ) (hi:i < ρ.length) (E:F a=iD) (n:¬OA own σ a) (o:OwnIs K F H a d):Rep K (i::uf own [i]) F H (σ.set i (iB (.ref a))) (ρ.set i (iB d)) where
 sub:=r.sub
 len:=by simp [r.len]
 val:=λj d' G e=>by have q:j≠i:=λz=>G (by simp [z]);rw [ap (ba q)] at e;obtain ⟨w,h1,h2⟩:=r.val j d' (λz=>G (ac _ ((jg j).mpr ⟨z,by simp [q]⟩))) e;exact ⟨w,by rw [ap (ba q)]; exact h1,h2⟩
 ow:=λj d' G e=>by
  by_cases q:j=i;·subst q;rw [aG hi] at e;cases e;exact ⟨a,aG (by rw [r.len]; exact hi),E,o⟩
  ·have g:=(jg j).mp ((ae.mp G).resolve_left q);rw [ap (ba q)] at e;obtain ⟨b,h1,h2⟩:=r.ow j d' g.1 e;exact ⟨b,by rw [ap (ba q)]; exact h1,h2⟩
 opn:=λj G=>by
  by_cases q:j=i;·subst q; exact ⟨d,aG hi⟩
  ·have g:=(jg j).mp ((ae.mp G).resolve_left q);obtain ⟨d',e⟩:=r.opn j g.1;exact ⟨d',by rw [ap (ba q)]; exact e⟩
 dis:=λj k b G p e1 f=>by
  have m:i < σ.length:=by rw [r.len]; exact hi
  by_cases l:j=i
  ·by_cases c:k=i;·rw [l,c]
   ·subst l;have h:=(jg k).mp ((ae.mp p).resolve_left c);rw [aG m] at e1;cases e1;rw [ap (ba c)] at f;exact absurd ⟨k,h.1,f⟩ n
  ·have g:=(jg j).mp ((ae.mp G).resolve_left l);by_cases c:k=i;·subst c;rw [aG m] at f;cases f;rw [ap (ba l)] at e1;exact absurd ⟨j,g.1,e1⟩ n
   ·have h:=(jg k).mp ((ae.mp p).resolve_left c);rw [ap (ba l)] at e1;rw [ap (ba c)] at f;exact r.dis j k b g.1 h.1 e1 f
theorem kj (u:X.N.Nodup) (hi:X.N[i]?=iB x) (hx:Loc X.env.scope x) (t:PE X e (tE C own .fr fe)) (f:i∉C.io:=by exact Uy rfl) (s:swapsWith e (iB (.Name x pos')) pos.line X.env=pure false:=by rfl)
  (n:X.fn x=iH\/X.env.scope.names.lookup x=iB .local:=by first | exact .inl rfl | exact .inr rfl):PS X (.Assign [.Name x pos'] e pos) (tSt C own (i::uf own [i]) (jO i fe)):=by
 refine KG (qcp u hi hx t s n) λD σ H ⟨F,ρ,k,h⟩=>⟨F,ρ,k,?_⟩
 unfold jO at h;cases q:fe ρ with
 | ok p=>
  rw [q] at h;obtain ⟨d,ρ1⟩:=p;intro v F1 H1 r w m;obtain ⟨a,rfl,h0,E,o⟩:=m;by_cases z:i < ρ1.length
  ·have h1:PoS C own (i::uf own [i]) σ F H (if i < ρ1.length then .ok (.nx,ρ1.set i (iB d)) else .bad) D:=h;rw [if_pos z] at h1;refine h1 _ F1 H1 ⟨r.putO z E (λy=>(k.OA_there y).1 h0) o,w,λb y=>?_,λj G=>ap λy=>f (by rw [y]; exact G)⟩;obtain ⟨j,G,e⟩:=y;by_cases l:j=i;·subst l;rw [aG (by rw [r.len]; exact z)] at e;cases e;exact .inr h0
   ·have g:=(jg j).mp ((ae.mp G).resolve_left l);rw [ap (ba l)] at e;exact .inl ⟨j,g.1,e⟩
  ·have h1:PoS C own (i::uf own [i]) σ F H (if i < ρ1.length then .ok (.nx,ρ1.set i (iB d)) else .bad) D:=h;rw [if_neg z] at h1;exact h1.elim
 | exc c=>rw [q] at h; exact h
 | bad=>rw [q] at h; exact h.elim
end
inductive AK where
 | vl | sl (i:Nat) | fr
 deriving DecidableEq
def ArgV (K:Frag) (H0 F H:Hp) (σ:St):List AK->List V->List D->Prop
 | [],[],[]=>True
 | .vl::as,v::vs,d::ds=>Is K F v d/\ArgV K H0 F H σ as vs ds
 | .sl i::as,v::vs,d::ds=>σ[i]?=iB (iB v)/\d=.non/\ArgV K H0 F H σ as vs ds
 | .fr::as,v::vs,d::ds=>MoIs K .fr H0 F H v d/\ArgV K H0 F H σ as vs ds
 | _,_,_=>False
variable {H0 F' H':Hp}
theorem ArgV.grow {A:Addr->Prop} (c:Chg A F H F' H') (hA:∀ x,A x->H0 x≠iD):∀ {as:List AK} {vs:List V} {ds:List D},ArgV K H0 F H σ as vs ds->ArgV K H0 F' H' σ as vs ds
 | [],[],[],h=>trivial
 | .vl::as,v::vs,d::ds,h=>⟨h.1.mono c.grow,ArgV.grow c hA h.2⟩
 | .sl i::as,v::vs,d::ds,h=>⟨h.1,h.2.1,ArgV.grow c hA h.2.2⟩
 | .fr::as,v::vs,d::ds,h=>⟨h.1.grow (by decide) c hA,ArgV.grow c hA h.2⟩
 | [],_::_,_,h=>h.elim
 | [],[],_::_,h=>h.elim
 | .vl::_,[],_,h=>h.elim
 | .vl::_,_::_,[],h=>h.elim
 | .sl _::_,[],_,h=>h.elim
 | .sl _::_,_::_,[],h=>h.elim
 | .fr::_,[],_,h=>h.elim
 | .fr::_,_::_,[],h=>h.elim
theorem ArgV.back {A:Addr->Prop} {F0:Hp} (c:Chg A F0 H0 F1 H1):∀ {as:List AK} {vs:List V} {ds:List D},ArgV K H1 F H σ as vs ds->ArgV K H0 F H σ as vs ds
 | [],[],[],h=>trivial
 | .vl::as,v::vs,d::ds,h=>⟨h.1,ArgV.back c h.2⟩
 | .sl i::as,v::vs,d::ds,h=>⟨h.1,h.2.1,ArgV.back c h.2.2⟩
 | .fr::as,v::vs,d::ds,h=>⟨MoIs.back (Ha:=H1) c h.1,ArgV.back c h.2⟩
 | [],_::_,_,h=>h.elim
 | [],[],_::_,h=>h.elim
 | .vl::_,[],_,h=>h.elim
 | .vl::_,_::_,[],h=>h.elim
 | .sl _::_,[],_,h=>h.elim
 | .sl _::_,_::_,[],h=>h.elim
 | .fr::_,[],_,h=>h.elim
 | .fr::_,_::_,[],h=>h.elim
def PoA (C:Ct) (own:List Nat) (as:List AK) (σ:St) (F H:Hp) (r:Out (List D×Sl)) (Q:List V->Hp->Prop):Prop:=match r with
 | .ok (ds,ρ')=>∀ vs F' H',Rep C.K own F' H' σ ρ'->Chg (OA own σ) F H F' H'->ArgV C.K H F' H' σ as vs ds->Q vs H'
 | .exc c ρ'=>∀ F' H',Same F' H'->XS C.K C.ox F' H' σ ρ'->Chg (OA own σ) F H F' H'->C.E (C.cv c) iD H'
 | .bad=>False
def tAr (C:Ct) (own:List Nat) (as:List AK) (f:Sl->Out (List D×Sl)):TA:=λσ H Q=>∃ F ρ,Rep C.K own F H σ ρ/\PoA C own as σ F H (f ρ) Q
variable {as:List AK}
theorem PoA.bindV {ma:Mo} {k:D×Sl->Out (List D×Sl)} {Q:List V->Hp->Prop} {R:VK} (hp:PoA C own as σ F H (o.bind k) Q)
  (h:∀ v F1 H1 d ρ1,Rep C.K own F1 H1 σ ρ1->Chg (OA own σ) F H F1 H1->MoIs C.K ma H F1 H1 v d->PoA C own as σ F H (k (d,ρ1)) Q->R v H1):Po C own ma σ F H o R:=by
 cases o with
 | ok p=>obtain ⟨d,ρ1⟩:=p;exact λv F1 H1 a c m=>h v F1 H1 d ρ1 a c m hp
 | exc x=>exact hp
 | bad=>exact hp.elim
theorem Po.bindA {as:List AK} {o:Out (List D×Sl)} {k:List D×Sl->Out (D×Sl)} {Q:VK} {R:List V->Hp->Prop} (hp:Po C own m σ F H (o.bind k) Q)
  (h:∀ vs F1 H1 ds ρ1,Rep C.K own F1 H1 σ ρ1->Chg (OA own σ) F H F1 H1->ArgV C.K H F1 H1 σ as vs ds->Po C own m σ F1 H1 (k (ds,ρ1)) Q->R vs H1):PoA C own as σ F H o R:=by
 cases o with
 | ok p=>obtain ⟨d,ρ1⟩:=p;exact λvs F1 H1 a c v=>h vs F1 H1 d ρ1 a c v (Po.shift (show Po C own m σ F H (k (d,ρ1)) Q from hp) c)
 | exc x=>exact hp
 | bad=>exact hp.elim
noncomputable def qG:Sl->Out (List D×Sl):=λρ=>.ok ([],ρ)
noncomputable def qc (fe:Sl->Out (D×Sl)) (fr:Sl->Out (List D×Sl)):Sl->Out (List D×Sl):=λρ=>(fe ρ).bind λp=>(fr p.2).bind λq=>.ok (p.1::q.1,q.2)
noncomputable def ug (fr:Sl->Out (List D×Sl)):Sl->Out (List D×Sl):=λρ=>(fr ρ).bind λq=>.ok (D.non::q.1,q.2)
variable {es:List Expr} {p:Addr} {u:HO}
section
variable {fr:Sl->Out (List D×Sl)}
theorem qdw {t t':TA} (h:PA X es t) (i:∀ σ H Q,t' σ H Q->t σ H Q):PA X es t':=⟨λpos pins s σ H Q I hw=>h pos pins s σ H Q I (i σ H Q hw)⟩
theorem ql:PA X [] (tAr C own [] qG):=qdw jE λσ H Q ⟨F,ρ,a,h⟩=>h [] F H a .refl trivial
theorem KH {a:AK} {Q:List V->Hp->Prop} {v:V} (h:∀ x,OA own σ x->H x≠iD) (e:Rep C.K own F1 H1 σ ρ1) (k:Chg (OA own σ) F H F1 H1) (hp:PoA C own (a::as) σ F H ((fr ρ1).bind λq=>.ok (d::q.1,q.2)) Q)
  (g:∀ b H2 vs ds,Chg (OA own σ) F1 H1 b H2->ArgV C.K H b H2 σ as vs ds->ArgV C.K H b H2 σ (a::as) (v::vs) (d::ds)):tAr C own as fr σ H1 λxs H2=>Q (v::xs) H2:=by
 refine ⟨F1,ρ1,e,?_⟩;cases q:fr ρ1 with
 | ok p=>rw [q] at hp;obtain ⟨ds,ρ2⟩:=p;exact λvs b H2 r c2 f=>hp (v::vs) b H2 r (k.trans' c2) (g b H2 vs ds c2 (ArgV.back k f))
 | exc c=>rw [q] at hp; exact λF' H' s io T=>hp F' H' s io (k.trans' T)
 | bad=>rw [q] at hp; exact hp.elim
theorem qb (g:PE X e (tE C own m fe)) (f:PA X es (tAr C own as fr)) (b:m≠.any:=by decide) (s:starEach (e::es) X.env=(iF,eval e X.env)::starEach es X.env:=by exact jT rfl):PA X (e::es) (tAr C own (.vl::as) (qc fe fr)):=by
 refine qdw (qO (yN g b) f s) λσ H Q ⟨F,ρ,r,h⟩=>⟨F,ρ,r,PoA.bindV h λv F1 H1 d ρ1 a k c h1=>?_⟩
 exact KH (λx z=>(r.OA_there z).1) a k h1 λj H2 vs ds c2 i=>⟨Is.mono c2.grow c,i⟩
theorem jP {px:Pos} (e:X.N[i]?=iB x) (c:Vis X.env.scope x) (m:i∈own) (f:PA X es (tAr C own as fr)) (s:starEach (.Name x px::es) X.env=(iF,eval (.Name x px) X.env)::starEach es X.env:=by rfl)
  (hd:(x == ("__debug__":Str))=false:=by decide) (b:(x == ("__classdict__":Str))=false:=by decide):PA X (.Name x px::es) (tAr C own (.sl i::as) (ug fr)):=by
 refine qdw (qO (xT e c hd b) f s) λσ H Q ⟨F,ρ,r,h⟩=>?_;obtain ⟨d,hd⟩:=r.opn i m;obtain ⟨a,h1,h2,h3⟩:=r.ow i d m hd;exact ⟨_,h1,KH (λx z=>(r.OA_there z).1) r .refl h λg H2 vs ds c2 v=>⟨h1,rfl,v⟩⟩
theorem ArgV.isL:∀ {as:List AK} {vs:List V} {ds:List D},(as.all λa=>decide (a=.vl))=iH->ArgV K H0 F H σ as vs ds->IsL K F vs ds
 | [],[],[],_,_=>.nil
 | .vl::as,v::vs,d::ds,h,a=>.cons a.1 (ArgV.isL (by simpa using h) a.2)
 | .sl i::as,_,_,h,a=>by simp at h
 | .fr::as,_,_,h,a=>by simp at h
 | [],_::_,_,_,h=>h.elim
 | [],[],_::_,_,h=>h.elim
 | .vl::_,[],_,_,h=>h.elim
 | .vl::_,_::_,[],_,h=>h.elim
noncomputable def zq (fr:Sl->Out (List D×Sl)):Sl->Out (D×Sl):=λρ=>(fr ρ).bind λp=>if p.1.length<=sizeLine then .ok (.tup p.1,p.2) else .bad
noncomputable def gb (fr:Sl->Out (List D×Sl)):Sl->Out (D×Sl):=λρ=>(fr ρ).bind λp=>if p.1.length<=sizeLine then .ok (.lst p.1,p.2) else .bad
theorem qfF (a:Rep C.K own F H σ ρ) (hp:H p=iD):Rep C.K own (upd F p u) (upd H p u) σ ρ/\Chg No F H (upd F p u) (upd H p u):=by
 have E:F p=none:=by
  cases q:F p with
  | none=>rfl
  | some o=>rw [a.sub p o q] at hp; cases hp
 have c:Chg No F H (upd F p u) (upd H p u):=⟨λb o e _=>by rw [qB (qH e hp)]; exact e,λb e=>by
  by_cases q:b=p;·rw [q,qt]; simp
  ·rw [qB q]; exact e,λb o e=>by rw [qB (qH e E)]; exact e,λb e=>by
  by_cases q:b=p;·exact .inr (.inl (by rw [q]; exact hp))
  ·rw [qB q] at e; exact .inl e⟩
 refine ⟨a.grow c λb o e=>?_,c⟩;by_cases q:b=p;·subst q; rw [qt] at e ⊢; exact e
 ·rw [qB q] at e ⊢; exact a.sub b o e
theorem ZI (a:Rep C.K own F H σ ρ) (hp:H p=iD):Rep C.K own F (upd H p u) σ ρ/\Chg No F H F (upd H p u)/\F p=none:=by
 have E:F p=none:=by
  cases q:F p with
  | none=>rfl
  | some o=>rw [a.sub p o q] at hp; cases hp
 have c:Chg No F H F (upd H p u):=⟨λb o e _=>by rw [qB (qH e hp)]; exact e,λb e=>by
  by_cases q:b=p;·rw [q,qt]; simp
  ·rw [qB q]; exact e,Same.refl _,λb e=>.inl e⟩
 exact ⟨a.grow c λb o e=>by rw [qB (qH e E)]; exact a.sub b o e,c,E⟩
theorem wt {x1} (h:PA X es (tAr C own as fr)) (g:(as.all λa=>decide (a=.vl))=true:=by decide):PE X (.Tuple es x1 pos) (tE C own .sh (zq fr)):=by
 refine jG (qfp h) λσ H Q ⟨F,ρ,c,h⟩=>⟨F,ρ,c,Po.bindA h λvs F1 H1 ds ρ1 b k v h1=>?_⟩
 have i:=v.isL g;have h1:Po C own .sh σ F1 H1 (if ds.length<=sizeLine then .ok (.tup ds,ρ1) else .bad) Q:=h1;by_cases z:ds.length<=sizeLine;·rw [if_pos z] at h1;refine ⟨by rw [i.length]; exact z,λp hp=>?_⟩;obtain ⟨r,c2⟩:=qfF (u:=.tup vs) b hp;exact h1 _ _ _ r c2.ofNo (.tup (.inl (.inl qt)) (i.mono c2.grow))
 ·rw [if_neg z] at h1; exact h1.elim
theorem kP (h:PA X es (tAr C own as fr)) (g:(as.all λa=>decide (a=.vl))=true:=by decide):PE X (.List es pos) (tE C own .fr (gb fr)):=by
 refine jG (qfq h) λσ H Q ⟨F,ρ,c,h⟩=>⟨F,ρ,c,Po.bindA h λvs F1 H1 ds ρ1 b k v h1=>?_⟩
 have i:=v.isL g;have h1:Po C own .fr σ F1 H1 (if ds.length<=sizeLine then .ok (.lst ds,ρ1) else .bad) Q:=h1;by_cases z:ds.length<=sizeLine;·rw [if_pos z] at h1;refine ⟨by rw [i.length]; exact z,λp hp=>?_⟩;obtain ⟨r,c2,E⟩:=ZI (u:=.lst vs) b hp;exact h1 _ _ _ r c2.ofNo ⟨p,rfl,hp,E,vs,qt,i⟩
 ·rw [if_neg z] at h1; exact h1.elim
theorem Jb:PE X (.Dict [] [] pos) (tE C own .fr (dC (.dct []))):=by refine jG qa3 λσ H Q ⟨F,ρ,a,h⟩ p hp=>?_;obtain ⟨r,c2,E⟩:=ZI (u:=.dK []) a hp;exact h _ _ _ r c2.ofNo ⟨p,rfl,hp,E,[],qt,.nil⟩
noncomputable def ixD:D->D->Out D
 | .lst xs,.int i=>match atI xs i with
  | some d=>.ok d
  | none=>.bad
 | .tup xs,.int i=>match atI xs i with
  | some d=>.ok d
  | none=>.bad
 | .str x,.int i=>match atI x.cps.toList i with
  | some c=>.ok (.str ⟨#[c]⟩)
  | none=>.bad
 | .dct kvs,.str x=>match (kvs.find? λkv=>decide (kv.1=cw x)) with
  | some kv=>.ok kv.2
  | none=>.bad
 | .dct kvs,.int x=>match (kvs.find? λkv=>decide (kv.1=fq x)) with
  | some kv=>.ok kv.2
  | none=>.bad
 | _,_=>.bad
theorem IsL.atI {i:Int} (h:IsL K F vs ds) (e:L2.atI ds i=iB d):∃ v,L2.atI vs i=iB v/\Is K F v d:=by
 unfold L2.atI at e ⊢;rw [h.length];cases q:ixN ds.length i with
 | none=>rw [q] at e; cases e
 | some j=>rw [q] at e;exact h.getD e
theorem IsK.find {k:Key}:∀ {vs:List (Key×V)} {ds:List (Key×D)} {d:Key×D},IsK K F vs ds->(ds.find? λkv=>decide (kv.1=k))=iB d->∃ v,Ux vs k=iB v/\Is K F v d.2
 | _,_,_,.nil,e=>by simp at e
 | _,_,d,.cons (k:=k') (vs:=vs) h t,e=>by
  by_cases q:k'=k;·rw [List.find?_cons_of_pos (by simp [q])] at e;cases e;exact ⟨_,zA q,h⟩
  ·rw [List.find?_cons_of_neg (by simp [q])] at e;obtain ⟨v,h1,h2⟩:=IsK.find t e;exact ⟨v,by rw [zB q]; exact h1,h2⟩
theorem UG (c:Nat):(⟨#[c]⟩:Str).length<=sizeLine:=by show 1<=sizeLine;rw [iL]; decide
def qir (K:Frag):R2:=λx y H Q=>rIx K x y H Q\/∃ a v,x=.ref a/\DGet H a y (iB v)/\Q v H
theorem qfG (f:X.A.units+1 < cLine):IxR X (qir X.K):=by
 refine IxR.or qft ?_;intro value e pins s σ H x y v u Q I d c h b;obtain ⟨a,w,rfl,g,q⟩:=h;cases d;obtain ⟨T,l⟩:∃ T,s.TypeIs (.ref a) T/\T = "dict":=⟨_,Wb I g,rfl⟩
 obtain ⟨l,rfl⟩:=l;exact lK l PySem.slot_dict_getitem.lookup (Zq f I g c λw' s' i r=>⟨w,H,i,r,q⟩) b
end
variable {T:String}
section
variable {a b:Expr} {fb:Sl->Out (D×Sl)}
theorem qfH {σ:St} {x y:V} {dx b:D} {Q:VK} (m:C.K=X.K) (s:Same F H) (f:TopIs C.K F H x dx) (ty:TopIs C.K F H y b) (po:PoV C .sh F H (ixD dx b) Q):qir X.K x y H Q:=by
 rw [m] at f ty;cases dx with
 | lst xs=>
  cases b <;> try exact po.elim
  rename_i i;obtain rfl:=ty.int;obtain ⟨a,vs,rfl,p,t⟩:=f.lst s;unfold ixD at po;cases e:L2.atI xs i with
  | none=>simp only [e] at po; exact po.elim
  | some d=>simp only [e] at po;obtain ⟨v,h1,h2⟩:=t.atI e;exact .inl (.inl ⟨a,vs,i,v,rfl,rfl,p,h1,po v F H s .refl (by rw [m]; exact h2)⟩)
 | tup xs=>
  cases b <;> try exact po.elim
  rename_i i;obtain rfl:=ty.int;obtain ⟨a,vs,rfl,p,t⟩:=f.tup s;unfold ixD at po;cases e:L2.atI xs i with
  | none=>simp only [e] at po; exact po.elim
  | some d=>simp only [e] at po;obtain ⟨v,h1,h2⟩:=t.atI e;exact .inl (.inr (.inl ⟨a,vs,i,v,rfl,rfl,p,h1,po v F H s .refl (by rw [m]; exact h2)⟩))
 | str z=>
  cases b <;> try exact po.elim
  rename_i i;obtain rfl:=ty.int;obtain ⟨rfl,hz⟩:=f.str;unfold ixD at po;cases e:L2.atI z.cps.toList i with
  | none=>simp only [e] at po; exact po.elim
  | some c=>simp only [e] at po;exact .inl (.inr (.inr ⟨z,i,c,rfl,rfl,hz,e,po _ F H s .refl (.str (UG c))⟩))
 | dct kvs=>
  obtain ⟨a,kv,rfl,p,t⟩:=f.dct s;cases b with
  | int i=>
   obtain rfl:=ty.int;unfold ixD at po;cases e:(kvs.find? λkv=>decide (kv.1=fq i)) with
   | none=>simp only [e] at po; exact po.elim
   | some d=>simp only [e] at po;obtain ⟨v,h1,h2⟩:=t.find e;exact .inr ⟨a,v,rfl,by rw [<-h1]; exact DGet.k (k:=fq i) p,po v F H s .refl (by rw [m]; exact h2)⟩
  | str z=>
   obtain ⟨rfl,_⟩:=ty.str;unfold ixD at po;cases e:(kvs.find? λkv=>decide (kv.1=cw z)) with
   | none=>simp only [e] at po; exact po.elim
   | some d=>simp only [e] at po;obtain ⟨v,h1,h2⟩:=t.find e;exact .inr ⟨a,v,rfl,by rw [<-h1]; exact DGet.k (k:=cw z) p,po v F H s .refl (by rw [m]; exact h2)⟩
  | _=>exact po.elim
 | _=>exact po.elim
theorem jQ (u:C.K=X.K) (E:X.A.units+64 < cLine) (o:PE X a (tE C own ma fa)) (n:PE X b (tE C own mb fb)) (s:Zk b) (j:ma≠.any:=by decide):PE X (.Subscript a b pos) (tE C own .sh (d2 ixD fa fb)):=by
 refine jG (qhv (qfG (by omega)) o n s) λσ H Q h=>?_;obtain ⟨F,ρ,l,h⟩:=Kw (mb:=mb) j h;refine ⟨F,ρ,l,?_⟩;cases q:fa ρ with
 | ok p=>
  rw [q] at h;obtain ⟨d,ρ1⟩:=p;intro v F1 H1 f x i;obtain ⟨D,ρ2,e,h2⟩:=h v F1 H1 f x i;refine ⟨D,ρ2,e,?_⟩;cases g:fb ρ2 with
  | ok p=>rw [g] at h2;obtain ⟨d',k⟩:=p;intro w B z r G m;obtain ⟨J,dx,I,y,t,ty,po⟩:=h2 w B z r G m;exact qfH (σ:=σ) u y t ty po
  | exc c=>rw [g] at h2; exact h2
  | bad=>rw [g] at h2; exact h2.elim
 | exc c=>rw [q] at h; exact h
 | bad=>rw [q] at h; exact h.elim
def zr (X:Cx) (C:Ct) (m:Mo) (f:iE) (g:D->Out D):Prop:=uh X f (λxs H Q=>∃ x F dx,xs=[x]/\Same F H/\TopIs C.K F H x dx/\PoV C m F H (g dx) Q)
theorem gc {Q:VK} {g:D->Out D} (h:tE C own m (d1 g fa) σ H Q):YX (tE C own ma fa) qgP σ H λxs H1=>∃ x F dx,xs=[x]/\Same F H1/\TopIs C.K F H1 x dx/\PoV C m F H1 (g dx) Q:=by
 obtain ⟨F,ρ,r,h⟩:=Wf (ma:=ma) h;refine ⟨F,ρ,r,?_⟩;cases q:fa ρ with
 | ok p=>rw [q] at h;obtain ⟨d,ρ1⟩:=p;intro v F1 H1 a k b;obtain ⟨e,dx,y,t,po⟩:=h v F1 H1 a k b;exact ⟨v,e,dx,rfl,y,t,po⟩
 | exc c=>rw [q] at h; exact h
 | bad=>rw [q] at h; exact h.elim
theorem qE {id:String} {p:Pos} {g:D->Out D} (d:zr X C m (.builtin id) g) (hg:Gl X x) (a:X.mg x=iD) (c:bootBuiltins x=iB (.builtin id)) (f:PE X e (tE C own ma fa)) (n:x ≠ "__name__":=by decide) (b:(x == ("__debug__":Str))=false:=by decide)
  (i:starEach [e] X.env=[(iF,eval e X.env)]:=by exact qJ rfl):PE X (.Call (.Name x p) [e] [] pos) (tE C own m (d1 g fa)):=
 jG (wF d hg a c (qO f jE i) n b (by rw [i]; rfl) rfl) λ_ _ _ h=>gc h
theorem kl {p:Pos} {g:D->Out D} (d:zr X C m (.type T) g) (hg:Gl X x) (a:X.mg x=iD) (c:bootBuiltins x=iB (.type T)) (f:PE X e (tE C own ma fa)) (n:x ≠ "__name__":=by decide) (b:(x == ("__debug__":Str))=false:=by decide)
  (i:starEach [e] X.env=[(iF,eval e X.env)]:=by exact qJ rfl):PE X (.Call (.Name x p) [e] [] pos) (tE C own m (d1 g fa)):=
 jG (uj d hg a c (qO f jE i) n b (by rw [i]; rfl) rfl) λ_ _ _ h=>gc h
noncomputable def jN:D->Out D
 | .str x=>.ok (.int x.length)
 | .lst xs=>.ok (.int xs.length)
 | .tup xs=>.ok (.int xs.length)
 | .dct xs=>.ok (.int xs.length)
 | _=>.bad
theorem IsK.length:∀ {vs:List (Key×V)} {ds:List (Key×D)},IsK K F vs ds->vs.length=ds.length
 | _,_,.nil=>rfl
 | _,_,.cons _ t=>congrArg (·+1) (IsK.length t)
theorem jH (m:C.K=X.K):zr X C .sh (.builtin "len") jN:=by
 intro pins s σ H xs us Q I r h;obtain ⟨x,F,dx,rfl,y,b,po⟩:=h;cases dx with
 | str z=>obtain ⟨rfl,hz⟩:=b.str;exact QX pins s σ H _ us Q I r ⟨_,_,rfl,⟨hz,rfl⟩,po _ F H y .refl (.int _)⟩
 | lst ds=>obtain ⟨a,vs,rfl,p,t⟩:=b.lst y;exact QX pins s σ H _ us Q I r ⟨_,ds.length,rfl,.inl ⟨vs,by rw [<-m]; exact p,t.length.symm⟩,po _ F H y .refl (.int _)⟩
 | tup ds=>obtain ⟨a,vs,rfl,p,t⟩:=b.tup y;exact QX pins s σ H _ us Q I r ⟨_,ds.length,rfl,.inr ⟨vs,by rw [<-m]; exact p,t.length.symm⟩,po _ F H y .refl (.int _)⟩
 | dct ds=>obtain ⟨a,vs,rfl,p,t⟩:=b.dct y;refine Zv pins s σ H _ us Q I r ⟨a,vs,rfl,p,?_⟩;rw [t.length];exact po _ F H y .refl (.int _)
 | _=>exact po.elim
noncomputable def kK:D->D->Out D
 | .int i,.int j=>.ok (.int (i+j))
 | .str x,.str y=>if x.length+y.length<=sizeLine then .ok (.str (x++y)) else .bad
 | .lst xs,.lst ys=>if xs.length+ys.length<=sizeLine then .ok (.lst (xs++ys)) else .bad
 | .tup xs,.tup ys=>if xs.length+ys.length<=sizeLine then .ok (.tup (xs++ys)) else .bad
 | _,_=>.bad
theorem uo (y:Same F H) (hp:H p=iD):Same (upd F p u) (upd H p u)/\Chg No F H (upd F p u) (upd H p u):=by
 have E:F p=none:=by
  cases q:F p with
  | none=>rfl
  | some o=>rw [y p o q] at hp; cases hp
 refine ⟨λb o e=>?_,⟨λb o e _=>by rw [qB (qH e hp)]; exact e,λb e=>?_,λb o e=>by rw [qB (qH e E)]; exact e,λb e=>?_⟩⟩
 ·by_cases q:b=p;·subst q; rw [qt] at e ⊢; exact e
  ·rw [qB q] at e ⊢; exact y b o e
 ·by_cases q:b=p;·rw [q,qt]; simp
  ·rw [qB q]; exact e
 ·by_cases q:b=p;·exact .inr (.inl (by rw [q]; exact hp))
  ·rw [qB q] at e; exact .inl e
theorem kL (y:Same F H) (hp:H p=iD):Same F (upd H p u)/\Chg No F H F (upd H p u)/\F p=none:=by
 have E:F p=none:=by
  cases q:F p with
  | none=>rfl
  | some o=>rw [y p o q] at hp; cases hp
 refine ⟨λb o e=>by rw [qB (qH e E)]; exact y b o e,⟨λb o e _=>by rw [qB (qH e hp)]; exact e,λb e=>?_,Same.refl _,λb e=>.inl e⟩,E⟩;by_cases q:b=p;·rw [q,qt]; simp
 ·rw [qB q]; exact e
theorem Wh (x y:Str):(x++y).length=x.length+y.length:=by show (x.cps++y.cps).size=_;simp [g7]
theorem qdx:OpR X (binaryOp .Add) (λx y H Q=>∃ l b xs zs,x=.ref l/\y=.ref b/\SqL X.K H l xs/\SqL X.K H b zs/\xs.length+zs.length<=sizeLine/\∀ p,H p=iD->Q (.ref p) (upd H p (.lst (xs++zs)))):=by
 intro pins s σ H x y v u Q I k r h;obtain ⟨l,b,xs,zs,rfl,rfl,h1,h2,hz,q⟩:=h;cases k;cases r;obtain ⟨its,r1,p1,_⟩:=I.list h1;obtain ⟨i,r2,p2,_⟩:=I.list h2;obtain ⟨⟨cls,dd,data,sl⟩,m,g,n,hd⟩:=id p1.isList;obtain ⟨⟨j,e,f,d⟩,a,c,n2,hd2⟩:=id p2.isList;simp only at g hd c hd2;subst g hd c hd2;have t:=r1.length;have o:=r2.length;refine lB ⟨_,m,rfl⟩ ⟨_,a,rfl⟩ noFill_list_add seq_list_add PySem.F.slot_list_add PySem.F.entry_list_add (PySem.F.args_list_add_2 _ _)
  (list_addW l b its.toArray i.toArray n n2 dd e sl d (by simp only [am]; omega)) ⟨m,a,?_⟩
 have w:its.toArray++i.toArray=(its++i).toArray:=by simp
 rw [w];exact ⟨.ref _,_,I.lnew (t':=s.toks) (r1.append r2) (by rw [aj]; exact hz),rfl,q _ I.fresh⟩
theorem qdy:OpR X (binaryOp .Add) (λx y H Q=>∃ a b ys,x=.ref a/\y=.ref b/\SqT X.K H a []/\SqT X.K H b ys/\Q (.ref b) H):=by
 intro pins s σ H x y v u Q I l r h;obtain ⟨a,b,ys,rfl,rfl,h1,h2,q⟩:=h;cases l;cases r;obtain ⟨its,r1,p1,_⟩:=I.tuple h1;obtain ⟨i,r2,p2,_⟩:=I.tuple h2;cases r1;obtain ⟨⟨cls,dd,data,sl⟩,m,j,n,hd⟩:=id p1;obtain ⟨⟨k,f,g,e⟩,c,d,n2,hd2⟩:=id p2;simp only at j hd d hd2;subst j hd d hd2;exact lB ⟨_,m,rfl⟩ ⟨_,c,rfl⟩ noFill_tuple_add seq_tuple_add eI ei (dY _ _)
  (tuple_addW0 a b _ _ n n2 dd f sl e rfl) ⟨m,c,⟨.ref b,H,I,rfl,q⟩⟩
theorem jY (m:C.K=X.K):OpD X C .sh (binaryOp .Add) kK:=by
 intro pins s σ H x y v u Q I f r h;obtain ⟨F,dx,j,c,t,ty,po⟩:=h;cases dx with
 | int i=>
  cases j <;> try exact po.elim
  obtain rfl:=t.int;obtain rfl:=ty.int;exact qfh pins s σ H _ _ v u Q I f r ⟨_,_,rfl,rfl,po _ F H c .refl (.int _)⟩
 | str a=>
  cases j <;> try exact po.elim
  rename_i b;obtain ⟨rfl,_⟩:=t.str;obtain ⟨rfl,_⟩:=ty.str;have po:PoV C .sh F H (if a.length+b.length<=sizeLine then .ok (.str (a++b)) else .bad) Q:=po;by_cases z:a.length+b.length<=sizeLine;·rw [if_pos z] at po;exact YW pins s σ H _ _ v u Q I f r ⟨_,_,rfl,rfl,z,po _ F H c .refl (.str (by rw [Wh]; exact z))⟩
  ·rw [if_neg z] at po; exact po.elim
 | lst xs=>
  cases j <;> try exact po.elim
  rename_i ys;obtain ⟨a,vs,rfl,p1,g⟩:=t.lst c;obtain ⟨b,ws,rfl,p2,d⟩:=ty.lst c;have po:PoV C .sh F H (if xs.length+ys.length<=sizeLine then .ok (.lst (xs++ys)) else .bad) Q:=po;by_cases z:xs.length+ys.length<=sizeLine;·rw [if_pos z] at po;refine qdx pins s σ H _ _ v u Q I f r ⟨a,b,vs,ws,rfl,rfl,by rw [<-m]; exact p1,by rw [<-m]; exact p2,by rw [g.length,d.length]; exact z,λp hp=>?_⟩;obtain ⟨s2,c2⟩:=uo (u:=.lst (vs++ws)) c hp;exact po _ _ _ s2 c2 (.lst (.inl (.inl qt)) ((g.append d).mono c2.grow))
  ·rw [if_neg z] at po; exact po.elim
 | tup xs=>
  cases j <;> try exact po.elim
  rename_i ys;obtain ⟨a,vs,rfl,p1,g⟩:=t.tup c;obtain ⟨b,ws,rfl,p2,d⟩:=ty.tup c;have po:PoV C .sh F H (if xs.length+ys.length<=sizeLine then .ok (.tup (xs++ys)) else .bad) Q:=po;by_cases z:xs.length+ys.length<=sizeLine
  ·rw [if_pos z] at po;cases vs with
   | nil=>
    cases g;rcases ty with ty | ⟨_,_,ty⟩
    ·exact qdy pins s σ H _ _ v u Q I f r ⟨a,b,ws,rfl,rfl,by rw [<-m]; exact p1,by rw [<-m]; exact p2,po _ F H c .refl ty⟩
    ·exact ty.elim
   | cons k vs=>
    refine qdj pins s σ H _ _ v u Q I f r ⟨a,b,k::vs,ws,rfl,rfl,by rw [<-m]; exact p1,by rw [<-m]; exact p2,by simp,by rw [g.length,d.length]; exact z,λe=>?_,λe p hp=>?_⟩
    ·subst e;cases d;rcases t with t | ⟨_,_,t⟩
     ·refine po _ F H c .refl ?_;rw [bf];exact t
     ·exact t.elim
    ·obtain ⟨s2,c2⟩:=uo (u:=.tup (k::vs++ws)) c hp;exact po _ _ _ s2 c2 (.tup (.inl (.inl qt)) ((g.append d).mono c2.grow))
  ·rw [if_neg z] at po; exact po.elim
 | _=>exact po.elim
end
inductive PM where
 | val | io | tk
 deriving DecidableEq
noncomputable def zt:List PM->List V->List Addr
 | .val::ms,_::vs=>zt ms vs
 | .io::ms,.ref a::vs=>a::zt ms vs
 | .tk::ms,.ref a::vs=>a::zt ms vs
 | _::ms,_::vs=>zt ms vs
 | _,_=>[]
def ArgsIs (K:Frag) (F H:Hp):List PM->List V->List D->Prop
 | [],[],[]=>True
 | .val::ms,v::vs,d::ds=>Is K F v d/\ArgsIs K F H ms vs ds
 | .io::ms,v::vs,d::ds=>(∃ a,v=.ref a/\F a=iD/\OwnIs K F H a d)/\ArgsIs K F H ms vs ds
 | .tk::ms,v::vs,d::ds=>(∃ a,v=.ref a/\F a=iD/\OwnIs K F H a d)/\ArgsIs K F H ms vs ds
 | _,_,_=>False
def yQ (K:Frag) (F H:Hp):List PM->List V->List D->Prop
 | [],_,_=>True
 | .io::ms,v::vs,d::ds=>(∃ a,v=.ref a/\F a=iD/\OwnIs K F H a d)/\yQ K F H ms vs ds
 | _::ms,_::vs,_::ds=>yQ K F H ms vs ds
 | _,_,_=>False
abbrev LA (ms:List PM) (vs:List V):Addr->Prop:=λb=>b∈zt ms vs
def PoG (K:Frag) (cv:Str->iE) (ms:List PM) (mr:Mo) (vs:List V) (F H:Hp) (Q:VK) (E:XK) (o:Out (D×List D)):Prop:=match o with
 | .ok (d,outs)=>∀ v F' H',Same F' H'->Chg (LA ms vs) F H F' H'->yQ K F' H' ms vs outs->MoIs K mr H F' H' v d->Q v H'
 | .exc c o=>∀ F' H',Same F' H'->Chg (LA ms vs) F H F' H'->yQ K F' H' ms vs (o.map (·.getD .non))->E (cv c) iD H'
 | .bad=>False
def spD (K:Frag) (cv:Str->iE) (ms:List PM) (mr:Mo) (G:List D->Out (D×List D)):Sp:=λvs H Q E=>∃ F ds,Same F H/\ArgsIs K F H ms vs ds/\(zt ms vs).Nodup/\PoG K cv ms mr vs F H Q E (G ds)
theorem ArgsIs.length:∀ {ms:List PM} {vs:List V} {ds:List D},ArgsIs K F H ms vs ds->vs.length=ms.length/\ds.length=ms.length
 | [],[],[],_=>⟨rfl,rfl⟩
 | .val::ms,v::vs,d::ds,h=>by have:=ArgsIs.length h.2; simp [this]
 | .io::ms,v::vs,d::ds,h=>by have:=ArgsIs.length h.2; simp [this]
 | .tk::ms,v::vs,d::ds,h=>by have:=ArgsIs.length h.2; simp [this]
 | [],_::_,_,h=>h.elim
 | [],[],_::_,h=>h.elim
 | .val::_,[],_,h=>h.elim
 | .val::_,_::_,[],h=>h.elim
 | .io::_,[],_,h=>h.elim
 | .io::_,_::_,[],h=>h.elim
 | .tk::_,[],_,h=>h.elim
 | .tk::_,_::_,[],h=>h.elim
noncomputable def km (n:Nat):List PM->List Nat
 | []=>[]
 | .val::ms=>km (n+1) ms
 | _::ms=>n::km (n+1) ms
noncomputable def Wi (n:Nat):List PM->List Nat
 | []=>[]
 | .io::ms=>n::Wi (n+1) ms
 | _::ms=>Wi (n+1) ms
variable {n:Nat}
theorem yR:∀ {ms:List PM} {i:Nat},i∈km n ms->n<=i/\i < n+ms.length:=by
 intro ms
 induction ms generalizing n with
 | nil=>intro i h; simp [km] at h
 | cons m ms j=>
  intro i h;cases m with
  | val=>have:=j (n:=n+1) h; simp only [ao]; omega
  | io=>
   rcases ae.mp h with e | h;·simp only [ao]; omega
   ·have:=j (n:=n+1) h; simp only [ao]; omega
  | tk=>
   rcases ae.mp h with e | h;·simp only [ao]; omega
   ·have:=j (n:=n+1) h; simp only [ao]; omega
theorem qa9:∀ {ms:List PM} {i:Nat},i∈Wi n ms->i∈km n ms:=by
 intro ms
 induction ms generalizing n with
 | nil=>intro i h; simp [Wi] at h
 | cons m ms j=>
  intro i h;cases m with
  | val=>exact j (n:=n+1) h
  | io=>
   rcases ae.mp h with e | h;·exact ae.mpr (.inl e)
   ·exact ac _ (j (n:=n+1) h)
  | tk=>exact ac _ (j (n:=n+1) h)
theorem Xg:∀ {ms:List PM} {vs:List V} {ds:List D} {n:Nat},ArgsIs K F H ms vs ds ->(∀ j d,ds[j]?=iB d->n+j∉km n ms->∃ v,vs[j]?=iB v/\Is K F v d) /\
  (∀ j d,ds[j]?=iB d->n+j∈km n ms->∃ a,vs[j]?=iB (.ref a)/\F a=iD/\OwnIs K F H a d):=by
 intro ms
 induction ms with
 | nil=>intro vs ds n h; cases vs <;> cases ds <;> first | exact h.elim | (refine ⟨λj d e=>?_,λj d e=>?_⟩ <;> simp at e)
 | cons m ms i=>
  intro vs ds n h;cases vs with
  | nil=>cases m <;> exact h.elim
  | cons v vs=>
   cases ds with
   | nil=>cases m <;> exact h.elim
   | cons d ds=>
    cases m with
    | val=>
     obtain ⟨h1,h2⟩:=h;obtain ⟨i1,i2⟩:=i (n:=n+1) h2;refine ⟨λj e G b=>?_,λj e G b=>?_⟩
     ·cases j with
      | zero=>simp at G; subst G; exact ⟨v,rfl,h1⟩
      | succ j=>simpa using i1 j e (by simpa using G) (by rw [show n+1+j=n+(j+1) by omega]; exact b)
     ·cases j with
      | zero=>have:=yR (n:=n+1) b; omega
      | succ j=>simpa using i2 j e (by simpa using G) (by rw [show n+1+j=n+(j+1) by omega]; exact b)
    | io=>
     obtain ⟨⟨a,rfl,h1⟩,h2⟩:=h;obtain ⟨i1,i2⟩:=i (n:=n+1) h2;refine ⟨λj e G b=>?_,λj e G b=>?_⟩
     ·cases j with
      | zero=>exact absurd (ae.mpr (.inl rfl)) b
      | succ j=>simpa using i1 j e (by simpa using G) (λz=>b (ac _ (by rw [show n+(j+1)=n+1+j by omega]; exact z)))
     ·cases j with
      | zero=>simp at G; subst G; exact ⟨a,rfl,h1⟩
      | succ j=>
       have c:n+1+j∈km (n+1) ms:=by
        rcases ae.mp b with z | z;·omega
        ·rw [show n+1+j=n+(j+1) by omega]; exact z
       simpa using i2 j e (by simpa using G) c
    | tk=>
     obtain ⟨⟨a,rfl,h1⟩,h2⟩:=h;obtain ⟨i1,i2⟩:=i (n:=n+1) h2;refine ⟨λj e G b=>?_,λj e G b=>?_⟩
     ·cases j with
      | zero=>exact absurd (ae.mpr (.inl rfl)) b
      | succ j=>simpa using i1 j e (by simpa using G) (λz=>b (ac _ (by rw [show n+(j+1)=n+1+j by omega]; exact z)))
     ·cases j with
      | zero=>simp at G; subst G; exact ⟨a,rfl,h1⟩
      | succ j=>
       have c:n+1+j∈km (n+1) ms:=by
        rcases ae.mp b with z | z;·omega
        ·rw [show n+1+j=n+(j+1) by omega]; exact z
       simpa using i2 j e (by simpa using G) c
theorem ZJ:∀ {ms:List PM} {vs:List V} {j:Nat} {a:Addr},n+j∈km n ms->vs[j]?=iB (.ref a)->a∈zt ms vs:=by
 intro ms
 induction ms generalizing n with
 | nil=>intro vs j a h; simp [km] at h
 | cons m ms i=>
  intro vs j a h e;cases vs with
  | nil=>simp at e
  | cons v vs=>
   cases j with
   | zero=>
    simp at e; subst e;cases m with
    | val=>have:=yR (n:=n+1) h; omega
    | io=>exact ae.mpr (.inl rfl)
    | tk=>exact ae.mpr (.inl rfl)
   | succ j=>
    have b:vs[j]?=iB (.ref a):=by simpa using e
    have sub:n+1+j∈km (n+1) ms:=by
     rw [show n+1+j=n+(j+1) by omega];cases m with
     | val=>exact h
     | io=>exact (ae.mp h).resolve_left (by omega)
     | tk=>exact (ae.mp h).resolve_left (by omega)
    have q:=i (n:=n+1) sub b;cases m <;> cases v <;> first | exact q | exact ac _ q
theorem ZK:∀ {ms:List PM} {vs:List V} {a:Addr},a∈zt ms vs->∃ j,n+j∈km n ms/\vs[j]?=iB (.ref a):=by
 intro ms
 induction ms generalizing n with
 | nil=>intro vs a h; cases vs <;> simp [zt] at h
 | cons m ms i=>
  intro vs a h;cases vs with
  | nil=>cases m <;> simp [zt] at h
  | cons v vs=>
   have up:∀ {b},b∈zt ms vs->∃ j,n+j∈km n (m::ms)/\(v::vs)[j]?=iB (.ref b):=λd=>by
    obtain ⟨j,h1,h2⟩:=i (n:=n+1) d;refine ⟨j+1,?_,by simpa using h2⟩;rw [show n+(j+1)=n+1+j by omega];cases m with
    | val=>exact h1
    | io=>exact ac _ h1
    | tk=>exact ac _ h1
   cases m with
   | val=>exact up (by cases v <;> exact h)
   | io=>
    cases v with
    | ref c=>
     rcases ae.mp h with e | h;·subst e; exact ⟨0,ae.mpr (.inl rfl),rfl⟩
     ·exact up h
    | _=>exact up h
   | tk=>
    cases v with
    | ref c=>
     rcases ae.mp h with e | h;·subst e; exact ⟨0,ae.mpr (.inl rfl),rfl⟩
     ·exact up h
    | _=>exact up h
theorem qba:∀ {ms:List PM} {vs:List V} {i j:Nat} {a:Addr},(zt ms vs).Nodup->n+i∈km n ms->n+j∈km n ms->vs[i]?=iB (.ref a)->vs[j]?=iB (.ref a)->i=j:=by
 intro ms
 induction ms generalizing n with
 | nil=>intro vs i j a _ h; simp [km] at h
 | cons m ms f=>
  intro vs i j a nd hi G e1 e;cases vs with
  | nil=>simp at e1
  | cons v vs=>
   have sub:∀ {k},n+(k+1)∈km n (m::ms)->n+1+k∈km (n+1) ms:=λ{k} h=>by
    rw [show n+1+k=n+(k+1) by omega];cases m with
    | val=>exact h
    | io=>exact (ae.mp h).resolve_left (by omega)
    | tk=>exact (ae.mp h).resolve_left (by omega)
   have d:(zt ms vs).Nodup:=by cases m <;> cases v <;> first | exact nd | exact (aP.mp nd).2
   have c:∀ {k b},n+0∈km n (m::ms)->v=.ref b->n+(k+1)∈km n (m::ms)->vs[k]?=iB (.ref b)->False:=λ{k b} h0 g l o=>by
    subst g;have q:=ZJ (n:=n+1) (sub l) o;cases m with
    | val=>have:=yR (n:=n+1) h0; omega
    | io=>exact (aP.mp nd).1 q
    | tk=>exact (aP.mp nd).1 q
   cases i with
   | zero=>
    cases j with
    | zero=>rfl
    | succ j=>exact (c hi (by simpa using e1) G (by simpa using e)).elim
   | succ i=>
    cases j with
    | zero=>exact (c G (by simpa using e) hi (by simpa using e1)).elim
    | succ j=>exact congrArg (·+1) (f (n:=n+1) d (sub hi) (sub G) (by simpa using e1) (by simpa using e))
noncomputable def qx (N:List Str) (ds:List D):Sl:=ds.map iB++bu (N.length - ds.length) iD
variable {α:Type} {N:List Str}
theorem get_start {xs:List α} {x:α}:(xs.map iB++bu (N.length - xs.length) iD)[i]?=iB (iB x)↔xs[i]?=iB x:=by
 by_cases h:i < xs.length
 ·rw [ci (by simpa using h),aE];cases e:xs[i]? with
  | none=>simp
  | some y=>simp
 ·rw [bU (by simpa using h),bP];have e:xs[i]?=none:=cg.mpr (by omega);rw [e];split <;> simp
variable {ms:List PM}
theorem ZL (y:Same F H) (r:ArgsIs K F H ms vs ds) (nd:(zt ms vs).Nodup):Rep K (km 0 ms) F H (vZ N vs) (qx N ds):=by
 obtain ⟨h1,h2⟩:=Xg (n:=0) r;obtain ⟨c,l⟩:=r.length;refine ⟨y,by simp [vZ,qx,c,l],λi d hi e=>?_,λi d hi e=>?_,λi hi=>?_,λi j a hi G e1 f=>?_⟩;·obtain ⟨v,a,b⟩:=h1 i d (get_start.mp e) (by simpa using hi);exact ⟨v,get_start.mpr a,b⟩
 ·obtain ⟨v,a,b⟩:=h2 i d (get_start.mp e) (by simpa using hi);exact ⟨v,get_start.mpr a,b⟩
 ·have q:=yR hi;have hl:i < ds.length:=by omega
  exact ⟨ds[i],get_start.mpr (by simp [hl])⟩
 ·exact qba (n:=0) nd (by simpa using hi) (by simpa using G) (get_start.mp e1) (get_start.mp f)
theorem oa_start:OA (km 0 ms) (vZ N vs) b↔LA ms vs b:=by
 constructor;·rintro ⟨i,hi,e⟩;exact ZJ (n:=0) (by simpa using hi) (get_start.mp e)
 ·intro h;obtain ⟨j,h1,h2⟩:=ZK (n:=0) h;exact ⟨j,by simpa using h1,get_start.mpr h2⟩
noncomputable def qv (ρ:Sl):Nat->List PM->List D
 | _,[]=>[]
 | n,.io::ms=>((ρ[n]?).getD iD).getD .non::qv ρ (n+1) ms
 | n,_::ms=>.non::qv ρ (n+1) ms
theorem qdz {σ:St} {N:List Str}:∀ {ms:List PM} {vs:List V} {n:Nat},vs.length=ms.length->(∀ i∈Wi n ms,∃ d a,ρ[i]?=iB (iB d)/\vs[i - n]?=iB (V.ref a)/\F a=iD/\OwnIs K F H a d)->yQ K F H ms vs (qv ρ n ms):=by
 intro ms
 induction ms with
 | nil=>intro vs n _ _; trivial
 | cons m ms j=>
  intro vs n hl h;cases vs with
  | nil=>simp at hl
  | cons v vs=>
   have rest:(∀ i∈Wi (n+1) ms,i∈Wi n (m::ms))->yQ K F H ms vs (qv ρ (n+1) ms):=λc=>by refine j (by simpa using hl) λi hi=>?_;obtain ⟨d,a,e1,e,E⟩:=h i (c i hi);have q:=yR (qa9 hi);refine ⟨d,a,e1,?_,E⟩;rw [show i - n=(i - (n+1))+1 by omega] at e;simpa using e
   cases m with
   | val=>exact rest λi hi=>hi
   | io=>obtain ⟨d,a,e1,e,E⟩:=h n (ae.mpr (.inl rfl));refine ⟨⟨a,by simpa using e,E.1,?_⟩,rest λi hi=>ac _ hi⟩;rw [e1];exact E.2
   | tk=>exact rest λi hi=>hi
noncomputable def Fl.val:Fl->Option D
 | .nx=>iB .non
 | .rt d=>iB d
 | _=>iD
noncomputable def kr (N:List Str) (ms:List PM) (f:Sl->Out (Fl×Sl)) (ds:List D):Out (D×List D):=match f (qx N ds) with
 | .ok (.nx,ρ)=>.ok (.non,qv ρ 0 ms)
 | .ok (.rt d,ρ)=>.ok (d,qv ρ 0 ms)
 | .ok _=>.bad
 | .exc c ρ=>.exc c ((qv ρ 0 ms).map iB)
 | .bad=>.bad
theorem UH:∀ (l:List D),(l.map iB).map (λx:Option D=>x.getD .non)=l
 | []=>rfl
 | a::l=>congrArg (a::·) (UH l)
def Out.le {α:Type} (a b:Out α):Prop:=a=.bad\/a=b
theorem ZM {f:Sl->Out (Fl×Sl)} {Q:VK} {o:Out (D×List D)} (j:C.io=Wi 0 ms) (l:C.ox=C.io) (r:C.mr=.sh\/∀ ρ,(f (qx N ds))≠.ok (.nx,ρ)) (g:∀ i∈Wi 0 ms,i∈own') (y:Same F H) (t:ArgsIs C.K F H ms vs ds) (nd:(zt ms vs).Nodup)
  (G:Out.le o (kr N ms f ds)) (h:PoG C.K C.cv ms C.mr vs F H Q C.E o):tSt C (km 0 ms) own' f { nx:=λ_ H'=>Q .non H',rt:=Q } (vZ N vs) H:=by
 refine ⟨F,qx N ds,ZL y t nd,?_⟩;have hl:=t.length.1;have ch:∀ {F' H'},Chg (OA (km 0 ms) (vZ N vs)) F H F' H'->Chg (LA ms vs) F H F' H':=λc=>c.mono λx z=>oa_start.mp z;have b:∀ {σ':St} {ρ':Sl} {F' H':Hp},XS C.K C.io F' H' σ' ρ'->(∀ i∈C.io,σ'[i]?=(vZ N vs)[i]?)->yQ C.K F' H' ms vs (qv ρ' 0 ms):=λ{σ' ρ' F' H'} io e=>by
  refine qdz (N:=N) (σ:=σ') hl λi hi=>?_;have k:i∈C.io:=by rw [j]; exact hi
  obtain ⟨d,a,e1,m,B⟩:=io i k;refine ⟨d,a,e1,?_,B⟩;rw [e i k] at m;exact get_start.mp m
 rcases G with e | e;·subst e; exact h.elim
 ·subst e;unfold kr at h;cases q:f (qx N ds) with
  | ok p=>
   rw [q] at h;obtain ⟨A,ρ'⟩:=p;cases A with
   | nx=>have w:C.mr=.sh:=r.resolve_right λz=>z ρ' q;exact λσ' F' H' n=>h .non F' H' n.rep.sub (ch n.chg) (b (n.rep.ioIs (by rw [j]; exact g)) n.io) (by rw [w]; exact .non)
   | rt d=>exact λv σ' F' H' s io c e u=>h v F' H' s (ch c) (b io e) u
   | bk=>exact h.elim
   | ct=>exact h.elim
  | exc c ρ'=>rw [q] at h;exact λF' H' s io T=>h F' H' s (ch T) (by rw [UH]; exact b (σ':=vZ N vs) (by rw [<-l]; exact io) λ_ _=>rfl)
  | bad=>rw [q] at h; exact h.elim
def qeR (K:Frag) (cv:Str->iE) (E:XK) (ms:List PM) (mr:Mo):Ct:=⟨K,cv,E,Wi 0 ms,mr,[],Wi 0 ms,λ_ h=>h⟩
theorem qis {P:iJ} {w:iK} {K:Frag} {mg:Str->Option iE} {base:Heap} {CX:CXT} {x qual:Str} {st:Stmt} {f:Addr} {fd:j6} {N ps:List Str} {k:Nat} {cv:Str->iE} {ms:List PM} {mr:Mo} {own':List Nat} {fb:Sl->Out (Fl×Sl)} {G:List D->Out (D×List D)}
  (F:Fun K x qual st f fd) (S:FnScope N ps (qe st)) (hl:ms.length=ps.length) (g:∀ i∈Wi 0 ms,i∈own') (r:mr=.sh\/∀ ds ρ,(fb (qx N ds))≠.ok (.nx,ρ))
  (a:∀ (cdv:iE) (A:iP) (outer:List Env) (s:iI) (H:Hp) (E:XK),Room k (A.deeper (envOfC qual (qe st) s.heap.objs.size f cdv)) ->PSs (qde CX P w K mg base N qual (qe st) f cdv A outer s H E) (kJ st) (tSt (qeR K cv E ms mr) (km 0 ms) own' fb))
  (e:∀ ds,Out.le (G ds) (kr N ms fb ds)):FnOk P w K mg base CX (k+1) f fd ps (spD K cv ms mr G):=by
 obtain ⟨oc,od,kV,doc,pm,an,cdv,ct,osl,rfl,l,d⟩:=F.ex;refine qhs l d S (λvs H Q E h=>?_) λA outer s H vs Q E c p=>?_;·obtain ⟨F,ds,_,b,_⟩:=h;rw [b.length.1,hl]
 ·obtain ⟨F1,ds,y,b,nd,h⟩:=p;refine ⟨_,a cdv A outer s H E c,?_⟩;exact ZM (C:=qeR K cv E ms mr) rfl rfl (r.imp id λz ρ=>z ds ρ) g y b nd (e ds) h
noncomputable def Jc:AK->PM
 | .vl=>.val
 | .sl _=>.io
 | .fr=>.tk
noncomputable def qD:List AK->List D->Sl->Option (List D)
 | [],[],_=>iB []
 | .sl i::as,_::ds,ρ=>match ρ[i]? with
  | some (iB d)=>(qD as ds ρ).map (d::·)
  | _=>iD
 | .vl::as,d::ds,ρ=>(qD as ds ρ).map (d::·)
 | .fr::as,d::ds,ρ=>(qD as ds ρ).map (d::·)
 | _,_,_=>iD
noncomputable def jq:List AK->List D->Sl->Sl
 | .sl i::as,d::outs,ρ=>jq as outs (ρ.set i (iB d))
 | _::as,_::outs,ρ=>jq as outs ρ
 | _,_,ρ=>ρ
noncomputable def jl:List AK->List Nat
 | []=>[]
 | .sl i::as=>i::jl as
 | _::as=>jl as
noncomputable def frA:List AK->Nat
 | []=>0
 | .fr::as=>frA as+1
 | _::as=>frA as
section
theorem yS:∀ {as:List AK} {vs:List V} {ds c:List D},Rep K own F H σ ρ->(∀ i∈jl as,i∈own)->ArgV K H0 F H σ as vs ds->qD as ds ρ=iB c->ArgsIs K F H (as.map Jc) vs c
 | [],vs,ds,c,rp,hs,av,e=>by cases vs <;> cases ds <;> first | exact av.elim | (simp [qD] at e; subst e; trivial)
 | a::as,[],ds,c,rp,hs,av,e=>by cases a <;> exact av.elim
 | a::as,v::vs,[],c,rp,hs,av,e=>by cases a <;> exact av.elim
 | .vl::as,v::vs,d::ds,c,rp,hs,av,e=>by
  cases q:qD as ds ρ with
  | none=>simp [qD,q] at e
  | some l=>
   have e:d::l=c:=by simpa [qD,q] using e
   subst e;exact ⟨av.1,yS rp hs av.2 q⟩
 | .fr::as,v::vs,d::ds,c,rp,hs,av,e=>by
  cases q:qD as ds ρ with
  | none=>simp [qD,q] at e
  | some l=>
   have e:d::l=c:=by simpa [qD,q] using e
   subst e;obtain ⟨a,h1,_,h2,h3⟩:=av.1;exact ⟨⟨a,h1,h2,h3⟩,yS rp hs av.2 q⟩
 | .sl i::as,v::vs,d::ds,c,rp,hs,av,e=>by
  obtain ⟨h1,_,b⟩:=av;have hi:i∈own:=hs i (ae.mpr (.inl rfl));obtain ⟨d',hd⟩:=rp.opn i hi;obtain ⟨a,e1,f,E⟩:=rp.ow i d' hi hd;rw [h1] at e1;cases e1;cases q:qD as ds ρ with
  | none=>simp [qD,q,hd] at e
  | some l=>
   have e:d'::l=c:=by simpa [qD,q,hd] using e
   subst e;exact ⟨⟨a,rfl,f,E⟩,yS rp (λj G=>hs j (ac _ G)) b q⟩
theorem vm:∀ {as:List AK} {vs:List V} {ds:List D} {b:Addr},ArgV K H0 F H σ as vs ds->b∈zt (as.map Jc) vs->(∃ i∈jl as,σ[i]?=iB (iB (V.ref b)))\/(H0 b=iD/\frA as≠0/\H b≠iD/\F b=iD)
 | [],vs,ds,b,av,h=>by cases vs <;> simp [zt] at h
 | a::as,[],ds,b,av,h=>by cases a <;> exact av.elim
 | a::as,v::vs,[],b,av,h=>by cases a <;> exact av.elim
 | .vl::as,v::vs,d::ds,b,av,h=>by
  have h:b∈zt (as.map Jc) vs:=by cases v <;> exact h
  exact vm (as:=as) av.2 h
 | .fr::as,v::vs,d::ds,b,av,h=>by
  obtain ⟨⟨a,rfl,h0,E,o⟩,c⟩:=av;have h:b∈a::zt (as.map Jc) vs:=h;rcases ae.mp h with e | h;·subst e; exact .inr ⟨h0,by simp [frA],o.there,E⟩
  ·rcases vm c h with z | ⟨z,_,z2⟩
   ·exact .inl z
   ·exact .inr ⟨z,by simp [frA],z2⟩
 | .sl i::as,v::vs,d::ds,b,av,h=>by
  obtain ⟨h1,_,c⟩:=av;have up:b∈zt (as.map Jc) vs->(∃ j∈jl (.sl i::as),σ[j]?=iB (iB (V.ref b)))\/(H0 b=iD/\frA (.sl i::as)≠0/\H b≠iD/\F b=iD):=λh=>by
   rcases vm c h with ⟨j,hj,e⟩ | z;·exact .inl ⟨j,ac _ hj,e⟩
   ·exact .inr z
  cases v with
  | ref a=>
   have h:b∈a::zt (as.map Jc) vs:=h;rcases ae.mp h with e | h;·subst e; exact .inl ⟨i,ae.mpr (.inl rfl),h1⟩
   ·exact up h
  | _=>exact up h
theorem uP:∀ {as:List AK} {vs:List V} {ds:List D},Rep K own F H σ ρ->(∀ x,OA own σ x->H0 x≠iD)->(∀ i∈jl as,i∈own)->(jl as).Nodup->frA as<=1->ArgV K H0 F H σ as vs ds->(zt (as.map Jc) vs).Nodup
 | [],vs,ds,rp,h0,hs,nd,hf,av=>by cases vs <;> simp [zt]
 | a::as,[],ds,rp,h0,hs,nd,hf,av=>by cases a <;> exact av.elim
 | a::as,v::vs,[],rp,h0,hs,nd,hf,av=>by cases a <;> exact av.elim
 | .vl::as,v::vs,d::ds,rp,h0,hs,nd,hf,av=>by have q:=uP (as:=as) rp h0 hs nd hf av.2;cases v <;> exact q
 | .fr::as,v::vs,d::ds,rp,h0,hs,nd,hf,av=>by
  have f:frA as=0:=by simp only [frA] at hf; omega
  obtain ⟨⟨a,rfl,hz,E,o⟩,b⟩:=av;show (a::zt (as.map Jc) vs).Nodup;refine aP.mpr ⟨λz=>?_,uP rp h0 hs nd (by omega) b⟩;rcases vm b z with ⟨i,hi,e⟩ | ⟨_,n,_⟩
  ·exact h0 a ⟨i,hs i hi,e⟩ hz
  ·exact n f
 | .sl i::as,v::vs,d::ds,rp,h0,hs,nd,hf,av=>by
  obtain ⟨h1,_,b⟩:=av;have h:∀ j∈jl as,j∈own:=λj G=>hs j (ac _ G);have hi:i∈own:=hs i (ae.mpr (.inl rfl));obtain ⟨g,c⟩:=aP.mp nd;have q:=uP rp h0 h c hf b;cases v with
  | ref a=>
   show (a::zt (as.map Jc) vs).Nodup;refine aP.mpr ⟨λz=>?_,q⟩;rcases vm b z with ⟨j,G,e⟩ | ⟨n,_⟩
   ·exact g (by rw [rp.dis i j a hi (h j G) h1 e]; exact G)
   ·exact h0 a ⟨i,hi,h1⟩ n
  | _=>exact q
theorem wH:∀ {as:List AK} {b:List D} {ρ:Sl} {i:Nat},i∉jl as->(jq as b ρ)[i]?=ρ[i]?
 | [],b,ρ,i,h=>by cases b <;> rfl
 | a::as,[],ρ,i,h=>by cases a <;> rfl
 | .vl::as,d::b,ρ,i,h=>wH (as:=as) h
 | .fr::as,d::b,ρ,i,h=>wH (as:=as) h
 | .sl j::as,d::b,ρ,i,h=>by
  have h':i≠j/\i∉jl as:=by simpa [jl] using h
  show (jq as b (ρ.set j (iB d)))[i]?=_;rw [wH h'.2,ap (ba h'.1)]
theorem zD:∀ {as:List AK} {b:List D} {ρ:Sl},(jq as b ρ).length=ρ.length
 | [],b,ρ=>by cases b <;> rfl
 | a::as,[],ρ=>by cases a <;> rfl
 | .vl::as,d::b,ρ=>zD (as:=as)
 | .fr::as,d::b,ρ=>zD (as:=as)
 | .sl j::as,d::b,ρ=>by show (jq as b (ρ.set j (iB d))).length=_;rw [zD,fz]
theorem Jd {F' H':Hp}:∀ {as:List AK} {vs:List V} {ds b:List D} {ρ:Sl},(jl as).Nodup->(∀ i∈jl as,i < ρ.length)->ArgV K H0 F H σ as vs ds->yQ K F' H' (as.map Jc) vs b->∀ i∈jl as,∃ d a,(jq as b ρ)[i]?=iB (iB d)/\σ[i]?=iB (iB (V.ref a))/\F' a=iD/\OwnIs K F' H' a d
 | [],vs,ds,b,ρ,nd,hl,av,o,i,hi=>by simp [jl] at hi
 | a::as,[],ds,b,ρ,nd,hl,av,o,i,hi=>by cases a <;> exact av.elim
 | a::as,v::vs,[],b,ρ,nd,hl,av,o,i,hi=>by cases a <;> exact av.elim
 | a::as,v::vs,d::ds,[],ρ,nd,hl,av,o,i,hi=>by cases a <;> exact o.elim
 | .vl::as,v::vs,d::ds,u::b,ρ,nd,hl,av,o,i,hi=>Jd (as:=as) nd hl av.2 o i hi
 | .fr::as,v::vs,d::ds,u::b,ρ,nd,hl,av,o,i,hi=>Jd (as:=as) nd hl av.2 o i hi
 | .sl j::as,v::vs,d::ds,u::b,ρ,nd,hl,av,o,i,hi=>by
  obtain ⟨g,n⟩:=aP.mp nd;obtain ⟨h1,_,c⟩:=av;obtain ⟨⟨a,e,E,ow⟩,o2⟩:=o;subst e;rcases ae.mp hi with e | hi;·subst e;refine ⟨u,a,?_,h1,E,ow⟩;show (jq as b (ρ.set i (iB u)))[i]?=_;rw [wH g,aG (hl i (ae.mpr (.inl rfl)))]
  ·exact Jd (as:=as) (ρ:=ρ.set j (iB u)) n (λk h=>by rw [fz]; exact hl k (ac _ h)) c o2 i hi
end
noncomputable def qw (as:List AK) (G:List D->Out (D×List D)) (fr:Sl->Out (List D×Sl)):Sl->Out (D×Sl):=λρ=>(fr ρ).bind λp=>match qD as p.1 p.2 with
 | some ds=>match G ds with
  | .ok q=>.ok (q.1,jq as q.2 p.2)
  | .exc c o=>.exc c (jq as (o.map (·.getD .non)) p.2)
  | .bad=>.bad
 | none=>.bad
variable {G:List D->Out (D×List D)} {mr:Mo} {CX:CXT} {fd:j6} {ps:List Str}
section
variable {fr:Sl->Out (List D×Sl)}
theorem UI {F' H':Hp} {b:List D} (r:Rep C.K own F H σ ρ) (h0:∀ x,OA own σ x->H0 x≠iD) (h:∀ i∈jl as,i∈own) (nd:(jl as).Nodup) (f:ArgV C.K H0 F H σ as vs ds)
  (y:Same F' H') (c:Chg (LA (as.map Jc) vs) F H F' H') (o:yQ C.K F' H' (as.map Jc) vs b):Rep C.K own F' H' σ (jq as b ρ):=by
 have pin:=Jd (ρ:=ρ) nd (λi hi=>by obtain ⟨d,e⟩:=r.opn i (h i hi);exact (aB.mp e).1) f o;refine ⟨y,by rw [zD]; exact r.len,λi d hi e=>?_,λi d hi e=>?_,λi hi=>?_,r.dis⟩;·rw [wH (λz=>hi (h i z))] at e;obtain ⟨v,h1,h2⟩:=r.val i d hi e;exact ⟨v,h1,h2.mono c.grow⟩
 ·by_cases q:i∈jl as;·obtain ⟨d',a,e1,m,E,k⟩:=pin i q;rw [e1] at e;cases e;exact ⟨a,m,E,k⟩
  ·rw [wH q] at e;obtain ⟨a,h1,h2,h3⟩:=r.ow i d hi e;have l:¬LA (as.map Jc) vs a:=λz=>by
    rcases vm f z with ⟨j,G,p⟩ | ⟨n,_⟩
    ·exact q (by rw [r.dis i j a hi (h j G) h1 p]; exact G)
    ·exact h0 a ⟨i,hi,h1⟩ n
   refine ⟨a,h1,?_,h3.grow c.grow λo' g=>c.keep a o' g l⟩;cases g:F' a with
   | none=>rfl
   | some u=>
    rcases c.new a (by rw [g]; simp) with z | z | z;·exact absurd h2 z
    ·exact absurd z h3.there
    ·exact absurd z l
 ·by_cases q:i∈jl as;·obtain ⟨d',a,e1,_⟩:=pin i q;exact ⟨d',e1⟩
  ·rw [wH q];exact r.opn i hi
theorem ZN {Q:VK} (l:∀ i∈C.ox,i∈own) (s:∀ i∈jl as,i∈own) (nd:(jl as).Nodup) (u:frA as<=1) (h:tE C own mr (qw as G fr) σ H Q):tAr C own as fr σ H λvs H1=>spD C.K C.cv (as.map Jc) mr G (vs++[]) H1 Q C.E:=by
 obtain ⟨F,ρ,r,h⟩:=h;have h0:∀ x,OA own σ x->H x≠none:=λx z=>(r.OA_there z).1;refine ⟨F,ρ,r,?_⟩;unfold qw at h;cases k:fr ρ with
 | ok p=>
  rw [k] at h;obtain ⟨ds,ρ1⟩:=p;intro vs F1 H1 a m g;rw [bf];have h1:Po C own mr σ F H (match qD as ds ρ1 with | some ds=>(match G ds with | .ok q=>.ok (q.1,jq as q.2 ρ1) | .exc c o=>.exc c (jq as (o.map (·.getD .non)) ρ1) | .bad=>.bad) | none=>.bad) Q:=h;cases q:qD as ds ρ1 with
  | none=>simp only [q] at h1; exact h1.elim
  | some f=>
   simp only [q] at h1;have lo:∀ x,LA (as.map Jc) vs x->OA own σ x\/H x=none:=λx z=>by
    rcases vm g z with ⟨i,hi,e⟩ | ⟨n,_⟩
    ·exact .inl ⟨i,s i hi,e⟩
    ·exact .inr n
   refine ⟨F1,f,a.sub,yS a s g q,uP a h0 s nd u g,?_⟩;cases j:G f with
   | ok p=>rw [j] at h1;obtain ⟨d,b⟩:=p;exact λv F' H' y c o t=>h1 v F' H' (UI a h0 s nd g y c o) (m.trans c lo) (MoIs.back (Ha:=H1) m t)
   | exc x o=>rw [j] at h1; exact λF' H' y c b=>h1 F' H' y ((UI a h0 s nd g y c b).ioIs l) (m.trans c lo)
   | bad=>rw [j] at h1; exact h1.elim
 | exc c=>rw [k] at h; exact h
 | bad=>rw [k] at h; exact h.elim
theorem qdA {k:Nat} {f:Addr} {p pos:Pos} (F:FnOk X.prog X.w X.K X.mg X.base CX k f fd ps (spD C.K C.cv ms mr G)) (r:Room k X.A) (hg:Gl X x) (m:X.mg x=iB (.ref f)) (a:keepIn X.K (.ref f)=iH) (j:Binds X.K fd ps []) (hx:ui CX X C.E)
  (n:PA X (e::es) (tAr C own as fr)) (s:ms=as.map Jc:=by rfl) (c:∀ i∈jl as,i∈own:=by decide) (nd:(jl as).Nodup:=by decide) (d:frA as<=1:=by decide) (o:∀ i∈C.ox,i∈own:=by exact um rfl) (b:(x == ("__debug__":Str))=false:=by decide) (g:starEach (e::es) X.env=(iF,eval e X.env)::starEach es X.env:=by exact jT rfl)
  (l:(backTo pos (starEach es X.env)).any (·.1)=false:=by exact yM rfl):PE X (.Call (.Name x p) (e::es) [] pos) (tE C own mr (qw as G fr)):=by
 subst s;exact jG (qdd F r hg m a j .nil hx n b g l) λσ H Q h=>ZN o c nd d h
end
structure ItIs (K:Frag) (F:Hp) (J:It) (ds:List D):Prop where
 go:∀ i H,i < ds.length->Same F H->J.go i H
 yld:∀ i Fi H x H' d,ds[i]?=iB d->Same F Fi->Same Fi H->J.yld i H x H'->∃ F',Chg No Fi H F' H'/\Same F' H'/\Is K F' x d
 stop:∀ i H,ds.length<=i->Same F H->J.stop i H
def PoI (C:Ct) (own:List Nat) (σ:St) (F H:Hp) (r:Out (List D×Sl)) (R:It->Hp->Prop):Prop:=match r with
 | .ok (ds,ρ')=>∀ J F' H',Rep C.K own F' H' σ ρ'->Chg (OA own σ) F H F' H'->ItIs C.K F' J ds->R J H'
 | .exc c ρ'=>∀ F' H',Same F' H'->XS C.K C.ox F' H' σ ρ'->Chg (OA own σ) F H F' H'->C.E (C.cv c) iD H'
 | .bad=>False
def tIt (C:Ct) (own:List Nat) (f:Sl->Out (List D×Sl)):TI:=λσ H R=>∃ F ρ,Rep C.K own F H σ ρ/\PoI C own σ F H (f ρ) R
noncomputable def Ql:D->Out (List D)
 | .lst xs=>.ok xs
 | .tup xs=>.ok xs
 | _=>.bad
noncomputable def qjb (f:Sl->Out (D×Sl)):Sl->Out (List D×Sl):=λρ=>(f ρ).bind λp=>(Ql p.1).bind λds=>.ok (ds,p.2)
theorem PoI.bindV {m:Mo} {k:D×Sl->Out (List D×Sl)} {Q:It->Hp->Prop} {R:VK} (hp:PoI C own σ F H (o.bind k) Q)
  (h:∀ v F1 H1 d ρ1,Rep C.K own F1 H1 σ ρ1->Chg (OA own σ) F H F1 H1->MoIs C.K m H F1 H1 v d->PoI C own σ F H (k (d,ρ1)) Q->R v H1):Po C own m σ F H o R:=by
 cases o with
 | ok p=>exact λv F1 H1 a c b=>h v F1 H1 p.1 p.2 a c b hp
 | exc x=>exact hp
 | bad=>exact hp.elim
variable {fb:Sl->Out (Fl×Sl)} {tg iter:Expr} {xs:List V} {gs:List D->Sl->Out Sl} {fi:Sl->Out (List D×Sl)}
section
theorem qbb {t t':TI} (h:PI X tg e t) (i:∀ σ H Q,t' σ H Q->t σ H Q):PI X tg e t':=⟨λpins s σ H R I hw=>h pins s σ H R I (i σ H R hw)⟩
theorem qfI (p:SqL K F a xs) (t:IsL K F xs ds):ItIs K F (Itl K a) ds where
 go:=λi H hi s=>by
  have hx:i < xs.length:=by rw [t.length]; exact hi
  exact ⟨xs,xs[i],s.seq p,by simp [hx]⟩
 yld:=λi Fi H x H' d e s1 s2 y=>by obtain ⟨rfl,y⟩:=y;obtain ⟨v,h1,h2⟩:=t.getD e;have q:=y xs ((s1.trans s2).seq p);rw [h1] at q;cases q;exact ⟨Fi,.refl,s2,h2.mono s1⟩
 stop:=λi H hi s=>⟨xs,s.seq p,by rw [t.length]; exact hi⟩
theorem qfJ (p:SqT K F a xs) (t:IsL K F xs ds):ItIs K F (Itt K a) ds where
 go:=λi H hi s=>by
  have hx:i < xs.length:=by rw [t.length]; exact hi
  exact ⟨xs,xs[i],qV s p,by simp [hx]⟩
 yld:=λi Fi H x H' d e s1 s2 y=>by obtain ⟨rfl,y⟩:=y;obtain ⟨v,h1,h2⟩:=t.getD e;have q:=y xs (qV (s1.trans s2) p);rw [h1] at q;cases q;exact ⟨Fi,.refl,s2,h2.mono s1⟩
 stop:=λi H hi s=>⟨xs,qV s p,by rw [t.length]; exact hi⟩
noncomputable def ge (lo:Int) (n:Nat):List D:=(au n).map λk=>.int (lo+(k:Nat))
theorem qct {lo:Int}:ItIs K F (Itr lo n) (ge lo n) where
 go:=λi H hi _=>by
  have:i < n:=by simpa [ge] using hi
  exact this
 yld:=λi Fi H x H' d e s1 s2 y=>by
  obtain ⟨rfl,rfl⟩:=y;have e:d=.int (lo+i):=by
   unfold ge at e;rw [aE] at e;cases q:(au n)[i]? with
   | none=>rw [q] at e; cases e
   | some k=>
    rw [q] at e;have h:k=i:=by have:=aB.mp q;obtain ⟨_,z⟩:=this;simpa using z.symm
    subst h;exact (aU.inj e).symm
  subst e;exact ⟨Fi,.refl,s2,.int _⟩
 stop:=λi H hi _=>by
  have:n<=i:=by simpa [ge] using hi
  exact this
noncomputable def jB (f:Sl->Out (D×Sl)):Sl->Out (List D×Sl):=λρ=>(f ρ).bind λp=>match p.1 with
 | .int j=>if -(2 ^ 62)<=j/\j < 2 ^ 62 then .ok (ge 0 j.toNat,p.2) else .bad
 | _=>.bad
theorem va {p:Pos} (hg:Gl X "range") (b:X.mg "range"=iD) (h:PE X e (tE C own m f)) (s:starEach [e] X.env=[(iF,eval e X.env)]:=by exact qJ rfl):PI X tg (.Call (.Name "range" p) [e] [] pos) (tIt C own (jB f)):=by
 refine qbb (Za hg b (qO h jE s) s) λσ H R ⟨F,ρ,r,h⟩=>⟨F,ρ,r,PoI.bindV h λv F1 H1 d ρ1 a k c h1=>?_⟩
 cases d with
 | int j=>
  obtain rfl:=c.top.int;have h1:PoI C own σ F H (if -(2 ^ 62)<=j/\j < 2 ^ 62 then .ok (ge 0 j.toNat,ρ1) else .bad) R:=h1;by_cases z:-(2 ^ 62)<=j/\j < 2 ^ 62;·rw [if_pos z] at h1;exact ⟨j,rfl,z.1,z.2,h1 _ F1 H1 a k qct⟩
  ·rw [if_neg z] at h1; exact h1.elim
 | _=>exact h1.elim
def tGd (C:Ct) (own:List Nat) (g:D->Sl->Out Sl):TG:=λv σ H Q=>∃ F ρ d,Rep C.K own F H σ ρ/\Is C.K F v d/\∃ ρ',g d ρ=.ok ρ'/\∀ σ',Rep C.K own F H σ' ρ'->(∀ b,OA own σ' b->OA own σ b)->(∀ i∈C.io,σ'[i]?=σ[i]?)->Q σ' H
def qgR (C:Ct) (own:List Nat) (g:List D->Sl->Out Sl):TGs:=λvs σ H Q=>∃ F ρ ds,Rep C.K own F H σ ρ/\IsL C.K F vs ds/\∃ ρ',g ds ρ=.ok ρ'/\∀ σ',Rep C.K own F H σ' ρ'->(∀ b,OA own σ' b->OA own σ b)->(∀ i∈C.io,σ'[i]?=σ[i]?)->Q σ' H
theorem qfK {t t':TG} (h:PG X e t) (i:∀ v σ H Q,t' v σ H Q->t v σ H Q):PG X e t':=⟨λpins s σ H v u Q I r hw=>h pins s σ H v u Q I r (i v σ H Q hw)⟩
theorem qcu {t t':TGs} (h:PGs X es t) (i:∀ v σ H Q,t' v σ H Q->t v σ H Q):PGs X es t':=⟨λpins s σ H v u Q I r hw=>h pins s σ H v u Q I r (i v σ H Q hw)⟩
noncomputable def gNm (i:Nat):D->Sl->Out Sl:=λd ρ=>if i < ρ.length then .ok (ρ.set i (iB d)) else .bad
theorem Qy {own:List Nat} (h:i∉own):uf own [i]=own:=by unfold uf;rw [List.filter_eq_self];intro j G;simp only [aD,decide_eq_true_eq];exact λz=>h (by rw [<-z]; exact G)
theorem qA (c:X.N.Nodup) (hi:X.N[i]?=iB x) (hx:Loc X.env.scope x) (m:i∉own:=by decide) (o:i∉C.io:=by exact Uy rfl) (h:X.fn x=iH\/X.env.scope.names.lookup x=iB .local:=by first | exact .inl rfl | exact .inr rfl):PG X (.Name x pos) (tGd C own (gNm i)):=by
 refine qfK (qc8 c hi hx h) λv σ H Q ⟨F,ρ,d,a,is,ρ',e,k⟩=>?_;unfold gNm at e;by_cases z:i < ρ.length
 ·rw [if_pos z] at e;cases e;have r2:=a.put z is;rw [Qy m] at r2;refine k _ r2 (λb q=>?_) λj G=>ap λq=>o (by rw [q]; exact G);have g:OA (uf own [i]) (σ.set i (iB v)) b:=by rw [Qy m]; exact q
  exact g.put
 ·rw [if_neg z] at e; cases e
noncomputable def wb:List D->Sl->Out Sl
 | [],ρ=>.ok ρ
 | _::_,_=>.bad
noncomputable def qU (g:D->Sl->Out Sl) (gs:List D->Sl->Out Sl):List D->Sl->Out Sl
 | d::ds,ρ=>(g d ρ).bind λρ1=>gs ds ρ1
 | [],_=>.bad
theorem zE:PGs X [] (qgR C own wb):=by
 refine qcu qc9 λvs σ H Q ⟨F,ρ,ds,a,is,ρ',e,k⟩=>?_;cases is with
 | nil=>cases e; exact ⟨rfl,k σ a (λ_ z=>z) λ_ _=>rfl⟩
 | cons _ _=>cases e
theorem kE {g:D->Sl->Out Sl} (h1:PG X e (tGd C own g)) (h2:PGs X es (qgR C own gs)) (s:(assignEach (e::es) X.env).map (·.2)=assign e X.env::(assignEach es X.env).map (·.2):=by rfl):PGs X (e::es) (qgR C own (qU g gs)):=by
 refine qcu (qaT h1 h2 s) λvs σ H Q ⟨F,ρ,ds,p,is,ρ',e,k⟩=>?_;cases is with
 | nil=>cases e
 | @cons v d vs ds a t=>
  have e:(g d ρ).bind (λρ1=>gs ds ρ1)=.ok ρ':=e;cases q:g d ρ with
  | ok ρ1=>rw [q] at e;exact ⟨v,vs,rfl,F,ρ,d,p,a,ρ1,q,λσ1 h j m=>⟨F,ρ1,ds,h,t,ρ',e,λf r o l=>k f r (λb z=>j b (o b z)) λi hi=>(l i hi).trans (m i hi)⟩⟩
  | exc c=>rw [q] at e; cases e
  | bad=>rw [q] at e; cases e
noncomputable def wc (n:Nat) (gs:List D->Sl->Out Sl):D->Sl->Out Sl
 | .tup ds,ρ=>if ds.length=n then gs ds ρ else .bad
 | _,_=>.bad
theorem Je {k:Nat} (m:C.K=X.K) (f:X.calm=iH) (h:PGs X es (qgR C own gs)) (b:(assignEach es X.env).length=n:=by rfl) (c:(assignEach es X.env).findIdx? (·.1)=none:=by rfl):PG X (.Tuple es k pos) (tGd C own (wc n gs)):=by
 refine qfK (qfe f h b c) λv σ H Q ⟨F,ρ,d,r,is,ρ',e,k⟩=>?_;cases is with
 | @tup a xs ds p t=>
  have e:(if ds.length=n then gs ds ρ else .bad)=.ok ρ':=e;by_cases z:ds.length=n;·rw [if_pos z] at e;exact ⟨a,xs,rfl,by rw [<-m]; exact qV r.sub p,by rw [t.length]; exact z,F,ρ,ds,r,t,ρ',e,k⟩
  ·rw [if_neg z] at e; cases e
 | _=>cases e
noncomputable def qjc (fe:Sl->Out (D×Sl)) (g:D->Sl->Out Sl):Sl->Out (Fl×Sl):=λρ=>(fe ρ).bind λp=>match g p.1 p.2 with
 | .ok ρ'=>.ok (.nx,ρ')
 | _=>.bad
noncomputable def jR (g:D->Sl->Out Sl) (fb:Sl->Out (Fl×Sl)):List D->Sl->Out (Fl×Sl)
 | [],ρ=>.ok (.nx,ρ)
 | d::ds,ρ=>(g d ρ).plain.bind λρ1=>(fb ρ1).bind λp=>match p.1 with
  | .nx=>jR g fb ds p.2
  | .ct=>jR g fb ds p.2
  | .bk=>.ok (.nx,p.2)
  | .rt v=>.ok (.rt v,p.2)
noncomputable def zu (fi:Sl->Out (List D×Sl)) (g:D->Sl->Out Sl) (fb:Sl->Out (Fl×Sl)):Sl->Out (Fl×Sl):=λρ=>(fi ρ).bind λp=>jR g fb p.1 p.2
theorem jS {body:List Stmt} {g:D->Sl->Out Sl} {fb:Sl->Out (Fl×Sl)} (hp:PassesOwn (model X.prog X.w) X.A X.env X.xe) (U:X.calm=iH) (hi:PI X tg iter (tIt C own fi)) (hg:PG X tg (tGd C own g))
  (V:PSs X body (tSt { C with ol:=own } own own fb)) (S:∀ x,foldedSetIterable iter X.env x=pure x:=by intro _; rfl):PS X (.For tg iter body [] pos) (tSt C own own (zu fi g fb)):=by
 refine KG (qfg hp U hi hg V S) λD σ H ⟨F,ρ,Q,h⟩=>⟨F,ρ,Q,?_⟩
 unfold zu at h;cases K:fi ρ with
 | exc c=>rw [K] at h; exact h
 | bad=>rw [K] at h; exact h.elim
 | ok p=>
  rw [K] at h;obtain ⟨ds,ρ1⟩:=p;intro J F1 H1 E P it;have h:PoS C own own σ F H (jR g fb ds ρ1) D:=h;refine ⟨λi m σ' H'=>m=ds.length - i/\i<=ds.length/\∃ F' ρ',Nx C own own σ F H ρ' σ' F' H'/\Same F1 F'/\PoS C own own σ' F' H' (jR g fb (ds.drop i) ρ') D,⟨ds.length,by simp,bi _,F1,ρ1,.ofE E P,Same.refl _,h.shift (.ofE E P)⟩,?_⟩;rintro i m σ' H' ⟨rfl,T,F',ρ',nx,gr,po⟩;by_cases t:i < ds.length
  ·have hd:ds.drop i=ds[i]::ds.drop (i+1):=List.drop_eq_getElem_cons t;rw [hd] at po;have po:PoS C own own σ' F' H' ((g ds[i] ρ').plain.bind λρ1=>(fb ρ1).bind λp=>match p.1 with | .nx=>jR g fb (ds.drop (i+1)) p.2 | .ct=>jR g fb (ds.drop (i+1)) p.2 | .bk=>.ok (.nx,p.2) | .rt v=>.ok (.rt v,p.2)) D:=po;refine .inr ⟨it.go i H' t (gr.trans nx.rep.sub),λr H2=>ds.length - (i+1)=ds.length - (i+1)/\i+1<=ds.length/\∃ F' ρ',Nx C own own σ F H ρ' r F' H2/\Same F1 F'/\PoS C own own r F' H2 (jR g fb (ds.drop (i+1)) ρ') D,λr H2 q=>⟨ds.length - (i+1),by omega,q⟩,λx H2 y=>?_⟩;obtain ⟨u,c2,s2,N⟩:=it.yld i F' H' x H2 ds[i] (by simp [t]) gr nx.rep.sub y;cases G:g ds[i] ρ' with
   | exc c=>rw [G] at po; exact po.elim
   | bad=>rw [G] at po; exact po.elim
   | ok ρ2=>
    rw [G] at po;refine ⟨u,ρ',ds[i],nx.rep.grow c2 s2,N,ρ2,G,λk B L O=>⟨u,ρ2,B,?_⟩⟩;have M:Nx C own own σ' F' H' ρ2 k u H2:=⟨B,c2.ofNo,λb z=>.inl (L b z),O⟩
    have a:=PoS.shift (show PoS C own own σ' F' H' ((fb ρ2).bind λp=>match p.1 with | .nx=>jR g fb (ds.drop (i+1)) p.2 | .ct=>jR g fb (ds.drop (i+1)) p.2 | .bk=>.ok (.nx,p.2) | .rt v=>.ok (.rt v,p.2)) D from po) M;have up:∀ {j f l o},Nx { C with ol:=own } own own k u H2 j f l o->Nx C own own k u H2 j f l o:=λz=>⟨z.rep,z.chg,z.oa,z.io⟩
    cases I:fb ρ2 with
    | exc c=>rw [I] at a; exact a
    | bad=>rw [I] at a; exact a.elim
    | ok p=>
     rw [I] at a;obtain ⟨W,j⟩:=p;cases W with
     | nx=>exact λf l o n=>⟨rfl,t,l,j,(nx.then M).then (up n),(gr.trans c2.grow).trans n.chg.grow,PoS.shift (show PoS C own own k u H2 (jR g fb (ds.drop (i+1)) j) D from a) (up n)⟩
     | ct=>exact λf l o n=>⟨rfl,t,l,j,(nx.then M).then (up n),(gr.trans c2.grow).trans n.chg.grow,PoS.shift (show PoS C own own k u H2 (jR g fb (ds.drop (i+1)) j) D from a) (up n)⟩
     | bk=>exact λf l o n=>a f l o (up n)
     | rt d=>exact λv f l o s io c e R=>a v f l o s io c e R
  ·have e:i=ds.length:=by omega
   subst e;rw [List.drop_length] at po;exact .inl ⟨it.stop _ H' (ax _) (gr.trans nx.rep.sub),po σ' F' H' (.refl nx.rep)⟩
noncomputable def jr (ft:Sl->Out (Bool×Sl)) (fb:Sl->Out (Fl×Sl)):Nat->Sl->Out (Fl×Sl)
 | 0,_=>.bad
 | n+1,ρ=>(ft ρ).bind λq=>if q.1=iH then (fb q.2).bind λp=>match p.1 with
  | .nx=>jr ft fb n p.2
  | .ct=>jr ft fb n p.2
  | .bk=>.ok (.nx,p.2)
  | .rt v=>.ok (.rt v,p.2)
  else .ok (.nx,q.2)
theorem gf {t:Expr} {body:List Stmt} (n:Nat) (hp:PassesOwn (model X.prog X.w) X.A X.env X.xe) (B:PT X t (tT C own ft)) (E:PSs X body (tSt { C with ol:=own } own own fb)):PS X (.While t body [] pos) (tSt C own own (jr ft fb n)):=by
 refine KG (qaU hp B E) λD σ H ⟨F,ρ,x,h⟩=>?_;refine ⟨λm σ' H'=>∃ F' ρ',Rep C.K own F' H' σ' ρ'/\PoS C own own σ' F' H' (jr ft fb m ρ') D,⟨n,F,ρ,x,h⟩,?_⟩;rintro m σ1 H1 ⟨F1,ρ1,l,po⟩;refine ⟨F1,ρ1,l,?_⟩;cases m with
 | zero=>exact po.elim
 | succ m=>
  have po:PoS C own own σ1 F1 H1 ((ft ρ1).bind λq=>if q.1=iH then (fb q.2).bind λp=>match p.1 with | .nx=>jr ft fb m p.2 | .ct=>jr ft fb m p.2 | .bk=>.ok (.nx,p.2) | .rt v=>.ok (.rt v,p.2) else .ok (.nx,q.2)) D:=po;refine PoS.bindT po λj H2 k ρ2 r c2 h2=>?_;cases k with
  | false=>exact h2 σ1 j H2 (.refl r)
  | true=>
   refine ⟨λg u=>∃ F' ρ',Rep C.K own F' u g ρ'/\PoS C own own g F' u (jr ft fb m ρ') D,λg u q=>⟨m,by omega,q⟩,j,ρ2,r,?_⟩;have h2:PoS C own own σ1 j H2 ((fb ρ2).bind λp=>match p.1 with | .nx=>jr ft fb m p.2 | .ct=>jr ft fb m p.2 | .bk=>.ok (.nx,p.2) | .rt v=>.ok (.rt v,p.2)) D:=h2;have up:∀ {a f J b},Nx { C with ol:=own } own own σ1 j H2 a f J b->Nx C own own σ1 j H2 a f J b:=λz=>⟨z.rep,z.chg,z.oa,z.io⟩
   cases o:fb ρ2 with
   | exc c=>rw [o] at h2; exact h2
   | bad=>rw [o] at h2; exact h2.elim
   | ok p=>
    rw [o] at h2;obtain ⟨G,a⟩:=p;cases G with
    | nx=>exact λf J b i=>⟨J,a,i.rep,PoS.shift (show PoS C own own σ1 j H2 (jr ft fb m a) D from h2) (up i)⟩
    | ct=>exact λf J b i=>⟨J,a,i.rep,PoS.shift (show PoS C own own σ1 j H2 (jr ft fb m a) D from h2) (up i)⟩
    | bk=>exact λf J b i=>h2 f J b (up i)
    | rt d=>exact λv f J b s io c e y=>h2 v f J b s io c e y
end
noncomputable def Kg (cells:List (Str×Addr)):List (Str×k6)->List (Str×Addr)->List (Str×Addr)
 | [],acc=>acc
 | (n,k)::r,acc=>if (k == .free)=iH then Kg cells r ((n,(cells.lookup n).getD 0)::acc) else Kg cells r acc
variable {env:Env}
theorem uq:∀ (names:List (Str×k6)) (acc:List (Str×Addr)),(∀ x∈names,x.2=.free->∃ c,env.cells.lookup x.1=iB c) ->(forIn names acc λ(x:Str×k6) (cs:List (Str×Addr))=>if (x.2 == bv)=iH then (do let a <-cellOf env x.1; pure (cC ((x.1,a)::cs))) else pure (cC cs):Sem (List (Str×Addr)))=pure (Kg env.cells names acc)
 | [],acc,_=>rfl
 | (n,k)::r,acc,h=>by
  rw [d7];by_cases q:(k == bv)=iH
  ·obtain ⟨c,d⟩:=h (n,k) ai (by simpa using q);have e:cellOf env n=pure c:=by unfold cellOf; rw [d]
   simp only [q,if_true,e];have j:=uq r ((n,c)::acc) (λx hx=>h x (ac _ hx));simp only [Kg,q,if_true,d,Option.getD_some];exact j
  ·simp only [q,if_false,Kg];exact uq r acc (λx hx=>h x (ac _ hx))
variable {scope:lc}
theorem Qz (h:∀ x∈scope.names,x.2=.free->∃ c,env.cells.lookup x.1=iB c):closureFor scope env=pure (Kg env.cells scope.names []):=by have:=uq scope.names [] h;unfold closureFor;simp only [bind_pure];exact this
variable {cells:List (Str×Addr)}
theorem yy:∀ {names:List (Str×k6)} {acc:List (Str×Addr)} {x:Str} {c:Addr},(∀ y∈names,y.2=.free->∃ c,cells.lookup y.1=iB c)->(Kg cells names acc).lookup x=iB c->cells.lookup x=iB c\/acc.lookup x=iB c
 | [],acc,x,c,_,h=>.inr h
 | (n,k)::r,acc,x,c,hf,h=>by
  unfold Kg at h;by_cases q:(k == bv)=iH
  ·rw [if_pos q] at h;obtain ⟨T,d⟩:=hf (n,k) ai (by simpa using q);rcases yy (λy B=>hf y (ac _ B)) h with z | z;·exact .inl z
   ·rw [cm] at z;have d:cells.lookup n=iB T:=d;by_cases e:(x == n)=iH
    ·rw [e] at z;simp only [d,Option.getD_some] at z;have:x=n:=by simpa using e
     subst this;rw [d]; exact .inl z
    ·have e:(x == n)=false:=by simpa using e
     rw [e] at z;exact .inr z
  ·rw [if_neg q] at h;exact yy (λy B=>hf y (ac _ B)) h
theorem Jf:∀ {names:List (Str×k6)} {acc:List (Str×Addr)} {x:Str},(∃ c,acc.lookup x=iB c)->∃ c,(Kg cells names acc).lookup x=iB c
 | [],_,_,h=>h
 | (n,k)::r,acc,x,h=>by
  unfold Kg;by_cases q:(k == bv)=iH
  ·rw [if_pos q];refine Jf ?_;obtain ⟨c,d⟩:=h;rw [cm];by_cases e:(x == n)=iH;·rw [e]; exact ⟨_,rfl⟩
   ·have e:(x == n)=false:=by simpa using e
    rw [e]; exact ⟨c,d⟩
  ·rw [if_neg q]; exact Jf h
theorem zF:∀ {names:List (Str×k6)} {acc:List (Str×Addr)} {x:Str},(x,bv)∈names->∃ c,(Kg cells names acc).lookup x=iB c
 | (n,k)::r,acc,x,h=>by
  unfold Kg;rcases ae.mp h with e | h
  ·cases e;rw [if_pos (by rfl)];refine Jf ?_;rw [cm,beq_self_eq_true];exact ⟨_,rfl⟩
  ·by_cases q:(k == bv)=iH;·rw [if_pos q]; exact zF h
   ·rw [if_neg q]; exact zF h
noncomputable def jZ (X:Cx) (scope:lc) (N:List Str) (fp:List Addr) (L:Addr) (s:iI) (H:Hp):Cx:=
 { X with N:=N,s₀:=s,H₀:=H,env:=compEnvC scope (Kg X.env.cells scope.names []) L X.env,outer:=X.stack,stack:=X.stack,ex:=fp,fn:=λ_=>iF,pn:=[],xe:=λ_ _=>False }
structure ScOk (X:Cx) (scope:lc):Prop where
 kind:scope.kind=.function
 nocell:∀ y∈scope.names,y.2≠.cell
 names:∀ y∈scope.names,y.2=.local->scope.names.lookup y.1=iB .local
 free:∀ y∈scope.names,y.2=.free->X.env.kindOf y.1=iB .cell\/X.env.kindOf y.1=iB .free
 frl:∀ y∈scope.names,y.2=.free->scope.names.lookup y.1=iB .free
theorem uQ {a:α}:∀ {l:List (Str×α)},l.lookup x=iB a->(x,a)∈l
 | [],h=>by simp at h
 | (n,k)::r,h=>by
  rw [cm] at h;by_cases e:(x == n)=iH
  ·rw [e] at h;have h:iB k=iB a:=h;cases h;have:x=n:=by simpa using e
   subst this;exact ai
  ·have e:(x == n)=false:=by simpa using e
   rw [e] at h;exact ac _ (uQ h)
theorem xX {k:k6} (h:(relabel scope env).names.lookup x=iB k) (b:k=.cell\/k=.free) (a:∀ y∈scope.names,y.2≠.cell):(x,bv)∈scope.names:=by
 have m:=uQ h;obtain ⟨⟨n,k'⟩,c,e⟩:=aw.mp m;dsimp only at e;by_cases q:(k' == bv&&env.scope.kind == .function&&env.kindOf n == iB .cell)=iH
 ·rw [if_pos q] at e;cases e;have:k'=.free:=by rw [aK,aK] at q;simpa using q.1.1
  subst this;exact c
 ·rw [if_neg q] at e;cases e;rcases b with rfl | rfl;·exact absurd rfl (a _ c)
  ·exact c
theorem KI (h:Vis (relabel scope env) x):∃ k,(x,k)∈scope.names:=by
 have go:∀ {k:k6},(relabel scope env).names.lookup x=iB k->∃ k,(x,k)∈scope.names:=λ{k} h=>by
  obtain ⟨⟨n,k'⟩,c,e⟩:=aw.mp (uQ h);dsimp only at e;by_cases q:(k' == bv&&env.scope.kind == .function&&env.kindOf n == iB .cell)=iH;·rw [if_pos q] at e;cases e;exact ⟨_,c⟩
  ·rw [if_neg q] at e;cases e;exact ⟨_,c⟩
 rcases h with h | h | h <;> exact go h
variable {pins:List (Addr×Obj)} {σc:St} {s s':iI} {fp:List Addr} {h':Heap}
section
theorem gh (I:Inv X pins σ H s) (S:ScOk X scope):∀ y∈scope.names,y.2=.free->∃ c,X.env.cells.lookup y.1=iB c:=λy B e=>I.ok.has y.1 (S.free y B e)
theorem qbc (I:Inv X pins σ H s) (S:ScOk X scope) (J:∀ b∈fp,VT X pins H b) (T:∀ b∈fp,b < s.heap.objs.size) (C:h'.Ns s.heap.objs.size (λ_=>iD))
  (w:∀ b o,s.heap.get? b=iB o->h'.get? b=iB o) (hl:σc.length=N.length)
  (B:∀ (j:Nat) (x:Str) (v:V),N[j]?=iB x->σc[j]?=iB (iB v)->(∃ k,(x,k)∈scope.names)->∃ i:Nat,X.N[i]?=iB x/\σ[i]?=iB (iB v)/\Vis X.env.scope x/\(x,bv)∈scope.names) {t:Nat} :
  Inv (jZ X scope N fp s.heap.objs.size s H) [] σc H { s with heap:=h',toks:=t }:=by
 have G:=gh I S;have cl:∀ x c,(Kg X.env.cells scope.names []).lookup x=iB c->X.env.cells.lookup x=iB c:=λx c e=>(yy G e).resolve_right (by simp);have A:∀ b∈fp,b∉frs X.stack:=λb g z=>by
  obtain ⟨f0,f1,f2,_⟩:=J b g;rcases ae.mp (I.stkSub b z) with e | e;·exact f1 e
  ·exact f2 e
 refine ⟨⟨I.ok.mod,?_,I.ok.glob,I.ok.blt,ax _,λx y c h1 h2=>I.ok.inj x y c (cl x c h1) (cl y c h2),λx hx=>?_,λx c h=>absurd h (by show ¬(iF=iH); exact bE),I.ok.hd,I.ok.frames,.inl rfl,λb g=>⟨aC (T b g),λx c e z=>?_⟩,I.bs,bz I.ok.bsz I.sz,λb o e g=>?_,A,I.stack,I.stkFree⟩,rfl,I.bare,Un.kept w,⟨_,C,λj x v e1 l Q=>?_⟩,λx c e=>?_,I.hok.fresh (ax _),λx c e=>I.freeC x c (cl x c e),λp hp=>absurd (show p∈([]:List (Addr×Obj)) from hp) (by simp),I.hok.kept w,hl⟩;·exact S.kind
 ·refine zF ?_;rcases hx with hx | hx;·exact xX hx (.inl rfl) S.nocell
  ·exact xX hx (.inr rfl) S.nocell
 ·exact (J b g).2.2.2.2.1 x c (cl x c e) z
 ·rcases (J b g).2.2.2.1 with z | z;·exact I.ok.noex b o e z
  ·have D:=aq e;exact absurd (aH D (bz I.ok.bsz z)) (bL _)
 ·obtain ⟨i,g1,Y,W,L⟩:=B j x v e1 l (KI Q);obtain ⟨m,Z,E⟩:=I.loc;obtain ⟨u,r,look⟩:=E i x v g1 Y W;refine ⟨u,r,?_⟩;obtain ⟨M,f⟩:=zF (cells:=X.env.cells) (acc:=[]) L;have K:=cl x M f;have kd:(jZ X scope N fp s.heap.objs.size s H).env.kindOf x=iB .cell\/(jZ X scope N fp s.heap.objs.size s H).env.kindOf x=iB .free\/(jZ X scope N fp s.heap.objs.size s H).env.kindOf x=iB .local:=by
   rcases Q with z | z | z;·exact .inr (.inr z)
   ·exact .inl z
   ·exact .inr (.inl z)
  rcases look with ⟨k,_⟩ | ⟨k,c,P,z⟩
  ·rcases S.free _ L rfl with q | q;·have q:X.env.kindOf x=iB .cell:=q;rw [k] at q; cases q
   ·have q:X.env.kindOf x=iB .free:=q;rw [k] at q; cases q
  ·rw [K] at P;cases P;obtain ⟨oc,d,a⟩:=z;rcases kd with q | q | q;·exact .inr ⟨.inl q,M,f,⟨oc,w _ _ d,a⟩⟩
   ·exact .inr ⟨.inr q,M,f,⟨oc,w _ _ d,a⟩⟩
   ·refine absurd q ?_;intro q;have R:=uQ (show (relabel scope X.env).names.lookup x=iB .local from q);obtain ⟨⟨n,k'⟩,U,e⟩:=aw.mp R;dsimp only at e;by_cases O:(k' == bv&&X.env.scope.kind == .function&&X.env.kindOf n == iB .cell)=iH;·rw [if_pos O] at e; cases e
    ·rw [if_neg O] at e;cases e;have e1:=S.names _ U rfl;have l:=S.frl _ L rfl;have e1:scope.names.lookup x=iB .local:=e1;have l:scope.names.lookup x=iB .free:=l;rw [e1] at l;cases l
 ·obtain ⟨v,oc,d,a⟩:=I.cell x c (cl x c e);exact ⟨v,oc,w _ _ d,a⟩
theorem qbd {H1:Hp} {s1:iI} {L:Addr} (I:Inv X pins σ H s) (h:∀ b∈fp,VT X pins H b) (J:Inv (jZ X scope N fp s.heap.objs.size s H) [] σc H' s') (y:bt s.heap.objs.size s'.heap h'):Inv X pins σ H' { s' with heap:=h' }:=by
 have a:H' s.heap.objs.size=none:=J.free;have ne:∀ b o,s.heap.get? b=iB o->b≠s.heap.objs.size:=λb o e=>aC (aq e);have U:Un (frs X.stack) fp H H' s.heap s'.heap:=J.base;refine I.call' (s':={ s' with heap:=h' }) (ch:=fp) J.os ⟨λb o e n h1 h2=>(y.2 b (ne b o e)).trans (U.keep b o e n h1 h2),λb o e n h1 h2=>?_,U.free,λb o e h2=>?_,U.tups,U.frzs,U.tbls⟩ (λb u e=>?_) J.bare λb f=>?_;·obtain ⟨sl,q⟩:=U.slot b o e n h1 h2;exact ⟨sl,(y.2 b (ne b o e)).trans q⟩
 ·obtain ⟨o',q⟩:=U.there b o e h2;exact ⟨o',(y.2 b (ne b o e)).trans q⟩
 ·refine (J.hok b u e).stay (λc w d q=>(y.2 c ?_).trans q) (λ_ q=>q) λ_ _ q=>q;rintro rfl;rcases d with z | z;·rw [<-z,a] at e; cases e
  ·rw [a] at z; cases z
 ·obtain ⟨f0,f1,f2,i,f4,g⟩:=h b f;exact ⟨i,f1,f4,g⟩
end
theorem Jg {prog:iJ} {w:iK} {A:iP} {R:lJ->iI->Prop} {s:iI} {elt target iter:Expr} {ifs:List Expr} {scope:lc} {pos:Pos} {it acc:iE} {env:Env} (I:Nat->iI->Prop)
  (turn:∀ n s,I n s->wpAny (model prog w) A (pyNext it) (λr d=>match r with
   | none=>R (.ok .next) d
   | some v=>wpAny (model prog w) A (letOwnedTupleGo target it v) (λ_ e=>wpAny (model prog w) A (assign target env v) (λ_ i=>
     wpAny (model prog w) A (forIn ifs iH λc r=>if r=iH then do let ok <-isTrue c env (eval c env); pure (cC ok) else pure (cC r)) (λok b=>
      if ok=iH then wpAny (model prog w) A (eval elt env) (λx g=>
       wpAny (model prog w) A (call (.builtin "list.append") [acc,x]) (λ_ f=>∃ m,m < n/\I m f) (λ_ _=>False) g) (λ_ _=>False) b
      else ∃ m,m < n/\I m b) (λ_ _=>False) i) (λ_ _=>False) e) (λ_ _=>False) d) (λ_ _=>False) s)
  (n:Nat) (h:I n s):codeAny (model prog w) A (.compLoop (.ListComp elt [⟨target,iter,ifs,0⟩] scope pos) 0 it acc env) R s:=by
 have no:∀ {α:Type} {t:Sem α} {Q u:α->iI->Prop} {E:iE->iI->Prop} {s:iI},wpAny (model prog w) A t Q (λ_ _=>False) s->(∀ a s,Q a s->u a s)->wpAny (model prog w) A t u E s:=λh k=>i8 h k λ_ _ z=>z.elim;refine codeAny_loop rfl I (λn s y=>?_) n h;show wpAny _ A ((compTurn (.ListComp elt [⟨target,iter,ifs,0⟩] scope pos) 0 it acc env).onRaise (λx=>do noteFrame x env; theTreesLotGoes x)) _ _ s;refine wpAny_noted ?_;rw [compTurn_list];refine iC (wpAny_standAt (iC (no (turn n s y) λr d h₁=>?_)));cases r with
 | none=>exact iG h₁
 | some v=>
  refine iC (no h₁ λ_ e l=>iC (no l λ_ i q=>iC (no q λok b j=>?_)));cases ok with
  | false=>exact iG ⟨rfl,j⟩
  | true=>exact iC (iC (no j λx g p=>iC (no p λ_ f o=>iG (iG ⟨rfl,o⟩))))
structure PTs (Y:Cx) (ifs:List Expr) (t:TT):Prop where
 run:∀ (pins:List (Addr×Obj)) (s:iI) (σ:St) (H:Hp) (Q:Bool->Hp->Prop),Inv Y pins σ H s->t σ H Q ->wpAny (model Y.prog Y.w) Y.A (forIn ifs iH λc r=>if r=iH then do let ok <-isTrue c Y.env (eval c Y.env); pure (cC ok) else pure (cC r)) (TP Y pins σ Q) Y.xe s
instance {Y:Cx} {ifs:List Expr} {t:TT}:CoeFun (PTs Y ifs t) (λ_=>∀ (pins:List (Addr×Obj)) (s:iI) (σ:St) (H:Hp) (Q:Bool->Hp->Prop),Inv Y pins σ H s->t σ H Q ->wpAny (model Y.prog Y.w) Y.A (forIn ifs iH λc r=>if r=iH then do let ok <-isTrue c Y.env (eval c Y.env); pure (cC ok) else pure (cC r)) (TP Y pins σ Q) Y.xe s):=⟨λh=>h.run⟩
variable {Y:Cx}
theorem qdB:PTs Y [] (λ_ H Q=>Q iH H):=⟨λ_ _ _ H _ I h=>wpAny_tests_nil ⟨H,I,h⟩⟩
theorem Wj {t:TT} (h:PT Y c t):PTs Y [c] t:=⟨λpins s σ H Q I q=>wpAny_tests_one (h pins s σ H Q I q)⟩
variable {ifs:List Expr} {te:TE} {E:iE->iI->Prop}
section
variable {it:Addr} {tn:Nat->Heap->Prop} {J:It} {elt:Expr} {g:TG} {tt:TT}
theorem qbe (I:Inv X pins σ H s) (P:X.calm=iH) (S:ScOk X scope) (T:Turn X.prog X.w X.K tg J fp it tn) (st0:tn 0 s.heap) (hf:∀ b∈fp,VT X pins H b)
  (hg:∀ fp L s' H',PG (jZ X scope N fp L s' H') tg g) (ht:∀ fp L s' H',PTs (jZ X scope N fp L s' H') ifs tt) (he:∀ fp L s' H',PE (jZ X scope N fp L s' H') elt te) (hl:σc.length=N.length)
  (hσ:∀ (j:Nat) (x:Str) (v:V),N[j]?=iB x->σc[j]?=iB (iB v)->(∃ k,(x,k)∈scope.names)->∃ i:Nat,X.N[i]?=iB x/\σ[i]?=iB (iB v)/\Vis X.env.scope x/\(x,bv)∈scope.names)
  (W:Addr->Nat->Nat->St->Hp->Prop) (Fin:Addr->Hp->Prop) (w0:∀ p,H p=iD->∃ m,W p 0 m σc (upd H p (.lst [])))
  (turn:∀ p i m σ1 H1,W p i m σ1 H1->(J.stop i H1/\Fin p H1)\/(J.go i H1/\∀ x H2,J.yld i H1 x H2->g x σ1 H2 λB H3=>tt B H3 λb H4=>if b=iH then te B H4 λy H5=>∃ xs,H5 p=iB (.lst xs)/\xs.length < sizeLine/\∃ f,f < m/\W p (i+1) f B (upd H5 p (.lst (xs++[y]))) else ∃ f,f < m/\W p (i+1) f B H4))
  (RR:iE->Addr->lJ->iI->Prop)
  (hRR:∀ p L H' s',Fin p H'->(∃ m,s'.heap.Ns L m)->VT X pins H' L->(∀ h',bt L s'.heap h'->Inv X pins σ H' { s' with heap:=h' })->RR (.ref p) L (.ok .next) s') :
  wpAny (model X.prog X.w) X.A (newList []) (λacc s₃=>wpAny (model X.prog X.w) X.A (newFunctionEnv scope X.env.globals (Kg X.env.cells scope.names []) [] X.env.qual iD .none (iB X.env)) (λG F=>
   codeAny (model X.prog X.w) X.A (.compStart (.ListComp elt [⟨tg,iter,ifs,0⟩] scope pos) 0 (.ref it) acc { G with scope:=relabel scope X.env }) (RR acc G.locals) F) E s₃) E s:=by
 have hfo:∀ b∈fp,b < s.heap.objs.size:=λb h=>let ⟨o,e,_⟩:=T.obj 0 _ st0 b h; aq e;have C:=I.fresh;have I3:Inv X pins σ (upd H s.heap.objs.size (.lst [])) { s with heap:=s.heap.push { cls:=.type "list",data:=.seq ([]:List iE).toArray } }:=I.lnew (t':=s.toks) (ys:=[]) (its:=[]) .nil (bi _);have O:∀ b∈fp,VT X pins (upd H s.heap.objs.size (.lst [])) b:=λb h=>⟨by rw [qB (aC (hfo b h))]; exact (hf b h).1,(hf b h).2⟩
 have st3:tn 0 (s.heap.push { cls:=.type "list",data:=.seq ([]:List iE).toArray }):=T.keep 0 _ _ st0 λb h o e=>aa _ e;refine iN (wpAny_newFunctionEnv S.nocell (λy hy=>by simp at hy) (λh₁ c a=>?_) S.kind);dsimp only at c a ⊢;generalize hs3:({ s with heap:=s.heap.push { cls:=.type "list",data:=.seq ([]:List iE).toArray } }:iI)=s3 at I3;have e3:s3.heap=s.heap.push { cls:=.type "list",data:=.seq ([]:List iE).toArray }:=by rw [<-hs3]
 rw [<-e3] at c a st3 ⊢;have keep:∀ b o,s3.heap.get? b=iB o->h₁.get? b=iB o:=λb o e=>(a.2 b (aC (aq e))).trans (aa _ e);have ho3:∀ b∈fp,b < s3.heap.objs.size:=λb h=>by rw [e3,bh]; exact cV (hfo b h)
 have J1:Inv (jZ X scope N fp s3.heap.objs.size s3 (upd H s.heap.objs.size (.lst []))) [] σc (upd H s.heap.objs.size (.lst [])) { s3 with heap:=h₁,toks:=s.toks+0 }:=
  qbc I3 S O ho3 (by simpa using c) keep hl hσ
 have st4:tn 0 h₁:=T.keep 0 _ _ st3 λb h o e=>keep b o e;have loop:∀ s4:iI,s4={ s3 with heap:=h₁,toks:=s.toks+0 }->codeAny (model X.prog X.w) X.A (.compLoop (.ListComp elt [⟨tg,iter,ifs,0⟩] scope pos) 0 (.ref it) (.ref s.heap.objs.size) (compEnvC scope (Kg X.env.cells scope.names []) s3.heap.objs.size X.env)) (RR (.ref s.heap.objs.size) s3.heap.objs.size) s4:=by
  rintro s4 rfl;generalize D:jZ X scope N fp s3.heap.objs.size s3 (upd H s.heap.objs.size (.lst []))=Y at J1;have eP:Y.prog=X.prog:=by rw [<-D]; rfl
  have ew:Y.w=X.w:=by rw [<-D]; rfl
  have eA:Y.A=X.A:=by rw [<-D]; rfl
  have ee:Y.env=compEnvC scope (Kg X.env.cells scope.names []) s3.heap.objs.size X.env:=by rw [<-D]; rfl
  have eK:Y.K=X.K:=by rw [<-D]; rfl
  have ec:Y.calm=true:=by rw [<-D]; exact P
  have ex:Y.xe=λ_ _=>False:=by rw [<-D]; rfl
  have hgY:PG Y tg g:=by rw [<-D]; exact hg fp _ _ _
  have htY:PTs Y ifs tt:=by rw [<-D]; exact ht fp _ _ _
  have heY:PE Y elt te:=by rw [<-D]; exact he fp _ _ _
  have t:∀ {H1:Hp},(∀ b∈fp,H1 b=iD)->∀ b∈fp,VT Y [] H1 b:=λhn b h=>by have q:=J1.ok.exf b (by rw [<-D]; exact h);refine ⟨hn b h,q.1,J1.ok.exfs b (by rw [<-D]; exact h),.inl (by rw [<-D]; exact h),q.2,λp hp=>?_⟩;rw [<-D] at hp;exact absurd (show p∈([]:List (Addr×Obj)) from hp) (by simp)
  obtain ⟨m0,hm0⟩:=w0 s.heap.objs.size C;refine Jg (λn s'=>∃ i σ1 H1,Inv Y [] σ1 H1 s'/\tn i s'.heap/\(∀ b∈fp,H1 b=iD)/\W s.heap.objs.size i n σ1 H1) ?_ m0 ⟨0,σc,_,J1,st4,λb h=>(O b h).1,hm0⟩;rintro n s5 ⟨i,σ1,H1,J5,st5,fr5,w5⟩;rw [<-eP,<-ew,<-eA,<-ee];have TY:Turn Y.prog Y.w Y.K tg J fp it tn:=by rw [eP,ew,eK]; exact T
  rcases turn _ i n σ1 H1 w5 with ⟨stop,fin⟩ | ⟨go,step⟩
  ·refine thn (TY.done Y rfl rfl rfl ec i [] s5 σ1 H1 _ J5 (t fr5) st5 stop) λr s6 ⟨hr,J6⟩=>?_;subst hr;have Q:Inv (jZ X scope N fp s3.heap.objs.size s3 (upd H s.heap.objs.size (.lst []))) [] σ1 H1 s6:=by rw [D]; exact J6
   exact hRR _ _ H1 s6 fin (let ⟨m,hn,_⟩:=Q.loc; ⟨m,hn⟩) (I3.fpOk (ax _) Q.free) λh' sb=>qbd (s1:=s6) (H1:=H1) (L:=0) I3 O Q sb
  ·refine thn (TY.item Y rfl rfl rfl ec i [] s5 σ1 H1 _ J5 (t fr5) st5 go) λr s6 ⟨u,hr,h6⟩=>?_;subst hr;refine thn h6 λ_ s7 ⟨x,H7,J7,r7,y7,M,fr7⟩=>?_;have J7':=J7.pinned (t fr7) (TY.obj _ _ M);have back:∀ {l:St} {Z:Hp} {R:iI},Inv Y ([]++Ko fp s7.heap) l Z R->(∃ f,f < n/\W s.heap.objs.size (i+1) f l Z)->∃ m,m < n/\∃ i σ1 H1,Inv Y [] σ1 H1 R/\tn i R.heap/\(∀ b∈fp,H1 b=iD)/\W s.heap.objs.size i m σ1 H1:=λ{l Z R} U ⟨f,hm,w9⟩=>by refine ⟨f,hm,i+1,l,Z,U.unpinned,TY.keep _ _ _ M λb h o e=>(U.pin (b,o) (aV _ (aV _ (uN h e)))).1,λb h=>?_,w9⟩;obtain ⟨o,e,d⟩:=TY.obj _ _ M b h;exact (U.pin (b,o) (aV _ (aV _ (uN h e)))).2.1
   rw [<-ex];refine thn (hgY _ s7 σ1 H7 x u _ J7' r7 (step x H7 y7)) λ_ s8 ⟨z,H8,J8,q8⟩=>?_;refine thn (htY _ s8 z H8 _ J8 q8) λok R ⟨Z,U,q9⟩=>?_;cases ok with
   | false=>exact back U q9
   | true=>refine thn (heY _ R z Z _ U q9) λv s10 ⟨y,H10,J10,r10,xs,hx,hlen,q10⟩=>?_;exact thn (Kt _ s10 z H10 (.ref s.heap.objs.size) [y] (.ref s.heap.objs.size) [v] (λ_ H11=>∃ f,f < n/\W s.heap.objs.size (i+1) f z H11) J10 rfl (.cons r10 .nil) ⟨_,xs,y,rfl,rfl,hx,hlen,q10⟩) λ_ s11 ⟨_,H11,J11,_,q11⟩=>back J11 q11
 have e4:({ heap:=h₁,gens:=s.gens,drawn:=s.drawn,toks:=s.toks+([]:List (Str×iE)).length,os:=s.os }:iI)={ s3 with heap:=h₁,toks:=s.toks+0 }:=by rw [<-hs3]; rfl
 exact codeAny_compStart_list (loop _ e4) (T.self _ 0 _ _ _ st4 (loop _ e4))
end
noncomputable def vn (nt:Nat) (cap:List Nat) (ρ:List (Option α)):List (Option α):=bu nt iD++cap.map λk=>(ρ[k]?).getD iD
noncomputable def yz (own:List Nat):Nat->List Nat->List Nat
 | _,[]=>[]
 | n,k::cap=>if k∈own then n::yz own (n+1) cap else yz own (n+1) cap
noncomputable def ioC (nt len:Nat):List Nat:=(au len).map (nt + ·)
noncomputable def jU (own:List Nat) (ρc:Sl):Nat->List Nat->Sl->Sl
 | _,[],ρ=>ρ
 | n,k::cap,ρ=>if k∈own then jU own ρc (n+1) cap (ρ.set k ((ρc[n]?).getD iD)) else jU own ρc (n+1) cap ρ
variable {nt:Nat} {cap:List Nat}
theorem get_cap {ρ:List (Option α)} {d:α}:(vn nt cap ρ)[i]?=iB (iB d)↔∃ j k,i=nt+j/\cap[j]?=iB k/\ρ[k]?=iB (iB d):=by
 unfold vn;constructor
 ·intro h;by_cases hi:i < nt;·rw [ci (by simpa using hi),bP] at h;split at h <;> cases h
  ·rw [bU (by simpa using hi),dA,aE] at h;cases q:cap[i - nt]? with
   | none=>rw [q] at h; cases h
   | some k=>
    rw [q] at h;have h:(ρ[k]?).getD iD=iB d:=aU.inj h;refine ⟨i - nt,k,by omega,q,?_⟩;cases e:ρ[k]? with
    | none=>rw [e] at h; cases h
    | some o=>rw [e] at h; exact congrArg iB h
 ·rintro ⟨j,k,rfl,h1,h2⟩;rw [bU (by simp),dA,aE,show nt+j - nt=j by omega,h1];simp [h2]
theorem mem_ownC {own:List Nat}:∀ {n:Nat} {cap:List Nat} {i:Nat},i∈yz own n cap↔∃ j k,i=n+j/\cap[j]?=iB k/\k∈own
 | n,[],i=>by simp [yz]
 | n,k::cap,i=>by
  have a:=@mem_ownC own (n+1) cap i;unfold yz;by_cases h:k∈own
  ·rw [if_pos h,ae,a];constructor
   ·rintro (rfl | ⟨j,k',e,h1,h2⟩);·exact ⟨0,k,rfl,rfl,h⟩
    ·exact ⟨j+1,k',by omega,by simpa using h1,h2⟩
   ·rintro ⟨j,k',e,h1,h2⟩;cases j with
    | zero=>exact .inl (by omega)
    | succ j=>exact .inr ⟨j,k',by omega,by simpa using h1,h2⟩
  ·rw [if_neg h,a];constructor;·rintro ⟨j,k',e,h1,h2⟩;exact ⟨j+1,k',by omega,by simpa using h1,h2⟩
   ·rintro ⟨j,k',e,h1,h2⟩;cases j with
    | zero=>simp at h1; subst h1; exact absurd h2 h
    | succ j=>exact ⟨j,k',by omega,by simpa using h1,h2⟩
theorem mem_ioC {len:Nat}:i∈ioC nt len↔∃ j,j < len/\i=nt+j:=by
 unfold ioC;rw [aw];constructor;·rintro ⟨j,h1,h2⟩; exact ⟨j,aM.mp h1,h2.symm⟩
 ·rintro ⟨j,h1,h2⟩; exact ⟨j,aM.mpr h1,h2.symm⟩
variable {ρc:Sl}
theorem xz:∀ {n:Nat} {cap:List Nat} {ρ:Sl},(jU own ρc n cap ρ).length=ρ.length
 | _,[],_=>rfl
 | n,k::cap,ρ=>by
  unfold jU;by_cases h:k∈own;·rw [if_pos h,xz,fz]
  ·rw [if_neg h,xz]
theorem vb:∀ {n:Nat} {cap:List Nat} {ρ:Sl} {i:Nat},¬(i∈cap/\i∈own)->(jU own ρc n cap ρ)[i]?=ρ[i]?
 | _,[],_,_,_=>rfl
 | n,k::cap,ρ,i,h=>by
  unfold jU;have h':¬(i∈cap/\i∈own):=λz=>h ⟨ac _ z.1,z.2⟩;by_cases a:k∈own;·rw [if_pos a,vb h',ap (λe=>h ⟨ae.mpr (.inl e.symm),by rw [<-e]; exact a⟩)]
  ·rw [if_neg a,vb h']
theorem yT:∀ {n:Nat} {cap:List Nat} {ρ:Sl} {j k:Nat} {d:D},cap.Nodup->cap[j]?=iB k->k∈own->k < ρ.length->ρc[n+j]?=iB (iB d)->(jU own ρc n cap ρ)[k]?=iB (iB d)
 | _,[],_,_,_,_,_,h,_,_,_=>by simp at h
 | n,k0::cap,ρ,0,k,d,nd,h,hk,hl,e=>by simp at h; subst h;obtain ⟨n1,n2⟩:=aP.mp nd;unfold jU;rw [if_pos hk,vb (λz=>n1 z.1),aG hl];have e:ρc[n]?=iB (iB d):=e;rw [e]; rfl
 | n,k0::cap,ρ,j+1,k,d,nd,h,hk,hl,e=>by
  obtain ⟨n1,n2⟩:=aP.mp nd;have h:cap[j]?=iB k:=by simpa using h
  have e:ρc[n+1+j]?=iB (iB d):=by rw [show n+1+j=n+(j+1) by omega]; exact e
  unfold jU;by_cases a:k0∈own;·rw [if_pos a]; exact yT n2 h hk (by rw [fz]; exact hl) e
  ·rw [if_neg a]; exact yT n2 h hk hl e
section
theorem Wk {ρ:List (Option α)}:(vn nt cap ρ).length=nt+cap.length:=by simp [vn]
theorem ZO {l:List Nat} (h:l.Nodup) {j k:Nat} (a:l[i]?=iB k) (b:l[j]?=iB k):i=j:=by obtain ⟨h1,e1⟩:=aB.mp a;obtain ⟨h2,e⟩:=aB.mp b;exact (fY h).mp (e1.trans e.symm)
theorem qdC (r:Rep K own F H σ ρ) (nd:cap.Nodup):Rep K (yz own nt cap) F H (vn nt cap σ) (vn nt cap ρ) where
 sub:=r.sub
 len:=by rw [Wk,Wk]
 val:=λi d hi e=>by obtain ⟨j,k,rfl,h1,h2⟩:=get_cap.mp e;obtain ⟨v,g1,Y⟩:=r.val k d (λz=>hi (mem_ownC.mpr ⟨j,k,rfl,h1,z⟩)) h2;exact ⟨v,get_cap.mpr ⟨j,k,rfl,h1,g1⟩,Y⟩
 ow:=λi d hi e=>by
  obtain ⟨j,k,rfl,h1,h2⟩:=get_cap.mp e;obtain ⟨f,k',m,c,h⟩:=mem_ownC.mp hi;have:j=f:=by omega
  subst this;rw [h1] at c; cases c;obtain ⟨a,g1,Y⟩:=r.ow k d h h2;exact ⟨a,get_cap.mpr ⟨j,k,rfl,h1,g1⟩,Y⟩
 opn:=λi hi=>by obtain ⟨j,k,rfl,h1,h2⟩:=mem_ownC.mp hi;obtain ⟨d,e⟩:=r.opn k h2;exact ⟨d,get_cap.mpr ⟨j,k,rfl,h1,e⟩⟩
 dis:=λi u a hi g e m=>by
  obtain ⟨j,k,rfl,h1,h2⟩:=mem_ownC.mp hi;obtain ⟨f,k',rfl,c,h⟩:=mem_ownC.mp g;obtain ⟨x,y,t,l,o⟩:=get_cap.mp e;obtain ⟨n,s,p,q,b⟩:=get_cap.mp m;have:x=j:=by omega
  subst this;have:n=f:=by omega
  subst this;rw [h1] at l; cases l;rw [c] at q; cases q;have e:=r.dis k k' a h2 h o b;subst e;rw [ZO nd h1 c]
theorem ZP (o:∀ i∈ioC nt cap.length,σ1[i]?=(vn nt cap σ)[i]?) (h:OA (yz own nt cap) σ1 b):OA own σ b:=by
 obtain ⟨i,hi,e⟩:=h;obtain ⟨j,k,rfl,h1,h2⟩:=mem_ownC.mp hi;rw [o _ (mem_ioC.mpr ⟨j,(aB.mp h1).1,rfl⟩)] at e;obtain ⟨x,y,c,q,a⟩:=get_cap.mp e;have:x=j:=by omega
 subst this;rw [h1] at q; cases q;exact ⟨k,h2,a⟩
theorem ZQ (p:Rep K own F H σ ρ) (nd:cap.Nodup) (r:Rep K (yz own nt cap) F' H' σ1 ρ1) (g:∀ i∈ioC nt cap.length,σ1[i]?=(vn nt cap σ)[i]?) (c:Chg (OA (yz own nt cap) σ1) F H F' H'):Rep K own F' H' σ (jU own ρ1 nt cap ρ) where
 sub:=r.sub
 len:=by rw [xz]; exact p.len
 val:=λi d hi e=>by rw [vb (λz=>hi z.2)] at e;obtain ⟨v,h1,h2⟩:=p.val i d hi e;exact ⟨v,h1,h2.mono c.grow⟩
 ow:=λi d hi e=>by
  by_cases q:i∈cap
  ·obtain ⟨j,G⟩:=List.getElem?_of_mem q;have m:nt+j∈yz own nt cap:=mem_ownC.mpr ⟨j,i,rfl,G,hi⟩;obtain ⟨d',h⟩:=r.opn _ m;obtain ⟨w,b⟩:=p.opn i hi;rw [yT nd G hi (aB.mp b).1 h] at e;cases e;obtain ⟨a,h1,h2⟩:=r.ow _ _ m h;rw [g _ (mem_ioC.mpr ⟨j,(aB.mp G).1,rfl⟩)] at h1;obtain ⟨x,y,t,f,l⟩:=get_cap.mp h1;have:x=j:=by omega
   subst this;rw [G] at f; cases f;exact ⟨a,l,h2⟩
  ·rw [vb (λz=>q z.1)] at e;obtain ⟨a,h1,h2,h3⟩:=p.ow i d hi e;have na:¬OA (yz own nt cap) σ1 a:=λz=>by
    obtain ⟨A,n,s⟩:=z;obtain ⟨j,k,rfl,g1,Y⟩:=mem_ownC.mp n;rw [g _ (mem_ioC.mpr ⟨j,(aB.mp g1).1,rfl⟩)] at s;obtain ⟨x,y,t,f,l⟩:=get_cap.mp s;have:x=j:=by omega
    subst this;rw [g1] at f; cases f;have e:=p.dis i k a hi Y h1 l;subst e;exact q (cU g1)
   refine ⟨a,h1,?_,h3.grow c.grow λo z=>c.keep a o z na⟩;cases O:F' a with
   | none=>rfl
   | some u=>
    rcases c.new a (by rw [O]; simp) with z | z | z;·exact absurd h2 z
    ·exact absurd z h3.there
    ·exact absurd z na
 opn:=λi hi=>by
  by_cases q:i∈cap;·obtain ⟨j,G⟩:=List.getElem?_of_mem q;have m:nt+j∈yz own nt cap:=mem_ownC.mpr ⟨j,i,rfl,G,hi⟩;obtain ⟨d',h⟩:=r.opn _ m;obtain ⟨w,b⟩:=p.opn i hi;exact ⟨d',yT nd G hi (aB.mp b).1 h⟩
  ·rw [vb (λz=>q z.1)];exact p.opn i hi
 dis:=p.dis
end
noncomputable def Wl (g:D->Sl->Out Sl) (ft:Sl->Out (Bool×Sl)) (fe:Sl->Out (D×Sl)) (d:D) (ρ:Sl):Out (Option D×Sl):=
 (g d ρ).plain.bind λρ1=>(ft ρ1).plain.bind λq=>if q.1=iH then (fe q.2).plain.bind λr=>.ok (iB r.1,r.2) else .ok (iD,q.2)
noncomputable def kM (g:D->Sl->Out Sl) (ft:Sl->Out (Bool×Sl)) (fe:Sl->Out (D×Sl)):List D->Sl->Out (List D×Sl)
 | [],ρ=>.ok ([],ρ)
 | d::ds,ρ=>(Wl g ft fe d ρ).bind λp=>(kM g ft fe ds p.2).bind λq=>.ok (p.1.toList++q.1,q.2)
noncomputable def qY (own:List Nat) (nt:Nat) (cap:List Nat) (fi:Sl->Out (List D×Sl)) (g:D->Sl->Out Sl) (ft:Sl->Out (Bool×Sl)) (fe:Sl->Out (D×Sl)):Sl->Out (D×Sl):=λρ=>(fi ρ).bind λp=>
 if p.1.length<=sizeLine then (kM g ft fe p.1 (vn nt cap p.2)).bind λq=>.ok (.lst q.1,jU own q.2 nt cap p.2) else .bad
noncomputable def ctC (C:Ct) (nt len:Nat):Ct:=⟨C.K,C.cv,λ_ _ _=>False,ioC nt len,.sh,[],[],λ_ h=>absurd h (by simp)⟩
noncomputable def ftT:Sl->Out (Bool×Sl):=λρ=>.ok (iH,ρ)
theorem qZ:PTs Y [] (tT C own ftT):=⟨λpins s σ H Q I ⟨F,ρ,a,h⟩=>qdB pins s σ H Q I (h F H a .refl)⟩
structure CW (C:Ct) (own:List Nat) (nt:Nat) (cap:List Nat) (σ:St) (F H F0:Hp) (g:D->Sl->Out Sl) (ft:Sl->Out (Bool×Sl)) (fe:Sl->Out (D×Sl)) (ds ys:List D) (ρe:Sl) (p:Addr) (i:Nat) (σ1:St) (H1:Hp) (F1:Hp) (ρi:Sl) (accD:List D) (xs:List V) (rest:List D):Prop where
 rep:Rep C.K (yz own nt cap) F1 H1 σ1 ρi
 io:∀ i∈ioC nt cap.length,σ1[i]?=(vn nt cap σ)[i]?
 chg:Chg (OA (yz own nt cap) σ1) F H F1 H1
 gr:Same F0 F1
 at_:H1 p=iB (.lst xs)
 nF:F1 p=iD
 is:IsL C.K F1 xs accD
 le:accD.length<=i
 run:kM g ft fe (ds.drop i) ρi=.ok (rest,ρe)
 all:accD++rest=ys
variable {ρe:Sl}
theorem Xh {g:D->Sl->Out Sl} {rest:List D} (h:kM g ft fe (d::ds) ρ=.ok (rest,ρe)):∃ ρ1,g d ρ=.ok ρ1/\∃ b ρ2,ft ρ1=.ok (b,ρ2)/\((b=iH/\∃ y k r,fe ρ2=.ok (y,k)/\kM g ft fe ds k=.ok (r,ρe)/\rest=y::r)\/(b=iF/\kM g ft fe ds ρ2=.ok (rest,ρe))):=by
 unfold kM Wl at h;cases f:g d ρ with
 | exc c=>rw [f] at h; cases h
 | bad=>rw [f] at h; cases h
 | ok ρ1=>
  rw [f] at h;refine ⟨ρ1,rfl,?_⟩;simp only [Out.plain,Out.og] at h;cases e:ft ρ1 with
  | exc c=>rw [e] at h; cases h
  | bad=>rw [e] at h; cases h
  | ok p=>
   obtain ⟨b,ρ2⟩:=p;rw [e] at h;refine ⟨b,ρ2,rfl,?_⟩;simp only [Out.plain,Out.og] at h;cases b with
   | true=>
    refine .inl ⟨rfl,?_⟩;simp only [if_true] at h;cases a:fe ρ2 with
    | exc c=>rw [a] at h; cases h
    | bad=>rw [a] at h; cases h
    | ok p=>
     obtain ⟨y,k⟩:=p;rw [a] at h;simp only [Out.plain,Out.og] at h;cases q:kM g ft fe ds k with
     | exc c=>rw [q] at h; cases h
     | bad=>rw [q] at h; cases h
     | ok p=>obtain ⟨r,A⟩:=p;rw [q] at h;simp only [Out.og] at h;cases h;exact ⟨y,k,r,rfl,q,rfl⟩
   | false=>
    refine .inr ⟨rfl,?_⟩;simp only [cq,if_false,Out.og] at h;cases q:kM g ft fe ds ρ2 with
    | exc c=>rw [q] at h; cases h
    | bad=>rw [q] at h; cases h
    | ok p=>obtain ⟨r,A⟩:=p;rw [q] at h;simp only [Out.og] at h;cases h;rfl
section
variable {elt:Expr} {g:D->Sl->Out Sl} {me:Mo}
structure CapOk (X:Cx) (scope:lc) (N:List Str) (nt:Nat) (cap:List Nat):Prop where
 nd:cap.Nodup
 len:N.length=nt+cap.length
 at_:∀ (j k:Nat),cap[j]?=iB k->∃ x,N[nt+j]?=iB x/\X.N[k]?=iB x/\((Vis X.env.scope x/\(x,bv)∈scope.names)\/∀ k',(x,k')∉scope.names)
theorem KJ {F:Hp} {ρ1:Sl} {it:Addr} {fp:List Addr} {tn:Nat->Heap->Prop} {J:It} {E:iE->iI->Prop} {ds ys:List D} {ρe:Sl} (I:Inv X pins σ H s) (W:X.calm=iH) (S:ScOk X scope) (CO:CapOk X scope N nt cap)
  (T:Turn X.prog X.w X.K tg J fp it tn) (st0:tn 0 s.heap) (hf:∀ b∈fp,VT X pins H b) (rp:Rep C.K own F H σ ρ1) (O:ItIs C.K F J ds) (hz:ds.length<=sizeLine)
  (hg:∀ fp L s' H',PG (jZ X scope N fp L s' H') tg (tGd (ctC C nt cap.length) (yz own nt cap) g)) (ht:∀ fp L s' H',PTs (jZ X scope N fp L s' H') ifs (tT (ctC C nt cap.length) (yz own nt cap) ft))
  (he:∀ fp L s' H',PE (jZ X scope N fp L s' H') elt (tE (ctC C nt cap.length) (yz own nt cap) me fe)) (hme:me≠.any)
  (hrun:kM g ft fe ds (vn nt cap ρ1)=.ok (ys,ρe)) (RR:iE->Addr->lJ->iI->Prop)
  (hRR:∀ p L s' F' H',H p=iD->Rep C.K own F' H' σ (jU own ρe nt cap ρ1)->Chg (OA own σ) F H F' H'->F' p=iD->OwnIs C.K F' H' p (.lst ys)->(∃ m,s'.heap.Ns L m)->VT X pins H' L->(∀ h',bt L s'.heap h'->Inv X pins σ H' { s' with heap:=h' })->RR (.ref p) L (.ok .next) s') :
  wpAny (model X.prog X.w) X.A (newList []) (λacc s₃=>wpAny (model X.prog X.w) X.A (newFunctionEnv scope X.env.globals (Kg X.env.cells scope.names []) [] X.env.qual iD .none (iB X.env)) (λG s₄=>
   codeAny (model X.prog X.w) X.A (.compStart (.ListComp elt [⟨tg,iter,ifs,0⟩] scope pos) 0 (.ref it) acc { G with scope:=relabel scope X.env }) (RR acc G.locals) s₄) E s₃) E s:=by
 have oaH:∀ {σ1:St} {b:Addr},(∀ i∈ioC nt cap.length,σ1[i]?=(vn nt cap σ)[i]?)->OA (yz own nt cap) σ1 b->H b≠none:=λU z=>(rp.OA_there (ZP U z)).1;refine qbe (σc:=vn nt cap σ) I W S T st0 hf hg ht (λfp L s' H'=>yN (he fp L s' H') hme) (by rw [Wk,CO.len]) (λj x v e1 e2 e3=>?_)
  (λp i m σ1 H1=>H p=iD/\m=ds.length - i/\i<=ds.length/\∃ F1 ρi accD xs rest,CW C own nt cap σ F H F g ft fe ds ys ρe p i σ1 H1 F1 ρi accD xs rest)
  (λp H1=>H p=iD/\∃ σ1 F1 xs,Rep C.K (yz own nt cap) F1 H1 σ1 ρe/\(∀ i∈ioC nt cap.length,σ1[i]?=(vn nt cap σ)[i]?)/\Chg (OA (yz own nt cap) σ1) F H F1 H1/\H1 p=iB (.lst xs)/\F1 p=iD/\IsL C.K F1 xs ys) (λp hp=>?_) ?_ RR ?_
 ·obtain ⟨j',k,rfl,h1,h2⟩:=get_cap.mp e2;obtain ⟨y,g1,g2,g3⟩:=CO.at_ j' k h1;rw [g1] at e1; cases e1;obtain ⟨k',hk'⟩:=e3;rcases g3 with ⟨g3,g4⟩ | g3;·exact ⟨k,g2,h2,g3,g4⟩
  ·exact absurd hk' (g3 k')
 ·obtain ⟨r1,c1,hF⟩:=ZI (C:=C) (u:=.lst []) (qdC (nt:=nt) rp CO.nd) hp;exact ⟨ds.length,hp,by simp,bi _,F,vn nt cap ρ1,[],[],ys,r1,λ_ _=>rfl,c1.ofNo,Same.refl _,qt,hF,.nil,ax _,by simpa using hrun,rfl⟩
 ·rintro p i m σ1 H1 ⟨hp,rfl,hle,F1,ρi,accD,xs,rest,w⟩;by_cases t:i < ds.length
  ·have hd:ds.drop i=ds[i]::ds.drop (i+1):=List.drop_eq_getElem_cons t;have run:=w.run;rw [hd] at run;obtain ⟨ρa,ea,b,Z,eb,R⟩:=Xh run;have sub1:Same F H1:=w.gr.trans w.rep.sub;refine .inr ⟨O.go i H1 t sub1,λx H2 y=>?_⟩;obtain ⟨F2,c2,s2,is2⟩:=O.yld i F1 H1 x H2 ds[i] (by simp [t]) w.gr w.rep.sub y;have rp2:=w.rep.grow c2 s2;have M:∀ {Y:St},(∀ i∈ioC nt cap.length,Y[i]?=(vn nt cap σ)[i]?)->¬OA (yz own nt cap) Y p:=λU z=>oaH U z hp;have P:∀ {A:Addr->Prop} {Fa Ha Fb Hb:Hp} {zs:List V},Chg A Fa Ha Fb Hb->¬A p->Ha p=iB (.lst zs)->Fa p=iD->Hb p=iB (.lst zs)/\Fb p=none:=λ{A Fa Ha Fb Hb zs} c na e1 e2=>by
    refine ⟨c.keep p _ e1 na,?_⟩;cases q:Fb p with
    | none=>rfl
    | some u=>
     rcases c.new p (by rw [q]; simp) with z | z | z;·exact absurd e2 z
     ·rw [e1] at z; cases z
     ·exact absurd z na
   obtain ⟨at2,nF2⟩:=P c2 (λz=>z) w.at_ w.nF;refine ⟨F2,ρi,ds[i],rp2,is2,ρa,ea,λl rp3 oa3 io3=>?_⟩;have f:∀ i∈ioC nt cap.length,l[i]?=(vn nt cap σ)[i]?:=λi hi=>(io3 i hi).trans (w.io i hi);refine ⟨F2,ρa,rp3,?_⟩;rw [eb];intro F4 H4 rp4 c4;obtain ⟨at4,nF4⟩:=P c4 (M f) at2 nF2;have B:Chg (OA (yz own nt cap) l) F H F4 H4:=by
    have q1:Chg (OA own σ) F H F1 H1:=w.chg.mono λb z=>ZP w.io z;have mv:∀ {b},OA (yz own nt cap) σ1 b->OA (yz own nt cap) l b:=λ{b} z=>by obtain ⟨i',hi',e'⟩:=z;obtain ⟨j,k,rfl,g1,g2⟩:=mem_ownC.mp hi';have hm:nt+j∈ioC nt cap.length:=mem_ioC.mpr ⟨j,(aB.mp g1).1,rfl⟩;exact ⟨nt+j,hi',by rw [f _ hm,<-w.io _ hm]; exact e'⟩
    exact ((w.chg.mono λb z=>mv z).trans' c2.ofNo).trans' c4
   have gr4:Same F F4:=(w.gr.trans c2.grow).trans c4.grow;have Q:IsL C.K F4 xs accD:=(w.is.mono c2.grow).mono c4.grow;rcases R with ⟨rfl,y',ρc,r,ec,er,hr⟩ | ⟨rfl,er⟩
   ·rw [if_pos rfl];refine ⟨F4,Z,rp4,?_⟩;rw [ec];intro v F5 H5 h c5 mo5;obtain ⟨at5,nF5⟩:=P c5 (M f) at4 nF4;have hlen:xs.length=accD.length:=Q.length;refine ⟨xs,at5,by have:=w.le; omega,ds.length - (i+1),by omega,hp,rfl,t,F5,ρc,accD++[y'],xs++[v],r,?_⟩;have cp:Chg (λb=>b=p) F5 H5 F5 (upd H5 p (.lst (xs++[v]))):=⟨λb o e n=>by rw [qB n]; exact e,λb e=>by
     by_cases q:b=p;·rw [q,qt]; simp
     ·rw [qB q]; exact e,Same.refl _,λb e=>.inl e⟩
    have sb5:Same F5 (upd H5 p (.lst (xs++[v]))):=λb o e=>by rw [qB (qH e nF5)]; exact h.sub b o e
    have rp6:Rep C.K (yz own nt cap) F5 (upd H5 p (.lst (xs++[v]))) l ρc:=by
     refine ⟨sb5,h.len,h.val,λi d hi e=>?_,h.opn,h.dis⟩;obtain ⟨a,h1,h2,h3⟩:=h.ow i d hi e;have na:a≠p:=λz=>by subst z; exact M f ⟨i,hi,h1⟩
     exact ⟨a,h1,h2,h3.grow (Same.refl _) λo z=>by rw [qB na]; exact z⟩
    refine ⟨rp6,f,?_,(gr4.trans c5.grow),qt,nF5,(Q.mono c5.grow).append (.cons mo5 .nil),by simp only [aj,ao,aZ]; have:=w.le; omega,er,?_⟩;·exact (B.trans' c5).trans cp λb z=>.inr (by rw [z]; exact hp)
    ·rw [bB,<-w.all,hr]; rfl
   ·rw [if_neg bE];exact ⟨ds.length - (i+1),by omega,hp,rfl,t,F4,Z,accD,xs,rest,rp4,f,B,gr4,at4,nF4,Q,by have:=w.le; omega,er,w.all⟩
  ·have e:i=ds.length:=by omega
   subst e;have run:=w.run;rw [List.drop_length] at run;unfold kM at run;cases run;have ha:=w.all;rw [bf] at ha;subst ha;exact .inl ⟨O.stop _ H1 (ax _) (w.gr.trans w.rep.sub),hp,σ1,F1,xs,w.rep,w.io,w.chg,w.at_,w.nF,w.is⟩
 ·rintro p L H' s' ⟨hp,σ1,F1,xs,r1,io1,c1,e1,n1,is1⟩ hns hfp hinv;exact hRR p L s' F1 H' hp (ZQ rp CO.nd r1 io1 c1) (c1.mono λb z=>ZP io1 z) n1 ⟨xs,e1,is1⟩ hns hfp hinv
theorem Wm:∀ (ds:List D) (ρ:Sl) (c:Str) (o:Sl),kM g ft fe ds ρ≠.exc c o:=by
 intro ds
 induction ds with
 | nil=>intro ρ c o z; cases z
 | cons d ds j=>
  intro ρ c o z;unfold kM Wl at z;cases b:g d ρ with
  | exc c=>rw [b] at z; cases z
  | bad=>rw [b] at z; cases z
  | ok ρ1=>
   rw [b] at z;simp only [Out.plain,Out.og] at z;cases e:ft ρ1 with
   | exc c=>rw [e] at z; cases z
   | bad=>rw [e] at z; cases z
   | ok p=>
    rw [e] at z;simp only [Out.plain,Out.og] at z;by_cases h:p.1=iH
    ·rw [if_pos h] at z;cases a:fe p.2 with
     | exc c=>rw [a] at z; cases z
     | bad=>rw [a] at z; cases z
     | ok r=>
      rw [a] at z;simp only [Out.plain,Out.og] at z;cases q:kM g ft fe ds r.2 with
      | exc c=>exact j _ _ _ q
      | bad=>rw [q] at z; cases z
      | ok t=>rw [q] at z; cases z
    ·rw [if_neg h] at z;simp only [Out.og] at z;cases q:kM g ft fe ds p.2 with
     | exc c=>exact j _ _ _ q
     | bad=>rw [q] at z; cases z
     | ok t=>rw [q] at z; cases z
theorem KK {α:Type} {Z:Out (D×Sl)->Prop} (r:Rep C.K own F H σ ρ) (d:¬Z .bad) (hx:∀ c ρ',Z (.exc c ρ')->∀ F' H',Same F' H'->XS C.K C.ox F' H' σ ρ'->Chg (OA own σ) F H F' H'->C.E (C.cv c) iD H') (h:Z (qY own nt cap fi g ft fe ρ)):tIt C own fi σ H λJ H1=>∃ ds ρ1 ys ρe F1,ds.length<=sizeLine/\kM g ft fe ds (vn nt cap ρ1)=.ok (ys,ρe)/\Rep C.K own F1 H1 σ ρ1/\Chg (OA own σ) F H F1 H1/\ItIs C.K F1 J ds/\Z (.ok (.lst ys,jU own ρe nt cap ρ1)):=by
 refine ⟨F,ρ,r,?_⟩;unfold qY at h;cases q:fi ρ with
 | exc c=>rw [q] at h; exact hx c _ h
 | bad=>rw [q] at h; exact (d h).elim
 | ok p=>
  obtain ⟨ds,ρ1⟩:=p;rw [q] at h;have h:Z (if ds.length<=sizeLine then (kM g ft fe ds (vn nt cap ρ1)).bind λq=>.ok (.lst q.1,jU own q.2 nt cap ρ1) else .bad):=h;by_cases z:ds.length<=sizeLine
  ·rw [if_pos z] at h;cases e:kM g ft fe ds (vn nt cap ρ1) with
   | exc c=>exact absurd e (Wm _ _ _ _)
   | bad=>rw [e] at h; exact (d h).elim
   | ok p=>obtain ⟨ys,ρe⟩:=p;rw [e] at h;exact λJ F1 H1 a k it=>⟨ds,ρ1,ys,ρe,F1,z,e,a,k,it,h⟩
  ·rw [if_neg z] at h; exact (d h).elim
theorem jI (P:X.calm=iH) (S:ScOk X scope) (U:CapOk X scope N nt cap) (hi:PI X tg iter (tIt C own fi))
  (hg:∀ fp L s' H',PG (jZ X scope N fp L s' H') tg (tGd (ctC C nt cap.length) (yz own nt cap) g)) (t:∀ fp L s' H',PTs (jZ X scope N fp L s' H') ifs (tT (ctC C nt cap.length) (yz own nt cap) ft))
  (G:∀ fp L s' H',PE (jZ X scope N fp L s' H') elt (tE (ctC C nt cap.length) (yz own nt cap) me fe)) (i:me≠.any:=by decide) (B:∀ x,foldedSetIterable iter X.env x=pure x:=by intro _; rfl) :
  PE X (.ListComp elt [⟨tg,iter,ifs,0⟩] scope pos) (tE C own .fr (qY own nt cap fi g ft fe)):=by
 refine ⟨?_⟩;intro pins s σ H Q I ⟨F,ρ,j,h⟩;rw [eval_ListComp];have n:=KK (α:=Unit) (Z:=λr=>Po C own .fr σ F H r Q) j (λz=>z) (λc _ z=>z) h;refine wpAny_comprehension_free (use:=iD) rfl B (Qz (gh I S)) S.kind S.names (thn (hi pins s σ H _ I n) λW s1 h1=>thn h1 λl s2 h2=>?_);obtain ⟨it,fp,tn,J,H2,e,R,T,K,f2,ds,ρ1,ys,ρe,F1,hz,a,b,k,O,po⟩:=h2;subst e;refine KJ (RR:=λacc V=>compPost (model X.prog X.w) X.A X.xe iD (EP X pins σ Q) acc V) R P S U T K f2 b O hz hg t G i a λp L s' F' H' hp d M nF o f E v=>?_;obtain ⟨m,D⟩:=f;refine ⟨m,D,λh' y=>⟨.ref p,H',v h' y,rfl,?_⟩⟩;refine po (.ref p) F' H' d (k.trans' M) ⟨p,rfl,?_,nF,o⟩;cases q:H p with
 | none=>rfl
 | some u=>exact absurd hp (k.stay p (by rw [q]; simp))
theorem uR {pos' d:Pos} (hN:X.N.Nodup) (W:X.N[i]?=iB x) (hx:Loc X.env.scope x) (P:X.calm=iH) (S:ScOk X scope) (CO:CapOk X scope N nt cap) (hi:PI X tg iter (tIt C own fi))
  (hg:∀ fp L s' H',PG (jZ X scope N fp L s' H') tg (tGd (ctC C nt cap.length) (yz own nt cap) g)) (ht:∀ fp L s' H',PTs (jZ X scope N fp L s' H') ifs (tT (ctC C nt cap.length) (yz own nt cap) ft))
  (he:∀ fp L s' H',PE (jZ X scope N fp L s' H') elt (tE (ctC C nt cap.length) (yz own nt cap) me fe)) (R:me≠.any:=by decide) (Y:i∉C.io:=by exact Uy rfl)
  (G:swapsWith (.ListComp elt [⟨tg,iter,ifs,0⟩] scope pos) (iB (.Name x pos')) d.line X.env=pure true:=by rfl) (hs:∀ x,foldedSetIterable iter X.env x=pure x:=by intro _; rfl)
  (hfx:X.fn x=iH\/X.env.scope.names.lookup x=iB .local:=by first | exact .inl rfl | exact .inr rfl) :
  PS X (.Assign [.Name x pos'] (.ListComp elt [⟨tg,iter,ifs,0⟩] scope pos) d) (tSt C own (i::uf own [i]) (jO i (qY own nt cap fi g ft fe))):=by
 refine ⟨?_⟩;intro pins s σ H D I ⟨F,ρ,rp,h⟩;rw [exec_Assign_Name_used _ _ _ _ G];refine iC (wpAny_standAt (iC ?_));show wpAny _ X.A (do let _ <-comprehension (.ListComp elt [⟨tg,iter,ifs,0⟩] scope pos) scope X.env _ (newList []) iF (eval iter X.env) (iB (assign (.Name x pos') X.env))) _ _ s;have n:=KK (α:=Unit) (Z:=λr=>PoS C own (i::uf own [i]) σ F H (r.bind λp=>if i < p.2.length then .ok (.nx,p.2.set i (iB p.1)) else .bad) D) rp (λz=>z) (λc _ z=>z) h;refine iC (i8 (wpAny_comprehension_free (use:=iB (assign (.Name x pos') X.env)) (Q:=λ_ s'=>SP X pins D .next s') rfl hs (Qz (gh I S)) S.kind S.names (thn (hi pins s σ H _ I n) λxv s1 h1=>thn h1 λitv s2 h2=>?_)) (λ_ s' hq=>iG (iG hq)) λ_ _ e=>e);obtain ⟨it,fp,tn,J,H2,e,I2,T,K,f2,ds,ρ1,ys,ρe,F1,hz,k,B,c1,O,po⟩:=h2;subst e;refine KJ (RR:=λacc C'=>compPost (model X.prog X.w) X.A X.xe (iB (assign (.Name x pos') X.env)) (λ_ s'=>SP X pins D .next s') acc C') I2 P S CO T K f2 B O hz hg ht he R k λp L s' F' H' hp f c' nF o M hfp l=>?_;obtain ⟨m,hn⟩:=M;have I3:Inv X pins σ H' s':=by simpa using l s'.heap (.refl ..)
 have hH:H p=none:=by
  cases q:H p with
  | none=>rfl
  | some u=>exact absurd hp (c1.stay p (by rw [q]; simp))
 show wpAny _ X.A (assign (.Name x pos') X.env (.ref p)) _ _ s';refine wpAny_assign_Name (Kn I3 hN W hx (v:=.ref p) rfl (λs4 I4 ⟨a,t,ha⟩=>?_) hfx);obtain ⟨f0,f1,f2',f3,f4,f5⟩:=hfp;have nL:L≠a:=by
  rcases ha with z | z;·rw [z]; exact f1
  ·exact λq=>f4 x a z q.symm
 refine ⟨m,hn.sameBut t nL,λh' sb=>?_⟩;have I5:Inv X pins (σ.set i (iB (.ref p))) H' { s4 with heap:=h' }:=by have:=I4.turned (h':=h') (t':=s4.toks) (it:=L) (λb o hb e=>(sb.2 b hb).trans e) f0 f1 f3 f4 f5;exact this
 refine ⟨_,H',I5,?_⟩;have po:PoS C own (i::uf own [i]) σ F H (if i < (jU own ρe nt cap ρ1).length then .ok (.nx,(jU own ρe nt cap ρ1).set i (iB (.lst ys))) else .bad) D:=po;by_cases z:i < (jU own ρe nt cap ρ1).length
 ·rw [if_pos z] at po;refine po _ F' H' ⟨f.putO z nF (λy=>(rp.OA_there y).1 hH) o,c1.trans' c',λb y=>?_,λj V=>ap λy=>Y (by rw [y]; exact V)⟩;obtain ⟨j,V,e⟩:=y;by_cases E:j=i;·subst E;rw [aG (by rw [f.len]; exact z)] at e;cases e;exact .inr hH
  ·have U:=(jg j).mp ((ae.mp V).resolve_left E);rw [ap (ba E)] at e;exact .inl ⟨j,U.1,e⟩
 ·rw [if_neg z] at po; exact po.elim
end
def Fly (h:Heap) (ex T:Addr) (cls:iE):Prop:=∃ o vs a ts,h.get? ex=iB o/\o.cls=cls/\o.data=.fields vs/\vs[1]?=iB (.ref T)/\T≠ex/\h.get? T=iB a/\a.data=.fields ts/\ts[3]?=iB .none
def CXk (P:iJ) (w:iK):CXT:=λouter H s E e s'=>∃ ex T C H',e=.ref ex/\s'.os=s.os/\lr s'.gens/\Un (frs outer) [] H H' s.heap s'.heap/\HOk P w H' s'.heap/\Fly s'.heap ex T (.ref C)/\H' ex=iD/\H' T=iD/\s.heap.get? ex=iD/\s.heap.get? T=iD/\E (.ref C) iD H'
def InB (X:Cx) (H:Hp) (s:iI) (ex:Addr) (cls:iE):Prop:=H ex=iD/\X.s₀.heap.get? ex=iD /\
 ((∃ o vs,s.heap.get? ex=iB o/\o.cls=cls/\o.data=.fields vs/\vs[1]?=iB .none)\/∃ T,Fly s.heap ex T cls/\H T=iD/\X.s₀.heap.get? T=iD)
variable {ex:Addr} {T0:Option Addr} {h2:Heap}
section
variable {cls:iE}
theorem InB.dat (h:InB X H s ex cls):∃ o vs,s.heap.get? ex=iB o/\o.cls=cls/\o.data=.fields vs:=by
 rcases h.2.2 with ⟨o,vs,a,b,c,_⟩ | ⟨T,⟨o,vs,d,ts,a,b,c,_⟩,_⟩
 ·exact ⟨o,vs,a,b,c⟩
 ·exact ⟨o,vs,a,b,c⟩
noncomputable def yU (ex:Addr) (T:Option Addr) (X:Cx):List Addr:=ex::(T.toList++frs X.stack)
theorem yV (I:Inv X pins σ H s) (d:b∈frs X.stack):∃ o,s.heap.get? b=iB o/\∀ vs,o.data≠.fields vs:=(I.stack.mem d).2
theorem KL (c:X.stack=X.env::X.outer):∀ env∈X.stack,∀ b,env.frame=iB b->b∈frs X.stack:=λenv i b d=>fC.mpr ⟨env,i,d⟩
structure Gone (X:Cx) (H:Hp) (s:iI) (ex:Addr) (cls:iE) (h2:Heap):Prop where
 keep:∀ b o,s.heap.get? b=iB o->H b≠iD\/(X.s₀.heap.get? b≠iD/\b∉frs X.stack)->h2.get? b=iB o
 slot:∀ b o,s.heap.get? b=iB o->b∈frs X.stack->∃ sl,h2.get? b=iB { o with slots:=sl }
 ok:HOk X.prog X.w H h2
 un:Un (frs X.stack) [] H H s.heap h2\/True
theorem ZR {h2:Heap} (I:Inv X pins σ H s) (hex:H ex=iD) (hT:∀ T,T0=iB T->H T=iD) (n1:X.s₀.heap.get? ex=iD) (n2:∀ T,T0=iB T->X.s₀.heap.get? T=iD)
  (st:(bg s.heap (yU ex T0 X)).StaysIn h2) (sl:∀ b o,s.heap.get? b=iB o->(∀ vs,o.data≠.fields vs)->∃ sl,h2.get? b=iB { o with slots:=sl }):Gone X H s ex cls h2:=by
 have keep:∀ b o,s.heap.get? b=iB o->b≠ex->(∀ T,T0=iB T->b≠T)->b∉frs X.stack->h2.get? b=iB o:=λb o e h1 h2 h3=>st b o (c6 _ e λm=>by
  rcases ae.mp m with q | m;·exact h1 q
  ·rcases aI.mp m with q | q;·exact h2 b (Option.mem_toList.mp q) rfl
   ·exact h3 q)
 have k1:∀ b o,s.heap.get? b=iB o->H b≠iD->h2.get? b=iB o:=λb o e n=>keep b o e (λq=>n (by rw [q]; exact hex)) (λT h q=>n (by rw [q]; exact hT T h)) λq=>n (I.stkFree b q);refine ⟨λb o e d=>?_,λb o e d=>?_,λb u e=>?_,.inr trivial⟩
 ·rcases d with d | ⟨d,hf⟩
  ·exact k1 b o e d
  ·exact keep b o e (λq=>d (by rw [q]; exact n1)) (λT h q=>d (by rw [q]; exact n2 T h)) hf
 ·obtain ⟨o',a,y⟩:=yV I d;rw [e] at a; cases a;exact sl b o e y
 ·refine (I.hok b u e).stay (λc v f q=>k1 c v q ?_) (λ_ q=>q) λ_ _ q=>q;rcases f with z | z;·rw [z,e]; simp
  ·rw [z]; simp
theorem KM (I:Inv X pins σ H s) (hT:∀ T,T0=iB T->H T=iD) (n2:∀ T,T0=iB T->X.s₀.heap.get? T=iD) (g:Gone X H s ex cls h2) (c:X.ex=[])
  (tr:h2.Traced (bg s.heap (yU ex T0 X)) ex cls):∃ T,Fly h2 ex T cls/\H T=iD/\X.s₀.heap.get? T=none:=by
 obtain ⟨t,vs,T,w,ts,K,J,G,E,p,l,k,j,D⟩:=tr;have a:∀ o,s.heap.get? T=iB o->(∃ q,T0=iB q/\T=q):=λo e=>by
  have m:T∈yU ex T0 X:=by refine bI λA=>?_;rw [c6 _ e A] at p;cases p
  rcases ae.mp m with q | m;·exact absurd q l
  ·rcases aI.mp m with q | q;·exact ⟨T,Option.mem_toList.mp q,rfl⟩
   ·obtain ⟨o',d,x⟩:=yV I q;obtain ⟨sl,i⟩:=g.slot T o' d q;rw [k] at i;cases i;exact absurd j (x ts)
 refine ⟨T,⟨t,vs,w,ts,K,J,G,E,l,k,j,D⟩,?_,?_⟩
 ·cases q:H T with
  | none=>rfl
  | some u=>
   have B:=I.hok.lt q;obtain ⟨o,e⟩:∃ o,s.heap.get? T=iB o:=by
    have:=(I.hok T u q)
    have st:=this.stay (H':=H) (h':=s.heap) (λb v _ z=>z) (λ_ z=>z) λ_ _ z=>z;cases z:s.heap.get? T with
    | some o=>exact ⟨o,rfl⟩
    | none=>
     exfalso;cases u with
     | lst xs=>obtain ⟨_,_,_,_,e⟩:=st; rw [z] at e; cases e
     | tup xs=>obtain ⟨_,_,_,_,e,_⟩:=st; rw [z] at e; cases e
     | dK kvs=>obtain ⟨_,_,_,_,o,_,_,e,_⟩:=st; rw [z] at e; cases e
     | dT kvs=>obtain ⟨_,_,_,_,o,_,_,e,_⟩:=st; rw [z] at e; cases e
     | set S n=>obtain ⟨o,_,_,_,e,_⟩:=st; rw [z] at e; cases e
     | ins C dx fs=>obtain ⟨_,_,_,e,_⟩:=st; rw [z] at e; cases e
     | own y=>obtain ⟨_,e⟩:=st; rw [z] at e; cases e
     | xd fs=>obtain ⟨_,⟨_,_,_,e,_⟩,_⟩:=st; rw [z] at e; cases e
     | rng lo hi=>obtain ⟨_,_,_,e⟩:=st; rw [z] at e; cases e
     | frz L u=>obtain ⟨e,_⟩:=st; rw [z] at e; cases e
     | tbl ps=>have e:s.heap.get? T=iB _:=st; rw [z] at e; cases e
     | met f y=>have e:s.heap.get? T=iB _:=st; rw [z] at e; cases e
     | ext φ=>obtain ⟨_,⟨_,e⟩,_⟩:=st; rw [z] at e; cases e
   obtain ⟨r,h,rfl⟩:=a o e;rw [hT _ h] at q; cases q
 ·cases q:X.s₀.heap.get? T with
  | none=>rfl
  | some o=>obtain ⟨o',d⟩:=I.base.there T o q (by rw [c]; simp);obtain ⟨r,h,rfl⟩:=a o' d;rw [n2 _ h] at q; cases q
theorem Xi {E:iE->iI->Prop} {Q:Unit->iI->Prop} (I:Inv X pins σ H s) (h:X.stack=X.env::X.outer) (r:X.env.frame=iB X.env.locals) (c:X.ex=[]) (x:InB X H s ex cls)
  (k:∀ h2 T,Gone X H s ex cls h2->Fly h2 ex T cls->H T=iD->X.s₀.heap.get? T=iD->Q () { s with heap:=h2 }):wpAny (model X.prog X.w) X.A (leaving X.env (.ref ex)) Q E s:=by
 obtain ⟨hex,n1,hx⟩:=x;have F:X.A.frames=iB (X.env::X.outer):=by rw [I.ok.frames,h]
 have B:∀ as,(bg s.heap as).StaysIn s.heap:=λas b o e=>eh as e;have hl:∀ T0,s.heap.FunFrames (bg s.heap (yU ex T0 X)) (X.env::X.outer):=λT0=>by rw [<-h];exact PySem.W.funFrames_hide I.stack λenv y b C=>ac _ (aV _ (KL h env y b C))
 have u:∀ T0,(bg s.heap (yU ex T0 X)).get? ex=none:=λT0=>cS _ (ae.mpr (.inl rfl));rcases hx with ⟨m,vs,p,j,i,f⟩ | ⟨T,⟨m,vs,v,ts,p,j,i,f,K,J,G,D⟩,hT,n2⟩
 ·refine wpAny_leaving_first (base:=bg s.heap (yU ex iD X)) F (hl iD) r p (B _) (u iD) i f λh2 ⟨st,_,tr,sl⟩=>?_;have g:Gone X H s ex cls h2:=ZR I hex (T0:=iD) (λ_ z=>nomatch z) n1 (λ_ z=>nomatch z) st sl;rw [j] at tr;obtain ⟨l,f1,f2,q⟩:=KM I (T0:=iD) (λ_ z=>nomatch z) (λ_ z=>nomatch z) g c tr;exact k h2 l g f1 f2 q
 ·have d:∀ a,iB T=iB a->H a=none:=λa z=>by cases z; exact hT
  have n:∀ a,iB T=iB a->X.s₀.heap.get? a=none:=λa z=>by cases z; exact n2
  have t:s.heap.Traced (bg s.heap (yU ex (iB T) X)) ex cls:=⟨m,vs,T,v,ts,p,j,i,f,cS _ (ac _ (cy _ (by simp))),K,J,G,D⟩
  refine wpAny_leaving_next (base:=bg s.heap (yU ex (iB T) X)) F (hl (iB T)) r t (B _) (u _) λh2 ⟨st,_,tr,sl⟩=>?_;have g:Gone X H s ex cls h2:=ZR I hex d n1 n st sl;obtain ⟨l,f1,f2,q⟩:=KM I d n g c tr;exact k h2 l g f1 f2 q
end
variable {A:iP} {P:iJ} {w:iK} {mg:Str->Option iE} {base h:Heap} {qual:Str} {cd:iE} {outer:List Env} {s0:iI}
section
variable {f:Addr} {E:XK}
abbrev cxk (P:iJ) (w:iK) (K:Frag) (mg:Str->Option iE) (base:Heap) (N:List Str) (qual:Str) (scope:lc) (f:Addr) (cd:iE) (A:iP) (outer:List Env) (s0:iI) (H0:Hp) (E:XK):Cx:=qde (CXk P w) P w K mg base N qual scope f cd A outer s0 H0 E
theorem qfL {C:Addr} (I:Inv (cxk P w K mg base N qual scope f cd A outer s0 H0 E) pins σ H s) (x:InB (cxk P w K mg base N qual scope f cd A outer s0 H0 E) H s ex (.ref C)) (k:E (.ref C) iD H):(cxk P w K mg base N qual scope f cd A outer s0 H0 E).xe (.ref ex) s:=by
 refine Xi I rfl rfl rfl x λh2 T g l hT j=>?_;have a:=I.base;have L:∀ b o,s0.heap.get? b=iB o->b≠(cxk P w K mg base N qual scope f cd A outer s0 H0 E).env.locals:=λb o e=>aC (aH (aq e) I.ok.above);have t:∀ b o,s0.heap.get? b=iB o->b∉frs outer->b∉frs (cxk P w K mg base N qual scope f cd A outer s0 H0 E).stack:=λb o e d z=>by
  rcases ae.mp (I.stkSub b z) with q | q;·exact L b o e q
  ·exact d q
 have i:∀ b,b∈frs outer->b∈frs (cxk P w K mg base N qual scope f cd A outer s0 H0 E).stack:=λb d=>by show b∈frs (_::outer);unfold frs;rw [bj];exact ac _ d
 refine ⟨ex,T,C,H,rfl,I.os,I.bare,⟨λb o e n d hx=>?_,λb o e n d hx=>?_,a.free,λb o e hx=>?_,a.tups,a.frzs,a.tbls⟩,g.ok,l,x.1,hT,x.2.1,j,k⟩;·exact g.keep b o (a.keep b o e n d hx) (.inr ⟨by show s0.heap.get? b≠iD; rw [e]; simp,t b o e d⟩)
 ·obtain ⟨sl,q⟩:=a.slot b o e n d hx;obtain ⟨c,h⟩:=g.slot b _ q (i b d);exact ⟨c,h⟩
 ·obtain ⟨o',q⟩:=a.there b o e hx;by_cases d:b∈frs (cxk P w K mg base N qual scope f cd A outer s0 H0 E).stack;·obtain ⟨sl,h⟩:=g.slot b o' q d;exact ⟨_,h⟩
  ·exact ⟨o',g.keep b o' q (.inr ⟨by show s0.heap.get? b≠iD; rw [e]; simp,d⟩)⟩
theorem qdD {e:iE} (c:X.ex=[]) (I:Inv X pins σ H s) (h:CXk X.prog X.w X.stack H s E e s'):∃ ex C H',e=.ref ex/\Inv X pins σ H' s'/\InB X H' s' ex (.ref C)/\E (.ref C) iD H':=by
 obtain ⟨ex,T,C,H',rfl,os,bare,un,hok,l,e1,i,n1,n2,k⟩:=h;have old:∀ b,s.heap.get? b=iD->X.s₀.heap.get? b=none:=λb d=>by
  cases q:X.s₀.heap.get? b with
  | none=>rfl
  | some o=>obtain ⟨o',a⟩:=I.base.there b o q (by rw [c]; simp);rw [d] at a; cases a
 exact ⟨ex,C,H',rfl,I.call' (ch:=[]) os un hok bare (λb z=>absurd z (by simp)),⟨e1,old ex n1,.inr ⟨T,l,i,old T n2⟩⟩,k⟩
theorem qR:ui (CXk P w) (cxk P w K mg base N qual scope f cd A outer s0 H0 E) E:=λpins σ H s e s' I h=>by obtain ⟨ex,C,H',rfl,b,x,k⟩:=qdD rfl I h;exact qfL b x k
theorem qdE {C:Addr} {b:List iE} {d:String} (kin:K.In h) (c:mg x=iB (.ref C)) (q:d4 K C b d=iH):OwnCls x C b d mg h:=by
 refine ⟨c,?_⟩;unfold d4 at q;split at q
 case h_2=>cases q
 case h_1 dd cd sl lk=>
  split at q
  case h_2=>cases q
  case h_1 C' bm a0 a1 a2 a3 n a5 em es=>
   have g:=q;simp only [aK,beq_iff_eq,fL] at g;obtain ⟨⟨⟨⟨⟨e1,i⟩,l⟩,tl⟩,k⟩,t⟩:=g;obtain ⟨nm,bs,mro,ns,a,hd,sn,sub,ab,col,del⟩:=cd;dsimp only at em l k t;obtain ⟨s⟩:=sl;dsimp only at es;subst em l es e1 i;exact ⟨bm,ns,nm,a,bs,hd,sn,sub,ab,col,dd,a0,a1,a2,a3,a5,_,kin _ _ lk,.of_isNs (PySem.W.isNs_of_in kin k),PySem.W.nsMap_none_of_in kin k t,PySem.W.tail_of_in kin tl⟩
end
theorem qcv {T:Addr} (hok:HOk P w H h) (q:H T=iB u):∃ o,h.get? T=iB o:=by
 have st:=hok T u q;cases z:h.get? T with
 | some o=>exact ⟨o,rfl⟩
 | none=>
  exfalso;cases u with
  | lst xs=>obtain ⟨_,_,_,_,e⟩:=st; rw [z] at e; cases e
  | tup xs=>obtain ⟨_,_,_,_,e,_⟩:=st; rw [z] at e; cases e
  | dK kvs=>obtain ⟨_,_,_,_,o,_,_,e,_⟩:=st; rw [z] at e; cases e
  | dT kvs=>obtain ⟨_,_,_,_,o,_,_,e,_⟩:=st; rw [z] at e; cases e
  | set S n=>obtain ⟨o,_,_,_,e,_⟩:=st; rw [z] at e; cases e
  | ins C dx fs=>obtain ⟨_,_,_,e,_⟩:=st; rw [z] at e; cases e
  | own y=>obtain ⟨_,e⟩:=st; rw [z] at e; cases e
  | xd fs=>obtain ⟨_,⟨_,_,_,e,_⟩,_⟩:=st; rw [z] at e; cases e
  | rng lo hi=>obtain ⟨_,_,_,e⟩:=st; rw [z] at e; cases e
  | frz b u=>obtain ⟨e,_⟩:=st; rw [z] at e; cases e
  | tbl ps=>have e:h.get? T=iB _:=st; rw [z] at e; cases e
  | met f y=>have e:h.get? T=iB _:=st; rw [z] at e; cases e
  | ext φ=>obtain ⟨_,⟨_,e⟩,_⟩:=st; rw [z] at e; cases e
abbrev bmV:List iE:=[.type "ValueError",.type "Exception",.type "BaseException",.type "object"]
noncomputable def vo (x:Str) (fr:Sl->Out (List D×Sl)):Sl->Out (Fl×Sl):=λρ=>(fr ρ).bind λp=>.exc x p.2
theorem PoS.bindA {as:List AK} {o:Out (List D×Sl)} {k:List D×Sl->Out (Fl×Sl)} {D:Ends} {R:List V->Hp->Prop} (hp:PoS C own own' σ F H (o.bind k) D)
  (h:∀ vs F1 H1 ds ρ1,Rep C.K own F1 H1 σ ρ1->Chg (OA own σ) F H F1 H1->ArgV C.K H F1 H1 σ as vs ds->PoS C own own' σ F1 H1 (k (ds,ρ1)) D->R vs H1):PoA C own as σ F H o R:=by
 cases o with
 | ok p=>obtain ⟨ds,ρ1⟩:=p;exact λvs F1 H1 a c v=>h vs F1 H1 ds ρ1 a c v (PoS.shift (show PoS C own own' σ F H (k (ds,ρ1)) D from hp) (.ofE a c))
 | exc x=>exact hp
 | bad=>exact hp.elim
def ZS (X:Cx) (C:Ct):Prop:=∀ (pins:List (Addr×Obj)) (σ:St) (H:Hp) (s:iI) (ex A:Addr),Inv X pins σ H s->InB X H s ex (.ref A)->C.E (.ref A) iD H->X.xe (.ref ex) s
theorem qfM {f:Addr}:ZS (cxk P w K mg base N qual scope f cd A outer s0 H0 C.E) C:=λpins σ H s ex A I x k=>qfL I x k
variable {Cc:Addr} {cpos:Pos}
section
variable {fr:Sl->Out (List D×Sl)} {np:Pos}
theorem ArgV.len:∀ {as:List AK} {vs:List V} {ds:List D},ArgV K H0 F H σ as vs ds->vs.length=as.length
 | [],[],[],_=>rfl
 | .vl::as,v::vs,d::ds,h=>congrArg (·+1) (ArgV.len h.2)
 | .sl i::as,v::vs,d::ds,h=>congrArg (·+1) (ArgV.len h.2.2)
 | .fr::as,v::vs,d::ds,h=>congrArg (·+1) (ArgV.len h.2)
 | [],_::_,_,h=>h.elim
 | [],[],_::_,h=>h.elim
 | .vl::_,[],_,h=>h.elim
 | .vl::_,_::_,[],h=>h.elim
 | .sl _::_,[],_,h=>h.elim
 | .sl _::_,_::_,[],h=>h.elim
 | .fr::_,[],_,h=>h.elim
 | .fr::_,_::_,[],h=>h.elim
theorem wu (c:X.ex=[]) (w:ZS X C) (P:X.calm=iH) (hg:Gl X x) (m:X.mg x=iB (.ref Cc)) (v:C.cv x=.ref Cc) (q:d4 X.K Cc bmV "ValueError.__new__"=iH) (A:PA X (e::es) (tAr C own as fr)) (hsz:as.length<=1000:=by decide) (g:∀ i∈C.ox,i∈own:=by exact um rfl) (hd:(x == ("__debug__":Str))=false:=by decide)
  (j:starEach (e::es) X.env=(iF,eval e X.env)::starEach es X.env:=by exact jT rfl) (l:(backTo cpos (starEach es X.env)).any (·.1)=false:=by rfl) :
  PS X (.Raise (iB (.Call (.Name x np) (e::es) [] cpos)) iD pos) (tSt C own own' (vo x fr)):=by
 refine ⟨?_⟩;intro pins s σ H D I ⟨F,ρ,r,h⟩;obtain ⟨tl,N,nm,p,bs,hdct,sn,sub,ab,col,dd,k0,k1,k2,k3,k5,mN,hC,B,f,T⟩:=(qdE I.ok.mod.kin m q).obj;refine wpAny_Raise_call_subT (C:=Cc) (nm:=nm) (q:=p) (N:=N) (bs:=bs) (bm:=tl) (hdct:=hdct) (sn:=sn) (sub:=sub) (ab:=ab) (col:=col) (dd:=dd) (k0:=k0) (k1:=k1) (k2:=k2) (k3:=k3) (k5:=k5)
  PySem.F.excBase_ValueError (mN:=mN) (T.hasType PySem.F.excBase_ValueError.hasBase) (I.ok.hd P) (by rw [j]; show (iF||(backTo cpos (starEach es X.env)).any (·.1))=iF; rw [l]; rfl) f (zU I hg m ⟨rfl,?_⟩ hd)
 have n:tAr C own as fr σ H λvs H1=>vs.length<=sizeLine/\C.E (.ref Cc) iD H1:=by
  refine ⟨F,ρ,r,PoS.bindA h λvs F1 H1 ds ρ1 a M J h1=>⟨?_,?_⟩⟩;·rw [J.len]; exact bz hsz (by rw [iL]; decide)
  ·rw [<-v]; exact h1 F1 H1 a.sub (a.ioIs g) .refl
 have run:=A cpos pins s σ H _ I n;rw [j] at run ⊢;refine dL (i8 run (λus s2 ⟨vs,H2,d,r2,z2,G⟩=>?_) λ_ _ y=>y);refine ⟨rfl,by rw [<-r2.length]; exact z2,d.bk _ _ hC,B.keeps d.bk,T.keeps d.bk,λh' ex mk=>?_⟩;have L:Inv X pins σ H2 { s2 with heap:=h' }:=d.kept (t':=s2.toks) mk.keeps;obtain ⟨t,h1,h2,h3⟩:=mk.there;refine w pins σ H2 _ ex Cc L ⟨?_,?_,.inl ⟨_,_,h1,rfl,rfl,rfl⟩⟩ G
 ·cases b:H2 ex with
  | none=>rfl
  | some u=>have z:=d.hok.lt b;refine absurd mk.new ?_;obtain ⟨o,e⟩:=qcv d.hok b;rw [e]; simp
 ·cases b:X.s₀.heap.get? ex with
  | none=>rfl
  | some o=>obtain ⟨o',k⟩:=d.base.there ex o b (by rw [c]; simp);rw [mk.new] at k; cases k
end
structure Caught (X:Cx) (pins:List (Addr×Obj)) (H:Hp) (s:iI) (ex T Cc:Addr):Prop where
 fly:Fly s.heap ex T (.ref Cc)
 hex:H ex=iD
 hT:H T=iD
 n1:X.s₀.heap.get? ex=iD
 n2:X.s₀.heap.get? T=iD
 pp:∀ p∈X.pn++pins,p.1≠ex/\p.1≠T
variable {xe:iE->iI->Prop}
section
variable {T:Addr}
theorem Caught.dex (c:Caught X pins H s ex T Cc):∃ o vs,s.heap.get? ex=iB o/\o.data=.fields vs:=let ⟨o,vs,a,ts,p,b,z,_⟩:=c.fly; ⟨o,vs,p,z⟩
theorem Caught.dT (c:Caught X pins H s ex T Cc):∃ o vs,s.heap.get? T=iB o/\o.data=.fields vs:=let ⟨o,vs,a,ts,p,b,z,q,m,l,k,_⟩:=c.fly; ⟨a,ts,l,k⟩
theorem UJ {h2:Heap} (I:Inv X pins σ H s) (g:X.stack=X.env::X.outer) (j:X.env.frame=iB X.env.locals) (K:X.ex=[]) (c:Caught X pins H s ex T Cc)
  (keep:∀ b o,s.heap.get? b=iB o->b≠ex->b≠T->b∉frs X.stack->h2.get? b=iB o)
  (slot:∀ b o,s.heap.get? b=iB o->b∈frs X.stack->∃ sl,h2.get? b=iB { o with slots:=sl }):Inv X pins σ H { s with heap:=h2 }:=by
 obtain ⟨Z,ve,N,R⟩:=c.dex;obtain ⟨F,Y,hT,dT⟩:=c.dT;have G:∀ b o,s.heap.get? b=iB o->(∀ vs,o.data≠.fields vs)->b≠ex/\b≠T:=λb o e n=>by
  constructor;·rintro rfl; rw [N] at e; cases e; exact n _ R
  ·rintro rfl; rw [hT] at e; cases e; exact n _ dT
 have W:X.env.locals∈frs X.stack:=by rw [g]; unfold frs; rw [bj,j]; exact ai
 have L:∀ b o,X.s₀.heap.get? b=iB o->b≠X.env.locals:=λb o e=>aC (aH (aq e) I.ok.above);have w:∀ b o,X.s₀.heap.get? b=iB o->b∉X.fs->b∉frs X.stack:=λb o e h z=>by
  rcases ae.mp (I.stkSub b z) with q | q;·exact L b o e q
  ·exact h q
 have y:∀ b,b∈X.fs->b∈frs X.stack:=λb h=>by rw [g]; unfold frs; rw [bj,j]; exact ac _ h
 have f:∀ b o,X.s₀.heap.get? b=iB o->b≠ex/\b≠T:=λb o e=>⟨(by rintro rfl; rw [c.n1] at e; cases e),(by rintro rfl; rw [c.n2] at e; cases e)⟩
 have A:∀ {a:Addr} {v:Option iE},s.heap.IsCell a v->h2.IsCell a v:=λ{a v} ⟨oc,e1,l⟩=>by
  have q:=G a oc e1 λvs z=>by rw [l] at z; cases z
  by_cases h:a∈frs X.stack;·obtain ⟨sl,z⟩:=slot a oc e1 h;exact ⟨_,z,l⟩
  ·exact ⟨oc,keep a oc e1 q.1 q.2 h,l⟩
 refine ⟨I.ok,I.os,I.bare,⟨λb o e n h hx=>?_,λb o e n h hx=>?_,I.base.free,λb o e hx=>?_,I.base.tups,I.base.frzs,I.base.tbls⟩,?_,λx a e=>?_,I.free,I.freeC,λp hp=>?_,λb u e=>?_,I.len⟩;·exact keep b o (I.base.keep b o e n h hx) (f b o e).1 (f b o e).2 (w b o e h)
 ·obtain ⟨sl,q⟩:=I.base.slot b o e n h hx;obtain ⟨t,E⟩:=slot b _ q (y b h);exact ⟨t,E⟩
 ·obtain ⟨o',q⟩:=I.base.there b o e hx;by_cases h:b∈frs X.stack;·obtain ⟨sl,z⟩:=slot b o' q h;exact ⟨_,z⟩
  ·exact ⟨o',keep b o' q (f b o e).1 (f b o e).2 h⟩
 ·obtain ⟨m,⟨o,es,ep,M,r⟩,hl⟩:=I.loc;obtain ⟨sl,P⟩:=slot _ o M W;refine ⟨m,⟨_,es,ep,P,r⟩,λi x v e1 l Q=>?_⟩;obtain ⟨u,D,J⟩:=hl i x v e1 l Q;refine ⟨u,D,?_⟩;rcases J with z | ⟨k,a,e,z⟩
  ·exact .inl z
  ·exact .inr ⟨k,a,e,A z⟩
 ·obtain ⟨v,z⟩:=I.cell x a e;exact ⟨v,A z⟩
 ·obtain ⟨V,U,C,B,S⟩:=I.pin p hp;refine ⟨keep p.1 p.2 V (c.pp p hp).1 (c.pp p hp).2 λz=>?_,U,C,B,S⟩;rcases ae.mp (I.stkSub p.1 z) with q | q;·exact C q
  ·exact B q
 ·refine (I.hok b u e).stay (λd v O q=>?_) (λ_ q=>q) λ_ _ q=>q;have hd:H d≠none:=by
   rcases O with z | z;·rw [z,e]; simp
   ·rw [z]; simp
  exact keep d v q (λz=>hd (by rw [z]; exact c.hex)) (λz=>hd (by rw [z]; exact c.hT)) λz=>hd (I.stkFree d z)
theorem QA {B:iE} (I:Inv X pins σ H s) (h:X.ex=[]) (c:Caught X pins H s ex T Cc) (slot:∀ b o,s.heap.get? b=iB o->b∈frs X.stack->∃ sl,h2.get? b=iB { o with slots:=sl })
  (tr:h2.TracedW (bg s.heap (yU ex (iB T) X)) ex (.ref Cc) B):∃ l,Caught X pins H { s with heap:=h2 } ex l Cc:=by
 obtain ⟨n,vs,l,r,ts,A,⟨z,_⟩,x,w,k,j,g,f,v⟩:=tr;have a:∀ o,s.heap.get? l=iB o->l=T:=λo e=>by
  have m:l∈yU ex (iB T) X:=by refine bI λt=>?_;rw [c6 _ e t] at k;cases k
  rcases ae.mp m with q | m;·exact absurd q j
  ·rcases aI.mp m with q | q;·simpa using q
   ·obtain ⟨o',d,y⟩:=yV I q;obtain ⟨sl,i⟩:=slot l o' d q;rw [g] at i;cases i;exact absurd f (y ts)
 refine ⟨l,⟨n,vs,r,ts,A,z,x,w,j,g,f,v⟩,c.hex,?_,c.n1,?_,λp hp=>⟨(c.pp p hp).1,?_⟩⟩
 ·cases q:H l with
  | none=>rfl
  | some u=>obtain ⟨o,e⟩:=qcv I.hok q;rw [a o e,c.hT] at q; cases q
 ·cases q:X.s₀.heap.get? l with
  | none=>rfl
  | some o=>obtain ⟨o',d⟩:=I.base.there l o q (by rw [h]; simp);rw [a o' d,c.n2] at q; cases q
 ·rintro rfl;exact (c.pp p hp).2 (a _ (I.pin p hp).1)
theorem QB (st:(bg s.heap (yU ex (iB T) X)).StaysIn h2):∀ b o,s.heap.get? b=iB o->b≠ex->b≠T->b∉frs X.stack->h2.get? b=iB o:=λb o e h1 h2 h3=>st b o (c6 _ e λc=>by
  rcases ae.mp c with q | c;·exact h1 q
  ·rcases aI.mp c with q | q;·exact h2 (by simpa using q)
   ·exact h3 q)
theorem KN (c:Caught X pins H s ex T Cc):∃ B,s.heap.TracedW (bg s.heap (yU ex (iB T) X)) ex (.ref Cc) B:=by obtain ⟨o,vs,a,ts,p,b,z,q,m,l,k,j⟩:=c.fly;have hz:0 < vs.size:=fM (Array.getElem?_eq_some_iff.mp q).1;exact ⟨vs[0],o,vs,T,a,ts,p,⟨b,by simp [hz]⟩,z,q,cS _ (ac _ (cy _ (by simp))),m,l,k,j⟩
theorem QC (I:Inv X pins σ H s) (h:X.stack=X.env::X.outer):s.heap.FunFrames (bg s.heap (yU ex (iB T) X)) (X.env::X.outer):=by rw [<-h];exact PySem.W.funFrames_hide I.stack λenv i b d=>ac _ (aV _ (KL h env i b d))
theorem ZT {E:iE->iI->Prop} {Q:Unit->iI->Prop} (hA:A.frames=iB X.stack) (I:Inv X pins σ H s) (h:X.stack=X.env::X.outer) (r:X.env.frame=iB X.env.locals) (a:X.ex=[]) (c:Caught X pins H s ex T Cc)
  (k:∀ s' l,Inv X pins σ H s'->Caught X pins H s' ex l Cc->Q () s'):wpAny (model X.prog X.w) A (noteFrame (.ref ex) X.env) (λ_ s1=>wpAny (model X.prog X.w) A (setFlight (.ref ex) iD) Q E s1) E s:=by
 obtain ⟨B,tr⟩:=KN c;refine wpAny_looks_onW (by rw [hA,h]) r ⟨λb o e=>eh _ e,cS _ (ae.mpr (.inl rfl)),QC I h,tr⟩ λh1 d j=>?_;refine wpAny_landsW d λh2 g u=>?_;have slot:∀ b o,s.heap.get? b=iB o->b∈frs X.stack->∃ sl,h2.get? b=iB { o with slots:=sl }:=λb o e n=>by obtain ⟨o',i,y⟩:=yV I n;rw [e] at i; cases i;obtain ⟨sl,q⟩:=j b o e y;obtain ⟨f,m⟩:=u b _ q y;exact ⟨f,m⟩
 obtain ⟨l,p⟩:=QA I a c slot g.2.2.2;have t:Inv X pins σ H { s with heap:=h2 }:=UJ I h r a c (QB g.1) slot;exact k { s with heap:=h2 } l t p
theorem Wn {A:iP} {E:iE->iI->Prop} {Q:Unit->iI->Prop} (I:Inv X pins σ H s) (h:X.stack=X.env::X.outer) (r:X.env.frame=iB X.env.locals) (a:X.ex=[]) (c:Caught X pins H s ex T Cc)
  (k:∀ s' l,Inv X pins σ H s'->Caught X pins H s' ex l Cc->Q () s'):wpAny (model X.prog X.w) A (setFlight (.ref ex) iD) Q E s:=by
 obtain ⟨B,tr⟩:=KN c;refine wpAny_setFlight_noneW (base:=bg s.heap (yU ex (iB T) X)) (λb o e=>eh _ e) (QC I h) tr λh2 st _ t kp=>?_;have slot:∀ b o,s.heap.get? b=iB o->b∈frs X.stack->∃ sl,h2.get? b=iB { o with slots:=sl }:=λb o e f=>by obtain ⟨o',d,y⟩:=yV I f;rw [e] at d; cases d;exact ⟨o.slots,kp b o e y⟩
 obtain ⟨l,g⟩:=QA I a c slot t;exact k _ l (UJ I h r a c (QB st) slot) g
theorem qhD (I:Inv X pins σ H s) (c:Caught X pins H s ex T Cc):Inv X pins σ (upd H ex (We ex Cc)) s:=by
 obtain ⟨g,vs,B,ts,f,w,h,_⟩:=c.fly;have y:∀ b o,s.heap.get? b=iB o->(∀ vs,o.data≠.fields vs)->b≠ex:=λb o e n=>by rintro rfl; rw [f] at e; cases e; exact n _ h
 have up:∀ {b:Addr} {u:HO},H b=iB u->upd H ex (We ex Cc) b=iB u:=λ{b u} e=>by rw [qB (qH e c.hex)]; exact e
 refine ⟨I.ok,I.os,I.bare,⟨I.base.keep,I.base.slot,λb o e n hx=>?_,I.base.there,λb xs e=>up (I.base.tups b xs e),λb o u e=>up (I.base.frzs b o u e),λb ps e=>?_⟩,I.loc,I.cell,?_,λx a e=>?_,λp hp=>?_,λb u e=>?_,I.len⟩;·rw [qB (by rintro rfl; rw [c.n1] at e; cases e)]; exact I.base.free b o e n hx
 ·obtain ⟨more,z⟩:=I.base.tbls b ps e;exact ⟨more,up z⟩
 ·obtain ⟨m,⟨o,es,ep,l,hd,_⟩,_⟩:=I.loc;rw [qB (y _ o l λvs z=>by rw [hd] at z; cases z)]; exact I.free
 ·obtain ⟨v,oc,e1,i⟩:=I.cell x a e;rw [qB (y _ oc e1 λvs z=>by rw [i] at z; cases z)]; exact I.freeC x a e
 ·obtain ⟨A,t,r⟩:=I.pin p hp;refine ⟨A,?_,r⟩;rw [qB (c.pp p hp).1]; exact t
 ·by_cases q:b=ex;·subst q;rw [qt] at e; cases e;refine ⟨⟨g,vs,f,w,h⟩,⟨g,f⟩,λh1 h2 ⟨o1,j,e1,i,E⟩ k=>⟨o1,j,k _ e1,i,E⟩⟩
  ·rw [qB q] at e;exact (I.hok b u e).stay (λ_ _ _ z=>z) (λd z=>up z) λd xs z=>up z
def Wo (X:Cx) (pn:List (Addr×Obj)) (xe:iE->iI->Prop):Cx:={ X with pn:=pn,xe:=xe }
theorem qdF (I:Inv X pins σ H s):Inv (Wo X (X.pn++pins) xe) [] σ H s:=
 ⟨⟨I.ok.mod,I.ok.kind,I.ok.glob,I.ok.blt,I.ok.above,I.ok.inj,I.ok.has,I.ok.cab,I.ok.hd,I.ok.frames,I.ok.stk,I.ok.exf,I.ok.bs,I.ok.bsz,I.ok.noex,I.ok.exfs,I.ok.funs,I.ok.frf⟩,I.os,I.bare,I.base,I.loc,I.cell,I.free,I.freeC,λp hp=>I.pin p (by simpa [Wo] using hp),I.hok,I.len⟩
theorem ur {a:List (Addr×Obj)} (I:Inv (Wo X (X.pn++pins) xe) a σ H s):Inv X pins σ H s:=
 ⟨⟨I.ok.mod,I.ok.kind,I.ok.glob,I.ok.blt,I.ok.above,I.ok.inj,I.ok.has,I.ok.cab,I.ok.hd,I.ok.frames,I.ok.stk,I.ok.exf,I.ok.bs,I.ok.bsz,I.ok.noex,I.ok.exfs,I.ok.funs,I.ok.frf⟩,I.os,I.bare,I.base,I.loc,I.cell,I.free,I.freeC,λp hp=>I.pin p (cy _ hp),I.hok,I.len⟩
noncomputable def qgS (X:Cx) (e:iE):Cx:={ X with A:=X.A.mark (iB e),calm:=iF,xe:=λ_ _=>False }
theorem qcw {e:iE} (I:Inv X pins σ H s):Inv (qgS X e) pins σ H s:=
 ⟨⟨I.ok.mod,I.ok.kind,I.ok.glob,I.ok.blt,I.ok.above,I.ok.inj,I.ok.has,I.ok.cab,λz=>absurd z (by show ¬(iF=iH); exact bE),I.ok.frames,I.ok.stk,I.ok.exf,I.ok.bs,I.ok.bsz,I.ok.noex,I.ok.exfs,I.ok.funs,I.ok.frf⟩,I.os,I.bare,I.base,I.loc,I.cell,I.free,I.freeC,I.pin,I.hok,I.len⟩
theorem qdG {e:iE} (hok:X.Ok) (I:Inv (qgS X e) pins σ H s):Inv X pins σ H s:=
 ⟨hok,I.os,I.bare,I.base,I.loc,I.cell,I.free,I.freeC,I.pin,I.hok,I.len⟩
theorem Xj {g:Str->Option iE} {t:Nat} (I:Inv X pins σ H s) (k:X.stack=X.env::X.outer) (r:X.env.frame=iB X.env.locals) (A:h'.Ns X.env.locals g) (y:bt X.env.locals s.heap h'):Inv X pins (σ.map λ_=>iD) H { s with heap:=h',toks:=t }:=by
 have L:∀ b o,X.s₀.heap.get? b=iB o->b≠X.env.locals:=λb o e=>aC (aH (aq e) I.ok.above);obtain ⟨m,⟨E,es,ep,Y,h,_⟩,_⟩:=id I.loc;have w:∀ {a:Addr} {v:Option iE},s.heap.IsCell a v->a≠X.env.locals:=λ{a v} ⟨oc,e1,c⟩=>by rintro rfl; rw [Y] at e1; cases e1; rw [h] at c; cases c
 refine ⟨I.ok,I.os,I.bare,⟨λb o e n f hx=>(y.2 b (L b o e)).trans (I.base.keep b o e n f hx),λb o e n f hx=>?_,I.base.free,λb o e hx=>?_,I.base.tups,I.base.frzs,I.base.tbls⟩,⟨g,A,λi x v e1 c=>?_⟩,λx a e=>?_,I.free,I.freeC,λp hp=>?_,λb u e=>?_,by simp [I.len]⟩;·obtain ⟨sl,q⟩:=I.base.slot b o e n f hx;exact ⟨sl,(y.2 b (L b o e)).trans q⟩
 ·obtain ⟨o',q⟩:=I.base.there b o e hx;exact ⟨o',(y.2 b (L b o e)).trans q⟩
 ·simp only [aE] at c;cases q:σ[i]? <;> rw [q] at c <;> cases c
 ·obtain ⟨v,z⟩:=I.cell x a e;exact ⟨v,z.sameBut y (w z)⟩
 ·obtain ⟨D,C,j,B⟩:=I.pin p hp;exact ⟨(y.2 p.1 j).trans D,C,j,B⟩
 ·refine (I.hok b u e).stay (λd v l q=>(y.2 d ?_).trans q) (λ_ q=>q) λ_ _ q=>q;rintro rfl;rcases l with z | z;·rw [<-z,I.free] at e; cases e
  ·rw [I.free] at z; cases z
end
def qhE (C:Ct) (own:List Nat) (E:XK):Ct:=⟨C.K,C.cv,E,own,C.mr,C.ol,own,λ_ h=>h⟩
noncomputable def exC (C:Ct):Ct:=⟨C.K,C.cv,λ_ _ _=>False,[],C.mr,[],[],λ_ h=>h⟩
noncomputable def qbf (n:Nat) (j:Option Nat) (hit:Str->Option Addr) (fb fs:Sl->Out (Fl×Sl)):Sl->Out (Fl×Sl):=λρ=>match fb ρ with
 | .exc c ρe=>match hit c with
  | some Cc=>match fs (match j with | some j=>(bu n iD).set j (iB (.xcp Cc)) | none=>bu n iD) with
   | .ok (.rt d,_)=>.ok (.rt d,ρe)
   | _=>.bad
  | none=>.bad
 | o=>o
def qhF (C:Ct) (own:List Nat) (σ:St) (F H:Hp) (r:Out (Fl×Sl)):XK:=λcls _ H'=>∃ c ρe F',r=.exc c ρe/\cls=C.cv c/\Same F' H'/\XS C.K own F' H' σ ρe/\Chg (OA own σ) F H F' H'
def qhG (X:Cx) (pins:List (Addr×Obj)) (E:XK):iE->iI->Prop:=λe s'=>∃ σ ex T Cc H',e=.ref ex/\Inv X pins σ H' s'/\Caught X pins H' s' ex T Cc/\E (.ref Cc) iD H'
section
variable {fs:Sl->Out (Fl×Sl)}
theorem Xk {E:XK} (c:X.ex=[]):ui (CXk X.prog X.w) (Wo X (X.pn++pins) (qhG X pins E)) E:=λa σ H s e s' I h=>by
 obtain ⟨ex,T,Cc,H',rfl,os,bare,un,hok,l,e1,i,n1,n2,k⟩:=h;have old:∀ b,s.heap.get? b=iD->X.s₀.heap.get? b=none:=λb f=>by
  cases q:X.s₀.heap.get? b with
  | none=>rfl
  | some o=>obtain ⟨o',d⟩:=I.base.there b o q (by show b∉X.ex; rw [c]; simp);rw [f] at d; cases d
 have g:Inv (Wo X (X.pn++pins) (qhG X pins E)) a σ H' s':=I.call' (ch:=[]) os un hok bare (λb z=>absurd z (by simp));refine ⟨σ,ex,T,Cc,H',rfl,ur g,⟨l,e1,i,old ex n1,old T n2,λp hp=>?_⟩,k⟩;have q:=(I.pin p (cy _ hp)).1;exact ⟨λz=>(by rw [z,n1] at q; cases q),λz=>(by rw [z,n2] at q; cases q)⟩
theorem Nx.untry {E:XK} {σ':St} {ρ':Sl} (g:∀ i∈C.io,i∈own) (n:Nx (qhE C own E) o1 o2 σ F H ρ' σ' F' H'):Nx C o1 o2 σ F H ρ' σ' F' H':=⟨n.rep,n.chg,n.oa,λi hi=>n.io i (g i hi)⟩
theorem qbg {D:Ends} {j:Option Nat} {hit:Str->Option Addr} (g:∀ i∈C.io,i∈own) (r:Rep C.K own F H σ ρ) (h:PoS C own own' σ F H (qbf n j hit fb fs ρ) D):tSt (qhE C own (qhF C own σ F H (fb ρ))) own own' fb D σ H:=by
 refine ⟨F,ρ,r,?_⟩;unfold qbf at h;cases q:fb ρ with
 | ok p=>
  rw [q] at h;obtain ⟨l,ρ'⟩:=p;cases l with
  | nx=>exact λσ' F' H' a=>h σ' F' H' (a.untry g)
  | rt d=>exact λv σ' F' H' s io c e o=>h v σ' F' H' s (λi hi=>io i (g i hi)) c (λi hi=>e i (g i hi)) o
  | bk=>exact λσ' F' H' a=>h σ' F' H' (a.untry g)
  | ct=>exact λσ' F' H' a=>h σ' F' H' (a.untry g)
 | exc c ρe=>exact λF' H' s io ch=>⟨c,ρe,F',rfl,rfl,s,io,ch⟩
 | bad=>rw [q] at h; exact h.elim
theorem ZU {t e:Hp} {Cc:Addr} {D:Ends} {d:D2.D} {v:V} {w:St} (g:∀ i∈C.io,i∈own) (h:PoS C own own' σ F H (.ok (.rt d,ρe)) D) (n:H1 ex=iD) (y:Same F1 H1) (io:XS C.K own F1 H1 σ ρe) (ch:Chg (OA own σ) F H F1 H1)
  (s3:Same t e) (G:Chg (OA [] w) (upd F1 ex (We ex Cc)) (upd H1 ex (We ex Cc)) t e) (m:MoIs C.K C.mr (upd H1 ex (We ex Cc)) t e v d):D.rt v e:=by
 obtain ⟨s,c2⟩:=uo (u:=We ex Cc) y n;have no:∀ {b},OA [] w b->False:=λ⟨i,hi,_⟩=>by simp at hi
 have f:Chg No (upd F1 ex (We ex Cc)) (upd H1 ex (We ex Cc)) t e:=G.mono λx z=>no z;have c:Chg No F1 H1 t e:=c2.trans f λ_ z=>z.elim;refine h v σ t e s3 (λi hi=>?_) (ch.trans c λ_ z=>z.elim) (λ_ _=>rfl) (MoIs.back (Ha:=e) (ch.trans c2 λ_ z=>z.elim) m);obtain ⟨d',a,e1,j,E,k⟩:=io i (g i hi);refine ⟨d',a,e1,j,?_,k.grow c.grow λo q=>c.keep a o q λz=>z⟩;cases q:t a with
 | none=>rfl
 | some u=>
  rcases c.new a (by rw [q]; simp) with z | z | z;·exact absurd E z
  ·exact absurd z k.there
  ·exact z.elim
theorem qdH {cn en:Str} {np J pos:Pos} {body b:List Stmt} {b0:Stmt} {cls:iE} {n j:Nat} {hit:Str->Option Addr} {own2:List Nat} (t:X.ex=[]) (k:X.stack=X.env::X.outer) (x:X.env.frame=iB X.env.locals)
  (hg:Gl X cn) (hm:X.mg cn=iB cls) (L:∀ c Cc,hit c=iB Cc->C.cv c=.ref Cc/\dO X.K (.ref Cc) cls=iB iH) (hN:X.N.Nodup) (hj:X.N[j]?=iB en) (hx:X.env.scope.names.lookup en=iB .local) (hn:X.N.length=n)
  (hb:∀ pn xe E,ui (CXk X.prog X.w) (Wo X pn xe) E->PSs (Wo X pn xe) body (tSt (qhE C own E) own own' fb)) (hs:∀ e,PSs (qgS X e) (b0::b) (tSt (exC C) [] own2 fs)) (o:∀ i∈C.io,i∈own:=by exact um rfl) (hd:(cn == ("__debug__":Str))=false:=by decide) :
  PS X (.Try body [.ExceptHandler (iB (.Name cn np)) (iB en) (b0::b) J] [] [] pos) (tSt C own own' (qbf n (iB j) hit fb fs)):=by
 refine ⟨?_⟩;intro pins s σ H D I ⟨F,ρ,rp,h⟩;have run:=hb (X.pn++pins) (qhG X pins (qhF C own σ F H (fb ρ))) (qhF C own σ F H (fb ρ)) (Xk t) [] s σ H D (qdF I) (qbg o rp h);refine wpAny_Try_except (i8 run (λf s1 l=>?_) λe s1 he=>?_)
 ·cases f with
  | next=>obtain ⟨σ',H',y,q⟩:=l;exact XY pins s1 σ' H' D (ur y) q
  | brk=>obtain ⟨σ',H',y,q⟩:=l; exact ⟨σ',H',ur y,q⟩
  | cont=>obtain ⟨σ',H',y,q⟩:=l; exact ⟨σ',H',ur y,q⟩
  | ret u=>obtain ⟨v,σ',H',y,r,q⟩:=l; exact ⟨v,σ',H',ur y,r,q⟩
 ·obtain ⟨σ1,ex,T,Cc,H1,rfl,I1,c1,c,ρe,F1,hr,P,A,Z,ch1⟩:=he;refine ZT I1.ok.frames I1 k x t c1 λs2 T2 I2 c2=>?_;unfold qbf at h;rw [hr] at h;cases Y:hit c with
  | none=>simp only [Y] at h; exact h.elim
  | some Ch=>
   simp only [Y] at h;obtain ⟨hc1,hc2⟩:=L c Ch Y;rw [hc1] at P;obtain rfl:Cc=Ch:=by injection P
   refine wpAny_handleBy_cons (codeAny_handlers_test (zU (X:=qgS X (.ref ex)) (qcw I2) hg hm ?_ hd)) (by intro q; cases q);obtain ⟨oe,vs,oT,ts,a1,a2,a3,_⟩:=id c2.fly;have LT:PySem.W.Looks (model X.prog X.w) s2.heap (typeOf (.ref ex)) (.ref Cc):=by rw [<-a2]; exact (PySem.W.Looks.ld a1).andThen .now
   refine (PySem.W.exm_one I2.kIn LT hc2) _ _ _ _ (λ_ _ z=>z) ?_;refine codeAny_handlers_suite_as (Wn I2 k x t c2 λs3 T3 I3 c3=>?_);have I4:=qhD I3 c3;refine QW I4 hN hj (.inl hx) (v:=.ref ex) rfl (λs5 I5=>?_) (.inr hx);have g:j < n:=by rw [<-hn]; exact (aB.mp hj).1
   have I6:Inv X pins ((bu n iD).set j (iB (.ref ex))) (upd H1 ex (We ex Cc)) s5:=I5.weak (by simp [I3.len,hn]) λi v e=>by
    by_cases B:i=j;·subst B;rw [aG (by simpa using g)] at e;rw [aG (by rw [I3.len,hn]; exact g)];exact e
    ·rw [ap (ba B),bP] at e;split at e <;> cases e
   obtain ⟨Q,cc2⟩:=uo (u:=We ex Cc) A c1.hex;have S:Rep C.K [] (upd F1 ex (We ex Cc)) (upd H1 ex (We ex Cc)) ((bu n iD).set j (iB (V.ref ex))) ((bu n iD).set j (iB (.xcp Cc))):=by
    refine ⟨Q,by simp,λi d hi e=>?_,λi d hi=>by simp at hi,λi hi=>by simp at hi,λi j a hi=>by simp at hi⟩;by_cases B:i=j;·subst B;rw [aG (by simpa using g)] at e;cases e;exact ⟨.ref ex,by rw [aG (by simpa using g)],.xcp qt⟩
    ·rw [ap (ba B),bP] at e;split at e <;> cases e
   have G:tSt (exC C) [] own2 fs { nx:=λ_ _=>False,rt:=D.rt } ((bu n iD).set j (iB (V.ref ex))) (upd H1 ex (We ex Cc)):=by
    refine ⟨_,_,S,?_⟩;cases U:fs ((bu n iD).set j (iB (.xcp Cc))) with
    | ok p=>
     obtain ⟨fl,ρ5⟩:=p;rw [U] at h;cases fl with
     | rt d=>exact λv σ' F3 H3 s3 io c3 e mo=>ZU (own':=own') (D:=D) (ex:=ex) (Cc:=Cc) o h c1.hex A Z ch1 s3 c3 mo
     | nx=>exact h.elim
     | bk=>exact h.elim
     | ct=>exact h.elim
    | exc _ _=>rw [U] at h; exact h.elim
    | bad=>rw [U] at h; exact h.elim
   refine i8 (hs (.ref ex) pins s5 _ _ _ (qcw I6) G) (λf s7 l=>?_) λ_ _ z=>z.elim;cases f with
   | next=>obtain ⟨_,_,_,q⟩:=l; exact q.elim
   | brk=>obtain ⟨_,_,_,q⟩:=l; exact q.elim
   | cont=>obtain ⟨_,_,_,q⟩:=l; exact q.elim
   | ret u=>obtain ⟨v,O,H7,I7,r7,q7⟩:=l;have M:Inv X pins O H7 s7:=qdG I.ok I7;obtain ⟨m,hns,_⟩:=id M.loc;refine wpAny_nameGoes hx hns (by rw [I.ok.kind]; rfl) λh' m' hn' R=>?_;exact ⟨v,_,H7,Xj M k x hn' R,r7,q7⟩
end
structure RoomQ (k:Nat) (A:iP):Prop where
 dp:A.depth+3 * k+5 < recursionLimit
 un:A.units+16 * k+200 < cLine
theorem RoomQ.deeper {k:Nat} (r:RoomQ (k+1) A) (env:Env):RoomQ k (A.deeper env):=
 ⟨by have:=r.dp; show A.depth+1+3 * k+5 < _; omega,by have:=r.un; show A.units+3+16 * k+200 < _; omega⟩
theorem RoomQ.depth {k:Nat} (r:RoomQ k A):A.depth < recursionLimit:=by have:=r.dp; omega
theorem RoomQ.units {k:Nat} (r:RoomQ k A):A.units+64 < cLine:=by have:=r.un; omega
theorem _root_.L2.Room.quiet {k:Nat} (r:Room k A):RoomQ k A:=⟨r.dp,r.un⟩
theorem RoomQ.mark {k:Nat} (r:RoomQ k A) (e:Option iE):RoomQ k (A.mark e):=⟨r.dp,r.un⟩
structure FnQ (P:iJ) (w:iK) (K:Frag) (mg:Str->Option iE) (base:Heap) (CX:CXT) (k:Nat) (f:Addr) (fd:j6) (ps:List Str) (sp:Sp):Prop where
 len:∀ vs H Q E,sp vs H Q E->vs.length=ps.length
 run:∀ (A:iP) (outer:List Env) (s:iI) (H:Hp) (args:Args) (us:List iE) (vs:List V) (Q:VK) (E:XK),RoomQ k A->Env0 P w K mg base A outer s H->lG s fd args (ps.zip us)->Vals vs us->sp vs H Q E ->codeAny (model P w) A (.call (.ref f) args) (CR CX outer P w H s Q E) s
def cxQ (CX:CXT) (P:iJ) (w:iK) (K:Frag) (mg:Str->Option iE) (base:Heap) (N:List Str) (qual:Str) (scope:lc) (f:Addr) (cd:iE) (A:iP) (outer:List Env) (s:iI) (H:Hp) (E:XK):Cx where
 prog:=P
 w:=w
 K:=K
 mg:=mg
 base:=base
 A:=A.deeper (envOfC qual scope s.heap.objs.size f cd)
 N:=N
 s₀:=s
 H₀:=H
 env:=envOfC qual scope s.heap.objs.size f cd
 outer:=outer
 stack:=envOfC qual scope s.heap.objs.size f cd::outer
 ex:=[]
 calm:=iF
 fn:=λ_=>iH
 pn:=[]
 xe:=λe s'=>wpAny (model P w) (A.deeper (envOfC qual scope s.heap.objs.size f cd)) (leaving (envOfC qual scope s.heap.objs.size f cd) e) (λ_ a=>CX outer H s E e a) (λb a=>CX outer H s E b a) s'
theorem Xl {CX:CXT} {P:iJ} {w:iK} {K:Frag} {mg:Str->Option iE} {base:Heap} {N ps:List Str} {qual:Str} {scope:lc} {f:Addr} {cd:iE} {A:iP} {outer:List Env} {s s1:iI} {H:Hp} {E:XK} {us:List iE} {vs:List V}
  (S:FnScope N ps scope) (d:Env0 P w K mg base A outer s H) (hl:vs.length=ps.length) (r:Vals vs us)
  (x:InCallC s s.heap.objs.size (bindL (envOfC qual scope s.heap.objs.size f cd).kindOf (ps.zip us) λ_=>iD) (cellsFrom (s.heap.objs.size+1) scope.names []) (bindC (envOfC qual scope s.heap.objs.size f cd).kindOf (ps.zip us) λ_=>iD) s1) :
  Inv (cxQ CX P w K mg base N qual scope f cd A outer s H E) [] (vZ N vs) H s1:=by
 have t:ps.length<=N.length:=by have:=congrArg iq S.pre; rw [bO] at this; omega
 obtain ⟨h1,tk,rfl,m⟩:=x.done;have g:∀ b:Addr,b∉(cxQ CX P w K mg base N qual scope f cd A outer s H E).ex:=λb z=>absurd (show b∈([]:List Addr) from z) (by simp);refine ⟨⟨d.mod,S.kind,rfl,rfl,ax _,λy z c h1 h2=>?_,λy B=>?_,λy c _ h=>?_,λz=>absurd z (by show ¬(iF=iH); exact bE),Around.frames_deeper d.frames,.inr ⟨rfl,rfl⟩,λb z=>absurd z (g b),d.bs,d.bsz,λb _ _=>g b,λb z=>absurd z (g b),d.funs,d.frf⟩,rfl,d.bare,Un.kept m,⟨_,x.toInCall.ns,λi y v h1 h2 h3=>?_⟩,λy c h=>⟨_,x.cell y c h⟩,d.hok.fresh (ax _),λy c h=>?_,λp hp=>absurd (show p∈([]:List (Addr×Obj)) from hp) (by simp),d.hok.kept m,?_⟩;·exact name_of_addr x.apart (bn h1) (bn h2)
 ·have B:scope.names.lookup y=iB .cell\/scope.names.lookup y=iB .free:=B;rcases B with B | B;·exact zz B
  ·exact absurd rfl (S.nofree _ (bn B))
 ·exact cH (x.above y c (bn h))
 ·have hi:i < vs.length:=by
   unfold vZ at h2;by_cases hi:i < vs.length;·exact hi
   ·rw [bU (by simpa using hi)] at h2;rw [bP] at h2;split at h2 <;> cases h2
  have C:vs[i]?=iB v:=by
   unfold vZ at h2;rw [ci (by simpa using hi),aE] at h2;cases e:vs[i]? with
   | none=>rw [e] at h2; cases h2
   | some a=>rw [e] at h2; cases h2; rfl
  obtain ⟨u,l,o⟩:=r.get C;have hp:ps[i]?=iB y:=by rw [<-S.pre,List.getElem?_take_of_lt (by omega)]; exact h1
  have j:ps.Nodup:=by rw [<-S.pre]; exact S.nd.sublist (List.take_sublist _ _)
  refine ⟨u,o,?_⟩;rcases S.par y (cU hp) with k | k;·exact .inl ⟨k,zV j hp l k⟩
  ·obtain ⟨c,e⟩:=zz (n:=s.heap.objs.size+1) k;refine .inr ⟨.inl k,c,e,?_⟩;have q:=x.cell y c e;rw [zW j hp l (by show scope.names.lookup y≠_; rw [k]; decide)] at q;exact q
 ·exact d.hok.fresh (cH (x.above y c (bn h)))
 ·unfold vZ;show _=N.length;rw [aj,ah,dA];omega
theorem qfN {CX:CXT} {P:iJ} {w:iK} {K:Frag} {mg:Str->Option iE} {base:Heap} {k:Nat} {f:Addr} {name qual:Str} {params:Arguments} {body:List Stmt} {scope:lc} {m kV doc pm cdv ct oc:iE} {an od:Option Addr}
  {osl:Array (Option iE)} {N ps:List Str} {sp:Sp} (z:K.lookup f=iB ⟨oc,od,.func (bV name qual params body scope m kV doc pm an cdv ct),osl⟩) (i:codeIn K cdv qual=iH) (S:FnScope N ps scope)
  (len:∀ vs H Q E,sp vs H Q E->vs.length=ps.length)
  (a:∀ (A:iP) (outer:List Env) (s:iI) (H:Hp) (vs:List V) (Q:VK) (E:XK),RoomQ k (A.deeper (envOfC qual scope s.heap.objs.size f cdv))->sp vs H Q E ->∃ t,PSs (cxQ CX P w K mg base N qual scope f cdv A outer s H E) body t/\t { nx:=λ_ H'=>Q .non H',rt:=Q } (vZ N vs) H) :
  FnQ P w K mg base CX (k+1) f (bV name qual params body scope m kV doc pm an cdv ct) ps sp:=by
 refine ⟨len,λA outer s H args us vs Q E j d G r p=>?_⟩;have hl:=len _ _ _ _ p;have X:K.In s.heap:=d.mod.kin.keeps λb o e=>(d.bs b o e).1;have l:s.heap.NoLimit:=d.mod.nolimit.keeps λb o e=>(d.bs b o e).1;have h:∀ y∈ps.zip us,scope.names.lookup y.1=iB .local\/(scope.names.lookup y.1=iB .cell/\((cellsFrom (s.heap.objs.size+1) scope.names []).lookup y.1).isSome=iH):=λ⟨n,v⟩ B=>by
  rcases S.par n (cO B).1 with q | q;·exact .inl q
  ·exact .inr ⟨q,eG _ _ _ (.inl q)⟩
 refine codeAny_call_function j.depth (X _ _ z) rfl S.co S.gen rfl (PySem.W.codeRec_of X i) (G _ _ _ _ ?_);refine wpAny_newFunctionEnv_cells S.kind h λenv D s1 x=>?_;subst D;refine ⟨l.keeps x.toInCall.keep,codeAny_func ?_⟩;obtain ⟨t,C,hq⟩:=a A outer s H vs Q E (j.deeper _) p;have I:Inv (cxQ CX P w K mg base N qual scope f cdv A outer s H E) [] (vZ N vs) H s1:=Xl S d hl r x;refine i8 (C [] s1 (vZ N vs) H _ I hq) (λL s' c=>?_) λe s' c=>c;have fin:∀ {σ':St} {H':Hp} {v:V} {u:iE},Inv (cxQ CX P w K mg base N qual scope f cdv A outer s H E) [] σ' H' s'->RelV v u->Q v H'->CE outer P w H s Q u s':=
  λ{σ' H' v u} J g q=>⟨v,H',J.os,J.bare,J.base,J.hok,g,q⟩
 cases L with
 | ret u=>obtain ⟨v,σ',H',J,g,q⟩:=c;exact fin J g q
 | next=>obtain ⟨σ',H',J,q⟩:=c;exact fin (v:=V.non) (u:=bD) J rfl q
 | brk=>obtain ⟨_,_,_,q⟩:=c;exact ck q
 | cont=>obtain ⟨_,_,_,q⟩:=c;exact ck q
theorem qhH {P:iJ} {w:iK} {K:Frag} {mg:Str->Option iE} {base:Heap} {CX:CXT} {x qual:Str} {st:Stmt} {f:Addr} {fd:j6} {N ps:List Str} {k:Nat} {cv:Str->iE} {ms:List PM} {mr:Mo} {own':List Nat} {fb:Sl->Out (Fl×Sl)} {G:List D->Out (D×List D)}
  (F:Fun K x qual st f fd) (S:FnScope N ps (qe st)) (hl:ms.length=ps.length) (g:∀ i∈Wi 0 ms,i∈own') (r:mr=.sh\/∀ ds ρ,(fb (qx N ds))≠.ok (.nx,ρ))
  (a:∀ (cdv:iE) (A:iP) (outer:List Env) (s:iI) (H:Hp) (E:XK),RoomQ k (A.deeper (envOfC qual (qe st) s.heap.objs.size f cdv)) ->PSs (cxQ CX P w K mg base N qual (qe st) f cdv A outer s H E) (kJ st) (tSt (qeR K cv E ms mr) (km 0 ms) own' fb))
  (e:∀ ds,Out.le (G ds) (kr N ms fb ds)):FnQ P w K mg base CX (k+1) f fd ps (spD K cv ms mr G):=by
 obtain ⟨oc,od,kV,doc,pm,an,cdv,ct,osl,rfl,l,d⟩:=F.ex;refine qfN l d S (λvs H Q E h=>?_) λA outer s H vs Q E c p=>?_;·obtain ⟨F,ds,_,b,_⟩:=h;rw [b.length.1,hl]
 ·obtain ⟨F1,ds,y,b,nd,h⟩:=p;refine ⟨_,a cdv A outer s H E c,?_⟩;exact ZM (C:=qeR K cv E ms mr) rfl rfl (r.imp id λz ρ=>z ds ρ) g y b nd (e ds) h
section
variable {fr:Sl->Out (List D×Sl)}
theorem qdI {k:Nat} {f:Addr} {sp:Sp} {E:XK} {pins:List (Addr×Obj)} {σ:St} {H:Hp} {s:iI} {Q:VK} {us:List iE} {vs:List V} (F:FnQ X.prog X.w X.K X.mg X.base CX k f fd ps sp) (a:RoomQ k X.A) (d:Binds X.K fd ps []) (hx:ui CX X E)
  (I:Inv X pins σ H s) (r:Vals vs us) (h:sp (vs++[]) H Q E):wpAny (model X.prog X.w) X.A (call (.ref f) us) (EP X pins σ Q) X.xe s:=by
 have r2:Vals (vs++[]) (us++[]):=r.append .nil;have hl:(us++[]).length=ps.length:=by rw [<-r2.length]; exact F.len _ _ _ _ h
 refine wpAny_call (lf (F.run X.A X.stack s H ⟨us,[]⟩ (us++[]) (vs++[]) Q E a I.env0 (d s us I.kIn hl) r2 h) λr s' hq=>?_);cases r with
 | error e=>exact hx pins σ H s e s' I hq
 | ok l=>
  cases l with
  | ret u=>exact I.after hq
  | next=>exact ck hq
  | brk=>exact ck hq
  | cont=>exact ck hq
theorem qbh {k:Nat} {f:Addr} {p pos:Pos} (F:FnQ X.prog X.w X.K X.mg X.base CX k f fd ps (spD C.K C.cv ms mr G)) (g:RoomQ k X.A) (hg:Gl X x) (m:X.mg x=iB (.ref f)) (j:keepIn X.K (.ref f)=iH) (u:Binds X.K fd ps []) (hx:ui CX X C.E)
  (v:PA X (e::es) (tAr C own as fr)) (a:ms=as.map Jc:=by rfl) (c:∀ i∈jl as,i∈own:=by decide) (nd:(jl as).Nodup:=by decide) (n:frA as<=1:=by decide) (o:∀ i∈C.ox,i∈own:=by exact um rfl) (b:(x == ("__debug__":Str))=false:=by decide) (t:starEach (e::es) X.env=(iF,eval e X.env)::starEach es X.env:=by exact jT rfl)
  (l:(backTo pos (starEach es X.env)).any (·.1)=false:=by exact yM rfl):PE X (.Call (.Name x p) (e::es) [] pos) (tE C own mr (qw as G fr)):=by
 subst a;refine ⟨?_⟩;intro pins s σ H Q I h;refine i5 (zU I hg m ?_ b);refine PySem.W.callWith_K (h₀:=X.base) I.ok.mod.kin j (thn (v pos pins s σ H _ I (ZN o c nd n h)) λus s1 ⟨vs,H1,d,r,q⟩=>⟨d.kIn,?_⟩) t l;exact qdI F g u hx d r q
end
def DefOk (P:iJ) (w:iK) (K:Frag) (mg:Str->Option iE) (base:Heap) (cv:Str->iE) (k:Nat) (x:Str) (ps:List Str) (ms:List PM) (mr:Mo) (G:List D->Out (D×List D)):Prop:=
 ∃ f fd,FnOk P w K mg base (CXk P w) k f fd ps (spD K cv ms mr G)/\mg x=iB (.ref f)/\keepIn K (.ref f)=iH/\Binds K fd ps []
def qhI (P:iJ) (w:iK) (K:Frag) (mg:Str->Option iE) (base:Heap) (cv:Str->iE) (k:Nat) (x:Str) (ps:List Str) (ms:List PM) (mr:Mo) (G:List D->Out (D×List D)):Prop:=
 ∃ f fd,FnQ P w K mg base (CXk P w) k f fd ps (spD K cv ms mr G)/\mg x=iB (.ref f)/\keepIn K (.ref f)=iH/\Binds K fd ps []
def jd (K:Frag) (mg:Str->Option iE) (x:Str) (st:Stmt) (ps:List Str):Prop:=∃ f fd,Fun K x x st f fd/\mg x=iB (.ref f)/\Binds K fd ps []
theorem qL {P:iJ} {w:iK} {base:Heap} {cv:Str->iE} {k:Nat} {ms:List PM} {mr:Mo} {own':List Nat} {fb:Sl->Out (Fl×Sl)} (T:jd K mg x st ps) (S:FnScope N ps (qe st))
  (a:∀ (cdv:iE) (f:Addr) (A:iP) (outer:List Env) (s:iI) (H:Hp) (E:XK),Room k (A.deeper (envOfC x (qe st) s.heap.objs.size f cdv)) ->PSs (cxk P w K mg base N x (qe st) f cdv A outer s H E) (kJ st) (tSt (qeR K cv E ms mr) (km 0 ms) own' fb))
  (hl:ms.length=ps.length:=by rfl) (g:∀ i∈Wi 0 ms,i∈own':=by exact um rfl) (r:mr=.sh\/∀ ds ρ,(fb (qx N ds))≠.ok (.nx,ρ):=by exact .inl rfl):DefOk P w K mg base cv (k+1) x ps ms mr (kr N ms fb):=by
 obtain ⟨f,fd,F,c,d⟩:=T;exact ⟨f,fd,qis F S hl g r (λcdv A outer s H E h=>a cdv f A outer s H E h) λ_=>.inr rfl,c,F.kp,d⟩
theorem qhJ {P:iJ} {w:iK} {base:Heap} {cv:Str->iE} {k:Nat} {ms:List PM} {mr:Mo} {own':List Nat} {fb:Sl->Out (Fl×Sl)} (T:jd K mg x st ps) (S:FnScope N ps (qe st))
  (a:∀ (cdv:iE) (f:Addr) (A:iP) (outer:List Env) (s:iI) (H:Hp) (E:XK),RoomQ k (A.deeper (envOfC x (qe st) s.heap.objs.size f cdv)) ->PSs (cxQ (CXk P w) P w K mg base N x (qe st) f cdv A outer s H E) (kJ st) (tSt (qeR K cv E ms mr) (km 0 ms) own' fb))
  (hl:ms.length=ps.length:=by rfl) (g:∀ i∈Wi 0 ms,i∈own':=by exact um rfl) (r:mr=.sh\/∀ ds ρ,(fb (qx N ds))≠.ok (.nx,ρ):=by exact .inl rfl):qhI P w K mg base cv (k+1) x ps ms mr (kr N ms fb):=by
 obtain ⟨f,fd,F,c,d⟩:=T;exact ⟨f,fd,qhH F S hl g r (λcdv A outer s H E h=>a cdv f A outer s H E h) λ_=>.inr rfl,c,F.kp,d⟩
variable {cv:Str->iE}
theorem DefOk.by {k:Nat} {a:List D->Out (D×List D)} (h:DefOk P w K mg base cv k x ps ms mr G) (e:∀ ds,Out.le (a ds) (G ds)):DefOk P w K mg base cv k x ps ms mr a:=by
 obtain ⟨f,fd,F,r⟩:=h;refine ⟨f,fd,F.imp λvs H Q E ⟨F1,ds,y,b,nd,po⟩=>⟨F1,ds,y,b,nd,?_⟩,r⟩;rcases e ds with z | z;·rw [z] at po; exact po.elim
 ·rw [<-z]; exact po
section
variable {fr:Sl->Out (List D×Sl)} {p:Pos} {k j:Nat}
theorem qo (F:DefOk X.prog X.w X.K X.mg X.base cv j x ps ms mr G) (h:Room k X.A) (g:j<=k) (hx:ui (CXk X.prog X.w) X C.E) (hg:Gl X x) (t:PA X (e::es) (tAr C own as fr)) (v:C.cv=cv:=by rfl) (m:C.K=X.K:=by rfl) (s:ms=as.map Jc:=by rfl) (c:∀ i∈jl as,i∈own:=by decide) (nd:(jl as).Nodup:=by decide) (n:frA as<=1:=by decide) (o:∀ i∈C.ox,i∈own:=by exact um rfl)
  (b:(x == ("__debug__":Str))=false:=by decide) (q:starEach (e::es) X.env=(iF,eval e X.env)::starEach es X.env:=by exact jT rfl) (l:(backTo pos (starEach es X.env)).any (·.1)=false:=by exact yM rfl):PE X (.Call (.Name x p) (e::es) [] pos) (tE C own mr (qw as G fr)):=by
 subst v;obtain ⟨f,fd,F,a,d,r⟩:=F;rw [<-m] at F;exact qdA (by rw [<-m]; exact F) (h.mono g) hg a d r hx t s c nd n o b q l
theorem ZV (F:qhI X.prog X.w X.K X.mg X.base cv j x ps ms mr G) (h:RoomQ j X.A) (hx:ui (CXk X.prog X.w) X C.E) (hg:Gl X x) (q:PA X (e::es) (tAr C own as fr)) (v:C.cv=cv:=by rfl) (m:C.K=X.K:=by rfl) (s:ms=as.map Jc:=by rfl) (c:∀ i∈jl as,i∈own:=by decide) (nd:(jl as).Nodup:=by decide) (d:frA as<=1:=by decide) (o:∀ i∈C.ox,i∈own:=by exact um rfl)
  (b:(x == ("__debug__":Str))=false:=by decide) (g:starEach (e::es) X.env=(iF,eval e X.env)::starEach es X.env:=by exact jT rfl) (l:(backTo pos (starEach es X.env)).any (·.1)=false:=by exact yM rfl):PE X (.Call (.Name x p) (e::es) [] pos) (tE C own mr (qw as G fr)):=by
 subst v;obtain ⟨f,fd,F,a,k,n⟩:=F;rw [<-m] at F;exact qbh (by rw [<-m]; exact F) h hg a k n hx q s c nd d o b g l
noncomputable def qaN:D->Out D
 | .int i=>.ok (.int (-i))
 | _=>.bad
theorem QD:UnD X C .sh (unaryOp .USub) qaN:=by
 intro pins s σ H x v Q I d h;obtain ⟨F,dx,y,t,po⟩:=h;cases dx <;> try exact po.elim
 obtain rfl:=t.int;exact qfl pins s σ H _ v Q I d ⟨_,rfl,po _ F H y .refl (.int _)⟩
end
noncomputable def yA:Option (Option D)->Bool
 | some (iB (.lst _))=>iH
 | _=>iF
noncomputable def xY (i:Nat) (g:List D->D->Out (List D)) (fe:Sl->Out (D×Sl)):Sl->Out (D×Sl):=λρ=>if yA ρ[i]?=iH then (fe ρ).bind λp=>match p.2[i]? with
 | some (iB (.lst xs))=>match g xs p.1 with
  | .ok ys=>.ok (.non,p.2.set i (iB (.lst ys)))
  | _=>.bad
 | _=>.bad
 else .bad
noncomputable def Wp (xs:List D) (d:D):Out (List D):=if xs.length < sizeLine then .ok (xs++[d]) else .bad
noncomputable def Wq (xs:List D):D->Out (List D)
 | .lst ys=>if xs.length+ys.length<=sizeLine then .ok (xs++ys) else .bad
 | .tup ys=>if xs.length+ys.length<=sizeLine then .ok (xs++ys) else .bad
 | _=>.bad
section
theorem Rep.write (r:Rep K own F H σ ρ) (hi:i∈own) (g:σ[i]?=iB (iB (V.ref a))) (ow:OwnIs K F (upd H a u) a d):Rep K own F (upd H a u) σ (ρ.set i (iB d))/\Chg (OA own σ) F H F (upd H a u):=by
 obtain ⟨w,h⟩:=r.opn i hi;obtain ⟨f,e1,E,c⟩:=r.ow i w hi h;rw [g] at e1; cases e1;have hl:i < ρ.length:=(aB.mp h).1;refine ⟨⟨λb o e=>by rw [qB (qH e E)]; exact r.sub b o e,by simp [r.len],λj d' G e=>?_,λj d' G e=>?_,λj G=>?_,r.dis⟩,⟨λb o e n=>?_,λb e=>?_,Same.refl _,λb e=>.inl e⟩⟩;·rw [ap (λz=>G (by rw [<-z]; exact hi))] at e;exact r.val j d' G e
 ·by_cases q:j=i;·subst q;rw [aG hl] at e;cases e;exact ⟨a,g,E,ow⟩
  ·rw [ap (ba q)] at e;obtain ⟨b,h1,h2,h3⟩:=r.ow j d' G e;have y:b≠a:=λz=>by subst z; exact q (r.dis j i b G hi h1 g)
   exact ⟨b,h1,h2,h3.grow (Same.refl _) λo z=>by rw [qB y]; exact z⟩
 ·by_cases q:j=i;·subst q; exact ⟨d,aG hl⟩
  ·rw [ap (ba q)]; exact r.opn j G
 ·have y:b≠a:=λz=>n (by rw [z]; exact ⟨i,hi,g⟩);rw [qB y]; exact e
 ·by_cases q:b=a;·rw [q,qt]; simp
  ·rw [qB q]; exact e
theorem UK {o:Option (Option D)} (h:yA o=iH):∃ xs,o=iB (iB (.lst xs)):=by
 unfold yA at h;split at h;·exact ⟨_,rfl⟩
 ·cases h
theorem UL {g:List D->D->Out (List D)} {R:V->V->Hp->VK->Prop} {σ:St} {H:Hp} {Q:VK} (j:i∈own) (s:m≠.any)
  (k:∀ (a:Addr) (xs:List V) (ds ys:List D) (v:V) (d:D) (F H:Hp),Same F H->H a=iB (.lst xs)->F a=iD->IsL C.K F xs ds->Is C.K F v d->g ds d=.ok ys->(∀ zs,IsL C.K F zs ys->Q .non (upd H a (.lst zs)))->R (.ref a) v H Q)
  (h:tE C own .sh (xY i g fe) σ H Q):∃ a xs,σ[i]?=iB (iB (V.ref a))/\H a=iB (.lst xs)/\tE C own .sh fe σ H λv H1=>R (.ref a) v H1 Q:=by
 obtain ⟨F,ρ,p,h⟩:=h;unfold xY at h;by_cases q:yA ρ[i]?=iH
 ·rw [if_pos q] at h;obtain ⟨ds,hd⟩:=UK q;obtain ⟨a,h1,h2,xs,h3,t⟩:=p.ow i _ j hd;refine ⟨a,xs,h1,h3,F,ρ,p,Po.bind h λv F1 H1 d ρ1 r w f po=>?_⟩;cases b:ρ1[i]? with
  | none=>simp only [b] at po; exact po.elim
  | some o=>
   cases o with
   | none=>simp only [b] at po; exact po.elim
   | some dd=>
    simp only [b] at po;cases dd with
    | lst es=>
     simp only at po;cases e:g es d with
     | ok ys=>simp only [e] at po;obtain ⟨x,e1,n,vs,E,l⟩:=r.ow i _ j b;rw [h1] at e1; cases e1;refine k a vs es ys v d F1 H1 r.sub E n l f e λzs z=>?_;obtain ⟨r2,c2⟩:=r.write (u:=.lst zs) (d:=.lst ys) j h1 ⟨zs,qt,z⟩;exact po .non F1 _ r2 c2 .non
     | exc c o=>simp only [e] at po; exact po.elim
     | bad=>simp only [e] at po; exact po.elim
    | _=>exact po.elim
 ·rw [if_neg q] at h; exact h.elim
theorem yW {px apos cpos:Pos} (t:C.K=X.K) (q:X.N[i]?=iB x) (l:Vis X.env.scope x) (o:i∈own) (n:PE X e (tE C own m fe)) (j:m≠.any:=by decide)
  (hd:(x == ("__debug__":Str))=false:=by decide) (f:(x == ("__classdict__":Str))=false:=by decide)
  (c:attributeBase (.Name x px) "append" X.env (eval (.Name x px) X.env)=eval (.Name x px) X.env:=by rfl)
  (w:((backTo cpos (starEach [e] X.env)).all (λx=>!x.1)&&(backToKw cpos (keywordEach [] X.env)).all (λx=>x.1.isSome)
   && decide ([e].length+([]:List iY).length+(if ([]:List iY).isEmpty then 0 else 1) < 30))=true:=by exact wG rfl)
  (b:(apos.endLine == cpos.line)=true:=by rfl) (s:starEach [e] X.env=[(iF,eval e X.env)]:=by exact qJ rfl) :
  PE X (.Call (.Attribute (.Name x px) "append" apos) [e] [] cpos) (tE C own .sh (xY i Wp fe)):=by
 refine jG (YY bQ PySem.F.slot_list_append PySem.F.type_list_append Kt (xT q l hd f) (qO (yN n j) jE s) c w b s rfl) λσ H Q h=>?_;have p:∀ (a:Addr) (xs:List V) (ds ys:List D) (v:V) (d:D) (F H:Hp),Same F H->H a=iB (.lst xs)->F a=iD->IsL C.K F xs ds->Is C.K F v d->Wp ds d=.ok ys->(∀ zs,IsL C.K F zs ys->Q .non (upd H a (.lst zs)))->VZ (.ref a) [v] H Q:=λa xs ds ys v d F H y r u ix z g k=>by
  unfold Wp at g;split at g;·cases g;exact ⟨a,xs,v,rfl,rfl,r,by rw [ix.length]; assumption,k _ (ix.append (.cons z .nil))⟩
  ·cases g
 obtain ⟨a,xs,h1,h2,k⟩:=UL (R:=λx v H Q=>VZ x [v] H Q) o j p h;exact ⟨.ref a,h1,.inl ⟨rfl,xs,.inl (.inl h2)⟩,k⟩
theorem yX {px apos cpos:Pos} (G:X.N[i]?=iB x) (y:Vis X.env.scope x) (j:i∈own) (A:PE X e (tE C own .fr fe))
  (hd:(x == ("__debug__":Str))=false:=by decide) (k:(x == ("__classdict__":Str))=false:=by decide)
  (f:attributeBase (.Name x px) "extend" X.env (eval (.Name x px) X.env)=eval (.Name x px) X.env:=by rfl)
  (w:((backTo cpos (starEach [e] X.env)).all (λx=>!x.1)&&(backToKw cpos (keywordEach [] X.env)).all (λx=>x.1.isSome)
   && decide ([e].length+([]:List iY).length+(if ([]:List iY).isEmpty then 0 else 1) < 30))=true:=by exact wG rfl)
  (c:(apos.endLine == cpos.line)=true:=by rfl) (s:starEach [e] X.env=[(iF,eval e X.env)]:=by exact qJ rfl) :
  PE X (.Call (.Attribute (.Name x px) "extend" apos) [e] [] cpos) (tE C own .sh (xY i Wq fe)):=by
 refine jG (YY bQ PySem.F.slot_list_extend PySem.F.type_list_extend Zl (xT G y hd k) (qO A jE s) f w c s rfl) λσ H Q ⟨F,ρ,p,h⟩=>?_;unfold xY at h;by_cases q:yA ρ[i]?=iH
 ·rw [if_pos q] at h;obtain ⟨ds,hd⟩:=UK q;obtain ⟨a,h1,h2,xs,h3,J⟩:=p.ow i _ j hd;refine ⟨.ref a,h1,.inl ⟨rfl,xs,.inl (.inl h3)⟩,F,ρ,p,Po.bind h λv F1 H1 d ρ1 r L m po=>?_⟩;obtain ⟨b,rfl,E,B,l⟩:=m;cases g:ρ1[i]? with
  | none=>simp only [g] at po; exact po.elim
  | some o=>
   cases o with
   | none=>simp only [g] at po; exact po.elim
   | some dd=>
    simp only [g] at po;cases dd with
    | lst es=>
     simp only at po;obtain ⟨M,e1,K,vs,I,t⟩:=r.ow i _ j g;rw [h1] at e1; cases e1;cases d with
     | lst ys=>
      obtain ⟨zs,hz,n⟩:=l;have po:Po C own .sh σ F1 H1 (match (if es.length+ys.length<=sizeLine then .ok (es++ys) else .bad:Out (List D)) with | .ok ys=>.ok (.non,ρ1.set i (iB (.lst ys))) | _=>.bad) Q:=po;by_cases z:es.length+ys.length<=sizeLine;·rw [if_pos z] at po;refine ⟨a,b,vs,zs,rfl,rfl,I,hz,by rw [t.length,n.length]; exact z,?_⟩;obtain ⟨r2,c2⟩:=r.write (u:=.lst (vs++zs)) (d:=.lst (es++ys)) j h1 ⟨_,qt,t.append n⟩;exact po .non F1 _ r2 c2 .non
      ·rw [if_neg z] at po; exact po.elim
     | dct ys=>exact po.elim
     | ins _ _=>exact po.elim
     | at_ _ _=>exact po.elim
     | _=>exact l.elim
    | _=>exact po.elim
 ·rw [if_neg q] at h; exact h.elim
end
noncomputable def scB (names:List (Str×k6)) (scope:lc):Bool:=decide (scope.kind=.function)&&scope.names.all λy=>decide (y.2≠.cell)&&(!decide (y.2=.local)||decide (scope.names.lookup y.1=iB .local)) &&
 (!decide (y.2=.free)||((decide (names.lookup y.1=iB .cell)||decide (names.lookup y.1=iB .free))&&decide (scope.names.lookup y.1=iB .free)))
variable {names:List (Str×k6)}
theorem vp (h:X.env.scope.names=names) (b:scB names scope=iH):ScOk X scope:=by
 subst h;unfold scB at b;rw [aK,aJ] at b;obtain ⟨a,A⟩:=b;refine ⟨of_decide_eq_true a,λy B=>?_,λy B e=>?_,λy B e=>?_,λy B e=>?_⟩;all_goals
  have q:=A y B;simp only [aK,g9,fL,decide_eq_true_eq,decide_eq_false_iff_not] at q
 ·exact q.1.1
 ·exact q.1.2.resolve_left λz=>z e
 ·exact (q.2.resolve_left λz=>z e).1
 ·exact (q.2.resolve_left λz=>z e).2
noncomputable def qit (names:List (Str×k6)) (N:List Str) (scope:lc) (c:List Str) (nt:Nat) (cap:List Nat):Bool:=decide cap.Nodup&&decide (c.length=nt+cap.length)&&(au cap.length).all λj=>match cap[j]? with
 | some k=>match c[nt+j]? with
  | some x=>decide (N[k]?=iB x)&&(((decide (names.lookup x=iB .local)||decide (names.lookup x=iB .cell)||decide (names.lookup x=iB .free))&&decide ((x,bv)∈scope.names))||scope.names.all λy=>decide (y.1≠x))
  | none=>iF
 | none=>iF
theorem jJ {c:List Str} (a:X.env.scope.names=names) (d:X.N=N) (b:qit names N scope c nt cap=iH):CapOk X scope c nt cap:=by
 subst a d;unfold qit at b;rw [aK,aK,aJ] at b;obtain ⟨⟨g,A⟩,f⟩:=b;refine ⟨of_decide_eq_true g,of_decide_eq_true A,λj k G=>?_⟩;have q:=f j (aM.mpr (aB.mp G).1);rw [G] at q;cases e:c[nt+j]? with
 | none=>simp only [e] at q; cases q
 | some x=>
  simp only [e,aK,g9,decide_eq_true_eq] at q;refine ⟨x,rfl,q.1,?_⟩;rcases q.2 with ⟨z,q2⟩ | z
  ·refine .inl ⟨?_,q2⟩;rcases z with (z | z) | z;·exact .inl z
   ·exact .inr (.inl z)
   ·exact .inr (.inr z)
  ·refine .inr λk' h=>?_;rw [aJ] at z;exact of_decide_eq_true (z (x,k') h) rfl
theorem yY:ui (CXk P w) X (λ_ _ _=>False):=λ_ _ _ _ _ _ _ h=>by obtain ⟨_,_,_,_,_,_,_,_,_,_,_,_,_,_,k⟩:=h;exact k.elim
noncomputable def qhK (f:Sl->Out (D×Sl)):Sl->Out (D×Sl):=λρ=>(qP f ρ).bind λp=>.ok (.bl (!p.1),p.2)
section
variable {i:Int}
theorem yZ (h:∃ t,X.mg x=iB (.int i t)) (hg:Gl X x) (hd:(x == ("__debug__":Str))=false:=by decide):PE X (.Name x pos) (tE C own .sh (dC (.int i))):=by obtain ⟨t,h⟩:=h;exact qdq (v:=.int i) hg h ⟨t,rfl⟩ (λ_=>.int i) hd
end
section
variable {a b:Expr} {fb:Sl->Out (D×Sl)}
noncomputable def yn:D->Out D
 | .lst xs=>.ok (.tup xs)
 | .tup xs=>.ok (.tup xs)
 | _=>.bad
noncomputable def qdJ:D->Out D
 | .lst xs=>.ok (.lst xs)
 | .tup xs=>.ok (.lst xs)
 | _=>.bad
theorem zG (m:C.K=X.K):zr X C .sh (.type "tuple") yn:=by
 intro pins s σ H xs us Q I r h;obtain ⟨x,F,dx,rfl,y,a,po⟩:=h;cases dx with
 | lst ds=>obtain ⟨p,vs,rfl,hq,t⟩:=a.lst y;refine yL pins s σ H _ us Q I r ⟨p,vs,rfl,.inl ⟨by rw [<-m]; exact hq,λl hl=>?_⟩⟩;obtain ⟨s2,c2⟩:=uo (u:=.tup vs) y hl;exact po _ _ _ s2 c2 (.tup (.inl (.inl qt)) (t.mono c2.grow))
 | tup ds=>
  rcases a with a | ⟨_,_,a⟩
  ·have b:=a;cases a with
   | tup hq t=>exact yL pins s σ H _ us Q I r ⟨_,_,rfl,.inr ⟨by rw [<-m]; exact qV y hq,po _ F H y .refl b⟩⟩
  ·exact a.elim
 | _=>exact po.elim
theorem qdK (m:C.K=X.K):zr X C .fr (.type "list") qdJ:=by
 intro pins s σ H xs us Q I r h;obtain ⟨x,F,dx,rfl,y,a,po⟩:=h;cases dx with
 | lst ds=>obtain ⟨p,vs,rfl,hq,t⟩:=a.lst y;refine xU pins s σ H _ us Q I r ⟨p,vs,rfl,.inl (by rw [<-m]; exact hq),λl hl=>?_⟩;obtain ⟨s2,c2,E⟩:=kL (u:=.lst vs) y hl;exact po _ _ _ s2 c2 ⟨l,rfl,hl,E,vs,qt,t⟩
 | tup ds=>obtain ⟨p,vs,rfl,hq,t⟩:=a.tup y;refine xU pins s σ H _ us Q I r ⟨p,vs,rfl,.inr (by rw [<-m]; exact hq),λl hl=>?_⟩;obtain ⟨s2,c2,E⟩:=kL (u:=.lst vs) y hl;exact po _ _ _ s2 c2 ⟨l,rfl,hl,E,vs,qt,t⟩
 | _=>exact po.elim
def ZW (X:Cx) (C:Ct) (m:Mo) (f:iE) (g:D->D->Out D):Prop:=uh X f (λxs H Q=>∃ x y F dx d,xs=[x,y]/\Same F H/\TopIs C.K F H x dx/\TopIs C.K F H y d/\PoV C m F H (g dx d) Q)
theorem UM {Q:VK} (k:ma≠.any) (h:tE C own m (d2 g fa fb) σ H Q):YX (tE C own ma fa) (YX (tE C own mb fb) qgP) σ H λxs H1=>∃ x y F dx a,xs=[x,y]/\Same F H1/\TopIs C.K F H1 x dx/\TopIs C.K F H1 y a/\PoV C m F H1 (g dx a) Q:=by
 obtain ⟨F,ρ,n,h⟩:=Kw (mb:=mb) k h;refine ⟨F,ρ,n,?_⟩;cases q:fa ρ with
 | ok p=>
  rw [q] at h;obtain ⟨d,ρ1⟩:=p;intro v F1 H1 e o j;obtain ⟨u,ρ2,b,h2⟩:=h v F1 H1 e o j;refine ⟨u,ρ2,b,?_⟩;cases f:fb ρ2 with
  | ok p=>rw [f] at h2;obtain ⟨d',l⟩:=p;intro w t s r G i;obtain ⟨J,dx,a,z⟩:=h2 w t s r G i;exact ⟨v,w,J,dx,a,rfl,z⟩
  | exc c=>rw [f] at h2; exact h2
  | bad=>rw [f] at h2; exact h2.elim
 | exc c=>rw [q] at h; exact h
 | bad=>rw [q] at h; exact h.elim
theorem KO {id:String} {p:Pos} (e:ZW X C m (.builtin id) g) (hg:Gl X x) (d:X.mg x=iD) (v:bootBuiltins x=iB (.builtin id)) (j:PE X a (tE C own ma fa)) (i:PE X b (tE C own mb fb)) (f:ma≠.any:=by decide) (n:x ≠ "__name__":=by decide) (c:(x == ("__debug__":Str))=false:=by decide)
  (h1:starEach [a,b] X.env=(iF,eval a X.env)::starEach [b] X.env:=by rfl) (h2:starEach [b] X.env=[(iF,eval b X.env)]:=by exact qJ rfl):PE X (.Call (.Name x p) [a,b] [] pos) (tE C own m (d2 g fa fb)):=
 jG (wF e hg d v (qO j (qO i jE h2) h1) n c (by rw [h1]) (by rw [h2]; rfl)) λ_ _ _ h=>UM f h
noncomputable def qgT:D->D->Out D:=Kf λi j=>.ok (.int (if j > i then j else i))
noncomputable def qgU:D->D->Out D:=Kf λi j=>.ok (.int (if j < i then j else i))
theorem qfO (d:X.calm=iH):ZW X C .sh (.builtin "max") qgT:=by
 intro pins s σ H xs us Q I r h;obtain ⟨x,y,F,dx,a,rfl,b,t,ty,po⟩:=h;cases dx <;> try exact po.elim
 cases a <;> try exact po.elim
 obtain rfl:=t.int;obtain rfl:=ty.int;exact Zg d pins s σ H _ us Q I r ⟨_,_,rfl,po _ F H b .refl (.int _)⟩
theorem qfP (d:X.calm=iH):ZW X C .sh (.builtin "min") qgU:=by
 intro pins s σ H xs us Q I r h;obtain ⟨x,y,F,dx,a,rfl,b,t,ty,po⟩:=h;cases dx <;> try exact po.elim
 cases a <;> try exact po.elim
 obtain rfl:=t.int;obtain rfl:=ty.int;exact Zh d pins s σ H _ us Q I r ⟨_,_,rfl,po _ F H b .refl (.int _)⟩
noncomputable def ku (a T:String):Option Bool:=if (dI a == dI T)=iH then iB iH else if PySem.W.kitMeta T=iH then (fastBuiltinMro a).map (·.contains (.type T)) else iD
theorem qbi (K:Frag) (a T:String):bW K (.type a) (.type T)=ku a T:=rfl
noncomputable def tyN:D->Option String
 | .non=>iB "NoneType"
 | .bl _=>iB "bool"
 | .int _=>iB "int"
 | .str _=>iB "str"
 | .tup _=>iB "tuple"
 | .lst _=>iB "list"
 | .dct _=>iB "dict"
 | _=>iD
noncomputable def gi (T:String) (d:D):Out D:=match tyN d with
 | some a=>match ku a T with
  | some b=>.ok (.bl b)
  | none=>.bad
 | none=>.bad
theorem qbj (m:C.K=X.K):uh X (.builtin "isinstance") (λxs H Q=>∃ x F d,xs=[x,.ty T]/\Same F H/\TopIs C.K F H x d/\PoV C .sh F H (gi T d) Q):=by
 intro pins s σ H xs us Q I r h;obtain ⟨x,F,d,rfl,g,f,po⟩:=h;obtain ⟨u,c,rfl,A,j⟩:=Zf r;cases j;cases q:tyN d with
 | none=>unfold gi at po; rw [q] at po; exact po.elim
 | some a=>
  cases i:ku a T with
  | none=>unfold gi at po; rw [q] at po; simp only [i] at po; exact po.elim
  | some b=>
   have po:PoV C .sh F H (.ok (.bl b)) Q:=by unfold gi at po; rw [q] at po; simp only [i] at po; exact po
   have fin:∀ tk,EP X pins σ Q (.bool b) { s with toks:=tk }:=λtk=>⟨.bl b,H,I.tok tk,rfl,po _ F H g .refl (.bl b)⟩
   have e:bW X.K (.type a) (.type T)=iB b:=(qbi X.K a T).trans i;cases d with
   | non=>obtain rfl:=f.non; cases A; cases q; exact cP PySem.W.kitx_none I.kIn dJ e (λz=>nomatch z) fin
   | bl y=>obtain rfl:=f.bl; cases A; cases q; exact cP PySem.W.kitx_bool I.kIn dJ e (λz=>nomatch z) fin
   | int y=>obtain rfl:=f.int; obtain ⟨t,rfl⟩:=A; cases q; exact cP PySem.W.kitx_int I.kIn dJ e (λz=>nomatch z) fin
   | str y=>obtain ⟨rfl,_⟩:=f.str; obtain ⟨t,rfl⟩:=A; cases q; exact cP PySem.W.kitx_str I.kIn dJ e (λz=>nomatch z) fin
   | tup y=>obtain ⟨p,vs,rfl,hq,t⟩:=f.tup g;cases A; cases q;obtain ⟨its,_,⟨o,h1,h2,_⟩,_⟩:=I.tuple (show SqT X.K H p vs by rw [<-m]; exact hq);exact cP PySem.W.kitx_tuple I.kIn ⟨o,h1,h2⟩ e (λz=>nomatch z) fin
   | lst y=>obtain ⟨p,vs,rfl,hq,t⟩:=f.lst g;cases A; cases q;obtain ⟨its,_,⟨o,n,h1,h2,_⟩,_⟩:=I.list (show SqL X.K H p vs by rw [<-m]; exact hq);exact cP PySem.W.kitx_list I.kIn ⟨o,h1,h2⟩ e (λz=>nomatch z) fin
   | dct y=>
    obtain ⟨p,vs,rfl,hq,t⟩:=f.dct g;cases A; cases q;obtain ⟨_,_,ws,_,o,es,ep,h1,h2,_⟩:=(show ObjOk X.prog X.w H s.heap p (.dK vs) from I.hok p _ hq)
    exact cP PySem.W.kitx_dict I.kIn ⟨o,h1,h2.1⟩ e (λz=>nomatch z) fin
   | _=>cases q
theorem xZ {tn:Str} {p t:Pos} (o:C.K=X.K) (hg:Gl X "isinstance") (j:X.mg "isinstance"=iD) (i:bootBuiltins "isinstance"=iB (.builtin "isinstance")) (l:Gl X tn) (e:X.mg tn=iD) (b:bootBuiltins tn=iB (.type T)) (k:PE X a (tE C own ma fa)) (n:tn ≠ "__name__":=by decide) (f:(tn == ("__debug__":Str))=false:=by decide)
  (h1:starEach [a,.Name tn t] X.env=(iF,eval a X.env)::starEach [.Name tn t] X.env:=by rfl) (h2:starEach [.Name tn t] X.env=[(iF,eval (.Name tn t) X.env)]:=by rfl):PE X (.Call (.Name "isinstance" p) [a,.Name tn t] [] pos) (tE C own .sh (d1 (gi T) fa)):=by
 refine jG (wF (qbj (T:=T) o) hg j i (qO k (qO (XX (v:=.ty T) l e b rfl n f) jE h2) h1) (by decide) (by decide) (by rw [h1]) (by rw [h2]; rfl)) λσ H Q h=>?_;obtain ⟨F,ρ,g,h⟩:=Wf (ma:=ma) h;refine ⟨F,ρ,g,?_⟩;cases q:fa ρ with
 | ok p=>rw [q] at h;obtain ⟨d,ρ1⟩:=p;intro v F1 H1 r s m;obtain ⟨u,dx,z⟩:=h v F1 H1 r s m;exact ⟨v,u,dx,rfl,z⟩
 | exc c=>rw [q] at h; exact h
 | bad=>rw [q] at h; exact h.elim
noncomputable def vE:List D->Option (List Bool)
 | []=>iB []
 | .bl b::ds=>(vE ds).map (b::·)
 | _::_=>iD
noncomputable def UN:D->Out D
 | .lst ds=>match vE ds with
  | some bs=>.ok (.bl (bs.all id))
  | none=>.bad
 | _=>.bad
theorem zH:∀ {vs:List V} {us:List iE} {ds:List D} {bs:List Bool},IsL K F vs ds->Vals vs us->vE ds=iB bs->us=bs.map aY
 | _,_,_,_,.nil,.nil,e=>by cases e; rfl
 | _,_,_,_,.cons (d:=d) h t,.cons r rs,e=>by
  cases d with
  | bl b=>unfold vE at e;obtain ⟨a,e1,i⟩:=aS.mp e;subst i;cases h;cases r;rw [zH t rs e1]; rfl
  | _=>cases e
theorem gj (m:C.K=X.K) (j:X.calm=iH):zr X C .sh (.builtin "all") UN:=by
 intro pins s σ H xs us Q I r h;obtain ⟨x,F,dx,rfl,y,d,po⟩:=h;cases dx <;> try exact po.elim
 rename_i ds;obtain ⟨p,vs,rfl,hq,t⟩:=d.lst y;obtain ⟨u,rfl,g⟩:=yv r;cases g;unfold UN at po;cases q:vE ds with
 | none=>simp only [q] at po; exact po.elim
 | some bs=>
  simp only [q] at po;obtain ⟨its,f,pl,hz⟩:=I.list (show SqL X.K H p vs by rw [<-m]; exact hq);have D:=zH t f q;subst D;have hp:p < s.heap.objs.size:=let ⟨o,h1,_⟩:=pl.isList; aq h1;refine call_all_walk (lg pl.isList ?_);have W:Walks X.prog X.w X.A.in1 s.heap.objs.size [s.heap.objs.size,p] [s.heap.objs.size] (bs.map aY).toArray.size (λi v=>(bs.map aY).toArray[i]?=iB v) (λi h=>h.IsListIter s.heap.objs.size p i/\h.IsList p (bs.map aY).toArray):=iw (A:=X.A.in1) (show X.A.in1.handled=iD from I.ok.hd j) s.heap.objs.size p (aC hp) _;have st:(s.heap.push { cls:=.type "list_iterator",data:=.fields #[.ref p,.int 0 0] }).IsListIter s.heap.objs.size p 0/\(s.heap.push { cls:=.type "list_iterator",data:=.fields #[.ref p,.int 0 0] }).IsList p (bs.map aY).toArray:=⟨⟨_,af _ rfl,rfl,rfl⟩,let ⟨o,h1,h2⟩:=pl.isList; ⟨o,aa _ h1,h2⟩⟩
  refine ⟨_,_,_,_,_,_,λi=>(bs[i]?).getD iF,rfl,W,st,λi v s' n E l c=>?_,λh' tk kp=>?_⟩
  ·have l:(bs.map aY).toArray[i]?=iB v:=l;rw [e9,aE] at l;cases B:bs[i]? with
   | none=>rw [B] at l; cases l
   | some b=>have a:n ((bs[i]?).getD iF) s':=c;rw [B] at l a;cases l;exact i0 a
  ·have e:(au (bs.map aY).toArray.size).all (λi=>(bs[i]?).getD iF)=bs.all id:=by
    rw [am,ah,Bool.eq_iff_iff,aJ,aJ];constructor;·intro h b k;obtain ⟨i,hi,e⟩:=dP.mp k;have:=h i (aM.mpr hi);rw [ay hi,e] at this;exact this
    ·intro h i hi;have hi:=aM.mp hi;rw [ay hi];exact h _ (cr hi)
   rw [e];refine ⟨.bl (bs.all id),H,?_,rfl,po _ F H y .refl (.bl _)⟩;have k2:∀ b o,s.heap.get? b=iB o->h'.get? b=iB o:=λb o D=>kp b o (by simp; exact aC (aq D)) (aa _ D);exact I.kept (t':=tk) k2
end
noncomputable def wv (idx:List Nat) (xs:List α):List α:=idx.filterMap λk=>xs[k]?
theorem IsL.pick (h:IsL K F vs ds):∀ (idx:List Nat),IsL K F (wv idx vs) (wv idx ds)
 | []=>.nil
 | k::idx=>by
  unfold wv;rw [bj,bj];cases e:vs[k]? with
  | none=>have a:ds[k]?=none:=cg.mpr (by rw [<-h.length]; exact cg.mp e);rw [a];exact IsL.pick h idx
  | some v=>obtain ⟨d,a,i⟩:=h.get e;rw [a];exact .cons i (IsL.pick h idx)
theorem gk {us:List iE} (h:Vals vs us):∀ (idx:List Nat),Vals (wv idx vs) (wv idx us)
 | []=>.nil
 | k::idx=>by
  unfold wv;rw [bj,bj];cases e:vs[k]? with
  | none=>rw [h.none_of e]; exact gk h idx
  | some v=>obtain ⟨u,i,r⟩:=h.get e;rw [i];exact .cons r (gk h idx)
theorem qbk (xs:List α):wv (au xs.length) xs=xs:=by unfold wv;have:=PySem.W.krv_all xs.toArray;simpa using this
noncomputable def KQ (n:Nat) (lo hi:Option Int) (st:Int):List Nat:=(au (dS (br lo hi st n).1 (br lo hi st n).2 st)).map λ(k:Nat)=>((br lo hi st n).1+(k:Int) * st).toNat
noncomputable def QE (x:Str) (lo hi:Option Int) (st:Int):Str:=if (st == 1&&(dF lo hi st x.length).length == x.length)=iH then x else ⟨((dF lo hi st x.length).filterMap (x.cps[·]?)).toArray⟩
noncomputable def slD (lo hi st:Option Int):D->Out D
 | .tup xs=>if st.getD 1≠0/\(wv (KQ xs.length lo hi (st.getD 1)) xs).length<=sizeLine then .ok (.tup (wv (KQ xs.length lo hi (st.getD 1)) xs)) else .bad
 | .str x=>if st.getD 1≠0/\(QE x lo hi (st.getD 1)).length<=sizeLine then .ok (.str (QE x lo hi (st.getD 1))) else .bad
 | _=>.bad
def qiu (X:Cx) (r:V->Option Int->Option Int->Option Int->Hp->VK->Prop):Prop:=
 ∀ (pins:List (Addr×Obj)) (s:iI) (σ:St) (H:Hp) (x:V) (v vl u k:iE) (lo hi st:Option Int) (sl:Addr) (Q:VK),Inv X pins σ H s->RelV x v->s.heap.IsSliceOf sl vl u k->ll vl lo->ll u hi->ll k st->r x lo hi st H Q ->∃ T id,typeLookup (.type T) "__getitem__"=pure (iB (.builtin id))/\s.TypeIs v T/\wpAny (model X.prog X.w) X.A (getItem v (.ref sl)) (EP X pins σ Q) X.xe s
variable {sl:Addr}
section
variable {prog:iJ}
theorem Qm {vl u k:iE} {lo hi st:Option Int} {n:Nat} {Q:Int×Int×Nat->iI->Prop} (d:s.heap.IsSliceOf sl vl u k) (pl:ll vl lo) (p:ll u hi) (c:ll k st) (h0:st.getD 1≠0)
  (h:Q ((br lo hi (st.getD 1) n).1,st.getD 1,dS (br lo hi (st.getD 1) n).1 (br lo hi (st.getD 1) n).2 (st.getD 1)) s):wpAny (model prog w) A (Builtin.Slice.sliceApplied (.ref sl) (pure (n:Int))) Q E s:=by
 obtain ⟨os,a,e,b⟩:=id d;unfold Builtin.Slice.sliceApplied Builtin.Slice.sliceFields;refine iC (iC (iQ a b (x:=vl) rfl (iC (iQ a b (x:=u) rfl (iC (iQ a b (x:=k) rfl (iG ?_)))))));refine iC (HT.slicePart_ c ?_);show wpAny _ _ (if (st.getD 1 == 0)=iH then _ else _) _ _ s;rw [if_neg (by simpa using h0)];refine iC (HT.slicePart_ pl (iC (HT.slicePart_ p (iC (iG ?_)))));exact iG h
theorem gl {t:Addr} {items:Array iE} {vl u v:iE} {lo hi st:Option Int} {Q:iE->iI->Prop} (l:IsTup s.heap t items) (g:s.heap.IsSliceOf sl vl u v) (pl:ll vl lo) (p:ll u hi) (n:ll v st) (h0:st.getD 1≠0)
  (hw:KQ items.size lo hi (st.getD 1)=au items.size->Q (.ref t) s)
  (h:Q (.ref s.heap.objs.size) { s with heap:=s.heap.push { cls:=.type "tuple",data:=.seq (wv (KQ items.size lo hi (st.getD 1)) items.toList).toArray } })
  (hsz:(wv (KQ items.size lo hi (st.getD 1)) items.toList).length<=sizeLine):wpAny (model prog w) A (getItem (.ref t) (.ref sl)) Q E s:=by
 obtain ⟨os,b,c,o⟩:=id g;have f:s.TypeIs (.ref sl) "slice":=⟨os,b,c⟩
 unfold getItem;try with_reducible refine iR ?_
 first | refine iC (iG ?_) | skip
 refine iC (wpAny_sequenceKey l.typeIs (by decide) ?_);refine iC (iM (name:=aQ "__getitem__") l.typeIs cY
  (iO cY l.typeIs entry_tuple_getitem ?_ (args_tuple_getitem _ _)))
 show wpAny _ _ (Builtin.Tuple.tupleItemsOf (.ref t) >>= _) _ _ s;refine iC (tupleItemsOf_ l ?_);refine iC (k7 f ?_);rw [if_pos (by decide)];refine iC (Qm g pl p n h0 ?_);generalize hA:br lo hi (st.getD 1) items.size=A0;generalize N:dS A0.1 A0.2 (st.getD 1)=N0;have ep:wv (KQ items.size lo hi (st.getD 1)) items.toList=(au N0).filterMap λ(k:Nat)=>items[(A0.1+(k:Int) * st.getD 1).toNat]?:=by unfold wv KQ;rw [hA,N,List.filterMap_map];congr 1;funext k;simp
 rw [ep] at h hsz;by_cases d:(A0.1 == 0&&st.getD 1 == 1&&N0 == items.size)=iH
 ·have S:=d;rw [aK,aK] at S;have j:A0.1=0:=eq_of_beq S.1.1;have i:st.getD 1=1:=eq_of_beq S.1.2;have q:N0=items.size:=eq_of_beq S.2;have whole:KQ items.size lo hi (st.getD 1)=au items.size:=by
   unfold KQ;rw [hA,N,j,i,q];have e:(λ(k:Nat)=>((0:Int)+(k:Int) * 1).toNat)=id:=by funext k;show ((0:Int)+(k:Int) * 1).toNat=k;omega
   rw [e,List.map_id]
  have r:=hw whole;show wpAny _ _ (if (A0.1 == 0&&st.getD 1 == 1&&N0 == items.size)=iH then _ else _) _ _ s;rw [if_pos d];unfold Builtin.Tuple.tupleIsExact;refine iC (iC (k7 l.typeIs (iG ?_)));rw [if_pos (by decide)];exact iC (j7 (iG ⟨_,rfl,iG r⟩))
 ·show wpAny _ _ (if (A0.1 == 0&&st.getD 1 == 1&&N0 == items.size)=iH then _ else _) _ _ s;rw [if_neg d];have a:sizeOk (.seq ((au N0).filterMap λ(k:Nat)=>items[(A0.1+(k:Int) * st.getD 1).toNat]?).toArray):=by show (((au N0).filterMap λ(k:Nat)=>items[(A0.1+(k:Int) * st.getD 1).toNat]?).toArray).size<=sizeLine;rw [am]; exact hsz
  first
   | exact iC (m:=cW _) (iN (iG ⟨_,rfl,iG h⟩) a)
   | exact iC (m:=cW _) (iN (iC (iG (iG ⟨_,rfl,iG h⟩))) a)
   | exact iC (iC (m:=cW _) (iN (iG (iG ⟨_,rfl,iG h⟩)) a))
   | exact iC (iC (m:=cW _) (iN (iG ⟨_,rfl,iG h⟩) a))
end
def PoO (C:Ct) (own:List Nat) (σ:St) (F H:Hp) (r:Out (Option Int×Sl)) (Q:Option Int->Hp->Prop):Prop:=match r with
 | .ok (b,ρ')=>∀ F' H',Rep C.K own F' H' σ ρ'->Chg (OA own σ) F H F' H'->Q b H'
 | .exc c ρ'=>∀ F' H',Same F' H'->XS C.K C.ox F' H' σ ρ'->Chg (OA own σ) F H F' H'->C.E (C.cv c) iD H'
 | .bad=>False
def tO (C:Ct) (own:List Nat) (f:Sl->Out (Option Int×Sl)):TO:=λσ H Q=>∃ F ρ,Rep C.K own F H σ ρ/\PoO C own σ F H (f ρ) Q
noncomputable def ut:Option (Sl->Out (D×Sl))->Sl->Out (Option Int×Sl)
 | none,ρ=>.ok (iD,ρ)
 | some f,ρ=>(f ρ).bind λp=>match p.1 with
  | .int i=>.ok (iB i,p.2)
  | _=>.bad
theorem Po.bindO {o:Out (Option Int×Sl)} {k:Option Int×Sl->Out (D×Sl)} {Q:VK} {R:Option Int->Hp->Prop} (hp:Po C own m σ F H (o.bind k) Q)
  (h:∀ F1 H1 b ρ1,Rep C.K own F1 H1 σ ρ1->Chg (OA own σ) F H F1 H1->Po C own m σ F1 H1 (k (b,ρ1)) Q->R b H1):PoO C own σ F H o R:=by
 cases o with
 | ok p=>obtain ⟨d,ρ1⟩:=p;exact λF1 H1 a c=>h F1 H1 d ρ1 a c (Po.shift (show Po C own m σ F H (k (d,ρ1)) Q from hp) c)
 | exc x=>exact hp
 | bad=>exact hp.elim
noncomputable def UO (fa:Sl->Out (D×Sl)) (l u k:Option (Sl->Out (D×Sl))):Sl->Out (D×Sl):=λρ=>(fa ρ).bind λp=>(ut l p.2).bind λa=>(ut u a.2).bind λb=>(ut k b.2).bind λc=>(slD a.1 b.1 c.1 p.1).plain.bind λd=>.ok (d,c.2)
section
variable {a:Expr} {p2:Pos}
theorem wI:PO X iD (tO C own (ut iD)):=by intro pins s σ H Q I ⟨F,ρ,a,h⟩;exact qdg pins s σ H Q I (h F H a .refl)
theorem vF (h:PE X e (tE C own m f)):PO X (iB e) (tO C own (ut (iB f))):=by
 intro pins s σ H Q I ⟨F,ρ,r,hp⟩;refine qdh h pins s σ H Q I ⟨F,ρ,r,?_⟩;have hp:PoO C own σ F H ((f ρ).bind λp=>match p.1 with | .int i=>.ok (iB i,p.2) | _=>.bad) Q:=hp;cases q:f ρ with
 | ok p=>
  rw [q] at hp;obtain ⟨d,ρ1⟩:=p;cases d with
  | int i=>exact λv F1 H1 a k b=>⟨i,b.top.int,hp F1 H1 a k⟩
  | _=>exact hp.elim
 | exc c=>rw [q] at hp; exact hp
 | bad=>rw [q] at hp; exact hp.elim
theorem ZX {r:V->Option Int->Option Int->Option Int->Hp->VK->Prop} {tl th tk:TO} {lo hi st:Option Expr} (y:qiu X r) (B:PE X e te) (hl:PO X lo tl) (o:PO X hi th) (z:PO X st tk):PE X (.Subscript e (.Slice lo hi st p2) pos) (λσ H Q=>te σ H λx H1=>tl σ H1 λl H2=>th σ H2 λu f=>tk σ f λk d=>r x l u k d Q):=by
 refine ⟨?_⟩;intro pins s σ H Q I h;refine Subscript_ (thn (B pins s σ H _ I h) λv s1 ⟨x,H1,J,r1,m⟩=>?_);refine wpAny_Slice (thn (hl pins s1 σ H1 _ J m) λvl s2 ⟨l,H2,E,pl,j⟩=>thn (o pins s2 σ H2 _ E j) λa s3 ⟨u,f,D,p,i⟩=>thn (z pins s3 σ f _ D i) λc s4 ⟨k,d,C,n,g⟩=>?_);have G:Inv X pins σ d { s4 with heap:=s4.heap.push { cls:=.type "slice",data:=.fields #[vl,a,c] } }:=C.kept (t':=s4.toks) λb K q=>aa _ q;obtain ⟨T,id,hT,t,hg⟩:=y pins { s4 with heap:=s4.heap.push { cls:=.type "slice",data:=.fields #[vl,a,c] } } σ d x v vl a c l u k s4.heap.objs.size Q G r1 (Heap.IsSliceOf.new ..) pl p n g;show wpAny (model X.prog X.w) X.A (subscriptTail e (.Slice lo hi st p2) v (.ref s4.heap.objs.size)) (EP X pins σ Q) X.xe { s4 with heap:=s4.heap.push { cls:=.type "slice",data:=.fields #[vl,a,c] } };cases st with
 | none=>exact lK (ops:=[.ref s4.heap.objs.size,v]) t hT hg (by with_unfolding_all rfl)
 | some st=>exact lK (ops:=[v,.ref s4.heap.objs.size]) t hT hg (by with_unfolding_all rfl)
theorem Jh {v:iE} {o:Option Int} (h:ll v o):∃ l:Option (Int×Tok),v=partValue l/\l.map (·.1)=o:=by
 cases h with
 | none=>exact ⟨iD,rfl,rfl⟩
 | int i t=>exact ⟨iB (i,t),rfl,rfl⟩
theorem qjd (G:C.K=X.K):qiu X (λx lo hi st H Q=>∃ F d,Same F H/\Is C.K F x d/\PoV C .sh F H (slD lo hi st d) Q):=by
 intro pins s σ H x v vl L M lo hi st sl Q I m D pl w A h;obtain ⟨F,d,y,is,po⟩:=h;cases d with
 | tup ds=>
  have f:=is;cases is with
  | @tup a xs _ hq t=>
   cases m;have g:SqT X.K H a xs:=by rw [<-G]; exact qV y hq
   obtain ⟨its,r,B,hz⟩:=I.tuple g;have n:its.length=ds.length:=r.length.symm.trans t.length;have po:PoV C .sh F H (if st.getD 1≠0/\(wv (KQ ds.length lo hi (st.getD 1)) ds).length<=sizeLine then .ok (.tup (wv (KQ ds.length lo hi (st.getD 1)) ds)) else .bad) Q:=po;by_cases c:st.getD 1≠0/\(wv (KQ ds.length lo hi (st.getD 1)) ds).length<=sizeLine
   ·rw [if_pos c] at po;have i:=t.pick (KQ ds.length lo hi (st.getD 1));have p:=gk r (KQ ds.length lo hi (st.getD 1));refine ⟨"tuple",_,cY.lookup,B.typeIs,gl B D pl w A c.1 (λe=>?_) ?_ ?_⟩;·rw [am,n] at e;refine ⟨.ref a,H,I,rfl,po _ F H y .refl ?_⟩;rw [e,qbk];exact f
    ·simp only [am,n];have j:(wv (KQ ds.length lo hi (st.getD 1)) xs).length<=sizeLine:=by rw [i.length]; exact c.2
     refine ⟨.ref s.heap.objs.size,_,I.laid (t':=s.toks) (o:=.tup (wv (KQ ds.length lo hi (st.getD 1)) xs)) (λb N q=>aa _ q) (ax _) ⟨⟨j,⟨_,af _ rfl,rfl⟩⟩,_,p,IsTup.new _ _⟩,rfl,?_⟩;obtain ⟨s2,c2⟩:=uo (u:=.tup (wv (KQ ds.length lo hi (st.getD 1)) xs)) y (I.hok.fresh (ax _));exact po _ _ _ s2 c2 (.tup (.inl (.inl qt)) (i.mono c2.grow))
    ·simp only [am,n];rw [<-p.length,i.length];exact c.2
   ·rw [if_neg c] at po; exact po.elim
 | str z=>
  cases is;obtain ⟨t,rfl⟩:=m;have po:PoV C .sh F H (if st.getD 1≠0/\(QE z lo hi (st.getD 1)).length<=sizeLine then .ok (.str (QE z lo hi (st.getD 1))) else .bad) Q:=po;by_cases c:st.getD 1≠0/\(QE z lo hi (st.getD 1)).length<=sizeLine
  ·rw [if_pos c] at po;obtain ⟨l,rfl,el⟩:=Jh pl;obtain ⟨u,rfl,J⟩:=Jh w;obtain ⟨k,rfl,E⟩:=Jh A;refine ⟨"str",_,PySem.F.slot_str_getitem.lookup,typeIs_str s z t,wpAny_getItem_str_slice (l:=l) (u:=u) (st:=k) D (by rw [E]; simpa using c.1) ?_⟩;have c2:=c.2;unfold sliceMade slicePicked;rw [el,J,E];unfold QE at c2 po;by_cases q:(st.getD 1 == 1&&(dF lo hi (st.getD 1) z.length).length == z.length)=iH;·rw [if_pos q] at c2 po ⊢;exact ⟨.str z,H,I,⟨t,rfl⟩,po _ F H y .refl (.str c2)⟩
   ·rw [if_neg q] at c2 po ⊢;exact ⟨c2,.str _,H,I.tok _,⟨_,rfl⟩,po _ F H y .refl (.str c2)⟩
  ·rw [if_neg c] at po; exact po.elim
 | _=>exact po.elim
theorem Ji {lo hi st:Option Expr} {l u k:Option (Sl->Out (D×Sl))} (t:C.K=X.K) (s:PE X e (tE C own ma fa)) (hl:PO X lo (tO C own (ut l))) (o:PO X hi (tO C own (ut u))) (q:PO X st (tO C own (ut k))) (n:ma≠.any:=by decide):PE X (.Subscript e (.Slice lo hi st p2) pos) (tE C own .sh (UO fa l u k)):=by
 refine jG (ZX (qjd (C:=C) t) (yN s n) hl o q) λσ H Q ⟨F,ρ,p,h⟩=>⟨F,ρ,p,Po.bind h λv F1 H1 d ρ1 j z m h1=>?_⟩
 refine ⟨F1,ρ1,j,Po.bindO h1 λy H2 a ρ2 i c2 h2=>⟨y,ρ2,i,Po.bindO h2 λx I b f g G h3=>⟨x,f,g,Po.bindO h3 λJ B c A r E w=>?_⟩⟩⟩;exact ⟨J,d,r.sub,((m.mono c2.grow).mono G.grow).mono E.grow,PoV.of r w⟩
end
noncomputable def Its (x:Str):It:=⟨λi _=>i < x.cps.size,λi H v H'=>H'=H/\∃ c,x.cps[i]?=iB c/\v=.str ⟨#[c]⟩,λi _=>x.cps.size<=i⟩
noncomputable def KR (x:Str):List D:=x.cps.toList.map λc=>.str ⟨#[c]⟩
theorem UP {P:iJ} {w:iK} {K:Frag} {tg:Expr} (it:Addr) (x:Str) (t:Tok) (ty:String) (y:["enumerate", "zip", "dict_itemiterator", "dict_reverseitemiterator", "odict_iterator", "itertools.zip_longest", "itertools.pairwise"].contains ty=iF)
  (W:∀ A:iP,A.handled=iD->Walks P w A it [it] [it] x.cps.size (SignAt x) (λi h=>h.IsStrIter it ty x t i)) (p:∀ (A:iP) (i:Nat) (s:iI) (Q:iE->iI->Prop) (E:iE->iI->Prop),s.heap.IsStrIter it ty x t i->Q (.ref it) s->wpAny (model P w) A (pyIter (.ref it)) Q E s) :
  Turn P w K tg (Its x) [it] it (λi h=>h.IsStrIter it ty x t i/\i<=x.cps.size) where
 mem:=by simp
 obj:=λi h st b a=>by
  have e:b=it:=by simpa using a
  subst e;obtain ⟨o,e,c,d⟩:=st.1;exact ⟨o,e,λv z=>by rw [d] at z; cases z⟩
 keep:=λi h h' st k=>by obtain ⟨⟨o,e,r⟩,hi⟩:=st;exact ⟨⟨o,k it (by simp) o e,r⟩,hi⟩
 item:=by
  intro X l hw m j i pins s σ H E I f st hg;subst l hw m;obtain ⟨f0,f1,f2,q,f4,n⟩:=f it (by simp);refine (W X.A (I.ok.hd j)).item i s _ _ hg st.1 λv h' tk l g kp=>?_;have B:Inv X pins σ H { s with heap:=h',toks:=tk }:=I.turned (t':=tk) (λb o a e=>kp b o (by simpa using a) e) f0 f1 q f4 n;obtain ⟨o,e,c,d⟩:=id g;obtain ⟨T,u,h1,h2⟩:∃ T u,x.cps[i]?=iB T/\v=dQ ⟨#[T]⟩ u:=by
   unfold SignAt at l;first
    | exact l
    | (obtain ⟨T,u,h1,h2⟩:=l; exact ⟨T,u,h1,h2⟩)
    | (obtain ⟨T,h1,u,h2⟩:=l; exact ⟨T,u,h1,h2⟩)
    | (obtain ⟨u,T,h1,h2⟩:=l; exact ⟨T,u,h1,h2⟩)
  subst h2;exact ⟨_,rfl,qaV (s:={ s with heap:=h',toks:=tk }) e c d y ⟨.str ⟨#[T]⟩,H,B,⟨u,rfl⟩,⟨rfl,T,h1,rfl⟩,⟨g,hg⟩,λb a=>(f b a).1⟩⟩
 done:=by intro X l hw m j i pins s σ H E I f st hg;subst l hw m;obtain ⟨f0,f1,f2,q,f4,n⟩:=f it (by simp);have hi:i=x.cps.size:=Nat.le_antisymm st.2 hg;subst hi;exact (W X.A (I.ok.hd j)).done s _ _ st.1 λh' tk kp=>⟨rfl,I.turned (t':=tk) (λb o a e=>kp b o (by simpa using a) e) f0 f1 q f4 n⟩
 self:=λA i s Q E st h=>p A i s Q E st.1 h
theorem qfQ:ItIs K F (Its x) (KR x) where
 go:=λi H hi _=>by
  have:i < x.cps.size:=by simpa [KR] using hi
  exact this
 yld:=λi Fi H v H' d e s1 s2 y=>by
  obtain ⟨rfl,c,h1,rfl⟩:=y;have e:d=.str ⟨#[c]⟩:=by
   unfold KR at e;rw [aE] at e;have h1:x.cps.toList[i]?=iB c:=by simpa using h1
   rw [h1] at e;exact (aU.inj e).symm
  subst e;exact ⟨Fi,.refl,s2,.str (UG c)⟩
 stop:=λi H hi _=>by
  have:x.cps.size<=i:=by simpa [KR] using hi
  exact this
noncomputable def ju:D->Out (List D)
 | .lst xs=>.ok xs
 | .tup xs=>.ok xs
 | .str x=>.ok (KR x)
 | _=>.bad
noncomputable def jy (f:Sl->Out (D×Sl)):Sl->Out (List D×Sl):=λρ=>(f ρ).bind λp=>(ju p.1).bind λds=>.ok (ds,p.2)
section
theorem qfR {l:Expr} {tl:TE} (hl:PE X l tl):PI X tg l (λσ H R=>tl σ H λx H1=>(∃ a,x=.ref a/\(((∃ xs,SqL X.K H1 a xs)/\R (Itl X.K a) H1)\/((∃ xs,SqT X.K H1 a xs)/\R (Itt X.K a) H1)))\/∃ z,x=.str z/\R (Its z) H1):=by
 refine ⟨?_⟩;intro pins s σ H R I h;refine thn (hl pins s σ H _ I h) λv s1 ⟨x,H1,d,r1,c⟩=>?_;have fp:∀ b∈[s1.heap.objs.size],VT X pins H1 b:=λb f=>by
  have e:b=s1.heap.objs.size:=by simpa using f
  subst e;exact d.fpOk (ax _) (d.hok.fresh (ax _))
 rcases c with ⟨a,rfl,q⟩ | ⟨z,rfl,q⟩
 ·cases r1;rcases q with ⟨⟨xs,hq⟩,q⟩ | ⟨⟨xs,hq⟩,q⟩
  ·obtain ⟨its,r,p,hz⟩:=d.list hq;refine lg p.isList ?_;exact ⟨s1.heap.objs.size,[s1.heap.objs.size],_,_,H1,rfl,d.kept (t':=s1.toks) λb o e=>aa _ e,XZ a _,⟨_,af _ rfl,rfl,rfl⟩,fp,q⟩
  ·obtain ⟨its,r,p,hz⟩:=d.tuple hq;refine wpAny_pyIter_tuple (show s1.heap.IsTuple a its.toArray from p) ?_;exact ⟨s1.heap.objs.size,[s1.heap.objs.size],_,_,H1,rfl,d.kept (t':=s1.toks) λb o e=>aa _ e,YT a _,⟨_,af _ rfl,rfl,rfl⟩,fp,q⟩
 ·obtain ⟨t,rfl⟩:=r1;cases g:z.cps.all (· < 128) with
  | true=>refine wpAny_pyIter_ascii g ?_;exact ⟨s1.heap.objs.size,[s1.heap.objs.size],_,_,H1,rfl,d.kept (t':=s1.toks) λb o e=>aa _ e,UP _ z t "str_ascii_iterator" (by decide) (λA hA=>Walks.strAscii hA _ z t) (λA i s Q E st h=>wpAny_pyIter_striter_ascii st h),⟨⟨_,af _ rfl,rfl,rfl⟩,bi _⟩,fp,q⟩
  | false=>refine wpAny_pyIter_wide g ?_;exact ⟨s1.heap.objs.size,[s1.heap.objs.size],_,_,H1,rfl,d.kept (t':=s1.toks) λb o e=>aa _ e,UP _ z t "str_iterator" (by decide) (λA hA=>Walks.strWide hA _ z t) (λA i s Q E st h=>wpAny_pyIter_striter_wide st h),⟨⟨_,af _ rfl,rfl,rfl⟩,bi _⟩,fp,q⟩
theorem qQ (b:C.K=X.K) (h:PE X e (tE C own m f)) (g:m≠.any:=by decide):PI X tg e (tIt C own (jy f)):=by
 refine qbb (qfR (yN h g)) λσ H R ⟨F,ρ,r,h⟩=>⟨F,ρ,r,PoI.bindV h λv F1 H1 d ρ1 a k c h1=>?_⟩
 have c:Is C.K F1 v d:=c;cases c with
 | lst p t=>exact .inl ⟨_,rfl,.inl ⟨⟨_,by rw [<-b]; exact a.sub.seq p⟩,by rw [<-b]; exact h1 _ F1 H1 a k (qfI p t)⟩⟩
 | tup p t=>exact .inl ⟨_,rfl,.inr ⟨⟨_,by rw [<-b]; exact qV a.sub p⟩,by rw [<-b]; exact h1 _ F1 H1 a k (qfJ p t)⟩⟩
 | str hz=>exact .inr ⟨_,rfl,h1 _ F1 H1 a k qfQ⟩
 | _=>exact h1.elim
end
noncomputable def KS (b:Bool):D->Out D
 | .lst ds=>match vE ds with
  | some bs=>.ok (.int (bs.countP (· == b):Nat))
  | none=>.bad
 | _=>.bad
noncomputable def KU (b:Bool):D->Out D
 | .lst ds=>match vE ds with
  | some bs=>match bs.findIdx? (· == b) with
   | some j=>.ok (.int (j:Nat))
   | none=>.bad
  | none=>.bad
 | _=>.bad
section
variable {o:Expr} {fo:Sl->Out (D×Sl)} {apos:Pos} {b:Bool}
theorem KW (A:iP) (s:iI) (c b:Bool):iA A s (.bool c) (.bool b) (c == b):=SeqAt.EqAt.bool_bool _ _
theorem qbl:MtR X "list.count" (λx vs H Q=>∃ (a:Addr) (xs:List V) (bs:List Bool) (b:Bool),x=.ref a/\vs=[.bl b]/\SqL X.K H a xs/\(∀ us,Vals xs us->us=bs.map aY)/\Q (.int (bs.countP (· == b):Nat)) H):=by
 intro pins s σ H x vs v us Q I f g h;obtain ⟨a,xs,bs,b,rfl,rfl,hq,i,q⟩:=h;cases f;obtain ⟨u,rfl,A⟩:=g.one;cases A;obtain ⟨its,r,pl,hz⟩:=I.list hq;have e:=i its r;subst e;obtain ⟨⟨cls,dd,data,sl⟩,n,m,d,hd,t⟩:=pl;simp only at d hd t;subst d t;refine la PySem.F.slot_list_count ⟨_,m,rfl⟩ PySem.F.entry_list_count (PySem.F.args_list_count_2 _ _) (SeqAt.list_countAt a _ n dd sl (.bool b) (λv=>v == .bool b)) ⟨m,λy B=>?_,?_⟩
 ·have B:y∈bs.map aY:=by simpa using B
  obtain ⟨c,_,rfl⟩:=aw.mp B;have e:(aY c == aY b)=(c == b):=by cases c <;> cases b <;> rfl
  show iA _ s (.bool c) (.bool b) (aY c == aY b);rw [e];exact KW _ s c b
 ·refine ⟨.int (bs.countP (· == b):Nat),H,I.tok _,⟨s.toks,?_⟩,q⟩;have e:(bs.map aY).toArray.toList.countP (λv=>v == aY b)=bs.countP (· == b):=by rw [fA,List.countP_map];congr 1;funext c;cases c <;> cases b <;> rfl
  rw [e]
theorem qbm:MtR X "list.index" (λx vs H Q=>∃ (a:Addr) (xs:List V) (bs:List Bool) (b:Bool) (j:Nat),x=.ref a/\vs=[.bl b]/\SqL X.K H a xs/\(∀ us,Vals xs us->us=bs.map aY)/\bs.findIdx? (· == b)=iB j/\Q (.int (j:Nat)) H):=by
 intro pins s σ H x vs v us Q I l p h;obtain ⟨a,xs,bs,b,j,rfl,rfl,hq,w,G,q⟩:=h;cases l;obtain ⟨u,rfl,A⟩:=p.one;cases A;obtain ⟨its,r,pl,hz⟩:=I.list hq;have e:=w its r;subst e;obtain ⟨⟨cls,dd,data,sl⟩,n,o,k,hd,t⟩:=pl;simp only at k hd t;subst k t;obtain ⟨i,g,f⟩:=bS.mp G;have d:bs.length<=sizeLine:=by have:=r.length; simp at this; omega
 have ev:∀ c:Bool,(aY c == aY b)=(c == b):=λc=>by cases c <;> cases b <;> rfl
 refine la c7 ⟨_,o,rfl⟩ PySem.F.entry_list_index (PySem.F.args_list_index_2 _ _) (SeqAt.list_indexAt a _ n dd sl (.bool b) (λv=>v == .bool b) j (by simpa using i) (by rw [iL] at d; omega) (by simp [ev]; simpa using g) λm z h1=>?_) ⟨o,λy B=>?_,?_⟩;·have:=f m h1;simp [ev];simpa using this
 ·have B:y∈bs.map aY:=by simpa using B
  obtain ⟨c,_,rfl⟩:=aw.mp B;show iA _ s (.bool c) (.bool b) (aY c == aY b);rw [ev];exact KW _ s c b
 ·exact ⟨.int (j:Nat),H,I.tok _,⟨_,rfl⟩,q⟩
theorem qbn {k c2} (A:C.K=X.K) (z:PE X o (tE C own m fo))
  (f:attributeBase o "count" X.env (eval o X.env)=eval o X.env:=by rfl)
  (w:((backTo cpos (starEach [.Constant (.bool b) k c2] X.env)).all (λx=>!x.1)&&(backToKw cpos (keywordEach [] X.env)).all (λx=>x.1.isSome)
   && decide ([Expr.Constant (.bool b) k c2].length+([]:List iY).length+(if ([]:List iY).isEmpty then 0 else 1) < 30))=true:=by exact wG rfl)
  (e:(apos.endLine == cpos.line)=true:=by rfl) (s:starEach [.Constant (.bool b) k c2] X.env=[(iF,eval (.Constant (.bool b) k c2) X.env)]:=by exact qJ rfl) :
  PE X (.Call (.Attribute o "count" apos) [.Constant (.bool b) k c2] [] cpos) (tE C own .sh (d1 (KS b) fo)):=by
 refine jG (YY bQ PySem.F.slot_list_count PySem.F.type_list_count qbl z (qO qc4 jE s) f w e s rfl) λσ H Q h=>?_;obtain ⟨F,ρ,u,h⟩:=Wf (ma:=m) h;refine ⟨F,ρ,u,?_⟩;cases q:fo ρ with
 | ok p=>
  rw [q] at h;obtain ⟨d,ρ1⟩:=p;intro v F1 H1 i k l;obtain ⟨B,dx,y,n,po⟩:=h v F1 H1 i k l;cases dx <;> try exact po.elim
  rename_i ds;unfold KS at po;cases j:vE ds with
  | none=>simp only [j] at po; exact po.elim
  | some bs=>
   simp only [j] at po;obtain ⟨a,vs,rfl,hq,t⟩:=n.lst y;have g:SqL X.K H1 a vs:=by rw [<-A]; exact hq
   exact ⟨.inl ⟨rfl,vs,g⟩,a,vs,bs,b,rfl,rfl,g,λus r=>zH t r j,po _ B H1 y .refl (.int _)⟩
 | exc c=>rw [q] at h; exact h
 | bad=>rw [q] at h; exact h.elim
theorem qbo {k c2} (D:C.K=X.K) (B:PE X o (tE C own m fo))
  (f:attributeBase o "index" X.env (eval o X.env)=eval o X.env:=by rfl)
  (w:((backTo cpos (starEach [.Constant (.bool b) k c2] X.env)).all (λx=>!x.1)&&(backToKw cpos (keywordEach [] X.env)).all (λx=>x.1.isSome)
   && decide ([Expr.Constant (.bool b) k c2].length+([]:List iY).length+(if ([]:List iY).isEmpty then 0 else 1) < 30))=true:=by exact wG rfl)
  (e:(apos.endLine == cpos.line)=true:=by rfl) (u:starEach [.Constant (.bool b) k c2] X.env=[(iF,eval (.Constant (.bool b) k c2) X.env)]:=by exact qJ rfl) :
  PE X (.Call (.Attribute o "index" apos) [.Constant (.bool b) k c2] [] cpos) (tE C own .sh (d1 (KU b) fo)):=by
 refine jG (YY bQ c7 PySem.F.type_list_index qbm B (qO qc4 jE u) f w e u rfl) λσ H Q h=>?_;obtain ⟨F,ρ,A,h⟩:=Wf (ma:=m) h;refine ⟨F,ρ,A,?_⟩;cases q:fo ρ with
 | ok p=>
  rw [q] at h;obtain ⟨d,ρ1⟩:=p;intro v F1 H1 i k s;obtain ⟨E,dx,y,z,po⟩:=h v F1 H1 i k s;cases dx <;> try exact po.elim
  rename_i ds;unfold KU at po;cases n:vE ds with
  | none=>simp only [n] at po; exact po.elim
  | some bs=>
   simp only [n] at po;cases l:bs.findIdx? (· == b) with
   | none=>simp only [l] at po; exact po.elim
   | some j=>
    simp only [l] at po;obtain ⟨a,vs,rfl,hq,t⟩:=z.lst y;have g:SqL X.K H1 a vs:=by rw [<-D]; exact hq
    exact ⟨.inl ⟨rfl,vs,g⟩,a,vs,bs,b,j,rfl,rfl,g,λus r=>zH t r n,l,po _ E H1 y .refl (.int _)⟩
 | exc c=>rw [q] at h; exact h
 | bad=>rw [q] at h; exact h.elim
end
end L2.D2
namespace L2.D2
open PySem PySem.Spec PySem.Calls PyProof.Rows PySem.W Builtin Builtin.ObjectAttr Builtin.Getset_descriptor
variable {K:Frag} {R:lJ->iI->Prop}
section
variable {prog:iJ} {w:iK} {A:iP} {E:iE->iI->Prop} {h:Heap} {g:Array lC} {d:Drawn} {t:Nat} {os:j0} {a C:Addr} {o:Obj}
theorem qfS (X:K.In h) (b:Looks (model prog w) h (typeOf (.ref a)) (.ref C)) (c:mroIn K C (.type "object")=iB iH) (hq:R (.ok (.ret (.ref C))) ⟨h,g,d,t,os⟩):codeAny (model prog w) A (.call (.builtin "getset_descriptor.__get__") ⟨[.builtin "object.__class__",.ref a,.ref C],[]⟩) R ⟨h,g,d,t,os⟩:=by
 have L:=looks_mroIn (M:=model prog w) X c;refine codeAny_call_builtin KF.slot_gs.plain KF.entry_gs (KF.slot_gs.check _ _ _ _ _ _ _ _ ib (KF.args_gs _ _ _) ?_);unfold Builtin.«getset_descriptor.__get__» descrGet;rw [dga_obj];refine iC (iG ?_);unfold descrGetter descrCheckInstance descrNameAndClass isInstance;simp only [KF.owner_class];repeat lk
 refine ⟨Code.quiet_builtin _ (by decide +kernel),iU KF.entry_class ?_⟩;unfold Builtin.«object.__class__» shownTypeOf;repeat lk
 exact hq
theorem qbp {n:iE} {Q:Unit->iI->Prop} (X:K.In h) (e:Looks (model prog w) h (typeOf (.ref a)) (.ref C)) (c:subIn K (.ref C) (.type "BaseException")=iB iH) (hq:Q () ⟨h,g,d,t,os⟩):wpAny (model prog w) A (checkBuiltinCall "BaseException.__getattribute__" ⟨[.ref a,n],[]⟩) Q E ⟨h,g,d,t,os⟩:=by
 have k:builtinKind "BaseException.__getattribute__"=iB .slot:=by decide +kernel
 have b:splitId "BaseException.__getattribute__"=iB ("BaseException", "__getattribute__"):=by decide +kernel
 have f:=F.args_bexc_ga (.ref a) n;have L:Looks (model prog w) h (isInstance (.ref a) (.type "BaseException")) true:=e.andThen (looks_subIn X c);simp only [checkBuiltinCall,k,b];refine iC (L.at ?_);repeat (first | assumption | wp_step)
theorem qbq {tk:Tok} {Q:Fin->iI->Prop} (X:K.In h) (b:Looks (model prog w) h (typeOf (.ref a)) (.ref C)) (W:findIn K (.ref C) "__class__"=iB (iB (.builtin "object.__class__"))) (c:mroIn K C (.type "object")=iB iH) (hq:Q (.done (.ret (.ref C))) ⟨h,g,d,t,os⟩):wpAny (model prog w) A (Builtin.«object.__getattribute__» ⟨[.ref a,.str "__class__" tk],[]⟩) Q E ⟨h,g,d,t,os⟩:=by
 have L:=looks_findIn (M:=model prog w) X W;have e:(⟨h,g,d,t,os⟩:iI).TypeIs (.builtin "object.__class__") "getset_descriptor":=ib;have n:=ib;have i:=F.slot_gs_get.lookup;have f:=F.slot_gs_set.lookup;repeat (any_goals (first | assumption | with_reducible refine b.at ?_ | with_reducible refine L.at ?_ | wp_step))
 refine qfS X b c ?_;repeat (any_goals (first | assumption | wp_step))
theorem qdL {tk:Tok} (X:K.In h) (b:Looks (model prog w) h (typeOf (.ref a)) (.ref C)) (c:subIn K (.ref C) (.type "BaseException")=iB iH) (W:findIn K (.ref C) "__class__"=iB (iB (.builtin "object.__class__"))) (m:mroIn K C (.type "object")=iB iH) (hq:R (.ok (.ret (.ref C))) ⟨h,g,d,t,os⟩):codeAny (model prog w) A (.call (.builtin "BaseException.__getattribute__") ⟨[.ref a,.str "__class__" tk],[]⟩) R ⟨h,g,d,t,os⟩:=
 codeAny_call_builtin F.excAttr_ValueError.ga.plain F.entry_bexc_ga (qbp X b c (qbq X b W m hq))
theorem qhL {tk:Tok} {f e:Bool} {Q:iE->iI->Prop} (X:K.In h) (L:Looks (model prog w) h (typeOf (.ref a)) (.ref C)) (s:subIn K (.ref C) (.type "BaseException")=iB iH) (g1:findIn K (.ref C) "__getattribute__"=iB (iB (.builtin "BaseException.__getattribute__"))) (Y:findIn K (.ref C) "__getattr__"=iB iD)
  (W:findIn K (.ref C) "__class__"=iB (iB (.builtin "object.__class__"))) (m:mroIn K C (.type "object")=iB iH) (hq:Q (.ref C) ⟨h,g,d,t,os⟩) :
  wpAny (model prog w) A (getAttrBy (.ref a) (.str "__class__" tk) f e) Q E ⟨h,g,d,t,os⟩:=by
 have j:=looks_findIn (M:=model prog w) X g1;have L2:=looks_findIn (M:=model prog w) X Y;have q:=F.excAttr_ValueError.ga.bind (.ref a);have i:(e&&onTheHeap (dw "BaseException.__getattribute__"))=false:=by cases e <;> rfl
 have b:(dw "BaseException.__getattribute__" == dw "object.__getattribute__")=false:=by decide +kernel
 have c:(onTheHeap (aL C)&&dw "BaseException.__getattribute__" == dw "object.__getattribute__")=false:=by rw [b]; rfl
 repeat (any_goals (first | assumption | with_reducible refine L.at ?_ | with_reducible refine j.at ?_ | with_reducible refine L2.at ?_ | wp_step))
 refine qdL X L s W m ?_;repeat (any_goals (first | assumption | wp_step))
theorem qdM {Q:Option iE->iI->Prop} (X:K.In h) (b:Looks (model prog w) h (typeOf (.ref a)) (.ref C)) (c:subIn K (.ref C) (.type "BaseException")=iB iH) (g1:findIn K (.ref C) "__getattribute__"=iB (iB (.builtin "BaseException.__getattribute__"))) (Y:findIn K (.ref C) "__getattr__"=iB iD)
  (W:findIn K (.ref C) "__class__"=iB (iB (.builtin "object.__class__"))) (m:mroIn K C (.type "object")=iB iH) (hq:Q (iB (.ref C)) ⟨h,g,d,t+1,os⟩) :
  wpAny (model prog w) A (getAttr? (.ref a) "__class__") Q E ⟨h,g,d,t,os⟩:=by
 unfold getAttr? getAttrBy?;exact iC (wpAny_mkText (iC (iZ (qhL X b c g1 Y W m (iG hq)))))
end
noncomputable def xcB (K:Frag) (C:Addr):Bool:=decide (subIn K (.ref C) (.type "BaseException")=iB iH)&&decide (findIn K (.ref C) "__getattribute__"=iB (iB (.builtin "BaseException.__getattribute__")))&&decide (findIn K (.ref C) "__getattr__"=iB iD) &&
 decide (findIn K (.ref C) "__class__"=iB (iB (.builtin "object.__class__")))&&decide (mroIn K C (.type "object")=iB iH)&&(clsIn K C).isSome
def qdN (a C:Addr) (h:Heap):Prop:=∃ o vs,h.get? a=iB o/\o.cls=.ref C/\o.data=.fields vs
theorem qbr {a C:Addr} (b:xcB K C=iH):KitX K (.ref a) (.ref C) (qdN a C):=by
 unfold xcB at b;simp only [aK,decide_eq_true_eq] at b;obtain ⟨⟨⟨⟨⟨u,z⟩,r⟩,o⟩,f⟩,j⟩:=b;have ty:∀ (M:Model) (h:Heap),qdN a C h->Looks M h (typeOf (.ref a)) (.ref C):=λM h ⟨v,vs,e1,i,y⟩=>by rw [<-i]; exact (Looks.ld e1).andThen .now
 refine ⟨λM h _ x=>ty M h x,λM h X _=>?_,λh p dd its n sl X l=>?_,λ{prog w A E Q s} X x hq=>?_⟩
 ·unfold clsIn at j;split at j;·rename_i T d' e c m;intro G B D s' k q;unfold isType loadHead;exact iC (wpAny_loadPart (k _ _ (X _ _ m)) (iG q))
  ·cases j
 ·refine Bool.eq_false_iff.mpr λq=>?_;have q:aL C=aL p:=beq_iff_eq.mp q;cases q;unfold clsIn at j;split at j;·rename_i T d' e c m;rw [X _ _ m] at l;cases l
  ·cases j
 ·obtain ⟨h,g,d,t,os⟩:=s;exact qdM X (ty _ h x) u z r o f hq
noncomputable def Kh (ans:Addr->Option Bool):D->Out D
 | .xcp C=>match ans C with
  | some b=>.ok (.bl b)
  | none=>.bad
 | _=>.bad
section
variable {X:Cx} {C:Ct} {own:List Nat} {a:Expr} {fa:Sl->Out (D×Sl)} {ma:Mo} {pos:Pos} {cls:iE} {vc:V} {ans:Addr->Option Bool}
theorem UQ (g:∀ Cc b,ans Cc=iB b->xcB X.K Cc=iH/\kitOne X.K (.ref Cc) cls=iB b) (j:RelV vc cls):uh X (.builtin "isinstance") (λxs H Q=>∃ x F d,xs=[x,vc]/\Same F H/\TopIs C.K F H x d/\PoV C .sh F H (Kh ans d) Q):=by
 intro pins s σ H xs us Q I r h;obtain ⟨x,F,d,rfl,y,f,po⟩:=h;obtain ⟨u,c,rfl,A,a⟩:=Zf r;cases d with
 | xcp Cc=>
  unfold Kh at po;cases q:ans Cc with
  | none=>simp only [q] at po; exact po.elim
  | some b=>
   simp only [q] at po;obtain ⟨h1,h2⟩:=g Cc b q;rcases f with f | ⟨_,_,f⟩
   ·cases f with
    | @xcp ad _ hF=>
     cases A;have hx:qdN ad Cc s.heap:=(show ObjOk X.prog X.w H s.heap ad (We ad Cc) from I.hok ad _ (y _ _ hF)).1;have e:cls=c:=by
      cases vc with
      | ref z=>exact (show cls=aL z from j).trans (show c=aL z from a).symm
      | ty z=>exact (show cls=dI z from j).trans (show c=dI z from a).symm
      | non=>exact (show cls=bD from j).trans (show c=bD from a).symm
      | bl z=>exact (show cls=aY z from j).trans (show c=aY z from a).symm
      | int z=>obtain ⟨t,rfl⟩:=j; unfold kitOne kitCls at h2; simp at h2
      | str z=>obtain ⟨t,rfl⟩:=j; unfold kitOne kitCls at h2; simp at h2
      | byt z=>obtain ⟨t,rfl⟩:=j; unfold kitOne kitCls at h2; simp at h2
      | flt z=>obtain ⟨t,rfl⟩:=j; unfold kitOne kitCls at h2; simp at h2
     subst e;exact kia_one (qbr h1) I.kIn hx h2 (λz=>nomatch z) λtk=>⟨.bl b,H,I.tok tk,rfl,po _ F H y .refl (.bl b)⟩
   ·exact f.elim
 | _=>exact po.elim
theorem UR {σ:St} {H:Hp} {Q:VK} (h:tE C own .sh (d1 (Kh ans) fa) σ H Q):YX (tE C own ma fa) (YX (tC vc) qgP) σ H λxs H1=>∃ x F d,xs=[x,vc]/\Same F H1/\TopIs C.K F H1 x d/\PoV C .sh F H1 (Kh ans d) Q:=by
 obtain ⟨F,ρ,r,h⟩:=Wf (ma:=ma) h;refine ⟨F,ρ,r,?_⟩;cases q:fa ρ with
 | ok p=>rw [q] at h;obtain ⟨d,ρ1⟩:=p;intro v F1 H1 a k m;obtain ⟨b,dx,z⟩:=h v F1 H1 a k m;exact ⟨v,b,dx,rfl,z⟩
 | exc c=>rw [q] at h; exact h
 | bad=>rw [q] at h; exact h.elim
theorem xa {cn:Str} {Ct:Addr} {p t:Pos} (hg:Gl X "isinstance") (m:X.mg "isinstance"=iD) (d:bootBuiltins "isinstance"=iB (.builtin "isinstance")) (l:Gl X cn) (e:X.mg cn=iB (.ref Ct)) (g:∀ Cc b,ans Cc=iB b->xcB X.K Cc=iH/\kitOne X.K (.ref Cc) (.ref Ct)=iB b) (f:PE X a (tE C own ma fa)) (c:(cn == ("__debug__":Str))=false:=by decide)
  (h1:starEach [a,.Name cn t] X.env=(iF,eval a X.env)::starEach [.Name cn t] X.env:=by rfl) (h2:starEach [.Name cn t] X.env=[(iF,eval (.Name cn t) X.env)]:=by rfl):PE X (.Call (.Name "isinstance" p) [a,.Name cn t] [] pos) (tE C own .sh (d1 (Kh ans) fa)):=
 jG (wF (UQ (vc:=.ref Ct) g rfl) hg m d (qO f (qO (XW (v:=.ref Ct) l e rfl c) jE h2) h1) (by decide) (by decide) (by rw [h1]) (by rw [h2]; rfl)) λσ H Q h=>UR h
theorem qdO {cn:Str} {T:String} {p t:Pos} (hg:Gl X "isinstance") (m:X.mg "isinstance"=iD) (f:bootBuiltins "isinstance"=iB (.builtin "isinstance")) (l:Gl X cn) (e:X.mg cn=iD) (c:bootBuiltins cn=iB (.type T)) (g:∀ Cc b,ans Cc=iB b->xcB X.K Cc=iH/\kitOne X.K (.ref Cc) (.type T)=iB b) (i:PE X a (tE C own ma fa)) (n:cn ≠ "__name__":=by decide) (d:(cn == ("__debug__":Str))=false:=by decide)
  (h1:starEach [a,.Name cn t] X.env=(iF,eval a X.env)::starEach [.Name cn t] X.env:=by rfl) (h2:starEach [.Name cn t] X.env=[(iF,eval (.Name cn t) X.env)]:=by rfl):PE X (.Call (.Name "isinstance" p) [a,.Name cn t] [] pos) (tE C own .sh (d1 (Kh ans) fa)):=
 jG (wF (UQ (vc:=.ty T) g rfl) hg m f (qO i (qO (XX (v:=.ty T) l e c rfl n d) jE h2) h1) (by decide) (by decide) (by rw [h1]) (by rw [h2]; rfl)) λσ H Q h=>UR h
end
end L2.D2
namespace L2.D2
open PySem PySem.Spec PyProof.Rows
variable {P:iJ} {w:iK} {K:Frag} {N:List Str} {A:iP} {C:Ct}
theorem QF {mg:Str->Option iE} {base:Heap} {qual:Str} {scope:lc} {f:Addr} {cd:iE} {outer:List Env} {s0:iI} {H0:Hp} {E:XK} (h:C.E=E):ZS (cxk P w K mg base N qual scope f cd A outer s0 H0 E) C:=by subst h;exact qfM
theorem RoomQ.mono {j k:Nat} (r:RoomQ k A) (h:j<=k):RoomQ j A:=⟨by have:=r.dp; omega,by have:=r.un; omega⟩
noncomputable def qfT (ca:Str->Addr) (cs:List Str) (c:Str):Option Addr:=if c∈cs then iB (ca c) else iD
noncomputable def Xm (ca:Str->Addr) (cs:List Str) (x:Str) (C:Addr):Option Bool:=if C∈cs.map ca then iB (decide (C=ca x)) else iD
noncomputable def qfU (ca:Str->Addr) (cs:List Str) (C:Addr):Option Bool:=if C∈cs.map ca then iB iH else iD
structure Xs (K:Frag) (cv:Str->iE) (ca:Str->Addr) (cs:List Str) (top:Str):Prop where
 val:∀ c∈cs,cv c=.ref (ca c)
 own:∀ c∈cs,dO K (.ref (ca c)) (cv top)=iB iH
 cls:∀ c∈cs,xcB K (ca c)=iH
 kit:∀ c∈cs,∀ d∈cs,bW K (.ref (ca c)) (.ref (ca d))=iB (decide (ca c=ca d))
 ve:∀ c∈cs,bW K (.ref (ca c)) (.type "ValueError")=iB iH
variable {x:Str}
section
variable {cv:Str->iE} {ca:Str->Addr} {cs:List Str} {top:Str}
theorem Xs.hit (z:Xs K cv ca cs top):∀ c Cc,qfT ca cs c=iB Cc->cv c=.ref Cc/\dO K (.ref Cc) (cv top)=iB true:=λc Cc h=>by
 unfold qfT at h;split at h;·cases h;exact ⟨z.val c (by assumption),z.own c (by assumption)⟩
 ·cases h
theorem Xs.ans (z:Xs K cv ca cs top) (hx:x∈cs):∀ Cc b,Xm ca cs x Cc=iB b->xcB K Cc=iH/\bW K (.ref Cc) (.ref (ca x))=iB b:=λCc b h=>by
 unfold Xm at h;split at h;·rename_i m;obtain ⟨c,d,rfl⟩:=aw.mp m;cases h;exact ⟨z.cls c d,z.kit c d x hx⟩
 ·cases h
theorem Xs.ansV (z:Xs K cv ca cs top):∀ Cc b,qfU ca cs Cc=iB b->xcB K Cc=iH/\bW K (.ref Cc) (.type "ValueError")=iB b:=λCc b h=>by
 unfold qfU at h;split at h;·rename_i m;obtain ⟨c,d,rfl⟩:=aw.mp m;cases h;exact ⟨z.cls c d,z.ve c d⟩
 ·cases h
end
inductive SK where
 | l | t
noncomputable def SK.itc:SK->String
 | .l => "list_iterator"
 | .t => "tuple_iterator"
def SeqK (h:Heap) (a:Addr):SK->Array iE->Prop
 | .l,xs=>h.IsList a xs
 | .t,xs=>h.IsTuple a xs
def ItK (h:Heap) (it a:Addr):SK->Nat->Prop
 | .l,i=>h.IsListIter it a i
 | .t,i=>h.IsTupleIter it a i
def SqK (K:Frag) (H:Hp) (a:Addr):SK->List V->Prop
 | .l,xs=>SqL K H a xs
 | .t,xs=>SqT K H a xs
variable {h h':Heap} {a:Addr} {xs:Array iE}
theorem SeqK.at:∀ {k:SK},SeqK h a k xs->(∀ o,h.get? a=iB o->h'.get? a=iB o)->SeqK h' a k xs
 | .l,⟨o,e,c⟩,k=>⟨o,k _ e,c⟩
 | .t,⟨o,e,c⟩,k=>⟨o,k _ e,c⟩
theorem SeqK.lt:∀ {k:SK},SeqK h a k xs->a < h.objs.size
 | .l,⟨o,e,c⟩=>aq e
 | .t,⟨o,e,c⟩=>aq e
variable {it:Addr} {i:Nat}
theorem ItK.obj:∀ {k:SK},ItK h it a k i->∃ o,h.get? it=iB o/\o.cls=.type k.itc/\o.data=.fields #[.ref a,.int i 0]
 | .l,⟨o,e,c,d⟩=>⟨o,e,c,d⟩
 | .t,⟨o,e,c,d⟩=>⟨o,e,c,d⟩
theorem ItK.of:∀ {k:SK},(∃ o,h.get? it=iB o/\o.cls=.type k.itc/\o.data=.fields #[.ref a,.int i 0])->ItK h it a k i
 | .l,⟨o,e,c,d⟩=>⟨o,e,c,d⟩
 | .t,⟨o,e,c,d⟩=>⟨o,e,c,d⟩
variable {E:iE->iI->Prop} {prog:iJ} {s:iI} {Q:Option iE->iI->Prop} {l:Addr} {items:Array iE} {o:Obj} {n:Nat}
section
theorem qbs {k:SK} {Q:iE->iI->Prop} (h:SeqK s.heap a k xs) (c:Q (.ref s.heap.objs.size) { s with heap:=s.heap.push { cls:=.type k.itc,data:=.fields #[.ref a,.int 0 0] } }):wpAny (model prog w) A (pyIter (.ref a)) Q E s:=by
 cases k with
 | l=>exact lg h c
 | t=>exact wpAny_pyIter_tuple h c
noncomputable def SK.cl:SK->String
 | .l => "list"
 | .t => "tuple"
theorem ZY {k:SK} (a:A.handled=iD) (hi:ItK s.heap it l k i) (hl:SeqK s.heap l k items) (hx:items[i]?=iD) (c:∀ h',h8 it s.heap h'->Q iD { s with heap:=h' }):wpAny (model prog w) A (pyNext (.ref it)) Q E s:=by
 cases k with
 | l=>exact wpAny_pyNext_list_end a hi hl hx c
 | t=>exact wpAny_pyNext_tuple_end a hi hl hx c
theorem Xn {k:SK} {x:iE} (hi:ItK s.heap it l k i) (hl:SeqK s.heap l k items) (hx:items[i]?=iB x) (c:∀ h',ItK h' it l k (i+1)->bt it s.heap h'->Q (iB x) { s with heap:=h' }):wpAny (model prog w) A (pyNext (.ref it)) Q E s:=by
 cases k with
 | l=>exact wpAny_pyNext_list_item hi hl hx c
 | t=>exact wpAny_pyNext_tuple_item hi hl hx c
theorem SeqK.of (e:h.get? a=iB o) (d:o.data=.seq xs n):∀ {k:SK},o.cls=.type k.cl->SeqK h a k xs
 | .l,c=>⟨o,e,c,n,d⟩
 | .t,c=>⟨o,e,c,n,d⟩
end
variable {sk:SK}
section
theorem Xo:typeLookup (.type "tuple") "keys"=pure none:=by rw [k8,i4]; kernel_rfl
theorem Qn {k:Nat} {Q:Option iE->iI->Prop} (n:A.handled=iD) (hx:s.heap.get? a=iB o) (l:o.cls=.type "tuple") (t:o.data=.seq xs k) (hd:o.dict=iD)
  (h:∀ h' tk,(∀ b j,s.heap.get? b=iB j->h'.get? b=iB j)->Q iD { s with heap:=h',toks:=tk }):wpAny (model prog w) A (getAttr? (.ref a) "keys") Q E s:=by
 obtain ⟨c,dct,dat,sl⟩:=o;simp only at l t hd;subst l t hd;obtain ⟨hp,g,d,tk,os⟩:=s;have hT:∀ f,(⟨hp,g,d,f,os⟩:iI).TypeIs (.ref a) "tuple":=λ_=>⟨_,hx,rfl⟩
 have f1:=sub_AttributeError;have u:=dU.lookup;have f4:=dU.bind (.ref a);have r:=am_tuple_getattr_none;have p:=Xo;have m:(["__module__", "__name__", "__qualname__", "__doc__", "__annotations__"]:List Str).contains ("keys":Str)=false:=by decide +kernel
 have hsz:("keys":Str).length+100<=sizeLine:=by rw [iL]; decide +kernel
 unfold getAttr? getAttrBy?;refine iC (wpAny_mkText (iC (iZ ?_)));unfold getAttrBy;repeat (any_goals (first | assumption | exact hT _ | ((with_reducible show wpAny _ _ (call (dw "tuple.__getattribute__") _ _) _ _ _); refine la dU (hT _) am_entry_tuple_getattribute (F.args_tuple_getattribute_2 _ _) (meets_getattribute_miss_tuple a xs k sl "keys" _ p m hsz) ⟨hx,n,λh' f e i=>?_⟩) | wp_step))
 obtain ⟨t',V,q⟩:=i.there;show wpAny _ _ (getattributeRaised _ _ _ _ _ _ _) _ _ _;unfold getattributeRaised;repeat (any_goals (first | assumption | wp_step))
 exact h h' f i.keeps
theorem Xp:typeLookup (.type "list") "keys"=pure none:=by rw [k8,i4]; kernel_rfl
theorem gm {k:Nat} {Q:Option iE->iI->Prop} (n:A.handled=iD) (hx:s.heap.get? a=iB o) (l:o.cls=.type "list") (t:o.data=.seq xs k) (hd:o.dict=iD)
  (h:∀ h' tk,(∀ b j,s.heap.get? b=iB j->h'.get? b=iB j)->Q iD { s with heap:=h',toks:=tk }):wpAny (model prog w) A (getAttr? (.ref a) "keys") Q E s:=by
 obtain ⟨c,dct,dat,sl⟩:=o;simp only at l t hd;subst l t hd;obtain ⟨hp,g,d,tk,os⟩:=s;have hT:∀ f,(⟨hp,g,d,f,os⟩:iI).TypeIs (.ref a) "list":=λ_=>⟨_,hx,rfl⟩
 have f1:=sub_AttributeError;have u:=d5.lookup;have f4:=d5.bind (.ref a);have r:=am_list_getattr_none;have p:=Xp;have m:(["__module__", "__name__", "__qualname__", "__doc__", "__annotations__"]:List Str).contains ("keys":Str)=false:=by decide +kernel
 have hsz:("keys":Str).length+100<=sizeLine:=by rw [iL]; decide +kernel
 unfold getAttr? getAttrBy?;refine iC (wpAny_mkText (iC (iZ ?_)));unfold getAttrBy;repeat (any_goals (first | assumption | exact hT _ | ((with_reducible show wpAny _ _ (call (dw "list.__getattribute__") _ _) _ _ _); refine la d5 (hT _) am_entry_list_getattribute (F.args_list_getattribute_2 _ _) (meets_getattribute_miss_list a xs k sl "keys" _ p m hsz) ⟨hx,n,λh' f e i=>?_⟩) | wp_step))
 obtain ⟨t',V,q⟩:=i.there;show wpAny _ _ (getattributeRaised _ _ _ _ _ _ _) _ _ _;unfold getattributeRaised;repeat (any_goals (first | assumption | wp_step))
 exact h h' f i.keeps
theorem za:entryFor table "dict.update.loop"=iB Builtin.«dict.update.loop»:=entryFor_of_tree (by kernel_rfl)
theorem kA:plainId "dict.update.loop"=true:=by decide +kernel
def ZZ (h:Heap) (v key val:iE):Prop:=∃ p o n,v=.ref p/\h.get? p=iB o/\o.cls=.type "tuple"/\o.data=.seq #[key,val] n
theorem qbt {sk:SK} {R:lJ->iI->Prop} {d t:Addr} (hh:A.in1.handled=iD) (S:d≠t) (u:d≠it) (N:t≠it):∀ (n i:Nat) (s:iI) (kvs:List (Key×iE)) (ps:List (Key×iE×iE)),items.size - i=n->i<=items.size ->ItK s.heap it t sk i->SeqK s.heap t sk items->s.heap.DictOf (ja prog w) d kvs->ps.length=n->(∀ j p,ps[j]?=iB p->∃ v,items[i+j]?=iB v/\zT p.1 p.2.1=iH/\ZZ s.heap v p.2.1 p.2.2)->kvs.length+n<=sizeLine ->(∀ h' tk,h'.DictOf (ja prog w) d (ps.foldl (λl p=>stored l p.1 p.2.2) kvs)->(∀ b o,b≠d->b≠it->s.heap.get? b=iB o->h'.get? b=iB o)->R (.ok (.ret .none)) { s with heap:=h',toks:=tk }) ->codeAny (model prog w) A (.builtin "dict.update.loop" ⟨[.ref d,.ref it,rawInt i,.none],[]⟩) R s:=by
 intro n
 induction n with
 | zero=>intro i s kvs ps hn hi st H hd hl hp hz W;have e:ps=[]:=ej.mp hl;subst e;refine iU za ?_;rw [bq kA _];show wpAny _ A.in1 (pyNext (.ref it) >>= _) _ _ s;refine iC (ZY hh st H (by simp; omega) λh' Z=>?_);show wpAny _ A.in1 (ret bD) _ _ _;refine iG (W h' s.toks ?_ λb o _ h2 e=>Z b o h2 e);obtain ⟨o,es,ep,D,r⟩:=hd;exact ⟨o,es,ep,Z d o u D,r⟩
 | succ n ih=>
  intro i s kvs ps hn hi st H hd hl hp hz W;cases ps with
  | nil=>simp at hl
  | cons p ps=>
   obtain ⟨v,hv,hk,q,X,nq,rfl,hq,P,c⟩:=hp 0 p rfl;obtain ⟨od,es,ep,g,hdx,a⟩:=id hd;have nqd:q≠d:=λz=>by subst z;rw [hq] at g; cases g;rw [a.1] at c; cases c
   obtain ⟨oi,f,hic,E⟩:=st.obj;have K:q≠it:=λz=>by subst z;rw [hq] at f; cases f;rw [E] at c; cases c
   refine iU za ?_;rw [bq kA _];show wpAny _ A.in1 (pyNext (.ref it) >>= _) _ _ s;refine iC (Xn st H (x:=.ref q) (by simpa using hv) λh' I G=>?_);have C:h'.get? q=iB X:=(G.2 q K).trans hq;have V:fX { s with heap:=h' } (.ref q) "tuple":=⟨X,C,P⟩
   have U:h'.DictOf (ja prog w) d kvs:=by obtain ⟨o,es,ep,D,r⟩:=hd;exact ⟨o,es,ep,(G.2 d u).trans D,r⟩
   have O:SeqK h' t sk items:=H.at λo D=>(G.2 t N).trans D;dsimp only;refine iC (iR (iC ?_));refine wpAny_tryCatch ?_;unfold Builtin.Dict.pairItems;refine iC (k7 V ?_);rw [if_pos (by decide)];refine iC (iS C c (iG ?_));show wpAny _ A.in1 (holding [p.2.1,p.2.2] (dictSet d p.2.1 p.2.2)) _ _ _;refine iR (wpAny_dictSet_pairs (knd:=ja prog w) hk U (λh2 hd2 k=>?_) (by omega));have keep:∀ b o,b≠d->b≠it->s.heap.get? b=iB o->h2.get? b=iB o:=λb o n1 n2 e=>(k.2 b n1).trans ((G.2 b n2).trans e);have Y:(stored kvs p.1 p.2.2).length<=kvs.length+1:=by unfold stored;split <;> simp
   refine iG ⟨j8 kA _,?_⟩;have ec:rawInt ((i:Int)+1)=rawInt ((i+1:Nat):Int):=by push_cast; rfl
   rw [ec];refine ih (i+1) _ (stored kvs p.1 p.2.2) ps (by omega) (by omega) ?_ ?_ hd2 (by simpa using hl) (λj F e=>?_) (by omega) λh3 tk T k3=>?_;·obtain ⟨o,e,r⟩:=I.obj;exact .of ⟨o,(k.2 it (ba u)).trans e,r⟩
   ·exact O.at λo e=>(k.2 t (ba S)).trans e
   ·obtain ⟨v',M,Q,J,y,L,rfl,m,B,h⟩:=hp (j+1) F (by simpa using e);refine ⟨.ref J,by rw [show i+1+j=i+(j+1) by omega]; exact M,Q,J,y,L,rfl,keep J y (λz=>?_) (λz=>?_) m,B,h⟩;·subst z;rw [m] at g; cases g;rw [a.1] at h; cases h
    ·subst z;rw [m] at f; cases f;rw [E] at h; cases h
   ·exact W h3 tk T λb o n1 n2 e=>k3 b o n1 n2 (keep b o n1 n2 e)
theorem gn {t:Addr} {ps:List (Key×iE×iE)} {Q:iE->iI->Prop} (J:A.handled=iD) {m:Obj} {nt:Nat} (z:s.heap.get? t=iB m) (d:m.cls=.type sk.cl) (n:m.dict=iD) (f:m.data=.seq items nt)
  (hl:ps.length=items.size) (hp:∀ (j:Nat) (p:Key×iE×iE),ps[j]?=iB p->∃ v,items[j]?=iB v/\zT p.1 p.2.1=iH/\ZZ s.heap v p.2.1 p.2.2) (hz:items.size<=sizeLine)
  (h:∀ h' tk,h'.DictOf (ja prog w) s.heap.objs.size (ps.foldl (λl p=>stored l p.1 p.2.2) [])->(∀ b o,s.heap.get? b=iB o->h'.get? b=iB o)->Q (.ref s.heap.objs.size) { s with heap:=h',toks:=tk }) :
  wpAny (model prog w) A (call (.type "dict") [.ref t]) Q E s:=by
 refine callType_codes (Q₁:=λobj k=>obj=.ref s.heap.objs.size/\k={ s with heap:=s.heap.push { cls:=.type "dict",data:=.dict #[] } }) F.kt_called_dict (F.kt_typeCall_dict_1 _) F.entry_dict_init (kt_code_dict_new _ ⟨rfl,rfl⟩) ?_;rintro obj k ⟨rfl,rfl⟩;have i:(s.heap.push { cls:=.type "dict",data:=.dict #[] }).DictOf (ja prog w) s.heap.objs.size []:=Heap.DictOf.new s.heap;refine ⟨i.typeIs,F.args_dict_init_2 _ _,?_⟩;unfold Builtin.«dict.__init__»;refine iC ?_;unfold Builtin.Dict.selfAndRest;refine iC (wpAny_notOrdered_dict i.typeIs ?_);show wpAny _ _ (pure (s.heap.objs.size,[aL t])) _ _ _;refine iG ?_;show wpAny _ _ (Builtin.Dict.updateFrom "dict.__init__" s.heap.objs.size (.ref t) [] .none) _ _ _;unfold Builtin.Dict.updateFrom;have g:(s.heap.push { cls:=.type "dict",data:=.dict #[] }).get? t=iB m:=aa _ z;have C:t < s.heap.objs.size:=aq z;refine iC (k7 (T:=sk.cl) ⟨m,g,d⟩ ?_);rw [if_pos (by cases sk <;> decide)];have P:∀ {L:Option iE->iI->Prop} {A1:iP} {R:iE->iI->Prop} {s1:iI},A1.handled=iD->s1.heap.get? t=iB m->(∀ h' tk,(∀ b I,s1.heap.get? b=iB I->h'.get? b=iB I)->L iD { s1 with heap:=h',toks:=tk })->wpAny (model prog w) A1 (getAttr? (.ref t) "keys") L R s1:=λa b c=>by
  cases sk with
  | l=>exact gm a b d f n c
  | t=>exact Qn a b d f n c
 refine iC (P (by exact J) g λh1 H k1=>?_);rw [if_pos (show (iD:Option iE).isNone=iH from rfl)];refine iC (j7 ?_);have y:h1.get? t=iB m:=k1 _ _ g;have D:h1.DictOf (ja prog w) s.heap.objs.size []:=by obtain ⟨o,es,ep,B,r⟩:=i;exact ⟨o,es,ep,k1 _ _ B,r⟩
 have x:SeqK h1 t sk items:=.of y f d;refine iC (qbs (s:={ s with heap:=h1,toks:=H }) x ?_);have u:s.heap.objs.size < h1.objs.size:=let ⟨o,es,ep,B,r⟩:=D; aq B;have up:∀ b o,s.heap.get? b=iB o->(h1.push { cls:=.type sk.itc,data:=.fields #[.ref t,.int 0 0] }).get? b=iB o:=λb o e=>aa _ (k1 _ _ (aa _ e));refine iG ⟨j8 kA _,?_⟩;refine qbt (items:=items) (t:=t) (A:=A.in1) (show A.in1.in1.handled=iD from J) (cT C) (aC u) (aC (eU C u)) items.size 0 _ [] ps (by omega) (bi _) (.of ⟨_,af _ rfl,rfl,rfl⟩) ?_ ?_ hl (λj p e=>?_) (by simpa using hz) λh2 G hd2 k2=>⟨rfl,h h2 G hd2 λb o e=>?_⟩
 ·exact .of (aa _ y) f d
 ·obtain ⟨o,es,ep,B,r⟩:=D;exact ⟨o,es,ep,aa _ B,r⟩
 ·obtain ⟨v,N,O,q,X,M,rfl,hq,r⟩:=hp j p e;exact ⟨.ref q,by simpa using N,O,q,X,M,rfl,up q X hq,r⟩
 ·have K:=aq e;exact k2 b o (aC K) (aC (eU K u)) (up b o e)
end
noncomputable def VU:D->Option Key
 | .int i=>iB (.inl i)
 | .str x=>iB (.inr x)
 | _=>iD
noncomputable def ww (kvs:List (Key×D)) (k:Key) (d:D):List (Key×D):=if kvs.any (λp=>decide (p.1=k)) then kvs.map λp=>if p.1=k then (p.1,d) else p else kvs++[(k,d)]
noncomputable def qbu:D->Option (Key×D)
 | .tup [k,v]=>(VU k).map λk=>(k,v)
 | _=>iD
noncomputable def uu:List D->Option (List (Key×D))
 | []=>iB []
 | d::ds=>match qbu d,uu ds with
  | some p,iB ps=>iB (p::ps)
  | _,_=>iD
noncomputable def qbv:D->Out D
 | .tup ds=>match uu ds with
  | some ps=>.ok (.dct (ps.foldl (λl p=>ww l p.1 p.2) []))
  | none=>.bad
 | _=>.bad
noncomputable def qfV (d:D):Out D:=(Ql d).bind λds=>match uu ds with
 | some ps=>.ok (.dct (ps.foldl (λl p=>ww l p.1 p.2) []))
 | none=>.bad
variable {d:D} {F H:Hp} {v:V} {ds:List D}
theorem US (y:Same F H) (h:TopIs K F H v d) (e:Ql d=.ok ds):∃ a k xs,v=.ref a/\SqK K H a k xs/\IsL K F xs ds:=by
 cases d with
 | lst es=>cases e; obtain ⟨a,xs,rfl,q,t⟩:=h.lst y; exact ⟨a,.l,xs,rfl,q,t⟩
 | tup es=>cases e; obtain ⟨a,xs,rfl,q,t⟩:=h.tup y; exact ⟨a,.t,xs,rfl,q,t⟩
 | _=>cases e
theorem IsK.any {k:Key}:∀ {kv:List (Key×V)} {ks:List (Key×D)},IsK K F kv ks->(kv.any λp=>decide (p.1=k))=(ks.any λp=>decide (p.1=k))
 | _,_,.nil=>rfl
 | _,_,.cons h t=>by rw [cI,cI,IsK.any t]
theorem IsK.repl {k:Key} (i:Is K F v d):∀ {kv:List (Key×V)} {ks:List (Key×D)},IsK K F kv ks->IsK K F (kv.map λp=>if p.1=k then (p.1,v) else p) (ks.map λp=>if p.1=k then (p.1,d) else p)
 | _,_,.nil=>.nil
 | _,_,.cons (k:=k') h t=>by
  rw [aF,aF];by_cases e:k'=k;·simp only [e,if_true]; exact .cons i (IsK.repl i t)
  ·simp only [e,if_false]; exact .cons h (IsK.repl i t)
theorem IsK.snoc {k:Key} (i:Is K F v d):∀ {kv:List (Key×V)} {ks:List (Key×D)},IsK K F kv ks->IsK K F (kv++[(k,v)]) (ks++[(k,d)])
 | _,_,.nil=>.cons i .nil
 | _,_,.cons h t=>.cons h (IsK.snoc i t)
variable {kv:List (Key×V)}
theorem IsK.put {k:Key} {ks:List (Key×D)} (h:IsK K F kv ks) (i:Is K F v d):IsK K F (Qi kv k v) (ww ks k d):=by
 unfold Qi ww;rw [h.any];by_cases e:(ks.any λp=>decide (p.1=k))=iH;·rw [if_pos e,if_pos e]; exact IsK.repl i h
 ·rw [if_neg e,if_neg e]; exact IsK.snoc i h
theorem UT:∀ {pv:List (Key×V)} {ps:List (Key×D)} {kv:List (Key×V)} {ks:List (Key×D)},IsK K F pv ps->IsK K F kv ks->IsK K F (pv.foldl (λl p=>Qi l p.1 p.2) kv) (ps.foldl (λl p=>ww l p.1 p.2) ks)
 | _,_,_,_,.nil,h=>h
 | _,_,_,_,.cons i t,h=>by rw [bF,bF];exact UT t (h.put i)
def qiv (p:Key×V) (q:Key×iE×iE):Prop:=p.1=q.1/\RelV p.2 q.2.2
theorem Ga:∀ {pv:List (Key×V)} {tr:List (Key×iE×iE)} {kv:List (Key×V)} {vs:List (Key×iE)},lI qiv pv tr->KV kv vs->KV (pv.foldl (λl p=>Qi l p.1 p.2) kv) (tr.foldl (λl p=>stored l p.1 p.2.2) vs)
 | _,_,_,_,.nil,h=>h
 | _,_,_,_,.cons r t,h=>by rw [bF,bF];refine Ga t ?_;rw [r.1];exact h.put _ r.2
theorem UU:∀ {pv:List (Key×V)} {kv:List (Key×V)},(pv.foldl (λl p=>Qi l p.1 p.2) kv).length<=kv.length+pv.length
 | [],kv=>ax _
 | p::pv,kv=>by have h1:=@UU pv (Qi kv p.1 p.2);have h2:=yw kv p.1 p.2;rw [bF,ao];omega
variable {X:Cx} {pins:List (Addr×Obj)} {σ:St} {u:iE} {vs:List V}
section
theorem zY {k:Key} (i:Is C.K F v d) (r:RelV v u) (e:VU d=iB k):zT k u=true:=by
 cases d with
 | int z=>cases i; cases e; obtain ⟨t,rfl⟩:=r; exact Kl z t
 | str z=>cases i; cases e; obtain ⟨t,rfl⟩:=r; exact Km z t
 | _=>cases e
theorem UV (m:C.K=X.K) (I:Inv X pins σ H s) (y:Same F H):∀ {vs:List V} {us:List iE} {ds:List D} {ps:List (Key×D)},IsL C.K F vs ds->Vals vs us->uu ds=iB ps ->∃ (pv:List (Key×V)) (tr:List (Key×iE×iE)),IsK C.K F pv ps/\lI qiv pv tr/\tr.length=us.length/\pv.length=us.length/\∀ (j:Nat) (p:Key×iE×iE),tr[j]?=iB p->∃ v,us[j]?=iB v/\zT p.1 p.2.1=iH/\ZZ s.heap v p.2.1 p.2.2
 | _,_,_,_,.nil,.nil,e=>by cases e; exact ⟨[],[],.nil,.nil,rfl,rfl,λj p e=>by simp at e⟩
 | _,_,_,_,.cons (d:=d) (ds:=ds) i t,.cons (b:=u) r rs,e=>by
  unfold uu at e;cases q:qbu d with
  | none=>rw [q] at e; cases e
  | some kd=>
   cases c:uu ds with
   | none=>rw [q,c] at e; cases e
   | some rest=>
    rw [q,c] at e;cases e;obtain ⟨pv,tr,h1,h2,h3,h,x⟩:=UV m I y t rs c;unfold qbu at q;split at q
    ·rename_i A z;obtain ⟨k,l,rfl⟩:=aS.mp q;cases i with
     | @tup a xs _ hq il=>
      cases il with
      | @cons xk _ xr _ ik il2=>
       cases il2 with
       | @cons xv _ xr2 _ iv il3=>
        cases il3;cases r;obtain ⟨its,f,⟨o,g,w,n,hd⟩,_⟩:=I.tuple (show SqT X.K H a [xk,xv] by rw [<-m]; exact qV y hq);cases f with
        | @cons _ uk _ _ rk rv2=>
         cases rv2 with
         | @cons _ uv _ _ rv3 rv4=>
          cases rv4;refine ⟨(k,xv)::pv,(k,uk,uv)::tr,.cons iv h1,.cons ⟨rfl,rv3⟩ h2,by simp [h3],by simp [h],λj p e=>?_⟩;cases j with
          | zero=>simp at e;subst e;exact ⟨_,rfl,zY ik rk l,a,o,n,rfl,g,w,hd⟩
          | succ j=>simpa using x j p (by simpa using e)
    ·cases q
theorem qcx (I:Inv X pins σ H s):∀ {k:SK},SqK X.K H a k vs->∃ its o n,Vals vs its/\s.heap.get? a=iB o/\o.cls=.type k.cl/\o.dict=iD/\o.data=.seq its.toArray n/\vs.length<=sizeLine
 | .l,h=>let ⟨its,r,⟨o,n,m,c,b,hd⟩,hz⟩:=I.list h; ⟨its,o,n,r,m,c,b,hd,hz⟩
 | .t,h=>by obtain ⟨its,r,⟨o,m,c,n,hd⟩,hz⟩:=I.tuple h;obtain ⟨o2,d,b⟩:=I.tupleN h;rw [m] at d; cases d;exact ⟨its,o,n,r,m,c,b,hd,hz⟩
theorem UW (m:C.K=X.K) (B:X.calm=iH):zr X C .fr (.type "dict") qfV:=by
  intro pins s σ H xs us Q I r h;obtain ⟨x,F,dx,rfl,y,w,po⟩:=h;unfold qfV at po;cases e:Ql dx with
  | bad=>rw [e] at po; exact po.elim
  | exc c o=>cases dx <;> cases e
  | ok ds=>
   rw [e] at po;have po:PoV C .fr F H (match uu ds with | some ps=>.ok (.dct (ps.foldl (λl p=>ww l p.1 p.2) [])) | none=>.bad) Q:=po;cases q:uu ds with
   | none=>simp only [q] at po; exact po.elim
   | some ps=>
    simp only [q] at po;obtain ⟨a,sk,vs,rfl,hq,t⟩:=US y w e;obtain ⟨u,rfl,A⟩:=yv r;cases A;rw [m] at hq;obtain ⟨its,o,n,i,z,g,d,hd,hz⟩:=qcx I hq;obtain ⟨pv,tr,h1,h2,h3,G,D⟩:=UV m I y t i q;have k:=i.length;refine gn (ps:=tr) (I.ok.hd B) z g d hd (by simp [h3]) (λj p e=>?_) (by simp; omega) λh' tk f kp=>?_;· obtain ⟨v,e1,J⟩:=D j p e;exact ⟨v,by simpa using e1,J⟩
    · have hp:H s.heap.objs.size=none:=I.hok.fresh (ax _);obtain ⟨s2,c2,E⟩:=kL (u:=.dK (pv.foldl (λl p=>Qi l p.1 p.2) [])) y hp;have hl:(pv.foldl (λl p=>Qi l p.1 p.2) ([]:List (Key×V))).length<=sizeLine:=by have:=@UU pv [];simp at this;omega
      have b:(s.heap.objs.size == sysModules)=false:=beq_eq_false_iff_ne.mpr (cT I.big);refine ⟨.ref s.heap.objs.size,_,I.laid (o:=.dK (pv.foldl (λl p=>Qi l p.1 p.2) [])) (t':=tk) kp (ax _) (Zs hl b (Ga h2 .nil) f),rfl,po _ F _ s2 c2 ⟨_,rfl,hp,E,_,qt,UT h1 .nil⟩⟩
theorem qdP (m:C.K=X.K) (d:X.calm=iH):zr X C .fr (.type "dict") qbv:=by
 intro pins s σ H xs us Q I r h;obtain ⟨x,F,dx,rfl,y,t,po⟩:=h;cases dx <;> try exact po.elim
 exact UW m d pins s σ H _ us Q I r ⟨x,F,_,rfl,y,t,po⟩
noncomputable def kQ (kvs:List (Key×D)) (k:Key):Bool:=kvs.any λp=>decide (p.1=k)
noncomputable def inA:D->D->Out D
 | x,.dct kvs=>match VU x with
  | some k=>.ok (.bl (kQ kvs k))
  | none=>.bad
 | x,y=>qeQ x y
noncomputable def UX:D->D->Out D
 | x,.dct kvs=>match VU x with
  | some k=>.ok (.bl (!kQ kvs k))
  | none=>.bad
 | x,y=>Xe x y
theorem UY {ks:List (Key×D)} {k:Key} (h:IsK K F kv ks):(Ux kv k).isSome=kQ ks k:=by rw [<-QZ,h.any]; rfl
theorem qhM {k:Key} (h:TopIs C.K F H v d) (e:VU d=iB k):v=kV k:=by
 cases d with
 | int z=>cases e; exact h.int
 | str z=>cases e; exact h.str.1
 | _=>cases e
theorem UZ (m:C.K=X.K) (f:X.A.units+64 < cLine):OpD X C .sh (compareOp .In) inA:=by
 intro pins s σ H x y v u Q I r c h;obtain ⟨F,dx,d,b,t,ty,po⟩:=h;by_cases hd:∃ kvs,d=.dct kvs
 ·obtain ⟨kvs,rfl⟩:=hd;cases q:VU dx with
  | none=>unfold inA at po; simp only [q] at po; exact po.elim
  | some k=>
   unfold inA at po;simp only [q] at po;obtain ⟨a,kv,rfl,g,i⟩:=ty.dct b;cases c;have ex:=qhM t q;subst ex;refine qja (by omega) I (DGet.k (k:=k) g) r λs' j=>⟨.bl _,H,j,rfl,?_⟩
   rw [UY i];exact po _ F H b .refl (.bl _)
 ·have e:inA dx d=qeQ dx d:=by cases d <;> first | rfl | exact absurd ⟨_,rfl⟩ hd
  rw [e] at po;exact qhB m f pins s σ H x y v u Q I r c ⟨F,dx,d,b,t,ty,po⟩
theorem gp (m:C.K=X.K) (f:X.A.units+64 < cLine):OpD X C .sh (compareOp .NotIn) UX:=by
 intro pins s σ H x y v u Q I r c h;obtain ⟨F,dx,d,b,t,ty,po⟩:=h;by_cases hd:∃ kvs,d=.dct kvs
 ·obtain ⟨kvs,rfl⟩:=hd;cases q:VU dx with
  | none=>unfold UX at po; simp only [q] at po; exact po.elim
  | some k=>
   unfold UX at po;simp only [q] at po;obtain ⟨a,kv,rfl,g,i⟩:=ty.dct b;cases c;have ex:=qhM t q;subst ex;refine qdo (by omega) I (DGet.k (k:=k) g) r λs' j=>⟨.bl _,H,j,rfl,?_⟩
   rw [UY i];exact po _ F H b .refl (.bl _)
 ·have e:UX dx d=Xe dx d:=by cases d <;> first | rfl | exact absurd ⟨_,rfl⟩ hd
  rw [e] at po;exact qa8 m f pins s σ H x y v u Q I r c ⟨F,dx,d,b,t,ty,po⟩
end
theorem qdQ (t:iW) (es:Array (Int×iE)) (h:Int) (x:iE):(layNew t es h x).2.1.led=t.led:=by
 unfold layNew;cases t.freeSlot h with
 | none=>rfl
 | some p=>obtain ⟨sl,w⟩:=p;show (SetTable.orStandIn (t.put sl).1 _).led=t.led;unfold SetTable.orStandIn;split <;> rfl
theorem qdR {m f v:Nat} {l p:Bool} {c:Array Int} {t:iW} {o:Array Nat} (h:ic m f v l p c=iB (t,o)):t.led=l/\t.plain=p:=by
 unfold ic at h;cases e:SetTable.layClean m c with
 | none=>rw [e] at h;cases h
 | some ow=>rw [e] at h;have h2:=congrArg Prod.fst (aU.inj h);subst h2;exact ⟨rfl,rfl⟩
theorem Wr (t:iW) (es:Array (Int×iE)) (n:Nat):(relayAll t es n).2.1.led=t.led/\(t.plain=iF->(relayAll t es n).2.1.plain=iF):=by
 unfold relayAll;cases e:t.relaid (es.map (·.1)) n with
 | none=>exact ⟨rfl,λ_=>rfl⟩
 | some q=>
  obtain ⟨t',o⟩:=q;have k:=qdR (show ic _ _ _ _ _ _=iB (t',o) from e);dsimp only;split;·exact ⟨k.1,λz=>k.2.trans z⟩
  ·exact ⟨rfl,λ_=>rfl⟩
variable {κ:Type}
noncomputable def yB [DecidableEq κ] (ks:List κ) (x:κ):List κ:=if x∈ks then ks else ks++[x]
noncomputable def xb (ks:List Str) (x:Str):List Str:=if x∈ks then ks else ks++[x]
noncomputable def kn (es:Array (Int×iE)) (ep:Nat) (t:iW):Obj:={ cls:=.type "set",dict:=iD,data:=.set es ep t,slots:=#[] }
structure KP (κ:Type) [DecidableEq κ] where
 kd:∀ (p:iJ) (w:iK),PySem.KeyKind p w κ
 of:iE->κ
 pb:Bool
 ofi:∀ {p:iJ} {w:iK} {x:κ} {v:iE},(kd p w).is x v=iH->of v=x
 sc:∀ {p:iJ} {w:iK} {x:κ} {v:iE},(kd p w).is x v=iH->v.scannable=iH
 pl:∀ {p:iJ} {w:iK} {x:κ} {v:iE},(kd p w).is x v=iH->pb=iH->plainKind v=iF
noncomputable def KpS:KP Str where
 kd:=PySem.strKind
 of:=strOf
 pb:=iH
 ofi:=λh=>let ⟨_,e⟩:=cZ h; by rw [e]; rfl
 sc:=λh=>let ⟨_,e⟩:=cZ h; by rw [e]; rfl
 pl:=λh _=>let ⟨_,e⟩:=cZ h; by rw [e]; rfl
structure SetG {κ:Type} [DecidableEq κ] (T:KP κ) (prog:iJ) (w:iK) (es:Array (Int×iE)) (t:iW) (ks:List κ):Prop where
 el:ElemsOf (T.kd prog w) es.toList
 perm:(es.toList.map λe=>T.of e.2).Perm ks
 nd:ks.Nodup
 bd:es.size < scanBound
 fits:t.fits es.size=iH
 led:t.led=!(w.params.followText "set-order")
 plain:T.pb=iH->ks≠[]->t.plain=iF
def SetK {κ:Type} [DecidableEq κ] (T:KP κ) (prog:iJ) (w:iK) (h:Heap) (a:Addr) (ks:List κ):Prop:=∃ es ep t,h.get? a=iB (kn es ep t)/\SetG T prog w es t ks
variable {es:Array (Int×iE)} {ep:Nat}
section
theorem qfW {l:List (Int×iE)} (h:ElemsOf (PySem.strKind prog w) l) {e:Int×iE} (i:e∈l):∃ x t,e.2=.str x t:=by obtain ⟨⟨k,b,_⟩,_⟩:=h e i;obtain ⟨t,a⟩:=cZ b;exact ⟨k,t,a⟩
variable [DecidableEq κ] {T:KP κ}
theorem SetG.mem {t:iW} {ks:List κ} (h:SetG T prog w es t ks) {x:κ}:x∈ks↔∃ e∈es.toList,(T.kd prog w).is x e.2=true:=by
 rw [<-h.perm.mem_iff,aw];constructor;·rintro ⟨e,i,z⟩;obtain ⟨⟨k,a,_⟩,_⟩:=h.el e i;rw [T.ofi a] at z;exact ⟨e,i,z ▸ a⟩
 ·rintro ⟨e,i,z⟩;exact ⟨e,i,T.ofi z⟩
theorem SetG.size {t:iW} {ks:List κ} (h:SetG T prog w es t ks):es.size=ks.length:=by have e:=h.perm.length_eq;simpa using e
theorem qcy {es':Array (Int×iE)} {t t':iW} (m:h.get? a=iB (kn es ep t)):(h.update a (ig es' t')).get? a=iB (kn es' (ep+1) t'):=by have e:=aX (ig es' t') m (by rw [putSet_of (o:=kn es ep t) es' t' rfl]; rfl);rw [putSet_of (o:=kn es ep t) es' t' rfl] at e;exact e
theorem SetG.more {e:Array (Int×iE)} {t g:iW} {ks:List κ} {x:κ} {v:iE} (h:SetG T prog w es t ks) (c:(T.kd prog w).is x v=iH) (nx:x∉ks) (f:ks.length+1 < scanBound)
  (hp:e.toList.Perm (es.toList++[((T.kd prog w).hash x,v)])) (d:g.fits e.size=iH) (hl:g.led=t.led) (hq:T.pb=iH->g.plain=iF):SetG T prog w e g (yB ks x):=by
 have ex:yB ks x=ks++[x]:=if_neg nx;have hz:e.size=ks.length+1:=by rw [<-cF,hp.length_eq,aj,cF,h.size];rfl
 rw [ex];refine ⟨(h.el.push c (T.sc c)).perm hp,?_,?_,?_,d,hl.trans h.led,λb _=>hq b⟩;·refine (hp.map _).trans ?_;rw [cQ,List.map_singleton,T.ofi c];exact h.perm.append (cz _)
 ·exact dG.mpr ⟨h.nd,by simp,λa j b i=>by rw [aD.mp i]; exact λz=>nx (z ▸ j)⟩
 ·rw [hz];exact f
theorem qdS {ks:List κ} {x:κ} {v:iE} {Q:Bool->iI->Prop} (m:(T.kd prog w).is x v=iH) (S:SetK T prog w s.heap a ks) (J:ks.length+1 < scanBound)
  (h:∀ h' b,bt a s.heap h'->SetK T prog w h' a (yB ks x)->Q b { s with heap:=h' }):wpAny (model prog w) A (setAddHashed a v ((T.kd prog w).hash x)) Q E s:=by
 obtain ⟨es,ep,t,o,d⟩:=S;unfold setAddHashed setAddHashedIn;refine iR (iC (i3 o rfl d.fits ?_));dsimp only;rw [byScan_of (T.sc m) d.bd d.el,if_pos rfl];unfold setAddByScan;refine iC (iC (j7 (iC (wpAny_setScan_of m o rfl d.fits d.el ?_))));cases hq:es.toList.findIdx? (λe=>(T.kd prog w).is x e.2) with
 | some j=>obtain ⟨N,hp,_⟩:=bS.mp hq;have hx:x∈ks:=d.mem.mpr ⟨_,cr N,hp⟩;have q:=h s.heap iF (Heap.SameBut.refl a s.heap) ⟨es,ep,t,o,by rw [show yB ks x=ks from if_pos hx]; exact d⟩;dsimp only;exact iG (iG q)
 | none=>
  have hx:x∉ks:=λz=>by obtain ⟨e,O,q⟩:=d.mem.mp z;have:=List.findIdx?_eq_none_iff.mp hq e O;rw [q] at this;cases this
  dsimp only;have hp:=layNew_perm t es ((T.kd prog w).hash x) v;have n:=layNew_fits t es ((T.kd prog w).hash x) v;have hl:=qdQ t es ((T.kd prog w).hash x) v;generalize layNew t es ((T.kd prog w).hash x) v=L at hp n hl ⊢;obtain ⟨c,u,M,U⟩:=L;dsimp only at hp n hl ⊢;rw [fN] at hp;have l:∀ f:iW,f.fits c.size=iH->f.led=t.led->(T.pb=iH->f.plain=iF)->wpAny (model prog w) A (do
    storeSet a c f
    if (!M&&f.tooFull)=iH then do
      (match (relayAll f c (c8 c.size)).2.2 with | true=>rule "set.scan.the-table-gave-way" | false=>pure ())
      storeSet a (relayAll f c (c8 c.size)).1 (relayAll f c (c8 c.size)).2.1
      pure (iB iH)
     else pure (iB iH)) (λr s'=>∃ h',s'={ s with heap:=h' }/\r=iB iH/\bt a s.heap h'/\SetK T prog w h' a (yB ks x)) E s:=by
   intro f f2 I p2;have d2:=d.more m hx J hp f2 I p2;refine iC (wpAny_storeSet_of o rfl ?_ (lh d2.bd));have i:=qcy (es':=c) (t':=f) o;have y:=bo s.heap a (ig c f);split
   ·have C:=relayAll_perm f c (c8 c.size);have D:=relayAll_fits f c (c8 c.size);have B:=Wr f c (c8 c.size);generalize relayAll f c (c8 c.size)=R at C D B ⊢;obtain ⟨p,H,Y⟩:=R;dsimp only at C D B ⊢;have K:=d.more m hx J (C.trans hp) D (B.1.trans I) (λb=>B.2 (p2 b));refine iC ?_;have go:wpAny (model prog w) A (storeSet a p H >>= λ_=>pure (iB iH)) (λr s'=>∃ h',s'={ s with heap:=h' }/\r=iB iH/\bt a s.heap h'/\SetK T prog w h' a (yB ks x)) E { s with heap:=s.heap.update a (ig c f) }:=
     iC (wpAny_storeSet_of i rfl (iG ⟨_,rfl,rfl,y.trans (bo _ a _),p,_,H,qcy i,K⟩) (lh K.bd))
    cases Y;·exact iG go
    ·exact j7 go
   ·exact iG ⟨_,rfl,rfl,y,c,_,f,i,d2⟩
  have fin:∀ (r:Option Bool) (s':iI),(∃ h',s'={ s with heap:=h' }/\r=iB iH/\bt a s.heap h'/\SetK T prog w h' a (yB ks x)) ->wpAny (model prog w) A (match r with | some k=>pure k | none=>setAddHashedIn a v ((T.kd prog w).hash x) 99999) Q E s':=by rintro r s' ⟨h',rfl,rfl,y,S⟩;exact iG (h h' iH y S)
  have P:∀ (b:Bool) {g:iI} {G:Unit->iI->Prop},G () g->wpAny (model prog w) A (match b with | true=>rule "set.scan.the-table-gave-way" | false=>pure ()) G E g:=λb g G q=>by
   cases b;·exact iG q
   ·exact j7 q
  refine iC (P _ ?_);cases e1:u.plain with
  | true=>rw [if_pos rfl,hashByValue_scannable 8 (T.sc m)];refine iC (iG ?_);exact i8 (l (if plainKind v=iH then u else { u with plain:=iF }) (by split; exact n; exact SetTable.fits_plain_off n) (by split <;> exact hl) (λb=>by rw [T.pl m b]; rfl)) fin λ_ _ z=>z
  | false=>rw [if_neg (by simp)];refine iC (iG ?_);exact i8 (l u n hl λ_=>e1) fin λ_ _ z=>z
end
theorem qbw [DecidableEq κ] (ks:List κ) (x:κ):(yB ks x).length<=ks.length+1:=by
 unfold yB;split;·omega
 ·rw [aj];exact ax _
theorem xc [DecidableEq κ]:∀ (l ks:List κ),(l.foldl yB ks).length<=ks.length+l.length
 | [],ks=>ax _
 | x::l,ks=>by have h1:=xc l (yB ks x);have h2:=qbw ks x;rw [bF,ao];omega
theorem Yb:(yB:List Str->Str->List Str)=xb:=by funext ks x;unfold yB xb;congr
theorem gq (l ks:List Str):(l.foldl xb ks).length<=ks.length+l.length:=by rw [<-Yb];exact xc l ks
theorem SetK.at [DecidableEq κ] {T:KP κ} {ks:List κ} (S:SetK T prog w h a ks) (k:∀ o,h.get? a=iB o->h'.get? a=iB o):SetK T prog w h' a ks:=
 let ⟨es,ep,t,m,d⟩:=S; ⟨es,ep,t,k _ m,d⟩
section
variable [DecidableEq κ] {T:KP κ} {R:lJ->iI->Prop} {I:Addr} {fp wr:List Addr} {P:Nat->iE->Prop} {St:Nat->iI->Prop}
theorem qbx {G:Array lC->Array lC->Prop} (W:WalksS prog w A.in1 I fp wr G n P St) (S:Addr) (j:S∉fp) (ss:List κ) (K:ss.length=n) (J:∀ i v,P i v->∃ x,ss[i]?=iB x/\(T.kd prog w).is x v=iH) (d:n+1 < scanBound):∀ (k i:Nat) (s:iI),n - i=k->i<=n->St i s->SetK T prog w s.heap S ((ss.take i).foldl yB []) ->(∀ s',Moved (S::wr) G s s'->SetK T prog w s'.heap S (ss.foldl yB [])->R (.ok (.ret .none)) s')->codeAny (model prog w) A (.builtin "set.update.loop" ⟨[.ref S,.ref I],[]⟩) R s:=by
 have E:S∉wr:=λh=>j (W.sub _ h);have up:∀ b∈wr,b∈S::wr:=λb d=>ac _ d;intro k
 induction k with
 | zero=>
  intro i s q hi c r C;have y:i=n:=by omega
  subst y;refine iU F.entry_set_update_loop ?_;rw [bq et _]; show wpAny _ A.in1 (pyNext (.ref I) >>= _) _ _ s;refine iC (W.done s _ _ c λs' g=>iG (C s' (g.mono up) ?_));rw [List.take_of_length_le (fB K)] at r;exact r.at λo e=>g.heap S o E e
 | succ k H=>
  intro i s q hi c r C;have t:i < n:=by omega
  refine iU F.entry_set_update_loop ?_;rw [bq et _]; show wpAny _ A.in1 (pyNext (.ref I) >>= _) _ _ s;refine iC (W.item i s _ _ t c λv s' L a g=>?_);obtain ⟨x,hx,q⟩:=J i v L;have B:SetK T prog w s'.heap S ((ss.take i).foldl yB []):=r.at λo e=>g.heap S o E e;show wpAny _ A.in1 (holding [v] (setAdd S v) >>= _) _ _ s';refine iC (iR ?_);unfold setAdd;refine iR (iC ((T.kd prog w).pyHash q ?_));have m:((ss.take i).foldl yB []).length+1 < scanBound:=by have h1:=xc (ss.take i) [];rw [bO,aZ] at h1;omega
  refine qdS (s:={ s' with toks:=s'.toks+1 }) q B m λh' b D l=>?_;have M:yB ((ss.take i).foldl yB []) x=(ss.take (i+1)).foldl yB []:=by rw [List.take_add_one,hx,List.foldl_append];rfl
  rw [M] at l;refine iG ⟨j8 et _,H (i+1) _ (by omega) t (W.frame _ s' _ _ a (ir _) λb d o e=>?_) l λu f p=>?_⟩;·rw [D.2 b λz:b=S=>j (z ▸ d)];exact e
  ·refine C u (Moved.trans W.gtrans ((g.mono up).then_heap (ir _) λb o d e=>?_) f) p;rw [D.2 b λz:b=S=>d (z ▸ ai)];exact e
end
section
variable [DecidableEq κ] {T:KP κ}
abbrev qfX (w:iK):Obj:=kn #[] 0 (.fresh 0 0 (!(w.params.followText "set-order")))
theorem Gb (e:h.get? a=iB (qfX w)):SetK T prog w h a []:=
 ⟨_,_,_,e,⟨λe i=>by simp at i,by simp,bX,by decide,by rfl,rfl,λ_ z=>absurd rfl z⟩⟩
theorem qdT (a:iE) {Q₁:iE->iI->Prop} (h:Q₁ (.ref s.heap.objs.size) { s with heap:=s.heap.push (qfX w) }):codeAny (model prog w) A (.call (.builtin "set.__new__") ⟨[.type "set",a],[]⟩) (wants Q₁ E) s:=by
 refine codeAny_of_tree ?_; show wpAny _ A.in1 (do checkBuiltinCall "set.__new__" ⟨[.type "set",a],[]⟩; again (.builtin "set.__new__" ⟨[.type "set",a],[]⟩)) _ _ s;refine iC (lD (PySem.F.newCall_set_1 a) (iG ⟨j8 PySem.F.plain_set_new _,iU PySem.F.entry_set_new ?_⟩)); rw [bq PySem.F.plain_set_new _];unfold Builtin.«set.__new__» Builtin.Frozenset.newClass; have b:=sub_set_self; obtain ⟨hp,g,d,tk,os⟩:=s; dsimp only; wp_walk
 refine iX (iG ?_); dsimp only; simp only [newObj];exact iC (wpAny_alloc (iG (iG h)))
theorem Ws:isSubtype (.type "tuple") (.type "set")=pure false:=by rw [li]; kernel_rfl
theorem Qo:isSubtype (.type "tuple") (.type "frozenset")=pure false:=by rw [li]; kernel_rfl
theorem qby:∀ sk:SK,isSubtype (.type sk.cl) (.type "set")=pure iF
 | .l=>PySem.F.sub_list_set
 | .t=>Ws
theorem Wt:∀ sk:SK,isSubtype (.type sk.cl) (.type "frozenset")=pure iF
 | .l=>PySem.F.sub_list_frozenset
 | .t=>Qo
theorem qfY (a:A.handled=iD) (sk:SK) (it l:Addr) (e:l≠it) (items:Array iE):Walks prog w A it [it,l] [it] items.size (λi v=>items[i]?=iB v) (λi h=>ItK h it l sk i/\SeqK h l sk items):=by
 cases sk with
 | l=>exact iw a it l e items
 | t=>exact Walks.tuple a it l e items
theorem SeqK.ty:∀ {sk:SK},SeqK s.heap a sk xs->s.TypeIs (.ref a) sk.cl
 | .l,⟨o,e,c,_⟩=>⟨o,e,c⟩
 | .t,⟨o,e,c,_⟩=>⟨o,e,c⟩
theorem qje {S:Addr} {ss:List κ} {Q:Unit->iI->Prop} (q:A.handled=iD) (k:SetK T prog w s.heap S []) (hl:SeqK s.heap l sk items) (p:ss.length=items.size) (hi:∀ (i:Nat) (v:iE),items[i]?=iB v->∃ x,ss[i]?=iB x/\(T.kd prog w).is x v=iH) (j:items.size+1 < scanBound) (g:l≠S)
  (h:∀ h' tk,SetK T prog w h' S (ss.foldl yB [])->(∀ b o,b≠S->s.heap.get? b=iB o->h'.get? b=iB o)->Q () { s with heap:=h',toks:=tk }) :
  wpAny (model prog w) A (cD "set.__init__" S (.ref l)) Q E s:=by
 have hT:=hl.ty;unfold cD;refine iC (m:=Builtin.Frozenset.isAnySet _) ?_;unfold Builtin.Frozenset.isAnySet;refine iC (i7 hT (qby sk) ?_);refine i7 hT (Wt sk) ?_;rw [if_neg (by decide)];refine iC (k7 hT ?_);rw [if_neg (by cases sk <;> decide)];refine iC (qbs hl ?_);have hz:s.heap.objs.size≠S:=λz=>by obtain ⟨es,ep,t,n,_⟩:=k;exact bL _ (z ▸ aq n)
 have d:l≠s.heap.objs.size:=aC hl.lt;refine iC (wpAny_runValue (qbx ((qfY (A:=A.in1) q sk _ l d items).toS) S ?_ ss p hi j items.size 0 _ (by omega) (bi _) ⟨.of ⟨_,af _ rfl,rfl,rfl⟩,hl.at λo e=>aa _ e⟩ ?_ ?_))
 ·intro z;rcases ae.mp z with z | z;·exact hz z.symm
  ·exact g (aD.mp z).symm
 ·exact k.at λo e=>aa _ e
 ·intro s' c B;obtain ⟨h',g',d',f,a⟩:=s';have u:g'=s.gens:=c.gens;have y:d'=s.drawn:=c.drawn;have r:a=s.os:=c.os;subst u y r;refine iG (h h' f B λb o j e=>c.heap b o ?_ (aa _ e));intro z;rcases ae.mp z with z | z;·exact j z
  ·rw [aD.mp z] at e;exact bL _ (aq e)
set_option maxHeartbeats 3200000 in
theorem Gc {l:Addr} {ks:List κ} {Q:iE->iI->Prop}
  (p:∀ (A1:iP) (L:Unit->iI->Prop) (D:iE->iI->Prop),A1.handled=A.handled->(∀ h' tk,SetK T prog w h' s.heap.objs.size ks->(∀ b o,s.heap.get? b=iB o->h'.get? b=iB o)->L () { s with heap:=h',toks:=tk }) ->wpAny (model prog w) A1 (cD "set.__init__" s.heap.objs.size (.ref l)) L D { s with heap:=s.heap.push (qfX w) })
  (h:∀ h' tk,SetK T prog w h' s.heap.objs.size ks->(∀ b o,s.heap.get? b=iB o->h'.get? b=iB o)->Q (.ref s.heap.objs.size) { s with heap:=h',toks:=tk }) :
  wpAny (model prog w) A (call (.type "set") [.ref l]) Q E s:=by
 have i:∀ {Q₁:iE->iI->Prop},Q₁ (.ref s.heap.objs.size) { s with heap:=s.heap.push (qfX w) }->codeAny (model prog w) A.in1 (.call (.builtin "set.__new__") ⟨[.type "set",.ref l],[]⟩) (wants Q₁ E) s:=λh=>qdT (.ref l) h;unfold qfX kn at i p;generalize (!(w.params.followText "set-order"))=led at i p;obtain ⟨c,tl,t⟩:=bN.mro;have m:=bN.made;have q:=bN.sub;refine wpAny_call (codeAny_of_tree ?_); show wpAny _ _ (callAny (.type "set") _) _ _ _;refine iG ⟨Code.quiet_builtin _ (by decide +kernel),iU PySem.F.entry_type_call ?_⟩; rw [Around.under_plain (weight_type_call_type "set" [.ref l] []) rfl];have h1:=bN.notType;have h2:=bN.canCreate;have x:=PySem.F.typeCall_set_1 (.ref l);repeat (any_goals (first | assumption | wp_step))
 refine lf (i (Q₁:=λobj f=>obj=.ref s.heap.objs.size/\f={ s with heap:=s.heap.push { cls:=.type "set",dict:=iD,data:=.set #[] 0 (.fresh 0 0 led) } }) ⟨rfl,rfl⟩) λr f k=>?_;cases r with
 | error e=>exact k
 | ok C=>
  cases C with
  | ret obj=>
   obtain ⟨rfl,rfl⟩:=k;have S:(s.heap.push { cls:=.type "set",dict:=iD,data:=.set #[] 0 (.fresh 0 0 led) }).get? s.heap.objs.size=iB { cls:=.type "set",dict:=iD,data:=.set #[] 0 (.fresh 0 0 led) }:=af _ rfl;have hT:fX { s with heap:=s.heap.push { cls:=.type "set",dict:=iD,data:=.set #[] 0 (.fresh 0 0 led) } } (.ref s.heap.objs.size) "set":=⟨_,S,rfl⟩
   have u:=bN.init.lookup;have y:=bN.init.bind (.ref s.heap.objs.size);repeat (any_goals (first | assumption | wp_step))
   refine lf (codeAny_call_builtin (R:=wants (λr d=>r=.none/\∃ h' tk,d={ s with heap:=h',toks:=tk }/\SetK T prog w h' s.heap.objs.size ks/\(∀ b o,s.heap.get? b=iB o->h'.get? b=iB o)) E) bN.init.plain PySem.F.entry_set_init (check_set_init_1 hT ?_)) λj d a=>?_
   ·unfold Builtin.«set.__init__» noKeywords;generalize z:cD=U;wp_walk
    subst z;refine p _ _ _ rfl λh' tk B v=>?_;exact iG ⟨rfl,h',tk,rfl,B,v⟩
   ·cases j with
    | error e=>exact a
    | ok g=>
     cases g with
     | ret r=>
      obtain ⟨rfl,h',tk,rfl,B,n⟩:=a;repeat (any_goals (first | assumption | wp_step))
      exact h _ _ B n
     | _=>exact a.elim
  | _=>exact k.elim
end
theorem xA {α:Type}:∀ {xs:List α} {i:Nat} (h:i < xs.length),(xs[i]::xs.eraseIdx i).Perm xs
 | [],_,h=>absurd h (d8 _)
 | x::xs,0,h=>cz _
 | x::xs,i+1,h=>(fE _ _ _).trans ((xA (xs:=xs) (i:=i) (Nat.lt_of_succ_lt_succ h)).cons x)
variable {M:Model}
theorem Xq {c:Source} {Q:Nat->iI->Prop} (a:n≠0) (h:∀ i d',i < n->Q i { s with drawn:=d' }):wpAny M A (choose c n) Q E s:=
 λ_ _ _=>⟨a,h _ _ (Nat.mod_lt _ (Nat.pos_of_ne_zero a))⟩
variable {α:Type}
theorem Gd:∀ (n:Nat) (xs:List α) (s:iI) {Q:List α->iI->Prop},n=xs.length->(∀ ys d',ys.Perm xs->Q ys { s with drawn:=d' })->wpAny M A (drawOrder n xs) Q E s
 | 0,xs,s,Q,hn,h=>by
  cases xs with
  | nil=>exact iG (h [] s.drawn (cz _))
  | cons x l=>cases hn
 | n+1,[],s,Q,hn,h=>by cases hn
 | n+1,x::l,s,Q,hn,h=>by show wpAny M A (choose .order (x::l).length >>= _) Q E s;refine iC (Xq (by simp) λi d' hi=>?_);have e:(x::l)[i]?=iB (x::l)[i]:=ay hi;rw [e];refine iC (Gd n _ _ (by rw [List.length_eraseIdx_of_lt hi]; simp only [ao] at hn ⊢; omega) λys d2 hp=>iG (h _ d2 ?_));exact (hp.cons _).trans (xA hi)
theorem Ge (next:Nat->Nat):∀ (f k:Nat) (left:List α) (out:Array α),f=left.length->(pickOrder.go next f k left out).toList.Perm (out.toList++left)
 | 0,k,left,out,hf=>by
  cases left with
  | nil=>rw [bf];exact cz _
  | cons x l=>cases hf
 | f+1,k,left,out,hf=>by have t:next k % left.length < left.length:=Nat.mod_lt _ (by omega);have e:left[next k % left.length]?=iB left[next k % left.length]:=ay t;unfold pickOrder.go;rw [e];refine (Ge next f (k+1) _ _ (by rw [List.length_eraseIdx_of_lt t]; omega)).trans ?_;rw [fN,bB];exact List.Perm.append_left _ (xA t)
theorem gt (next:Nat->Nat) (xs:Array α):(pickOrder next xs).toList.Perm xs.toList:=by unfold pickOrder;exact Ge next _ _ _ _ (by simp)
noncomputable def uw (first:iE) (i:Nat) (a:Addr) (n ep:Nat):Obj:={ cls:=.type "set_iterator",data:=.fields #[first,rawInt i,.ref a,rawInt n,rawInt ep] }
theorem slot_si_next:Slot "set_iterator" "__next__" "set_iterator.__next__":=
 .of (owner := "set_iterator") (n := "__next__") (by rw [k8,i4]; kernel_rfl) (by decide +kernel) (by decide +kernel) (by decide +kernel) (by first | exact .inl (by decide +kernel) | exact .inr (by decide +kernel)) (by rw [li]; kernel_rfl)
theorem zb:Slot "set_iterator" "__iter__" "set_iterator.__iter__":=
 .of (owner := "set_iterator") (n := "__iter__") (by rw [k8,i4]; kernel_rfl) (by decide +kernel) (by decide +kernel) (by decide +kernel) (by first | exact .inl (by decide +kernel) | exact .inr (by decide +kernel)) (by rw [li]; kernel_rfl)
theorem vG (a:iE):argsOk "set_iterator.__next__" ⟨[a],[]⟩:=by unfold argsOk; kernel_rfl
theorem KY (a:iE):argsOk "set_iterator.__iter__" ⟨[a],[]⟩:=by unfold argsOk; kernel_rfl
theorem kR:entryFor table "set_iterator.__next__"=iB Builtin.«set_iterator.__next__»:=entryFor_of_tree (by kernel_rfl)
theorem Jj:entryFor table "set_iterator.__iter__"=iB Builtin.«dict_keyiterator.__iter__»:=entryFor_alias (id' := "dict_keyiterator.__iter__") (by kernel_rfl) rfl (by decide +kernel) (by kernel_rfl)
theorem KZ:entryFor table "set.__iter__"=iB Builtin.«frozenset.__iter__»:=entryFor_alias (id' := "frozenset.__iter__") (by kernel_rfl) rfl (by decide +kernel) (by kernel_rfl)
variable {ks:List Str} {p:Addr} {b:Bool} {ps:List Nat}
section
theorem vt (d:w.params.followText "set-order"=b):({ program:=(model prog w).prog,params:=(model prog w).w.params }:Setting).params.followText "set-order"=b:=d
theorem Va {sl nx:Nat} {t:iW} {x:iE} {Q:Option iE->iI->Prop} (hi:s.heap.get? it=iB (uw (rawInt sl) i a n ep)) (g:s.heap.get? a=iB (kn es ep t)) (f:t.fits es.size=iH) (hz:es.size=n)
  (h:∀ (A1:iP) (L:Option (iE×Nat)->iI->Prop) (R:iE->iI->Prop),L (iB (x,nx)) s->wpAny (model prog w) A1 (setNext a sl i ep) L R s)
  (c:∀ h',h'.get? it=iB (uw (rawInt nx) (i+1) a n ep)->bt it s.heap h'->Q (iB x) { s with heap:=h' }):wpAny (model prog w) A (pyNext (.ref it)) Q E s:=by
 have hT:s.TypeIs (.ref it) "set_iterator":=⟨_,hi,rfl⟩
 unfold pyNext;refine iC (iZ (iM (name:=aQ "__next__") hT slot_si_next (iO slot_si_next hT kR ?_ (vG _))));show wpAny _ _ (fieldsOf (.ref it) >>= _) _ _ s;refine iC (lv hi rfl ?_);show wpAny _ _ (setEntries a >>= _) _ _ s;refine iC (j9 g rfl f ?_);rw [if_neg (by rw [hz]; simp)];show wpAny _ _ (setNext a sl i ep >>= _) _ _ s;refine iC (h _ _ _ ?_);show wpAny _ _ (setField (.ref it) 0 (rawInt nx) >>= _) _ _ s;refine iC (i9 hi rfl (by simp) ?_);have h1:(s.heap.update it (Obj.mapFields (·.setIfInBounds 0 (rawInt nx)))).get? it=iB (uw (rawInt nx) i a n ep):=aX _ hi rfl;refine iC (i9 h1 rfl (by simp) (iG ⟨x,rfl,iG (c _ ?_ ((bo ..).trans (bo ..)))⟩));exact aX _ h1 rfl
theorem Vb {sl:Nat} {t:iW} {Q:Option iE->iI->Prop} (h:A.handled=iD) (hi:s.heap.get? it=iB (uw (rawInt sl) i a n ep)) (g:s.heap.get? a=iB (kn es ep t)) (f:t.fits es.size=iH) (hz:es.size=n)
  (c:∀ (A1:iP) (L:Option (iE×Nat)->iI->Prop) (R:iE->iI->Prop),L iD s->wpAny (model prog w) A1 (setNext a sl i ep) L R s)
  (d:∀ h',h8 it s.heap h'->Q iD { s with heap:=h' }):wpAny (model prog w) A (pyNext (.ref it)) Q E s:=by
 have hT:s.TypeIs (.ref it) "set_iterator":=⟨_,hi,rfl⟩
 unfold pyNext;refine iC (iZ (iM (name:=aQ "__next__") hT slot_si_next (iO slot_si_next hT kR ?_ (vG _))));show wpAny _ _ (fieldsOf (.ref it) >>= _) _ _ s;refine iC (lv hi rfl ?_);show wpAny _ _ (setEntries a >>= _) _ _ s;refine iC (j9 g rfl f ?_);rw [if_neg (by rw [hz]; simp)];show wpAny _ _ (setNext a sl i ep >>= _) _ _ s;refine iC (c _ _ _ ?_);show wpAny _ _ (setField (.ref it) 2 bD >>= _) _ _ s;refine iC (i9 hi rfl (by simp) ?_); show wpAny _ _ (newExc (.type "StopIteration") [] >>= _) _ _ _;refine iC ?_; simp only [newExc,newTuple]; refine iC (iN ?_ (by size_fits));refine iC (m:=firstArgMember _ _) (lD (a:=bD) (by first | rfl | (simp only [firstArgMember]; rfl)) ?_); refine iN ?_ (by size_fits); simp only [raiseNew];refine iC (wpAny_handled ?_); first | rw [show A.in1.handled=iD from h] | rw [h]
 refine iC (iG (wpAny_throw ?_)); refine iC (i7 (T := "StopIteration") (b:=iH) ⟨_,af _ rfl,rfl⟩ lw ?_);exact iG (d _ (((bo ..).extBut.push _).push _))
theorem Xr {pl m:Nat} {t:iW} {hx:Int} {x:iE} {ps:Array iE} {Q:Option iE->iI->Prop} (hi:s.heap.get? it=iB (uw (.ref p) i a n ep)) (g:s.heap.get? a=iB (kn es ep t)) (h:t.fits es.size=iH) (hz:es.size=n)
  (hp:s.heap.get? p=iB { cls:=.type "tuple",data:=.seq ps m }) (l:ps[i]?=iB (rawInt pl)) (hx:es[pl]?=iB (hx,x))
  (c:∀ h',h'.get? it=iB (uw (.ref p) (i+1) a n ep)->bt it s.heap h'->Q (iB x) { s with heap:=h' }):wpAny (model prog w) A (pyNext (.ref it)) Q E s:=by
 have hT:s.TypeIs (.ref it) "set_iterator":=⟨_,hi,rfl⟩
 unfold pyNext;refine iC (iZ (iM (name:=aQ "__next__") hT slot_si_next (iO slot_si_next hT kR ?_ (vG _))));show wpAny _ _ (fieldsOf (.ref it) >>= _) _ _ s;refine iC (lv hi rfl ?_);show wpAny _ _ (setEntries a >>= _) _ _ s;refine iC (j9 g rfl h ?_);rw [if_neg (by rw [hz]; simp)];show wpAny _ _ (seqItems? (.ref p) >>= _) _ _ s;refine iC (iS hp rfl ?_);dsimp only;rw [show ps[Int.toNat (i:Int)]?=iB (rawInt pl) from l];show wpAny _ _ (setNextDrawn a pl ep >>= _) _ _ s;refine iC ?_;unfold setNextDrawn;refine iC (i3 g rfl h ?_);dsimp only;rw [if_neg (by simp),hx];refine iG ?_;show wpAny _ _ (setField (.ref it) 1 (rawInt (i+1)) >>= _) _ _ s;refine iC (i9 hi rfl (by simp) (iG ⟨x,rfl,iG (c _ ?_ (bo ..))⟩));exact aX _ hi rfl
theorem Gf {m:Nat} {t:iW} {ps:Array iE} {Q:Option iE->iI->Prop} (h:A.handled=iD) (hi:s.heap.get? it=iB (uw (.ref p) i a n ep)) (g:s.heap.get? a=iB (kn es ep t)) (f:t.fits es.size=iH) (hz:es.size=n)
  (hp:s.heap.get? p=iB { cls:=.type "tuple",data:=.seq ps m }) (l:ps[i]?=iD)
  (c:∀ h',h8 it s.heap h'->Q iD { s with heap:=h' }):wpAny (model prog w) A (pyNext (.ref it)) Q E s:=by
 have hT:s.TypeIs (.ref it) "set_iterator":=⟨_,hi,rfl⟩
 unfold pyNext;refine iC (iZ (iM (name:=aQ "__next__") hT slot_si_next (iO slot_si_next hT kR ?_ (vG _))));show wpAny _ _ (fieldsOf (.ref it) >>= _) _ _ s;refine iC (lv hi rfl ?_);show wpAny _ _ (setEntries a >>= _) _ _ s;refine iC (j9 g rfl f ?_);rw [if_neg (by rw [hz]; simp)];show wpAny _ _ (seqItems? (.ref p) >>= _) _ _ s;refine iC (iS hp rfl ?_);dsimp only;rw [show ps[Int.toNat (i:Int)]?=iD from l];show wpAny _ _ (setField (.ref it) 0 (rawInt 0) >>= _) _ _ s;refine iC (i9 hi rfl (by simp) ?_);have h1:(s.heap.update it (Obj.mapFields (·.setIfInBounds 0 (rawInt 0)))).get? it=iB (uw (rawInt 0) i a n ep):=aX _ hi rfl;refine iC (i9 h1 rfl (by simp) ?_); show wpAny _ _ (newExc (.type "StopIteration") [] >>= _) _ _ _;refine iC ?_; simp only [newExc,newTuple]; refine iC (iN ?_ (by size_fits));refine iC (m:=firstArgMember _ _) (lD (a:=bD) (by first | rfl | (simp only [firstArgMember]; rfl)) ?_); refine iN ?_ (by size_fits); simp only [raiseNew];refine iC (wpAny_handled ?_); first | rw [show A.in1.handled=iD from h] | rw [h]
 refine iC (iG (wpAny_throw ?_)); refine iC (i7 (T := "StopIteration") (b:=iH) ⟨_,af _ rfl,rfl⟩ lw ?_);exact iG (c _ (((((bo ..).trans (bo ..))).extBut.push _).push _))
theorem gu {Q:iE->iI->Prop} (hi:s.heap.get? it=iB o) (d:o.cls=.type "set_iterator") (h:Q (.ref it) s):wpAny (model prog w) A (pyIter (.ref it)) Q E s:=by
 have hT:s.TypeIs (.ref it) "set_iterator":=⟨_,hi,d⟩
 refine wpAny_pyIter_slot hT zb (iO zb hT Jj ?_ (KY _)); show wpAny _ _ (ret (.ref it)) _ _ s;exact iG ⟨_,rfl, "set_iterator",_,hT,slot_si_next.lookup,h⟩
theorem Gg {ep:Nat} {t:iW} (u:A.handled=iD) (d:w.params.followText "set-order"=iH) (f:t.fits es.size=iH) (g:a≠it):Walks prog w A it [it,a] [it] es.size (λi v=>((pickOrder (w.params.setOrder a ep) es).toList.map (·.2))[i]?=iB v) (λi h=>h.get? it=iB (uw (rawInt 0) i a es.size ep)/\h.get? a=iB (kn es ep t)) where
 sub:=λb d=>by simp at d; simp [d]
 frame:=λ_ _ _ st p=>⟨p it (by simp) _ st.1,p a (by simp) _ st.2⟩
 item:=λi s Q E hi st c=>by
  have n:(pickOrder (w.params.setOrder a ep) es).size=es.size:=by have:=(gt (w.params.setOrder a ep) es).length_eq;simpa using this
  have j:i < (pickOrder (w.params.setOrder a ep) es).size:=by omega
  obtain ⟨e,he⟩:∃ e,(pickOrder (w.params.setOrder a ep) es)[i]?=iB e:=⟨_,bJ j⟩
  refine Va (x:=e.2) (nx:=0) st.1 st.2 f rfl (λA1 L R q=>?_) λh' k l=>c e.2 h' s.toks ?_ ⟨k,?_⟩ λb o y r=>?_;·unfold setNext;refine iC (i3 st.2 rfl f ?_);dsimp only;refine iC (m:=setsByText) (iC (iX (iG ?_)));rw [vt d,if_pos rfl,if_neg (by simp)];refine iC ?_;unfold setWalk;refine iC (i3 st.2 rfl f ?_);dsimp only;refine iC (m:=setsByText) (iC (iX (iG ?_)));rw [vt d,if_pos rfl];refine iC (iX (iG ?_));refine iG ?_;rw [show (pickOrder ((⟨(model prog w).prog,(model prog w).w.params⟩:Setting).params.setOrder a ep) es)[i]?=iB e from he];exact q
  ·rw [aE,dB,he];rfl
  ·rw [l.2 a g];exact st.2
  ·rw [l.2 b (λz=>y (by simp [z]))];exact r
 done:=λs Q E st c=>by
  have n:(pickOrder (w.params.setOrder a ep) es).size=es.size:=by have:=(gt (w.params.setOrder a ep) es).length_eq;simpa using this
  refine Vb u st.1 st.2 f rfl (λA1 L R q=>?_) λh' D=>c h' s.toks λb o y r=>D b o (λz=>y (by simp [z])) r;unfold setNext;refine iC (i3 st.2 rfl f ?_);dsimp only;refine iC (m:=setsByText) (iC (iX (iG ?_)));rw [vt d,if_pos rfl,if_neg (by simp)];refine iC ?_;unfold setWalk;refine iC (i3 st.2 rfl f ?_);dsimp only;refine iC (m:=setsByText) (iC (iX (iG ?_)));rw [vt d,if_pos rfl];refine iC (iX (iG ?_));refine iG ?_;rw [show (pickOrder ((⟨(model prog w).prog,(model prog w).w.params⟩:Setting).params.setOrder a ep) es)[es.size]?=iD from dh (fB n)];exact q
 self:=λi s Q E st c=>gu st.1 rfl c
noncomputable def yC (t:iW) (i:Nat):Nat:=if i=0 then 0 else t.place.getD 0 0+1
theorem Vc (j k:Nat):bp #[j] k=if j < k then 1 else 0:=by unfold bp;show bp.go #[j] k 1 0 1=_;unfold bp.go;rw [if_pos (by omega)];show (if (#[j]:Array Nat).getD 0 k < k then bp.go #[j] k 0 1 1 else bp.go #[j] k 0 0 0)=_;show (if j < k then bp.go #[j] k 0 1 1 else bp.go #[j] k 0 0 0)=_;split <;> rfl
theorem Yc {t:iW} {Q:Option (iE×Nat)->iI->Prop} (c:w.params.followText "set-order"=iF) (f:t.fits es.size=iH) (hl:t.led=iH) (hz:es.size<=1) (g:s.heap.get? a=iB (kn es ep t)) (hi:i<=es.size)
  (q:Q (match es[i]? with | some e=>iB (e.2,yC t (i+1)) | none=>iD) s):wpAny (model prog w) A (setNext a (yC t i) i ep) Q E s:=by
 have h:t.place.size=es.size:=by have:=f;simp only [SetTable.fits,aK,beq_iff_eq] at this;exact this.1
 unfold setNext;refine iC (i3 g rfl f ?_);dsimp only;refine iC (m:=setsByText) (iC (iX (iG ?_)));rw [vt c,if_neg (by simp)];show wpAny _ _ (if (!t.plain&&decide (es.size > 1))=iH then _ else _) _ _ _;rw [if_neg (by simp; intro _; omega)];refine iC ?_;show wpAny _ _ (if (!t.led&&!es.isEmpty)=iH then _ else _) _ _ _;rw [hl,if_neg (by simp)];refine iG (iG ?_);have e:(match es[bp t.place (yC t i)]?,t.place[bp t.place (yC t i)]? with | some (_,x),iB j=>iB (x,j+1) | _,_=>iD)=(match es[i]? with | some e=>iB (e.2,yC t (i+1)) | none=>iD:Option (iE×Nat)):=by
  obtain ⟨l⟩:=es;obtain ⟨k,⟨pl⟩,u,fi,le,o,pn⟩:=t;cases l with
  | nil=>simp
  | cons d l=>
   cases l with
   | cons _ _=>exact absurd hz (by simp)
   | nil=>
    cases pl with
    | nil=>exact absurd h (by simp)
    | cons j pl=>
     cases pl with
     | cons _ _=>exact absurd h (by simp)
     | nil=>
      have b:i=0\/i=1:=by simp at hi; omega
      rcases b with rfl | rfl;·show (match (#[d]:Array (Int×iE))[bp #[j] 0]?,(#[j]:Array Nat)[bp #[j] 0]? with | some (_,x),iB j=>iB (x,j+1) | _,_=>iD)=iB (d.2,j+1);rw [Vc,if_neg (by omega)];rfl
      ·show (match (#[d]:Array (Int×iE))[bp #[j] (j+1)]?,(#[j]:Array Nat)[bp #[j] (j+1)]? with | some (_,x),iB j=>iB (x,j+1) | _,_=>iD)=iD;rw [Vc,if_pos (by omega)];rfl
 exact Eq.mp (congrArg (λz=>Q z s) e.symm) q
theorem qbz {ep:Nat} {t:iW} (m:A.handled=iD) (d:w.params.followText "set-order"=iF) (f:t.fits es.size=iH) (hl:t.led=iH) (hz:es.size<=1) (e:a≠it):Walks prog w A it [it,a] [it] es.size (λi v=>(es.toList.map (·.2))[i]?=iB v) (λi h=>h.get? it=iB (uw (rawInt (yC t i)) i a es.size ep)/\h.get? a=iB (kn es ep t)) where
 sub:=λb d=>by simp at d; simp [d]
 frame:=λ_ _ _ st k=>⟨k it (by simp) _ st.1,k a (by simp) _ st.2⟩
 item:=λi s Q E hi st c=>by
  have l:es[i]?=iB es[i]:=bJ hi;refine Va (x:=es[i].2) (nx:=yC t (i+1)) st.1 st.2 f rfl (λA1 L R q=>Yc d f hl hz st.2 (cH hi) (by rw [l]; exact q)) λh' g j=>c es[i].2 h' s.toks ?_ ⟨g,?_⟩ λb o y r=>?_;·rw [aE,dB,l];rfl
  ·rw [j.2 a e];exact st.2
  ·rw [j.2 b (λz=>y (by simp [z]))];exact r
 done:=λs Q E st c=>Vb m st.1 st.2 f rfl (λA1 L R q=>Yc d f hl hz st.2 (ax _) (by rw [dh (ax _)]; exact q)) λh' D=>c h' s.toks λb o y r=>D b o (λz=>y (by simp [z])) r
 self:=λi s Q E st c=>gu st.1 rfl c
noncomputable def qfZ (es:Array (Int×iE)) (ps:List Nat):List iE:=ps.map λk=>(es[k]?.map (·.2)).getD .none
theorem Gh (h:ps.Perm (au es.size)):(qfZ es ps).Perm (es.toList.map (·.2)):=by
 have e:qfZ es (au es.size)=es.toList.map (·.2):=by
  apply eX;intro i;unfold qfZ;rw [aE,aE,show es.toList[i]?=es[i]? from dB];by_cases hi:i < es.size;·rw [List.getElem?_range hi,bJ hi];simp [hi]
  ·rw [bK (by rw [bC]; omega),dh (by omega)];rfl
 rw [<-e];exact h.map _
theorem Xu {ep m:Nat} {t:iW} (B:A.handled=iD) (j:t.fits es.size=iH) (hp:ps.Perm (au es.size)) (f:a≠it) (e:p≠it):Walks prog w A it [it,a,p] [it] es.size (λi v=>(qfZ es ps)[i]?=iB v) (λi h=>h.get? it=iB (uw (.ref p) i a es.size ep)/\h.get? a=iB (kn es ep t)/\h.get? p=iB { cls:=.type "tuple",data:=.seq (ps.map λ(i:Nat)=>rawInt i).toArray m }) where
 sub:=λb u=>by simp at u; simp [u]
 frame:=λ_ _ _ st k=>⟨k it (by simp) _ st.1,k a (by simp) _ st.2.1,k p (by simp) _ st.2.2⟩
 item:=λi s Q E hi st c=>by
  have n:ps.length=es.size:=by rw [hp.length_eq,bC]
  have l:i < ps.length:=by omega
  have k:ps[i] < es.size:=aM.mp (hp.mem_iff.mp (cr l));have q:es[ps[i]]?=iB es[ps[i]]:=bJ k;refine Xr (x:=es[ps[i]].2) (hx:=es[ps[i]].1) (pl:=ps[i]) st.1 st.2.1 j rfl st.2.2 ?_ q λh' g y=>c es[ps[i]].2 h' s.toks ?_ ⟨g,?_,?_⟩ λb o d r=>?_;·rw [e9,aE,ay l];rfl
  ·unfold qfZ;rw [aE,ay l];simp [q]
  ·rw [y.2 a f];exact st.2.1
  ·rw [y.2 p e];exact st.2.2
  ·rw [y.2 b (λz=>d (by simp [z]))];exact r
 done:=λs Q E st c=>by
  have n:ps.length=es.size:=by rw [hp.length_eq,bC]
  refine Gf B st.1 st.2.1 j rfl st.2.2 ?_ λh' D=>c h' s.toks λb o d r=>D b o (λz=>d (by simp [z])) r;rw [e9,bK (by simp; omega)]
 self:=λi s Q E st c=>gu st.1 rfl c
theorem qbA {t:iW} {A1:iP} {Q:iE->iI->Prop} (n:A1.handled=iD) (g:s.heap.get? a=iB (kn es ep t)) (d:SetG KpS prog w es t ks)
  (q:∀ (it:Addr) (h':Heap) (r:Drawn) (ord:List iE) (fp:List Addr) (St:Nat->Heap->Prop),(∀ b o,s.heap.get? b=iB o->h'.get? b=iB o)->ord.Perm (es.toList.map (·.2))->Walks prog w A1 it fp [it] es.size (λi v=>ord[i]?=iB v) St->St 0 h' ->(∀ b∈fp,b=a\/s.heap.objs.size<=b)->s.heap.objs.size<=it->Q (.ref it) { s with heap:=h',drawn:=r }):wpAny (model prog w) A (pyIter (.ref a)) Q E s:=by
 have hT:s.TypeIs (.ref a) "set":=⟨_,g,rfl⟩
 have f:a < s.heap.objs.size:=aq g;refine wpAny_pyIter_slot hT PySem.F.slot_set_iter (iO PySem.F.slot_set_iter hT KZ ?_ (PySem.F.args_set_iter_1 _));show wpAny _ _ (Builtin.Frozenset.sizeOf a >>= _) _ _ s;refine iC (m:=Builtin.Frozenset.sizeOf a) (iC (j9 g rfl d.fits (iG ?_)));refine iC (m:=setDrawn a) ?_;unfold setDrawn;refine iC (i3 g rfl d.fits ?_);dsimp only;refine iC (m:=setsByText) (iC (iX (iG ?_)));refine iG ?_;cases h:w.params.followText "set-order" with
 | true=>
  rw [vt h,if_neg (by simp)];refine iC (iG ?_);refine iC (m:=setEpoch a) (wpAny_setEpoch_of g rfl d.fits ?_);refine iC (iN (iG ⟨_,rfl, "set_iterator",_,⟨_,af _ rfl,rfl⟩,slot_si_next.lookup,?_⟩));refine q _ _ s.drawn _ _ _ (λb o e=>aa _ e) ((gt (w.params.setOrder a ep) es).map _) (Gg n h d.fits (aC f)) ⟨af _ rfl,aa _ g⟩ ?_ (ax _);intro b h;rcases ae.mp h with z | z;·exact .inr (z ▸ ax _)
  ·exact .inl (aD.mp z)
 | false=>
  have k:t.led=true:=by rw [d.led,h]; rfl
  rw [vt h];show wpAny _ _ (if (!false&&(!t.plain&&decide (es.size > 1)))=iH then _ else _) _ _ _;by_cases u:es.size<=1
  ·rw [if_neg (by simp; intro _; omega)];refine iC (iG ?_);refine iC (m:=setEpoch a) (wpAny_setEpoch_of g rfl d.fits ?_);refine iC (iN (iG ⟨_,rfl, "set_iterator",_,⟨_,af _ rfl,rfl⟩,slot_si_next.lookup,?_⟩));refine q _ _ s.drawn _ _ _ (λb o e=>aa _ e) (cz _) (qbz n h d.fits k u (aC f)) ⟨af _ rfl,aa _ g⟩ ?_ (ax _);intro b h;rcases ae.mp h with z | z;·exact .inr (z ▸ ax _)
   ·exact .inl (aD.mp z)
  ·have l:t.plain=false:=d.plain rfl λz=>by have h0:=d.size;rw [z,aZ] at h0;omega
   rw [if_pos (by rw [l]; simp; omega)];refine iC (Gd es.size (au es.size) s (by simp) λps r hp=>?_);have j:ps.length=es.size:=by rw [hp.length_eq,bC]
   have hsz:(ps.map λ(i:Nat)=>rawInt i).length<=sizeLine:=by rw [ah,j]; exact lh d.bd
   refine iC (lx ?_ hsz);refine iC (m:=setEpoch a) (wpAny_setEpoch_of (aa _ g) rfl d.fits ?_);refine iC (iN (iG ⟨_,rfl, "set_iterator",_,⟨_,af _ rfl,rfl⟩,slot_si_next.lookup,?_⟩));have c:s.heap.objs.size < (s.heap.push ({ cls:=.type "tuple",data:=.seq (ps.map λ(i:Nat)=>rawInt i).toArray }:Obj)).objs.size:=by rw [bh]; exact fZ _
   refine q _ _ r _ _ _ (λb o e=>aa _ (aa _ e)) (Gh hp) (Xu (p:=s.heap.objs.size) n d.fits hp (aC (eU f c)) (aC c)) ⟨af _ rfl,aa _ (aa _ g),aa _ (af _ rfl)⟩ ?_ (cH c);intro b h;rcases ae.mp h with z | z;·exact .inr (z ▸ cH c)
   ·rcases ae.mp z with z | z;·exact .inl z
    ·exact .inr (fB (aD.mp z).symm)
end
section
theorem qbB {ord:List iE} {acc:Array iE} (hl:ord.length=n) (h:ItemsOf (λi v=>ord[i]?=iB v) acc n):acc.toList=ord:=by
 apply eX;intro i;rw [show acc.toList[i]?=acc[i]? from dB];by_cases hi:i < acc.size;·rw [bJ hi];exact (h.2 i _ (bJ hi)).symm
 ·rw [dh (by omega),bK (by have:=h.1; omega)]
theorem Wu {t:iW} {Q:List iE->iI->Prop} (M:A.handled=iD) (K:s.heap.get? a=iB (kn es ep t)) (d:SetG KpS prog w es t ks)
  (N:∀ h' y tk ord,(∀ b o,s.heap.get? b=iB o->h'.get? b=iB o)->ord.Perm (es.toList.map (·.2))->Q ord { s with heap:=h',drawn:=y,toks:=tk }):wpAny (model prog w) A (collect (.ref a)) Q E s:=by
 have p:a < s.heap.objs.size:=aq K;unfold collect;refine iC (wpAny_runValue (iU PySem.F.entry_proto_collect ?_)); rw [bq PySem.F.plain_proto_collect _];show wpAny _ A.in1 (newList [] >>= λl=>again (.builtin "list.__iadd__" ⟨[l,.ref a],[]⟩)) _ _ s; refine iC (iN ?_);refine iG ⟨j8 PySem.F.plain_list_iadd _,iU PySem.F.entry_list_iadd ?_⟩; rw [bq PySem.F.plain_list_iadd _];have g:(s.heap.push { cls:=.type "list",data:=.seq ([]:List iE).toArray }).get? a=iB (kn es ep t):=aa _ K;have hT:fX { s with heap:=s.heap.push { cls:=.type "list",data:=.seq ([]:List iE).toArray } } (.ref a) "set":=⟨_,g,rfl⟩
 show wpAny _ A.in1 (bR (.ref s.heap.objs.size) (.ref a) (.ref s.heap.objs.size)) _ _ _; unfold bR;refine iC (k7 hT ?_);have h1:cX (.ref s.heap.objs.size) (.ref a)=false:=by simp [cX,cT p]
 rw [if_neg (by rw [h1]; decide)];refine iC (qbA (A1:=A.in1) M g d λit h2 y ord fp St k2 hp W D G hit=>?_);have v:h2.get? s.heap.objs.size=iB { cls:=.type "list",data:=.seq ([]:List iE).toArray }:=k2 _ _ (af _ rfl);have H:h2.get? a=iB (kn es ep t):=k2 _ _ g;refine iC (iR ?_);unfold dH;have i:fX { s with heap:=h2,drawn:=y } (.ref a) "set":=⟨_,H,rfl⟩
 refine iC (wpAny_specialOf i PySem.F.slot_set_len.lookup ?_)
 (generalize f:("set.__len__":String)=id0; (fail_if_success (clear f id0)); wp_delta; rw [show splitId id0=iB ("set", "__len__") from by subst f; decide +kernel]; subst f)
 refine iC (i7 (b:=iH) i (by rw [li]; kernel_rfl) ?_);refine iC (m:=typeOf (.ref a)) (k7 i ?_);refine iG ?_;show wpAny _ A.in1 (rule "list.extend.makes-room" >>= λ_=>Builtin.List.listTouch (.ref s.heap.objs.size) >>= λ_=>again (.builtin "list.extend.loop" ⟨[.ref s.heap.objs.size,.ref it,.ref s.heap.objs.size],[]⟩)) _ _ _;refine iC (j7 (iC ?_)); show wpAny _ A.in1 (updateSeq s.heap.objs.size (·.push .none) >>= λ_=>updateSeq s.heap.objs.size (·.pop)) _ _ _;refine iC (k9 v rfl ?_); have h:=aX (bw (·.push bD)) v rfl;refine k9 h rfl ?_; have j:=aX (bw (·.pop)) h rfl;have n:(s.heap.push ({ cls:=.type "list",data:=.seq ([]:List iE).toArray }:Obj)).objs.size=s.heap.objs.size+1:=bh ..;have k:∀ b o,b≠s.heap.objs.size->h2.get? b=iB o->((h2.update s.heap.objs.size (bw (·.push bD))).update s.heap.objs.size (bw (·.pop))).get? b=iB o:=λb o c e=>(bG _ _ (ba c)).trans ((bG _ _ (ba c)).trans e);have J:s.heap.objs.size∉fp:=λz=>by
  rcases G _ z with q | q;·exact cT p q
  ·exact Nat.not_succ_le_self _ (n ▸ q)
 have r:ord.length=es.size:=by rw [hp.length_eq];simp
 refine iG ⟨j8 cj _,codeAny_extend_loopS W.toS (lh d.bd) _ J _ es.size 0 _ _ _ rfl (bi _) (W.frame 0 h2 _ D λb c o e=>k b o (λz=>J (z ▸ c)) e) j (ItemsOf.nil _) λs' L T x I u=>?_⟩;show wpAny _ A (load s.heap.objs.size >>= _) _ _ s';refine iC (wpAny_load I (iG ?_));rw [qbB r u];obtain ⟨h',g',d',B,C⟩:=s';have P:g'=s.gens:=x.gens;have R:d'=y:=x.drawn;have O:C=s.os:=x.os;subst P R O;refine N h' d' B ord (λb o e=>?_) hp;have c:=aq e;refine x.heap b o (λz=>?_) (k b o (aC c) (k2 b o (aa _ e)));rcases ae.mp z with z | z;·exact aC c z
 ·have h3:s.heap.objs.size+1<=it:=n ▸ hit;rw [<-aD.mp z] at h3;exact bL _ (eU c h3)
theorem Xv {Q:iE->iI->Prop} (q:A.handled=iD) (S:SetK KpS prog w s.heap a ks) (j:ks.length < 64)
  (x:∀ (h1 h':Heap) r tk vs e ss,(∀ b o,s.heap.get? b=iB o->h1.get? b=iB o)->(∀ b o,h1.get? b=iB o->h'.get? b=iB o)->h'.get? h1.objs.size=iB (seqObj "list" vs e)->lH vs.toList ss->ss.Perm ks->sortedS ss=iH->Q (.ref h1.objs.size) { s with heap:=h',drawn:=r,toks:=tk }) :
  wpAny (model prog w) A (call (.builtin "sorted") [.ref a]) Q E s:=by
 obtain ⟨es,ep,t,u,d⟩:=S;refine dW kind_sorted plain_sorted entry_sorted (args_sorted1 _) ?_; unfold Builtin.«sorted»;refine iC (m:=checkCount "sorted" 1 1 _) (iG ?_);refine iC (Wu (by exact q) u d λh1 r tk ord k1 hp=>?_);have c:lH ord (ord.map strOf):=strsAre_map ord λv p=>by obtain ⟨e,i,rfl⟩:=aw.mp (hp.mem_iff.mp p);exact qfW d.el i
 have h:(ord.map strOf).Perm ks:=(hp.map strOf).trans (by rw [bb]; exact d.perm);have n:ord.length=ks.length:=by have:=h.length_eq;rwa [ah] at this
 refine iC (ly ?_ (by rw [n,iL]; omega));have Y:(h1.push (seqObj "list" ord.toArray 0)).get? h1.objs.size=iB (seqObj "list" ord.toArray 0):=af _ rfl;refine iC (iR (iO slot_list_sort (s:={ s with heap:=h1.push (seqObj "list" ord.toArray 0),drawn:=r,toks:=tk }) ⟨_,Y,rfl⟩ entry_list_sort (list_sort_treeK strKind_oneLt Y c.keysOf (λv₁ k rest e=>keyKind_strs (by rw [<-e]; exact c)) (by rw [n]; exact j) λg G C=>⟨_,rfl,?_⟩) (args_list_sort _)));obtain ⟨f,B,z,y⟩:=sorted_out_str c G C;obtain ⟨e,i⟩:=sortedHeap_at (out:=(arrOf g).map (·.2)) Y;refine iG ⟨_,rfl,x h1 _ r tk _ e f k1 (λb o D=>?_) i B (z.trans h) y⟩;have l:=aq D;rw [sortedHeap_old (aC l) (by rw [bh]; exact cV l)];exact aa _ D
end
section
theorem Vd {x:iE} {Q:iE->iI->Prop} (hit:s.heap.IsTupleIter it l i) (hl:s.heap.IsTuple l items) (hx:items[i]?=iB x)
  (c:∀ h',h'.IsTupleIter it l (i+1)->bt it s.heap h'->Q x { s with heap:=h' }):wpAny (model prog w) A (aO (.ref it)) Q E s:=by
 obtain ⟨o,m,d,hd⟩:=id hit;obtain ⟨ol,h,_,n,a⟩:=hl;unfold aO;refine iC (iM (name:=aQ "__next__") hit.typeIs bY (iO bY hit.typeIs PySem.F.entry_tuple_iterator_next ?_ (PySem.F.args_tuple_iterator_next_1 _))); show wpAny _ _ (field (.ref it) 0 >>= _) _ _ s;refine iC (iQ m hd (x:=.ref l) rfl ?_); show wpAny _ _ (if (aL l == bD)=iH then _ else _) _ _ s;rw [if_neg (show ¬((aL l == bD)=iH) from bE)]; show wpAny _ _ (field (.ref it) 1 >>= _) _ _ s;refine iC (iQ m hd (x:=.int i 0) rfl ?_); show wpAny _ _ (seqItems? (.ref l) >>= _) _ _ s;refine iC (iS h a ?_); simp only [dD,hx];refine iC (i9 m hd (by simp) (iG ⟨x,rfl,iG (c _ ?_ (bo ..))⟩)); exact ⟨_,aX _ m (Obj.isFreed_of_fields (Obj.data_mapFields hd _)),(Obj.cls_mapFields ..).trans d,by rw [Obj.data_mapFields hd]; simp [rawInt]⟩
theorem zv {Q:iE->iI->Prop} (d:A.handled=iD) (hit:s.heap.IsTupleIter it l i) (hl:s.heap.IsTuple l items) (hx:items[i]?=iD)
  (k:∀ h' e,h8 it s.heap h'->(∃ o,h'.get? e=iB o/\o.cls=.type "StopIteration")->E (.ref e) { s with heap:=h' }):wpAny (model prog w) A (aO (.ref it)) Q E s:=by
 obtain ⟨o,b,f,hd⟩:=id hit;obtain ⟨ol,h,_,n,c⟩:=hl;unfold aO;refine iC (iM (name:=aQ "__next__") hit.typeIs bY (iO bY hit.typeIs PySem.F.entry_tuple_iterator_next ?_ (PySem.F.args_tuple_iterator_next_1 _))); show wpAny _ _ (field (.ref it) 0 >>= _) _ _ s;refine iC (iQ b hd (x:=.ref l) rfl ?_); show wpAny _ _ (if (aL l == bD)=iH then _ else _) _ _ s;rw [if_neg (show ¬((aL l == bD)=iH) from bE)]; show wpAny _ _ (field (.ref it) 1 >>= _) _ _ s;refine iC (iQ b hd (x:=.int i 0) rfl ?_); show wpAny _ _ (seqItems? (.ref l) >>= _) _ _ s;refine iC (iS h c ?_); simp only [dD,hx];refine iC (j7 (iC (i9 b hd (by simp) ?_))); show wpAny _ _ (newExc (.type "StopIteration") [] >>= _) _ _ _;refine iC ?_; simp only [newExc,newTuple]; refine iC (iN ?_ (by size_fits));refine iC (m:=firstArgMember _ _) (lD (a:=bD) (by first | rfl | (simp only [firstArgMember]; rfl)) ?_); refine iN ?_ (by size_fits); simp only [raiseNew];refine iC (wpAny_handled ?_); first | rw [show A.in1.handled=iD from d] | rw [d]
 refine iC (iG (wpAny_throw ?_)); exact k _ _ (((bo ..).extBut.push _).push _) ⟨_,af _ rfl,rfl⟩
theorem Wv (f:A.handled=iD) (it l:Addr) (d:l≠it) (items:Array iE):lj prog w A it [it,l] items.size (λi v=>items[i]?=iB v) (λi h=>h.IsTupleIter it l i/\h.IsTuple l items) where
 live:=λ_ _ st=>let ⟨o,m,_⟩:=st.1; ⟨o,m⟩
 frame:=λ_ _ _ st k=>⟨st.1.at λo e=>k it (by simp) o e,let ⟨o,e,c⟩:=st.2; ⟨o,k l (by simp) o e,c⟩⟩
 item:=λi s Q E hi st g=>by refine Vd st.1 st.2 (x:=items[i]) (by simp [hi]) λh' b a=>g _ h' s.toks (by simp [hi]) ⟨b,?_⟩ a;obtain ⟨o,e,c⟩:=st.2;exact ⟨o,(a.2 l d).trans e,c⟩
 done:=λs Q E st j=>zv f st.1 st.2 (by simp) j
structure Apart2 (z TI TO i1 i2:Addr) (fp1 fp2:List Addr):Prop where
 TIz:TI≠z
 TOz:TO≠z
 i1z:i1≠z
 i2z:i2≠z
 TITO:TI≠TO
 TIi1:TI≠i1
 TIi2:TI≠i2
 TOi1:TO≠i1
 TOi2:TO≠i2
 i12:i1≠i2
 z1:z∉fp1
 z2:z∉fp2
 o1:TO∉fp1
 o2:TO∉fp2
 a12:i1∉fp2
 a21:i2∉fp1
variable {z TI TO i1 i2:Addr} {fp1 fp2:List Addr} {n1 n2:Nat} {P1 P2:Nat->iE->Prop} {S1 S2:Nat->Heap->Prop} {a b:iE}
theorem qbC {Q:iE->iI->Prop} (D:Apart2 z TI TO i1 i2 fp1 fp2) (D1:lj prog w A i1 fp1 n1 P1 S1) (D2:lj prog w A i2 fp2 n2 P2 S2)
  (hz:lm s.heap z TI TO .none) (Y:iV s.heap TI (.ref i1) (.ref i2)) (X:iV s.heap TO a b) (h1:S1 i s.heap) (h2:S2 i s.heap) (l1:i < n1) (l2:i < n2)
  (hQ:∀ x y h' tk,P1 i x->P2 i y->lm h' z TI TO (rawInt s.heap.objs.size)->iV h' TO x y->S1 (i+1) h'->S2 (i+1) h'->iV h' s.heap.objs.size x y ->(∀ c o,c≠z->c≠TO->c≠i1->c≠i2->s.heap.get? c=iB o->h'.get? c=iB o)->Q (.ref s.heap.objs.size) { s with heap:=h',toks:=tk }) :
  wpAny (model prog w) A (Builtin.«zip.__next__» ⟨[.ref z],[]⟩) (λfin s'=>∃ v,fin=.done (.ret v)/\Q v s') E s:=by
 show wpAny _ _ (field (.ref z) 2 >>= _) _ _ _; refine iC (iQ hz rfl (x:=.bool iF) rfl ?_);show wpAny _ _ (field (.ref z) 3 >>= _) _ _ _; refine iC (iQ hz rfl (x:=.ref TI) rfl ?_); refine iC (iS Y rfl ?_);show wpAny _ _ (aR (.ref z) >>= _) _ _ _; refine iC ?_; unfold aR;refine iC (iQ hz rfl (x:=.none) rfl (iG ?_)); simp only [if_true];refine iC (j7 ?_); refine iC (iQ hz rfl (x:=.ref TO) rfl ?_);refine iC (i6 hz (by simp) λh₁ r l=>?_); replace r:lm h₁ z TI TO .ellipsis:=r;refine iC ?_; simp only [List.zipIdx_cons,List.zipIdx_nil,d7,fF];refine iC (iC (lz ?_)); show wpAny _ _ (aO (.ref i1) >>= _) _ _ _;refine iC (D1.item i _ _ _ l1 (D1.frame _ _ _ h1 λc C o e=>l.extBut _ _ (λq=>D.z1 (q ▸ C)) e) λx V W hx N k=>iG ?_);have B:iV V TO a b:=(k.2 _ D.TOi1).trans (l.extBut _ _ D.TOz X);refine iC (iS B rfl ?_); refine iC (wpAny_updateSeq_pair B λU n j=>?_);replace n:iV U TO x b:=n; refine iC (lE (iG ?_));refine iC (iC (lz ?_)); show wpAny _ _ (aO (.ref i2) >>= _) _ _ _;refine iC (D2.item i _ _ _ l2 (D2.frame _ _ _ h2 λc C o e=>(j.extBut _ _ (λq=>D.o2 (q ▸ C)) ((k.2 _ (λq=>D.a12 (q ▸ C))).trans (l.extBut _ _ (λq=>D.z2 (q ▸ C)) e)))) λy T L hy M g=>iG ?_);have u:iV T TO x b:=(g.2 _ D.TOi2).trans n;refine iC (iS u rfl ?_); refine iC (wpAny_updateSeq_pair u λh d f=>?_);replace d:iV h TO x y:=d; refine iC (lE (iG (iG ?_)));refine iC (iS d rfl ?_); refine iC (lx ?_);have hsz:h.objs.size=s.heap.objs.size:=by rw [f.1,g.1,j.1,k.1,l.1]
 have G:lm h z TI TO .ellipsis:=f.extBut _ _ D.TOz.symm ((g.2 _ D.i2z.symm).trans (j.extBut _ _ D.TOz.symm ((k.2 _ D.i1z.symm).trans r)));have P:∀ c o,c≠z->c≠TO->c≠i1->c≠i2->s.heap.get? c=iB o->h.get? c=iB o:=λc o R c2 F Z e=>f.extBut _ _ c2 ((g.2 _ Z).trans (j.extBut _ _ c2 ((k.2 _ F).trans (l.extBut _ _ R e))));have K:z < h.objs.size:=aq G;show wpAny _ _ (Builtin.SmallTypes.ownedTupleHandOut (.ref z) (.ref h.objs.size) >>= _) _ _ _; refine iC ?_; unfold Builtin.SmallTypes.ownedTupleHandOut;have O:lm (h.push { cls:=.type "tuple",data:=.seq #[x,y] }) z TI TO .ellipsis:=aa _ G;refine iC (i6 O (by simp) λS p I=>?_); replace p:lm S z TI TO (rawInt h.objs.size):=p;refine i6 p (by simp) λt m H=>?_; replace m:lm t z TI TO (rawInt h.objs.size):=m;have up:∀ c o,c≠z->h.get? c=iB o->t.get? c=iB o:=λc o R e=>H.extBut _ _ R (I.extBut _ _ R (aa _ e));have J:iV t h.objs.size x y:=H.extBut _ _ (cT K) (I.extBut _ _ (cT K) (af _ rfl));rw [hsz] at m J;refine iG ⟨_,rfl,?_⟩;show Q (.ref h.objs.size) _;rw [hsz];refine hQ x y t L hx hy m (up _ _ D.TOz d) (D1.frame _ _ _ N λc C o e=>up _ _ (λq=>D.z1 (q ▸ C)) (f.extBut _ _ (λq=>D.o1 (q ▸ C)) ((g.2 _ (λq=>D.a21 (q ▸ C))).trans (j.extBut _ _ (λq=>D.o1 (q ▸ C)) e))))
  (D2.frame _ _ _ M λc C o e=>up _ _ (λq=>D.z2 (q ▸ C)) (f.extBut _ _ (λq=>D.o2 (q ▸ C)) e)) J λc o R c2 F Z e=>up c o R (P c o R c2 F Z e)
theorem qdU {Q:Fin->iI->Prop} (D:Apart2 z TI TO i1 i2 fp1 fp2) (M:lj prog w A i1 fp1 n1 P1 S1) (P:lj prog w A i2 fp2 n2 P2 S2)
  (hz:lm s.heap z TI TO .none) (Y:iV s.heap TI (.ref i1) (.ref i2)) (X:iV s.heap TO a b) (h1:S1 i s.heap) (h2:S2 i s.heap) (y:i=n1\/(i < n1/\i=n2))
  (O:∀ h' tk e,(∀ c o,c≠z->c≠TO->c≠i1->c≠i2->s.heap.get? c=iB o->h'.get? c=iB o)->(∃ o,h'.get? e=iB o/\o.cls=.type "StopIteration")->E (.ref e) { s with heap:=h',toks:=tk }) :
  wpAny (model prog w) A (Builtin.«zip.__next__» ⟨[.ref z],[]⟩) Q E s:=by
 show wpAny _ _ (field (.ref z) 2 >>= _) _ _ _; refine iC (iQ hz rfl (x:=.bool iF) rfl ?_);show wpAny _ _ (field (.ref z) 3 >>= _) _ _ _; refine iC (iQ hz rfl (x:=.ref TI) rfl ?_); refine iC (iS Y rfl ?_);show wpAny _ _ (aR (.ref z) >>= _) _ _ _; refine iC ?_; unfold aR;refine iC (iQ hz rfl (x:=.none) rfl (iG ?_)); simp only [if_true];refine iC (j7 ?_); refine iC (iQ hz rfl (x:=.ref TO) rfl ?_);refine iC (i6 hz (by simp) λh₁ r l=>?_); replace r:lm h₁ z TI TO .ellipsis:=r;refine iC ?_; simp only [List.zipIdx_cons,List.zipIdx_nil,d7,fF];refine iC (iC (lz ?_)); show wpAny _ _ (aO (.ref i1) >>= _) _ _ _;have f1:S1 i h₁:=M.frame _ _ _ h1 λc C o e=>l.extBut _ _ (λq=>D.z1 (q ▸ C)) e;rcases y with rfl | ⟨hlt,rfl⟩
 ·refine iC (M.done _ _ _ f1 λd e k J=>?_);obtain ⟨I,h,K⟩:=J;have g:lm d z TI TO .ellipsis:=k _ _ D.i1z.symm r;have t:e≠z:=λx=>by subst x; rw [g] at h; cases h; simp at K
  exact i6 g (by simp) λp _ j=>O p s.toks e (λc o G _ L _ x=>j.extBut _ _ G (k _ _ L (l.extBut _ _ G x))) ⟨I,j.extBut _ _ t h,K⟩
 ·refine iC (M.item i _ _ _ hlt f1 λx d W hx N k=>iG ?_);have B:iV d TO a b:=(k.2 _ D.TOi1).trans (l.extBut _ _ D.TOz X);refine iC (iS B rfl ?_); refine iC (wpAny_updateSeq_pair B λp H j=>?_);refine iC (lE (iG ?_)); refine iC (iC (lz ?_)); show wpAny _ _ (aO (.ref i2) >>= _) _ _ _;refine iC (P.done _ _ _ (P.frame _ _ _ h2 λc C o e=>(j.extBut _ _ (λq=>D.o2 (q ▸ C)) ((k.2 _ (λq=>D.a12 (q ▸ C))).trans (l.extBut _ _ (λq=>D.z2 (q ▸ C)) e)))) λv e n J=>?_);obtain ⟨I,h,K⟩:=J;have f:lm v z TI TO .ellipsis:=n _ _ D.i2z.symm (j.extBut _ _ D.TOz.symm ((k.2 _ D.i1z.symm).trans r));have t:e≠z:=λx=>by subst x; rw [f] at h; cases h; simp at K
  exact i6 f (by simp) λu _ m=>O u W e (λc o G c2 L R x=>m.extBut _ _ G (n _ _ R (j.extBut _ _ c2 ((k.2 _ L).trans (l.extBut _ _ G x))))) ⟨I,m.extBut _ _ t h,K⟩
theorem Ww {Q:Option iE->iI->Prop} (D:Apart2 z TI TO i1 i2 fp1 fp2) (M:lj prog w A.in1 i1 fp1 n1 P1 S1) (P:lj prog w A.in1 i2 fp2 n2 P2 S2)
  (hz:lm s.heap z TI TO .none) (Y:iV s.heap TI (.ref i1) (.ref i2)) (X:iV s.heap TO a b) (h1:S1 i s.heap) (h2:S2 i s.heap) (d:i < n1) (l:i < n2)
  (h:∀ x y h' tk,P1 i x->P2 i y->lm h' z TI TO (rawInt s.heap.objs.size)->iV h' TO x y->S1 (i+1) h'->S2 (i+1) h'->iV h' s.heap.objs.size x y ->(∀ c o,c≠z->c≠TO->c≠i1->c≠i2->s.heap.get? c=iB o->h'.get? c=iB o)->Q (iB (.ref s.heap.objs.size)) { s with heap:=h',toks:=tk }):wpAny (model prog w) A (pyNext (.ref z)) Q E s:=by
 have hT:s.TypeIs (.ref z) "zip":=⟨_,hz,rfl⟩
 unfold pyNext;exact iC (iZ (iM (name:=aQ "__next__") hT bx (iO bx hT dj
  (qbC D M P hz Y X h1 h2 d l λx y h' tk p g f q m e k j=>iG (h x y h' tk p g f q m e k j)) (c9 _))))
theorem Xw {Q:Option iE->iI->Prop} (D:Apart2 z TI TO i1 i2 fp1 fp2) (M:lj prog w A.in1 i1 fp1 n1 P1 S1) (P:lj prog w A.in1 i2 fp2 n2 P2 S2)
  (hz:lm s.heap z TI TO .none) (Y:iV s.heap TI (.ref i1) (.ref i2)) (X:iV s.heap TO a b) (h1:S1 i s.heap) (h2:S2 i s.heap) (y:i=n1\/(i < n1/\i=n2))
  (f:∀ h' tk,(∀ c o,c≠z->c≠TO->c≠i1->c≠i2->s.heap.get? c=iB o->h'.get? c=iB o)->Q iD { s with heap:=h',toks:=tk }):wpAny (model prog w) A (pyNext (.ref z)) Q E s:=by
 have hT:s.TypeIs (.ref z) "zip":=⟨_,hz,rfl⟩
 unfold pyNext;refine iC (iZ (iM (name:=aQ "__next__") hT bx (iO bx hT dj (qdU D M P hz Y X h1 h2 y λh' tk e k h=>?_) (c9 _))));obtain ⟨o,m,d⟩:=h;refine iC (i7 (T := "StopIteration") (b:=iH) ⟨o,m,d⟩ lw ?_);exact iG (f _ _ k)
end
section
theorem qcz (a:A.handled=iD) (k:SK) (it l:Addr) (e:l≠it) (items:Array iE):lj prog w A it [it,l] items.size (λi v=>items[i]?=iB v) (λi h=>ItK h it l k i/\SeqK h l k items):=by
 cases k with
 | l=>exact Draws.list a it l e items
 | t=>exact Wv a it l e items
end
abbrev zH1 (k1:SK) (h:Heap) (i:Addr):Heap:=h.push { cls:=.type k1.itc,data:=.fields #[.ref i,.int 0 0] }
abbrev zH2 (k1 k2:SK) (h:Heap) (i l:Addr):Heap:=(zH1 k1 h i).push { cls:=.type k2.itc,data:=.fields #[.ref l,.int 0 0] }
abbrev zH3 (k1 k2:SK) (h:Heap) (i l:Addr):Heap:=(zH2 k1 k2 h i l).push { cls:=.type "tuple",data:=.seq #[.ref h.objs.size,.ref (zH1 k1 h i).objs.size] }
abbrev zH4 (k1 k2:SK) (h:Heap) (i l:Addr):Heap:=(zH3 k1 k2 h i l).push { cls:=.type "tuple",data:=.seq #[.none,.none] }
abbrev zH5 (k1 k2:SK) (h:Heap) (i l:Addr):Heap:=(zH4 k1 k2 h i l).push { cls:=.type "zip",data:=.fields #[.none,.bool iF,.bool iF,.ref (zH2 k1 k2 h i l).objs.size,.ref (zH3 k1 k2 h i l).objs.size] }
theorem Gi (k1 k2:SK) (i l:Addr) (xs ys:Array iE):Meets (Builtin.«zip.__new__» ⟨[.type "zip",.ref i,.ref l],[]⟩) (λ_ R s=>SeqK s.heap i k1 xs/\SeqK s.heap l k2 ys/\R (.ok (.ret (.ref (zH4 k1 k2 s.heap i l).objs.size))) { s with heap:=zH5 k1 k2 s.heap i l }):=
 .of_wp λprog w A R s h=>by
  obtain ⟨hp,g,d,tk,os⟩:=s; obtain ⟨t,f,h⟩:=h;have c:=sub_zip;have b:SeqK (Shared.heap ⟨hp,g,d,tk,os⟩) i k1 xs:=t;have a:SeqK (Shared.heap ⟨hp.push { cls:=.type k1.itc,data:=.fields #[.ref i,.int 0 0] },g,d,tk,os⟩) l k2 ys:=SeqK.at f λo e=>aa _ e;wp_walk using qbs b,qbs a
  exact ⟨_,rfl,h⟩
variable {t':Nat}
section
theorem Gj {ch:List Addr} (I:Inv X pins σ H s) (k:∀ b o,b∉ch->s.heap.get? b=iB o->h'.get? b=iB o) (h:∀ b∈ch,VT X pins H b):Inv X pins σ H { s with heap:=h',toks:=t' }:=by
 have t:∀ b u,H b=iB u->b∉ch:=λb u e z=>by rw [(h b z).1] at e;cases e
 refine I.step (g':=s.gens) (d':=s.drawn) (ch:=ch) (λb g=>?_) (λb o _ _ d e _=>k b o d e) (λb o _ _ d e _=>⟨o.slots,k b o d e⟩) (λ_ _ _ _ n=>n) (λb o d e=>⟨o,k b o d e⟩) (λ_ _ e=>e) (λ_ _ _ e=>e) (λb ps e=>⟨#[],by rw [e]; simp⟩) (λm f=>?_) (λb u e=>?_) I.bare;·obtain ⟨f0,f1,f2,j,f4,i⟩:=h b g;exact ⟨j,f1,f4,i⟩
 ·obtain ⟨o,es,ep,a,r⟩:=f;exact ⟨o,es,ep,k _ o (λz=>(h _ z).2.1 rfl) a,r⟩
 ·refine (I.hok b u e).stay (λc v d q=>k c v ?_ q) (λ_ q=>q) λ_ _ q=>q;rcases d with z | z
  ·rw [z];exact t b u e
  ·exact t c _ z
theorem qjf {d':Drawn} (I:Inv X pins σ H s) (k:∀ b u,s.heap.get? b=iB u->h'.get? b=iB u):Inv X pins σ H { s with heap:=h',drawn:=d',toks:=t' }:=by refine I.step (g':=s.gens) (d':=d') (ch:=[]) (λ_ z=>nomatch z) (λb o _ _ _ e _=>k b o e) (λb o _ _ _ e _=>⟨o.slots,k b o e⟩) (λ_ _ _ _ n=>n) (λb o _ e=>⟨o,k b o e⟩) (λ_ _ e=>e) (λ_ _ _ e=>e) (λb ps e=>⟨#[],by rw [e]; simp⟩) (λm c=>?_) (I.hok.kept k) I.bare;obtain ⟨o,es,ep,h,r⟩:=c;exact ⟨o,es,ep,k _ o h,r⟩
theorem Gk {xs:List V} (I:Inv X pins σ H s):∀ {k:SK},SqK X.K H a k xs->∃ its:List iE,Vals xs its/\SeqK s.heap a k its.toArray
 | .l,h=>let ⟨its,r,p,_⟩:=I.list h; ⟨its,r,p.isList⟩
 | .t,h=>let ⟨its,r,p,_⟩:=I.tuple h; ⟨its,r,p⟩
end
variable {us:List iE}
theorem gx {xs:List V} (r:Vals xs us) (h:us[i]?=iB u):∃ x,xs[i]?=iB x/\RelV x u:=by
 have hi:i < us.length:=(aB.mp h).1;have hx:i < xs.length:=by rw [r.length]; exact hi
 obtain ⟨a,h1,h2⟩:=r.get (ay hx);rw [h] at h1;cases h1;exact ⟨xs[i],ay hx,h2⟩
theorem Gm (b p o:Nat) (h1:p < b) (h2:o < b):Apart2 (b+4) (b+2) (b+3) b (b+1) [b,p] [b+1,o]:=by have ne:∀ x y:Nat,x≠y->x≠y:=λ_ _ h=>h;have n:∀ x a c:Nat,x≠a->x≠c->x∉[a,c]:=λx a c n1 n2 h=>(ae.mp h).elim n1 λh=>n2 (aD.mp h);exact ⟨ne _ _ (by omega),ne _ _ (by omega),ne _ _ (by omega),ne _ _ (by omega),ne _ _ (by omega),ne _ _ (by omega),ne _ _ (by omega),ne _ _ (by omega),ne _ _ (by omega),ne _ _ (by omega),n _ _ _ (by omega) (by omega),n _ _ _ (by omega) (by omega),n _ _ _ (by omega) (by omega),n _ _ _ (by omega) (by omega),n _ _ _ (by omega) (by omega),n _ _ _ (by omega) (by omega)⟩
theorem Gn:bootBuiltins "zip"=iB (.type "zip"):=by decide +kernel
variable {own:List Nat} {fa:Sl->Out (D×Sl)} {ma:Mo} {pos:Pos}
section
variable {a c:Expr} {fb:Sl->Out (D×Sl)} {mb:Mo}
noncomputable def qeS (xs ys:List D):List D:=dm (λx y=>.tup [x,y]) xs ys
end
def leS (x y:Str):Prop:=¬y.cps.toList < x.cps.toList
noncomputable def qeT (x:Str):List Str->List Str
 | []=>[x]
 | y::l=>if vB y x=iH then y::qeT x l else x::y::l
noncomputable def kF:List Str->List Str
 | []=>[]
 | x::l=>qeT x (kF l)
variable {y:Str}
theorem gy {z:Str} (a:leS x y) (b:leS y z):leS x z:=List.le_trans (α:=Nat) a b
theorem Go (x y:Str):leS x y\/leS y x:=List.le_total (α:=Nat) x.cps.toList y.cps.toList
theorem Jk (a:leS x y) (b:leS y x):x=y:=by have e:=List.le_antisymm (α:=Nat) (as:=x.cps.toList) (bs:=y.cps.toList) a b;obtain ⟨⟨l⟩⟩:=x;obtain ⟨⟨m⟩⟩:=y;simp at e;rw [e]
theorem strLt_false:vB y x=iF↔leS x y:=by unfold vB leS;exact decide_eq_false_iff_not
theorem gz (x:Str):∀ l,(qeT x l).Perm (x::l)
 | []=>cz _
 | y::l=>by
  unfold qeT;split;·exact ((gz x l).cons y).trans (fE _ _ _)
  ·exact cz _
theorem qI:∀ l,(kF l).Perm l
 | []=>cz _
 | x::l=>(gz x _).trans ((qI l).cons x)
theorem gA (x:Str):∀ l,l.Pairwise leS->(qeT x l).Pairwise leS
 | [],_=>db _ _
 | y::l,h=>by
  have h0:=be.mp h;unfold qeT;split
  ·rename_i t;have b:leS y x:=by
    rcases Go y x with q | q;·exact q
    ·rw [<-strLt_false] at q;rw [q] at t;cases t
   refine be.mpr ⟨λz hz=>?_,gA x l h0.2⟩;rcases ae.mp ((gz x l).mem_iff.mp hz) with rfl | hz;·exact b
   ·exact h0.1 z hz
  ·rename_i t;have a:leS x y:=strLt_false.mp (by cases e:vB y x with | true=>exact absurd e t | false=>rfl);refine be.mpr ⟨λz hz=>?_,h⟩;rcases ae.mp hz with rfl | hz;·exact a
   ·exact gy a (h0.1 z hz)
theorem jm:∀ l,(kF l).Pairwise leS
 | []=>dE
 | x::l=>gA x _ (jm l)
theorem ux:∀ {l m:List Str},l.Perm m->l.Pairwise leS->m.Pairwise leS->l=m
 | [],m,p,_,_=>p.nil_eq
 | x::l,[],p,_,_=>absurd p.length_eq (by simp)
 | x::l,y::m,p,hl,hm=>by
  have a:=be.mp hl;have b:=be.mp hm;have c:x=y:=by
   have h1:y∈x::l:=p.mem_iff.mpr (ai ..);have h2:x∈y::m:=p.mem_iff.mp (ai ..);rcases ae.mp h1 with e | e;·exact e.symm
   ·rcases ae.mp h2 with d | d;·exact d
    ·exact Jk (a.1 y e) (b.1 x d)
  subst c;rw [ux p.cons_inv a.2 b.2]
theorem QG:∀ (x:Str) (l:List Str),risingS x l=iH->(x::l).Pairwise leS
 | x,[],_=>db _ _
 | x,y::l,h=>by
  have h:(!ltCps y.cps.toList x.cps.toList&&risingS y l)=true:=h;rw [aK] at h;have j:=QG y l h.2;have a:leS x y:=by have h1:=h.1;rw [ltCps_eq] at h1;unfold leS;simpa using h1
  refine be.mpr ⟨λz hz=>?_,j⟩;rcases ae.mp hz with rfl | hz;·exact a
  ·exact gy a ((be.mp j).1 z hz)
theorem Wx:∀ (l:List Str),sortedS l=iH->l.Pairwise leS
 | [],_=>dE
 | x::l,h=>QG x l h
variable {ss:List Str}
theorem Ve (p:ss.Perm ks) (h:sortedS ss=iH):ss=kF ks:=ux (p.trans (qI ks).symm) (Wx ss h) (jm ks)
noncomputable def xB:List D->Option (List Str)
 | []=>iB []
 | .str x::l=>(xB l).map (x::·)
 | _::_=>iD
noncomputable def wx:D->Option (List Str)
 | .lst ds=>xB ds
 | .tup ds=>xB ds
 | _=>iD
noncomputable def qeU [DecidableEq κ] (T:KP κ) (P:iJ) (w:iK) (p:Addr) (ks:List κ):HO:=.ext λh=>SetK T P w h p ks
theorem qdV [DecidableEq κ] {T:KP κ} {ks:List κ} (x:SetK T P w h p ks):ObjOk P w H h p (qeU T P w p ks):=
 ⟨x,let ⟨_,_,_,e,_⟩:=x; ⟨_,e⟩,λ_ _ a k=>a.at k⟩
structure KD {κ:Type} [DecidableEq κ] (T:KP κ) where
 sqd:D->Option (List κ)
 ok:κ->Prop
 get:∀ {K:Frag} {F:Hp} {dx:D} {ss:List κ},sqd dx=iB ss->∃ ds,Ql dx=.ok ds/\∀ {vs:List V} {us:List iE},IsL K F vs ds->Vals vs us->us.length=ss.length/\(∀ (i:Nat) (v:iE),us[i]?=iB v->∃ x,ss[i]?=iB x/\∀ p w,(T.kd p w).is x v=iH)/\∀ x∈ss,ok x
theorem Jl:∀ {vs:List V} {us:List iE} {ds:List D} {ss:List Str},IsL K F vs ds->Vals vs us->xB ds=iB ss->lH us ss/\∀ x∈ss,x.length<=sizeLine
 | [],[],[],ss,_,_,e=>by cases e; exact ⟨.nil,λx h=>by cases h⟩
 | v::vs,u::us,d::ds,ss,.cons i il,.cons r rl,e=>by
  cases d with
  | str x=>
   cases q:xB ds with
   | none=>have e:(xB ds).map (x::·)=iB ss:=e;rw [q] at e;cases e
   | some sl=>
    have e:(xB ds).map (x::·)=iB ss:=e;rw [q] at e;cases e;cases i with
    | str hz=>
     obtain ⟨t,rfl⟩:=r;have j:=Jl il rl q;refine ⟨.cons x t j.1,λy B=>?_⟩;rcases ae.mp B with rfl | B;·exact hz
     ·exact j.2 y B
  | _=>cases e
variable {f:Sl->Out (D×Sl)}
section
variable {e:Expr}
theorem Vf:∀ (l ks:List Str) {x:Str},x∈l.foldl xb ks->x∈ks\/x∈l
 | [],ks,x,h=>.inl h
 | y::l,ks,x,h=>by
  rcases Vf l (xb ks y) h with q | q
  ·unfold xb at q;split at q;·exact .inl q
   ·rcases aI.mp q with q | q;·exact .inl q
    ·exact .inr (by rw [aD.mp q]; exact ai ..)
  ·exact .inr (ac _ q)
theorem Yd (e:xB ds=iB ss) (l:IsL K F vs ds) (d:Vals vs us):us.length=ss.length/\(∀ (i:Nat) (v:iE),us[i]?=iB v->∃ x,ss[i]?=iB x/\∀ p w,(KpS.kd p w).is x v=iH)/\∀ x∈ss,x.length<=sizeLine:=by obtain ⟨st,B⟩:=Jl l d e;refine ⟨st.length,λi v h=>?_,B⟩;obtain ⟨y,t,e1,a⟩:=st.item i v h;refine ⟨y,a,λp w=>?_⟩;rw [e1];show fS y (.str y t)=iH;simp [fS]
noncomputable def KdS:KD KpS where
 sqd:=wx
 ok:=λy=>y.length<=sizeLine
 get:=λ{K F dx ss} e=>by
  cases dx with
  | lst ds=>exact ⟨ds,rfl,Yd e⟩
  | tup ds=>exact ⟨ds,rfl,Yd e⟩
  | _=>cases e
theorem qcA [DecidableEq κ] {T:KP κ} (U:KD T) (E:C.K=X.K) (z:X.calm=iH):uh X (.type "set") (λxs H Q=>∃ x F dx ss,xs=[x]/\Same F H/\TopIs C.K F H x dx/\U.sqd dx=iB ss/\ss.length < 4000/\((∀ y∈ss,U.ok y)->∀ p,H p=iD->Q (.ref p) (upd H p (qeU T X.prog X.w p (ss.foldl yB []))))):=by
 intro pins s σ H xs us Q I r h;obtain ⟨x,F,dx,ss,rfl,f,t,es,hl,q⟩:=h;obtain ⟨u,rfl,A⟩:=yv r;obtain ⟨ds,e,hg⟩:=U.get (K:=C.K) (F:=F) es;obtain ⟨a,sk,vs,rfl,hq,l⟩:=US f t e;cases A;rw [E] at hq;obtain ⟨its,o,n,g,m,c,j,hd,hz⟩:=qcx I hq;obtain ⟨d,hi,B⟩:=hg l g;refine Gc (T:=T) (λA1 L R hA k=>?_) λh' tk S kp=>⟨.ref s.heap.objs.size,_,I.laid (t':=tk) kp (ax _) (qdV S),rfl,q B _ (I.hok.fresh (ax _))⟩
 exact qje (sk:=sk) (items:=its.toArray) (hA.trans (I.ok.hd z)) (Gb (af _ rfl)) (.of (aa _ m) hd c) (by simp [d]) (λi v e=>(hi i v (by simpa using e)).imp λx h=>⟨h.1,h.2 _ _⟩) (by rw [am,d]; unfold scanBound; omega) (aC (aq m)) λh' tk S kp=>k h' tk S λb o D=>kp b o (aC (aq D)) (aa _ D)
theorem gB:∀ {us:List iE} {ss:List Str},lH us ss->Vals (ss.map V.str) us
 | _,_,.nil=>.nil
 | _,_,.cons y t h=>.cons ⟨t,rfl⟩ (gB h)
theorem Gp (c:X.calm=iH):uh X (.builtin "sorted") (λxs H Q=>∃ a ks,xs=[.ref a]/\H a=iB (qeU KpS X.prog X.w a ks)/\ks.length < 64/\∀ p,H p=iD->Q (.ref p) (upd H p (.lst ((kF ks).map V.str)))):=by
 intro pins s σ H xs us Q I r h;obtain ⟨a,ks,rfl,g,j,q⟩:=h;obtain ⟨u,rfl,A⟩:=yv r;cases A;have S:SetK KpS X.prog X.w s.heap a ks:=(I.hok a _ g).1;refine Xv (I.ok.hd c) S j λh1 h' b tk vs e ss k1 k2 hp st pm so=>?_;rw [Ve pm so] at st;have d:Inv X pins σ H { s with heap:=h1,drawn:=b,toks:=tk }:=qjf I k1;have hz:(kF ks).length<=sizeLine:=by rw [(qI ks).length_eq,iL];omega
 refine ⟨.ref h1.objs.size,_,d.laid (t':=tk) (o:=.lst ((kF ks).map V.str)) k2 (ax _) ⟨by rw [ah]; exact hz,vs.toList,e,gB st,by simpa [seqObj] using hp⟩,rfl,q _ (d.hok.fresh (ax _))⟩
theorem qdW [DecidableEq κ] {T:KP κ}:uh X (.builtin "len") (λxs H Q=>∃ a ks,xs=[.ref a]/\H a=iB (qeU T X.prog X.w a ks)/\Q (.int ks.length) H):=by intro pins s σ H xs us Q I r h;obtain ⟨a,ks,rfl,g,q⟩:=h;obtain ⟨u,rfl,A⟩:=yv r;cases A;obtain ⟨es,ep,t,m,d⟩:SetK T X.prog X.w s.heap a ks:=(I.hok a _ g).1;have b:=d.bd;refine call_len_set m ⟨rfl,rfl,rfl⟩ rfl d.fits (by unfold scanBound at b; omega) ?_;exact ⟨.int ks.length,H,I.tok _,⟨_,by rw [d.size]⟩,q⟩
theorem Wy {m:Mo} {Q R:VK} (h:tE C own m f σ H Q) (i:∀ v H1,Q v H1->R v H1):tE C own m f σ H R:=by
 obtain ⟨F,ρ,r,po⟩:=h;refine ⟨F,ρ,r,?_⟩;cases q:f ρ with
 | ok p=>rw [q] at po;obtain ⟨d,ρ1⟩:=p;exact λv F1 H1 a b c=>i _ _ (po v F1 H1 a b c)
 | exc c ρ1=>rw [q] at po;exact po
 | bad=>rw [q] at po;exact po.elim
noncomputable def vH (d:D):Out D:=match wx d with
 | some ss=>if ss.length < 64 then .ok (.lst ((kF (ss.foldl xb [])).map D.str)) else .bad
 | none=>.bad
noncomputable def gC (d:D):Out D:=match wx d with
 | some ss=>if ss.length < 4000 then .ok (.int (ss.foldl xb []).length) else .bad
 | none=>.bad
theorem zI:∀ {ss:List Str},(∀ x∈ss,x.length<=sizeLine)->IsL K F (ss.map V.str) (ss.map D.str)
 | [],_=>.nil
 | x::l,h=>.cons (.str (h x (ai ..))) (zI λy B=>h y (ac _ B))
theorem xC {p p2 pos2:Pos} (o:C.K=X.K) (j:X.calm=iH) (hg:Gl X "sorted") (m:X.mg "sorted"=iD) (v:bootBuiltins "sorted"=iB (.builtin "sorted")) (g:Gl X "set") (d:X.mg "set"=iD) (c:bootBuiltins "set"=iB (.type "set")) (n:PE X e (tE C own ma fa))
  (i:starEach [e] X.env=[(iF,eval e X.env)]:=by exact qJ rfl) (b:starEach [.Call (.Name "set" p2) [e] [] pos2] X.env=[(iF,eval (.Call (.Name "set" p2) [e] [] pos2) X.env)]:=by exact qJ rfl) :
  PE X (.Call (.Name "sorted" p) [.Call (.Name "set" p2) [e] [] pos2] [] pos) (tE C own .fr (d1 vH fa)):=by
 refine jG (wF (Gp j) hg m v (qO (uj (qcA KdS o j) g d c (qO n jE i) (by decide) (by decide) (by rw [i]; rfl) rfl) jE b) (by decide) (by decide) (by rw [b]; rfl) rfl) λσ H Q h=>?_;refine Wy (gc (ma:=ma) h) λx H1 ⟨A,F,dx,ex,s,k,po⟩=>?_;cases ex;unfold vH at po;cases es:wx dx with
 | none=>rw [es] at po;exact po.elim
 | some ss=>
  rw [es] at po;by_cases hl:ss.length < 64
  ·have po:PoV C .fr F H1 (if ss.length < 64 then .ok (.lst ((kF (ss.foldl xb [])).map D.str)) else .bad) Q:=po;rw [if_pos hl,<-Yb] at po;refine ⟨x,F,dx,ss,rfl,s,k,es,by omega,λB q hq=>⟨q,_,rfl,qt,?_,λl f=>?_⟩⟩;·have:=xc ss [];rw [aZ] at this;omega
   ·obtain ⟨s1,r,f1⟩:=kL (u:=qeU KpS X.prog X.w q (ss.foldl yB [])) s hq;obtain ⟨s2,c2,f2⟩:=kL (u:=.lst ((kF (ss.foldl yB [])).map V.str)) s1 f;have t:H1 l=none:=by
     by_cases z:l=q;·rw [z] at f;rw [qt] at f;cases f
     ·rwa [qB z] at f
    refine po _ _ _ s2 (r.trans' c2) ⟨l,rfl,t,f2,_,qt,zI λy a=>B y ?_⟩;rw [Yb] at a;rcases Vf ss [] ((qI _).mem_iff.mp a) with z | z;·cases z
    ·exact z
  ·have po:PoV C .fr F H1 (if ss.length < 64 then .ok (.lst ((kF (ss.foldl xb [])).map D.str)) else .bad) Q:=po;rw [if_neg hl] at po;exact po.elim
noncomputable def qeV [DecidableEq κ] {T:KP κ} (U:KD T) (add:List κ->κ->List κ) (d:D):Out D:=match U.sqd d with
 | some ss=>if ss.length < 4000 then .ok (.int (ss.foldl add []).length) else .bad
 | none=>.bad
theorem QH [DecidableEq κ] {T:KP κ} (U:KD T) {p p2 pos2:Pos} (j:C.K=X.K) (a:X.calm=iH) (hg:Gl X "len") (m:X.mg "len"=iD) (v:bootBuiltins "len"=iB (.builtin "len")) (g:Gl X "set") (d:X.mg "set"=iD) (c:bootBuiltins "set"=iB (.type "set")) (f:PE X e (tE C own ma fa))
  (i:starEach [e] X.env=[(iF,eval e X.env)]:=by exact qJ rfl) (b:starEach [.Call (.Name "set" p2) [e] [] pos2] X.env=[(iF,eval (.Call (.Name "set" p2) [e] [] pos2) X.env)]:=by exact qJ rfl) :
  PE X (.Call (.Name "len" p) [.Call (.Name "set" p2) [e] [] pos2] [] pos) (tE C own .sh (d1 (qeV U yB) fa)):=by
 refine jG (wF (qdW (T:=T)) hg m v (qO (uj (qcA U j a) g d c (qO f jE i) (by decide) (by decide) (by rw [i]; rfl) rfl) jE b) (by decide) (by decide) (by rw [b]; rfl) rfl) λσ H Q h=>?_;refine Wy (gc (ma:=ma) h) λx H1 ⟨n,F,dx,ex,y,t,po⟩=>?_;cases ex;unfold qeV at po;cases es:U.sqd dx with
 | none=>rw [es] at po;exact po.elim
 | some ss=>
  rw [es] at po;have po:PoV C .sh F H1 (if ss.length < 4000 then .ok (.int (ss.foldl yB []).length) else .bad) Q:=po;by_cases hl:ss.length < 4000;·rw [if_pos hl] at po;refine ⟨x,F,dx,ss,rfl,y,t,es,hl,λB q hq=>⟨q,_,rfl,qt,?_⟩⟩;obtain ⟨s1,k,f1⟩:=kL (u:=qeU T X.prog X.w q (ss.foldl yB [])) y hq;exact po _ _ _ s1 k (.int _)
  ·rw [if_neg hl] at po;exact po.elim
theorem Gq {p p2 pos2:Pos} (j:C.K=X.K) (a:X.calm=iH) (hg:Gl X "len") (m:X.mg "len"=iD) (v:bootBuiltins "len"=iB (.builtin "len")) (g:Gl X "set") (h:X.mg "set"=iD) (c:bootBuiltins "set"=iB (.type "set")) (f:PE X e (tE C own ma fa))
  (i:starEach [e] X.env=[(iF,eval e X.env)]:=by exact qJ rfl) (b:starEach [.Call (.Name "set" p2) [e] [] pos2] X.env=[(iF,eval (.Call (.Name "set" p2) [e] [] pos2) X.env)]:=by exact qJ rfl) :
  PE X (.Call (.Name "len" p) [.Call (.Name "set" p2) [e] [] pos2] [] pos) (tE C own .sh (d1 gC fa)):=by
 rw [show gC=qeV KdS yB by rw [Yb];funext d;have q:KdS.sqd d=wx d:=rfl;unfold gC qeV;rw [q];cases wx d <;> rfl];exact QH KdS j a hg m v g h c f i b
end
variable {β:Type}
@[simp] theorem kN {a:α} {k:α->Out β}:(Out.ok a).bind k=k a:=rfl
@[simp] theorem qiw {c:Str} {o:Sl} {k:α->Out β}:(Out.exc c o:Out α).bind k=.exc c o:=rfl
@[simp] theorem qix {k:α->Out β}:(Out.bad:Out α).bind k=.bad:=rfl
@[simp] theorem qhN {a:α}:(Out.ok a).plain=.ok a:=rfl
@[simp] theorem qiy:(Out.bad:Out α).plain=.bad:=rfl
variable {c:Prop}
@[simp] theorem qiz [Decidable c] {a b:Out α} {k:α->Out β}:(if c then a else b).bind k=if c then a.bind k else b.bind k:=by split <;> rfl
@[simp] theorem qiA [Decidable c] {a b:Out α}:(if c then a else b).plain=if c then a.plain else b.plain:=by split <;> rfl
noncomputable def qbD (d:D) (A B:Out α):Out α:=match d with
 | .bl b=>if b=iH then A else B
 | _=>.bad
@[simp] theorem qgV {A B:Out α}:qbD (.bl b) A B=if b=iH then A else B:=rfl
noncomputable def qiB (p:D×Sl):Out (Bool×Sl):=match p.1 with
 | .bl b=>.ok (b,p.2)
 | _=>.bad
variable {ρ:Sl}
@[simp] theorem qhO:qiB (.bl b,ρ)=.ok (b,ρ):=rfl
noncomputable def Gr (ms:List PM):Out (Fl×Sl)->Out (D×List D)
 | .ok (.nx,ρ)=>.ok (.non,qv ρ 0 ms)
 | .ok (.rt d,ρ)=>.ok (d,qv ρ 0 ms)
 | .ok _=>.bad
 | .exc c ρ=>.exc c ((qv ρ 0 ms).map iB)
 | .bad=>.bad
variable {ms:List PM}
theorem runD_ap {f:Sl->Out (Fl×Sl)}:kr N ms f ds=Gr ms (f (qx N ds)):=by unfold kr Gr;rfl
@[simp] theorem qiC:Gr ms (.ok (.rt d,ρ))=.ok (d,qv ρ 0 ms):=rfl
@[simp] theorem qiD:Gr ms (.ok (.nx,ρ))=.ok (.non,qv ρ 0 ms):=rfl
@[simp] theorem qhP {c:Str}:Gr ms (.exc c ρ)=.exc c ((qv ρ 0 ms).map iB):=rfl
@[simp] theorem qhQ [Decidable c] {a b:Out (Fl×Sl)}:Gr ms (if c then a else b)=if c then Gr ms a else Gr ms b:=by split <;> rfl
noncomputable def Xx (as:List AK) (ρ:Sl):Out (D×List D)->Out (D×Sl)
 | .ok q=>.ok (q.1,jq as q.2 ρ)
 | .exc c o=>.exc c (jq as (o.map (·.getD .non)) ρ)
 | .bad=>.bad
variable {as:List AK}
@[simp] theorem qgW {q:D×List D}:Xx as ρ (.ok q)=.ok (q.1,jq as q.2 ρ):=rfl
@[simp] theorem qf0 {c:Str} {o:Sl}:Xx as ρ (.exc c o)=.exc c (jq as (o.map (·.getD .non)) ρ):=rfl
@[simp] theorem qf1 [Decidable c] {a b:Out (D×List D)}:Xx as ρ (if c then a else b)=if c then Xx as ρ a else Xx as ρ b:=by split <;> rfl
variable {ρ:Sl}
@[simp] theorem Wz:qd i ρ=match ρ[i]? with | some (iB d)=>.ok (d,ρ) | _=>.bad:=rfl
@[simp] theorem qjg:dC d ρ=.ok (d,ρ):=rfl
variable {gg:D->Sl->Out Sl}
section
variable {g g':D->D->Out D} {g1:D->Out D} {fb fc:Sl->Out (D×Sl)} {ft fu:Sl->Out (Bool×Sl)} {fr:Sl->Out (List D×Sl)} {fs ft1:Sl->Out (Fl×Sl)} {fi:Sl->Out (List D×Sl)} {G:List D->Out (D×List D)}
@[simp] theorem xD:d1 g1 fa ρ=(fa ρ).bind λp=>(g1 p.1).plain.bind λd=>.ok (d,p.2):=rfl
@[simp] theorem qhR:d2 g fa fb ρ=(fa ρ).bind λp=>(fb p.2).bind λq=>(g p.1 q.1).plain.bind λd=>.ok (d,q.2):=rfl
@[simp] theorem qhS:yl f ρ=(f ρ).bind λp=>(vD p.1).bind λb=>.ok (b,p.2):=rfl
@[simp] theorem qgX:qP f ρ=(f ρ).bind qiB:=rfl
@[simp] theorem qhT:yP ft ρ=(ft ρ).bind λp=>.ok (!p.1,p.2):=rfl
@[simp] theorem qgY:qhK f ρ=(qP f ρ).bind λp=>.ok (.bl (!p.1),p.2):=rfl
@[simp] theorem qhU:Xf ft fu ρ=(ft ρ).bind λp=>if p.1=iH then fu p.2 else .ok (iF,p.2):=rfl
@[simp] theorem qiE:dOr ft fu ρ=(ft ρ).bind λp=>if p.1=iH then .ok (iH,p.2) else fu p.2:=rfl
@[simp] theorem qgZ:KA fa fb ρ=(fa ρ).bind λp=>qbD p.1 (fb p.2) (.ok (.bl iF,p.2)):=by
 unfold KA;cases fa ρ with
 | ok p=>
  obtain ⟨d,r⟩:=p;cases d <;> try rfl
  rename_i b;cases b <;> rfl
 | exc c o=>rfl
 | bad=>rfl
@[simp] theorem qhV:qgQ fa fb ρ=(fa ρ).bind λp=>qbD p.1 (.ok (.bl iH,p.2)) (fb p.2):=by
 unfold qgQ;cases fa ρ with
 | ok p=>
  obtain ⟨d,r⟩:=p;cases d <;> try rfl
  rename_i b;cases b <;> rfl
 | exc c o=>rfl
 | bad=>rfl
@[simp] theorem qiF:dIf ft fa fb ρ=(ft ρ).bind λp=>if p.1=iH then fa p.2 else fb p.2:=rfl
@[simp] theorem qf2:ym g g' fa fb fc ρ=(fa ρ).bind λp=>(fb p.2).bind λq=>(g p.1 q.1).plain.bind λz=>qbD z ((fc q.2).bind λr=>(g' q.1 r.1).plain.bind λd=>.ok (d,r.2)) (.ok (.bl iF,q.2)):=by
 unfold ym;congr 1;funext p;congr 1;funext q;congr 1;funext z;cases z <;> try rfl
 rename_i b;cases b <;> rfl
@[simp] theorem qhW:qG ρ=.ok ([],ρ):=rfl
@[simp] theorem qg0:qc fa fr ρ=(fa ρ).bind λp=>(fr p.2).bind λq=>.ok (p.1::q.1,q.2):=rfl
@[simp] theorem qg1:ug fr ρ=(fr ρ).bind λq=>.ok (D.non::q.1,q.2):=rfl
@[simp] theorem qhX:zq fr ρ=(fr ρ).bind λp=>if p.1.length<=sizeLine then .ok (.tup p.1,p.2) else .bad:=rfl
@[simp] theorem qhY:gb fr ρ=(fr ρ).bind λp=>if p.1.length<=sizeLine then .ok (.lst p.1,p.2) else .bad:=rfl
@[simp] theorem qg2:jf ρ=.ok (.nx,ρ):=rfl
@[simp] theorem gD:qT fs ft1 ρ=(fs ρ).bind λp=>match p.1 with | .nx=>ft1 p.2 | _=>.ok p:=by
 show _=_;unfold qT;cases fs ρ with
 | ok p=>obtain ⟨l,r⟩:=p; cases l <;> rfl
 | exc c o=>rfl
 | bad=>rfl
@[simp] theorem qiG:sIf ft fs ft1 ρ=(ft ρ).bind λp=>if p.1=iH then fs p.2 else ft1 p.2:=rfl
@[simp] theorem qbE:vj f ρ=(f ρ).bind λp=>.ok (.nx,p.2):=rfl
@[simp] theorem Gs:jt f ρ=(f ρ).bind λp=>.ok (.rt p.1,p.2):=rfl
@[simp] theorem gE:jO i f ρ=(f ρ).bind λp=>if i < p.2.length then .ok (.nx,p.2.set i (iB p.1)) else .bad:=rfl
@[simp] theorem qg3:qw as G fr ρ=(fr ρ).bind λp=>match qD as p.1 p.2 with | some ds=>Xx as p.2 (G ds) | none=>.bad:=rfl
@[simp] theorem qhZ:qjb f ρ=(f ρ).bind λp=>(Ql p.1).bind λds=>.ok (ds,p.2):=rfl
@[simp] theorem qh0:jy f ρ=(f ρ).bind λp=>(ju p.1).bind λds=>.ok (ds,p.2):=rfl
@[simp] theorem qiH:gNm i d ρ=if i < ρ.length then .ok (ρ.set i (iB d)) else .bad:=rfl
@[simp] theorem we:zu fi gg fs ρ=(fi ρ).bind λp=>jR gg fs p.1 p.2:=rfl
@[simp] theorem qh1:qjc f gg ρ=(f ρ).bind λp=>match gg p.1 p.2 with | .ok ρ'=>.ok (.nx,ρ') | _=>.bad:=rfl
@[simp] theorem qdX {gg:List D->D->Out (List D)}:xY i gg f ρ=if yA ρ[i]?=iH then (f ρ).bind λp=>(match p.2[i]? with | some (iB (.lst xs))=>(match gg xs p.1 with | .ok ys=>.ok (.non,p.2.set i (iB (.lst ys))) | _=>.bad) | _=>.bad) else .bad:=rfl
@[simp] theorem qiI:ftT ρ=.ok (iH,ρ):=rfl
end
end L2.D2
namespace L2.D2
open PySem PySem.Spec PyProof.Rows
def qin (i j:Int):Prop:=(0<=j/\j<=64)/\-4611686018427387904 < i/\i < 4611686018427387904
instance:∀ i j,Decidable (qin i j):=λi j=>inferInstanceAs (Decidable (_/\_))
noncomputable def dM (k:D->Bool) (g:D->D->Out D) (fo fa:Sl->Out (D×Sl)):Sl->Out (D×Sl):=λρ=>(fo ρ).bind λp=>if k p.1 then (fa p.2).bind λq=>(g p.1 q.1).plain.bind λd=>.ok (d,q.2) else .bad
variable {X:Cx} {C:Ct} {own:List Nat} {a:Expr} {fa fb:Sl->Out (D×Sl)} {m ma mb:Mo} {pos:Pos} {σ:St} {F H:Hp} {Q:VK} {g:D->D->Out D}
section
variable {b:Expr}
theorem Po.imp {r:Out (D×Sl)} {R:VK} (h:Po C own m σ F H r Q) (i:∀ v H',Q v H'->R v H'):Po C own m σ F H r R:=by
 cases r with
 | ok p=>exact λv F' H' a c o=>i v H' (h v F' H' a c o)
 | exc x=>exact h
 | bad=>exact h.elim
theorem Gt {k:D->Bool} (f:ma≠.any) (h:tE C own m (dM k g fa fb) σ H Q):tE C own ma fa σ H λx H1=>(∃ F dx,Same F H1/\TopIs C.K F H1 x dx/\k dx=iH)/\tE C own mb fb σ H1 λy H2=>∃ F dx j,Same F H2/\TopIs C.K F H2 x dx/\TopIs C.K F H2 y j/\PoV C m F H2 (g dx j) Q:=by
 obtain ⟨F,ρ,p,h⟩:=h;refine ⟨F,ρ,p,Po.bind h λv F1 H1 d ρ1 a n c h1=>?_⟩;cases i:k d with
 | false=>simp only [i] at h1; exact h1.elim
 | true=>simp only [i,if_true] at h1;exact ⟨⟨F1,d,a.sub,c.top,i⟩,F1,ρ1,a,Po.bind h1 λw l H2 e ρ2 r c2 b h2=>⟨l,d,e,r.sub,(c.grow f c2 λx z=>(p.OA_there z).1).top,b.top,PoV.of r h2⟩⟩
def MtD (X:Cx) (C:Ct) (m:Mo) (id:String) (g:D->D->Out D):Prop:=
 MtR X id (λx vs H Q=>∃ y F dx d,vs=[y]/\Same F H/\TopIs C.K F H x dx/\TopIs C.K F H y d/\PoV C m F H (g dx d) Q)
noncomputable def qg4:D->Bool
 | .lst _=>iH
 | _=>iF
theorem qbF {name:Str} {id:String} {apos cpos:Pos} (slot:Slot "list" name id) (d:typeOf (.builtin id)=pure (.type "method_descriptor")) (k:MtD X C m id g) (u:C.K=X.K)
  (o:PE X a (tE C own ma fa)) (n:PE X b (tE C own mb fb)) (f:ma≠.any:=by decide)
  (c:attributeBase a name X.env (eval a X.env)=eval a X.env:=by rfl)
  (w:((backTo cpos (starEach [b] X.env)).all (λx=>!x.1)&&(backToKw cpos (keywordEach [] X.env)).all (λx=>x.1.isSome)
   && decide ([b].length+([]:List iY).length+(if ([]:List iY).isEmpty then 0 else 1) < 30))=true:=by exact wG rfl)
  (e:(apos.endLine == cpos.line)=true:=by rfl) (s:starEach [b] X.env=[(iF,eval b X.env)]:=by exact qJ rfl) :
  PE X (.Call (.Attribute a name apos) [b] [] cpos) (tE C own m (dM qg4 g fa fb)):=by
 refine jG (YY bQ slot d k o (qO n jE s) c w e s rfl) λσ H Q h=>?_;obtain ⟨F,ρ,p,h⟩:=Gt (ma:=ma) (mb:=mb) f h;refine ⟨F,ρ,p,Po.imp h λx H1 h1=>?_⟩;obtain ⟨⟨F1,dx,j,i,l⟩,h2⟩:=h1;refine ⟨?_,?_⟩
 ·cases dx <;> try (cases l; done)
  obtain ⟨a,vs,rfl,hq,t⟩:=i.lst j;exact .inl ⟨rfl,vs,by rw [<-u]; exact hq⟩
 ·obtain ⟨v,ρ2,r,h2⟩:=h2;exact ⟨v,ρ2,r,Po.imp h2 λy H2 q=>⟨y,q.choose,q.choose_spec.choose,q.choose_spec.choose_spec.choose,rfl,q.choose_spec.choose_spec.choose_spec⟩⟩
end
variable {s:iI} {n:Nat}
theorem WA {pins:List (Addr×Obj)} (I:Inv X pins σ H s) (y:Same F H) {e:D}:∀ {vs:List V} {ds:List D} {us:List iE} {b:Bool},IsL X.K F vs ds->Vals vs us->zp n e ds=iB b ->us.map (Xd X F n e)=ds.map λd=>eqN n d e == iB iH
 | _,_,_,b,.nil,.nil,h=>rfl
 | _,_,_,b,.cons i t,.cons r rs,h=>by obtain ⟨a,c,q,f,rfl⟩:=Kz h;rw [aF,aF,WA I y t rs f,ZA I y i r q,q];cases a <;> rfl
noncomputable def QI:D->D->Out D
 | .lst ds,e=>match zp 7 e ds with
  | some _=>match (ds.map λd=>eqN 7 d e == iB iH).findIdx? id with
   | some j=>.ok (.int (j:Nat))
   | none=>.bad
  | none=>.bad
 | _,_=>.bad
section
theorem qbG (R:C.K=X.K) (O:X.A.units+64 < cLine):MtD X C .sh "list.index" QI:=by
 intro pins s σ H x vs v us Q I J L h;obtain ⟨y,F,dx,q,rfl,i,z,ty,po⟩:=h;rw [R] at z ty;obtain ⟨u,rfl,M⟩:=L.one;unfold QI at po;cases dx <;> try exact po.elim
 rename_i ds;cases e:zp 7 q ds with
 | none=>simp only [e] at po; exact po.elim
 | some b=>
  simp only [e] at po;cases G:(ds.map λd=>eqN 7 d q == iB iH).findIdx? id with
  | none=>simp only [G] at po; exact po.elim
  | some j=>
   simp only [G] at po;obtain ⟨F',g',c,N⟩:=ty.is i;obtain ⟨a,xs,rfl,p,B⟩:=z.lst i;cases J;obtain ⟨its,r,pl,hz⟩:=I.list p;obtain ⟨h1,h2⟩:=Qx (A:=X.A) (y:=.non) (a:=a) (u:=.none) I O c N M (B.mono g') r e;have P:=WA I c (B.mono g') r e;rw [<-P] at G;obtain ⟨⟨cls,dd,data,sl⟩,n,D,E,hd,t⟩:=pl;simp only at E hd t;subst E t;obtain ⟨o,l,k⟩:=bS.mp G;have f:its.length<=sizeLine:=by have:=r.length; omega
   have g:j < its.length:=by simpa using o
   refine la c7 ⟨_,D,rfl⟩ PySem.F.entry_list_index (PySem.F.args_list_index_2 _ _) (SeqAt.list_indexAt a _ n dd sl u (Xd X F' 7 q) j (by simpa using g) (by rw [iL] at f; omega) (by simpa using l) λm S h1=>?_) ⟨D,λw hw=>h2 w hw,?_⟩;·have:=k m h1;simpa using this
   ·exact ⟨.int (j:Nat),H,I.tok _,⟨_,rfl⟩,po _ F H i .refl (.int _)⟩
end
variable {w:iK}
section
variable {prog:iJ} {A:iP} {E:iE->iI->Prop}
theorem WB {l:Addr} {T:String} {o:Obj} {its:List iE} {ss:List Str} {Q:iE->iI->Prop} (hT:T = "list"\/T = "tuple") (h:s.heap.get? l=iB o) (a:o.cls=.type T) (hd:o.data=.seq its.toArray n) (c:lH its ss) (j:its.length < 64)
  (p:∀ (h1 h':Heap) vs e f,(∀ b o,s.heap.get? b=iB o->h1.get? b=iB o)->(∀ b o,h1.get? b=iB o->h'.get? b=iB o)->h'.get? h1.objs.size=iB (seqObj "list" vs e)->lH vs.toList f->f.Perm ss->sortedS f=iH->Q (.ref h1.objs.size) { s with heap:=h' }) :
  wpAny (model prog w) A (call (.builtin "sorted") [.ref l]) Q E s:=by
 refine dW kind_sorted plain_sorted entry_sorted (args_sorted1 _) ?_; unfold Builtin.«sorted»;refine iC (m:=checkCount "sorted" 1 1 _) (iG ?_);refine iC (wpAny_collect_seq l hT h a hd (λh1 k1=>?_) (by rw [am,iL]; omega));show wpAny _ _ _ _ _ { s with heap:=h1 };refine iC (ly ?_ (by rw [fA,iL]; omega));rw [fA];have Y:(h1.push (seqObj "list" its.toArray 0)).get? h1.objs.size=iB (seqObj "list" its.toArray 0):=af _ rfl;refine iC (iR (iO slot_list_sort (s:={ s with heap:=h1.push (seqObj "list" its.toArray 0) }) ⟨_,Y,rfl⟩ entry_list_sort (list_sort_treeK strKind_oneLt Y c.keysOf (λv₁ k rest e=>keyKind_strs (by rw [<-e]; exact c)) j λg t r=>⟨_,rfl,?_⟩) (args_list_sort _)));obtain ⟨f,q,z,x⟩:=sorted_out_str c t r;obtain ⟨e,i⟩:=sortedHeap_at (out:=(arrOf g).map (·.2)) Y;refine iG ⟨_,rfl,p h1 _ _ e f k1 (λb o D=>?_) i q z x⟩;have d:=aq D;rw [sortedHeap_old (aC d) (by rw [bh]; exact cV d)];exact aa _ D
end
noncomputable def gF (d:D):Out D:=match wx d with
 | some ss=>if ss.length < 64 then .ok (.lst ((kF ss).map D.str)) else .bad
 | none=>.bad
section
theorem Gu (k:C.K=X.K):zr X C .fr (.builtin "sorted") gF:=by
 intro pins s σ H xs us Q I r h;obtain ⟨x,F,dx,rfl,f,i,po⟩:=h;obtain ⟨u,rfl,j⟩:=yv r;unfold gF at po;cases es:wx dx with
 | none=>rw [es] at po; exact po.elim
 | some ss=>
  rw [es] at po;by_cases hl:ss.length < 64
  ·have po:PoV C .fr F H (if ss.length < 64 then .ok (.lst ((kF ss).map D.str)) else .bad) Q:=po;rw [if_pos hl] at po;have fin:∀ {l:Addr} {T:String} {o:Obj} {its:List iE} {n:Nat},T = "list"\/T = "tuple"->s.heap.get? l=iB o->o.cls=.type T->o.data=.seq its.toArray n->lH its ss->(∀ y∈ss,y.length<=sizeLine)->wpAny (model X.prog X.w) X.A (call (.builtin "sorted") [.ref l]) (EP X pins σ Q) X.xe s:=by
    intro l T o its n hT m d hd c B;refine WB hT m d hd c (by rw [c.length]; exact hl) λh1 h' vs e q k1 k2 hp st pm so=>?_;rw [Ve pm so] at st;have p:Inv X pins σ H { s with heap:=h1 }:=I.kept (t':=s.toks) k1;have hz:(kF ss).length<=sizeLine:=by rw [(qI ss).length_eq,iL];omega
    have hq:H h1.objs.size=none:=p.hok.fresh (ax _);obtain ⟨s2,c2,f2⟩:=kL (u:=.lst ((kF ss).map V.str)) f hq;exact ⟨.ref h1.objs.size,_,p.laid (t':=s.toks) (o:=.lst ((kF ss).map V.str)) k2 (ax _) ⟨by rw [ah]; exact hz,vs.toList,e,gB st,by simpa [seqObj] using hp⟩,rfl,po _ _ _ s2 c2 ⟨_,rfl,hq,f2,_,qt,zI λy g=>B y ((qI _).mem_iff.mp g)⟩⟩
   cases dx with
   | lst ds=>obtain ⟨a,vs,rfl,hq,t⟩:=i.lst f;rw [k] at hq;cases j;obtain ⟨its,v,pl,_⟩:=I.list hq;obtain ⟨o,n,m,d,hd,b⟩:=pl;obtain ⟨st,B⟩:=Jl t v es;exact fin (.inl rfl) m d b st B
   | tup ds=>obtain ⟨a,vs,rfl,hq,t⟩:=i.tup f;rw [k] at hq;cases j;obtain ⟨its,v,pl,_⟩:=I.tuple hq;obtain ⟨o,m,d,n,b⟩:=pl;obtain ⟨st,B⟩:=Jl t v es;exact fin (.inr rfl) m d b st B
   | _=>cases es
  ·have po:PoV C .fr F H (if ss.length < 64 then .ok (.lst ((kF ss).map D.str)) else .bad) Q:=po;rw [if_neg hl] at po;exact po.elim
end
noncomputable def qh2:Sl->Out (Fl×Sl):=λ_=>.bad
variable {e:Expr}
section
variable {own':List Nat} {sts:List Stmt}
theorem qdY:PSs X sts (tSt C own own' qh2):=by refine ⟨?_⟩;intro pins s σ H D I h;obtain ⟨_,_,_,h⟩:=h;exact h.elim
end
theorem PoI.shift {F1 H1:Hp} {r:Out (List D×Sl)} {R:It->Hp->Prop} (h:PoI C own σ F H r R) (c:Chg (OA own σ) F H F1 H1):PoI C own σ F1 H1 r R:=by
 cases r with
 | ok p=>exact λJ F' H' a T j=>h J F' H' a (c.trans' T) j
 | exc x=>exact λF' H' s io T=>h F' H' s io (c.trans' T)
 | bad=>exact h.elim
def qbH (i j:Int):Prop:=(-(2 ^ 62)<=i/\i < 2 ^ 62)/\-(2 ^ 62)<=j/\j < 2 ^ 62
instance:∀ i j,Decidable (qbH i j):=λi j=>inferInstanceAs (Decidable (_/\_))
noncomputable def Jm (fa fb:Sl->Out (D×Sl)):Sl->Out (List D×Sl):=λρ=>(fa ρ).bind λp=>(fb p.2).bind λq=>match p.1,q.1 with
 | .int i,.int j=>if qbH i j then .ok (ge i (j - i).toNat,q.2) else .bad
 | _,_=>.bad
variable {K:Frag}
section
variable {b tg:Expr}
theorem Xy {p:Pos} (hg:Gl X "range") (l:X.mg "range"=iD) (o:PE X a (tE C own .sh fa)) (n:PE X b (tE C own mb fb)) (s:starEach [a,b] X.env=[(iF,eval a X.env),(iF,eval b X.env)]:=by exact Uz rfl rfl) (f:starEach [b] X.env=[(iF,eval b X.env)]:=by exact qJ rfl):PI X tg (.Call (.Name "range" p) [a,b] [] pos) (tIt C own (Jm fa fb)):=by
 refine qbb (Zb hg l (qO o (qO n jE f) (by rw [s,f])) s f) λσ H R ⟨F,ρ,k,h⟩=>⟨F,ρ,k,PoI.bindV h λv F1 H1 d ρ1 g q c h1=>⟨F1,ρ1,g,PoI.bindV (h1.shift q) λw t H2 e ρ2 r c2 m h2=>?_⟩⟩
 have c:Is C.K F1 v d:=c;cases d with
 | int i=>
  cases e with
  | int j=>
   cases c;obtain rfl:=m.top.int;have h2:PoI C own σ F1 H1 (if qbH i j then .ok (ge i (j - i).toNat,ρ2) else .bad) R:=h2;by_cases z:qbH i j;·rw [if_pos z] at h2;exact ⟨i,j,rfl,⟨z.1.1,z.1.2,z.2.1,z.2.2⟩,h2 _ t H2 r c2 qct⟩
   ·rw [if_neg z] at h2; exact h2.elim
  | _=>exact h2.elim
 | _=>exact h2.elim
theorem Gv:∀ {xs:List V} {us:List iE},xs.length=us.length->(∀ (j:Nat) (x:V) (u:iE),xs[j]?=iB x->us[j]?=iB u->RelV x u)->Vals xs us
 | [],[],_,_=>.nil
 | x::xs,u::us,hl,h=>.cons (h 0 x u rfl rfl) (Gv (Nat.succ.inj hl) λj y w a b=>h (j+1) y w (by simpa using a) (by simpa using b))
 | [],_::_,hl,_=>nomatch hl
 | _::_,[],hl,_=>nomatch hl
noncomputable def qg5 (p:Addr) (lo hi:Int):HO:=.ext λh=>∃ t u v,IsRange h p lo hi 1 t u v
theorem qdZ {P:iJ} {h:Heap} {p:Addr} {lo hi:Int} {t u v:Tok} (x:IsRange h p lo hi 1 t u v):ObjOk P w H h p (qg5 p lo hi):=
 ⟨⟨t,u,v,x⟩,⟨_,x⟩,λ_ _ ⟨t,u,v,x⟩ k=>⟨t,u,v,k _ x⟩⟩
theorem Gw:uh X (.type "range") (λxs H Q=>∃ j:Int,xs=[.int j]/\∀ p,H p=iD->Q (.ref p) (upd H p (qg5 p 0 j))):=by intro pins s σ H xs us Q I r h;obtain ⟨j,rfl,q⟩:=h;obtain ⟨u,rfl,A⟩:=yv r;obtain ⟨t,rfl⟩:=A;exact call_range_1 ⟨.ref s.heap.objs.size,_,I.laid (t':=s.toks+1+1) (λb o e=>aa _ e) (ax _) (qdZ (IsRange.new ..)),rfl,q _ (I.hok.fresh (ax _))⟩
theorem qbI (d:X.calm=iH):uh X (.type "list") (λxs H Q=>∃ r lo hi,xs=[.ref r]/\H r=iB (qg5 r lo hi)/\(qbH lo hi/\hi - lo<=1000000)/\∀ p,H p=iD->Q (.ref p) (upd H p (.lst ((au (hi - lo).toNat).map λk=>V.int (lo+(k:Nat)))))):=by
 intro pins s σ H xs us Q I r h;obtain ⟨a,lo,hi,rfl,g,hz,q⟩:=h;obtain ⟨u,rfl,A⟩:=yv r;cases A;obtain ⟨t,u,v,f⟩:=(I.hok a _ g).1;have l:Builtin.Range.rangeSize lo hi 1=(((hi - lo).toNat:Nat):Int):=by rw [rangeSize_one]; split <;> omega
 refine call_list_range (n:=(hi - lo).toNat) (I.ok.hd d) f (small_one hz.1.1.1 hz.1.1.2 hz.1.2.1 hz.1.2.2) l (by omega) λh' tk acc c k hp b=>?_;refine ⟨.ref s.heap.objs.size,_,I.laid (t':=tk) (o:=.lst ((au (hi - lo).toNat).map λk=>V.int (lo+(k:Nat)))) k (ax _) ⟨by rw [ah,bC,iL]; omega,acc.toList,c,?_,by simpa using hp⟩,rfl,q _ (I.hok.fresh (ax _))⟩;refine Gv (by rw [ah,bC,cF,b.1]) λj x w ex e=>?_;rw [aE] at ex;obtain ⟨k,i,rfl⟩:=aS.mp ex;obtain ⟨G,rfl⟩:=aB.mp i;obtain ⟨t,rfl⟩:=b.2 j w (by simpa using e);exact ⟨t,by simp⟩
noncomputable def uS:D->Out D
 | .int j=>if qbH 0 j/\j - 0<=1000000 then .ok (.lst (ge 0 (j - 0).toNat)) else .bad
 | _=>.bad
theorem Gx {lo:Int}:∀ l:List Nat,IsL K F (l.map λk=>V.int (lo+(k:Nat))) (l.map λk=>D.int (lo+(k:Nat)))
 | []=>.nil
 | k::l=>.cons (.int _) (Gx l)
theorem Xz {p p2 pos2:Pos} (n:X.calm=iH) (hg:Gl X "list") (m:X.mg "list"=iD) (v:bootBuiltins "list"=iB (.type "list")) (g:Gl X "range") (d:X.mg "range"=iD) (c:bootBuiltins "range"=iB (.type "range")) (o:PE X e (tE C own ma fa))
  (i:starEach [e] X.env=[(iF,eval e X.env)]:=by exact qJ rfl) (b:starEach [.Call (.Name "range" p2) [e] [] pos2] X.env=[(iF,eval (.Call (.Name "range" p2) [e] [] pos2) X.env)]:=by exact qJ rfl) :
  PE X (.Call (.Name "list" p) [.Call (.Name "range" p2) [e] [] pos2] [] pos) (tE C own .fr (d1 uS fa)):=by
 refine jG (uj (qbI n) hg m v (qO (uj Gw g d c (qO o jE i) (by decide) (by decide) (by rw [i]; rfl) rfl) jE b) (by decide) (by decide) (by rw [b]; rfl) rfl) λσ H Q h=>?_;refine Wy (gc (ma:=ma) h) λx H1 ⟨s,F,dx,ex,y,a,po⟩=>?_;cases ex;cases dx <;> try exact po.elim
 rename_i j;unfold uS at po;by_cases hz:qbH 0 j/\j - 0<=1000000
 ·simp only [if_pos hz] at po;obtain rfl:=a.int;refine ⟨j,rfl,λq hq=>⟨q,0,j,rfl,qt,hz,λl f=>?_⟩⟩;obtain ⟨s1,r,f1⟩:=kL (u:=qg5 q 0 j) y hq;obtain ⟨s2,c2,f2⟩:=kL (u:=.lst ((au (j - 0).toNat).map λk=>V.int (0+(k:Nat)))) s1 f;have t:H1 l=none:=by
   by_cases z:l=q;·rw [z] at f;rw [qt] at f;cases f
   ·rwa [qB z] at f
  exact po _ _ _ s2 (r.trans' c2) ⟨l,rfl,t,f2,_,qt,Gx _⟩
 ·simp only [if_neg hz] at po;exact po.elim
end
noncomputable def Ite (K:Frag) (a:Addr) (xs:List V):It:=
 ⟨λi H=>i < xs.length/\SqL K H a xs,λi H v H'=>∃ x p,xs[i]?=iB x/\H p=iD/\v=.ref p/\H'=upd H p (.tup [.int (i:Nat),x]),λi H=>xs.length<=i/\SqL K H a xs⟩
theorem Gy {P:iJ} {w:iK} {K:Frag} {t:List Expr} {x1} {pos:Pos} (b a:Nat) (xs:List V) (h1:a < b):Turn P w K (.Tuple t x1 pos) (Ite K a xs) [b+1,b] (b+1) (λi h=>(∃ old,IsEnum h (b+1) b i old)/\h.IsListIter b a i) where
 mem:=by simp
 obj:=λi h st c d=>by
  obtain ⟨⟨old,f⟩,o,j,l,hd⟩:=st;simp only [ae,bH,or_false] at d;rcases d with rfl | rfl;·exact ⟨_,f,λv z=>by cases z⟩
  ·exact ⟨o,j,λv z=>by rw [hd] at z; cases z⟩
 keep:=λi h h' st k=>by obtain ⟨⟨old,f⟩,o,j,l,hd⟩:=st;exact ⟨⟨old,k _ (by simp) _ f⟩,o,k _ (by simp) _ j,l,hd⟩
 item:=by
  intro X A hw B d i pins s σ H E I p st hg;subst A hw B;obtain ⟨⟨old,f⟩,hit⟩:=st;obtain ⟨hl,q⟩:=hg;obtain ⟨its,r,pl,_⟩:=I.list q;have hi:i < its.length:=by rw [<-r.length]; exact hl
  have hx:its.toArray[i]?=iB its[i]:=by simp [hi]
  refine wpAny_pyNext_enum_item f hit pl.isList hx (Nat.succ_ne_self b) λh' L y G hz kp=>?_;refine ⟨_,rfl,wpAny_letOwnedTupleGo_enum L λhq N g=>?_⟩;obtain ⟨x,ex,J⟩:=gx r (ay hi);have hT:H s.heap.objs.size=none:=I.hok.fresh (ax _);have u:b+1 < s.heap.objs.size:=aq f;have T:∀ c∈[b+1,b],c≠s.heap.objs.size:=λc d=>by simp only [ae,bH,or_false] at d;have lt':b+1 < s.heap.objs.size:=u;generalize s.heap.objs.size=m at lt';intro z;omega
  have Q:Inv X pins σ (upd H s.heap.objs.size (.tup [.int (i:Nat),x])) { s with heap:=s.heap.push { cls:=.type "tuple",data:=.seq #[.int i s.toks,its[i]] } }:=
   I.laid (t':=s.toks) (λ_ _ e=>aa _ e) (ax _) ⟨⟨by simp only [ao,aZ]; rw [iL]; decide,_,af _ rfl,rfl⟩,[.int i s.toks,its[i]],.cons ⟨_,rfl⟩ (.cons J .nil),⟨_,af _ rfl,rfl,_,rfl⟩⟩
  have O:Inv X pins σ (upd H s.heap.objs.size (.tup [.int (i:Nat),x])) { s with heap:=hq,toks:=s.toks+1 }:=by
   refine Gj (s:={ s with heap:=s.heap.push { cls:=.type "tuple",data:=.seq #[.int i s.toks,its[i]] } }) (ch:=[b+1,b]) Q (λc o n e=>?_) λc d=>⟨by rw [qB (T c d)]; exact (p c d).1,(p c d).2⟩
   simp only [ae,bH,or_false,not_or] at n;rw [g.2 c n.1];by_cases C:c=s.heap.objs.size;·subst C;have D:(s.heap.push ({ cls:=.type "tuple",data:=.seq #[.int i s.toks,its[i]] }:Obj)).get? s.heap.objs.size=iB { cls:=.type "tuple",data:=.seq #[.int i s.toks,its[i]] }:=af _ rfl;rw [show (s.heap.push ({ cls:=.type "tuple",data:=.seq #[.int i s.toks,its[i]] }:Obj)).get? s.heap.objs.size=iB o from e] at D;rw [D];exact G
   ·have M:s.heap.get? c=iB o:=by have:=e;rwa [show (s.heap.push ({ cls:=.type "tuple",data:=.seq #[.int i s.toks,its[i]] }:Obj)).get? c=s.heap.get? c from fO _ _ _ C] at this
    exact kp c o n.1 n.2 M
  refine ⟨.ref s.heap.objs.size,_,O,rfl,⟨x,_,ex,hT,rfl,rfl⟩,⟨⟨_,by simpa using N⟩,?_⟩,λc d=>by rw [qB (T c d)]; exact (p c d).1⟩;obtain ⟨o,j,l,hd⟩:=y;exact ⟨o,(g.2 _ (Nat.succ_ne_self b).symm).trans j,l,hd⟩
 done:=by
  intro X A hw B d i pins s σ H E I p st hg;subst A hw B;obtain ⟨⟨old,f⟩,hit⟩:=st;obtain ⟨hl,q⟩:=hg;obtain ⟨its,r,pl,_⟩:=I.list q;refine wpAny_pyNext_enum_end (I.ok.hd d) f hit pl.isList (by simp; rw [<-r.length]; exact hl) λh' ex=>⟨rfl,Gj (t':=s.toks) (ch:=[b+1,b]) I (λc o n e=>?_) p⟩
  simp only [ae,bH,or_false,not_or] at n;exact ex c o n.2 e
 self:=λ_ _ _ _ _ st h=>wpAny_pyIter_enum st.1.choose_spec h
theorem Gz:bootBuiltins "enumerate"=iB (.type "enumerate"):=by decide +kernel
noncomputable def Vg (xs:List D):List D:=(xs.zipIdx).map λp=>.tup [.int (p.2:Nat),p.1]
noncomputable def GA (f:Sl->Out (D×Sl)):Sl->Out (List D×Sl):=λρ=>(f ρ).bind λp=>match p.1 with
 | .lst xs=>.ok (Vg xs,p.2)
 | _=>.bad
theorem qf3 {a:Addr} {xs:List V} {ds:List D} (p:SqL K F a xs) (t:IsL K F xs ds):ItIs K F (Ite K a xs) (Vg ds) where
 go:=λi H hi s=>by unfold Vg at hi;rw [ah,List.length_zipIdx] at hi;exact ⟨by rw [t.length]; exact hi,s.seq p⟩
 yld:=λi Fi H v H' d e s1 s2 y=>by
  obtain ⟨x,q,hx,n,rfl,rfl⟩:=y;obtain ⟨d1,e1,i1⟩:=t.get hx;have o:d=.tup [.int (i:Nat),d1]:=by unfold Vg at e;rw [aE,List.getElem?_zipIdx,e1] at e;simpa using e.symm
  subst o;obtain ⟨g1,Y⟩:=uo (u:=.tup [.int (i:Nat),x]) s2 n;exact ⟨_,Y,g1,.tup (.of qt) (.cons (.int _) (.cons ((i1.mono s1).mono Y.grow) .nil))⟩
 stop:=λi H hi s=>by unfold Vg at hi;rw [ah,List.length_zipIdx] at hi;exact ⟨by rw [t.length]; exact hi,s.seq p⟩
section
theorem qd0 {ta:TA} {p tpos:Pos} {t:List Expr} {x1} (hg:Gl X "enumerate") (m:X.mg "enumerate"=iD) (l:PA X [a] ta) (k:starEach [a] X.env=[(iF,eval a X.env)]):PI X (.Tuple t x1 tpos) (.Call (.Name "enumerate" p) [a] [] pos) (λσ H R=>ta σ H λvs H1=>∃ c xs,vs=[.ref c]/\SqL X.K H1 c xs/\R (Ite X.K c xs) H1):=by
 refine ⟨?_⟩;intro pins s σ H R I h;refine Call_ (yK I hg m Gz (bA (thn (l pos pins s σ H _ I h) λus s1 ⟨vs,H1,d,r1,j⟩=>?_) k rfl));obtain ⟨c,xs,rfl,w,q⟩:=j;obtain ⟨u,rfl,e1⟩:=yv r1;cases e1;obtain ⟨its,v,pl,_⟩:=d.list w;have f:c < s1.heap.objs.size:=let ⟨o,_,e,_⟩:=pl; aq e;refine call_enumerate_list pl.isList λh' i hit hz kp=>?_;refine wpAny_pyIter_enum i ?_;refine ⟨s1.heap.objs.size+1,_,_,Ite X.K c xs,H1,rfl,d.kept (t':=s1.toks) kp,Gy s1.heap.objs.size c xs f,⟨⟨_,i⟩,hit⟩,λb g=>?_,q⟩;have T:s1.heap.objs.size<=b:=by
  simp only [ae,bH,or_false] at g;rcases g with rfl | rfl;·exact fk _ _
  ·exact ax _
 exact d.fpOk T (d.hok.fresh T)
theorem Ye {p tpos:Pos} {e:List Expr} {x1} (m:C.K=X.K) (hg:Gl X "enumerate") (f:X.mg "enumerate"=iD) (g:PE X a (tE C own ma fa)) (h1:ma≠.any:=by decide) (s:starEach [a] X.env=[(iF,eval a X.env)]:=by exact qJ rfl):PI X (.Tuple e x1 tpos) (.Call (.Name "enumerate" p) [a] [] pos) (tIt C own (GA fa)):=by
 refine qbb (qd0 hg f (qO (yN g h1) jE s) s) λσ H R ⟨F,ρ,b,h⟩=>⟨F,ρ,b,PoI.bindV h λv F1 H1 d ρ1 r k c h1=>?_⟩
 have c:Is C.K F1 v d:=c;cases c with
 | lst p t=>exact ⟨_,_,rfl,by rw [<-m]; exact r.sub.seq p,by rw [<-m]; exact h1 _ F1 H1 r k (qf3 p t)⟩
 | _=>exact h1.elim
end
mutual
def qf4:Nat->Expr->Option D
 | 0,_=>iD
 | n+1,e=>match e with
  | .Constant c _ _=>match c with
   | .none=>iB .non
   | .bool b=>iB (.bl b)
   | .int i=>iB (.int i)
   | .str x=>if x.length<=sizeLine then iB (.str x) else iD
   | _=>iD
  | .UnaryOp .USub (.Constant (.int i) _ _) _=>iB (.int (-i))
  | .List es _=>(qeW n es).bind λds=>if ds.length<=sizeLine then iB (.lst ds) else iD
  | .Tuple es _ _=>(qeW n es).bind λds=>if ds.length<=sizeLine then iB (.tup ds) else iD
  | _=>iD
def qeW:Nat->List Expr->Option (List D)
 | _,[]=>iB []
 | 0,_::_=>iD
 | n+1,e::es=>(qf4 n e).bind λd=>(qeW n es).bind λds=>iB (d::ds)
end
theorem Yg {α:Type}:∀ l:List α,((l.map λ_=>AK.vl).all λa=>decide (a=.vl))=iH
 | []=>rfl
 | _::l=>by rw [aF,fW,Yg l]; rfl
theorem GB {n:Nat} {e:Expr} {d:D} (h:qf4 n e=iB d):Wc e=true:=by
 cases n with
 | zero=>cases h
 | succ n=>cases e <;> first | rfl | (simp [qf4] at h)
section
variable {X:Cx} {C:Ct} {own:List Nat}
mutual
theorem qf5:∀ (n:Nat) {e:Expr} {d:D},qf4 n e=iB d->PE X e (tE C own .sh (dC d))
 | 0,_,_,h=>by cases h
 | n+1,e,d,h=>by
  unfold qf4 at h;split at h
  ·split at h;·cases h; exact vi
   ·cases h; exact vh
   ·cases h; exact qu
   ·split at h;·rename_i hz;cases h;exact kO hz
    ·cases h
   ·cases h
  ·cases h;exact jG (Xa QD qu) λσ H Q h=>h
  ·obtain ⟨ds,h1,h2⟩:=cA.mp h;split at h2
   ·rename_i hz;cases h2;have i:gb (λρ=>.ok (ds,ρ))=dC (.lst ds):=by funext ρ;unfold gb dC;rw [Out.og,if_pos hz]
    rw [<-i];exact yN (kP (Jn n h1) (Yg _)) (by decide)
   ·cases h2
  ·obtain ⟨ds,h1,h2⟩:=cA.mp h;split at h2
   ·rename_i hz;cases h2;have i:zq (λρ=>.ok (ds,ρ))=dC (.tup ds):=by funext ρ;unfold zq dC;rw [Out.og,if_pos hz]
    rw [<-i];exact wt (Jn n h1) (Yg _)
   ·cases h2
  ·cases h
theorem Jn:∀ (n:Nat) {es:List Expr} {ds:List D},qeW n es=iB ds->PA X es (tAr C own (es.map λ_=>.vl) λρ=>.ok (ds,ρ))
 | 0,[],ds,h=>by cases h;exact ql
 | _+1,[],ds,h=>by cases h;exact ql
 | 0,_::_,ds,h=>by cases h
 | n+1,e::es,ds,h=>by unfold qeW at h;obtain ⟨d,h1,h⟩:=cA.mp h;obtain ⟨c,h2,h⟩:=cA.mp h;cases h;have i:qc (dC d) (λρ=>.ok (c,ρ))=λρ=>.ok (d::c,ρ):=rfl;rw [<-i];exact qb (qf5 n h1) (Jn n h2) (by decide) (jT (GB h1))
end
theorem qd1 {es:List Expr} {ds:List D} {pos:Pos} (n:Nat) (h:qeW n es=iB ds):PE X (.List es pos) (tE C own .fr (gb λρ=>.ok (ds,ρ))):=kP (Jn n h) (Yg _)
end
noncomputable def txI (i:Int):Str:=toString i
def CTx (i:Int):Prop:=i.natAbs.log2 < 1920/\(txI i).length<=sizeLine
instance:∀ i,Decidable (CTx i):=λi=>inferInstanceAs (Decidable (_/\_))
end L2.D2
namespace PySem
open Builtin Builtin.Str
end PySem
namespace L2.D2
open PySem PySem.Spec PyProof.Rows
def qjh (x y:Str):Prop:=(y.length == 0)=iF/\(Txt.split x y).length<=sizeLine/\∀ z∈Txt.split x y,z.length<=sizeLine
instance:∀ x y,Decidable (qjh x y):=λx y=>inferInstanceAs (Decidable (_/\_))
inductive IntsAre:List iE->List Int->Prop
 | nil:IntsAre [] []
 | cons (y:Int) (t:Tok) {vs:List iE} {ys:List Int} (h:IntsAre vs ys):IntsAre (fh y t::vs) (y::ys)
theorem IntsAre.length:∀ {vs:List iE} {ys:List Int},IntsAre vs ys->vs.length=ys.length
 | _,_,.nil=>rfl
 | _,_,.cons _ _ h=>congrArg (·+1) h.length
theorem IntsAre.item:∀ {vs:List iE} {ys:List Int},IntsAre vs ys->∀ (i:Nat) (v:iE),vs[i]?=iB v->∃ y t,v=fh y t/\ys[i]?=iB y
 | _,_,.nil,i,v,e=>by simp at e
 | _,_,.cons y t h,0,v,e=>by simp at e; subst e; exact ⟨y,t,rfl,rfl⟩
 | _,_,.cons y t h,i+1,v,e=>by obtain ⟨z,t',e1,a⟩:=h.item i v (by simpa using e);exact ⟨z,t',e1,by simpa using a⟩
noncomputable def zOf:iE->Int
 | .int i _=>i
 | _=>0
theorem Vh {x:Int} {v:iE} (h:fy x v=iH):∃ t,v=fh x t:=by
 cases v <;> first | (cases h; done) | skip
 rename_i i t;have:i=x:=by simpa [fy] using h
 subst this;exact ⟨t,rfl⟩
noncomputable def Ki (ks:List Int) (x:Int):List Int:=if x∈ks then ks else ks++[x]
theorem qf6:(yB:List Int->Int->List Int)=Ki:=by funext ks x;unfold yB Ki;congr
noncomputable def KpZ:KP Int where
 kd:=PySem.intKind
 of:=zOf
 pb:=iF
 ofi:=λh=>let ⟨_,e⟩:=Vh h; by rw [e]; rfl
 sc:=λh=>let ⟨_,e⟩:=Vh h; by rw [e]; rfl
 pl:=λ_ h=>by cases h
noncomputable def yj:List D->Option (List Int)
 | []=>iB []
 | .int x::l=>(yj l).map (x::·)
 | _::_=>iD
noncomputable def QJ:D->Option (List Int)
 | .lst ds=>yj ds
 | .tup ds=>yj ds
 | _=>iD
variable {K:Frag} {F:Hp}
theorem WC:∀ {vs:List V} {us:List iE} {ds:List D} {ss:List Int},IsL K F vs ds->Vals vs us->yj ds=iB ss->IntsAre us ss
 | [],[],[],ss,_,_,e=>by cases e; exact .nil
 | v::vs,u::us,d::ds,ss,.cons i il,.cons r rl,e=>by
  cases d with
  | int x=>
   cases q:yj ds with
   | none=>have e:(yj ds).map (x::·)=iB ss:=e;rw [q] at e;cases e
   | some sl=>have e:(yj ds).map (x::·)=iB ss:=e;rw [q] at e;cases e;cases i;obtain ⟨t,rfl⟩:=r;exact .cons x t (WC il rl q)
  | _=>cases e
theorem Yh {ds:List D} {ss:List Int} {vs:List V} {us:List iE} (e:yj ds=iB ss) (l:IsL K F vs ds) (d:Vals vs us):us.length=ss.length/\(∀ (i:Nat) (v:iE),us[i]?=iB v->∃ x,ss[i]?=iB x/\∀ p w,(KpZ.kd p w).is x v=iH)/\∀ x∈ss,True:=by have st:=WC l d e;refine ⟨st.length,λi v h=>?_,λ_ _=>trivial⟩;obtain ⟨y,t,e1,a⟩:=st.item i v h;refine ⟨y,a,λp w=>?_⟩;rw [e1];show fy y (.int y t)=iH;simp [fy]
noncomputable def KdZ:KD KpZ where
 sqd:=QJ
 ok:=λ_=>True
 get:=λ{K F dx ss} e=>by
  cases dx with
  | lst ds=>exact ⟨ds,rfl,Yh e⟩
  | tup ds=>exact ⟨ds,rfl,Yh e⟩
  | _=>cases e
noncomputable def jW (d:D):Out D:=match QJ d with
 | some ss=>if ss.length < 4000 then .ok (.int (ss.foldl Ki []).length) else .bad
 | none=>.bad
variable {X:Cx} {C:Ct} {own:List Nat} {pos:Pos}
section
variable {e:Expr} {fa:Sl->Out (D×Sl)} {ma:Mo}
theorem QK {p p2 pos2:Pos} (j:C.K=X.K) (a:X.calm=iH) (hg:Gl X "len") (m:X.mg "len"=iD) (v:bootBuiltins "len"=iB (.builtin "len")) (g:Gl X "set") (h:X.mg "set"=iD) (c:bootBuiltins "set"=iB (.type "set")) (f:PE X e (tE C own ma fa))
  (i:starEach [e] X.env=[(iF,eval e X.env)]:=by exact qJ rfl) (b:starEach [.Call (.Name "set" p2) [e] [] pos2] X.env=[(iF,eval (.Call (.Name "set" p2) [e] [] pos2) X.env)]:=by exact qJ rfl) :
  PE X (.Call (.Name "len" p) [.Call (.Name "set" p2) [e] [] pos2] [] pos) (tE C own .sh (d1 jW fa)):=by
 rw [show jW=qeV KdZ yB by rw [qf6];funext d;have q:KdZ.sqd d=QJ d:=rfl;unfold jW qeV;rw [q];cases QJ d <;> rfl];exact QH KdZ j a hg m v g h c f i b
end
variable {H:Hp}
section
theorem TopIs.ins {v:V} {c:Addr} {fs:List (Str×D)} (s:Same F H) (h:TopIs K F H v (.ins c fs)):∃ a dx fv,v=.ref a/\H a=iB (.ins c dx fv)/\IsF K F fv fs:=by
 rcases h with h | ⟨a,rfl,dx,fv,e,t⟩
 ·cases h with
  | ins e t=>exact ⟨_,_,_,rfl,s _ _ e,t⟩
 ·exact ⟨a,dx,fv,rfl,e,t⟩
end
variable {σ:St} {ρ:Sl} {b:Addr}
section
variable {own1:List Nat} {i:Nat}
theorem Rep.frz {o:HO} (r:Rep K own F H σ ρ) (h:H b=iB o) (E:F b=iD) (n:¬OA own σ b):Rep K own (upd F b o) H σ ρ:=by
 have gr:Same F (upd F b o):=λc w e=>by rw [qB (qH e E)]; exact e
 refine ⟨λc w e=>?_,r.len,λj d G e=>?_,λj d G e=>?_,r.opn,r.dis⟩
 ·by_cases q:c=b;·subst q; rw [qt] at e; cases e; exact h
  ·rw [qB q] at e; exact r.sub c w e
 ·obtain ⟨v,h1,h2⟩:=r.val j d G e;exact ⟨v,h1,h2.mono gr⟩
 ·obtain ⟨a,h1,h2,h3⟩:=r.ow j d G e;exact ⟨a,h1,by rw [qB (λz=>n ⟨j,G,by rw [<-z]; exact h1⟩)]; exact h2,h3.grow gr λ_ q=>q⟩
end
noncomputable def ctB (C:Ct):Ct:={ C with ox:=[],oxs:=λ_ h=>by cases h }
variable {x:Str}
section
theorem vr (i:Nat) (h:X.N[i]?=iB x:=by rfl) (c:Vis X.env.scope x:=by first | exact aA rfl | exact fj (aA rfl) | exact fj (fj rfl)) (m:i∉own:=by decide) (hd:(x == ("__debug__":Str))=false:=by decide) (d:(x == ("__classdict__":Str))=false:=by decide):PE X (.Name x pos) (tE C own .sh (qd i)):=qfy h c m hd d
end
section
theorem Rep.swap {F' H':Hp} {g:Nat} {o:D} (r:Rep K own F H σ ρ) (hg:g∈own) (f:σ[g]?=iB (iB (V.ref b))) (c:Chg (λz=>z=b) F H F' H') (y:Same F' H') (fb:F' b=iD) (ow:OwnIs K F' H' b o):Rep K own F' H' σ (ρ.set g (iB o))/\Chg (OA own σ) F H F' H':=by
 obtain ⟨w,h⟩:=r.opn g hg;have hl:g < ρ.length:=(aB.mp h).1;refine ⟨⟨y,by simp [r.len],λj d G e=>?_,λj d G e=>?_,λj G=>?_,r.dis⟩,c.mono λz hz=>⟨g,hg,by rw [hz]; exact f⟩⟩;·rw [ap (λz=>G (by rw [<-z]; exact hg))] at e;obtain ⟨v,h1,h2⟩:=r.val j d G e;exact ⟨v,h1,h2.mono c.grow⟩
 ·by_cases q:j=g;·subst q;rw [aG hl] at e;cases e;exact ⟨b,f,fb,ow⟩
  ·rw [ap (ba q)] at e;obtain ⟨a,h1,h2,h3⟩:=r.ow j d G e;have na:a≠b:=λz=>by subst z; exact q (r.dis j g a G hg h1 f)
   refine ⟨a,h1,?_,h3.grow c.grow λo q=>c.keep a o q na⟩;cases i:F' a with
   | none=>rfl
   | some u=>
    rcases c.new a (by rw [i]; simp) with z | z | z;·exact absurd h2 z
    ·exact absurd z h3.there
    ·exact absurd z na
 ·by_cases q:j=g;·subst q; exact ⟨o,aG hl⟩
  ·rw [ap (ba q)]; exact r.opn j G
end
theorem gG (ks:List Int):∀ n,n<=ks.length->preSum (λi=>ks.getD i 0) n=(ks.take n).sum
 | 0,_=>rfl
 | n+1,h=>by
  have j:=gG ks n (by omega);show preSum (λi=>ks.getD i 0) n+ks.getD n 0=_;rw [j,List.take_add_one,hJ];have:ks[n]?=iB (ks.getD n 0):=by rw [bZ,ay (by omega)]; rfl
  rw [this];simp
theorem qcB:∀ (ks:List Int),(ks.all λk=>decide (0<=k/\k<=100000))=iH->0<=ks.sum/\ks.sum<=100000 * ks.length
 | [],_=>by simp
 | k::ks,h=>by rw [fW,aK] at h;have h1:=of_decide_eq_true h.1;have j:=qcB ks h.2;rw [List.sum_cons,ao];omega
def FlyA (h:Heap) (ex T:Addr) (cls:iE):Prop:=∃ o vs a ts l,h.get? ex=iB o/\o.cls=cls/\o.data=.fields vs/\vs[1]?=iB (.ref T)/\T≠ex/\h.get? T=iB a/\a.data=.fields ts/\ts[3]?=iB l
theorem FlyA.tr {h base:Heap} {ex T:Addr} {cls:iE} (f:FlyA h ex T cls) (d:base.get? T=iD):∃ B l,h.TracedAtW base ex cls B l:=by obtain ⟨o,vs,a,ts,l,p,c,z,q,m,b,k,j⟩:=f;have hz:0 < vs.size:=fM (Array.getElem?_eq_some_iff.mp q).1;exact ⟨vs[0],l,o,vs,T,a,ts,p,⟨c,by simp [hz]⟩,z,q,d,m,b,k,j⟩
noncomputable def Vi (n:Nat) (fw fx:Sl->Out (D×Sl)):Sl->Out (Fl×Sl):=λρ=>(fw ρ).bind λp=>(fx p.2).bind λq=>match (q.2[n]?:Option (Option D)) with
 | some (iB (.dct kvs))=>(match VU q.1 with
  | some k=>if kvs.length < sizeLine then .ok (.nx,q.2.set n (iB (.dct (ww kvs k p.1)))) else .bad
  | none=>.bad)
 | _=>.bad
section
variable {w ix:Expr} {fw fx:Sl->Out (D×Sl)} {mw mx:Mo} {p1 p2 p3:Pos}
theorem Jo {n:Nat} (M:X.A.units+64 < cLine) (y:X.N[n]?=iB x) (s:Vis X.env.scope x) (m:n∈own) (hw:PE X w (tE C own mw fw)) (hx:PE X ix (tE C own mx fx)) (f:mw≠.any:=by decide)
  (hd:(x == ("__debug__":Str))=false:=by decide) (j:(x == ("__classdict__":Str))=false:=by decide) (t:swapsWith w (iB (.Subscript (.Name x p1) ix p2)) p3.line X.env=pure false:=by rfl) :
  PS X (.Assign [.Subscript (.Name x p1) ix p2] w p3) (tSt C own own (Vi n fw fx)):=by
 refine KG (qdp (by omega) (xT y s hd j) hx (yN hw f) t) λR σ H ⟨F,ρ,p,h⟩=>⟨F,ρ,p,PoS.bindE h λv F1 H1 d ρ1 b P c h1=>?_⟩
 have c:Is C.K F1 v d:=c;obtain ⟨E,i⟩:=b.opn n m;obtain ⟨a,e1,O,J⟩:=b.ow n E m i;refine ⟨_,e1,F1,ρ1,b,PoS.bindE h1 λL I H2 D ρ2 r c2 e h2=>?_⟩;obtain ⟨d2,hd2⟩:=r.opn n m;obtain ⟨Q,o,B,o2⟩:=r.ow n d2 m hd2;rw [e1] at o;cases o;simp only [hd2] at h2;cases d2 with
 | dct kvs=>
  cases q:VU D with
  | none=>simp only [q] at h2; exact h2.elim
  | some k=>
   simp only [q] at h2;have g:=qhM e.top q;subst g;obtain ⟨kv,ex,l⟩:=o2;by_cases hz:kvs.length < sizeLine;·simp only [if_pos hz] at h2;obtain ⟨r3,G⟩:=r.write (u:=.dK (Qi kv k v)) (d:=.dct (ww kvs k d)) m e1 ⟨_,qt,l.put (c.mono c2.grow)⟩;exact ⟨a,_,rfl,DPut.k ex (by rw [l.length]; exact hz),h2 σ I _ ⟨r3,G,λ_ z=>.inl z,λ_ _=>rfl⟩⟩
   ·simp only [if_neg hz] at h2; exact h2.elim
 | _=>exact h2.elim
end
end L2.D2
namespace L2.D2
open PySem PySem.Spec PyProof.Rows PySem.W
variable {α:Type}
noncomputable def WD:List (Key×α)->Option (List Str)
 | []=>iB []
 | (.inr x,_)::l=>(WD l).map (x::·)
 | (.inl _,_)::_=>iD
theorem Yi:∀ {l:List (Key×α)} {ss:List Str},WD l=iB ss->l.map (·.1)=ss.map cw
 | [],ss,h=>by cases h; rfl
 | (.inr x,_)::l,ss,h=>by obtain ⟨f,e,rfl⟩:=aS.mp (show (WD l).map (x::·)=iB ss from h);rw [aF,aF,Yi e]
 | (.inl _,_)::_,ss,h=>by cases h
theorem IsK.keys {K:Frag} {F:Hp}:∀ {kv:List (Key×V)} {ks:List (Key×D)},IsK K F kv ks->kv.map (·.1)=ks.map (·.1)
 | _,_,.nil=>rfl
 | _,_,.cons h t=>by rw [aF,aF,IsK.keys t]
theorem KV.keys:∀ {kv:List (Key×V)} {vs:List (Key×iE)},KV kv vs->kv.map (·.1)=vs.map (·.1)
 | _,_,.nil=>rfl
 | _,_,.cons h t=>by rw [aF,aF,h.1,KV.keys t]
end L2.D2
namespace PySem.F
end PySem.F
namespace L2.D2
open PySem PySem.Spec PyProof.Rows PySem.W
end L2.D2
namespace L2.D2
open PySem PySem.Spec PyProof.Rows
noncomputable def Vj:D->Out D
 | .lst ds=>match uu ds with
  | some ps=>.ok (.dct (ps.foldl (λl p=>ww l p.1 p.2) []))
  | none=>.bad
 | _=>.bad
variable {X:Cx} {C:Ct} {s:iI}
section
variable {pins:List (Addr×Obj)} {σ:St} {F H:Hp}
theorem qbJ (m:C.K=X.K) (d:X.calm=iH):zr X C .fr (.type "dict") Vj:=by
 intro pins s σ H xs us Q I r h;obtain ⟨x,F,dx,rfl,y,t,po⟩:=h;cases dx <;> try exact po.elim
 exact UW m d pins s σ H _ us Q I r ⟨x,F,_,rfl,y,t,po⟩
end
noncomputable def Jp:D->Out D
 | .lst ds=>(match yj ds with
  | some ks=>if ks.length<=1000/\(ks.all λk=>decide (0<=k/\k<=100000))=iH then .ok (.int ks.sum) else .bad
  | none=>.bad)
 | _=>.bad
section
variable {own:List Nat} {mb mx:Mo} {b ix:Expr} {fb:Sl->Out (D×Sl)} {pos apos cpos px:Pos}
theorem WE (S:C.K=X.K) (R:X.calm=iH):zr X C .sh (.builtin "sum") Jp:=by
 intro pins s σ H xs us Q I r h;obtain ⟨x,F,dx,rfl,J,M,po⟩:=h;cases dx with
 | lst ds=>
  obtain ⟨u,rfl,O⟩:=yv r;obtain ⟨a,vs,rfl,hq,P⟩:=M.lst J;cases O;rw [S] at hq;obtain ⟨its,N,p,hz⟩:=I.list hq;have pl:s.heap.IsList a its.toArray:=by obtain ⟨o,n,m,B,_,w⟩:=p;exact ⟨o,m,B,n,w⟩
  cases e:yj ds with
  | none=>have po:PoV C .sh F H (match yj ds with | some ks=>if ks.length<=1000/\(ks.all λk=>decide (0<=k/\k<=100000))=iH then .ok (.int ks.sum) else .bad | none=>.bad) Q:=po;rw [e] at po; exact po.elim
  | some ks=>
   have po:PoV C .sh F H (match yj ds with | some ks=>if ks.length<=1000/\(ks.all λk=>decide (0<=k/\k<=100000))=iH then .ok (.int ks.sum) else .bad | none=>.bad) Q:=po;rw [e] at po;by_cases g:ks.length<=1000/\(ks.all λk=>decide (0<=k/\k<=100000))=iH
   ·have po:PoV C .sh F H (if ks.length<=1000/\(ks.all λk=>decide (0<=k/\k<=100000))=iH then .ok (.int ks.sum) else .bad) Q:=po;rw [if_pos g] at po;have st:=WC P N e;have d:a < s.heap.objs.size:=let ⟨o,m,_⟩:=pl; aq m;have L:its.length=ks.length:=st.length;refine call_sum_walk (lg (show s.heap.IsList a its.toArray from pl) ?_);refine ⟨s.heap.objs.size,_,_,_,_,_,λi=>ks.getD i 0,rfl,iw (A:=X.A.in1) (I.ok.hd R) _ a (aC d) its.toArray,⟨⟨_,af _ rfl,rfl,rfl⟩,?_⟩,?_,λi v ev=>?_,λj G=>?_,λh' tk t' kp=>?_⟩;·obtain ⟨o,e,c⟩:=pl;exact ⟨o,aa _ e,c⟩
    ·intro z b;rw [bh];simp only [ae,bH,or_false] at b;rcases b with rfl | rfl;·exact fZ _
     ·exact cV d
    ·obtain ⟨y,t,e1,T⟩:=st.item i v (by simpa using ev);exact ⟨t,by rw [e1]; show fh y t=fh (ks.getD i 0) t; rw [bZ,T]; rfl⟩
    ·rw [am,L] at G;have l:=g.2;rw [aJ] at l;have h1:=of_decide_eq_true (l (ks.getD j 0) (by rw [bZ,ay G]; exact cr G));have h2:=qcB (ks.take (j+1)) (aJ.mpr λk f=>l k (List.mem_of_mem_take f));have h3:(ks.take (j+1)).length<=1000:=by rw [bO]; omega
     have E:=gG ks (j+1) G;refine ⟨⟨by show (-2 ^ 63:Int)<=ks.getD j 0; omega,by show ks.getD j 0 < (2 ^ 63:Int); omega⟩,?_⟩;rw [E];exact ⟨by omega,by omega⟩
    ·have U:Inv X pins σ H { s with heap:=h',toks:=tk }:=I.kept (t':=tk) λz o D=>kp z o (λq=>by rw [aD.mp q] at D;exact bL _ (aq D)) (aa _ D);have E:preSum (λi=>ks.getD i 0) its.toArray.size=ks.sum:=by rw [am,L,gG ks _ (ax _),f9]
     exact ⟨.int ks.sum,H,U,⟨t',by rw [E]⟩,po _ F H J .refl (.int _)⟩
   ·have po:PoV C .sh F H (if ks.length<=1000/\(ks.all λk=>decide (0<=k/\k<=100000))=iH then .ok (.int ks.sum) else .bad) Q:=po;rw [if_neg g] at po; exact po.elim
 | _=>exact po.elim
end
open PySem.SeqAt
open AutoSeq1 (wpAny_loadPart')
open MeetsSeq MeetsSeq2 MeetsSeq3
def RcLtAt (A:iP) (s:iI) (y x:iE) (b:Bool):Prop:=
 ∀ (prog:iJ) (w:iK) (E:iE->iI->Prop) (Q:iE->iI->Prop),Q (.bool b) s->wpAny (model prog w) A (richCompare .Lt y x) Q E s
def LtL (A:iP) (s:iI) (k b:Bool):List (iE×iE)->Prop
 | []=>b=k
 | (y,x)::t=>(EqAt A.in1 s y x iH/\LtL A s k b t)\/(EqAt A.in1 s y x iF/\RcLtAt A.in1 s y x b)
theorem XA (l b:Addr) (items i:Array iE) (n n2:Nat) (dd f:Option Addr) (sl e:Array (Option iE)) (c:Bool):Meets (Builtin.«tuple.__lt__» ⟨[.ref l,.ref b],[]⟩)
   (λA R s=>s.heap.get? l=iB { cls:=.type "tuple",dict:=dd,data:=.seq items n,slots:=sl }/\s.heap.get? b=iB { cls:=.type "tuple",dict:=f,data:=.seq i n2,slots:=e } /\
    LtL A s (decide (items.size < i.size)) c (items.toList.zip i.toList)/\R (.ok (.ret (.bool c))) s):=
 .of_wp λprog w A R s h=>by
  obtain ⟨hp,g,d,tk,os⟩:=s; obtain ⟨hl,k,j,h⟩:=h;have f2:=AutoSeq1.sub_tuple_tuple;wp_walk using wpAny_loadPart' hl,wpAny_loadPart' k,wpAny_forIn_list _ (λrest b s'=>b.1=iD/\s'=⟨hp,g,d,tk,os⟩/\LtL A ⟨hp,g,d,tk,os⟩ (decide (items.size < i.size)) c rest) _
  case turn=>
   rintro ⟨y,x⟩ rest b s' ⟨a,rfl,hz⟩;rcases hz with ⟨e1,hz⟩ | ⟨e1,hz⟩
   ·refine iC (e1 prog w _ _ ?_);wp_walk
    exact ⟨rfl,rfl,hz⟩
   ·refine iC (e1 prog w _ _ ?_);refine iC (j7 (iC (hz prog w _ _ ?_)));wp_walk
    exact ⟨_,rfl,h⟩
  case fin=>
   rintro ⟨m,z⟩ s' ⟨a,rfl,hz⟩;simp only at a;subst a;have hz:c=_:=hz;subst hz;wp_walk
   exact ⟨_,rfl,by simpa [Builtin.Tuple.tupleCompareSizes] using h⟩
  case h=>
   exact ⟨rfl,rfl,j⟩
theorem RcLtAt.tuples {A:iP} {l b:Addr} {items i:Array iE} {c:Bool} (hl:s.heap.IsTuple l items) (p:s.heap.IsTuple b i) (u:A.units < cLine)
  (o:LtL A s (decide (items.size < i.size)) c (items.toList.zip i.toList)):RcLtAt A s (.ref l) (.ref b) c:=λprog w E Q h=>by
 obtain ⟨⟨cls,dd,data,sl⟩,m,j,n,hd⟩:=id hl;obtain ⟨⟨k,f,g,e⟩,a,d,n2,hd2⟩:=id p;simp only at j hd d hd2;subst j hd d hd2;exact richCompare_meets_room (op:=.Lt) ⟨_,m,rfl⟩ ⟨_,a,rfl⟩ F.slot_tuple_lt F.entry_tuple_lt (F.args_tuple_lt_2 _ _) (XA l b items i n n2 dd f sl e c)
  ⟨m,a,o,show aY c≠Value.notImplemented/\Q (.bool c) s from ⟨(λx=>nomatch x),h⟩⟩ u
end L2.D2
namespace L2.D2
open PySem PySem.Spec PyProof.Rows
open PySem.SeqAt
end L2.D2
namespace L2.D2
open PySem PySem.Spec PyProof.Rows
open AutoSeq1 (wpAny_loadPart')
end L2.D2
namespace L2.D2
open PySem PySem.Spec PyProof.Rows
section
variable {X:Cx} {C:Ct} {own:List Nat} {m ma mb:Mo} {a b e:Expr} {fa fb fe:Sl->Out (D×Sl)} {apos cpos px:Pos}
noncomputable def qg6 (y:Str):iE->Bool
 | .str x _=>x.cps.toList == y.cps.toList
 | _=>iF
theorem qcC {y:Str}:∀ (ss:List Str) (its:List iE),Vals (ss.map V.str) its->y∈ss->∃ j,∃ G:j < its.length,qg6 y its[j]=iH/\(∀ m (c:m < its.length),m < j->qg6 y its[m]=iF)/\Vals ((ss.erase y).map V.str) (its.eraseIdx j)
 | x::ss,u::its,.cons r rs,hy=>by
  obtain ⟨t,rfl⟩:=(show ∃ t,u=dQ x t from r)
  by_cases q:x=y;·subst q;refine ⟨0,by simp,by simp [qg6],λm c h=>absurd h (d8 _),?_⟩;rw [List.erase_cons_head];exact rs
  ·obtain ⟨j,G,h1,h2,h3⟩:=qcC ss its rs ((ae.mp hy).resolve_left λz=>q z.symm);refine ⟨j+1,by simp; omega,h1,λm c h=>?_,?_⟩
   ·cases m with
    | zero=>show (x.cps.toList == y.cps.toList)=iF;refine beq_eq_false_iff_ne.mpr λz=>q ?_;obtain ⟨x⟩:=x;obtain ⟨y⟩:=y;have z:x.toList=y.toList:=z;rw [Array.toList_inj.mp z]
    | succ m=>exact h2 m (by simpa using c) (by omega)
   ·rw [List.erase_cons_tail (by simpa using q)];exact .cons ⟨t,rfl⟩ h3
def qh3:V->List V->Hp->VK->Prop:=λx vs H Q=>∃ (l:Addr) (ss:List Str) (y:Str),x=.ref l/\vs=[.str y]/\H l=iB (.lst (ss.map V.str))/\y∈ss/\Q .non (upd H l (.lst ((ss.erase y).map V.str)))
theorem qf7:MtM X "list.remove" qh3:=by
 intro pins s σ H x vs v us Q I d g h;obtain ⟨l,ss,y,rfl,rfl,c,B,q⟩:=h;cases d;obtain ⟨u,rfl,A⟩:=g.one;obtain ⟨t,rfl⟩:=A;obtain ⟨z,its,n,r,hl,e⟩:=I.lstM c;obtain ⟨j,G,h1,h2,h3⟩:=qcC ss its r B;refine la PySem.F.slot_list_remove ⟨_,e,rfl⟩ PySem.F.entry_list_remove (PySem.F.args_list_remove_2 _ _)
  (MeetsSeq.list_remove l its.toArray n (.str y t) (qg6 y) (λw hw=>?_) j (by simpa using G) (by simpa using h1) (λm k b=>by simpa using h2 m (by simpa using k) b) (by rw [am]; omega)) ⟨e,?_⟩
 ·obtain ⟨i,hi,rfl⟩:=dP.mp (show w∈its by simpa using hw);obtain ⟨x,ex,d⟩:=Vals.getE r hi;rw [aE] at ex;obtain ⟨f,_,rfl⟩:=aS.mp ex;obtain ⟨t',o⟩:=(show ∃ t,its[i]=dQ f t from d)
  rw [o];exact SeqRoads2.EqGives.str _ _ _ _
 ·refine ⟨.non,_,I.lset (its':=its.eraseIdx j) c e ?_ h3 ?_,rfl,q⟩;·show its.toArray.eraseIdxIfInBounds j=(its.eraseIdx j).toArray;rw [List.eraseIdxIfInBounds_toArray]
  ·have:=List.length_erase_le (a:=y) (l:=ss);rw [ah] at z ⊢;omega
noncomputable def qd2 (ds:List D) (d:D):Out (List D):=match xB ds,d with
 | some ss,.str y=>if y∈ss then .ok ((ss.erase y).map D.str) else .bad
 | _,_=>.bad
theorem qcD {K:Frag} {F:Hp}:∀ {vs:List V} {ds:List D} {ss:List Str},IsL K F vs ds->xB ds=iB ss->vs=ss.map V.str/\∀ x∈ss,x.length<=sizeLine
 | [],[],ss,.nil,e=>by cases e; exact ⟨rfl,λx h=>by cases h⟩
 | v::vs,d::ds,ss,.cons i il,e=>by
  cases d with
  | str x=>
   have e:(xB ds).map (x::·)=iB ss:=e;obtain ⟨s2,a,rfl⟩:=aS.mp e;obtain ⟨h1,h2⟩:=qcD il a;cases i;refine ⟨by rw [h1]; rfl,λy B=>?_⟩;rcases ae.mp B with rfl | B;·assumption
   ·exact h2 y B
  | _=>cases e
theorem GC {i:Nat} {x:Str} {px apos cpos:Pos} (r:X.N[i]?=iB x) (n:Vis X.env.scope x) (o:i∈own) (p:PE X e (tE C own m fe)) (j:m≠.any:=by decide)
  (hd:(x == ("__debug__":Str))=false:=by decide) (f:(x == ("__classdict__":Str))=false:=by decide)
  (c:attributeBase (.Name x px) "remove" X.env (eval (.Name x px) X.env)=eval (.Name x px) X.env:=by rfl)
  (w:((backTo cpos (starEach [e] X.env)).all (λx=>!x.1)&&(backToKw cpos (keywordEach [] X.env)).all (λx=>x.1.isSome)
   && decide ([e].length+([]:List iY).length+(if ([]:List iY).isEmpty then 0 else 1) < 30))=true:=by exact wG rfl)
  (b:(apos.endLine == cpos.line)=true:=by rfl) (s:starEach [e] X.env=[(iF,eval e X.env)]:=by exact qJ rfl) :
  PE X (.Call (.Attribute (.Name x px) "remove" apos) [e] [] cpos) (tE C own .sh (xY i qd2 fe)):=by
 refine jG (YY bQ PySem.F.slot_list_remove PySem.F.type_list_remove qf7 (xT r n hd f) (qO (yN p j) jE s) c w b s rfl) λσ H Q h=>?_;have q:∀ (a:Addr) (xs:List V) (ds ys:List D) (v:V) (d:D) (F H:Hp),Same F H->H a=iB (.lst xs)->F a=iD->IsL C.K F xs ds->Is C.K F v d->qd2 ds d=.ok ys->(∀ zs,IsL C.K F zs ys->Q .non (upd H a (.lst zs)))->qh3 (.ref a) [v] H Q:=λa xs ds ys v d F H u t A ix l g k=>by
  unfold qd2 at g;split at g
  ·rename_i ss y e1;split at g;·rename_i B;cases g;cases l;obtain ⟨hx,hl⟩:=qcD ix e1;subst hx;exact ⟨a,ss,y,rfl,rfl,t,B,k _ (zI λz hz=>hl z (ff hz))⟩
   ·cases g
  ·cases g
 obtain ⟨a,xs,h1,h2,k⟩:=UL (R:=λx v H Q=>qh3 x [v] H Q) o j q h;exact ⟨.ref a,h1,.inl ⟨rfl,xs,.inl (.inl h2)⟩,k⟩
theorem qf8 {o e:Expr} {to:TE} {t:TA} {name:Str} {id:String} {r:V->List V->Hp->VK->Prop} (slot:Slot "tuple" name id) (y:typeOf (.builtin id)=pure (.type "method_descriptor")) (i:MtR X id r) (m:PE X o to) (k:PA X [e] t)
  (c:attributeBase o name X.env (eval o X.env)=eval o X.env)
  (w:((backTo cpos (starEach [e] X.env)).all (λx=>!x.1)&&(backToKw cpos (keywordEach [] X.env)).all (λx=>x.1.isSome)
   && decide ([e].length+([]:List iY).length+(if ([]:List iY).isEmpty then 0 else 1) < 30))=iH)
  (b:(apos.endLine == cpos.line)=iH) (g:starEach [e] X.env=[(iF,eval e X.env)]) :
  PE X (.Call (.Attribute o name apos) [e] [] cpos) (λσ H Q=>to σ H λx H1=>(∃ p xs,x=.ref p/\SqT X.K H1 p xs)/\t σ H1 λxs H2=>r x xs H2 Q):=by
 refine ⟨?_⟩;intro pins s σ H Q I h;refine wpAny_Call_method_late c w b rfl (thn (m pins s σ H _ I h) λv s1 ⟨x,H1,d,r1,ty,f⟩=>?_);obtain ⟨p,xs,rfl,hq⟩:=ty;cases r1;obtain ⟨o',e1,l⟩:=d.tupleN hq;obtain ⟨its,u,⟨o2,E,j,_⟩,_⟩:=d.tuple hq;refine ⟨"tuple",id,PySem.F.plainAttrs_tuple,slot,y,⟨o2,E,j⟩,λa z=>by cases z; exact ⟨o',e1,l⟩,?_⟩;have hA:=k cpos pins s1 σ H1 _ d f;rw [g] at hA ⊢;refine dg rfl (dL ?_);exact thn hA λus s2 ⟨vs,H2,n,r2,q⟩=>i pins s2 σ H2 (.ref p) vs _ us Q n rfl r2 q
noncomputable def qeX:D->Bool
 | .tup _=>iH
 | _=>iF
noncomputable def yo:D->D->Out D
 | .tup ds,e=>match zp 7 e ds with
  | some _=>.ok (.int ((ds.map λd=>eqN 7 d e == iB iH).countP id:Nat))
  | none=>.bad
 | _,_=>.bad
theorem GD (D:C.K=X.K) (z:X.A.units+64 < cLine):MtD X C .sh "tuple.count" yo:=by
 intro pins s σ H x vs v us Q I k o h;obtain ⟨y,F,dx,g,rfl,f,i,ty,po⟩:=h;rw [D] at i ty;obtain ⟨u,rfl,q⟩:=o.one;unfold yo at po;cases dx <;> try exact po.elim
 rename_i ds;cases e:zp 7 g ds with
 | none=>simp only [e] at po; exact po.elim
 | some b=>simp only [e] at po;obtain ⟨F',g',c,N⟩:=ty.is f;obtain ⟨a,xs,rfl,p,l⟩:=i.tup f;cases k;obtain ⟨its,r,pl,hz⟩:=I.tuple p;obtain ⟨h1,h2⟩:=Qx (A:=X.A) (y:=.non) (a:=a) (u:=.none) I z c N q (l.mono g') r e;have B:=WA I c (l.mono g') r e;obtain ⟨⟨cls,dd,data,sl⟩,m,j,n,t⟩:=pl;simp only at j t;subst j t;refine la PySem.F.slot_tuple_count ⟨_,m,rfl⟩ PySem.F.entry_tuple_count (PySem.F.args_tuple_count_2 _ _) (SeqAt.tuple_countAt a _ n dd sl u (Xd X F' 7 g)) ⟨m,λw hw=>h2 w hw,?_⟩;refine ⟨.int ((ds.map λd=>eqN 7 d g == iB iH).countP id:Nat),H,I.tok _,⟨s.toks,?_⟩,po _ F H f .refl (.int _)⟩;rw [<-B,List.countP_map];rfl
theorem GE (m:C.K=X.K) (u:X.A.units+64 < cLine)
  (j:PE X a (tE C own ma fa)) (i:PE X b (tE C own mb fb)) (f:ma≠.any:=by decide)
  (c:attributeBase a "count" X.env (eval a X.env)=eval a X.env:=by rfl)
  (w:((backTo cpos (starEach [b] X.env)).all (λx=>!x.1)&&(backToKw cpos (keywordEach [] X.env)).all (λx=>x.1.isSome)
   && decide ([b].length+([]:List iY).length+(if ([]:List iY).isEmpty then 0 else 1) < 30))=true:=by exact wG rfl)
  (e:(apos.endLine == cpos.line)=true:=by rfl) (s:starEach [b] X.env=[(iF,eval b X.env)]:=by exact qJ rfl) :
  PE X (.Call (.Attribute a "count" apos) [b] [] cpos) (tE C own .sh (dM qeX yo fa fb)):=by
 refine jG (qf8 PySem.F.slot_tuple_count PySem.F.type_tuple_count (GD m u) j (qO i jE s) c w e s) λσ H Q h=>?_;obtain ⟨F,ρ,p,h⟩:=Gt (ma:=ma) (mb:=mb) f h;refine ⟨F,ρ,p,Po.imp h λx H1 h1=>?_⟩;obtain ⟨⟨F1,dx,g,d,k⟩,h2⟩:=h1;refine ⟨?_,?_⟩
 ·cases dx <;> try (cases k; done)
  obtain ⟨a,vs,rfl,hq,t⟩:=d.tup g;exact ⟨a,vs,rfl,by rw [<-m]; exact hq⟩
 ·obtain ⟨l,ρ2,r,h2⟩:=h2;exact ⟨l,ρ2,r,Po.imp h2 λy H2 q=>⟨y,q.choose,q.choose_spec.choose,q.choose_spec.choose_spec.choose,rfl,q.choose_spec.choose_spec.choose_spec⟩⟩
end
end L2.D2
namespace L2.D2
open PySem PySem.Spec PyProof.Rows PySem.W
variable {cmp:Nat->Nat->(Bool->iI->Prop)->iI->Prop} {N:Nat} {s:iI}
theorem qcE {Q:Nat->iI->Prop} (d:∀ i,i+1 < N->∀ C:Bool->iI->Prop,C iF s->cmp (i+1) i C s):∀ (f n:Nat),1<=n->n+f<=N->Q (n+f) s->(kas_asc (dR (au N)) f n).kasWp cmp Q s
 | 0,n,_,_,h=>h
 | f+1,n,h1,h2,h=>by
  obtain ⟨m,rfl⟩:∃ m,n=m+1:=⟨n - 1,by omega⟩
  have e1:(dR (au N)).getD (m+1) 0=m+1:=by simp [Array.getD,show m+1 < N by omega]
  have e:(dR (au N)).getD (m+1 - 1) 0=m:=by simp [Array.getD,show m < N by omega]
  show cmp ((dR (au N)).getD (m+1) 0) ((dR (au N)).getD (m+1 - 1) 0) _ s;rw [e1,e];refine d m (by omega) _ ?_;have h:Q (m+1+1+f) s:=by rw [show m+1+1+f=m+1+(f+1) by omega]; exact h
  exact qcE d f (m+1+1) (by omega) (by omega) h
theorem qd3 {G:Array Nat->iI->Prop} (a:1<=N) (d:∀ i,i+1 < N->∀ C:Bool->iI->Prop,C iF s->cmp (i+1) i C s) (h:G (dR (au N)) s):(kas_sort N).kasWp cmp G s:=by unfold kas_sort kas_count;rw [KasT.kasWp_bind,KasT.kasWp_bind];refine qcE d (N - 1) 1 (ax _) (by omega) ?_;rw [show 1+(N - 1)=N by omega,if_pos (by simp)];show (if N < N then _ else KasT.ret _:KasT (Array Nat)).kasWp cmp G s;rw [if_neg (bL _)];exact h
section
variable {prog:iJ} {w:iK} {A:iP} {E:iE->iI->Prop}
theorem Jq {a:Addr} {vs:List iE} {n:Nat} {P:PySem.Fin->iI->Prop} (m:s.heap.get? a=iB (seqObj "list" vs.toArray n)) (j:vs.length < 64)
  (k:2<=vs.length->∀ h':Heap,(∀ b o,b≠a->s.heap.get? b=iB o->h'.get? b=iB o)->∃ κ,(∀ Q:SortKind->iI->Prop,Q κ { s with heap:=h' }->wpAny (model prog w) A (keyKind' vs.toArray) Q (λ_ _=>False) { s with heap:=h' })/\∀ i,i+1 < vs.length->∀ C:Bool->iI->Prop,C iF { s with heap:=h' }->kas_ask prog w A κ vs (i+1) i C { s with heap:=h' })
  (h:P (.done (.ret .none)) { s with heap:=sortedHeap s.heap a vs vs.toArray }) :
  wpAny (model prog w) A (Builtin.«list.sort» ⟨[.ref a],[]⟩) P E s:=by
 rw [list_sort_plain];have l:a < s.heap.objs.size:=aq m;refine iC (listItems_at m rfl ?_);refine iC (listUpdate_at m rfl ?_ (by rw [am,iL]; omega) (bi _));obtain ⟨e1,ho1⟩:∃ e1,(s.heap.update a (bw λ_=>#[])).get? a=iB (seqObj "list" #[] e1):=⟨_,get?_update_seq m (λ_=>#[])⟩
 refine iC (seqEpoch_at ho1 rfl ?_);refine iC (lx ?_ (by show vs.length<=_; rw [iL]; omega));refine iC (ly ?_ (bi _));refine iR ?_;have c:(((s.heap.update a (bw λ_=>#[])).push (seqObj "tuple" vs.toArray 0)).push (seqObj "list" #[] 0)).get? a=iB (seqObj "list" #[] e1):=by rw [fO _ _ _ (by rw [size_push',Heap.size_update]; exact aC (cV l)),fO _ _ _ (by rw [Heap.size_update]; exact aC l)];exact ho1
 have keep:∀ b o,b≠a->s.heap.get? b=iB o->(((s.heap.update a (bw λ_=>#[])).push (seqObj "tuple" vs.toArray 0)).push (seqObj "list" #[] 0)).get? b=iB o:=λb o y e=>
  aa _ (aa _ (by rw [Heap.get?_update_ne _ _ _ _ y]; exact e))
 show wpAny (model prog w) A _ P E { s with heap:=((s.heap.update a (bw λ_=>#[])).push (seqObj "tuple" vs.toArray 0)).push (seqObj "list" #[] 0) };dsimp only;have hsz:vs.toArray.size=vs.length:=by simp
 have f:(vs.toArray.zip vs.toArray).map (·.2)=vs.toArray:=by apply Array.toList_inj.mp;rw [Array.toList_map,Array.toList_zip];exact List.map_snd_zip (ax _)
 by_cases h2:vs.toArray.size < 2;·rw [if_pos h2,if_pos h2];refine iC (iG ?_);rw [StateT.run_pure];refine iC (iG ?_);dsimp only;have z:arrOf (SortSt.mk' general' (vs.toArray.zip vs.toArray) #[] 7 iD)=vs.toArray.zip vs.toArray:=rfl;refine iC (seqEpoch_at c rfl ?_);rw [z,f];refine iC (listUpdate_at c rfl ?_ (bi _) (by rw [hsz,iL]; omega));simp only [bne_self_eq_false,cq,if_false];exact iG h
 ·rw [if_neg h2,if_neg h2];rw [hsz] at h2;obtain ⟨κ,t,v⟩:=k (by omega) _ keep;refine iC (i8 (t (λd s'=>d=κ/\s'={ s with heap:=((s.heap.update a (bw λ_=>#[])).push (seqObj "tuple" vs.toArray 0)).push (seqObj "list" #[] 0) }) ⟨rfl,rfl⟩) (λd s' q=>?_) λ_ _ x=>x.elim);obtain ⟨rfl,rfl⟩:=q;refine iC (i8 (kat_run (Q:=λg s'=>(arrOf g).map (·.2)=vs.toArray/\failedOf g=iD/\s'={ s with heap:=((s.heap.update a (bw λ_=>#[])).push (seqObj "tuple" vs.toArray 0)).push (seqObj "list" #[] 0) })
   (G:=λp s'=>p=dR (au vs.length)/\s'={ s with heap:=((s.heap.update a (bw λ_=>#[])).push (seqObj "tuple" vs.toArray 0)).push (seqObj "list" #[] 0) })
   rfl (by omega) j (λF g s' H D B r=>⟨?_,B,r.2⟩) (qd3 (by omega) v ⟨rfl,rfl⟩)) ?_ λ_ _ e=>e)
  ·rw [kat_snds rfl D,r.1];congr 1;refine eX λi=>?_;by_cases hi:i < vs.length;·simp [hi]
   ·simp [hi]
  ·rintro ⟨⟨⟩,g⟩ s' ⟨hp,u,rfl⟩;dsimp only;refine iC (seqEpoch_at c rfl ?_);rw [hp];refine iC (listUpdate_at c rfl ?_ (bi _) (by rw [hsz,iL]; omega));rw [u];simp only [bne_self_eq_false,cq,if_false];exact iG h
end
theorem uy:∀ l:List Int,yj (l.map D.int)=iB l
 | []=>rfl
 | x::l=>by show (yj (l.map D.int)).map (x::·)=iB (x::l);rw [uy l];rfl
end L2.D2
namespace L2.D2
open PySem PySem.Spec PyProof.Rows
noncomputable def Vk:D->Out D
 | .dct kvs=>.ok (.dct kvs)
 | _=>.bad
variable {X:Cx} {C:Ct}
theorem Yj (m:C.K=X.K):zr X C .fr (.type "dict") Vk:=by
 intro pins s σ H xs us Q I r h;obtain ⟨x,F,dx,rfl,y,t,po⟩:=h;cases dx <;> try exact po.elim
 rename_i ks;have po:PoV C .fr F H (.ok (.dct ks)) Q:=po;obtain ⟨a,kv,rfl,hq,i⟩:=t.dct y;obtain ⟨u,rfl,A⟩:=yv r;cases A;obtain ⟨hz,S,vs,B,hd⟩:=(show ObjOk X.prog X.w H s.heap a (.dK kv) from I.hok a _ hq)
 have hl:=B.length;refine kt_call_dict S hd (by omega) λh' f d=>?_;have kp:∀ b o,s.heap.get? b=iB o->h'.get? b=iB o:=λb o e=>(d.2 b (aC (aq e))).trans (aa _ e);have hp:H s.heap.objs.size=none:=I.hok.fresh (ax _);obtain ⟨s2,c2,E⟩:=kL (u:=.dK kv) y hp;have c:(s.heap.objs.size == sysModules)=false:=beq_eq_false_iff_ne.mpr (cT I.big);exact ⟨.ref s.heap.objs.size,_,I.laid (o:=.dK kv) (t':=s.toks) kp (ax _) (Zs hz c B f),rfl,po _ F _ s2 c2 ⟨_,rfl,hp,E,_,qt,i⟩⟩
noncomputable def GF {α:Type} (ds:List α) (lo hi:Option Int):List α:=(ds.drop (HT.sIx ds.length 0 lo)).take (HT.sIx ds.length ds.length hi - HT.sIx ds.length 0 lo)
noncomputable def qd4 (lo hi:Option Int):D->Out D
 | .lst ds=>.ok (.lst (GF ds lo hi))
 | _=>.bad
noncomputable def jX (fa:Sl->Out (D×Sl)) (l u:Option (Sl->Out (D×Sl))):Sl->Out (D×Sl):=λρ=>(fa ρ).bind λp=>(ut l p.2).bind λa=>(ut u a.2).bind λb=>(qd4 a.1 b.1 p.1).plain.bind λd=>.ok (d,b.2)
section
variable {own:List Nat} {e:Expr} {fa:Sl->Out (D×Sl)} {ma:Mo} {pos p2:Pos}
theorem qh4 (m:C.K=X.K):SlR X (λx lo hi H Q=>∃ F d,Same F H/\Is C.K F x d/\PoV C .sh F H (qd4 lo hi d) Q):=by
 intro pins s σ H x v vl b lo hi sl Q I r e pl c h;obtain ⟨F,d,y,is,po⟩:=h;cases d with
 | lst ds=>
  cases is with
  | @lst a xs _ hq t=>
   have po:PoV C .sh F H (.ok (.lst (GF ds lo hi))) Q:=po;refine qdl pins s σ H _ v vl b lo hi sl Q I r e pl c ⟨a,xs,rfl,by rw [<-m]; exact y.seq hq,λp hp=>?_⟩;obtain ⟨s2,c2⟩:=uo (u:=.lst (qdi xs lo hi)) y hp;have z:IsL C.K F (qdi xs lo hi) (GF ds lo hi):=by unfold qdi GF;rw [t.length];exact IsL.take _ (IsL.drop _ t)
   exact po _ _ _ s2 c2 (.lst (.inl (.inl qt)) (z.mono c2.grow))
 | _=>exact po.elim
theorem gH {lo hi:Option Expr} {l u:Option (Sl->Out (D×Sl))} (n:C.K=X.K) (j:PE X e (tE C own ma fa)) (hl:PO X lo (tO C own (ut l))) (i:PO X hi (tO C own (ut u))) (g:ma≠.any:=by decide):PE X (.Subscript e (.Slice lo hi iD p2) pos) (tE C own .sh (jX fa l u)):=by
 refine jG (qaZ (qh4 (C:=C) n) (yN j g) hl i) λσ H Q ⟨F,ρ,p,h⟩=>⟨F,ρ,p,Po.bind h λv F1 H1 d ρ1 f q m h1=>?_⟩
 refine ⟨F1,ρ1,f,Po.bindO h1 λo H2 a ρ2 r c2 h2=>⟨o,ρ2,r,Po.bindO h2 λt s b k c G h3=>?_⟩⟩;exact ⟨t,d,c.sub,(m.mono c2.grow).mono G.grow,PoV.of c h3⟩
end
theorem fsc {N P:List Str} {sc:lc} (a:sc.kind=.function:=by rfl) (b:sc.isCoroutine=false:=by rfl) (c:sc.isGenerator=false:=by rfl) (d:N.Nodup:=by decide +kernel) (e:N.take P.length=P:=by rfl) (f:∀ x∈P,sc.names.lookup x=iB .local\/sc.names.lookup x=iB .cell:=by decide +kernel) (g:∀ y∈sc.names,y.2≠.free:=by decide +kernel):FnScope N P sc:=⟨a,b,c,d,e,f,g⟩
end L2.D2
namespace L2.D2
open PySem PySem.Spec PyProof.Rows PySem.W
noncomputable def Qj (H:Hp) (l:List (Addr×List V)):Hp:=λb=>match l.lookup b with
 | some xs=>iB (.tup xs)
 | none=>H b
variable {α:Type}
theorem GG {x:Addr} {a:α}:∀ {l:List (Addr×α)},l.lookup x=iB a->(x,a)∈l
 | [],h=>by simp at h
 | (n,k)::r,h=>by
  rw [cm] at h;by_cases e:(x == n)=iH
  ·rw [e] at h;have h:iB k=iB a:=h;cases h;have:x=n:=by simpa using e
   rw [this];exact ai ..
  ·rw [Bool.not_eq_true] at e;rw [e] at h;exact ac _ (GG h)
variable {H:Hp} {l:List (Addr×List V)} {b:Addr}
theorem zJ (h:∀ p∈l,p.1≠b):Qj H l b=H b:=by
 unfold Qj;cases e:l.lookup b with
 | none=>rfl
 | some xs=>exact absurd rfl (h _ (GG e))
theorem ko {o:HO} (n:∀ p∈l,H p.1=iD) (e:H b=iB o):Qj H l b=iB o:=by rw [zJ λp hp q=>?_,e];have:=n p hp;rw [q,e] at this;cases this
variable {X:Cx} {pins:List (Addr×Obj)} {σ:St} {F:Hp} {s:iI} {h':Heap}
section
theorem Inv.lays {t':Nat} (I:Inv X pins σ H s) (k:∀ b u,s.heap.get? b=iB u->h'.get? b=iB u) (hp:∀ p∈l,s.heap.objs.size<=p.1)
  (new:∀ b xs,l.lookup b=iB xs->(xs.length<=sizeLine/\∃ o,h'.get? b=iB o/\o.dict=iD)/\∃ its:List iE,Vals xs its/\IsTup h' b its.toArray):Inv X pins σ (Qj H l) { s with heap:=h',toks:=t' }:=by
 have h:∀ p∈l,H p.1=none:=λp hq=>I.hok.fresh (hp p hq);refine I.un ⟨λb u q _ _ _=>k b u q,λb u q _ _ _=>⟨u.slots,k b u q⟩,λb u q n _=>?_,λb u q _=>⟨u,k b u q⟩,λb xs q=>ko h q,λb u xs q=>ko h q,λb ps q=>⟨#[],by rw [ko h q]; simp⟩⟩ λb u e=>?_
 ·rw [zJ λp hq z=>?_];·exact n
  ·exact absurd (aq q) (by rw [<-z]; exact Nat.not_lt.mpr (hp p hq))
 ·cases q:l.lookup b with
  | some xs=>have e:Qj H l b=iB u:=e;unfold Qj at e;rw [q] at e;cases e;exact new b xs q
  | none=>have e:Qj H l b=iB u:=e;unfold Qj at e;rw [q] at e;exact (I.hok b u e).stay (λc v _ q=>k c v q) (λc q=>ko h q) λc xs q=>ko h q
theorem Yk (y:Same F H) (n:∀ p∈l,H p.1=iD):Same (Qj F l) (Qj H l)/\Chg No F H (Qj F l) (Qj H l):=by
 have E:∀ p∈l,F p.1=none:=λp hp=>by
  cases q:F p.1 with
  | none=>rfl
  | some o=>have:=n p hp;rw [y _ o q] at this;cases this
 refine ⟨λb o e=>?_,⟨λb o e _=>ko n e,λb e=>?_,λb o e=>ko E e,λb e=>?_⟩⟩
 ·unfold Qj at e ⊢;cases q:l.lookup b with
  | some xs=>rw [q] at e; exact e
  | none=>rw [q] at e; exact y b o e
 ·cases q:H b with
  | none=>exact absurd q e
  | some o=>rw [ko n q]; simp
 ·cases q:l.lookup b with
  | some xs=>exact .inr (.inl (n _ (GG q)))
  | none=>have e:Qj F l b≠none:=e;unfold Qj at e;rw [q] at e;exact .inl e
end
variable {prog:iJ} {w:iK} {A:iP} {E:iE->iI->Prop}
section
theorem Vl {K:Type} [DecidableEq K] {knd:KeyKind prog w K} {r d:Addr} {kvs:List (K×iE)} {ep:Nat} {Q:iE->iI->Prop} (u:A.handled=iD) (v:s.heap.IsItemsView r d) (q:s.heap.DictAt knd d kvs ep) (g:kvs.length < 64)
  (c:2<=kvs.length->∀ (as:List Addr) (s':iI) (p:iP),as.length=kvs.length->KdxG knd kvs s.heap.objs.size s'.heap as->∃ κ,(∀ Q:SortKind->iI->Prop,Q κ s'->wpAny (model prog w) p (keyKind' (as.map aL).toArray) Q (λ_ _=>False) s')/\∀ i,i+1 < kvs.length->∀ C:Bool->iI->Prop,C iF s'->kas_ask prog w p κ (as.map aL) (i+1) i C s')
  (z:∀ (h1 h':Heap) (tk e:Nat) (as:List Addr),(∀ b o,s.heap.get? b=iB o->h1.get? b=iB o)->(∀ b o,h1.get? b=iB o->h'.get? b=iB o)->as.length=kvs.length->KdxG knd kvs s.heap.objs.size h1 as->h'.get? h1.objs.size=iB (seqObj "list" (as.map aL).toArray e)->Q (.ref h1.objs.size) { s with heap:=h',toks:=tk }) :
  wpAny (model prog w) A (call (.builtin "sorted") [.ref r]) Q E s:=by
 refine dW kind_sorted plain_sorted entry_sorted (args_sorted1 _) ?_; unfold Builtin.«sorted»;refine iC (m:=checkCount "sorted" 1 1 _) (iG ?_);refine iC (kdx_collect (A:=A.in1) (knd:=knd) (kvs:=kvs) (ep:=ep) u v q (by rw [iL]; omega) λh1 tk as k1 hl G=>?_);have h:(as.map aL).length=kvs.length:=by rw [ah]; exact hl
 refine iC (ly ?_ (by rw [h,iL]; omega));have Y:(h1.push (seqObj "list" (as.map aL).toArray 0)).get? h1.objs.size=iB (seqObj "list" (as.map aL).toArray 0):=af _ rfl;have B:∀ h2:Heap,(∀ b o,b≠h1.objs.size->(h1.push (seqObj "list" (as.map aL).toArray 0)).get? b=iB o->h2.get? b=iB o)->KdxG knd kvs s.heap.objs.size h2 as:=λh2 k2=>
  ⟨G.rise,G.above,λj a t=>by obtain ⟨key,k,x,e1,H,n⟩:=G.pairs j a t;exact ⟨key,k,x,e1,H,k2 a _ (aC (aq n)) (aa _ n)⟩⟩
 refine iC (iR (iO slot_list_sort (s:={ s with heap:=h1.push (seqObj "list" (as.map aL).toArray 0),toks:=tk }) ⟨_,Y,rfl⟩ entry_list_sort (Jq Y (by rw [h]; exact g) (λf h2 k2=>by rw [h] at f ⊢;exact c f as { s with heap:=h2,toks:=tk } _ hl (B h2 k2)) ⟨_,rfl,?_⟩) (args_list_sort _)));obtain ⟨e,y⟩:=sortedHeap_at (out:=(as.map aL).toArray) Y;refine iG ⟨_,rfl,z h1 _ tk e as k1 (λb o D=>?_) hl G y⟩;have l:=aq D;rw [sortedHeap_old (aC l) (by rw [bh]; exact cV l)];exact aa _ D
end
noncomputable def kD:Key->D
 | .inl i=>.int i
 | .inr x=>.str x
noncomputable def qd5:List Str->Bool
 | x::y::r=>decide (y≠x)&&!decide (y.cps.toList < x.cps.toList)&&qd5 (y::r)
 | _=>iH
theorem GH:∀ {ss:List Str},qd5 ss=iH->∀ i x y,ss[i]?=iB x->ss[i+1]?=iB y->y≠x/\¬y.cps.toList < x.cps.toList
 | [],_,i,x,y,h1,_=>by simp at h1
 | [_],_,i,x,y,_,h2=>by simp at h2
 | a::b::r,h,i,x,y,h1,h2=>by
  unfold qd5 at h;simp only [aK,decide_eq_true_eq,fL,decide_eq_false_iff_not] at h;cases i with
  | zero=>cases h1;cases h2;exact h.1
  | succ i=>exact GH h.2 i x y h1 h2
noncomputable def Yl (kvs:List (Key×D)):List D:=kvs.map λkv=>.tup [kD kv.1,kv.2]
noncomputable def jC:D->Out D
 | .dct kvs=>(match WD kvs with
  | some ss=>if ss.length < 64/\qd5 ss=iH/\(ss.all λy=>decide (y.length<=sizeLine))=iH then .ok (.lst (Yl kvs)) else .bad
  | none=>.bad)
 | _=>.bad
theorem qcF {κ:Type}:∀ {kv:List (κ×V)} {vs:List (κ×iE)},KV kv vs->∀ (j:Nat) (k:κ) (x:iE),vs[j]?=iB (k,x)->∃ v,kv[j]?=iB (k,v)/\RelV v x
 | _,_,.nil,j,k,x,h=>by simp at h
 | _,_,.cons (a:=p) (b:=q) r t,j,k,x,h=>by
  cases j with
  | zero=>cases h;obtain ⟨p1,p2⟩:=p;obtain ⟨rfl,r2⟩:=r;exact ⟨p2,rfl,r2⟩
  | succ j=>exact qcF t j k x h
theorem GI:∀ {as:List Addr} {ys:List α} {b:Addr} {y:α},(as.zip ys).lookup b=iB y->∃ j:Nat,as[j]?=iB b/\ys[j]?=iB y
 | [],_,b,y,h=>by simp at h
 | _::_,[],b,y,h=>by simp at h
 | a::as,z::ys,b,y,h=>by
  rw [fG,cm] at h;by_cases e:(b == a)=iH
  ·rw [e] at h;have h:iB z=iB y:=h;cases h;have:b=a:=by simpa using e
   rw [this];exact ⟨0,rfl,rfl⟩
  ·rw [Bool.not_eq_true] at e;rw [e] at h;obtain ⟨j,h1,h2⟩:=GI h;exact ⟨j+1,h1,h2⟩
theorem GJ:∀ {as:List Addr} {ys:List α} {j:Nat} {b:Addr} {y:α},as.Nodup->as[j]?=iB b->ys[j]?=iB y->(as.zip ys).lookup b=iB y
 | [],_,j,b,y,_,h,_=>by simp at h
 | _::_,[],j,b,y,_,_,h=>by simp at h
 | a::as,z::ys,0,b,y,_,h1,h2=>by cases h1;cases h2;rw [fG,cm];simp
 | a::as,z::ys,j+1,b,y,n,h1,h2=>by
  rw [fG,cm];have n:=aP.mp n;have:(b == a)=false:=by rw [beq_eq_false_iff_ne];intro q;rw [q] at h1;exact n.1 (fg.mpr ⟨j,h1⟩)
  rw [this];exact GJ n.2 h1 h2
theorem gI:∀ as:List Addr,Vals (as.map V.ref) (as.map aL)
 | []=>.nil
 | _::as=>.cons rfl (gI as)
variable {K:Frag} {F':Hp}
theorem Vm (g:Same F F'):∀ {kv:List (Key×V)} {ks:List (Key×D)} {as:List Addr},IsK K F kv ks->as.length=kv.length->(∀ k∈ks.map (·.1),∃ x:Str,k=.inr x/\x.length<=sizeLine) ->(∀ (j:Nat) (a:Addr) (p:Key×V),as[j]?=iB a->kv[j]?=iB p->F' a=iB (.tup [kV p.1,p.2]))->IsL K F' (as.map V.ref) (Yl ks)
 | _,_,[],.nil,_,_,_=>.nil
 | _,_,_::_,.nil,h,_,_=>by simp at h
 | _,_,[],.cons _ _,h,_,_=>by simp at h
 | _,_,a::as,.cons (k:=k) (v:=v) (d:=d) h t,hl,hk,hF=>by obtain ⟨x,rfl,hx⟩:=hk _ (ai ..);have e:=hF 0 a (.inr x,v) rfl rfl;exact .cons (.tup (.inl (.inl e)) (.cons (.str hx) (.cons (h.mono g) .nil))) (Vm g t (by simpa using hl) (λk b=>hk k (ac _ b)) λj a p h1 h2=>hF (j+1) a p h1 h2)
variable {C:Ct} {own:List Nat} {fa:Sl->Out (D×Sl)} {ma:Mo}
section
variable {o:Expr} {pos p apos cpos:Pos}
theorem zc (hK:C.K=X.K) (hc:X.calm=iH) (hg:Gl X "sorted") (hm:X.mg "sorted"=iD) (c:bootBuiltins "sorted"=iB (.builtin "sorted")) (ha:PE X o (tE C own ma fa))
  (m:attributeBase o "items" X.env (eval o X.env)=eval o X.env:=by rfl) (g:(apos.endLine == cpos.line)=true:=by rfl)
  (he2:starEach [.Call (.Attribute o "items" apos) [] [] cpos] X.env=[(iF,eval (.Call (.Attribute o "items" apos) [] [] cpos) X.env)]:=by exact qJ rfl) :
  PE X (.Call (.Name "sorted" p) [.Call (.Attribute o "items" apos) [] [] cpos] [] pos) (tE C own .fr (d1 jC fa)):=by
 refine ⟨?_⟩;intro pins s σ H Q I h;refine i5 (yK I hg hm c ?_ (by decide) (by decide));rw [he2];refine dg rfl (dL (fD ?_));refine wpAny_Call_method m rfl g PySem.F.plainAttrs_dict PySem.F.slot_dict_items PySem.F.type_dict_items (thn (ha pins s σ H _ I (Wf (ma:=ma) h)) λu s1 ⟨x,H1,S,rx,F,dx,sb,tx,po⟩=>?_);cases dx with
 | dct kvs=>
  obtain ⟨a,kv,rfl,hH,Z⟩:=tx.dct sb;obtain rfl:u=aL a:=rx;obtain ⟨t1,t2,f⟩:=qfx S (.inl ⟨kv,.inl hH⟩);refine ⟨t1,t2,?_⟩;refine dg rfl (PySem.evalArgs_none ?_);cases q:WD kvs with
  | none=>simp only [jC,q] at po; exact po.elim
  | some ss=>
   simp only [jC,q] at po;by_cases hl:ss.length < 64/\qd5 ss=iH/\(ss.all λy=>decide (y.length<=sizeLine))=iH
   ·rw [if_pos hl] at po;obtain ⟨l1,l2,l3⟩:=hl;obtain ⟨hz,f,vs,rel,dd⟩:=(show ObjOk X.prog X.w H1 s1.heap a (.dK kv) from S.hok a _ hH)
    have hk:vs.map (·.1)=ss.map cw:=by rw [<-KV.keys rel,Z.keys,Yi q]
    have hlen:vs.length=ss.length:=by have:=congrArg iq hk; simpa using this
    have hlk:kv.length=vs.length:=rel.length;refine call_meetsIn PySem.F.slot_dict_items dd.typeIs PySem.F.entry_dict_items (PySem.F.args_dict_items_1 _) (meets_dict_items (ja X.prog X.w) a f) ⟨⟨vs,dd⟩,?_⟩;refine fJ ?_;obtain ⟨ep,da⟩:=dd.dictAt;have J:∀ (j:Nat) (k:Key) (x:iE),vs[j]?=iB (k,x)->∃ y,ss[j]?=iB y/\k=.inr y:=λj k x e=>by
     have E:(vs.map (·.1))[j]?=iB k:=by rw [aE,e]; rfl
     rw [hk,aE] at E;obtain ⟨y,R,A⟩:=aS.mp E;exact ⟨y,R,A.symm⟩
    have r:∀ {lo:Addr} {h:Heap} {as:List Addr},KdxG (ja X.prog X.w) vs lo h as->∀ (j:Nat) (b:Addr),as[j]?=iB b->∃ y t x,ss[j]?=iB y/\vs[j]?=iB (.inr y,x)/\h.get? b=iB { cls:=.type "tuple",data:=.seq #[.str y t,x] }:=λG j b hj=>by
     obtain ⟨key,k,x,e1,e2,E⟩:=G.pairs j b hj;obtain ⟨y,R,rfl⟩:=J j k x e1;rcases jp (show zT (cw y) key=iH from e2) with ⟨i,t,A,_⟩ | ⟨z,t,A,rfl⟩
     ·cases A
     ·cases A;exact ⟨_,t,x,R,e1,E⟩
    refine Vl (knd:=ja X.prog X.w) (d:=a) (kvs:=vs) (ep:=ep) (I.ok.hd hc) ⟨_,af _ rfl,rfl,rfl⟩ (da.push _) (by omega) (λh2 as s' A' hla n=>?_) λh1 h' tk e as k1 k2 hla n hp=>?_
    ·refine ⟨tuples' iH,λQ' hQ'=>?_,λi hi C' hC=>?_⟩
     ·obtain ⟨fs,f1,f2,P⟩:∃ fs:List iE,KatTups s'.heap (as.map aL) fs/\fs.length=as.length/\∀ v∈fs,∃ y t,v=dQ y t:=by
       have go:∀ (l:List Addr),(∀ b∈l,∃ y t x,s'.heap.get? b=iB { cls:=.type "tuple",data:=.seq #[dQ y t,x] })->∃ fs:List iE,KatTups s'.heap (l.map aL) fs/\fs.length=l.length/\∀ v∈fs,∃ y t,v=dQ y t:=by
        intro l
        induction l with
        | nil=>intro _; exact ⟨[],.nil,rfl,λv c=>by cases c⟩
        | cons b l ih=>
         intro c;obtain ⟨y,t,x,ho⟩:=c b (ai ..);obtain ⟨fs,f1,f2,P⟩:=ih λW h'=>c W (ac _ h');refine ⟨dQ y t::fs,.cons ho rfl rfl (by simp) f1,by simp [f2],λW h'=>?_⟩;rcases ae.mp h' with rfl | h';·exact ⟨_,_,rfl⟩
         ·exact P W h'
       refine go as λb O=>?_;obtain ⟨j,hj⟩:=fg.mp O;obtain ⟨y,t,x,_,_,E⟩:=r n j b hj;exact ⟨y,t,x,E⟩
      refine kat_kind (T:=.type "str") f1 (by omega) (λv c=>?_) (by decide) hQ';obtain ⟨y,t,rfl⟩:=P v c;exact .now
     ·have M:as[i+1]?=iB (as[i+1]'(by omega)):=ay _;have N:as[i]?=iB (as[i]'(by omega)):=ay _;obtain ⟨y1,u1,x1,g1,_,g2⟩:=r n (i+1) _ M;obtain ⟨y0,u0,x0,g3,_,g4⟩:=r n i _ N;obtain ⟨n1,n2⟩:=GH l2 i y0 y1 g3 g1;unfold kas_ask;rw [show (as.map aL).getD (i+1) .none=.ref (as[i+1]'(by omega)) by rw [bZ,aE,M]; rfl,show (as.map aL).getD i .none=.ref (as[i]'(by omega)) by rw [bZ,aE,N]; rfl];refine kat_lt g2 rfl g4 rfl (kat_cons (wpAny_eqBool_str ?_));rw [decide_eq_false n1];refine kat_no (oneLt_str ?_);rw [decide_eq_false n2];exact hC
    ·have B:∀ b o,s1.heap.get? b=iB o->h1.get? b=iB o:=λb o eb=>k1 b o (aa _ eb);have hsz:(s1.heap.push { cls:=.type "dict_items",data:=.fields #[.ref a] }).objs.size=s1.heap.objs.size+1:=bh ..;have hab:∀ b∈as,s1.heap.objs.size<=b:=λb O=>by have:=n.above b O;have this:(s1.heap.push { cls:=.type "dict_items",data:=.fields #[.ref a] }).objs.size < b:=this;rw [hsz] at this;exact cH (fM this)
     have hnd:as.Nodup:=n.rise.imp λz=>aC z;have hlz:as.length=(kv.map λp=>[kV p.1,p.2]).length:=by rw [ah]; omega
     have D:∀ q∈as.zip (kv.map λp=>[kV p.1,p.2]),s1.heap.objs.size<=q.1:=λq hq=>hab _ (cO hq).1;have I2:Inv X pins σ (Qj H1 (as.zip (kv.map λp=>[kV p.1,p.2]))) { s1 with heap:=h1,toks:=tk }:=Inv.lays S B D λb xs O=>by obtain ⟨j,Y,U⟩:=GI O;obtain ⟨y,t,x,e1,e2,E⟩:=r n j b Y;obtain ⟨v,R,A⟩:=qcF rel j _ x e2;rw [aE,R] at U;cases U;exact ⟨⟨by show 2<=_; rw [iL]; decide,_,E,rfl⟩,[.str y t,x],.cons ⟨t,rfl⟩ (.cons A .nil),_,E,rfl,_,rfl⟩
     have hq0:H1 h1.objs.size=none:=(S.kept (t':=tk) B).hok.fresh (ax _);have hq2:Qj H1 (as.zip (kv.map λp=>[kV p.1,p.2])) h1.objs.size=none:=I2.hok.fresh (ax _);obtain ⟨s2,c2⟩:=Yk (l:=as.zip (kv.map λp=>[kV p.1,p.2])) sb λq hq=>S.hok.fresh (D q hq);obtain ⟨s3,c3,P⟩:=kL (u:=.lst (as.map V.ref)) s2 hq2;have il:=Vm (as:=as) c2.grow Z (by omega) (λk L=>by
      rw [<-Z.keys,KV.keys rel,hk] at L;obtain ⟨y,hy,rfl⟩:=aw.mp L;exact ⟨y,rfl,of_decide_eq_true (aJ.mp l3 y hy)⟩) λj b q Y U=>by
      unfold Qj;rw [GJ hnd Y (by rw [aE,U]; rfl)]
     exact ⟨.ref h1.objs.size,_,I2.laid (t':=tk) (o:=.lst (as.map V.ref)) k2 (ax _) ⟨by rw [ah,iL]; omega,as.map aL,e,gI as,by simpa [seqObj] using hp⟩,rfl,po _ _ _ s3 (c2.trans' c3) ⟨_,rfl,hq0,P,_,qt,il⟩⟩
   ·rw [if_neg hl] at po; exact po.elim
 | _=>exact po.elim
end
variable {z:Addr} {i:Nat} {Q:Bool->iI->Prop}
section
variable {TI TO i1 i2:Addr} {fp1 fp2:List Addr} {n1 n2:Nat} {P1 P2:Nat->iE->Prop} {S1 S2:Nat->Heap->Prop} {a b:iE}
abbrev yp (h:Heap) (z TI TO:Addr) (p:Nat):Prop:=∃ c:Bool,h.get? z=iB { cls:=.type "zip",dict:=iD,data:=.fields #[rawInt p,.bool c,.bool iF,.ref TI,.ref TO],slots:=#[] }
theorem Ym {p:Nat} (hz:yp s.heap z TI TO p) (hp:∃ o,s.heap.get? p=iB o) (h:∀ h',yp h' z TI TO p->bt z s.heap h'->Q iF { s with heap:=h' }):wpAny (model prog w) A (aR (.ref z)) Q E s:=by
 obtain ⟨c,hz⟩:=hz;obtain ⟨o,m⟩:=hp;unfold aR;refine iC (iQ hz rfl (x:=rawInt p) rfl ?_);show wpAny _ _ (loadIfAlive (Int.toNat p) >>= _) _ _ _;rw [dD];refine iC (kdx_alive m ?_);rw [if_neg (by simp)];refine iC (iQ hz rfl (x:=.bool c) rfl ?_);cases c with
 | true=>rw [if_neg (by decide)];exact iG (h s.heap ⟨iH,hz⟩ ⟨rfl,λ_ _=>rfl⟩)
 | false=>rw [if_pos (by decide)];refine iC (i6 hz (by simp) λh₁ r l=>iG (h h₁ ⟨iH,r⟩ l))
theorem GK {p:Nat} {Q:iE->iI->Prop} (D:Apart2 z TI TO i1 i2 fp1 fp2) (b:lj prog w A i1 fp1 n1 P1 S1) (P:lj prog w A i2 fp2 n2 P2 S2)
  (hz:yp s.heap z TI TO p) (hp:∃ o,s.heap.get? p=iB o) (Y:iV s.heap TI (.ref i1) (.ref i2)) (h1:S1 i s.heap) (h2:S2 i s.heap) (m:i < n1) (j:i < n2)
  (n:∀ x y h' tk,P1 i x->P2 i y->yp h' z TI TO p->S1 (i+1) h'->S2 (i+1) h'->iV h' s.heap.objs.size x y ->(∀ c o,c≠z->c≠i1->c≠i2->s.heap.get? c=iB o->h'.get? c=iB o)->Q (.ref s.heap.objs.size) { s with heap:=h',toks:=tk }) :
  wpAny (model prog w) A (Builtin.«zip.__next__» ⟨[.ref z],[]⟩) (λfin s'=>∃ v,fin=.done (.ret v)/\Q v s') E s:=by
 obtain ⟨u,a⟩:=id hz;show wpAny _ _ (field (.ref z) 2 >>= _) _ _ _; refine iC (iQ a rfl (x:=.bool iF) rfl ?_);show wpAny _ _ (field (.ref z) 3 >>= _) _ _ _; refine iC (iQ a rfl (x:=.ref TI) rfl ?_); refine iC (iS Y rfl ?_);show wpAny _ _ (aR (.ref z) >>= _) _ _ _;refine iC (Ym hz hp λh₁ r l=>?_);simp only [cq,if_false];refine iC ?_;rw [<-Array.forIn_toList];simp only [d7,fF];refine iC (iC (iR ?_)); show wpAny _ _ (aO (.ref i1) >>= _) _ _ _;refine iC (b.item i _ _ _ m (b.frame _ _ _ h1 λc d o e=>l.extBut _ _ (λq=>D.z1 (q ▸ d)) e) λx f W hx N k=>iG ?_);refine iG ?_;refine iC (iC (iR ?_)); show wpAny _ _ (aO (.ref i2) >>= _) _ _ _;refine iC (P.item i _ _ _ j (P.frame _ _ _ h2 λc d o e=>(k.2 _ (λq=>D.a12 (q ▸ d))).trans (l.extBut _ _ (λq=>D.z2 (q ▸ d)) e)) λy h L B M g=>iG ?_);refine iG (iG ?_);show wpAny _ _ (newTuple [x,y] >>= _) _ _ _;refine iC (lx ?_);have hsz:h.objs.size=s.heap.objs.size:=by rw [g.1,k.1,l.1]
 refine iG ⟨_,rfl,?_⟩;show Q (.ref h.objs.size) _;rw [hsz];have up:∀ c o,h.get? c=iB o->(h.push { cls:=.type "tuple",data:=.seq #[x,y] }).get? c=iB o:=λc o e=>aa _ e;obtain ⟨t,r⟩:=r;refine n x y _ L hx B ⟨t,up _ _ ((g.2 _ D.i2z.symm).trans ((k.2 _ D.i1z.symm).trans r))⟩ (b.frame _ _ _ N λc d o e=>up _ _ ((g.2 _ (λq=>D.a21 (q ▸ d))).trans e)) (P.frame _ _ _ M λc d o e=>up _ _ e) (by rw [<-hsz]; exact af _ rfl) λc o k1 k2 k3 e=>up c o ((g.2 _ k3).trans ((k.2 _ k2).trans (l.extBut _ _ k1 e)))
theorem qbK {p:Nat} {Q:Fin->iI->Prop} (D:Apart2 z TI TO i1 i2 fp1 fp2) (M:lj prog w A i1 fp1 n1 P1 S1) (P:lj prog w A i2 fp2 n2 P2 S2)
  (hz:yp s.heap z TI TO p) (hp:∃ o,s.heap.get? p=iB o) (Y:iV s.heap TI (.ref i1) (.ref i2)) (h1:S1 i s.heap) (h2:S2 i s.heap) (y:i=n1\/(i < n1/\i=n2))
  (j:∀ h' tk e,(∀ c o,c≠z->c≠i1->c≠i2->s.heap.get? c=iB o->h'.get? c=iB o)->(∃ o,h'.get? e=iB o/\o.cls=.type "StopIteration")->E (.ref e) { s with heap:=h',toks:=tk }) :
  wpAny (model prog w) A (Builtin.«zip.__next__» ⟨[.ref z],[]⟩) Q E s:=by
 obtain ⟨m,b⟩:=id hz;show wpAny _ _ (field (.ref z) 2 >>= _) _ _ _; refine iC (iQ b rfl (x:=.bool iF) rfl ?_);show wpAny _ _ (field (.ref z) 3 >>= _) _ _ _; refine iC (iQ b rfl (x:=.ref TI) rfl ?_); refine iC (iS Y rfl ?_);show wpAny _ _ (aR (.ref z) >>= _) _ _ _;refine iC (Ym hz hp λh₁ r l=>?_);simp only [cq,if_false];refine iC ?_;rw [<-Array.forIn_toList];simp only [d7,fF];refine iC (iC (iR ?_)); show wpAny _ _ (aO (.ref i1) >>= _) _ _ _;have f1:S1 i h₁:=M.frame _ _ _ h1 λc d o e=>l.extBut _ _ (λq=>D.z1 (q ▸ d)) e;rcases y with rfl | ⟨hlt,rfl⟩
 ·refine iC (M.done _ _ _ f1 λh e k f=>?_);exact j h s.toks e (λc o k1 k2 _ x=>k _ _ k2 (l.extBut _ _ k1 x)) f
 ·refine iC (M.item i _ _ _ hlt f1 λx h W hx N k=>iG ?_);refine iG ?_;refine iC (iC (iR ?_)); show wpAny _ _ (aO (.ref i2) >>= _) _ _ _;refine iC (P.done _ _ _ (P.frame _ _ _ h2 λc d o e=>(k.2 _ (λq=>D.a12 (q ▸ d))).trans (l.extBut _ _ (λq=>D.z2 (q ▸ d)) e)) λa e g f=>?_);exact j a W e (λc o k1 k2 k3 x=>g _ _ k3 ((k.2 _ k2).trans (l.extBut _ _ k1 x))) f
theorem Vn {p:Nat} {Q:Option iE->iI->Prop} (D:Apart2 z TI TO i1 i2 fp1 fp2) (M:lj prog w A.in1 i1 fp1 n1 P1 S1) (P:lj prog w A.in1 i2 fp2 n2 P2 S2)
  (hz:yp s.heap z TI TO p) (hp:∃ o,s.heap.get? p=iB o) (Y:iV s.heap TI (.ref i1) (.ref i2)) (h1:S1 i s.heap) (h2:S2 i s.heap) (a:i < n1) (l:i < n2)
  (h:∀ x y h' tk,P1 i x->P2 i y->yp h' z TI TO p->S1 (i+1) h'->S2 (i+1) h'->iV h' s.heap.objs.size x y ->(∀ c o,c≠z->c≠i1->c≠i2->s.heap.get? c=iB o->h'.get? c=iB o)->Q (iB (.ref s.heap.objs.size)) { s with heap:=h',toks:=tk }):wpAny (model prog w) A (pyNext (.ref z)) Q E s:=by
 have hT:s.TypeIs (.ref z) "zip":=let ⟨_,e⟩:=hz; ⟨_,e,rfl⟩
 unfold pyNext;exact iC (iZ (iM (name:=aQ "__next__") hT bx (iO bx hT dj
  (GK D M P hz hp Y h1 h2 a l λx y h' tk g f d m b k j=>iG (h x y h' tk g f d m b k j)) (c9 _))))
theorem WF {p:Nat} {Q:Option iE->iI->Prop} (D:Apart2 z TI TO i1 i2 fp1 fp2) (M:lj prog w A.in1 i1 fp1 n1 P1 S1) (P:lj prog w A.in1 i2 fp2 n2 P2 S2)
  (hz:yp s.heap z TI TO p) (hp:∃ o,s.heap.get? p=iB o) (Y:iV s.heap TI (.ref i1) (.ref i2)) (h1:S1 i s.heap) (h2:S2 i s.heap) (y:i=n1\/(i < n1/\i=n2))
  (a:∀ h' tk,(∀ c o,c≠z->c≠i1->c≠i2->s.heap.get? c=iB o->h'.get? c=iB o)->Q iD { s with heap:=h',toks:=tk }):wpAny (model prog w) A (pyNext (.ref z)) Q E s:=by
 have hT:s.TypeIs (.ref z) "zip":=let ⟨_,e⟩:=hz; ⟨_,e,rfl⟩
 unfold pyNext;refine iC (iZ (iM (name:=aQ "__next__") hT bx (iO bx hT dj (qbK D M P hz hp Y h1 h2 y λh' tk e k h=>?_) (c9 _))));obtain ⟨o,m,d⟩:=h;refine iC (i7 (T := "StopIteration") (b:=iH) ⟨o,m,d⟩ lw ?_);exact iG (a _ _ k)
end
theorem ad {x y:Nat} (h:x < y\/y < x):x≠y:=by omega
structure ZG (xs ys:Array iE) (lo:Nat) (h:Heap) (as:List Addr):Prop where
 rise:as.Pairwise (· < ·)
 above:∀ a∈as,lo < a
 pairs:∀ (j:Nat) (a:Addr),as[j]?=iB a->∃ x y,xs[j]?=iB x/\ys[j]?=iB y/\iV h a x y
variable {xs ys:Array iE}
theorem ZG.mono {lo:Nat} {h:Heap} {as:List Addr} (g:ZG xs ys lo h as) (k:∀ c o,lo < c->h.get? c=iB o->h'.get? c=iB o):ZG xs ys lo h' as:=
 ⟨g.rise,g.above,λj a G=>by obtain ⟨x,y,e1,i,E⟩:=g.pairs j a G;exact ⟨x,y,e1,i,k _ _ (g.above a (cU G)) E⟩⟩
def ZSt (h:Heap) (b i:Nat) (as:List Addr):Prop:=(i=0/\lm h (b+4) (b+2) (b+3) .none/\∃ u v,iV h (b+3) u v)\/∃ p,as[0]?=iB p/\yp h (b+4) (b+2) (b+3) p
variable {a:Addr}
theorem ItK.at {h:Heap} {it:Addr} {k:SK} (x:ItK h it a k i) (f:∀ o,h.get? it=iB o->h'.get? it=iB o):ItK h' it a k i:=by obtain ⟨o,e,c,d⟩:=x.obj;exact .of ⟨o,f _ e,c,d⟩
section
variable {R:lJ->iI->Prop}
theorem qbL {b z n S:Nat} {k1 k2:SK} {ys:Array iE} (hh:A.handled=iD) (h1:z < b) (h2:n < b) (hbS:b+4 < S) (hn:xs.size<=sizeLine) (res:iE) {h₁:Heap}
  (hR:∀ h' tk acc c as,(∀ q o,q < b->h₁.get? q=iB o->h'.get? q=iB o)->h'.get? S=iB { cls:=.type "list",dict:=iD,data:=.seq acc c,slots:=#[] }->as.length=min xs.size ys.size->ZG xs ys S h' as ->acc.toList=as.map aL->R (.ok (.ret res)) { s with heap:=h',toks:=tk }) :
  ∀ (k i:Nat) (h:Heap) (tk c:Nat) (acc:Array iE) (as:List Addr),min xs.size ys.size - i=k->i<=min xs.size ys.size->ZSt h b i as->iV h (b+2) (.ref b) (.ref (b+1))->ItK h b z k1 i->ItK h (b+1) n k2 i->SeqK h z k1 xs->SeqK h n k2 ys ->(∀ q o,q < b->h₁.get? q=iB o->h.get? q=iB o)->h.get? S=iB { cls:=.type "list",dict:=iD,data:=.seq acc c,slots:=#[] }->acc.toList=as.map aL->as.length=i->ZG xs ys S h as ->codeAny (model prog w) A (.builtin "list.extend.loop" ⟨[.ref S,.ref (b+4),res],[]⟩) R { s with heap:=h,toks:=tk }:=by
 have D:=Gm b z n h1 h2;have D1:lj prog w A.in1.in1 b [b,z] xs.size (λi v=>xs[i]?=iB v) (λi h=>ItK h b z k1 i/\SeqK h z k1 xs):=qcz (A:=A.in1.in1) hh k1 b z (aC h1) xs;have D2:lj prog w A.in1.in1 (b+1) [b+1,n] ys.size (λi v=>ys[i]?=iB v) (λi h=>ItK h (b+1) n k2 i/\SeqK h n k2 ys):=qcz (A:=A.in1.in1) hh k2 (b+1) n (ad (by omega)) ys;intro k
 induction k with
 | zero=>
  intro i h tk c acc as hk hi K Y U T W V d hS l m G;have I:i=xs.size\/(i < xs.size/\i=ys.size):=by omega
  refine iU PySem.F.entry_extend_loop ?_;rw [bq cj _];show wpAny _ A.in1 (pyNext (.ref (b+4)) >>= _) _ _ _;rcases K with ⟨_,hz,u,v,X⟩ | ⟨p,hp,hz⟩
  ·refine iC (Xw (s:={ s with heap:=h,toks:=tk }) D D1 D2 hz Y X ⟨U,W⟩ ⟨T,V⟩ I λh' t N=>?_);exact iG (hR h' t acc c as (λq o h1 e=>N q o (ad (by omega)) (ad (by omega)) (ad (by omega)) (ad (by omega)) (d q o h1 e)) (N S _ (ad (by omega)) (ad (by omega)) (ad (by omega)) (ad (by omega)) hS) (by omega) (G.mono λc o hc e=>N c o (ad (by omega)) (ad (by omega)) (ad (by omega)) (ad (by omega)) e) l)
  ·have L:∃ o,h.get? p=iB o:=by obtain ⟨x,y,_,_,e3⟩:=G.pairs 0 p hp;exact ⟨_,e3⟩
   refine iC (WF (s:={ s with heap:=h,toks:=tk }) D D1 D2 hz L Y ⟨U,W⟩ ⟨T,V⟩ I λh' t N=>?_);exact iG (hR h' t acc c as (λq o h1 e=>N q o (ad (by omega)) (ad (by omega)) (ad (by omega)) (d q o h1 e)) (N S _ (ad (by omega)) (ad (by omega)) (ad (by omega)) hS) (by omega) (G.mono λc o hc e=>N c o (ad (by omega)) (ad (by omega)) (ad (by omega)) e) l)
 | succ k ih=>
  intro i h tk c acc as hk hi K Y U T W V d hS l m G;have E:i < xs.size:=by omega
  have C:i < ys.size:=by omega
  have hsz:acc.size=i:=by rw [<-cF,l,ah,m]
  have Z:S < h.objs.size:=aq hS;have step:∀ (x y:iE) (h':Heap) (t:Nat),xs[i]?=iB x->ys[i]?=iB y->(∀ B:List Addr,B[0]?=(as++[h.objs.size])[0]?->∃ p,B[0]?=iB p/\yp h' (b+4) (b+2) (b+3) p)->(ItK h' b z k1 (i+1)/\SeqK h' z k1 xs)->(ItK h' (b+1) n k2 (i+1)/\SeqK h' n k2 ys)->iV h' h.objs.size x y ->(∀ c o,c≠b+4->c≠b+3->c≠b->c≠b+1->h.get? c=iB o->h'.get? c=iB o) ->
    wpAny (model prog w) A.in1 (updateSeq S (·.push (aL h.objs.size)) >>= λ_=>again (.builtin "list.extend.loop" ⟨[.ref S,.ref (b+4),res],[]⟩))
     (λfin s'=>match fin with | .done f=>R (.ok f) s' | .again c'=>c'.quiet=iH/\codeAny (model prog w) A c' R s') (λe s'=>R (.error e) s') { s with heap:=h',toks:=t }:=by
   intro x y h' t ex ey hzz Q P r g;have hS':=g S _ (ad (by omega)) (ad (by omega)) (ad (by omega)) (ad (by omega)) hS;have up:∀ q o,q≠S->h'.get? q=iB o->(h'.update S (bw (·.push (aL h.objs.size)))).get? q=iB o:=λq o hq e=>(bG _ _ (ba hq)).trans e;refine iC (k9 hS' rfl (iG ⟨j8 cj _,ih (i+1) _ t _ (acc.push (aL h.objs.size)) (as++[h.objs.size]) (by omega) (by omega) ?_ (up _ _ (ad (by omega)) (g _ _ (ad (by omega)) (ad (by omega)) (ad (by omega)) (ad (by omega)) Y)) (Q.1.at λo e=>up _ o (ad (by omega)) e) (P.1.at λo e=>up _ o (ad (by omega)) e)
    (Q.2.at λo e=>up _ o (ad (by omega)) e) (P.2.at λo e=>up _ o (ad (by omega)) e) (λq o hq e=>up q o (ad (by omega)) (g q o (ad (by omega)) (ad (by omega)) (ad (by omega)) (ad (by omega)) (d q o hq e))) (aX _ hS' rfl) (by rw [fN,l,cQ]; rfl) (by rw [aj,m]; rfl) ⟨?_,?_,?_⟩⟩)
    (by rw [hsz]; omega) (by show (acc.push (aL h.objs.size)).size<=sizeLine+1; rw [Array.size_push]; omega))
   ·obtain ⟨p,hp,c',hz⟩:=hzz (as++[h.objs.size]) rfl;exact .inr ⟨p,hp,c',up _ _ (ad (by omega)) hz⟩
   ·refine List.pairwise_append.mpr ⟨G.rise,db _ _,λa O b' hb=>?_⟩;rw [aD.mp hb];obtain ⟨j,H⟩:=fg.mp O;obtain ⟨_,_,_,_,e⟩:=G.pairs j a H;exact aq e
   ·intro a O;rcases aI.mp O with O | O;·exact G.above a O
    ·rw [aD.mp O]; exact Z
   ·intro j a H;rcases Nat.lt_trichotomy j as.length with g1 | g1 | g1
    ·rw [ci g1] at H;obtain ⟨x',y',e1,e2,e3⟩:=G.pairs j a H;have hb:=G.above a (cU H);exact ⟨x',y',e1,e2,up a _ (ad (by omega)) (g a _ (ad (by omega)) (ad (by omega)) (ad (by omega)) (ad (by omega)) e3)⟩
    ·subst g1;have hb:h.objs.size=a:=by simpa using H
     subst hb;exact ⟨x,y,by rw [m]; exact ex,by rw [m]; exact ey,up _ _ (cT Z) r⟩
    ·have M:(as++[h.objs.size])[j]?=none:=bK (by rw [aj,cJ]; omega);rw [M] at H; cases H
  refine iU PySem.F.entry_extend_loop ?_;rw [bq cj _];show wpAny _ A.in1 (pyNext (.ref (b+4)) >>= _) _ _ _;rcases K with ⟨hi0,hz,u,v,X⟩ | ⟨p,hp,hz⟩
  ·have has:as=[]:=ej.mp (by omega);refine iC (Ww (s:={ s with heap:=h,toks:=tk }) D D1 D2 hz Y X ⟨U,W⟩ ⟨T,V⟩ E C λx y h' t p1 p2 J hTO' Q P r g=>?_);exact step x y h' t p1 p2 (λB e=>⟨h.objs.size,by rw [e,has]; rfl,iF,J⟩) Q P r λc o c1 c2 c3 c4 e=>g c o c1 c2 c3 c4 e
  ·have L:∃ o,h.get? p=iB o:=by obtain ⟨x,y,_,_,e3⟩:=G.pairs 0 p hp;exact ⟨_,e3⟩
   refine iC (Vn (s:={ s with heap:=h,toks:=tk }) D D1 D2 hz L Y ⟨U,W⟩ ⟨T,V⟩ E C λx y h' t p1 p2 J Q P r g=>?_);exact step x y h' t p1 p2 (λB e=>⟨p,by rw [e]; cases as with | nil=>simp at hp | cons a as=>exact hp,J⟩) Q P r λc o c1 _ c3 c4 e=>g c o c1 c3 c4 e
end
theorem GL:typeLookup (.type "zip") "__len__"=pure none:=by rw [k8,i4]; kernel_rfl
theorem XB:typeLookup (.type "zip") "__length_hint__"=pure none:=by rw [k8,i4]; kernel_rfl
section
theorem qbM (hT:s.TypeIs (.ref z) "zip") (h:Q iH s):wpAny (model prog w) A (dH (.ref z)) Q E s:=by unfold dH;refine iC (wpAny_specialOf hT GL ?_);show wpAny _ _ (specialOf (aL z) (aQ "__length_hint__") >>= _) _ _ _;refine iC (wpAny_specialOf hT XB ?_);exact iG h
theorem qbN {b D C:Nat} {k1 k2:SK} {ys:Array iE} {Q:iE->iI->Prop} (M:A.handled=iD) (h1:D < b) (h2:C < b) (hsz:s.heap.objs.size=b+5) (K:xs.size<=sizeLine)
  (hz:lm s.heap (b+4) (b+2) (b+3) .none) (Y:iV s.heap (b+2) (.ref b) (.ref (b+1))) (X:∃ u v,iV s.heap (b+3) u v) (H:ItK s.heap b D k1 0) (G:ItK s.heap (b+1) C k2 0) (J:SeqK s.heap D k1 xs) (I:SeqK s.heap C k2 ys)
  (O:∀ h' tk acc c as,(∀ q o,q < b->s.heap.get? q=iB o->h'.get? q=iB o)->h'.get? (b+5)=iB { cls:=.type "list",dict:=iD,data:=.seq acc c,slots:=#[] }->as.length=min xs.size ys.size->ZG xs ys (b+5) h' as->acc.toList=as.map aL->Q (.ref (b+5)) { s with heap:=h',toks:=tk }) :
  wpAny (model prog w) A (call (.type "list") [.ref (b+4)]) Q E s:=by
 refine callType_codes (Q₁:=λobj l=>obj=.ref s.heap.objs.size/\l={ s with heap:=s.heap.push { cls:=.type "list",data:=.seq #[] } }) PySem.F.called_list (PySem.F.typeCall_list_1 _) PySem.F.entry_list_init
  (code_list_new _ ⟨rfl,rfl⟩) λobj l h₁=>?_
 obtain ⟨rfl,rfl⟩:=h₁;have S:(s.heap.push { cls:=.type "list",data:=.seq #[] }).get? s.heap.objs.size=iB { cls:=.type "list",data:=.seq #[] }:=af _ rfl;rw [hsz] at S ⊢;refine ⟨⟨_,S,rfl⟩,PySem.F.args_list_init_2 _ _,?_⟩;show wpAny _ _ (do let old <-Builtin.List.listItems (.ref (b+5)); Builtin.List.listUpdate (.ref (b+5)) (λ_=>#[]); letGo old.toList.reverse; bR (.ref (b+5)) (.ref (b+4)) .none) _ _ _;refine iC ?_;unfold Builtin.List.listItems;refine iC (iS S rfl (iG ?_));show wpAny _ _ (updateSeq (b+5) (λ_=>#[]) >>= λ_=>letGo (#[]:Array iE).toList.reverse >>= λ_=>bR (.ref (b+5)) (.ref (b+4)) .none) _ _ _;refine iC (k9 S rfl ?_);have d:=aX (bw (λ_=>(#[]:Array iE))) S rfl;have k:∀ q o,q≠b+5->s.heap.get? q=iB o->((s.heap.push { cls:=.type "list",data:=.seq #[] }).update (b+5) (bw (λ_=>(#[]:Array iE)))).get? q=iB o:=
  λq o hq e=>(bG _ _ (ba hq)).trans (aa _ e)
 refine iC (lE ?_);generalize (s.heap.push { cls:=.type "list",data:=.seq #[] }).update (b+5) (bw (λ_=>(#[]:Array iE)))=h₂ at d k;have g:lm h₂ (b+4) (b+2) (b+3) .none:=k _ _ (ad (by omega)) hz;have key:∀ (h:Heap) (i:Nat),(∀ q o,q≠b+5->h₂.get? q=iB o->h.get? q=iB o)->h.get? (b+5)=iB { cls:=.type "list",data:=.seq #[] i }->codeAny (model prog w) A.in1 (.builtin "list.extend.loop" ⟨[.ref (b+5),.ref (b+4),.none],[]⟩) (wants (λr t=>r=bD/\Q (.ref (b+5)) t) E) { s with heap:=h }:=by
  intro h i m p;obtain ⟨u,v,X⟩:=X;refine qbL (A:=A.in1) (s:=s) (h₁:=s.heap) (k1:=k1) (k2:=k2) (xs:=xs) (ys:=ys) M h1 h2 (by omega) K .none (λh' y acc c as z B hl P x=>⟨rfl,O h' y acc c as z B hl P x⟩)
   (min xs.size ys.size) 0 h s.toks i #[] [] (Nat.sub_zero _) (bi _) (.inl ⟨rfl,m _ _ (ad (by omega)) g,u,v,m _ _ (ad (by omega)) (k _ _ (ad (by omega)) X)⟩) (m _ _ (ad (by omega)) (k _ _ (ad (by omega)) Y)) (H.at λo e=>m _ o (ad (by omega)) (k _ o (ad (by omega)) e)) (G.at λo e=>m _ o (ad (by omega)) (k _ o (ad (by omega)) e))
   (J.at λo e=>m _ o (ad (by omega)) (k _ o (ad (by omega)) e)) (I.at λo e=>m _ o (ad (by omega)) (k _ o (ad (by omega)) e)) (λq o hq e=>m q o (ad (by omega)) (k q o (ad (by omega)) e)) p rfl rfl ⟨dE,(λ_ N=>nomatch N),(λj a L=>by simp at L)⟩
 unfold bR;refine iC (k7 (T := "zip") ⟨_,g,rfl⟩ ?_);have e1:cX (.ref (b+5)) (.ref (b+4))=false:=by simp [cX]
 have U:(dI "zip" == dI "list")=false:=by decide
 have R:(dI "zip" == dI "tuple")=false:=by decide
 simp only [e1,U,R,fV,cq,if_false];refine iC (wpAny_pyIter_zip g ?_);refine iC (iR (qbM ⟨_,g,rfl⟩ ?_));rw [if_pos (by simp)];refine iC (j7 ?_);refine iC ?_;show wpAny _ _ (updateSeq (b+5) (·.push .none) >>= λ_=>updateSeq (b+5) (·.pop)) _ _ _;refine iC (k9 d rfl ?_);have f:=aX (bw (·.push bD)) d rfl;refine k9 (hz:=by seq_fits) f rfl ?_;have n:=aX (bw (·.pop)) f rfl;refine iG ⟨j8 cj _,key _ _ (λq o hq e=>?_) n⟩;exact (bG _ _ (ba hq)).trans ((bG _ _ (ba hq)).trans e)
theorem GM {k1 k2:SK} {i l:Addr} {Q:iE->iI->Prop} (t:SeqK s.heap i k1 xs) (f:SeqK s.heap l k2 ys)
  (h:∀ h':Heap,h'.objs.size=s.heap.objs.size+5->lm h' (s.heap.objs.size+4) (s.heap.objs.size+2) (s.heap.objs.size+3) .none->iV h' (s.heap.objs.size+2) (.ref s.heap.objs.size) (.ref (s.heap.objs.size+1)) ->iV h' (s.heap.objs.size+3) .none .none->ItK h' s.heap.objs.size i k1 0->ItK h' (s.heap.objs.size+1) l k2 0->(∀ c o,s.heap.get? c=iB o->h'.get? c=iB o)->Q (.ref (s.heap.objs.size+4)) { s with heap:=h' }) :
  wpAny (model prog w) A (call (.type "zip") [.ref i,.ref l]) Q E s:=by
 refine callType_new PySem.F.called_zip (by decide) (PySem.F.typeCall_zip_2 _ _) (PySem.F.newCall_zip_2 _ _) (λobj=>PySem.F.args_object_init_3 obj _ _) PySem.F.entry_zip_new (Gi k1 k2 i l xs ys) ⟨t,f,?_⟩;have z1:(zH1 k1 s.heap i).objs.size=s.heap.objs.size+1:=bh ..;have z2:(zH2 k1 k2 s.heap i l).objs.size=s.heap.objs.size+2:=by rw [bh,z1]
 have a:(zH3 k1 k2 s.heap i l).objs.size=s.heap.objs.size+3:=by rw [bh,z2]
 have z:(zH4 k1 k2 s.heap i l).objs.size=s.heap.objs.size+4:=by rw [bh,a]
 have b:(zH5 k1 k2 s.heap i l).objs.size=s.heap.objs.size+5:=by rw [bh,z]
 have g:(zH5 k1 k2 s.heap i l).get? (zH4 k1 k2 s.heap i l).objs.size=iB _:=af _ rfl;have L:(zH5 k1 k2 s.heap i l).get? (zH3 k1 k2 s.heap i l).objs.size=iB _:=aa _ (af _ rfl);have W:(zH5 k1 k2 s.heap i l).get? (zH2 k1 k2 s.heap i l).objs.size=iB _:=aa _ (aa _ (af _ rfl));have Y:(zH5 k1 k2 s.heap i l).get? (zH1 k1 s.heap i).objs.size=iB _:=aa _ (aa _ (aa _ (af _ rfl)));have g1:(zH5 k1 k2 s.heap i l).get? s.heap.objs.size=iB _:=aa _ (aa _ (aa _ (aa _ (af _ rfl))));show _/\_;rw [z2,a,z] at g;rw [z1,z2] at W;rw [a] at L;rw [z1] at Y;rw [z];exact ⟨⟨_,g,rfl⟩,h _ b g W L (.of ⟨_,g1,rfl,rfl⟩) (.of ⟨_,Y,rfl,rfl⟩) λc o x=>aa _ (aa _ (aa _ (aa _ (aa _ x))))⟩
end
theorem GN (g:Same F F'):∀ {xs ys:List V} {ds es:List D} {as:List Addr},IsL K F xs ds->IsL K F ys es->as.length=min xs.length ys.length ->(∀ (j:Nat) (a:Addr) (x y:V),as[j]?=iB a->xs[j]?=iB x->ys[j]?=iB y->F' a=iB (.tup [x,y]))->IsL K F' (as.map V.ref) (qeS ds es)
 | _,_,_,_,[],.nil,_,_,_=>.nil
 | _,_,_,_,[],.cons _ _,.nil,_,_=>.nil
 | _,_,_,_,_::_,.nil,_,h,_=>by simp at h
 | _,_,_,_,_::_,.cons _ _,.nil,h,_=>by simp at h
 | _,_,_,_,[],.cons _ _,.cons _ _,h,_=>by simp at h
 | _,_,_,_,a::as,.cons (v:=x) h1 t1,.cons (v:=y) h2 t2,hl,hF=>
  .cons (.tup (.inl (.inl (hF 0 a x y rfl rfl rfl))) (.cons (h1.mono g) (.cons (h2.mono g) .nil))) (GN g t1 t2 (by simp only [ao] at hl; omega) λj a x y e1 i E=>hF (j+1) a x y e1 i E)
section
variable {H':Hp}
theorem Inv.grown {t':Nat} (I:Inv X pins σ H s) (k:∀ b u,s.heap.get? b=iB u->h'.get? b=iB u) (old:∀ b o,H b=iB o->H' b=iB o) (low:∀ b,b < s.heap.objs.size->H b=iD->H' b=iD)
  (new:∀ b o,H b=iD->H' b=iB o->ObjOk X.prog X.w H' h' b o):Inv X pins σ H' { s with heap:=h',toks:=t' }:=by
 refine I.un ⟨λb u q _ _ _=>k b u q,λb u q _ _ _=>⟨u.slots,k b u q⟩,λb u q n _=>low b (aq q) n,λb u q _=>⟨u,k b u q⟩,λb xs q=>old _ _ q,λb u xs q=>old _ _ q,λb ps q=>⟨#[],by rw [old _ _ q]; simp⟩⟩ λb u e=>?_;cases q:H b with
 | none=>exact new b u q e
 | some o=>have:=old b o q;rw [e] at this;cases this;exact (I.hok b u q).stay (λc v _ q=>k c v q) (λc q=>old _ _ q) λc xs q=>old _ _ q
theorem qd6 {xs:List V} (I:Inv X pins σ H s):∀ {k:SK},SqK X.K H a k xs->xs.length<=sizeLine
 | .l,h=>let ⟨_,_,_,z⟩:=I.list h; z
 | .t,h=>let ⟨_,_,_,z⟩:=I.tuple h; z
end
noncomputable def kS (x y:D):Out D:=(Ql x).bind λds=>(Ql y).bind λes=>.ok (.lst (qeS ds es))
section
variable {a c:Expr} {fb:Sl->Out (D×Sl)} {mb:Mo} {pos p p2 pos2:Pos}
theorem XC (hK:C.K=X.K) (hc:X.calm=iH) (hg:Gl X "list") (hm:X.mg "list"=iD) (hv:bootBuiltins "list"=iB (.type "list")) (Z:Gl X "zip") (T:X.mg "zip"=iD) (ha:PE X a (tE C own ma fa)) (i:PE X c (tE C own mb fb)) (S:ma≠.any:=by decide)
  (hs:starEach [a,c] X.env=[(iF,eval a X.env),(iF,eval c X.env)]:=by exact Uz rfl rfl) (d:starEach [c] X.env=[(iF,eval c X.env)]:=by exact qJ rfl)
  (m:starEach [.Call (.Name "zip" p2) [a,c] [] pos2] X.env=[(iF,eval (.Call (.Name "zip" p2) [a,c] [] pos2) X.env)]:=by exact qJ rfl) :
  PE X (.Call (.Name "list" p) [.Call (.Name "zip" p2) [a,c] [] pos2] [] pos) (tE C own .fr (d2 kS fa fb)):=by
 refine ⟨?_⟩;intro pins s σ H Q I h;refine i5 (yK I hg hm hv ?_ (by decide) (by decide));refine bA ?_ (by rw [m]; rfl) rfl;rw [m];show wpAny _ _ (spliced ((iF,eval (.Call (.Name "zip" p2) [a,c] [] pos2) X.env)::[])) _ _ s;refine fD ?_;refine i5 (yK I Z T Gn ?_ (by decide) (by decide));refine bA (thn ((qO ha (qO i jE d) (by rw [hs,d])) pos2 pins s σ H _ I (UM (mb:=mb) S h)) λus s1 ⟨vs,H1,k,r1,q1⟩=>?_) (by rw [hs,d]) (by rw [d]; rfl);obtain ⟨x,y,F,dx,dy,rfl,B,tx,ty,po⟩:=q1;obtain ⟨u1,u2,rfl,e1,e2⟩:=Zf r1;cases n1:Ql dx with
 | exc c' o=>unfold kS at po; rw [n1] at po; cases dx <;> cases n1
 | bad=>unfold kS at po; rw [n1] at po; exact po.elim
 | ok ds=>
  cases n2:Ql dy with
  | exc c' o=>unfold kS at po; rw [n1,n2] at po; cases dy <;> cases n2
  | bad=>unfold kS at po; rw [n1,n2] at po; exact po.elim
  | ok es=>
   have po:PoV C .fr F H1 (.ok (.lst (qeS ds es))) Q:=by unfold kS at po; rw [n1,n2] at po; exact po
   obtain ⟨a1,k1,xs,rfl,A,O⟩:=US B tx n1;obtain ⟨a2,k2,ys,rfl,w2,M⟩:=US B ty n2;rw [hK] at A w2;cases e1;cases e2;obtain ⟨L,v1,p1⟩:=Gk k A;obtain ⟨N,v2,p2⟩:=Gk k w2;refine GM p1 p2 λh' hsz hz hTI hTO t1 t2 kp=>?_;refine fJ ?_;have t:L.length=xs.length:=v1.length.symm;have W:N.length=ys.length:=v2.length.symm;have hn:xs.length<=sizeLine:=qd6 k A;refine qbN (s:={ s1 with heap:=h' }) (b:=s1.heap.objs.size) (I.ok.hd hc) p1.lt p2.lt hsz (by rw [am,t]; exact hn) hz hTI ⟨_,_,hTO⟩ t1 t2 (p1.at λo e=>kp _ o e) (p2.at λo e=>kp _ o e) λh1 tk acc e' as J hp f G r=>?_;have E:∀ b o,s1.heap.get? b=iB o->h1.get? b=iB o:=λb o eb=>J b o (aq eb) (kp b o eb);have f:as.length=min xs.length ys.length:=by rw [f,am,am,t,W]
   have R:as.Nodup:=G.rise.imp λz=>aC z;have D:∀ q∈as.zip (dm (λx y=>[x,y]) xs ys),s1.heap.objs.size<=q.1:=λq hq=>by have:=G.above _ (cO hq).1;exact cH (Nat.lt_of_le_of_lt (fk _ 5) this)
   have hB:s1.heap.objs.size+5∉as:=λz=>bL _ (G.above _ z);have w:∀ q∈as.zip (dm (λx y=>[x,y]) xs ys),H1 q.1=none:=λq hq=>k.hok.fresh (D q hq);have g:H1 (s1.heap.objs.size+5)=none:=k.hok.fresh (fk _ _);have P:Qj H1 (as.zip (dm (λx y=>[x,y]) xs ys)) (s1.heap.objs.size+5)=none:=by refine (zJ λq hq z=>hB ?_).trans g;rw [<-z];exact (cO hq).1
   obtain ⟨s2,c2⟩:=Yk (l:=as.zip (dm (λx y=>[x,y]) xs ys)) B w;obtain ⟨s3,c3,f3⟩:=kL (u:=.lst (as.map V.ref)) s2 P;have zw:∀ (j:Nat) (x y:V),xs[j]?=iB x->ys[j]?=iB y->(dm (λx y=>[x,y]) xs ys)[j]?=iB [x,y]:=λj x y e1 e2=>by rw [List.getElem?_zipWith,e1,e2]
   have il:=GN (as:=as) c2.grow O M f λj b x y Y U j3=>by unfold Qj;rw [GJ R Y (zw j x y U j3)]
   have I3:Inv X pins σ (upd (Qj H1 (as.zip (dm (λx y=>[x,y]) xs ys))) (s1.heap.objs.size+5) (.lst (as.map V.ref))) { s1 with heap:=h1,toks:=tk }:=by
    refine Inv.grown k E (λb o e=>?_) (λb i e=>?_) λb o n e=>?_;·rw [qB (qH e g)];exact ko w e
    ·rw [qB (aC (aH i (fk _ _))),zJ λq hq z=>?_];·exact e
     ·exact absurd i (by rw [<-z]; exact Nat.not_lt.mpr (D q hq))
    ·by_cases i:b=s1.heap.objs.size+5;·subst i;rw [qt] at e;cases e;exact ⟨by rw [ah,f]; omega,as.map aL,e',gI as,by rw [hp,show acc=(as.map aL).toArray by rw [<-r,Array.toArray_toList]]⟩
     ·rw [qB i] at e;unfold Qj at e;cases q:(as.zip (dm (λx y=>[x,y]) xs ys)).lookup b with
      | none=>rw [q,n] at e; cases e
      | some zs=>rw [q] at e;cases e;obtain ⟨j,Y,U⟩:=GI q;obtain ⟨u,v,g1,g2,g3⟩:=G.pairs j b Y;obtain ⟨x,x1,x2⟩:=gx v1 (by simpa using g1);obtain ⟨y,y1,y2⟩:=gx v2 (by simpa using g2);rw [zw j x y x1 y1] at U;cases U;exact ⟨⟨by show 2<=_; rw [iL]; decide,_,g3,rfl⟩,[u,v],.cons x2 (.cons y2 .nil),_,g3,rfl,_,rfl⟩
   exact ⟨.ref (s1.heap.objs.size+5),_,I3,rfl,po _ _ _ s3 (c2.trans' c3) ⟨_,rfl,g,f3,_,qt,il⟩⟩
end
end L2.D2
namespace L2.D2
open PySem PySem.Spec PyProof.Rows
end L2.D2
set_option maxHeartbeats 4000000
namespace Kx
open PySem PySem.Spec PyProof.Rows L2 L2.D2
noncomputable def top (i:Nat):Stmt:=PySem.Challenge.pw_lookwords_k05_whole_one_to_one.main.body.getD i (.Pass ⟨0,0,0,0⟩)
noncomputable def CS:List Str:=["NoWords", "NoLook", "NoNumbers", "NoRoom", "NoWord", "NoWorths", "Never", "Full", "Known"]
noncomputable def FS:List Str:=[]
structure Zt (K:Frag) (mg:Str->Option iE) (cv:Str->iE) (ca:Str->Addr):Prop where
 xs:Xs K cv ca CS "WordError"
 mref:∀ c∈CS,mg c=iB (.ref (ca c))
 xin:∀ c∈CS,d4 K (ca c) bmV "ValueError.__new__"=iH
 fref:∀ x∈FS,mg x=iB (.ref (ca x))
 m_WordError:mg "WordError"=iB (cv "WordError")
 z_ValueError:mg "ValueError"=iD
 z_all:mg "all"=iD
 z_bool:mg "bool"=iD
 z_dict:mg "dict"=iD
 z_enumerate:mg "enumerate"=iD
 z_int:mg "int"=iD
 z_isinstance:mg "isinstance"=iD
 z_len:mg "len"=iD
 z_list:mg "list"=iD
 z_max:mg "max"=iD
 z_min:mg "min"=iD
 z_range:mg "range"=iD
 z_set:mg "set"=iD
 z_sorted:mg "sorted"=iD
 z_str:mg "str"=iD
 z_sum:mg "sum"=iD
 z_tuple:mg "tuple"=iD
 z_zip:mg "zip"=iD
 c_LEAST_PLACE:∃ t,mg "LEAST_PLACE"=iB (.int (-3) t)
 c_MOST_LETTERS:∃ t,mg "MOST_LETTERS"=iB (.int 6 t)
 c_MOST_PLACE:∃ t,mg "MOST_PLACE"=iB (.int 2 t)
 c_MOST_ROOM:∃ t,mg "MOST_ROOM"=iB (.int 99 t)
 c_MOST_WORDS:∃ t,mg "MOST_WORDS"=iB (.int 6 t)
theorem Jr:bootBuiltins "ValueError"=iB (.type "ValueError"):=by decide +kernel
theorem gJ:bootBuiltins "all"=iB (.builtin "all"):=by decide +kernel
theorem qd7:bootBuiltins "bool"=iB (.type "bool"):=by decide +kernel
theorem Js:bootBuiltins "dict"=iB (.type "dict"):=by decide +kernel
theorem qf9:bootBuiltins "int"=iB (.type "int"):=by decide +kernel
theorem qC:bootBuiltins "isinstance"=iB (.builtin "isinstance"):=by decide +kernel
theorem jz:bootBuiltins "len"=iB (.builtin "len"):=by decide +kernel
theorem WG:bootBuiltins "list"=iB (.type "list"):=by decide +kernel
theorem qga:bootBuiltins "max"=iB (.builtin "max"):=by decide +kernel
theorem qgb:bootBuiltins "min"=iB (.builtin "min"):=by decide +kernel
theorem qbO:bootBuiltins "range"=iB (.type "range"):=by decide +kernel
theorem QL:bootBuiltins "set"=iB (.type "set"):=by decide +kernel
theorem wy:bootBuiltins "sorted"=iB (.builtin "sorted"):=by decide +kernel
theorem qcG:bootBuiltins "str"=iB (.type "str"):=by decide +kernel
theorem GO:bootBuiltins "sum"=iB (.builtin "sum"):=by decide +kernel
theorem vI:bootBuiltins "tuple"=iB (.type "tuple"):=by decide +kernel
instance {α:Type}:Inhabited (Out α):=⟨.bad⟩
section
variable {P:iJ} {w:iK} {K:Frag} {mg:Str->Option iE} {base:Heap} {cv:Str->iE} {ca:Str->Addr}
abbrev vJ:Stmt:=top 17
abbrev zd:List Str:=["thing", "least", "most"]
theorem Jt:FnScope zd ["thing", "least", "most"] (qe vJ):=fsc
noncomputable def vK:Sl->Out (Fl×Sl):=(qT (sIf (dOr (yP (yl (d1 (gi "int") (qd 0)))) (yl (d1 (gi "bool") (qd 0)))) (jt (dC (.bl iF))) jf)
  (jt (ym leD leD (qd 1) (qd 0) (qd 2))))
noncomputable abbrev ka:List D->Out (D×List D):=kr zd [.val,.val,.val] (vK)
abbrev kT P w K mg base cv:=DefOk P w K mg base cv 1 "is_between" ["thing", "least", "most"] [.val,.val,.val] .sh (ka)
theorem Ju (Z:Zt K mg cv ca) (T:jd K mg "is_between" vJ ["thing", "least", "most"]):kT P w K mg base cv:=
 qL (k:=0) (own':=[]) (fb:=vK) T Jt λcdv f A outer s H E h=>(qg (qW (PW.pt (xW (jj (je rfl (xZ rfl rfl Z.z_isinstance qC rfl Z.z_int qf9 (vr 0)) (λ_=>rfl))) (ki (je rfl (xZ rfl rfl Z.z_isinstance qC rfl Z.z_bool qd7 (vr 0)) (λ_=>rfl))))) (qm (qp vh)) qK)
  (qm (qp (UF Qk Qk (vr 1) (vr 0) (vr 2)))))
abbrev vL:Stmt:=top 26
abbrev ze:List Str:=["thing"]
theorem Jv:FnScope ze ["thing"] (qe vL):=fsc
noncomputable def uz:Sl->Out (Fl×Sl):=(sIf (yP (yl (qw [.vl,.vl,.vl] ka (qc (qd 0) (qc (dC (.int 1)) (qc (dC (.int 99)) qG)))))) (vo "NoRoom" (qc (dC (.str "a room is a whole number from 1 to 99")) qG)) jf)
noncomputable abbrev vM:List D->Out (D×List D):=kr ze [.val] (uz)
abbrev wJ P w K mg base cv:=DefOk P w K mg base cv 2 "check_room" ["thing"] [.val] .sh (vM)
theorem Jw (Z:Zt K mg cv ca) (T:jd K mg "check_room" vL ["thing"]) (o:kT P w K mg base cv):wJ P w K mg base cv:=
 qL (k:=1) (own':=[]) (fb:=uz) T Jv λcdv f A outer s H E h=>(qm (qW (jj (je rfl (qo o h (by decide) qR rfl (qb (vr 0) (qb qu (qb (yZ Z.c_MOST_ROOM rfl) ql)))) (λ_=>rfl))) (qm (wu rfl (QF rfl) rfl rfl (Z.mref "NoRoom" (by decide +kernel)) (Z.xs.val "NoRoom" (by decide +kernel)) (Z.xin "NoRoom" (by decide +kernel)) (qb kO ql))) qK))
abbrev wK:Stmt:=top 18
abbrev gK:List Str:=["thing"]
theorem Vo:FnScope gK ["thing"] (qe wK):=fsc
noncomputable def vx:Sl->Out (Fl×Sl):=(jt (KA (d1 (gi "str") (qd 0)) (KA (d2 eqD (d1 jN (qd 0)) (dC (.int 1))) (ym leD leD (dC (.str "a")) (qd 0) (dC (.str "z"))))))
noncomputable abbrev vy:List D->Out (D×List D):=kr gK [.val] (vx)
abbrev uA P w K mg base cv:=DefOk P w K mg base cv 1 "is_letter" ["thing"] [.val] .sh (vy)
theorem Vp (Z:Zt K mg cv ca) (T:jd K mg "is_letter" wK ["thing"]):uA P w K mg base cv:=
 qL (k:=0) (own':=[]) (fb:=vx) T Vo λcdv f A outer s H E h=>(qm (qp (KC (xZ rfl rfl Z.z_isinstance qC rfl Z.z_str qcG (vr 0)) (KC (yk (yO rfl h.units) (qE (jH rfl) rfl Z.z_len jz (vr 0)) qu) (KB (UF Qk Qk kO (vr 0) kO))))))
abbrev uT:Stmt:=top 22
abbrev QM:List Str:=["thing", "room"]
theorem WH:FnScope QM ["thing", "room"] (qe uT):=fsc
noncomputable def kw:Sl->Out (Fl×Sl):=(qT (sIf (dOr (yP (yl (d1 (gi "tuple") (qd 0)))) (qP (d2 neD (d1 jN (qd 0)) (dC (.int 2))))) (jt (dC (.bl iF))) jf)
  (jt (KA (qw [.vl] vy (qc (d2 ixD (qd 0) (dC (.int 0))) qG)) (qw [.vl,.vl,.vl] ka (qc (d2 ixD (qd 0) (dC (.int 1))) (qc (dC (.int 0)) (qc (d2 Wg (qd 1) (dC (.int 1))) qG)))))))
noncomputable abbrev uU:List D->Out (D×List D):=kr QM [.val,.val] (kw)
abbrev gL P w K mg base cv:=DefOk P w K mg base cv 2 "is_worth" ["thing", "room"] [.val,.val] .sh (uU)
theorem WI (Z:Zt K mg cv ca) (T:jd K mg "is_worth" uT ["thing", "room"]) (o:kT P w K mg base cv) (D:uA P w K mg base cv):gL P w K mg base cv:=
 qL (k:=1) (own':=[]) (fb:=kw) T WH λcdv f A outer s H E h=>(qg (qW (PW.pt (xW (jj (je rfl (xZ rfl rfl Z.z_isinstance qC rfl Z.z_tuple vI (vr 0)) (λ_=>rfl))) (ki (qM (Ky rfl h.units) (qE (jH rfl) rfl Z.z_len jz (vr 0)) qu)))) (qm (qp vh)) qK)
  (qm (qp (KC (qo D h (by decide) qR rfl (qb (jQ rfl h.units (vr 0) qu (λ_ _=>rfl)) ql)) (KB (qo o h (by decide) qR rfl (qb (jQ rfl h.units (vr 0) qu (λ_ _=>rfl)) (qb qu (qb (jx xV (vr 1) qu) ql)))))))))
abbrev jK:Stmt:=top 23
abbrev wL:List Str:=["thing", "room", "letters"]
theorem sc_is_worths:FnScope wL ["thing", "room"] (qe jK):=fsc
noncomputable def wM:Sl->Out (Fl×Sl):=(qT (sIf (dOr (yP (yl (d1 (gi "tuple") (qd 0)))) (yP (yl (d1 UN (qY [] 1 [1] (jy (qd 0)) (gNm 0) ftT (qw [.vl,.vl] uU (qc (qd 0) (qc (qd 1) qG)))))))) (jt (dC (.bl iF))) jf)
  (qT (jO 2 (qY [] 1 [] (jy (qd 0)) (gNm 0) ftT (d2 ixD (qd 0) (dC (.int 0)))))
  (jt (d2 eqD (qd 2) (d1 vH (qd 2))))))
noncomputable abbrev kx:List D->Out (D×List D):=kr wL [.val,.val] (wM)
abbrev zf P w K mg base cv:=DefOk P w K mg base cv 3 "is_worths" ["thing", "room"] [.val,.val] .sh (kx)
theorem Vq (Z:Zt K mg cv ca) (T:jd K mg "is_worths" jK ["thing", "room"]) (o:gL P w K mg base cv):zf P w K mg base cv:=
 qL (k:=2) (own':=[]) (fb:=wM) T sc_is_worths λcdv f A outer s H E h=>(qg (qW (PW.pt (xW (jj (je rfl (xZ rfl rfl Z.z_isinstance qC rfl Z.z_tuple vI (vr 0)) (λ_=>rfl))) (ki (jj (je rfl (qE (gj rfl rfl) rfl Z.z_all gJ (jI (N:=["part", "room"]) (nt:=1) (cap:=[1]) rfl (vp (names:=(qe jK).names) rfl (by decide +kernel)) (jJ (names:=(qe jK).names) (N:=wL) rfl rfl (by decide +kernel)) (qQ rfl (vr 0)) (λfp L s1 H1=>(qA (i:=0) (show bc (["part", "room"]:List Str) from by decide +kernel) rfl (aA rfl))) (λfp L s1 H1=>qZ) (λfp L s1 H1=>(qo o h (by decide) yY rfl (qb (vr 0) (qb (vr 1) ql)))))) (λ_=>rfl)))))) (qm (qp vh)) qK)
  (qg (uR (N:=["part"]) (nt:=1) (cap:=[]) sc_is_worths.nd (i:=2) rfl (aA rfl) rfl (vp (names:=(qe jK).names) rfl (by decide +kernel)) (jJ (names:=(qe jK).names) (N:=wL) rfl rfl (by decide +kernel)) (qQ rfl (vr 0)) (λfp L s1 H1=>(qA (i:=0) (show bc (["part"]:List Str) from by decide +kernel) rfl (aA rfl))) (λfp L s1 H1=>qZ) (λfp L s1 H1=>(jQ rfl h.units (vr 0) qu (λ_ _=>rfl))))
  (jV [2] (qm (qp (yk (yO rfl h.units) (vr 2) (xC rfl rfl rfl Z.z_sorted wy rfl Z.z_set QL (vr 2))))))))
abbrev kB:Stmt:=top 27
abbrev yq:List Str:=["thing", "room"]
theorem gM:FnScope yq ["thing", "room"] (qe kB):=fsc
noncomputable def wf:Sl->Out (Fl×Sl):=(sIf (yP (yl (qw [.vl,.vl] kx (qc (qd 0) (qc (qd 1) qG))))) (vo "NoWorths" (qc (dC (.str "worths are a rising tuple of unlike letters, each with a number within the room")) qG)) jf)
noncomputable abbrev wg:List D->Out (D×List D):=kr yq [.val,.val] (wf)
abbrev uB P w K mg base cv:=DefOk P w K mg base cv 4 "check_worths" ["thing", "room"] [.val,.val] .sh (wg)
theorem gN (Z:Zt K mg cv ca) (T:jd K mg "check_worths" kB ["thing", "room"]) (o:zf P w K mg base cv):uB P w K mg base cv:=
 qL (k:=3) (own':=[]) (fb:=wf) T gM λcdv f A outer s H E h=>(qm (qW (jj (je rfl (qo o h (by decide) qR rfl (qb (vr 0) (qb (vr 1) ql))) (λ_=>rfl))) (qm (wu rfl (QF rfl) rfl rfl (Z.mref "NoWorths" (by decide +kernel)) (Z.xs.val "NoWorths" (by decide +kernel)) (Z.xin "NoWorths" (by decide +kernel)) (qb kO ql))) qK))
abbrev wz:Stmt:=top 19
abbrev gO:List Str:=["thing"]
theorem XD:FnScope gO ["thing"] (qe wz):=fsc
noncomputable def gP:Sl->Out (Fl×Sl):=(qT (sIf (dOr (yP (yl (d1 (gi "str") (qd 0)))) (yP (qP (ym leD leD (dC (.int 1)) (d1 jN (qd 0)) (dC (.int 6)))))) (jt (dC (.bl iF))) jf)
  (jt (d1 UN (qY [] 1 [] (jy (qd 0)) (gNm 0) ftT (qw [.vl] vy (qc (qd 0) qG))))))
noncomputable abbrev xf:List D->Out (D×List D):=kr gO [.val] (gP)
abbrev QN P w K mg base cv:=DefOk P w K mg base cv 2 "is_word" ["thing"] [.val] .sh (xf)
theorem XE (Z:Zt K mg cv ca) (T:jd K mg "is_word" wz ["thing"]) (D:uA P w K mg base cv):QN P w K mg base cv:=
 qL (k:=1) (own':=[]) (fb:=gP) T XD λcdv f A outer s H E h=>(qg (qW (PW.pt (xW (jj (je rfl (xZ rfl rfl Z.z_isinstance qC rfl Z.z_str qcG (vr 0)) (λ_=>rfl))) (ki (jj (zZ Qk Qk qu (qE (jH rfl) rfl Z.z_len jz (vr 0)) (yZ Z.c_MOST_LETTERS rfl)))))) (qm (qp vh)) qK)
  (qm (qp (qE (gj rfl rfl) rfl Z.z_all gJ (jI (N:=["sign"]) (nt:=1) (cap:=[]) rfl (vp (names:=(qe wz).names) rfl (by decide +kernel)) (jJ (names:=(qe wz).names) (N:=gO) rfl rfl (by decide +kernel)) (qQ rfl (vr 0)) (λfp L s1 H1=>(qA (i:=0) (show bc (["sign"]:List Str) from by decide +kernel) rfl (aA rfl))) (λfp L s1 H1=>qZ) (λfp L s1 H1=>(qo D h (by decide) yY rfl (qb (vr 0) ql))))))))
abbrev vd:Stmt:=top 20
abbrev xE:List Str:=["thing"]
theorem WJ:FnScope xE ["thing"] (qe vd):=fsc
noncomputable def xF:Sl->Out (Fl×Sl):=(qT (sIf (dOr (yP (yl (d1 (gi "tuple") (qd 0)))) (yP (qP (ym leD leD (dC (.int 1)) (d1 jN (qd 0)) (dC (.int 6)))))) (jt (dC (.bl iF))) jf)
  (jt (KA (d1 UN (qY [] 1 [] (jy (qd 0)) (gNm 0) ftT (qw [.vl] xf (qc (qd 0) qG)))) (d2 eqD (d1 gC (qd 0)) (d1 jN (qd 0))))))
noncomputable abbrev xG:List D->Out (D×List D):=kr xE [.val] (xF)
abbrev gQ P w K mg base cv:=DefOk P w K mg base cv 3 "is_words" ["thing"] [.val] .sh (xG)
theorem WK (Z:Zt K mg cv ca) (T:jd K mg "is_words" vd ["thing"]) (o:QN P w K mg base cv):gQ P w K mg base cv:=
 qL (k:=2) (own':=[]) (fb:=xF) T WJ λcdv f A outer s H E h=>(qg (qW (PW.pt (xW (jj (je rfl (xZ rfl rfl Z.z_isinstance qC rfl Z.z_tuple vI (vr 0)) (λ_=>rfl))) (ki (jj (zZ Qk Qk qu (qE (jH rfl) rfl Z.z_len jz (vr 0)) (yZ Z.c_MOST_WORDS rfl)))))) (qm (qp vh)) qK)
  (qm (qp (KC (qE (gj rfl rfl) rfl Z.z_all gJ (jI (N:=["part"]) (nt:=1) (cap:=[]) rfl (vp (names:=(qe vd).names) rfl (by decide +kernel)) (jJ (names:=(qe vd).names) (N:=xE) rfl rfl (by decide +kernel)) (qQ rfl (vr 0)) (λfp L s1 H1=>(qA (i:=0) (show bc (["part"]:List Str) from by decide +kernel) rfl (aA rfl))) (λfp L s1 H1=>qZ) (λfp L s1 H1=>(qo o h (by decide) yY rfl (qb (vr 0) ql))))) (KB (yk (yO rfl h.units) (Gq rfl rfl rfl Z.z_len jz rfl Z.z_set QL (vr 0)) (qE (jH rfl) rfl Z.z_len jz (vr 0))))))))
abbrev kU:Stmt:=top 24
abbrev xg:List Str:=["thing"]
theorem Qp:FnScope xg ["thing"] (qe kU):=fsc
noncomputable def wN:Sl->Out (Fl×Sl):=(sIf (yP (yl (qw [.vl] xG (qc (qd 0) qG)))) (vo "NoWords" (qc (dC (.str "words are a tuple of 1 to 6 unlike words of 1 to 6 letters from a to z")) qG)) jf)
noncomputable abbrev wO:List D->Out (D×List D):=kr xg [.val] (wN)
abbrev yr P w K mg base cv:=DefOk P w K mg base cv 4 "check_words" ["thing"] [.val] .sh (wO)
theorem Qq (Z:Zt K mg cv ca) (T:jd K mg "check_words" kU ["thing"]) (o:gQ P w K mg base cv):yr P w K mg base cv:=
 qL (k:=3) (own':=[]) (fb:=wN) T Qp λcdv f A outer s H E h=>(qm (qW (jj (je rfl (qo o h (by decide) qR rfl (qb (vr 0) ql)) (λ_=>rfl))) (qm (wu rfl (QF rfl) rfl rfl (Z.mref "NoWords" (by decide +kernel)) (Z.xs.val "NoWords" (by decide +kernel)) (Z.xin "NoWords" (by decide +kernel)) (qb kO ql))) qK))
abbrev wA:Stmt:=top 21
abbrev gR:List Str:=["thing"]
theorem XF:FnScope gR ["thing"] (qe wA):=fsc
noncomputable def gS:Sl->Out (Fl×Sl):=(qT (sIf (dOr (yP (yl (d1 (gi "tuple") (qd 0)))) (qP (d2 neD (d1 jN (qd 0)) (dC (.int 2))))) (jt (dC (.bl iF))) jf)
  (jt (d1 UN (qY [] 1 [] (jy (qd 0)) (gNm 0) ftT (qw [.vl,.vl,.vl] ka (qc (qd 0) (qc (dC (.int (-3))) (qc (dC (.int 2)) qG))))))))
noncomputable abbrev gT:List D->Out (D×List D):=kr gR [.val] (gS)
abbrev QO P w K mg base cv:=DefOk P w K mg base cv 2 "is_look" ["thing"] [.val] .sh (gT)
theorem XG (Z:Zt K mg cv ca) (T:jd K mg "is_look" wA ["thing"]) (o:kT P w K mg base cv):QO P w K mg base cv:=
 qL (k:=1) (own':=[]) (fb:=gS) T XF λcdv f A outer s H E h=>(qg (qW (PW.pt (xW (jj (je rfl (xZ rfl rfl Z.z_isinstance qC rfl Z.z_tuple vI (vr 0)) (λ_=>rfl))) (ki (qM (Ky rfl h.units) (qE (jH rfl) rfl Z.z_len jz (vr 0)) qu)))) (qm (qp vh)) qK)
  (qm (qp (qE (gj rfl rfl) rfl Z.z_all gJ (jI (N:=["place"]) (nt:=1) (cap:=[]) rfl (vp (names:=(qe wA).names) rfl (by decide +kernel)) (jJ (names:=(qe wA).names) (N:=gR) rfl rfl (by decide +kernel)) (qQ rfl (vr 0)) (λfp L s1 H1=>(qA (i:=0) (show bc (["place"]:List Str) from by decide +kernel) rfl (aA rfl))) (λfp L s1 H1=>qZ) (λfp L s1 H1=>(qo o h (by decide) yY rfl (qb (vr 0) (qb (yZ Z.c_LEAST_PLACE rfl) (qb (yZ Z.c_MOST_PLACE rfl) ql))))))))))
abbrev vN:Stmt:=top 25
abbrev zg:List Str:=["thing"]
theorem Jx:FnScope zg ["thing"] (qe vN):=fsc
noncomputable def uC:Sl->Out (Fl×Sl):=(sIf (yP (yl (qw [.vl] gT (qc (qd 0) qG)))) (vo "NoLook" (qc (dC (.str "a look is a tuple of two places from -3 to 2")) qG)) jf)
noncomputable abbrev uD:List D->Out (D×List D):=kr zg [.val] (uC)
abbrev xh P w K mg base cv:=DefOk P w K mg base cv 3 "check_look" ["thing"] [.val] .sh (uD)
theorem Jy (Z:Zt K mg cv ca) (T:jd K mg "check_look" vN ["thing"]) (o:QO P w K mg base cv):xh P w K mg base cv:=
 qL (k:=2) (own':=[]) (fb:=uC) T Jx λcdv f A outer s H E h=>(qm (qW (jj (je rfl (qo o h (by decide) qR rfl (qb (vr 0) ql)) (λ_=>rfl))) (qm (wu rfl (QF rfl) rfl rfl (Z.mref "NoLook" (by decide +kernel)) (Z.xs.val "NoLook" (by decide +kernel)) (Z.xin "NoLook" (by decide +kernel)) (qb kO ql))) qK))
abbrev wP:Stmt:=top 29
abbrev gU:List Str:=["word", "place", "at"]
theorem sc_letter_at:FnScope gU ["word", "place"] (qe wP):=fsc
noncomputable def wQ:Sl->Out (Fl×Sl):=(qT (jO 2 (dIf (qP (d2 geD (qd 1) (dC (.int 0)))) (qd 1) (d2 kK (d1 jN (qd 0)) (qd 1))))
  (jt (d2 ixD (qd 0) (d2 qgT (dC (.int 0)) (d2 qgU (qd 2) (d2 Wg (d1 jN (qd 0)) (dC (.int 1))))))))
noncomputable abbrev vz:List D->Out (D×List D):=kr gU [.val,.val] (wQ)
abbrev zh P w K mg base cv:=DefOk P w K mg base cv 1 "letter_at" ["word", "place"] [.val,.val] .sh (vz)
theorem Vr (Z:Zt K mg cv ca) (T:jd K mg "letter_at" wP ["word", "place"]):zh P w K mg base cv:=
 qL (k:=0) (own':=[]) (fb:=wQ) T sc_letter_at λcdv f A outer s H E h=>(qg (qN (i:=2) sc_letter_at.nd rfl (aA rfl) (ZE (qM qdt (vr 1) qu) (vr 1) (jx (jY rfl) (qE (jH rfl) rfl Z.z_len jz (vr 0)) (vr 1))))
  (qm (qp (jQ rfl h.units (vr 0) (KO (qfO rfl) rfl Z.z_max qga qu (KO (qfP rfl) rfl Z.z_min qgb (vr 2) (jx xV (qE (jH rfl) rfl Z.z_len jz (vr 0)) qu))) (λ_ _=>rfl)))))
abbrev xH:Stmt:=top 30
abbrev WL:List Str:=["words", "look"]
theorem qbP:FnScope WL ["words", "look"] (qe xH):=fsc
noncomputable def WM:Sl->Out (Fl×Sl):=(qT (vj (qw [.vl] wO (qc (qd 0) qG)))
  (qT (vj (qw [.vl] uD (qc (qd 1) qG)))
  (jt (qY [] 1 [1] (jy (qd 0)) (gNm 0) ftT (zq (qc (qw [.vl,.vl] vz (qc (qd 0) (qc (d2 ixD (qd 1) (dC (.int 0))) qG))) (qc (qw [.vl,.vl] vz (qc (qd 0) (qc (d2 ixD (qd 1) (dC (.int 1))) qG))) qG)))))))
noncomputable abbrev xI:List D->Out (D×List D):=kr WL [.val,.val] (WM)
abbrev xi P w K mg base cv:=DefOk P w K mg base cv 5 "pairs" ["words", "look"] [.val,.val] .sh (xI)
theorem qbQ (Z:Zt K mg cv ca) (T:jd K mg "pairs" xH ["words", "look"]) (a:yr P w K mg base cv) (S:xh P w K mg base cv) (o:zh P w K mg base cv):xi P w K mg base cv:=
 qL (k:=4) (own':=[]) (fb:=WM) T qbP λcdv f A outer s H E h=>(qg (jF (qo a h (by decide) qR rfl (qb (vr 0) ql)))
  (qg (jF (qo S h (by decide) qR rfl (qb (vr 1) ql)))
  (qm (qp (jI (N:=["word", "look"]) (nt:=1) (cap:=[1]) rfl (vp (names:=(qe xH).names) rfl (by decide +kernel)) (jJ (names:=(qe xH).names) (N:=WL) rfl rfl (by decide +kernel)) (qQ rfl (vr 0)) (λfp L s1 H1=>(qA (i:=0) (show bc (["word", "look"]:List Str) from by decide +kernel) rfl (aA rfl))) (λfp L s1 H1=>qZ) (λfp L s1 H1=>(wt (qb (qo o h (by decide) yY rfl (qb (vr 0) (qb (jQ rfl h.units (vr 1) qu (λ_ _=>rfl)) ql))) (qb (qo o h (by decide) yY rfl (qb (vr 0) (qb (jQ rfl h.units (vr 1) qu (λ_ _=>rfl)) ql))) ql)))))))))
abbrev jA:Stmt:=top 31
abbrev vO:List Str:=["seen"]
theorem Jz:FnScope vO ["seen"] (qe jA):=fsc
noncomputable def uE:Sl->Out (Fl×Sl):=(jt (d1 vH (d2 kK (qY [] 1 [] (jy (qd 0)) (gNm 0) ftT (d2 ixD (qd 0) (dC (.int 0)))) (qY [] 1 [] (jy (qd 0)) (gNm 0) ftT (d2 ixD (qd 0) (dC (.int 1)))))))
noncomputable abbrev jb:List D->Out (D×List D):=kr vO [.val] (uE)
abbrev kW P w K mg base cv:=DefOk P w K mg base cv 1 "letters_of" ["seen"] [.val] .sh (jb)
theorem JA (Z:Zt K mg cv ca) (T:jd K mg "letters_of" jA ["seen"]):kW P w K mg base cv:=
 qL (k:=0) (own':=[]) (fb:=uE) T Jz λcdv f A outer s H E h=>(qm (qp (xC rfl rfl rfl Z.z_sorted wy rfl Z.z_set QL (jx (jY rfl) (jI (N:=["pair"]) (nt:=1) (cap:=[]) rfl (vp (names:=(qe jA).names) rfl (by decide +kernel)) (jJ (names:=(qe jA).names) (N:=vO) rfl rfl (by decide +kernel)) (qQ rfl (vr 0)) (λfp L s1 H1=>(qA (i:=0) (show bc (["pair"]:List Str) from by decide +kernel) rfl (aA rfl))) (λfp L s1 H1=>qZ) (λfp L s1 H1=>(jQ rfl h.units (vr 0) qu (λ_ _=>rfl)))) (jI (N:=["pair"]) (nt:=1) (cap:=[]) rfl (vp (names:=(qe jA).names) rfl (by decide +kernel)) (jJ (names:=(qe jA).names) (N:=vO) rfl rfl (by decide +kernel)) (qQ rfl (vr 0)) (λfp L s1 H1=>(qA (i:=0) (show bc (["pair"]:List Str) from by decide +kernel) rfl (aA rfl))) (λfp L s1 H1=>qZ) (λfp L s1 H1=>(jQ rfl h.units (vr 0) qu (λ_ _=>rfl))))))))
abbrev zK:Stmt:=top 32
abbrev Yn:List Str:=["total", "room"]
theorem GP:FnScope Yn ["total", "room"] (qe zK):=fsc
noncomputable def JB:Sl->Out (Fl×Sl):=(jt (dIf (qP (d2 geD (qd 0) (qd 1))) (d2 Wg (qd 0) (qd 1)) (qd 0)))
noncomputable abbrev zL:List D->Out (D×List D):=kr Yn [.val,.val] (JB)
abbrev Vs P w K mg base cv:=DefOk P w K mg base cv 1 "within" ["total", "room"] [.val,.val] .sh (zL)
theorem GQ (Z:Zt K mg cv ca) (T:jd K mg "within" zK ["total", "room"]):Vs P w K mg base cv:=
 qL (k:=0) (own':=[]) (fb:=JB) T GP λcdv f A outer s H E h=>(qm (qp (ZE (qM qdt (vr 0) (vr 1)) (jx xV (vr 0) (vr 1)) (vr 0))))
abbrev kb:Stmt:=top 33
abbrev uV:List Str:=["words", "look", "room", "worths", "seen", "worth_of"]
theorem sc_numbered:FnScope uV ["words", "look", "room", "worths"] (qe kb):=fsc
noncomputable def uW:Sl->Out (Fl×Sl):=(qT (jO 4 (qw [.vl,.vl] xI (qc (qd 0) (qc (qd 1) qG))))
  (qT (vj (qw [.vl] vM (qc (qd 2) qG)))
  (qT (vj (qw [.vl,.vl] wg (qc (qd 3) (qc (qd 2) qG))))
  (qT (jO 5 (d1 qbv (qd 3)))
  (qT (sIf (yP (yl (d1 UN (qY [] 1 [5] (jy (qw [.vl] jb (qc (qd 4) qG))) (gNm 0) ftT (d2 inA (qd 0) (qd 1)))))) (vo "NoWorths" (qc (dC (.str "a letter that is seen has no worth")) qG)) jf)
  (jt (d1 yn (qY [] 1 [2,5] (jy (qd 4)) (gNm 0) ftT (qw [.vl,.vl] zL (qc (d2 kK (d2 ixD (qd 2) (d2 ixD (qd 0) (dC (.int 0)))) (d2 ixD (qd 2) (d2 ixD (qd 0) (dC (.int 1))))) (qc (qd 1) qG)))))))))))
noncomputable abbrev ky:List D->Out (D×List D):=kr uV [.val,.val,.val,.val] (uW)
abbrev gW P w K mg base cv:=DefOk P w K mg base cv 6 "numbered" ["words", "look", "room", "worths"] [.val,.val,.val,.val] .sh (ky)
theorem WN (Z:Zt K mg cv ca) (T:jd K mg "numbered" kb ["words", "look", "room", "worths"]) (o:wJ P w K mg base cv) (b:uB P w K mg base cv) (u:xi P w K mg base cv) (a:kW P w K mg base cv) (O:Vs P w K mg base cv):gW P w K mg base cv:=
 qL (k:=5) (own':=[]) (fb:=uW) T sc_numbered λcdv f A outer s H E h=>(qg (qN (i:=4) sc_numbered.nd rfl (aA rfl) (qo u h (by decide) qR rfl (qb (vr 0) (qb (vr 1) ql))))
  (qg (jF (qo o h (by decide) qR rfl (qb (vr 2) ql)))
  (qg (jF (qo b h (by decide) qR rfl (qb (vr 3) (qb (vr 2) ql))))
  (qg (qN (i:=5) sc_numbered.nd rfl (fj rfl) (kl (qdP rfl rfl) rfl Z.z_dict Js (vr 3)))
  (qg (qW (jj (je rfl (qE (gj rfl rfl) rfl Z.z_all gJ (jI (N:=["letter", "worth_of"]) (nt:=1) (cap:=[5]) rfl (vp (names:=(qe kb).names) rfl (by decide +kernel)) (jJ (names:=(qe kb).names) (N:=uV) rfl rfl (by decide +kernel)) (qQ rfl (qo a h (by decide) qR rfl (qb (vr 4) ql))) (λfp L s1 H1=>(qA (i:=0) (show bc (["letter", "worth_of"]:List Str) from by decide +kernel) rfl (aA rfl))) (λfp L s1 H1=>qZ) (λfp L s1 H1=>(yk (UZ rfl h.units) (vr 0) (vr 1))))) (λ_=>rfl))) (qm (wu rfl (QF rfl) rfl rfl (Z.mref "NoWorths" (by decide +kernel)) (Z.xs.val "NoWorths" (by decide +kernel)) (Z.xin "NoWorths" (by decide +kernel)) (qb kO ql))) qK)
  (qm (qp (kl (zG rfl) rfl Z.z_tuple vI (jI (N:=["pair", "room", "worth_of"]) (nt:=1) (cap:=[2,5]) rfl (vp (names:=(qe kb).names) rfl (by decide +kernel)) (jJ (names:=(qe kb).names) (N:=uV) rfl rfl (by decide +kernel)) (qQ rfl (vr 4)) (λfp L s1 H1=>(qA (i:=0) (show bc (["pair", "room", "worth_of"]:List Str) from by decide +kernel) rfl (aA rfl))) (λfp L s1 H1=>qZ) (λfp L s1 H1=>(qo O h (by decide) yY rfl (qb (jx (jY rfl) (jQ rfl h.units (vr 2) (jQ rfl h.units (vr 0) qu (λ_ _=>rfl)) (λ_ _=>rfl)) (jQ rfl h.units (vr 2) (jQ rfl h.units (vr 0) qu (λ_ _=>rfl)) (λ_ _=>rfl))) (qb (vr 1) ql)))))))))))))
abbrev wR:Stmt:=top 35
abbrev gX:List Str:=["one", "two"]
theorem Vt:FnScope gX ["one", "two"] (qe wR):=fsc
noncomputable def wS:Sl->Out (Fl×Sl):=(jt (qgQ (d2 eqD (qd 0) (qd 1)) (d2 eqD (qd 0) (zq (qc (d2 ixD (qd 1) (dC (.int 1))) (qc (d2 ixD (qd 1) (dC (.int 0))) qG))))))
noncomputable abbrev wT:List D->Out (D×List D):=kr gX [.val,.val] (wS)
abbrev zi P w K mg base cv:=DefOk P w K mg base cv 1 "are_alike" ["one", "two"] [.val,.val] .sh (wT)
theorem Vu (Z:Zt K mg cv ca) (T:jd K mg "are_alike" wR ["one", "two"]):zi P w K mg base cv:=
 qL (k:=0) (own':=[]) (fb:=wS) T Vt λcdv f A outer s H E h=>(qm (qp (qhC (yk (yO rfl h.units) (vr 0) (vr 1)) (KB (yk (yO rfl h.units) (vr 0) (wt (qb (jQ rfl h.units (vr 1) qu (λ_ _=>rfl)) (qb (jQ rfl h.units (vr 1) qu (λ_ _=>rfl)) ql))))))))
abbrev uX:Stmt:=top 36
abbrev QP:List Str:=["seen", "later", "pair", "ahead"]
theorem sc_clash_of:FnScope QP ["seen"] (qe uX):=fsc
noncomputable def xJ:Sl->Out (Fl×Sl):=(qT (zu (GA (qd 0)) (wc 2 (qU (gNm 1) (qU (gNm 2) wb)))
  (zu (jB (qd 1)) (gNm 3)
  (sIf (yl (qw [.vl,.vl] wT (qc (d2 ixD (qd 0) (qd 3)) (qc (qd 2) qG)))) (jt (zq (qc (qd 3) (qc (qd 1) qG)))) jf)))
  (jt (dC .non)))
noncomputable abbrev vf:List D->Out (D×List D):=kr QP [.val] (xJ)
abbrev yD P w K mg base cv:=DefOk P w K mg base cv 2 "clash_of" ["seen"] [.val] .sh (vf)
theorem WO (Z:Zt K mg cv ca) (T:jd K mg "clash_of" uX ["seen"]) (o:zi P w K mg base cv):yD P w K mg base cv:=
 qL (k:=1) (own':=[]) (fb:=xJ) T sc_clash_of λcdv f A outer s H E h=>(qg (jS aN rfl (Ye rfl rfl Z.z_enumerate (vr 0)) (Je rfl rfl (kE (qA (i:=1) sc_clash_of.nd rfl (aA rfl)) (kE (qA (i:=2) sc_clash_of.nd rfl (aA rfl)) zE)))
  (qm (jS aN rfl (va rfl Z.z_range (vr 1)) (qA (i:=3) sc_clash_of.nd rfl (aA rfl))
  (qm (qW (je rfl (qo o h (by decide) qR rfl (qb (jQ rfl h.units (vr 0) (vr 3) (λ_ _=>rfl)) (qb (vr 2) ql))) (λ_=>rfl)) (qm (qp (wt (qb (vr 3) (qb (vr 1) ql))))) qK)))))
  (qm (qp vi)))
abbrev JC:Stmt:=top 37
abbrev GR:List Str:=["words", "look"]
theorem qbR:FnScope GR ["words", "look"] (qe JC):=fsc
noncomputable def WP:Sl->Out (Fl×Sl):=(jt (qw [.vl] vf (qc (qw [.vl,.vl] xI (qc (qd 0) (qc (qd 1) qG))) qG)))
noncomputable abbrev WQ:List D->Out (D×List D):=kr GR [.val,.val] (WP)
abbrev Yo P w K mg base cv:=DefOk P w K mg base cv 6 "clash" ["words", "look"] [.val,.val] .sh (WQ)
theorem qbS (Z:Zt K mg cv ca) (T:jd K mg "clash" JC ["words", "look"]) (u:xi P w K mg base cv) (o:yD P w K mg base cv):Yo P w K mg base cv:=
 qL (k:=5) (own':=[]) (fb:=WP) T qbR λcdv f A outer s H E h=>(qm (qp (qo o h (by decide) qR rfl (qb (qo u h (by decide) qR rfl (qb (vr 0) (qb (vr 1) ql))) ql))))
abbrev uY:Stmt:=top 51
abbrev QQ:List Str:=["_law_script", "_law_k"]
theorem WR:FnScope QQ ["_law_script", "_law_k"] (qe uY):=fsc
noncomputable def wB:Sl->Out (Fl×Sl):=(qT (sIf (qP (d2 ltD (qd 1) (d1 jN (qd 0)))) (jt (d2 ixD (qd 0) (qd 1))) jf)
  (qT (sIf (qP (d2 eqD (qd 0) (gb qG))) (jt (dC (.int 0))) jf)
  (jt (d2 kK (d2 XT (d2 ixD (qd 0) (d2 UA (qd 1) (d1 jN (qd 0)))) (dC (.int 31))) (qd 1)))))
noncomputable abbrev xK:List D->Out (D×List D):=kr QQ [.val,.val] (wB)
abbrev gY P w K mg base cv:=DefOk P w K mg base cv 1 "_law_cell_at" ["_law_script", "_law_k"] [.val,.val] .sh (xK)
theorem WS (Z:Zt K mg cv ca) (T:jd K mg "_law_cell_at" uY ["_law_script", "_law_k"]):gY P w K mg base cv:=
 qL (k:=0) (own':=[]) (fb:=wB) T WR λcdv f A outer s H E h=>(qg (qW (qM Xb (vr 1) (qE (jH rfl) rfl Z.z_len jz (vr 0))) (qm (qp (jQ rfl h.units (vr 0) (vr 1) (λ_ _=>rfl)))) qK)
  (qg (qW (qM (yO rfl h.units) (vr 0) (kP ql)) (qm (qp qu)) qK)
  (qm (qp (jx (jY rfl) (jx Qv (jQ rfl h.units (vr 0) (jx Qw (vr 1) (qE (jH rfl) rfl Z.z_len jz (vr 0))) (λ_ _=>rfl)) qu) (vr 1))))))
abbrev zM:Stmt:=top 52
abbrev Yp:List Str:=["_law_script", "_law_k", "_law_many", "_law_drawn"]
theorem sc_Lmixed:FnScope Yp ["_law_script", "_law_k", "_law_many"] (qe zM):=fsc
noncomputable def JD:Sl->Out (Fl×Sl):=(qT (jO 3 (d2 UA (d2 XT (d2 kK (d2 kK (qw [.vl,.vl] xK (qc (qd 0) (qc (qd 1) qG))) (d2 XT (dC (.int 7919)) (qd 1))) (dC (.int 1))) (dC (.int 48271))) (dC (.int 2147483647))))
  (jt (d2 UA (d2 UA (d2 kK (d2 kK (d2 XT (qd 3) (qd 3)) (d2 XT (dC (.int 7)) (qd 3))) (qd 1)) (dC (.int 2147483629))) (qd 2))))
noncomputable abbrev JE:List D->Out (D×List D):=kr Yp [.val,.val,.val] (JD)
abbrev Vv P w K mg base cv:=DefOk P w K mg base cv 2 "_law_mixed" ["_law_script", "_law_k", "_law_many"] [.val,.val,.val] .sh (JE)
theorem GS (Z:Zt K mg cv ca) (T:jd K mg "_law_mixed" zM ["_law_script", "_law_k", "_law_many"]) (o:gY P w K mg base cv):Vv P w K mg base cv:=
 qL (k:=1) (own':=[]) (fb:=JD) T sc_Lmixed λcdv f A outer s H E h=>(qg (qN (i:=3) sc_Lmixed.nd rfl (aA rfl) (jx Qw (jx Qv (jx (jY rfl) (jx (jY rfl) (qo o h (by decide) qR rfl (qb (vr 0) (qb (vr 1) ql))) (jx Qv qu (vr 1))) qu) qu) qu))
  (qm (qp (jx Qw (jx Qw (jx (jY rfl) (jx (jY rfl) (jx Qv (vr 3) (vr 3)) (jx Qv qu (vr 3))) (vr 1)) qu) (vr 2)))))
abbrev JF:Stmt:=top 53
abbrev GT:List Str:=["_law_script", "_law_town", "_law_many"]
theorem qbT:FnScope GT ["_law_script", "_law_town", "_law_many"] (qe JF):=fsc
noncomputable def WT:Sl->Out (Fl×Sl):=(qT (vj (xY 1 Wp (dC (.int 0))))
  (jt (qw [.vl,.vl,.vl] JE (qc (qd 0) (qc (d1 jN (qd 1)) (qc (qd 2) qG))))))
noncomputable abbrev wU:List D->Out (D×List D):=kr GT [.val,.io,.val] (WT)
abbrev xj P w K mg base cv:=DefOk P w K mg base cv 3 "_law_draw" ["_law_script", "_law_town", "_law_many"] [.val,.io,.val] .sh (wU)
theorem qbU (Z:Zt K mg cv ca) (T:jd K mg "_law_draw" JF ["_law_script", "_law_town", "_law_many"]) (O:Vv P w K mg base cv):xj P w K mg base cv:=
 qL (k:=2) (own':=[1]) (fb:=WT) T qbT λcdv f A outer s H E h=>(qg (jF (yW (i:=1) rfl rfl (aA rfl) (by decide) qu))
  (qm (qp (qo O h (by decide) qR rfl (qb (vr 0) (qb (qE (jH rfl) rfl Z.z_len jz (yx (i:=1) rfl (aA rfl) (by decide))) (qb (vr 2) ql)))))))
abbrev JG:Stmt:=top 54
abbrev GU:List Str:=["_law_script", "_law_town", "_law_some"]
theorem qbV:FnScope GU ["_law_script", "_law_town", "_law_some"] (qe JG):=fsc
noncomputable def WU:Sl->Out (Fl×Sl):=(jt (d2 ixD (qd 2) (qw [.vl,.sl 1,.vl] wU (qc (qd 0) (ug (qc (d1 jN (qd 2)) qG))))))
noncomputable abbrev gZ:List D->Out (D×List D):=kr GU [.val,.io,.val] (WU)
abbrev zN P w K mg base cv:=DefOk P w K mg base cv 4 "_law_pick" ["_law_script", "_law_town", "_law_some"] [.val,.io,.val] .sh (gZ)
theorem qbW (Z:Zt K mg cv ca) (T:jd K mg "_law_pick" JG ["_law_script", "_law_town", "_law_some"]) (o:xj P w K mg base cv):zN P w K mg base cv:=
 qL (k:=3) (own':=[1]) (fb:=WU) T qbV λcdv f A outer s H E h=>(qm (qp (jQ rfl h.units (vr 2) (qo o h (by decide) qR rfl (qb (vr 0) (jP (i:=1) rfl (aA rfl) (by decide) (qb (qE (jH rfl) rfl Z.z_len jz (vr 2)) ql)))) (λ_ _=>rfl))))
abbrev JH:Stmt:=top 55
abbrev GV:List Str:=["_law_script", "_law_town", "_law_few", "_law_word_here", "_law_k"]
theorem sc_Lword:FnScope GV ["_law_script", "_law_town", "_law_few"] (qe JH):=fsc
noncomputable def WV:Sl->Out (Fl×Sl):=(qT (jO 3 (dC (.str "")))
  (qT (zu (jB (d2 kK (dC (.int 1)) (qw [.vl,.sl 1,.vl] wU (qc (qd 0) (ug (qc (qw [.vl,.sl 1,.vl] gZ (qc (qd 0) (ug (qc (gb (qc (dC (.int 2)) (qc (dC (.int 3)) (qc (dC (.int 6)) qG)))) qG)))) qG)))))) (gNm 4)
  (jO 3 (d2 kK (qd 3) (d2 ixD (dC (.str "abcdefghijklmnopqrstuvwxyz")) (qw [.vl,.sl 1,.vl] wU (qc (qd 0) (ug (qc (qd 2) qG))))))))
  (jt (qd 3))))
noncomputable abbrev JI:List D->Out (D×List D):=kr GV [.val,.io,.val] (WV)
abbrev Yq P w K mg base cv:=DefOk P w K mg base cv 5 "_law_word" ["_law_script", "_law_town", "_law_few"] [.val,.io,.val] .sh (JI)
theorem qbX (Z:Zt K mg cv ca) (T:jd K mg "_law_word" JH ["_law_script", "_law_town", "_law_few"]) (o:xj P w K mg base cv) (C:zN P w K mg base cv):Yq P w K mg base cv:=
 qL (k:=4) (own':=[1]) (fb:=WV) T sc_Lword λcdv f A outer s H E h=>(qg (qN (i:=3) sc_Lword.nd rfl (aA rfl) kO)
  (qg (jS aN rfl (va rfl Z.z_range (jx (jY rfl) qu (qo o h (by decide) qR rfl (qb (vr 0) (jP (i:=1) rfl (aA rfl) (by decide) (qb (qo C h (by decide) qR rfl (qb (vr 0) (jP (i:=1) rfl (aA rfl) (by decide) (qb (kP (qb qu (qb qu (qb qu ql)))) ql)))) ql)))))) (qA (i:=4) sc_Lword.nd rfl (aA rfl))
  (qm (qN (i:=3) sc_Lword.nd rfl (aA rfl) (jx (jY rfl) (vr 3) (jQ rfl h.units kO (qo o h (by decide) qR rfl (qb (vr 0) (jP (i:=1) rfl (aA rfl) (by decide) (qb (vr 2) ql)))) (λ_ _=>rfl))))))
  (qm (qp (vr 3)))))
abbrev zO:Stmt:=top 56
abbrev Yr:List Str:=["_law_script", "_law_town", "_law_most", "_law_few", "_law_made", "_law_k", "_law_word_here"]
theorem sc_Lwords:FnScope Yr ["_law_script", "_law_town", "_law_most"] (qe zO):=fsc
noncomputable def JJ:Sl->Out (Fl×Sl):=(qT (jO 3 (qw [.vl,.sl 1,.vl] gZ (qc (qd 0) (ug (qc (gb (qc (dC (.int 2)) (qc (dC (.int 3)) (qc (dC (.int 4)) (qc (dC (.int 6)) (qc (dC (.int 26)) qG)))))) qG)))))
  (qT (jO 4 (gb qG))
  (qT (zu (jB (d2 kK (dC (.int 1)) (qw [.vl,.sl 1,.vl] wU (qc (qd 0) (ug (qc (qd 2) qG)))))) (gNm 5)
  (qT (jO 6 (qw [.vl,.sl 1,.vl] JI (qc (qd 0) (ug (qc (qd 3) qG)))))
  (sIf (qP (d2 UX (qd 6) (qd 4))) (vj (xY 4 Wp (qd 6))) jf)))
  (jt (d1 yn (qd 4))))))
noncomputable abbrev JK:List D->Out (D×List D):=kr Yr [.val,.io,.val] (JJ)
abbrev Vw P w K mg base cv:=DefOk P w K mg base cv 6 "_law_words" ["_law_script", "_law_town", "_law_most"] [.val,.io,.val] .sh (JK)
theorem GW (Z:Zt K mg cv ca) (T:jd K mg "_law_words" zO ["_law_script", "_law_town", "_law_most"]) (o:xj P w K mg base cv) (C:zN P w K mg base cv) (O:Yq P w K mg base cv):Vw P w K mg base cv:=
 qL (k:=5) (own':=[1]) (fb:=JJ) T sc_Lwords λcdv f A outer s H E h=>(qg (qN (i:=3) sc_Lwords.nd rfl (aA rfl) (qo C h (by decide) qR rfl (qb (vr 0) (jP (i:=1) rfl (aA rfl) (by decide) (qb (kP (qb qu (qb qu (qb qu (qb qu (qb qu ql)))))) ql)))))
  (qg (kj (i:=4) sc_Lwords.nd rfl (aA rfl) (kP ql))
  (qg (jS aN rfl (va rfl Z.z_range (jx (jY rfl) qu (qo o h (by decide) qR rfl (qb (vr 0) (jP (i:=1) rfl (aA rfl) (by decide) (qb (vr 2) ql)))))) (qA (i:=5) sc_Lwords.nd rfl (aA rfl))
  (qg (qN (i:=6) sc_Lwords.nd rfl (aA rfl) (qo O h (by decide) qR rfl (qb (vr 0) (jP (i:=1) rfl (aA rfl) (by decide) (qb (vr 3) ql)))))
  (qm (qW (qM (gp rfl h.units) (vr 6) (yx (i:=4) rfl (aA rfl) (by decide))) (qm (jF (yW (i:=4) rfl rfl (aA rfl) (by decide) (vr 6)))) qK))))
  (qm (qp (kl (zG rfl) rfl Z.z_tuple vI (yx (i:=4) rfl (aA rfl) (by decide))))))))
abbrev JL:Stmt:=top 57
abbrev GX:List Str:=["_law_script", "_law_town"]
theorem qbY:FnScope GX ["_law_script", "_law_town"] (qe JL):=fsc
noncomputable def WW:Sl->Out (Fl×Sl):=(jt (zq (qc (d2 Wg (qw [.vl,.sl 1,.vl] wU (qc (qd 0) (ug (qc (dC (.int 6)) qG)))) (dC (.int 3))) (qc (d2 Wg (qw [.vl,.sl 1,.vl] wU (qc (qd 0) (ug (qc (dC (.int 6)) qG)))) (dC (.int 3))) qG))))
noncomputable abbrev WX:List D->Out (D×List D):=kr GX [.val,.io] (WW)
abbrev Ys P w K mg base cv:=DefOk P w K mg base cv 4 "_law_look" ["_law_script", "_law_town"] [.val,.io] .sh (WX)
theorem qbZ (Z:Zt K mg cv ca) (T:jd K mg "_law_look" JL ["_law_script", "_law_town"]) (o:xj P w K mg base cv):Ys P w K mg base cv:=
 qL (k:=3) (own':=[1]) (fb:=WW) T qbY λcdv f A outer s H E h=>(qm (qp (wt (qb (jx xV (qo o h (by decide) qR rfl (qb (vr 0) (jP (i:=1) rfl (aA rfl) (by decide) (qb qu ql)))) qu) (qb (jx xV (qo o h (by decide) qR rfl (qb (vr 0) (jP (i:=1) rfl (aA rfl) (by decide) (qb qu ql)))) qu) ql)))))
abbrev xl:Stmt:=top 58
abbrev Vx:List Str:=["_law_word_here", "_law_place"]
theorem XH:FnScope Vx ["_law_word_here", "_law_place"] (qe xl):=fsc
noncomputable def Vy:Sl->Out (Fl×Sl):=(qT (sIf (qP (d2 geD (qd 1) (dC (.int 0)))) (jt (d2 ixD (d2 kK (UO (qd 0) (iB (qd 1)) (iB (d2 kK (qd 1) (dC (.int 1)))) iD) (d2 ixD (qd 0) (d1 qaN (dC (.int 1))))) (dC (.int 0)))) jf)
  (jt (d2 ixD (d2 kK (UO (UO (qd 0) iD iD (iB (d1 qaN (dC (.int 1))))) (iB (d2 Wg (d1 qaN (dC (.int 1))) (qd 1))) (iB (d2 Wg (dC (.int 0)) (qd 1))) iD) (d2 ixD (qd 0) (dC (.int 0)))) (dC (.int 0)))))
noncomputable abbrev wC:List D->Out (D×List D):=kr Vx [.val,.val] (Vy)
abbrev QR P w K mg base cv:=DefOk P w K mg base cv 1 "_law_letter" ["_law_word_here", "_law_place"] [.val,.val] .sh (wC)
theorem XI (Z:Zt K mg cv ca) (T:jd K mg "_law_letter" xl ["_law_word_here", "_law_place"]):QR P w K mg base cv:=
 qL (k:=0) (own':=[]) (fb:=Vy) T XH λcdv f A outer s H E h=>(qg (qW (qM qdt (vr 1) qu) (qm (qp (jQ rfl h.units (jx (jY rfl) (Ji rfl (vr 0) (vF (vr 1)) (vF (jx (jY rfl) (vr 1) qu)) wI) (jQ rfl h.units (vr 0) (Xa QD qu) (λ_ _=>rfl))) qu (λ_ _=>rfl)))) qK)
  (qm (qp (jQ rfl h.units (jx (jY rfl) (Ji rfl (Ji rfl (vr 0) wI wI (vF (Xa QD qu))) (vF (jx xV (Xa QD qu) (vr 1))) (vF (jx xV qu (vr 1))) wI) (jQ rfl h.units (vr 0) qu (λ_ _=>rfl))) qu (λ_ _=>rfl)))))
abbrev uZ:Stmt:=top 59
abbrev JM:List Str:=["_law_words_here", "_law_look_here"]
theorem GY:FnScope JM ["_law_words_here", "_law_look_here"] (qe uZ):=fsc
noncomputable def JN:Sl->Out (Fl×Sl):=(jt (qY [] 1 [1] (jy (qd 0)) (gNm 0) ftT (zq (qc (qw [.vl,.vl] wC (qc (qd 0) (qc (d2 ixD (qd 1) (dC (.int 0))) qG))) (qc (qw [.vl,.vl] wC (qc (qd 0) (qc (d2 ixD (qd 1) (dC (.int 1))) qG))) qG)))))
noncomputable abbrev ya:List D->Out (D×List D):=kr JM [.val,.val] (JN)
abbrev xm P w K mg base cv:=DefOk P w K mg base cv 2 "_law_pairs" ["_law_words_here", "_law_look_here"] [.val,.val] .sh (ya)
theorem GZ (Z:Zt K mg cv ca) (T:jd K mg "_law_pairs" uZ ["_law_words_here", "_law_look_here"]) (o:QR P w K mg base cv):xm P w K mg base cv:=
 qL (k:=1) (own':=[]) (fb:=JN) T GY λcdv f A outer s H E h=>(qm (qp (jI (N:=["_law_word_here", "_law_look_here"]) (nt:=1) (cap:=[1]) rfl (vp (names:=(qe uZ).names) rfl (by decide +kernel)) (jJ (names:=(qe uZ).names) (N:=JM) rfl rfl (by decide +kernel)) (qQ rfl (vr 0)) (λfp L s1 H1=>(qA (i:=0) (show bc (["_law_word_here", "_law_look_here"]:List Str) from by decide +kernel) rfl (aA rfl))) (λfp L s1 H1=>qZ) (λfp L s1 H1=>(wt (qb (qo o h (by decide) yY rfl (qb (vr 0) (qb (jQ rfl h.units (vr 1) qu (λ_ _=>rfl)) ql))) (qb (qo o h (by decide) yY rfl (qb (vr 0) (qb (jQ rfl h.units (vr 1) qu (λ_ _=>rfl)) ql))) ql)))))))
abbrev JO:Stmt:=top 60
abbrev qaa:List Str:=["_law_words_here", "_law_look_here", "_law_made", "_law_one", "_law_other"]
theorem sc_Lseen:FnScope qaa ["_law_words_here", "_law_look_here"] (qe JO):=fsc
noncomputable def WY:Sl->Out (Fl×Sl):=(qT (jO 2 (gb qG))
  (qT (zu (jy (qw [.vl,.vl] ya (qc (qd 0) (qc (qd 1) qG)))) (wc 2 (qU (gNm 3) (qU (gNm 4) wb)))
  (vj (xY 2 Wq (gb (qc (qd 3) (qc (qd 4) qG))))))
  (jt (d1 vH (qd 2)))))
noncomputable abbrev yE:List D->Out (D×List D):=kr qaa [.val,.val] (WY)
abbrev JP P w K mg base cv:=DefOk P w K mg base cv 3 "_law_seen" ["_law_words_here", "_law_look_here"] [.val,.val] .sh (yE)
theorem qb0 (Z:Zt K mg cv ca) (T:jd K mg "_law_seen" JO ["_law_words_here", "_law_look_here"]) (o:xm P w K mg base cv):JP P w K mg base cv:=
 qL (k:=2) (own':=[]) (fb:=WY) T sc_Lseen λcdv f A outer s H E h=>(qg (kj (i:=2) sc_Lseen.nd rfl (aA rfl) (kP ql))
  (qg (jS aN rfl (qQ rfl (qo o h (by decide) qR rfl (qb (vr 0) (qb (vr 1) ql)))) (Je rfl rfl (kE (qA (i:=3) sc_Lseen.nd rfl (aA rfl)) (kE (qA (i:=4) sc_Lseen.nd rfl (aA rfl)) zE)))
  (qm (jF (yX (i:=2) rfl (aA rfl) (by decide) (kP (qb (vr 3) (qb (vr 4) ql)))))))
  (qm (qp (xC rfl rfl rfl Z.z_sorted wy rfl Z.z_set QL (yx (i:=2) rfl (aA rfl) (by decide)))))))
abbrev vg:Stmt:=top 38
abbrev xL:List Str:=["pair", "seen", "fixed", "letter"]
theorem sc_is_loose:FnScope xL ["pair", "seen", "fixed"] (qe vg):=fsc
noncomputable def xM:Sl->Out (Fl×Sl):=(qT (zu (jy (qd 0)) (gNm 3)
  (sIf (Xf (qP (d2 UX (qd 3) (qd 2))) (qP (d2 eqD (d1 Jp (qY [] 1 [3] (jy (qd 1)) (gNm 0) ftT (dM qeX yo (qd 0) (qd 1)))) (dC (.int 1))))) (jt (dC (.bl iH))) jf))
  (jt (dC (.bl iF))))
noncomputable abbrev ke:List D->Out (D×List D):=kr xL [.val,.val,.val] (xM)
abbrev Qa P w K mg base cv:=DefOk P w K mg base cv 1 "is_loose" ["pair", "seen", "fixed"] [.val,.val,.val] .sh (ke)
theorem WZ (Z:Zt K mg cv ca) (T:jd K mg "is_loose" vg ["pair", "seen", "fixed"]):Qa P w K mg base cv:=
 qL (k:=0) (own':=[]) (fb:=xM) T sc_is_loose λcdv f A outer s H E h=>(qg (jS aN rfl (qQ rfl (vr 0)) (qA (i:=3) sc_is_loose.nd rfl (fj rfl))
  (qm (qW (PW.pt (xy (qM (gp rfl h.units) (vr 3) (vr 2)) (ki (qM (yO rfl h.units) (qE (WE rfl rfl) rfl Z.z_sum GO (jI (N:=["other", "letter"]) (nt:=1) (cap:=[3]) rfl (vp (names:=(qe vg).names) rfl (by decide +kernel)) (jJ (names:=(qe vg).names) (N:=xL) rfl rfl (by decide +kernel)) (qQ rfl (vr 1)) (λfp L s1 H1=>(qA (i:=0) (show bc (["other", "letter"]:List Str) from by decide +kernel) rfl (aA rfl))) (λfp L s1 H1=>qZ) (λfp L s1 H1=>(GE rfl h.units (vr 0) (vr 1))))) qu)))) (qm (qp vh)) qK)))
  (qm (qp vh)))
abbrev jn:Stmt:=top 39
abbrev kq:List Str:=["seen", "fixed", "kept", "rest"]
theorem sc_bound_pairs:FnScope kq ["seen", "fixed"] (qe jn):=fsc
noncomputable def wV:Sl->Out (Fl×Sl):=(qT (jO 2 (qd 0))
  (qT (jO 3 (qY [] 1 [2,1] (jy (qd 2)) (gNm 0) (yP (yl (qw [.vl,.vl,.vl] ke (qc (qd 0) (qc (qd 1) (qc (qd 2) qG)))))) (qd 0)))
  (qT (jr (qP (d2 ltD (d1 jN (qd 3)) (d1 jN (qd 2))))
  (qT (jO 2 (qd 3))
  (qT (jO 3 (qY [] 1 [2,1] (jy (qd 2)) (gNm 0) (yP (yl (qw [.vl,.vl,.vl] ke (qc (qd 0) (qc (qd 1) (qc (qd 2) qG)))))) (qd 0))) jf)) 20)
  (jt (qd 2)))))
noncomputable abbrev wW:List D->Out (D×List D):=kr kq [.val,.val] (wV)
abbrev yt P w K mg base cv:=DefOk P w K mg base cv 2 "bound_pairs" ["seen", "fixed"] [.val,.val] .sh (wW)
theorem Qr (Z:Zt K mg cv ca) (T:jd K mg "bound_pairs" jn ["seen", "fixed"]) (o:Qa P w K mg base cv):yt P w K mg base cv:=
 qL (k:=1) (own':=[]) (fb:=wV) T sc_bound_pairs λcdv f A outer s H E h=>(qg (qN (i:=2) sc_bound_pairs.nd rfl (fj rfl) (vr 0))
  (qg (uR (N:=["pair", "kept", "fixed"]) (nt:=1) (cap:=[2,1]) sc_bound_pairs.nd (i:=3) rfl (aA rfl) rfl (vp (names:=(qe jn).names) rfl (by decide +kernel)) (jJ (names:=(qe jn).names) (N:=kq) rfl rfl (by decide +kernel)) (qQ rfl (vr 2)) (λfp L s1 H1=>(qA (i:=0) (show bc (["pair", "kept", "fixed"]:List Str) from by decide +kernel) rfl (aA rfl))) (λfp L s1 H1=>(Wj (jj (je rfl (qo o h (by decide) yY rfl (qb (vr 0) (qb (vr 1) (qb (vr 2) ql)))) (λ_=>rfl))))) (λfp L s1 H1=>(vr 0)))
  (jV [3] (qg (gf 20 aN (qM Xb (qE (jH rfl) rfl Z.z_len jz (vr 3)) (qE (jH rfl) rfl Z.z_len jz (vr 2)))
  (qg (qN (i:=2) sc_bound_pairs.nd rfl (fj rfl) (vr 3))
  (qg (uR (N:=["pair", "kept", "fixed"]) (nt:=1) (cap:=[2,1]) sc_bound_pairs.nd (i:=3) rfl (aA rfl) rfl (vp (names:=(qe jn).names) rfl (by decide +kernel)) (jJ (names:=(qe jn).names) (N:=kq) rfl rfl (by decide +kernel)) (qQ rfl (vr 2)) (λfp L s1 H1=>(qA (i:=0) (show bc (["pair", "kept", "fixed"]:List Str) from by decide +kernel) rfl (aA rfl))) (λfp L s1 H1=>(Wj (jj (je rfl (qo o h (by decide) yY rfl (qb (vr 0) (qb (vr 1) (qb (vr 2) ql)))) (λ_=>rfl))))) (λfp L s1 H1=>(vr 0)))
  (jV [3] qK))))
  (qm (qp (vr 2)))))))
abbrev yb:Stmt:=top 40
abbrev xN:List Str:=["one", "two", "first", "second", "letter"]
theorem sc_unshared:FnScope xN ["one", "two"] (qe yb):=fsc
noncomputable def xO:Sl->Out (Fl×Sl):=(qT (jO 2 (d1 qdJ (qd 0)))
  (qT (jO 3 (gb qG))
  (qT (zu (jy (qd 1)) (gNm 4)
  (sIf (qP (d2 inA (qd 4) (qd 2))) (vj (xY 2 qd2 (qd 4))) (vj (xY 3 Wp (qd 4)))))
  (jt (zq (qc (qd 2) (qc (qd 3) qG)))))))
noncomputable abbrev kz:List D->Out (D×List D):=kr xN [.val,.val] (xO)
abbrev Qb P w K mg base cv:=DefOk P w K mg base cv 1 "unshared" ["one", "two"] [.val,.val] .sh (kz)
theorem Ua (Z:Zt K mg cv ca) (T:jd K mg "unshared" yb ["one", "two"]):Qb P w K mg base cv:=
 qL (k:=0) (own':=[]) (fb:=xO) T sc_unshared λcdv f A outer s H E h=>(qg (kj (i:=2) sc_unshared.nd rfl (aA rfl) (kl (qdK rfl) rfl Z.z_list WG (vr 0)))
  (qg (kj (i:=3) sc_unshared.nd rfl (aA rfl) (kP ql))
  (qg (jS aN rfl (qQ rfl (vr 1)) (qA (i:=4) sc_unshared.nd rfl (aA rfl))
  (qm (qW (qM (UZ rfl h.units) (vr 4) (yx (i:=2) rfl (aA rfl) (by decide))) (qm (jF (GC (i:=2) rfl (aA rfl) (by decide) (vr 4)))) (qm (jF (yW (i:=3) rfl rfl (aA rfl) (by decide) (vr 4)))))))
  (jV [2,3] (qm (qp (wt (qb (vr 2) (qb (vr 3) ql)))))))))
abbrev jD:Stmt:=top 41
abbrev wj:List Str:=["seen", "found", "later", "pair"]
theorem sc_contrasts_of:FnScope wj ["seen"] (qe jD):=fsc
noncomputable def wk:Sl->Out (Fl×Sl):=(qT (jO 1 (gb qG))
  (qT (zu (GA (qd 0)) (wc 2 (qU (gNm 2) (qU (gNm 3) wb)))
  (vj (xY 1 Wq (qY [1] 1 [3] (jy (jX (qd 0) iD (iB (qd 2)))) (gNm 0) ftT (qw [.vl,.vl] kz (qc (qd 0) (qc (qd 1) qG)))))))
  (jt (qd 1))))
noncomputable abbrev wl:List D->Out (D×List D):=kr wj [.val] (wk)
abbrev uF P w K mg base cv:=DefOk P w K mg base cv 2 "contrasts_of" ["seen"] [.val] .sh (wl)
theorem Qc (Z:Zt K mg cv ca) (T:jd K mg "contrasts_of" jD ["seen"]) (o:Qb P w K mg base cv):uF P w K mg base cv:=
 qL (k:=1) (own':=[]) (fb:=wk) T sc_contrasts_of λcdv f A outer s H E h=>(qg (kj (i:=1) sc_contrasts_of.nd rfl (aA rfl) (kP ql))
  (qg (jS aN rfl (Ye rfl rfl Z.z_enumerate (vr 0)) (Je rfl rfl (kE (qA (i:=2) sc_contrasts_of.nd rfl (aA rfl)) (kE (qA (i:=3) sc_contrasts_of.nd rfl (fj rfl)) zE)))
  (qm (jF (yX (i:=1) rfl (aA rfl) (by decide) (jI (N:=["ahead", "pair"]) (nt:=1) (cap:=[3]) rfl (vp (names:=(qe jD).names) rfl (by decide +kernel)) (jJ (names:=(qe jD).names) (N:=wj) rfl rfl (by decide +kernel)) (qQ rfl (gH rfl (vr 0) wI (vF (vr 2)))) (λfp L s1 H1=>(qA (i:=0) (show bc (["ahead", "pair"]:List Str) from by decide +kernel) rfl (aA rfl))) (λfp L s1 H1=>qZ) (λfp L s1 H1=>(qo o h (by decide) yY rfl (qb (vr 0) (qb (vr 1) ql)))))))))
  (jV [1] (qm (qp (vr 1))))))
abbrev jc:Stmt:=top 42
abbrev kf:List Str:=["contrast", "room", "fixed", "first", "second"]
theorem sc_may_differ:FnScope kf ["contrast", "room", "fixed"] (qe jc):=fsc
noncomputable def uG:Sl->Out (Fl×Sl):=(qT (jO 3 (d2 ixD (qd 0) (dC (.int 0))))
  (qT (jO 4 (d2 ixD (qd 0) (dC (.int 1))))
  (qT (sIf (yP (yl (d1 UN (qY [] 1 [2] (jy (d2 kK (qd 3) (qd 4))) (gNm 0) ftT (d2 inA (qd 0) (qd 1)))))) (jt (dC (.bl iH))) jf)
  (jt (d2 neD (d2 UA (d2 Wg (d1 Jp (qY [] 1 [2] (jy (qd 3)) (gNm 0) ftT (d2 ixD (qd 1) (qd 0)))) (d1 Jp (qY [] 1 [2] (jy (qd 4)) (gNm 0) ftT (d2 ixD (qd 1) (qd 0))))) (qd 1)) (dC (.int 0)))))))
noncomputable abbrev kG:List D->Out (D×List D):=kr kf [.val,.val,.val] (uG)
abbrev wX P w K mg base cv:=DefOk P w K mg base cv 1 "may_differ" ["contrast", "room", "fixed"] [.val,.val,.val] .sh (kG)
theorem JQ (Z:Zt K mg cv ca) (T:jd K mg "may_differ" jc ["contrast", "room", "fixed"]):wX P w K mg base cv:=
 qL (k:=0) (own':=[]) (fb:=uG) T sc_may_differ λcdv f A outer s H E h=>(qg (qN (i:=3) sc_may_differ.nd rfl (aA rfl) (jQ rfl h.units (vr 0) qu (λ_ _=>rfl)))
  (qg (qN (i:=4) sc_may_differ.nd rfl (aA rfl) (jQ rfl h.units (vr 0) qu (λ_ _=>rfl)))
  (qg (qW (jj (je rfl (qE (gj rfl rfl) rfl Z.z_all gJ (jI (N:=["letter", "fixed"]) (nt:=1) (cap:=[2]) rfl (vp (names:=(qe jc).names) rfl (by decide +kernel)) (jJ (names:=(qe jc).names) (N:=kf) rfl rfl (by decide +kernel)) (qQ rfl (jx (jY rfl) (vr 3) (vr 4))) (λfp L s1 H1=>(qA (i:=0) (show bc (["letter", "fixed"]:List Str) from by decide +kernel) rfl (aA rfl))) (λfp L s1 H1=>qZ) (λfp L s1 H1=>(yk (UZ rfl h.units) (vr 0) (vr 1))))) (λ_=>rfl))) (qm (qp vh)) qK)
  (qm (qp (yk (Ky rfl h.units) (jx Qw (jx xV (qE (WE rfl rfl) rfl Z.z_sum GO (jI (N:=["letter", "fixed"]) (nt:=1) (cap:=[2]) rfl (vp (names:=(qe jc).names) rfl (by decide +kernel)) (jJ (names:=(qe jc).names) (N:=kf) rfl rfl (by decide +kernel)) (qQ rfl (vr 3)) (λfp L s1 H1=>(qA (i:=0) (show bc (["letter", "fixed"]:List Str) from by decide +kernel) rfl (aA rfl))) (λfp L s1 H1=>qZ) (λfp L s1 H1=>(jQ rfl h.units (vr 1) (vr 0) (λ_ _=>rfl))))) (qE (WE rfl rfl) rfl Z.z_sum GO (jI (N:=["letter", "fixed"]) (nt:=1) (cap:=[2]) rfl (vp (names:=(qe jc).names) rfl (by decide +kernel)) (jJ (names:=(qe jc).names) (N:=kf) rfl rfl (by decide +kernel)) (qQ rfl (vr 4)) (λfp L s1 H1=>(qA (i:=0) (show bc (["letter", "fixed"]:List Str) from by decide +kernel) rfl (aA rfl))) (λfp L s1 H1=>qZ) (λfp L s1 H1=>(jQ rfl h.units (vr 1) (vr 0) (λ_ _=>rfl)))))) (vr 1)) qu))))))
abbrev vP:Stmt:=top 43
abbrev zj:List Str:=["fixed", "letter", "worth", "more"]
theorem sc_with_worth:FnScope zj ["fixed", "letter", "worth"] (qe vP):=fsc
noncomputable def uH:Sl->Out (Fl×Sl):=(qT (jO 3 (d1 Vk (qd 0)))
  (qT (Vi 3 (qd 2) (qd 1))
  (jt (qd 3))))
noncomputable abbrev vQ:List D->Out (D×List D):=kr zj [.val,.val,.val] (uH)
abbrev wY P w K mg base cv:=DefOk P w K mg base cv 1 "with_worth" ["fixed", "letter", "worth"] [.val,.val,.val] .sh (vQ)
theorem JR (Z:Zt K mg cv ca) (T:jd K mg "with_worth" vP ["fixed", "letter", "worth"]):wY P w K mg base cv:=
 qL (k:=0) (own':=[]) (fb:=uH) T sc_with_worth λcdv f A outer s H E h=>(qg (kj (i:=3) sc_with_worth.nd rfl (aA rfl) (kl (Yj rfl) rfl Z.z_dict Js (vr 0)))
  (qg (Jo (n:=3) h.units rfl (aA rfl) (by decide) (vr 2) (vr 1))
  (jV [3] (qm (qp (vr 3))))))
abbrev jh:Stmt:=top 44
abbrev jv:List Str:=["contrasts", "room", "fixed", "letters", "choices", "worth"]
theorem sc_can_be_filled:FnScope jv ["contrasts", "room", "fixed", "letters"] (qe jh):=fsc
noncomputable def jw (gr:List D->Out (D×List D)):Sl->Out (Fl×Sl):=(qT (sIf (yP (yl (d1 UN (qY [] 1 [1,2] (jy (qd 0)) (gNm 0) ftT (qw [.vl,.vl,.vl] kG (qc (qd 0) (qc (qd 1) (qc (qd 2) qG)))))))) (jt (dC (.bl iF))) jf)
  (qT (sIf (qP (d2 eqD (d1 jN (qd 3)) (dC (.int 0)))) (jt (dC (.bl iH))) jf)
  (qT (jO 4 (dIf (qP (d2 eqD (d1 jN (qd 2)) (dC (.int 0)))) (gb (qc (dC (.int 0)) qG)) (d1 uS (qd 1))))
  (qT (zu (jy (qd 4)) (gNm 5)
  (sIf (yl (qw [.vl,.vl,.vl,.vl] gr (qc (qd 0) (qc (qd 1) (qc (qw [.vl,.vl,.vl] vQ (qc (qd 2) (qc (d2 ixD (qd 3) (dC (.int 0))) (qc (qd 5) qG)))) (qc (jX (qd 3) (iB (dC (.int 1))) iD) qG)))))) (jt (dC (.bl iH))) jf))
  (jt (dC (.bl iF)))))))
noncomputable def qX:Nat->List D->Out (D×List D)
 | 0=>kr jv [.val,.val,.val,.val] qh2
 | n+1=>kr jv [.val,.val,.val,.val] (jw (qX n))
noncomputable abbrev uI:List D->Out (D×List D):=qX 14
abbrev ue P w K mg base cv:=DefOk P w K mg base cv 16 "can_be_filled" ["contrasts", "room", "fixed", "letters"] [.val,.val,.val,.val] .sh uI
theorem zx (Z:Zt K mg cv ca) (T:jd K mg "can_be_filled" jh ["contrasts", "room", "fixed", "letters"]) (a:wX P w K mg base cv) (B:wY P w K mg base cv) (n:Nat):DefOk P w K mg base cv (2+n) "can_be_filled" ["contrasts", "room", "fixed", "letters"] [.val,.val,.val,.val] .sh (qX n):=by
 induction n with
 | zero=>exact qL (k:=1) (own':=[]) (fb:=qh2) T sc_can_be_filled λcdv f A outer s H E h=>qdY
 | succ n o=>exact qL (k:=2+n) (own':=[]) (fb:=jw (qX n)) T sc_can_be_filled λcdv f A outer s H E h=>(qg (qW (jj (je rfl (qE (gj rfl rfl) rfl Z.z_all gJ (jI (N:=["contrast", "room", "fixed"]) (nt:=1) (cap:=[1,2]) rfl (vp (names:=(qe jh).names) rfl (by decide +kernel)) (jJ (names:=(qe jh).names) (N:=jv) rfl rfl (by decide +kernel)) (qQ rfl (vr 0)) (λfp L s1 H1=>(qA (i:=0) (show bc (["contrast", "room", "fixed"]:List Str) from by decide +kernel) rfl (aA rfl))) (λfp L s1 H1=>qZ) (λfp L s1 H1=>(qo a h (by omega) yY rfl (qb (vr 0) (qb (vr 1) (qb (vr 2) ql))))))) (λ_=>rfl))) (qm (qp vh)) qK)
  (qg (qW (qM (yO rfl h.units) (qE (jH rfl) rfl Z.z_len jz (vr 3)) qu) (qm (qp vh)) qK)
  (qg (qN (i:=4) sc_can_be_filled.nd rfl (aA rfl) (ZE (qM (yO rfl h.units) (qE (jH rfl) rfl Z.z_len jz (vr 2)) qu) (kP (qb qu ql)) (Xz rfl rfl Z.z_list WG rfl Z.z_range qbO (vr 1))))
  (qg (jS aN rfl (qQ rfl (vr 4)) (qA (i:=5) sc_can_be_filled.nd rfl (aA rfl))
  (qm (qW (je rfl (qo o h (by omega) qR rfl (qb (vr 0) (qb (vr 1) (qb (qo B h (by omega) qR rfl (qb (vr 2) (qb (jQ rfl h.units (vr 3) qu (λ_ _=>rfl)) (qb (vr 5) ql)))) (qb (gH rfl (vr 3) (vF qu) wI) ql))))) (λ_=>rfl)) (qm (qp vh)) qK)))
  (qm (qp vh))))))
theorem zy (Z:Zt K mg cv ca) (T:jd K mg "can_be_filled" jh ["contrasts", "room", "fixed", "letters"]) (a:wX P w K mg base cv) (B:wY P w K mg base cv):ue P w K mg base cv:=zx Z T a B 14
abbrev kg:Stmt:=top 45
abbrev vR:List Str:=["seen", "room", "fixed", "bound", "letters"]
theorem sc_can_differ:FnScope vR ["seen", "room", "fixed"] (qe kg):=fsc
noncomputable def vS:Sl->Out (Fl×Sl):=(qT (sIf (qP (d2 ltD (qd 1) (d1 jN (qd 0)))) (jt (dC (.bl iF))) jf)
  (qT (jO 3 (qw [.vl,.vl] wW (qc (qd 0) (qc (qd 2) qG))))
  (qT (jO 4 (qY [] 1 [2] (jy (qw [.vl] jb (qc (qd 3) qG))) (gNm 0) (qP (d2 UX (qd 0) (qd 1))) (qd 0)))
  (jt (qw [.vl,.vl,.vl,.vl] uI (qc (qw [.vl] wl (qc (qd 3) qG)) (qc (qd 1) (qc (qd 2) (qc (qd 4) qG)))))))))
noncomputable abbrev jo:List D->Out (D×List D):=kr vR [.val,.val,.val] (vS)
abbrev kX P w K mg base cv:=DefOk P w K mg base cv 17 "can_differ" ["seen", "room", "fixed"] [.val,.val,.val] .sh (jo)
theorem JS (Z:Zt K mg cv ca) (T:jd K mg "can_differ" kg ["seen", "room", "fixed"]) (a:kW P w K mg base cv) (O:yt P w K mg base cv) (b:uF P w K mg base cv) (o:ue P w K mg base cv):kX P w K mg base cv:=
 qL (k:=16) (own':=[]) (fb:=vS) T sc_can_differ λcdv f A outer s H E h=>(qg (qW (qM Xb (vr 1) (qE (jH rfl) rfl Z.z_len jz (vr 0))) (qm (qp vh)) qK)
  (qg (qN (i:=3) sc_can_differ.nd rfl (aA rfl) (qo O h (by decide) qR rfl (qb (vr 0) (qb (vr 2) ql))))
  (qg (uR (N:=["letter", "fixed"]) (nt:=1) (cap:=[2]) sc_can_differ.nd (i:=4) rfl (aA rfl) rfl (vp (names:=(qe kg).names) rfl (by decide +kernel)) (jJ (names:=(qe kg).names) (N:=vR) rfl rfl (by decide +kernel)) (qQ rfl (qo a h (by decide) qR rfl (qb (vr 3) ql))) (λfp L s1 H1=>(qA (i:=0) (show bc (["letter", "fixed"]:List Str) from by decide +kernel) rfl (aA rfl))) (λfp L s1 H1=>(Wj (qM (gp rfl h.units) (vr 0) (vr 1)))) (λfp L s1 H1=>(vr 0)))
  (jV [4] (qm (qp (qo o h (by decide) qR rfl (qb (qo b h (by decide) qR rfl (qb (vr 3) ql)) (qb (vr 1) (qb (vr 2) (qb (vr 4) ql)))))))))))
abbrev xn:Stmt:=top 43
abbrev xo:List Str:=["fixed", "letter", "worth", "more"]
theorem sc_with_worthL:FnScope xo ["fixed", "letter", "worth"] (qe xn):=fsc
noncomputable def wZ:Sl->Out (Fl×Sl):=(qT (jO 3 (d1 Vk (qd 0)))
  (qT (Vi 3 (qd 2) (qd 1))
  (jt (qd 3))))
noncomputable abbrev kY:List D->Out (D×List D):=kr xo [.io,.val,.val] (wZ)
abbrev yu P w K mg base cv:=DefOk P w K mg base cv 1 "with_worth" ["fixed", "letter", "worth"] [.io,.val,.val] .sh (kY)
theorem Qs (Z:Zt K mg cv ca) (T:jd K mg "with_worth" xn ["fixed", "letter", "worth"]):yu P w K mg base cv:=
 qL (k:=0) (own':=[0]) (fb:=wZ) T sc_with_worthL λcdv f A outer s H E h=>(qg (kj (i:=3) sc_with_worthL.nd rfl (aA rfl) (kl (Yj rfl) rfl Z.z_dict Js (yx (i:=0) rfl (aA rfl) (by decide))))
  (qg (Jo (n:=3) h.units rfl (aA rfl) (by decide) (vr 2) (vr 1))
  (jV [3] (qm (qp (vr 3))))))
abbrev kC:Stmt:=top 46
abbrev wm:List Str:=["seen", "room", "fixed", "letter", "worth"]
theorem sc_least_worths:FnScope wm ["seen", "room"] (qe kC):=fsc
noncomputable def wn:Sl->Out (Fl×Sl):=(qT (jO 2 (dC (.dct [])))
  (qT (zu (jy (qw [.vl] jb (qc (qd 0) qG))) (gNm 3)
  (qT (jO 4 (dC (.int 0)))
  (qT (jr (Xf (qP (d2 ltD (qd 4) (qd 1))) (yP (yl (qw [.vl,.vl,.vl] jo (qc (qd 0) (qc (qd 1) (qc (qw [.sl 2,.vl,.vl] kY (ug (qc (qd 3) (qc (qd 4) qG)))) qG)))))))
  (jO 4 (d2 kK (qd 4) (dC (.int 1)))) 102)
  (qT (sIf (qP (d2 eqD (qd 4) (qd 1))) (jt (dC .non)) jf)
  (Vi 2 (qd 4) (qd 3))))))
  (jt (d1 yn (d1 jC (qd 2))))))
noncomputable abbrev wo:List D->Out (D×List D):=kr wm [.val,.val] (wn)
abbrev uJ P w K mg base cv:=DefOk P w K mg base cv 18 "least_worths" ["seen", "room"] [.val,.val] .sh (wo)
theorem Qd (Z:Zt K mg cv ca) (T:jd K mg "least_worths" kC ["seen", "room"]) (a:kW P w K mg base cv) (Q:yu P w K mg base cv) (o:kX P w K mg base cv):uJ P w K mg base cv:=
 qL (k:=17) (own':=[]) (fb:=wn) T sc_least_worths λcdv f A outer s H E h=>(qg (kj (i:=2) sc_least_worths.nd rfl (aA rfl) Jb)
  (qg (jS aN rfl (qQ rfl (qo a h (by decide) qR rfl (qb (vr 0) ql))) (qA (i:=3) sc_least_worths.nd rfl (aA rfl))
  (qg (qN (i:=4) sc_least_worths.nd rfl (aA rfl) qu)
  (qg (gf 102 aN (PW.pt (xy (qM Xb (vr 4) (vr 1)) (ki (jj (je rfl (qo o h (by decide) qR rfl (qb (vr 0) (qb (vr 1) (qb (qo Q h (by decide) qR rfl (jP (i:=2) rfl (aA rfl) (by decide) (qb (vr 3) (qb (vr 4) ql)))) ql)))) (λ_=>rfl))))))
  (qm (qN (i:=4) sc_least_worths.nd rfl (aA rfl) (jx (jY rfl) (vr 4) qu))))
  (qg (qW (qM (yO rfl h.units) (vr 4) (vr 1)) (qm (qp vi)) qK)
  (qm (Jo (n:=2) h.units rfl (aA rfl) (by decide) (vr 4) (vr 3)))))))
  (qm (qp (kl (zG rfl) rfl Z.z_tuple vI (zc rfl rfl rfl Z.z_sorted wy (yx (i:=2) rfl (aA rfl) (by decide))))))))
abbrev vU:Stmt:=top 48
abbrev zk:List Str:=["words", "look", "room", "seen"]
theorem sc_one_to_one:FnScope zk ["words", "look", "room"] (qe vU):=fsc
noncomputable def kI:Sl->Out (Fl×Sl):=(qT (jO 3 (qw [.vl,.vl] xI (qc (qd 0) (qc (qd 1) qG))))
  (qT (vj (qw [.vl] vM (qc (qd 2) qG)))
  (jt (dIf (yl (qw [.vl,.vl,.vl] jo (qc (qd 3) (qc (qd 2) (qc (dC (.dct [])) qG))))) (qw [.vl,.vl] wo (qc (qd 3) (qc (qd 2) qG))) (dC .non)))))
noncomputable abbrev jL:List D->Out (D×List D):=kr zk [.val,.val,.val] (kI)
abbrev xp P w K mg base cv:=DefOk P w K mg base cv 19 "one_to_one" ["words", "look", "room"] [.val,.val,.val] .sh (jL)
theorem JT (Z:Zt K mg cv ca) (T:jd K mg "one_to_one" vU ["words", "look", "room"]) (o:wJ P w K mg base cv) (u:xi P w K mg base cv) (j:kX P w K mg base cv) (M:uJ P w K mg base cv):xp P w K mg base cv:=
 qL (k:=18) (own':=[]) (fb:=kI) T sc_one_to_one λcdv f A outer s H E h=>(qg (qN (i:=3) sc_one_to_one.nd rfl (aA rfl) (qo u h (by decide) qR rfl (qb (vr 0) (qb (vr 1) ql))))
  (qg (jF (qo o h (by decide) qR rfl (qb (vr 2) ql)))
  (qm (qp (ZE (je rfl (qo j h (by decide) qR rfl (qb (vr 3) (qb (vr 2) (qb Jb ql)))) (λ_=>rfl)) (qo M h (by decide) qR rfl (qb (vr 3) (qb (vr 2) ql))) vi)))))
abbrev ua:Stmt:=top 47
abbrev yF:List Str:=["seen", "room", "found"]
theorem sc_room_from:FnScope yF ["seen", "room"] (qe ua):=fsc
noncomputable def yG:Sl->Out (Fl×Sl):=(qT (jO 2 (qd 1))
  (qT (jr (yP (yl (qw [.vl,.vl,.vl] jo (qc (qd 0) (qc (qd 2) (qc (dC (.dct [])) qG))))))
  (jO 2 (d2 kK (qd 2) (dC (.int 1)))) 100)
  (jt (qd 2))))
noncomputable abbrev yH:List D->Out (D×List D):=kr yF [.val,.val] (yG)
abbrev zl P w K mg base cv:=DefOk P w K mg base cv 18 "room_from" ["seen", "room"] [.val,.val] .sh (yH)
theorem Vz (Z:Zt K mg cv ca) (T:jd K mg "room_from" ua ["seen", "room"]) (o:kX P w K mg base cv):zl P w K mg base cv:=
 qL (k:=17) (own':=[]) (fb:=yG) T sc_room_from λcdv f A outer s H E h=>(qg (qN (i:=2) sc_room_from.nd rfl (aA rfl) (vr 1))
  (qg (gf 100 aN (jj (je rfl (qo o h (by decide) qR rfl (qb (vr 0) (qb (vr 2) (qb Jb ql)))) (λ_=>rfl)))
  (qm (qN (i:=2) sc_room_from.nd rfl (aA rfl) (jx (jY rfl) (vr 2) qu))))
  (qm (qp (vr 2)))))
abbrev vV:Stmt:=top 49
abbrev zm:List Str:=["words", "look", "seen"]
theorem sc_least_room:FnScope zm ["words", "look"] (qe vV):=fsc
noncomputable def vW:Sl->Out (Fl×Sl):=(qT (jO 2 (qw [.vl,.vl] xI (qc (qd 0) (qc (qd 1) qG))))
  (qT (sIf (qP (d2 yi (qw [.vl] vf (qc (qd 2) qG)) (dC .non))) (vo "Never" (qc (dC (.str "two words are seen as the same two letters")) qG)) jf)
  (jt (qw [.vl,.vl] yH (qc (qd 2) (qc (d1 jN (qd 2)) qG))))))
noncomputable abbrev kh:List D->Out (D×List D):=kr zm [.val,.val] (vW)
abbrev xq P w K mg base cv:=DefOk P w K mg base cv 19 "least_room" ["words", "look"] [.val,.val] .sh (kh)
theorem JU (Z:Zt K mg cv ca) (T:jd K mg "least_room" vV ["words", "look"]) (u:xi P w K mg base cv) (a:yD P w K mg base cv) (o:zl P w K mg base cv):xq P w K mg base cv:=
 qL (k:=18) (own':=[]) (fb:=vW) T sc_least_room λcdv f A outer s H E h=>(qg (qN (i:=2) sc_least_room.nd rfl (aA rfl) (qo u h (by decide) qR rfl (qb (vr 0) (qb (vr 1) ql))))
  (qg (qW (qM Ja (qo a h (by decide) qR rfl (qb (vr 2) ql)) vi) (qm (wu rfl (QF rfl) rfl rfl (Z.mref "Never" (by decide +kernel)) (Z.xs.val "Never" (by decide +kernel)) (Z.xin "Never" (by decide +kernel)) (qb kO ql))) qK)
  (qm (qp (qo o h (by decide) qR rfl (qb (vr 2) (qb (qE (jH rfl) rfl Z.z_len jz (vr 2)) ql)))))))
abbrev zQ:Stmt:=top 61
abbrev Yt:List Str:=["_law_e", "_law_own"]
theorem sc_Lwhich:FnScope Yt ["_law_e"] (qe zQ):=fsc
noncomputable def zR (ca:Str->Addr):Sl->Out (Fl×Sl):=(qT (jO 1 (gb (qc (d1 (Kh (Xm ca CS "NoWords")) (qd 0)) (qc (d1 (Kh (Xm ca CS "NoLook")) (qd 0)) (qc (d1 (Kh (Xm ca CS "NoNumbers")) (qd 0)) (qc (d1 (Kh (Xm ca CS "NoRoom")) (qd 0)) qG))))))
  (qT (vj (xY 1 Wq (gb (qc (d1 (Kh (Xm ca CS "NoWord")) (qd 0)) (qc (d1 (Kh (Xm ca CS "NoWorths")) (qd 0)) (qc (d1 (Kh (Xm ca CS "Never")) (qd 0)) (qc (d1 (Kh (Xm ca CS "Full")) (qd 0)) qG)))))))
  (qT (vj (xY 1 Wp (d1 (Kh (Xm ca CS "Known")) (qd 0))))
  (qT (sIf (dOr (qP (d2 neD (d1 (KS iH) (qd 1)) (dC (.int 1)))) (yP (yl (d1 (Kh (qfU ca CS)) (qd 0))))) (jt (zq (qc (dC (.str "refused")) (qc (d1 qaN (dC (.int 1))) qG)))) jf)
  (jt (zq (qc (dC (.str "refused")) (qc (d1 (KU iH) (qd 1)) qG))))))))
noncomputable abbrev yc (ca:Str->Addr):List D->Out (D×List D):=kr Yt [.val] (zR ca)
abbrev VA (ca:Str->Addr) P w K mg base cv:=qhI P w K mg base cv 1 "_law_which" ["_law_e"] [.val] .sh (yc ca)
theorem qab (Z:Zt K mg cv ca) (T:jd K mg "_law_which" zQ ["_law_e"]):VA ca P w K mg base cv:=
 qhJ (k:=0) (own':=[]) (fb:=zR ca) T sc_Lwhich λcdv f A outer s H E h=>(qg (kj (i:=1) sc_Lwhich.nd rfl (aA rfl) (kP (qb (xa rfl Z.z_isinstance qC rfl (Z.mref "NoWords" (by decide +kernel)) (Z.xs.ans (by decide +kernel)) (vr 0)) (qb (xa rfl Z.z_isinstance qC rfl (Z.mref "NoLook" (by decide +kernel)) (Z.xs.ans (by decide +kernel)) (vr 0)) (qb (xa rfl Z.z_isinstance qC rfl (Z.mref "NoNumbers" (by decide +kernel)) (Z.xs.ans (by decide +kernel)) (vr 0)) (qb (xa rfl Z.z_isinstance qC rfl (Z.mref "NoRoom" (by decide +kernel)) (Z.xs.ans (by decide +kernel)) (vr 0)) ql))))))
  (qg (jF (yX (i:=1) rfl (aA rfl) (by decide) (kP (qb (xa rfl Z.z_isinstance qC rfl (Z.mref "NoWord" (by decide +kernel)) (Z.xs.ans (by decide +kernel)) (vr 0)) (qb (xa rfl Z.z_isinstance qC rfl (Z.mref "NoWorths" (by decide +kernel)) (Z.xs.ans (by decide +kernel)) (vr 0)) (qb (xa rfl Z.z_isinstance qC rfl (Z.mref "Never" (by decide +kernel)) (Z.xs.ans (by decide +kernel)) (vr 0)) (qb (xa rfl Z.z_isinstance qC rfl (Z.mref "Full" (by decide +kernel)) (Z.xs.ans (by decide +kernel)) (vr 0)) ql)))))))
  (qg (jF (yW (i:=1) rfl rfl (aA rfl) (by decide) (xa rfl Z.z_isinstance qC rfl (Z.mref "Known" (by decide +kernel)) (Z.xs.ans (by decide +kernel)) (vr 0))))
  (jV [1] (qg (qW (PW.pt (xW (qM (Ky rfl h.units) (qbn rfl (vr 1)) qu) (ki (jj (je rfl (qdO rfl Z.z_isinstance qC rfl Z.z_ValueError Jr Z.xs.ansV (vr 0)) (λ_=>rfl)))))) (qm (qp (wt (qb kO (qb (Xa QD qu) ql))))) qK)
  (qm (qp (wt (qb kO (qb (qbo rfl (vr 1)) ql))))))))))
abbrev Yu:Stmt:=top 62
abbrev qcH:List Str:=["_law_what", "_law_words_here", "_law_look_here", "_law_room", "_law_e"]
theorem sc_Lask:FnScope qcH ["_law_what", "_law_words_here", "_law_look_here", "_law_room"] (qe Yu):=fsc
noncomputable def QS (ca:Str->Addr):Sl->Out (Fl×Sl):=(qbf 5 (iB 4) (qfT ca CS) (jt (dIf (qP (d2 eqD (qd 0) (dC (.int 0)))) (qw [.vl,.vl,.vl] jL (qc (qd 1) (qc (qd 2) (qc (qd 3) qG)))) (qw [.vl,.vl] kh (qc (qd 1) (qc (qd 2) qG))))) (jt (qw [.vl] (yc ca) (qc (qd 4) qG))))
noncomputable abbrev vX (ca:Str->Addr):List D->Out (D×List D):=kr qcH [.val,.val,.val,.val] (QS ca)
abbrev qac (ca:Str->Addr) P w K mg base cv:=DefOk P w K mg base cv 20 "_law_ask" ["_law_what", "_law_words_here", "_law_look_here", "_law_room"] [.val,.val,.val,.val] .sh (vX ca)
theorem qd8 (Z:Zt K mg cv ca) (T:jd K mg "_law_ask" Yu ["_law_what", "_law_words_here", "_law_look_here", "_law_room"]) (o:xp P w K mg base cv) (R:xq P w K mg base cv) (a:VA ca P w K mg base cv):qac ca P w K mg base cv:=
 qL (k:=19) (own':=[]) (fb:=QS ca) T sc_Lask λcdv f A outer s H E h=>(qm (qdH (own2:=[]) (n:=5) (j:=4) rfl rfl rfl rfl Z.m_WordError Z.xs.hit sc_Lask.nd rfl rfl rfl (λpn xe E hx=>(qm (qp (ZE (qM (yO rfl h.units) (vr 0) qu) (qo o h (by decide) hx rfl (qb (vr 1) (qb (vr 2) (qb (vr 3) ql)))) (qo R h (by decide) hx rfl (qb (vr 1) (qb (vr 2) ql))))))) (λe=>(qm (qp (ZV a ((h.quiet.mono (by decide)).mark _) yY rfl (qb (vr 4) ql)))))))
abbrev yd:Stmt:=top 63
abbrev zS:List Str:=["_law_words_here", "_law_look_here", "_law_some", "_law_at"]
theorem sc_Lclash:FnScope zS ["_law_words_here", "_law_look_here"] (qe yd):=fsc
noncomputable def JV:Sl->Out (Fl×Sl):=(qT (jO 2 (qY [] 1 [] (jy (qw [.vl,.vl] ya (qc (qd 0) (qc (qd 1) qG)))) (gNm 0) ftT (d1 gF (qd 0))))
  (qT (zu (jB (d1 jN (qd 2))) (gNm 3)
  (sIf (qP (d2 inA (d2 ixD (qd 2) (qd 3)) (jX (qd 2) iD (iB (qd 3))))) (jt (zq (qc (dM qg4 QI (qd 2) (d2 ixD (qd 2) (qd 3))) (qc (qd 3) qG)))) jf))
  (jt (dC .non))))
noncomputable abbrev JW:List D->Out (D×List D):=kr zS [.val,.val] (JV)
abbrev VB P w K mg base cv:=DefOk P w K mg base cv 3 "_law_clash" ["_law_words_here", "_law_look_here"] [.val,.val] .sh (JW)
theorem qad (Z:Zt K mg cv ca) (T:jd K mg "_law_clash" yd ["_law_words_here", "_law_look_here"]) (o:xm P w K mg base cv):VB P w K mg base cv:=
 qL (k:=2) (own':=[]) (fb:=JV) T sc_Lclash λcdv f A outer s H E h=>(qg (uR (N:=["_law_pair"]) (nt:=1) (cap:=[]) sc_Lclash.nd (i:=2) rfl (aA rfl) rfl (vp (names:=(qe yd).names) rfl (by decide +kernel)) (jJ (names:=(qe yd).names) (N:=zS) rfl rfl (by decide +kernel)) (qQ rfl (qo o h (by decide) qR rfl (qb (vr 0) (qb (vr 1) ql)))) (λfp L s1 H1=>(qA (i:=0) (show bc (["_law_pair"]:List Str) from by decide +kernel) rfl (aA rfl))) (λfp L s1 H1=>qZ) (λfp L s1 H1=>(qE (Gu rfl) rfl Z.z_sorted wy (vr 0))))
  (jV [2] (qg (jS aN rfl (va rfl Z.z_range (qE (jH rfl) rfl Z.z_len jz (vr 2))) (qA (i:=3) sc_Lclash.nd rfl (aA rfl))
  (qm (qW (qM (UZ rfl h.units) (jQ rfl h.units (vr 2) (vr 3) (λ_ _=>rfl)) (gH rfl (vr 2) wI (vF (vr 3)))) (qm (qp (wt (qb (qbF c7 PySem.F.type_list_index (qbG rfl h.units) rfl (vr 2) (jQ rfl h.units (vr 2) (vr 3) (λ_ _=>rfl))) (qb (vr 3) ql))))) qK)))
  (qm (qp vi)))))
abbrev vY:Stmt:=top 64
abbrev xu:List Str:=["_law_words_here", "_law_look_here", "_law_room", "_law_some", "_law_letters", "_law_rows", "_law_k", "_law_line", "_law_longer", "_law_book", "_law_numbers"]
theorem sc_Lfirst:FnScope xu ["_law_words_here", "_law_look_here", "_law_room"] (qe vY):=fsc
noncomputable def JX:Sl->Out (Fl×Sl):=(qT (jO 3 (qw [.vl,.vl] ya (qc (qd 0) (qc (qd 1) qG))))
  (qT (jO 4 (qw [.vl,.vl] yE (qc (qd 0) (qc (qd 1) qG))))
  (qT (jO 5 (gb λρ=>.ok ([(.tup [])],ρ)))
  (qT (zu (jB (d1 jN (qd 4))) (gNm 6)
  (qT (jO 8 (gb qG))
  (qT (zu (jy (qd 5)) (gNm 7)
  (vj (xY 8 Wq (qY [8] 1 [7] (jB (qd 2)) (gNm 0) ftT (d2 kK (qd 1) (zq (qc (qd 0) qG)))))))
  (jO 5 (qd 8)))))
  (qT (zu (jy (qd 5)) (gNm 7)
  (qT (jO 9 (d1 Vj (d2 kS (qd 4) (qd 7))))
  (qT (jO 10 (qY [] 2 [2,9] (jy (qd 3)) (wc 2 (qU (gNm 0) (qU (gNm 1) wb))) ftT (d2 UA (d2 kK (d2 ixD (qd 3) (qd 0)) (d2 ixD (qd 3) (qd 1))) (qd 2))))
  (sIf (qP (d2 eqD (d1 jW (qd 10)) (d1 jN (qd 10)))) (jt (d1 yn (d1 jC (qd 9)))) jf))))
  (jt (dC .non)))))))
noncomputable abbrev ye:List D->Out (D×List D):=kr xu [.val,.val,.val] (JX)
abbrev VC P w K mg base cv:=DefOk P w K mg base cv 4 "_law_first" ["_law_words_here", "_law_look_here", "_law_room"] [.val,.val,.val] .sh (ye)
theorem qae (Z:Zt K mg cv ca) (T:jd K mg "_law_first" vY ["_law_words_here", "_law_look_here", "_law_room"]) (o:xm P w K mg base cv) (I:JP P w K mg base cv):VC P w K mg base cv:=
 qL (k:=3) (own':=[]) (fb:=JX) T sc_Lfirst λcdv f A outer s H E h=>(qg (qN (i:=3) sc_Lfirst.nd rfl (aA rfl) (qo o h (by decide) qR rfl (qb (vr 0) (qb (vr 1) ql))))
  (qg (qN (i:=4) sc_Lfirst.nd rfl (aA rfl) (qo I h (by decide) qR rfl (qb (vr 0) (qb (vr 1) ql))))
  (qg (qN (i:=5) sc_Lfirst.nd rfl (aA rfl) (qd1 7 rfl))
  (qg (jS aN rfl (va rfl Z.z_range (qE (jH rfl) rfl Z.z_len jz (vr 4))) (qA (i:=6) sc_Lfirst.nd rfl (aA rfl))
  (qg (kj (i:=8) sc_Lfirst.nd rfl (aA rfl) (kP ql))
  (qg (jS aN rfl (qQ rfl (vr 5)) (qA (i:=7) sc_Lfirst.nd rfl (fj rfl))
  (qm (jF (yX (i:=8) rfl (aA rfl) (by decide) (jI (N:=["_law_worth", "_law_line"]) (nt:=1) (cap:=[7]) rfl (vp (names:=(qe vY).names) rfl (by decide +kernel)) (jJ (names:=(qe vY).names) (N:=xu) rfl rfl (by decide +kernel)) (va rfl Z.z_range (vr 2)) (λfp L s1 H1=>(qA (i:=0) (show bc (["_law_worth", "_law_line"]:List Str) from by decide +kernel) rfl (aA rfl))) (λfp L s1 H1=>qZ) (λfp L s1 H1=>(jx (jY rfl) (vr 1) (wt (qb (vr 0) ql)))))))))
  (jV [8] (qm (qN (i:=5) sc_Lfirst.nd rfl (aA rfl) (vr 8)))))))
  (qg (jS aN rfl (qQ rfl (vr 5)) (qA (i:=7) sc_Lfirst.nd rfl (fj rfl))
  (qg (qN (i:=9) sc_Lfirst.nd rfl (fj rfl) (kl (qbJ rfl rfl) rfl Z.z_dict Js (XC rfl rfl rfl Z.z_list WG rfl Z.z_zip (vr 4) (vr 7))))
  (qg (uR (N:=["_law_one", "_law_other", "_law_room", "_law_book"]) (nt:=2) (cap:=[2,9]) sc_Lfirst.nd (i:=10) rfl (aA rfl) rfl (vp (names:=(qe vY).names) rfl (by decide +kernel)) (jJ (names:=(qe vY).names) (N:=xu) rfl rfl (by decide +kernel)) (qQ rfl (vr 3)) (λfp L s1 H1=>(Je rfl rfl (kE (qA (i:=0) (show bc (["_law_one", "_law_other", "_law_room", "_law_book"]:List Str) from by decide +kernel) rfl (aA rfl)) (kE (qA (i:=1) (show bc (["_law_one", "_law_other", "_law_room", "_law_book"]:List Str) from by decide +kernel) rfl (aA rfl)) zE)))) (λfp L s1 H1=>qZ) (λfp L s1 H1=>(jx Qw (jx (jY rfl) (jQ rfl h.units (vr 3) (vr 0) (λ_ _=>rfl)) (jQ rfl h.units (vr 3) (vr 1) (λ_ _=>rfl))) (vr 2))))
  (jV [10] (qm (qW (qM (yO rfl h.units) (QK rfl rfl rfl Z.z_len jz rfl Z.z_set QL (vr 10)) (qE (jH rfl) rfl Z.z_len jz (vr 10))) (qm (qp (kl (zG rfl) rfl Z.z_tuple vI (zc rfl rfl rfl Z.z_sorted wy (vr 9))))) qK))))))
  (qm (qp vi)))))))
abbrev qaf:Stmt:=top 65
abbrev qd9:List Str:=["_law_script", "_law_town", "_law_words_here", "_law_look_here", "_law_twins", "_law_least", "_law_room", "_law_found", "_law_many", "_law_letter_here"]
theorem sc_law:FnScope qd9 ["_law_script"] (qe qaf):=fsc
noncomputable def qea (ca:Str->Addr):Sl->Out (Fl×Sl):=(qT (jO 1 (gb qG))
  (qT (jO 2 (qw [.vl,.sl 1,.vl] JK (qc (qd 0) (ug (qc (dC (.int 6)) qG)))))
  (qT (jO 3 (qw [.vl,.sl 1] WX (qc (qd 0) (ug qG))))
  (qT (jO 4 (qw [.vl,.vl] JW (qc (qd 2) (qc (qd 3) qG))))
  (qT (sIf (qP (d2 neD (qw [.vl,.vl] WQ (qc (qd 2) (qc (qd 3) qG))) (qd 4))) (jt (dC (.bl iF))) jf)
  (qT (sIf (qP (d2 neD (qw [.vl,.vl,.vl,.vl] (vX ca) (qc (dC (.int 0)) (qc (qd 2) (qc (qd 3) (qc (qw [.vl,.sl 1,.vl] gZ (qc (qd 0) (ug (qc (gb (qc (dC (.int 0)) (qc (dC (.int 100)) (qc (d1 qaN (dC (.int 1))) (qc (dC .non) (qc (dC (.bl iH)) (qc (dC (.str "1")) qG))))))) qG)))) qG))))) (zq (qc (dC (.str "refused")) (qc (dC (.int 3)) qG))))) (jt (dC (.bl iF))) jf)
  (qT (sIf (qP (d2 yi (qd 4) (dC .non))) (jt (KA (d2 eqD (qw [.vl,.vl,.vl,.vl] (vX ca) (qc (dC (.int 1)) (qc (qd 2) (qc (qd 3) (qc (dC .non) qG))))) (zq (qc (dC (.str "refused")) (qc (dC (.int 6)) qG)))) (d2 qdu (qw [.vl,.vl,.vl,.vl] (vX ca) (qc (dC (.int 0)) (qc (qd 2) (qc (qd 3) (qc (dC (.int 99)) qG))))) (dC .non)))) jf)
  (qT (jO 5 (qw [.vl,.vl,.vl,.vl] (vX ca) (qc (dC (.int 1)) (qc (qd 2) (qc (qd 3) (qc (dC .non) qG))))))
  (qT (sIf (yP (qP (ym leD ltD (d1 jN (qd 2)) (qd 5) (dC (.int 99))))) (jt (dC (.bl iF))) jf)
  (qT (zu (Jm (dC (.int 1)) (d2 kK (qd 5) (dC (.int 2)))) (gNm 6)
  (qT (jO 7 (qw [.vl,.vl,.vl,.vl] (vX ca) (qc (dC (.int 0)) (qc (qd 2) (qc (qd 3) (qc (qd 6) qG))))))
  (qT (sIf (dOr (Xf (qP (d2 ltD (qd 6) (qd 5))) (qP (d2 yi (qd 7) (dC .non)))) (Xf (qP (d2 eqD (qd 6) (qd 5))) (qP (d2 qdu (qd 7) (dC .non))))) (jt (dC (.bl iF))) jf)
  (qT (sIf (Xf (qP (d2 yi (qd 7) (dC .non))) (qP (d2 neD (d1 jW (qw [.vl,.vl,.vl,.vl] ky (qc (qd 2) (qc (qd 3) (qc (qd 6) (qc (qd 7) qG)))))) (d1 jN (qd 2))))) (jt (dC (.bl iF))) jf)
  (qT (jO 8 (dC (.int 1)))
  (qT (zu (jy (qw [.vl,.vl] yE (qc (qd 2) (qc (qd 3) qG)))) (gNm 9)
  (jO 8 (d2 XT (qd 8) (qd 6))))
  (sIf (Xf (qP (d2 leD (qd 8) (dC (.int 1100)))) (qP (d2 neD (qd 7) (qw [.vl,.vl,.vl] ye (qc (qd 2) (qc (qd 3) (qc (qd 6) qG))))))) (jt (dC (.bl iF))) jf)))))))
  (jt (dC (.bl iH)))))))))))))
noncomputable abbrev qb1 (ca:Str->Addr):List D->Out (D×List D):=kr qd9 [.val] (qea ca)
theorem qgc {f:Addr} {fd:j6} (Z:Zt K mg cv ca) (F:Fun K "law" "law" qaf f fd) (Y:gW P w K mg base cv) (O:Yo P w K mg base cv) (C:zN P w K mg base cv) (c:Vw P w K mg base cv) (a:Ys P w K mg base cv) (I:JP P w K mg base cv) (o:qac ca P w K mg base cv) (d:VB P w K mg base cv) (b:VC P w K mg base cv):FnOk P w K mg base (CXk P w) 21 f fd ["_law_script"] (spD K cv [.val] .sh (qb1 ca)):=
 qis (k:=20) (own':=[]) (fb:=qea ca) F sc_law rfl (um rfl) (.inl rfl) (λcdv A outer s H E h=>(qg (kj (i:=1) sc_law.nd rfl (aA rfl) (kP ql))
  (qg (qN (i:=2) sc_law.nd rfl (aA rfl) (qo c h (by decide) qR rfl (qb (vr 0) (jP (i:=1) rfl (aA rfl) (by decide) (qb qu ql)))))
  (qg (qN (i:=3) sc_law.nd rfl (aA rfl) (qo a h (by decide) qR rfl (qb (vr 0) (jP (i:=1) rfl (aA rfl) (by decide) ql))))
  (qg (qN (i:=4) sc_law.nd rfl (aA rfl) (qo d h (by decide) qR rfl (qb (vr 2) (qb (vr 3) ql))))
  (qg (qW (qM (Ky rfl h.units) (qo O h (by decide) qR rfl (qb (vr 2) (qb (vr 3) ql))) (vr 4)) (qm (qp vh)) qK)
  (qg (qW (qM (Ky rfl h.units) (qo o h (by decide) qR rfl (qb qu (qb (vr 2) (qb (vr 3) (qb (qo C h (by decide) qR rfl (qb (vr 0) (jP (i:=1) rfl (aA rfl) (by decide) (qb (kP (qb qu (qb qu (qb (Xa QD qu) (qb vi (qb vh (qb kO ql))))))) ql)))) ql))))) (wt (qb kO (qb qu ql)))) (qm (qp vh)) qK)
  (qg (qW (qM Ja (vr 4) vi) (qm (qp (KC (yk (yO rfl h.units) (qo o h (by decide) qR rfl (qb qu (qb (vr 2) (qb (vr 3) (qb vi ql))))) (wt (qb kO (qb qu ql)))) (KB (yk qcs (qo o h (by decide) qR rfl (qb qu (qb (vr 2) (qb (vr 3) (qb qu ql))))) vi))))) qK)
  (qg (qN (i:=5) sc_law.nd rfl (aA rfl) (qo o h (by decide) qR rfl (qb qu (qb (vr 2) (qb (vr 3) (qb vi ql))))))
  (qg (qW (jj (zZ Qk Xb (qE (jH rfl) rfl Z.z_len jz (vr 2)) (vr 5) qu)) (qm (qp vh)) qK)
  (qg (jS aN rfl (Xy rfl Z.z_range qu (jx (jY rfl) (vr 5) qu)) (qA (i:=6) sc_law.nd rfl (aA rfl))
  (qg (qN (i:=7) sc_law.nd rfl (aA rfl) (qo o h (by decide) qR rfl (qb qu (qb (vr 2) (qb (vr 3) (qb (vr 6) ql))))))
  (qg (qW (PW.pt (xW (PW.pt (xy (qM Xb (vr 6) (vr 5)) (ki (qM Ja (vr 7) vi)))) (ki (PW.pt (xy (qM (yO rfl h.units) (vr 6) (vr 5)) (ki (qM qcs (vr 7) vi))))))) (qm (qp vh)) qK)
  (qg (qW (PW.pt (xy (qM Ja (vr 7) vi) (ki (qM (Ky rfl h.units) (QK rfl rfl rfl Z.z_len jz rfl Z.z_set QL (qo Y h (by decide) qR rfl (qb (vr 2) (qb (vr 3) (qb (vr 6) (qb (vr 7) ql)))))) (qE (jH rfl) rfl Z.z_len jz (vr 2)))))) (qm (qp vh)) qK)
  (qg (qN (i:=8) sc_law.nd rfl (aA rfl) qu)
  (qg (jS aN rfl (qQ rfl (qo I h (by decide) qR rfl (qb (vr 2) (qb (vr 3) ql)))) (qA (i:=9) sc_law.nd rfl (aA rfl))
  (qm (qN (i:=8) sc_law.nd rfl (aA rfl) (jx Qv (vr 8) (vr 6)))))
  (qm (qW (PW.pt (xy (qM Qk (vr 8) qu) (ki (qM (Ky rfl h.units) (vr 7) (qo b h (by decide) qR rfl (qb (vr 2) (qb (vr 3) (qb (vr 6) ql)))))))) (qm (qp vh)) qK))))))))
  (qm (qp vh))))))))))))) λ_=>.inr rfl
end
end Kx
namespace Kx
open PySem PySem.Spec L2 L2.D2
variable {α:Type}
theorem wa (xs:List α) (k:Nat):atI xs (k:Int)=xs[k]?:=by
 unfold atI ixN;rw [if_pos (by omega)];by_cases h:k < xs.length;·rw [if_pos (by omega)];simp
 ·rw [if_neg (by omega),bK (by omega)];rfl
theorem qcI {xs:List α} {i:Int} (h0:0<=i) (h1:i < xs.length):∃ d,atI xs i=iB d/\d∈xs:=by
 obtain ⟨k,rfl⟩:=Int.eq_ofNat_of_zero_le h0;have h:k < xs.length:=by omega
 exact ⟨xs[k],by rw [wa,ay h],cr h⟩
theorem big:2000<=sizeLine:=by rw [iL]; decide
abbrev scr (ns:List Int):D:=.lst (ns.map .int)
theorem qeb (ns:List Int) (k:Nat):∃ i,xK [scr ns,.int k]=.ok (.int i,[.non,.non]):=by
 by_cases h:k < ns.length;·refine ⟨ns[k],?_⟩;refine runD_ap.trans ?_;simp [wB,qx,jN,ltD,ixD,qv,h,wa]
 ·by_cases h0:ns=[]
  ·subst h0;have a:¬((k:Int) < 0):=by omega
   exact ⟨0,by refine runD_ap.trans ?_; simp [wB,qx,jN,ltD,ixD,qv,eqD,eqN,vC,a]⟩
  ·have hp:0 < ns.length:=List.length_pos_iff.mpr h0;have c:k % ns.length < ns.length:=Nat.mod_lt _ hp;have e:atI (ns.map D.int) ((k:Int) % (ns.length:Int))=iB (.int ns[k % ns.length]):=by rw [show ((k:Int) % (ns.length:Int))=((k % ns.length:Nat):Int) by simp,wa,aE,ay c];rfl
   refine ⟨ns[k % ns.length] * 31+k,?_⟩;refine runD_ap.trans ?_;simp [wB,qx,jN,ltD,ixD,qv,eqD,eqN,h,h0,UA,XT,kK,Kf,hp,e,CMul]
variable {many:Int}
theorem qb2 (ns:List Int) (k:Nat) (h:0 < many):∃ r,0<=r/\r < many/\JE [scr ns,.int k,.int many]=.ok (.int r,[.non,.non,.non]):=by obtain ⟨c,a⟩:=qeb ns k;have h1:=d9 ((c+7919 * k+1) * 48271) (show (2147483647:Int)≠0 by decide);have h2:=dn ((c+7919 * k+1) * 48271) (show (0:Int) < 2147483647 by decide);generalize hd:(c+7919 * (k:Int)+1) * 48271 % 2147483647=d at h1 h2;have b:CMul d d:=.inl ⟨by omega,by omega⟩;refine ⟨(d * d+7 * d+k) % 2147483629 % many,d9 _ (by omega),dn _ h,?_⟩;refine runD_ap.trans ?_;simp [JD,qx,qv,qD,jq,a,XT,UA,kK,Kf,h,hd,b,show ∀ j,CMul 7919 j from λj=>.inl ⟨by omega,by omega⟩,show ∀ j,CMul 7 j from λj=>.inl ⟨by omega,by omega⟩,show ∀ i,CMul i 48271 from λi=>.inr ⟨by omega,by omega⟩]
theorem xP (ns:List Int) (t:List D) (c:0 < many) (l:t.length < 1000):∃ r,0<=r/\r < many/\wU [scr ns,.lst t,.int many]=.ok (.int r,[.non,.lst (t++[.int 0]),.non]):=by obtain ⟨r,h0,h1,h⟩:=qb2 ns (t.length+1) c;have hl:t.length < sizeLine:=aH (eU l (by decide)) big;refine ⟨r,h0,h1,?_⟩;simp at h;refine runD_ap.trans ?_;simp [WT,qx,qv,qD,jq,yA,Wp,jN,hl,h]
theorem Ub (ns:List Int) (t xs:List D) (hx:xs≠[]) (l:t.length < 1000):∃ d,d∈xs/\gZ [scr ns,.lst t,.lst xs]=.ok (d,[.non,.lst (t++[.int 0]),.non]):=by have hp:0 < xs.length:=List.length_pos_iff.mpr hx;obtain ⟨r,h0,h1,h⟩:=xP ns t (many:=(xs.length:Int)) (by omega) l;obtain ⟨d,e,hd⟩:=qcI (xs:=xs) h0 h1;refine ⟨d,hd,?_⟩;refine runD_ap.trans ?_;simp [WU,qx,qv,qD,jq,jN,h,ixD,e]
def az (c:Nat):Prop:=97<=c/\c<=122
def qb3 (w:Str):Prop:=1<=w.length/\w.length<=6/\∀ c∈w.cps.toList,az c
theorem wp (x:Str):x.length=x.cps.size:=rfl
theorem Uc (x y:Str):(x++y).cps=x.cps++y.cps:=rfl
theorem wD:∀ ws:List Str,xB (ws.map D.str)=iB ws
 | []=>rfl
 | w::ws=>by simp [xB,wD ws]
theorem uK (w:Str):∀ ws:List Str,zp 7 (.str w) (ws.map D.str)=iB (decide (w∈ws))
 | []=>by simp [zp]
 | a::ws=>by
  have j:=uK w ws;simp only [aF,zp,j];simp [eqN,eqS];by_cases h:a=w;·simp [h]
  ·simp [h,ba h]
def jM (ws:List Str):Prop:=1<=ws.length/\ws.length<=6/\ws.Nodup/\∀ w∈ws,qb3 w
theorem qec:(aQ "abcdefghijklmnopqrstuvwxyz").cps.toList.length=26:=by decide +kernel
theorem qgd:∀ c∈(aQ "abcdefghijklmnopqrstuvwxyz").cps.toList,az c:=by unfold az;decide +kernel
abbrev qge:Sl->Out (Fl×Sl):=(jO 3 (d2 kK (qd 3) (d2 ixD (dC (.str "abcdefghijklmnopqrstuvwxyz")) (qw [.vl,.sl 1,.vl] wU (qc (qd 0) (ug (qc (qd 2) qG)))))))
variable {few:Int}
theorem VE (ns:List Int) (h0:0 < few) (h1:few<=26):∀ (ds:List D) (t:List D) (w:Str) (k:Option D),t.length+ds.length < 1000->w.length+ds.length<=100->(∀ c∈w.cps.toList,az c) ->∃ a w' k',a.length=t.length+ds.length/\w'.length=w.length+ds.length/\(∀ c∈w'.cps.toList,az c)/\jR (gNm 4) qge ds [iB (scr ns),iB (.lst t),iB (.int few),iB (.str w),k]=.ok (.nx,[iB (scr ns),iB (.lst a),iB (.int few),iB (.str w'),k'])
 | [],t,w,k,_,_,hw=>⟨t,w,k,rfl,rfl,hw,rfl⟩
 | d::ds,t,w,k,ht,hl,hw=>by
  rw [ao] at ht hl;obtain ⟨r,r0,r1,f⟩:=xP ns t (many:=few) h0 (by omega);obtain ⟨c,b,h⟩:=qcI (xs:=(aQ "abcdefghijklmnopqrstuvwxyz").cps.toList) (i:=r) r0 (by rw [qec]; omega);obtain ⟨a,w',k',p,o,z,q⟩:=VE ns h0 h1 ds (t++[.int 0]) (w++⟨#[c]⟩) (iB d) (by rw [aj]; simp; omega) (by rw [wp,Uc,Array.size_append]; rw [wp] at hl; simp; omega) (λx hx=>by
   rw [Uc,Array.toList_append,aI] at hx;rcases hx with hx | hx;·exact hw x hx
   ·simp at hx;rw [hx];exact qgd c h)
  refine ⟨a,w',k',?_,?_,z,?_⟩;·rw [p,aj,ao];simp;omega
  ·rw [o,wp,Uc,Array.size_append,<-wp,ao];simp;omega
  ·have hz:w.length+g7 ⟨#[c]⟩<=sizeLine:=by have:=big;simp [wp] at hl ⊢;omega
   rw [<-q];simp [jR,qge,qD,jq,f,ixD,b,kK,hz]
theorem qed (ns:List Int) (t:List D) (h0:0 < few) (h1:few<=26) (l:t.length < 900):∃ w a,qb3 w/\a.length<=t.length+8/\JI [scr ns,.lst t,.int few]=.ok (.str w,[.non,.lst a,.non]):=by
 obtain ⟨d,hd,hp⟩:=Ub ns t [.int 2,.int 3,.int 6] (by simp) (by omega);obtain ⟨m,rfl,m0,m1⟩:∃ m:Int,d=.int m/\0 < m/\m<=6:=by
  simp at hd;rcases hd with rfl | rfl | rfl;·exact ⟨2,rfl,by omega,by omega⟩
  ·exact ⟨3,rfl,by omega,by omega⟩
  ·exact ⟨6,rfl,by omega,by omega⟩
 obtain ⟨r,r0,r1,f⟩:=xP ns (t++[.int 0]) (many:=m) m0 (by rw [aj]; simp; omega);have n:(ge 0 (1+r).toNat).length=(1+r).toNat:=by simp [ge]
 have e:g7 (aQ "")=0:=by decide +kernel
 obtain ⟨a,w',k',p,o,z,q⟩:=VE ns h0 h1 (ge 0 (1+r).toNat) (t++[.int 0]++[.int 0]) "" iD (by rw [n,aj,aj]; simp; omega) (by rw [n,e]; omega) (by
  have:(aQ "").cps.toList=[]:=by decide +kernel
  rw [this];intro c h;cases h)
 refine ⟨w',a,⟨?_,?_,z⟩,?_,?_⟩;·rw [o,e,n];omega
 ·rw [o,e,n];omega
 ·rw [p,n,aj,aj];simp;omega
 ·refine runD_ap.trans ?_;have k:-(2 ^ 62:Int)<=1+r/\1+r < 2 ^ 62:=by omega
  have b:=big;have hz:3<=sizeLine:=by omega
  simp only [bB,g0,bM] at q f;simp [WV,qx,qv,qD,jq,hp,f,jB,kK,-Int.reducePow,k,hz,q]
abbrev qag:Sl->Out (Fl×Sl):=(qT (jO 6 (qw [.vl,.sl 1,.vl] JI (qc (qd 0) (ug (qc (qd 3) qG)))))
  (sIf (qP (d2 UX (qd 6) (qd 4))) (vj (xY 4 Wp (qd 6))) jf))
theorem xQ (ns:List Int) (m:D) (h0:0 < few) (h1:few<=26):∀ (ds:List D) (n:List D) (ws:List Str) (k u:Option D),n.length+8 * ds.length < 900->ws.length+ds.length<=100->ws.Nodup->(∀ w∈ws,qb3 w) ->∃ (t:List D) (c:List Str) (k' V:Option D),t.length<=n.length+8 * ds.length/\c.length<=ws.length+ds.length/\ws.length<=c.length/\(ds≠[]->1<=c.length)/\c.Nodup/\(∀ w∈c,qb3 w) /\
   jR (gNm 5) qag ds [iB (scr ns),iB (.lst n),iB m,iB (.int few),iB (.lst (ws.map D.str)),k,u]=.ok (.nx,[iB (scr ns),iB (.lst t),iB m,iB (.int few),iB (.lst (c.map D.str)),k',V])
 | [],n,ws,k,u,_,_,hn,hw=>⟨n,ws,k,u,by simp,by simp,by simp,by simp,hn,hw,rfl⟩
 | d::ds,n,ws,k,u,ht,hl,hn,hw=>by
  rw [ao] at ht hl;obtain ⟨w,i,W,y,hg⟩:=qed ns n h0 h1 (by omega);have j:=big;have hz:ws.length < sizeLine:=by omega
  by_cases h:w∈ws
  ·obtain ⟨t,c,k',V,r,o,e,q,g,l,f⟩:=xQ ns m h0 h1 ds i ws (iB d) (iB (.str w)) (by omega) (by omega) hn hw;refine ⟨t,c,k',V,by rw [ao]; omega,by rw [ao]; omega,e,λ_=>?_,g,l,?_⟩;·have:0 < ws.length:=dq h;omega
   ·rw [<-f];simp [jR,qag,qD,jq,hg,UX,Xe,inD,uK,h]
  ·obtain ⟨t,c,k',V,r,o,e,q,g,l,f⟩:=xQ ns m h0 h1 ds i (ws++[w]) (iB d) (iB (.str w)) (by omega) (by rw [aj]; simp; omega) (dG.mpr ⟨hn,by simp,λa p b j=>by
    rw [aD.mp j];exact λz=>h (z ▸ p)⟩) (λx hx=>by
    rcases aI.mp hx with hx | hx;·exact hw x hx
    ·rw [aD.mp hx];exact W)
   rw [aj] at o e;simp at o e;refine ⟨t,c,k',V,by rw [ao]; omega,by rw [ao]; omega,by omega,λ_=>by omega,g,l,?_⟩;rw [<-f];simp [jR,qag,qD,jq,hg,UX,Xe,inD,uK,h,yA,Wp,hz]
theorem qb4 (ns:List Int) (t:List D) (h:t.length < 700):∃ ws a,jM ws/\a.length<=t.length+50/\JK [scr ns,.lst t,.int 6]=.ok (.tup (ws.map D.str),[.non,.lst a,.non]):=by
 obtain ⟨d,hd,hp⟩:=Ub ns t [.int 2,.int 3,.int 4,.int 6,.int 26] (by simp) (by omega);obtain ⟨m,rfl,m0,m1⟩:∃ m:Int,d=.int m/\0 < m/\m<=26:=by
  simp at hd;rcases hd with rfl | rfl | rfl | rfl | rfl;·exact ⟨2,rfl,by omega,by omega⟩
  ·exact ⟨3,rfl,by omega,by omega⟩
  ·exact ⟨4,rfl,by omega,by omega⟩
  ·exact ⟨6,rfl,by omega,by omega⟩
  ·exact ⟨26,rfl,by omega,by omega⟩
 obtain ⟨r,r0,r1,f⟩:=xP ns (t++[.int 0]) (many:=6) (by omega) (by rw [aj]; simp; omega);have n:(ge 0 (1+r).toNat).length=(1+r).toNat:=by simp [ge]
 obtain ⟨a,c,k',V,p,o,j,q,g,l,k⟩:=xQ ns (.int 6) m0 m1 (ge 0 (1+r).toNat) (t++[.int 0]++[.int 0]) [] iD iD (by rw [n,aj,aj]; simp; omega) (by rw [n]; simp; omega) bX (by simp);have e:ge 0 (1+r).toNat≠[]:=λz=>by rw [z] at n;simp at n;omega
 refine ⟨c,a,⟨q e,?_,g,l⟩,?_,?_⟩;·rw [n] at o;simp at o;omega
 ·rw [n,aj,aj] at p;simp at p;omega
 ·refine runD_ap.trans ?_;have b:-(2 ^ 62:Int)<=1+r/\1+r < 2 ^ 62:=by omega
  have i:=big;have hz:5<=sizeLine:=by omega
  simp only [bB,g0,bM,cx] at k f;simp [JJ,qx,qv,qD,jq,hp,f,jB,kK,-Int.reducePow,b,hz,k,yn]
def VS (p q:Int):Prop:=(-3<=p/\p<=2)/\-3<=q/\q<=2
theorem qee (ns:List Int) (t:List D) (l:t.length < 900):∃ p q a,VS p q/\a.length=t.length+2/\WX [scr ns,.lst t]=.ok (.tup [.int p,.int q],[.non,.lst a]):=by
 obtain ⟨r,r0,r1,h⟩:=xP ns t (many:=6) (by omega) (by omega);obtain ⟨u,b,j,f⟩:=xP ns (t++[.int 0]) (many:=6) (by omega) (by rw [aj]; simp; omega);have d:=big;have hz:2<=sizeLine:=by omega
 refine ⟨r - 3,u - 3,t++[.int 0,.int 0],⟨⟨by omega,by omega⟩,by omega,by omega⟩,by simp,?_⟩;refine runD_ap.trans ?_;simp only [bB,g0,bM] at f;simp [WW,qx,qv,qD,jq,h,f,Wg,Kf,hz]
noncomputable def xw (n:Nat) (p:Int):Nat:=(max 0 (min (if 0<=p then p else (n:Int)+p) ((n:Int) - 1))).toNat
noncomputable def Yv (w:Str) (p:Int):Str:=⟨#[(w.cps.toList[xw w.length p]?).getD 0]⟩
variable {w:Str}
theorem zn (hw:qb3 w) (p:Int):vz [.str w,.int p]=.ok (.str (Yv w p),[.non,.non]):=by
 have h1:=hw.1;have h:(w.cps.toList.length:Int)=w.length:=by simp [wp]
 have key:∀ q:Int,q=(if 0<=p then p else (w.length:Int)+p)->atI w.cps.toList (if 0 < (if (w.length:Int) - 1 < q then (w.length:Int) - 1 else q) then (if (w.length:Int) - 1 < q then (w.length:Int) - 1 else q) else 0)=iB ((w.cps.toList[xw w.length p]?).getD 0):=by
  intro q hq;have e:(if 0 < (if (w.length:Int) - 1 < q then (w.length:Int) - 1 else q) then (if (w.length:Int) - 1 < q then (w.length:Int) - 1 else q) else 0)=(xw w.length p:Int):=by
   unfold xw;rw [<-hq];have:1<=(w.length:Int):=by omega
   generalize (w.length:Int)=n at *;split <;> split <;> omega
  have hl:xw w.length p < w.cps.toList.length:=by
   have Z:w.cps.toList.length=w.length:=by simp [wp]
   rw [Z];unfold xw;omega
  rw [e,wa,ay hl];rfl
 refine runD_ap.trans ?_;by_cases hp:0<=p;·have k:=key p (by rw [if_pos hp]);simp [wQ,qx,qv,geD,Kf,hp,qgT,qgU,Wg,jN,ixD,k,Yv]
 ·have k:=key (w.length+p) (by rw [if_neg hp]);simp [wQ,qx,qv,geD,Kf,hp,qgT,qgU,Wg,kK,jN,ixD,k,Yv]
theorem qah (h:qb3 w):(∃ a,w=⟨#[a]⟩)\/(∃ a b,w=⟨#[a,b]⟩)\/(∃ a b c,w=⟨#[a,b,c]⟩)\/(∃ a b c d,w=⟨#[a,b,c,d]⟩)\/(∃ a b c d e,w=⟨#[a,b,c,d,e]⟩)\/∃ a b c d e f,w=⟨#[a,b,c,d,e,f]⟩:=by
 obtain ⟨⟨l⟩⟩:=w;have h1:1<=l.length:=h.1;have h2:l.length<=6:=h.2.1
 match l,h1,h2 with
 | [a],_,_=>exact .inl ⟨a,rfl⟩
 | [a,b],_,_=>exact .inr (.inl ⟨a,b,rfl⟩)
 | [a,b,c],_,_=>exact .inr (.inr (.inl ⟨a,b,c,rfl⟩))
 | [a,b,c,d],_,_=>exact .inr (.inr (.inr (.inl ⟨a,b,c,d,rfl⟩)))
 | [a,b,c,d,e],_,_=>exact .inr (.inr (.inr (.inr (.inl ⟨a,b,c,d,e,rfl⟩))))
 | [a,b,c,d,e,f],_,_=>exact .inr (.inr (.inr (.inr (.inr ⟨a,b,c,d,e,f,rfl⟩))))
variable {own:List Nat}
theorem xR (ρc:Sl):∀ (cap:List Nat) (n:Nat) (ρ:Sl),(∀ k∈cap,k∉own)->jU own ρc n cap ρ=ρ
 | [],n,ρ,_=>rfl
 | k::cap,n,ρ,h=>by unfold jU;rw [if_neg (h k (ai ..))];exact xR ρc cap (n+1) ρ λx hx=>h x (ac _ hx)
variable {fe:Sl->Out (D×Sl)} {caps:Sl}
theorem qgf {ft:Sl->Out (Bool×Sl)} {P:D->Bool} {F:D->D}:∀ (ds:List D) (x:Option D),(∀ d∈ds,ft (iB d::caps)=.ok (P d,iB d::caps))->(∀ d∈ds,P d=iH->fe (iB d::caps)=.ok (F d,iB d::caps))->∃ n,kM (gNm 0) ft fe ds (x::caps)=.ok ((ds.filter P).map F,n::caps)
 | [],x,_,_=>⟨x,rfl⟩
 | d::ds,x,h,h'=>by
  obtain ⟨n,e⟩:=qgf ds (iB d) (λd' hd=>h d' (ac _ hd)) λd' hd=>h' d' (ac _ hd);refine ⟨n,?_⟩;have h1:=h d (ai ..);have h2:=h' d (ai ..);cases q:P d with
  | true=>simp [kM,Wl,h1,q,h2 q,e]
  | false=>simp [kM,Wl,h1,q,e]
variable {cap:List Nat} {fi:Sl->Out (List D×Sl)} {ρ ρ1:Sl} {ds:List D}
theorem qai {fe:Sl->Out (D×Sl)} {ft:Sl->Out (Bool×Sl)} (P:D->Bool) (F:D->D) (m:∀ k∈cap,k∉own) (h:fi ρ=.ok (ds,ρ1)) (hl:ds.length<=sizeLine)
  (l:∀ d∈ds,ft (iB d::cap.map λk=>(ρ1[k]?).getD iD)=.ok (P d,iB d::cap.map λk=>(ρ1[k]?).getD iD)) (i:∀ d∈ds,P d=iH->fe (iB d::cap.map λk=>(ρ1[k]?).getD iD)=.ok (F d,iB d::cap.map λk=>(ρ1[k]?).getD iD)) :
  qY own 1 cap fi (gNm 0) ft fe ρ=.ok (.lst ((ds.filter P).map F),ρ1):=by
 obtain ⟨n,e⟩:=qgf ds iD l i;unfold qY;rw [h];simp only [kN];rw [if_pos hl,show vn 1 cap ρ1=iD::cap.map λk=>(ρ1[k]?).getD iD from rfl,e];simp only [kN,xR _ _ _ _ m]
theorem Ud (F:D->D) (m:∀ k∈cap,k∉own) (h:fi ρ=.ok (ds,ρ1)) (hl:ds.length<=sizeLine) (l:∀ d∈ds,fe (iB d::cap.map λk=>(ρ1[k]?).getD iD)=.ok (F d,iB d::cap.map λk=>(ρ1[k]?).getD iD)):qY own 1 cap fi (gNm 0) ftT fe ρ=.ok (.lst (ds.map F),ρ1):=by have e:=qai (ft:=ftT) (λ_=>iH) F m h hl (λ_ _=>rfl) λd hd _=>l d hd;rw [List.filter_eq_self.mpr λ_ _=>rfl] at e;exact e
theorem vA (F:D->D) (h:fi ρ=.ok (ds,ρ1)) (hl:ds.length<=sizeLine) (l:∀ d∈ds,fe (iB d::cap.map λk=>(ρ1[k]?).getD iD)=.ok (F d,iB d::cap.map λk=>(ρ1[k]?).getD iD)):qY [] 1 cap fi (gNm 0) ftT fe ρ=.ok (.lst (ds.map F),ρ1):=Ud F (λ_ _=>by simp) h hl l
noncomputable def qy (ws:List Str) (p q:Int):List (Str×Str):=ws.map λw=>(Yv w p,Yv w q)
noncomputable def qr (l:List (Str×Str)):List D:=l.map λx=>.tup [.str x.1,.str x.2]
variable {n:Nat}
theorem ji (h:n<=2000):n<=sizeLine:=bz h big
abbrev Wd (ws:List Str):D:=.tup (ws.map D.str)
abbrev Ld (p q:Int):D:=.tup [.int p,.int q]
variable {ws:List Str} {p q:Int}
theorem XJ {G:List D->Out (D×List D)} (hw:jM ws) (h:∀ w∈ws,G [.str w,.int p]=.ok (.str (Yv w p),[.non,.non])/\G [.str w,.int q]=.ok (.str (Yv w q),[.non,.non])):qY [] 1 [1] (jy (qd 0)) (gNm 0) ftT (zq (qc (qw [.vl,.vl] G (qc (qd 0) (qc (d2 ixD (qd 1) (dC (.int 0))) qG))) (qc (qw [.vl,.vl] G (qc (qd 0) (qc (d2 ixD (qd 1) (dC (.int 1))) qG))) qG))) [iB (Wd ws),iB (Ld p q)]
   = .ok (.lst (qr (qy ws p q)),[iB (Wd ws),iB (Ld p q)]):=by
 have e:=vA (cap:=[1]) (fi:=jy (qd 0)) (ρ:=[iB (Wd ws),iB (Ld p q)]) (ρ1:=[iB (Wd ws),iB (Ld p q)]) (ds:=ws.map D.str)
  (fe:=(zq (qc (qw [.vl,.vl] G (qc (qd 0) (qc (d2 ixD (qd 1) (dC (.int 0))) qG))) (qc (qw [.vl,.vl] G (qc (qd 0) (qc (d2 ixD (qd 1) (dC (.int 1))) qG))) qG))))
  (λd=>match d with | .str w=>.tup [.str (Yv w p),.str (Yv w q)] | d=>d) (by simp [ju]) (by rw [ah]; exact ji (by have:=hw.2.1; omega)) (λd hd=>by obtain ⟨w,c,rfl⟩:=aw.mp hd;obtain ⟨h1,h2⟩:=h w c;have hz:2<=sizeLine:=ji (by omega);simp [qD,jq,ixD,atI,ixN,h1,h2,hz])
 rw [e];simp [qr,qy]
def Pl:D->Prop
 | .raw _=>False
 | .xcp _=>False
 | .ins _ _=>False
 | .dct _=>False
 | .at_ _ _=>False
 | _=>True
@[simp] theorem kk1:ku "NoneType" "int"=iB false:=by decide +kernel
@[simp] theorem kk2:ku "bool" "int"=iB true:=by decide +kernel
@[simp] theorem kk3:ku "int" "int"=iB true:=by decide +kernel
@[simp] theorem kk4:ku "str" "int"=iB false:=by decide +kernel
@[simp] theorem kk5:ku "tuple" "int"=iB false:=by decide +kernel
@[simp] theorem kk6:ku "list" "int"=iB false:=by decide +kernel
@[simp] theorem kb1:ku "NoneType" "bool"=iB false:=by decide +kernel
@[simp] theorem kb2:ku "bool" "bool"=iB true:=by decide +kernel
@[simp] theorem kb3:ku "int" "bool"=iB false:=by decide +kernel
@[simp] theorem kb4:ku "str" "bool"=iB false:=by decide +kernel
@[simp] theorem kb5:ku "tuple" "bool"=iB false:=by decide +kernel
@[simp] theorem kb6:ku "list" "bool"=iB false:=by decide +kernel
@[simp] theorem ks1:ku "NoneType" "str"=iB false:=by decide +kernel
@[simp] theorem ks2:ku "bool" "str"=iB false:=by decide +kernel
@[simp] theorem ks3:ku "int" "str"=iB false:=by decide +kernel
@[simp] theorem ks4:ku "str" "str"=iB true:=by decide +kernel
@[simp] theorem ks5:ku "tuple" "str"=iB false:=by decide +kernel
@[simp] theorem ks6:ku "list" "str"=iB false:=by decide +kernel
@[simp] theorem kt1:ku "NoneType" "tuple"=iB false:=by decide +kernel
@[simp] theorem kt2:ku "bool" "tuple"=iB false:=by decide +kernel
@[simp] theorem kt3:ku "int" "tuple"=iB false:=by decide +kernel
@[simp] theorem kt4:ku "str" "tuple"=iB false:=by decide +kernel
@[simp] theorem kt5:ku "tuple" "tuple"=iB true:=by decide +kernel
@[simp] theorem kt6:ku "list" "tuple"=iB false:=by decide +kernel
noncomputable def JY:D->Bool
 | .tup _=>iH
 | _=>iF
noncomputable def isInt:D->Bool
 | .int _=>iH
 | .bl _=>iH
 | _=>iF
variable {d:D}
theorem qcJ (h:Pl d):gi "tuple" d=.ok (.bl (JY d)):=by cases d <;> first | exact h.elim | simp [gi,tyN,JY]
noncomputable def qaj:D->Bool
 | .str x=>decide (x.length=1)&&(!vB x "a"&&!vB "z" x)
 | _=>iF
noncomputable def Kj (lo hi:Int):D->Bool
 | .int i=>decide (lo<=i)&&decide (i<=hi)
 | _=>iF
theorem zo (h:Pl d):vy [d]=.ok (.bl (qaj d),[.non]):=by
 refine runD_ap.trans ?_;cases d <;> first
  | exact h.elim
  | (simp [vx,qx,qv,gi,tyN,qaj]; done)
  | skip
 rename_i x;by_cases h1:x.length=1
 ·have c:(x.length:Int)=1:=by omega
  cases h2:vB x "a" <;> simp [vx,qx,gi,tyN,jN,eqD,eqN,eqS,leD,qv,qaj,h1,c,h2]
 ·have c:¬(x.length:Int)=1:=by omega
  simp [vx,qx,gi,tyN,jN,eqD,eqN,eqS,leD,qv,qaj,h1,c]
theorem kZ (h:Pl d) (lo hi:Int):ka [d,.int lo,.int hi]=.ok (.bl (Kj lo hi d),[.non,.non,.non]):=by
 refine runD_ap.trans ?_;cases d <;> first
  | exact h.elim
  | (simp [vK,qx,qv,gi,tyN,Kj,vD]; done)
  | skip
 rename_i i;by_cases h1:lo<=i <;> simp [vK,qx,gi,tyN,leD,qv,Kj,vD,h1]
theorem qcK {c:Nat} (h:az c):qaj (.str ⟨#[c]⟩)=true:=by
 have g:(aQ "a").cps.toList=[97]:=by decide +kernel
 have hz:(aQ "z").cps.toList=[122]:=by decide +kernel
 obtain ⟨h1,h2⟩:=h;have i:¬([c]:List Nat) < [97]:=by rw [List.cons_lt_cons_iff];simp;omega
 have l:¬([122]:List Nat) < [c]:=by rw [List.cons_lt_cons_iff];simp;omega
 have e1:vB ⟨#[c]⟩ (aQ "a")=false:=by unfold vB;rw [g];exact decide_eq_false i
 have e:vB (aQ "z") ⟨#[c]⟩=false:=by unfold vB;rw [hz];exact decide_eq_false l
 simp [qaj,wp,e1,e]
theorem QT (f:α->Bool):∀ l:List α,vE (l.map λx=>.bl (f x))=iB (l.map f)
 | []=>rfl
 | a::l=>by have j:=QT f l;simp [vE,j]
theorem yf (f:α->Bool) (l:List α):UN (.lst (l.map λx=>.bl (f x)))=.ok (.bl (l.all f)):=by simp only [UN,QT];simp [List.all_map,Function.comp_def]
theorem qak (hw:qb3 w) (p:Int):∃ c,az c/\Yv w p=⟨#[c]⟩:=by
 have n:w.cps.toList.length=w.length:=by simp [wp]
 have hl:xw w.length p < w.cps.toList.length:=by have:=hw.1;rw [n];unfold xw;omega
 refine ⟨w.cps.toList[xw w.length p],hw.2.2 _ (cr hl),?_⟩;unfold Yv;rw [ay hl];rfl
theorem XM (hw:qb3 w):xf [.str w]=.ok (.bl iH,[.non]):=by
 refine runD_ap.trans ?_;have e:=vA (cap:=[]) (fi:=jy (qd 0)) (ρ:=[iB (.str w)]) (ρ1:=[iB (.str w)]) (ds:=KR w) (fe:=qw [.vl] vy (qc (qd 0) qG)) (λd=>.bl (qaj d)) (by simp [ju]) (by
   have:=hw.2.1;simp [KR,<-wp];exact ji (by omega)) (λd hd=>by
   obtain ⟨c,h,rfl⟩:=aw.mp hd;have h1:=zo (d:=.str ⟨#[c]⟩) trivial;simp [qD,jq,h1])
 have g:(KR w).all qaj=true:=by rw [aJ];intro d hd;obtain ⟨c,h,rfl⟩:=aw.mp hd;exact qcK (hw.2.2 c h)
 have h1:(1:Int)<=w.length:=by have:=hw.1; omega
 have a:(w.length:Int)<=6:=by have:=hw.2.1; omega
 simp only [gP,qx,aF,cx,ao,aZ,Nat.reduceAdd,eY,cG,bf];simp [gi,tyN,vD,jN,leD,h1,a,e,yf,g,qv]
theorem yI:∀ (ws ks:List Str),ws.Nodup->(∀ x∈ws,x∉ks)->ws.foldl xb ks=ks++ws
 | [],ks,_,_=>by simp
 | w::ws,ks,hn,hd=>by
  have h1:=aP.mp hn;rw [bF,show xb ks w=ks++[w] from if_neg (hd w (ai ..)),yI ws (ks++[w]) h1.2 ?_];·simp
  ·intro x hx z;rcases aI.mp z with z | z;·exact hd x (ac _ hx) z
   ·rw [aD.mp z] at hx;exact h1.1 hx
theorem wE (ws:List Str):∀ ks:List Str,ks.Nodup->(ws.foldl xb ks).Nodup/\∀ x,x∈ws.foldl xb ks↔x∈ks\/x∈ws:=by
 induction ws with
 | nil=>intro ks n; exact ⟨n,λx=>by simp⟩
 | cons w ws j=>
  intro ks n;have r:(xb ks w).Nodup:=by
   unfold xb;split;·exact n
   ·rename_i h;exact dG.mpr ⟨n,by simp,λa g b d=>by rw [aD.mp d];exact λz=>h (z ▸ g)⟩
  obtain ⟨a,b⟩:=j (xb ks w) r;refine ⟨a,λx=>?_⟩;rw [bF,b x];unfold xb;split
  ·rename_i h;constructor
   ·rintro (q | q);·exact .inl q
    ·exact .inr (ac _ q)
   ·rintro (q | q);·exact .inl q
    ·rcases ae.mp q with rfl | q;·exact .inl h
     ·exact .inr q
  ·simp [aI,or_assoc]
theorem Ue (hw:jM ws):xG [.tup (ws.map D.str)]=.ok (.bl iH,[.non]):=by
 refine runD_ap.trans ?_;have e:=vA (cap:=[]) (fi:=jy (qd 0)) (ρ:=[iB (.tup (ws.map D.str))]) (ρ1:=[iB (.tup (ws.map D.str))]) (ds:=ws.map D.str) (fe:=qw [.vl] xf (qc (qd 0) qG)) (λd=>.bl iH) (by simp [ju]) (by
   rw [ah];exact ji (by have:=hw.2.1; omega)) (λd hd=>by
   obtain ⟨w,c,rfl⟩:=aw.mp hd;have h1:=XM (hw.2.2.2 w c);simp [qD,jq,h1])
 have h1:(1:Int)<=ws.length:=by have:=hw.1; omega
 have a:(ws.length:Int)<=6:=by have:=hw.2.1; omega
 have h:ws.foldl xb []=ws:=by rw [yI ws [] hw.2.2.1 (by simp)]; simp
 have b:ws.length < 4000:=by omega
 have g:=yf (λ_:D=>iH) (ws.map D.str);simp only [xF,qx,aF,cx,ao,aZ,Nat.reduceAdd,eY,cG,bf];simp [-bb,gi,tyN,vD,jN,leD,h1,a,e,g,qv,gC,wx,wD,h,b,eqD,eqN,eqS]
theorem Qt (hw:jM ws):wO [.tup (ws.map D.str)]=.ok (.non,[.non]):=by refine runD_ap.trans ?_;have h:=Ue hw;simp [wN,qx,qv,qD,jq,h,vD]
theorem XN (hl:VS p q):gT [.tup [.int p,.int q]]=.ok (.bl iH,[.non]):=by
 refine runD_ap.trans ?_;have e:=vA (cap:=[]) (fi:=jy (qd 0)) (ρ:=[iB (.tup [.int p,.int q])]) (ρ1:=[iB (.tup [.int p,.int q])]) (ds:=[.int p,.int q]) (fe:=qw [.vl,.vl,.vl] ka (qc (qd 0) (qc (dC (.int (-3))) (qc (dC (.int 2)) qG)))) (λd=>.bl (Kj (-3) 2 d)) (by simp [ju]) (ji (by simp)) (λd hd=>by
   have hd:d=.int p\/d=.int q:=by simpa using hd
   have h1:=kZ (d:=.int p) trivial (-3) 2;have h2:=kZ (d:=.int q) trivial (-3) 2;rcases hd with rfl | rfl;·simp [qD,jq,h1]
   ·simp [qD,jq,h2])
 have A:Kj (-3) 2 (.int p)=true:=by simp [Kj]; exact hl.1
 have z:Kj (-3) 2 (.int q)=true:=by simp [Kj]; exact hl.2
 simp only [gS,qx,aF,cx,ao,aZ,Nat.reduceAdd,eY,cG,bf];simp [gi,tyN,vD,jN,neD,eqN,eqS,e,UN,vE,A,z,qv]
theorem JZ (hl:VS p q):uD [.tup [.int p,.int q]]=.ok (.non,[.non]):=by refine runD_ap.trans ?_;have h:=XN hl;simp [uC,qx,qv,qD,jq,h,vD]
theorem yg (hw:jM ws) (hl:VS p q):xI [Wd ws,Ld p q]=.ok (.lst (qr (qy ws p q)),[.non,.non]):=by
 refine runD_ap.trans ?_;have e:=XJ (G:=vz) hw (p:=p) (q:=q) λw c=>⟨zn (hw.2.2.2 w c) p,zn (hw.2.2.2 w c) q⟩
 have k:=Qt hw;have c2:=JZ hl;simp only [WM,qx,aF,cx,ao,aZ,Nat.reduceAdd,eY,cG,bf];simp [qD,jq,k,c2,e,qv]
theorem qal {a b:List Str} (g:a.Nodup) (d:b.Nodup) (h:∀ x,x∈a↔x∈b):a.Perm b:=(List.perm_ext_iff_of_nodup g d).mpr h
theorem qam {a b:List Str} (h:∀ x,x∈a↔x∈b):kF (a.foldl xb [])=kF (b.foldl xb []):=by
 obtain ⟨n1,m1⟩:=wE a [] bX;obtain ⟨n2,B⟩:=wE b [] bX;have p:=qal n1 n2 λx=>by rw [m1,B,h]
 exact ux ((qI _).trans (p.trans (qI _).symm)) (jm _) (jm _)
noncomputable def LS (l:List (Str×Str)):List Str:=kF ((l.map (·.1)++l.map (·.2)).foldl xb [])
variable {l:List (Str×Str)} {x:Str}
theorem mem_LS:x∈LS l↔∃ p∈l,x=p.1\/x=p.2:=by
 unfold LS;rw [(qI _).mem_iff,(wE _ [] bX).2];simp only [bH,false_or,aI,aw];constructor
 ·rintro (⟨p,hp,rfl⟩ | ⟨p,hp,rfl⟩);·exact ⟨p,hp,.inl rfl⟩
  ·exact ⟨p,hp,.inr rfl⟩
 ·rintro ⟨p,hp,rfl | rfl⟩;·exact .inl ⟨p,hp,rfl⟩
  ·exact .inr ⟨p,hp,rfl⟩
theorem ub (hl:l.length<=20):jb [.lst (qr l)]=.ok (.lst ((LS l).map D.str),[.non]):=by
 refine runD_ap.trans ?_;have hz:(qr l).length<=sizeLine:=by unfold qr;rw [ah];exact ji (by omega)
 have e1:=vA (cap:=[]) (fi:=jy (qd 0)) (ρ:=[iB (.lst (qr l))]) (ρ1:=[iB (.lst (qr l))]) (ds:=qr l) (fe:=d2 ixD (qd 0) (dC (.int 0))) (λd=>match d with | .tup [a,b]=>a | d=>d) (by simp [ju]) hz (λd hd=>by obtain ⟨x,hx,rfl⟩:=aw.mp hd;simp [ixD,atI,ixN]);have i:=vA (cap:=[]) (fi:=jy (qd 0)) (ρ:=[iB (.lst (qr l))]) (ρ1:=[iB (.lst (qr l))]) (ds:=qr l) (fe:=d2 ixD (qd 0) (dC (.int 1))) (λd=>match d with | .tup [a,b]=>b | d=>d) (by simp [ju]) hz (λd hd=>by obtain ⟨x,hx,rfl⟩:=aw.mp hd;simp [ixD,atI,ixN]);have f1:(qr l).map (λd=>match d with | .tup [a,b]=>a | d=>d)=(l.map (·.1)).map D.str:=by simp [qr]
 have f2:(qr l).map (λd=>match d with | .tup [a,b]=>b | d=>d)=(l.map (·.2)).map D.str:=by simp [qr]
 rw [f1] at e1;rw [f2] at i;have c:l.length+l.length<=sizeLine:=ji (by omega);have j:l.length+l.length < 64:=by omega
 simp only [uE,qx,aF,cx,ao,aZ,Nat.reduceAdd,eY,cG,bf,Gs,xD,qhR,e1,i,kN];simp only [kK,ah,if_pos c,qhN,kN,<-cQ,vH,wx,wD,aj,if_pos j];simp [qv,LS]
variable {a:D}
theorem at0 {l:List D}:atI (a::l) 0=iB a:=by have:=wa (a::l) 0;simpa using this
theorem at1 {b:D} {l:List D}:atI (a::b::l) 1=iB b:=by have:=wa (a::b::l) 1;simpa using this
abbrev nn4:Sl:=[iB .non,iB .non,iB .non,iB .non]
theorem uc (h:Pl d):vM [d]=if Kj 1 99 d=iH then .ok (.non,[.non]) else .exc "NoRoom" [iB .non]:=by refine runD_ap.trans ?_;have h1:=kZ h 1 99;have hz:1<=sizeLine:=ji (by omega);cases e:Kj 1 99 d <;> simp [uz,qx,qv,qD,jq,h1,e,vD,vo]
theorem qF {ms:List PM} {f g:Sl->Out (Fl×Sl)} (h:f ρ=.ok (.nx,ρ1)):Gr ms (qT f g ρ)=Gr ms (g ρ1):=by rw [gD,h];rfl
theorem qgg (hw:jM ws) (p q:Int):(LS (qy ws p q)).length<=12:=by
 have c:(qy ws p q).length<=6:=by simp [qy]; exact hw.2.1
 unfold LS;rw [(qI _).length_eq];have:=gq ((qy ws p q).map (·.1)++(qy ws p q).map (·.2)) [];simp only [aj,ah,aZ] at this;omega
theorem qef (hw:jM ws) (p q:Int):∀ x∈LS (qy ws p q),∃ c,az c/\x=⟨#[c]⟩:=λx hx=>by
 obtain ⟨y,B,h⟩:=mem_LS.mp hx;obtain ⟨w,m,rfl⟩:=aw.mp B;rcases h with rfl | rfl;·exact qak (hw.2.2.2 w m) p
 ·exact qak (hw.2.2.2 w m) q
theorem qeg (l:List (Str×Str)):(LS l).Nodup:=(qI _).nodup_iff.mpr (wE _ [] bX).1
theorem xx (hw:qb3 w) (h0:-3<=p) (h1:p<=2):wC [.str w,.int p]=.ok (.str (Yv w p),[.non,.non]):=by
 have hp:p=-3\/p=-2\/p=-1\/p=0\/p=1\/p=2:=by omega
 rcases qah hw with ⟨a,rfl⟩ | ⟨a,b,rfl⟩ | ⟨a,b,c,rfl⟩ | ⟨a,b,c,d,rfl⟩ | ⟨a,b,c,d,e,rfl⟩ | ⟨a,b,c,d,e,f,rfl⟩ <;> rcases hp with rfl | rfl | rfl | rfl | rfl | rfl <;> kernel_rfl
theorem QU (ρc:Sl):∀ (cap:List Nat) (n:Nat) (ρ:Sl),jU [] ρc n cap ρ=ρ
 | [],n,ρ=>rfl
 | k::cap,n,ρ=>by unfold jU;rw [if_neg (by simp)];exact QU ρc cap (n+1) ρ
theorem qgh {F:D->D->D}:∀ (ps:List (D×D)) (x y:Option D),(∀ p∈ps,fe (iB p.1::iB p.2::caps)=.ok (F p.1 p.2,iB p.1::iB p.2::caps)) ->∃ n s,kM (wc 2 (qU (gNm 0) (qU (gNm 1) wb))) ftT fe (ps.map λp=>.tup [p.1,p.2]) (x::y::caps)=.ok (ps.map λp=>F p.1 p.2,n::s::caps)
 | [],x,y,_=>⟨x,y,rfl⟩
 | p::ps,x,y,h=>by obtain ⟨n,s,e⟩:=qgh ps (iB p.1) (iB p.2) λd' hd=>h d' (ac _ hd);refine ⟨n,s,?_⟩;have h1:=h p (ai ..);simp [kM,Wl,wc,qU,wb,h1,e]
theorem qgi {cap:List Nat} {fe:Sl->Out (D×Sl)} {ps:List (D×D)} (F:D->D->D) (h:fi ρ=.ok (ps.map λp=>.tup [p.1,p.2],ρ1)) (hl:ps.length<=sizeLine)
  (l:∀ p∈ps,fe (iB p.1::iB p.2::cap.map λk=>(ρ1[k]?).getD iD)=.ok (F p.1 p.2,iB p.1::iB p.2::cap.map λk=>(ρ1[k]?).getD iD)) :
  qY [] 2 cap fi (wc 2 (qU (gNm 0) (qU (gNm 1) wb))) ftT fe ρ=.ok (.lst (ps.map λp=>F p.1 p.2),ρ1):=by
 obtain ⟨n,s,e⟩:=qgh ps iD iD l;unfold qY;rw [h];simp only [kN];rw [if_pos (by rw [ah]; exact hl),show vn 2 cap ρ1=iD::iD::cap.map λk=>(ρ1[k]?).getD iD from rfl,e];simp only [kN,QU]
theorem uL (hw:jM ws) (hl:VS p q):ya [.tup (ws.map D.str),.tup [.int p,.int q]]=.ok (.lst (qr (qy ws p q)),[.non,.non]):=by
 refine runD_ap.trans ?_;have e:=vA (cap:=[1]) (fi:=jy (qd 0)) (ρ:=[iB (.tup (ws.map D.str)),iB (.tup [.int p,.int q])]) (ρ1:=[iB (.tup (ws.map D.str)),iB (.tup [.int p,.int q])]) (ds:=ws.map D.str)
  (fe:=(zq (qc (qw [.vl,.vl] wC (qc (qd 0) (qc (d2 ixD (qd 1) (dC (.int 0))) qG))) (qc (qw [.vl,.vl] wC (qc (qd 0) (qc (d2 ixD (qd 1) (dC (.int 1))) qG))) qG))))
  (λd=>match d with | .str w=>.tup [.str (Yv w p),.str (Yv w q)] | d=>d) (by simp [ju]) (by rw [ah]; exact ji (by have:=hw.2.1; omega)) (λd hd=>by obtain ⟨w,c,rfl⟩:=aw.mp hd;have h1:=xx (hw.2.2.2 w c) hl.1.1 hl.1.2;have h2:=xx (hw.2.2.2 w c) hl.2.1 hl.2.2;have hz:2<=sizeLine:=ji (by omega);simp [qD,jq,ixD,atI,ixN,h1,h2,hz])
 simp only [JN,qx,aF,cx,Gs,ao,aZ,Nat.reduceAdd,eY,cG,bf];rw [e];simp [qv,qr,qy]
abbrev qgj:Sl->Out (Fl×Sl):=(vj (xY 2 Wq (gb (qc (qd 3) (qc (qd 4) qG)))))
theorem VF (a b:Option D):∀ (l:List (Str×Str)) (made:List Str) (x y:Option D),made.length+2 * l.length<=1000->∃ n s,jR (wc 2 (qU (gNm 3) (qU (gNm 4) wb))) qgj (qr l) [a,b,iB (.lst (made.map D.str)),x,y]=.ok (.nx,[a,b,iB (.lst ((made++l.flatMap λp=>[p.1,p.2]).map D.str)),n,s])
 | [],made,x,y,_=>⟨x,y,by simp [qr,jR]⟩
 | p::l,made,x,y,h=>by rw [ao] at h;obtain ⟨n,s,e⟩:=VF a b l (made++[p.1,p.2]) (iB (.str p.1)) (iB (.str p.2)) (by rw [aj]; simp; omega);refine ⟨n,s,?_⟩;have hz:2<=sizeLine:=ji (by omega);have c:made.length+2<=sizeLine:=ji (by omega);rw [show (made++(p::l).flatMap λp=>[p.1,p.2])=(made++[p.1,p.2])++l.flatMap λp=>[p.1,p.2] by simp,<-e];simp [qr,jR,wc,qU,wb,qgj,yA,Wq,hz,c]
theorem Yw:∀ l:List (Str×Str),(l.flatMap λp=>[p.1,p.2]).length=2 * l.length
 | []=>rfl
 | a::l=>by rw [cc,aj,Yw l,ao];simp;omega
theorem qan (hw:jM ws) (hl:VS p q):yE [.tup (ws.map D.str),.tup [.int p,.int q]]=.ok (.lst ((LS (qy ws p q)).map D.str),[.non,.non]):=by
 refine runD_ap.trans ?_;have h1:=uL hw hl;have a:(qy ws p q).length<=6:=by simp [qy]; exact hw.2.1
 obtain ⟨n,s,e⟩:=VF (iB (.tup (ws.map D.str))) (iB (.tup [.int p,.int q])) (qy ws p q) [] iD iD (by simp; omega);have h:((qy ws p q).flatMap λp=>[p.1,p.2]).length < 64:=by rw [Yw];omega
 have c:kF (((qy ws p q).flatMap λp=>[p.1,p.2]).foldl xb [])=LS (qy ws p q):=qam λx=>by
  simp only [df,aI,aw,ae,bH,or_false];constructor
  ·rintro ⟨p,hp,rfl | rfl⟩;·exact .inl ⟨p,hp,rfl⟩
   ·exact .inr ⟨p,hp,rfl⟩
  ·rintro (⟨p,hp,rfl⟩ | ⟨p,hp,rfl⟩);·exact ⟨p,hp,.inl rfl⟩
   ·exact ⟨p,hp,.inr rfl⟩
 simp only [cx,bM] at e;simp [WY,qx,qv,qD,jq,h1,ju];rw [e];simp only [kN,xD,Wz,List.getElem?_cons_succ,List.getElem?_cons_zero,vH,wx,wD,if_pos h,c];simp [qv]
def qiJ (d:D):Prop:=Pl d/\∀ xs,d=.tup xs->∀ x∈xs,Pl x
noncomputable def qao (room:Int):D->Bool
 | .tup [a,b]=>qaj a&&Kj 0 (room - 1) b
 | _=>iF
theorem Uf (h:qiJ d) (room:Int):uU [d,.int room]=.ok (.bl (qao room d),[.non,.non]):=by
 refine runD_ap.trans ?_;have t:=qcJ h.1;cases d with
 | tup xs=>
  have hp:=h.2 xs rfl
  match xs,hp with
  | [],_=>simp [kw,qx,qv,t,JY,vD,jN,neD,eqN,eqS,qao]
  | [a],_=>simp [kw,qx,qv,t,JY,vD,jN,neD,eqN,eqS,qao]
  | [a,b],hp=>have h1:=zo (hp a (by simp));have h2:=kZ (hp b (by simp)) 0 (room - 1);cases f:qaj a <;> simp [kw,qx,qv,t,JY,vD,jN,neD,eqN,eqS,qao,ixD,at0,at1,qD,jq,h1,h2,f,Wg,Kf]
  | a::b::c::l,_=>
   have e:¬((l.length:Int)+1+1+1=2):=by omega
   simp [kw,qx,qv,t,JY,vD,jN,neD,eqN,eqS,qao,e]
 | _=>first | exact h.1.elim | simp [kw,qx,qv,t,JY,vD,qao]
noncomputable def prL (l:List (Str×Int)):List D:=l.map λx=>.tup [.str x.1,.int x.2]
def OkW (room:Int) (l:List (Str×Int)):Prop:=∀ x∈l,qaj (.str x.1)=iH/\0<=x.2/\x.2 < room
variable {room:Int}
theorem qeh {l:List (Str×Int)} (h:OkW room l):(prL l).all (qao room)=true:=by rw [aJ];intro d hd;obtain ⟨x,hx,rfl⟩:=aw.mp hd;obtain ⟨h1,h2,h3⟩:=h x hx;simp [qao,h1,Kj,h2];omega
noncomputable def qS (l:List (Str×Int)):List Str:=l.map (·.1)
theorem VG:∀ (a b:List Str),vC (eqN 7) (a.map D.str) (b.map D.str)=iB (decide (a.take (min a.length b.length)=b.take (min a.length b.length)))
 | [],b=>by simp [vC]
 | a::l,[]=>by simp [vC]
 | a::l,b::m=>by have j:=VG l m;simp only [aF,vC,j,eqN,eqS,ao,Nat.succ_eq_add_one,show min (l.length+1) (m.length+1)=min l.length m.length+1 by omega,List.take_succ_cons];by_cases h:a=b <;> simp [h]
theorem qb5 (a b:List Str):eqD (.lst (a.map D.str)) (.lst (b.map D.str))=.ok (.bl (decide (a=b))):=by
 by_cases h:a.length=b.length;·have e:=VG a b;rw [h,Nat.min_self,f9,<-h,f9] at e;simp [eqD,eqN,h,e]
 ·have c:a≠b:=λz=>h (by rw [z]);simp [eqD,eqN,h,c]
noncomputable def Ug (l:List (Str×Int)):Bool:=decide (qS l=kF ((qS l).foldl xb []))
theorem VH (h:∀ d∈ds,qiJ d) (hl:ds.length<=50) (room:Int):(ds.all (qao room)=iF->kx [.tup ds,.int room]=.ok (.bl iF,[.non,.non]))/\∀ l,ds=prL l->OkW room l->kx [.tup ds,.int room]=.ok (.bl (Ug l),[.non,.non]):=by
 have hz:ds.length<=sizeLine:=ji (by omega);have t:=qcJ (d:=.tup ds) trivial;have e1:=vA (cap:=[1]) (fi:=jy (qd 0)) (ρ:=[iB (.tup ds),iB (.int room),iD]) (ρ1:=[iB (.tup ds),iB (.int room),iD]) (ds:=ds) (fe:=qw [.vl,.vl] uU (qc (qd 0) (qc (qd 1) qG))) (λd=>.bl (qao room d)) (by simp [ju]) hz (λd hd=>by have h1:=Uf (h d hd) room;simp [qD,jq,h1]);have g:=yf (qao room) ds;constructor;·intro c;refine runD_ap.trans ?_;simp [wM,qx,qv,t,JY,vD,e1,g,c]
 ·rintro l rfl hw;refine runD_ap.trans ?_;have c:=qeh hw;have i:=vA (cap:=[]) (fi:=jy (qd 0)) (ρ:=[iB (.tup (prL l)),iB (.int room),iD]) (ρ1:=[iB (.tup (prL l)),iB (.int room),iD]) (ds:=prL l) (fe:=d2 ixD (qd 0) (dC (.int 0))) (λd=>match d with | .tup [a,b]=>a | d=>d) (by simp [ju]) hz (λd hd=>by obtain ⟨x,hx,rfl⟩:=aw.mp hd;simp [ixD,at0]);have f2:(prL l).map (λd=>match d with | .tup [a,b]=>a | d=>d)=(qS l).map D.str:=by simp [prL,qS]
  rw [f2] at i;have j:(qS l).length < 64:=by simp [qS];simp [prL] at hl;omega
  have m:=qb5 (qS l) (kF ((qS l).foldl xb []));simp [wM,qx,qv,t,JY,vD,e1,g,c,i,vH,wx,wD,j,m,Ug]
noncomputable def Uh:List Str->Bool
 | x::y::l=>vB x y&&Uh (y::l)
 | _=>iH
variable {y:Str}
theorem qh5 (h:vB x y=iH):leS x y/\x≠y:=by
 unfold vB at h;have h:=of_decide_eq_true h;constructor;·exact List.le_of_lt h
 ·rintro rfl;exact List.lt_irrefl _ h
theorem qh6 (h:leS x y) (n:x≠y):vB x y=true:=by
 cases e:vB x y with
 | true=>rfl
 | false=>exact absurd (Jk h (strLt_false.mp e)) n
theorem Ui:∀ (l:List Str),Uh l=iH->l.Pairwise (λx y=>leS x y/\x≠y)
 | [],_=>dE
 | [x],_=>db _ _
 | x::y::l,h=>by
  have h:(vB x y&&Uh (y::l))=true:=h;rw [aK] at h;have j:=Ui (y::l) h.2;have a:=qh5 h.1;refine be.mpr ⟨λz hz=>?_,j⟩;rcases ae.mp hz with rfl | hz;·exact a
  ·have b:=(be.mp j).1 z hz;refine ⟨gy a.1 b.1,λe=>?_⟩;subst e;exact a.2 (Jk a.1 b.1)
theorem Uj:∀ (l:List Str),l.Pairwise (λx y=>leS x y/\x≠y)->Uh l=iH
 | [],_=>rfl
 | [x],_=>rfl
 | x::y::l,h=>by have h1:=be.mp h;have a:=h1.1 y (ai ..);show (vB x y&&Uh (y::l))=iH;rw [qh6 a.1 a.2,Uj (y::l) h1.2];rfl
theorem Yx {l:List Str} (h:l.Pairwise (λx y=>leS x y/\x≠y)):l.Nodup:=h.imp λh=>h.2
theorem Yy (L:List Str):decide (L=kF (L.foldl xb []))=Uh L:=by
 cases e:Uh L with
 | true=>
  have p:=Ui L e;have n:=Yx p;have f:L.foldl xb []=L:=by rw [yI L [] n (by simp)]; simp
  rw [f];exact decide_eq_true (ux (qI L).symm (p.imp λh=>h.1) (jm L))
 | false=>refine decide_eq_false λz=>?_;have n:(kF (L.foldl xb [])).Nodup:=(qI _).nodup_iff.mpr (wE L [] bX).1;have c:=jm (L.foldl xb []);rw [<-z] at n c;have p:L.Pairwise (λx y=>leS x y/\x≠y):=c.and n;rw [Uj L p] at e;cases e
theorem XO {l:List (Str×Int)} (h:Ug l=iH):(qS l).Nodup:=by unfold Ug at h;rw [Yy] at h;exact Yx (Ui _ h)
noncomputable def bk (l:List (Str×Int)):List (Key×D):=l.map λx=>(.inr x.1,.int x.2)
theorem Qe:∀ l:List (Str×Int),uu (prL l)=iB (bk l)
 | []=>rfl
 | x::l=>by have j:=Qe l;unfold prL at j ⊢;rw [aF];simp [uu,qbu,VU,j,bk]
theorem Uk:∀ (l:List (Str×Int)) (a:List (Key×D)),(qS l).Nodup->(∀ x∈l,∀ p∈a,p.1≠.inr x.1)->(bk l).foldl (λa p=>ww a p.1 p.2) a=a++bk l
 | [],a,_,_=>by simp [bk]
 | x::l,a,hn,hd=>by
  have h1:=aP.mp (show (x.1::qS l).Nodup from hn);have hp:ww a (.inr x.1) (.int x.2)=a++[(.inr x.1,.int x.2)]:=by unfold ww;rw [if_neg];simp only [fm,decide_eq_true_eq,not_exists,not_and];exact λp hp=>hd x (ai ..) p hp
  have j:=Uk l (a++[(.inr x.1,.int x.2)]) h1.2 (λy B p hp=>by
   rcases aI.mp hp with hp | hp;·exact hd y (ac _ B) p hp
   ·rw [aD.mp hp];intro z;have z:x.1=y.1:=cw.inj z;exact h1.1 (z ▸ aw.mpr ⟨y,B,rfl⟩))
  show ((bk l).foldl (λa p=>ww a p.1 p.2) (ww a (.inr x.1) (.int x.2)))=a++(.inr x.1,.int x.2)::bk l;rw [hp,j];simp
theorem qei {l:List (Str×Int)} (h:(qS l).Nodup):qbv (.tup (prL l))=.ok (.dct (bk l)):=by have e:=Uk l [] h (λ_ _ p hp=>by cases hp);simp at e;simp [qbv,Qe,e]
theorem VI (l:List (Str×Int)) (x:Str):kQ (bk l) (.inr x)=decide (x∈qS l):=by
 unfold kQ bk qS;rw [ij]
 induction l with
 | nil=>simp
 | cons a l j=>
  simp only [cI,aF,ae,j];by_cases h:a.1=x;·simp [h]
  ·simp [h,ba h]
noncomputable def yh (l:List (Str×Int)) (x:Str):Int:=((l.find? λy=>decide (y.1=x)).map (·.2)).getD 0
theorem Ka:∀ {l:List (Str×Int)} {x:Str},x∈qS l->(x,yh l x)∈l/\(bk l).find? (λkv=>decide (kv.1=cw x))=iB (.inr x,.int (yh l x))
 | [],x,h=>by cases h
 | a::l,x,h=>by
  by_cases e:a.1=x
  ·have c:yh (a::l) x=a.2:=by simp [yh,e]
   rw [c];refine ⟨?_,?_⟩;·rw [<-e];exact ai ..
   ·simp [bk,e]
  ·have hx:x∈qS l:=by
    rcases ae.mp (show x∈a.1::qS l from h) with z | z;·exact absurd z.symm e
    ·exact z
   obtain ⟨h1,h2⟩:=Ka hx;have c:yh (a::l) x=yh l x:=by simp [yh,e]
   rw [c];refine ⟨ac _ h1,?_⟩;rw [<-h2];simp [bk,e]
theorem qb6 {l:List (Str×Int)} (h:x∈qS l):ixD (.dct (bk l)) (.str x)=.ok (.int (yh l x)):=by simp [ixD,(Ka h).2]
theorem qcL {l:List (Str×Int)} (hw:OkW room l) (h:x∈qS l):0<=yh l x/\yh l x < room:=(hw _ (Ka h).1).2
theorem Qf {b:Bool} (h:kx [d,.int room]=.ok (.bl b,[.non,.non])):wg [d,.int room]=if b=iH then .ok (.non,[.non,.non]) else .exc "NoWorths" [iB .non,iB .non]:=by refine runD_ap.trans ?_;cases b <;> simp [wf,qx,qv,qD,jq,h,vD,vo]
theorem qap (t room:Int):zL [.int t,.int room]=.ok (.int (if room<=t then t - room else t),[.non,.non]):=by refine runD_ap.trans ?_;by_cases h:room<=t <;> simp [JB,qx,qv,geD,Kf,Wg,h]
variable {r:Int}
section
variable (hw:jM ws) (hl:VS p q)
include hw hl
noncomputable def qg7 (l:List (Str×Int)) (s:List (Str×Str)) (r:Int):List D:=s.map λx=>.int ((yh l x.1+yh l x.2) % r)
omit hw hl in
theorem qji {a b:Int} (g:0<=a/\a < r) (d:0<=b/\b < r):(if r<=a+b then a+b - r else a+b)=(a+b) % r:=by
 split;·rw [<-Int.sub_emod_right,fP (by omega) (by omega)]
 ·rw [fP (by omega) (by omega)]
theorem Ul {l:List (Str×Int)} (f:Kj 1 99 (.int r)=iH) (m:OkW r l) (s:Ug l=iH) (h:kx [.tup (prL l),.int r]=.ok (.bl iH,[.non,.non])):ky [Wd ws,Ld p q,.int r,.tup (prL l)]=if (LS (qy ws p q)).all (λx=>decide (x∈qS l))=iH then .ok (.tup (qg7 l (qy ws p q) r),[.non,.non,.non,.non]) else .exc "NoWorths" nn4:=by
 refine runD_ap.trans ?_;have h1:=yg hw hl;have h2:=uc (d:=.int r) trivial;rw [f] at h2;have h3:=Qf h;have c:=qei (XO s);have j:(qy ws p q).length<=6:=by simp [qy]; exact hw.2.1
 have k:=ub (l:=qy ws p q) (by omega);have n:(LS (qy ws p q)).length<=2000:=by unfold LS;rw [(qI _).length_eq];have:=gq ((qy ws p q).map (·.1)++(qy ws p q).map (·.2)) [];simp only [aj,ah,aZ] at this;omega
 have e1:=vA (cap:=[5]) (fi:=jy (qw [.vl] jb (qc (qd 4) qG))) (ρ:=[iB (Wd ws),iB (Ld p q),iB (.int r),iB (.tup (prL l)),iB (.lst (qr (qy ws p q))),iB (.dct (bk l))]) (ρ1:=[iB (Wd ws),iB (Ld p q),iB (.int r),iB (.tup (prL l)),iB (.lst (qr (qy ws p q))),iB (.dct (bk l))]) (ds:=(LS (qy ws p q)).map D.str)
  (fe:=d2 inA (qd 0) (qd 1)) (λd=>match d with | .str x=>.bl (decide (x∈qS l)) | d=>d) (by simp [qD,jq,k,ju]) (by rw [ah]; exact ji n) (λd hd=>by obtain ⟨x,hx,rfl⟩:=aw.mp hd;simp [inA,VU,VI])
 rw [bb] at e1;have g:=yf (λx=>decide (x∈qS l)) (LS (qy ws p q));have e:qY [] 1 [5] (jy (qw [.vl] jb (qc (qd 4) qG))) (gNm 0) ftT (d2 inA (qd 0) (qd 1)) [iB (Wd ws),iB (Ld p q),iB (.int r),iB (.tup (prL l)),iB (.lst (qr (qy ws p q))),iB (.dct (bk l))]=.ok (.lst ((LS (qy ws p q)).map λx=>.bl (decide (x∈qS l))),[iB (Wd ws),iB (Ld p q),iB (.int r),iB (.tup (prL l)),iB (.lst (qr (qy ws p q))),iB (.dct (bk l))]):=e1;cases hA:(LS (qy ws p q)).all (λx=>decide (x∈qS l)) with
 | false=>rw [hA] at g;simp [uW,qx,qv,qD,jq,h1,h2,h3,c,e,g,vD,vo]
 | true=>
  rw [hA] at g;have y:∀ x∈qy ws p q,x.1∈qS l/\x.2∈qS l:=λx hx=>by rw [aJ] at hA;exact ⟨of_decide_eq_true (hA x.1 (mem_LS.mpr ⟨x,hx,.inl rfl⟩)),of_decide_eq_true (hA x.2 (mem_LS.mpr ⟨x,hx,.inr rfl⟩))⟩
  have i:=vA (cap:=[2,5]) (fi:=jy (qd 4)) (ρ:=[iB (Wd ws),iB (Ld p q),iB (.int r),iB (.tup (prL l)),iB (.lst (qr (qy ws p q))),iB (.dct (bk l))]) (ρ1:=[iB (Wd ws),iB (Ld p q),iB (.int r),iB (.tup (prL l)),iB (.lst (qr (qy ws p q))),iB (.dct (bk l))]) (ds:=qr (qy ws p q))
   (fe:=qw [.vl,.vl] zL (qc (d2 kK (d2 ixD (qd 2) (d2 ixD (qd 0) (dC (.int 0)))) (d2 ixD (qd 2) (d2 ixD (qd 0) (dC (.int 1))))) (qc (qd 1) qG))) (λd=>match d with | .tup [.str a,.str b]=>.int ((yh l a+yh l b) % r) | d=>d) (by simp [ju]) (by simp [qr]; exact ji (by omega)) (λd hd=>by
    obtain ⟨x,hx,rfl⟩:=aw.mp hd;obtain ⟨i1,i2⟩:=y x hx;have Y:=qb6 i1;have U:=qb6 i2;have wr:=qji (qcL m i1) (qcL m i2);have wi:=qap (yh l x.1+yh l x.2) r;rw [wr] at wi;have k0:ixD (.tup [.str x.1,.str x.2]) (.int 0)=.ok (.str x.1):=by simp [ixD,at0]
    have k1:ixD (.tup [.str x.1,.str x.2]) (.int 1)=.ok (.str x.2):=by simp [ixD,at1]
    simp [qD,jq,k0,k1,Y,U,kK,wi])
  have f2:(qr (qy ws p q)).map (λd=>match d with | .tup [.str a,.str b]=>.int ((yh l a+yh l b) % r) | d=>d)=qg7 l (qy ws p q) r:=by simp [qr,qg7]
  rw [f2] at i;simp [uW,qx,qv,qD,jq,h1,h2,h3,c,e,g,vD,i,yn]
end
def qeY (ca:Str->Addr):Prop:=∀ x∈CS,∀ y∈CS,ca x=ca y->x=y
variable {ca:Str->Addr}
theorem kt (h:qeY ca) (hx:x∈CS) (B:y∈CS) {b:Bool} (e:decide (y=x)=b):Xm ca CS x (ca y)=iB b:=by
 unfold Xm;rw [if_pos (aw.mpr ⟨y,B,rfl⟩),<-e];by_cases z:y=x;·simp [z]
 ·have:ca y≠ca x:=λw=>z (h y B x hx w);simp [z,this]
theorem qaq (B:y∈CS):qfU ca CS (ca y)=iB true:=by unfold qfU;rw [if_pos (aw.mpr ⟨y,B,rfl⟩)]
theorem qcM (B:y∈CS):qfT ca CS y=iB (ca y):=by unfold qfT;rw [if_pos B]
theorem XQ (h:qeY ca):yc ca [.xcp (ca "NoRoom")]=.ok (.tup [.str "refused",.int 3],[.non]):=by
 refine runD_ap.trans ?_;have m:∀ x,x∈CS->decide ((aQ "NoRoom")=x)=decide ((aQ "NoRoom")=x):=λ_ _=>rfl;have B:(aQ "NoRoom")∈CS:=by decide +kernel
 have p:=kt h (x := "NoWords") (y := "NoRoom") (b:=iF) (by decide +kernel) B (by decide +kernel);have o:=kt h (x := "NoLook") (y := "NoRoom") (b:=iF) (by decide +kernel) B (by decide +kernel);have e:=kt h (x := "NoNumbers") (y := "NoRoom") (b:=iF) (by decide +kernel) B (by decide +kernel);have q:=kt h (x := "NoRoom") (y := "NoRoom") (b:=iH) (by decide +kernel) B (by decide +kernel);have d:=kt h (x := "NoWord") (y := "NoRoom") (b:=iF) (by decide +kernel) B (by decide +kernel);have l:=kt h (x := "NoWorths") (y := "NoRoom") (b:=iF) (by decide +kernel) B (by decide +kernel);have k:=kt h (x := "Never") (y := "NoRoom") (b:=iF) (by decide +kernel) B (by decide +kernel);have j:=kt h (x := "Full") (y := "NoRoom") (b:=iF) (by decide +kernel) B (by decide +kernel);have D:=kt h (x := "Known") (y := "NoRoom") (b:=iF) (by decide +kernel) B (by decide +kernel);have T:=qaq (ca:=ca) B;have c:4<=sizeLine:=ji (by omega);have a:8<=sizeLine:=ji (by omega);have z:8 < sizeLine:=aH (by decide) big;have z2:2<=sizeLine:=ji (by omega);simp [zR,qx,qv,Kh,p,o,e,q,d,l,k,j,D,T,c,a,z,z2,yA,Wq,Wp,KS,vE,neD,eqN,eqS,vD,KU,qaN,List.countP_cons,List.findIdx?_cons]
abbrev pD (x:Str×Str):D:=.tup [.str x.1,.str x.2]
noncomputable def al (x y:Str×Str):Bool:=decide (x=y)||decide (x=(y.2,y.1))
theorem al_iff {x y:Str×Str}:al x y=iH↔x=y\/x=(y.2,y.1):=by simp [al]
theorem qej (x:Str×Str):al x x=true:=al_iff.mpr (.inl rfl)
noncomputable def pa (l:List (Str×Str)) (i:Nat):Str×Str:=(l[i]?).getD ("", "")
variable {i:Nat}
theorem qcN (h:i < l.length):(qr l)[i]?=iB (pD (pa l i)):=by unfold qr pa;rw [aE,ay h];rfl
theorem VJ (x y:Str×Str):wT [pD x,pD y]=.ok (.bl (al x y),[.non,.non]):=by
 obtain ⟨a,b⟩:=x;obtain ⟨c,d⟩:=y;refine runD_ap.trans ?_;have hz:2<=sizeLine:=ji (by omega);by_cases h1:a=c/\b=d;·obtain ⟨rfl,rfl⟩:=h1;simp [wS,qx,qv,pD,eqD,eqN,vC,eqS,al]
 ·have e1:(a == c&&b == d)=false:=by
   cases q:(a == c&&b == d) with
   | false=>rfl
   | true=>simp at q; exact absurd q h1
  have i:¬((a,b)=(c,d)):=λz=>h1 ⟨congrArg Prod.fst z,congrArg Prod.snd z⟩;have E:(a == d&&b == c)=decide ((a,b)=(d,c)):=by
   by_cases q:(a,b)=(d,c)
   ·rw [decide_eq_true q];cases q;simp
   ·rw [decide_eq_false q];cases g:(a == d&&b == c) with
    | false=>rfl
    | true=>simp at g; exact absurd (by rw [g.1,g.2]) q
  have m:al (a,b) (c,d)=decide ((a,b)=(d,c)):=by unfold al;rw [decide_eq_false i];rfl
  rw [m,<-E];simp [wS,qx,qv,pD,eqD,eqN,vC,eqS,e1,ixD,atI,ixN,hz]
theorem Yz:Vg (qr l)=(au l.length).map λ(j:Nat)=>.tup [.int j,pD (pa l j)]:=by
 refine eX λj=>?_;unfold Vg;rw [aE,aE,List.getElem?_zipIdx];by_cases h:j < l.length;·rw [qcN h,List.getElem?_range h];simp
 ·have n:(qr l).length=l.length:=by simp [qr]
  rw [bK (by omega),bK (by simp; omega)];rfl
theorem ud (ws:List Str) (p q:Int):(qy ws p q).length=ws.length:=by simp [qy]
abbrev qb7:Sl->Out (Fl×Sl):=(sIf (yl (qw [.vl,.vl] wT (qc (d2 ixD (qd 0) (qd 3)) (qc (qd 2) qG)))) (jt (zq (qc (qd 3) (qc (qd 1) qG)))) jf)
abbrev qb8:Sl->Out (Fl×Sl):=(zu (jB (qd 1)) (gNm 3) qb7)
abbrev clP (l:List (Str×Str)) (i j:Nat):Bool:=al (pa l j) (pa l i)
theorem YA {i:Nat}:∀ (s:List Nat) (x:Option D),(∀ j∈s,j < l.length) ->(∃ n,jR (gNm 3) qb7 (s.map λ(j:Nat)=>.int j) [iB (.lst (qr l)),iB (.int i),iB (pD (pa l i)),x]=.ok (.nx,[iB (.lst (qr l)),iB (.int i),iB (pD (pa l i)),n])/\s.find? (clP l i)=iD)
  \/ ∃ a ρ',s.find? (clP l i)=iB a/\jR (gNm 3) qb7 (s.map λ(j:Nat)=>.int j) [iB (.lst (qr l)),iB (.int i),iB (pD (pa l i)),x]=.ok (.rt (.tup [.int a,.int i]),ρ')
 | [],x,_=>.inl ⟨x,rfl,rfl⟩
 | j::s,x,hj=>by
  have h:=VJ (pa l j) (pa l i);have hg:=qcN (hj j (ai ..));have hz:2<=sizeLine:=ji (by omega);rw [ce];cases q:al (pa l j) (pa l i) with
  | true=>rw [q] at h;have q:clP l i j=true:=q;rw [q];exact .inr ⟨j,_,rfl,by simp [jR,qb7,ixD,wa,hg,qD,jq,h,vD,hz]; rfl⟩
  | false=>
   rw [q] at h;have q:clP l i j=false:=q;rw [q];have s1:jR (gNm 3) qb7 ((j::s).map λ(j:Nat)=>.int j) [iB (.lst (qr l)),iB (.int i),iB (pD (pa l i)),x]=jR (gNm 3) qb7 (s.map λ(j:Nat)=>.int j) [iB (.lst (qr l)),iB (.int i),iB (pD (pa l i)),iB (.int j)]:=by simp [jR,qb7,ixD,wa,hg,qD,jq,h,vD]
   rw [s1];exact YA s (iB (.int j)) (λk b=>hj k (ac _ b))
theorem qiK (n:Nat):ge 0 n=(au n).map λ(j:Nat)=>.int j:=by unfold ge;simp
variable {f:Sl->Out (D×Sl)}
theorem iR0 {k:Int} (h0:0<=k) (h1:k<=2000) (h:f ρ=.ok (.int k,ρ1)):jB f ρ=.ok (ge 0 k.toNat,ρ1):=by
 have c:-(2 ^ 62:Int)<=k/\k < 2 ^ 62:=by omega
 simp [jB,h,-Int.reducePow,c]
theorem iR1 (h:f ρ=.ok (.int n,ρ1)) (a:n<=2000):jB f ρ=.ok ((au n).map λ(j:Nat)=>.int j,ρ1):=by rw [iR0 (by omega) (by omega) h,qiK,dD]
abbrev clS (l:List (Str×Str)) (i:Nat) (z:Option D):Sl:=[iB (.lst (qr l)),iB (.int i),iB (pD (pa l i)),z]
theorem qb9 (hl:l.length<=100) (hi:i < l.length) (z:Option D):(∃ x,qb8 (clS l i z)=.ok (.nx,clS l i x)/\(au i).find? (clP l i)=iD)
  \/ ∃ a ρ',(au i).find? (clP l i)=iB a/\qb8 (clS l i z)=.ok (.rt (.tup [.int a,.int i]),ρ'):=by
 have h:=iR1 (f:=qd 1) (ρ:=clS l i z) (ρ1:=clS l i z) (n:=i) rfl (by omega);have d:qb8 (clS l i z)=jR (gNm 3) qb7 ((au i).map λ(j:Nat)=>.int j) (clS l i z):=by show (jB (qd 1) (clS l i z)).bind (λp=>jR (gNm 3) qb7 p.1 p.2)=_;rw [h,kN]
 rw [d];exact YA (l:=l) (i:=i) (au i) z (λj G=>by have:=aM.mp G; omega)
noncomputable def clF (l:List (Str×Str)) (i:Nat):Option (Nat×Nat):=((au i).find? (clP l i)).map λa=>(a,i)
variable {B:Sl->Out (Fl×Sl)}
theorem qar (o:∀ i,i < l.length->∀ z,(∃ c,B (clS l i z)=.ok (.nx,clS l i c)/\(au i).find? (clP l i)=iD)
  \/ ∃ a ρ',(au i).find? (clP l i)=iB a/\B (clS l i z)=.ok (.rt (.tup [.int a,.int i]),ρ')):∀ (is:List Nat) (x y z:Option D),(∀ i∈is,i < l.length) ->
  (∃ c s f,jR (wc 2 (qU (gNm 1) (qU (gNm 2) wb))) B (is.map λ(j:Nat)=>.tup [.int j,pD (pa l j)]) [iB (.lst (qr l)),x,y,z]=.ok (.nx,[iB (.lst (qr l)),c,s,f])/\is.findSome? (clF l)=iD)
  \/ ∃ (a b:Nat) (ρ':Sl),is.findSome? (clF l)=iB (a,b)/\jR (wc 2 (qU (gNm 1) (qU (gNm 2) wb))) B (is.map λ(j:Nat)=>.tup [.int j,pD (pa l j)]) [iB (.lst (qr l)),x,y,z]=.ok (.rt (.tup [.int a,.int b]),ρ'):=by
 intro is
 induction is with
 | nil=>exact λx y z _=>.inl ⟨x,y,z,rfl,rfl⟩
 | cons i is h=>
  intro x y z hi;rw [dX];rcases o i (hi i (ai ..)) z with ⟨c,e,n⟩ | ⟨a,ρ',m,e⟩
  ·have s1:jR (wc 2 (qU (gNm 1) (qU (gNm 2) wb))) B ((i::is).map λ(j:Nat)=>.tup [.int j,pD (pa l j)]) [iB (.lst (qr l)),x,y,z]=jR (wc 2 (qU (gNm 1) (qU (gNm 2) wb))) B (is.map λ(j:Nat)=>.tup [.int j,pD (pa l j)]) (clS l i c):=by simp [jR,wc,qU,wb,e]
   have d:clF l i=none:=by unfold clF; rw [n]; rfl
   rw [s1,d];exact h (iB (.int i)) (iB (pD (pa l i))) c (λk g=>hi k (ac _ g))
  ·have d:clF l i=iB (a,i):=by unfold clF; rw [m]; rfl
   rw [d];refine .inr ⟨a,i,ρ',rfl,?_⟩;simp [jR,wc,qU,wb,e]
noncomputable def clo (l:List (Str×Str)):Option (Nat×Nat):=(au l.length).findSome? (clF l)
noncomputable def clD:Option (Nat×Nat)->D
 | none=>.non
 | some x=>.tup [.int x.1,.int x.2]
theorem yJ (hl:l.length<=100):vf [.lst (qr l)]=.ok (clD (clo l),[.non]):=by
 refine runD_ap.trans ?_;rcases qar (l:=l) (B:=qb8) (λi hi z=>qb9 (by omega) hi z) (au l.length) iD iD iD (λj G=>aM.mp G) with ⟨x,s,c,e,n⟩ | ⟨a,b,ρ',n,e⟩
 all_goals
  rw [<-Yz] at e;have n:clo l=_:=n;rw [n];simp [xJ,qx,qv,GA,e,clD]
theorem qek (hw:jM ws) (hl:VS p q) (e:vf [.lst (qr (qy ws p q))]=.ok (d,[.non])):WQ [Wd ws,Ld p q]=.ok (d,[.non,.non]):=by have h:=yg hw hl;refine runD_ap.trans ?_;simp [WP,qx,qv,qD,jq,h,e]
noncomputable def co (x:Str×Str) (c:Str):Int:=(if x.1=c then 1 else 0)+if x.2=c then 1 else 0
noncomputable def cn (K:List (Str×Str)) (c:Str):Int:=(K.map λx=>co x c).sum
theorem qca (x:Str×Str) (c:Str):0<=co x c/\co x c<=2:=by unfold co;split <;> split <;> omega
theorem qas (x:Str×Str) (c:Str):yo (pD x) (.str c)=.ok (.int (co x c)):=by obtain ⟨a,b⟩:=x;have h:=uK c [a,b];have h:zp 7 (.str c) [.str a,.str b]=iB (decide (c∈[a,b])):=h;unfold yo co;simp only [h];by_cases q:a=c <;> by_cases e:b=c <;> simp [eqN,eqS,q,e]
theorem qat {l:List Int} (h1:l.length<=1000) (h2:∀ k∈l,0<=k/\k<=100000):Jp (.lst (l.map D.int))=.ok (.int l.sum):=by
 have:l.length<=1000/\(l.all λk=>decide (0<=k/\k<=100000))=true:=⟨h1,aJ.mpr λk h=>decide_eq_true (h2 k h)⟩
 simp only [Jp,uy,if_pos this]
variable {K:List (Str×Str)}
theorem qel (m:K.length<=100) (c:Str) (a b:Option D):qY [] 1 [3] (jy (qd 1)) (gNm 0) ftT (dM qeX yo (qd 0) (qd 1)) [a,iB (.lst (qr K)),b,iB (.str c)]=.ok (.lst ((K.map λx=>co x c).map D.int),[a,iB (.lst (qr K)),b,iB (.str c)]):=by have e:=vA (cap:=[3]) (fi:=jy (qd 1)) (ρ:=[a,iB (.lst (qr K)),b,iB (.str c)]) (ρ1:=[a,iB (.lst (qr K)),b,iB (.str c)]) (ds:=qr K) (fe:=dM qeX yo (qd 0) (qd 1)) (λd=>match d with | .tup [.str x,.str y]=>.int (co (x,y) c) | d=>d) (by simp [ju]) (by unfold qr; rw [ah]; exact ji (by omega)) (λd hd=>by obtain ⟨x,hx,rfl⟩:=aw.mp hd;have h:=qas x c;have h:yo (.tup [.str x.1,.str x.2]) (.str c)=.ok (.int (co x c)):=h;simp [dM,qeX,h]);rw [e];congr 2;simp [qr]
noncomputable def lo (K:List (Str×Str)) (x:Str×Str):Bool:=decide (cn K x.1=1)||decide (cn K x.2=1)
theorem qcO (K L:List (Str×Str)) (c:Str):cn (K++L) c=cn K c+cn L c:=by unfold cn;rw [cQ,hJ]
theorem qgk (K:List (Str×Str)) (c:Str):0<=cn K c:=by
 induction K with
 | nil=>exact Int.le_refl _
 | cons x K j=>have:=qca x c;show 0<=co x c+cn K c;omega
theorem qgl:∀ {K L:List (Str×Str)},K.Sublist L->∀ c,cn K c<=cn L c:=by
 intro K L h
 induction h with
 | slnil=>intro c; exact Int.le_refl _
 | cons x h j=>intro c;have:=qca x c;have:=j c;show _<=co x c+cn _ c;omega
 | cons_cons x h j=>intro c;have:=j c;show co x c+cn _ c<=co x c+cn _ c;omega
def NA (K:List (Str×Str)):Prop:=K.Pairwise λx y=>al x y=iF
abbrev Cn:=List Str×List Str
abbrev sE (l:List Str):D:=.lst (l.map D.str)
noncomputable def cE (c:Cn):D:=.tup [sE c.1,sE c.2]
noncomputable def st1 (c:Cn) (y:Str):Cn:=if y∈c.1 then (c.1.erase y,c.2) else (c.1,c.2++[y])
noncomputable def un (x y:Str×Str):Cn:=st1 (st1 ([x.1,x.2],[]) y.1) y.2
abbrev unB:Sl->Out (Fl×Sl):=(sIf (qP (d2 inA (qd 4) (qd 2))) (vj (xY 2 qd2 (qd 4))) (vj (xY 3 Wp (qd 4))))
theorem qh7 (y:Str) (l:List Str):inA (.str y) (sE l)=.ok (.bl (decide (y∈l))):=by show (inD (.str y) (.lst (l.map D.str))).bind _=_;unfold inD;simp only [uK];rfl
variable {c:Cn} {b:Option D}
theorem qau {a:Option D} (h2:c.2.length<=2) (y:Str):unB [a,b,iB (sE c.1),iB (sE c.2),iB (.str y)]=.ok (.nx,[a,b,iB (sE (st1 c y).1),iB (sE (st1 c y).2),iB (.str y)]):=by
 have h:=qh7 y c.1;have hz:c.2.length < sizeLine:=aH (by omega) big;unfold st1;by_cases q:y∈c.1
 ·rw [if_pos q];have f:qd2 (c.1.map D.str) (.str y)=.ok ((c.1.erase y).map D.str):=by unfold qd2;simp only [wD,if_pos q]
  simp [unB,h,q,xY,yA,sE,f]
 ·rw [if_neg q];have g:Wp (c.2.map D.str) (.str y)=.ok ((c.2++[y]).map D.str):=by unfold Wp;rw [ah,if_pos hz];simp
  simp [unB,h,q,xY,yA,sE,g]
theorem Um (c:Cn) (y:Str):(st1 c y).1.length<=c.1.length/\(st1 c y).2.length<=c.2.length+1:=by
 unfold st1;split;·exact ⟨List.length_erase_le,ir _⟩
 ·simp
theorem qgm (x y:Str×Str):(un x y).1.length<=2/\(un x y).2.length<=2:=by have h1:=Um ([x.1,x.2],[]) y.1;have h2:=Um (st1 ([x.1,x.2],[]) y.1) y.2;unfold un;simp at h1;omega
variable {g:D->Sl->Out Sl} {ρ2:Sl}
theorem qjj {d1 d2:D} {d k A:Sl} (h1:g d1 d=.ok ρ1) (h2:B ρ1=.ok (.nx,ρ2)) (h3:g d2 ρ2=.ok k) (a:B k=.ok (.nx,A)):jR g B [d1,d2] d=.ok (.nx,A):=by simp [jR,h1,h2,h3,a]
theorem Uo (x y:Str×Str):kz [pD x,pD y]=.ok (cE (un x y),[.non,.non]):=by
 refine runD_ap.trans ?_;have h1:=Um ([x.1,x.2],[]) y.1;have e1:=qau (a:=iB (pD x)) (b:=iB (pD y)) (c:=([x.1,x.2],[])) (by simp) y.1;have i:=qau (a:=iB (pD x)) (b:=iB (pD y)) (c:=st1 ([x.1,x.2],[]) y.1) (by simp at h1; omega) y.2;have hz:2<=sizeLine:=ji (by omega);have h:0<=sizeLine:=bi _;have E:jR (gNm 4) unB [.str y.1,.str y.2] [iB (pD x),iB (pD y),iB (sE [x.1,x.2]),iB (sE []),iD]=.ok (.nx,[iB (pD x),iB (pD y),iB (sE (un x y).1),iB (sE (un x y).2),iB (.str y.2)]):=by have e:unB [iB (pD x),iB (pD y),iB (sE [x.1,x.2]),iB (sE []),iB (.str y.1)]=_:=e1;exact qjj rfl e rfl i
 unfold xO;rw [show qx xN [pD x,pD y]=[iB (pD x),iB (pD y),iD,iD,iD] from rfl];refine (qF (ρ1:=[iB (pD x),iB (pD y),iB (sE [x.1,x.2]),iD,iD]) (by simp [qdJ,sE,hz])).trans ?_;refine (qF (ρ1:=[iB (pD x),iB (pD y),iB (sE [x.1,x.2]),iB (sE []),iD]) (by simp [sE])).trans ?_;refine (qF (ρ1:=[iB (pD x),iB (pD y),iB (sE (un x y).1),iB (sE (un x y).2),iB (.str y.2)]) (by rw [we,show jy (qd 1) [iB (pD x),iB (pD y),iB (sE [x.1,x.2]),iB (sE []),iD]=.ok ([.str y.1,.str y.2],[iB (pD x),iB (pD y),iB (sE [x.1,x.2]),iB (sE []),iD]) from rfl,kN];exact E)).trans ?_;simp [qv,cE,hz]
noncomputable def CT (l:List (Str×Str)):List Cn:=(au l.length).flatMap λj=>(l.take j).map λa=>un a (pa l j)
abbrev ctB:Sl->Out (Fl×Sl):=(vj (xY 1 Wq (qY [1] 1 [3] (jy (jX (qd 0) iD (iB (qd 2)))) (gNm 0) ftT (qw [.vl,.vl] kz (qc (qd 0) (qc (qd 1) qG))))))
variable {j:Nat}
theorem qem (hl:l.length<=10) (G:j < l.length) (f:Option D):qY [1] 1 [3] (jy (jX (qd 0) iD (iB (qd 2)))) (gNm 0) ftT (qw [.vl,.vl] kz (qc (qd 0) (qc (qd 1) qG))) [iB (.lst (qr l)),f,iB (.int j),iB (pD (pa l j))]
  = .ok (.lst (((l.take j).map λa=>un a (pa l j)).map cE),[iB (.lst (qr l)),f,iB (.int j),iB (pD (pa l j))]):=by
 have c:GF (qr l) iD (iB (j:Int))=qr (l.take j):=by
  unfold GF;rw [HT.sIx_none,HT.sIx_nat];have:(qr l).length=l.length:=by simp [qr]
  rw [this,show min j l.length - 0=j by omega];simp [qr]
 have hi:jy (jX (qd 0) iD (iB (qd 2))) [iB (.lst (qr l)),f,iB (.int j),iB (pD (pa l j))]=.ok (qr (l.take j),[iB (.lst (qr l)),f,iB (.int j),iB (pD (pa l j))]):=by simp [jy,jX,ut,qd4,c,ju]
 have e:=Ud (own:=[1]) (cap:=[3]) (fi:=jy (jX (qd 0) iD (iB (qd 2)))) (ρ:=[iB (.lst (qr l)),f,iB (.int j),iB (pD (pa l j))]) (ρ1:=[iB (.lst (qr l)),f,iB (.int j),iB (pD (pa l j))]) (ds:=qr (l.take j)) (fe:=qw [.vl,.vl] kz (qc (qd 0) (qc (qd 1) qG))) (λd=>match d with | .tup [.str x,.str y]=>cE (un (x,y) (pa l j)) | d=>d) (by simp) hi (by simp only [qr,ah,bO]; exact ji (by omega)) (λd hd=>by obtain ⟨x,hx,rfl⟩:=aw.mp hd;have h:=Uo x (pa l j);have h:kz [.tup [.str x.1,.str x.2],pD (pa l j)]=.ok (cE (un x (pa l j)),[.non,.non]):=h;simp [qD,jq,h]);rw [e];congr 2;unfold qr;rw [bb,bb];rfl
theorem qav (hl:l.length<=10):∀ (s:List Nat) (f:List Cn) (x y:Option D),(∀ j∈s,j < l.length)->f.length+10 * s.length<=500 ->∃ n b,jR (wc 2 (qU (gNm 2) (qU (gNm 3) wb))) ctB (s.map λ(j:Nat)=>.tup [.int j,pD (pa l j)]) [iB (.lst (qr l)),iB (.lst (f.map cE)),x,y]
   = .ok (.nx,[iB (.lst (qr l)),iB (.lst ((f++s.flatMap λj=>(l.take j).map λa=>un a (pa l j)).map cE)),n,b])
 | [],f,x,y,_,_=>⟨x,y,by simp [jR]⟩
 | j::s,f,x,y,hj,hf=>by
  rw [ao] at hf;have h:=hj j (ai ..);have t:(l.take j).length<=10:=by rw [bO]; omega
  obtain ⟨n,b,e⟩:=qav hl s (f++(l.take j).map λa=>un a (pa l j)) (iB (.int j)) (iB (pD (pa l j))) (λi hi=>hj i (ac _ hi)) (by rw [aj,ah]; omega);refine ⟨n,b,?_⟩;rw [cc,<-bB,<-e];have d:=qem hl h (iB (.lst (f.map cE)));have hz:(f.map cE).length+(((l.take j).map λa=>un a (pa l j)).map cE).length<=sizeLine:=by rw [ah,ah,ah]; exact ji (by omega)
  have hx:Wq (f.map cE) (.lst (((l.take j).map λa=>un a (pa l j)).map cE))=.ok ((f++(l.take j).map λa=>un a (pa l j)).map cE):=by unfold Wq;simp only [if_pos hz,<-cQ]
  generalize ((l.take j).map λa=>un a (pa l j)).map cE=M at d hx;generalize (f++(l.take j).map λa=>un a (pa l j)).map cE=M2 at hx ⊢;generalize f.map cE=M1 at d hx ⊢;generalize D.lst (qr l)=Z at d ⊢;simp [jR,wc,qU,wb,ctB,xY,yA,d,hx]
theorem VL (hl:l.length<=10):wl [.lst (qr l)]=.ok (.lst ((CT l).map cE),[.non]):=by refine runD_ap.trans ?_;obtain ⟨n,s,e⟩:=qav hl (au l.length) [] iD iD (λj G=>aM.mp G) (by simp; omega);rw [<-Yz] at e;have e:jR (wc 2 (qU (gNm 2) (qU (gNm 3) wb))) ctB (Vg (qr l)) [iB (.lst (qr l)),iB (.lst []),iD,iD]=.ok (.nx,[iB (.lst (qr l)),iB (.lst ((CT l).map cE)),n,s]):=e;have a:0<=sizeLine:=bi _;generalize (CT l).map cE=M at e ⊢;simp [wk,qx,qv,GA,e]
theorem qgn (l:List (Str×Str)) (hl:l.length<=10):(CT l).length<=100:=by
 unfold CT;have:∀ s:List Nat,(s.flatMap λj=>(l.take j).map λa=>un a (pa l j)).length<=10 * s.length:=λs=>by
  induction s with
  | nil=>simp
  | cons j s i=>rw [cc,aj,ah,bO,ao];omega
 have:=this (au l.length);rw [bC] at this;omega
theorem qcP (h:c∈CT l):c.1.length<=2/\c.2.length<=2:=by obtain ⟨j,_,h⟩:=df.mp h;obtain ⟨a,_,rfl⟩:=aw.mp h;exact qgm a _
abbrev Fx:=List (Key×D)
def qaO (k:Fx):Prop:=∀ kv∈k,∃ v:Int,kv.2=.int v/\0<=v/\v<=1000
noncomputable def vl (k:Fx) (x:Str):Int:=match k.find? λkv=>decide (kv.1=cw x) with
 | some (_,.int v)=>v
 | _=>0
theorem qgo {k:Fx} (a:qaO k) (h:kQ k (.inr x)=iH):ixD (.dct k) (.str x)=.ok (.int (vl k x))/\0<=vl k x/\vl k x<=1000:=by
 unfold kQ at h;cases q:k.find? λkv=>decide (kv.1=cw x) with
 | none=>rw [cu] at q;obtain ⟨p,hp,h⟩:=fm.mp h;exact absurd h (q p hp)
 | some kv=>
  obtain ⟨v,e,h1,h2⟩:=a kv (List.mem_of_find?_eq_some q);obtain ⟨k0,d⟩:=kv;have e:d=.int v:=e;subst e;have i:vl k x=v:=by unfold vl; simp only [q]
  rw [i];exact ⟨by unfold ixD; simp only [q],h1,h2⟩
theorem qh8 {Cs:List α} {cap:List Nat} {fe:Sl->Out (D×Sl)} (A B:α->D) (h:fi ρ=.ok (Cs.map A,ρ)) (hl:Cs.length<=sizeLine)
  (t:∀ c∈Cs,fe (iB (A c)::cap.map λk=>(ρ[k]?).getD iD)=.ok (B c,iB (A c)::cap.map λk=>(ρ[k]?).getD iD)):qY [] 1 cap fi (gNm 0) ftT fe ρ=.ok (.lst (Cs.map B),ρ):=by
 have key:∀ (l:List α) (x:Option D),(∀ c∈l,c∈Cs)->∃ n,kM (gNm 0) ftT fe (l.map A) (x::cap.map λk=>(ρ[k]?).getD iD)=.ok (l.map B,n::cap.map λk=>(ρ[k]?).getD iD):=by
  intro l
  induction l with
  | nil=>intro x _; exact ⟨x,rfl⟩
  | cons c l j=>intro x a;obtain ⟨n,e⟩:=j (iB (A c)) λd hd=>a d (ac _ hd);have h1:=t c (a c (ai ..));exact ⟨n,by simp [kM,Wl,h1,e]⟩
 obtain ⟨n,e⟩:=key Cs iD λ_ h=>h;unfold qY;rw [h];simp only [kN];rw [if_pos (by rw [ah]; exact hl),show vn 1 cap ρ=iD::cap.map λk=>(ρ[k]?).getD iD from rfl,e];simp only [kN];rw [xR (own:=[]) _ cap 1 ρ λ_ _=>bH]
noncomputable def md (r:Int) (k:Fx) (c:Cn):Bool:=if ((c.1++c.2).all λx=>kQ k (.inr x))=iH then decide (¬((c.1.map (vl k)).sum - (c.2.map (vl k)).sum) % r=0) else iH
theorem YB {k:Fx} (a:qaO k) (j:Nat) {l:List Str} (hl:l.length<=2) (g:∀ x∈l,kQ k (.inr x)=iH) (h1:ρ[j]?=iB (iB (sE l))) (h2:ρ[2]?=iB (iB (.dct k))):d1 Jp (qY [] 1 [2] (jy (qd j)) (gNm 0) ftT (d2 ixD (qd 1) (qd 0))) ρ=.ok (.int (l.map (vl k)).sum,ρ):=by
 have e:=vA (cap:=[2]) (fi:=jy (qd j)) (ρ:=ρ) (ρ1:=ρ) (ds:=l.map D.str) (fe:=d2 ixD (qd 1) (qd 0)) (λd=>match d with | .str x=>.int (vl k x) | d=>d) (by simp [h1,ju]) (by rw [ah]; exact ji (by omega)) (λd hd=>by obtain ⟨x,hx,rfl⟩:=aw.mp hd;have h:=(qgo a (g x hx)).1;simp [h2,h]);have b:(l.map D.str).map (λd=>match d with | .str x=>.int (vl k x) | d=>d)=(l.map (vl k)).map D.int:=by rw [bb,bb];rfl
 rw [b] at e;have c:=qat (l:=l.map (vl k)) (by rw [ah]; omega) λi hi=>by obtain ⟨x,hx,rfl⟩:=aw.mp hi;have:=(qgo a (g x hx)).2;omega
 rw [xD,e];simp only [kN];rw [c];rfl
theorem qgp (h1:c.1.length<=2) (h2:c.2.length<=2) (f:0 < r) {k:Fx} (a:qaO k):kG [cE c,.int r,.dct k]=.ok (.bl (md r k c),[.non,.non,.non]):=by
 refine runD_ap.trans ?_;have z:(c.1.map D.str).length+(c.2.map D.str).length<=sizeLine:=by rw [ah,ah]; exact ji (by omega)
 have hi:jy (d2 kK (qd 3) (qd 4)) [iB (cE c),iB (.int r),iB (.dct k),iB (sE c.1),iB (sE c.2)]=.ok ((c.1++c.2).map D.str,[iB (cE c),iB (.int r),iB (.dct k),iB (sE c.1),iB (sE c.2)]):=by
  have:kK (sE c.1) (sE c.2)=.ok (.lst ((c.1++c.2).map D.str)):=by unfold kK;simp only [if_pos z,cQ]
  generalize sE c.1=U at this ⊢;generalize sE c.2=V at this ⊢;simp [this,ju]
 have e:=vA (cap:=[2]) (fi:=jy (d2 kK (qd 3) (qd 4))) (ρ:=[iB (cE c),iB (.int r),iB (.dct k),iB (sE c.1),iB (sE c.2)]) (ρ1:=[iB (cE c),iB (.int r),iB (.dct k),iB (sE c.1),iB (sE c.2)]) (ds:=(c.1++c.2).map D.str) (fe:=d2 inA (qd 0) (qd 1)) (λd=>match d with | .str x=>.bl (kQ k (.inr x)) | d=>d) hi (by rw [ah,aj]; exact ji (by omega)) (λd hd=>by obtain ⟨x,hx,rfl⟩:=aw.mp hd;simp [inA,VU]);have i:((c.1++c.2).map D.str).map (λd=>match d with | .str x=>.bl (kQ k (.inr x)) | d=>d)=(c.1++c.2).map λx=>D.bl (kQ k (.inr x)):=by rw [bb];rfl
 rw [i] at e;have g:=yf (λx=>kQ k (.inr x)) (c.1++c.2);have hA:d1 UN (qY [] 1 [2] (jy (d2 kK (qd 3) (qd 4))) (gNm 0) ftT (d2 inA (qd 0) (qd 1))) [iB (cE c),iB (.int r),iB (.dct k),iB (sE c.1),iB (sE c.2)]=.ok (.bl ((c.1++c.2).all λx=>kQ k (.inr x)),[iB (cE c),iB (.int r),iB (.dct k),iB (sE c.1),iB (sE c.2)]):=by rw [xD,e];simp only [kN];rw [g];rfl
 unfold uG md;rw [show qx kf [cE c,.int r,.dct k]=[iB (cE c),iB (.int r),iB (.dct k),iD,iD] from rfl];refine (qF (ρ1:=[iB (cE c),iB (.int r),iB (.dct k),iB (sE c.1),iD]) (by simp [cE,ixD,at0])).trans ?_;refine (qF (ρ1:=[iB (cE c),iB (.int r),iB (.dct k),iB (sE c.1),iB (sE c.2)]) (by simp [cE,ixD,at1])).trans ?_;cases q:(c.1++c.2).all λx=>kQ k (.inr x) with
 | false=>rw [q] at hA;simp [-xD,hA,vD,qv]
 | true=>rw [q] at hA;have h:=aJ.mp q;have s1:=YB a 3 h1 (λx hx=>h x (aI.mpr (.inl hx))) (ρ:=[iB (cE c),iB (.int r),iB (.dct k),iB (sE c.1),iB (sE c.2)]) rfl rfl;have s2:=YB a 4 h2 (λx hx=>h x (aI.mpr (.inr hx))) (ρ:=[iB (cE c),iB (.int r),iB (.dct k),iB (sE c.1),iB (sE c.2)]) rfl rfl;refine (qF (ρ1:=[iB (cE c),iB (.int r),iB (.dct k),iB (sE c.1),iB (sE c.2)]) (by simp [-xD,hA,vD])).trans ?_;by_cases b:((c.1.map (vl k)).sum - (c.2.map (vl k)).sum) % r=0 <;> simp [-xD,s1,s2,Wg,UA,Kf,f,neD,eqN,eqS,qv,b]
theorem qen {k:Fx} (hl:k.length<=100) (x:Str) (v:Int):vQ [.dct k,.str x,.int v]=.ok (.dct (ww k (.inr x) (.int v)),[.non,.non,.non]):=by refine runD_ap.trans ?_;have hz:k.length < sizeLine:=aH (by omega) big;simp [uH,qx,qv,Vk,Vi,VU,hz]
theorem qaw (k:Fx) (x:Key) (d:D):(ww k x d).length<=k.length+1:=by unfold ww;split <;> simp
theorem qgq {k:Fx} (b:qaO k) (x:Key) {v:Int} (h0:0<=v) (h1:v<=1000):qaO (ww k x (.int v)):=by
 unfold ww;intro kv a;split at a
 ·obtain ⟨p,hp,rfl⟩:=aw.mp a;split;·exact ⟨v,rfl,h0,h1⟩
  ·exact b p hp
 ·rcases aI.mp a with h | h;·exact b kv h
  ·rw [aD.mp h];exact ⟨v,rfl,h0,h1⟩
abbrev cfB (gr:List D->Out (D×List D)):Sl->Out (Fl×Sl):=(sIf (yl (qw [.vl,.vl,.vl,.vl] gr (qc (qd 0) (qc (qd 1) (qc (qw [.vl,.vl,.vl] vQ (qc (qd 2) (qc (d2 ixD (qd 3) (dC (.int 0))) (qc (qd 5) qG)))) (qc (jX (qd 3) (iB (dC (.int 1))) iD) qG)))))) (jt (dC (.bl iH))) jf)
theorem qgr (x:Str) (ls:List Str):ixD (sE (x::ls)) (.int 0)=.ok (.str x)/\qd4 (iB 1) iD (sE (x::ls))=.ok (sE ls):=by
 refine ⟨by simp [ixD,at0],?_⟩;have:GF ((x::ls).map D.str) (iB 1) iD=ls.map D.str:=by unfold GF;rw [HT.sIx_none,show (iB (1:Int))=iB ((1:Nat):Int) from rfl,HT.sIx_nat];simp;exact List.take_of_length_le (by simp)
 show Out.ok (D.lst (GF ((x::ls).map D.str) (iB 1) iD))=_;rw [this]
variable {Cs:List Cn}
theorem qeo (hC:∀ c∈Cs,c.1.length<=2/\c.2.length<=2) (n:Cs.length<=100) (f:0 < r) {k:Fx} (g:qaO k) (a b c:Option D):d1 UN (qY [] 1 [1,2] (jy (qd 0)) (gNm 0) ftT (qw [.vl,.vl,.vl] kG (qc (qd 0) (qc (qd 1) (qc (qd 2) qG))))) [iB (.lst (Cs.map cE)),iB (.int r),iB (.dct k),a,b,c]=.ok (.bl (Cs.all (md r k)),[iB (.lst (Cs.map cE)),iB (.int r),iB (.dct k),a,b,c]):=by
 have e:=qh8 (Cs:=Cs) (ρ:=[iB (.lst (Cs.map cE)),iB (.int r),iB (.dct k),a,b,c]) (cap:=[1,2]) (fi:=jy (qd 0)) (fe:=qw [.vl,.vl,.vl] kG (qc (qd 0) (qc (qd 1) (qc (qd 2) qG)))) cE (λc=>.bl (md r k c)) (by simp [ju]) (ji (by omega)) λc d=>by have h:=qgp (hC c d).1 (hC c d).2 f g;generalize cE c=Z at h ⊢;simp [qD,jq,h]
 rw [xD,e];simp only [kN];rw [yf];rfl
theorem qcb (n:Nat):ge 0 n=((au n).map λ(j:Nat)=>(j:Int)).map D.int:=by rw [qiK,bb];rfl
theorem YC (l:List (Str×Str)):(LS l).length<=2 * l.length:=by unfold LS;rw [(qI _).length_eq];have:=gq (l.map (·.1)++l.map (·.2)) [];simp only [aj,ah,aZ] at this;omega
noncomputable def nu (v:Str->Int) (p:Str×Str):Int:=v p.1+v p.2
def Ds (r:Int) (v:Str->Int) (K:List (Str×Str)):Prop:=K.Pairwise λp q=>¬r ∣ nu v p - nu v q
def Ext (k:Fx) (v:Str->Int):Prop:=∀ x,kQ k (.inr x)=iH->v x=vl k x
def OKs (r:Int) (k:Fx) (K:List (Str×Str)):Prop:=∃ v,Ext k v/\Ds r v K
theorem qep {a b:Int} (h:¬r ∣ a - b):¬r ∣ b - a:=λz=>h (by have:=Int.dvd_neg.mpr z;rwa [Int.neg_sub] at this)
variable {v:Str->Int}
theorem ds_mid {A C:List (Str×Str)} {x:Str×Str}:Ds r v (A++x::C)↔(∀ p∈A++C,¬r ∣ nu v x - nu v p)/\Ds r v (A++C):=by unfold Ds;rw [List.pairwise_middle λh=>qep h,be]
theorem qcQ {α:Type} [DecidableEq α]:∀ {a b:List α},a.Nodup->(∀ x∈a,x∈b)->a.length<=b.length
 | [],_,_,_=>bi _
 | x::a,b,hn,h=>by obtain ⟨h1,h2⟩:=aP.mp hn;have hx:=h x (ai ..);have j:=qcQ (b:=b.erase x) h2 λy B=>(List.mem_erase_of_ne λ(z:y=x)=>h1 (z ▸ B)).mpr (h y (ac _ B));rw [d6 hx] at j;have:=dq hx;rw [ao];omega
theorem YD (f:1<=r) (bad:List Int) (h:(bad.length:Int) < r):∃ t:Int,0<=t/\t < r/\t∉bad:=by
 refine bI λz=>?_;have c:∀ t∈(au r.toNat).map λ(j:Nat)=>(j:Int),t∈bad:=λt l=>by obtain ⟨j,G,rfl⟩:=aw.mp l;have:=aM.mp G;exact bI λq=>z ⟨j,by omega,by omega,q⟩
 have R:((au r.toNat).map λ(j:Nat)=>(j:Int)).Nodup:=List.pairwise_map.mpr (List.nodup_range.imp λ{a b} d e=>d (by omega));have:=qcQ R c;rw [ah,bC] at this;omega
noncomputable def loK (k:Fx) (K:List (Str×Str)) (x:Str×Str):Bool:=(!kQ k (.inr x.1)&&decide (cn K x.1=1))||(!kQ k (.inr x.2)&&decide (cn K x.2=1))
theorem qcR (A C:List (Str×Str)) (x:Str×Str) (c:Str):cn (A++x::C) c=co x c+cn (A++C) c:=by rw [qcO,qcO];show cn A c+(co x c+cn C c)=_;omega
theorem qeq {c:Str} (h:cn K c=0):∀ p∈K,p.1≠c/\p.2≠c:=λp hp=>by
 obtain ⟨A,C,rfl⟩:=List.append_of_mem hp;rw [qcR] at h;have h1:=qgk (A++C) c;have h2:=qca p c;have h3:co p c=0:=by omega
 unfold co at h3;refine ⟨λz=>?_,λz=>?_⟩;·rw [if_pos z] at h3;split at h3 <;> omega
 ·rw [if_pos z] at h3;split at h3 <;> omega
variable {K0:List (Str×Str)}
theorem qgs (E:1<=r) {k:Fx} {A C:List (Str×Str)} {x:Str×Str} (D:(A++x::C).Sublist K0) (hl:loK k K0 x=iH) (H:((A++x::C).length:Int)<=r) (h:OKs r k (A++C)):OKs r k (A++x::C):=by
 obtain ⟨v,s,hd⟩:=h;have key:∀ c d:Str,(∀ w:Str->Int,nu w x=w c+w d)->(c=x.1\/c=x.2)->kQ k (.inr c)=iF->cn K0 c=1->OKs r k (A++x::C):=λc d f K I h1=>by
  have T:=qgl D c;rw [qcR] at T;have G:=qgk (A++C) c;have J:1<=co x c:=by
   unfold co;rcases K with rfl | rfl
   ·rw [if_pos rfl];split <;> omega
   ·rw [if_pos (rfl:x.2=x.2)];split <;> omega
  have h0:cn (A++C) c=0:=by omega
  have hz:=qeq h0;have l:d≠c:=λz=>by
   have e:=f λy=>if y=c then 1 else 0
   subst z;unfold nu at e;have:co x d=2:=by unfold co;simpa using e
   omega
  obtain ⟨t,o,n,u⟩:=YD E ((A++C).map λp=>(nu v p - v d) % r) (by rw [ah];rw [aj,ao] at H;rw [aj];omega);refine ⟨λy=>if y=c then t else v y,λy B=>?_,ds_mid.mpr ⟨λp hp=>?_,?_⟩⟩
  ·have:y≠c:=λz=>by rw [z,I] at B; cases B
   show (if y=c then t else v y)=_;rw [if_neg this];exact s y B
  ·have e1:nu (λy=>if y=c then t else v y) x=t+v d:=by rw [f];simp [l]
   have m:nu (λy=>if y=c then t else v y) p=nu v p:=by obtain ⟨i,g⟩:=hz p hp;simp [nu,i,g]
   rw [e1,m];intro z;refine u (aw.mpr ⟨p,hp,?_⟩);have:r ∣ (nu v p - v d) - t:=by have:=Int.dvd_neg.mpr z;rw [show -(t+v d - nu v p)=nu v p - v d - t by omega] at this;exact this
   have L:(nu v p - v d) % r=t % r:=Int.emod_eq_emod_iff_emod_sub_eq_zero.mpr (Int.emod_eq_zero_of_dvd this);exact L.trans (fP o n)
  ·refine hd.imp_of_mem λ{p q} hp hq j=>?_;obtain ⟨p1,p2⟩:=hz p hp;obtain ⟨i,g⟩:=hz q hq;have e1:nu (λy=>if y=c then t else v y) p=nu v p:=by simp [nu,p1,p2]
   have m:nu (λy=>if y=c then t else v y) q=nu v q:=by simp [nu,i,g]
   rw [e1,m];exact j
 unfold loK at hl;rw [g9,aK,aK] at hl;rcases hl with ⟨a,b⟩ | ⟨a,b⟩
 ·exact key x.1 x.2 (λw=>rfl) (.inl rfl) (by simpa using a) (of_decide_eq_true b)
 ·exact key x.2 x.1 (λw=>Int.add_comm _ _) (.inr rfl) (by simpa using a) (of_decide_eq_true b)
noncomputable def peK (k:Fx) (K:List (Str×Str)):List (Str×Str):=K.filter λx=>!loK k K x
theorem qer (f:1<=r) {k:Fx} (a:(K0.length:Int)<=r):∀ (M A:List (Str×Str)),(A++M).Sublist K0->OKs r k (A++M.filter λx=>!loK k K0 x)->OKs r k (A++M)
 | [],A,_,h=>h
 | x::M,A,hs,h=>by
  have n:((A++x::M).length:Int)<=r:=by have:=hs.length_le;omega
  cases q:loK k K0 x with
  | false=>rw [List.filter_cons_of_pos (by simp [q])] at h;have:=qer f a M (A++[x]) (by simpa using hs) (by simpa using h);simpa using this
  | true=>rw [List.filter_cons_of_neg (by simp [q])] at h;exact qgs f hs q n (qer f a M A ((fQ A).append (List.sublist_cons_self x M) |>.trans hs) h)
theorem qgt (f:1<=r) {k:Fx} (n:(K.length:Int)<=r):OKs r k (peK k K)↔OKs r k K:=
 ⟨λh=>qer f n K [] (fQ _) h,λ⟨v,a,b⟩=>⟨v,a,List.Pairwise.sublist List.filter_sublist b⟩⟩
noncomputable def sv (v:Str->Int) (l:List Str):Int:=(l.map v).sum
noncomputable def Dc (v:Str->Int) (c:Cn):Int:=sv v c.1 - sv v c.2
theorem qgu (v:Str->Int) (a b:List Str):sv v (a++b)=sv v a+sv v b:=by unfold sv;rw [cQ,hJ]
theorem YE (v:Str->Int):∀ {l:List Str} {y:Str},y∈l->sv v (l.erase y)=sv v l - v y
 | x::l,y,h=>by
  by_cases q:x=y;·subst q;rw [List.erase_cons_head];show _=v x+sv v l - v x;omega
  ·rw [List.erase_cons_tail (by simpa using q)];have j:=YE v ((ae.mp h).resolve_left λz=>q z.symm);show v x+sv v (l.erase y)=v x+sv v l - v y;omega
theorem qgv (v:Str->Int) (c:Cn) (y:Str):Dc v (st1 c y)=Dc v c - v y:=by
 unfold st1 Dc;split;·rename_i h;show sv v (c.1.erase y) - sv v c.2=_;rw [YE v h];omega
 ·show sv v c.1 - sv v (c.2++[y])=_;rw [qgu,show sv v [y]=v y by simp [sv]];omega
theorem qh9 (v:Str->Int) (x y:Str×Str):Dc v (un x y)=nu v x - nu v y:=by unfold un;rw [qgv,qgv];simp [Dc,sv,nu];omega
theorem qgw (c:Cn) (y:Str):((st1 c y).1.length:Int) - (st1 c y).2.length=(c.1.length:Int) - c.2.length - 1:=by
 unfold st1;split;·rename_i h;show ((c.1.erase y).length:Int) - c.2.length=_;rw [d6 h];have:=dq h;omega
 ·show (c.1.length:Int) - (c.2++[y]).length=_;rw [aj];simp;omega
theorem qjk (x y:Str×Str):(un x y).1.length=(un x y).2.length:=by have h1:=qgw ([x.1,x.2],[]) y.1;have h2:=qgw (st1 ([x.1,x.2],[]) y.1) y.2;unfold un;simp at h1;omega
theorem qcS {P:Str->Prop} (h1:∀ z∈c.1++c.2,P z) (h2:P y):∀ z∈(st1 c y).1++(st1 c y).2,P z:=by
 unfold st1;split;·exact λz hz=>(aI.mp hz).elim (λq=>h1 z (aI.mpr (.inl (ff q)))) λq=>h1 z (aI.mpr (.inr q))
 ·intro z hz;rcases aI.mp hz with q | q;·exact h1 z (aI.mpr (.inl q))
  ·rcases aI.mp q with q | q;·exact h1 z (aI.mpr (.inr q))
   ·rw [aD.mp q]; exact h2
theorem qia {P:Str->Prop} {x y:Str×Str} (h1:P x.1) (h2:P x.2) (h3:P y.1) (a:P y.2):∀ z∈(un x y).1++(un x y).2,P z:=
 qcS (qcS (λz hz=>by
  simp at hz;rcases hz with rfl | rfl;·exact h1
  ·exact h2) h3) a
theorem ct_iff:c∈CT l↔∃ i j,∃ (hi:i < l.length) (G:j < l.length),i < j/\c=un l[i] l[j]:=by
 unfold CT;rw [df];constructor
 ·rintro ⟨j,G,h⟩;have G:=aM.mp G;obtain ⟨a,g,rfl⟩:=aw.mp h;obtain ⟨i,hi,rfl⟩:=List.mem_take_iff_getElem.mp g;refine ⟨i,j,by omega,G,by omega,?_⟩;have:pa l j=l[j]:=by unfold pa; rw [ay G]; rfl
  rw [this]
 ·rintro ⟨i,j,hi,G,b,rfl⟩;refine ⟨j,aM.mpr G,aw.mpr ⟨l[i],List.mem_take_iff_getElem.mpr ⟨i,by omega,rfl⟩,?_⟩⟩;have:pa l j=l[j]:=by unfold pa; rw [ay G]; rfl
  rw [this]
theorem ds_ct:Ds r v l↔∀ c∈CT l,¬r ∣ Dc v c:=by
 unfold Ds;rw [cK];constructor;·intro h c d;obtain ⟨i,j,hi,G,b,rfl⟩:=ct_iff.mp d;rw [qh9];exact h i j hi G b
 ·intro h i j hi G b;have:=h _ (ct_iff.mpr ⟨i,j,hi,G,b,rfl⟩);rw [qh9] at this;exact this
theorem qgx (h:c∈CT l):∀ z∈c.1++c.2,z∈LS l:=by obtain ⟨i,j,hi,G,_,rfl⟩:=ct_iff.mp h;have m1:=cr hi;have B:=cr G;exact qia (mem_LS.mpr ⟨_,m1,.inl rfl⟩) (mem_LS.mpr ⟨_,m1,.inr rfl⟩) (mem_LS.mpr ⟨_,B,.inl rfl⟩) (mem_LS.mpr ⟨_,B,.inr rfl⟩)
theorem qjl (h:c∈CT l):c.1.length=c.2.length:=by obtain ⟨i,j,hi,G,_,rfl⟩:=ct_iff.mp h;exact qjk _ _
theorem Qg {k:Fx} (h:kQ k (.inr x)=iF) (d:D):ww k (.inr x) d=k++[(.inr x,d)]:=by unfold ww;unfold kQ at h;rw [h];rfl
theorem uM {k:Fx} (h:kQ k (.inr x)=iF) (d:D) (y:Str):kQ (ww k (.inr x) d) (.inr y)=(kQ k (.inr y)||decide (x=y)):=by rw [Qg h];unfold kQ;rw [List.any_append];simp
theorem VM {k:Fx} (h:kQ k (.inr x)=iF) (w:Int):vl (ww k (.inr x) (.int w)) x=w/\∀ y,y≠x->vl (ww k (.inr x) (.int w)) y=vl k y:=by
 rw [Qg h];unfold vl;refine ⟨?_,λy B=>?_⟩
 ·have:(k.find? λkv=>decide (kv.1=cw x))=none:=by rw [cu];intro p hp z;unfold kQ at h;rw [fI] at h;exact h p hp z
  rw [eZ,this];simp
 ·rw [eZ];have:([(cw x,D.int w)]:Fx).find? (λkv=>decide (kv.1=cw y))=none:=by rw [cu];intro p hp z;rw [aD.mp hp] at z;have:=of_decide_eq_true z;exact B (cw.inj this).symm
  rw [this,Option.or_none]
theorem qgy {w:Str->Int} {l:List Str} (h:∀ x∈l,v x=w x):sv v l=sv w l:=by unfold sv;rw [List.map_congr_left h]
theorem qes {w:Str->Int} (h:∀ x∈c.1++c.2,v x=w x):Dc v c=Dc w c:=by unfold Dc;rw [qgy λx hx=>h x (aI.mpr (.inl hx)),qgy λx hx=>h x (aI.mpr (.inr hx))]
theorem qet {w:Str->Int} (h:∀ x,r ∣ v x - w x):∀ l:List Str,r ∣ sv v l - sv w l
 | []=>by simp [sv]
 | x::l=>by have j:=qet h l;show r ∣ (v x+sv v l) - (w x+sv w l);rw [show (v x+sv v l) - (w x+sv w l)=(v x - w x)+(sv v l - sv w l) by omega];exact fR (h x) j
theorem qib {w:Str->Int} (h:∀ x,r ∣ v x - w x) (d:¬r ∣ Dc v c):¬r ∣ Dc w c:=λz=>d (by
 have h1:=qet h c.1;have h2:=qet h c.2;have:Dc v c=(sv v c.1 - sv w c.1) - (sv v c.2 - sv w c.2)+Dc w c:=by unfold Dc; omega
 rw [this];exact fR (Int.dvd_sub h1 h2) z)
theorem md_iff {k:Fx}:md r k c=iH↔((∀ y∈c.1++c.2,kQ k (.inr y)=iH)->¬r ∣ Dc (vl k) c):=by
 unfold md;cases q:(c.1++c.2).all λx=>kQ k (.inr x) with
 | false=>
  have:¬∀ y∈c.1++c.2,kQ k (.inr y)=true:=λz=>by rw [aJ.mpr z] at q;cases q
  exact ⟨λ_ z=>absurd z this,λ_=>rfl⟩
 | true=>rw [if_pos rfl,decide_eq_true_eq];have l:=aJ.mp q;exact ⟨λh _ z=>h (Int.emod_eq_zero_of_dvd z),λh z=>h l (Int.dvd_of_emod_eq_zero z)⟩
noncomputable def chs (r:Int) (k:Fx):List Int:=if k=[] then [0] else (au r.toNat).map λ(j:Nat)=>(j:Int)
noncomputable def cf (r:Int) (Cs:List Cn):Nat->List Str->Fx->Bool
 | 0,_,_=>iF
 | n+1,ls,k=>Cs.all (md r k)&&(match ls with
  | []=>iH
  | x::ls=>(chs r k).any λw=>cf r Cs n ls (ww k (.inr x) (.int w)))
def qeZ (r:Int) (Cs:List Cn) (v:Str->Int):Prop:=∀ c∈Cs,¬r ∣ Dc v c
theorem qax {r:Int} (i:1<=r) {Cs:List Cn}:∀ (n:Nat) (ls:List Str) (k:Fx),ls.length < n->k≠[]->ls.Nodup->(∀ y∈ls,kQ k (.inr y)=iF)->(∀ c∈Cs,∀ y∈c.1++c.2,kQ k (.inr y)=iH\/y∈ls)->(cf r Cs n ls k=iH↔∃ v,Ext k v/\qeZ r Cs v)
 | 0,ls,k,h,_,_,_,_=>absurd h (d8 _)
 | n+1,ls,k,h,hk,hnd,hno,hin=>by
  have e:∀ v,Ext k v->qeZ r Cs v->Cs.all (md r k)=true:=λv a hg=>aJ.mpr λc d=>md_iff.mpr λl=>by rw [<-qes λy B=>a y (l y B)];exact hg c d
  cases ls with
  | nil=>show (Cs.all (md r k)&&iH)=iH↔_;rw [Bool.and_true];refine ⟨λh=>⟨vl k,λ_ _=>rfl,λc d=>md_iff.mp (aJ.mp h c d) λy B=>(hin c d y B).resolve_right λz=>by cases z⟩,λ⟨v,a,hg⟩=>e v a hg⟩
  | cons x ls=>
   have hx:=hno x (ai ..);obtain ⟨g,b⟩:=aP.mp hnd;have j:=λw=>qax i (Cs:=Cs) n ls (ww k (.inr x) (.int w)) (by rw [ao] at h; omega) (by rw [Qg hx]; simp) b (λy B=>by
    rw [uM hx,hno y (ac _ B)];simp;exact λz=>g (z ▸ B)) λc d y B=>by
    rw [uM hx];rcases hin c d y B with q | q;·exact .inl (by rw [q]; rfl)
    ·rcases ae.mp q with q | q;·exact .inl (by simp [q])
     ·exact .inr q
   show (Cs.all (md r k)&&(chs r k).any λw=>cf r Cs n ls (ww k (.inr x) (.int w)))=iH↔_;rw [aK,fm];constructor
   ·rintro ⟨_,w,_,hw⟩;obtain ⟨v,a,hg⟩:=(j w).mp hw;refine ⟨v,λy B=>?_,hg⟩;have f:y≠x:=λz=>by rw [z,hx] at B; cases B
    rw [a y (by rw [uM hx,B]; rfl),(VM hx w).2 y f]
   ·rintro ⟨v,a,hg⟩;refine ⟨e v a hg,v x % r,?_,(j _).mpr ⟨λy=>if y=x then v x % r else v y,λy B=>?_,λc d=>qib (λy=>?_) (hg c d)⟩⟩;·unfold chs;rw [if_neg hk];have h1:=d9 (v x) (show r≠0 by omega);have h2:=dn (v x) (show 0 < r by omega);exact aw.mpr ⟨(v x % r).toNat,aM.mpr (by omega),by omega⟩
    ·show (if y=x then v x % r else v y)=_;by_cases q:y=x;·rw [if_pos q,q,(VM hx _).1]
     ·rw [if_neg q,(VM hx _).2 y q];rw [uM hx] at B;refine a y ?_;simpa [show ¬x=y from λz=>q z.symm] using B
    ·show r ∣ v y - (if y=x then v x % r else v y);by_cases q:y=x;·rw [if_pos q,q];exact Int.dvd_self_sub_of_emod_eq rfl
     ·rw [if_neg q,im];exact ip r
theorem Kb (v:Str->Int) (t:Int):∀ l:List Str,sv (λy=>v y - t) l=sv v l - t * l.length
 | []=>by simp [sv]
 | x::l=>by have j:=Kb v t l;show (v x - t)+sv (λy=>v y - t) l=(v x+sv v l) - t * ((l.length+1:Nat):Int);rw [j,Int.natCast_add,Int.mul_add];simp;omega
theorem qcc (v:Str->Int) (t:Int) (h:c.1.length=c.2.length):Dc (λy=>v y - t) c=Dc v c:=by unfold Dc;rw [Kb,Kb,h];omega
theorem qeu (f:1<=r) (i:∀ c∈Cs,c.1.length=c.2.length) (n:Nat) (ls:List Str) (h:ls.length < n) (R:ls.Nodup) (a:∀ c∈Cs,∀ y∈c.1++c.2,y∈ls):cf r Cs n ls []=iH↔∃ v,qeZ r Cs v:=by
 obtain ⟨n,rfl⟩:∃ m,n=m+1:=⟨n - 1,by omega⟩
 have h0:∀ y:Str,kQ [] (.inr y)=false:=λy=>rfl;have e:∀ v,qeZ r Cs v->Cs.all (md r [])=true:=λv hg=>aJ.mpr λc d=>md_iff.mpr λl=>by rw [qes (w:=v) λy B=>absurd (l y B) (by rw [h0]; simp)];exact hg c d
 cases ls with
 | nil=>show (Cs.all (md r [])&&iH)=iH↔_;rw [Bool.and_true];exact ⟨λh=>⟨vl [],λc d=>md_iff.mp (aJ.mp h c d) λy B=>by cases a c d y B⟩,λ⟨v,hg⟩=>e v hg⟩
 | cons x ls=>
  obtain ⟨g,b⟩:=aP.mp R;have j:=qax f (Cs:=Cs) n ls (ww [] (.inr x) (.int 0)) (by rw [ao] at h; omega) (by rw [Qg (h0 x)]; simp) b (λy B=>by
   rw [uM (h0 x),h0];simp;exact λz=>g (z ▸ B)) λc d y B=>by
   rw [uM (h0 x),h0];rcases ae.mp (a c d y B) with q | q;·exact .inl (by simp [q])
   ·exact .inr q
  show (Cs.all (md r [])&&(chs r []).any λw=>cf r Cs n ls (ww [] (.inr x) (.int w)))=iH↔_;rw [show chs r []=[0] from if_pos rfl,aK];simp only [cI,List.any_nil,fV];rw [j];constructor;·rintro ⟨_,v,_,hg⟩;exact ⟨v,hg⟩
  ·rintro ⟨v,hg⟩;refine ⟨e v hg,λy=>v y - v x,λy B=>?_,λc d=>?_⟩
   ·rw [uM (h0 x),h0] at B;have:x=y:=by simpa using B
    subst this;rw [(VM (h0 x) 0).1];show v x - v x=0;omega
   ·rw [qcc v (v x) (i c d)];exact hg c d
theorem qcT (h:∀ z∈c.1,z∉c.2) (y:Str):∀ z∈(st1 c y).1,z∉(st1 c y).2:=by
 unfold st1;split;·exact λz hz=>h z (ff hz)
 ·rename_i B;intro z hz q;rcases aI.mp q with q | q;·exact h z hz q
  ·rw [aD.mp q] at hz;exact B hz
theorem qic (x y:Str×Str):∀ z∈(un x y).1,z∉(un x y).2:=qcT (qcT (λz _ q=>by cases q) _) _
theorem qgz {x y:Str×Str} (h:un x y=([],[])):al x y=true:=by
 have e:∀ v,nu v x=nu v y:=λv=>by have:=qh9 v x y;rw [h] at this;simp [Dc,sv] at this;omega
 obtain ⟨a,b⟩:=x;obtain ⟨c,d⟩:=y;have h1:=e λz=>if z=a then 1 else 0
 simp only [nu,if_true] at h1;have f:c=a\/d=a:=by refine bI λz=>?_;have z1:¬c=a:=λq=>z (.inl q);have z2:¬d=a:=λq=>z (.inr q);rw [if_neg z1,if_neg z2] at h1;split at h1 <;> omega
 have one:∀ s t:Str,(∀ v:Str->Int,v s=v t)->s=t:=λs t q=>by
  refine bI λz=>?_;have:=q λy=>if y=s then 1 else 0
  rw [if_pos rfl,if_neg λw=>z w.symm] at this;cases this
 refine al_iff.mpr ?_;rcases f with rfl | rfl
 ·refine .inl ?_;have:=one b d λv=>by have:=e v;simp only [nu] at this;omega
  rw [this]
 ·refine .inr ?_;have:=one b c λv=>by have:=e v;simp only [nu] at this;omega
  rw [this]
noncomputable def up (v:Str->Int) (x:Str) (t:Int) (y:Str):Int:=if y=x then t else v y
theorem qev (v:Str->Int) (x:Str) (t:Int):∀ l:List Str,sv (up v x t) l=sv (up v x 0) l+t * (l.count x:Nat)
 | []=>by simp [sv]
 | y::l=>by
  have j:=qev v x t l;show up v x t y+sv (up v x t) l=(up v x 0 y+sv (up v x 0) l)+t * ((y::l).count x:Nat);rw [j,List.count_cons];by_cases q:y=x;·subst q;simp only [up,if_true,beq_self_eq_true,Int.natCast_add,Int.mul_add];simp;omega
  ·have g:(y == x)=false:=beq_false_of_ne q;simp only [up,if_neg q,g,cq,if_false,Nat.add_zero];omega
noncomputable def bd (e D:Int):Int:=if e=1 then (-D) % 97 else if e=-1 then D % 97 else if e=2 then (-D * 49) % 97 else (D * 49) % 97
theorem qid {e D t:Int} (i:e=1\/e=-1\/e=2\/e=-2) (o:0<=t) (g:t < 97) (h:t≠bd e D):¬(97:Int) ∣ D+t * e:=by
 unfold bd at h;rcases i with rfl | rfl | rfl | rfl
 ·simp at h;omega
 ·simp at h;omega
 ·simp at h;omega
 ·simp at h;omega
theorem qcU (hd:∀ c∈Cs,∀ z∈c.1,z∉c.2) (h2:∀ c∈Cs,c.1.length<=2/\c.2.length<=2) (hl:Cs.length < 97):∀ (ls S:List Str) (v:Str->Int),(∀ c∈Cs,(∀ y∈c.1++c.2,y∈S)->¬(97:Int) ∣ Dc v c)->(∀ c∈Cs,∀ y∈c.1++c.2,y∈S\/y∈ls)->∃ w,qeZ 97 Cs w
 | [],S,v,h,hin=>⟨v,λc d=>h c d λy B=>(hin c d y B).resolve_right λz=>by cases z⟩
 | x::ls,S,v,h,hin=>by
  obtain ⟨t,o,g,f⟩:=YD (r:=97) (by omega) (Cs.map λc=>bd ((c.1.count x:Int) - (c.2.count x:Int)) (Dc (up v x 0) c)) (by rw [ah]; omega);refine qcU hd h2 hl ls (x::S) (if x∈S then v else up v x t) (λc d l=>?_) λc d y B=>?_
  ·by_cases b:x∈S;·rw [if_pos b];exact h c d λy B=>(ae.mp (l y B)).elim (λz=>z ▸ b) id
   ·rw [if_neg b];by_cases a:x∈c.1++c.2
    ·have e:Dc (up v x t) c=Dc (up v x 0) c+t * ((c.1.count x:Int) - (c.2.count x:Int)):=by unfold Dc;rw [qev v x t c.1,qev v x t c.2,Int.mul_sub];omega
     rw [e];have i:t≠bd ((c.1.count x:Int) - (c.2.count x:Int)) (Dc (up v x 0) c):=λz=>f (aw.mpr ⟨c,d,z.symm⟩);refine qid ?_ o g i;have k:c.1.count x<=c.1.length:=List.count_le_length;have c2:c.2.count x<=c.2.length:=List.count_le_length;have j:=h2 c d;rcases aI.mp a with q | q
     ·have z:c.2.count x=0:=List.count_eq_zero.mpr (hd c d x q);have p:0 < c.1.count x:=List.count_pos_iff.mpr q;omega
     ·have z:c.1.count x=0:=List.count_eq_zero.mpr λz=>hd c d x z q;have p:0 < c.2.count x:=List.count_pos_iff.mpr q;omega
    ·rw [qes (w:=v) λy B=>by have:y≠x:=λz=>a (z ▸ B);simp [up,this]];exact h c d λy B=>(ae.mp (l y B)).resolve_left λz=>a (z ▸ B)
  ·rcases hin c d y B with q | q;·exact .inl (ac _ q)
   ·rcases ae.mp q with q | q;·exact .inl (by rw [q]; exact ai ..)
    ·exact .inr q
theorem qew (hl:l.length<=6):(CT l).length < 97:=by
 unfold CT;have:∀ s:List Nat,(s.flatMap λj=>(l.take j).map λa=>un a (pa l j)).length<=6 * s.length:=λs=>by
  induction s with
  | nil=>simp
  | cons j s i=>rw [cc,aj,ah,bO,ao];omega
 have:=this (au l.length);rw [bC] at this;omega
theorem qiL (a:NA l) (f:l.length<=6):∃ v,Ds 97 v l:=by
 obtain ⟨w,hw⟩:=qcU (Cs:=CT l) (λc d=>by
  obtain ⟨i,j,hi,G,_,rfl⟩:=ct_iff.mp d;exact qic _ _) (λc d=>qcP d) (qew f) (LS l) [] (λ_=>0) (λc d h=>by
  obtain ⟨i,j,hi,G,b,rfl⟩:=ct_iff.mp d;exfalso;have e:(un l[i] l[j]).1++(un l[i] l[j]).2=[]:=by
   cases q:(un l[i] l[j]).1++(un l[i] l[j]).2 with
   | nil=>rfl
   | cons z t=>cases h z (by rw [q]; exact ai ..)
  obtain ⟨e1,g⟩:=List.append_eq_nil_iff.mp e;have:=qgz (x:=l[i]) (y:=l[j]) (ii e1 g);rw [cK.mp a i j hi G b] at this;cases this) λc d y B=>.inr (qgx d y B)
 exact ⟨w,ds_ct.mpr hw⟩
theorem qcd (m:K.length<=100) (c:Str) (a:Option D) (b:D):d1 Jp (qY [] 1 [3] (jy (qd 1)) (gNm 0) ftT (dM qeX yo (qd 0) (qd 1))) [a,iB (.lst (qr K)),iB b,iB (.str c)]=.ok (.int (cn K c),[a,iB (.lst (qr K)),iB b,iB (.str c)]):=by
 have h:Jp (.lst ((K.map λx=>co x c).map D.int))=.ok (.int (cn K c)):=qat (by rw [ah]; omega) λk d=>by obtain ⟨y,_,rfl⟩:=aw.mp d;have:=qca y c;omega
 rw [xD,qel m c a (iB b)];simp only [kN];rw [h];rfl
theorem qex (m:K.length<=100) (k:Fx) (x:Str×Str):ke [pD x,.lst (qr K),.dct k]=.ok (.bl (loK k K x),[.non,.non,.non]):=by refine runD_ap.trans ?_;have h:=λc=>qcd m c (iB (pD x)) (.dct k);have n:∀ c:Str,UX (.str c) (.dct k)=.ok (.bl (!kQ k (.inr c))):=λc=>rfl;generalize D.lst (qr K)=Z at h ⊢;generalize D.dct k=Y at h n ⊢;obtain ⟨a,b⟩:=x;unfold loK;cases d:kQ k (.inr a) <;> cases e:kQ k (.inr b) <;> by_cases q:cn K a=1 <;> by_cases g:cn K b=1 <;> simp [xM,qx,qv,ju,jR,n,d,e,-xD,h,eqD,eqN,eqS,q,g]
theorem YF (m:K.length<=100) (k:Fx) (a b:Option D):qY [] 1 [2,1] (jy (qd 2)) (gNm 0) (yP (yl (qw [.vl,.vl,.vl] ke (qc (qd 0) (qc (qd 1) (qc (qd 2) qG)))))) (qd 0) [a,iB (.dct k),iB (.lst (qr K)),b]=.ok (.lst (qr (peK k K)),[a,iB (.dct k),iB (.lst (qr K)),b]):=by have e:=qai (own:=[]) (cap:=[2,1]) (fi:=jy (qd 2)) (ρ:=[a,iB (.dct k),iB (.lst (qr K)),b]) (ρ1:=[a,iB (.dct k),iB (.lst (qr K)),b]) (ds:=qr K) (ft:=yP (yl (qw [.vl,.vl,.vl] ke (qc (qd 0) (qc (qd 1) (qc (qd 2) qG)))))) (fe:=qd 0) (λd=>match d with | .tup [.str x,.str y]=>!loK k K (x,y) | d=>iF) (λd=>d) (by simp) (by simp [ju]) (by unfold qr; rw [ah]; exact ji (by omega)) (λd hd=>by obtain ⟨x,hx,rfl⟩:=aw.mp hd;have h:=qex m k x;have h:ke [.tup [.str x.1,.str x.2],.lst (qr K),.dct k]=.ok (.bl (loK k K x),[.non,.non,.non]):=h;simp [qD,jq,h,vD]) (λd hd _=>rfl);rw [e];congr 2;unfold peK;rw [List.map_id'];unfold qr;rw [List.filter_map];rfl
theorem VN {r:Int} (f:1<=r) (k:Fx) {a:Option D}:∀ (n:Nat) (K:List (Str×Str)),K.length < n->K.length<=100->(K.length:Int)<=r->∃ B R,(OKs r k B↔OKs r k K)/\B.Sublist K /\
  jr (qP (d2 ltD (d1 jN (qd 3)) (d1 jN (qd 2))))
   (qT (jO 2 (qd 3))
   (qT (jO 3 (qY [] 1 [2,1] (jy (qd 2)) (gNm 0) (yP (yl (qw [.vl,.vl,.vl] ke (qc (qd 0) (qc (qd 1) (qc (qd 2) qG)))))) (qd 0))) jf)) n [a,iB (.dct k),iB (.lst (qr K)),iB (.lst (qr (peK k K)))]=.ok (.nx,[a,iB (.dct k),iB (.lst (qr B)),iB (.lst R)])
 | 0,K,h,_,_=>absurd h (d8 _)
 | n+1,K,h,hK,hKr=>by
  have h1:jN (.lst (qr K))=.ok (.int K.length):=by simp [jN,qr]
  have h2:jN (.lst (qr (peK k K)))=.ok (.int (peK k K).length):=by simp [jN,qr]
  have T:(peK k K).length<=K.length:=List.length_filter_le _ _;by_cases q:(peK k K).length < K.length;·obtain ⟨B,R,n1,n2,e⟩:=VN f k (a:=a) n (peK k K) (by omega) (by omega) (by omega);refine ⟨B,R,n1.trans (qgt f hKr),n2.trans List.filter_sublist,?_⟩;have d:=YF (K:=peK k K) (by omega) k a (iB (.lst (qr (peK k K))));rw [<-e];generalize D.lst (qr (peK k (peK k K)))=Z2 at d ⊢;generalize D.lst (qr (peK k K))=Z1 at h2 d ⊢;generalize D.lst (qr K)=Z at h1 ⊢;generalize D.dct k=Y at d ⊢;simp [jr,h1,h2,ltD,q,d]
  ·refine ⟨K,qr (peK k K),Iff.rfl,fQ _,?_⟩;generalize D.lst (qr (peK k K))=Z1 at h2 ⊢;generalize D.lst (qr K)=Z at h1 ⊢;simp [jr,h1,h2,ltD,q]
theorem qey (f:1<=r) (k:Fx) (m:K.length<=10) (h:(K.length:Int)<=r):∃ B,(OKs r k B↔OKs r k K)/\B.Sublist K/\wW [.lst (qr K),.dct k]=.ok (.lst (qr B),[.non,.non]):=by obtain ⟨B,R,n1,n2,e⟩:=VN f k (a:=iB (.lst (qr K))) 20 K (by omega) (by omega) h;refine ⟨B,n1,n2,?_⟩;have d:=YF (K:=K) (by omega) k (iB (.lst (qr K))) iD;refine runD_ap.trans ?_;unfold wV;rw [show qx kq [.lst (qr K),.dct k]=[iB (.lst (qr K)),iB (.dct k),iD,iD] from rfl];refine (qF (ρ1:=[iB (.lst (qr K)),iB (.dct k),iB (.lst (qr K)),iD]) (by simp)).trans ?_;refine (qF (ρ1:=[iB (.lst (qr K)),iB (.dct k),iB (.lst (qr K)),iB (.lst (qr (peK k K)))]) (by rw [gE,d]; rfl)).trans ?_;refine (qF e).trans ?_;simp [qv]
theorem YG {gr:List D->Out (D×List D)} {C S S1:D} {k:Fx} (hl:k.length<=100) {ch:Option D} (hi:ixD S (.int 0)=.ok (.str x)) (c:qd4 (iB 1) iD S=.ok S1) (P:Int->Bool):∀ (vs:List Int) (y:Option D),(∀ v∈vs,gr [C,.int r,.dct (ww k (.inr x) (.int v)),S1]=.ok (.bl (P v),[.non,.non,.non,.non])) ->(vs.any P=iH/\∃ ρ,jR (gNm 5) (cfB gr) (vs.map D.int) [iB C,iB (.int r),iB (.dct k),iB S,ch,y]=.ok (.rt (.bl iH),iB C::iB (.int r)::iB (.dct k)::iB S::ρ))\/(vs.any P=iF/\∃ s,jR (gNm 5) (cfB gr) (vs.map D.int) [iB C,iB (.int r),iB (.dct k),iB S,ch,y]=.ok (.nx,[iB C,iB (.int r),iB (.dct k),iB S,ch,s]))
 | [],y,_=>.inr ⟨rfl,y,rfl⟩
 | v::vs,y,h=>by
  have d:=h v (ai ..);have hw:=qen hl x v;cases q:P v with
  | true=>rw [q] at d;refine .inl ⟨by simp [q],[ch,iB (.int v)],?_⟩;simp [jR,cfB,qD,jq,hw,hi,jX,ut,c,d,vD]
  | false=>
   rw [q] at d;have s1:jR (gNm 5) (cfB gr) ((v::vs).map D.int) [iB C,iB (.int r),iB (.dct k),iB S,ch,y]=jR (gNm 5) (cfB gr) (vs.map D.int) [iB C,iB (.int r),iB (.dct k),iB S,ch,iB (.int v)]:=by simp [jR,cfB,qD,jq,hw,hi,jX,ut,c,d,vD]
   rw [s1,cI,q,Bool.false_or];exact YG hl hi c P vs _ λu f=>h u (ac _ f)
theorem qez (r:Int) (Cs:List Cn) (n:Nat) (x:Str) (ls:List Str) (k:Fx):cf r Cs (n+1) (x::ls) k=(Cs.all (md r k)&&(chs r k).any λw=>cf r Cs n ls (ww k (.inr x) (.int w))):=rfl
theorem QV (hC:∀ c∈Cs,c.1.length<=2/\c.2.length<=2) (A:Cs.length<=100) (z:0 < r) (m:r<=99):∀ (n:Nat) (ls:List Str) (k:Fx),ls.length < n->qaO k->k.length+ls.length<=100 ->qX n [.lst (Cs.map cE),.int r,.dct k,sE ls]=.ok (.bl (cf r Cs n ls k),[.non,.non,.non,.non])
 | 0,ls,k,h,_,_=>absurd h (d8 _)
 | n+1,ls,k,h,hk,hl=>by
  have hA:=λa b c=>qeo hC A z hk a b c;show kr jv [.val,.val,.val,.val] (jw (qX n)) [.lst (Cs.map cE),.int r,.dct k,sE ls]=_;have t:qx jv [.lst (Cs.map cE),.int r,.dct k,sE ls]=[iB (.lst (Cs.map cE)),iB (.int r),iB (.dct k),iB (sE ls),iD,iD]:=rfl;cases q:Cs.all (md r k) with
  | false=>
   refine runD_ap.trans ?_;have u:cf r Cs (n+1) ls k=false:=by cases ls <;> (unfold cf; rw [q]; rfl)
   rw [q] at hA;rw [t,u];simp [jw,-xD,hA,vD,qv]
  | true=>
   rw [q] at hA;have hA:=hA (iB (sE ls)) iD iD;cases ls with
   | nil=>refine runD_ap.trans ?_;rw [show cf r Cs (n+1) [] k=iH by unfold cf; rw [q]; rfl];rw [t];unfold jw;refine (qF (ρ1:=[iB (.lst (Cs.map cE)),iB (.int r),iB (.dct k),iB (sE []),iD,iD]) (by simp [-xD,hA,vD])).trans ?_;simp [jN,eqD,eqN,eqS,qv]
   | cons x ls=>
    rw [ao] at h hl;rw [qez,q,Bool.true_and];obtain ⟨hi,B⟩:=qgr x ls;have d:∀ v∈chs r k,0<=v/\v < r:=λv d=>by
     unfold chs at d;split at d;·rw [aD.mp d]; omega
     ·obtain ⟨j,G,rfl⟩:=aw.mp d;have:=aM.mp G;omega
    have s:dIf (qP (d2 eqD (d1 jN (qd 2)) (dC (.int 0)))) (gb (qc (dC (.int 0)) qG)) (d1 uS (qd 1)) [iB (.lst (Cs.map cE)),iB (.int r),iB (.dct k),iB (sE (x::ls)),iD,iD]=.ok (.lst ((chs r k).map D.int),[iB (.lst (Cs.map cE)),iB (.int r),iB (.dct k),iB (sE (x::ls)),iD,iD]):=by
     unfold chs;by_cases l:k=[];·have z1:1<=sizeLine:=ji (by omega);simp [jN,eqD,eqN,eqS,l,z1]
     ·rw [if_neg l];have g:uS (.int r)=.ok (.lst (((au r.toNat).map λ(j:Nat)=>(j:Int)).map D.int)):=by
       unfold uS;have E:qbH 0 r/\r<=1000000:=⟨⟨by decide,by omega⟩,by omega⟩
       simp only [Int.sub_zero,if_pos E];rw [qcb]
      generalize ((au r.toNat).map λ(j:Nat)=>(j:Int)).map D.int=M at g ⊢;simp [jN,eqD,eqN,eqS,l,g]
    have p:=YG (gr:=qX n) (C:=.lst (Cs.map cE)) (r:=r) (k:=k) (ch:=iB (.lst ((chs r k).map D.int))) (by omega) hi B (λw=>cf r Cs n ls (ww k (.inr x) (.int w))) (chs r k) iD λv f=>
     QV hC A z m n ls (ww k (.inr x) (.int v)) (by omega) (qgq hk _ (d v f).1 (by have:=(d v f).2; omega)) (by have:=qaw k (.inr x) (.int v); omega)
    have i:jN (sE (x::ls))=.ok (.int ((ls.length:Int)+1)):=by simp [jN]
    have o:¬((ls.length:Int)+1=0):=by omega
    generalize I:sE (x::ls)=S at *;generalize D.lst (Cs.map cE)=C at *;have fin:Gr [.val,.val,.val,.val] ((qT (zu (jy (qd 4)) (gNm 5) (cfB (qX n))) (jt (dC (.bl iF)))) [iB C,iB (.int r),iB (.dct k),iB S,iB (.lst ((chs r k).map D.int)),iD])=.ok (.bl ((chs r k).any λw=>cf r Cs n ls (ww k (.inr x) (.int w))),[.non,.non,.non,.non]):=by
     have hit:jy (qd 4) [iB C,iB (.int r),iB (.dct k),iB S,iB (.lst ((chs r k).map D.int)),iD]=.ok ((chs r k).map D.int,[iB C,iB (.int r),iB (.dct k),iB S,iB (.lst ((chs r k).map D.int)),iD]):=by simp [ju]
     generalize (chs r k).map D.int=M at hit p ⊢;rcases p with ⟨y,ρ,e⟩ | ⟨y,H,e⟩
     ·rw [y,gD,we,hit,kN,e]; rfl
     ·rw [y,gD,we,hit,kN,e]; rfl
    refine runD_ap.trans ?_;rw [t];unfold jw;refine (qF (ρ1:=[iB C,iB (.int r),iB (.dct k),iB S,iD,iD]) (by simp [-xD,hA,vD])).trans ?_;refine (qF (ρ1:=[iB C,iB (.int r),iB (.dct k),iB S,iD,iD]) (by simp [i,eqD,eqN,eqS,o])).trans ?_;refine (qF (ρ1:=[iB C,iB (.int r),iB (.dct k),iB S,iB (.lst ((chs r k).map D.int)),iD]) (by rw [gE,s]; rfl)).trans ?_;exact fin
theorem xS (H:l.length<=6) (o:1<=r) (p:r<=99) {k:Fx} (w:qaO k) (u:k.length<=50):∃ b,jo [.lst (qr l),.int r,.dct k]=.ok (.bl b,[.non,.non,.non])/\(b=iH↔(l.length:Int)<=r/\OKs r k l):=by
 have n:jN (.lst (qr l))=.ok (.int l.length):=by simp [jN,qr]
 by_cases j:r < (l.length:Int);·refine ⟨iF,?_,⟨(λz=>by cases z),λz=>absurd z.1 (by omega)⟩⟩;refine runD_ap.trans ?_;generalize D.lst (qr l)=Z at n ⊢;simp [vS,qx,qv,n,ltD,j]
 ·have g:(l.length:Int)<=r:=by omega
  obtain ⟨B,n1,n2,G⟩:=qey o k (K:=l) (by omega) g;have I:B.length<=6:=bz n2.length_le H;have L:=ub (l:=B) (by omega);have f:=VL (l:=B) (by omega);have t:=YC B;have A:((LS B).filter λx=>!kQ k (.inr x)).length<=12:=by have:=List.length_filter_le (λx=>!kQ k (.inr x)) (LS B);omega
  have E:=QV (Cs:=CT B) (λc f=>qcP f) (qgn B (by omega)) (r:=r) (by omega) p 14 ((LS B).filter λx=>!kQ k (.inr x)) k (by omega) w (by omega);refine ⟨cf r (CT B) 14 ((LS B).filter λx=>!kQ k (.inr x)) k,?_,?_⟩
  ·refine runD_ap.trans ?_;have e:=qai (own:=[]) (cap:=[2]) (fi:=jy (qw [.vl] jb (qc (qd 3) qG))) (ρ:=[iB (.lst (qr l)),iB (.int r),iB (.dct k),iB (.lst (qr B)),iD]) (ρ1:=[iB (.lst (qr l)),iB (.int r),iB (.dct k),iB (.lst (qr B)),iD]) (ds:=(LS B).map D.str) (ft:=qP (d2 UX (qd 0) (qd 1))) (fe:=qd 0) (λd=>match d with | .str x=>!kQ k (.inr x) | _=>iF) (λd=>d) (by simp) (by
     generalize D.lst (qr B)=Z at L ⊢;simp [qD,jq,L,ju]) (by rw [ah]; exact ji (by omega)) (λd hd=>by
     obtain ⟨x,hx,rfl⟩:=aw.mp hd;simp [UX,VU]) (λd hd _=>rfl)
   rw [List.map_id',List.filter_map] at e;have e:qY [] 1 [2] (jy (qw [.vl] jb (qc (qd 3) qG))) (gNm 0) (qP (d2 UX (qd 0) (qd 1))) (qd 0) [iB (.lst (qr l)),iB (.int r),iB (.dct k),iB (.lst (qr B)),iD]=.ok (sE ((LS B).filter λx=>!kQ k (.inr x)),[iB (.lst (qr l)),iB (.int r),iB (.dct k),iB (.lst (qr B)),iD]):=e;unfold vS;rw [show qx vR [.lst (qr l),.int r,.dct k]=[iB (.lst (qr l)),iB (.int r),iB (.dct k),iD,iD] from rfl];generalize D.lst (qr l)=Z at *;generalize D.lst (qr B)=ZB at *;generalize D.dct k=Y at *;refine (qF (ρ1:=[iB Z,iB (.int r),iB Y,iD,iD]) (by simp [n,ltD,j])).trans ?_;refine (qF (ρ1:=[iB Z,iB (.int r),iB Y,iB ZB,iD]) (by simp [qD,jq,G])).trans ?_;refine (qF (ρ1:=[iB Z,iB (.int r),iB Y,iB ZB,iB (sE ((LS B).filter λx=>!kQ k (.inr x)))]) (by rw [gE,e]; rfl)).trans ?_;generalize sE ((LS B).filter λx=>!kQ k (.inr x))=S at *;generalize D.lst ((CT B).map cE)=C at *;simp [qD,jq,f,E,qv]
  ·have R:((LS B).filter λx=>!kQ k (.inr x)).Nodup:=((qI _).nodup_iff.mpr (wE _ [] bX).1).filter _;have hok:(∃ v,Ext k v/\qeZ r (CT B) v)↔OKs r k B:=⟨λ⟨v,a,b⟩=>⟨v,a,ds_ct.mpr b⟩,λ⟨v,a,b⟩=>⟨v,a,ds_ct.mp b⟩⟩
   rw [<-n1,<-hok];have m:∀ c∈CT B,∀ y∈c.1++c.2,kQ k (.inr y)=iH\/y∈(LS B).filter λx=>!kQ k (.inr x):=λc f y i=>by
    cases q:kQ k (.inr y) with
    | true=>exact .inl rfl
    | false=>exact .inr (dt.mpr ⟨qgx f y i,by rw [q]; rfl⟩)
   by_cases s:k=[];·subst s;rw [qeu o (λc f=>qjl f) 14 _ (by omega) R λc f y i=>(m c f y i).resolve_left λz=>by cases z];exact ⟨λ⟨v,h⟩=>⟨g,v,(λx hx=>by cases hx),h⟩,λ⟨_,v,_,h⟩=>⟨v,h⟩⟩
   ·rw [qax o 14 _ k (by omega) s R (λy i=>by simpa using (dt.mp i).2) m];exact ⟨λh=>⟨g,h⟩,λh=>h.2⟩
def Lst (l:List (Str×Str)) (R:Int):Prop:=(l.length:Int)<=R/\OKs R [] l/\∀ r,(l.length:Int)<=r->r < R->¬OKs r [] l
abbrev rfT:Sl->Out (Bool×Sl):=(yP (yl (qw [.vl,.vl,.vl] jo (qc (qd 0) (qc (qd 2) (qc (dC (.dct [])) qG))))))
abbrev rfB:Sl->Out (Fl×Sl):=(jO 2 (d2 kK (qd 2) (dC (.int 1))))
variable {P:Int->Prop} {Z:D}
theorem YH (hd:∀ r,1<=r->r<=99->∃ b,jo [Z,.int r,.dct []]=.ok (.bl b,[.non,.non,.non])/\(b=iH↔P r)) {m:Int} (c:P m) (h:m<=97) {a:Option D}:∀ (n:Nat) (f:Int),1<=f->f<=m->m < f+n ->∃ R,f<=R/\P R/\(∀ r,f<=r->r < R->¬P r)/\jr rfT rfB n [iB Z,a,iB (.int f)]=.ok (.nx,[iB Z,a,iB (.int R)])
 | 0,f,h1,h2,h3=>by omega
 | n+1,f,h1,h2,h3=>by
  obtain ⟨b,e,g⟩:=hd f h1 (by omega);cases b with
  | true=>exact ⟨f,by omega,g.mp rfl,λr r1 r2=>by omega,by simp [jr,qD,jq,e,vD]⟩
  | false=>
   have d:¬P f:=λz=>by have:=g.mpr z; cases this
   have j:f≠m:=λz=>d (by rw [z]; exact c);obtain ⟨R,r1,r2,r3,r4⟩:=YH hd c h n (f+1) (by omega) (by omega) (by omega);refine ⟨R,by omega,r2,λr k i=>?_,?_⟩
   ·by_cases q:r=f;·rw [q]; exact d
    ·exact r3 r (by omega) i
   ·have s1:jr rfT rfB (n+1) [iB Z,a,iB (.int f)]=jr rfT rfB n [iB Z,a,iB (.int (f+1))]:=by simp [jr,qD,jq,e,vD,kK]
    rw [s1];exact r4
theorem qcV (h:clo l=iD):NA l:=by
 unfold NA;rw [cK];intro i j hi G b;have h1:=List.findSome?_eq_none_iff.mp h j (aM.mpr G);unfold clF at h1;rw [Option.map_eq_none_iff,cu] at h1;have h2:=h1 i (aM.mpr b);have e1:pa l i=l[i]:=by simp [pa,hi]
 have e:pa l j=l[j]:=by simp [pa,G]
 rw [<-e1,<-e];simpa using h2
theorem qce (hw:jM ws) (hl:VS p q) (e:clo (qy ws p q)=iD):∃ R,kh [Wd ws,Ld p q]=.ok (.int R,[.non,.non])/\Lst (qy ws p q) R:=by
 have s:=ud ws p q;have g:=hw.2.1;have h0:=hw.1;have h1:=yg hw hl;have h2:=yJ (l:=qy ws p q) (by omega);rw [e] at h2;have h2:vf [.lst (qr (qy ws p q))]=.ok (.non,[.non]):=h2;have n:jN (.lst (qr (qy ws p q)))=.ok (.int (qy ws p q).length):=by simp [jN,qr]
 have k:qaO []:=λkv h=>by cases h
 obtain ⟨v,f⟩:=qiL (qcV e) (by omega);have d:((qy ws p q).length:Int)<=97/\OKs 97 [] (qy ws p q):=⟨by omega,v,(λx hx=>by cases hx),f⟩
 obtain ⟨R,r1,r2,r3,r4⟩:=YH (Z:=.lst (qr (qy ws p q))) (P:=λr=>((qy ws p q).length:Int)<=r/\OKs r [] (qy ws p q)) (λr a b=>xS (by omega) a b k (by simp)) d (by omega) (a:=iB (.int (qy ws p q).length)) 100 (qy ws p q).length (by omega) (by omega) (by omega);refine ⟨R,?_,r1,r2.2,λr a b c=>r3 r a b ⟨a,c⟩⟩;generalize D.lst (qr (qy ws p q))=Z at *;have h3:yH [Z,.int (qy ws p q).length]=.ok (.int R,[.non,.non]):=by refine runD_ap.trans ?_;unfold yG;rw [show qx yF [Z,.int (qy ws p q).length]=[iB Z,iB (.int (qy ws p q).length),iD] from rfl];refine (qF (ρ1:=[iB Z,iB (.int (qy ws p q).length),iB (.int (qy ws p q).length)]) (by simp)).trans ?_;refine (qF r4).trans ?_;simp [qv]
 refine runD_ap.trans ?_;simp [vW,qx,qv,qD,jq,h1,h2,yi,n,h3]
theorem qgA {k:Fx} (hl:k.length<=100) (x:Str) (v:Int):kY [.dct k,.str x,.int v]=.ok (.dct (ww k (.inr x) (.int v)),[.dct k,.non,.non]):=by have hz:k.length < sizeLine:=aH (show k.length < 2000 by omega) big;refine runD_ap.trans ?_;simp [wZ,qx,qv,Vk,Vi,VU,hz]
theorem qeA (f:1<=r) {k:Fx} (hx:kQ k (.inr x)=iF) (h:OKs r k l):∃ w,0<=w/\w < r/\OKs r (ww k (.inr x) (.int w)) l:=by
 obtain ⟨v,a,hd⟩:=h;refine ⟨v x % r,d9 _ (by omega),dn _ (by omega),up v x (v x % r),λy B=>?_,?_⟩
 ·rw [uM hx] at B;obtain ⟨h1,h2⟩:=VM hx (v x % r);unfold up;by_cases q:y=x;·rw [if_pos q,q,h1]
  ·rw [if_neg q,h2 y q];refine a y ?_;have:decide (x=y)=false:=decide_eq_false λz=>q z.symm;rw [this,fV] at B;exact B
 ·have c:∀ y,r ∣ v y - up v x (v x % r) y:=λy=>by
   unfold up;split;·rename_i q;rw [q];exact Int.dvd_self_sub_emod
   ·rw [im];exact ip _
  unfold Ds at hd ⊢;refine hd.imp λ{p q} j z=>j ?_;have e:nu v p - nu v q=(nu (up v x (v x % r)) p - nu (up v x (v x % r)) q)+((v p.1 - up v x (v x % r) p.1)+(v p.2 - up v x (v x % r) p.2)) - ((v q.1 - up v x (v x % r) q.1)+(v q.2 - up v x (v x % r) q.2)):=by unfold nu;omega
  rw [e];exact Int.dvd_sub (fR z (fR (c _) (c _))) (fR (c _) (c _))
abbrev lwT:Sl->Out (Bool×Sl):=(Xf (qP (d2 ltD (qd 4) (qd 1))) (yP (yl (qw [.vl,.vl,.vl] jo (qc (qd 0) (qc (qd 1) (qc (qw [.sl 2,.vl,.vl] kY (ug (qc (qd 3) (qc (qd 4) qG)))) qG)))))))
abbrev lwB:Sl->Out (Fl×Sl):=(jO 4 (d2 kK (qd 4) (dC (.int 1))))
theorem YI {k:Fx} (hl:k.length<=100) (hd:∀ w,0<=w->w < r->∃ b,jo [Z,.int r,.dct (ww k (.inr x) (.int w))]=.ok (.bl b,[.non,.non,.non])/\(b=iH↔P w)) {m:Int} (c:P m) (a:m < r):∀ (n:Nat) (f:Int),0<=f->f<=m->m < f+n ->∃ R,f<=R/\R < r/\P R/\(∀ w,f<=w->w < R->¬P w)/\jr lwT lwB n [iB Z,iB (.int r),iB (.dct k),iB (.str x),iB (.int f)]=.ok (.nx,[iB Z,iB (.int r),iB (.dct k),iB (.str x),iB (.int R)])
 | 0,f,h1,h2,h3=>by omega
 | n+1,f,h1,h2,h3=>by
  obtain ⟨b,e,g⟩:=hd f h1 (by omega);have hw:=qgA hl x f;have h:f < r:=by omega
  cases b with
  | true=>refine ⟨f,by omega,h,g.mp rfl,λw r1 r2=>by omega,?_⟩;generalize D.dct (ww k (.inr x) (.int f))=Y at *;simp [jr,qD,jq,hw,e,vD,ltD,h]
  | false=>
   have d:¬P f:=λz=>by have:=g.mpr z; cases this
   have j:f≠m:=λz=>d (by rw [z]; exact c);obtain ⟨R,r1,r0,r2,r3,r4⟩:=YI hl hd c a n (f+1) (by omega) (by omega) (by omega);refine ⟨R,by omega,r0,r2,λw l i=>?_,?_⟩
   ·by_cases q:w=f;·rw [q]; exact d
    ·exact r3 w (by omega) i
   ·have s1:jr lwT lwB (n+1) [iB Z,iB (.int r),iB (.dct k),iB (.str x),iB (.int f)]=jr lwT lwB n [iB Z,iB (.int r),iB (.dct k),iB (.str x),iB (.int (f+1))]:=by generalize D.dct (ww k (.inr x) (.int f))=Y at *;simp [jr,qD,jq,hw,e,vD,ltD,h,kK]
    rw [s1];exact r4
theorem sq {f g:Sl->Out (Fl×Sl)} (h:f ρ=.ok (.nx,ρ1)):qT f g ρ=g ρ1:=by unfold qT;rw [h];rfl
variable {fb:Sl->Out (Fl×Sl)}
theorem fnx (h1:g d ρ=.ok ρ1) (h2:fb ρ1=.ok (.nx,ρ2)):jR g fb (d::ds) ρ=jR g fb ds ρ2:=by simp [jR,h1,h2]
inductive Lex (r:Int) (l:List (Str×Str)):List (Str×Int)->List (Str×Int)->Prop
 | nil (m:List (Str×Int)):Lex r l m []
 | cons {m:List (Str×Int)} {x:Str} {w:Int} {rest:List (Str×Int)} (h0:0<=w) (h1:w < r) (h2:OKs r (bk (m++[(x,w)])) l) (h3:∀ w',0<=w'->w' < w->¬OKs r (bk (m++[(x,w')])) l) (t:Lex r l (m++[(x,w)]) rest):Lex r l m ((x,w)::rest)
variable {m:List (Str×Int)}
theorem YJ (h:x∉qS m) (w:Int):ww (bk m) (.inr x) (.int w)=bk (m++[(x,w)]):=by rw [Qg (by rw [VI]; exact decide_eq_false h)];simp [bk]
theorem qie (p:r<=99) (h:∀ e∈m,0<=e.2/\e.2 < r):qaO (bk m):=λkv a=>by obtain ⟨e,i,rfl⟩:=aw.mp a;have:=h e i;exact ⟨e.2,rfl,this.1,by omega⟩
theorem YK (m:List (Str×Int)) (x:Str) (w:Int):qS (m++[(x,w)])=qS m++[x]:=by simp [qS]
abbrev lwL:Sl->Out (Fl×Sl):=(qT (jO 4 (dC (.int 0)))
  (qT (jr lwT lwB 102)
  (qT (sIf (qP (d2 eqD (qd 4) (qd 1))) (jt (dC .non)) jf)
  (Vi 2 (qd 4) (qd 3)))))
theorem qay (u:l.length<=6) (f:1<=r) (p:r<=99) (j:(l.length:Int)<=r):∀ (xs:List Str) (m:List (Str×Int)) (y z:Option D),xs.Nodup->(∀ x∈xs,x∉qS m)->m.length+xs.length<=40->(∀ e∈m,0<=e.2/\e.2 < r)->OKs r (bk m) l ->∃ ws s b,qS ws=xs/\(∀ e∈ws,0<=e.2/\e.2 < r)/\Lex r l m ws/\OKs r (bk (m++ws)) l/\jR (gNm 3) lwL (xs.map D.str) [iB (.lst (qr l)),iB (.int r),iB (.dct (bk m)),y,z]=.ok (.nx,[iB (.lst (qr l)),iB (.int r),iB (.dct (bk (m++ws))),s,b])
 | [],m,y,z,_,_,_,_,hok=>⟨[],y,z,rfl,by simp,.nil m,by simpa using hok,by simp [jR]⟩
 | x::xs,m,y,z,h,hnm,hlen,hm,hok=>by
  rw [ao] at hlen;have hx:x∉qS m:=hnm x (ai ..);have h:=aP.mp h;have B:(bk m).length<=40:=by simp [bk]; omega
  have n:∀ w,0<=w->w < r->∀ e∈m++[(x,w)],0<=e.2/\e.2 < r:=λw o v e i=>by
   rcases aI.mp i with i | i;·exact hm e i
   ·rw [aD.mp i];exact ⟨o,v⟩
  obtain ⟨o,L,K,J⟩:=qeA f (x:=x) (by rw [VI]; exact decide_eq_false hx) hok;obtain ⟨R,r0,r1,r2,r3,r4⟩:=YI (Z:=.lst (qr l)) (r:=r) (k:=bk m) (by omega) (x:=x) (P:=λw=>(l.length:Int)<=r/\OKs r (ww (bk m) (.inr x) (.int w)) l) (λw d c=>by have t:=qie p (n w d c);rw [<-YJ hx] at t;exact xS u f p t (bz (qaw _ _ _) (by omega))) ⟨j,J⟩ K 102 0 (by omega) L (by omega);have a:OKs r (bk (m++[(x,R)])) l:=by rw [<-YJ hx]; exact r2.2
  obtain ⟨ws,s,b,I,H,G,E,C⟩:=qay u f p j xs (m++[(x,R)]) (iB (.str x)) (iB (.int R)) h.2 (λe i=>by
   rw [YK];intro q;rcases aI.mp q with q | q;·exact hnm e (ac _ i) q
   ·rw [aD.mp q] at i;exact h.1 i) (by rw [aj,cJ]; omega) (n R r0 r1) a
  refine ⟨(x,R)::ws,s,b,?_,λe i=>?_,.cons r0 r1 a (λw' d c A=>r3 w' d c ⟨j,by rw [YJ hx]; exact A⟩) G,by simpa using E,?_⟩;·show x::qS ws=_;rw [I]
  ·rcases ae.mp i with rfl | i;·exact ⟨r0,r1⟩
   ·exact H e i
  ·have hz:(bk m).length < sizeLine:=aH (show (bk m).length < 2000 by omega) big;have g:¬R=r:=by omega
   have st:lwL [iB (.lst (qr l)),iB (.int r),iB (.dct (bk m)),iB (.str x),z]=.ok (.nx,[iB (.lst (qr l)),iB (.int r),iB (.dct (bk (m++[(x,R)]))),iB (.str x),iB (.int R)]):=by generalize D.lst (qr l)=Z at *;refine (sq (ρ1:=[iB Z,iB (.int r),iB (.dct (bk m)),iB (.str x),iB (.int 0)]) rfl).trans ?_;refine (sq r4).trans ?_;refine (sq (ρ1:=[iB Z,iB (.int r),iB (.dct (bk m)),iB (.str x),iB (.int R)]) (by simp [eqD,eqN,eqS,g])).trans ?_;rw [<-YJ hx];simp [Vi,VU,hz]
   rw [aF];refine (fnx (ρ1:=[iB (.lst (qr l)),iB (.int r),iB (.dct (bk m)),iB (.str x),z]) rfl st).trans ?_;rw [C,bB];rfl
theorem qaz:∀ {L:List Str},L.Pairwise (λx y=>leS x y/\x≠y)->qd5 L=iH
 | [],_=>rfl
 | [_],_=>rfl
 | x::y::r,h=>by obtain ⟨h1,h2⟩:=be.mp h;obtain ⟨a,b⟩:=h1 y (ai ..);unfold qd5;rw [qaz h2,decide_eq_true (ba b),decide_eq_false (show ¬y.cps.toList < x.cps.toList from a)];rfl
theorem qeB (l:List (Str×Str)):(LS l).Pairwise (λx y=>leS x y/\x≠y):=(jm _).and (qeg l)
theorem Kc:∀ m:List (Str×Int),WD (bk m)=iB (qS m)
 | []=>rfl
 | e::m=>by have:=Kc m;simp [bk,qS,WD] at this ⊢;exact this
theorem YL (m:List (Str×Int)):Yl (bk m)=prL m:=by unfold Yl bk prL;rw [bb];rfl
def qg8 (l:List (Str×Str)) (r:Int) (ws:List (Str×Int)):Prop:=qS ws=LS l/\(∀ e∈ws,0<=e.2/\e.2 < r)/\Lex r l [] ws/\OKs r (bk ws) l
theorem Qh (g:l.length<=6) (z:∀ x∈LS l,∃ c,az c/\x=⟨#[c]⟩) (f:1<=r) (p:r<=99) (j:(l.length:Int)<=r) (hok:OKs r [] l):∃ ws,qg8 l r ws/\wo [.lst (qr l),.int r]=.ok (.tup (prL ws),[.non,.non]):=by
 have a:=ub (l:=l) (by omega);have t:=YC l;obtain ⟨ws,e,d,A,m,i,w,b⟩:=qay g f p j (LS l) [] iD iD (qeg l) (λx _=>by simp [qS]) (by simp; omega) (by simp) hok;rw [bM] at w b;refine ⟨ws,⟨A,m,i,w⟩,?_⟩;have s:jC (.dct (bk ws))=.ok (.lst (prL ws)):=by
  have h:((LS l).all λy=>decide (y.length<=sizeLine))=true:=by rw [aJ];intro x hx;obtain ⟨c,_,rfl⟩:=z x hx;exact decide_eq_true (show (1:Nat)<=sizeLine from ji (by omega))
  have k:=Kc ws;rw [A] at k;simp only [jC,k];rw [if_pos ⟨by omega,qaz (qeB l),h⟩,YL]
 refine runD_ap.trans ?_;unfold wn;rw [show qx wm [.lst (qr l),.int r]=[iB (.lst (qr l)),iB (.int r),iD,iD,iD] from rfl];refine (qF (ρ1:=[iB (.lst (qr l)),iB (.int r),iB (.dct (bk [])),iD,iD]) rfl).trans ?_;have hi:jy (qw [.vl] jb (qc (qd 0) qG)) [iB (.lst (qr l)),iB (.int r),iB (.dct (bk [])),iD,iD]=.ok ((LS l).map D.str,[iB (.lst (qr l)),iB (.int r),iB (.dct (bk [])),iD,iD]):=by generalize D.lst (qr l)=Z at a ⊢;simp [qD,jq,a,ju]
 refine (qF (ρ1:=[iB (.lst (qr l)),iB (.int r),iB (.dct (bk ws)),e,d]) (by rw [we,hi,kN];exact b)).trans ?_;generalize D.lst (qr l)=Z;generalize D.dct (bk ws)=B at s ⊢;simp [s,yn,qv]
theorem qcW (hw:jM ws) (hl:VS p q) (g:1<=r) (h:r<=99):(∃ es,qg8 (qy ws p q) r es/\jL [Wd ws,Ld p q,.int r]=.ok (.tup (prL es),[.non,.non,.non])/\(ws.length:Int)<=r)
  \/ (¬((ws.length:Int)<=r/\OKs r [] (qy ws p q))/\jL [Wd ws,Ld p q,.int r]=.ok (.non,[.non,.non,.non])):=by
 have j:=hw.2.1;have s:=ud ws p q;have hp:=yg hw hl;have c:=uc (d:=.int r) trivial;rw [if_pos (by simp [Kj]; omega)] at c;obtain ⟨b,e,f⟩:=xS (l:=qy ws p q) (by omega) g h (k:=[]) (λkv a=>by cases a) (by simp);rw [s] at f;cases b with
 | true=>obtain ⟨h1,h2⟩:=f.mp rfl;obtain ⟨es,B,i⟩:=Qh (l:=qy ws p q) (by omega) (qef hw p q) g h (by omega) h2;refine .inl ⟨es,B,?_,h1⟩;generalize D.lst (qr (qy ws p q))=Z at *;refine runD_ap.trans ?_;simp [kI,qx,qv,qD,jq,hp,c,e,vD,i]
 | false=>refine .inr ⟨λz=>(by have:=f.mpr z; cases this),?_⟩;generalize D.lst (qr (qy ws p q))=Z at *;refine runD_ap.trans ?_;simp [kI,qx,qv,qD,jq,hp,c,e,vD]
theorem qgB (h:x∈qS m):vl (bk m) x=yh m x:=by unfold vl;rw [(Ka h).2]
theorem qif {w:Str->Int} (h:∀ x∈LS l,v x=w x) (hd:Ds r v l):Ds r w l:=by
 unfold Ds at hd ⊢;refine List.Pairwise.imp_of_mem (λ{p q} hp hq j=>?_) hd;have e:∀ p∈l,nu v p=nu w p:=λp hp=>by unfold nu;rw [h p.1 (mem_LS.mpr ⟨p,hp,.inl rfl⟩),h p.2 (mem_LS.mpr ⟨p,hp,.inr rfl⟩)]
 rw [<-e p hp,<-e q hq];exact j
theorem Up {ws:List (Str×Int)} (h:qg8 l r ws):Ds r (yh ws) l:=by obtain ⟨h1,h2,h3,v,c,hd⟩:=h;refine qif (λx hx=>?_) hd;rw [<-h1] at hx;rw [c x (by rw [VI]; exact decide_eq_true hx),qgB hx]
theorem nums_nd:(l.map λx=>(v x.1+v x.2) % r).Nodup↔Ds r v l:=by
 unfold Ds bc;rw [List.pairwise_map];have e:∀ p q:Str×Str,(v p.1+v p.2) % r≠(v q.1+v q.2) % r↔¬r ∣ nu v p - nu v q:=λp q=>by unfold nu;rw [Ne,Int.emod_eq_emod_iff_emod_sub_eq_zero,Int.dvd_iff_emod_eq_zero]
 simp only [e]
theorem Uq:∀ (l a:List Int),(a++l).Nodup->l.foldl Ki a=a++l
 | [],a,_=>by simp
 | x::l,a,h=>by
  have hx:x∉a:=λq=>by have:=dG.mp h;exact this.2.2 x q x (ai ..) rfl
  have e:Ki a x=a++[x]:=by simp [Ki,hx]
  rw [bF,e,Uq l (a++[x]) (by simpa using h)];simp
noncomputable def EVp (r:Int):List (Str×Int)->List Str->List (List (Str×Int))
 | m,[]=>[m]
 | m,x::L=>(au r.toNat).flatMap λ(w:Nat)=>EVp r (m++[(x,(w:Int))]) L
noncomputable def okL (r:Int) (l:List (Str×Str)) (e:List (Str×Int)):Bool:=decide ((l.map λx=>(yh e x.1+yh e x.2) % r).Nodup)
theorem okL_iff {e:List (Str×Int)}:okL r l e=iH↔Ds r (yh e) l:=by unfold okL;rw [decide_eq_true_iff,nums_nd]
theorem qaA:∀ (L:List Str) (m e:List (Str×Int)),e∈EVp r m L->∃ s,e=m++s
 | [],m,e,h=>⟨[],by unfold EVp at h;rw [aD.mp h];simp⟩
 | x::L,m,e,h=>by unfold EVp at h;obtain ⟨w,_,h2⟩:=df.mp h;obtain ⟨s,c⟩:=qaA L _ e h2;exact ⟨(x,(w:Int))::s,by rw [c,bB]; rfl⟩
theorem qeC {s:List (Str×Int)} (h:x∈qS m):yh (m++s) x=yh m x:=by
 obtain ⟨e,i,rfl⟩:=aw.mp h;have:(m.find? λy=>decide (y.1=e.1))≠none:=λz=>by have:=cu.mp z e i;simp at this
 unfold yh;rw [eZ];cases q:m.find? λy=>decide (y.1=e.1) with
 | none=>exact absurd q this
 | some y=>rfl
theorem qaB (h:¬OKs r (bk m) l) (L:List Str):(EVp r m L).find? (okL r l)=none:=by rw [cu];intro e i hd;obtain ⟨s,rfl⟩:=qaA L m e i;refine h ⟨yh (m++s),λx hx=>?_,okL_iff.mp hd⟩;rw [VI] at hx;have hx:=of_decide_eq_true hx;rw [qeC hx,qgB hx]
theorem VO {β:Type} (P:β->Bool) (f:α->List β):∀ l:List α,(l.flatMap f).find? P=l.findSome? λa=>(f a).find? P
 | []=>rfl
 | a::l=>by rw [cc,eZ,dX,VO P f l];cases (f a).find? P <;> rfl
theorem qaC (f:1<=r):∀ {m ws:List (Str×Int)},Lex r l m ws->Ds r (yh (m++ws)) l->(EVp r m (qS ws)).find? (okL r l)=iB (m++ws):=by
 intro m ws h
 induction h with
 | nil m=>intro hd;rw [bf] at hd ⊢;show [m].find? _=_;rw [ce,okL_iff.mpr hd]
 | cons h0 h1 h2 h3 t j=>
  rename_i m x w rest;intro hd;have d:m++(x,w)::rest=m++[(x,w)]++rest:=by rw [bB]; rfl
  rw [d] at hd ⊢;have j:=j hd;show (EVp r m (x::qS rest)).find? _=_;unfold EVp;rw [VO];have n:r.toNat=w.toNat+(1+(r.toNat - w.toNat - 1)):=by omega
  rw [n,List.range_add,List.findSome?_append];have e1:((au w.toNat).findSome? λ(a:Nat)=>(EVp r (m++[(x,(a:Int))]) (qS rest)).find? (okL r l))=none:=by rw [List.findSome?_eq_none_iff];intro a g;have g:=aM.mp g;exact qaB (h3 a (by omega) (by omega)) _
  have i:((w.toNat+0:Nat):Int)=w:=by omega
  rw [e1,Option.none_or,List.findSome?_map,Nat.add_comm 1,List.range_succ_eq_map,dX];have E:((λ(a:Nat)=>(EVp r (m++[(x,(a:Int))]) (qS rest)).find? (okL r l)) ∘ λx=>w.toNat+x) 0=iB (m++[(x,w)]++rest):=by show (EVp r (m++[(x,((w.toNat+0:Nat):Int))]) (qS rest)).find? (okL r l)=_;rw [i];exact j
  rw [E]
abbrev VP (ss:List Str):D:=.lst (ss.map D.str)
noncomputable def vw (x:Str×Str):List Str:=kF [x.1,x.2]
theorem vw_iff {x y:Str×Str}:vw x=vw y↔al x y=true:=by
 obtain ⟨a,b⟩:=x;obtain ⟨c,d⟩:=y;unfold vw;constructor
 ·intro h;have p:[a,b].Perm [c,d]:=(qI [a,b]).symm.trans (h ▸ qI [c,d]);have g:a=c\/a=d:=by simpa using p.mem_iff.mp (ai ..)
  rcases g with rfl | rfl
  ·have:=(List.perm_cons a).mp p;have:b=d:=by simpa using this
   rw [this];exact qej _
  ·have p2:[a,b].Perm [a,c]:=p.trans (fE _ _ _);have:=(List.perm_cons a).mp p2;have:b=c:=by simpa using this
   rw [this];exact al_iff.mpr (.inr rfl)
 ·intro h;have p:[a,b].Perm [c,d]:=by
   rcases al_iff.mp h with h | h;·cases h; exact cz _
   ·cases h; exact fE _ _ _
  exact ux ((qI _).trans (p.trans (qI _).symm)) (jm _) (jm _)
theorem qeD (k:Nat) (a b:Str):eqN k (.str a) (.str b)=iB (decide (a=b)):=by
 have e:(a == b)=decide (a=b):=by by_cases h:a=b <;> simp [h]
 cases k <;> simp [eqN,eqS,e]
theorem YM (k:Nat):∀ (a b:List Str),a.length=b.length->vC (eqN k) (a.map D.str) (b.map D.str)=iB (decide (a=b))
 | [],[],_=>rfl
 | x::a,y::b,h=>by have j:=YM k a b (by simpa using h);rw [aF,aF,vC,qeD,j];simp
theorem qaD (k:Nat) (a b:List Str):eqN (k+1) (VP a) (VP b)=iB (decide (a=b)):=by
 show (if (a.map D.str).length=(b.map D.str).length then vC (eqN k) (a.map D.str) (b.map D.str) else iB iF)=_;by_cases h:a.length=b.length;·rw [if_pos (by simpa using h),YM k a b h]
 ·rw [if_neg (by simpa using h),decide_eq_false λz=>h (by rw [z])]
theorem YN (e:List Str):∀ vs:List (List Str),zp 7 (VP e) (vs.map VP)=iB (vs.any λv=>decide (v=e))
 | []=>rfl
 | v::vs=>by rw [aF,zp,qaD,YN e vs];rfl
noncomputable def VD (l:List (Str×Str)):List D:=l.map λx=>VP (vw x)
theorem XR (G:j < l.length):l[j]=pa l j:=by unfold pa;rw [ay G];rfl
theorem qgC (h:i < l.length):ixD (.lst (VD l)) (.int i)=.ok (VP (vw (pa l i))):=by
 have e:atI (VD l) (i:Int)=iB (VP (vw (pa l i))):=by unfold VD;rw [wa,aE,ay h,XR h];rfl
 simp [ixD,e]
theorem qcX (x y:Str×Str):decide (vw x=vw y)=al x y:=by
 cases q:al x y with
 | true=>exact decide_eq_true (vw_iff.mpr q)
 | false=>exact decide_eq_false λz=>by rw [vw_iff.mp z] at q; cases q
theorem qcY (l:List (Str×Str)) (e:Str×Str):zp 7 (VP (vw e)) (VD l)=iB (l.any λx=>al x e):=by have h:=YN (vw e) (l.map vw);rw [bb,ij] at h;refine h.trans ?_;congr 2;funext x;exact qcX x e
theorem qig (l:List (Str×Str)) (e:Str×Str):((VD l).map λd=>eqN 7 d (VP (vw e)) == iB iH)=l.map λx=>al x e:=by unfold VD;rw [bb];refine List.map_congr_left λx hx=>?_;show (eqN 7 (VP (vw x)) (VP (vw e)) == iB iH)=_;rw [qaD,qcX];cases al x e <;> rfl
theorem qgD (G:j < l.length):GF (VD l) iD (iB (j:Int))=VD (l.take j):=by
 unfold GF;rw [HT.sIx_none,HT.sIx_nat];have:(VD l).length=l.length:=by simp [VD]
 rw [this,show min j l.length - 0=j by omega];simp [VD]
theorem qeE:∀ {l:List (Str×Str)} {j:Nat},j<=l.length->l.take j=(au j).map (pa l):=λ{l j} G=>by refine List.ext_getElem (by simp; omega) λi h1 h2=>?_;simp at h1;rw [List.getElem_take,g6,List.getElem_range,XR (by omega)]
theorem qgE (hi:i < l.length):((l.take i).any λx=>al x (pa l i))=((au i).find? (clP l i)).isSome:=by
 rw [qeE (by omega),ij];cases q:(au i).find? (clP l i) with
 | none=>have:=cu.mp q;rw [Option.isSome_none,fI];exact this
 | some a=>rw [Option.isSome_some,fm];exact ⟨a,List.mem_of_find?_eq_some q,List.find?_some q⟩
theorem qgF {a:Nat} (hi:i < l.length) (h:(au i).find? (clP l i)=iB a):QI (.lst (VD l)) (VP (vw (pa l i)))=.ok (.int a):=by
 obtain ⟨h1,h2,h3⟩:=List.find?_range_eq_some.mp h;have h2:=aM.mp h2;have f:(l.map λx=>al x (pa l i)).findIdx? id=iB a:=by
  rw [bS];refine ⟨by rw [ah]; omega,?_,λj G=>?_⟩;·rw [g6,XR (by omega)];exact h1
  ·rw [g6,XR (by omega)];have:=h3 j G;simpa using this
 simp only [QI,qcY,qig,f]
abbrev lcB:Sl->Out (Fl×Sl):=(sIf (qP (d2 inA (d2 ixD (qd 2) (qd 3)) (jX (qd 2) iD (iB (qd 3))))) (jt (zq (qc (dM qg4 QI (qd 2) (d2 ixD (qd 2) (qd 3))) (qc (qd 3) qG)))) jf)
theorem qeF (hi:i < l.length) (a b:Option D):((au i).find? (clP l i)=iD/\lcB [a,b,iB (.lst (VD l)),iB (.int i)]=.ok (.nx,[a,b,iB (.lst (VD l)),iB (.int i)]))
  \/ ∃ x ρ',(au i).find? (clP l i)=iB x/\lcB [a,b,iB (.lst (VD l)),iB (.int i)]=.ok (.rt (.tup [.int x,.int i]),ρ'):=by
 have h1:=qgC hi;have h2:=qgD hi;have h3:=qcY (l.take i) (pa l i);rw [qgE hi] at h3;have hz:2<=sizeLine:=ji (by omega);cases q:(au i).find? (clP l i) with
 | none=>rw [q] at h3;exact .inl ⟨rfl,by generalize VD (l.take i)=T at *;generalize VP (vw (pa l i))=E at *;simp [jX,ut,qd4,h1,h2,inA,qeQ,inD,h3]⟩
 | some x=>rw [q] at h3;have h:=qgF hi q;refine .inr ⟨x,[a,b,iB (.lst (VD l)),iB (.int i)],rfl,?_⟩;generalize VD (l.take i)=T at *;generalize VP (vw (pa l i))=E at *;simp [jX,ut,qd4,h1,h2,inA,qeQ,inD,h3,dM,qg4,h,hz]
theorem qaE {a:Option D} {V:D} (h:∀ i,i < l.length->((au i).find? (clP l i)=iD/\B [a,b,iB V,iB (.int i)]=.ok (.nx,[a,b,iB V,iB (.int i)]))
  \/ ∃ x ρ',(au i).find? (clP l i)=iB x/\B [a,b,iB V,iB (.int i)]=.ok (.rt (.tup [.int x,.int i]),ρ')):∀ (is:List Nat) (x:Option D),(∀ i∈is,i < l.length) ->
  (∃ d,jR (gNm 3) B (is.map λ(j:Nat)=>.int j) [a,b,iB V,x]=.ok (.nx,[a,b,iB V,d])/\is.findSome? (clF l)=iD)
  \/ ∃ (u v:Nat) (ρ':Sl),is.findSome? (clF l)=iB (u,v)/\jR (gNm 3) B (is.map λ(j:Nat)=>.int j) [a,b,iB V,x]=.ok (.rt (.tup [.int u,.int v]),ρ')
 | [],x,_=>.inl ⟨x,rfl,rfl⟩
 | i::is,x,hi=>by
  rw [dX];rcases h i (hi i (ai ..)) with ⟨n,e⟩ | ⟨u,ρ',n,e⟩
  ·have c:clF l i=none:=by unfold clF; rw [n]; rfl
   have s1:jR (gNm 3) B ((i::is).map λ(j:Nat)=>.int j) [a,b,iB V,x]=jR (gNm 3) B (is.map λ(j:Nat)=>.int j) [a,b,iB V,iB (.int i)]:=by simp [jR,e]
   rw [s1,c];exact qaE h is (iB (.int i)) (λk f=>hi k (ac _ f))
  ·have c:clF l i=iB (u,i):=by unfold clF; rw [n]; rfl
   rw [c];exact .inr ⟨u,i,ρ',rfl,by simp [jR,e]⟩
theorem VQ (hw:jM ws) (hl:VS p q):JW [Wd ws,Ld p q]=.ok (clD (clo (qy ws p q)),[.non,.non]):=by
 have k:=hw.2.1;have s:=ud ws p q;have hp:=uL hw hl;have e1:=vA (cap:=[]) (fi:=jy (qw [.vl,.vl] ya (qc (qd 0) (qc (qd 1) qG)))) (ρ:=[iB (Wd ws),iB (Ld p q),iD,iD]) (ρ1:=[iB (Wd ws),iB (Ld p q),iD,iD]) (ds:=qr (qy ws p q)) (fe:=d1 gF (qd 0)) (λd=>match d with | .tup [.str x,.str y]=>VP (vw (x,y)) | d=>d) (by simp [qD,jq,hp,ju]) (by simp only [qr,ah]; exact ji (by omega)) (λd hd=>by obtain ⟨x,hx,rfl⟩:=aw.mp hd;have:wx (.tup [.str x.1,.str x.2])=iB [x.1,x.2]:=rfl;simp [gF,this,vw,VP]);have f1:(qr (qy ws p q)).map (λd=>match d with | .tup [.str x,.str y]=>VP (vw (x,y)) | d=>d)=VD (qy ws p q):=by unfold qr VD;rw [bb];rfl
 rw [f1] at e1;have h:jN (.lst (VD (qy ws p q)))=.ok (.int (qy ws p q).length):=by simp [jN,VD]
 have r:=iR1 (f:=d1 jN (qd 2)) (ρ:=[iB (Wd ws),iB (Ld p q),iB (.lst (VD (qy ws p q))),iD]) (ρ1:=[iB (Wd ws),iB (Ld p q),iB (.lst (VD (qy ws p q))),iD]) (n:=(qy ws p q).length) (by simp [h]) (by omega);refine runD_ap.trans ?_;unfold JV;rw [show qx zS [Wd ws,Ld p q]=[iB (Wd ws),iB (Ld p q),iD,iD] from rfl];refine (qF (ρ1:=[iB (Wd ws),iB (Ld p q),iB (.lst (VD (qy ws p q))),iD]) (by rw [gE,e1]; rfl)).trans ?_;rcases qaE (l:=qy ws p q) (B:=lcB) (a:=iB (Wd ws)) (b:=iB (Ld p q)) (V:=.lst (VD (qy ws p q))) (λi hi=>qeF hi _ _) (au (qy ws p q).length) iD (λj G=>aM.mp G) with ⟨c,e,n⟩ | ⟨u,v,ρ',n,e⟩
 ·have n:clo (qy ws p q)=none:=n;rw [n];refine (qF (ρ1:=[iB (Wd ws),iB (Ld p q),iB (.lst (VD (qy ws p q))),c]) (by rw [we,r,kN]; exact e)).trans ?_;simp [qv,clD]
 ·have n:clo (qy ws p q)=iB (u,v):=n;rw [n];have g:zu (jB (d1 jN (qd 2))) (gNm 3) lcB [iB (Wd ws),iB (Ld p q),iB (.lst (VD (qy ws p q))),iD]=.ok (.rt (.tup [.int u,.int v]),ρ'):=by rw [we,r,kN]; exact e
  simp only [gD,g];simp [qv,clD]
abbrev Ln:=List (Str×Int)
noncomputable def tI (l:Ln):D:=.tup (l.map λe=>.int e.2)
noncomputable def tD (r:List Ln):List D:=r.map tI
noncomputable def evS (r:Int) (x:Str) (s:List Ln):List Ln:=s.flatMap λl=>(au r.toNat).map λ(j:Nat)=>l++[(x,(j:Int))]
noncomputable def EV (r:Int):List Ln->List Str->List Ln
 | rows,[]=>rows
 | rows,x::L=>EV r (evS r x rows) L
theorem qiM:∀ (L:List Str) (s:List Ln),EV r s L=s.flatMap λm=>EVp r m L
 | [],s=>by
  show s=s.flatMap λm=>[m]
  induction s with
  | nil=>rfl
  | cons a l j=>rw [cc,<-j]; rfl
 | x::L,s=>by show EV r (evS r x s) L=_;rw [qiM L];unfold evS;rw [List.flatMap_assoc];congr 1;funext m;rw [List.flatMap_map];rfl
theorem qaF (r:Int) (x:Str):∀ (s:List Ln),(evS r x s).length=s.length * r.toNat
 | []=>by simp [evS]
 | l::s=>by have j:=qaF r x s;unfold evS at j ⊢;rw [cc,aj,j,ah,bC,ao,Nat.succ_mul,Nat.add_comm]
theorem qcf {s:List Ln} {L:List Str} (h:∀ m∈s,qS m=L):∀ m∈evS r x s,qS m=L++[x]:=λm c=>by obtain ⟨l,hl,h2⟩:=df.mp c;obtain ⟨j,_,rfl⟩:=aw.mp h2;rw [YK,h l hl]
theorem Ke (b:1<=r) (e:r<=99) (l:Ln) (hl:l.length<=50) (x:Str) (h2:(ρ[2]?).getD iD=iB (.int r)) (a:(ρ[7]?).getD iD=iB (tI l)):qY [8] 1 [7] (jB (qd 2)) (gNm 0) ftT (d2 kK (qd 1) (zq (qc (qd 0) qG))) ρ=.ok (.lst (tD ((au r.toNat).map λ(j:Nat)=>l++[(x,(j:Int))])),ρ):=by
 obtain ⟨n,rfl⟩:=Int.eq_ofNat_of_zero_le (by omega:0<=r);have c:qd 2 ρ=.ok (.int n,ρ):=by
  rw [Wz];cases q:ρ[2]? with
  | none=>rw [q] at h2; cases h2
  | some d=>rw [q] at h2;have h2:d=iB (.int n):=h2;rw [h2]
 have h:=iR1 (f:=qd 2) (ρ:=ρ) (ρ1:=ρ) (n:=n) c (by omega);have z1:1<=sizeLine:=ji (by omega);have hz:l.length+1<=sizeLine:=ji (by omega);have:=Ud (own:=[8]) (cap:=[7]) (fi:=jB (qd 2)) (fe:=d2 kK (qd 1) (zq (qc (qd 0) qG))) (ρ:=ρ) (ρ1:=ρ) (λd=>match d with | .int j=>tI (l++[(x,j)]) | d=>d) (by decide) h (by simp; exact ji (by omega)) (λd hd=>by obtain ⟨j,G,rfl⟩:=aw.mp hd;simp [a,tI,kK,z1,hz]);rw [this,bb];unfold tD;rw [bb];rfl
abbrev lfB:Sl->Out (Fl×Sl):=(vj (xY 8 Wq (qY [8] 1 [7] (jB (qd 2)) (gNm 0) ftT (d2 kK (qd 1) (zq (qc (qd 0) qG))))))
theorem qgG (h:1<=r) (g:r<=99) (x:Str) (a b c d e f i j:Option D):∀ (s acc:List Ln) (y:Option D),(∀ l∈s,l.length<=50)->acc.length+s.length * r.toNat<=1500 ->∃ o,jR (gNm 7) lfB (tD s) [a,b,iB (.int r),c,d,e,f,y,iB (.lst (tD acc)),i,j]=.ok (.nx,[a,b,iB (.int r),c,d,e,f,o,iB (.lst (tD (acc++evS r x s))),i,j])
 | [],acc,y,_,_=>⟨y,by simp [tD,evS,jR]⟩
 | l::s,acc,y,hl,hz=>by
  rw [ao,Nat.succ_mul] at hz;have n:((au r.toNat).map λ(j:Nat)=>l++[(x,(j:Int))]).length=r.toNat:=by simp
  obtain ⟨o,t⟩:=qgG h g x a b c d e f i j s (acc++(au r.toNat).map λ(j:Nat)=>l++[(x,(j:Int))]) (iB (tI l)) (λm u=>hl m (ac _ u)) (by rw [aj,n]; omega);have p:=Ke h g l (hl l (ai ..)) x (ρ:=[a,b,iB (.int r),c,d,e,f,iB (tI l),iD,i,j]) rfl rfl;have p:=Ke h g l (hl l (ai ..)) x (ρ:=[a,b,iB (.int r),c,d,e,f,iB (tI l),iD,i,j]) rfl rfl;have q:(tD acc).length+(tD ((au r.toNat).map λ(j:Nat)=>l++[(x,(j:Int))])).length<=sizeLine:=by unfold tD;rw [ah,ah,n];exact ji (by omega)
  refine ⟨o,dN (fnx (d:=tI l) (ρ1:=[a,b,iB (.int r),c,d,e,f,iB (tI l),iB (.lst (tD acc)),i,j]) rfl ?_) (dN t ?_)⟩
  ·have p:=Ke h g l (hl l (ai ..)) x (ρ:=[a,b,iB (.int r),c,d,e,f,iB (tI l),iD,i,j]) rfl rfl;have k:=Ke h g l (hl l (ai ..)) x (ρ:=[a,b,iB (.int r),c,d,e,f,iB (tI l),iB (.lst (tD acc)),i,j]) rfl rfl;generalize v:tD ((au r.toNat).map λ(j:Nat)=>l++[(x,(j:Int))])=G at p k q;have hA:tD (acc++(au r.toNat).map λ(j:Nat)=>l++[(x,(j:Int))])=tD acc++G:=by rw [<-v]; simp [tD]
   rw [hA];unfold lfB;have hi:yA ([a,b,iB (.int r),c,d,e,f,iB (tI l),iB (.lst (tD acc)),i,j]:Sl)[8]?=true:=rfl;rw [qbE,qdX,if_pos hi,k,kN];simp only [List.getElem?_cons_succ,List.getElem?_cons_zero];simp [Wq,q]
  ·rw [show evS r x (l::s)=((au r.toNat).map λ(j:Nat)=>l++[(x,(j:Int))])++evS r x s from cc,bB]
abbrev lfO:Sl->Out (Fl×Sl):=(qT (jO 8 (gb qG))
  (qT (zu (jy (qd 5)) (gNm 7)
  (vj (xY 8 Wq (qY [8] 1 [7] (jB (qd 2)) (gNm 0) ftT (d2 kK (qd 1) (zq (qc (qd 0) qG)))))))
  (jO 5 (qd 8))))
theorem qcZ (t:1<=r) (u:r<=99) (a b c d i j:Option D):∀ (L:List Str) (ds:List D) (s:List Ln) (y V f:Option D) (n:Nat),ds.length=L.length->(∀ l∈s,l.length<=n)->n+L.length<=50->s.length * r.toNat ^ L.length<=1500 ->∃ o g e,jR (gNm 6) lfO ds [a,b,iB (.int r),c,d,iB (.lst (tD s)),y,V,f,i,j]=.ok (.nx,[a,b,iB (.int r),c,d,iB (.lst (tD (EV r s L))),o,g,e,i,j])
 | [],[],s,y,V,f,n,_,_,_,_=>⟨y,V,f,rfl⟩
 | x::L,d0::ds,s,y,V,f,n,hds,hl,hn,hz=>by
  rw [ao] at hn hz;have hp:1<=r.toNat:=by omega
  have w:1<=r.toNat ^ L.length:=Nat.one_le_pow _ _ (by omega);have m:s.length * r.toNat * r.toNat ^ L.length<=1500:=by rw [Nat.mul_assoc,<-Nat.pow_succ']; exact hz
  have p:s.length * r.toNat<=1500:=bz (Nat.le_mul_of_pos_right _ w) m;obtain ⟨q,e1⟩:=qgG t u x a b c d (iB (.lst (tD s))) (iB d0) i j s [] V (λl k=>by have:=hl l k; omega) (by simpa using p);rw [bM] at e1;obtain ⟨o,g,e,z⟩:=qcZ t u a b c d i j L ds (evS r x s) (iB d0) q (iB (.lst (tD (evS r x s)))) (n+1) (by simpa using hds) (λl k=>by obtain ⟨v,h0,h2⟩:=df.mp k;obtain ⟨j,_,rfl⟩:=aw.mp h2;have:=hl v h0;rw [aj,cJ];omega) (by omega) (by rw [qaF]; exact m);refine ⟨o,g,e,dN (fnx (ρ1:=[a,b,iB (.int r),c,d,iB (.lst (tD s)),iB d0,V,f,i,j]) rfl ?_) z⟩;unfold lfO;refine (sq (ρ1:=[a,b,iB (.int r),c,d,iB (.lst (tD s)),iB d0,V,iB (.lst []),i,j]) (by simp)).trans ?_;refine (sq (ρ1:=[a,b,iB (.int r),c,d,iB (.lst (tD s)),iB d0,q,iB (.lst (tD (evS r x s))),i,j]) (by rw [we,show jy (qd 5) [a,b,iB (.int r),c,d,iB (.lst (tD s)),iB d0,V,iB (.lst []),i,j]=.ok (tD s,[a,b,iB (.int r),c,d,iB (.lst (tD s)),iB d0,V,iB (.lst []),i,j]) from rfl,kN];exact e1)).trans ?_;simp
 | [],d::ds,s,y,V,f,n,h,_,_,_=>by cases h
 | x::L,[],s,y,V,f,n,h,_,_,_=>by cases h
theorem uy (l:List Int):yj (l.map D.int)=iB l:=by
 induction l with
 | nil=>rfl
 | cons x l j=>rw [aF,yj,j]; rfl
theorem qaG:∀ (l a:List Int),(l.foldl Ki a).length<=a.length+l.length
 | [],a=>by simp
 | x::l,a=>by
  have j:=qaG l (Ki a x);have:(Ki a x).length<=a.length+1:=by
   unfold Ki;split;·omega
   ·simp
  rw [bF,ao];omega
theorem qaH:∀ (l a:List Int),a.Nodup->(l.foldl Ki a).length=a.length+l.length->(a++l).Nodup
 | [],a,h,_=>by simpa using h
 | x::l,a,h,e=>by
  rw [bF,ao] at e;by_cases hx:x∈a
  ·have:=qaG l a;have q:Ki a x=a:=by simp [Ki,hx]
   rw [q] at e;omega
  ·have q:Ki a x=a++[x]:=by simp [Ki,hx]
   rw [q] at e;have:=qaH l (a++[x]) (dG.mpr ⟨h,by simp,λy B z hz=>by rw [aD.mp hz];rintro rfl;exact hx B⟩) (by rw [e,aj,cJ]; omega);simpa using this
variable {ns:List Int}
theorem qeG (h:ns.length<=1000):jW (.lst (ns.map D.int))=.ok (.int (ns.foldl Ki []).length):=by have c:QJ (.lst (ns.map D.int))=iB ns:=uy ns;simp only [jW,c];rw [if_pos (by omega)]
theorem qeH:decide (((ns.foldl Ki []).length:Int)=(ns.length:Int))=decide ns.Nodup:=by
 by_cases h:ns.Nodup;·have:=Uq ns [] (by simpa using h);rw [this];simp [h]
 ·rw [decide_eq_false h,decide_eq_false];intro z;exact h (by simpa using qaH ns [] bX (by simp; omega))
theorem qc0:∀ m:Ln,qeS ((qS m).map D.str) (m.map λe=>.int e.2)=prL m
 | []=>rfl
 | e::m=>by have:=qc0 m;unfold qeS qS prL at this ⊢;rw [aF,aF,aF,aF,List.zipWith_cons_cons,this]
theorem qcg {l:Ln} (h:(qS l).Nodup):Vj (.lst (prL l))=.ok (.dct (bk l)):=by have e:=Uk l [] h (λ_ _ p hp=>by cases hp);simp at e;simp [Vj,Qe,e]
theorem qeI (n:l.length<=6) (z:∀ x∈LS l,∃ c,az c/\x=⟨#[c]⟩) {m:Ln} (k:qS m=LS l):jC (.dct (bk m))=.ok (.lst (prL m)):=by
 have t:=YC l;have a:((LS l).all λy=>decide (y.length<=sizeLine))=true:=by rw [aJ];intro x hx;obtain ⟨c,_,rfl⟩:=z x hx;exact decide_eq_true (show (1:Nat)<=sizeLine from ji (by omega))
 have h:=Kc m;rw [k] at h;simp only [jC,h];rw [if_pos ⟨by omega,qaz (qeB l),a⟩,YL]
noncomputable def nuL (r:Int) (l:List (Str×Str)) (m:Ln):List Int:=l.map λx=>(yh m x.1+yh m x.2) % r
theorem qeJ (f:1<=r) (n:l.length<=6) {m:Ln} (k:qS m=LS l) (h2:(ρ[2]?).getD iD=iB (.int r)) (h3:ρ[3]?=iB (iB (.lst (qr l)))) (h:(ρ[9]?).getD iD=iB (.dct (bk m))):qY [] 2 [2,9] (jy (qd 3)) (wc 2 (qU (gNm 0) (qU (gNm 1) wb))) ftT (d2 UA (d2 kK (d2 ixD (qd 3) (qd 0)) (d2 ixD (qd 3) (qd 1))) (qd 2)) ρ=.ok (.lst ((nuL r l m).map D.int),ρ):=by
 have e:=qgi (cap:=[2,9]) (fi:=jy (qd 3)) (fe:=d2 UA (d2 kK (d2 ixD (qd 3) (qd 0)) (d2 ixD (qd 3) (qd 1))) (qd 2)) (ρ:=ρ) (ρ1:=ρ) (ps:=l.map λx=>(D.str x.1,D.str x.2)) (λa b=>match a,b with | .str x,.str y=>.int ((yh m x+yh m y) % r) | a,_=>a) (by
  have:jy (qd 3) ρ=.ok (qr l,ρ):=by simp [jy,Wz,h3,ju]
  rw [this,bb];rfl) (by rw [ah]; exact ji (by omega)) (λp hp=>by
   obtain ⟨x,hx,rfl⟩:=aw.mp hp;have Y:=qb6 (l:=m) (x:=x.1) (by rw [k]; exact mem_LS.mpr ⟨x,hx,.inl rfl⟩);have U:=qb6 (l:=m) (x:=x.2) (by rw [k]; exact mem_LS.mpr ⟨x,hx,.inr rfl⟩);have:0 < r:=by omega
   simp [h2,h,Y,U,kK,UA,Kf,this])
 rw [e,bb];unfold nuL;rw [bb];rfl
abbrev lgB:Sl->Out (Fl×Sl):=(qT (jO 9 (d1 Vj (d2 kS (qd 4) (qd 7))))
  (qT (jO 10 (qY [] 2 [2,9] (jy (qd 3)) (wc 2 (qU (gNm 0) (qU (gNm 1) wb))) ftT (d2 UA (d2 kK (d2 ixD (qd 3) (qd 0)) (d2 ixD (qd 3) (qd 1))) (qd 2))))
  (sIf (qP (d2 eqD (d1 jW (qd 10)) (d1 jN (qd 10)))) (jt (d1 yn (d1 jC (qd 9)))) jf)))
theorem qeK (i:1<=r) (n:l.length<=6) (z:∀ x∈LS l,∃ c,az c/\x=⟨#[c]⟩) {m:Ln} (k:qS m=LS l) (a b c d e f g:Option D):∃ ρ',lgB [a,b,iB (.int r),iB (.lst (qr l)),iB (.lst ((LS l).map D.str)),c,d,iB (tI m),e,f,g]=.ok (if okL r l m=iH then .rt (.tup (prL m)) else .nx,ρ')/\∃ o g',ρ'=[a,b,iB (.int r),iB (.lst (qr l)),iB (.lst ((LS l).map D.str)),c,d,iB (tI m),e,o,g']:=by
 have hz:kS (.lst ((LS l).map D.str)) (tI m)=.ok (.lst (prL m)):=by rw [<-k];show Out.ok (D.lst (qeS ((qS m).map D.str) (m.map λe=>.int e.2)))=_;rw [qc0]
 have hd:=qcg (l:=m) (by rw [k]; exact qeg l);have j:=qeJ i n k (ρ:=[a,b,iB (.int r),iB (.lst (qr l)),iB (.lst ((LS l).map D.str)),c,d,iB (tI m),e,iB (.dct (bk m)),g]) rfl rfl rfl;have t:=qeG (ns:=nuL r l m) (by simp [nuL]; omega);have h:jN (.lst ((nuL r l m).map D.int))=.ok (.int (nuL r l m).length):=by simp [jN]
 have hq:eqD (.int ((nuL r l m).foldl Ki []).length) (.int (nuL r l m).length)=.ok (.bl (okL r l m)):=by show Out.ok (D.bl _)=_;unfold okL;rw [<-qeH];congr 2
 have s:=qeI n z k;refine ⟨[a,b,iB (.int r),iB (.lst (qr l)),iB (.lst ((LS l).map D.str)),c,d,iB (tI m),e,iB (.dct (bk m)),iB (.lst ((nuL r l m).map D.int))],?_,_,_,rfl⟩;generalize D.lst (qr l)=P at *;generalize D.lst ((LS l).map D.str)=T at *;generalize tI m=M at *;refine (sq (ρ1:=[a,b,iB (.int r),iB P,iB T,c,d,iB M,e,iB (.dct (bk m)),g]) (by simp [hz,hd])).trans ?_;refine (sq (ρ1:=[a,b,iB (.int r),iB P,iB T,c,d,iB M,e,iB (.dct (bk m)),iB (.lst ((nuL r l m).map D.int))]) (by rw [gE,j]; rfl)).trans ?_;generalize D.dct (bk m)=B at *;generalize D.lst ((nuL r l m).map D.int)=U at *;cases q:okL r l m with
 | true=>rw [q] at hq;simp [t,h,hq,s,yn]
 | false=>rw [q] at hq;simp [t,h,hq]
theorem frt {v:D} (h1:g d ρ=.ok ρ1) (h2:fb ρ1=.ok (.rt v,ρ2)):jR g fb (d::ds) ρ=.ok (.rt v,ρ2):=by simp [jR,h1,h2]
theorem qaI {S:Option D->Option D->Option D->Sl} {P:Ln->Bool} (a:∀ d x y z,gNm 7 d (S x y z)=.ok (S (iB d) y z)) {Q:Ln->Prop} (b:∀ m,Q m->∀ y z,∃ s j,B (S (iB (tI m)) y z)=.ok (if P m=iH then .rt (.tup (prL m)) else .nx,S (iB (tI m)) s j)):∀ (r:List Ln) (x y z:Option D),(∀ m∈r,Q m) ->∃ ρ',jR (gNm 7) B (tD r) (S x y z)=.ok (match r.find? P with | some m=>.rt (.tup (prL m)) | none=>.nx,ρ')
 | [],x,y,z,_=>⟨_,rfl⟩
 | m::r,x,y,z,h=>by
  obtain ⟨s,j,e⟩:=b m (h m (ai ..)) y z;rw [ce];cases q:P m with
  | true=>rw [q] at e;exact ⟨S (iB (tI m)) s j,frt (a _ _ _ _) e⟩
  | false=>rw [q] at e;obtain ⟨ρ',i⟩:=qaI a b r (iB (tI m)) s j (λk c=>h k (ac _ c));refine ⟨ρ',dN (fnx (d:=tI m) (ρ1:=S (iB (tI m)) y z) (a _ _ _ _) e) i⟩
noncomputable def foD:Option Ln->D
 | some m=>.tup (prL m)
 | none=>.non
theorem qaJ:∀ (L K:List Str) (s:List Ln),(∀ m∈s,qS m=K)->∀ m∈EV r s L,qS m=K++L
 | [],K,s,h,m,hm=>by rw [bf]; exact h m hm
 | x::L,K,s,h,m,hm=>by have:=qaJ L (K++[x]) (evS r x s) (qcf h) m hm;simpa using this
theorem YO (hw:jM ws) (hl:VS p q) (c:1<=r) (g:r<=99) (hz:r.toNat ^ (LS (qy ws p q)).length<=1500):ye [Wd ws,Ld p q,.int r]=.ok (foD ((EVp r [] (LS (qy ws p q))).find? (okL r (qy ws p q))),[.non,.non,.non]):=by
 have C:=hw.2.1;have A:=ud ws p q;have h1:=uL hw hl;have h2:=qan hw hl;have b:=qef hw p q;have t:=YC (qy ws p q);have z1:1<=sizeLine:=ji (by omega);have d:¬sizeLine=0:=by omega
 generalize qy ws p q=l at *;have h:jN (.lst ((LS l).map D.str))=.ok (.int (LS l).length):=by simp [jN]
 have v:EVp r [] (LS l)=EV r [[]] (LS l):=by rw [qiM]; simp
 rw [v];have i:=iR1 (f:=d1 jN (qd 4)) (ρ:=[iB (Wd ws),iB (Ld p q),iB (.int r),iB (.lst (qr l)),iB (.lst ((LS l).map D.str)),iB (.lst (tD [[]])),iD,iD,iD,iD,iD]) (ρ1:=[iB (Wd ws),iB (Ld p q),iB (.int r),iB (.lst (qr l)),iB (.lst ((LS l).map D.str)),iB (.lst (tD [[]])),iD,iD,iD,iD,iD]) (n:=(LS l).length) (by simp [h]) (by omega);obtain ⟨s,V,a,e1⟩:=qcZ c g (iB (Wd ws)) (iB (Ld p q)) (iB (.lst (qr l))) (iB (.lst ((LS l).map D.str))) iD iD (LS l) ((au (LS l).length).map λ(j:Nat)=>.int j) [[]] iD iD iD 0 (by simp) (by simp) (by omega) (by simpa using hz);have k:=qaJ (r:=r) (LS l) [] [[]] (by simp [qS]);rw [bM] at k;obtain ⟨ρ',u⟩:=qaI (B:=lgB) (S:=λx y z=>[iB (Wd ws),iB (Ld p q),iB (.int r),iB (.lst (qr l)),iB (.lst ((LS l).map D.str)),iB (.lst (tD (EV r [[]] (LS l)))),s,x,a,y,z]) (P:=okL r l) (Q:=λm=>qS m=LS l) (λ_ _ _ _=>rfl) (λm e y z=>by obtain ⟨ρ',w,o,g',rfl⟩:=qeK c (by omega) b e (iB (Wd ws)) (iB (Ld p q)) (iB (.lst (tD (EV r [[]] (LS l))))) s a y z;exact ⟨o,g',w⟩) (EV r [[]] (LS l)) V iD iD k;refine runD_ap.trans ?_;unfold JX;rw [show qx xu [Wd ws,Ld p q,.int r]=[iB (Wd ws),iB (Ld p q),iB (.int r),iD,iD,iD,iD,iD,iD,iD,iD] from rfl];refine (qF (ρ1:=[iB (Wd ws),iB (Ld p q),iB (.int r),iB (.lst (qr l)),iD,iD,iD,iD,iD,iD,iD]) (by simp [qD,jq,h1])).trans ?_;refine (qF (ρ1:=[iB (Wd ws),iB (Ld p q),iB (.int r),iB (.lst (qr l)),iB (.lst ((LS l).map D.str)),iD,iD,iD,iD,iD,iD]) (by generalize D.lst (qr l)=P;simp [qD,jq,h2])).trans ?_;refine (qF (ρ1:=[iB (Wd ws),iB (Ld p q),iB (.int r),iB (.lst (qr l)),iB (.lst ((LS l).map D.str)),iB (.lst (tD [[]])),iD,iD,iD,iD,iD]) (by simp [tD,tI,d])).trans ?_;refine (qF (ρ1:=[iB (Wd ws),iB (Ld p q),iB (.int r),iB (.lst (qr l)),iB (.lst ((LS l).map D.str)),iB (.lst (tD (EV r [[]] (LS l)))),s,V,a,iD,iD]) (by rw [we,i,kN];exact e1)).trans ?_;generalize EV r [[]] (LS l)=rows at *;have E:zu (jy (qd 5)) (gNm 7) lgB [iB (Wd ws),iB (Ld p q),iB (.int r),iB (.lst (qr l)),iB (.lst ((LS l).map D.str)),iB (.lst (tD rows)),s,V,a,iD,iD]=.ok (match rows.find? (okL r l) with | some m=>.rt (.tup (prL m)) | none=>.nx,ρ'):=u;generalize D.lst (qr l)=P at *;generalize D.lst ((LS l).map D.str)=T at *;cases q:rows.find? (okL r l) with
 | none=>rw [q] at E;refine (qF E).trans ?_;simp [qv,foD]
 | some m=>rw [q] at E;simp only [gD,E];simp [qv,foD]
theorem Ur (h:qeY ca):yc ca [.xcp (ca "Never")]=.ok (.tup [.str "refused",.int 6],[.non]):=by
 refine runD_ap.trans ?_;have B:(aQ "Never")∈CS:=by decide +kernel
 have p:=kt h (x := "NoWords") (y := "Never") (b:=iF) (by decide +kernel) B (by decide +kernel);have o:=kt h (x := "NoLook") (y := "Never") (b:=iF) (by decide +kernel) B (by decide +kernel);have d:=kt h (x := "NoNumbers") (y := "Never") (b:=iF) (by decide +kernel) B (by decide +kernel);have q:=kt h (x := "NoRoom") (y := "Never") (b:=iF) (by decide +kernel) B (by decide +kernel);have m:=kt h (x := "NoWord") (y := "Never") (b:=iF) (by decide +kernel) B (by decide +kernel);have l:=kt h (x := "NoWorths") (y := "Never") (b:=iF) (by decide +kernel) B (by decide +kernel);have k:=kt h (x := "Never") (y := "Never") (b:=iH) (by decide +kernel) B (by decide +kernel);have j:=kt h (x := "Full") (y := "Never") (b:=iF) (by decide +kernel) B (by decide +kernel);have D:=kt h (x := "Known") (y := "Never") (b:=iF) (by decide +kernel) B (by decide +kernel);have T:=qaq (ca:=ca) B;have c:4<=sizeLine:=ji (by omega);have a:8<=sizeLine:=ji (by omega);have z:8 < sizeLine:=aH (by decide) big;have z2:2<=sizeLine:=ji (by omega);simp [zR,qx,qv,Kh,p,o,d,q,m,l,k,j,D,T,c,a,z,z2,yA,Wq,Wp,KS,vE,neD,eqN,eqS,vD,KU,qaN,List.countP_cons,List.findIdx?_cons]
theorem VR {k:Nat}:∀ ds:List D,(∀ d∈ds,eqN k d d=iB iH)->vC (eqN k) ds ds=iB iH
 | [],_=>rfl
 | d::ds,h=>by have e:=h d (ai ..);have j:=VR ds λd' hd=>h d' (ac _ hd);simp [vC,e,j]
theorem qaK {k:Nat} (h:∀ d∈ds,eqN k d d=iB iH):eqN (k+1) (.tup ds) (.tup ds)=iB true:=by have e:=VR ds h;simp [eqN,e]
theorem qgH (k:Nat) (x:Str):eqN k (.str x) (.str x)=iB true:=by cases k <;> simp [eqN,eqS]
theorem qeL (k:Nat) (x:Int):eqN k (.int x) (.int x)=iB true:=by cases k <;> simp [eqN,eqS]
theorem qeM (h:eqN 8 d d=iB iH):neD d d=.ok (.bl iF):=by simp [neD,h]
theorem YQ {α:Type} [DecidableEq α]:∀ {a b:List α},a.Nodup->(∀ x∈a,x∈b)->a.length<=b.length
 | [],b,_,_=>bi _
 | x::a,b,hn,h=>by have r:=aP.mp hn;have hx:=h x (ai ..);have j:=YQ (b:=b.erase x) r.2 λy B=>(List.mem_erase_of_ne (λz=>r.1 (by rw [<-z]; exact B))).mpr (h y (ac _ B));rw [d6 hx] at j;have:=dq hx;rw [ao];omega
theorem iR2 {fa fb:Sl->Out (D×Sl)} {i j:Int} (h0:-100<=i) (h1:i<=1000) (k0:-100<=j) (k1:j<=1000) (h:fa ρ=.ok (.int i,ρ1)) (h':fb ρ1=.ok (.int j,ρ2)):Jm fa fb ρ=.ok (ge i (j - i).toNat,ρ2):=by
 have k:qbH i j:=⟨⟨by omega,by omega⟩,by omega,by omega⟩
 simp [Jm,h,h',k]
theorem qih (l:Ln):neD (.tup (prL l)) (.tup (prL l))=.ok (.bl iF):=qeM (qaK λd hd=>by
 obtain ⟨x,_,rfl⟩:=aw.mp hd;exact qaK λd hd=>by
  rcases ae.mp hd with rfl | hd;·exact qgH _ _
  ·rcases ae.mp hd with rfl | hd;·exact qeL _ _
   ·cases hd)
theorem qii (x:Option Ln):neD (foD x) (foD x)=.ok (.bl iF):=by
 cases x with
 | none=>rfl
 | some m=>exact qih m
theorem qgI (x:Option (Nat×Nat)):neD (clD x) (clD x)=.ok (.bl iF):=by
 cases x with
 | none=>rfl
 | some x=>simp [clD,neD,eqN,vC,eqS]
theorem qgJ (f:1<=r) (h:Ds r v l):(l.length:Int)<=r:=by
 have n:=nums_nd.mpr h;have:=YQ n (b:=(au r.toNat).map λ(j:Nat)=>(j:Int)) λx hx=>by obtain ⟨y,_,rfl⟩:=aw.mp hx;have h0:=d9 (v y.1+v y.2) (by omega:r≠0);have h1:=dn (v y.1+v y.2) (by omega:0 < r);exact aw.mpr ⟨((v y.1+v y.2) % r).toNat,aM.mpr (by omega),by omega⟩
 simp at this;omega
section
variable (hw:jM ws) (hl:VS p q)
include hw hl
theorem qch (h:Pl d) (b:Kj 1 99 d=iF):jL [Wd ws,Ld p q,d]=.exc "NoRoom" [iB .non,iB .non,iB .non]:=by have h1:=yg hw hl;have h2:=uc h;rw [b] at h2;refine runD_ap.trans ?_;generalize D.lst (qr (qy ws p q))=Z at *;simp [kI,qx,qv,qD,jq,h1,h2]
theorem Us {c:Nat×Nat} (h:clo (qy ws p q)=iB c):kh [Wd ws,Ld p q]=.exc "Never" [iB .non,iB .non]:=by have h1:=yg hw hl;have a:=hw.2.1;have s:=ud ws p q;have h2:=yJ (l:=qy ws p q) (by omega);rw [h] at h2;have hz:1<=sizeLine:=ji (by omega);refine runD_ap.trans ?_;generalize D.lst (qr (qy ws p q))=Z at *;simp [vW,qx,qv,qD,jq,h1,h2,clD,yi,vo,hz]
theorem qci (i:1<=r) (g:r<=99) {es:Ln} (a:qg8 (qy ws p q) r es):ky [Wd ws,Ld p q,.int r,.tup (prL es)]=.ok (.tup ((nuL r (qy ws p q) es).map D.int),[.non,.non,.non,.non])/\(nuL r (qy ws p q) es).Nodup:=by
 have hd:=nums_nd.mpr (Up a);obtain ⟨k,v,_,_⟩:=a;have z:=qef hw p q;have t:=qgg hw p q;have l:es.length<=12:=by
  have:(qS es).length=es.length:=by simp [qS]
  rw [<-this,k];exact t
 have m:OkW r es:=λx hx=>by obtain ⟨c,b,e⟩:=z x.1 (by rw [<-k]; exact aw.mpr ⟨x,hx,rfl⟩);have:=v x hx;exact ⟨by rw [e]; exact qcK b,this.1,this.2⟩
 have h:Ug es=true:=by unfold Ug;rw [Yy,k];exact Uj _ (qeB _)
 have f:Kj 1 99 (.int r)=true:=by simp [Kj]; omega
 have hi:=(VH (ds:=prL es) (λd hd=>by
  obtain ⟨x,_,rfl⟩:=aw.mp hd;refine ⟨trivial,λxs e y B=>?_⟩;cases e;rcases ae.mp B with rfl | B;·trivial
  ·rw [aD.mp B];trivial) (by simp [prL]; omega) r).2 es rfl m
 rw [h] at hi;have:=Ul hw hl f m h hi;rw [if_pos (by rw [aJ];intro x hx;rw [k];exact decide_eq_true hx)] at this;refine ⟨?_,hd⟩;rw [this];unfold qg7 nuL;rw [bb];rfl
end
variable {o:List D}
section
theorem Ut {b c r:D} (h:jL [a,b,c]=.ok (r,o)):vX ca [.int 0,a,b,c]=.ok (r,[.non,.non,.non,.non]):=by refine runD_ap.trans ?_;simp [QS,qbf,qx,qv,qD,jq,h,eqD,eqN,eqS]
theorem qeN {b c r:D} (h:kh [a,b]=.ok (r,o)):vX ca [.int 1,a,b,c]=.ok (r,[.non,.non,.non,.non]):=by refine runD_ap.trans ?_;simp [QS,qbf,qx,qv,qD,jq,h,eqD,eqN,eqS]
theorem qcj {b c r:D} {e:Str} (h:jL [a,b,c]=.exc e [iB .non,iB .non,iB .non]) (i:e∈CS) (hw:yc ca [.xcp (ca e)]=.ok (r,o)):vX ca [.int 0,a,b,c]=.ok (r,[.non,.non,.non,.non]):=by refine runD_ap.trans ?_;have hi:=qcM (ca:=ca) i;simp [QS,qbf,qx,qv,qD,jq,h,hi,hw,eqD,eqN,eqS]
theorem qck {b c r:D} {e:Str} (h:kh [a,b]=.exc e [iB .non,iB .non]) (i:e∈CS) (hw:yc ca [.xcp (ca e)]=.ok (r,o)):vX ca [.int 1,a,b,c]=.ok (r,[.non,.non,.non,.non]):=by refine runD_ap.trans ?_;have hi:=qcM (ca:=ca) i;simp [QS,qbf,qx,qv,qD,jq,h,hi,hw,eqD,eqN,eqS]
end
abbrev lmS (a b c d e f:Option D) (r:Int) (V g x:Option D):Sl:=[a,b,c,d,e,f,iB (.int r),V,g,x]
theorem YR (h:1<=r) (k:r<=99) (a b c d e f V:Option D):∀ (ds:List D) (m:Int) (g:Option D),∃ x,jR (gNm 9) (jO 8 (d2 XT (qd 8) (qd 6))) ds (lmS a b c d e f r V (iB (.int m)) g)=.ok (.nx,lmS a b c d e f r V (iB (.int (m * r ^ ds.length))) x)
 | [],m,g=>⟨g,by simp [jR]⟩
 | y::ds,m,g=>by obtain ⟨x,j⟩:=YR h k a b c d e f V ds (m * r) (iB y);have i:CMul m r:=.inr ⟨by omega,by omega⟩;refine ⟨x,dN (fnx (ρ1:=lmS a b c d e f r V (iB (.int m)) (iB y)) rfl (ρ2:=lmS a b c d e f r V (iB (.int (m * r))) (iB y)) (by simp [XT,Kf,i])) (j.trans ?_)⟩;rw [ao,Int.pow_succ',<-Int.mul_assoc]
abbrev lmB (ca:Str->Addr):Sl->Out (Fl×Sl):=(qT (jO 7 (qw [.vl,.vl,.vl,.vl] (vX ca) (qc (dC (.int 0)) (qc (qd 2) (qc (qd 3) (qc (qd 6) qG))))))
  (qT (sIf (dOr (Xf (qP (d2 ltD (qd 6) (qd 5))) (qP (d2 yi (qd 7) (dC .non)))) (Xf (qP (d2 eqD (qd 6) (qd 5))) (qP (d2 qdu (qd 7) (dC .non))))) (jt (dC (.bl iF))) jf)
  (qT (sIf (Xf (qP (d2 yi (qd 7) (dC .non))) (qP (d2 neD (d1 jW (qw [.vl,.vl,.vl,.vl] ky (qc (qd 2) (qc (qd 3) (qc (qd 6) (qc (qd 7) qG)))))) (d1 jN (qd 2))))) (jt (dC (.bl iF))) jf)
  (qT (jO 8 (dC (.int 1)))
  (qT (zu (jy (qw [.vl,.vl] yE (qc (qd 2) (qc (qd 3) qG)))) (gNm 9)
  (jO 8 (d2 XT (qd 8) (qd 6))))
  (sIf (Xf (qP (d2 leD (qd 8) (dC (.int 1100)))) (qP (d2 neD (qd 7) (qw [.vl,.vl,.vl] ye (qc (qd 2) (qc (qd 3) (qc (qd 6) qG))))))) (jt (dC (.bl iF))) jf))))))
theorem qeO {ca:Str->Addr} {R:Int} (p:1<=r) (w:r<=99) {W L:D} {f:Option Ln} {T:List D} {k:Int}
  (v:vX ca [.int 0,W,L,.int r]=.ok (foD f,[.non,.non,.non,.non])) (h1:r < R->f=iD) (h2:r=R->f≠iD)
  (t:∀ es,f=iB es->∃ d o,ky [W,L,.int r,.tup (prL es)]=.ok (d,o)/\o=[.non,.non,.non,.non]/\jW d=.ok (.int k)) (u:jN W=.ok (.int k))
  (s:yE [W,L]=.ok (.lst T,[.non,.non])) (m:r ^ T.length<=1100->ye [W,L,.int r]=.ok (foD f,[.non,.non,.non])) (a b e V c x:Option D) :
  ∃ i h g,lmB ca (lmS a b (iB W) (iB L) e (iB (.int R)) r V c x)=.ok (.nx,lmS a b (iB W) (iB L) e (iB (.int R)) r i h g):=by
 obtain ⟨y,n⟩:=YR p w a b (iB W) (iB L) e (iB (.int R)) (iB (foD f)) T 1 x;rw [Int.one_mul] at n;have l:=qii f;refine ⟨iB (foD f),iB (.int (r ^ T.length)),y,?_⟩;refine (sq (ρ1:=lmS a b (iB W) (iB L) e (iB (.int R)) r (iB (foD f)) c x) (by simp [qD,jq,v])).trans ?_;refine (sq (ρ1:=lmS a b (iB W) (iB L) e (iB (.int R)) r (iB (foD f)) c x) (by
  cases f with
  | none=>have q:¬r=R:=λz=>h2 z rfl;by_cases j:r < R <;> simp [foD,ltD,yi,qdu,eqD,eqN,eqS,q,j]
  | some es=>
   have j:¬r < R:=λz=>by cases h1 z
   by_cases q:r=R <;> simp [foD,ltD,yi,qdu,eqD,eqN,eqS,q,j])).trans ?_
 refine (sq (ρ1:=lmS a b (iB W) (iB L) e (iB (.int R)) r (iB (foD f)) c x) (by
  cases f with
  | none=>simp [foD,yi]
  | some es=>obtain ⟨d,o,n1,rfl,n2⟩:=t es rfl;simp [foD,yi,qD,jq,n1,n2,u,neD,eqN,eqS])).trans ?_
 refine (sq (ρ1:=lmS a b (iB W) (iB L) e (iB (.int R)) r (iB (foD f)) (iB (.int 1)) x) rfl).trans ?_;refine (sq (ρ1:=lmS a b (iB W) (iB L) e (iB (.int R)) r (iB (foD f)) (iB (.int (r ^ T.length))) y) (by rw [we,show jy (qw [.vl,.vl] yE (qc (qd 2) (qc (qd 3) qG))) (lmS a b (iB W) (iB L) e (iB (.int R)) r (iB (foD f)) (iB (.int 1)) x)=.ok (T,lmS a b (iB W) (iB L) e (iB (.int R)) r (iB (foD f)) (iB (.int 1)) x) by simp [qD,jq,s,ju],kN];exact n)).trans ?_;generalize foD f=F at *;by_cases q:r ^ T.length<=1100;·have m:=m q;simp [qD,jq,leD,q,m,l]
 ·simp [leD,q]
theorem qaL {a c d e f:Option D} (o:∀ r,P r->∀ V g x,∃ l j i,B (lmS a b c d e f r V g x)=.ok (.nx,lmS a b c d e f r l j i)):∀ (rs:List Int) (m V g x:Option D),(∀ r∈rs,P r) ->∃ n l j i,jR (gNm 6) B (rs.map D.int) [a,b,c,d,e,f,m,V,g,x]=.ok (.nx,[a,b,c,d,e,f,n,l,j,i])
 | [],m,V,g,x,_=>⟨m,V,g,x,rfl⟩
 | r::rs,m,V,g,x,h=>by obtain ⟨u,t,y,e1⟩:=o r (h r (ai ..)) V g x;obtain ⟨s,q,p,z,v⟩:=qaL o rs (iB (.int r)) u t y (λk w=>h k (ac _ w));exact ⟨s,q,p,z,dN (fnx (ρ1:=lmS a b c d e f r V g x) rfl e1) v⟩
theorem qcl (hw:jM ws) (hl:VS p q) {R:Int} (k:Lst (qy ws p q) R) (a:1<=r) (c:r<=99):∃ f:Option Ln,vX ca [.int 0,Wd ws,Ld p q,.int r]=.ok (foD f,[.non,.non,.non,.non])/\(r < R->f=iD)/\(r=R->f≠iD) /\
  (∀ es,f=iB es->∃ d o,ky [Wd ws,Ld p q,.int r,.tup (prL es)]=.ok (d,o)/\o=[.non,.non,.non,.non]/\jW d=.ok (.int ws.length)) /\
  (r ^ ((LS (qy ws p q)).map D.str).length<=1100->ye [Wd ws,Ld p q,.int r]=.ok (foD f,[.non,.non,.non])):=by
 have s:=ud ws p q;have t:=hw.2.1;have i:r ^ ((LS (qy ws p q)).map D.str).length<=1100->r.toNat ^ (LS (qy ws p q)).length<=1500:=λh=>by
  rw [ah] at h;have e:((r.toNat:Nat):Int)=r:=by omega
  rw [<-e,<-Int.natCast_pow] at h;omega
 obtain ⟨u,R2,m⟩:=k;rcases qcW hw hl a c with ⟨es,B,h1,h2⟩ | ⟨b,h1⟩
 ·have hok:OKs r [] (qy ws p q):=by obtain ⟨_,_,_,v,_,hd⟩:=B;exact ⟨v,(λx hx=>by cases hx),hd⟩
  refine ⟨iB es,Ut h1,λz=>absurd hok (m r (by omega) z),λ_ z=>(by cases z),λes' e=>?_,λz=>?_⟩
  ·cases e;obtain ⟨n1,n2⟩:=qci hw hl a c B;refine ⟨_,_,n1,rfl,?_⟩;have n:(nuL r (qy ws p q) es).length=ws.length:=by unfold nuL; rw [ah,s]
   have l:=Uq (nuL r (qy ws p q) es) [] (by simpa using n2);have g:QJ (.tup ((nuL r (qy ws p q) es).map D.int))=iB (nuL r (qy ws p q) es):=uy _;simp only [jW,g];rw [if_pos (by omega),l,bM,n]
  ·rw [YO hw hl a c (i z)];have:=qaC a B.2.2.1 (by rw [bM]; exact Up B);rw [B.1,bM] at this;rw [this]
 ·refine ⟨iD,Ut h1,λ_=>rfl,λz _=>b ⟨by omega,by rw [z]; exact R2⟩,λes' e=>(by cases e),λz=>?_⟩;rw [YO hw hl a c (i z)];have:¬OKs r (bk []) (qy ws p q):=λ⟨v,j,hd⟩=>b ⟨by have:=qgJ a hd; omega,v,j,hd⟩;rw [qaB this]
theorem qgK (u:qeY ca) (n:List Int):qb1 ca [scr n]=.ok (.bl iH,[.non]):=by
 refine runD_ap.trans ?_;obtain ⟨ws,O,hw,z,g1⟩:=qb4 n [] (by simp);rw [aZ] at z;obtain ⟨p,q,g,hl,ht1,g2⟩:=qee n O (by omega);obtain ⟨d,hd,U⟩:=Ub n g [.int 0,.int 100,.int (-1),.non,.bl iH,.str "1"] (by simp) (by omega);have t:Pl d/\Kj 1 99 d=false:=by simp only [ae,bH,or_false] at hd;rcases hd with rfl | rfl | rfl | rfl | rfl | rfl <;> exact ⟨trivial,rfl⟩
 have cR:(aQ "NoRoom")∈CS:=by decide +kernel
 have cN:(aQ "Never")∈CS:=by decide +kernel
 have h6:=hw.2.1;have h0:=hw.1;have hs:=ud ws p q;have N:6<=sizeLine:=ji (by omega);have z2:2<=sizeLine:=ji (by omega);have V:=qcj (ca:=ca) (qch hw hl t.1 t.2) cR (XQ u);have w:=VQ hw hl;have c2:=qek hw hl (yJ (l:=qy ws p q) (by omega));have y:=qgI (clo (qy ws p q));have S:jN (Wd ws)=.ok (.int ws.length):=by simp [jN,Wd]
 have h:=qan hw hl;generalize g++[D.int 0]=t2 at *;unfold qea;rw [show qx qd9 [scr n]=[iB (scr n),iD,iD,iD,iD,iD,iD,iD,iD,iD] from rfl];refine (qF (ρ1:=[iB (scr n),iB (.lst []),iD,iD,iD,iD,iD,iD,iD,iD]) (by simp)).trans ?_;refine (qF (ρ1:=[iB (scr n),iB (.lst O),iB (Wd ws),iD,iD,iD,iD,iD,iD,iD]) (by simp [qD,jq,g1])).trans ?_;refine (qF (ρ1:=[iB (scr n),iB (.lst g),iB (Wd ws),iB (Ld p q),iD,iD,iD,iD,iD,iD]) (by generalize Wd ws=W;simp [qD,jq,g2])).trans ?_;cases m:clo (qy ws p q) with
 | some c=>
  rw [m] at w c2 y;have M:=qck (ca:=ca) (c:=.non) (Us hw hl m) cN (Ur u);have a2:vX ca [.int 0,Wd ws,Ld p q,.int 99]=.ok (.non,[.non,.non,.non,.non]):=by
   rcases qcW hw hl (r:=99) (by omega) (by omega) with ⟨es,hB,h1,h2⟩ | ⟨hno,h1⟩
   ·exfalso;have I:=Up hB;obtain ⟨j,G,e⟩:=List.exists_of_findSome?_eq_some m;unfold clF at e;cases Q:(au j).find? (clP (qy ws p q) j) with
    | none=>rw [Q] at e; cases e
    | some i=>
     obtain ⟨e1,e2,_⟩:=List.find?_range_eq_some.mp Q;have H:=aM.mp e2;have G:=aM.mp G;have:=cK.mp I i j (by omega) G H;rw [XR (by omega),XR G] at this;apply this;have e1:al (pa (qy ws p q) i) (pa (qy ws p q) j)=true:=e1;have:nu (yh es) (pa (qy ws p q) i)=nu (yh es) (pa (qy ws p q) j):=by
      unfold nu;rcases al_iff.mp e1 with e1 | e1;·rw [e1]
      ·rw [e1];exact Int.add_comm _ _
     rw [this,im];exact ip _
   ·exact Ut h1
  generalize Wd ws=W at *;generalize Ld p q=L at *;have J:yi (clD (iB c)) .non=.ok (.bl iH):=by simp [clD,yi]
  generalize clD (iB c)=C at *;refine (qF (ρ1:=[iB (scr n),iB (.lst g),iB W,iB L,iB C,iD,iD,iD,iD,iD]) (by simp [qD,jq,w])).trans ?_;refine (qF (ρ1:=[iB (scr n),iB (.lst g),iB W,iB L,iB C,iD,iD,iD,iD,iD]) (by simp [qD,jq,c2,y])).trans ?_;refine (qF (ρ1:=[iB (scr n),iB (.lst t2),iB W,iB L,iB C,iD,iD,iD,iD,iD]) (by simp [qD,jq,U,V,qaN,N,z2,neD,eqN,eqS,vC])).trans ?_;simp [qD,jq,J,M,a2,z2,eqD,eqN,eqS,vC,vD,qdu,qv]
 | none=>
  rw [m] at w c2 y;obtain ⟨R,l1,K⟩:=qce hw hl m;have M:=qeN (ca:=ca) (c:=.non) l1;have R1:=K.1;have T:R<=97:=by
   obtain ⟨v,hv⟩:=qiL (qcV m) (by omega);by_cases q:R<=97;·exact q
   ·exact absurd ⟨v,(λx hx=>by cases hx),hv⟩ (K.2.2 97 (by omega) (by omega))
  have o:ge 1 (R+2 - 1).toNat=((au (R+1).toNat).map λ(j:Nat)=>(1:Int)+j).map D.int:=by unfold ge;rw [bb,show (R+2 - 1).toNat=(R+1).toNat by omega];rfl
  obtain ⟨F,Z,Y,X,el⟩:=qaL (B:=lmB ca) (a:=iB (scr n)) (b:=iB (.lst t2)) (c:=iB (Wd ws)) (d:=iB (Ld p q)) (e:=iB .non) (f:=iB (.int R)) (P:=λr=>1<=r/\r<=99) (λr k x7 x8 x9=>by obtain ⟨f,f1,f2,f3,f4,f5⟩:=qcl (ca:=ca) hw hl K k.1 k.2;exact qeO k.1 k.2 f1 f2 f3 f4 S h f5 _ _ _ x7 x8 x9) ((au (R+1).toNat).map λ(j:Nat)=>(1:Int)+j) iD iD iD iD (λr k=>by obtain ⟨j,G,rfl⟩:=aw.mp k;have:=aM.mp G;omega);have s:=iR2 (fa:=dC (.int 1)) (fb:=d2 kK (qd 5) (dC (.int 2))) (ρ:=[iB (scr n),iB (.lst t2),iB (Wd ws),iB (Ld p q),iB .non,iB (.int R),iD,iD,iD,iD]) (ρ1:=[iB (scr n),iB (.lst t2),iB (Wd ws),iB (Ld p q),iB .non,iB (.int R),iD,iD,iD,iD]) (ρ2:=[iB (scr n),iB (.lst t2),iB (Wd ws),iB (Ld p q),iB .non,iB (.int R),iD,iD,iD,iD]) (i:=1) (j:=R+2) (by omega) (by omega) (by omega) (by omega) rfl (by simp [kK]);rw [o] at s;generalize Wd ws=W at *;generalize Ld p q=L at *;have E:(ws.length:Int)<=R:=by omega
  have A:R < 99:=by omega
  refine (qF (ρ1:=[iB (scr n),iB (.lst g),iB W,iB L,iB .non,iD,iD,iD,iD,iD]) (by simp [qD,jq,w,clD])).trans ?_;refine (qF (ρ1:=[iB (scr n),iB (.lst g),iB W,iB L,iB .non,iD,iD,iD,iD,iD]) (by simp [qD,jq,c2,clD,neD,eqN,eqS])).trans ?_;refine (qF (ρ1:=[iB (scr n),iB (.lst t2),iB W,iB L,iB .non,iD,iD,iD,iD,iD]) (by simp [qD,jq,U,V,qaN,N,z2,neD,eqN,eqS,vC])).trans ?_;refine (qF (ρ1:=[iB (scr n),iB (.lst t2),iB W,iB L,iB .non,iD,iD,iD,iD,iD]) (by simp [yi])).trans ?_;refine (qF (ρ1:=[iB (scr n),iB (.lst t2),iB W,iB L,iB .non,iB (.int R),iD,iD,iD,iD]) (by simp [qD,jq,M])).trans ?_;refine (qF (ρ1:=[iB (scr n),iB (.lst t2),iB W,iB L,iB .non,iB (.int R),iD,iD,iD,iD]) (by simp [S,leD,ltD,E,A])).trans ?_;refine (qF (ρ1:=[iB (scr n),iB (.lst t2),iB W,iB L,iB .non,iB (.int R),F,Z,Y,X]) (by rw [we,s,kN]; exact el)).trans ?_;simp [qv]
end Kx
namespace Kx
open PySem PySem.Spec PyProof.Rows L2 L2.D2
variable {us:List iE} {P:List iE->Prop}
theorem qiN (hl:us.length=0) (h:P []):P us:=ej.mp hl ▸ h
theorem qgL {n:Nat} (hl:us.length=n+1):∃ a l,us=a::l/\l.length=n:=by
 cases us with
 | nil=>cases hl
 | cons a l=>exact ⟨a,l,rfl,Nat.succ.inj hl⟩
theorem qiO (hl:us.length=1) (h:∀ a,P [a]):P us:=by obtain ⟨a,l,rfl,e⟩:=qgL hl;exact qiN (P:=λl=>P (a::l)) e (h a)
theorem qiP (hl:us.length=2) (h:∀ a b,P [a,b]):P us:=by obtain ⟨a,l,rfl,e⟩:=qgL hl;exact qiO (P:=λl=>P (a::l)) e (h a)
theorem qiQ (hl:us.length=3) (h:∀ a b c,P [a,b,c]):P us:=by obtain ⟨a,l,rfl,e⟩:=qgL hl;exact qiP (P:=λl=>P (a::l)) e (h a)
theorem qiR (hl:us.length=4) (h:∀ a b c d,P [a,b,c,d]):P us:=by obtain ⟨a,l,rfl,e⟩:=qgL hl;exact qiQ (P:=λl=>P (a::l)) e (h a)
theorem qjm (hl:us.length=5) (h:∀ a b c d e,P [a,b,c,d,e]):P us:=by obtain ⟨a,l,rfl,e⟩:=qgL hl;exact qiR (P:=λl=>P (a::l)) e (h a)
variable {K:Frag} {h:Heap} {mg:Str->Option iE}
theorem qeP (X:K.In h) (G:h.Ns mainGlobals mg) {x:Str} {st:Stmt} {ps:List Str} {f:Addr} {oc:iE} {od an:Option Addr} {osl:Array (Option iE)} {kV doc pm cdv ct:iE}
  (a:nsIn K mainGlobals x=iB (iB (.ref f))) (l:K.lookup f=iB ⟨oc,od,.func (bV x x (ul st) (kJ st) (qe st) .none kV doc pm an cdv ct),osl⟩) (c:codeIn K cdv x=iH) (k:keepIn K (.ref f)=iH)
  (d:∀ (kV doc pm:iE) (an:Option Addr) (cdv ct:iE) (us:List iE),us.length=ps.length->bindArgs (bV x x (ul st) (kJ st) (qe st) .none kV doc pm an cdv ct) ⟨us,[]⟩=pure (ps.zip us)):jd K mg x st ps:=
 ⟨f,_,Zo l c k,lq X G a,(Zo l c k).binds d⟩
variable {x:Str}
theorem qaM {l:List Str} {f:Str->Addr} (nd:(l.map f).Nodup) {y:Str} (hx:x∈l) (B:y∈l) (e:f x=f y):x=y:=by obtain ⟨i,hi,rfl⟩:=dP.mp hx;obtain ⟨j,G,rfl⟩:=dP.mp B;have q:=(fY (h₀:=by simpa using hi) (h₁:=by simpa using G) nd).mp (show (l.map f)[i]'(by simpa using hi)=(l.map f)[j]'(by simpa using G) by simpa using e);subst q;rfl
noncomputable def caT (T:List (Str×Addr)) (x:Str):Addr:=(T.lookup x).getD 0
noncomputable def qcm (K:Frag) (Cs:List Addr) (W:Addr):Bool:=decide Cs.Nodup&&Cs.all λc=>xcB K c&&decide (dO K (.ref c) (.ref W)=iB iH)&&decide (bW K (.ref c) (.type "ValueError")=iB iH)&&d4 K c bmV "ValueError.__new__"&&Cs.all λd=>decide (bW K (.ref c) (.ref d)=iB (decide (c=d)))
theorem qcn {Cs:List Addr} {W:Addr} (h:qcm K Cs W=iH):Cs.Nodup/\∀ c∈Cs,xcB K c=iH/\dO K (.ref c) (.ref W)=iB iH/\bW K (.ref c) (.type "ValueError")=iB iH/\d4 K c bmV "ValueError.__new__"=iH/\∀ d∈Cs,bW K (.ref c) (.ref d)=iB (decide (c=d)):=by unfold qcm at h;rw [aK,aJ] at h;refine ⟨of_decide_eq_true h.1,λc a=>?_⟩;have q:=h.2 c a;simp only [aK,decide_eq_true_eq,aJ] at q;exact ⟨q.1.1.1.1,q.1.1.1.2,q.1.1.2,q.1.2,q.2⟩
theorem qgM {c:Str} (h:c∈CS):c = "NoWords"\/c = "NoLook"\/c = "NoNumbers"\/c = "NoRoom"\/c = "NoWord"\/c = "NoWorths"\/c = "Never"\/c = "Full"\/c = "Known":=by simpa [CS] using h
theorem qij (X:K.In h) (G:h.Ns mainGlobals mg) {CW o m l k j i g f C:Addr}  {E t a M S:Tok}
    (D:nsIn K mainGlobals "WordError"=iB (iB (.ref CW)))
    (R:nsIn K mainGlobals "NoWords"=iB (iB (.ref o)))
    (Q:nsIn K mainGlobals "NoLook"=iB (iB (.ref m)))
    (P:nsIn K mainGlobals "NoNumbers"=iB (iB (.ref l)))
    (O:nsIn K mainGlobals "NoRoom"=iB (iB (.ref k)))
    (N:nsIn K mainGlobals "NoWord"=iB (iB (.ref j)))
    (L:nsIn K mainGlobals "NoWorths"=iB (iB (.ref i)))
    (J:nsIn K mainGlobals "Never"=iB (iB (.ref g)))
    (I:nsIn K mainGlobals "Full"=iB (iB (.ref f)))
    (H:nsIn K mainGlobals "Known"=iB (iB (.ref C)))
    (z_ValueError:nsIn K mainGlobals "ValueError"=iB iD)
    (z_all:nsIn K mainGlobals "all"=iB iD)
    (z_bool:nsIn K mainGlobals "bool"=iB iD)
    (z_dict:nsIn K mainGlobals "dict"=iB iD)
    (z_enumerate:nsIn K mainGlobals "enumerate"=iB iD)
    (z_int:nsIn K mainGlobals "int"=iB iD)
    (z_isinstance:nsIn K mainGlobals "isinstance"=iB iD)
    (z_len:nsIn K mainGlobals "len"=iB iD)
    (z_list:nsIn K mainGlobals "list"=iB iD)
    (z_max:nsIn K mainGlobals "max"=iB iD)
    (z_min:nsIn K mainGlobals "min"=iB iD)
    (z_range:nsIn K mainGlobals "range"=iB iD)
    (z_set:nsIn K mainGlobals "set"=iB iD)
    (z_sorted:nsIn K mainGlobals "sorted"=iB iD)
    (z_str:nsIn K mainGlobals "str"=iB iD)
    (z_sum:nsIn K mainGlobals "sum"=iB iD)
    (z_tuple:nsIn K mainGlobals "tuple"=iB iD)
    (z_zip:nsIn K mainGlobals "zip"=iB iD)
    (c_LEAST_PLACE:nsIn K mainGlobals "LEAST_PLACE"=iB (iB (.int (-3) E)))
    (c_MOST_LETTERS:nsIn K mainGlobals "MOST_LETTERS"=iB (iB (.int 6 t)))
    (c_MOST_PLACE:nsIn K mainGlobals "MOST_PLACE"=iB (iB (.int 2 a)))
    (c_MOST_ROOM:nsIn K mainGlobals "MOST_ROOM"=iB (iB (.int 99 M)))
    (c_MOST_WORDS:nsIn K mainGlobals "MOST_WORDS"=iB (iB (.int 6 S)))
    (ex:qcm K [o,m,l,k,j,i,g,f,C] CW=iH)
     :
    Zt K mg (λx=>.ref (caT [("WordError",CW),("NoWords",o),("NoLook",m),("NoNumbers",l),("NoRoom",k),("NoWord",j),("NoWorths",i),("Never",g),("Full",f),("Known",C)] x)) (caT [("WordError",CW),("NoWords",o),("NoLook",m),("NoNumbers",l),("NoRoom",k),("NoWord",j),("NoWorths",i),("Never",g),("Full",f),("Known",C)])/\qeY (caT [("WordError",CW),("NoWords",o),("NoLook",m),("NoNumbers",l),("NoRoom",k),("NoWord",j),("NoWorths",i),("Never",g),("Full",f),("Known",C)]):=by
  obtain ⟨nd,al⟩:=qcn ex;generalize hT:([("WordError",CW),("NoWords",o),("NoLook",m),("NoNumbers",l),("NoRoom",k),("NoWord",j),("NoWorths",i),("Never",g),("Full",f),("Known",C)]:List (Str×Addr))=T;have W:caT T "WordError"=CW:=by subst hT; kernel_rfl
  have z:caT T "NoWords"=o:=by subst hT; kernel_rfl
  have e1:caT T "NoLook"=m:=by subst hT; kernel_rfl
  have w:caT T "NoNumbers"=l:=by subst hT; kernel_rfl
  have v:caT T "NoRoom"=k:=by subst hT; kernel_rfl
  have u:caT T "NoWord"=j:=by subst hT; kernel_rfl
  have A:caT T "NoWorths"=i:=by subst hT; kernel_rfl
  have s:caT T "Never"=g:=by subst hT; kernel_rfl
  have r:caT T "Full"=f:=by subst hT; kernel_rfl
  have q:caT T "Known"=C:=by subst hT; kernel_rfl
  have p:CS.map (caT T)=[o,m,l,k,j,i,g,f,C]:=by unfold CS;simp only [aF,cx,z,e1,w,v,u,A,s,r,q]
  have n:∀ c∈CS,caT T c∈[o,m,l,k,j,i,g,f,C]:=λc b=>p ▸ aw.mpr ⟨c,b,rfl⟩;refine ⟨⟨⟨λc b=>rfl,λc b=>?_,λc b=>(al _ (n c b)).1,λc b d hd=>(al _ (n c b)).2.2.2.2 _ (n d hd),λc b=>(al _ (n c b)).2.2.1⟩,λc b=>?_,λc b=>(al _ (n c b)).2.2.2.1,λx hx=>absurd hx (by simp [FS]),?_,iT X G z_ValueError,iT X G z_all,iT X G z_bool,iT X G z_dict,iT X G z_enumerate,iT X G z_int,iT X G z_isinstance,iT X G z_len,iT X G z_list,iT X G z_max,iT X G z_min,iT X G z_range,iT X G z_set,iT X G z_sorted,iT X G z_str,iT X G z_sum,iT X G z_tuple,iT X G z_zip,⟨_,lq X G c_LEAST_PLACE⟩,⟨_,lq X G c_MOST_LETTERS⟩,⟨_,lq X G c_MOST_PLACE⟩,⟨_,lq X G c_MOST_ROOM⟩,⟨_,lq X G c_MOST_WORDS⟩⟩,λx hx y B e=>?_⟩;· show dO K (.ref (caT T c)) (.ref (caT T "WordError"))=iB iH;rw [W];exact (al _ (n c b)).2.1
  · rcases qgM b with rfl | rfl | rfl | rfl | rfl | rfl | rfl | rfl | rfl;· rw [z]; exact lq X G R
    · rw [e1]; exact lq X G Q
    · rw [w]; exact lq X G P
    · rw [v]; exact lq X G O
    · rw [u]; exact lq X G N
    · rw [A]; exact lq X G L
    · rw [s]; exact lq X G J
    · rw [r]; exact lq X G I
    · rw [q]; exact lq X G H
  · show mg "WordError"=iB (.ref (caT T "WordError"));rw [W];exact lq X G D
  ·
    rw [<-p] at nd;exact qaM nd hx B e
structure Tx (K:Frag) (mg:Str->Option iE) (ca:Str->Addr):Prop where
 x_is_between:jd K mg "is_between" vJ ["thing", "least", "most"]
 x_check_room:jd K mg "check_room" vL ["thing"]
 x_is_letter:jd K mg "is_letter" wK ["thing"]
 x_is_worth:jd K mg "is_worth" uT ["thing", "room"]
 x_is_worths:jd K mg "is_worths" jK ["thing", "room"]
 x_check_worths:jd K mg "check_worths" kB ["thing", "room"]
 x_is_word:jd K mg "is_word" wz ["thing"]
 x_is_words:jd K mg "is_words" vd ["thing"]
 x_check_words:jd K mg "check_words" kU ["thing"]
 x_is_look:jd K mg "is_look" wA ["thing"]
 x_check_look:jd K mg "check_look" vN ["thing"]
 x_letter_at:jd K mg "letter_at" wP ["word", "place"]
 x_pairs:jd K mg "pairs" xH ["words", "look"]
 x_letters_of:jd K mg "letters_of" jA ["seen"]
 x_within:jd K mg "within" zK ["total", "room"]
 x_numbered:jd K mg "numbered" kb ["words", "look", "room", "worths"]
 x_are_alike:jd K mg "are_alike" wR ["one", "two"]
 x_clash_of:jd K mg "clash_of" uX ["seen"]
 x_clash:jd K mg "clash" JC ["words", "look"]
 x_Lcell_at:jd K mg "_law_cell_at" uY ["_law_script", "_law_k"]
 x_Lmixed:jd K mg "_law_mixed" zM ["_law_script", "_law_k", "_law_many"]
 x_Ldraw:jd K mg "_law_draw" JF ["_law_script", "_law_town", "_law_many"]
 x_Lpick:jd K mg "_law_pick" JG ["_law_script", "_law_town", "_law_some"]
 x_Lword:jd K mg "_law_word" JH ["_law_script", "_law_town", "_law_few"]
 x_Lwords:jd K mg "_law_words" zO ["_law_script", "_law_town", "_law_most"]
 x_Llook:jd K mg "_law_look" JL ["_law_script", "_law_town"]
 x_Lletter:jd K mg "_law_letter" xl ["_law_word_here", "_law_place"]
 x_Lpairs:jd K mg "_law_pairs" uZ ["_law_words_here", "_law_look_here"]
 x_Lseen:jd K mg "_law_seen" JO ["_law_words_here", "_law_look_here"]
 x_is_loose:jd K mg "is_loose" vg ["pair", "seen", "fixed"]
 x_bound_pairs:jd K mg "bound_pairs" jn ["seen", "fixed"]
 x_unshared:jd K mg "unshared" yb ["one", "two"]
 x_contrasts_of:jd K mg "contrasts_of" jD ["seen"]
 x_may_differ:jd K mg "may_differ" jc ["contrast", "room", "fixed"]
 x_with_worth:jd K mg "with_worth" vP ["fixed", "letter", "worth"]
 x_can_be_filled:jd K mg "can_be_filled" jh ["contrasts", "room", "fixed", "letters"]
 x_can_differ:jd K mg "can_differ" kg ["seen", "room", "fixed"]
 x_least_worths:jd K mg "least_worths" kC ["seen", "room"]
 x_one_to_one:jd K mg "one_to_one" vU ["words", "look", "room"]
 x_room_from:jd K mg "room_from" ua ["seen", "room"]
 x_least_room:jd K mg "least_room" vV ["words", "look"]
 x_Lwhich:jd K mg "_law_which" zQ ["_law_e"]
 x_Lask:jd K mg "_law_ask" Yu ["_law_what", "_law_words_here", "_law_look_here", "_law_room"]
 x_Lclash:jd K mg "_law_clash" yd ["_law_words_here", "_law_look_here"]
 x_Lfirst:jd K mg "_law_first" vY ["_law_words_here", "_law_look_here", "_law_room"]
variable {cv:Str->iE} {ca:Str->Addr}
theorem qgN {P:iJ} {w:iK} {base:Heap} {f:Addr} {fd:j6} (Z:Zt K mg cv ca) (T:Tx K mg ca) (F:Fun K "law" "law" qaf f fd):FnOk P w K mg base (CXk P w) 21 f fd ["_law_script"] (spD K cv [.val] .sh (qb1 ca)):=by have n:=Ju (P:=P) (w:=w) (base:=base) Z T.x_is_between ;have m:=Jw (P:=P) (w:=w) (base:=base) Z T.x_check_room n;have a:=Vp (P:=P) (w:=w) (base:=base) Z T.x_is_letter ;have D:=WI (P:=P) (w:=w) (base:=base) Z T.x_is_worth n a;have z:=Vq (P:=P) (w:=w) (base:=base) Z T.x_is_worths D;have i:=gN (P:=P) (w:=w) (base:=base) Z T.x_check_worths z;have J:=XE (P:=P) (w:=w) (base:=base) Z T.x_is_word a;have E:=WK (P:=P) (w:=w) (base:=base) Z T.x_is_words J;have j:=Qq (P:=P) (w:=w) (base:=base) Z T.x_check_words E;have M:=XG (P:=P) (w:=w) (base:=base) Z T.x_is_look n;have v:=Jy (P:=P) (w:=w) (base:=base) Z T.x_check_look M;have y:=Vr (P:=P) (w:=w) (base:=base) Z T.x_letter_at ;have s:=qbQ (P:=P) (w:=w) (base:=base) Z T.x_pairs j v y;have o:=JA (P:=P) (w:=w) (base:=base) Z T.x_letters_of ;have O:=GQ (P:=P) (w:=w) (base:=base) Z T.x_within ;have C:=WN (P:=P) (w:=w) (base:=base) Z T.x_numbered m i s o O;have A:=Vu (P:=P) (w:=w) (base:=base) Z T.x_are_alike ;have e:=WO (P:=P) (w:=w) (base:=base) Z T.x_clash_of A;have W:=qbS (P:=P) (w:=w) (base:=base) Z T.x_clash s e;have I:=WS (P:=P) (w:=w) (base:=base) Z T.x_Lcell_at ;have S:=GS (P:=P) (w:=w) (base:=base) Z T.x_Lmixed I;have b:=qbU (P:=P) (w:=w) (base:=base) Z T.x_Ldraw S;have l:=qbW (P:=P) (w:=w) (base:=base) Z T.x_Lpick b;have X:=qbX (P:=P) (w:=w) (base:=base) Z T.x_Lword b l;have Q:=GW (P:=P) (w:=w) (base:=base) Z T.x_Lwords b l X;have Y:=qbZ (P:=P) (w:=w) (base:=base) Z T.x_Llook b;have N:=XI (P:=P) (w:=w) (base:=base) Z T.x_Lletter ;have c:=GZ (P:=P) (w:=w) (base:=base) Z T.x_Lpairs N;have H:=qb0 (P:=P) (w:=w) (base:=base) Z T.x_Lseen c;have G:=WZ (P:=P) (w:=w) (base:=base) Z T.x_is_loose ;have k:=Qr (P:=P) (w:=w) (base:=base) Z T.x_bound_pairs G;have B:=Ua (P:=P) (w:=w) (base:=base) Z T.x_unshared ;have h:=Qc (P:=P) (w:=w) (base:=base) Z T.x_contrasts_of B;have t:=JQ (P:=P) (w:=w) (base:=base) Z T.x_may_differ ;have p:=JR (P:=P) (w:=w) (base:=base) Z T.x_with_worth ;have d:=zy (P:=P) (w:=w) (base:=base) Z T.x_can_be_filled t p;have r:=JS (P:=P) (w:=w) (base:=base) Z T.x_can_differ o k h d;have L:=Qs (P:=P) (w:=w) (base:=base) Z T.x_with_worth ;have g:=Qd (P:=P) (w:=w) (base:=base) Z T.x_least_worths o L r;have q:=JT (P:=P) (w:=w) (base:=base) Z T.x_one_to_one m s r g;have x:=Vz (P:=P) (w:=w) (base:=base) Z T.x_room_from r;have u:=JU (P:=P) (w:=w) (base:=base) Z T.x_least_room s e x;have R:=qab (P:=P) (w:=w) (base:=base) Z T.x_Lwhich ;have o_Lask:=qd8 (P:=P) (w:=w) (base:=base) Z T.x_Lask q u R;have V:=qad (P:=P) (w:=w) (base:=base) Z T.x_Lclash c;have U:=qae (P:=P) (w:=w) (base:=base) Z T.x_Lfirst c H;exact qgc Z F C W l Q Y H o_Lask V U
def qco (K:Frag):Sp:=λvs H Q _=>∃ (a:Addr) (ns:List Int),vs=[.ref a]/\SqL K H a (ns.map V.int)/\∀ H',Q (.bl iH) H'
theorem YS {F:Hp}:∀ ns:List Int,IsL K F (ns.map V.int) (ns.map D.int)
 | []=>.nil
 | n::ns=>.cons (.int n) (YS ns)
theorem qik (h:qeY ca) (vs:List V) (H:Hp) (Q:VK) (E:XK) (q:qco K vs H Q E):spD K cv [.val] .sh (qb1 ca) vs H Q E:=by obtain ⟨a,ns,rfl,c,hq⟩:=q;refine ⟨H,[scr ns],Same.refl _,⟨.lst c (YS ns),trivial⟩,bX,?_⟩;rw [qgK h ns];intro v F' H' p o z b;have b:Is K F' v (.bl iH):=b;cases b;exact hq H'
abbrev NsX (K:Frag) (x:Str) (f:Addr):Prop:=nsIn K mainGlobals x=iB (iB (.ref f))
abbrev CdX (K:Frag) (v:iE) (x:Str):Prop:=codeIn K v x=iH
abbrev KpX (K:Frag) (f:Addr):Prop:=keepIn K (.ref f)=iH
abbrev LkX (K:Frag) (x:Str) (st:Stmt) (f:Addr) (oc:iE) (od an:Option Addr) (sl:Array (Option iE)) (kV d pm cd ct:iE):Prop:=K.lookup f=iB ⟨oc,od,.func (bV x x (ul st) (kJ st) (qe st) .none kV d pm an cd ct),sl⟩
def Dx (K:Frag) (x:Str) (st:Stmt):Prop:=∃ (f:Addr) (oc:iE) (od an:Option Addr) (sl:Array (Option iE)) (kV d pm cd ct:iE),NsX K x f/\LkX K x st f oc od an sl kV d pm cd ct/\CdX K cd x/\KpX K f
theorem jk (X:K.In h) (G:h.Ns mainGlobals mg) {st:Stmt} {ps:List Str} (q:Dx K x st) (d:∀ (kV doc pm:iE) (an:Option Addr) (cdv ct:iE) (us:List iE),us.length=ps.length->bindArgs (bV x x (ul st) (kJ st) (qe st) .none kV doc pm an cdv ct) ⟨us,[]⟩=pure (ps.zip us):=by
  intro _ _ _ _ _ _ us hl;first | refine qiN (P:=λus=>bindArgs _ ⟨us,[]⟩=pure (ia _ us)) hl ?_ | refine qiO (P:=λus=>bindArgs _ ⟨us,[]⟩=pure (ia _ us)) hl ?_ | refine qiP (P:=λus=>bindArgs _ ⟨us,[]⟩=pure (ia _ us)) hl ?_ | refine qiQ (P:=λus=>bindArgs _ ⟨us,[]⟩=pure (ia _ us)) hl ?_ | refine qiR (P:=λus=>bindArgs _ ⟨us,[]⟩=pure (ia _ us)) hl ?_ | refine qjm (P:=λus=>bindArgs _ ⟨us,[]⟩=pure (ia _ us)) hl ?_
  all_goals intros; rfl):jd K mg x st ps:=by
 obtain ⟨f,oc,od,an,sl,kV,b,pm,cd,ct,a,l,c,k⟩:=q;exact qeP X G a l c k d
theorem qgO {l:g8} {w:iK} {fa:Addr} (X:K.In h) (G:h.Ns mainGlobals mg) (hfa:mg "law"=iB (.ref fa)) {CW C0 C1 C2 C3 C4 C5 C6 C7 C8:Addr} {a t b M S:Tok}
  (aW:nsIn K mainGlobals "WordError"=iB (iB (.ref CW)))
  (a0:nsIn K mainGlobals "NoWords"=iB (iB (.ref C0)))
  (a1:nsIn K mainGlobals "NoLook"=iB (iB (.ref C1)))
  (a2:nsIn K mainGlobals "NoNumbers"=iB (iB (.ref C2)))
  (a3:nsIn K mainGlobals "NoRoom"=iB (iB (.ref C3)))
  (a4:nsIn K mainGlobals "NoWord"=iB (iB (.ref C4)))
  (a5:nsIn K mainGlobals "NoWorths"=iB (iB (.ref C5)))
  (a6:nsIn K mainGlobals "Never"=iB (iB (.ref C6)))
  (a7:nsIn K mainGlobals "Full"=iB (iB (.ref C7)))
  (a8:nsIn K mainGlobals "Known"=iB (iB (.ref C8)))
  (z_ValueError:nsIn K mainGlobals "ValueError"=iB iD)
  (z_all:nsIn K mainGlobals "all"=iB iD)
  (z_bool:nsIn K mainGlobals "bool"=iB iD)
  (z_dict:nsIn K mainGlobals "dict"=iB iD)
  (z_enumerate:nsIn K mainGlobals "enumerate"=iB iD)
  (z_int:nsIn K mainGlobals "int"=iB iD)
  (z_isinstance:nsIn K mainGlobals "isinstance"=iB iD)
  (z_len:nsIn K mainGlobals "len"=iB iD)
  (z_list:nsIn K mainGlobals "list"=iB iD)
  (z_max:nsIn K mainGlobals "max"=iB iD)
  (z_min:nsIn K mainGlobals "min"=iB iD)
  (z_range:nsIn K mainGlobals "range"=iB iD)
  (z_set:nsIn K mainGlobals "set"=iB iD)
  (z_sorted:nsIn K mainGlobals "sorted"=iB iD)
  (z_str:nsIn K mainGlobals "str"=iB iD)
  (z_sum:nsIn K mainGlobals "sum"=iB iD)
  (z_tuple:nsIn K mainGlobals "tuple"=iB iD)
  (z_zip:nsIn K mainGlobals "zip"=iB iD)
  (c_LEAST_PLACE:nsIn K mainGlobals "LEAST_PLACE"=iB (iB (.int (-3) a)))
  (c_MOST_LETTERS:nsIn K mainGlobals "MOST_LETTERS"=iB (iB (.int 6 t)))
  (c_MOST_PLACE:nsIn K mainGlobals "MOST_PLACE"=iB (iB (.int 2 b)))
  (c_MOST_ROOM:nsIn K mainGlobals "MOST_ROOM"=iB (iB (.int 99 M)))
  (c_MOST_WORDS:nsIn K mainGlobals "MOST_WORDS"=iB (iB (.int 6 S)))
  (ex:qcm K [C0,C1,C2,C3,C4,C5,C6,C7,C8] CW=iH)
  (q0:Dx K "is_between" vJ)
  (q1:Dx K "check_room" vL)
  (q2:Dx K "is_letter" wK)
  (q3:Dx K "is_worth" uT)
  (q4:Dx K "is_worths" jK)
  (q5:Dx K "check_worths" kB)
  (q6:Dx K "is_word" wz)
  (q7:Dx K "is_words" vd)
  (q8:Dx K "check_words" kU)
  (q9:Dx K "is_look" wA)
  (q10:Dx K "check_look" vN)
  (q11:Dx K "letter_at" wP)
  (q12:Dx K "pairs" xH)
  (q13:Dx K "letters_of" jA)
  (q14:Dx K "within" zK)
  (q15:Dx K "numbered" kb)
  (q16:Dx K "are_alike" wR)
  (q17:Dx K "clash_of" uX)
  (q18:Dx K "clash" JC)
  (q19:Dx K "_law_cell_at" uY)
  (Y:Dx K "_law_mixed" zM)
  (W:Dx K "_law_draw" JF)
  (V:Dx K "_law_pick" JG)
  (U:Dx K "_law_word" JH)
  (R:Dx K "_law_words" zO)
  (O:Dx K "_law_look" JL)
  (N:Dx K "_law_letter" xl)
  (L:Dx K "_law_pairs" uZ)
  (J:Dx K "_law_seen" JO)
  (I:Dx K "is_loose" vg)
  (D:Dx K "bound_pairs" jn)
  (C:Dx K "unshared" yb)
  (B:Dx K "contrasts_of" jD)
  (A:Dx K "may_differ" jc)
  (z:Dx K "with_worth" vP)
  (y:Dx K "can_be_filled" jh)
  (x:Dx K "can_differ" kg)
  (u:Dx K "least_worths" kC)
  (r:Dx K "one_to_one" vU)
  (p:Dx K "room_from" ua)
  (o:Dx K "least_room" vV)
  (n:Dx K "_law_which" zQ)
  (m:Dx K "_law_ask" Yu)
  (j:Dx K "_law_clash" yd)
  (i:Dx K "_law_first" vY)
  (g:Dx K "law" qaf) :
  ∃ fd:j6,(∀ (s:iI) (v:iE),lG s fd ⟨[v],[]⟩ [("_law_script",v)])/\∀ base:Heap,K.In base->base.Ns mainGlobals mg->FnOk l.prog w K mg base (CXk l.prog w) 21 fa fd ["_law_script"] (qco K):=by
 obtain ⟨f45,_,_,_,_,_,_,_,_,_,f,c,d,k⟩:=g;have e:=hfa.symm.trans (lq X G f);cases e;obtain ⟨Z,cok⟩:=qij X G aW a0 a1 a2 a3 a4 a5 a6 a7 a8 z_ValueError z_all z_bool z_dict z_enumerate z_int z_isinstance z_len z_list z_max z_min z_range z_set z_sorted z_str z_sum z_tuple z_zip c_LEAST_PLACE c_MOST_LETTERS c_MOST_PLACE c_MOST_ROOM c_MOST_WORDS ex;have T:Tx K mg (caT [("WordError",CW),("NoWords",C0),("NoLook",C1),("NoNumbers",C2),("NoRoom",C3),("NoWord",C4),("NoWorths",C5),("Never",C6),("Full",C7),("Known",C8)]):=⟨jk X G q0,jk X G q1,jk X G q2,jk X G q3,jk X G q4,jk X G q5,jk X G q6,jk X G q7,jk X G q8,jk X G q9,jk X G q10,jk X G q11,jk X G q12,jk X G q13,jk X G q14,jk X G q15,jk X G q16,jk X G q17,jk X G q18,jk X G q19,jk X G Y,jk X G W,jk X G V,jk X G U,jk X G R,jk X G O,jk X G N,jk X G L,jk X G J,jk X G I,jk X G D,jk X G C,jk X G B,jk X G A,jk X G z,jk X G y,jk X G x,jk X G u,jk X G r,jk X G p,jk X G o,jk X G n,jk X G m,jk X G j,jk X G i⟩
 have F:=Zo (st:=qaf) c d k;exact ⟨_,λs v=>.of_eq rfl,λbase _ _=>(qgN (P:=l.prog) (w:=w) (base:=base) Z T F).imp λvs H Q E q=>qik cok vs H Q E q⟩
theorem qjn {l:g8} {q:iJ} {loose:List Str} {XP:(Str->Option iE)->Heap->Prop} {YP:iK->Heap->Prop} {d:DefRec} {K:lu->Frag} (b:l.most=iB 63) (hdf:d.params.defaults=[])
  (D:∀ (w:iK) (h:Heap),YP w h->(K w.params).In h)
  (F:∀ (w:iK) (mg:Str->Option iE) (fa:Addr) (h:Heap),(K w.params).In h->h.Ns mainGlobals mg->mg d.name=iB (.ref fa) ->∃ fd:j6,(∀ (s:iI) (u:iE),lG s fd ⟨[u],[]⟩ [("_law_script",u)])/\∀ base:Heap,(K w.params).In base->base.Ns mainGlobals mg->FnOk l.prog w (K w.params) mg base (CXk l.prog w) 21 fa fd ["_law_script"] (qco (K w.params))) :
  PySem.W.WalkO q loose XP YP l.row.toRowW d [] (λf vs=>iu f vs):=
 L2.qdn (n:=63) (k:=21) (x := "_law_script") (CX:=λw=>CXk l.prog w) (sp:=λw=>qco (K w.params)) b (by decide) hdf ⟨rfl,by decide,by decide⟩ D F (λ_ _ a ns hl _ S=>⟨a,ns,rfl,S,λ_=>rfl⟩) λw H s e s' z=>by obtain ⟨ex,T,C,H',_,_,_,_,_,_,_,_,_,_,q⟩:=z;exact q.elim
end Kx
open PySem PySem.W PyProof.Rows
set_option maxRecDepth 100000 in
set_option maxHeartbeats 0 in
theorem PySem.Challenge.cw_lookwords_k05_whole_one_to_one_holds : PySem.Challenge.rw_lookwords_k05_whole_one_to_one.Holds := by
  refine Kx.hd ?_;k_fill
  refine Kx.qjn (l := PySem.Challenge.rw_lookwords_k05_whole_one_to_one) rfl rfl (λw h Y => PySem.W.kIn_of Y) ?F
  case F =>
    intro w mg fa h X G c;refine' Kx.qgO X G c ?_ ?_ ?_ ?_ ?_ ?_ ?_ ?_ ?_ ?_ ?_ ?_ ?_ ?_ ?_ ?_ ?_ ?_ ?_ ?_ ?_ ?_ ?_ ?_ ?_ ?_ ?_ ?_ ?_ ?_ ?_ ?_ ?_ ?_ ?_ ?_ ?_ ?_ ?_ ?_ ?_ ?_ ?_ ?_ ?_ ?_ ?_ ?_ ?_ ?_ ?_ ?_ ?_ ?_ ?_ ?_ ?_ ?_ ?_ ?_ ?_ ?_ ?_ ?_ ?_ ?_ ?_ ?_ ?_ ?_ ?_ ?_ ?_ ?_ ?_ ?_ ?_ ?_ ?_ ?_;all_goals try first | k_is | exact ⟨_, _, _, _, _, _, _, _, _, _, by unfold Kx.NsX; k_is, by unfold Kx.LkX; k_is, by unfold Kx.CdX; k_is, by unfold Kx.KpX; k_is⟩ | kernel_rfl
