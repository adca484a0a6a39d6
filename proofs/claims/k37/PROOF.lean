import PyProof.Rows.All
import KE.KTryMore
import KE.KDictOf
import KE.KSortTup
import KE.KItemsList
import PySem.Challenge.RW_lookwords_k37_whole_two_lists
open Option renaming some→iJ,none→iL
open PySem renaming wpAny_bind→iK,Value→iM,Shared→iP,wpAny_pure→iQ,Program→iR,World→iS,sizeLine_eq→iT,wpAny_callSpecial?_slot→iU,Around→iV,wpAny_call_entry→iW,wpAny_newObj_type→iX,wpAny_seqItems→iY,wpAny_field→iZ,wpAny_holding→i3,codeAny_builtin→i8,wpAny_Call_Name_kw→i9,IsPair→j7,SetTable→j8,wpAny_askSetting→j9,Keyword→k6,wpAny_attempt→k7,wpAny_truthy_bool→k8,wpAny_setState_of→k9,builtinLookup_eq_fast→lb,wpAny_setField_rec→lc,wpAny_isInstance→lf,wpAny_mono→lg,wpAny_setField→lh,OsState→li,wpAny_passesOwn→ll,FuncData→lm,wpAny_rule→lp,plainId_quiet→lq,wpAny_setEntries_of→lr,NameKind→lu,typeLookup_type→lv,wpAny_updateSeq→lw,codeAny_mono→lx,call_meets→lz,tupleKind_room_in1→lA,Scope→lB,wpAny_pyIter_list→lC,wpAny_typeOf→lD,fits_of_scanBound→lE,isSubtype_type→lF,Draws→lG,IsZip→lH,wpAny_execs_nil→lI,Params→lK,wpAny_fieldsOf→lL,isSubtype_stop→lM,wpAny_newTuple→lN,wpAny_onRaise→lO,concat_meets→lQ,GenState→lR,Result→lS,wpAny_of_eq→lT,wpAny_letGo→lU,DictEntry→lV,BindsTo→lW,Paired→lX,wpAny_call→lY
open Bool renaming false→iN,true→iO
open PySem.W renaming mg_none_of→i7,boot_heap→lj,mg_of→ly,boot_drawn→lP
open PyProof.Rows renaming AllBare→lJ
open PySem.Heap renaming get?_push_of_some→aa,get?_push_size→ah,lt_size→ap,get?_update_self→aY,SameBut→bn,size_push→br,get?_update_other→bH,get?_push_ne→fO,ExtBut→ic
open List renaming mem_cons→ac,mem_cons_of_mem→af,getElem?_set_ne→ai,length_append→aj,length_map→am,length_cons→aq,size_toArray→au,mem_cons_self→aw,mem_singleton→aA,mem_map→aC,getElem?_set_self→aD,getElem?_eq_getElem→aE,getElem?_eq_some_iff→aH,mem_append→aJ,getElem?_map→aK,map_cons→aL,range→aN,all_eq_true→aO,nodup_cons→aU,mem_append_right→aX,mem_range→be,length_nil→bg,pairwise_cons→bh,Nodup→bj,append_nil→bw,replicate→bx,lookup_cons→bI,length_range→bO,getElem?_eq_none→bP,length_take→bT,getElem?_replicate→bU,not_mem_nil→bV,getElem?_append_right→bY,map_map→ce,getD_eq_getElem?_getD→ci,foldl_cons→cj,getElem?_append_left→ck,getElem_mem→cr,mem_append_left→cw,lookup→cx,filterMap_cons→cF,map_nil→cI,any_cons→cJ,of_mem_zip→cM,find?_cons→cN,map_append→cQ,mem_of_getElem?→cU,append_assoc→cV,replicate_zero→cZ,nodup_nil→c8,pairwise_singleton→db,zipWith→dn,mem_filter→dq,length_set→dt,length_replicate→dB,mem_iff_getElem→dN,zip→dO,toArray→dP,pairwise_iff_getElem→dR,forIn_cons→dY,find?_eq_none→d7,length_eq_zero_iff→d9,reverse_cons→eu,nodup_append→eU,ext_getElem?→eX,length_pos_of_mem→eY,length_singleton→eZ,getElem?_toArray→ff,mem_of_mem_erase→fg,mem_iff_getElem?→fh,all_cons→fy,mem_filterMap→fD,forIn_nil→fG,zip_cons_cons→fH,findIdx?_cons→fI,flatMap_cons→fQ,getElem_inj→fY,take_length→f9,any_eq_true→g7,countP_cons→g8,sum_append→h8,nil_append→h9,length→iF
open PySem.Str renaming ofString→ae,length→iu
open Nat renaming le_refl→ax,ne_of_lt→aG,lt_of_lt_of_le→aI,zero_le→bu,le_trans→bE,lt_irrefl→bQ,le_of_lt→cH,ne_of_gt→cS,lt_succ_of_lt→dH,not_lt_zero→dZ,lt_trans→eI,lt_succ_self→fk,le_add_right→fm,le_of_eq→fB,sub_self→fC,lt_of_succ_lt→fM,le_succ→ib
open Or renaming inl→ay,inr→eG
open PySem.Value renaming ref→aM,bool→bb,none→bA,isStrOf_shape→cX,type→df,str→dw,builtin→dA,int→fj,isStrOf→fU
open Bool renaming and_eq_true→aP,false_ne_true→bG,false_eq_true→cq,not_eq_true'→eJ,or_false→fW,or_eq_true→h7,and_true→iq
open PySem.W renaming findIn→aQ,hideAll→bi,emptyDict→bM,fnOf→bR,kitOne→bZ,instObj→cA,kia_one→cP,hideAll_none→cR,isFn→cT,hideAll_get→cY,plainGet→c6,hasDictIn→dE,exmOne→dL,excIn→dW,of_hideAll→d4,callWith_K→d5,plainOver→ei,cellsFrom_some→ej,plainGet_of→fA,lookIn→fE,methodObj→fJ,takerIn→g9,makesIn→hJ,OpenLaw→hZ
open PySem.Builtin.SmallTypes renaming nextOf→aR,ownedTupleIsFree→aS
open Option renaming map_eq_some_iff→aV,some→ba,bind_eq_some_iff→cy,isSome_map→fL
open Ne renaming symm→aZ
open PySem.PassesOwn renaming leaving→bc
open PySem renaming mem_of_lookup→bp,Within→iC,call→iG
open PySem.Heap.SameBut renaming update→bq
open PySem.SetTable renaming below→bt,grown→c7,laid→ip
open PySem.Around renaming under_plainId→bv,under→iD
open PySem.NameKind renaming free→bz
open PySem.Obj renaming mapSeq→bB,putSet→iA
open PySem.F renaming slot_zip_next→bD,called_set→bS,slot_tuple_iterator_next→cg,plain_extend_loop→cm,plainAttrs_list→cz,args_zip_next_1→c9,entry_zip_next→dm,slot_tuple_getattribute→dQ,args_tuple_add_2→dS,slot_list_getattribute→dX,entry_tuple_add→d8,slot_tuple_add→et
open Classical renaming byContradiction→bJ
open Array renaming getElem?_eq_getElem→bK,length_toList→cG,getElem?_eq_none→dj,getElem?_toList→dD,toList_push→fN,mk→ia
open False renaming elim→bL
open PyProof.Rows renaming callWith_type1→bW
open PySem.Builtin.List renaming listExtendWith→bX,listSameRef→cW,listLengthHint→dI,listTooLong→dU
open Sum renaming inr→cu,inl→fq
open PySem.SeqAt renaming ne_of_list_tuple→cB,EqAt→iI
open ForInStep renaming yield→cC
open PySem.Builtin.Frozenset renaming updateFrom→cD
open List.Perm renaming refl→cK
open True renaming intro→dg
open PySem.Calls renaming callWith_builtin→dh,evalArgs_plain→dJ,spliced_cons→fF,spliced_nil→fK
open Int renaming toNat_natCast→dF,emod_lt_of_pos→d6,emod_nonneg→fz,emod_eq_of_lt→fP,dvd_add→fS
open List.Pairwise renaming nil→dG
open PyProof.Rows.F renaming plain_set_update_loop→eh
open List.Sublist renaming refl→fR
open PySem.Paired renaming length→fV
open PySem.Shared renaming TypeIs→fX
open PySem.Txt renaming join→fZ
open PySem.W.KF renaming type_class→ig
open Prod renaming ext→iB
open PySem.Code renaming isFrame→iE
open PySem.Walks renaming list→iH
noncomputable section
open PySem.W (Frag nsIn keepIn codeIn mg_of mg_none_of)
set_option Elab.async false
set_option linter.all false
set_option maxRecDepth 100000
namespace Kx
noncomputable section
open PySem PySem.W PySem.Calls PyProof.Rows
noncomputable def zP:Pos:=⟨0,0,0,0⟩
noncomputable def anV:Option iM:=iJ (.ref 6)
noncomputable def hA (P:lK):List Obj:=(lj P).objs.toList++[⟨.type "tuple",iL,.seq #[] 0,#[]⟩,⟨.none,iL,.fields #[],#[]⟩,
 ⟨.type "code",iL,.fields #[.str "<module>" 182,.str "<module>" 183,.str "/claim/cut.py" 184,.int 1 0,.int 0 0,.int 0 0,.int 0 0,.int 0 0,.ref 11,.bool iN,.int 181 0,.ref 12,.none,.none,.none,.none,.int 185 0,.int 1 0,.str "/claim/cut.py" 186],#[]⟩,
 ⟨.type "frame",iL,.plain,#[iJ (.ref 13),iJ (.ref 3),iJ (.ref 3),iL,iJ (.str "__main__" 164),iL,iJ (.ref 0)]⟩]
noncomputable def enP (p:iR):Env:={ scope:=p.main.scope,locals:=mainNs,globals:=mainNs,cells:=[],code:=.ref 13,frame:=iJ 14 }
noncomputable def cdP (p:iR):Code:=.body (behindTheImports p) (enP p)
noncomputable def trA:List Obj->Nat->BT->BT
 | [],_,t=>t
 | o::l,i,t=>trA l (i+1) (t.ins i o)
noncomputable def SA (w:iS) (os:li):SharedT:=⟨trA (hA w.params) 0 .nil,15,(lj w.params).life,ia [],lP,187,os⟩
noncomputable def kH (P:lK) (s:Str) (t:Nat) (v:iM):lV:=⟨PyData.keyHash P s,.str s t,v⟩
noncomputable def eM:iM:=.str "lookwords.errors" 187
noncomputable def eT (a:List iM):Obj:=⟨.type "tuple",iL,.seq ⟨a⟩ 0,#[]⟩
noncomputable def eF (c:iM) (a:List iM):Obj:=⟨c,iL,.fields ⟨a⟩,#[]⟩
noncomputable def eB:iM:=.type "builtin_function_or_method"
noncomputable def eD (a:List lV) (n:Nat):Obj:=⟨.type "dict",iL,.dict ⟨a⟩ n,#[]⟩
noncomputable def eA (P:lK) (s:Str) (b:iM) (n t l:Nat):List Obj:=[eT [b],eF eB [.builtin "type.__prepare__",.type "type"],
 eD [kH P "__module__" (t+7) eM,kH P "__qualname__" (t+9) (.str s (t+8)),kH P "__firstlineno__" (t+11) (.int l (t+10)),kH P "__static_attributes__" (t+12) (.ref (n+7))] 4,
 eT [],eF .none [],eF (.type "code") [.str s (t+2),.str s (t+3),.str "/claim/cut.py" (t+4),.int l 0,.int 0 0,.int 0 0,.int 0 0,.int 0 0,.ref (n+3),.bool iN,.int 181 0,.ref (n+4),.none,.none,.none,.none,.int ((t+5:Nat):Int) 0,.int l 0,.str "/claim/cut.py" (t+6)],
 ⟨.type "frame",iL,.plain,#[iJ (.ref (n+5)),iJ (.ref 3),iJ (.ref (n+2)),iL,iJ eM,iL,iJ (.ref 0)]⟩,eT []]
noncomputable def eC (s:Str) (b:iM) (n t:Nat) (m sub:List iM):Obj:=⟨.type "type",iL,.cls { name:=s,bases:=[b],mro:=.ref (n+9)::m,ns:=n+8,qualname:=s,subclasses:=sub },#[iJ (.ref n),iL,iJ (.str s t),iJ (.str s (t+8)),iJ (.builtin "ValueError.__new__"),iJ (.bool iO)]⟩
noncomputable def eS (a:Nat):List Obj:=[eF (.type "super") [.ref a,.ref a,.ref a],eF eB [.builtin "object.__init_subclass__",.ref a]]
noncomputable def eK (P:lK) (t l:Nat) (n:Nat):List lV:=[kH P "__module__" (t+7) eM,kH P "__firstlineno__" (t+11) (.int l (t+10)),kH P "__static_attributes__" (t+12) (.ref (n+7))]
noncomputable def eV:List iM:=[.type "ValueError",.type "Exception",.type "BaseException",.type "object"]
noncomputable def eL (P:lK):List Str->Nat->Nat->Nat->List Obj
 | [],_,_,_=>[]
 | s::r,n,t,l=>eA P s (.ref 24) n t l++eD (eK P t l n++[kH P "__doc__" (t+13) .none]) 2::eC s (.ref 24) n t (.ref 24::eV) []::eS (n+9)++eL P r (n+12) (t+16) (l+2)
noncomputable def eE (P:lK):List Str->Nat->Nat->List lV
 | [],_,_=>[]
 | s::r,n,t=>kH P s (t+15) (.ref (n+9))::eE P r (n+12) (t+16)
noncomputable def eR:Nat->Nat->List iM
 | 0,_=>[]
 | k+1,n=>.ref n::eR k (n+12)
noncomputable def eQ:Nat->Nat->Nat->List iM
 | 0,_,_=>[]
 | k+1,n,l=>.int l 0::.int 0 0::.ref n::eQ k (n+12) (l+2)
noncomputable def eO (P:lK) (L:List Str):Obj:=match (boot_o_3 P).data with
 | .dict a _=>eD (kH P "__name__" 165 eM::a.toList.drop 1++kH P "WordError" 206 (.ref 24)::eE P L 28 207) (L.length+10)
 | _=>eT []
noncomputable def hC (P:lK) (L:List Str):List Obj:=(hA P).take 3++eO P L::((hA P).drop 4).take 8++eF .none (.int 2 0::.int 0 0::.ref 20::eQ L.length 33 4)::(hA P).drop 13 ++
 eA P "WordError" (.type "ValueError") 15 189 2++eD (eK P 189 2 15++[kH P "__weakref__" 203 (.ref 25),kH P "__doc__" 204 .none]) 3::eC "WordError" (.type "ValueError") 15 189 eV (eR L.length 37) ::
 eF (.type "getset_descriptor") [.str "__weakref__" 202,.ref 24,.builtin "ExceptionGroup.__weakref__",.none]::eS 24++eL P L 28 207 4
noncomputable def SC (L:List Str) (w:iS) (os:li):SharedT:=⟨trA (hC w.params L) 0 .nil,12 * L.length+28,(lj w.params).life,ia [],lP,16 * L.length+207,os⟩
noncomputable def zC (L:List Str):Pos:=⟨2 * L.length+2,0,2 * L.length+3,8⟩
noncomputable def XA (L:List Str) (p:iR) (w:iS) (M:Nat) (os:li):Option (Flow×Code×iP):=
 (segRunT treeTable p w 11 anV 1 M (SC L w os) (piecesOf ((behindTheImports p).drop (L.length+2)) (enP p) (cdP p) (zC L) [topFrame zP])).bind λr=>
  (topRun treeTable p w 11 anV 5 r.2.1.abs (restOf [] (enP p) (cdP p) r.2.2.2 [topFrame zP])).map λs=>(r.1,r.2.2.1,s)
abbrev qcx (p:iR) (w:iS) (x:Flow×Code×iP):=
 (x.1,x.2.1,(staticsOk (importedModules p.main.body) (lj w.params) x.2.2.heap&&namesBound p x.2.2.heap&&gensDone x.2.2&&laidKept (lj w.params) x.2.2.heap))
abbrev Kp (p q:iR) (loose:List Str) (Xt:iP->Bool) (x:Flow×Code×iP):=openSeen q loose (importedModules p.main.body) Xt iO x.2.2
theorem left_T {L:List Str} {p q:iR} {loose:List Str} {Xt:iP->Bool} {α:Type} {Yf:iP->α} {Ya:iS->α} {N M:Nat}
  (e:opening p=plainProg p.main.scope.names) (hN:Nat.ble 600 N=iO) (f:∀ s,fenceModules? p s=iJ s)
  (size:∀ w:iS,((lj w.params).isNs mainGlobals&&(ia []:Array lR).size == 0,(lj w.params).objs.size,(lj w.params).nsMap mainGlobals "__annotations__")=(iO,11,anV))
  (pre:∀ (w:iS) (os:li),topGo treeTable p w 11 anV 12 ⟨lj w.params,ia [],lP,boot_toks,os⟩ (topStub p)=iJ ((SA w os).abs,⟨denote treeTable (cdP p),cdP p,zP,[topFrame zP]⟩))
  (blk:∀ (w:iS) (os:li),segRun treeTable p w 11 anV 1 1 (SA w os).abs (blockOf (behindTheImports p) (enP p) (cdP p) zP [topFrame zP])=iJ (.next,(SA w os).abs,cdP p,zP))
  (le:Nat.ble (12+(1+(3500+(M+5)))) N=iO)
  (m6:∀ (w:iS) (os:li),segRunT treeTable p w 11 anV 1 3500 (SA w os) (piecesOf ((behindTheImports p).take (L.length+2)) (enP p) (cdP p) zP [topFrame zP])=iJ (.next,SC L w os,cdP p,zC L))
  (m0:∀ (w:iS) (os:li),(XA L p w M os).map (qcx p w)=iJ (.next,cdP p,iO))
  (m1:∀ (w:iS) (os:li),(XA L p w M os).map (λx=>(Kp p q loose Xt x).1)=iJ (openGood q loose).1)
  (m3:∀ (w:iS) (os:li),(XA L p w M os).map (λx=>(Kp p q loose Xt x).2.1)=iJ (openGood q loose).2.1)
  (m4:∀ (w:iS) (os:li),(XA L p w M os).map (λx=>(Kp p q loose Xt x).2.2.1)=iJ (openGood q loose).2.2.1)
  (m5:∀ (w:iS) (os:li),(XA L p w M os).map (λx=>(Kp p q loose Xt x).2.2.2)=iJ (openGood q loose).2.2.2)
  (m2:∀ (w:iS) (os:li),(XA L p w M os).map (λx=>Yf x.2.2)=iJ (Ya w)):LeftO p q loose Xt Yf Ya N:=λw=>by
 obtain ⟨⟨h,gs,d,k,os⟩,a,a'⟩:=aV.mp (boot_open e hN f w)
 obtain ⟨rfl,rfl,rfl,rfl⟩:h=lj w.params/\gs=ia []/\d=lP/\k=boot_toks:=by simpa using a'
 obtain ⟨x,hx,hl⟩:=aV.mp (m0 w os)
 have l2:openSeen q loose (importedModules p.main.body) Xt iO x.2.2=openGood q loose:=by
  have a1:=m1 w os
  have a3:=m3 w os
  have a4:=m4 w os
  have a5:=m5 w os
  rw [hx] at a1 a3 a4 a5
  exact iB (ba.inj a1) (iB (ba.inj a3) (iB (ba.inj a4) (ba.inj a5)))
 obtain ⟨y,hy,hY⟩:=aV.mp (m2 w os)
 obtain rfl:y=x:=ba.inj (hy.symm.trans hx)
 obtain ⟨r,hr,hz⟩:=cy.mp hx
 obtain ⟨s,hs,rfl⟩:=aV.mp hz
 obtain ⟨fl,st,co,po⟩:=r
 unfold qcx at hl
 simp only [Prod.mk.injEq] at hl
 obtain ⟨rfl,rfl,l1⟩:=hl
 have t1:=piece_app (rest:=[]) (segRun_of hr) hs
 rw [bw] at t1
 have t1:=piece_app (segRun_of (m6 w os)) t1
 rw [List.take_append_drop] at t1
 have t2:=piece_block (blk w os) t1
 have t3:=topRun_mono (N - (12+(1+(3500+(M+5))))) _ _ _ _ (go_top (pre w os) t2)
 rw [show 12+(1+(3500+(M+5)))+(N - (12+(1+(3500+(M+5)))))=N by have:=Nat.le_of_ble_eq_true le; omega] at t3
 obtain ⟨z1,z2,z3⟩:_/\_/\_:=by simpa only [Prod.mk.injEq] using size w
 have t:topFrom treeTable p w N ⟨lj w.params,ia [],lP,boot_toks,os⟩=iJ s:=by
  unfold topFrom
  dsimp only
  rw [z1,z2,z3,t3]
  show (match staticsOk (importedModules p.main.body) (lj w.params) s.heap&&namesBound p s.heap&&gensDone s&&laidKept (lj w.params) s.heap with | true=>_ | false=>_)=_
  rw [l1]
 unfold openEnds
 rw [a]
 show (topFrom treeTable p w N _).map _=_
 rw [t]
 exact congrArg iJ (iB l2 hY)
end
end Kx
noncomputable section
open PySem PySem.W PyProof.Rows
noncomputable def Kx.vq:iR:=view PySem.Challenge.pw_lookwords_k37_whole_two_lists [1,2,3,4,5,6,7,8,9,10,11,12,13,14,16,17,18,19,20,21,22,23,24,25,26,27,28,29,30,31,32,34,35,36,37,38,40,41,42,43,44,45,46,47,48,49,50,51,53,55,56,57,58,59,60,61,62,63,64]
noncomputable def Kx.eN:List Str:=["NoWords", "NoLook", "NoNumbers", "NoRoom", "NoWord", "NoWorths", "Never", "Full", "Known", "NoPlace", "NoLetters", "NoText", "Nothing"]
noncomputable def Kx.xt (s:iP):Bool:=xlAt Kx.vq [] s&&recOk (RowW.records (OpenRow.toRowW (OpenLaw.row PySem.Challenge.rw_lookwords_k37_whole_two_lists))) s
theorem Kx.m6:∀ (w:iS) (os:li),segRunT treeTable PySem.Challenge.pw_lookwords_k37_whole_two_lists w 11 Kx.anV 1 3500 (Kx.SA w os) (piecesOf ((behindTheImports PySem.Challenge.pw_lookwords_k37_whole_two_lists).take (Kx.eN.length+2)) (Kx.enP PySem.Challenge.pw_lookwords_k37_whole_two_lists) (Kx.cdP PySem.Challenge.pw_lookwords_k37_whole_two_lists) Kx.zP [topFrame Kx.zP])=iJ (.next,Kx.SC Kx.eN w os,Kx.cdP PySem.Challenge.pw_lookwords_k37_whole_two_lists,Kx.zC Kx.eN):=by intro w os; kernel_rfl
theorem Kx.m0:∀ (w:iS) (os:li),(Kx.XA Kx.eN PySem.Challenge.pw_lookwords_k37_whole_two_lists w 15000 os).map (Kx.qcx PySem.Challenge.pw_lookwords_k37_whole_two_lists w)=iJ (.next,Kx.cdP PySem.Challenge.pw_lookwords_k37_whole_two_lists,iO):=by intro w os; kernel_rfl
theorem Kx.m1:∀ (w:iS) (os:li),(Kx.XA Kx.eN PySem.Challenge.pw_lookwords_k37_whole_two_lists w 15000 os).map (λx=>(Kx.Kp PySem.Challenge.pw_lookwords_k37_whole_two_lists Kx.vq [] Kx.xt x).1)=iJ (openGood Kx.vq []).1:=by intro w os; kernel_rfl
theorem Kx.m3:∀ (w:iS) (os:li),(Kx.XA Kx.eN PySem.Challenge.pw_lookwords_k37_whole_two_lists w 15000 os).map (λx=>(Kx.Kp PySem.Challenge.pw_lookwords_k37_whole_two_lists Kx.vq [] Kx.xt x).2.1)=iJ (openGood Kx.vq []).2.1:=by intro w os; kernel_rfl
theorem Kx.m4:∀ (w:iS) (os:li),(Kx.XA Kx.eN PySem.Challenge.pw_lookwords_k37_whole_two_lists w 15000 os).map (λx=>(Kx.Kp PySem.Challenge.pw_lookwords_k37_whole_two_lists Kx.vq [] Kx.xt x).2.2.1)=iJ (openGood Kx.vq []).2.2.1:=by intro w os; kernel_rfl
theorem Kx.m5:∀ (w:iS) (os:li),(Kx.XA Kx.eN PySem.Challenge.pw_lookwords_k37_whole_two_lists w 15000 os).map (λx=>(Kx.Kp PySem.Challenge.pw_lookwords_k37_whole_two_lists Kx.vq [] Kx.xt x).2.2.2)=iJ (openGood Kx.vq []).2.2.2:=by intro w os; kernel_rfl
local macro_rules | `(tactic| o_head $H) => `(tactic| (refine holds_open (q := Kx.vq) (loose := []) (Xt := Kx.xt) (XP := XL Kx.vq []) (Yf := Hook.obs $H) (Ya := Hook.val $H) (YP := Hook.says $H) (N := 20000) ?hl (Hook.of $H) (Hook.keeps $H) (fun s e => xl_of s (Bool.and_eq_true_iff.mp e).1) XL.keeps (by rfl) (by rfl) (by rfl) (fun s e => recFacts_of (Bool.and_eq_true_iff.mp e).2) (by rfl) (by first | assumption | decide +kernel) (by decide +kernel) ⟨rfl, rfl, rfl, rfl, rfl, by decide +kernel⟩ ?hw ?hc; (case hl => refine Kx.left_T (p := PySem.Challenge.pw_lookwords_k37_whole_two_lists) (M := 15000) ?e rfl ?f ?s ?p ?b rfl Kx.m6 Kx.m0 Kx.m1 Kx.m3 Kx.m4 Kx.m5 ?m; (case e => kernel_rfl); (case f => intro s; kernel_rfl); (case s => intro w; kernel_rfl); (case p => intro w os; kernel_rfl); (case b => intro w os; kernel_rfl); (case m => intro w os; kernel_rfl))))
set_option maxHeartbeats 0 in
open_top Kx.hd for PySem.Challenge.rw_lookwords_k37_whole_two_lists
end
namespace L2
open PySem PySem.Spec PyProof.Rows
abbrev Key:=Sum Int Str
noncomputable def zU:Key->iM->Bool
 | .inl k,v=>Value.isInt k v
 | .inr x,v=>fU x v
noncomputable def qiu (w:iS):Key->Int
 | .inl k=>hashInt k
 | .inr x=>hashStr w x
theorem ju:∀ {k:Key} {v:iM},zU k v=iO->(∃ i t,k=fq i/\v=fj i t)\/(∃ x t,k=cu x/\v=dw x t)
 | .inl i,v,h=>by obtain ⟨t,e⟩:=Value.isInt_shape (k:=i) (v:=v) h;exact .inl ⟨i,t,rfl,e⟩
 | .inr x,v,h=>by obtain ⟨t,e⟩:=cX (x:=x) (v:=v) h;exact .inr ⟨x,t,rfl,e⟩
theorem Kq (i:Int) (t:Tok):zU (.inl i) (.int i t)=true:=by simp [zU,Value.isInt]
theorem Kr (x:Str) (t:Tok):zU (.inr x) (.str x t)=true:=by simp [zU,fU]
theorem qet (a b:Int):decide ((fq a:Key)=fq b)=(a == b):=by
 by_cases e:a=b;·subst e; simp
 ·have h:¬(fq a:Key)=fq b:=λq=>e (fq.inj q);rw [decide_eq_false h];exact (beq_eq_false_iff_ne.mpr e).symm
theorem qeu (a b:Str):decide ((cu a:Key)=cu b)=decide (a=b):=by
 by_cases e:a=b;·subst e; simp
 ·have h:¬(cu a:Key)=cu b:=λq=>e (cu.inj q);rw [decide_eq_false h,decide_eq_false e]
theorem qev (a:Int) (b:Str):decide ((fq a:Key)=cu b)=false:=decide_eq_false (λq=>nomatch q)
theorem qew (a:Str) (b:Int):decide ((cu a:Key)=fq b)=false:=decide_eq_false (λq=>nomatch q)
noncomputable def qU (prog:iR) (w:iS):PySem.KeyKind prog w Key where
 is:=zU
 hash:=qiu w
 inj:=λv a b g d=>by
  rcases ju g with ⟨i,t,rfl,rfl⟩ | ⟨x,t,rfl,rfl⟩
  ·rcases ju d with ⟨j,u,rfl,e⟩ | ⟨y,u,rfl,e⟩
   ·injection e with e1 _; rw [e1]
   ·exact nomatch e
  ·rcases ju d with ⟨j,u,rfl,e⟩ | ⟨y,u,rfl,e⟩
   ·exact nomatch e
   ·injection e with e1 _; rw [e1]
 byValue:=λk v h=>by rcases ju h with ⟨i,t,rfl,rfl⟩ | ⟨x,t,rfl,rfl⟩ <;> rfl
 pyHash:=λc h=>by
  rcases ju c with ⟨i,t,rfl,rfl⟩ | ⟨x,t,rfl,rfl⟩
  ·exact wpAny_pyHash_int h
  ·exact wpAny_pyHash_str h
 eqBool:=λf c h=>by
  rcases ju f with ⟨i,t,rfl,rfl⟩ | ⟨x,t,rfl,rfl⟩
  ·rcases ju c with ⟨j,u,rfl,rfl⟩ | ⟨y,u,rfl,rfl⟩
   ·rw [qet] at h; exact wpAny_eqBool_int h
   ·rw [qev] at h; exact SeqAt.EqAt.int_str i t y u _ _ _ _ h
  ·rcases ju c with ⟨j,u,rfl,rfl⟩ | ⟨y,u,rfl,rfl⟩
   ·rw [qew] at h; exact SeqAt.EqAt.str_int x t j u _ _ _ _ h
   ·rw [qeu] at h; exact wpAny_eqBool_str h
 «strs»:=λk x t v h=>by
  rcases ju h with ⟨i,u,rfl,e⟩ | ⟨y,u,rfl,e⟩
  ·exact nomatch e
  ·injection e with e1 _;subst e1;cases v <;> rfl
theorem VQ (prog:iR) (w:iS) (i:Int) (t:Tok):(qU prog w).is (.inl i) (.int i t)=true:=Kq i t
theorem VR (prog:iR) (w:iS) (x:Str) (t:Tok):(qU prog w).is (.inr x) (.str x t)=true:=Kr x t
inductive V where
 | non | bl (b:Bool) | int (i:Int) | str (x:Str) | byt (b:Array UInt8) | flt (b:UInt64) | ref (a:Addr) | ty (n:String)
 deriving DecidableEq
def RelV:V->iM->Prop
 | .non,u=>u=bA
 | .bl b,u=>u=bb b
 | .int i,u=>∃ t,u=fj i t
 | .str x,u=>∃ t,u=dw x t
 | .byt b,u=>∃ t,u=Value.bytes b t
 | .flt b,u=>∃ t,u=Value.float b t
 | .ref a,u=>u=aM a
 | .ty n,u=>u=df n
abbrev Vals:List V->List iM->Prop:=lX RelV
variable {xs:List V} {us:List iM}
theorem Vals.length (r:Vals xs us):xs.length=us.length:=fV r
theorem Vals.get:∀ {xs:List V} {us:List iM} {i:Nat} {x:V},Vals xs us->xs[i]?=iJ x->∃ u,us[i]?=iJ u/\RelV x u
 | _,_,_,_,.nil,e=>by simp at e
 | _,_,0,_,.cons r _,e=>by simp at e; subst e; exact ⟨_,rfl,r⟩
 | _,_,i+1,x,.cons _ t,e=>by obtain ⟨u,h1,h2⟩:=Vals.get (i:=i) (x:=x) t (by simpa using e);exact ⟨u,by simpa using h1,h2⟩
variable {u:iM}
theorem Vals.set {x:V} (r:RelV x u):∀ {xs:List V} {us:List iM} (i:Nat),Vals xs us->Vals (xs.set i x) (us.set i u)
 | _,_,_,.nil=>.nil
 | _,_,0,.cons _ t=>.cons r t
 | _,_,i+1,.cons q t=>.cons q (Vals.set r i t)
theorem Vals.append:∀ {xs ys:List V} {us ws:List iM},Vals xs us->Vals ys ws->Vals (xs++ys) (us++ws)
 | _,_,_,_,.nil,s=>s
 | _,_,_,_,.cons r t,s=>.cons r (Vals.append t s)
theorem Vals.take:∀ {xs:List V} {us:List iM} (n:Nat),Vals xs us->Vals (xs.take n) (us.take n)
 | _,_,0,_=>.nil
 | _,_,_+1,.nil=>.nil
 | _,_,n+1,.cons r t=>.cons r (Vals.take n t)
theorem Vals.drop:∀ {xs:List V} {us:List iM} (n:Nat),Vals xs us->Vals (xs.drop n) (us.drop n)
 | _,_,0,r=>r
 | _,_,_+1,.nil=>.nil
 | _,_,n+1,.cons _ t=>Vals.drop n t
def RelO:Option V->Option iM->Prop
 | some v,iJ u=>RelV v u
 | none,iL=>True
 | _,_=>False
def KV {κ:Type}:List (κ×V)->List (κ×iM)->Prop:=lX λ(p:κ×V) (q:κ×iM)=>p.1=q.1/\RelV p.2 q.2
noncomputable def kV:Key->V
 | .inl i=>.int i
 | .inr x=>.str x
inductive HO where
 /-- a list -/
 | lst (xs:List V)
 /-- a tuple (never changes) -/
 | tup (xs:List V)
 /-- a dict whose keys are ints and texts; one whose keys are tuples of ints and texts (the empty one is both) -/
 | dK (kvs:List (Key×V)) | dT (kvs:List (List Key×V))
 /-- a set of ints: its members,its size -/
 | set (S:Int->Bool) (n:Nat)
 /-- an instance of the class at C,its dict at dx,its attributes -/
 | ins (C dx:Addr) (fs:List (Str×V))
 /-- the dict of the instance at x -/
 | own (x:Addr)
 /-- the dict of an exception -/
 | xd (fs:List (Str×V))
 /-- a bound method,f of x -/
 | met (f x:Addr)
 /-- a range object lo,lo+1,.. below hi -/
 | rng (lo hi:Int)
 /-- a thing that is known to the object (the script; a dict while a loop walks it): read,never written while it is so -/
 | frz (o:Obj) (u:HO)
 /-- a code object's table -/
 | tbl (ps:Array iM)
 /-- any other thing,by what is iO of its one object (a def of one's own: SetO a S n:=HO.ext λh=>..) -/
 | ext (φ:Heap->Prop)
abbrev Hp:=Addr->Option HO
noncomputable def upd (H:Hp) (a:Addr) (o:HO):Hp:=λb=>if b=a then iJ o else H b
variable {H:Hp} {a:Addr} {o:HO}
theorem qo:upd H a o a=iJ o:=by unfold upd; rw [if_pos rfl]
variable {b:Addr}
theorem qw (h:b≠a):upd H a o b=H b:=by unfold upd; rw [if_neg h]
theorem qgO {u:HO} (h:H a=iJ o) (h':H b=iJ u) (d:o≠u):a≠b:=by intro e; subst e; rw [h] at h'; exact d (ba.inj h')
theorem qE (h:H a=iJ o) (h':H b=iL):a≠b:=by intro e; subst e; rw [h] at h'; cases h'
section
variable (P:iR) (w:iS)
def ObjOk (H:Hp) (h:Heap) (a:Addr):HO->Prop
 | .lst xs=>xs.length<=sizeLine/\∃ (its:List iM) (n:Nat),Vals xs its/\h.get? a=iJ { cls:=.type "list",data:=.seq its.toArray n }
 | .tup xs=>(xs.length<=sizeLine/\∃ o,h.get? a=iJ o/\o.dict=iL)/\∃ its:List iM,Vals xs its/\IsTup h a its.toArray
 | .dK kvs=>kvs.length<=sizeLine/\(a == sysModules)=iN/\∃ vs,KV kvs vs/\h.DictOf (qU P w) a vs
 | .dT kvs=>kvs.length<=sizeLine/\(a == sysModules)=iN/\∃ xs:List (List Key×Addr×iM),lX (λ(p:List Key×V) (q:List Key×Addr×iM)=>p.1=q.1/\H q.2.1=iJ (.tup (p.1.map kV))/\RelV p.2 q.2.2) kvs xs /\
   ∃ o es ep,h.get? a=iJ o/\o.ExactDict/\o.data=.dict es ep/\es.toList=xs.map (entryOfKey (tupleKind (qU P w)))/\(xs.map (·.1)).Nodup
 | .set S n=>h.SetOf (intKind P w) a S n
 | .ins C dx fs=>H dx=iJ (.own a)/\fs.length<=1000/\dx≠a/\h.get? a=iJ (cA C dx) /\
   ∃ mA,h.Ns1 dx mA/\(∀ f,RelO (fs.lookup f) (mA f))/\iC mA (fs.map (·.1))
 | .own _=>∃ o,h.get? a=iJ o
 | .xd fs=>∃ mA,h.Ns1 a mA/\∀ f,RelO (fs.lookup f) (mA f)
 | .rng lo hi=>∃ t u v,h.get? a=iJ { cls:=.type "range",data:=.fields #[.int lo t,.int hi u,.int 1 v] }
 | .frz o u=>h.get? a=iJ o/\ObjOk H h a u
 | .tbl ps=>h.get? a=iJ { cls:=.none,data:=.fields ps }
 | .met f x=>h.get? a=iJ (fJ (.ref f) (.ref x))
 | .ext φ=>φ h/\(∃ o,h.get? a=iJ o)/\∀ h1 h2:Heap,φ h1->(∀ o,h1.get? a=iJ o->h2.get? a=iJ o)->φ h2
def HOk (H:Hp) (h:Heap):Prop:=∀ a o,H a=iJ o->ObjOk P w H h a o
end
variable {P:iR} {w:iS} {H':Hp} {h h':Heap} {α:Type}
section
theorem ObjOk.lt (x:ObjOk P w H h a o):a < h.objs.size:=by
 cases o with
 | lst xs=>obtain ⟨_,_,_,_,e⟩:=x; exact ap e
 | tup xs=>obtain ⟨_,_,_,p⟩:=x; exact p.lt
 | dK kvs=>obtain ⟨_,_,_,_,o,_,_,e,_⟩:=x; exact ap e
 | dT kvs=>obtain ⟨_,_,_,_,o,_,_,e,_⟩:=x; exact ap e
 | set S n=>obtain ⟨o,_,_,_,e,_⟩:=x; exact ap e
 | ins C dx fs=>obtain ⟨_,_,_,e,_⟩:=x; exact ap e
 | own y=>obtain ⟨_,e⟩:=x; exact ap e
 | xd fs=>obtain ⟨_,⟨_,_,_,e,_⟩,_⟩:=x; exact ap e
 | rng lo hi=>obtain ⟨_,_,_,e⟩:=x; exact ap e
 | frz b u=>obtain ⟨e,_⟩:=x; exact ap e
 | tbl ps=>exact ap (show h.get? a=iJ _ from x)
 | met f y=>exact ap (show h.get? a=iJ _ from x)
 | ext φ=>obtain ⟨_,⟨_,e⟩,_⟩:=x; exact ap e
theorem Paired.mapP {β:Type} {F G:α->β->Prop}:∀ {c:List α} {l:List β},lX F c l->(∀ a b,F a b->G a b)->lX G c l
 | _,_,.nil,_=>.nil
 | _,_,.cons r t,f=>.cons (f _ _ r) (Paired.mapP t f)
theorem ObjOk.stay (x:ObjOk P w H h a o) (k:∀ b u,(b=a\/H b=iJ (.own a))->h.get? b=iJ u->h'.get? b=iJ u)
  (m:∀ b,H b=iJ (.own a)->H' b=iJ (.own a)) (l:∀ b xs,H b=iJ (.tup xs)->H' b=iJ (.tup xs)):ObjOk P w H' h' a o:=by
 induction o with
 | lst xs=>obtain ⟨z,its,n,r,e⟩:=x; exact ⟨z,its,n,r,k _ _ (.inl rfl) e⟩
 | tup xs=>obtain ⟨⟨z,o2,i,d2⟩,its,r,g,e,c⟩:=x; exact ⟨⟨z,o2,k _ _ (.inl rfl) i,d2⟩,its,r,g,k _ _ (.inl rfl) e,c⟩
 | dK kvs=>obtain ⟨z,y,vs,r,g,es,ep,e,c⟩:=x; exact ⟨z,y,vs,r,g,es,ep,k _ _ (.inl rfl) e,c⟩
 | dT kvs=>obtain ⟨z,y,xs,r,g,es,ep,e,c⟩:=x;exact ⟨z,y,xs,Paired.mapP r λp q z=>⟨z.1,l _ _ z.2.1,z.2.2⟩,g,es,ep,k _ _ (.inl rfl) e,c⟩
 | set S n=>obtain ⟨g,es,ep,t,e,c⟩:=x; exact ⟨g,es,ep,t,k _ _ (.inl rfl) e,c⟩
 | ins C dx fs=>obtain ⟨d,z,ne,e,mA,⟨od,es,ep,i,c⟩,r⟩:=x;exact ⟨m _ d,z,ne,k _ _ (.inl rfl) e,mA,⟨od,es,ep,k _ _ (.inr d) i,c⟩,r⟩
 | own y=>obtain ⟨g,e⟩:=x; exact ⟨g,k _ _ (.inl rfl) e⟩
 | xd fs=>obtain ⟨mA,⟨od,es,ep,e,c⟩,r⟩:=x; exact ⟨mA,⟨od,es,ep,k _ _ (.inl rfl) e,c⟩,r⟩
 | rng lo hi=>obtain ⟨t,u,v,e⟩:=x; exact ⟨t,u,v,k _ _ (.inl rfl) e⟩
 | frz g u j=>obtain ⟨e,q⟩:=x; exact ⟨k _ _ (.inl rfl) e,j q⟩
 | tbl ps=>have e:h.get? a=iJ { cls:=.none,data:=.fields ps }:=x;show h'.get? a=iJ { cls:=.none,data:=.fields ps };exact k a _ (.inl rfl) e
 | met f y=>have e:h.get? a=iJ (fJ (.ref f) (.ref y)):=x;show h'.get? a=iJ (fJ (.ref f) (.ref y));exact k a _ (.inl rfl) e
 | ext φ=>obtain ⟨p,⟨o,e⟩,st⟩:=x; exact ⟨st _ _ p λo q=>k _ _ (.inl rfl) q,⟨o,k _ _ (.inl rfl) e⟩,st⟩
theorem HOk.lt (x:HOk P w H h) (e:H a=iJ o):a < h.objs.size:=(x a o e).lt
theorem HOk.fresh (x:HOk P w H h) (e:h.objs.size<=a):H a=none:=by
 cases q:H a with
 | none=>rfl
 | some u=>exact absurd (aI (x.lt q) e) (bQ _)
theorem HOk.kept (x:HOk P w H h) (k:∀ b u,h.get? b=iJ u->h'.get? b=iJ u):HOk P w H h':=λa o e=>
 (x a o e).stay (λb u _ q=>k b u q) (λ_ q=>q) λ_ _ q=>q
theorem HOk.laid (x:HOk P w H h) (k:∀ b u,h.get? b=iJ u->h'.get? b=iJ u) (hp:h.objs.size<=a) (new:ObjOk P w (upd H a o) h' a o):HOk P w (upd H a o) h':=λb u e=>by
 have n:=x.fresh hp;by_cases d:b=a;·subst d; rw [qo] at e; cases e; exact new
 ·rw [qw d] at e;exact (x b u e).stay (λc v _ q=>k c v q) (λc q=>by rw [qw (qE q n)]; exact q) λc xs q=>by rw [qw (qE q n)]; exact q
end
def Rd (H:Hp) (a:Addr) (u:HO):Prop:=H a=iJ u\/∃ o,H a=iJ (.frz o u)
theorem Rd.ok {u:HO} (r:Rd H a u) (x:HOk P w H h):ObjOk P w H h a u:=by
 rcases r with r | ⟨o,r⟩
 ·exact x a u r
 ·obtain ⟨_,q⟩:=x a _ r;exact q
def Mut:Option HO->Prop
 | some (.lst _)=>True
 | some (.dK _)=>True
 | some (.dT _)=>True
 | some (.set _ _)=>True
 | some (.ins _ _ _)=>True
 | some (.ext _)=>True
 | _=>False
section
variable {x e:Addr} {o':HO}
theorem HOk.write (ok:HOk P w H h) (m:Mut (H x)) (i:e=x\/H e=iJ (.own x)) (k:∀ b u,b≠e->h.get? b=iJ u->h'.get? b=iJ u) (o:∃ u,h'.get? e=iJ u)
  (new:ObjOk P w (upd H x o') h' x o'):HOk P w (upd H x o') h':=λb u q=>by
 have n:∀ c y,H c=iJ (.own y)->c≠x:=λc y r z=>by subst z; rw [r] at m; exact m
 have p:∀ c xs,H c=iJ (.tup xs)->c≠x:=λc xs r z=>by subst z; rw [r] at m; exact m
 by_cases f:b=x;·subst f; rw [qo] at q; cases q; exact new
 ·rw [qw f] at q;by_cases a:b=e
  ·have g:H b=iJ (.own x):=by
    rcases i with z | z;·exact absurd (a.trans z) f
    ·rw [a]; exact z
   rw [q] at g; cases g;obtain ⟨v,j⟩:=o;exact ⟨v,by rw [a]; exact j⟩
  ·refine (ok b u q).stay (λc v d r=>k c v ?_ r) (λc r=>by rw [qw (n c b r)]; exact r) λc xs r=>by rw [qw (p c xs r)]; exact r
   rcases d with rfl | d;·exact a
   ·rintro rfl;rcases i with z | z;·exact n c b d z
    ·rw [d] at z; cases z; exact f rfl
end
structure Un (fs ex:List Addr) (H H':Hp) (h h':Heap):Prop where
 keep:∀ b o,h.get? b=iJ o->H b=iL->b∉fs->b∉ex->h'.get? b=iJ o
 slot:∀ b o,h.get? b=iJ o->H b=iL->b∈fs->b∉ex->∃ sl,h'.get? b=iJ { o with slots:=sl }
 free:∀ b o,h.get? b=iJ o->H b=iL->b∉ex->H' b=iL
 there:∀ b o,h.get? b=iJ o->b∉ex->∃ o',h'.get? b=iJ o'
 tups:∀ b xs,H b=iJ (.tup xs)->H' b=iJ (.tup xs)
 frzs:∀ b o u,H b=iJ (.frz o u)->H' b=iJ (.frz o u)
 tbls:∀ b ps,H b=iJ (.tbl ps)->∃ more,H' b=iJ (.tbl (ps++more))
section
variable {fs fs' ex ex':List Addr} {H1 H2:Hp} {h1 h2:Heap} {x e:Addr}
theorem Un.any (u:Un fs ex H H1 h h1) {o:Obj} (q:h.get? b=iJ o) (n:H b=iL) (hx:b∉ex):∃ sl,h1.get? b=iJ { o with slots:=sl }:=by
 by_cases d:b∈fs;·exact u.slot b o q n d hx
 ·exact ⟨o.slots,u.keep b o q n d hx⟩
theorem Un.kept (k:∀ b u,h.get? b=iJ u->h'.get? b=iJ u):Un fs ex H H h h':=
 ⟨λb o q _ _ _=>k b o q,λb o q _ _ _=>⟨o.slots,k b o q⟩,λ_ _ _ n _=>n,λb o q _=>⟨o,k b o q⟩,λ_ _ q=>q,λ_ _ _ q=>q,λ_ ps q=>⟨#[],by rw [q]; simp⟩⟩
theorem Un.refl:Un fs ex H H h h:=Un.kept λ_ _ q=>q
theorem Un.laid (k:∀ b u,h.get? b=iJ u->h'.get? b=iJ u) (hp:h.objs.size<=a) (c:H a=iL):Un fs ex H (upd H a o) h h' where
 keep:=λb u q _ _ _=>k b u q
 slot:=λb u q _ _ _=>⟨u.slots,k b u q⟩
 free:=λb u q n _=>by rw [qw (aG (aI (ap q) hp))]; exact n
 there:=λb u q _=>⟨u,k b u q⟩
 tups:=λb xs q=>by rw [qw (qE q c)]; exact q
 frzs:=λb u xs q=>by rw [qw (qE q c)]; exact q
 tbls:=λb ps q=>⟨#[],by rw [qw (qE q c),q]; simp⟩
theorem Un.write (m:Mut (H x)) (i:e=x\/H e=iJ (.own x)) (k:∀ b u,b≠e->h.get? b=iJ u->h'.get? b=iJ u) (d:∃ u,h'.get? e=iJ u):Un fs ex H (upd H x o) h h':=by
 have hx:∀ b,H b=iL->b≠x:=λb n z=>by subst z; rw [n] at m; exact m
 have f:∀ b,H b=iL->b≠e:=λb n z=>by
  subst z;rcases i with r | r;·exact hx b n r
  ·rw [n] at r; cases r
 have c:∀ b u,H b=iJ u->¬Mut (iJ u)->b≠x:=λb u q nm z=>by subst z; rw [q] at m; exact nm m
 refine ⟨λb u q n _ _=>k b u (f b n) q,λb u q n _ _=>⟨u.slots,k b u (f b n) q⟩,λb u q n _=>by rw [qw (hx b n)]; exact n,λb u q _=>?_,λb xs q=>by rw [qw (c b _ q λz=>z)]; exact q,λb u xs q=>by rw [qw (c b _ q λz=>z)]; exact q,λb ps q=>⟨#[],by rw [qw (c b _ q λz=>z),q]; simp⟩⟩;by_cases a:b=e;·subst a; exact d
 ·exact ⟨u,k b u a q⟩
end
noncomputable def trk (h:Heap) (H:Hp):List Addr:=(aN h.objs.size).filter λa=>(H a).isSome
noncomputable def qaq (h:Heap) (H:Hp):Heap:=bi h (trk h H)
theorem XB (h:Heap) (H:Hp):(qaq h H).objs.size=h.objs.size:=PySem.W.hideAll_size _ _
theorem qar {o:Obj} (e:h.get? b=iJ o) (n:H b=iL):(qaq h H).get? b=iJ o:=
 cY _ e λc=>by have q:(H b).isSome=true:=(dq.mp c).2;rw [n] at q; simp at q
theorem qcy {o:Obj} (e:(qaq h H).get? b=iJ o):h.get? b=iJ o/\H b=none:=by
 have a:h.get? b=iJ o:=d4 (trk h H) e;refine ⟨a,?_⟩;cases q:H b with
 | none=>rfl
 | some x=>have c:b∈trk h H:=dq.mpr ⟨be.mpr (ap a),by simp [q]⟩;have z:(qaq h H).get? b=none:=cR (trk h H) c;rw [z] at e; cases e
noncomputable def qcz (g h:Heap) (L:Addr):List (Addr×Obj):=(aN h.objs.size).filterMap λa=>if a=L\/(g.get? a).isSome=iO then iL else (h.get? a).map λo=>(a,o)
noncomputable def rest (g h:Heap) (L d:Addr):List (Addr×Obj):=(qcz g h L).filter λp=>decide (p.1≠d)
structure Mod (K:Frag) (mg:Str->Option iM) (base:Heap):Prop where
 kin:K.In base
 glob:base.Ns mainGlobals mg
 blt:∃ mb,base.Ns builtinsNs mb/\∀ x:Str,x ≠ "__name__"->mb x=bootBuiltins x
 nolimit:base.NoLimit
structure Cx where
 prog:iR
 w:iS
 K:Frag
 mg:Str->Option iM
 base:Heap
 A:iV
 N:List Str
 s₀:iP
 H₀:Hp
 env:Env
 outer:List Env
 stack:List Env
 ex:List Addr
 fn:Str->Bool
 calm:Bool
 pn:List (Addr×Obj)
 xe:iM->iP->Prop
noncomputable def frs (l:List Env):List Addr:=l.filterMap (·.frame)
abbrev Cx.fs (X:Cx):List Addr:=frs X.outer
def Vis (sc:lB) (x:Str):Prop:=sc.names.lookup x=iJ .local\/sc.names.lookup x=iJ .cell\/sc.names.lookup x=iJ .free
def Loc (sc:lB) (x:Str):Prop:=sc.names.lookup x=iJ .local\/sc.names.lookup x=iJ .cell
def VS (env:Env) (h:Heap) (m:Str->Option iM) (x:Str) (u:iM):Prop:=
 (env.kindOf x=iJ .local/\m x=iJ u)\/((env.kindOf x=iJ .cell\/env.kindOf x=iJ .free)/\∃ c,env.cells.lookup x=iJ c/\h.IsCell c (iJ u))
structure Cx.Ok (X:Cx):Prop where
 mod:Mod X.K X.mg X.base
 kind:X.env.scope.kind=.function
 glob:X.env.globals=mainGlobals
 blt:X.env.builtins=builtinsNs
 above:X.s₀.heap.objs.size<=X.env.locals
 inj:∀ x y c,X.env.cells.lookup x=iJ c->X.env.cells.lookup y=iJ c->x=y
 has:∀ x,(X.env.kindOf x=iJ .cell\/X.env.kindOf x=iJ .free)->∃ c,X.env.cells.lookup x=iJ c
 cab:∀ x c,X.fn x=iO->X.env.cells.lookup x=iJ c->X.s₀.heap.objs.size<=c
 hd:X.calm=iO->X.A.handled=iL
 frames:X.A.frames=iJ X.stack
 stk:X.stack=X.outer\/(X.stack=X.env::X.outer/\X.env.frame=iJ X.env.locals)
 exf:∀ b∈X.ex,b≠X.env.locals/\∀ x c,X.env.cells.lookup x=iJ c->c≠b
 bs:∀ b o,X.base.get? b=iJ o->X.s₀.heap.get? b=iJ o/\X.H₀ b=iL
 bsz:X.base.objs.size<=X.s₀.heap.objs.size
 noex:∀ b o,X.base.get? b=iJ o->b∉X.ex
 exfs:∀ b∈X.ex,b∉X.fs
 funs:X.s₀.heap.FunFrames X.base X.outer
 frf:∀ b∈X.fs,X.H₀ b=iL
structure Inv (X:Cx) (pins:List (Addr×Obj)) (σ:List (Option V)) (H:Hp) (s:iP):Prop where
 ok:X.Ok
 os:s.os=X.s₀.os
 bare:lJ s.gens
 base:Un X.fs X.ex X.H₀ H X.s₀.heap s.heap
 loc:∃ m,s.heap.Ns X.env.locals m/\∀ (i:Nat) (x:Str) (v:V),X.N[i]?=iJ x->σ[i]?=iJ (iJ v)->Vis X.env.scope x->∃ u,RelV v u/\VS X.env s.heap m x u
 cell:∀ x c,X.env.cells.lookup x=iJ c->∃ v,s.heap.IsCell c v
 free:H X.env.locals=iL
 freeC:∀ x c,X.env.cells.lookup x=iJ c->H c=iL
 pin:∀ p∈X.pn++pins,s.heap.get? p.1=iJ p.2/\H p.1=iL/\p.1≠X.env.locals/\p.1∉X.fs/\∀ v,p.2.data≠.cell v
 hok:HOk X.prog X.w H s.heap
 len:σ.length=X.N.length
variable {x:Str} {X:Cx} {pins:List (Addr×Obj)} {s s':iP} {t' i j:Nat} {ch:List Addr} {it:Addr} {v:V}
section
variable {σ:List (Option V)}
theorem Cx.Ok.nofr (ok:X.Ok) {o:Obj} (e:X.base.get? b=iJ o):b∉X.fs:=λd=>by have:=(ok.funs.mem d).1;rw [e] at this; cases this
theorem Inv.bs (I:Inv X pins σ H s):∀ b o,X.base.get? b=iJ o->s.heap.get? b=iJ o/\H b=none:=λb o e=>
 ⟨I.base.keep b o (I.ok.bs b o e).1 (I.ok.bs b o e).2 (I.ok.nofr e) (I.ok.noex b o e),I.base.free b o (I.ok.bs b o e).1 (I.ok.bs b o e).2 (I.ok.noex b o e)⟩
theorem Inv.bk (I:Inv X pins σ H s):∀ b o,X.base.get? b=iJ o->s.heap.get? b=iJ o:=λb o e=>(I.bs b o e).1
theorem Inv.mod (I:Inv X pins σ H s):Mod X.K X.mg X.base:=I.ok.mod
theorem Inv.kIn (I:Inv X pins σ H s):X.K.In s.heap:=I.ok.mod.kin.keeps I.bk
theorem Inv.nolimit (I:Inv X pins σ H s):s.heap.NoLimit:=I.ok.mod.nolimit.keeps I.bk
theorem Inv.fr (I:Inv X pins σ H s):∃ m,Fr X.base X.env.locals s.heap m:=
 let ⟨m,n,_⟩:=I.loc
 ⟨m,n,I.bk,bE I.ok.bsz I.ok.above⟩
theorem Inv.lt (I:Inv X pins σ H s):X.env.locals < s.heap.objs.size:=let ⟨_,n,_⟩:=I.loc; n.lt
theorem Inv.sz (I:Inv X pins σ H s):X.s₀.heap.objs.size<=s.heap.objs.size:=bE I.ok.above (cH I.lt)
theorem Inv.nofs (I:Inv X pins σ H s) (h:s.heap.objs.size<=a):a∉X.fs:=λd=>by obtain ⟨_,o,m,_⟩:=I.ok.funs.mem d;exact absurd (aI (ap m) (bE I.sz h)) (bQ _)
theorem Inv.cne (I:Inv X pins σ H s):∀ x c,X.env.cells.lookup x=iJ c->c≠X.env.locals:=λx c e z=>by obtain ⟨v,o,b,hd⟩:=I.cell x c e;obtain ⟨m,⟨o',es,ep,h,a,_⟩,_⟩:=I.loc;rw [z,h] at b; cases b; rw [a] at hd; cases hd
theorem Inv.funs (I:Inv X pins σ H s):s.heap.FunFrames X.base X.outer:=by
 have all:∀ (l:List Env),(∀ b∈frs l,b∈X.fs)->X.s₀.heap.FunFrames X.base l->s.heap.FunFrames X.base l:=by
  intro l
  induction l with
  | nil=>intro _ _; trivial
  | cons env r j=>intro hs hl;obtain ⟨k,⟨L,o,h,n,m,hd⟩,c⟩:=hl;have a:L∈X.fs:=hs L (by unfold frs; rw [cF,h]; exact aw);obtain ⟨sl,e⟩:=I.base.slot L o m (I.ok.frf L a) a λz=>I.ok.exfs L z a;exact ⟨k,⟨L,_,h,n,e,hd⟩,j (λb d=>hs b (by unfold frs; rw [cF,h]; exact af _ d)) c⟩
 exact all X.outer (λ_ d=>d) I.ok.funs
theorem Inv.stack (I:Inv X pins σ H s):s.heap.FunFrames X.base X.stack:=by
 rcases I.ok.stk with e | ⟨e,hf⟩
 ·rw [e]; exact I.funs
 ·rw [e];obtain ⟨m,n,_⟩:=I.loc;refine .cons (by rw [I.ok.kind]; decide) hf n ?_ I.funs;exact Heap.get?_none_of_le (bE I.ok.bsz I.ok.above)
theorem Inv.stkSub (I:Inv X pins σ H s):∀ b∈frs X.stack,b∈X.env.locals::X.fs:=λb d=>by
 rcases I.ok.stk with e | ⟨e,hf⟩
 ·rw [e] at d; exact af _ d
 ·rw [e] at d;unfold frs at d;rw [cF,hf] at d;exact d
theorem Inv.stkFree (I:Inv X pins σ H s):∀ b∈frs X.stack,H b=none:=λb d=>by
 rcases ac.mp (I.stkSub b d) with e | d;·rw [e]; exact I.free
 ·obtain ⟨_,o,m,_⟩:=I.ok.funs.mem d;exact I.base.free b o m (I.ok.frf b d) λz=>I.ok.exfs b z d
theorem Inv.step {g':Array lR} {t':Nat} {d':Drawn} {ch:List Addr} (I:Inv X pins σ H s)
  (a:∀ b∈ch,(b∈X.ex\/X.s₀.heap.objs.size<=b)/\b≠X.env.locals/\(∀ x c,X.env.cells.lookup x=iJ c->c≠b)/\∀ p∈X.pn++pins,p.1≠b)
  (keep:∀ b o,b≠X.env.locals->b∉X.fs->b∉ch->s.heap.get? b=iJ o->H b=iL->h'.get? b=iJ o)
  (slot:∀ b o,b≠X.env.locals->b∈X.fs->b∉ch->s.heap.get? b=iJ o->H b=iL->∃ sl,h'.get? b=iJ { o with slots:=sl }) (free:∀ b o,b∉ch->s.heap.get? b=iJ o->H b=iL->H' b=iL)
  (there:∀ b o,b∉ch->s.heap.get? b=iJ o->∃ o',h'.get? b=iJ o')
  (tups:∀ b xs,H b=iJ (.tup xs)->H' b=iJ (.tup xs)) (frzs:∀ b o u,H b=iJ (.frz o u)->H' b=iJ (.frz o u)) (tbls:∀ b ps,H b=iJ (.tbl ps)->∃ more,H' b=iJ (.tbl (ps++more)))
  (ns:∀ m,s.heap.Ns X.env.locals m->h'.Ns X.env.locals m) (hok:HOk X.prog X.w H' h') (hg:lJ g') :
  Inv X pins σ H' { s with heap:=h',gens:=g',drawn:=d',toks:=t' }:=by
 have L:∀ b o,X.s₀.heap.get? b=iJ o->b≠X.env.locals:=λb o e=>aG (aI (ap e) I.ok.above);have C:∀ b o,X.s₀.heap.get? b=iJ o->b∉X.ex->b∉ch:=λb o e hx f=>by
  rcases (a b f).1 with z | z;·exact hx z
  ·exact absurd (aI (ap e) z) (bQ _)
 have K:∀ x c,X.env.cells.lookup x=iJ c->∀ v,s.heap.IsCell c v->h'.IsCell c v:=λx c e v ⟨o,g,hd⟩=>by
  have h:c∉ch:=λz=>(a c z).2.2.1 x c e rfl;by_cases A:c∈X.fs;·obtain ⟨sl,q⟩:=slot c o (I.cne x c e) A h g (I.freeC x c e);exact ⟨_,q,hd⟩
  ·exact ⟨o,keep c o (I.cne x c e) A h g (I.freeC x c e),hd⟩
 refine ⟨I.ok,I.os,hg,⟨λb o e n f hx=>?_,λb o e n f hx=>?_,λb o e n hx=>?_,λb o e hx=>?_,λb xs e=>tups b xs (I.base.tups b xs e),λb o xs e=>frzs b o xs (I.base.frzs b o xs e),λb ps e=>?_⟩,?_,λx c e=>?_,?_,λx c e=>?_,λp hp=>?_,hok,I.len⟩;·exact keep b o (L b o e) f (C b o e hx) (I.base.keep b o e n f hx) (I.base.free b o e n hx)
 ·obtain ⟨sl,e1⟩:=I.base.slot b o e n f hx;obtain ⟨t,j⟩:=slot b _ (L b o e) f (C b o e hx) e1 (I.base.free b o e n hx);exact ⟨t,j⟩
 ·obtain ⟨o',e1⟩:=I.base.there b o e hx;exact free b o' (C b o e hx) e1 (I.base.free b o e n hx)
 ·obtain ⟨o',e1⟩:=I.base.there b o e hx;exact there b o' (C b o e hx) e1
 ·obtain ⟨m1,e1⟩:=I.base.tbls b ps e;obtain ⟨B,j⟩:=tbls b _ e1;exact ⟨m1++B,by rw [j,Array.append_assoc]⟩
 ·obtain ⟨m,D,hl⟩:=I.loc;refine ⟨m,ns m D,λi x v e1 j E=>?_⟩;obtain ⟨u,r,l⟩:=hl i x v e1 j E;refine ⟨u,r,?_⟩;rcases l with l | ⟨k,c,e,z⟩
  ·exact .inl l
  ·exact .inr ⟨k,c,e,K x c e _ z⟩
 ·obtain ⟨v,z⟩:=I.cell x c e;exact ⟨v,K x c e v z⟩
 ·obtain ⟨m,⟨o,_,_,g,_⟩,_⟩:=I.loc;exact free _ o (λz=>(a _ z).2.1 rfl) g I.free
 ·obtain ⟨v,o,g,hd⟩:=I.cell x c e;exact free c o (λz=>(a c z).2.2.1 x c e rfl) g (I.freeC x c e)
 ·obtain ⟨e,n,ne,y,d⟩:=I.pin p hp;have h:p.1∉ch:=λz=>(a p.1 z).2.2.2 p hp rfl;exact ⟨keep p.1 p.2 ne y h e n,free p.1 p.2 h e n,ne,y,d⟩
theorem Inv.un (I:Inv X pins σ H s) (u:Un X.fs [] H H' s.heap h') (hok:HOk X.prog X.w H' h'):Inv X pins σ H' { s with heap:=h',toks:=t' }:=by obtain ⟨m,⟨o,es,ep,c,r⟩,_⟩:=id I.loc;obtain ⟨sl,L⟩:=u.any c I.free (by simp);exact I.step (g':=s.gens) (d':=s.drawn) (ch:=[]) (λ_ z=>nomatch z) (λb o _ d _ e n=>u.keep b o e n d (by simp)) (λb o _ d _ e n=>u.slot b o e n d (by simp)) (λb o _ e n=>u.free b o e n (by simp)) (λb o _ e=>u.there b o e (by simp)) u.tups u.frzs u.tbls (λg f=>by obtain ⟨o',es',a,h,r'⟩:=f;rw [c] at h; cases h;exact ⟨_,es',a,L,r'⟩) hok I.bare
theorem Inv.call {g':Array lR} {t':Nat} {d':Drawn} (I:Inv X pins σ H s) (u:Un (frs X.stack) ch H H' s.heap h') (hok:HOk X.prog X.w H' h') (hg:lJ g')
  (a:∀ b∈ch,(b∈X.ex\/X.s₀.heap.objs.size<=b)/\b≠X.env.locals/\(∀ x c,X.env.cells.lookup x=iJ c->c≠b)/\∀ p∈X.pn++pins,p.1≠b) :
  Inv X pins σ H' { s with heap:=h',gens:=g',drawn:=d',toks:=t' }:=by
 obtain ⟨m,⟨o,es,ep,g,r⟩,_⟩:=id I.loc;obtain ⟨sl,L⟩:=u.any g I.free λz=>(a _ z).2.1 rfl;exact I.step (ch:=ch) a (λb o L j d e n=>u.keep b o e n (λz=>(ac.mp (I.stkSub b z)).elim L j) d) (λb o _ _ d e n=>u.any e n d) (λb o d e n=>u.free b o e n d) (λb o d e=>u.there b o e d) u.tups u.frzs u.tbls (λk i=>by obtain ⟨o',es',f,h,r'⟩:=i;rw [g] at h; cases h;exact ⟨_,es',f,L,r'⟩) hok hg
theorem Inv.turned {t':Nat} (I:Inv X pins σ H s) (k:∀ b o,b≠it->s.heap.get? b=iJ o->h'.get? b=iJ o) (f:H it=iL) (a:it≠X.env.locals)
  (h1:it∈X.ex\/X.s₀.heap.objs.size<=it) (h2:∀ x c,X.env.cells.lookup x=iJ c->c≠it) (h3:∀ p∈X.pn++pins,p.1≠it):Inv X pins σ H { s with heap:=h',toks:=t' }:=by
 have t:∀ b u,H b=iJ u->b≠it:=λb u e z=>by rw [z,f] at e; cases e
 refine I.step (g':=s.gens) (d':=s.drawn) (ch:=[it]) (λb i=>?_) (λb o _ _ d e _=>k b o (λz=>d (by simp [z])) e) (λb o _ _ d e _=>⟨o.slots,k b o (λz=>d (by simp [z])) e⟩) (λ_ _ _ _ n=>n)
  (λb o d e=>⟨o,k b o (λz=>d (by simp [z])) e⟩) (λ_ _ e=>e) (λ_ _ _ e=>e) (λb ps e=>⟨#[],by rw [e]; simp⟩) (λm g=>?_) (λb u e=>?_) I.bare
 ·have e:b=it:=by simpa using i
  subst e;exact ⟨h1,a,h2,h3⟩
 ·obtain ⟨o,es,ep,h,r⟩:=g;exact ⟨o,es,ep,k _ o (aZ a) h,r⟩
 ·refine (I.hok b u e).stay (λc v d q=>k c v ?_ q) (λ_ q=>q) λ_ _ q=>q;rcases d with z | z;·rw [z]; exact t b u e
  ·exact t c _ z
theorem Inv.tok (I:Inv X pins σ H s) (t:Nat):Inv X pins σ H { s with toks:=t }:=I.un (h':=s.heap) (t':=t) Un.refl I.hok
theorem Inv.kept (I:Inv X pins σ H s) (k:∀ b u,s.heap.get? b=iJ u->h'.get? b=iJ u):Inv X pins σ H { s with heap:=h',toks:=t' }:=I.un (Un.kept k) (I.hok.kept k)
theorem Inv.laid {t':Nat} (I:Inv X pins σ H s) (k:∀ b u,s.heap.get? b=iJ u->h'.get? b=iJ u) (hp:s.heap.objs.size<=a) (new:ObjOk X.prog X.w (upd H a o) h' a o):Inv X pins σ (upd H a o) { s with heap:=h',toks:=t' }:=I.un (Un.laid k hp (I.hok.fresh hp)) (I.hok.laid k hp new)
theorem Inv.write {x e:Addr} {o:HO} {t':Nat} (I:Inv X pins σ H s) (m:Mut (H x)) (i:e=x\/H e=iJ (.own x)) (k:∀ b u,b≠e->s.heap.get? b=iJ u->h'.get? b=iJ u) (h:∃ u,h'.get? e=iJ u)
  (new:ObjOk X.prog X.w (upd H x o) h' x o):Inv X pins σ (upd H x o) { s with heap:=h',toks:=t' }:=I.un (Un.write m i k h) (I.hok.write m i k h new)
theorem Inv.weak {σ':List (Option V)} (I:Inv X pins σ H s) (hl:σ'.length=σ.length) (w:∀ (i:Nat) v,σ'[i]?=iJ (iJ v)->σ[i]?=iJ (iJ v)):Inv X pins σ' H s:=
 ⟨I.ok,I.os,I.bare,I.base,let ⟨m,n,h⟩:=I.loc; ⟨m,n,λi x v e1 e E=>h i x v e1 (w i v e) E⟩,I.cell,I.free,I.freeC,I.pin,I.hok,hl.trans I.len⟩
theorem Inv.pins_of {a:List (Addr×Obj)} (I:Inv X pins σ H s) (h:∀ p∈a,s.heap.get? p.1=iJ p.2/\H p.1=iL/\p.1≠X.env.locals/\p.1∉X.fs/\∀ v,p.2.data≠.cell v):Inv X a σ H s:=
 ⟨I.ok,I.os,I.bare,I.base,I.loc,I.cell,I.free,I.freeC,λp hp=>(aJ.mp hp).elim (λz=>I.pin p (cw _ z)) (h p),I.hok,I.len⟩
theorem Ul {N:List Str} (h:N.Nodup) (a:N[i]?=iJ x) (b:N[j]?=iJ x):i=j:=by obtain ⟨h1,e1⟩:=aH.mp a;obtain ⟨h2,e⟩:=aH.mp b;exact (fY h).mp (e1.trans e.symm)
theorem Ks {M:Model} {A:iV} {E:iM->iP->Prop} {Q:Unit->iP->Prop} (I:Inv X pins σ H s) (hN:X.N.Nodup) (hi:X.N[i]?=iJ x) (hx:Loc X.env.scope x) (r:RelV v u)
  (h:∀ s',Inv X pins (σ.set i (iJ v)) H s'->(∃ a,bn a s.heap s'.heap/\(a=X.env.locals\/X.env.cells.lookup x=iJ a))->Q () s') (hf:X.fn x=iO\/X.env.scope.names.lookup x=iJ .local:=by first | exact .inl rfl | exact .inr rfl | assumption):wpAny M A (storeName X.env x u) Q E s:=by
 obtain ⟨m,Z,hl⟩:=id I.loc;have O:(X.env.scope.kind == .class||(X.env.scope.kind == .module&&X.env.locals != X.env.globals))=false:=by rw [I.ok.kind]; rfl
 have C:i < σ.length:=by rw [I.len]; exact (aH.mp hi).1
 have cne:=I.cne;have t:∀ {a:Addr} {h':Heap},(∃ o,s.heap.get? a=iJ o/\H a=iL)->bn a s.heap h'->HOk X.prog X.w H h':=λ{a h'} ha hs b ob e=>by
  obtain ⟨_,_,g⟩:=ha;refine (I.hok b ob e).stay (λc w' f q=>(hs.2 c ?_).trans q) (λ_ q=>q) λ_ _ q=>q;rintro rfl;rcases f with rfl | f;·rw [g] at e; cases e
  ·rw [g] at f; cases f
 rcases hx with B | B
 ·refine wpAny_storeName_local B Z (λh' Y hs=>?_) O;obtain ⟨oL,_,_,W,_⟩:=id Z;refine h _ ⟨I.ok,I.os,I.bare,⟨λb o e n J hx=>?_,λb o e n J hx=>?_,I.base.free,λb o e hx=>?_,I.base.tups,I.base.frzs,I.base.tbls⟩,⟨_,Y,λj y T e1 l F=>?_⟩,λy c e=>?_,I.free,I.freeC,λp hp=>?_,t ⟨oL,W,I.free⟩ hs,by simpa using I.len⟩ ⟨_,hs,.inl rfl⟩;·exact (hs.2 b (aG (aI (ap e) I.ok.above))).trans (I.base.keep b o e n J hx)
  ·obtain ⟨sl,e1⟩:=I.base.slot b o e n J hx;exact ⟨sl,(hs.2 b (aG (aI (ap e) I.ok.above))).trans e1⟩
  ·obtain ⟨o',e1⟩:=I.base.there b o e hx;exact ⟨o',(hs.2 b (aG (aI (ap e) I.ok.above))).trans e1⟩
  ·by_cases D:j=i;·subst D;rw [hi] at e1; cases e1;rw [aD C] at l;cases l;exact ⟨u,r,.inl ⟨B,by simp⟩⟩
   ·rw [ai (aZ D)] at l;obtain ⟨U,r',q⟩:=hl j y T e1 l F;refine ⟨U,r',?_⟩;rcases q with ⟨k,e⟩ | ⟨k,c,e,z⟩
    ·refine .inl ⟨k,?_⟩;have:y≠x:=λe=>D (Ul hN e1 (e ▸ hi));simp [this,e]
    ·exact .inr ⟨k,c,e,z.sameBut hs (cne y c e)⟩
  ·obtain ⟨w',z⟩:=I.cell y c e;exact ⟨w',z.sameBut hs (cne y c e)⟩
  ·obtain ⟨e,n,ne,V,d⟩:=I.pin p hp;exact ⟨(hs.2 p.1 ne).trans e,n,ne,V,d⟩
 ·have G:X.fn x=true:=by
   rcases hf with z | z;·exact z
   ·rw [z] at B; cases B
  obtain ⟨c,f⟩:=I.ok.has x (.inl B);obtain ⟨w',z⟩:=I.cell x c f;refine wpAny_storeName_cell I.ok.kind B f z (λh' R hs=>?_);obtain ⟨oc,L,K⟩:=id z;refine h { s with heap:=h' } ⟨I.ok,I.os,I.bare,⟨λb o e n J hx=>?_,λb o e n J hx=>?_,I.base.free,λb o e hx=>?_,I.base.tups,I.base.frzs,I.base.tbls⟩,⟨m,Z.sameBut hs (aZ (cne x c f)),λj y T e1 l F=>?_⟩,λy S e=>?_,I.free,I.freeC,λp hp=>?_,t ⟨oc,L,I.freeC x c f⟩ hs,by simpa using I.len⟩ ⟨c,hs,.inr f⟩;·exact (hs.2 b (aG (aI (ap e) (I.ok.cab x c G f)))).trans (I.base.keep b o e n J hx)
  ·obtain ⟨sl,e1⟩:=I.base.slot b o e n J hx;exact ⟨sl,(hs.2 b (aG (aI (ap e) (I.ok.cab x c G f)))).trans e1⟩
  ·obtain ⟨o',e1⟩:=I.base.there b o e hx;exact ⟨o',(hs.2 b (aG (aI (ap e) (I.ok.cab x c G f)))).trans e1⟩
  ·by_cases D:j=i;·subst D;rw [hi] at e1; cases e1;rw [aD C] at l;cases l;exact ⟨u,r,.inr ⟨.inl B,c,f,R⟩⟩
   ·rw [ai (aZ D)] at l;obtain ⟨U,r',q⟩:=hl j y T e1 l F;refine ⟨U,r',?_⟩;rcases q with q | ⟨k,S,e,z'⟩
    ·exact .inl q
    ·refine .inr ⟨k,S,e,z'.sameBut hs ?_⟩;rintro rfl;exact D (Ul hN e1 (I.ok.inj _ _ _ e f ▸ hi))
  ·by_cases P:S=c;·subst P; exact ⟨_,R⟩
   ·obtain ⟨w2,z2⟩:=I.cell y S e;exact ⟨w2,z2.sameBut hs P⟩
  ·obtain ⟨e,n,ne,V,d⟩:=I.pin p hp;refine ⟨(hs.2 p.1 ?_).trans e,n,ne,V,d⟩;intro q;rw [q,L] at e;have q':oc=p.2:=ba.inj e;exact d w' (by rw [<-q']; exact K)
theorem yN {M:Model} {A:iV} {E:iM->iP->Prop} {Q:Unit->iP->Prop} (I:Inv X pins σ H s) (a:X.N.Nodup) (hi:X.N[i]?=iJ x) (hx:Loc X.env.scope x) (r:RelV v u)
  (h:∀ s',Inv X pins (σ.set i (iJ v)) H s'->Q () s') (f:X.fn x=iO\/X.env.scope.names.lookup x=iJ .local:=by first | exact .inl rfl | exact .inr rfl | assumption):wpAny M A (storeName X.env x u) Q E s:=
 Ks I a hi hx r (λs' b _=>h s' b) f
theorem Inv.call' (I:Inv X pins σ H s) (m:s'.os=s.os) (u:Un (frs X.stack) ch H H' s.heap s'.heap) (hok:HOk X.prog X.w H' s'.heap) (hg:lJ s'.gens)
  (a:∀ b∈ch,(b∈X.ex\/X.s₀.heap.objs.size<=b)/\b≠X.env.locals/\(∀ x c,X.env.cells.lookup x=iJ c->c≠b)/\∀ p∈X.pn++pins,p.1≠b):Inv X pins σ H' s':=by
 obtain ⟨h',g',d',t',o'⟩:=s';have e:o'=s.os:=m;subst e;exact I.call (g':=g') (t':=t') (d':=d') u hok hg a
end
abbrev XK:=iM->Option Addr->Hp->Prop
abbrev St:=List (Option V)
abbrev VK:=V->Hp->Prop
abbrev TE:=St->Hp->VK->Prop
abbrev TT:=St->Hp->(Bool->Hp->Prop)->Prop
abbrev TA:=St->Hp->(List V->Hp->Prop)->Prop
structure Ends where
 nx:St->Hp->Prop
 rt:VK
 bk:St->Hp->Prop:=λ_ _=>False
 ct:St->Hp->Prop:=λ_ _=>False
abbrev TS:=Ends->St->Hp->Prop
def EP (X:Cx) (pins:List (Addr×Obj)) (σ:St) (Q:VK) (u:iM) (s':iP):Prop:=∃ v H',Inv X pins σ H' s'/\RelV v u/\Q v H'
def TP (X:Cx) (pins:List (Addr×Obj)) (σ:St) (Q:Bool->Hp->Prop) (b:Bool) (s':iP):Prop:=∃ H',Inv X pins σ H' s'/\Q b H'
def AP (X:Cx) (pins:List (Addr×Obj)) (σ:St) (Q:List V->Hp->Prop) (us:List iM) (s':iP):Prop:=∃ vs H',Inv X pins σ H' s'/\Vals vs us/\Q vs H'
def SP (X:Cx) (pins:List (Addr×Obj)) (D:Ends) (f:Flow) (s':iP):Prop:=
 match f with
 | .next=>∃ σ' H',Inv X pins σ' H' s'/\D.nx σ' H'
 | .brk=>∃ σ' H',Inv X pins σ' H' s'/\D.bk σ' H'
 | .cont=>∃ σ' H',Inv X pins σ' H' s'/\D.ct σ' H'
 | .ret u=>∃ v σ' H',Inv X pins σ' H' s'/\RelV v u/\D.rt v H'
structure PE (X:Cx) (e:Expr) (t:TE):Prop where
 run:∀ (pins:List (Addr×Obj)) (s:iP) (σ:St) (H:Hp) (Q:VK),Inv X pins σ H s->t σ H Q->wpAny (model X.prog X.w) X.A (eval e X.env) (EP X pins σ Q) X.xe s
instance {X:Cx} {e:Expr} {t:TE}:CoeFun (PE X e t) (λ_=>∀ (pins:List (Addr×Obj)) (s:iP) (σ:St) (H:Hp) (Q:VK),Inv X pins σ H s->t σ H Q->wpAny (model X.prog X.w) X.A (eval e X.env) (EP X pins σ Q) X.xe s):=⟨λh=>h.run⟩
structure PT (X:Cx) (e:Expr) (t:TT):Prop where
 run:∀ (pins:List (Addr×Obj)) (s:iP) (σ:St) (H:Hp) (Q:Bool->Hp->Prop),Inv X pins σ H s->t σ H Q->wpAny (model X.prog X.w) X.A (isTrue e X.env (eval e X.env)) (TP X pins σ Q) X.xe s
instance {X:Cx} {e:Expr} {t:TT}:CoeFun (PT X e t) (λ_=>∀ (pins:List (Addr×Obj)) (s:iP) (σ:St) (H:Hp) (Q:Bool->Hp->Prop),Inv X pins σ H s->t σ H Q->wpAny (model X.prog X.w) X.A (isTrue e X.env (eval e X.env)) (TP X pins σ Q) X.xe s):=⟨λh=>h.run⟩
structure PW (X:Cx) (e:Expr) (t:TT):Prop where
 run:∀ (whole:Sem iM) (pins:List (Addr×Obj)) (s:iP) (σ:St) (H:Hp) (Q:Bool->Hp->Prop),Inv X pins σ H s->t σ H Q->wpAny (model X.prog X.w) X.A (isTrue e X.env whole) (TP X pins σ Q) X.xe s
instance {X:Cx} {e:Expr} {t:TT}:CoeFun (PW X e t) (λ_=>∀ (whole:Sem iM) (pins:List (Addr×Obj)) (s:iP) (σ:St) (H:Hp) (Q:Bool->Hp->Prop),Inv X pins σ H s->t σ H Q->wpAny (model X.prog X.w) X.A (isTrue e X.env whole) (TP X pins σ Q) X.xe s):=⟨λh=>h.run⟩
variable {e:Expr}
theorem PW.pt {t:TT} (h:PW X e t):PT X e t:=⟨h.run _⟩
structure PA (X:Cx) (es:List Expr) (t:TA):Prop where
 run:∀ (pos:Pos) (pins:List (Addr×Obj)) (s:iP) (σ:St) (H:Hp) (Q:List V->Hp->Prop),Inv X pins σ H s->t σ H Q->wpAny (model X.prog X.w) X.A (spliced (backTo pos (starEach es X.env))) (AP X pins σ Q) X.xe s
instance {X:Cx} {es:List Expr} {t:TA}:CoeFun (PA X es t) (λ_=>∀ (pos:Pos) (pins:List (Addr×Obj)) (s:iP) (σ:St) (H:Hp) (Q:List V->Hp->Prop),Inv X pins σ H s->t σ H Q->wpAny (model X.prog X.w) X.A (spliced (backTo pos (starEach es X.env))) (AP X pins σ Q) X.xe s):=⟨λh=>h.run⟩
structure PS (X:Cx) (st:Stmt) (t:TS):Prop where
 run:∀ (pins:List (Addr×Obj)) (s:iP) (σ:St) (H:Hp) (D:Ends),Inv X pins σ H s->t D σ H->wpAny (model X.prog X.w) X.A (exec st X.env) (SP X pins D) X.xe s
instance {X:Cx} {st:Stmt} {t:TS}:CoeFun (PS X st t) (λ_=>∀ (pins:List (Addr×Obj)) (s:iP) (σ:St) (H:Hp) (D:Ends),Inv X pins σ H s->t D σ H->wpAny (model X.prog X.w) X.A (exec st X.env) (SP X pins D) X.xe s):=⟨λh=>h.run⟩
structure PSs (X:Cx) (st:List Stmt) (t:TS):Prop where
 run:∀ (pins:List (Addr×Obj)) (s:iP) (σ:St) (H:Hp) (D:Ends),Inv X pins σ H s->t D σ H->wpAny (model X.prog X.w) X.A (execs st X.env) (SP X pins D) X.xe s
instance {X:Cx} {st:List Stmt} {t:TS}:CoeFun (PSs X st t) (λ_=>∀ (pins:List (Addr×Obj)) (s:iP) (σ:St) (H:Hp) (D:Ends),Inv X pins σ H s->t D σ H->wpAny (model X.prog X.w) X.A (execs st X.env) (SP X pins D) X.xe s):=⟨λh=>h.run⟩
variable {A:iV} {E:iM->iP->Prop}
theorem thn {t:Sem α} {Q b:α->iP->Prop} {M:Model} (h:wpAny M A t Q E s) (c:∀ a s,Q a s->b a s):wpAny M A t b E s:=lg h c λ_ _ x=>x
variable {σ:St} {pos:Pos} {Q:iM->iP->Prop} {ta:TE} {c:Expr}
section
def qh4 (i:Nat):TE:=λσ H Q=>∃ v,σ[i]?=iJ (iJ v)/\Q v H
def tC (v:V):TE:=λ_ H Q=>Q v H
theorem um (j:X.N[i]?=iJ x) (f:Vis X.env.scope x) (hd:(x == ("__debug__":Str))=false:=by decide) (d:(x == ("__classdict__":Str))=false:=by decide):PE X (.Name x pos) (qh4 i):=by
 refine ⟨?_⟩;intro pins s σ H Q I h;obtain ⟨v,e,h⟩:=h;obtain ⟨m,n,hl⟩:=I.loc;obtain ⟨u,r,l⟩:=hl i x v j e f;have fin:EP X pins σ Q u s:=⟨v,H,I,r,h⟩
 rcases l with ⟨k,g⟩ | ⟨k,c,b,a⟩
 ·exact wpAny_Name (wpAny_loadName_local I.ok.kind k n g fin) hd
 ·rcases k with k | k;·exact wpAny_Name (wpAny_loadName_cell I.ok.kind k b a fin) hd
  ·exact wpAny_Name (wpAny_loadName_free I.ok.kind k b a fin d) hd
theorem qex {i j pos}:PE X (.Constant (.int i) j pos) (tC (.int i)):=⟨λ_ _ _ H _ I h=>wpAny_Constant_int ⟨.int i,H,I.tok _,⟨_,rfl⟩,h⟩⟩
theorem qcA {b j pos}:PE X (.Constant (.bool b) j pos) (tC (.bl b)):=⟨λ_ _ _ H _ I h=>Constant_bool ⟨.bl b,H,I,rfl,h⟩⟩
theorem qey {j pos}:PE X (.Constant .none j pos) (tC .non):=⟨λ_ _ _ H _ I h=>Constant_none ⟨.non,H,I,rfl,h⟩⟩
theorem qbV {x j pos}:PE X (.Constant (.str x) j pos) (tC (.str x)):=⟨λ_ _ _ H _ I h=>Calls.Constant_str ⟨.str x,H,I.tok _,⟨_,rfl⟩,h⟩⟩
def Gl (X:Cx) (x:Str):Prop:=X.env.kindOf x=iJ .globalImplicit
theorem xC {E:iM->iP->Prop} {pos:Pos} (I:Inv X pins σ H s) (hg:Gl X x) (c:X.mg x=iJ u) (h:Q u s)
  (hd:(x == ("__debug__":Str))=false:=by decide):wpAny (model X.prog X.w) X.A (eval (.Name x pos) X.env) Q E s:=
 Calls.Name_function_global I.ok.kind hg (Calls.loadGlobal_global (by rw [I.ok.glob]; exact I.mod.glob.keeps I.bk) c h) hd
theorem zb {E:iM->iP->Prop} {pos:Pos} (I:Inv X pins σ H s) (hg:Gl X x) (m:X.mg x=iL) (c:bootBuiltins x=iJ u) (h:Q u s)
  (n:x ≠ "__name__":=by decide) (hd:(x == ("__debug__":Str))=false:=by decide):wpAny (model X.prog X.w) X.A (eval (.Name x pos) X.env) Q E s:=by
 obtain ⟨mb,h1,h2⟩:=I.mod.blt;exact Calls.Name_function_global I.ok.kind hg (Calls.loadGlobal_builtin (by rw [I.ok.glob]; exact I.mod.glob.keeps I.bk) m (by rw [I.ok.blt]; exact h1.keeps I.bk) ((h2 x n).trans c) h) hd
theorem XD (hg:Gl X x) (c:X.mg x=iJ u) (r:RelV v u) (hd:(x == ("__debug__":Str))=false:=by decide):PE X (.Name x pos) (tC v):=⟨λ_ _ _ H _ I h=>xC I hg c ⟨v,H,I,r,h⟩ hd⟩
theorem XE (hg:Gl X x) (m:X.mg x=iL) (c:bootBuiltins x=iJ u) (r:RelV v u) (n:x ≠ "__name__":=by decide) (hd:(x == ("__debug__":Str))=false:=by decide):PE X (.Name x pos) (tC v):=⟨λ_ _ _ H _ I h=>zb I hg m c ⟨v,H,I,r,h⟩ n hd⟩
variable {a b:Expr} {tb:TE}
variable {tA tB':TT} {rest:List Expr}
def qiv (t u:TT):TT:=λσ H Q=>t σ H λc H1=>if c=iO then u σ H1 Q else Q iN H1
def tOr (t u:TT):TT:=λσ H Q=>t σ H λc H1=>if c=iO then Q iO H1 else u σ H1 Q
def qiw (t:TT):TT:=λσ H Q=>t σ H λc H1=>Q (!c) H1
theorem qcB (g:PT X a tA):PW X (.BoolOp .And [a] pos) tA:=by
 refine ⟨?_⟩;intro w pins s σ H Q I h;refine isTrue_and (thn (g pins s σ H Q I h) λc s1 e=>?_);cases c with
 | true=>exact isTrue_and_nil e
 | false=>exact e
theorem qez (g:PT X a tA):PW X (.BoolOp .Or [a] pos) tA:=by
 refine ⟨?_⟩;intro w pins s σ H Q I h;refine isTrue_or (thn (g pins s σ H Q I h) λc s1 e=>?_);cases c with
 | false=>exact isTrue_or_nil e
 | true=>exact e
theorem qeA (g:PT X a tA) (e:PW X (.BoolOp .And (b::rest) pos) tB'):PW X (.BoolOp .And (a::b::rest) pos) (qiv tA tB'):=by
 refine ⟨?_⟩;intro w pins s σ H Q I h;refine isTrue_and (thn (g pins s σ H _ I h) λc s1 ⟨H1,d,q⟩=>?_);cases c with
 | true=>exact e w pins s1 σ H1 Q d q
 | false=>exact ⟨H1,d,q⟩
theorem qgP (g:PT X a tA) (e:PW X (.BoolOp .Or (b::rest) pos) tB'):PW X (.BoolOp .Or (a::b::rest) pos) (tOr tA tB'):=by
 refine ⟨?_⟩;intro w pins s σ H Q I h;refine isTrue_or (thn (g pins s σ H _ I h) λc s1 ⟨H1,d,q⟩=>?_);cases c with
 | true=>exact ⟨H1,d,q⟩
 | false=>exact e w pins s1 σ H1 Q d q
theorem qeB (g:PT X a tA):PT X (.UnaryOp .Not a pos) (qiw tA):=by refine ⟨?_⟩;intro pins s σ H Q I h;exact isTrue_not (g pins s σ H (λc H1=>Q (!c) H1) I h)
def qgQ (ta tb:TE):TE:=λσ H Q=>ta σ H λx H1=>∃ c,x=.bl c/\if c=iO then tb σ H1 Q else Q (.bl iN) H1
def qix (ta tb:TE):TE:=λσ H Q=>ta σ H λx H1=>∃ c,x=.bl c/\if c=iO then Q (.bl iO) H1 else tb σ H1 Q
theorem qeC {op} {t:TE} (h:PE X a t):PE X (.BoolOp op [a] pos) t:=⟨λpins s σ H Q I hw=>BoolOp_one (h pins s σ H Q I hw)⟩
theorem qeD (g:PE X a ta) (e:PE X (.BoolOp .And (b::rest) pos) tb):PE X (.BoolOp .And (a::b::rest) pos) (qgQ ta tb):=by
 refine ⟨?_⟩;intro pins s σ H Q I h;refine BoolOp_and (thn (g pins s σ H _ I h) λv s1 ⟨x,H1,d,r1,q⟩=>?_);obtain ⟨c,rfl,q⟩:=q;cases r1;refine k8 ?_;cases c with
 | true=>exact e pins s1 σ H1 Q d q
 | false=>exact ⟨.bl iN,H1,d,rfl,q⟩
theorem qgR (g:PE X a ta) (e:PE X (.BoolOp .Or (b::rest) pos) tb):PE X (.BoolOp .Or (a::b::rest) pos) (qix ta tb):=by
 refine ⟨?_⟩;intro pins s σ H Q I h;refine BoolOp_or (thn (g pins s σ H _ I h) λv s1 ⟨x,H1,d,r1,q⟩=>?_);obtain ⟨c,rfl,q⟩:=q;cases r1;refine k8 ?_;cases c with
 | false=>exact e pins s1 σ H1 Q d q
 | true=>exact ⟨.bl iO,H1,d,rfl,q⟩
def tIf (t:TT) (ta tb:TE):TE:=λσ H Q=>t σ H λc H1=>if c=iO then ta σ H1 Q else tb σ H1 Q
theorem qas (f:PT X c tA) (i:PE X a ta) (g:PE X b tb):PE X (.IfExp c a b pos) (tIf tA ta tb):=by
 refine ⟨?_⟩;intro pins s σ H Q I h;refine wpAny_IfExp (thn (f pins s σ H _ I h) λd s1 ⟨H1,e,q⟩=>?_);cases d with
 | true=>exact i pins s1 σ H1 Q e q
 | false=>exact g pins s1 σ H1 Q e q
end
def SqL (K:Frag) (H:Hp) (a:Addr) (xs:List V):Prop:=
 Rd H a (.lst xs) \/
  ∃ (o:Obj) (its:Array iM) (n:Nat),K.lookup a=iJ o/\o.cls=.type "list"/\o.dict=iL/\o.data=.seq its n/\its.size<=sizeLine/\Vals xs its.toList
def SqT (K:Frag) (H:Hp) (a:Addr) (xs:List V):Prop:=
 Rd H a (.tup xs) \/
  ∃ (o:Obj) (its:Array iM) (n:Nat),K.lookup a=iJ o/\(o.cls=.type "tuple"/\o.dict=iL)/\o.data=.seq its n/\its.size<=sizeLine/\Vals xs its.toList
noncomputable def qiy:iM->Option V
 | .none=>iJ .non
 | .bool b=>iJ (.bl b)
 | .int i _=>iJ (.int i)
 | .str x _=>iJ (.str x)
 | .bytes b _=>iJ (.byt b)
 | .float b _=>iJ (.flt b)
 | .ref a=>iJ (.ref a)
 | .type n=>iJ (.ty n)
 | _=>iL
theorem RelV.abs {x:V} (r:RelV x u):qiy u=iJ x:=by
 cases x with
 | non=>cases r; rfl
 | bl _=>cases r; rfl
 | int _=>obtain ⟨t,rfl⟩:=r; rfl
 | str _=>obtain ⟨t,rfl⟩:=r; rfl
 | byt _=>obtain ⟨t,rfl⟩:=r; rfl
 | flt _=>obtain ⟨t,rfl⟩:=r; rfl
 | ref _=>cases r; rfl
 | ty _=>cases r; rfl
variable {y:V}
theorem RelV.inj {x:V} (r:RelV x u) (q:RelV y u):x=y:=ba.inj (r.abs.symm.trans q.abs)
theorem Vals.inj:∀ {xs ys:List V} {us:List iM},Vals xs us->Vals ys us->xs=ys
 | _,_,_,.nil,.nil=>rfl
 | _,_,_,.cons r t,.cons r' t'=>by rw [r.inj r',Vals.inj t t']
variable {K:Frag}
section
variable {ys:List V}
theorem SqT.of (h:H a=iJ (.tup xs)):SqT K H a xs:=.inl (.inl h)
theorem Inv.list (I:Inv X pins σ H s) (h:SqL X.K H a xs):∃ its:List iM,Vals xs its/\PlainL s.heap a its.toArray/\xs.length<=sizeLine:=by
 rcases h with h | ⟨o,its,n,hk,hc,hd,hs,hz,r⟩
 ·obtain ⟨z,its,n,r,e⟩:=h.ok I.hok;exact ⟨its,r,⟨_,n,e,rfl,rfl,rfl⟩,z⟩
 ·refine ⟨its.toList,r,⟨o,n,I.kIn a o hk,hc,hd,by simpa using hs⟩,?_⟩;have e:=r.length;simp only [cG] at e;omega
theorem Inv.tuple (I:Inv X pins σ H s) (h:SqT X.K H a xs):∃ its:List iM,Vals xs its/\IsTup s.heap a its.toArray/\xs.length<=sizeLine:=by
 rcases h with h | ⟨o,its,n,hk,hc,hs,hz,r⟩
 ·obtain ⟨⟨z,_⟩,its,r,p⟩:=h.ok I.hok;exact ⟨its,r,p,z⟩
 ·refine ⟨its.toList,r,⟨o,I.kIn a o hk,hc.1,n,by simpa using hs⟩,?_⟩;have e:=r.length;simp only [cG] at e;omega
theorem Inv.tupleN (I:Inv X pins σ H s) (h:SqT X.K H a xs):∃ o,s.heap.get? a=iJ o/\o.dict=none:=by
 rcases h with h | ⟨o,its,n,hk,hc,hs,hz,r⟩
 ·obtain ⟨⟨z,w⟩,its,r,p⟩:=h.ok I.hok;exact w
 ·exact ⟨o,I.kIn a o hk,hc.2⟩
theorem Inv.list_inj (I:Inv X pins σ H s) (h:SqL X.K H a xs) (h':SqL X.K H a ys):xs=ys:=by
 obtain ⟨its,r,⟨o,n,e,_,_,d⟩,_⟩:=I.list h;obtain ⟨its',r',⟨o',c,b,_,_,d'⟩,_⟩:=I.list h';rw [e] at b; cases b;rw [d] at d';injection d' with d1 _;have:its=its':=by simpa using congrArg Array.toList d1
 subst this;exact r.inj r'
theorem Inv.tuple_inj (I:Inv X pins σ H s) (h:SqT X.K H a xs) (h':SqT X.K H a ys):xs=ys:=by
 obtain ⟨its,r,⟨o,e,_,n,d⟩,_⟩:=I.tuple h;obtain ⟨its',r',⟨o',b,_,c,d'⟩,_⟩:=I.tuple h';rw [e] at b; cases b;rw [d] at d';injection d' with d1 _;have:its=its':=by simpa using congrArg Array.toList d1
 subst this;exact r.inj r'
end
variable {te:TE} {tc:TT}
section
variable {st:Stmt} {rest:List Stmt} {t u:TS}
def qgS:TS:=λD σ H=>D.nx σ H
def qiz (t u:TS):TS:=λD σ H=>t { D with nx:=u D } σ H
theorem XF:PSs X [] qgS:=⟨λ_ _ σ H _ I h=>lI ⟨σ,H,I,h⟩⟩
theorem qat (h1:PS X st t) (h2:PSs X rest u):PSs X (st::rest) (qiz t u):=by
 refine ⟨?_⟩;intro pins s σ H D I h;refine wpAny_execs_cons (thn (h1 pins s σ H { D with nx:=u D } I h) λf s1 q=>?_);cases f with
 | next=>obtain ⟨σ',H',b,q⟩:=q;exact h2 pins s1 σ' H' D b q
 | ret v=>exact q
 | brk=>exact q
 | cont=>exact q
theorem qcC (h1:PS X st t):PSs X [st] t:=by
 refine ⟨?_⟩;intro pins s σ H D I h;refine wpAny_execs_cons (thn (h1 pins s σ H D I h) λf s1 q=>?_);cases f with
 | next=>exact lI q
 | ret v=>exact q
 | brk=>exact q
 | cont=>exact q
theorem Inv.quiet (I:Inv X pins σ H s):interactive X.env=false:=by simp [interactive,I.ok.kind]
def qgT (te:TE):TS:=λD σ H=>te σ H λ_ H1=>D.nx σ H1
theorem qcD (i:PE X e te) (hs:swapsWith e iL pos.line X.env=pure false:=by rfl):PS X (.Expr e pos) (qgT te):=by refine ⟨?_⟩;intro pins s σ H D I h;exact wpAny_Expr_any (thn (i pins s σ H _ I h) λv s1 ⟨x,H1,d,r1,q⟩=>⟨σ,H1,d,q⟩) I.quiet hs
def qiA (te:TE):TS:=λD σ H=>te σ H D.rt
theorem qeE (i:PE X e te):PS X (.Return (iJ e) pos) (qiA te):=by refine ⟨?_⟩;intro pins s σ H D I h;exact wpAny_Return_some (thn (i pins s σ H _ I h) λv s1 ⟨x,H1,d,r1,q⟩=>⟨x,σ,H1,d,r1,q⟩)
def qiB (c:TT) (t u:TS):TS:=λD σ H=>c σ H λb H1=>if b=iO then t D σ H1 else u D σ H1
theorem qgU {a b:List Stmt} (f:PT X c tc) (i:PSs X a t) (g:PSs X b u):PS X (.If c a b pos) (qiB tc t u):=by
 refine ⟨?_⟩;intro pins s σ H D I h;refine wpAny_If (thn (f pins s σ H _ I h) λd s1 ⟨H1,e,q⟩=>?_);cases d with
 | true=>exact i pins s1 σ H1 D e q
 | false=>exact g pins s1 σ H1 D e q
end
abbrev TG:=V->St->Hp->(St->Hp->Prop)->Prop
abbrev TGs:=List V->St->Hp->(St->Hp->Prop)->Prop
structure PG (X:Cx) (target:Expr) (t:TG):Prop where
 run:∀ (pins:List (Addr×Obj)) (s:iP) (σ:St) (H:Hp) (v:V) (u:iM) (Q:St->Hp->Prop),Inv X pins σ H s->RelV v u->t v σ H Q ->wpAny (model X.prog X.w) X.A (assign target X.env u) (λ_ s'=>∃ σ' H',Inv X pins σ' H' s'/\Q σ' H') X.xe s
instance {X:Cx} {target:Expr} {t:TG}:CoeFun (PG X target t) (λ_=>∀ (pins:List (Addr×Obj)) (s:iP) (σ:St) (H:Hp) (v:V) (u:iM) (Q:St->Hp->Prop),Inv X pins σ H s->RelV v u->t v σ H Q ->wpAny (model X.prog X.w) X.A (assign target X.env u) (λ_ s'=>∃ σ' H',Inv X pins σ' H' s'/\Q σ' H') X.xe s):=⟨λh=>h.run⟩
structure PGs (X:Cx) (ts:List Expr) (t:TGs):Prop where
 run:∀ (pins:List (Addr×Obj)) (s:iP) (σ:St) (H:Hp) (vs:List V) (us:List iM) (Q:St->Hp->Prop),Inv X pins σ H s->Vals vs us->t vs σ H Q ->wpAny (model X.prog X.w) X.A (assignInOrder ((assignEach ts X.env).map (·.2)) us) (λ_ s'=>∃ σ' H',Inv X pins σ' H' s'/\Q σ' H') X.xe s
instance {X:Cx} {ts:List Expr} {t:TGs}:CoeFun (PGs X ts t) (λ_=>∀ (pins:List (Addr×Obj)) (s:iP) (σ:St) (H:Hp) (vs:List V) (us:List iM) (Q:St->Hp->Prop),Inv X pins σ H s->Vals vs us->t vs σ H Q ->wpAny (model X.prog X.w) X.A (assignInOrder ((assignEach ts X.env).map (·.2)) us) (λ_ s'=>∃ σ' H',Inv X pins σ' H' s'/\Q σ' H') X.xe s):=⟨λh=>h.run⟩
variable {es:List Expr} {pos':Pos}
section
def qeF (i:Nat):TG:=λv σ H Q=>Q (σ.set i (iJ v)) H
theorem qcE (a:X.N.Nodup) (hi:X.N[i]?=iJ x) (hx:Loc X.env.scope x) (f:X.fn x=iO\/X.env.scope.names.lookup x=iJ .local:=by first | exact .inl rfl | exact .inr rfl | assumption):PG X (.Name x pos) (qeF i):=by refine ⟨?_⟩;intro pins s σ H v u Q I r h;exact wpAny_assign_Name (yN I a hi hx r (λs' b=>⟨_,H,b,h⟩) f)
def qiC:TGs:=λvs σ H Q=>vs=[]/\Q σ H
def qgV (t:TG) (u:TGs):TGs:=λvs σ H Q=>∃ v r,vs=v::r/\t v σ H λσ' H'=>u r σ' H' Q
theorem qcF:PGs X [] qiC:=by refine ⟨?_⟩;intro pins s σ H vs us Q I r h;obtain ⟨e,h⟩:=h;subst e;cases r;exact assignInOrder_nil ⟨σ,H,I,h⟩
theorem qau {t:TG} {u:TGs} (h1:PG X e t) (h2:PGs X es u)
  (hs:(assignEach (e::es) X.env).map (·.2)=assign e X.env::(assignEach es X.env).map (·.2):=by rfl):PGs X (e::es) (qgV t u):=by
 refine ⟨?_⟩;intro pins s σ H vs us Q I r h;obtain ⟨v,vr,e1,h⟩:=h;subst e1;cases r with
 | cons r a=>rw [hs];refine assignInOrder_cons (thn (h1 pins s σ H _ _ _ I r h) λ_ s1 ⟨σ1,H1,d,q⟩=>?_);exact h2 pins s1 σ1 H1 _ _ Q d a q
def qiD (K:Frag) (n:Nat) (t:TGs):TG:=λv σ H Q=>∃ a xs,v=.ref a/\SqT K H a xs/\xs.length=n/\t xs σ H Q
theorem qeG {k:Nat} {t:TGs} {n:Nat} (g:X.calm=iO) (h:PGs X es t)
  (f:(assignEach es X.env).length=n:=by rfl) (c:(assignEach es X.env).findIdx? (·.1)=none:=by rfl):PG X (.Tuple es k pos) (qiD X.K n t):=by
 refine ⟨?_⟩;intro pins s σ H v u Q I r hw;obtain ⟨a,xs,e1,hq,hl,hw⟩:=hw;subst e1;cases r;obtain ⟨its,d,l,hz⟩:=I.tuple hq;refine assign_Tuple_tuple (I.ok.hd g) l (by simp [f,<-hl,d.length]) c λh' hx=>?_;have i:Inv X pins σ H { s with heap:=h' }:=I.kept (t':=s.toks) λb o e=>hx b o (aG (ap e)) e;exact h pins _ σ H xs _ Q i (by simpa using d) hw
def qiE (te:TE) (g:TG):TS:=λD σ H=>te σ H λx H1=>g x σ H1 D.nx
theorem qbW (b:X.N.Nodup) (hi:X.N[i]?=iJ x) (hx:Loc X.env.scope x) (a:PE X e te) (hs:swapsWith e (iJ (.Name x pos')) pos.line X.env=pure false:=by rfl) (f:X.fn x=iO\/X.env.scope.names.lookup x=iJ .local:=by first | exact .inl rfl | exact .inr rfl | assumption):PS X (.Assign [.Name x pos'] e pos) (qiE te (qeF i)):=by refine ⟨?_⟩;intro pins s σ H D I h;refine wpAny_Assign_Name (thn (a pins s σ H _ I h) λv s1 ⟨y,H1,d,r1,q⟩=>?_) hs;exact yN d b hi hx r1 (λs2 c=>⟨_,H1,c,q⟩) f
def qiF (i j:Nat) (ta:TA):TS:=λD σ H=>ta σ H λvs H1=>∃ v w,vs=[v,w]/\D.nx ((σ.set i (iJ v)).set j (iJ w)) H1
theorem qeH {y:Str} {a b:Expr} {ta:TA} {px py pt:Pos} {kt k2 pt2} (z:X.calm=iO) (l:X.N.Nodup) (hi:X.N[i]?=iJ x) (t:X.N[j]?=iJ y) (g:i≠j)
  (hx:X.env.scope.names.lookup x=iJ .local) (k:X.env.scope.names.lookup y=iJ .local) (B:PA X [a,b] ta)
  (hw:swappedStores [.Tuple [.Name x px,.Name y py] kt pt] (.Tuple [a,b] k2 pt2) X.env=pure (iJ [x,y]))
  (hs:swapsWithSole [.Tuple [.Name x px,.Name y py] kt pt] (.Tuple [a,b] k2 pt2) pos.line X.env=pure false:=by rfl) :
  PS X (.Assign [.Tuple [.Name x px,.Name y py] kt pt] (.Tuple [a,b] k2 pt2) pos) (qiF i j ta):=by
 refine ⟨?_⟩;intro pins s σ H D I h;rw [exec_Assign_arm];refine iK (wpAny_standAt ?_);rw [hs];refine iK (iQ ?_);rw [if_neg (by decide)];refine iK (Tuple_ (thn (B _ pins s σ H _ I h) λus s1 ⟨vs,H1,J,r1,d⟩=>?_));obtain ⟨v,w,e1,d⟩:=d;subst e1;obtain ⟨c,u,rfl,rv,rw'⟩:∃ c u,us=[c,u]/\RelV v c/\RelV w u:=by
  cases r1 with
  | cons p q=>
   cases q with
   | cons r n=>cases n;exact ⟨_,_,rfl,p,r⟩
 refine iX ?_ (by show 2<=sizeLine; decide);have G:Inv X pins σ H1 { s1 with heap:=s1.heap.push { cls:=.type "tuple",data:=.seq [c,u].toArray } }:=J.kept (t':=s1.toks) λb o e=>aa _ e;rw [hw];refine iK (iQ ?_);show wpAny (model X.prog X.w) X.A (do rule "assign.swapped-stores"; let items <-unpackItems (.ref s1.heap.objs.size) 2 iL; assignInOrder [λv=>bindName X.env y v,λv=>bindName X.env x v] items.reverse; pure Flow.next) _ _ _;refine iK (lp (iK (unpackItems_tuple (items:=#[c,u]) (I.ok.hd z) (IsTup.new s1.heap _) λh' f=>?_)));have E:=G.kept (h':=h') (t':=s1.toks) λb o e=>f b o (aG (ap e)) e;show wpAny _ _ (assignInOrder [λv=>bindName X.env y v,λv=>bindName X.env x v] [u,c] >>= λ_=>pure Flow.next) _ _ _;refine iK (assignInOrder_cons (wpAny_bindName (yN E l t (.inl k) rw' (λs2 C=>?_) (.inr k))));refine assignInOrder_cons (wpAny_bindName (yN C l hi (.inl hx) rv (λs3 m=>assignInOrder_nil (iQ ?_)) (.inr hx)));rw [List.set_comm _ _ (aZ g)] at m;exact ⟨_,H1,m,d⟩
end
variable {tb:TS} {body:List Stmt}
section
def qeI (c:TT) (tb:TS):TS:=λD σ H=>∃ W:Nat->St->Hp->Prop,(∃ m,W m σ H)/\∀ m σ H,W m σ H ->c σ H λb H1=>if b=iO then ∃ N:St->Hp->Prop,(∀ σ' H',N σ' H'->∃ g,g < m/\W g σ' H')/\tb { D with nx:=N,ct:=N,bk:=D.nx } σ H1 else D.nx σ H1
theorem qav (hp:PassesOwn (model X.prog X.w) X.A X.env X.xe) (r:PT X c tc) (t:PSs X body tb):PS X (.While c body [] pos) (qeI tc tb):=by
 refine ⟨?_⟩;intro pins s σ H D I h;obtain ⟨W,⟨m0,p⟩,turn⟩:=h;refine wpAny_While (codeAny_whileLoop (λn s'=>∃ σ' H',Inv X pins σ' H' s'/\W n σ' H') ?_ m0 ⟨σ,H,I,p⟩);rintro n s1 ⟨σ1,H1,u,o⟩;refine ll hp (thn (r pins s1 σ1 H1 _ u (turn n σ1 H1 o)) λb s2 ⟨H2,l,e⟩=>?_);cases b with
 | true=>
  obtain ⟨N,k,e⟩:=e;rw [if_pos rfl];refine ll hp (thn (t pins s2 σ1 H2 _ l e) λf s3 q=>?_);cases f with
  | next=>obtain ⟨a,d,E,i⟩:=q;obtain ⟨m,j,g⟩:=k a d i;exact ⟨m,j,a,d,E,g⟩
  | cont=>obtain ⟨a,d,E,i⟩:=q;obtain ⟨m,j,g⟩:=k a d i;exact ⟨m,j,a,d,E,g⟩
  | brk=>exact q
  | ret v=>exact q
 | false=>rw [if_neg bG];exact lI ⟨σ1,H2,l,e⟩
end
structure It where
 go:Nat->Hp->Prop
 yld:Nat->Hp->V->Hp->Prop
 stop:Nat->Hp->Prop
def VO (X:Cx) (pins:List (Addr×Obj)) (H:Hp) (b:Addr):Prop:=
 H b=iL/\b≠X.env.locals/\b∉X.fs/\(b∈X.ex\/X.s₀.heap.objs.size<=b)/\(∀ x c,X.env.cells.lookup x=iJ c->c≠b)/\∀ p∈X.pn++pins,p.1≠b
theorem Inv.fpOk (I:Inv X pins σ H s) (d:s.heap.objs.size<=b) (n:H' b=iL):VO X pins H' b:=by
 refine ⟨n,cS (aI I.lt d),I.nofs d,.inr (bE I.sz d),λx c e z=>?_,λp hp z=>?_⟩;·obtain ⟨v,q⟩:=I.cell x c e;exact absurd (aI q.lt (by rw [z]; exact d)) (bQ _)
 ·exact absurd (aI (ap (I.pin p hp).1) (by rw [z]; exact d)) (bQ _)
structure Turn (P:iR) (w:iS) (K:Frag) (tg:Expr) (J:It) (fp:List Addr) (it:Addr) (tn:Nat->Heap->Prop):Prop where
 mem:it∈fp
 obj:∀ i h,tn i h->∀ b∈fp,∃ o,h.get? b=iJ o/\∀ v,o.data≠.cell v
 keep:∀ i h h',tn i h->(∀ b∈fp,∀ o,h.get? b=iJ o->h'.get? b=iJ o)->tn i h'
 item:∀ (X:Cx),X.prog=P->X.w=w->X.K=K->X.calm=iO->∀ (i:Nat) (pins:List (Addr×Obj)) (s:iP) (σ:St) (H:Hp) (E:iM->iP->Prop),Inv X pins σ H s->(∀ b∈fp,VO X pins H b)->tn i s.heap->J.go i H ->wpAny (model P w) X.A (pyNext (.ref it)) (λr s1=>∃ u,r=iJ u /\
   wpAny (model P w) X.A (letOwnedTupleGo tg (.ref it) u) (λ_ s2=>∃ x H',Inv X pins σ H' s2/\RelV x u/\J.yld i H x H'/\tn (i+1) s2.heap/\∀ b∈fp,H' b=iL) E s1) E s
 done:∀ (X:Cx),X.prog=P->X.w=w->X.K=K->X.calm=iO->∀ (i:Nat) (pins:List (Addr×Obj)) (s:iP) (σ:St) (H:Hp) (E:iM->iP->Prop),Inv X pins σ H s->(∀ b∈fp,VO X pins H b)->tn i s.heap->J.stop i H ->wpAny (model P w) X.A (pyNext (.ref it)) (λr s1=>r=iL/\Inv X pins σ H s1) E s
 self:∀ (A:iV) (i:Nat) (s:iP) (Q:iM->iP->Prop) (E:iM->iP->Prop),tn i s.heap->Q (.ref it) s->wpAny (model P w) A (pyIter (.ref it)) Q E s
abbrev TI:=St->Hp->(It->Hp->Prop)->Prop
def PIE (X:Cx) (pins:List (Addr×Obj)) (σ:St) (tg:Expr) (R:It->Hp->Prop) (i:iM) (s2:iP):Prop:=
 ∃ (it:Addr) (fp:List Addr) (tn:Nat->Heap->Prop) (J:It) (H':Hp),i=.ref it/\Inv X pins σ H' s2/\Turn X.prog X.w X.K tg J fp it tn/\tn 0 s2.heap/\(∀ b∈fp,VO X pins H' b)/\R J H'
structure PI (X:Cx) (tg iter:Expr) (wi:TI):Prop where
 run:∀ (pins:List (Addr×Obj)) (s:iP) (σ:St) (H:Hp) (R:It->Hp->Prop),Inv X pins σ H s->wi σ H R ->wpAny (model X.prog X.w) X.A (eval iter X.env) (λv s1=>wpAny (model X.prog X.w) X.A (pyIter v) (PIE X pins σ tg R) X.xe s1) X.xe s
instance {X:Cx} {tg iter:Expr} {wi:TI}:CoeFun (PI X tg iter wi) (λ_=>∀ (pins:List (Addr×Obj)) (s:iP) (σ:St) (H:Hp) (R:It->Hp->Prop),Inv X pins σ H s->wi σ H R ->wpAny (model X.prog X.w) X.A (eval iter X.env) (λv s1=>wpAny (model X.prog X.w) X.A (pyIter v) (PIE X pins σ tg R) X.xe s1) X.xe s):=⟨λh=>h.run⟩
theorem qaw {M:Model} {A:iV} {E:iM->iP->Prop} {tg:Expr} {u:iM} {o:Obj} {n:String} {vs:Array iM} {Q:Unit->iP->Prop} (m:s.heap.get? it=iJ o) (d:o.cls=.type n) (hd:o.data=.fields vs)
    (a:["enumerate", "zip", "dict_itemiterator", "dict_reverseitemiterator", "odict_iterator", "itertools.zip_longest", "itertools.pairwise"].contains n=iN) (c:Q () s):wpAny M A (letOwnedTupleGo tg (.ref it) u) Q E s:=by
  unfold letOwnedTupleGo;cases tg <;> first
    | exact iQ c
    | (cases u <;> first
        | exact iQ c
        | (refine iK (wpAny_load m ?_)
           rw [d,hd];show wpAny M A (if (["enumerate", "zip", "dict_itemiterator", "dict_reverseitemiterator", "odict_iterator", "itertools.zip_longest", "itertools.pairwise"].contains n&&vs[0]? == iJ (rawInt _))=iO then _ else _) Q E s;rw [if_neg (by intro h; rw [a,Bool.false_and] at h; cases h)];exact iQ c))
noncomputable def Itl (K:Frag) (a:Addr):It:=
 ⟨λi H=>∃ xs x,SqL K H a xs/\xs[i]?=iJ x,λi H x H'=>H'=H/\∀ xs,SqL K H a xs->xs[i]?=iJ x,λi H=>∃ xs,SqL K H a xs/\xs.length<=i⟩
noncomputable def Itt (K:Frag) (a:Addr):It:=
 ⟨λi H=>∃ xs x,SqT K H a xs/\xs[i]?=iJ x,λi H x H'=>H'=H/\∀ xs,SqT K H a xs->xs[i]?=iJ x,λi H=>∃ xs,SqT K H a xs/\xs.length<=i⟩
noncomputable def Itr (lo:Int) (n:Nat):It:=⟨λi _=>i < n,λi H x H'=>H'=H/\x=.int (lo+i),λi _=>n<=i⟩
variable {tg:Expr}
theorem XG (a it:Addr):Turn P w K tg (Itl K a) [it] it (λi h=>h.IsListIter it a i) where
 mem:=by simp
 obj:=λi h st b f=>by
  have e:b=it:=by simpa using f
  subst e;obtain ⟨o,e,c,d⟩:=st;exact ⟨o,e,λv z=>by rw [d] at z; cases z⟩
 keep:=λi h h' st k=>st.at λo e=>k it (by simp) o e
 item:=by intro X l hw m t i pins s σ H E I j st hg;subst l hw m;obtain ⟨xs,x,hq,hx⟩:=hg;obtain ⟨its,r,p,hz⟩:=I.list hq;obtain ⟨u,C,A⟩:=r.get hx;obtain ⟨f0,f1,f2,q,f4,n⟩:=j it (by simp);refine wpAny_pyNext_list_item st p.isList (x:=u) (by simpa using C) λh' g y=>?_;have D:Inv X pins σ H { s with heap:=h' }:=I.turned (t':=s.toks) (λb o f e=>(y.2 b f).trans e) f0 f1 q f4 n;obtain ⟨o,e,c,d⟩:=id g;exact ⟨u,rfl,qaw (s:={ s with heap:=h' }) e c d (by decide) ⟨x,H,D,A,⟨rfl,λys B=>by rw [I.list_inj B hq]; exact hx⟩,g,λb f=>(j b f).1⟩⟩
 done:=by intro X l hw m t i pins s σ H E I j st hg;subst l hw m;obtain ⟨xs,hq,hx⟩:=hg;obtain ⟨its,r,p,hz⟩:=I.list hq;obtain ⟨f0,f1,f2,q,f4,n⟩:=j it (by simp);have hl:=r.length;exact wpAny_pyNext_list_end (I.ok.hd t) st p.isList (by simp; omega) λh' eb=>⟨rfl,I.turned (t':=s.toks) (λb o f e=>eb b o f e) f0 f1 q f4 n⟩
 self:=λ_ _ _ _ _ st h=>wpAny_pyIter_listiter st h
theorem YD (a it:Addr):Turn P w K tg (Itt K a) [it] it (λi h=>h.IsTupleIter it a i) where
 mem:=by simp
 obj:=λi h st b f=>by
  have e:b=it:=by simpa using f
  subst e;obtain ⟨o,e,c,d⟩:=st;exact ⟨o,e,λv z=>by rw [d] at z; cases z⟩
 keep:=λi h h' st k=>st.at λo e=>k it (by simp) o e
 item:=by intro X l hw m t i pins s σ H E I j st hg;subst l hw m;obtain ⟨xs,x,hq,hx⟩:=hg;obtain ⟨its,r,p,hz⟩:=I.tuple hq;obtain ⟨u,C,A⟩:=r.get hx;obtain ⟨f0,f1,f2,q,f4,n⟩:=j it (by simp);refine wpAny_pyNext_tuple_item st (show s.heap.IsTuple a its.toArray from p) (x:=u) (by simpa using C) λh' g y=>?_;have D:Inv X pins σ H { s with heap:=h' }:=I.turned (t':=s.toks) (λb o f e=>(y.2 b f).trans e) f0 f1 q f4 n;obtain ⟨o,e,c,d⟩:=id g;exact ⟨u,rfl,qaw (s:={ s with heap:=h' }) e c d (by decide) ⟨x,H,D,A,⟨rfl,λys B=>by rw [I.tuple_inj B hq]; exact hx⟩,g,λb f=>(j b f).1⟩⟩
 done:=by intro X l hw m t i pins s σ H E I j st hg;subst l hw m;obtain ⟨xs,hq,hx⟩:=hg;obtain ⟨its,r,p,hz⟩:=I.tuple hq;obtain ⟨f0,f1,f2,q,f4,n⟩:=j it (by simp);have hl:=r.length;exact wpAny_pyNext_tuple_end (I.ok.hd t) st (show s.heap.IsTuple a its.toArray from p) (by simp; omega) λh' eb=>⟨rfl,I.turned (t':=s.toks) (λb o f e=>eb b o f e) f0 f1 q f4 n⟩
 self:=λ_ _ _ _ _ st h=>wpAny_pyIter_tupleiter st h
theorem YE (it:Addr) (lo:Int) (n:Nat):Turn P w K tg (Itr lo n) [it] it (λi h=>IsRangeIter h it (lo+(i:Nat) * 1) ((n:Int) - (i:Nat)) 1) where
 mem:=by simp
 obj:=λi h st b d=>by
  have e:b=it:=by simpa using d
  subst e;exact ⟨_,st,λv z=>by have j:Data.fields _=Data.cell v:=z;cases j⟩
 keep:=λi h h' st k=>k it (by simp) _ st
 item:=by intro X l hw m c i pins s σ H E I f st hg;subst l hw m;obtain ⟨f0,f1,f2,q,f4,a⟩:=f it (by simp);have W:=Walks.range (prog:=X.prog) (w:=X.w) (I.ok.hd c) it lo 1 n;refine W.item i s _ _ hg st λv h' tk r g p=>?_;obtain ⟨t,rfl⟩:=r;have u:Inv X pins σ H { s with heap:=h',toks:=tk }:=I.turned (λb o d e=>p b o (by simpa using d) e) f0 f1 q f4 a;refine ⟨_,rfl,qaw (s:={ s with heap:=h',toks:=tk }) (n := "range_iterator") g rfl rfl (by decide) ⟨.int (lo+i),H,u,⟨t,?_⟩,⟨rfl,rfl⟩,g,λb d=>(f b d).1⟩⟩;rw [Int.mul_one]
 done:=by intro X l hw m c i pins s σ H E I f st hg;subst l hw m;obtain ⟨f0,f1,f2,q,f4,a⟩:=f it (by simp);exact wpAny_pyNext_range_end (I.ok.hd c) st (by have:n<=i:=hg; omega) λh' eb=>⟨rfl,I.turned (t':=s.toks) (λb o d e=>eb b o d e) f0 f1 q f4 a⟩
 self:=λ_ _ _ _ _ st h=>wpAny_pyIter_rangeiter st h
variable {p:Pos} {fp:List Addr}
section
theorem qax {R:It->Hp->Prop} {E:iM->iP->Prop} {lo hi:Int} {t u v:Tok} {tk:Nat} (I:Inv X pins σ H s) (h1:-(2 ^ 62)<=lo) (h2:lo < 2 ^ 62) (h3:-(2 ^ 62)<=hi) (a:hi < 2 ^ 62)
  (q:R (Itr lo (hi - lo).toNat) H):wpAny (model X.prog X.w) X.A (pyIter (.ref s.heap.objs.size)) (PIE X pins σ tg R) E { s with heap:=s.heap.push { cls:=.type "range",data:=.fields #[.int lo t,.int hi u,.int 1 v] },toks:=tk }:=by
 refine wpAny_pyIter_range (IsRange.new ..) (small_one h1 h2 h3 a) ?_;have d:Inv X pins σ H { s with heap:=s.heap.push { cls:=.type "range",data:=.fields #[.int lo t,.int hi u,.int 1 v] },toks:=tk }:=I.kept λb o e=>aa _ e;refine ⟨(s.heap.push { cls:=.type "range",data:=.fields #[.int lo t,.int hi u,.int 1 v] }).objs.size,[(s.heap.push { cls:=.type "range",data:=.fields #[.int lo t,.int hi u,.int 1 v] }).objs.size],_,_,H,rfl,d.kept (t':=tk) λb o e=>aa _ e,YE _ lo (hi - lo).toNat,?_,λb h=>?_,q⟩
 ·have e1:lo+((0:Nat):Int) * 1=lo:=by simp
  have i:(((hi - lo).toNat:Nat):Int) - ((0:Nat):Int)=Builtin.Range.rangeSize lo hi 1:=by rw [rangeSize_one]; split <;> omega
  show IsRangeIter _ _ (lo+((0:Nat):Int) * 1) ((((hi - lo).toNat:Nat):Int) - ((0:Nat):Int)) 1;rw [e1,i];exact ah _ rfl
 ·have e:b=(s.heap.push { cls:=.type "range",data:=.fields #[.int lo t,.int hi u,.int 1 v] }).objs.size:=by simpa using h
  subst e;exact d.fpOk (ax _) (d.hok.fresh (ax _))
def qgW (ta:TA):TI:=λσ H R=>ta σ H λvs H1=>∃ j:Int,vs=[.int j]/\-(2 ^ 62)<=j/\j < 2 ^ 62/\R (Itr 0 j.toNat) H1
theorem XH {a:Expr} {ta:TA} (hg:Gl X "range") (m:X.mg "range"=iL) (g:PA X [a] ta) (hs:starEach [a] X.env=[(iN,eval a X.env)]:=by rfl):PI X tg (.Call (.Name "range" p) [a] [] pos) (qgW ta):=by
 refine ⟨?_⟩;intro pins s σ H R I h;refine Call_ (zb I hg m boot_range (bW (thn (g pos pins s σ H _ I h) λus s1 ⟨vs,H1,f,r1,b⟩=>?_) hs rfl));obtain ⟨j,e,b,d,q⟩:=b;subst e;cases r1 with
 | cons r c=>cases c;obtain ⟨t,rfl⟩:=r;exact call_range_1 (qax f (by omega) (by omega) b d (by simpa using q))
def qiG (wi:TI) (g:TG) (tb:TS):TS:=λD σ H=>wi σ H λJ H1=>∃ W:Nat->Nat->St->Hp->Prop,(∃ m,W 0 m σ H1)/\∀ i m σ H,W i m σ H ->(J.stop i H/\D.nx σ H)\/(J.go i H/\∃ N:St->Hp->Prop,(∀ σ' H',N σ' H'->∃ b,b < m/\W (i+1) b σ' H')/\∀ x H',J.yld i H x H'->g x σ H' λa H2=>tb { D with nx:=N,ct:=N,bk:=D.nx } a H2)
noncomputable def Kt (fp:List Addr) (h:Heap):List (Addr×Obj):=fp.filterMap λb=>(h.get? b).map λo=>(b,o)
theorem uR {o:Obj} (d:b∈fp) (e:h.get? b=iJ o):(b,o)∈Kt fp h:=fD.mpr ⟨b,d,by rw [e]; rfl⟩
theorem XI {p:Addr×Obj} (hp:p∈Kt fp h):p.1∈fp/\h.get? p.1=iJ p.2:=by
 obtain ⟨b,d,e⟩:=fD.mp hp;cases q:h.get? b with
 | none=>rw [q] at e; cases e
 | some o=>rw [q] at e;have a:(b,o)=p:=ba.inj e;subst a;exact ⟨d,q⟩
theorem Inv.pinned (I:Inv X pins σ H s) (f:∀ b∈fp,VO X pins H b) (m:∀ b∈fp,∃ o,s.heap.get? b=iJ o/\∀ v,o.data≠.cell v):Inv X (pins++Kt fp s.heap) σ H s:=
 I.pins_of λp hp=>(aJ.mp hp).elim (λz=>I.pin p (aX _ z)) λz=>by obtain ⟨h,e⟩:=XI z;obtain ⟨f0,f1,f2,_⟩:=f p.1 h;obtain ⟨o,a,d⟩:=m p.1 h;rw [e] at a; cases a;exact ⟨e,f0,f1,f2,d⟩
theorem Inv.unpinned {pl:List (Addr×Obj)} (I:Inv X (pins++pl) σ H s):Inv X pins σ H s:=I.pins_of λp hp=>I.pin p (aX _ (cw _ hp))
theorem qeJ {iter:Expr} {wi:TI} {g:TG} {pos:Pos} (hp:PassesOwn (model X.prog X.w) X.A X.env X.xe) (Q:X.calm=iO) (hi:PI X tg iter wi) (hg:PG X tg g) (j:PSs X body tb)
  (hs:∀ x,foldedSetIterable iter X.env x=pure x:=by intro _; rfl):PS X (.For tg iter body [] pos) (qiG wi g tb):=by
 refine ⟨?_⟩;intro pins s σ H D I h;refine wpAny_For (thn (hi pins s σ H _ I h) λv s1 h1=>thn h1 λitv s2 h2=>?_) hs;obtain ⟨it,fp,tn,J,H2,e,I2,T,K,f2,W,⟨m0,F⟩,turn⟩:=h2;subst e;have t:∀ {H':Hp},(∀ b∈fp,H' b=iL)->∀ b∈fp,VO X pins H' b:=λhn b j=>⟨hn b j,(f2 b j).2⟩
 refine codeAny_forLoop_any (λn s'=>∃ i σ' H',Inv X pins σ' H' s'/\tn i s'.heap/\(∀ b∈fp,H' b=iL)/\W i n σ' H') ?_ m0 ⟨0,σ,H2,I2,K,λb j=>(f2 b j).1,F⟩;rintro n s3 ⟨i,c,E,R,z,C,Z⟩;rcases turn i n c E Z with ⟨stop,qn⟩ | ⟨go,N,hN,step⟩
 ·refine ll hp (thn (T.done X rfl rfl rfl Q i pins s3 c E X.xe R (t C) z stop) λr s4 ⟨M,I4⟩=>?_);subst M;exact lI ⟨c,E,I4,qn⟩
 ·refine ll hp (thn (T.item X rfl rfl rfl Q i pins s3 c E X.xe R (t C) z go) λr s4 ⟨u,M,h4⟩=>?_);subst M;refine ll hp (thn h4 λ_ s5 ⟨x,S,I5,r5,U,y,O⟩=>?_);have P:=I5.pinned (t O) (T.obj _ _ y);refine ll hp (thn (hg _ s5 c S x u _ P r5 (step x S U)) λ_ s6 ⟨G,H6,I6,q6⟩=>?_);refine ll hp (thn (j _ s6 G H6 _ I6 q6) λf L q=>?_);have k:∀ {a:St} {p:Hp},Inv X (pins++Kt fp s5.heap) a p L->N a p->∃ m,m < n/\∃ i σ' H',Inv X pins σ' H' L/\tn i L.heap/\(∀ b∈fp,H' b=iL)/\W i m σ' H':=λ{a p} l B=>by obtain ⟨m',hm,Y⟩:=hN a p B;refine ⟨m',hm,i+1,a,p,l.unpinned,T.keep _ _ _ y λb j o e=>(l.pin (b,o) (aX _ (aX _ (uR j e)))).1,λb j=>?_,Y⟩;obtain ⟨o,e,d⟩:=T.obj _ _ y b j;exact (l.pin (b,o) (aX _ (aX _ (uR j e)))).2.1
  cases f with
  | next=>obtain ⟨a,p,l,B⟩:=q; exact k l B
  | cont=>obtain ⟨a,p,l,B⟩:=q; exact k l B
  | brk=>obtain ⟨a,p,l,q⟩:=q; exact ⟨a,p,l.unpinned,q⟩
  | ret v=>obtain ⟨V,a,p,l,r7,q⟩:=q; exact ⟨V,a,p,l.unpinned,r7,q⟩
end
abbrev R2:=V->V->Hp->VK->Prop
def OpR (X:Cx) (f:iM->iM->Sem iM) (r:R2):Prop:=
 ∀ (pins:List (Addr×Obj)) (s:iP) (σ:St) (H:Hp) (x y:V) (v u:iM) (Q:VK),Inv X pins σ H s->RelV x v->RelV y u->r x y H Q ->wpAny (model X.prog X.w) X.A (f v u) (EP X pins σ Q) X.xe s
def UnR (X:Cx) (f:iM->Sem iM) (r:V->Hp->VK->Prop):Prop:=
 ∀ (pins:List (Addr×Obj)) (s:iP) (σ:St) (H:Hp) (x:V) (v:iM) (Q:VK),Inv X pins σ H s->RelV x v->r x H Q ->wpAny (model X.prog X.w) X.A (f v) (EP X pins σ Q) X.xe s
def uo (X:Cx) (f:iM) (r:List V->Hp->VK->Prop):Prop:=
 ∀ (pins:List (Addr×Obj)) (s:iP) (σ:St) (H:Hp) (xs:List V) (us:List iM) (Q:VK),Inv X pins σ H s->Vals xs us->r xs H Q ->wpAny (model X.prog X.w) X.A (call f us) (EP X pins σ Q) X.xe s
def qiH (X:Cx) (r:V->Hp->(Bool->Hp->Prop)->Prop):Prop:=
 ∀ (pins:List (Addr×Obj)) (s:iP) (σ:St) (H:Hp) (x:V) (v:iM) (Q:Bool->Hp->Prop),Inv X pins σ H s->RelV x v->r x H Q ->wpAny (model X.prog X.w) X.A (truthy v) (TP X pins σ Q) X.xe s
def tOp (r:R2) (ta tb:TE):TE:=λσ H Q=>ta σ H λx H1=>tb σ H1 λy H2=>r x y H2 Q
def tUn (r:V->Hp->VK->Prop) (ta:TE):TE:=λσ H Q=>ta σ H λx H1=>r x H1 Q
def rI (C:Int->Int->Prop) (g:Int->Int->V):R2:=λx y H Q=>∃ i j,x=.int i/\y=.int j/\C i j/\Q (g i j) H
def rI0 (g:Int->Int->V):R2:=λx y H Q=>∃ i j,x=.int i/\y=.int j/\Q (g i j) H
def rU (g:Int->V):V->Hp->VK->Prop:=λx H Q=>∃ i,x=.int i/\Q (g i) H
variable {r:R2}
section
variable {a b:Expr} {tb tc:TE}
theorem qgX (j:PE X a ta) (i:PE X b tb) {R:V->V->Hp->Prop} (I:Inv X pins σ H s)
  (h:ta σ H λx H1=>tb σ H1 λy H2=>R x y H2) {Q:iM->iP->Prop} {f:iM->iM->Sem iM}
  (g:∀ v u s2 x y H2,Inv X pins σ H2 s2->RelV x v->RelV y u->R x y H2->wpAny (model X.prog X.w) X.A (f v u) Q X.xe s2) :
  wpAny (model X.prog X.w) X.A (eval a X.env) (λv d=>wpAny (model X.prog X.w) X.A (eval b X.env) (λu c=>wpAny (model X.prog X.w) X.A (f v u) Q X.xe c) X.xe d) X.xe s:=by
 refine thn (j pins s σ H _ I h) λv s1 ⟨x,H1,l,r1,q⟩=>?_;refine thn (i pins s1 σ H1 _ l q) λu s2 ⟨y,H2,k,r2,e⟩=>?_;exact g v u s2 x y H2 k r1 r2 e
theorem qgY {op:Operator} (m:OpR X (binaryOp op) r) (g:PE X a ta) (e:PE X b tb):PE X (.BinOp a op b pos) (tOp r ta tb):=by refine ⟨?_⟩;intro pins s σ H Q I h;exact wpAny_BinOp (qgX g e I h λv u s2 x y H2 f d c q=>m pins s2 σ H2 x y v u Q f d c q)
theorem qgZ {op:UnaryOp} {r:V->Hp->VK->Prop} (m:UnR X (unaryOp op) r) (g:PE X a ta):PE X (.UnaryOp op a pos) (tUn r ta):=by refine ⟨?_⟩;intro pins s σ H Q I h;exact UnaryOp_ (thn (g pins s σ H _ I h) λv s1 ⟨x,H1,d,r1,q⟩=>m pins s1 σ H1 x v Q d r1 q)
theorem opI {f:iM->iM->Sem iM} {C:Int->Int->Prop} {g:Int->Int->Int}
  (r:∀ (i j:Int) (t u:Tok) (s:iP) (Q:iM->iP->Prop) (E:iM->iP->Prop),C i j->Q (.int (g i j) s.toks) { s with toks:=s.toks+1 }->wpAny (model X.prog X.w) X.A (f (.int i t) (.int j u)) Q E s) :
  OpR X f (rI C λi j=>.int (g i j)):=by
 intro pins s σ H x y v u Q I d c h;obtain ⟨i,j,rfl,rfl,a,q⟩:=h;obtain ⟨t,rfl⟩:=d;obtain ⟨t',rfl⟩:=c;exact r i j t t' s _ _ a ⟨.int (g i j),H,I.tok _,⟨_,rfl⟩,q⟩
theorem qh5 {f:iM->iM->Sem iM} {g:Int->Int->Int}
  (r:∀ (i j:Int) (t u:Tok) (s:iP) (Q:iM->iP->Prop) (E:iM->iP->Prop),Q (.int (g i j) s.toks) { s with toks:=s.toks+1 }->wpAny (model X.prog X.w) X.A (f (.int i t) (.int j u)) Q E s) :
  OpR X f (rI0 λi j=>.int (g i j)):=by
 intro pins s σ H x y v u Q I d c h;obtain ⟨i,j,rfl,rfl,q⟩:=h;obtain ⟨t,rfl⟩:=d;obtain ⟨t',rfl⟩:=c;exact r i j t t' s _ _ ⟨.int (g i j),H,I.tok _,⟨_,rfl⟩,q⟩
theorem qg0 {f:iM->iM->Sem iM} {g:Int->Int->Bool}
  (r:∀ (i j:Int) (t u:Tok) (s:iP) (Q:iM->iP->Prop) (E:iM->iP->Prop),Q (.bool (g i j)) s->wpAny (model X.prog X.w) X.A (f (.int i t) (.int j u)) Q E s) :
  OpR X f (rI0 λi j=>.bl (g i j)):=by
 intro pins s σ H x y v u Q I d c h;obtain ⟨i,j,rfl,rfl,q⟩:=h;obtain ⟨t,rfl⟩:=d;obtain ⟨t',rfl⟩:=c;exact r i j t t' s _ _ ⟨.bl (g i j),H,I,rfl,q⟩
def qiI (i j:Int):Prop:=0 < j/\j < 1073741824
def qem (i j:Int):Prop:=0<=j/\j<=1000000/\i.natAbs < 2 ^ 64
def CMul (i j:Int):Prop:=(-(2 ^ 64) < i/\i < 2 ^ 64)\/(-(2 ^ 64) < j/\j < 2 ^ 64)
theorem CMul.ok {i j:Int} (h:CMul i j):IntMulOk i j:=by
 rcases h with ⟨h1,h2⟩ | ⟨h1,h2⟩
 ·exact .of_left (intBits_le_64 h1 h2)
 ·exact .of_right (intBits_le_64 h1 h2)
theorem qeK:OpR X (binaryOp .Add) (rI0 λi j=>.int (i+j)):=qh5 λ_ _ _ _ _ _ _ q=>add_int q
theorem qeL:OpR X (binaryOp .Sub) (rI0 λi j=>.int (i - j)):=qh5 λ_ _ _ _ _ _ _ q=>sub_int q
theorem qeM:OpR X (binaryOp .Mult) (rI CMul λi j=>.int (i * j)):=opI λ_ _ _ _ _ _ _ d q=>mul_int q d.ok
theorem qeN:OpR X (binaryOp .Mod) (rI (λ_ j=>0 < j) λi j=>.int (i % j)):=opI λi j _ _ _ _ _ d q=>by have h1:(0:Int) < j:=d;exact mod_int' (by omega) (by rw [Int.fmod_eq_emod_of_nonneg i (by omega)]; exact q)
theorem qbX:OpR X (binaryOp .Pow) (rI qem λi j=>.int (i ^ j.toNat)):=opI λ_ _ _ _ _ _ _ d q=>pow_int_small d.1 d.2.1 d.2.2 q
theorem unI {f:iM->Sem iM} {g:Int->Int}
  (r:∀ (i:Int) (t:Tok) (s:iP) (Q:iM->iP->Prop) (E:iM->iP->Prop),Q (.int (g i) s.toks) { s with toks:=s.toks+1 }->wpAny (model X.prog X.w) X.A (f (.int i t)) Q E s) :
  UnR X f (rU λi=>.int (g i)):=by
 intro pins s σ H x v Q I d h;obtain ⟨i,rfl,q⟩:=h;obtain ⟨t,rfl⟩:=d;exact r i t s _ _ ⟨.int (g i),H,I.tok _,⟨_,rfl⟩,q⟩
theorem qeO:UnR X (unaryOp .USub) (rU λi=>.int (-i)):=unI λ_ _ _ _ _ q=>neg_int q
end
variable {op op':CmpOp} {r':R2}
section
variable {a b:Expr} {tb tc:TE}
theorem XJ {Q:VK} {k k':Bool} (I:Inv X pins σ H s) (q:Q (.bl k) H) (e:k=k'):EP X pins σ Q (.bool k') s:=by subst e;exact ⟨.bl k,H,I,rfl,q⟩
theorem qg1:OpR X (compareOp .Lt) (rI0 λi j=>.bl (decide (i < j))):=qg0 λ_ _ _ _ _ _ _ q=>lt_int q
theorem qg2:OpR X (compareOp .LtE) (rI0 λi j=>.bl (decide (i<=j))):=qg0 λ_ _ _ _ _ _ _ q=>le_int q
theorem qg3:OpR X (compareOp .GtE) (rI0 λi j=>.bl (decide (j<=i))):=qg0 λ_ _ _ _ _ _ _ q=>ge_int q
theorem XM:OpR X (compareOp .Lt) (λx y H Q=>∃ i j,x=.str i/\y=.str j/\Q (.bl (decide (i.cps.toList < j.cps.toList))) H):=by intro pins s σ H x y v u Q I d c h;obtain ⟨i,j,rfl,rfl,q⟩:=h;obtain ⟨t,rfl⟩:=d;obtain ⟨t',rfl⟩:=c;exact lt_str (XJ I q rfl)
theorem qcG:OpR X (compareOp .IsNot) (λx y H Q=>y=.non/\Q (.bl (!decide (x=.non))) H):=by
 intro pins s σ H x y v u Q I d c h;obtain ⟨rfl,q⟩:=h;cases c;refine isnot_none_gen (XJ I q ?_);cases x <;> first
  | (cases d; rfl)
  | (obtain ⟨t,rfl⟩:=d; rfl)
theorem qbY (b:Expr) (h:op≠.In:=by decide) (h2:op≠.NotIn:=by decide):behindInMarks op b=false:=by
 have e1:(op == CmpOp.In)=false:=by cases op <;> first | rfl | exact absurd rfl h
 have i:(op == CmpOp.NotIn)=false:=by cases op <;> first | rfl | exact absurd rfl h2
 cases b <;> simp [behindInMarks,e1,i]
theorem qcH (m:OpR X (compareOp op) r) (g:PE X a ta) (f:PE X b tb) (e:behindInMarks op b=iN):PE X (.Compare a [op] [b] pos) (tOp r ta tb):=by refine ⟨?_⟩;intro pins s σ H Q I h;exact wpAny_Compare1 (qgX g f I h λv u s2 x y H2 i d c q=>m pins s2 σ H2 x y v u Q i d c q) e
def qeP (t:TE):TT:=λσ H Q=>t σ H λx H'=>∃ k,x=.bl k/\Q k H'
theorem qcI (m:OpR X (compareOp op) r) (j:PE X a ta) (i:PE X b tb) (g:behindInMarks op b=iN):PT X (.Compare a [op] [b] pos) (qeP (tOp r ta tb)):=by
 refine ⟨?_⟩;intro pins s σ H Q I h;refine wpAny_isTrue_Compare1 (thn (j pins s σ H _ I h) λv s1 ⟨x,H1,n,r1,f⟩=>thn (i pins s1 σ H1 _ n f) λu s2 ⟨y,H2,l,r2,d⟩=>
  thn (m pins s2 σ H2 x y v u _ l r1 r2 d) λc s3 ⟨z,o,E,r3,k,e,q⟩=>?_) g
 subst e;cases r3;exact k8 ⟨o,E,q⟩
def XN (r r':R2) (ta tb tc:TE):TE:=λσ H Q=>ta σ H λx H1=>tb σ H1 λy H2=>r x y H2 λz d=>∃ k,z=.bl k /\
 (if k=iO then tc σ d λw' a=>r' y w' a Q else Q (.bl iN) d)
theorem qay (o:OpR X (compareOp op) r) (f:OpR X (compareOp op') r') (w:PE X a ta) (t:PE X b tb) (p:PE X c tc)
  (n:lastMarks [op,op'] [b,c]=false:=by with_unfolding_all rfl):PE X (.Compare a [op,op'] [b,c] pos) (XN r r' ta tb tc):=by
 refine ⟨?_⟩;intro pins s σ H Q I h;refine Compare_chain (thn (w pins s σ H _ I h) λv s1 ⟨x,H1,B,r1,m⟩=>chain_link (thn (t pins s1 σ H1 _ B m) λu s2 ⟨y,H2,A,r2,l⟩=>
  thn (o pins s2 σ H2 x y v u _ A r1 r2 l) λd s3 ⟨z,g,E,r3,k,e,q⟩=>?_)) n
 subst e;cases r3;refine k8 ?_;cases k with
 | false=>exact ite_ff ⟨.bl iN,g,E,rfl,q⟩
 | true=>exact ite_tt (chain_last (thn (p pins s3 σ g _ E q) λw' s4 ⟨j,D,C,r4,i⟩=>f pins s4 σ D y j u w' Q C r2 r4 i))
theorem qaz (p:OpR X (compareOp op) r) (f:OpR X (compareOp op') r') (B:PE X a ta) (A:PE X b tb) (w:PE X c tc)
  (t:lastMarks [op,op'] [b,c]=false:=by with_unfolding_all rfl):PT X (.Compare a [op,op'] [b,c] pos) (qeP (XN r r' ta tb tc)):=by
 refine ⟨?_⟩;intro pins s σ H Q I h;refine isTrue_chain (thn (B pins s σ H _ I h) λv s1 ⟨x,H1,L,r1,n⟩=>test_link (thn (A pins s1 σ H1 _ L n) λu s2 ⟨y,H2,K,r2,m⟩=>
  thn (p pins s2 σ H2 x y v u _ K r1 r2 m) λd s3 ⟨z,g,E,r3,k,e,q⟩=>?_)) t
 subst e;cases r3;refine k8 ?_;cases k with
 | false=>obtain ⟨k',D,o⟩:=q;cases D;exact ite_ff ⟨g,E,o⟩
 | true=>refine ite_tt (test_last (thn (w pins s3 σ g _ E q) λw' s4 ⟨j,M,J,r4,l⟩=>thn (f pins s4 σ M y j u w' _ J r2 r4 l) λd' s5 ⟨z2,S,G,r5,k2,C,i⟩=>?_));subst C;cases r5;exact k8 ⟨S,G,i⟩
def qg4 (K:Frag) (x:V) (H:Hp) (k:Bool):Prop:=
 match x with
 | .non=>k=iN
 | .bl b=>k=b
 | .int i=>k=(i != 0)
 | .str y=>y.length<=sizeLine/\k=((y.length:Int) != 0)
 | .byt y=>y.size<=sizeLine/\k=((y.size:Int) != 0)
 | .ref p=>(∃ xs,SqL K H p xs/\k=!xs.isEmpty)\/(∃ xs,SqT K H p xs/\k=!xs.isEmpty)\/∃ kvs,H p=iJ (.dK kvs)/\k=!kvs.isEmpty
 | _=>False
theorem YF {κ:Type} {kvs:List (κ×V)} {vs:List (κ×iM)} (r:KV kvs vs):(!vs.isEmpty)=!kvs.isEmpty:=by cases r <;> rfl
theorem QI {its:List iM} (r:Vals xs its):(!its.toArray.isEmpty)=!xs.isEmpty:=by cases r <;> simp
theorem Ku:(sizeLine:Nat) < 2 ^ 63:=by rw [iT]; decide
theorem qeQ:qiH X (λx H Q=>∃ k,qg4 X.K x H k/\Q k H):=by
 intro pins s σ H x v Q I d h;obtain ⟨k,e,q⟩:=h;have hl:=Ku;have hs:sizeLine=16777216:=iT;cases x with
 | non=>cases d;have a:k=false:=e;subst a;exact truthy_none ⟨H,I,q⟩
 | bl b=>cases d;have a:k=b:=e;subst a;exact k8 ⟨H,I,q⟩
 | int i=>obtain ⟨t,rfl⟩:=d;have a:k=(i != 0):=e;subst a;exact PySem.P.truthy_int ⟨H,I,q⟩
 | str y=>obtain ⟨t,rfl⟩:=d;obtain ⟨hy,a⟩:y.length<=sizeLine/\k=((y.length:Int) != 0):=e;subst a;exact PySem.P.truthy_str (by omega) ⟨H,I.tok _,q⟩
 | byt y=>obtain ⟨t,rfl⟩:=d;obtain ⟨hy,a⟩:y.size<=sizeLine/\k=((y.size:Int) != 0):=e;subst a;exact PySem.W.truthy_bytes (by omega) ⟨H,I.tok _,q⟩
 | ref p=>
  cases d;have a:(∃ xs,SqL X.K H p xs/\k=!xs.isEmpty)\/(∃ xs,SqT X.K H p xs/\k=!xs.isEmpty)\/∃ kvs,H p=iJ (.dK kvs)/\k=!kvs.isEmpty:=e;rcases a with ⟨xs,hx,a⟩ | ⟨xs,hx,a⟩ | ⟨kvs,hx,a⟩
  ·subst a;obtain ⟨its,r,pl,hz⟩:=I.list hx;have n:=r.length;exact wpAny_truthy_list pl.isList (by simp only [au]; omega) ⟨H,I.tok _,by rw [QI r]; exact q⟩
  ·subst a;obtain ⟨its,r,pl,hz⟩:=I.tuple hx;have n:=r.length;exact truthy_tuple pl (by simp only [au]; omega) ⟨H,I.tok _,by rw [QI r]; exact q⟩
  ·subst a;obtain ⟨hz,hS,vs,r,m⟩:kvs.length<=sizeLine/\(p == sysModules)=iN/\∃ vs,KV kvs vs/\s.heap.DictOf (qU X.prog X.w) p vs:=I.hok p _ hx;have n:kvs.length=vs.length:=fV r;exact wpAny_truthy_dict hS m (by omega) ⟨H,I.tok _,by rw [YF r]; exact q⟩
 | _=>exact (show False from e).elim
theorem qaA (g:PE X a ta) (i:∀ whole,isTrue a X.env whole=(do let v <-whole; standAt a.pos; holding [v] (truthy v))):PT X a (λσ H Q=>ta σ H λx H'=>∃ k,qg4 X.K x H' k/\Q k H'):=by refine ⟨?_⟩;intro pins s σ H Q I h;exact isTrue_plain (thn (g pins s σ H _ I h) λv s1 ⟨x,H1,d,r1,q⟩=>qeQ pins s1 σ H1 x v Q d r1 q) (i _)
theorem YG:OpR X (binaryOp .Add) (λx y H Q=>∃ i j,x=.str i/\y=.str j/\i.length+j.length<=sizeLine/\Q (.str (i++j)) H):=by intro pins s σ H x y v u Q I d c h;obtain ⟨i,j,rfl,rfl,hz,q⟩:=h;obtain ⟨t,rfl⟩:=d;obtain ⟨t',rfl⟩:=c;exact add_str (λt' tk=>⟨.str (i++j),H,I.tok _,⟨_,rfl⟩,q⟩) hz
theorem yO {x:V} (r:Vals [x] us):∃ u,us=[u]/\RelV x u:=by
 cases r with
 | cons r1 r2=>cases r2; exact ⟨_,rfl,r1⟩
theorem XO {x:V} (r:Vals [x,y] us):∃ u w',us=[u,w']/\RelV x u/\RelV y w':=by
 cases r with
 | cons r1 r2=>
  cases r2 with
  | cons r3 r4=>cases r4; exact ⟨_,_,rfl,r1,r3⟩
theorem XQ (d:X.calm=iO):uo X (.builtin "max") (λxs H Q=>∃ i j,xs=[.int i,.int j]/\Q (.int (if j > i then j else i)) H):=by
 intro pins s σ H xs us Q I r h;obtain ⟨i,j,rfl,q⟩:=h;obtain ⟨u,w',rfl,⟨t,rfl⟩,⟨t',rfl⟩⟩:=XO r;refine max_two_ints (I.ok.hd d) λh' tk k=>⟨_,H,I.kept k,?_,q⟩
 by_cases D:j > i;·rw [if_pos D,if_pos D]; exact ⟨_,rfl⟩
 ·rw [if_neg D,if_neg D]; exact ⟨_,rfl⟩
theorem XR (d:X.calm=iO):uo X (.builtin "min") (λxs H Q=>∃ i j,xs=[.int i,.int j]/\Q (.int (if j < i then j else i)) H):=by
 intro pins s σ H xs us Q I r h;obtain ⟨i,j,rfl,q⟩:=h;obtain ⟨u,w',rfl,⟨t,rfl⟩,⟨t',rfl⟩⟩:=XO r;refine min_two_ints (I.ok.hd d) λh' tk k=>⟨_,H,I.kept k,?_,q⟩
 by_cases D:j < i;·rw [if_pos D,if_pos D]; exact ⟨_,rfl⟩
 ·rw [if_neg D,if_neg D]; exact ⟨_,rfl⟩
def qiJ (K:Frag) (x:V) (H:Hp) (n:Nat):Prop:=
 match x with
 | .str y=>y.length<=sizeLine/\n=y.length
 | .byt y=>y.size<=sizeLine/\n=y.size
 | .ref p=>(∃ xs,SqL K H p xs/\n=xs.length)\/∃ xs,SqT K H p xs/\n=xs.length
 | _=>False
theorem Jg:uo X (.builtin "len") (λxs H Q=>∃ x n,xs=[x]/\qiJ X.K x H n/\Q (.int n) H):=by
 intro pins s σ H xs us Q I r h;obtain ⟨x,n,rfl,e,q⟩:=h;obtain ⟨u,rfl,d⟩:=yO r;have hl:=Ku;have hs:sizeLine=16777216:=iT;cases x with
 | str y=>obtain ⟨t,rfl⟩:=d;obtain ⟨hy,b⟩:y.length<=sizeLine/\n=y.length:=e;subst b;exact len_str (by omega) ⟨.int _,H,I.tok _,⟨_,rfl⟩,q⟩
 | byt y=>obtain ⟨t,rfl⟩:=d;obtain ⟨hy,b⟩:y.size<=sizeLine/\n=y.size:=e;subst b;exact PySem.W.len_bytes (by omega) ⟨.int _,H,I.tok _,⟨_,rfl⟩,q⟩
 | ref p=>
  cases d;have b:(∃ xs,SqL X.K H p xs/\n=xs.length)\/∃ xs,SqT X.K H p xs/\n=xs.length:=e;rcases b with ⟨xs,hx,b⟩ | ⟨xs,hx,b⟩
  ·subst b;obtain ⟨its,r',pl,hz⟩:=I.list hx;have a:=r'.length;exact Calls.call_len_list pl.isList (by simp only [au]; omega) ⟨.int xs.length,H,I.tok _,⟨_,by simp only [au]; rw [a]⟩,q⟩
  ·subst b;obtain ⟨its,r',pl,hz⟩:=I.tuple hx;have a:=r'.length;exact len_tuple pl (by simp only [au]; omega) ⟨.int xs.length,H,I.tok _,⟨_,by simp only [au]; rw [a]⟩,q⟩
 | _=>exact (show False from e).elim
end
structure ObjM (h:Heap) (x dx C:Addr) (mA:Str->Option iM):Prop where
 obj:h.get? x=iJ (cA C dx)
 ns:h.Ns1 dx mA
 ne:dx≠x
variable {dx:Addr} {mA:Str->Option iM}
theorem XS (n:h.Ns1 dx mA):∃ od,h.get? dx=iJ od/\∀ name,fE name od=iJ (mA name):=by
 obtain ⟨o,es,ep,m,hd,d,_,c⟩:=n;refine ⟨o,m,λname=>?_⟩;have e:=c name;unfold nsFind findBy at e;rw [<-Array.find?_toList] at e;unfold fE;rw [hd];dsimp only;split;·rename_i y q;rw [q] at e;exact congrArg iJ e
 ·rename_i q;rw [q] at e;have a:es.toList.any (·.refKey)=false:=by rw [List.any_eq_false];intro y k;obtain ⟨z,t,b⟩:=d y (Array.mem_toList_iff.mp k);simp [DictEntry.refKey,b]
  have f:¬es.toList.any (·.refKey)=true:=by rw [a]; exact bG
  rw [if_neg f];exact congrArg iJ e
variable {C:Addr}
theorem ObjM.look {x:Addr} (I:ObjM h x dx C mA):∃ od,PySem.W.InstAt h x (cA C dx) C (iJ od)/\∀ name,fE name od=iJ (mA name):=
 let ⟨od,m,hl⟩:=XS I.ns
 ⟨od,⟨I.obj,rfl,rfl,m⟩,hl⟩
section
variable {prog:iR} {x f:Addr} {name:Str} {v:iM}
theorem qcJ {e:Bool} {Q:iM->iP->Prop} (X:K.In s.heap) (I:ObjM s.heap x dx C mA) (hg:c6 K C name=iO) (b:dE K C=iO)
  (g:aQ K (.ref C) name=iJ iL) (c:mA name=iJ v) (a:PySem.W.handedIn v=iO) (h:Q v { s with toks:=s.toks+1 }) :
  wpAny (model prog w) A (getAttr (.ref x) name e) Q E s:=by
 obtain ⟨od,J,hl⟩:=I.look;exact PySem.W.get_value X J (fA hg).1 (PySem.W.findObj_own b g rfl (by rw [hl,c])) a h
theorem qaB {pl:Sem Bool} {Q:iM×List iM->iP->Prop} (X:K.In s.heap) (I:ObjM s.heap x dx C mA) (hg:c6 K C name=iO)
  (a:aQ K (.ref C) name=iJ (iJ (.ref f))) (l:cT K (.ref f)=iO) (c:mA name=iL) (h:Q (.ref f,[.ref x]) s) :
  wpAny (model prog w) A (getMethod (.ref x) name pl) Q E s:=by
 obtain ⟨od,J,hl⟩:=I.look;exact PySem.W.method_fn X J (fA hg).1 (fA hg).2 a (beq_iff_eq.mp l) (by show (fE name od).map (·.isSome)=iJ iN; rw [hl,c]; rfl) h
theorem qcK {ns:List Str} {Q:Unit->iP->Prop} (X:K.In s.heap) (I:ObjM s.heap x dx C mA)
  (hs:aQ K (.ref C) "__setattr__"=iJ (iJ (.builtin "object.__setattr__"))) (hp:ei K C=iO) (l:g9 K C name=iJ iL) (i:dE K C=iO)
  (hw:iC mA ns) (hsz:ns.length<=sizeLine)
  (h:∀ h',ObjM h' x dx C (λy=>if y=name then iJ v else mA y)->bn dx s.heap h'->Q () { s with heap:=h',toks:=s.toks+2 }) :
  wpAny (model prog w) A (setAttr (.ref x) name v) Q E s:=by
 obtain ⟨od,J,hl⟩:=I.look;refine PySem.W.set_plain X J hs (PySem.W.osa_open (s:={ s with toks:=s.toks+1 }) (r:=iL) X J hp l λb=>?_);obtain ⟨cd,j,f⟩:=PySem.W.any_some i;have hx:s.heap.get? x=iJ ⟨.ref C,iJ dx,.plain,#[]⟩:=I.obj;refine iK (iQ (iK (iK (wpAny_loadPart hx (iK (PySem.W.Looks.here (s:={ s with toks:=s.toks+1 }) (PySem.W.looks_clsIn X j) ?_))))));rw [f];refine iQ (a:=iJ dx) (iK (iQ (iK ?_)));refine wpAny_nsSet1 (s:={ s with toks:=s.toks+1 }) I.ns λh' d c=>?_;obtain ⟨o,k,m,D,e,g⟩:=d.count (PySem.Within.cons name v hw);refine iK (wpAny_lookBehind D (by rw [e]; exact pastItsLine_dict (bE g (by rw [aq]; omega))) ?_);exact iQ (h _ ⟨(c.2 _ (aZ I.ne)).trans I.obj,d,I.ne⟩ c)
theorem qaC {R:lS->iP->Prop} {vs:List iM} {kw:List (Str×iM)} (X:K.In s.heap) (c:hJ K C=iO)
  (hi:aQ K (.ref C) "__init__"=iJ (iJ (.ref f))) (a:PySem.W.typeIn K (.ref f)=iJ (.type "function"))
  (h:codeAny (model prog w) (A.under (.builtin "type.__call__" ⟨.ref C::vs,kw⟩)) (.call (.ref f) ⟨.ref (s.heap.objs.size+1)::vs,kw⟩) (PySem.W.InitBack (s.heap.objs.size+1) R)
   { s with heap:=(s.heap.push bM).push (cA C s.heap.objs.size) }) :
  codeAny (model prog w) A (.call (.ref C) ⟨vs,kw⟩) R s:=by
 obtain ⟨b,g,d,t,os⟩:=s;exact PySem.W.make_core (PySem.W.makes_of X c) (PySem.W.looks_findIn X hi) (λself=>PySem.W.bind_fn X self a) (.inl rfl) h
end
noncomputable def Jh (f:Str) (v:V):List (Str×V)->List (Str×V)
 | []=>[(f,v)]
 | (g,x)::r=>if g=f then (g,v)::r else (g,x)::Jh f v r
theorem zV (f g:Str) (v:V):∀ fs:List (Str×V),(Jh f v fs).lookup g=if g=f then iJ v else fs.lookup g
 | []=>by
  show cx g [(f,v)]=_;by_cases h:g=f;·have d:(g == f)=true:=beq_iff_eq.mpr h;simp only [cx,d,if_pos h]
  ·have d:(g == f)=false:=beq_eq_false_iff_ne.mpr h;simp only [cx,d,if_neg h]
 | (k,x)::r=>by
  have j:=zV f g v r;rw [show Jh f v ((k,x)::r)=(if k=f then (k,v)::r else (k,x)::Jh f v r) from rfl];by_cases a:k=f
  ·rw [if_pos a];by_cases h:g=k;·have d:(g == k)=true:=beq_iff_eq.mpr h;simp only [cx,d,if_pos (h.trans a)]
   ·have d:(g == k)=false:=beq_eq_false_iff_ne.mpr h;simp only [cx,d,if_neg (λe:g=f=>h (e.trans a.symm))]
  ·rw [if_neg a];by_cases h:g=k;·have d:(g == k)=true:=beq_iff_eq.mpr h;simp only [cx,d,if_neg (λe:g=f=>a (h.symm.trans e))]
   ·have d:(g == k)=false:=beq_eq_false_iff_ne.mpr h;simp only [cx,d];exact j
theorem zW (f:Str) (v:V):∀ fs:List (Str×V),f∈(Jh f v fs).map (·.1)/\∀ g,g∈fs.map (·.1)->g∈(Jh f v fs).map (·.1)
 | []=>⟨by simp [Jh],λg h=>by simp at h⟩
 | (k,x)::r=>by
  obtain ⟨i1,i2⟩:=zW f v r;rw [show Jh f v ((k,x)::r)=(if k=f then (k,v)::r else (k,x)::Jh f v r) from rfl];by_cases a:k=f;·rw [if_pos a];subst a;exact ⟨by simp,λg h=>by simpa using h⟩
  ·rw [if_neg a];refine ⟨?_,λg h=>?_⟩;·rw [aL];exact af _ i1
   ·rw [aL] at h ⊢;rcases ac.mp h with e | e;·exact ac.mpr (.inl e)
    ·exact af _ (i2 g e)
theorem zX (f:Str) (v:V):∀ fs:List (Str×V),(Jh f v fs).length<=fs.length+1
 | []=>by simp [Jh]
 | (k,x)::r=>by
  have j:=zX f v r;rw [show Jh f v ((k,x)::r)=(if k=f then (k,v)::r else (k,x)::Jh f v r) from rfl];by_cases h:k=f;·rw [if_pos h,aq,aq]; omega
  ·rw [if_neg h,aq,aq]; omega
theorem RelO.some_of {o:Option iM} (r:RelO (iJ v) o):∃ u,o=iJ u/\RelV v u:=by
 cases o with
 | none=>exact (show False from r).elim
 | some u=>exact ⟨u,rfl,r⟩
theorem RelO.none_of {o:Option iM} (r:RelO iL o):o=none:=by
 cases o with
 | none=>rfl
 | some u=>exact (show False from r).elim
theorem XT (r:RelV v u):PySem.W.handedIn u=true:=by
 cases v with
 | non=>cases (show u=bA from r); rfl
 | bl b=>cases (show u=bb b from r); rfl
 | int i=>obtain ⟨t,e⟩:=(show ∃ t,u=fj i t from r); cases e; rfl
 | str x=>obtain ⟨t,e⟩:=(show ∃ t,u=dw x t from r); cases e; rfl
 | byt b=>obtain ⟨t,e⟩:=(show ∃ t,u=Value.bytes b t from r); cases e; rfl
 | flt b=>obtain ⟨t,e⟩:=(show ∃ t,u=Value.float b t from r); cases e; rfl
 | ref a=>cases (show u=aM a from r); rfl
 | ty n=>cases (show u=df n from r); rfl
section
variable {fs fs':List (Str×V)}
theorem VT (hok:HOk P w H h) (e:H a=iJ (.ins C dx fs)):∃ mA,ObjM h a dx C mA/\(∀ f,RelO (fs.lookup f) (mA f))/\iC mA (fs.map (·.1))/\fs.length<=1000/\H dx=iJ (.own a):=by
 obtain ⟨d,z,ne,b,mA,n,r,q⟩:=(show ObjOk P w H h a (.ins C dx fs) from hok a _ e)
 exact ⟨mA,⟨b,n,ne⟩,r,q,z,d⟩
end
structure Cls (K:Frag) (C:Addr):Prop where
 pg:c6 K C Str.empty=iO
 hd:dE K C=iO
 po:ei K C=iO
 sa:aQ K (.ref C) "__setattr__"=iJ (iJ (.builtin "object.__setattr__"))
theorem Cls.get (c:Cls K C) (f:Str):c6 K C f=true:=c.pg
def NoAttr (K:Frag) (C:Addr) (f:Str):Prop:=aQ K (.ref C) f=iJ iL
variable {f:Str}
theorem NoAttr.taker (n:NoAttr K C f):g9 K C f=iJ none:=by unfold g9;rw [show aQ K (.ref C) f=iJ iL from n];rfl
structure Meth (K:Frag) (C:Addr) (m:Str) (f:Addr):Prop where
 at_:aQ K (.ref C) m=iJ (iJ (.ref f))
 fn:cT K (.ref f)=iO
 kp:keepIn K (.ref f)=iO
variable {m:Str}
section
variable {fs:List (Str×V)}
theorem YH {b:Bool} {Q:iM->iP->Prop} (I:Inv X pins σ H s) (e:H a=iJ (.ins C dx fs)) (c:Cls X.K C) (n:NoAttr X.K C f) (l:fs.lookup f=iJ v)
  (h:∀ u s',Inv X pins σ H s'->RelV v u->Q u s'):wpAny (model X.prog X.w) A (getAttr (.ref a) f b) Q E s:=by
 obtain ⟨mA,O,r,_,_,_⟩:=VT I.hok e;obtain ⟨u,g,d⟩:=RelO.some_of (v:=v) (o:=mA f) (by rw [<-l]; exact r f);exact qcJ I.kIn O (c.get f) c.hd n g (XT d) (h u _ (I.tok _) d)
theorem QJ {g:Addr} {pl:Sem Bool} {Q:iM×List iM->iP->Prop} (I:Inv X pins σ H s) (e:H a=iJ (.ins C dx fs)) (c:Cls X.K C) (k:Meth X.K C m g) (l:fs.lookup m=iL)
  (h:Q (.ref g,[.ref a]) s):wpAny (model X.prog X.w) A (getMethod (.ref a) m pl) Q E s:=by
 obtain ⟨mA,O,r,_,_,_⟩:=VT I.hok e;have n:mA m=none:=RelO.none_of (by rw [<-l]; exact r m);exact qaB I.kIn O (c.get m) k.at_ k.fn n h
theorem YI {Q:Unit->iP->Prop} (I:Inv X pins σ H s) (e:H a=iJ (.ins C dx fs)) (c:Cls X.K C) (n:NoAttr X.K C f) (hl:fs.length < 1000) (j:RelV y u)
  (h:∀ s',Inv X pins σ (upd H a (.ins C dx (Jh f y fs))) s'->Q () s'):wpAny (model X.prog X.w) A (setAttr (.ref a) f u) Q E s:=by
 obtain ⟨mA,O,r,wi,_,m⟩:=VT I.hok e;have hz:(fs.map (·.1)).length<=sizeLine:=by rw [am,iT]; omega
 refine qcK I.kIn O c.sa c.po n.taker c.hd wi hz λh' d i=>h _ ?_;have hd:∃ o,h'.get? dx=iJ o:=let ⟨o,_,_,l,_⟩:=d.ns; ⟨o,l⟩
 refine I.write (x:=a) (e:=dx) (by rw [e]; exact dg) (.inr m) (λb q k z=>(i.2 b k).trans z) hd ?_;refine ⟨by rw [qw O.ne]; exact m,?_,O.ne,d.obj,_,d.ns,λg=>?_,λg hg=>?_⟩;·have:=zX f y fs; omega
 ·show RelO ((Jh f y fs).lookup g) (if g=f then iJ u else mA g);rw [zV];by_cases q:g=f;·rw [if_pos q,if_pos q]; exact j
  ·rw [if_neg q,if_neg q]; exact r g
 ·by_cases q:g=f;·rw [q]; exact (zW f y fs).1
  ·refine (zW f y fs).2 g (wi g λz=>hg ?_);show (if g=f then iJ u else mA g)=iL;rw [if_neg q]; exact z
theorem Inv.made (I:Inv X pins σ H s):Inv X pins σ (upd (upd H s.heap.objs.size (.own (s.heap.objs.size+1))) (s.heap.objs.size+1) (.ins C s.heap.objs.size []))
  { s with heap:=(s.heap.push bM).push (cA C s.heap.objs.size) }:=by
 have e1:(s.heap.push bM).get? s.heap.objs.size=iJ bM:=ah s.heap rfl;have c:((s.heap.push bM).push (cA C s.heap.objs.size)).get? (s.heap.objs.size+1)=iJ (cA C s.heap.objs.size):=by have:=ah (s.heap.push bM) (o:=cA C s.heap.objs.size) rfl;rwa [br] at this
 have E:(s.heap.push bM).Ns s.heap.objs.size (λ_=>iL):=⟨bM,#[],_,e1,rfl,(λe i=>absurd i (by simp)),λ_=>rfl⟩
 have d:=I.laid (a:=s.heap.objs.size) (o:=.own (s.heap.objs.size+1)) (h':=s.heap.push bM) (t':=s.toks) (λb u q=>aa _ q) (ax _) ⟨_,e1⟩;refine d.laid (a:=s.heap.objs.size+1) (o:=.ins C s.heap.objs.size []) (t':=s.toks) (λb u q=>aa _ q) (fB (br _ _)) ?_;have ne:s.heap.objs.size≠s.heap.objs.size+1:=aG (fk _);refine ⟨by rw [qw ne,qo],bu _,ne,c,λ_=>iL,(Heap.Ns1.of_empty E).at λo q=>aa _ q,λ_=>dg,λy k=>absurd rfl k⟩
theorem qcL {prog:iR} {w:iS} {env:Env} {f:Str} {pos:Pos} {s:iP} {Q:iM->iP->Prop} (b:attributeBase e f env (eval e env)=eval e env)
  (h:wpAny (model prog w) A (eval e env) (λo d=>wpAny (model prog w) A (getAttr o f iO) Q E d) E s):wpAny (model prog w) A (eval (.Attribute e f pos) env) Q E s:=
 Attribute_any_ h (by rw [arm_eval_Attribute,b])
end
def qiK (K:Frag) (ta:TE) (f:Str):TE:=λσ H Q=>ta σ H λx H1=>∃ a C dx fs v,x=.ref a/\H1 a=iJ (.ins C dx fs)/\Cls K C/\NoAttr K C f/\fs.lookup f=iJ v/\Q v H1
def qiL (K:Frag) (ta tv:TE) (f:Str):TS:=λD σ H=>tv σ H λy H1=>ta σ H1 λx H2=>∃ a C dx fs,x=.ref a/\H2 a=iJ (.ins C dx fs)/\Cls K C/\NoAttr K C f/\fs.length < 1000 /\
 D.nx σ (upd H2 a (.ins C dx (Jh f y fs)))
section
variable {o value:Expr} {tpos:Pos} {tv:TE}
theorem qeR (i:PE X e ta) (b:attributeBase e f X.env (eval e X.env)=eval e X.env):PE X (.Attribute e f pos) (qiK X.K ta f):=by refine ⟨?_⟩;intro pins s σ H Q I h;refine qcL b (thn (i pins s σ H _ I h) λu s1 ⟨x,H1,k,d,a,C,dx,fs,v,ex,g,c,n,l,q⟩=>?_);subst ex;obtain rfl:u=aM a:=d;exact YH k g c n l λU s2 j A=>⟨v,H1,j,A,q⟩
theorem qeS (g:PE X o ta) (b:PE X value tv) (hs:swapsWith value (iJ (.Attribute o f pos')) pos.line X.env=pure iN):PS X (.Assign [.Attribute o f pos'] value pos) (qiL X.K ta tv f):=by refine ⟨?_⟩;intro pins s σ H D I h;refine plainObj_wpAny_Assign_Attribute (thn (b pins s σ H _ I h) λu s1 ⟨y,H1,k,r,q⟩=>thn (g pins s1 σ H1 _ k q) λv s2 ⟨x,H2,j,d,a,C,dx,fs,ex,i,c,n,l,e⟩=>?_) hs;subst ex;obtain rfl:v=aM a:=d;exact YI j i c n l r λs3 E=>⟨σ,_,E,e⟩
end
structure Room (k:Nat) (A:iV):Prop where
 hd:A.handled=iL
 dp:A.depth+3 * k+5 < recursionLimit
 un:A.units+16 * k+200 < cLine
theorem Room.mono {k:Nat} (r:Room k A) (h:j<=k):Room j A:=⟨r.hd,by have:=r.dp; omega,by have:=r.un; omega⟩
theorem Room.deeper {k:Nat} (r:Room (k+1) A) (env:Env):Room k (A.deeper env):=
 ⟨r.hd,by have:=r.dp; show A.depth+1+3 * k+5 < _; omega,by have:=r.un; show A.units+3+16 * k+200 < _; omega⟩
theorem Room.in1 {k:Nat} (r:Room (k+1) A):Room k A.in1:=
 ⟨r.hd,by have:=r.dp; show A.depth+3 * k+5 < _; omega,by have:=r.un; show A.units+1+16 * k+200 < _; omega⟩
variable {kw:List (Str×iM)}
theorem YJ:(A.under (.builtin "type.__call__" ⟨.ref C::us,kw⟩)).depth=A.depth+1:=by first | rfl | simp [iD,Code.weight,Code.isCreation,Code.isGuard,Code.isCaller,Code.frames,iE,guardIds]
theorem YK:(A.under (.builtin "type.__call__" ⟨.ref C::us,kw⟩)).units=A.units+1:=by first | rfl | simp [iD,Code.cUnits,Code.frames,iE]
theorem Room.make {k:Nat} (r:Room (k+1) A) (C:Addr) (us:List iM) (kw:List (Str×iM)):Room k (A.under (.builtin "type.__call__" ⟨.ref C::us,kw⟩)):=
 ⟨r.hd,by have:=r.dp; rw [YJ]; omega,by have:=r.un; rw [YK]; omega⟩
theorem Room.depth {k:Nat} (r:Room k A):A.depth < recursionLimit:=by have:=r.dp; omega
theorem Room.units {k:Nat} (r:Room k A):A.units+64 < cLine:=by have:=r.un; omega
def qeT:TA:=λ_ H Q=>Q [] H
def YL (ta:TE) (tr:TA):TA:=λσ H Q=>ta σ H λx H1=>tr σ H1 λxs H2=>Q (x::xs) H2
section
variable {t:TA}
theorem jI:PA X [] qeT:=⟨λ_ _ _ _ H Q I h=>fK ⟨[],H,I,.nil,h⟩⟩
theorem qK (g:PE X e te) (c:PA X es t) (hs:starEach (e::es) X.env=(iN,eval e X.env)::starEach es X.env:=by rfl):PA X (e::es) (YL te t):=by refine ⟨?_⟩;intro pos pins s σ H Q I h;rw [hs];show wpAny _ _ (spliced ((iN,eval e X.env)::backTo pos (starEach es X.env))) _ _ s;refine fF (thn (g pins s σ H _ I h) λu s1 ⟨x,H1,d,r1,a⟩=>?_);exact thn (c pos pins s1 σ H1 _ d a) λus s2 ⟨xs,H2,b,r2,q⟩=>⟨x::xs,H2,b,.cons r1 r2,q⟩
def qiM (t:TA):TE:=λσ H Q=>t σ H λxs H1=>xs.length<=sizeLine/\∀ p,H1 p=iL->Q (.ref p) (upd H1 p (.tup xs))
def qiN (t:TA):TE:=λσ H Q=>t σ H λxs H1=>xs.length<=sizeLine/\∀ p,H1 p=iL->Q (.ref p) (upd H1 p (.lst xs))
theorem qeU {x1} (h:PA X es t):PE X (.Tuple es x1 pos) (qiM t):=by refine ⟨?_⟩;intro pins s σ H Q I hq;refine wpAny_Tuple_spliced (thn (h pos pins s σ H _ I hq) λus s1 ⟨xs,H1,d,r,z,q⟩=>⟨by rw [<-r.length]; exact z,?_⟩);have f:H1 s1.heap.objs.size=none:=d.hok.fresh (ax _);refine ⟨.ref s1.heap.objs.size,upd H1 s1.heap.objs.size (.tup xs),d.laid (t':=s1.toks) (λb u e=>aa _ e) (ax _) ?_,rfl,q _ f⟩;exact ⟨⟨z,_,ah _ rfl,rfl⟩,us,r,⟨_,ah _ rfl,rfl,_,rfl⟩⟩
theorem qeV (h:PA X es t):PE X (.List es pos) (qiN t):=by refine ⟨?_⟩;intro pins s σ H Q I hq;refine wpAny_List_spliced (thn (h pos pins s σ H _ I hq) λus s1 ⟨xs,H1,d,r,z,q⟩=>⟨by rw [<-r.length]; exact z,?_⟩);have f:H1 s1.heap.objs.size=none:=d.hok.fresh (ax _);refine ⟨.ref s1.heap.objs.size,upd H1 s1.heap.objs.size (.lst xs),d.laid (t':=s1.toks) (λb u e=>aa _ e) (ax _) ?_,rfl,q _ f⟩;exact ⟨z,us,0,r,ah _ rfl⟩
end
abbrev Sp:=List V->Hp->VK->XK->Prop
abbrev CXT:=List Env->Hp->iP->XK->iM->iP->Prop
structure Env0 (P:iR) (w:iS) (K:Frag) (mg:Str->Option iM) (base:Heap) (A:iV) (outer:List Env) (s:iP) (H:Hp):Prop where
 frames:A.frames=iJ outer
 mod:Mod K mg base
 bs:∀ b o,base.get? b=iJ o->s.heap.get? b=iJ o/\H b=iL
 bsz:base.objs.size<=s.heap.objs.size
 funs:s.heap.FunFrames base outer
 frf:∀ b∈frs outer,H b=iL
 hok:HOk P w H s.heap
 bare:lJ s.gens
def CE (outer:List Env) (P:iR) (w:iS) (H:Hp) (s:iP) (Q:VK) (u:iM) (s':iP):Prop:=
 ∃ v H',s'.os=s.os/\lJ s'.gens/\Un (frs outer) [] H H' s.heap s'.heap/\HOk P w H' s'.heap/\RelV v u/\Q v H'
def CR (CX:CXT) (outer:List Env) (P:iR) (w:iS) (H:Hp) (s:iP) (Q:VK) (E:XK) (r:lS) (s':iP):Prop:=
 match r with
 | .ok (.ret u)=>CE outer P w H s Q u s'
 | .ok _=>False
 | .error e=>CX outer H s E e s'
structure FnOk (P:iR) (w:iS) (K:Frag) (mg:Str->Option iM) (base:Heap) (CX:CXT) (k:Nat) (f:Addr) (fd:lm) (ps:List Str) (sp:Sp):Prop where
 len:∀ vs H Q E,sp vs H Q E->vs.length=ps.length
 run:∀ (A:iV) (outer:List Env) (s:iP) (H:Hp) (args:Args) (us:List iM) (vs:List V) (Q:VK) (E:XK),Room k A->Env0 P w K mg base A outer s H->lW s fd args (ps.zip us)->Vals vs us->sp vs H Q E ->codeAny (model P w) A (.call (.ref f) args) (CR CX outer P w H s Q E) s
variable {mg:Str->Option iM} {base:Heap} {CX:CXT} {fd:lm} {ps:List Str} {sp:Sp}
theorem FnOk.imp {k:Nat} {f:Addr} {a:Sp} (F:FnOk P w K mg base CX k f fd ps sp)
  (h:∀ vs H Q E,a vs H Q E->sp vs H Q E):FnOk P w K mg base CX k f fd ps a:=
 ⟨λvs H Q E q=>F.len vs H Q E (h _ _ _ _ q),λA outer s H args us vs Q E r i d c hs=>F.run A outer s H args us vs Q E r i d c (h _ _ _ _ hs)⟩
variable {outer:List Env}
theorem Env0.make (e:Env0 P w K mg base A outer s H) (C:Addr) (us:List iM) (kw:List (Str×iM)):Env0 P w K mg base (A.under (.builtin "type.__call__" ⟨.ref C::us,kw⟩)) outer s H:=⟨by first | exact e.frames | (simpa [iD,Code.envs,iE,pushEnvs] using e.frames),e.mod,e.bs,e.bsz,e.funs,e.frf,e.hok,e.bare⟩
theorem Env0.in1 (e:Env0 P w K mg base A outer s H):Env0 P w K mg base A.in1 outer s H:=⟨e.frames,e.mod,e.bs,e.bsz,e.funs,e.frf,e.hok,e.bare⟩
section
theorem Inv.env0 (I:Inv X pins σ H s):Env0 X.prog X.w X.K X.mg X.base X.A X.stack s H:=
 ⟨I.ok.frames,I.ok.mod,I.bs,bE I.ok.bsz I.sz,I.stack,I.stkFree,I.hok,I.bare⟩
theorem Inv.after {Q:VK} (I:Inv X pins σ H s) (h:CE X.stack X.prog X.w H s Q u s'):EP X pins σ Q u s':=by obtain ⟨v,H',os,bare,un,hok,r,q⟩:=h;obtain ⟨a,g,d,t,o⟩:=s';obtain rfl:o=s.os:=os;exact ⟨v,H',I.call (h':=a) (g':=g) (d':=d) (t':=t) (ch:=[]) un hok bare (λb z=>absurd z (by simp)),r,q⟩
end
def qg5 (sp:Sp) (dvs:List V) (E:XK) (t:TA):TE:=λσ H Q=>t σ H λvs H1=>sp (vs++dvs) H1 Q E
def qeW (C:Addr) (m:Str) (sp:Sp) (dvs:List V) (E:XK) (ta:TE) (t:TA):TE:=λσ H Q=>ta σ H λx H1=>∃ a dx fs,x=.ref a/\H1 a=iJ (.ins C dx fs)/\fs.lookup m=iL /\
 t σ H1 λvs H2=>sp (x::(vs++dvs)) H2 Q E
def qg6 (C:Addr) (sp:Sp) (dvs:List V) (E:XK) (t:TA):TE:=λσ H Q=>t σ H λvs H1=>∀ x dx,H1 x=iL->H1 dx=iL->dx≠x ->sp (.ref x::(vs++dvs)) (upd (upd H1 dx (.own x)) x (.ins C dx [])) (λv H2=>v=.non/\Q (.ref x) H2) E
def Binds (K:Frag) (fd:lm) (ps:List Str) (ds:List iM):Prop:=
 ∀ (s:iP) (us:List iM),K.In s.heap->(us++ds).length=ps.length->lW s fd ⟨us,[]⟩ (ps.zip (us++ds))
theorem Binds.all (h:∀ us:List iM,us.length=ps.length->bindArgs fd ⟨us,[]⟩=pure (ps.zip us)):Binds K fd ps []:=λs us _ hl=>by rw [bw] at hl ⊢;exact .of_eq (h us hl)
def kB (CX:CXT) (X:Cx) (E:XK):Prop:=∀ (pins:List (Addr×Obj)) (σ:St) (H:Hp) (s:iP) (e:iM) (s':iP),Inv X pins σ H s->CX X.stack H s E e s'->X.xe e s'
variable {apos:Pos}
section
variable {k:Nat} {f:Addr} {dvs:List V} {ds:List iM} {E:XK} {o:Expr} {t:TA}
theorem XU {pins:List (Addr×Obj)} {σ:St} {H:Hp} {s:iP} {Q:VK} {us:List iM} {vs:List V} (F:FnOk X.prog X.w X.K X.mg X.base CX k f fd ps sp) (c:Room k X.A) (d:Binds X.K fd ps ds) (hd:Vals dvs ds) (hx:kB CX X E)
  (I:Inv X pins σ H s) (r:Vals vs us) (h:sp (vs++dvs) H Q E):wpAny (model X.prog X.w) X.A (call (.ref f) us) (EP X pins σ Q) X.xe s:=by
 have r2:Vals (vs++dvs) (us++ds):=r.append hd;have hl:(us++ds).length=ps.length:=by rw [<-r2.length]; exact F.len _ _ _ _ h
 refine lY (lx (F.run X.A X.stack s H ⟨us,[]⟩ (us++ds) (vs++dvs) Q E c I.env0 (d s us I.kIn hl) r2 h) λr s' hq=>?_);cases r with
 | error e=>exact hx pins σ H s e s' I hq
 | ok l=>
  cases l with
  | ret u=>exact I.after hq
  | next=>exact bL hq
  | brk=>exact bL hq
  | cont=>exact bL hq
theorem qcM (F:FnOk X.prog X.w X.K X.mg X.base CX k f fd ps sp) (c:Room k X.A) (hg:Gl X x) (m:X.mg x=iJ (.ref f)) (a:keepIn X.K (.ref f)=iO) (g:Binds X.K fd ps ds) (hd:Vals dvs ds) (hx:kB CX X E)
  (j:PA X (e::es) t) (b:(x == ("__debug__":Str))=false:=by decide) (i:starEach (e::es) X.env=(iN,eval e X.env)::starEach es X.env:=by rfl) (l:(backTo pos (starEach es X.env)).any (·.1)=false:=by rfl) :
  PE X (.Call (.Name x p) (e::es) [] pos) (qg5 sp dvs E t):=by
 refine ⟨?_⟩;intro pins s σ H Q I h;refine i9 (xC I hg m ?_ b);refine d5 (h₀:=X.base) I.ok.mod.kin a (thn (j pos pins s σ H _ I h) λus s1 ⟨vs,H1,d,r,q⟩=>⟨d.kIn,?_⟩) i l;exact XU F c g hd hx d r q
theorem qcN {pl:Sem Bool} (z:PE X o ta) (c:Cls X.K C) (g:Meth X.K C m f) (F:FnOk X.prog X.w X.K X.mg X.base CX k f fd ps sp) (y:Room k X.A) (B:Binds X.K fd ps ds) (hd:Vals dvs ds) (hx:kB CX X E) (D:PA X (e::es) t)
  (b:starEach (e::es) X.env=(iN,eval e X.env)::starEach es X.env:=by rfl) (d:(backTo pos (starEach es X.env)).any (·.1)=false:=by rfl)
  (v:eval (.Call (.Attribute o m apos) (e::es) [] pos) X.env=(do
   let ov <-eval o X.env
   standAt apos.atName
   let (f,first) <-holding [ov] (getMethod ov m pl)
   callWith pos f first (backTo pos (starEach (e::es) X.env)) (backToKw pos (keywordEach [] X.env))):=by rfl) :
  PE X (.Call (.Attribute o m apos) (e::es) [] pos) (qeW C m sp dvs E ta t):=by
 refine ⟨?_⟩;intro pins s σ H Q I h;refine PySem.W.methodCall_KW (pl:=pl) (thn (z pins s σ H _ I h) λu s1 ⟨x,H1,j,n,a,dx,fs,ex,G,l,q⟩=>?_) v;subst ex;obtain rfl:u=aM a:=n;refine QJ j G c g l ?_;refine d5 (first:=[.ref a]) (h₀:=X.base) I.ok.mod.kin g.kp (thn (D pos pins s1 σ H1 _ j q) λus s2 ⟨vs,H2,i,r,p⟩=>⟨i.kIn,?_⟩) b d;exact XU (us:=.ref a::us) (vs:=.ref a::vs) F y B hd hx i (.cons rfl r) p
theorem qaD {pl:Sem Bool} (i:PE X o ta) (c:Cls X.K C) (b:Meth X.K C m f) (F:FnOk X.prog X.w X.K X.mg X.base CX k f fd ps sp) (e:Room k X.A) (g:Binds X.K fd ps ds) (hd:Vals dvs ds) (hx:kB CX X E)
  (t:eval (.Call (.Attribute o m apos) [] [] pos) X.env=(do
   let ov <-eval o X.env
   standAt apos.atName
   let (f,first) <-holding [ov] (getMethod ov m pl)
   callWith pos f first (backTo pos (starEach [] X.env)) (backToKw pos (keywordEach [] X.env))):=by rfl) :
  PE X (.Call (.Attribute o m apos) [] [] pos) (qeW C m sp dvs E ta qeT):=by
 refine ⟨?_⟩;intro pins s σ H Q I h;refine PySem.W.methodCall_KW (pl:=pl) (thn (i pins s σ H _ I h) λu s1 ⟨x,H1,d,r,a,dx,fs,ex,j,l,q⟩=>?_) t;subst ex;obtain rfl:u=aM a:=r;refine QJ d j c b l ?_;exact PySem.W.callWith_K0 (first:=[.ref a]) d.kIn b.kp (XU (us:=[.ref a]) (vs:=[.ref a]) F e g hd hx d (.cons rfl .nil) q)
structure Mk (K:Frag) (C f:Addr):Prop where
 makes:hJ K C=iO
 init:aQ K (.ref C) "__init__"=iJ (iJ (.ref f))
 fn:cT K (.ref f)=iO
 kp:keepIn K (.ref C)=iO
theorem qaE {pins:List (Addr×Obj)} {σ:St} {H:Hp} {s:iP} {Q:VK} {us:List iM} {vs:List V} (M:Mk X.K C f) (F:FnOk X.prog X.w X.K X.mg X.base CX k f fd ps sp) (b:Room (k+1) X.A) (g:Binds X.K fd ps ds) (hd:Vals dvs ds)
  (hx:kB CX X E) (I:Inv X pins σ H s) (r:Vals vs us)
  (h:∀ x dx,H x=iL->H dx=iL->dx≠x->sp (.ref x::(vs++dvs)) (upd (upd H dx (.own x)) x (.ins C dx [])) (λv H2=>v=.non/\Q (.ref x) H2) E) :
  wpAny (model X.prog X.w) X.A (call (.ref C) us) (EP X pins σ Q) X.xe s:=by
 have hq:=h (s.heap.objs.size+1) s.heap.objs.size (I.hok.fresh (ib _)) (I.hok.fresh (ax _)) (aG (fk _));have c:=Inv.made (C:=C) I;have r2:Vals (V.ref (s.heap.objs.size+1)::(vs++dvs)) (aM (s.heap.objs.size+1)::(us++ds)):=.cons rfl (r.append hd);have hl:(aM (s.heap.objs.size+1)::us++ds).length=ps.length:=by have e:=r2.length;rw [F.len _ _ _ _ hq] at e;exact e.symm
 refine lY (qaC (f:=f) I.kIn M.makes M.init (beq_iff_eq.mp M.fn) (lx (F.run _ X.stack _ _ ⟨aM (s.heap.objs.size+1)::us,[]⟩ (aM (s.heap.objs.size+1)::(us++ds)) _ _ E (b.make C us [])
  (c.env0.make C us []) (g _ (aM (s.heap.objs.size+1)::us) c.kIn hl) r2 hq) λr s' a=>?_))
 cases r with
 | error e=>exact hx pins σ _ _ e s' c a
 | ok l=>
  cases l with
  | ret u=>obtain ⟨v,H',i,d,ev,q⟩:=c.after a;subst ev;exact ⟨d,⟨V.ref (s.heap.objs.size+1),H',i,rfl,q⟩⟩
  | next=>exact bL a
  | brk=>exact bL a
  | cont=>exact bL a
theorem qcO (M:Mk X.K C f) (F:FnOk X.prog X.w X.K X.mg X.base CX k f fd ps sp) (c:Room (k+1) X.A) (hg:Gl X x) (m:X.mg x=iJ (.ref C)) (a:Binds X.K fd ps ds) (hd:Vals dvs ds) (hx:kB CX X E)
  (g:PA X (e::es) t) (b:(x == ("__debug__":Str))=false:=by decide) (i:starEach (e::es) X.env=(iN,eval e X.env)::starEach es X.env:=by rfl) (l:(backTo pos (starEach es X.env)).any (·.1)=false:=by rfl) :
  PE X (.Call (.Name x p) (e::es) [] pos) (qg6 C sp dvs E t):=by
 refine ⟨?_⟩;intro pins s σ H Q I h;refine i9 (xC I hg m ?_ b);refine d5 (h₀:=X.base) I.ok.mod.kin M.kp (thn (g pos pins s σ H _ I h) λus s1 ⟨vs,H1,d,r,q⟩=>⟨d.kIn,?_⟩) i l;exact qaE M F c a hd hx d r q
end
section
variable {k:Nat} {f:Addr} {ks:List Str} {E:XK} {kpos:Pos} {o:Expr} {kws:List k6} {t tk:TA} {nm:Option Str}
variable {g:List iM->List iM->List iM} {gV:List V->List V->List V}
end
structure FnScope (N P:List Str) (sc:lB):Prop where
 kind:sc.kind=.function
 co:sc.isCoroutine=iN
 gen:sc.isGenerator=iN
 nd:N.Nodup
 pre:N.take P.length=P
 par:∀ x∈P,sc.names.lookup x=iJ .local\/sc.names.lookup x=iJ .cell
 nofree:∀ y∈sc.names,y.2≠.free
variable {kindOf:Str->Option lu}
theorem Kv:∀ {binds:List (Str×iM)} {m:Str->Option iM},(∀ v,(x,v)∉binds)->bindL kindOf binds m x=m x
 | [],_,_=>rfl
 | (n,v)::r,m,h=>by
  unfold bindL;rw [Kv λw hw=>h w (af _ hw)];split
  ·have:x≠n:=by rintro rfl; exact h v aw
   simp [this]
  ·rfl
theorem Kw:∀ {binds:List (Str×iM)} {m:Str->Option iM},(∀ v,(x,v)∉binds)->bindC kindOf binds m x=m x
 | [],_,_=>rfl
 | (n,v)::r,m,h=>by
  unfold bindC;rw [Kw λw hw=>h w (af _ hw)];split;·rfl
  ·have:x≠n:=by rintro rfl; exact h v aw
   simp [this]
theorem zY {kindOf:Str->Option lu} {x:Str} {v:iM}:∀ {P:List Str} {vs:List iM} {i:Nat} {m:Str->Option iM},P.Nodup->P[i]?=iJ x->vs[i]?=iJ v->kindOf x=iJ .local ->bindL kindOf (P.zip vs) m x=iJ v
 | [],_,_,_,_,h,_,_=>by simp at h
 | _::_,[],_,_,_,_,h,_=>by simp at h
 | p::P,w::vs,0,m,nd,h1,h2,hk=>by simp at h1 h2; subst h1; subst h2;show bindL kindOf ((p,w)::P.zip vs) m p=_;unfold bindL;rw [Kv λv c=>(aU.mp nd).1 (cM c).1,if_pos hk];simp
 | p::P,w::vs,i+1,m,nd,h1,h2,hk=>by show bindL kindOf ((p,w)::P.zip vs) m x=_;unfold bindL;exact zY (i:=i) (aU.mp nd).2 (by simpa using h1) (by simpa using h2) hk
theorem zZ {kindOf:Str->Option lu} {x:Str} {v:iM}:∀ {P:List Str} {vs:List iM} {i:Nat} {m:Str->Option iM},P.Nodup->P[i]?=iJ x->vs[i]?=iJ v->kindOf x≠iJ .local ->bindC kindOf (P.zip vs) m x=iJ v
 | [],_,_,_,_,h,_,_=>by simp at h
 | _::_,[],_,_,_,_,h,_=>by simp at h
 | p::P,w::vs,0,m,nd,h1,h2,hk=>by simp at h1 h2; subst h1; subst h2;show bindC kindOf ((p,w)::P.zip vs) m p=_;unfold bindC;rw [Kw λv c=>(aU.mp nd).1 (cM c).1,if_neg hk];simp
 | p::P,w::vs,i+1,m,nd,h1,h2,hk=>by show bindC kindOf ((p,w)::P.zip vs) m x=_;unfold bindC;exact zZ (i:=i) (aU.mp nd).2 (by simpa using h1) (by simpa using h2) hk
noncomputable def vZ (N:List Str) (vs:List V):St:=vs.map iJ++bx (N.length - vs.length) iL
def qcP (CX:CXT) (P:iR) (w:iS) (K:Frag) (mg:Str->Option iM) (base:Heap) (N:List Str) (qual:Str) (scope:lB) (f:Addr) (cd:iM) (A:iV) (outer:List Env) (s:iP) (H:Hp) (E:XK):Cx where
 prog:=P
 w:=w
 K:=K
 mg:=mg
 base:=base
 A:=A.deeper (envOfC qual scope s.heap.objs.size f cd)
 N:=N
 s₀:=s
 H₀:=H
 env:=envOfC qual scope s.heap.objs.size f cd
 outer:=outer
 stack:=envOfC qual scope s.heap.objs.size f cd::outer
 ex:=[]
 calm:=iO
 fn:=λ_=>iO
 pn:=[]
 xe:=λe s'=>wpAny (model P w) (A.deeper (envOfC qual scope s.heap.objs.size f cd)) (leaving (envOfC qual scope s.heap.objs.size f cd) e) (λ_ a=>CX outer H s E e a) (λb a=>CX outer H s E b a) s'
theorem zG {sc:lB} {n:Nat} (h:sc.names.lookup x=iJ .cell):∃ c,(cellsFrom n sc.names []).lookup x=iJ c:=by have q:=ej sc.names n [] (.inl h);exact Option.isSome_iff_exists.mp q
theorem XV {CX:CXT} {P:iR} {w:iS} {K:Frag} {mg:Str->Option iM} {base:Heap} {N ps:List Str} {qual:Str} {scope:lB} {f:Addr} {cd:iM} {A:iV} {outer:List Env} {s s1:iP} {H:Hp} {E:XK} {us:List iM} {vs:List V}
  (S:FnScope N ps scope) (hd:A.handled=iL) (d:Env0 P w K mg base A outer s H) (hl:vs.length=ps.length) (r:Vals vs us)
  (x:InCallC s s.heap.objs.size (bindL (envOfC qual scope s.heap.objs.size f cd).kindOf (ps.zip us) λ_=>iL) (cellsFrom (s.heap.objs.size+1) scope.names []) (bindC (envOfC qual scope s.heap.objs.size f cd).kindOf (ps.zip us) λ_=>iL) s1) :
  Inv (qcP CX P w K mg base N qual scope f cd A outer s H E) [] (vZ N vs) H s1:=by
 have B:ps.length<=N.length:=by have:=congrArg iF S.pre; rw [bT] at this; omega
 obtain ⟨h1,tk,rfl,o⟩:=x.done;have g:∀ b:Addr,b∉(qcP CX P w K mg base N qual scope f cd A outer s H E).ex:=λb z=>absurd (show b∈([]:List Addr) from z) (by simp);refine ⟨⟨d.mod,S.kind,rfl,rfl,ax _,λy z c h1 h2=>?_,λy j=>?_,λy c _ h=>?_,λ_=>hd,Around.frames_deeper d.frames,.inr ⟨rfl,rfl⟩,λb z=>absurd z (g b),d.bs,d.bsz,λb _ _=>g b,λb z=>absurd z (g b),d.funs,d.frf⟩,rfl,d.bare,Un.kept o,⟨_,x.toInCall.ns,λi y v h1 h2 h3=>?_⟩,λy c h=>⟨_,x.cell y c h⟩,d.hok.fresh (ax _),λy c h=>?_,λp hp=>absurd (show p∈([]:List (Addr×Obj)) from hp) (by simp),d.hok.kept o,?_⟩;·exact name_of_addr x.apart (bp h1) (bp h2)
 ·have j:scope.names.lookup y=iJ .cell\/scope.names.lookup y=iJ .free:=j;rcases j with j | j;·exact zG j
  ·exact absurd rfl (S.nofree _ (bp j))
 ·exact cH (x.above y c (bp h))
 ·have hi:i < vs.length:=by
   unfold vZ at h2;by_cases hi:i < vs.length;·exact hi
   ·rw [bY (by simpa using hi)] at h2;rw [bU] at h2;split at h2 <;> cases h2
  have C:vs[i]?=iJ v:=by
   unfold vZ at h2;rw [ck (by simpa using hi),aK] at h2;cases e:vs[i]? with
   | none=>rw [e] at h2; cases h2
   | some a=>rw [e] at h2; cases h2; rfl
  obtain ⟨u,m,t⟩:=r.get C;have hp:ps[i]?=iJ y:=by rw [<-S.pre,List.getElem?_take_of_lt (by omega)]; exact h1
  have l:ps.Nodup:=by rw [<-S.pre]; exact S.nd.sublist (List.take_sublist _ _)
  refine ⟨u,t,?_⟩;rcases S.par y (cU hp) with k | k;·exact .inl ⟨k,zY l hp m k⟩
  ·obtain ⟨c,e⟩:=zG (n:=s.heap.objs.size+1) k;refine .inr ⟨.inl k,c,e,?_⟩;have q:=x.cell y c e;rw [zZ l hp m (by show scope.names.lookup y≠_; rw [k]; decide)] at q;exact q
 ·exact d.hok.fresh (cH (x.above y c (bp h)))
 ·unfold vZ;show _=N.length;rw [aj,am,dB];omega
theorem qg7 {CX:CXT} {P:iR} {w:iS} {K:Frag} {mg:Str->Option iM} {base:Heap} {k:Nat} {f:Addr} {name qual:Str} {params:Arguments} {body:List Stmt} {scope:lB} {j kV doc pm cdv ct oc:iM} {an od:Option Addr}
  {osl:Array (Option iM)} {N ps:List Str} {sp:Sp} (m:K.lookup f=iJ ⟨oc,od,.func (bR name qual params body scope j kV doc pm an cdv ct),osl⟩) (i:codeIn K cdv qual=iO) (S:FnScope N ps scope)
  (len:∀ vs H Q E,sp vs H Q E->vs.length=ps.length)
  (a:∀ (A:iV) (outer:List Env) (s:iP) (H:Hp) (vs:List V) (Q:VK) (E:XK),Room k (A.deeper (envOfC qual scope s.heap.objs.size f cdv))->sp vs H Q E ->∃ t,PSs (qcP CX P w K mg base N qual scope f cdv A outer s H E) body t/\t { nx:=λ_ H'=>Q .non H',rt:=Q } (vZ N vs) H) :
  FnOk P w K mg base CX (k+1) f (bR name qual params body scope j kV doc pm an cdv ct) ps sp:=by
 refine ⟨len,λA outer s H args us vs Q E g d D r p=>?_⟩;have hl:=len _ _ _ _ p;have X:K.In s.heap:=d.mod.kin.keeps λb o e=>(d.bs b o e).1;have l:s.heap.NoLimit:=d.mod.nolimit.keeps λb o e=>(d.bs b o e).1;have h:∀ y∈ps.zip us,scope.names.lookup y.1=iJ .local\/(scope.names.lookup y.1=iJ .cell/\((cellsFrom (s.heap.objs.size+1) scope.names []).lookup y.1).isSome=iO):=λ⟨n,v⟩ z=>by
  rcases S.par n (cM z).1 with q | q;·exact .inl q
  ·exact .inr ⟨q,ej _ _ _ (.inl q)⟩
 refine codeAny_call_function g.depth (X _ _ m) rfl S.co S.gen rfl (PySem.W.codeRec_of X i) (D _ _ _ _ ?_);refine wpAny_newFunctionEnv_cells S.kind h λenv C s1 x=>?_;subst C;refine ⟨l.keeps x.toInCall.keep,codeAny_func ?_⟩;obtain ⟨t,B,hq⟩:=a A outer s H vs Q E (g.deeper _) p;have I:Inv (qcP CX P w K mg base N qual scope f cdv A outer s H E) [] (vZ N vs) H s1:=XV S g.hd d hl r x;refine lg (B [] s1 (vZ N vs) H _ I hq) (λG s' hs=>?_) λe s' hs=>hs;have fin:∀ {σ':St} {H':Hp} {v:V} {u:iM},Inv (qcP CX P w K mg base N qual scope f cdv A outer s H E) [] σ' H' s'->RelV v u->Q v H'->CE outer P w H s Q u s':=
  λ{σ' H' v u} J c q=>⟨v,H',J.os,J.bare,J.base,J.hok,c,q⟩
 cases G with
 | ret u=>obtain ⟨v,σ',H',J,c,q⟩:=hs;exact fin J c q
 | next=>obtain ⟨σ',H',J,q⟩:=hs;exact fin (v:=V.non) (u:=bA) J rfl q
 | brk=>obtain ⟨_,_,_,q⟩:=hs;exact bL q
 | cont=>obtain ⟨_,_,_,q⟩:=hs;exact bL q
section
variable {t:TA} {id T:String} {r:List V->Hp->VK->Prop}
def tCB (r:List V->Hp->VK->Prop) (t:TA):TE:=λσ H Q=>t σ H λvs H1=>r vs H1 Q
theorem wC (d:uo X (.builtin id) r) (hg:Gl X x) (m:X.mg x=iL) (c:bootBuiltins x=iJ (.builtin id)) (g:PA X (e::es) t) (n:x ≠ "__name__":=by decide) (b:(x == ("__debug__":Str))=false:=by decide)
  (i:starEach (e::es) X.env=(iN,eval e X.env)::starEach es X.env:=by rfl) (l:(backTo pos (starEach es X.env)).any (·.1)=false:=by rfl):PE X (.Call (.Name x p) (e::es) [] pos) (tCB r t):=by
 refine ⟨?_⟩;intro pins s σ H Q I h;refine i9 (zb I hg m c ?_ n b);exact PyProof.Rows.callWith_builtin1 (thn (g pos pins s σ H _ I h) λus s1 ⟨vs,H1,a,r1,q⟩=>d pins s1 σ H1 vs us Q a r1 q) i l
theorem uq (d:uo X (.type T) r) (hg:Gl X x) (m:X.mg x=iL) (c:bootBuiltins x=iJ (.type T)) (g:PA X (e::es) t) (n:x ≠ "__name__":=by decide) (b:(x == ("__debug__":Str))=false:=by decide)
  (i:starEach (e::es) X.env=(iN,eval e X.env)::starEach es X.env:=by rfl) (l:(backTo pos (starEach es X.env)).any (·.1)=false:=by rfl):PE X (.Call (.Name x p) (e::es) [] pos) (tCB r t):=by
 refine ⟨?_⟩;intro pins s σ H Q I h;refine i9 (zb I hg m c ?_ n b);exact bW (thn (g pos pins s σ H _ I h) λus s1 ⟨vs,H1,a,r1,q⟩=>d pins s1 σ H1 vs us Q a r1 q) i l
end
end L2
namespace HT
open PySem PyProof.Rows
section
open PySem.SeqAt
open PySem.AutoSeq1 (wpAny_loadPart')
open PySem.MeetsSeq PySem.MeetsSeq2 PySem.MeetsSeq3
end
section
variable {prog:iR} {w:iS} {A:iV} {E:iM->iP->Prop} {s:iP}
theorem cat_tup {t b:Addr} {vs ws:List iM} {Q:iM->iP->Prop} (l:IsTup s.heap t vs.toArray) (j:IsTup s.heap b ws.toArray) (v:vs≠[])
  (h1:ws=[]->Q (.ref t) s) (h2:ws≠[]->Q (.ref s.heap.objs.size) { s with heap:=s.heap.push { cls:=.type "tuple",data:=.seq (vs++ws).toArray } })
  (hsz:vs.length+ws.length<=sizeLine):wpAny (model prog w) A (binaryOp .Add (.ref t) (.ref b)) Q E s:=by
 obtain ⟨⟨cls,dd,data,sl⟩,m,g,n,hd⟩:=id l;obtain ⟨⟨i,d,f,a⟩,h,c,n2,hd2⟩:=id j;simp only at g hd c hd2;subst g hd c hd2;have e:vs.toArray++ws.toArray=(vs++ws).toArray:=by simp
 by_cases hw:ws=[]
 ·exact lQ ⟨_,m,rfl⟩ ⟨_,h,rfl⟩ noFill_tuple_add seq_tuple_add et d8 (dS _ _)
   (tuple_addW1 t b vs.toArray ws.toArray n n2 dd d sl a (by simpa using v) (by simp [hw])) ⟨m,h,h1 hw⟩
 ·refine lQ ⟨_,m,rfl⟩ ⟨_,h,rfl⟩ noFill_tuple_add seq_tuple_add et d8 (dS _ _)
   (tuple_addW2 t b vs.toArray ws.toArray n n2 dd d sl a (by simpa using v) (by simpa using hw) (by rw [au,au]; exact hsz)) ⟨m,h,?_⟩
  rw [e];exact h2 hw
noncomputable def sIx (n d:Nat):Option Int->Nat
 | none=>d
 | some v=>if v < 0 then (v+(n:Int)).toNat else min v.toNat n
theorem sIx_none (n d:Nat):sIx n d iL=d:=rfl
theorem sIx_nat (n d k:Nat):sIx n d (iJ (k:Int))=min k n:=by show (if (k:Int) < 0 then ((k:Int)+(n:Int)).toNat else min (k:Int).toNat n)=min k n;rw [if_neg (by omega),dF]
end
end HT
namespace L2
open PySem PySem.Spec PyProof.Rows
abbrev TO:=St->Hp->(Option Int->Hp->Prop)->Prop
def PO (X:Cx) (e:Option Expr) (t:TO):Prop:=
 ∀ (pins:List (Addr×Obj)) (s:iP) (σ:St) (H:Hp) (Q:Option Int->Hp->Prop),Inv X pins σ H s->t σ H Q ->wpAny (model X.prog X.w) X.A (evalPart e X.env) (λu s'=>∃ o H',Inv X pins σ H' s'/\IsPart u o/\Q o H') X.xe s
def qcQ:TO:=λ_ H Q=>Q iL H
def qg8 (t:TE):TO:=λσ H Q=>t σ H λx H1=>∃ i,x=.int i/\Q (iJ i) H1
variable {X:Cx} {e:Expr} {pos:Pos} {xs:List V} {us:List iM}
section
variable {te:TE} {lo hi:Option Expr} {tl th:TO} {p2:Pos}
theorem qcR:PO X iL qcQ:=by intro pins s σ H Q I h;rw [evalPart_none];exact iQ ⟨iL,H,I,.none,h⟩
theorem qcS (h:PE X e te):PO X (iJ e) (qg8 te):=by intro pins s σ H Q I hw;rw [evalPart_some];refine thn (h pins s σ H _ I hw) λu s1 ⟨x,H1,d,r1,a⟩=>?_;obtain ⟨i,rfl,q⟩:=a;obtain ⟨t,rfl⟩:=r1;exact ⟨iJ i,H1,d,.int i t,q⟩
def SlR (X:Cx) (r:V->Option Int->Option Int->Hp->VK->Prop):Prop:=
 ∀ (pins:List (Addr×Obj)) (s:iP) (σ:St) (H:Hp) (x:V) (v vl u:iM) (lo hi:Option Int) (sl:Addr) (Q:VK),Inv X pins σ H s->RelV x v->s.heap.IsSliceOf sl vl u .none->IsPart vl lo->IsPart u hi->r x lo hi H Q ->∃ T id,typeLookup (.type T) "__getitem__"=pure (iJ (.builtin id))/\s.TypeIs v T/\wpAny (model X.prog X.w) X.A (getItem v (.ref sl)) (EP X pins σ Q) X.xe s
def tSl (r:V->Option Int->Option Int->Hp->VK->Prop) (te:TE) (tl th:TO):TE:=λσ H Q=>te σ H λx H1=>tl σ H1 λl H2=>th σ H2 λu d=>r x l u d Q
theorem qaF {r:V->Option Int->Option Int->Hp->VK->Prop} (j:SlR X r) (k:PE X e te) (hl:PO X lo tl) (i:PO X hi th):PE X (.Subscript e (.Slice lo hi iL p2) pos) (tSl r te tl th):=by refine ⟨?_⟩;intro pins s σ H Q I h;refine Subscript_ (thn (k pins s σ H _ I h) λv s1 ⟨x,H1,n,r1,g⟩=>?_);refine wpAny_Slice (thn (hl pins s1 σ H1 _ n g) λvl s2 ⟨l,H2,m,pl,f⟩=>thn (i pins s2 σ H2 _ m f) λa s3 ⟨u,d,E,p,c⟩=>?_);rw [evalPart_none];refine iQ ?_;have C:Inv X pins σ d { s3 with heap:=s3.heap.push { cls:=.type "slice",data:=.fields #[vl,a,.none] } }:=E.kept (t':=s3.toks) λb o q=>aa _ q;obtain ⟨T,id,hT,t,hg⟩:=j pins { s3 with heap:=s3.heap.push { cls:=.type "slice",data:=.fields #[vl,a,.none] } } σ d x v vl a l u s3.heap.objs.size Q C r1 (Heap.IsSliceOf.new ..) pl p c;show wpAny (model X.prog X.w) X.A (subscriptTail e (.Slice lo hi iL p2) v (.ref s3.heap.objs.size)) (EP X pins σ Q) X.xe { s3 with heap:=s3.heap.push { cls:=.type "slice",data:=.fields #[vl,a,.none] } };exact tail_any (ops:=[.ref s3.heap.objs.size,v]) t hT hg (by with_unfolding_all rfl)
noncomputable def qcT (xs:List V) (lo hi:Option Int):List V:=(xs.drop (HT.sIx xs.length 0 lo)).take (HT.sIx xs.length xs.length hi - HT.sIx xs.length 0 lo)
theorem VU (xs:List V) (lo hi:Option Int):(qcT xs lo hi).length<=xs.length:=by unfold qcT;rw [bT,List.length_drop];omega
def qg9 (K:Frag):R2:=λx y H Q=>∃ a b xs ys,x=.ref a/\y=.ref b/\SqT K H a xs/\SqT K H b ys/\xs≠[]/\xs.length+ys.length<=sizeLine /\
 (ys=[]->Q (.ref a) H)/\(ys≠[]->∀ p,H p=iL->Q (.ref p) (upd H p (.tup (xs++ys))))
theorem Vals.nil_iff (r:Vals xs us):us=[]↔xs=[]:=by
 cases r with
 | nil=>simp
 | cons _ _=>simp
theorem qcU:OpR X (binaryOp .Add) (qg9 X.K):=by intro pins s σ H x y v u Q I d c h;obtain ⟨a,b,xs,ys,rfl,rfl,j,g,hx,hz,f,e⟩:=h;cases d;cases c;obtain ⟨its,r1,p1,_⟩:=I.tuple j;obtain ⟨i,r2,p2,_⟩:=I.tuple g;refine HT.cat_tup p1 p2 (λz=>hx (r1.nil_iff.mp z)) (λz=>⟨.ref a,H,I,rfl,f (r2.nil_iff.mp z)⟩) (λz=>?_) (by rw [<-r1.length,<-r2.length]; exact hz);refine ⟨.ref s.heap.objs.size,_,I.laid (t':=s.toks) (o:=.tup (xs++ys)) (λb k q=>aa _ q) (ax _) ?_,rfl,e (λw=>z (r2.nil_iff.mpr w)) _ (I.hok.fresh (ax _))⟩;exact ⟨⟨by rw [aj]; exact hz,_,ah _ rfl,rfl⟩,_,r1.append r2,IsTup.new _ _⟩
end
noncomputable def ixN (n:Nat) (i:Int):Option Nat:=if 0<=i then (if i < n then iJ i.toNat else iL) else if -(n:Int)<=i then iJ (i+n).toNat else iL
variable {α:Type}
noncomputable def atI (xs:List α) (i:Int):Option α:=(ixN xs.length i).bind λj=>xs[j]?
variable {n j:Nat} {i:Int}
theorem qcV (h:ixN n i=iJ j):seqIndex? i n=iJ j/\j < n/\-(n:Int)<=i/\i < n:=by
 unfold ixN at h;by_cases h0:0<=i
 ·rw [if_pos h0] at h;by_cases h1:i < n;·rw [if_pos h1] at h;have e:i.toNat=j:=ba.inj h;exact ⟨by rw [seqIndex_of h0 h1,e],by omega,by omega,h1⟩
  ·rw [if_neg h1] at h; cases h
 ·rw [if_neg h0] at h;by_cases h1:-(n:Int)<=i;·rw [if_pos h1] at h;have e:(i+n).toNat=j:=ba.inj h;exact ⟨by rw [seqIndex_neg (by omega) h1,e],by omega,h1,by omega⟩
  ·rw [if_neg h1] at h; cases h
theorem VV {xs:List α} {v:α} (h:atI xs i=iJ v):∃ j,seqIndex? i xs.length=iJ j/\xs[j]?=iJ v/\j < xs.length/\-(xs.length:Int)<=i/\i < xs.length:=by
 unfold atI at h;cases e:ixN xs.length i with
 | none=>rw [e] at h; cases h
 | some j=>rw [e] at h;obtain ⟨h1,h2,h3,a⟩:=qcV e;exact ⟨j,h1,h,h2,h3,a⟩
theorem wD {xs:List α} {v:α} (h:xs[j]?=iJ v):atI xs (j:Int)=iJ v:=by
 have D:j < xs.length:=(aH.mp h).1;have e:ixN xs.length (j:Int)=iJ j:=by unfold ixN;rw [if_pos (by omega),if_pos (by omega)]; simp
 unfold atI; rw [e]; exact h
def XW (b:Expr):Prop:=∀ o i,subscripted b iN o i=operate [o,i] (getItem o i)
def IxR (X:Cx) (r:R2):Prop:=
 ∀ (value e:Expr) (pins:List (Addr×Obj)) (s:iP) (σ:St) (H:Hp) (x y:V) (v u:iM) (Q:VK),Inv X pins σ H s->RelV x v->RelV y u->r x y H Q ->subscripted e iN v u=operate [v,u] (getItem v u)->wpAny (model X.prog X.w) X.A (subscriptTail value e v u) (EP X pins σ Q) X.xe s
def MtR (X:Cx) (id:String) (r:V->List V->Hp->VK->Prop):Prop:=
 ∀ (pins:List (Addr×Obj)) (s:iP) (σ:St) (H:Hp) (x:V) (xs:List V) (v:iM) (us:List iM) (Q:VK),Inv X pins σ H s->RelV x v->Vals xs us->r x xs H Q ->wpAny (model X.prog X.w) X.A (call (.builtin id) (v::us)) (EP X pins σ Q) X.xe s
variable {pins:List (Addr×Obj)} {σ:St} {H:Hp} {s:iP} {T:String}
section
variable {a b:Expr} {ta tb:TE}
theorem IxR.or {r r':R2} (h:IxR X r) (h':IxR X r'):IxR X (λx y H Q=>r x y H Q\/r' x y H Q):=by
 intro value e pins s σ H x y v u Q I d c q hs;rcases q with q | q;·exact h value e pins s σ H x y v u Q I d c q hs
 ·exact h' value e pins s σ H x y v u Q I d c q hs
theorem qha {r:R2} (e:IxR X r) (g:PE X a ta) (f:PE X b tb) (hs:XW b):PE X (.Subscript a b pos) (tOp r ta tb):=by refine ⟨?_⟩;intro pins s σ H Q I h;exact Subscript_ (qgX g f I h λv u s2 x y H2 i d c q=>e a b pins s2 σ H2 x y v u Q i d c q (hs _ _))
def qh6 (K:Frag):R2:=λx y H Q=>∃ p xs i v,x=.ref p/\y=.int i/\SqL K H p xs/\atI xs i=iJ v/\Q v H
def qh7 (K:Frag):R2:=λx y H Q=>∃ p xs i v,x=.ref p/\y=.int i/\SqT K H p xs/\atI xs i=iJ v/\Q v H
def qh8:R2:=λx y H Q=>∃ z i c,x=.str z/\y=.int i/\z.length<=sizeLine/\atI z.cps.toList i=iJ c/\Q (.str ⟨#[c]⟩) H
theorem ix_list:IxR X (qh6 X.K):=by
 intro value e pins s σ H x y v u Q I d c h hs;obtain ⟨p,xs,i,z,rfl,rfl,hq,b,q⟩:=h;cases d;obtain ⟨t,rfl⟩:=c;obtain ⟨its,r,pl,hz⟩:=I.list hq;obtain ⟨j,h1,h2,h3,g,f⟩:=VV b;obtain ⟨w,ew,a⟩:=r.get h2;have hl:=r.length;have n:=Ku;have fin:EP X pins σ Q w s:=⟨z,H,I,a,q⟩
 by_cases h0:0<=i
 ·have D:i.toNat=j:=by rw [seqIndex_of h0 f] at h1;exact ba.inj h1
  exact item_listR pl.isList h0 (by omega) (by rw [D]; simpa using ew) fin hs
 ·have D:(i+(its.toArray.size:Int)).toNat=j:=by rw [seqIndex_neg (by omega) g] at h1;rw [au,<-hl];exact ba.inj h1
  exact subscriptTail_builtinR (x:=w) pl.isList.typeIs slot_list_getitem.lookup
   (wpAny_getItem_list_neg (Q:=λr s'=>r=w/\EP X pins σ Q r s') pl.isList (by omega) (by rw [au] <;> omega) (by omega) (by rw [D]; simpa using ew) ⟨rfl,fin⟩) hs
theorem ix_tup:IxR X (qh7 X.K):=by
 intro value e pins s σ H x y v u Q I d c h hs;obtain ⟨p,xs,i,z,rfl,rfl,hq,b,q⟩:=h;cases d;obtain ⟨t,rfl⟩:=c;obtain ⟨its,r,pl,hz⟩:=I.tuple hq;obtain ⟨j,h1,h2,h3,g,f⟩:=VV b;obtain ⟨w,ew,a⟩:=r.get h2;have hl:=r.length;have n:=Ku;have fin:EP X pins σ Q w s:=⟨z,H,I,a,q⟩
 exact subscriptTail_builtinR (x:=w) pl.typeIs slot_tuple_getitem.lookup
  (getItem_tuple (j:=j) (Q:=λr s'=>r=w/\EP X pins σ Q r s') pl (by omega) (by omega) (by rw [au,<-hl]; exact h1) (by simpa using ew) ⟨rfl,fin⟩) hs
theorem qeX:IxR X qh8:=by
 intro value e pins s σ H x y v u Q I d r h hs;obtain ⟨z,i,c,rfl,rfl,hz,a,q⟩:=h;obtain ⟨t,rfl⟩:=d;obtain ⟨t',rfl⟩:=r;obtain ⟨j,h1,h2,h3,b,f⟩:=VV a;have hl:z.cps.toList.length=z.length:=by simp [iu]
 rw [hl] at h1 b f;have n:=Ku;exact tail_any (typeIs_str s z t) slot_str_getitem.lookup (getItem_str (c:=c) (by have e1:decide (i < -(2 ^ 63:Int))=false:=decide_eq_false (by omega);have g:decide (i ≥ 2 ^ 63)=false:=decide_eq_false (by omega);rw [e1,g,fW]) (by rw [h1]; simpa using h2) ⟨.str ⟨#[c]⟩,H,I.tok _,⟨_,rfl⟩,q⟩) hs
def rIx (K:Frag):R2:=λx y H Q=>qh6 K x y H Q\/qh7 K x y H Q\/qh8 x y H Q
theorem qeY:IxR X (rIx X.K):=ix_list.or (ix_tup.or qeX)
theorem Ky (lo hi:Option Int) (n:Nat):(sliceBounds lo hi iL n).1=((HT.sIx n 0 lo:Nat):Int)/\(sliceBounds lo hi iL n).2.1=((HT.sIx n n hi:Nat):Int)/\(sliceBounds lo hi iL n).2.2=1:=by
 refine ⟨?_,?_,rfl⟩
 ·cases lo with
  | none=>simp [sliceBounds,HT.sIx]
  | some i=>
   simp only [sliceBounds,HT.sIx,Option.getD_none,show (1:Int) > 0 by decide,if_true];by_cases h:i < 0;·simp only [h,if_true] <;> omega
   ·simp only [h,if_false] <;> omega
 ·cases hi with
  | none=>simp [sliceBounds,HT.sIx]
  | some i=>
   simp only [sliceBounds,HT.sIx,Option.getD_none,show (1:Int) > 0 by decide,if_true];by_cases h:i < 0;·simp only [h,if_true] <;> omega
   ·simp only [h,if_false] <;> omega
theorem Ji (its:List iM) (lo hi:Option Int):slicePick its.toArray lo hi iL=((its.drop (HT.sIx its.length 0 lo)).take (HT.sIx its.length its.length hi - HT.sIx its.length 0 lo)).toArray:=by obtain ⟨h1,h2,h3⟩:=Ky lo hi its.toArray.size;unfold slicePick;rw [h1,h2,h3];simp only [sliceRange_one,pick_run,au] <;> rfl
def qiO (K:Frag):V->Option Int->Option Int->Hp->VK->Prop:=λx lo hi H Q=>∃ a xs,x=.ref a/\SqL K H a xs/\∀ p,H p=iL->Q (.ref p) (upd H p (.lst (qcT xs lo hi)))
theorem qcW:SlR X (qiO X.K):=by intro pins s σ H x v vl u lo hi sl Q I d hs pl p h;obtain ⟨a,xs,rfl,hx,q⟩:=h;cases d;obtain ⟨its,r,l,hz⟩:=I.list hx;have n:=r.length;refine ⟨"list",_,slot_list_getitem.lookup,l.isList.typeIs,?_⟩;refine wpAny_getItem_list_slice l.isList hs pl p .none (by simp) ?_ (by rw [au] <;> omega);rw [Ji,<-n];refine ⟨.ref s.heap.objs.size,_,I.laid (t':=s.toks) (o:=.lst (qcT xs lo hi)) (λb c q=>aa _ q) (ax _) ?_,rfl,q _ (I.hok.fresh (ax _))⟩;exact ⟨bE (VU xs lo hi) hz,_,0,(r.drop (HT.sIx xs.length 0 lo)).take (HT.sIx xs.length xs.length hi - HT.sIx xs.length 0 lo),ah _ rfl⟩
theorem zc:uo X (.type "list") (λxs H Q=>∃ p ys,xs=[.ref p]/\(SqL X.K H p ys\/SqT X.K H p ys)/\∀ l,H l=iL->Q (.ref l) (upd H l (.lst ys))):=by
 intro pins s σ H xs us Q I r h;obtain ⟨p,ys,rfl,hq,q⟩:=h;obtain ⟨u,rfl,x⟩:=yO r;cases x;have fin:∀ (its:List iM),Vals ys its->ys.length<=sizeLine->∀ (h':Heap) (S:Nat),(∀ b o',s.heap.get? b=iJ o'->h'.get? b=iJ o') ->h'.get? s.heap.objs.size=iJ { cls:=.type "list",dict:=iL,data:=.seq its.toArray S,slots:=#[] }->EP X pins σ Q (.ref s.heap.objs.size) { s with heap:=h' }:=λits r' hz h' S kp e=>
  ⟨.ref s.heap.objs.size,_,I.laid (t':=s.toks) kp (ax _) (show ObjOk X.prog X.w _ h' _ (.lst ys) from ⟨hz,its,S,r',e⟩),rfl,q _ (I.hok.fresh (ax _))⟩
 rcases hq with hq | hq;·obtain ⟨its,r',pl,hz⟩:=I.list hq;have a:=r'.length;obtain ⟨o,m,d,n,hd⟩:=pl.isList;exact call_list_seq p (.inl rfl) m d hd (λh' S kp e=>fin its r' hz h' S kp e) (by simp only [au] <;> omega)
 ·obtain ⟨its,r',pl,hz⟩:=I.tuple hq;have a:=r'.length;obtain ⟨o,m,d,n,hd⟩:=pl;exact call_list_seq p (.inr rfl) m d hd (λh' S kp e=>fin its r' hz h' S kp e) (by simp only [au] <;> omega)
theorem yP:uo X (.type "tuple") (λxs H Q=>∃ p ys,xs=[.ref p]/\((SqL X.K H p ys/\∀ l,H l=iL->Q (.ref l) (upd H l (.tup ys)))\/(SqT X.K H p ys/\Q (.ref p) H))):=by
 intro pins s σ H xs us Q I r h;obtain ⟨p,ys,rfl,h⟩:=h;obtain ⟨u,rfl,x⟩:=yO r;cases x;rcases h with ⟨hq,q⟩ | ⟨hq,q⟩
 ·obtain ⟨its,r',pl,hz⟩:=I.list hq;have n:=r'.length;refine call_tuple_list pl.isList (λh' kp=>?_) (by simp only [au] <;> omega);have d:Inv X pins σ H { s with heap:=h' }:=I.kept (t':=s.toks) kp;have c:Inv X pins σ (upd H h'.objs.size (.tup ys)) { s with heap:=h'.push { cls:=.type "tuple",data:=.seq its.toArray } }:=
   d.laid (t':=s.toks) (λb o e=>aa _ e) (ax _) (show ObjOk X.prog X.w _ _ _ (.tup ys) from ⟨⟨hz,_,ah _ rfl,rfl⟩,its,r',IsTup.new _ _⟩)
  exact ⟨.ref h'.objs.size,_,c,rfl,q _ (d.hok.fresh (ax _))⟩
 ·obtain ⟨its,r',pl,hz⟩:=I.tuple hq;exact call_tuple_same pl ⟨.ref p,H,I,rfl,q⟩
def tyV (K:Frag) (T:String) (x:V) (H:Hp):Prop:=match x with
 | .str _=>T = "str"
 | .int _=>T = "int"
 | .ref p=>(T = "list"/\∃ xs,SqL K H p xs)\/(T = "tuple"/\∃ o,K.lookup p=iJ o/\o.cls=.type "tuple"/\o.dict=iL) \/
   (T = "dict"/\((∃ kvs,H p=iJ (.dK kvs))\/∃ kvs,H p=iJ (.dT kvs)))\/(T = "set"/\∃ S n,H p=iJ (.set S n))
 | _=>False
theorem qeZ {x:V} {v:iM} (I:Inv X pins σ H s) (r:RelV x v) (ty:tyV X.K T x H):s.TypeIs v T/\∀ a,v=.ref a->∃ d,s.heap.get? a=iJ d/\d.dict=none:=by
 cases x with
 | str z=>obtain ⟨t,rfl⟩:=r;cases (show T = "str" from ty);exact ⟨typeIs_str s z t,λ_ e=>nomatch e⟩
 | int i=>obtain ⟨t,rfl⟩:=r;cases (show T = "int" from ty);exact ⟨typeIs_int s i t,λ_ e=>nomatch e⟩
 | ref p=>
  cases r;rcases ty with ⟨rfl,xs,hq⟩ | ⟨rfl,o,k,h,hd⟩ | ⟨rfl,k⟩ | ⟨rfl,S,n,k⟩
  ·obtain ⟨its,_,pl,_⟩:=I.list hq;refine ⟨pl.isList.typeIs,λa e=>?_⟩;cases e;obtain ⟨o,n,e,c,hd,_⟩:=pl;exact ⟨o,e,hd⟩
  ·refine ⟨⟨o,I.kIn p o k,h⟩,λa e=>?_⟩;cases e;exact ⟨o,I.kIn _ o k,hd⟩
  ·have z:∃ o,s.heap.get? p=iJ o/\o.ExactDict:=by
    rcases k with ⟨kvs,k⟩ | ⟨kvs,k⟩
    ·obtain ⟨_,_,_,_,o,_,_,e,ex,_⟩:=I.hok p _ k;exact ⟨o,e,ex⟩
    ·obtain ⟨_,_,_,_,o,_,_,e,ex,_⟩:=I.hok p _ k;exact ⟨o,e,ex⟩
   obtain ⟨o,e,ex⟩:=z;refine ⟨⟨o,e,ex.1⟩,λa b=>?_⟩;cases b;exact ⟨o,e,ex.2.1⟩
  ·obtain ⟨o,_,_,_,e,ex,_⟩:=I.hok p _ k;refine ⟨⟨o,e,ex.1⟩,λa b=>?_⟩;cases b;exact ⟨o,e,ex.2.1⟩
 | _=>exact bL ty
def tBM (K:Frag) (T:String) (r:V->List V->Hp->VK->Prop) (to:TE) (t:TA):TE:=λσ H Q=>to σ H λx H1=>tyV K T x H1/\t σ H1 λxs H2=>r x xs H2 Q
variable {o:Expr} {es:List Expr} {to:TE} {t:TA} {name:Str} {apos cpos:Pos} {id:String} {r:V->List V->Hp->VK->Prop}
theorem YM (pa:PlainAttrs T) (slot:Slot T name id) (y:typeOf (.builtin id)=pure (.type "method_descriptor")) (f:MtR X id r) (m:PE X o to) (g:PA X (e::es) t)
  (b:attributeBase o name X.env (eval o X.env)=eval o X.env:=by rfl)
  (w:((backTo cpos (starEach (e::es) X.env)).all (λx=>!x.1)&&(backToKw cpos (keywordEach [] X.env)).all (λx=>x.1.isSome)
   && decide ((e::es).length+([]:List k6).length+(if ([]:List k6).isEmpty then 0 else 1) < 30))=true:=by rfl)
  (a:(apos.endLine == cpos.line)=true:=by rfl) (hs:starEach (e::es) X.env=(iN,eval e X.env)::starEach es X.env:=by rfl) (n:(backTo cpos (starEach es X.env)).any (·.1)=false:=by rfl) :
  PE X (.Call (.Attribute o name apos) (e::es) [] cpos) (tBM X.K T r to t):=by
 refine ⟨?_⟩;intro pins s σ H Q I h;refine wpAny_Call_method_late b w a rfl (thn (m pins s σ H _ I h) λv s1 ⟨x,H1,d,r1,ty,c⟩=>?_);obtain ⟨h1,h2⟩:=qeZ d r1 ty;refine ⟨T,id,pa,slot,y,h1,h2,?_⟩;have hA:=g cpos pins s1 σ H1 _ d c;rw [hs] at hA ⊢;refine dh (by show (iN||(backTo cpos (starEach es X.env)).any (·.1))=iN; rw [n] <;> rfl) (dJ ?_);exact thn hA λus s2 ⟨vs,H2,i,r2,q⟩=>f pins s2 σ H2 x vs v us Q i r1 r2 q
end
def MtM (X:Cx) (id:String) (r:V->List V->Hp->VK->Prop):Prop:=
 ∀ (pins:List (Addr×Obj)) (s:iP) (σ:St) (H:Hp) (x:V) (xs:List V) (v:iM) (us:List iM) (Q:VK),Inv X pins σ H s->RelV x v->Vals xs us->r x xs H Q ->wpAny (model X.prog X.w) X.A (call (.builtin id) (v::us)) (EP X pins σ Q) X.xe s
theorem Vals.one:∀ {x:V} {us:List iM},Vals [x] us->∃ u,us=[u]/\RelV x u
 | _,_,.cons r .nil=>⟨_,rfl,r⟩
theorem Vals.two:∀ {x y:V} {us:List iM},Vals [x,y] us->∃ u v,us=[u,v]/\RelV x u/\RelV y v
 | _,_,_,.cons r (.cons q .nil)=>⟨_,_,rfl,r,q⟩
theorem Vals.zero:∀ {us:List iM},Vals [] us->us=[]
 | _,.nil=>rfl
theorem Vals.eraseIdx:∀ {xs:List V} {us:List iM} (i:Nat),Vals xs us->Vals (xs.eraseIdx i) (us.eraseIdx i)
 | _,_,_,.nil=>.nil
 | _,_,0,.cons _ t=>t
 | _,_,i+1,.cons r t=>.cons r (Vals.eraseIdx i t)
theorem Vals.reverse (h:Vals xs us):Vals xs.reverse us.reverse:=by
 induction h with
 | nil=>exact .nil
 | cons r t j=>rw [eu,eu]; exact Vals.append j (.cons r .nil)
theorem Vals.rep (h:Vals xs us):∀ k:Nat,Vals (bx k xs).flatten (bx k us).flatten
 | 0=>.nil
 | k+1=>by rw [List.replicate_succ,List.replicate_succ,List.flatten_cons,List.flatten_cons];exact Vals.append h (Vals.rep h k)
section
variable {l b:Addr} {ys zs:List V}
theorem Inv.lset {its its':List iM} {n:Nat} {f:Array iM->Array iM} {t':Nat} (I:Inv X pins σ H s) (b:H l=iJ (.lst xs))
  (e:s.heap.get? l=iJ { cls:=.type "list",data:=.seq its.toArray n }) (a:f its.toArray=its'.toArray) (c:Vals ys its') (hz:ys.length<=sizeLine) :
  Inv X pins σ (upd H l (.lst ys)) { s with heap:=s.heap.update l (bB f),toks:=t' }:=by
 have q:=PySem.IsL.update e f;rw [a] at q;refine I.write (x:=l) (e:=l) (by rw [b]; exact trivial) (.inl rfl) (λg u d h=>(bH s.heap (bB f) (aZ d)).trans h) ⟨_,q⟩ ?_;exact ⟨hz,its',_,c,q⟩
theorem Inv.lnew {its:List iM} {t':Nat} (I:Inv X pins σ H s) (c:Vals ys its) (hz:ys.length<=sizeLine):Inv X pins σ (upd H s.heap.objs.size (.lst ys)) { s with heap:=s.heap.push { cls:=.type "list",data:=.seq its.toArray },toks:=t' }:=
 I.laid (λ_ _ q=>aa _ q) (ax _) ⟨hz,its,0,c,ah _ rfl⟩
theorem Inv.fresh (I:Inv X pins σ H s):H s.heap.objs.size=none:=I.hok.fresh (ax _)
theorem Inv.lstM (I:Inv X pins σ H s) (b:H l=iJ (.lst xs)):xs.length<=sizeLine/\∃ (its:List iM) (n:Nat),Vals xs its/\xs.length=its.length/\s.heap.get? l=iJ { cls:=.type "list",data:=.seq its.toArray n }:=by obtain ⟨z,its,n,r,e⟩:=I.hok l _ b;exact ⟨z,its,n,r,r.length,e⟩
theorem qaG (h:n<=sizeLine):dU n=false:=by unfold dU;exact decide_eq_false (by omega)
end
section
def VW:V->List V->Hp->VK->Prop:=λx vs H Q=>∃ l xs y,x=.ref l/\vs=[y]/\H l=iJ (.lst xs)/\xs.length < sizeLine/\Q .non (upd H l (.lst (xs++[y])))
theorem Kz:MtM X "list.append" VW:=by intro pins s σ H x vs v us Q I d a h;obtain ⟨l,xs,y,rfl,rfl,b,hz,q⟩:=h;cases d;obtain ⟨u,rfl,A⟩:=a.one;obtain ⟨z,its,n,r,hl,e⟩:=I.lstM b;refine lz F.slot_list_append ⟨_,e,rfl⟩ F.entry_list_append (F.args_list_append_2 _ _) (PySem.list_append l its.toArray n u (by rw [au]; omega)) ⟨e,?_⟩;refine ⟨.non,_,I.lset (its':=its++[u]) b e (by simp) (r.append (.cons A .nil)) ?_,rfl,q⟩;rw [aj,eZ];omega
def qcX:V->List V->Hp->VK->Prop:=λx vs H Q=>∃ l b xs zs,x=.ref l/\vs=[.ref b]/\H l=iJ (.lst xs)/\H b=iJ (.lst zs)/\xs.length+zs.length<=sizeLine/\Q .non (upd H l (.lst (xs++zs)))
theorem XX:MtM X "list.extend" qcX:=by
 intro pins s σ H x vs v us Q I d c h;obtain ⟨l,b,xs,zs,rfl,rfl,a,B,hz,q⟩:=h;cases d;obtain ⟨u,rfl,A⟩:=c.one;cases A;obtain ⟨z,its,n,r,hl,e⟩:=I.lstM a;obtain ⟨z2,i,n2,r2,f,j⟩:=I.lstM B;have hsz:its.toArray.size+i.toArray.size<=sizeLine:=by rw [au,au]; omega
 have g:¬(!its.toArray.isEmpty&&dU (its.toArray.size+i.toArray.size))=true:=by rw [qaG hsz,Bool.and_false];exact bG
 refine lz F.slot_list_extend ⟨_,e,rfl⟩ F.entry_list_extend (F.args_list_extend_2 _ _)
  (AutoSeq1.list_extend_list_list_0 l its.toArray n b i.toArray n2 g (by rw [au]; omega) (by omega)) ⟨e,j,?_⟩
 refine ⟨.non,_,I.lset (its':=its++i) a e (by simp) (r.append r2) ?_,rfl,q⟩;rw [aj];omega
end
end L2
namespace Att
open PySem PySem.W PySem.Calls PyProof.Rows
theorem gb {P:lK} {h:Heap}:∀ (ns:List Int) (vs:List iM),WellAll P h vs (ns.map WData.int)->IntsAre vs ns:=by
 intro ns
 induction ns with
 | nil=>intro vs w;rw [cI] at w;cases w;exact .nil
 | cons n ns j=>
  intro vs w;rw [aL] at w;cases w with
  | cons a b=>cases a;exact .cons _ _ (j _ b)
theorem XY {l:OpenLaw} {n:Nat} (s:l.most=iJ n) {P:lK} {h:Heap} {args:List WData} {v:List iM}
  (e:l.row.toRowW.claim.pre args=iO) (i:WellAll P h v args) :
  ∃ a vs ns,v=[aM a]/\args=[WData.list (ns.map WData.int)]/\h.get? a=iJ { cls:=.type "list",data:=.seq vs.toArray }/\IntsAre vs ns/\ns.length<=n:=by
 have j:WShape.hasAll [] args [.list .int]=true:=(pre_splitW e).1;have k:l.pre.holds [] { args:=args }=true:=(pre_splitW e).2;obtain ⟨d,r,rfl,h1,h2⟩:=hasAllW_cons j;obtain rfl:=hasAllW_nil h2;obtain ⟨xs,rfl,h3⟩:=hasW_list h1;obtain ⟨ns,rfl⟩:=items_int h3;have b:ns.length<=n:=by
  unfold OpenLaw.pre at k;have g:(WTm.not (.lt (.lit (.int (n:Int))) (.len (.arg 0)))).holds [] { args:=[.list (ns.map .int)] }=true:=by have g:=(holds_andW k).1;rw [s] at g;exact g
  have f:=condW_of g (w_not (w_lt w_lit (w_len_list (w_arg rfl))));rw [am] at f;refine Nat.le_of_not_lt λq=>?_;have m:(n:Int) < ((ns.length:Nat):Int):=by omega
  first
   | (rw [decide_eq_true m] at f; exact absurd f (by decide))
   | (simp at f; omega)
 cases i with
 | cons o w=>
  cases w;cases o with
  | list p c=>exact ⟨_,_,ns,rfl,rfl,p,gb ns _ c,b⟩
theorem XZ (l:OpenLaw) (args:List WData):l.row.toRowW.claim.post args (.bool iO) args=true:=
 postW_of (r:=l.row.toRowW) (X:=(iO == iO))
  (show WShape.has [] (.bool iO) .bool=iO by first | rfl | decide | simp [WShape.has,WShape.arms,WShape.armsAll])
  (show (WTm.eq .res (.lit (.bool iO))).value [] { args:=args,res:=iJ (.bool iO),after:=args }=iJ (.bool (iO == iO)) from w_eq_bool (w_res rfl) w_lit) rfl
theorem attach_call {l:OpenLaw} {n:Nat} {q:iR} {loose:List Str} {XP:(Str->Option iM)->Heap->Prop} {YP:iS->Heap->Prop} {d:DefRec}
  (p:l.most=iJ n) (hdf:d.params.defaults=[])
  (call:∀ (w:iS) (s₀ s:iP) (mg mb:Str->Option iM) (fa:Addr) (o:Obj) (pm cd doc:iM) (a:Addr) (vs:List iM) (ns:List Int),Ground q loose [] XP w s₀ mg mb s.heap->YP w s.heap ->s.heap.get? fa=iJ o->o.data=.func (docDef d.name d.params d.body d.scope pm cd doc)->s.heap.CodeRec cd d.name->mg d.name=iJ (.ref fa) ->s.heap.get? a=iJ { cls:=.type "list",data:=.seq vs.toArray }->IntsAre vs ns->ns.length<=n->s.gens=#[] ->codeAny (model l.prog w) callerA (.call (.ref fa) ⟨[.ref a],[]⟩) (λr s'=>r=.ok (.ret (.bool iO))/\OldK s.heap s'.heap/\s'.os=s.os/\lJ s'.gens) s) :
  WalkO q loose XP YP l.row.toRowW d [] (λf vs=>iG f vs):=by
 intro w s₀ s mg mb G Y fa o pm cd doc V kV m hd c D g hg args v as e y k i u;obtain rfl:V=.none:=Dflts.none D hdf;obtain rfl:kV=.none:=Dflts.noKw D;obtain ⟨a,vs,ns,rfl,rfl,j,h,b⟩:=XY p e i;refine enter_call (lx (call w s₀ s mg mb fa o pm cd doc a vs ns G Y m (fd_plain hd) c g j h b hg) λr s' hq=>?_);obtain ⟨rfl,h2,h3,x⟩:=hq;exact ⟨.inl ⟨.bool iO,.bool iO,[],rfl,λ_=>rfl,.bool iO,XZ l _,λ_=>⟨dG,λ_ t=>(nomatch t)⟩⟩,h2,h3,x⟩
end Att
namespace L2
open PySem PySem.Spec PyProof.Rows
theorem KA:∀ {vs:List iM} {ns:List Int},IntsAre vs ns->Vals (ns.map V.int) vs
 | _,_,.nil=>.nil
 | _,_,.cons n t h=>.cons ⟨t,rfl⟩ (KA h)
def qhb (H:Hp):Prop:=∀ b,H b=iL\/∃ o xs,H b=iJ (.frz o (.lst xs))
theorem qaH {P:iR} {w:iS} {K:Frag} {mg mb:Str->Option iM} {CX:CXT} {k:Nat} {fa a:Addr} {fd:lm} {x:Str} {sp:Sp} {c:iP} {vs:List iM} {ns:List Int}
  (N:K.In c.heap) (A:c.heap.Ns mainGlobals mg) (g:c.heap.Ns builtinsNs mb) (J:∀ x:Str,x ≠ "__name__"->mb x=bootBuiltins x) (B:c.heap.NoLimit) (hg:c.gens=#[])
  (D:c.heap.get? a=iJ { cls:=.type "list",data:=.seq vs.toArray }) (hi:IntsAre vs ns) (hl:ns.length<=sizeLine) (R:Room k callerA)
  (F:∀ base:Heap,K.In base->base.Ns mainGlobals mg->FnOk P w K mg base CX k fa fd [x] sp) (l:∀ (s:iP) (u:iM),lW s fd ⟨[u],[]⟩ [(x,u)])
  (G:∀ H:Hp,qhb H->SqL K H a (ns.map V.int)->sp [.ref a] H (λv _=>v=.bl iO) λ_ _ _=>False)
  (X:∀ H e s',CX [] H c (λ_ _ _=>False) e s'->False) :
  codeAny (model P w) callerA (.call (.ref fa) ⟨[.ref a],[]⟩) (λr s'=>r=.ok (.ret (.bool iO))/\OldK c.heap s'.heap/\s'.os=c.os/\lJ s'.gens) c:=by
 have M:=KA hi;have t:=hi.length;have j:∀ H:Hp,qhb H->SqL K H a (ns.map V.int)->HOk P w H c.heap->(∀ b,H b≠iL->b=a)->(H a≠iL->K.lookup a=iL) ->codeAny (model P w) callerA (.call (.ref fa) ⟨[.ref a],[]⟩) (λr s'=>r=.ok (.ret (.bool iO))/\OldK c.heap s'.heap/\s'.os=c.os/\lJ s'.gens) c:=by
  intro H O S hok hA U;have f:∀ {b:Addr} {o:Obj},c.heap.get? b=iJ o->H b=iL->(qaq c.heap H).get? b=iJ o:=λe n=>qar e n;have E:∀ {b:Addr} {o:Obj} {es:Array lV} {ep:Nat},c.heap.get? b=iJ o->o.data=.dict es ep->H b=none:=λ{b o es ep} e d=>by
   cases q:H b with
   | none=>rfl
   | some u=>have L:b=a:=hA b (by rw [q]; simp);subst L;rw [D] at e; cases e;have d':Data.seq vs.toArray _=Data.dict es ep:=d;cases d'
  have i:∀ {b:Addr} {m:Str->Option iM},c.heap.Ns b m->(qaq c.heap H).Ns b m:=λ{b m} ⟨o,es,ep,e,d,r⟩=>⟨o,es,ep,f e (E e d),d,r⟩
  have C:K.In (qaq c.heap H):=λb o e=>f (N b o e) (by
   cases q:H b with
   | none=>rfl
   | some u=>have L:b=a:=hA b (by rw [q]; simp);subst L;rw [U (by rw [q]; simp)] at e; cases e)
  have T:Mod K mg (qaq c.heap H):=⟨C,i A,⟨mb,i g,J⟩,let ⟨mc,h1,h2⟩:=B; ⟨mc,i h1,h2⟩⟩
  have Z:Env0 P w K mg (qaq c.heap H) callerA [] c H:=⟨rfl,T,λb o e=>qcy e,fB (XB _ _),trivial,λb g=>absurd (show b∈([]:List Addr) from g) (by simp),hok,.of_eq hg⟩
  refine lx ((F _ C (i A)).run callerA [] c H ⟨[.ref a],[]⟩ [.ref a] [.ref a] _ _ R Z (l c (.ref a)) (.cons rfl .nil) (G H O S)) λr s' h=>?_;cases r with
  | error e=>exact (X H e s' h).elim
  | ok W=>
   cases W with
   | next=>exact bL h
   | brk=>exact bL h
   | cont=>exact bL h
   | ret u=>
    obtain ⟨v,H',os,bare,un,y,r',q⟩:=h;have Q:v=.bl true:=q;subst Q;obtain rfl:u=bb true:=r';refine ⟨rfl,OldK.of_keep λb o e=>?_,os,bare⟩;cases q:H b with
    | none=>exact un.keep b o e q (by intro z; exact absurd (show b∈([]:List Addr) from z) (by simp)) (by simp)
    | some u=>
     rcases O b with z | ⟨ob,xs,z⟩
     ·rw [q] at z; cases z
     ·have z2:=un.frzs b ob _ z;obtain ⟨e1,_⟩:=hok b _ z;obtain ⟨Y,_⟩:=y b _ z2;rw [e] at e1; cases e1;exact Y
 cases I:K.lookup a with
 | some o=>have e:=N a o I;rw [D] at e;cases e;refine j (λ_=>iL) (λ_=>.inl rfl) (.inr ⟨_,vs.toArray,_,I,rfl,rfl,rfl,by rw [au,t]; exact hl,by simpa using M⟩) (λb u z=>by have p:(iL:Option HO)=iJ u:=z; cases p) (λb z=>absurd rfl z) λz=>absurd rfl z
 | none=>
  refine j (λb=>if b=a then iJ (.frz { cls:=.type "list",data:=.seq vs.toArray } (.lst (ns.map V.int))) else iL) (λb=>?_) (.inl (.inr ⟨{ cls:=.type "list",data:=.seq vs.toArray },if_pos rfl⟩)) (λb u z=>?_) (λb z=>?_) λ_=>I
  ·by_cases g:b=a;·exact .inr ⟨_,_,if_pos g⟩
   ·exact .inl (if_neg g)
  ·by_cases g:b=a;·have p:=(if_pos g).symm.trans z;cases p;subst g;exact ⟨D,by rw [am]; exact hl,vs,_,M,D⟩
   ·have p:=(if_neg g).symm.trans z;cases p
  ·by_cases g:b=a;·exact g
   ·exact absurd (if_neg g) z
theorem qcY {l:hZ} {n k:Nat} {q:iR} {loose:List Str} {XP:(Str->Option iM)->Heap->Prop} {YP:iS->Heap->Prop} {d:DefRec} {K:lK->Frag} {CX:iS->CXT} {sp:iS->Sp} {x:Str}
  (A:l.most=iJ n) (r:n<=sizeLine) (hdf:d.params.defaults=[]) (z:Room k callerA)
  (D:∀ (w:iS) (h:Heap),YP w h->(K w.params).In h)
  (F:∀ (w:iS) (mg:Str->Option iM) (fa:Addr) (h:Heap),(K w.params).In h->h.Ns mainGlobals mg->mg d.name=iJ (.ref fa) ->∃ fd:lm,(∀ (s:iP) (u:iM),lW s fd ⟨[u],[]⟩ [(x,u)]) /\
    ∀ base:Heap,(K w.params).In base->base.Ns mainGlobals mg->FnOk l.prog w (K w.params) mg base (CX w) k fa fd [x] (sp w))
  (p:∀ (w:iS) (H:Hp) (a:Addr) (ns:List Int),ns.length<=n->qhb H->SqL (K w.params) H a (ns.map V.int)->sp w [.ref a] H (λv _=>v=.bl iO) λ_ _ _=>False)
  (X:∀ (w:iS) (H:Hp) (s:iP) (e:iM) (s':iP),CX w [] H s (λ_ _ _=>False) e s'->False) :
  PySem.W.WalkO q loose XP YP l.row.toRowW d [] (λf vs=>iG f vs):=by
 refine Att.attach_call A hdf λw s₀ j mg mb fa o pm cd doc a vs ns G Y I hd B t m i c hg=>?_;have y:=D w _ Y;obtain ⟨fd,C,E⟩:=F w mg fa _ y G.T.g t;exact qaH y G.T.g G.T.b G.T.builtins G.T.nolimit hg m i (bE c r) z E C (λH O S=>p w H a ns c O S) λH e s'=>X w H j e s'
noncomputable def xD (s:Stmt) (j:Nat):Stmt:=match s with
 | .ClassDef _ _ _ body _ _ _ _ _ _ _=>body.getD j (.Pass ⟨0,0,0,0⟩)
 | _=>.Pass ⟨0,0,0,0⟩
noncomputable def wE (s:Stmt):Arguments:=match s with
 | .FunctionDef _ a _ _ _ _ _ _ _ _=>a
 | _=>{ posonlyargs:=[],args:=[],vararg:=iL,kwonlyargs:=[],kw_defaults:=[],kwarg:=iL,defaults:=[] }
noncomputable def jU (s:Stmt):List Stmt:=match s with
 | .FunctionDef _ _ b _ _ _ _ _ _ _=>b
 | _=>[]
noncomputable def qc (s:Stmt):lB:=match s with
 | .FunctionDef _ _ _ _ _ _ sc _ _ _=>sc
 | _=>{ kind:=.function,names:=[],isGenerator:=iN,isCoroutine:=iN }
structure Fun (K:Frag) (x qual:Str) (st:Stmt) (f:Addr) (fd:lm):Prop where
 ex:∃ (oc:iM) (od:Option Addr) (kV doc pm:iM) (an:Option Addr) (cdv ct:iM) (osl:Array (Option iM)),fd=bR x qual (wE st) (jU st) (qc st) .none kV doc pm an cdv ct/\K.lookup f=iJ ⟨oc,od,.func fd,osl⟩/\codeIn K cdv qual=iO
 kp:keepIn K (.ref f)=iO
variable {P:iR} {w:iS} {K:Frag} {x qual:Str} {st:Stmt} {f:Addr}
section
variable {mg:Str->Option iM} {base:Heap}
theorem Fun.binds {fd:lm} {ps:List Str} (F:Fun K x qual st f fd)
  (h:∀ (kV doc pm:iM) (an:Option Addr) (cdv ct:iM) (us:List iM),us.length=ps.length->bindArgs (bR x qual (wE st) (jU st) (qc st) .none kV doc pm an cdv ct) ⟨us,[]⟩=pure (ps.zip us)):Binds K fd ps []:=by
 obtain ⟨oc,od,kV,doc,pm,an,cdv,ct,osl,rfl,m,d⟩:=F.ex;exact .all (h kV doc pm an cdv ct)
theorem vj {oc:iM} {od an:Option Addr} {osl:Array (Option iM)} {kV doc pm cdv ct:iM} (l:K.lookup f=iJ ⟨oc,od,.func (bR x qual (wE st) (jU st) (qc st) .none kV doc pm an cdv ct),osl⟩)
  (c:codeIn K cdv qual=iO) (k:keepIn K (.ref f)=iO):Fun K x qual st f (bR x qual (wE st) (jU st) (qc st) .none kV doc pm an cdv ct):=⟨⟨oc,od,kV,doc,pm,an,cdv,ct,osl,rfl,l,c⟩,k⟩
end
variable {X:Cx}
section
theorem pv (i:Nat) {pos:Pos} (h:X.N[i]?=iJ x:=by rfl) (c:Vis X.env.scope x:=by first | exact ay rfl | exact eG (ay rfl) | exact eG (eG rfl)) (hd:(x == ("__debug__":Str))=false:=by decide)
  (d:(x == ("__classdict__":Str))=false:=by decide):PE X (.Name x pos) (qh4 i):=um h c hd d
end
def Same (H H':Hp):Prop:=∀ b o,H b=iJ o->H' b=iJ o
theorem Same.refl (H:Hp):Same H H:=λ_ _ h=>h
variable {H:Hp}
theorem Same.trans {H1 H2:Hp} (a:Same H H1) (b:Same H1 H2):Same H H2:=λc o h=>b c o (a c o h)
variable {H':Hp}
theorem Same.free (e:Same H H') {l:Addr} (h:H' l=Option.none):H l=Option.none:=by
 cases q:H l with
 | none=>rfl
 | some o=>rw [e l o q] at h;cases h
variable {a:Addr}
theorem Same.seq {xs:List V} (e:Same H H') (h:SqL K H a xs):SqL K H' a xs:=by
 rcases h with (h | ⟨o,h⟩) | h;·exact .inl (.inl (e _ _ h))
 ·exact .inl (.inr ⟨o,e _ _ h⟩)
 ·exact .inr h
variable {o:Option V} {u:iM} {y:V}
section
variable {κ:Type} [DecidableEq κ]
noncomputable def Um (kvs:List (κ×V)) (k:κ):Option V:=(kvs.find? λkv=>decide (kv.1=k)).map (·.2)
noncomputable def Qp (kvs:List (κ×V)) (k:κ) (v:V):List (κ×V):=
 if (kvs.any λkv=>decide (kv.1=k))=iO then kvs.map (λkv=>if kv.1=k then (kv.1,v) else kv) else kvs++[(k,v)]
theorem zH {p:κ×V} {r:List (κ×V)} {k:κ} (e:p.1=k):Um (p::r) k=iJ p.2:=by simp [Um,cN,e]
theorem zI {p:κ×V} {r:List (κ×V)} {k:κ} (e:¬p.1=k):Um (p::r) k=Um r k:=by simp [Um,cN,e]
theorem Jj (k:κ):∀ kvs:List (κ×V),(kvs.any λkv=>decide (kv.1=k))=(Um kvs k).isSome
 | []=>rfl
 | p::r=>by
  rw [cJ];by_cases e:p.1=k;·simp only [zH e,decide_eq_true e,Bool.true_or,Option.isSome_some]
  ·rw [zI e,decide_eq_false e,Bool.false_or]; exact Jj k r
theorem yz (kvs:List (κ×V)) (k:κ) (v:V):(Qp kvs k v).length<=kvs.length+1:=by
 unfold Qp;split;·rw [am]; omega
 ·rw [aj,aq,bg]; omega
theorem RelO.isSome_eq {u:Option iM} (r:RelO o u):o.isSome=u.isSome:=by
 cases o with
 | none=>cases u with
  | none=>rfl
  | some _=>exact (show False from r).elim
 | some _=>cases u with
  | none=>exact (show False from r).elim
  | some _=>rfl
theorem KV.val {kvs:List (κ×V)} {vs:List (κ×iM)} (r:KV kvs vs) (k:κ):RelO (Um kvs k) (valueAt vs k):=by
 unfold KV at r
 induction r with
 | nil=>exact dg
 | @cons p q ps qs h t ih=>
  obtain ⟨h1,h2⟩:=h;by_cases e:p.1=k
  ·have a:q.1=k:=h1.symm.trans e;have b:valueAt (q::qs) k=iJ q.2:=by simp [valueAt,cN,a]
   rw [zH e,b]; exact h2
  ·have a:¬q.1=k:=λz=>e (h1.trans z);have b:valueAt (q::qs) k=valueAt qs k:=by simp [valueAt,cN,a]
   rw [zI e,b]; exact ih
theorem KV.any {kvs:List (κ×V)} {vs:List (κ×iM)} (r:KV kvs vs) (k:κ):(kvs.any λkv=>decide (kv.1=k))=vs.any λkv=>decide (kv.1=k):=by
 unfold KV at r
 induction r with
 | nil=>rfl
 | cons h t j=>rw [cJ,cJ,j,h.1]
theorem KV.repl {kvs:List (κ×V)} {vs:List (κ×iM)} (r:KV kvs vs) (k:κ) (c:RelV y u):KV (kvs.map λkv=>if kv.1=k then (kv.1,y) else kv) (vs.map λkv=>if kv.1=k then (kv.1,u) else kv):=by
 unfold KV at r ⊢
 induction r with
 | nil=>exact .nil
 | @cons p q ps qs h t ih=>
  rw [aL,aL];refine .cons ?_ ih;obtain ⟨h1,h2⟩:=h;by_cases e:p.1=k;·rw [if_pos e,if_pos (h1.symm.trans e)]; exact ⟨h1,c⟩
  ·rw [if_neg e,if_neg (λz=>e (h1.trans z))]; exact ⟨h1,h2⟩
theorem KV.put {kvs:List (κ×V)} {vs:List (κ×iM)} (r:KV kvs vs) (k:κ) (c:RelV y u):KV (Qp kvs k y) (stored vs k u):=by
 unfold Qp stored;rw [r.any k];by_cases e:(vs.any λkv=>decide (kv.1=k))=iO;·rw [if_pos e,if_pos e]; exact r.repl k c
 ·rw [if_neg e,if_neg e]; exact Paired.snoc r ⟨rfl,c⟩
theorem KV.keys {kvs:List (κ×V)} {vs:List (κ×iM)} (r:KV kvs vs):kvs.map (·.1)=vs.map (·.1):=by
 unfold KV at r
 induction r with
 | nil=>rfl
 | cons h t j=>rw [aL,aL,j,h.1]
theorem KV.length {kvs:List (κ×V)} {vs:List (κ×iM)} (r:KV kvs vs):kvs.length=vs.length:=fV r
end
theorem Za {k:Key} (r:RelV (kV k) u):(qU P w).is k u=true:=by
 cases k with
 | inl i=>obtain ⟨t,e⟩:=(show ∃ t,u=fj i t from r); subst e; exact VQ P w i t
 | inr x=>obtain ⟨t,e⟩:=(show ∃ t,u=dw x t from r); subst e; exact VR P w x t
theorem KB:∀ {ks:List Key} {us:List iM},Vals (ks.map kV) us->ItemsAre (qU P w) ks us
 | [],_,r=>by rw [cI] at r; cases r; exact .nil
 | k::ks,_,r=>by
  rw [aL] at r;cases r with
  | cons h t=>exact .cons (Za h) (KB t)
abbrev KT (H:Hp):List (List Key×V)->List (List Key×Addr×iM)->Prop:=lX λp q=>p.1=q.1/\H q.2.1=iJ (.tup (p.1.map kV))/\RelV p.2 q.2.2
variable {xs:List (List Key×Addr×iM)} {kvs:List (List Key×V)}
theorem KT.val (r:KT H kvs xs) (k:List Key):RelO (Um kvs k) ((atKey xs k).map (·.2)):=by
 induction r with
 | nil=>exact dg
 | @cons p q ps qs h t ih=>
  obtain ⟨h1,_,h2⟩:=h;by_cases e:p.1=k
  ·have a:q.1=k:=h1.symm.trans e;have b:atKey (q::qs) k=iJ q.2:=by simp [atKey,cN,a]
   rw [zH e,b]; exact h2
  ·have a:¬q.1=k:=λz=>e (h1.trans z);have b:atKey (q::qs) k=atKey qs k:=by simp [atKey,cN,a]
   rw [zI e,b]; exact ih
theorem KT.repl (r:KT H kvs xs) (k:List Key) (c:RelV y u):KT H (kvs.map λkv=>if kv.1=k then (kv.1,y) else kv) (xs.map (putAt k u)):=by
 induction r with
 | nil=>exact .nil
 | @cons p q ps qs h t ih=>
  rw [aL,aL];refine .cons ?_ ih;obtain ⟨h1,h2,h3⟩:=h;unfold putAt;by_cases e:p.1=k;·rw [if_pos e,if_pos (h1.symm.trans e)]; exact ⟨h1,h2,c⟩
  ·rw [if_neg e,if_neg (λz=>e (h1.trans z))]; exact ⟨h1,h2,h3⟩
variable {b:Addr}
theorem KT.put (r:KT H kvs xs) (k:List Key) (d:H b=iJ (.tup (k.map kV))) (c:RelV y u):KT H (Qp kvs k y) (storedH xs k b u):=by
 have e:(kvs.any λkv=>decide (kv.1=k))=(atKey xs k).isSome:=by rw [Jj,(r.val k).isSome_eq,fL]
 unfold Qp storedH;rw [e];by_cases q:(atKey xs k).isSome=iO;·rw [if_pos q,if_pos q]; exact r.repl k c
 ·rw [if_neg q,if_neg q]; exact Paired.snoc r ⟨rfl,d,c⟩
theorem KT.keeps (r:KT H kvs xs) (l:∀ b ys,H b=iJ (.tup ys)->H' b=iJ (.tup ys)):KT H' kvs xs:=
 Paired.mapP r λ_ _ z=>⟨z.1,l _ _ z.2.1,z.2.2⟩
section
variable {h:Heap}
theorem qe0 {u:HO} (ok:HOk P w H h) (e:Rd H a u):ObjOk P w H h a u:=e.ok ok
theorem VX {kvs:List (Key×V)} (ok:HOk P w H h) (e:Rd H a (.dK kvs)):kvs.length<=sizeLine/\(a == sysModules)=iN/\∃ vs,KV kvs vs/\h.DictOf (qU P w) a vs:=
 show ObjOk P w H h a (.dK kvs) from qe0 ok e
theorem qhc {kvs:List (Key×V)} (ok:HOk P w H h) (e:H a=iJ (.dK kvs)):kvs.length<=sizeLine/\(a == sysModules)=iN/\∃ vs,KV kvs vs/\h.DictOf (qU P w) a vs:=VX ok (.inl e)
theorem gc {ks:List Key} (ok:HOk P w H h) (e:H a=iJ (.tup (ks.map kV))):(tupleKind (qU P w)).is h ks a:=by
 obtain ⟨_,its,r,o,h1,h2,n,h3⟩:=(show ObjOk P w H h a (.tup (ks.map kV)) from ok a _ e)
 exact ⟨o,its.toArray,n,h1,h2,h3,by simpa using KB r⟩
theorem YN (ok:HOk P w H h) (e:Rd H a (.dT kvs)):kvs.length<=sizeLine/\(a == sysModules)=iN /\
  ∃ xs,KT H kvs xs/\h.DictOfH (tupleKind (qU P w)) a xs:=by
 obtain ⟨z,y,xs,r,o,es,ep,h1,h2,h3,b,f⟩:=(show ObjOk P w H h a (.dT kvs) from qe0 ok e)
 refine ⟨z,y,xs,r,o,es,ep,h1,h2,h3,b,λx hx=>?_,f⟩;have all:∀ {l:List (List Key×V)} {m:List (List Key×Addr×iM)},KT H l m->∀ x∈m,(tupleKind (qU P w)).is h x.1 x.2.1:=by
  intro l m q
  induction q with
  | nil=>intro x hx; exact nomatch hx
  | @cons p q ps qs hq t ih=>
   intro x hx;rcases ac.mp hx with e | hx
   ·subst e;exact gc ok (by rw [<-hq.1]; exact hq.2.1)
   ·exact ih x hx
 exact all r x hx
theorem qhd (ok:HOk P w H h) (e:H a=iJ (.dT kvs)):kvs.length<=sizeLine/\(a == sysModules)=iN /\
  ∃ xs,KT H kvs xs/\h.DictOfH (tupleKind (qU P w)) a xs:=YN ok (.inl e)
end
def DGet (H:Hp) (a:Addr) (y:V) (r:Option V):Prop:=
 (∃ kvs k,Rd H a (.dK kvs)/\y=kV k/\r=Um kvs k)\/∃ kvs k b,Rd H a (.dT kvs)/\y=.ref b/\H b=iJ (.tup (k.map kV))/\r=Um kvs k
def DPut (H:Hp) (a:Addr) (y v:V) (H':Hp):Prop:=
 (∃ kvs k,H a=iJ (.dK kvs)/\y=kV k/\kvs.length < sizeLine/\H'=upd H a (.dK (Qp kvs k v))) \/
 ∃ kvs k b,H a=iJ (.dT kvs)/\y=.ref b/\H b=iJ (.tup (k.map kV))/\kvs.length < sizeLine/\H'=upd H a (.dT (Qp kvs k v))
theorem DGet.k {kvs:List (Key×V)} {k:Key} (e:H a=iJ (.dK kvs)):DGet H a (kV k) (Um kvs k):=.inl ⟨kvs,k,.inl e,rfl,rfl⟩
theorem DGet.t {k:List Key} (e:H a=iJ (.dT kvs)) (eb:H b=iJ (.tup (k.map kV))):DGet H a (.ref b) (Um kvs k):=.inr ⟨kvs,k,b,.inl e,rfl,eb,rfl⟩
variable {v:V}
theorem DPut.k {kvs:List (Key×V)} {k:Key} (e:H a=iJ (.dK kvs)) (hl:kvs.length < sizeLine):DPut H a (kV k) v (upd H a (.dK (Qp kvs k v))):=.inl ⟨kvs,k,e,rfl,hl,rfl⟩
theorem DPut.t {k:List Key} {v:V} (e:H a=iJ (.dT kvs)) (eb:H b=iJ (.tup (k.map kV))) (hl:kvs.length < sizeLine):DPut H a (.ref b) v (upd H a (.dT (Qp kvs k v))):=.inr ⟨kvs,k,b,e,rfl,eb,hl,rfl⟩
variable {pins:List (Addr×Obj)} {σ:St} {s:iP} {A:iV} {E Q:iM->iP->Prop} {h':Heap}
section
variable {r:iM}
theorem Inv.big (I:Inv X pins σ H s):sysModules < s.heap.objs.size:=by have h:mainGlobals < s.heap.objs.size:=(I.mod.glob.keeps I.bk).lt;exact eI (by decide) h
theorem Zb (i:A.units+1 < cLine) (I:Inv X pins σ H s) (g:DGet H a y (iJ v)) (f:RelV y u) (h:∀ w' s',Inv X pins σ H s'->RelV v w'->Q w' s'):wpAny (model X.prog X.w) A (getItem (.ref a) u) Q E s:=by
 rcases g with ⟨kvs,k,e,d,l⟩ | ⟨kvs,k,b,e,d,eb,l⟩
 ·subst d;obtain ⟨z,hd,vs,rel,dd⟩:=VX I.hok e;obtain ⟨w',hw,r⟩:=RelO.some_of (v:=v) (o:=valueAt vs k) (by rw [l]; exact rel.val k);exact wpAny_getItem_of (Za f) dd.mapOf hw (h w' _ (I.tok _) r)
 ·subst d;cases (show u=aM b from f);obtain ⟨z,hd,xs,rel,dd⟩:=YN I.hok e;obtain ⟨w',hw,r⟩:=RelO.some_of (v:=v) (o:=(atKey xs k).map (·.2)) (by rw [l]; exact rel.val k);obtain ⟨p,hp,c⟩:=aV.mp hw;refine wpAny_getItem_heap (lA i) (gc I.hok eb) dd hp ?_;rw [c];exact h w' _ (I.tok _) r
theorem qiP (f:A.units+1 < cLine) (I:Inv X pins σ H s) (g:DGet H a y o) (c:RelV y u) (h:∀ s',Inv X pins σ H s'->Q (.bool o.isSome) s'):wpAny (model X.prog X.w) A (compareOp .In u (.ref a)) Q E s:=by
 rcases g with ⟨kvs,k,e,d,l⟩ | ⟨kvs,k,b,e,d,eb,l⟩
 ·subst d;obtain ⟨z,hd,vs,rel,dd⟩:=VX I.hok e;refine wpAny_in_of (Za c) hd dd.mapOf ?_;rw [<-(rel.val k).isSome_eq,<-l];exact h _ (I.tok _)
 ·subst d;cases (show u=aM b from c);obtain ⟨z,hd,xs,rel,dd⟩:=YN I.hok e;refine wpAny_in_heap (lA f) (gc I.hok eb) hd dd ?_;have q:=(rel.val k).isSome_eq;rw [fL] at q;rw [<-q,<-l];exact h _ (I.tok _)
theorem qcZ (f:A.units+1 < cLine) (I:Inv X pins σ H s) (g:DGet H a y o) (c:RelV y u) (h:∀ s',Inv X pins σ H s'->Q (.bool (!o.isSome)) s'):wpAny (model X.prog X.w) A (compareOp .NotIn u (.ref a)) Q E s:=by
 rcases g with ⟨kvs,k,e,d,l⟩ | ⟨kvs,k,b,e,d,eb,l⟩
 ·subst d;obtain ⟨z,hd,vs,rel,dd⟩:=VX I.hok e;refine wpAny_notIn_of (Za c) hd dd.mapOf ?_;rw [<-(rel.val k).isSome_eq,<-l];exact h _ (I.tok _)
 ·subst d;cases (show u=aM b from c);obtain ⟨z,hd,xs,rel,dd⟩:=YN I.hok e;refine wpAny_notIn_heap (lA f) (gc I.hok eb) hd dd ?_;have q:=(rel.val k).isSome_eq;rw [fL] at q;rw [<-q,<-l];exact h _ (I.tok _)
theorem Zc {t':Nat} {o:HO} (I:Inv X pins σ H s) (m:Mut (H a)) (hs:bn a s.heap h') (i:∃ q,h'.get? a=iJ q) (new:ObjOk X.prog X.w (upd H a o) h' a o):Inv X pins σ (upd H a o) { s with heap:=h',toks:=t' }:=
 I.write (x:=a) (e:=a) m (.inl rfl) (λb q d z=>(hs.2 b d).trans z) i new
theorem Zd {H':Hp} {kvs:List (Key×V)} {vs:List (Key×iM)} (z:kvs.length<=sizeLine) (hd:(a == sysModules)=iN) (rel:KV kvs vs) (dd:h'.DictOf (qU P w) a vs):ObjOk P w H' h' a (.dK kvs):=⟨z,hd,vs,rel,dd⟩
theorem Ze {Q:Unit->iP->Prop} (o:A.units+1 < cLine) (I:Inv X pins σ H s) (g:DPut H a y v H') (j:RelV y u) (m:RelV v r) (h:∀ s',Inv X pins σ H' s'->Q () s'):wpAny (model X.prog X.w) A (setItem (.ref a) u r) Q E s:=by
 rcases g with ⟨kvs,k,e,f,l,i⟩ | ⟨kvs,k,b,e,f,eb,l,i⟩
 ·subst f i;obtain ⟨z,hd,vs,rel,dd⟩:=qhc I.hok e;have hz:vs.length<=sizeLine:=by rw [<-rel.length]; exact z
  have hl:(Qp kvs k v).length<=sizeLine:=by have:=yz kvs k v; omega
  refine wpAny_setItem_pairs (hsz:=hz) (Za j) dd λh' d hs=>h _ ?_;have p:∃ q,h'.get? a=iJ q:=let ⟨q,_,_,hq,_⟩:=d; ⟨q,hq⟩
  exact Zc I (by rw [e]; exact dg) hs p (Zd hl hd (rel.put k m) d)
 ·subst f i;cases (show u=aM b from j);obtain ⟨z,hd,xs,rel,dd⟩:=qhd I.hok e;have hz:xs.length<=sizeLine:=by rw [<-fV rel]; exact z
  have hl:(Qp kvs k v).length<=sizeLine:=by have:=yz kvs k v; omega
  refine wpAny_setItem_heap (hsz:=hz) (lA o) (gc I.hok eb) dd λh' d hs=>h _ ?_;obtain ⟨q,es,ep,hq,h2,h3,x,_,t⟩:=d;refine Zc I (by rw [e]; exact dg) hs ⟨q,hq⟩ ⟨hl,hd,_,(rel.put k eb m).keeps λc ys n=>?_,q,es,ep,hq,h2,h3,x,t⟩;rw [qw (qgO n e (λz=>nomatch z))];exact n
end
section
variable {kvs:List (Key×V)} {k:Key}
theorem qhe (I:Inv X pins σ H s) (e:Rd H a (.dK kvs)) (h:∀ t s',Inv X pins σ H s'->Q (.int kvs.length t) s'):wpAny (model X.prog X.w) A (call (.builtin "len") [.ref a]) Q E s:=by obtain ⟨z,hd,vs,rel,dd⟩:=VX I.hok e;refine call_len_dict hd dd (by rw [<-rel.length]; rw [iT] at z; omega) ?_;rw [<-rel.length];exact h _ _ (I.tok _)
end
theorem VY (I:Inv X pins σ H s) (g:DGet H a y o):s.TypeIs (.ref a) "dict":=by
 rcases g with ⟨kvs,k,e,_,_⟩ | ⟨kvs,k,b,e,_,_,_⟩
 ·obtain ⟨_,_,vs,_,dd⟩:=VX I.hok e;exact dd.typeIs
 ·obtain ⟨_,_,xs,_,dd⟩:=YN I.hok e;exact dd.typeIs
def qhf (td ty tv:TE):TS:=λD σ H=>tv σ H λv H1=>td σ H1 λx H2=>ty σ H2 λy d=>∃ a b,x=.ref a/\DPut d a y v b/\D.nx σ b
variable {pos:Pos}
section
variable {o i e value:Expr} {pos' tpos:Pos} {td ty tv:TE}
theorem qc0 (k:X.A.units+1 < cLine) (m:PE X o td) (hi:PE X i ty) (j:PE X value tv) (hs:swapsWith value (iJ (.Subscript o i pos')) pos.line X.env=pure iN):PS X (.Assign [.Subscript o i pos'] value pos) (qhf td ty tv):=by refine ⟨?_⟩;intro pins s σ H D I h;refine wpAny_Assign_Subscript (thn (j pins s σ H _ I h) λr s1 ⟨v,H1,n,b,f⟩=>thn (m pins s1 σ H1 _ n f) λu s2 ⟨x,H2,l,d,e⟩=>thn (hi pins s2 σ H2 _ l e) λt s3 ⟨y,w,E,c,a,p,ex,g,q⟩=>?_) hs;subst ex;obtain rfl:u=aM a:=d;exact Ze k E g c b λs4 C=>⟨σ,p,C,q⟩
end
theorem qaI (h:Heap) (d:sysModules < h.objs.size):ObjOk P w H (h.push { cls:=.type "dict",data:=.dict #[] }) h.objs.size (.dK []):=
 ⟨bu _,beq_eq_false_iff_ne.mpr (aZ (aG d)),[],.nil,Heap.DictOf.new h⟩
def qe1:TE:=λ_ H Q=>∀ p,H p=iL->Q (.ref p) (upd H p (.dK []))
section
theorem qaJ:PE X (.Dict [] [] pos) qe1:=⟨λpins s σ H Q I h=>
 wpAny_Dict_empty ⟨.ref s.heap.objs.size,_,I.laid (a:=s.heap.objs.size) (o:=.dK []) (t':=s.toks) (λ_ _ q=>aa _ q) (ax _) (qaI s.heap I.big),rfl,h _ (I.hok.fresh (ax _))⟩⟩
end
structure M1 (X:Cx) (o:Expr) (m:Str) (apos:Pos) (e:Expr) (cpos:Pos):Prop where
 base:attributeBase o m X.env (eval o X.env)=eval o X.env
 few:((backTo cpos (starEach [e] X.env)).all (λx=>!x.1)&&(backToKw cpos (keywordEach [] X.env)).all (λx=>x.1.isSome)
  && decide (([e]:List Expr).length+([]:List k6).length+(if ([]:List k6).isEmpty then 0 else 1) < 30))=iO
 line:(apos.endLine == cpos.line)=iO
 trees:backTo cpos (starEach [e] X.env)=[(iN,eval e X.env)]
structure M2 (X:Cx) (o:Expr) (m:Str) (apos:Pos) (e f:Expr) (cpos:Pos):Prop where
 base:attributeBase o m X.env (eval o X.env)=eval o X.env
 few:((backTo cpos (starEach [e,f] X.env)).all (λx=>!x.1)&&(backToKw cpos (keywordEach [] X.env)).all (λx=>x.1.isSome)
  && decide (([e,f]:List Expr).length+([]:List k6).length+(if ([]:List k6).isEmpty then 0 else 1) < 30))=iO
 line:(apos.endLine == cpos.line)=iO
 trees:backTo cpos (starEach [e,f] X.env)=[(iN,eval e X.env),(iN,eval f X.env)]
def IsD (H:Hp) (a:Addr):Prop:=(∃ kvs,Rd H a (.dK kvs))\/∃ kvs,Rd H a (.dT kvs)
theorem qe2 (I:Inv X pins σ H s) (d:IsD H a):s.TypeIs (.ref a) "dict"/\(∀ b,aM a=.ref b->∃ o,s.heap.get? b=iJ o/\o.dict=iL)/\(a == sysModules)=false:=by
 rcases d with ⟨kvs,e⟩ | ⟨kvs,e⟩
 ·obtain ⟨_,hd,vs,_,dd⟩:=VX I.hok e;refine ⟨dd.typeIs,λb q=>?_,hd⟩;cases q;obtain ⟨o,_,_,h1,h2,_⟩:=dd;exact ⟨o,h1,h2.2.1⟩
 ·obtain ⟨_,hd,xs,_,dd⟩:=YN I.hok e;refine ⟨dd.typeIs,λb q=>?_,hd⟩;cases q;obtain ⟨o,_,_,h1,h2,_⟩:=dd;exact ⟨o,h1,h2.2.1⟩
section
theorem Zf:uo X (.builtin "len") (λxs H Q=>∃ a kvs,xs=[V.ref a]/\H a=iJ (.dK kvs)/\Q (.int kvs.length) H):=by intro pins s σ H xs us Q I r h;obtain ⟨a,kvs,rfl,g,q⟩:=h;obtain ⟨u,rfl,A⟩:=yO r;cases A;exact qhe I (.inl g) λt s' b=>⟨.int kvs.length,H,b,⟨t,rfl⟩,q⟩
end
end L2
namespace L2.D2
open PySem PySem.Spec PyProof.Rows
variable {b:List Nat}
theorem kU {a:List Nat} (h:(a.all λi=>decide (i∈b))=iO):∀ i∈a,i∈b:=λi hi=>of_decide_eq_true (aO.mp h i hi)
theorem QK {i:Nat} (h:decide (i∈b)=iN):i∉b:=of_decide_eq_false h
noncomputable def VZ:Expr->Bool
 | .Starred ..=>iN
 | _=>iO
variable {e:Expr} {env:Env}
theorem jp {es:List Expr} (h:VZ e=iO):starEach (e::es) env=(iN,eval e env)::starEach es env:=by cases e <;> first | rfl | cases h
theorem qI (h:VZ e=iO):starEach [e] env=[(iN,eval e env)]:=jp h
theorem qaK {a b:Expr} (h:VZ a=iO) (k:VZ b=iO):starEach [a,b] env=[(iN,eval a env),(iN,eval b env)]:=by rw [jp h,qI k]
variable {pos:Pos}
theorem wF:∀ {es:List Expr},es.all VZ=iO->(backTo pos (starEach es env)).any (·.1)=iN
 | [],_=>rfl
 | e::es,h=>by rw [fy,aP] at h;rw [jp h.1];exact wF h.2
theorem wG (h:VZ e=iO):((backTo pos (starEach [e] env)).all (λx=>!x.1)&&(backToKw pos (keywordEach [] env)).all (λx=>x.1.isSome)
   && decide ([e].length+([]:List k6).length+(if ([]:List k6).isEmpty then 0 else 1) < 30))=true:=by rw [qI h]; rfl
inductive D where
 | non | bl (b:Bool) | int (i:Int) | str (x:Str)
 | tup (xs:List D) | lst (xs:List D) | dct (kvs:List (Key×D)) | raw (v:V)
 | xcp (C:Addr) | ins (C:Addr) (fs:List (Str×D)) | at_ (a:Addr) (xs:List D)
 deriving Inhabited
abbrev Sl:=List (Option D)
inductive Out (α:Type) where
 | ok (a:α) | exc (c:Str) (o:Sl) | bad
variable {α β:Type}
noncomputable def Out.bind (o:Out α) (k:α->Out β):Out β:=match o with
 | .ok a=>k a
 | .exc c o=>.exc c o
 | .bad=>.bad
@[simp] theorem Out.oh (a:α) (k:α->Out β):(Out.ok a).bind k=k a:=rfl
@[simp] theorem Out.exc_bind (c:Str) (o:Sl) (k:α->Out β):(Out.exc c o:Out α).bind k=.exc c o:=rfl
@[simp] theorem Out.bad_bind (k:α->Out β):(Out.bad:Out α).bind k=.bad:=rfl
noncomputable def Wa (a C:Addr):HO:=.ext λh=>∃ o vs,h.get? a=iJ o/\o.cls=.ref C/\o.data=.fields vs
mutual
/-- the value v is the data d,all its objects in F -/
inductive Is (K:Frag) (F:Hp):V->D->Prop
 | non:Is K F .non .non
 | bl (b:Bool):Is K F (.bl b) (.bl b)
 | int (i:Int):Is K F (.int i) (.int i)
 | str {x:Str} (h:x.length<=sizeLine):Is K F (.str x) (.str x)
 | tup {a:Addr} {xs:List V} {ds:List D} (h:SqT K F a xs) (t:IsL K F xs ds):Is K F (.ref a) (.tup ds)
 | lst {a:Addr} {xs:List V} {ds:List D} (h:SqL K F a xs) (t:IsL K F xs ds):Is K F (.ref a) (.lst ds)
 | dct {a:Addr} {kv:List (Key×V)} {kvs:List (Key×D)} (h:F a=iJ (.dK kv)) (t:IsK K F kv kvs):Is K F (.ref a) (.dct kvs)
 | raw (v:V):Is K F v (.raw v)
 | xcp {a C:Addr} (h:F a=iJ (Wa a C)):Is K F (.ref a) (.xcp C)
 | ins {a C dx:Addr} {fv:List (Str×V)} {fs:List (Str×D)} (h:F a=iJ (.ins C dx fv)) (t:IsF K F fv fs):Is K F (.ref a) (.ins C fs)
 | at_ {a:Addr} {xs:List V} {ds:List D} (h:SqL K F a xs) (t:IsL K F xs ds):Is K F (.ref a) (.at_ a ds)
inductive IsL (K:Frag) (F:Hp):List V->List D->Prop
 | nil:IsL K F [] []
 | cons {v:V} {d:D} {vs:List V} {ds:List D} (h:Is K F v d) (t:IsL K F vs ds):IsL K F (v::vs) (d::ds)
inductive IsK (K:Frag) (F:Hp):List (Key×V)->List (Key×D)->Prop
 | nil:IsK K F [] []
 | cons {k:Key} {v:V} {d:D} {vs:List (Key×V)} {ds:List (Key×D)} (h:Is K F v d) (t:IsK K F vs ds):IsK K F ((k,v)::vs) ((k,d)::ds)
inductive IsF (K:Frag) (F:Hp):List (Str×V)->List (Str×D)->Prop
 | nil:IsF K F [] []
 | cons {k:Str} {v:V} {d:D} {vs:List (Str×V)} {ds:List (Str×D)} (h:Is K F v d) (t:IsF K F vs ds):IsF K F ((k,v)::vs) ((k,d)::ds)
end
theorem qR {K:Frag} {H H':Hp} {a:Addr} {xs:List V} (e:Same H H') (h:SqT K H a xs):SqT K H' a xs:=by
 rcases h with (h | ⟨o,h⟩) | h;·exact .inl (.inl (e _ _ h))
 ·exact .inl (.inr ⟨o,e _ _ h⟩)
 ·exact .inr h
mutual
theorem Is.mono {K:Frag} {F F':Hp} (e:Same F F'):∀ {v:V} {d:D},Is K F v d->Is K F' v d
 | _,_,.non=>.non
 | _,_,.bl b=>.bl b
 | _,_,.int i=>.int i
 | _,_,.str h=>.str h
 | _,_,.tup h t=>.tup (qR e h) (IsL.mono e t)
 | _,_,.lst h t=>.lst (e.seq h) (IsL.mono e t)
 | _,_,.dct h t=>.dct (e _ _ h) (IsK.mono e t)
 | _,_,.raw v=>.raw v
 | _,_,.xcp h=>.xcp (e _ _ h)
 | _,_,.ins h t=>.ins (e _ _ h) (IsF.mono e t)
 | _,_,.at_ h t=>.at_ (e.seq h) (IsL.mono e t)
theorem IsL.mono {K:Frag} {F F':Hp} (e:Same F F'):∀ {vs:List V} {ds:List D},IsL K F vs ds->IsL K F' vs ds
 | _,_,.nil=>.nil
 | _,_,.cons h t=>.cons (Is.mono e h) (IsL.mono e t)
theorem IsK.mono {K:Frag} {F F':Hp} (e:Same F F'):∀ {vs:List (Key×V)} {ds:List (Key×D)},IsK K F vs ds->IsK K F' vs ds
 | _,_,.nil=>.nil
 | _,_,.cons h t=>.cons (Is.mono e h) (IsK.mono e t)
theorem IsF.mono {K:Frag} {F F':Hp} (e:Same F F'):∀ {vs:List (Str×V)} {ds:List (Str×D)},IsF K F vs ds->IsF K F' vs ds
 | _,_,.nil=>.nil
 | _,_,.cons h t=>.cons (Is.mono e h) (IsF.mono e t)
end
theorem IsL.length {K:Frag} {F:Hp}:∀ {vs:List V} {ds:List D},IsL K F vs ds->vs.length=ds.length
 | _,_,.nil=>rfl
 | _,_,.cons _ t=>congrArg (·+1) (IsL.length t)
theorem IsL.get {K:Frag} {F:Hp}:∀ {vs:List V} {ds:List D} {i:Nat} {v:V},IsL K F vs ds->vs[i]?=iJ v->∃ d,ds[i]?=iJ d/\Is K F v d
 | _,_,_,_,.nil,e=>by simp at e
 | _,_,0,_,.cons h _,e=>by simp at e; subst e; exact ⟨_,rfl,h⟩
 | _,_,i+1,v,.cons _ t,e=>by obtain ⟨d,h1,h2⟩:=IsL.get (i:=i) (v:=v) t (by simpa using e);exact ⟨d,by simpa using h1,h2⟩
theorem IsL.getD {K:Frag} {F:Hp}:∀ {vs:List V} {ds:List D} {i:Nat} {d:D},IsL K F vs ds->ds[i]?=iJ d->∃ v,vs[i]?=iJ v/\Is K F v d
 | _,_,_,_,.nil,e=>by simp at e
 | _,_,0,_,.cons h _,e=>by simp at e; subst e; exact ⟨_,rfl,h⟩
 | _,_,i+1,v,.cons _ t,e=>by obtain ⟨d,h1,h2⟩:=IsL.getD (i:=i) (d:=v) t (by simpa using e);exact ⟨d,by simpa using h1,h2⟩
theorem IsL.append {K:Frag} {F:Hp}:∀ {vs ws:List V} {ds es:List D},IsL K F vs ds->IsL K F ws es->IsL K F (vs++ws) (ds++es)
 | _,_,_,_,.nil,s=>s
 | _,_,_,_,.cons h t,s=>.cons h (IsL.append t s)
theorem IsL.drop {K:Frag} {F:Hp}:∀ {vs:List V} {ds:List D} (n:Nat),IsL K F vs ds->IsL K F (vs.drop n) (ds.drop n)
 | _,_,0,r=>r
 | _,_,_+1,.nil=>.nil
 | _,_,n+1,.cons _ t=>IsL.drop n t
theorem IsL.take {K:Frag} {F:Hp}:∀ {vs:List V} {ds:List D} (n:Nat),IsL K F vs ds->IsL K F (vs.take n) (ds.take n)
 | _,_,0,_=>.nil
 | _,_,_+1,.nil=>.nil
 | _,_,n+1,.cons h t=>.cons h (IsL.take n t)
theorem IsL.set {K:Frag} {F:Hp} {v:V} {d:D} (h:Is K F v d):∀ {vs:List V} {ds:List D} (i:Nat),IsL K F vs ds->IsL K F (vs.set i v) (ds.set i d)
 | _,_,_,.nil=>.nil
 | _,_,0,.cons _ t=>.cons h t
 | _,_,i+1,.cons q t=>.cons q (IsL.set h i t)
theorem IsL.reverse {K:Frag} {F:Hp}:∀ {vs:List V} {ds:List D},IsL K F vs ds->IsL K F vs.reverse ds.reverse
 | _,_,.nil=>.nil
 | _,_,.cons h t=>by rw [eu,eu];exact (IsL.reverse t).append (.cons h .nil)
def OwnIs (K:Frag) (F H:Hp) (a:Addr):D->Prop
 | .lst ds=>∃ xs,H a=iJ (.lst xs)/\IsL K F xs ds
 | .dct kvs=>∃ kv,H a=iJ (.dK kv)/\IsK K F kv kvs
 | .ins C fs=>∃ dx fv,H a=iJ (.ins C dx fv)/\IsF K F fv fs
 | .at_ b ds=>b=a/\∃ xs,H a=iJ (.lst xs)/\IsL K F xs ds
 | _=>False
def TopIs (K:Frag) (F H:Hp) (v:V) (d:D):Prop:=Is K F v d\/∃ a,v=.ref a/\OwnIs K F H a d
inductive Mo where
 | sh | fr | any
def MoIs (K:Frag) (m:Mo) (H0 F H:Hp) (v:V) (d:D):Prop:=match m with
 | .sh=>Is K F v d
 | .fr=>∃ a,v=.ref a/\H0 a=iL/\F a=iL/\OwnIs K F H a d
 | .any=>TopIs K F H v d
theorem MoIs.top {K:Frag} {m:Mo} {H0 F H:Hp} {v:V} {d:D} (h:MoIs K m H0 F H v d):TopIs K F H v d:=by
 cases m with
 | sh=>exact .inl h
 | fr=>obtain ⟨a,e,_,_,o⟩:=h; exact .inr ⟨a,e,o⟩
 | any=>exact h
structure Chg (A:Addr->Prop) (F H F' H':Hp):Prop where
 keep:∀ b o,H b=iJ o->¬A b->H' b=iJ o
 stay:∀ b,H b≠iL->H' b≠iL
 grow:Same F F'
 new:∀ b,F' b≠iL->F b≠iL\/H b=iL\/A b
theorem Chg.refl {A:Addr->Prop} {F H:Hp}:Chg A F H F H:=⟨λ_ _ e _=>e,λ_ h=>h,Same.refl _,λ_ h=>.inl h⟩
theorem Chg.trans {A A1:Addr->Prop} {F H F1 H1 c H2:Hp} (a:Chg A F H F1 H1) (b:Chg A1 F1 H1 c H2) (hA:∀ x,A1 x->A x\/H x=iL):Chg A F H c H2 where
 keep:=λx o e n=>b.keep x o (a.keep x o e n) λz=>(hA x z).elim n λq=>by rw [e] at q; cases q
 stay:=λx h=>b.stay x (a.stay x h)
 grow:=a.grow.trans b.grow
 new:=λx h=>by
  rcases b.new x h with q | q | q;·exact a.new x q
  ·refine .inr (.inl ?_);cases e:H x with
   | none=>rfl
   | some o=>exact absurd q (a.stay x (by rw [e]; simp))
  ·rcases hA x q with z | z;·exact .inr (.inr z)
   ·exact .inr (.inl z)
theorem Chg.trans' {A:Addr->Prop} {F H F1 H1 c H2:Hp} (a:Chg A F H F1 H1) (b:Chg A F1 H1 c H2):Chg A F H c H2:=a.trans b λ_ z=>.inl z
theorem Chg.mono {A c:Addr->Prop} {F H F1 H1:Hp} (a:Chg A F H F1 H1) (h:∀ x,A x->c x):Chg c F H F1 H1:=
 ⟨λb o e n=>a.keep b o e λz=>n (h b z),a.stay,a.grow,λb z=>(a.new b z).imp id (Or.imp id (h b))⟩
abbrev No:Addr->Prop:=λ_=>False
theorem Chg.ofNo {A:Addr->Prop} {F H F1 H1:Hp} (a:Chg No F H F1 H1):Chg A F H F1 H1:=a.mono λ_ z=>z.elim
structure Rep (K:Frag) (own:List Nat) (F H:Hp) (σ:St) (ρ:Sl):Prop where
 sub:Same F H
 len:σ.length=ρ.length
 val:∀ i d,i∉own->ρ[i]?=iJ (iJ d)->∃ v,σ[i]?=iJ (iJ v)/\Is K F v d
 ow:∀ i d,i∈own->ρ[i]?=iJ (iJ d)->∃ a,σ[i]?=iJ (iJ (.ref a))/\F a=iL/\OwnIs K F H a d
 opn:∀ i,i∈own->∃ d,ρ[i]?=iJ (iJ d)
 dis:∀ i j a,i∈own->j∈own->σ[i]?=iJ (iJ (V.ref a))->σ[j]?=iJ (iJ (V.ref a))->i=j
def OA (own:List Nat) (σ:St):Addr->Prop:=λb=>∃ i∈own,σ[i]?=iJ (iJ (V.ref b))
theorem OwnIs.there {K:Frag} {F H:Hp} {a:Addr} {d:D} (h:OwnIs K F H a d):H a≠none:=by
 cases d with
 | lst ds=>obtain ⟨xs,e,_⟩:=h; rw [e]; simp
 | dct ds=>obtain ⟨xs,e,_⟩:=h; rw [e]; simp
 | ins C fs=>obtain ⟨dx,xs,e,_⟩:=h; rw [e]; simp
 | at_ b ds=>obtain ⟨_,xs,e,_⟩:=h; rw [e]; simp
 | _=>exact h.elim
theorem OwnIs.grow {K:Frag} {F H F' H':Hp} {a:Addr} {d:D} (h:OwnIs K F H a d) (g:Same F F') (k:∀ o,H a=iJ o->H' a=iJ o):OwnIs K F' H' a d:=by
 cases d with
 | lst ds=>obtain ⟨xs,e,t⟩:=h; exact ⟨xs,k _ e,t.mono g⟩
 | dct ds=>obtain ⟨xs,e,t⟩:=h; exact ⟨xs,k _ e,t.mono g⟩
 | ins C fs=>obtain ⟨dx,xs,e,t⟩:=h; exact ⟨dx,xs,k _ e,t.mono g⟩
 | at_ b ds=>obtain ⟨eb,xs,e,t⟩:=h; exact ⟨eb,xs,k _ e,t.mono g⟩
 | _=>exact h.elim
theorem Rep.OA_there {K:Frag} {own:List Nat} {F H:Hp} {σ:St} {ρ:Sl} (r:Rep K own F H σ ρ) {b:Addr} (h:OA own σ b):H b≠iL/\F b=none:=by obtain ⟨i,hi,e⟩:=h;obtain ⟨d,hd⟩:=r.opn i hi;obtain ⟨a,e1,c,o⟩:=r.ow i d hi hd;rw [e] at e1;cases e1;exact ⟨o.there,c⟩
theorem Rep.grow {K:Frag} {own:List Nat} {F H F' H':Hp} {σ:St} {ρ:Sl} (r:Rep K own F H σ ρ) (c:Chg No F H F' H') (s:Same F' H'):Rep K own F' H' σ ρ where
 sub:=s
 len:=r.len
 val:=λi d hi e=>let ⟨v,h1,h2⟩:=r.val i d hi e; ⟨v,h1,h2.mono c.grow⟩
 ow:=λi d hi e=>by
  obtain ⟨a,h1,h2,h3⟩:=r.ow i d hi e;refine ⟨a,h1,?_,h3.grow c.grow λo q=>c.keep a o q λz=>z⟩;cases q:F' a with
  | none=>rfl
  | some o=>
   rcases c.new a (by rw [q]; simp) with z | z | z;·exact absurd h2 z
   ·exact absurd z h3.there
   ·exact z.elim
 opn:=r.opn
 dis:=r.dis
theorem MoIs.grow {K:Frag} {A:Addr->Prop} {m:Mo} {H0 F H F' H':Hp} {v:V} {d:D} (h:MoIs K m H0 F H v d) (b:m≠.any) (c:Chg A F H F' H') (hA:∀ x,A x->H0 x≠iL):MoIs K m H0 F' H' v d:=by
 cases m with
 | sh=>exact Is.mono c.grow h
 | fr=>
  obtain ⟨a,e,h0,E,o⟩:=h;have n:¬A a:=λz=>hA a z h0;refine ⟨a,e,h0,?_,o.grow c.grow λo q=>c.keep a o q n⟩;cases q:F' a with
  | none=>rfl
  | some u=>
   rcases c.new a (by rw [q]; simp) with z | z | z;·exact absurd E z
   ·exact absurd z o.there
   ·exact absurd z n
 | any=>exact absurd rfl b
def Xx (K:Frag) (io:List Nat) (F H:Hp) (σ:St) (ρ:Sl):Prop:=∀ i∈io,∃ d a,ρ[i]?=iJ (iJ d)/\σ[i]?=iJ (iJ (V.ref a))/\F a=iL/\OwnIs K F H a d
theorem Rep.ioIs {K:Frag} {own io:List Nat} {F H:Hp} {σ:St} {ρ:Sl} (r:Rep K own F H σ ρ) (h:∀ i∈io,i∈own):Xx K io F H σ ρ:=λi hi=>by obtain ⟨d,hd⟩:=r.opn i (h i hi);obtain ⟨a,h1,h2,h3⟩:=r.ow i d (h i hi) hd;exact ⟨d,a,hd,h1,h2,h3⟩
structure Ct where
 K:Frag
 cv:Str->iM
 E:XK
 io:List Nat
 mr:Mo
 ol:List Nat
 ox:List Nat
 oxs:∀ i∈ox,i∈io
def Po (C:Ct) (own:List Nat) (m:Mo) (σ:St) (F H:Hp) (r:Out (D×Sl)) (Q:VK):Prop:=match r with
 | .ok (d,ρ')=>∀ v F' H',Rep C.K own F' H' σ ρ'->Chg (OA own σ) F H F' H'->MoIs C.K m H F' H' v d->Q v H'
 | .exc c ρ'=>∀ F' H',Same F' H'->Xx C.K C.ox F' H' σ ρ'->Chg (OA own σ) F H F' H'->C.E (C.cv c) iL H'
 | .bad=>False
def tE (C:Ct) (own:List Nat) (m:Mo) (f:Sl->Out (D×Sl)):TE:=λσ H Q=>∃ F ρ,Rep C.K own F H σ ρ/\Po C own m σ F H (f ρ) Q
theorem MoIs.back {K:Frag} {m:Mo} {A:Addr->Prop} {H0 F H F1 H1:Hp} {b Ha:Hp} {v:V} {d:D} (c:Chg A b H0 F1 H1) (h:MoIs K m H1 F H v d):MoIs K m H0 F H v d:=by
 cases m with
 | sh=>exact h
 | fr=>
  obtain ⟨a,e,h0,r⟩:=h;refine ⟨a,e,?_,r⟩;cases q:H0 a with
  | none=>rfl
  | some o=>exact absurd h0 (c.stay a (by rw [q]; simp))
 | any=>exact h
theorem Po.shift {C:Ct} {own:List Nat} {m:Mo} {σ:St} {F H F1 H1:Hp} {r:Out (D×Sl)} {Q:VK} (h:Po C own m σ F H r Q) (c:Chg (OA own σ) F H F1 H1):Po C own m σ F1 H1 r Q:=by
 cases r with
 | ok p=>exact λv F' H' a S mo=>h v F' H' a (c.trans' S) (MoIs.back (Ha:=H1) c mo)
 | exc x=>exact λF' H' s io S=>h F' H' s io (c.trans' S)
 | bad=>exact h.elim
theorem Po.bind {C:Ct} {own:List Nat} {m ma:Mo} {σ:St} {F H:Hp} {o:Out (D×Sl)} {k:D×Sl->Out (D×Sl)} {Q R:VK} (hp:Po C own m σ F H (o.bind k) Q)
  (h:∀ v F1 H1 d ρ1,Rep C.K own F1 H1 σ ρ1->Chg (OA own σ) F H F1 H1->MoIs C.K ma H F1 H1 v d->Po C own m σ F1 H1 (k (d,ρ1)) Q->R v H1):Po C own ma σ F H o R:=by
 cases o with
 | ok p=>obtain ⟨d,ρ1⟩:=p;exact λv F1 H1 a c mo=>h v F1 H1 d ρ1 a c mo (Po.shift (show Po C own m σ F H (k (d,ρ1)) Q from hp) c)
 | exc x=>exact hp
 | bad=>exact hp.elim
def PoV (C:Ct) (m:Mo) (F H:Hp) (r:Out D) (Q:VK):Prop:=match r with
 | .ok d=>∀ v F' H',Same F' H'->Chg No F H F' H'->MoIs C.K m H F' H' v d->Q v H'
 | _=>False
def OpD (X:Cx) (C:Ct) (m:Mo) (f:iM->iM->Sem iM) (g:D->D->Out D):Prop:=
 OpR X f (λx y H Q=>∃ F dx d,Same F H/\TopIs C.K F H x dx/\TopIs C.K F H y d/\PoV C m F H (g dx d) Q)
def UnD (X:Cx) (C:Ct) (m:Mo) (f:iM->Sem iM) (g:D->Out D):Prop:=
 UnR X f (λx H Q=>∃ F dx,Same F H/\TopIs C.K F H x dx/\PoV C m F H (g dx) Q)
noncomputable def Out.plain {α:Type}:Out α->Out α
 | .ok a=>.ok a
 | _=>.bad
theorem PoV.of {C:Ct} {own:List Nat} {m:Mo} {σ:St} {F H:Hp} {o:Out D} {ρ:Sl} {Q:VK} (a:Rep C.K own F H σ ρ) (h:Po C own m σ F H (o.plain.bind λd=>.ok (d,ρ)) Q):PoV C m F H o Q:=by
 cases o with
 | ok d=>exact λv F' H' s c mo=>h v F' H' (a.grow c s) c.ofNo mo
 | exc c=>exact h.elim
 | bad=>exact h.elim
noncomputable def d2 (g:D->D->Out D) (fa fb:Sl->Out (D×Sl)):Sl->Out (D×Sl):=λρ=>(fa ρ).bind λp=>(fb p.2).bind λq=>(g p.1 q.1).plain.bind λd=>.ok (d,q.2)
noncomputable def d1 (g:D->Out D) (fa:Sl->Out (D×Sl)):Sl->Out (D×Sl):=λρ=>(fa ρ).bind λp=>(g p.1).plain.bind λd=>.ok (d,p.2)
section
variable {X:Cx} {C:Ct} {own:List Nat} {a b:Expr} {fa fb:Sl->Out (D×Sl)} {m ma mb:Mo} {pos:Pos}
theorem KC {g:D->D->Out D} {σ:St} {H:Hp} {Q:VK} (f:ma≠.any) (h:tE C own m (d2 g fa fb) σ H Q):tE C own ma fa σ H λx H1=>tE C own mb fb σ H1 λy H2=>∃ F dx i,Same F H2/\TopIs C.K F H2 x dx/\TopIs C.K F H2 y i/\PoV C m F H2 (g dx i) Q:=by obtain ⟨F,ρ,p,h⟩:=h;refine ⟨F,ρ,p,Po.bind h λv F1 H1 d ρ1 a k c h1=>⟨F1,ρ1,a,Po.bind h1 λw j H2 e ρ2 r c2 b h2=>?_⟩⟩;exact ⟨j,d,e,r.sub,(c.grow f c2 λx z=>(p.OA_there z).1).top,b.top,PoV.of r h2⟩
theorem Jk {g:D->Out D} {σ:St} {H:Hp} {Q:VK} (h:tE C own m (d1 g fa) σ H Q):tE C own ma fa σ H λx H1=>∃ F dx,Same F H1/\TopIs C.K F H1 x dx/\PoV C m F H1 (g dx) Q:=by obtain ⟨F,ρ,r,h⟩:=h;refine ⟨F,ρ,r,Po.bind h λv F1 H1 d ρ1 a k c h1=>?_⟩;exact ⟨F1,d,a.sub,c.top,PoV.of a h1⟩
theorem jF {e:Expr} {t t':TE} (h:PE X e t) (i:∀ σ H Q,t' σ H Q->t σ H Q):PE X e t':=⟨λpins s σ H Q I hw=>h pins s σ H Q I (i σ H Q hw)⟩
theorem qaL {e:Expr} {t t':TT} (h:PT X e t) (i:∀ σ H Q,t' σ H Q->t σ H Q):PT X e t':=⟨λpins s σ H Q I hw=>h pins s σ H Q I (i σ H Q hw)⟩
theorem kl {op:Operator} {g:D->D->Out D} (o:OpD X C m (binaryOp op) g) (c:PE X a (tE C own ma fa)) (d:PE X b (tE C own mb fb)) (f:ma≠.any:=by decide):PE X (.BinOp a op b pos) (tE C own m (d2 g fa fb)):=
 jF (qgY o c d) λ_ _ _ h=>KC f h
theorem ur {op:CmpOp} {g:D->D->Out D} (o:OpD X C m (compareOp op) g) (c:PE X a (tE C own ma fa)) (d:PE X b (tE C own mb fb)) (f:ma≠.any:=by decide)
  (k:behindInMarks op b=false:=by first | exact qbY _ | with_unfolding_all rfl):PE X (.Compare a [op] [b] pos) (tE C own m (d2 g fa fb)):=
 jF (qcH o c d k) λ_ _ _ h=>KC f h
theorem qe3 {op:UnaryOp} {g:D->Out D} (o:UnD X C m (unaryOp op) g) (b:PE X a (tE C own ma fa)):PE X (.UnaryOp op a pos) (tE C own m (d1 g fa)):=
 jF (qgZ o b) λ_ _ _ h=>Jk h
end
instance:DecidableEq Mo:=λa b=>by cases a <;> cases b <;> first | exact isTrue rfl | exact isFalse (by intro h; cases h)
theorem qaM {K:Frag} {own:List Nat} {H0 F H:Hp} {σ:St} {ρ:Sl} {v:V} {d:D} (r:Rep K own F H σ ρ) (hA:∀ b,OA own σ b->H0 b≠iL) (h:MoIs K .fr H0 F H v d):∃ F',Rep K own F' H σ ρ/\Same F F'/\Is K F' v d/\∀ b,F' b≠iL->F b≠iL\/H0 b=none:=by
 obtain ⟨a,rfl,h0,E,o⟩:=h;obtain ⟨u,hu⟩:∃ u,H a=iJ u:=by
  cases q:H a with
  | none=>exact absurd q o.there
  | some u=>exact ⟨u,rfl⟩
 have gr:Same F (upd F a u):=λb w e=>by rw [qw (qE e E)]; exact e
 have y:Same (upd F a u) H:=λb w e=>by
  by_cases q:b=a;·subst q; rw [qo] at e; cases e; exact hu
  ·rw [qw q] at e; exact r.sub b w e
 refine ⟨upd F a u,⟨y,r.len,λi d hi e=>?_,λi d hi e=>?_,r.opn,r.dis⟩,gr,?_,λb f=>?_⟩;·obtain ⟨v,h1,h2⟩:=r.val i d hi e;exact ⟨v,h1,h2.mono gr⟩
 ·obtain ⟨c,h1,h2,h3⟩:=r.ow i d hi e;refine ⟨c,h1,?_,h3.grow gr λ_ q=>q⟩;have n:c≠a:=λq=>by subst q; exact hA c ⟨i,hi,h1⟩ h0
  rw [qw n]; exact h2
 ·cases d with
  | lst ds=>obtain ⟨xs,e,t⟩:=o; rw [hu] at e; cases e; exact .lst (.inl (.inl qo)) (t.mono gr)
  | dct ds=>obtain ⟨xs,e,t⟩:=o; rw [hu] at e; cases e; exact .dct qo (t.mono gr)
  | ins C fs=>obtain ⟨dx,xs,e,t⟩:=o; rw [hu] at e; cases e; exact .ins qo (t.mono gr)
  | at_ b ds=>obtain ⟨eb,xs,e,t⟩:=o; rw [hu] at e; cases e; subst eb; exact .at_ (.inl (.inl qo)) (t.mono gr)
  | _=>exact o.elim
 ·by_cases q:b=a;·exact .inr (by rw [q]; exact h0)
  ·rw [qw q] at f; exact .inl f
theorem Po.toSh {C:Ct} {own:List Nat} {m:Mo} {σ:St} {F H:Hp} {d:Sl} {r:Out (D×Sl)} {Q:VK} (f:Rep C.K own F H σ d) (g:m≠.any) (h:Po C own .sh σ F H r Q):Po C own m σ F H r Q:=by
 cases r with
 | ok p=>
  intro v F' H' a c mo;cases m with
  | sh=>exact h v F' H' a c mo
  | fr=>
   obtain ⟨j,e,gr,is,n⟩:=qaM a (λb z=>(f.OA_there z).1) mo;refine h v j H' e ⟨c.keep,c.stay,c.grow.trans gr,λb i=>?_⟩ is;rcases n b i with z | z;·exact c.new b z
   ·exact .inr (.inl z)
  | any=>exact absurd rfl g
 | exc x=>exact h
 | bad=>exact h.elim
section
variable {X:Cx} {C:Ct} {own:List Nat} {a b e:Expr} {f fa fb:Sl->Out (D×Sl)} {m ma mb:Mo} {pos:Pos}
theorem yQ (h:PE X e (tE C own m f)) (c:m≠.any):PE X e (tE C own .sh f):=jF h λ_ _ _ ⟨F,ρ,a,p⟩=>⟨F,ρ,a,p.toSh a c⟩
noncomputable def qe (i:Nat):Sl->Out (D×Sl):=λρ=>match ρ[i]? with
 | some (iJ d)=>.ok (d,ρ)
 | _=>.bad
noncomputable def dC (d:D):Sl->Out (D×Sl):=λρ=>.ok (d,ρ)
theorem qe4 {i:Nat} {x:Str} (b:X.N[i]?=iJ x) (c:Vis X.env.scope x) (m:i∉own) (hd:(x == ("__debug__":Str))=false:=by decide) (a:(x == ("__classdict__":Str))=false:=by decide):PE X (.Name x pos) (tE C own .sh (qe i)):=by
 refine jF (um b c hd a) λσ H Q ⟨F,ρ,r,h⟩=>?_;unfold qe at h;cases e:ρ[i]? with
 | none=>rw [e] at h; exact h.elim
 | some o=>
  cases o with
  | none=>rw [e] at h; exact h.elim
  | some d=>rw [e] at h;obtain ⟨v,h1,h2⟩:=r.val i d m e;exact ⟨v,h1,h v F H r .refl h2⟩
theorem jQ {i:Nat} {x:Str} (f:X.N[i]?=iJ x) (c:Vis X.env.scope x) (m:i∈own) (hd:(x == ("__debug__":Str))=false:=by decide) (b:(x == ("__classdict__":Str))=false:=by decide):PE X (.Name x pos) (tE C own .any (qe i)):=by
 refine jF (um f c hd b) λσ H Q ⟨F,ρ,r,h⟩=>?_;unfold qe at h;cases e:ρ[i]? with
 | none=>rw [e] at h; exact h.elim
 | some o=>
  cases o with
  | none=>rw [e] at h; exact h.elim
  | some d=>rw [e] at h;obtain ⟨a,h1,h2,h3⟩:=r.ow i d m e;exact ⟨_,h1,h _ F H r .refl (.inr ⟨a,rfl,h3⟩)⟩
theorem qe5 {v:V} {d:D} (h:PE X e (tC v)) (i:∀ F,Is C.K F v d):PE X e (tE C own .sh (dC d)):=jF h λσ H Q ⟨F,ρ,a,h⟩=>h v F H a .refl (i F)
theorem qy {i j pos}:PE X (.Constant (.int i) j pos) (tE C own .sh (dC (.int i))):=qe5 qex λ_=>.int i
theorem ut {i j pos}:PE X (.Constant (.bool i) j pos) (tE C own .sh (dC (.bl i))):=qe5 qcA λ_=>.bl i
theorem Uo {j pos}:PE X (.Constant .none j pos) (tE C own .sh (dC .non)):=qe5 qey λ_=>.non
theorem vk {x j pos} (h:iu x<=sizeLine:=by decide):PE X (.Constant (.str x) j pos) (tE C own .sh (dC (.str x))):=qe5 qbV λ_=>.str h
theorem qc1 {x:Str} {v:V} {d:D} {u:iM} (hg:Gl X x) (c:X.mg x=iJ u) (r:RelV v u) (i:∀ F,Is C.K F v d) (hd:(x == ("__debug__":Str))=false:=by decide):PE X (.Name x pos) (tE C own .sh (dC d)):=qe5 (XD hg c r hd) i
noncomputable def KG (g:Int->Int->Out D):D->D->Out D
 | .int i,.int j=>g i j
 | _,_=>.bad
theorem TopIs.int {K:Frag} {F H:Hp} {v:V} {i:Int} (h:TopIs K F H v (.int i)):v=.int i:=by
 rcases h with h | ⟨a,_,h⟩
 ·cases h; rfl
 ·exact h.elim
theorem TopIs.str {K:Frag} {F H:Hp} {v:V} {x:Str} (h:TopIs K F H v (.str x)):v=.str x/\x.length<=sizeLine:=by
 rcases h with h | ⟨a,_,h⟩
 ·cases h; exact ⟨rfl,by assumption⟩
 ·exact h.elim
theorem TopIs.bl {K:Frag} {F H:Hp} {v:V} {x:Bool} (h:TopIs K F H v (.bl x)):v=.bl x:=by
 rcases h with h | ⟨a,_,h⟩
 ·cases h; rfl
 ·exact h.elim
theorem TopIs.non {K:Frag} {F H:Hp} {v:V} (h:TopIs K F H v .non):v=.non:=by
 rcases h with h | ⟨a,_,h⟩
 ·cases h; rfl
 ·exact h.elim
theorem TopIs.raw {K:Frag} {F H:Hp} {v u:V} (h:TopIs K F H v (.raw u)):v=u:=by
 rcases h with h | ⟨a,_,h⟩
 ·cases h; rfl
 ·exact h.elim
theorem TopIs.lst {K:Frag} {F H:Hp} {v:V} {ds:List D} (s:Same F H) (h:TopIs K F H v (.lst ds)):∃ a xs,v=.ref a/\SqL K H a xs/\IsL K F xs ds:=by
 rcases h with h | ⟨a,e,h⟩
 ·cases h with
  | lst h t=>exact ⟨_,_,rfl,s.seq h,t⟩
 ·obtain ⟨xs,i,t⟩:=h;exact ⟨a,xs,e,.inl (.inl i),t⟩
theorem TopIs.tup {K:Frag} {F H:Hp} {v:V} {ds:List D} (s:Same F H) (h:TopIs K F H v (.tup ds)):∃ a xs,v=.ref a/\SqT K H a xs/\IsL K F xs ds:=by
 rcases h with h | ⟨a,e,h⟩
 ·cases h with
  | tup h t=>exact ⟨_,_,rfl,qR s h,t⟩
 ·exact h.elim
theorem TopIs.dct {K:Frag} {F H:Hp} {v:V} {ds:List (Key×D)} (s:Same F H) (h:TopIs K F H v (.dct ds)):∃ a kv,v=.ref a/\H a=iJ (.dK kv)/\IsK K F kv ds:=by
 rcases h with h | ⟨a,e,h⟩
 ·cases h with
  | dct h t=>exact ⟨_,_,rfl,s _ _ h,t⟩
 ·obtain ⟨xs,i,t⟩:=h;exact ⟨a,xs,e,i,t⟩
theorem Zg {fn:iM->iM->Sem iM} {P:Int->Int->Prop} [∀ i j,Decidable (P i j)] {g:Int->Int->V} {d:Int->Int->D} (m:OpR X fn (rI P g)) (hg:∀ F i j,Is C.K F (g i j) (d i j)):OpD X C .sh fn (KG λi j=>if P i j then .ok (d i j) else .bad):=by
 intro pins s σ H x y v u Q I r c h;obtain ⟨F,dx,a,b,t,ty,po⟩:=h;cases dx <;> try exact po.elim
 cases a <;> try exact po.elim
 rename_i i j;have po:PoV C .sh F H (if P i j then .ok (d i j) else .bad) Q:=po;obtain rfl:=t.int;obtain rfl:=ty.int;by_cases q:P i j;·rw [if_pos q] at po;exact m pins s σ H _ _ v u Q I r c ⟨i,j,rfl,rfl,q,po (g i j) F H b .refl (hg F i j)⟩
 ·rw [if_neg q] at po; exact po.elim
theorem Zh {fn:iM->iM->Sem iM} {g:Int->Int->V} {d:Int->Int->D} (m:OpR X fn (rI0 g)) (hg:∀ F i j,Is C.K F (g i j) (d i j)):OpD X C .sh fn (KG λi j=>.ok (d i j)):=by
 intro pins s σ H x y v u Q I r c h;obtain ⟨F,dx,a,b,t,ty,po⟩:=h;cases dx <;> try exact po.elim
 cases a <;> try exact po.elim
 rename_i i j;obtain rfl:=t.int;obtain rfl:=ty.int;exact m pins s σ H _ _ v u Q I r c ⟨i,j,rfl,rfl,po (g i j) F H b .refl (hg F i j)⟩
noncomputable def YO:D->D->Out D:=KG λi j=>.ok (.int (i - j))
theorem QL:OpD X C .sh (binaryOp .Sub) YO:=Zh qeL λ_ _ _=>.int _
instance:∀ i j,Decidable (CMul i j):=λi j=>inferInstanceAs (Decidable (_\/_))
instance:∀ i j,Decidable (qiI i j):=λi j=>inferInstanceAs (Decidable (_/\_))
noncomputable def qen:D->D->Out D:=KG λi j=>if CMul i j then .ok (.int (i * j)) else .bad
theorem Zi:OpD X C .sh (binaryOp .Mult) qen:=Zg qeM λ_ _ _=>.int _
noncomputable def qan:D->D->Out D:=KG λi j=>if 0 < j then .ok (.int (i % j)) else .bad
theorem QM:OpD X C .sh (binaryOp .Mod) qan:=Zg qeN λ_ _ _=>.int _
noncomputable def vI (x y:Str):Bool:=decide (x.cps.toList < y.cps.toList)
noncomputable def ltD:D->D->Out D
 | .int i,.int j=>.ok (.bl (decide (i < j)))
 | .str x,.str y=>.ok (.bl (vI x y))
 | _,_=>.bad
theorem qaN:OpD X C .sh (compareOp .Lt) ltD:=by
 intro pins s σ H x y v u Q I d c h;obtain ⟨F,dx,a,b,t,ty,po⟩:=h;cases dx <;> try exact po.elim
 ·cases a <;> try exact po.elim
  obtain rfl:=t.int;obtain rfl:=ty.int;exact qg1 pins s σ H _ _ v u Q I d c ⟨_,_,rfl,rfl,po _ F H b .refl (.bl _)⟩
 ·cases a <;> try exact po.elim
  obtain ⟨rfl,_⟩:=t.str;obtain ⟨rfl,_⟩:=ty.str;exact XM pins s σ H _ _ v u Q I d c ⟨_,_,rfl,rfl,po _ F H b .refl (.bl _)⟩
end
noncomputable def eqS:D->D->Option Bool
 | .non,.non=>iJ iO
 | .non,.bl _=>iJ iN
 | .non,.int _=>iJ iN
 | .non,.str _=>iJ iN
 | .non,.tup _=>iJ iN
 | .non,.lst _=>iJ iN
 | .bl _,.non=>iJ iN
 | .bl a,.bl b=>iJ (a == b)
 | .bl a,.int b=>iJ ((if a then 1 else 0) == b)
 | .bl _,.str _=>iJ iN
 | .bl _,.tup _=>iJ iN
 | .bl _,.lst _=>iJ iN
 | .int _,.non=>iJ iN
 | .int a,.bl b=>iJ (a == (if b then 1 else 0))
 | .int a,.int b=>iJ (a == b)
 | .int _,.str _=>iJ iN
 | .int _,.tup _=>iJ iN
 | .int _,.lst _=>iJ iN
 | .str _,.non=>iJ iN
 | .str _,.bl _=>iJ iN
 | .str _,.int _=>iJ iN
 | .str a,.str b=>iJ (a == b)
 | .str _,.tup _=>iJ iN
 | .str _,.lst _=>iJ iN
 | .tup _,.non=>iJ iN
 | .tup _,.bl _=>iJ iN
 | .tup _,.int _=>iJ iN
 | .tup _,.str _=>iJ iN
 | .tup _,.lst _=>iJ iN
 | .lst _,.non=>iJ iN
 | .lst _,.bl _=>iJ iN
 | .lst _,.int _=>iJ iN
 | .lst _,.str _=>iJ iN
 | .lst _,.tup _=>iJ iN
 | _,_=>iL
noncomputable def wH (f:D->D->Option Bool):List D->List D->Option Bool
 | x::xs,y::ys=>(f x y).bind λa=>(wH f xs ys).bind λb=>iJ (a&&b)
 | _,_=>iJ iO
noncomputable def eqN:Nat->D->D->Option Bool
 | n+1,.tup xs,.tup ys=>(wH (eqN n) xs ys).map λb=>b&&xs.length == ys.length
 | n+1,.lst xs,.lst ys=>if xs.length=ys.length then wH (eqN n) xs ys else iJ iN
 | _,a,b=>eqS a b
theorem Up {n:Nat} {a b:D} (h1:∀ xs ys,a=.tup xs->b≠.tup ys) (h2:∀ xs ys,a=.lst xs->b≠.lst ys):eqN n a b=eqS a b:=by
 cases n with
 | zero=>rfl
 | succ n=>
  cases a with
  | tup xs=>cases b with
   | tup ys=>exact absurd rfl (h1 xs ys rfl)
   | _=>rfl
  | lst xs=>cases b with
   | lst ys=>exact absurd rfl (h2 xs ys rfl)
   | _=>rfl
  | _=>rfl
noncomputable def itE (f:D->D->Option Bool) (xs ys:List D) (j:Nat):Bool:=((xs[j]?).bind λx=>(ys[j]?).bind λy=>f x y).getD iN
theorem wn {f:D->D->Option Bool}:∀ {xs ys:List D} {b:Bool},wH f xs ys=iJ b->b=(aN (min xs.length ys.length)).all (itE f xs ys)
 | [],ys,b,h=>by simp [wH] at h ⊢; exact h
 | x::xs,[],b,h=>by simp [wH] at h ⊢; exact h
 | x::xs,y::ys,b,h=>by
  unfold wH at h;cases e:f x y with
  | none=>rw [e] at h; simp at h
  | some a=>
   cases i:wH f xs ys with
   | none=>rw [e,i] at h; simp at h
   | some c=>
    rw [e,i] at h;have h:(a&&c)=b:=by simpa using h
    have d:=wn i;have m:min (x::xs).length (y::ys).length=min xs.length ys.length+1:=by simp only [aq]; omega
    rw [m,List.range_succ_eq_map,fy,List.all_map];have g:itE f (x::xs) (y::ys) 0=a:=by simp [itE,e]
    have e1:(itE f (x::xs) (y::ys)) ∘ Nat.succ=itE f xs ys:=by funext j;simp [itE]
    rw [g,e1,<-d];exact h.symm
theorem Zj {f:D->D->Option Bool}:∀ {xs ys:List D} {b:Bool},wH f xs ys=iJ b->∀ (j:Nat) (x y:D),xs[j]?=iJ x->ys[j]?=iJ y->f x y=iJ (itE f xs ys j)
 | [],ys,b,_,j,x,y,hx,_=>by simp at hx
 | x::xs,[],b,_,j,_,y,_,hy=>by simp at hy
 | x::xs,y::ys,b,h,0,x',y',hx,hy=>by
  simp at hx hy;subst hx hy;unfold wH at h;cases e:f x y with
  | none=>rw [e] at h; simp at h
  | some a=>simp [itE,e]
 | x::xs,y::ys,b,h,j+1,x',y',hx,hy=>by
  unfold wH at h;cases e:f x y with
  | none=>rw [e] at h; simp at h
  | some a=>
   cases i:wH f xs ys with
   | none=>rw [e,i] at h; simp at h
   | some c=>have q:=Zj i j x' y' (by simpa using hx) (by simpa using hy);rw [q];simp [itE]
section
variable {X:Cx} {pins:List (Addr×Obj)} {σ:St} {F H:Hp} {s:iP}
theorem Zk (I:Inv X pins σ H s) (y:Same F H):∀ (n:Nat) {v:V} {d e:D} {b:Bool},Is X.K F v d->Is X.K F v e->eqN n d e=iJ b->b=true:=by
 intro n
 induction n with
 | zero=>
  intro v d e b h1 h2 h;cases h1 <;> cases h2 <;> simp [eqN,eqS] at h <;> try exact h.symm
  all_goals first
   | exact h
   | (rename_i p1 _ _ _ p2 _; obtain ⟨_,_,i,_⟩:=I.list (y.seq (by assumption)); obtain ⟨_,_,f,_⟩:=I.tuple (qR y (by assumption)); exact absurd rfl (cB i.isList f))
   | (rename_i p1 _ _ _ p2 _; obtain ⟨_,_,i,_⟩:=I.list (y.seq (by assumption)); obtain ⟨_,_,f,_⟩:=I.tuple (qR y (by assumption)); exact absurd rfl (cB i.isList f).symm)
   | skip
 | succ n k=>
  have l:∀ {xs:List V} {ds es:List D} {b:Bool},IsL X.K F xs ds->IsL X.K F xs es->wH (eqN n) ds es=iJ b->b=true:=by
   intro xs
   induction xs with
   | nil=>intro ds es b h1 h2 h; cases h1; cases h2; simp [wH] at h; exact h
   | cons x xs j=>
    intro ds es b h1 h2 h;cases h1 with
    | cons p g=>
     cases h2 with
     | cons o t=>
      rename_i d ds e es;unfold wH at h;cases q:eqN n d e with
      | none=>rw [q] at h; simp at h
      | some a=>
       cases f:wH (eqN n) ds es with
       | none=>rw [q,f] at h; simp at h
       | some c=>rw [q,f] at h;rw [k p o q,j g t f] at h;simpa using h.symm
  intro v d e b h1 h2 h;cases h1 with
  | tup p1 g=>
   cases h2 with
   | tup p2 t=>
    have e:=I.tuple_inj (qR y p1) (qR y p2);subst e;simp only [eqN] at h;rename_i xs ds es;cases q:wH (eqN n) ds es with
    | none=>rw [q] at h; simp at h
    | some c=>
     rw [q] at h;have hl:ds.length=es.length:=by rw [<-g.length,<-t.length]
     have m:(ds.length == es.length)=true:=by simp [hl]
     rw [l g t q] at h;simpa [m] using h.symm
   | lst p2 t=>obtain ⟨_,_,i,_⟩:=I.list (y.seq p2);obtain ⟨_,_,f,_⟩:=I.tuple (qR y p1);exact absurd rfl (cB i.isList f)
   | _=>simp [eqN,eqS] at h
  | lst p1 g=>
   cases h2 with
   | lst p2 t=>have e:=I.list_inj (y.seq p1) (y.seq p2);subst e;simp only [eqN] at h;have hl:=g.length.symm.trans t.length;rw [if_pos hl] at h;exact l g t h
   | tup p2 t=>obtain ⟨_,_,i,_⟩:=I.list (y.seq p1);obtain ⟨_,_,f,_⟩:=I.tuple (qR y p2);exact absurd rfl (cB i.isList f)
   | _=>simp [eqN,eqS] at h
  | _=>cases h2 <;> simp [eqN,eqS] at h <;> first | exact h.symm | exact h | skip
end
open PySem.SeqAt
section
variable {X:Cx} {pins:List (Addr×Obj)} {σ:St} {F H:Hp} {s:iP}
theorem Vals.getE {xs:List V} {us:List iM} (r:Vals xs us) {j:Nat} (h:j < us.length):∃ x,xs[j]?=iJ x/\RelV x us[j]:=by
 have hl:=r.length;have D:j < xs.length:=by omega
 obtain ⟨u,e1,e⟩:=Vals.get (i:=j) (x:=xs[j]) r (by simp [D]);refine ⟨xs[j],by simp [D],?_⟩;rw [aE h] at e1;cases e1;exact e
theorem uS {A:iV} {n:Nat} {xs ys:List V} {ds es:List D} {us ws:List iM} {b:Bool} (g:∀ {v w:V} {d e:D} {u t:iM} {b:Bool},Is X.K F v d->Is X.K F w e->RelV v u->RelV w t->eqN n d e=iJ b->EqAt A s u t b)
  (r1:Vals xs us) (r2:Vals ys ws) (i1:IsL X.K F xs ds) (i2:IsL X.K F ys es) (h:wH (eqN n) ds es=iJ b) :
  ∀ j (h1:j < us.toArray.size) (h2:j < ws.toArray.size),EqAt A s us.toArray[j] ws.toArray[j] (itE (eqN n) ds es j):=by
 intro j h1 h2;have c:j < us.length:=by simpa using h1
 have a:j < ws.length:=by simpa using h2
 obtain ⟨x,ex,f⟩:=Vals.getE r1 c;obtain ⟨y,l,r⟩:=Vals.getE r2 a;obtain ⟨d,o,i⟩:=i1.get ex;obtain ⟨e,m,k⟩:=i2.get l;have q:=Zj h j d e o m;simpa using g i k f r q
theorem Uq {A:iV} {n:Nat} {a c:Addr} {xs ys:List V} {ds es:List D} {b:Bool} (I:Inv X pins σ H s) (j:∀ {v w:V} {d e:D} {u t:iM} {b:Bool},Is X.K F v d->Is X.K F w e->RelV v u->RelV w t->eqN n d e=iJ b->EqAt A.in1 s u t b)
  (p1:SqT X.K H a xs) (p2:SqT X.K H c ys) (i1:IsL X.K F xs ds) (i2:IsL X.K F ys es) (h:eqN (n+1) (.tup ds) (.tup es)=iJ b) (m:A.units < cLine):RcAt A s (.ref a) (.ref c) b:=by
 obtain ⟨us,r1,g,_⟩:=I.tuple p1;obtain ⟨ws,r2,f,_⟩:=I.tuple p2;simp only [eqN] at h;cases q:wH (eqN n) ds es with
 | none=>rw [q] at h; simp at h
 | some k=>
  rw [q] at h;have i:us.toArray.size=ds.length:=by rw [au,<-r1.length,i1.length]
  have l:ws.toArray.size=es.length:=by rw [au,<-r2.length,i2.length]
  have z:=RcAt.tuples (A:=A) g f m (uS (A:=A.in1) j r1 r2 i1 i2 q);rw [i,l,<-wn q] at z;have e:b=(k&&ds.length == es.length):=by simpa using h.symm
  rw [e]; exact z
theorem Ur {A:iV} {n:Nat} {a c:Addr} {xs ys:List V} {ds es:List D} {b:Bool} (I:Inv X pins σ H s) (k:∀ {v w:V} {d e:D} {u t:iM} {b:Bool},Is X.K F v d->Is X.K F w e->RelV v u->RelV w t->eqN n d e=iJ b->EqAt A.in1 s u t b)
  (p1:SqL X.K H a xs) (p2:SqL X.K H c ys) (i1:IsL X.K F xs ds) (i2:IsL X.K F ys es) (h:eqN (n+1) (.lst ds) (.lst es)=iJ b) (j:A.units < cLine):RcAt A s (.ref a) (.ref c) b:=by
 obtain ⟨us,r1,g,_⟩:=I.list p1;obtain ⟨ws,r2,f,_⟩:=I.list p2;have i:us.toArray.size=ds.length:=by rw [au,<-r1.length,i1.length]
 have l:ws.toArray.size=es.length:=by rw [au,<-r2.length,i2.length]
 simp only [eqN] at h;by_cases hl:ds.length=es.length;·rw [if_pos hl] at h;have z:=RcAt.lists (A:=A) g.isList f.isList (by omega) j (uS (A:=A.in1) k r1 r2 i1 i2 h);have e:=wn h;rw [i] at z;rw [e,show min ds.length es.length=ds.length by omega];exact z
 ·rw [if_neg hl] at h;cases h;exact RcAt.lists_lengths g.isList f.isList (bne_iff_ne.mpr (by rw [i,l]; exact hl)) j
def Kd (s:iP):D->iM->Prop
 | .non,u=>u=.none
 | .bl b,u=>u=.bool b
 | .int i,u=>∃ t,u=.int i t
 | .str x,u=>∃ t,u=.str x t
 | .tup _,u=>∃ a its,u=.ref a/\s.heap.IsTuple a its
 | .lst _,u=>∃ a its,u=.ref a/\s.heap.IsList a its
 | _,_=>True
theorem YQ (I:Inv X pins σ H s) (y:Same F H) {v:V} {d:D} {u:iM} (t:TopIs X.K F H v d) (r:RelV v u):Kd s d u:=by
 cases d with
 | non=>obtain rfl:=t.non; exact r
 | bl=>obtain rfl:=t.bl; exact r
 | int=>obtain rfl:=t.int; exact r
 | str=>obtain ⟨rfl,_⟩:=t.str; exact r
 | tup=>obtain ⟨a,_,rfl,p,_⟩:=t.tup y; obtain ⟨_,_,q,_⟩:=I.tuple p; exact ⟨a,_,r,q⟩
 | lst=>obtain ⟨a,_,rfl,p,_⟩:=t.lst y; obtain ⟨_,_,q,_⟩:=I.list p; exact ⟨a,_,r,q.isList⟩
 | _=>trivial
theorem qe6 {A:iV} {d e:D} {u t:iM} {b:Bool} (f:A.units < cLine) (k1:Kd s d u) (k2:Kd s e t) (h:eqS d e=iJ b):EqAt A s u t b:=by
 cases d <;> cases e <;> try (cases h; done)
 all_goals
  cases h;first | obtain ⟨_,_,rfl,a⟩:=k1 | obtain ⟨_,rfl⟩:=k1 | cases k1
  first | obtain ⟨_,_,rfl,q⟩:=k2 | obtain ⟨_,rfl⟩:=k2 | cases k2
  with_reducible first | exact EqAt.same _ | exact EqAt.none_bool _ | exact EqAt.none_int _ _ | exact EqAt.none_str _ _ | exact EqAt.bool_none _ | exact EqAt.bool_bool _ _ | exact EqAt.bool_int _ _ _ | exact EqAt.bool_str _ _ _ | exact EqAt.int_none _ _ | exact EqAt.int_bool _ _ _ | exact EqAt.int_int _ _ _ _ | exact EqAt.int_str _ _ _ _ | exact EqAt.str_none _ _ | exact EqAt.str_bool _ _ _ | exact EqAt.str_int _ _ _ _ | exact EqAt.str_str _ _ _ _ | exact EqAt.none_tuple q f | exact EqAt.tuple_none a f | exact EqAt.none_list q f | exact EqAt.list_none a f | exact EqAt.bool_tuple _ q f | exact EqAt.tuple_bool _ a f | exact EqAt.bool_list _ q f | exact EqAt.list_bool _ a f | exact EqAt.int_tuple _ _ q f | exact EqAt.tuple_int _ _ a f | exact EqAt.int_list _ _ q f | exact EqAt.list_int _ _ a f | exact EqAt.str_tuple _ _ q f | exact EqAt.tuple_str _ _ a f | exact EqAt.str_list _ _ q f | exact EqAt.list_str _ _ a f | exact EqAt.tuple_list a q f | exact EqAt.list_tuple a q f
theorem Zl (I:Inv X pins σ H s) (y:Same F H):∀ (n:Nat) {A:iV} {v w:V} {d e:D} {u t:iM} {b:Bool},A.units+n < cLine->Is X.K F v d->Is X.K F w e->RelV v u->RelV w t->eqN n d e=iJ b->EqAt A s u t b:=by
 intro n
 induction n with
 | zero=>exact λB h1 h2 x r h=>qe6 (by omega) (YQ I y (.inl h1) x) (YQ I y (.inl h2) r) h
 | succ n l=>
  intro A v w d e u t b B h1 h2 x r h;have i:A.in1.units+n < cLine:=by show A.units+1+n < cLine; omega
  by_cases both:(∃ xs ys,d=.tup xs/\e=.tup ys)\/(∃ xs ys,d=.lst xs/\e=.lst ys)
  ·rcases both with ⟨ds,es,rfl,rfl⟩ | ⟨ds,es,rfl,rfl⟩
   ·have g:=h1;have f:=h2;cases h1 with
    | tup p1 k=>
     cases h2 with
     | tup p2 j=>
      rename_i a xs c ys;cases x;cases r;by_cases ne:a=c;·subst ne;rw [Zk I y (n+1) g f h];exact EqAt.same _
      ·exact EqAt.of_refs ne (Uq I (λp o z q m=>l i p o z q m) (qR y p1) (qR y p2) k j h (by omega))
   ·have g:=h1;have f:=h2;cases h1 with
    | lst p1 k=>
     cases h2 with
     | lst p2 j=>
      rename_i a xs c ys;cases x;cases r;by_cases ne:a=c;·subst ne;rw [Zk I y (n+1) g f h];exact EqAt.same _
      ·exact EqAt.of_refs ne (Ur I (λp o z q m=>l i p o z q m) (y.seq p1) (y.seq p2) k j h (by omega))
  ·have e1:eqN (n+1) d e=eqS d e:=Up (λxs ys p o=>both (.inl ⟨xs,ys,p,o⟩)) (λxs ys p o=>both (.inr ⟨xs,ys,p,o⟩));have C:eqN n d e=eqS d e:=Up (λxs ys p o=>both (.inl ⟨xs,ys,p,o⟩)) (λxs ys p o=>both (.inr ⟨xs,ys,p,o⟩));exact l (by omega) h1 h2 x r (by rw [C,<-e1]; exact h)
end
end L2.D2
namespace L2.D2
open PySem PySem.Spec PyProof.Rows
open PySem.SeqAt
variable {X:Cx} {A:iV} {n:Nat} {b:Bool}
section
variable {pins:List (Addr×Obj)} {σ:St} {F H:Hp} {s:iP}
theorem qaO {a c:Addr} {xs ys:List V} {ds es:List D} (I:Inv X pins σ H s) (j:∀ {v w:V} {d e:D} {u t:iM} {b:Bool},Is X.K F v d->Is X.K F w e->RelV v u->RelV w t->eqN n d e=iJ b->EqAt A.in1 s u t b)
  (p1:SqT X.K H a xs) (p2:SqT X.K H c ys) (i1:IsL X.K F xs ds) (i2:IsL X.K F ys es) (h:eqN (n+1) (.tup ds) (.tup es)=iJ b) (m:A.units < cLine):RcNeAt A s (.ref a) (.ref c) (!b):=by
 obtain ⟨us,r1,g,_⟩:=I.tuple p1;obtain ⟨ws,r2,f,_⟩:=I.tuple p2;simp only [eqN] at h;cases q:wH (eqN n) ds es with
 | none=>rw [q] at h; simp at h
 | some k=>
  rw [q] at h;have i:us.toArray.size=ds.length:=by rw [au,<-r1.length,i1.length]
  have l:ws.toArray.size=es.length:=by rw [au,<-r2.length,i2.length]
  have z:=RcNeAt.tuples (A:=A) g f m (uS (A:=A.in1) j r1 r2 i1 i2 q);rw [i,l,<-wn q] at z;have e:b=(k&&ds.length == es.length):=by simpa using h.symm
  rw [e]; exact z
theorem qaP {a c:Addr} {xs ys:List V} {ds es:List D} (I:Inv X pins σ H s) (k:∀ {v w:V} {d e:D} {u t:iM} {b:Bool},Is X.K F v d->Is X.K F w e->RelV v u->RelV w t->eqN n d e=iJ b->EqAt A.in1 s u t b)
  (p1:SqL X.K H a xs) (p2:SqL X.K H c ys) (i1:IsL X.K F xs ds) (i2:IsL X.K F ys es) (h:eqN (n+1) (.lst ds) (.lst es)=iJ b) (j:A.units < cLine):RcNeAt A s (.ref a) (.ref c) (!b):=by
 obtain ⟨us,r1,g,_⟩:=I.list p1;obtain ⟨ws,r2,f,_⟩:=I.list p2;have i:us.toArray.size=ds.length:=by rw [au,<-r1.length,i1.length]
 have l:ws.toArray.size=es.length:=by rw [au,<-r2.length,i2.length]
 simp only [eqN] at h;by_cases hl:ds.length=es.length;·rw [if_pos hl] at h;have z:=RcNeAt.lists (A:=A) g.isList f.isList (by omega) j (uS (A:=A.in1) k r1 r2 i1 i2 h);have e:=wn h;rw [i] at z;rw [e,show min ds.length es.length=ds.length by omega];exact z
 ·rw [if_neg hl] at h;cases h;exact RcNeAt.lists_lengths g.isList f.isList (bne_iff_ne.mpr (by rw [i,l]; exact hl)) j
theorem qe7 (I:Inv X pins σ H s) (y:Same F H) {v w:V} {d e:D} {u t:iM} (l:A.units+n+1 < cLine) (j:TopIs X.K F H v d) (i:TopIs X.K F H w e) (x:RelV v u) (r:RelV w t) (h:eqN (n+1) d e=iJ b):RcAt A s u t b:=by
 have f:A.units < cLine:=by omega
 have k:∀ {v w:V} {d e:D} {u t:iM} {b:Bool},Is X.K F v d->Is X.K F w e->RelV v u->RelV w t->eqN n d e=iJ b->EqAt A.in1 s u t b:=λB p z o m=>Zl I y n (by show A.units+1+n < cLine; omega) B p z o m;have k1:=YQ I y j x;have k2:=YQ I y i r;cases d <;> cases e <;> try (cases h; done)
 case tup.tup=>
  obtain ⟨a,xs,rfl,p1,i1⟩:=j.tup y; obtain ⟨c,ys,rfl,p2,i2⟩:=i.tup y; cases x; cases r;exact Uq I k p1 p2 i1 i2 h f
 case lst.lst=>
  obtain ⟨a,xs,rfl,p1,i1⟩:=j.lst y; obtain ⟨c,ys,rfl,p2,i2⟩:=i.lst y; cases x; cases r;exact Ur I k p1 p2 i1 i2 h f
 all_goals
  cases h;clear x r j i;first | obtain ⟨_,_,rfl,g⟩:=k1 | obtain ⟨_,rfl⟩:=k1 | cases k1
  first | obtain ⟨_,_,rfl,q⟩:=k2 | obtain ⟨_,rfl⟩:=k2 | cases k2
  with_reducible first | exact RcAt.none_none | exact RcAt.none_bool _ | exact RcAt.none_int _ _ | exact RcAt.none_str _ _ | exact RcAt.bool_none _ | exact RcAt.bool_bool _ _ | exact RcAt.bool_int _ _ _ | exact RcAt.bool_str _ _ _ | exact RcAt.int_none _ _ | exact RcAt.int_bool _ _ _ | exact RcAt.int_int _ _ _ _ | exact RcAt.int_str _ _ _ _ | exact RcAt.str_none _ _ | exact RcAt.str_bool _ _ _ | exact RcAt.str_int _ _ _ _ | exact RcAt.str_str _ _ _ _ | exact RcAt.none_tuple q f | exact RcAt.tuple_none g f | exact RcAt.none_list q f | exact RcAt.list_none g f | exact RcAt.bool_tuple _ q f | exact RcAt.tuple_bool _ g f | exact RcAt.bool_list _ q f | exact RcAt.list_bool _ g f | exact RcAt.int_tuple _ _ q f | exact RcAt.tuple_int _ _ g f | exact RcAt.int_list _ _ q f | exact RcAt.list_int _ _ g f | exact RcAt.str_tuple _ _ q f | exact RcAt.tuple_str _ _ g f | exact RcAt.str_list _ _ q f | exact RcAt.list_str _ _ g f | exact RcAt.tuple_list g q f | exact RcAt.list_tuple g q f
theorem qe8 (I:Inv X pins σ H s) (y:Same F H) {v w:V} {d e:D} {u t:iM} (l:A.units+n+1 < cLine) (j:TopIs X.K F H v d) (i:TopIs X.K F H w e) (x:RelV v u) (r:RelV w t) (h:eqN (n+1) d e=iJ b):RcNeAt A s u t (!b):=by
 have f:A.units < cLine:=by omega
 have k:∀ {v w:V} {d e:D} {u t:iM} {b:Bool},Is X.K F v d->Is X.K F w e->RelV v u->RelV w t->eqN n d e=iJ b->EqAt A.in1 s u t b:=λB p z o m=>Zl I y n (by show A.units+1+n < cLine; omega) B p z o m;have k1:=YQ I y j x;have k2:=YQ I y i r;cases d <;> cases e <;> try (cases h; done)
 case tup.tup=>
  obtain ⟨a,xs,rfl,p1,i1⟩:=j.tup y; obtain ⟨c,ys,rfl,p2,i2⟩:=i.tup y; cases x; cases r;exact qaO I k p1 p2 i1 i2 h f
 case lst.lst=>
  obtain ⟨a,xs,rfl,p1,i1⟩:=j.lst y; obtain ⟨c,ys,rfl,p2,i2⟩:=i.lst y; cases x; cases r;exact qaP I k p1 p2 i1 i2 h f
 all_goals
  cases h;clear x r j i;first | obtain ⟨_,_,rfl,g⟩:=k1 | obtain ⟨_,rfl⟩:=k1 | cases k1
  first | obtain ⟨_,_,rfl,q⟩:=k2 | obtain ⟨_,rfl⟩:=k2 | cases k2
  try simp only [Bool.not_true,Bool.not_false]
  with_reducible first | exact RcNeAt.none_none | exact RcNeAt.none_bool _ | exact RcNeAt.none_int _ _ | exact RcNeAt.none_str _ _ | exact RcNeAt.bool_none _ | exact RcNeAt.bool_bool _ _ | exact RcNeAt.bool_int _ _ _ | exact RcNeAt.bool_str _ _ _ | exact RcNeAt.int_none _ _ | exact RcNeAt.int_bool _ _ _ | exact RcNeAt.int_int _ _ _ _ | exact RcNeAt.int_str _ _ _ _ | exact RcNeAt.str_none _ _ | exact RcNeAt.str_bool _ _ _ | exact RcNeAt.str_int _ _ _ _ | exact RcNeAt.str_str _ _ _ _ | exact RcNeAt.none_tuple q f | exact RcNeAt.tuple_none g f | exact RcNeAt.none_list q f | exact RcNeAt.list_none g f | exact RcNeAt.bool_tuple _ q f | exact RcNeAt.tuple_bool _ g f | exact RcNeAt.bool_list _ q f | exact RcNeAt.list_bool _ g f | exact RcNeAt.int_tuple _ _ q f | exact RcNeAt.tuple_int _ _ g f | exact RcNeAt.int_list _ _ q f | exact RcNeAt.list_int _ _ g f | exact RcNeAt.str_tuple _ _ q f | exact RcNeAt.tuple_str _ _ g f | exact RcNeAt.str_list _ _ q f | exact RcNeAt.list_str _ _ g f | exact RcNeAt.tuple_list g q f | exact RcNeAt.list_tuple g q f | with_unfolding_all first | exact RcNeAt.bool_bool _ _ | exact RcNeAt.bool_int _ _ _ | exact RcNeAt.int_bool _ _ _ | exact RcNeAt.int_int _ _ _ _ | exact RcNeAt.str_str _ _ _ _
end
noncomputable def eqD (a b:D):Out D:=match eqN 8 a b with
 | some c=>.ok (.bl c)
 | none=>.bad
noncomputable def neD (a b:D):Out D:=match eqN 8 a b with
 | some c=>.ok (.bl (!c))
 | none=>.bad
section
variable {C:Ct}
theorem yA (m:C.K=X.K) (f:X.A.units+64 < cLine):OpD X C .sh (compareOp .Eq) eqD:=by
 intro pins s σ H x y v u Q I d r h;obtain ⟨F,dx,a,b,t,ty,po⟩:=h;rw [m] at t ty;unfold eqD at po;cases e:eqN 8 dx a with
 | none=>rw [e] at po; exact po.elim
 | some c=>rw [e] at po;exact qe7 I b (n:=7) (by omega) t ty d r e _ _ _ _ ⟨.bl c,H,I,rfl,po _ F H b .refl (.bl _)⟩
theorem YR (m:C.K=X.K) (f:X.A.units+64 < cLine):OpD X C .sh (compareOp .NotEq) neD:=by
 intro pins s σ H x y v u Q I d r h;obtain ⟨F,dx,a,b,t,ty,po⟩:=h;rw [m] at t ty;unfold neD at po;cases e:eqN 8 dx a with
 | none=>rw [e] at po; exact po.elim
 | some c=>rw [e] at po;exact qe8 I b (n:=7) (by omega) t ty d r e _ _ _ _ ⟨.bl _,H,I,rfl,po _ F H b .refl (.bl _)⟩
end
end L2.D2
namespace L2.D2
open PySem PySem.Spec PyProof.Rows
open PySem.SeqAt
variable {X:Cx} {pins:List (Addr×Obj)} {σ:St} {F H:Hp} {s:iP} {n:Nat} {v:V} {d e:D} {b:Bool}
section
theorem qc2 (I:Inv X pins σ H s) (y:Same F H):∀ (n:Nat) {v:V} {d d' e:D} {b g:Bool},Is X.K F v d->Is X.K F v d'->eqN n d e=iJ b->eqN n d' e=iJ g->b=g:=by
 have L:∀ {a:Addr} {xs ys:List V},SqT X.K F a xs->SqL X.K F a ys->False:=λp q=>by obtain ⟨_,_,u,_⟩:=I.list (y.seq q);obtain ⟨_,_,m,_⟩:=I.tuple (qR y p);exact absurd rfl (ne_of_list_tuple u.isList m)
 intro n
 induction n with
 | zero=>
  intro v d d' e b g h1 h2 e1 i;have e1:eqS d e=iJ b:=e1;have i:eqS d' e=iJ g:=i;cases h1 <;> cases h2 <;> first
   | exact ba.inj (e1.symm.trans i)
   | exact (L (by assumption) (by assumption)).elim
   | (refine ba.inj (e1.symm.trans (Eq.trans ?_ i)); cases e <;> rfl; done)
   | (refine nomatch (show iL=iJ g from Eq.trans ?_ i); cases e <;> rfl; done)
   | (refine nomatch (show iL=iJ b from Eq.trans ?_ e1); cases e <;> rfl; done)
 | succ n w=>
  have l:∀ {xs:List V} {ds c es:List D} {b g:Bool},IsL X.K F xs ds->IsL X.K F xs c->wH (eqN n) ds es=iJ b->wH (eqN n) c es=iJ g->b=g:=by
   intro xs
   induction xs with
   | nil=>intro ds c es b g h1 h2 e1 i; cases h1; cases h2; simp only [wH] at e1 i; cases e1; cases i; rfl
   | cons x xs r=>
    intro ds c es b g h1 h2 e1 i;cases h1 with
    | cons B f=>
     cases h2 with
     | cons A t=>
      rename_i d ds d' c;cases es with
      | nil=>simp only [wH] at e1 i; cases e1; cases i; rfl
      | cons e es=>
       unfold wH at e1 i;cases q:eqN n d e with
       | none=>rw [q] at e1; simp at e1
       | some k=>
        cases m:eqN n d' e with
        | none=>rw [m] at i; simp at i
        | some k'=>
         cases j:wH (eqN n) ds es with
         | none=>rw [q,j] at e1; simp at e1
         | some k3=>
          cases h:wH (eqN n) c es with
          | none=>rw [m,h] at i; simp at i
          | some o=>rw [q,j] at e1;rw [m,h] at i;rw [w B A q m,r f t j h] at e1;have e1:iJ (k'&&o)=iJ b:=e1;have i:iJ (k'&&o)=iJ g:=i;rw [e1] at i;exact ba.inj i
  intro v d d' e b g h1 h2 e1 i;cases h1 with
  | tup p1 f=>
   cases h2 with
   | tup p2 t=>
    have q:=I.tuple_inj (qR y p1) (qR y p2);subst q;have hl:=f.length.symm.trans t.length;cases e with
    | tup es=>
     rename_i ds c;simp only [eqN] at e1 i;cases j:wH (eqN n) ds es with
     | none=>rw [j] at e1; simp at e1
     | some k3=>
      cases h:wH (eqN n) c es with
      | none=>rw [h] at i; simp at i
      | some o=>rw [j] at e1;rw [h] at i;rw [l f t j h,hl] at e1;exact ba.inj (e1.symm.trans i)
    | _=>simp only [eqN,eqS] at e1 i <;> first | (cases e1; cases i; rfl) | (cases e1; done)
   | lst p2 t=>exact (L p1 p2).elim
   | _=>cases e <;> simp [eqN,eqS] at i
  | lst p1 f=>
   cases h2 with
   | lst p2 t=>
    have q:=I.list_inj (y.seq p1) (y.seq p2);subst q;have hl:=f.length.symm.trans t.length;cases e with
    | lst es=>
     rename_i ds c;simp only [eqN] at e1 i;rw [hl] at e1;by_cases z:c.length=es.length;·rw [if_pos z] at e1 i;exact l f t e1 i
     ·rw [if_neg z] at e1 i;exact ba.inj (e1.symm.trans i)
    | _=>simp only [eqN,eqS] at e1 i <;> first | (cases e1; cases i; rfl) | (cases e1; done)
   | tup p2 t=>exact (L p2 p1).elim
   | _=>cases e <;> simp [eqN,eqS] at i
  | _=>cases h2 <;> cases e <;> simp only [eqN,eqS] at e1 i <;> first
   | (cases e1; cases i; rfl)
   | (cases e1; done)
   | (cases i; done)
open Classical in
noncomputable def Xy (X:Cx) (F:Hp) (n:Nat) (e:D) (u:iM):Bool:=decide (∃ v d,Is X.K F v d/\RelV v u/\eqN n d e=iJ iO)
open Classical in
theorem Zm (I:Inv X pins σ H s) (y:Same F H) {u:iM} (h:Is X.K F v d) (r:RelV v u) (q:eqN n d e=iJ b):Xy X F n e u=b:=by
 unfold Xy;cases b with
 | true=>exact decide_eq_true ⟨v,d,h,r,q⟩
 | false=>refine decide_eq_false ?_;rintro ⟨w,d',h',r',g⟩;have e:=r.inj r';subst e;exact absurd (qc2 I y n h h' q g) (by decide)
noncomputable def Qt (n:Nat) (e:D):List D->Option Bool
 | []=>iJ iN
 | d::ds=>(eqN n d e).bind λa=>(Qt n e ds).bind λb=>iJ (a||b)
theorem KH {ds:List D} (h:Qt n e (d::ds)=iJ b):∃ a c,eqN n d e=iJ a/\Qt n e ds=iJ c/\b=(a||c):=by
 unfold Qt at h;cases q:eqN n d e with
 | none=>rw [q] at h; simp at h
 | some a=>
  cases f:Qt n e ds with
  | none=>rw [q,f] at h; simp at h
  | some c=>rw [q,f] at h; exact ⟨a,c,rfl,rfl,(ba.inj h).symm⟩
theorem Zn (I:Inv X pins σ H s) (y:Same F H):∀ {vs:List V} {ds:List D} {us:List iM} {b:Bool},IsL X.K F vs ds->Vals vs us->Qt n e ds=iJ b->us.any (Xy X F n e)=b/\∀ u∈us,∃ v d a,Is X.K F v d/\RelV v u/\eqN n d e=iJ a/\Xy X F n e u=a
 | _,_,_,b,.nil,.nil,h=>⟨by simpa using (ba.inj h),λu f=>nomatch f⟩
 | _,_,_,b,.cons i t,.cons r rs,h=>by
  obtain ⟨a,c,q,k,rfl⟩:=KH h;obtain ⟨j,g⟩:=Zn I y t rs k;have e1:=Zm I y i r q;refine ⟨by rw [cJ,e1,j],λu f=>?_⟩;rcases ac.mp f with rfl | f;·exact ⟨_,_,a,i,r,q,e1⟩
  ·exact g u f
end
noncomputable def inD (x y:D):Out Bool:=match y with
 | .lst ds=>match Qt 7 x ds with
  | some b=>.ok b
  | none=>.bad
 | .tup ds=>match Qt 7 x ds with
  | some b=>.ok b
  | none=>.bad
 | _=>.bad
noncomputable def qe9 (x y:D):Out D:=(inD x y).bind λb=>.ok (.bl b)
noncomputable def Wb (x y:D):Out D:=(inD x y).bind λb=>.ok (.bl (!b))
theorem TopIs.is {K:Frag} (s:Same F H) (h:TopIs K F H v d):∃ F',Same F F'/\Same F' H/\Is K F' v d:=by
 rcases h with h | ⟨a,rfl,o⟩
 ·exact ⟨F,Same.refl _,s,h⟩
 ·obtain ⟨u,hu⟩:∃ u,H a=iJ u:=by
   cases q:H a with
   | none=>exact absurd q o.there
   | some u=>exact ⟨u,rfl⟩
  by_cases E:F a=iL
  ·have gr:Same F (upd F a u):=λb w e=>by rw [qw (qE e E)]; exact e
   refine ⟨upd F a u,gr,λb w e=>?_,?_⟩
   ·by_cases q:b=a;·subst q; rw [qo] at e; cases e; exact hu
    ·rw [qw q] at e; exact s b w e
   ·cases d with
    | lst ds=>obtain ⟨xs,e,t⟩:=o; rw [hu] at e; cases e; exact .lst (.inl (.inl qo)) (t.mono gr)
    | dct ds=>obtain ⟨xs,e,t⟩:=o; rw [hu] at e; cases e; exact .dct qo (t.mono gr)
    | ins C fs=>obtain ⟨dx,xs,e,t⟩:=o; rw [hu] at e; cases e; exact .ins qo (t.mono gr)
    | at_ b ds=>obtain ⟨eb,xs,e,t⟩:=o; rw [hu] at e; cases e; subst eb; exact .at_ (.inl (.inl qo)) (t.mono gr)
    | _=>exact o.elim
  ·obtain ⟨w,hw⟩:∃ w,F a=iJ w:=by
    cases q:F a with
    | none=>exact absurd q E
    | some w=>exact ⟨w,rfl⟩
   have e:=s a w hw;cases d with
   | lst ds=>obtain ⟨xs,c,t⟩:=o; rw [c] at e; cases e; exact ⟨F,Same.refl _,s,.lst (.inl (.inl hw)) t⟩
   | dct ds=>obtain ⟨xs,c,t⟩:=o; rw [c] at e; cases e; exact ⟨F,Same.refl _,s,.dct hw t⟩
   | ins C fs=>obtain ⟨dx,xs,c,t⟩:=o; rw [c] at e; cases e; exact ⟨F,Same.refl _,s,.ins hw t⟩
   | at_ b ds=>obtain ⟨eb,xs,c,t⟩:=o; rw [c] at e; cases e; subst eb; exact ⟨F,Same.refl _,s,.at_ (.inl (.inl hw)) t⟩
   | _=>exact o.elim
section
variable {C:Ct}
theorem KI {A:iV} {y x:V} {dx:D} {ds:List D} {b:Bool} {u v:iM} {a:Addr} {us:List iM} {xs:List V} (I:Inv X pins σ H s) (j:A.units+64 < cLine) (c:Same F H) (ix:Is X.K F x dx) (f:RelV x v)
  (i:IsL X.K F xs ds) (r:Vals xs us) (h:Qt 7 dx ds=iJ b):us.any (Xy X F 7 dx)=b/\∀ w,w∈us.toArray->EqAt A.in1 s w v (Xy X F 7 dx w):=by
 obtain ⟨h1,h2⟩:=Zn I c i r h;refine ⟨h1,λw hw=>?_⟩;obtain ⟨g,d,k,i1,r1,q,e⟩:=h2 w (by simpa using hw);rw [e];exact Zl I c 7 (by show A.units+1+7 < cLine; omega) i1 ix r1 f q
theorem qhg (m:C.K=X.K) (j:X.A.units+64 < cLine):OpD X C .sh (compareOp .In) qe9:=by
 intro pins s σ H x y v u Q I g f h;obtain ⟨F,dx,k,d,t,ty,po⟩:=h;rw [m] at t ty;unfold qe9 inD at po;obtain ⟨F',g',c,ix⟩:=t.is d;cases k with
 | lst ds=>
  cases e:Qt 7 dx ds with
  | none=>simp only [e] at po; exact po.elim
  | some b=>simp only [e] at po;obtain ⟨a,xs,rfl,p,i⟩:=ty.lst d;cases f;obtain ⟨us,r,pl,_⟩:=I.list p;obtain ⟨h1,h2⟩:=KI (A:=X.A) (y:=.non) (a:=a) (u:=.none) I j c ix g (i.mono g') r e;refine in_listAt (Xy X F' 7 dx) pl.isList h2 ⟨.bl b,H,I,by show _=_; rw [<-h1]; simp,po _ F H d .refl (.bl _)⟩
 | tup ds=>
  cases e:Qt 7 dx ds with
  | none=>simp only [e] at po; exact po.elim
  | some b=>simp only [e] at po;obtain ⟨a,xs,rfl,p,i⟩:=ty.tup d;cases f;obtain ⟨us,r,pl,_⟩:=I.tuple p;obtain ⟨h1,h2⟩:=KI (A:=X.A) (y:=.non) (a:=a) (u:=.none) I j c ix g (i.mono g') r e;refine in_tupleAt (Xy X F' 7 dx) pl h2 ⟨.bl b,H,I,by show _=_; rw [<-h1]; simp,po _ F H d .refl (.bl _)⟩
 | _=>exact po.elim
theorem qaQ (m:C.K=X.K) (j:X.A.units+64 < cLine):OpD X C .sh (compareOp .NotIn) Wb:=by
 intro pins s σ H x y v u Q I g f h;obtain ⟨F,dx,k,d,t,ty,po⟩:=h;rw [m] at t ty;unfold Wb inD at po;obtain ⟨F',g',c,ix⟩:=t.is d;cases k with
 | lst ds=>
  cases e:Qt 7 dx ds with
  | none=>simp only [e] at po; exact po.elim
  | some b=>simp only [e] at po;obtain ⟨a,xs,rfl,p,i⟩:=ty.lst d;cases f;obtain ⟨us,r,pl,_⟩:=I.list p;obtain ⟨h1,h2⟩:=KI (A:=X.A) (y:=.non) (a:=a) (u:=.none) I j c ix g (i.mono g') r e;refine notIn_listAt (Xy X F' 7 dx) pl.isList h2 ⟨.bl (!b),H,I,by show _=_; rw [<-h1]; simp,po _ F H d .refl (.bl _)⟩
 | tup ds=>
  cases e:Qt 7 dx ds with
  | none=>simp only [e] at po; exact po.elim
  | some b=>simp only [e] at po;obtain ⟨a,xs,rfl,p,i⟩:=ty.tup d;cases f;obtain ⟨us,r,pl,_⟩:=I.tuple p;obtain ⟨h1,h2⟩:=KI (A:=X.A) (y:=.non) (a:=a) (u:=.none) I j c ix g (i.mono g') r e;refine notIn_tupleAt (Xy X F' 7 dx) pl h2 ⟨.bl (!b),H,I,by show _=_; rw [<-h1]; simp,po _ F H d .refl (.bl _)⟩
 | _=>exact po.elim
end
end L2.D2
namespace L2.D2
open PySem PySem.Spec PyProof.Rows
def PoT (C:Ct) (own:List Nat) (σ:St) (F H:Hp) (r:Out (Bool×Sl)) (Q:Bool->Hp->Prop):Prop:=match r with
 | .ok (b,ρ')=>∀ F' H',Rep C.K own F' H' σ ρ'->Chg (OA own σ) F H F' H'->Q b H'
 | .exc c ρ'=>∀ F' H',Same F' H'->Xx C.K C.ox F' H' σ ρ'->Chg (OA own σ) F H F' H'->C.E (C.cv c) iL H'
 | .bad=>False
def tT (C:Ct) (own:List Nat) (f:Sl->Out (Bool×Sl)):TT:=λσ H Q=>∃ F ρ,Rep C.K own F H σ ρ/\PoT C own σ F H (f ρ) Q
variable {C:Ct} {own:List Nat} {σ:St} {F H F1 H1:Hp} {Q:Bool->Hp->Prop}
theorem PoT.shift {r:Out (Bool×Sl)} (h:PoT C own σ F H r Q) (c:Chg (OA own σ) F H F1 H1):PoT C own σ F1 H1 r Q:=by
 cases r with
 | ok p=>exact λF' H' a S=>h F' H' a (c.trans' S)
 | exc x=>exact λF' H' s io S=>h F' H' s io (c.trans' S)
 | bad=>exact h.elim
variable {o:Out (D×Sl)}
theorem PoT.bindV {ma:Mo} {k:D×Sl->Out (Bool×Sl)} {R:VK} (hp:PoT C own σ F H (o.bind k) Q)
  (h:∀ v F1 H1 d ρ1,Rep C.K own F1 H1 σ ρ1->Chg (OA own σ) F H F1 H1->MoIs C.K ma H F1 H1 v d->PoT C own σ F1 H1 (k (d,ρ1)) Q->R v H1):Po C own ma σ F H o R:=by
 cases o with
 | ok p=>obtain ⟨d,ρ1⟩:=p;exact λv F1 H1 a c mo=>h v F1 H1 d ρ1 a c mo (PoT.shift (show PoT C own σ F H (k (d,ρ1)) Q from hp) c)
 | exc x=>exact hp
 | bad=>exact hp.elim
theorem PoT.bindT {o:Out (Bool×Sl)} {k:Bool×Sl->Out (Bool×Sl)} {R:Bool->Hp->Prop} (hp:PoT C own σ F H (o.bind k) Q)
  (h:∀ F1 H1 b ρ1,Rep C.K own F1 H1 σ ρ1->Chg (OA own σ) F H F1 H1->PoT C own σ F1 H1 (k (b,ρ1)) Q->R b H1):PoT C own σ F H o R:=by
 cases o with
 | ok p=>obtain ⟨d,ρ1⟩:=p;exact λF1 H1 a c=>h F1 H1 d ρ1 a c (PoT.shift (show PoT C own σ F H (k (d,ρ1)) Q from hp) c)
 | exc x=>exact hp
 | bad=>exact hp.elim
variable {m:Mo}
theorem Po.bindT {o:Out (Bool×Sl)} {k:Bool×Sl->Out (D×Sl)} {Q:VK} {R:Bool->Hp->Prop} (hp:Po C own m σ F H (o.bind k) Q)
  (h:∀ F1 H1 b ρ1,Rep C.K own F1 H1 σ ρ1->Chg (OA own σ) F H F1 H1->Po C own m σ F1 H1 (k (b,ρ1)) Q->R b H1):PoT C own σ F H o R:=by
 cases o with
 | ok p=>obtain ⟨d,ρ1⟩:=p;exact λF1 H1 a c=>h F1 H1 d ρ1 a c (Po.shift (show Po C own m σ F H (k (d,ρ1)) Q from hp) c)
 | exc x=>exact hp
 | bad=>exact hp.elim
noncomputable def vm:D->Out Bool
 | .non=>.ok iN
 | .bl b=>.ok b
 | .int i=>.ok (i != 0)
 | .str x=>.ok ((x.length:Int) != 0)
 | .tup xs=>.ok (!xs.isEmpty)
 | .lst xs=>.ok (!xs.isEmpty)
 | .dct xs=>.ok (!xs.isEmpty)
 | .raw _=>.bad
 | .xcp _=>.bad
 | .ins _ _=>.bad
 | .at_ _ _=>.bad
noncomputable def uu (f:Sl->Out (D×Sl)):Sl->Out (Bool×Sl):=λρ=>(f ρ).bind λp=>(vm p.1).bind λb=>.ok (b,p.2)
variable {K:Frag} {vs:List V} {ds:List D}
theorem IsL.isEmpty (h:IsL K F vs ds):vs.isEmpty=ds.isEmpty:=by cases h <;> rfl
theorem IsK.isEmpty {vs:List (Key×V)} {ds:List (Key×D)} (h:IsK K F vs ds):vs.isEmpty=ds.isEmpty:=by cases h <;> rfl
variable {v:V} {d:D}
theorem qc3 {b:Bool} (s:Same F H) (h:TopIs K F H v d) (e:vm d=.ok b):qg4 K v H b:=by
 cases d with
 | non=>obtain rfl:=h.non; cases e; rfl
 | bl x=>obtain rfl:=h.bl; cases e; rfl
 | int x=>obtain rfl:=h.int; cases e; rfl
 | str x=>obtain ⟨rfl,q⟩:=h.str; cases e; exact ⟨q,rfl⟩
 | tup x=>obtain ⟨a,xs,rfl,p,t⟩:=h.tup s; cases e; exact .inr (.inl ⟨xs,p,by rw [t.isEmpty]⟩)
 | lst x=>obtain ⟨a,xs,rfl,p,t⟩:=h.lst s; cases e; exact .inl ⟨xs,p,by rw [t.isEmpty]⟩
 | dct x=>obtain ⟨a,xs,rfl,p,t⟩:=h.dct s; cases e; exact .inr (.inr ⟨xs,p,by rw [t.isEmpty]⟩)
 | raw x=>cases e
 | xcp x=>cases e
 | ins x y=>cases e
 | at_ x y=>cases e
noncomputable def jb (f:Sl->Out (D×Sl)):Sl->Out (Bool×Sl):=λρ=>(f ρ).bind λp=>match p.1 with
 | .bl b=>.ok (b,p.2)
 | _=>.bad
variable {X:Cx} {c e:Expr} {f fa:Sl->Out (D×Sl)} {ft:Sl->Out (Bool×Sl)} {ma mb:Mo} {pos:Pos} {op op':CmpOp} {g g':D->D->Out D} {ρ:Sl}
section
variable {a b:Expr} {fb fc:Sl->Out (D×Sl)} {fu:Sl->Out (Bool×Sl)} {mc:Mo} {rest:List Expr}
theorem qV (g:C.K=X.K) (h:PE X e (tE C own m f)) (i:∀ whole,isTrue e X.env whole=(do let v <-whole; standAt e.pos; holding [v] (truthy v))):PT X e (tT C own (uu f)):=by
 refine qaL (qaA h i) λσ H Q ⟨F,ρ,r,h⟩=>⟨F,ρ,r,PoT.bindV h λv F1 H1 d ρ1 a j c h1=>?_⟩
 cases q:vm d with
 | ok k=>have h1:PoT C own σ F1 H1 ((vm d).bind λb=>.ok (b,ρ1)) Q:=h1;rw [q] at h1;exact ⟨k,by rw [<-g]; exact qc3 a.sub c.top q,h1 F1 H1 a .refl⟩
 | exc x=>have h1:PoT C own σ F1 H1 ((vm d).bind λb=>.ok (b,ρ1)) Q:=h1;cases d <;> cases q
 | bad=>have h1:PoT C own σ F1 H1 ((vm d).bind λb=>.ok (b,ρ1)) Q:=h1;rw [q] at h1;exact h1.elim
theorem Zo (h:tT C own (jb f) σ H Q):tE C own .sh f σ H λx H'=>∃ k,x=.bl k/\Q k H':=by
 obtain ⟨F,ρ,r,h⟩:=h;refine ⟨F,ρ,r,PoT.bindV h λv F1 H1 d ρ1 a b c h1=>?_⟩;cases d with
 | bl k=>have c:Is C.K F1 v (.bl k):=c;cases c;exact ⟨k,rfl,h1 F1 H1 a .refl⟩
 | _=>exact h1.elim
theorem qT (m:OpD X C .sh (compareOp op) g) (c:PE X a (tE C own ma fa)) (d:PE X b (tE C own mb fb)) (f:ma≠.any:=by decide)
  (k:behindInMarks op b=false:=by first | exact qbY _ | with_unfolding_all rfl):PT X (.Compare a [op] [b] pos) (tT C own (jb (d2 g fa fb))):=by
 refine qaL (qcI m c d k) λσ H Q h=>?_;exact KC f (Zo h)
noncomputable def yn (ft:Sl->Out (Bool×Sl)):Sl->Out (Bool×Sl):=λρ=>(ft ρ).bind λp=>.ok (!p.1,p.2)
theorem je (h:PT X a (tT C own ft)):PT X (.UnaryOp .Not a pos) (tT C own (yn ft)):=by refine qaL (qeB h) λσ H Q ⟨F,ρ,p,h⟩=>⟨F,ρ,p,PoT.bindT h λF1 H1 b ρ1 r k h1=>h1 F1 H1 r .refl⟩
theorem qfa {e:Expr} {t t':TT} (h:PW X e t) (i:∀ σ H Q,t' σ H Q->t σ H Q):PW X e t':=⟨λw pins s σ H Q I hw=>h w pins s σ H Q I (i σ H Q hw)⟩
noncomputable def qfb (ft fu:Sl->Out (Bool×Sl)):Sl->Out (Bool×Sl):=λρ=>(ft ρ).bind λp=>if p.1=iO then fu p.2 else .ok (iN,p.2)
noncomputable def dOr (ft fu:Sl->Out (Bool×Sl)):Sl->Out (Bool×Sl):=λρ=>(ft ρ).bind λp=>if p.1=iO then .ok (iO,p.2) else fu p.2
theorem wa {op} (h:PT X a (tT C own ft)):PW X (.BoolOp op [a] pos) (tT C own ft):=by
 cases op;·exact qcB h
 ·exact qez h
theorem Zp (g:PT X a (tT C own ft)) (d:PW X (.BoolOp .And (b::rest) pos) (tT C own fu)):PW X (.BoolOp .And (a::b::rest) pos) (tT C own (qfb ft fu)):=by
 refine qfa (qeA g d) λσ H Q ⟨F,ρ,p,h⟩=>⟨F,ρ,p,PoT.bindT h λF1 H1 k ρ1 r c h1=>?_⟩
 cases k with
 | true=>exact ⟨F1,ρ1,r,h1⟩
 | false=>exact h1 F1 H1 r .refl
theorem zd (g:PT X a (tT C own ft)) (d:PW X (.BoolOp .Or (b::rest) pos) (tT C own fu)):PW X (.BoolOp .Or (a::b::rest) pos) (tT C own (dOr ft fu)):=by
 refine qfa (qgP g d) λσ H Q ⟨F,ρ,p,h⟩=>⟨F,ρ,p,PoT.bindT h λF1 H1 k ρ1 r c h1=>?_⟩
 cases k with
 | true=>exact h1 F1 H1 r .refl
 | false=>exact ⟨F1,ρ1,r,h1⟩
noncomputable def Jl (fa fb:Sl->Out (D×Sl)):Sl->Out (D×Sl):=λρ=>(fa ρ).bind λp=>match p.1 with
 | .bl iO=>fb p.2
 | .bl iN=>.ok (.bl iN,p.2)
 | _=>.bad
noncomputable def qgs (fa fb:Sl->Out (D×Sl)):Sl->Out (D×Sl):=λρ=>(fa ρ).bind λp=>match p.1 with
 | .bl iO=>.ok (.bl iO,p.2)
 | .bl iN=>fb p.2
 | _=>.bad
theorem KJ {op} (h:PE X a (tE C own m f)):PE X (.BoolOp op [a] pos) (tE C own m f):=qeC h
theorem QN (g:PE X a (tE C own .sh fa)) (e:PE X (.BoolOp .And (b::rest) pos) (tE C own .sh fb)):PE X (.BoolOp .And (a::b::rest) pos) (tE C own .sh (Jl fa fb)):=by
 refine jF (qeD g e) λσ H Q ⟨F,ρ,p,h⟩=>⟨F,ρ,p,Po.bind h λv F1 H1 d ρ1 r f c h1=>?_⟩
 cases d with
 | bl k=>
  have c:Is C.K F1 v (.bl k):=c;cases c;refine ⟨k,rfl,?_⟩;cases k with
  | true=>exact ⟨F1,ρ1,r,h1⟩
  | false=>exact h1 _ F1 H1 r .refl (.bl _)
 | _=>exact h1.elim
theorem qhh (g:PE X a (tE C own .sh fa)) (e:PE X (.BoolOp .Or (b::rest) pos) (tE C own .sh fb)):PE X (.BoolOp .Or (a::b::rest) pos) (tE C own .sh (qgs fa fb)):=by
 refine jF (qgR g e) λσ H Q ⟨F,ρ,p,h⟩=>⟨F,ρ,p,Po.bind h λv F1 H1 d ρ1 r f c h1=>?_⟩
 cases d with
 | bl k=>
  have c:Is C.K F1 v (.bl k):=c;cases c;refine ⟨k,rfl,?_⟩;cases k with
  | true=>exact h1 _ F1 H1 r .refl (.bl _)
  | false=>exact ⟨F1,ρ1,r,h1⟩
 | _=>exact h1.elim
noncomputable def dIf (ft:Sl->Out (Bool×Sl)) (fa fb:Sl->Out (D×Sl)):Sl->Out (D×Sl):=λρ=>(ft ρ).bind λp=>if p.1=iO then fa p.2 else fb p.2
theorem qc4 {t:Expr} (l:PT X t (tT C own ft)) (g:PE X a (tE C own ma fa)) (d:PE X b (tE C own mb fb)) (h1:ma≠.any:=by decide) (h2:mb≠.any:=by decide):PE X (.IfExp t a b pos) (tE C own .sh (dIf ft fa fb)):=by
 refine jF (qas l (yQ g h1) (yQ d h2)) λσ H Q ⟨F,ρ,p,h⟩=>⟨F,ρ,p,Po.bindT h λF1 H1 k ρ1 r c h1=>?_⟩
 cases k with
 | true=>exact ⟨F1,ρ1,r,h1⟩
 | false=>exact ⟨F1,ρ1,r,h1⟩
noncomputable def yR (g g':D->D->Out D) (fa fb fc:Sl->Out (D×Sl)):Sl->Out (D×Sl):=λρ=>(fa ρ).bind λp=>(fb p.2).bind λq=>(g p.1 q.1).plain.bind λz=>match z with
 | .bl iO=>(fc q.2).bind λr=>(g' q.1 r.1).plain.bind λd=>.ok (d,r.2)
 | .bl iN=>.ok (.bl iN,q.2)
 | _=>.bad
theorem PoV.bind {o:Out D} {k:D->Out (D×Sl)} {Q R:VK} (a:Rep C.K own F H σ ρ) (h:Po C own m σ F H (o.plain.bind k) Q)
  (b:∀ v F1 H1 d,Rep C.K own F1 H1 σ ρ->Chg No F H F1 H1->MoIs C.K ma H F1 H1 v d->Po C own m σ F1 H1 (k d) Q->R v H1):PoV C ma F H o R:=by
 cases o with
 | ok d=>exact λv F1 H1 s c mo=>b v F1 H1 d (a.grow c s) c mo (Po.shift (show Po C own m σ F H (k d) Q from h) c.ofNo)
 | exc c=>exact h.elim
 | bad=>exact h.elim
theorem Us {Q:VK} (s:ma≠.any) (l:mb≠.any) (h:tE C own .sh (yR g g' fa fb fc) σ H Q):XN (λx y H Q=>∃ F dx n,Same F H/\TopIs C.K F H x dx/\TopIs C.K F H y n/\PoV C .sh F H (g dx n) Q) (λx y H Q=>∃ F dx n,Same F H/\TopIs C.K F H x dx/\TopIs C.K F H y n/\PoV C .sh F H (g' dx n) Q)
   (tE C own ma fa) (tE C own mb fb) (tE C own mc fc) σ H Q:=by
 obtain ⟨F,ρ,u,h⟩:=h;refine ⟨F,ρ,u,Po.bind h λv F1 H1 d ρ1 i M q h1=>⟨F1,ρ1,i,Po.bind h1 λw L H2 e ρ2 f c2 j h2=>?_⟩⟩;have oa:∀ x,OA own σ x->H x≠none:=λx z=>(u.OA_there z).1;have o:∀ x,OA own σ x->H1 x≠none:=λx z=>(i.OA_there z).1;refine ⟨L,d,e,f.sub,(q.grow s c2 oa).top,j.top,PoV.bind (m:=.sh) f h2 λz t I D c G a h3=>?_⟩;cases D with
 | bl k=>
  have a:Is C.K t z (.bl k):=a;cases a;refine ⟨k,rfl,?_⟩;cases k with
  | true=>refine ⟨t,ρ2,c,Po.bind h3 λw' J N r A b E p B=>?_⟩;exact ⟨J,e,r,b.sub,((j.grow l (G.ofNo) o).grow l E o).top,p.top,PoV.of b B⟩
  | false=>exact h3 _ t I c .refl (.bl _)
 | _=>exact h3.elim
theorem Ut (m:OpD X C .sh (compareOp op) g) (d:OpD X C .sh (compareOp op') g') (k:PE X a (tE C own ma fa)) (j:PE X b (tE C own mb fb)) (i:PE X c (tE C own mc fc)) (f:ma≠.any:=by decide) (l:mb≠.any:=by decide)
  (e:lastMarks [op,op'] [b,c]=false:=by with_unfolding_all rfl):PE X (.Compare a [op,op'] [b,c] pos) (tE C own .sh (yR g g' fa fb fc)):=jF (qay m d k j i e) λ_ _ _ h=>Us f l h
theorem KK (m:OpD X C .sh (compareOp op) g) (d:OpD X C .sh (compareOp op') g') (k:PE X a (tE C own ma fa)) (j:PE X b (tE C own mb fb)) (i:PE X c (tE C own mc fc)) (f:ma≠.any:=by decide) (l:mb≠.any:=by decide)
  (e:lastMarks [op,op'] [b,c]=false:=by with_unfolding_all rfl):PT X (.Compare a [op,op'] [b,c] pos) (tT C own (jb (yR g g' fa fb fc))):=qaL (qaz m d k j i e) λ_ _ _ h=>Us f l (Zo h)
theorem Zq:OpR X (compareOp .LtE) (λx y H Q=>∃ i j,x=.str i/\y=.str j/\Q (.bl (!vI j i)) H):=by intro pins s σ H x y v u Q I d c h;obtain ⟨i,j,rfl,rfl,q⟩:=h;obtain ⟨t,rfl⟩:=d;obtain ⟨t',rfl⟩:=c;exact PySem.P.le_str (XJ I q (by simp [vI]))
noncomputable def leD:D->D->Out D
 | .int i,.int j=>.ok (.bl (decide (i<=j)))
 | .str x,.str y=>.ok (.bl (!vI y x))
 | _,_=>.bad
theorem KM:OpD X C .sh (compareOp .LtE) leD:=by
 intro pins s σ H x y v u Q I d c h;obtain ⟨F,dx,a,b,t,ty,po⟩:=h;cases dx <;> try exact po.elim
 ·cases a <;> try exact po.elim
  obtain rfl:=t.int;obtain rfl:=ty.int;exact qg2 pins s σ H _ _ v u Q I d c ⟨_,_,rfl,rfl,po _ F H b .refl (.bl _)⟩
 ·cases a <;> try exact po.elim
  obtain ⟨rfl,_⟩:=t.str;obtain ⟨rfl,_⟩:=ty.str;exact Zq pins s σ H _ _ v u Q I d c ⟨_,_,rfl,rfl,po _ F H b .refl (.bl _)⟩
noncomputable def geD:D->D->Out D:=KG λi j=>.ok (.bl (decide (j<=i)))
theorem qfc:OpD X C .sh (compareOp .GtE) geD:=Zh qg3 λ_ _ _=>.bl _
noncomputable def Zr:D->D->Out D
 | .non,.non=>.ok (.bl iN)
 | .raw _,.non=>.bad
 | _,.non=>.ok (.bl iO)
 | _,_=>.bad
theorem TopIs.notN (h:TopIs K F H v d) (h1:d≠.non) (h2:∀ u,d≠.raw u):v≠.non:=by
 rintro rfl;rcases h with h | ⟨a,e,_⟩
 ·cases h;·exact h1 rfl
  ·exact h2 _ rfl
 ·cases e
theorem qc5:OpD X C .sh (compareOp .IsNot) Zr:=by
 intro pins s σ H x y v u Q I r c h;obtain ⟨F,dx,d,b,t,ty,po⟩:=h;have k:d=.non:=by cases d <;> first | rfl | (cases dx <;> exact po.elim)
 subst k;obtain rfl:=ty.non;refine qcG pins s σ H x .non v u Q I r c ⟨rfl,?_⟩;cases dx with
 | non=>obtain rfl:=t.non; exact po _ F H b .refl (.bl _)
 | raw _=>exact po.elim
 | _=>rw [decide_eq_false (t.notN (by intro z; cases z) (by intro _ z; cases z))]; exact po _ F H b .refl (.bl _)
end
inductive Fl where
 | nx | rt (d:D) | bk | ct
structure Nx (C:Ct) (own own':List Nat) (σ:St) (F H:Hp) (ρ':Sl) (σ':St) (F' H':Hp):Prop where
 rep:Rep C.K own' F' H' σ' ρ'
 chg:Chg (OA own σ) F H F' H'
 oa:∀ b,OA own' σ' b->OA own σ b\/H b=iL
 io:∀ i∈C.io,σ'[i]?=σ[i]?
def PoS (C:Ct) (own own':List Nat) (σ:St) (F H:Hp) (r:Out (Fl×Sl)) (D:Ends):Prop:=match r with
 | .ok (.nx,ρ')=>∀ σ' F' H',Nx C own own' σ F H ρ' σ' F' H'->D.nx σ' H'
 | .ok (.rt d,ρ')=>∀ v σ' F' H',Same F' H'->Xx C.K C.io F' H' σ' ρ'->Chg (OA own σ) F H F' H'->(∀ i∈C.io,σ'[i]?=σ[i]?)->MoIs C.K C.mr H F' H' v d->D.rt v H'
 | .ok (.bk,ρ')=>∀ σ' F' H',Nx C own C.ol σ F H ρ' σ' F' H'->D.bk σ' H'
 | .ok (.ct,ρ')=>∀ σ' F' H',Nx C own C.ol σ F H ρ' σ' F' H'->D.ct σ' H'
 | .exc c ρ'=>∀ F' H',Same F' H'->Xx C.K C.ox F' H' σ ρ'->Chg (OA own σ) F H F' H'->C.E (C.cv c) iL H'
 | .bad=>False
def tSt (C:Ct) (own own':List Nat) (f:Sl->Out (Fl×Sl)):TS:=λD σ H=>∃ F ρ,Rep C.K own F H σ ρ/\PoS C own own' σ F H (f ρ) D
variable {o1 o2 o3:List Nat} {σ1:St} {ρ1:Sl}
theorem Nx.then {c:St} {d H2:Hp} {ρ2:Sl} (a:Nx C o1 o2 σ F H ρ1 σ1 F1 H1) (b:Nx C o2 o3 σ1 F1 H1 ρ2 c d H2):Nx C o1 o3 σ F H ρ2 c d H2 where
 rep:=b.rep
 chg:=a.chg.trans b.chg a.oa
 oa:=λx h=>by
  rcases b.oa x h with z | z;·exact a.oa x z
  ·refine .inr ?_;cases q:H x with
   | none=>rfl
   | some o=>exact absurd z (a.chg.stay x (by rw [q]; simp))
 io:=λi hi=>(b.io i hi).trans (a.io i hi)
theorem PoS.shift {r:Out (Fl×Sl)} {D:Ends} (h:PoS C o1 o3 σ F H r D) (a:Nx C o1 o2 σ F H ρ1 σ1 F1 H1):PoS C o2 o3 σ1 F1 H1 r D:=by
 cases r with
 | ok p=>
  obtain ⟨l,ρ'⟩:=p;cases l with
  | nx=>exact λσ' F' H' n=>h σ' F' H' (a.then n)
  | rt d=>exact λv σ' F' H' s io c e mo=>h v σ' F' H' s io (a.chg.trans c a.oa) (λi hi=>(e i hi).trans (a.io i hi)) (MoIs.back (Ha:=H1) a.chg mo)
  | bk=>exact λσ' F' H' n=>h σ' F' H' (a.then n)
  | ct=>exact λσ' F' H' n=>h σ' F' H' (a.then n)
 | exc c=>exact λF' H' s io S=>h F' H' s (λi hi=>by obtain ⟨d,b,e1,f,E⟩:=io i hi;exact ⟨d,b,e1,by rw [<-a.io i (C.oxs i hi)]; exact f,E⟩) (a.chg.trans S a.oa)
 | bad=>exact h.elim
theorem Nx.ofE (r:Rep C.K own F1 H1 σ ρ1) (c:Chg (OA own σ) F H F1 H1):Nx C own own σ F H ρ1 σ F1 H1:=⟨r,c,λ_ h=>.inl h,λ_ _=>rfl⟩
variable {own':List Nat}
theorem PoS.bindE {m:Mo} {k:D×Sl->Out (Fl×Sl)} {D:Ends} {R:VK} (hp:PoS C own own' σ F H (o.bind k) D)
  (h:∀ v F1 H1 d ρ1,Rep C.K own F1 H1 σ ρ1->Chg (OA own σ) F H F1 H1->MoIs C.K m H F1 H1 v d->PoS C own own' σ F1 H1 (k (d,ρ1)) D->R v H1):Po C own m σ F H o R:=by
 cases o with
 | ok p=>obtain ⟨d,ρ1⟩:=p;exact λv F1 H1 a c mo=>h v F1 H1 d ρ1 a c mo (PoS.shift (show PoS C own own' σ F H (k (d,ρ1)) D from hp) (.ofE a c))
 | exc x=>exact hp
 | bad=>exact hp.elim
theorem PoS.bindT {o:Out (Bool×Sl)} {k:Bool×Sl->Out (Fl×Sl)} {D:Ends} {R:Bool->Hp->Prop} (hp:PoS C own own' σ F H (o.bind k) D)
  (h:∀ F1 H1 b ρ1,Rep C.K own F1 H1 σ ρ1->Chg (OA own σ) F H F1 H1->PoS C own own' σ F1 H1 (k (b,ρ1)) D->R b H1):PoT C own σ F H o R:=by
 cases o with
 | ok p=>obtain ⟨d,ρ1⟩:=p;exact λF1 H1 a c=>h F1 H1 d ρ1 a c (PoS.shift (show PoS C own own' σ F H (k (d,ρ1)) D from hp) (.ofE a c))
 | exc x=>exact hp
 | bad=>exact hp.elim
variable {b a:Addr} {t':TS} {st:Stmt} {fe:Sl->Out (D×Sl)} {i:Nat} {x:Str} {pos':Pos}
section
variable {sts rest:List Stmt} {f g:Sl->Out (Fl×Sl)}
theorem Qu {t:TS} (h:PS X st t) (i:∀ D σ H,t' D σ H->t D σ H):PS X st t':=⟨λpins s σ H D I hw=>h pins s σ H D I (i D σ H hw)⟩
theorem Zs {t:TS} (h:PSs X sts t) (i:∀ D σ H,t' D σ H->t D σ H):PSs X sts t':=⟨λpins s σ H D I hw=>h pins s σ H D I (i D σ H hw)⟩
noncomputable def jk:Sl->Out (Fl×Sl):=λρ=>.ok (.nx,ρ)
noncomputable def qL (f g:Sl->Out (Fl×Sl)):Sl->Out (Fl×Sl):=λρ=>(f ρ).bind λp=>match p.1 with
 | .nx=>g p.2
 | fl=>.ok (fl,p.2)
theorem Nx.refl (r:Rep C.K own F H σ ρ):Nx C own own σ F H ρ σ F H:=.ofE r .refl
theorem qH:PSs X [] (tSt C own own jk):=Zs XF λD σ H ⟨F,ρ,a,h⟩=>h σ F H (.refl a)
theorem qfd {D:Ends} (h:tSt C o1 o3 (qL f g) D σ H):tSt C o1 o2 f { D with nx:=tSt C o2 o3 g D } σ H:=by
 obtain ⟨F,ρ,a,h⟩:=h;refine ⟨F,ρ,a,?_⟩;unfold qL at h;cases q:f ρ with
 | ok p=>
  rw [q] at h;obtain ⟨l,ρ1⟩:=p;cases l with
  | nx=>exact λσ' F' H' n=>⟨F',ρ1,n.rep,PoS.shift (show PoS C o1 o3 σ F H (g ρ1) D from h) n⟩
  | rt d=>exact h
  | bk=>exact h
  | ct=>exact h
 | exc c=>rw [q] at h; exact h
 | bad=>rw [q] at h; exact h.elim
theorem qf (h1:PS X st (tSt C o1 o2 f)) (h2:PSs X rest (tSt C o2 o3 g)):PSs X (st::rest) (tSt C o1 o3 (qL f g)):=Zs (qat h1 h2) λD σ H h=>qfd h
theorem ql (h1:PS X st (tSt C o1 o2 f)):PSs X [st] (tSt C o1 o2 f):=qcC h1
theorem Rep.weak {K:Frag} {F H:Hp} {σ:St} {ρ:Sl}:∀ (drop:List Nat) {own own':List Nat},(∀ i,i∈own'↔i∈own/\i∉drop)->Rep K own F H σ ρ->∃ F',Rep K own' F' H σ ρ/\Chg (OA own σ) F H F' H
 | [],own,own',hs,rp=>⟨F,⟨rp.sub,rp.len,λi d hi=>rp.val i d λz=>hi ((hs i).mpr ⟨z,by simp⟩),λi d hi=>rp.ow i d ((hs i).mp hi).1,λi hi=>rp.opn i ((hs i).mp hi).1,λi j a hi D=>rp.dis i j a ((hs i).mp hi).1 ((hs j).mp D).1⟩,.refl⟩
 | k::r,own,own',hs,rp=>by
  obtain ⟨F1,c,m⟩:=Rep.weak r (own:=own) (own':=own.filter λi=>decide (i∉r)) (λi=>by simp) rp;by_cases f:k∈own/\k∉r
  ·obtain ⟨d,hd⟩:=c.opn k (by simp [f.1,f.2]);obtain ⟨a,h1,h2,h3⟩:=c.ow k d (by simp [f.1,f.2]) hd;obtain ⟨u,hu⟩:∃ u,H a=iJ u:=by
    cases q:H a with
    | none=>exact absurd q h3.there
    | some u=>exact ⟨u,rfl⟩
   have gr:Same F1 (upd F1 a u):=λb w e=>by rw [qw (qE e h2)]; exact e
   refine ⟨upd F1 a u,⟨λb w e=>?_,c.len,λi d' hi e=>?_,λi d' hi e=>?_,λi hi=>?_,λi j b hi D=>?_⟩,?_⟩
   ·by_cases q:b=a;·subst q; rw [qo] at e; cases e; exact hu
    ·rw [qw q] at e; exact c.sub b w e
   ·by_cases q:i=k
    ·subst q;rw [hd] at e; cases e;refine ⟨_,h1,?_⟩;cases d with
     | lst ds=>obtain ⟨xs,e,t⟩:=h3; rw [hu] at e; cases e; exact .lst (.inl (.inl qo)) (t.mono gr)
     | dct ds=>obtain ⟨xs,e,t⟩:=h3; rw [hu] at e; cases e; exact .dct qo (t.mono gr)
     | ins C fs=>obtain ⟨dx,xs,e,t⟩:=h3; rw [hu] at e; cases e; exact .ins qo (t.mono gr)
     | at_ b ds=>obtain ⟨eb,xs,e,t⟩:=h3; rw [hu] at e; cases e; subst eb; exact .at_ (.inl (.inl qo)) (t.mono gr)
     | _=>exact h3.elim
    ·obtain ⟨v,n,o⟩:=c.val i d' (λz=>by simp at z; exact hi ((hs i).mpr ⟨z.1,by simp [q,z.2]⟩)) e;exact ⟨v,n,o.mono gr⟩
   ·have h:=(hs i).mp hi;have p:i≠k:=λz=>h.2 (by simp [z]);have l:i∉r:=λz=>h.2 (by simp [z]);obtain ⟨b,n,o,x⟩:=c.ow i d' (by simp [h.1,l]) e;refine ⟨b,n,?_,x.grow gr λ_ z=>z⟩;have y:b≠a:=λz=>by subst z; exact p (c.dis i k b (by simp [h.1,l]) (by simp [f.1,f.2]) n h1)
    rw [qw y]; exact o
   ·have h:=(hs i).mp hi;exact c.opn i (by simp [h.1]; exact λz=>h.2 (by simp [z]))
   ·have h:=(hs i).mp hi;have g:=(hs j).mp D;exact c.dis i j b (by simp [h.1]; exact λz=>h.2 (by simp [z])) (by simp [g.1]; exact λz=>g.2 (by simp [z]))
   ·refine ⟨m.keep,m.stay,m.grow.trans gr,λb s=>?_⟩;by_cases q:b=a;·exact .inr (.inr ⟨k,f.1,by rw [q]; exact h1⟩)
    ·rw [qw q] at s; exact m.new b s
  ·refine ⟨F1,⟨c.sub,c.len,λi d hi=>c.val i d λz=>?_,λi d hi=>c.ow i d ?_,λi hi=>c.opn i ?_,λi j a hi D=>c.dis i j a ?_ ?_⟩,m⟩;·simp at z;refine hi ((hs i).mpr ⟨z.1,?_⟩);simp only [ac,not_or];exact ⟨λq=>f (by subst q; exact z),z.2⟩
   all_goals
    first
     | (have q:=(hs _).mp hi; simp only [dq,decide_eq_true_eq]; exact ⟨q.1,λz=>q.2 (by simp [z])⟩)
     | (have q:=(hs _).mp D; simp only [dq,decide_eq_true_eq]; exact ⟨q.1,λz=>q.2 (by simp [z])⟩)
theorem OA.sub (h:∀ i∈own',i∈own) (q:OA own' σ b):OA own σ b:=let ⟨i,hi,e⟩:=q; ⟨i,h i hi,e⟩
theorem Nx.drop (drop:List Nat) (hs:∀ i,i∈own'↔i∈own/\i∉drop) (r:Rep C.K own F H σ ρ):∃ F',Nx C own own' σ F H ρ σ F' H:=by obtain ⟨F',a,c⟩:=Rep.weak drop hs r;exact ⟨F',a,c,λb q=>.inl (OA.sub (λi hi=>((hs i).mp hi).1) q),λ_ _=>rfl⟩
noncomputable def ul (own drop:List Nat):List Nat:=own.filter λi=>decide (i∉drop)
theorem jf {own drop:List Nat} (i:Nat):i∈ul own drop↔i∈own/\i∉drop:=by simp [ul]
theorem km (drop:List Nat) (h:PSs X sts (tSt C (ul own drop) o2 f)):PSs X sts (tSt C own o2 f):=Zs h λD σ H ⟨F,ρ,a,h⟩=>by obtain ⟨F',n⟩:=Nx.drop (C:=C) drop (λi=>jf (own:=own) i) a;exact ⟨F',ρ,n.rep,h.shift n⟩
noncomputable def sIf (ft:Sl->Out (Bool×Sl)) (f g:Sl->Out (Fl×Sl)):Sl->Out (Fl×Sl):=λρ=>(ft ρ).bind λp=>if p.1=iO then f p.2 else g p.2
theorem qW {a b:List Stmt} (d:PT X c (tT C own ft)) (i:PSs X a (tSt C own own' f)) (e:PSs X b (tSt C own own' g)):PS X (.If c a b pos) (tSt C own own' (sIf ft f g)):=by
 refine Qu (qgU d i e) λD σ H ⟨F,ρ,p,h⟩=>⟨F,ρ,p,PoS.bindT h λF1 H1 k ρ1 r j h1=>?_⟩
 cases k with
 | true=>exact ⟨F1,ρ1,r,h1⟩
 | false=>exact ⟨F1,ρ1,r,h1⟩
noncomputable def kz (fe:Sl->Out (D×Sl)):Sl->Out (Fl×Sl):=λρ=>(fe ρ).bind λp=>.ok (.nx,p.2)
theorem ji (i:PE X e (tE C own m fe)) (hs:swapsWith e iL pos.line X.env=pure false:=by rfl):PS X (.Expr e pos) (tSt C own own (kz fe)):=by refine Qu (qcD i hs) λD σ H ⟨F,ρ,r,h⟩=>⟨F,ρ,r,PoS.bindE h λv F1 H1 d ρ1 a k c h1=>h1 σ F1 H1 (.refl a)⟩
noncomputable def jL (fe:Sl->Out (D×Sl)):Sl->Out (Fl×Sl):=λρ=>(fe ρ).bind λp=>.ok (.rt p.1,p.2)
theorem qc6 (b:PE X e (tE C own C.mr fe)) (o:∀ i∈C.io,i∈own:=by exact kU rfl):PS X (.Return (iJ e) pos) (tSt C own own' (jL fe)):=by
 refine Qu (qeE b) λD σ H ⟨F,ρ,r,h⟩=>⟨F,ρ,r,?_⟩
 unfold jL at h;cases q:fe ρ with
 | ok p=>rw [q] at h;obtain ⟨d,ρ1⟩:=p;exact λv F1 H1 a k m=>h v σ F1 H1 a.sub (a.ioIs o) k (λ_ _=>rfl) m
 | exc c=>rw [q] at h; exact h
 | bad=>rw [q] at h; exact h.elim
theorem qp (a:PE X e (tE C own m fe)) (h:m≠.any:=by decide) (c:C.mr=.sh:=by rfl) (o:∀ i∈C.io,i∈own:=by exact kU rfl):PS X (.Return (iJ e) pos) (tSt C own own' (jL fe)):=qc6 (by rw [c]; exact yQ a h) o
theorem Rep.put (r:Rep K own F H σ ρ) (hi:i < ρ.length) (is:Is K F v d):Rep K (ul own [i]) F H (σ.set i (iJ v)) (ρ.set i (iJ d)) where
 sub:=r.sub
 len:=by simp [r.len]
 val:=λj d' D e=>by
  by_cases q:j=i;·subst q;rw [aD hi] at e;cases e;exact ⟨v,aD (by rw [r.len]; exact hi),is⟩
  ·rw [ai (aZ q)] at e;obtain ⟨w,h1,h2⟩:=r.val j d' (λz=>D ((jf j).mpr ⟨z,by simp [q]⟩)) e;exact ⟨w,by rw [ai (aZ q)]; exact h1,h2⟩
 ow:=λj d' D e=>by have g:=(jf j).mp D;have q:j≠i:=λz=>g.2 (by simp [z]);rw [ai (aZ q)] at e;obtain ⟨a,h1,h2⟩:=r.ow j d' g.1 e;exact ⟨a,by rw [ai (aZ q)]; exact h1,h2⟩
 opn:=λj D=>by have g:=(jf j).mp D;have q:j≠i:=λz=>g.2 (by simp [z]);obtain ⟨d',e⟩:=r.opn j g.1;exact ⟨d',by rw [ai (aZ q)]; exact e⟩
 dis:=λj k a D c e1 b=>by have g:=(jf j).mp D;have h:=(jf k).mp c;rw [ai (λz=>g.2 (by simp [z]))] at e1;rw [ai (λz=>h.2 (by simp [z]))] at b;exact r.dis j k a g.1 h.1 e1 b
theorem OA.put (h:OA (ul own [i]) (σ.set i (iJ v)) b):OA own σ b:=by obtain ⟨j,D,e⟩:=h;have g:=(jf j).mp D;rw [ai (λz=>g.2 (by simp [z]))] at e;exact ⟨j,g.1,e⟩
noncomputable def kj (i:Nat) (fe:Sl->Out (D×Sl)):Sl->Out (Fl×Sl):=λρ=>(fe ρ).bind λp=>if i < p.2.length then .ok (.nx,p.2.set i (iJ p.1)) else .bad
theorem jg (n:X.N.Nodup) (hi:X.N[i]?=iJ x) (hx:Loc X.env.scope x) (l:PE X e (tE C own m fe)) (f:m≠.any:=by decide) (o:i∉C.io:=by exact QK rfl) (hs:swapsWith e (iJ (.Name x pos')) pos.line X.env=pure false:=by rfl)
  (k:X.fn x=iO\/X.env.scope.names.lookup x=iJ .local:=by first | exact .inl rfl | exact .inr rfl):PS X (.Assign [.Name x pos'] e pos) (tSt C own (ul own [i]) (kj i fe)):=by
 refine Qu (qbW n hi hx (yQ l f) hs k) λD σ H ⟨F,ρ,r,h⟩=>⟨F,ρ,r,PoS.bindE h λv F1 H1 d ρ1 a p c h1=>?_⟩
 by_cases q:i < ρ1.length;·have h1:PoS C own (ul own [i]) σ F1 H1 (if i < ρ1.length then .ok (.nx,ρ1.set i (iJ d)) else .bad) D:=h1;rw [if_pos q] at h1;exact h1 _ F1 H1 ⟨a.put q c,.refl,λb z=>.inl (OA.put z),λj g=>ai λz=>o (by rw [z]; exact g)⟩
 ·have h1:PoS C own (ul own [i]) σ F1 H1 (if i < ρ1.length then .ok (.nx,ρ1.set i (iJ d)) else .bad) D:=h1;rw [if_neg q] at h1;exact h1.elim
theorem Rep.putO (r:Rep K own F H σ ρ) (hi:i < ρ.length) (E:F a=iL) (n:¬OA own σ a) (o:OwnIs K F H a d):Rep K (i::ul own [i]) F H (σ.set i (iJ (.ref a))) (ρ.set i (iJ d)) where
 sub:=r.sub
 len:=by simp [r.len]
 val:=λj d' D e=>by have q:j≠i:=λz=>D (by simp [z]);rw [ai (aZ q)] at e;obtain ⟨w,h1,h2⟩:=r.val j d' (λz=>D (af _ ((jf j).mpr ⟨z,by simp [q]⟩))) e;exact ⟨w,by rw [ai (aZ q)]; exact h1,h2⟩
 ow:=λj d' D e=>by
  by_cases q:j=i;·subst q;rw [aD hi] at e;cases e;exact ⟨a,aD (by rw [r.len]; exact hi),E,o⟩
  ·have g:=(jf j).mp ((ac.mp D).resolve_left q);rw [ai (aZ q)] at e;obtain ⟨b,h1,h2⟩:=r.ow j d' g.1 e;exact ⟨b,by rw [ai (aZ q)]; exact h1,h2⟩
 opn:=λj D=>by
  by_cases q:j=i;·subst q; exact ⟨d,aD hi⟩
  ·have g:=(jf j).mp ((ac.mp D).resolve_left q);obtain ⟨d',e⟩:=r.opn j g.1;exact ⟨d',by rw [ai (aZ q)]; exact e⟩
 dis:=λj k b D p e1 f=>by
  have m:i < σ.length:=by rw [r.len]; exact hi
  by_cases l:j=i
  ·by_cases c:k=i;·rw [l,c]
   ·subst l;have h:=(jf k).mp ((ac.mp p).resolve_left c);rw [aD m] at e1;cases e1;rw [ai (aZ c)] at f;exact absurd ⟨k,h.1,f⟩ n
  ·have g:=(jf j).mp ((ac.mp D).resolve_left l);by_cases c:k=i;·subst c;rw [aD m] at f;cases f;rw [ai (aZ l)] at e1;exact absurd ⟨j,g.1,e1⟩ n
   ·have h:=(jf k).mp ((ac.mp p).resolve_left c);rw [ai (aZ l)] at e1;rw [ai (aZ c)] at f;exact r.dis j k b g.1 h.1 e1 f
theorem kn (u:X.N.Nodup) (hi:X.N[i]?=iJ x) (hx:Loc X.env.scope x) (t:PE X e (tE C own .fr fe)) (k:i∉C.io:=by exact QK rfl) (hs:swapsWith e (iJ (.Name x pos')) pos.line X.env=pure false:=by rfl)
  (s:X.fn x=iO\/X.env.scope.names.lookup x=iJ .local:=by first | exact .inl rfl | exact .inr rfl):PS X (.Assign [.Name x pos'] e pos) (tSt C own (i::ul own [i]) (kj i fe)):=by
 refine Qu (qbW u hi hx t hs s) λD σ H ⟨F,ρ,n,h⟩=>⟨F,ρ,n,?_⟩
 unfold kj at h;cases q:fe ρ with
 | ok p=>
  rw [q] at h;obtain ⟨d,ρ1⟩:=p;intro v F1 H1 r w m;obtain ⟨a,rfl,h0,E,o⟩:=m;by_cases z:i < ρ1.length
  ·have h1:PoS C own (i::ul own [i]) σ F H (if i < ρ1.length then .ok (.nx,ρ1.set i (iJ d)) else .bad) D:=h;rw [if_pos z] at h1;refine h1 _ F1 H1 ⟨r.putO z E (λy=>(n.OA_there y).1 h0) o,w,λb y=>?_,λj f=>ai λy=>k (by rw [y]; exact f)⟩;obtain ⟨j,f,e⟩:=y;by_cases l:j=i;·subst l;rw [aD (by rw [r.len]; exact z)] at e;cases e;exact .inr h0
   ·have g:=(jf j).mp ((ac.mp f).resolve_left l);rw [ai (aZ l)] at e;exact .inl ⟨j,g.1,e⟩
  ·have h1:PoS C own (i::ul own [i]) σ F H (if i < ρ1.length then .ok (.nx,ρ1.set i (iJ d)) else .bad) D:=h;rw [if_neg z] at h1;exact h1.elim
 | exc c=>rw [q] at h; exact h
 | bad=>rw [q] at h; exact h.elim
end
inductive AK where
 | vl | sl (i:Nat) | fr
 deriving DecidableEq
def ArgV (K:Frag) (H0 F H:Hp) (σ:St):List AK->List V->List D->Prop
 | [],[],[]=>True
 | .vl::as,v::vs,d::ds=>Is K F v d/\ArgV K H0 F H σ as vs ds
 | .sl i::as,v::vs,d::ds=>σ[i]?=iJ (iJ v)/\d=.non/\ArgV K H0 F H σ as vs ds
 | .fr::as,v::vs,d::ds=>MoIs K .fr H0 F H v d/\ArgV K H0 F H σ as vs ds
 | _,_,_=>False
variable {H0 F' H':Hp}
theorem ArgV.grow {A:Addr->Prop} (c:Chg A F H F' H') (hA:∀ x,A x->H0 x≠iL):∀ {as:List AK} {vs:List V} {ds:List D},ArgV K H0 F H σ as vs ds->ArgV K H0 F' H' σ as vs ds
 | [],[],[],h=>trivial
 | .vl::as,v::vs,d::ds,h=>⟨h.1.mono c.grow,ArgV.grow c hA h.2⟩
 | .sl i::as,v::vs,d::ds,h=>⟨h.1,h.2.1,ArgV.grow c hA h.2.2⟩
 | .fr::as,v::vs,d::ds,h=>⟨h.1.grow (by decide) c hA,ArgV.grow c hA h.2⟩
 | [],_::_,_,h=>h.elim
 | [],[],_::_,h=>h.elim
 | .vl::_,[],_,h=>h.elim
 | .vl::_,_::_,[],h=>h.elim
 | .sl _::_,[],_,h=>h.elim
 | .sl _::_,_::_,[],h=>h.elim
 | .fr::_,[],_,h=>h.elim
 | .fr::_,_::_,[],h=>h.elim
theorem ArgV.back {A:Addr->Prop} {F0:Hp} (c:Chg A F0 H0 F1 H1):∀ {as:List AK} {vs:List V} {ds:List D},ArgV K H1 F H σ as vs ds->ArgV K H0 F H σ as vs ds
 | [],[],[],h=>trivial
 | .vl::as,v::vs,d::ds,h=>⟨h.1,ArgV.back c h.2⟩
 | .sl i::as,v::vs,d::ds,h=>⟨h.1,h.2.1,ArgV.back c h.2.2⟩
 | .fr::as,v::vs,d::ds,h=>⟨MoIs.back (Ha:=H1) c h.1,ArgV.back c h.2⟩
 | [],_::_,_,h=>h.elim
 | [],[],_::_,h=>h.elim
 | .vl::_,[],_,h=>h.elim
 | .vl::_,_::_,[],h=>h.elim
 | .sl _::_,[],_,h=>h.elim
 | .sl _::_,_::_,[],h=>h.elim
 | .fr::_,[],_,h=>h.elim
 | .fr::_,_::_,[],h=>h.elim
def PoA (C:Ct) (own:List Nat) (as:List AK) (σ:St) (F H:Hp) (r:Out (List D×Sl)) (Q:List V->Hp->Prop):Prop:=match r with
 | .ok (ds,ρ')=>∀ vs F' H',Rep C.K own F' H' σ ρ'->Chg (OA own σ) F H F' H'->ArgV C.K H F' H' σ as vs ds->Q vs H'
 | .exc c ρ'=>∀ F' H',Same F' H'->Xx C.K C.ox F' H' σ ρ'->Chg (OA own σ) F H F' H'->C.E (C.cv c) iL H'
 | .bad=>False
def tAr (C:Ct) (own:List Nat) (as:List AK) (f:Sl->Out (List D×Sl)):TA:=λσ H Q=>∃ F ρ,Rep C.K own F H σ ρ/\PoA C own as σ F H (f ρ) Q
variable {as:List AK}
theorem PoA.bindV {ma:Mo} {k:D×Sl->Out (List D×Sl)} {Q:List V->Hp->Prop} {R:VK} (hp:PoA C own as σ F H (o.bind k) Q)
  (h:∀ v F1 H1 d ρ1,Rep C.K own F1 H1 σ ρ1->Chg (OA own σ) F H F1 H1->MoIs C.K ma H F1 H1 v d->PoA C own as σ F H (k (d,ρ1)) Q->R v H1):Po C own ma σ F H o R:=by
 cases o with
 | ok p=>obtain ⟨d,ρ1⟩:=p;exact λv F1 H1 a c mo=>h v F1 H1 d ρ1 a c mo hp
 | exc x=>exact hp
 | bad=>exact hp.elim
theorem Po.bindA {as:List AK} {o:Out (List D×Sl)} {k:List D×Sl->Out (D×Sl)} {Q:VK} {R:List V->Hp->Prop} (hp:Po C own m σ F H (o.bind k) Q)
  (h:∀ vs F1 H1 ds ρ1,Rep C.K own F1 H1 σ ρ1->Chg (OA own σ) F H F1 H1->ArgV C.K H F1 H1 σ as vs ds->Po C own m σ F1 H1 (k (ds,ρ1)) Q->R vs H1):PoA C own as σ F H o R:=by
 cases o with
 | ok p=>obtain ⟨d,ρ1⟩:=p;exact λvs F1 H1 a c v=>h vs F1 H1 d ρ1 a c v (Po.shift (show Po C own m σ F H (k (d,ρ1)) Q from hp) c)
 | exc x=>exact hp
 | bad=>exact hp.elim
noncomputable def qB:Sl->Out (List D×Sl):=λρ=>.ok ([],ρ)
noncomputable def qd (fe:Sl->Out (D×Sl)) (fr:Sl->Out (List D×Sl)):Sl->Out (List D×Sl):=λρ=>(fe ρ).bind λp=>(fr p.2).bind λq=>.ok (p.1::q.1,q.2)
noncomputable def kA (fr:Sl->Out (List D×Sl)):Sl->Out (List D×Sl):=λρ=>(fr ρ).bind λq=>.ok (D.non::q.1,q.2)
variable {es:List Expr} {p:Addr} {u:HO}
section
variable {fr:Sl->Out (List D×Sl)}
theorem qc7 {t t':TA} (h:PA X es t) (i:∀ σ H Q,t' σ H Q->t σ H Q):PA X es t':=⟨λpos pins s σ H Q I hw=>h pos pins s σ H Q I (i σ H Q hw)⟩
theorem qg:PA X [] (tAr C own [] qB):=qc7 jI λσ H Q ⟨F,ρ,a,h⟩=>h [] F H a .refl trivial
theorem ge {a:AK} {Q:List V->Hp->Prop} {v:V} (h:∀ x,OA own σ x->H x≠iL) (e:Rep C.K own F1 H1 σ ρ1) (k:Chg (OA own σ) F H F1 H1) (hp:PoA C own (a::as) σ F H ((fr ρ1).bind λq=>.ok (d::q.1,q.2)) Q)
  (g:∀ b H2 vs ds,Chg (OA own σ) F1 H1 b H2->ArgV C.K H b H2 σ as vs ds->ArgV C.K H b H2 σ (a::as) (v::vs) (d::ds)):tAr C own as fr σ H1 λxs H2=>Q (v::xs) H2:=by
 refine ⟨F1,ρ1,e,?_⟩;cases q:fr ρ1 with
 | ok p=>rw [q] at hp;obtain ⟨ds,ρ2⟩:=p;exact λvs b H2 r c2 f=>hp (v::vs) b H2 r (k.trans' c2) (g b H2 vs ds c2 (ArgV.back k f))
 | exc c=>rw [q] at hp; exact λF' H' s io S=>hp F' H' s io (k.trans' S)
 | bad=>rw [q] at hp; exact hp.elim
theorem qb (g:PE X e (tE C own m fe)) (b:PA X es (tAr C own as fr)) (f:m≠.any:=by decide) (hs:starEach (e::es) X.env=(iN,eval e X.env)::starEach es X.env:=by exact jp rfl):PA X (e::es) (tAr C own (.vl::as) (qd fe fr)):=by
 refine qc7 (qK (yQ g f) b hs) λσ H Q ⟨F,ρ,r,h⟩=>⟨F,ρ,r,PoA.bindV h λv F1 H1 d ρ1 a k c h1=>?_⟩
 exact ge (λx z=>(r.OA_there z).1) a k h1 λj H2 vs ds c2 i=>⟨Is.mono c2.grow c,i⟩
theorem jv {px:Pos} (f:X.N[i]?=iJ x) (c:Vis X.env.scope x) (m:i∈own) (e:PA X es (tAr C own as fr)) (hs:starEach (.Name x px::es) X.env=(iN,eval (.Name x px) X.env)::starEach es X.env:=by rfl)
  (hd:(x == ("__debug__":Str))=false:=by decide) (b:(x == ("__classdict__":Str))=false:=by decide):PA X (.Name x px::es) (tAr C own (.sl i::as) (kA fr)):=by
 refine qc7 (qK (um f c hd b) e hs) λσ H Q ⟨F,ρ,r,h⟩=>?_;obtain ⟨d,hd⟩:=r.opn i m;obtain ⟨a,h1,h2,h3⟩:=r.ow i d m hd;exact ⟨_,h1,ge (λx z=>(r.OA_there z).1) r .refl h λg H2 vs ds c2 v=>⟨h1,rfl,v⟩⟩
theorem ArgV.isL:∀ {as:List AK} {vs:List V} {ds:List D},(as.all λa=>decide (a=.vl))=iO->ArgV K H0 F H σ as vs ds->IsL K F vs ds
 | [],[],[],_,_=>.nil
 | .vl::as,v::vs,d::ds,h,a=>.cons a.1 (ArgV.isL (by simpa using h) a.2)
 | .sl i::as,_,_,h,a=>by simp at h
 | .fr::as,_,_,h,a=>by simp at h
 | [],_::_,_,_,h=>h.elim
 | [],[],_::_,_,h=>h.elim
 | .vl::_,[],_,_,h=>h.elim
 | .vl::_,_::_,[],_,h=>h.elim
noncomputable def xE (fr:Sl->Out (List D×Sl)):Sl->Out (D×Sl):=λρ=>(fr ρ).bind λp=>if p.1.length<=sizeLine then .ok (.tup p.1,p.2) else .bad
noncomputable def Qq (fr:Sl->Out (List D×Sl)):Sl->Out (D×Sl):=λρ=>(fr ρ).bind λp=>if p.1.length<=sizeLine then .ok (.lst p.1,p.2) else .bad
theorem qfe (a:Rep C.K own F H σ ρ) (hp:H p=iL):Rep C.K own (upd F p u) (upd H p u) σ ρ/\Chg No F H (upd F p u) (upd H p u):=by
 have E:F p=none:=by
  cases q:F p with
  | none=>rfl
  | some o=>rw [a.sub p o q] at hp; cases hp
 have c:Chg No F H (upd F p u) (upd H p u):=⟨λb o e _=>by rw [qw (qE e hp)]; exact e,λb e=>by
  by_cases q:b=p;·rw [q,qo]; simp
  ·rw [qw q]; exact e,λb o e=>by rw [qw (qE e E)]; exact e,λb e=>by
  by_cases q:b=p;·exact .inr (.inl (by rw [q]; exact hp))
  ·rw [qw q] at e; exact .inl e⟩
 refine ⟨a.grow c λb o e=>?_,c⟩;by_cases q:b=p;·subst q; rw [qo] at e ⊢; exact e
 ·rw [qw q] at e ⊢; exact a.sub b o e
theorem Zu (a:Rep C.K own F H σ ρ) (hp:H p=iL):Rep C.K own F (upd H p u) σ ρ/\Chg No F H F (upd H p u)/\F p=none:=by
 have E:F p=none:=by
  cases q:F p with
  | none=>rfl
  | some o=>rw [a.sub p o q] at hp; cases hp
 have c:Chg No F H F (upd H p u):=⟨λb o e _=>by rw [qw (qE e hp)]; exact e,λb e=>by
  by_cases q:b=p;·rw [q,qo]; simp
  ·rw [qw q]; exact e,Same.refl _,λb e=>.inl e⟩
 exact ⟨a.grow c λb o e=>by rw [qw (qE e E)]; exact a.sub b o e,c,E⟩
theorem vn {x1} (h:PA X es (tAr C own as fr)) (g:(as.all λa=>decide (a=.vl))=true:=by decide):PE X (.Tuple es x1 pos) (tE C own .sh (xE fr)):=by
 refine jF (qeU h) λσ H Q ⟨F,ρ,c,h⟩=>⟨F,ρ,c,Po.bindA h λvs F1 H1 ds ρ1 b k v h1=>?_⟩
 have i:=v.isL g;have h1:Po C own .sh σ F1 H1 (if ds.length<=sizeLine then .ok (.tup ds,ρ1) else .bad) Q:=h1;by_cases z:ds.length<=sizeLine;·rw [if_pos z] at h1;refine ⟨by rw [i.length]; exact z,λp hp=>?_⟩;obtain ⟨r,c2⟩:=qfe (u:=.tup vs) b hp;exact h1 _ _ _ r c2.ofNo (.tup (.inl (.inl qo)) (i.mono c2.grow))
 ·rw [if_neg z] at h1; exact h1.elim
theorem wo (h:PA X es (tAr C own as fr)) (g:(as.all λa=>decide (a=.vl))=true:=by decide):PE X (.List es pos) (tE C own .fr (Qq fr)):=by
 refine jF (qeV h) λσ H Q ⟨F,ρ,c,h⟩=>⟨F,ρ,c,Po.bindA h λvs F1 H1 ds ρ1 b k v h1=>?_⟩
 have i:=v.isL g;have h1:Po C own .fr σ F1 H1 (if ds.length<=sizeLine then .ok (.lst ds,ρ1) else .bad) Q:=h1;by_cases z:ds.length<=sizeLine;·rw [if_pos z] at h1;refine ⟨by rw [i.length]; exact z,λp hp=>?_⟩;obtain ⟨r,c2,E⟩:=Zu (u:=.lst vs) b hp;exact h1 _ _ _ r c2.ofNo ⟨p,rfl,hp,E,vs,qo,i⟩
 ·rw [if_neg z] at h1; exact h1.elim
theorem Uu:PE X (.Dict [] [] pos) (tE C own .fr (dC (.dct []))):=by refine jF qaJ λσ H Q ⟨F,ρ,a,h⟩ p hp=>?_;obtain ⟨r,c2,E⟩:=Zu (u:=.dK []) a hp;exact h _ _ _ r c2.ofNo ⟨p,rfl,hp,E,[],qo,.nil⟩
noncomputable def ixD:D->D->Out D
 | .lst xs,.int i=>match atI xs i with
  | some d=>.ok d
  | none=>.bad
 | .tup xs,.int i=>match atI xs i with
  | some d=>.ok d
  | none=>.bad
 | .str x,.int i=>match atI x.cps.toList i with
  | some c=>.ok (.str ⟨#[c]⟩)
  | none=>.bad
 | .dct kvs,.str x=>match (kvs.find? λkv=>decide (kv.1=cu x)) with
  | some kv=>.ok kv.2
  | none=>.bad
 | .dct kvs,.int x=>match (kvs.find? λkv=>decide (kv.1=fq x)) with
  | some kv=>.ok kv.2
  | none=>.bad
 | _,_=>.bad
theorem IsL.atI {i:Int} (h:IsL K F vs ds) (e:L2.atI ds i=iJ d):∃ v,L2.atI vs i=iJ v/\Is K F v d:=by
 unfold L2.atI at e ⊢;rw [h.length];cases q:ixN ds.length i with
 | none=>rw [q] at e; cases e
 | some j=>rw [q] at e;exact h.getD e
theorem IsK.find {k:Key}:∀ {vs:List (Key×V)} {ds:List (Key×D)} {d:Key×D},IsK K F vs ds->(ds.find? λkv=>decide (kv.1=k))=iJ d->∃ v,Um vs k=iJ v/\Is K F v d.2
 | _,_,_,.nil,e=>by simp at e
 | _,_,d,.cons (k:=k') (vs:=vs) h t,e=>by
  by_cases q:k'=k;·rw [List.find?_cons_of_pos (by simp [q])] at e;cases e;exact ⟨_,zH q,h⟩
  ·rw [List.find?_cons_of_neg (by simp [q])] at e;obtain ⟨v,h1,h2⟩:=IsK.find t e;exact ⟨v,by rw [zI q]; exact h1,h2⟩
theorem Uv (c:Nat):(⟨#[c]⟩:Str).length<=sizeLine:=by show 1<=sizeLine;rw [iT]; decide
def qh9 (K:Frag):R2:=λx y H Q=>rIx K x y H Q\/∃ a v,x=.ref a/\DGet H a y (iJ v)/\Q v H
theorem qff (f:X.A.units+1 < cLine):IxR X (qh9 X.K):=by
 refine IxR.or qeY ?_;intro value e pins s σ H x y v u Q I d c h hs;obtain ⟨a,w,rfl,g,q⟩:=h;cases d;obtain ⟨T,l⟩:∃ T,s.TypeIs (.ref a) T/\T = "dict":=⟨_,VY I g,rfl⟩
 obtain ⟨l,rfl⟩:=l;exact tail_any l PySem.slot_dict_getitem.lookup (Zb f I g c λw' s' b r=>⟨w,H,b,r,q⟩) hs
end
variable {T:String}
section
variable {a b:Expr} {fb:Sl->Out (D×Sl)}
theorem qfg {σ:St} {x y:V} {dx b:D} {Q:VK} (m:C.K=X.K) (s:Same F H) (f:TopIs C.K F H x dx) (ty:TopIs C.K F H y b) (po:PoV C .sh F H (ixD dx b) Q):qh9 X.K x y H Q:=by
 rw [m] at f ty;cases dx with
 | lst xs=>
  cases b <;> try exact po.elim
  rename_i i;obtain rfl:=ty.int;obtain ⟨a,vs,rfl,p,t⟩:=f.lst s;unfold ixD at po;cases e:L2.atI xs i with
  | none=>simp only [e] at po; exact po.elim
  | some d=>simp only [e] at po;obtain ⟨v,h1,h2⟩:=t.atI e;exact .inl (.inl ⟨a,vs,i,v,rfl,rfl,p,h1,po v F H s .refl (by rw [m]; exact h2)⟩)
 | tup xs=>
  cases b <;> try exact po.elim
  rename_i i;obtain rfl:=ty.int;obtain ⟨a,vs,rfl,p,t⟩:=f.tup s;unfold ixD at po;cases e:L2.atI xs i with
  | none=>simp only [e] at po; exact po.elim
  | some d=>simp only [e] at po;obtain ⟨v,h1,h2⟩:=t.atI e;exact .inl (.inr (.inl ⟨a,vs,i,v,rfl,rfl,p,h1,po v F H s .refl (by rw [m]; exact h2)⟩))
 | str z=>
  cases b <;> try exact po.elim
  rename_i i;obtain rfl:=ty.int;obtain ⟨rfl,hz⟩:=f.str;unfold ixD at po;cases e:L2.atI z.cps.toList i with
  | none=>simp only [e] at po; exact po.elim
  | some c=>simp only [e] at po;exact .inl (.inr (.inr ⟨z,i,c,rfl,rfl,hz,e,po _ F H s .refl (.str (Uv c))⟩))
 | dct kvs=>
  obtain ⟨a,kv,rfl,p,t⟩:=f.dct s;cases b with
  | int i=>
   obtain rfl:=ty.int;unfold ixD at po;cases e:(kvs.find? λkv=>decide (kv.1=fq i)) with
   | none=>simp only [e] at po; exact po.elim
   | some d=>simp only [e] at po;obtain ⟨v,h1,h2⟩:=t.find e;exact .inr ⟨a,v,rfl,by rw [<-h1]; exact DGet.k (k:=fq i) p,po v F H s .refl (by rw [m]; exact h2)⟩
  | str z=>
   obtain ⟨rfl,_⟩:=ty.str;unfold ixD at po;cases e:(kvs.find? λkv=>decide (kv.1=cu z)) with
   | none=>simp only [e] at po; exact po.elim
   | some d=>simp only [e] at po;obtain ⟨v,h1,h2⟩:=t.find e;exact .inr ⟨a,v,rfl,by rw [<-h1]; exact DGet.k (k:=cu z) p,po v F H s .refl (by rw [m]; exact h2)⟩
  | _=>exact po.elim
 | _=>exact po.elim
theorem vo (s:C.K=X.K) (D:X.A.units+64 < cLine) (o:PE X a (tE C own ma fa)) (n:PE X b (tE C own mb fb)) (hs:XW b) (j:ma≠.any:=by decide):PE X (.Subscript a b pos) (tE C own .sh (d2 ixD fa fb)):=by
 refine jF (qha (qff (by omega)) o n hs) λσ H Q h=>?_;obtain ⟨F,ρ,l,h⟩:=KC (mb:=mb) j h;refine ⟨F,ρ,l,?_⟩;cases q:fa ρ with
 | ok p=>
  rw [q] at h;obtain ⟨d,ρ1⟩:=p;intro v F1 H1 f u i;obtain ⟨B,ρ2,e,h2⟩:=h v F1 H1 f u i;refine ⟨B,ρ2,e,?_⟩;cases g:fb ρ2 with
  | ok p=>rw [g] at h2;obtain ⟨d',k⟩:=p;intro w z x r G m;obtain ⟨J,dx,E,y,t,ty,po⟩:=h2 w z x r G m;exact qfg (σ:=σ) s y t ty po
  | exc c=>rw [g] at h2; exact h2
  | bad=>rw [g] at h2; exact h2.elim
 | exc c=>rw [q] at h; exact h
 | bad=>rw [q] at h; exact h.elim
def Qv (X:Cx) (C:Ct) (m:Mo) (f:iM) (g:D->Out D):Prop:=uo X f (λxs H Q=>∃ x F dx,xs=[x]/\Same F H/\TopIs C.K F H x dx/\PoV C m F H (g dx) Q)
theorem gf {Q:VK} {g:D->Out D} (h:tE C own m (d1 g fa) σ H Q):YL (tE C own ma fa) qeT σ H λxs H1=>∃ x F dx,xs=[x]/\Same F H1/\TopIs C.K F H1 x dx/\PoV C m F H1 (g dx) Q:=by
 obtain ⟨F,ρ,r,h⟩:=Jk (ma:=ma) h;refine ⟨F,ρ,r,?_⟩;cases q:fa ρ with
 | ok p=>rw [q] at h;obtain ⟨d,ρ1⟩:=p;intro v F1 H1 a k b;obtain ⟨e,dx,y,t,po⟩:=h v F1 H1 a k b;exact ⟨v,e,dx,rfl,y,t,po⟩
 | exc c=>rw [q] at h; exact h
 | bad=>rw [q] at h; exact h.elim
theorem qF {id:String} {p:Pos} {g:D->Out D} (d:Qv X C m (.builtin id) g) (hg:Gl X x) (a:X.mg x=iL) (c:bootBuiltins x=iJ (.builtin id)) (f:PE X e (tE C own ma fa)) (n:x ≠ "__name__":=by decide) (b:(x == ("__debug__":Str))=false:=by decide)
  (i:starEach [e] X.env=[(iN,eval e X.env)]:=by exact qI rfl):PE X (.Call (.Name x p) [e] [] pos) (tE C own m (d1 g fa)):=
 jF (wC d hg a c (qK f jI i) n b (by rw [i]; rfl) rfl) λ_ _ _ h=>gf h
theorem vp {p:Pos} {g:D->Out D} (d:Qv X C m (.type T) g) (hg:Gl X x) (a:X.mg x=iL) (c:bootBuiltins x=iJ (.type T)) (f:PE X e (tE C own ma fa)) (n:x ≠ "__name__":=by decide) (b:(x == ("__debug__":Str))=false:=by decide)
  (i:starEach [e] X.env=[(iN,eval e X.env)]:=by exact qI rfl):PE X (.Call (.Name x p) [e] [] pos) (tE C own m (d1 g fa)):=
 jF (uq d hg a c (qK f jI i) n b (by rw [i]; rfl) rfl) λ_ _ _ h=>gf h
noncomputable def kM:D->Out D
 | .str x=>.ok (.int x.length)
 | .lst xs=>.ok (.int xs.length)
 | .tup xs=>.ok (.int xs.length)
 | .dct xs=>.ok (.int xs.length)
 | _=>.bad
theorem IsK.length:∀ {vs:List (Key×V)} {ds:List (Key×D)},IsK K F vs ds->vs.length=ds.length
 | _,_,.nil=>rfl
 | _,_,.cons _ t=>congrArg (·+1) (IsK.length t)
theorem kC (m:C.K=X.K):Qv X C .sh (.builtin "len") kM:=by
 intro pins s σ H xs us Q I r h;obtain ⟨x,F,dx,rfl,y,b,po⟩:=h;cases dx with
 | str z=>obtain ⟨rfl,hz⟩:=b.str;exact Jg pins s σ H _ us Q I r ⟨_,_,rfl,⟨hz,rfl⟩,po _ F H y .refl (.int _)⟩
 | lst ds=>obtain ⟨a,vs,rfl,p,t⟩:=b.lst y;exact Jg pins s σ H _ us Q I r ⟨_,ds.length,rfl,.inl ⟨vs,by rw [<-m]; exact p,t.length.symm⟩,po _ F H y .refl (.int _)⟩
 | tup ds=>obtain ⟨a,vs,rfl,p,t⟩:=b.tup y;exact Jg pins s σ H _ us Q I r ⟨_,ds.length,rfl,.inr ⟨vs,by rw [<-m]; exact p,t.length.symm⟩,po _ F H y .refl (.int _)⟩
 | dct ds=>obtain ⟨a,vs,rfl,p,t⟩:=b.dct y;refine Zf pins s σ H _ us Q I r ⟨a,vs,rfl,p,?_⟩;rw [t.length];exact po _ F H y .refl (.int _)
 | _=>exact po.elim
noncomputable def ug:D->D->Out D
 | .int i,.int j=>.ok (.int (i+j))
 | .str x,.str y=>if x.length+y.length<=sizeLine then .ok (.str (x++y)) else .bad
 | .lst xs,.lst ys=>if xs.length+ys.length<=sizeLine then .ok (.lst (xs++ys)) else .bad
 | .tup xs,.tup ys=>if xs.length+ys.length<=sizeLine then .ok (.tup (xs++ys)) else .bad
 | _,_=>.bad
theorem yB (y:Same F H) (hp:H p=iL):Same (upd F p u) (upd H p u)/\Chg No F H (upd F p u) (upd H p u):=by
 have E:F p=none:=by
  cases q:F p with
  | none=>rfl
  | some o=>rw [y p o q] at hp; cases hp
 refine ⟨λb o e=>?_,⟨λb o e _=>by rw [qw (qE e hp)]; exact e,λb e=>?_,λb o e=>by rw [qw (qE e E)]; exact e,λb e=>?_⟩⟩
 ·by_cases q:b=p;·subst q; rw [qo] at e ⊢; exact e
  ·rw [qw q] at e ⊢; exact y b o e
 ·by_cases q:b=p;·rw [q,qo]; simp
  ·rw [qw q]; exact e
 ·by_cases q:b=p;·exact .inr (.inl (by rw [q]; exact hp))
  ·rw [qw q] at e; exact .inl e
theorem vt (y:Same F H) (hp:H p=iL):Same F (upd H p u)/\Chg No F H F (upd H p u)/\F p=none:=by
 have E:F p=none:=by
  cases q:F p with
  | none=>rfl
  | some o=>rw [y p o q] at hp; cases hp
 refine ⟨λb o e=>by rw [qw (qE e E)]; exact y b o e,⟨λb o e _=>by rw [qw (qE e hp)]; exact e,λb e=>?_,Same.refl _,λb e=>.inl e⟩,E⟩;by_cases q:b=p;·rw [q,qo]; simp
 ·rw [qw q]; exact e
theorem Wc (x y:Str):(x++y).length=x.length+y.length:=by show (x.cps++y.cps).size=_;simp [iu]
theorem qc8:OpR X (binaryOp .Add) (λx y H Q=>∃ l b xs zs,x=.ref l/\y=.ref b/\SqL X.K H l xs/\SqL X.K H b zs/\xs.length+zs.length<=sizeLine/\∀ p,H p=iL->Q (.ref p) (upd H p (.lst (xs++zs)))):=by
 intro pins s σ H x y v u Q I k r h;obtain ⟨l,b,xs,zs,rfl,rfl,h1,h2,hz,q⟩:=h;cases k;cases r;obtain ⟨its,r1,p1,_⟩:=I.list h1;obtain ⟨i,r2,p2,_⟩:=I.list h2;obtain ⟨⟨cls,dd,data,sl⟩,m,g,n,hd⟩:=id p1.isList;obtain ⟨⟨j,e,f,d⟩,a,c,n2,hd2⟩:=id p2.isList;simp only at g hd c hd2;subst g hd c hd2;have t:=r1.length;have o:=r2.length;refine lQ ⟨_,m,rfl⟩ ⟨_,a,rfl⟩ noFill_list_add seq_list_add PySem.F.slot_list_add PySem.F.entry_list_add (PySem.F.args_list_add_2 _ _)
  (list_addW l b its.toArray i.toArray n n2 dd e sl d (by simp only [au]; omega)) ⟨m,a,?_⟩
 have w:its.toArray++i.toArray=(its++i).toArray:=by simp
 rw [w];exact ⟨.ref _,_,I.lnew (t':=s.toks) (r1.append r2) (by rw [aj]; exact hz),rfl,q _ I.fresh⟩
theorem qc9:OpR X (binaryOp .Add) (λx y H Q=>∃ a b ys,x=.ref a/\y=.ref b/\SqT X.K H a []/\SqT X.K H b ys/\Q (.ref b) H):=by
 intro pins s σ H x y v u Q I l r h;obtain ⟨a,b,ys,rfl,rfl,h1,h2,q⟩:=h;cases l;cases r;obtain ⟨its,r1,p1,_⟩:=I.tuple h1;obtain ⟨i,r2,p2,_⟩:=I.tuple h2;cases r1;obtain ⟨⟨cls,dd,data,sl⟩,m,j,n,hd⟩:=id p1;obtain ⟨⟨k,f,g,e⟩,c,d,n2,hd2⟩:=id p2;simp only at j hd d hd2;subst j hd d hd2;exact lQ ⟨_,m,rfl⟩ ⟨_,c,rfl⟩ noFill_tuple_add seq_tuple_add et d8 (dS _ _)
  (tuple_addW0 a b _ _ n n2 dd f sl e rfl) ⟨m,c,⟨.ref b,H,I,rfl,q⟩⟩
theorem wp (m:C.K=X.K):OpD X C .sh (binaryOp .Add) ug:=by
 intro pins s σ H x y v u Q I f r h;obtain ⟨F,dx,j,c,t,ty,po⟩:=h;cases dx with
 | int i=>
  cases j <;> try exact po.elim
  obtain rfl:=t.int;obtain rfl:=ty.int;exact qeK pins s σ H _ _ v u Q I f r ⟨_,_,rfl,rfl,po _ F H c .refl (.int _)⟩
 | str a=>
  cases j <;> try exact po.elim
  rename_i b;obtain ⟨rfl,_⟩:=t.str;obtain ⟨rfl,_⟩:=ty.str;have po:PoV C .sh F H (if a.length+b.length<=sizeLine then .ok (.str (a++b)) else .bad) Q:=po;by_cases z:a.length+b.length<=sizeLine;·rw [if_pos z] at po;exact YG pins s σ H _ _ v u Q I f r ⟨_,_,rfl,rfl,z,po _ F H c .refl (.str (by rw [Wc]; exact z))⟩
  ·rw [if_neg z] at po; exact po.elim
 | lst xs=>
  cases j <;> try exact po.elim
  rename_i ys;obtain ⟨a,vs,rfl,p1,g⟩:=t.lst c;obtain ⟨b,ws,rfl,p2,d⟩:=ty.lst c;have po:PoV C .sh F H (if xs.length+ys.length<=sizeLine then .ok (.lst (xs++ys)) else .bad) Q:=po;by_cases z:xs.length+ys.length<=sizeLine;·rw [if_pos z] at po;refine qc8 pins s σ H _ _ v u Q I f r ⟨a,b,vs,ws,rfl,rfl,by rw [<-m]; exact p1,by rw [<-m]; exact p2,by rw [g.length,d.length]; exact z,λp hp=>?_⟩;obtain ⟨s2,c2⟩:=yB (u:=.lst (vs++ws)) c hp;exact po _ _ _ s2 c2 (.lst (.inl (.inl qo)) ((g.append d).mono c2.grow))
  ·rw [if_neg z] at po; exact po.elim
 | tup xs=>
  cases j <;> try exact po.elim
  rename_i ys;obtain ⟨a,vs,rfl,p1,g⟩:=t.tup c;obtain ⟨b,ws,rfl,p2,d⟩:=ty.tup c;have po:PoV C .sh F H (if xs.length+ys.length<=sizeLine then .ok (.tup (xs++ys)) else .bad) Q:=po;by_cases z:xs.length+ys.length<=sizeLine
  ·rw [if_pos z] at po;cases vs with
   | nil=>
    cases g;rcases ty with ty | ⟨_,_,ty⟩
    ·exact qc9 pins s σ H _ _ v u Q I f r ⟨a,b,ws,rfl,rfl,by rw [<-m]; exact p1,by rw [<-m]; exact p2,po _ F H c .refl ty⟩
    ·exact ty.elim
   | cons k vs=>
    refine qcU pins s σ H _ _ v u Q I f r ⟨a,b,k::vs,ws,rfl,rfl,by rw [<-m]; exact p1,by rw [<-m]; exact p2,by simp,by rw [g.length,d.length]; exact z,λe=>?_,λe p hp=>?_⟩
    ·subst e;cases d;rcases t with t | ⟨_,_,t⟩
     ·refine po _ F H c .refl ?_;rw [bw];exact t
     ·exact t.elim
    ·obtain ⟨s2,c2⟩:=yB (u:=.tup (k::vs++ws)) c hp;exact po _ _ _ s2 c2 (.tup (.inl (.inl qo)) ((g.append d).mono c2.grow))
  ·rw [if_neg z] at po; exact po.elim
 | _=>exact po.elim
end
inductive PM where
 | val | io | tk
 deriving DecidableEq
noncomputable def yS:List PM->List V->List Addr
 | .val::ms,_::vs=>yS ms vs
 | .io::ms,.ref a::vs=>a::yS ms vs
 | .tk::ms,.ref a::vs=>a::yS ms vs
 | _::ms,_::vs=>yS ms vs
 | _,_=>[]
def ArgsIs (K:Frag) (F H:Hp):List PM->List V->List D->Prop
 | [],[],[]=>True
 | .val::ms,v::vs,d::ds=>Is K F v d/\ArgsIs K F H ms vs ds
 | .io::ms,v::vs,d::ds=>(∃ a,v=.ref a/\F a=iL/\OwnIs K F H a d)/\ArgsIs K F H ms vs ds
 | .tk::ms,v::vs,d::ds=>(∃ a,v=.ref a/\F a=iL/\OwnIs K F H a d)/\ArgsIs K F H ms vs ds
 | _,_,_=>False
def yo (K:Frag) (F H:Hp):List PM->List V->List D->Prop
 | [],_,_=>True
 | .io::ms,v::vs,d::ds=>(∃ a,v=.ref a/\F a=iL/\OwnIs K F H a d)/\yo K F H ms vs ds
 | _::ms,_::vs,_::ds=>yo K F H ms vs ds
 | _,_,_=>False
abbrev LA (ms:List PM) (vs:List V):Addr->Prop:=λb=>b∈yS ms vs
def PoG (K:Frag) (cv:Str->iM) (ms:List PM) (mr:Mo) (vs:List V) (F H:Hp) (Q:VK) (E:XK) (o:Out (D×List D)):Prop:=match o with
 | .ok (d,outs)=>∀ v F' H',Same F' H'->Chg (LA ms vs) F H F' H'->yo K F' H' ms vs outs->MoIs K mr H F' H' v d->Q v H'
 | .exc c o=>∀ F' H',Same F' H'->Chg (LA ms vs) F H F' H'->yo K F' H' ms vs (o.map (·.getD .non))->E (cv c) iL H'
 | .bad=>False
def spD (K:Frag) (cv:Str->iM) (ms:List PM) (mr:Mo) (G:List D->Out (D×List D)):Sp:=λvs H Q E=>∃ F ds,Same F H/\ArgsIs K F H ms vs ds/\(yS ms vs).Nodup/\PoG K cv ms mr vs F H Q E (G ds)
theorem ArgsIs.length:∀ {ms:List PM} {vs:List V} {ds:List D},ArgsIs K F H ms vs ds->vs.length=ms.length/\ds.length=ms.length
 | [],[],[],_=>⟨rfl,rfl⟩
 | .val::ms,v::vs,d::ds,h=>by have:=ArgsIs.length h.2; simp [this]
 | .io::ms,v::vs,d::ds,h=>by have:=ArgsIs.length h.2; simp [this]
 | .tk::ms,v::vs,d::ds,h=>by have:=ArgsIs.length h.2; simp [this]
 | [],_::_,_,h=>h.elim
 | [],[],_::_,h=>h.elim
 | .val::_,[],_,h=>h.elim
 | .val::_,_::_,[],h=>h.elim
 | .io::_,[],_,h=>h.elim
 | .io::_,_::_,[],h=>h.elim
 | .tk::_,[],_,h=>h.elim
 | .tk::_,_::_,[],h=>h.elim
noncomputable def jV (n:Nat):List PM->List Nat
 | []=>[]
 | .val::ms=>jV (n+1) ms
 | _::ms=>n::jV (n+1) ms
noncomputable def KN (n:Nat):List PM->List Nat
 | []=>[]
 | .io::ms=>n::KN (n+1) ms
 | _::ms=>KN (n+1) ms
variable {n:Nat}
theorem yT:∀ {ms:List PM} {i:Nat},i∈jV n ms->n<=i/\i < n+ms.length:=by
 intro ms
 induction ms generalizing n with
 | nil=>intro i h; simp [jV] at h
 | cons m ms j=>
  intro i h;cases m with
  | val=>have:=j (n:=n+1) h; simp only [aq]; omega
  | io=>
   rcases ac.mp h with e | h;·simp only [aq]; omega
   ·have:=j (n:=n+1) h; simp only [aq]; omega
  | tk=>
   rcases ac.mp h with e | h;·simp only [aq]; omega
   ·have:=j (n:=n+1) h; simp only [aq]; omega
theorem qaR:∀ {ms:List PM} {i:Nat},i∈KN n ms->i∈jV n ms:=by
 intro ms
 induction ms generalizing n with
 | nil=>intro i h; simp [KN] at h
 | cons m ms j=>
  intro i h;cases m with
  | val=>exact j (n:=n+1) h
  | io=>
   rcases ac.mp h with e | h;·exact ac.mpr (.inl e)
   ·exact af _ (j (n:=n+1) h)
  | tk=>exact af _ (j (n:=n+1) h)
theorem YS:∀ {ms:List PM} {vs:List V} {ds:List D} {n:Nat},ArgsIs K F H ms vs ds ->(∀ j d,ds[j]?=iJ d->n+j∉jV n ms->∃ v,vs[j]?=iJ v/\Is K F v d) /\
  (∀ j d,ds[j]?=iJ d->n+j∈jV n ms->∃ a,vs[j]?=iJ (.ref a)/\F a=iL/\OwnIs K F H a d):=by
 intro ms
 induction ms with
 | nil=>intro vs ds n h; cases vs <;> cases ds <;> first | exact h.elim | (refine ⟨λj d e=>?_,λj d e=>?_⟩ <;> simp at e)
 | cons m ms i=>
  intro vs ds n h;cases vs with
  | nil=>cases m <;> exact h.elim
  | cons v vs=>
   cases ds with
   | nil=>cases m <;> exact h.elim
   | cons d ds=>
    cases m with
    | val=>
     obtain ⟨h1,h2⟩:=h;obtain ⟨i1,i2⟩:=i (n:=n+1) h2;refine ⟨λj e b c=>?_,λj e b c=>?_⟩
     ·cases j with
      | zero=>simp at b; subst b; exact ⟨v,rfl,h1⟩
      | succ j=>simpa using i1 j e (by simpa using b) (by rw [show n+1+j=n+(j+1) by omega]; exact c)
     ·cases j with
      | zero=>have:=yT (n:=n+1) c; omega
      | succ j=>simpa using i2 j e (by simpa using b) (by rw [show n+1+j=n+(j+1) by omega]; exact c)
    | io=>
     obtain ⟨⟨a,rfl,h1⟩,h2⟩:=h;obtain ⟨i1,i2⟩:=i (n:=n+1) h2;refine ⟨λj e b c=>?_,λj e b c=>?_⟩
     ·cases j with
      | zero=>exact absurd (ac.mpr (.inl rfl)) c
      | succ j=>simpa using i1 j e (by simpa using b) (λz=>c (af _ (by rw [show n+(j+1)=n+1+j by omega]; exact z)))
     ·cases j with
      | zero=>simp at b; subst b; exact ⟨a,rfl,h1⟩
      | succ j=>
       have f:n+1+j∈jV (n+1) ms:=by
        rcases ac.mp c with z | z;·omega
        ·rw [show n+1+j=n+(j+1) by omega]; exact z
       simpa using i2 j e (by simpa using b) f
    | tk=>
     obtain ⟨⟨a,rfl,h1⟩,h2⟩:=h;obtain ⟨i1,i2⟩:=i (n:=n+1) h2;refine ⟨λj e b c=>?_,λj e b c=>?_⟩
     ·cases j with
      | zero=>exact absurd (ac.mpr (.inl rfl)) c
      | succ j=>simpa using i1 j e (by simpa using b) (λz=>c (af _ (by rw [show n+(j+1)=n+1+j by omega]; exact z)))
     ·cases j with
      | zero=>simp at b; subst b; exact ⟨a,rfl,h1⟩
      | succ j=>
       have f:n+1+j∈jV (n+1) ms:=by
        rcases ac.mp c with z | z;·omega
        ·rw [show n+1+j=n+(j+1) by omega]; exact z
       simpa using i2 j e (by simpa using b) f
theorem Zv:∀ {ms:List PM} {vs:List V} {j:Nat} {a:Addr},n+j∈jV n ms->vs[j]?=iJ (.ref a)->a∈yS ms vs:=by
 intro ms
 induction ms generalizing n with
 | nil=>intro vs j a h; simp [jV] at h
 | cons m ms i=>
  intro vs j a h e;cases vs with
  | nil=>simp at e
  | cons v vs=>
   cases j with
   | zero=>
    simp at e; subst e;cases m with
    | val=>have:=yT (n:=n+1) h; omega
    | io=>exact ac.mpr (.inl rfl)
    | tk=>exact ac.mpr (.inl rfl)
   | succ j=>
    have b:vs[j]?=iJ (.ref a):=by simpa using e
    have sub:n+1+j∈jV (n+1) ms:=by
     rw [show n+1+j=n+(j+1) by omega];cases m with
     | val=>exact h
     | io=>exact (ac.mp h).resolve_left (by omega)
     | tk=>exact (ac.mp h).resolve_left (by omega)
    have q:=i (n:=n+1) sub b;cases m <;> cases v <;> first | exact q | exact af _ q
theorem Zw:∀ {ms:List PM} {vs:List V} {a:Addr},a∈yS ms vs->∃ j,n+j∈jV n ms/\vs[j]?=iJ (.ref a):=by
 intro ms
 induction ms generalizing n with
 | nil=>intro vs a h; cases vs <;> simp [yS] at h
 | cons m ms i=>
  intro vs a h;cases vs with
  | nil=>cases m <;> simp [yS] at h
  | cons v vs=>
   have up:∀ {b},b∈yS ms vs->∃ j,n+j∈jV n (m::ms)/\(v::vs)[j]?=iJ (.ref b):=λd=>by
    obtain ⟨j,h1,h2⟩:=i (n:=n+1) d;refine ⟨j+1,?_,by simpa using h2⟩;rw [show n+(j+1)=n+1+j by omega];cases m with
    | val=>exact h1
    | io=>exact af _ h1
    | tk=>exact af _ h1
   cases m with
   | val=>exact up (by cases v <;> exact h)
   | io=>
    cases v with
    | ref c=>
     rcases ac.mp h with e | h;·subst e; exact ⟨0,ac.mpr (.inl rfl),rfl⟩
     ·exact up h
    | _=>exact up h
   | tk=>
    cases v with
    | ref c=>
     rcases ac.mp h with e | h;·subst e; exact ⟨0,ac.mpr (.inl rfl),rfl⟩
     ·exact up h
    | _=>exact up h
theorem qaS:∀ {ms:List PM} {vs:List V} {i j:Nat} {a:Addr},(yS ms vs).Nodup->n+i∈jV n ms->n+j∈jV n ms->vs[i]?=iJ (.ref a)->vs[j]?=iJ (.ref a)->i=j:=by
 intro ms
 induction ms generalizing n with
 | nil=>intro vs i j a _ h; simp [jV] at h
 | cons m ms f=>
  intro vs i j a nd hi D e1 e;cases vs with
  | nil=>simp at e1
  | cons v vs=>
   have sub:∀ {k},n+(k+1)∈jV n (m::ms)->n+1+k∈jV (n+1) ms:=λ{k} h=>by
    rw [show n+1+k=n+(k+1) by omega];cases m with
    | val=>exact h
    | io=>exact (ac.mp h).resolve_left (by omega)
    | tk=>exact (ac.mp h).resolve_left (by omega)
   have d:(yS ms vs).Nodup:=by cases m <;> cases v <;> first | exact nd | exact (aU.mp nd).2
   have c:∀ {k b},n+0∈jV n (m::ms)->v=.ref b->n+(k+1)∈jV n (m::ms)->vs[k]?=iJ (.ref b)->False:=λ{k b} h0 g l o=>by
    subst g;have q:=Zv (n:=n+1) (sub l) o;cases m with
    | val=>have:=yT (n:=n+1) h0; omega
    | io=>exact (aU.mp nd).1 q
    | tk=>exact (aU.mp nd).1 q
   cases i with
   | zero=>
    cases j with
    | zero=>rfl
    | succ j=>exact (c hi (by simpa using e1) D (by simpa using e)).elim
   | succ i=>
    cases j with
    | zero=>exact (c D (by simpa using e) hi (by simpa using e1)).elim
    | succ j=>exact congrArg (·+1) (f (n:=n+1) d (sub hi) (sub D) (by simpa using e1) (by simpa using e))
noncomputable def qu (N:List Str) (ds:List D):Sl:=ds.map iJ++bx (N.length - ds.length) iL
variable {α:Type} {N:List Str}
theorem get_start {xs:List α} {x:α}:(xs.map iJ++bx (N.length - xs.length) iL)[i]?=iJ (iJ x)↔xs[i]?=iJ x:=by
 by_cases h:i < xs.length
 ·rw [ck (by simpa using h),aK];cases e:xs[i]? with
  | none=>simp
  | some y=>simp
 ·rw [bY (by simpa using h),bU];have e:xs[i]?=none:=List.getElem?_eq_none_iff.mpr (by omega);rw [e];split <;> simp
variable {ms:List PM}
theorem Zx (y:Same F H) (r:ArgsIs K F H ms vs ds) (nd:(yS ms vs).Nodup):Rep K (jV 0 ms) F H (vZ N vs) (qu N ds):=by
 obtain ⟨h1,h2⟩:=YS (n:=0) r;obtain ⟨c,l⟩:=r.length;refine ⟨y,by simp [vZ,qu,c,l],λi d hi e=>?_,λi d hi e=>?_,λi hi=>?_,λi j a hi D e1 f=>?_⟩;·obtain ⟨v,a,b⟩:=h1 i d (get_start.mp e) (by simpa using hi);exact ⟨v,get_start.mpr a,b⟩
 ·obtain ⟨v,a,b⟩:=h2 i d (get_start.mp e) (by simpa using hi);exact ⟨v,get_start.mpr a,b⟩
 ·have q:=yT hi;have hl:i < ds.length:=by omega
  exact ⟨ds[i],get_start.mpr (by simp [hl])⟩
 ·exact qaS (n:=0) nd (by simpa using hi) (by simpa using D) (get_start.mp e1) (get_start.mp f)
theorem oa_start:OA (jV 0 ms) (vZ N vs) b↔LA ms vs b:=by
 constructor;·rintro ⟨i,hi,e⟩;exact Zv (n:=0) (by simpa using hi) (get_start.mp e)
 ·intro h;obtain ⟨j,h1,h2⟩:=Zw (n:=0) h;exact ⟨j,by simpa using h1,get_start.mpr h2⟩
noncomputable def qt (ρ:Sl):Nat->List PM->List D
 | _,[]=>[]
 | n,.io::ms=>((ρ[n]?).getD iL).getD .non::qt ρ (n+1) ms
 | n,_::ms=>.non::qt ρ (n+1) ms
theorem qda {σ:St} {N:List Str}:∀ {ms:List PM} {vs:List V} {n:Nat},vs.length=ms.length->(∀ i∈KN n ms,∃ d a,ρ[i]?=iJ (iJ d)/\vs[i - n]?=iJ (V.ref a)/\F a=iL/\OwnIs K F H a d)->yo K F H ms vs (qt ρ n ms):=by
 intro ms
 induction ms with
 | nil=>intro vs n _ _; trivial
 | cons m ms j=>
  intro vs n hl h;cases vs with
  | nil=>simp at hl
  | cons v vs=>
   have rest:(∀ i∈KN (n+1) ms,i∈KN n (m::ms))->yo K F H ms vs (qt ρ (n+1) ms):=λhs=>by refine j (by simpa using hl) λi hi=>?_;obtain ⟨d,a,e1,e,E⟩:=h i (hs i hi);have q:=yT (qaR hi);refine ⟨d,a,e1,?_,E⟩;rw [show i - n=(i - (n+1))+1 by omega] at e;simpa using e
   cases m with
   | val=>exact rest λi hi=>hi
   | io=>obtain ⟨d,a,e1,e,E⟩:=h n (ac.mpr (.inl rfl));refine ⟨⟨a,by simpa using e,E.1,?_⟩,rest λi hi=>af _ hi⟩;rw [e1];exact E.2
   | tk=>exact rest λi hi=>hi
noncomputable def Fl.val:Fl->Option D
 | .nx=>iJ .non
 | .rt d=>iJ d
 | _=>iL
noncomputable def ky (N:List Str) (ms:List PM) (f:Sl->Out (Fl×Sl)) (ds:List D):Out (D×List D):=match f (qu N ds) with
 | .ok (.nx,ρ)=>.ok (.non,qt ρ 0 ms)
 | .ok (.rt d,ρ)=>.ok (d,qt ρ 0 ms)
 | .ok _=>.bad
 | .exc c ρ=>.exc c ((qt ρ 0 ms).map iJ)
 | .bad=>.bad
theorem Uw:∀ (l:List D),(l.map iJ).map (λx:Option D=>x.getD .non)=l
 | []=>rfl
 | a::l=>congrArg (a::·) (Uw l)
def Out.le {α:Type} (a b:Out α):Prop:=a=.bad\/a=b
theorem Zy {f:Sl->Out (Fl×Sl)} {Q:VK} {o:Out (D×List D)} (j:C.io=KN 0 ms) (l:C.ox=C.io) (r:C.mr=.sh\/∀ ρ,(f (qu N ds))≠.ok (.nx,ρ)) (g:∀ i∈KN 0 ms,i∈own') (y:Same F H) (t:ArgsIs C.K F H ms vs ds) (nd:(yS ms vs).Nodup)
  (G:Out.le o (ky N ms f ds)) (h:PoG C.K C.cv ms C.mr vs F H Q C.E o):tSt C (jV 0 ms) own' f { nx:=λ_ H'=>Q .non H',rt:=Q } (vZ N vs) H:=by
 refine ⟨F,qu N ds,Zx y t nd,?_⟩;have hl:=t.length.1;have ch:∀ {F' H'},Chg (OA (jV 0 ms) (vZ N vs)) F H F' H'->Chg (LA ms vs) F H F' H':=λc=>c.mono λx z=>oa_start.mp z;have b:∀ {σ':St} {ρ':Sl} {F' H':Hp},Xx C.K C.io F' H' σ' ρ'->(∀ i∈C.io,σ'[i]?=(vZ N vs)[i]?)->yo C.K F' H' ms vs (qt ρ' 0 ms):=λ{σ' ρ' F' H'} io e=>by
  refine qda (N:=N) (σ:=σ') hl λi hi=>?_;have k:i∈C.io:=by rw [j]; exact hi
  obtain ⟨d,a,e1,m,A⟩:=io i k;refine ⟨d,a,e1,?_,A⟩;rw [e i k] at m;exact get_start.mp m
 rcases G with e | e;·subst e; exact h.elim
 ·subst e;unfold ky at h;cases q:f (qu N ds) with
  | ok p=>
   rw [q] at h;obtain ⟨w,ρ'⟩:=p;cases w with
   | nx=>have u:C.mr=.sh:=r.resolve_right λz=>z ρ' q;exact λσ' F' H' n=>h .non F' H' n.rep.sub (ch n.chg) (b (n.rep.ioIs (by rw [j]; exact g)) n.io) (by rw [u]; exact .non)
   | rt d=>exact λv σ' F' H' s io c e mo=>h v F' H' s (ch c) (b io e) mo
   | bk=>exact h.elim
   | ct=>exact h.elim
  | exc c ρ'=>rw [q] at h;exact λF' H' s io S=>h F' H' s (ch S) (by rw [Uw]; exact b (σ':=vZ N vs) (by rw [<-l]; exact io) λ_ _=>rfl)
  | bad=>rw [q] at h; exact h.elim
def qbZ (K:Frag) (cv:Str->iM) (E:XK) (ms:List PM) (mr:Mo):Ct:=⟨K,cv,E,KN 0 ms,mr,[],KN 0 ms,λ_ h=>h⟩
theorem qgt {P:iR} {w:iS} {K:Frag} {mg:Str->Option iM} {base:Heap} {CX:CXT} {x qual:Str} {st:Stmt} {f:Addr} {fd:lm} {N ps:List Str} {k:Nat} {cv:Str->iM} {ms:List PM} {mr:Mo} {own':List Nat} {fb:Sl->Out (Fl×Sl)} {G:List D->Out (D×List D)}
  (F:Fun K x qual st f fd) (S:FnScope N ps (qc st)) (hl:ms.length=ps.length) (g:∀ i∈KN 0 ms,i∈own') (r:mr=.sh\/∀ ds ρ,(fb (qu N ds))≠.ok (.nx,ρ))
  (a:∀ (cdv:iM) (A:iV) (outer:List Env) (s:iP) (H:Hp) (E:XK),Room k (A.deeper (envOfC qual (qc st) s.heap.objs.size f cdv)) ->PSs (qcP CX P w K mg base N qual (qc st) f cdv A outer s H E) (jU st) (tSt (qbZ K cv E ms mr) (jV 0 ms) own' fb))
  (e:∀ ds,Out.le (G ds) (ky N ms fb ds)):FnOk P w K mg base CX (k+1) f fd ps (spD K cv ms mr G):=by
 obtain ⟨oc,od,kV,doc,pm,an,cdv,ct,osl,rfl,m,d⟩:=F.ex;refine qg7 m d S (λvs H Q E h=>?_) λA outer s H vs Q E c p=>?_;·obtain ⟨F,ds,_,b,_⟩:=h;rw [b.length.1,hl]
 ·obtain ⟨F1,ds,y,b,nd,h⟩:=p;refine ⟨_,a cdv A outer s H E c,?_⟩;exact Zy (C:=qbZ K cv E ms mr) rfl rfl (r.imp id λz ρ=>z ds ρ) g y b nd (e ds) h
noncomputable def xz:AK->PM
 | .vl=>.val
 | .sl _=>.io
 | .fr=>.tk
noncomputable def qD:List AK->List D->Sl->Option (List D)
 | [],[],_=>iJ []
 | .sl i::as,_::ds,ρ=>match ρ[i]? with
  | some (iJ d)=>(qD as ds ρ).map (d::·)
  | _=>iL
 | .vl::as,d::ds,ρ=>(qD as ds ρ).map (d::·)
 | .fr::as,d::ds,ρ=>(qD as ds ρ).map (d::·)
 | _,_,_=>iL
noncomputable def jw:List AK->List D->Sl->Sl
 | .sl i::as,d::outs,ρ=>jw as outs (ρ.set i (iJ d))
 | _::as,_::outs,ρ=>jw as outs ρ
 | _,_,ρ=>ρ
noncomputable def qS:List AK->List Nat
 | []=>[]
 | .sl i::as=>i::qS as
 | _::as=>qS as
noncomputable def frA:List AK->Nat
 | []=>0
 | .fr::as=>frA as+1
 | _::as=>frA as
section
theorem yU:∀ {as:List AK} {vs:List V} {ds c:List D},Rep K own F H σ ρ->(∀ i∈qS as,i∈own)->ArgV K H0 F H σ as vs ds->qD as ds ρ=iJ c->ArgsIs K F H (as.map xz) vs c
 | [],vs,ds,c,rp,hs,av,e=>by cases vs <;> cases ds <;> first | exact av.elim | (simp [qD] at e; subst e; trivial)
 | a::as,[],ds,c,rp,hs,av,e=>by cases a <;> exact av.elim
 | a::as,v::vs,[],c,rp,hs,av,e=>by cases a <;> exact av.elim
 | .vl::as,v::vs,d::ds,c,rp,hs,av,e=>by
  cases q:qD as ds ρ with
  | none=>simp [qD,q] at e
  | some l=>
   have e:d::l=c:=by simpa [qD,q] using e
   subst e;exact ⟨av.1,yU rp hs av.2 q⟩
 | .fr::as,v::vs,d::ds,c,rp,hs,av,e=>by
  cases q:qD as ds ρ with
  | none=>simp [qD,q] at e
  | some l=>
   have e:d::l=c:=by simpa [qD,q] using e
   subst e;obtain ⟨a,h1,_,h2,h3⟩:=av.1;exact ⟨⟨a,h1,h2,h3⟩,yU rp hs av.2 q⟩
 | .sl i::as,v::vs,d::ds,c,rp,hs,av,e=>by
  obtain ⟨h1,_,b⟩:=av;have hi:i∈own:=hs i (ac.mpr (.inl rfl));obtain ⟨d',hd⟩:=rp.opn i hi;obtain ⟨a,e1,f,E⟩:=rp.ow i d' hi hd;rw [h1] at e1;cases e1;cases q:qD as ds ρ with
  | none=>simp [qD,q,hd] at e
  | some l=>
   have e:d'::l=c:=by simpa [qD,q,hd] using e
   subst e;exact ⟨⟨a,rfl,f,E⟩,yU rp (λj h=>hs j (af _ h)) b q⟩
theorem vw:∀ {as:List AK} {vs:List V} {ds:List D} {b:Addr},ArgV K H0 F H σ as vs ds->b∈yS (as.map xz) vs->(∃ i∈qS as,σ[i]?=iJ (iJ (V.ref b)))\/(H0 b=iL/\frA as≠0/\H b≠iL/\F b=iL)
 | [],vs,ds,b,av,h=>by cases vs <;> simp [yS] at h
 | a::as,[],ds,b,av,h=>by cases a <;> exact av.elim
 | a::as,v::vs,[],b,av,h=>by cases a <;> exact av.elim
 | .vl::as,v::vs,d::ds,b,av,h=>by
  have h:b∈yS (as.map xz) vs:=by cases v <;> exact h
  exact vw (as:=as) av.2 h
 | .fr::as,v::vs,d::ds,b,av,h=>by
  obtain ⟨⟨a,rfl,h0,E,o⟩,c⟩:=av;have h:b∈a::yS (as.map xz) vs:=h;rcases ac.mp h with e | h;·subst e; exact .inr ⟨h0,by simp [frA],o.there,E⟩
  ·rcases vw c h with z | ⟨z,_,z2⟩
   ·exact .inl z
   ·exact .inr ⟨z,by simp [frA],z2⟩
 | .sl i::as,v::vs,d::ds,b,av,h=>by
  obtain ⟨h1,_,c⟩:=av;have up:b∈yS (as.map xz) vs->(∃ j∈qS (.sl i::as),σ[j]?=iJ (iJ (V.ref b)))\/(H0 b=iL/\frA (.sl i::as)≠0/\H b≠iL/\F b=iL):=λh=>by
   rcases vw c h with ⟨j,hj,e⟩ | z;·exact .inl ⟨j,af _ hj,e⟩
   ·exact .inr z
  cases v with
  | ref a=>
   have h:b∈a::yS (as.map xz) vs:=h;rcases ac.mp h with e | h;·subst e; exact .inl ⟨i,ac.mpr (.inl rfl),h1⟩
   ·exact up h
  | _=>exact up h
theorem uT:∀ {as:List AK} {vs:List V} {ds:List D},Rep K own F H σ ρ->(∀ x,OA own σ x->H0 x≠iL)->(∀ i∈qS as,i∈own)->(qS as).Nodup->frA as<=1->ArgV K H0 F H σ as vs ds->(yS (as.map xz) vs).Nodup
 | [],vs,ds,rp,h0,hs,nd,hf,av=>by cases vs <;> simp [yS]
 | a::as,[],ds,rp,h0,hs,nd,hf,av=>by cases a <;> exact av.elim
 | a::as,v::vs,[],rp,h0,hs,nd,hf,av=>by cases a <;> exact av.elim
 | .vl::as,v::vs,d::ds,rp,h0,hs,nd,hf,av=>by have q:=uT (as:=as) rp h0 hs nd hf av.2;cases v <;> exact q
 | .fr::as,v::vs,d::ds,rp,h0,hs,nd,hf,av=>by
  have g:frA as=0:=by simp only [frA] at hf; omega
  obtain ⟨⟨a,rfl,hz,E,o⟩,b⟩:=av;show (a::yS (as.map xz) vs).Nodup;refine aU.mpr ⟨λz=>?_,uT rp h0 hs nd (by omega) b⟩;rcases vw b z with ⟨i,hi,e⟩ | ⟨_,n,_⟩
  ·exact h0 a ⟨i,hs i hi,e⟩ hz
  ·exact n g
 | .sl i::as,v::vs,d::ds,rp,h0,hs,nd,hf,av=>by
  obtain ⟨h1,_,b⟩:=av;have h:∀ j∈qS as,j∈own:=λj c=>hs j (af _ c);have hi:i∈own:=hs i (ac.mpr (.inl rfl));obtain ⟨k,f⟩:=aU.mp nd;have q:=uT rp h0 h f hf b;cases v with
  | ref a=>
   show (a::yS (as.map xz) vs).Nodup;refine aU.mpr ⟨λz=>?_,q⟩;rcases vw b z with ⟨j,c,e⟩ | ⟨n,_⟩
   ·exact k (by rw [rp.dis i j a hi (h j c) h1 e]; exact c)
   ·exact h0 a ⟨i,hi,h1⟩ n
  | _=>exact q
theorem wI:∀ {as:List AK} {b:List D} {ρ:Sl} {i:Nat},i∉qS as->(jw as b ρ)[i]?=ρ[i]?
 | [],b,ρ,i,h=>by cases b <;> rfl
 | a::as,[],ρ,i,h=>by cases a <;> rfl
 | .vl::as,d::b,ρ,i,h=>wI (as:=as) h
 | .fr::as,d::b,ρ,i,h=>wI (as:=as) h
 | .sl j::as,d::b,ρ,i,h=>by
  have h':i≠j/\i∉qS as:=by simpa [qS] using h
  show (jw as b (ρ.set j (iJ d)))[i]?=_;rw [wI h'.2,ai (aZ h'.1)]
theorem zJ:∀ {as:List AK} {b:List D} {ρ:Sl},(jw as b ρ).length=ρ.length
 | [],b,ρ=>by cases b <;> rfl
 | a::as,[],ρ=>by cases a <;> rfl
 | .vl::as,d::b,ρ=>zJ (as:=as)
 | .fr::as,d::b,ρ=>zJ (as:=as)
 | .sl j::as,d::b,ρ=>by show (jw as b (ρ.set j (iJ d))).length=_;rw [zJ,dt]
theorem Jm {F' H':Hp}:∀ {as:List AK} {vs:List V} {ds b:List D} {ρ:Sl},(qS as).Nodup->(∀ i∈qS as,i < ρ.length)->ArgV K H0 F H σ as vs ds->yo K F' H' (as.map xz) vs b->∀ i∈qS as,∃ d a,(jw as b ρ)[i]?=iJ (iJ d)/\σ[i]?=iJ (iJ (V.ref a))/\F' a=iL/\OwnIs K F' H' a d
 | [],vs,ds,b,ρ,nd,hl,av,o,i,hi=>by simp [qS] at hi
 | a::as,[],ds,b,ρ,nd,hl,av,o,i,hi=>by cases a <;> exact av.elim
 | a::as,v::vs,[],b,ρ,nd,hl,av,o,i,hi=>by cases a <;> exact av.elim
 | a::as,v::vs,d::ds,[],ρ,nd,hl,av,o,i,hi=>by cases a <;> exact o.elim
 | .vl::as,v::vs,d::ds,u::b,ρ,nd,hl,av,o,i,hi=>Jm (as:=as) nd hl av.2 o i hi
 | .fr::as,v::vs,d::ds,u::b,ρ,nd,hl,av,o,i,hi=>Jm (as:=as) nd hl av.2 o i hi
 | .sl j::as,v::vs,d::ds,u::b,ρ,nd,hl,av,o,i,hi=>by
  obtain ⟨f,n⟩:=aU.mp nd;obtain ⟨h1,_,c⟩:=av;obtain ⟨⟨a,e,E,ow⟩,o2⟩:=o;subst e;rcases ac.mp hi with e | hi;·subst e;refine ⟨u,a,?_,h1,E,ow⟩;show (jw as b (ρ.set i (iJ u)))[i]?=_;rw [wI f,aD (hl i (ac.mpr (.inl rfl)))]
  ·exact Jm (as:=as) (ρ:=ρ.set j (iJ u)) n (λk h=>by rw [dt]; exact hl k (af _ h)) c o2 i hi
end
noncomputable def qx (as:List AK) (G:List D->Out (D×List D)) (fr:Sl->Out (List D×Sl)):Sl->Out (D×Sl):=λρ=>(fr ρ).bind λp=>match qD as p.1 p.2 with
 | some ds=>match G ds with
  | .ok q=>.ok (q.1,jw as q.2 p.2)
  | .exc c o=>.exc c (jw as (o.map (·.getD .non)) p.2)
  | .bad=>.bad
 | none=>.bad
variable {G:List D->Out (D×List D)} {mr:Mo} {CX:CXT} {fd:lm} {ps:List Str}
section
variable {fr:Sl->Out (List D×Sl)}
theorem Ux {F' H':Hp} {b:List D} (r:Rep C.K own F H σ ρ) (h0:∀ x,OA own σ x->H0 x≠iL) (hs:∀ i∈qS as,i∈own) (nd:(qS as).Nodup) (f:ArgV C.K H0 F H σ as vs ds)
  (y:Same F' H') (c:Chg (LA (as.map xz) vs) F H F' H') (o:yo C.K F' H' (as.map xz) vs b):Rep C.K own F' H' σ (jw as b ρ):=by
 have pin:=Jm (ρ:=ρ) nd (λi hi=>by obtain ⟨d,e⟩:=r.opn i (hs i hi);exact (aH.mp e).1) f o;refine ⟨y,by rw [zJ]; exact r.len,λi d hi e=>?_,λi d hi e=>?_,λi hi=>?_,r.dis⟩;·rw [wI (λz=>hi (hs i z))] at e;obtain ⟨v,h1,h2⟩:=r.val i d hi e;exact ⟨v,h1,h2.mono c.grow⟩
 ·by_cases q:i∈qS as;·obtain ⟨d',a,e1,m,E,k⟩:=pin i q;rw [e1] at e;cases e;exact ⟨a,m,E,k⟩
  ·rw [wI q] at e;obtain ⟨a,h1,h2,h3⟩:=r.ow i d hi e;have l:¬LA (as.map xz) vs a:=λz=>by
    rcases vw f z with ⟨j,h,p⟩ | ⟨n,_⟩
    ·exact q (by rw [r.dis i j a hi (hs j h) h1 p]; exact h)
    ·exact h0 a ⟨i,hi,h1⟩ n
   refine ⟨a,h1,?_,h3.grow c.grow λo' g=>c.keep a o' g l⟩;cases g:F' a with
   | none=>rfl
   | some u=>
    rcases c.new a (by rw [g]; simp) with z | z | z;·exact absurd h2 z
    ·exact absurd z h3.there
    ·exact absurd z l
 ·by_cases q:i∈qS as;·obtain ⟨d',a,e1,_⟩:=pin i q;exact ⟨d',e1⟩
  ·rw [wI q];exact r.opn i hi
theorem We {Q:VK} (l:∀ i∈C.ox,i∈own) (hs:∀ i∈qS as,i∈own) (nd:(qS as).Nodup) (s:frA as<=1) (h:tE C own mr (qx as G fr) σ H Q):tAr C own as fr σ H λvs H1=>spD C.K C.cv (as.map xz) mr G (vs++[]) H1 Q C.E:=by
 obtain ⟨F,ρ,r,h⟩:=h;have h0:∀ x,OA own σ x->H x≠none:=λx z=>(r.OA_there z).1;refine ⟨F,ρ,r,?_⟩;unfold qx at h;cases k:fr ρ with
 | ok p=>
  rw [k] at h;obtain ⟨ds,ρ1⟩:=p;intro vs F1 H1 a m g;rw [bw];have h1:Po C own mr σ F H (match qD as ds ρ1 with | some ds=>(match G ds with | .ok q=>.ok (q.1,jw as q.2 ρ1) | .exc c o=>.exc c (jw as (o.map (·.getD .non)) ρ1) | .bad=>.bad) | none=>.bad) Q:=h;cases q:qD as ds ρ1 with
  | none=>simp only [q] at h1; exact h1.elim
  | some f=>
   simp only [q] at h1;have lo:∀ x,LA (as.map xz) vs x->OA own σ x\/H x=none:=λx z=>by
    rcases vw g z with ⟨i,hi,e⟩ | ⟨n,_⟩
    ·exact .inl ⟨i,hs i hi,e⟩
    ·exact .inr n
   refine ⟨F1,f,a.sub,yU a hs g q,uT a h0 hs nd s g,?_⟩;cases j:G f with
   | ok p=>rw [j] at h1;obtain ⟨d,b⟩:=p;exact λv F' H' y c o mo=>h1 v F' H' (Ux a h0 hs nd g y c o) (m.trans c lo) (MoIs.back (Ha:=H1) m mo)
   | exc x o=>rw [j] at h1; exact λF' H' y c b=>h1 F' H' y ((Ux a h0 hs nd g y c b).ioIs l) (m.trans c lo)
   | bad=>rw [j] at h1; exact h1.elim
 | exc c=>rw [k] at h; exact h
 | bad=>rw [k] at h; exact h.elim
theorem qdb {k:Nat} {f:Addr} {p pos:Pos} (F:FnOk X.prog X.w X.K X.mg X.base CX k f fd ps (spD C.K C.cv ms mr G)) (c:Room k X.A) (hg:Gl X x) (m:X.mg x=iJ (.ref f)) (a:keepIn X.K (.ref f)=iO) (j:Binds X.K fd ps []) (hx:kB CX X C.E)
  (n:PA X (e::es) (tAr C own as fr)) (s:ms=as.map xz:=by rfl) (hs:∀ i∈qS as,i∈own:=by decide) (nd:(qS as).Nodup:=by decide) (d:frA as<=1:=by decide) (o:∀ i∈C.ox,i∈own:=by exact kU rfl) (b:(x == ("__debug__":Str))=false:=by decide) (g:starEach (e::es) X.env=(iN,eval e X.env)::starEach es X.env:=by exact jp rfl)
  (l:(backTo pos (starEach es X.env)).any (·.1)=false:=by exact wF rfl):PE X (.Call (.Name x p) (e::es) [] pos) (tE C own mr (qx as G fr)):=by
 subst s;exact jF (qcM F c hg m a j .nil hx n b g l) λσ H Q h=>We o hs nd d h
end
structure ItIs (K:Frag) (F:Hp) (J:It) (ds:List D):Prop where
 go:∀ i H,i < ds.length->Same F H->J.go i H
 yld:∀ i Fi H x H' d,ds[i]?=iJ d->Same F Fi->Same Fi H->J.yld i H x H'->∃ F',Chg No Fi H F' H'/\Same F' H'/\Is K F' x d
 stop:∀ i H,ds.length<=i->Same F H->J.stop i H
def PoI (C:Ct) (own:List Nat) (σ:St) (F H:Hp) (r:Out (List D×Sl)) (R:It->Hp->Prop):Prop:=match r with
 | .ok (ds,ρ')=>∀ J F' H',Rep C.K own F' H' σ ρ'->Chg (OA own σ) F H F' H'->ItIs C.K F' J ds->R J H'
 | .exc c ρ'=>∀ F' H',Same F' H'->Xx C.K C.ox F' H' σ ρ'->Chg (OA own σ) F H F' H'->C.E (C.cv c) iL H'
 | .bad=>False
def tIt (C:Ct) (own:List Nat) (f:Sl->Out (List D×Sl)):TI:=λσ H R=>∃ F ρ,Rep C.K own F H σ ρ/\PoI C own σ F H (f ρ) R
noncomputable def Qw:D->Out (List D)
 | .lst xs=>.ok xs
 | .tup xs=>.ok xs
 | _=>.bad
noncomputable def qiQ (f:Sl->Out (D×Sl)):Sl->Out (List D×Sl):=λρ=>(f ρ).bind λp=>(Qw p.1).bind λds=>.ok (ds,p.2)
theorem PoI.bindV {m:Mo} {k:D×Sl->Out (List D×Sl)} {Q:It->Hp->Prop} {R:VK} (hp:PoI C own σ F H (o.bind k) Q)
  (h:∀ v F1 H1 d ρ1,Rep C.K own F1 H1 σ ρ1->Chg (OA own σ) F H F1 H1->MoIs C.K m H F1 H1 v d->PoI C own σ F H (k (d,ρ1)) Q->R v H1):Po C own m σ F H o R:=by
 cases o with
 | ok p=>exact λv F1 H1 a c mo=>h v F1 H1 p.1 p.2 a c mo hp
 | exc x=>exact hp
 | bad=>exact hp.elim
variable {fb:Sl->Out (Fl×Sl)} {tg iter:Expr} {xs:List V} {gs:List D->Sl->Out Sl} {fi:Sl->Out (List D×Sl)}
section
theorem qdc {t t':TI} (h:PI X tg e t) (i:∀ σ H Q,t' σ H Q->t σ H Q):PI X tg e t':=⟨λpins s σ H R I hw=>h pins s σ H R I (i σ H R hw)⟩
theorem qfh (p:SqL K F a xs) (t:IsL K F xs ds):ItIs K F (Itl K a) ds where
 go:=λi H hi s=>by
  have hx:i < xs.length:=by rw [t.length]; exact hi
  exact ⟨xs,xs[i],s.seq p,by simp [hx]⟩
 yld:=λi Fi H x H' d e s1 s2 y=>by obtain ⟨rfl,y⟩:=y;obtain ⟨v,h1,h2⟩:=t.getD e;have q:=y xs ((s1.trans s2).seq p);rw [h1] at q;cases q;exact ⟨Fi,.refl,s2,h2.mono s1⟩
 stop:=λi H hi s=>⟨xs,s.seq p,by rw [t.length]; exact hi⟩
theorem qfi (p:SqT K F a xs) (t:IsL K F xs ds):ItIs K F (Itt K a) ds where
 go:=λi H hi s=>by
  have hx:i < xs.length:=by rw [t.length]; exact hi
  exact ⟨xs,xs[i],qR s p,by simp [hx]⟩
 yld:=λi Fi H x H' d e s1 s2 y=>by obtain ⟨rfl,y⟩:=y;obtain ⟨v,h1,h2⟩:=t.getD e;have q:=y xs (qR (s1.trans s2) p);rw [h1] at q;cases q;exact ⟨Fi,.refl,s2,h2.mono s1⟩
 stop:=λi H hi s=>⟨xs,qR s p,by rw [t.length]; exact hi⟩
noncomputable def Jn (lo:Int) (n:Nat):List D:=(aN n).map λk=>.int (lo+(k:Nat))
theorem qfj {lo:Int}:ItIs K F (Itr lo n) (Jn lo n) where
 go:=λi H hi _=>by
  have:i < n:=by simpa [Jn] using hi
  exact this
 yld:=λi Fi H x H' d e s1 s2 y=>by
  obtain ⟨rfl,rfl⟩:=y;have e:d=.int (lo+i):=by
   unfold Jn at e;rw [aK] at e;cases q:(aN n)[i]? with
   | none=>rw [q] at e; cases e
   | some k=>
    rw [q] at e;have h:k=i:=by have:=aH.mp q;obtain ⟨_,z⟩:=this;simpa using z.symm
    subst h;exact (ba.inj e).symm
  subst e;exact ⟨Fi,.refl,s2,.int _⟩
 stop:=λi H hi _=>by
  have:n<=i:=by simpa [Jn] using hi
  exact this
noncomputable def vx (f:Sl->Out (D×Sl)):Sl->Out (List D×Sl):=λρ=>(f ρ).bind λp=>match p.1 with
 | .int j=>if -(2 ^ 62)<=j/\j < 2 ^ 62 then .ok (Jn 0 j.toNat,p.2) else .bad
 | _=>.bad
theorem xF {p:Pos} (hg:Gl X "range") (b:X.mg "range"=iL) (h:PE X e (tE C own m f)) (hs:starEach [e] X.env=[(iN,eval e X.env)]:=by exact qI rfl):PI X tg (.Call (.Name "range" p) [e] [] pos) (tIt C own (vx f)):=by
 refine qdc (XH hg b (qK h jI hs) hs) λσ H R ⟨F,ρ,r,h⟩=>⟨F,ρ,r,PoI.bindV h λv F1 H1 d ρ1 a k c h1=>?_⟩
 cases d with
 | int j=>
  obtain rfl:=c.top.int;have h1:PoI C own σ F H (if -(2 ^ 62)<=j/\j < 2 ^ 62 then .ok (Jn 0 j.toNat,ρ1) else .bad) R:=h1;by_cases z:-(2 ^ 62)<=j/\j < 2 ^ 62;·rw [if_pos z] at h1;exact ⟨j,rfl,z.1,z.2,h1 _ F1 H1 a k qfj⟩
  ·rw [if_neg z] at h1; exact h1.elim
 | _=>exact h1.elim
def tGd (C:Ct) (own:List Nat) (g:D->Sl->Out Sl):TG:=λv σ H Q=>∃ F ρ d,Rep C.K own F H σ ρ/\Is C.K F v d/\∃ ρ',g d ρ=.ok ρ'/\∀ σ',Rep C.K own F H σ' ρ'->(∀ b,OA own σ' b->OA own σ b)->(∀ i∈C.io,σ'[i]?=σ[i]?)->Q σ' H
def qgu (C:Ct) (own:List Nat) (g:List D->Sl->Out Sl):TGs:=λvs σ H Q=>∃ F ρ ds,Rep C.K own F H σ ρ/\IsL C.K F vs ds/\∃ ρ',g ds ρ=.ok ρ'/\∀ σ',Rep C.K own F H σ' ρ'->(∀ b,OA own σ' b->OA own σ b)->(∀ i∈C.io,σ'[i]?=σ[i]?)->Q σ' H
theorem qfk {t t':TG} (h:PG X e t) (i:∀ v σ H Q,t' v σ H Q->t v σ H Q):PG X e t':=⟨λpins s σ H v u Q I r hw=>h pins s σ H v u Q I r (i v σ H Q hw)⟩
theorem qb0 {t t':TGs} (h:PGs X es t) (i:∀ v σ H Q,t' v σ H Q->t v σ H Q):PGs X es t':=⟨λpins s σ H v u Q I r hw=>h pins s σ H v u Q I r (i v σ H Q hw)⟩
noncomputable def gNm (i:Nat):D->Sl->Out Sl:=λd ρ=>if i < ρ.length then .ok (ρ.set i (iJ d)) else .bad
theorem uU {own:List Nat} (h:i∉own):ul own [i]=own:=by unfold ul;rw [List.filter_eq_self];intro j D;simp only [aA,decide_eq_true_eq];exact λz=>h (by rw [<-z]; exact D)
theorem qC (c:X.N.Nodup) (hi:X.N[i]?=iJ x) (hx:Loc X.env.scope x) (m:i∉own:=by decide) (o:i∉C.io:=by exact QK rfl) (h:X.fn x=iO\/X.env.scope.names.lookup x=iJ .local:=by first | exact .inl rfl | exact .inr rfl):PG X (.Name x pos) (tGd C own (gNm i)):=by
 refine qfk (qcE c hi hx h) λv σ H Q ⟨F,ρ,d,a,is,ρ',e,k⟩=>?_;unfold gNm at e;by_cases z:i < ρ.length
 ·rw [if_pos z] at e;cases e;have r2:=a.put z is;rw [uU m] at r2;refine k _ r2 (λb q=>?_) λj D=>ai λq=>o (by rw [q]; exact D);have g:OA (ul own [i]) (σ.set i (iJ v)) b:=by rw [uU m]; exact q
  exact g.put
 ·rw [if_neg z] at e; cases e
noncomputable def zx:List D->Sl->Out Sl
 | [],ρ=>.ok ρ
 | _::_,_=>.bad
noncomputable def jW (g:D->Sl->Out Sl) (gs:List D->Sl->Out Sl):List D->Sl->Out Sl
 | d::ds,ρ=>(g d ρ).bind λρ1=>gs ds ρ1
 | [],_=>.bad
theorem Uy:PGs X [] (qgu C own zx):=by
 refine qb0 qcF λvs σ H Q ⟨F,ρ,ds,a,is,ρ',e,k⟩=>?_;cases is with
 | nil=>cases e; exact ⟨rfl,k σ a (λ_ z=>z) λ_ _=>rfl⟩
 | cons _ _=>cases e
theorem yV {g:D->Sl->Out Sl} (h1:PG X e (tGd C own g)) (h2:PGs X es (qgu C own gs)) (hs:(assignEach (e::es) X.env).map (·.2)=assign e X.env::(assignEach es X.env).map (·.2):=by rfl):PGs X (e::es) (qgu C own (jW g gs)):=by
 refine qb0 (qau h1 h2 hs) λvs σ H Q ⟨F,ρ,ds,p,is,ρ',e,k⟩=>?_;cases is with
 | nil=>cases e
 | @cons v d vs ds a t=>
  have e:(g d ρ).bind (λρ1=>gs ds ρ1)=.ok ρ':=e;cases q:g d ρ with
  | ok ρ1=>rw [q] at e;exact ⟨v,vs,rfl,F,ρ,d,p,a,ρ1,q,λσ1 h j m=>⟨F,ρ1,ds,h,t,ρ',e,λf r o l=>k f r (λb z=>j b (o b z)) λi hi=>(l i hi).trans (m i hi)⟩⟩
  | exc c=>rw [q] at e; cases e
  | bad=>rw [q] at e; cases e
noncomputable def zy (n:Nat) (gs:List D->Sl->Out Sl):D->Sl->Out Sl
 | .tup ds,ρ=>if ds.length=n then gs ds ρ else .bad
 | _,_=>.bad
theorem Zz {k:Nat} (m:C.K=X.K) (f:X.calm=iO) (h:PGs X es (qgu C own gs)) (b:(assignEach es X.env).length=n:=by rfl) (c:(assignEach es X.env).findIdx? (·.1)=none:=by rfl):PG X (.Tuple es k pos) (tGd C own (zy n gs)):=by
 refine qfk (qeG f h b c) λv σ H Q ⟨F,ρ,d,r,is,ρ',e,k⟩=>?_;cases is with
 | @tup a xs ds p t=>
  have e:(if ds.length=n then gs ds ρ else .bad)=.ok ρ':=e;by_cases z:ds.length=n;·rw [if_pos z] at e;exact ⟨a,xs,rfl,by rw [<-m]; exact qR r.sub p,by rw [t.length]; exact z,F,ρ,ds,r,t,ρ',e,k⟩
  ·rw [if_neg z] at e; cases e
 | _=>cases e
noncomputable def qiR (fe:Sl->Out (D×Sl)) (g:D->Sl->Out Sl):Sl->Out (Fl×Sl):=λρ=>(fe ρ).bind λp=>match g p.1 p.2 with
 | .ok ρ'=>.ok (.nx,ρ')
 | _=>.bad
noncomputable def kQ (g:D->Sl->Out Sl) (fb:Sl->Out (Fl×Sl)):List D->Sl->Out (Fl×Sl)
 | [],ρ=>.ok (.nx,ρ)
 | d::ds,ρ=>(g d ρ).plain.bind λρ1=>(fb ρ1).bind λp=>match p.1 with
  | .nx=>kQ g fb ds p.2
  | .ct=>kQ g fb ds p.2
  | .bk=>.ok (.nx,p.2)
  | .rt v=>.ok (.rt v,p.2)
noncomputable def QO (fi:Sl->Out (List D×Sl)) (g:D->Sl->Out Sl) (fb:Sl->Out (Fl×Sl)):Sl->Out (Fl×Sl):=λρ=>(fi ρ).bind λp=>kQ g fb p.1 p.2
theorem vy {body:List Stmt} {g:D->Sl->Out Sl} {fb:Sl->Out (Fl×Sl)} (hp:PassesOwn (model X.prog X.w) X.A X.env X.xe) (S:X.calm=iO) (hi:PI X tg iter (tIt C own fi)) (hg:PG X tg (tGd C own g))
  (T:PSs X body (tSt { C with ol:=own } own own fb)) (hs:∀ x,foldedSetIterable iter X.env x=pure x:=by intro _; rfl):PS X (.For tg iter body [] pos) (tSt C own own (QO fi g fb)):=by
 refine Qu (qeJ hp S hi hg T hs) λD σ H ⟨F,ρ,Q,h⟩=>⟨F,ρ,Q,?_⟩
 unfold QO at h;cases K:fi ρ with
 | exc c=>rw [K] at h; exact h
 | bad=>rw [K] at h; exact h.elim
 | ok p=>
  rw [K] at h;obtain ⟨ds,ρ1⟩:=p;intro J F1 H1 E P it;have h:PoS C own own σ F H (kQ g fb ds ρ1) D:=h;refine ⟨λi m σ' H'=>m=ds.length - i/\i<=ds.length/\∃ F' ρ',Nx C own own σ F H ρ' σ' F' H'/\Same F1 F'/\PoS C own own σ' F' H' (kQ g fb (ds.drop i) ρ') D,⟨ds.length,by simp,bu _,F1,ρ1,.ofE E P,Same.refl _,h.shift (.ofE E P)⟩,?_⟩;rintro i m σ' H' ⟨rfl,R,F',ρ',nx,gr,po⟩;by_cases t:i < ds.length
  ·have hd:ds.drop i=ds[i]::ds.drop (i+1):=List.drop_eq_getElem_cons t;rw [hd] at po;have po:PoS C own own σ' F' H' ((g ds[i] ρ').plain.bind λρ1=>(fb ρ1).bind λp=>match p.1 with | .nx=>kQ g fb (ds.drop (i+1)) p.2 | .ct=>kQ g fb (ds.drop (i+1)) p.2 | .bk=>.ok (.nx,p.2) | .rt v=>.ok (.rt v,p.2)) D:=po;refine .inr ⟨it.go i H' t (gr.trans nx.rep.sub),λr H2=>ds.length - (i+1)=ds.length - (i+1)/\i+1<=ds.length/\∃ F' ρ',Nx C own own σ F H ρ' r F' H2/\Same F1 F'/\PoS C own own r F' H2 (kQ g fb (ds.drop (i+1)) ρ') D,λr H2 q=>⟨ds.length - (i+1),by omega,q⟩,λx H2 y=>?_⟩;obtain ⟨u,c2,s2,N⟩:=it.yld i F' H' x H2 ds[i] (by simp [t]) gr nx.rep.sub y;cases G:g ds[i] ρ' with
   | exc c=>rw [G] at po; exact po.elim
   | bad=>rw [G] at po; exact po.elim
   | ok ρ2=>
    rw [G] at po;refine ⟨u,ρ',ds[i],nx.rep.grow c2 s2,N,ρ2,G,λk B L O=>⟨u,ρ2,B,?_⟩⟩;have M:Nx C own own σ' F' H' ρ2 k u H2:=⟨B,c2.ofNo,λb z=>.inl (L b z),O⟩
    have a:=PoS.shift (show PoS C own own σ' F' H' ((fb ρ2).bind λp=>match p.1 with | .nx=>kQ g fb (ds.drop (i+1)) p.2 | .ct=>kQ g fb (ds.drop (i+1)) p.2 | .bk=>.ok (.nx,p.2) | .rt v=>.ok (.rt v,p.2)) D from po) M;have up:∀ {j f l o},Nx { C with ol:=own } own own k u H2 j f l o->Nx C own own k u H2 j f l o:=λz=>⟨z.rep,z.chg,z.oa,z.io⟩
    cases I:fb ρ2 with
    | exc c=>rw [I] at a; exact a
    | bad=>rw [I] at a; exact a.elim
    | ok p=>
     rw [I] at a;obtain ⟨U,j⟩:=p;cases U with
     | nx=>exact λf l o n=>⟨rfl,t,l,j,(nx.then M).then (up n),(gr.trans c2.grow).trans n.chg.grow,PoS.shift (show PoS C own own k u H2 (kQ g fb (ds.drop (i+1)) j) D from a) (up n)⟩
     | ct=>exact λf l o n=>⟨rfl,t,l,j,(nx.then M).then (up n),(gr.trans c2.grow).trans n.chg.grow,PoS.shift (show PoS C own own k u H2 (kQ g fb (ds.drop (i+1)) j) D from a) (up n)⟩
     | bk=>exact λf l o n=>a f l o (up n)
     | rt d=>exact λv f l o s io c e mo=>a v f l o s io c e mo
  ·have e:i=ds.length:=by omega
   subst e;rw [List.drop_length] at po;exact .inl ⟨it.stop _ H' (ax _) (gr.trans nx.rep.sub),po σ' F' H' (.refl nx.rep)⟩
noncomputable def qX (ft:Sl->Out (Bool×Sl)) (fb:Sl->Out (Fl×Sl)):Nat->Sl->Out (Fl×Sl)
 | 0,_=>.bad
 | n+1,ρ=>(ft ρ).bind λq=>if q.1=iO then (fb q.2).bind λp=>match p.1 with
  | .nx=>qX ft fb n p.2
  | .ct=>qX ft fb n p.2
  | .bk=>.ok (.nx,p.2)
  | .rt v=>.ok (.rt v,p.2)
  else .ok (.nx,q.2)
theorem gh {t:Expr} {body:List Stmt} (n:Nat) (hp:PassesOwn (model X.prog X.w) X.A X.env X.xe) (y:PT X t (tT C own ft)) (B:PSs X body (tSt { C with ol:=own } own own fb)):PS X (.While t body [] pos) (tSt C own own (qX ft fb n)):=by
 refine Qu (qav hp y B) λD σ H ⟨F,ρ,x,h⟩=>?_;refine ⟨λm σ' H'=>∃ F' ρ',Rep C.K own F' H' σ' ρ'/\PoS C own own σ' F' H' (qX ft fb m ρ') D,⟨n,F,ρ,x,h⟩,?_⟩;rintro m σ1 H1 ⟨F1,ρ1,l,po⟩;refine ⟨F1,ρ1,l,?_⟩;cases m with
 | zero=>exact po.elim
 | succ m=>
  have po:PoS C own own σ1 F1 H1 ((ft ρ1).bind λq=>if q.1=iO then (fb q.2).bind λp=>match p.1 with | .nx=>qX ft fb m p.2 | .ct=>qX ft fb m p.2 | .bk=>.ok (.nx,p.2) | .rt v=>.ok (.rt v,p.2) else .ok (.nx,q.2)) D:=po;refine PoS.bindT po λj H2 k ρ2 r c2 h2=>?_;cases k with
  | false=>exact h2 σ1 j H2 (.refl r)
  | true=>
   refine ⟨λg u=>∃ F' ρ',Rep C.K own F' u g ρ'/\PoS C own own g F' u (qX ft fb m ρ') D,λg u q=>⟨m,by omega,q⟩,j,ρ2,r,?_⟩;have h2:PoS C own own σ1 j H2 ((fb ρ2).bind λp=>match p.1 with | .nx=>qX ft fb m p.2 | .ct=>qX ft fb m p.2 | .bk=>.ok (.nx,p.2) | .rt v=>.ok (.rt v,p.2)) D:=h2;have up:∀ {a f J b},Nx { C with ol:=own } own own σ1 j H2 a f J b->Nx C own own σ1 j H2 a f J b:=λz=>⟨z.rep,z.chg,z.oa,z.io⟩
   cases o:fb ρ2 with
   | exc c=>rw [o] at h2; exact h2
   | bad=>rw [o] at h2; exact h2.elim
   | ok p=>
    rw [o] at h2;obtain ⟨E,a⟩:=p;cases E with
    | nx=>exact λf J b i=>⟨J,a,i.rep,PoS.shift (show PoS C own own σ1 j H2 (qX ft fb m a) D from h2) (up i)⟩
    | ct=>exact λf J b i=>⟨J,a,i.rep,PoS.shift (show PoS C own own σ1 j H2 (qX ft fb m a) D from h2) (up i)⟩
    | bk=>exact λf J b i=>h2 f J b (up i)
    | rt d=>exact λv f J b s io c e mo=>h2 v f J b s io c e mo
end
noncomputable def Ko (cells:List (Str×Addr)):List (Str×lu)->List (Str×Addr)->List (Str×Addr)
 | [],acc=>acc
 | (n,k)::r,acc=>if (k == .free)=iO then Ko cells r ((n,(cells.lookup n).getD 0)::acc) else Ko cells r acc
variable {env:Env}
theorem uw:∀ (names:List (Str×lu)) (acc:List (Str×Addr)),(∀ x∈names,x.2=.free->∃ c,env.cells.lookup x.1=iJ c) ->(forIn names acc λ(x:Str×lu) (cs:List (Str×Addr))=>if (x.2 == bz)=iO then (do let a <-cellOf env x.1; pure (cC ((x.1,a)::cs))) else pure (cC cs):Sem (List (Str×Addr)))=pure (Ko env.cells names acc)
 | [],acc,_=>rfl
 | (n,k)::r,acc,h=>by
  rw [dY];by_cases q:(k == bz)=iO
  ·obtain ⟨c,d⟩:=h (n,k) aw (by simpa using q);have e:cellOf env n=pure c:=by unfold cellOf; rw [d]
   simp only [q,if_true,e];have j:=uw r ((n,c)::acc) (λx hx=>h x (af _ hx));simp only [Ko,q,if_true,d,Option.getD_some];exact j
  ·simp only [q,if_false,Ko];exact uw r acc (λx hx=>h x (af _ hx))
variable {scope:lB}
theorem QP (h:∀ x∈scope.names,x.2=.free->∃ c,env.cells.lookup x.1=iJ c):closureFor scope env=pure (Ko env.cells scope.names []):=by have:=uw scope.names [] h;unfold closureFor;simp only [bind_pure];exact this
variable {cells:List (Str×Addr)}
theorem yC:∀ {names:List (Str×lu)} {acc:List (Str×Addr)} {x:Str} {c:Addr},(∀ y∈names,y.2=.free->∃ c,cells.lookup y.1=iJ c)->(Ko cells names acc).lookup x=iJ c->cells.lookup x=iJ c\/acc.lookup x=iJ c
 | [],acc,x,c,_,h=>.inr h
 | (n,k)::r,acc,x,c,hf,h=>by
  unfold Ko at h;by_cases q:(k == bz)=iO
  ·rw [if_pos q] at h;obtain ⟨S,d⟩:=hf (n,k) aw (by simpa using q);rcases yC (λy a=>hf y (af _ a)) h with z | z;·exact .inl z
   ·rw [bI] at z;have d:cells.lookup n=iJ S:=d;by_cases e:(x == n)=iO
    ·rw [e] at z;simp only [d,Option.getD_some] at z;have:x=n:=by simpa using e
     subst this;rw [d]; exact .inl z
    ·have e:(x == n)=false:=by simpa using e
     rw [e] at z;exact .inr z
  ·rw [if_neg q] at h;exact yC (λy a=>hf y (af _ a)) h
theorem Jo:∀ {names:List (Str×lu)} {acc:List (Str×Addr)} {x:Str},(∃ c,acc.lookup x=iJ c)->∃ c,(Ko cells names acc).lookup x=iJ c
 | [],_,_,h=>h
 | (n,k)::r,acc,x,h=>by
  unfold Ko;by_cases q:(k == bz)=iO
  ·rw [if_pos q];refine Jo ?_;obtain ⟨c,d⟩:=h;rw [bI];by_cases e:(x == n)=iO;·rw [e]; exact ⟨_,rfl⟩
   ·have e:(x == n)=false:=by simpa using e
    rw [e]; exact ⟨c,d⟩
  ·rw [if_neg q]; exact Jo h
theorem zK:∀ {names:List (Str×lu)} {acc:List (Str×Addr)} {x:Str},(x,bz)∈names->∃ c,(Ko cells names acc).lookup x=iJ c
 | (n,k)::r,acc,x,h=>by
  unfold Ko;rcases ac.mp h with e | h
  ·cases e;rw [if_pos (by rfl)];refine Jo ?_;rw [bI,beq_self_eq_true];exact ⟨_,rfl⟩
  ·by_cases q:(k == bz)=iO;·rw [if_pos q]; exact zK h
   ·rw [if_neg q]; exact zK h
noncomputable def jX (X:Cx) (scope:lB) (N:List Str) (fp:List Addr) (L:Addr) (s:iP) (H:Hp):Cx:=
 { X with N:=N,s₀:=s,H₀:=H,env:=compEnvC scope (Ko X.env.cells scope.names []) L X.env,outer:=X.stack,stack:=X.stack,ex:=fp,fn:=λ_=>iN,pn:=[],xe:=λ_ _=>False }
structure ScOk (X:Cx) (scope:lB):Prop where
 kind:scope.kind=.function
 nocell:∀ y∈scope.names,y.2≠.cell
 names:∀ y∈scope.names,y.2=.local->scope.names.lookup y.1=iJ .local
 free:∀ y∈scope.names,y.2=.free->X.env.kindOf y.1=iJ .cell\/X.env.kindOf y.1=iJ .free
 frl:∀ y∈scope.names,y.2=.free->scope.names.lookup y.1=iJ .free
theorem uV {a:α}:∀ {l:List (Str×α)},l.lookup x=iJ a->(x,a)∈l
 | [],h=>by simp at h
 | (n,k)::r,h=>by
  rw [bI] at h;by_cases e:(x == n)=iO
  ·rw [e] at h;have h:iJ k=iJ a:=h;cases h;have:x=n:=by simpa using e
   subst this;exact aw
  ·have e:(x == n)=false:=by simpa using e
   rw [e] at h;exact af _ (uV h)
theorem ze {k:lu} (h:(relabel scope env).names.lookup x=iJ k) (b:k=.cell\/k=.free) (a:∀ y∈scope.names,y.2≠.cell):(x,bz)∈scope.names:=by
 have m:=uV h;obtain ⟨⟨n,k'⟩,c,e⟩:=aC.mp m;dsimp only at e;by_cases q:(k' == bz&&env.scope.kind == .function&&env.kindOf n == iJ .cell)=iO
 ·rw [if_pos q] at e;cases e;have:k'=.free:=by rw [aP,aP] at q;simpa using q.1.1
  subst this;exact c
 ·rw [if_neg q] at e;cases e;rcases b with rfl | rfl;·exact absurd rfl (a _ c)
  ·exact c
theorem KO (h:Vis (relabel scope env) x):∃ k,(x,k)∈scope.names:=by
 have go:∀ {k:lu},(relabel scope env).names.lookup x=iJ k->∃ k,(x,k)∈scope.names:=λ{k} h=>by
  obtain ⟨⟨n,k'⟩,c,e⟩:=aC.mp (uV h);dsimp only at e;by_cases q:(k' == bz&&env.scope.kind == .function&&env.kindOf n == iJ .cell)=iO;·rw [if_pos q] at e;cases e;exact ⟨_,c⟩
  ·rw [if_neg q] at e;cases e;exact ⟨_,c⟩
 rcases h with h | h | h <;> exact go h
variable {pins:List (Addr×Obj)} {σc:St} {s s':iP} {fp:List Addr} {h':Heap}
section
theorem gi (I:Inv X pins σ H s) (S:ScOk X scope):∀ y∈scope.names,y.2=.free->∃ c,X.env.cells.lookup y.1=iJ c:=λy k e=>I.ok.has y.1 (S.free y k e)
theorem qaT (I:Inv X pins σ H s) (S:ScOk X scope) (J:∀ b∈fp,VO X pins H b) (T:∀ b∈fp,b < s.heap.objs.size) (C:h'.Ns s.heap.objs.size (λ_=>iL))
  (w:∀ b o,s.heap.get? b=iJ o->h'.get? b=iJ o) (hl:σc.length=N.length)
  (B:∀ (j:Nat) (x:Str) (v:V),N[j]?=iJ x->σc[j]?=iJ (iJ v)->(∃ k,(x,k)∈scope.names)->∃ i:Nat,X.N[i]?=iJ x/\σ[i]?=iJ (iJ v)/\Vis X.env.scope x/\(x,bz)∈scope.names) {t:Nat} :
  Inv (jX X scope N fp s.heap.objs.size s H) [] σc H { s with heap:=h',toks:=t }:=by
 have G:=gi I S;have cl:∀ x c,(Ko X.env.cells scope.names []).lookup x=iJ c->X.env.cells.lookup x=iJ c:=λx c e=>(yC G e).resolve_right (by simp);have A:∀ b∈fp,b∉frs X.stack:=λb g z=>by
  obtain ⟨f0,f1,f2,_⟩:=J b g;rcases ac.mp (I.stkSub b z) with e | e;·exact f1 e
  ·exact f2 e
 refine ⟨⟨I.ok.mod,?_,I.ok.glob,I.ok.blt,ax _,λx y c h1 h2=>I.ok.inj x y c (cl x c h1) (cl y c h2),λx hx=>?_,λx c h=>absurd h (by show ¬(iN=iO); exact bG),I.ok.hd,I.ok.frames,.inl rfl,λb g=>⟨aG (T b g),λx c e z=>?_⟩,I.bs,bE I.ok.bsz I.sz,λb o e g=>?_,A,I.stack,I.stkFree⟩,rfl,I.bare,Un.kept w,⟨_,C,λj x v e1 l Q=>?_⟩,λx c e=>?_,I.hok.fresh (ax _),λx c e=>I.freeC x c (cl x c e),λp hp=>absurd (show p∈([]:List (Addr×Obj)) from hp) (by simp),I.hok.kept w,hl⟩;·exact S.kind
 ·refine zK ?_;rcases hx with hx | hx;·exact ze hx (.inl rfl) S.nocell
  ·exact ze hx (.inr rfl) S.nocell
 ·exact (J b g).2.2.2.2.1 x c (cl x c e) z
 ·rcases (J b g).2.2.2.1 with z | z;·exact I.ok.noex b o e z
  ·have D:=ap e;exact absurd (aI D (bE I.ok.bsz z)) (bQ _)
 ·obtain ⟨i,g1,Y,W,L⟩:=B j x v e1 l (KO Q);obtain ⟨m,Z,E⟩:=I.loc;obtain ⟨u,r,look⟩:=E i x v g1 Y W;refine ⟨u,r,?_⟩;obtain ⟨M,f⟩:=zK (cells:=X.env.cells) (acc:=[]) L;have K:=cl x M f;have kd:(jX X scope N fp s.heap.objs.size s H).env.kindOf x=iJ .cell\/(jX X scope N fp s.heap.objs.size s H).env.kindOf x=iJ .free\/(jX X scope N fp s.heap.objs.size s H).env.kindOf x=iJ .local:=by
   rcases Q with z | z | z;·exact .inr (.inr z)
   ·exact .inl z
   ·exact .inr (.inl z)
  rcases look with ⟨k,_⟩ | ⟨k,c,P,z⟩
  ·rcases S.free _ L rfl with q | q;·have q:X.env.kindOf x=iJ .cell:=q;rw [k] at q; cases q
   ·have q:X.env.kindOf x=iJ .free:=q;rw [k] at q; cases q
  ·rw [K] at P;cases P;obtain ⟨oc,d,a⟩:=z;rcases kd with q | q | q;·exact .inr ⟨.inl q,M,f,⟨oc,w _ _ d,a⟩⟩
   ·exact .inr ⟨.inr q,M,f,⟨oc,w _ _ d,a⟩⟩
   ·refine absurd q ?_;intro q;have R:=uV (show (relabel scope X.env).names.lookup x=iJ .local from q);obtain ⟨⟨n,k'⟩,U,e⟩:=aC.mp R;dsimp only at e;by_cases O:(k' == bz&&X.env.scope.kind == .function&&X.env.kindOf n == iJ .cell)=iO;·rw [if_pos O] at e; cases e
    ·rw [if_neg O] at e;cases e;have e1:=S.names _ U rfl;have l:=S.frl _ L rfl;have e1:scope.names.lookup x=iJ .local:=e1;have l:scope.names.lookup x=iJ .free:=l;rw [e1] at l;cases l
 ·obtain ⟨v,oc,d,a⟩:=I.cell x c (cl x c e);exact ⟨v,oc,w _ _ d,a⟩
theorem qaU {H1:Hp} {s1:iP} {L:Addr} (I:Inv X pins σ H s) (h:∀ b∈fp,VO X pins H b) (J:Inv (jX X scope N fp s.heap.objs.size s H) [] σc H' s') (y:bn s.heap.objs.size s'.heap h'):Inv X pins σ H' { s' with heap:=h' }:=by
 have a:H' s.heap.objs.size=none:=J.free;have ne:∀ b o,s.heap.get? b=iJ o->b≠s.heap.objs.size:=λb o e=>aG (ap e);have U:Un (frs X.stack) fp H H' s.heap s'.heap:=J.base;refine I.call' (s':={ s' with heap:=h' }) (ch:=fp) J.os ⟨λb o e n h1 h2=>(y.2 b (ne b o e)).trans (U.keep b o e n h1 h2),λb o e n h1 h2=>?_,U.free,λb o e h2=>?_,U.tups,U.frzs,U.tbls⟩ (λb u e=>?_) J.bare λb f=>?_;·obtain ⟨sl,q⟩:=U.slot b o e n h1 h2;exact ⟨sl,(y.2 b (ne b o e)).trans q⟩
 ·obtain ⟨o',q⟩:=U.there b o e h2;exact ⟨o',(y.2 b (ne b o e)).trans q⟩
 ·refine (J.hok b u e).stay (λc w d q=>(y.2 c ?_).trans q) (λ_ q=>q) λ_ _ q=>q;rintro rfl;rcases d with z | z;·rw [<-z,a] at e; cases e
  ·rw [a] at z; cases z
 ·obtain ⟨f0,f1,f2,i,f4,g⟩:=h b f;exact ⟨i,f1,f4,g⟩
end
theorem Jp {prog:iR} {w:iS} {A:iV} {R:lS->iP->Prop} {s:iP} {elt target iter:Expr} {ifs:List Expr} {scope:lB} {pos:Pos} {it acc:iM} {env:Env} (I:Nat->iP->Prop)
  (turn:∀ n s,I n s->wpAny (model prog w) A (pyNext it) (λr d=>match r with
   | none=>R (.ok .next) d
   | some v=>wpAny (model prog w) A (letOwnedTupleGo target it v) (λ_ e=>wpAny (model prog w) A (assign target env v) (λ_ i=>
     wpAny (model prog w) A (forIn ifs iO λc r=>if r=iO then do let ok <-isTrue c env (eval c env); pure (cC ok) else pure (cC r)) (λok b=>
      if ok=iO then wpAny (model prog w) A (eval elt env) (λx g=>
       wpAny (model prog w) A (call (.builtin "list.append") [acc,x]) (λ_ f=>∃ m,m < n/\I m f) (λ_ _=>False) g) (λ_ _=>False) b
      else ∃ m,m < n/\I m b) (λ_ _=>False) i) (λ_ _=>False) e) (λ_ _=>False) d) (λ_ _=>False) s)
  (n:Nat) (h:I n s):codeAny (model prog w) A (.compLoop (.ListComp elt [⟨target,iter,ifs,0⟩] scope pos) 0 it acc env) R s:=by
 have no:∀ {α:Type} {t:Sem α} {Q u:α->iP->Prop} {E:iM->iP->Prop} {s:iP},wpAny (model prog w) A t Q (λ_ _=>False) s->(∀ a s,Q a s->u a s)->wpAny (model prog w) A t u E s:=λh k=>lg h k λ_ _ z=>z.elim;refine codeAny_loop rfl I (λn s y=>?_) n h;show wpAny _ A ((compTurn (.ListComp elt [⟨target,iter,ifs,0⟩] scope pos) 0 it acc env).onRaise (λx=>do noteFrame x env; theTreesLotGoes x)) _ _ s;refine wpAny_noted ?_;rw [compTurn_list];refine iK (wpAny_standAt (iK (no (turn n s y) λr d h₁=>?_)));cases r with
 | none=>exact iQ h₁
 | some v=>
  refine iK (no h₁ λ_ e l=>iK (no l λ_ i q=>iK (no q λok b j=>?_)));cases ok with
  | false=>exact iQ ⟨rfl,j⟩
  | true=>exact iK (iK (no j λx g p=>iK (no p λ_ f o=>iQ (iQ ⟨rfl,o⟩))))
structure PTs (Y:Cx) (ifs:List Expr) (t:TT):Prop where
 run:∀ (pins:List (Addr×Obj)) (s:iP) (σ:St) (H:Hp) (Q:Bool->Hp->Prop),Inv Y pins σ H s->t σ H Q ->wpAny (model Y.prog Y.w) Y.A (forIn ifs iO λc r=>if r=iO then do let ok <-isTrue c Y.env (eval c Y.env); pure (cC ok) else pure (cC r)) (TP Y pins σ Q) Y.xe s
instance {Y:Cx} {ifs:List Expr} {t:TT}:CoeFun (PTs Y ifs t) (λ_=>∀ (pins:List (Addr×Obj)) (s:iP) (σ:St) (H:Hp) (Q:Bool->Hp->Prop),Inv Y pins σ H s->t σ H Q ->wpAny (model Y.prog Y.w) Y.A (forIn ifs iO λc r=>if r=iO then do let ok <-isTrue c Y.env (eval c Y.env); pure (cC ok) else pure (cC r)) (TP Y pins σ Q) Y.xe s):=⟨λh=>h.run⟩
variable {Y:Cx}
theorem qdd:PTs Y [] (λ_ H Q=>Q iO H):=⟨λ_ _ _ H _ I h=>wpAny_tests_nil ⟨H,I,h⟩⟩
theorem Wf {t:TT} (h:PT Y c t):PTs Y [c] t:=⟨λpins s σ H Q I q=>wpAny_tests_one (h pins s σ H Q I q)⟩
variable {ifs:List Expr}
section
variable {it:Addr} {tn:Nat->Heap->Prop} {J:It} {elt:Expr} {g:TG} {tt:TT} {te:TE} {E:iM->iP->Prop}
theorem qaV (I:Inv X pins σ H s) (P:X.calm=iO) (S:ScOk X scope) (T:Turn X.prog X.w X.K tg J fp it tn) (st0:tn 0 s.heap) (hf:∀ b∈fp,VO X pins H b)
  (hg:∀ fp L s' H',PG (jX X scope N fp L s' H') tg g) (ht:∀ fp L s' H',PTs (jX X scope N fp L s' H') ifs tt) (he:∀ fp L s' H',PE (jX X scope N fp L s' H') elt te) (hl:σc.length=N.length)
  (hσ:∀ (j:Nat) (x:Str) (v:V),N[j]?=iJ x->σc[j]?=iJ (iJ v)->(∃ k,(x,k)∈scope.names)->∃ i:Nat,X.N[i]?=iJ x/\σ[i]?=iJ (iJ v)/\Vis X.env.scope x/\(x,bz)∈scope.names)
  (W:Addr->Nat->Nat->St->Hp->Prop) (Fin:Addr->Hp->Prop) (w0:∀ p,H p=iL->∃ m,W p 0 m σc (upd H p (.lst [])))
  (turn:∀ p i m σ1 H1,W p i m σ1 H1->(J.stop i H1/\Fin p H1)\/(J.go i H1/\∀ x H2,J.yld i H1 x H2->g x σ1 H2 λB H3=>tt B H3 λb H4=>if b=iO then te B H4 λy H5=>∃ xs,H5 p=iJ (.lst xs)/\xs.length < sizeLine/\∃ f,f < m/\W p (i+1) f B (upd H5 p (.lst (xs++[y]))) else ∃ f,f < m/\W p (i+1) f B H4))
  (RR:iM->Addr->lS->iP->Prop)
  (hRR:∀ p L H' s',Fin p H'->(∃ m,s'.heap.Ns L m)->VO X pins H' L->(∀ h',bn L s'.heap h'->Inv X pins σ H' { s' with heap:=h' })->RR (.ref p) L (.ok .next) s') :
  wpAny (model X.prog X.w) X.A (newList []) (λacc s₃=>wpAny (model X.prog X.w) X.A (newFunctionEnv scope X.env.globals (Ko X.env.cells scope.names []) [] X.env.qual iL .none (iJ X.env)) (λG F=>
   codeAny (model X.prog X.w) X.A (.compStart (.ListComp elt [⟨tg,iter,ifs,0⟩] scope pos) 0 (.ref it) acc { G with scope:=relabel scope X.env }) (RR acc G.locals) F) E s₃) E s:=by
 have hfo:∀ b∈fp,b < s.heap.objs.size:=λb h=>let ⟨o,e,_⟩:=T.obj 0 _ st0 b h; ap e;have C:=I.fresh;have I3:Inv X pins σ (upd H s.heap.objs.size (.lst [])) { s with heap:=s.heap.push { cls:=.type "list",data:=.seq ([]:List iM).toArray } }:=I.lnew (t':=s.toks) (ys:=[]) (its:=[]) .nil (bu _);have O:∀ b∈fp,VO X pins (upd H s.heap.objs.size (.lst [])) b:=λb h=>⟨by rw [qw (aG (hfo b h))]; exact (hf b h).1,(hf b h).2⟩
 have st3:tn 0 (s.heap.push { cls:=.type "list",data:=.seq ([]:List iM).toArray }):=T.keep 0 _ _ st0 λb h o e=>aa _ e;refine iX (wpAny_newFunctionEnv S.nocell (λy hy=>by simp at hy) (λh₁ c a=>?_) S.kind);dsimp only at c a ⊢;generalize hs3:({ s with heap:=s.heap.push { cls:=.type "list",data:=.seq ([]:List iM).toArray } }:iP)=s3 at I3;have e3:s3.heap=s.heap.push { cls:=.type "list",data:=.seq ([]:List iM).toArray }:=by rw [<-hs3]
 rw [<-e3] at c a st3 ⊢;have keep:∀ b o,s3.heap.get? b=iJ o->h₁.get? b=iJ o:=λb o e=>(a.2 b (aG (ap e))).trans (aa _ e);have ho3:∀ b∈fp,b < s3.heap.objs.size:=λb h=>by rw [e3,br]; exact dH (hfo b h)
 have J1:Inv (jX X scope N fp s3.heap.objs.size s3 (upd H s.heap.objs.size (.lst []))) [] σc (upd H s.heap.objs.size (.lst [])) { s3 with heap:=h₁,toks:=s.toks+0 }:=
  qaT I3 S O ho3 (by simpa using c) keep hl hσ
 have st4:tn 0 h₁:=T.keep 0 _ _ st3 λb h o e=>keep b o e;have loop:∀ s4:iP,s4={ s3 with heap:=h₁,toks:=s.toks+0 }->codeAny (model X.prog X.w) X.A (.compLoop (.ListComp elt [⟨tg,iter,ifs,0⟩] scope pos) 0 (.ref it) (.ref s.heap.objs.size) (compEnvC scope (Ko X.env.cells scope.names []) s3.heap.objs.size X.env)) (RR (.ref s.heap.objs.size) s3.heap.objs.size) s4:=by
  rintro s4 rfl;generalize D:jX X scope N fp s3.heap.objs.size s3 (upd H s.heap.objs.size (.lst []))=Y at J1;have eP:Y.prog=X.prog:=by rw [<-D]; rfl
  have ew:Y.w=X.w:=by rw [<-D]; rfl
  have eA:Y.A=X.A:=by rw [<-D]; rfl
  have ee:Y.env=compEnvC scope (Ko X.env.cells scope.names []) s3.heap.objs.size X.env:=by rw [<-D]; rfl
  have eK:Y.K=X.K:=by rw [<-D]; rfl
  have ec:Y.calm=true:=by rw [<-D]; exact P
  have ex:Y.xe=λ_ _=>False:=by rw [<-D]; rfl
  have hgY:PG Y tg g:=by rw [<-D]; exact hg fp _ _ _
  have htY:PTs Y ifs tt:=by rw [<-D]; exact ht fp _ _ _
  have heY:PE Y elt te:=by rw [<-D]; exact he fp _ _ _
  have t:∀ {H1:Hp},(∀ b∈fp,H1 b=iL)->∀ b∈fp,VO Y [] H1 b:=λhn b h=>by have q:=J1.ok.exf b (by rw [<-D]; exact h);refine ⟨hn b h,q.1,J1.ok.exfs b (by rw [<-D]; exact h),.inl (by rw [<-D]; exact h),q.2,λp hp=>?_⟩;rw [<-D] at hp;exact absurd (show p∈([]:List (Addr×Obj)) from hp) (by simp)
  obtain ⟨m0,hm0⟩:=w0 s.heap.objs.size C;refine Jp (λn s'=>∃ i σ1 H1,Inv Y [] σ1 H1 s'/\tn i s'.heap/\(∀ b∈fp,H1 b=iL)/\W s.heap.objs.size i n σ1 H1) ?_ m0 ⟨0,σc,_,J1,st4,λb h=>(O b h).1,hm0⟩;rintro n s5 ⟨i,σ1,H1,J5,st5,fr5,w5⟩;rw [<-eP,<-ew,<-eA,<-ee];have TY:Turn Y.prog Y.w Y.K tg J fp it tn:=by rw [eP,ew,eK]; exact T
  rcases turn _ i n σ1 H1 w5 with ⟨stop,fin⟩ | ⟨go,step⟩
  ·refine thn (TY.done Y rfl rfl rfl ec i [] s5 σ1 H1 _ J5 (t fr5) st5 stop) λr s6 ⟨hr,J6⟩=>?_;subst hr;have Q:Inv (jX X scope N fp s3.heap.objs.size s3 (upd H s.heap.objs.size (.lst []))) [] σ1 H1 s6:=by rw [D]; exact J6
   exact hRR _ _ H1 s6 fin (let ⟨m,hn,_⟩:=Q.loc; ⟨m,hn⟩) (I3.fpOk (ax _) Q.free) λh' sb=>qaU (s1:=s6) (H1:=H1) (L:=0) I3 O Q sb
  ·refine thn (TY.item Y rfl rfl rfl ec i [] s5 σ1 H1 _ J5 (t fr5) st5 go) λr s6 ⟨u,hr,h6⟩=>?_;subst hr;refine thn h6 λ_ s7 ⟨x,H7,J7,r7,y7,M,fr7⟩=>?_;have J7':=J7.pinned (t fr7) (TY.obj _ _ M);have back:∀ {l:St} {Z:Hp} {R:iP},Inv Y ([]++Kt fp s7.heap) l Z R->(∃ f,f < n/\W s.heap.objs.size (i+1) f l Z)->∃ m,m < n/\∃ i σ1 H1,Inv Y [] σ1 H1 R/\tn i R.heap/\(∀ b∈fp,H1 b=iL)/\W s.heap.objs.size i m σ1 H1:=λ{l Z R} U ⟨f,hm,w9⟩=>by refine ⟨f,hm,i+1,l,Z,U.unpinned,TY.keep _ _ _ M λb h o e=>(U.pin (b,o) (aX _ (aX _ (uR h e)))).1,λb h=>?_,w9⟩;obtain ⟨o,e,d⟩:=TY.obj _ _ M b h;exact (U.pin (b,o) (aX _ (aX _ (uR h e)))).2.1
   rw [<-ex];refine thn (hgY _ s7 σ1 H7 x u _ J7' r7 (step x H7 y7)) λ_ s8 ⟨z,H8,J8,q8⟩=>?_;refine thn (htY _ s8 z H8 _ J8 q8) λok R ⟨Z,U,q9⟩=>?_;cases ok with
   | false=>exact back U q9
   | true=>refine thn (heY _ R z Z _ U q9) λv s10 ⟨y,H10,J10,r10,xs,hx,hlen,q10⟩=>?_;exact thn (Kz _ s10 z H10 (.ref s.heap.objs.size) [y] (.ref s.heap.objs.size) [v] (λ_ H11=>∃ f,f < n/\W s.heap.objs.size (i+1) f z H11) J10 rfl (.cons r10 .nil) ⟨_,xs,y,rfl,rfl,hx,hlen,q10⟩) λ_ s11 ⟨_,H11,J11,_,q11⟩=>back J11 q11
 have e4:({ heap:=h₁,gens:=s.gens,drawn:=s.drawn,toks:=s.toks+([]:List (Str×iM)).length,os:=s.os }:iP)={ s3 with heap:=h₁,toks:=s.toks+0 }:=by rw [<-hs3]; rfl
 exact codeAny_compStart_list (loop _ e4) (T.self _ 0 _ _ _ st4 (loop _ e4))
end
noncomputable def vz (nt:Nat) (cap:List Nat) (ρ:List (Option α)):List (Option α):=bx nt iL++cap.map λk=>(ρ[k]?).getD iL
noncomputable def yD (own:List Nat):Nat->List Nat->List Nat
 | _,[]=>[]
 | n,k::cap=>if k∈own then n::yD own (n+1) cap else yD own (n+1) cap
noncomputable def ioC (nt len:Nat):List Nat:=(aN len).map (nt + ·)
noncomputable def jY (own:List Nat) (ρc:Sl):Nat->List Nat->Sl->Sl
 | _,[],ρ=>ρ
 | n,k::cap,ρ=>if k∈own then jY own ρc (n+1) cap (ρ.set k ((ρc[n]?).getD iL)) else jY own ρc (n+1) cap ρ
variable {nt:Nat} {cap:List Nat}
theorem get_cap {ρ:List (Option α)} {d:α}:(vz nt cap ρ)[i]?=iJ (iJ d)↔∃ j k,i=nt+j/\cap[j]?=iJ k/\ρ[k]?=iJ (iJ d):=by
 unfold vz;constructor
 ·intro h;by_cases hi:i < nt;·rw [ck (by simpa using hi),bU] at h;split at h <;> cases h
  ·rw [bY (by simpa using hi),dB,aK] at h;cases q:cap[i - nt]? with
   | none=>rw [q] at h; cases h
   | some k=>
    rw [q] at h;have h:(ρ[k]?).getD iL=iJ d:=ba.inj h;refine ⟨i - nt,k,by omega,q,?_⟩;cases e:ρ[k]? with
    | none=>rw [e] at h; cases h
    | some o=>rw [e] at h; exact congrArg iJ h
 ·rintro ⟨j,k,rfl,h1,h2⟩;rw [bY (by simp),dB,aK,show nt+j - nt=j by omega,h1];simp [h2]
theorem mem_ownC {own:List Nat}:∀ {n:Nat} {cap:List Nat} {i:Nat},i∈yD own n cap↔∃ j k,i=n+j/\cap[j]?=iJ k/\k∈own
 | n,[],i=>by simp [yD]
 | n,k::cap,i=>by
  have a:=@mem_ownC own (n+1) cap i;unfold yD;by_cases h:k∈own
  ·rw [if_pos h,ac,a];constructor
   ·rintro (rfl | ⟨j,k',e,h1,h2⟩);·exact ⟨0,k,rfl,rfl,h⟩
    ·exact ⟨j+1,k',by omega,by simpa using h1,h2⟩
   ·rintro ⟨j,k',e,h1,h2⟩;cases j with
    | zero=>exact .inl (by omega)
    | succ j=>exact .inr ⟨j,k',by omega,by simpa using h1,h2⟩
  ·rw [if_neg h,a];constructor;·rintro ⟨j,k',e,h1,h2⟩;exact ⟨j+1,k',by omega,by simpa using h1,h2⟩
   ·rintro ⟨j,k',e,h1,h2⟩;cases j with
    | zero=>simp at h1; subst h1; exact absurd h2 h
    | succ j=>exact ⟨j,k',by omega,by simpa using h1,h2⟩
theorem mem_ioC {len:Nat}:i∈ioC nt len↔∃ j,j < len/\i=nt+j:=by
 unfold ioC;rw [aC];constructor;·rintro ⟨j,h1,h2⟩; exact ⟨j,be.mp h1,h2.symm⟩
 ·rintro ⟨j,h1,h2⟩; exact ⟨j,be.mpr h1,h2.symm⟩
variable {ρc:Sl}
theorem xG:∀ {n:Nat} {cap:List Nat} {ρ:Sl},(jY own ρc n cap ρ).length=ρ.length
 | _,[],_=>rfl
 | n,k::cap,ρ=>by
  unfold jY;by_cases h:k∈own;·rw [if_pos h,xG,dt]
  ·rw [if_neg h,xG]
theorem vf:∀ {n:Nat} {cap:List Nat} {ρ:Sl} {i:Nat},¬(i∈cap/\i∈own)->(jY own ρc n cap ρ)[i]?=ρ[i]?
 | _,[],_,_,_=>rfl
 | n,k::cap,ρ,i,h=>by
  unfold jY;have h':¬(i∈cap/\i∈own):=λz=>h ⟨af _ z.1,z.2⟩;by_cases a:k∈own;·rw [if_pos a,vf h',ai (λe=>h ⟨ac.mpr (.inl e.symm),by rw [<-e]; exact a⟩)]
  ·rw [if_neg a,vf h']
theorem yW:∀ {n:Nat} {cap:List Nat} {ρ:Sl} {j k:Nat} {d:D},cap.Nodup->cap[j]?=iJ k->k∈own->k < ρ.length->ρc[n+j]?=iJ (iJ d)->(jY own ρc n cap ρ)[k]?=iJ (iJ d)
 | _,[],_,_,_,_,_,h,_,_,_=>by simp at h
 | n,k0::cap,ρ,0,k,d,nd,h,hk,hl,e=>by simp at h; subst h;obtain ⟨n1,n2⟩:=aU.mp nd;unfold jY;rw [if_pos hk,vf (λz=>n1 z.1),aD hl];have e:ρc[n]?=iJ (iJ d):=e;rw [e]; rfl
 | n,k0::cap,ρ,j+1,k,d,nd,h,hk,hl,e=>by
  obtain ⟨n1,n2⟩:=aU.mp nd;have h:cap[j]?=iJ k:=by simpa using h
  have e:ρc[n+1+j]?=iJ (iJ d):=by rw [show n+1+j=n+(j+1) by omega]; exact e
  unfold jY;by_cases a:k0∈own;·rw [if_pos a]; exact yW n2 h hk (by rw [dt]; exact hl) e
  ·rw [if_neg a]; exact yW n2 h hk hl e
section
theorem Wg {ρ:List (Option α)}:(vz nt cap ρ).length=nt+cap.length:=by simp [vz]
theorem ZA {l:List Nat} (h:l.Nodup) {j k:Nat} (a:l[i]?=iJ k) (b:l[j]?=iJ k):i=j:=by obtain ⟨h1,e1⟩:=aH.mp a;obtain ⟨h2,e⟩:=aH.mp b;exact (fY h).mp (e1.trans e.symm)
theorem qde (r:Rep K own F H σ ρ) (nd:cap.Nodup):Rep K (yD own nt cap) F H (vz nt cap σ) (vz nt cap ρ) where
 sub:=r.sub
 len:=by rw [Wg,Wg]
 val:=λi d hi e=>by obtain ⟨j,k,rfl,h1,h2⟩:=get_cap.mp e;obtain ⟨v,g1,Y⟩:=r.val k d (λz=>hi (mem_ownC.mpr ⟨j,k,rfl,h1,z⟩)) h2;exact ⟨v,get_cap.mpr ⟨j,k,rfl,h1,g1⟩,Y⟩
 ow:=λi d hi e=>by
  obtain ⟨j,k,rfl,h1,h2⟩:=get_cap.mp e;obtain ⟨f,k',m,c,h⟩:=mem_ownC.mp hi;have:j=f:=by omega
  subst this;rw [h1] at c; cases c;obtain ⟨a,g1,Y⟩:=r.ow k d h h2;exact ⟨a,get_cap.mpr ⟨j,k,rfl,h1,g1⟩,Y⟩
 opn:=λi hi=>by obtain ⟨j,k,rfl,h1,h2⟩:=mem_ownC.mp hi;obtain ⟨d,e⟩:=r.opn k h2;exact ⟨d,get_cap.mpr ⟨j,k,rfl,h1,e⟩⟩
 dis:=λi u a hi g e m=>by
  obtain ⟨j,k,rfl,h1,h2⟩:=mem_ownC.mp hi;obtain ⟨f,k',rfl,c,h⟩:=mem_ownC.mp g;obtain ⟨x,y,t,l,o⟩:=get_cap.mp e;obtain ⟨n,s,p,q,b⟩:=get_cap.mp m;have:x=j:=by omega
  subst this;have:n=f:=by omega
  subst this;rw [h1] at l; cases l;rw [c] at q; cases q;have e:=r.dis k k' a h2 h o b;subst e;rw [ZA nd h1 c]
theorem ZC (o:∀ i∈ioC nt cap.length,σ1[i]?=(vz nt cap σ)[i]?) (h:OA (yD own nt cap) σ1 b):OA own σ b:=by
 obtain ⟨i,hi,e⟩:=h;obtain ⟨j,k,rfl,h1,h2⟩:=mem_ownC.mp hi;rw [o _ (mem_ioC.mpr ⟨j,(aH.mp h1).1,rfl⟩)] at e;obtain ⟨x,y,c,q,a⟩:=get_cap.mp e;have:x=j:=by omega
 subst this;rw [h1] at q; cases q;exact ⟨k,h2,a⟩
theorem ZD (p:Rep K own F H σ ρ) (nd:cap.Nodup) (r:Rep K (yD own nt cap) F' H' σ1 ρ1) (g:∀ i∈ioC nt cap.length,σ1[i]?=(vz nt cap σ)[i]?) (c:Chg (OA (yD own nt cap) σ1) F H F' H'):Rep K own F' H' σ (jY own ρ1 nt cap ρ) where
 sub:=r.sub
 len:=by rw [xG]; exact p.len
 val:=λi d hi e=>by rw [vf (λz=>hi z.2)] at e;obtain ⟨v,h1,h2⟩:=p.val i d hi e;exact ⟨v,h1,h2.mono c.grow⟩
 ow:=λi d hi e=>by
  by_cases q:i∈cap
  ·obtain ⟨j,D⟩:=List.getElem?_of_mem q;have m:nt+j∈yD own nt cap:=mem_ownC.mpr ⟨j,i,rfl,D,hi⟩;obtain ⟨d',h⟩:=r.opn _ m;obtain ⟨w,b⟩:=p.opn i hi;rw [yW nd D hi (aH.mp b).1 h] at e;cases e;obtain ⟨a,h1,h2⟩:=r.ow _ _ m h;rw [g _ (mem_ioC.mpr ⟨j,(aH.mp D).1,rfl⟩)] at h1;obtain ⟨x,y,t,f,l⟩:=get_cap.mp h1;have:x=j:=by omega
   subst this;rw [D] at f; cases f;exact ⟨a,l,h2⟩
  ·rw [vf (λz=>q z.1)] at e;obtain ⟨a,h1,h2,h3⟩:=p.ow i d hi e;have na:¬OA (yD own nt cap) σ1 a:=λz=>by
    obtain ⟨A,n,s⟩:=z;obtain ⟨j,k,rfl,g1,Y⟩:=mem_ownC.mp n;rw [g _ (mem_ioC.mpr ⟨j,(aH.mp g1).1,rfl⟩)] at s;obtain ⟨x,y,t,f,l⟩:=get_cap.mp s;have:x=j:=by omega
    subst this;rw [g1] at f; cases f;have e:=p.dis i k a hi Y h1 l;subst e;exact q (cU g1)
   refine ⟨a,h1,?_,h3.grow c.grow λo z=>c.keep a o z na⟩;cases O:F' a with
   | none=>rfl
   | some u=>
    rcases c.new a (by rw [O]; simp) with z | z | z;·exact absurd h2 z
    ·exact absurd z h3.there
    ·exact absurd z na
 opn:=λi hi=>by
  by_cases q:i∈cap;·obtain ⟨j,D⟩:=List.getElem?_of_mem q;have m:nt+j∈yD own nt cap:=mem_ownC.mpr ⟨j,i,rfl,D,hi⟩;obtain ⟨d',h⟩:=r.opn _ m;obtain ⟨w,b⟩:=p.opn i hi;exact ⟨d',yW nd D hi (aH.mp b).1 h⟩
  ·rw [vf (λz=>q z.1)];exact p.opn i hi
 dis:=p.dis
end
noncomputable def Wh (g:D->Sl->Out Sl) (ft:Sl->Out (Bool×Sl)) (fe:Sl->Out (D×Sl)) (d:D) (ρ:Sl):Out (Option D×Sl):=
 (g d ρ).plain.bind λρ1=>(ft ρ1).plain.bind λq=>if q.1=iO then (fe q.2).plain.bind λr=>.ok (iJ r.1,r.2) else .ok (iL,q.2)
noncomputable def kR (g:D->Sl->Out Sl) (ft:Sl->Out (Bool×Sl)) (fe:Sl->Out (D×Sl)):List D->Sl->Out (List D×Sl)
 | [],ρ=>.ok ([],ρ)
 | d::ds,ρ=>(Wh g ft fe d ρ).bind λp=>(kR g ft fe ds p.2).bind λq=>.ok (p.1.toList++q.1,q.2)
noncomputable def jl (own:List Nat) (nt:Nat) (cap:List Nat) (fi:Sl->Out (List D×Sl)) (g:D->Sl->Out Sl) (ft:Sl->Out (Bool×Sl)) (fe:Sl->Out (D×Sl)):Sl->Out (D×Sl):=λρ=>(fi ρ).bind λp=>
 if p.1.length<=sizeLine then (kR g ft fe p.1 (vz nt cap p.2)).bind λq=>.ok (.lst q.1,jY own q.2 nt cap p.2) else .bad
noncomputable def ctC (C:Ct) (nt len:Nat):Ct:=⟨C.K,C.cv,λ_ _ _=>False,ioC nt len,.sh,[],[],λ_ h=>absurd h (by simp)⟩
noncomputable def ftT:Sl->Out (Bool×Sl):=λρ=>.ok (iO,ρ)
theorem jj:PTs Y [] (tT C own ftT):=⟨λpins s σ H Q I ⟨F,ρ,a,h⟩=>qdd pins s σ H Q I (h F H a .refl)⟩
structure CW (C:Ct) (own:List Nat) (nt:Nat) (cap:List Nat) (σ:St) (F H F0:Hp) (g:D->Sl->Out Sl) (ft:Sl->Out (Bool×Sl)) (fe:Sl->Out (D×Sl)) (ds ys:List D) (ρe:Sl) (p:Addr) (i:Nat) (σ1:St) (H1:Hp) (F1:Hp) (ρi:Sl) (accD:List D) (xs:List V) (rest:List D):Prop where
 rep:Rep C.K (yD own nt cap) F1 H1 σ1 ρi
 io:∀ i∈ioC nt cap.length,σ1[i]?=(vz nt cap σ)[i]?
 chg:Chg (OA (yD own nt cap) σ1) F H F1 H1
 gr:Same F0 F1
 at_:H1 p=iJ (.lst xs)
 nF:F1 p=iL
 is:IsL C.K F1 xs accD
 le:accD.length<=i
 run:kR g ft fe (ds.drop i) ρi=.ok (rest,ρe)
 all:accD++rest=ys
variable {ρe:Sl}
theorem YT {g:D->Sl->Out Sl} {rest:List D} (h:kR g ft fe (d::ds) ρ=.ok (rest,ρe)):∃ ρ1,g d ρ=.ok ρ1/\∃ b ρ2,ft ρ1=.ok (b,ρ2)/\((b=iO/\∃ y k r,fe ρ2=.ok (y,k)/\kR g ft fe ds k=.ok (r,ρe)/\rest=y::r)\/(b=iN/\kR g ft fe ds ρ2=.ok (rest,ρe))):=by
 unfold kR Wh at h;cases a:g d ρ with
 | exc c=>rw [a] at h; cases h
 | bad=>rw [a] at h; cases h
 | ok ρ1=>
  rw [a] at h;refine ⟨ρ1,rfl,?_⟩;simp only [Out.plain,Out.oh] at h;cases e:ft ρ1 with
  | exc c=>rw [e] at h; cases h
  | bad=>rw [e] at h; cases h
  | ok p=>
   obtain ⟨b,ρ2⟩:=p;rw [e] at h;refine ⟨b,ρ2,rfl,?_⟩;simp only [Out.plain,Out.oh] at h;cases b with
   | true=>
    refine .inl ⟨rfl,?_⟩;simp only [if_true] at h;cases q:fe ρ2 with
    | exc c=>rw [q] at h; cases h
    | bad=>rw [q] at h; cases h
    | ok p=>
     obtain ⟨y,k⟩:=p;rw [q] at h;simp only [Out.plain,Out.oh] at h;cases i:kR g ft fe ds k with
     | exc c=>rw [i] at h; cases h
     | bad=>rw [i] at h; cases h
     | ok p=>obtain ⟨r,A⟩:=p;rw [i] at h;simp only [Out.oh] at h;cases h;exact ⟨y,k,r,rfl,i,rfl⟩
   | false=>
    refine .inr ⟨rfl,?_⟩;simp only [cq,if_false,Out.oh] at h;cases i:kR g ft fe ds ρ2 with
    | exc c=>rw [i] at h; cases h
    | bad=>rw [i] at h; cases h
    | ok p=>obtain ⟨r,A⟩:=p;rw [i] at h;simp only [Out.oh] at h;cases h;rfl
section
variable {elt:Expr} {g:D->Sl->Out Sl} {me:Mo}
structure CapOk (X:Cx) (scope:lB) (N:List Str) (nt:Nat) (cap:List Nat):Prop where
 nd:cap.Nodup
 len:N.length=nt+cap.length
 at_:∀ (j k:Nat),cap[j]?=iJ k->∃ x,N[nt+j]?=iJ x/\X.N[k]?=iJ x/\((Vis X.env.scope x/\(x,bz)∈scope.names)\/∀ k',(x,k')∉scope.names)
theorem KQ {F:Hp} {ρ1:Sl} {it:Addr} {fp:List Addr} {tn:Nat->Heap->Prop} {J:It} {E:iM->iP->Prop} {ds ys:List D} {ρe:Sl} (I:Inv X pins σ H s) (W:X.calm=iO) (S:ScOk X scope) (CO:CapOk X scope N nt cap)
  (T:Turn X.prog X.w X.K tg J fp it tn) (st0:tn 0 s.heap) (hf:∀ b∈fp,VO X pins H b) (rp:Rep C.K own F H σ ρ1) (O:ItIs C.K F J ds) (hz:ds.length<=sizeLine)
  (hg:∀ fp L s' H',PG (jX X scope N fp L s' H') tg (tGd (ctC C nt cap.length) (yD own nt cap) g)) (ht:∀ fp L s' H',PTs (jX X scope N fp L s' H') ifs (tT (ctC C nt cap.length) (yD own nt cap) ft))
  (he:∀ fp L s' H',PE (jX X scope N fp L s' H') elt (tE (ctC C nt cap.length) (yD own nt cap) me fe)) (hme:me≠.any)
  (hrun:kR g ft fe ds (vz nt cap ρ1)=.ok (ys,ρe)) (RR:iM->Addr->lS->iP->Prop)
  (hRR:∀ p L s' F' H',H p=iL->Rep C.K own F' H' σ (jY own ρe nt cap ρ1)->Chg (OA own σ) F H F' H'->F' p=iL->OwnIs C.K F' H' p (.lst ys)->(∃ m,s'.heap.Ns L m)->VO X pins H' L->(∀ h',bn L s'.heap h'->Inv X pins σ H' { s' with heap:=h' })->RR (.ref p) L (.ok .next) s') :
  wpAny (model X.prog X.w) X.A (newList []) (λacc s₃=>wpAny (model X.prog X.w) X.A (newFunctionEnv scope X.env.globals (Ko X.env.cells scope.names []) [] X.env.qual iL .none (iJ X.env)) (λG s₄=>
   codeAny (model X.prog X.w) X.A (.compStart (.ListComp elt [⟨tg,iter,ifs,0⟩] scope pos) 0 (.ref it) acc { G with scope:=relabel scope X.env }) (RR acc G.locals) s₄) E s₃) E s:=by
 have oaH:∀ {σ1:St} {b:Addr},(∀ i∈ioC nt cap.length,σ1[i]?=(vz nt cap σ)[i]?)->OA (yD own nt cap) σ1 b->H b≠none:=λU z=>(rp.OA_there (ZC U z)).1;refine qaV (σc:=vz nt cap σ) I W S T st0 hf hg ht (λfp L s' H'=>yQ (he fp L s' H') hme) (by rw [Wg,CO.len]) (λj x v e1 e2 e3=>?_)
  (λp i m σ1 H1=>H p=iL/\m=ds.length - i/\i<=ds.length/\∃ F1 ρi accD xs rest,CW C own nt cap σ F H F g ft fe ds ys ρe p i σ1 H1 F1 ρi accD xs rest)
  (λp H1=>H p=iL/\∃ σ1 F1 xs,Rep C.K (yD own nt cap) F1 H1 σ1 ρe/\(∀ i∈ioC nt cap.length,σ1[i]?=(vz nt cap σ)[i]?)/\Chg (OA (yD own nt cap) σ1) F H F1 H1/\H1 p=iJ (.lst xs)/\F1 p=iL/\IsL C.K F1 xs ys) (λp hp=>?_) ?_ RR ?_
 ·obtain ⟨j',k,rfl,h1,h2⟩:=get_cap.mp e2;obtain ⟨y,g1,g2,g3⟩:=CO.at_ j' k h1;rw [g1] at e1; cases e1;obtain ⟨k',hk'⟩:=e3;rcases g3 with ⟨g3,g4⟩ | g3;·exact ⟨k,g2,h2,g3,g4⟩
  ·exact absurd hk' (g3 k')
 ·obtain ⟨r1,c1,hF⟩:=Zu (C:=C) (u:=.lst []) (qde (nt:=nt) rp CO.nd) hp;exact ⟨ds.length,hp,by simp,bu _,F,vz nt cap ρ1,[],[],ys,r1,λ_ _=>rfl,c1.ofNo,Same.refl _,qo,hF,.nil,ax _,by simpa using hrun,rfl⟩
 ·rintro p i m σ1 H1 ⟨hp,rfl,hle,F1,ρi,accD,xs,rest,w⟩;by_cases t:i < ds.length
  ·have hd:ds.drop i=ds[i]::ds.drop (i+1):=List.drop_eq_getElem_cons t;have run:=w.run;rw [hd] at run;obtain ⟨ρa,ea,b,Z,eb,R⟩:=YT run;have sub1:Same F H1:=w.gr.trans w.rep.sub;refine .inr ⟨O.go i H1 t sub1,λx H2 y=>?_⟩;obtain ⟨F2,c2,s2,is2⟩:=O.yld i F1 H1 x H2 ds[i] (by simp [t]) w.gr w.rep.sub y;have rp2:=w.rep.grow c2 s2;have M:∀ {Y:St},(∀ i∈ioC nt cap.length,Y[i]?=(vz nt cap σ)[i]?)->¬OA (yD own nt cap) Y p:=λU z=>oaH U z hp;have P:∀ {A:Addr->Prop} {Fa Ha Fb Hb:Hp} {zs:List V},Chg A Fa Ha Fb Hb->¬A p->Ha p=iJ (.lst zs)->Fa p=iL->Hb p=iJ (.lst zs)/\Fb p=none:=λ{A Fa Ha Fb Hb zs} c na e1 e2=>by
    refine ⟨c.keep p _ e1 na,?_⟩;cases q:Fb p with
    | none=>rfl
    | some u=>
     rcases c.new p (by rw [q]; simp) with z | z | z;·exact absurd e2 z
     ·rw [e1] at z; cases z
     ·exact absurd z na
   obtain ⟨at2,nF2⟩:=P c2 (λz=>z) w.at_ w.nF;refine ⟨F2,ρi,ds[i],rp2,is2,ρa,ea,λl rp3 oa3 io3=>?_⟩;have f:∀ i∈ioC nt cap.length,l[i]?=(vz nt cap σ)[i]?:=λi hi=>(io3 i hi).trans (w.io i hi);refine ⟨F2,ρa,rp3,?_⟩;rw [eb];intro F4 H4 rp4 c4;obtain ⟨at4,nF4⟩:=P c4 (M f) at2 nF2;have B:Chg (OA (yD own nt cap) l) F H F4 H4:=by
    have q1:Chg (OA own σ) F H F1 H1:=w.chg.mono λb z=>ZC w.io z;have mv:∀ {b},OA (yD own nt cap) σ1 b->OA (yD own nt cap) l b:=λ{b} z=>by obtain ⟨i',hi',e'⟩:=z;obtain ⟨j,k,rfl,g1,g2⟩:=mem_ownC.mp hi';have hm:nt+j∈ioC nt cap.length:=mem_ioC.mpr ⟨j,(aH.mp g1).1,rfl⟩;exact ⟨nt+j,hi',by rw [f _ hm,<-w.io _ hm]; exact e'⟩
    exact ((w.chg.mono λb z=>mv z).trans' c2.ofNo).trans' c4
   have gr4:Same F F4:=(w.gr.trans c2.grow).trans c4.grow;have Q:IsL C.K F4 xs accD:=(w.is.mono c2.grow).mono c4.grow;rcases R with ⟨rfl,y',ρc,r,ec,er,hr⟩ | ⟨rfl,er⟩
   ·rw [if_pos rfl];refine ⟨F4,Z,rp4,?_⟩;rw [ec];intro v F5 H5 h c5 mo5;obtain ⟨at5,nF5⟩:=P c5 (M f) at4 nF4;have hlen:xs.length=accD.length:=Q.length;refine ⟨xs,at5,by have:=w.le; omega,ds.length - (i+1),by omega,hp,rfl,t,F5,ρc,accD++[y'],xs++[v],r,?_⟩;have cp:Chg (λb=>b=p) F5 H5 F5 (upd H5 p (.lst (xs++[v]))):=⟨λb o e n=>by rw [qw n]; exact e,λb e=>by
     by_cases q:b=p;·rw [q,qo]; simp
     ·rw [qw q]; exact e,Same.refl _,λb e=>.inl e⟩
    have sb5:Same F5 (upd H5 p (.lst (xs++[v]))):=λb o e=>by rw [qw (qE e nF5)]; exact h.sub b o e
    have rp6:Rep C.K (yD own nt cap) F5 (upd H5 p (.lst (xs++[v]))) l ρc:=by
     refine ⟨sb5,h.len,h.val,λi d hi e=>?_,h.opn,h.dis⟩;obtain ⟨a,h1,h2,h3⟩:=h.ow i d hi e;have na:a≠p:=λz=>by subst z; exact M f ⟨i,hi,h1⟩
     exact ⟨a,h1,h2,h3.grow (Same.refl _) λo z=>by rw [qw na]; exact z⟩
    refine ⟨rp6,f,?_,(gr4.trans c5.grow),qo,nF5,(Q.mono c5.grow).append (.cons mo5 .nil),by simp only [aj,aq,bg]; have:=w.le; omega,er,?_⟩;·exact (B.trans' c5).trans cp λb z=>.inr (by rw [z]; exact hp)
    ·rw [cV,<-w.all,hr]; rfl
   ·rw [if_neg bG];exact ⟨ds.length - (i+1),by omega,hp,rfl,t,F4,Z,accD,xs,rest,rp4,f,B,gr4,at4,nF4,Q,by have:=w.le; omega,er,w.all⟩
  ·have e:i=ds.length:=by omega
   subst e;have run:=w.run;rw [List.drop_length] at run;unfold kR at run;cases run;have ha:=w.all;rw [bw] at ha;subst ha;exact .inl ⟨O.stop _ H1 (ax _) (w.gr.trans w.rep.sub),hp,σ1,F1,xs,w.rep,w.io,w.chg,w.at_,w.nF,w.is⟩
 ·rintro p L H' s' ⟨hp,σ1,F1,xs,r1,io1,c1,e1,n1,is1⟩ hns hfp hinv;exact hRR p L s' F1 H' hp (ZD rp CO.nd r1 io1 c1) (c1.mono λb z=>ZC io1 z) n1 ⟨xs,e1,is1⟩ hns hfp hinv
theorem Wi:∀ (ds:List D) (ρ:Sl) (c:Str) (o:Sl),kR g ft fe ds ρ≠.exc c o:=by
 intro ds
 induction ds with
 | nil=>intro ρ c o z; cases z
 | cons d ds j=>
  intro ρ c o z;unfold kR Wh at z;cases a:g d ρ with
  | exc c=>rw [a] at z; cases z
  | bad=>rw [a] at z; cases z
  | ok ρ1=>
   rw [a] at z;simp only [Out.plain,Out.oh] at z;cases e:ft ρ1 with
   | exc c=>rw [e] at z; cases z
   | bad=>rw [e] at z; cases z
   | ok p=>
    rw [e] at z;simp only [Out.plain,Out.oh] at z;by_cases h:p.1=iO
    ·rw [if_pos h] at z;cases q:fe p.2 with
     | exc c=>rw [q] at z; cases z
     | bad=>rw [q] at z; cases z
     | ok r=>
      rw [q] at z;simp only [Out.plain,Out.oh] at z;cases i:kR g ft fe ds r.2 with
      | exc c=>exact j _ _ _ i
      | bad=>rw [i] at z; cases z
      | ok t=>rw [i] at z; cases z
    ·rw [if_neg h] at z;simp only [Out.oh] at z;cases i:kR g ft fe ds p.2 with
     | exc c=>exact j _ _ _ i
     | bad=>rw [i] at z; cases z
     | ok t=>rw [i] at z; cases z
theorem KR {α:Type} {Z:Out (D×Sl)->Prop} (r:Rep C.K own F H σ ρ) (d:¬Z .bad) (hx:∀ c ρ',Z (.exc c ρ')->∀ F' H',Same F' H'->Xx C.K C.ox F' H' σ ρ'->Chg (OA own σ) F H F' H'->C.E (C.cv c) iL H') (h:Z (jl own nt cap fi g ft fe ρ)):tIt C own fi σ H λJ H1=>∃ ds ρ1 ys ρe F1,ds.length<=sizeLine/\kR g ft fe ds (vz nt cap ρ1)=.ok (ys,ρe)/\Rep C.K own F1 H1 σ ρ1/\Chg (OA own σ) F H F1 H1/\ItIs C.K F1 J ds/\Z (.ok (.lst ys,jY own ρe nt cap ρ1)):=by
 refine ⟨F,ρ,r,?_⟩;unfold jl at h;cases q:fi ρ with
 | exc c=>rw [q] at h; exact hx c _ h
 | bad=>rw [q] at h; exact (d h).elim
 | ok p=>
  obtain ⟨ds,ρ1⟩:=p;rw [q] at h;have h:Z (if ds.length<=sizeLine then (kR g ft fe ds (vz nt cap ρ1)).bind λq=>.ok (.lst q.1,jY own q.2 nt cap ρ1) else .bad):=h;by_cases z:ds.length<=sizeLine
  ·rw [if_pos z] at h;cases e:kR g ft fe ds (vz nt cap ρ1) with
   | exc c=>exact absurd e (Wi _ _ _ _)
   | bad=>rw [e] at h; exact (d h).elim
   | ok p=>obtain ⟨ys,ρe⟩:=p;rw [e] at h;exact λJ F1 H1 a k it=>⟨ds,ρ1,ys,ρe,F1,z,e,a,k,it,h⟩
  ·rw [if_neg z] at h; exact (d h).elim
theorem jM (P:X.calm=iO) (S:ScOk X scope) (R:CapOk X scope N nt cap) (hi:PI X tg iter (tIt C own fi))
  (hg:∀ fp L s' H',PG (jX X scope N fp L s' H') tg (tGd (ctC C nt cap.length) (yD own nt cap) g)) (t:∀ fp L s' H',PTs (jX X scope N fp L s' H') ifs (tT (ctC C nt cap.length) (yD own nt cap) ft))
  (E:∀ fp L s' H',PE (jX X scope N fp L s' H') elt (tE (ctC C nt cap.length) (yD own nt cap) me fe)) (i:me≠.any:=by decide) (hs:∀ x,foldedSetIterable iter X.env x=pure x:=by intro _; rfl) :
  PE X (.ListComp elt [⟨tg,iter,ifs,0⟩] scope pos) (tE C own .fr (jl own nt cap fi g ft fe)):=by
 refine ⟨?_⟩;intro pins s σ H Q I ⟨F,ρ,j,h⟩;rw [eval_ListComp];have n:=KR (α:=Unit) (Z:=λr=>Po C own .fr σ F H r Q) j (λz=>z) (λc _ z=>z) h;refine wpAny_comprehension_free (use:=iL) rfl hs (QP (gi I S)) S.kind S.names (thn (hi pins s σ H _ I n) λV s1 h1=>thn h1 λl s2 h2=>?_);obtain ⟨it,fp,tn,J,H2,e,M,T,K,f2,ds,ρ1,ys,ρe,F1,hz,a,b,k,O,po⟩:=h2;subst e;refine KQ (RR:=λacc U=>compPost (model X.prog X.w) X.A X.xe iL (EP X pins σ Q) acc U) M P S R T K f2 b O hz hg t E i a λp L s' F' H' hp d G nF o f D v=>?_;obtain ⟨m,B⟩:=f;refine ⟨m,B,λh' y=>⟨.ref p,H',v h' y,rfl,?_⟩⟩;refine po (.ref p) F' H' d (k.trans' G) ⟨p,rfl,?_,nF,o⟩;cases q:H p with
 | none=>rfl
 | some u=>exact absurd hp (k.stay p (by rw [q]; simp))
theorem zL {pos' d:Pos} (hN:X.N.Nodup) (W:X.N[i]?=iJ x) (hx:Loc X.env.scope x) (P:X.calm=iO) (S:ScOk X scope) (CO:CapOk X scope N nt cap) (hi:PI X tg iter (tIt C own fi))
  (hg:∀ fp L s' H',PG (jX X scope N fp L s' H') tg (tGd (ctC C nt cap.length) (yD own nt cap) g)) (ht:∀ fp L s' H',PTs (jX X scope N fp L s' H') ifs (tT (ctC C nt cap.length) (yD own nt cap) ft))
  (he:∀ fp L s' H',PE (jX X scope N fp L s' H') elt (tE (ctC C nt cap.length) (yD own nt cap) me fe)) (R:me≠.any:=by decide) (Y:i∉C.io:=by exact QK rfl)
  (G:swapsWith (.ListComp elt [⟨tg,iter,ifs,0⟩] scope pos) (iJ (.Name x pos')) d.line X.env=pure true:=by rfl) (hs:∀ x,foldedSetIterable iter X.env x=pure x:=by intro _; rfl)
  (hfx:X.fn x=iO\/X.env.scope.names.lookup x=iJ .local:=by first | exact .inl rfl | exact .inr rfl) :
  PS X (.Assign [.Name x pos'] (.ListComp elt [⟨tg,iter,ifs,0⟩] scope pos) d) (tSt C own (i::ul own [i]) (kj i (jl own nt cap fi g ft fe))):=by
 refine ⟨?_⟩;intro pins s σ H D I ⟨F,ρ,rp,h⟩;rw [exec_Assign_Name_used _ _ _ _ G];refine iK (wpAny_standAt (iK ?_));show wpAny _ X.A (do let _ <-comprehension (.ListComp elt [⟨tg,iter,ifs,0⟩] scope pos) scope X.env _ (newList []) iN (eval iter X.env) (iJ (assign (.Name x pos') X.env))) _ _ s;have n:=KR (α:=Unit) (Z:=λr=>PoS C own (i::ul own [i]) σ F H (r.bind λp=>if i < p.2.length then .ok (.nx,p.2.set i (iJ p.1)) else .bad) D) rp (λz=>z) (λc _ z=>z) h;refine iK (lg (wpAny_comprehension_free (use:=iJ (assign (.Name x pos') X.env)) (Q:=λ_ s'=>SP X pins D .next s') rfl hs (QP (gi I S)) S.kind S.names (thn (hi pins s σ H _ I n) λxv s1 h1=>thn h1 λitv s2 h2=>?_)) (λ_ s' hq=>iQ (iQ hq)) λ_ _ e=>e);obtain ⟨it,fp,tn,J,H2,e,I2,T,K,f2,ds,ρ1,ys,ρe,F1,hz,k,B,c1,O,po⟩:=h2;subst e;refine KQ (RR:=λacc C'=>compPost (model X.prog X.w) X.A X.xe (iJ (assign (.Name x pos') X.env)) (λ_ s'=>SP X pins D .next s') acc C') I2 P S CO T K f2 B O hz hg ht he R k λp L s' F' H' hp f c' nF o M hfp l=>?_;obtain ⟨m,hn⟩:=M;have I3:Inv X pins σ H' s':=by simpa using l s'.heap (.refl ..)
 have hH:H p=none:=by
  cases q:H p with
  | none=>rfl
  | some u=>exact absurd hp (c1.stay p (by rw [q]; simp))
 show wpAny _ X.A (assign (.Name x pos') X.env (.ref p)) _ _ s';refine wpAny_assign_Name (Ks I3 hN W hx (v:=.ref p) rfl (λs4 I4 ⟨a,t,ha⟩=>?_) hfx);obtain ⟨f0,f1,f2',f3,f4,f5⟩:=hfp;have nL:L≠a:=by
  rcases ha with z | z;·rw [z]; exact f1
  ·exact λq=>f4 x a z q.symm
 refine ⟨m,hn.sameBut t nL,λh' sb=>?_⟩;have I5:Inv X pins (σ.set i (iJ (.ref p))) H' { s4 with heap:=h' }:=by have:=I4.turned (h':=h') (t':=s4.toks) (it:=L) (λb o hb e=>(sb.2 b hb).trans e) f0 f1 f3 f4 f5;exact this
 refine ⟨_,H',I5,?_⟩;have po:PoS C own (i::ul own [i]) σ F H (if i < (jY own ρe nt cap ρ1).length then .ok (.nx,(jY own ρe nt cap ρ1).set i (iJ (.lst ys))) else .bad) D:=po;by_cases z:i < (jY own ρe nt cap ρ1).length
 ·rw [if_pos z] at po;refine po _ F' H' ⟨f.putO z nF (λy=>(rp.OA_there y).1 hH) o,c1.trans' c',λb y=>?_,λj V=>ai λy=>Y (by rw [y]; exact V)⟩;obtain ⟨j,V,e⟩:=y;by_cases E:j=i;·subst E;rw [aD (by rw [f.len]; exact z)] at e;cases e;exact .inr hH
  ·have U:=(jf j).mp ((ac.mp V).resolve_left E);rw [ai (aZ E)] at e;exact .inl ⟨j,U.1,e⟩
 ·rw [if_neg z] at po; exact po.elim
end
def Fly (h:Heap) (ex T:Addr) (cls:iM):Prop:=∃ o vs a ts,h.get? ex=iJ o/\o.cls=cls/\o.data=.fields vs/\vs[1]?=iJ (.ref T)/\T≠ex/\h.get? T=iJ a/\a.data=.fields ts/\ts[3]?=iJ .none
def CXk (P:iR) (w:iS):CXT:=λouter H s E e s'=>∃ ex T C H',e=.ref ex/\s'.os=s.os/\lJ s'.gens/\Un (frs outer) [] H H' s.heap s'.heap/\HOk P w H' s'.heap/\Fly s'.heap ex T (.ref C)/\H' ex=iL/\H' T=iL/\s.heap.get? ex=iL/\s.heap.get? T=iL/\E (.ref C) iL H'
def InB (X:Cx) (H:Hp) (s:iP) (ex:Addr) (cls:iM):Prop:=H ex=iL/\X.s₀.heap.get? ex=iL /\
 ((∃ o vs,s.heap.get? ex=iJ o/\o.cls=cls/\o.data=.fields vs/\vs[1]?=iJ .none)\/∃ T,Fly s.heap ex T cls/\H T=iL/\X.s₀.heap.get? T=iL)
variable {ex:Addr} {T0:Option Addr} {h2:Heap}
section
variable {cls:iM}
theorem InB.dat (h:InB X H s ex cls):∃ o vs,s.heap.get? ex=iJ o/\o.cls=cls/\o.data=.fields vs:=by
 rcases h.2.2 with ⟨o,vs,a,b,c,_⟩ | ⟨T,⟨o,vs,d,ts,a,b,c,_⟩,_⟩
 ·exact ⟨o,vs,a,b,c⟩
 ·exact ⟨o,vs,a,b,c⟩
noncomputable def yX (ex:Addr) (T:Option Addr) (X:Cx):List Addr:=ex::(T.toList++frs X.stack)
theorem yY (I:Inv X pins σ H s) (d:b∈frs X.stack):∃ o,s.heap.get? b=iJ o/\∀ vs,o.data≠.fields vs:=(I.stack.mem d).2
theorem KS (hs:X.stack=X.env::X.outer):∀ env∈X.stack,∀ b,env.frame=iJ b->b∈frs X.stack:=λenv i b d=>fD.mpr ⟨env,i,d⟩
structure Gone (X:Cx) (H:Hp) (s:iP) (ex:Addr) (cls:iM) (h2:Heap):Prop where
 keep:∀ b o,s.heap.get? b=iJ o->H b≠iL\/(X.s₀.heap.get? b≠iL/\b∉frs X.stack)->h2.get? b=iJ o
 slot:∀ b o,s.heap.get? b=iJ o->b∈frs X.stack->∃ sl,h2.get? b=iJ { o with slots:=sl }
 ok:HOk X.prog X.w H h2
 un:Un (frs X.stack) [] H H s.heap h2\/True
theorem ZE {h2:Heap} (I:Inv X pins σ H s) (hex:H ex=iL) (hT:∀ T,T0=iJ T->H T=iL) (n1:X.s₀.heap.get? ex=iL) (n2:∀ T,T0=iJ T->X.s₀.heap.get? T=iL)
  (st:(bi s.heap (yX ex T0 X)).StaysIn h2) (sl:∀ b o,s.heap.get? b=iJ o->(∀ vs,o.data≠.fields vs)->∃ sl,h2.get? b=iJ { o with slots:=sl }):Gone X H s ex cls h2:=by
 have keep:∀ b o,s.heap.get? b=iJ o->b≠ex->(∀ T,T0=iJ T->b≠T)->b∉frs X.stack->h2.get? b=iJ o:=λb o e h1 h2 h3=>st b o (cY _ e λm=>by
  rcases ac.mp m with q | m;·exact h1 q
  ·rcases aJ.mp m with q | q;·exact h2 b (Option.mem_toList.mp q) rfl
   ·exact h3 q)
 have k1:∀ b o,s.heap.get? b=iJ o->H b≠iL->h2.get? b=iJ o:=λb o e n=>keep b o e (λq=>n (by rw [q]; exact hex)) (λT h q=>n (by rw [q]; exact hT T h)) λq=>n (I.stkFree b q);refine ⟨λb o e d=>?_,λb o e d=>?_,λb u e=>?_,.inr trivial⟩
 ·rcases d with d | ⟨d,hf⟩
  ·exact k1 b o e d
  ·exact keep b o e (λq=>d (by rw [q]; exact n1)) (λT h q=>d (by rw [q]; exact n2 T h)) hf
 ·obtain ⟨o',a,y⟩:=yY I d;rw [e] at a; cases a;exact sl b o e y
 ·refine (I.hok b u e).stay (λc v f q=>k1 c v q ?_) (λ_ q=>q) λ_ _ q=>q;rcases f with z | z;·rw [z,e]; simp
  ·rw [z]; simp
theorem KU (I:Inv X pins σ H s) (hT:∀ T,T0=iJ T->H T=iL) (n2:∀ T,T0=iJ T->X.s₀.heap.get? T=iL) (g:Gone X H s ex cls h2) (h:X.ex=[])
  (tr:h2.Traced (bi s.heap (yX ex T0 X)) ex cls):∃ T,Fly h2 ex T cls/\H T=iL/\X.s₀.heap.get? T=none:=by
 obtain ⟨t,vs,T,w,ts,K,J,G,E,p,l,k,j,D⟩:=tr;have c:∀ o,s.heap.get? T=iJ o->(∃ q,T0=iJ q/\T=q):=λo e=>by
  have m:T∈yX ex T0 X:=by refine bJ λA=>?_;rw [cY _ e A] at p;cases p
  rcases ac.mp m with q | m;·exact absurd q l
  ·rcases aJ.mp m with q | q;·exact ⟨T,Option.mem_toList.mp q,rfl⟩
   ·obtain ⟨o',d,x⟩:=yY I q;obtain ⟨sl,i⟩:=g.slot T o' d q;rw [k] at i;cases i;exact absurd j (x ts)
 refine ⟨T,⟨t,vs,w,ts,K,J,G,E,l,k,j,D⟩,?_,?_⟩
 ·cases q:H T with
  | none=>rfl
  | some u=>
   have B:=I.hok.lt q;obtain ⟨o,e⟩:∃ o,s.heap.get? T=iJ o:=by
    have:=(I.hok T u q)
    have st:=this.stay (H':=H) (h':=s.heap) (λb v _ z=>z) (λ_ z=>z) λ_ _ z=>z;cases z:s.heap.get? T with
    | some o=>exact ⟨o,rfl⟩
    | none=>
     exfalso;cases u with
     | lst xs=>obtain ⟨_,_,_,_,e⟩:=st; rw [z] at e; cases e
     | tup xs=>obtain ⟨_,_,_,_,e,_⟩:=st; rw [z] at e; cases e
     | dK kvs=>obtain ⟨_,_,_,_,o,_,_,e,_⟩:=st; rw [z] at e; cases e
     | dT kvs=>obtain ⟨_,_,_,_,o,_,_,e,_⟩:=st; rw [z] at e; cases e
     | set S n=>obtain ⟨o,_,_,_,e,_⟩:=st; rw [z] at e; cases e
     | ins C dx fs=>obtain ⟨_,_,_,e,_⟩:=st; rw [z] at e; cases e
     | own y=>obtain ⟨_,e⟩:=st; rw [z] at e; cases e
     | xd fs=>obtain ⟨_,⟨_,_,_,e,_⟩,_⟩:=st; rw [z] at e; cases e
     | rng lo hi=>obtain ⟨_,_,_,e⟩:=st; rw [z] at e; cases e
     | frz L u=>obtain ⟨e,_⟩:=st; rw [z] at e; cases e
     | tbl ps=>have e:s.heap.get? T=iJ _:=st; rw [z] at e; cases e
     | met f y=>have e:s.heap.get? T=iJ _:=st; rw [z] at e; cases e
     | ext φ=>obtain ⟨_,⟨_,e⟩,_⟩:=st; rw [z] at e; cases e
   obtain ⟨r,a,rfl⟩:=c o e;rw [hT _ a] at q; cases q
 ·cases q:X.s₀.heap.get? T with
  | none=>rfl
  | some o=>obtain ⟨o',d⟩:=I.base.there T o q (by rw [h]; simp);obtain ⟨r,a,rfl⟩:=c o' d;rw [n2 _ a] at q; cases q
theorem YU {E:iM->iP->Prop} {Q:Unit->iP->Prop} (I:Inv X pins σ H s) (h:X.stack=X.env::X.outer) (r:X.env.frame=iJ X.env.locals) (a:X.ex=[]) (x:InB X H s ex cls)
  (k:∀ h2 T,Gone X H s ex cls h2->Fly h2 ex T cls->H T=iL->X.s₀.heap.get? T=iL->Q () { s with heap:=h2 }):wpAny (model X.prog X.w) X.A (leaving X.env (.ref ex)) Q E s:=by
 obtain ⟨hex,n1,hx⟩:=x;have F:X.A.frames=iJ (X.env::X.outer):=by rw [I.ok.frames,h]
 have B:∀ as,(bi s.heap as).StaysIn s.heap:=λas b o e=>d4 as e;have hl:∀ T0,s.heap.FunFrames (bi s.heap (yX ex T0 X)) (X.env::X.outer):=λT0=>by rw [<-h];exact PySem.W.funFrames_hide I.stack λenv y b C=>af _ (aX _ (KS h env y b C))
 have u:∀ T0,(bi s.heap (yX ex T0 X)).get? ex=none:=λT0=>cR _ (ac.mpr (.inl rfl));rcases hx with ⟨m,vs,p,j,i,f⟩ | ⟨T,⟨m,vs,v,ts,p,j,i,f,K,J,G,D⟩,hT,n2⟩
 ·refine wpAny_leaving_first (base:=bi s.heap (yX ex iL X)) F (hl iL) r p (B _) (u iL) i f λh2 ⟨st,_,tr,sl⟩=>?_;have g:Gone X H s ex cls h2:=ZE I hex (T0:=iL) (λ_ z=>nomatch z) n1 (λ_ z=>nomatch z) st sl;rw [j] at tr;obtain ⟨l,f1,f2,q⟩:=KU I (T0:=iL) (λ_ z=>nomatch z) (λ_ z=>nomatch z) g a tr;exact k h2 l g f1 f2 q
 ·have d:∀ c,iJ T=iJ c->H c=none:=λc z=>by cases z; exact hT
  have n:∀ c,iJ T=iJ c->X.s₀.heap.get? c=none:=λc z=>by cases z; exact n2
  have t:s.heap.Traced (bi s.heap (yX ex (iJ T) X)) ex cls:=⟨m,vs,T,v,ts,p,j,i,f,cR _ (af _ (cw _ (by simp))),K,J,G,D⟩
  refine wpAny_leaving_next (base:=bi s.heap (yX ex (iJ T) X)) F (hl (iJ T)) r t (B _) (u _) λh2 ⟨st,_,tr,sl⟩=>?_;have g:Gone X H s ex cls h2:=ZE I hex d n1 n st sl;obtain ⟨l,f1,f2,q⟩:=KU I d n g a tr;exact k h2 l g f1 f2 q
end
variable {A:iV} {E:XK} {P:iR} {w:iS} {mg:Str->Option iM} {base h:Heap} {qual:Str} {cd:iM} {outer:List Env} {s0:iP}
section
variable {f:Addr}
abbrev cxk (P:iR) (w:iS) (K:Frag) (mg:Str->Option iM) (base:Heap) (N:List Str) (qual:Str) (scope:lB) (f:Addr) (cd:iM) (A:iV) (outer:List Env) (s0:iP) (H0:Hp) (E:XK):Cx:=qcP (CXk P w) P w K mg base N qual scope f cd A outer s0 H0 E
theorem qfl {C:Addr} (I:Inv (cxk P w K mg base N qual scope f cd A outer s0 H0 E) pins σ H s) (x:InB (cxk P w K mg base N qual scope f cd A outer s0 H0 E) H s ex (.ref C)) (k:E (.ref C) iL H):(cxk P w K mg base N qual scope f cd A outer s0 H0 E).xe (.ref ex) s:=by
 refine YU I rfl rfl rfl x λh2 T g l hT j=>?_;have a:=I.base;have L:∀ b o,s0.heap.get? b=iJ o->b≠(cxk P w K mg base N qual scope f cd A outer s0 H0 E).env.locals:=λb o e=>aG (aI (ap e) I.ok.above);have t:∀ b o,s0.heap.get? b=iJ o->b∉frs outer->b∉frs (cxk P w K mg base N qual scope f cd A outer s0 H0 E).stack:=λb o e d z=>by
  rcases ac.mp (I.stkSub b z) with q | q;·exact L b o e q
  ·exact d q
 have i:∀ b,b∈frs outer->b∈frs (cxk P w K mg base N qual scope f cd A outer s0 H0 E).stack:=λb d=>by show b∈frs (_::outer);unfold frs;rw [cF];exact af _ d
 refine ⟨ex,T,C,H,rfl,I.os,I.bare,⟨λb o e n d hx=>?_,λb o e n d hx=>?_,a.free,λb o e hx=>?_,a.tups,a.frzs,a.tbls⟩,g.ok,l,x.1,hT,x.2.1,j,k⟩;·exact g.keep b o (a.keep b o e n d hx) (.inr ⟨by show s0.heap.get? b≠iL; rw [e]; simp,t b o e d⟩)
 ·obtain ⟨sl,q⟩:=a.slot b o e n d hx;obtain ⟨c,h⟩:=g.slot b _ q (i b d);exact ⟨c,h⟩
 ·obtain ⟨o',q⟩:=a.there b o e hx;by_cases d:b∈frs (cxk P w K mg base N qual scope f cd A outer s0 H0 E).stack;·obtain ⟨sl,h⟩:=g.slot b o' q d;exact ⟨_,h⟩
  ·exact ⟨o',g.keep b o' q (.inr ⟨by show s0.heap.get? b≠iL; rw [e]; simp,d⟩)⟩
theorem qdf {e:iM} (a:X.ex=[]) (I:Inv X pins σ H s) (h:CXk X.prog X.w X.stack H s E e s'):∃ ex C H',e=.ref ex/\Inv X pins σ H' s'/\InB X H' s' ex (.ref C)/\E (.ref C) iL H':=by
 obtain ⟨ex,T,C,H',rfl,os,bare,un,hok,l,e1,i,n1,n2,k⟩:=h;have old:∀ b,s.heap.get? b=iL->X.s₀.heap.get? b=none:=λb d=>by
  cases q:X.s₀.heap.get? b with
  | none=>rfl
  | some o=>obtain ⟨o',c⟩:=I.base.there b o q (by rw [a]; simp);rw [d] at c; cases c
 exact ⟨ex,C,H',rfl,I.call' (ch:=[]) os un hok bare (λb z=>absurd z (by simp)),⟨e1,old ex n1,.inr ⟨T,l,i,old T n2⟩⟩,k⟩
theorem qJ:kB (CXk P w) (cxk P w K mg base N qual scope f cd A outer s0 H0 E) E:=λpins σ H s e s' I h=>by obtain ⟨ex,C,H',rfl,b,x,k⟩:=qdf rfl I h;exact qfl b x k
theorem qdg {C:Addr} {b:List iM} {d:String} (kin:K.In h) (c:mg x=iJ (.ref C)) (q:dW K C b d=iO):OwnCls x C b d mg h:=by
 refine ⟨c,?_⟩;unfold dW at q;split at q
 case h_2=>cases q
 case h_1 dd cd sl lk=>
  split at q
  case h_2=>cases q
  case h_1 C' bm a0 a1 a2 a3 n a5 em es=>
   have g:=q;simp only [aP,beq_iff_eq,eJ] at g;obtain ⟨⟨⟨⟨⟨e1,i⟩,l⟩,tl⟩,k⟩,t⟩:=g;obtain ⟨nm,bs,mro,ns,a,hd,sn,sub,ab,col,del⟩:=cd;dsimp only at em l k t;obtain ⟨s⟩:=sl;dsimp only at es;subst em l es e1 i;exact ⟨bm,ns,nm,a,bs,hd,sn,sub,ab,col,dd,a0,a1,a2,a3,a5,_,kin _ _ lk,.of_isNs (PySem.W.isNs_of_in kin k),PySem.W.nsMap_none_of_in kin k t,PySem.W.tail_of_in kin tl⟩
end
theorem qb1 {T:Addr} (hok:HOk P w H h) (q:H T=iJ u):∃ o,h.get? T=iJ o:=by
 have st:=hok T u q;cases z:h.get? T with
 | some o=>exact ⟨o,rfl⟩
 | none=>
  exfalso;cases u with
  | lst xs=>obtain ⟨_,_,_,_,e⟩:=st; rw [z] at e; cases e
  | tup xs=>obtain ⟨_,_,_,_,e,_⟩:=st; rw [z] at e; cases e
  | dK kvs=>obtain ⟨_,_,_,_,o,_,_,e,_⟩:=st; rw [z] at e; cases e
  | dT kvs=>obtain ⟨_,_,_,_,o,_,_,e,_⟩:=st; rw [z] at e; cases e
  | set S n=>obtain ⟨o,_,_,_,e,_⟩:=st; rw [z] at e; cases e
  | ins C dx fs=>obtain ⟨_,_,_,e,_⟩:=st; rw [z] at e; cases e
  | own y=>obtain ⟨_,e⟩:=st; rw [z] at e; cases e
  | xd fs=>obtain ⟨_,⟨_,_,_,e,_⟩,_⟩:=st; rw [z] at e; cases e
  | rng lo hi=>obtain ⟨_,_,_,e⟩:=st; rw [z] at e; cases e
  | frz b u=>obtain ⟨e,_⟩:=st; rw [z] at e; cases e
  | tbl ps=>have e:h.get? T=iJ _:=st; rw [z] at e; cases e
  | met f y=>have e:h.get? T=iJ _:=st; rw [z] at e; cases e
  | ext φ=>obtain ⟨_,⟨_,e⟩,_⟩:=st; rw [z] at e; cases e
abbrev bmV:List iM:=[.type "ValueError",.type "Exception",.type "BaseException",.type "object"]
noncomputable def jR (x:Str) (fr:Sl->Out (List D×Sl)):Sl->Out (Fl×Sl):=λρ=>(fr ρ).bind λp=>.exc x p.2
theorem PoS.bindA {as:List AK} {o:Out (List D×Sl)} {k:List D×Sl->Out (Fl×Sl)} {D:Ends} {R:List V->Hp->Prop} (hp:PoS C own own' σ F H (o.bind k) D)
  (h:∀ vs F1 H1 ds ρ1,Rep C.K own F1 H1 σ ρ1->Chg (OA own σ) F H F1 H1->ArgV C.K H F1 H1 σ as vs ds->PoS C own own' σ F1 H1 (k (ds,ρ1)) D->R vs H1):PoA C own as σ F H o R:=by
 cases o with
 | ok p=>obtain ⟨ds,ρ1⟩:=p;exact λvs F1 H1 a c v=>h vs F1 H1 ds ρ1 a c v (PoS.shift (show PoS C own own' σ F H (k (ds,ρ1)) D from hp) (.ofE a c))
 | exc x=>exact hp
 | bad=>exact hp.elim
def ZF (X:Cx) (C:Ct):Prop:=∀ (pins:List (Addr×Obj)) (σ:St) (H:Hp) (s:iP) (ex A:Addr),Inv X pins σ H s->InB X H s ex (.ref A)->C.E (.ref A) iL H->X.xe (.ref ex) s
theorem qfm {f:Addr}:ZF (cxk P w K mg base N qual scope f cd A outer s0 H0 C.E) C:=λpins σ H s ex A I x k=>qfl I x k
variable {Cc:Addr} {cpos:Pos}
section
variable {fr:Sl->Out (List D×Sl)} {np:Pos}
theorem ArgV.len:∀ {as:List AK} {vs:List V} {ds:List D},ArgV K H0 F H σ as vs ds->vs.length=as.length
 | [],[],[],_=>rfl
 | .vl::as,v::vs,d::ds,h=>congrArg (·+1) (ArgV.len h.2)
 | .sl i::as,v::vs,d::ds,h=>congrArg (·+1) (ArgV.len h.2.2)
 | .fr::as,v::vs,d::ds,h=>congrArg (·+1) (ArgV.len h.2)
 | [],_::_,_,h=>h.elim
 | [],[],_::_,h=>h.elim
 | .vl::_,[],_,h=>h.elim
 | .vl::_,_::_,[],h=>h.elim
 | .sl _::_,[],_,h=>h.elim
 | .sl _::_,_::_,[],h=>h.elim
 | .fr::_,[],_,h=>h.elim
 | .fr::_,_::_,[],h=>h.elim
theorem ko (d:X.ex=[]) (w:ZF X C) (P:X.calm=iO) (hg:Gl X x) (m:X.mg x=iJ (.ref Cc)) (v:C.cv x=.ref Cc) (q:dW X.K Cc bmV "ValueError.__new__"=iO) (A:PA X (e::es) (tAr C own as fr)) (hsz:as.length<=1000:=by decide) (g:∀ i∈C.ox,i∈own:=by exact kU rfl) (hd:(x == ("__debug__":Str))=false:=by decide)
  (j:starEach (e::es) X.env=(iN,eval e X.env)::starEach es X.env:=by exact jp rfl) (l:(backTo cpos (starEach es X.env)).any (·.1)=false:=by rfl) :
  PS X (.Raise (iJ (.Call (.Name x np) (e::es) [] cpos)) iL pos) (tSt C own own' (jR x fr)):=by
 refine ⟨?_⟩;intro pins s σ H D I ⟨F,ρ,r,h⟩;obtain ⟨tl,N,nm,p,bs,hdct,sn,sub,ab,col,dd,k0,k1,k2,k3,k5,mN,hC,B,f,T⟩:=(qdg I.ok.mod.kin m q).obj;refine wpAny_Raise_call_subT (C:=Cc) (nm:=nm) (q:=p) (N:=N) (bs:=bs) (bm:=tl) (hdct:=hdct) (sn:=sn) (sub:=sub) (ab:=ab) (col:=col) (dd:=dd) (k0:=k0) (k1:=k1) (k2:=k2) (k3:=k3) (k5:=k5)
  PySem.F.excBase_ValueError (mN:=mN) (T.hasType PySem.F.excBase_ValueError.hasBase) (I.ok.hd P) (by rw [j]; show (iN||(backTo cpos (starEach es X.env)).any (·.1))=iN; rw [l]; rfl) f (xC I hg m ⟨rfl,?_⟩ hd)
 have n:tAr C own as fr σ H λvs H1=>vs.length<=sizeLine/\C.E (.ref Cc) iL H1:=by
  refine ⟨F,ρ,r,PoS.bindA h λvs F1 H1 ds ρ1 a M J h1=>⟨?_,?_⟩⟩;·rw [J.len]; exact bE hsz (by rw [iT]; decide)
  ·rw [<-v]; exact h1 F1 H1 a.sub (a.ioIs g) .refl
 have run:=A cpos pins s σ H _ I n;rw [j] at run ⊢;refine dJ (lg run (λus s2 ⟨vs,H2,c,r2,z2,G⟩=>?_) λ_ _ y=>y);refine ⟨rfl,by rw [<-r2.length]; exact z2,c.bk _ _ hC,B.keeps c.bk,T.keeps c.bk,λh' ex mk=>?_⟩;have L:Inv X pins σ H2 { s2 with heap:=h' }:=c.kept (t':=s2.toks) mk.keeps;obtain ⟨t,h1,h2,h3⟩:=mk.there;refine w pins σ H2 _ ex Cc L ⟨?_,?_,.inl ⟨_,_,h1,rfl,rfl,rfl⟩⟩ G
 ·cases b:H2 ex with
  | none=>rfl
  | some u=>have z:=c.hok.lt b;refine absurd mk.new ?_;obtain ⟨o,e⟩:=qb1 c.hok b;rw [e]; simp
 ·cases b:X.s₀.heap.get? ex with
  | none=>rfl
  | some o=>obtain ⟨o',k⟩:=c.base.there ex o b (by rw [d]; simp);rw [mk.new] at k; cases k
end
structure Caught (X:Cx) (pins:List (Addr×Obj)) (H:Hp) (s:iP) (ex T Cc:Addr):Prop where
 fly:Fly s.heap ex T (.ref Cc)
 hex:H ex=iL
 hT:H T=iL
 n1:X.s₀.heap.get? ex=iL
 n2:X.s₀.heap.get? T=iL
 pp:∀ p∈X.pn++pins,p.1≠ex/\p.1≠T
variable {xe:iM->iP->Prop}
section
variable {T:Addr}
theorem Caught.dex (c:Caught X pins H s ex T Cc):∃ o vs,s.heap.get? ex=iJ o/\o.data=.fields vs:=let ⟨o,vs,a,ts,p,b,z,_⟩:=c.fly; ⟨o,vs,p,z⟩
theorem Caught.dT (c:Caught X pins H s ex T Cc):∃ o vs,s.heap.get? T=iJ o/\o.data=.fields vs:=let ⟨o,vs,a,ts,p,b,z,q,m,l,k,_⟩:=c.fly; ⟨a,ts,l,k⟩
theorem Uz {h2:Heap} (I:Inv X pins σ H s) (g:X.stack=X.env::X.outer) (j:X.env.frame=iJ X.env.locals) (K:X.ex=[]) (c:Caught X pins H s ex T Cc)
  (keep:∀ b o,s.heap.get? b=iJ o->b≠ex->b≠T->b∉frs X.stack->h2.get? b=iJ o)
  (slot:∀ b o,s.heap.get? b=iJ o->b∈frs X.stack->∃ sl,h2.get? b=iJ { o with slots:=sl }):Inv X pins σ H { s with heap:=h2 }:=by
 obtain ⟨Z,ve,N,R⟩:=c.dex;obtain ⟨F,Y,hT,dT⟩:=c.dT;have G:∀ b o,s.heap.get? b=iJ o->(∀ vs,o.data≠.fields vs)->b≠ex/\b≠T:=λb o e n=>by
  constructor;·rintro rfl; rw [N] at e; cases e; exact n _ R
  ·rintro rfl; rw [hT] at e; cases e; exact n _ dT
 have W:X.env.locals∈frs X.stack:=by rw [g]; unfold frs; rw [cF,j]; exact aw
 have L:∀ b o,X.s₀.heap.get? b=iJ o->b≠X.env.locals:=λb o e=>aG (aI (ap e) I.ok.above);have w:∀ b o,X.s₀.heap.get? b=iJ o->b∉X.fs->b∉frs X.stack:=λb o e h z=>by
  rcases ac.mp (I.stkSub b z) with q | q;·exact L b o e q
  ·exact h q
 have y:∀ b,b∈X.fs->b∈frs X.stack:=λb h=>by rw [g]; unfold frs; rw [cF,j]; exact af _ h
 have f:∀ b o,X.s₀.heap.get? b=iJ o->b≠ex/\b≠T:=λb o e=>⟨(by rintro rfl; rw [c.n1] at e; cases e),(by rintro rfl; rw [c.n2] at e; cases e)⟩
 have A:∀ {a:Addr} {v:Option iM},s.heap.IsCell a v->h2.IsCell a v:=λ{a v} ⟨oc,e1,l⟩=>by
  have q:=G a oc e1 λvs z=>by rw [l] at z; cases z
  by_cases h:a∈frs X.stack;·obtain ⟨sl,z⟩:=slot a oc e1 h;exact ⟨_,z,l⟩
  ·exact ⟨oc,keep a oc e1 q.1 q.2 h,l⟩
 refine ⟨I.ok,I.os,I.bare,⟨λb o e n h hx=>?_,λb o e n h hx=>?_,I.base.free,λb o e hx=>?_,I.base.tups,I.base.frzs,I.base.tbls⟩,?_,λx a e=>?_,I.free,I.freeC,λp hp=>?_,λb u e=>?_,I.len⟩;·exact keep b o (I.base.keep b o e n h hx) (f b o e).1 (f b o e).2 (w b o e h)
 ·obtain ⟨sl,q⟩:=I.base.slot b o e n h hx;obtain ⟨t,E⟩:=slot b _ q (y b h);exact ⟨t,E⟩
 ·obtain ⟨o',q⟩:=I.base.there b o e hx;by_cases h:b∈frs X.stack;·obtain ⟨sl,z⟩:=slot b o' q h;exact ⟨_,z⟩
  ·exact ⟨o',keep b o' q (f b o e).1 (f b o e).2 h⟩
 ·obtain ⟨m,⟨o,es,ep,M,r⟩,hl⟩:=I.loc;obtain ⟨sl,P⟩:=slot _ o M W;refine ⟨m,⟨_,es,ep,P,r⟩,λi x v e1 l Q=>?_⟩;obtain ⟨u,D,J⟩:=hl i x v e1 l Q;refine ⟨u,D,?_⟩;rcases J with z | ⟨k,a,e,z⟩
  ·exact .inl z
  ·exact .inr ⟨k,a,e,A z⟩
 ·obtain ⟨v,z⟩:=I.cell x a e;exact ⟨v,A z⟩
 ·obtain ⟨V,U,C,B,S⟩:=I.pin p hp;refine ⟨keep p.1 p.2 V (c.pp p hp).1 (c.pp p hp).2 λz=>?_,U,C,B,S⟩;rcases ac.mp (I.stkSub p.1 z) with q | q;·exact C q
  ·exact B q
 ·refine (I.hok b u e).stay (λd v O q=>?_) (λ_ q=>q) λ_ _ q=>q;have hd:H d≠none:=by
   rcases O with z | z;·rw [z,e]; simp
   ·rw [z]; simp
  exact keep d v q (λz=>hd (by rw [z]; exact c.hex)) (λz=>hd (by rw [z]; exact c.hT)) λz=>hd (I.stkFree d z)
theorem QQ {B:iM} (I:Inv X pins σ H s) (d:X.ex=[]) (c:Caught X pins H s ex T Cc) (slot:∀ b o,s.heap.get? b=iJ o->b∈frs X.stack->∃ sl,h2.get? b=iJ { o with slots:=sl })
  (tr:h2.TracedW (bi s.heap (yX ex (iJ T) X)) ex (.ref Cc) B):∃ l,Caught X pins H { s with heap:=h2 } ex l Cc:=by
 obtain ⟨m,vs,l,r,ts,A,⟨z,_⟩,x,w,k,j,g,f,v⟩:=tr;have n:∀ o,s.heap.get? l=iJ o->l=T:=λo e=>by
  have h:l∈yX ex (iJ T) X:=by refine bJ λt=>?_;rw [cY _ e t] at k;cases k
  rcases ac.mp h with q | h;·exact absurd q j
  ·rcases aJ.mp h with q | q;·simpa using q
   ·obtain ⟨o',a,y⟩:=yY I q;obtain ⟨sl,i⟩:=slot l o' a q;rw [g] at i;cases i;exact absurd f (y ts)
 refine ⟨l,⟨m,vs,r,ts,A,z,x,w,j,g,f,v⟩,c.hex,?_,c.n1,?_,λp hp=>⟨(c.pp p hp).1,?_⟩⟩
 ·cases q:H l with
  | none=>rfl
  | some u=>obtain ⟨o,e⟩:=qb1 I.hok q;rw [n o e,c.hT] at q; cases q
 ·cases q:X.s₀.heap.get? l with
  | none=>rfl
  | some o=>obtain ⟨o',a⟩:=I.base.there l o q (by rw [d]; simp);rw [n o' a,c.n2] at q; cases q
 ·rintro rfl;exact (c.pp p hp).2 (n _ (I.pin p hp).1)
theorem QR (st:(bi s.heap (yX ex (iJ T) X)).StaysIn h2):∀ b o,s.heap.get? b=iJ o->b≠ex->b≠T->b∉frs X.stack->h2.get? b=iJ o:=λb o e h1 h2 h3=>st b o (cY _ e λc=>by
  rcases ac.mp c with q | c;·exact h1 q
  ·rcases aJ.mp c with q | q;·exact h2 (by simpa using q)
   ·exact h3 q)
theorem KW (c:Caught X pins H s ex T Cc):∃ B,s.heap.TracedW (bi s.heap (yX ex (iJ T) X)) ex (.ref Cc) B:=by obtain ⟨o,vs,a,ts,p,b,z,q,m,l,k,j⟩:=c.fly;have hz:0 < vs.size:=fM (Array.getElem?_eq_some_iff.mp q).1;exact ⟨vs[0],o,vs,T,a,ts,p,⟨b,by simp [hz]⟩,z,q,cR _ (af _ (cw _ (by simp))),m,l,k,j⟩
theorem QS (I:Inv X pins σ H s) (h:X.stack=X.env::X.outer):s.heap.FunFrames (bi s.heap (yX ex (iJ T) X)) (X.env::X.outer):=by rw [<-h];exact PySem.W.funFrames_hide I.stack λenv i b d=>af _ (aX _ (KS h env i b d))
theorem ZH {E:iM->iP->Prop} {Q:Unit->iP->Prop} (hA:A.frames=iJ X.stack) (I:Inv X pins σ H s) (h:X.stack=X.env::X.outer) (r:X.env.frame=iJ X.env.locals) (d:X.ex=[]) (c:Caught X pins H s ex T Cc)
  (k:∀ s' l,Inv X pins σ H s'->Caught X pins H s' ex l Cc->Q () s'):wpAny (model X.prog X.w) A (noteFrame (.ref ex) X.env) (λ_ s1=>wpAny (model X.prog X.w) A (setFlight (.ref ex) iL) Q E s1) E s:=by
 obtain ⟨B,tr⟩:=KW c;refine wpAny_looks_onW (by rw [hA,h]) r ⟨λb o e=>d4 _ e,cR _ (ac.mpr (.inl rfl)),QS I h,tr⟩ λh1 a j=>?_;refine wpAny_landsW a λh2 g u=>?_;have slot:∀ b o,s.heap.get? b=iJ o->b∈frs X.stack->∃ sl,h2.get? b=iJ { o with slots:=sl }:=λb o e n=>by obtain ⟨o',i,y⟩:=yY I n;rw [e] at i; cases i;obtain ⟨sl,q⟩:=j b o e y;obtain ⟨f,m⟩:=u b _ q y;exact ⟨f,m⟩
 obtain ⟨l,S⟩:=QQ I d c slot g.2.2.2;have p:Inv X pins σ H { s with heap:=h2 }:=Uz I h r d c (QR g.1) slot;exact k { s with heap:=h2 } l p S
theorem Wj {A:iV} {E:iM->iP->Prop} {Q:Unit->iP->Prop} (I:Inv X pins σ H s) (h:X.stack=X.env::X.outer) (r:X.env.frame=iJ X.env.locals) (d:X.ex=[]) (c:Caught X pins H s ex T Cc)
  (k:∀ s' l,Inv X pins σ H s'->Caught X pins H s' ex l Cc->Q () s'):wpAny (model X.prog X.w) A (setFlight (.ref ex) iL) Q E s:=by
 obtain ⟨B,tr⟩:=KW c;refine wpAny_setFlight_noneW (base:=bi s.heap (yX ex (iJ T) X)) (λb o e=>d4 _ e) (QS I h) tr λh2 st _ t kp=>?_;have slot:∀ b o,s.heap.get? b=iJ o->b∈frs X.stack->∃ sl,h2.get? b=iJ { o with slots:=sl }:=λb o e f=>by obtain ⟨o',a,y⟩:=yY I f;rw [e] at a; cases a;exact ⟨o.slots,kp b o e y⟩
 obtain ⟨l,S⟩:=QQ I d c slot t;exact k _ l (Uz I h r d c (QR st) slot) S
theorem qhi (I:Inv X pins σ H s) (c:Caught X pins H s ex T Cc):Inv X pins σ (upd H ex (Wa ex Cc)) s:=by
 obtain ⟨g,vs,B,ts,f,w,h,_⟩:=c.fly;have y:∀ b o,s.heap.get? b=iJ o->(∀ vs,o.data≠.fields vs)->b≠ex:=λb o e n=>by rintro rfl; rw [f] at e; cases e; exact n _ h
 have up:∀ {b:Addr} {u:HO},H b=iJ u->upd H ex (Wa ex Cc) b=iJ u:=λ{b u} e=>by rw [qw (qE e c.hex)]; exact e
 refine ⟨I.ok,I.os,I.bare,⟨I.base.keep,I.base.slot,λb o e n hx=>?_,I.base.there,λb xs e=>up (I.base.tups b xs e),λb o u e=>up (I.base.frzs b o u e),λb ps e=>?_⟩,I.loc,I.cell,?_,λx a e=>?_,λp hp=>?_,λb u e=>?_,I.len⟩;·rw [qw (by rintro rfl; rw [c.n1] at e; cases e)]; exact I.base.free b o e n hx
 ·obtain ⟨more,z⟩:=I.base.tbls b ps e;exact ⟨more,up z⟩
 ·obtain ⟨m,⟨o,es,ep,l,hd,_⟩,_⟩:=I.loc;rw [qw (y _ o l λvs z=>by rw [hd] at z; cases z)]; exact I.free
 ·obtain ⟨v,oc,e1,i⟩:=I.cell x a e;rw [qw (y _ oc e1 λvs z=>by rw [i] at z; cases z)]; exact I.freeC x a e
 ·obtain ⟨A,t,r⟩:=I.pin p hp;refine ⟨A,?_,r⟩;rw [qw (c.pp p hp).1]; exact t
 ·by_cases q:b=ex;·subst q;rw [qo] at e; cases e;refine ⟨⟨g,vs,f,w,h⟩,⟨g,f⟩,λh1 h2 ⟨o1,j,e1,i,E⟩ k=>⟨o1,j,k _ e1,i,E⟩⟩
  ·rw [qw q] at e;exact (I.hok b u e).stay (λ_ _ _ z=>z) (λd z=>up z) λd xs z=>up z
def Wk (X:Cx) (pn:List (Addr×Obj)) (xe:iM->iP->Prop):Cx:={ X with pn:=pn,xe:=xe }
theorem qdh (I:Inv X pins σ H s):Inv (Wk X (X.pn++pins) xe) [] σ H s:=
 ⟨⟨I.ok.mod,I.ok.kind,I.ok.glob,I.ok.blt,I.ok.above,I.ok.inj,I.ok.has,I.ok.cab,I.ok.hd,I.ok.frames,I.ok.stk,I.ok.exf,I.ok.bs,I.ok.bsz,I.ok.noex,I.ok.exfs,I.ok.funs,I.ok.frf⟩,I.os,I.bare,I.base,I.loc,I.cell,I.free,I.freeC,λp hp=>I.pin p (by simpa [Wk] using hp),I.hok,I.len⟩
theorem ux {a:List (Addr×Obj)} (I:Inv (Wk X (X.pn++pins) xe) a σ H s):Inv X pins σ H s:=
 ⟨⟨I.ok.mod,I.ok.kind,I.ok.glob,I.ok.blt,I.ok.above,I.ok.inj,I.ok.has,I.ok.cab,I.ok.hd,I.ok.frames,I.ok.stk,I.ok.exf,I.ok.bs,I.ok.bsz,I.ok.noex,I.ok.exfs,I.ok.funs,I.ok.frf⟩,I.os,I.bare,I.base,I.loc,I.cell,I.free,I.freeC,λp hp=>I.pin p (cw _ hp),I.hok,I.len⟩
noncomputable def qgv (X:Cx) (e:iM):Cx:={ X with A:=X.A.mark (iJ e),calm:=iN,xe:=λ_ _=>False }
theorem qb2 {e:iM} (I:Inv X pins σ H s):Inv (qgv X e) pins σ H s:=
 ⟨⟨I.ok.mod,I.ok.kind,I.ok.glob,I.ok.blt,I.ok.above,I.ok.inj,I.ok.has,I.ok.cab,λz=>absurd z (by show ¬(iN=iO); exact bG),I.ok.frames,I.ok.stk,I.ok.exf,I.ok.bs,I.ok.bsz,I.ok.noex,I.ok.exfs,I.ok.funs,I.ok.frf⟩,I.os,I.bare,I.base,I.loc,I.cell,I.free,I.freeC,I.pin,I.hok,I.len⟩
theorem qdi {e:iM} (hok:X.Ok) (I:Inv (qgv X e) pins σ H s):Inv X pins σ H s:=
 ⟨hok,I.os,I.bare,I.base,I.loc,I.cell,I.free,I.freeC,I.pin,I.hok,I.len⟩
theorem YV {g:Str->Option iM} {t:Nat} (I:Inv X pins σ H s) (k:X.stack=X.env::X.outer) (r:X.env.frame=iJ X.env.locals) (A:h'.Ns X.env.locals g) (y:bn X.env.locals s.heap h'):Inv X pins (σ.map λ_=>iL) H { s with heap:=h',toks:=t }:=by
 have L:∀ b o,X.s₀.heap.get? b=iJ o->b≠X.env.locals:=λb o e=>aG (aI (ap e) I.ok.above);obtain ⟨m,⟨E,es,ep,W,h,_⟩,_⟩:=id I.loc;have w:∀ {a:Addr} {v:Option iM},s.heap.IsCell a v->a≠X.env.locals:=λ{a v} ⟨oc,e1,c⟩=>by rintro rfl; rw [W] at e1; cases e1; rw [h] at c; cases c
 refine ⟨I.ok,I.os,I.bare,⟨λb o e n f hx=>(y.2 b (L b o e)).trans (I.base.keep b o e n f hx),λb o e n f hx=>?_,I.base.free,λb o e hx=>?_,I.base.tups,I.base.frzs,I.base.tbls⟩,⟨g,A,λi x v e1 c=>?_⟩,λx a e=>?_,I.free,I.freeC,λp hp=>?_,λb u e=>?_,by simp [I.len]⟩;·obtain ⟨sl,q⟩:=I.base.slot b o e n f hx;exact ⟨sl,(y.2 b (L b o e)).trans q⟩
 ·obtain ⟨o',q⟩:=I.base.there b o e hx;exact ⟨o',(y.2 b (L b o e)).trans q⟩
 ·simp only [aK] at c;cases q:σ[i]? <;> rw [q] at c <;> cases c
 ·obtain ⟨v,z⟩:=I.cell x a e;exact ⟨v,z.sameBut y (w z)⟩
 ·obtain ⟨D,C,j,B⟩:=I.pin p hp;exact ⟨(y.2 p.1 j).trans D,C,j,B⟩
 ·refine (I.hok b u e).stay (λd v l q=>(y.2 d ?_).trans q) (λ_ q=>q) λ_ _ q=>q;rintro rfl;rcases l with z | z;·rw [<-z,I.free] at e; cases e
  ·rw [I.free] at z; cases z
end
def qhj (C:Ct) (own:List Nat) (E:XK):Ct:=⟨C.K,C.cv,E,own,C.mr,C.ol,own,λ_ h=>h⟩
noncomputable def exC (C:Ct):Ct:=⟨C.K,C.cv,λ_ _ _=>False,[],C.mr,[],[],λ_ h=>h⟩
noncomputable def qdj (n:Nat) (j:Option Nat) (hit:Str->Option Addr) (fb fs:Sl->Out (Fl×Sl)):Sl->Out (Fl×Sl):=λρ=>match fb ρ with
 | .exc c ρe=>match hit c with
  | some Cc=>match fs (match j with | some j=>(bx n iL).set j (iJ (.xcp Cc)) | none=>bx n iL) with
   | .ok (.rt d,_)=>.ok (.rt d,ρe)
   | _=>.bad
  | none=>.bad
 | o=>o
def qhk (C:Ct) (own:List Nat) (σ:St) (F H:Hp) (r:Out (Fl×Sl)):XK:=λcls _ H'=>∃ c ρe F',r=.exc c ρe/\cls=C.cv c/\Same F' H'/\Xx C.K own F' H' σ ρe/\Chg (OA own σ) F H F' H'
def qhl (X:Cx) (pins:List (Addr×Obj)) (E:XK):iM->iP->Prop:=λe s'=>∃ σ ex T Cc H',e=.ref ex/\Inv X pins σ H' s'/\Caught X pins H' s' ex T Cc/\E (.ref Cc) iL H'
section
variable {fs:Sl->Out (Fl×Sl)}
theorem YW (d:X.ex=[]):kB (CXk X.prog X.w) (Wk X (X.pn++pins) (qhl X pins E)) E:=λa σ H s e s' I h=>by
 obtain ⟨ex,T,Cc,H',rfl,os,bare,un,hok,l,e1,i,n1,n2,k⟩:=h;have old:∀ b,s.heap.get? b=iL->X.s₀.heap.get? b=none:=λb f=>by
  cases q:X.s₀.heap.get? b with
  | none=>rfl
  | some o=>obtain ⟨o',c⟩:=I.base.there b o q (by show b∉X.ex; rw [d]; simp);rw [f] at c; cases c
 have g:Inv (Wk X (X.pn++pins) (qhl X pins E)) a σ H' s':=I.call' (ch:=[]) os un hok bare (λb z=>absurd z (by simp));refine ⟨σ,ex,T,Cc,H',rfl,ux g,⟨l,e1,i,old ex n1,old T n2,λp hp=>?_⟩,k⟩;have q:=(I.pin p (cw _ hp)).1;exact ⟨λz=>(by rw [z,n1] at q; cases q),λz=>(by rw [z,n2] at q; cases q)⟩
theorem Nx.untry {σ':St} {ρ':Sl} (g:∀ i∈C.io,i∈own) (n:Nx (qhj C own E) o1 o2 σ F H ρ' σ' F' H'):Nx C o1 o2 σ F H ρ' σ' F' H':=⟨n.rep,n.chg,n.oa,λi hi=>n.io i (g i hi)⟩
theorem qaW {D:Ends} {j:Option Nat} {hit:Str->Option Addr} (g:∀ i∈C.io,i∈own) (r:Rep C.K own F H σ ρ) (h:PoS C own own' σ F H (qdj n j hit fb fs ρ) D):tSt (qhj C own (qhk C own σ F H (fb ρ))) own own' fb D σ H:=by
 refine ⟨F,ρ,r,?_⟩;unfold qdj at h;cases q:fb ρ with
 | ok p=>
  rw [q] at h;obtain ⟨l,ρ'⟩:=p;cases l with
  | nx=>exact λσ' F' H' a=>h σ' F' H' (a.untry g)
  | rt d=>exact λv σ' F' H' s io c e mo=>h v σ' F' H' s (λi hi=>io i (g i hi)) c (λi hi=>e i (g i hi)) mo
  | bk=>exact λσ' F' H' a=>h σ' F' H' (a.untry g)
  | ct=>exact λσ' F' H' a=>h σ' F' H' (a.untry g)
 | exc c ρe=>exact λF' H' s io ch=>⟨c,ρe,F',rfl,rfl,s,io,ch⟩
 | bad=>rw [q] at h; exact h.elim
theorem ZI {t e:Hp} {Cc:Addr} {D:Ends} {d:D2.D} {v:V} {w:St} (g:∀ i∈C.io,i∈own) (h:PoS C own own' σ F H (.ok (.rt d,ρe)) D) (n:H1 ex=iL) (y:Same F1 H1) (io:Xx C.K own F1 H1 σ ρe) (ch:Chg (OA own σ) F H F1 H1)
  (s3:Same t e) (G:Chg (OA [] w) (upd F1 ex (Wa ex Cc)) (upd H1 ex (Wa ex Cc)) t e) (mo:MoIs C.K C.mr (upd H1 ex (Wa ex Cc)) t e v d):D.rt v e:=by
 obtain ⟨s,c2⟩:=yB (u:=Wa ex Cc) y n;have no:∀ {b},OA [] w b->False:=λ⟨i,hi,_⟩=>by simp at hi
 have f:Chg No (upd F1 ex (Wa ex Cc)) (upd H1 ex (Wa ex Cc)) t e:=G.mono λx z=>no z;have c:Chg No F1 H1 t e:=c2.trans f λ_ z=>z.elim;refine h v σ t e s3 (λi hi=>?_) (ch.trans c λ_ z=>z.elim) (λ_ _=>rfl) (MoIs.back (Ha:=e) (ch.trans c2 λ_ z=>z.elim) mo);obtain ⟨d',a,e1,j,E,k⟩:=io i (g i hi);refine ⟨d',a,e1,j,?_,k.grow c.grow λo q=>c.keep a o q λz=>z⟩;cases q:t a with
 | none=>rfl
 | some u=>
  rcases c.new a (by rw [q]; simp) with z | z | z;·exact absurd E z
  ·exact absurd z k.there
  ·exact z.elim
theorem qdk {cn en:Str} {np J pos:Pos} {body b:List Stmt} {b0:Stmt} {cls:iM} {n j:Nat} {hit:Str->Option Addr} {own2:List Nat} (t:X.ex=[]) (k:X.stack=X.env::X.outer) (x:X.env.frame=iJ X.env.locals)
  (hg:Gl X cn) (hm:X.mg cn=iJ cls) (L:∀ c Cc,hit c=iJ Cc->C.cv c=.ref Cc/\dL X.K (.ref Cc) cls=iJ iO) (hN:X.N.Nodup) (hj:X.N[j]?=iJ en) (hx:X.env.scope.names.lookup en=iJ .local) (hn:X.N.length=n)
  (hb:∀ pn xe E,kB (CXk X.prog X.w) (Wk X pn xe) E->PSs (Wk X pn xe) body (tSt (qhj C own E) own own' fb)) (hs:∀ e,PSs (qgv X e) (b0::b) (tSt (exC C) [] own2 fs)) (o:∀ i∈C.io,i∈own:=by exact kU rfl) (hd:(cn == ("__debug__":Str))=false:=by decide) :
  PS X (.Try body [.ExceptHandler (iJ (.Name cn np)) (iJ en) (b0::b) J] [] [] pos) (tSt C own own' (qdj n (iJ j) hit fb fs)):=by
 refine ⟨?_⟩;intro pins s σ H D I ⟨F,ρ,rp,h⟩;have run:=hb (X.pn++pins) (qhl X pins (qhk C own σ F H (fb ρ))) (qhk C own σ F H (fb ρ)) (YW t) [] s σ H D (qdh I) (qaW o rp h);refine wpAny_Try_except (lg run (λf s1 l=>?_) λe s1 he=>?_)
 ·cases f with
  | next=>obtain ⟨σ',H',y,q⟩:=l;exact XF pins s1 σ' H' D (ux y) q
  | brk=>obtain ⟨σ',H',y,q⟩:=l; exact ⟨σ',H',ux y,q⟩
  | cont=>obtain ⟨σ',H',y,q⟩:=l; exact ⟨σ',H',ux y,q⟩
  | ret u=>obtain ⟨v,σ',H',y,r,q⟩:=l; exact ⟨v,σ',H',ux y,r,q⟩
 ·obtain ⟨σ1,ex,T,Cc,H1,rfl,I1,c1,c,ρe,F1,hr,O,A,Z,ch1⟩:=he;refine ZH I1.ok.frames I1 k x t c1 λs2 T2 I2 c2=>?_;unfold qdj at h;rw [hr] at h;cases Y:hit c with
  | none=>simp only [Y] at h; exact h.elim
  | some Ch=>
   simp only [Y] at h;obtain ⟨hc1,hc2⟩:=L c Ch Y;rw [hc1] at O;obtain rfl:Cc=Ch:=by injection O
   refine wpAny_handleBy_cons (codeAny_handlers_test (xC (X:=qgv X (.ref ex)) (qb2 I2) hg hm ?_ hd)) (by intro q; cases q);obtain ⟨oe,vs,oT,ts,a1,a2,a3,_⟩:=id c2.fly;have LT:PySem.W.Looks (model X.prog X.w) s2.heap (typeOf (.ref ex)) (.ref Cc):=by rw [<-a2]; exact (PySem.W.Looks.ld a1).andThen .now
   refine (PySem.W.exm_one I2.kIn LT hc2) _ _ _ _ (λ_ _ z=>z) ?_;refine codeAny_handlers_suite_as (Wj I2 k x t c2 λs3 T3 I3 c3=>?_);have I4:=qhi I3 c3;refine yN I4 hN hj (.inl hx) (v:=.ref ex) rfl (λs5 I5=>?_) (.inr hx);have g:j < n:=by rw [<-hn]; exact (aH.mp hj).1
   have I6:Inv X pins ((bx n iL).set j (iJ (.ref ex))) (upd H1 ex (Wa ex Cc)) s5:=I5.weak (by simp [I3.len,hn]) λi v e=>by
    by_cases B:i=j;·subst B;rw [aD (by simpa using g)] at e;rw [aD (by rw [I3.len,hn]; exact g)];exact e
    ·rw [ai (aZ B),bU] at e;split at e <;> cases e
   obtain ⟨Q,cc2⟩:=yB (u:=Wa ex Cc) A c1.hex;have S:Rep C.K [] (upd F1 ex (Wa ex Cc)) (upd H1 ex (Wa ex Cc)) ((bx n iL).set j (iJ (V.ref ex))) ((bx n iL).set j (iJ (.xcp Cc))):=by
    refine ⟨Q,by simp,λi d hi e=>?_,λi d hi=>by simp at hi,λi hi=>by simp at hi,λi j a hi=>by simp at hi⟩;by_cases B:i=j;·subst B;rw [aD (by simpa using g)] at e;cases e;exact ⟨.ref ex,by rw [aD (by simpa using g)],.xcp qo⟩
    ·rw [ai (aZ B),bU] at e;split at e <;> cases e
   have G:tSt (exC C) [] own2 fs { nx:=λ_ _=>False,rt:=D.rt } ((bx n iL).set j (iJ (V.ref ex))) (upd H1 ex (Wa ex Cc)):=by
    refine ⟨_,_,S,?_⟩;cases U:fs ((bx n iL).set j (iJ (.xcp Cc))) with
    | ok p=>
     obtain ⟨fl,ρ5⟩:=p;rw [U] at h;cases fl with
     | rt d=>exact λv σ' F3 H3 s3 io c3 e mo=>ZI (own':=own') (D:=D) (ex:=ex) (Cc:=Cc) o h c1.hex A Z ch1 s3 c3 mo
     | nx=>exact h.elim
     | bk=>exact h.elim
     | ct=>exact h.elim
    | exc _ _=>rw [U] at h; exact h.elim
    | bad=>rw [U] at h; exact h.elim
   refine lg (hs (.ref ex) pins s5 _ _ _ (qb2 I6) G) (λf s7 l=>?_) λ_ _ z=>z.elim;cases f with
   | next=>obtain ⟨_,_,_,q⟩:=l; exact q.elim
   | brk=>obtain ⟨_,_,_,q⟩:=l; exact q.elim
   | cont=>obtain ⟨_,_,_,q⟩:=l; exact q.elim
   | ret u=>obtain ⟨v,P,H7,I7,r7,q7⟩:=l;have M:Inv X pins P H7 s7:=qdi I.ok I7;obtain ⟨m,hns,_⟩:=id M.loc;refine wpAny_nameGoes hx hns (by rw [I.ok.kind]; rfl) λh' m' hn' R=>?_;exact ⟨v,_,H7,YV M k x hn' R,r7,q7⟩
end
structure RoomQ (k:Nat) (A:iV):Prop where
 dp:A.depth+3 * k+5 < recursionLimit
 un:A.units+16 * k+200 < cLine
theorem RoomQ.deeper {k:Nat} (r:RoomQ (k+1) A) (env:Env):RoomQ k (A.deeper env):=
 ⟨by have:=r.dp; show A.depth+1+3 * k+5 < _; omega,by have:=r.un; show A.units+3+16 * k+200 < _; omega⟩
theorem RoomQ.depth {k:Nat} (r:RoomQ k A):A.depth < recursionLimit:=by have:=r.dp; omega
theorem RoomQ.units {k:Nat} (r:RoomQ k A):A.units+64 < cLine:=by have:=r.un; omega
theorem _root_.L2.Room.quiet {k:Nat} (r:Room k A):RoomQ k A:=⟨r.dp,r.un⟩
theorem RoomQ.mark {k:Nat} (r:RoomQ k A) (e:Option iM):RoomQ k (A.mark e):=⟨r.dp,r.un⟩
structure FnQ (P:iR) (w:iS) (K:Frag) (mg:Str->Option iM) (base:Heap) (CX:CXT) (k:Nat) (f:Addr) (fd:lm) (ps:List Str) (sp:Sp):Prop where
 len:∀ vs H Q E,sp vs H Q E->vs.length=ps.length
 run:∀ (A:iV) (outer:List Env) (s:iP) (H:Hp) (args:Args) (us:List iM) (vs:List V) (Q:VK) (E:XK),RoomQ k A->Env0 P w K mg base A outer s H->lW s fd args (ps.zip us)->Vals vs us->sp vs H Q E ->codeAny (model P w) A (.call (.ref f) args) (CR CX outer P w H s Q E) s
def cxQ (CX:CXT) (P:iR) (w:iS) (K:Frag) (mg:Str->Option iM) (base:Heap) (N:List Str) (qual:Str) (scope:lB) (f:Addr) (cd:iM) (A:iV) (outer:List Env) (s:iP) (H:Hp) (E:XK):Cx where
 prog:=P
 w:=w
 K:=K
 mg:=mg
 base:=base
 A:=A.deeper (envOfC qual scope s.heap.objs.size f cd)
 N:=N
 s₀:=s
 H₀:=H
 env:=envOfC qual scope s.heap.objs.size f cd
 outer:=outer
 stack:=envOfC qual scope s.heap.objs.size f cd::outer
 ex:=[]
 calm:=iN
 fn:=λ_=>iO
 pn:=[]
 xe:=λe s'=>wpAny (model P w) (A.deeper (envOfC qual scope s.heap.objs.size f cd)) (leaving (envOfC qual scope s.heap.objs.size f cd) e) (λ_ a=>CX outer H s E e a) (λb a=>CX outer H s E b a) s'
theorem YX {CX:CXT} {P:iR} {w:iS} {K:Frag} {mg:Str->Option iM} {base:Heap} {N ps:List Str} {qual:Str} {scope:lB} {f:Addr} {cd:iM} {A:iV} {outer:List Env} {s s1:iP} {H:Hp} {E:XK} {us:List iM} {vs:List V}
  (S:FnScope N ps scope) (d:Env0 P w K mg base A outer s H) (hl:vs.length=ps.length) (r:Vals vs us)
  (x:InCallC s s.heap.objs.size (bindL (envOfC qual scope s.heap.objs.size f cd).kindOf (ps.zip us) λ_=>iL) (cellsFrom (s.heap.objs.size+1) scope.names []) (bindC (envOfC qual scope s.heap.objs.size f cd).kindOf (ps.zip us) λ_=>iL) s1) :
  Inv (cxQ CX P w K mg base N qual scope f cd A outer s H E) [] (vZ N vs) H s1:=by
 have B:ps.length<=N.length:=by have:=congrArg iF S.pre; rw [bT] at this; omega
 obtain ⟨h1,tk,rfl,o⟩:=x.done;have g:∀ b:Addr,b∉(cxQ CX P w K mg base N qual scope f cd A outer s H E).ex:=λb z=>absurd (show b∈([]:List Addr) from z) (by simp);refine ⟨⟨d.mod,S.kind,rfl,rfl,ax _,λy z c h1 h2=>?_,λy j=>?_,λy c _ h=>?_,λz=>absurd z (by show ¬(iN=iO); exact bG),Around.frames_deeper d.frames,.inr ⟨rfl,rfl⟩,λb z=>absurd z (g b),d.bs,d.bsz,λb _ _=>g b,λb z=>absurd z (g b),d.funs,d.frf⟩,rfl,d.bare,Un.kept o,⟨_,x.toInCall.ns,λi y v h1 h2 h3=>?_⟩,λy c h=>⟨_,x.cell y c h⟩,d.hok.fresh (ax _),λy c h=>?_,λp hp=>absurd (show p∈([]:List (Addr×Obj)) from hp) (by simp),d.hok.kept o,?_⟩;·exact name_of_addr x.apart (bp h1) (bp h2)
 ·have j:scope.names.lookup y=iJ .cell\/scope.names.lookup y=iJ .free:=j;rcases j with j | j;·exact zG j
  ·exact absurd rfl (S.nofree _ (bp j))
 ·exact cH (x.above y c (bp h))
 ·have hi:i < vs.length:=by
   unfold vZ at h2;by_cases hi:i < vs.length;·exact hi
   ·rw [bY (by simpa using hi)] at h2;rw [bU] at h2;split at h2 <;> cases h2
  have C:vs[i]?=iJ v:=by
   unfold vZ at h2;rw [ck (by simpa using hi),aK] at h2;cases e:vs[i]? with
   | none=>rw [e] at h2; cases h2
   | some a=>rw [e] at h2; cases h2; rfl
  obtain ⟨u,m,t⟩:=r.get C;have hp:ps[i]?=iJ y:=by rw [<-S.pre,List.getElem?_take_of_lt (by omega)]; exact h1
  have l:ps.Nodup:=by rw [<-S.pre]; exact S.nd.sublist (List.take_sublist _ _)
  refine ⟨u,t,?_⟩;rcases S.par y (cU hp) with k | k;·exact .inl ⟨k,zY l hp m k⟩
  ·obtain ⟨c,e⟩:=zG (n:=s.heap.objs.size+1) k;refine .inr ⟨.inl k,c,e,?_⟩;have q:=x.cell y c e;rw [zZ l hp m (by show scope.names.lookup y≠_; rw [k]; decide)] at q;exact q
 ·exact d.hok.fresh (cH (x.above y c (bp h)))
 ·unfold vZ;show _=N.length;rw [aj,am,dB];omega
theorem qfn {CX:CXT} {P:iR} {w:iS} {K:Frag} {mg:Str->Option iM} {base:Heap} {k:Nat} {f:Addr} {name qual:Str} {params:Arguments} {body:List Stmt} {scope:lB} {j kV doc pm cdv ct oc:iM} {an od:Option Addr}
  {osl:Array (Option iM)} {N ps:List Str} {sp:Sp} (m:K.lookup f=iJ ⟨oc,od,.func (bR name qual params body scope j kV doc pm an cdv ct),osl⟩) (g:codeIn K cdv qual=iO) (S:FnScope N ps scope)
  (len:∀ vs H Q E,sp vs H Q E->vs.length=ps.length)
  (a:∀ (A:iV) (outer:List Env) (s:iP) (H:Hp) (vs:List V) (Q:VK) (E:XK),RoomQ k (A.deeper (envOfC qual scope s.heap.objs.size f cdv))->sp vs H Q E ->∃ t,PSs (cxQ CX P w K mg base N qual scope f cdv A outer s H E) body t/\t { nx:=λ_ H'=>Q .non H',rt:=Q } (vZ N vs) H) :
  FnQ P w K mg base CX (k+1) f (bR name qual params body scope j kV doc pm an cdv ct) ps sp:=by
 refine ⟨len,λA outer s H args us vs Q E i d D r p=>?_⟩;have hl:=len _ _ _ _ p;have X:K.In s.heap:=d.mod.kin.keeps λb o e=>(d.bs b o e).1;have l:s.heap.NoLimit:=d.mod.nolimit.keeps λb o e=>(d.bs b o e).1;have h:∀ y∈ps.zip us,scope.names.lookup y.1=iJ .local\/(scope.names.lookup y.1=iJ .cell/\((cellsFrom (s.heap.objs.size+1) scope.names []).lookup y.1).isSome=iO):=λ⟨n,v⟩ z=>by
  rcases S.par n (cM z).1 with q | q;·exact .inl q
  ·exact .inr ⟨q,ej _ _ _ (.inl q)⟩
 refine codeAny_call_function i.depth (X _ _ m) rfl S.co S.gen rfl (PySem.W.codeRec_of X g) (D _ _ _ _ ?_);refine wpAny_newFunctionEnv_cells S.kind h λenv C s1 x=>?_;subst C;refine ⟨l.keeps x.toInCall.keep,codeAny_func ?_⟩;obtain ⟨t,B,hq⟩:=a A outer s H vs Q E (i.deeper _) p;have I:Inv (cxQ CX P w K mg base N qual scope f cdv A outer s H E) [] (vZ N vs) H s1:=YX S d hl r x;refine lg (B [] s1 (vZ N vs) H _ I hq) (λG s' hs=>?_) λe s' hs=>hs;have fin:∀ {σ':St} {H':Hp} {v:V} {u:iM},Inv (cxQ CX P w K mg base N qual scope f cdv A outer s H E) [] σ' H' s'->RelV v u->Q v H'->CE outer P w H s Q u s':=
  λ{σ' H' v u} J c q=>⟨v,H',J.os,J.bare,J.base,J.hok,c,q⟩
 cases G with
 | ret u=>obtain ⟨v,σ',H',J,c,q⟩:=hs;exact fin J c q
 | next=>obtain ⟨σ',H',J,q⟩:=hs;exact fin (v:=V.non) (u:=bA) J rfl q
 | brk=>obtain ⟨_,_,_,q⟩:=hs;exact bL q
 | cont=>obtain ⟨_,_,_,q⟩:=hs;exact bL q
theorem qhm {P:iR} {w:iS} {K:Frag} {mg:Str->Option iM} {base:Heap} {CX:CXT} {x qual:Str} {st:Stmt} {f:Addr} {fd:lm} {N ps:List Str} {k:Nat} {cv:Str->iM} {ms:List PM} {mr:Mo} {own':List Nat} {fb:Sl->Out (Fl×Sl)} {G:List D->Out (D×List D)}
  (F:Fun K x qual st f fd) (S:FnScope N ps (qc st)) (hl:ms.length=ps.length) (g:∀ i∈KN 0 ms,i∈own') (r:mr=.sh\/∀ ds ρ,(fb (qu N ds))≠.ok (.nx,ρ))
  (a:∀ (cdv:iM) (A:iV) (outer:List Env) (s:iP) (H:Hp) (E:XK),RoomQ k (A.deeper (envOfC qual (qc st) s.heap.objs.size f cdv)) ->PSs (cxQ CX P w K mg base N qual (qc st) f cdv A outer s H E) (jU st) (tSt (qbZ K cv E ms mr) (jV 0 ms) own' fb))
  (e:∀ ds,Out.le (G ds) (ky N ms fb ds)):FnQ P w K mg base CX (k+1) f fd ps (spD K cv ms mr G):=by
 obtain ⟨oc,od,kV,doc,pm,an,cdv,ct,osl,rfl,m,d⟩:=F.ex;refine qfn m d S (λvs H Q E h=>?_) λA outer s H vs Q E c p=>?_;·obtain ⟨F,ds,_,b,_⟩:=h;rw [b.length.1,hl]
 ·obtain ⟨F1,ds,y,b,nd,h⟩:=p;refine ⟨_,a cdv A outer s H E c,?_⟩;exact Zy (C:=qbZ K cv E ms mr) rfl rfl (r.imp id λz ρ=>z ds ρ) g y b nd (e ds) h
section
variable {fr:Sl->Out (List D×Sl)}
theorem qdl {k:Nat} {f:Addr} {sp:Sp} {pins:List (Addr×Obj)} {σ:St} {H:Hp} {s:iP} {Q:VK} {us:List iM} {vs:List V} (F:FnQ X.prog X.w X.K X.mg X.base CX k f fd ps sp) (c:RoomQ k X.A) (d:Binds X.K fd ps []) (hx:kB CX X E)
  (I:Inv X pins σ H s) (r:Vals vs us) (h:sp (vs++[]) H Q E):wpAny (model X.prog X.w) X.A (call (.ref f) us) (EP X pins σ Q) X.xe s:=by
 have r2:Vals (vs++[]) (us++[]):=r.append .nil;have hl:(us++[]).length=ps.length:=by rw [<-r2.length]; exact F.len _ _ _ _ h
 refine lY (lx (F.run X.A X.stack s H ⟨us,[]⟩ (us++[]) (vs++[]) Q E c I.env0 (d s us I.kIn hl) r2 h) λr s' hq=>?_);cases r with
 | error e=>exact hx pins σ H s e s' I hq
 | ok l=>
  cases l with
  | ret u=>exact I.after hq
  | next=>exact bL hq
  | brk=>exact bL hq
  | cont=>exact bL hq
theorem qaX {k:Nat} {f:Addr} {p pos:Pos} (F:FnQ X.prog X.w X.K X.mg X.base CX k f fd ps (spD C.K C.cv ms mr G)) (c:RoomQ k X.A) (hg:Gl X x) (m:X.mg x=iJ (.ref f)) (g:keepIn X.K (.ref f)=iO) (t:Binds X.K fd ps []) (hx:kB CX X C.E)
  (u:PA X (e::es) (tAr C own as fr)) (a:ms=as.map xz:=by rfl) (hs:∀ i∈qS as,i∈own:=by decide) (nd:(qS as).Nodup:=by decide) (j:frA as<=1:=by decide) (o:∀ i∈C.ox,i∈own:=by exact kU rfl) (b:(x == ("__debug__":Str))=false:=by decide) (n:starEach (e::es) X.env=(iN,eval e X.env)::starEach es X.env:=by exact jp rfl)
  (l:(backTo pos (starEach es X.env)).any (·.1)=false:=by exact wF rfl):PE X (.Call (.Name x p) (e::es) [] pos) (tE C own mr (qx as G fr)):=by
 subst a;refine ⟨?_⟩;intro pins s σ H Q I h;refine i9 (xC I hg m ?_ b);refine d5 (h₀:=X.base) I.ok.mod.kin g (thn (u pos pins s σ H _ I (We o hs nd j h)) λus s1 ⟨vs,H1,d,r,q⟩=>⟨d.kIn,?_⟩) n l;exact qdl F c t hx d r q
end
def DefOk (P:iR) (w:iS) (K:Frag) (mg:Str->Option iM) (base:Heap) (cv:Str->iM) (k:Nat) (x:Str) (ps:List Str) (ms:List PM) (mr:Mo) (G:List D->Out (D×List D)):Prop:=
 ∃ f fd,FnOk P w K mg base (CXk P w) k f fd ps (spD K cv ms mr G)/\mg x=iJ (.ref f)/\keepIn K (.ref f)=iO/\Binds K fd ps []
def qhn (P:iR) (w:iS) (K:Frag) (mg:Str->Option iM) (base:Heap) (cv:Str->iM) (k:Nat) (x:Str) (ps:List Str) (ms:List PM) (mr:Mo) (G:List D->Out (D×List D)):Prop:=
 ∃ f fd,FnQ P w K mg base (CXk P w) k f fd ps (spD K cv ms mr G)/\mg x=iJ (.ref f)/\keepIn K (.ref f)=iO/\Binds K fd ps []
def jC (K:Frag) (mg:Str->Option iM) (x:Str) (st:Stmt) (ps:List Str):Prop:=∃ f fd,Fun K x x st f fd/\mg x=iJ (.ref f)/\Binds K fd ps []
theorem qM {P:iR} {w:iS} {base:Heap} {cv:Str->iM} {k:Nat} {ms:List PM} {mr:Mo} {own':List Nat} {fb:Sl->Out (Fl×Sl)} (T:jC K mg x st ps) (S:FnScope N ps (qc st))
  (a:∀ (cdv:iM) (f:Addr) (A:iV) (outer:List Env) (s:iP) (H:Hp) (E:XK),Room k (A.deeper (envOfC x (qc st) s.heap.objs.size f cdv)) ->PSs (cxk P w K mg base N x (qc st) f cdv A outer s H E) (jU st) (tSt (qbZ K cv E ms mr) (jV 0 ms) own' fb))
  (hl:ms.length=ps.length:=by rfl) (g:∀ i∈KN 0 ms,i∈own':=by exact kU rfl) (r:mr=.sh\/∀ ds ρ,(fb (qu N ds))≠.ok (.nx,ρ):=by exact .inl rfl):DefOk P w K mg base cv (k+1) x ps ms mr (ky N ms fb):=by
 obtain ⟨f,fd,F,h,d⟩:=T;exact ⟨f,fd,qgt F S hl g r (λcdv A outer s H E c=>a cdv f A outer s H E c) λ_=>.inr rfl,h,F.kp,d⟩
theorem qho {P:iR} {w:iS} {base:Heap} {cv:Str->iM} {k:Nat} {ms:List PM} {mr:Mo} {own':List Nat} {fb:Sl->Out (Fl×Sl)} (T:jC K mg x st ps) (S:FnScope N ps (qc st))
  (a:∀ (cdv:iM) (f:Addr) (A:iV) (outer:List Env) (s:iP) (H:Hp) (E:XK),RoomQ k (A.deeper (envOfC x (qc st) s.heap.objs.size f cdv)) ->PSs (cxQ (CXk P w) P w K mg base N x (qc st) f cdv A outer s H E) (jU st) (tSt (qbZ K cv E ms mr) (jV 0 ms) own' fb))
  (hl:ms.length=ps.length:=by rfl) (g:∀ i∈KN 0 ms,i∈own':=by exact kU rfl) (r:mr=.sh\/∀ ds ρ,(fb (qu N ds))≠.ok (.nx,ρ):=by exact .inl rfl):qhn P w K mg base cv (k+1) x ps ms mr (ky N ms fb):=by
 obtain ⟨f,fd,F,h,d⟩:=T;exact ⟨f,fd,qhm F S hl g r (λcdv A outer s H E c=>a cdv f A outer s H E c) λ_=>.inr rfl,h,F.kp,d⟩
variable {cv:Str->iM}
theorem DefOk.by {k:Nat} {a:List D->Out (D×List D)} (h:DefOk P w K mg base cv k x ps ms mr G) (e:∀ ds,Out.le (a ds) (G ds)):DefOk P w K mg base cv k x ps ms mr a:=by
 obtain ⟨f,fd,F,r⟩:=h;refine ⟨f,fd,F.imp λvs H Q E ⟨F1,ds,y,b,nd,po⟩=>⟨F1,ds,y,b,nd,?_⟩,r⟩;rcases e ds with z | z;·rw [z] at po; exact po.elim
 ·rw [<-z]; exact po
section
variable {fr:Sl->Out (List D×Sl)} {p:Pos} {k j:Nat}
theorem qr (F:DefOk X.prog X.w X.K X.mg X.base cv j x ps ms mr G) (c:Room k X.A) (D:j<=k) (hx:kB (CXk X.prog X.w) X C.E) (hg:Gl X x) (q:PA X (e::es) (tAr C own as fr)) (v:C.cv=cv:=by rfl) (m:C.K=X.K:=by rfl) (s:ms=as.map xz:=by rfl) (hs:∀ i∈qS as,i∈own:=by decide) (nd:(qS as).Nodup:=by decide) (d:frA as<=1:=by decide) (o:∀ i∈C.ox,i∈own:=by exact kU rfl)
  (b:(x == ("__debug__":Str))=false:=by decide) (g:starEach (e::es) X.env=(iN,eval e X.env)::starEach es X.env:=by exact jp rfl) (l:(backTo pos (starEach es X.env)).any (·.1)=false:=by exact wF rfl):PE X (.Call (.Name x p) (e::es) [] pos) (tE C own mr (qx as G fr)):=by
 subst v;obtain ⟨f,fd,F,h,a,n⟩:=F;rw [<-m] at F;exact qdb (by rw [<-m]; exact F) (c.mono D) hg h a n hx q s hs nd d o b g l
theorem ZJ (F:qhn X.prog X.w X.K X.mg X.base cv j x ps ms mr G) (c:RoomQ j X.A) (hx:kB (CXk X.prog X.w) X C.E) (hg:Gl X x) (n:PA X (e::es) (tAr C own as fr)) (v:C.cv=cv:=by rfl) (m:C.K=X.K:=by rfl) (s:ms=as.map xz:=by rfl) (hs:∀ i∈qS as,i∈own:=by decide) (nd:(qS as).Nodup:=by decide) (a:frA as<=1:=by decide) (o:∀ i∈C.ox,i∈own:=by exact kU rfl)
  (b:(x == ("__debug__":Str))=false:=by decide) (d:starEach (e::es) X.env=(iN,eval e X.env)::starEach es X.env:=by exact jp rfl) (l:(backTo pos (starEach es X.env)).any (·.1)=false:=by exact wF rfl):PE X (.Call (.Name x p) (e::es) [] pos) (tE C own mr (qx as G fr)):=by
 subst v;obtain ⟨f,fd,F,h,k,g⟩:=F;rw [<-m] at F;exact qaX (by rw [<-m]; exact F) c hg h k g hx n s hs nd a o b d l
noncomputable def qfo:D->Out D
 | .int i=>.ok (.int (-i))
 | _=>.bad
theorem qb3:UnD X C .sh (unaryOp .USub) qfo:=by
 intro pins s σ H x v Q I d h;obtain ⟨F,dx,y,t,po⟩:=h;cases dx <;> try exact po.elim
 obtain rfl:=t.int;exact qeO pins s σ H _ v Q I d ⟨_,rfl,po _ F H y .refl (.int _)⟩
end
noncomputable def yE:Option (Option D)->Bool
 | some (iJ (.lst _))=>iO
 | _=>iN
noncomputable def zz (i:Nat) (g:List D->D->Out (List D)) (fe:Sl->Out (D×Sl)):Sl->Out (D×Sl):=λρ=>if yE ρ[i]?=iO then (fe ρ).bind λp=>match p.2[i]? with
 | some (iJ (.lst xs))=>match g xs p.1 with
  | .ok ys=>.ok (.non,p.2.set i (iJ (.lst ys)))
  | _=>.bad
 | _=>.bad
 else .bad
noncomputable def QT (xs:List D) (d:D):Out (List D):=if xs.length < sizeLine then .ok (xs++[d]) else .bad
noncomputable def qao (xs:List D):D->Out (List D)
 | .lst ys=>if xs.length+ys.length<=sizeLine then .ok (xs++ys) else .bad
 | .tup ys=>if xs.length+ys.length<=sizeLine then .ok (xs++ys) else .bad
 | _=>.bad
section
theorem Rep.write (r:Rep K own F H σ ρ) (hi:i∈own) (g:σ[i]?=iJ (iJ (V.ref a))) (ow:OwnIs K F (upd H a u) a d):Rep K own F (upd H a u) σ (ρ.set i (iJ d))/\Chg (OA own σ) F H F (upd H a u):=by
 obtain ⟨w,h⟩:=r.opn i hi;obtain ⟨f,e1,E,c⟩:=r.ow i w hi h;rw [g] at e1; cases e1;have hl:i < ρ.length:=(aH.mp h).1;refine ⟨⟨λb o e=>by rw [qw (qE e E)]; exact r.sub b o e,by simp [r.len],λj d' D e=>?_,λj d' D e=>?_,λj D=>?_,r.dis⟩,⟨λb o e n=>?_,λb e=>?_,Same.refl _,λb e=>.inl e⟩⟩;·rw [ai (λz=>D (by rw [<-z]; exact hi))] at e;exact r.val j d' D e
 ·by_cases q:j=i;·subst q;rw [aD hl] at e;cases e;exact ⟨a,g,E,ow⟩
  ·rw [ai (aZ q)] at e;obtain ⟨b,h1,h2,h3⟩:=r.ow j d' D e;have y:b≠a:=λz=>by subst z; exact q (r.dis j i b D hi h1 g)
   exact ⟨b,h1,h2,h3.grow (Same.refl _) λo z=>by rw [qw y]; exact z⟩
 ·by_cases q:j=i;·subst q; exact ⟨d,aD hl⟩
  ·rw [ai (aZ q)]; exact r.opn j D
 ·have y:b≠a:=λz=>n (by rw [z]; exact ⟨i,hi,g⟩);rw [qw y]; exact e
 ·by_cases q:b=a;·rw [q,qo]; simp
  ·rw [qw q]; exact e
theorem UA {o:Option (Option D)} (h:yE o=iO):∃ xs,o=iJ (iJ (.lst xs)):=by
 unfold yE at h;split at h;·exact ⟨_,rfl⟩
 ·cases h
theorem UB {g:List D->D->Out (List D)} {R:V->V->Hp->VK->Prop} {σ:St} {H:Hp} {Q:VK} (j:i∈own) (s:m≠.any)
  (k:∀ (a:Addr) (xs:List V) (ds ys:List D) (v:V) (d:D) (F H:Hp),Same F H->H a=iJ (.lst xs)->F a=iL->IsL C.K F xs ds->Is C.K F v d->g ds d=.ok ys->(∀ zs,IsL C.K F zs ys->Q .non (upd H a (.lst zs)))->R (.ref a) v H Q)
  (h:tE C own .sh (zz i g fe) σ H Q):∃ a xs,σ[i]?=iJ (iJ (V.ref a))/\H a=iJ (.lst xs)/\tE C own .sh fe σ H λv H1=>R (.ref a) v H1 Q:=by
 obtain ⟨F,ρ,p,h⟩:=h;unfold zz at h;by_cases q:yE ρ[i]?=iO
 ·rw [if_pos q] at h;obtain ⟨ds,hd⟩:=UA q;obtain ⟨a,h1,h2,xs,h3,t⟩:=p.ow i _ j hd;refine ⟨a,xs,h1,h3,F,ρ,p,Po.bind h λv F1 H1 d ρ1 r w f po=>?_⟩;cases b:ρ1[i]? with
  | none=>simp only [b] at po; exact po.elim
  | some o=>
   cases o with
   | none=>simp only [b] at po; exact po.elim
   | some dd=>
    simp only [b] at po;cases dd with
    | lst es=>
     simp only at po;cases e:g es d with
     | ok ys=>simp only [e] at po;obtain ⟨x,e1,n,vs,E,l⟩:=r.ow i _ j b;rw [h1] at e1; cases e1;refine k a vs es ys v d F1 H1 r.sub E n l f e λzs z=>?_;obtain ⟨r2,c2⟩:=r.write (u:=.lst zs) (d:=.lst ys) j h1 ⟨zs,qo,z⟩;exact po .non F1 _ r2 c2 .non
     | exc c o=>simp only [e] at po; exact po.elim
     | bad=>simp only [e] at po; exact po.elim
    | _=>exact po.elim
 ·rw [if_neg q] at h; exact h.elim
theorem uy {px apos cpos:Pos} (s:C.K=X.K) (q:X.N[i]?=iJ x) (l:Vis X.env.scope x) (o:i∈own) (n:PE X e (tE C own m fe)) (j:m≠.any:=by decide)
  (hd:(x == ("__debug__":Str))=false:=by decide) (f:(x == ("__classdict__":Str))=false:=by decide)
  (c:attributeBase (.Name x px) "append" X.env (eval (.Name x px) X.env)=eval (.Name x px) X.env:=by rfl)
  (w:((backTo cpos (starEach [e] X.env)).all (λx=>!x.1)&&(backToKw cpos (keywordEach [] X.env)).all (λx=>x.1.isSome)
   && decide ([e].length+([]:List k6).length+(if ([]:List k6).isEmpty then 0 else 1) < 30))=true:=by exact wG rfl)
  (b:(apos.endLine == cpos.line)=true:=by rfl) (hs:starEach [e] X.env=[(iN,eval e X.env)]:=by exact qI rfl) :
  PE X (.Call (.Attribute (.Name x px) "append" apos) [e] [] cpos) (tE C own .sh (zz i QT fe)):=by
 refine jF (YM cz PySem.F.slot_list_append PySem.F.type_list_append Kz (um q l hd f) (qK (yQ n j) jI hs) c w b hs rfl) λσ H Q h=>?_;have p:∀ (a:Addr) (xs:List V) (ds ys:List D) (v:V) (d:D) (F H:Hp),Same F H->H a=iJ (.lst xs)->F a=iL->IsL C.K F xs ds->Is C.K F v d->QT ds d=.ok ys->(∀ zs,IsL C.K F zs ys->Q .non (upd H a (.lst zs)))->VW (.ref a) [v] H Q:=λa xs ds ys v d F H y r u ix t g k=>by
  unfold QT at g;split at g;·cases g;exact ⟨a,xs,v,rfl,rfl,r,by rw [ix.length]; assumption,k _ (ix.append (.cons t .nil))⟩
  ·cases g
 obtain ⟨a,xs,h1,h2,k⟩:=UB (R:=λx v H Q=>VW x [v] H Q) o j p h;exact ⟨.ref a,h1,.inl ⟨rfl,xs,.inl (.inl h2)⟩,k⟩
theorem gj {px apos cpos:Pos} (E:X.N[i]?=iJ x) (t:Vis X.env.scope x) (j:i∈own) (y:PE X e (tE C own .fr fe))
  (hd:(x == ("__debug__":Str))=false:=by decide) (k:(x == ("__classdict__":Str))=false:=by decide)
  (f:attributeBase (.Name x px) "extend" X.env (eval (.Name x px) X.env)=eval (.Name x px) X.env:=by rfl)
  (w:((backTo cpos (starEach [e] X.env)).all (λx=>!x.1)&&(backToKw cpos (keywordEach [] X.env)).all (λx=>x.1.isSome)
   && decide ([e].length+([]:List k6).length+(if ([]:List k6).isEmpty then 0 else 1) < 30))=true:=by exact wG rfl)
  (c:(apos.endLine == cpos.line)=true:=by rfl) (hs:starEach [e] X.env=[(iN,eval e X.env)]:=by exact qI rfl) :
  PE X (.Call (.Attribute (.Name x px) "extend" apos) [e] [] cpos) (tE C own .sh (zz i qao fe)):=by
 refine jF (YM cz PySem.F.slot_list_extend PySem.F.type_list_extend XX (um E t hd k) (qK y jI hs) f w c hs rfl) λσ H Q ⟨F,ρ,p,h⟩=>?_;unfold zz at h;by_cases q:yE ρ[i]?=iO
 ·rw [if_pos q] at h;obtain ⟨ds,hd⟩:=UA q;obtain ⟨a,h1,h2,xs,h3,I⟩:=p.ow i _ j hd;refine ⟨.ref a,h1,.inl ⟨rfl,xs,.inl (.inl h3)⟩,F,ρ,p,Po.bind h λv F1 H1 d ρ1 r K m po=>?_⟩;obtain ⟨b,rfl,B,A,l⟩:=m;cases g:ρ1[i]? with
  | none=>simp only [g] at po; exact po.elim
  | some o=>
   cases o with
   | none=>simp only [g] at po; exact po.elim
   | some dd=>
    simp only [g] at po;cases dd with
    | lst es=>
     simp only at po;obtain ⟨L,e1,J,vs,G,s⟩:=r.ow i _ j g;rw [h1] at e1; cases e1;cases d with
     | lst ys=>
      obtain ⟨zs,hz,n⟩:=l;have po:Po C own .sh σ F1 H1 (match (if es.length+ys.length<=sizeLine then .ok (es++ys) else .bad:Out (List D)) with | .ok ys=>.ok (.non,ρ1.set i (iJ (.lst ys))) | _=>.bad) Q:=po;by_cases z:es.length+ys.length<=sizeLine;·rw [if_pos z] at po;refine ⟨a,b,vs,zs,rfl,rfl,G,hz,by rw [s.length,n.length]; exact z,?_⟩;obtain ⟨r2,c2⟩:=r.write (u:=.lst (vs++zs)) (d:=.lst (es++ys)) j h1 ⟨_,qo,s.append n⟩;exact po .non F1 _ r2 c2 .non
      ·rw [if_neg z] at po; exact po.elim
     | dct ys=>exact po.elim
     | ins _ _=>exact po.elim
     | at_ _ _=>exact po.elim
     | _=>exact l.elim
    | _=>exact po.elim
 ·rw [if_neg q] at h; exact h.elim
end
noncomputable def scB (names:List (Str×lu)) (scope:lB):Bool:=decide (scope.kind=.function)&&scope.names.all λy=>decide (y.2≠.cell)&&(!decide (y.2=.local)||decide (scope.names.lookup y.1=iJ .local)) &&
 (!decide (y.2=.free)||((decide (names.lookup y.1=iJ .cell)||decide (names.lookup y.1=iJ .free))&&decide (scope.names.lookup y.1=iJ .free)))
variable {names:List (Str×lu)}
theorem wb (h:X.env.scope.names=names) (b:scB names scope=iO):ScOk X scope:=by
 subst h;unfold scB at b;rw [aP,aO] at b;obtain ⟨a,A⟩:=b;refine ⟨of_decide_eq_true a,λy k=>?_,λy k e=>?_,λy k e=>?_,λy k e=>?_⟩;all_goals
  have q:=A y k;simp only [aP,h7,eJ,decide_eq_true_eq,decide_eq_false_iff_not] at q
 ·exact q.1.1
 ·exact q.1.2.resolve_left λz=>z e
 ·exact (q.2.resolve_left λz=>z e).1
 ·exact (q.2.resolve_left λz=>z e).2
noncomputable def qia (names:List (Str×lu)) (N:List Str) (scope:lB) (c:List Str) (nt:Nat) (cap:List Nat):Bool:=decide cap.Nodup&&decide (c.length=nt+cap.length)&&(aN cap.length).all λj=>match cap[j]? with
 | some k=>match c[nt+j]? with
  | some x=>decide (N[k]?=iJ x)&&(((decide (names.lookup x=iJ .local)||decide (names.lookup x=iJ .cell)||decide (names.lookup x=iJ .free))&&decide ((x,bz)∈scope.names))||scope.names.all λy=>decide (y.1≠x))
  | none=>iN
 | none=>iN
theorem jS {c:List Str} (a:X.env.scope.names=names) (d:X.N=N) (b:qia names N scope c nt cap=iO):CapOk X scope c nt cap:=by
 subst a d;unfold qia at b;rw [aP,aP,aO] at b;obtain ⟨⟨g,A⟩,f⟩:=b;refine ⟨of_decide_eq_true g,of_decide_eq_true A,λj k D=>?_⟩;have q:=f j (be.mpr (aH.mp D).1);rw [D] at q;cases e:c[nt+j]? with
 | none=>simp only [e] at q; cases q
 | some x=>
  simp only [e,aP,h7,decide_eq_true_eq] at q;refine ⟨x,rfl,q.1,?_⟩;rcases q.2 with ⟨z,q2⟩ | z
  ·refine .inl ⟨?_,q2⟩;rcases z with (z | z) | z;·exact .inl z
   ·exact .inr (.inl z)
   ·exact .inr (.inr z)
  ·refine .inr λk' h=>?_;rw [aO] at z;exact of_decide_eq_true (z (x,k') h) rfl
theorem xH:kB (CXk P w) X (λ_ _ _=>False):=λ_ _ _ _ _ _ _ h=>by obtain ⟨_,_,_,_,_,_,_,_,_,_,_,_,_,_,k⟩:=h;exact k.elim
noncomputable def qhp (f:Sl->Out (D×Sl)):Sl->Out (D×Sl):=λρ=>(jb f ρ).bind λp=>.ok (.bl (!p.1),p.2)
section
variable {i:Int}
theorem uW (h:∃ t,X.mg x=iJ (.int i t)) (hg:Gl X x) (hd:(x == ("__debug__":Str))=false:=by decide):PE X (.Name x pos) (tE C own .sh (dC (.int i))):=by obtain ⟨t,h⟩:=h;exact qc1 (v:=.int i) hg h ⟨t,rfl⟩ (λ_=>.int i) hd
end
section
variable {a b:Expr} {fb:Sl->Out (D×Sl)}
noncomputable def gk:D->Out D
 | .lst xs=>.ok (.tup xs)
 | .tup xs=>.ok (.tup xs)
 | _=>.bad
noncomputable def qdm:D->Out D
 | .lst xs=>.ok (.lst xs)
 | .tup xs=>.ok (.lst xs)
 | _=>.bad
theorem Jq (m:C.K=X.K):Qv X C .sh (.type "tuple") gk:=by
 intro pins s σ H xs us Q I r h;obtain ⟨x,F,dx,rfl,y,a,po⟩:=h;cases dx with
 | lst ds=>obtain ⟨p,vs,rfl,hq,t⟩:=a.lst y;refine yP pins s σ H _ us Q I r ⟨p,vs,rfl,.inl ⟨by rw [<-m]; exact hq,λl hl=>?_⟩⟩;obtain ⟨s2,c2⟩:=yB (u:=.tup vs) y hl;exact po _ _ _ s2 c2 (.tup (.inl (.inl qo)) (t.mono c2.grow))
 | tup ds=>
  rcases a with a | ⟨_,_,a⟩
  ·have b:=a;cases a with
   | tup hq t=>exact yP pins s σ H _ us Q I r ⟨_,_,rfl,.inr ⟨by rw [<-m]; exact qR y hq,po _ F H y .refl b⟩⟩
  ·exact a.elim
 | _=>exact po.elim
theorem qdn (m:C.K=X.K):Qv X C .fr (.type "list") qdm:=by
 intro pins s σ H xs us Q I r h;obtain ⟨x,F,dx,rfl,y,a,po⟩:=h;cases dx with
 | lst ds=>obtain ⟨p,vs,rfl,hq,t⟩:=a.lst y;refine zc pins s σ H _ us Q I r ⟨p,vs,rfl,.inl (by rw [<-m]; exact hq),λl hl=>?_⟩;obtain ⟨s2,c2,E⟩:=vt (u:=.lst vs) y hl;exact po _ _ _ s2 c2 ⟨l,rfl,hl,E,vs,qo,t⟩
 | tup ds=>obtain ⟨p,vs,rfl,hq,t⟩:=a.tup y;refine zc pins s σ H _ us Q I r ⟨p,vs,rfl,.inr (by rw [<-m]; exact hq),λl hl=>?_⟩;obtain ⟨s2,c2,E⟩:=vt (u:=.lst vs) y hl;exact po _ _ _ s2 c2 ⟨l,rfl,hl,E,vs,qo,t⟩
 | _=>exact po.elim
def ZK (X:Cx) (C:Ct) (m:Mo) (f:iM) (g:D->D->Out D):Prop:=uo X f (λxs H Q=>∃ x y F dx d,xs=[x,y]/\Same F H/\TopIs C.K F H x dx/\TopIs C.K F H y d/\PoV C m F H (g dx d) Q)
theorem UC {Q:VK} (k:ma≠.any) (h:tE C own m (d2 g fa fb) σ H Q):YL (tE C own ma fa) (YL (tE C own mb fb) qeT) σ H λxs H1=>∃ x y F dx a,xs=[x,y]/\Same F H1/\TopIs C.K F H1 x dx/\TopIs C.K F H1 y a/\PoV C m F H1 (g dx a) Q:=by
 obtain ⟨F,ρ,n,h⟩:=KC (mb:=mb) k h;refine ⟨F,ρ,n,?_⟩;cases q:fa ρ with
 | ok p=>
  rw [q] at h;obtain ⟨d,ρ1⟩:=p;intro v F1 H1 e o j;obtain ⟨u,ρ2,b,h2⟩:=h v F1 H1 e o j;refine ⟨u,ρ2,b,?_⟩;cases f:fb ρ2 with
  | ok p=>rw [f] at h2;obtain ⟨d',l⟩:=p;intro w t s r G i;obtain ⟨J,dx,a,z⟩:=h2 w t s r G i;exact ⟨v,w,J,dx,a,rfl,z⟩
  | exc c=>rw [f] at h2; exact h2
  | bad=>rw [f] at h2; exact h2.elim
 | exc c=>rw [q] at h; exact h
 | bad=>rw [q] at h; exact h.elim
theorem KY {id:String} {p:Pos} (e:ZK X C m (.builtin id) g) (hg:Gl X x) (d:X.mg x=iL) (v:bootBuiltins x=iJ (.builtin id)) (j:PE X a (tE C own ma fa)) (i:PE X b (tE C own mb fb)) (f:ma≠.any:=by decide) (n:x ≠ "__name__":=by decide) (c:(x == ("__debug__":Str))=false:=by decide)
  (h1:starEach [a,b] X.env=(iN,eval a X.env)::starEach [b] X.env:=by rfl) (h2:starEach [b] X.env=[(iN,eval b X.env)]:=by exact qI rfl):PE X (.Call (.Name x p) [a,b] [] pos) (tE C own m (d2 g fa fb)):=
 jF (wC e hg d v (qK j (qK i jI h2) h1) n c (by rw [h1]) (by rw [h2]; rfl)) λ_ _ _ h=>UC f h
noncomputable def qgw:D->D->Out D:=KG λi j=>.ok (.int (if j > i then j else i))
noncomputable def qgx:D->D->Out D:=KG λi j=>.ok (.int (if j < i then j else i))
theorem qfp (d:X.calm=iO):ZK X C .sh (.builtin "max") qgw:=by
 intro pins s σ H xs us Q I r h;obtain ⟨x,y,F,dx,a,rfl,b,t,ty,po⟩:=h;cases dx <;> try exact po.elim
 cases a <;> try exact po.elim
 obtain rfl:=t.int;obtain rfl:=ty.int;exact XQ d pins s σ H _ us Q I r ⟨_,_,rfl,po _ F H b .refl (.int _)⟩
theorem qfq (d:X.calm=iO):ZK X C .sh (.builtin "min") qgx:=by
 intro pins s σ H xs us Q I r h;obtain ⟨x,y,F,dx,a,rfl,b,t,ty,po⟩:=h;cases dx <;> try exact po.elim
 cases a <;> try exact po.elim
 obtain rfl:=t.int;obtain rfl:=ty.int;exact XR d pins s σ H _ us Q I r ⟨_,_,rfl,po _ F H b .refl (.int _)⟩
noncomputable def kE (a T:String):Option Bool:=if (df a == df T)=iO then iJ iO else if PySem.W.kitMeta T=iO then (fastBuiltinMro a).map (·.contains (.type T)) else iL
theorem qaY (K:Frag) (a T:String):bZ K (.type a) (.type T)=kE a T:=rfl
noncomputable def tyN:D->Option String
 | .non=>iJ "NoneType"
 | .bl _=>iJ "bool"
 | .int _=>iJ "int"
 | .str _=>iJ "str"
 | .tup _=>iJ "tuple"
 | .lst _=>iJ "list"
 | .dct _=>iJ "dict"
 | _=>iL
noncomputable def xA (T:String) (d:D):Out D:=match tyN d with
 | some a=>match kE a T with
  | some b=>.ok (.bl b)
  | none=>.bad
 | none=>.bad
theorem qaZ (m:C.K=X.K):uo X (.builtin "isinstance") (λxs H Q=>∃ x F d,xs=[x,.ty T]/\Same F H/\TopIs C.K F H x d/\PoV C .sh F H (xA T d) Q):=by
 intro pins s σ H xs us Q I r h;obtain ⟨x,F,d,rfl,g,f,po⟩:=h;obtain ⟨u,c,rfl,A,j⟩:=XO r;cases j;cases q:tyN d with
 | none=>unfold xA at po; rw [q] at po; exact po.elim
 | some a=>
  cases i:kE a T with
  | none=>unfold xA at po; rw [q] at po; simp only [i] at po; exact po.elim
  | some b=>
   have po:PoV C .sh F H (.ok (.bl b)) Q:=by unfold xA at po; rw [q] at po; simp only [i] at po; exact po
   have fin:∀ tk,EP X pins σ Q (.bool b) { s with toks:=tk }:=λtk=>⟨.bl b,H,I.tok tk,rfl,po _ F H g .refl (.bl b)⟩
   have e:bZ X.K (.type a) (.type T)=iJ b:=(qaY X.K a T).trans i;cases d with
   | non=>obtain rfl:=f.non; cases A; cases q; exact cP PySem.W.kitx_none I.kIn dg e (λz=>nomatch z) fin
   | bl y=>obtain rfl:=f.bl; cases A; cases q; exact cP PySem.W.kitx_bool I.kIn dg e (λz=>nomatch z) fin
   | int y=>obtain rfl:=f.int; obtain ⟨t,rfl⟩:=A; cases q; exact cP PySem.W.kitx_int I.kIn dg e (λz=>nomatch z) fin
   | str y=>obtain ⟨rfl,_⟩:=f.str; obtain ⟨t,rfl⟩:=A; cases q; exact cP PySem.W.kitx_str I.kIn dg e (λz=>nomatch z) fin
   | tup y=>obtain ⟨p,vs,rfl,hq,t⟩:=f.tup g;cases A; cases q;obtain ⟨its,_,⟨o,h1,h2,_⟩,_⟩:=I.tuple (show SqT X.K H p vs by rw [<-m]; exact hq);exact cP PySem.W.kitx_tuple I.kIn ⟨o,h1,h2⟩ e (λz=>nomatch z) fin
   | lst y=>obtain ⟨p,vs,rfl,hq,t⟩:=f.lst g;cases A; cases q;obtain ⟨its,_,⟨o,n,h1,h2,_⟩,_⟩:=I.list (show SqL X.K H p vs by rw [<-m]; exact hq);exact cP PySem.W.kitx_list I.kIn ⟨o,h1,h2⟩ e (λz=>nomatch z) fin
   | dct y=>
    obtain ⟨p,vs,rfl,hq,t⟩:=f.dct g;cases A; cases q;obtain ⟨_,_,ws,_,o,es,ep,h1,h2,_⟩:=(show ObjOk X.prog X.w H s.heap p (.dK vs) from I.hok p _ hq)
    exact cP PySem.W.kitx_dict I.kIn ⟨o,h1,h2.1⟩ e (λz=>nomatch z) fin
   | _=>cases q
theorem yZ {tn:Str} {p t:Pos} (o:C.K=X.K) (hg:Gl X "isinstance") (j:X.mg "isinstance"=iL) (i:bootBuiltins "isinstance"=iJ (.builtin "isinstance")) (l:Gl X tn) (e:X.mg tn=iL) (b:bootBuiltins tn=iJ (.type T)) (k:PE X a (tE C own ma fa)) (n:tn ≠ "__name__":=by decide) (f:(tn == ("__debug__":Str))=false:=by decide)
  (h1:starEach [a,.Name tn t] X.env=(iN,eval a X.env)::starEach [.Name tn t] X.env:=by rfl) (h2:starEach [.Name tn t] X.env=[(iN,eval (.Name tn t) X.env)]:=by rfl):PE X (.Call (.Name "isinstance" p) [a,.Name tn t] [] pos) (tE C own .sh (d1 (xA T) fa)):=by
 refine jF (wC (qaZ (T:=T) o) hg j i (qK k (qK (XE (v:=.ty T) l e b rfl n f) jI h2) h1) (by decide) (by decide) (by rw [h1]) (by rw [h2]; rfl)) λσ H Q h=>?_;obtain ⟨F,ρ,g,h⟩:=Jk (ma:=ma) h;refine ⟨F,ρ,g,?_⟩;cases q:fa ρ with
 | ok p=>rw [q] at h;obtain ⟨d,ρ1⟩:=p;intro v F1 H1 r s m;obtain ⟨u,dx,z⟩:=h v F1 H1 r s m;exact ⟨v,u,dx,rfl,z⟩
 | exc c=>rw [q] at h; exact h
 | bad=>rw [q] at h; exact h.elim
noncomputable def vA:List D->Option (List Bool)
 | []=>iJ []
 | .bl b::ds=>(vA ds).map (b::·)
 | _::_=>iL
noncomputable def UD:D->Out D
 | .lst ds=>match vA ds with
  | some bs=>.ok (.bl (bs.all id))
  | none=>.bad
 | _=>.bad
theorem zM:∀ {vs:List V} {us:List iM} {ds:List D} {bs:List Bool},IsL K F vs ds->Vals vs us->vA ds=iJ bs->us=bs.map bb
 | _,_,_,_,.nil,.nil,e=>by cases e; rfl
 | _,_,_,_,.cons (d:=d) h t,.cons r rs,e=>by
  cases d with
  | bl b=>unfold vA at e;obtain ⟨a,e1,i⟩:=aV.mp e;subst i;cases h;cases r;rw [zM t rs e1]; rfl
  | _=>cases e
theorem gl (m:C.K=X.K) (j:X.calm=iO):Qv X C .sh (.builtin "all") UD:=by
 intro pins s σ H xs us Q I r h;obtain ⟨x,F,dx,rfl,y,d,po⟩:=h;cases dx <;> try exact po.elim
 rename_i ds;obtain ⟨p,vs,rfl,hq,t⟩:=d.lst y;obtain ⟨u,rfl,g⟩:=yO r;cases g;unfold UD at po;cases q:vA ds with
 | none=>simp only [q] at po; exact po.elim
 | some bs=>
  simp only [q] at po;obtain ⟨its,f,pl,hz⟩:=I.list (show SqL X.K H p vs by rw [<-m]; exact hq);have eb:=zM t f q;subst eb;have hp:p < s.heap.objs.size:=let ⟨o,h1,_⟩:=pl.isList; ap h1;refine call_all_walk (lC pl.isList ?_);have W:Walks X.prog X.w X.A.in1 s.heap.objs.size [s.heap.objs.size,p] [s.heap.objs.size] (bs.map bb).toArray.size (λi v=>(bs.map bb).toArray[i]?=iJ v) (λi h=>h.IsListIter s.heap.objs.size p i/\h.IsList p (bs.map bb).toArray):=iH (A:=X.A.in1) (show X.A.in1.handled=iL from I.ok.hd j) s.heap.objs.size p (aG hp) _;have st:(s.heap.push { cls:=.type "list_iterator",data:=.fields #[.ref p,.int 0 0] }).IsListIter s.heap.objs.size p 0/\(s.heap.push { cls:=.type "list_iterator",data:=.fields #[.ref p,.int 0 0] }).IsList p (bs.map bb).toArray:=⟨⟨_,ah _ rfl,rfl,rfl⟩,let ⟨o,h1,h2⟩:=pl.isList; ⟨o,aa _ h1,h2⟩⟩
  refine ⟨_,_,_,_,_,_,λi=>(bs[i]?).getD iN,rfl,W,st,λi v s' n E l c=>?_,λh' tk kp=>?_⟩
  ·have l:(bs.map bb).toArray[i]?=iJ v:=l;rw [ff,aK] at l;cases B:bs[i]? with
   | none=>rw [B] at l; cases l
   | some b=>have a:n ((bs[i]?).getD iN) s':=c;rw [B] at l a;cases l;exact k8 a
  ·have e:(aN (bs.map bb).toArray.size).all (λi=>(bs[i]?).getD iN)=bs.all id:=by
    rw [au,am,Bool.eq_iff_iff,aO,aO];constructor;·intro h b k;obtain ⟨i,hi,e⟩:=dN.mp k;have:=h i (be.mpr hi);rw [aE hi,e] at this;exact this
    ·intro h i hi;have hi:=be.mp hi;rw [aE hi];exact h _ (cr hi)
   rw [e];refine ⟨.bl (bs.all id),H,?_,rfl,po _ F H y .refl (.bl _)⟩;have k2:∀ b o,s.heap.get? b=iJ o->h'.get? b=iJ o:=λb o eb=>kp b o (by simp; exact aG (ap eb)) (aa _ eb);exact I.kept (t':=tk) k2
end
def PoO (C:Ct) (own:List Nat) (σ:St) (F H:Hp) (r:Out (Option Int×Sl)) (Q:Option Int->Hp->Prop):Prop:=match r with
 | .ok (b,ρ')=>∀ F' H',Rep C.K own F' H' σ ρ'->Chg (OA own σ) F H F' H'->Q b H'
 | .exc c ρ'=>∀ F' H',Same F' H'->Xx C.K C.ox F' H' σ ρ'->Chg (OA own σ) F H F' H'->C.E (C.cv c) iL H'
 | .bad=>False
def tO (C:Ct) (own:List Nat) (f:Sl->Out (Option Int×Sl)):TO:=λσ H Q=>∃ F ρ,Rep C.K own F H σ ρ/\PoO C own σ F H (f ρ) Q
noncomputable def Jr:Option (Sl->Out (D×Sl))->Sl->Out (Option Int×Sl)
 | none,ρ=>.ok (iL,ρ)
 | some f,ρ=>(f ρ).bind λp=>match p.1 with
  | .int i=>.ok (iJ i,p.2)
  | _=>.bad
theorem Po.bindO {o:Out (Option Int×Sl)} {k:Option Int×Sl->Out (D×Sl)} {Q:VK} {R:Option Int->Hp->Prop} (hp:Po C own m σ F H (o.bind k) Q)
  (h:∀ F1 H1 b ρ1,Rep C.K own F1 H1 σ ρ1->Chg (OA own σ) F H F1 H1->Po C own m σ F1 H1 (k (b,ρ1)) Q->R b H1):PoO C own σ F H o R:=by
 cases o with
 | ok p=>obtain ⟨d,ρ1⟩:=p;exact λF1 H1 a c=>h F1 H1 d ρ1 a c (Po.shift (show Po C own m σ F H (k (d,ρ1)) Q from hp) c)
 | exc x=>exact hp
 | bad=>exact hp.elim
section
variable {a:Expr} {p2:Pos}
theorem UE:PO X iL (tO C own (Jr iL)):=by intro pins s σ H Q I ⟨F,ρ,a,h⟩;exact qcR pins s σ H Q I (h F H a .refl)
theorem UF (h:PE X e (tE C own m f)):PO X (iJ e) (tO C own (Jr (iJ f))):=by
 intro pins s σ H Q I ⟨F,ρ,r,hp⟩;refine qcS h pins s σ H Q I ⟨F,ρ,r,?_⟩;have hp:PoO C own σ F H ((f ρ).bind λp=>match p.1 with | .int i=>.ok (iJ i,p.2) | _=>.bad) Q:=hp;cases q:f ρ with
 | ok p=>
  rw [q] at hp;obtain ⟨d,ρ1⟩:=p;cases d with
  | int i=>exact λv F1 H1 a k b=>⟨i,b.top.int,hp F1 H1 a k⟩
  | _=>exact hp.elim
 | exc c=>rw [q] at hp; exact hp
 | bad=>rw [q] at hp; exact hp.elim
end
noncomputable def Its (x:Str):It:=⟨λi _=>i < x.cps.size,λi H v H'=>H'=H/\∃ c,x.cps[i]?=iJ c/\v=.str ⟨#[c]⟩,λi _=>x.cps.size<=i⟩
noncomputable def KZ (x:Str):List D:=x.cps.toList.map λc=>.str ⟨#[c]⟩
theorem UG {P:iR} {w:iS} {K:Frag} {tg:Expr} (it:Addr) (x:Str) (t:Tok) (ty:String) (y:["enumerate", "zip", "dict_itemiterator", "dict_reverseitemiterator", "odict_iterator", "itertools.zip_longest", "itertools.pairwise"].contains ty=iN)
  (W:∀ A:iV,A.handled=iL->Walks P w A it [it] [it] x.cps.size (SignAt x) (λi h=>h.IsStrIter it ty x t i)) (p:∀ (A:iV) (i:Nat) (s:iP) (Q:iM->iP->Prop) (E:iM->iP->Prop),s.heap.IsStrIter it ty x t i->Q (.ref it) s->wpAny (model P w) A (pyIter (.ref it)) Q E s) :
  Turn P w K tg (Its x) [it] it (λi h=>h.IsStrIter it ty x t i/\i<=x.cps.size) where
 mem:=by simp
 obj:=λi h st b a=>by
  have e:b=it:=by simpa using a
  subst e;obtain ⟨o,e,c,d⟩:=st.1;exact ⟨o,e,λv z=>by rw [d] at z; cases z⟩
 keep:=λi h h' st k=>by obtain ⟨⟨o,e,r⟩,hi⟩:=st;exact ⟨⟨o,k it (by simp) o e,r⟩,hi⟩
 item:=by
  intro X l hw m j i pins s σ H E I f st hg;subst l hw m;obtain ⟨f0,f1,f2,q,f4,n⟩:=f it (by simp);refine (W X.A (I.ok.hd j)).item i s _ _ hg st.1 λv h' tk l g kp=>?_;have B:Inv X pins σ H { s with heap:=h',toks:=tk }:=I.turned (t':=tk) (λb o a e=>kp b o (by simpa using a) e) f0 f1 q f4 n;obtain ⟨o,e,c,d⟩:=id g;obtain ⟨S,u,h1,h2⟩:∃ S u,x.cps[i]?=iJ S/\v=dw ⟨#[S]⟩ u:=by
   unfold SignAt at l;first
    | exact l
    | (obtain ⟨S,u,h1,h2⟩:=l; exact ⟨S,u,h1,h2⟩)
    | (obtain ⟨S,h1,u,h2⟩:=l; exact ⟨S,u,h1,h2⟩)
    | (obtain ⟨u,S,h1,h2⟩:=l; exact ⟨S,u,h1,h2⟩)
  subst h2;exact ⟨_,rfl,qaw (s:={ s with heap:=h',toks:=tk }) e c d y ⟨.str ⟨#[S]⟩,H,B,⟨u,rfl⟩,⟨rfl,S,h1,rfl⟩,⟨g,hg⟩,λb a=>(f b a).1⟩⟩
 done:=by intro X l hw m j i pins s σ H E I f st hg;subst l hw m;obtain ⟨f0,f1,f2,q,f4,n⟩:=f it (by simp);have hi:i=x.cps.size:=Nat.le_antisymm st.2 hg;subst hi;exact (W X.A (I.ok.hd j)).done s _ _ st.1 λh' tk kp=>⟨rfl,I.turned (t':=tk) (λb o a e=>kp b o (by simpa using a) e) f0 f1 q f4 n⟩
 self:=λA i s Q E st h=>p A i s Q E st.1 h
theorem qfr:ItIs K F (Its x) (KZ x) where
 go:=λi H hi _=>by
  have:i < x.cps.size:=by simpa [KZ] using hi
  exact this
 yld:=λi Fi H v H' d e s1 s2 y=>by
  obtain ⟨rfl,c,h1,rfl⟩:=y;have e:d=.str ⟨#[c]⟩:=by
   unfold KZ at e;rw [aK] at e;have h1:x.cps.toList[i]?=iJ c:=by simpa using h1
   rw [h1] at e;exact (ba.inj e).symm
  subst e;exact ⟨Fi,.refl,s2,.str (Uv c)⟩
 stop:=λi H hi _=>by
  have:x.cps.size<=i:=by simpa [KZ] using hi
  exact this
noncomputable def jJ:D->Out (List D)
 | .lst xs=>.ok xs
 | .tup xs=>.ok xs
 | .str x=>.ok (KZ x)
 | _=>.bad
noncomputable def jK (f:Sl->Out (D×Sl)):Sl->Out (List D×Sl):=λρ=>(f ρ).bind λp=>(jJ p.1).bind λds=>.ok (ds,p.2)
section
theorem qfs {l:Expr} {tl:TE} (hl:PE X l tl):PI X tg l (λσ H R=>tl σ H λx H1=>(∃ a,x=.ref a/\(((∃ xs,SqL X.K H1 a xs)/\R (Itl X.K a) H1)\/((∃ xs,SqT X.K H1 a xs)/\R (Itt X.K a) H1)))\/∃ z,x=.str z/\R (Its z) H1):=by
 refine ⟨?_⟩;intro pins s σ H R I h;refine thn (hl pins s σ H _ I h) λv s1 ⟨x,H1,d,r1,c⟩=>?_;have fp:∀ b∈[s1.heap.objs.size],VO X pins H1 b:=λb f=>by
  have e:b=s1.heap.objs.size:=by simpa using f
  subst e;exact d.fpOk (ax _) (d.hok.fresh (ax _))
 rcases c with ⟨a,rfl,q⟩ | ⟨z,rfl,q⟩
 ·cases r1;rcases q with ⟨⟨xs,hq⟩,q⟩ | ⟨⟨xs,hq⟩,q⟩
  ·obtain ⟨its,r,p,hz⟩:=d.list hq;refine lC p.isList ?_;exact ⟨s1.heap.objs.size,[s1.heap.objs.size],_,_,H1,rfl,d.kept (t':=s1.toks) λb o e=>aa _ e,XG a _,⟨_,ah _ rfl,rfl,rfl⟩,fp,q⟩
  ·obtain ⟨its,r,p,hz⟩:=d.tuple hq;refine wpAny_pyIter_tuple (show s1.heap.IsTuple a its.toArray from p) ?_;exact ⟨s1.heap.objs.size,[s1.heap.objs.size],_,_,H1,rfl,d.kept (t':=s1.toks) λb o e=>aa _ e,YD a _,⟨_,ah _ rfl,rfl,rfl⟩,fp,q⟩
 ·obtain ⟨t,rfl⟩:=r1;cases g:z.cps.all (· < 128) with
  | true=>refine wpAny_pyIter_ascii g ?_;exact ⟨s1.heap.objs.size,[s1.heap.objs.size],_,_,H1,rfl,d.kept (t':=s1.toks) λb o e=>aa _ e,UG _ z t "str_ascii_iterator" (by decide) (λA hA=>Walks.strAscii hA _ z t) (λA i s Q E st h=>wpAny_pyIter_striter_ascii st h),⟨⟨_,ah _ rfl,rfl,rfl⟩,bu _⟩,fp,q⟩
  | false=>refine wpAny_pyIter_wide g ?_;exact ⟨s1.heap.objs.size,[s1.heap.objs.size],_,_,H1,rfl,d.kept (t':=s1.toks) λb o e=>aa _ e,UG _ z t "str_iterator" (by decide) (λA hA=>Walks.strWide hA _ z t) (λA i s Q E st h=>wpAny_pyIter_striter_wide st h),⟨⟨_,ah _ rfl,rfl,rfl⟩,bu _⟩,fp,q⟩
theorem qP (b:C.K=X.K) (h:PE X e (tE C own m f)) (g:m≠.any:=by decide):PI X tg e (tIt C own (jK f)):=by
 refine qdc (qfs (yQ h g)) λσ H R ⟨F,ρ,r,h⟩=>⟨F,ρ,r,PoI.bindV h λv F1 H1 d ρ1 a k c h1=>?_⟩
 have c:Is C.K F1 v d:=c;cases c with
 | lst p t=>exact .inl ⟨_,rfl,.inl ⟨⟨_,by rw [<-b]; exact a.sub.seq p⟩,by rw [<-b]; exact h1 _ F1 H1 a k (qfh p t)⟩⟩
 | tup p t=>exact .inl ⟨_,rfl,.inr ⟨⟨_,by rw [<-b]; exact qR a.sub p⟩,by rw [<-b]; exact h1 _ F1 H1 a k (qfi p t)⟩⟩
 | str hz=>exact .inr ⟨_,rfl,h1 _ F1 H1 a k qfr⟩
 | _=>exact h1.elim
end
noncomputable def QU (b:Bool):D->Out D
 | .lst ds=>match vA ds with
  | some bs=>.ok (.int (bs.countP (· == b):Nat))
  | none=>.bad
 | _=>.bad
noncomputable def QV (b:Bool):D->Out D
 | .lst ds=>match vA ds with
  | some bs=>match bs.findIdx? (· == b) with
   | some j=>.ok (.int (j:Nat))
   | none=>.bad
  | none=>.bad
 | _=>.bad
section
variable {o:Expr} {fo:Sl->Out (D×Sl)} {apos:Pos} {b:Bool}
theorem Va (A:iV) (s:iP) (c b:Bool):iI A s (.bool c) (.bool b) (c == b):=SeqAt.EqAt.bool_bool _ _
theorem qa0:MtR X "list.count" (λx vs H Q=>∃ (a:Addr) (xs:List V) (bs:List Bool) (b:Bool),x=.ref a/\vs=[.bl b]/\SqL X.K H a xs/\(∀ us,Vals xs us->us=bs.map bb)/\Q (.int (bs.countP (· == b):Nat)) H):=by
 intro pins s σ H x vs v us Q I f g h;obtain ⟨a,xs,bs,b,rfl,rfl,hq,i,q⟩:=h;cases f;obtain ⟨u,rfl,A⟩:=g.one;cases A;obtain ⟨its,r,pl,hz⟩:=I.list hq;have e:=i its r;subst e;obtain ⟨⟨cls,dd,data,sl⟩,n,m,d,hd,t⟩:=pl;simp only at d hd t;subst d t;refine lz PySem.F.slot_list_count ⟨_,m,rfl⟩ PySem.F.entry_list_count (PySem.F.args_list_count_2 _ _) (SeqAt.list_countAt a _ n dd sl (.bool b) (λv=>v == .bool b)) ⟨m,λy k=>?_,?_⟩
 ·have k:y∈bs.map bb:=by simpa using k
  obtain ⟨c,_,rfl⟩:=aC.mp k;have e:(bb c == bb b)=(c == b):=by cases c <;> cases b <;> rfl
  show iI _ s (.bool c) (.bool b) (bb c == bb b);rw [e];exact Va _ s c b
 ·refine ⟨.int (bs.countP (· == b):Nat),H,I.tok _,⟨s.toks,?_⟩,q⟩;have e:(bs.map bb).toArray.toList.countP (λv=>v == bb b)=bs.countP (· == b):=by rw [List.toList_toArray,List.countP_map];congr 1;funext c;cases c <;> cases b <;> rfl
  rw [e]
theorem qa1:MtR X "list.index" (λx vs H Q=>∃ (a:Addr) (xs:List V) (bs:List Bool) (b:Bool) (j:Nat),x=.ref a/\vs=[.bl b]/\SqL X.K H a xs/\(∀ us,Vals xs us->us=bs.map bb)/\bs.findIdx? (· == b)=iJ j/\Q (.int (j:Nat)) H):=by
 intro pins s σ H x vs v us Q I p w h;obtain ⟨a,xs,bs,b,j,rfl,rfl,hq,z,D,q⟩:=h;cases p;obtain ⟨u,rfl,A⟩:=w.one;cases A;obtain ⟨its,r,pl,hz⟩:=I.list hq;have e:=z its r;subst e;obtain ⟨⟨cls,dd,data,sl⟩,n,o,l,hd,t⟩:=pl;simp only at l hd t;subst l t;obtain ⟨i,g,f⟩:=List.findIdx?_eq_some_iff_getElem.mp D;have d:bs.length<=sizeLine:=by have:=r.length; simp at this; omega
 have ev:∀ c:Bool,(bb c == bb b)=(c == b):=λc=>by cases c <;> cases b <;> rfl
 refine lz PySem.F.slot_list_index ⟨_,o,rfl⟩ PySem.F.entry_list_index (PySem.F.args_list_index_2 _ _) (SeqAt.list_indexAt a _ n dd sl (.bool b) (λv=>v == .bool b) j (by simpa using i) (by rw [iT] at d; omega) (by simp [ev]; simpa using g) λm B h1=>?_) ⟨o,λy k=>?_,?_⟩;·have:=f m h1;simp [ev];simpa using this
 ·have k:y∈bs.map bb:=by simpa using k
  obtain ⟨c,_,rfl⟩:=aC.mp k;show iI _ s (.bool c) (.bool b) (bb c == bb b);rw [ev];exact Va _ s c b
 ·exact ⟨.int (j:Nat),H,I.tok _,⟨_,rfl⟩,q⟩
theorem qa2 {k c2} (z:C.K=X.K) (u:PE X o (tE C own m fo))
  (f:attributeBase o "count" X.env (eval o X.env)=eval o X.env:=by rfl)
  (w:((backTo cpos (starEach [.Constant (.bool b) k c2] X.env)).all (λx=>!x.1)&&(backToKw cpos (keywordEach [] X.env)).all (λx=>x.1.isSome)
   && decide ([Expr.Constant (.bool b) k c2].length+([]:List k6).length+(if ([]:List k6).isEmpty then 0 else 1) < 30))=true:=by exact wG rfl)
  (e:(apos.endLine == cpos.line)=true:=by rfl) (hs:starEach [.Constant (.bool b) k c2] X.env=[(iN,eval (.Constant (.bool b) k c2) X.env)]:=by exact qI rfl) :
  PE X (.Call (.Attribute o "count" apos) [.Constant (.bool b) k c2] [] cpos) (tE C own .sh (d1 (QU b) fo)):=by
 refine jF (YM cz PySem.F.slot_list_count PySem.F.type_list_count qa0 u (qK qcA jI hs) f w e hs rfl) λσ H Q h=>?_;obtain ⟨F,ρ,s,h⟩:=Jk (ma:=m) h;refine ⟨F,ρ,s,?_⟩;cases q:fo ρ with
 | ok p=>
  rw [q] at h;obtain ⟨d,ρ1⟩:=p;intro v F1 H1 i k l;obtain ⟨A,dx,y,n,po⟩:=h v F1 H1 i k l;cases dx <;> try exact po.elim
  rename_i ds;unfold QU at po;cases j:vA ds with
  | none=>simp only [j] at po; exact po.elim
  | some bs=>
   simp only [j] at po;obtain ⟨a,vs,rfl,hq,t⟩:=n.lst y;have g:SqL X.K H1 a vs:=by rw [<-z]; exact hq
   exact ⟨.inl ⟨rfl,vs,g⟩,a,vs,bs,b,rfl,rfl,g,λus r=>zM t r j,po _ A H1 y .refl (.int _)⟩
 | exc c=>rw [q] at h; exact h
 | bad=>rw [q] at h; exact h.elim
theorem qa3 {k c2} (B:C.K=X.K) (A:PE X o (tE C own m fo))
  (f:attributeBase o "index" X.env (eval o X.env)=eval o X.env:=by rfl)
  (w:((backTo cpos (starEach [.Constant (.bool b) k c2] X.env)).all (λx=>!x.1)&&(backToKw cpos (keywordEach [] X.env)).all (λx=>x.1.isSome)
   && decide ([Expr.Constant (.bool b) k c2].length+([]:List k6).length+(if ([]:List k6).isEmpty then 0 else 1) < 30))=true:=by exact wG rfl)
  (e:(apos.endLine == cpos.line)=true:=by rfl) (hs:starEach [.Constant (.bool b) k c2] X.env=[(iN,eval (.Constant (.bool b) k c2) X.env)]:=by exact qI rfl) :
  PE X (.Call (.Attribute o "index" apos) [.Constant (.bool b) k c2] [] cpos) (tE C own .sh (d1 (QV b) fo)):=by
 refine jF (YM cz PySem.F.slot_list_index PySem.F.type_list_index qa1 A (qK qcA jI hs) f w e hs rfl) λσ H Q h=>?_;obtain ⟨F,ρ,z,h⟩:=Jk (ma:=m) h;refine ⟨F,ρ,z,?_⟩;cases q:fo ρ with
 | ok p=>
  rw [q] at h;obtain ⟨d,ρ1⟩:=p;intro v F1 H1 i k s;obtain ⟨D,dx,y,u,po⟩:=h v F1 H1 i k s;cases dx <;> try exact po.elim
  rename_i ds;unfold QV at po;cases n:vA ds with
  | none=>simp only [n] at po; exact po.elim
  | some bs=>
   simp only [n] at po;cases l:bs.findIdx? (· == b) with
   | none=>simp only [l] at po; exact po.elim
   | some j=>
    simp only [l] at po;obtain ⟨a,vs,rfl,hq,t⟩:=u.lst y;have g:SqL X.K H1 a vs:=by rw [<-B]; exact hq
    exact ⟨.inl ⟨rfl,vs,g⟩,a,vs,bs,b,j,rfl,rfl,g,λus r=>zM t r n,l,po _ D H1 y .refl (.int _)⟩
 | exc c=>rw [q] at h; exact h
 | bad=>rw [q] at h; exact h.elim
end
end L2.D2
namespace L2.D2
open PySem PySem.Spec PySem.Calls PyProof.Rows PySem.W Builtin Builtin.ObjectAttr Builtin.Getset_descriptor
variable {K:Frag} {R:lS->iP->Prop}
section
variable {prog:iR} {w:iS} {A:iV} {E:iM->iP->Prop} {h:Heap} {g:Array lR} {d:Drawn} {t:Nat} {os:li} {a C:Addr} {o:Obj}
theorem qft (X:K.In h) (b:Looks (model prog w) h (typeOf (.ref a)) (.ref C)) (c:mroIn K C (.type "object")=iJ iO) (hq:R (.ok (.ret (.ref C))) ⟨h,g,d,t,os⟩):codeAny (model prog w) A (.call (.builtin "getset_descriptor.__get__") ⟨[.builtin "object.__class__",.ref a,.ref C],[]⟩) R ⟨h,g,d,t,os⟩:=by
 have L:=looks_mroIn (M:=model prog w) X c;refine codeAny_call_builtin KF.slot_gs.plain KF.entry_gs (KF.slot_gs.check _ _ _ _ _ _ _ _ ig (KF.args_gs _ _ _) ?_);unfold Builtin.«getset_descriptor.__get__» descrGet;rw [dga_obj];refine iK (iQ ?_);unfold descrGetter descrCheckInstance descrNameAndClass isInstance;simp only [KF.owner_class];repeat lk
 refine ⟨Code.quiet_builtin _ (by decide +kernel),i8 KF.entry_class ?_⟩;unfold Builtin.«object.__class__» shownTypeOf;repeat lk
 exact hq
theorem qa4 {n:iM} {Q:Unit->iP->Prop} (X:K.In h) (c:Looks (model prog w) h (typeOf (.ref a)) (.ref C)) (hs:subIn K (.ref C) (.type "BaseException")=iJ iO) (hq:Q () ⟨h,g,d,t,os⟩):wpAny (model prog w) A (checkBuiltinCall "BaseException.__getattribute__" ⟨[.ref a,n],[]⟩) Q E ⟨h,g,d,t,os⟩:=by
 have k:builtinKind "BaseException.__getattribute__"=iJ .slot:=by decide +kernel
 have b:splitId "BaseException.__getattribute__"=iJ ("BaseException", "__getattribute__"):=by decide +kernel
 have e:=F.args_bexc_ga (.ref a) n;have L:Looks (model prog w) h (isInstance (.ref a) (.type "BaseException")) true:=c.andThen (looks_subIn X hs);simp only [checkBuiltinCall,k,b];refine iK (L.at ?_);repeat (first | assumption | wp_step)
theorem qa5 {tk:Tok} {Q:Fin->iP->Prop} (X:K.In h) (b:Looks (model prog w) h (typeOf (.ref a)) (.ref C)) (W:findIn K (.ref C) "__class__"=iJ (iJ (.builtin "object.__class__"))) (c:mroIn K C (.type "object")=iJ iO) (hq:Q (.done (.ret (.ref C))) ⟨h,g,d,t,os⟩):wpAny (model prog w) A (Builtin.«object.__getattribute__» ⟨[.ref a,.str "__class__" tk],[]⟩) Q E ⟨h,g,d,t,os⟩:=by
 have L:=looks_findIn (M:=model prog w) X W;have e:(⟨h,g,d,t,os⟩:iP).TypeIs (.builtin "object.__class__") "getset_descriptor":=ig;have n:=ig;have i:=F.slot_gs_get.lookup;have f:=F.slot_gs_set.lookup;repeat (any_goals (first | assumption | with_reducible refine b.at ?_ | with_reducible refine L.at ?_ | wp_step))
 refine qft X b c ?_;repeat (any_goals (first | assumption | wp_step))
theorem qdo {tk:Tok} (X:K.In h) (b:Looks (model prog w) h (typeOf (.ref a)) (.ref C)) (hs:subIn K (.ref C) (.type "BaseException")=iJ iO) (W:findIn K (.ref C) "__class__"=iJ (iJ (.builtin "object.__class__"))) (c:mroIn K C (.type "object")=iJ iO) (hq:R (.ok (.ret (.ref C))) ⟨h,g,d,t,os⟩):codeAny (model prog w) A (.call (.builtin "BaseException.__getattribute__") ⟨[.ref a,.str "__class__" tk],[]⟩) R ⟨h,g,d,t,os⟩:=
 codeAny_call_builtin F.excAttr_ValueError.ga.plain F.entry_bexc_ga (qa4 X b hs (qa5 X b W c hq))
theorem qhq {tk:Tok} {f e:Bool} {Q:iM->iP->Prop} (X:K.In h) (L:Looks (model prog w) h (typeOf (.ref a)) (.ref C)) (hs:subIn K (.ref C) (.type "BaseException")=iJ iO) (g1:findIn K (.ref C) "__getattribute__"=iJ (iJ (.builtin "BaseException.__getattribute__"))) (Y:findIn K (.ref C) "__getattr__"=iJ iL)
  (W:findIn K (.ref C) "__class__"=iJ (iJ (.builtin "object.__class__"))) (m:mroIn K C (.type "object")=iJ iO) (hq:Q (.ref C) ⟨h,g,d,t,os⟩) :
  wpAny (model prog w) A (getAttrBy (.ref a) (.str "__class__" tk) f e) Q E ⟨h,g,d,t,os⟩:=by
 have j:=looks_findIn (M:=model prog w) X g1;have L2:=looks_findIn (M:=model prog w) X Y;have q:=F.excAttr_ValueError.ga.bind (.ref a);have i:(e&&onTheHeap (dA "BaseException.__getattribute__"))=false:=by cases e <;> rfl
 have b:(dA "BaseException.__getattribute__" == dA "object.__getattribute__")=false:=by decide +kernel
 have c:(onTheHeap (aM C)&&dA "BaseException.__getattribute__" == dA "object.__getattribute__")=false:=by rw [b]; rfl
 repeat (any_goals (first | assumption | with_reducible refine L.at ?_ | with_reducible refine j.at ?_ | with_reducible refine L2.at ?_ | wp_step))
 refine qdo X L hs W m ?_;repeat (any_goals (first | assumption | wp_step))
theorem qdp {Q:Option iM->iP->Prop} (X:K.In h) (b:Looks (model prog w) h (typeOf (.ref a)) (.ref C)) (hs:subIn K (.ref C) (.type "BaseException")=iJ iO) (g1:findIn K (.ref C) "__getattribute__"=iJ (iJ (.builtin "BaseException.__getattribute__"))) (Y:findIn K (.ref C) "__getattr__"=iJ iL)
  (W:findIn K (.ref C) "__class__"=iJ (iJ (.builtin "object.__class__"))) (c:mroIn K C (.type "object")=iJ iO) (hq:Q (iJ (.ref C)) ⟨h,g,d,t+1,os⟩) :
  wpAny (model prog w) A (getAttr? (.ref a) "__class__") Q E ⟨h,g,d,t,os⟩:=by
 unfold getAttr? getAttrBy?;exact iK (wpAny_mkText (iK (k7 (qhq X b hs g1 Y W c (iQ hq)))))
end
noncomputable def xcB (K:Frag) (C:Addr):Bool:=decide (subIn K (.ref C) (.type "BaseException")=iJ iO)&&decide (findIn K (.ref C) "__getattribute__"=iJ (iJ (.builtin "BaseException.__getattribute__")))&&decide (findIn K (.ref C) "__getattr__"=iJ iL) &&
 decide (findIn K (.ref C) "__class__"=iJ (iJ (.builtin "object.__class__")))&&decide (mroIn K C (.type "object")=iJ iO)&&(clsIn K C).isSome
def qdq (a C:Addr) (h:Heap):Prop:=∃ o vs,h.get? a=iJ o/\o.cls=.ref C/\o.data=.fields vs
theorem qa6 {a C:Addr} (b:xcB K C=iO):KitX K (.ref a) (.ref C) (qdq a C):=by
 unfold xcB at b;simp only [aP,decide_eq_true_eq] at b;obtain ⟨⟨⟨⟨⟨u,z⟩,r⟩,o⟩,f⟩,j⟩:=b;have ty:∀ (M:Model) (h:Heap),qdq a C h->Looks M h (typeOf (.ref a)) (.ref C):=λM h ⟨v,vs,e1,i,y⟩=>by rw [<-i]; exact (Looks.ld e1).andThen .now
 refine ⟨λM h _ x=>ty M h x,λM h X _=>?_,λh p dd its n sl X l=>?_,λ{prog w A E Q s} X x hq=>?_⟩
 ·unfold clsIn at j;split at j;·rename_i S d' e c m;intro G B D s' k q;unfold isType loadHead;exact iK (wpAny_loadPart (k _ _ (X _ _ m)) (iQ q))
  ·cases j
 ·refine Bool.eq_false_iff.mpr λq=>?_;have q:aM C=aM p:=beq_iff_eq.mp q;cases q;unfold clsIn at j;split at j;·rename_i S d' e c m;rw [X _ _ m] at l;cases l
  ·cases j
 ·obtain ⟨h,g,d,t,os⟩:=s;exact qdp X (ty _ h x) u z r o f hq
noncomputable def gn (ans:Addr->Option Bool):D->Out D
 | .xcp C=>match ans C with
  | some b=>.ok (.bl b)
  | none=>.bad
 | _=>.bad
section
variable {X:Cx} {C:Ct} {own:List Nat} {a:Expr} {fa:Sl->Out (D×Sl)} {ma:Mo} {pos:Pos} {cls:iM} {vc:V} {ans:Addr->Option Bool}
theorem UH (g:∀ Cc b,ans Cc=iJ b->xcB X.K Cc=iO/\kitOne X.K (.ref Cc) cls=iJ b) (j:RelV vc cls):uo X (.builtin "isinstance") (λxs H Q=>∃ x F d,xs=[x,vc]/\Same F H/\TopIs C.K F H x d/\PoV C .sh F H (gn ans d) Q):=by
 intro pins s σ H xs us Q I r h;obtain ⟨x,F,d,rfl,y,f,po⟩:=h;obtain ⟨u,c,rfl,A,a⟩:=XO r;cases d with
 | xcp Cc=>
  unfold gn at po;cases q:ans Cc with
  | none=>simp only [q] at po; exact po.elim
  | some b=>
   simp only [q] at po;obtain ⟨h1,h2⟩:=g Cc b q;rcases f with f | ⟨_,_,f⟩
   ·cases f with
    | @xcp ad _ hF=>
     cases A;have hx:qdq ad Cc s.heap:=(show ObjOk X.prog X.w H s.heap ad (Wa ad Cc) from I.hok ad _ (y _ _ hF)).1;have e:cls=c:=by
      cases vc with
      | ref z=>exact (show cls=aM z from j).trans (show c=aM z from a).symm
      | ty z=>exact (show cls=df z from j).trans (show c=df z from a).symm
      | non=>exact (show cls=bA from j).trans (show c=bA from a).symm
      | bl z=>exact (show cls=bb z from j).trans (show c=bb z from a).symm
      | int z=>obtain ⟨t,rfl⟩:=j; unfold kitOne kitCls at h2; simp at h2
      | str z=>obtain ⟨t,rfl⟩:=j; unfold kitOne kitCls at h2; simp at h2
      | byt z=>obtain ⟨t,rfl⟩:=j; unfold kitOne kitCls at h2; simp at h2
      | flt z=>obtain ⟨t,rfl⟩:=j; unfold kitOne kitCls at h2; simp at h2
     subst e;exact kia_one (qa6 h1) I.kIn hx h2 (λz=>nomatch z) λtk=>⟨.bl b,H,I.tok tk,rfl,po _ F H y .refl (.bl b)⟩
   ·exact f.elim
 | _=>exact po.elim
theorem UI {σ:St} {H:Hp} {Q:VK} (h:tE C own .sh (d1 (gn ans) fa) σ H Q):YL (tE C own ma fa) (YL (tC vc) qeT) σ H λxs H1=>∃ x F d,xs=[x,vc]/\Same F H1/\TopIs C.K F H1 x d/\PoV C .sh F H1 (gn ans d) Q:=by
 obtain ⟨F,ρ,r,h⟩:=Jk (ma:=ma) h;refine ⟨F,ρ,r,?_⟩;cases q:fa ρ with
 | ok p=>rw [q] at h;obtain ⟨d,ρ1⟩:=p;intro v F1 H1 a k m;obtain ⟨b,dx,z⟩:=h v F1 H1 a k m;exact ⟨v,b,dx,rfl,z⟩
 | exc c=>rw [q] at h; exact h
 | bad=>rw [q] at h; exact h.elim
theorem wq {cn:Str} {Ct:Addr} {p t:Pos} (hg:Gl X "isinstance") (m:X.mg "isinstance"=iL) (d:bootBuiltins "isinstance"=iJ (.builtin "isinstance")) (l:Gl X cn) (e:X.mg cn=iJ (.ref Ct)) (g:∀ Cc b,ans Cc=iJ b->xcB X.K Cc=iO/\kitOne X.K (.ref Cc) (.ref Ct)=iJ b) (f:PE X a (tE C own ma fa)) (c:(cn == ("__debug__":Str))=false:=by decide)
  (h1:starEach [a,.Name cn t] X.env=(iN,eval a X.env)::starEach [.Name cn t] X.env:=by rfl) (h2:starEach [.Name cn t] X.env=[(iN,eval (.Name cn t) X.env)]:=by rfl):PE X (.Call (.Name "isinstance" p) [a,.Name cn t] [] pos) (tE C own .sh (d1 (gn ans) fa)):=
 jF (wC (UH (vc:=.ref Ct) g rfl) hg m d (qK f (qK (XD (v:=.ref Ct) l e rfl c) jI h2) h1) (by decide) (by decide) (by rw [h1]) (by rw [h2]; rfl)) λσ H Q h=>UI h
theorem qdr {cn:Str} {T:String} {p t:Pos} (hg:Gl X "isinstance") (m:X.mg "isinstance"=iL) (f:bootBuiltins "isinstance"=iJ (.builtin "isinstance")) (l:Gl X cn) (e:X.mg cn=iL) (c:bootBuiltins cn=iJ (.type T)) (g:∀ Cc b,ans Cc=iJ b->xcB X.K Cc=iO/\kitOne X.K (.ref Cc) (.type T)=iJ b) (i:PE X a (tE C own ma fa)) (n:cn ≠ "__name__":=by decide) (d:(cn == ("__debug__":Str))=false:=by decide)
  (h1:starEach [a,.Name cn t] X.env=(iN,eval a X.env)::starEach [.Name cn t] X.env:=by rfl) (h2:starEach [.Name cn t] X.env=[(iN,eval (.Name cn t) X.env)]:=by rfl):PE X (.Call (.Name "isinstance" p) [a,.Name cn t] [] pos) (tE C own .sh (d1 (gn ans) fa)):=
 jF (wC (UH (vc:=.ty T) g rfl) hg m f (qK i (qK (XE (v:=.ty T) l e c rfl n d) jI h2) h1) (by decide) (by decide) (by rw [h1]) (by rw [h2]; rfl)) λσ H Q h=>UI h
end
end L2.D2
namespace L2.D2
open PySem PySem.Spec PyProof.Rows
variable {P:iR} {w:iS} {K:Frag} {N:List Str} {A:iV} {C:Ct}
theorem xa {mg:Str->Option iM} {base:Heap} {qual:Str} {scope:lB} {f:Addr} {cd:iM} {outer:List Env} {s0:iP} {H0:Hp} {E:XK} (h:C.E=E):ZF (cxk P w K mg base N qual scope f cd A outer s0 H0 E) C:=by subst h;exact qfm
theorem RoomQ.mono {j k:Nat} (r:RoomQ k A) (h:j<=k):RoomQ j A:=⟨by have:=r.dp; omega,by have:=r.un; omega⟩
noncomputable def qfu (ca:Str->Addr) (cs:List Str) (c:Str):Option Addr:=if c∈cs then iJ (ca c) else iL
noncomputable def Vb (ca:Str->Addr) (cs:List Str) (x:Str) (C:Addr):Option Bool:=if C∈cs.map ca then iJ (decide (C=ca x)) else iL
noncomputable def qfv (ca:Str->Addr) (cs:List Str) (C:Addr):Option Bool:=if C∈cs.map ca then iJ iO else iL
structure Xs (K:Frag) (cv:Str->iM) (ca:Str->Addr) (cs:List Str) (top:Str):Prop where
 val:∀ c∈cs,cv c=.ref (ca c)
 own:∀ c∈cs,dL K (.ref (ca c)) (cv top)=iJ iO
 cls:∀ c∈cs,xcB K (ca c)=iO
 kit:∀ c∈cs,∀ d∈cs,bZ K (.ref (ca c)) (.ref (ca d))=iJ (decide (ca c=ca d))
 ve:∀ c∈cs,bZ K (.ref (ca c)) (.type "ValueError")=iJ iO
variable {x:Str}
section
variable {cv:Str->iM} {ca:Str->Addr} {cs:List Str} {top:Str}
theorem Xs.hit (z:Xs K cv ca cs top):∀ c Cc,qfu ca cs c=iJ Cc->cv c=.ref Cc/\dL K (.ref Cc) (cv top)=iJ true:=λc Cc h=>by
 unfold qfu at h;split at h;·cases h;exact ⟨z.val c (by assumption),z.own c (by assumption)⟩
 ·cases h
theorem Xs.ans (z:Xs K cv ca cs top) (hx:x∈cs):∀ Cc b,Vb ca cs x Cc=iJ b->xcB K Cc=iO/\bZ K (.ref Cc) (.ref (ca x))=iJ b:=λCc b h=>by
 unfold Vb at h;split at h;·rename_i m;obtain ⟨c,d,rfl⟩:=aC.mp m;cases h;exact ⟨z.cls c d,z.kit c d x hx⟩
 ·cases h
theorem Xs.ansV (z:Xs K cv ca cs top):∀ Cc b,qfv ca cs Cc=iJ b->xcB K Cc=iO/\bZ K (.ref Cc) (.type "ValueError")=iJ b:=λCc b h=>by
 unfold qfv at h;split at h;·rename_i m;obtain ⟨c,d,rfl⟩:=aC.mp m;cases h;exact ⟨z.cls c d,z.ve c d⟩
 ·cases h
end
inductive SK where
 | l | t
noncomputable def SK.itc:SK->String
 | .l => "list_iterator"
 | .t => "tuple_iterator"
def SeqK (h:Heap) (a:Addr):SK->Array iM->Prop
 | .l,xs=>h.IsList a xs
 | .t,xs=>h.IsTuple a xs
def ItK (h:Heap) (it a:Addr):SK->Nat->Prop
 | .l,i=>h.IsListIter it a i
 | .t,i=>h.IsTupleIter it a i
def SqK (K:Frag) (H:Hp) (a:Addr):SK->List V->Prop
 | .l,xs=>SqL K H a xs
 | .t,xs=>SqT K H a xs
variable {h h':Heap} {a:Addr} {xs:Array iM}
theorem SeqK.at:∀ {k:SK},SeqK h a k xs->(∀ o,h.get? a=iJ o->h'.get? a=iJ o)->SeqK h' a k xs
 | .l,⟨o,e,c⟩,k=>⟨o,k _ e,c⟩
 | .t,⟨o,e,c⟩,k=>⟨o,k _ e,c⟩
theorem SeqK.lt:∀ {k:SK},SeqK h a k xs->a < h.objs.size
 | .l,⟨o,e,c⟩=>ap e
 | .t,⟨o,e,c⟩=>ap e
variable {it:Addr} {i:Nat}
theorem ItK.obj:∀ {k:SK},ItK h it a k i->∃ o,h.get? it=iJ o/\o.cls=.type k.itc/\o.data=.fields #[.ref a,.int i 0]
 | .l,⟨o,e,c,d⟩=>⟨o,e,c,d⟩
 | .t,⟨o,e,c,d⟩=>⟨o,e,c,d⟩
theorem ItK.of:∀ {k:SK},(∃ o,h.get? it=iJ o/\o.cls=.type k.itc/\o.data=.fields #[.ref a,.int i 0])->ItK h it a k i
 | .l,⟨o,e,c,d⟩=>⟨o,e,c,d⟩
 | .t,⟨o,e,c,d⟩=>⟨o,e,c,d⟩
variable {E:iM->iP->Prop} {prog:iR} {s:iP} {Q:Option iM->iP->Prop} {l:Addr} {items:Array iM} {o:Obj} {n:Nat}
section
theorem qa7 {k:SK} {Q:iM->iP->Prop} (h:SeqK s.heap a k xs) (c:Q (.ref s.heap.objs.size) { s with heap:=s.heap.push { cls:=.type k.itc,data:=.fields #[.ref a,.int 0 0] } }):wpAny (model prog w) A (pyIter (.ref a)) Q E s:=by
 cases k with
 | l=>exact lC h c
 | t=>exact wpAny_pyIter_tuple h c
noncomputable def SK.cl:SK->String
 | .l => "list"
 | .t => "tuple"
theorem ZL {k:SK} (b:A.handled=iL) (hi:ItK s.heap it l k i) (hl:SeqK s.heap l k items) (hx:items[i]?=iL) (c:∀ h',ic it s.heap h'->Q iL { s with heap:=h' }):wpAny (model prog w) A (pyNext (.ref it)) Q E s:=by
 cases k with
 | l=>exact wpAny_pyNext_list_end b hi hl hx c
 | t=>exact wpAny_pyNext_tuple_end b hi hl hx c
theorem YY {k:SK} {x:iM} (hi:ItK s.heap it l k i) (hl:SeqK s.heap l k items) (hx:items[i]?=iJ x) (c:∀ h',ItK h' it l k (i+1)->bn it s.heap h'->Q (iJ x) { s with heap:=h' }):wpAny (model prog w) A (pyNext (.ref it)) Q E s:=by
 cases k with
 | l=>exact wpAny_pyNext_list_item hi hl hx c
 | t=>exact wpAny_pyNext_tuple_item hi hl hx c
theorem SeqK.of (e:h.get? a=iJ o) (d:o.data=.seq xs n):∀ {k:SK},o.cls=.type k.cl->SeqK h a k xs
 | .l,c=>⟨o,e,c,n,d⟩
 | .t,c=>⟨o,e,c,n,d⟩
end
variable {sk:SK}
section
theorem YZ:typeLookup (.type "tuple") "keys"=pure none:=by rw [lv,lb]; kernel_rfl
theorem Qx {k:Nat} {Q:Option iM->iP->Prop} (n:A.handled=iL) (hx:s.heap.get? a=iJ o) (l:o.cls=.type "tuple") (t:o.data=.seq xs k) (hd:o.dict=iL)
  (h:∀ h' tk,(∀ b j,s.heap.get? b=iJ j->h'.get? b=iJ j)->Q iL { s with heap:=h',toks:=tk }):wpAny (model prog w) A (getAttr? (.ref a) "keys") Q E s:=by
 obtain ⟨c,dct,dat,sl⟩:=o;simp only at l t hd;subst l t hd;obtain ⟨hp,g,d,tk,os⟩:=s;have hT:∀ f,(⟨hp,g,d,f,os⟩:iP).TypeIs (.ref a) "tuple":=λ_=>⟨_,hx,rfl⟩
 have f1:=sub_AttributeError;have u:=dQ.lookup;have f4:=dQ.bind (.ref a);have r:=am_tuple_getattr_none;have p:=YZ;have m:(["__module__", "__name__", "__qualname__", "__doc__", "__annotations__"]:List Str).contains ("keys":Str)=false:=by decide +kernel
 have hsz:("keys":Str).length+100<=sizeLine:=by rw [iT]; decide +kernel
 unfold getAttr? getAttrBy?;refine iK (wpAny_mkText (iK (k7 ?_)));unfold getAttrBy;repeat (any_goals (first | assumption | exact hT _ | ((with_reducible show wpAny _ _ (call (dA "tuple.__getattribute__") _ _) _ _ _); refine lz dQ (hT _) am_entry_tuple_getattribute (F.args_tuple_getattribute_2 _ _) (meets_getattribute_miss_tuple a xs k sl "keys" _ p m hsz) ⟨hx,n,λh' f e i=>?_⟩) | wp_step))
 obtain ⟨t',U,q⟩:=i.there;show wpAny _ _ (getattributeRaised _ _ _ _ _ _ _) _ _ _;unfold getattributeRaised;repeat (any_goals (first | assumption | wp_step))
 exact h h' f i.keeps
theorem Xa:typeLookup (.type "list") "keys"=pure none:=by rw [lv,lb]; kernel_rfl
theorem gp {k:Nat} {Q:Option iM->iP->Prop} (n:A.handled=iL) (hx:s.heap.get? a=iJ o) (l:o.cls=.type "list") (t:o.data=.seq xs k) (hd:o.dict=iL)
  (h:∀ h' tk,(∀ b j,s.heap.get? b=iJ j->h'.get? b=iJ j)->Q iL { s with heap:=h',toks:=tk }):wpAny (model prog w) A (getAttr? (.ref a) "keys") Q E s:=by
 obtain ⟨c,dct,dat,sl⟩:=o;simp only at l t hd;subst l t hd;obtain ⟨hp,g,d,tk,os⟩:=s;have hT:∀ f,(⟨hp,g,d,f,os⟩:iP).TypeIs (.ref a) "list":=λ_=>⟨_,hx,rfl⟩
 have f1:=sub_AttributeError;have u:=dX.lookup;have f4:=dX.bind (.ref a);have r:=am_list_getattr_none;have p:=Xa;have m:(["__module__", "__name__", "__qualname__", "__doc__", "__annotations__"]:List Str).contains ("keys":Str)=false:=by decide +kernel
 have hsz:("keys":Str).length+100<=sizeLine:=by rw [iT]; decide +kernel
 unfold getAttr? getAttrBy?;refine iK (wpAny_mkText (iK (k7 ?_)));unfold getAttrBy;repeat (any_goals (first | assumption | exact hT _ | ((with_reducible show wpAny _ _ (call (dA "list.__getattribute__") _ _) _ _ _); refine lz dX (hT _) am_entry_list_getattribute (F.args_list_getattribute_2 _ _) (meets_getattribute_miss_list a xs k sl "keys" _ p m hsz) ⟨hx,n,λh' f e i=>?_⟩) | wp_step))
 obtain ⟨t',U,q⟩:=i.there;show wpAny _ _ (getattributeRaised _ _ _ _ _ _ _) _ _ _;unfold getattributeRaised;repeat (any_goals (first | assumption | wp_step))
 exact h h' f i.keeps
theorem zf:entryFor table "dict.update.loop"=iJ Builtin.«dict.update.loop»:=entryFor_of_tree (by kernel_rfl)
theorem kJ:plainId "dict.update.loop"=true:=by decide +kernel
def ZM (h:Heap) (v key val:iM):Prop:=∃ p o n,v=.ref p/\h.get? p=iJ o/\o.cls=.type "tuple"/\o.data=.seq #[key,val] n
theorem qa8 {sk:SK} {R:lS->iP->Prop} {d t:Addr} (hh:A.in1.handled=iL) (S:d≠t) (u:d≠it) (N:t≠it):∀ (n i:Nat) (s:iP) (kvs:List (Key×iM)) (ps:List (Key×iM×iM)),items.size - i=n->i<=items.size ->ItK s.heap it t sk i->SeqK s.heap t sk items->s.heap.DictOf (qU prog w) d kvs->ps.length=n->(∀ j p,ps[j]?=iJ p->∃ v,items[i+j]?=iJ v/\zU p.1 p.2.1=iO/\ZM s.heap v p.2.1 p.2.2)->kvs.length+n<=sizeLine ->(∀ h' tk,h'.DictOf (qU prog w) d (ps.foldl (λl p=>stored l p.1 p.2.2) kvs)->(∀ b o,b≠d->b≠it->s.heap.get? b=iJ o->h'.get? b=iJ o)->R (.ok (.ret .none)) { s with heap:=h',toks:=tk }) ->codeAny (model prog w) A (.builtin "dict.update.loop" ⟨[.ref d,.ref it,rawInt i,.none],[]⟩) R s:=by
 intro n
 induction n with
 | zero=>intro i s kvs ps hn hi st H hd hl hp hz W;have e:ps=[]:=d9.mp hl;subst e;refine i8 zf ?_;rw [bv kJ _];show wpAny _ A.in1 (pyNext (.ref it) >>= _) _ _ s;refine iK (ZL hh st H (by simp; omega) λh' eb=>?_);show wpAny _ A.in1 (ret bA) _ _ _;refine iQ (W h' s.toks ?_ λb o _ h2 e=>eb b o h2 e);obtain ⟨o,es,ep,D,r⟩:=hd;exact ⟨o,es,ep,eb d o u D,r⟩
 | succ n ih=>
  intro i s kvs ps hn hi st H hd hl hp hz W;cases ps with
  | nil=>simp at hl
  | cons p ps=>
   obtain ⟨v,hv,hk,q,X,nq,rfl,hq,P,c⟩:=hp 0 p rfl;obtain ⟨od,es,ep,g,hdx,a⟩:=id hd;have F:q≠d:=λz=>by subst z;rw [hq] at g; cases g;rw [a.1] at c; cases c
   obtain ⟨oi,f,hic,E⟩:=st.obj;have K:q≠it:=λz=>by subst z;rw [hq] at f; cases f;rw [E] at c; cases c
   refine i8 zf ?_;rw [bv kJ _];show wpAny _ A.in1 (pyNext (.ref it) >>= _) _ _ s;refine iK (YY st H (x:=.ref q) (by simpa using hv) λh' I G=>?_);have C:h'.get? q=iJ X:=(G.2 q K).trans hq;have V:fX { s with heap:=h' } (.ref q) "tuple":=⟨X,C,P⟩
   have U:h'.DictOf (qU prog w) d kvs:=by obtain ⟨o,es,ep,D,r⟩:=hd;exact ⟨o,es,ep,(G.2 d u).trans D,r⟩
   have O:SeqK h' t sk items:=H.at λo D=>(G.2 t N).trans D;dsimp only;refine iK (i3 (iK ?_));refine wpAny_tryCatch ?_;unfold Builtin.Dict.pairItems;refine iK (lD V ?_);rw [if_pos (by decide)];refine iK (iY C c (iQ ?_));show wpAny _ A.in1 (holding [p.2.1,p.2.2] (dictSet d p.2.1 p.2.2)) _ _ _;refine i3 (wpAny_dictSet_pairs (knd:=qU prog w) hk U (λh2 hd2 k=>?_) (by omega));have keep:∀ b o,b≠d->b≠it->s.heap.get? b=iJ o->h2.get? b=iJ o:=λb o n1 n2 e=>(k.2 b n1).trans ((G.2 b n2).trans e);have Y:(stored kvs p.1 p.2.2).length<=kvs.length+1:=by unfold stored;split <;> simp
   refine iQ ⟨lq kJ _,?_⟩;have ec:rawInt ((i:Int)+1)=rawInt ((i+1:Nat):Int):=by push_cast; rfl
   rw [ec];refine ih (i+1) _ (stored kvs p.1 p.2.2) ps (by omega) (by omega) ?_ ?_ hd2 (by simpa using hl) (λj Z e=>?_) (by omega) λh3 tk T k3=>?_;·obtain ⟨o,e,r⟩:=I.obj;exact .of ⟨o,(k.2 it (aZ u)).trans e,r⟩
   ·exact O.at λo e=>(k.2 t (aZ S)).trans e
   ·obtain ⟨v',M,Q,J,y,L,rfl,m,B,h⟩:=hp (j+1) Z (by simpa using e);refine ⟨.ref J,by rw [show i+1+j=i+(j+1) by omega]; exact M,Q,J,y,L,rfl,keep J y (λz=>?_) (λz=>?_) m,B,h⟩;·subst z;rw [m] at g; cases g;rw [a.1] at h; cases h
    ·subst z;rw [m] at f; cases f;rw [E] at h; cases h
   ·exact W h3 tk T λb o n1 n2 e=>k3 b o n1 n2 (keep b o n1 n2 e)
theorem gq {t:Addr} {ps:List (Key×iM×iM)} {Q:iM->iP->Prop} (J:A.handled=iL) {m:Obj} {nt:Nat} (z:s.heap.get? t=iJ m) (d:m.cls=.type sk.cl) (n:m.dict=iL) (f:m.data=.seq items nt)
  (hl:ps.length=items.size) (hp:∀ (j:Nat) (p:Key×iM×iM),ps[j]?=iJ p->∃ v,items[j]?=iJ v/\zU p.1 p.2.1=iO/\ZM s.heap v p.2.1 p.2.2) (hz:items.size<=sizeLine)
  (h:∀ h' tk,h'.DictOf (qU prog w) s.heap.objs.size (ps.foldl (λl p=>stored l p.1 p.2.2) [])->(∀ b o,s.heap.get? b=iJ o->h'.get? b=iJ o)->Q (.ref s.heap.objs.size) { s with heap:=h',toks:=tk }) :
  wpAny (model prog w) A (call (.type "dict") [.ref t]) Q E s:=by
 refine callType_codes (Q₁:=λobj k=>obj=.ref s.heap.objs.size/\k={ s with heap:=s.heap.push { cls:=.type "dict",data:=.dict #[] } }) F.kt_called_dict (F.kt_typeCall_dict_1 _) F.entry_dict_init (kt_code_dict_new _ ⟨rfl,rfl⟩) ?_;rintro obj k ⟨rfl,rfl⟩;have i:(s.heap.push { cls:=.type "dict",data:=.dict #[] }).DictOf (qU prog w) s.heap.objs.size []:=Heap.DictOf.new s.heap;refine ⟨i.typeIs,F.args_dict_init_2 _ _,?_⟩;unfold Builtin.«dict.__init__»;refine iK ?_;unfold Builtin.Dict.selfAndRest;refine iK (wpAny_notOrdered_dict i.typeIs ?_);show wpAny _ _ (pure (s.heap.objs.size,[aM t])) _ _ _;refine iQ ?_;show wpAny _ _ (Builtin.Dict.updateFrom "dict.__init__" s.heap.objs.size (.ref t) [] .none) _ _ _;unfold Builtin.Dict.updateFrom;have g:(s.heap.push { cls:=.type "dict",data:=.dict #[] }).get? t=iJ m:=aa _ z;have C:t < s.heap.objs.size:=ap z;refine iK (lD (T:=sk.cl) ⟨m,g,d⟩ ?_);rw [if_pos (by cases sk <;> decide)];have P:∀ {L:Option iM->iP->Prop} {A1:iV} {R:iM->iP->Prop} {s1:iP},A1.handled=iL->s1.heap.get? t=iJ m->(∀ h' tk,(∀ b I,s1.heap.get? b=iJ I->h'.get? b=iJ I)->L iL { s1 with heap:=h',toks:=tk })->wpAny (model prog w) A1 (getAttr? (.ref t) "keys") L R s1:=λa b c=>by
  cases sk with
  | l=>exact gp a b d f n c
  | t=>exact Qx a b d f n c
 refine iK (P (by exact J) g λh1 H k1=>?_);rw [if_pos (show (iL:Option iM).isNone=iO from rfl)];refine iK (lp ?_);have y:h1.get? t=iJ m:=k1 _ _ g;have D:h1.DictOf (qU prog w) s.heap.objs.size []:=by obtain ⟨o,es,ep,B,r⟩:=i;exact ⟨o,es,ep,k1 _ _ B,r⟩
 have x:SeqK h1 t sk items:=.of y f d;refine iK (qa7 (s:={ s with heap:=h1,toks:=H }) x ?_);have u:s.heap.objs.size < h1.objs.size:=let ⟨o,es,ep,B,r⟩:=D; ap B;have up:∀ b o,s.heap.get? b=iJ o->(h1.push { cls:=.type sk.itc,data:=.fields #[.ref t,.int 0 0] }).get? b=iJ o:=λb o e=>aa _ (k1 _ _ (aa _ e));refine iQ ⟨lq kJ _,?_⟩;refine qa8 (items:=items) (t:=t) (A:=A.in1) (show A.in1.in1.handled=iL from J) (cS C) (aG u) (aG (eI C u)) items.size 0 _ [] ps (by omega) (bu _) (.of ⟨_,ah _ rfl,rfl,rfl⟩) ?_ ?_ hl (λj p e=>?_) (by simpa using hz) λh2 G hd2 k2=>⟨rfl,h h2 G hd2 λb o e=>?_⟩
 ·exact .of (aa _ y) f d
 ·obtain ⟨o,es,ep,B,r⟩:=D;exact ⟨o,es,ep,aa _ B,r⟩
 ·obtain ⟨v,N,O,q,X,M,rfl,hq,r⟩:=hp j p e;exact ⟨.ref q,by simpa using N,O,q,X,M,rfl,up q X hq,r⟩
 ·have K:=ap e;exact k2 b o (aG K) (aG (eI K u)) (up b o e)
end
noncomputable def VP:D->Option Key
 | .int i=>iJ (.inl i)
 | .str x=>iJ (.inr x)
 | _=>iL
noncomputable def wB (kvs:List (Key×D)) (k:Key) (d:D):List (Key×D):=if kvs.any (λp=>decide (p.1=k)) then kvs.map λp=>if p.1=k then (p.1,d) else p else kvs++[(k,d)]
noncomputable def qa9:D->Option (Key×D)
 | .tup [k,v]=>(VP k).map λk=>(k,v)
 | _=>iL
noncomputable def yp:List D->Option (List (Key×D))
 | []=>iJ []
 | d::ds=>match qa9 d,yp ds with
  | some p,iJ ps=>iJ (p::ps)
  | _,_=>iL
noncomputable def qba:D->Out D
 | .tup ds=>match yp ds with
  | some ps=>.ok (.dct (ps.foldl (λl p=>wB l p.1 p.2) []))
  | none=>.bad
 | _=>.bad
noncomputable def qfw (d:D):Out D:=(Qw d).bind λds=>match yp ds with
 | some ps=>.ok (.dct (ps.foldl (λl p=>wB l p.1 p.2) []))
 | none=>.bad
variable {d:D} {F H:Hp} {v:V} {ds:List D}
theorem UJ (y:Same F H) (h:TopIs K F H v d) (e:Qw d=.ok ds):∃ a k xs,v=.ref a/\SqK K H a k xs/\IsL K F xs ds:=by
 cases d with
 | lst es=>cases e; obtain ⟨a,xs,rfl,q,t⟩:=h.lst y; exact ⟨a,.l,xs,rfl,q,t⟩
 | tup es=>cases e; obtain ⟨a,xs,rfl,q,t⟩:=h.tup y; exact ⟨a,.t,xs,rfl,q,t⟩
 | _=>cases e
theorem IsK.any {k:Key}:∀ {kv:List (Key×V)} {ks:List (Key×D)},IsK K F kv ks->(kv.any λp=>decide (p.1=k))=(ks.any λp=>decide (p.1=k))
 | _,_,.nil=>rfl
 | _,_,.cons h t=>by rw [cJ,cJ,IsK.any t]
theorem IsK.repl {k:Key} (i:Is K F v d):∀ {kv:List (Key×V)} {ks:List (Key×D)},IsK K F kv ks->IsK K F (kv.map λp=>if p.1=k then (p.1,v) else p) (ks.map λp=>if p.1=k then (p.1,d) else p)
 | _,_,.nil=>.nil
 | _,_,.cons (k:=k') h t=>by
  rw [aL,aL];by_cases e:k'=k;·simp only [e,if_true]; exact .cons i (IsK.repl i t)
  ·simp only [e,if_false]; exact .cons h (IsK.repl i t)
theorem IsK.snoc {k:Key} (i:Is K F v d):∀ {kv:List (Key×V)} {ks:List (Key×D)},IsK K F kv ks->IsK K F (kv++[(k,v)]) (ks++[(k,d)])
 | _,_,.nil=>.cons i .nil
 | _,_,.cons h t=>.cons h (IsK.snoc i t)
variable {kv:List (Key×V)}
theorem IsK.put {k:Key} {ks:List (Key×D)} (h:IsK K F kv ks) (i:Is K F v d):IsK K F (Qp kv k v) (wB ks k d):=by
 unfold Qp wB;rw [h.any];by_cases e:(ks.any λp=>decide (p.1=k))=iO;·rw [if_pos e,if_pos e]; exact IsK.repl i h
 ·rw [if_neg e,if_neg e]; exact IsK.snoc i h
theorem UK:∀ {pv:List (Key×V)} {ps:List (Key×D)} {kv:List (Key×V)} {ks:List (Key×D)},IsK K F pv ps->IsK K F kv ks->IsK K F (pv.foldl (λl p=>Qp l p.1 p.2) kv) (ps.foldl (λl p=>wB l p.1 p.2) ks)
 | _,_,_,_,.nil,h=>h
 | _,_,_,_,.cons i t,h=>by rw [cj,cj];exact UK t (h.put i)
def qib (p:Key×V) (q:Key×iM×iM):Prop:=p.1=q.1/\RelV p.2 q.2.2
theorem ZN:∀ {pv:List (Key×V)} {tr:List (Key×iM×iM)} {kv:List (Key×V)} {vs:List (Key×iM)},lX qib pv tr->KV kv vs->KV (pv.foldl (λl p=>Qp l p.1 p.2) kv) (tr.foldl (λl p=>stored l p.1 p.2.2) vs)
 | _,_,_,_,.nil,h=>h
 | _,_,_,_,.cons r t,h=>by rw [cj,cj];refine ZN t ?_;rw [r.1];exact h.put _ r.2
theorem UL:∀ {pv:List (Key×V)} {kv:List (Key×V)},(pv.foldl (λl p=>Qp l p.1 p.2) kv).length<=kv.length+pv.length
 | [],kv=>ax _
 | p::pv,kv=>by have h1:=@UL pv (Qp kv p.1 p.2);have h2:=yz kv p.1 p.2;rw [cj,aq];omega
variable {X:Cx} {pins:List (Addr×Obj)} {σ:St} {u:iM} {vs:List V}
section
theorem gc {k:Key} (i:Is C.K F v d) (r:RelV v u) (e:VP d=iJ k):zU k u=true:=by
 cases d with
 | int z=>cases i; cases e; obtain ⟨t,rfl⟩:=r; exact Kq z t
 | str z=>cases i; cases e; obtain ⟨t,rfl⟩:=r; exact Kr z t
 | _=>cases e
theorem UM (m:C.K=X.K) (I:Inv X pins σ H s) (y:Same F H):∀ {vs:List V} {us:List iM} {ds:List D} {ps:List (Key×D)},IsL C.K F vs ds->Vals vs us->yp ds=iJ ps ->∃ (pv:List (Key×V)) (tr:List (Key×iM×iM)),IsK C.K F pv ps/\lX qib pv tr/\tr.length=us.length/\pv.length=us.length/\∀ (j:Nat) (p:Key×iM×iM),tr[j]?=iJ p->∃ v,us[j]?=iJ v/\zU p.1 p.2.1=iO/\ZM s.heap v p.2.1 p.2.2
 | _,_,_,_,.nil,.nil,e=>by cases e; exact ⟨[],[],.nil,.nil,rfl,rfl,λj p e=>by simp at e⟩
 | _,_,_,_,.cons (d:=d) (ds:=ds) i t,.cons (b:=u) r rs,e=>by
  unfold yp at e;cases q:qa9 d with
  | none=>rw [q] at e; cases e
  | some kd=>
   cases c:yp ds with
   | none=>rw [q,c] at e; cases e
   | some rest=>
    rw [q,c] at e;cases e;obtain ⟨pv,tr,h1,h2,h3,h,x⟩:=UM m I y t rs c;unfold qa9 at q;split at q
    ·rename_i A z;obtain ⟨k,l,rfl⟩:=aV.mp q;cases i with
     | @tup a xs _ hq il=>
      cases il with
      | @cons xk _ xr _ ik il2=>
       cases il2 with
       | @cons xv _ xr2 _ iv il3=>
        cases il3;cases r;obtain ⟨its,f,⟨o,g,w,n,hd⟩,_⟩:=I.tuple (show SqT X.K H a [xk,xv] by rw [<-m]; exact qR y hq);cases f with
        | @cons _ uk _ _ rk rv2=>
         cases rv2 with
         | @cons _ uv _ _ rv3 rv4=>
          cases rv4;refine ⟨(k,xv)::pv,(k,uk,uv)::tr,.cons iv h1,.cons ⟨rfl,rv3⟩ h2,by simp [h3],by simp [h],λj p e=>?_⟩;cases j with
          | zero=>simp at e;subst e;exact ⟨_,rfl,gc ik rk l,a,o,n,rfl,g,w,hd⟩
          | succ j=>simpa using x j p (by simpa using e)
    ·cases q
theorem qb4 (I:Inv X pins σ H s):∀ {k:SK},SqK X.K H a k vs->∃ its o n,Vals vs its/\s.heap.get? a=iJ o/\o.cls=.type k.cl/\o.dict=iL/\o.data=.seq its.toArray n/\vs.length<=sizeLine
 | .l,h=>let ⟨its,r,⟨o,n,m,c,b,hd⟩,hz⟩:=I.list h; ⟨its,o,n,r,m,c,b,hd,hz⟩
 | .t,h=>by obtain ⟨its,r,⟨o,m,c,n,hd⟩,hz⟩:=I.tuple h;obtain ⟨o2,d,b⟩:=I.tupleN h;rw [m] at d; cases d;exact ⟨its,o,n,r,m,c,b,hd,hz⟩
theorem qbb (m:C.K=X.K) (B:X.calm=iO):Qv X C .fr (.type "dict") qfw:=by
  intro pins s σ H xs us Q I r h;obtain ⟨x,F,dx,rfl,y,w,po⟩:=h;unfold qfw at po;cases e:Qw dx with
  | bad=>rw [e] at po; exact po.elim
  | exc c o=>cases dx <;> cases e
  | ok ds=>
   rw [e] at po;have po:PoV C .fr F H (match yp ds with | some ps=>.ok (.dct (ps.foldl (λl p=>wB l p.1 p.2) [])) | none=>.bad) Q:=po;cases q:yp ds with
   | none=>simp only [q] at po; exact po.elim
   | some ps=>
    simp only [q] at po;obtain ⟨a,sk,vs,rfl,hq,t⟩:=UJ y w e;obtain ⟨u,rfl,A⟩:=yO r;cases A;rw [m] at hq;obtain ⟨its,o,n,i,z,g,d,hd,hz⟩:=qb4 I hq;obtain ⟨pv,tr,h1,h2,h3,G,D⟩:=UM m I y t i q;have k:=i.length;refine gq (ps:=tr) (I.ok.hd B) z g d hd (by simp [h3]) (λj p e=>?_) (by simp; omega) λh' tk f kp=>?_;· obtain ⟨v,e1,J⟩:=D j p e;exact ⟨v,by simpa using e1,J⟩
    · have hp:H s.heap.objs.size=none:=I.hok.fresh (ax _);obtain ⟨s2,c2,E⟩:=vt (u:=.dK (pv.foldl (λl p=>Qp l p.1 p.2) [])) y hp;have hl:(pv.foldl (λl p=>Qp l p.1 p.2) ([]:List (Key×V))).length<=sizeLine:=by have:=@UL pv [];simp at this;omega
      have b:(s.heap.objs.size == sysModules)=false:=beq_eq_false_iff_ne.mpr (cS I.big);refine ⟨.ref s.heap.objs.size,_,I.laid (o:=.dK (pv.foldl (λl p=>Qp l p.1 p.2) [])) (t':=tk) kp (ax _) (Zd hl b (ZN h2 .nil) f),rfl,po _ F _ s2 c2 ⟨_,rfl,hp,E,_,qo,UK h1 .nil⟩⟩
theorem qds (m:C.K=X.K) (d:X.calm=iO):Qv X C .fr (.type "dict") qba:=by
 intro pins s σ H xs us Q I r h;obtain ⟨x,F,dx,rfl,y,t,po⟩:=h;cases dx <;> try exact po.elim
 exact qbb m d pins s σ H _ us Q I r ⟨x,F,_,rfl,y,t,po⟩
noncomputable def kW (kvs:List (Key×D)) (k:Key):Bool:=kvs.any λp=>decide (p.1=k)
noncomputable def inA:D->D->Out D
 | x,.dct kvs=>match VP x with
  | some k=>.ok (.bl (kW kvs k))
  | none=>.bad
 | x,y=>qe9 x y
noncomputable def Js:D->D->Out D
 | x,.dct kvs=>match VP x with
  | some k=>.ok (.bl (!kW kvs k))
  | none=>.bad
 | x,y=>Wb x y
theorem UN {ks:List (Key×D)} {k:Key} (h:IsK K F kv ks):(Um kv k).isSome=kW ks k:=by rw [<-Jj,h.any]; rfl
theorem qhr {k:Key} (h:TopIs C.K F H v d) (e:VP d=iJ k):v=kV k:=by
 cases d with
 | int z=>cases e; exact h.int
 | str z=>cases e; exact h.str.1
 | _=>cases e
theorem UO (m:C.K=X.K) (f:X.A.units+64 < cLine):OpD X C .sh (compareOp .In) inA:=by
 intro pins s σ H x y v u Q I r c h;obtain ⟨F,dx,d,b,t,ty,po⟩:=h;by_cases hd:∃ kvs,d=.dct kvs
 ·obtain ⟨kvs,rfl⟩:=hd;cases q:VP dx with
  | none=>unfold inA at po; simp only [q] at po; exact po.elim
  | some k=>
   unfold inA at po;simp only [q] at po;obtain ⟨a,kv,rfl,g,i⟩:=ty.dct b;cases c;have ex:=qhr t q;subst ex;refine qiP (by omega) I (DGet.k (k:=k) g) r λs' j=>⟨.bl _,H,j,rfl,?_⟩
   rw [UN i];exact po _ F H b .refl (.bl _)
 ·have e:inA dx d=qe9 dx d:=by cases d <;> first | rfl | exact absurd ⟨_,rfl⟩ hd
  rw [e] at po;exact qhg m f pins s σ H x y v u Q I r c ⟨F,dx,d,b,t,ty,po⟩
theorem xb (m:C.K=X.K) (f:X.A.units+64 < cLine):OpD X C .sh (compareOp .NotIn) Js:=by
 intro pins s σ H x y v u Q I r c h;obtain ⟨F,dx,d,b,t,ty,po⟩:=h;by_cases hd:∃ kvs,d=.dct kvs
 ·obtain ⟨kvs,rfl⟩:=hd;cases q:VP dx with
  | none=>unfold Js at po; simp only [q] at po; exact po.elim
  | some k=>
   unfold Js at po;simp only [q] at po;obtain ⟨a,kv,rfl,g,i⟩:=ty.dct b;cases c;have ex:=qhr t q;subst ex;refine qcZ (by omega) I (DGet.k (k:=k) g) r λs' j=>⟨.bl _,H,j,rfl,?_⟩
   rw [UN i];exact po _ F H b .refl (.bl _)
 ·have e:Js dx d=Wb dx d:=by cases d <;> first | rfl | exact absurd ⟨_,rfl⟩ hd
  rw [e] at po;exact qaQ m f pins s σ H x y v u Q I r c ⟨F,dx,d,b,t,ty,po⟩
end
theorem qdt (t:j8) (es:Array (Int×iM)) (h:Int) (x:iM):(layNew t es h x).2.1.led=t.led:=by
 unfold layNew;cases t.freeSlot h with
 | none=>rfl
 | some p=>obtain ⟨sl,w⟩:=p;show (SetTable.orStandIn (t.put sl).1 _).led=t.led;unfold SetTable.orStandIn;split <;> rfl
theorem qdu {m f v:Nat} {l p:Bool} {hs:Array Int} {t:j8} {o:Array Nat} (h:ip m f v l p hs=iJ (t,o)):t.led=l/\t.plain=p:=by
 unfold ip at h;cases e:SetTable.layClean m hs with
 | none=>rw [e] at h;cases h
 | some ow=>rw [e] at h;have h2:=congrArg Prod.fst (ba.inj h);subst h2;exact ⟨rfl,rfl⟩
theorem Wl (t:j8) (es:Array (Int×iM)) (n:Nat):(relayAll t es n).2.1.led=t.led/\(t.plain=iN->(relayAll t es n).2.1.plain=iN):=by
 unfold relayAll;cases e:t.relaid (es.map (·.1)) n with
 | none=>exact ⟨rfl,λ_=>rfl⟩
 | some q=>
  obtain ⟨t',o⟩:=q;have k:=qdu (show ip _ _ _ _ _ _=iJ (t',o) from e);dsimp only;split;·exact ⟨k.1,λz=>k.2.trans z⟩
  ·exact ⟨rfl,λ_=>rfl⟩
variable {κ:Type}
noncomputable def xB [DecidableEq κ] (ks:List κ) (x:κ):List κ:=if x∈ks then ks else ks++[x]
noncomputable def zg (ks:List Str) (x:Str):List Str:=if x∈ks then ks else ks++[x]
noncomputable def kq (es:Array (Int×iM)) (ep:Nat) (t:j8):Obj:={ cls:=.type "set",dict:=iL,data:=.set es ep t,slots:=#[] }
structure KP (κ:Type) [DecidableEq κ] where
 kd:∀ (p:iR) (w:iS),PySem.KeyKind p w κ
 of:iM->κ
 pb:Bool
 ofi:∀ {p:iR} {w:iS} {x:κ} {v:iM},(kd p w).is x v=iO->of v=x
 sc:∀ {p:iR} {w:iS} {x:κ} {v:iM},(kd p w).is x v=iO->v.scannable=iO
 pl:∀ {p:iR} {w:iS} {x:κ} {v:iM},(kd p w).is x v=iO->pb=iO->plainKind v=iN
noncomputable def KpS:KP Str where
 kd:=PySem.strKind
 of:=strOf
 pb:=iO
 ofi:=λh=>let ⟨_,e⟩:=cX h; by rw [e]; rfl
 sc:=λh=>let ⟨_,e⟩:=cX h; by rw [e]; rfl
 pl:=λh _=>let ⟨_,e⟩:=cX h; by rw [e]; rfl
structure SetG {κ:Type} [DecidableEq κ] (T:KP κ) (prog:iR) (w:iS) (es:Array (Int×iM)) (t:j8) (ks:List κ):Prop where
 el:ElemsOf (T.kd prog w) es.toList
 perm:(es.toList.map λe=>T.of e.2).Perm ks
 nd:ks.Nodup
 bd:es.size < scanBound
 fits:t.fits es.size=iO
 led:t.led=!(w.params.followText "set-order")
 plain:T.pb=iO->ks≠[]->t.plain=iN
def SetK {κ:Type} [DecidableEq κ] (T:KP κ) (prog:iR) (w:iS) (h:Heap) (a:Addr) (ks:List κ):Prop:=∃ es ep t,h.get? a=iJ (kq es ep t)/\SetG T prog w es t ks
variable {es:Array (Int×iM)} {ep:Nat}
section
theorem qfx {l:List (Int×iM)} (h:ElemsOf (PySem.strKind prog w) l) {e:Int×iM} (i:e∈l):∃ x t,e.2=.str x t:=by obtain ⟨⟨k,b,_⟩,_⟩:=h e i;obtain ⟨t,a⟩:=cX b;exact ⟨k,t,a⟩
variable [DecidableEq κ] {T:KP κ}
theorem SetG.mem {t:j8} {ks:List κ} (h:SetG T prog w es t ks) {x:κ}:x∈ks↔∃ e∈es.toList,(T.kd prog w).is x e.2=true:=by
 rw [<-h.perm.mem_iff,aC];constructor;·rintro ⟨e,i,z⟩;obtain ⟨⟨k,a,_⟩,_⟩:=h.el e i;rw [T.ofi a] at z;exact ⟨e,i,z ▸ a⟩
 ·rintro ⟨e,i,z⟩;exact ⟨e,i,T.ofi z⟩
theorem SetG.size {t:j8} {ks:List κ} (h:SetG T prog w es t ks):es.size=ks.length:=by have e:=h.perm.length_eq;simpa using e
theorem qb5 {es':Array (Int×iM)} {t t':j8} (m:h.get? a=iJ (kq es ep t)):(h.update a (iA es' t')).get? a=iJ (kq es' (ep+1) t'):=by have e:=aY (iA es' t') m (by rw [putSet_of (o:=kq es ep t) es' t' rfl]; rfl);rw [putSet_of (o:=kq es ep t) es' t' rfl] at e;exact e
theorem SetG.more {e:Array (Int×iM)} {t g:j8} {ks:List κ} {x:κ} {v:iM} (h:SetG T prog w es t ks) (c:(T.kd prog w).is x v=iO) (nx:x∉ks) (r:ks.length+1 < scanBound)
  (hp:e.toList.Perm (es.toList++[((T.kd prog w).hash x,v)])) (f:g.fits e.size=iO) (hl:g.led=t.led) (hq:T.pb=iO->g.plain=iN):SetG T prog w e g (xB ks x):=by
 have ex:xB ks x=ks++[x]:=if_neg nx;have hz:e.size=ks.length+1:=by rw [<-cG,hp.length_eq,aj,cG,h.size];rfl
 rw [ex];refine ⟨(h.el.push c (T.sc c)).perm hp,?_,?_,?_,f,hl.trans h.led,λb _=>hq b⟩;·refine (hp.map _).trans ?_;rw [cQ,List.map_singleton,T.ofi c];exact h.perm.append (cK _)
 ·exact eU.mpr ⟨h.nd,by simp,λa i b d=>by rw [aA.mp d]; exact λz=>nx (z ▸ i)⟩
 ·rw [hz];exact r
theorem qdv {ks:List κ} {x:κ} {v:iM} {Q:Bool->iP->Prop} (m:(T.kd prog w).is x v=iO) (S:SetK T prog w s.heap a ks) (J:ks.length+1 < scanBound)
  (h:∀ h' b,bn a s.heap h'->SetK T prog w h' a (xB ks x)->Q b { s with heap:=h' }):wpAny (model prog w) A (setAddHashed a v ((T.kd prog w).hash x)) Q E s:=by
 obtain ⟨es,ep,t,o,d⟩:=S;unfold setAddHashed setAddHashedIn;refine i3 (iK (k9 o rfl d.fits ?_));dsimp only;rw [byScan_of (T.sc m) d.bd d.el,if_pos rfl];unfold setAddByScan;refine iK (iK (lp (iK (wpAny_setScan_of m o rfl d.fits d.el ?_))));cases hq:es.toList.findIdx? (λe=>(T.kd prog w).is x e.2) with
 | some j=>obtain ⟨N,hp,_⟩:=List.findIdx?_eq_some_iff_getElem.mp hq;have hx:x∈ks:=d.mem.mpr ⟨_,cr N,hp⟩;have q:=h s.heap iN (Heap.SameBut.refl a s.heap) ⟨es,ep,t,o,by rw [show xB ks x=ks from if_pos hx]; exact d⟩;dsimp only;exact iQ (iQ q)
 | none=>
  have hx:x∉ks:=λz=>by obtain ⟨e,O,q⟩:=d.mem.mp z;have:=List.findIdx?_eq_none_iff.mp hq e O;rw [q] at this;cases this
  dsimp only;have hp:=layNew_perm t es ((T.kd prog w).hash x) v;have n:=layNew_fits t es ((T.kd prog w).hash x) v;have hl:=qdt t es ((T.kd prog w).hash x) v;generalize layNew t es ((T.kd prog w).hash x) v=L at hp n hl ⊢;obtain ⟨c,u,M,P⟩:=L;dsimp only at hp n hl ⊢;rw [fN] at hp;have l:∀ f:j8,f.fits c.size=iO->f.led=t.led->(T.pb=iO->f.plain=iN)->wpAny (model prog w) A (do
    storeSet a c f
    if (!M&&f.tooFull)=iO then do
      (match (relayAll f c (c7 c.size)).2.2 with | true=>rule "set.scan.the-table-gave-way" | false=>pure ())
      storeSet a (relayAll f c (c7 c.size)).1 (relayAll f c (c7 c.size)).2.1
      pure (iJ iO)
     else pure (iJ iO)) (λr s'=>∃ h',s'={ s with heap:=h' }/\r=iJ iO/\bn a s.heap h'/\SetK T prog w h' a (xB ks x)) E s:=by
   intro f f2 I p2;have d2:=d.more m hx J hp f2 I p2;refine iK (wpAny_storeSet_of o rfl ?_ (lE d2.bd));have i:=qb5 (es':=c) (t':=f) o;have y:=bq s.heap a (iA c f);split
   ·have C:=relayAll_perm f c (c7 c.size);have D:=relayAll_fits f c (c7 c.size);have B:=Wl f c (c7 c.size);generalize relayAll f c (c7 c.size)=R at C D B ⊢;obtain ⟨p,H,Y⟩:=R;dsimp only at C D B ⊢;have K:=d.more m hx J (C.trans hp) D (B.1.trans I) (λb=>B.2 (p2 b));refine iK ?_;have go:wpAny (model prog w) A (storeSet a p H >>= λ_=>pure (iJ iO)) (λr s'=>∃ h',s'={ s with heap:=h' }/\r=iJ iO/\bn a s.heap h'/\SetK T prog w h' a (xB ks x)) E { s with heap:=s.heap.update a (iA c f) }:=
     iK (wpAny_storeSet_of i rfl (iQ ⟨_,rfl,rfl,y.trans (bq _ a _),p,_,H,qb5 i,K⟩) (lE K.bd))
    cases Y;·exact iQ go
    ·exact lp go
   ·exact iQ ⟨_,rfl,rfl,y,c,_,f,i,d2⟩
  have fin:∀ (r:Option Bool) (s':iP),(∃ h',s'={ s with heap:=h' }/\r=iJ iO/\bn a s.heap h'/\SetK T prog w h' a (xB ks x)) ->wpAny (model prog w) A (match r with | some k=>pure k | none=>setAddHashedIn a v ((T.kd prog w).hash x) 99999) Q E s':=by rintro r s' ⟨h',rfl,rfl,y,S⟩;exact iQ (h h' iO y S)
  have gw:∀ (b:Bool) {g:iP} {G:Unit->iP->Prop},G () g->wpAny (model prog w) A (match b with | true=>rule "set.scan.the-table-gave-way" | false=>pure ()) G E g:=λb g G q=>by
   cases b;·exact iQ q
   ·exact lp q
  refine iK (gw _ ?_);cases e1:u.plain with
  | true=>rw [if_pos rfl,hashByValue_scannable 8 (T.sc m)];refine iK (iQ ?_);exact lg (l (if plainKind v=iO then u else { u with plain:=iN }) (by split; exact n; exact SetTable.fits_plain_off n) (by split <;> exact hl) (λb=>by rw [T.pl m b]; rfl)) fin λ_ _ z=>z
  | false=>rw [if_neg (by simp)];refine iK (iQ ?_);exact lg (l u n hl λ_=>e1) fin λ_ _ z=>z
end
theorem qbc [DecidableEq κ] (ks:List κ) (x:κ):(xB ks x).length<=ks.length+1:=by
 unfold xB;split;·omega
 ·rw [aj];exact ax _
theorem xc [DecidableEq κ]:∀ (l ks:List κ),(l.foldl xB ks).length<=ks.length+l.length
 | [],ks=>ax _
 | x::l,ks=>by have h1:=xc l (xB ks x);have h2:=qbc ks x;rw [cj,aq];omega
theorem UP:(xB:List Str->Str->List Str)=zg:=by funext ks x;unfold xB zg;congr
theorem gt (l ks:List Str):(l.foldl zg ks).length<=ks.length+l.length:=by rw [<-UP];exact xc l ks
theorem SetK.at [DecidableEq κ] {T:KP κ} {ks:List κ} (S:SetK T prog w h a ks) (k:∀ o,h.get? a=iJ o->h'.get? a=iJ o):SetK T prog w h' a ks:=
 let ⟨es,ep,t,m,d⟩:=S; ⟨es,ep,t,k _ m,d⟩
section
variable [DecidableEq κ] {T:KP κ} {R:lS->iP->Prop} {I:Addr} {fp wr:List Addr} {P:Nat->iM->Prop} {St:Nat->iP->Prop}
theorem qbd {G:Array lR->Array lR->Prop} (W:WalksS prog w A.in1 I fp wr G n P St) (S:Addr) (j:S∉fp) (ss:List κ) (K:ss.length=n) (J:∀ i v,P i v->∃ x,ss[i]?=iJ x/\(T.kd prog w).is x v=iO) (d:n+1 < scanBound):∀ (k i:Nat) (s:iP),n - i=k->i<=n->St i s->SetK T prog w s.heap S ((ss.take i).foldl xB []) ->(∀ s',Moved (S::wr) G s s'->SetK T prog w s'.heap S (ss.foldl xB [])->R (.ok (.ret .none)) s')->codeAny (model prog w) A (.builtin "set.update.loop" ⟨[.ref S,.ref I],[]⟩) R s:=by
 have E:S∉wr:=λh=>j (W.sub _ h);have up:∀ b∈wr,b∈S::wr:=λb d=>af _ d;intro k
 induction k with
 | zero=>
  intro i s q hi c r C;have y:i=n:=by omega
  subst y;refine i8 F.entry_set_update_loop ?_;rw [bv eh _]; show wpAny _ A.in1 (pyNext (.ref I) >>= _) _ _ s;refine iK (W.done s _ _ c λs' g=>iQ (C s' (g.mono up) ?_));rw [List.take_of_length_le (fB K)] at r;exact r.at λo e=>g.heap S o E e
 | succ k H=>
  intro i s q hi c r C;have t:i < n:=by omega
  refine i8 F.entry_set_update_loop ?_;rw [bv eh _]; show wpAny _ A.in1 (pyNext (.ref I) >>= _) _ _ s;refine iK (W.item i s _ _ t c λv s' L a g=>?_);obtain ⟨x,hx,q⟩:=J i v L;have B:SetK T prog w s'.heap S ((ss.take i).foldl xB []):=r.at λo e=>g.heap S o E e;show wpAny _ A.in1 (holding [v] (setAdd S v) >>= _) _ _ s';refine iK (i3 ?_);unfold setAdd;refine i3 (iK ((T.kd prog w).pyHash q ?_));have m:((ss.take i).foldl xB []).length+1 < scanBound:=by have h1:=xc (ss.take i) [];rw [bT,bg] at h1;omega
  refine qdv (s:={ s' with toks:=s'.toks+1 }) q B m λh' b D l=>?_;have M:xB ((ss.take i).foldl xB []) x=(ss.take (i+1)).foldl xB []:=by rw [List.take_add_one,hx,List.foldl_append];rfl
  rw [M] at l;refine iQ ⟨lq eh _,H (i+1) _ (by omega) t (W.frame _ s' _ _ a (ib _) λb d o e=>?_) l λu f p=>?_⟩;·rw [D.2 b λz:b=S=>j (z ▸ d)];exact e
  ·refine C u (Moved.trans W.gtrans ((g.mono up).then_heap (ib _) λb o d e=>?_) f) p;rw [D.2 b λz:b=S=>d (z ▸ aw)];exact e
end
section
variable [DecidableEq κ] {T:KP κ}
abbrev qfy (w:iS):Obj:=kq #[] 0 (.fresh 0 0 (!(w.params.followText "set-order")))
theorem ZO (e:h.get? a=iJ (qfy w)):SetK T prog w h a []:=
 ⟨_,_,_,e,⟨λe i=>by simp at i,by simp,c8,by decide,by rfl,rfl,λ_ z=>absurd rfl z⟩⟩
theorem qdw (a:iM) {Q₁:iM->iP->Prop} (h:Q₁ (.ref s.heap.objs.size) { s with heap:=s.heap.push (qfy w) }):codeAny (model prog w) A (.call (.builtin "set.__new__") ⟨[.type "set",a],[]⟩) (wants Q₁ E) s:=by
 refine codeAny_of_tree ?_; show wpAny _ A.in1 (do checkBuiltinCall "set.__new__" ⟨[.type "set",a],[]⟩; again (.builtin "set.__new__" ⟨[.type "set",a],[]⟩)) _ _ s;refine iK (lT (PySem.F.newCall_set_1 a) (iQ ⟨lq PySem.F.plain_set_new _,i8 PySem.F.entry_set_new ?_⟩)); rw [bv PySem.F.plain_set_new _];unfold Builtin.«set.__new__» Builtin.Frozenset.newClass; have b:=sub_set_self; obtain ⟨hp,g,d,tk,os⟩:=s; dsimp only; wp_walk
 refine j9 (iQ ?_); dsimp only; simp only [newObj];exact iK (wpAny_alloc (iQ (iQ h)))
theorem Wm:isSubtype (.type "tuple") (.type "set")=pure false:=by rw [lF]; kernel_rfl
theorem Qy:isSubtype (.type "tuple") (.type "frozenset")=pure false:=by rw [lF]; kernel_rfl
theorem qbe:∀ sk:SK,isSubtype (.type sk.cl) (.type "set")=pure iN
 | .l=>PySem.F.sub_list_set
 | .t=>Wm
theorem Wn:∀ sk:SK,isSubtype (.type sk.cl) (.type "frozenset")=pure iN
 | .l=>PySem.F.sub_list_frozenset
 | .t=>Qy
theorem qfz (b:A.handled=iL) (sk:SK) (it l:Addr) (e:l≠it) (items:Array iM):Walks prog w A it [it,l] [it] items.size (λi v=>items[i]?=iJ v) (λi h=>ItK h it l sk i/\SeqK h l sk items):=by
 cases sk with
 | l=>exact iH b it l e items
 | t=>exact Walks.tuple b it l e items
theorem SeqK.ty:∀ {sk:SK},SeqK s.heap a sk xs->s.TypeIs (.ref a) sk.cl
 | .l,⟨o,e,c,_⟩=>⟨o,e,c⟩
 | .t,⟨o,e,c,_⟩=>⟨o,e,c⟩
theorem qiS {S:Addr} {ss:List κ} {Q:Unit->iP->Prop} (q:A.handled=iL) (k:SetK T prog w s.heap S []) (hl:SeqK s.heap l sk items) (p:ss.length=items.size) (hi:∀ (i:Nat) (v:iM),items[i]?=iJ v->∃ x,ss[i]?=iJ x/\(T.kd prog w).is x v=iO) (j:items.size+1 < scanBound) (g:l≠S)
  (h:∀ h' tk,SetK T prog w h' S (ss.foldl xB [])->(∀ b o,b≠S->s.heap.get? b=iJ o->h'.get? b=iJ o)->Q () { s with heap:=h',toks:=tk }) :
  wpAny (model prog w) A (cD "set.__init__" S (.ref l)) Q E s:=by
 have hT:=hl.ty;unfold cD;refine iK (m:=Builtin.Frozenset.isAnySet _) ?_;unfold Builtin.Frozenset.isAnySet;refine iK (lf hT (qbe sk) ?_);refine lf hT (Wn sk) ?_;rw [if_neg (by decide)];refine iK (lD hT ?_);rw [if_neg (by cases sk <;> decide)];refine iK (qa7 hl ?_);have hz:s.heap.objs.size≠S:=λz=>by obtain ⟨es,ep,t,n,_⟩:=k;exact bQ _ (z ▸ ap n)
 have d:l≠s.heap.objs.size:=aG hl.lt;refine iK (wpAny_runValue (qbd ((qfz (A:=A.in1) q sk _ l d items).toS) S ?_ ss p hi j items.size 0 _ (by omega) (bu _) ⟨.of ⟨_,ah _ rfl,rfl,rfl⟩,hl.at λo e=>aa _ e⟩ ?_ ?_))
 ·intro z;rcases ac.mp z with z | z;·exact hz z.symm
  ·exact g (aA.mp z).symm
 ·exact k.at λo e=>aa _ e
 ·intro s' c B;obtain ⟨h',g',d',f,a⟩:=s';have u:g'=s.gens:=c.gens;have y:d'=s.drawn:=c.drawn;have r:a=s.os:=c.os;subst u y r;refine iQ (h h' f B λb o j e=>c.heap b o ?_ (aa _ e));intro z;rcases ac.mp z with z | z;·exact j z
  ·rw [aA.mp z] at e;exact bQ _ (ap e)
set_option maxHeartbeats 3200000 in
theorem ZP {l:Addr} {ks:List κ} {Q:iM->iP->Prop}
  (p:∀ (A1:iV) (L:Unit->iP->Prop) (D:iM->iP->Prop),A1.handled=A.handled->(∀ h' tk,SetK T prog w h' s.heap.objs.size ks->(∀ b o,s.heap.get? b=iJ o->h'.get? b=iJ o)->L () { s with heap:=h',toks:=tk }) ->wpAny (model prog w) A1 (cD "set.__init__" s.heap.objs.size (.ref l)) L D { s with heap:=s.heap.push (qfy w) })
  (h:∀ h' tk,SetK T prog w h' s.heap.objs.size ks->(∀ b o,s.heap.get? b=iJ o->h'.get? b=iJ o)->Q (.ref s.heap.objs.size) { s with heap:=h',toks:=tk }) :
  wpAny (model prog w) A (call (.type "set") [.ref l]) Q E s:=by
 have i:∀ {Q₁:iM->iP->Prop},Q₁ (.ref s.heap.objs.size) { s with heap:=s.heap.push (qfy w) }->codeAny (model prog w) A.in1 (.call (.builtin "set.__new__") ⟨[.type "set",.ref l],[]⟩) (wants Q₁ E) s:=λh=>qdw (.ref l) h;unfold qfy kq at i p;generalize (!(w.params.followText "set-order"))=led at i p;obtain ⟨c,tl,t⟩:=bS.mro;have m:=bS.made;have q:=bS.sub;refine lY (codeAny_of_tree ?_); show wpAny _ _ (callAny (.type "set") _) _ _ _;refine iQ ⟨Code.quiet_builtin _ (by decide +kernel),i8 PySem.F.entry_type_call ?_⟩; rw [Around.under_plain (weight_type_call_type "set" [.ref l] []) rfl];have h1:=bS.notType;have h2:=bS.canCreate;have x:=PySem.F.typeCall_set_1 (.ref l);repeat (any_goals (first | assumption | wp_step))
 refine lx (i (Q₁:=λobj f=>obj=.ref s.heap.objs.size/\f={ s with heap:=s.heap.push { cls:=.type "set",dict:=iL,data:=.set #[] 0 (.fresh 0 0 led) } }) ⟨rfl,rfl⟩) λr f k=>?_;cases r with
 | error e=>exact k
 | ok C=>
  cases C with
  | ret obj=>
   obtain ⟨rfl,rfl⟩:=k;have S:(s.heap.push { cls:=.type "set",dict:=iL,data:=.set #[] 0 (.fresh 0 0 led) }).get? s.heap.objs.size=iJ { cls:=.type "set",dict:=iL,data:=.set #[] 0 (.fresh 0 0 led) }:=ah _ rfl;have hT:fX { s with heap:=s.heap.push { cls:=.type "set",dict:=iL,data:=.set #[] 0 (.fresh 0 0 led) } } (.ref s.heap.objs.size) "set":=⟨_,S,rfl⟩
   have u:=bS.init.lookup;have y:=bS.init.bind (.ref s.heap.objs.size);repeat (any_goals (first | assumption | wp_step))
   refine lx (codeAny_call_builtin (R:=wants (λr d=>r=.none/\∃ h' tk,d={ s with heap:=h',toks:=tk }/\SetK T prog w h' s.heap.objs.size ks/\(∀ b o,s.heap.get? b=iJ o->h'.get? b=iJ o)) E) bS.init.plain PySem.F.entry_set_init (check_set_init_1 hT ?_)) λj d a=>?_
   ·unfold Builtin.«set.__init__» noKeywords;generalize z:cD=U;wp_walk
    subst z;refine p _ _ _ rfl λh' tk B v=>?_;exact iQ ⟨rfl,h',tk,rfl,B,v⟩
   ·cases j with
    | error e=>exact a
    | ok g=>
     cases g with
     | ret r=>
      obtain ⟨rfl,h',tk,rfl,B,n⟩:=a;repeat (any_goals (first | assumption | wp_step))
      exact h _ _ B n
     | _=>exact a.elim
  | _=>exact k.elim
end
theorem xI {α:Type}:∀ {xs:List α} {i:Nat} (h:i < xs.length),(xs[i]::xs.eraseIdx i).Perm xs
 | [],_,h=>absurd h (dZ _)
 | x::xs,0,h=>cK _
 | x::xs,i+1,h=>(List.Perm.swap _ _ _).trans ((xI (xs:=xs) (i:=i) (Nat.lt_of_succ_lt_succ h)).cons x)
variable {M:Model}
theorem Xb {c:Source} {Q:Nat->iP->Prop} (a:n≠0) (h:∀ i d',i < n->Q i { s with drawn:=d' }):wpAny M A (choose c n) Q E s:=
 λ_ _ _=>⟨a,h _ _ (Nat.mod_lt _ (Nat.pos_of_ne_zero a))⟩
variable {α:Type}
theorem ZQ:∀ (n:Nat) (xs:List α) (s:iP) {Q:List α->iP->Prop},n=xs.length->(∀ ys d',ys.Perm xs->Q ys { s with drawn:=d' })->wpAny M A (drawOrder n xs) Q E s
 | 0,xs,s,Q,hn,h=>by
  cases xs with
  | nil=>exact iQ (h [] s.drawn (cK _))
  | cons x l=>cases hn
 | n+1,[],s,Q,hn,h=>by cases hn
 | n+1,x::l,s,Q,hn,h=>by show wpAny M A (choose .order (x::l).length >>= _) Q E s;refine iK (Xb (by simp) λi d' hi=>?_);have e:(x::l)[i]?=iJ (x::l)[i]:=aE hi;rw [e];refine iK (ZQ n _ _ (by rw [List.length_eraseIdx_of_lt hi]; simp only [aq] at hn ⊢; omega) λys d2 hp=>iQ (h _ d2 ?_));exact (hp.cons _).trans (xI hi)
theorem ZR (next:Nat->Nat):∀ (f k:Nat) (left:List α) (out:Array α),f=left.length->(pickOrder.go next f k left out).toList.Perm (out.toList++left)
 | 0,k,left,out,hf=>by
  cases left with
  | nil=>rw [bw];exact cK _
  | cons x l=>cases hf
 | f+1,k,left,out,hf=>by have t:next k % left.length < left.length:=Nat.mod_lt _ (by omega);have e:left[next k % left.length]?=iJ left[next k % left.length]:=aE t;unfold pickOrder.go;rw [e];refine (ZR next f (k+1) _ _ (by rw [List.length_eraseIdx_of_lt t]; omega)).trans ?_;rw [fN,cV];exact List.Perm.append_left _ (xI t)
theorem gu (next:Nat->Nat) (xs:Array α):(pickOrder next xs).toList.Perm xs.toList:=by unfold pickOrder;exact ZR next _ _ _ _ (by simp)
noncomputable def uz (first:iM) (i:Nat) (a:Addr) (n ep:Nat):Obj:={ cls:=.type "set_iterator",data:=.fields #[first,rawInt i,.ref a,rawInt n,rawInt ep] }
theorem slot_si_next:Slot "set_iterator" "__next__" "set_iterator.__next__":=
 .of (owner := "set_iterator") (n := "__next__") (by rw [lv,lb]; kernel_rfl) (by decide +kernel) (by decide +kernel) (by decide +kernel) (by first | exact .inl (by decide +kernel) | exact .inr (by decide +kernel)) (by rw [lF]; kernel_rfl)
theorem zh:Slot "set_iterator" "__iter__" "set_iterator.__iter__":=
 .of (owner := "set_iterator") (n := "__iter__") (by rw [lv,lb]; kernel_rfl) (by decide +kernel) (by decide +kernel) (by decide +kernel) (by first | exact .inl (by decide +kernel) | exact .inr (by decide +kernel)) (by rw [lF]; kernel_rfl)
theorem vJ (a:iM):argsOk "set_iterator.__next__" ⟨[a],[]⟩:=by unfold argsOk; kernel_rfl
theorem Vc (a:iM):argsOk "set_iterator.__iter__" ⟨[a],[]⟩:=by unfold argsOk; kernel_rfl
theorem kX:entryFor table "set_iterator.__next__"=iJ Builtin.«set_iterator.__next__»:=entryFor_of_tree (by kernel_rfl)
theorem Jt:entryFor table "set_iterator.__iter__"=iJ Builtin.«dict_keyiterator.__iter__»:=entryFor_alias (id' := "dict_keyiterator.__iter__") (by kernel_rfl) rfl (by decide +kernel) (by kernel_rfl)
theorem Vd:entryFor table "set.__iter__"=iJ Builtin.«frozenset.__iter__»:=entryFor_alias (id' := "frozenset.__iter__") (by kernel_rfl) rfl (by decide +kernel) (by kernel_rfl)
variable {ks:List Str} {p:Addr} {b:Bool} {ps:List Nat}
section
theorem vB (d:w.params.followText "set-order"=b):({ program:=(model prog w).prog,params:=(model prog w).w.params }:Setting).params.followText "set-order"=b:=d
theorem Ve {sl nx:Nat} {t:j8} {x:iM} {Q:Option iM->iP->Prop} (hi:s.heap.get? it=iJ (uz (rawInt sl) i a n ep)) (g:s.heap.get? a=iJ (kq es ep t)) (f:t.fits es.size=iO) (hz:es.size=n)
  (h:∀ (A1:iV) (L:Option (iM×Nat)->iP->Prop) (R:iM->iP->Prop),L (iJ (x,nx)) s->wpAny (model prog w) A1 (setNext a sl i ep) L R s)
  (c:∀ h',h'.get? it=iJ (uz (rawInt nx) (i+1) a n ep)->bn it s.heap h'->Q (iJ x) { s with heap:=h' }):wpAny (model prog w) A (pyNext (.ref it)) Q E s:=by
 have hT:s.TypeIs (.ref it) "set_iterator":=⟨_,hi,rfl⟩
 unfold pyNext;refine iK (k7 (iU (name:=ae "__next__") hT slot_si_next (iW slot_si_next hT kX ?_ (vJ _))));show wpAny _ _ (fieldsOf (.ref it) >>= _) _ _ s;refine iK (lL hi rfl ?_);show wpAny _ _ (setEntries a >>= _) _ _ s;refine iK (lr g rfl f ?_);rw [if_neg (by rw [hz]; simp)];show wpAny _ _ (setNext a sl i ep >>= _) _ _ s;refine iK (h _ _ _ ?_);show wpAny _ _ (setField (.ref it) 0 (rawInt nx) >>= _) _ _ s;refine iK (lh hi rfl (by simp) ?_);have h1:(s.heap.update it (Obj.mapFields (·.setIfInBounds 0 (rawInt nx)))).get? it=iJ (uz (rawInt nx) i a n ep):=aY _ hi rfl;refine iK (lh h1 rfl (by simp) (iQ ⟨x,rfl,iQ (c _ ?_ ((bq ..).trans (bq ..)))⟩));exact aY _ h1 rfl
theorem Vf {sl:Nat} {t:j8} {Q:Option iM->iP->Prop} (h:A.handled=iL) (hi:s.heap.get? it=iJ (uz (rawInt sl) i a n ep)) (g:s.heap.get? a=iJ (kq es ep t)) (f:t.fits es.size=iO) (hz:es.size=n)
  (c:∀ (A1:iV) (L:Option (iM×Nat)->iP->Prop) (R:iM->iP->Prop),L iL s->wpAny (model prog w) A1 (setNext a sl i ep) L R s)
  (d:∀ h',ic it s.heap h'->Q iL { s with heap:=h' }):wpAny (model prog w) A (pyNext (.ref it)) Q E s:=by
 have hT:s.TypeIs (.ref it) "set_iterator":=⟨_,hi,rfl⟩
 unfold pyNext;refine iK (k7 (iU (name:=ae "__next__") hT slot_si_next (iW slot_si_next hT kX ?_ (vJ _))));show wpAny _ _ (fieldsOf (.ref it) >>= _) _ _ s;refine iK (lL hi rfl ?_);show wpAny _ _ (setEntries a >>= _) _ _ s;refine iK (lr g rfl f ?_);rw [if_neg (by rw [hz]; simp)];show wpAny _ _ (setNext a sl i ep >>= _) _ _ s;refine iK (c _ _ _ ?_);show wpAny _ _ (setField (.ref it) 2 bA >>= _) _ _ s;refine iK (lh hi rfl (by simp) ?_); show wpAny _ _ (newExc (.type "StopIteration") [] >>= _) _ _ _;refine iK ?_; simp only [newExc,newTuple]; refine iK (iX ?_ (by size_fits));refine iK (m:=firstArgMember _ _) (lT (a:=bA) (by first | rfl | (simp only [firstArgMember]; rfl)) ?_); refine iX ?_ (by size_fits); simp only [raiseNew];refine iK (wpAny_handled ?_); first | rw [show A.in1.handled=iL from h] | rw [h]
 refine iK (iQ (wpAny_throw ?_)); refine iK (lf (T := "StopIteration") (b:=iO) ⟨_,ah _ rfl,rfl⟩ lM ?_);exact iQ (d _ (((bq ..).extBut.push _).push _))
theorem Xc {pl m:Nat} {t:j8} {hx:Int} {x:iM} {ps:Array iM} {Q:Option iM->iP->Prop} (hi:s.heap.get? it=iJ (uz (.ref p) i a n ep)) (g:s.heap.get? a=iJ (kq es ep t)) (h:t.fits es.size=iO) (hz:es.size=n)
  (hp:s.heap.get? p=iJ { cls:=.type "tuple",data:=.seq ps m }) (l:ps[i]?=iJ (rawInt pl)) (hx:es[pl]?=iJ (hx,x))
  (c:∀ h',h'.get? it=iJ (uz (.ref p) (i+1) a n ep)->bn it s.heap h'->Q (iJ x) { s with heap:=h' }):wpAny (model prog w) A (pyNext (.ref it)) Q E s:=by
 have hT:s.TypeIs (.ref it) "set_iterator":=⟨_,hi,rfl⟩
 unfold pyNext;refine iK (k7 (iU (name:=ae "__next__") hT slot_si_next (iW slot_si_next hT kX ?_ (vJ _))));show wpAny _ _ (fieldsOf (.ref it) >>= _) _ _ s;refine iK (lL hi rfl ?_);show wpAny _ _ (setEntries a >>= _) _ _ s;refine iK (lr g rfl h ?_);rw [if_neg (by rw [hz]; simp)];show wpAny _ _ (seqItems? (.ref p) >>= _) _ _ s;refine iK (iY hp rfl ?_);dsimp only;rw [show ps[Int.toNat (i:Int)]?=iJ (rawInt pl) from l];show wpAny _ _ (setNextDrawn a pl ep >>= _) _ _ s;refine iK ?_;unfold setNextDrawn;refine iK (k9 g rfl h ?_);dsimp only;rw [if_neg (by simp),hx];refine iQ ?_;show wpAny _ _ (setField (.ref it) 1 (rawInt (i+1)) >>= _) _ _ s;refine iK (lh hi rfl (by simp) (iQ ⟨x,rfl,iQ (c _ ?_ (bq ..))⟩));exact aY _ hi rfl
theorem ZS {m:Nat} {t:j8} {ps:Array iM} {Q:Option iM->iP->Prop} (h:A.handled=iL) (hi:s.heap.get? it=iJ (uz (.ref p) i a n ep)) (g:s.heap.get? a=iJ (kq es ep t)) (f:t.fits es.size=iO) (hz:es.size=n)
  (hp:s.heap.get? p=iJ { cls:=.type "tuple",data:=.seq ps m }) (l:ps[i]?=iL)
  (c:∀ h',ic it s.heap h'->Q iL { s with heap:=h' }):wpAny (model prog w) A (pyNext (.ref it)) Q E s:=by
 have hT:s.TypeIs (.ref it) "set_iterator":=⟨_,hi,rfl⟩
 unfold pyNext;refine iK (k7 (iU (name:=ae "__next__") hT slot_si_next (iW slot_si_next hT kX ?_ (vJ _))));show wpAny _ _ (fieldsOf (.ref it) >>= _) _ _ s;refine iK (lL hi rfl ?_);show wpAny _ _ (setEntries a >>= _) _ _ s;refine iK (lr g rfl f ?_);rw [if_neg (by rw [hz]; simp)];show wpAny _ _ (seqItems? (.ref p) >>= _) _ _ s;refine iK (iY hp rfl ?_);dsimp only;rw [show ps[Int.toNat (i:Int)]?=iL from l];show wpAny _ _ (setField (.ref it) 0 (rawInt 0) >>= _) _ _ s;refine iK (lh hi rfl (by simp) ?_);have h1:(s.heap.update it (Obj.mapFields (·.setIfInBounds 0 (rawInt 0)))).get? it=iJ (uz (rawInt 0) i a n ep):=aY _ hi rfl;refine iK (lh h1 rfl (by simp) ?_); show wpAny _ _ (newExc (.type "StopIteration") [] >>= _) _ _ _;refine iK ?_; simp only [newExc,newTuple]; refine iK (iX ?_ (by size_fits));refine iK (m:=firstArgMember _ _) (lT (a:=bA) (by first | rfl | (simp only [firstArgMember]; rfl)) ?_); refine iX ?_ (by size_fits); simp only [raiseNew];refine iK (wpAny_handled ?_); first | rw [show A.in1.handled=iL from h] | rw [h]
 refine iK (iQ (wpAny_throw ?_)); refine iK (lf (T := "StopIteration") (b:=iO) ⟨_,ah _ rfl,rfl⟩ lM ?_);exact iQ (c _ (((((bq ..).trans (bq ..))).extBut.push _).push _))
theorem gx {Q:iM->iP->Prop} (hi:s.heap.get? it=iJ o) (d:o.cls=.type "set_iterator") (h:Q (.ref it) s):wpAny (model prog w) A (pyIter (.ref it)) Q E s:=by
 have hT:s.TypeIs (.ref it) "set_iterator":=⟨_,hi,d⟩
 refine wpAny_pyIter_slot hT zh (iW zh hT Jt ?_ (Vc _)); show wpAny _ _ (ret (.ref it)) _ _ s;exact iQ ⟨_,rfl, "set_iterator",_,hT,slot_si_next.lookup,h⟩
theorem ZT {ep:Nat} {t:j8} (u:A.handled=iL) (d:w.params.followText "set-order"=iO) (f:t.fits es.size=iO) (g:a≠it):Walks prog w A it [it,a] [it] es.size (λi v=>((pickOrder (w.params.setOrder a ep) es).toList.map (·.2))[i]?=iJ v) (λi h=>h.get? it=iJ (uz (rawInt 0) i a es.size ep)/\h.get? a=iJ (kq es ep t)) where
 sub:=λb d=>by simp at d; simp [d]
 frame:=λ_ _ _ st p=>⟨p it (by simp) _ st.1,p a (by simp) _ st.2⟩
 item:=λi s Q E hi st c=>by
  have n:(pickOrder (w.params.setOrder a ep) es).size=es.size:=by have:=(gu (w.params.setOrder a ep) es).length_eq;simpa using this
  have j:i < (pickOrder (w.params.setOrder a ep) es).size:=by omega
  obtain ⟨e,he⟩:∃ e,(pickOrder (w.params.setOrder a ep) es)[i]?=iJ e:=⟨_,bK j⟩
  refine Ve (x:=e.2) (nx:=0) st.1 st.2 f rfl (λA1 L R q=>?_) λh' k l=>c e.2 h' s.toks ?_ ⟨k,?_⟩ λb o y r=>?_;·unfold setNext;refine iK (k9 st.2 rfl f ?_);dsimp only;refine iK (m:=setsByText) (iK (j9 (iQ ?_)));rw [vB d,if_pos rfl,if_neg (by simp)];refine iK ?_;unfold setWalk;refine iK (k9 st.2 rfl f ?_);dsimp only;refine iK (m:=setsByText) (iK (j9 (iQ ?_)));rw [vB d,if_pos rfl];refine iK (j9 (iQ ?_));refine iQ ?_;rw [show (pickOrder ((⟨(model prog w).prog,(model prog w).w.params⟩:Setting).params.setOrder a ep) es)[i]?=iJ e from he];exact q
  ·rw [aK,dD,he];rfl
  ·rw [l.2 a g];exact st.2
  ·rw [l.2 b (λz=>y (by simp [z]))];exact r
 done:=λs Q E st c=>by
  have n:(pickOrder (w.params.setOrder a ep) es).size=es.size:=by have:=(gu (w.params.setOrder a ep) es).length_eq;simpa using this
  refine Vf u st.1 st.2 f rfl (λA1 L R q=>?_) λh' eb=>c h' s.toks λb o y r=>eb b o (λz=>y (by simp [z])) r;unfold setNext;refine iK (k9 st.2 rfl f ?_);dsimp only;refine iK (m:=setsByText) (iK (j9 (iQ ?_)));rw [vB d,if_pos rfl,if_neg (by simp)];refine iK ?_;unfold setWalk;refine iK (k9 st.2 rfl f ?_);dsimp only;refine iK (m:=setsByText) (iK (j9 (iQ ?_)));rw [vB d,if_pos rfl];refine iK (j9 (iQ ?_));refine iQ ?_;rw [show (pickOrder ((⟨(model prog w).prog,(model prog w).w.params⟩:Setting).params.setOrder a ep) es)[es.size]?=iL from dj (fB n)];exact q
 self:=λi s Q E st c=>gx st.1 rfl c
noncomputable def yF (t:j8) (i:Nat):Nat:=if i=0 then 0 else t.place.getD 0 0+1
theorem Vg (j k:Nat):bt #[j] k=if j < k then 1 else 0:=by unfold bt;show bt.go #[j] k 1 0 1=_;unfold bt.go;rw [if_pos (by omega)];show (if (#[j]:Array Nat).getD 0 k < k then bt.go #[j] k 0 1 1 else bt.go #[j] k 0 0 0)=_;show (if j < k then bt.go #[j] k 0 1 1 else bt.go #[j] k 0 0 0)=_;split <;> rfl
theorem UQ {t:j8} {Q:Option (iM×Nat)->iP->Prop} (c:w.params.followText "set-order"=iN) (f:t.fits es.size=iO) (hl:t.led=iO) (hz:es.size<=1) (g:s.heap.get? a=iJ (kq es ep t)) (hi:i<=es.size)
  (q:Q (match es[i]? with | some e=>iJ (e.2,yF t (i+1)) | none=>iL) s):wpAny (model prog w) A (setNext a (yF t i) i ep) Q E s:=by
 have h:t.place.size=es.size:=by have:=f;simp only [SetTable.fits,aP,beq_iff_eq] at this;exact this.1
 unfold setNext;refine iK (k9 g rfl f ?_);dsimp only;refine iK (m:=setsByText) (iK (j9 (iQ ?_)));rw [vB c,if_neg (by simp)];show wpAny _ _ (if (!t.plain&&decide (es.size > 1))=iO then _ else _) _ _ _;rw [if_neg (by simp; intro _; omega)];refine iK ?_;show wpAny _ _ (if (!t.led&&!es.isEmpty)=iO then _ else _) _ _ _;rw [hl,if_neg (by simp)];refine iQ (iQ ?_);have e:(match es[bt t.place (yF t i)]?,t.place[bt t.place (yF t i)]? with | some (_,x),iJ j=>iJ (x,j+1) | _,_=>iL)=(match es[i]? with | some e=>iJ (e.2,yF t (i+1)) | none=>iL:Option (iM×Nat)):=by
  obtain ⟨l⟩:=es;obtain ⟨k,⟨pl⟩,u,fi,le,mo,pn⟩:=t;cases l with
  | nil=>simp
  | cons d l=>
   cases l with
   | cons _ _=>exact absurd hz (by simp)
   | nil=>
    cases pl with
    | nil=>exact absurd h (by simp)
    | cons j pl=>
     cases pl with
     | cons _ _=>exact absurd h (by simp)
     | nil=>
      have b:i=0\/i=1:=by simp at hi; omega
      rcases b with rfl | rfl;·show (match (#[d]:Array (Int×iM))[bt #[j] 0]?,(#[j]:Array Nat)[bt #[j] 0]? with | some (_,x),iJ j=>iJ (x,j+1) | _,_=>iL)=iJ (d.2,j+1);rw [Vg,if_neg (by omega)];rfl
      ·show (match (#[d]:Array (Int×iM))[bt #[j] (j+1)]?,(#[j]:Array Nat)[bt #[j] (j+1)]? with | some (_,x),iJ j=>iJ (x,j+1) | _,_=>iL)=iL;rw [Vg,if_pos (by omega)];rfl
 exact Eq.mp (congrArg (λz=>Q z s) e.symm) q
theorem qbf {ep:Nat} {t:j8} (m:A.handled=iL) (d:w.params.followText "set-order"=iN) (f:t.fits es.size=iO) (hl:t.led=iO) (hz:es.size<=1) (e:a≠it):Walks prog w A it [it,a] [it] es.size (λi v=>(es.toList.map (·.2))[i]?=iJ v) (λi h=>h.get? it=iJ (uz (rawInt (yF t i)) i a es.size ep)/\h.get? a=iJ (kq es ep t)) where
 sub:=λb d=>by simp at d; simp [d]
 frame:=λ_ _ _ st k=>⟨k it (by simp) _ st.1,k a (by simp) _ st.2⟩
 item:=λi s Q E hi st c=>by
  have l:es[i]?=iJ es[i]:=bK hi;refine Ve (x:=es[i].2) (nx:=yF t (i+1)) st.1 st.2 f rfl (λA1 L R q=>UQ d f hl hz st.2 (cH hi) (by rw [l]; exact q)) λh' g j=>c es[i].2 h' s.toks ?_ ⟨g,?_⟩ λb o y r=>?_;·rw [aK,dD,l];rfl
  ·rw [j.2 a e];exact st.2
  ·rw [j.2 b (λz=>y (by simp [z]))];exact r
 done:=λs Q E st c=>Vf m st.1 st.2 f rfl (λA1 L R q=>UQ d f hl hz st.2 (ax _) (by rw [dj (ax _)]; exact q)) λh' eb=>c h' s.toks λb o y r=>eb b o (λz=>y (by simp [z])) r
 self:=λi s Q E st c=>gx st.1 rfl c
noncomputable def qfA (es:Array (Int×iM)) (ps:List Nat):List iM:=ps.map λk=>(es[k]?.map (·.2)).getD .none
theorem ZU (h:ps.Perm (aN es.size)):(qfA es ps).Perm (es.toList.map (·.2)):=by
 have e:qfA es (aN es.size)=es.toList.map (·.2):=by
  apply eX;intro i;unfold qfA;rw [aK,aK,show es.toList[i]?=es[i]? from dD];by_cases hi:i < es.size;·rw [List.getElem?_range hi,bK hi];simp [hi]
  ·rw [bP (by rw [bO]; omega),dj (by omega)];rfl
 rw [<-e];exact h.map _
theorem Xd {ep m:Nat} {t:j8} (B:A.handled=iL) (j:t.fits es.size=iO) (hp:ps.Perm (aN es.size)) (f:a≠it) (e:p≠it):Walks prog w A it [it,a,p] [it] es.size (λi v=>(qfA es ps)[i]?=iJ v) (λi h=>h.get? it=iJ (uz (.ref p) i a es.size ep)/\h.get? a=iJ (kq es ep t)/\h.get? p=iJ { cls:=.type "tuple",data:=.seq (ps.map λ(i:Nat)=>rawInt i).toArray m }) where
 sub:=λb u=>by simp at u; simp [u]
 frame:=λ_ _ _ st k=>⟨k it (by simp) _ st.1,k a (by simp) _ st.2.1,k p (by simp) _ st.2.2⟩
 item:=λi s Q E hi st c=>by
  have n:ps.length=es.size:=by rw [hp.length_eq,bO]
  have l:i < ps.length:=by omega
  have k:ps[i] < es.size:=be.mp (hp.mem_iff.mp (cr l));have q:es[ps[i]]?=iJ es[ps[i]]:=bK k;refine Xc (x:=es[ps[i]].2) (hx:=es[ps[i]].1) (pl:=ps[i]) st.1 st.2.1 j rfl st.2.2 ?_ q λh' g y=>c es[ps[i]].2 h' s.toks ?_ ⟨g,?_,?_⟩ λb o d r=>?_;·rw [ff,aK,aE l];rfl
  ·unfold qfA;rw [aK,aE l];simp [q]
  ·rw [y.2 a f];exact st.2.1
  ·rw [y.2 p e];exact st.2.2
  ·rw [y.2 b (λz=>d (by simp [z]))];exact r
 done:=λs Q E st c=>by
  have n:ps.length=es.size:=by rw [hp.length_eq,bO]
  refine ZS B st.1 st.2.1 j rfl st.2.2 ?_ λh' eb=>c h' s.toks λb o d r=>eb b o (λz=>d (by simp [z])) r;rw [ff,bP (by simp; omega)]
 self:=λi s Q E st c=>gx st.1 rfl c
theorem qbg {t:j8} {A1:iV} {Q:iM->iP->Prop} (n:A1.handled=iL) (g:s.heap.get? a=iJ (kq es ep t)) (d:SetG KpS prog w es t ks)
  (q:∀ (it:Addr) (h':Heap) (r:Drawn) (ord:List iM) (fp:List Addr) (St:Nat->Heap->Prop),(∀ b o,s.heap.get? b=iJ o->h'.get? b=iJ o)->ord.Perm (es.toList.map (·.2))->Walks prog w A1 it fp [it] es.size (λi v=>ord[i]?=iJ v) St->St 0 h' ->(∀ b∈fp,b=a\/s.heap.objs.size<=b)->s.heap.objs.size<=it->Q (.ref it) { s with heap:=h',drawn:=r }):wpAny (model prog w) A (pyIter (.ref a)) Q E s:=by
 have hT:s.TypeIs (.ref a) "set":=⟨_,g,rfl⟩
 have f:a < s.heap.objs.size:=ap g;refine wpAny_pyIter_slot hT PySem.F.slot_set_iter (iW PySem.F.slot_set_iter hT Vd ?_ (PySem.F.args_set_iter_1 _));show wpAny _ _ (Builtin.Frozenset.sizeOf a >>= _) _ _ s;refine iK (m:=Builtin.Frozenset.sizeOf a) (iK (lr g rfl d.fits (iQ ?_)));refine iK (m:=setDrawn a) ?_;unfold setDrawn;refine iK (k9 g rfl d.fits ?_);dsimp only;refine iK (m:=setsByText) (iK (j9 (iQ ?_)));refine iQ ?_;cases h:w.params.followText "set-order" with
 | true=>
  rw [vB h,if_neg (by simp)];refine iK (iQ ?_);refine iK (m:=setEpoch a) (wpAny_setEpoch_of g rfl d.fits ?_);refine iK (iX (iQ ⟨_,rfl, "set_iterator",_,⟨_,ah _ rfl,rfl⟩,slot_si_next.lookup,?_⟩));refine q _ _ s.drawn _ _ _ (λb o e=>aa _ e) ((gu (w.params.setOrder a ep) es).map _) (ZT n h d.fits (aG f)) ⟨ah _ rfl,aa _ g⟩ ?_ (ax _);intro b h;rcases ac.mp h with z | z;·exact .inr (z ▸ ax _)
  ·exact .inl (aA.mp z)
 | false=>
  have k:t.led=true:=by rw [d.led,h]; rfl
  rw [vB h];show wpAny _ _ (if (!false&&(!t.plain&&decide (es.size > 1)))=iO then _ else _) _ _ _;by_cases u:es.size<=1
  ·rw [if_neg (by simp; intro _; omega)];refine iK (iQ ?_);refine iK (m:=setEpoch a) (wpAny_setEpoch_of g rfl d.fits ?_);refine iK (iX (iQ ⟨_,rfl, "set_iterator",_,⟨_,ah _ rfl,rfl⟩,slot_si_next.lookup,?_⟩));refine q _ _ s.drawn _ _ _ (λb o e=>aa _ e) (cK _) (qbf n h d.fits k u (aG f)) ⟨ah _ rfl,aa _ g⟩ ?_ (ax _);intro b h;rcases ac.mp h with z | z;·exact .inr (z ▸ ax _)
   ·exact .inl (aA.mp z)
  ·have l:t.plain=false:=d.plain rfl λz=>by have h0:=d.size;rw [z,bg] at h0;omega
   rw [if_pos (by rw [l]; simp; omega)];refine iK (ZQ es.size (aN es.size) s (by simp) λps r hp=>?_);have j:ps.length=es.size:=by rw [hp.length_eq,bO]
   have hsz:(ps.map λ(i:Nat)=>rawInt i).length<=sizeLine:=by rw [am,j]; exact lE d.bd
   refine iK (lN ?_ hsz);refine iK (m:=setEpoch a) (wpAny_setEpoch_of (aa _ g) rfl d.fits ?_);refine iK (iX (iQ ⟨_,rfl, "set_iterator",_,⟨_,ah _ rfl,rfl⟩,slot_si_next.lookup,?_⟩));have c:s.heap.objs.size < (s.heap.push ({ cls:=.type "tuple",data:=.seq (ps.map λ(i:Nat)=>rawInt i).toArray }:Obj)).objs.size:=by rw [br]; exact fk _
   refine q _ _ r _ _ _ (λb o e=>aa _ (aa _ e)) (ZU hp) (Xd (p:=s.heap.objs.size) n d.fits hp (aG (eI f c)) (aG c)) ⟨ah _ rfl,aa _ (aa _ g),aa _ (ah _ rfl)⟩ ?_ (cH c);intro b h;rcases ac.mp h with z | z;·exact .inr (z ▸ cH c)
   ·rcases ac.mp z with z | z;·exact .inl z
    ·exact .inr (fB (aA.mp z).symm)
end
section
theorem qbh {ord:List iM} {acc:Array iM} (hl:ord.length=n) (h:ItemsOf (λi v=>ord[i]?=iJ v) acc n):acc.toList=ord:=by
 apply eX;intro i;rw [show acc.toList[i]?=acc[i]? from dD];by_cases hi:i < acc.size;·rw [bK hi];exact (h.2 i _ (bK hi)).symm
 ·rw [dj (by omega),bP (by have:=h.1; omega)]
theorem Wo {t:j8} {Q:List iM->iP->Prop} (M:A.handled=iL) (K:s.heap.get? a=iJ (kq es ep t)) (d:SetG KpS prog w es t ks)
  (N:∀ h' y tk ord,(∀ b o,s.heap.get? b=iJ o->h'.get? b=iJ o)->ord.Perm (es.toList.map (·.2))->Q ord { s with heap:=h',drawn:=y,toks:=tk }):wpAny (model prog w) A (collect (.ref a)) Q E s:=by
 have p:a < s.heap.objs.size:=ap K;unfold collect;refine iK (wpAny_runValue (i8 PySem.F.entry_proto_collect ?_)); rw [bv PySem.F.plain_proto_collect _];show wpAny _ A.in1 (newList [] >>= λl=>again (.builtin "list.__iadd__" ⟨[l,.ref a],[]⟩)) _ _ s; refine iK (iX ?_);refine iQ ⟨lq PySem.F.plain_list_iadd _,i8 PySem.F.entry_list_iadd ?_⟩; rw [bv PySem.F.plain_list_iadd _];have g:(s.heap.push { cls:=.type "list",data:=.seq ([]:List iM).toArray }).get? a=iJ (kq es ep t):=aa _ K;have hT:fX { s with heap:=s.heap.push { cls:=.type "list",data:=.seq ([]:List iM).toArray } } (.ref a) "set":=⟨_,g,rfl⟩
 show wpAny _ A.in1 (bX (.ref s.heap.objs.size) (.ref a) (.ref s.heap.objs.size)) _ _ _; unfold bX;refine iK (lD hT ?_);have h1:cW (.ref s.heap.objs.size) (.ref a)=false:=by simp [cW,cS p]
 rw [if_neg (by rw [h1]; decide)];refine iK (qbg (A1:=A.in1) M g d λit h2 y ord fp St k2 hp W D G hit=>?_);have v:h2.get? s.heap.objs.size=iJ { cls:=.type "list",data:=.seq ([]:List iM).toArray }:=k2 _ _ (ah _ rfl);have H:h2.get? a=iJ (kq es ep t):=k2 _ _ g;refine iK (i3 ?_);unfold dI;have i:fX { s with heap:=h2,drawn:=y } (.ref a) "set":=⟨_,H,rfl⟩
 refine iK (wpAny_specialOf i PySem.F.slot_set_len.lookup ?_)
 (generalize f:("set.__len__":String)=id0; (fail_if_success (clear f id0)); wp_delta; rw [show splitId id0=iJ ("set", "__len__") from by subst f; decide +kernel]; subst f)
 refine iK (lf (b:=iO) i (by rw [lF]; kernel_rfl) ?_);refine iK (m:=typeOf (.ref a)) (lD i ?_);refine iQ ?_;show wpAny _ A.in1 (rule "list.extend.makes-room" >>= λ_=>Builtin.List.listTouch (.ref s.heap.objs.size) >>= λ_=>again (.builtin "list.extend.loop" ⟨[.ref s.heap.objs.size,.ref it,.ref s.heap.objs.size],[]⟩)) _ _ _;refine iK (lp (iK ?_)); show wpAny _ A.in1 (updateSeq s.heap.objs.size (·.push .none) >>= λ_=>updateSeq s.heap.objs.size (·.pop)) _ _ _;refine iK (lw v rfl ?_); have h:=aY (bB (·.push bA)) v rfl;refine lw h rfl ?_; have j:=aY (bB (·.pop)) h rfl;have n:(s.heap.push ({ cls:=.type "list",data:=.seq ([]:List iM).toArray }:Obj)).objs.size=s.heap.objs.size+1:=br ..;have k:∀ b o,b≠s.heap.objs.size->h2.get? b=iJ o->((h2.update s.heap.objs.size (bB (·.push bA))).update s.heap.objs.size (bB (·.pop))).get? b=iJ o:=λb o c e=>(bH _ _ (aZ c)).trans ((bH _ _ (aZ c)).trans e);have J:s.heap.objs.size∉fp:=λz=>by
  rcases G _ z with q | q;·exact cS p q
  ·exact Nat.not_succ_le_self _ (n ▸ q)
 have r:ord.length=es.size:=by rw [hp.length_eq];simp
 refine iQ ⟨lq cm _,codeAny_extend_loopS W.toS (lE d.bd) _ J _ es.size 0 _ _ _ rfl (bu _) (W.frame 0 h2 _ D λb c o e=>k b o (λz=>J (z ▸ c)) e) j (ItemsOf.nil _) λs' L S x I u=>?_⟩;show wpAny _ A (load s.heap.objs.size >>= _) _ _ s';refine iK (wpAny_load I (iQ ?_));rw [qbh r u];obtain ⟨h',g',d',B,C⟩:=s';have P:g'=s.gens:=x.gens;have R:d'=y:=x.drawn;have O:C=s.os:=x.os;subst P R O;refine N h' d' B ord (λb o e=>?_) hp;have c:=ap e;refine x.heap b o (λz=>?_) (k b o (aG c) (k2 b o (aa _ e)));rcases ac.mp z with z | z;·exact aG c z
 ·have h3:s.heap.objs.size+1<=it:=n ▸ hit;rw [<-aA.mp z] at h3;exact bQ _ (eI c h3)
theorem Xe {Q:iM->iP->Prop} (q:A.handled=iL) (S:SetK KpS prog w s.heap a ks) (j:ks.length < 64)
  (x:∀ (h1 h':Heap) r tk vs e ss,(∀ b o,s.heap.get? b=iJ o->h1.get? b=iJ o)->(∀ b o,h1.get? b=iJ o->h'.get? b=iJ o)->h'.get? h1.objs.size=iJ (seqObj "list" vs e)->StrsAre vs.toList ss->ss.Perm ks->sortedS ss=iO->Q (.ref h1.objs.size) { s with heap:=h',drawn:=r,toks:=tk }) :
  wpAny (model prog w) A (call (.builtin "sorted") [.ref a]) Q E s:=by
 obtain ⟨es,ep,t,u,d⟩:=S;refine Calls.call_function_entry kind_sorted plain_sorted entry_sorted (args_sorted1 _) ?_; unfold Builtin.«sorted»;refine iK (m:=checkCount "sorted" 1 1 _) (iQ ?_);refine iK (Wo (by exact q) u d λh1 r tk ord k1 hp=>?_);have c:StrsAre ord (ord.map strOf):=strsAre_map ord λv p=>by obtain ⟨e,i,rfl⟩:=aC.mp (hp.mem_iff.mp p);exact qfx d.el i
 have h:(ord.map strOf).Perm ks:=(hp.map strOf).trans (by rw [ce]; exact d.perm);have n:ord.length=ks.length:=by have:=h.length_eq;rwa [am] at this
 refine iK (wpAny_newList ?_ (by rw [n,iT]; omega));have W:(h1.push (seqObj "list" ord.toArray 0)).get? h1.objs.size=iJ (seqObj "list" ord.toArray 0):=ah _ rfl;refine iK (i3 (iW slot_list_sort (s:={ s with heap:=h1.push (seqObj "list" ord.toArray 0),drawn:=r,toks:=tk }) ⟨_,W,rfl⟩ entry_list_sort (list_sort_treeK strKind_oneLt W c.keysOf (λv₁ k rest e=>keyKind_strs (by rw [<-e]; exact c)) (by rw [n]; exact j) λg D C=>⟨_,rfl,?_⟩) (args_list_sort _)));obtain ⟨f,B,z,y⟩:=sorted_out_str c D C;obtain ⟨e,i⟩:=sortedHeap_at (out:=(arrOf g).map (·.2)) W;refine iQ ⟨_,rfl,x h1 _ r tk _ e f k1 (λb o eb=>?_) i B (z.trans h) y⟩;have l:=ap eb;rw [sortedHeap_old (aG l) (by rw [br]; exact dH l)];exact aa _ eb
end
section
theorem Vh {x:iM} {Q:iM->iP->Prop} (hit:s.heap.IsTupleIter it l i) (hl:s.heap.IsTuple l items) (hx:items[i]?=iJ x)
  (c:∀ h',h'.IsTupleIter it l (i+1)->bn it s.heap h'->Q x { s with heap:=h' }):wpAny (model prog w) A (aR (.ref it)) Q E s:=by
 obtain ⟨o,m,d,hd⟩:=id hit;obtain ⟨ol,h,_,n,a⟩:=hl;unfold aR;refine iK (iU (name:=ae "__next__") hit.typeIs cg (iW cg hit.typeIs PySem.F.entry_tuple_iterator_next ?_ (PySem.F.args_tuple_iterator_next_1 _))); show wpAny _ _ (field (.ref it) 0 >>= _) _ _ s;refine iK (iZ m hd (x:=.ref l) rfl ?_); show wpAny _ _ (if (aM l == bA)=iO then _ else _) _ _ s;rw [if_neg (show ¬((aM l == bA)=iO) from bG)]; show wpAny _ _ (field (.ref it) 1 >>= _) _ _ s;refine iK (iZ m hd (x:=.int i 0) rfl ?_); show wpAny _ _ (seqItems? (.ref l) >>= _) _ _ s;refine iK (iY h a ?_); simp only [dF,hx];refine iK (lh m hd (by simp) (iQ ⟨x,rfl,iQ (c _ ?_ (bq ..))⟩)); exact ⟨_,aY _ m (Obj.isFreed_of_fields (Obj.data_mapFields hd _)),(Obj.cls_mapFields ..).trans d,by rw [Obj.data_mapFields hd]; simp [rawInt]⟩
theorem zA {Q:iM->iP->Prop} (d:A.handled=iL) (hit:s.heap.IsTupleIter it l i) (hl:s.heap.IsTuple l items) (hx:items[i]?=iL)
  (k:∀ h' e,ic it s.heap h'->(∃ o,h'.get? e=iJ o/\o.cls=.type "StopIteration")->E (.ref e) { s with heap:=h' }):wpAny (model prog w) A (aR (.ref it)) Q E s:=by
 obtain ⟨o,b,f,hd⟩:=id hit;obtain ⟨ol,h,_,n,c⟩:=hl;unfold aR;refine iK (iU (name:=ae "__next__") hit.typeIs cg (iW cg hit.typeIs PySem.F.entry_tuple_iterator_next ?_ (PySem.F.args_tuple_iterator_next_1 _))); show wpAny _ _ (field (.ref it) 0 >>= _) _ _ s;refine iK (iZ b hd (x:=.ref l) rfl ?_); show wpAny _ _ (if (aM l == bA)=iO then _ else _) _ _ s;rw [if_neg (show ¬((aM l == bA)=iO) from bG)]; show wpAny _ _ (field (.ref it) 1 >>= _) _ _ s;refine iK (iZ b hd (x:=.int i 0) rfl ?_); show wpAny _ _ (seqItems? (.ref l) >>= _) _ _ s;refine iK (iY h c ?_); simp only [dF,hx];refine iK (lp (iK (lh b hd (by simp) ?_))); show wpAny _ _ (newExc (.type "StopIteration") [] >>= _) _ _ _;refine iK ?_; simp only [newExc,newTuple]; refine iK (iX ?_ (by size_fits));refine iK (m:=firstArgMember _ _) (lT (a:=bA) (by first | rfl | (simp only [firstArgMember]; rfl)) ?_); refine iX ?_ (by size_fits); simp only [raiseNew];refine iK (wpAny_handled ?_); first | rw [show A.in1.handled=iL from d] | rw [d]
 refine iK (iQ (wpAny_throw ?_)); exact k _ _ (((bq ..).extBut.push _).push _) ⟨_,ah _ rfl,rfl⟩
theorem Wp (f:A.handled=iL) (it l:Addr) (d:l≠it) (items:Array iM):lG prog w A it [it,l] items.size (λi v=>items[i]?=iJ v) (λi h=>h.IsTupleIter it l i/\h.IsTuple l items) where
 live:=λ_ _ st=>let ⟨o,m,_⟩:=st.1; ⟨o,m⟩
 frame:=λ_ _ _ st k=>⟨st.1.at λo e=>k it (by simp) o e,let ⟨o,e,c⟩:=st.2; ⟨o,k l (by simp) o e,c⟩⟩
 item:=λi s Q E hi st g=>by refine Vh st.1 st.2 (x:=items[i]) (by simp [hi]) λh' b a=>g _ h' s.toks (by simp [hi]) ⟨b,?_⟩ a;obtain ⟨o,e,c⟩:=st.2;exact ⟨o,(a.2 l d).trans e,c⟩
 done:=λs Q E st j=>zA f st.1 st.2 (by simp) j
structure Apart2 (z TI TO i1 i2:Addr) (fp1 fp2:List Addr):Prop where
 TIz:TI≠z
 TOz:TO≠z
 i1z:i1≠z
 i2z:i2≠z
 TITO:TI≠TO
 TIi1:TI≠i1
 TIi2:TI≠i2
 TOi1:TO≠i1
 TOi2:TO≠i2
 i12:i1≠i2
 z1:z∉fp1
 z2:z∉fp2
 o1:TO∉fp1
 o2:TO∉fp2
 a12:i1∉fp2
 a21:i2∉fp1
variable {z TI TO i1 i2:Addr} {fp1 fp2:List Addr} {n1 n2:Nat} {P1 P2:Nat->iM->Prop} {S1 S2:Nat->Heap->Prop} {a b:iM}
theorem qbi {Q:iM->iP->Prop} (D:Apart2 z TI TO i1 i2 fp1 fp2) (D1:lG prog w A i1 fp1 n1 P1 S1) (D2:lG prog w A i2 fp2 n2 P2 S2)
  (hz:lH s.heap z TI TO .none) (Y:j7 s.heap TI (.ref i1) (.ref i2)) (X:j7 s.heap TO a b) (h1:S1 i s.heap) (h2:S2 i s.heap) (l1:i < n1) (l2:i < n2)
  (hQ:∀ x y h' tk,P1 i x->P2 i y->lH h' z TI TO (rawInt s.heap.objs.size)->j7 h' TO x y->S1 (i+1) h'->S2 (i+1) h'->j7 h' s.heap.objs.size x y ->(∀ c o,c≠z->c≠TO->c≠i1->c≠i2->s.heap.get? c=iJ o->h'.get? c=iJ o)->Q (.ref s.heap.objs.size) { s with heap:=h',toks:=tk }) :
  wpAny (model prog w) A (Builtin.«zip.__next__» ⟨[.ref z],[]⟩) (λfin s'=>∃ v,fin=.done (.ret v)/\Q v s') E s:=by
 show wpAny _ _ (field (.ref z) 2 >>= _) _ _ _; refine iK (iZ hz rfl (x:=.bool iN) rfl ?_);show wpAny _ _ (field (.ref z) 3 >>= _) _ _ _; refine iK (iZ hz rfl (x:=.ref TI) rfl ?_); refine iK (iY Y rfl ?_);show wpAny _ _ (aS (.ref z) >>= _) _ _ _; refine iK ?_; unfold aS;refine iK (iZ hz rfl (x:=.none) rfl (iQ ?_)); simp only [if_true];refine iK (lp ?_); refine iK (iZ hz rfl (x:=.ref TO) rfl ?_);refine iK (lc hz (by simp) λh₁ r l=>?_); replace r:lH h₁ z TI TO .ellipsis:=r;refine iK ?_; simp only [List.zipIdx_cons,List.zipIdx_nil,dY,fG];refine iK (iK (lO ?_)); show wpAny _ _ (aR (.ref i1) >>= _) _ _ _;refine iK (D1.item i _ _ _ l1 (D1.frame _ _ _ h1 λc C o e=>l.extBut _ _ (λq=>D.z1 (q ▸ C)) e) λx V W hx N k=>iQ ?_);have B:j7 V TO a b:=(k.2 _ D.TOi1).trans (l.extBut _ _ D.TOz X);refine iK (iY B rfl ?_); refine iK (wpAny_updateSeq_pair B λU n j=>?_);replace n:j7 U TO x b:=n; refine iK (lU (iQ ?_));refine iK (iK (lO ?_)); show wpAny _ _ (aR (.ref i2) >>= _) _ _ _;refine iK (D2.item i _ _ _ l2 (D2.frame _ _ _ h2 λc C o e=>(j.extBut _ _ (λq=>D.o2 (q ▸ C)) ((k.2 _ (λq=>D.a12 (q ▸ C))).trans (l.extBut _ _ (λq=>D.z2 (q ▸ C)) e)))) λy T L hy M g=>iQ ?_);have u:j7 T TO x b:=(g.2 _ D.TOi2).trans n;refine iK (iY u rfl ?_); refine iK (wpAny_updateSeq_pair u λh d f=>?_);replace d:j7 h TO x y:=d; refine iK (lU (iQ (iQ ?_)));refine iK (iY d rfl ?_); refine iK (lN ?_);have hsz:h.objs.size=s.heap.objs.size:=by rw [f.1,g.1,j.1,k.1,l.1]
 have G:lH h z TI TO .ellipsis:=f.extBut _ _ D.TOz.symm ((g.2 _ D.i2z.symm).trans (j.extBut _ _ D.TOz.symm ((k.2 _ D.i1z.symm).trans r)));have P:∀ c o,c≠z->c≠TO->c≠i1->c≠i2->s.heap.get? c=iJ o->h.get? c=iJ o:=λc o R c2 F Z e=>f.extBut _ _ c2 ((g.2 _ Z).trans (j.extBut _ _ c2 ((k.2 _ F).trans (l.extBut _ _ R e))));have K:z < h.objs.size:=ap G;show wpAny _ _ (Builtin.SmallTypes.ownedTupleHandOut (.ref z) (.ref h.objs.size) >>= _) _ _ _; refine iK ?_; unfold Builtin.SmallTypes.ownedTupleHandOut;have O:lH (h.push { cls:=.type "tuple",data:=.seq #[x,y] }) z TI TO .ellipsis:=aa _ G;refine iK (lc O (by simp) λS p I=>?_); replace p:lH S z TI TO (rawInt h.objs.size):=p;refine lc p (by simp) λt m H=>?_; replace m:lH t z TI TO (rawInt h.objs.size):=m;have up:∀ c o,c≠z->h.get? c=iJ o->t.get? c=iJ o:=λc o R e=>H.extBut _ _ R (I.extBut _ _ R (aa _ e));have J:j7 t h.objs.size x y:=H.extBut _ _ (cS K) (I.extBut _ _ (cS K) (ah _ rfl));rw [hsz] at m J;refine iQ ⟨_,rfl,?_⟩;show Q (.ref h.objs.size) _;rw [hsz];refine hQ x y t L hx hy m (up _ _ D.TOz d) (D1.frame _ _ _ N λc C o e=>up _ _ (λq=>D.z1 (q ▸ C)) (f.extBut _ _ (λq=>D.o1 (q ▸ C)) ((g.2 _ (λq=>D.a21 (q ▸ C))).trans (j.extBut _ _ (λq=>D.o1 (q ▸ C)) e))))
  (D2.frame _ _ _ M λc C o e=>up _ _ (λq=>D.z2 (q ▸ C)) (f.extBut _ _ (λq=>D.o2 (q ▸ C)) e)) J λc o R c2 F Z e=>up c o R (P c o R c2 F Z e)
theorem qdx {Q:Fin->iP->Prop} (D:Apart2 z TI TO i1 i2 fp1 fp2) (M:lG prog w A i1 fp1 n1 P1 S1) (P:lG prog w A i2 fp2 n2 P2 S2)
  (hz:lH s.heap z TI TO .none) (Y:j7 s.heap TI (.ref i1) (.ref i2)) (X:j7 s.heap TO a b) (h1:S1 i s.heap) (h2:S2 i s.heap) (y:i=n1\/(i < n1/\i=n2))
  (O:∀ h' tk e,(∀ c o,c≠z->c≠TO->c≠i1->c≠i2->s.heap.get? c=iJ o->h'.get? c=iJ o)->(∃ o,h'.get? e=iJ o/\o.cls=.type "StopIteration")->E (.ref e) { s with heap:=h',toks:=tk }) :
  wpAny (model prog w) A (Builtin.«zip.__next__» ⟨[.ref z],[]⟩) Q E s:=by
 show wpAny _ _ (field (.ref z) 2 >>= _) _ _ _; refine iK (iZ hz rfl (x:=.bool iN) rfl ?_);show wpAny _ _ (field (.ref z) 3 >>= _) _ _ _; refine iK (iZ hz rfl (x:=.ref TI) rfl ?_); refine iK (iY Y rfl ?_);show wpAny _ _ (aS (.ref z) >>= _) _ _ _; refine iK ?_; unfold aS;refine iK (iZ hz rfl (x:=.none) rfl (iQ ?_)); simp only [if_true];refine iK (lp ?_); refine iK (iZ hz rfl (x:=.ref TO) rfl ?_);refine iK (lc hz (by simp) λh₁ r l=>?_); replace r:lH h₁ z TI TO .ellipsis:=r;refine iK ?_; simp only [List.zipIdx_cons,List.zipIdx_nil,dY,fG];refine iK (iK (lO ?_)); show wpAny _ _ (aR (.ref i1) >>= _) _ _ _;have f1:S1 i h₁:=M.frame _ _ _ h1 λc C o e=>l.extBut _ _ (λq=>D.z1 (q ▸ C)) e;rcases y with rfl | ⟨hlt,rfl⟩
 ·refine iK (M.done _ _ _ f1 λd e k J=>?_);obtain ⟨I,h,K⟩:=J;have g:lH d z TI TO .ellipsis:=k _ _ D.i1z.symm r;have t:e≠z:=λx=>by subst x; rw [g] at h; cases h; simp at K
  exact lc g (by simp) λp _ j=>O p s.toks e (λc o G _ L _ x=>j.extBut _ _ G (k _ _ L (l.extBut _ _ G x))) ⟨I,j.extBut _ _ t h,K⟩
 ·refine iK (M.item i _ _ _ hlt f1 λx d W hx N k=>iQ ?_);have B:j7 d TO a b:=(k.2 _ D.TOi1).trans (l.extBut _ _ D.TOz X);refine iK (iY B rfl ?_); refine iK (wpAny_updateSeq_pair B λp H j=>?_);refine iK (lU (iQ ?_)); refine iK (iK (lO ?_)); show wpAny _ _ (aR (.ref i2) >>= _) _ _ _;refine iK (P.done _ _ _ (P.frame _ _ _ h2 λc C o e=>(j.extBut _ _ (λq=>D.o2 (q ▸ C)) ((k.2 _ (λq=>D.a12 (q ▸ C))).trans (l.extBut _ _ (λq=>D.z2 (q ▸ C)) e)))) λv e n J=>?_);obtain ⟨I,h,K⟩:=J;have f:lH v z TI TO .ellipsis:=n _ _ D.i2z.symm (j.extBut _ _ D.TOz.symm ((k.2 _ D.i1z.symm).trans r));have t:e≠z:=λx=>by subst x; rw [f] at h; cases h; simp at K
  exact lc f (by simp) λu _ m=>O u W e (λc o G c2 L R x=>m.extBut _ _ G (n _ _ R (j.extBut _ _ c2 ((k.2 _ L).trans (l.extBut _ _ G x))))) ⟨I,m.extBut _ _ t h,K⟩
theorem Wq {Q:Option iM->iP->Prop} (D:Apart2 z TI TO i1 i2 fp1 fp2) (M:lG prog w A.in1 i1 fp1 n1 P1 S1) (P:lG prog w A.in1 i2 fp2 n2 P2 S2)
  (hz:lH s.heap z TI TO .none) (Y:j7 s.heap TI (.ref i1) (.ref i2)) (X:j7 s.heap TO a b) (h1:S1 i s.heap) (h2:S2 i s.heap) (d:i < n1) (l:i < n2)
  (h:∀ x y h' tk,P1 i x->P2 i y->lH h' z TI TO (rawInt s.heap.objs.size)->j7 h' TO x y->S1 (i+1) h'->S2 (i+1) h'->j7 h' s.heap.objs.size x y ->(∀ c o,c≠z->c≠TO->c≠i1->c≠i2->s.heap.get? c=iJ o->h'.get? c=iJ o)->Q (iJ (.ref s.heap.objs.size)) { s with heap:=h',toks:=tk }):wpAny (model prog w) A (pyNext (.ref z)) Q E s:=by
 have hT:s.TypeIs (.ref z) "zip":=⟨_,hz,rfl⟩
 unfold pyNext;exact iK (k7 (iU (name:=ae "__next__") hT bD (iW bD hT dm
  (qbi D M P hz Y X h1 h2 d l λx y h' tk p g f q m e k j=>iQ (h x y h' tk p g f q m e k j)) (c9 _))))
theorem Xf {Q:Option iM->iP->Prop} (D:Apart2 z TI TO i1 i2 fp1 fp2) (M:lG prog w A.in1 i1 fp1 n1 P1 S1) (P:lG prog w A.in1 i2 fp2 n2 P2 S2)
  (hz:lH s.heap z TI TO .none) (Y:j7 s.heap TI (.ref i1) (.ref i2)) (X:j7 s.heap TO a b) (h1:S1 i s.heap) (h2:S2 i s.heap) (y:i=n1\/(i < n1/\i=n2))
  (f:∀ h' tk,(∀ c o,c≠z->c≠TO->c≠i1->c≠i2->s.heap.get? c=iJ o->h'.get? c=iJ o)->Q iL { s with heap:=h',toks:=tk }):wpAny (model prog w) A (pyNext (.ref z)) Q E s:=by
 have hT:s.TypeIs (.ref z) "zip":=⟨_,hz,rfl⟩
 unfold pyNext;refine iK (k7 (iU (name:=ae "__next__") hT bD (iW bD hT dm (qdx D M P hz Y X h1 h2 y λh' tk e k h=>?_) (c9 _))));obtain ⟨o,m,d⟩:=h;refine iK (lf (T := "StopIteration") (b:=iO) ⟨o,m,d⟩ lM ?_);exact iQ (f _ _ k)
end
section
theorem qb6 (b:A.handled=iL) (k:SK) (it l:Addr) (e:l≠it) (items:Array iM):lG prog w A it [it,l] items.size (λi v=>items[i]?=iJ v) (λi h=>ItK h it l k i/\SeqK h l k items):=by
 cases k with
 | l=>exact Draws.list b it l e items
 | t=>exact Wp b it l e items
end
abbrev zH1 (k1:SK) (h:Heap) (i:Addr):Heap:=h.push { cls:=.type k1.itc,data:=.fields #[.ref i,.int 0 0] }
abbrev zH2 (k1 k2:SK) (h:Heap) (i l:Addr):Heap:=(zH1 k1 h i).push { cls:=.type k2.itc,data:=.fields #[.ref l,.int 0 0] }
abbrev zH3 (k1 k2:SK) (h:Heap) (i l:Addr):Heap:=(zH2 k1 k2 h i l).push { cls:=.type "tuple",data:=.seq #[.ref h.objs.size,.ref (zH1 k1 h i).objs.size] }
abbrev zH4 (k1 k2:SK) (h:Heap) (i l:Addr):Heap:=(zH3 k1 k2 h i l).push { cls:=.type "tuple",data:=.seq #[.none,.none] }
abbrev zH5 (k1 k2:SK) (h:Heap) (i l:Addr):Heap:=(zH4 k1 k2 h i l).push { cls:=.type "zip",data:=.fields #[.none,.bool iN,.bool iN,.ref (zH2 k1 k2 h i l).objs.size,.ref (zH3 k1 k2 h i l).objs.size] }
theorem ZV (k1 k2:SK) (i l:Addr) (xs ys:Array iM):Meets (Builtin.«zip.__new__» ⟨[.type "zip",.ref i,.ref l],[]⟩) (λ_ R s=>SeqK s.heap i k1 xs/\SeqK s.heap l k2 ys/\R (.ok (.ret (.ref (zH4 k1 k2 s.heap i l).objs.size))) { s with heap:=zH5 k1 k2 s.heap i l }):=
 .of_wp λprog w A R s h=>by
  obtain ⟨hp,g,d,tk,os⟩:=s; obtain ⟨t,f,h⟩:=h;have c:=sub_zip;have b:SeqK (Shared.heap ⟨hp,g,d,tk,os⟩) i k1 xs:=t;have a:SeqK (Shared.heap ⟨hp.push { cls:=.type k1.itc,data:=.fields #[.ref i,.int 0 0] },g,d,tk,os⟩) l k2 ys:=SeqK.at f λo e=>aa _ e;wp_walk using qa7 b,qa7 a
  exact ⟨_,rfl,h⟩
variable {t':Nat}
section
theorem ZW {ch:List Addr} (I:Inv X pins σ H s) (k:∀ b o,b∉ch->s.heap.get? b=iJ o->h'.get? b=iJ o) (h:∀ b∈ch,VO X pins H b):Inv X pins σ H { s with heap:=h',toks:=t' }:=by
 have t:∀ b u,H b=iJ u->b∉ch:=λb u e z=>by rw [(h b z).1] at e;cases e
 refine I.step (g':=s.gens) (d':=s.drawn) (ch:=ch) (λb g=>?_) (λb o _ _ d e _=>k b o d e) (λb o _ _ d e _=>⟨o.slots,k b o d e⟩) (λ_ _ _ _ n=>n) (λb o d e=>⟨o,k b o d e⟩) (λ_ _ e=>e) (λ_ _ _ e=>e) (λb ps e=>⟨#[],by rw [e]; simp⟩) (λm f=>?_) (λb u e=>?_) I.bare;·obtain ⟨f0,f1,f2,j,f4,i⟩:=h b g;exact ⟨j,f1,f4,i⟩
 ·obtain ⟨o,es,ep,a,r⟩:=f;exact ⟨o,es,ep,k _ o (λz=>(h _ z).2.1 rfl) a,r⟩
 ·refine (I.hok b u e).stay (λc v d q=>k c v ?_ q) (λ_ q=>q) λ_ _ q=>q;rcases d with z | z
  ·rw [z];exact t b u e
  ·exact t c _ z
theorem qiT {d':Drawn} (I:Inv X pins σ H s) (k:∀ b u,s.heap.get? b=iJ u->h'.get? b=iJ u):Inv X pins σ H { s with heap:=h',drawn:=d',toks:=t' }:=by refine I.step (g':=s.gens) (d':=d') (ch:=[]) (λ_ z=>nomatch z) (λb o _ _ _ e _=>k b o e) (λb o _ _ _ e _=>⟨o.slots,k b o e⟩) (λ_ _ _ _ n=>n) (λb o _ e=>⟨o,k b o e⟩) (λ_ _ e=>e) (λ_ _ _ e=>e) (λb ps e=>⟨#[],by rw [e]; simp⟩) (λm c=>?_) (I.hok.kept k) I.bare;obtain ⟨o,es,ep,h,r⟩:=c;exact ⟨o,es,ep,k _ o h,r⟩
theorem ZX {xs:List V} (I:Inv X pins σ H s):∀ {k:SK},SqK X.K H a k xs->∃ its:List iM,Vals xs its/\SeqK s.heap a k its.toArray
 | .l,h=>let ⟨its,r,p,_⟩:=I.list h; ⟨its,r,p.isList⟩
 | .t,h=>let ⟨its,r,p,_⟩:=I.tuple h; ⟨its,r,p⟩
end
variable {us:List iM}
theorem gy {xs:List V} (r:Vals xs us) (h:us[i]?=iJ u):∃ x,xs[i]?=iJ x/\RelV x u:=by
 have hi:i < us.length:=(aH.mp h).1;have hx:i < xs.length:=by rw [r.length]; exact hi
 obtain ⟨U,h1,h2⟩:=r.get (aE hx);rw [h] at h1;cases h1;exact ⟨xs[i],aE hx,h2⟩
theorem ZY (b p o:Nat) (h1:p < b) (h2:o < b):Apart2 (b+4) (b+2) (b+3) b (b+1) [b,p] [b+1,o]:=by have ne:∀ x y:Nat,x≠y->x≠y:=λ_ _ h=>h;have n:∀ x a c:Nat,x≠a->x≠c->x∉[a,c]:=λx a c n1 n2 h=>(ac.mp h).elim n1 λh=>n2 (aA.mp h);exact ⟨ne _ _ (by omega),ne _ _ (by omega),ne _ _ (by omega),ne _ _ (by omega),ne _ _ (by omega),ne _ _ (by omega),ne _ _ (by omega),ne _ _ (by omega),ne _ _ (by omega),ne _ _ (by omega),n _ _ _ (by omega) (by omega),n _ _ _ (by omega) (by omega),n _ _ _ (by omega) (by omega),n _ _ _ (by omega) (by omega),n _ _ _ (by omega) (by omega),n _ _ _ (by omega) (by omega)⟩
theorem ZZ:bootBuiltins "zip"=iJ (.type "zip"):=by decide +kernel
variable {own:List Nat} {fa:Sl->Out (D×Sl)} {ma:Mo} {pos:Pos}
section
variable {a c:Expr} {fb:Sl->Out (D×Sl)} {mb:Mo}
noncomputable def qb7 (xs ys:List D):List D:=dn (λx y=>.tup [x,y]) xs ys
end
def leS (x y:Str):Prop:=¬y.cps.toList < x.cps.toList
noncomputable def qeo (x:Str):List Str->List Str
 | []=>[x]
 | y::l=>if vI y x=iO then y::qeo x l else x::y::l
noncomputable def ym:List Str->List Str
 | []=>[]
 | x::l=>qeo x (ym l)
variable {y:Str}
theorem gz {z:Str} (a:leS x y) (b:leS y z):leS x z:=List.le_trans (α:=Nat) a b
theorem Ga (x y:Str):leS x y\/leS y x:=List.le_total (α:=Nat) x.cps.toList y.cps.toList
theorem Ju (a:leS x y) (b:leS y x):x=y:=by have e:=List.le_antisymm (α:=Nat) (as:=x.cps.toList) (bs:=y.cps.toList) a b;obtain ⟨⟨l⟩⟩:=x;obtain ⟨⟨m⟩⟩:=y;simp at e;rw [e]
theorem strLt_false:vI y x=iN↔leS x y:=by unfold vI leS;exact decide_eq_false_iff_not
theorem gA (x:Str):∀ l,(qeo x l).Perm (x::l)
 | []=>cK _
 | y::l=>by
  unfold qeo;split;·exact ((gA x l).cons y).trans (List.Perm.swap _ _ _)
  ·exact cK _
theorem jn:∀ l,(ym l).Perm l
 | []=>cK _
 | x::l=>(gA x _).trans ((jn l).cons x)
theorem gB (x:Str):∀ l,l.Pairwise leS->(qeo x l).Pairwise leS
 | [],_=>db _ _
 | y::l,h=>by
  have h0:=bh.mp h;unfold qeo;split
  ·rename_i t;have b:leS y x:=by
    rcases Ga y x with q | q;·exact q
    ·rw [<-strLt_false] at q;rw [q] at t;cases t
   refine bh.mpr ⟨λz hz=>?_,gB x l h0.2⟩;rcases ac.mp ((gA x l).mem_iff.mp hz) with rfl | hz;·exact b
   ·exact h0.1 z hz
  ·rename_i t;have a:leS x y:=strLt_false.mp (by cases e:vI y x with | true=>exact absurd e t | false=>rfl);refine bh.mpr ⟨λz hz=>?_,h⟩;rcases ac.mp hz with rfl | hz;·exact a
   ·exact gz a (h0.1 z hz)
theorem kN:∀ l,(ym l).Pairwise leS
 | []=>dG
 | x::l=>gB x _ (kN l)
theorem gC:∀ {l m:List Str},l.Perm m->l.Pairwise leS->m.Pairwise leS->l=m
 | [],m,p,_,_=>p.nil_eq
 | x::l,[],p,_,_=>absurd p.length_eq (by simp)
 | x::l,y::m,p,hl,hm=>by
  have a:=bh.mp hl;have b:=bh.mp hm;have c:x=y:=by
   have h1:y∈x::l:=p.mem_iff.mpr (aw ..);have h2:x∈y::m:=p.mem_iff.mp (aw ..);rcases ac.mp h1 with e | e;·exact e.symm
   ·rcases ac.mp h2 with d | d;·exact d
    ·exact Ju (a.1 y e) (b.1 x d)
  subst c;rw [gC p.cons_inv a.2 b.2]
theorem QW:∀ (x:Str) (l:List Str),risingS x l=iO->(x::l).Pairwise leS
 | x,[],_=>db _ _
 | x,y::l,h=>by
  have h:(!ltCps y.cps.toList x.cps.toList&&risingS y l)=true:=h;rw [aP] at h;have j:=QW y l h.2;have a:leS x y:=by have h1:=h.1;rw [ltCps_eq] at h1;unfold leS;simpa using h1
  refine bh.mpr ⟨λz hz=>?_,j⟩;rcases ac.mp hz with rfl | hz;·exact a
  ·exact gz a ((bh.mp j).1 z hz)
theorem Wr:∀ (l:List Str),sortedS l=iO->l.Pairwise leS
 | [],_=>dG
 | x::l,h=>QW x l h
variable {ss:List Str}
theorem Gb (p:ss.Perm ks) (h:sortedS ss=iO):ss=ym ks:=gC (p.trans (jn ks).symm) (Wr ss h) (kN ks)
noncomputable def yG:List D->Option (List Str)
 | []=>iJ []
 | .str x::l=>(yG l).map (x::·)
 | _::_=>iL
noncomputable def xf:D->Option (List Str)
 | .lst ds=>yG ds
 | .tup ds=>yG ds
 | _=>iL
noncomputable def qep [DecidableEq κ] (T:KP κ) (P:iR) (w:iS) (p:Addr) (ks:List κ):HO:=.ext λh=>SetK T P w h p ks
theorem qdy [DecidableEq κ] {T:KP κ} {ks:List κ} (x:SetK T P w h p ks):ObjOk P w H h p (qep T P w p ks):=
 ⟨x,let ⟨_,_,_,e,_⟩:=x; ⟨_,e⟩,λ_ _ a k=>a.at k⟩
structure KD {κ:Type} [DecidableEq κ] (T:KP κ) where
 sqd:D->Option (List κ)
 ok:κ->Prop
 get:∀ {K:Frag} {F:Hp} {dx:D} {ss:List κ},sqd dx=iJ ss->∃ ds,Qw dx=.ok ds/\∀ {vs:List V} {us:List iM},IsL K F vs ds->Vals vs us->us.length=ss.length/\(∀ (i:Nat) (v:iM),us[i]?=iJ v->∃ x,ss[i]?=iJ x/\∀ p w,(T.kd p w).is x v=iO)/\∀ x∈ss,ok x
theorem Ws:∀ {vs:List V} {us:List iM} {ds:List D} {ss:List Str},IsL K F vs ds->Vals vs us->yG ds=iJ ss->StrsAre us ss/\∀ x∈ss,x.length<=sizeLine
 | [],[],[],ss,_,_,e=>by cases e; exact ⟨.nil,λx h=>by cases h⟩
 | v::vs,u::us,d::ds,ss,.cons i il,.cons r rl,e=>by
  cases d with
  | str x=>
   cases q:yG ds with
   | none=>have e:(yG ds).map (x::·)=iJ ss:=e;rw [q] at e;cases e
   | some sl=>
    have e:(yG ds).map (x::·)=iJ ss:=e;rw [q] at e;cases e;cases i with
    | str hz=>
     obtain ⟨t,rfl⟩:=r;have j:=Ws il rl q;refine ⟨.cons x t j.1,λy k=>?_⟩;rcases ac.mp k with rfl | k;·exact hz
     ·exact j.2 y k
  | _=>cases e
variable {f:Sl->Out (D×Sl)}
section
variable {e:Expr}
theorem Vi:∀ (l ks:List Str) {x:Str},x∈l.foldl zg ks->x∈ks\/x∈l
 | [],ks,x,h=>.inl h
 | y::l,ks,x,h=>by
  rcases Vi l (zg ks y) h with q | q
  ·unfold zg at q;split at q;·exact .inl q
   ·rcases aJ.mp q with q | q;·exact .inl q
    ·exact .inr (by rw [aA.mp q]; exact aw ..)
  ·exact .inr (af _ q)
theorem UR (e:yG ds=iJ ss) (l:IsL K F vs ds) (d:Vals vs us):us.length=ss.length/\(∀ (i:Nat) (v:iM),us[i]?=iJ v->∃ x,ss[i]?=iJ x/\∀ p w,(KpS.kd p w).is x v=iO)/\∀ x∈ss,x.length<=sizeLine:=by obtain ⟨st,k⟩:=Ws l d e;refine ⟨st.length,λi v h=>?_,k⟩;obtain ⟨y,t,e1,a⟩:=st.item i v h;refine ⟨y,a,λp w=>?_⟩;rw [e1];show fU y (.str y t)=iO;simp [fU]
noncomputable def KdS:KD KpS where
 sqd:=xf
 ok:=λy=>y.length<=sizeLine
 get:=λ{K F dx ss} e=>by
  cases dx with
  | lst ds=>exact ⟨ds,rfl,UR e⟩
  | tup ds=>exact ⟨ds,rfl,UR e⟩
  | _=>cases e
theorem qb8 [DecidableEq κ] {T:KP κ} (U:KD T) (D:C.K=X.K) (B:X.calm=iO):uo X (.type "set") (λxs H Q=>∃ x F dx ss,xs=[x]/\Same F H/\TopIs C.K F H x dx/\U.sqd dx=iJ ss/\ss.length < 4000/\((∀ y∈ss,U.ok y)->∀ p,H p=iL->Q (.ref p) (upd H p (qep T X.prog X.w p (ss.foldl xB []))))):=by
 intro pins s σ H xs us Q I r h;obtain ⟨x,F,dx,ss,rfl,f,t,es,hl,q⟩:=h;obtain ⟨u,rfl,A⟩:=yO r;obtain ⟨ds,e,hg⟩:=U.get (K:=C.K) (F:=F) es;obtain ⟨a,sk,vs,rfl,hq,l⟩:=UJ f t e;cases A;rw [D] at hq;obtain ⟨its,o,n,g,m,c,z,hd,hz⟩:=qb4 I hq;obtain ⟨d,hi,j⟩:=hg l g;refine ZP (T:=T) (λA1 L R hA k=>?_) λh' tk S kp=>⟨.ref s.heap.objs.size,_,I.laid (t':=tk) kp (ax _) (qdy S),rfl,q j _ (I.hok.fresh (ax _))⟩
 exact qiS (sk:=sk) (items:=its.toArray) (hA.trans (I.ok.hd B)) (ZO (ah _ rfl)) (.of (aa _ m) hd c) (by simp [d]) (λi v e=>(hi i v (by simpa using e)).imp λx h=>⟨h.1,h.2 _ _⟩) (by rw [au,d]; unfold scanBound; omega) (aG (ap m)) λh' tk S kp=>k h' tk S λb o eb=>kp b o (aG (ap eb)) (aa _ eb)
theorem Vj:∀ {us:List iM} {ss:List Str},StrsAre us ss->Vals (ss.map V.str) us
 | _,_,.nil=>.nil
 | _,_,.cons y t h=>.cons ⟨t,rfl⟩ (Vj h)
theorem Gc (c:X.calm=iO):uo X (.builtin "sorted") (λxs H Q=>∃ a ks,xs=[.ref a]/\H a=iJ (qep KpS X.prog X.w a ks)/\ks.length < 64/\∀ p,H p=iL->Q (.ref p) (upd H p (.lst ((ym ks).map V.str)))):=by
 intro pins s σ H xs us Q I r h;obtain ⟨a,ks,rfl,g,j,q⟩:=h;obtain ⟨u,rfl,A⟩:=yO r;cases A;have S:SetK KpS X.prog X.w s.heap a ks:=(I.hok a _ g).1;refine Xe (I.ok.hd c) S j λh1 h' b tk vs e ss k1 k2 hp st pm so=>?_;rw [Gb pm so] at st;have d:Inv X pins σ H { s with heap:=h1,drawn:=b,toks:=tk }:=qiT I k1;have hz:(ym ks).length<=sizeLine:=by rw [(jn ks).length_eq,iT];omega
 refine ⟨.ref h1.objs.size,_,d.laid (t':=tk) (o:=.lst ((ym ks).map V.str)) k2 (ax _) ⟨by rw [am]; exact hz,vs.toList,e,Vj st,by simpa [seqObj] using hp⟩,rfl,q _ (d.hok.fresh (ax _))⟩
theorem qdz [DecidableEq κ] {T:KP κ}:uo X (.builtin "len") (λxs H Q=>∃ a ks,xs=[.ref a]/\H a=iJ (qep T X.prog X.w a ks)/\Q (.int ks.length) H):=by intro pins s σ H xs us Q I r h;obtain ⟨a,ks,rfl,g,q⟩:=h;obtain ⟨u,rfl,A⟩:=yO r;cases A;obtain ⟨es,ep,t,m,d⟩:SetK T X.prog X.w s.heap a ks:=(I.hok a _ g).1;have b:=d.bd;refine call_len_set m ⟨rfl,rfl,rfl⟩ rfl d.fits (by unfold scanBound at b; omega) ?_;exact ⟨.int ks.length,H,I.tok _,⟨_,by rw [d.size]⟩,q⟩
theorem Jv {m:Mo} {Q R:VK} (h:tE C own m f σ H Q) (i:∀ v H1,Q v H1->R v H1):tE C own m f σ H R:=by
 obtain ⟨F,ρ,r,po⟩:=h;refine ⟨F,ρ,r,?_⟩;cases q:f ρ with
 | ok p=>rw [q] at po;obtain ⟨d,ρ1⟩:=p;exact λv F1 H1 a b c=>i _ _ (po v F1 H1 a b c)
 | exc c ρ1=>rw [q] at po;exact po
 | bad=>rw [q] at po;exact po.elim
noncomputable def uX (d:D):Out D:=match xf d with
 | some ss=>if ss.length < 64 then .ok (.lst ((ym (ss.foldl zg [])).map D.str)) else .bad
 | none=>.bad
noncomputable def gD (d:D):Out D:=match xf d with
 | some ss=>if ss.length < 4000 then .ok (.int (ss.foldl zg []).length) else .bad
 | none=>.bad
theorem Jw:∀ {ss:List Str},(∀ x∈ss,x.length<=sizeLine)->IsL K F (ss.map V.str) (ss.map D.str)
 | [],_=>.nil
 | x::l,h=>.cons (.str (h x (aw ..))) (Jw λy k=>h y (af _ k))
theorem QX {p p2 pos2:Pos} (r:C.K=X.K) (j:X.calm=iO) (hg:Gl X "sorted") (n:X.mg "sorted"=iL) (v:bootBuiltins "sorted"=iJ (.builtin "sorted")) (g:Gl X "set") (d:X.mg "set"=iL) (c:bootBuiltins "set"=iJ (.type "set")) (o:PE X e (tE C own ma fa))
  (i:starEach [e] X.env=[(iN,eval e X.env)]:=by exact qI rfl) (b:starEach [.Call (.Name "set" p2) [e] [] pos2] X.env=[(iN,eval (.Call (.Name "set" p2) [e] [] pos2) X.env)]:=by exact qI rfl) :
  PE X (.Call (.Name "sorted" p) [.Call (.Name "set" p2) [e] [] pos2] [] pos) (tE C own .fr (d1 uX fa)):=by
 refine jF (wC (Gc j) hg n v (qK (uq (qb8 KdS r j) g d c (qK o jI i) (by decide) (by decide) (by rw [i]; rfl) rfl) jI b) (by decide) (by decide) (by rw [b]; rfl) rfl) λσ H Q h=>?_;refine Jv (gf (ma:=ma) h) λx H1 ⟨B,F,dx,ex,s,k,po⟩=>?_;cases ex;unfold uX at po;cases es:xf dx with
 | none=>rw [es] at po;exact po.elim
 | some ss=>
  rw [es] at po;by_cases hl:ss.length < 64
  ·have po:PoV C .fr F H1 (if ss.length < 64 then .ok (.lst ((ym (ss.foldl zg [])).map D.str)) else .bad) Q:=po;rw [if_pos hl,<-UP] at po;refine ⟨x,F,dx,ss,rfl,s,k,es,by omega,λm q hq=>⟨q,_,rfl,qo,?_,λl f=>?_⟩⟩;·have:=xc ss [];rw [bg] at this;omega
   ·obtain ⟨s1,A,f1⟩:=vt (u:=qep KpS X.prog X.w q (ss.foldl xB [])) s hq;obtain ⟨s2,c2,f2⟩:=vt (u:=.lst ((ym (ss.foldl xB [])).map V.str)) s1 f;have t:H1 l=none:=by
     by_cases z:l=q;·rw [z] at f;rw [qo] at f;cases f
     ·rwa [qw z] at f
    refine po _ _ _ s2 (A.trans' c2) ⟨l,rfl,t,f2,_,qo,Jw λy a=>m y ?_⟩;rw [UP] at a;rcases Vi ss [] ((jn _).mem_iff.mp a) with z | z;·cases z
    ·exact z
  ·have po:PoV C .fr F H1 (if ss.length < 64 then .ok (.lst ((ym (ss.foldl zg [])).map D.str)) else .bad) Q:=po;rw [if_neg hl] at po;exact po.elim
noncomputable def qgy [DecidableEq κ] {T:KP κ} (U:KD T) (add:List κ->κ->List κ) (d:D):Out D:=match U.sqd d with
 | some ss=>if ss.length < 4000 then .ok (.int (ss.foldl add []).length) else .bad
 | none=>.bad
theorem Xg [DecidableEq κ] {T:KP κ} (U:KD T) {p p2 pos2:Pos} (j:C.K=X.K) (a:X.calm=iO) (hg:Gl X "len") (m:X.mg "len"=iL) (v:bootBuiltins "len"=iJ (.builtin "len")) (g:Gl X "set") (d:X.mg "set"=iL) (c:bootBuiltins "set"=iJ (.type "set")) (f:PE X e (tE C own ma fa))
  (i:starEach [e] X.env=[(iN,eval e X.env)]:=by exact qI rfl) (b:starEach [.Call (.Name "set" p2) [e] [] pos2] X.env=[(iN,eval (.Call (.Name "set" p2) [e] [] pos2) X.env)]:=by exact qI rfl) :
  PE X (.Call (.Name "len" p) [.Call (.Name "set" p2) [e] [] pos2] [] pos) (tE C own .sh (d1 (qgy U xB) fa)):=by
 refine jF (wC (qdz (T:=T)) hg m v (qK (uq (qb8 U j a) g d c (qK f jI i) (by decide) (by decide) (by rw [i]; rfl) rfl) jI b) (by decide) (by decide) (by rw [b]; rfl) rfl) λσ H Q h=>?_;refine Jv (gf (ma:=ma) h) λx H1 ⟨n,F,dx,ex,y,t,po⟩=>?_;cases ex;unfold qgy at po;cases es:U.sqd dx with
 | none=>rw [es] at po;exact po.elim
 | some ss=>
  rw [es] at po;have po:PoV C .sh F H1 (if ss.length < 4000 then .ok (.int (ss.foldl xB []).length) else .bad) Q:=po;by_cases hl:ss.length < 4000;·rw [if_pos hl] at po;refine ⟨x,F,dx,ss,rfl,y,t,es,hl,λl q hq=>⟨q,_,rfl,qo,?_⟩⟩;obtain ⟨s1,k,f1⟩:=vt (u:=qep T X.prog X.w q (ss.foldl xB [])) y hq;exact po _ _ _ s1 k (.int _)
  ·rw [if_neg hl] at po;exact po.elim
theorem Ge {p p2 pos2:Pos} (j:C.K=X.K) (a:X.calm=iO) (hg:Gl X "len") (m:X.mg "len"=iL) (v:bootBuiltins "len"=iJ (.builtin "len")) (g:Gl X "set") (h:X.mg "set"=iL) (c:bootBuiltins "set"=iJ (.type "set")) (f:PE X e (tE C own ma fa))
  (i:starEach [e] X.env=[(iN,eval e X.env)]:=by exact qI rfl) (b:starEach [.Call (.Name "set" p2) [e] [] pos2] X.env=[(iN,eval (.Call (.Name "set" p2) [e] [] pos2) X.env)]:=by exact qI rfl) :
  PE X (.Call (.Name "len" p) [.Call (.Name "set" p2) [e] [] pos2] [] pos) (tE C own .sh (d1 gD fa)):=by
 rw [show gD=qgy KdS xB by rw [UP];funext d;have q:KdS.sqd d=xf d:=rfl;unfold gD qgy;rw [q];cases xf d <;> rfl];exact Xg KdS j a hg m v g h c f i b
end
variable {β:Type}
@[simp] theorem wJ {a:α} {k:α->Out β}:(Out.ok a).bind k=k a:=rfl
@[simp] theorem qic {c:Str} {o:Sl} {k:α->Out β}:(Out.exc c o:Out α).bind k=.exc c o:=rfl
@[simp] theorem qid {k:α->Out β}:(Out.bad:Out α).bind k=.bad:=rfl
@[simp] theorem qhs {a:α}:(Out.ok a).plain=.ok a:=rfl
@[simp] theorem qie:(Out.bad:Out α).plain=.bad:=rfl
variable {c:Prop}
@[simp] theorem qif [Decidable c] {a b:Out α} {k:α->Out β}:(if c then a else b).bind k=if c then a.bind k else b.bind k:=by split <;> rfl
@[simp] theorem qig [Decidable c] {a b:Out α}:(if c then a else b).plain=if c then a.plain else b.plain:=by split <;> rfl
noncomputable def qbj (d:D) (A B:Out α):Out α:=match d with
 | .bl b=>if b=iO then A else B
 | _=>.bad
@[simp] theorem qgz {A B:Out α}:qbj (.bl b) A B=if b=iO then A else B:=rfl
noncomputable def qih (p:D×Sl):Out (Bool×Sl):=match p.1 with
 | .bl b=>.ok (b,p.2)
 | _=>.bad
variable {ρ:Sl}
@[simp] theorem qht:qih (.bl b,ρ)=.ok (b,ρ):=rfl
noncomputable def Xh (ms:List PM):Out (Fl×Sl)->Out (D×List D)
 | .ok (.nx,ρ)=>.ok (.non,qt ρ 0 ms)
 | .ok (.rt d,ρ)=>.ok (d,qt ρ 0 ms)
 | .ok _=>.bad
 | .exc c ρ=>.exc c ((qt ρ 0 ms).map iJ)
 | .bad=>.bad
variable {ms:List PM}
theorem runD_ap {f:Sl->Out (Fl×Sl)}:ky N ms f ds=Xh ms (f (qu N ds)):=by unfold ky Xh;rfl
@[simp] theorem qii:Xh ms (.ok (.rt d,ρ))=.ok (d,qt ρ 0 ms):=rfl
@[simp] theorem qij:Xh ms (.ok (.nx,ρ))=.ok (.non,qt ρ 0 ms):=rfl
@[simp] theorem qhu {c:Str}:Xh ms (.exc c ρ)=.exc c ((qt ρ 0 ms).map iJ):=rfl
@[simp] theorem qhv [Decidable c] {a b:Out (Fl×Sl)}:Xh ms (if c then a else b)=if c then Xh ms a else Xh ms b:=by split <;> rfl
noncomputable def Xi (as:List AK) (ρ:Sl):Out (D×List D)->Out (D×Sl)
 | .ok q=>.ok (q.1,jw as q.2 ρ)
 | .exc c o=>.exc c (jw as (o.map (·.getD .non)) ρ)
 | .bad=>.bad
variable {as:List AK}
@[simp] theorem qgA {q:D×List D}:Xi as ρ (.ok q)=.ok (q.1,jw as q.2 ρ):=rfl
@[simp] theorem qfB {c:Str} {o:Sl}:Xi as ρ (.exc c o)=.exc c (jw as (o.map (·.getD .non)) ρ):=rfl
@[simp] theorem qfC [Decidable c] {a b:Out (D×List D)}:Xi as ρ (if c then a else b)=if c then Xi as ρ a else Xi as ρ b:=by split <;> rfl
variable {ρ:Sl}
@[simp] theorem qhw:qe i ρ=match ρ[i]? with | some (iJ d)=>.ok (d,ρ) | _=>.bad:=rfl
@[simp] theorem qiU:dC d ρ=.ok (d,ρ):=rfl
variable {gg:D->Sl->Out Sl}
section
variable {g g':D->D->Out D} {g1:D->Out D} {fb fc:Sl->Out (D×Sl)} {ft fu:Sl->Out (Bool×Sl)} {fr:Sl->Out (List D×Sl)} {fs ft1:Sl->Out (Fl×Sl)} {fi:Sl->Out (List D×Sl)} {G:List D->Out (D×List D)}
@[simp] theorem xJ:d1 g1 fa ρ=(fa ρ).bind λp=>(g1 p.1).plain.bind λd=>.ok (d,p.2):=rfl
@[simp] theorem qhx:d2 g fa fb ρ=(fa ρ).bind λp=>(fb p.2).bind λq=>(g p.1 q.1).plain.bind λd=>.ok (d,q.2):=rfl
@[simp] theorem qhy:uu f ρ=(f ρ).bind λp=>(vm p.1).bind λb=>.ok (b,p.2):=rfl
@[simp] theorem qgB:jb f ρ=(f ρ).bind qih:=rfl
@[simp] theorem qhz:yn ft ρ=(ft ρ).bind λp=>.ok (!p.1,p.2):=rfl
@[simp] theorem qgC:qhp f ρ=(jb f ρ).bind λp=>.ok (.bl (!p.1),p.2):=rfl
@[simp] theorem qhA:qfb ft fu ρ=(ft ρ).bind λp=>if p.1=iO then fu p.2 else .ok (iN,p.2):=rfl
@[simp] theorem qik:dOr ft fu ρ=(ft ρ).bind λp=>if p.1=iO then .ok (iO,p.2) else fu p.2:=rfl
@[simp] theorem qgD:Jl fa fb ρ=(fa ρ).bind λp=>qbj p.1 (fb p.2) (.ok (.bl iN,p.2)):=by
 unfold Jl;cases fa ρ with
 | ok p=>
  obtain ⟨d,r⟩:=p;cases d <;> try rfl
  rename_i b;cases b <;> rfl
 | exc c o=>rfl
 | bad=>rfl
@[simp] theorem qhB:qgs fa fb ρ=(fa ρ).bind λp=>qbj p.1 (.ok (.bl iO,p.2)) (fb p.2):=by
 unfold qgs;cases fa ρ with
 | ok p=>
  obtain ⟨d,r⟩:=p;cases d <;> try rfl
  rename_i b;cases b <;> rfl
 | exc c o=>rfl
 | bad=>rfl
@[simp] theorem qil:dIf ft fa fb ρ=(ft ρ).bind λp=>if p.1=iO then fa p.2 else fb p.2:=rfl
@[simp] theorem qfD:yR g g' fa fb fc ρ=(fa ρ).bind λp=>(fb p.2).bind λq=>(g p.1 q.1).plain.bind λz=>qbj z ((fc q.2).bind λr=>(g' q.1 r.1).plain.bind λd=>.ok (d,r.2)) (.ok (.bl iN,q.2)):=by
 unfold yR;congr 1;funext p;congr 1;funext q;congr 1;funext z;cases z <;> try rfl
 rename_i b;cases b <;> rfl
@[simp] theorem qhC:qB ρ=.ok ([],ρ):=rfl
@[simp] theorem qgE:qd fa fr ρ=(fa ρ).bind λp=>(fr p.2).bind λq=>.ok (p.1::q.1,q.2):=rfl
@[simp] theorem qgF:kA fr ρ=(fr ρ).bind λq=>.ok (D.non::q.1,q.2):=rfl
@[simp] theorem qhD:xE fr ρ=(fr ρ).bind λp=>if p.1.length<=sizeLine then .ok (.tup p.1,p.2) else .bad:=rfl
@[simp] theorem qhE:Qq fr ρ=(fr ρ).bind λp=>if p.1.length<=sizeLine then .ok (.lst p.1,p.2) else .bad:=rfl
@[simp] theorem qgG:jk ρ=.ok (.nx,ρ):=rfl
@[simp] theorem Wt:qL fs ft1 ρ=(fs ρ).bind λp=>match p.1 with | .nx=>ft1 p.2 | _=>.ok p:=by
 show _=_;unfold qL;cases fs ρ with
 | ok p=>obtain ⟨l,r⟩:=p; cases l <;> rfl
 | exc c o=>rfl
 | bad=>rfl
@[simp] theorem qim:sIf ft fs ft1 ρ=(ft ρ).bind λp=>if p.1=iO then fs p.2 else ft1 p.2:=rfl
@[simp] theorem qgH:kz f ρ=(f ρ).bind λp=>.ok (.nx,p.2):=rfl
@[simp] theorem Gf:jL f ρ=(f ρ).bind λp=>.ok (.rt p.1,p.2):=rfl
@[simp] theorem Jx:kj i f ρ=(f ρ).bind λp=>if i < p.2.length then .ok (.nx,p.2.set i (iJ p.1)) else .bad:=rfl
@[simp] theorem qgI:qx as G fr ρ=(fr ρ).bind λp=>match qD as p.1 p.2 with | some ds=>Xi as p.2 (G ds) | none=>.bad:=rfl
@[simp] theorem qhF:qiQ f ρ=(f ρ).bind λp=>(Qw p.1).bind λds=>.ok (ds,p.2):=rfl
@[simp] theorem qhG:jK f ρ=(f ρ).bind λp=>(jJ p.1).bind λds=>.ok (ds,p.2):=rfl
@[simp] theorem qin:gNm i d ρ=if i < ρ.length then .ok (ρ.set i (iJ d)) else .bad:=rfl
@[simp] theorem yH:QO fi gg fs ρ=(fi ρ).bind λp=>kQ gg fs p.1 p.2:=rfl
@[simp] theorem qhH:qiR f gg ρ=(f ρ).bind λp=>match gg p.1 p.2 with | .ok ρ'=>.ok (.nx,ρ') | _=>.bad:=rfl
@[simp] theorem qhI {gg:List D->D->Out (List D)}:zz i gg f ρ=if yE ρ[i]?=iO then (f ρ).bind λp=>(match p.2[i]? with | some (iJ (.lst xs))=>(match gg xs p.1 with | .ok ys=>.ok (.non,p.2.set i (iJ (.lst ys))) | _=>.bad) | _=>.bad) else .bad:=rfl
@[simp] theorem qio:ftT ρ=.ok (iO,ρ):=rfl
end
end L2.D2
namespace L2.D2
open PySem PySem.Spec PyProof.Rows
def qem (i j:Int):Prop:=(0<=j/\j<=64)/\-4611686018427387904 < i/\i < 4611686018427387904
instance:∀ i j,Decidable (qem i j):=λi j=>inferInstanceAs (Decidable (_/\_))
variable {X:Cx} {C:Ct}
section
theorem qbX:OpR X (binaryOp .Pow) (rI qem λi j=>.int (i ^ j.toNat)):=opI λi j _ _ _ _ _ d q=>by obtain ⟨⟨h0,h1⟩,h2,h3⟩:=d;exact pow_int_small h0 (by omega) (by omega) q
noncomputable def qhJ:D->D->Out D:=KG λi j=>if qem i j then .ok (.int (i ^ j.toNat)) else .bad
theorem qfE:OpD X C .sh (binaryOp .Pow) qhJ:=Zg qbX λ_ _ _=>.int _
end
noncomputable def Gg (sep:Str):D->Out D
 | .lst ds=>match yG ds with
  | some ss=>if (ss.map (·.length)).sum+ss.length * sep.length<=16777216/\(fZ sep ss).length<=sizeLine then .ok (.str (fZ sep ss)) else .bad
  | none=>.bad
 | _=>.bad
variable {own:List Nat} {e:Expr} {m:Mo}
section
variable {fe:Sl->Out (D×Sl)} {apos cpos:Pos} {sep:Str}
theorem qdA:MtR X "str.join" (λx vs H Q=>∃ (sep:Str) (a:Addr) (xs:List V) (ss:List Str),x=.str sep/\vs=[.ref a]/\SqL X.K H a xs/\(∀ us,Vals xs us->StrsAre us ss)/\(ss.map (·.length)).sum+ss.length * sep.length<=16777216/\Q (.str (fZ sep ss)) H):=by intro pins s σ H x vs v us Q I d c h;obtain ⟨sep,a,xs,ss,rfl,rfl,hq,f,hz,q⟩:=h;obtain ⟨t,rfl⟩:=d;obtain ⟨u,rfl,A⟩:=c.one;cases A;obtain ⟨its,r,pl,_⟩:=I.list hq;obtain ⟨o,n,m,e,hd,b⟩:=pl;exact join_list ⟨o,m,e,n,b⟩ (by simpa using f its r) hz λt' k=>⟨.str (fZ sep ss),H,I.tok _,⟨_,rfl⟩,q⟩
theorem qdB {k c2} (u:C.K=X.K) (s:PE X e (tE C own m fe))
  (f:attributeBase (.Constant (.str sep) k c2) "join" X.env (eval (.Constant (.str sep) k c2) X.env)=eval (.Constant (.str sep) k c2) X.env:=by rfl)
  (w:((backTo cpos (starEach [e] X.env)).all (λx=>!x.1)&&(backToKw cpos (keywordEach [] X.env)).all (λx=>x.1.isSome)
   && decide ([e].length+([]:List k6).length+(if ([]:List k6).isEmpty then 0 else 1) < 30))=true:=by exact wG rfl)
  (b:(apos.endLine == cpos.line)=true:=by rfl) (hs:starEach [e] X.env=[(iN,eval e X.env)]:=by exact qI rfl) :
  PE X (.Call (.Attribute (.Constant (.str sep) k c2) "join" apos) [e] [] cpos) (tE C own .sh (d1 (Gg sep) fe)):=by
 refine jF (YM PySem.F.plainAttrs_str PySem.F.slot_str_join PySem.F.type_str_join qdA qbV (qK s jI hs) f w b hs rfl) λσ H Q h=>?_;refine ⟨rfl,?_⟩;obtain ⟨F,ρ,o,h⟩:=Jk (ma:=m) h;refine ⟨F,ρ,o,?_⟩;cases q:fe ρ with
 | ok p=>
  rw [q] at h;obtain ⟨d,ρ1⟩:=p;intro v F1 H1 g k j;obtain ⟨z,dx,y,n,po⟩:=h v F1 H1 g k j;cases dx <;> try exact po.elim
  rename_i ds;unfold Gg at po;cases i:yG ds with
  | none=>simp only [i] at po; exact po.elim
  | some ss=>
   simp only [i] at po;by_cases hz:(ss.map (·.length)).sum+ss.length * sep.length<=16777216/\(fZ sep ss).length<=sizeLine
   ·rw [if_pos hz] at po;obtain ⟨a,vs,rfl,hq,t⟩:=n.lst y;have l:SqL X.K H1 a vs:=by rw [<-u]; exact hq
    exact ⟨sep,a,vs,ss,rfl,rfl,l,λus r=>(Ws t r i).1,hz.1,po _ z H1 y .refl (.str hz.2)⟩
   ·rw [if_neg hz] at po;exact po.elim
 | exc c=>rw [q] at h; exact h
 | bad=>rw [q] at h; exact h.elim
end
noncomputable def dM (k:D->Bool) (g:D->D->Out D) (fo fa:Sl->Out (D×Sl)):Sl->Out (D×Sl):=λρ=>(fo ρ).bind λp=>if k p.1 then (fa p.2).bind λq=>(g p.1 q.1).plain.bind λd=>.ok (d,q.2) else .bad
variable {a:Expr} {fa fb:Sl->Out (D×Sl)} {ma mb:Mo} {pos:Pos} {σ:St} {F H:Hp} {Q:VK}
section
variable {b:Expr}
theorem Po.imp {r:Out (D×Sl)} {R:VK} (h:Po C own m σ F H r Q) (i:∀ v H',Q v H'->R v H'):Po C own m σ F H r R:=by
 cases r with
 | ok p=>exact λv F' H' a c mo=>i v H' (h v F' H' a c mo)
 | exc x=>exact h
 | bad=>exact h.elim
theorem qdC {k:D->Bool} {g:D->D->Out D} (f:ma≠.any) (h:tE C own m (dM k g fa fb) σ H Q):tE C own ma fa σ H λx H1=>(∃ F dx,Same F H1/\TopIs C.K F H1 x dx/\k dx=iO)/\tE C own mb fb σ H1 λy H2=>∃ F dx j,Same F H2/\TopIs C.K F H2 x dx/\TopIs C.K F H2 y j/\PoV C m F H2 (g dx j) Q:=by
 obtain ⟨F,ρ,p,h⟩:=h;refine ⟨F,ρ,p,Po.bind h λv F1 H1 d ρ1 a n c h1=>?_⟩;cases i:k d with
 | false=>simp only [i] at h1; exact h1.elim
 | true=>simp only [i,if_true] at h1;exact ⟨⟨F1,d,a.sub,c.top,i⟩,F1,ρ1,a,Po.bind h1 λw l H2 e ρ2 r c2 b h2=>⟨l,d,e,r.sub,(c.grow f c2 λx z=>(p.OA_there z).1).top,b.top,PoV.of r h2⟩⟩
def MtD (X:Cx) (C:Ct) (m:Mo) (id:String) (g:D->D->Out D):Prop:=
 MtR X id (λx vs H Q=>∃ y F dx d,vs=[y]/\Same F H/\TopIs C.K F H x dx/\TopIs C.K F H y d/\PoV C m F H (g dx d) Q)
end
theorem Gh {pins:List (Addr×Obj)} {s:iP} (I:Inv X pins σ H s) (y:Same F H) {n:Nat} {e:D}:∀ {vs:List V} {ds:List D} {us:List iM} {b:Bool},IsL X.K F vs ds->Vals vs us->Qt n e ds=iJ b ->us.map (Xy X F n e)=ds.map λd=>eqN n d e == iJ iO
 | _,_,_,b,.nil,.nil,h=>rfl
 | _,_,_,b,.cons i t,.cons r rs,h=>by obtain ⟨a,c,q,f,rfl⟩:=KH h;rw [aL,aL,Gh I y t rs f,Zm I y i r q,q];cases a <;> rfl
noncomputable def qhK:Sl->Out (Fl×Sl):=λ_=>.bad
section
variable {own':List Nat} {sts:List Stmt}
theorem qdD:PSs X sts (tSt C own own' qhK):=by refine ⟨?_⟩;intro pins s σ H D I h;obtain ⟨_,_,_,h⟩:=h;exact h.elim
end
def qfF (i j:Int):Prop:=(-(2 ^ 62)<=i/\i < 2 ^ 62)/\-(2 ^ 62)<=j/\j < 2 ^ 62
instance:∀ i j,Decidable (qfF i j):=λi j=>inferInstanceAs (Decidable (_/\_))
variable {K:Frag}
section
variable {b tg:Expr}
theorem Gi:∀ {xs:List V} {us:List iM},xs.length=us.length->(∀ (j:Nat) (x:V) (u:iM),xs[j]?=iJ x->us[j]?=iJ u->RelV x u)->Vals xs us
 | [],[],_,_=>.nil
 | x::xs,u::us,hl,h=>.cons (h 0 x u rfl rfl) (Gi (Nat.succ.inj hl) λj y w a b=>h (j+1) y w (by simpa using a) (by simpa using b))
 | [],_::_,hl,_=>nomatch hl
 | _::_,[],hl,_=>nomatch hl
noncomputable def qgJ (p:Addr) (lo hi:Int):HO:=.ext λh=>∃ t u v,IsRange h p lo hi 1 t u v
theorem qdE {P:iR} {w:iS} {h:Heap} {p:Addr} {lo hi:Int} {t u v:Tok} (x:IsRange h p lo hi 1 t u v):ObjOk P w H h p (qgJ p lo hi):=
 ⟨⟨t,u,v,x⟩,⟨_,x⟩,λ_ _ ⟨t,u,v,x⟩ k=>⟨t,u,v,k _ x⟩⟩
theorem Gj:uo X (.type "range") (λxs H Q=>∃ j:Int,xs=[.int j]/\∀ p,H p=iL->Q (.ref p) (upd H p (qgJ p 0 j))):=by intro pins s σ H xs us Q I r h;obtain ⟨j,rfl,q⟩:=h;obtain ⟨u,rfl,A⟩:=yO r;obtain ⟨t,rfl⟩:=A;exact call_range_1 ⟨.ref s.heap.objs.size,_,I.laid (t':=s.toks+1+1) (λb o e=>aa _ e) (ax _) (qdE (IsRange.new ..)),rfl,q _ (I.hok.fresh (ax _))⟩
theorem qbk (e:X.calm=iO):uo X (.type "list") (λxs H Q=>∃ r lo hi,xs=[.ref r]/\H r=iJ (qgJ r lo hi)/\(qfF lo hi/\hi - lo<=1000000)/\∀ p,H p=iL->Q (.ref p) (upd H p (.lst ((aN (hi - lo).toNat).map λk=>V.int (lo+(k:Nat)))))):=by
 intro pins s σ H xs us Q I r h;obtain ⟨a,lo,hi,rfl,g,hz,q⟩:=h;obtain ⟨u,rfl,A⟩:=yO r;cases A;obtain ⟨t,u,v,d⟩:=(I.hok a _ g).1;have i:Builtin.Range.rangeSize lo hi 1=(((hi - lo).toNat:Nat):Int):=by rw [rangeSize_one]; split <;> omega
 refine call_list_range (n:=(hi - lo).toNat) (I.ok.hd e) d (small_one hz.1.1.1 hz.1.1.2 hz.1.2.1 hz.1.2.2) i (by omega) λh' tk acc c k hp b=>?_;refine ⟨.ref s.heap.objs.size,_,I.laid (t':=tk) (o:=.lst ((aN (hi - lo).toNat).map λk=>V.int (lo+(k:Nat)))) k (ax _) ⟨by rw [am,bO,iT]; omega,acc.toList,c,?_,by simpa using hp⟩,rfl,q _ (I.hok.fresh (ax _))⟩;refine Gi (by rw [am,bO,cG,b.1]) λj x w ex ew=>?_;rw [aK] at ex;obtain ⟨k,f,rfl⟩:=aV.mp ex;obtain ⟨D,rfl⟩:=aH.mp f;obtain ⟨t,rfl⟩:=b.2 j w (by simpa using ew);exact ⟨t,by simp⟩
noncomputable def uY:D->Out D
 | .int j=>if qfF 0 j/\j - 0<=1000000 then .ok (.lst (Jn 0 (j - 0).toNat)) else .bad
 | _=>.bad
theorem Gk {lo:Int}:∀ l:List Nat,IsL K F (l.map λk=>V.int (lo+(k:Nat))) (l.map λk=>D.int (lo+(k:Nat)))
 | []=>.nil
 | k::l=>.cons (.int _) (Gk l)
theorem Xj {p p2 pos2:Pos} (n:X.calm=iO) (hg:Gl X "list") (m:X.mg "list"=iL) (v:bootBuiltins "list"=iJ (.type "list")) (g:Gl X "range") (d:X.mg "range"=iL) (c:bootBuiltins "range"=iJ (.type "range")) (o:PE X e (tE C own ma fa))
  (i:starEach [e] X.env=[(iN,eval e X.env)]:=by exact qI rfl) (b:starEach [.Call (.Name "range" p2) [e] [] pos2] X.env=[(iN,eval (.Call (.Name "range" p2) [e] [] pos2) X.env)]:=by exact qI rfl) :
  PE X (.Call (.Name "list" p) [.Call (.Name "range" p2) [e] [] pos2] [] pos) (tE C own .fr (d1 uY fa)):=by
 refine jF (uq (qbk n) hg m v (qK (uq Gj g d c (qK o jI i) (by decide) (by decide) (by rw [i]; rfl) rfl) jI b) (by decide) (by decide) (by rw [b]; rfl) rfl) λσ H Q h=>?_;refine Jv (gf (ma:=ma) h) λx H1 ⟨s,F,dx,ex,y,a,po⟩=>?_;cases ex;cases dx <;> try exact po.elim
 rename_i j;unfold uY at po;by_cases hz:qfF 0 j/\j - 0<=1000000
 ·simp only [if_pos hz] at po;obtain rfl:=a.int;refine ⟨j,rfl,λq hq=>⟨q,0,j,rfl,qo,hz,λl f=>?_⟩⟩;obtain ⟨s1,r,f1⟩:=vt (u:=qgJ q 0 j) y hq;obtain ⟨s2,c2,f2⟩:=vt (u:=.lst ((aN (j - 0).toNat).map λk=>V.int (0+(k:Nat)))) s1 f;have t:H1 l=none:=by
   by_cases z:l=q;·rw [z] at f;rw [qo] at f;cases f
   ·rwa [qw z] at f
  exact po _ _ _ s2 (r.trans' c2) ⟨l,rfl,t,f2,_,qo,Gk _⟩
 ·simp only [if_neg hz] at po;exact po.elim
end
noncomputable def Ite (K:Frag) (a:Addr) (xs:List V):It:=
 ⟨λi H=>i < xs.length/\SqL K H a xs,λi H v H'=>∃ x p,xs[i]?=iJ x/\H p=iL/\v=.ref p/\H'=upd H p (.tup [.int (i:Nat),x]),λi H=>xs.length<=i/\SqL K H a xs⟩
theorem Gm {P:iR} {w:iS} {K:Frag} {t:List Expr} {x1} {pos:Pos} (b a:Nat) (xs:List V) (h1:a < b):Turn P w K (.Tuple t x1 pos) (Ite K a xs) [b+1,b] (b+1) (λi h=>(∃ old,IsEnum h (b+1) b i old)/\h.IsListIter b a i) where
 mem:=by simp
 obj:=λi h st c d=>by
  obtain ⟨⟨old,f⟩,o,j,l,hd⟩:=st;simp only [ac,bV,or_false] at d;rcases d with rfl | rfl;·exact ⟨_,f,λv z=>by cases z⟩
  ·exact ⟨o,j,λv z=>by rw [hd] at z; cases z⟩
 keep:=λi h h' st k=>by obtain ⟨⟨old,f⟩,o,j,l,hd⟩:=st;exact ⟨⟨old,k _ (by simp) _ f⟩,o,k _ (by simp) _ j,l,hd⟩
 item:=by
  intro X A hw B d i pins s σ H E I p st hg;subst A hw B;obtain ⟨⟨old,f⟩,hit⟩:=st;obtain ⟨hl,q⟩:=hg;obtain ⟨its,r,pl,_⟩:=I.list q;have hi:i < its.length:=by rw [<-r.length]; exact hl
  have hx:its.toArray[i]?=iJ its[i]:=by simp [hi]
  refine wpAny_pyNext_enum_item f hit pl.isList hx (Nat.succ_ne_self b) λh' L y G hz kp=>?_;refine ⟨_,rfl,wpAny_letOwnedTupleGo_enum L λhq N g=>?_⟩;obtain ⟨x,ex,J⟩:=gy r (aE hi);have hT:H s.heap.objs.size=none:=I.hok.fresh (ax _);have u:b+1 < s.heap.objs.size:=ap f;have T:∀ c∈[b+1,b],c≠s.heap.objs.size:=λc d=>by simp only [ac,bV,or_false] at d;have lt':b+1 < s.heap.objs.size:=u;generalize s.heap.objs.size=m at lt';intro z;omega
  have Q:Inv X pins σ (upd H s.heap.objs.size (.tup [.int (i:Nat),x])) { s with heap:=s.heap.push { cls:=.type "tuple",data:=.seq #[.int i s.toks,its[i]] } }:=
   I.laid (t':=s.toks) (λ_ _ e=>aa _ e) (ax _) ⟨⟨by simp only [aq,bg]; rw [iT]; decide,_,ah _ rfl,rfl⟩,[.int i s.toks,its[i]],.cons ⟨_,rfl⟩ (.cons J .nil),⟨_,ah _ rfl,rfl,_,rfl⟩⟩
  have O:Inv X pins σ (upd H s.heap.objs.size (.tup [.int (i:Nat),x])) { s with heap:=hq,toks:=s.toks+1 }:=by
   refine ZW (s:={ s with heap:=s.heap.push { cls:=.type "tuple",data:=.seq #[.int i s.toks,its[i]] } }) (ch:=[b+1,b]) Q (λc o n e=>?_) λc d=>⟨by rw [qw (T c d)]; exact (p c d).1,(p c d).2⟩
   simp only [ac,bV,or_false,not_or] at n;rw [g.2 c n.1];by_cases C:c=s.heap.objs.size;·subst C;have D:(s.heap.push ({ cls:=.type "tuple",data:=.seq #[.int i s.toks,its[i]] }:Obj)).get? s.heap.objs.size=iJ { cls:=.type "tuple",data:=.seq #[.int i s.toks,its[i]] }:=ah _ rfl;rw [show (s.heap.push ({ cls:=.type "tuple",data:=.seq #[.int i s.toks,its[i]] }:Obj)).get? s.heap.objs.size=iJ o from e] at D;rw [D];exact G
   ·have M:s.heap.get? c=iJ o:=by have:=e;rwa [show (s.heap.push ({ cls:=.type "tuple",data:=.seq #[.int i s.toks,its[i]] }:Obj)).get? c=s.heap.get? c from fO _ _ _ C] at this
    exact kp c o n.1 n.2 M
  refine ⟨.ref s.heap.objs.size,_,O,rfl,⟨x,_,ex,hT,rfl,rfl⟩,⟨⟨_,by simpa using N⟩,?_⟩,λc d=>by rw [qw (T c d)]; exact (p c d).1⟩;obtain ⟨o,j,l,hd⟩:=y;exact ⟨o,(g.2 _ (Nat.succ_ne_self b).symm).trans j,l,hd⟩
 done:=by
  intro X A hw B d i pins s σ H E I p st hg;subst A hw B;obtain ⟨⟨old,f⟩,hit⟩:=st;obtain ⟨hl,q⟩:=hg;obtain ⟨its,r,pl,_⟩:=I.list q;refine wpAny_pyNext_enum_end (I.ok.hd d) f hit pl.isList (by simp; rw [<-r.length]; exact hl) λh' ex=>⟨rfl,ZW (t':=s.toks) (ch:=[b+1,b]) I (λc o n e=>?_) p⟩
  simp only [ac,bV,or_false,not_or] at n;exact ex c o n.2 e
 self:=λ_ _ _ _ _ st h=>wpAny_pyIter_enum st.1.choose_spec h
theorem Gn:bootBuiltins "enumerate"=iJ (.type "enumerate"):=by decide +kernel
noncomputable def Vk (xs:List D):List D:=(xs.zipIdx).map λp=>.tup [.int (p.2:Nat),p.1]
noncomputable def Go (f:Sl->Out (D×Sl)):Sl->Out (List D×Sl):=λρ=>(f ρ).bind λp=>match p.1 with
 | .lst xs=>.ok (Vk xs,p.2)
 | _=>.bad
theorem qfG {a:Addr} {xs:List V} {ds:List D} (p:SqL K F a xs) (t:IsL K F xs ds):ItIs K F (Ite K a xs) (Vk ds) where
 go:=λi H hi s=>by unfold Vk at hi;rw [am,List.length_zipIdx] at hi;exact ⟨by rw [t.length]; exact hi,s.seq p⟩
 yld:=λi Fi H v H' d e s1 s2 y=>by
  obtain ⟨x,q,hx,n,rfl,rfl⟩:=y;obtain ⟨d1,e1,i1⟩:=t.get hx;have o:d=.tup [.int (i:Nat),d1]:=by unfold Vk at e;rw [aK,List.getElem?_zipIdx,e1] at e;simpa using e.symm
  subst o;obtain ⟨g1,Y⟩:=yB (u:=.tup [.int (i:Nat),x]) s2 n;exact ⟨_,Y,g1,.tup (.of qo) (.cons (.int _) (.cons ((i1.mono s1).mono Y.grow) .nil))⟩
 stop:=λi H hi s=>by unfold Vk at hi;rw [am,List.length_zipIdx] at hi;exact ⟨by rw [t.length]; exact hi,s.seq p⟩
section
theorem qdF {ta:TA} {p tpos:Pos} {t:List Expr} {x1} (hg:Gl X "enumerate") (m:X.mg "enumerate"=iL) (l:PA X [a] ta) (hs:starEach [a] X.env=[(iN,eval a X.env)]):PI X (.Tuple t x1 tpos) (.Call (.Name "enumerate" p) [a] [] pos) (λσ H R=>ta σ H λvs H1=>∃ c xs,vs=[.ref c]/\SqL X.K H1 c xs/\R (Ite X.K c xs) H1):=by
 refine ⟨?_⟩;intro pins s σ H R I h;refine Call_ (zb I hg m Gn (bW (thn (l pos pins s σ H _ I h) λus s1 ⟨vs,H1,f,r1,k⟩=>?_) hs rfl));obtain ⟨c,xs,rfl,w,q⟩:=k;obtain ⟨u,rfl,e1⟩:=yO r1;cases e1;obtain ⟨its,v,pl,_⟩:=f.list w;have g:c < s1.heap.objs.size:=let ⟨o,_,e,_⟩:=pl; ap e;refine call_enumerate_list pl.isList λh' i hit hz kp=>?_;refine wpAny_pyIter_enum i ?_;refine ⟨s1.heap.objs.size+1,_,_,Ite X.K c xs,H1,rfl,f.kept (t':=s1.toks) kp,Gm s1.heap.objs.size c xs g,⟨⟨_,i⟩,hit⟩,λb j=>?_,q⟩;have d:s1.heap.objs.size<=b:=by
  simp only [ac,bV,or_false] at j;rcases j with rfl | rfl;·exact fm _ _
  ·exact ax _
 exact f.fpOk d (f.hok.fresh d)
theorem US {p tpos:Pos} {e:List Expr} {x1} (m:C.K=X.K) (hg:Gl X "enumerate") (f:X.mg "enumerate"=iL) (g:PE X a (tE C own ma fa)) (h1:ma≠.any:=by decide) (hs:starEach [a] X.env=[(iN,eval a X.env)]:=by exact qI rfl):PI X (.Tuple e x1 tpos) (.Call (.Name "enumerate" p) [a] [] pos) (tIt C own (Go fa)):=by
 refine qdc (qdF hg f (qK (yQ g h1) jI hs) hs) λσ H R ⟨F,ρ,b,h⟩=>⟨F,ρ,b,PoI.bindV h λv F1 H1 d ρ1 r k c h1=>?_⟩
 have c:Is C.K F1 v d:=c;cases c with
 | lst p t=>exact ⟨_,_,rfl,by rw [<-m]; exact r.sub.seq p,by rw [<-m]; exact h1 _ F1 H1 r k (qfG p t)⟩
 | _=>exact h1.elim
end
mutual
def qfH:Nat->Expr->Option D
 | 0,_=>iL
 | n+1,e=>match e with
  | .Constant c _ _=>match c with
   | .none=>iJ .non
   | .bool b=>iJ (.bl b)
   | .int i=>iJ (.int i)
   | .str x=>if x.length<=sizeLine then iJ (.str x) else iL
   | _=>iL
  | .UnaryOp .USub (.Constant (.int i) _ _) _=>iJ (.int (-i))
  | .List es _=>(qeq n es).bind λds=>if ds.length<=sizeLine then iJ (.lst ds) else iL
  | .Tuple es _ _=>(qeq n es).bind λds=>if ds.length<=sizeLine then iJ (.tup ds) else iL
  | _=>iL
def qeq:Nat->List Expr->Option (List D)
 | _,[]=>iJ []
 | 0,_::_=>iL
 | n+1,e::es=>(qfH n e).bind λd=>(qeq n es).bind λds=>iJ (d::ds)
end
theorem UT {α:Type}:∀ l:List α,((l.map λ_=>AK.vl).all λa=>decide (a=.vl))=iO
 | []=>rfl
 | _::l=>by rw [aL,fy,UT l]; rfl
theorem Gp {n:Nat} {e:Expr} {d:D} (h:qfH n e=iJ d):VZ e=true:=by
 cases n with
 | zero=>cases h
 | succ n=>cases e <;> first | rfl | (simp [qfH] at h)
section
variable {X:Cx} {C:Ct} {own:List Nat}
mutual
theorem qfI:∀ (n:Nat) {e:Expr} {d:D},qfH n e=iJ d->PE X e (tE C own .sh (dC d))
 | 0,_,_,h=>by cases h
 | n+1,e,d,h=>by
  unfold qfH at h;split at h
  ·split at h;·cases h; exact Uo
   ·cases h; exact ut
   ·cases h; exact qy
   ·split at h;·rename_i hz;cases h;exact vk hz
    ·cases h
   ·cases h
  ·cases h;exact jF (qe3 qb3 qy) λσ H Q h=>h
  ·obtain ⟨ds,h1,h2⟩:=cy.mp h;split at h2
   ·rename_i hz;cases h2;have i:Qq (λρ=>.ok (ds,ρ))=dC (.lst ds):=by funext ρ;unfold Qq dC;rw [Out.oh,if_pos hz]
    rw [<-i];exact yQ (wo (Jy n h1) (UT _)) (by decide)
   ·cases h2
  ·obtain ⟨ds,h1,h2⟩:=cy.mp h;split at h2
   ·rename_i hz;cases h2;have i:xE (λρ=>.ok (ds,ρ))=dC (.tup ds):=by funext ρ;unfold xE dC;rw [Out.oh,if_pos hz]
    rw [<-i];exact vn (Jy n h1) (UT _)
   ·cases h2
  ·cases h
theorem Jy:∀ (n:Nat) {es:List Expr} {ds:List D},qeq n es=iJ ds->PA X es (tAr C own (es.map λ_=>.vl) λρ=>.ok (ds,ρ))
 | 0,[],ds,h=>by cases h;exact qg
 | _+1,[],ds,h=>by cases h;exact qg
 | 0,_::_,ds,h=>by cases h
 | n+1,e::es,ds,h=>by unfold qeq at h;obtain ⟨d,h1,h⟩:=cy.mp h;obtain ⟨c,h2,h⟩:=cy.mp h;cases h;have i:qd (dC d) (λρ=>.ok (c,ρ))=λρ=>.ok (d::c,ρ):=rfl;rw [<-i];exact qb (qfI n h1) (Jy n h2) (by decide) (jp (Gp h1))
end
theorem qdG {es:List Expr} {ds:List D} {pos:Pos} (n:Nat) (h:qeq n es=iJ ds):PE X (.List es pos) (tE C own .fr (Qq λρ=>.ok (ds,ρ))):=wo (Jy n h) (UT _)
end
noncomputable def txI (i:Int):Str:=toString i
def CTx (i:Int):Prop:=i.natAbs.log2 < 1920/\(txI i).length<=sizeLine
instance:∀ i,Decidable (CTx i):=λi=>inferInstanceAs (Decidable (_/\_))
end L2.D2
namespace PySem
open Builtin Builtin.Str
end PySem
namespace L2.D2
open PySem PySem.Spec PyProof.Rows
def qiV (x y:Str):Prop:=(y.length == 0)=iN/\(Txt.split x y).length<=sizeLine/\∀ z∈Txt.split x y,z.length<=sizeLine
instance:∀ x y,Decidable (qiV x y):=λx y=>inferInstanceAs (Decidable (_/\_))
inductive IntsAre:List iM->List Int->Prop
 | nil:IntsAre [] []
 | cons (y:Int) (t:Tok) {vs:List iM} {ys:List Int} (h:IntsAre vs ys):IntsAre (fj y t::vs) (y::ys)
theorem IntsAre.length:∀ {vs:List iM} {ys:List Int},IntsAre vs ys->vs.length=ys.length
 | _,_,.nil=>rfl
 | _,_,.cons _ _ h=>congrArg (·+1) h.length
theorem IntsAre.item:∀ {vs:List iM} {ys:List Int},IntsAre vs ys->∀ (i:Nat) (v:iM),vs[i]?=iJ v->∃ y t,v=fj y t/\ys[i]?=iJ y
 | _,_,.nil,i,v,e=>by simp at e
 | _,_,.cons y t h,0,v,e=>by simp at e; subst e; exact ⟨y,t,rfl,rfl⟩
 | _,_,.cons y t h,i+1,v,e=>by obtain ⟨z,t',e1,a⟩:=h.item i v (by simpa using e);exact ⟨z,t',e1,by simpa using a⟩
noncomputable def gE:List D->Option (List Int)
 | []=>iJ []
 | .int x::l=>(gE l).map (x::·)
 | _::_=>iL
variable {K:Frag} {F:Hp}
theorem Gq:∀ {vs:List V} {us:List iM} {ds:List D} {ss:List Int},IsL K F vs ds->Vals vs us->gE ds=iJ ss->IntsAre us ss
 | [],[],[],ss,_,_,e=>by cases e; exact .nil
 | v::vs,u::us,d::ds,ss,.cons i il,.cons r rl,e=>by
  cases d with
  | int x=>
   cases q:gE ds with
   | none=>have e:(gE ds).map (x::·)=iJ ss:=e;rw [q] at e;cases e
   | some sl=>have e:(gE ds).map (x::·)=iJ ss:=e;rw [q] at e;cases e;cases i;obtain ⟨t,rfl⟩:=r;exact .cons x t (Gq il rl q)
  | _=>cases e
noncomputable def gF (f:Str) (d:D):List (Str×D)->List (Str×D)
 | []=>[(f,d)]
 | (g,x)::r=>if g=f then (g,d)::r else (g,x)::gF f d r
variable {f:Str} {v:V} {d:D} {H:Hp} {c:Addr}
section
theorem IsF.put (h:Is K F v d):∀ {fv:List (Str×V)} {fs:List (Str×D)},IsF K F fv fs->IsF K F (Jh f v fv) (gF f d fs)
 | _,_,.nil=>.cons h .nil
 | _,_,.cons (k:=k) q t=>by
  unfold Jh gF;by_cases z:k=f;·rw [if_pos z,if_pos z]; exact .cons h t
  ·rw [if_neg z,if_neg z]; exact .cons q (IsF.put h t)
theorem IsF.get:∀ {fv:List (Str×V)} {fs:List (Str×D)},IsF K F fv fs->fs.lookup f=iJ d->∃ v,fv.lookup f=iJ v/\Is K F v d
 | _,_,.nil,e=>by cases e
 | _,_,.cons (k:=k) q t,e=>by
  rw [bI] at e ⊢;cases z:f == k with
  | true=>rw [z] at e; cases e; exact ⟨_,rfl,q⟩
  | false=>rw [z] at e; exact IsF.get t e
theorem IsF.non:∀ {fv:List (Str×V)} {fs:List (Str×D)},IsF K F fv fs->fs.lookup f=iL->fv.lookup f=iL
 | _,_,.nil,e=>rfl
 | _,_,.cons (k:=k) q t,e=>by
  rw [bI] at e ⊢;cases z:f == k with
  | true=>rw [z] at e; cases e
  | false=>rw [z] at e; exact IsF.non t e
theorem IsF.length:∀ {fv:List (Str×V)} {fs:List (Str×D)},IsF K F fv fs->fv.length=fs.length
 | _,_,.nil=>rfl
 | _,_,.cons _ t=>congrArg (·+1) t.length
theorem TopIs.ins {fs:List (Str×D)} (s:Same F H) (h:TopIs K F H v (.ins c fs)):∃ a dx fv,v=.ref a/\H a=iJ (.ins c dx fv)/\IsF K F fv fs:=by
 rcases h with h | ⟨a,rfl,dx,fv,e,t⟩
 ·cases h with
  | ins e t=>exact ⟨_,_,_,rfl,s _ _ e,t⟩
 ·exact ⟨a,dx,fv,rfl,e,t⟩
end
noncomputable def Qz (c:Addr) (f:Str):D->Out D
 | .ins k fs=>if k=c then (match fs.lookup f with | some d=>.ok d | none=>.bad) else .bad
 | _=>.bad
noncomputable def gG (c:Addr) (i:Nat) (f:Str) (fe:Sl->Out (D×Sl)):Sl->Out (Fl×Sl):=λρ=>(fe ρ).bind λp=>match p.2[i]? with
 | some (iJ (.ins k fs))=>if k=c/\fs.length < 1000 then .ok (.nx,p.2.set i (iJ (.ins k (gF f p.1 fs)))) else .bad
 | _=>.bad
variable {X:Cx} {C:Ct} {own:List Nat} {pos:Pos} {i:Nat} {x:Str} {ms:List PM} {ps:List Str} {cv:Str->iM}
section
variable {m mo:Mo} {e o:Expr} {es:List Expr} {fa fe fo:Sl->Out (D×Sl)} {p1 p2:Pos}
theorem yq (p:C.K=X.K) (g:Cls X.K c) (n:NoAttr X.K c f) (i:PE X e (tE C own m fa)) (j:attributeBase e f X.env (eval e X.env)=eval e X.env:=by rfl):PE X (.Attribute e f pos) (tE C own .sh (d1 (Qz c f) fa)):=by
 refine jF (qeR i j) λσ H Q h=>Jv (Jk (ma:=m) h) λx H1 ⟨F,dx,y,b,po⟩=>?_;cases dx with
 | ins k fs=>
  replace po:PoV C .sh F H1 (if k=c then (match fs.lookup f with | some d=>.ok d | none=>.bad) else .bad) Q:=po;by_cases z:k=c
  ·subst z;rw [if_pos rfl] at po;cases q:fs.lookup f with
   | none=>rw [q] at po; exact po.elim
   | some d=>rw [q] at po;obtain ⟨a,dx,fv,rfl,o,t⟩:=b.ins y;obtain ⟨v,l,is⟩:=t.get q;exact ⟨a,k,dx,fv,v,rfl,o,g,n,l,po v F H1 y .refl is⟩
  ·rw [if_neg z] at po; exact po.elim
 | _=>exact po.elim
theorem yI (I:C.K=X.K) (E:Cls X.K c) (y:NoAttr X.K c f) (hi:X.N[i]?=iJ x) (s:Vis X.env.scope x) (o:i∈own) (B:PE X e (tE C own m fe)) (A:m≠.any:=by decide) (hd:(x == ("__debug__":Str))=false:=by decide) (l:(x == ("__classdict__":Str))=false:=by decide)
  (hs:swapsWith e (iJ (.Attribute (.Name x p1) f p2)) pos.line X.env=pure false:=by rfl):PS X (.Assign [.Attribute (.Name x p1) f p2] e pos) (tSt C own own (gG c i f fe)):=by
 refine Qu (qeS (um hi s hd l) (yQ B A) hs) λD σ H ⟨F,ρ,p,h⟩=>⟨F,ρ,p,PoS.bindE h λv F1 H1 d ρ1 r L j h1=>?_⟩
 obtain ⟨w,b⟩:=r.opn i o;obtain ⟨a,e1,J,q⟩:=r.ow i w o b;simp only [b] at h1;cases w with
 | ins k fs=>
  by_cases z:k=c/\fs.length < 1000;·simp only [if_pos z] at h1;obtain ⟨rfl,hl⟩:=z;obtain ⟨dx,fv,G,t⟩:=q;obtain ⟨g,n⟩:=r.write (u:=.ins k dx (Jh f v fv)) (d:=.ins k (gF f d fs)) o e1 ⟨dx,_,qo,t.put j⟩;exact ⟨_,e1,a,k,dx,fv,rfl,G,E,y,by rw [t.length]; exact hl,h1 σ F1 _ ⟨g,n,λ_ z=>.inl z,λ_ _=>rfl⟩⟩
  ·simp only [if_neg z] at h1; exact h1.elim
 | _=>exact h1.elim
noncomputable def Gr (c:Addr) (G:List D->Out (D×List D)) (fr:Sl->Out (List D×Sl)):Sl->Out (D×Sl):=λρ=>(fr ρ).bind λp=>match G (.ins c []::p.1) with
 | .ok (.non,q::_)=>.ok (q,p.2)
 | .exc x _=>.exc x p.2
 | _=>.bad
def zi (P:iR) (w:iS) (K:Frag) (mg:Str->Option iM) (base:Heap) (cv:Str->iM) (k:Nat) (c:Addr) (x:Str) (ps:List Str) (ms:List PM) (mr:Mo) (G:List D->Out (D×List D)):Prop:=
 ∃ f fd,FnOk P w K mg base (CXk P w) k f fd ps (spD K cv ms mr G)/\Meth K c x f/\Binds K fd ps []
def Gs (P:iR) (w:iS) (K:Frag) (mg:Str->Option iM) (base:Heap) (cv:Str->iM) (k:Nat) (c:Addr) (ps:List Str) (ms:List PM) (G:List D->Out (D×List D)):Prop:=
 ∃ f fd,FnOk P w K mg base (CXk P w) k f fd ps (spD K cv ms .sh G)/\Mk K c f/\Binds K fd ps []
noncomputable def qhL:List AK->Bool
 | []=>iO
 | .vl::l=>qhL l
 | _::_=>iN
theorem qfJ {K:Frag} {H0 F F' H H':Hp} {σ:St} (g:Same F F'):∀ {as:List AK} {vs:List V} {ds:List D},qhL as=iO->ArgV K H0 F H σ as vs ds->ArgsIs K F' H' (as.map xz) vs ds/\yS (as.map xz) vs=[]
 | [],[],[],_,_=>⟨trivial,rfl⟩
 | .vl::as,v::vs,d::ds,h,a=>by have j:=qfJ (H':=H') g (as:=as) h a.2;exact ⟨⟨a.1.mono g,j.1⟩,j.2⟩
 | [],_::_,_,_,a=>a.elim
 | [],[],_::_,_,a=>a.elim
 | .vl::_,[],_,_,a=>a.elim
 | .vl::_,_::_,[],_,a=>a.elim
 | .sl _::_,_,_,h,_=>by cases h
 | .fr::_,_,_,h,_=>by cases h
theorem qhM {x:Addr} {vs:List V} {q:D} {os:List D} (h:yo K F H (.io::ms) (.ref x::vs) (q::os)):F x=iL/\OwnIs K F H x q:=by obtain ⟨⟨a,e,h1,h2⟩,_⟩:=h;cases e;exact ⟨h1,h2⟩
theorem Gt {as:List AK} {fr:Sl->Out (List D×Sl)} {k j:Nat} {p:Pos} {G:List D->Out (D×List D)} (MF:Gs X.prog X.w X.K X.mg X.base cv j c ps ms G) (hr:Room k X.A) (hj:j+1<=k) (hx:kB (CXk X.prog X.w) X C.E) (hg:Gl X x) (hm:X.mg x=iJ (.ref c)) (ha:PA X (e::es) (tAr C own as fr)) (O:C.cv=cv:=by rfl) (U:C.K=X.K:=by rfl) (J:ms=.io::as.map xz:=by rfl) (hv:qhL as=true:=by rfl) (L:∀ i∈C.ox,i∈own:=by exact kU rfl)
  (N:(x == ("__debug__":Str))=false:=by decide) (he:starEach (e::es) X.env=(iN,eval e X.env)::starEach es X.env:=by exact jp rfl) (I:(backTo pos (starEach es X.env)).any (·.1)=false:=by exact wF rfl):PE X (.Call (.Name x p) (e::es) [] pos) (tE C own .fr (Gr c G fr)):=by
 subst O;obtain ⟨f,fd,F0,M,P⟩:=MF;refine jF (qcO M F0 (hr.mono hj) hg hm P .nil hx ha N he I) λσ H Q ⟨F,ρ,W,h⟩=>⟨F,ρ,W,?_⟩
 unfold Gr at h;cases u:fr ρ with
 | exc c=>rw [u] at h; exact h
 | bad=>rw [u] at h; exact h.elim
 | ok Y=>
  rw [u] at h;obtain ⟨ds,ρ1⟩:=Y;intro vs F1 H1 r S av x dx a l ne;rw [bw];have R:H x=none:=by
   cases q:H x with
   | none=>rfl
   | some o=>exact absurd a (S.stay x (by rw [q]; simp))
  have nF:∀ {z:Addr},H1 z=iL->F1 z=none:=λ{z} hz=>r.sub.free hz;have ex:(upd (upd H1 dx (.own x)) x (.ins c dx [])) x=iJ (.ins c dx []):=qo;have c2:Chg No F1 H1 F1 (upd (upd H1 dx (.own x)) x (.ins c dx [])):=⟨λb o eb _=>by
    rw [qw (λz=>by rw [z,a] at eb; cases eb),qw (λz=>by rw [z,l] at eb; cases eb)]; exact eb,λb nb=>by
    by_cases z:b=x;·rw [z,ex]; simp
    ·rw [qw z];by_cases z2:b=dx;·rw [z2,qo]; simp
     ·rw [qw z2]; exact nb,Same.refl _,λb P=>.inl P⟩
  have s2:Same F1 (upd (upd H1 dx (.own x)) x (.ins c dx [])):=λb o eb=>by rw [qw (λz=>by rw [z,nF a] at eb; cases eb),qw (λz=>by rw [z,nF l] at eb; cases eb)]; exact r.sub b o eb
  obtain ⟨ar,le⟩:=qfJ (H':=upd (upd H1 dx (.own x)) x (.ins c dx [])) (Same.refl F1) hv av;have T:yS (PM.io::as.map xz) (V.ref x::vs)=[x]:=by show x::yS (as.map xz) vs=[x]; rw [le]
  subst J;refine ⟨F1,.ins c []::ds,s2,⟨⟨x,rfl,nF a,dx,[],ex,.nil⟩,by rw [<-U]; exact ar⟩,by rw [T]; simp,?_⟩;have n:∀ {F' H':Hp},Chg (LA (PM.io::as.map xz) (V.ref x::vs)) F1 (upd (upd H1 dx (.own x)) x (.ins c dx [])) F' H'->Chg No F1 H1 F' H':=λ{F' H'} g=>by
   have g:Chg (λz=>z=x) F1 (upd (upd H1 dx (.own x)) x (.ins c dx [])) F' H':=g.mono λz hz=>by have hz:z∈yS (PM.io::as.map xz) (V.ref x::vs):=hz;rw [T] at hz; simpa using hz
   exact c2.trans g λz hz=>.inr (by rw [hz]; exact a)
  have h:Po C own .fr σ F H (match G (.ins c []::ds) with | .ok (.non,q::_)=>.ok (q,ρ1) | .exc x _=>.exc x ρ1 | _=>.bad) Q:=h;cases t:G (.ins c []::ds) with
  | bad=>rw [t] at h; exact h.elim
  | exc y o=>rw [t] at h;exact λF' H' m g _=>h F' H' m ((r.grow (n g) m).ioIs L) (S.trans' (n g).ofNo)
  | ok Z=>
   rw [t] at h;obtain ⟨d,s⟩:=Z;cases d with
   | non=>
    cases s with
    | nil=>exact h.elim
    | cons q os=>
     intro v F' H' m g oi mo;have B:v=.non:=by have mo:Is _ F' v .non:=mo;cases mo; rfl
     obtain ⟨fx,ow⟩:=qhM oi;refine ⟨B,h (.ref x) F' H' (r.grow (n g) m) (S.trans' (n g).ofNo) ⟨x,rfl,R,fx,?_⟩⟩;rw [U]; exact ow
   | _=>exact h.elim
end
variable {σ:St} {ρ:Sl} {b:Addr}
section
variable {own1:List Nat}
theorem Rep.frz {o:HO} (r:Rep K own F H σ ρ) (h:H b=iJ o) (E:F b=iL) (n:¬OA own σ b):Rep K own (upd F b o) H σ ρ:=by
 have gr:Same F (upd F b o):=λc w e=>by rw [qw (qE e E)]; exact e
 refine ⟨λc w e=>?_,r.len,λj d D e=>?_,λj d D e=>?_,r.opn,r.dis⟩
 ·by_cases q:c=b;·subst q; rw [qo] at e; cases e; exact h
  ·rw [qw q] at e; exact r.sub c w e
 ·obtain ⟨v,h1,h2⟩:=r.val j d D e;exact ⟨v,h1,h2.mono gr⟩
 ·obtain ⟨a,h1,h2,h3⟩:=r.ow j d D e;exact ⟨a,h1,by rw [qw (λz=>n ⟨j,D,by rw [<-z]; exact h1⟩)]; exact h2,h3.grow gr λ_ q=>q⟩
end
noncomputable def ctB (C:Ct):Ct:={ C with ox:=[],oxs:=λ_ h=>by cases h }
def gH (K:Frag) (c:Addr) (x qual:Str) (st:Stmt) (ps:List Str):Prop:=∃ f fd,Fun K x qual st f fd/\Meth K c x f/\Binds K fd ps []
def qdH (K:Frag) (c:Addr) (qual:Str) (st:Stmt) (ps:List Str):Prop:=∃ f fd,Fun K "__init__" qual st f fd/\Mk K c f/\Binds K fd ps []
variable {base:Heap}
section
variable {P:iR} {w:iS} {mg:Str->Option iM} {qual:Str} {st:Stmt} {N:List Str} {k:Nat} {mr:Mo} {own':List Nat} {fb:Sl->Out (Fl×Sl)}
theorem gI (T:gH K c x qual st ps) (S:FnScope N ps (qc st))
  (a:∀ (cdv:iM) (f:Addr) (A:iV) (outer:List Env) (s:iP) (H:Hp) (E:XK),Room k (A.deeper (envOfC qual (qc st) s.heap.objs.size f cdv)) ->PSs (cxk P w K mg base N qual (qc st) f cdv A outer s H E) (jU st) (tSt (qbZ K cv E ms mr) (jV 0 ms) own' fb))
  (hl:ms.length=ps.length:=by rfl) (g:∀ i∈KN 0 ms,i∈own':=by exact kU rfl) (r:mr=.sh\/∀ ds ρ,(fb (qu N ds))≠.ok (.nx,ρ):=by exact .inl rfl):zi P w K mg base cv (k+1) c x ps ms mr (ky N ms fb):=by
 obtain ⟨f,fd,F,m,d⟩:=T;exact ⟨f,fd,qgt F S hl g r (λcdv A outer s H E h=>a cdv f A outer s H E h) λ_=>.inr rfl,m,d⟩
theorem qdI (T:qdH K c qual st ps) (S:FnScope N ps (qc st))
  (a:∀ (cdv:iM) (f:Addr) (A:iV) (outer:List Env) (s:iP) (H:Hp) (E:XK),Room k (A.deeper (envOfC qual (qc st) s.heap.objs.size f cdv)) ->PSs (cxk P w K mg base N qual (qc st) f cdv A outer s H E) (jU st) (tSt (qbZ K cv E ms .sh) (jV 0 ms) own' fb))
  (hl:ms.length=ps.length:=by rfl) (g:∀ i∈KN 0 ms,i∈own':=by exact kU rfl):Gs P w K mg base cv (k+1) c ps ms (ky N ms fb):=by
 obtain ⟨f,fd,F,m,d⟩:=T;exact ⟨f,fd,qgt F S hl g (.inl rfl) (λcdv A outer s H E h=>a cdv f A outer s H E h) λ_=>.inr rfl,m,d⟩
end
noncomputable def qgK (i j:Nat) (fr:Sl->Out (List D×Sl)):Sl->Out (Fl×Sl):=λρ=>(fr ρ).bind λp=>match p.1 with
 | [d,e]=>if i < p.2.length/\j < p.2.length then .ok (.nx,(p.2.set i (iJ d)).set j (iJ e)) else .bad
 | _=>.bad
section
theorem vr (i:Nat) (h:X.N[i]?=iJ x:=by rfl) (c:Vis X.env.scope x:=by first | exact ay rfl | exact eG (ay rfl) | exact eG (eG rfl)) (m:i∉own:=by decide) (hd:(x == ("__debug__":Str))=false:=by decide) (d:(x == ("__classdict__":Str))=false:=by decide):PE X (.Name x pos) (tE C own .sh (qe i)):=qe4 h c m hd d
end
section
theorem Rep.swap {F' H':Hp} {g:Nat} {o:D} (r:Rep K own F H σ ρ) (hg:g∈own) (eb:σ[g]?=iJ (iJ (V.ref b))) (c:Chg (λz=>z=b) F H F' H') (y:Same F' H') (fb:F' b=iL) (ow:OwnIs K F' H' b o):Rep K own F' H' σ (ρ.set g (iJ o))/\Chg (OA own σ) F H F' H':=by
 obtain ⟨w,f⟩:=r.opn g hg;have hl:g < ρ.length:=(aH.mp f).1;refine ⟨⟨y,by simp [r.len],λj d h e=>?_,λj d h e=>?_,λj h=>?_,r.dis⟩,c.mono λz hz=>⟨g,hg,by rw [hz]; exact eb⟩⟩;·rw [ai (λz=>h (by rw [<-z]; exact hg))] at e;obtain ⟨v,h1,h2⟩:=r.val j d h e;exact ⟨v,h1,h2.mono c.grow⟩
 ·by_cases q:j=g;·subst q;rw [aD hl] at e;cases e;exact ⟨b,eb,fb,ow⟩
  ·rw [ai (aZ q)] at e;obtain ⟨a,h1,h2,h3⟩:=r.ow j d h e;have na:a≠b:=λz=>by subst z; exact q (r.dis j g a h hg h1 eb)
   refine ⟨a,h1,?_,h3.grow c.grow λo q=>c.keep a o q na⟩;cases i:F' a with
   | none=>rfl
   | some u=>
    rcases c.new a (by rw [i]; simp) with z | z | z;·exact absurd h2 z
    ·exact absurd z h3.there
    ·exact absurd z na
 ·by_cases q:j=g;·subst q; exact ⟨o,aD hl⟩
  ·rw [ai (aZ q)]; exact r.opn j h
end
theorem gJ (ks:List Int):∀ n,n<=ks.length->preSum (λi=>ks.getD i 0) n=(ks.take n).sum
 | 0,_=>rfl
 | n+1,h=>by
  have j:=gJ ks n (by omega);show preSum (λi=>ks.getD i 0) n+ks.getD n 0=_;rw [j,List.take_add_one,h8];have:ks[n]?=iJ (ks.getD n 0):=by rw [ci,aE (by omega)]; rfl
  rw [this];simp
theorem qb9:∀ (ks:List Int),(ks.all λk=>decide (0<=k/\k<=100000))=iO->0<=ks.sum/\ks.sum<=100000 * ks.length
 | [],_=>by simp
 | k::ks,h=>by rw [fy,aP] at h;have h1:=of_decide_eq_true h.1;have j:=qb9 ks h.2;rw [List.sum_cons,aq];omega
def FlyA (h:Heap) (ex T:Addr) (cls:iM):Prop:=∃ o vs a ts l,h.get? ex=iJ o/\o.cls=cls/\o.data=.fields vs/\vs[1]?=iJ (.ref T)/\T≠ex/\h.get? T=iJ a/\a.data=.fields ts/\ts[3]?=iJ l
theorem FlyA.tr {h:Heap} {ex T:Addr} {cls:iM} (f:FlyA h ex T cls) (d:base.get? T=iL):∃ B l,h.TracedAtW base ex cls B l:=by obtain ⟨o,vs,a,ts,l,p,c,z,q,m,b,k,j⟩:=f;have hz:0 < vs.size:=fM (Array.getElem?_eq_some_iff.mp q).1;exact ⟨vs[0],l,o,vs,T,a,ts,p,⟨c,by simp [hz]⟩,z,q,d,m,b,k,j⟩
noncomputable def Vl (n:Nat) (fw fx:Sl->Out (D×Sl)):Sl->Out (Fl×Sl):=λρ=>(fw ρ).bind λp=>(fx p.2).bind λq=>match (q.2[n]?:Option (Option D)) with
 | some (iJ (.dct kvs))=>(match VP q.1 with
  | some k=>if kvs.length < sizeLine then .ok (.nx,q.2.set n (iJ (.dct (wB kvs k p.1)))) else .bad
  | none=>.bad)
 | _=>.bad
section
variable {w ix:Expr} {fw fx:Sl->Out (D×Sl)} {mw mx:Mo} {p1 p2 p3:Pos}
theorem Jz {n:Nat} (L:X.A.units+64 < cLine) (t:X.N[n]?=iJ x) (s:Vis X.env.scope x) (m:n∈own) (hw:PE X w (tE C own mw fw)) (hx:PE X ix (tE C own mx fx)) (f:mw≠.any:=by decide)
  (hd:(x == ("__debug__":Str))=false:=by decide) (j:(x == ("__classdict__":Str))=false:=by decide) (hs:swapsWith w (iJ (.Subscript (.Name x p1) ix p2)) p3.line X.env=pure false:=by rfl) :
  PS X (.Assign [.Subscript (.Name x p1) ix p2] w p3) (tSt C own own (Vl n fw fx)):=by
 refine Qu (qc0 (by omega) (um t s hd j) hx (yQ hw f) hs) λQ σ H ⟨F,ρ,p,h⟩=>⟨F,ρ,p,PoS.bindE h λv F1 H1 d ρ1 b O c h1=>?_⟩
 have c:Is C.K F1 v d:=c;obtain ⟨D,i⟩:=b.opn n m;obtain ⟨a,e1,M,I⟩:=b.ow n D m i;refine ⟨_,e1,F1,ρ1,b,PoS.bindE h1 λJ E H2 B ρ2 r c2 e h2=>?_⟩;obtain ⟨d2,hd2⟩:=r.opn n m;obtain ⟨P,o,y,o2⟩:=r.ow n d2 m hd2;rw [e1] at o;cases o;simp only [hd2] at h2;cases d2 with
 | dct kvs=>
  cases q:VP B with
  | none=>simp only [q] at h2; exact h2.elim
  | some k=>
   simp only [q] at h2;have g:=qhr e.top q;subst g;obtain ⟨kv,ex,l⟩:=o2;by_cases hz:kvs.length < sizeLine;·simp only [if_pos hz] at h2;obtain ⟨r3,G⟩:=r.write (u:=.dK (Qp kv k v)) (d:=.dct (wB kvs k d)) m e1 ⟨_,qo,l.put (c.mono c2.grow)⟩;exact ⟨a,_,rfl,DPut.k ex (by rw [l.length]; exact hz),h2 σ E _ ⟨r3,G,λ_ z=>.inl z,λ_ _=>rfl⟩⟩
   ·simp only [if_neg hz] at h2; exact h2.elim
 | _=>exact h2.elim
end
end L2.D2
namespace L2.D2
open PySem PySem.Spec PyProof.Rows PySem.W
variable {α:Type}
noncomputable def Wu:List (Key×α)->Option (List Str)
 | []=>iJ []
 | (.inr x,_)::l=>(Wu l).map (x::·)
 | (.inl _,_)::_=>iL
theorem UU:∀ {l:List (Key×α)} {ss:List Str},Wu l=iJ ss->l.map (·.1)=ss.map cu
 | [],ss,h=>by cases h; rfl
 | (.inr x,_)::l,ss,h=>by obtain ⟨f,e,rfl⟩:=aV.mp (show (Wu l).map (x::·)=iJ ss from h);rw [aL,aL,UU e]
 | (.inl _,_)::_,ss,h=>by cases h
theorem IsK.keys {K:Frag} {F:Hp}:∀ {kv:List (Key×V)} {ks:List (Key×D)},IsK K F kv ks->kv.map (·.1)=ks.map (·.1)
 | _,_,.nil=>rfl
 | _,_,.cons h t=>by rw [aL,aL,IsK.keys t]
theorem KV.keys:∀ {kv:List (Key×V)} {vs:List (Key×iM)},KV kv vs->kv.map (·.1)=vs.map (·.1)
 | _,_,.nil=>rfl
 | _,_,.cons h t=>by rw [aL,aL,h.1,KV.keys t]
end L2.D2
namespace PySem.F
end PySem.F
namespace L2.D2
open PySem PySem.Spec PyProof.Rows PySem.W
end L2.D2
namespace L2.D2
open PySem PySem.Spec PyProof.Rows
noncomputable def JA:D->Out D
 | .lst ds=>(match gE ds with
  | some ks=>if ks.length<=1000/\(ks.all λk=>decide (0<=k/\k<=100000))=iO then .ok (.int ks.sum) else .bad
  | none=>.bad)
 | _=>.bad
section
variable {X:Cx} {C:Ct} {own:List Nat} {mb mx:Mo} {b ix:Expr} {fb:Sl->Out (D×Sl)} {pos apos cpos px:Pos}
theorem Wv (S:C.K=X.K) (R:X.calm=iO):Qv X C .sh (.builtin "sum") JA:=by
 intro pins s σ H xs us Q I r h;obtain ⟨x,F,dx,rfl,J,M,po⟩:=h;cases dx with
 | lst ds=>
  obtain ⟨u,rfl,O⟩:=yO r;obtain ⟨a,vs,rfl,hq,P⟩:=M.lst J;cases O;rw [S] at hq;obtain ⟨its,N,p,hz⟩:=I.list hq;have pl:s.heap.IsList a its.toArray:=by obtain ⟨o,n,m,B,_,w⟩:=p;exact ⟨o,m,B,n,w⟩
  cases e:gE ds with
  | none=>have po:PoV C .sh F H (match gE ds with | some ks=>if ks.length<=1000/\(ks.all λk=>decide (0<=k/\k<=100000))=iO then .ok (.int ks.sum) else .bad | none=>.bad) Q:=po;rw [e] at po; exact po.elim
  | some ks=>
   have po:PoV C .sh F H (match gE ds with | some ks=>if ks.length<=1000/\(ks.all λk=>decide (0<=k/\k<=100000))=iO then .ok (.int ks.sum) else .bad | none=>.bad) Q:=po;rw [e] at po;by_cases g:ks.length<=1000/\(ks.all λk=>decide (0<=k/\k<=100000))=iO
   ·have po:PoV C .sh F H (if ks.length<=1000/\(ks.all λk=>decide (0<=k/\k<=100000))=iO then .ok (.int ks.sum) else .bad) Q:=po;rw [if_pos g] at po;have st:=Gq P N e;have d:a < s.heap.objs.size:=let ⟨o,m,_⟩:=pl; ap m;have L:its.length=ks.length:=st.length;refine call_sum_walk (lC (show s.heap.IsList a its.toArray from pl) ?_);refine ⟨s.heap.objs.size,_,_,_,_,_,λi=>ks.getD i 0,rfl,iH (A:=X.A.in1) (I.ok.hd R) _ a (aG d) its.toArray,⟨⟨_,ah _ rfl,rfl,rfl⟩,?_⟩,?_,λi v ev=>?_,λj D=>?_,λh' tk t' kp=>?_⟩;·obtain ⟨o,e,c⟩:=pl;exact ⟨o,aa _ e,c⟩
    ·intro z b;rw [br];simp only [ac,bV,or_false] at b;rcases b with rfl | rfl;·exact fk _
     ·exact dH d
    ·obtain ⟨y,t,e1,T⟩:=st.item i v (by simpa using ev);exact ⟨t,by rw [e1]; show fj y t=fj (ks.getD i 0) t; rw [ci,T]; rfl⟩
    ·rw [au,L] at D;have l:=g.2;rw [aO] at l;have h1:=of_decide_eq_true (l (ks.getD j 0) (by rw [ci,aE D]; exact cr D));have h2:=qb9 (ks.take (j+1)) (aO.mpr λk f=>l k (List.mem_of_mem_take f));have h3:(ks.take (j+1)).length<=1000:=by rw [bT]; omega
     have G:=gJ ks (j+1) D;refine ⟨⟨by show (-2 ^ 63:Int)<=ks.getD j 0; omega,by show ks.getD j 0 < (2 ^ 63:Int); omega⟩,?_⟩;rw [G];exact ⟨by omega,by omega⟩
    ·have U:Inv X pins σ H { s with heap:=h',toks:=tk }:=I.kept (t':=tk) λz o E=>kp z o (λq=>by rw [aA.mp q] at E;exact bQ _ (ap E)) (aa _ E);have G:preSum (λi=>ks.getD i 0) its.toArray.size=ks.sum:=by rw [au,L,gJ ks _ (ax _),f9]
     exact ⟨.int ks.sum,H,U,⟨t',by rw [G]⟩,po _ F H J .refl (.int _)⟩
   ·have po:PoV C .sh F H (if ks.length<=1000/\(ks.all λk=>decide (0<=k/\k<=100000))=iO then .ok (.int ks.sum) else .bad) Q:=po;rw [if_neg g] at po; exact po.elim
 | _=>exact po.elim
end
open PySem.SeqAt
open AutoSeq1 (wpAny_loadPart')
open MeetsSeq MeetsSeq2 MeetsSeq3
def RcLtAt (A:iV) (s:iP) (y x:iM) (b:Bool):Prop:=
 ∀ (prog:iR) (w:iS) (E:iM->iP->Prop) (Q:iM->iP->Prop),Q (.bool b) s->wpAny (model prog w) A (richCompare .Lt y x) Q E s
def LtL (A:iV) (s:iP) (k b:Bool):List (iM×iM)->Prop
 | []=>b=k
 | (y,x)::t=>(EqAt A.in1 s y x iO/\LtL A s k b t)\/(EqAt A.in1 s y x iN/\RcLtAt A.in1 s y x b)
theorem Xk (l b:Addr) (items i:Array iM) (n n2:Nat) (dd f:Option Addr) (sl e:Array (Option iM)) (c:Bool):Meets (Builtin.«tuple.__lt__» ⟨[.ref l,.ref b],[]⟩)
   (λA R s=>s.heap.get? l=iJ { cls:=.type "tuple",dict:=dd,data:=.seq items n,slots:=sl }/\s.heap.get? b=iJ { cls:=.type "tuple",dict:=f,data:=.seq i n2,slots:=e } /\
    LtL A s (decide (items.size < i.size)) c (items.toList.zip i.toList)/\R (.ok (.ret (.bool c))) s):=
 .of_wp λprog w A R s h=>by
  obtain ⟨hp,g,d,tk,os⟩:=s; obtain ⟨hl,k,j,h⟩:=h;have f2:=AutoSeq1.sub_tuple_tuple;wp_walk using wpAny_loadPart' hl,wpAny_loadPart' k,wpAny_forIn_list _ (λrest b s'=>b.1=iL/\s'=⟨hp,g,d,tk,os⟩/\LtL A ⟨hp,g,d,tk,os⟩ (decide (items.size < i.size)) c rest) _
  case turn=>
   rintro ⟨y,x⟩ rest b s' ⟨a,rfl,hz⟩;rcases hz with ⟨e1,hz⟩ | ⟨e1,hz⟩
   ·refine iK (e1 prog w _ _ ?_);wp_walk
    exact ⟨rfl,rfl,hz⟩
   ·refine iK (e1 prog w _ _ ?_);refine iK (lp (iK (hz prog w _ _ ?_)));wp_walk
    exact ⟨_,rfl,h⟩
  case fin=>
   rintro ⟨m,z⟩ s' ⟨a,rfl,hz⟩;simp only at a;subst a;have hz:c=_:=hz;subst hz;wp_walk
   exact ⟨_,rfl,by simpa [Builtin.Tuple.tupleCompareSizes] using h⟩
  case h=>
   exact ⟨rfl,rfl,j⟩
theorem RcLtAt.tuples {A:iV} {s:iP} {l b:Addr} {items i:Array iM} {c:Bool} (hl:s.heap.IsTuple l items) (p:s.heap.IsTuple b i) (u:A.units < cLine)
  (o:LtL A s (decide (items.size < i.size)) c (items.toList.zip i.toList)):RcLtAt A s (.ref l) (.ref b) c:=λprog w E Q h=>by
 obtain ⟨⟨cls,dd,data,sl⟩,m,j,n,hd⟩:=id hl;obtain ⟨⟨k,f,g,e⟩,a,d,n2,hd2⟩:=id p;simp only at j hd d hd2;subst j hd d hd2;exact richCompare_meets_room (op:=.Lt) ⟨_,m,rfl⟩ ⟨_,a,rfl⟩ F.slot_tuple_lt F.entry_tuple_lt (F.args_tuple_lt_2 _ _) (Xk l b items i n n2 dd f sl e c)
  ⟨m,a,o,show bb c≠Value.notImplemented/\Q (.bool c) s from ⟨(λx=>nomatch x),h⟩⟩ u
end L2.D2
namespace L2.D2
open PySem PySem.Spec PyProof.Rows
open PySem.SeqAt
end L2.D2
namespace L2.D2
open PySem PySem.Spec PyProof.Rows
open AutoSeq1 (wpAny_loadPart')
end L2.D2
namespace L2.D2
open PySem PySem.Spec PyProof.Rows
section
variable {X:Cx} {C:Ct} {own:List Nat} {m ma mb:Mo} {a b e:Expr} {fa fb fe:Sl->Out (D×Sl)} {apos cpos px:Pos}
noncomputable def qgL (y:Str):iM->Bool
 | .str x _=>x.cps.toList == y.cps.toList
 | _=>iN
theorem qca {y:Str}:∀ (ss:List Str) (its:List iM),Vals (ss.map V.str) its->y∈ss->∃ j,∃ D:j < its.length,qgL y its[j]=iO/\(∀ m (c:m < its.length),m < j->qgL y its[m]=iN)/\Vals ((ss.erase y).map V.str) (its.eraseIdx j)
 | x::ss,u::its,.cons r rs,hy=>by
  obtain ⟨t,rfl⟩:=(show ∃ t,u=dw x t from r)
  by_cases q:x=y;·subst q;refine ⟨0,by simp,by simp [qgL],λm c h=>absurd h (dZ _),?_⟩;rw [List.erase_cons_head];exact rs
  ·obtain ⟨j,D,h1,h2,h3⟩:=qca ss its rs ((ac.mp hy).resolve_left λz=>q z.symm);refine ⟨j+1,by simp; omega,h1,λm c h=>?_,?_⟩
   ·cases m with
    | zero=>show (x.cps.toList == y.cps.toList)=iN;refine beq_eq_false_iff_ne.mpr λz=>q ?_;obtain ⟨x⟩:=x;obtain ⟨y⟩:=y;have z:x.toList=y.toList:=z;rw [Array.toList_inj.mp z]
    | succ m=>exact h2 m (by simpa using c) (by omega)
   ·rw [List.erase_cons_tail (by simpa using q)];exact .cons ⟨t,rfl⟩ h3
def qhN:V->List V->Hp->VK->Prop:=λx vs H Q=>∃ (l:Addr) (ss:List Str) (y:Str),x=.ref l/\vs=[.str y]/\H l=iJ (.lst (ss.map V.str))/\y∈ss/\Q .non (upd H l (.lst ((ss.erase y).map V.str)))
theorem qfK:MtM X "list.remove" qhN:=by
 intro pins s σ H x vs v us Q I d g h;obtain ⟨l,ss,y,rfl,rfl,c,k,q⟩:=h;cases d;obtain ⟨u,rfl,A⟩:=g.one;obtain ⟨t,rfl⟩:=A;obtain ⟨z,its,n,r,hl,e⟩:=I.lstM c;obtain ⟨j,D,h1,h2,h3⟩:=qca ss its r k;refine lz PySem.F.slot_list_remove ⟨_,e,rfl⟩ PySem.F.entry_list_remove (PySem.F.args_list_remove_2 _ _)
  (MeetsSeq.list_remove l its.toArray n (.str y t) (qgL y) (λw hw=>?_) j (by simpa using D) (by simpa using h1) (λm o b=>by simpa using h2 m (by simpa using o) b) (by rw [au]; omega)) ⟨e,?_⟩
 ·obtain ⟨i,hi,rfl⟩:=dN.mp (show w∈its by simpa using hw);obtain ⟨x,ex,d⟩:=Vals.getE r hi;rw [aK] at ex;obtain ⟨f,_,rfl⟩:=aV.mp ex;obtain ⟨t',p⟩:=(show ∃ t,its[i]=dw f t from d)
  rw [p];exact SeqRoads2.EqGives.str _ _ _ _
 ·refine ⟨.non,_,I.lset (its':=its.eraseIdx j) c e ?_ h3 ?_,rfl,q⟩;·show its.toArray.eraseIdxIfInBounds j=(its.eraseIdx j).toArray;rw [List.eraseIdxIfInBounds_toArray]
  ·have:=List.length_erase_le (a:=y) (l:=ss);rw [am] at z ⊢;omega
noncomputable def qdJ (ds:List D) (d:D):Out (List D):=match yG ds,d with
 | some ss,.str y=>if y∈ss then .ok ((ss.erase y).map D.str) else .bad
 | _,_=>.bad
theorem qcb {K:Frag} {F:Hp}:∀ {vs:List V} {ds:List D} {ss:List Str},IsL K F vs ds->yG ds=iJ ss->vs=ss.map V.str/\∀ x∈ss,x.length<=sizeLine
 | [],[],ss,.nil,e=>by cases e; exact ⟨rfl,λx h=>by cases h⟩
 | v::vs,d::ds,ss,.cons i il,e=>by
  cases d with
  | str x=>
   have e:(yG ds).map (x::·)=iJ ss:=e;obtain ⟨s2,a,rfl⟩:=aV.mp e;obtain ⟨h1,h2⟩:=qcb il a;cases i;refine ⟨by rw [h1]; rfl,λy k=>?_⟩;rcases ac.mp k with rfl | k;·assumption
   ·exact h2 y k
  | _=>cases e
theorem Gu {i:Nat} {x:Str} {px apos cpos:Pos} (r:X.N[i]?=iJ x) (n:Vis X.env.scope x) (o:i∈own) (p:PE X e (tE C own m fe)) (j:m≠.any:=by decide)
  (hd:(x == ("__debug__":Str))=false:=by decide) (f:(x == ("__classdict__":Str))=false:=by decide)
  (c:attributeBase (.Name x px) "remove" X.env (eval (.Name x px) X.env)=eval (.Name x px) X.env:=by rfl)
  (w:((backTo cpos (starEach [e] X.env)).all (λx=>!x.1)&&(backToKw cpos (keywordEach [] X.env)).all (λx=>x.1.isSome)
   && decide ([e].length+([]:List k6).length+(if ([]:List k6).isEmpty then 0 else 1) < 30))=true:=by exact wG rfl)
  (b:(apos.endLine == cpos.line)=true:=by rfl) (hs:starEach [e] X.env=[(iN,eval e X.env)]:=by exact qI rfl) :
  PE X (.Call (.Attribute (.Name x px) "remove" apos) [e] [] cpos) (tE C own .sh (zz i qdJ fe)):=by
 refine jF (YM cz PySem.F.slot_list_remove PySem.F.type_list_remove qfK (um r n hd f) (qK (yQ p j) jI hs) c w b hs rfl) λσ H Q h=>?_;have q:∀ (a:Addr) (xs:List V) (ds ys:List D) (v:V) (d:D) (F H:Hp),Same F H->H a=iJ (.lst xs)->F a=iL->IsL C.K F xs ds->Is C.K F v d->qdJ ds d=.ok ys->(∀ zs,IsL C.K F zs ys->Q .non (upd H a (.lst zs)))->qhN (.ref a) [v] H Q:=λa xs ds ys v d F H u s A ix t g k=>by
  unfold qdJ at g;split at g
  ·rename_i ss y e1;split at g;·rename_i l;cases g;cases t;obtain ⟨hx,hl⟩:=qcb ix e1;subst hx;exact ⟨a,ss,y,rfl,rfl,s,l,k _ (Jw λz hz=>hl z (fg hz))⟩
   ·cases g
  ·cases g
 obtain ⟨a,xs,h1,h2,k⟩:=UB (R:=λx v H Q=>qhN x [v] H Q) o j q h;exact ⟨.ref a,h1,.inl ⟨rfl,xs,.inl (.inl h2)⟩,k⟩
theorem qfL {o e:Expr} {to:TE} {t:TA} {name:Str} {id:String} {r:V->List V->Hp->VK->Prop} (slot:Slot "tuple" name id) (y:typeOf (.builtin id)=pure (.type "method_descriptor")) (g:MtR X id r) (m:PE X o to) (j:PA X [e] t)
  (c:attributeBase o name X.env (eval o X.env)=eval o X.env)
  (w:((backTo cpos (starEach [e] X.env)).all (λx=>!x.1)&&(backToKw cpos (keywordEach [] X.env)).all (λx=>x.1.isSome)
   && decide ([e].length+([]:List k6).length+(if ([]:List k6).isEmpty then 0 else 1) < 30))=iO)
  (b:(apos.endLine == cpos.line)=iO) (hs:starEach [e] X.env=[(iN,eval e X.env)]) :
  PE X (.Call (.Attribute o name apos) [e] [] cpos) (λσ H Q=>to σ H λx H1=>(∃ p xs,x=.ref p/\SqT X.K H1 p xs)/\t σ H1 λxs H2=>r x xs H2 Q):=by
 refine ⟨?_⟩;intro pins s σ H Q I h;refine wpAny_Call_method_late c w b rfl (thn (m pins s σ H _ I h) λv s1 ⟨x,H1,d,r1,ty,f⟩=>?_);obtain ⟨p,xs,rfl,hq⟩:=ty;cases r1;obtain ⟨o',e1,k⟩:=d.tupleN hq;obtain ⟨its,n,⟨o2,E,i,_⟩,_⟩:=d.tuple hq;refine ⟨"tuple",id,PySem.F.plainAttrs_tuple,slot,y,⟨o2,E,i⟩,λa z=>by cases z; exact ⟨o',e1,k⟩,?_⟩;have hA:=j cpos pins s1 σ H1 _ d f;rw [hs] at hA ⊢;refine dh rfl (dJ ?_);exact thn hA λus s2 ⟨vs,H2,l,r2,q⟩=>g pins s2 σ H2 (.ref p) vs _ us Q l rfl r2 q
noncomputable def qer:D->Bool
 | .tup _=>iO
 | _=>iN
noncomputable def yr:D->D->Out D
 | .tup ds,e=>match Qt 7 e ds with
  | some _=>.ok (.int ((ds.map λd=>eqN 7 d e == iJ iO).countP id:Nat))
  | none=>.bad
 | _,_=>.bad
theorem Gv (E:C.K=X.K) (B:X.A.units+64 < cLine):MtD X C .sh "tuple.count" yr:=by
 intro pins s σ H x vs v us Q I k o h;obtain ⟨y,F,dx,g,rfl,f,i,ty,po⟩:=h;rw [E] at i ty;obtain ⟨u,rfl,q⟩:=o.one;unfold yr at po;cases dx <;> try exact po.elim
 rename_i ds;cases e:Qt 7 g ds with
 | none=>simp only [e] at po; exact po.elim
 | some b=>simp only [e] at po;obtain ⟨F',g',c,z⟩:=ty.is f;obtain ⟨a,xs,rfl,p,l⟩:=i.tup f;cases k;obtain ⟨its,r,pl,hz⟩:=I.tuple p;obtain ⟨h1,h2⟩:=KI (A:=X.A) (y:=.non) (a:=a) (u:=.none) I B c z q (l.mono g') r e;have D:=Gh I c (l.mono g') r e;obtain ⟨⟨cls,dd,data,sl⟩,m,j,n,t⟩:=pl;simp only at j t;subst j t;refine lz PySem.F.slot_tuple_count ⟨_,m,rfl⟩ PySem.F.entry_tuple_count (PySem.F.args_tuple_count_2 _ _) (SeqAt.tuple_countAt a _ n dd sl u (Xy X F' 7 g)) ⟨m,λw hw=>h2 w hw,?_⟩;refine ⟨.int ((ds.map λd=>eqN 7 d g == iJ iO).countP id:Nat),H,I.tok _,⟨s.toks,?_⟩,po _ F H f .refl (.int _)⟩;rw [<-D,List.countP_map];rfl
theorem Gw (m:C.K=X.K) (u:X.A.units+64 < cLine)
  (i:PE X a (tE C own ma fa)) (g:PE X b (tE C own mb fb)) (f:ma≠.any:=by decide)
  (c:attributeBase a "count" X.env (eval a X.env)=eval a X.env:=by rfl)
  (w:((backTo cpos (starEach [b] X.env)).all (λx=>!x.1)&&(backToKw cpos (keywordEach [] X.env)).all (λx=>x.1.isSome)
   && decide ([b].length+([]:List k6).length+(if ([]:List k6).isEmpty then 0 else 1) < 30))=true:=by exact wG rfl)
  (e:(apos.endLine == cpos.line)=true:=by rfl) (hs:starEach [b] X.env=[(iN,eval b X.env)]:=by exact qI rfl) :
  PE X (.Call (.Attribute a "count" apos) [b] [] cpos) (tE C own .sh (dM qer yr fa fb)):=by
 refine jF (qfL PySem.F.slot_tuple_count PySem.F.type_tuple_count (Gv m u) i (qK g jI hs) c w e hs) λσ H Q h=>?_;obtain ⟨F,ρ,p,h⟩:=qdC (ma:=ma) (mb:=mb) f h;refine ⟨F,ρ,p,Po.imp h λx H1 h1=>?_⟩;obtain ⟨⟨F1,dx,s,d,k⟩,h2⟩:=h1;refine ⟨?_,?_⟩
 ·cases dx <;> try (cases k; done)
  obtain ⟨a,vs,rfl,hq,t⟩:=d.tup s;exact ⟨a,vs,rfl,by rw [<-m]; exact hq⟩
 ·obtain ⟨j,ρ2,r,h2⟩:=h2;exact ⟨j,ρ2,r,Po.imp h2 λy H2 q=>⟨y,q.choose,q.choose_spec.choose,q.choose_spec.choose_spec.choose,rfl,q.choose_spec.choose_spec.choose_spec⟩⟩
end
end L2.D2
namespace L2.D2
open PySem PySem.Spec PyProof.Rows PySem.W
variable {cmp:Nat->Nat->(Bool->iP->Prop)->iP->Prop} {N:Nat} {s:iP}
theorem qcc {Q:Nat->iP->Prop} (d:∀ i,i+1 < N->∀ C:Bool->iP->Prop,C iN s->cmp (i+1) i C s):∀ (f n:Nat),1<=n->n+f<=N->Q (n+f) s->(kas_asc (dP (aN N)) f n).kasWp cmp Q s
 | 0,n,_,_,h=>h
 | f+1,n,h1,h2,h=>by
  obtain ⟨m,rfl⟩:∃ m,n=m+1:=⟨n - 1,by omega⟩
  have e1:(dP (aN N)).getD (m+1) 0=m+1:=by simp [Array.getD,show m+1 < N by omega]
  have e:(dP (aN N)).getD (m+1 - 1) 0=m:=by simp [Array.getD,show m < N by omega]
  show cmp ((dP (aN N)).getD (m+1) 0) ((dP (aN N)).getD (m+1 - 1) 0) _ s;rw [e1,e];refine d m (by omega) _ ?_;have h:Q (m+1+1+f) s:=by rw [show m+1+1+f=m+1+(f+1) by omega]; exact h
  exact qcc d f (m+1+1) (by omega) (by omega) h
theorem qdK {G:Array Nat->iP->Prop} (a:1<=N) (d:∀ i,i+1 < N->∀ C:Bool->iP->Prop,C iN s->cmp (i+1) i C s) (h:G (dP (aN N)) s):(kas_sort N).kasWp cmp G s:=by unfold kas_sort kas_count;rw [KasT.kasWp_bind,KasT.kasWp_bind];refine qcc d (N - 1) 1 (ax _) (by omega) ?_;rw [show 1+(N - 1)=N by omega,if_pos (by simp)];show (if N < N then _ else KasT.ret _:KasT (Array Nat)).kasWp cmp G s;rw [if_neg (bQ _)];exact h
section
variable {prog:iR} {w:iS} {A:iV} {E:iM->iP->Prop}
theorem JB {a:Addr} {vs:List iM} {n:Nat} {P:PySem.Fin->iP->Prop} (m:s.heap.get? a=iJ (seqObj "list" vs.toArray n)) (j:vs.length < 64)
  (k:2<=vs.length->∀ h':Heap,(∀ b o,b≠a->s.heap.get? b=iJ o->h'.get? b=iJ o)->∃ κ,(∀ Q:SortKind->iP->Prop,Q κ { s with heap:=h' }->wpAny (model prog w) A (keyKind' vs.toArray) Q (λ_ _=>False) { s with heap:=h' })/\∀ i,i+1 < vs.length->∀ C:Bool->iP->Prop,C iN { s with heap:=h' }->kas_ask prog w A κ vs (i+1) i C { s with heap:=h' })
  (h:P (.done (.ret .none)) { s with heap:=sortedHeap s.heap a vs vs.toArray }) :
  wpAny (model prog w) A (Builtin.«list.sort» ⟨[.ref a],[]⟩) P E s:=by
 rw [list_sort_plain];have l:a < s.heap.objs.size:=ap m;refine iK (listItems_at m rfl ?_);refine iK (listUpdate_at m rfl ?_ (by rw [au,iT]; omega) (bu _));obtain ⟨e1,ho1⟩:∃ e1,(s.heap.update a (bB λ_=>#[])).get? a=iJ (seqObj "list" #[] e1):=⟨_,get?_update_seq m (λ_=>#[])⟩
 refine iK (seqEpoch_at ho1 rfl ?_);refine iK (lN ?_ (by show vs.length<=_; rw [iT]; omega));refine iK (wpAny_newList ?_ (bu _));refine i3 ?_;have c:(((s.heap.update a (bB λ_=>#[])).push (seqObj "tuple" vs.toArray 0)).push (seqObj "list" #[] 0)).get? a=iJ (seqObj "list" #[] e1):=by rw [fO _ _ _ (by rw [size_push',Heap.size_update]; exact aG (dH l)),fO _ _ _ (by rw [Heap.size_update]; exact aG l)];exact ho1
 have keep:∀ b o,b≠a->s.heap.get? b=iJ o->(((s.heap.update a (bB λ_=>#[])).push (seqObj "tuple" vs.toArray 0)).push (seqObj "list" #[] 0)).get? b=iJ o:=λb o y e=>
  aa _ (aa _ (by rw [Heap.get?_update_ne _ _ _ _ y]; exact e))
 show wpAny (model prog w) A _ P E { s with heap:=((s.heap.update a (bB λ_=>#[])).push (seqObj "tuple" vs.toArray 0)).push (seqObj "list" #[] 0) };dsimp only;have hsz:vs.toArray.size=vs.length:=by simp
 have f:(vs.toArray.zip vs.toArray).map (·.2)=vs.toArray:=by apply Array.toList_inj.mp;rw [Array.toList_map,Array.toList_zip];exact List.map_snd_zip (ax _)
 by_cases h2:vs.toArray.size < 2;·rw [if_pos h2,if_pos h2];refine iK (iQ ?_);rw [StateT.run_pure];refine iK (iQ ?_);dsimp only;have z:arrOf (SortSt.mk' general' (vs.toArray.zip vs.toArray) #[] 7 iL)=vs.toArray.zip vs.toArray:=rfl;refine iK (seqEpoch_at c rfl ?_);rw [z,f];refine iK (listUpdate_at c rfl ?_ (bu _) (by rw [hsz,iT]; omega));simp only [bne_self_eq_false,cq,if_false];exact iQ h
 ·rw [if_neg h2,if_neg h2];rw [hsz] at h2;obtain ⟨κ,t,v⟩:=k (by omega) _ keep;refine iK (lg (t (λd s'=>d=κ/\s'={ s with heap:=((s.heap.update a (bB λ_=>#[])).push (seqObj "tuple" vs.toArray 0)).push (seqObj "list" #[] 0) }) ⟨rfl,rfl⟩) (λd s' q=>?_) λ_ _ x=>x.elim);obtain ⟨rfl,rfl⟩:=q;refine iK (lg (kat_run (Q:=λg s'=>(arrOf g).map (·.2)=vs.toArray/\failedOf g=iL/\s'={ s with heap:=((s.heap.update a (bB λ_=>#[])).push (seqObj "tuple" vs.toArray 0)).push (seqObj "list" #[] 0) })
   (G:=λp s'=>p=dP (aN vs.length)/\s'={ s with heap:=((s.heap.update a (bB λ_=>#[])).push (seqObj "tuple" vs.toArray 0)).push (seqObj "list" #[] 0) })
   rfl (by omega) j (λH g s' I D B r=>⟨?_,B,r.2⟩) (qdK (by omega) v ⟨rfl,rfl⟩)) ?_ λ_ _ e=>e)
  ·rw [kat_snds rfl D,r.1];congr 1;refine eX λi=>?_;by_cases hi:i < vs.length;·simp [hi]
   ·simp [hi]
  ·rintro ⟨⟨⟩,g⟩ s' ⟨hp,u,rfl⟩;dsimp only;refine iK (seqEpoch_at c rfl ?_);rw [hp];refine iK (listUpdate_at c rfl ?_ (bu _) (by rw [hsz,iT]; omega));rw [u];simp only [bne_self_eq_false,cq,if_false];exact iQ h
end
theorem Vm:∀ l:List Int,gE (l.map D.int)=iJ l
 | []=>rfl
 | x::l=>by show (gE (l.map D.int)).map (x::·)=iJ (x::l);rw [Vm l];rfl
end L2.D2
namespace L2.D2
open PySem PySem.Spec PyProof.Rows
noncomputable def Vn:D->Out D
 | .dct kvs=>.ok (.dct kvs)
 | _=>.bad
variable {X:Cx} {C:Ct}
theorem UV (m:C.K=X.K):Qv X C .fr (.type "dict") Vn:=by
 intro pins s σ H xs us Q I r h;obtain ⟨x,F,dx,rfl,y,t,po⟩:=h;cases dx <;> try exact po.elim
 rename_i ks;have po:PoV C .fr F H (.ok (.dct ks)) Q:=po;obtain ⟨a,kv,rfl,hq,i⟩:=t.dct y;obtain ⟨u,rfl,A⟩:=yO r;cases A;obtain ⟨hz,S,vs,B,hd⟩:=(show ObjOk X.prog X.w H s.heap a (.dK kv) from I.hok a _ hq)
 have hl:=B.length;refine kt_call_dict S hd (by omega) λh' f d=>?_;have kp:∀ b o,s.heap.get? b=iJ o->h'.get? b=iJ o:=λb o e=>(d.2 b (aG (ap e))).trans (aa _ e);have hp:H s.heap.objs.size=none:=I.hok.fresh (ax _);obtain ⟨s2,c2,E⟩:=vt (u:=.dK kv) y hp;have c:(s.heap.objs.size == sysModules)=false:=beq_eq_false_iff_ne.mpr (cS I.big);exact ⟨.ref s.heap.objs.size,_,I.laid (o:=.dK kv) (t':=s.toks) kp (ax _) (Zd hz c B f),rfl,po _ F _ s2 c2 ⟨_,rfl,hp,E,_,qo,i⟩⟩
noncomputable def qbl {α:Type} (ds:List α) (lo hi:Option Int):List α:=(ds.drop (HT.sIx ds.length 0 lo)).take (HT.sIx ds.length ds.length hi - HT.sIx ds.length 0 lo)
noncomputable def qfM (lo hi:Option Int):D->Out D
 | .lst ds=>.ok (.lst (qbl ds lo hi))
 | _=>.bad
noncomputable def vC (fa:Sl->Out (D×Sl)) (l u:Option (Sl->Out (D×Sl))):Sl->Out (D×Sl):=λρ=>(fa ρ).bind λp=>(Jr l p.2).bind λa=>(Jr u a.2).bind λb=>(qfM a.1 b.1 p.1).plain.bind λd=>.ok (d,b.2)
section
variable {own:List Nat} {e:Expr} {fa:Sl->Out (D×Sl)} {ma:Mo} {pos p2:Pos}
theorem qhO (m:C.K=X.K):SlR X (λx lo hi H Q=>∃ F d,Same F H/\Is C.K F x d/\PoV C .sh F H (qfM lo hi d) Q):=by
 intro pins s σ H x v vl b lo hi sl Q I r hs pl c h;obtain ⟨F,d,y,is,po⟩:=h;cases d with
 | lst ds=>
  cases is with
  | @lst a xs _ hq t=>
   have po:PoV C .sh F H (.ok (.lst (qbl ds lo hi))) Q:=po;refine qcW pins s σ H _ v vl b lo hi sl Q I r hs pl c ⟨a,xs,rfl,by rw [<-m]; exact y.seq hq,λp hp=>?_⟩;obtain ⟨s2,c2⟩:=yB (u:=.lst (qcT xs lo hi)) y hp;have i:IsL C.K F (qcT xs lo hi) (qbl ds lo hi):=by unfold qcT qbl;rw [t.length];exact IsL.take _ (IsL.drop _ t)
   exact po _ _ _ s2 c2 (.lst (.inl (.inl qo)) (i.mono c2.grow))
 | _=>exact po.elim
theorem Vo {lo hi:Option Expr} {l u:Option (Sl->Out (D×Sl))} (n:C.K=X.K) (j:PE X e (tE C own ma fa)) (hl:PO X lo (tO C own (Jr l))) (i:PO X hi (tO C own (Jr u))) (g:ma≠.any:=by decide):PE X (.Subscript e (.Slice lo hi iL p2) pos) (tE C own .sh (vC fa l u)):=by
 refine jF (qaF (qhO (C:=C) n) (yQ j g) hl i) λσ H Q ⟨F,ρ,p,h⟩=>⟨F,ρ,p,Po.bind h λv F1 H1 d ρ1 f q m h1=>?_⟩
 refine ⟨F1,ρ1,f,Po.bindO h1 λo H2 a ρ2 r c2 h2=>⟨o,ρ2,r,Po.bindO h2 λt s b k c G h3=>?_⟩⟩;exact ⟨t,d,c.sub,(m.mono c2.grow).mono G.grow,PoV.of c h3⟩
end
theorem fsc {N P:List Str} {sc:lB} (a:sc.kind=.function:=by rfl) (b:sc.isCoroutine=false:=by rfl) (c:sc.isGenerator=false:=by rfl) (d:N.Nodup:=by decide +kernel) (e:N.take P.length=P:=by rfl) (f:∀ x∈P,sc.names.lookup x=iJ .local\/sc.names.lookup x=iJ .cell:=by decide +kernel) (g:∀ y∈sc.names,y.2≠.free:=by decide +kernel):FnScope N P sc:=⟨a,b,c,d,e,f,g⟩
end L2.D2
namespace L2.D2
open PySem PySem.Spec PyProof.Rows PySem.W
noncomputable def Qr (H:Hp) (l:List (Addr×List V)):Hp:=λb=>match l.lookup b with
 | some xs=>iJ (.tup xs)
 | none=>H b
variable {α:Type}
theorem Gx {x:Addr} {a:α}:∀ {l:List (Addr×α)},l.lookup x=iJ a->(x,a)∈l
 | [],h=>by simp at h
 | (n,k)::r,h=>by
  rw [bI] at h;by_cases e:(x == n)=iO
  ·rw [e] at h;have h:iJ k=iJ a:=h;cases h;have:x=n:=by simpa using e
   rw [this];exact aw ..
  ·rw [Bool.not_eq_true] at e;rw [e] at h;exact af _ (Gx h)
variable {H:Hp} {l:List (Addr×List V)} {b:Addr}
theorem zN (h:∀ p∈l,p.1≠b):Qr H l b=H b:=by
 unfold Qr;cases e:l.lookup b with
 | none=>rfl
 | some xs=>exact absurd rfl (h _ (Gx e))
theorem kr {o:HO} (n:∀ p∈l,H p.1=iL) (e:H b=iJ o):Qr H l b=iJ o:=by rw [zN λp hp q=>?_,e];have:=n p hp;rw [q,e] at this;cases this
variable {X:Cx} {pins:List (Addr×Obj)} {σ:St} {F:Hp} {s:iP} {h':Heap}
section
theorem Inv.lays {t':Nat} (I:Inv X pins σ H s) (k:∀ b u,s.heap.get? b=iJ u->h'.get? b=iJ u) (hp:∀ p∈l,s.heap.objs.size<=p.1)
  (new:∀ b xs,l.lookup b=iJ xs->(xs.length<=sizeLine/\∃ o,h'.get? b=iJ o/\o.dict=iL)/\∃ its:List iM,Vals xs its/\IsTup h' b its.toArray):Inv X pins σ (Qr H l) { s with heap:=h',toks:=t' }:=by
 have h:∀ p∈l,H p.1=none:=λp hq=>I.hok.fresh (hp p hq);refine I.un ⟨λb u q _ _ _=>k b u q,λb u q _ _ _=>⟨u.slots,k b u q⟩,λb u q n _=>?_,λb u q _=>⟨u,k b u q⟩,λb xs q=>kr h q,λb u xs q=>kr h q,λb ps q=>⟨#[],by rw [kr h q]; simp⟩⟩ λb u e=>?_
 ·rw [zN λp hq z=>?_];·exact n
  ·exact absurd (ap q) (by rw [<-z]; exact Nat.not_lt.mpr (hp p hq))
 ·cases q:l.lookup b with
  | some xs=>have e:Qr H l b=iJ u:=e;unfold Qr at e;rw [q] at e;cases e;exact new b xs q
  | none=>have e:Qr H l b=iJ u:=e;unfold Qr at e;rw [q] at e;exact (I.hok b u e).stay (λc v _ q=>k c v q) (λc q=>kr h q) λc xs q=>kr h q
theorem UW (y:Same F H) (n:∀ p∈l,H p.1=iL):Same (Qr F l) (Qr H l)/\Chg No F H (Qr F l) (Qr H l):=by
 have E:∀ p∈l,F p.1=none:=λp hp=>by
  cases q:F p.1 with
  | none=>rfl
  | some o=>have:=n p hp;rw [y _ o q] at this;cases this
 refine ⟨λb o e=>?_,⟨λb o e _=>kr n e,λb e=>?_,λb o e=>kr E e,λb e=>?_⟩⟩
 ·unfold Qr at e ⊢;cases q:l.lookup b with
  | some xs=>rw [q] at e; exact e
  | none=>rw [q] at e; exact y b o e
 ·cases q:H b with
  | none=>exact absurd q e
  | some o=>rw [kr n q]; simp
 ·cases q:l.lookup b with
  | some xs=>exact .inr (.inl (n _ (Gx q)))
  | none=>have e:Qr F l b≠none:=e;unfold Qr at e;rw [q] at e;exact .inl e
end
variable {prog:iR} {w:iS} {A:iV} {E:iM->iP->Prop}
section
theorem Vp {K:Type} [DecidableEq K] {knd:KeyKind prog w K} {r d:Addr} {kvs:List (K×iM)} {ep:Nat} {Q:iM->iP->Prop} (t:A.handled=iL) (v:s.heap.IsItemsView r d) (q:s.heap.DictAt knd d kvs ep) (g:kvs.length < 64)
  (c:2<=kvs.length->∀ (as:List Addr) (s':iP) (p:iV),as.length=kvs.length->KdxG knd kvs s.heap.objs.size s'.heap as->∃ κ,(∀ Q:SortKind->iP->Prop,Q κ s'->wpAny (model prog w) p (keyKind' (as.map aM).toArray) Q (λ_ _=>False) s')/\∀ i,i+1 < kvs.length->∀ C:Bool->iP->Prop,C iN s'->kas_ask prog w p κ (as.map aM) (i+1) i C s')
  (y:∀ (h1 h':Heap) (tk e:Nat) (as:List Addr),(∀ b o,s.heap.get? b=iJ o->h1.get? b=iJ o)->(∀ b o,h1.get? b=iJ o->h'.get? b=iJ o)->as.length=kvs.length->KdxG knd kvs s.heap.objs.size h1 as->h'.get? h1.objs.size=iJ (seqObj "list" (as.map aM).toArray e)->Q (.ref h1.objs.size) { s with heap:=h',toks:=tk }) :
  wpAny (model prog w) A (call (.builtin "sorted") [.ref r]) Q E s:=by
 refine Calls.call_function_entry kind_sorted plain_sorted entry_sorted (args_sorted1 _) ?_; unfold Builtin.«sorted»;refine iK (m:=checkCount "sorted" 1 1 _) (iQ ?_);refine iK (kdx_collect (A:=A.in1) (knd:=knd) (kvs:=kvs) (ep:=ep) t v q (by rw [iT]; omega) λh1 tk as k1 hl G=>?_);have h:(as.map aM).length=kvs.length:=by rw [am]; exact hl
 refine iK (wpAny_newList ?_ (by rw [h,iT]; omega));have W:(h1.push (seqObj "list" (as.map aM).toArray 0)).get? h1.objs.size=iJ (seqObj "list" (as.map aM).toArray 0):=ah _ rfl;have Y:∀ h2:Heap,(∀ b o,b≠h1.objs.size->(h1.push (seqObj "list" (as.map aM).toArray 0)).get? b=iJ o->h2.get? b=iJ o)->KdxG knd kvs s.heap.objs.size h2 as:=λh2 k2=>
  ⟨G.rise,G.above,λj a D=>by obtain ⟨key,k,x,e1,z,n⟩:=G.pairs j a D;exact ⟨key,k,x,e1,z,k2 a _ (aG (ap n)) (aa _ n)⟩⟩
 refine iK (i3 (iW slot_list_sort (s:={ s with heap:=h1.push (seqObj "list" (as.map aM).toArray 0),toks:=tk }) ⟨_,W,rfl⟩ entry_list_sort (JB W (by rw [h]; exact g) (λf h2 k2=>by rw [h] at f ⊢;exact c f as { s with heap:=h2,toks:=tk } _ hl (Y h2 k2)) ⟨_,rfl,?_⟩) (args_list_sort _)));obtain ⟨e,u⟩:=sortedHeap_at (out:=(as.map aM).toArray) W;refine iQ ⟨_,rfl,y h1 _ tk e as k1 (λb o eb=>?_) hl G u⟩;have l:=ap eb;rw [sortedHeap_old (aG l) (by rw [br]; exact dH l)];exact aa _ eb
end
noncomputable def kD:Key->D
 | .inl i=>.int i
 | .inr x=>.str x
noncomputable def qdL:List Str->Bool
 | x::y::r=>decide (y≠x)&&!decide (y.cps.toList < x.cps.toList)&&qdL (y::r)
 | _=>iO
theorem Gy:∀ {ss:List Str},qdL ss=iO->∀ i x y,ss[i]?=iJ x->ss[i+1]?=iJ y->y≠x/\¬y.cps.toList < x.cps.toList
 | [],_,i,x,y,h1,_=>by simp at h1
 | [_],_,i,x,y,_,h2=>by simp at h2
 | a::b::r,h,i,x,y,h1,h2=>by
  unfold qdL at h;simp only [aP,decide_eq_true_eq,eJ,decide_eq_false_iff_not] at h;cases i with
  | zero=>cases h1;cases h2;exact h.1
  | succ i=>exact Gy h.2 i x y h1 h2
noncomputable def UX (kvs:List (Key×D)):List D:=kvs.map λkv=>.tup [kD kv.1,kv.2]
noncomputable def vg:D->Out D
 | .dct kvs=>(match Wu kvs with
  | some ss=>if ss.length < 64/\qdL ss=iO/\(ss.all λy=>decide (y.length<=sizeLine))=iO then .ok (.lst (UX kvs)) else .bad
  | none=>.bad)
 | _=>.bad
theorem qcd {κ:Type}:∀ {kv:List (κ×V)} {vs:List (κ×iM)},KV kv vs->∀ (j:Nat) (k:κ) (x:iM),vs[j]?=iJ (k,x)->∃ v,kv[j]?=iJ (k,v)/\RelV v x
 | _,_,.nil,j,k,x,h=>by simp at h
 | _,_,.cons (a:=p) (b:=q) r t,j,k,x,h=>by
  cases j with
  | zero=>cases h;obtain ⟨p1,p2⟩:=p;obtain ⟨rfl,r2⟩:=r;exact ⟨p2,rfl,r2⟩
  | succ j=>exact qcd t j k x h
theorem Gz:∀ {as:List Addr} {ys:List α} {b:Addr} {y:α},(as.zip ys).lookup b=iJ y->∃ j:Nat,as[j]?=iJ b/\ys[j]?=iJ y
 | [],_,b,y,h=>by simp at h
 | _::_,[],b,y,h=>by simp at h
 | a::as,z::ys,b,y,h=>by
  rw [fH,bI] at h;by_cases e:(b == a)=iO
  ·rw [e] at h;have h:iJ z=iJ y:=h;cases h;have:b=a:=by simpa using e
   rw [this];exact ⟨0,rfl,rfl⟩
  ·rw [Bool.not_eq_true] at e;rw [e] at h;obtain ⟨j,h1,h2⟩:=Gz h;exact ⟨j+1,h1,h2⟩
theorem GA:∀ {as:List Addr} {ys:List α} {j:Nat} {b:Addr} {y:α},as.Nodup->as[j]?=iJ b->ys[j]?=iJ y->(as.zip ys).lookup b=iJ y
 | [],_,j,b,y,_,h,_=>by simp at h
 | _::_,[],j,b,y,_,_,h=>by simp at h
 | a::as,z::ys,0,b,y,_,h1,h2=>by cases h1;cases h2;rw [fH,bI];simp
 | a::as,z::ys,j+1,b,y,n,h1,h2=>by
  rw [fH,bI];have n:=aU.mp n;have:(b == a)=false:=by rw [beq_eq_false_iff_ne];intro q;rw [q] at h1;exact n.1 (fh.mpr ⟨j,h1⟩)
  rw [this];exact GA n.2 h1 h2
theorem gK:∀ as:List Addr,Vals (as.map V.ref) (as.map aM)
 | []=>.nil
 | _::as=>.cons rfl (gK as)
variable {K:Frag} {F':Hp}
theorem Vq (g:Same F F'):∀ {kv:List (Key×V)} {ks:List (Key×D)} {as:List Addr},IsK K F kv ks->as.length=kv.length->(∀ k∈ks.map (·.1),∃ x:Str,k=.inr x/\x.length<=sizeLine) ->(∀ (j:Nat) (a:Addr) (p:Key×V),as[j]?=iJ a->kv[j]?=iJ p->F' a=iJ (.tup [kV p.1,p.2]))->IsL K F' (as.map V.ref) (UX ks)
 | _,_,[],.nil,_,_,_=>.nil
 | _,_,_::_,.nil,h,_,_=>by simp at h
 | _,_,[],.cons _ _,h,_,_=>by simp at h
 | _,_,a::as,.cons (k:=k) (v:=v) (d:=d) h t,hl,hk,hF=>by obtain ⟨x,rfl,hx⟩:=hk _ (aw ..);have e:=hF 0 a (.inr x,v) rfl rfl;exact .cons (.tup (.inl (.inl e)) (.cons (.str hx) (.cons (h.mono g) .nil))) (Vq g t (by simpa using hl) (λk b=>hk k (af _ b)) λj a p h1 h2=>hF (j+1) a p h1 h2)
variable {C:Ct} {own:List Nat} {fa:Sl->Out (D×Sl)} {ma:Mo}
section
variable {o:Expr} {pos p apos cpos:Pos}
theorem Vr (hK:C.K=X.K) (hc:X.calm=iO) (hg:Gl X "sorted") (hm:X.mg "sorted"=iL) (c:bootBuiltins "sorted"=iJ (.builtin "sorted")) (ha:PE X o (tE C own ma fa))
  (m:attributeBase o "items" X.env (eval o X.env)=eval o X.env:=by rfl) (g:(apos.endLine == cpos.line)=true:=by rfl)
  (he2:starEach [.Call (.Attribute o "items" apos) [] [] cpos] X.env=[(iN,eval (.Call (.Attribute o "items" apos) [] [] cpos) X.env)]:=by exact qI rfl) :
  PE X (.Call (.Name "sorted" p) [.Call (.Attribute o "items" apos) [] [] cpos] [] pos) (tE C own .fr (d1 vg fa)):=by
 refine ⟨?_⟩;intro pins s σ H Q I h;refine i9 (zb I hg hm c ?_ (by decide) (by decide));rw [he2];refine dh rfl (dJ (fF ?_));refine wpAny_Call_method m rfl g PySem.F.plainAttrs_dict PySem.F.slot_dict_items PySem.F.type_dict_items (thn (ha pins s σ H _ I (Jk (ma:=ma) h)) λu s1 ⟨x,H1,S,rx,F,dx,sb,tx,po⟩=>?_);cases dx with
 | dct kvs=>
  obtain ⟨a,kv,rfl,hH,Z⟩:=tx.dct sb;obtain rfl:u=aM a:=rx;obtain ⟨t1,t2,f⟩:=qe2 S (.inl ⟨kv,.inl hH⟩);refine ⟨t1,t2,?_⟩;refine dh rfl (PySem.evalArgs_none ?_);cases q:Wu kvs with
  | none=>simp only [vg,q] at po; exact po.elim
  | some ss=>
   simp only [vg,q] at po;by_cases hl:ss.length < 64/\qdL ss=iO/\(ss.all λy=>decide (y.length<=sizeLine))=iO
   ·rw [if_pos hl] at po;obtain ⟨l1,l2,l3⟩:=hl;obtain ⟨hz,f,vs,rel,dd⟩:=(show ObjOk X.prog X.w H1 s1.heap a (.dK kv) from S.hok a _ hH)
    have hk:vs.map (·.1)=ss.map cu:=by rw [<-KV.keys rel,Z.keys,UU q]
    have hlen:vs.length=ss.length:=by have:=congrArg iF hk; simpa using this
    have hlk:kv.length=vs.length:=rel.length;refine call_meetsIn PySem.F.slot_dict_items dd.typeIs PySem.F.entry_dict_items (PySem.F.args_dict_items_1 _) (meets_dict_items (qU X.prog X.w) a f) ⟨⟨vs,dd⟩,?_⟩;refine fK ?_;obtain ⟨ep,da⟩:=dd.dictAt;have J:∀ (j:Nat) (k:Key) (x:iM),vs[j]?=iJ (k,x)->∃ y,ss[j]?=iJ y/\k=.inr y:=λj k x e=>by
     have E:(vs.map (·.1))[j]?=iJ k:=by rw [aK,e]; rfl
     rw [hk,aK] at E;obtain ⟨y,R,A⟩:=aV.mp E;exact ⟨y,R,A.symm⟩
    have r:∀ {lo:Addr} {h:Heap} {as:List Addr},KdxG (qU X.prog X.w) vs lo h as->∀ (j:Nat) (b:Addr),as[j]?=iJ b->∃ y t x,ss[j]?=iJ y/\vs[j]?=iJ (.inr y,x)/\h.get? b=iJ { cls:=.type "tuple",data:=.seq #[.str y t,x] }:=λG j b hj=>by
     obtain ⟨key,k,x,e1,e2,E⟩:=G.pairs j b hj;obtain ⟨y,R,rfl⟩:=J j k x e1;rcases ju (show zU (cu y) key=iO from e2) with ⟨i,t,A,_⟩ | ⟨z,t,A,rfl⟩
     ·cases A
     ·cases A;exact ⟨_,t,x,R,e1,E⟩
    refine Vp (knd:=qU X.prog X.w) (d:=a) (kvs:=vs) (ep:=ep) (I.ok.hd hc) ⟨_,ah _ rfl,rfl,rfl⟩ (da.push _) (by omega) (λh2 as s' A' hla n=>?_) λh1 h' tk e as k1 k2 hla n hp=>?_
    ·refine ⟨tuples' iO,λQ' hQ'=>?_,λi hi C' hC=>?_⟩
     ·obtain ⟨fs,f1,f2,P⟩:∃ fs:List iM,KatTups s'.heap (as.map aM) fs/\fs.length=as.length/\∀ v∈fs,∃ y t,v=dw y t:=by
       have go:∀ (l:List Addr),(∀ b∈l,∃ y t x,s'.heap.get? b=iJ { cls:=.type "tuple",data:=.seq #[dw y t,x] })->∃ fs:List iM,KatTups s'.heap (l.map aM) fs/\fs.length=l.length/\∀ v∈fs,∃ y t,v=dw y t:=by
        intro l
        induction l with
        | nil=>intro _; exact ⟨[],.nil,rfl,λv c=>by cases c⟩
        | cons b l ih=>
         intro c;obtain ⟨y,t,x,ho⟩:=c b (aw ..);obtain ⟨fs,f1,f2,P⟩:=ih λW h'=>c W (af _ h');refine ⟨dw y t::fs,.cons ho rfl rfl (by simp) f1,by simp [f2],λW h'=>?_⟩;rcases ac.mp h' with rfl | h';·exact ⟨_,_,rfl⟩
         ·exact P W h'
       refine go as λb O=>?_;obtain ⟨j,hj⟩:=fh.mp O;obtain ⟨y,t,x,_,_,E⟩:=r n j b hj;exact ⟨y,t,x,E⟩
      refine kat_kind (T:=.type "str") f1 (by omega) (λv c=>?_) (by decide) hQ';obtain ⟨y,t,rfl⟩:=P v c;exact .now
     ·have M:as[i+1]?=iJ (as[i+1]'(by omega)):=aE _;have N:as[i]?=iJ (as[i]'(by omega)):=aE _;obtain ⟨y1,u1,x1,g1,_,g2⟩:=r n (i+1) _ M;obtain ⟨y0,u0,x0,g3,_,g4⟩:=r n i _ N;obtain ⟨n1,n2⟩:=Gy l2 i y0 y1 g3 g1;unfold kas_ask;rw [show (as.map aM).getD (i+1) .none=.ref (as[i+1]'(by omega)) by rw [ci,aK,M]; rfl,show (as.map aM).getD i .none=.ref (as[i]'(by omega)) by rw [ci,aK,N]; rfl];refine kat_lt g2 rfl g4 rfl (kat_cons (wpAny_eqBool_str ?_));rw [decide_eq_false n1];refine kat_no (oneLt_str ?_);rw [decide_eq_false n2];exact hC
    ·have B:∀ b o,s1.heap.get? b=iJ o->h1.get? b=iJ o:=λb o eb=>k1 b o (aa _ eb);have hsz:(s1.heap.push { cls:=.type "dict_items",data:=.fields #[.ref a] }).objs.size=s1.heap.objs.size+1:=br ..;have hab:∀ b∈as,s1.heap.objs.size<=b:=λb O=>by have:=n.above b O;have this:(s1.heap.push { cls:=.type "dict_items",data:=.fields #[.ref a] }).objs.size < b:=this;rw [hsz] at this;exact cH (fM this)
     have hnd:as.Nodup:=n.rise.imp λz=>aG z;have hlz:as.length=(kv.map λp=>[kV p.1,p.2]).length:=by rw [am]; omega
     have D:∀ q∈as.zip (kv.map λp=>[kV p.1,p.2]),s1.heap.objs.size<=q.1:=λq hq=>hab _ (cM hq).1;have I2:Inv X pins σ (Qr H1 (as.zip (kv.map λp=>[kV p.1,p.2]))) { s1 with heap:=h1,toks:=tk }:=Inv.lays S B D λb xs O=>by obtain ⟨j,Y,U⟩:=Gz O;obtain ⟨y,t,x,e1,e2,E⟩:=r n j b Y;obtain ⟨v,R,A⟩:=qcd rel j _ x e2;rw [aK,R] at U;cases U;exact ⟨⟨by show 2<=_; rw [iT]; decide,_,E,rfl⟩,[.str y t,x],.cons ⟨t,rfl⟩ (.cons A .nil),_,E,rfl,_,rfl⟩
     have hq0:H1 h1.objs.size=none:=(S.kept (t':=tk) B).hok.fresh (ax _);have hq2:Qr H1 (as.zip (kv.map λp=>[kV p.1,p.2])) h1.objs.size=none:=I2.hok.fresh (ax _);obtain ⟨s2,c2⟩:=UW (l:=as.zip (kv.map λp=>[kV p.1,p.2])) sb λq hq=>S.hok.fresh (D q hq);obtain ⟨s3,c3,P⟩:=vt (u:=.lst (as.map V.ref)) s2 hq2;have il:=Vq (as:=as) c2.grow Z (by omega) (λk L=>by
      rw [<-Z.keys,KV.keys rel,hk] at L;obtain ⟨y,hy,rfl⟩:=aC.mp L;exact ⟨y,rfl,of_decide_eq_true (aO.mp l3 y hy)⟩) λj b q Y U=>by
      unfold Qr;rw [GA hnd Y (by rw [aK,U]; rfl)]
     exact ⟨.ref h1.objs.size,_,I2.laid (t':=tk) (o:=.lst (as.map V.ref)) k2 (ax _) ⟨by rw [am,iT]; omega,as.map aM,e,gK as,by simpa [seqObj] using hp⟩,rfl,po _ _ _ s3 (c2.trans' c3) ⟨_,rfl,hq0,P,_,qo,il⟩⟩
   ·rw [if_neg hl] at po; exact po.elim
 | _=>exact po.elim
end
variable {z:Addr} {i:Nat} {Q:Bool->iP->Prop}
section
variable {TI TO i1 i2:Addr} {fp1 fp2:List Addr} {n1 n2:Nat} {P1 P2:Nat->iM->Prop} {S1 S2:Nat->Heap->Prop} {a b:iM}
abbrev yt (h:Heap) (z TI TO:Addr) (p:Nat):Prop:=∃ c:Bool,h.get? z=iJ { cls:=.type "zip",dict:=iL,data:=.fields #[rawInt p,.bool c,.bool iN,.ref TI,.ref TO],slots:=#[] }
theorem UY {p:Nat} (hz:yt s.heap z TI TO p) (hp:∃ o,s.heap.get? p=iJ o) (h:∀ h',yt h' z TI TO p->bn z s.heap h'->Q iN { s with heap:=h' }):wpAny (model prog w) A (aS (.ref z)) Q E s:=by
 obtain ⟨c,hz⟩:=hz;obtain ⟨o,m⟩:=hp;unfold aS;refine iK (iZ hz rfl (x:=rawInt p) rfl ?_);show wpAny _ _ (loadIfAlive (Int.toNat p) >>= _) _ _ _;rw [dF];refine iK (kdx_alive m ?_);rw [if_neg (by simp)];refine iK (iZ hz rfl (x:=.bool c) rfl ?_);cases c with
 | true=>rw [if_neg (by decide)];exact iQ (h s.heap ⟨iO,hz⟩ ⟨rfl,λ_ _=>rfl⟩)
 | false=>rw [if_pos (by decide)];refine iK (lc hz (by simp) λh₁ r l=>iQ (h h₁ ⟨iO,r⟩ l))
theorem GB {p:Nat} {Q:iM->iP->Prop} (D:Apart2 z TI TO i1 i2 fp1 fp2) (b:lG prog w A i1 fp1 n1 P1 S1) (P:lG prog w A i2 fp2 n2 P2 S2)
  (hz:yt s.heap z TI TO p) (hp:∃ o,s.heap.get? p=iJ o) (Y:j7 s.heap TI (.ref i1) (.ref i2)) (h1:S1 i s.heap) (h2:S2 i s.heap) (m:i < n1) (j:i < n2)
  (t:∀ x y h' tk,P1 i x->P2 i y->yt h' z TI TO p->S1 (i+1) h'->S2 (i+1) h'->j7 h' s.heap.objs.size x y ->(∀ c o,c≠z->c≠i1->c≠i2->s.heap.get? c=iJ o->h'.get? c=iJ o)->Q (.ref s.heap.objs.size) { s with heap:=h',toks:=tk }) :
  wpAny (model prog w) A (Builtin.«zip.__next__» ⟨[.ref z],[]⟩) (λfin s'=>∃ v,fin=.done (.ret v)/\Q v s') E s:=by
 obtain ⟨B,a⟩:=id hz;show wpAny _ _ (field (.ref z) 2 >>= _) _ _ _; refine iK (iZ a rfl (x:=.bool iN) rfl ?_);show wpAny _ _ (field (.ref z) 3 >>= _) _ _ _; refine iK (iZ a rfl (x:=.ref TI) rfl ?_); refine iK (iY Y rfl ?_);show wpAny _ _ (aS (.ref z) >>= _) _ _ _;refine iK (UY hz hp λh₁ r l=>?_);simp only [cq,if_false];refine iK ?_;rw [<-Array.forIn_toList];simp only [dY,fG];refine iK (iK (i3 ?_)); show wpAny _ _ (aR (.ref i1) >>= _) _ _ _;refine iK (b.item i _ _ _ m (b.frame _ _ _ h1 λc d o e=>l.extBut _ _ (λq=>D.z1 (q ▸ d)) e) λx f W hx N k=>iQ ?_);refine iQ ?_;refine iK (iK (i3 ?_)); show wpAny _ _ (aR (.ref i2) >>= _) _ _ _;refine iK (P.item i _ _ _ j (P.frame _ _ _ h2 λc d o e=>(k.2 _ (λq=>D.a12 (q ▸ d))).trans (l.extBut _ _ (λq=>D.z2 (q ▸ d)) e)) λy h L n M g=>iQ ?_);refine iQ (iQ ?_);show wpAny _ _ (newTuple [x,y] >>= _) _ _ _;refine iK (lN ?_);have hsz:h.objs.size=s.heap.objs.size:=by rw [g.1,k.1,l.1]
 refine iQ ⟨_,rfl,?_⟩;show Q (.ref h.objs.size) _;rw [hsz];have up:∀ c o,h.get? c=iJ o->(h.push { cls:=.type "tuple",data:=.seq #[x,y] }).get? c=iJ o:=λc o e=>aa _ e;obtain ⟨u,r⟩:=r;refine t x y _ L hx n ⟨u,up _ _ ((g.2 _ D.i2z.symm).trans ((k.2 _ D.i1z.symm).trans r))⟩ (b.frame _ _ _ N λc d o e=>up _ _ ((g.2 _ (λq=>D.a21 (q ▸ d))).trans e)) (P.frame _ _ _ M λc d o e=>up _ _ e) (by rw [<-hsz]; exact ah _ rfl) λc o k1 k2 k3 e=>up c o ((g.2 _ k3).trans ((k.2 _ k2).trans (l.extBut _ _ k1 e)))
theorem qbm {p:Nat} {Q:Fin->iP->Prop} (D:Apart2 z TI TO i1 i2 fp1 fp2) (M:lG prog w A i1 fp1 n1 P1 S1) (P:lG prog w A i2 fp2 n2 P2 S2)
  (hz:yt s.heap z TI TO p) (hp:∃ o,s.heap.get? p=iJ o) (Y:j7 s.heap TI (.ref i1) (.ref i2)) (h1:S1 i s.heap) (h2:S2 i s.heap) (y:i=n1\/(i < n1/\i=n2))
  (j:∀ h' tk e,(∀ c o,c≠z->c≠i1->c≠i2->s.heap.get? c=iJ o->h'.get? c=iJ o)->(∃ o,h'.get? e=iJ o/\o.cls=.type "StopIteration")->E (.ref e) { s with heap:=h',toks:=tk }) :
  wpAny (model prog w) A (Builtin.«zip.__next__» ⟨[.ref z],[]⟩) Q E s:=by
 obtain ⟨m,b⟩:=id hz;show wpAny _ _ (field (.ref z) 2 >>= _) _ _ _; refine iK (iZ b rfl (x:=.bool iN) rfl ?_);show wpAny _ _ (field (.ref z) 3 >>= _) _ _ _; refine iK (iZ b rfl (x:=.ref TI) rfl ?_); refine iK (iY Y rfl ?_);show wpAny _ _ (aS (.ref z) >>= _) _ _ _;refine iK (UY hz hp λh₁ r l=>?_);simp only [cq,if_false];refine iK ?_;rw [<-Array.forIn_toList];simp only [dY,fG];refine iK (iK (i3 ?_)); show wpAny _ _ (aR (.ref i1) >>= _) _ _ _;have f1:S1 i h₁:=M.frame _ _ _ h1 λc d o e=>l.extBut _ _ (λq=>D.z1 (q ▸ d)) e;rcases y with rfl | ⟨hlt,rfl⟩
 ·refine iK (M.done _ _ _ f1 λh e k f=>?_);exact j h s.toks e (λc o k1 k2 _ x=>k _ _ k2 (l.extBut _ _ k1 x)) f
 ·refine iK (M.item i _ _ _ hlt f1 λx h W hx N k=>iQ ?_);refine iQ ?_;refine iK (iK (i3 ?_)); show wpAny _ _ (aR (.ref i2) >>= _) _ _ _;refine iK (P.done _ _ _ (P.frame _ _ _ h2 λc d o e=>(k.2 _ (λq=>D.a12 (q ▸ d))).trans (l.extBut _ _ (λq=>D.z2 (q ▸ d)) e)) λa e g f=>?_);exact j a W e (λc o k1 k2 k3 x=>g _ _ k3 ((k.2 _ k2).trans (l.extBut _ _ k1 x))) f
theorem Vs {p:Nat} {Q:Option iM->iP->Prop} (D:Apart2 z TI TO i1 i2 fp1 fp2) (M:lG prog w A.in1 i1 fp1 n1 P1 S1) (P:lG prog w A.in1 i2 fp2 n2 P2 S2)
  (hz:yt s.heap z TI TO p) (hp:∃ o,s.heap.get? p=iJ o) (Y:j7 s.heap TI (.ref i1) (.ref i2)) (h1:S1 i s.heap) (h2:S2 i s.heap) (a:i < n1) (l:i < n2)
  (h:∀ x y h' tk,P1 i x->P2 i y->yt h' z TI TO p->S1 (i+1) h'->S2 (i+1) h'->j7 h' s.heap.objs.size x y ->(∀ c o,c≠z->c≠i1->c≠i2->s.heap.get? c=iJ o->h'.get? c=iJ o)->Q (iJ (.ref s.heap.objs.size)) { s with heap:=h',toks:=tk }):wpAny (model prog w) A (pyNext (.ref z)) Q E s:=by
 have hT:s.TypeIs (.ref z) "zip":=let ⟨_,e⟩:=hz; ⟨_,e,rfl⟩
 unfold pyNext;exact iK (k7 (iU (name:=ae "__next__") hT bD (iW bD hT dm
  (GB D M P hz hp Y h1 h2 a l λx y h' tk g f d m b k j=>iQ (h x y h' tk g f d m b k j)) (c9 _))))
theorem Ww {p:Nat} {Q:Option iM->iP->Prop} (D:Apart2 z TI TO i1 i2 fp1 fp2) (M:lG prog w A.in1 i1 fp1 n1 P1 S1) (P:lG prog w A.in1 i2 fp2 n2 P2 S2)
  (hz:yt s.heap z TI TO p) (hp:∃ o,s.heap.get? p=iJ o) (Y:j7 s.heap TI (.ref i1) (.ref i2)) (h1:S1 i s.heap) (h2:S2 i s.heap) (y:i=n1\/(i < n1/\i=n2))
  (a:∀ h' tk,(∀ c o,c≠z->c≠i1->c≠i2->s.heap.get? c=iJ o->h'.get? c=iJ o)->Q iL { s with heap:=h',toks:=tk }):wpAny (model prog w) A (pyNext (.ref z)) Q E s:=by
 have hT:s.TypeIs (.ref z) "zip":=let ⟨_,e⟩:=hz; ⟨_,e,rfl⟩
 unfold pyNext;refine iK (k7 (iU (name:=ae "__next__") hT bD (iW bD hT dm (qbm D M P hz hp Y h1 h2 y λh' tk e k h=>?_) (c9 _))));obtain ⟨o,m,d⟩:=h;refine iK (lf (T := "StopIteration") (b:=iO) ⟨o,m,d⟩ lM ?_);exact iQ (a _ _ k)
end
theorem ad {x y:Nat} (h:x < y\/y < x):x≠y:=by omega
structure ZG (xs ys:Array iM) (lo:Nat) (h:Heap) (as:List Addr):Prop where
 rise:as.Pairwise (· < ·)
 above:∀ a∈as,lo < a
 pairs:∀ (j:Nat) (a:Addr),as[j]?=iJ a->∃ x y,xs[j]?=iJ x/\ys[j]?=iJ y/\j7 h a x y
variable {xs ys:Array iM}
theorem ZG.mono {lo:Nat} {h:Heap} {as:List Addr} (g:ZG xs ys lo h as) (k:∀ c o,lo < c->h.get? c=iJ o->h'.get? c=iJ o):ZG xs ys lo h' as:=
 ⟨g.rise,g.above,λj a D=>by obtain ⟨x,y,e1,i,E⟩:=g.pairs j a D;exact ⟨x,y,e1,i,k _ _ (g.above a (cU D)) E⟩⟩
def ZSt (h:Heap) (b i:Nat) (as:List Addr):Prop:=(i=0/\lH h (b+4) (b+2) (b+3) .none/\∃ u v,j7 h (b+3) u v)\/∃ p,as[0]?=iJ p/\yt h (b+4) (b+2) (b+3) p
variable {a:Addr}
theorem ItK.at {h:Heap} {it:Addr} {k:SK} (x:ItK h it a k i) (f:∀ o,h.get? it=iJ o->h'.get? it=iJ o):ItK h' it a k i:=by obtain ⟨o,e,c,d⟩:=x.obj;exact .of ⟨o,f _ e,c,d⟩
section
variable {R:lS->iP->Prop}
theorem qbn {b z n S:Nat} {k1 k2:SK} {ys:Array iM} (hh:A.handled=iL) (h1:z < b) (h2:n < b) (hbS:b+4 < S) (hn:xs.size<=sizeLine) (res:iM) {h₁:Heap}
  (hR:∀ h' tk acc c as,(∀ q o,q < b->h₁.get? q=iJ o->h'.get? q=iJ o)->h'.get? S=iJ { cls:=.type "list",dict:=iL,data:=.seq acc c,slots:=#[] }->as.length=min xs.size ys.size->ZG xs ys S h' as ->acc.toList=as.map aM->R (.ok (.ret res)) { s with heap:=h',toks:=tk }) :
  ∀ (k i:Nat) (h:Heap) (tk c:Nat) (acc:Array iM) (as:List Addr),min xs.size ys.size - i=k->i<=min xs.size ys.size->ZSt h b i as->j7 h (b+2) (.ref b) (.ref (b+1))->ItK h b z k1 i->ItK h (b+1) n k2 i->SeqK h z k1 xs->SeqK h n k2 ys ->(∀ q o,q < b->h₁.get? q=iJ o->h.get? q=iJ o)->h.get? S=iJ { cls:=.type "list",dict:=iL,data:=.seq acc c,slots:=#[] }->acc.toList=as.map aM->as.length=i->ZG xs ys S h as ->codeAny (model prog w) A (.builtin "list.extend.loop" ⟨[.ref S,.ref (b+4),res],[]⟩) R { s with heap:=h,toks:=tk }:=by
 have D:=ZY b z n h1 h2;have D1:lG prog w A.in1.in1 b [b,z] xs.size (λi v=>xs[i]?=iJ v) (λi h=>ItK h b z k1 i/\SeqK h z k1 xs):=qb6 (A:=A.in1.in1) hh k1 b z (aG h1) xs;have D2:lG prog w A.in1.in1 (b+1) [b+1,n] ys.size (λi v=>ys[i]?=iJ v) (λi h=>ItK h (b+1) n k2 i/\SeqK h n k2 ys):=qb6 (A:=A.in1.in1) hh k2 (b+1) n (ad (by omega)) ys;intro k
 induction k with
 | zero=>
  intro i h tk c acc as hk hi K Y U T W V d hS l m G;have I:i=xs.size\/(i < xs.size/\i=ys.size):=by omega
  refine i8 PySem.F.entry_extend_loop ?_;rw [bv cm _];show wpAny _ A.in1 (pyNext (.ref (b+4)) >>= _) _ _ _;rcases K with ⟨_,hz,u,v,X⟩ | ⟨p,hp,hz⟩
  ·refine iK (Xf (s:={ s with heap:=h,toks:=tk }) D D1 D2 hz Y X ⟨U,W⟩ ⟨T,V⟩ I λh' t N=>?_);exact iQ (hR h' t acc c as (λq o h1 e=>N q o (ad (by omega)) (ad (by omega)) (ad (by omega)) (ad (by omega)) (d q o h1 e)) (N S _ (ad (by omega)) (ad (by omega)) (ad (by omega)) (ad (by omega)) hS) (by omega) (G.mono λc o hc e=>N c o (ad (by omega)) (ad (by omega)) (ad (by omega)) (ad (by omega)) e) l)
  ·have L:∃ o,h.get? p=iJ o:=by obtain ⟨x,y,_,_,e3⟩:=G.pairs 0 p hp;exact ⟨_,e3⟩
   refine iK (Ww (s:={ s with heap:=h,toks:=tk }) D D1 D2 hz L Y ⟨U,W⟩ ⟨T,V⟩ I λh' t N=>?_);exact iQ (hR h' t acc c as (λq o h1 e=>N q o (ad (by omega)) (ad (by omega)) (ad (by omega)) (d q o h1 e)) (N S _ (ad (by omega)) (ad (by omega)) (ad (by omega)) hS) (by omega) (G.mono λc o hc e=>N c o (ad (by omega)) (ad (by omega)) (ad (by omega)) e) l)
 | succ k ih=>
  intro i h tk c acc as hk hi K Y U T W V d hS l m G;have E:i < xs.size:=by omega
  have C:i < ys.size:=by omega
  have hsz:acc.size=i:=by rw [<-cG,l,am,m]
  have Z:S < h.objs.size:=ap hS;have step:∀ (x y:iM) (h':Heap) (t:Nat),xs[i]?=iJ x->ys[i]?=iJ y->(∀ B:List Addr,B[0]?=(as++[h.objs.size])[0]?->∃ p,B[0]?=iJ p/\yt h' (b+4) (b+2) (b+3) p)->(ItK h' b z k1 (i+1)/\SeqK h' z k1 xs)->(ItK h' (b+1) n k2 (i+1)/\SeqK h' n k2 ys)->j7 h' h.objs.size x y ->(∀ c o,c≠b+4->c≠b+3->c≠b->c≠b+1->h.get? c=iJ o->h'.get? c=iJ o) ->
    wpAny (model prog w) A.in1 (updateSeq S (·.push (aM h.objs.size)) >>= λ_=>again (.builtin "list.extend.loop" ⟨[.ref S,.ref (b+4),res],[]⟩))
     (λfin s'=>match fin with | .done f=>R (.ok f) s' | .again c'=>c'.quiet=iO/\codeAny (model prog w) A c' R s') (λe s'=>R (.error e) s') { s with heap:=h',toks:=t }:=by
   intro x y h' t ex ey hzz Q P r g;have hS':=g S _ (ad (by omega)) (ad (by omega)) (ad (by omega)) (ad (by omega)) hS;have up:∀ q o,q≠S->h'.get? q=iJ o->(h'.update S (bB (·.push (aM h.objs.size)))).get? q=iJ o:=λq o hq e=>(bH _ _ (aZ hq)).trans e;refine iK (lw hS' rfl (iQ ⟨lq cm _,ih (i+1) _ t _ (acc.push (aM h.objs.size)) (as++[h.objs.size]) (by omega) (by omega) ?_ (up _ _ (ad (by omega)) (g _ _ (ad (by omega)) (ad (by omega)) (ad (by omega)) (ad (by omega)) Y)) (Q.1.at λo e=>up _ o (ad (by omega)) e) (P.1.at λo e=>up _ o (ad (by omega)) e)
    (Q.2.at λo e=>up _ o (ad (by omega)) e) (P.2.at λo e=>up _ o (ad (by omega)) e) (λq o hq e=>up q o (ad (by omega)) (g q o (ad (by omega)) (ad (by omega)) (ad (by omega)) (ad (by omega)) (d q o hq e))) (aY _ hS' rfl) (by rw [fN,l,cQ]; rfl) (by rw [aj,m]; rfl) ⟨?_,?_,?_⟩⟩)
    (by rw [hsz]; omega) (by show (acc.push (aM h.objs.size)).size<=sizeLine+1; rw [Array.size_push]; omega))
   ·obtain ⟨p,hp,c',hz⟩:=hzz (as++[h.objs.size]) rfl;exact .inr ⟨p,hp,c',up _ _ (ad (by omega)) hz⟩
   ·refine List.pairwise_append.mpr ⟨G.rise,db _ _,λa O b' hb=>?_⟩;rw [aA.mp hb];obtain ⟨j,H⟩:=fh.mp O;obtain ⟨_,_,_,_,e⟩:=G.pairs j a H;exact ap e
   ·intro a O;rcases aJ.mp O with O | O;·exact G.above a O
    ·rw [aA.mp O]; exact Z
   ·intro j a H;rcases Nat.lt_trichotomy j as.length with g1 | g1 | g1
    ·rw [ck g1] at H;obtain ⟨x',y',e1,e2,e3⟩:=G.pairs j a H;have hb:=G.above a (cU H);exact ⟨x',y',e1,e2,up a _ (ad (by omega)) (g a _ (ad (by omega)) (ad (by omega)) (ad (by omega)) (ad (by omega)) e3)⟩
    ·subst g1;have hb:h.objs.size=a:=by simpa using H
     subst hb;exact ⟨x,y,by rw [m]; exact ex,by rw [m]; exact ey,up _ _ (cS Z) r⟩
    ·have M:(as++[h.objs.size])[j]?=none:=bP (by rw [aj,eZ]; omega);rw [M] at H; cases H
  refine i8 PySem.F.entry_extend_loop ?_;rw [bv cm _];show wpAny _ A.in1 (pyNext (.ref (b+4)) >>= _) _ _ _;rcases K with ⟨hi0,hz,u,v,X⟩ | ⟨p,hp,hz⟩
  ·have has:as=[]:=d9.mp (by omega);refine iK (Wq (s:={ s with heap:=h,toks:=tk }) D D1 D2 hz Y X ⟨U,W⟩ ⟨T,V⟩ E C λx y h' t p1 p2 J hTO' Q P r g=>?_);exact step x y h' t p1 p2 (λB e=>⟨h.objs.size,by rw [e,has]; rfl,iN,J⟩) Q P r λc o c1 c2 c3 c4 e=>g c o c1 c2 c3 c4 e
  ·have L:∃ o,h.get? p=iJ o:=by obtain ⟨x,y,_,_,e3⟩:=G.pairs 0 p hp;exact ⟨_,e3⟩
   refine iK (Vs (s:={ s with heap:=h,toks:=tk }) D D1 D2 hz L Y ⟨U,W⟩ ⟨T,V⟩ E C λx y h' t p1 p2 J Q P r g=>?_);exact step x y h' t p1 p2 (λB e=>⟨p,by rw [e]; cases as with | nil=>simp at hp | cons a as=>exact hp,J⟩) Q P r λc o c1 _ c3 c4 e=>g c o c1 c3 c4 e
end
theorem GC:typeLookup (.type "zip") "__len__"=pure none:=by rw [lv,lb]; kernel_rfl
theorem Xl:typeLookup (.type "zip") "__length_hint__"=pure none:=by rw [lv,lb]; kernel_rfl
section
theorem qbo (hT:s.TypeIs (.ref z) "zip") (h:Q iO s):wpAny (model prog w) A (dI (.ref z)) Q E s:=by unfold dI;refine iK (wpAny_specialOf hT GC ?_);show wpAny _ _ (specialOf (aM z) (ae "__length_hint__") >>= _) _ _ _;refine iK (wpAny_specialOf hT Xl ?_);exact iQ h
theorem qbp {b D C:Nat} {k1 k2:SK} {ys:Array iM} {Q:iM->iP->Prop} (M:A.handled=iL) (h1:D < b) (h2:C < b) (hsz:s.heap.objs.size=b+5) (K:xs.size<=sizeLine)
  (hz:lH s.heap (b+4) (b+2) (b+3) .none) (Y:j7 s.heap (b+2) (.ref b) (.ref (b+1))) (X:∃ u v,j7 s.heap (b+3) u v) (H:ItK s.heap b D k1 0) (G:ItK s.heap (b+1) C k2 0) (J:SeqK s.heap D k1 xs) (I:SeqK s.heap C k2 ys)
  (O:∀ h' tk acc c as,(∀ q o,q < b->s.heap.get? q=iJ o->h'.get? q=iJ o)->h'.get? (b+5)=iJ { cls:=.type "list",dict:=iL,data:=.seq acc c,slots:=#[] }->as.length=min xs.size ys.size->ZG xs ys (b+5) h' as->acc.toList=as.map aM->Q (.ref (b+5)) { s with heap:=h',toks:=tk }) :
  wpAny (model prog w) A (call (.type "list") [.ref (b+4)]) Q E s:=by
 refine callType_codes (Q₁:=λobj l=>obj=.ref s.heap.objs.size/\l={ s with heap:=s.heap.push { cls:=.type "list",data:=.seq #[] } }) PySem.F.called_list (PySem.F.typeCall_list_1 _) PySem.F.entry_list_init
  (code_list_new _ ⟨rfl,rfl⟩) λobj l h₁=>?_
 obtain ⟨rfl,rfl⟩:=h₁;have S:(s.heap.push { cls:=.type "list",data:=.seq #[] }).get? s.heap.objs.size=iJ { cls:=.type "list",data:=.seq #[] }:=ah _ rfl;rw [hsz] at S ⊢;refine ⟨⟨_,S,rfl⟩,PySem.F.args_list_init_2 _ _,?_⟩;show wpAny _ _ (do let old <-Builtin.List.listItems (.ref (b+5)); Builtin.List.listUpdate (.ref (b+5)) (λ_=>#[]); letGo old.toList.reverse; bX (.ref (b+5)) (.ref (b+4)) .none) _ _ _;refine iK ?_;unfold Builtin.List.listItems;refine iK (iY S rfl (iQ ?_));show wpAny _ _ (updateSeq (b+5) (λ_=>#[]) >>= λ_=>letGo (#[]:Array iM).toList.reverse >>= λ_=>bX (.ref (b+5)) (.ref (b+4)) .none) _ _ _;refine iK (lw S rfl ?_);have d:=aY (bB (λ_=>(#[]:Array iM))) S rfl;have k:∀ q o,q≠b+5->s.heap.get? q=iJ o->((s.heap.push { cls:=.type "list",data:=.seq #[] }).update (b+5) (bB (λ_=>(#[]:Array iM)))).get? q=iJ o:=
  λq o hq e=>(bH _ _ (aZ hq)).trans (aa _ e)
 refine iK (lU ?_);generalize (s.heap.push { cls:=.type "list",data:=.seq #[] }).update (b+5) (bB (λ_=>(#[]:Array iM)))=h₂ at d k;have g:lH h₂ (b+4) (b+2) (b+3) .none:=k _ _ (ad (by omega)) hz;have key:∀ (h:Heap) (i:Nat),(∀ q o,q≠b+5->h₂.get? q=iJ o->h.get? q=iJ o)->h.get? (b+5)=iJ { cls:=.type "list",data:=.seq #[] i }->codeAny (model prog w) A.in1 (.builtin "list.extend.loop" ⟨[.ref (b+5),.ref (b+4),.none],[]⟩) (wants (λr t=>r=bA/\Q (.ref (b+5)) t) E) { s with heap:=h }:=by
  intro h i m p;obtain ⟨u,v,X⟩:=X;refine qbn (A:=A.in1) (s:=s) (h₁:=s.heap) (k1:=k1) (k2:=k2) (xs:=xs) (ys:=ys) M h1 h2 (by omega) K .none (λh' y acc c as z B hl P x=>⟨rfl,O h' y acc c as z B hl P x⟩)
   (min xs.size ys.size) 0 h s.toks i #[] [] (Nat.sub_zero _) (bu _) (.inl ⟨rfl,m _ _ (ad (by omega)) g,u,v,m _ _ (ad (by omega)) (k _ _ (ad (by omega)) X)⟩) (m _ _ (ad (by omega)) (k _ _ (ad (by omega)) Y)) (H.at λo e=>m _ o (ad (by omega)) (k _ o (ad (by omega)) e)) (G.at λo e=>m _ o (ad (by omega)) (k _ o (ad (by omega)) e))
   (J.at λo e=>m _ o (ad (by omega)) (k _ o (ad (by omega)) e)) (I.at λo e=>m _ o (ad (by omega)) (k _ o (ad (by omega)) e)) (λq o hq e=>m q o (ad (by omega)) (k q o (ad (by omega)) e)) p rfl rfl ⟨dG,(λ_ N=>nomatch N),(λj a L=>by simp at L)⟩
 unfold bX;refine iK (lD (T := "zip") ⟨_,g,rfl⟩ ?_);have e1:cW (.ref (b+5)) (.ref (b+4))=false:=by simp [cW]
 have U:(df "zip" == df "list")=false:=by decide
 have R:(df "zip" == df "tuple")=false:=by decide
 simp only [e1,U,R,fW,cq,if_false];refine iK (wpAny_pyIter_zip g ?_);refine iK (i3 (qbo ⟨_,g,rfl⟩ ?_));rw [if_pos (by simp)];refine iK (lp ?_);refine iK ?_;show wpAny _ _ (updateSeq (b+5) (·.push .none) >>= λ_=>updateSeq (b+5) (·.pop)) _ _ _;refine iK (lw d rfl ?_);have f:=aY (bB (·.push bA)) d rfl;refine lw (hz:=by seq_fits) f rfl ?_;have n:=aY (bB (·.pop)) f rfl;refine iQ ⟨lq cm _,key _ _ (λq o hq e=>?_) n⟩;exact (bH _ _ (aZ hq)).trans ((bH _ _ (aZ hq)).trans e)
theorem GD {k1 k2:SK} {i l:Addr} {Q:iM->iP->Prop} (t:SeqK s.heap i k1 xs) (f:SeqK s.heap l k2 ys)
  (h:∀ h':Heap,h'.objs.size=s.heap.objs.size+5->lH h' (s.heap.objs.size+4) (s.heap.objs.size+2) (s.heap.objs.size+3) .none->j7 h' (s.heap.objs.size+2) (.ref s.heap.objs.size) (.ref (s.heap.objs.size+1)) ->j7 h' (s.heap.objs.size+3) .none .none->ItK h' s.heap.objs.size i k1 0->ItK h' (s.heap.objs.size+1) l k2 0->(∀ c o,s.heap.get? c=iJ o->h'.get? c=iJ o)->Q (.ref (s.heap.objs.size+4)) { s with heap:=h' }) :
  wpAny (model prog w) A (call (.type "zip") [.ref i,.ref l]) Q E s:=by
 refine callType_new PySem.F.called_zip (by decide) (PySem.F.typeCall_zip_2 _ _) (PySem.F.newCall_zip_2 _ _) (λobj=>PySem.F.args_object_init_3 obj _ _) PySem.F.entry_zip_new (ZV k1 k2 i l xs ys) ⟨t,f,?_⟩;have z1:(zH1 k1 s.heap i).objs.size=s.heap.objs.size+1:=br ..;have z2:(zH2 k1 k2 s.heap i l).objs.size=s.heap.objs.size+2:=by rw [br,z1]
 have a:(zH3 k1 k2 s.heap i l).objs.size=s.heap.objs.size+3:=by rw [br,z2]
 have z:(zH4 k1 k2 s.heap i l).objs.size=s.heap.objs.size+4:=by rw [br,a]
 have b:(zH5 k1 k2 s.heap i l).objs.size=s.heap.objs.size+5:=by rw [br,z]
 have g:(zH5 k1 k2 s.heap i l).get? (zH4 k1 k2 s.heap i l).objs.size=iJ _:=ah _ rfl;have L:(zH5 k1 k2 s.heap i l).get? (zH3 k1 k2 s.heap i l).objs.size=iJ _:=aa _ (ah _ rfl);have W:(zH5 k1 k2 s.heap i l).get? (zH2 k1 k2 s.heap i l).objs.size=iJ _:=aa _ (aa _ (ah _ rfl));have Y:(zH5 k1 k2 s.heap i l).get? (zH1 k1 s.heap i).objs.size=iJ _:=aa _ (aa _ (aa _ (ah _ rfl)));have g1:(zH5 k1 k2 s.heap i l).get? s.heap.objs.size=iJ _:=aa _ (aa _ (aa _ (aa _ (ah _ rfl))));show _/\_;rw [z2,a,z] at g;rw [z1,z2] at W;rw [a] at L;rw [z1] at Y;rw [z];exact ⟨⟨_,g,rfl⟩,h _ b g W L (.of ⟨_,g1,rfl,rfl⟩) (.of ⟨_,Y,rfl,rfl⟩) λc o x=>aa _ (aa _ (aa _ (aa _ (aa _ x))))⟩
end
theorem GE (g:Same F F'):∀ {xs ys:List V} {ds es:List D} {as:List Addr},IsL K F xs ds->IsL K F ys es->as.length=min xs.length ys.length ->(∀ (j:Nat) (a:Addr) (x y:V),as[j]?=iJ a->xs[j]?=iJ x->ys[j]?=iJ y->F' a=iJ (.tup [x,y]))->IsL K F' (as.map V.ref) (qb7 ds es)
 | _,_,_,_,[],.nil,_,_,_=>.nil
 | _,_,_,_,[],.cons _ _,.nil,_,_=>.nil
 | _,_,_,_,_::_,.nil,_,h,_=>by simp at h
 | _,_,_,_,_::_,.cons _ _,.nil,h,_=>by simp at h
 | _,_,_,_,[],.cons _ _,.cons _ _,h,_=>by simp at h
 | _,_,_,_,a::as,.cons (v:=x) h1 t1,.cons (v:=y) h2 t2,hl,hF=>
  .cons (.tup (.inl (.inl (hF 0 a x y rfl rfl rfl))) (.cons (h1.mono g) (.cons (h2.mono g) .nil))) (GE g t1 t2 (by simp only [aq] at hl; omega) λj a x y e1 i E=>hF (j+1) a x y e1 i E)
section
variable {H':Hp}
theorem Inv.grown {t':Nat} (I:Inv X pins σ H s) (k:∀ b u,s.heap.get? b=iJ u->h'.get? b=iJ u) (old:∀ b o,H b=iJ o->H' b=iJ o) (low:∀ b,b < s.heap.objs.size->H b=iL->H' b=iL)
  (new:∀ b o,H b=iL->H' b=iJ o->ObjOk X.prog X.w H' h' b o):Inv X pins σ H' { s with heap:=h',toks:=t' }:=by
 refine I.un ⟨λb u q _ _ _=>k b u q,λb u q _ _ _=>⟨u.slots,k b u q⟩,λb u q n _=>low b (ap q) n,λb u q _=>⟨u,k b u q⟩,λb xs q=>old _ _ q,λb u xs q=>old _ _ q,λb ps q=>⟨#[],by rw [old _ _ q]; simp⟩⟩ λb u e=>?_;cases q:H b with
 | none=>exact new b u q e
 | some o=>have:=old b o q;rw [e] at this;cases this;exact (I.hok b u q).stay (λc v _ q=>k c v q) (λc q=>old _ _ q) λc xs q=>old _ _ q
theorem qdM {xs:List V} (I:Inv X pins σ H s):∀ {k:SK},SqK X.K H a k xs->xs.length<=sizeLine
 | .l,h=>let ⟨_,_,_,z⟩:=I.list h; z
 | .t,h=>let ⟨_,_,_,z⟩:=I.tuple h; z
end
noncomputable def vK (x y:D):Out D:=(Qw x).bind λds=>(Qw y).bind λes=>.ok (.lst (qb7 ds es))
section
variable {a c:Expr} {fb:Sl->Out (D×Sl)} {mb:Mo} {pos p p2 pos2:Pos}
theorem Xm (hK:C.K=X.K) (hc:X.calm=iO) (hg:Gl X "list") (hm:X.mg "list"=iL) (hv:bootBuiltins "list"=iJ (.type "list")) (Z:Gl X "zip") (T:X.mg "zip"=iL) (ha:PE X a (tE C own ma fa)) (i:PE X c (tE C own mb fb)) (S:ma≠.any:=by decide)
  (hs:starEach [a,c] X.env=[(iN,eval a X.env),(iN,eval c X.env)]:=by exact qaK rfl rfl) (d:starEach [c] X.env=[(iN,eval c X.env)]:=by exact qI rfl)
  (m:starEach [.Call (.Name "zip" p2) [a,c] [] pos2] X.env=[(iN,eval (.Call (.Name "zip" p2) [a,c] [] pos2) X.env)]:=by exact qI rfl) :
  PE X (.Call (.Name "list" p) [.Call (.Name "zip" p2) [a,c] [] pos2] [] pos) (tE C own .fr (d2 vK fa fb)):=by
 refine ⟨?_⟩;intro pins s σ H Q I h;refine i9 (zb I hg hm hv ?_ (by decide) (by decide));refine bW ?_ (by rw [m]; rfl) rfl;rw [m];show wpAny _ _ (spliced ((iN,eval (.Call (.Name "zip" p2) [a,c] [] pos2) X.env)::[])) _ _ s;refine fF ?_;refine i9 (zb I Z T ZZ ?_ (by decide) (by decide));refine bW (thn ((qK ha (qK i jI d) (by rw [hs,d])) pos2 pins s σ H _ I (UC (mb:=mb) S h)) λus s1 ⟨vs,H1,k,r1,q1⟩=>?_) (by rw [hs,d]) (by rw [d]; rfl);obtain ⟨x,y,F,dx,dy,rfl,B,tx,ty,po⟩:=q1;obtain ⟨u1,u2,rfl,e1,e2⟩:=XO r1;cases n1:Qw dx with
 | exc c' o=>unfold vK at po; rw [n1] at po; cases dx <;> cases n1
 | bad=>unfold vK at po; rw [n1] at po; exact po.elim
 | ok ds=>
  cases n2:Qw dy with
  | exc c' o=>unfold vK at po; rw [n1,n2] at po; cases dy <;> cases n2
  | bad=>unfold vK at po; rw [n1,n2] at po; exact po.elim
  | ok es=>
   have po:PoV C .fr F H1 (.ok (.lst (qb7 ds es))) Q:=by unfold vK at po; rw [n1,n2] at po; exact po
   obtain ⟨a1,k1,xs,rfl,A,O⟩:=UJ B tx n1;obtain ⟨a2,k2,ys,rfl,w2,M⟩:=UJ B ty n2;rw [hK] at A w2;cases e1;cases e2;obtain ⟨L,v1,p1⟩:=ZX k A;obtain ⟨N,v2,p2⟩:=ZX k w2;refine GD p1 p2 λh' hsz hz hTI hTO t1 t2 kp=>?_;refine fK ?_;have t:L.length=xs.length:=v1.length.symm;have W:N.length=ys.length:=v2.length.symm;have hn:xs.length<=sizeLine:=qdM k A;refine qbp (s:={ s1 with heap:=h' }) (b:=s1.heap.objs.size) (I.ok.hd hc) p1.lt p2.lt hsz (by rw [au,t]; exact hn) hz hTI ⟨_,_,hTO⟩ t1 t2 (p1.at λo e=>kp _ o e) (p2.at λo e=>kp _ o e) λh1 tk acc e' as J hp f G r=>?_;have E:∀ b o,s1.heap.get? b=iJ o->h1.get? b=iJ o:=λb o eb=>J b o (ap eb) (kp b o eb);have f:as.length=min xs.length ys.length:=by rw [f,au,au,t,W]
   have R:as.Nodup:=G.rise.imp λz=>aG z;have D:∀ q∈as.zip (dn (λx y=>[x,y]) xs ys),s1.heap.objs.size<=q.1:=λq hq=>by have:=G.above _ (cM hq).1;exact cH (Nat.lt_of_le_of_lt (fm _ 5) this)
   have hB:s1.heap.objs.size+5∉as:=λz=>bQ _ (G.above _ z);have w:∀ q∈as.zip (dn (λx y=>[x,y]) xs ys),H1 q.1=none:=λq hq=>k.hok.fresh (D q hq);have g:H1 (s1.heap.objs.size+5)=none:=k.hok.fresh (fm _ _);have P:Qr H1 (as.zip (dn (λx y=>[x,y]) xs ys)) (s1.heap.objs.size+5)=none:=by refine (zN λq hq z=>hB ?_).trans g;rw [<-z];exact (cM hq).1
   obtain ⟨s2,c2⟩:=UW (l:=as.zip (dn (λx y=>[x,y]) xs ys)) B w;obtain ⟨s3,c3,f3⟩:=vt (u:=.lst (as.map V.ref)) s2 P;have zw:∀ (j:Nat) (x y:V),xs[j]?=iJ x->ys[j]?=iJ y->(dn (λx y=>[x,y]) xs ys)[j]?=iJ [x,y]:=λj x y e1 e2=>by rw [List.getElem?_zipWith,e1,e2]
   have il:=GE (as:=as) c2.grow O M f λj b x y Y U j3=>by unfold Qr;rw [GA R Y (zw j x y U j3)]
   have I3:Inv X pins σ (upd (Qr H1 (as.zip (dn (λx y=>[x,y]) xs ys))) (s1.heap.objs.size+5) (.lst (as.map V.ref))) { s1 with heap:=h1,toks:=tk }:=by
    refine Inv.grown k E (λb o e=>?_) (λb i e=>?_) λb o n e=>?_;·rw [qw (qE e g)];exact kr w e
    ·rw [qw (aG (aI i (fm _ _))),zN λq hq z=>?_];·exact e
     ·exact absurd i (by rw [<-z]; exact Nat.not_lt.mpr (D q hq))
    ·by_cases i:b=s1.heap.objs.size+5;·subst i;rw [qo] at e;cases e;exact ⟨by rw [am,f]; omega,as.map aM,e',gK as,by rw [hp,show acc=(as.map aM).toArray by rw [<-r,Array.toArray_toList]]⟩
     ·rw [qw i] at e;unfold Qr at e;cases q:(as.zip (dn (λx y=>[x,y]) xs ys)).lookup b with
      | none=>rw [q,n] at e; cases e
      | some zs=>rw [q] at e;cases e;obtain ⟨j,Y,U⟩:=Gz q;obtain ⟨u,v,g1,g2,g3⟩:=G.pairs j b Y;obtain ⟨x,x1,x2⟩:=gy v1 (by simpa using g1);obtain ⟨y,y1,y2⟩:=gy v2 (by simpa using g2);rw [zw j x y x1 y1] at U;cases U;exact ⟨⟨by show 2<=_; rw [iT]; decide,_,g3,rfl⟩,[u,v],.cons x2 (.cons y2 .nil),_,g3,rfl,_,rfl⟩
   exact ⟨.ref (s1.heap.objs.size+5),_,I3,rfl,po _ _ _ s3 (c2.trans' c3) ⟨_,rfl,g,f3,_,qo,il⟩⟩
end
end L2.D2
namespace L2.D2
open PySem PySem.Spec PyProof.Rows
noncomputable def JC (c:Addr) (n:Str):Option (Option D)->Bool
 | some (iJ (.ins k fs))=>decide (k=c)&&(fs.lookup n).isNone
 | _=>iN
noncomputable def qO (c:Addr) (i:Nat) (n:Str) (as:List AK) (G:List D->Out (D×List D)) (fr:Sl->Out (List D×Sl)):Sl->Out (D×Sl):=λρ=>if JC c n ρ[i]?=iO then qx (.sl i::as) G (kA fr) ρ else .bad
variable {X:Cx} {C:Ct} {own:List Nat}
section
variable {as:List AK} {mr:Mo} {e:Expr} {es:List Expr} {fr:Sl->Out (List D×Sl)} {n x:Str} {pos apos px:Pos} {c:Addr} {G:List D->Out (D×List D)} {ms:List PM} {ps:List Str} {i k j:Nat} {cv:Str->iM}
theorem UZ {σ:St} {H:Hp} {Q:VK} (m:i∈own) (o:∀ i∈C.ox,i∈own) (hs:∀ j∈qS (.sl i::as),j∈own) (nd:(qS (.sl i::as)).Nodup) (f:frA (.sl i::as)<=1) (h:tE C own mr (qO c i n as G fr) σ H Q):∃ a dx fv,σ[i]?=iJ (iJ (.ref a))/\H a=iJ (.ins c dx fv)/\fv.lookup n=iL/\tAr C own as fr σ H λvs H1=>spD C.K C.cv ((AK.sl i::as).map xz) mr G (.ref a::vs++[]) H1 Q C.E:=by
 obtain ⟨F,ρ,p,h⟩:=h;obtain ⟨d,hd⟩:=p.opn i m;obtain ⟨a,h1,h2,h3⟩:=p.ow i d m hd;unfold qO at h;rw [hd] at h;cases d with
 | ins k fs=>
  by_cases z:JC c n (iJ (iJ (.ins k fs)))=iO;·rw [if_pos z] at h;have z:(decide (k=c)&&(fs.lookup n).isNone)=true:=z;rw [aP] at z;obtain ⟨z1,z2⟩:=z;have z1:=of_decide_eq_true z1;subst z1;obtain ⟨dx,fv,g,t⟩:=h3;refine ⟨a,dx,fv,h1,g,t.non (by cases q:fs.lookup n with | none=>rfl | some y=>rw [q] at z2; cases z2),?_⟩;obtain ⟨F',ρ',r,h'⟩:=We (as:=.sl i::as) o hs nd f ⟨F,ρ,p,h⟩;exact ge (a:=.sl i) (v:=.ref a) (λx z=>(r.OA_there z).1) r .refl h' λe H2 vs ds c2 b=>⟨h1,rfl,b⟩
  ·rw [if_neg z] at h;exact h.elim
 | _=>exact h.elim
theorem Yb {pl:Sem Bool} (u:Cls X.K c) (F:zi X.prog X.w X.K X.mg X.base cv j c n ps ms mr G) (r:Room k X.A) (D:j<=k) (hx:kB (CXk X.prog X.w) X C.E) (B:X.N[i]?=iJ x) (b:Vis X.env.scope x) (p:i∈own) (z:PA X (e::es) (tAr C own as fr)) (v:C.cv=cv:=by rfl) (I:C.K=X.K:=by rfl) (s:ms=(AK.sl i::as).map xz:=by rfl)
  (hs:∀ j∈qS (.sl i::as),j∈own:=by decide) (nd:(qS (.sl i::as)).Nodup:=by decide) (q:frA (.sl i::as)<=1:=by decide) (o:∀ i∈C.ox,i∈own:=by exact kU rfl) (hd:(x == ("__debug__":Str))=false:=by decide) (d:(x == ("__classdict__":Str))=false:=by decide)
  (t:starEach (e::es) X.env=(iN,eval e X.env)::starEach es X.env:=by exact jp rfl) (l:(backTo pos (starEach es X.env)).any (·.1)=false:=by exact wF rfl)
  (m:eval (.Call (.Attribute (.Name x px) n apos) (e::es) [] pos) X.env=(do
   let ov <-eval (.Name x px) X.env
   standAt apos.atName
   let (f,first) <-holding [ov] (getMethod ov n pl)
   callWith pos f first (backTo pos (starEach (e::es) X.env)) (backToKw pos (keywordEach [] X.env))):=by rfl):PE X (.Call (.Attribute (.Name x px) n apos) (e::es) [] pos) (tE C own mr (qO c i n as G fr)):=by
 subst v s;obtain ⟨f,fd,F0,M,y⟩:=F;refine jF (qcN (pl:=pl) (um B b hd d) u M F0 (r.mono D) y .nil hx z t l m) λσ H Q h=>?_;obtain ⟨a,dx,fv,h1,h2,h3,g⟩:=UZ p o hs nd q h;rw [I] at g;exact ⟨_,h1,a,dx,fv,rfl,h2,h3,g⟩
theorem jq {pl:Sem Bool} (p:Cls X.K c) (F:zi X.prog X.w X.K X.mg X.base cv j c n ps ms mr G) (g:Room k X.A) (D:j<=k) (hx:kB (CXk X.prog X.w) X C.E) (t:X.N[i]?=iJ x) (b:Vis X.env.scope x) (m:i∈own) (v:C.cv=cv:=by rfl) (u:C.K=X.K:=by rfl) (s:ms=[.io]:=by rfl)
  (o:∀ i∈C.ox,i∈own:=by exact kU rfl) (hd:(x == ("__debug__":Str))=false:=by decide) (d:(x == ("__classdict__":Str))=false:=by decide)
  (l:eval (.Call (.Attribute (.Name x px) n apos) [] [] pos) X.env=(do
   let ov <-eval (.Name x px) X.env
   standAt apos.atName
   let (f,first) <-holding [ov] (getMethod ov n pl)
   callWith pos f first (backTo pos (starEach [] X.env)) (backToKw pos (keywordEach [] X.env))):=by rfl):PE X (.Call (.Attribute (.Name x px) n apos) [] [] pos) (tE C own mr (qO c i n [] G qB)):=by
 subst v s;obtain ⟨f,fd,F0,M,q⟩:=F;refine jF (qaD (pl:=pl) (um t b hd d) p M F0 (g.mono D) q .nil hx l) λσ H Q h=>?_;obtain ⟨a,dx,fv,h1,h2,h3,F',ρ',r,e⟩:=UZ (as:=[]) m o (λj D=>by
  rcases ac.mp D with rfl | D;·exact m
  ·cases D) (by simp [qS]) (by simp [frA]) h
 rw [u] at e;exact ⟨_,h1,a,dx,fv,rfl,h2,h3,e [] F' H r .refl trivial⟩
end
section
variable {fa fb:Sl->Out (D×Sl)}
theorem qbq {i j:Nat} {x y:Str} {a b:Expr} {px py pt pos g:Pos} {kt k2} (hc:X.calm=iO) (hN:X.N.Nodup) (hi:X.N[i]?=iJ x) (hj:X.N[j]?=iJ y) (hx:X.env.scope.names.lookup x=iJ .local) (hy:X.env.scope.names.lookup y=iJ .local) (h1:PE X a (tE C own .fr fa)) (h2:PE X b (tE C own .fr fb))
  (n:i≠j:=by decide) (Z:i∉own:=by decide) (Y:j∉own:=by decide) (ii:i∉C.io:=by exact QK rfl) (ij:j∉C.io:=by exact QK rfl)
  (hw:swappedStores [.Tuple [.Name x px,.Name y py] kt pt] (.Tuple [a,b] k2 g) X.env=pure (iJ [x,y]):=by rfl) (hs:swapsWithSole [.Tuple [.Name x px,.Name y py] kt pt] (.Tuple [a,b] k2 g) pos.line X.env=pure false:=by rfl)
  (M:starEach [a,b] X.env=(iN,eval a X.env)::starEach [b] X.env:=by exact jp rfl) (L:starEach [b] X.env=(iN,eval b X.env)::starEach [] X.env:=by exact jp rfl) :
  PS X (.Assign [.Tuple [.Name x px,.Name y py] kt pt] (.Tuple [a,b] k2 g) pos) (tSt C own (j::i::own) (qgK i j (qd fa (qd fb qB)))):=by
 refine Qu (qeH hc hN hi hj n hx hy (qK h1 (qK h2 jI L) M) hw hs) λD σ H ⟨F,ρ,U,h⟩=>⟨F,ρ,U,?_⟩
 unfold qgK qd at h;cases q:fa ρ with
 | exc c o=>rw [q] at h; exact h
 | bad=>rw [q] at h; exact h.elim
 | ok p=>
  obtain ⟨d,ρ1⟩:=p;rw [q,Out.oh] at h;intro v F1 H1 m P J;obtain ⟨a,rfl,V,aF,S⟩:=J;refine ⟨F1,ρ1,m,?_⟩;cases A:fb ρ1 with
  | exc c o=>simp only [A] at h;have h:PoS C own (j::i::own) σ F H (.exc c o) D:=h;exact λF' H' W io cc=>h F' H' W io (P.trans' cc)
  | bad=>simp only [A] at h; exact h.elim
  | ok p2=>
   obtain ⟨e,ρ2⟩:=p2;simp only [A] at h;have h:PoS C own (j::i::own) σ F H (if i < ρ2.length/\j < ρ2.length then .ok (.nx,(ρ2.set i (iJ d)).set j (iJ e)) else .bad) D:=h;intro w s H2 r c2 I;obtain ⟨b,rfl,Q,bF,bo⟩:=I;by_cases z:i < ρ2.length/\j < ρ2.length
   ·rw [if_pos z] at h;have G:¬OA own σ a:=λy=>(U.OA_there y).1 V;have nB:¬OA own σ b:=λy=>(m.OA_there y).1 Q;have O:a≠b:=λy=>S.there (by rw [y]; exact Q);have R:OwnIs C.K s H2 a d:=S.grow c2.grow λo e=>c2.keep a o e G;have T:s a=none:=by
     cases B:s a with
     | none=>rfl
     | some u=>
      rcases c2.new a (by rw [B]; simp) with z | z | z;·exact absurd aF z
      ·exact absurd z S.there
      ·exact absurd z G
    have r1:=r.putO z.1 T G R;rw [uU Z] at r1;have E:¬OA (i::own) (σ.set i (iJ (.ref a))) b:=λ⟨k,l,f⟩=>by
     by_cases y:k=i;·rw [y,aD (by rw [r.len]; exact z.1)] at f;cases f;exact O rfl
     ·rw [ai (aZ y)] at f;exact nB ⟨k,(ac.mp l).resolve_left y,f⟩
    have r2:=r1.putO (i:=j) (by rw [dt]; exact z.2) bF E bo;rw [uU (own:=i::own) (λy=>by
     rcases ac.mp y with y | y;·exact n y.symm
     ·exact Y y)] at r2
    refine ⟨.ref a,.ref b,rfl,h _ s H2 ⟨r2,P.trans' c2,λx ⟨k,l,f⟩=>?_,λk l=>?_⟩⟩
    ·by_cases y:k=j
     ·rw [y,aD (by rw [dt,r.len]; exact z.2)] at f;cases f;refine .inr ?_;cases B:H b with
      | none=>rfl
      | some u=>exact absurd Q (P.stay b (by rw [B]; simp))
     ·rw [ai (aZ y)] at f;by_cases t:k=i;·rw [t,aD (by rw [r.len]; exact z.1)] at f;cases f;exact .inr V
      ·rw [ai (aZ t)] at f;exact .inl ⟨k,(ac.mp ((ac.mp l).resolve_left y)).resolve_left t,f⟩
    ·rw [ai (λz=>ij (by rw [z]; exact l)),ai (λz=>ii (by rw [z]; exact l))]
   ·rw [if_neg z] at h; exact h.elim
end
end L2.D2
set_option maxHeartbeats 4000000
namespace Kx
open PySem PySem.Spec PyProof.Rows L2 L2.D2
noncomputable def top (i:Nat):Stmt:=PySem.Challenge.pw_lookwords_k37_whole_two_lists.main.body.getD i (.Pass ⟨0,0,0,0⟩)
noncomputable def CS:List Str:=["NoWords", "NoLook", "NoNumbers", "NoRoom", "NoWord", "NoWorths", "Never", "Full", "Known", "NoPlace", "NoLetters", "NoText", "Nothing"]
noncomputable def FS:List Str:=[]
structure Zt (K:Frag) (mg:Str->Option iM) (cv:Str->iM) (ca:Str->Addr):Prop where
 xs:Xs K cv ca CS "WordError"
 mref:∀ c∈CS,mg c=iJ (.ref (ca c))
 xin:∀ c∈CS,dW K (ca c) bmV "ValueError.__new__"=iO
 fref:∀ x∈FS,mg x=iJ (.ref (ca x))
 m_WordError:mg "WordError"=iJ (cv "WordError")
 z_ValueError:mg "ValueError"=iL
 z_all:mg "all"=iL
 z_bool:mg "bool"=iL
 z_dict:mg "dict"=iL
 z_enumerate:mg "enumerate"=iL
 z_int:mg "int"=iL
 z_isinstance:mg "isinstance"=iL
 z_len:mg "len"=iL
 z_list:mg "list"=iL
 z_max:mg "max"=iL
 z_min:mg "min"=iL
 z_range:mg "range"=iL
 z_set:mg "set"=iL
 z_sorted:mg "sorted"=iL
 z_str:mg "str"=iL
 z_sum:mg "sum"=iL
 z_tuple:mg "tuple"=iL
 z_zip:mg "zip"=iL
 c_LEAST_PLACE:∃ t,mg "LEAST_PLACE"=iJ (.int (-3) t)
 c_MOST_LETTERS:∃ t,mg "MOST_LETTERS"=iJ (.int 6 t)
 c_MOST_PLACE:∃ t,mg "MOST_PLACE"=iJ (.int 2 t)
 c_MOST_ROOM:∃ t,mg "MOST_ROOM"=iJ (.int 99 t)
 c_MOST_WORDS:∃ t,mg "MOST_WORDS"=iJ (.int 6 t)
 m_Words:mg "Words"=iJ (.ref (ca "Words"))
 b_cls:Cls K (ca "Words")
 b_no:∀ f∈(["look", "came", "width", "held"]:List Str),NoAttr K (ca "Words") f
theorem JD:bootBuiltins "ValueError"=iJ (.type "ValueError"):=by decide +kernel
theorem gL:bootBuiltins "all"=iJ (.builtin "all"):=by decide +kernel
theorem qdN:bootBuiltins "bool"=iJ (.type "bool"):=by decide +kernel
theorem Wx:bootBuiltins "dict"=iJ (.type "dict"):=by decide +kernel
theorem qce:bootBuiltins "int"=iJ (.type "int"):=by decide +kernel
theorem qv:bootBuiltins "isinstance"=iJ (.builtin "isinstance"):=by decide +kernel
theorem ku:bootBuiltins "len"=iJ (.builtin "len"):=by decide +kernel
theorem Wy:bootBuiltins "list"=iJ (.type "list"):=by decide +kernel
theorem qfN:bootBuiltins "max"=iJ (.builtin "max"):=by decide +kernel
theorem qfO:bootBuiltins "min"=iJ (.builtin "min"):=by decide +kernel
theorem qbr:bootBuiltins "range"=iJ (.type "range"):=by decide +kernel
theorem GF:bootBuiltins "set"=iJ (.type "set"):=by decide +kernel
theorem gM:bootBuiltins "sorted"=iJ (.builtin "sorted"):=by decide +kernel
theorem qcf:bootBuiltins "str"=iJ (.type "str"):=by decide +kernel
theorem GG:bootBuiltins "sum"=iJ (.builtin "sum"):=by decide +kernel
theorem wK:bootBuiltins "tuple"=iJ (.type "tuple"):=by decide +kernel
instance {α:Type}:Inhabited (Out α):=⟨.bad⟩
section
variable {P:iR} {w:iS} {K:Frag} {mg:Str->Option iM} {base:Heap} {cv:Str->iM} {ca:Str->Addr}
abbrev jZ:Stmt:=xD (top 53) 2
abbrev zj:List Str:=["self"]
theorem JE:FnScope zj ["self"] (qc jZ):=fsc
noncomputable def uA (ca:Str->Addr):Sl->Out (Fl×Sl):=(jL (d1 (Qz (ca "Words") "width") (qe 0)))
noncomputable abbrev jD (ca:Str->Addr):List D->Out (D×List D):=ky zj [.io] (uA ca)
abbrev xg (ca:Str->Addr) P w K mg base cv:=zi P w K mg base cv 1 (ca "Words") "room" ["self"] [.io] .sh (jD ca)
theorem JF (Z:Zt K mg cv ca) (T:gH K (ca "Words") "room" "Words.room" jZ ["self"]):xg ca P w K mg base cv:=
 gI (k:=0) (own':=[0]) (fb:=uA ca) T JE λcdv f A outer s H E c=>(ql (qp (yq rfl Z.b_cls (Z.b_no "width" (by decide +kernel)) (jQ (i:=0) rfl (ay rfl) (by decide)))))
abbrev vL:Stmt:=top 21
abbrev zk:List Str:=["thing", "least", "most"]
theorem JG:FnScope zk ["thing", "least", "most"] (qc vL):=fsc
noncomputable def vM:Sl->Out (Fl×Sl):=(qL (sIf (dOr (yn (uu (d1 (xA "int") (qe 0)))) (uu (d1 (xA "bool") (qe 0)))) (jL (dC (.bl iN))) jk)
  (jL (yR leD leD (qe 1) (qe 0) (qe 2))))
noncomputable abbrev ka:List D->Out (D×List D):=ky zk [.val,.val,.val] (vM)
abbrev kY P w K mg base cv:=DefOk P w K mg base cv 1 "is_between" ["thing", "least", "most"] [.val,.val,.val] .sh (ka)
theorem JH (Z:Zt K mg cv ca) (T:jC K mg "is_between" vL ["thing", "least", "most"]):kY P w K mg base cv:=
 qM (k:=0) (own':=[]) (fb:=vM) T JG λcdv f A outer s H E c=>(qf (qW (PW.pt (zd (je (qV rfl (yZ rfl rfl Z.z_isinstance qv rfl Z.z_int qce (vr 0)) (λ_=>rfl))) (wa (qV rfl (yZ rfl rfl Z.z_isinstance qv rfl Z.z_bool qdN (vr 0)) (λ_=>rfl))))) (ql (qp ut)) qH)
  (ql (qp (Ut KM KM (vr 1) (vr 0) (vr 2)))))
abbrev wt:Stmt:=top 25
abbrev gN:List Str:=["thing"]
theorem Xn:FnScope gN ["thing"] (qc wt):=fsc
noncomputable def gO:Sl->Out (Fl×Sl):=(qL (sIf (dOr (yn (uu (d1 (xA "tuple") (qe 0)))) (jb (d2 neD (d1 kM (qe 0)) (dC (.int 2))))) (jL (dC (.bl iN))) jk)
  (jL (d1 UD (jl [] 1 [] (jK (qe 0)) (gNm 0) ftT (qx [.vl,.vl,.vl] ka (qd (qe 0) (qd (dC (.int (-3))) (qd (dC (.int 2)) qB))))))))
noncomputable abbrev gP:List D->Out (D×List D):=ky gN [.val] (gO)
abbrev QY P w K mg base cv:=DefOk P w K mg base cv 2 "is_look" ["thing"] [.val] .sh (gP)
theorem Xo (Z:Zt K mg cv ca) (T:jC K mg "is_look" wt ["thing"]) (o:kY P w K mg base cv):QY P w K mg base cv:=
 qM (k:=1) (own':=[]) (fb:=gO) T Xn λcdv f A outer s H E c=>(qf (qW (PW.pt (zd (je (qV rfl (yZ rfl rfl Z.z_isinstance qv rfl Z.z_tuple wK (vr 0)) (λ_=>rfl))) (wa (qT (YR rfl c.units) (qF (kC rfl) rfl Z.z_len ku (vr 0)) qy)))) (ql (qp ut)) qH)
  (ql (qp (qF (gl rfl rfl) rfl Z.z_all gL (jM (N:=["place"]) (nt:=1) (cap:=[]) rfl (wb (names:=(qc wt).names) rfl (by decide +kernel)) (jS (names:=(qc wt).names) (N:=gN) rfl rfl (by decide +kernel)) (qP rfl (vr 0)) (λfp L s1 H1=>(qC (i:=0) (show bj (["place"]:List Str) from by decide +kernel) rfl (ay rfl))) (λfp L s1 H1=>jj) (λfp L s1 H1=>(qr o c (by decide) xH rfl (qb (vr 0) (qb (uW Z.c_LEAST_PLACE rfl) (qb (uW Z.c_MOST_PLACE rfl) qg))))))))))
abbrev vN:Stmt:=top 30
abbrev zl:List Str:=["thing"]
theorem JI:FnScope zl ["thing"] (qc vN):=fsc
noncomputable def uB:Sl->Out (Fl×Sl):=(sIf (yn (uu (qx [.vl] gP (qd (qe 0) qB)))) (jR "NoLook" (qd (dC (.str "a look is a tuple of two places from -3 to 2")) qB)) jk)
noncomputable abbrev vO:List D->Out (D×List D):=ky zl [.val] (uB)
abbrev wL P w K mg base cv:=DefOk P w K mg base cv 3 "check_look" ["thing"] [.val] .sh (vO)
theorem JJ (Z:Zt K mg cv ca) (T:jC K mg "check_look" vN ["thing"]) (O:QY P w K mg base cv):wL P w K mg base cv:=
 qM (k:=2) (own':=[]) (fb:=uB) T JI λcdv f A outer s H E c=>(ql (qW (je (qV rfl (qr O c (by decide) qJ rfl (qb (vr 0) qg)) (λ_=>rfl))) (ql (ko rfl (xa rfl) rfl rfl (Z.mref "NoLook" (by decide +kernel)) (Z.xs.val "NoLook" (by decide +kernel)) (Z.xin "NoLook" (by decide +kernel)) (qb vk qg))) qH))
abbrev jo:Stmt:=xD (top 53) 0
abbrev uh:List Str:=["self", "look"]
theorem xK:FnScope uh ["self", "look"] (qc jo):=fsc
noncomputable def kS (ca:Str->Addr):Sl->Out (Fl×Sl):=(qL (kz (qx [.vl] vO (qd (qe 1) qB)))
  (qL (gG (ca "Words") 0 "look" (qe 1))
  (qL (gG (ca "Words") 0 "came" (xE qB))
  (qL (gG (ca "Words") 0 "width" (dC (.int 0)))
  (gG (ca "Words") 0 "held" (xE qB))))))
noncomputable abbrev jT (ca:Str->Addr):List D->Out (D×List D):=ky uh [.io,.val] (kS ca)
abbrev wu (ca:Str->Addr) P w K mg base cv:=Gs P w K mg base cv 4 (ca "Words") ["self", "look"] [.io,.val] (jT ca)
theorem xL (Z:Zt K mg cv ca) (T:qdH K (ca "Words") "Words.__init__" jo ["self", "look"]) (o:wL P w K mg base cv):wu ca P w K mg base cv:=
 qdI (k:=3) (own':=[0]) (fb:=kS ca) T xK λcdv f A outer s H E c=>(qf (ji (qr o c (by decide) qJ rfl (qb (vr 1) qg)))
  (qf (yI rfl Z.b_cls (Z.b_no "look" (by decide +kernel)) (i:=0) rfl (ay rfl) (by decide) (vr 1))
  (qf (yI rfl Z.b_cls (Z.b_no "came" (by decide +kernel)) (i:=0) rfl (ay rfl) (by decide) (vn qg))
  (qf (yI rfl Z.b_cls (Z.b_no "width" (by decide +kernel)) (i:=0) rfl (ay rfl) (by decide) qy)
  (ql (yI rfl Z.b_cls (Z.b_no "held" (by decide +kernel)) (i:=0) rfl (ay rfl) (by decide) (vn qg)))))))
abbrev jx:Stmt:=xD (top 53) 6
abbrev uC:List Str:=["self"]
theorem zB:FnScope uC ["self"] (qc jx):=fsc
noncomputable def vD (ca:Str->Addr):Sl->Out (Fl×Sl):=(jL (d2 vK (d1 (Qz (ca "Words") "came") (qe 0)) (d1 (Qz (ca "Words") "held") (qe 0))))
noncomputable abbrev qA (ca:Str->Addr):List D->Out (D×List D):=ky uC [.io] (vD ca)
abbrev ui (ca:Str->Addr) P w K mg base cv:=zi P w K mg base cv 1 (ca "Words") "numbers" ["self"] [.io] .sh (qA ca)
theorem zD (Z:Zt K mg cv ca) (T:gH K (ca "Words") "numbers" "Words.numbers" jx ["self"]):ui ca P w K mg base cv:=
 gI (k:=0) (own':=[0]) (fb:=vD ca) T zB λcdv f A outer s H E c=>(ql (qp (Xm rfl rfl rfl Z.z_list Wy rfl Z.z_zip (yq rfl Z.b_cls (Z.b_no "came" (by decide +kernel)) (jQ (i:=0) rfl (ay rfl) (by decide))) (yq rfl Z.b_cls (Z.b_no "held" (by decide +kernel)) (jQ (i:=0) rfl (ay rfl) (by decide))))))
abbrev jO:Stmt:=xD (top 53) 1
abbrev xh:List Str:=["self"]
theorem QA:FnScope xh ["self"] (qc jO):=fsc
noncomputable def wM (ca:Str->Addr):Sl->Out (Fl×Sl):=(jL (d1 (Qz (ca "Words") "came") (qe 0)))
noncomputable abbrev jr (ca:Str->Addr):List D->Out (D×List D):=ky xh [.io] (wM ca)
abbrev yu (ca:Str->Addr) P w K mg base cv:=zi P w K mg base cv 1 (ca "Words") "words" ["self"] [.io] .sh (jr ca)
theorem QB (Z:Zt K mg cv ca) (T:gH K (ca "Words") "words" "Words.words" jO ["self"]):yu ca P w K mg base cv:=
 gI (k:=0) (own':=[0]) (fb:=wM ca) T QA λcdv f A outer s H E c=>(ql (qp (yq rfl Z.b_cls (Z.b_no "came" (by decide +kernel)) (jQ (i:=0) rfl (ay rfl) (by decide)))))
abbrev uZ:Stmt:=top 55
abbrev QZ:List Str:=["_law_script", "_law_k"]
theorem Wz:FnScope QZ ["_law_script", "_law_k"] (qc uZ):=fsc
noncomputable def wv:Sl->Out (Fl×Sl):=(qL (sIf (jb (d2 ltD (qe 1) (d1 kM (qe 0)))) (jL (d2 ixD (qe 0) (qe 1))) jk)
  (qL (sIf (jb (d2 eqD (qe 0) (Qq qB))) (jL (dC (.int 0))) jk)
  (jL (d2 ug (d2 qen (d2 ixD (qe 0) (d2 qan (qe 1) (d1 kM (qe 0)))) (dC (.int 31))) (qe 1)))))
noncomputable abbrev xM:List D->Out (D×List D):=ky QZ [.val,.val] (wv)
abbrev gQ P w K mg base cv:=DefOk P w K mg base cv 1 "_law_cell_at" ["_law_script", "_law_k"] [.val,.val] .sh (xM)
theorem WA (Z:Zt K mg cv ca) (T:jC K mg "_law_cell_at" uZ ["_law_script", "_law_k"]):gQ P w K mg base cv:=
 qM (k:=0) (own':=[]) (fb:=wv) T Wz λcdv f A outer s H E c=>(qf (qW (qT qaN (vr 1) (qF (kC rfl) rfl Z.z_len ku (vr 0))) (ql (qp (vo rfl c.units (vr 0) (vr 1) (λ_ _=>rfl)))) qH)
  (qf (qW (qT (yA rfl c.units) (vr 0) (wo qg)) (ql (qp qy)) qH)
  (ql (qp (kl (wp rfl) (kl Zi (vo rfl c.units (vr 0) (kl QM (vr 1) (qF (kC rfl) rfl Z.z_len ku (vr 0))) (λ_ _=>rfl)) qy) (vr 1))))))
abbrev zO:Stmt:=top 56
abbrev Yc:List Str:=["_law_script", "_law_k", "_law_many", "_law_drawn"]
theorem sc_Lmixed:FnScope Yc ["_law_script", "_law_k", "_law_many"] (qc zO):=fsc
noncomputable def JK:Sl->Out (Fl×Sl):=(qL (kj 3 (d2 qan (d2 ug (d2 ug (d2 qen (qx [.vl,.vl] xM (qd (qe 0) (qd (qe 1) qB))) (dC (.int 1103515245))) (d2 qen (dC (.int 7919)) (qe 1))) (dC (.int 12345))) (dC (.int 2147483647))))
  (jL (d2 qan (d2 qan (d2 qan (d2 qhJ (qe 3) (dC (.int 5))) (dC (.int 2147483647))) (dC (.int 999983))) (qe 2))))
noncomputable abbrev JL:List D->Out (D×List D):=ky Yc [.val,.val,.val] (JK)
abbrev Vt P w K mg base cv:=DefOk P w K mg base cv 2 "_law_mixed" ["_law_script", "_law_k", "_law_many"] [.val,.val,.val] .sh (JL)
theorem GH (Z:Zt K mg cv ca) (T:jC K mg "_law_mixed" zO ["_law_script", "_law_k", "_law_many"]) (O:gQ P w K mg base cv):Vt P w K mg base cv:=
 qM (k:=1) (own':=[]) (fb:=JK) T sc_Lmixed λcdv f A outer s H E c=>(qf (jg (i:=3) sc_Lmixed.nd rfl (ay rfl) (kl QM (kl (wp rfl) (kl (wp rfl) (kl Zi (qr O c (by decide) qJ rfl (qb (vr 0) (qb (vr 1) qg))) qy) (kl Zi qy (vr 1))) qy) qy))
  (ql (qp (kl QM (kl QM (kl QM (kl qfE (vr 3) qy) qy) qy) (vr 2)))))
abbrev JM:Stmt:=top 57
abbrev GI:List Str:=["_law_script", "_law_town", "_law_many"]
theorem qbs:FnScope GI ["_law_script", "_law_town", "_law_many"] (qc JM):=fsc
noncomputable def WB:Sl->Out (Fl×Sl):=(qL (kz (zz 1 QT (dC (.int 0))))
  (jL (qx [.vl,.vl,.vl] JL (qd (qe 0) (qd (d1 kM (qe 1)) (qd (qe 2) qB))))))
noncomputable abbrev wN:List D->Out (D×List D):=ky GI [.val,.io,.val] (WB)
abbrev ya P w K mg base cv:=DefOk P w K mg base cv 3 "_law_draw" ["_law_script", "_law_town", "_law_many"] [.val,.io,.val] .sh (wN)
theorem qbt (Z:Zt K mg cv ca) (T:jC K mg "_law_draw" JM ["_law_script", "_law_town", "_law_many"]) (O:Vt P w K mg base cv):ya P w K mg base cv:=
 qM (k:=2) (own':=[1]) (fb:=WB) T qbs λcdv f A outer s H E c=>(qf (ji (uy (i:=1) rfl rfl (ay rfl) (by decide) qy))
  (ql (qp (qr O c (by decide) qJ rfl (qb (vr 0) (qb (qF (kC rfl) rfl Z.z_len ku (jQ (i:=1) rfl (ay rfl) (by decide))) (qb (vr 2) qg)))))))
abbrev JN:Stmt:=top 58
abbrev GJ:List Str:=["_law_script", "_law_town", "_law_some"]
theorem qbu:FnScope GJ ["_law_script", "_law_town", "_law_some"] (qc JN):=fsc
noncomputable def WC:Sl->Out (Fl×Sl):=(jL (d2 ixD (qe 2) (qx [.vl,.sl 1,.vl] wN (qd (qe 0) (kA (qd (d1 kM (qe 2)) qB))))))
noncomputable abbrev gR:List D->Out (D×List D):=ky GJ [.val,.io,.val] (WC)
abbrev JO P w K mg base cv:=DefOk P w K mg base cv 4 "_law_pick" ["_law_script", "_law_town", "_law_some"] [.val,.io,.val] .sh (gR)
theorem qbv (Z:Zt K mg cv ca) (T:jC K mg "_law_pick" JN ["_law_script", "_law_town", "_law_some"]) (o:ya P w K mg base cv):JO P w K mg base cv:=
 qM (k:=3) (own':=[1]) (fb:=WC) T qbu λcdv f A outer s H E c=>(ql (qp (vo rfl c.units (vr 2) (qr o c (by decide) qJ rfl (qb (vr 0) (jv (i:=1) rfl (ay rfl) (by decide) (qb (qF (kC rfl) rfl Z.z_len ku (vr 2)) qg)))) (λ_ _=>rfl))))
abbrev xN:Stmt:=top 59
abbrev WD:List Str:=["_law_script", "_law_town", "_law_letters", "_law_most"]
theorem qbw:FnScope WD ["_law_script", "_law_town", "_law_letters", "_law_most"] (qc xN):=fsc
noncomputable def WE:Sl->Out (Fl×Sl):=(jL (d1 (Gg "") (jl [1] 1 [0,1,2] (vx (d2 ug (dC (.int 1)) (qx [.vl,.sl 1,.vl] wN (qd (qe 0) (kA (qd (qe 3) qB)))))) (gNm 0) ftT (qx [.vl,.sl 2,.vl] gR (qd (qe 1) (kA (qd (qe 3) qB)))))))
noncomputable abbrev JP:List D->Out (D×List D):=ky WD [.val,.io,.val,.val] (WE)
abbrev Yd P w K mg base cv:=DefOk P w K mg base cv 5 "_law_word" ["_law_script", "_law_town", "_law_letters", "_law_most"] [.val,.io,.val,.val] .sh (JP)
theorem qbx (Z:Zt K mg cv ca) (T:jC K mg "_law_word" xN ["_law_script", "_law_town", "_law_letters", "_law_most"]) (o:ya P w K mg base cv) (a:JO P w K mg base cv):Yd P w K mg base cv:=
 qM (k:=4) (own':=[1]) (fb:=WE) T qbw λcdv f A outer s H E c=>(ql (qp (qdB rfl (jM (N:=["_law_k", "_law_script", "_law_town", "_law_letters"]) (nt:=1) (cap:=[0,1,2]) rfl (wb (names:=(qc xN).names) rfl (by decide +kernel)) (jS (names:=(qc xN).names) (N:=WD) rfl rfl (by decide +kernel)) (xF rfl Z.z_range (kl (wp rfl) qy (qr o c (by decide) qJ rfl (qb (vr 0) (jv (i:=1) rfl (eG (ay rfl)) (by decide) (qb (vr 3) qg)))))) (λfp L s1 H1=>(qC (i:=0) (show bj (["_law_k", "_law_script", "_law_town", "_law_letters"]:List Str) from by decide +kernel) rfl (ay rfl))) (λfp L s1 H1=>jj) (λfp L s1 H1=>(qr a c (by decide) xH rfl (qb (vr 1) (jv (i:=2) rfl (by first | exact eG (eG rfl) | exact eG (ay rfl)) (by decide) (qb (vr 3) qg)))))))))
abbrev zQ:Stmt:=top 60
abbrev Ye:List Str:=["_law_script", "_law_town", "_law_most", "_law_letters", "_law_made", "_law_k", "_law_word_here"]
theorem sc_Lwords:FnScope Ye ["_law_script", "_law_town", "_law_most"] (qc zQ):=fsc
noncomputable def JQ:Sl->Out (Fl×Sl):=(qL (kj 3 (qx [.vl,.sl 1,.vl] gR (qd (qe 0) (kA (qd (Qq λρ=>.ok ([(.lst [(.str "a"),(.str "b")]),(.lst [(.str "a"),(.str "b"),(.str "c")]),(.lst [(.str "a"),(.str "b"),(.str "c"),(.str "d")]),(.lst [(.str "k"),(.str "m"),(.str "z"),(.str "a"),(.str "e")])],ρ)) qB)))))
  (qL (kj 4 (Qq qB))
  (qL (QO (vx (d2 ug (dC (.int 1)) (qx [.vl,.sl 1,.vl] wN (qd (qe 0) (kA (qd (qe 2) qB)))))) (gNm 5)
  (qL (kj 6 (qx [.vl,.sl 1,.vl,.vl] JP (qd (qe 0) (kA (qd (qe 3) (qd (dC (.int 6)) qB))))))
  (sIf (jb (d2 Js (qe 6) (qe 4))) (kz (zz 4 QT (qe 6))) jk)))
  (jL (d1 gk (qe 4))))))
noncomputable abbrev yb:List D->Out (D×List D):=ky Ye [.val,.io,.val] (JQ)
abbrev Vu P w K mg base cv:=DefOk P w K mg base cv 6 "_law_words" ["_law_script", "_law_town", "_law_most"] [.val,.io,.val] .sh (yb)
theorem GK (Z:Zt K mg cv ca) (T:jC K mg "_law_words" zQ ["_law_script", "_law_town", "_law_most"]) (o:ya P w K mg base cv) (a:JO P w K mg base cv) (O:Yd P w K mg base cv):Vu P w K mg base cv:=
 qM (k:=5) (own':=[1]) (fb:=JQ) T sc_Lwords λcdv f A outer s H E c=>(qf (jg (i:=3) sc_Lwords.nd rfl (ay rfl) (qr a c (by decide) qJ rfl (qb (vr 0) (jv (i:=1) rfl (ay rfl) (by decide) (qb (qdG 16 rfl) qg)))))
  (qf (kn (i:=4) sc_Lwords.nd rfl (ay rfl) (wo qg))
  (qf (vy bc rfl (xF rfl Z.z_range (kl (wp rfl) qy (qr o c (by decide) qJ rfl (qb (vr 0) (jv (i:=1) rfl (ay rfl) (by decide) (qb (vr 2) qg)))))) (qC (i:=5) sc_Lwords.nd rfl (ay rfl))
  (qf (jg (i:=6) sc_Lwords.nd rfl (ay rfl) (qr O c (by decide) qJ rfl (qb (vr 0) (jv (i:=1) rfl (ay rfl) (by decide) (qb (vr 3) (qb qy qg))))))
  (ql (qW (qT (xb rfl c.units) (vr 6) (jQ (i:=4) rfl (ay rfl) (by decide))) (ql (ji (uy (i:=4) rfl rfl (ay rfl) (by decide) (vr 6)))) qH))))
  (ql (qp (vp (Jq rfl) rfl Z.z_tuple wK (jQ (i:=4) rfl (ay rfl) (by decide))))))))
abbrev JR:Stmt:=top 61
abbrev GL:List Str:=["_law_script", "_law_town"]
theorem qby:FnScope GL ["_law_script", "_law_town"] (qc JR):=fsc
noncomputable def WF:Sl->Out (Fl×Sl):=(jL (xE (qd (d2 YO (qx [.vl,.sl 1,.vl] wN (qd (qe 0) (kA (qd (dC (.int 6)) qB)))) (dC (.int 3))) (qd (d2 YO (qx [.vl,.sl 1,.vl] wN (qd (qe 0) (kA (qd (dC (.int 6)) qB)))) (dC (.int 3))) qB))))
noncomputable abbrev WG:List D->Out (D×List D):=ky GL [.val,.io] (WF)
abbrev Yg P w K mg base cv:=DefOk P w K mg base cv 4 "_law_look" ["_law_script", "_law_town"] [.val,.io] .sh (WG)
theorem qbz (Z:Zt K mg cv ca) (T:jC K mg "_law_look" JR ["_law_script", "_law_town"]) (o:ya P w K mg base cv):Yg P w K mg base cv:=
 qM (k:=3) (own':=[1]) (fb:=WF) T qby λcdv f A outer s H E c=>(ql (qp (vn (qb (kl QL (qr o c (by decide) qJ rfl (qb (vr 0) (jv (i:=1) rfl (ay rfl) (by decide) (qb qy qg)))) qy) (qb (kl QL (qr o c (by decide) qJ rfl (qb (vr 0) (jv (i:=1) rfl (ay rfl) (by decide) (qb qy qg)))) qy) qg)))))
abbrev wO:Stmt:=top 22
abbrev gS:List Str:=["thing"]
theorem Vv:FnScope gS ["thing"] (qc wO):=fsc
noncomputable def vE:Sl->Out (Fl×Sl):=(jL (Jl (d1 (xA "str") (qe 0)) (Jl (d2 eqD (d1 kM (qe 0)) (dC (.int 1))) (yR leD leD (dC (.str "a")) (qe 0) (dC (.str "z"))))))
noncomputable abbrev vF:List D->Out (D×List D):=ky gS [.val] (vE)
abbrev uD P w K mg base cv:=DefOk P w K mg base cv 1 "is_letter" ["thing"] [.val] .sh (vF)
theorem Vw (Z:Zt K mg cv ca) (T:jC K mg "is_letter" wO ["thing"]):uD P w K mg base cv:=
 qM (k:=0) (own':=[]) (fb:=vE) T Vv λcdv f A outer s H E c=>(ql (qp (QN (yZ rfl rfl Z.z_isinstance qv rfl Z.z_str qcf (vr 0)) (QN (ur (yA rfl c.units) (qF (kC rfl) rfl Z.z_len ku (vr 0)) qy) (KJ (Ut KM KM vk (vr 0) vk))))))
abbrev ww:Stmt:=top 23
abbrev gT:List Str:=["thing"]
theorem Xp:FnScope gT ["thing"] (qc ww):=fsc
noncomputable def gU:Sl->Out (Fl×Sl):=(qL (sIf (dOr (yn (uu (d1 (xA "str") (qe 0)))) (yn (jb (yR leD leD (dC (.int 1)) (d1 kM (qe 0)) (dC (.int 6)))))) (jL (dC (.bl iN))) jk)
  (jL (d1 UD (jl [] 1 [] (jK (qe 0)) (gNm 0) ftT (qx [.vl] vF (qd (qe 0) qB))))))
noncomputable abbrev uE:List D->Out (D×List D):=ky gT [.val] (gU)
abbrev xO P w K mg base cv:=DefOk P w K mg base cv 2 "is_word" ["thing"] [.val] .sh (uE)
theorem Xq (Z:Zt K mg cv ca) (T:jC K mg "is_word" ww ["thing"]) (o:uD P w K mg base cv):xO P w K mg base cv:=
 qM (k:=1) (own':=[]) (fb:=gU) T Xp λcdv f A outer s H E c=>(qf (qW (PW.pt (zd (je (qV rfl (yZ rfl rfl Z.z_isinstance qv rfl Z.z_str qcf (vr 0)) (λ_=>rfl))) (wa (je (KK KM KM qy (qF (kC rfl) rfl Z.z_len ku (vr 0)) (uW Z.c_MOST_LETTERS rfl)))))) (ql (qp ut)) qH)
  (ql (qp (qF (gl rfl rfl) rfl Z.z_all gL (jM (N:=["sign"]) (nt:=1) (cap:=[]) rfl (wb (names:=(qc ww).names) rfl (by decide +kernel)) (jS (names:=(qc ww).names) (N:=gT) rfl rfl (by decide +kernel)) (qP rfl (vr 0)) (λfp L s1 H1=>(qC (i:=0) (show bj (["sign"]:List Str) from by decide +kernel) rfl (ay rfl))) (λfp L s1 H1=>jj) (λfp L s1 H1=>(qr o c (by decide) xH rfl (qb (vr 0) qg))))))))
abbrev vh:Stmt:=top 24
abbrev xP:List Str:=["thing"]
theorem WH:FnScope xP ["thing"] (qc vh):=fsc
noncomputable def xQ:Sl->Out (Fl×Sl):=(qL (sIf (dOr (yn (uu (d1 (xA "tuple") (qe 0)))) (yn (jb (yR leD leD (dC (.int 1)) (d1 kM (qe 0)) (dC (.int 6)))))) (jL (dC (.bl iN))) jk)
  (jL (Jl (d1 UD (jl [] 1 [] (jK (qe 0)) (gNm 0) ftT (qx [.vl] uE (qd (qe 0) qB)))) (d2 eqD (d1 gD (qe 0)) (d1 kM (qe 0))))))
noncomputable abbrev xR:List D->Out (D×List D):=ky xP [.val] (xQ)
abbrev gW P w K mg base cv:=DefOk P w K mg base cv 3 "is_words" ["thing"] [.val] .sh (xR)
theorem WI (Z:Zt K mg cv ca) (T:jC K mg "is_words" vh ["thing"]) (o:xO P w K mg base cv):gW P w K mg base cv:=
 qM (k:=2) (own':=[]) (fb:=xQ) T WH λcdv f A outer s H E c=>(qf (qW (PW.pt (zd (je (qV rfl (yZ rfl rfl Z.z_isinstance qv rfl Z.z_tuple wK (vr 0)) (λ_=>rfl))) (wa (je (KK KM KM qy (qF (kC rfl) rfl Z.z_len ku (vr 0)) (uW Z.c_MOST_WORDS rfl)))))) (ql (qp ut)) qH)
  (ql (qp (QN (qF (gl rfl rfl) rfl Z.z_all gL (jM (N:=["part"]) (nt:=1) (cap:=[]) rfl (wb (names:=(qc vh).names) rfl (by decide +kernel)) (jS (names:=(qc vh).names) (N:=xP) rfl rfl (by decide +kernel)) (qP rfl (vr 0)) (λfp L s1 H1=>(qC (i:=0) (show bj (["part"]:List Str) from by decide +kernel) rfl (ay rfl))) (λfp L s1 H1=>jj) (λfp L s1 H1=>(qr o c (by decide) xH rfl (qb (vr 0) qg))))) (KJ (ur (yA rfl c.units) (Ge rfl rfl rfl Z.z_len ku rfl Z.z_set GF (vr 0)) (qF (kC rfl) rfl Z.z_len ku (vr 0))))))))
abbrev kZ:Stmt:=top 28
abbrev xi:List Str:=["thing"]
theorem QC:FnScope xi ["thing"] (qc kZ):=fsc
noncomputable def wP:Sl->Out (Fl×Sl):=(sIf (yn (uu (qx [.vl] xR (qd (qe 0) qB)))) (jR "NoWords" (qd (dC (.str "words are a tuple of 1 to 6 unlike words of 1 to 6 letters from a to z")) qB)) jk)
noncomputable abbrev wQ:List D->Out (D×List D):=ky xi [.val] (wP)
abbrev yv P w K mg base cv:=DefOk P w K mg base cv 4 "check_words" ["thing"] [.val] .sh (wQ)
theorem QD (Z:Zt K mg cv ca) (T:jC K mg "check_words" kZ ["thing"]) (O:gW P w K mg base cv):yv P w K mg base cv:=
 qM (k:=3) (own':=[]) (fb:=wP) T QC λcdv f A outer s H E c=>(ql (qW (je (qV rfl (qr O c (by decide) qJ rfl (qb (vr 0) qg)) (λ_=>rfl))) (ql (ko rfl (xa rfl) rfl rfl (Z.mref "NoWords" (by decide +kernel)) (Z.xs.val "NoWords" (by decide +kernel)) (Z.xin "NoWords" (by decide +kernel)) (qb vk qg))) qH))
abbrev wR:Stmt:=top 34
abbrev gX:List Str:=["word", "place", "at"]
theorem sc_letter_at:FnScope gX ["word", "place"] (qc wR):=fsc
noncomputable def wS:Sl->Out (Fl×Sl):=(qL (kj 2 (dIf (jb (d2 geD (qe 1) (dC (.int 0)))) (qe 1) (d2 ug (d1 kM (qe 0)) (qe 1))))
  (jL (d2 ixD (qe 0) (d2 qgw (dC (.int 0)) (d2 qgx (qe 2) (d2 YO (d1 kM (qe 0)) (dC (.int 1))))))))
noncomputable abbrev vG:List D->Out (D×List D):=ky gX [.val,.val] (wS)
abbrev zm P w K mg base cv:=DefOk P w K mg base cv 1 "letter_at" ["word", "place"] [.val,.val] .sh (vG)
theorem Vx (Z:Zt K mg cv ca) (T:jC K mg "letter_at" wR ["word", "place"]):zm P w K mg base cv:=
 qM (k:=0) (own':=[]) (fb:=wS) T sc_letter_at λcdv f A outer s H E c=>(qf (jg (i:=2) sc_letter_at.nd rfl (ay rfl) (qc4 (qT qfc (vr 1) qy) (vr 1) (kl (wp rfl) (qF (kC rfl) rfl Z.z_len ku (vr 0)) (vr 1))))
  (ql (qp (vo rfl c.units (vr 0) (KY (qfp rfl) rfl Z.z_max qfN qy (KY (qfq rfl) rfl Z.z_min qfO (vr 2) (kl QL (qF (kC rfl) rfl Z.z_len ku (vr 0)) qy))) (λ_ _=>rfl)))))
abbrev xS:Stmt:=top 35
abbrev WJ:List Str:=["words", "look"]
theorem qbA:FnScope WJ ["words", "look"] (qc xS):=fsc
noncomputable def WK:Sl->Out (Fl×Sl):=(qL (kz (qx [.vl] wQ (qd (qe 0) qB)))
  (qL (kz (qx [.vl] vO (qd (qe 1) qB)))
  (jL (jl [] 1 [1] (jK (qe 0)) (gNm 0) ftT (xE (qd (qx [.vl,.vl] vG (qd (qe 0) (qd (d2 ixD (qe 1) (dC (.int 0))) qB))) (qd (qx [.vl,.vl] vG (qd (qe 0) (qd (d2 ixD (qe 1) (dC (.int 1))) qB))) qB)))))))
noncomputable abbrev gY:List D->Out (D×List D):=ky WJ [.val,.val] (WK)
abbrev JS P w K mg base cv:=DefOk P w K mg base cv 5 "pairs" ["words", "look"] [.val,.val] .sh (gY)
theorem qbB (Z:Zt K mg cv ca) (T:jC K mg "pairs" xS ["words", "look"]) (V:yv P w K mg base cv) (a:wL P w K mg base cv) (o:zm P w K mg base cv):JS P w K mg base cv:=
 qM (k:=4) (own':=[]) (fb:=WK) T qbA λcdv f A outer s H E c=>(qf (ji (qr V c (by decide) qJ rfl (qb (vr 0) qg)))
  (qf (ji (qr a c (by decide) qJ rfl (qb (vr 1) qg)))
  (ql (qp (jM (N:=["word", "look"]) (nt:=1) (cap:=[1]) rfl (wb (names:=(qc xS).names) rfl (by decide +kernel)) (jS (names:=(qc xS).names) (N:=WJ) rfl rfl (by decide +kernel)) (qP rfl (vr 0)) (λfp L s1 H1=>(qC (i:=0) (show bj (["word", "look"]:List Str) from by decide +kernel) rfl (ay rfl))) (λfp L s1 H1=>jj) (λfp L s1 H1=>(vn (qb (qr o c (by decide) xH rfl (qb (vr 0) (qb (vo rfl c.units (vr 1) qy (λ_ _=>rfl)) qg))) (qb (qr o c (by decide) xH rfl (qb (vr 0) (qb (vo rfl c.units (vr 1) qy (λ_ _=>rfl)) qg))) qg)))))))))
abbrev vP:Stmt:=top 31
abbrev zn:List Str:=["thing"]
theorem JT:FnScope zn ["thing"] (qc vP):=fsc
noncomputable def uF:Sl->Out (Fl×Sl):=(sIf (yn (uu (qx [.vl,.vl,.vl] ka (qd (qe 0) (qd (dC (.int 1)) (qd (dC (.int 99)) qB)))))) (jR "NoRoom" (qd (dC (.str "a room is a whole number from 1 to 99")) qB)) jk)
noncomputable abbrev uG:List D->Out (D×List D):=ky zn [.val] (uF)
abbrev xj P w K mg base cv:=DefOk P w K mg base cv 2 "check_room" ["thing"] [.val] .sh (uG)
theorem JU (Z:Zt K mg cv ca) (T:jC K mg "check_room" vP ["thing"]) (o:kY P w K mg base cv):xj P w K mg base cv:=
 qM (k:=1) (own':=[]) (fb:=uF) T JT λcdv f A outer s H E c=>(ql (qW (je (qV rfl (qr o c (by decide) qJ rfl (qb (vr 0) (qb qy (qb (uW Z.c_MOST_ROOM rfl) qg)))) (λ_=>rfl))) (ql (ko rfl (xa rfl) rfl rfl (Z.mref "NoRoom" (by decide +kernel)) (Z.xs.val "NoRoom" (by decide +kernel)) (Z.xin "NoRoom" (by decide +kernel)) (qb vk qg))) qH))
abbrev yc:Stmt:=top 26
abbrev Ja:List Str:=["thing", "room"]
theorem WL:FnScope Ja ["thing", "room"] (qc yc):=fsc
noncomputable def kF:Sl->Out (Fl×Sl):=(qL (sIf (dOr (yn (uu (d1 (xA "tuple") (qe 0)))) (jb (d2 neD (d1 kM (qe 0)) (dC (.int 2))))) (jL (dC (.bl iN))) jk)
  (jL (Jl (qx [.vl] vF (qd (d2 ixD (qe 0) (dC (.int 0))) qB)) (qx [.vl,.vl,.vl] ka (qd (d2 ixD (qe 0) (dC (.int 1))) (qd (dC (.int 0)) (qd (d2 YO (qe 1) (dC (.int 1))) qB)))))))
noncomputable abbrev yd:List D->Out (D×List D):=ky Ja [.val,.val] (kF)
abbrev gZ P w K mg base cv:=DefOk P w K mg base cv 2 "is_worth" ["thing", "room"] [.val,.val] .sh (yd)
theorem WM (Z:Zt K mg cv ca) (T:jC K mg "is_worth" yc ["thing", "room"]) (o:kY P w K mg base cv) (a:uD P w K mg base cv):gZ P w K mg base cv:=
 qM (k:=1) (own':=[]) (fb:=kF) T WL λcdv f A outer s H E c=>(qf (qW (PW.pt (zd (je (qV rfl (yZ rfl rfl Z.z_isinstance qv rfl Z.z_tuple wK (vr 0)) (λ_=>rfl))) (wa (qT (YR rfl c.units) (qF (kC rfl) rfl Z.z_len ku (vr 0)) qy)))) (ql (qp ut)) qH)
  (ql (qp (QN (qr a c (by decide) qJ rfl (qb (vo rfl c.units (vr 0) qy (λ_ _=>rfl)) qg)) (KJ (qr o c (by decide) qJ rfl (qb (vo rfl c.units (vr 0) qy (λ_ _=>rfl)) (qb qy (qb (kl QL (vr 1) qy) qg)))))))))
abbrev jN:Stmt:=top 27
abbrev wT:List Str:=["thing", "room", "letters"]
theorem sc_is_worths:FnScope wT ["thing", "room"] (qc jN):=fsc
noncomputable def wU:Sl->Out (Fl×Sl):=(qL (sIf (dOr (yn (uu (d1 (xA "tuple") (qe 0)))) (yn (uu (d1 UD (jl [] 1 [1] (jK (qe 0)) (gNm 0) ftT (qx [.vl,.vl] yd (qd (qe 0) (qd (qe 1) qB)))))))) (jL (dC (.bl iN))) jk)
  (qL (kj 2 (jl [] 1 [] (jK (qe 0)) (gNm 0) ftT (d2 ixD (qe 0) (dC (.int 0)))))
  (jL (d2 eqD (qe 2) (d1 uX (qe 2))))))
noncomputable abbrev kG:List D->Out (D×List D):=ky wT [.val,.val] (wU)
abbrev zo P w K mg base cv:=DefOk P w K mg base cv 3 "is_worths" ["thing", "room"] [.val,.val] .sh (kG)
theorem Vy (Z:Zt K mg cv ca) (T:jC K mg "is_worths" jN ["thing", "room"]) (O:gZ P w K mg base cv):zo P w K mg base cv:=
 qM (k:=2) (own':=[]) (fb:=wU) T sc_is_worths λcdv f A outer s H E c=>(qf (qW (PW.pt (zd (je (qV rfl (yZ rfl rfl Z.z_isinstance qv rfl Z.z_tuple wK (vr 0)) (λ_=>rfl))) (wa (je (qV rfl (qF (gl rfl rfl) rfl Z.z_all gL (jM (N:=["part", "room"]) (nt:=1) (cap:=[1]) rfl (wb (names:=(qc jN).names) rfl (by decide +kernel)) (jS (names:=(qc jN).names) (N:=wT) rfl rfl (by decide +kernel)) (qP rfl (vr 0)) (λfp L s1 H1=>(qC (i:=0) (show bj (["part", "room"]:List Str) from by decide +kernel) rfl (ay rfl))) (λfp L s1 H1=>jj) (λfp L s1 H1=>(qr O c (by decide) xH rfl (qb (vr 0) (qb (vr 1) qg)))))) (λ_=>rfl)))))) (ql (qp ut)) qH)
  (qf (zL (N:=["part"]) (nt:=1) (cap:=[]) sc_is_worths.nd (i:=2) rfl (ay rfl) rfl (wb (names:=(qc jN).names) rfl (by decide +kernel)) (jS (names:=(qc jN).names) (N:=wT) rfl rfl (by decide +kernel)) (qP rfl (vr 0)) (λfp L s1 H1=>(qC (i:=0) (show bj (["part"]:List Str) from by decide +kernel) rfl (ay rfl))) (λfp L s1 H1=>jj) (λfp L s1 H1=>(vo rfl c.units (vr 0) qy (λ_ _=>rfl))))
  (km [2] (ql (qp (ur (yA rfl c.units) (vr 2) (QX rfl rfl rfl Z.z_sorted gM rfl Z.z_set GF (vr 2))))))))
abbrev kK:Stmt:=top 32
abbrev yw:List Str:=["thing", "room"]
theorem Qa:FnScope yw ["thing", "room"] (qc kK):=fsc
noncomputable def wc:Sl->Out (Fl×Sl):=(sIf (yn (uu (qx [.vl,.vl] kG (qd (qe 0) (qd (qe 1) qB))))) (jR "NoWorths" (qd (dC (.str "worths are a rising tuple of unlike letters, each with a number within the room")) qB)) jk)
noncomputable abbrev we:List D->Out (D×List D):=ky yw [.val,.val] (wc)
abbrev uH P w K mg base cv:=DefOk P w K mg base cv 4 "check_worths" ["thing", "room"] [.val,.val] .sh (we)
theorem Qb (Z:Zt K mg cv ca) (T:jC K mg "check_worths" kK ["thing", "room"]) (O:zo P w K mg base cv):uH P w K mg base cv:=
 qM (k:=3) (own':=[]) (fb:=wc) T Qa λcdv f A outer s H E c=>(ql (qW (je (qV rfl (qr O c (by decide) qJ rfl (qb (vr 0) (qb (vr 1) qg))) (λ_=>rfl))) (ql (ko rfl (xa rfl) rfl rfl (Z.mref "NoWorths" (by decide +kernel)) (Z.xs.val "NoWorths" (by decide +kernel)) (Z.xin "NoWorths" (by decide +kernel)) (qb vk qg))) qH))
abbrev jE:Stmt:=top 36
abbrev vQ:List Str:=["seen"]
theorem JV:FnScope vQ ["seen"] (qc jE):=fsc
noncomputable def uI:Sl->Out (Fl×Sl):=(jL (d1 uX (d2 ug (jl [] 1 [] (jK (qe 0)) (gNm 0) ftT (d2 ixD (qe 0) (dC (.int 0)))) (jl [] 1 [] (jK (qe 0)) (gNm 0) ftT (d2 ixD (qe 0) (dC (.int 1)))))))
noncomputable abbrev qY:List D->Out (D×List D):=ky vQ [.val] (uI)
abbrev va P w K mg base cv:=DefOk P w K mg base cv 1 "letters_of" ["seen"] [.val] .sh (qY)
theorem JW (Z:Zt K mg cv ca) (T:jC K mg "letters_of" jE ["seen"]):va P w K mg base cv:=
 qM (k:=0) (own':=[]) (fb:=uI) T JV λcdv f A outer s H E c=>(ql (qp (QX rfl rfl rfl Z.z_sorted gM rfl Z.z_set GF (kl (wp rfl) (jM (N:=["pair"]) (nt:=1) (cap:=[]) rfl (wb (names:=(qc jE).names) rfl (by decide +kernel)) (jS (names:=(qc jE).names) (N:=vQ) rfl rfl (by decide +kernel)) (qP rfl (vr 0)) (λfp L s1 H1=>(qC (i:=0) (show bj (["pair"]:List Str) from by decide +kernel) rfl (ay rfl))) (λfp L s1 H1=>jj) (λfp L s1 H1=>(vo rfl c.units (vr 0) qy (λ_ _=>rfl)))) (jM (N:=["pair"]) (nt:=1) (cap:=[]) rfl (wb (names:=(qc jE).names) rfl (by decide +kernel)) (jS (names:=(qc jE).names) (N:=vQ) rfl rfl (by decide +kernel)) (qP rfl (vr 0)) (λfp L s1 H1=>(qC (i:=0) (show bj (["pair"]:List Str) from by decide +kernel) rfl (ay rfl))) (λfp L s1 H1=>jj) (λfp L s1 H1=>(vo rfl c.units (vr 0) qy (λ_ _=>rfl))))))))
abbrev zR:Stmt:=top 37
abbrev Yh:List Str:=["total", "room"]
theorem GM:FnScope Yh ["total", "room"] (qc zR):=fsc
noncomputable def JX:Sl->Out (Fl×Sl):=(jL (dIf (jb (d2 geD (qe 0) (qe 1))) (d2 YO (qe 0) (qe 1)) (qe 0)))
noncomputable abbrev zS:List D->Out (D×List D):=ky Yh [.val,.val] (JX)
abbrev Vz P w K mg base cv:=DefOk P w K mg base cv 1 "within" ["total", "room"] [.val,.val] .sh (zS)
theorem GN (Z:Zt K mg cv ca) (T:jC K mg "within" zR ["total", "room"]):Vz P w K mg base cv:=
 qM (k:=0) (own':=[]) (fb:=JX) T GM λcdv f A outer s H E c=>(ql (qp (qc4 (qT qfc (vr 0) (vr 1)) (kl QL (vr 0) (vr 1)) (vr 0))))
abbrev kb:Stmt:=top 38
abbrev ye:List Str:=["words", "look", "room", "worths", "seen", "worth_of"]
theorem sc_numbered:FnScope ye ["words", "look", "room", "worths"] (qc kb):=fsc
noncomputable def yf:Sl->Out (Fl×Sl):=(qL (kj 4 (qx [.vl,.vl] gY (qd (qe 0) (qd (qe 1) qB))))
  (qL (kz (qx [.vl] uG (qd (qe 2) qB)))
  (qL (kz (qx [.vl,.vl] we (qd (qe 3) (qd (qe 2) qB))))
  (qL (kj 5 (d1 qba (qe 3)))
  (qL (sIf (yn (uu (d1 UD (jl [] 1 [5] (jK (qx [.vl] qY (qd (qe 4) qB))) (gNm 0) ftT (d2 inA (qe 0) (qe 1)))))) (jR "NoWorths" (qd (dC (.str "a letter that is seen has no worth")) qB)) jk)
  (jL (d1 gk (jl [] 1 [2,5] (jK (qe 4)) (gNm 0) ftT (qx [.vl,.vl] zS (qd (d2 ug (d2 ixD (qe 2) (d2 ixD (qe 0) (dC (.int 0)))) (d2 ixD (qe 2) (d2 ixD (qe 0) (dC (.int 1))))) (qd (qe 1) qB)))))))))))
noncomputable abbrev yg:List D->Out (D×List D):=ky ye [.val,.val,.val,.val] (yf)
abbrev Qc P w K mg base cv:=DefOk P w K mg base cv 6 "numbered" ["words", "look", "room", "worths"] [.val,.val,.val,.val] .sh (yg)
theorem WN (Z:Zt K mg cv ca) (T:jC K mg "numbered" kb ["words", "look", "room", "worths"]) (b:xj P w K mg base cv) (R:uH P w K mg base cv) (a:JS P w K mg base cv) (o:va P w K mg base cv) (O:Vz P w K mg base cv):Qc P w K mg base cv:=
 qM (k:=5) (own':=[]) (fb:=yf) T sc_numbered λcdv f A outer s H E c=>(qf (jg (i:=4) sc_numbered.nd rfl (ay rfl) (qr a c (by decide) qJ rfl (qb (vr 0) (qb (vr 1) qg))))
  (qf (ji (qr b c (by decide) qJ rfl (qb (vr 2) qg)))
  (qf (ji (qr R c (by decide) qJ rfl (qb (vr 3) (qb (vr 2) qg))))
  (qf (jg (i:=5) sc_numbered.nd rfl (eG rfl) (vp (qds rfl rfl) rfl Z.z_dict Wx (vr 3)))
  (qf (qW (je (qV rfl (qF (gl rfl rfl) rfl Z.z_all gL (jM (N:=["letter", "worth_of"]) (nt:=1) (cap:=[5]) rfl (wb (names:=(qc kb).names) rfl (by decide +kernel)) (jS (names:=(qc kb).names) (N:=ye) rfl rfl (by decide +kernel)) (qP rfl (qr o c (by decide) qJ rfl (qb (vr 4) qg))) (λfp L s1 H1=>(qC (i:=0) (show bj (["letter", "worth_of"]:List Str) from by decide +kernel) rfl (ay rfl))) (λfp L s1 H1=>jj) (λfp L s1 H1=>(ur (UO rfl c.units) (vr 0) (vr 1))))) (λ_=>rfl))) (ql (ko rfl (xa rfl) rfl rfl (Z.mref "NoWorths" (by decide +kernel)) (Z.xs.val "NoWorths" (by decide +kernel)) (Z.xin "NoWorths" (by decide +kernel)) (qb vk qg))) qH)
  (ql (qp (vp (Jq rfl) rfl Z.z_tuple wK (jM (N:=["pair", "room", "worth_of"]) (nt:=1) (cap:=[2,5]) rfl (wb (names:=(qc kb).names) rfl (by decide +kernel)) (jS (names:=(qc kb).names) (N:=ye) rfl rfl (by decide +kernel)) (qP rfl (vr 4)) (λfp L s1 H1=>(qC (i:=0) (show bj (["pair", "room", "worth_of"]:List Str) from by decide +kernel) rfl (ay rfl))) (λfp L s1 H1=>jj) (λfp L s1 H1=>(qr O c (by decide) xH rfl (qb (kl (wp rfl) (vo rfl c.units (vr 2) (vo rfl c.units (vr 0) qy (λ_ _=>rfl)) (λ_ _=>rfl)) (vo rfl c.units (vr 2) (vo rfl c.units (vr 0) qy (λ_ _=>rfl)) (λ_ _=>rfl))) (qb (vr 1) qg)))))))))))))
abbrev wV:Stmt:=top 40
abbrev Qd:List Str:=["one", "two"]
theorem VA:FnScope Qd ["one", "two"] (qc wV):=fsc
noncomputable def wW:Sl->Out (Fl×Sl):=(jL (qgs (d2 eqD (qe 0) (qe 1)) (d2 eqD (qe 0) (xE (qd (d2 ixD (qe 1) (dC (.int 1))) (qd (d2 ixD (qe 1) (dC (.int 0))) qB))))))
noncomputable abbrev wX:List D->Out (D×List D):=ky Qd [.val,.val] (wW)
abbrev zp P w K mg base cv:=DefOk P w K mg base cv 1 "are_alike" ["one", "two"] [.val,.val] .sh (wX)
theorem VB (Z:Zt K mg cv ca) (T:jC K mg "are_alike" wV ["one", "two"]):zp P w K mg base cv:=
 qM (k:=0) (own':=[]) (fb:=wW) T VA λcdv f A outer s H E c=>(ql (qp (qhh (ur (yA rfl c.units) (vr 0) (vr 1)) (KJ (ur (yA rfl c.units) (vr 0) (vn (qb (vo rfl c.units (vr 1) qy (λ_ _=>rfl)) (qb (vo rfl c.units (vr 1) qy (λ_ _=>rfl)) qg))))))))
abbrev yh:Stmt:=top 41
abbrev Jb:List Str:=["seen", "later", "pair", "ahead"]
theorem sc_clash_of:FnScope Jb ["seen"] (qc yh):=fsc
noncomputable def xT:Sl->Out (Fl×Sl):=(qL (QO (Go (qe 0)) (zy 2 (jW (gNm 1) (jW (gNm 2) zx)))
  (QO (vx (qe 1)) (gNm 3)
  (sIf (uu (qx [.vl,.vl] wX (qd (d2 ixD (qe 0) (qe 3)) (qd (qe 2) qB)))) (jL (xE (qd (qe 3) (qd (qe 1) qB)))) jk)))
  (jL (dC .non)))
noncomputable abbrev yi:List D->Out (D×List D):=ky Jb [.val] (xT)
abbrev Qe P w K mg base cv:=DefOk P w K mg base cv 2 "clash_of" ["seen"] [.val] .sh (yi)
theorem WO (Z:Zt K mg cv ca) (T:jC K mg "clash_of" yh ["seen"]) (o:zp P w K mg base cv):Qe P w K mg base cv:=
 qM (k:=1) (own':=[]) (fb:=xT) T sc_clash_of λcdv f A outer s H E c=>(qf (vy bc rfl (US rfl rfl Z.z_enumerate (vr 0)) (Zz rfl rfl (yV (qC (i:=1) sc_clash_of.nd rfl (ay rfl)) (yV (qC (i:=2) sc_clash_of.nd rfl (ay rfl)) Uy)))
  (ql (vy bc rfl (xF rfl Z.z_range (vr 1)) (qC (i:=3) sc_clash_of.nd rfl (ay rfl))
  (ql (qW (qV rfl (qr o c (by decide) qJ rfl (qb (vo rfl c.units (vr 0) (vr 3) (λ_ _=>rfl)) (qb (vr 2) qg))) (λ_=>rfl)) (ql (qp (vn (qb (vr 3) (qb (vr 1) qg))))) qH)))))
  (ql (qp Uo)))
abbrev xl:Stmt:=top 47
abbrev xm:List Str:=["fixed", "letter", "worth", "more"]
theorem sc_with_worthL:FnScope xm ["fixed", "letter", "worth"] (qc xl):=fsc
noncomputable def wY:Sl->Out (Fl×Sl):=(qL (kj 3 (d1 Vn (qe 0)))
  (qL (Vl 3 (qe 2) (qe 1))
  (jL (qe 3))))
noncomputable abbrev vb:List D->Out (D×List D):=ky xm [.io,.val,.val] (wY)
abbrev yx P w K mg base cv:=DefOk P w K mg base cv 1 "with_worth" ["fixed", "letter", "worth"] [.io,.val,.val] .sh (vb)
theorem QE (Z:Zt K mg cv ca) (T:jC K mg "with_worth" xl ["fixed", "letter", "worth"]):yx P w K mg base cv:=
 qM (k:=0) (own':=[0]) (fb:=wY) T sc_with_worthL λcdv f A outer s H E c=>(qf (kn (i:=3) sc_with_worthL.nd rfl (ay rfl) (vp (UV rfl) rfl Z.z_dict Wx (jQ (i:=0) rfl (ay rfl) (by decide))))
  (qf (Jz (n:=3) c.units rfl (ay rfl) (by decide) (vr 2) (vr 1))
  (km [3] (ql (qp (vr 3))))))
abbrev vi:Stmt:=top 42
abbrev xU:List Str:=["pair", "seen", "fixed", "letter"]
theorem sc_is_loose:FnScope xU ["pair", "seen", "fixed"] (qc vi):=fsc
noncomputable def xV:Sl->Out (Fl×Sl):=(qL (QO (jK (qe 0)) (gNm 3)
  (sIf (qfb (jb (d2 Js (qe 3) (qe 2))) (jb (d2 eqD (d1 JA (jl [] 1 [3] (jK (qe 1)) (gNm 0) ftT (dM qer yr (qe 0) (qe 1)))) (dC (.int 1))))) (jL (dC (.bl iO))) jk))
  (jL (dC (.bl iN))))
noncomputable abbrev ke:List D->Out (D×List D):=ky xU [.val,.val,.val] (xV)
abbrev Qf P w K mg base cv:=DefOk P w K mg base cv 1 "is_loose" ["pair", "seen", "fixed"] [.val,.val,.val] .sh (ke)
theorem WP (Z:Zt K mg cv ca) (T:jC K mg "is_loose" vi ["pair", "seen", "fixed"]):Qf P w K mg base cv:=
 qM (k:=0) (own':=[]) (fb:=xV) T sc_is_loose λcdv f A outer s H E c=>(qf (vy bc rfl (qP rfl (vr 0)) (qC (i:=3) sc_is_loose.nd rfl (eG rfl))
  (ql (qW (PW.pt (Zp (qT (xb rfl c.units) (vr 3) (vr 2)) (wa (qT (yA rfl c.units) (qF (Wv rfl rfl) rfl Z.z_sum GG (jM (N:=["other", "letter"]) (nt:=1) (cap:=[3]) rfl (wb (names:=(qc vi).names) rfl (by decide +kernel)) (jS (names:=(qc vi).names) (N:=xU) rfl rfl (by decide +kernel)) (qP rfl (vr 1)) (λfp L s1 H1=>(qC (i:=0) (show bj (["other", "letter"]:List Str) from by decide +kernel) rfl (ay rfl))) (λfp L s1 H1=>jj) (λfp L s1 H1=>(Gw rfl c.units (vr 0) (vr 1))))) qy)))) (ql (qp ut)) qH)))
  (ql (qp ut)))
abbrev jt:Stmt:=top 43
abbrev kx:List Str:=["seen", "fixed", "kept", "rest"]
theorem sc_bound_pairs:FnScope kx ["seen", "fixed"] (qc jt):=fsc
noncomputable def wZ:Sl->Out (Fl×Sl):=(qL (kj 2 (qe 0))
  (qL (kj 3 (jl [] 1 [2,1] (jK (qe 2)) (gNm 0) (yn (uu (qx [.vl,.vl,.vl] ke (qd (qe 0) (qd (qe 1) (qd (qe 2) qB)))))) (qe 0)))
  (qL (qX (jb (d2 ltD (d1 kM (qe 3)) (d1 kM (qe 2))))
  (qL (kj 2 (qe 3))
  (qL (kj 3 (jl [] 1 [2,1] (jK (qe 2)) (gNm 0) (yn (uu (qx [.vl,.vl,.vl] ke (qd (qe 0) (qd (qe 1) (qd (qe 2) qB)))))) (qe 0))) jk)) 20)
  (jL (qe 2)))))
noncomputable abbrev ua:List D->Out (D×List D):=ky kx [.val,.val] (wZ)
abbrev yy P w K mg base cv:=DefOk P w K mg base cv 2 "bound_pairs" ["seen", "fixed"] [.val,.val] .sh (ua)
theorem QF (Z:Zt K mg cv ca) (T:jC K mg "bound_pairs" jt ["seen", "fixed"]) (o:Qf P w K mg base cv):yy P w K mg base cv:=
 qM (k:=1) (own':=[]) (fb:=wZ) T sc_bound_pairs λcdv f A outer s H E c=>(qf (jg (i:=2) sc_bound_pairs.nd rfl (eG rfl) (vr 0))
  (qf (zL (N:=["pair", "kept", "fixed"]) (nt:=1) (cap:=[2,1]) sc_bound_pairs.nd (i:=3) rfl (ay rfl) rfl (wb (names:=(qc jt).names) rfl (by decide +kernel)) (jS (names:=(qc jt).names) (N:=kx) rfl rfl (by decide +kernel)) (qP rfl (vr 2)) (λfp L s1 H1=>(qC (i:=0) (show bj (["pair", "kept", "fixed"]:List Str) from by decide +kernel) rfl (ay rfl))) (λfp L s1 H1=>(Wf (je (qV rfl (qr o c (by decide) xH rfl (qb (vr 0) (qb (vr 1) (qb (vr 2) qg)))) (λ_=>rfl))))) (λfp L s1 H1=>(vr 0)))
  (km [3] (qf (gh 20 bc (qT qaN (qF (kC rfl) rfl Z.z_len ku (vr 3)) (qF (kC rfl) rfl Z.z_len ku (vr 2)))
  (qf (jg (i:=2) sc_bound_pairs.nd rfl (eG rfl) (vr 3))
  (qf (zL (N:=["pair", "kept", "fixed"]) (nt:=1) (cap:=[2,1]) sc_bound_pairs.nd (i:=3) rfl (ay rfl) rfl (wb (names:=(qc jt).names) rfl (by decide +kernel)) (jS (names:=(qc jt).names) (N:=kx) rfl rfl (by decide +kernel)) (qP rfl (vr 2)) (λfp L s1 H1=>(qC (i:=0) (show bj (["pair", "kept", "fixed"]:List Str) from by decide +kernel) rfl (ay rfl))) (λfp L s1 H1=>(Wf (je (qV rfl (qr o c (by decide) xH rfl (qb (vr 0) (qb (vr 1) (qb (vr 2) qg)))) (λ_=>rfl))))) (λfp L s1 H1=>(vr 0)))
  (km [3] qH))))
  (ql (qp (vr 2)))))))
abbrev yj:Stmt:=top 44
abbrev xW:List Str:=["one", "two", "first", "second", "letter"]
theorem sc_unshared:FnScope xW ["one", "two"] (qc yj):=fsc
noncomputable def xX:Sl->Out (Fl×Sl):=(qL (kj 2 (d1 qdm (qe 0)))
  (qL (kj 3 (Qq qB))
  (qL (QO (jK (qe 1)) (gNm 4)
  (sIf (jb (d2 inA (qe 4) (qe 2))) (kz (zz 2 qdJ (qe 4))) (kz (zz 3 QT (qe 4)))))
  (jL (xE (qd (qe 2) (qd (qe 3) qB)))))))
noncomputable abbrev kI:List D->Out (D×List D):=ky xW [.val,.val] (xX)
abbrev Qg P w K mg base cv:=DefOk P w K mg base cv 1 "unshared" ["one", "two"] [.val,.val] .sh (kI)
theorem WQ (Z:Zt K mg cv ca) (T:jC K mg "unshared" yj ["one", "two"]):Qg P w K mg base cv:=
 qM (k:=0) (own':=[]) (fb:=xX) T sc_unshared λcdv f A outer s H E c=>(qf (kn (i:=2) sc_unshared.nd rfl (ay rfl) (vp (qdn rfl) rfl Z.z_list Wy (vr 0)))
  (qf (kn (i:=3) sc_unshared.nd rfl (ay rfl) (wo qg))
  (qf (vy bc rfl (qP rfl (vr 1)) (qC (i:=4) sc_unshared.nd rfl (ay rfl))
  (ql (qW (qT (UO rfl c.units) (vr 4) (jQ (i:=2) rfl (ay rfl) (by decide))) (ql (ji (Gu (i:=2) rfl (ay rfl) (by decide) (vr 4)))) (ql (ji (uy (i:=3) rfl rfl (ay rfl) (by decide) (vr 4)))))))
  (km [2,3] (ql (qp (vn (qb (vr 2) (qb (vr 3) qg)))))))))
abbrev jH:Stmt:=top 45
abbrev wf:List Str:=["seen", "found", "later", "pair"]
theorem sc_contrasts_of:FnScope wf ["seen"] (qc jH):=fsc
noncomputable def wg:Sl->Out (Fl×Sl):=(qL (kj 1 (Qq qB))
  (qL (QO (Go (qe 0)) (zy 2 (jW (gNm 2) (jW (gNm 3) zx)))
  (kz (zz 1 qao (jl [1] 1 [3] (jK (vC (qe 0) iL (iJ (qe 2)))) (gNm 0) ftT (qx [.vl,.vl] kI (qd (qe 0) (qd (qe 1) qB)))))))
  (jL (qe 1))))
noncomputable abbrev wj:List D->Out (D×List D):=ky wf [.val] (wg)
abbrev uJ P w K mg base cv:=DefOk P w K mg base cv 2 "contrasts_of" ["seen"] [.val] .sh (wj)
theorem Qh (Z:Zt K mg cv ca) (T:jC K mg "contrasts_of" jH ["seen"]) (O:Qg P w K mg base cv):uJ P w K mg base cv:=
 qM (k:=1) (own':=[]) (fb:=wg) T sc_contrasts_of λcdv f A outer s H E c=>(qf (kn (i:=1) sc_contrasts_of.nd rfl (ay rfl) (wo qg))
  (qf (vy bc rfl (US rfl rfl Z.z_enumerate (vr 0)) (Zz rfl rfl (yV (qC (i:=2) sc_contrasts_of.nd rfl (ay rfl)) (yV (qC (i:=3) sc_contrasts_of.nd rfl (eG rfl)) Uy)))
  (ql (ji (gj (i:=1) rfl (ay rfl) (by decide) (jM (N:=["ahead", "pair"]) (nt:=1) (cap:=[3]) rfl (wb (names:=(qc jH).names) rfl (by decide +kernel)) (jS (names:=(qc jH).names) (N:=wf) rfl rfl (by decide +kernel)) (qP rfl (Vo rfl (vr 0) UE (UF (vr 2)))) (λfp L s1 H1=>(qC (i:=0) (show bj (["ahead", "pair"]:List Str) from by decide +kernel) rfl (ay rfl))) (λfp L s1 H1=>jj) (λfp L s1 H1=>(qr O c (by decide) xH rfl (qb (vr 0) (qb (vr 1) qg)))))))))
  (km [1] (ql (qp (vr 1))))))
abbrev qZ:Stmt:=top 46
abbrev kf:List Str:=["contrast", "room", "fixed", "first", "second"]
theorem sc_may_differ:FnScope kf ["contrast", "room", "fixed"] (qc qZ):=fsc
noncomputable def uK:Sl->Out (Fl×Sl):=(qL (kj 3 (d2 ixD (qe 0) (dC (.int 0))))
  (qL (kj 4 (d2 ixD (qe 0) (dC (.int 1))))
  (qL (sIf (yn (uu (d1 UD (jl [] 1 [2] (jK (d2 ug (qe 3) (qe 4))) (gNm 0) ftT (d2 inA (qe 0) (qe 1)))))) (jL (dC (.bl iO))) jk)
  (jL (d2 neD (d2 qan (d2 YO (d1 JA (jl [] 1 [2] (jK (qe 3)) (gNm 0) ftT (d2 ixD (qe 1) (qe 0)))) (d1 JA (jl [] 1 [2] (jK (qe 4)) (gNm 0) ftT (d2 ixD (qe 1) (qe 0))))) (qe 1)) (dC (.int 0)))))))
noncomputable abbrev kO:List D->Out (D×List D):=ky kf [.val,.val,.val] (uK)
abbrev ub P w K mg base cv:=DefOk P w K mg base cv 1 "may_differ" ["contrast", "room", "fixed"] [.val,.val,.val] .sh (kO)
theorem JY (Z:Zt K mg cv ca) (T:jC K mg "may_differ" qZ ["contrast", "room", "fixed"]):ub P w K mg base cv:=
 qM (k:=0) (own':=[]) (fb:=uK) T sc_may_differ λcdv f A outer s H E c=>(qf (jg (i:=3) sc_may_differ.nd rfl (ay rfl) (vo rfl c.units (vr 0) qy (λ_ _=>rfl)))
  (qf (jg (i:=4) sc_may_differ.nd rfl (ay rfl) (vo rfl c.units (vr 0) qy (λ_ _=>rfl)))
  (qf (qW (je (qV rfl (qF (gl rfl rfl) rfl Z.z_all gL (jM (N:=["letter", "fixed"]) (nt:=1) (cap:=[2]) rfl (wb (names:=(qc qZ).names) rfl (by decide +kernel)) (jS (names:=(qc qZ).names) (N:=kf) rfl rfl (by decide +kernel)) (qP rfl (kl (wp rfl) (vr 3) (vr 4))) (λfp L s1 H1=>(qC (i:=0) (show bj (["letter", "fixed"]:List Str) from by decide +kernel) rfl (ay rfl))) (λfp L s1 H1=>jj) (λfp L s1 H1=>(ur (UO rfl c.units) (vr 0) (vr 1))))) (λ_=>rfl))) (ql (qp ut)) qH)
  (ql (qp (ur (YR rfl c.units) (kl QM (kl QL (qF (Wv rfl rfl) rfl Z.z_sum GG (jM (N:=["letter", "fixed"]) (nt:=1) (cap:=[2]) rfl (wb (names:=(qc qZ).names) rfl (by decide +kernel)) (jS (names:=(qc qZ).names) (N:=kf) rfl rfl (by decide +kernel)) (qP rfl (vr 3)) (λfp L s1 H1=>(qC (i:=0) (show bj (["letter", "fixed"]:List Str) from by decide +kernel) rfl (ay rfl))) (λfp L s1 H1=>jj) (λfp L s1 H1=>(vo rfl c.units (vr 1) (vr 0) (λ_ _=>rfl))))) (qF (Wv rfl rfl) rfl Z.z_sum GG (jM (N:=["letter", "fixed"]) (nt:=1) (cap:=[2]) rfl (wb (names:=(qc qZ).names) rfl (by decide +kernel)) (jS (names:=(qc qZ).names) (N:=kf) rfl rfl (by decide +kernel)) (qP rfl (vr 4)) (λfp L s1 H1=>(qC (i:=0) (show bj (["letter", "fixed"]:List Str) from by decide +kernel) rfl (ay rfl))) (λfp L s1 H1=>jj) (λfp L s1 H1=>(vo rfl c.units (vr 1) (vr 0) (λ_ _=>rfl)))))) (vr 1)) qy))))))
abbrev vR:Stmt:=top 47
abbrev zq:List Str:=["fixed", "letter", "worth", "more"]
theorem sc_with_worth:FnScope zq ["fixed", "letter", "worth"] (qc vR):=fsc
noncomputable def uL:Sl->Out (Fl×Sl):=(qL (kj 3 (d1 Vn (qe 0)))
  (qL (Vl 3 (qe 2) (qe 1))
  (jL (qe 3))))
noncomputable abbrev vS:List D->Out (D×List D):=ky zq [.val,.val,.val] (uL)
abbrev uc P w K mg base cv:=DefOk P w K mg base cv 1 "with_worth" ["fixed", "letter", "worth"] [.val,.val,.val] .sh (vS)
theorem JZ (Z:Zt K mg cv ca) (T:jC K mg "with_worth" vR ["fixed", "letter", "worth"]):uc P w K mg base cv:=
 qM (k:=0) (own':=[]) (fb:=uL) T sc_with_worth λcdv f A outer s H E c=>(qf (kn (i:=3) sc_with_worth.nd rfl (ay rfl) (vp (UV rfl) rfl Z.z_dict Wx (vr 0)))
  (qf (Jz (n:=3) c.units rfl (ay rfl) (by decide) (vr 2) (vr 1))
  (km [3] (ql (qp (vr 3))))))
abbrev jh:Stmt:=top 48
abbrev jy:List Str:=["contrasts", "room", "fixed", "letters", "choices", "worth"]
theorem sc_can_be_filled:FnScope jy ["contrasts", "room", "fixed", "letters"] (qc jh):=fsc
noncomputable def jz (gr:List D->Out (D×List D)):Sl->Out (Fl×Sl):=(qL (sIf (yn (uu (d1 UD (jl [] 1 [1,2] (jK (qe 0)) (gNm 0) ftT (qx [.vl,.vl,.vl] kO (qd (qe 0) (qd (qe 1) (qd (qe 2) qB)))))))) (jL (dC (.bl iN))) jk)
  (qL (sIf (jb (d2 eqD (d1 kM (qe 3)) (dC (.int 0)))) (jL (dC (.bl iO))) jk)
  (qL (kj 4 (dIf (jb (d2 eqD (d1 kM (qe 2)) (dC (.int 0)))) (Qq (qd (dC (.int 0)) qB)) (d1 uY (qe 1))))
  (qL (QO (jK (qe 4)) (gNm 5)
  (sIf (uu (qx [.vl,.vl,.vl,.vl] gr (qd (qe 0) (qd (qe 1) (qd (qx [.vl,.vl,.vl] vS (qd (qe 2) (qd (d2 ixD (qe 3) (dC (.int 0))) (qd (qe 5) qB)))) (qd (vC (qe 3) (iJ (dC (.int 1))) iL) qB)))))) (jL (dC (.bl iO))) jk))
  (jL (dC (.bl iN)))))))
noncomputable def qQ:Nat->List D->Out (D×List D)
 | 0=>ky jy [.val,.val,.val,.val] qhK
 | n+1=>ky jy [.val,.val,.val,.val] (jz (qQ n))
noncomputable abbrev uM:List D->Out (D×List D):=qQ 14
abbrev uj P w K mg base cv:=DefOk P w K mg base cv 16 "can_be_filled" ["contrasts", "room", "fixed", "letters"] [.val,.val,.val,.val] .sh uM
theorem zE (Z:Zt K mg cv ca) (T:jC K mg "can_be_filled" jh ["contrasts", "room", "fixed", "letters"]) (C:ub P w K mg base cv) (o:uc P w K mg base cv) (n:Nat):DefOk P w K mg base cv (2+n) "can_be_filled" ["contrasts", "room", "fixed", "letters"] [.val,.val,.val,.val] .sh (qQ n):=by
 induction n with
 | zero=>exact qM (k:=1) (own':=[]) (fb:=qhK) T sc_can_be_filled λcdv f A outer s H E c=>qdD
 | succ n a=>exact qM (k:=2+n) (own':=[]) (fb:=jz (qQ n)) T sc_can_be_filled λcdv f A outer s H E c=>(qf (qW (je (qV rfl (qF (gl rfl rfl) rfl Z.z_all gL (jM (N:=["contrast", "room", "fixed"]) (nt:=1) (cap:=[1,2]) rfl (wb (names:=(qc jh).names) rfl (by decide +kernel)) (jS (names:=(qc jh).names) (N:=jy) rfl rfl (by decide +kernel)) (qP rfl (vr 0)) (λfp L s1 H1=>(qC (i:=0) (show bj (["contrast", "room", "fixed"]:List Str) from by decide +kernel) rfl (ay rfl))) (λfp L s1 H1=>jj) (λfp L s1 H1=>(qr C c (by omega) xH rfl (qb (vr 0) (qb (vr 1) (qb (vr 2) qg))))))) (λ_=>rfl))) (ql (qp ut)) qH)
  (qf (qW (qT (yA rfl c.units) (qF (kC rfl) rfl Z.z_len ku (vr 3)) qy) (ql (qp ut)) qH)
  (qf (jg (i:=4) sc_can_be_filled.nd rfl (ay rfl) (qc4 (qT (yA rfl c.units) (qF (kC rfl) rfl Z.z_len ku (vr 2)) qy) (wo (qb qy qg)) (Xj rfl rfl Z.z_list Wy rfl Z.z_range qbr (vr 1))))
  (qf (vy bc rfl (qP rfl (vr 4)) (qC (i:=5) sc_can_be_filled.nd rfl (ay rfl))
  (ql (qW (qV rfl (qr a c (by omega) qJ rfl (qb (vr 0) (qb (vr 1) (qb (qr o c (by omega) qJ rfl (qb (vr 2) (qb (vo rfl c.units (vr 3) qy (λ_ _=>rfl)) (qb (vr 5) qg)))) (qb (Vo rfl (vr 3) (UF qy) UE) qg))))) (λ_=>rfl)) (ql (qp ut)) qH)))
  (ql (qp ut))))))
theorem zF (Z:Zt K mg cv ca) (T:jC K mg "can_be_filled" jh ["contrasts", "room", "fixed", "letters"]) (C:ub P w K mg base cv) (o:uc P w K mg base cv):uj P w K mg base cv:=zE Z T C o 14
abbrev kg:Stmt:=top 49
abbrev vU:List Str:=["seen", "room", "fixed", "bound", "letters"]
theorem sc_can_differ:FnScope vU ["seen", "room", "fixed"] (qc kg):=fsc
noncomputable def kP:Sl->Out (Fl×Sl):=(qL (sIf (jb (d2 ltD (qe 1) (d1 kM (qe 0)))) (jL (dC (.bl iN))) jk)
  (qL (kj 3 (qx [.vl,.vl] ua (qd (qe 0) (qd (qe 2) qB))))
  (qL (kj 4 (jl [] 1 [2] (jK (qx [.vl] qY (qd (qe 3) qB))) (gNm 0) (jb (d2 Js (qe 0) (qe 1))) (qe 0)))
  (jL (qx [.vl,.vl,.vl,.vl] uM (qd (qx [.vl] wj (qd (qe 3) qB)) (qd (qe 1) (qd (qe 2) (qd (qe 4) qB)))))))))
noncomputable abbrev ja:List D->Out (D×List D):=ky vU [.val,.val,.val] (kP)
abbrev ud P w K mg base cv:=DefOk P w K mg base cv 17 "can_differ" ["seen", "room", "fixed"] [.val,.val,.val] .sh (ja)
theorem Ka (Z:Zt K mg cv ca) (T:jC K mg "can_differ" kg ["seen", "room", "fixed"]) (o:va P w K mg base cv) (U:yy P w K mg base cv) (S:uJ P w K mg base cv) (a:uj P w K mg base cv):ud P w K mg base cv:=
 qM (k:=16) (own':=[]) (fb:=kP) T sc_can_differ λcdv f A outer s H E c=>(qf (qW (qT qaN (vr 1) (qF (kC rfl) rfl Z.z_len ku (vr 0))) (ql (qp ut)) qH)
  (qf (jg (i:=3) sc_can_differ.nd rfl (ay rfl) (qr U c (by decide) qJ rfl (qb (vr 0) (qb (vr 2) qg))))
  (qf (zL (N:=["letter", "fixed"]) (nt:=1) (cap:=[2]) sc_can_differ.nd (i:=4) rfl (ay rfl) rfl (wb (names:=(qc kg).names) rfl (by decide +kernel)) (jS (names:=(qc kg).names) (N:=vU) rfl rfl (by decide +kernel)) (qP rfl (qr o c (by decide) qJ rfl (qb (vr 3) qg))) (λfp L s1 H1=>(qC (i:=0) (show bj (["letter", "fixed"]:List Str) from by decide +kernel) rfl (ay rfl))) (λfp L s1 H1=>(Wf (qT (xb rfl c.units) (vr 0) (vr 1)))) (λfp L s1 H1=>(vr 0)))
  (km [4] (ql (qp (qr a c (by decide) qJ rfl (qb (qr S c (by decide) qJ rfl (qb (vr 3) qg)) (qb (vr 1) (qb (vr 2) (qb (vr 4) qg)))))))))))
abbrev kL:Stmt:=top 50
abbrev wk:List Str:=["seen", "room", "fixed", "letter", "worth"]
theorem sc_least_worths:FnScope wk ["seen", "room"] (qc kL):=fsc
noncomputable def wl:Sl->Out (Fl×Sl):=(qL (kj 2 (dC (.dct [])))
  (qL (QO (jK (qx [.vl] qY (qd (qe 0) qB))) (gNm 3)
  (qL (kj 4 (dC (.int 0)))
  (qL (qX (qfb (jb (d2 ltD (qe 4) (qe 1))) (yn (uu (qx [.vl,.vl,.vl] ja (qd (qe 0) (qd (qe 1) (qd (qx [.sl 2,.vl,.vl] vb (kA (qd (qe 3) (qd (qe 4) qB)))) qB)))))))
  (kj 4 (d2 ug (qe 4) (dC (.int 1)))) 102)
  (qL (sIf (jb (d2 eqD (qe 4) (qe 1))) (jL (dC .non)) jk)
  (Vl 2 (qe 4) (qe 3))))))
  (jL (d1 gk (d1 vg (qe 2))))))
noncomputable abbrev wm:List D->Out (D×List D):=ky wk [.val,.val] (wl)
abbrev uN P w K mg base cv:=DefOk P w K mg base cv 18 "least_worths" ["seen", "room"] [.val,.val] .sh (wm)
theorem Qi (Z:Zt K mg cv ca) (T:jC K mg "least_worths" kL ["seen", "room"]) (o:va P w K mg base cv) (W:yx P w K mg base cv) (B:ud P w K mg base cv):uN P w K mg base cv:=
 qM (k:=17) (own':=[]) (fb:=wl) T sc_least_worths λcdv f A outer s H E c=>(qf (kn (i:=2) sc_least_worths.nd rfl (ay rfl) Uu)
  (qf (vy bc rfl (qP rfl (qr o c (by decide) qJ rfl (qb (vr 0) qg))) (qC (i:=3) sc_least_worths.nd rfl (ay rfl))
  (qf (jg (i:=4) sc_least_worths.nd rfl (ay rfl) qy)
  (qf (gh 102 bc (PW.pt (Zp (qT qaN (vr 4) (vr 1)) (wa (je (qV rfl (qr B c (by decide) qJ rfl (qb (vr 0) (qb (vr 1) (qb (qr W c (by decide) qJ rfl (jv (i:=2) rfl (ay rfl) (by decide) (qb (vr 3) (qb (vr 4) qg)))) qg)))) (λ_=>rfl))))))
  (ql (jg (i:=4) sc_least_worths.nd rfl (ay rfl) (kl (wp rfl) (vr 4) qy))))
  (qf (qW (qT (yA rfl c.units) (vr 4) (vr 1)) (ql (qp Uo)) qH)
  (ql (Jz (n:=2) c.units rfl (ay rfl) (by decide) (vr 4) (vr 3)))))))
  (ql (qp (vp (Jq rfl) rfl Z.z_tuple wK (Vr rfl rfl rfl Z.z_sorted gM (jQ (i:=2) rfl (ay rfl) (by decide))))))))
abbrev ue:Stmt:=top 51
abbrev yJ:List Str:=["seen", "room", "found"]
theorem sc_room_from:FnScope yJ ["seen", "room"] (qc ue):=fsc
noncomputable def yK:Sl->Out (Fl×Sl):=(qL (kj 2 (qe 1))
  (qL (qX (yn (uu (qx [.vl,.vl,.vl] ja (qd (qe 0) (qd (qe 2) (qd (dC (.dct [])) qB))))))
  (kj 2 (d2 ug (qe 2) (dC (.int 1)))) 100)
  (jL (qe 2))))
noncomputable abbrev yL:List D->Out (D×List D):=ky yJ [.val,.val] (yK)
abbrev zr P w K mg base cv:=DefOk P w K mg base cv 18 "room_from" ["seen", "room"] [.val,.val] .sh (yL)
theorem VC (Z:Zt K mg cv ca) (T:jC K mg "room_from" ue ["seen", "room"]) (B:ud P w K mg base cv):zr P w K mg base cv:=
 qM (k:=17) (own':=[]) (fb:=yK) T sc_room_from λcdv f A outer s H E c=>(qf (jg (i:=2) sc_room_from.nd rfl (ay rfl) (vr 1))
  (qf (gh 100 bc (je (qV rfl (qr B c (by decide) qJ rfl (qb (vr 0) (qb (vr 2) (qb Uu qg)))) (λ_=>rfl)))
  (ql (jg (i:=2) sc_room_from.nd rfl (ay rfl) (kl (wp rfl) (vr 2) qy))))
  (ql (qp (vr 2)))))
abbrev vV:Stmt:=top 29
abbrev zt:List Str:=["thing"]
theorem Kb:FnScope zt ["thing"] (qc vV):=fsc
noncomputable def uO:Sl->Out (Fl×Sl):=(sIf (yn (uu (qx [.vl] uE (qd (qe 0) qB)))) (jR "NoWord" (qd (dC (.str "a word has 1 to 6 letters from a to z")) qB)) jk)
noncomputable abbrev uP:List D->Out (D×List D):=ky zt [.val] (uO)
abbrev xn P w K mg base cv:=DefOk P w K mg base cv 3 "check_word" ["thing"] [.val] .sh (uP)
theorem Kc (Z:Zt K mg cv ca) (T:jC K mg "check_word" vV ["thing"]) (o:xO P w K mg base cv):xn P w K mg base cv:=
 qM (k:=2) (own':=[]) (fb:=uO) T Kb λcdv f A outer s H E c=>(ql (qW (je (qV rfl (qr o c (by decide) qJ rfl (qb (vr 0) qg)) (λ_=>rfl))) (ql (ko rfl (xa rfl) rfl rfl (Z.mref "NoWord" (by decide +kernel)) (Z.xs.val "NoWord" (by decide +kernel)) (Z.xin "NoWord" (by decide +kernel)) (qb vk qg))) qH))
abbrev jc:Stmt:=xD (top 53) 3
abbrev wx:List Str:=["self", "word"]
theorem xo:FnScope wx ["self", "word"] (qc jc):=fsc
noncomputable def jA (ca:Str->Addr):Sl->Out (Fl×Sl):=(qL (kz (qx [.vl] uP (qd (qe 1) qB)))
  (qL (sIf (jb (d2 inA (qe 1) (d1 (Qz (ca "Words") "came") (qe 0)))) (jR "Known" (qd (dC (.str "the word is there")) qB)) jk)
  (sIf (jb (d2 eqD (d1 kM (d1 (Qz (ca "Words") "came") (qe 0))) (dC (.int 6)))) (jR "Full" (qd (dC (.str "there are 6 words")) qB)) jk)))
noncomputable abbrev jP (ca:Str->Addr):List D->Out (D×List D):=ky wx [.io,.val] (jA ca)
abbrev vW (ca:Str->Addr) P w K mg base cv:=zi P w K mg base cv 4 (ca "Words") "check_new" ["self", "word"] [.io,.val] .sh (jP ca)
theorem xp (Z:Zt K mg cv ca) (T:gH K (ca "Words") "check_new" "Words.check_new" jc ["self", "word"]) (o:xn P w K mg base cv):vW ca P w K mg base cv:=
 gI (k:=3) (own':=[0]) (fb:=jA ca) T xo λcdv f A outer s H E c=>(qf (ji (qr o c (by decide) qJ rfl (qb (vr 1) qg)))
  (qf (qW (qT (UO rfl c.units) (vr 1) (yq rfl Z.b_cls (Z.b_no "came" (by decide +kernel)) (jQ (i:=0) rfl (ay rfl) (by decide)))) (ql (ko rfl (xa rfl) rfl rfl (Z.mref "Known" (by decide +kernel)) (Z.xs.val "Known" (by decide +kernel)) (Z.xin "Known" (by decide +kernel)) (qb vk qg))) qH)
  (ql (qW (qT (yA rfl c.units) (qF (kC rfl) rfl Z.z_len ku (yq rfl Z.b_cls (Z.b_no "came" (by decide +kernel)) (jQ (i:=0) rfl (ay rfl) (by decide)))) (uW Z.c_MOST_WORDS rfl)) (ql (ko rfl (xa rfl) rfl rfl (Z.mref "Full" (by decide +kernel)) (Z.xs.val "Full" (by decide +kernel)) (Z.xin "Full" (by decide +kernel)) (qb vk qg))) qH))))
abbrev kh:Stmt:=xD (top 53) 4
abbrev vX:List Str:=["self", "word", "words", "seen", "width"]
theorem sc_Words_come:FnScope vX ["self", "word"] (qc kh):=fsc
noncomputable def ki (ca:Str->Addr):Sl->Out (Fl×Sl):=(qL (kz (qO (ca "Words") 0 "check_new" [.vl] (jP ca) (qd (qe 1) qB)))
  (qL (kj 2 (d2 ug (d1 (Qz (ca "Words") "came") (qe 0)) (xE (qd (qe 1) qB))))
  (qL (kj 3 (qx [.vl,.vl] gY (qd (qe 2) (qd (d1 (Qz (ca "Words") "look") (qe 0)) qB))))
  (qL (sIf (jb (d2 Zr (qx [.vl] yi (qd (qe 3) qB)) (dC .non))) (jR "Never" (qd (dC (.str "the word is seen as the same two letters as one that is there")) qB)) jk)
  (qL (kj 4 (qx [.vl,.vl] yL (qd (qe 3) (qd (d1 (Qz (ca "Words") "width") (qe 0)) qB))))
  (qL (gG (ca "Words") 0 "held" (qx [.vl,.vl,.vl,.vl] yg (qd (qe 2) (qd (d1 (Qz (ca "Words") "look") (qe 0)) (qd (qe 4) (qd (qx [.vl,.vl] wm (qd (qe 3) (qd (qe 4) qB))) qB))))))
  (qL (gG (ca "Words") 0 "came" (qe 2))
  (qL (gG (ca "Words") 0 "width" (qe 4))
  (jL (qe 4))))))))))
noncomputable abbrev vY (ca:Str->Addr):List D->Out (D×List D):=ky vX [.io,.val] (ki ca)
abbrev xq (ca:Str->Addr) P w K mg base cv:=zi P w K mg base cv 19 (ca "Words") "come" ["self", "word"] [.io,.val] .sh (vY ca)
theorem Ke (Z:Zt K mg cv ca) (T:gH K (ca "Words") "come" "Words.come" kh ["self", "word"]) (a:JS P w K mg base cv) (e:Qc P w K mg base cv) (O:Qe P w K mg base cv) (o:uN P w K mg base cv) (d:zr P w K mg base cv) (b:vW ca P w K mg base cv):xq ca P w K mg base cv:=
 gI (k:=18) (own':=[0]) (fb:=ki ca) T sc_Words_come λcdv f A outer s H E c=>(qf (ji (Yb (i:=0) Z.b_cls b c (by decide) qJ rfl (ay rfl) (by decide) (qb (vr 1) qg)))
  (qf (jg (i:=2) sc_Words_come.nd rfl (ay rfl) (kl (wp rfl) (yq rfl Z.b_cls (Z.b_no "came" (by decide +kernel)) (jQ (i:=0) rfl (ay rfl) (by decide))) (vn (qb (vr 1) qg))))
  (qf (jg (i:=3) sc_Words_come.nd rfl (ay rfl) (qr a c (by decide) qJ rfl (qb (vr 2) (qb (yq rfl Z.b_cls (Z.b_no "look" (by decide +kernel)) (jQ (i:=0) rfl (ay rfl) (by decide))) qg))))
  (qf (qW (qT qc5 (qr O c (by decide) qJ rfl (qb (vr 3) qg)) Uo) (ql (ko rfl (xa rfl) rfl rfl (Z.mref "Never" (by decide +kernel)) (Z.xs.val "Never" (by decide +kernel)) (Z.xin "Never" (by decide +kernel)) (qb vk qg))) qH)
  (qf (jg (i:=4) sc_Words_come.nd rfl (ay rfl) (qr d c (by decide) qJ rfl (qb (vr 3) (qb (yq rfl Z.b_cls (Z.b_no "width" (by decide +kernel)) (jQ (i:=0) rfl (ay rfl) (by decide))) qg))))
  (qf (yI rfl Z.b_cls (Z.b_no "held" (by decide +kernel)) (i:=0) rfl (ay rfl) (by decide) (qr e c (by decide) qJ rfl (qb (vr 2) (qb (yq rfl Z.b_cls (Z.b_no "look" (by decide +kernel)) (jQ (i:=0) rfl (ay rfl) (by decide))) (qb (vr 4) (qb (qr o c (by decide) qJ rfl (qb (vr 3) (qb (vr 4) qg))) qg))))))
  (qf (yI rfl Z.b_cls (Z.b_no "came" (by decide +kernel)) (i:=0) rfl (ay rfl) (by decide) (vr 2))
  (qf (yI rfl Z.b_cls (Z.b_no "width" (by decide +kernel)) (i:=0) rfl (ay rfl) (by decide) (vr 4))
  (ql (qp (vr 4)))))))))))
abbrev zT:Stmt:=top 62
abbrev Yi:List Str:=["_law_e", "_law_own"]
theorem sc_Lwhich:FnScope Yi ["_law_e"] (qc zT):=fsc
noncomputable def xu (ca:Str->Addr):Sl->Out (Fl×Sl):=(qL (kj 1 (Qq (qd (d1 (gn (Vb ca CS "NoWords")) (qe 0)) (qd (d1 (gn (Vb ca CS "NoLook")) (qe 0)) (qd (d1 (gn (Vb ca CS "NoNumbers")) (qe 0)) (qd (d1 (gn (Vb ca CS "NoRoom")) (qe 0)) qB))))))
  (qL (kz (zz 1 qao (Qq (qd (d1 (gn (Vb ca CS "NoWord")) (qe 0)) (qd (d1 (gn (Vb ca CS "NoWorths")) (qe 0)) (qd (d1 (gn (Vb ca CS "Never")) (qe 0)) (qd (d1 (gn (Vb ca CS "Full")) (qe 0)) qB)))))))
  (qL (kz (zz 1 qao (Qq (qd (d1 (gn (Vb ca CS "Known")) (qe 0)) (qd (d1 (gn (Vb ca CS "NoPlace")) (qe 0)) (qd (d1 (gn (Vb ca CS "NoLetters")) (qe 0)) (qd (d1 (gn (Vb ca CS "NoText")) (qe 0)) qB)))))))
  (qL (kz (zz 1 QT (d1 (gn (Vb ca CS "Nothing")) (qe 0))))
  (qL (sIf (dOr (jb (d2 neD (d1 (QU iO) (qe 1)) (dC (.int 1)))) (yn (uu (d1 (gn (qfv ca CS)) (qe 0))))) (jL (xE (qd (dC (.str "refused")) (qd (d1 qfo (dC (.int 1))) qB)))) jk)
  (jL (xE (qd (dC (.str "refused")) (qd (d1 (QV iO) (qe 1)) qB)))))))))
noncomputable abbrev yk (ca:Str->Addr):List D->Out (D×List D):=ky Yi [.val] (xu ca)
abbrev VD (ca:Str->Addr) P w K mg base cv:=qhn P w K mg base cv 1 "_law_which" ["_law_e"] [.val] .sh (yk ca)
theorem GO (Z:Zt K mg cv ca) (T:jC K mg "_law_which" zT ["_law_e"]):VD ca P w K mg base cv:=
 qho (k:=0) (own':=[]) (fb:=xu ca) T sc_Lwhich λcdv f A outer s H E c=>(qf (kn (i:=1) sc_Lwhich.nd rfl (ay rfl) (wo (qb (wq rfl Z.z_isinstance qv rfl (Z.mref "NoWords" (by decide +kernel)) (Z.xs.ans (by decide +kernel)) (vr 0)) (qb (wq rfl Z.z_isinstance qv rfl (Z.mref "NoLook" (by decide +kernel)) (Z.xs.ans (by decide +kernel)) (vr 0)) (qb (wq rfl Z.z_isinstance qv rfl (Z.mref "NoNumbers" (by decide +kernel)) (Z.xs.ans (by decide +kernel)) (vr 0)) (qb (wq rfl Z.z_isinstance qv rfl (Z.mref "NoRoom" (by decide +kernel)) (Z.xs.ans (by decide +kernel)) (vr 0)) qg))))))
  (qf (ji (gj (i:=1) rfl (ay rfl) (by decide) (wo (qb (wq rfl Z.z_isinstance qv rfl (Z.mref "NoWord" (by decide +kernel)) (Z.xs.ans (by decide +kernel)) (vr 0)) (qb (wq rfl Z.z_isinstance qv rfl (Z.mref "NoWorths" (by decide +kernel)) (Z.xs.ans (by decide +kernel)) (vr 0)) (qb (wq rfl Z.z_isinstance qv rfl (Z.mref "Never" (by decide +kernel)) (Z.xs.ans (by decide +kernel)) (vr 0)) (qb (wq rfl Z.z_isinstance qv rfl (Z.mref "Full" (by decide +kernel)) (Z.xs.ans (by decide +kernel)) (vr 0)) qg)))))))
  (qf (ji (gj (i:=1) rfl (ay rfl) (by decide) (wo (qb (wq rfl Z.z_isinstance qv rfl (Z.mref "Known" (by decide +kernel)) (Z.xs.ans (by decide +kernel)) (vr 0)) (qb (wq rfl Z.z_isinstance qv rfl (Z.mref "NoPlace" (by decide +kernel)) (Z.xs.ans (by decide +kernel)) (vr 0)) (qb (wq rfl Z.z_isinstance qv rfl (Z.mref "NoLetters" (by decide +kernel)) (Z.xs.ans (by decide +kernel)) (vr 0)) (qb (wq rfl Z.z_isinstance qv rfl (Z.mref "NoText" (by decide +kernel)) (Z.xs.ans (by decide +kernel)) (vr 0)) qg)))))))
  (qf (ji (uy (i:=1) rfl rfl (ay rfl) (by decide) (wq rfl Z.z_isinstance qv rfl (Z.mref "Nothing" (by decide +kernel)) (Z.xs.ans (by decide +kernel)) (vr 0))))
  (km [1] (qf (qW (PW.pt (zd (qT (YR rfl c.units) (qa2 rfl (vr 1)) qy) (wa (je (qV rfl (qdr rfl Z.z_isinstance qv rfl Z.z_ValueError JD Z.xs.ansV (vr 0)) (λ_=>rfl)))))) (ql (qp (vn (qb vk (qb (qe3 qb3 qy) qg))))) qH)
  (ql (qp (vn (qb vk (qb (qa3 rfl (vr 1)) qg)))))))))))
abbrev Kf:Stmt:=top 63
abbrev GP:List Str:=["_law_some", "_law_word_here", "_law_e"]
theorem sc_Lcome:FnScope GP ["_law_some", "_law_word_here"] (qc Kf):=fsc
noncomputable def Kg (ca:Str->Addr):Sl->Out (Fl×Sl):=(qdj 3 (iJ 2) (qfu ca CS) (jL (qO (ca "Words") 0 "come" [.vl] (vY ca) (qd (qe 1) qB))) (jL (qx [.vl] (yk ca) (qd (qe 2) qB))))
noncomputable abbrev kT (ca:Str->Addr):List D->Out (D×List D):=ky GP [.io,.val] (Kg ca)
abbrev Yj (ca:Str->Addr) P w K mg base cv:=DefOk P w K mg base cv 20 "_law_come" ["_law_some", "_law_word_here"] [.io,.val] .sh (kT ca)
theorem qbC (Z:Zt K mg cv ca) (T:jC K mg "_law_come" Kf ["_law_some", "_law_word_here"]) (o:xq ca P w K mg base cv) (O:VD ca P w K mg base cv):Yj ca P w K mg base cv:=
 qM (k:=19) (own':=[0]) (fb:=Kg ca) T sc_Lcome λcdv f A outer s H E c=>(ql (qdk (own2:=[]) (n:=3) (j:=2) rfl rfl rfl rfl Z.m_WordError Z.xs.hit sc_Lcome.nd rfl rfl rfl (λpn xe E hx=>(ql (qp (Yb (i:=0) Z.b_cls o c (by decide) hx rfl (ay rfl) (by decide) (qb (vr 1) qg))))) (λe=>(ql (qp (ZJ O ((c.quiet.mono (by decide)).mark _) xH rfl (qb (vr 2) qg)))))))
abbrev WR:Stmt:=top 64
abbrev qbD:List Str:=["_law_script", "_law_town", "_law_look_here", "_law_later", "_law_word_here", "_law_one", "_law_other", "_law_before", "_law_still", "_law_told"]
theorem sc_law:FnScope qbD ["_law_script"] (qc WR):=fsc
noncomputable def qdO (ca:Str->Addr):Sl->Out (Fl×Sl):=(qL (kj 1 (Qq qB))
  (qL (kj 2 (qx [.vl,.sl 1] WG (qd (qe 0) (kA qB))))
  (qL (qgK 5 6 (qd (Gr (ca "Words") (jT ca) (qd (qe 2) qB)) (qd (Gr (ca "Words") (jT ca) (qd (qe 2) qB)) qB)))
  (qL (kj 3 (Qq qB))
  (qL (QO (jK (d2 ug (qx [.vl,.sl 1,.vl] yb (qd (qe 0) (kA (qd (dC (.int 6)) qB)))) (qx [.vl,.sl 1,.vl] yb (qd (qe 0) (kA (qd (dC (.int 6)) qB)))))) (gNm 4)
  (qL (kj 7 (xE (qd (qO (ca "Words") 5 "words" [] (jr ca) qB) (qd (qO (ca "Words") 5 "room" [] (jD ca) qB) (qd (qO (ca "Words") 5 "numbers" [] (qA ca) qB) qB)))))
  (qL (kj 8 (qO (ca "Words") 6 "numbers" [] (qA ca) qB))
  (qL (kj 9 (qx [.sl 5,.vl] (kT ca) (kA (qd (qe 4) qB))))
  (qL (sIf (jb (d2 neD (qO (ca "Words") 6 "numbers" [] (qA ca) qB) (qe 8))) (jL (dC (.bl iN))) jk)
  (qL (sIf (yn (uu (d1 (xA "int") (qe 9)))) (sIf (dOr (jb (d2 neD (xE (qd (qO (ca "Words") 5 "words" [] (jr ca) qB) (qd (qO (ca "Words") 5 "room" [] (jD ca) qB) (qd (qO (ca "Words") 5 "numbers" [] (qA ca) qB) qB)))) (qe 7))) (jb (d2 Js (qe 9) (jl [3,6,5,1] 1 [] (jK (xE (qd (dC (.int 6)) (qd (dC (.int 7)) (qd (dC (.int 8)) qB))))) (gNm 0) ftT (xE (qd (dC (.str "refused")) (qd (qe 0) qB))))))) (jL (dC (.bl iN))) jk) jk)
  (qL (kz (zz 3 QT (qe 4)))
  (sIf (jb (d2 eqD (qx [.vl,.sl 1,.vl] wN (qd (qe 0) (kA (qd (dC (.int 2)) qB)))) (dC (.int 0)))) (qL (QO (jK (qe 3)) (gNm 4)
  (kz (qx [.sl 6,.vl] (kT ca) (kA (qd (qe 4) qB)))))
  (kj 3 (Qq qB))) jk))))))))
  (qL (QO (jK (qe 3)) (gNm 4)
  (kz (qx [.sl 6,.vl] (kT ca) (kA (qd (qe 4) qB)))))
  (jL (Jl (d2 eqD (qO (ca "Words") 6 "words" [] (jr ca) qB) (qO (ca "Words") 5 "words" [] (jr ca) qB)) (Jl (d2 eqD (qO (ca "Words") 6 "room" [] (jD ca) qB) (qO (ca "Words") 5 "room" [] (jD ca) qB)) (d2 eqD (qO (ca "Words") 6 "numbers" [] (qA ca) qB) (qO (ca "Words") 5 "numbers" [] (qA ca) qB)))))))))))
noncomputable abbrev qbE (ca:Str->Addr):List D->Out (D×List D):=ky qbD [.val] (qdO ca)
theorem qfP {f:Addr} {fd:lm} (Z:Zt K mg cv ca) (F:Fun K "law" "law" WR f fd) (z:xg ca P w K mg base cv) (y:yu ca P w K mg base cv) (G:wu ca P w K mg base cv) (o:ui ca P w K mg base cv) (m:ya P w K mg base cv) (X:Vu P w K mg base cv) (a:Yg P w K mg base cv) (O:Yj ca P w K mg base cv):FnOk P w K mg base (CXk P w) 21 f fd ["_law_script"] (spD K cv [.val] .sh (qbE ca)):=
 qgt (k:=20) (own':=[]) (fb:=qdO ca) F sc_law rfl (kU rfl) (.inl rfl) (λcdv A outer s H E c=>(qf (kn (i:=1) sc_law.nd rfl (ay rfl) (wo qg))
  (qf (jg (i:=2) sc_law.nd rfl (ay rfl) (qr a c (by decide) qJ rfl (qb (vr 0) (jv (i:=1) rfl (ay rfl) (by decide) qg))))
  (qf (qbq (i:=5) (j:=6) rfl sc_law.nd rfl rfl rfl rfl (Gt G c (by decide) qJ rfl Z.m_Words (qb (vr 2) qg)) (Gt G c (by decide) qJ rfl Z.m_Words (qb (vr 2) qg)))
  (qf (kn (i:=3) sc_law.nd rfl (ay rfl) (wo qg))
  (qf (vy bc rfl (qP rfl (kl (wp rfl) (qr X c (by decide) qJ rfl (qb (vr 0) (jv (i:=1) rfl (ay rfl) (by decide) (qb qy qg)))) (qr X c (by decide) qJ rfl (qb (vr 0) (jv (i:=1) rfl (ay rfl) (by decide) (qb qy qg)))))) (qC (i:=4) sc_law.nd rfl (ay rfl))
  (qf (jg (i:=7) sc_law.nd rfl (ay rfl) (vn (qb (jq (i:=5) Z.b_cls y c (by decide) qJ rfl (ay rfl) (by decide)) (qb (jq (i:=5) Z.b_cls z c (by decide) qJ rfl (ay rfl) (by decide)) (qb (jq (i:=5) Z.b_cls o c (by decide) qJ rfl (ay rfl) (by decide)) qg)))))
  (qf (jg (i:=8) sc_law.nd rfl (ay rfl) (jq (i:=6) Z.b_cls o c (by decide) qJ rfl (ay rfl) (by decide)))
  (qf (jg (i:=9) sc_law.nd rfl (ay rfl) (qr O c (by decide) qJ rfl (jv (i:=5) rfl (ay rfl) (by decide) (qb (vr 4) qg))))
  (qf (qW (qT (YR rfl c.units) (jq (i:=6) Z.b_cls o c (by decide) qJ rfl (ay rfl) (by decide)) (vr 8)) (ql (qp ut)) qH)
  (qf (qW (je (qV rfl (yZ rfl rfl Z.z_isinstance qv rfl Z.z_int qce (vr 9)) (λ_=>rfl))) (ql (qW (PW.pt (zd (qT (YR rfl c.units) (vn (qb (jq (i:=5) Z.b_cls y c (by decide) qJ rfl (ay rfl) (by decide)) (qb (jq (i:=5) Z.b_cls z c (by decide) qJ rfl (ay rfl) (by decide)) (qb (jq (i:=5) Z.b_cls o c (by decide) qJ rfl (ay rfl) (by decide)) qg)))) (vr 7)) (wa (qT (xb rfl c.units) (vr 9) (jM (N:=["_law_k"]) (nt:=1) (cap:=[]) rfl (wb (names:=(qc WR).names) rfl (by decide +kernel)) (jS (names:=(qc WR).names) (N:=qbD) rfl rfl (by decide +kernel)) (qP rfl (vn (qb qy (qb qy (qb qy qg))))) (λfp L s1 H1=>(qC (i:=0) (show bj (["_law_k"]:List Str) from by decide +kernel) rfl (ay rfl))) (λfp L s1 H1=>jj) (λfp L s1 H1=>(vn (qb vk (qb (vr 0) qg))))))))) (ql (qp ut)) qH)) qH)
  (qf (ji (uy (i:=3) rfl rfl (ay rfl) (by decide) (vr 4)))
  (ql (qW (qT (yA rfl c.units) (qr m c (by decide) qJ rfl (qb (vr 0) (jv (i:=1) rfl (ay rfl) (by decide) (qb qy qg)))) qy) (km [3] (qf (vy bc rfl (qP rfl (vr 3)) (qC (i:=4) sc_law.nd rfl (ay rfl))
  (ql (ji (qr O c (by decide) qJ rfl (jv (i:=6) rfl (ay rfl) (by decide) (qb (vr 4) qg))))))
  (ql (kn (i:=3) sc_law.nd rfl (ay rfl) (wo qg))))) qH)))))))))
  (km [3] (qf (vy bc rfl (qP rfl (vr 3)) (qC (i:=4) sc_law.nd rfl (ay rfl))
  (ql (ji (qr O c (by decide) qJ rfl (jv (i:=6) rfl (ay rfl) (by decide) (qb (vr 4) qg))))))
  (ql (qp (QN (ur (yA rfl c.units) (jq (i:=6) Z.b_cls y c (by decide) qJ rfl (ay rfl) (by decide)) (jq (i:=5) Z.b_cls y c (by decide) qJ rfl (ay rfl) (by decide))) (QN (ur (yA rfl c.units) (jq (i:=6) Z.b_cls z c (by decide) qJ rfl (ay rfl) (by decide)) (jq (i:=5) Z.b_cls z c (by decide) qJ rfl (ay rfl) (by decide))) (KJ (ur (yA rfl c.units) (jq (i:=6) Z.b_cls o c (by decide) qJ rfl (ay rfl) (by decide)) (jq (i:=5) Z.b_cls o c (by decide) qJ rfl (ay rfl) (by decide)))))))))))))))) λ_=>.inr rfl
end
end Kx
namespace Kx
open PySem PySem.Spec L2 L2.D2
variable {α:Type}
theorem wD (xs:List α) (k:Nat):atI xs (k:Int)=xs[k]?:=by
 unfold atI ixN;rw [if_pos (by omega)];by_cases h:k < xs.length;·rw [if_pos (by omega)];simp
 ·rw [if_neg (by omega),bP (by omega)];rfl
theorem qfQ {xs:List α} {i:Int} (h0:0<=i) (h1:i < xs.length):∃ d,atI xs i=iJ d/\d∈xs:=by
 obtain ⟨k,rfl⟩:=Int.eq_ofNat_of_zero_le h0;have h:k < xs.length:=by omega
 exact ⟨xs[k],by rw [wD,aE h],cr h⟩
theorem big:2000<=sizeLine:=by rw [iT]; decide
abbrev scr (ns:List Int):D:=.lst (ns.map .int)
theorem qdP (ns:List Int) (k:Nat):∃ i,xM [scr ns,.int k]=.ok (.int i,[.non,.non]):=by
 by_cases h:k < ns.length;·refine ⟨ns[k],?_⟩;refine runD_ap.trans ?_;simp [wv,qu,kM,ltD,ixD,qt,h,wD]
 ·by_cases h0:ns=[]
  ·subst h0;have a:¬((k:Int) < 0):=by omega
   exact ⟨0,by refine runD_ap.trans ?_; simp [wv,qu,kM,ltD,ixD,qt,eqD,eqN,wH,a]⟩
  ·have hp:0 < ns.length:=List.length_pos_iff.mpr h0;have c:k % ns.length < ns.length:=Nat.mod_lt _ hp;have e:atI (ns.map D.int) ((k:Int) % (ns.length:Int))=iJ (.int ns[k % ns.length]):=by rw [show ((k:Int) % (ns.length:Int))=((k % ns.length:Nat):Int) by simp,wD,aK,aE c];rfl
   refine ⟨ns[k % ns.length] * 31+k,?_⟩;refine runD_ap.trans ?_;simp [wv,qu,kM,ltD,ixD,qt,eqD,eqN,h,h0,qan,qen,ug,KG,hp,e,CMul]
variable {many:Int}
theorem qbF (ns:List Int) (k:Nat) (h:0 < many):∃ r,0<=r/\r < many/\JL [scr ns,.int k,.int many]=.ok (.int r,[.non,.non,.non]):=by
 obtain ⟨c,a⟩:=qdP ns k;have h1:=fz (c * 1103515245+7919 * k+12345) (show (2147483647:Int)≠0 by decide);have h2:=d6 (c * 1103515245+7919 * k+12345) (show (0:Int) < 2147483647 by decide);generalize hd:(c * 1103515245+7919 * (k:Int)+12345) % 2147483647=d at h1 h2;have b:L2.D2.qem d 5:=⟨⟨by omega,by omega⟩,by omega,by omega⟩
 refine ⟨d ^ 5 % 2147483647 % 999983 % many,fz _ (by omega),d6 _ h,?_⟩;refine runD_ap.trans ?_;simp [JK,qu,qt,qD,jw,a,qen,qan,ug,qhJ,KG,h,hd,b,show ∀ j,CMul 7919 j from λj=>.inl ⟨by omega,by omega⟩,show ∀ i,CMul i 1103515245 from λi=>.inr ⟨by omega,by omega⟩]
theorem xY (ns:List Int) (town:List D) (c:0 < many) (l:town.length < 1000):∃ r,0<=r/\r < many/\wN [scr ns,.lst town,.int many]=.ok (.int r,[.non,.lst (town++[.int 0]),.non]):=by obtain ⟨r,h0,h1,h⟩:=qbF ns (town.length+1) c;have hl:town.length < sizeLine:=aI (eI l (by decide)) big;refine ⟨r,h0,h1,?_⟩;simp at h;refine runD_ap.trans ?_;simp [WB,qu,qt,qD,jw,yE,QT,kM,hl,h]
theorem GQ (ns:List Int) (town xs:List D) (hx:xs≠[]) (l:town.length < 1000):∃ d,d∈xs/\gR [scr ns,.lst town,.lst xs]=.ok (d,[.non,.lst (town++[.int 0]),.non]):=by have hp:0 < xs.length:=List.length_pos_iff.mpr hx;obtain ⟨r,h0,h1,h⟩:=xY ns town (many:=(xs.length:Int)) (by omega) l;obtain ⟨d,e,hd⟩:=qfQ (xs:=xs) h0 h1;refine ⟨d,hd,?_⟩;refine runD_ap.trans ?_;simp [WC,qu,qt,qD,jw,kM,h,ixD,e]
def az (c:Nat):Prop:=97<=c/\c<=122
def QG (w:Str):Prop:=1<=w.length/\w.length<=6/\∀ c∈w.cps.toList,az c
theorem Qj (x:Str):x.length=x.cps.size:=rfl
theorem GR (x y:Str):(x++y).cps=x.cps++y.cps:=rfl
def qgM (ls:List Str):Prop:=ls≠[]/\∀ x∈ls,∃ c,az c/\x=⟨#[c]⟩
theorem GS:∀ cs:List Nat,fZ (ae "") (cs.map λc=>(⟨#[c]⟩:Str))=⟨cs.toArray⟩:=by
 intro cs;have e:∀ cs:List Nat,Str.join (ae "") (cs.map λc=>(⟨#[c]⟩:Str))=⟨cs.toArray⟩:=by
  intro cs
  induction cs with
  | nil=>rfl
  | cons c cs j=>
   cases cs with
   | nil=>rfl
   | cons d ds=>
    show (⟨#[c]⟩:Str)++ae ""++Str.join (ae "") ((d::ds).map λc=>(⟨#[c]⟩:Str))=_;rw [j];have:((⟨#[c]⟩:Str)++ae ""++(⟨(d::ds).toArray⟩:Str)).cps=(c::d::ds).toArray:=by
     rw [GR,GR];have:(ae "").cps=#[]:=by decide +kernel
     rw [this];simp
    generalize h:(⟨#[c]⟩:Str)++ae ""++(⟨(d::ds).toArray⟩:Str)=x at this;obtain ⟨y⟩:=x;simp only at this;rw [this]
 unfold fZ;rw [StrLaws.glued_eq_join];exact e cs
theorem Yk:∀ cs:List Nat,((cs.map λc=>(⟨#[c]⟩:Str)).map (·.length)).sum=cs.length
 | []=>rfl
 | c::cs=>by have j:=Yk cs;rw [aL,aL,List.sum_cons,j,aq];show 1 + _=_;omega
theorem wy:∀ ws:List Str,yG (ws.map D.str)=iJ ws
 | []=>rfl
 | w::ws=>by simp [yG,wy ws]
variable {ls:List Str}
theorem VE (ns:List Int) (hl:qgM ls):∀ (ds:List D) (town:List D) (k:Option D),town.length+ds.length < 1000 ->∃ (cs:List Nat) (t:List D) (k':Option D),t.length=town.length+ds.length/\cs.length=ds.length/\(∀ c∈cs,az c) /\
   kR (gNm 0) ftT (qx [.vl,.sl 2,.vl] gR (qd (qe 1) (kA (qd (qe 3) qB)))) ds [k,iJ (scr ns),iJ (.lst town),iJ (.lst (ls.map D.str))]
    = .ok ((cs.map λc=>(⟨#[c]⟩:Str)).map D.str,[k',iJ (scr ns),iJ (.lst t),iJ (.lst (ls.map D.str))])
 | [],town,k,_=>⟨[],town,k,by simp,rfl,by simp,rfl⟩
 | d::ds,town,k,ht=>by
  rw [aq] at ht;obtain ⟨e,i,hp⟩:=GQ ns town (ls.map D.str) (by simpa using hl.1) (by omega);obtain ⟨x,hx,rfl⟩:=aC.mp i;obtain ⟨c,a,rfl⟩:=hl.2 x hx;obtain ⟨cs,t,k',p,o,z,q⟩:=VE ns hl ds (town++[.int 0]) (iJ d) (by rw [aj]; simp; omega);refine ⟨c::cs,t,k',?_,by simp [o],?_,?_⟩;·rw [p,aj,aq];simp;omega
  ·intro y h;rcases ac.mp h with rfl | h;·exact a
   ·exact z y h
  ·simp [kR,Wh,qD,jw,hp,q]
theorem qdQ (ns:List Int) (town:List D) (hl:qgM ls) (l:town.length < 900):∃ w t,QG w/\t.length<=town.length+8/\JP [scr ns,.lst town,.lst (ls.map D.str),.int 6]=.ok (.str w,[.non,.lst t,.non,.non]):=by
 obtain ⟨r,r0,r1,h⟩:=xY ns town (many:=6) (by omega) (by omega);have n:(Jn 0 (1+r).toNat).length=(1+r).toNat:=by simp [Jn]
 obtain ⟨cs,t,k',p,o,z,q⟩:=VE ns hl (Jn 0 (1+r).toNat) (town++[.int 0]) iL (by rw [n,aj]; simp; omega);rw [n] at p o;rw [aj] at p;simp at p;refine ⟨⟨cs.toArray⟩,t,⟨?_,?_,?_⟩,by omega,?_⟩;·show 1<=cs.toArray.size;simp; omega
 ·show cs.toArray.size<=6;simp; omega
 ·simpa using z
 ·refine runD_ap.trans ?_;have k:-(2 ^ 62:Int)<=1+r/\1+r < 2 ^ 62:=by omega
  have b:=big;have hz:(Jn 0 (1+r).toNat).length<=sizeLine:=by rw [n]; omega
  have d:iu (ae "")=0:=by decide +kernel
  have hs:=Yk cs;have j:Gg (ae "") (.lst ((cs.map λc=>(⟨#[c]⟩:Str)).map D.str))=.ok (.str ⟨cs.toArray⟩):=by unfold Gg;simp only [wy,GS,hs];rw [if_pos ⟨by simp [d]; omega,by show cs.toArray.size<=_; simp; omega⟩]
  simp only [WE,qu,Gf,xJ,jl];simp [-ce,qD,jw,h,vx,ug,-Int.reducePow,k,hz,vz,q,jY,j,qt]
theorem wz (w:Str):∀ ws:List Str,Qt 7 (.str w) (ws.map D.str)=iJ (decide (w∈ws))
 | []=>by simp [Qt]
 | a::ws=>by
  have j:=wz w ws;simp only [aL,Qt,j];simp [eqN,eqS];by_cases h:a=w;·simp [h]
  ·simp [h,aZ h]
def vH (ws:List Str):Prop:=1<=ws.length/\ws.length<=6/\ws.Nodup/\∀ w∈ws,QG w
abbrev GT:Sl->Out (Fl×Sl):=(qL (kj 6 (qx [.vl,.sl 1,.vl,.vl] JP (qd (qe 0) (kA (qd (qe 3) (qd (dC (.int 6)) qB))))))
  (sIf (jb (d2 Js (qe 6) (qe 4))) (kz (zz 4 QT (qe 6))) jk))
theorem xZ (ns:List Int) (m:D) (h:qgM ls):∀ (ds:List D) (town:List D) (ws:List Str) (k u:Option D),town.length+8 * ds.length < 900->ws.length+ds.length<=100->ws.Nodup->(∀ w∈ws,QG w) ->∃ (t:List D) (c:List Str) (k' U:Option D),t.length<=town.length+8 * ds.length/\c.length<=ws.length+ds.length/\ws.length<=c.length/\(ds≠[]->1<=c.length)/\c.Nodup/\(∀ w∈c,QG w) /\
   kQ (gNm 5) GT ds [iJ (scr ns),iJ (.lst town),iJ m,iJ (.lst (ls.map D.str)),iJ (.lst (ws.map D.str)),k,u]=.ok (.nx,[iJ (scr ns),iJ (.lst t),iJ m,iJ (.lst (ls.map D.str)),iJ (.lst (c.map D.str)),k',U])
 | [],town,ws,k,u,_,_,hn,hw=>⟨town,ws,k,u,by simp,by simp,by simp,by simp,hn,hw,rfl⟩
 | d::ds,town,ws,k,u,ht,hl,hn,hw=>by
  rw [aq] at ht hl;obtain ⟨w,j,W,y,hg⟩:=qdQ ns town h (by omega);have n:=big;have hz:ws.length < sizeLine:=by omega
  by_cases e:w∈ws
  ·obtain ⟨t,c,k',U,r,o,f,q,i,l,g⟩:=xZ ns m h ds j ws (iJ d) (iJ (.str w)) (by omega) (by omega) hn hw;refine ⟨t,c,k',U,by rw [aq]; omega,by rw [aq]; omega,f,λ_=>?_,i,l,?_⟩;·have:0 < ws.length:=eY e;omega
   ·rw [<-g];simp [kQ,GT,qD,jw,hg,Js,Wb,inD,wz,e]
  ·obtain ⟨t,c,k',U,r,o,f,q,i,l,g⟩:=xZ ns m h ds j (ws++[w]) (iJ d) (iJ (.str w)) (by omega) (by rw [aj]; simp; omega) (eU.mpr ⟨hn,by simp,λa p b n=>by
    rw [aA.mp n];exact λz=>e (z ▸ p)⟩) (λx hx=>by
    rcases aJ.mp hx with hx | hx;·exact hw x hx
    ·rw [aA.mp hx];exact W)
   rw [aj] at o f;simp at o f;refine ⟨t,c,k',U,by rw [aq]; omega,by rw [aq]; omega,by omega,λ_=>by omega,i,l,?_⟩;rw [<-g];simp [kQ,GT,qD,jw,hg,Js,Wb,inD,wz,e,yE,QT,hz]
noncomputable def LETS:List (List Str):=[["a", "b"],["a", "b", "c"],["a", "b", "c", "d"],["k", "m", "z", "a", "e"]]
theorem qdR:∀ ls∈LETS,qgM ls:=by
 have h1:∀ ls∈LETS,∀ x∈ls,x∈(["a", "b", "c", "d", "k", "m", "z", "e"]:List Str):=by decide +kernel
 have h2:∀ ls∈LETS,ls≠[]:=by decide +kernel
 intro ls h;refine ⟨h2 ls h,λx hx=>?_⟩;have h3:=h1 ls h x hx;simp only [ac,bV,or_false] at h3;rcases h3 with rfl | rfl | rfl | rfl | rfl | rfl | rfl | rfl;·exact ⟨97,by unfold az; decide,by decide +kernel⟩
 ·exact ⟨98,by unfold az; decide,by decide +kernel⟩
 ·exact ⟨99,by unfold az; decide,by decide +kernel⟩
 ·exact ⟨100,by unfold az; decide,by decide +kernel⟩
 ·exact ⟨107,by unfold az; decide,by decide +kernel⟩
 ·exact ⟨109,by unfold az; decide,by decide +kernel⟩
 ·exact ⟨122,by unfold az; decide,by decide +kernel⟩
 ·exact ⟨101,by unfold az; decide,by decide +kernel⟩
theorem Yl (ns:List Int) (town:List D) (g:town.length < 700):∃ ws t,vH ws/\ws.length<=6/\t.length<=town.length+50/\yb [scr ns,.lst town,.int 6]=.ok (.tup (ws.map D.str),[.non,.lst t,.non]):=by
 obtain ⟨d,hd,hp⟩:=GQ ns town (LETS.map λl=>.lst (l.map D.str)) (by simp [LETS]) (by omega);obtain ⟨ls,h,rfl⟩:=aC.mp hd;have hl:=qdR ls h;obtain ⟨r,r0,r1,a⟩:=xY ns (town++[.int 0]) (many:=6) (by omega) (by rw [aj]; simp; omega);have n:(Jn 0 (1+r).toNat).length=(1+r).toNat:=by simp [Jn]
 obtain ⟨t,c,k',U,p,o,j,q,m,f,k⟩:=xZ ns (.int 6) hl (Jn 0 (1+r).toNat) (town++[.int 0]++[.int 0]) [] iL iL (by rw [n,aj,aj]; simp; omega) (by rw [n]; simp; omega) c8 (by simp);have e:Jn 0 (1+r).toNat≠[]:=λz=>by rw [z] at n;simp at n;omega
 refine ⟨c,t,⟨q e,?_,m,f⟩,?_,?_,?_⟩;·rw [n] at o;simp at o;omega
 ·rw [n] at o;simp at o;omega
 ·rw [n,aj,aj] at p;simp at p;omega
 ·refine runD_ap.trans ?_;have b:-(2 ^ 62:Int)<=1+r/\1+r < 2 ^ 62:=by omega
  have i:=big;have hz:4<=sizeLine:=by omega
  simp only [cV,List.cons_append,h9,cI] at k a;simp only [LETS,aL,cI] at hp;simp [JQ,qu,qt,qD,jw,hp,a,vx,ug,-Int.reducePow,b,hz,k,gk]
def VS (p q:Int):Prop:=(-3<=p/\p<=2)/\-3<=q/\q<=2
theorem qdS (ns:List Int) (town:List D) (l:town.length < 900):∃ p q t,VS p q/\t.length=town.length+2/\WG [scr ns,.lst town]=.ok (.tup [.int p,.int q],[.non,.lst t]):=by
 obtain ⟨r,r0,r1,c⟩:=xY ns town (many:=6) (by omega) (by omega);obtain ⟨u,b,a,f⟩:=xY ns (town++[.int 0]) (many:=6) (by omega) (by rw [aj]; simp; omega);have d:=big;have hz:2<=sizeLine:=by omega
 refine ⟨r - 3,u - 3,town++[.int 0,.int 0],⟨⟨by omega,by omega⟩,by omega,by omega⟩,by simp,?_⟩;refine runD_ap.trans ?_;simp only [cV,List.cons_append,h9] at f;simp [WF,qu,qt,qD,jw,c,f,YO,KG,hz]
noncomputable def xw (n:Nat) (p:Int):Nat:=(max 0 (min (if 0<=p then p else (n:Int)+p) ((n:Int) - 1))).toNat
noncomputable def GU (w:Str) (p:Int):Str:=⟨#[(w.cps.toList[xw w.length p]?).getD 0]⟩
variable {w:Str}
theorem zu (hw:QG w) (p:Int):vG [.str w,.int p]=.ok (.str (GU w p),[.non,.non]):=by
 have h1:=hw.1;have h:(w.cps.toList.length:Int)=w.length:=by simp [Qj]
 have key:∀ q:Int,q=(if 0<=p then p else (w.length:Int)+p)->atI w.cps.toList (if 0 < (if (w.length:Int) - 1 < q then (w.length:Int) - 1 else q) then (if (w.length:Int) - 1 < q then (w.length:Int) - 1 else q) else 0)=iJ ((w.cps.toList[xw w.length p]?).getD 0):=by
  intro q hq;have e:(if 0 < (if (w.length:Int) - 1 < q then (w.length:Int) - 1 else q) then (if (w.length:Int) - 1 < q then (w.length:Int) - 1 else q) else 0)=(xw w.length p:Int):=by
   unfold xw;rw [<-hq];have:1<=(w.length:Int):=by omega
   generalize (w.length:Int)=n at *;split <;> split <;> omega
  have hl:xw w.length p < w.cps.toList.length:=by
   have Y:w.cps.toList.length=w.length:=by simp [Qj]
   rw [Y];unfold xw;omega
  rw [e,wD,aE hl];rfl
 refine runD_ap.trans ?_;by_cases hp:0<=p;·have k:=key p (by rw [if_pos hp]);simp [wS,qu,qt,geD,KG,hp,qgw,qgx,YO,kM,ixD,k,GU]
 ·have k:=key (w.length+p) (by rw [if_neg hp]);simp [wS,qu,qt,geD,KG,hp,qgw,qgx,YO,ug,kM,ixD,k,GU]
variable {own:List Nat}
theorem za (ρc:Sl):∀ (cap:List Nat) (n:Nat) (ρ:Sl),(∀ k∈cap,k∉own)->jY own ρc n cap ρ=ρ
 | [],n,ρ,_=>rfl
 | k::cap,n,ρ,h=>by unfold jY;rw [if_neg (h k (aw ..))];exact za ρc cap (n+1) ρ λx hx=>h x (af _ hx)
variable {fe:Sl->Out (D×Sl)}
theorem qfR {ft:Sl->Out (Bool×Sl)} {P:D->Bool} {F:D->D} {c:Sl}:∀ (ds:List D) (x:Option D),(∀ d∈ds,ft (iJ d::c)=.ok (P d,iJ d::c))->(∀ d∈ds,P d=iO->fe (iJ d::c)=.ok (F d,iJ d::c))->∃ n,kR (gNm 0) ft fe ds (x::c)=.ok ((ds.filter P).map F,n::c)
 | [],x,_,_=>⟨x,rfl⟩
 | d::ds,x,h,h'=>by
  obtain ⟨n,e⟩:=qfR ds (iJ d) (λd' hd=>h d' (af _ hd)) λd' hd=>h' d' (af _ hd);refine ⟨n,?_⟩;have h1:=h d (aw ..);have h2:=h' d (aw ..);cases q:P d with
  | true=>simp [kR,Wh,h1,q,h2 q,e]
  | false=>simp [kR,Wh,h1,q,e]
variable {cap:List Nat} {fi:Sl->Out (List D×Sl)} {ρ ρ1:Sl} {ds:List D}
theorem GV {fe:Sl->Out (D×Sl)} {ft:Sl->Out (Bool×Sl)} (P:D->Bool) (F:D->D) (m:∀ k∈cap,k∉own) (h:fi ρ=.ok (ds,ρ1)) (hl:ds.length<=sizeLine)
  (l:∀ d∈ds,ft (iJ d::cap.map λk=>(ρ1[k]?).getD iL)=.ok (P d,iJ d::cap.map λk=>(ρ1[k]?).getD iL)) (i:∀ d∈ds,P d=iO->fe (iJ d::cap.map λk=>(ρ1[k]?).getD iL)=.ok (F d,iJ d::cap.map λk=>(ρ1[k]?).getD iL)) :
  jl own 1 cap fi (gNm 0) ft fe ρ=.ok (.lst ((ds.filter P).map F),ρ1):=by
 obtain ⟨n,e⟩:=qfR ds iL l i;unfold jl;rw [h];simp only [wJ];rw [if_pos hl,show vz 1 cap ρ1=iL::cap.map λk=>(ρ1[k]?).getD iL from rfl,e];simp only [wJ,za _ _ _ _ m]
theorem WS (F:D->D) (m:∀ k∈cap,k∉own) (h:fi ρ=.ok (ds,ρ1)) (hl:ds.length<=sizeLine) (l:∀ d∈ds,fe (iJ d::cap.map λk=>(ρ1[k]?).getD iL)=.ok (F d,iJ d::cap.map λk=>(ρ1[k]?).getD iL)):jl own 1 cap fi (gNm 0) ftT fe ρ=.ok (.lst (ds.map F),ρ1):=by have e:=GV (ft:=ftT) (λ_=>iO) F m h hl (λ_ _=>rfl) λd hd _=>l d hd;rw [List.filter_eq_self.mpr λ_ _=>rfl] at e;exact e
theorem wA (F:D->D) (h:fi ρ=.ok (ds,ρ1)) (hl:ds.length<=sizeLine) (l:∀ d∈ds,fe (iJ d::cap.map λk=>(ρ1[k]?).getD iL)=.ok (F d,iJ d::cap.map λk=>(ρ1[k]?).getD iL)):jl [] 1 cap fi (gNm 0) ftT fe ρ=.ok (.lst (ds.map F),ρ1):=WS F (λ_ _=>by simp) h hl l
noncomputable def jd (ws:List Str) (p q:Int):List (Str×Str):=ws.map λw=>(GU w p,GU w q)
noncomputable def qm (l:List (Str×Str)):List D:=l.map λx=>.tup [.str x.1,.str x.2]
variable {n:Nat}
theorem jm (h:n<=2000):n<=sizeLine:=bE h big
abbrev Wd (ws:List Str):D:=.tup (ws.map D.str)
abbrev Ld (p q:Int):D:=.tup [.int p,.int q]
variable {ws:List Str} {p q:Int}
theorem Xr {G:List D->Out (D×List D)} (hw:vH ws) (h:∀ w∈ws,G [.str w,.int p]=.ok (.str (GU w p),[.non,.non])/\G [.str w,.int q]=.ok (.str (GU w q),[.non,.non])):jl [] 1 [1] (jK (qe 0)) (gNm 0) ftT (xE (qd (qx [.vl,.vl] G (qd (qe 0) (qd (d2 ixD (qe 1) (dC (.int 0))) qB))) (qd (qx [.vl,.vl] G (qd (qe 0) (qd (d2 ixD (qe 1) (dC (.int 1))) qB))) qB))) [iJ (Wd ws),iJ (Ld p q)]
   = .ok (.lst (qm (jd ws p q)),[iJ (Wd ws),iJ (Ld p q)]):=by
 have e:=wA (cap:=[1]) (fi:=jK (qe 0)) (ρ:=[iJ (Wd ws),iJ (Ld p q)]) (ρ1:=[iJ (Wd ws),iJ (Ld p q)]) (ds:=ws.map D.str)
  (fe:=(xE (qd (qx [.vl,.vl] G (qd (qe 0) (qd (d2 ixD (qe 1) (dC (.int 0))) qB))) (qd (qx [.vl,.vl] G (qd (qe 0) (qd (d2 ixD (qe 1) (dC (.int 1))) qB))) qB))))
  (λd=>match d with | .str w=>.tup [.str (GU w p),.str (GU w q)] | d=>d) (by simp [jJ]) (by rw [am]; exact jm (by have:=hw.2.1; omega)) (λd hd=>by obtain ⟨w,c,rfl⟩:=aC.mp hd;obtain ⟨h1,h2⟩:=h w c;have hz:2<=sizeLine:=jm (by omega);simp [qD,jw,ixD,atI,ixN,h1,h2,hz])
 rw [e];simp [qm,jd]
def Pl:D->Prop
 | .raw _=>False
 | .xcp _=>False
 | .ins _ _=>False
 | .dct _=>False
 | .at_ _ _=>False
 | _=>True
@[simp] theorem kk1:kE "NoneType" "int"=iJ false:=by decide +kernel
@[simp] theorem kk2:kE "bool" "int"=iJ true:=by decide +kernel
@[simp] theorem kk3:kE "int" "int"=iJ true:=by decide +kernel
@[simp] theorem kk4:kE "str" "int"=iJ false:=by decide +kernel
@[simp] theorem kk5:kE "tuple" "int"=iJ false:=by decide +kernel
@[simp] theorem kk6:kE "list" "int"=iJ false:=by decide +kernel
@[simp] theorem kb1:kE "NoneType" "bool"=iJ false:=by decide +kernel
@[simp] theorem kb2:kE "bool" "bool"=iJ true:=by decide +kernel
@[simp] theorem kb3:kE "int" "bool"=iJ false:=by decide +kernel
@[simp] theorem kb4:kE "str" "bool"=iJ false:=by decide +kernel
@[simp] theorem kb5:kE "tuple" "bool"=iJ false:=by decide +kernel
@[simp] theorem kb6:kE "list" "bool"=iJ false:=by decide +kernel
@[simp] theorem ks1:kE "NoneType" "str"=iJ false:=by decide +kernel
@[simp] theorem ks2:kE "bool" "str"=iJ false:=by decide +kernel
@[simp] theorem ks3:kE "int" "str"=iJ false:=by decide +kernel
@[simp] theorem ks4:kE "str" "str"=iJ true:=by decide +kernel
@[simp] theorem ks5:kE "tuple" "str"=iJ false:=by decide +kernel
@[simp] theorem ks6:kE "list" "str"=iJ false:=by decide +kernel
@[simp] theorem kt1:kE "NoneType" "tuple"=iJ false:=by decide +kernel
@[simp] theorem kt2:kE "bool" "tuple"=iJ false:=by decide +kernel
@[simp] theorem kt3:kE "int" "tuple"=iJ false:=by decide +kernel
@[simp] theorem kt4:kE "str" "tuple"=iJ false:=by decide +kernel
@[simp] theorem kt5:kE "tuple" "tuple"=iJ true:=by decide +kernel
@[simp] theorem kt6:kE "list" "tuple"=iJ false:=by decide +kernel
noncomputable def Kh:D->Bool
 | .tup _=>iO
 | _=>iN
noncomputable def isInt:D->Bool
 | .int _=>iO
 | .bl _=>iO
 | _=>iN
variable {d:D}
theorem qcg (h:Pl d):xA "tuple" d=.ok (.bl (Kh d)):=by cases d <;> first | exact h.elim | simp [xA,tyN,Kh]
noncomputable def GW:D->Bool
 | .str x=>decide (x.length=1)&&(!vI x "a"&&!vI "z" x)
 | _=>iN
noncomputable def WT (lo hi:Int):D->Bool
 | .int i=>decide (lo<=i)&&decide (i<=hi)
 | _=>iN
theorem zv (h:Pl d):vF [d]=.ok (.bl (GW d),[.non]):=by
 refine runD_ap.trans ?_;cases d <;> first
  | exact h.elim
  | (simp [vE,qu,qt,xA,tyN,GW]; done)
  | skip
 rename_i x;by_cases h1:x.length=1
 ·have c:(x.length:Int)=1:=by omega
  cases h2:vI x "a" <;> simp [vE,qu,xA,tyN,kM,eqD,eqN,eqS,leD,qt,GW,h1,c,h2]
 ·have c:¬(x.length:Int)=1:=by omega
  simp [vE,qu,xA,tyN,kM,eqD,eqN,eqS,leD,qt,GW,h1,c]
theorem vd (h:Pl d) (lo hi:Int):ka [d,.int lo,.int hi]=.ok (.bl (WT lo hi d),[.non,.non,.non]):=by
 refine runD_ap.trans ?_;cases d <;> first
  | exact h.elim
  | (simp [vM,qu,qt,xA,tyN,WT,vm]; done)
  | skip
 rename_i i;by_cases h1:lo<=i <;> simp [vM,qu,xA,tyN,leD,qt,WT,vm,h1]
theorem qch {c:Nat} (h:az c):GW (.str ⟨#[c]⟩)=true:=by
 have g:(ae "a").cps.toList=[97]:=by decide +kernel
 have hz:(ae "z").cps.toList=[122]:=by decide +kernel
 obtain ⟨h1,h2⟩:=h;have i:¬([c]:List Nat) < [97]:=by rw [List.cons_lt_cons_iff];simp;omega
 have l:¬([122]:List Nat) < [c]:=by rw [List.cons_lt_cons_iff];simp;omega
 have e1:vI ⟨#[c]⟩ (ae "a")=false:=by unfold vI;rw [g];exact decide_eq_false i
 have e:vI (ae "z") ⟨#[c]⟩=false:=by unfold vI;rw [hz];exact decide_eq_false l
 simp [GW,Qj,e1,e]
theorem Jc (f:α->Bool):∀ l:List α,vA (l.map λx=>.bl (f x))=iJ (l.map f)
 | []=>rfl
 | a::l=>by have j:=Jc f l;simp [vA,j]
theorem yl (f:α->Bool) (l:List α):UD (.lst (l.map λx=>.bl (f x)))=.ok (.bl (l.all f)):=by simp only [UD,Jc];simp [List.all_map,Function.comp_def]
theorem GX (hw:QG w) (p:Int):∃ c,az c/\GU w p=⟨#[c]⟩:=by
 have n:w.cps.toList.length=w.length:=by simp [Qj]
 have hl:xw w.length p < w.cps.toList.length:=by have:=hw.1;rw [n];unfold xw;omega
 refine ⟨w.cps.toList[xw w.length p],hw.2.2 _ (cr hl),?_⟩;unfold GU;rw [aE hl];rfl
theorem Jd (hw:QG w):uE [.str w]=.ok (.bl iO,[.non]):=by
 refine runD_ap.trans ?_;have e:=wA (cap:=[]) (fi:=jK (qe 0)) (ρ:=[iJ (.str w)]) (ρ1:=[iJ (.str w)]) (ds:=KZ w) (fe:=qx [.vl] vF (qd (qe 0) qB)) (λd=>.bl (GW d)) (by simp [jJ]) (by
   have:=hw.2.1;simp [KZ,<-Qj];exact jm (by omega)) (λd hd=>by
   obtain ⟨c,h,rfl⟩:=aC.mp hd;have h1:=zv (d:=.str ⟨#[c]⟩) trivial;simp [qD,jw,h1])
 have g:(KZ w).all GW=true:=by rw [aO];intro d hd;obtain ⟨c,h,rfl⟩:=aC.mp hd;exact qch (hw.2.2 c h)
 have h1:(1:Int)<=w.length:=by have:=hw.1; omega
 have a:(w.length:Int)<=6:=by have:=hw.2.1; omega
 simp only [gU,qu,aL,cI,aq,bg,Nat.reduceAdd,fC,cZ,bw];simp [xA,tyN,vm,kM,leD,h1,a,e,yl,g,qt]
theorem yM:∀ (ws ks:List Str),ws.Nodup->(∀ x∈ws,x∉ks)->ws.foldl zg ks=ks++ws
 | [],ks,_,_=>by simp
 | w::ws,ks,hn,hd=>by
  have h1:=aU.mp hn;rw [cj,show zg ks w=ks++[w] from if_neg (hd w (aw ..)),yM ws (ks++[w]) h1.2 ?_];·simp
  ·intro x hx z;rcases aJ.mp z with z | z;·exact hd x (af _ hx) z
   ·rw [aA.mp z] at hx;exact h1.1 hx
theorem xx (ws:List Str):∀ ks:List Str,ks.Nodup->(ws.foldl zg ks).Nodup/\∀ x,x∈ws.foldl zg ks↔x∈ks\/x∈ws:=by
 induction ws with
 | nil=>intro ks n; exact ⟨n,λx=>by simp⟩
 | cons w ws j=>
  intro ks n;have d:(zg ks w).Nodup:=by
   unfold zg;split;·exact n
   ·rename_i h;exact eU.mpr ⟨n,by simp,λa g b c=>by rw [aA.mp c];exact λz=>h (z ▸ g)⟩
  obtain ⟨a,b⟩:=j (zg ks w) d;refine ⟨a,λx=>?_⟩;rw [cj,b x];unfold zg;split
  ·rename_i h;constructor
   ·rintro (q | q);·exact .inl q
    ·exact .inr (af _ q)
   ·rintro (q | q);·exact .inl q
    ·rcases ac.mp q with rfl | q;·exact .inl h
     ·exact .inr q
  ·simp [aJ,or_assoc]
theorem WU (hw:vH ws):xR [.tup (ws.map D.str)]=.ok (.bl iO,[.non]):=by
 refine runD_ap.trans ?_;have e:=wA (cap:=[]) (fi:=jK (qe 0)) (ρ:=[iJ (.tup (ws.map D.str))]) (ρ1:=[iJ (.tup (ws.map D.str))]) (ds:=ws.map D.str) (fe:=qx [.vl] uE (qd (qe 0) qB)) (λd=>.bl iO) (by simp [jJ]) (by
   rw [am];exact jm (by have:=hw.2.1; omega)) (λd hd=>by
   obtain ⟨w,c,rfl⟩:=aC.mp hd;have h1:=Jd (hw.2.2.2 w c);simp [qD,jw,h1])
 have h1:(1:Int)<=ws.length:=by have:=hw.1; omega
 have a:(ws.length:Int)<=6:=by have:=hw.2.1; omega
 have h:ws.foldl zg []=ws:=by rw [yM ws [] hw.2.2.1 (by simp)]; simp
 have b:ws.length < 4000:=by omega
 have g:=yl (λ_:D=>iO) (ws.map D.str);simp only [xQ,qu,aL,cI,aq,bg,Nat.reduceAdd,fC,cZ,bw];simp [-ce,xA,tyN,vm,kM,leD,h1,a,e,g,qt,gD,xf,wy,h,b,eqD,eqN,eqS]
theorem QH (hw:vH ws):wQ [.tup (ws.map D.str)]=.ok (.non,[.non]):=by refine runD_ap.trans ?_;have h:=WU hw;simp [wP,qu,qt,qD,jw,h,vm]
theorem Xu (hl:VS p q):gP [.tup [.int p,.int q]]=.ok (.bl iO,[.non]):=by
 refine runD_ap.trans ?_;have e:=wA (cap:=[]) (fi:=jK (qe 0)) (ρ:=[iJ (.tup [.int p,.int q])]) (ρ1:=[iJ (.tup [.int p,.int q])]) (ds:=[.int p,.int q]) (fe:=qx [.vl,.vl,.vl] ka (qd (qe 0) (qd (dC (.int (-3))) (qd (dC (.int 2)) qB)))) (λd=>.bl (WT (-3) 2 d)) (by simp [jJ]) (jm (by simp)) (λd hd=>by
   have hd:d=.int p\/d=.int q:=by simpa using hd
   have h1:=vd (d:=.int p) trivial (-3) 2;have h2:=vd (d:=.int q) trivial (-3) 2;rcases hd with rfl | rfl;·simp [qD,jw,h1]
   ·simp [qD,jw,h2])
 have A:WT (-3) 2 (.int p)=true:=by simp [WT]; exact hl.1
 have z:WT (-3) 2 (.int q)=true:=by simp [WT]; exact hl.2
 simp only [gO,qu,aL,cI,aq,bg,Nat.reduceAdd,fC,cZ,bw];simp [xA,tyN,vm,kM,neD,eqN,eqS,e,UD,vA,A,z,qt]
theorem xy (hl:VS p q):vO [.tup [.int p,.int q]]=.ok (.non,[.non]):=by refine runD_ap.trans ?_;have h:=Xu hl;simp [uB,qu,qt,qD,jw,h,vm]
theorem Ym (hw:vH ws) (hl:VS p q):gY [Wd ws,Ld p q]=.ok (.lst (qm (jd ws p q)),[.non,.non]):=by
 refine runD_ap.trans ?_;have e:=Xr (G:=vG) hw (p:=p) (q:=q) λw c=>⟨zu (hw.2.2.2 w c) p,zu (hw.2.2.2 w c) q⟩
 have k:=QH hw;have c2:=xy hl;simp only [WK,qu,aL,cI,aq,bg,Nat.reduceAdd,fC,cZ,bw];simp [qD,jw,k,c2,e,qt]
noncomputable def LS (l:List (Str×Str)):List Str:=ym ((l.map (·.1)++l.map (·.2)).foldl zg [])
variable {l:List (Str×Str)} {x:Str}
theorem mem_LS:x∈LS l↔∃ p∈l,x=p.1\/x=p.2:=by
 unfold LS;rw [(jn _).mem_iff,(xx _ [] c8).2];simp only [bV,false_or,aJ,aC];constructor
 ·rintro (⟨p,hp,rfl⟩ | ⟨p,hp,rfl⟩);·exact ⟨p,hp,.inl rfl⟩
  ·exact ⟨p,hp,.inr rfl⟩
 ·rintro ⟨p,hp,rfl | rfl⟩;·exact .inl ⟨p,hp,rfl⟩
  ·exact .inr ⟨p,hp,rfl⟩
theorem uf (hl:l.length<=20):qY [.lst (qm l)]=.ok (.lst ((LS l).map D.str),[.non]):=by
 refine runD_ap.trans ?_;have hz:(qm l).length<=sizeLine:=by unfold qm;rw [am];exact jm (by omega)
 have e1:=wA (cap:=[]) (fi:=jK (qe 0)) (ρ:=[iJ (.lst (qm l))]) (ρ1:=[iJ (.lst (qm l))]) (ds:=qm l) (fe:=d2 ixD (qe 0) (dC (.int 0))) (λd=>match d with | .tup [a,b]=>a | d=>d) (by simp [jJ]) hz (λd hd=>by obtain ⟨x,hx,rfl⟩:=aC.mp hd;simp [ixD,atI,ixN]);have i:=wA (cap:=[]) (fi:=jK (qe 0)) (ρ:=[iJ (.lst (qm l))]) (ρ1:=[iJ (.lst (qm l))]) (ds:=qm l) (fe:=d2 ixD (qe 0) (dC (.int 1))) (λd=>match d with | .tup [a,b]=>b | d=>d) (by simp [jJ]) hz (λd hd=>by obtain ⟨x,hx,rfl⟩:=aC.mp hd;simp [ixD,atI,ixN]);have f1:(qm l).map (λd=>match d with | .tup [a,b]=>a | d=>d)=(l.map (·.1)).map D.str:=by simp [qm]
 have f2:(qm l).map (λd=>match d with | .tup [a,b]=>b | d=>d)=(l.map (·.2)).map D.str:=by simp [qm]
 rw [f1] at e1;rw [f2] at i;have hs:l.length+l.length<=sizeLine:=jm (by omega);have j:l.length+l.length < 64:=by omega
 simp only [uI,qu,aL,cI,aq,bg,Nat.reduceAdd,fC,cZ,bw,Gf,xJ,qhx,e1,i,wJ];simp only [ug,am,if_pos hs,qhs,wJ,<-cQ,uX,xf,wy,aj,if_pos j];simp [qt,LS]
variable {a:D}
theorem at0 {l:List D}:atI (a::l) 0=iJ a:=by have:=wD (a::l) 0;simpa using this
theorem at1 {b:D} {l:List D}:atI (a::b::l) 1=iJ b:=by have:=wD (a::b::l) 1;simpa using this
abbrev nn4:Sl:=[iJ .non,iJ .non,iJ .non,iJ .non]
theorem Ki (h:Pl d):uG [d]=if WT 1 99 d=iO then .ok (.non,[.non]) else .exc "NoRoom" [iJ .non]:=by refine runD_ap.trans ?_;have h1:=vd h 1 99;have hz:1<=sizeLine:=jm (by omega);cases e:WT 1 99 d <;> simp [uF,qu,qt,qD,jw,h1,e,vm,jR]
theorem qG {ms:List PM} {f g:Sl->Out (Fl×Sl)} (h:f ρ=.ok (.nx,ρ1)):Xh ms (qL f g ρ)=Xh ms (g ρ1):=by rw [Wt,h];rfl
theorem qfS (hw:vH ws) (p q:Int):(LS (jd ws p q)).length<=12:=by
 have hs:(jd ws p q).length<=6:=by simp [jd]; exact hw.2.1
 unfold LS;rw [(jn _).length_eq];have:=gt ((jd ws p q).map (·.1)++(jd ws p q).map (·.2)) [];simp only [aj,am,bg] at this;omega
theorem qfT (hw:vH ws) (p q:Int):∀ x∈LS (jd ws p q),∃ c,az c/\x=⟨#[c]⟩:=λx hx=>by
 obtain ⟨y,k,h⟩:=mem_LS.mp hx;obtain ⟨w,m,rfl⟩:=aC.mp k;rcases h with rfl | rfl;·exact GX (hw.2.2.2 w m) p
 ·exact GX (hw.2.2.2 w m) q
theorem qfU (l:List (Str×Str)):(LS l).Nodup:=(jn _).nodup_iff.mpr (xx _ [] c8).1
def qip (d:D):Prop:=Pl d/\∀ xs,d=.tup xs->∀ x∈xs,Pl x
noncomputable def GY (room:Int):D->Bool
 | .tup [a,b]=>GW a&&WT 0 (room - 1) b
 | _=>iN
theorem WV (h:qip d) (room:Int):yd [d,.int room]=.ok (.bl (GY room d),[.non,.non]):=by
 refine runD_ap.trans ?_;have t:=qcg h.1;cases d with
 | tup xs=>
  have hp:=h.2 xs rfl
  match xs,hp with
  | [],_=>simp [kF,qu,qt,t,Kh,vm,kM,neD,eqN,eqS,GY]
  | [a],_=>simp [kF,qu,qt,t,Kh,vm,kM,neD,eqN,eqS,GY]
  | [a,b],hp=>have h1:=zv (hp a (by simp));have h2:=vd (hp b (by simp)) 0 (room - 1);cases f:GW a <;> simp [kF,qu,qt,t,Kh,vm,kM,neD,eqN,eqS,GY,ixD,at0,at1,qD,jw,h1,h2,f,YO,KG]
  | a::b::c::l,_=>
   have e:¬((l.length:Int)+1+1+1=2):=by omega
   simp [kF,qu,qt,t,Kh,vm,kM,neD,eqN,eqS,GY,e]
 | _=>first | exact h.1.elim | simp [kF,qu,qt,t,Kh,vm,GY]
noncomputable def prL (l:List (Str×Int)):List D:=l.map λx=>.tup [.str x.1,.int x.2]
def OkW (room:Int) (l:List (Str×Int)):Prop:=∀ x∈l,GW (.str x.1)=iO/\0<=x.2/\x.2 < room
variable {room:Int}
theorem qdT {l:List (Str×Int)} (h:OkW room l):(prL l).all (GY room)=true:=by rw [aO];intro d hd;obtain ⟨x,hx,rfl⟩:=aC.mp hd;obtain ⟨h1,h2,h3⟩:=h x hx;simp [GY,h1,WT,h2];omega
noncomputable def jB (l:List (Str×Int)):List Str:=l.map (·.1)
theorem VF:∀ (a b:List Str),wH (eqN 7) (a.map D.str) (b.map D.str)=iJ (decide (a.take (min a.length b.length)=b.take (min a.length b.length)))
 | [],b=>by simp [wH]
 | a::l,[]=>by simp [wH]
 | a::l,b::m=>by have j:=VF l m;simp only [aL,wH,j,eqN,eqS,aq,Nat.succ_eq_add_one,show min (l.length+1) (m.length+1)=min l.length m.length+1 by omega,List.take_succ_cons];by_cases h:a=b <;> simp [h]
theorem qbG (a b:List Str):eqD (.lst (a.map D.str)) (.lst (b.map D.str))=.ok (.bl (decide (a=b))):=by
 by_cases h:a.length=b.length;·have e:=VF a b;rw [h,Nat.min_self,f9,<-h,f9] at e;simp [eqD,eqN,h,e]
 ·have c:a≠b:=λz=>h (by rw [z]);simp [eqD,eqN,h,c]
noncomputable def WW (l:List (Str×Int)):Bool:=decide (jB l=ym ((jB l).foldl zg []))
theorem VG (h:∀ d∈ds,qip d) (hl:ds.length<=50) (room:Int):(ds.all (GY room)=iN->kG [.tup ds,.int room]=.ok (.bl iN,[.non,.non]))/\∀ l,ds=prL l->OkW room l->kG [.tup ds,.int room]=.ok (.bl (WW l),[.non,.non]):=by
 have hz:ds.length<=sizeLine:=jm (by omega);have t:=qcg (d:=.tup ds) trivial;have e1:=wA (cap:=[1]) (fi:=jK (qe 0)) (ρ:=[iJ (.tup ds),iJ (.int room),iL]) (ρ1:=[iJ (.tup ds),iJ (.int room),iL]) (ds:=ds) (fe:=qx [.vl,.vl] yd (qd (qe 0) (qd (qe 1) qB))) (λd=>.bl (GY room d)) (by simp [jJ]) hz (λd hd=>by have h1:=WV (h d hd) room;simp [qD,jw,h1]);have g:=yl (GY room) ds;constructor;·intro c;refine runD_ap.trans ?_;simp [wU,qu,qt,t,Kh,vm,e1,g,c]
 ·rintro l rfl hw;refine runD_ap.trans ?_;have c:=qdT hw;have i:=wA (cap:=[]) (fi:=jK (qe 0)) (ρ:=[iJ (.tup (prL l)),iJ (.int room),iL]) (ρ1:=[iJ (.tup (prL l)),iJ (.int room),iL]) (ds:=prL l) (fe:=d2 ixD (qe 0) (dC (.int 0))) (λd=>match d with | .tup [a,b]=>a | d=>d) (by simp [jJ]) hz (λd hd=>by obtain ⟨x,hx,rfl⟩:=aC.mp hd;simp [ixD,at0]);have f2:(prL l).map (λd=>match d with | .tup [a,b]=>a | d=>d)=(jB l).map D.str:=by simp [prL,jB]
  rw [f2] at i;have j:(jB l).length < 64:=by simp [jB];simp [prL] at hl;omega
  have m:=qbG (jB l) (ym ((jB l).foldl zg []));simp [wU,qu,qt,t,Kh,vm,e1,g,c,i,uX,xf,wy,j,m,WW]
noncomputable def WX:List Str->Bool
 | x::y::l=>vI x y&&WX (y::l)
 | _=>iO
variable {y:Str}
theorem qhP (h:vI x y=iO):leS x y/\x≠y:=by
 unfold vI at h;have h:=of_decide_eq_true h;constructor;·exact List.le_of_lt h
 ·rintro rfl;exact List.lt_irrefl _ h
theorem qhQ (h:leS x y) (n:x≠y):vI x y=true:=by
 cases e:vI x y with
 | true=>rfl
 | false=>exact absurd (Ju h (strLt_false.mp e)) n
theorem WY:∀ (l:List Str),WX l=iO->l.Pairwise (λx y=>leS x y/\x≠y)
 | [],_=>dG
 | [x],_=>db _ _
 | x::y::l,h=>by
  have h:(vI x y&&WX (y::l))=true:=h;rw [aP] at h;have j:=WY (y::l) h.2;have a:=qhP h.1;refine bh.mpr ⟨λz hz=>?_,j⟩;rcases ac.mp hz with rfl | hz;·exact a
  ·have b:=(bh.mp j).1 z hz;refine ⟨gz a.1 b.1,λe=>?_⟩;subst e;exact a.2 (Ju a.1 b.1)
theorem WZ:∀ (l:List Str),l.Pairwise (λx y=>leS x y/\x≠y)->WX l=iO
 | [],_=>rfl
 | [x],_=>rfl
 | x::y::l,h=>by have h1:=bh.mp h;have a:=h1.1 y (aw ..);show (vI x y&&WX (y::l))=iO;rw [qhQ a.1 a.2,WZ (y::l) h1.2];rfl
theorem Yn {l:List Str} (h:l.Pairwise (λx y=>leS x y/\x≠y)):l.Nodup:=h.imp λh=>h.2
theorem Yo (L:List Str):decide (L=ym (L.foldl zg []))=WX L:=by
 cases e:WX L with
 | true=>
  have p:=WY L e;have n:=Yn p;have f:L.foldl zg []=L:=by rw [yM L [] n (by simp)]; simp
  rw [f];exact decide_eq_true (gC (jn L).symm (p.imp λh=>h.1) (kN L))
 | false=>refine decide_eq_false λz=>?_;have n:(ym (L.foldl zg [])).Nodup:=(jn _).nodup_iff.mpr (xx L [] c8).1;have hs:=kN (L.foldl zg []);rw [<-z] at n hs;have p:L.Pairwise (λx y=>leS x y/\x≠y):=hs.and n;rw [WZ L p] at e;cases e
theorem Xv {l:List (Str×Int)} (h:WW l=iO):(jB l).Nodup:=by unfold WW at h;rw [Yo] at h;exact Yn (WY _ h)
noncomputable def bk (l:List (Str×Int)):List (Key×D):=l.map λx=>(.inr x.1,.int x.2)
theorem VH:∀ l:List (Str×Int),yp (prL l)=iJ (bk l)
 | []=>rfl
 | x::l=>by have j:=VH l;unfold prL at j ⊢;rw [aL];simp [yp,qa9,VP,j,bk]
theorem GZ:∀ (l:List (Str×Int)) (a:List (Key×D)),(jB l).Nodup->(∀ x∈l,∀ p∈a,p.1≠.inr x.1)->(bk l).foldl (λa p=>wB a p.1 p.2) a=a++bk l
 | [],a,_,_=>by simp [bk]
 | x::l,a,hn,hd=>by
  have h1:=aU.mp (show (x.1::jB l).Nodup from hn);have hp:wB a (.inr x.1) (.int x.2)=a++[(.inr x.1,.int x.2)]:=by unfold wB;rw [if_neg];simp only [g7,decide_eq_true_eq,not_exists,not_and];exact λp hp=>hd x (aw ..) p hp
  have j:=GZ l (a++[(.inr x.1,.int x.2)]) h1.2 (λy k p hp=>by
   rcases aJ.mp hp with hp | hp;·exact hd y (af _ k) p hp
   ·rw [aA.mp hp];intro z;have z:x.1=y.1:=cu.inj z;exact h1.1 (z ▸ aC.mpr ⟨y,k,rfl⟩))
  show ((bk l).foldl (λa p=>wB a p.1 p.2) (wB a (.inr x.1) (.int x.2)))=a++(.inr x.1,.int x.2)::bk l;rw [hp,j];simp
theorem qdU {l:List (Str×Int)} (h:(jB l).Nodup):qba (.tup (prL l))=.ok (.dct (bk l)):=by have e:=GZ l [] h (λ_ _ p hp=>by cases hp);simp at e;simp [qba,VH,e]
theorem Yp (l:List (Str×Int)) (x:Str):kW (bk l) (.inr x)=decide (x∈jB l):=by
 unfold kW bk jB;rw [List.any_map]
 induction l with
 | nil=>simp
 | cons a l j=>
  simp only [cJ,aL,ac,j];by_cases h:a.1=x;·simp [h]
  ·simp [h,aZ h]
noncomputable def Qs (l:List (Str×Int)) (x:Str):Int:=((l.find? λy=>decide (y.1=x)).map (·.2)).getD 0
theorem Kj:∀ {l:List (Str×Int)} {x:Str},x∈jB l->(x,Qs l x)∈l/\(bk l).find? (λkv=>decide (kv.1=cu x))=iJ (.inr x,.int (Qs l x))
 | [],x,h=>by cases h
 | a::l,x,h=>by
  by_cases e:a.1=x
  ·have c:Qs (a::l) x=a.2:=by simp [Qs,e]
   rw [c];refine ⟨?_,?_⟩;·rw [<-e];exact aw ..
   ·simp [bk,e]
  ·have hx:x∈jB l:=by
    rcases ac.mp (show x∈a.1::jB l from h) with z | z;·exact absurd z.symm e
    ·exact z
   obtain ⟨h1,h2⟩:=Kj hx;have c:Qs (a::l) x=Qs l x:=by simp [Qs,e]
   rw [c];refine ⟨af _ h1,?_⟩;rw [<-h2];simp [bk,e]
theorem qfV {l:List (Str×Int)} (h:x∈jB l):ixD (.dct (bk l)) (.str x)=.ok (.int (Qs l x)):=by simp [ixD,(Kj h).2]
theorem qci {l:List (Str×Int)} (hw:OkW room l) (h:x∈jB l):0<=Qs l x/\Qs l x < room:=(hw _ (Kj h).1).2
variable {b:Bool}
theorem Qk (h:kG [d,.int room]=.ok (.bl b,[.non,.non])):we [d,.int room]=if b=iO then .ok (.non,[.non,.non]) else .exc "NoWorths" [iJ .non,iJ .non]:=by refine runD_ap.trans ?_;cases b <;> simp [wc,qu,qt,qD,jw,h,vm,jR]
theorem qaa (t room:Int):zS [.int t,.int room]=.ok (.int (if room<=t then t - room else t),[.non,.non]):=by refine runD_ap.trans ?_;by_cases h:room<=t <;> simp [JX,qu,qt,geD,KG,YO,h]
variable {r:Int}
section
variable (hw:vH ws) (hl:VS p q)
include hw hl
noncomputable def qgN (l:List (Str×Int)) (s:List (Str×Str)) (r:Int):List D:=s.map λx=>.int ((Qs l x.1+Qs l x.2) % r)
omit hw hl in
theorem qiW {a b:Int} (g:0<=a/\a < r) (d:0<=b/\b < r):(if r<=a+b then a+b - r else a+b)=(a+b) % r:=by
 split;·rw [<-Int.sub_emod_right,fP (by omega) (by omega)]
 ·rw [fP (by omega) (by omega)]
theorem Ua {l:List (Str×Int)} (f:WT 1 99 (.int r)=iO) (m:OkW r l) (hs:WW l=iO) (h:kG [.tup (prL l),.int r]=.ok (.bl iO,[.non,.non])):yg [Wd ws,Ld p q,.int r,.tup (prL l)]=if (LS (jd ws p q)).all (λx=>decide (x∈jB l))=iO then .ok (.tup (qgN l (jd ws p q) r),[.non,.non,.non,.non]) else .exc "NoWorths" nn4:=by
 refine runD_ap.trans ?_;have h1:=Ym hw hl;have h2:=Ki (d:=.int r) trivial;rw [f] at h2;have h3:=Qk h;have c:=qdU (Xv hs);have k:(jd ws p q).length<=6:=by simp [jd]; exact hw.2.1
 have j:=uf (l:=jd ws p q) (by omega);have n:(LS (jd ws p q)).length<=2000:=by unfold LS;rw [(jn _).length_eq];have:=gt ((jd ws p q).map (·.1)++(jd ws p q).map (·.2)) [];simp only [aj,am,bg] at this;omega
 have e1:=wA (cap:=[5]) (fi:=jK (qx [.vl] qY (qd (qe 4) qB))) (ρ:=[iJ (Wd ws),iJ (Ld p q),iJ (.int r),iJ (.tup (prL l)),iJ (.lst (qm (jd ws p q))),iJ (.dct (bk l))]) (ρ1:=[iJ (Wd ws),iJ (Ld p q),iJ (.int r),iJ (.tup (prL l)),iJ (.lst (qm (jd ws p q))),iJ (.dct (bk l))]) (ds:=(LS (jd ws p q)).map D.str)
  (fe:=d2 inA (qe 0) (qe 1)) (λd=>match d with | .str x=>.bl (decide (x∈jB l)) | d=>d) (by simp [qD,jw,j,jJ]) (by rw [am]; exact jm n) (λd hd=>by obtain ⟨x,hx,rfl⟩:=aC.mp hd;simp [inA,VP,Yp])
 rw [ce] at e1;have g:=yl (λx=>decide (x∈jB l)) (LS (jd ws p q));have e:jl [] 1 [5] (jK (qx [.vl] qY (qd (qe 4) qB))) (gNm 0) ftT (d2 inA (qe 0) (qe 1)) [iJ (Wd ws),iJ (Ld p q),iJ (.int r),iJ (.tup (prL l)),iJ (.lst (qm (jd ws p q))),iJ (.dct (bk l))]=.ok (.lst ((LS (jd ws p q)).map λx=>.bl (decide (x∈jB l))),[iJ (Wd ws),iJ (Ld p q),iJ (.int r),iJ (.tup (prL l)),iJ (.lst (qm (jd ws p q))),iJ (.dct (bk l))]):=e1;cases hA:(LS (jd ws p q)).all (λx=>decide (x∈jB l)) with
 | false=>rw [hA] at g;simp [yf,qu,qt,qD,jw,h1,h2,h3,c,e,g,vm,jR]
 | true=>
  rw [hA] at g;have y:∀ x∈jd ws p q,x.1∈jB l/\x.2∈jB l:=λx hx=>by rw [aO] at hA;exact ⟨of_decide_eq_true (hA x.1 (mem_LS.mpr ⟨x,hx,.inl rfl⟩)),of_decide_eq_true (hA x.2 (mem_LS.mpr ⟨x,hx,.inr rfl⟩))⟩
  have i:=wA (cap:=[2,5]) (fi:=jK (qe 4)) (ρ:=[iJ (Wd ws),iJ (Ld p q),iJ (.int r),iJ (.tup (prL l)),iJ (.lst (qm (jd ws p q))),iJ (.dct (bk l))]) (ρ1:=[iJ (Wd ws),iJ (Ld p q),iJ (.int r),iJ (.tup (prL l)),iJ (.lst (qm (jd ws p q))),iJ (.dct (bk l))]) (ds:=qm (jd ws p q))
   (fe:=qx [.vl,.vl] zS (qd (d2 ug (d2 ixD (qe 2) (d2 ixD (qe 0) (dC (.int 0)))) (d2 ixD (qe 2) (d2 ixD (qe 0) (dC (.int 1))))) (qd (qe 1) qB))) (λd=>match d with | .tup [.str a,.str b]=>.int ((Qs l a+Qs l b) % r) | d=>d) (by simp [jJ]) (by simp [qm]; exact jm (by omega)) (λd hd=>by
    obtain ⟨x,hx,rfl⟩:=aC.mp hd;obtain ⟨i1,i2⟩:=y x hx;have Y:=qfV i1;have U:=qfV i2;have wr:=qiW (qci m i1) (qci m i2);have wi:=qaa (Qs l x.1+Qs l x.2) r;rw [wr] at wi;have k0:ixD (.tup [.str x.1,.str x.2]) (.int 0)=.ok (.str x.1):=by simp [ixD,at0]
    have k1:ixD (.tup [.str x.1,.str x.2]) (.int 1)=.ok (.str x.2):=by simp [ixD,at1]
    simp [qD,jw,k0,k1,Y,U,ug,wi])
  have f2:(qm (jd ws p q)).map (λd=>match d with | .tup [.str a,.str b]=>.int ((Qs l a+Qs l b) % r) | d=>d)=qgN l (jd ws p q) r:=by simp [qm,qgN]
  rw [f2] at i;simp [yf,qu,qt,qD,jw,h1,h2,h3,c,e,g,vm,i,gk]
end
def Xz (ca:Str->Addr):Prop:=∀ x∈CS,∀ y∈CS,ca x=ca y->x=y
variable {ca:Str->Addr}
theorem qN (h:Xz ca) (hx:x∈CS) (k:y∈CS) (e:decide (y=x)=b):Vb ca CS x (ca y)=iJ b:=by
 unfold Vb;rw [if_pos (aC.mpr ⟨y,k,rfl⟩),<-e];by_cases z:y=x;·simp [z]
 ·have:ca y≠ca x:=λw=>z (h y k x hx w);simp [z,this]
theorem Ub (k:y∈CS):qfv ca CS (ca y)=iJ true:=by unfold qfv;rw [if_pos (aC.mpr ⟨y,k,rfl⟩)]
theorem qfW (k:y∈CS):qfu ca CS y=iJ (ca y):=by unfold qfu;rw [if_pos k]
abbrev pD (x:Str×Str):D:=.tup [.str x.1,.str x.2]
noncomputable def al (x y:Str×Str):Bool:=decide (x=y)||decide (x=(y.2,y.1))
theorem al_iff {x y:Str×Str}:al x y=iO↔x=y\/x=(y.2,y.1):=by simp [al]
noncomputable def pa (l:List (Str×Str)) (i:Nat):Str×Str:=(l[i]?).getD ("", "")
variable {i:Nat}
theorem qcj (h:i < l.length):(qm l)[i]?=iJ (pD (pa l i)):=by unfold qm pa;rw [aK,aE h];rfl
theorem VI (x y:Str×Str):wX [pD x,pD y]=.ok (.bl (al x y),[.non,.non]):=by
 obtain ⟨a,b⟩:=x;obtain ⟨c,d⟩:=y;refine runD_ap.trans ?_;have hz:2<=sizeLine:=jm (by omega);by_cases h1:a=c/\b=d;·obtain ⟨rfl,rfl⟩:=h1;simp [wW,qu,qt,pD,eqD,eqN,wH,eqS,al]
 ·have e1:(a == c&&b == d)=false:=by
   cases q:(a == c&&b == d) with
   | false=>rfl
   | true=>simp at q; exact absurd q h1
  have i:¬((a,b)=(c,d)):=λz=>h1 ⟨congrArg Prod.fst z,congrArg Prod.snd z⟩;have E:(a == d&&b == c)=decide ((a,b)=(d,c)):=by
   by_cases q:(a,b)=(d,c)
   ·rw [decide_eq_true q];cases q;simp
   ·rw [decide_eq_false q];cases g:(a == d&&b == c) with
    | false=>rfl
    | true=>simp at g; exact absurd (by rw [g.1,g.2]) q
  have m:al (a,b) (c,d)=decide ((a,b)=(d,c)):=by unfold al;rw [decide_eq_false i];rfl
  rw [m,<-E];simp [wW,qu,qt,pD,eqD,eqN,wH,eqS,e1,ixD,atI,ixN,hz]
theorem Yq:Vk (qm l)=(aN l.length).map λ(j:Nat)=>.tup [.int j,pD (pa l j)]:=by
 refine eX λj=>?_;unfold Vk;rw [aK,aK,List.getElem?_zipIdx];by_cases h:j < l.length;·rw [qcj h,List.getElem?_range h];simp
 ·have n:(qm l).length=l.length:=by simp [qm]
  rw [bP (by omega),bP (by simp; omega)];rfl
theorem qbH (ws:List Str) (p q:Int):(jd ws p q).length=ws.length:=by simp [jd]
abbrev qbI:Sl->Out (Fl×Sl):=(sIf (uu (qx [.vl,.vl] wX (qd (d2 ixD (qe 0) (qe 3)) (qd (qe 2) qB)))) (jL (xE (qd (qe 3) (qd (qe 1) qB)))) jk)
abbrev qbJ:Sl->Out (Fl×Sl):=(QO (vx (qe 1)) (gNm 3) qbI)
abbrev clP (l:List (Str×Str)) (i j:Nat):Bool:=al (pa l j) (pa l i)
theorem Yr {i:Nat}:∀ (s:List Nat) (x:Option D),(∀ j∈s,j < l.length) ->(∃ n,kQ (gNm 3) qbI (s.map λ(j:Nat)=>.int j) [iJ (.lst (qm l)),iJ (.int i),iJ (pD (pa l i)),x]=.ok (.nx,[iJ (.lst (qm l)),iJ (.int i),iJ (pD (pa l i)),n])/\s.find? (clP l i)=iL)
  \/ ∃ a ρ',s.find? (clP l i)=iJ a/\kQ (gNm 3) qbI (s.map λ(j:Nat)=>.int j) [iJ (.lst (qm l)),iJ (.int i),iJ (pD (pa l i)),x]=.ok (.rt (.tup [.int a,.int i]),ρ')
 | [],x,_=>.inl ⟨x,rfl,rfl⟩
 | j::s,x,hj=>by
  have h:=VI (pa l j) (pa l i);have hg:=qcj (hj j (aw ..));have hz:2<=sizeLine:=jm (by omega);rw [cN];cases q:al (pa l j) (pa l i) with
  | true=>rw [q] at h;have q:clP l i j=true:=q;rw [q];exact .inr ⟨j,_,rfl,by simp [kQ,qbI,ixD,wD,hg,qD,jw,h,vm,hz]; rfl⟩
  | false=>
   rw [q] at h;have q:clP l i j=false:=q;rw [q];have s1:kQ (gNm 3) qbI ((j::s).map λ(j:Nat)=>.int j) [iJ (.lst (qm l)),iJ (.int i),iJ (pD (pa l i)),x]=kQ (gNm 3) qbI (s.map λ(j:Nat)=>.int j) [iJ (.lst (qm l)),iJ (.int i),iJ (pD (pa l i)),iJ (.int j)]:=by simp [kQ,qbI,ixD,wD,hg,qD,jw,h,vm]
   rw [s1];exact Yr s (iJ (.int j)) (λk b=>hj k (af _ b))
theorem qiq (n:Nat):Jn 0 n=(aN n).map λ(j:Nat)=>.int j:=by unfold Jn;simp
variable {f:Sl->Out (D×Sl)}
theorem iR0 {k:Int} (h0:0<=k) (h1:k<=2000) (h:f ρ=.ok (.int k,ρ1)):vx f ρ=.ok (Jn 0 k.toNat,ρ1):=by
 have c:-(2 ^ 62:Int)<=k/\k < 2 ^ 62:=by omega
 simp [vx,h,-Int.reducePow,c]
theorem iR1 (h:f ρ=.ok (.int n,ρ1)) (a:n<=2000):vx f ρ=.ok ((aN n).map λ(j:Nat)=>.int j,ρ1):=by rw [iR0 (by omega) (by omega) h,qiq,dF]
abbrev clS (l:List (Str×Str)) (i:Nat) (z:Option D):Sl:=[iJ (.lst (qm l)),iJ (.int i),iJ (pD (pa l i)),z]
theorem qbK (hl:l.length<=100) (hi:i < l.length) (z:Option D):(∃ x,qbJ (clS l i z)=.ok (.nx,clS l i x)/\(aN i).find? (clP l i)=iL)
  \/ ∃ a ρ',(aN i).find? (clP l i)=iJ a/\qbJ (clS l i z)=.ok (.rt (.tup [.int a,.int i]),ρ'):=by
 have c:=iR1 (f:=qe 1) (ρ:=clS l i z) (ρ1:=clS l i z) (n:=i) rfl (by omega);have d:qbJ (clS l i z)=kQ (gNm 3) qbI ((aN i).map λ(j:Nat)=>.int j) (clS l i z):=by show (vx (qe 1) (clS l i z)).bind (λp=>kQ (gNm 3) qbI p.1 p.2)=_;rw [c,wJ]
 rw [d];exact Yr (l:=l) (i:=i) (aN i) z (λj h=>by have:=be.mp h; omega)
noncomputable def clF (l:List (Str×Str)) (i:Nat):Option (Nat×Nat):=((aN i).find? (clP l i)).map λa=>(a,i)
variable {B:Sl->Out (Fl×Sl)}
theorem qab (o:∀ i,i < l.length->∀ z,(∃ c,B (clS l i z)=.ok (.nx,clS l i c)/\(aN i).find? (clP l i)=iL)
  \/ ∃ a ρ',(aN i).find? (clP l i)=iJ a/\B (clS l i z)=.ok (.rt (.tup [.int a,.int i]),ρ')):∀ (is:List Nat) (x y z:Option D),(∀ i∈is,i < l.length) ->
  (∃ c s f,kQ (zy 2 (jW (gNm 1) (jW (gNm 2) zx))) B (is.map λ(j:Nat)=>.tup [.int j,pD (pa l j)]) [iJ (.lst (qm l)),x,y,z]=.ok (.nx,[iJ (.lst (qm l)),c,s,f])/\is.findSome? (clF l)=iL)
  \/ ∃ (a b:Nat) (ρ':Sl),is.findSome? (clF l)=iJ (a,b)/\kQ (zy 2 (jW (gNm 1) (jW (gNm 2) zx))) B (is.map λ(j:Nat)=>.tup [.int j,pD (pa l j)]) [iJ (.lst (qm l)),x,y,z]=.ok (.rt (.tup [.int a,.int b]),ρ'):=by
 intro is
 induction is with
 | nil=>exact λx y z _=>.inl ⟨x,y,z,rfl,rfl⟩
 | cons i is h=>
  intro x y z hi;rw [List.findSome?_cons];rcases o i (hi i (aw ..)) z with ⟨c,e,n⟩ | ⟨a,ρ',m,e⟩
  ·have s1:kQ (zy 2 (jW (gNm 1) (jW (gNm 2) zx))) B ((i::is).map λ(j:Nat)=>.tup [.int j,pD (pa l j)]) [iJ (.lst (qm l)),x,y,z]=kQ (zy 2 (jW (gNm 1) (jW (gNm 2) zx))) B (is.map λ(j:Nat)=>.tup [.int j,pD (pa l j)]) (clS l i c):=by simp [kQ,zy,jW,zx,e]
   have d:clF l i=none:=by unfold clF; rw [n]; rfl
   rw [s1,d];exact h (iJ (.int i)) (iJ (pD (pa l i))) c (λk g=>hi k (af _ g))
  ·have d:clF l i=iJ (a,i):=by unfold clF; rw [m]; rfl
   rw [d];refine .inr ⟨a,i,ρ',rfl,?_⟩;simp [kQ,zy,jW,zx,e]
noncomputable def clo (l:List (Str×Str)):Option (Nat×Nat):=(aN l.length).findSome? (clF l)
noncomputable def clD:Option (Nat×Nat)->D
 | none=>.non
 | some x=>.tup [.int x.1,.int x.2]
theorem Uc (hl:l.length<=100):yi [.lst (qm l)]=.ok (clD (clo l),[.non]):=by
 refine runD_ap.trans ?_;rcases qab (l:=l) (B:=qbJ) (λi hi z=>qbK (by omega) hi z) (aN l.length) iL iL iL (λj D=>be.mp D) with ⟨x,s,c,e,n⟩ | ⟨a,b,ρ',n,e⟩
 all_goals
  rw [<-Yq] at e;have n:clo l=_:=n;rw [n];simp [xT,qu,qt,Go,e,clD]
noncomputable def co (x:Str×Str) (c:Str):Int:=(if x.1=c then 1 else 0)+if x.2=c then 1 else 0
noncomputable def cn (K:List (Str×Str)) (c:Str):Int:=(K.map λx=>co x c).sum
theorem qbL (x:Str×Str) (c:Str):0<=co x c/\co x c<=2:=by unfold co;split <;> split <;> omega
theorem qac (x:Str×Str) (c:Str):yr (pD x) (.str c)=.ok (.int (co x c)):=by obtain ⟨a,b⟩:=x;have h:=wz c [a,b];have h:Qt 7 (.str c) [.str a,.str b]=iJ (decide (c∈[a,b])):=h;unfold yr co;simp only [h];by_cases q:a=c <;> by_cases e:b=c <;> simp [eqN,eqS,q,e]
theorem qad {l:List Int} (h1:l.length<=1000) (h2:∀ k∈l,0<=k/\k<=100000):JA (.lst (l.map D.int))=.ok (.int l.sum):=by
 have:l.length<=1000/\(l.all λk=>decide (0<=k/\k<=100000))=true:=⟨h1,aO.mpr λk h=>decide_eq_true (h2 k h)⟩
 simp only [JA,Vm,if_pos this]
variable {K:List (Str×Str)}
theorem qdV (m:K.length<=100) (c:Str) (a b:Option D):jl [] 1 [3] (jK (qe 1)) (gNm 0) ftT (dM qer yr (qe 0) (qe 1)) [a,iJ (.lst (qm K)),b,iJ (.str c)]=.ok (.lst ((K.map λx=>co x c).map D.int),[a,iJ (.lst (qm K)),b,iJ (.str c)]):=by have e:=wA (cap:=[3]) (fi:=jK (qe 1)) (ρ:=[a,iJ (.lst (qm K)),b,iJ (.str c)]) (ρ1:=[a,iJ (.lst (qm K)),b,iJ (.str c)]) (ds:=qm K) (fe:=dM qer yr (qe 0) (qe 1)) (λd=>match d with | .tup [.str x,.str y]=>.int (co (x,y) c) | d=>d) (by simp [jJ]) (by unfold qm; rw [am]; exact jm (by omega)) (λd hd=>by obtain ⟨x,hx,rfl⟩:=aC.mp hd;have h:=qac x c;have h:yr (.tup [.str x.1,.str x.2]) (.str c)=.ok (.int (co x c)):=h;simp [dM,qer,h]);rw [e];congr 2;simp [qm]
noncomputable def lo (K:List (Str×Str)) (x:Str×Str):Bool:=decide (cn K x.1=1)||decide (cn K x.2=1)
theorem qck (K L:List (Str×Str)) (c:Str):cn (K++L) c=cn K c+cn L c:=by unfold cn;rw [cQ,h8]
theorem qfX (K:List (Str×Str)) (c:Str):0<=cn K c:=by
 induction K with
 | nil=>exact Int.le_refl _
 | cons x K j=>have:=qbL x c;show 0<=co x c+cn K c;omega
theorem qfY:∀ {K L:List (Str×Str)},K.Sublist L->∀ c,cn K c<=cn L c:=by
 intro K L h
 induction h with
 | slnil=>intro c; exact Int.le_refl _
 | cons x h j=>intro c;have:=qbL x c;have:=j c;show _<=co x c+cn _ c;omega
 | cons_cons x h j=>intro c;have:=j c;show co x c+cn _ c<=co x c+cn _ c;omega
def NA (K:List (Str×Str)):Prop:=K.Pairwise λx y=>al x y=iN
abbrev Cn:=List Str×List Str
abbrev sE (l:List Str):D:=.lst (l.map D.str)
noncomputable def cE (c:Cn):D:=.tup [sE c.1,sE c.2]
noncomputable def st1 (c:Cn) (y:Str):Cn:=if y∈c.1 then (c.1.erase y,c.2) else (c.1,c.2++[y])
noncomputable def un (x y:Str×Str):Cn:=st1 (st1 ([x.1,x.2],[]) y.1) y.2
abbrev unB:Sl->Out (Fl×Sl):=(sIf (jb (d2 inA (qe 4) (qe 2))) (kz (zz 2 qdJ (qe 4))) (kz (zz 3 QT (qe 4))))
theorem qhR (y:Str) (l:List Str):inA (.str y) (sE l)=.ok (.bl (decide (y∈l))):=by show (inD (.str y) (.lst (l.map D.str))).bind _=_;unfold inD;simp only [wz];rfl
variable {c:Cn}
theorem qae {a b:Option D} (h2:c.2.length<=2) (y:Str):unB [a,b,iJ (sE c.1),iJ (sE c.2),iJ (.str y)]=.ok (.nx,[a,b,iJ (sE (st1 c y).1),iJ (sE (st1 c y).2),iJ (.str y)]):=by
 have h:=qhR y c.1;have hz:c.2.length < sizeLine:=aI (by omega) big;unfold st1;by_cases q:y∈c.1
 ·rw [if_pos q];have r:qdJ (c.1.map D.str) (.str y)=.ok ((c.1.erase y).map D.str):=by unfold qdJ;simp only [wy,if_pos q]
  simp [unB,h,q,zz,yE,sE,r]
 ·rw [if_neg q];have g:QT (c.2.map D.str) (.str y)=.ok ((c.2++[y]).map D.str):=by unfold QT;rw [am,if_pos hz];simp
  simp [unB,h,q,zz,yE,sE,g]
theorem Ud (c:Cn) (y:Str):(st1 c y).1.length<=c.1.length/\(st1 c y).2.length<=c.2.length+1:=by
 unfold st1;split;·exact ⟨List.length_erase_le,ib _⟩
 ·simp
theorem qfZ (x y:Str×Str):(un x y).1.length<=2/\(un x y).2.length<=2:=by have h1:=Ud ([x.1,x.2],[]) y.1;have h2:=Ud (st1 ([x.1,x.2],[]) y.1) y.2;unfold un;simp at h1;omega
variable {g:D->Sl->Out Sl}
theorem qiX {d1 d2:D} {d ρ2 k A:Sl} (h1:g d1 d=.ok ρ1) (h2:B ρ1=.ok (.nx,ρ2)) (h3:g d2 ρ2=.ok k) (a:B k=.ok (.nx,A)):kQ g B [d1,d2] d=.ok (.nx,A):=by simp [kQ,h1,h2,h3,a]
theorem Ue (x y:Str×Str):kI [pD x,pD y]=.ok (cE (un x y),[.non,.non]):=by
 refine runD_ap.trans ?_;have h1:=Ud ([x.1,x.2],[]) y.1;have e1:=qae (a:=iJ (pD x)) (b:=iJ (pD y)) (c:=([x.1,x.2],[])) (by simp) y.1;have i:=qae (a:=iJ (pD x)) (b:=iJ (pD y)) (c:=st1 ([x.1,x.2],[]) y.1) (by simp at h1; omega) y.2;have hz:2<=sizeLine:=jm (by omega);have h:0<=sizeLine:=bu _;have E:kQ (gNm 4) unB [.str y.1,.str y.2] [iJ (pD x),iJ (pD y),iJ (sE [x.1,x.2]),iJ (sE []),iL]=.ok (.nx,[iJ (pD x),iJ (pD y),iJ (sE (un x y).1),iJ (sE (un x y).2),iJ (.str y.2)]):=by have e:unB [iJ (pD x),iJ (pD y),iJ (sE [x.1,x.2]),iJ (sE []),iJ (.str y.1)]=_:=e1;exact qiX rfl e rfl i
 unfold xX;rw [show qu xW [pD x,pD y]=[iJ (pD x),iJ (pD y),iL,iL,iL] from rfl];refine (qG (ρ1:=[iJ (pD x),iJ (pD y),iJ (sE [x.1,x.2]),iL,iL]) (by simp [qdm,sE,hz])).trans ?_;refine (qG (ρ1:=[iJ (pD x),iJ (pD y),iJ (sE [x.1,x.2]),iJ (sE []),iL]) (by simp [sE])).trans ?_;refine (qG (ρ1:=[iJ (pD x),iJ (pD y),iJ (sE (un x y).1),iJ (sE (un x y).2),iJ (.str y.2)]) (by rw [yH,show jK (qe 1) [iJ (pD x),iJ (pD y),iJ (sE [x.1,x.2]),iJ (sE []),iL]=.ok ([.str y.1,.str y.2],[iJ (pD x),iJ (pD y),iJ (sE [x.1,x.2]),iJ (sE []),iL]) from rfl,wJ];exact E)).trans ?_;simp [qt,cE,hz]
noncomputable def CT (l:List (Str×Str)):List Cn:=(aN l.length).flatMap λj=>(l.take j).map λa=>un a (pa l j)
abbrev ctB:Sl->Out (Fl×Sl):=(kz (zz 1 qao (jl [1] 1 [3] (jK (vC (qe 0) iL (iJ (qe 2)))) (gNm 0) ftT (qx [.vl,.vl] kI (qd (qe 0) (qd (qe 1) qB))))))
theorem qdW (hl:l.length<=10) {j:Nat} (b:j < l.length) (f:Option D):jl [1] 1 [3] (jK (vC (qe 0) iL (iJ (qe 2)))) (gNm 0) ftT (qx [.vl,.vl] kI (qd (qe 0) (qd (qe 1) qB))) [iJ (.lst (qm l)),f,iJ (.int j),iJ (pD (pa l j))]
  = .ok (.lst (((l.take j).map λa=>un a (pa l j)).map cE),[iJ (.lst (qm l)),f,iJ (.int j),iJ (pD (pa l j))]):=by
 have c:qbl (qm l) iL (iJ (j:Int))=qm (l.take j):=by
  unfold qbl;rw [HT.sIx_none,HT.sIx_nat];have:(qm l).length=l.length:=by simp [qm]
  rw [this,show min j l.length - 0=j by omega];simp [qm]
 have hi:jK (vC (qe 0) iL (iJ (qe 2))) [iJ (.lst (qm l)),f,iJ (.int j),iJ (pD (pa l j))]=.ok (qm (l.take j),[iJ (.lst (qm l)),f,iJ (.int j),iJ (pD (pa l j))]):=by simp [jK,vC,Jr,qfM,c,jJ]
 have e:=WS (own:=[1]) (cap:=[3]) (fi:=jK (vC (qe 0) iL (iJ (qe 2)))) (ρ:=[iJ (.lst (qm l)),f,iJ (.int j),iJ (pD (pa l j))]) (ρ1:=[iJ (.lst (qm l)),f,iJ (.int j),iJ (pD (pa l j))]) (ds:=qm (l.take j)) (fe:=qx [.vl,.vl] kI (qd (qe 0) (qd (qe 1) qB))) (λd=>match d with | .tup [.str x,.str y]=>cE (un (x,y) (pa l j)) | d=>d) (by simp) hi (by simp only [qm,am,bT]; exact jm (by omega)) (λd hd=>by obtain ⟨x,hx,rfl⟩:=aC.mp hd;have h:=Ue x (pa l j);have h:kI [.tup [.str x.1,.str x.2],pD (pa l j)]=.ok (cE (un x (pa l j)),[.non,.non]):=h;simp [qD,jw,h]);rw [e];congr 2;unfold qm;rw [ce,ce];rfl
theorem qaf (hl:l.length<=10):∀ (s:List Nat) (f:List Cn) (x y:Option D),(∀ j∈s,j < l.length)->f.length+10 * s.length<=500 ->∃ n b,kQ (zy 2 (jW (gNm 2) (jW (gNm 3) zx))) ctB (s.map λ(j:Nat)=>.tup [.int j,pD (pa l j)]) [iJ (.lst (qm l)),iJ (.lst (f.map cE)),x,y]
   = .ok (.nx,[iJ (.lst (qm l)),iJ (.lst ((f++s.flatMap λj=>(l.take j).map λa=>un a (pa l j)).map cE)),n,b])
 | [],f,x,y,_,_=>⟨x,y,by simp [kQ]⟩
 | j::s,f,x,y,hj,hf=>by
  rw [aq] at hf;have h:=hj j (aw ..);have t:(l.take j).length<=10:=by rw [bT]; omega
  obtain ⟨n,b,e⟩:=qaf hl s (f++(l.take j).map λa=>un a (pa l j)) (iJ (.int j)) (iJ (pD (pa l j))) (λi hi=>hj i (af _ hi)) (by rw [aj,am]; omega);refine ⟨n,b,?_⟩;rw [fQ,<-cV,<-e];have d:=qdW hl h (iJ (.lst (f.map cE)));have hz:(f.map cE).length+(((l.take j).map λa=>un a (pa l j)).map cE).length<=sizeLine:=by rw [am,am,am]; exact jm (by omega)
  have hx:qao (f.map cE) (.lst (((l.take j).map λa=>un a (pa l j)).map cE))=.ok ((f++(l.take j).map λa=>un a (pa l j)).map cE):=by unfold qao;simp only [if_pos hz,<-cQ]
  generalize ((l.take j).map λa=>un a (pa l j)).map cE=M at d hx;generalize (f++(l.take j).map λa=>un a (pa l j)).map cE=M2 at hx ⊢;generalize f.map cE=M1 at d hx ⊢;generalize D.lst (qm l)=Z at d ⊢;simp [kQ,zy,jW,zx,ctB,zz,yE,d,hx]
theorem VJ (hl:l.length<=10):wj [.lst (qm l)]=.ok (.lst ((CT l).map cE),[.non]):=by refine runD_ap.trans ?_;obtain ⟨n,s,e⟩:=qaf hl (aN l.length) [] iL iL (λj D=>be.mp D) (by simp; omega);rw [<-Yq] at e;have e:kQ (zy 2 (jW (gNm 2) (jW (gNm 3) zx))) ctB (Vk (qm l)) [iJ (.lst (qm l)),iJ (.lst []),iL,iL]=.ok (.nx,[iJ (.lst (qm l)),iJ (.lst ((CT l).map cE)),n,s]):=e;have a:0<=sizeLine:=bu _;generalize (CT l).map cE=M at e ⊢;simp [wg,qu,qt,Go,e]
theorem qf0 (l:List (Str×Str)) (hl:l.length<=10):(CT l).length<=100:=by
 unfold CT;have:∀ s:List Nat,(s.flatMap λj=>(l.take j).map λa=>un a (pa l j)).length<=10 * s.length:=λs=>by
  induction s with
  | nil=>simp
  | cons j s i=>rw [fQ,aj,am,bT,aq];omega
 have:=this (aN l.length);rw [bO] at this;omega
theorem qcl (h:c∈CT l):c.1.length<=2/\c.2.length<=2:=by obtain ⟨j,_,h⟩:=List.mem_flatMap.mp h;obtain ⟨a,_,rfl⟩:=aC.mp h;exact qfZ a _
abbrev Fx:=List (Key×D)
def qap (k:Fx):Prop:=∀ kv∈k,∃ v:Int,kv.2=.int v/\0<=v/\v<=1000
noncomputable def vl (k:Fx) (x:Str):Int:=match k.find? λkv=>decide (kv.1=cu x) with
 | some (_,.int v)=>v
 | _=>0
theorem qf1 {k:Fx} (a:qap k) (h:kW k (.inr x)=iO):ixD (.dct k) (.str x)=.ok (.int (vl k x))/\0<=vl k x/\vl k x<=1000:=by
 unfold kW at h;cases q:k.find? λkv=>decide (kv.1=cu x) with
 | none=>rw [d7] at q;obtain ⟨p,hp,h⟩:=g7.mp h;exact absurd h (q p hp)
 | some kv=>
  obtain ⟨v,e,h1,h2⟩:=a kv (List.mem_of_find?_eq_some q);obtain ⟨k0,d⟩:=kv;have e:d=.int v:=e;subst e;have i:vl k x=v:=by unfold vl; simp only [q]
  rw [i];exact ⟨by unfold ixD; simp only [q],h1,h2⟩
theorem qhS {Cs:List α} {cap:List Nat} {fe:Sl->Out (D×Sl)} (A B:α->D) (h:fi ρ=.ok (Cs.map A,ρ)) (hl:Cs.length<=sizeLine)
  (t:∀ c∈Cs,fe (iJ (A c)::cap.map λk=>(ρ[k]?).getD iL)=.ok (B c,iJ (A c)::cap.map λk=>(ρ[k]?).getD iL)):jl [] 1 cap fi (gNm 0) ftT fe ρ=.ok (.lst (Cs.map B),ρ):=by
 have key:∀ (l:List α) (x:Option D),(∀ c∈l,c∈Cs)->∃ n,kR (gNm 0) ftT fe (l.map A) (x::cap.map λk=>(ρ[k]?).getD iL)=.ok (l.map B,n::cap.map λk=>(ρ[k]?).getD iL):=by
  intro l
  induction l with
  | nil=>intro x _; exact ⟨x,rfl⟩
  | cons c l j=>intro x a;obtain ⟨n,e⟩:=j (iJ (A c)) λd hd=>a d (af _ hd);have h1:=t c (a c (aw ..));exact ⟨n,by simp [kR,Wh,h1,e]⟩
 obtain ⟨n,e⟩:=key Cs iL λ_ h=>h;unfold jl;rw [h];simp only [wJ];rw [if_pos (by rw [am]; exact hl),show vz 1 cap ρ=iL::cap.map λk=>(ρ[k]?).getD iL from rfl,e];simp only [wJ];rw [za (own:=[]) _ cap 1 ρ λ_ _=>bV]
noncomputable def md (r:Int) (k:Fx) (c:Cn):Bool:=if ((c.1++c.2).all λx=>kW k (.inr x))=iO then decide (¬((c.1.map (vl k)).sum - (c.2.map (vl k)).sum) % r=0) else iO
theorem Ys {k:Fx} (a:qap k) (j:Nat) {l:List Str} (hl:l.length<=2) (g:∀ x∈l,kW k (.inr x)=iO) (h1:ρ[j]?=iJ (iJ (sE l))) (h2:ρ[2]?=iJ (iJ (.dct k))):d1 JA (jl [] 1 [2] (jK (qe j)) (gNm 0) ftT (d2 ixD (qe 1) (qe 0))) ρ=.ok (.int (l.map (vl k)).sum,ρ):=by
 have e:=wA (cap:=[2]) (fi:=jK (qe j)) (ρ:=ρ) (ρ1:=ρ) (ds:=l.map D.str) (fe:=d2 ixD (qe 1) (qe 0)) (λd=>match d with | .str x=>.int (vl k x) | d=>d) (by simp [h1,jJ]) (by rw [am]; exact jm (by omega)) (λd hd=>by obtain ⟨x,hx,rfl⟩:=aC.mp hd;have h:=(qf1 a (g x hx)).1;simp [h2,h]);have b:(l.map D.str).map (λd=>match d with | .str x=>.int (vl k x) | d=>d)=(l.map (vl k)).map D.int:=by rw [ce,ce];rfl
 rw [b] at e;have hs:=qad (l:=l.map (vl k)) (by rw [am]; omega) λi hi=>by obtain ⟨x,hx,rfl⟩:=aC.mp hi;have:=(qf1 a (g x hx)).2;omega
 rw [xJ,e];simp only [wJ];rw [hs];rfl
theorem qf2 (h1:c.1.length<=2) (h2:c.2.length<=2) (f:0 < r) {k:Fx} (a:qap k):kO [cE c,.int r,.dct k]=.ok (.bl (md r k c),[.non,.non,.non]):=by
 refine runD_ap.trans ?_;have z:(c.1.map D.str).length+(c.2.map D.str).length<=sizeLine:=by rw [am,am]; exact jm (by omega)
 have hi:jK (d2 ug (qe 3) (qe 4)) [iJ (cE c),iJ (.int r),iJ (.dct k),iJ (sE c.1),iJ (sE c.2)]=.ok ((c.1++c.2).map D.str,[iJ (cE c),iJ (.int r),iJ (.dct k),iJ (sE c.1),iJ (sE c.2)]):=by
  have:ug (sE c.1) (sE c.2)=.ok (.lst ((c.1++c.2).map D.str)):=by unfold ug;simp only [if_pos z,cQ]
  generalize sE c.1=U at this ⊢;generalize sE c.2=V at this ⊢;simp [this,jJ]
 have e:=wA (cap:=[2]) (fi:=jK (d2 ug (qe 3) (qe 4))) (ρ:=[iJ (cE c),iJ (.int r),iJ (.dct k),iJ (sE c.1),iJ (sE c.2)]) (ρ1:=[iJ (cE c),iJ (.int r),iJ (.dct k),iJ (sE c.1),iJ (sE c.2)]) (ds:=(c.1++c.2).map D.str) (fe:=d2 inA (qe 0) (qe 1)) (λd=>match d with | .str x=>.bl (kW k (.inr x)) | d=>d) hi (by rw [am,aj]; exact jm (by omega)) (λd hd=>by obtain ⟨x,hx,rfl⟩:=aC.mp hd;simp [inA,VP]);have i:((c.1++c.2).map D.str).map (λd=>match d with | .str x=>.bl (kW k (.inr x)) | d=>d)=(c.1++c.2).map λx=>D.bl (kW k (.inr x)):=by rw [ce];rfl
 rw [i] at e;have g:=yl (λx=>kW k (.inr x)) (c.1++c.2);have hA:d1 UD (jl [] 1 [2] (jK (d2 ug (qe 3) (qe 4))) (gNm 0) ftT (d2 inA (qe 0) (qe 1))) [iJ (cE c),iJ (.int r),iJ (.dct k),iJ (sE c.1),iJ (sE c.2)]=.ok (.bl ((c.1++c.2).all λx=>kW k (.inr x)),[iJ (cE c),iJ (.int r),iJ (.dct k),iJ (sE c.1),iJ (sE c.2)]):=by rw [xJ,e];simp only [wJ];rw [g];rfl
 unfold uK md;rw [show qu kf [cE c,.int r,.dct k]=[iJ (cE c),iJ (.int r),iJ (.dct k),iL,iL] from rfl];refine (qG (ρ1:=[iJ (cE c),iJ (.int r),iJ (.dct k),iJ (sE c.1),iL]) (by simp [cE,ixD,at0])).trans ?_;refine (qG (ρ1:=[iJ (cE c),iJ (.int r),iJ (.dct k),iJ (sE c.1),iJ (sE c.2)]) (by simp [cE,ixD,at1])).trans ?_;cases q:(c.1++c.2).all λx=>kW k (.inr x) with
 | false=>rw [q] at hA;simp [-xJ,hA,vm,qt]
 | true=>rw [q] at hA;have h:=aO.mp q;have s1:=Ys a 3 h1 (λx hx=>h x (aJ.mpr (.inl hx))) (ρ:=[iJ (cE c),iJ (.int r),iJ (.dct k),iJ (sE c.1),iJ (sE c.2)]) rfl rfl;have s2:=Ys a 4 h2 (λx hx=>h x (aJ.mpr (.inr hx))) (ρ:=[iJ (cE c),iJ (.int r),iJ (.dct k),iJ (sE c.1),iJ (sE c.2)]) rfl rfl;refine (qG (ρ1:=[iJ (cE c),iJ (.int r),iJ (.dct k),iJ (sE c.1),iJ (sE c.2)]) (by simp [-xJ,hA,vm])).trans ?_;by_cases b:((c.1.map (vl k)).sum - (c.2.map (vl k)).sum) % r=0 <;> simp [-xJ,s1,s2,YO,qan,KG,f,neD,eqN,eqS,qt,b]
theorem qdX {k:Fx} (hl:k.length<=100) (x:Str) (v:Int):vS [.dct k,.str x,.int v]=.ok (.dct (wB k (.inr x) (.int v)),[.non,.non,.non]):=by refine runD_ap.trans ?_;have hz:k.length < sizeLine:=aI (by omega) big;simp [uL,qu,qt,Vn,Vl,VP,hz]
theorem qag (k:Fx) (x:Key) (d:D):(wB k x d).length<=k.length+1:=by unfold wB;split <;> simp
theorem qf3 {k:Fx} (b:qap k) (x:Key) {v:Int} (h0:0<=v) (h1:v<=1000):qap (wB k x (.int v)):=by
 unfold wB;intro kv a;split at a
 ·obtain ⟨p,hp,rfl⟩:=aC.mp a;split;·exact ⟨v,rfl,h0,h1⟩
  ·exact b p hp
 ·rcases aJ.mp a with h | h;·exact b kv h
  ·rw [aA.mp h];exact ⟨v,rfl,h0,h1⟩
abbrev cfB (gr:List D->Out (D×List D)):Sl->Out (Fl×Sl):=(sIf (uu (qx [.vl,.vl,.vl,.vl] gr (qd (qe 0) (qd (qe 1) (qd (qx [.vl,.vl,.vl] vS (qd (qe 2) (qd (d2 ixD (qe 3) (dC (.int 0))) (qd (qe 5) qB)))) (qd (vC (qe 3) (iJ (dC (.int 1))) iL) qB)))))) (jL (dC (.bl iO))) jk)
theorem qf4 (x:Str) (ls:List Str):ixD (sE (x::ls)) (.int 0)=.ok (.str x)/\qfM (iJ 1) iL (sE (x::ls))=.ok (sE ls):=by
 refine ⟨by simp [ixD,at0],?_⟩;have:qbl ((x::ls).map D.str) (iJ 1) iL=ls.map D.str:=by unfold qbl;rw [HT.sIx_none,show (iJ (1:Int))=iJ ((1:Nat):Int) from rfl,HT.sIx_nat];simp;exact List.take_of_length_le (by simp)
 show Out.ok (D.lst (qbl ((x::ls).map D.str) (iJ 1) iL))=_;rw [this]
variable {Cs:List Cn}
theorem qdY (hC:∀ c∈Cs,c.1.length<=2/\c.2.length<=2) (n:Cs.length<=100) (f:0 < r) {k:Fx} (g:qap k) (a b c:Option D):d1 UD (jl [] 1 [1,2] (jK (qe 0)) (gNm 0) ftT (qx [.vl,.vl,.vl] kO (qd (qe 0) (qd (qe 1) (qd (qe 2) qB))))) [iJ (.lst (Cs.map cE)),iJ (.int r),iJ (.dct k),a,b,c]=.ok (.bl (Cs.all (md r k)),[iJ (.lst (Cs.map cE)),iJ (.int r),iJ (.dct k),a,b,c]):=by
 have e:=qhS (Cs:=Cs) (ρ:=[iJ (.lst (Cs.map cE)),iJ (.int r),iJ (.dct k),a,b,c]) (cap:=[1,2]) (fi:=jK (qe 0)) (fe:=qx [.vl,.vl,.vl] kO (qd (qe 0) (qd (qe 1) (qd (qe 2) qB)))) cE (λc=>.bl (md r k c)) (by simp [jJ]) (jm (by omega)) λc d=>by have h:=qf2 (hC c d).1 (hC c d).2 f g;generalize cE c=Z at h ⊢;simp [qD,jw,h]
 rw [xJ,e];simp only [wJ];rw [yl];rfl
theorem qbM (n:Nat):Jn 0 n=((aN n).map λ(j:Nat)=>(j:Int)).map D.int:=by rw [qiq,ce];rfl
theorem qcm (l:List (Str×Str)):(LS l).length<=2 * l.length:=by unfold LS;rw [(jn _).length_eq];have:=gt (l.map (·.1)++l.map (·.2)) [];simp only [aj,am,bg] at this;omega
noncomputable def nu (v:Str->Int) (p:Str×Str):Int:=v p.1+v p.2
def Ds (r:Int) (v:Str->Int) (K:List (Str×Str)):Prop:=K.Pairwise λp q=>¬r ∣ nu v p - nu v q
def Ext (k:Fx) (v:Str->Int):Prop:=∀ x,kW k (.inr x)=iO->v x=vl k x
def OKs (r:Int) (k:Fx) (K:List (Str×Str)):Prop:=∃ v,Ext k v/\Ds r v K
theorem qdZ {a b:Int} (h:¬r ∣ a - b):¬r ∣ b - a:=λz=>h (by have:=Int.dvd_neg.mpr z;rwa [Int.neg_sub] at this)
variable {v:Str->Int}
theorem ds_mid {A C:List (Str×Str)} {x:Str×Str}:Ds r v (A++x::C)↔(∀ p∈A++C,¬r ∣ nu v x - nu v p)/\Ds r v (A++C):=by unfold Ds;rw [List.pairwise_middle λh=>qdZ h,bh]
theorem qcn {α:Type} [DecidableEq α]:∀ {a b:List α},a.Nodup->(∀ x∈a,x∈b)->a.length<=b.length
 | [],_,_,_=>bu _
 | x::a,b,hn,h=>by obtain ⟨h1,h2⟩:=aU.mp hn;have hx:=h x (aw ..);have j:=qcn (b:=b.erase x) h2 λy k=>(List.mem_erase_of_ne λ(z:y=x)=>h1 (z ▸ k)).mpr (h y (af _ k));rw [List.length_erase_of_mem hx] at j;have:=eY hx;rw [aq];omega
theorem Yt (d:1<=r) (bad:List Int) (h:(bad.length:Int) < r):∃ t:Int,0<=t/\t < r/\t∉bad:=by
 refine bJ λz=>?_;have c:∀ t∈(aN r.toNat).map λ(j:Nat)=>(j:Int),t∈bad:=λt l=>by obtain ⟨j,D,rfl⟩:=aC.mp l;have:=be.mp D;exact bJ λq=>z ⟨j,by omega,by omega,q⟩
 have R:((aN r.toNat).map λ(j:Nat)=>(j:Int)).Nodup:=List.pairwise_map.mpr (List.nodup_range.imp λ{a b} O e=>O (by omega));have:=qcn R c;rw [am,bO] at this;omega
noncomputable def loK (k:Fx) (K:List (Str×Str)) (x:Str×Str):Bool:=(!kW k (.inr x.1)&&decide (cn K x.1=1))||(!kW k (.inr x.2)&&decide (cn K x.2=1))
theorem qco (A C:List (Str×Str)) (x:Str×Str) (c:Str):cn (A++x::C) c=co x c+cn (A++C) c:=by rw [qck,qck];show cn A c+(co x c+cn C c)=_;omega
theorem qd0 {c:Str} (h:cn K c=0):∀ p∈K,p.1≠c/\p.2≠c:=λp hp=>by
 obtain ⟨A,C,rfl⟩:=List.append_of_mem hp;rw [qco] at h;have h1:=qfX (A++C) c;have h2:=qbL p c;have h3:co p c=0:=by omega
 unfold co at h3;refine ⟨λz=>?_,λz=>?_⟩;·rw [if_pos z] at h3;split at h3 <;> omega
 ·rw [if_pos z] at h3;split at h3 <;> omega
variable {K0:List (Str×Str)}
theorem qf5 (D:1<=r) {k:Fx} {A C:List (Str×Str)} {x:Str×Str} (hs:(A++x::C).Sublist K0) (hl:loK k K0 x=iO) (G:((A++x::C).length:Int)<=r) (h:OKs r k (A++C)):OKs r k (A++x::C):=by
 obtain ⟨v,u,hd⟩:=h;have key:∀ c d:Str,(∀ w:Str->Int,nu w x=w c+w d)->(c=x.1\/c=x.2)->kW k (.inr c)=iN->cn K0 c=1->OKs r k (A++x::C):=λc d f J H h1=>by
  have R:=qfY hs c;rw [qco] at R;have E:=qfX (A++C) c;have I:1<=co x c:=by
   unfold co;rcases J with rfl | rfl
   ·rw [if_pos rfl];split <;> omega
   ·rw [if_pos (rfl:x.2=x.2)];split <;> omega
  have h0:cn (A++C) c=0:=by omega
  have hz:=qd0 h0;have m:d≠c:=λz=>by
   have e:=f λy=>if y=c then 1 else 0
   subst z;unfold nu at e;have:co x d=2:=by unfold co;simpa using e
   omega
  obtain ⟨t,s,o,B⟩:=Yt D ((A++C).map λp=>(nu v p - v d) % r) (by rw [am];rw [aj,aq] at G;rw [aj];omega);refine ⟨λy=>if y=c then t else v y,λy j=>?_,ds_mid.mpr ⟨λp hp=>?_,?_⟩⟩
  ·have:y≠c:=λz=>by rw [z,H] at j; cases j
   show (if y=c then t else v y)=_;rw [if_neg this];exact u y j
  ·have e1:nu (λy=>if y=c then t else v y) x=t+v d:=by rw [f];simp [m]
   have n:nu (λy=>if y=c then t else v y) p=nu v p:=by obtain ⟨i,g⟩:=hz p hp;simp [nu,i,g]
   rw [e1,n];intro z;refine B (aC.mpr ⟨p,hp,?_⟩);have:r ∣ (nu v p - v d) - t:=by have:=Int.dvd_neg.mpr z;rw [show -(t+v d - nu v p)=nu v p - v d - t by omega] at this;exact this
   have K:(nu v p - v d) % r=t % r:=Int.emod_eq_emod_iff_emod_sub_eq_zero.mpr (Int.emod_eq_zero_of_dvd this);exact K.trans (fP s o)
  ·refine hd.imp_of_mem λ{p q} hp hq l=>?_;obtain ⟨p1,p2⟩:=hz p hp;obtain ⟨i,g⟩:=hz q hq;have e1:nu (λy=>if y=c then t else v y) p=nu v p:=by simp [nu,p1,p2]
   have n:nu (λy=>if y=c then t else v y) q=nu v q:=by simp [nu,i,g]
   rw [e1,n];exact l
 unfold loK at hl;rw [h7,aP,aP] at hl;rcases hl with ⟨a,b⟩ | ⟨a,b⟩
 ·exact key x.1 x.2 (λw=>rfl) (.inl rfl) (by simpa using a) (of_decide_eq_true b)
 ·exact key x.2 x.1 (λw=>Int.add_comm _ _) (.inr rfl) (by simpa using a) (of_decide_eq_true b)
noncomputable def peK (k:Fx) (K:List (Str×Str)):List (Str×Str):=K.filter λx=>!loK k K x
theorem qd1 (c:1<=r) {k:Fx} (a:(K0.length:Int)<=r):∀ (M A:List (Str×Str)),(A++M).Sublist K0->OKs r k (A++M.filter λx=>!loK k K0 x)->OKs r k (A++M)
 | [],A,_,h=>h
 | x::M,A,hs,h=>by
  have n:((A++x::M).length:Int)<=r:=by have:=hs.length_le;omega
  cases q:loK k K0 x with
  | false=>rw [List.filter_cons_of_pos (by simp [q])] at h;have:=qd1 c a M (A++[x]) (by simpa using hs) (by simpa using h);simpa using this
  | true=>rw [List.filter_cons_of_neg (by simp [q])] at h;exact qf5 c hs q n (qd1 c a M A ((fR A).append (List.sublist_cons_self x M) |>.trans hs) h)
theorem qf6 (c:1<=r) {k:Fx} (n:(K.length:Int)<=r):OKs r k (peK k K)↔OKs r k K:=
 ⟨λh=>qd1 c n K [] (fR _) h,λ⟨v,a,b⟩=>⟨v,a,List.Pairwise.sublist List.filter_sublist b⟩⟩
noncomputable def sv (v:Str->Int) (l:List Str):Int:=(l.map v).sum
noncomputable def Dc (v:Str->Int) (c:Cn):Int:=sv v c.1 - sv v c.2
theorem qf7 (v:Str->Int) (a b:List Str):sv v (a++b)=sv v a+sv v b:=by unfold sv;rw [cQ,h8]
theorem Yu (v:Str->Int):∀ {l:List Str} {y:Str},y∈l->sv v (l.erase y)=sv v l - v y
 | x::l,y,h=>by
  by_cases q:x=y;·subst q;rw [List.erase_cons_head];show _=v x+sv v l - v x;omega
  ·rw [List.erase_cons_tail (by simpa using q)];have j:=Yu v ((ac.mp h).resolve_left λz=>q z.symm);show v x+sv v (l.erase y)=v x+sv v l - v y;omega
theorem qf8 (v:Str->Int) (c:Cn) (y:Str):Dc v (st1 c y)=Dc v c - v y:=by
 unfold st1 Dc;split;·rename_i h;show sv v (c.1.erase y) - sv v c.2=_;rw [Yu v h];omega
 ·show sv v c.1 - sv v (c.2++[y])=_;rw [qf7,show sv v [y]=v y by simp [sv]];omega
theorem qhT (v:Str->Int) (x y:Str×Str):Dc v (un x y)=nu v x - nu v y:=by unfold un;rw [qf8,qf8];simp [Dc,sv,nu];omega
theorem qf9 (c:Cn) (y:Str):((st1 c y).1.length:Int) - (st1 c y).2.length=(c.1.length:Int) - c.2.length - 1:=by
 unfold st1;split;·rename_i h;show ((c.1.erase y).length:Int) - c.2.length=_;rw [List.length_erase_of_mem h];have:=eY h;omega
 ·show (c.1.length:Int) - (c.2++[y]).length=_;rw [aj];simp;omega
theorem qiY (x y:Str×Str):(un x y).1.length=(un x y).2.length:=by have h1:=qf9 ([x.1,x.2],[]) y.1;have h2:=qf9 (st1 ([x.1,x.2],[]) y.1) y.2;unfold un;simp at h1;omega
variable {P:Str->Prop}
theorem qcp (h1:∀ z∈c.1++c.2,P z) (h2:P y):∀ z∈(st1 c y).1++(st1 c y).2,P z:=by
 unfold st1;split;·exact λz hz=>(aJ.mp hz).elim (λq=>h1 z (aJ.mpr (.inl (fg q)))) λq=>h1 z (aJ.mpr (.inr q))
 ·intro z hz;rcases aJ.mp hz with q | q;·exact h1 z (aJ.mpr (.inl q))
  ·rcases aJ.mp q with q | q;·exact h1 z (aJ.mpr (.inr q))
   ·rw [aA.mp q]; exact h2
theorem qhU {x y:Str×Str} (h1:P x.1) (h2:P x.2) (h3:P y.1) (a:P y.2):∀ z∈(un x y).1++(un x y).2,P z:=
 qcp (qcp (λz hz=>by
  simp at hz;rcases hz with rfl | rfl;·exact h1
  ·exact h2) h3) a
theorem ct_iff:c∈CT l↔∃ i j,∃ (hi:i < l.length) (D:j < l.length),i < j/\c=un l[i] l[j]:=by
 unfold CT;rw [List.mem_flatMap];constructor
 ·rintro ⟨j,D,h⟩;have D:=be.mp D;obtain ⟨a,b,rfl⟩:=aC.mp h;obtain ⟨i,hi,rfl⟩:=List.mem_take_iff_getElem.mp b;refine ⟨i,j,by omega,D,by omega,?_⟩;have:pa l j=l[j]:=by unfold pa; rw [aE D]; rfl
  rw [this]
 ·rintro ⟨i,j,hi,D,g,rfl⟩;refine ⟨j,be.mpr D,aC.mpr ⟨l[i],List.mem_take_iff_getElem.mpr ⟨i,by omega,rfl⟩,?_⟩⟩;have:pa l j=l[j]:=by unfold pa; rw [aE D]; rfl
  rw [this]
theorem ds_ct:Ds r v l↔∀ c∈CT l,¬r ∣ Dc v c:=by
 unfold Ds;rw [dR];constructor;·intro h c d;obtain ⟨i,j,hi,D,g,rfl⟩:=ct_iff.mp d;rw [qhT];exact h i j hi D g
 ·intro h i j hi D g;have:=h _ (ct_iff.mpr ⟨i,j,hi,D,g,rfl⟩);rw [qhT] at this;exact this
theorem qga (h:c∈CT l):∀ z∈c.1++c.2,z∈LS l:=by obtain ⟨i,j,hi,D,_,rfl⟩:=ct_iff.mp h;have m1:=cr hi;have B:=cr D;exact qhU (mem_LS.mpr ⟨_,m1,.inl rfl⟩) (mem_LS.mpr ⟨_,m1,.inr rfl⟩) (mem_LS.mpr ⟨_,B,.inl rfl⟩) (mem_LS.mpr ⟨_,B,.inr rfl⟩)
theorem qiZ (h:c∈CT l):c.1.length=c.2.length:=by obtain ⟨i,j,hi,D,_,rfl⟩:=ct_iff.mp h;exact qiY _ _
theorem Ql {k:Fx} (h:kW k (.inr x)=iN) (d:D):wB k (.inr x) d=k++[(.inr x,d)]:=by unfold wB;unfold kW at h;rw [h];rfl
theorem uQ {k:Fx} (h:kW k (.inr x)=iN) (d:D) (y:Str):kW (wB k (.inr x) d) (.inr y)=(kW k (.inr y)||decide (x=y)):=by rw [Ql h];unfold kW;rw [List.any_append];simp
theorem VL {k:Fx} (h:kW k (.inr x)=iN) (w:Int):vl (wB k (.inr x) (.int w)) x=w/\∀ y,y≠x->vl (wB k (.inr x) (.int w)) y=vl k y:=by
 rw [Ql h];unfold vl;refine ⟨?_,λy a=>?_⟩
 ·have:(k.find? λkv=>decide (kv.1=cu x))=none:=by rw [d7];intro p hp z;unfold kW at h;rw [List.any_eq_false] at h;exact h p hp z
  rw [List.find?_append,this];simp
 ·rw [List.find?_append];have:([(cu x,D.int w)]:Fx).find? (λkv=>decide (kv.1=cu y))=none:=by rw [d7];intro p hp z;rw [aA.mp hp] at z;have:=of_decide_eq_true z;exact a (cu.inj this).symm
  rw [this,Option.or_none]
theorem qgb {w:Str->Int} {l:List Str} (h:∀ x∈l,v x=w x):sv v l=sv w l:=by unfold sv;rw [List.map_congr_left h]
theorem qd2 {w:Str->Int} (h:∀ x∈c.1++c.2,v x=w x):Dc v c=Dc w c:=by unfold Dc;rw [qgb λx hx=>h x (aJ.mpr (.inl hx)),qgb λx hx=>h x (aJ.mpr (.inr hx))]
theorem qd3 {w:Str->Int} (h:∀ x,r ∣ v x - w x):∀ l:List Str,r ∣ sv v l - sv w l
 | []=>by simp [sv]
 | x::l=>by have j:=qd3 h l;show r ∣ (v x+sv v l) - (w x+sv w l);rw [show (v x+sv v l) - (w x+sv w l)=(v x - w x)+(sv v l - sv w l) by omega];exact fS (h x) j
theorem qhV {w:Str->Int} (h:∀ x,r ∣ v x - w x) (d:¬r ∣ Dc v c):¬r ∣ Dc w c:=λz=>d (by
 have h1:=qd3 h c.1;have h2:=qd3 h c.2;have:Dc v c=(sv v c.1 - sv w c.1) - (sv v c.2 - sv w c.2)+Dc w c:=by unfold Dc; omega
 rw [this];exact fS (Int.dvd_sub h1 h2) z)
theorem md_iff {k:Fx}:md r k c=iO↔((∀ y∈c.1++c.2,kW k (.inr y)=iO)->¬r ∣ Dc (vl k) c):=by
 unfold md;cases q:(c.1++c.2).all λx=>kW k (.inr x) with
 | false=>
  have:¬∀ y∈c.1++c.2,kW k (.inr y)=true:=λz=>by rw [aO.mpr z] at q;cases q
  exact ⟨λ_ z=>absurd z this,λ_=>rfl⟩
 | true=>rw [if_pos rfl,decide_eq_true_eq];have l:=aO.mp q;exact ⟨λh _ z=>h (Int.emod_eq_zero_of_dvd z),λh z=>h l (Int.dvd_of_emod_eq_zero z)⟩
noncomputable def chs (r:Int) (k:Fx):List Int:=if k=[] then [0] else (aN r.toNat).map λ(j:Nat)=>(j:Int)
noncomputable def cf (r:Int) (Cs:List Cn):Nat->List Str->Fx->Bool
 | 0,_,_=>iN
 | n+1,ls,k=>Cs.all (md r k)&&(match ls with
  | []=>iO
  | x::ls=>(chs r k).any λw=>cf r Cs n ls (wB k (.inr x) (.int w)))
def qes (r:Int) (Cs:List Cn) (v:Str->Int):Prop:=∀ c∈Cs,¬r ∣ Dc v c
theorem qah {r:Int} (m:1<=r) {Cs:List Cn}:∀ (n:Nat) (ls:List Str) (k:Fx),ls.length < n->k≠[]->ls.Nodup->(∀ y∈ls,kW k (.inr y)=iN)->(∀ c∈Cs,∀ y∈c.1++c.2,kW k (.inr y)=iO\/y∈ls)->(cf r Cs n ls k=iO↔∃ v,Ext k v/\qes r Cs v)
 | 0,ls,k,h,_,_,_,_=>absurd h (dZ _)
 | n+1,ls,k,h,hk,hnd,hno,hin=>by
  have f:∀ v,Ext k v->qes r Cs v->Cs.all (md r k)=true:=λv b hg=>aO.mpr λc d=>md_iff.mpr λl=>by rw [<-qd2 λy a=>b y (l y a)];exact hg c d
  cases ls with
  | nil=>show (Cs.all (md r k)&&iO)=iO↔_;rw [iq];refine ⟨λh=>⟨vl k,λ_ _=>rfl,λc d=>md_iff.mp (aO.mp h c d) λy a=>(hin c d y a).resolve_right λz=>by cases z⟩,λ⟨v,b,hg⟩=>f v b hg⟩
  | cons x ls=>
   have hx:=hno x (aw ..);obtain ⟨i,e⟩:=aU.mp hnd;have j:=λw=>qah m (Cs:=Cs) n ls (wB k (.inr x) (.int w)) (by rw [aq] at h; omega) (by rw [Ql hx]; simp) e (λy a=>by
    rw [uQ hx,hno y (af _ a)];simp;exact λz=>i (z ▸ a)) λc d y a=>by
    rw [uQ hx];rcases hin c d y a with q | q;·exact .inl (by rw [q]; rfl)
    ·rcases ac.mp q with q | q;·exact .inl (by simp [q])
     ·exact .inr q
   show (Cs.all (md r k)&&(chs r k).any λw=>cf r Cs n ls (wB k (.inr x) (.int w)))=iO↔_;rw [aP,g7];constructor
   ·rintro ⟨_,w,_,hw⟩;obtain ⟨v,b,hg⟩:=(j w).mp hw;refine ⟨v,λy a=>?_,hg⟩;have g:y≠x:=λz=>by rw [z,hx] at a; cases a
    rw [b y (by rw [uQ hx,a]; rfl),(VL hx w).2 y g]
   ·rintro ⟨v,b,hg⟩;refine ⟨f v b hg,v x % r,?_,(j _).mpr ⟨λy=>if y=x then v x % r else v y,λy a=>?_,λc d=>qhV (λy=>?_) (hg c d)⟩⟩;·unfold chs;rw [if_neg hk];have h1:=fz (v x) (show r≠0 by omega);have h2:=d6 (v x) (show 0 < r by omega);exact aC.mpr ⟨(v x % r).toNat,be.mpr (by omega),by omega⟩
    ·show (if y=x then v x % r else v y)=_;by_cases q:y=x;·rw [if_pos q,q,(VL hx _).1]
     ·rw [if_neg q,(VL hx _).2 y q];rw [uQ hx] at a;refine b y ?_;simpa [show ¬x=y from λz=>q z.symm] using a
    ·show r ∣ v y - (if y=x then v x % r else v y);by_cases q:y=x;·rw [if_pos q,q];exact Int.dvd_self_sub_of_emod_eq rfl
     ·rw [if_neg q,Int.sub_self];exact Int.dvd_zero r
theorem Kk (v:Str->Int) (t:Int):∀ l:List Str,sv (λy=>v y - t) l=sv v l - t * l.length
 | []=>by simp [sv]
 | x::l=>by have j:=Kk v t l;show (v x - t)+sv (λy=>v y - t) l=(v x+sv v l) - t * ((l.length+1:Nat):Int);rw [j,Int.natCast_add,Int.mul_add];simp;omega
theorem qbN (v:Str->Int) (t:Int) (h:c.1.length=c.2.length):Dc (λy=>v y - t) c=Dc v c:=by unfold Dc;rw [Kk,Kk,h];omega
theorem qd4 (b:1<=r) (g:∀ c∈Cs,c.1.length=c.2.length) (n:Nat) (ls:List Str) (h:ls.length < n) (R:ls.Nodup) (a:∀ c∈Cs,∀ y∈c.1++c.2,y∈ls):cf r Cs n ls []=iO↔∃ v,qes r Cs v:=by
 obtain ⟨n,rfl⟩:∃ m,n=m+1:=⟨n - 1,by omega⟩
 have h0:∀ y:Str,kW [] (.inr y)=false:=λy=>rfl;have f:∀ v,qes r Cs v->Cs.all (md r [])=true:=λv hg=>aO.mpr λc d=>md_iff.mpr λl=>by rw [qd2 (w:=v) λy k=>absurd (l y k) (by rw [h0]; simp)];exact hg c d
 cases ls with
 | nil=>show (Cs.all (md r [])&&iO)=iO↔_;rw [iq];exact ⟨λh=>⟨vl [],λc d=>md_iff.mp (aO.mp h c d) λy k=>by cases a c d y k⟩,λ⟨v,hg⟩=>f v hg⟩
 | cons x ls=>
  obtain ⟨i,e⟩:=aU.mp R;have j:=qah b (Cs:=Cs) n ls (wB [] (.inr x) (.int 0)) (by rw [aq] at h; omega) (by rw [Ql (h0 x)]; simp) e (λy k=>by
   rw [uQ (h0 x),h0];simp;exact λz=>i (z ▸ k)) λc d y k=>by
   rw [uQ (h0 x),h0];rcases ac.mp (a c d y k) with q | q;·exact .inl (by simp [q])
   ·exact .inr q
  show (Cs.all (md r [])&&(chs r []).any λw=>cf r Cs n ls (wB [] (.inr x) (.int w)))=iO↔_;rw [show chs r []=[0] from if_pos rfl,aP];simp only [cJ,List.any_nil,fW];rw [j];constructor;·rintro ⟨_,v,_,hg⟩;exact ⟨v,hg⟩
  ·rintro ⟨v,hg⟩;refine ⟨f v hg,λy=>v y - v x,λy k=>?_,λc d=>?_⟩
   ·rw [uQ (h0 x),h0] at k;have:x=y:=by simpa using k
    subst this;rw [(VL (h0 x) 0).1];show v x - v x=0;omega
   ·rw [qbN v (v x) (g c d)];exact hg c d
theorem qcq (h:∀ z∈c.1,z∉c.2) (y:Str):∀ z∈(st1 c y).1,z∉(st1 c y).2:=by
 unfold st1;split;·exact λz hz=>h z (fg hz)
 ·rename_i k;intro z hz q;rcases aJ.mp q with q | q;·exact h z hz q
  ·rw [aA.mp q] at hz;exact k hz
theorem qhW (x y:Str×Str):∀ z∈(un x y).1,z∉(un x y).2:=qcq (qcq (λz _ q=>by cases q) _) _
theorem qgc {x y:Str×Str} (h:un x y=([],[])):al x y=true:=by
 have e:∀ v,nu v x=nu v y:=λv=>by have:=qhT v x y;rw [h] at this;simp [Dc,sv] at this;omega
 obtain ⟨a,b⟩:=x;obtain ⟨c,d⟩:=y;have h1:=e λz=>if z=a then 1 else 0
 simp only [nu,if_true] at h1;have f:c=a\/d=a:=by refine bJ λz=>?_;have z1:¬c=a:=λq=>z (.inl q);have z2:¬d=a:=λq=>z (.inr q);rw [if_neg z1,if_neg z2] at h1;split at h1 <;> omega
 have one:∀ s t:Str,(∀ v:Str->Int,v s=v t)->s=t:=λs t q=>by
  refine bJ λz=>?_;have:=q λy=>if y=s then 1 else 0
  rw [if_pos rfl,if_neg λw=>z w.symm] at this;cases this
 refine al_iff.mpr ?_;rcases f with rfl | rfl
 ·refine .inl ?_;have:=one b d λv=>by have:=e v;simp only [nu] at this;omega
  rw [this]
 ·refine .inr ?_;have:=one b c λv=>by have:=e v;simp only [nu] at this;omega
  rw [this]
noncomputable def up (v:Str->Int) (x:Str) (t:Int) (y:Str):Int:=if y=x then t else v y
theorem qd5 (v:Str->Int) (x:Str) (t:Int):∀ l:List Str,sv (up v x t) l=sv (up v x 0) l+t * (l.count x:Nat)
 | []=>by simp [sv]
 | y::l=>by
  have j:=qd5 v x t l;show up v x t y+sv (up v x t) l=(up v x 0 y+sv (up v x 0) l)+t * ((y::l).count x:Nat);rw [j,List.count_cons];by_cases q:y=x;·subst q;simp only [up,if_true,beq_self_eq_true,Int.natCast_add,Int.mul_add];simp;omega
  ·have g:(y == x)=false:=beq_false_of_ne q;simp only [up,if_neg q,g,cq,if_false,Nat.add_zero];omega
noncomputable def bd (e D:Int):Int:=if e=1 then (-D) % 97 else if e=-1 then D % 97 else if e=2 then (-D * 49) % 97 else (D * 49) % 97
theorem qhX {e D t:Int} (i:e=1\/e=-1\/e=2\/e=-2) (s:0<=t) (g:t < 97) (h:t≠bd e D):¬(97:Int) ∣ D+t * e:=by
 unfold bd at h;rcases i with rfl | rfl | rfl | rfl
 ·simp at h;omega
 ·simp at h;omega
 ·simp at h;omega
 ·simp at h;omega
theorem qcr (hd:∀ c∈Cs,∀ z∈c.1,z∉c.2) (h2:∀ c∈Cs,c.1.length<=2/\c.2.length<=2) (hl:Cs.length < 97):∀ (ls S:List Str) (v:Str->Int),(∀ c∈Cs,(∀ y∈c.1++c.2,y∈S)->¬(97:Int) ∣ Dc v c)->(∀ c∈Cs,∀ y∈c.1++c.2,y∈S\/y∈ls)->∃ w,qes 97 Cs w
 | [],S,v,h,hin=>⟨v,λc d=>h c d λy k=>(hin c d y k).resolve_right λz=>by cases z⟩
 | x::ls,S,v,h,hin=>by
  obtain ⟨t,s,g,f⟩:=Yt (r:=97) (by omega) (Cs.map λc=>bd ((c.1.count x:Int) - (c.2.count x:Int)) (Dc (up v x 0) c)) (by rw [am]; omega);refine qcr hd h2 hl ls (x::S) (if x∈S then v else up v x t) (λc d l=>?_) λc d y k=>?_
  ·by_cases b:x∈S;·rw [if_pos b];exact h c d λy k=>(ac.mp (l y k)).elim (λz=>z ▸ b) id
   ·rw [if_neg b];by_cases a:x∈c.1++c.2
    ·have e:Dc (up v x t) c=Dc (up v x 0) c+t * ((c.1.count x:Int) - (c.2.count x:Int)):=by unfold Dc;rw [qd5 v x t c.1,qd5 v x t c.2,Int.mul_sub];omega
     rw [e];have i:t≠bd ((c.1.count x:Int) - (c.2.count x:Int)) (Dc (up v x 0) c):=λz=>f (aC.mpr ⟨c,d,z.symm⟩);refine qhX ?_ s g i;have m:c.1.count x<=c.1.length:=List.count_le_length;have c2:c.2.count x<=c.2.length:=List.count_le_length;have j:=h2 c d;rcases aJ.mp a with q | q
     ·have z:c.2.count x=0:=List.count_eq_zero.mpr (hd c d x q);have p:0 < c.1.count x:=List.count_pos_iff.mpr q;omega
     ·have z:c.1.count x=0:=List.count_eq_zero.mpr λz=>hd c d x z q;have p:0 < c.2.count x:=List.count_pos_iff.mpr q;omega
    ·rw [qd2 (w:=v) λy k=>by have:y≠x:=λz=>a (z ▸ k);simp [up,this]];exact h c d λy k=>(ac.mp (l y k)).resolve_left λz=>a (z ▸ k)
  ·rcases hin c d y k with q | q;·exact .inl (af _ q)
   ·rcases ac.mp q with q | q;·exact .inl (by rw [q]; exact aw ..)
    ·exact .inr q
theorem qd6 (hl:l.length<=6):(CT l).length < 97:=by
 unfold CT;have:∀ s:List Nat,(s.flatMap λj=>(l.take j).map λa=>un a (pa l j)).length<=6 * s.length:=λs=>by
  induction s with
  | nil=>simp
  | cons j s i=>rw [fQ,aj,am,bT,aq];omega
 have:=this (aN l.length);rw [bO] at this;omega
theorem qi0 (a:NA l) (b:l.length<=6):∃ v,Ds 97 v l:=by
 obtain ⟨w,hw⟩:=qcr (Cs:=CT l) (λc d=>by
  obtain ⟨i,j,hi,D,_,rfl⟩:=ct_iff.mp d;exact qhW _ _) (λc d=>qcl d) (qd6 b) (LS l) [] (λ_=>0) (λc d h=>by
  obtain ⟨i,j,hi,D,g,rfl⟩:=ct_iff.mp d;exfalso;have e:(un l[i] l[j]).1++(un l[i] l[j]).2=[]:=by
   cases q:(un l[i] l[j]).1++(un l[i] l[j]).2 with
   | nil=>rfl
   | cons z t=>cases h z (by rw [q]; exact aw ..)
  obtain ⟨e1,f⟩:=List.append_eq_nil_iff.mp e;have:=qgc (x:=l[i]) (y:=l[j]) (iB e1 f);rw [dR.mp a i j hi D g] at this;cases this) λc d y k=>.inr (qga d y k)
 exact ⟨w,ds_ct.mpr hw⟩
theorem qbO (m:K.length<=100) (c:Str) (a:Option D) (b:D):d1 JA (jl [] 1 [3] (jK (qe 1)) (gNm 0) ftT (dM qer yr (qe 0) (qe 1))) [a,iJ (.lst (qm K)),iJ b,iJ (.str c)]=.ok (.int (cn K c),[a,iJ (.lst (qm K)),iJ b,iJ (.str c)]):=by
 have hs:JA (.lst ((K.map λx=>co x c).map D.int))=.ok (.int (cn K c)):=qad (by rw [am]; omega) λk h=>by obtain ⟨y,_,rfl⟩:=aC.mp h;have:=qbL y c;omega
 rw [xJ,qdV m c a (iJ b)];simp only [wJ];rw [hs];rfl
theorem qd7 (m:K.length<=100) (k:Fx) (x:Str×Str):ke [pD x,.lst (qm K),.dct k]=.ok (.bl (loK k K x),[.non,.non,.non]):=by refine runD_ap.trans ?_;have h:=λc=>qbO m c (iJ (pD x)) (.dct k);have n:∀ c:Str,Js (.str c) (.dct k)=.ok (.bl (!kW k (.inr c))):=λc=>rfl;generalize D.lst (qm K)=Z at h ⊢;generalize D.dct k=Y at h n ⊢;obtain ⟨a,b⟩:=x;unfold loK;cases d:kW k (.inr a) <;> cases e:kW k (.inr b) <;> by_cases q:cn K a=1 <;> by_cases i:cn K b=1 <;> simp [xV,qu,qt,jJ,kQ,n,d,e,-xJ,h,eqD,eqN,eqS,q,i]
theorem Yv (m:K.length<=100) (k:Fx) (a b:Option D):jl [] 1 [2,1] (jK (qe 2)) (gNm 0) (yn (uu (qx [.vl,.vl,.vl] ke (qd (qe 0) (qd (qe 1) (qd (qe 2) qB)))))) (qe 0) [a,iJ (.dct k),iJ (.lst (qm K)),b]=.ok (.lst (qm (peK k K)),[a,iJ (.dct k),iJ (.lst (qm K)),b]):=by have e:=GV (own:=[]) (cap:=[2,1]) (fi:=jK (qe 2)) (ρ:=[a,iJ (.dct k),iJ (.lst (qm K)),b]) (ρ1:=[a,iJ (.dct k),iJ (.lst (qm K)),b]) (ds:=qm K) (ft:=yn (uu (qx [.vl,.vl,.vl] ke (qd (qe 0) (qd (qe 1) (qd (qe 2) qB)))))) (fe:=qe 0) (λd=>match d with | .tup [.str x,.str y]=>!loK k K (x,y) | d=>iN) (λd=>d) (by simp) (by simp [jJ]) (by unfold qm; rw [am]; exact jm (by omega)) (λd hd=>by obtain ⟨x,hx,rfl⟩:=aC.mp hd;have h:=qd7 m k x;have h:ke [.tup [.str x.1,.str x.2],.lst (qm K),.dct k]=.ok (.bl (loK k K x),[.non,.non,.non]):=h;simp [qD,jw,h,vm]) (λd hd _=>rfl);rw [e];congr 2;unfold peK;rw [List.map_id'];unfold qm;rw [List.filter_map];rfl
theorem VM {r:Int} (c:1<=r) (k:Fx) {a:Option D}:∀ (n:Nat) (K:List (Str×Str)),K.length < n->K.length<=100->(K.length:Int)<=r->∃ B R,(OKs r k B↔OKs r k K)/\B.Sublist K /\
  qX (jb (d2 ltD (d1 kM (qe 3)) (d1 kM (qe 2))))
   (qL (kj 2 (qe 3))
   (qL (kj 3 (jl [] 1 [2,1] (jK (qe 2)) (gNm 0) (yn (uu (qx [.vl,.vl,.vl] ke (qd (qe 0) (qd (qe 1) (qd (qe 2) qB)))))) (qe 0))) jk)) n [a,iJ (.dct k),iJ (.lst (qm K)),iJ (.lst (qm (peK k K)))]=.ok (.nx,[a,iJ (.dct k),iJ (.lst (qm B)),iJ (.lst R)])
 | 0,K,h,_,_=>absurd h (dZ _)
 | n+1,K,h,hK,hKr=>by
  have h1:kM (.lst (qm K))=.ok (.int K.length):=by simp [kM,qm]
  have h2:kM (.lst (qm (peK k K)))=.ok (.int (peK k K).length):=by simp [kM,qm]
  have b:(peK k K).length<=K.length:=List.length_filter_le _ _;by_cases q:(peK k K).length < K.length;·obtain ⟨B,R,n1,n2,e⟩:=VM c k (a:=a) n (peK k K) (by omega) (by omega) (by omega);refine ⟨B,R,n1.trans (qf6 c hKr),n2.trans List.filter_sublist,?_⟩;have d:=Yv (K:=peK k K) (by omega) k a (iJ (.lst (qm (peK k K))));rw [<-e];generalize D.lst (qm (peK k (peK k K)))=Z2 at d ⊢;generalize D.lst (qm (peK k K))=Z1 at h2 d ⊢;generalize D.lst (qm K)=Z at h1 ⊢;generalize D.dct k=Y at d ⊢;simp [qX,h1,h2,ltD,q,d]
  ·refine ⟨K,qm (peK k K),Iff.rfl,fR _,?_⟩;generalize D.lst (qm (peK k K))=Z1 at h2 ⊢;generalize D.lst (qm K)=Z at h1 ⊢;simp [qX,h1,h2,ltD,q]
theorem qd8 (c:1<=r) (k:Fx) (m:K.length<=10) (h:(K.length:Int)<=r):∃ B,(OKs r k B↔OKs r k K)/\B.Sublist K/\ua [.lst (qm K),.dct k]=.ok (.lst (qm B),[.non,.non]):=by obtain ⟨B,R,n1,n2,e⟩:=VM c k (a:=iJ (.lst (qm K))) 20 K (by omega) (by omega) h;refine ⟨B,n1,n2,?_⟩;have d:=Yv (K:=K) (by omega) k (iJ (.lst (qm K))) iL;refine runD_ap.trans ?_;unfold wZ;rw [show qu kx [.lst (qm K),.dct k]=[iJ (.lst (qm K)),iJ (.dct k),iL,iL] from rfl];refine (qG (ρ1:=[iJ (.lst (qm K)),iJ (.dct k),iJ (.lst (qm K)),iL]) (by simp)).trans ?_;refine (qG (ρ1:=[iJ (.lst (qm K)),iJ (.dct k),iJ (.lst (qm K)),iJ (.lst (qm (peK k K)))]) (by rw [Jx,d]; rfl)).trans ?_;refine (qG e).trans ?_;simp [qt]
theorem Yw {gr:List D->Out (D×List D)} {C S S1:D} {k:Fx} (hl:k.length<=100) {ch:Option D} (hi:ixD S (.int 0)=.ok (.str x)) (hs:qfM (iJ 1) iL S=.ok S1) (P:Int->Bool):∀ (vs:List Int) (y:Option D),(∀ v∈vs,gr [C,.int r,.dct (wB k (.inr x) (.int v)),S1]=.ok (.bl (P v),[.non,.non,.non,.non])) ->(vs.any P=iO/\∃ ρ,kQ (gNm 5) (cfB gr) (vs.map D.int) [iJ C,iJ (.int r),iJ (.dct k),iJ S,ch,y]=.ok (.rt (.bl iO),iJ C::iJ (.int r)::iJ (.dct k)::iJ S::ρ))\/(vs.any P=iN/\∃ s,kQ (gNm 5) (cfB gr) (vs.map D.int) [iJ C,iJ (.int r),iJ (.dct k),iJ S,ch,y]=.ok (.nx,[iJ C,iJ (.int r),iJ (.dct k),iJ S,ch,s]))
 | [],y,_=>.inr ⟨rfl,y,rfl⟩
 | v::vs,y,h=>by
  have d:=h v (aw ..);have hw:=qdX hl x v;cases q:P v with
  | true=>rw [q] at d;refine .inl ⟨by simp [q],[ch,iJ (.int v)],?_⟩;simp [kQ,cfB,qD,jw,hw,hi,vC,Jr,hs,d,vm]
  | false=>
   rw [q] at d;have s1:kQ (gNm 5) (cfB gr) ((v::vs).map D.int) [iJ C,iJ (.int r),iJ (.dct k),iJ S,ch,y]=kQ (gNm 5) (cfB gr) (vs.map D.int) [iJ C,iJ (.int r),iJ (.dct k),iJ S,ch,iJ (.int v)]:=by simp [kQ,cfB,qD,jw,hw,hi,vC,Jr,hs,d,vm]
   rw [s1,cJ,q,Bool.false_or];exact Yw hl hi hs P vs _ λu f=>h u (af _ f)
theorem qd9 (r:Int) (Cs:List Cn) (n:Nat) (x:Str) (ls:List Str) (k:Fx):cf r Cs (n+1) (x::ls) k=(Cs.all (md r k)&&(chs r k).any λw=>cf r Cs n ls (wB k (.inr x) (.int w))):=rfl
theorem Je (hC:∀ c∈Cs,c.1.length<=2/\c.2.length<=2) (A:Cs.length<=100) (z:0 < r) (m:r<=99):∀ (n:Nat) (ls:List Str) (k:Fx),ls.length < n->qap k->k.length+ls.length<=100 ->qQ n [.lst (Cs.map cE),.int r,.dct k,sE ls]=.ok (.bl (cf r Cs n ls k),[.non,.non,.non,.non])
 | 0,ls,k,h,_,_=>absurd h (dZ _)
 | n+1,ls,k,h,hk,hl=>by
  have hA:=λa b c=>qdY hC A z hk a b c;show ky jy [.val,.val,.val,.val] (jz (qQ n)) [.lst (Cs.map cE),.int r,.dct k,sE ls]=_;have t:qu jy [.lst (Cs.map cE),.int r,.dct k,sE ls]=[iJ (.lst (Cs.map cE)),iJ (.int r),iJ (.dct k),iJ (sE ls),iL,iL]:=rfl;cases q:Cs.all (md r k) with
  | false=>
   refine runD_ap.trans ?_;have u:cf r Cs (n+1) ls k=false:=by cases ls <;> (unfold cf; rw [q]; rfl)
   rw [q] at hA;rw [t,u];simp [jz,-xJ,hA,vm,qt]
  | true=>
   rw [q] at hA;have hA:=hA (iJ (sE ls)) iL iL;cases ls with
   | nil=>refine runD_ap.trans ?_;rw [show cf r Cs (n+1) [] k=iO by unfold cf; rw [q]; rfl];rw [t];unfold jz;refine (qG (ρ1:=[iJ (.lst (Cs.map cE)),iJ (.int r),iJ (.dct k),iJ (sE []),iL,iL]) (by simp [-xJ,hA,vm])).trans ?_;simp [kM,eqD,eqN,eqS,qt]
   | cons x ls=>
    rw [aq] at h hl;rw [qd9,q,Bool.true_and];obtain ⟨hi,hs⟩:=qf4 x ls;have d:∀ v∈chs r k,0<=v/\v < r:=λv d=>by
     unfold chs at d;split at d;·rw [aA.mp d]; omega
     ·obtain ⟨j,B,rfl⟩:=aC.mp d;have:=be.mp B;omega
    have s:dIf (jb (d2 eqD (d1 kM (qe 2)) (dC (.int 0)))) (Qq (qd (dC (.int 0)) qB)) (d1 uY (qe 1)) [iJ (.lst (Cs.map cE)),iJ (.int r),iJ (.dct k),iJ (sE (x::ls)),iL,iL]=.ok (.lst ((chs r k).map D.int),[iJ (.lst (Cs.map cE)),iJ (.int r),iJ (.dct k),iJ (sE (x::ls)),iL,iL]):=by
     unfold chs;by_cases l:k=[];·have z1:1<=sizeLine:=jm (by omega);simp [kM,eqD,eqN,eqS,l,z1]
     ·rw [if_neg l];have g:uY (.int r)=.ok (.lst (((aN r.toNat).map λ(j:Nat)=>(j:Int)).map D.int)):=by
       unfold uY;have E:qfF 0 r/\r<=1000000:=⟨⟨by decide,by omega⟩,by omega⟩
       simp only [Int.sub_zero,if_pos E];rw [qbM]
      generalize ((aN r.toNat).map λ(j:Nat)=>(j:Int)).map D.int=M at g ⊢;simp [kM,eqD,eqN,eqS,l,g]
    have p:=Yw (gr:=qQ n) (C:=.lst (Cs.map cE)) (r:=r) (k:=k) (ch:=iJ (.lst ((chs r k).map D.int))) (by omega) hi hs (λw=>cf r Cs n ls (wB k (.inr x) (.int w))) (chs r k) iL λv f=>
     Je hC A z m n ls (wB k (.inr x) (.int v)) (by omega) (qf3 hk _ (d v f).1 (by have:=(d v f).2; omega)) (by have:=qag k (.inr x) (.int v); omega)
    have i:kM (sE (x::ls))=.ok (.int ((ls.length:Int)+1)):=by simp [kM]
    have o:¬((ls.length:Int)+1=0):=by omega
    generalize H:sE (x::ls)=S at *;generalize D.lst (Cs.map cE)=C at *;have fin:Xh [.val,.val,.val,.val] ((qL (QO (jK (qe 4)) (gNm 5) (cfB (qQ n))) (jL (dC (.bl iN)))) [iJ C,iJ (.int r),iJ (.dct k),iJ S,iJ (.lst ((chs r k).map D.int)),iL])=.ok (.bl ((chs r k).any λw=>cf r Cs n ls (wB k (.inr x) (.int w))),[.non,.non,.non,.non]):=by
     have hit:jK (qe 4) [iJ C,iJ (.int r),iJ (.dct k),iJ S,iJ (.lst ((chs r k).map D.int)),iL]=.ok ((chs r k).map D.int,[iJ C,iJ (.int r),iJ (.dct k),iJ S,iJ (.lst ((chs r k).map D.int)),iL]):=by simp [jJ]
     generalize (chs r k).map D.int=M at hit p ⊢;rcases p with ⟨y,ρ,e⟩ | ⟨y,G,e⟩
     ·rw [y,Wt,yH,hit,wJ,e]; rfl
     ·rw [y,Wt,yH,hit,wJ,e]; rfl
    refine runD_ap.trans ?_;rw [t];unfold jz;refine (qG (ρ1:=[iJ C,iJ (.int r),iJ (.dct k),iJ S,iL,iL]) (by simp [-xJ,hA,vm])).trans ?_;refine (qG (ρ1:=[iJ C,iJ (.int r),iJ (.dct k),iJ S,iL,iL]) (by simp [i,eqD,eqN,eqS,o])).trans ?_;refine (qG (ρ1:=[iJ C,iJ (.int r),iJ (.dct k),iJ S,iJ (.lst ((chs r k).map D.int)),iL]) (by rw [Jx,s]; rfl)).trans ?_;exact fin
theorem Jf (H:l.length<=6) (o:1<=r) (p:r<=99) {k:Fx} (w:qap k) (u:k.length<=50):∃ b,ja [.lst (qm l),.int r,.dct k]=.ok (.bl b,[.non,.non,.non])/\(b=iO↔(l.length:Int)<=r/\OKs r k l):=by
 have n:kM (.lst (qm l))=.ok (.int l.length):=by simp [kM,qm]
 by_cases j:r < (l.length:Int);·refine ⟨iN,?_,⟨(λz=>by cases z),λz=>absurd z.1 (by omega)⟩⟩;refine runD_ap.trans ?_;generalize D.lst (qm l)=Z at n ⊢;simp [kP,qu,qt,n,ltD,j]
 ·have g:(l.length:Int)<=r:=by omega
  obtain ⟨B,n1,n2,G⟩:=qd8 o k (K:=l) (by omega) g;have I:B.length<=6:=bE n2.length_le H;have L:=uf (l:=B) (by omega);have f:=VJ (l:=B) (by omega);have t:=qcm B;have A:((LS B).filter λx=>!kW k (.inr x)).length<=12:=by have:=List.length_filter_le (λx=>!kW k (.inr x)) (LS B);omega
  have E:=Je (Cs:=CT B) (λc f=>qcl f) (qf0 B (by omega)) (r:=r) (by omega) p 14 ((LS B).filter λx=>!kW k (.inr x)) k (by omega) w (by omega);refine ⟨cf r (CT B) 14 ((LS B).filter λx=>!kW k (.inr x)) k,?_,?_⟩
  ·refine runD_ap.trans ?_;have e:=GV (own:=[]) (cap:=[2]) (fi:=jK (qx [.vl] qY (qd (qe 3) qB))) (ρ:=[iJ (.lst (qm l)),iJ (.int r),iJ (.dct k),iJ (.lst (qm B)),iL]) (ρ1:=[iJ (.lst (qm l)),iJ (.int r),iJ (.dct k),iJ (.lst (qm B)),iL]) (ds:=(LS B).map D.str) (ft:=jb (d2 Js (qe 0) (qe 1))) (fe:=qe 0) (λd=>match d with | .str x=>!kW k (.inr x) | _=>iN) (λd=>d) (by simp) (by
     generalize D.lst (qm B)=Z at L ⊢;simp [qD,jw,L,jJ]) (by rw [am]; exact jm (by omega)) (λd hd=>by
     obtain ⟨x,hx,rfl⟩:=aC.mp hd;simp [Js,VP]) (λd hd _=>rfl)
   rw [List.map_id',List.filter_map] at e;have e:jl [] 1 [2] (jK (qx [.vl] qY (qd (qe 3) qB))) (gNm 0) (jb (d2 Js (qe 0) (qe 1))) (qe 0) [iJ (.lst (qm l)),iJ (.int r),iJ (.dct k),iJ (.lst (qm B)),iL]=.ok (sE ((LS B).filter λx=>!kW k (.inr x)),[iJ (.lst (qm l)),iJ (.int r),iJ (.dct k),iJ (.lst (qm B)),iL]):=e;unfold kP;rw [show qu vU [.lst (qm l),.int r,.dct k]=[iJ (.lst (qm l)),iJ (.int r),iJ (.dct k),iL,iL] from rfl];generalize D.lst (qm l)=Z at *;generalize D.lst (qm B)=ZB at *;generalize D.dct k=Y at *;refine (qG (ρ1:=[iJ Z,iJ (.int r),iJ Y,iL,iL]) (by simp [n,ltD,j])).trans ?_;refine (qG (ρ1:=[iJ Z,iJ (.int r),iJ Y,iJ ZB,iL]) (by simp [qD,jw,G])).trans ?_;refine (qG (ρ1:=[iJ Z,iJ (.int r),iJ Y,iJ ZB,iJ (sE ((LS B).filter λx=>!kW k (.inr x)))]) (by rw [Jx,e]; rfl)).trans ?_;generalize sE ((LS B).filter λx=>!kW k (.inr x))=S at *;generalize D.lst ((CT B).map cE)=C at *;simp [qD,jw,f,E,qt]
  ·have R:((LS B).filter λx=>!kW k (.inr x)).Nodup:=((jn _).nodup_iff.mpr (xx _ [] c8).1).filter _;have hok:(∃ v,Ext k v/\qes r (CT B) v)↔OKs r k B:=⟨λ⟨v,a,b⟩=>⟨v,a,ds_ct.mpr b⟩,λ⟨v,a,b⟩=>⟨v,a,ds_ct.mp b⟩⟩
   rw [<-n1,<-hok];have m:∀ c∈CT B,∀ y∈c.1++c.2,kW k (.inr y)=iO\/y∈(LS B).filter λx=>!kW k (.inr x):=λc f y i=>by
    cases q:kW k (.inr y) with
    | true=>exact .inl rfl
    | false=>exact .inr (dq.mpr ⟨qga f y i,by rw [q]; rfl⟩)
   by_cases s:k=[];·subst s;rw [qd4 o (λc f=>qiZ f) 14 _ (by omega) R λc f y i=>(m c f y i).resolve_left λz=>by cases z];exact ⟨λ⟨v,h⟩=>⟨g,v,(λx hx=>by cases hx),h⟩,λ⟨_,v,_,h⟩=>⟨v,h⟩⟩
   ·rw [qah o 14 _ k (by omega) s R (λy i=>by simpa using (dq.mp i).2) m];exact ⟨λh=>⟨g,h⟩,λh=>h.2⟩
abbrev rfT:Sl->Out (Bool×Sl):=(yn (uu (qx [.vl,.vl,.vl] ja (qd (qe 0) (qd (qe 2) (qd (dC (.dct [])) qB))))))
abbrev rfB:Sl->Out (Fl×Sl):=(kj 2 (d2 ug (qe 2) (dC (.int 1))))
variable {Z:D}
theorem Kl {P:Int->Prop} (hd:∀ r,1<=r->r<=99->∃ b,ja [Z,.int r,.dct []]=.ok (.bl b,[.non,.non,.non])/\(b=iO↔P r)) {m:Int} (c:P m) (h:m<=97) {a:Option D}:∀ (n:Nat) (f:Int),1<=f->f<=m->m < f+n ->∃ R,f<=R/\P R/\(∀ r,f<=r->r < R->¬P r)/\qX rfT rfB n [iJ Z,a,iJ (.int f)]=.ok (.nx,[iJ Z,a,iJ (.int R)])
 | 0,f,h1,h2,h3=>by omega
 | n+1,f,h1,h2,h3=>by
  obtain ⟨b,e,g⟩:=hd f h1 (by omega);cases b with
  | true=>exact ⟨f,by omega,g.mp rfl,λr r1 r2=>by omega,by simp [qX,qD,jw,e,vm]⟩
  | false=>
   have d:¬P f:=λz=>by have:=g.mpr z; cases this
   have j:f≠m:=λz=>d (by rw [z]; exact c);obtain ⟨R,r1,r2,r3,r4⟩:=Kl hd c h n (f+1) (by omega) (by omega) (by omega);refine ⟨R,by omega,r2,λr k i=>?_,?_⟩
   ·by_cases q:r=f;·rw [q]; exact d
    ·exact r3 r (by omega) i
   ·have s1:qX rfT rfB (n+1) [iJ Z,a,iJ (.int f)]=qX rfT rfB n [iJ Z,a,iJ (.int (f+1))]:=by simp [qX,qD,jw,e,vm,ug]
    rw [s1];exact r4
theorem qgd (h:clo l=iL):NA l:=by
 unfold NA;rw [dR];intro i j hi D g;have h1:=List.findSome?_eq_none_iff.mp h j (be.mpr D);unfold clF at h1;rw [Option.map_eq_none_iff,d7] at h1;have h2:=h1 i (be.mpr g);have e1:pa l i=l[i]:=by simp [pa,hi]
 have e:pa l j=l[j]:=by simp [pa,D]
 rw [<-e1,<-e];simpa using h2
theorem qge {k:Fx} (hl:k.length<=100) (x:Str) (v:Int):vb [.dct k,.str x,.int v]=.ok (.dct (wB k (.inr x) (.int v)),[.dct k,.non,.non]):=by have hz:k.length < sizeLine:=aI (show k.length < 2000 by omega) big;refine runD_ap.trans ?_;simp [wY,qu,qt,Vn,Vl,VP,hz]
theorem qea (f:1<=r) {k:Fx} (hx:kW k (.inr x)=iN) (h:OKs r k l):∃ w,0<=w/\w < r/\OKs r (wB k (.inr x) (.int w)) l:=by
 obtain ⟨v,d,hd⟩:=h;refine ⟨v x % r,fz _ (by omega),d6 _ (by omega),up v x (v x % r),λy a=>?_,?_⟩
 ·rw [uQ hx] at a;obtain ⟨h1,h2⟩:=VL hx (v x % r);unfold up;by_cases q:y=x;·rw [if_pos q,q,h1]
  ·rw [if_neg q,h2 y q];refine d y ?_;have:decide (x=y)=false:=decide_eq_false λz=>q z.symm;rw [this,fW] at a;exact a
 ·have c:∀ y,r ∣ v y - up v x (v x % r) y:=λy=>by
   unfold up;split;·rename_i q;rw [q];exact Int.dvd_self_sub_emod
   ·rw [Int.sub_self];exact Int.dvd_zero _
  unfold Ds at hd ⊢;refine hd.imp λ{p q} b z=>b ?_;have e:nu v p - nu v q=(nu (up v x (v x % r)) p - nu (up v x (v x % r)) q)+((v p.1 - up v x (v x % r) p.1)+(v p.2 - up v x (v x % r) p.2)) - ((v q.1 - up v x (v x % r) q.1)+(v q.2 - up v x (v x % r) q.2)):=by unfold nu;omega
  rw [e];exact Int.dvd_sub (fS z (fS (c _) (c _))) (fS (c _) (c _))
abbrev lwT:Sl->Out (Bool×Sl):=(qfb (jb (d2 ltD (qe 4) (qe 1))) (yn (uu (qx [.vl,.vl,.vl] ja (qd (qe 0) (qd (qe 1) (qd (qx [.sl 2,.vl,.vl] vb (kA (qd (qe 3) (qd (qe 4) qB)))) qB)))))))
abbrev lwB:Sl->Out (Fl×Sl):=(kj 4 (d2 ug (qe 4) (dC (.int 1))))
theorem Yx {k:Fx} (hl:k.length<=100) {P:Int->Prop} (hd:∀ w,0<=w->w < r->∃ b,ja [Z,.int r,.dct (wB k (.inr x) (.int w))]=.ok (.bl b,[.non,.non,.non])/\(b=iO↔P w)) {m:Int} (c:P m) (a:m < r):∀ (n:Nat) (f:Int),0<=f->f<=m->m < f+n ->∃ R,f<=R/\R < r/\P R/\(∀ w,f<=w->w < R->¬P w)/\qX lwT lwB n [iJ Z,iJ (.int r),iJ (.dct k),iJ (.str x),iJ (.int f)]=.ok (.nx,[iJ Z,iJ (.int r),iJ (.dct k),iJ (.str x),iJ (.int R)])
 | 0,f,h1,h2,h3=>by omega
 | n+1,f,h1,h2,h3=>by
  obtain ⟨b,e,g⟩:=hd f h1 (by omega);have hw:=qge hl x f;have h:f < r:=by omega
  cases b with
  | true=>refine ⟨f,by omega,h,g.mp rfl,λw r1 r2=>by omega,?_⟩;generalize D.dct (wB k (.inr x) (.int f))=Y at *;simp [qX,qD,jw,hw,e,vm,ltD,h]
  | false=>
   have d:¬P f:=λz=>by have:=g.mpr z; cases this
   have j:f≠m:=λz=>d (by rw [z]; exact c);obtain ⟨R,r1,r0,r2,r3,r4⟩:=Yx hl hd c a n (f+1) (by omega) (by omega) (by omega);refine ⟨R,by omega,r0,r2,λw l i=>?_,?_⟩
   ·by_cases q:w=f;·rw [q]; exact d
    ·exact r3 w (by omega) i
   ·have s1:qX lwT lwB (n+1) [iJ Z,iJ (.int r),iJ (.dct k),iJ (.str x),iJ (.int f)]=qX lwT lwB n [iJ Z,iJ (.int r),iJ (.dct k),iJ (.str x),iJ (.int (f+1))]:=by generalize D.dct (wB k (.inr x) (.int f))=Y at *;simp [qX,qD,jw,hw,e,vm,ltD,h,ug]
    rw [s1];exact r4
theorem sq {f g:Sl->Out (Fl×Sl)} (h:f ρ=.ok (.nx,ρ1)):qL f g ρ=g ρ1:=by unfold qL;rw [h];rfl
theorem fnx {fb:Sl->Out (Fl×Sl)} {ρ2:Sl} (h1:g d ρ=.ok ρ1) (h2:fb ρ1=.ok (.nx,ρ2)):kQ g fb (d::ds) ρ=kQ g fb ds ρ2:=by simp [kQ,h1,h2]
inductive Lex (r:Int) (l:List (Str×Str)):List (Str×Int)->List (Str×Int)->Prop
 | nil (m:List (Str×Int)):Lex r l m []
 | cons {m:List (Str×Int)} {x:Str} {w:Int} {rest:List (Str×Int)} (h0:0<=w) (h1:w < r) (h2:OKs r (bk (m++[(x,w)])) l) (h3:∀ w',0<=w'->w' < w->¬OKs r (bk (m++[(x,w')])) l) (t:Lex r l (m++[(x,w)]) rest):Lex r l m ((x,w)::rest)
variable {m:List (Str×Int)}
theorem Yy (h:x∉jB m) (w:Int):wB (bk m) (.inr x) (.int w)=bk (m++[(x,w)]):=by rw [Ql (by rw [Yp]; exact decide_eq_false h)];simp [bk]
theorem qhY (p:r<=99) (h:∀ e∈m,0<=e.2/\e.2 < r):qap (bk m):=λkv a=>by obtain ⟨e,i,rfl⟩:=aC.mp a;have:=h e i;exact ⟨e.2,rfl,this.1,by omega⟩
theorem qbP (m:List (Str×Int)) (x:Str) (w:Int):jB (m++[(x,w)])=jB m++[x]:=by simp [jB]
abbrev lwL:Sl->Out (Fl×Sl):=(qL (kj 4 (dC (.int 0)))
  (qL (qX lwT lwB 102)
  (qL (sIf (jb (d2 eqD (qe 4) (qe 1))) (jL (dC .non)) jk)
  (Vl 2 (qe 4) (qe 3)))))
theorem qai (u:l.length<=6) (f:1<=r) (p:r<=99) (j:(l.length:Int)<=r):∀ (xs:List Str) (m:List (Str×Int)) (y z:Option D),xs.Nodup->(∀ x∈xs,x∉jB m)->m.length+xs.length<=40->(∀ e∈m,0<=e.2/\e.2 < r)->OKs r (bk m) l ->∃ ws s b,jB ws=xs/\(∀ e∈ws,0<=e.2/\e.2 < r)/\Lex r l m ws/\OKs r (bk (m++ws)) l/\kQ (gNm 3) lwL (xs.map D.str) [iJ (.lst (qm l)),iJ (.int r),iJ (.dct (bk m)),y,z]=.ok (.nx,[iJ (.lst (qm l)),iJ (.int r),iJ (.dct (bk (m++ws))),s,b])
 | [],m,y,z,_,_,_,_,hok=>⟨[],y,z,rfl,by simp,.nil m,by simpa using hok,by simp [kQ]⟩
 | x::xs,m,y,z,h,hnm,hlen,hm,hok=>by
  rw [aq] at hlen;have hx:x∉jB m:=hnm x (aw ..);have h:=aU.mp h;have B:(bk m).length<=40:=by simp [bk]; omega
  have n:∀ w,0<=w->w < r->∀ e∈m++[(x,w)],0<=e.2/\e.2 < r:=λw o v e i=>by
   rcases aJ.mp i with i | i;·exact hm e i
   ·rw [aA.mp i];exact ⟨o,v⟩
  obtain ⟨o,L,K,J⟩:=qea f (x:=x) (by rw [Yp]; exact decide_eq_false hx) hok;obtain ⟨R,r0,r1,r2,r3,r4⟩:=Yx (Z:=.lst (qm l)) (r:=r) (k:=bk m) (by omega) (x:=x) (P:=λw=>(l.length:Int)<=r/\OKs r (wB (bk m) (.inr x) (.int w)) l) (λw d c=>by have t:=qhY p (n w d c);rw [<-Yy hx] at t;exact Jf u f p t (bE (qag _ _ _) (by omega))) ⟨j,J⟩ K 102 0 (by omega) L (by omega);have a:OKs r (bk (m++[(x,R)])) l:=by rw [<-Yy hx]; exact r2.2
  obtain ⟨ws,s,b,I,H,G,E,C⟩:=qai u f p j xs (m++[(x,R)]) (iJ (.str x)) (iJ (.int R)) h.2 (λe i=>by
   rw [qbP];intro q;rcases aJ.mp q with q | q;·exact hnm e (af _ i) q
   ·rw [aA.mp q] at i;exact h.1 i) (by rw [aj,eZ]; omega) (n R r0 r1) a
  refine ⟨(x,R)::ws,s,b,?_,λe i=>?_,.cons r0 r1 a (λw' d c A=>r3 w' d c ⟨j,by rw [Yy hx]; exact A⟩) G,by simpa using E,?_⟩;·show x::jB ws=_;rw [I]
  ·rcases ac.mp i with rfl | i;·exact ⟨r0,r1⟩
   ·exact H e i
  ·have hz:(bk m).length < sizeLine:=aI (show (bk m).length < 2000 by omega) big;have g:¬R=r:=by omega
   have st:lwL [iJ (.lst (qm l)),iJ (.int r),iJ (.dct (bk m)),iJ (.str x),z]=.ok (.nx,[iJ (.lst (qm l)),iJ (.int r),iJ (.dct (bk (m++[(x,R)]))),iJ (.str x),iJ (.int R)]):=by generalize D.lst (qm l)=Z at *;refine (sq (ρ1:=[iJ Z,iJ (.int r),iJ (.dct (bk m)),iJ (.str x),iJ (.int 0)]) rfl).trans ?_;refine (sq r4).trans ?_;refine (sq (ρ1:=[iJ Z,iJ (.int r),iJ (.dct (bk m)),iJ (.str x),iJ (.int R)]) (by simp [eqD,eqN,eqS,g])).trans ?_;rw [<-Yy hx];simp [Vl,VP,hz]
   rw [aL];refine (fnx (ρ1:=[iJ (.lst (qm l)),iJ (.int r),iJ (.dct (bk m)),iJ (.str x),z]) rfl st).trans ?_;rw [C,cV];rfl
theorem qcs:∀ {L:List Str},L.Pairwise (λx y=>leS x y/\x≠y)->qdL L=iO
 | [],_=>rfl
 | [_],_=>rfl
 | x::y::r,h=>by obtain ⟨h1,h2⟩:=bh.mp h;obtain ⟨a,b⟩:=h1 y (aw ..);unfold qdL;rw [qcs h2,decide_eq_true (aZ b),decide_eq_false (show ¬y.cps.toList < x.cps.toList from a)];rfl
theorem qgf (l:List (Str×Str)):(LS l).Pairwise (λx y=>leS x y/\x≠y):=(kN _).and (qfU l)
theorem Yz:∀ m:List (Str×Int),Wu (bk m)=iJ (jB m)
 | []=>rfl
 | e::m=>by have:=Yz m;simp [bk,jB,Wu] at this ⊢;exact this
theorem qbQ (m:List (Str×Int)):UX (bk m)=prL m:=by unfold UX bk prL;rw [ce];rfl
def qhZ (l:List (Str×Str)) (r:Int) (ws:List (Str×Int)):Prop:=jB ws=LS l/\(∀ e∈ws,0<=e.2/\e.2 < r)/\Lex r l [] ws/\OKs r (bk ws) l
theorem Qm (f:l.length<=6) (z:∀ x∈LS l,∃ c,az c/\x=⟨#[c]⟩) (e:1<=r) (p:r<=99) (j:(l.length:Int)<=r) (hok:OKs r [] l):∃ ws,qhZ l r ws/\wm [.lst (qm l),.int r]=.ok (.tup (prL ws),[.non,.non]):=by
 have a:=uf (l:=l) (by omega);have t:=qcm l;obtain ⟨ws,s,d,A,i,g,w,b⟩:=qai f e p j (LS l) [] iL iL (qfU l) (λx _=>by simp [jB]) (by simp; omega) (by simp) hok;rw [h9] at w b;refine ⟨ws,⟨A,i,g,w⟩,?_⟩;have hs:vg (.dct (bk ws))=.ok (.lst (prL ws)):=by
  have h:((LS l).all λy=>decide (y.length<=sizeLine))=true:=by rw [aO];intro x hx;obtain ⟨c,_,rfl⟩:=z x hx;exact decide_eq_true (show (1:Nat)<=sizeLine from jm (by omega))
  have k:=Yz ws;rw [A] at k;simp only [vg,k];rw [if_pos ⟨by omega,qcs (qgf l),h⟩,qbQ]
 refine runD_ap.trans ?_;unfold wl;rw [show qu wk [.lst (qm l),.int r]=[iJ (.lst (qm l)),iJ (.int r),iL,iL,iL] from rfl];refine (qG (ρ1:=[iJ (.lst (qm l)),iJ (.int r),iJ (.dct (bk [])),iL,iL]) rfl).trans ?_;have hi:jK (qx [.vl] qY (qd (qe 0) qB)) [iJ (.lst (qm l)),iJ (.int r),iJ (.dct (bk [])),iL,iL]=.ok ((LS l).map D.str,[iJ (.lst (qm l)),iJ (.int r),iJ (.dct (bk [])),iL,iL]):=by generalize D.lst (qm l)=Z at a ⊢;simp [qD,jw,a,jJ]
 refine (qG (ρ1:=[iJ (.lst (qm l)),iJ (.int r),iJ (.dct (bk ws)),s,d]) (by rw [yH,hi,wJ];exact b)).trans ?_;generalize D.lst (qm l)=Z;generalize D.dct (bk ws)=B at hs ⊢;simp [hs,gk,qt]
theorem qh0 (h:x∈jB m):vl (bk m) x=Qs m x:=by unfold vl;rw [(Kj h).2]
theorem qh1 {w:Str->Int} (h:∀ x∈LS l,v x=w x) (hd:Ds r v l):Ds r w l:=by
 unfold Ds at hd ⊢;refine List.Pairwise.imp_of_mem (λ{p q} hp hq a=>?_) hd;have e:∀ p∈l,nu v p=nu w p:=λp hp=>by unfold nu;rw [h p.1 (mem_LS.mpr ⟨p,hp,.inl rfl⟩),h p.2 (mem_LS.mpr ⟨p,hp,.inr rfl⟩)]
 rw [<-e p hp,<-e q hq];exact a
theorem qeb {ws:List (Str×Int)} (h:qhZ l r ws):Ds r (Qs ws) l:=by obtain ⟨h1,h2,h3,v,c,hd⟩:=h;refine qh1 (λx hx=>?_) hd;rw [<-h1] at hx;rw [c x (by rw [Yp]; exact decide_eq_true hx),qh0 hx]
theorem nums_nd:(l.map λx=>(v x.1+v x.2) % r).Nodup↔Ds r v l:=by
 unfold Ds bj;rw [List.pairwise_map];have e:∀ p q:Str×Str,(v p.1+v p.2) % r≠(v q.1+v q.2) % r↔¬r ∣ nu v p - nu v q:=λp q=>by unfold nu;rw [Ne,Int.emod_eq_emod_iff_emod_sub_eq_zero,Int.dvd_iff_emod_eq_zero]
 simp only [e]
theorem Uf (h:Xz ca):yk ca [.xcp (ca "Never")]=.ok (.tup [.str "refused",.int 6],[.non]):=by
 refine runD_ap.trans ?_;have k:(ae "Never")∈CS:=by decide +kernel
 have B:=qN h (x := "NoWords") (y := "Never") (b:=iN) (by decide +kernel) k (by decide +kernel);have p:=qN h (x := "NoLook") (y := "Never") (b:=iN) (by decide +kernel) k (by decide +kernel);have o:=qN h (x := "NoNumbers") (y := "Never") (b:=iN) (by decide +kernel) k (by decide +kernel);have i:=qN h (x := "NoRoom") (y := "Never") (b:=iN) (by decide +kernel) k (by decide +kernel);have q:=qN h (x := "NoWord") (y := "Never") (b:=iN) (by decide +kernel) k (by decide +kernel);have m:=qN h (x := "NoWorths") (y := "Never") (b:=iN) (by decide +kernel) k (by decide +kernel);have l:=qN h (x := "Never") (y := "Never") (b:=iO) (by decide +kernel) k (by decide +kernel);have g:=qN h (x := "Full") (y := "Never") (b:=iN) (by decide +kernel) k (by decide +kernel);have j:=qN h (x := "Known") (y := "Never") (b:=iN) (by decide +kernel) k (by decide +kernel);have D:=qN h (x := "NoPlace") (y := "Never") (b:=iN) (by decide +kernel) k (by decide +kernel);have d:=qN h (x := "NoLetters") (y := "Never") (b:=iN) (by decide +kernel) k (by decide +kernel);have c:=qN h (x := "NoText") (y := "Never") (b:=iN) (by decide +kernel) k (by decide +kernel);have a12:=qN h (x := "Nothing") (y := "Never") (b:=iN) (by decide +kernel) k (by decide +kernel);have T:=Ub (ca:=ca) k;have f:4<=sizeLine:=jm (by omega);have e:8<=sizeLine:=jm (by omega);have a:12<=sizeLine:=jm (by omega);have z:12 < sizeLine:=aI (by decide) big;have z2:2<=sizeLine:=jm (by omega);simp [xu,qu,qt,gn,B,p,o,i,q,m,l,g,j,D,d,c,a12,T,f,e,a,z,z2,yE,qao,QT,QU,vA,neD,eqN,eqS,vm,QV,qfo,g8,fI]
theorem Xw (h:Xz ca):yk ca [.xcp (ca "Full")]=.ok (.tup [.str "refused",.int 7],[.non]):=by
 refine runD_ap.trans ?_;have k:(ae "Full")∈CS:=by decide +kernel
 have B:=qN h (x := "NoWords") (y := "Full") (b:=iN) (by decide +kernel) k (by decide +kernel);have p:=qN h (x := "NoLook") (y := "Full") (b:=iN) (by decide +kernel) k (by decide +kernel);have o:=qN h (x := "NoNumbers") (y := "Full") (b:=iN) (by decide +kernel) k (by decide +kernel);have i:=qN h (x := "NoRoom") (y := "Full") (b:=iN) (by decide +kernel) k (by decide +kernel);have q:=qN h (x := "NoWord") (y := "Full") (b:=iN) (by decide +kernel) k (by decide +kernel);have m:=qN h (x := "NoWorths") (y := "Full") (b:=iN) (by decide +kernel) k (by decide +kernel);have l:=qN h (x := "Never") (y := "Full") (b:=iN) (by decide +kernel) k (by decide +kernel);have g:=qN h (x := "Full") (y := "Full") (b:=iO) (by decide +kernel) k (by decide +kernel);have j:=qN h (x := "Known") (y := "Full") (b:=iN) (by decide +kernel) k (by decide +kernel);have D:=qN h (x := "NoPlace") (y := "Full") (b:=iN) (by decide +kernel) k (by decide +kernel);have d:=qN h (x := "NoLetters") (y := "Full") (b:=iN) (by decide +kernel) k (by decide +kernel);have c:=qN h (x := "NoText") (y := "Full") (b:=iN) (by decide +kernel) k (by decide +kernel);have a12:=qN h (x := "Nothing") (y := "Full") (b:=iN) (by decide +kernel) k (by decide +kernel);have T:=Ub (ca:=ca) k;have f:4<=sizeLine:=jm (by omega);have e:8<=sizeLine:=jm (by omega);have a:12<=sizeLine:=jm (by omega);have z:12 < sizeLine:=aI (by decide) big;have z2:2<=sizeLine:=jm (by omega);simp [xu,qu,qt,gn,B,p,o,i,q,m,l,g,j,D,d,c,a12,T,f,e,a,z,z2,yE,qao,QT,QU,vA,neD,eqN,eqS,vm,QV,qfo,g8,fI]
theorem Ug (h:Xz ca):yk ca [.xcp (ca "Known")]=.ok (.tup [.str "refused",.int 8],[.non]):=by
 refine runD_ap.trans ?_;have k:(ae "Known")∈CS:=by decide +kernel
 have B:=qN h (x := "NoWords") (y := "Known") (b:=iN) (by decide +kernel) k (by decide +kernel);have p:=qN h (x := "NoLook") (y := "Known") (b:=iN) (by decide +kernel) k (by decide +kernel);have o:=qN h (x := "NoNumbers") (y := "Known") (b:=iN) (by decide +kernel) k (by decide +kernel);have i:=qN h (x := "NoRoom") (y := "Known") (b:=iN) (by decide +kernel) k (by decide +kernel);have q:=qN h (x := "NoWord") (y := "Known") (b:=iN) (by decide +kernel) k (by decide +kernel);have m:=qN h (x := "NoWorths") (y := "Known") (b:=iN) (by decide +kernel) k (by decide +kernel);have l:=qN h (x := "Never") (y := "Known") (b:=iN) (by decide +kernel) k (by decide +kernel);have g:=qN h (x := "Full") (y := "Known") (b:=iN) (by decide +kernel) k (by decide +kernel);have j:=qN h (x := "Known") (y := "Known") (b:=iO) (by decide +kernel) k (by decide +kernel);have D:=qN h (x := "NoPlace") (y := "Known") (b:=iN) (by decide +kernel) k (by decide +kernel);have d:=qN h (x := "NoLetters") (y := "Known") (b:=iN) (by decide +kernel) k (by decide +kernel);have c:=qN h (x := "NoText") (y := "Known") (b:=iN) (by decide +kernel) k (by decide +kernel);have a12:=qN h (x := "Nothing") (y := "Known") (b:=iN) (by decide +kernel) k (by decide +kernel);have T:=Ub (ca:=ca) k;have f:4<=sizeLine:=jm (by omega);have e:8<=sizeLine:=jm (by omega);have a:12<=sizeLine:=jm (by omega);have z:12 < sizeLine:=aI (by decide) big;have z2:2<=sizeLine:=jm (by omega);simp [xu,qu,qt,gn,B,p,o,i,q,m,l,g,j,D,d,c,a12,T,f,e,a,z,z2,yE,qao,QT,QU,vA,neD,eqN,eqS,vm,QV,qfo,g8,fI]
theorem Qn {k:Nat}:∀ ds:List D,(∀ d∈ds,eqN k d d=iJ iO)->wH (eqN k) ds ds=iJ iO
 | [],_=>rfl
 | d::ds,h=>by have e:=h d (aw ..);have j:=Qn ds λd' hd=>h d' (af _ hd);simp [wH,e,j]
theorem qec {k:Nat} (h:∀ d∈ds,eqN k d d=iJ iO):eqN (k+1) (.lst ds) (.lst ds)=iJ true:=by have e:=Qn ds h;simp [eqN,e]
theorem Uh {k:Nat} (h:∀ d∈ds,eqN k d d=iJ iO):eqN (k+1) (.tup ds) (.tup ds)=iJ true:=by have e:=Qn ds h;simp [eqN,e]
theorem qct (k:Nat) (x:Str):eqN k (.str x) (.str x)=iJ true:=by cases k <;> simp [eqN,eqS]
theorem Ui (k:Nat) (x:Int):eqN k (.int x) (.int x)=iJ true:=by cases k <;> simp [eqN,eqS]
theorem qaj (h:eqN 8 d d=iJ iO):neD d d=.ok (.bl iN):=by simp [neD,h]
theorem Km (h:eqN 8 d d=iJ iO):eqD d d=.ok (.bl iO):=by simp [eqD,h]
abbrev wdF (p q:Int) (ws:List Str) (r:Int) (hs:List Int):List (Str×D):=[("look",Ld p q),("came",Wd ws),("width",.int r),("held",.tup (hs.map D.int))]
noncomputable def wdD (ca:Str->Addr) (p q:Int) (ws:List Str) (r:Int) (hs:List Int):D:=.ins (ca "Words") (wdF p q ws r hs)
variable {hs:List Int}
section
theorem s1:(ae "came" == ae "look")=iN/\(ae "width" == ae "look")=iN/\(ae "width" == ae "came")=iN/\(ae "held" == ae "look")=iN/\(ae "held" == ae "came")=iN/\(ae "held" == ae "width")=false:=by decide +kernel
theorem qgg:Qz (ca "Words") "look" (wdD ca p q ws r hs)=.ok (Ld p q):=by simp [Qz,wdD,cx]
theorem YA:Qz (ca "Words") "came" (wdD ca p q ws r hs)=.ok (Wd ws):=by obtain ⟨a,o,z,b,m,l⟩:=s1;simp [Qz,wdD,cx,a]
theorem qak:Qz (ca "Words") "width" (wdD ca p q ws r hs)=.ok (.int r):=by obtain ⟨b,o,z,a,m,l⟩:=s1;simp [Qz,wdD,cx,o,z]
theorem qgh:Qz (ca "Words") "held" (wdD ca p q ws r hs)=.ok (.tup (hs.map D.int)):=by obtain ⟨b,o,z,a,m,l⟩:=s1;simp [Qz,wdD,cx,a,m,l]
theorem Qo {n:Str} (h:([ae "look",ae "came",ae "width",ae "held"].all λf=>!(n == f))=iO):JC (ca "Words") n (iJ (iJ (wdD ca p q ws r hs)))=true:=by simp only [fy,List.all_nil,iq,aP,eJ] at h;obtain ⟨h1,h2,h3,a⟩:=h;simp [JC,wdD,cx,h1,h2,h3,a]
theorem qed (hl:VS p q):jT ca [.ins (ca "Words") [],Ld p q]=.ok (.non,[wdD ca p q [] 0 [],.non]):=by
 have h:=xy hl;have e1:¬ae "look"=ae "came":=by decide +kernel
 have i:¬ae "look"=ae "width":=by decide +kernel
 have E:¬ae "came"=ae "width":=by decide +kernel
 have k:¬ae "look"=ae "held":=by decide +kernel
 have A:¬ae "came"=ae "held":=by decide +kernel
 have e:¬ae "width"=ae "held":=by decide +kernel
 refine runD_ap.trans ?_;simp [kS,qu,qt,qD,jw,h,gG,gF,e1,i,E,k,A,e,wdD]
theorem qee:jr ca [wdD ca p q ws r hs]=.ok (Wd ws,[wdD ca p q ws r hs]):=by have h:=YA (ca:=ca) (p:=p) (q:=q) (ws:=ws) (r:=r) (hs:=hs);refine runD_ap.trans ?_;generalize wdD ca p q ws r hs=O at *;simp [wM,qu,qt,h]
theorem qgi:jD ca [wdD ca p q ws r hs]=.ok (.int r,[wdD ca p q ws r hs]):=by have h:=qak (ca:=ca) (p:=p) (q:=q) (ws:=ws) (r:=r) (hs:=hs);refine runD_ap.trans ?_;generalize wdD ca p q ws r hs=O at *;simp [uA,qu,qt,h]
noncomputable def nmL (ws:List Str) (hs:List Int):D:=.lst (qb7 (ws.map D.str) (hs.map D.int))
theorem qal:qA ca [wdD ca p q ws r hs]=.ok (nmL ws hs,[wdD ca p q ws r hs]):=by have h1:=YA (ca:=ca) (p:=p) (q:=q) (ws:=ws) (r:=r) (hs:=hs);have h2:=qgh (ca:=ca) (p:=p) (q:=q) (ws:=ws) (r:=r) (hs:=hs);have h3:vK (Wd ws) (.tup (hs.map D.int))=.ok (nmL ws hs):=rfl;refine runD_ap.trans ?_;generalize wdD ca p q ws r hs=O at *;simp [vD,qu,qt,h1,h2,h3]
end
noncomputable def nuL (r:Int) (l:List (Str×Str)) (m:List (Str×Int)):List Int:=l.map λx=>(Qs m x.1+Qs m x.2) % r
section
variable (hw:vH ws) (hl:VS p q)
include hw hl
theorem qbR (g:1<=r) (f:r<=99) {es:List (Str×Int)} (B:qhZ (jd ws p q) r es):yg [Wd ws,Ld p q,.int r,.tup (prL es)]=.ok (.tup ((nuL r (jd ws p q) es).map D.int),[.non,.non,.non,.non])/\(nuL r (jd ws p q) es).Nodup:=by
 have hd:=nums_nd.mpr (qeb B);obtain ⟨k,v,_,_⟩:=B;have z:=qfT hw p q;have t:=qfS hw p q;have l:es.length<=12:=by
  have:(jB es).length=es.length:=by simp [jB]
  rw [<-this,k];exact t
 have m:OkW r es:=λx hx=>by obtain ⟨c,a,e⟩:=z x.1 (by rw [<-k]; exact aC.mpr ⟨x,hx,rfl⟩);have:=v x hx;exact ⟨by rw [e]; exact qch a,this.1,this.2⟩
 have hs:WW es=true:=by unfold WW;rw [Yo,k];exact WZ _ (qgf _)
 have b:WT 1 99 (.int r)=true:=by simp [WT]; omega
 have hi:=(VG (ds:=prL es) (λd hd=>by
  obtain ⟨x,_,rfl⟩:=aC.mp hd;refine ⟨trivial,λxs e y h=>?_⟩;cases e;rcases ac.mp h with rfl | h;·trivial
  ·rw [aA.mp h];trivial) (by simp [prL]; omega) r).2 es rfl m
 rw [hs] at hi;have:=Ua hw hl b m hs hi;rw [if_pos (by rw [aO];intro x hx;rw [k];exact decide_eq_true hx)] at this;refine ⟨?_,hd⟩;rw [this];unfold qgN nuL;rw [ce];rfl
end
theorem qef (h:1<=l.length):ja [.lst (qm l),.int 0,.dct []]=.ok (.bl iN,[.non,.non,.non]):=by
 have a:kM (.lst (qm l))=.ok (.int l.length):=by simp [kM,qm]
 have h0:(0:Int) < l.length:=by omega
 refine runD_ap.trans ?_;generalize D.lst (qm l)=Z at *;generalize (l.length:Int)=n at *;simp [kP,qu,qt,a,ltD,h0]
theorem qeg (h1:1<=l.length) (e:l.length<=6) (i:clo l=iL) (r0:0<=r) (r1:r<=97):∃ R,yL [.lst (qm l),.int r]=.ok (.int R,[.non,.non])/\1<=R/\R<=97/\(l.length:Int)<=R/\OKs R [] l:=by
 have k:qap []:=λkv c=>by cases c
 obtain ⟨v,g⟩:=qi0 (qgd i) e;have h:(l.length:Int)<=97/\OKs 97 [] l:=⟨by omega,v,(λx hx=>by cases hx),g⟩
 have hd:∀ r,1<=r->r<=99->∃ b,ja [.lst (qm l),.int r,.dct []]=.ok (.bl b,[.non,.non,.non])/\(b=iO↔(l.length:Int)<=r/\OKs r [] l):=λr a b=>Jf e a b k (by simp);have h0:=qef h1;have n:∃ R,1<=R/\R<=97/\((l.length:Int)<=R/\OKs R [] l)/\qX rfT rfB 100 [iJ (.lst (qm l)),iJ (.int r),iJ (.int r)]=.ok (.nx,[iJ (.lst (qm l)),iJ (.int r),iJ (.int R)]):=by
  generalize D.lst (qm l)=Z at *;by_cases z:r=0
  ·subst z;obtain ⟨R,p,o,d,q⟩:=Kl (Z:=Z) hd h (by omega) (a:=iJ (.int 0)) 99 1 (by omega) (by omega) (by omega);refine ⟨R,by omega,Int.not_lt.mp λy=>d 97 (by omega) y h,o,?_⟩;have s1:qX rfT rfB (99+1) [iJ Z,iJ (.int 0),iJ (.int 0)]=qX rfT rfB 99 [iJ Z,iJ (.int 0),iJ (.int 1)]:=by simp [qX,qD,jw,h0,vm,ug]
   exact s1.trans q
  ·obtain ⟨R,p,o,d,q⟩:=Kl (Z:=Z) hd h (by omega) (a:=iJ (.int r)) 100 r (by omega) (by omega) (by omega);exact ⟨R,by omega,Int.not_lt.mp λy=>d 97 (by omega) y h,o,q⟩
 obtain ⟨R,A,j,f,w⟩:=n;refine ⟨R,?_,A,j,f.1,f.2⟩;refine runD_ap.trans ?_;unfold yK;generalize D.lst (qm l)=Z at *;rw [show qu yJ [Z,.int r]=[iJ Z,iJ (.int r),iL] from rfl];refine (qG (ρ1:=[iJ Z,iJ (.int r),iJ (.int r)]) (by simp)).trans ?_;refine (qG w).trans ?_;simp [qt]
section
theorem Kn (h:QG w):uP [.str w]=.ok (.non,[.non]):=by have h1:=Jd h;refine runD_ap.trans ?_;simp [uO,qu,qt,qD,jw,h1,vm]
theorem VN (h:QG w):jP ca [wdD ca p q ws r hs,.str w]=if w∈ws then .exc "Known" [iJ (wdD ca p q ws r hs),iJ .non] else if ws.length=6 then .exc "Full" [iJ (wdD ca p q ws r hs),iJ .non] else .ok (.non,[wdD ca p q ws r hs,.non]):=by
 have h1:=Kn h;have h2:=YA (ca:=ca) (p:=p) (q:=q) (ws:=ws) (r:=r) (hs:=hs);have h3:inA (.str w) (Wd ws)=.ok (.bl (decide (w∈ws))):=by simp [inA,qe9,inD,wz]
 have c:kM (Wd ws)=.ok (.int ws.length):=by simp [kM,Wd]
 have z1:1<=sizeLine:=jm (by omega);refine runD_ap.trans ?_;generalize wdD ca p q ws r hs=O at *;generalize Wd ws=W at *;by_cases a:w∈ws;·rw [if_pos a];rw [decide_eq_true a] at h3;simp [jA,qu,qt,qD,jw,h1,h2,h3,jR,z1]
 ·rw [if_neg a];rw [decide_eq_false a] at h3;by_cases b:ws.length=6
  ·rw [if_pos b];have g:(ws.length:Int)=6:=by omega
   simp [jA,qu,qt,qD,jw,h1,h2,h3,c,eqD,eqN,eqS,g,jR,z1]
  ·rw [if_neg b];have g:¬(ws.length:Int)=6:=by omega
   simp [jA,qu,qt,qD,jw,h1,h2,h3,c,eqD,eqN,eqS,g]
end
def Gd (ws:List Str) (r:Int) (hs:List Int):Prop:=(ws=[]/\r=0/\hs=[])\/(vH ws/\1<=r/\r<=97/\hs.length=ws.length)
section
theorem Gd.nx (h:Gd ws r hs) (hw:QG w) (n:w∉ws) (b:ws.length≠6):vH (ws++[w])/\0<=r/\r<=97:=by
 rcases h with ⟨rfl,rfl,rfl⟩ | ⟨⟨p,o,a,q⟩,A,d,c⟩
 ·exact ⟨⟨by simp,by simp,by simp,λx hx=>by
   rcases aJ.mp hx with z | z;·cases z
   ·rw [aA.mp z]; exact hw⟩,by omega,by omega⟩
 ·refine ⟨⟨by rw [aj]; simp,by rw [aj]; simp; omega,eU.mpr ⟨a,by simp,λx hx y k=>by rw [aA.mp k];rintro rfl;exact n hx⟩,λx hx=>?_⟩,by omega,by omega⟩;rcases aJ.mp hx with z | z;·exact q x z
  ·rw [aA.mp z];exact hw
theorem pf {b c x:D}:gF "held" x [(ae "look",a),(ae "came",b),(ae "width",c),(ae "held",d)]=[(ae "look",a),(ae "came",b),(ae "width",c),(ae "held",x)]/\gF "came" x [(ae "look",a),(ae "came",b),(ae "width",c),(ae "held",d)]=[(ae "look",a),(ae "came",x),(ae "width",c),(ae "held",d)]/\gF "width" x [(ae "look",a),(ae "came",b),(ae "width",c),(ae "held",d)]=[(ae "look",a),(ae "came",b),(ae "width",x),(ae "held",d)]:=by
 have e1:¬ae "look"=ae "came":=by decide +kernel
 have i:¬ae "look"=ae "width":=by decide +kernel
 have E:¬ae "came"=ae "width":=by decide +kernel
 have k:¬ae "look"=ae "held":=by decide +kernel
 have A:¬ae "came"=ae "held":=by decide +kernel
 have e:¬ae "width"=ae "held":=by decide +kernel
 simp [gF,e1,i,E,k,A,e]
theorem qeh {f:Str} {b c x e g S d':D} (h:fe ρ=.ok (x,ρ1)) (h0:ρ1[0]?=iJ (iJ (.ins (ca "Words") [(ae "look",a),(ae "came",b),(ae "width",c),(ae "held",d)])))
  (hp:gF f x [(ae "look",a),(ae "came",b),(ae "width",c),(ae "held",d)]=[(ae "look",e),(ae "came",g),(ae "width",S),(ae "held",d')]) :
  gG (ca "Words") 0 f fe ρ=.ok (.nx,ρ1.set 0 (iJ (.ins (ca "Words") [(ae "look",e),(ae "came",g),(ae "width",S),(ae "held",d')]))):=by
 unfold gG;rw [h,wJ];simp only [h0];rw [if_pos (by simp),hp]
def XC (c:Str):Prop:=c = "Known"\/c = "Full"\/c = "Never"
theorem qei (hl:VS p q) (hg:Gd ws r hs) (hw:QG w):(∃ R f,Gd (ws++[w]) R f/\vY ca [wdD ca p q ws r hs,.str w]=.ok (.int R,[wdD ca p q (ws++[w]) R f,.non]))
  \/ ∃ c,XC c/\vY ca [wdD ca p q ws r hs,.str w]=.exc c [iJ (wdD ca p q ws r hs),iJ .non]:=by
 have h:=VN (ca:=ca) (p:=p) (q:=q) (ws:=ws) (r:=r) (hs:=hs) hw;have y:JC (ca "Words") "check_new" (iJ (iJ (wdD ca p q ws r hs)))=true:=Qo (by decide +kernel);by_cases a:w∈ws;·rw [if_pos a] at h;refine .inr ⟨"Known",.inl rfl,?_⟩;refine runD_ap.trans ?_;generalize wdD ca p q ws r hs=O at *;simp [ki,qu,qt,qO,y,qD,jw,h]
 rw [if_neg a] at h;by_cases b:ws.length=6;·rw [if_pos b] at h;refine .inr ⟨"Full",.inr (.inl rfl),?_⟩;refine runD_ap.trans ?_;generalize wdD ca p q ws r hs=O at *;simp [ki,qu,qt,qO,y,qD,jw,h]
 rw [if_neg b] at h;obtain ⟨e,r0,r1⟩:=hg.nx hw a b;have fc:=YA (ca:=ca) (p:=p) (q:=q) (ws:=ws) (r:=r) (hs:=hs);have A:=qgg (ca:=ca) (p:=p) (q:=q) (ws:=ws) (r:=r) (hs:=hs);have fw:=qak (ca:=ca) (p:=p) (q:=q) (ws:=ws) (r:=r) (hs:=hs);have u:=qbH (ws++[w]) p q;have h1:=e.1;have v:=e.2.1;have hp:=Ym e hl;have d:=Uc (l:=jd (ws++[w]) p q) (by omega);have z1:1<=sizeLine:=jm (by omega);have hz:ws.length+1<=sizeLine:=jm (by rw [aj] at v; simp at v; omega);have g:ug (Wd ws) (.tup [.str w])=.ok (Wd (ws++[w])):=by simp [ug,hz]
 have z:∀ fb:Sl->Out (Fl×Sl),Xh [.io,.val] (qL (kz (qO (ca "Words") 0 "check_new" [.vl] (jP ca) (qd (qe 1) qB)))
  (qL (kj 2 (d2 ug (d1 (Qz (ca "Words") "came") (qe 0)) (xE (qd (qe 1) qB))))
  (qL (kj 3 (qx [.vl,.vl] gY (qd (qe 2) (qd (d1 (Qz (ca "Words") "look") (qe 0)) qB)))) fb)) [iJ (wdD ca p q ws r hs),iJ (.str w),iL,iL,iL])=Xh [.io,.val] (fb [iJ (wdD ca p q ws r hs),iJ (.str w),iJ (Wd (ws++[w])),iJ (.lst (qm (jd (ws++[w]) p q))),iL]):=λfb=>by
  clear d;generalize wdD ca p q ws r hs=O at *;generalize D.lst (qm (jd (ws++[w]) p q))=Z at *;refine (qG (ρ1:=[iJ O,iJ (.str w),iL,iL,iL]) (by simp [qO,y,qD,jw,h])).trans ?_;generalize Wd ws=W at *;generalize Wd (ws++[w])=W' at *;refine (qG (ρ1:=[iJ O,iJ (.str w),iJ W',iL,iL]) (by simp [fc,g,z1])).trans ?_;refine (qG (ρ1:=[iJ O,iJ (.str w),iJ W',iJ Z,iL]) (by simp [qD,jw,A,hp])).trans ?_;rfl
 cases n:clo (jd (ws++[w]) p q) with
 | some c=>
  refine .inr ⟨"Never",.inr (.inr rfl),?_⟩;refine runD_ap.trans ?_;unfold ki;rw [show qu vX [wdD ca p q ws r hs,.str w]=[iJ (wdD ca p q ws r hs),iJ (.str w),iL,iL,iL] from rfl];refine (z _).trans ?_;rw [n] at d;have o:Zr (clD (iJ c)) .non=.ok (.bl iO):=by simp [clD,Zr]
  generalize clD (iJ c)=C at *;generalize wdD ca p q ws r hs=O at *;generalize D.lst (qm (jd (ws++[w]) p q))=Z at *;generalize Wd (ws++[w])=W' at *;simp [qt,qD,jw,d,o,jR,z1]
 | none=>
  obtain ⟨R,B,t,s,m,hok⟩:=qeg (l:=jd (ws++[w]) p q) (by omega) (by omega) n r0 r1;obtain ⟨es,E,k⟩:=Qm (l:=jd (ws++[w]) p q) (by omega) (qfT e p q) t (by omega) m hok;obtain ⟨i,_⟩:=qbR e hl t (by omega) E;have j:(nuL R (jd (ws++[w]) p q) es).length=(ws++[w]).length:=by unfold nuL; rw [am,u]
  refine .inl ⟨R,nuL R (jd (ws++[w]) p q) es,.inr ⟨e,t,s,j⟩,?_⟩;refine runD_ap.trans ?_;unfold ki;rw [show qu vX [wdD ca p q ws r hs,.str w]=[iJ (wdD ca p q ws r hs),iJ (.str w),iL,iL,iL] from rfl];refine (z _).trans ?_;rw [n] at d;have d:yi [.lst (qm (jd (ws++[w]) p q))]=.ok (.non,[.non]):=d;generalize nuL R (jd (ws++[w]) p q) es=nu at *;generalize D.lst (qm (jd (ws++[w]) p q))=Z at *;generalize D.tup (prL es)=Pe at *;refine (qG (ρ1:=[iJ (wdD ca p q ws r hs),iJ (.str w),iJ (Wd (ws++[w])),iJ Z,iL]) (by generalize wdD ca p q ws r hs=O at *;generalize Wd (ws++[w])=W' at *;simp [qD,jw,d,Zr])).trans ?_;refine (qG (ρ1:=[iJ (wdD ca p q ws r hs),iJ (.str w),iJ (Wd (ws++[w])),iJ Z,iJ (.int R)]) (by generalize wdD ca p q ws r hs=O at *;generalize Wd (ws++[w])=W' at *;simp [qD,jw,fw,B])).trans ?_;refine (qG (ρ1:=[iJ (wdD ca p q ws r nu),iJ (.str w),iJ (Wd (ws++[w])),iJ Z,iJ (.int R)]) (qeh (x:=.tup (nu.map D.int)) (ρ1:=[iJ (wdD ca p q ws r hs),iJ (.str w),iJ (Wd (ws++[w])),iJ Z,iJ (.int R)]) (by generalize wdD ca p q ws r hs=O at *;generalize Wd (ws++[w])=W' at *;generalize D.tup (nu.map D.int)=U at *;simp [qD,jw,A,k,i]) rfl pf.1)).trans ?_;refine (qG (ρ1:=[iJ (wdD ca p q (ws++[w]) r nu),iJ (.str w),iJ (Wd (ws++[w])),iJ Z,iJ (.int R)]) (qeh (x:=Wd (ws++[w])) (ρ1:=[iJ (wdD ca p q ws r nu),iJ (.str w),iJ (Wd (ws++[w])),iJ Z,iJ (.int R)]) rfl rfl pf.2.1)).trans ?_;refine (qG (ρ1:=[iJ (wdD ca p q (ws++[w]) R nu),iJ (.str w),iJ (Wd (ws++[w])),iJ Z,iJ (.int R)]) (qeh (x:=.int R) (ρ1:=[iJ (wdD ca p q (ws++[w]) r nu),iJ (.str w),iJ (Wd (ws++[w])),iJ Z,iJ (.int R)]) rfl rfl pf.2.2)).trans ?_;generalize wdD ca p q (ws++[w]) R nu=O at *;generalize Wd (ws++[w])=W' at *;simp [qt]
theorem Uj (a:Xz ca) (hl:VS p q) (hg:Gd ws r hs) (hw:QG w):(∃ R h,Gd (ws++[w]) R h/\kT ca [wdD ca p q ws r hs,.str w]=.ok (.int R,[wdD ca p q (ws++[w]) R h,.non]))
  \/ ∃ k:Int,(k=6\/k=7\/k=8)/\kT ca [wdD ca p q ws r hs,.str w]=.ok (.tup [.str "refused",.int k],[wdD ca p q ws r hs,.non]):=by
 have y:JC (ca "Words") "come" (iJ (iJ (wdD ca p q ws r hs)))=true:=Qo (by decide +kernel);rcases qei (ca:=ca) hl hg hw with ⟨R,h,d,e⟩ | ⟨c,f,e⟩
 ·refine .inl ⟨R,h,d,?_⟩;refine runD_ap.trans ?_;generalize wdD ca p q ws r hs=O at *;generalize wdD ca p q (ws++[w]) R h=O' at *;simp [Kg,qdj,qu,qt,qO,y,qD,jw,e]
 ·have n:∀ {k:Int},c∈CS->yk ca [.xcp (ca c)]=.ok (.tup [.str "refused",.int k],[.non])->kT ca [wdD ca p q ws r hs,.str w]=.ok (.tup [.str "refused",.int k],[wdD ca p q ws r hs,.non]):=λ{k} m b=>by have hi:=qfW (ca:=ca) m;refine runD_ap.trans ?_;generalize wdD ca p q ws r hs=O at *;simp [Kg,qdj,qu,qt,qO,y,qD,jw,e,hi,b]
  rcases f with rfl | rfl | rfl;·exact .inr ⟨8,.inr (.inr rfl),n (by decide +kernel) (Ug a)⟩
  ·exact .inr ⟨7,.inr (.inl rfl),n (by decide +kernel) (Xw a)⟩
  ·exact .inr ⟨6,.inl rfl,n (by decide +kernel) (Uf a)⟩
end
theorem YB:∀ (ws:List Str) (hs:List Int) (d:D),d∈qb7 (ws.map D.str) (hs.map D.int)->∃ x i,d=.tup [.str x,.int i]
 | [],_,d,h=>by simp [qb7] at h
 | _::_,[],d,h=>by simp [qb7] at h
 | x::ws,i::hs,d,h=>by
  have h:d∈D.tup [.str x,.int i]::qb7 (ws.map D.str) (hs.map D.int):=h;rcases ac.mp h with h | h;·exact ⟨x,i,h⟩
  ·exact YB ws hs d h
theorem qcu (k:Nat) (ws:List Str) (hs:List Int):eqN (k+2) (nmL ws hs) (nmL ws hs)=iJ true:=qec λd hd=>by
 obtain ⟨x,i,rfl⟩:=YB ws hs d hd;exact Uh λd hd=>by
  rcases ac.mp hd with rfl | hd;·exact qct _ _
  ·rw [aA.mp hd];exact Ui _ _
theorem qcv (k:Nat) (ws:List Str):eqN (k+1) (Wd ws) (Wd ws)=iJ true:=Uh λd hd=>by obtain ⟨x,_,rfl⟩:=aC.mp hd;exact qct _ _
theorem qej (ws:List Str) (r:Int) (hs:List Int):eqN 8 (.tup [Wd ws,.int r,nmL ws hs]) (.tup [Wd ws,.int r,nmL ws hs])=iJ true:=Uh λd hd=>by
 rcases ac.mp hd with rfl | hd;·exact qcv 6 ws
 ·rcases ac.mp hd with rfl | hd;·exact Ui _ _
  ·rw [aA.mp hd];exact qcu 5 ws hs
variable {O:D}
section
def GdO (ca:Str->Addr) (p q:Int) (O:D):Prop:=∃ ws r hs,Gd ws r hs/\O=wdD ca p q ws r hs
noncomputable def cmD (ca:Str->Addr) (O:D) (w:Str):D:=match kT ca [O,.str w] with
 | .ok (_,O'::_)=>O'
 | _=>O
structure Tells (ca:Str->Addr) (O:D) (W R M:D):Prop where
 iw:JC (ca "Words") "words" (iJ (iJ O))=iO
 ir:JC (ca "Words") "room" (iJ (iJ O))=iO
 im:JC (ca "Words") "numbers" (iJ (iJ O))=iO
 gw:jr ca [O]=.ok (W,[O])
 gr:jD ca [O]=.ok (R,[O])
 gm:qA ca [O]=.ok (M,[O])
 eb:eqN 8 (.tup [W,R,M]) (.tup [W,R,M])=iJ iO
 ew:eqN 8 W W=iJ iO
 er:eqN 8 R R=iJ iO
 em:eqN 8 M M=iJ iO
theorem GdO.tells (h:GdO ca p q O):∃ W R M,Tells ca O W R M:=by obtain ⟨ws,r,hs,hg,rfl⟩:=h;exact ⟨Wd ws,.int r,nmL ws hs,Qo (by decide +kernel),Qo (by decide +kernel),Qo (by decide +kernel),qee,qgi,qal,qej ws r hs,qcv 7 ws,Ui 8 r,qcu 6 ws hs⟩
theorem qgj (a:Xz ca) (hl:VS p q) (f:GdO ca p q O) (hw:QG w):∃ v,kT ca [O,.str w]=.ok (v,[cmD ca O w,.non])/\GdO ca p q (cmD ca O w)/\((∃ R:Int,v=.int R)\/∃ k:Int,(k=6\/k=7\/k=8)/\v=.tup [.str "refused",.int k]/\cmD ca O w=O):=by
 obtain ⟨ws,r,hs,hg,rfl⟩:=f;rcases Uj a hl hg hw with ⟨R,h,d,e⟩ | ⟨k,b,e⟩
 ·have c:cmD ca (wdD ca p q ws r hs) w=wdD ca p q (ws++[w]) R h:=by unfold cmD;rw [e]
  rw [c];exact ⟨_,e,⟨_,_,_,d,rfl⟩,.inl ⟨R,rfl⟩⟩
 ·have c:cmD ca (wdD ca p q ws r hs) w=wdD ca p q ws r hs:=by unfold cmD;rw [e]
  rw [c];exact ⟨_,e,⟨_,_,_,hg,rfl⟩,.inr ⟨k,b,rfl,rfl⟩⟩
theorem sqL {f g:Sl->Out (Fl×Sl)} (h:f ρ=.ok (.nx,ρ1)):qL f g ρ=g ρ1:=sq h
abbrev inB (ca:Str->Addr):Sl->Out (Fl×Sl):=(kz (qx [.sl 6,.vl] (kT ca) (kA (qd (qe 4) qB))))
theorem Uk (i:Xz ca) (hl:VS p q) (a b c d e f g h:Option D):∀ (K:List Str) (O:D) (x:Option D),GdO ca p q O->(∀ w∈K,QG w) ->GdO ca p q (K.foldl (cmD ca) O)/\∃ n,kQ (gNm 4) (inB ca) (K.map D.str) [a,b,c,d,x,e,iJ O,f,g,h]=.ok (.nx,[a,b,c,d,n,e,iJ (K.foldl (cmD ca) O),f,g,h])
 | [],O,x,hO,_=>⟨hO,x,rfl⟩
 | w::K,O,x,hO,hw=>by obtain ⟨v,e1,h2,_⟩:=qgj i hl hO (hw w (aw ..));obtain ⟨h3,n,j⟩:=Uk i hl a b c d e f g h K (cmD ca O w) (iJ (.str w)) h2 (λy k=>hw y (af _ k));refine ⟨h3,n,?_⟩;rw [aL,cj];refine (fnx (ρ1:=[a,b,c,d,iJ (.str w),e,iJ O,f,g,h]) rfl (ρ2:=[a,b,c,d,iJ (.str w),e,iJ (cmD ca O w),f,g,h]) ?_).trans j;generalize cmD ca O w=O' at *;simp [qD,jw,e1]
abbrev bfD (ca:Str->Addr):Sl->Out (D×Sl):=(xE (qd (qO (ca "Words") 5 "words" [] (jr ca) qB) (qd (qO (ca "Words") 5 "room" [] (jD ca) qB) (qd (qO (ca "Words") 5 "numbers" [] (qA ca) qB) qB))))
abbrev rfC:Sl->Out (D×Sl):=(jl [3,6,5,1] 1 [] (jK (xE (qd (dC (.int 6)) (qd (dC (.int 7)) (qd (dC (.int 8)) qB))))) (gNm 0) ftT (xE (qd (dC (.str "refused")) (qd (qe 0) qB))))
theorem qek (ρ:Sl):rfC ρ=.ok (.lst [.tup [.str "refused",.int 6],.tup [.str "refused",.int 7],.tup [.str "refused",.int 8]],ρ):=by have z2:2<=sizeLine:=jm (by omega);have a:3<=sizeLine:=jm (by omega);have:=WS (own:=[3,6,5,1]) (cap:=[]) (fi:=jK (xE (qd (dC (.int 6)) (qd (dC (.int 7)) (qd (dC (.int 8)) qB))))) (fe:=xE (qd (dC (.str "refused")) (qd (qe 0) qB))) (ρ:=ρ) (ρ1:=ρ) (ds:=[.int 6,.int 7,.int 8]) (λd=>.tup [.str "refused",d]) (by simp) (by simp [jJ,a]) (by simp; exact jm (by omega)) (λd hd=>by simp [z2]);exact this
abbrev mB (ca:Str->Addr):Sl->Out (Fl×Sl):=(qL (kj 7 (bfD ca))
  (qL (kj 8 (qO (ca "Words") 6 "numbers" [] (qA ca) qB))
  (qL (kj 9 (qx [.sl 5,.vl] (kT ca) (kA (qd (qe 4) qB))))
  (qL (sIf (jb (d2 neD (qO (ca "Words") 6 "numbers" [] (qA ca) qB) (qe 8))) (jL (dC (.bl iN))) jk)
  (qL (sIf (yn (uu (d1 (xA "int") (qe 9)))) (sIf (dOr (jb (d2 neD (bfD ca) (qe 7))) (jb (d2 Js (qe 9) rfC))) (jL (dC (.bl iN))) jk) jk)
  (qL (kz (zz 3 QT (qe 4)))
  (sIf (jb (d2 eqD (qx [.vl,.sl 1,.vl] wN (qd (qe 0) (kA (qd (dC (.int 2)) qB)))) (dC (.int 0)))) (qL (QO (jK (qe 3)) (gNm 4)
  (inB ca))
  (kj 3 (Qq qB))) jk)))))))
theorem qgk (n:Xz ca) (hl:VS p q) (ns:List Int) {town:List D} (ht:town.length < 900) {c:Option D} {K:List Str} (hK:K.length < 200) (C:∀ w∈K,QG w) (hw:QG w) {one other:D} (h1:GdO ca p q one) (h2:GdO ca p q other) (Z:K.foldl (cmD ca) other=one) (V t x:Option D):∃ (s:List Str) (o:D) (u P O N:Option D),s.length<=K.length+1/\(∀ w∈s,QG w)/\GdO ca p q (cmD ca one w)/\GdO ca p q o/\s.foldl (cmD ca) o=cmD ca one w /\
   mB ca [iJ (scr ns),iJ (.lst town),c,iJ (.lst (K.map D.str)),iJ (.str w),iJ one,iJ other,V,t,x]=.ok (.nx,[iJ (scr ns),iJ (.lst (town++[.int 0])),c,iJ (.lst (s.map D.str)),u,iJ (cmD ca one w),iJ o,P,O,N]):=by
 obtain ⟨W,R,M,H⟩:=h1.tells;obtain ⟨W2,R2,M2,G⟩:=h2.tells;obtain ⟨v,e1,g1,T⟩:=qgj n hl h1 hw;obtain ⟨dr,dr0,dr1,hd⟩:=xY ns town (many:=2) (by omega) (by omega);have L:3<=sizeLine:=jm (by omega);have A:K.length < sizeLine:=aI (by omega) big;have Q:neD (.tup [W,R,M]) (.tup [W,R,M])=.ok (.bl iN):=qaj H.eb;have nm:neD M2 M2=.ok (.bl iN):=qaj G.em;have m:∀ y∈K++[w],QG y:=λy S=>by
  rcases aJ.mp S with z | z;·exact C y z
  ·rw [aA.mp z]; exact hw
 have f:(K++[w]).foldl (cmD ca) other=cmD ca one w:=by rw [List.foldl_append,Z]; rfl
 obtain ⟨iw,ir,im,gw,gr,gm,_,_,_,_⟩:=H;obtain ⟨_,_,l,_,_,r,_,_,_,_⟩:=G;have J:∀ (a b c d e g h i j:Option D),bfD ca [a,b,c,d,e,iJ one,g,h,i,j]=.ok (.tup [W,R,M],[a,b,c,d,e,iJ one,g,h,i,j]):=λa b c d e g h i j=>by simp [qO,iw,ir,im,qD,jw,gw,gr,gm,L]
 have pre:∀ fb:Sl->Out (Fl×Sl),(qL (kj 7 (bfD ca))
  (qL (kj 8 (qO (ca "Words") 6 "numbers" [] (qA ca) qB))
  (qL (kj 9 (qx [.sl 5,.vl] (kT ca) (kA (qd (qe 4) qB))))
  (qL (sIf (jb (d2 neD (qO (ca "Words") 6 "numbers" [] (qA ca) qB) (qe 8))) (jL (dC (.bl iN))) jk)
  (qL (sIf (yn (uu (d1 (xA "int") (qe 9)))) (sIf (dOr (jb (d2 neD (bfD ca) (qe 7))) (jb (d2 Js (qe 9) rfC))) (jL (dC (.bl iN))) jk) jk)
  (qL (kz (zz 3 QT (qe 4))) fb)))))) [iJ (scr ns),iJ (.lst town),c,iJ (.lst (K.map D.str)),iJ (.str w),iJ one,iJ other,V,t,x]
   = fb [iJ (scr ns),iJ (.lst town),c,iJ (.lst ((K++[w]).map D.str)),iJ (.str w),iJ (cmD ca one w),iJ other,iJ (.tup [W,R,M]),iJ M2,iJ v]:=λfb=>by
  refine (sqL (ρ1:=[iJ (scr ns),iJ (.lst town),c,iJ (.lst (K.map D.str)),iJ (.str w),iJ one,iJ other,iJ (.tup [W,R,M]),t,x]) (by rw [Jx,J]; rfl)).trans ?_;refine (sqL (ρ1:=[iJ (scr ns),iJ (.lst town),c,iJ (.lst (K.map D.str)),iJ (.str w),iJ one,iJ other,iJ (.tup [W,R,M]),iJ M2,x]) (by simp [qO,l,qD,jw,r])).trans ?_;refine (sqL (ρ1:=[iJ (scr ns),iJ (.lst town),c,iJ (.lst (K.map D.str)),iJ (.str w),iJ (cmD ca one w),iJ other,iJ (.tup [W,R,M]),iJ M2,iJ v]) (by generalize cmD ca one w=O' at *;simp [qD,jw,e1])).trans ?_;refine (sqL (ρ1:=[iJ (scr ns),iJ (.lst town),c,iJ (.lst (K.map D.str)),iJ (.str w),iJ (cmD ca one w),iJ other,iJ (.tup [W,R,M]),iJ M2,iJ v]) (by generalize cmD ca one w=O' at *;simp [qO,l,qD,jw,r,nm])).trans ?_;refine (sqL (ρ1:=[iJ (scr ns),iJ (.lst town),c,iJ (.lst (K.map D.str)),iJ (.str w),iJ (cmD ca one w),iJ other,iJ (.tup [W,R,M]),iJ M2,iJ v]) (by
   rcases T with ⟨Rv,rfl⟩ | ⟨k,X,rfl,hs⟩
   ·generalize cmD ca one w=O' at *;simp [xA,tyN,vm]
   ·rw [hs];have U:Js (.tup [.str "refused",.int k]) (.lst [.tup [.str "refused",.int 6],.tup [.str "refused",.int 7],.tup [.str "refused",.int 8]])=.ok (.bl iN):=by rcases X with rfl | rfl | rfl <;> simp [Js,Wb,inD,Qt,eqN,wH,eqS]
    have r1:=qek [iJ (scr ns),iJ (.lst town),c,iJ (.lst (K.map D.str)),iJ (.str w),iJ one,iJ other,iJ (.tup [W,R,M]),iJ M2,iJ (.tup [.str "refused",.int k])];have b1:=J (iJ (scr ns)) (iJ (.lst town)) c (iJ (.lst (K.map D.str))) (iJ (.str w)) (iJ other) (iJ (.tup [W,R,M])) (iJ M2) (iJ (.tup [.str "refused",.int k]));generalize bfD ca=BF at *;generalize rfC=RC at *;simp [xA,tyN,vm,b1,Q,r1,U])).trans ?_
  refine (sqL (ρ1:=[iJ (scr ns),iJ (.lst town),c,iJ (.lst ((K++[w]).map D.str)),iJ (.str w),iJ (cmD ca one w),iJ other,iJ (.tup [W,R,M]),iJ M2,iJ v]) (by generalize cmD ca one w=O' at *;simp [yE,QT,A])).trans ?_;rfl
 unfold mB;rw [pre];generalize hO':cmD ca one w=O' at *;generalize D.tup [W,R,M]=B at *;by_cases z:dr=0
 ·subst z;obtain ⟨Y,E,I⟩:=Uk n hl (iJ (scr ns)) (iJ (.lst (town++[.int 0]))) c (iJ (.lst ((K++[w]).map D.str))) (iJ O') (iJ B) (iJ M2) (iJ v) (K++[w]) other (iJ (.str w)) h2 m;rw [f] at I Y;refine ⟨[],O',E,iJ B,iJ M2,iJ v,by simp,by simp,g1,Y,rfl,?_⟩;have hi:jK (qe 3) [iJ (scr ns),iJ (.lst (town++[.int 0])),c,iJ (.lst ((K++[w]).map D.str)),iJ (.str w),iJ O',iJ other,iJ B,iJ M2,iJ v]=.ok ((K++[w]).map D.str,[iJ (scr ns),iJ (.lst (town++[.int 0])),c,iJ (.lst ((K++[w]).map D.str)),iJ (.str w),iJ O',iJ other,iJ B,iJ M2,iJ v]):=rfl;generalize (K++[w]).map D.str=KD at *;have F:qL (QO (jK (qe 3)) (gNm 4) (inB ca)) (kj 3 (Qq qB)) [iJ (scr ns),iJ (.lst (town++[.int 0])),c,iJ (.lst KD),iJ (.str w),iJ O',iJ other,iJ B,iJ M2,iJ v]=.ok (.nx,[iJ (scr ns),iJ (.lst (town++[.int 0])),c,iJ (.lst []),E,iJ O',iJ O',iJ B,iJ M2,iJ v]):=by refine (sqL (by rw [yH,hi,wJ]; exact I)).trans ?_;simp
  generalize qL (QO (jK (qe 3)) (gNm 4) (inB ca)) (kj 3 (Qq qB))=SB at *;simp [qD,jw,hd,eqD,eqN,eqS,F]
 ·refine ⟨K++[w],other,iJ (.str w),iJ B,iJ M2,iJ v,by rw [aj]; simp,m,g1,h2,f,?_⟩;generalize (K++[w]).map D.str=KD at *;generalize qL (QO (jK (qe 3)) (gNm 4) (inB ca)) (kj 3 (Qq qB))=SB at *;simp [qD,jw,hd,eqD,eqN,eqS,z]
theorem qcw (h:Xz ca) (hl:VS p q) (ns:List Int) {c:Option D}:∀ (V:List Str) (town:List D) (K:List Str) (one other:D) (g e d x:Option D),(∀ w∈V,QG w)->town.length+V.length < 900->K.length+V.length < 200->(∀ w∈K,QG w)->GdO ca p q one->GdO ca p q other->K.foldl (cmD ca) other=one ->∃ (t:List D) (s:List Str) (a o:D) (l P O N:Option D),(∀ w∈s,QG w)/\GdO ca p q a/\GdO ca p q o/\s.foldl (cmD ca) o=a /\
   kQ (gNm 4) (mB ca) (V.map D.str) [iJ (scr ns),iJ (.lst town),c,iJ (.lst (K.map D.str)),g,iJ one,iJ other,e,d,x]=.ok (.nx,[iJ (scr ns),iJ (.lst t),c,iJ (.lst (s.map D.str)),l,iJ a,iJ o,P,O,N])
 | [],town,K,one,other,g,e,d,x,_,_,_,hK,h1,h2,he=>⟨town,K,one,other,g,e,d,x,hK,h1,h2,he,rfl⟩
 | w::V,town,K,one,other,g,e,d,x,hV,ht,hk,hK,h1,h2,he=>by rw [aq] at ht hk;obtain ⟨s,o,u,P,O,N,J,H,C,B,A,v⟩:=qgk h hl ns (town:=town) (by omega) (c:=c) (by omega) hK (hV w (aw ..)) h1 h2 he e d x;obtain ⟨t,I,f,b,k,j,i,z,r,c2,G,E,n⟩:=qcw h hl ns (c:=c) V (town++[.int 0]) s (cmD ca one w) o u P O N (λy m=>hV y (af _ m)) (by rw [aj]; simp; omega) (by omega) H C B A;exact ⟨t,I,f,b,k,j,i,z,r,c2,G,E,(fnx (ρ1:=[iJ (scr ns),iJ (.lst town),c,iJ (.lst (K.map D.str)),iJ (.str w),iJ one,iJ other,e,d,x]) rfl v).trans n⟩
theorem qgl (j:Xz ca) (n:List Int):qbE ca [scr n]=.ok (.bl iO,[.non]):=by
 refine runD_ap.trans ?_;obtain ⟨p,q,g,hl,y,g1⟩:=qdS n [] (by simp);obtain ⟨d,v,i,_,B,Y⟩:=Yl n g (by simp at y; omega);obtain ⟨b,H,h,_,A,C⟩:=Yl n v (by simp at y; omega);rw [bg] at y;have hi:=qed (ca:=ca) hl;have u:GdO ca p q (wdD ca p q [] 0 []):=⟨[],0,[],.inl ⟨rfl,rfl,rfl⟩,rfl⟩
 have S:=i.2.1;have Q:=h.2.1;have hz:d.length+b.length<=sizeLine:=jm (by omega);have k:ug (.tup (d.map D.str)) (.tup (b.map D.str))=.ok (.tup ((d++b).map D.str)):=by simp [ug,hz]
 obtain ⟨f,s,a,o,l,P,e,N,K,c2,J,I,G⟩:=qcw j hl n (c:=iJ (Ld p q)) (d++b) H [] (wdD ca p q [] 0 []) (wdD ca p q [] 0 []) iL iL iL iL (λw hw=>by
  rcases aJ.mp hw with z | z;·exact i.2.2.2 w z
  ·exact h.2.2.2 w z) (by rw [aj]; omega) (by rw [aj]; simp; omega) (by simp) u u rfl
 obtain ⟨U,x,r⟩:=Uk j hl (iJ (scr n)) (iJ (.lst f)) (iJ (Ld p q)) (iJ (.lst (s.map D.str))) (iJ a) P e N s o l J K;rw [I] at r;obtain ⟨W,R,M,t⟩:=c2.tells;have E:=Km t.ew;have eR:=Km t.er;have eM:=Km t.em;obtain ⟨iw,ir,im,gw,gr,gm,_,_,_,_⟩:=t;generalize wdD ca p q [] 0 []=O at *;unfold qdO;rw [show qu qbD [scr n]=[iJ (scr n),iL,iL,iL,iL,iL,iL,iL,iL,iL] from rfl];refine (qG (ρ1:=[iJ (scr n),iJ (.lst []),iL,iL,iL,iL,iL,iL,iL,iL]) (by simp)).trans ?_;refine (qG (ρ1:=[iJ (scr n),iJ (.lst g),iJ (Ld p q),iL,iL,iL,iL,iL,iL,iL]) (by simp [qD,jw,g1])).trans ?_;refine (qG (ρ1:=[iJ (scr n),iJ (.lst g),iJ (Ld p q),iL,iL,iJ O,iJ O,iL,iL,iL]) (by generalize Ld p q=L at *;simp [qgK,Gr,qD,jw,hi])).trans ?_;refine (qG (ρ1:=[iJ (scr n),iJ (.lst g),iJ (Ld p q),iJ (.lst []),iL,iJ O,iJ O,iL,iL,iL]) (by simp)).trans ?_;refine (qG (ρ1:=[iJ (scr n),iJ (.lst f),iJ (Ld p q),iJ (.lst (s.map D.str)),l,iJ a,iJ o,P,e,N]) (by
  have hit:jK (d2 ug (qx [.vl,.sl 1,.vl] yb (qd (qe 0) (kA (qd (dC (.int 6)) qB)))) (qx [.vl,.sl 1,.vl] yb (qd (qe 0) (kA (qd (dC (.int 6)) qB))))) [iJ (scr n),iJ (.lst g),iJ (Ld p q),iJ (.lst []),iL,iJ O,iJ O,iL,iL,iL]=.ok ((d++b).map D.str,[iJ (scr n),iJ (.lst H),iJ (Ld p q),iJ (.lst []),iL,iJ O,iJ O,iL,iL,iL]):=by generalize Ld p q=L at *;generalize hA:D.tup (d.map D.str)=A1 at *;generalize T:D.tup (b.map D.str)=A2 at *;simp [qD,jw,Y,C,k,jJ]
  rw [yH,hit,wJ];exact G)).trans ?_
 have m:jK (qe 3) [iJ (scr n),iJ (.lst f),iJ (Ld p q),iJ (.lst (s.map D.str)),l,iJ a,iJ o,P,e,N]=.ok (s.map D.str,[iJ (scr n),iJ (.lst f),iJ (Ld p q),iJ (.lst (s.map D.str)),l,iJ a,iJ o,P,e,N]):=rfl;refine (qG (ρ1:=[iJ (scr n),iJ (.lst f),iJ (Ld p q),iJ (.lst (s.map D.str)),x,iJ a,iJ a,P,e,N]) (by rw [yH,m,wJ]; exact r)).trans ?_;generalize Ld p q=L at *;generalize D.lst (s.map D.str)=KL at *;simp [qO,iw,ir,im,qD,jw,gw,gr,gm,E,eR,eM,vm,qt]
end
end Kx
namespace Kx
open PySem PySem.Spec PyProof.Rows L2 L2.D2
variable {us:List iM} {P:List iM->Prop}
theorem qir (hl:us.length=0) (h:P []):P us:=d9.mp hl ▸ h
theorem qgm {n:Nat} (hl:us.length=n+1):∃ a l,us=a::l/\l.length=n:=by
 cases us with
 | nil=>cases hl
 | cons a l=>exact ⟨a,l,rfl,Nat.succ.inj hl⟩
theorem qgn (hl:us.length=1) (h:∀ a,P [a]):P us:=by obtain ⟨a,l,rfl,e⟩:=qgm hl;exact qir (P:=λl=>P (a::l)) e (h a)
theorem qgo (hl:us.length=2) (h:∀ a b,P [a,b]):P us:=by obtain ⟨a,l,rfl,e⟩:=qgm hl;exact qgn (P:=λl=>P (a::l)) e (h a)
theorem qis (hl:us.length=3) (h:∀ a b c,P [a,b,c]):P us:=by obtain ⟨a,l,rfl,e⟩:=qgm hl;exact qgo (P:=λl=>P (a::l)) e (h a)
theorem qit (hl:us.length=4) (h:∀ a b c d,P [a,b,c,d]):P us:=by obtain ⟨a,l,rfl,e⟩:=qgm hl;exact qis (P:=λl=>P (a::l)) e (h a)
theorem qi1 (hl:us.length=5) (h:∀ a b c d e,P [a,b,c,d,e]):P us:=by obtain ⟨a,l,rfl,e⟩:=qgm hl;exact qit (P:=λl=>P (a::l)) e (h a)
variable {K:Frag} {h:Heap} {mg:Str->Option iM}
theorem qel (X:K.In h) (G:h.Ns mainGlobals mg) {x:Str} {st:Stmt} {ps:List Str} {f:Addr} {oc:iM} {od an:Option Addr} {osl:Array (Option iM)} {kV doc pm cdv ct:iM}
  (a:nsIn K mainGlobals x=iJ (iJ (.ref f))) (l:K.lookup f=iJ ⟨oc,od,.func (bR x x (wE st) (jU st) (qc st) .none kV doc pm an cdv ct),osl⟩) (c:codeIn K cdv x=iO) (k:keepIn K (.ref f)=iO)
  (d:∀ (kV doc pm:iM) (an:Option Addr) (cdv ct:iM) (us:List iM),us.length=ps.length->bindArgs (bR x x (wE st) (jU st) (qc st) .none kV doc pm an cdv ct) ⟨us,[]⟩=pure (ps.zip us)):jC K mg x st ps:=
 ⟨f,_,vj l c k,ly X G a,(vj l c k).binds d⟩
variable {x:Str}
theorem qam {l:List Str} {f:Str->Addr} (nd:(l.map f).Nodup) {y:Str} (hx:x∈l) (k:y∈l) (e:f x=f y):x=y:=by obtain ⟨i,hi,rfl⟩:=dN.mp hx;obtain ⟨j,D,rfl⟩:=dN.mp k;have q:=(fY (h₀:=by simpa using hi) (h₁:=by simpa using D) nd).mp (show (l.map f)[i]'(by simpa using hi)=(l.map f)[j]'(by simpa using D) by simpa using e);subst q;rfl
noncomputable def caT (T:List (Str×Addr)) (x:Str):Addr:=(T.lookup x).getD 0
noncomputable def qbS (K:Frag) (Cs:List Addr) (W:Addr):Bool:=decide Cs.Nodup&&Cs.all λc=>xcB K c&&decide (dL K (.ref c) (.ref W)=iJ iO)&&decide (bZ K (.ref c) (.type "ValueError")=iJ iO)&&dW K c bmV "ValueError.__new__"&&Cs.all λd=>decide (bZ K (.ref c) (.ref d)=iJ (decide (c=d)))
theorem qbT {Cs:List Addr} {W:Addr} (h:qbS K Cs W=iO):Cs.Nodup/\∀ c∈Cs,xcB K c=iO/\dL K (.ref c) (.ref W)=iJ iO/\bZ K (.ref c) (.type "ValueError")=iJ iO/\dW K c bmV "ValueError.__new__"=iO/\∀ d∈Cs,bZ K (.ref c) (.ref d)=iJ (decide (c=d)):=by unfold qbS at h;rw [aP,aO] at h;refine ⟨of_decide_eq_true h.1,λc a=>?_⟩;have q:=h.2 c a;simp only [aP,decide_eq_true_eq,aO] at q;exact ⟨q.1.1.1.1,q.1.1.1.2,q.1.1.2,q.1.2,q.2⟩
theorem qgp {c:Str} (h:c∈CS):c = "NoWords"\/c = "NoLook"\/c = "NoNumbers"\/c = "NoRoom"\/c = "NoWord"\/c = "NoWorths"\/c = "Never"\/c = "Full"\/c = "Known"\/c = "NoPlace"\/c = "NoLetters"\/c = "NoText"\/c = "Nothing":=by simpa [CS] using h
theorem qh2 (X:K.In h) (G:h.Ns mainGlobals mg) {CW B u s r q p o m l k j g b C:Addr}  {E t a M S:Tok}
    (aW:nsIn K mainGlobals "WordError"=iJ (iJ (.ref CW)))
    (a0:nsIn K mainGlobals "NoWords"=iJ (iJ (.ref u)))
    (a1:nsIn K mainGlobals "NoLook"=iJ (iJ (.ref s)))
    (a2:nsIn K mainGlobals "NoNumbers"=iJ (iJ (.ref r)))
    (a3:nsIn K mainGlobals "NoRoom"=iJ (iJ (.ref q)))
    (a4:nsIn K mainGlobals "NoWord"=iJ (iJ (.ref p)))
    (a5:nsIn K mainGlobals "NoWorths"=iJ (iJ (.ref o)))
    (a6:nsIn K mainGlobals "Never"=iJ (iJ (.ref m)))
    (a7:nsIn K mainGlobals "Full"=iJ (iJ (.ref l)))
    (a8:nsIn K mainGlobals "Known"=iJ (iJ (.ref k)))
    (a9:nsIn K mainGlobals "NoPlace"=iJ (iJ (.ref j)))
    (H:nsIn K mainGlobals "NoLetters"=iJ (iJ (.ref g)))
    (D:nsIn K mainGlobals "NoText"=iJ (iJ (.ref b)))
    (a12:nsIn K mainGlobals "Nothing"=iJ (iJ (.ref C)))
    (z_ValueError:nsIn K mainGlobals "ValueError"=iJ iL)
    (z_all:nsIn K mainGlobals "all"=iJ iL)
    (z_bool:nsIn K mainGlobals "bool"=iJ iL)
    (z_dict:nsIn K mainGlobals "dict"=iJ iL)
    (z_enumerate:nsIn K mainGlobals "enumerate"=iJ iL)
    (z_int:nsIn K mainGlobals "int"=iJ iL)
    (z_isinstance:nsIn K mainGlobals "isinstance"=iJ iL)
    (z_len:nsIn K mainGlobals "len"=iJ iL)
    (z_list:nsIn K mainGlobals "list"=iJ iL)
    (z_max:nsIn K mainGlobals "max"=iJ iL)
    (z_min:nsIn K mainGlobals "min"=iJ iL)
    (z_range:nsIn K mainGlobals "range"=iJ iL)
    (z_set:nsIn K mainGlobals "set"=iJ iL)
    (z_sorted:nsIn K mainGlobals "sorted"=iJ iL)
    (z_str:nsIn K mainGlobals "str"=iJ iL)
    (z_sum:nsIn K mainGlobals "sum"=iJ iL)
    (z_tuple:nsIn K mainGlobals "tuple"=iJ iL)
    (z_zip:nsIn K mainGlobals "zip"=iJ iL)
    (c_LEAST_PLACE:nsIn K mainGlobals "LEAST_PLACE"=iJ (iJ (.int (-3) E)))
    (c_MOST_LETTERS:nsIn K mainGlobals "MOST_LETTERS"=iJ (iJ (.int 6 t)))
    (c_MOST_PLACE:nsIn K mainGlobals "MOST_PLACE"=iJ (iJ (.int 2 a)))
    (c_MOST_ROOM:nsIn K mainGlobals "MOST_ROOM"=iJ (iJ (.int 99 M)))
    (c_MOST_WORDS:nsIn K mainGlobals "MOST_WORDS"=iJ (iJ (.int 6 S)))
    (ex:qbS K [u,s,r,q,p,o,m,l,k,j,g,b,C] CW=iO)
    (aB:nsIn K mainGlobals "Words"=iJ (iJ (.ref B)))
    (b1:c6 K B Str.empty=iO)
    (b2:dE K B=iO)
    (b3:ei K B=iO)
    (b4:aQ K (.ref B) "__setattr__"=iJ (iJ (.builtin "object.__setattr__")))
    (Z:aQ K (.ref B) "look"=iJ iL)
    (n1:aQ K (.ref B) "came"=iJ iL)
    (n2:aQ K (.ref B) "width"=iJ iL)
    (Y:aQ K (.ref B) "held"=iJ iL)
     :
    Zt K mg (λx=>.ref (caT [("WordError",CW),("NoWords",u),("NoLook",s),("NoNumbers",r),("NoRoom",q),("NoWord",p),("NoWorths",o),("Never",m),("Full",l),("Known",k),("NoPlace",j),("NoLetters",g),("NoText",b),("Nothing",C),("Words",B)] x)) (caT [("WordError",CW),("NoWords",u),("NoLook",s),("NoNumbers",r),("NoRoom",q),("NoWord",p),("NoWorths",o),("Never",m),("Full",l),("Known",k),("NoPlace",j),("NoLetters",g),("NoText",b),("Nothing",C),("Words",B)])/\Xz (caT [("WordError",CW),("NoWords",u),("NoLook",s),("NoNumbers",r),("NoRoom",q),("NoWord",p),("NoWorths",o),("Never",m),("Full",l),("Known",k),("NoPlace",j),("NoLetters",g),("NoText",b),("Nothing",C),("Words",B)])/\caT [("WordError",CW),("NoWords",u),("NoLook",s),("NoNumbers",r),("NoRoom",q),("NoWord",p),("NoWorths",o),("Never",m),("Full",l),("Known",k),("NoPlace",j),("NoLetters",g),("NoText",b),("Nothing",C),("Words",B)] "Words"=B:=by
  obtain ⟨nd,al⟩:=qbT ex;generalize hT:([("WordError",CW),("NoWords",u),("NoLook",s),("NoNumbers",r),("NoRoom",q),("NoWord",p),("NoWorths",o),("Never",m),("Full",l),("Known",k),("NoPlace",j),("NoLetters",g),("NoText",b),("Nothing",C),("Words",B)]:List (Str×Addr))=T;have W:caT T "WordError"=CW:=by subst hT; kernel_rfl
  have eB:caT T "Words"=B:=by subst hT; kernel_rfl
  have V:caT T "NoWords"=u:=by subst hT; kernel_rfl
  have e1:caT T "NoLook"=s:=by subst hT; kernel_rfl
  have U:caT T "NoNumbers"=r:=by subst hT; kernel_rfl
  have R:caT T "NoRoom"=q:=by subst hT; kernel_rfl
  have Q:caT T "NoWord"=p:=by subst hT; kernel_rfl
  have P:caT T "NoWorths"=o:=by subst hT; kernel_rfl
  have O:caT T "Never"=m:=by subst hT; kernel_rfl
  have N:caT T "Full"=l:=by subst hT; kernel_rfl
  have L:caT T "Known"=k:=by subst hT; kernel_rfl
  have J:caT T "NoPlace"=j:=by subst hT; kernel_rfl
  have z:caT T "NoLetters"=g:=by subst hT; kernel_rfl
  have w:caT T "NoText"=b:=by subst hT; kernel_rfl
  have v:caT T "Nothing"=C:=by subst hT; kernel_rfl
  have I:CS.map (caT T)=[u,s,r,q,p,o,m,l,k,j,g,b,C]:=by unfold CS;simp only [aL,cI,V,e1,U,R,Q,P,O,N,L,J,z,w,v]
  have n:∀ c∈CS,caT T c∈[u,s,r,q,p,o,m,l,k,j,g,b,C]:=λc i=>I ▸ aC.mpr ⟨c,i,rfl⟩;refine ⟨⟨⟨λc i=>rfl,λc i=>?_,λc i=>(al _ (n c i)).1,λc i d hd=>(al _ (n c i)).2.2.2.2 _ (n d hd),λc i=>(al _ (n c i)).2.2.1⟩,λc i=>?_,λc i=>(al _ (n c i)).2.2.2.1,λx hx=>absurd hx (by simp [FS]),?_,i7 X G z_ValueError,i7 X G z_all,i7 X G z_bool,i7 X G z_dict,i7 X G z_enumerate,i7 X G z_int,i7 X G z_isinstance,i7 X G z_len,i7 X G z_list,i7 X G z_max,i7 X G z_min,i7 X G z_range,i7 X G z_set,i7 X G z_sorted,i7 X G z_str,i7 X G z_sum,i7 X G z_tuple,i7 X G z_zip,⟨_,ly X G c_LEAST_PLACE⟩,⟨_,ly X G c_MOST_LETTERS⟩,⟨_,ly X G c_MOST_PLACE⟩,⟨_,ly X G c_MOST_ROOM⟩,⟨_,ly X G c_MOST_WORDS⟩,?mB,?bC,?bN⟩,?cO,eB⟩
  case mB=>rw [eB]; exact ly X G aB
  case bC=>rw [eB]; exact ⟨b1,b2,b3,b4⟩
  case bN=>
    rw [eB];intro f A;have A:f = "look"\/f = "came"\/f = "width"\/f = "held":=by simpa using A
    rcases A with rfl | rfl | rfl | rfl;· exact Z
    · exact n1
    · exact n2
    · exact Y
  · show dL K (.ref (caT T c)) (.ref (caT T "WordError"))=iJ iO;rw [W];exact (al _ (n c i)).2.1
  · rcases qgp i with rfl | rfl | rfl | rfl | rfl | rfl | rfl | rfl | rfl | rfl | rfl | rfl | rfl;· rw [V]; exact ly X G a0
    · rw [e1]; exact ly X G a1
    · rw [U]; exact ly X G a2
    · rw [R]; exact ly X G a3
    · rw [Q]; exact ly X G a4
    · rw [P]; exact ly X G a5
    · rw [O]; exact ly X G a6
    · rw [N]; exact ly X G a7
    · rw [L]; exact ly X G a8
    · rw [J]; exact ly X G a9
    · rw [z]; exact ly X G H
    · rw [w]; exact ly X G D
    · rw [v]; exact ly X G a12
  · show mg "WordError"=iJ (.ref (caT T "WordError"));rw [W];exact ly X G aW
  case cO=>
    intro x hx y F e;rw [<-I] at nd;exact qam nd hx F e
structure Tx (K:Frag) (mg:Str->Option iM) (ca:Str->Addr):Prop where
 x_Words_room:gH K (ca "Words") "room" "Words.room" jZ ["self"]
 x_is_between:jC K mg "is_between" vL ["thing", "least", "most"]
 x_is_look:jC K mg "is_look" wt ["thing"]
 x_check_look:jC K mg "check_look" vN ["thing"]
 x_Words___init__:qdH K (ca "Words") "Words.__init__" jo ["self", "look"]
 x_Words_numbers:gH K (ca "Words") "numbers" "Words.numbers" jx ["self"]
 x_Words_words:gH K (ca "Words") "words" "Words.words" jO ["self"]
 x_Lcell_at:jC K mg "_law_cell_at" uZ ["_law_script", "_law_k"]
 x_Lmixed:jC K mg "_law_mixed" zO ["_law_script", "_law_k", "_law_many"]
 x_Ldraw:jC K mg "_law_draw" JM ["_law_script", "_law_town", "_law_many"]
 x_Lpick:jC K mg "_law_pick" JN ["_law_script", "_law_town", "_law_some"]
 x_Lword:jC K mg "_law_word" xN ["_law_script", "_law_town", "_law_letters", "_law_most"]
 x_Lwords:jC K mg "_law_words" zQ ["_law_script", "_law_town", "_law_most"]
 x_Llook:jC K mg "_law_look" JR ["_law_script", "_law_town"]
 x_is_letter:jC K mg "is_letter" wO ["thing"]
 x_is_word:jC K mg "is_word" ww ["thing"]
 x_is_words:jC K mg "is_words" vh ["thing"]
 x_check_words:jC K mg "check_words" kZ ["thing"]
 x_letter_at:jC K mg "letter_at" wR ["word", "place"]
 x_pairs:jC K mg "pairs" xS ["words", "look"]
 x_check_room:jC K mg "check_room" vP ["thing"]
 x_is_worth:jC K mg "is_worth" yc ["thing", "room"]
 x_is_worths:jC K mg "is_worths" jN ["thing", "room"]
 x_check_worths:jC K mg "check_worths" kK ["thing", "room"]
 x_letters_of:jC K mg "letters_of" jE ["seen"]
 x_within:jC K mg "within" zR ["total", "room"]
 x_numbered:jC K mg "numbered" kb ["words", "look", "room", "worths"]
 x_are_alike:jC K mg "are_alike" wV ["one", "two"]
 x_clash_of:jC K mg "clash_of" yh ["seen"]
 x_is_loose:jC K mg "is_loose" vi ["pair", "seen", "fixed"]
 x_bound_pairs:jC K mg "bound_pairs" jt ["seen", "fixed"]
 x_unshared:jC K mg "unshared" yj ["one", "two"]
 x_contrasts_of:jC K mg "contrasts_of" jH ["seen"]
 x_may_differ:jC K mg "may_differ" qZ ["contrast", "room", "fixed"]
 x_with_worth:jC K mg "with_worth" vR ["fixed", "letter", "worth"]
 x_can_be_filled:jC K mg "can_be_filled" jh ["contrasts", "room", "fixed", "letters"]
 x_can_differ:jC K mg "can_differ" kg ["seen", "room", "fixed"]
 x_least_worths:jC K mg "least_worths" kL ["seen", "room"]
 x_room_from:jC K mg "room_from" ue ["seen", "room"]
 x_check_word:jC K mg "check_word" vV ["thing"]
 x_Words_check_new:gH K (ca "Words") "check_new" "Words.check_new" jc ["self", "word"]
 x_Words_come:gH K (ca "Words") "come" "Words.come" kh ["self", "word"]
 x_Lwhich:jC K mg "_law_which" zT ["_law_e"]
 x_Lcome:jC K mg "_law_come" Kf ["_law_some", "_law_word_here"]
variable {cv:Str->iM} {ca:Str->Addr}
theorem qgq {P:iR} {w:iS} {base:Heap} {f:Addr} {fd:lm} (Z:Zt K mg cv ca) (T:Tx K mg ca) (F:Fun K "law" "law" WR f fd):FnOk P w K mg base (CXk P w) 21 f fd ["_law_script"] (spD K cv [.val] .sh (qbE ca)):=by have x:=JF (P:=P) (w:=w) (base:=base) Z T.x_Words_room ;have n:=JH (P:=P) (w:=w) (base:=base) Z T.x_is_between ;have Q:=Xo (P:=P) (w:=w) (base:=base) Z T.x_is_look n;have k:=JJ (P:=P) (w:=w) (base:=base) Z T.x_check_look Q;have d:=xL (P:=P) (w:=w) (base:=base) Z T.x_Words___init__ k;have s:=zD (P:=P) (w:=w) (base:=base) Z T.x_Words_numbers ;have p:=QB (P:=P) (w:=w) (base:=base) Z T.x_Words_words ;have O:=WA (P:=P) (w:=w) (base:=base) Z T.x_Lcell_at ;have V:=GH (P:=P) (w:=w) (base:=base) Z T.x_Lmixed O;have a:=qbt (P:=P) (w:=w) (base:=base) Z T.x_Ldraw V;have N:=qbv (P:=P) (w:=w) (base:=base) Z T.x_Lpick a;have W:=qbx (P:=P) (w:=w) (base:=base) Z T.x_Lword a N;have S:=GK (P:=P) (w:=w) (base:=base) Z T.x_Lwords a N W;have X:=qbz (P:=P) (w:=w) (base:=base) Z T.x_Llook a;have c:=Vw (P:=P) (w:=w) (base:=base) Z T.x_is_letter ;have j:=Xq (P:=P) (w:=w) (base:=base) Z T.x_is_word c;have I:=WI (P:=P) (w:=w) (base:=base) Z T.x_is_words j;have l:=QD (P:=P) (w:=w) (base:=base) Z T.x_check_words I;have A:=Vx (P:=P) (w:=w) (base:=base) Z T.x_letter_at ;have E:=qbB (P:=P) (w:=w) (base:=base) Z T.x_pairs l k A;have v:=JU (P:=P) (w:=w) (base:=base) Z T.x_check_room n;have H:=WM (P:=P) (w:=w) (base:=base) Z T.x_is_worth n c;have B:=Vy (P:=P) (w:=w) (base:=base) Z T.x_is_worths H;have i:=Qb (P:=P) (w:=w) (base:=base) Z T.x_check_worths B;have o:=JW (P:=P) (w:=w) (base:=base) Z T.x_letters_of ;have R:=GN (P:=P) (w:=w) (base:=base) Z T.x_within ;have G:=WN (P:=P) (w:=w) (base:=base) Z T.x_numbered v i E o R;have C:=VB (P:=P) (w:=w) (base:=base) Z T.x_are_alike ;have M:=WO (P:=P) (w:=w) (base:=base) Z T.x_clash_of C;have L:=QE (P:=P) (w:=w) (base:=base) Z T.x_with_worth ;have J:=WP (P:=P) (w:=w) (base:=base) Z T.x_is_loose ;have m:=QF (P:=P) (w:=w) (base:=base) Z T.x_bound_pairs J;have D:=WQ (P:=P) (w:=w) (base:=base) Z T.x_unshared ;have h:=Qh (P:=P) (w:=w) (base:=base) Z T.x_contrasts_of D;have t:=JY (P:=P) (w:=w) (base:=base) Z T.x_may_differ ;have q:=JZ (P:=P) (w:=w) (base:=base) Z T.x_with_worth ;have e:=zF (P:=P) (w:=w) (base:=base) Z T.x_can_be_filled t q;have r:=Ka (P:=P) (w:=w) (base:=base) Z T.x_can_differ o m h e;have g:=Qi (P:=P) (w:=w) (base:=base) Z T.x_least_worths o L r;have z:=VC (P:=P) (w:=w) (base:=base) Z T.x_room_from r;have u:=Kc (P:=P) (w:=w) (base:=base) Z T.x_check_word j;have b:=xp (P:=P) (w:=w) (base:=base) Z T.x_Words_check_new u;have y:=Ke (P:=P) (w:=w) (base:=base) Z T.x_Words_come E G M g z b;have U:=GO (P:=P) (w:=w) (base:=base) Z T.x_Lwhich ;have Y:=qbC (P:=P) (w:=w) (base:=base) Z T.x_Lcome y U;exact qfP Z F x p d s a S X Y
def qbU (K:Frag):Sp:=λvs H Q _=>∃ (a:Addr) (ns:List Int),vs=[.ref a]/\SqL K H a (ns.map V.int)/\∀ H',Q (.bl iO) H'
theorem YC {F:Hp}:∀ ns:List Int,IsL K F (ns.map V.int) (ns.map D.int)
 | []=>.nil
 | n::ns=>.cons (.int n) (YC ns)
theorem qh3 (h:Xz ca) (vs:List V) (H:Hp) (Q:VK) (E:XK) (q:qbU K vs H Q E):spD K cv [.val] .sh (qbE ca) vs H Q E:=by obtain ⟨a,ns,rfl,hs,hq⟩:=q;refine ⟨H,[scr ns],Same.refl _,⟨.lst hs (YC ns),trivial⟩,c8,?_⟩;rw [qgl h ns];intro v F' H' p o z b;have b:Is K F' v (.bl iO):=b;cases b;exact hq H'
abbrev NsX (K:Frag) (x:Str) (f:Addr):Prop:=nsIn K mainGlobals x=iJ (iJ (.ref f))
abbrev CdX (K:Frag) (v:iM) (x:Str):Prop:=codeIn K v x=iO
abbrev KpX (K:Frag) (f:Addr):Prop:=keepIn K (.ref f)=iO
abbrev LkX (K:Frag) (x:Str) (st:Stmt) (f:Addr) (oc:iM) (od an:Option Addr) (sl:Array (Option iM)) (kV d pm cd ct:iM):Prop:=K.lookup f=iJ ⟨oc,od,.func (bR x x (wE st) (jU st) (qc st) .none kV d pm an cd ct),sl⟩
def Dx (K:Frag) (x:Str) (st:Stmt):Prop:=∃ (f:Addr) (oc:iM) (od an:Option Addr) (sl:Array (Option iM)) (kV d pm cd ct:iM),NsX K x f/\LkX K x st f oc od an sl kV d pm cd ct/\CdX K cd x/\KpX K f
theorem jG (X:K.In h) (G:h.Ns mainGlobals mg) {st:Stmt} {ps:List Str} (q:Dx K x st) (d:∀ (kV doc pm:iM) (an:Option Addr) (cdv ct:iM) (us:List iM),us.length=ps.length->bindArgs (bR x x (wE st) (jU st) (qc st) .none kV doc pm an cdv ct) ⟨us,[]⟩=pure (ps.zip us):=by
  intro _ _ _ _ _ _ us hl;first | refine qir (P:=λus=>bindArgs _ ⟨us,[]⟩=pure (dO _ us)) hl ?_ | refine qgn (P:=λus=>bindArgs _ ⟨us,[]⟩=pure (dO _ us)) hl ?_ | refine qgo (P:=λus=>bindArgs _ ⟨us,[]⟩=pure (dO _ us)) hl ?_ | refine qis (P:=λus=>bindArgs _ ⟨us,[]⟩=pure (dO _ us)) hl ?_ | refine qit (P:=λus=>bindArgs _ ⟨us,[]⟩=pure (dO _ us)) hl ?_ | refine qi1 (P:=λus=>bindArgs _ ⟨us,[]⟩=pure (dO _ us)) hl ?_
  all_goals intros; rfl):jC K mg x st ps:=by
 obtain ⟨f,oc,od,an,sl,kV,b,pm,cd,ct,a,l,c,k⟩:=q;exact qel X G a l c k d
abbrev LkM (K:Frag) (x q:Str) (st:Stmt) (f:Addr) (oc:iM) (od an:Option Addr) (sl:Array (Option iM)) (kV d pm cd ct:iM):Prop:=K.lookup f=iJ ⟨oc,od,.func (bR x q (wE st) (jU st) (qc st) .none kV d pm an cd ct),sl⟩
theorem qgr {l:hZ} {w:iS} {fa:Addr} (X:K.In h) (G:h.Ns mainGlobals mg) (hfa:mg "law"=iJ (.ref fa)) {CW B C0 C1 C2 C3 C4 C5 C6 C7 C8 C9 u r C:Addr} {a t b M S:Tok} {f0 f4 V U d f:Addr} {v0 g0 h0 i0 j0 m0 v4 g4 h4 i4 j4 m4 v5 g5 h5 i5 j5 m5 v6 g6 h6 i6 j6 m6 v40 g40 h40 i40 R m40 v41 g41 h41 i41 O m41:iM} {o0 p0 o4 p4 o5 p5 o6 p6 o40 p40 o41 p41:Option Addr} {s0 s4 s5 s6 s40 s41:Array (Option iM)}
  (aW:nsIn K mainGlobals "WordError"=iJ (iJ (.ref CW)))
  (a0:nsIn K mainGlobals "NoWords"=iJ (iJ (.ref C0)))
  (a1:nsIn K mainGlobals "NoLook"=iJ (iJ (.ref C1)))
  (a2:nsIn K mainGlobals "NoNumbers"=iJ (iJ (.ref C2)))
  (a3:nsIn K mainGlobals "NoRoom"=iJ (iJ (.ref C3)))
  (a4:nsIn K mainGlobals "NoWord"=iJ (iJ (.ref C4)))
  (a5:nsIn K mainGlobals "NoWorths"=iJ (iJ (.ref C5)))
  (a6:nsIn K mainGlobals "Never"=iJ (iJ (.ref C6)))
  (a7:nsIn K mainGlobals "Full"=iJ (iJ (.ref C7)))
  (a8:nsIn K mainGlobals "Known"=iJ (iJ (.ref C8)))
  (a9:nsIn K mainGlobals "NoPlace"=iJ (iJ (.ref C9)))
  (a10:nsIn K mainGlobals "NoLetters"=iJ (iJ (.ref u)))
  (a11:nsIn K mainGlobals "NoText"=iJ (iJ (.ref r)))
  (a12:nsIn K mainGlobals "Nothing"=iJ (iJ (.ref C)))
  (z_ValueError:nsIn K mainGlobals "ValueError"=iJ iL)
  (z_all:nsIn K mainGlobals "all"=iJ iL)
  (z_bool:nsIn K mainGlobals "bool"=iJ iL)
  (z_dict:nsIn K mainGlobals "dict"=iJ iL)
  (z_enumerate:nsIn K mainGlobals "enumerate"=iJ iL)
  (z_int:nsIn K mainGlobals "int"=iJ iL)
  (z_isinstance:nsIn K mainGlobals "isinstance"=iJ iL)
  (z_len:nsIn K mainGlobals "len"=iJ iL)
  (z_list:nsIn K mainGlobals "list"=iJ iL)
  (z_max:nsIn K mainGlobals "max"=iJ iL)
  (z_min:nsIn K mainGlobals "min"=iJ iL)
  (z_range:nsIn K mainGlobals "range"=iJ iL)
  (z_set:nsIn K mainGlobals "set"=iJ iL)
  (z_sorted:nsIn K mainGlobals "sorted"=iJ iL)
  (z_str:nsIn K mainGlobals "str"=iJ iL)
  (z_sum:nsIn K mainGlobals "sum"=iJ iL)
  (z_tuple:nsIn K mainGlobals "tuple"=iJ iL)
  (z_zip:nsIn K mainGlobals "zip"=iJ iL)
  (c_LEAST_PLACE:nsIn K mainGlobals "LEAST_PLACE"=iJ (iJ (.int (-3) a)))
  (c_MOST_LETTERS:nsIn K mainGlobals "MOST_LETTERS"=iJ (iJ (.int 6 t)))
  (c_MOST_PLACE:nsIn K mainGlobals "MOST_PLACE"=iJ (iJ (.int 2 b)))
  (c_MOST_ROOM:nsIn K mainGlobals "MOST_ROOM"=iJ (iJ (.int 99 M)))
  (c_MOST_WORDS:nsIn K mainGlobals "MOST_WORDS"=iJ (iJ (.int 6 S)))
  (ex:qbS K [C0,C1,C2,C3,C4,C5,C6,C7,C8,C9,u,r,C] CW=iO)
  (aB:nsIn K mainGlobals "Words"=iJ (iJ (.ref B)))
  (b1:c6 K B Str.empty=iO)
  (b2:dE K B=iO)
  (b3:ei K B=iO)
  (b4:aQ K (.ref B) "__setattr__"=iJ (iJ (.builtin "object.__setattr__")))
  (n0:aQ K (.ref B) "look"=iJ iL)
  (n1:aQ K (.ref B) "came"=iJ iL)
  (n2:aQ K (.ref B) "width"=iJ iL)
  (n3:aQ K (.ref B) "held"=iJ iL)
  (b_0:aQ K (.ref B) "room"=iJ (iJ (.ref f0))) (J:LkM K "room" "Words.room" jZ f0 v0 o0 p0 s0 g0 h0 i0 j0 m0) (d_0:codeIn K j0 "Words.room"=iO) (p:keepIn K (.ref f0)=iO) (q_0:cT K (.ref f0)=iO)
  (q1:Dx K "is_between" vL)
  (q2:Dx K "is_look" wt)
  (q3:Dx K "check_look" vN)
  (b_4:aQ K (.ref B) "__init__"=iJ (iJ (.ref f4))) (I:LkM K "__init__" "Words.__init__" jo f4 v4 o4 p4 s4 g4 h4 i4 j4 m4) (d_4:codeIn K j4 "Words.__init__"=iO) (N:keepIn K (.ref f4)=iO) (q_4:cT K (.ref f4)=iO) (y1:hJ K B=iO) (y2:keepIn K (.ref B)=iO)
  (b_5:aQ K (.ref B) "numbers"=iJ (iJ (.ref V))) (A:LkM K "numbers" "Words.numbers" jx V v5 o5 p5 s5 g5 h5 i5 j5 m5) (Y:codeIn K j5 "Words.numbers"=iO) (o:keepIn K (.ref V)=iO) (q_5:cT K (.ref V)=iO)
  (b_6:aQ K (.ref B) "words"=iJ (iJ (.ref U))) (z:LkM K "words" "Words.words" jO U v6 o6 p6 s6 g6 h6 i6 j6 m6) (W:codeIn K j6 "Words.words"=iO) (n:keepIn K (.ref U)=iO) (q_6:cT K (.ref U)=iO)
  (q7:Dx K "_law_cell_at" uZ)
  (q8:Dx K "_law_mixed" zO)
  (q9:Dx K "_law_draw" JM)
  (q10:Dx K "_law_pick" JN)
  (q11:Dx K "_law_word" xN)
  (q12:Dx K "_law_words" zQ)
  (q13:Dx K "_law_look" JR)
  (q14:Dx K "is_letter" wO)
  (q15:Dx K "is_word" ww)
  (q16:Dx K "is_words" vh)
  (q17:Dx K "check_words" kZ)
  (q18:Dx K "letter_at" wR)
  (q19:Dx K "pairs" xS)
  (q20:Dx K "check_room" vP)
  (q21:Dx K "is_worth" yc)
  (q22:Dx K "is_worths" jN)
  (q23:Dx K "check_worths" kK)
  (q24:Dx K "letters_of" jE)
  (q25:Dx K "within" zR)
  (q26:Dx K "numbered" kb)
  (q27:Dx K "are_alike" wV)
  (q28:Dx K "clash_of" yh)
  (q29:Dx K "is_loose" vi)
  (q30:Dx K "bound_pairs" jt)
  (q31:Dx K "unshared" yj)
  (q32:Dx K "contrasts_of" jH)
  (q33:Dx K "may_differ" qZ)
  (q34:Dx K "with_worth" vR)
  (q35:Dx K "can_be_filled" jh)
  (q36:Dx K "can_differ" kg)
  (q37:Dx K "least_worths" kL)
  (q38:Dx K "room_from" ue)
  (q39:Dx K "check_word" vV)
  (b_40:aQ K (.ref B) "check_new"=iJ (iJ (.ref d))) (i:LkM K "check_new" "Words.check_new" jc d v40 o40 p40 s40 g40 h40 i40 R m40) (m:codeIn K R "Words.check_new"=iO) (c:keepIn K (.ref d)=iO) (y:cT K (.ref d)=iO)
  (b_41:aQ K (.ref B) "come"=iJ (iJ (.ref f))) (g:LkM K "come" "Words.come" kh f v41 o41 p41 s41 g41 h41 i41 O m41) (j:codeIn K O "Words.come"=iO) (k:keepIn K (.ref f)=iO) (x:cT K (.ref f)=iO)
  (q42:Dx K "_law_which" zT)
  (q43:Dx K "_law_come" Kf)
  (q44:Dx K "law" WR) :
  ∃ fd:lm,(∀ (s:iP) (v:iM),lW s fd ⟨[v],[]⟩ [("_law_script",v)])/\∀ base:Heap,K.In base->base.Ns mainGlobals mg->FnOk l.prog w K mg base (CXk l.prog w) 21 fa fd ["_law_script"] (qbU K):=by
 obtain ⟨f44,_,_,_,_,_,_,_,_,_,b_44,D,d_44,L⟩:=q44;have e:=hfa.symm.trans (ly X G b_44);cases e;obtain ⟨Z,cok,eB⟩:=qh2 X G aW a0 a1 a2 a3 a4 a5 a6 a7 a8 a9 a10 a11 a12 z_ValueError z_all z_bool z_dict z_enumerate z_int z_isinstance z_len z_list z_max z_min z_range z_set z_sorted z_str z_sum z_tuple z_zip c_LEAST_PLACE c_MOST_LETTERS c_MOST_PLACE c_MOST_ROOM c_MOST_WORDS ex aB b1 b2 b3 b4 n0 n1 n2 n3;have T:Tx K mg (caT [("WordError",CW),("NoWords",C0),("NoLook",C1),("NoNumbers",C2),("NoRoom",C3),("NoWord",C4),("NoWorths",C5),("Never",C6),("Full",C7),("Known",C8),("NoPlace",C9),("NoLetters",u),("NoText",r),("Nothing",C),("Words",B)]):=⟨by rw [eB]; exact ⟨f0,_,(vj (st:=jZ) J d_0 p),⟨b_0,q_0,p⟩,(vj (st:=jZ) J d_0 p).binds (λ_ _ _ _ _ _ us hl=>by revert hl; refine λhl=>qgn (P:=λus=>bindArgs _ ⟨us,[]⟩=pure (dO _ us)) hl ?_; intros; rfl)⟩,jG X G q1,jG X G q2,jG X G q3,by rw [eB]; exact ⟨f4,_,(vj (st:=jo) I d_4 N),⟨y1,b_4,q_4,y2⟩,(vj (st:=jo) I d_4 N).binds (λ_ _ _ _ _ _ us hl=>by revert hl; refine λhl=>qgo (P:=λus=>bindArgs _ ⟨us,[]⟩=pure (dO _ us)) hl ?_; intros; rfl)⟩,by rw [eB]; exact ⟨V,_,(vj (st:=jx) A Y o),⟨b_5,q_5,o⟩,(vj (st:=jx) A Y o).binds (λ_ _ _ _ _ _ us hl=>by revert hl; refine λhl=>qgn (P:=λus=>bindArgs _ ⟨us,[]⟩=pure (dO _ us)) hl ?_; intros; rfl)⟩,by rw [eB]; exact ⟨U,_,(vj (st:=jO) z W n),⟨b_6,q_6,n⟩,(vj (st:=jO) z W n).binds (λ_ _ _ _ _ _ us hl=>by revert hl; refine λhl=>qgn (P:=λus=>bindArgs _ ⟨us,[]⟩=pure (dO _ us)) hl ?_; intros; rfl)⟩,jG X G q7,jG X G q8,jG X G q9,jG X G q10,jG X G q11,jG X G q12,jG X G q13,jG X G q14,jG X G q15,jG X G q16,jG X G q17,jG X G q18,jG X G q19,jG X G q20,jG X G q21,jG X G q22,jG X G q23,jG X G q24,jG X G q25,jG X G q26,jG X G q27,jG X G q28,jG X G q29,jG X G q30,jG X G q31,jG X G q32,jG X G q33,jG X G q34,jG X G q35,jG X G q36,jG X G q37,jG X G q38,jG X G q39,by rw [eB]; exact ⟨d,_,(vj (st:=jc) i m c),⟨b_40,y,c⟩,(vj (st:=jc) i m c).binds (λ_ _ _ _ _ _ us hl=>by revert hl; refine λhl=>qgo (P:=λus=>bindArgs _ ⟨us,[]⟩=pure (dO _ us)) hl ?_; intros; rfl)⟩,by rw [eB]; exact ⟨f,_,(vj (st:=kh) g j k),⟨b_41,x,k⟩,(vj (st:=kh) g j k).binds (λ_ _ _ _ _ _ us hl=>by revert hl; refine λhl=>qgo (P:=λus=>bindArgs _ ⟨us,[]⟩=pure (dO _ us)) hl ?_; intros; rfl)⟩,jG X G q42,jG X G q43⟩
 have F:=vj (st:=WR) D d_44 L;exact ⟨_,λs v=>.of_eq rfl,λbase _ _=>(qgq (P:=l.prog) (w:=w) (base:=base) Z T F).imp λvs H Q E q=>qh3 cok vs H Q E q⟩
theorem qi2 {l:hZ} {q:iR} {loose:List Str} {XP:(Str->Option iM)->Heap->Prop} {YP:iS->Heap->Prop} {d:DefRec} {K:lK->Frag} (b:l.most=iJ 63) (hdf:d.params.defaults=[])
  (D:∀ (w:iS) (h:Heap),YP w h->(K w.params).In h)
  (F:∀ (w:iS) (mg:Str->Option iM) (fa:Addr) (h:Heap),(K w.params).In h->h.Ns mainGlobals mg->mg d.name=iJ (.ref fa) ->∃ fd:lm,(∀ (s:iP) (u:iM),lW s fd ⟨[u],[]⟩ [("_law_script",u)])/\∀ base:Heap,(K w.params).In base->base.Ns mainGlobals mg->FnOk l.prog w (K w.params) mg base (CXk l.prog w) 21 fa fd ["_law_script"] (qbU (K w.params))) :
  PySem.W.WalkO q loose XP YP l.row.toRowW d [] (λf vs=>iG f vs):=
 L2.qcY (n:=63) (k:=21) (x := "_law_script") (CX:=λw=>CXk l.prog w) (sp:=λw=>qbU (K w.params)) b (by decide) hdf ⟨rfl,by decide,by decide⟩ D F (λ_ _ a ns hl _ S=>⟨a,ns,rfl,S,λ_=>rfl⟩) λw H s e s' z=>by obtain ⟨ex,T,C,H',_,_,_,_,_,_,_,_,_,_,q⟩:=z;exact q.elim
end Kx
open PySem PySem.W PyProof.Rows
set_option maxRecDepth 100000 in
set_option maxHeartbeats 0 in
theorem PySem.Challenge.cw_lookwords_k37_whole_two_lists_holds : PySem.Challenge.rw_lookwords_k37_whole_two_lists.Holds := by
  refine Kx.hd ?_;k_fill
  refine Kx.qi2 (l := PySem.Challenge.rw_lookwords_k37_whole_two_lists) rfl rfl (λw h Y => PySem.W.kIn_of Y) ?F
  case F =>
    intro w mg fa h X G g;refine' Kx.qgr X G g ?_ ?_ ?_ ?_ ?_ ?_ ?_ ?_ ?_ ?_ ?_ ?_ ?_ ?_ ?_ ?_ ?_ ?_ ?_ ?_ ?_ ?_ ?_ ?_ ?_ ?_ ?_ ?_ ?_ ?_ ?_ ?_ ?_ ?_ ?_ ?_ ?_ ?_ ?_ ?_ ?_ ?_ ?_ ?_ ?_ ?_ ?_ ?_ ?_ ?_ ?_ ?_ ?_ ?_ ?_ ?_ ?_ ?_ ?_ ?_ ?_ ?_ ?_ ?_ ?_ ?_ ?_ ?_ ?_ ?_ ?_ ?_ ?_ ?_ ?_ ?_ ?_ ?_ ?_ ?_ ?_ ?_ ?_ ?_ ?_ ?_ ?_ ?_ ?_ ?_ ?_ ?_ ?_ ?_ ?_ ?_ ?_ ?_ ?_ ?_ ?_ ?_ ?_ ?_ ?_ ?_ ?_ ?_ ?_ ?_ ?_ ?_ ?_ ?_ ?_ ?_ ?_ ?_;all_goals try first | k_is | exact ⟨_, _, _, _, _, _, _, _, _, _, by unfold Kx.NsX; k_is, by unfold Kx.LkX; k_is, by unfold Kx.CdX; k_is, by unfold Kx.KpX; k_is⟩ | (unfold Kx.LkM; k_is) | kernel_rfl
