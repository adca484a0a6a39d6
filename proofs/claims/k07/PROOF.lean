import PyProof.Rows.All
import KE.KTryMore
import KE.KDictOf
import KE.KSortTup
import KE.KItemsList
import PySem.Challenge.RW_lookwords_k07_whole_lists
open Option renaming some→iF,none→iH
open PySem renaming wpAny_bind→iG,Value→iI,Shared→iL,wpAny_pure→iM,Program→iN,World→iO,sizeLine_eq→iP,Around→iQ,wpAny_callSpecial?_slot→iR,wpAny_call_entry→iS,wpAny_seqItems→iT,wpAny_newObj_type→iU,wpAny_field→iV,wpAny_holding→iW,IsPair→iX,codeAny_builtin→iZ,Keyword→i0,wpAny_Call_Name_kw→i3,SetTable→i4,wpAny_askSetting→i5,wpAny_attempt→i6,wpAny_truthy_bool→i7,wpAny_setState_of→i8,builtinLookup_eq_fast→i9,wpAny_setField_rec→j0,wpAny_mono→j4,wpAny_isInstance→j5,wpAny_setField→j6,OsState→j7,wpAny_passesOwn→j9,FuncData→k4,plainId_quiet→k6,wpAny_setEntries_of→k7,NameKind→k8,wpAny_rule→k9,typeLookup_type→lb,wpAny_updateSeq→lc,call_meets→lf,codeAny_mono→lg,Scope→lh,tupleKind_room_in1→li,wpAny_pyIter_list→lj,wpAny_typeOf→ll,fits_of_scanBound→lm,isSubtype_type→lp,Draws→lq,IsZip→lr,wpAny_execs_nil→lv,Params→lx,wpAny_fieldsOf→ly,isSubtype_stop→lz,wpAny_newTuple→lA,wpAny_onRaise→lB,concat_meets→lD,GenState→lE,Result→lF,wpAny_of_eq→lG,wpAny_letGo→lH,DictEntry→lI,BindsTo→lJ,Paired→lK,wpAny_call→lL
open Bool renaming false→iJ,true→iK
open PySem.W renaming mg_none_of→iY,boot_heap→j8,mg_of→lu,boot_drawn→lC
open PyProof.Rows renaming AllBare→lw
open PySem.Heap renaming get?_push_of_some→aa,get?_push_size→ah,lt_size→ap,get?_update_self→aX,size_push→ba,SameBut→bj,get?_update_other→bF,get?_push_ne→eJ,ExtBut→ia
open PySem.Str renaming ofString→ac,length→d4,empty→iC
open List renaming mem_cons→ae,mem_cons_of_mem→af,length_map→ai,size_toArray→aj,getElem?_set_ne→am,length_append→ao,mem_cons_self→aq,length_cons→au,mem_map→ax,getElem?_eq_getElem→aA,getElem?_eq_some_iff→aC,mem_singleton→aE,getElem?_set_self→aF,getElem?_map→aG,mem_append→aH,map_cons→aJ,range→aK,all_eq_true→aL,nodup_cons→aR,not_mem_nil→aU,mem_append_right→aV,length_nil→aY,mem_range→bg,pairwise_cons→bh,append_nil→bp,replicate→bu,lookup_cons→bG,length_range→bK,getElem?_eq_none→bL,length_take→bQ,getElem?_replicate→bR,getElem_mem→bT,findIdx?_eq_some_iff_getElem→bV,getElem?_append_right→bW,getD_eq_getElem?_getD→bZ,getElem?_append_left→ce,map_map→cm,mem_append_left→cq,lookup→cr,foldl_cons→cz,filterMap_cons→cB,replicate_zero→cD,any_cons→cI,mem_filter→cK,of_mem_zip→cM,find?_cons→cP,map_append→cR,mem_of_getElem?→cT,map_nil→cU,append_assoc→cW,mem_iff_getElem→cX,pairwise_singleton→db,zipWith→dn,zip→dq,length_replicate→dA,nodup_nil→dJ,toArray→dL,pairwise_iff_getElem→dO,length_erase_of_mem→dU,forIn_cons→dW,find?_eq_none→d6,findIdx?_cons→d7,length_eq_zero_iff→d9,reverse_cons→eu,ext_getElem?→eI,length_pos_of_mem→eX,length_singleton→eY,getElem?_toArray→eZ,mem_of_mem_erase→e9,mem_iff_getElem?→ff,getElem_inj→fh,countP_cons→fk,all_cons→fq,length_set→fy,length_pos_iff→fB,mem_filterMap→fD,forIn_nil→fG,zip_cons_cons→fH,nodup_append→fM,flatMap_cons→fP,take_length→fY,any_eq_true→fZ,sum_append→g8,nil_append→g9,filter_map→hJ,length→h8,map_id'→iB
open Nat renaming le_refl→aw,ne_of_lt→ay,lt_of_lt_of_le→aD,zero_le→be,le_trans→bA,lt_irrefl→bM,le_add_right→cj,lt_succ_of_lt→cw,le_of_lt→cF,ne_of_gt→cG,lt_trans→cV,not_lt_zero→dX,sub_self→eU,lt_succ_self→fj,le_of_eq→fC,lt_of_succ_lt→fL,le_succ→hZ
open PySem.Value renaming ref→aI,bool→aZ,none→bw,isStrOf_shape→cZ,type→df,str→dt,builtin→dw,int→fg,isStrOf→fS
open Bool renaming and_eq_true→aM,false_ne_true→bD,false_eq_true→ci,not_eq_true'→eG,or_false→fV,or_eq_true→g7,and_true→ig
open Option renaming some→aN,map_eq_some_iff→aP,bind_eq_some_iff→cu,isSome_map→fK
open PySem.W renaming findIn→aO,hideAll→bi,emptyDict→bJ,fnOf→bO,kitOne→bX,instObj→cx,isFn→cH,kia_one→cQ,hideAll_none→cS,hideAll_get→c6,plainGet→c7,hasDictIn→dD,exmOne→dI,excIn→dR,of_hideAll→dY,callWith_K→dZ,plainOver→ei,cellsFrom_some→ej,plainGet_of→fA,lookIn→fE,methodObj→fI,takerIn→f9,makesIn→g0,OpenLaw→g6
open PySem.Builtin.SmallTypes renaming nextOf→aQ,ownedTupleIsFree→aS
open PySem.PassesOwn renaming leaving→bb
open Ne renaming symm→bf
open PySem renaming mem_of_lookup→bn,Within→iq,call→iD
open PySem.Heap.SameBut renaming update→bo
open PySem.SetTable renaming below→bq,grown→c8,laid→ic
open PySem.Around renaming under_plainId→br,under→iu
open Array renaming getElem?_eq_getElem→bt,length_toList→cC,getElem?_eq_none→dj,getElem?_toList→dB,toList_push→fN,mk→hV
open PySem.NameKind renaming free→bv
open PySem.Obj renaming mapSeq→bx,putSet→ij
open PySem.F renaming slot_zip_next→bz,called_set→bP,plainAttrs_list→bS,slot_tuple_iterator_next→bY,plain_extend_loop→cg,args_zip_next_1→c9,entry_zip_next→dm,slot_tuple_getattribute→dN,args_tuple_add_2→dP,slot_list_getattribute→dS,entry_tuple_add→d8,slot_tuple_add→et
open PyProof.Rows renaming callWith_type1→bB
open Or renaming inl→bE,inr→fW
open Classical renaming byContradiction→bH
open False renaming elim→bI
open PySem.Builtin.List renaming listExtendWith→bU,listSameRef→cY,listLengthHint→dG,listTooLong→dQ
open Sum renaming inr→ck,inl→fm
open ForInStep renaming yield→cy
open PySem.Builtin.Frozenset renaming updateFrom→cA
open List.Perm renaming refl→cJ
open True renaming intro→dg
open PySem.Calls renaming callWith_builtin→dh,evalArgs_plain→dH,spliced_cons→fF,spliced_nil→fJ
open Int renaming toNat_natCast→dE,emod_lt_of_pos→d5,emod_nonneg→fz,emod_eq_of_lt→fO,dvd_add→fR
open List.Pairwise renaming nil→dF
open PyProof.Rows.F renaming plain_set_update_loop→eh
open List.Sublist renaming refl→fQ
open PySem.Paired renaming length→fU
open PySem.Shared renaming TypeIs→fX
open PySem.W.KF renaming type_class→ib
open PySem.SeqAt renaming EqAt→ii
open Prod renaming ext→ip
open PySem.Code renaming isFrame→iA
open PySem.Walks renaming list→iE
noncomputable section
open PySem.W (Frag nsIn keepIn codeIn mg_of mg_none_of)
set_option Elab.async false
set_option linter.all false
set_option maxRecDepth 100000
namespace Kx
noncomputable section
open PySem PySem.W PySem.Calls PyProof.Rows
noncomputable def zP:Pos:=⟨0,0,0,0⟩
noncomputable def anV:Option iI:=iF (.ref 6)
noncomputable def hA (P:lx):List Obj:=(j8 P).objs.toList++[⟨.type "tuple",iH,.seq #[] 0,#[]⟩,⟨.none,iH,.fields #[],#[]⟩,
 ⟨.type "code",iH,.fields #[.str "<module>" 182,.str "<module>" 183,.str "/claim/cut.py" 184,.int 1 0,.int 0 0,.int 0 0,.int 0 0,.int 0 0,.ref 11,.bool iJ,.int 181 0,.ref 12,.none,.none,.none,.none,.int 185 0,.int 1 0,.str "/claim/cut.py" 186],#[]⟩,
 ⟨.type "frame",iH,.plain,#[iF (.ref 13),iF (.ref 3),iF (.ref 3),iH,iF (.str "__main__" 164),iH,iF (.ref 0)]⟩]
noncomputable def enP (p:iN):Env:={ scope:=p.main.scope,locals:=mainNs,globals:=mainNs,cells:=[],code:=.ref 13,frame:=iF 14 }
noncomputable def cdP (p:iN):Code:=.body (behindTheImports p) (enP p)
noncomputable def trA:List Obj->Nat->BT->BT
 | [],_,t=>t
 | o::l,i,t=>trA l (i+1) (t.ins i o)
noncomputable def SA (w:iO) (os:j7):SharedT:=⟨trA (hA w.params) 0 .nil,15,(j8 w.params).life,hV [],lC,187,os⟩
noncomputable def kH (P:lx) (s:Str) (t:Nat) (v:iI):lI:=⟨PyData.keyHash P s,.str s t,v⟩
noncomputable def eM:iI:=.str "lookwords.errors" 187
noncomputable def eT (a:List iI):Obj:=⟨.type "tuple",iH,.seq ⟨a⟩ 0,#[]⟩
noncomputable def eF (c:iI) (a:List iI):Obj:=⟨c,iH,.fields ⟨a⟩,#[]⟩
noncomputable def eB:iI:=.type "builtin_function_or_method"
noncomputable def eD (a:List lI) (n:Nat):Obj:=⟨.type "dict",iH,.dict ⟨a⟩ n,#[]⟩
noncomputable def eA (P:lx) (s:Str) (b:iI) (n t l:Nat):List Obj:=[eT [b],eF eB [.builtin "type.__prepare__",.type "type"],
 eD [kH P "__module__" (t+7) eM,kH P "__qualname__" (t+9) (.str s (t+8)),kH P "__firstlineno__" (t+11) (.int l (t+10)),kH P "__static_attributes__" (t+12) (.ref (n+7))] 4,
 eT [],eF .none [],eF (.type "code") [.str s (t+2),.str s (t+3),.str "/claim/cut.py" (t+4),.int l 0,.int 0 0,.int 0 0,.int 0 0,.int 0 0,.ref (n+3),.bool iJ,.int 181 0,.ref (n+4),.none,.none,.none,.none,.int ((t+5:Nat):Int) 0,.int l 0,.str "/claim/cut.py" (t+6)],
 ⟨.type "frame",iH,.plain,#[iF (.ref (n+5)),iF (.ref 3),iF (.ref (n+2)),iH,iF eM,iH,iF (.ref 0)]⟩,eT []]
noncomputable def eC (s:Str) (b:iI) (n t:Nat) (m sub:List iI):Obj:=⟨.type "type",iH,.cls { name:=s,bases:=[b],mro:=.ref (n+9)::m,ns:=n+8,qualname:=s,subclasses:=sub },#[iF (.ref n),iH,iF (.str s t),iF (.str s (t+8)),iF (.builtin "ValueError.__new__"),iF (.bool iK)]⟩
noncomputable def eS (a:Nat):List Obj:=[eF (.type "super") [.ref a,.ref a,.ref a],eF eB [.builtin "object.__init_subclass__",.ref a]]
noncomputable def eK (P:lx) (t l:Nat) (n:Nat):List lI:=[kH P "__module__" (t+7) eM,kH P "__firstlineno__" (t+11) (.int l (t+10)),kH P "__static_attributes__" (t+12) (.ref (n+7))]
noncomputable def eV:List iI:=[.type "ValueError",.type "Exception",.type "BaseException",.type "object"]
noncomputable def eL (P:lx):List Str->Nat->Nat->Nat->List Obj
 | [],_,_,_=>[]
 | s::r,n,t,l=>eA P s (.ref 24) n t l++eD (eK P t l n++[kH P "__doc__" (t+13) .none]) 2::eC s (.ref 24) n t (.ref 24::eV) []::eS (n+9)++eL P r (n+12) (t+16) (l+2)
noncomputable def eE (P:lx):List Str->Nat->Nat->List lI
 | [],_,_=>[]
 | s::r,n,t=>kH P s (t+15) (.ref (n+9))::eE P r (n+12) (t+16)
noncomputable def eR:Nat->Nat->List iI
 | 0,_=>[]
 | k+1,n=>.ref n::eR k (n+12)
noncomputable def eQ:Nat->Nat->Nat->List iI
 | 0,_,_=>[]
 | k+1,n,l=>.int l 0::.int 0 0::.ref n::eQ k (n+12) (l+2)
noncomputable def eO (P:lx) (L:List Str):Obj:=match (boot_o_3 P).data with
 | .dict a _=>eD (kH P "__name__" 165 eM::a.toList.drop 1++kH P "WordError" 206 (.ref 24)::eE P L 28 207) (L.length+10)
 | _=>eT []
noncomputable def hC (P:lx) (L:List Str):List Obj:=(hA P).take 3++eO P L::((hA P).drop 4).take 8++eF .none (.int 2 0::.int 0 0::.ref 20::eQ L.length 33 4)::(hA P).drop 13 ++
 eA P "WordError" (.type "ValueError") 15 189 2++eD (eK P 189 2 15++[kH P "__weakref__" 203 (.ref 25),kH P "__doc__" 204 .none]) 3::eC "WordError" (.type "ValueError") 15 189 eV (eR L.length 37) ::
 eF (.type "getset_descriptor") [.str "__weakref__" 202,.ref 24,.builtin "ExceptionGroup.__weakref__",.none]::eS 24++eL P L 28 207 4
noncomputable def SC (L:List Str) (w:iO) (os:j7):SharedT:=⟨trA (hC w.params L) 0 .nil,12 * L.length+28,(j8 w.params).life,hV [],lC,16 * L.length+207,os⟩
noncomputable def zC (L:List Str):Pos:=⟨2 * L.length+2,0,2 * L.length+3,8⟩
noncomputable def Ga (L:List Str) (p:iN) (w:iO) (M:Nat) (os:j7):Option (Flow×Code×iL):=
 (segRunT treeTable p w 11 anV 1 M (SC L w os) (piecesOf ((behindTheImports p).drop (L.length+2)) (enP p) (cdP p) (zC L) [topFrame zP])).bind λr=>
  (topRun treeTable p w 11 anV 5 r.2.1.abs (restOf [] (enP p) (cdP p) r.2.2.2 [topFrame zP])).map λs=>(r.1,r.2.2.1,s)
abbrev qdS (p:iN) (w:iO) (x:Flow×Code×iL):=
 (x.1,x.2.1,(staticsOk (importedModules p.main.body) (j8 w.params) x.2.2.heap&&namesBound p x.2.2.heap&&gensDone x.2.2&&laidKept (j8 w.params) x.2.2.heap))
abbrev VI (p q:iN) (loose:List Str) (Xt:iL->Bool) (x:Flow×Code×iL):=openSeen q loose (importedModules p.main.body) Xt iK x.2.2
theorem left_T {L:List Str} {p q:iN} {loose:List Str} {Xt:iL->Bool} {α:Type} {Yf:iL->α} {Ya:iO->α} {N M:Nat}
  (e:opening p=plainProg p.main.scope.names) (hN:Nat.ble 600 N=iK) (f:∀ s,fenceModules? p s=iF s)
  (size:∀ w:iO,((j8 w.params).isNs mainGlobals&&(hV []:Array lE).size == 0,(j8 w.params).objs.size,(j8 w.params).nsMap mainGlobals "__annotations__")=(iK,11,anV))
  (pre:∀ (w:iO) (os:j7),topGo treeTable p w 11 anV 12 ⟨j8 w.params,hV [],lC,boot_toks,os⟩ (topStub p)=iF ((SA w os).abs,⟨denote treeTable (cdP p),cdP p,zP,[topFrame zP]⟩))
  (blk:∀ (w:iO) (os:j7),segRun treeTable p w 11 anV 1 1 (SA w os).abs (blockOf (behindTheImports p) (enP p) (cdP p) zP [topFrame zP])=iF (.next,(SA w os).abs,cdP p,zP))
  (le:Nat.ble (12+(1+(3500+(M+5)))) N=iK)
  (m6:∀ (w:iO) (os:j7),segRunT treeTable p w 11 anV 1 3500 (SA w os) (piecesOf ((behindTheImports p).take (L.length+2)) (enP p) (cdP p) zP [topFrame zP])=iF (.next,SC L w os,cdP p,zC L))
  (m0:∀ (w:iO) (os:j7),(Ga L p w M os).map (qdS p w)=iF (.next,cdP p,iK))
  (m1:∀ (w:iO) (os:j7),(Ga L p w M os).map (λx=>(VI p q loose Xt x).1)=iF (openGood q loose).1)
  (m3:∀ (w:iO) (os:j7),(Ga L p w M os).map (λx=>(VI p q loose Xt x).2.1)=iF (openGood q loose).2.1)
  (m4:∀ (w:iO) (os:j7),(Ga L p w M os).map (λx=>(VI p q loose Xt x).2.2.1)=iF (openGood q loose).2.2.1)
  (m5:∀ (w:iO) (os:j7),(Ga L p w M os).map (λx=>(VI p q loose Xt x).2.2.2)=iF (openGood q loose).2.2.2)
  (m2:∀ (w:iO) (os:j7),(Ga L p w M os).map (λx=>Yf x.2.2)=iF (Ya w)):LeftO p q loose Xt Yf Ya N:=λw=>by
 obtain ⟨⟨h,gs,d,k,os⟩,a,a'⟩:=aP.mp (boot_open e hN f w)
 obtain ⟨rfl,rfl,rfl,rfl⟩:h=j8 w.params/\gs=hV []/\d=lC/\k=boot_toks:=by simpa using a'
 obtain ⟨x,hx,hl⟩:=aP.mp (m0 w os)
 have l2:openSeen q loose (importedModules p.main.body) Xt iK x.2.2=openGood q loose:=by
  have a1:=m1 w os
  have a3:=m3 w os
  have a4:=m4 w os
  have a5:=m5 w os
  rw [hx] at a1 a3 a4 a5
  exact ip (aN.inj a1) (ip (aN.inj a3) (ip (aN.inj a4) (aN.inj a5)))
 obtain ⟨y,hy,hY⟩:=aP.mp (m2 w os)
 obtain rfl:y=x:=aN.inj (hy.symm.trans hx)
 obtain ⟨r,hr,hz⟩:=cu.mp hx
 obtain ⟨s,hs,rfl⟩:=aP.mp hz
 obtain ⟨fl,st,co,po⟩:=r
 unfold qdS at hl
 simp only [Prod.mk.injEq] at hl
 obtain ⟨rfl,rfl,l1⟩:=hl
 have t1:=piece_app (rest:=[]) (segRun_of hr) hs
 rw [bp] at t1
 have t1:=piece_app (segRun_of (m6 w os)) t1
 rw [List.take_append_drop] at t1
 have t2:=piece_block (blk w os) t1
 have t3:=topRun_mono (N - (12+(1+(3500+(M+5))))) _ _ _ _ (go_top (pre w os) t2)
 rw [show 12+(1+(3500+(M+5)))+(N - (12+(1+(3500+(M+5)))))=N by have:=Nat.le_of_ble_eq_true le; omega] at t3
 obtain ⟨z1,z2,z3⟩:_/\_/\_:=by simpa only [Prod.mk.injEq] using size w
 have t:topFrom treeTable p w N ⟨j8 w.params,hV [],lC,boot_toks,os⟩=iF s:=by
  unfold topFrom
  dsimp only
  rw [z1,z2,z3,t3]
  show (match staticsOk (importedModules p.main.body) (j8 w.params) s.heap&&namesBound p s.heap&&gensDone s&&laidKept (j8 w.params) s.heap with | true=>_ | false=>_)=_
  rw [l1]
 unfold openEnds
 rw [a]
 show (topFrom treeTable p w N _).map _=_
 rw [t]
 exact congrArg iF (ip l2 hY)
end
end Kx
noncomputable section
open PySem PySem.W PyProof.Rows
noncomputable def Kx.vq:iN:=view PySem.Challenge.pw_lookwords_k07_whole_lists [1,2,3,4,5,6,7,8,9,10,12,13,14,15,16,17,18,19,20,21,22,23,24,25,26,27,28,30,31,32,33,34,36,37,38,39,40,41,42,43,44,45,46,47,48,49,51,53,54,55,56,57,58,59,60,61,62]
noncomputable def Kx.eN:List Str:=["NoWords", "NoLook", "NoNumbers", "NoRoom", "NoWord", "NoWorths", "Never", "Full", "Known"]
noncomputable def Kx.xt (s:iL):Bool:=xlAt Kx.vq [] s&&recOk (RowW.records (OpenRow.toRowW (OpenLaw.row PySem.Challenge.rw_lookwords_k07_whole_lists))) s
theorem Kx.m6:∀ (w:iO) (os:j7),segRunT treeTable PySem.Challenge.pw_lookwords_k07_whole_lists w 11 Kx.anV 1 3500 (Kx.SA w os) (piecesOf ((behindTheImports PySem.Challenge.pw_lookwords_k07_whole_lists).take (Kx.eN.length+2)) (Kx.enP PySem.Challenge.pw_lookwords_k07_whole_lists) (Kx.cdP PySem.Challenge.pw_lookwords_k07_whole_lists) Kx.zP [topFrame Kx.zP])=iF (.next,Kx.SC Kx.eN w os,Kx.cdP PySem.Challenge.pw_lookwords_k07_whole_lists,Kx.zC Kx.eN):=by intro w os; kernel_rfl
theorem Kx.m0:∀ (w:iO) (os:j7),(Kx.Ga Kx.eN PySem.Challenge.pw_lookwords_k07_whole_lists w 15000 os).map (Kx.qdS PySem.Challenge.pw_lookwords_k07_whole_lists w)=iF (.next,Kx.cdP PySem.Challenge.pw_lookwords_k07_whole_lists,iK):=by intro w os; kernel_rfl
theorem Kx.m1:∀ (w:iO) (os:j7),(Kx.Ga Kx.eN PySem.Challenge.pw_lookwords_k07_whole_lists w 15000 os).map (λx=>(Kx.VI PySem.Challenge.pw_lookwords_k07_whole_lists Kx.vq [] Kx.xt x).1)=iF (openGood Kx.vq []).1:=by intro w os; kernel_rfl
theorem Kx.m3:∀ (w:iO) (os:j7),(Kx.Ga Kx.eN PySem.Challenge.pw_lookwords_k07_whole_lists w 15000 os).map (λx=>(Kx.VI PySem.Challenge.pw_lookwords_k07_whole_lists Kx.vq [] Kx.xt x).2.1)=iF (openGood Kx.vq []).2.1:=by intro w os; kernel_rfl
theorem Kx.m4:∀ (w:iO) (os:j7),(Kx.Ga Kx.eN PySem.Challenge.pw_lookwords_k07_whole_lists w 15000 os).map (λx=>(Kx.VI PySem.Challenge.pw_lookwords_k07_whole_lists Kx.vq [] Kx.xt x).2.2.1)=iF (openGood Kx.vq []).2.2.1:=by intro w os; kernel_rfl
theorem Kx.m5:∀ (w:iO) (os:j7),(Kx.Ga Kx.eN PySem.Challenge.pw_lookwords_k07_whole_lists w 15000 os).map (λx=>(Kx.VI PySem.Challenge.pw_lookwords_k07_whole_lists Kx.vq [] Kx.xt x).2.2.2)=iF (openGood Kx.vq []).2.2.2:=by intro w os; kernel_rfl
local macro_rules | `(tactic| o_head $H) => `(tactic| (refine holds_open (q := Kx.vq) (loose := []) (Xt := Kx.xt) (XP := XL Kx.vq []) (Yf := Hook.obs $H) (Ya := Hook.val $H) (YP := Hook.says $H) (N := 20000) ?hl (Hook.of $H) (Hook.keeps $H) (fun s e => xl_of s (Bool.and_eq_true_iff.mp e).1) XL.keeps (by rfl) (by rfl) (by rfl) (fun s e => recFacts_of (Bool.and_eq_true_iff.mp e).2) (by rfl) (by first | assumption | decide +kernel) (by decide +kernel) ⟨rfl, rfl, rfl, rfl, rfl, by decide +kernel⟩ ?hw ?hc; (case hl => refine Kx.left_T (p := PySem.Challenge.pw_lookwords_k07_whole_lists) (M := 15000) ?e rfl ?f ?s ?p ?b rfl Kx.m6 Kx.m0 Kx.m1 Kx.m3 Kx.m4 Kx.m5 ?m; (case e => kernel_rfl); (case f => intro s; kernel_rfl); (case s => intro w; kernel_rfl); (case p => intro w os; kernel_rfl); (case b => intro w os; kernel_rfl); (case m => intro w os; kernel_rfl))))
set_option maxHeartbeats 0 in
open_top Kx.hd for PySem.Challenge.rw_lookwords_k07_whole_lists
end
namespace L2
open PySem PySem.Spec PyProof.Rows
abbrev Key:=Sum Int Str
noncomputable def Qf:Key->iI->Bool
 | .inl k,v=>Value.isInt k v
 | .inr x,v=>fS x v
noncomputable def qj8 (w:iO):Key->Int
 | .inl k=>hashInt k
 | .inr x=>hashStr w x
theorem jo:∀ {k:Key} {v:iI},Qf k v=iK->(∃ i t,k=fm i/\v=fg i t)\/(∃ x t,k=ck x/\v=dt x t)
 | .inl i,v,h=>by obtain ⟨t,e⟩:=Value.isInt_shape (k:=i) (v:=v) h;exact .inl ⟨i,t,rfl,e⟩
 | .inr x,v,h=>by obtain ⟨t,e⟩:=cZ (x:=x) (v:=v) h;exact .inr ⟨x,t,rfl,e⟩
theorem VJ (i:Int) (t:Tok):Qf (.inl i) (.int i t)=true:=by simp [Qf,Value.isInt]
theorem VL (x:Str) (t:Tok):Qf (.inr x) (.str x t)=true:=by simp [Qf,fS]
theorem qfX (a b:Int):decide ((fm a:Key)=fm b)=(a == b):=by
 by_cases e:a=b;·subst e; simp
 ·have h:¬(fm a:Key)=fm b:=λq=>e (fm.inj q);rw [decide_eq_false h];exact (beq_eq_false_iff_ne.mpr e).symm
theorem qfY (a b:Str):decide ((ck a:Key)=ck b)=decide (a=b):=by
 by_cases e:a=b;·subst e; simp
 ·have h:¬(ck a:Key)=ck b:=λq=>e (ck.inj q);rw [decide_eq_false h,decide_eq_false e]
theorem qfZ (a:Int) (b:Str):decide ((fm a:Key)=ck b)=false:=decide_eq_false (λq=>nomatch q)
theorem qf0 (a:Str) (b:Int):decide ((ck a:Key)=fm b)=false:=decide_eq_false (λq=>nomatch q)
noncomputable def qZ (prog:iN) (w:iO):PySem.KeyKind prog w Key where
 is:=Qf
 hash:=qj8 w
 inj:=λv a b g d=>by
  rcases jo g with ⟨i,t,rfl,rfl⟩ | ⟨x,t,rfl,rfl⟩
  ·rcases jo d with ⟨j,u,rfl,e⟩ | ⟨y,u,rfl,e⟩
   ·injection e with e1 _; rw [e1]
   ·exact nomatch e
  ·rcases jo d with ⟨j,u,rfl,e⟩ | ⟨y,u,rfl,e⟩
   ·exact nomatch e
   ·injection e with e1 _; rw [e1]
 byValue:=λk v h=>by rcases jo h with ⟨i,t,rfl,rfl⟩ | ⟨x,t,rfl,rfl⟩ <;> rfl
 pyHash:=λc h=>by
  rcases jo c with ⟨i,t,rfl,rfl⟩ | ⟨x,t,rfl,rfl⟩
  ·exact wpAny_pyHash_int h
  ·exact wpAny_pyHash_str h
 eqBool:=λf c h=>by
  rcases jo f with ⟨i,t,rfl,rfl⟩ | ⟨x,t,rfl,rfl⟩
  ·rcases jo c with ⟨j,u,rfl,rfl⟩ | ⟨y,u,rfl,rfl⟩
   ·rw [qfX] at h; exact wpAny_eqBool_int h
   ·rw [qfZ] at h; exact SeqAt.EqAt.int_str i t y u _ _ _ _ h
  ·rcases jo c with ⟨j,u,rfl,rfl⟩ | ⟨y,u,rfl,rfl⟩
   ·rw [qf0] at h; exact SeqAt.EqAt.str_int x t j u _ _ _ _ h
   ·rw [qfY] at h; exact wpAny_eqBool_str h
 «strs»:=λk x t v h=>by
  rcases jo h with ⟨i,u,rfl,e⟩ | ⟨y,u,rfl,e⟩
  ·exact nomatch e
  ·injection e with e1 _;subst e1;cases v <;> rfl
theorem Um (prog:iN) (w:iO) (i:Int) (t:Tok):(qZ prog w).is (.inl i) (.int i t)=true:=VJ i t
theorem Uo (prog:iN) (w:iO) (x:Str) (t:Tok):(qZ prog w).is (.inr x) (.str x t)=true:=VL x t
inductive V where
 | non | bl (b:Bool) | int (i:Int) | str (x:Str) | byt (b:Array UInt8) | flt (b:UInt64) | ref (a:Addr) | ty (n:String)
 deriving DecidableEq
def RelV:V->iI->Prop
 | .non,u=>u=bw
 | .bl b,u=>u=aZ b
 | .int i,u=>∃ t,u=fg i t
 | .str x,u=>∃ t,u=dt x t
 | .byt b,u=>∃ t,u=Value.bytes b t
 | .flt b,u=>∃ t,u=Value.float b t
 | .ref a,u=>u=aI a
 | .ty n,u=>u=df n
abbrev Vals:List V->List iI->Prop:=lK RelV
variable {xs:List V} {us:List iI}
theorem Vals.length (r:Vals xs us):xs.length=us.length:=fU r
theorem Vals.get:∀ {xs:List V} {us:List iI} {i:Nat} {x:V},Vals xs us->xs[i]?=iF x->∃ u,us[i]?=iF u/\RelV x u
 | _,_,_,_,.nil,e=>by simp at e
 | _,_,0,_,.cons r _,e=>by simp at e; subst e; exact ⟨_,rfl,r⟩
 | _,_,i+1,x,.cons _ t,e=>by obtain ⟨u,h1,h2⟩:=Vals.get (i:=i) (x:=x) t (by simpa using e);exact ⟨u,by simpa using h1,h2⟩
variable {u:iI}
theorem Vals.set {x:V} (r:RelV x u):∀ {xs:List V} {us:List iI} (i:Nat),Vals xs us->Vals (xs.set i x) (us.set i u)
 | _,_,_,.nil=>.nil
 | _,_,0,.cons _ t=>.cons r t
 | _,_,i+1,.cons q t=>.cons q (Vals.set r i t)
theorem Vals.append:∀ {xs ys:List V} {us ws:List iI},Vals xs us->Vals ys ws->Vals (xs++ys) (us++ws)
 | _,_,_,_,.nil,s=>s
 | _,_,_,_,.cons r t,s=>.cons r (Vals.append t s)
theorem Vals.take:∀ {xs:List V} {us:List iI} (n:Nat),Vals xs us->Vals (xs.take n) (us.take n)
 | _,_,0,_=>.nil
 | _,_,_+1,.nil=>.nil
 | _,_,n+1,.cons r t=>.cons r (Vals.take n t)
theorem Vals.drop:∀ {xs:List V} {us:List iI} (n:Nat),Vals xs us->Vals (xs.drop n) (us.drop n)
 | _,_,0,r=>r
 | _,_,_+1,.nil=>.nil
 | _,_,n+1,.cons _ t=>Vals.drop n t
def RelO:Option V->Option iI->Prop
 | some v,iF u=>RelV v u
 | none,iH=>True
 | _,_=>False
def KV {κ:Type}:List (κ×V)->List (κ×iI)->Prop:=lK λ(p:κ×V) (q:κ×iI)=>p.1=q.1/\RelV p.2 q.2
noncomputable def kV:Key->V
 | .inl i=>.int i
 | .inr x=>.str x
inductive HO where
 /-- a list -/
 | lst (xs:List V)
 /-- a tuple (never changes) -/
 | tup (xs:List V)
 /-- a dict whose keys are ints and texts; one whose keys are tuples of ints and texts (the empty one is both) -/
 | dK (kvs:List (Key×V)) | dT (kvs:List (List Key×V))
 /-- a set of ints: its members,its size -/
 | set (S:Int->Bool) (n:Nat)
 /-- an instance of the class at C,its dict at dx,its attributes -/
 | ins (C dx:Addr) (fs:List (Str×V))
 /-- the dict of the instance at x -/
 | own (x:Addr)
 /-- the dict of an exception -/
 | xd (fs:List (Str×V))
 /-- a bound method,f of x -/
 | met (f x:Addr)
 /-- a range object lo,lo+1,.. below hi -/
 | rng (lo hi:Int)
 /-- a thing that is known to the object (the script; a dict while a loop walks it): read,never written while it is so -/
 | frz (o:Obj) (u:HO)
 /-- a code object's table -/
 | tbl (ps:Array iI)
 /-- any other thing,by what is iK of its one object (a def of one's own: SetO a S n:=HO.ext λh=>..) -/
 | ext (φ:Heap->Prop)
abbrev Hp:=Addr->Option HO
noncomputable def upd (H:Hp) (a:Addr) (o:HO):Hp:=λb=>if b=a then iF o else H b
variable {H:Hp} {a:Addr} {o:HO}
theorem qt:upd H a o a=iF o:=by unfold upd; rw [if_pos rfl]
variable {b:Addr}
theorem qv (h:b≠a):upd H a o b=H b:=by unfold upd; rw [if_neg h]
theorem qir {u:HO} (h:H a=iF o) (h':H b=iF u) (d:o≠u):a≠b:=by intro e; subst e; rw [h] at h'; exact d (aN.inj h')
theorem qB (h:H a=iF o) (h':H b=iH):a≠b:=by intro e; subst e; rw [h] at h'; cases h'
section
variable (P:iN) (w:iO)
def ObjOk (H:Hp) (h:Heap) (a:Addr):HO->Prop
 | .lst xs=>xs.length<=sizeLine/\∃ (its:List iI) (n:Nat),Vals xs its/\h.get? a=iF { cls:=.type "list",data:=.seq its.toArray n }
 | .tup xs=>(xs.length<=sizeLine/\∃ o,h.get? a=iF o/\o.dict=iH)/\∃ its:List iI,Vals xs its/\IsTup h a its.toArray
 | .dK kvs=>kvs.length<=sizeLine/\(a == sysModules)=iJ/\∃ vs,KV kvs vs/\h.DictOf (qZ P w) a vs
 | .dT kvs=>kvs.length<=sizeLine/\(a == sysModules)=iJ/\∃ xs:List (List Key×Addr×iI),lK (λ(p:List Key×V) (q:List Key×Addr×iI)=>p.1=q.1/\H q.2.1=iF (.tup (p.1.map kV))/\RelV p.2 q.2.2) kvs xs /\
   ∃ o es ep,h.get? a=iF o/\o.ExactDict/\o.data=.dict es ep/\es.toList=xs.map (entryOfKey (tupleKind (qZ P w)))/\(xs.map (·.1)).Nodup
 | .set S n=>h.SetOf (intKind P w) a S n
 | .ins C dx fs=>H dx=iF (.own a)/\fs.length<=1000/\dx≠a/\h.get? a=iF (cx C dx) /\
   ∃ mA,h.Ns1 dx mA/\(∀ f,RelO (fs.lookup f) (mA f))/\iq mA (fs.map (·.1))
 | .own _=>∃ o,h.get? a=iF o
 | .xd fs=>∃ mA,h.Ns1 a mA/\∀ f,RelO (fs.lookup f) (mA f)
 | .rng lo hi=>∃ t u v,h.get? a=iF { cls:=.type "range",data:=.fields #[.int lo t,.int hi u,.int 1 v] }
 | .frz o u=>h.get? a=iF o/\ObjOk H h a u
 | .tbl ps=>h.get? a=iF { cls:=.none,data:=.fields ps }
 | .met f x=>h.get? a=iF (fI (.ref f) (.ref x))
 | .ext φ=>φ h/\(∃ o,h.get? a=iF o)/\∀ h1 h2:Heap,φ h1->(∀ o,h1.get? a=iF o->h2.get? a=iF o)->φ h2
def HOk (H:Hp) (h:Heap):Prop:=∀ a o,H a=iF o->ObjOk P w H h a o
end
variable {P:iN} {w:iO} {H':Hp} {h h':Heap} {α:Type}
section
theorem ObjOk.lt (x:ObjOk P w H h a o):a < h.objs.size:=by
 cases o with
 | lst xs=>obtain ⟨_,_,_,_,e⟩:=x; exact ap e
 | tup xs=>obtain ⟨_,_,_,p⟩:=x; exact p.lt
 | dK kvs=>obtain ⟨_,_,_,_,o,_,_,e,_⟩:=x; exact ap e
 | dT kvs=>obtain ⟨_,_,_,_,o,_,_,e,_⟩:=x; exact ap e
 | set S n=>obtain ⟨o,_,_,_,e,_⟩:=x; exact ap e
 | ins C dx fs=>obtain ⟨_,_,_,e,_⟩:=x; exact ap e
 | own y=>obtain ⟨_,e⟩:=x; exact ap e
 | xd fs=>obtain ⟨_,⟨_,_,_,e,_⟩,_⟩:=x; exact ap e
 | rng lo hi=>obtain ⟨_,_,_,e⟩:=x; exact ap e
 | frz b u=>obtain ⟨e,_⟩:=x; exact ap e
 | tbl ps=>exact ap (show h.get? a=iF _ from x)
 | met f y=>exact ap (show h.get? a=iF _ from x)
 | ext φ=>obtain ⟨_,⟨_,e⟩,_⟩:=x; exact ap e
theorem Paired.mapP {β:Type} {F G:α->β->Prop}:∀ {c:List α} {l:List β},lK F c l->(∀ a b,F a b->G a b)->lK G c l
 | _,_,.nil,_=>.nil
 | _,_,.cons r t,f=>.cons (f _ _ r) (Paired.mapP t f)
theorem ObjOk.stay (x:ObjOk P w H h a o) (k:∀ b u,(b=a\/H b=iF (.own a))->h.get? b=iF u->h'.get? b=iF u)
  (l:∀ b,H b=iF (.own a)->H' b=iF (.own a)) (ht:∀ b xs,H b=iF (.tup xs)->H' b=iF (.tup xs)):ObjOk P w H' h' a o:=by
 induction o with
 | lst xs=>obtain ⟨z,its,n,r,e⟩:=x; exact ⟨z,its,n,r,k _ _ (.inl rfl) e⟩
 | tup xs=>obtain ⟨⟨z,o2,i,d2⟩,its,r,g,e,c⟩:=x; exact ⟨⟨z,o2,k _ _ (.inl rfl) i,d2⟩,its,r,g,k _ _ (.inl rfl) e,c⟩
 | dK kvs=>obtain ⟨z,y,vs,r,g,es,ep,e,c⟩:=x; exact ⟨z,y,vs,r,g,es,ep,k _ _ (.inl rfl) e,c⟩
 | dT kvs=>obtain ⟨z,y,xs,r,g,es,ep,e,c⟩:=x;exact ⟨z,y,xs,Paired.mapP r λp q z=>⟨z.1,ht _ _ z.2.1,z.2.2⟩,g,es,ep,k _ _ (.inl rfl) e,c⟩
 | set S n=>obtain ⟨g,es,ep,t,e,c⟩:=x; exact ⟨g,es,ep,t,k _ _ (.inl rfl) e,c⟩
 | ins C dx fs=>obtain ⟨d,z,ne,e,mA,⟨od,es,ep,i,c⟩,r⟩:=x;exact ⟨l _ d,z,ne,k _ _ (.inl rfl) e,mA,⟨od,es,ep,k _ _ (.inr d) i,c⟩,r⟩
 | own y=>obtain ⟨g,e⟩:=x; exact ⟨g,k _ _ (.inl rfl) e⟩
 | xd fs=>obtain ⟨mA,⟨od,es,ep,e,c⟩,r⟩:=x; exact ⟨mA,⟨od,es,ep,k _ _ (.inl rfl) e,c⟩,r⟩
 | rng lo hi=>obtain ⟨t,u,v,e⟩:=x; exact ⟨t,u,v,k _ _ (.inl rfl) e⟩
 | frz g u j=>obtain ⟨e,q⟩:=x; exact ⟨k _ _ (.inl rfl) e,j q⟩
 | tbl ps=>have e:h.get? a=iF { cls:=.none,data:=.fields ps }:=x;show h'.get? a=iF { cls:=.none,data:=.fields ps };exact k a _ (.inl rfl) e
 | met f y=>have e:h.get? a=iF (fI (.ref f) (.ref y)):=x;show h'.get? a=iF (fI (.ref f) (.ref y));exact k a _ (.inl rfl) e
 | ext φ=>obtain ⟨p,⟨o,e⟩,st⟩:=x; exact ⟨st _ _ p λo q=>k _ _ (.inl rfl) q,⟨o,k _ _ (.inl rfl) e⟩,st⟩
theorem HOk.lt (x:HOk P w H h) (e:H a=iF o):a < h.objs.size:=(x a o e).lt
theorem HOk.fresh (x:HOk P w H h) (e:h.objs.size<=a):H a=none:=by
 cases q:H a with
 | none=>rfl
 | some u=>exact absurd (aD (x.lt q) e) (bM _)
theorem HOk.kept (x:HOk P w H h) (k:∀ b u,h.get? b=iF u->h'.get? b=iF u):HOk P w H h':=λa o e=>
 (x a o e).stay (λb u _ q=>k b u q) (λ_ q=>q) λ_ _ q=>q
theorem HOk.laid (x:HOk P w H h) (k:∀ b u,h.get? b=iF u->h'.get? b=iF u) (hp:h.objs.size<=a) (new:ObjOk P w (upd H a o) h' a o):HOk P w (upd H a o) h':=λb u e=>by
 have n:=x.fresh hp;by_cases d:b=a;·subst d; rw [qt] at e; cases e; exact new
 ·rw [qv d] at e;exact (x b u e).stay (λc v _ q=>k c v q) (λc q=>by rw [qv (qB q n)]; exact q) λc xs q=>by rw [qv (qB q n)]; exact q
end
def Rd (H:Hp) (a:Addr) (u:HO):Prop:=H a=iF u\/∃ o,H a=iF (.frz o u)
theorem Rd.ok {u:HO} (r:Rd H a u) (x:HOk P w H h):ObjOk P w H h a u:=by
 rcases r with r | ⟨o,r⟩
 ·exact x a u r
 ·obtain ⟨_,q⟩:=x a _ r;exact q
def Mut:Option HO->Prop
 | some (.lst _)=>True
 | some (.dK _)=>True
 | some (.dT _)=>True
 | some (.set _ _)=>True
 | some (.ins _ _ _)=>True
 | some (.ext _)=>True
 | _=>False
section
variable {x e:Addr} {o':HO}
theorem HOk.write (ok:HOk P w H h) (m:Mut (H x)) (i:e=x\/H e=iF (.own x)) (k:∀ b u,b≠e->h.get? b=iF u->h'.get? b=iF u) (o:∃ u,h'.get? e=iF u)
  (new:ObjOk P w (upd H x o') h' x o'):HOk P w (upd H x o') h':=λb u q=>by
 have n:∀ c y,H c=iF (.own y)->c≠x:=λc y r z=>by subst z; rw [r] at m; exact m
 have p:∀ c xs,H c=iF (.tup xs)->c≠x:=λc xs r z=>by subst z; rw [r] at m; exact m
 by_cases f:b=x;·subst f; rw [qt] at q; cases q; exact new
 ·rw [qv f] at q;by_cases a:b=e
  ·have g:H b=iF (.own x):=by
    rcases i with z | z;·exact absurd (a.trans z) f
    ·rw [a]; exact z
   rw [q] at g; cases g;obtain ⟨v,j⟩:=o;exact ⟨v,by rw [a]; exact j⟩
  ·refine (ok b u q).stay (λc v d r=>k c v ?_ r) (λc r=>by rw [qv (n c b r)]; exact r) λc xs r=>by rw [qv (p c xs r)]; exact r
   rcases d with rfl | d;·exact a
   ·rintro rfl;rcases i with z | z;·exact n c b d z
    ·rw [d] at z; cases z; exact f rfl
end
structure Un (fs ex:List Addr) (H H':Hp) (h h':Heap):Prop where
 keep:∀ b o,h.get? b=iF o->H b=iH->b∉fs->b∉ex->h'.get? b=iF o
 slot:∀ b o,h.get? b=iF o->H b=iH->b∈fs->b∉ex->∃ sl,h'.get? b=iF { o with slots:=sl }
 free:∀ b o,h.get? b=iF o->H b=iH->b∉ex->H' b=iH
 there:∀ b o,h.get? b=iF o->b∉ex->∃ o',h'.get? b=iF o'
 tups:∀ b xs,H b=iF (.tup xs)->H' b=iF (.tup xs)
 frzs:∀ b o u,H b=iF (.frz o u)->H' b=iF (.frz o u)
 tbls:∀ b ps,H b=iF (.tbl ps)->∃ more,H' b=iF (.tbl (ps++more))
section
variable {fs fs' ex ex':List Addr} {H1 H2:Hp} {h1 h2:Heap} {x e:Addr}
theorem Un.any (u:Un fs ex H H1 h h1) {o:Obj} (q:h.get? b=iF o) (n:H b=iH) (hx:b∉ex):∃ sl,h1.get? b=iF { o with slots:=sl }:=by
 by_cases d:b∈fs;·exact u.slot b o q n d hx
 ·exact ⟨o.slots,u.keep b o q n d hx⟩
theorem Un.kept (k:∀ b u,h.get? b=iF u->h'.get? b=iF u):Un fs ex H H h h':=
 ⟨λb o q _ _ _=>k b o q,λb o q _ _ _=>⟨o.slots,k b o q⟩,λ_ _ _ n _=>n,λb o q _=>⟨o,k b o q⟩,λ_ _ q=>q,λ_ _ _ q=>q,λ_ ps q=>⟨#[],by rw [q]; simp⟩⟩
theorem Un.refl:Un fs ex H H h h:=Un.kept λ_ _ q=>q
theorem Un.laid (k:∀ b u,h.get? b=iF u->h'.get? b=iF u) (hp:h.objs.size<=a) (c:H a=iH):Un fs ex H (upd H a o) h h' where
 keep:=λb u q _ _ _=>k b u q
 slot:=λb u q _ _ _=>⟨u.slots,k b u q⟩
 free:=λb u q n _=>by rw [qv (ay (aD (ap q) hp))]; exact n
 there:=λb u q _=>⟨u,k b u q⟩
 tups:=λb xs q=>by rw [qv (qB q c)]; exact q
 frzs:=λb u xs q=>by rw [qv (qB q c)]; exact q
 tbls:=λb ps q=>⟨#[],by rw [qv (qB q c),q]; simp⟩
theorem Un.write (m:Mut (H x)) (i:e=x\/H e=iF (.own x)) (k:∀ b u,b≠e->h.get? b=iF u->h'.get? b=iF u) (d:∃ u,h'.get? e=iF u):Un fs ex H (upd H x o) h h':=by
 have hx:∀ b,H b=iH->b≠x:=λb n z=>by subst z; rw [n] at m; exact m
 have f:∀ b,H b=iH->b≠e:=λb n z=>by
  subst z;rcases i with r | r;·exact hx b n r
  ·rw [n] at r; cases r
 have c:∀ b u,H b=iF u->¬Mut (iF u)->b≠x:=λb u q nm z=>by subst z; rw [q] at m; exact nm m
 refine ⟨λb u q n _ _=>k b u (f b n) q,λb u q n _ _=>⟨u.slots,k b u (f b n) q⟩,λb u q n _=>by rw [qv (hx b n)]; exact n,λb u q _=>?_,λb xs q=>by rw [qv (c b _ q λz=>z)]; exact q,λb u xs q=>by rw [qv (c b _ q λz=>z)]; exact q,λb ps q=>⟨#[],by rw [qv (c b _ q λz=>z),q]; simp⟩⟩;by_cases a:b=e;·subst a; exact d
 ·exact ⟨u,k b u a q⟩
end
noncomputable def trk (h:Heap) (H:Hp):List Addr:=(aK h.objs.size).filter λa=>(H a).isSome
noncomputable def qby (h:Heap) (H:Hp):Heap:=bi h (trk h H)
theorem Gb (h:Heap) (H:Hp):(qby h H).objs.size=h.objs.size:=PySem.W.hideAll_size _ _
theorem qbz {o:Obj} (e:h.get? b=iF o) (n:H b=iH):(qby h H).get? b=iF o:=
 c6 _ e λc=>by have q:(H b).isSome=true:=(cK.mp c).2;rw [n] at q; simp at q
theorem qdT {o:Obj} (e:(qby h H).get? b=iF o):h.get? b=iF o/\H b=none:=by
 have a:h.get? b=iF o:=dY (trk h H) e;refine ⟨a,?_⟩;cases q:H b with
 | none=>rfl
 | some x=>have c:b∈trk h H:=cK.mpr ⟨bg.mpr (ap a),by simp [q]⟩;have z:(qby h H).get? b=none:=cS (trk h H) c;rw [z] at e; cases e
abbrev Pns:=List (Addr×Obj)
noncomputable def qdU (g h:Heap) (L:Addr):Pns:=(aK h.objs.size).filterMap λa=>if a=L\/(g.get? a).isSome=iK then iH else (h.get? a).map λo=>(a,o)
noncomputable def rest (g h:Heap) (L d:Addr):Pns:=(qdU g h L).filter λp=>decide (p.1≠d)
structure Mod (K:Frag) (mg:Str->Option iI) (base:Heap):Prop where
 kin:K.In base
 glob:base.Ns mainGlobals mg
 blt:∃ mb,base.Ns builtinsNs mb/\∀ x:Str,x ≠ "__name__"->mb x=bootBuiltins x
 nolimit:base.NoLimit
structure Cx where
 prog:iN
 w:iO
 K:Frag
 mg:Str->Option iI
 base:Heap
 A:iQ
 N:List Str
 s₀:iL
 H₀:Hp
 env:Env
 outer:List Env
 stack:List Env
 ex:List Addr
 fn:Str->Bool
 calm:Bool
 pn:Pns
 xe:iI->iL->Prop
noncomputable def frs (l:List Env):List Addr:=l.filterMap (·.frame)
abbrev Cx.fs (X:Cx):List Addr:=frs X.outer
def Vis (sc:lh) (x:Str):Prop:=sc.names.lookup x=iF .local\/sc.names.lookup x=iF .cell\/sc.names.lookup x=iF .free
def Loc (sc:lh) (x:Str):Prop:=sc.names.lookup x=iF .local\/sc.names.lookup x=iF .cell
def Ug (env:Env) (h:Heap) (m:Str->Option iI) (x:Str) (u:iI):Prop:=
 (env.kindOf x=iF .local/\m x=iF u)\/((env.kindOf x=iF .cell\/env.kindOf x=iF .free)/\∃ c,env.cells.lookup x=iF c/\h.IsCell c (iF u))
structure Cx.Ok (X:Cx):Prop where
 mod:Mod X.K X.mg X.base
 kind:X.env.scope.kind=.function
 glob:X.env.globals=mainGlobals
 blt:X.env.builtins=builtinsNs
 above:X.s₀.heap.objs.size<=X.env.locals
 inj:∀ x y c,X.env.cells.lookup x=iF c->X.env.cells.lookup y=iF c->x=y
 has:∀ x,(X.env.kindOf x=iF .cell\/X.env.kindOf x=iF .free)->∃ c,X.env.cells.lookup x=iF c
 cab:∀ x c,X.fn x=iK->X.env.cells.lookup x=iF c->X.s₀.heap.objs.size<=c
 hd:X.calm=iK->X.A.handled=iH
 frames:X.A.frames=iF X.stack
 stk:X.stack=X.outer\/(X.stack=X.env::X.outer/\X.env.frame=iF X.env.locals)
 exf:∀ b∈X.ex,b≠X.env.locals/\∀ x c,X.env.cells.lookup x=iF c->c≠b
 bs:∀ b o,X.base.get? b=iF o->X.s₀.heap.get? b=iF o/\X.H₀ b=iH
 bsz:X.base.objs.size<=X.s₀.heap.objs.size
 noex:∀ b o,X.base.get? b=iF o->b∉X.ex
 exfs:∀ b∈X.ex,b∉X.fs
 funs:X.s₀.heap.FunFrames X.base X.outer
 frf:∀ b∈X.fs,X.H₀ b=iH
structure Inv (X:Cx) (pins:Pns) (σ:List (Option V)) (H:Hp) (s:iL):Prop where
 ok:X.Ok
 os:s.os=X.s₀.os
 bare:lw s.gens
 base:Un X.fs X.ex X.H₀ H X.s₀.heap s.heap
 loc:∃ m,s.heap.Ns X.env.locals m/\∀ (i:Nat) (x:Str) (v:V),X.N[i]?=iF x->σ[i]?=iF (iF v)->Vis X.env.scope x->∃ u,RelV v u/\Ug X.env s.heap m x u
 cell:∀ x c,X.env.cells.lookup x=iF c->∃ v,s.heap.IsCell c v
 free:H X.env.locals=iH
 freeC:∀ x c,X.env.cells.lookup x=iF c->H c=iH
 pin:∀ p∈X.pn++pins,s.heap.get? p.1=iF p.2/\H p.1=iH/\p.1≠X.env.locals/\p.1∉X.fs/\∀ v,p.2.data≠.cell v
 hok:HOk X.prog X.w H s.heap
 len:σ.length=X.N.length
variable {x:Str} {X:Cx} {pins:Pns} {s s':iL} {t' i:Nat} {ch:List Addr} {it:Addr} {v:V}
section
variable {σ:List (Option V)}
theorem Cx.Ok.nofr (ok:X.Ok) {o:Obj} (e:X.base.get? b=iF o):b∉X.fs:=λd=>by have:=(ok.funs.mem d).1;rw [e] at this; cases this
theorem Inv.bs (I:Inv X pins σ H s):∀ b o,X.base.get? b=iF o->s.heap.get? b=iF o/\H b=none:=λb o e=>
 ⟨I.base.keep b o (I.ok.bs b o e).1 (I.ok.bs b o e).2 (I.ok.nofr e) (I.ok.noex b o e),I.base.free b o (I.ok.bs b o e).1 (I.ok.bs b o e).2 (I.ok.noex b o e)⟩
theorem Inv.bk (I:Inv X pins σ H s):∀ b o,X.base.get? b=iF o->s.heap.get? b=iF o:=λb o e=>(I.bs b o e).1
theorem Inv.mod (I:Inv X pins σ H s):Mod X.K X.mg X.base:=I.ok.mod
theorem Inv.kIn (I:Inv X pins σ H s):X.K.In s.heap:=I.ok.mod.kin.keeps I.bk
theorem Inv.nolimit (I:Inv X pins σ H s):s.heap.NoLimit:=I.ok.mod.nolimit.keeps I.bk
theorem Inv.fr (I:Inv X pins σ H s):∃ m,Fr X.base X.env.locals s.heap m:=
 let ⟨m,n,_⟩:=I.loc
 ⟨m,n,I.bk,bA I.ok.bsz I.ok.above⟩
theorem Inv.lt (I:Inv X pins σ H s):X.env.locals < s.heap.objs.size:=let ⟨_,n,_⟩:=I.loc; n.lt
theorem Inv.sz (I:Inv X pins σ H s):X.s₀.heap.objs.size<=s.heap.objs.size:=bA I.ok.above (cF I.lt)
theorem Inv.nofs (I:Inv X pins σ H s) (h:s.heap.objs.size<=a):a∉X.fs:=λd=>by obtain ⟨_,o,l,_⟩:=I.ok.funs.mem d;exact absurd (aD (ap l) (bA I.sz h)) (bM _)
theorem Inv.cne (I:Inv X pins σ H s):∀ x c,X.env.cells.lookup x=iF c->c≠X.env.locals:=λx c e z=>by obtain ⟨v,o,l,hd⟩:=I.cell x c e;obtain ⟨m,⟨o',es,ep,h,a,_⟩,_⟩:=I.loc;rw [z,h] at l; cases l; rw [a] at hd; cases hd
theorem Inv.funs (I:Inv X pins σ H s):s.heap.FunFrames X.base X.outer:=by
 have all:∀ (l:List Env),(∀ b∈frs l,b∈X.fs)->X.s₀.heap.FunFrames X.base l->s.heap.FunFrames X.base l:=by
  intro l
  induction l with
  | nil=>intro _ _; trivial
  | cons env r j=>intro hs hl;obtain ⟨k,⟨L,o,h,n,f,hd⟩,c⟩:=hl;have a:L∈X.fs:=hs L (by unfold frs; rw [cB,h]; exact aq);obtain ⟨sl,e⟩:=I.base.slot L o f (I.ok.frf L a) a λz=>I.ok.exfs L z a;exact ⟨k,⟨L,_,h,n,e,hd⟩,j (λb d=>hs b (by unfold frs; rw [cB,h]; exact af _ d)) c⟩
 exact all X.outer (λ_ d=>d) I.ok.funs
theorem Inv.stack (I:Inv X pins σ H s):s.heap.FunFrames X.base X.stack:=by
 rcases I.ok.stk with e | ⟨e,hf⟩
 ·rw [e]; exact I.funs
 ·rw [e];obtain ⟨m,n,_⟩:=I.loc;refine .cons (by rw [I.ok.kind]; decide) hf n ?_ I.funs;exact Heap.get?_none_of_le (bA I.ok.bsz I.ok.above)
theorem Inv.stkSub (I:Inv X pins σ H s):∀ b∈frs X.stack,b∈X.env.locals::X.fs:=λb d=>by
 rcases I.ok.stk with e | ⟨e,hf⟩
 ·rw [e] at d; exact af _ d
 ·rw [e] at d;unfold frs at d;rw [cB,hf] at d;exact d
theorem Inv.stkFree (I:Inv X pins σ H s):∀ b∈frs X.stack,H b=none:=λb d=>by
 rcases ae.mp (I.stkSub b d) with e | d;·rw [e]; exact I.free
 ·obtain ⟨_,o,l,_⟩:=I.ok.funs.mem d;exact I.base.free b o l (I.ok.frf b d) λz=>I.ok.exfs b z d
theorem Inv.step {g':Array lE} {t':Nat} {d':Drawn} {ch:List Addr} (I:Inv X pins σ H s)
  (a:∀ b∈ch,(b∈X.ex\/X.s₀.heap.objs.size<=b)/\b≠X.env.locals/\(∀ x c,X.env.cells.lookup x=iF c->c≠b)/\∀ p∈X.pn++pins,p.1≠b)
  (keep:∀ b o,b≠X.env.locals->b∉X.fs->b∉ch->s.heap.get? b=iF o->H b=iH->h'.get? b=iF o)
  (slot:∀ b o,b≠X.env.locals->b∈X.fs->b∉ch->s.heap.get? b=iF o->H b=iH->∃ sl,h'.get? b=iF { o with slots:=sl }) (free:∀ b o,b∉ch->s.heap.get? b=iF o->H b=iH->H' b=iH)
  (there:∀ b o,b∉ch->s.heap.get? b=iF o->∃ o',h'.get? b=iF o')
  (tups:∀ b xs,H b=iF (.tup xs)->H' b=iF (.tup xs)) (frzs:∀ b o u,H b=iF (.frz o u)->H' b=iF (.frz o u)) (tbls:∀ b ps,H b=iF (.tbl ps)->∃ more,H' b=iF (.tbl (ps++more)))
  (ns:∀ m,s.heap.Ns X.env.locals m->h'.Ns X.env.locals m) (hok:HOk X.prog X.w H' h') (hg:lw g') :
  Inv X pins σ H' { s with heap:=h',gens:=g',drawn:=d',toks:=t' }:=by
 have L:∀ b o,X.s₀.heap.get? b=iF o->b≠X.env.locals:=λb o e=>ay (aD (ap e) I.ok.above);have C:∀ b o,X.s₀.heap.get? b=iF o->b∉X.ex->b∉ch:=λb o e hx f=>by
  rcases (a b f).1 with z | z;·exact hx z
  ·exact absurd (aD (ap e) z) (bM _)
 have K:∀ x c,X.env.cells.lookup x=iF c->∀ v,s.heap.IsCell c v->h'.IsCell c v:=λx c e v ⟨o,g,hd⟩=>by
  have h:c∉ch:=λz=>(a c z).2.2.1 x c e rfl;by_cases A:c∈X.fs;·obtain ⟨sl,q⟩:=slot c o (I.cne x c e) A h g (I.freeC x c e);exact ⟨_,q,hd⟩
  ·exact ⟨o,keep c o (I.cne x c e) A h g (I.freeC x c e),hd⟩
 refine ⟨I.ok,I.os,hg,⟨λb o e n f hx=>?_,λb o e n f hx=>?_,λb o e n hx=>?_,λb o e hx=>?_,λb xs e=>tups b xs (I.base.tups b xs e),λb o xs e=>frzs b o xs (I.base.frzs b o xs e),λb ps e=>?_⟩,?_,λx c e=>?_,?_,λx c e=>?_,λp hp=>?_,hok,I.len⟩;·exact keep b o (L b o e) f (C b o e hx) (I.base.keep b o e n f hx) (I.base.free b o e n hx)
 ·obtain ⟨sl,e1⟩:=I.base.slot b o e n f hx;obtain ⟨t,j⟩:=slot b _ (L b o e) f (C b o e hx) e1 (I.base.free b o e n hx);exact ⟨t,j⟩
 ·obtain ⟨o',e1⟩:=I.base.there b o e hx;exact free b o' (C b o e hx) e1 (I.base.free b o e n hx)
 ·obtain ⟨o',e1⟩:=I.base.there b o e hx;exact there b o' (C b o e hx) e1
 ·obtain ⟨m1,e1⟩:=I.base.tbls b ps e;obtain ⟨B,j⟩:=tbls b _ e1;exact ⟨m1++B,by rw [j,Array.append_assoc]⟩
 ·obtain ⟨m,D,hl⟩:=I.loc;refine ⟨m,ns m D,λi x v e1 j E=>?_⟩;obtain ⟨u,r,l⟩:=hl i x v e1 j E;refine ⟨u,r,?_⟩;rcases l with l | ⟨k,c,e,z⟩
  ·exact .inl l
  ·exact .inr ⟨k,c,e,K x c e _ z⟩
 ·obtain ⟨v,z⟩:=I.cell x c e;exact ⟨v,K x c e v z⟩
 ·obtain ⟨m,⟨o,_,_,g,_⟩,_⟩:=I.loc;exact free _ o (λz=>(a _ z).2.1 rfl) g I.free
 ·obtain ⟨v,o,g,hd⟩:=I.cell x c e;exact free c o (λz=>(a c z).2.2.1 x c e rfl) g (I.freeC x c e)
 ·obtain ⟨e,n,ne,y,d⟩:=I.pin p hp;have h:p.1∉ch:=λz=>(a p.1 z).2.2.2 p hp rfl;exact ⟨keep p.1 p.2 ne y h e n,free p.1 p.2 h e n,ne,y,d⟩
theorem Inv.un (I:Inv X pins σ H s) (u:Un X.fs [] H H' s.heap h') (hok:HOk X.prog X.w H' h'):Inv X pins σ H' { s with heap:=h',toks:=t' }:=by obtain ⟨m,⟨o,es,ep,l,r⟩,_⟩:=id I.loc;obtain ⟨sl,L⟩:=u.any l I.free (by simp);exact I.step (g':=s.gens) (d':=s.drawn) (ch:=[]) (λ_ z=>nomatch z) (λb o _ d _ e n=>u.keep b o e n d (by simp)) (λb o _ d _ e n=>u.slot b o e n d (by simp)) (λb o _ e n=>u.free b o e n (by simp)) (λb o _ e=>u.there b o e (by simp)) u.tups u.frzs u.tbls (λf c=>by obtain ⟨o',es',a,h,r'⟩:=c;rw [l] at h; cases h;exact ⟨_,es',a,L,r'⟩) hok I.bare
theorem Inv.call {g':Array lE} {t':Nat} {d':Drawn} (I:Inv X pins σ H s) (u:Un (frs X.stack) ch H H' s.heap h') (hok:HOk X.prog X.w H' h') (hg:lw g')
  (a:∀ b∈ch,(b∈X.ex\/X.s₀.heap.objs.size<=b)/\b≠X.env.locals/\(∀ x c,X.env.cells.lookup x=iF c->c≠b)/\∀ p∈X.pn++pins,p.1≠b) :
  Inv X pins σ H' { s with heap:=h',gens:=g',drawn:=d',toks:=t' }:=by
 obtain ⟨m,⟨o,es,ep,l,r⟩,_⟩:=id I.loc;obtain ⟨sl,L⟩:=u.any l I.free λz=>(a _ z).2.1 rfl;exact I.step (ch:=ch) a (λb o L i d e n=>u.keep b o e n (λz=>(ae.mp (I.stkSub b z)).elim L i) d) (λb o _ _ d e n=>u.any e n d) (λb o d e n=>u.free b o e n d) (λb o d e=>u.there b o e d) u.tups u.frzs u.tbls (λj g=>by obtain ⟨o',es',f,h,r'⟩:=g;rw [l] at h; cases h;exact ⟨_,es',f,L,r'⟩) hok hg
theorem Inv.turned {t':Nat} (I:Inv X pins σ H s) (k:∀ b o,b≠it->s.heap.get? b=iF o->h'.get? b=iF o) (h:H it=iH) (a:it≠X.env.locals)
  (h1:it∈X.ex\/X.s₀.heap.objs.size<=it) (h2:∀ x c,X.env.cells.lookup x=iF c->c≠it) (h3:∀ p∈X.pn++pins,p.1≠it):Inv X pins σ H { s with heap:=h',toks:=t' }:=by
 have t:∀ b u,H b=iF u->b≠it:=λb u e z=>by rw [z,h] at e; cases e
 refine I.step (g':=s.gens) (d':=s.drawn) (ch:=[it]) (λb g=>?_) (λb o _ _ d e _=>k b o (λz=>d (by simp [z])) e) (λb o _ _ d e _=>⟨o.slots,k b o (λz=>d (by simp [z])) e⟩) (λ_ _ _ _ n=>n)
  (λb o d e=>⟨o,k b o (λz=>d (by simp [z])) e⟩) (λ_ _ e=>e) (λ_ _ _ e=>e) (λb ps e=>⟨#[],by rw [e]; simp⟩) (λm f=>?_) (λb u e=>?_) I.bare
 ·have e:b=it:=by simpa using g
  subst e;exact ⟨h1,a,h2,h3⟩
 ·obtain ⟨o,es,ep,l,r⟩:=f;exact ⟨o,es,ep,k _ o (bf a) l,r⟩
 ·refine (I.hok b u e).stay (λc v d q=>k c v ?_ q) (λ_ q=>q) λ_ _ q=>q;rcases d with z | z;·rw [z]; exact t b u e
  ·exact t c _ z
theorem Inv.tok (I:Inv X pins σ H s) (t:Nat):Inv X pins σ H { s with toks:=t }:=I.un (h':=s.heap) (t':=t) Un.refl I.hok
theorem Inv.kept (I:Inv X pins σ H s) (k:∀ b u,s.heap.get? b=iF u->h'.get? b=iF u):Inv X pins σ H { s with heap:=h',toks:=t' }:=I.un (Un.kept k) (I.hok.kept k)
theorem Inv.laid {t':Nat} (I:Inv X pins σ H s) (k:∀ b u,s.heap.get? b=iF u->h'.get? b=iF u) (hp:s.heap.objs.size<=a) (new:ObjOk X.prog X.w (upd H a o) h' a o):Inv X pins σ (upd H a o) { s with heap:=h',toks:=t' }:=I.un (Un.laid k hp (I.hok.fresh hp)) (I.hok.laid k hp new)
theorem Inv.write {x e:Addr} {o:HO} {t':Nat} (I:Inv X pins σ H s) (m:Mut (H x)) (i:e=x\/H e=iF (.own x)) (k:∀ b u,b≠e->s.heap.get? b=iF u->h'.get? b=iF u) (h:∃ u,h'.get? e=iF u)
  (new:ObjOk X.prog X.w (upd H x o) h' x o):Inv X pins σ (upd H x o) { s with heap:=h',toks:=t' }:=I.un (Un.write m i k h) (I.hok.write m i k h new)
theorem Inv.weak {σ':List (Option V)} (I:Inv X pins σ H s) (hl:σ'.length=σ.length) (w:∀ (i:Nat) v,σ'[i]?=iF (iF v)->σ[i]?=iF (iF v)):Inv X pins σ' H s:=
 ⟨I.ok,I.os,I.bare,I.base,let ⟨m,n,h⟩:=I.loc; ⟨m,n,λi x v e1 e E=>h i x v e1 (w i v e) E⟩,I.cell,I.free,I.freeC,I.pin,I.hok,hl.trans I.len⟩
theorem Inv.pins_of {a:Pns} (I:Inv X pins σ H s) (h:∀ p∈a,s.heap.get? p.1=iF p.2/\H p.1=iH/\p.1≠X.env.locals/\p.1∉X.fs/\∀ v,p.2.data≠.cell v):Inv X a σ H s:=
 ⟨I.ok,I.os,I.bare,I.base,I.loc,I.cell,I.free,I.freeC,λp hp=>(aH.mp hp).elim (λz=>I.pin p (cq _ z)) (h p),I.hok,I.len⟩
theorem YA {N:List Str} (h:N.Nodup) {j:Nat} (a:N[i]?=iF x) (b:N[j]?=iF x):i=j:=by obtain ⟨h1,e1⟩:=aC.mp a;obtain ⟨h2,e⟩:=aC.mp b;exact (fh h).mp (e1.trans e.symm)
theorem VM {M:Model} {A:iQ} {E:iI->iL->Prop} {Q:Unit->iL->Prop} (I:Inv X pins σ H s) (hN:X.N.Nodup) (hi:X.N[i]?=iF x) (hx:Loc X.env.scope x) (r:RelV v u)
  (h:∀ s',Inv X pins (σ.set i (iF v)) H s'->(∃ a,bj a s.heap s'.heap/\(a=X.env.locals\/X.env.cells.lookup x=iF a))->Q () s') (hf:X.fn x=iK\/X.env.scope.names.lookup x=iF .local:=by first | exact .inl rfl | exact .inr rfl | assumption):wpAny M A (storeName X.env x u) Q E s:=by
 obtain ⟨m,Z,hl⟩:=id I.loc;have O:(X.env.scope.kind == .class||(X.env.scope.kind == .module&&X.env.locals != X.env.globals))=false:=by rw [I.ok.kind]; rfl
 have C:i < σ.length:=by rw [I.len]; exact (aC.mp hi).1
 have cne:=I.cne;have t:∀ {a:Addr} {h':Heap},(∃ o,s.heap.get? a=iF o/\H a=iH)->bj a s.heap h'->HOk X.prog X.w H h':=λ{a h'} ha hs b ob e=>by
  obtain ⟨_,_,g⟩:=ha;refine (I.hok b ob e).stay (λc w' f q=>(hs.2 c ?_).trans q) (λ_ q=>q) λ_ _ q=>q;rintro rfl;rcases f with rfl | f;·rw [g] at e; cases e
  ·rw [g] at f; cases f
 rcases hx with B | B
 ·refine wpAny_storeName_local B Z (λh' Y hs=>?_) O;obtain ⟨oL,_,_,W,_⟩:=id Z;refine h _ ⟨I.ok,I.os,I.bare,⟨λb o e n J hx=>?_,λb o e n J hx=>?_,I.base.free,λb o e hx=>?_,I.base.tups,I.base.frzs,I.base.tbls⟩,⟨_,Y,λj y T e1 l F=>?_⟩,λy c e=>?_,I.free,I.freeC,λp hp=>?_,t ⟨oL,W,I.free⟩ hs,by simpa using I.len⟩ ⟨_,hs,.inl rfl⟩;·exact (hs.2 b (ay (aD (ap e) I.ok.above))).trans (I.base.keep b o e n J hx)
  ·obtain ⟨sl,e1⟩:=I.base.slot b o e n J hx;exact ⟨sl,(hs.2 b (ay (aD (ap e) I.ok.above))).trans e1⟩
  ·obtain ⟨o',e1⟩:=I.base.there b o e hx;exact ⟨o',(hs.2 b (ay (aD (ap e) I.ok.above))).trans e1⟩
  ·by_cases D:j=i;·subst D;rw [hi] at e1; cases e1;rw [aF C] at l;cases l;exact ⟨u,r,.inl ⟨B,by simp⟩⟩
   ·rw [am (bf D)] at l;obtain ⟨U,r',q⟩:=hl j y T e1 l F;refine ⟨U,r',?_⟩;rcases q with ⟨k,e⟩ | ⟨k,c,e,z⟩
    ·refine .inl ⟨k,?_⟩;have:y≠x:=λe=>D (YA hN e1 (e ▸ hi));simp [this,e]
    ·exact .inr ⟨k,c,e,z.sameBut hs (cne y c e)⟩
  ·obtain ⟨w',z⟩:=I.cell y c e;exact ⟨w',z.sameBut hs (cne y c e)⟩
  ·obtain ⟨e,n,ne,V,d⟩:=I.pin p hp;exact ⟨(hs.2 p.1 ne).trans e,n,ne,V,d⟩
 ·have G:X.fn x=true:=by
   rcases hf with z | z;·exact z
   ·rw [z] at B; cases B
  obtain ⟨c,f⟩:=I.ok.has x (.inl B);obtain ⟨w',z⟩:=I.cell x c f;refine wpAny_storeName_cell I.ok.kind B f z (λh' R hs=>?_);obtain ⟨oc,L,K⟩:=id z;refine h { s with heap:=h' } ⟨I.ok,I.os,I.bare,⟨λb o e n J hx=>?_,λb o e n J hx=>?_,I.base.free,λb o e hx=>?_,I.base.tups,I.base.frzs,I.base.tbls⟩,⟨m,Z.sameBut hs (bf (cne x c f)),λj y T e1 l F=>?_⟩,λy S e=>?_,I.free,I.freeC,λp hp=>?_,t ⟨oc,L,I.freeC x c f⟩ hs,by simpa using I.len⟩ ⟨c,hs,.inr f⟩;·exact (hs.2 b (ay (aD (ap e) (I.ok.cab x c G f)))).trans (I.base.keep b o e n J hx)
  ·obtain ⟨sl,e1⟩:=I.base.slot b o e n J hx;exact ⟨sl,(hs.2 b (ay (aD (ap e) (I.ok.cab x c G f)))).trans e1⟩
  ·obtain ⟨o',e1⟩:=I.base.there b o e hx;exact ⟨o',(hs.2 b (ay (aD (ap e) (I.ok.cab x c G f)))).trans e1⟩
  ·by_cases D:j=i;·subst D;rw [hi] at e1; cases e1;rw [aF C] at l;cases l;exact ⟨u,r,.inr ⟨.inl B,c,f,R⟩⟩
   ·rw [am (bf D)] at l;obtain ⟨U,r',q⟩:=hl j y T e1 l F;refine ⟨U,r',?_⟩;rcases q with q | ⟨k,S,e,z'⟩
    ·exact .inl q
    ·refine .inr ⟨k,S,e,z'.sameBut hs ?_⟩;rintro rfl;exact D (YA hN e1 (I.ok.inj _ _ _ e f ▸ hi))
  ·by_cases P:S=c;·subst P; exact ⟨_,R⟩
   ·obtain ⟨w2,z2⟩:=I.cell y S e;exact ⟨w2,z2.sameBut hs P⟩
  ·obtain ⟨e,n,ne,V,d⟩:=I.pin p hp;refine ⟨(hs.2 p.1 ?_).trans e,n,ne,V,d⟩;intro q;rw [q,L] at e;have q':oc=p.2:=aN.inj e;exact d w' (by rw [<-q']; exact K)
theorem Kg {M:Model} {A:iQ} {E:iI->iL->Prop} {Q:Unit->iL->Prop} (I:Inv X pins σ H s) (a:X.N.Nodup) (hi:X.N[i]?=iF x) (hx:Loc X.env.scope x) (r:RelV v u)
  (h:∀ s',Inv X pins (σ.set i (iF v)) H s'->Q () s') (f:X.fn x=iK\/X.env.scope.names.lookup x=iF .local:=by first | exact .inl rfl | exact .inr rfl | assumption):wpAny M A (storeName X.env x u) Q E s:=
 VM I a hi hx r (λs' b _=>h s' b) f
theorem Inv.call' (I:Inv X pins σ H s) (l:s'.os=s.os) (u:Un (frs X.stack) ch H H' s.heap s'.heap) (hok:HOk X.prog X.w H' s'.heap) (hg:lw s'.gens)
  (a:∀ b∈ch,(b∈X.ex\/X.s₀.heap.objs.size<=b)/\b≠X.env.locals/\(∀ x c,X.env.cells.lookup x=iF c->c≠b)/\∀ p∈X.pn++pins,p.1≠b):Inv X pins σ H' s':=by
 obtain ⟨h',g',d',t',o'⟩:=s';have e:o'=s.os:=l;subst e;exact I.call (g':=g') (t':=t') (d':=d') u hok hg a
end
abbrev XK:=iI->Option Addr->Hp->Prop
abbrev St:=List (Option V)
abbrev VK:=V->Hp->Prop
abbrev TE:=St->Hp->VK->Prop
abbrev TT:=St->Hp->(Bool->Hp->Prop)->Prop
abbrev TA:=St->Hp->(List V->Hp->Prop)->Prop
structure Ends where
 nx:St->Hp->Prop
 rt:VK
 bk:St->Hp->Prop:=λ_ _=>False
 ct:St->Hp->Prop:=λ_ _=>False
abbrev TS:=Ends->St->Hp->Prop
def EP (X:Cx) (pins:Pns) (σ:St) (Q:VK) (u:iI) (s':iL):Prop:=∃ v H',Inv X pins σ H' s'/\RelV v u/\Q v H'
def TP (X:Cx) (pins:Pns) (σ:St) (Q:Bool->Hp->Prop) (b:Bool) (s':iL):Prop:=∃ H',Inv X pins σ H' s'/\Q b H'
def AP (X:Cx) (pins:Pns) (σ:St) (Q:List V->Hp->Prop) (us:List iI) (s':iL):Prop:=∃ vs H',Inv X pins σ H' s'/\Vals vs us/\Q vs H'
def SP (X:Cx) (pins:Pns) (D:Ends) (f:Flow) (s':iL):Prop:=
 match f with
 | .next=>∃ σ' H',Inv X pins σ' H' s'/\D.nx σ' H'
 | .brk=>∃ σ' H',Inv X pins σ' H' s'/\D.bk σ' H'
 | .cont=>∃ σ' H',Inv X pins σ' H' s'/\D.ct σ' H'
 | .ret u=>∃ v σ' H',Inv X pins σ' H' s'/\RelV v u/\D.rt v H'
structure PE (X:Cx) (e:Expr) (t:TE):Prop where
 run:∀ (pins:Pns) (s:iL) (σ:St) (H:Hp) (Q:VK),Inv X pins σ H s->t σ H Q->wpAny (model X.prog X.w) X.A (eval e X.env) (EP X pins σ Q) X.xe s
instance {X:Cx} {e:Expr} {t:TE}:CoeFun (PE X e t) (λ_=>∀ (pins:Pns) (s:iL) (σ:St) (H:Hp) (Q:VK),Inv X pins σ H s->t σ H Q->wpAny (model X.prog X.w) X.A (eval e X.env) (EP X pins σ Q) X.xe s):=⟨λh=>h.run⟩
structure PT (X:Cx) (e:Expr) (t:TT):Prop where
 run:∀ (pins:Pns) (s:iL) (σ:St) (H:Hp) (Q:Bool->Hp->Prop),Inv X pins σ H s->t σ H Q->wpAny (model X.prog X.w) X.A (isTrue e X.env (eval e X.env)) (TP X pins σ Q) X.xe s
instance {X:Cx} {e:Expr} {t:TT}:CoeFun (PT X e t) (λ_=>∀ (pins:Pns) (s:iL) (σ:St) (H:Hp) (Q:Bool->Hp->Prop),Inv X pins σ H s->t σ H Q->wpAny (model X.prog X.w) X.A (isTrue e X.env (eval e X.env)) (TP X pins σ Q) X.xe s):=⟨λh=>h.run⟩
structure PW (X:Cx) (e:Expr) (t:TT):Prop where
 run:∀ (whole:Sem iI) (pins:Pns) (s:iL) (σ:St) (H:Hp) (Q:Bool->Hp->Prop),Inv X pins σ H s->t σ H Q->wpAny (model X.prog X.w) X.A (isTrue e X.env whole) (TP X pins σ Q) X.xe s
instance {X:Cx} {e:Expr} {t:TT}:CoeFun (PW X e t) (λ_=>∀ (whole:Sem iI) (pins:Pns) (s:iL) (σ:St) (H:Hp) (Q:Bool->Hp->Prop),Inv X pins σ H s->t σ H Q->wpAny (model X.prog X.w) X.A (isTrue e X.env whole) (TP X pins σ Q) X.xe s):=⟨λh=>h.run⟩
variable {e:Expr}
theorem PW.pt {t:TT} (h:PW X e t):PT X e t:=⟨h.run _⟩
structure PA (X:Cx) (es:List Expr) (t:TA):Prop where
 run:∀ (pos:Pos) (pins:Pns) (s:iL) (σ:St) (H:Hp) (Q:List V->Hp->Prop),Inv X pins σ H s->t σ H Q->wpAny (model X.prog X.w) X.A (spliced (backTo pos (starEach es X.env))) (AP X pins σ Q) X.xe s
instance {X:Cx} {es:List Expr} {t:TA}:CoeFun (PA X es t) (λ_=>∀ (pos:Pos) (pins:Pns) (s:iL) (σ:St) (H:Hp) (Q:List V->Hp->Prop),Inv X pins σ H s->t σ H Q->wpAny (model X.prog X.w) X.A (spliced (backTo pos (starEach es X.env))) (AP X pins σ Q) X.xe s):=⟨λh=>h.run⟩
structure PS (X:Cx) (st:Stmt) (t:TS):Prop where
 run:∀ (pins:Pns) (s:iL) (σ:St) (H:Hp) (D:Ends),Inv X pins σ H s->t D σ H->wpAny (model X.prog X.w) X.A (exec st X.env) (SP X pins D) X.xe s
instance {X:Cx} {st:Stmt} {t:TS}:CoeFun (PS X st t) (λ_=>∀ (pins:Pns) (s:iL) (σ:St) (H:Hp) (D:Ends),Inv X pins σ H s->t D σ H->wpAny (model X.prog X.w) X.A (exec st X.env) (SP X pins D) X.xe s):=⟨λh=>h.run⟩
structure PSs (X:Cx) (st:List Stmt) (t:TS):Prop where
 run:∀ (pins:Pns) (s:iL) (σ:St) (H:Hp) (D:Ends),Inv X pins σ H s->t D σ H->wpAny (model X.prog X.w) X.A (execs st X.env) (SP X pins D) X.xe s
instance {X:Cx} {st:List Stmt} {t:TS}:CoeFun (PSs X st t) (λ_=>∀ (pins:Pns) (s:iL) (σ:St) (H:Hp) (D:Ends),Inv X pins σ H s->t D σ H->wpAny (model X.prog X.w) X.A (execs st X.env) (SP X pins D) X.xe s):=⟨λh=>h.run⟩
variable {A:iQ} {E:iI->iL->Prop}
theorem thn {t:Sem α} {Q b:α->iL->Prop} {M:Model} (h:wpAny M A t Q E s) (c:∀ a s,Q a s->b a s):wpAny M A t b E s:=j4 h c λ_ _ x=>x
variable {σ:St} {pos:Pos} {Q:iI->iL->Prop} {ta:TE} {c:Expr}
section
def qjI (i:Nat):TE:=λσ H Q=>∃ v,σ[i]?=iF (iF v)/\Q v H
def tC (v:V):TE:=λ_ H Q=>Q v H
abbrev Dbg (x:Str):Prop:=(x == ("__debug__":Str))=iJ
abbrev Cdk (x:Str):Prop:=(x == ("__classdict__":Str))=iJ
theorem ya (j:X.N[i]?=iF x) (f:Vis X.env.scope x) (hd:Dbg x:=by decide) (d:Cdk x:=by decide):PE X (.Name x pos) (qjI i):=by
 refine ⟨?_⟩;intro pins s σ H Q I h;obtain ⟨v,e,h⟩:=h;obtain ⟨m,n,hl⟩:=I.loc;obtain ⟨u,r,l⟩:=hl i x v j e f;have fin:EP X pins σ Q u s:=⟨v,H,I,r,h⟩
 rcases l with ⟨k,g⟩ | ⟨k,c,b,a⟩
 ·exact wpAny_Name (wpAny_loadName_local I.ok.kind k n g fin) hd
 ·rcases k with k | k;·exact wpAny_Name (wpAny_loadName_cell I.ok.kind k b a fin) hd
  ·exact wpAny_Name (wpAny_loadName_free I.ok.kind k b a fin d) hd
theorem qf1 {i j pos}:PE X (.Constant (.int i) j pos) (tC (.int i)):=⟨λ_ _ _ H _ I h=>wpAny_Constant_int ⟨.int i,H,I.tok _,⟨_,rfl⟩,h⟩⟩
theorem qdV {b j pos}:PE X (.Constant (.bool b) j pos) (tC (.bl b)):=⟨λ_ _ _ H _ I h=>Constant_bool ⟨.bl b,H,I,rfl,h⟩⟩
theorem qf2 {j pos}:PE X (.Constant .none j pos) (tC .non):=⟨λ_ _ _ H _ I h=>Constant_none ⟨.non,H,I,rfl,h⟩⟩
theorem qf3 {x j pos}:PE X (.Constant (.str x) j pos) (tC (.str x)):=⟨λ_ _ _ H _ I h=>Calls.Constant_str ⟨.str x,H,I.tok _,⟨_,rfl⟩,h⟩⟩
def Gl (X:Cx) (x:Str):Prop:=X.env.kindOf x=iF .globalImplicit
theorem zI {E:iI->iL->Prop} {pos:Pos} (I:Inv X pins σ H s) (hg:Gl X x) (c:X.mg x=iF u) (h:Q u s)
  (hd:Dbg x:=by decide):wpAny (model X.prog X.w) X.A (eval (.Name x pos) X.env) Q E s:=
 Calls.Name_function_global I.ok.kind hg (Calls.loadGlobal_global (by rw [I.ok.glob]; exact I.mod.glob.keeps I.bk) c h) hd
theorem xQ {E:iI->iL->Prop} {pos:Pos} (I:Inv X pins σ H s) (hg:Gl X x) (m:X.mg x=iH) (c:bootBuiltins x=iF u) (h:Q u s)
  (n:x ≠ "__name__":=by decide) (hd:Dbg x:=by decide):wpAny (model X.prog X.w) X.A (eval (.Name x pos) X.env) Q E s:=by
 obtain ⟨mb,h1,h2⟩:=I.mod.blt;exact Calls.Name_function_global I.ok.kind hg (Calls.loadGlobal_builtin (by rw [I.ok.glob]; exact I.mod.glob.keeps I.bk) m (by rw [I.ok.blt]; exact h1.keeps I.bk) ((h2 x n).trans c) h) hd
theorem Gc (hg:Gl X x) (c:X.mg x=iF u) (r:RelV v u) (hd:Dbg x:=by decide):PE X (.Name x pos) (tC v):=⟨λ_ _ _ H _ I h=>zI I hg c ⟨v,H,I,r,h⟩ hd⟩
theorem Ge (hg:Gl X x) (m:X.mg x=iH) (c:bootBuiltins x=iF u) (r:RelV v u) (n:x ≠ "__name__":=by decide) (hd:Dbg x:=by decide):PE X (.Name x pos) (tC v):=⟨λ_ _ _ H _ I h=>xQ I hg m c ⟨v,H,I,r,h⟩ n hd⟩
variable {a b:Expr} {tb:TE}
variable {tA tB':TT} {rest:List Expr}
def qj9 (t u:TT):TT:=λσ H Q=>t σ H λc H1=>if c=iK then u σ H1 Q else Q iJ H1
def tOr (t u:TT):TT:=λσ H Q=>t σ H λc H1=>if c=iK then Q iK H1 else u σ H1 Q
def qka (t:TT):TT:=λσ H Q=>t σ H λc H1=>Q (!c) H1
theorem qdW (g:PT X a tA):PW X (.BoolOp .And [a] pos) tA:=by
 refine ⟨?_⟩;intro w pins s σ H Q I h;refine isTrue_and (thn (g pins s σ H Q I h) λc s1 e=>?_);cases c with
 | true=>exact isTrue_and_nil e
 | false=>exact e
theorem qf4 (g:PT X a tA):PW X (.BoolOp .Or [a] pos) tA:=by
 refine ⟨?_⟩;intro w pins s σ H Q I h;refine isTrue_or (thn (g pins s σ H Q I h) λc s1 e=>?_);cases c with
 | false=>exact isTrue_or_nil e
 | true=>exact e
theorem qf5 (g:PT X a tA) (e:PW X (.BoolOp .And (b::rest) pos) tB'):PW X (.BoolOp .And (a::b::rest) pos) (qj9 tA tB'):=by
 refine ⟨?_⟩;intro w pins s σ H Q I h;refine isTrue_and (thn (g pins s σ H _ I h) λc s1 ⟨H1,d,q⟩=>?_);cases c with
 | true=>exact e w pins s1 σ H1 Q d q
 | false=>exact ⟨H1,d,q⟩
theorem qis (g:PT X a tA) (e:PW X (.BoolOp .Or (b::rest) pos) tB'):PW X (.BoolOp .Or (a::b::rest) pos) (tOr tA tB'):=by
 refine ⟨?_⟩;intro w pins s σ H Q I h;refine isTrue_or (thn (g pins s σ H _ I h) λc s1 ⟨H1,d,q⟩=>?_);cases c with
 | true=>exact ⟨H1,d,q⟩
 | false=>exact e w pins s1 σ H1 Q d q
theorem qf6 (g:PT X a tA):PT X (.UnaryOp .Not a pos) (qka tA):=by refine ⟨?_⟩;intro pins s σ H Q I h;exact isTrue_not (g pins s σ H (λc H1=>Q (!c) H1) I h)
def qit (ta tb:TE):TE:=λσ H Q=>ta σ H λx H1=>∃ c,x=.bl c/\if c=iK then tb σ H1 Q else Q (.bl iJ) H1
def qkb (ta tb:TE):TE:=λσ H Q=>ta σ H λx H1=>∃ c,x=.bl c/\if c=iK then Q (.bl iK) H1 else tb σ H1 Q
theorem qf7 {op} {t:TE} (h:PE X a t):PE X (.BoolOp op [a] pos) t:=⟨λpins s σ H Q I hw=>BoolOp_one (h pins s σ H Q I hw)⟩
theorem qf8 (g:PE X a ta) (e:PE X (.BoolOp .And (b::rest) pos) tb):PE X (.BoolOp .And (a::b::rest) pos) (qit ta tb):=by
 refine ⟨?_⟩;intro pins s σ H Q I h;refine BoolOp_and (thn (g pins s σ H _ I h) λv s1 ⟨x,H1,d,r1,q⟩=>?_);obtain ⟨c,rfl,q⟩:=q;cases r1;refine i7 ?_;cases c with
 | true=>exact e pins s1 σ H1 Q d q
 | false=>exact ⟨.bl iJ,H1,d,rfl,q⟩
theorem qiu (g:PE X a ta) (e:PE X (.BoolOp .Or (b::rest) pos) tb):PE X (.BoolOp .Or (a::b::rest) pos) (qkb ta tb):=by
 refine ⟨?_⟩;intro pins s σ H Q I h;refine BoolOp_or (thn (g pins s σ H _ I h) λv s1 ⟨x,H1,d,r1,q⟩=>?_);obtain ⟨c,rfl,q⟩:=q;cases r1;refine i7 ?_;cases c with
 | false=>exact e pins s1 σ H1 Q d q
 | true=>exact ⟨.bl iK,H1,d,rfl,q⟩
def tIf (t:TT) (ta tb:TE):TE:=λσ H Q=>t σ H λc H1=>if c=iK then ta σ H1 Q else tb σ H1 Q
theorem qbA (f:PT X c tA) (i:PE X a ta) (g:PE X b tb):PE X (.IfExp c a b pos) (tIf tA ta tb):=by
 refine ⟨?_⟩;intro pins s σ H Q I h;refine wpAny_IfExp (thn (f pins s σ H _ I h) λd s1 ⟨H1,e,q⟩=>?_);cases d with
 | true=>exact i pins s1 σ H1 Q e q
 | false=>exact g pins s1 σ H1 Q e q
end
def SqL (K:Frag) (H:Hp) (a:Addr) (xs:List V):Prop:=
 Rd H a (.lst xs) \/
  ∃ (o:Obj) (its:Array iI) (n:Nat),K.lookup a=iF o/\o.cls=.type "list"/\o.dict=iH/\o.data=.seq its n/\its.size<=sizeLine/\Vals xs its.toList
def SqT (K:Frag) (H:Hp) (a:Addr) (xs:List V):Prop:=
 Rd H a (.tup xs) \/
  ∃ (o:Obj) (its:Array iI) (n:Nat),K.lookup a=iF o/\(o.cls=.type "tuple"/\o.dict=iH)/\o.data=.seq its n/\its.size<=sizeLine/\Vals xs its.toList
noncomputable def qkc:iI->Option V
 | .none=>iF .non
 | .bool b=>iF (.bl b)
 | .int i _=>iF (.int i)
 | .str x _=>iF (.str x)
 | .bytes b _=>iF (.byt b)
 | .float b _=>iF (.flt b)
 | .ref a=>iF (.ref a)
 | .type n=>iF (.ty n)
 | _=>iH
theorem RelV.abs {x:V} (r:RelV x u):qkc u=iF x:=by
 cases x with
 | non=>cases r; rfl
 | bl _=>cases r; rfl
 | int _=>obtain ⟨t,rfl⟩:=r; rfl
 | str _=>obtain ⟨t,rfl⟩:=r; rfl
 | byt _=>obtain ⟨t,rfl⟩:=r; rfl
 | flt _=>obtain ⟨t,rfl⟩:=r; rfl
 | ref _=>cases r; rfl
 | ty _=>cases r; rfl
variable {y:V}
theorem RelV.inj {x:V} (r:RelV x u) (q:RelV y u):x=y:=aN.inj (r.abs.symm.trans q.abs)
variable {ys:List V}
theorem Vals.inj (h:Vals xs us) (h':Vals ys us):xs=ys:=by
 induction h generalizing ys with
 | nil=>cases h'; rfl
 | cons r t j=>
  cases h' with
  | cons r' t'=>rw [r.inj r',j t']
variable {K:Frag}
section
theorem SqT.of (h:H a=iF (.tup xs)):SqT K H a xs:=.inl (.inl h)
theorem Inv.list (I:Inv X pins σ H s) (h:SqL X.K H a xs):∃ its:List iI,Vals xs its/\PlainL s.heap a its.toArray/\xs.length<=sizeLine:=by
 rcases h with h | ⟨o,its,n,hk,hc,hd,hs,hz,r⟩
 ·obtain ⟨z,its,n,r,e⟩:=h.ok I.hok;exact ⟨its,r,⟨_,n,e,rfl,rfl,rfl⟩,z⟩
 ·refine ⟨its.toList,r,⟨o,n,I.kIn a o hk,hc,hd,by simpa using hs⟩,?_⟩;have e:=r.length;simp only [cC] at e;omega
theorem Inv.tuple (I:Inv X pins σ H s) (h:SqT X.K H a xs):∃ its:List iI,Vals xs its/\IsTup s.heap a its.toArray/\xs.length<=sizeLine:=by
 rcases h with h | ⟨o,its,n,hk,hc,hs,hz,r⟩
 ·obtain ⟨⟨z,_⟩,its,r,p⟩:=h.ok I.hok;exact ⟨its,r,p,z⟩
 ·refine ⟨its.toList,r,⟨o,I.kIn a o hk,hc.1,n,by simpa using hs⟩,?_⟩;have e:=r.length;simp only [cC] at e;omega
theorem Inv.tupleN (I:Inv X pins σ H s) (h:SqT X.K H a xs):∃ o,s.heap.get? a=iF o/\o.dict=none:=by
 rcases h with h | ⟨o,its,n,hk,hc,hs,hz,r⟩
 ·obtain ⟨⟨z,w⟩,its,r,p⟩:=h.ok I.hok;exact w
 ·exact ⟨o,I.kIn a o hk,hc.2⟩
theorem Inv.list_inj (I:Inv X pins σ H s) (h:SqL X.K H a xs) (h':SqL X.K H a ys):xs=ys:=by
 obtain ⟨its,r,⟨o,n,e,_,_,d⟩,_⟩:=I.list h;obtain ⟨its',r',⟨o',c,b,_,_,d'⟩,_⟩:=I.list h';rw [e] at b; cases b;rw [d] at d';injection d' with d1 _;have:its=its':=by simpa using congrArg Array.toList d1
 subst this;exact r.inj r'
theorem Inv.tuple_inj (I:Inv X pins σ H s) (h:SqT X.K H a xs) (h':SqT X.K H a ys):xs=ys:=by
 obtain ⟨its,r,⟨o,e,_,n,d⟩,_⟩:=I.tuple h;obtain ⟨its',r',⟨o',b,_,c,d'⟩,_⟩:=I.tuple h';rw [e] at b; cases b;rw [d] at d';injection d' with d1 _;have:its=its':=by simpa using congrArg Array.toList d1
 subst this;exact r.inj r'
end
variable {te:TE} {tc:TT}
section
variable {st:Stmt} {rest:List Stmt} {t u:TS}
def qiv:TS:=λD σ H=>D.nx σ H
def qkd (t u:TS):TS:=λD σ H=>t { D with nx:=u D } σ H
theorem Gf:PSs X [] qiv:=⟨λ_ _ σ H _ I h=>lv ⟨σ,H,I,h⟩⟩
theorem qbB (h1:PS X st t) (h2:PSs X rest u):PSs X (st::rest) (qkd t u):=by
 refine ⟨?_⟩;intro pins s σ H D I h;refine wpAny_execs_cons (thn (h1 pins s σ H { D with nx:=u D } I h) λf s1 q=>?_);cases f with
 | next=>obtain ⟨σ',H',b,q⟩:=q;exact h2 pins s1 σ' H' D b q
 | ret v=>exact q
 | brk=>exact q
 | cont=>exact q
theorem qdX (h1:PS X st t):PSs X [st] t:=by
 refine ⟨?_⟩;intro pins s σ H D I h;refine wpAny_execs_cons (thn (h1 pins s σ H D I h) λf s1 q=>?_);cases f with
 | next=>exact lv q
 | ret v=>exact q
 | brk=>exact q
 | cont=>exact q
theorem Inv.quiet (I:Inv X pins σ H s):interactive X.env=false:=by simp [interactive,I.ok.kind]
def qiw (te:TE):TS:=λD σ H=>te σ H λ_ H1=>D.nx σ H1
theorem qdY (i:PE X e te) (hs:swapsWith e iH pos.line X.env=pure false:=by rfl):PS X (.Expr e pos) (qiw te):=by refine ⟨?_⟩;intro pins s σ H D I h;exact wpAny_Expr_any (thn (i pins s σ H _ I h) λv s1 ⟨x,H1,d,r1,q⟩=>⟨σ,H1,d,q⟩) I.quiet hs
def qke (te:TE):TS:=λD σ H=>te σ H D.rt
theorem qf9 (i:PE X e te):PS X (.Return (iF e) pos) (qke te):=by refine ⟨?_⟩;intro pins s σ H D I h;exact wpAny_Return_some (thn (i pins s σ H _ I h) λv s1 ⟨x,H1,d,r1,q⟩=>⟨x,σ,H1,d,r1,q⟩)
def qkf (c:TT) (t u:TS):TS:=λD σ H=>c σ H λb H1=>if b=iK then t D σ H1 else u D σ H1
theorem qix {a b:List Stmt} (f:PT X c tc) (i:PSs X a t) (g:PSs X b u):PS X (.If c a b pos) (qkf tc t u):=by
 refine ⟨?_⟩;intro pins s σ H D I h;refine wpAny_If (thn (f pins s σ H _ I h) λd s1 ⟨H1,e,q⟩=>?_);cases d with
 | true=>exact i pins s1 σ H1 D e q
 | false=>exact g pins s1 σ H1 D e q
end
abbrev TG:=V->St->Hp->(St->Hp->Prop)->Prop
abbrev TGs:=List V->St->Hp->(St->Hp->Prop)->Prop
structure PG (X:Cx) (target:Expr) (t:TG):Prop where
 run:∀ (pins:Pns) (s:iL) (σ:St) (H:Hp) (v:V) (u:iI) (Q:St->Hp->Prop),Inv X pins σ H s->RelV v u->t v σ H Q ->wpAny (model X.prog X.w) X.A (assign target X.env u) (λ_ s'=>∃ σ' H',Inv X pins σ' H' s'/\Q σ' H') X.xe s
instance {X:Cx} {target:Expr} {t:TG}:CoeFun (PG X target t) (λ_=>∀ (pins:Pns) (s:iL) (σ:St) (H:Hp) (v:V) (u:iI) (Q:St->Hp->Prop),Inv X pins σ H s->RelV v u->t v σ H Q ->wpAny (model X.prog X.w) X.A (assign target X.env u) (λ_ s'=>∃ σ' H',Inv X pins σ' H' s'/\Q σ' H') X.xe s):=⟨λh=>h.run⟩
structure PGs (X:Cx) (ts:List Expr) (t:TGs):Prop where
 run:∀ (pins:Pns) (s:iL) (σ:St) (H:Hp) (vs:List V) (us:List iI) (Q:St->Hp->Prop),Inv X pins σ H s->Vals vs us->t vs σ H Q ->wpAny (model X.prog X.w) X.A (assignInOrder ((assignEach ts X.env).map (·.2)) us) (λ_ s'=>∃ σ' H',Inv X pins σ' H' s'/\Q σ' H') X.xe s
instance {X:Cx} {ts:List Expr} {t:TGs}:CoeFun (PGs X ts t) (λ_=>∀ (pins:Pns) (s:iL) (σ:St) (H:Hp) (vs:List V) (us:List iI) (Q:St->Hp->Prop),Inv X pins σ H s->Vals vs us->t vs σ H Q ->wpAny (model X.prog X.w) X.A (assignInOrder ((assignEach ts X.env).map (·.2)) us) (λ_ s'=>∃ σ' H',Inv X pins σ' H' s'/\Q σ' H') X.xe s):=⟨λh=>h.run⟩
variable {es:List Expr} {pos':Pos}
section
def qga (i:Nat):TG:=λv σ H Q=>Q (σ.set i (iF v)) H
theorem qdZ (a:X.N.Nodup) (hi:X.N[i]?=iF x) (hx:Loc X.env.scope x) (f:X.fn x=iK\/X.env.scope.names.lookup x=iF .local:=by first | exact .inl rfl | exact .inr rfl | assumption):PG X (.Name x pos) (qga i):=by refine ⟨?_⟩;intro pins s σ H v u Q I r h;exact wpAny_assign_Name (Kg I a hi hx r (λs' b=>⟨_,H,b,h⟩) f)
def qkg:TGs:=λvs σ H Q=>vs=[]/\Q σ H
def qiy (t:TG) (u:TGs):TGs:=λvs σ H Q=>∃ v r,vs=v::r/\t v σ H λσ' H'=>u r σ' H' Q
theorem qd0:PGs X [] qkg:=by refine ⟨?_⟩;intro pins s σ H vs us Q I r h;obtain ⟨e,h⟩:=h;subst e;cases r;exact assignInOrder_nil ⟨σ,H,I,h⟩
theorem qbC {t:TG} {u:TGs} (h1:PG X e t) (h2:PGs X es u)
  (hs:(assignEach (e::es) X.env).map (·.2)=assign e X.env::(assignEach es X.env).map (·.2):=by rfl):PGs X (e::es) (qiy t u):=by
 refine ⟨?_⟩;intro pins s σ H vs us Q I r h;obtain ⟨v,vr,e1,h⟩:=h;subst e1;cases r with
 | cons r a=>rw [hs];refine assignInOrder_cons (thn (h1 pins s σ H _ _ _ I r h) λ_ s1 ⟨σ1,H1,d,q⟩=>?_);exact h2 pins s1 σ1 H1 _ _ Q d a q
def qkh (K:Frag) (n:Nat) (t:TGs):TG:=λv σ H Q=>∃ a xs,v=.ref a/\SqT K H a xs/\xs.length=n/\t xs σ H Q
theorem qgb {k:Nat} {t:TGs} {n:Nat} (g:X.calm=iK) (h:PGs X es t)
  (f:(assignEach es X.env).length=n:=by rfl) (c:(assignEach es X.env).findIdx? (·.1)=none:=by rfl):PG X (.Tuple es k pos) (qkh X.K n t):=by
 refine ⟨?_⟩;intro pins s σ H v u Q I r hw;obtain ⟨a,xs,e1,hq,hl,hw⟩:=hw;subst e1;cases r;obtain ⟨its,d,ht,hz⟩:=I.tuple hq;refine assign_Tuple_tuple (I.ok.hd g) ht (by simp [f,<-hl,d.length]) c λh' hx=>?_;have i:Inv X pins σ H { s with heap:=h' }:=I.kept (t':=s.toks) λb o e=>hx b o (ay (ap e)) e;exact h pins _ σ H xs _ Q i (by simpa using d) hw
def qki (te:TE) (g:TG):TS:=λD σ H=>te σ H λx H1=>g x σ H1 D.nx
theorem qdc (b:X.N.Nodup) (hi:X.N[i]?=iF x) (hx:Loc X.env.scope x) (a:PE X e te) (hs:swapsWith e (iF (.Name x pos')) pos.line X.env=pure false:=by rfl) (f:X.fn x=iK\/X.env.scope.names.lookup x=iF .local:=by first | exact .inl rfl | exact .inr rfl | assumption):PS X (.Assign [.Name x pos'] e pos) (qki te (qga i)):=by refine ⟨?_⟩;intro pins s σ H D I h;refine wpAny_Assign_Name (thn (a pins s σ H _ I h) λv s1 ⟨y,H1,d,r1,q⟩=>?_) hs;exact Kg d b hi hx r1 (λs2 c=>⟨_,H1,c,q⟩) f
end
variable {tb:TS} {body:List Stmt}
section
def qgc (c:TT) (tb:TS):TS:=λD σ H=>∃ W:Nat->St->Hp->Prop,(∃ m,W m σ H)/\∀ m σ H,W m σ H ->c σ H λb H1=>if b=iK then ∃ N:St->Hp->Prop,(∀ σ' H',N σ' H'->∃ f,f < m/\W f σ' H')/\tb { D with nx:=N,ct:=N,bk:=D.nx } σ H1 else D.nx σ H1
theorem qbD (hp:PassesOwn (model X.prog X.w) X.A X.env X.xe) (t:PT X c tc) (u:PSs X body tb):PS X (.While c body [] pos) (qgc tc tb):=by
 refine ⟨?_⟩;intro pins s σ H D I h;obtain ⟨W,⟨m0,r⟩,turn⟩:=h;refine wpAny_While (codeAny_whileLoop (λn s'=>∃ σ' H',Inv X pins σ' H' s'/\W n σ' H') ?_ m0 ⟨σ,H,I,r⟩);rintro n s1 ⟨σ1,H1,x,p⟩;refine j9 hp (thn (t pins s1 σ1 H1 _ x (turn n σ1 H1 p)) λb s2 ⟨H2,o,e⟩=>?_);cases b with
 | true=>
  obtain ⟨N,l,e⟩:=e;rw [if_pos rfl];refine j9 hp (thn (u pins s2 σ1 H2 _ o e) λf s3 q=>?_);cases f with
  | next=>obtain ⟨a,d,k,i⟩:=q;obtain ⟨m,j,g⟩:=l a d i;exact ⟨m,j,a,d,k,g⟩
  | cont=>obtain ⟨a,d,k,i⟩:=q;obtain ⟨m,j,g⟩:=l a d i;exact ⟨m,j,a,d,k,g⟩
  | brk=>exact q
  | ret v=>exact q
 | false=>rw [if_neg bD];exact lv ⟨σ1,H2,o,e⟩
end
structure It where
 go:Nat->Hp->Prop
 yld:Nat->Hp->V->Hp->Prop
 stop:Nat->Hp->Prop
def Uh (X:Cx) (pins:Pns) (H:Hp) (b:Addr):Prop:=
 H b=iH/\b≠X.env.locals/\b∉X.fs/\(b∈X.ex\/X.s₀.heap.objs.size<=b)/\(∀ x c,X.env.cells.lookup x=iF c->c≠b)/\∀ p∈X.pn++pins,p.1≠b
theorem Inv.fpOk (I:Inv X pins σ H s) (d:s.heap.objs.size<=b) (n:H' b=iH):Uh X pins H' b:=by
 refine ⟨n,cG (aD I.lt d),I.nofs d,.inr (bA I.sz d),λx c e z=>?_,λp hp z=>?_⟩;·obtain ⟨v,q⟩:=I.cell x c e;exact absurd (aD q.lt (by rw [z]; exact d)) (bM _)
 ·exact absurd (aD (ap (I.pin p hp).1) (by rw [z]; exact d)) (bM _)
structure Turn (P:iN) (w:iO) (K:Frag) (tg:Expr) (J:It) (fp:List Addr) (it:Addr) (tn:Nat->Heap->Prop):Prop where
 mem:it∈fp
 obj:∀ i h,tn i h->∀ b∈fp,∃ o,h.get? b=iF o/\∀ v,o.data≠.cell v
 keep:∀ i h h',tn i h->(∀ b∈fp,∀ o,h.get? b=iF o->h'.get? b=iF o)->tn i h'
 item:∀ (X:Cx),X.prog=P->X.w=w->X.K=K->X.calm=iK->∀ (i:Nat) (pins:Pns) (s:iL) (σ:St) (H:Hp) (E:iI->iL->Prop),Inv X pins σ H s->(∀ b∈fp,Uh X pins H b)->tn i s.heap->J.go i H ->wpAny (model P w) X.A (pyNext (.ref it)) (λr s1=>∃ u,r=iF u /\
   wpAny (model P w) X.A (letOwnedTupleGo tg (.ref it) u) (λ_ s2=>∃ x H',Inv X pins σ H' s2/\RelV x u/\J.yld i H x H'/\tn (i+1) s2.heap/\∀ b∈fp,H' b=iH) E s1) E s
 done:∀ (X:Cx),X.prog=P->X.w=w->X.K=K->X.calm=iK->∀ (i:Nat) (pins:Pns) (s:iL) (σ:St) (H:Hp) (E:iI->iL->Prop),Inv X pins σ H s->(∀ b∈fp,Uh X pins H b)->tn i s.heap->J.stop i H ->wpAny (model P w) X.A (pyNext (.ref it)) (λr s1=>r=iH/\Inv X pins σ H s1) E s
 self:∀ (A:iQ) (i:Nat) (s:iL) (Q:iI->iL->Prop) (E:iI->iL->Prop),tn i s.heap->Q (.ref it) s->wpAny (model P w) A (pyIter (.ref it)) Q E s
abbrev TI:=St->Hp->(It->Hp->Prop)->Prop
def PIE (X:Cx) (pins:Pns) (σ:St) (tg:Expr) (R:It->Hp->Prop) (i:iI) (s2:iL):Prop:=
 ∃ (it:Addr) (fp:List Addr) (tn:Nat->Heap->Prop) (J:It) (H':Hp),i=.ref it/\Inv X pins σ H' s2/\Turn X.prog X.w X.K tg J fp it tn/\tn 0 s2.heap/\(∀ b∈fp,Uh X pins H' b)/\R J H'
structure PI (X:Cx) (tg iter:Expr) (wi:TI):Prop where
 run:∀ (pins:Pns) (s:iL) (σ:St) (H:Hp) (R:It->Hp->Prop),Inv X pins σ H s->wi σ H R ->wpAny (model X.prog X.w) X.A (eval iter X.env) (λv s1=>wpAny (model X.prog X.w) X.A (pyIter v) (PIE X pins σ tg R) X.xe s1) X.xe s
instance {X:Cx} {tg iter:Expr} {wi:TI}:CoeFun (PI X tg iter wi) (λ_=>∀ (pins:Pns) (s:iL) (σ:St) (H:Hp) (R:It->Hp->Prop),Inv X pins σ H s->wi σ H R ->wpAny (model X.prog X.w) X.A (eval iter X.env) (λv s1=>wpAny (model X.prog X.w) X.A (pyIter v) (PIE X pins σ tg R) X.xe s1) X.xe s):=⟨λh=>h.run⟩
theorem qbE {M:Model} {A:iQ} {E:iI->iL->Prop} {tg:Expr} {u:iI} {o:Obj} {n:String} {vs:Array iI} {Q:Unit->iL->Prop} (l:s.heap.get? it=iF o) (d:o.cls=.type n) (hd:o.data=.fields vs)
    (a:["enumerate", "zip", "dict_itemiterator", "dict_reverseitemiterator", "odict_iterator", "itertools.zip_longest", "itertools.pairwise"].contains n=iJ) (c:Q () s):wpAny M A (letOwnedTupleGo tg (.ref it) u) Q E s:=by
  unfold letOwnedTupleGo;cases tg <;> first
    | exact iM c
    | (cases u <;> first
        | exact iM c
        | (refine iG (wpAny_load l ?_)
           rw [d,hd];show wpAny M A (if (["enumerate", "zip", "dict_itemiterator", "dict_reverseitemiterator", "odict_iterator", "itertools.zip_longest", "itertools.pairwise"].contains n&&vs[0]? == iF (rawInt _))=iK then _ else _) Q E s;rw [if_neg (by intro h; rw [a,Bool.false_and] at h; cases h)];exact iM c))
noncomputable def Itl (K:Frag) (a:Addr):It:=
 ⟨λi H=>∃ xs x,SqL K H a xs/\xs[i]?=iF x,λi H x H'=>H'=H/\∀ xs,SqL K H a xs->xs[i]?=iF x,λi H=>∃ xs,SqL K H a xs/\xs.length<=i⟩
noncomputable def Itt (K:Frag) (a:Addr):It:=
 ⟨λi H=>∃ xs x,SqT K H a xs/\xs[i]?=iF x,λi H x H'=>H'=H/\∀ xs,SqT K H a xs->xs[i]?=iF x,λi H=>∃ xs,SqT K H a xs/\xs.length<=i⟩
noncomputable def Itr (lo:Int) (n:Nat):It:=⟨λi _=>i < n,λi H x H'=>H'=H/\x=.int (lo+i),λi _=>n<=i⟩
variable {tg:Expr}
theorem Gg (a it:Addr):Turn P w K tg (Itl K a) [it] it (λi h=>h.IsListIter it a i) where
 mem:=by simp
 obj:=λi h st b f=>by
  have e:b=it:=by simpa using f
  subst e;obtain ⟨o,e,c,d⟩:=st;exact ⟨o,e,λv z=>by rw [d] at z; cases z⟩
 keep:=λi h h' st k=>st.at λo e=>k it (by simp) o e
 item:=by intro X l hw m t i pins s σ H E I j st hg;subst l hw m;obtain ⟨xs,x,hq,hx⟩:=hg;obtain ⟨its,r,p,hz⟩:=I.list hq;obtain ⟨u,C,A⟩:=r.get hx;obtain ⟨f0,f1,f2,q,f4,n⟩:=j it (by simp);refine wpAny_pyNext_list_item st p.isList (x:=u) (by simpa using C) λh' g y=>?_;have G:Inv X pins σ H { s with heap:=h' }:=I.turned (t':=s.toks) (λb o f e=>(y.2 b f).trans e) f0 f1 q f4 n;obtain ⟨o,e,c,d⟩:=id g;exact ⟨u,rfl,qbE (s:={ s with heap:=h' }) e c d (by decide) ⟨x,H,G,A,⟨rfl,λys B=>by rw [I.list_inj B hq]; exact hx⟩,g,λb f=>(j b f).1⟩⟩
 done:=by intro X l hw m t i pins s σ H E I j st hg;subst l hw m;obtain ⟨xs,hq,hx⟩:=hg;obtain ⟨its,r,p,hz⟩:=I.list hq;obtain ⟨f0,f1,f2,q,f4,n⟩:=j it (by simp);have hl:=r.length;exact wpAny_pyNext_list_end (I.ok.hd t) st p.isList (by simp; omega) λh' D=>⟨rfl,I.turned (t':=s.toks) (λb o f e=>D b o f e) f0 f1 q f4 n⟩
 self:=λ_ _ _ _ _ st h=>wpAny_pyIter_listiter st h
theorem XW (a it:Addr):Turn P w K tg (Itt K a) [it] it (λi h=>h.IsTupleIter it a i) where
 mem:=by simp
 obj:=λi h st b f=>by
  have e:b=it:=by simpa using f
  subst e;obtain ⟨o,e,c,d⟩:=st;exact ⟨o,e,λv z=>by rw [d] at z; cases z⟩
 keep:=λi h h' st k=>st.at λo e=>k it (by simp) o e
 item:=by intro X l hw m t i pins s σ H E I j st hg;subst l hw m;obtain ⟨xs,x,hq,hx⟩:=hg;obtain ⟨its,r,p,hz⟩:=I.tuple hq;obtain ⟨u,C,A⟩:=r.get hx;obtain ⟨f0,f1,f2,q,f4,n⟩:=j it (by simp);refine wpAny_pyNext_tuple_item st (show s.heap.IsTuple a its.toArray from p) (x:=u) (by simpa using C) λh' g y=>?_;have G:Inv X pins σ H { s with heap:=h' }:=I.turned (t':=s.toks) (λb o f e=>(y.2 b f).trans e) f0 f1 q f4 n;obtain ⟨o,e,c,d⟩:=id g;exact ⟨u,rfl,qbE (s:={ s with heap:=h' }) e c d (by decide) ⟨x,H,G,A,⟨rfl,λys B=>by rw [I.tuple_inj B hq]; exact hx⟩,g,λb f=>(j b f).1⟩⟩
 done:=by intro X l hw m t i pins s σ H E I j st hg;subst l hw m;obtain ⟨xs,hq,hx⟩:=hg;obtain ⟨its,r,p,hz⟩:=I.tuple hq;obtain ⟨f0,f1,f2,q,f4,n⟩:=j it (by simp);have hl:=r.length;exact wpAny_pyNext_tuple_end (I.ok.hd t) st (show s.heap.IsTuple a its.toArray from p) (by simp; omega) λh' D=>⟨rfl,I.turned (t':=s.toks) (λb o f e=>D b o f e) f0 f1 q f4 n⟩
 self:=λ_ _ _ _ _ st h=>wpAny_pyIter_tupleiter st h
theorem XX (it:Addr) (lo:Int) (n:Nat):Turn P w K tg (Itr lo n) [it] it (λi h=>IsRangeIter h it (lo+(i:Nat) * 1) ((n:Int) - (i:Nat)) 1) where
 mem:=by simp
 obj:=λi h st b d=>by
  have e:b=it:=by simpa using d
  subst e;exact ⟨_,st,λv z=>by have j:Data.fields _=Data.cell v:=z;cases j⟩
 keep:=λi h h' st k=>k it (by simp) _ st
 item:=by intro X l hw m c i pins s σ H E I f st hg;subst l hw m;obtain ⟨f0,f1,f2,q,f4,a⟩:=f it (by simp);have W:=Walks.range (prog:=X.prog) (w:=X.w) (I.ok.hd c) it lo 1 n;refine W.item i s _ _ hg st λv h' tk r g p=>?_;obtain ⟨t,rfl⟩:=r;have u:Inv X pins σ H { s with heap:=h',toks:=tk }:=I.turned (λb o d e=>p b o (by simpa using d) e) f0 f1 q f4 a;refine ⟨_,rfl,qbE (s:={ s with heap:=h',toks:=tk }) (n := "range_iterator") g rfl rfl (by decide) ⟨.int (lo+i),H,u,⟨t,?_⟩,⟨rfl,rfl⟩,g,λb d=>(f b d).1⟩⟩;rw [Int.mul_one]
 done:=by intro X l hw m c i pins s σ H E I f st hg;subst l hw m;obtain ⟨f0,f1,f2,q,f4,a⟩:=f it (by simp);exact wpAny_pyNext_range_end (I.ok.hd c) st (by have:n<=i:=hg; omega) λh' D=>⟨rfl,I.turned (t':=s.toks) (λb o d e=>D b o d e) f0 f1 q f4 a⟩
 self:=λ_ _ _ _ _ st h=>wpAny_pyIter_rangeiter st h
variable {p:Pos} {fp:List Addr}
section
theorem qbF {R:It->Hp->Prop} {E:iI->iL->Prop} {lo hi:Int} {t u v:Tok} {tk:Nat} (I:Inv X pins σ H s) (h1:-(2 ^ 62)<=lo) (h2:lo < 2 ^ 62) (h3:-(2 ^ 62)<=hi) (a:hi < 2 ^ 62)
  (q:R (Itr lo (hi - lo).toNat) H):wpAny (model X.prog X.w) X.A (pyIter (.ref s.heap.objs.size)) (PIE X pins σ tg R) E { s with heap:=s.heap.push { cls:=.type "range",data:=.fields #[.int lo t,.int hi u,.int 1 v] },toks:=tk }:=by
 refine wpAny_pyIter_range (IsRange.new ..) (small_one h1 h2 h3 a) ?_;have d:Inv X pins σ H { s with heap:=s.heap.push { cls:=.type "range",data:=.fields #[.int lo t,.int hi u,.int 1 v] },toks:=tk }:=I.kept λb o e=>aa _ e;refine ⟨(s.heap.push { cls:=.type "range",data:=.fields #[.int lo t,.int hi u,.int 1 v] }).objs.size,[(s.heap.push { cls:=.type "range",data:=.fields #[.int lo t,.int hi u,.int 1 v] }).objs.size],_,_,H,rfl,d.kept (t':=tk) λb o e=>aa _ e,XX _ lo (hi - lo).toNat,?_,λb h=>?_,q⟩
 ·have e1:lo+((0:Nat):Int) * 1=lo:=by simp
  have i:(((hi - lo).toNat:Nat):Int) - ((0:Nat):Int)=Builtin.Range.rangeSize lo hi 1:=by rw [rangeSize_one]; split <;> omega
  show IsRangeIter _ _ (lo+((0:Nat):Int) * 1) ((((hi - lo).toNat:Nat):Int) - ((0:Nat):Int)) 1;rw [e1,i];exact ah _ rfl
 ·have e:b=(s.heap.push { cls:=.type "range",data:=.fields #[.int lo t,.int hi u,.int 1 v] }).objs.size:=by simpa using h
  subst e;exact d.fpOk (aw _) (d.hok.fresh (aw _))
def qiz (ta:TA):TI:=λσ H R=>ta σ H λvs H1=>∃ j:Int,vs=[.int j]/\-(2 ^ 62)<=j/\j < 2 ^ 62/\R (Itr 0 j.toNat) H1
theorem Gh {a:Expr} {ta:TA} (hg:Gl X "range") (m:X.mg "range"=iH) (g:PA X [a] ta) (hs:starEach [a] X.env=[(iJ,eval a X.env)]:=by rfl):PI X tg (.Call (.Name "range" p) [a] [] pos) (qiz ta):=by
 refine ⟨?_⟩;intro pins s σ H R I h;refine Call_ (xQ I hg m boot_range (bB (thn (g pos pins s σ H _ I h) λus s1 ⟨vs,H1,f,r1,b⟩=>?_) hs rfl));obtain ⟨j,e,b,d,q⟩:=b;subst e;cases r1 with
 | cons r c=>cases c;obtain ⟨t,rfl⟩:=r;exact call_range_1 (qbF f (by omega) (by omega) b d (by simpa using q))
def qkj (wi:TI) (g:TG) (tb:TS):TS:=λD σ H=>wi σ H λJ H1=>∃ W:Nat->Nat->St->Hp->Prop,(∃ m,W 0 m σ H1)/\∀ i m σ H,W i m σ H ->(J.stop i H/\D.nx σ H)\/(J.go i H/\∃ N:St->Hp->Prop,(∀ σ' H',N σ' H'->∃ f,f < m/\W (i+1) f σ' H')/\∀ x H',J.yld i H x H'->g x σ H' λa H2=>tb { D with nx:=N,ct:=N,bk:=D.nx } a H2)
noncomputable def VN (fp:List Addr) (h:Heap):Pns:=fp.filterMap λb=>(h.get? b).map λo=>(b,o)
theorem yG {o:Obj} (d:b∈fp) (e:h.get? b=iF o):(b,o)∈VN fp h:=fD.mpr ⟨b,d,by rw [e]; rfl⟩
theorem Gi {p:Addr×Obj} (hp:p∈VN fp h):p.1∈fp/\h.get? p.1=iF p.2:=by
 obtain ⟨b,d,e⟩:=fD.mp hp;cases q:h.get? b with
 | none=>rw [q] at e; cases e
 | some o=>rw [q] at e;have a:(b,o)=p:=aN.inj e;subst a;exact ⟨d,q⟩
theorem Inv.pinned (I:Inv X pins σ H s) (f:∀ b∈fp,Uh X pins H b) (l:∀ b∈fp,∃ o,s.heap.get? b=iF o/\∀ v,o.data≠.cell v):Inv X (pins++VN fp s.heap) σ H s:=
 I.pins_of λp hp=>(aH.mp hp).elim (λz=>I.pin p (aV _ z)) λz=>by obtain ⟨h,e⟩:=Gi z;obtain ⟨f0,f1,f2,_⟩:=f p.1 h;obtain ⟨o,a,d⟩:=l p.1 h;rw [e] at a; cases a;exact ⟨e,f0,f1,f2,d⟩
theorem Inv.unpinned {pl:Pns} (I:Inv X (pins++pl) σ H s):Inv X pins σ H s:=I.pins_of λp hp=>I.pin p (aV _ (cq _ hp))
theorem qgd {iter:Expr} {wi:TI} {g:TG} {pos:Pos} (hp:PassesOwn (model X.prog X.w) X.A X.env X.xe) (Q:X.calm=iK) (hi:PI X tg iter wi) (hg:PG X tg g) (j:PSs X body tb)
  (hs:∀ x,foldedSetIterable iter X.env x=pure x:=by intro _; rfl):PS X (.For tg iter body [] pos) (qkj wi g tb):=by
 refine ⟨?_⟩;intro pins s σ H D I h;refine wpAny_For (thn (hi pins s σ H _ I h) λv s1 h1=>thn h1 λitv s2 h2=>?_) hs;obtain ⟨it,fp,tn,J,H2,e,I2,T,K,f2,W,⟨m0,F⟩,turn⟩:=h2;subst e;have t:∀ {H':Hp},(∀ b∈fp,H' b=iH)->∀ b∈fp,Uh X pins H' b:=λhn b j=>⟨hn b j,(f2 b j).2⟩
 refine codeAny_forLoop_any (λn s'=>∃ i σ' H',Inv X pins σ' H' s'/\tn i s'.heap/\(∀ b∈fp,H' b=iH)/\W i n σ' H') ?_ m0 ⟨0,σ,H2,I2,K,λb j=>(f2 b j).1,F⟩;rintro n s3 ⟨i,c,E,R,z,C,Z⟩;rcases turn i n c E Z with ⟨stop,qn⟩ | ⟨go,N,hN,step⟩
 ·refine j9 hp (thn (T.done X rfl rfl rfl Q i pins s3 c E X.xe R (t C) z stop) λr s4 ⟨M,I4⟩=>?_);subst M;exact lv ⟨c,E,I4,qn⟩
 ·refine j9 hp (thn (T.item X rfl rfl rfl Q i pins s3 c E X.xe R (t C) z go) λr s4 ⟨u,M,h4⟩=>?_);subst M;refine j9 hp (thn h4 λ_ s5 ⟨x,S,I5,r5,U,y,O⟩=>?_);have P:=I5.pinned (t O) (T.obj _ _ y);refine j9 hp (thn (hg _ s5 c S x u _ P r5 (step x S U)) λ_ s6 ⟨G,H6,I6,q6⟩=>?_);refine j9 hp (thn (j _ s6 G H6 _ I6 q6) λf L q=>?_);have k:∀ {a:St} {p:Hp},Inv X (pins++VN fp s5.heap) a p L->N a p->∃ m,m < n/\∃ i σ' H',Inv X pins σ' H' L/\tn i L.heap/\(∀ b∈fp,H' b=iH)/\W i m σ' H':=λ{a p} l B=>by obtain ⟨m',hm,Y⟩:=hN a p B;refine ⟨m',hm,i+1,a,p,l.unpinned,T.keep _ _ _ y λb j o e=>(l.pin (b,o) (aV _ (aV _ (yG j e)))).1,λb j=>?_,Y⟩;obtain ⟨o,e,d⟩:=T.obj _ _ y b j;exact (l.pin (b,o) (aV _ (aV _ (yG j e)))).2.1
  cases f with
  | next=>obtain ⟨a,p,l,B⟩:=q; exact k l B
  | cont=>obtain ⟨a,p,l,B⟩:=q; exact k l B
  | brk=>obtain ⟨a,p,l,q⟩:=q; exact ⟨a,p,l.unpinned,q⟩
  | ret v=>obtain ⟨V,a,p,l,r7,q⟩:=q; exact ⟨V,a,p,l.unpinned,r7,q⟩
end
abbrev R2:=V->V->Hp->VK->Prop
def OpR (X:Cx) (f:iI->iI->Sem iI) (r:R2):Prop:=
 ∀ (pins:Pns) (s:iL) (σ:St) (H:Hp) (x y:V) (v u:iI) (Q:VK),Inv X pins σ H s->RelV x v->RelV y u->r x y H Q ->wpAny (model X.prog X.w) X.A (f v u) (EP X pins σ Q) X.xe s
def UnR (X:Cx) (f:iI->Sem iI) (r:V->Hp->VK->Prop):Prop:=
 ∀ (pins:Pns) (s:iL) (σ:St) (H:Hp) (x:V) (v:iI) (Q:VK),Inv X pins σ H s->RelV x v->r x H Q ->wpAny (model X.prog X.w) X.A (f v) (EP X pins σ Q) X.xe s
def yb (X:Cx) (f:iI) (r:List V->Hp->VK->Prop):Prop:=
 ∀ (pins:Pns) (s:iL) (σ:St) (H:Hp) (xs:List V) (us:List iI) (Q:VK),Inv X pins σ H s->Vals xs us->r xs H Q ->wpAny (model X.prog X.w) X.A (call f us) (EP X pins σ Q) X.xe s
def qkk (X:Cx) (r:V->Hp->(Bool->Hp->Prop)->Prop):Prop:=
 ∀ (pins:Pns) (s:iL) (σ:St) (H:Hp) (x:V) (v:iI) (Q:Bool->Hp->Prop),Inv X pins σ H s->RelV x v->r x H Q ->wpAny (model X.prog X.w) X.A (truthy v) (TP X pins σ Q) X.xe s
def tOp (r:R2) (ta tb:TE):TE:=λσ H Q=>ta σ H λx H1=>tb σ H1 λy H2=>r x y H2 Q
def tUn (r:V->Hp->VK->Prop) (ta:TE):TE:=λσ H Q=>ta σ H λx H1=>r x H1 Q
def rI (C:Int->Int->Prop) (g:Int->Int->V):R2:=λx y H Q=>∃ i j,x=.int i/\y=.int j/\C i j/\Q (g i j) H
def rI0 (g:Int->Int->V):R2:=λx y H Q=>∃ i j,x=.int i/\y=.int j/\Q (g i j) H
def rU (g:Int->V):V->Hp->VK->Prop:=λx H Q=>∃ i,x=.int i/\Q (g i) H
variable {r:R2}
section
variable {a b:Expr} {tb tc:TE}
theorem qiA (j:PE X a ta) (i:PE X b tb) {R:V->V->Hp->Prop} (I:Inv X pins σ H s)
  (h:ta σ H λx H1=>tb σ H1 λy H2=>R x y H2) {Q:iI->iL->Prop} {f:iI->iI->Sem iI}
  (g:∀ v u s2 x y H2,Inv X pins σ H2 s2->RelV x v->RelV y u->R x y H2->wpAny (model X.prog X.w) X.A (f v u) Q X.xe s2) :
  wpAny (model X.prog X.w) X.A (eval a X.env) (λv d=>wpAny (model X.prog X.w) X.A (eval b X.env) (λu c=>wpAny (model X.prog X.w) X.A (f v u) Q X.xe c) X.xe d) X.xe s:=by
 refine thn (j pins s σ H _ I h) λv s1 ⟨x,H1,l,r1,q⟩=>?_;refine thn (i pins s1 σ H1 _ l q) λu s2 ⟨y,H2,k,r2,e⟩=>?_;exact g v u s2 x y H2 k r1 r2 e
theorem qiB {op:Operator} (l:OpR X (binaryOp op) r) (g:PE X a ta) (e:PE X b tb):PE X (.BinOp a op b pos) (tOp r ta tb):=by refine ⟨?_⟩;intro pins s σ H Q I h;exact wpAny_BinOp (qiA g e I h λv u s2 x y H2 f d c q=>l pins s2 σ H2 x y v u Q f d c q)
theorem qiC {op:UnaryOp} {r:V->Hp->VK->Prop} (l:UnR X (unaryOp op) r) (g:PE X a ta):PE X (.UnaryOp op a pos) (tUn r ta):=by refine ⟨?_⟩;intro pins s σ H Q I h;exact UnaryOp_ (thn (g pins s σ H _ I h) λv s1 ⟨x,H1,d,r1,q⟩=>l pins s1 σ H1 x v Q d r1 q)
theorem opI {f:iI->iI->Sem iI} {C:Int->Int->Prop} {g:Int->Int->Int}
  (r:∀ (i j:Int) (t u:Tok) (s:iL) (Q:iI->iL->Prop) (E:iI->iL->Prop),C i j->Q (.int (g i j) s.toks) { s with toks:=s.toks+1 }->wpAny (model X.prog X.w) X.A (f (.int i t) (.int j u)) Q E s) :
  OpR X f (rI C λi j=>.int (g i j)):=by
 intro pins s σ H x y v u Q I d c h;obtain ⟨i,j,rfl,rfl,a,q⟩:=h;obtain ⟨t,rfl⟩:=d;obtain ⟨t',rfl⟩:=c;exact r i j t t' s _ _ a ⟨.int (g i j),H,I.tok _,⟨_,rfl⟩,q⟩
theorem qjJ {f:iI->iI->Sem iI} {g:Int->Int->Int}
  (r:∀ (i j:Int) (t u:Tok) (s:iL) (Q:iI->iL->Prop) (E:iI->iL->Prop),Q (.int (g i j) s.toks) { s with toks:=s.toks+1 }->wpAny (model X.prog X.w) X.A (f (.int i t) (.int j u)) Q E s) :
  OpR X f (rI0 λi j=>.int (g i j)):=by
 intro pins s σ H x y v u Q I d c h;obtain ⟨i,j,rfl,rfl,q⟩:=h;obtain ⟨t,rfl⟩:=d;obtain ⟨t',rfl⟩:=c;exact r i j t t' s _ _ ⟨.int (g i j),H,I.tok _,⟨_,rfl⟩,q⟩
theorem qiD {f:iI->iI->Sem iI} {g:Int->Int->Bool}
  (r:∀ (i j:Int) (t u:Tok) (s:iL) (Q:iI->iL->Prop) (E:iI->iL->Prop),Q (.bool (g i j)) s->wpAny (model X.prog X.w) X.A (f (.int i t) (.int j u)) Q E s) :
  OpR X f (rI0 λi j=>.bl (g i j)):=by
 intro pins s σ H x y v u Q I d c h;obtain ⟨i,j,rfl,rfl,q⟩:=h;obtain ⟨t,rfl⟩:=d;obtain ⟨t',rfl⟩:=c;exact r i j t t' s _ _ ⟨.bl (g i j),H,I,rfl,q⟩
def qkl (i j:Int):Prop:=0 < j/\j < 1073741824
def qjK (i j:Int):Prop:=0<=j/\j<=1000000/\i.natAbs < 2 ^ 64
def CMul (i j:Int):Prop:=(-(2 ^ 64) < i/\i < 2 ^ 64)\/(-(2 ^ 64) < j/\j < 2 ^ 64)
theorem CMul.ok {i j:Int} (h:CMul i j):IntMulOk i j:=by
 rcases h with ⟨h1,h2⟩ | ⟨h1,h2⟩
 ·exact .of_left (intBits_le_64 h1 h2)
 ·exact .of_right (intBits_le_64 h1 h2)
theorem qge:OpR X (binaryOp .Add) (rI0 λi j=>.int (i+j)):=qjJ λ_ _ _ _ _ _ _ q=>add_int q
theorem qgf:OpR X (binaryOp .Sub) (rI0 λi j=>.int (i - j)):=qjJ λ_ _ _ _ _ _ _ q=>sub_int q
theorem qgg:OpR X (binaryOp .Mult) (rI CMul λi j=>.int (i * j)):=opI λ_ _ _ _ _ _ _ d q=>mul_int q d.ok
theorem qgh:OpR X (binaryOp .Mod) (rI (λ_ j=>0 < j) λi j=>.int (i % j)):=opI λi j _ _ _ _ _ d q=>by have h1:(0:Int) < j:=d;exact mod_int' (by omega) (by rw [Int.fmod_eq_emod_of_nonneg i (by omega)]; exact q)
theorem unI {f:iI->Sem iI} {g:Int->Int}
  (r:∀ (i:Int) (t:Tok) (s:iL) (Q:iI->iL->Prop) (E:iI->iL->Prop),Q (.int (g i) s.toks) { s with toks:=s.toks+1 }->wpAny (model X.prog X.w) X.A (f (.int i t)) Q E s) :
  UnR X f (rU λi=>.int (g i)):=by
 intro pins s σ H x v Q I d h;obtain ⟨i,rfl,q⟩:=h;obtain ⟨t,rfl⟩:=d;exact r i t s _ _ ⟨.int (g i),H,I.tok _,⟨_,rfl⟩,q⟩
theorem qgi:UnR X (unaryOp .USub) (rU λi=>.int (-i)):=unI λ_ _ _ _ _ q=>neg_int q
end
variable {op op':CmpOp} {r':R2}
section
variable {a b:Expr} {tb tc:TE}
theorem YB {Q:VK} {k k':Bool} (I:Inv X pins σ H s) (q:Q (.bl k) H) (e:k=k'):EP X pins σ Q (.bool k') s:=by subst e;exact ⟨.bl k,H,I,rfl,q⟩
theorem qiE:OpR X (compareOp .Lt) (rI0 λi j=>.bl (decide (i < j))):=qiD λ_ _ _ _ _ _ _ q=>lt_int q
theorem qiF:OpR X (compareOp .LtE) (rI0 λi j=>.bl (decide (i<=j))):=qiD λ_ _ _ _ _ _ _ q=>le_int q
theorem qiG:OpR X (compareOp .GtE) (rI0 λi j=>.bl (decide (j<=i))):=qiD λ_ _ _ _ _ _ _ q=>ge_int q
theorem Gj:OpR X (compareOp .Lt) (λx y H Q=>∃ i j,x=.str i/\y=.str j/\Q (.bl (decide (i.cps.toList < j.cps.toList))) H):=by intro pins s σ H x y v u Q I d c h;obtain ⟨i,j,rfl,rfl,q⟩:=h;obtain ⟨t,rfl⟩:=d;obtain ⟨t',rfl⟩:=c;exact lt_str (YB I q rfl)
theorem qgj:OpR X (compareOp .Is) (λx y H Q=>y=.non/\Q (.bl (decide (x=.non))) H):=by
 intro pins s σ H x y v u Q I d c h;obtain ⟨rfl,q⟩:=h;cases c;refine is_none_gen (YB I q ?_);cases x <;> first
  | (cases d; rfl)
  | (obtain ⟨t,rfl⟩:=d; rfl)
theorem qd1:OpR X (compareOp .IsNot) (λx y H Q=>y=.non/\Q (.bl (!decide (x=.non))) H):=by
 intro pins s σ H x y v u Q I d c h;obtain ⟨rfl,q⟩:=h;cases c;refine isnot_none_gen (YB I q ?_);cases x <;> first
  | (cases d; rfl)
  | (obtain ⟨t,rfl⟩:=d; rfl)
theorem qdd (b:Expr) (h:op≠.In:=by decide) (h2:op≠.NotIn:=by decide):behindInMarks op b=false:=by
 have e1:(op == CmpOp.In)=false:=by cases op <;> first | rfl | exact absurd rfl h
 have i:(op == CmpOp.NotIn)=false:=by cases op <;> first | rfl | exact absurd rfl h2
 cases b <;> simp [behindInMarks,e1,i]
theorem qd2 (l:OpR X (compareOp op) r) (g:PE X a ta) (e:PE X b tb) (m:behindInMarks op b=iJ):PE X (.Compare a [op] [b] pos) (tOp r ta tb):=by refine ⟨?_⟩;intro pins s σ H Q I h;exact wpAny_Compare1 (qiA g e I h λv u s2 x y H2 f d c q=>l pins s2 σ H2 x y v u Q f d c q) m
def qgk (t:TE):TT:=λσ H Q=>t σ H λx H'=>∃ k,x=.bl k/\Q k H'
theorem qd3 (l:OpR X (compareOp op) r) (i:PE X a ta) (g:PE X b tb) (m:behindInMarks op b=iJ):PT X (.Compare a [op] [b] pos) (qgk (tOp r ta tb)):=by
 refine ⟨?_⟩;intro pins s σ H Q I h;refine wpAny_isTrue_Compare1 (thn (i pins s σ H _ I h) λv s1 ⟨x,H1,o,r1,f⟩=>thn (g pins s1 σ H1 _ o f) λu s2 ⟨y,H2,n,r2,d⟩=>
  thn (l pins s2 σ H2 x y v u _ n r1 r2 d) λc s3 ⟨z,p,j,r3,k,e,q⟩=>?_) m
 subst e;cases r3;exact i7 ⟨p,j,q⟩
def Gk (r r':R2) (ta tb tc:TE):TE:=λσ H Q=>ta σ H λx H1=>tb σ H1 λy H2=>r x y H2 λz d=>∃ k,z=.bl k /\
 (if k=iK then tc σ d λw' a=>r' y w' a Q else Q (.bl iJ) d)
theorem qbG (o:OpR X (compareOp op) r) (f:OpR X (compareOp op') r') (A:PE X a ta) (w:PE X b tb) (t:PE X c tc)
  (p:lastMarks [op,op'] [b,c]=false:=by with_unfolding_all rfl):PE X (.Compare a [op,op'] [b,c] pos) (Gk r r' ta tb tc):=by
 refine ⟨?_⟩;intro pins s σ H Q I h;refine Compare_chain (thn (A pins s σ H _ I h) λv s1 ⟨x,H1,D,r1,n⟩=>chain_link (thn (w pins s1 σ H1 _ D n) λu s2 ⟨y,H2,C,r2,m⟩=>
  thn (o pins s2 σ H2 x y v u _ C r1 r2 m) λd s3 ⟨z,i,g,r3,k,e,q⟩=>?_)) p
 subst e;cases r3;refine i7 ?_;cases k with
 | false=>exact ite_ff ⟨.bl iJ,i,g,rfl,q⟩
 | true=>exact ite_tt (chain_last (thn (t pins s3 σ i _ g q) λw' s4 ⟨j,E,B,r4,l⟩=>f pins s4 σ E y j u w' Q B r2 r4 l))
theorem qbH (t:OpR X (compareOp op) r) (f:OpR X (compareOp op') r') (C:PE X a ta) (B:PE X b tb) (A:PE X c tc)
  (w:lastMarks [op,op'] [b,c]=false:=by with_unfolding_all rfl):PT X (.Compare a [op,op'] [b,c] pos) (qgk (Gk r r' ta tb tc)):=by
 refine ⟨?_⟩;intro pins s σ H Q I h;refine isTrue_chain (thn (C pins s σ H _ I h) λv s1 ⟨x,H1,L,r1,o⟩=>test_link (thn (B pins s1 σ H1 _ L o) λu s2 ⟨y,H2,K,r2,n⟩=>
  thn (t pins s2 σ H2 x y v u _ K r1 r2 n) λd s3 ⟨z,i,g,r3,k,e,q⟩=>?_)) w
 subst e;cases r3;refine i7 ?_;cases k with
 | false=>obtain ⟨k',E,p⟩:=q;cases E;exact ite_ff ⟨i,g,p⟩
 | true=>refine ite_tt (test_last (thn (A pins s3 σ i _ g q) λw' s4 ⟨j,M,J,r4,m⟩=>thn (f pins s4 σ M y j u w' _ J r2 r4 m) λd' s5 ⟨z2,S,G,r5,k2,D,l⟩=>?_));subst D;cases r5;exact i7 ⟨S,G,l⟩
def qiH (K:Frag) (x:V) (H:Hp) (k:Bool):Prop:=
 match x with
 | .non=>k=iJ
 | .bl b=>k=b
 | .int i=>k=(i != 0)
 | .str y=>y.length<=sizeLine/\k=((y.length:Int) != 0)
 | .byt y=>y.size<=sizeLine/\k=((y.size:Int) != 0)
 | .ref p=>(∃ xs,SqL K H p xs/\k=!xs.isEmpty)\/(∃ xs,SqT K H p xs/\k=!xs.isEmpty)\/∃ kvs,H p=iF (.dK kvs)/\k=!kvs.isEmpty
 | _=>False
theorem XY {κ:Type} {kvs:List (κ×V)} {vs:List (κ×iI)} (r:KV kvs vs):(!vs.isEmpty)=!kvs.isEmpty:=by cases r <;> rfl
theorem JB {its:List iI} (r:Vals xs its):(!its.toArray.isEmpty)=!xs.isEmpty:=by cases r <;> simp
theorem VO:(sizeLine:Nat) < 2 ^ 63:=by rw [iP]; decide
theorem qgl:qkk X (λx H Q=>∃ k,qiH X.K x H k/\Q k H):=by
 intro pins s σ H x v Q I d h;obtain ⟨k,e,q⟩:=h;have hl:=VO;have hs:sizeLine=16777216:=iP;cases x with
 | non=>cases d;have a:k=false:=e;subst a;exact truthy_none ⟨H,I,q⟩
 | bl b=>cases d;have a:k=b:=e;subst a;exact i7 ⟨H,I,q⟩
 | int i=>obtain ⟨t,rfl⟩:=d;have a:k=(i != 0):=e;subst a;exact PySem.P.truthy_int ⟨H,I,q⟩
 | str y=>obtain ⟨t,rfl⟩:=d;obtain ⟨hy,a⟩:y.length<=sizeLine/\k=((y.length:Int) != 0):=e;subst a;exact PySem.P.truthy_str (by omega) ⟨H,I.tok _,q⟩
 | byt y=>obtain ⟨t,rfl⟩:=d;obtain ⟨hy,a⟩:y.size<=sizeLine/\k=((y.size:Int) != 0):=e;subst a;exact PySem.W.truthy_bytes (by omega) ⟨H,I.tok _,q⟩
 | ref p=>
  cases d;have a:(∃ xs,SqL X.K H p xs/\k=!xs.isEmpty)\/(∃ xs,SqT X.K H p xs/\k=!xs.isEmpty)\/∃ kvs,H p=iF (.dK kvs)/\k=!kvs.isEmpty:=e;rcases a with ⟨xs,hx,a⟩ | ⟨xs,hx,a⟩ | ⟨kvs,hx,a⟩
  ·subst a;obtain ⟨its,r,pl,hz⟩:=I.list hx;have n:=r.length;exact wpAny_truthy_list pl.isList (by simp only [aj]; omega) ⟨H,I.tok _,by rw [JB r]; exact q⟩
  ·subst a;obtain ⟨its,r,pl,hz⟩:=I.tuple hx;have n:=r.length;exact truthy_tuple pl (by simp only [aj]; omega) ⟨H,I.tok _,by rw [JB r]; exact q⟩
  ·subst a;obtain ⟨hz,hS,vs,r,m⟩:kvs.length<=sizeLine/\(p == sysModules)=iJ/\∃ vs,KV kvs vs/\s.heap.DictOf (qZ X.prog X.w) p vs:=I.hok p _ hx;have n:kvs.length=vs.length:=fU r;exact wpAny_truthy_dict hS m (by omega) ⟨H,I.tok _,by rw [XY r]; exact q⟩
 | _=>exact (show False from e).elim
theorem qbI (g:PE X a ta) (i:∀ whole,isTrue a X.env whole=(do let v <-whole; standAt a.pos; holding [v] (truthy v))):PT X a (λσ H Q=>ta σ H λx H'=>∃ k,qiH X.K x H' k/\Q k H'):=by refine ⟨?_⟩;intro pins s σ H Q I h;exact isTrue_plain (thn (g pins s σ H _ I h) λv s1 ⟨x,H1,d,r1,q⟩=>qgl pins s1 σ H1 x v Q d r1 q) (i _)
theorem XZ:OpR X (binaryOp .Add) (λx y H Q=>∃ i j,x=.str i/\y=.str j/\i.length+j.length<=sizeLine/\Q (.str (i++j)) H):=by intro pins s σ H x y v u Q I d c h;obtain ⟨i,j,rfl,rfl,hz,q⟩:=h;obtain ⟨t,rfl⟩:=d;obtain ⟨t',rfl⟩:=c;exact add_str (λt' tk=>⟨.str (i++j),H,I.tok _,⟨_,rfl⟩,q⟩) hz
theorem xR {x:V} (r:Vals [x] us):∃ u,us=[u]/\RelV x u:=by
 cases r with
 | cons r1 r2=>cases r2; exact ⟨_,rfl,r1⟩
theorem Za {x:V} (r:Vals [x,y] us):∃ u w',us=[u,w']/\RelV x u/\RelV y w':=by
 cases r with
 | cons r1 r2=>
  cases r2 with
  | cons r3 r4=>cases r4; exact ⟨_,_,rfl,r1,r3⟩
theorem Gm (d:X.calm=iK):yb X (.builtin "max") (λxs H Q=>∃ i j,xs=[.int i,.int j]/\Q (.int (if j > i then j else i)) H):=by
 intro pins s σ H xs us Q I r h;obtain ⟨i,j,rfl,q⟩:=h;obtain ⟨u,w',rfl,⟨t,rfl⟩,⟨t',rfl⟩⟩:=Za r;refine max_two_ints (I.ok.hd d) λh' tk k=>⟨_,H,I.kept k,?_,q⟩
 by_cases D:j > i;·rw [if_pos D,if_pos D]; exact ⟨_,rfl⟩
 ·rw [if_neg D,if_neg D]; exact ⟨_,rfl⟩
theorem Gn (d:X.calm=iK):yb X (.builtin "min") (λxs H Q=>∃ i j,xs=[.int i,.int j]/\Q (.int (if j < i then j else i)) H):=by
 intro pins s σ H xs us Q I r h;obtain ⟨i,j,rfl,q⟩:=h;obtain ⟨u,w',rfl,⟨t,rfl⟩,⟨t',rfl⟩⟩:=Za r;refine min_two_ints (I.ok.hd d) λh' tk k=>⟨_,H,I.kept k,?_,q⟩
 by_cases D:j < i;·rw [if_pos D,if_pos D]; exact ⟨_,rfl⟩
 ·rw [if_neg D,if_neg D]; exact ⟨_,rfl⟩
def qkm (K:Frag) (x:V) (H:Hp) (n:Nat):Prop:=
 match x with
 | .str y=>y.length<=sizeLine/\n=y.length
 | .byt y=>y.size<=sizeLine/\n=y.size
 | .ref p=>(∃ xs,SqL K H p xs/\n=xs.length)\/∃ xs,SqT K H p xs/\n=xs.length
 | _=>False
theorem Kh:yb X (.builtin "len") (λxs H Q=>∃ x n,xs=[x]/\qkm X.K x H n/\Q (.int n) H):=by
 intro pins s σ H xs us Q I r h;obtain ⟨x,n,rfl,e,q⟩:=h;obtain ⟨u,rfl,d⟩:=xR r;have hl:=VO;have hs:sizeLine=16777216:=iP;cases x with
 | str y=>obtain ⟨t,rfl⟩:=d;obtain ⟨hy,b⟩:y.length<=sizeLine/\n=y.length:=e;subst b;exact len_str (by omega) ⟨.int _,H,I.tok _,⟨_,rfl⟩,q⟩
 | byt y=>obtain ⟨t,rfl⟩:=d;obtain ⟨hy,b⟩:y.size<=sizeLine/\n=y.size:=e;subst b;exact PySem.W.len_bytes (by omega) ⟨.int _,H,I.tok _,⟨_,rfl⟩,q⟩
 | ref p=>
  cases d;have b:(∃ xs,SqL X.K H p xs/\n=xs.length)\/∃ xs,SqT X.K H p xs/\n=xs.length:=e;rcases b with ⟨xs,hx,b⟩ | ⟨xs,hx,b⟩
  ·subst b;obtain ⟨its,r',pl,hz⟩:=I.list hx;have a:=r'.length;exact Calls.call_len_list pl.isList (by simp only [aj]; omega) ⟨.int xs.length,H,I.tok _,⟨_,by simp only [aj]; rw [a]⟩,q⟩
  ·subst b;obtain ⟨its,r',pl,hz⟩:=I.tuple hx;have a:=r'.length;exact len_tuple pl (by simp only [aj]; omega) ⟨.int xs.length,H,I.tok _,⟨_,by simp only [aj]; rw [a]⟩,q⟩
 | _=>exact (show False from e).elim
end
structure ObjM (h:Heap) (x dx C:Addr) (mA:Str->Option iI):Prop where
 obj:h.get? x=iF (cx C dx)
 ns:h.Ns1 dx mA
 ne:dx≠x
variable {dx:Addr} {mA:Str->Option iI}
theorem Go (n:h.Ns1 dx mA):∃ od,h.get? dx=iF od/\∀ name,fE name od=iF (mA name):=by
 obtain ⟨o,es,ep,l,hd,k,_,c⟩:=n;refine ⟨o,l,λname=>?_⟩;have e:=c name;unfold nsFind findBy at e;rw [<-Array.find?_toList] at e;unfold fE;rw [hd];dsimp only;split;·rename_i y q;rw [q] at e;exact congrArg iF e
 ·rename_i q;rw [q] at e;have a:es.toList.any (·.refKey)=false:=by rw [List.any_eq_false];intro y B;obtain ⟨z,t,b⟩:=k y (Array.mem_toList_iff.mp B);simp [DictEntry.refKey,b]
  have d:¬es.toList.any (·.refKey)=true:=by rw [a]; exact bD
  rw [if_neg d];exact congrArg iF e
variable {C:Addr}
theorem ObjM.look {x:Addr} (I:ObjM h x dx C mA):∃ od,PySem.W.InstAt h x (cx C dx) C (iF od)/\∀ name,fE name od=iF (mA name):=
 let ⟨od,l,hl⟩:=Go I.ns
 ⟨od,⟨I.obj,rfl,rfl,l⟩,hl⟩
section
variable {prog:iN} {x f:Addr} {name:Str} {v:iI}
theorem qd4 {e:Bool} {Q:iI->iL->Prop} (X:K.In s.heap) (I:ObjM s.heap x dx C mA) (hg:c7 K C name=iK) (b:dD K C=iK)
  (g:aO K (.ref C) name=iF iH) (c:mA name=iF v) (a:PySem.W.handedIn v=iK) (h:Q v { s with toks:=s.toks+1 }) :
  wpAny (model prog w) A (getAttr (.ref x) name e) Q E s:=by
 obtain ⟨od,J,hl⟩:=I.look;exact PySem.W.get_value X J (fA hg).1 (PySem.W.findObj_own b g rfl (by rw [hl,c])) a h
theorem qbJ {pl:Sem Bool} {Q:iI×List iI->iL->Prop} (X:K.In s.heap) (I:ObjM s.heap x dx C mA) (hg:c7 K C name=iK)
  (a:aO K (.ref C) name=iF (iF (.ref f))) (ht:cH K (.ref f)=iK) (c:mA name=iH) (h:Q (.ref f,[.ref x]) s) :
  wpAny (model prog w) A (getMethod (.ref x) name pl) Q E s:=by
 obtain ⟨od,J,hl⟩:=I.look;exact PySem.W.method_fn X J (fA hg).1 (fA hg).2 a (beq_iff_eq.mp ht) (by show (fE name od).map (·.isSome)=iF iJ; rw [hl,c]; rfl) h
theorem qd5 {ns:List Str} {Q:Unit->iL->Prop} (X:K.In s.heap) (I:ObjM s.heap x dx C mA)
  (hs:aO K (.ref C) "__setattr__"=iF (iF (.builtin "object.__setattr__"))) (hp:ei K C=iK) (ht:f9 K C name=iF iH) (i:dD K C=iK)
  (hw:iq mA ns) (hsz:ns.length<=sizeLine)
  (h:∀ h',ObjM h' x dx C (λy=>if y=name then iF v else mA y)->bj dx s.heap h'->Q () { s with heap:=h',toks:=s.toks+2 }) :
  wpAny (model prog w) A (setAttr (.ref x) name v) Q E s:=by
 obtain ⟨od,J,hl⟩:=I.look;refine PySem.W.set_plain X J hs (PySem.W.osa_open (s:={ s with toks:=s.toks+1 }) (r:=iH) X J hp ht λb=>?_);obtain ⟨cd,j,f⟩:=PySem.W.any_some i;have hx:s.heap.get? x=iF ⟨.ref C,iF dx,.plain,#[]⟩:=I.obj;refine iG (iM (iG (iG (wpAny_loadPart hx (iG (PySem.W.Looks.here (s:={ s with toks:=s.toks+1 }) (PySem.W.looks_clsIn X j) ?_))))));rw [f];refine iM (a:=iF dx) (iG (iM (iG ?_)));refine wpAny_nsSet1 (s:={ s with toks:=s.toks+1 }) I.ns λh' d c=>?_;obtain ⟨o,k,l,D,e,g⟩:=d.count (PySem.Within.cons name v hw);refine iG (wpAny_lookBehind D (by rw [e]; exact pastItsLine_dict (bA g (by rw [au]; omega))) ?_);exact iM (h _ ⟨(c.2 _ (bf I.ne)).trans I.obj,d,I.ne⟩ c)
theorem qbK {R:lF->iL->Prop} {vs:List iI} {kw:List (Str×iI)} (X:K.In s.heap) (c:g0 K C=iK)
  (hi:aO K (.ref C) "__init__"=iF (iF (.ref f))) (a:PySem.W.typeIn K (.ref f)=iF (.type "function"))
  (h:codeAny (model prog w) (A.under (.builtin "type.__call__" ⟨.ref C::vs,kw⟩)) (.call (.ref f) ⟨.ref (s.heap.objs.size+1)::vs,kw⟩) (PySem.W.InitBack (s.heap.objs.size+1) R)
   { s with heap:=(s.heap.push bJ).push (cx C s.heap.objs.size) }) :
  codeAny (model prog w) A (.call (.ref C) ⟨vs,kw⟩) R s:=by
 obtain ⟨b,g,d,t,os⟩:=s;exact PySem.W.make_core (PySem.W.makes_of X c) (PySem.W.looks_findIn X hi) (λself=>PySem.W.bind_fn X self a) (.inl rfl) h
end
noncomputable def Ki (f:Str) (v:V):List (Str×V)->List (Str×V)
 | []=>[(f,v)]
 | (g,x)::r=>if g=f then (g,v)::r else (g,x)::Ki f v r
theorem Qg (f g:Str) (v:V):∀ fs:List (Str×V),(Ki f v fs).lookup g=if g=f then iF v else fs.lookup g
 | []=>by
  show cr g [(f,v)]=_;by_cases h:g=f;·have d:(g == f)=true:=beq_iff_eq.mpr h;simp only [cr,d,if_pos h]
  ·have d:(g == f)=false:=beq_eq_false_iff_ne.mpr h;simp only [cr,d,if_neg h]
 | (k,x)::r=>by
  have j:=Qg f g v r;rw [show Ki f v ((k,x)::r)=(if k=f then (k,v)::r else (k,x)::Ki f v r) from rfl];by_cases a:k=f
  ·rw [if_pos a];by_cases h:g=k;·have d:(g == k)=true:=beq_iff_eq.mpr h;simp only [cr,d,if_pos (h.trans a)]
   ·have d:(g == k)=false:=beq_eq_false_iff_ne.mpr h;simp only [cr,d,if_neg (λe:g=f=>h (e.trans a.symm))]
  ·rw [if_neg a];by_cases h:g=k;·have d:(g == k)=true:=beq_iff_eq.mpr h;simp only [cr,d,if_neg (λe:g=f=>a (h.symm.trans e))]
   ·have d:(g == k)=false:=beq_eq_false_iff_ne.mpr h;simp only [cr,d];exact j
theorem Qh (f:Str) (v:V):∀ fs:List (Str×V),f∈(Ki f v fs).map (·.1)/\∀ g,g∈fs.map (·.1)->g∈(Ki f v fs).map (·.1)
 | []=>⟨by simp [Ki],λg h=>by simp at h⟩
 | (k,x)::r=>by
  obtain ⟨i1,i2⟩:=Qh f v r;rw [show Ki f v ((k,x)::r)=(if k=f then (k,v)::r else (k,x)::Ki f v r) from rfl];by_cases a:k=f;·rw [if_pos a];subst a;exact ⟨by simp,λg h=>by simpa using h⟩
  ·rw [if_neg a];refine ⟨?_,λg h=>?_⟩;·rw [aJ];exact af _ i1
   ·rw [aJ] at h ⊢;rcases ae.mp h with e | e;·exact ae.mpr (.inl e)
    ·exact af _ (i2 g e)
theorem Qi (f:Str) (v:V):∀ fs:List (Str×V),(Ki f v fs).length<=fs.length+1
 | []=>by simp [Ki]
 | (k,x)::r=>by
  have j:=Qi f v r;rw [show Ki f v ((k,x)::r)=(if k=f then (k,v)::r else (k,x)::Ki f v r) from rfl];by_cases h:k=f;·rw [if_pos h,au,au]; omega
  ·rw [if_neg h,au,au]; omega
theorem RelO.some_of {o:Option iI} (r:RelO (iF v) o):∃ u,o=iF u/\RelV v u:=by
 cases o with
 | none=>exact (show False from r).elim
 | some u=>exact ⟨u,rfl,r⟩
theorem RelO.none_of {o:Option iI} (r:RelO iH o):o=none:=by
 cases o with
 | none=>rfl
 | some u=>exact (show False from r).elim
theorem Gp (r:RelV v u):PySem.W.handedIn u=true:=by
 cases v with
 | non=>cases (show u=bw from r); rfl
 | bl b=>cases (show u=aZ b from r); rfl
 | int i=>obtain ⟨t,e⟩:=(show ∃ t,u=fg i t from r); cases e; rfl
 | str x=>obtain ⟨t,e⟩:=(show ∃ t,u=dt x t from r); cases e; rfl
 | byt b=>obtain ⟨t,e⟩:=(show ∃ t,u=Value.bytes b t from r); cases e; rfl
 | flt b=>obtain ⟨t,e⟩:=(show ∃ t,u=Value.float b t from r); cases e; rfl
 | ref a=>cases (show u=aI a from r); rfl
 | ty n=>cases (show u=df n from r); rfl
section
variable {fs fs':List (Str×V)}
theorem Up (hok:HOk P w H h) (e:H a=iF (.ins C dx fs)):∃ mA,ObjM h a dx C mA/\(∀ f,RelO (fs.lookup f) (mA f))/\iq mA (fs.map (·.1))/\fs.length<=1000/\H dx=iF (.own a):=by
 obtain ⟨d,z,ne,b,mA,n,r,q⟩:=(show ObjOk P w H h a (.ins C dx fs) from hok a _ e)
 exact ⟨mA,⟨b,n,ne⟩,r,q,z,d⟩
end
structure Cls (K:Frag) (C:Addr):Prop where
 pg:c7 K C iC=iK
 hd:dD K C=iK
 po:ei K C=iK
 sa:aO K (.ref C) "__setattr__"=iF (iF (.builtin "object.__setattr__"))
theorem Cls.get (c:Cls K C) (f:Str):c7 K C f=true:=c.pg
def NoAttr (K:Frag) (C:Addr) (f:Str):Prop:=aO K (.ref C) f=iF iH
variable {f:Str}
theorem NoAttr.taker (n:NoAttr K C f):f9 K C f=iF none:=by unfold f9;rw [show aO K (.ref C) f=iF iH from n];rfl
structure Meth (K:Frag) (C:Addr) (m:Str) (f:Addr):Prop where
 at_:aO K (.ref C) m=iF (iF (.ref f))
 fn:cH K (.ref f)=iK
 kp:keepIn K (.ref f)=iK
variable {m:Str}
section
variable {fs:List (Str×V)}
theorem Zb {b:Bool} {Q:iI->iL->Prop} (I:Inv X pins σ H s) (e:H a=iF (.ins C dx fs)) (c:Cls X.K C) (n:NoAttr X.K C f) (l:fs.lookup f=iF v)
  (h:∀ u s',Inv X pins σ H s'->RelV v u->Q u s'):wpAny (model X.prog X.w) A (getAttr (.ref a) f b) Q E s:=by
 obtain ⟨mA,O,r,_,_,_⟩:=Up I.hok e;obtain ⟨u,g,d⟩:=RelO.some_of (v:=v) (o:=mA f) (by rw [<-l]; exact r f);exact qd4 I.kIn O (c.get f) c.hd n g (Gp d) (h u _ (I.tok _) d)
theorem JC {g:Addr} {pl:Sem Bool} {Q:iI×List iI->iL->Prop} (I:Inv X pins σ H s) (e:H a=iF (.ins C dx fs)) (c:Cls X.K C) (k:Meth X.K C m g) (l:fs.lookup m=iH)
  (h:Q (.ref g,[.ref a]) s):wpAny (model X.prog X.w) A (getMethod (.ref a) m pl) Q E s:=by
 obtain ⟨mA,O,r,_,_,_⟩:=Up I.hok e;have n:mA m=none:=RelO.none_of (by rw [<-l]; exact r m);exact qbJ I.kIn O (c.get m) k.at_ k.fn n h
theorem Zc {Q:Unit->iL->Prop} (I:Inv X pins σ H s) (e:H a=iF (.ins C dx fs)) (c:Cls X.K C) (n:NoAttr X.K C f) (hl:fs.length < 1000) (j:RelV y u)
  (h:∀ s',Inv X pins σ (upd H a (.ins C dx (Ki f y fs))) s'->Q () s'):wpAny (model X.prog X.w) A (setAttr (.ref a) f u) Q E s:=by
 obtain ⟨mA,O,r,wi,_,l⟩:=Up I.hok e;have hz:(fs.map (·.1)).length<=sizeLine:=by rw [ai,iP]; omega
 refine qd5 I.kIn O c.sa c.po n.taker c.hd wi hz λh' d i=>h _ ?_;have hd:∃ o,h'.get? dx=iF o:=let ⟨o,_,_,m,_⟩:=d.ns; ⟨o,m⟩
 refine I.write (x:=a) (e:=dx) (by rw [e]; exact dg) (.inr l) (λb q k z=>(i.2 b k).trans z) hd ?_;refine ⟨by rw [qv O.ne]; exact l,?_,O.ne,d.obj,_,d.ns,λg=>?_,λg hg=>?_⟩;·have:=Qi f y fs; omega
 ·show RelO ((Ki f y fs).lookup g) (if g=f then iF u else mA g);rw [Qg];by_cases q:g=f;·rw [if_pos q,if_pos q]; exact j
  ·rw [if_neg q,if_neg q]; exact r g
 ·by_cases q:g=f;·rw [q]; exact (Qh f y fs).1
  ·refine (Qh f y fs).2 g (wi g λz=>hg ?_);show (if g=f then iF u else mA g)=iH;rw [if_neg q]; exact z
theorem Inv.made (I:Inv X pins σ H s):Inv X pins σ (upd (upd H s.heap.objs.size (.own (s.heap.objs.size+1))) (s.heap.objs.size+1) (.ins C s.heap.objs.size []))
  { s with heap:=(s.heap.push bJ).push (cx C s.heap.objs.size) }:=by
 have e1:(s.heap.push bJ).get? s.heap.objs.size=iF bJ:=ah s.heap rfl;have c:((s.heap.push bJ).push (cx C s.heap.objs.size)).get? (s.heap.objs.size+1)=iF (cx C s.heap.objs.size):=by have:=ah (s.heap.push bJ) (o:=cx C s.heap.objs.size) rfl;rwa [ba] at this
 have E:(s.heap.push bJ).Ns s.heap.objs.size (λ_=>iH):=⟨bJ,#[],_,e1,rfl,(λe i=>absurd i (by simp)),λ_=>rfl⟩
 have d:=I.laid (a:=s.heap.objs.size) (o:=.own (s.heap.objs.size+1)) (h':=s.heap.push bJ) (t':=s.toks) (λb u q=>aa _ q) (aw _) ⟨_,e1⟩;refine d.laid (a:=s.heap.objs.size+1) (o:=.ins C s.heap.objs.size []) (t':=s.toks) (λb u q=>aa _ q) (fC (ba _ _)) ?_;have ne:s.heap.objs.size≠s.heap.objs.size+1:=ay (fj _);refine ⟨by rw [qv ne,qt],be _,ne,c,λ_=>iH,(Heap.Ns1.of_empty E).at λo q=>aa _ q,λ_=>dg,λy B=>absurd rfl B⟩
theorem qd6 {prog:iN} {w:iO} {env:Env} {f:Str} {pos:Pos} {s:iL} {Q:iI->iL->Prop} (b:attributeBase e f env (eval e env)=eval e env)
  (h:wpAny (model prog w) A (eval e env) (λo d=>wpAny (model prog w) A (getAttr o f iK) Q E d) E s):wpAny (model prog w) A (eval (.Attribute e f pos) env) Q E s:=
 Attribute_any_ h (by rw [arm_eval_Attribute,b])
end
def qkn (K:Frag) (ta:TE) (f:Str):TE:=λσ H Q=>ta σ H λx H1=>∃ a C dx fs v,x=.ref a/\H1 a=iF (.ins C dx fs)/\Cls K C/\NoAttr K C f/\fs.lookup f=iF v/\Q v H1
def qko (K:Frag) (ta tv:TE) (f:Str):TS:=λD σ H=>tv σ H λy H1=>ta σ H1 λx H2=>∃ a C dx fs,x=.ref a/\H2 a=iF (.ins C dx fs)/\Cls K C/\NoAttr K C f/\fs.length < 1000 /\
 D.nx σ (upd H2 a (.ins C dx (Ki f y fs)))
section
variable {o value:Expr} {tpos:Pos} {tv:TE}
theorem qgm (i:PE X e ta) (b:attributeBase e f X.env (eval e X.env)=eval e X.env):PE X (.Attribute e f pos) (qkn X.K ta f):=by refine ⟨?_⟩;intro pins s σ H Q I h;refine qd6 b (thn (i pins s σ H _ I h) λu s1 ⟨x,H1,k,d,a,C,dx,fs,v,ex,g,c,n,l,q⟩=>?_);subst ex;obtain rfl:u=aI a:=d;exact Zb k g c n l λU s2 j A=>⟨v,H1,j,A,q⟩
theorem qgn (g:PE X o ta) (b:PE X value tv) (hs:swapsWith value (iF (.Attribute o f pos')) pos.line X.env=pure iJ):PS X (.Assign [.Attribute o f pos'] value pos) (qko X.K ta tv f):=by refine ⟨?_⟩;intro pins s σ H D I h;refine plainObj_wpAny_Assign_Attribute (thn (b pins s σ H _ I h) λu s1 ⟨y,H1,m,r,q⟩=>thn (g pins s1 σ H1 _ m q) λv s2 ⟨x,H2,j,d,a,C,dx,fs,ex,i,c,n,l,e⟩=>?_) hs;subst ex;obtain rfl:v=aI a:=d;exact Zc j i c n l r λs3 k=>⟨σ,_,k,e⟩
end
structure Room (k:Nat) (A:iQ):Prop where
 hd:A.handled=iH
 dp:A.depth+3 * k+5 < recursionLimit
 un:A.units+16 * k+200 < cLine
theorem Room.mono {j k:Nat} (r:Room k A) (h:j<=k):Room j A:=⟨r.hd,by have:=r.dp; omega,by have:=r.un; omega⟩
theorem Room.deeper {k:Nat} (r:Room (k+1) A) (env:Env):Room k (A.deeper env):=
 ⟨r.hd,by have:=r.dp; show A.depth+1+3 * k+5 < _; omega,by have:=r.un; show A.units+3+16 * k+200 < _; omega⟩
theorem Room.in1 {k:Nat} (r:Room (k+1) A):Room k A.in1:=
 ⟨r.hd,by have:=r.dp; show A.depth+3 * k+5 < _; omega,by have:=r.un; show A.units+1+16 * k+200 < _; omega⟩
variable {kw:List (Str×iI)}
theorem Zd:(A.under (.builtin "type.__call__" ⟨.ref C::us,kw⟩)).depth=A.depth+1:=by first | rfl | simp [iu,Code.weight,Code.isCreation,Code.isGuard,Code.isCaller,Code.frames,iA,guardIds]
theorem Ze:(A.under (.builtin "type.__call__" ⟨.ref C::us,kw⟩)).units=A.units+1:=by first | rfl | simp [iu,Code.cUnits,Code.frames,iA]
theorem Room.make {k:Nat} (r:Room (k+1) A) (C:Addr) (us:List iI) (kw:List (Str×iI)):Room k (A.under (.builtin "type.__call__" ⟨.ref C::us,kw⟩)):=
 ⟨r.hd,by have:=r.dp; rw [Zd]; omega,by have:=r.un; rw [Ze]; omega⟩
theorem Room.depth {k:Nat} (r:Room k A):A.depth < recursionLimit:=by have:=r.dp; omega
theorem Room.units {k:Nat} (r:Room k A):A.units+64 < cLine:=by have:=r.un; omega
def qgo:TA:=λ_ H Q=>Q [] H
def Zf (ta:TE) (tr:TA):TA:=λσ H Q=>ta σ H λx H1=>tr σ H1 λxs H2=>Q (x::xs) H2
section
variable {t:TA}
theorem jG:PA X [] qgo:=⟨λ_ _ _ _ H Q I h=>fJ ⟨[],H,I,.nil,h⟩⟩
theorem qN (g:PE X e te) (c:PA X es t) (hs:starEach (e::es) X.env=(iJ,eval e X.env)::starEach es X.env:=by rfl):PA X (e::es) (Zf te t):=by refine ⟨?_⟩;intro pos pins s σ H Q I h;rw [hs];show wpAny _ _ (spliced ((iJ,eval e X.env)::backTo pos (starEach es X.env))) _ _ s;refine fF (thn (g pins s σ H _ I h) λu s1 ⟨x,H1,d,r1,a⟩=>?_);exact thn (c pos pins s1 σ H1 _ d a) λus s2 ⟨xs,H2,b,r2,q⟩=>⟨x::xs,H2,b,.cons r1 r2,q⟩
def qkp (t:TA):TE:=λσ H Q=>t σ H λxs H1=>xs.length<=sizeLine/\∀ p,H1 p=iH->Q (.ref p) (upd H1 p (.tup xs))
def qkq (t:TA):TE:=λσ H Q=>t σ H λxs H1=>xs.length<=sizeLine/\∀ p,H1 p=iH->Q (.ref p) (upd H1 p (.lst xs))
theorem qgp {x1} (h:PA X es t):PE X (.Tuple es x1 pos) (qkp t):=by refine ⟨?_⟩;intro pins s σ H Q I hq;refine wpAny_Tuple_spliced (thn (h pos pins s σ H _ I hq) λus s1 ⟨xs,H1,d,r,z,q⟩=>⟨by rw [<-r.length]; exact z,?_⟩);have f:H1 s1.heap.objs.size=none:=d.hok.fresh (aw _);refine ⟨.ref s1.heap.objs.size,upd H1 s1.heap.objs.size (.tup xs),d.laid (t':=s1.toks) (λb u e=>aa _ e) (aw _) ?_,rfl,q _ f⟩;exact ⟨⟨z,_,ah _ rfl,rfl⟩,us,r,⟨_,ah _ rfl,rfl,_,rfl⟩⟩
theorem qgq (h:PA X es t):PE X (.List es pos) (qkq t):=by refine ⟨?_⟩;intro pins s σ H Q I hq;refine wpAny_List_spliced (thn (h pos pins s σ H _ I hq) λus s1 ⟨xs,H1,d,r,z,q⟩=>⟨by rw [<-r.length]; exact z,?_⟩);have f:H1 s1.heap.objs.size=none:=d.hok.fresh (aw _);refine ⟨.ref s1.heap.objs.size,upd H1 s1.heap.objs.size (.lst xs),d.laid (t':=s1.toks) (λb u e=>aa _ e) (aw _) ?_,rfl,q _ f⟩;exact ⟨z,us,0,r,ah _ rfl⟩
end
abbrev Sp:=List V->Hp->VK->XK->Prop
abbrev CXT:=List Env->Hp->iL->XK->iI->iL->Prop
structure Env0 (P:iN) (w:iO) (K:Frag) (mg:Str->Option iI) (base:Heap) (A:iQ) (outer:List Env) (s:iL) (H:Hp):Prop where
 frames:A.frames=iF outer
 mod:Mod K mg base
 bs:∀ b o,base.get? b=iF o->s.heap.get? b=iF o/\H b=iH
 bsz:base.objs.size<=s.heap.objs.size
 funs:s.heap.FunFrames base outer
 frf:∀ b∈frs outer,H b=iH
 hok:HOk P w H s.heap
 bare:lw s.gens
def CE (outer:List Env) (P:iN) (w:iO) (H:Hp) (s:iL) (Q:VK) (u:iI) (s':iL):Prop:=
 ∃ v H',s'.os=s.os/\lw s'.gens/\Un (frs outer) [] H H' s.heap s'.heap/\HOk P w H' s'.heap/\RelV v u/\Q v H'
def CR (CX:CXT) (outer:List Env) (P:iN) (w:iO) (H:Hp) (s:iL) (Q:VK) (E:XK) (r:lF) (s':iL):Prop:=
 match r with
 | .ok (.ret u)=>CE outer P w H s Q u s'
 | .ok _=>False
 | .error e=>CX outer H s E e s'
structure FnOk (P:iN) (w:iO) (K:Frag) (mg:Str->Option iI) (base:Heap) (CX:CXT) (k:Nat) (f:Addr) (fd:k4) (ps:List Str) (sp:Sp):Prop where
 len:∀ vs H Q E,sp vs H Q E->vs.length=ps.length
 run:∀ (A:iQ) (outer:List Env) (s:iL) (H:Hp) (args:Args) (us:List iI) (vs:List V) (Q:VK) (E:XK),Room k A->Env0 P w K mg base A outer s H->lJ s fd args (ps.zip us)->Vals vs us->sp vs H Q E ->codeAny (model P w) A (.call (.ref f) args) (CR CX outer P w H s Q E) s
variable {mg:Str->Option iI} {base:Heap} {CX:CXT} {fd:k4} {ps:List Str} {sp:Sp}
theorem FnOk.imp {k:Nat} {f:Addr} {a:Sp} (F:FnOk P w K mg base CX k f fd ps sp)
  (h:∀ vs H Q E,a vs H Q E->sp vs H Q E):FnOk P w K mg base CX k f fd ps a:=
 ⟨λvs H Q E q=>F.len vs H Q E (h _ _ _ _ q),λA outer s H args us vs Q E r i d c hs=>F.run A outer s H args us vs Q E r i d c (h _ _ _ _ hs)⟩
variable {outer:List Env}
theorem Env0.make (e:Env0 P w K mg base A outer s H) (C:Addr) (us:List iI) (kw:List (Str×iI)):Env0 P w K mg base (A.under (.builtin "type.__call__" ⟨.ref C::us,kw⟩)) outer s H:=⟨by first | exact e.frames | (simpa [iu,Code.envs,iA,pushEnvs] using e.frames),e.mod,e.bs,e.bsz,e.funs,e.frf,e.hok,e.bare⟩
theorem Env0.in1 (e:Env0 P w K mg base A outer s H):Env0 P w K mg base A.in1 outer s H:=⟨e.frames,e.mod,e.bs,e.bsz,e.funs,e.frf,e.hok,e.bare⟩
section
theorem Inv.env0 (I:Inv X pins σ H s):Env0 X.prog X.w X.K X.mg X.base X.A X.stack s H:=
 ⟨I.ok.frames,I.ok.mod,I.bs,bA I.ok.bsz I.sz,I.stack,I.stkFree,I.hok,I.bare⟩
theorem Inv.after {Q:VK} (I:Inv X pins σ H s) (h:CE X.stack X.prog X.w H s Q u s'):EP X pins σ Q u s':=by obtain ⟨v,H',os,bare,un,hok,r,q⟩:=h;obtain ⟨a,g,d,t,o⟩:=s';obtain rfl:o=s.os:=os;exact ⟨v,H',I.call (h':=a) (g':=g) (d':=d) (t':=t) (ch:=[]) un hok bare (λb z=>absurd z (by simp)),r,q⟩
end
def qiI (sp:Sp) (dvs:List V) (E:XK) (t:TA):TE:=λσ H Q=>t σ H λvs H1=>sp (vs++dvs) H1 Q E
def qgr (C:Addr) (m:Str) (sp:Sp) (dvs:List V) (E:XK) (ta:TE) (t:TA):TE:=λσ H Q=>ta σ H λx H1=>∃ a dx fs,x=.ref a/\H1 a=iF (.ins C dx fs)/\fs.lookup m=iH /\
 t σ H1 λvs H2=>sp (x::(vs++dvs)) H2 Q E
def qiJ (C:Addr) (sp:Sp) (dvs:List V) (E:XK) (t:TA):TE:=λσ H Q=>t σ H λvs H1=>∀ x dx,H1 x=iH->H1 dx=iH->dx≠x ->sp (.ref x::(vs++dvs)) (upd (upd H1 dx (.own x)) x (.ins C dx [])) (λv H2=>v=.non/\Q (.ref x) H2) E
def Binds (K:Frag) (fd:k4) (ps:List Str) (ds:List iI):Prop:=
 ∀ (s:iL) (us:List iI),K.In s.heap->(us++ds).length=ps.length->lJ s fd ⟨us,[]⟩ (ps.zip (us++ds))
theorem Binds.all (h:∀ us:List iI,us.length=ps.length->bindArgs fd ⟨us,[]⟩=pure (ps.zip us)):Binds K fd ps []:=λs us _ hl=>by rw [bp] at hl ⊢;exact .of_eq (h us hl)
def kl (CX:CXT) (X:Cx) (E:XK):Prop:=∀ (pins:Pns) (σ:St) (H:Hp) (s:iL) (e:iI) (s':iL),Inv X pins σ H s->CX X.stack H s E e s'->X.xe e s'
variable {apos:Pos}
section
variable {k:Nat} {f:Addr} {dvs:List V} {ds:List iI} {E:XK} {o:Expr} {t:TA}
theorem Gq {pins:Pns} {σ:St} {H:Hp} {s:iL} {Q:VK} {us:List iI} {vs:List V} (F:FnOk X.prog X.w X.K X.mg X.base CX k f fd ps sp) (c:Room k X.A) (d:Binds X.K fd ps ds) (hd:Vals dvs ds) (hx:kl CX X E)
  (I:Inv X pins σ H s) (r:Vals vs us) (h:sp (vs++dvs) H Q E):wpAny (model X.prog X.w) X.A (call (.ref f) us) (EP X pins σ Q) X.xe s:=by
 have r2:Vals (vs++dvs) (us++ds):=r.append hd;have hl:(us++ds).length=ps.length:=by rw [<-r2.length]; exact F.len _ _ _ _ h
 refine lL (lg (F.run X.A X.stack s H ⟨us,[]⟩ (us++ds) (vs++dvs) Q E c I.env0 (d s us I.kIn hl) r2 h) λr s' hq=>?_);cases r with
 | error e=>exact hx pins σ H s e s' I hq
 | ok l=>
  cases l with
  | ret u=>exact I.after hq
  | next=>exact bI hq
  | brk=>exact bI hq
  | cont=>exact bI hq
theorem qd7 (F:FnOk X.prog X.w X.K X.mg X.base CX k f fd ps sp) (c:Room k X.A) (hg:Gl X x) (m:X.mg x=iF (.ref f)) (a:keepIn X.K (.ref f)=iK) (g:Binds X.K fd ps ds) (hd:Vals dvs ds) (hx:kl CX X E)
  (j:PA X (e::es) t) (b:Dbg x:=by decide) (i:starEach (e::es) X.env=(iJ,eval e X.env)::starEach es X.env:=by rfl) (l:(backTo pos (starEach es X.env)).any (·.1)=false:=by rfl) :
  PE X (.Call (.Name x p) (e::es) [] pos) (qiI sp dvs E t):=by
 refine ⟨?_⟩;intro pins s σ H Q I h;refine i3 (zI I hg m ?_ b);refine dZ (h₀:=X.base) I.ok.mod.kin a (thn (j pos pins s σ H _ I h) λus s1 ⟨vs,H1,d,r,q⟩=>⟨d.kIn,?_⟩) i l;exact Gq F c g hd hx d r q
theorem qd8 {pl:Sem Bool} (y:PE X o ta) (c:Cls X.K C) (g:Meth X.K C m f) (F:FnOk X.prog X.w X.K X.mg X.base CX k f fd ps sp) (v:Room k X.A) (z:Binds X.K fd ps ds) (hd:Vals dvs ds) (hx:kl CX X E) (B:PA X (e::es) t)
  (b:starEach (e::es) X.env=(iJ,eval e X.env)::starEach es X.env:=by rfl) (d:(backTo pos (starEach es X.env)).any (·.1)=false:=by rfl)
  (ht:eval (.Call (.Attribute o m apos) (e::es) [] pos) X.env=(do
   let ov <-eval o X.env
   standAt apos.atName
   let (f,first) <-holding [ov] (getMethod ov m pl)
   callWith pos f first (backTo pos (starEach (e::es) X.env)) (backToKw pos (keywordEach [] X.env))):=by rfl) :
  PE X (.Call (.Attribute o m apos) (e::es) [] pos) (qgr C m sp dvs E ta t):=by
 refine ⟨?_⟩;intro pins s σ H Q I h;refine PySem.W.methodCall_KW (pl:=pl) (thn (y pins s σ H _ I h) λu s1 ⟨x,H1,j,n,a,dx,fs,ex,D,l,q⟩=>?_) ht;subst ex;obtain rfl:u=aI a:=n;refine JC j D c g l ?_;refine dZ (first:=[.ref a]) (h₀:=X.base) I.ok.mod.kin g.kp (thn (B pos pins s1 σ H1 _ j q) λus s2 ⟨vs,H2,i,r,p⟩=>⟨i.kIn,?_⟩) b d;exact Gq (us:=.ref a::us) (vs:=.ref a::vs) F v z hd hx i (.cons rfl r) p
theorem qbL {pl:Sem Bool} (i:PE X o ta) (c:Cls X.K C) (b:Meth X.K C m f) (F:FnOk X.prog X.w X.K X.mg X.base CX k f fd ps sp) (e:Room k X.A) (g:Binds X.K fd ps ds) (hd:Vals dvs ds) (hx:kl CX X E)
  (ht:eval (.Call (.Attribute o m apos) [] [] pos) X.env=(do
   let ov <-eval o X.env
   standAt apos.atName
   let (f,first) <-holding [ov] (getMethod ov m pl)
   callWith pos f first (backTo pos (starEach [] X.env)) (backToKw pos (keywordEach [] X.env))):=by rfl) :
  PE X (.Call (.Attribute o m apos) [] [] pos) (qgr C m sp dvs E ta qgo):=by
 refine ⟨?_⟩;intro pins s σ H Q I h;refine PySem.W.methodCall_KW (pl:=pl) (thn (i pins s σ H _ I h) λu s1 ⟨x,H1,d,r,a,dx,fs,ex,j,l,q⟩=>?_) ht;subst ex;obtain rfl:u=aI a:=r;refine JC d j c b l ?_;exact PySem.W.callWith_K0 (first:=[.ref a]) d.kIn b.kp (Gq (us:=[.ref a]) (vs:=[.ref a]) F e g hd hx d (.cons rfl .nil) q)
structure Mk (K:Frag) (C f:Addr):Prop where
 makes:g0 K C=iK
 init:aO K (.ref C) "__init__"=iF (iF (.ref f))
 fn:cH K (.ref f)=iK
 kp:keepIn K (.ref C)=iK
theorem qbM {pins:Pns} {σ:St} {H:Hp} {s:iL} {Q:VK} {us:List iI} {vs:List V} (M:Mk X.K C f) (F:FnOk X.prog X.w X.K X.mg X.base CX k f fd ps sp) (b:Room (k+1) X.A) (g:Binds X.K fd ps ds) (hd:Vals dvs ds)
  (hx:kl CX X E) (I:Inv X pins σ H s) (r:Vals vs us)
  (h:∀ x dx,H x=iH->H dx=iH->dx≠x->sp (.ref x::(vs++dvs)) (upd (upd H dx (.own x)) x (.ins C dx [])) (λv H2=>v=.non/\Q (.ref x) H2) E) :
  wpAny (model X.prog X.w) X.A (call (.ref C) us) (EP X pins σ Q) X.xe s:=by
 have hq:=h (s.heap.objs.size+1) s.heap.objs.size (I.hok.fresh (hZ _)) (I.hok.fresh (aw _)) (ay (fj _));have c:=Inv.made (C:=C) I;have r2:Vals (V.ref (s.heap.objs.size+1)::(vs++dvs)) (aI (s.heap.objs.size+1)::(us++ds)):=.cons rfl (r.append hd);have hl:(aI (s.heap.objs.size+1)::us++ds).length=ps.length:=by have e:=r2.length;rw [F.len _ _ _ _ hq] at e;exact e.symm
 refine lL (qbK (f:=f) I.kIn M.makes M.init (beq_iff_eq.mp M.fn) (lg (F.run _ X.stack _ _ ⟨aI (s.heap.objs.size+1)::us,[]⟩ (aI (s.heap.objs.size+1)::(us++ds)) _ _ E (b.make C us [])
  (c.env0.make C us []) (g _ (aI (s.heap.objs.size+1)::us) c.kIn hl) r2 hq) λr s' a=>?_))
 cases r with
 | error e=>exact hx pins σ _ _ e s' c a
 | ok l=>
  cases l with
  | ret u=>obtain ⟨v,H',i,d,ev,q⟩:=c.after a;subst ev;exact ⟨d,⟨V.ref (s.heap.objs.size+1),H',i,rfl,q⟩⟩
  | next=>exact bI a
  | brk=>exact bI a
  | cont=>exact bI a
theorem qd9 (M:Mk X.K C f) (F:FnOk X.prog X.w X.K X.mg X.base CX k f fd ps sp) (c:Room (k+1) X.A) (hg:Gl X x) (m:X.mg x=iF (.ref C)) (a:Binds X.K fd ps ds) (hd:Vals dvs ds) (hx:kl CX X E)
  (g:PA X (e::es) t) (b:Dbg x:=by decide) (i:starEach (e::es) X.env=(iJ,eval e X.env)::starEach es X.env:=by rfl) (l:(backTo pos (starEach es X.env)).any (·.1)=false:=by rfl) :
  PE X (.Call (.Name x p) (e::es) [] pos) (qiJ C sp dvs E t):=by
 refine ⟨?_⟩;intro pins s σ H Q I h;refine i3 (zI I hg m ?_ b);refine dZ (h₀:=X.base) I.ok.mod.kin M.kp (thn (g pos pins s σ H _ I h) λus s1 ⟨vs,H1,d,r,q⟩=>⟨d.kIn,?_⟩) i l;exact qbM M F c a hd hx d r q
end
section
variable {k:Nat} {f:Addr} {ks:List Str} {E:XK} {kpos:Pos} {o:Expr} {kws:List i0} {t tk:TA} {nm:Option Str}
variable {g:List iI->List iI->List iI} {gV:List V->List V->List V}
end
structure FnScope (N P:List Str) (sc:lh):Prop where
 kind:sc.kind=.function
 co:sc.isCoroutine=iJ
 gen:sc.isGenerator=iJ
 nd:N.Nodup
 pre:N.take P.length=P
 par:∀ x∈P,sc.names.lookup x=iF .local\/sc.names.lookup x=iF .cell
 nofree:∀ y∈sc.names,y.2≠.free
variable {kindOf:Str->Option k8}
theorem VP:∀ {binds:List (Str×iI)} {m:Str->Option iI},(∀ v,(x,v)∉binds)->bindL kindOf binds m x=m x
 | [],_,_=>rfl
 | (n,v)::r,m,h=>by
  unfold bindL;rw [VP λw hw=>h w (af _ hw)];split
  ·have:x≠n:=by rintro rfl; exact h v aq
   simp [this]
  ·rfl
theorem VQ:∀ {binds:List (Str×iI)} {m:Str->Option iI},(∀ v,(x,v)∉binds)->bindC kindOf binds m x=m x
 | [],_,_=>rfl
 | (n,v)::r,m,h=>by
  unfold bindC;rw [VQ λw hw=>h w (af _ hw)];split;·rfl
  ·have:x≠n:=by rintro rfl; exact h v aq
   simp [this]
theorem Qj {kindOf:Str->Option k8} {x:Str} {v:iI}:∀ {P:List Str} {vs:List iI} {i:Nat} {m:Str->Option iI},P.Nodup->P[i]?=iF x->vs[i]?=iF v->kindOf x=iF .local ->bindL kindOf (P.zip vs) m x=iF v
 | [],_,_,_,_,h,_,_=>by simp at h
 | _::_,[],_,_,_,_,h,_=>by simp at h
 | p::P,w::vs,0,m,nd,h1,h2,hk=>by simp at h1 h2; subst h1; subst h2;show bindL kindOf ((p,w)::P.zip vs) m p=_;unfold bindL;rw [VP λv c=>(aR.mp nd).1 (cM c).1,if_pos hk];simp
 | p::P,w::vs,i+1,m,nd,h1,h2,hk=>by show bindL kindOf ((p,w)::P.zip vs) m x=_;unfold bindL;exact Qj (i:=i) (aR.mp nd).2 (by simpa using h1) (by simpa using h2) hk
theorem Qk {kindOf:Str->Option k8} {x:Str} {v:iI}:∀ {P:List Str} {vs:List iI} {i:Nat} {m:Str->Option iI},P.Nodup->P[i]?=iF x->vs[i]?=iF v->kindOf x≠iF .local ->bindC kindOf (P.zip vs) m x=iF v
 | [],_,_,_,_,h,_,_=>by simp at h
 | _::_,[],_,_,_,_,h,_=>by simp at h
 | p::P,w::vs,0,m,nd,h1,h2,hk=>by simp at h1 h2; subst h1; subst h2;show bindC kindOf ((p,w)::P.zip vs) m p=_;unfold bindC;rw [VQ λv c=>(aR.mp nd).1 (cM c).1,if_neg hk];simp
 | p::P,w::vs,i+1,m,nd,h1,h2,hk=>by show bindC kindOf ((p,w)::P.zip vs) m x=_;unfold bindC;exact Qk (i:=i) (aR.mp nd).2 (by simpa using h1) (by simpa using h2) hk
noncomputable def wA (N:List Str) (vs:List V):St:=vs.map iF++bu (N.length - vs.length) iH
def qea (CX:CXT) (P:iN) (w:iO) (K:Frag) (mg:Str->Option iI) (base:Heap) (N:List Str) (qual:Str) (scope:lh) (f:Addr) (cd:iI) (A:iQ) (outer:List Env) (s:iL) (H:Hp) (E:XK):Cx where
 prog:=P
 w:=w
 K:=K
 mg:=mg
 base:=base
 A:=A.deeper (envOfC qual scope s.heap.objs.size f cd)
 N:=N
 s₀:=s
 H₀:=H
 env:=envOfC qual scope s.heap.objs.size f cd
 outer:=outer
 stack:=envOfC qual scope s.heap.objs.size f cd::outer
 ex:=[]
 calm:=iK
 fn:=λ_=>iK
 pn:=[]
 xe:=λe s'=>wpAny (model P w) (A.deeper (envOfC qual scope s.heap.objs.size f cd)) (leaving (envOfC qual scope s.heap.objs.size f cd) e) (λ_ a=>CX outer H s E e a) (λb a=>CX outer H s E b a) s'
theorem gQ {sc:lh} {n:Nat} (h:sc.names.lookup x=iF .cell):∃ c,(cellsFrom n sc.names []).lookup x=iF c:=by have q:=ej sc.names n [] (.inl h);exact Option.isSome_iff_exists.mp q
theorem Gr {CX:CXT} {P:iN} {w:iO} {K:Frag} {mg:Str->Option iI} {base:Heap} {N ps:List Str} {qual:Str} {scope:lh} {f:Addr} {cd:iI} {A:iQ} {outer:List Env} {s s1:iL} {H:Hp} {E:XK} {us:List iI} {vs:List V}
  (S:FnScope N ps scope) (hd:A.handled=iH) (e0:Env0 P w K mg base A outer s H) (hl:vs.length=ps.length) (r:Vals vs us)
  (x:InCallC s s.heap.objs.size (bindL (envOfC qual scope s.heap.objs.size f cd).kindOf (ps.zip us) λ_=>iH) (cellsFrom (s.heap.objs.size+1) scope.names []) (bindC (envOfC qual scope s.heap.objs.size f cd).kindOf (ps.zip us) λ_=>iH) s1) :
  Inv (qea CX P w K mg base N qual scope f cd A outer s H E) [] (wA N vs) H s1:=by
 have o:ps.length<=N.length:=by have:=congrArg h8 S.pre; rw [bQ] at this; omega
 obtain ⟨h1,tk,rfl,l⟩:=x.done;have d:∀ b:Addr,b∉(qea CX P w K mg base N qual scope f cd A outer s H E).ex:=λb z=>absurd (show b∈([]:List Addr) from z) (by simp);refine ⟨⟨e0.mod,S.kind,rfl,rfl,aw _,λy z c h1 h2=>?_,λy B=>?_,λy c _ h=>?_,λ_=>hd,Around.frames_deeper e0.frames,.inr ⟨rfl,rfl⟩,λb z=>absurd z (d b),e0.bs,e0.bsz,λb _ _=>d b,λb z=>absurd z (d b),e0.funs,e0.frf⟩,rfl,e0.bare,Un.kept l,⟨_,x.toInCall.ns,λi y v h1 h2 h3=>?_⟩,λy c h=>⟨_,x.cell y c h⟩,e0.hok.fresh (aw _),λy c h=>?_,λp hp=>absurd (show p∈([]:Pns) from hp) (by simp),e0.hok.kept l,?_⟩;·exact name_of_addr x.apart (bn h1) (bn h2)
 ·have B:scope.names.lookup y=iF .cell\/scope.names.lookup y=iF .free:=B;rcases B with B | B;·exact gQ B
  ·exact absurd rfl (S.nofree _ (bn B))
 ·exact cF (x.above y c (bn h))
 ·have hi:i < vs.length:=by
   unfold wA at h2;by_cases hi:i < vs.length;·exact hi
   ·rw [bW (by simpa using hi)] at h2;rw [bR] at h2;split at h2 <;> cases h2
  have t:vs[i]?=iF v:=by
   unfold wA at h2;rw [ce (by simpa using hi),aG] at h2;cases e:vs[i]? with
   | none=>rw [e] at h2; cases h2
   | some a=>rw [e] at h2; cases h2; rfl
  obtain ⟨u,j,m⟩:=r.get t;have hp:ps[i]?=iF y:=by rw [<-S.pre,List.getElem?_take_of_lt (by omega)]; exact h1
  have g:ps.Nodup:=by rw [<-S.pre]; exact S.nd.sublist (List.take_sublist _ _)
  refine ⟨u,m,?_⟩;rcases S.par y (cT hp) with k | k;·exact .inl ⟨k,Qj g hp j k⟩
  ·obtain ⟨c,e⟩:=gQ (n:=s.heap.objs.size+1) k;refine .inr ⟨.inl k,c,e,?_⟩;have q:=x.cell y c e;rw [Qk g hp j (by show scope.names.lookup y≠_; rw [k]; decide)] at q;exact q
 ·exact e0.hok.fresh (cF (x.above y c (bn h)))
 ·unfold wA;show _=N.length;rw [ao,ai,dA];omega
theorem qiK {CX:CXT} {P:iN} {w:iO} {K:Frag} {mg:Str->Option iI} {base:Heap} {k:Nat} {f:Addr} {name qual:Str} {params:Arguments} {body:List Stmt} {scope:lh} {i kV doc pm cdv ct oc:iI} {an od:Option Addr}
  {osl:Array (Option iI)} {N ps:List Str} {sp:Sp} (j:K.lookup f=iF ⟨oc,od,.func (bO name qual params body scope i kV doc pm an cdv ct),osl⟩) (g:codeIn K cdv qual=iK) (S:FnScope N ps scope)
  (len:∀ vs H Q E,sp vs H Q E->vs.length=ps.length)
  (a:∀ (A:iQ) (outer:List Env) (s:iL) (H:Hp) (vs:List V) (Q:VK) (E:XK),Room k (A.deeper (envOfC qual scope s.heap.objs.size f cdv))->sp vs H Q E ->∃ t,PSs (qea CX P w K mg base N qual scope f cdv A outer s H E) body t/\t { nx:=λ_ H'=>Q .non H',rt:=Q } (wA N vs) H) :
  FnOk P w K mg base CX (k+1) f (bO name qual params body scope i kV doc pm an cdv ct) ps sp:=by
 refine ⟨len,λA outer s H args us vs Q E c e0 z r p=>?_⟩;have hl:=len _ _ _ _ p;have X:K.In s.heap:=e0.mod.kin.keeps λb o e=>(e0.bs b o e).1;have l:s.heap.NoLimit:=e0.mod.nolimit.keeps λb o e=>(e0.bs b o e).1;have h:∀ y∈ps.zip us,scope.names.lookup y.1=iF .local\/(scope.names.lookup y.1=iF .cell/\((cellsFrom (s.heap.objs.size+1) scope.names []).lookup y.1).isSome=iK):=λ⟨n,v⟩ B=>by
  rcases S.par n (cM B).1 with q | q;·exact .inl q
  ·exact .inr ⟨q,ej _ _ _ (.inl q)⟩
 refine codeAny_call_function c.depth (X _ _ j) rfl S.co S.gen rfl (PySem.W.codeRec_of X g) (z _ _ _ _ ?_);refine wpAny_newFunctionEnv_cells S.kind h λenv m s1 x=>?_;subst m;refine ⟨l.keeps x.toInCall.keep,codeAny_func ?_⟩;obtain ⟨t,ht,hq⟩:=a A outer s H vs Q E (c.deeper _) p;have I:Inv (qea CX P w K mg base N qual scope f cdv A outer s H E) [] (wA N vs) H s1:=Gr S c.hd e0 hl r x;refine j4 (ht [] s1 (wA N vs) H _ I hq) (λC s' hs=>?_) λe s' hs=>hs;have fin:∀ {σ':St} {H':Hp} {v:V} {u:iI},Inv (qea CX P w K mg base N qual scope f cdv A outer s H E) [] σ' H' s'->RelV v u->Q v H'->CE outer P w H s Q u s':=
  λ{σ' H' v u} J d q=>⟨v,H',J.os,J.bare,J.base,J.hok,d,q⟩
 cases C with
 | ret u=>obtain ⟨v,σ',H',J,d,q⟩:=hs;exact fin J d q
 | next=>obtain ⟨σ',H',J,q⟩:=hs;exact fin (v:=V.non) (u:=bw) J rfl q
 | brk=>obtain ⟨_,_,_,q⟩:=hs;exact bI q
 | cont=>obtain ⟨_,_,_,q⟩:=hs;exact bI q
section
variable {t:TA} {id T:String} {r:List V->Hp->VK->Prop}
def tCB (r:List V->Hp->VK->Prop) (t:TA):TE:=λσ H Q=>t σ H λvs H1=>r vs H1 Q
theorem wY (d:yb X (.builtin id) r) (hg:Gl X x) (m:X.mg x=iH) (c:bootBuiltins x=iF (.builtin id)) (g:PA X (e::es) t) (n:x ≠ "__name__":=by decide) (b:Dbg x:=by decide)
  (i:starEach (e::es) X.env=(iJ,eval e X.env)::starEach es X.env:=by rfl) (l:(backTo pos (starEach es X.env)).any (·.1)=false:=by rfl):PE X (.Call (.Name x p) (e::es) [] pos) (tCB r t):=by
 refine ⟨?_⟩;intro pins s σ H Q I h;refine i3 (xQ I hg m c ?_ n b);exact PyProof.Rows.callWith_builtin1 (thn (g pos pins s σ H _ I h) λus s1 ⟨vs,H1,a,r1,q⟩=>d pins s1 σ H1 vs us Q a r1 q) i l
theorem yc (d:yb X (.type T) r) (hg:Gl X x) (m:X.mg x=iH) (c:bootBuiltins x=iF (.type T)) (g:PA X (e::es) t) (n:x ≠ "__name__":=by decide) (b:Dbg x:=by decide)
  (i:starEach (e::es) X.env=(iJ,eval e X.env)::starEach es X.env:=by rfl) (l:(backTo pos (starEach es X.env)).any (·.1)=false:=by rfl):PE X (.Call (.Name x p) (e::es) [] pos) (tCB r t):=by
 refine ⟨?_⟩;intro pins s σ H Q I h;refine i3 (xQ I hg m c ?_ n b);exact bB (thn (g pos pins s σ H _ I h) λus s1 ⟨vs,H1,a,r1,q⟩=>d pins s1 σ H1 vs us Q a r1 q) i l
end
end L2
namespace HT
open PySem PyProof.Rows
section
open PySem.SeqAt
open PySem.AutoSeq1 (wpAny_loadPart')
open PySem.MeetsSeq PySem.MeetsSeq2 PySem.MeetsSeq3
end
section
variable {prog:iN} {w:iO} {A:iQ} {E:iI->iL->Prop} {s:iL}
theorem cat_tup {t b:Addr} {vs ws:List iI} {Q:iI->iL->Prop} (ht:IsTup s.heap t vs.toArray) (j:IsTup s.heap b ws.toArray) (v:vs≠[])
  (h1:ws=[]->Q (.ref t) s) (h2:ws≠[]->Q (.ref s.heap.objs.size) { s with heap:=s.heap.push { cls:=.type "tuple",data:=.seq (vs++ws).toArray } })
  (hsz:vs.length+ws.length<=sizeLine):wpAny (model prog w) A (binaryOp .Add (.ref t) (.ref b)) Q E s:=by
 obtain ⟨⟨cls,dd,data,sl⟩,l,g,n,hd⟩:=id ht;obtain ⟨⟨i,d,f,a⟩,h,c,n2,hd2⟩:=id j;simp only at g hd c hd2;subst g hd c hd2;have e:vs.toArray++ws.toArray=(vs++ws).toArray:=by simp
 by_cases hw:ws=[]
 ·exact lD ⟨_,l,rfl⟩ ⟨_,h,rfl⟩ noFill_tuple_add seq_tuple_add et d8 (dP _ _)
   (tuple_addW1 t b vs.toArray ws.toArray n n2 dd d sl a (by simpa using v) (by simp [hw])) ⟨l,h,h1 hw⟩
 ·refine lD ⟨_,l,rfl⟩ ⟨_,h,rfl⟩ noFill_tuple_add seq_tuple_add et d8 (dP _ _)
   (tuple_addW2 t b vs.toArray ws.toArray n n2 dd d sl a (by simpa using v) (by simpa using hw) (by rw [aj,aj]; exact hsz)) ⟨l,h,?_⟩
  rw [e];exact h2 hw
noncomputable def sIx (n d:Nat):Option Int->Nat
 | none=>d
 | some v=>if v < 0 then (v+(n:Int)).toNat else min v.toNat n
theorem sIx_none (n d:Nat):sIx n d iH=d:=rfl
theorem sIx_nat (n d k:Nat):sIx n d (iF (k:Int))=min k n:=by show (if (k:Int) < 0 then ((k:Int)+(n:Int)).toNat else min (k:Int).toNat n)=min k n;rw [if_neg (by omega),dE]
end
end HT
namespace L2
open PySem PySem.Spec PyProof.Rows
abbrev TO:=St->Hp->(Option Int->Hp->Prop)->Prop
def PO (X:Cx) (e:Option Expr) (t:TO):Prop:=
 ∀ (pins:Pns) (s:iL) (σ:St) (H:Hp) (Q:Option Int->Hp->Prop),Inv X pins σ H s->t σ H Q ->wpAny (model X.prog X.w) X.A (evalPart e X.env) (λu s'=>∃ o H',Inv X pins σ H' s'/\IsPart u o/\Q o H') X.xe s
def qeb:TO:=λ_ H Q=>Q iH H
def qiL (t:TE):TO:=λσ H Q=>t σ H λx H1=>∃ i,x=.int i/\Q (iF i) H1
variable {X:Cx} {e:Expr} {pos:Pos} {xs:List V} {us:List iI}
section
variable {te:TE} {lo hi:Option Expr} {tl th:TO} {p2:Pos}
theorem qec:PO X iH qeb:=by intro pins s σ H Q I h;rw [evalPart_none];exact iM ⟨iH,H,I,.none,h⟩
theorem qed (h:PE X e te):PO X (iF e) (qiL te):=by intro pins s σ H Q I hw;rw [evalPart_some];refine thn (h pins s σ H _ I hw) λu s1 ⟨x,H1,d,r1,a⟩=>?_;obtain ⟨i,rfl,q⟩:=a;obtain ⟨t,rfl⟩:=r1;exact ⟨iF i,H1,d,.int i t,q⟩
def SlR (X:Cx) (r:V->Option Int->Option Int->Hp->VK->Prop):Prop:=
 ∀ (pins:Pns) (s:iL) (σ:St) (H:Hp) (x:V) (v vl u:iI) (lo hi:Option Int) (sl:Addr) (Q:VK),Inv X pins σ H s->RelV x v->s.heap.IsSliceOf sl vl u .none->IsPart vl lo->IsPart u hi->r x lo hi H Q ->∃ T id,typeLookup (.type T) "__getitem__"=pure (iF (.builtin id))/\s.TypeIs v T/\wpAny (model X.prog X.w) X.A (getItem v (.ref sl)) (EP X pins σ Q) X.xe s
def tSl (r:V->Option Int->Option Int->Hp->VK->Prop) (te:TE) (tl th:TO):TE:=λσ H Q=>te σ H λx H1=>tl σ H1 λl H2=>th σ H2 λu d=>r x l u d Q
theorem qbN {r:V->Option Int->Option Int->Hp->VK->Prop} (j:SlR X r) (k:PE X e te) (hl:PO X lo tl) (i:PO X hi th):PE X (.Subscript e (.Slice lo hi iH p2) pos) (tSl r te tl th):=by refine ⟨?_⟩;intro pins s σ H Q I h;refine Subscript_ (thn (k pins s σ H _ I h) λv s1 ⟨x,H1,o,r1,g⟩=>?_);refine wpAny_Slice (thn (hl pins s1 σ H1 _ o g) λvl s2 ⟨l,H2,n,pl,f⟩=>thn (i pins s2 σ H2 _ n f) λa s3 ⟨u,d,m,p,c⟩=>?_);rw [evalPart_none];refine iM ?_;have B:Inv X pins σ d { s3 with heap:=s3.heap.push { cls:=.type "slice",data:=.fields #[vl,a,.none] } }:=m.kept (t':=s3.toks) λb t q=>aa _ q;obtain ⟨T,id,hT,ht,hg⟩:=j pins { s3 with heap:=s3.heap.push { cls:=.type "slice",data:=.fields #[vl,a,.none] } } σ d x v vl a l u s3.heap.objs.size Q B r1 (Heap.IsSliceOf.new ..) pl p c;show wpAny (model X.prog X.w) X.A (subscriptTail e (.Slice lo hi iH p2) v (.ref s3.heap.objs.size)) (EP X pins σ Q) X.xe { s3 with heap:=s3.heap.push { cls:=.type "slice",data:=.fields #[vl,a,.none] } };exact tail_any (ops:=[.ref s3.heap.objs.size,v]) ht hT hg (by with_unfolding_all rfl)
noncomputable def qee (xs:List V) (lo hi:Option Int):List V:=(xs.drop (HT.sIx xs.length 0 lo)).take (HT.sIx xs.length xs.length hi - HT.sIx xs.length 0 lo)
theorem Uq (xs:List V) (lo hi:Option Int):(qee xs lo hi).length<=xs.length:=by unfold qee;rw [bQ,List.length_drop];omega
def qiM (K:Frag):R2:=λx y H Q=>∃ a b xs ys,x=.ref a/\y=.ref b/\SqT K H a xs/\SqT K H b ys/\xs≠[]/\xs.length+ys.length<=sizeLine /\
 (ys=[]->Q (.ref a) H)/\(ys≠[]->∀ p,H p=iH->Q (.ref p) (upd H p (.tup (xs++ys))))
theorem Vals.nil_iff (r:Vals xs us):us=[]↔xs=[]:=by
 cases r with
 | nil=>simp
 | cons _ _=>simp
theorem qef:OpR X (binaryOp .Add) (qiM X.K):=by intro pins s σ H x y v u Q I d c h;obtain ⟨a,b,xs,ys,rfl,rfl,j,g,hx,hz,f,e⟩:=h;cases d;cases c;obtain ⟨its,r1,p1,_⟩:=I.tuple j;obtain ⟨i,r2,p2,_⟩:=I.tuple g;refine HT.cat_tup p1 p2 (λz=>hx (r1.nil_iff.mp z)) (λz=>⟨.ref a,H,I,rfl,f (r2.nil_iff.mp z)⟩) (λz=>?_) (by rw [<-r1.length,<-r2.length]; exact hz);refine ⟨.ref s.heap.objs.size,_,I.laid (t':=s.toks) (o:=.tup (xs++ys)) (λb k q=>aa _ q) (aw _) ?_,rfl,e (λw=>z (r2.nil_iff.mpr w)) _ (I.hok.fresh (aw _))⟩;exact ⟨⟨by rw [ao]; exact hz,_,ah _ rfl,rfl⟩,_,r1.append r2,IsTup.new _ _⟩
end
noncomputable def ixN (n:Nat) (i:Int):Option Nat:=if 0<=i then (if i < n then iF i.toNat else iH) else if -(n:Int)<=i then iF (i+n).toNat else iH
variable {α:Type}
noncomputable def atI (xs:List α) (i:Int):Option α:=(ixN xs.length i).bind λj=>xs[j]?
variable {n j:Nat} {i:Int}
theorem qeg (h:ixN n i=iF j):seqIndex? i n=iF j/\j < n/\-(n:Int)<=i/\i < n:=by
 unfold ixN at h;by_cases h0:0<=i
 ·rw [if_pos h0] at h;by_cases h1:i < n;·rw [if_pos h1] at h;have e:i.toNat=j:=aN.inj h;exact ⟨by rw [seqIndex_of h0 h1,e],by omega,by omega,h1⟩
  ·rw [if_neg h1] at h; cases h
 ·rw [if_neg h0] at h;by_cases h1:-(n:Int)<=i;·rw [if_pos h1] at h;have e:(i+n).toNat=j:=aN.inj h;exact ⟨by rw [seqIndex_neg (by omega) h1,e],by omega,h1,by omega⟩
  ·rw [if_neg h1] at h; cases h
theorem Ur {xs:List α} {v:α} (h:atI xs i=iF v):∃ j,seqIndex? i xs.length=iF j/\xs[j]?=iF v/\j < xs.length/\-(xs.length:Int)<=i/\i < xs.length:=by
 unfold atI at h;cases e:ixN xs.length i with
 | none=>rw [e] at h; cases h
 | some j=>rw [e] at h;obtain ⟨h1,h2,h3,a⟩:=qeg e;exact ⟨j,h1,h,h2,h3,a⟩
theorem wB {xs:List α} {v:α} (h:xs[j]?=iF v):atI xs (j:Int)=iF v:=by
 have D:j < xs.length:=(aC.mp h).1;have e:ixN xs.length (j:Int)=iF j:=by unfold ixN;rw [if_pos (by omega),if_pos (by omega)]; simp
 unfold atI; rw [e]; exact h
def Us (b:Expr):Prop:=∀ o i,subscripted b iJ o i=operate [o,i] (getItem o i)
def IxR (X:Cx) (r:R2):Prop:=
 ∀ (value e:Expr) (pins:Pns) (s:iL) (σ:St) (H:Hp) (x y:V) (v u:iI) (Q:VK),Inv X pins σ H s->RelV x v->RelV y u->r x y H Q ->subscripted e iJ v u=operate [v,u] (getItem v u)->wpAny (model X.prog X.w) X.A (subscriptTail value e v u) (EP X pins σ Q) X.xe s
def MtR (X:Cx) (id:String) (r:V->List V->Hp->VK->Prop):Prop:=
 ∀ (pins:Pns) (s:iL) (σ:St) (H:Hp) (x:V) (xs:List V) (v:iI) (us:List iI) (Q:VK),Inv X pins σ H s->RelV x v->Vals xs us->r x xs H Q ->wpAny (model X.prog X.w) X.A (call (.builtin id) (v::us)) (EP X pins σ Q) X.xe s
variable {pins:Pns} {σ:St} {H:Hp} {s:iL} {T:String} {x:V}
section
variable {a b:Expr} {ta tb:TE}
theorem IxR.or {r r':R2} (h:IxR X r) (h':IxR X r'):IxR X (λx y H Q=>r x y H Q\/r' x y H Q):=by
 intro value e pins s σ H x y v u Q I d c q hs;rcases q with q | q;·exact h value e pins s σ H x y v u Q I d c q hs
 ·exact h' value e pins s σ H x y v u Q I d c q hs
theorem qiN {r:R2} (e:IxR X r) (g:PE X a ta) (f:PE X b tb) (hs:Us b):PE X (.Subscript a b pos) (tOp r ta tb):=by refine ⟨?_⟩;intro pins s σ H Q I h;exact Subscript_ (qiA g f I h λv u s2 x y H2 i d c q=>e a b pins s2 σ H2 x y v u Q i d c q (hs _ _))
def qjL (K:Frag):R2:=λx y H Q=>∃ p xs i v,x=.ref p/\y=.int i/\SqL K H p xs/\atI xs i=iF v/\Q v H
def qjM (K:Frag):R2:=λx y H Q=>∃ p xs i v,x=.ref p/\y=.int i/\SqT K H p xs/\atI xs i=iF v/\Q v H
def qjN:R2:=λx y H Q=>∃ z i c,x=.str z/\y=.int i/\z.length<=sizeLine/\atI z.cps.toList i=iF c/\Q (.str ⟨#[c]⟩) H
theorem ix_list:IxR X (qjL X.K):=by
 intro value e pins s σ H x y v u Q I d c h hs;obtain ⟨p,xs,i,z,rfl,rfl,hq,f,q⟩:=h;cases d;obtain ⟨t,rfl⟩:=c;obtain ⟨its,r,pl,hz⟩:=I.list hq;obtain ⟨j,h1,h2,h3,k,g⟩:=Ur f;obtain ⟨w,b,a⟩:=r.get h2;have hl:=r.length;have n:=VO;have fin:EP X pins σ Q w s:=⟨z,H,I,a,q⟩
 by_cases h0:0<=i
 ·have D:i.toNat=j:=by rw [seqIndex_of h0 g] at h1;exact aN.inj h1
  exact item_listR pl.isList h0 (by omega) (by rw [D]; simpa using b) fin hs
 ·have D:(i+(its.toArray.size:Int)).toNat=j:=by rw [seqIndex_neg (by omega) k] at h1;rw [aj,<-hl];exact aN.inj h1
  exact subscriptTail_builtinR (x:=w) pl.isList.typeIs slot_list_getitem.lookup
   (wpAny_getItem_list_neg (Q:=λr s'=>r=w/\EP X pins σ Q r s') pl.isList (by omega) (by rw [aj] <;> omega) (by omega) (by rw [D]; simpa using b) ⟨rfl,fin⟩) hs
theorem ix_tup:IxR X (qjM X.K):=by
 intro value e pins s σ H x y v u Q I d c h hs;obtain ⟨p,xs,i,z,rfl,rfl,hq,b,q⟩:=h;cases d;obtain ⟨t,rfl⟩:=c;obtain ⟨its,r,pl,hz⟩:=I.tuple hq;obtain ⟨j,h1,h2,h3,k,g⟩:=Ur b;obtain ⟨w,f,a⟩:=r.get h2;have hl:=r.length;have n:=VO;have fin:EP X pins σ Q w s:=⟨z,H,I,a,q⟩
 exact subscriptTail_builtinR (x:=w) pl.typeIs slot_tuple_getitem.lookup
  (getItem_tuple (j:=j) (Q:=λr s'=>r=w/\EP X pins σ Q r s') pl (by omega) (by omega) (by rw [aj,<-hl]; exact h1) (by simpa using f) ⟨rfl,fin⟩) hs
theorem qgs:IxR X qjN:=by
 intro value e pins s σ H x y v u Q I d r h hs;obtain ⟨z,i,c,rfl,rfl,hz,a,q⟩:=h;obtain ⟨t,rfl⟩:=d;obtain ⟨t',rfl⟩:=r;obtain ⟨j,h1,h2,h3,b,g⟩:=Ur a;have hl:z.cps.toList.length=z.length:=by simp [d4]
 rw [hl] at h1 b g;have n:=VO;exact tail_any (typeIs_str s z t) slot_str_getitem.lookup (getItem_str (c:=c) (by have e1:decide (i < -(2 ^ 63:Int))=false:=decide_eq_false (by omega);have f:decide (i ≥ 2 ^ 63)=false:=decide_eq_false (by omega);rw [e1,f,fV]) (by rw [h1]; simpa using h2) ⟨.str ⟨#[c]⟩,H,I.tok _,⟨_,rfl⟩,q⟩) hs
def rIx (K:Frag):R2:=λx y H Q=>qjL K x y H Q\/qjM K x y H Q\/qjN x y H Q
theorem qgt:IxR X (rIx X.K):=ix_list.or (ix_tup.or qgs)
theorem VR (lo hi:Option Int) (n:Nat):(sliceBounds lo hi iH n).1=((HT.sIx n 0 lo:Nat):Int)/\(sliceBounds lo hi iH n).2.1=((HT.sIx n n hi:Nat):Int)/\(sliceBounds lo hi iH n).2.2=1:=by
 refine ⟨?_,?_,rfl⟩
 ·cases lo with
  | none=>simp [sliceBounds,HT.sIx]
  | some i=>
   simp only [sliceBounds,HT.sIx,Option.getD_none,show (1:Int) > 0 by decide,if_true];by_cases h:i < 0;·simp only [h,if_true] <;> omega
   ·simp only [h,if_false] <;> omega
 ·cases hi with
  | none=>simp [sliceBounds,HT.sIx]
  | some i=>
   simp only [sliceBounds,HT.sIx,Option.getD_none,show (1:Int) > 0 by decide,if_true];by_cases h:i < 0;·simp only [h,if_true] <;> omega
   ·simp only [h,if_false] <;> omega
theorem Kj (its:List iI) (lo hi:Option Int):slicePick its.toArray lo hi iH=((its.drop (HT.sIx its.length 0 lo)).take (HT.sIx its.length its.length hi - HT.sIx its.length 0 lo)).toArray:=by obtain ⟨h1,h2,h3⟩:=VR lo hi its.toArray.size;unfold slicePick;rw [h1,h2,h3];simp only [sliceRange_one,pick_run,aj] <;> rfl
def qkr (K:Frag):V->Option Int->Option Int->Hp->VK->Prop:=λx lo hi H Q=>∃ a xs,x=.ref a/\SqL K H a xs/\∀ p,H p=iH->Q (.ref p) (upd H p (.lst (qee xs lo hi)))
theorem qeh:SlR X (qkr X.K):=by intro pins s σ H x v vl u lo hi sl Q I d hs pl p h;obtain ⟨a,xs,rfl,hx,q⟩:=h;cases d;obtain ⟨its,r,ht,hz⟩:=I.list hx;have n:=r.length;refine ⟨"list",_,slot_list_getitem.lookup,ht.isList.typeIs,?_⟩;refine wpAny_getItem_list_slice ht.isList hs pl p .none (by simp) ?_ (by rw [aj] <;> omega);rw [Kj,<-n];refine ⟨.ref s.heap.objs.size,_,I.laid (t':=s.toks) (o:=.lst (qee xs lo hi)) (λb c q=>aa _ q) (aw _) ?_,rfl,q _ (I.hok.fresh (aw _))⟩;exact ⟨bA (Uq xs lo hi) hz,_,0,(r.drop (HT.sIx xs.length 0 lo)).take (HT.sIx xs.length xs.length hi - HT.sIx xs.length 0 lo),ah _ rfl⟩
theorem gf:yb X (.type "list") (λxs H Q=>∃ p ys,xs=[.ref p]/\(SqL X.K H p ys\/SqT X.K H p ys)/\∀ l,H l=iH->Q (.ref l) (upd H l (.lst ys))):=by
 intro pins s σ H xs us Q I r h;obtain ⟨p,ys,rfl,hq,q⟩:=h;obtain ⟨u,rfl,x⟩:=xR r;cases x;have fin:∀ (its:List iI),Vals ys its->ys.length<=sizeLine->∀ (h':Heap) (S:Nat),(∀ b o',s.heap.get? b=iF o'->h'.get? b=iF o') ->h'.get? s.heap.objs.size=iF { cls:=.type "list",dict:=iH,data:=.seq its.toArray S,slots:=#[] }->EP X pins σ Q (.ref s.heap.objs.size) { s with heap:=h' }:=λits r' hz h' S kp e=>
  ⟨.ref s.heap.objs.size,_,I.laid (t':=s.toks) kp (aw _) (show ObjOk X.prog X.w _ h' _ (.lst ys) from ⟨hz,its,S,r',e⟩),rfl,q _ (I.hok.fresh (aw _))⟩
 rcases hq with hq | hq;·obtain ⟨its,r',pl,hz⟩:=I.list hq;have a:=r'.length;obtain ⟨o,c,d,n,hd⟩:=pl.isList;exact call_list_seq p (.inl rfl) c d hd (λh' S kp e=>fin its r' hz h' S kp e) (by simp only [aj] <;> omega)
 ·obtain ⟨its,r',pl,hz⟩:=I.tuple hq;have a:=r'.length;obtain ⟨o,c,d,n,hd⟩:=pl;exact call_list_seq p (.inr rfl) c d hd (λh' S kp e=>fin its r' hz h' S kp e) (by simp only [aj] <;> omega)
theorem xS:yb X (.type "tuple") (λxs H Q=>∃ p ys,xs=[.ref p]/\((SqL X.K H p ys/\∀ l,H l=iH->Q (.ref l) (upd H l (.tup ys)))\/(SqT X.K H p ys/\Q (.ref p) H))):=by
 intro pins s σ H xs us Q I r h;obtain ⟨p,ys,rfl,h⟩:=h;obtain ⟨u,rfl,x⟩:=xR r;cases x;rcases h with ⟨hq,q⟩ | ⟨hq,q⟩
 ·obtain ⟨its,r',pl,hz⟩:=I.list hq;have n:=r'.length;refine call_tuple_list pl.isList (λh' kp=>?_) (by simp only [aj] <;> omega);have d:Inv X pins σ H { s with heap:=h' }:=I.kept (t':=s.toks) kp;have c:Inv X pins σ (upd H h'.objs.size (.tup ys)) { s with heap:=h'.push { cls:=.type "tuple",data:=.seq its.toArray } }:=
   d.laid (t':=s.toks) (λb o e=>aa _ e) (aw _) (show ObjOk X.prog X.w _ _ _ (.tup ys) from ⟨⟨hz,_,ah _ rfl,rfl⟩,its,r',IsTup.new _ _⟩)
  exact ⟨.ref h'.objs.size,_,c,rfl,q _ (d.hok.fresh (aw _))⟩
 ·obtain ⟨its,r',pl,hz⟩:=I.tuple hq;exact call_tuple_same pl ⟨.ref p,H,I,rfl,q⟩
def tyV (K:Frag) (T:String) (x:V) (H:Hp):Prop:=match x with
 | .str _=>T = "str"
 | .int _=>T = "int"
 | .ref p=>(T = "list"/\∃ xs,SqL K H p xs)\/(T = "tuple"/\∃ o,K.lookup p=iF o/\o.cls=.type "tuple"/\o.dict=iH) \/
   (T = "dict"/\((∃ kvs,H p=iF (.dK kvs))\/∃ kvs,H p=iF (.dT kvs)))\/(T = "set"/\∃ S n,H p=iF (.set S n))
 | _=>False
theorem qgu {v:iI} (I:Inv X pins σ H s) (r:RelV x v) (ty:tyV X.K T x H):s.TypeIs v T/\∀ a,v=.ref a->∃ d,s.heap.get? a=iF d/\d.dict=none:=by
 cases x with
 | str z=>obtain ⟨t,rfl⟩:=r;cases (show T = "str" from ty);exact ⟨typeIs_str s z t,λ_ e=>nomatch e⟩
 | int i=>obtain ⟨t,rfl⟩:=r;cases (show T = "int" from ty);exact ⟨typeIs_int s i t,λ_ e=>nomatch e⟩
 | ref p=>
  cases r;rcases ty with ⟨rfl,xs,hq⟩ | ⟨rfl,o,k,h,hd⟩ | ⟨rfl,k⟩ | ⟨rfl,S,n,k⟩
  ·obtain ⟨its,_,pl,_⟩:=I.list hq;refine ⟨pl.isList.typeIs,λa e=>?_⟩;cases e;obtain ⟨o,n,e,c,hd,_⟩:=pl;exact ⟨o,e,hd⟩
  ·refine ⟨⟨o,I.kIn p o k,h⟩,λa e=>?_⟩;cases e;exact ⟨o,I.kIn _ o k,hd⟩
  ·have z:∃ o,s.heap.get? p=iF o/\o.ExactDict:=by
    rcases k with ⟨kvs,k⟩ | ⟨kvs,k⟩
    ·obtain ⟨_,_,_,_,o,_,_,e,ex,_⟩:=I.hok p _ k;exact ⟨o,e,ex⟩
    ·obtain ⟨_,_,_,_,o,_,_,e,ex,_⟩:=I.hok p _ k;exact ⟨o,e,ex⟩
   obtain ⟨o,e,ex⟩:=z;refine ⟨⟨o,e,ex.1⟩,λa b=>?_⟩;cases b;exact ⟨o,e,ex.2.1⟩
  ·obtain ⟨o,_,_,_,e,ex,_⟩:=I.hok p _ k;refine ⟨⟨o,e,ex.1⟩,λa b=>?_⟩;cases b;exact ⟨o,e,ex.2.1⟩
 | _=>exact bI ty
def tBM (K:Frag) (T:String) (r:V->List V->Hp->VK->Prop) (to:TE) (t:TA):TE:=λσ H Q=>to σ H λx H1=>tyV K T x H1/\t σ H1 λxs H2=>r x xs H2 Q
variable {o:Expr} {es:List Expr} {to:TE} {t:TA} {name:Str} {apos cpos:Pos} {id:String} {r:V->List V->Hp->VK->Prop}
theorem Zg (pa:PlainAttrs T) (slot:Slot T name id) (y:typeOf (.builtin id)=pure (.type "method_descriptor")) (m:MtR X id r) (l:PE X o to) (g:PA X (e::es) t)
  (b:attributeBase o name X.env (eval o X.env)=eval o X.env:=by rfl)
  (w:((backTo cpos (starEach (e::es) X.env)).all (λx=>!x.1)&&(backToKw cpos (keywordEach [] X.env)).all (λx=>x.1.isSome)
   && decide ((e::es).length+([]:List i0).length+(if ([]:List i0).isEmpty then 0 else 1) < 30))=true:=by rfl)
  (a:(apos.endLine == cpos.line)=true:=by rfl) (hs:starEach (e::es) X.env=(iJ,eval e X.env)::starEach es X.env:=by rfl) (n:(backTo cpos (starEach es X.env)).any (·.1)=false:=by rfl) :
  PE X (.Call (.Attribute o name apos) (e::es) [] cpos) (tBM X.K T r to t):=by
 refine ⟨?_⟩;intro pins s σ H Q I h;refine wpAny_Call_method_late b w a rfl (thn (l pins s σ H _ I h) λv s1 ⟨x,H1,d,r1,ty,c⟩=>?_);obtain ⟨h1,h2⟩:=qgu d r1 ty;refine ⟨T,id,pa,slot,y,h1,h2,?_⟩;have hA:=g cpos pins s1 σ H1 _ d c;rw [hs] at hA ⊢;refine dh (by show (iJ||(backTo cpos (starEach es X.env)).any (·.1))=iJ; rw [n] <;> rfl) (dH ?_);exact thn hA λus s2 ⟨vs,H2,f,r2,q⟩=>m pins s2 σ H2 x vs v us Q f r1 r2 q
end
def MtM (X:Cx) (id:String) (r:V->List V->Hp->VK->Prop):Prop:=
 ∀ (pins:Pns) (s:iL) (σ:St) (H:Hp) (x:V) (xs:List V) (v:iI) (us:List iI) (Q:VK),Inv X pins σ H s->RelV x v->Vals xs us->r x xs H Q ->wpAny (model X.prog X.w) X.A (call (.builtin id) (v::us)) (EP X pins σ Q) X.xe s
theorem Vals.one (h:Vals [x] us):∃ u,us=[u]/\RelV x u:=by
 cases h with
 | cons r t=>cases t;exact ⟨_,rfl,r⟩
theorem Vals.two {y:V} (h:Vals [x,y] us):∃ u v,us=[u,v]/\RelV x u/\RelV y v:=by
 cases h with
 | cons r t=>obtain ⟨u,rfl,q⟩:=Vals.one t;exact ⟨_,u,rfl,r,q⟩
theorem Vals.zero:∀ {us:List iI},Vals [] us->us=[]
 | _,.nil=>rfl
theorem Vals.eraseIdx:∀ {xs:List V} {us:List iI} (i:Nat),Vals xs us->Vals (xs.eraseIdx i) (us.eraseIdx i)
 | _,_,_,.nil=>.nil
 | _,_,0,.cons _ t=>t
 | _,_,i+1,.cons r t=>.cons r (Vals.eraseIdx i t)
theorem Vals.reverse (h:Vals xs us):Vals xs.reverse us.reverse:=by
 induction h with
 | nil=>exact .nil
 | cons r t j=>rw [eu,eu]; exact Vals.append j (.cons r .nil)
theorem Vals.rep (h:Vals xs us):∀ k:Nat,Vals (bu k xs).flatten (bu k us).flatten
 | 0=>.nil
 | k+1=>by rw [List.replicate_succ,List.replicate_succ,List.flatten_cons,List.flatten_cons];exact Vals.append h (Vals.rep h k)
section
variable {l b:Addr} {ys zs:List V}
theorem Inv.lset {its its':List iI} {n:Nat} {f:Array iI->Array iI} {t':Nat} (I:Inv X pins σ H s) (b:H l=iF (.lst xs))
  (e:s.heap.get? l=iF { cls:=.type "list",data:=.seq its.toArray n }) (a:f its.toArray=its'.toArray) (c:Vals ys its') (hz:ys.length<=sizeLine) :
  Inv X pins σ (upd H l (.lst ys)) { s with heap:=s.heap.update l (bx f),toks:=t' }:=by
 have q:=PySem.IsL.update e f;rw [a] at q;refine I.write (x:=l) (e:=l) (by rw [b]; exact trivial) (.inl rfl) (λg u d h=>(bF s.heap (bx f) (bf d)).trans h) ⟨_,q⟩ ?_;exact ⟨hz,its',_,c,q⟩
theorem Inv.lnew {its:List iI} {t':Nat} (I:Inv X pins σ H s) (c:Vals ys its) (hz:ys.length<=sizeLine):Inv X pins σ (upd H s.heap.objs.size (.lst ys)) { s with heap:=s.heap.push { cls:=.type "list",data:=.seq its.toArray },toks:=t' }:=
 I.laid (λ_ _ q=>aa _ q) (aw _) ⟨hz,its,0,c,ah _ rfl⟩
theorem Inv.fresh (I:Inv X pins σ H s):H s.heap.objs.size=none:=I.hok.fresh (aw _)
theorem Inv.lstM (I:Inv X pins σ H s) (b:H l=iF (.lst xs)):xs.length<=sizeLine/\∃ (its:List iI) (n:Nat),Vals xs its/\xs.length=its.length/\s.heap.get? l=iF { cls:=.type "list",data:=.seq its.toArray n }:=by obtain ⟨z,its,n,r,e⟩:=I.hok l _ b;exact ⟨z,its,n,r,r.length,e⟩
theorem qbO (h:n<=sizeLine):dQ n=false:=by unfold dQ;exact decide_eq_false (by omega)
end
section
def Ut:V->List V->Hp->VK->Prop:=λx vs H Q=>∃ l xs y,x=.ref l/\vs=[y]/\H l=iF (.lst xs)/\xs.length < sizeLine/\Q .non (upd H l (.lst (xs++[y])))
theorem Ql:MtM X "list.append" Ut:=by intro pins s σ H x vs v us Q I d a h;obtain ⟨l,xs,y,rfl,rfl,b,hz,q⟩:=h;cases d;obtain ⟨u,rfl,A⟩:=a.one;obtain ⟨z,its,n,r,hl,e⟩:=I.lstM b;refine lf F.slot_list_append ⟨_,e,rfl⟩ F.entry_list_append (F.args_list_append_2 _ _) (PySem.list_append l its.toArray n u (by rw [aj]; omega)) ⟨e,?_⟩;refine ⟨.non,_,I.lset (its':=its++[u]) b e (by simp) (r.append (.cons A .nil)) ?_,rfl,q⟩;rw [ao,eY];omega
def qei:V->List V->Hp->VK->Prop:=λx vs H Q=>∃ l b xs zs,x=.ref l/\vs=[.ref b]/\H l=iF (.lst xs)/\H b=iF (.lst zs)/\xs.length+zs.length<=sizeLine/\Q .non (upd H l (.lst (xs++zs)))
theorem Gs:MtM X "list.extend" qei:=by
 intro pins s σ H x vs v us Q I d c h;obtain ⟨l,b,xs,zs,rfl,rfl,a,B,hz,q⟩:=h;cases d;obtain ⟨u,rfl,A⟩:=c.one;cases A;obtain ⟨z,its,n,r,hl,e⟩:=I.lstM a;obtain ⟨z2,i,n2,r2,f,j⟩:=I.lstM B;have hsz:its.toArray.size+i.toArray.size<=sizeLine:=by rw [aj,aj]; omega
 have g:¬(!its.toArray.isEmpty&&dQ (its.toArray.size+i.toArray.size))=true:=by rw [qbO hsz,Bool.and_false];exact bD
 refine lf F.slot_list_extend ⟨_,e,rfl⟩ F.entry_list_extend (F.args_list_extend_2 _ _)
  (AutoSeq1.list_extend_list_list_0 l its.toArray n b i.toArray n2 g (by rw [aj]; omega) (by omega)) ⟨e,j,?_⟩
 refine ⟨.non,_,I.lset (its':=its++i) a e (by simp) (r.append r2) ?_,rfl,q⟩;rw [ao];omega
end
end L2
namespace Att
open PySem PySem.W PySem.Calls PyProof.Rows
theorem Qm {P:lx} {h:Heap}:∀ (ns:List Int) (vs:List iI),WellAll P h vs (ns.map WData.int)->IntsAre vs ns:=by
 intro ns
 induction ns with
 | nil=>intro vs w;rw [cU] at w;cases w;exact .nil
 | cons n ns j=>
  intro vs w;rw [aJ] at w;cases w with
  | cons a b=>cases a;exact .cons _ _ (j _ b)
theorem Gt {l:OpenLaw} {n:Nat} (s:l.most=iF n) {P:lx} {h:Heap} {args:List WData} {v:List iI}
  (e:l.row.toRowW.claim.pre args=iK) (i:WellAll P h v args) :
  ∃ a vs ns,v=[aI a]/\args=[WData.list (ns.map WData.int)]/\h.get? a=iF { cls:=.type "list",data:=.seq vs.toArray }/\IntsAre vs ns/\ns.length<=n:=by
 have j:WShape.hasAll [] args [.list .int]=true:=(pre_splitW e).1;have k:l.pre.holds [] { args:=args }=true:=(pre_splitW e).2;obtain ⟨d,r,rfl,h1,h2⟩:=hasAllW_cons j;obtain rfl:=hasAllW_nil h2;obtain ⟨xs,rfl,h3⟩:=hasW_list h1;obtain ⟨ns,rfl⟩:=items_int h3;have b:ns.length<=n:=by
  unfold OpenLaw.pre at k;have f:(WTm.not (.lt (.lit (.int (n:Int))) (.len (.arg 0)))).holds [] { args:=[.list (ns.map .int)] }=true:=by have f:=(holds_andW k).1;rw [s] at f;exact f
  have g:=condW_of f (w_not (w_lt w_lit (w_len_list (w_arg rfl))));rw [ai] at g;refine Nat.le_of_not_lt λq=>?_;have m:(n:Int) < ((ns.length:Nat):Int):=by omega
  first
   | (rw [decide_eq_true m] at g; exact absurd g (by decide))
   | (simp at g; omega)
 cases i with
 | cons p w=>
  cases w;cases p with
  | list o c=>exact ⟨_,_,ns,rfl,rfl,o,Qm ns _ c,b⟩
theorem Gu (l:OpenLaw) (args:List WData):l.row.toRowW.claim.post args (.bool iK) args=true:=
 postW_of (r:=l.row.toRowW) (X:=(iK == iK))
  (show WShape.has [] (.bool iK) .bool=iK by first | rfl | decide | simp [WShape.has,WShape.arms,WShape.armsAll])
  (show (WTm.eq .res (.lit (.bool iK))).value [] { args:=args,res:=iF (.bool iK),after:=args }=iF (.bool (iK == iK)) from w_eq_bool (w_res rfl) w_lit) rfl
theorem attach_call {l:OpenLaw} {n:Nat} {q:iN} {loose:List Str} {XP:(Str->Option iI)->Heap->Prop} {YP:iO->Heap->Prop} {d:DefRec}
  (p:l.most=iF n) (hdf:d.params.defaults=[])
  (call:∀ (w:iO) (s₀ s:iL) (mg mb:Str->Option iI) (fa:Addr) (o:Obj) (pm cd doc:iI) (a:Addr) (vs:List iI) (ns:List Int),Ground q loose [] XP w s₀ mg mb s.heap->YP w s.heap ->s.heap.get? fa=iF o->o.data=.func (docDef d.name d.params d.body d.scope pm cd doc)->s.heap.CodeRec cd d.name->mg d.name=iF (.ref fa) ->s.heap.get? a=iF { cls:=.type "list",data:=.seq vs.toArray }->IntsAre vs ns->ns.length<=n->s.gens=#[] ->codeAny (model l.prog w) callerA (.call (.ref fa) ⟨[.ref a],[]⟩) (λr s'=>r=.ok (.ret (.bool iK))/\OldK s.heap s'.heap/\s'.os=s.os/\lw s'.gens) s) :
  WalkO q loose XP YP l.row.toRowW d [] (λf vs=>iD f vs):=by
 intro w s₀ s mg mb G Y fa o pm cd doc V kV m hd c D g hg args v as e y k i u;obtain rfl:V=.none:=Dflts.none D hdf;obtain rfl:kV=.none:=Dflts.noKw D;obtain ⟨a,vs,ns,rfl,rfl,j,h,b⟩:=Gt p e i;refine enter_call (lg (call w s₀ s mg mb fa o pm cd doc a vs ns G Y m (fd_plain hd) c g j h b hg) λr s' hq=>?_);obtain ⟨rfl,h2,h3,x⟩:=hq;exact ⟨.inl ⟨.bool iK,.bool iK,[],rfl,λ_=>rfl,.bool iK,Gu l _,λ_=>⟨dF,λ_ t=>(nomatch t)⟩⟩,h2,h3,x⟩
end Att
namespace L2
open PySem PySem.Spec PyProof.Rows
theorem VS:∀ {vs:List iI} {ns:List Int},IntsAre vs ns->Vals (ns.map V.int) vs
 | _,_,.nil=>.nil
 | _,_,.cons n t h=>.cons ⟨t,rfl⟩ (VS h)
def qiO (H:Hp):Prop:=∀ b,H b=iH\/∃ o xs,H b=iF (.frz o (.lst xs))
theorem qbP {P:iN} {w:iO} {K:Frag} {mg mb:Str->Option iI} {CX:CXT} {k:Nat} {fa a:Addr} {fd:k4} {x:Str} {sp:Sp} {c:iL} {vs:List iI} {ns:List Int}
  (N:K.In c.heap) (A:c.heap.Ns mainGlobals mg) (g:c.heap.Ns builtinsNs mb) (J:∀ x:Str,x ≠ "__name__"->mb x=bootBuiltins x) (B:c.heap.NoLimit) (hg:c.gens=#[])
  (D:c.heap.get? a=iF { cls:=.type "list",data:=.seq vs.toArray }) (hi:IntsAre vs ns) (hl:ns.length<=sizeLine) (R:Room k callerA)
  (F:∀ base:Heap,K.In base->base.Ns mainGlobals mg->FnOk P w K mg base CX k fa fd [x] sp) (l:∀ (s:iL) (u:iI),lJ s fd ⟨[u],[]⟩ [(x,u)])
  (G:∀ H:Hp,qiO H->SqL K H a (ns.map V.int)->sp [.ref a] H (λv _=>v=.bl iK) λ_ _ _=>False)
  (X:∀ H e s',CX [] H c (λ_ _ _=>False) e s'->False) :
  codeAny (model P w) callerA (.call (.ref fa) ⟨[.ref a],[]⟩) (λr s'=>r=.ok (.ret (.bool iK))/\OldK c.heap s'.heap/\s'.os=c.os/\lw s'.gens) c:=by
 have M:=VS hi;have t:=hi.length;have j:∀ H:Hp,qiO H->SqL K H a (ns.map V.int)->HOk P w H c.heap->(∀ b,H b≠iH->b=a)->(H a≠iH->K.lookup a=iH) ->codeAny (model P w) callerA (.call (.ref fa) ⟨[.ref a],[]⟩) (λr s'=>r=.ok (.ret (.bool iK))/\OldK c.heap s'.heap/\s'.os=c.os/\lw s'.gens) c:=by
  intro H O S hok hA U;have f:∀ {b:Addr} {o:Obj},c.heap.get? b=iF o->H b=iH->(qby c.heap H).get? b=iF o:=λe n=>qbz e n;have E:∀ {b:Addr} {o:Obj} {es:Array lI} {ep:Nat},c.heap.get? b=iF o->o.data=.dict es ep->H b=none:=λ{b o es ep} e d=>by
   cases q:H b with
   | none=>rfl
   | some u=>have L:b=a:=hA b (by rw [q]; simp);subst L;rw [D] at e; cases e;have d':Data.seq vs.toArray _=Data.dict es ep:=d;cases d'
  have i:∀ {b:Addr} {m:Str->Option iI},c.heap.Ns b m->(qby c.heap H).Ns b m:=λ{b m} ⟨o,es,ep,e,d,r⟩=>⟨o,es,ep,f e (E e d),d,r⟩
  have C:K.In (qby c.heap H):=λb o e=>f (N b o e) (by
   cases q:H b with
   | none=>rfl
   | some u=>have L:b=a:=hA b (by rw [q]; simp);subst L;rw [U (by rw [q]; simp)] at e; cases e)
  have T:Mod K mg (qby c.heap H):=⟨C,i A,⟨mb,i g,J⟩,let ⟨mc,h1,h2⟩:=B; ⟨mc,i h1,h2⟩⟩
  have e0:Env0 P w K mg (qby c.heap H) callerA [] c H:=⟨rfl,T,λb o e=>qdT e,fC (Gb _ _),trivial,λb g=>absurd (show b∈([]:List Addr) from g) (by simp),hok,.of_eq hg⟩
  refine lg ((F _ C (i A)).run callerA [] c H ⟨[.ref a],[]⟩ [.ref a] [.ref a] _ _ R e0 (l c (.ref a)) (.cons rfl .nil) (G H O S)) λr s' h=>?_;cases r with
  | error e=>exact (X H e s' h).elim
  | ok W=>
   cases W with
   | next=>exact bI h
   | brk=>exact bI h
   | cont=>exact bI h
   | ret u=>
    obtain ⟨v,H',os,bare,un,y,r',q⟩:=h;have Q:v=.bl true:=q;subst Q;obtain rfl:u=aZ true:=r';refine ⟨rfl,OldK.of_keep λb o e=>?_,os,bare⟩;cases q:H b with
    | none=>exact un.keep b o e q (by intro z; exact absurd (show b∈([]:List Addr) from z) (by simp)) (by simp)
    | some u=>
     rcases O b with z | ⟨ob,xs,z⟩
     ·rw [q] at z; cases z
     ·have z2:=un.frzs b ob _ z;obtain ⟨e1,_⟩:=hok b _ z;obtain ⟨Y,_⟩:=y b _ z2;rw [e] at e1; cases e1;exact Y
 cases I:K.lookup a with
 | some o=>have e:=N a o I;rw [D] at e;cases e;refine j (λ_=>iH) (λ_=>.inl rfl) (.inr ⟨_,vs.toArray,_,I,rfl,rfl,rfl,by rw [aj,t]; exact hl,by simpa using M⟩) (λb u z=>by have p:(iH:Option HO)=iF u:=z; cases p) (λb z=>absurd rfl z) λz=>absurd rfl z
 | none=>
  refine j (λb=>if b=a then iF (.frz { cls:=.type "list",data:=.seq vs.toArray } (.lst (ns.map V.int))) else iH) (λb=>?_) (.inl (.inr ⟨{ cls:=.type "list",data:=.seq vs.toArray },if_pos rfl⟩)) (λb u z=>?_) (λb z=>?_) λ_=>I
  ·by_cases g:b=a;·exact .inr ⟨_,_,if_pos g⟩
   ·exact .inl (if_neg g)
  ·by_cases g:b=a;·have p:=(if_pos g).symm.trans z;cases p;subst g;exact ⟨D,by rw [ai]; exact hl,vs,_,M,D⟩
   ·have p:=(if_neg g).symm.trans z;cases p
  ·by_cases g:b=a;·exact g
   ·exact absurd (if_neg g) z
theorem qej {l:g6} {n k:Nat} {q:iN} {loose:List Str} {XP:(Str->Option iI)->Heap->Prop} {YP:iO->Heap->Prop} {d:DefRec} {K:lx->Frag} {CX:iO->CXT} {sp:iO->Sp} {x:Str}
  (A:l.most=iF n) (r:n<=sizeLine) (hdf:d.params.defaults=[]) (z:Room k callerA)
  (D:∀ (w:iO) (h:Heap),YP w h->(K w.params).In h)
  (F:∀ (w:iO) (mg:Str->Option iI) (fa:Addr) (h:Heap),(K w.params).In h->h.Ns mainGlobals mg->mg d.name=iF (.ref fa) ->∃ fd:k4,(∀ (s:iL) (u:iI),lJ s fd ⟨[u],[]⟩ [(x,u)]) /\
    ∀ base:Heap,(K w.params).In base->base.Ns mainGlobals mg->FnOk l.prog w (K w.params) mg base (CX w) k fa fd [x] (sp w))
  (p:∀ (w:iO) (H:Hp) (a:Addr) (ns:List Int),ns.length<=n->qiO H->SqL (K w.params) H a (ns.map V.int)->sp w [.ref a] H (λv _=>v=.bl iK) λ_ _ _=>False)
  (X:∀ (w:iO) (H:Hp) (s:iL) (e:iI) (s':iL),CX w [] H s (λ_ _ _=>False) e s'->False) :
  PySem.W.WalkO q loose XP YP l.row.toRowW d [] (λf vs=>iD f vs):=by
 refine Att.attach_call A hdf λw s₀ j mg mb fa o pm cd doc a vs ns G Y I hd B t m i c hg=>?_;have y:=D w _ Y;obtain ⟨fd,C,E⟩:=F w mg fa _ y G.T.g t;exact qbP y G.T.g G.T.b G.T.builtins G.T.nolimit hg m i (bA c r) z E C (λH O S=>p w H a ns c O S) λH e s'=>X w H j e s'
noncomputable def xC (s:Stmt) (j:Nat):Stmt:=match s with
 | .ClassDef _ _ _ body _ _ _ _ _ _ _=>body.getD j (.Pass ⟨0,0,0,0⟩)
 | _=>.Pass ⟨0,0,0,0⟩
noncomputable def wZ (s:Stmt):Arguments:=match s with
 | .FunctionDef _ a _ _ _ _ _ _ _ _=>a
 | _=>{ posonlyargs:=[],args:=[],vararg:=iH,kwonlyargs:=[],kw_defaults:=[],kwarg:=iH,defaults:=[] }
noncomputable def ka (s:Stmt):List Stmt:=match s with
 | .FunctionDef _ _ b _ _ _ _ _ _ _=>b
 | _=>[]
noncomputable def ql (s:Stmt):lh:=match s with
 | .FunctionDef _ _ _ _ _ _ sc _ _ _=>sc
 | _=>{ kind:=.function,names:=[],isGenerator:=iJ,isCoroutine:=iJ }
structure Fun (K:Frag) (x qual:Str) (st:Stmt) (f:Addr) (fd:k4):Prop where
 ex:∃ (oc:iI) (od:Option Addr) (kV doc pm:iI) (an:Option Addr) (cdv ct:iI) (osl:Array (Option iI)),fd=bO x qual (wZ st) (ka st) (ql st) .none kV doc pm an cdv ct/\K.lookup f=iF ⟨oc,od,.func fd,osl⟩/\codeIn K cdv qual=iK
 kp:keepIn K (.ref f)=iK
variable {P:iN} {w:iO} {K:Frag} {x qual:Str} {st:Stmt} {f:Addr}
section
variable {mg:Str->Option iI} {base:Heap}
theorem Fun.binds {fd:k4} {ps:List Str} (F:Fun K x qual st f fd)
  (h:∀ (kV doc pm:iI) (an:Option Addr) (cdv ct:iI) (us:List iI),us.length=ps.length->bindArgs (bO x qual (wZ st) (ka st) (ql st) .none kV doc pm an cdv ct) ⟨us,[]⟩=pure (ps.zip us)):Binds K fd ps []:=by
 obtain ⟨oc,od,kV,doc,pm,an,cdv,ct,osl,rfl,j,d⟩:=F.ex;exact .all (h kV doc pm an cdv ct)
theorem kR {oc:iI} {od an:Option Addr} {osl:Array (Option iI)} {kV doc pm cdv ct:iI} (l:K.lookup f=iF ⟨oc,od,.func (bO x qual (wZ st) (ka st) (ql st) .none kV doc pm an cdv ct),osl⟩)
  (c:codeIn K cdv qual=iK) (k:keepIn K (.ref f)=iK):Fun K x qual st f (bO x qual (wZ st) (ka st) (ql st) .none kV doc pm an cdv ct):=⟨⟨oc,od,kV,doc,pm,an,cdv,ct,osl,rfl,l,c⟩,k⟩
end
variable {X:Cx}
section
theorem pv (i:Nat) {pos:Pos} (h:X.N[i]?=iF x:=by rfl) (c:Vis X.env.scope x:=by first | exact bE rfl | exact fW (bE rfl) | exact fW (fW rfl)) (hd:Dbg x:=by decide)
  (d:Cdk x:=by decide):PE X (.Name x pos) (qjI i):=ya h c hd d
end
def Same (H H':Hp):Prop:=∀ b o,H b=iF o->H' b=iF o
theorem Same.refl (H:Hp):Same H H:=λ_ _ h=>h
variable {H:Hp}
theorem Same.trans {H1 H2:Hp} (a:Same H H1) (b:Same H1 H2):Same H H2:=λc o h=>b c o (a c o h)
variable {H':Hp}
theorem Same.free (e:Same H H') {l:Addr} (h:H' l=Option.none):H l=Option.none:=by
 cases q:H l with
 | none=>rfl
 | some o=>rw [e l o q] at h;cases h
variable {a:Addr}
theorem Same.seq {xs:List V} (e:Same H H') (h:SqL K H a xs):SqL K H' a xs:=by
 rcases h with (h | ⟨o,h⟩) | h;·exact .inl (.inl (e _ _ h))
 ·exact .inl (.inr ⟨o,e _ _ h⟩)
 ·exact .inr h
variable {o:Option V} {u:iI} {y:V}
section
variable {κ:Type} [DecidableEq κ]
noncomputable def YC (kvs:List (κ×V)) (k:κ):Option V:=(kvs.find? λkv=>decide (kv.1=k)).map (·.2)
noncomputable def Jn (kvs:List (κ×V)) (k:κ) (v:V):List (κ×V):=
 if (kvs.any λkv=>decide (kv.1=k))=iK then kvs.map (λkv=>if kv.1=k then (kv.1,v) else kv) else kvs++[(k,v)]
theorem gR {p:κ×V} {r:List (κ×V)} {k:κ} (e:p.1=k):YC (p::r) k=iF p.2:=by simp [YC,cP,e]
theorem gS {p:κ×V} {r:List (κ×V)} {k:κ} (e:¬p.1=k):YC (p::r) k=YC r k:=by simp [YC,cP,e]
theorem Kk (k:κ):∀ kvs:List (κ×V),(kvs.any λkv=>decide (kv.1=k))=(YC kvs k).isSome
 | []=>rfl
 | p::r=>by
  rw [cI];by_cases e:p.1=k;·simp only [gR e,decide_eq_true e,Bool.true_or,Option.isSome_some]
  ·rw [gS e,decide_eq_false e,Bool.false_or]; exact Kk k r
theorem xD (kvs:List (κ×V)) (k:κ) (v:V):(Jn kvs k v).length<=kvs.length+1:=by
 unfold Jn;split;·rw [ai]; omega
 ·rw [ao,au,aY]; omega
theorem RelO.isSome_eq {u:Option iI} (r:RelO o u):o.isSome=u.isSome:=by
 cases o with
 | none=>cases u with
  | none=>rfl
  | some _=>exact (show False from r).elim
 | some _=>cases u with
  | none=>exact (show False from r).elim
  | some _=>rfl
theorem KV.val {kvs:List (κ×V)} {vs:List (κ×iI)} (r:KV kvs vs) (k:κ):RelO (YC kvs k) (valueAt vs k):=by
 unfold KV at r
 induction r with
 | nil=>exact dg
 | @cons p q ps qs h t ih=>
  obtain ⟨h1,h2⟩:=h;by_cases e:p.1=k
  ·have a:q.1=k:=h1.symm.trans e;have b:valueAt (q::qs) k=iF q.2:=by simp [valueAt,cP,a]
   rw [gR e,b]; exact h2
  ·have a:¬q.1=k:=λz=>e (h1.trans z);have b:valueAt (q::qs) k=valueAt qs k:=by simp [valueAt,cP,a]
   rw [gS e,b]; exact ih
theorem KV.any {kvs:List (κ×V)} {vs:List (κ×iI)} (r:KV kvs vs) (k:κ):(kvs.any λkv=>decide (kv.1=k))=vs.any λkv=>decide (kv.1=k):=by
 unfold KV at r
 induction r with
 | nil=>rfl
 | cons h t j=>rw [cI,cI,j,h.1]
theorem KV.repl {kvs:List (κ×V)} {vs:List (κ×iI)} (r:KV kvs vs) (k:κ) (c:RelV y u):KV (kvs.map λkv=>if kv.1=k then (kv.1,y) else kv) (vs.map λkv=>if kv.1=k then (kv.1,u) else kv):=by
 unfold KV at r ⊢
 induction r with
 | nil=>exact .nil
 | @cons p q ps qs h t ih=>
  rw [aJ,aJ];refine .cons ?_ ih;obtain ⟨h1,h2⟩:=h;by_cases e:p.1=k;·rw [if_pos e,if_pos (h1.symm.trans e)]; exact ⟨h1,c⟩
  ·rw [if_neg e,if_neg (λz=>e (h1.trans z))]; exact ⟨h1,h2⟩
theorem KV.put {kvs:List (κ×V)} {vs:List (κ×iI)} (r:KV kvs vs) (k:κ) (c:RelV y u):KV (Jn kvs k y) (stored vs k u):=by
 unfold Jn stored;rw [r.any k];by_cases e:(vs.any λkv=>decide (kv.1=k))=iK;·rw [if_pos e,if_pos e]; exact r.repl k c
 ·rw [if_neg e,if_neg e]; exact Paired.snoc r ⟨rfl,c⟩
theorem KV.keys {kvs:List (κ×V)} {vs:List (κ×iI)} (r:KV kvs vs):kvs.map (·.1)=vs.map (·.1):=by
 unfold KV at r
 induction r with
 | nil=>rfl
 | cons h t j=>rw [aJ,aJ,j,h.1]
theorem KV.length {kvs:List (κ×V)} {vs:List (κ×iI)} (r:KV kvs vs):kvs.length=vs.length:=fU r
end
theorem Gv {k:Key} (r:RelV (kV k) u):(qZ P w).is k u=true:=by
 cases k with
 | inl i=>obtain ⟨t,e⟩:=(show ∃ t,u=fg i t from r); subst e; exact Um P w i t
 | inr x=>obtain ⟨t,e⟩:=(show ∃ t,u=dt x t from r); subst e; exact Uo P w x t
theorem VT:∀ {ks:List Key} {us:List iI},Vals (ks.map kV) us->ItemsAre (qZ P w) ks us
 | [],_,r=>by rw [cU] at r; cases r; exact .nil
 | k::ks,_,r=>by
  rw [aJ] at r;cases r with
  | cons h t=>exact .cons (Gv h) (VT t)
abbrev KT (H:Hp):List (List Key×V)->List (List Key×Addr×iI)->Prop:=lK λp q=>p.1=q.1/\H q.2.1=iF (.tup (p.1.map kV))/\RelV p.2 q.2.2
variable {xs:List (List Key×Addr×iI)} {kvs:List (List Key×V)}
theorem KT.val (r:KT H kvs xs) (k:List Key):RelO (YC kvs k) ((atKey xs k).map (·.2)):=by
 induction r with
 | nil=>exact dg
 | @cons p q ps qs h t ih=>
  obtain ⟨h1,_,h2⟩:=h;by_cases e:p.1=k
  ·have a:q.1=k:=h1.symm.trans e;have b:atKey (q::qs) k=iF q.2:=by simp [atKey,cP,a]
   rw [gR e,b]; exact h2
  ·have a:¬q.1=k:=λz=>e (h1.trans z);have b:atKey (q::qs) k=atKey qs k:=by simp [atKey,cP,a]
   rw [gS e,b]; exact ih
theorem KT.repl (r:KT H kvs xs) (k:List Key) (c:RelV y u):KT H (kvs.map λkv=>if kv.1=k then (kv.1,y) else kv) (xs.map (putAt k u)):=by
 induction r with
 | nil=>exact .nil
 | @cons p q ps qs h t ih=>
  rw [aJ,aJ];refine .cons ?_ ih;obtain ⟨h1,h2,h3⟩:=h;unfold putAt;by_cases e:p.1=k;·rw [if_pos e,if_pos (h1.symm.trans e)]; exact ⟨h1,h2,c⟩
  ·rw [if_neg e,if_neg (λz=>e (h1.trans z))]; exact ⟨h1,h2,h3⟩
variable {b:Addr}
theorem KT.put (r:KT H kvs xs) (k:List Key) (d:H b=iF (.tup (k.map kV))) (c:RelV y u):KT H (Jn kvs k y) (storedH xs k b u):=by
 have e:(kvs.any λkv=>decide (kv.1=k))=(atKey xs k).isSome:=by rw [Kk,(r.val k).isSome_eq,fK]
 unfold Jn storedH;rw [e];by_cases q:(atKey xs k).isSome=iK;·rw [if_pos q,if_pos q]; exact r.repl k c
 ·rw [if_neg q,if_neg q]; exact Paired.snoc r ⟨rfl,d,c⟩
theorem KT.keeps (r:KT H kvs xs) (ht:∀ b ys,H b=iF (.tup ys)->H' b=iF (.tup ys)):KT H' kvs xs:=
 Paired.mapP r λ_ _ z=>⟨z.1,ht _ _ z.2.1,z.2.2⟩
section
variable {h:Heap}
theorem qgv {u:HO} (ok:HOk P w H h) (e:Rd H a u):ObjOk P w H h a u:=e.ok ok
theorem Uu {kvs:List (Key×V)} (ok:HOk P w H h) (e:Rd H a (.dK kvs)):kvs.length<=sizeLine/\(a == sysModules)=iJ/\∃ vs,KV kvs vs/\h.DictOf (qZ P w) a vs:=
 show ObjOk P w H h a (.dK kvs) from qgv ok e
theorem qiP {kvs:List (Key×V)} (ok:HOk P w H h) (e:H a=iF (.dK kvs)):kvs.length<=sizeLine/\(a == sysModules)=iJ/\∃ vs,KV kvs vs/\h.DictOf (qZ P w) a vs:=Uu ok (.inl e)
theorem Qn {ks:List Key} (ok:HOk P w H h) (e:H a=iF (.tup (ks.map kV))):(tupleKind (qZ P w)).is h ks a:=by
 obtain ⟨_,its,r,o,h1,h2,n,h3⟩:=(show ObjOk P w H h a (.tup (ks.map kV)) from ok a _ e)
 exact ⟨o,its.toArray,n,h1,h2,h3,by simpa using VT r⟩
theorem Zh (ok:HOk P w H h) (e:Rd H a (.dT kvs)):kvs.length<=sizeLine/\(a == sysModules)=iJ /\
  ∃ xs,KT H kvs xs/\h.DictOfH (tupleKind (qZ P w)) a xs:=by
 obtain ⟨z,y,xs,r,o,es,ep,h1,h2,h3,b,g⟩:=(show ObjOk P w H h a (.dT kvs) from qgv ok e)
 refine ⟨z,y,xs,r,o,es,ep,h1,h2,h3,b,λx hx=>?_,g⟩;have all:∀ {l:List (List Key×V)} {m:List (List Key×Addr×iI)},KT H l m->∀ x∈m,(tupleKind (qZ P w)).is h x.1 x.2.1:=by
  intro l m q
  induction q with
  | nil=>intro x hx; exact nomatch hx
  | @cons p q ps qs hq t ih=>
   intro x hx;rcases ae.mp hx with e | hx
   ·subst e;exact Qn ok (by rw [<-hq.1]; exact hq.2.1)
   ·exact ih x hx
 exact all r x hx
theorem qiQ (ok:HOk P w H h) (e:H a=iF (.dT kvs)):kvs.length<=sizeLine/\(a == sysModules)=iJ /\
  ∃ xs,KT H kvs xs/\h.DictOfH (tupleKind (qZ P w)) a xs:=Zh ok (.inl e)
end
def DGet (H:Hp) (a:Addr) (y:V) (r:Option V):Prop:=
 (∃ kvs k,Rd H a (.dK kvs)/\y=kV k/\r=YC kvs k)\/∃ kvs k b,Rd H a (.dT kvs)/\y=.ref b/\H b=iF (.tup (k.map kV))/\r=YC kvs k
def DPut (H:Hp) (a:Addr) (y v:V) (H':Hp):Prop:=
 (∃ kvs k,H a=iF (.dK kvs)/\y=kV k/\kvs.length < sizeLine/\H'=upd H a (.dK (Jn kvs k v))) \/
 ∃ kvs k b,H a=iF (.dT kvs)/\y=.ref b/\H b=iF (.tup (k.map kV))/\kvs.length < sizeLine/\H'=upd H a (.dT (Jn kvs k v))
theorem DGet.k {kvs:List (Key×V)} {k:Key} (e:H a=iF (.dK kvs)):DGet H a (kV k) (YC kvs k):=.inl ⟨kvs,k,.inl e,rfl,rfl⟩
theorem DGet.t {k:List Key} (e:H a=iF (.dT kvs)) (D:H b=iF (.tup (k.map kV))):DGet H a (.ref b) (YC kvs k):=.inr ⟨kvs,k,b,.inl e,rfl,D,rfl⟩
variable {v:V}
theorem DPut.k {kvs:List (Key×V)} {k:Key} (e:H a=iF (.dK kvs)) (hl:kvs.length < sizeLine):DPut H a (kV k) v (upd H a (.dK (Jn kvs k v))):=.inl ⟨kvs,k,e,rfl,hl,rfl⟩
theorem DPut.t {k:List Key} {v:V} (e:H a=iF (.dT kvs)) (D:H b=iF (.tup (k.map kV))) (hl:kvs.length < sizeLine):DPut H a (.ref b) v (upd H a (.dT (Jn kvs k v))):=.inr ⟨kvs,k,b,e,rfl,D,hl,rfl⟩
variable {pins:Pns} {σ:St} {s:iL} {A:iQ} {E Q:iI->iL->Prop} {h':Heap}
section
variable {r:iI}
theorem Inv.big (I:Inv X pins σ H s):sysModules < s.heap.objs.size:=by have h:mainGlobals < s.heap.objs.size:=(I.mod.glob.keeps I.bk).lt;exact cV (by decide) h
theorem Gw (i:A.units+1 < cLine) (I:Inv X pins σ H s) (g:DGet H a y (iF v)) (f:RelV y u) (h:∀ w' s',Inv X pins σ H s'->RelV v w'->Q w' s'):wpAny (model X.prog X.w) A (getItem (.ref a) u) Q E s:=by
 rcases g with ⟨kvs,k,e,d,l⟩ | ⟨kvs,k,b,e,d,D,l⟩
 ·subst d;obtain ⟨z,hd,vs,rel,dd⟩:=Uu I.hok e;obtain ⟨w',hw,r⟩:=RelO.some_of (v:=v) (o:=valueAt vs k) (by rw [l]; exact rel.val k);exact wpAny_getItem_of (Gv f) dd.mapOf hw (h w' _ (I.tok _) r)
 ·subst d;cases (show u=aI b from f);obtain ⟨z,hd,xs,rel,dd⟩:=Zh I.hok e;obtain ⟨w',hw,r⟩:=RelO.some_of (v:=v) (o:=(atKey xs k).map (·.2)) (by rw [l]; exact rel.val k);obtain ⟨p,hp,c⟩:=aP.mp hw;refine wpAny_getItem_heap (li i) (Qn I.hok D) dd hp ?_;rw [c];exact h w' _ (I.tok _) r
theorem qks (f:A.units+1 < cLine) (I:Inv X pins σ H s) (g:DGet H a y o) (c:RelV y u) (h:∀ s',Inv X pins σ H s'->Q (.bool o.isSome) s'):wpAny (model X.prog X.w) A (compareOp .In u (.ref a)) Q E s:=by
 rcases g with ⟨kvs,k,e,d,l⟩ | ⟨kvs,k,b,e,d,D,l⟩
 ·subst d;obtain ⟨z,hd,vs,rel,dd⟩:=Uu I.hok e;refine wpAny_in_of (Gv c) hd dd.mapOf ?_;rw [<-(rel.val k).isSome_eq,<-l];exact h _ (I.tok _)
 ·subst d;cases (show u=aI b from c);obtain ⟨z,hd,xs,rel,dd⟩:=Zh I.hok e;refine wpAny_in_heap (li f) (Qn I.hok D) hd dd ?_;have q:=(rel.val k).isSome_eq;rw [fK] at q;rw [<-q,<-l];exact h _ (I.tok _)
theorem qek (f:A.units+1 < cLine) (I:Inv X pins σ H s) (g:DGet H a y o) (c:RelV y u) (h:∀ s',Inv X pins σ H s'->Q (.bool (!o.isSome)) s'):wpAny (model X.prog X.w) A (compareOp .NotIn u (.ref a)) Q E s:=by
 rcases g with ⟨kvs,k,e,d,l⟩ | ⟨kvs,k,b,e,d,D,l⟩
 ·subst d;obtain ⟨z,hd,vs,rel,dd⟩:=Uu I.hok e;refine wpAny_notIn_of (Gv c) hd dd.mapOf ?_;rw [<-(rel.val k).isSome_eq,<-l];exact h _ (I.tok _)
 ·subst d;cases (show u=aI b from c);obtain ⟨z,hd,xs,rel,dd⟩:=Zh I.hok e;refine wpAny_notIn_heap (li f) (Qn I.hok D) hd dd ?_;have q:=(rel.val k).isSome_eq;rw [fK] at q;rw [<-q,<-l];exact h _ (I.tok _)
theorem Gx {t':Nat} {o:HO} (I:Inv X pins σ H s) (m:Mut (H a)) (hs:bj a s.heap h') (i:∃ q,h'.get? a=iF q) (new:ObjOk X.prog X.w (upd H a o) h' a o):Inv X pins σ (upd H a o) { s with heap:=h',toks:=t' }:=
 I.write (x:=a) (e:=a) m (.inl rfl) (λb q d z=>(hs.2 b d).trans z) i new
theorem Gy {H':Hp} {kvs:List (Key×V)} {vs:List (Key×iI)} (z:kvs.length<=sizeLine) (hd:(a == sysModules)=iJ) (rel:KV kvs vs) (dd:h'.DictOf (qZ P w) a vs):ObjOk P w H' h' a (.dK kvs):=⟨z,hd,vs,rel,dd⟩
theorem Gz {Q:Unit->iL->Prop} (o:A.units+1 < cLine) (I:Inv X pins σ H s) (g:DPut H a y v H') (j:RelV y u) (m:RelV v r) (h:∀ s',Inv X pins σ H' s'->Q () s'):wpAny (model X.prog X.w) A (setItem (.ref a) u r) Q E s:=by
 rcases g with ⟨kvs,k,e,f,l,i⟩ | ⟨kvs,k,b,e,f,D,l,i⟩
 ·subst f i;obtain ⟨z,hd,vs,rel,dd⟩:=qiP I.hok e;have hz:vs.length<=sizeLine:=by rw [<-rel.length]; exact z
  have hl:(Jn kvs k v).length<=sizeLine:=by have:=xD kvs k v; omega
  refine wpAny_setItem_pairs (hsz:=hz) (Gv j) dd λh' d hs=>h _ ?_;have p:∃ q,h'.get? a=iF q:=let ⟨q,_,_,hq,_⟩:=d; ⟨q,hq⟩
  exact Gx I (by rw [e]; exact dg) hs p (Gy hl hd (rel.put k m) d)
 ·subst f i;cases (show u=aI b from j);obtain ⟨z,hd,xs,rel,dd⟩:=qiQ I.hok e;have hz:xs.length<=sizeLine:=by rw [<-fU rel]; exact z
  have hl:(Jn kvs k v).length<=sizeLine:=by have:=xD kvs k v; omega
  refine wpAny_setItem_heap (hsz:=hz) (li o) (Qn I.hok D) dd λh' d hs=>h _ ?_;obtain ⟨q,es,ep,hq,h2,h3,x,_,t⟩:=d;refine Gx I (by rw [e]; exact dg) hs ⟨q,hq⟩ ⟨hl,hd,_,(rel.put k D m).keeps λc ys n=>?_,q,es,ep,hq,h2,h3,x,t⟩;rw [qv (qir n e (λz=>nomatch z))];exact n
end
section
variable {kvs:List (Key×V)} {k:Key}
theorem qiR (I:Inv X pins σ H s) (e:Rd H a (.dK kvs)) (h:∀ t s',Inv X pins σ H s'->Q (.int kvs.length t) s'):wpAny (model X.prog X.w) A (call (.builtin "len") [.ref a]) Q E s:=by obtain ⟨z,hd,vs,rel,dd⟩:=Uu I.hok e;refine call_len_dict hd dd (by rw [<-rel.length]; rw [iP] at z; omega) ?_;rw [<-rel.length];exact h _ _ (I.tok _)
end
theorem Uv (I:Inv X pins σ H s) (g:DGet H a y o):s.TypeIs (.ref a) "dict":=by
 rcases g with ⟨kvs,k,e,_,_⟩ | ⟨kvs,k,b,e,_,_,_⟩
 ·obtain ⟨_,_,vs,_,dd⟩:=Uu I.hok e;exact dd.typeIs
 ·obtain ⟨_,_,xs,_,dd⟩:=Zh I.hok e;exact dd.typeIs
def qiS (td ty tv:TE):TS:=λD σ H=>tv σ H λv H1=>td σ H1 λx H2=>ty σ H2 λy d=>∃ a b,x=.ref a/\DPut d a y v b/\D.nx σ b
variable {pos:Pos}
section
variable {o i e value:Expr} {pos' tpos:Pos} {td ty tv:TE}
theorem qel (k:X.A.units+1 < cLine) (l:PE X o td) (hi:PE X i ty) (j:PE X value tv) (hs:swapsWith value (iF (.Subscript o i pos')) pos.line X.env=pure iJ):PS X (.Assign [.Subscript o i pos'] value pos) (qiS td ty tv):=by refine ⟨?_⟩;intro pins s σ H D I h;refine wpAny_Assign_Subscript (thn (j pins s σ H _ I h) λr s1 ⟨v,H1,p,b,f⟩=>thn (l pins s1 σ H1 _ p f) λu s2 ⟨x,H2,n,d,e⟩=>thn (hi pins s2 σ H2 _ n e) λw s3 ⟨y,z,m,c,a,t,ex,g,q⟩=>?_) hs;subst ex;obtain rfl:u=aI a:=d;exact Gz k m g c b λs4 B=>⟨σ,t,B,q⟩
end
theorem qbQ (h:Heap) (d:sysModules < h.objs.size):ObjOk P w H (h.push { cls:=.type "dict",data:=.dict #[] }) h.objs.size (.dK []):=
 ⟨be _,beq_eq_false_iff_ne.mpr (bf (ay d)),[],.nil,Heap.DictOf.new h⟩
def qgw:TE:=λ_ H Q=>∀ p,H p=iH->Q (.ref p) (upd H p (.dK []))
section
theorem qbR:PE X (.Dict [] [] pos) qgw:=⟨λpins s σ H Q I h=>
 wpAny_Dict_empty ⟨.ref s.heap.objs.size,_,I.laid (a:=s.heap.objs.size) (o:=.dK []) (t':=s.toks) (λ_ _ q=>aa _ q) (aw _) (qbQ s.heap I.big),rfl,h _ (I.hok.fresh (aw _))⟩⟩
end
structure M1 (X:Cx) (o:Expr) (m:Str) (apos:Pos) (e:Expr) (cpos:Pos):Prop where
 base:attributeBase o m X.env (eval o X.env)=eval o X.env
 few:((backTo cpos (starEach [e] X.env)).all (λx=>!x.1)&&(backToKw cpos (keywordEach [] X.env)).all (λx=>x.1.isSome)
  && decide (([e]:List Expr).length+([]:List i0).length+(if ([]:List i0).isEmpty then 0 else 1) < 30))=iK
 line:(apos.endLine == cpos.line)=iK
 trees:backTo cpos (starEach [e] X.env)=[(iJ,eval e X.env)]
structure M2 (X:Cx) (o:Expr) (m:Str) (apos:Pos) (e f:Expr) (cpos:Pos):Prop where
 base:attributeBase o m X.env (eval o X.env)=eval o X.env
 few:((backTo cpos (starEach [e,f] X.env)).all (λx=>!x.1)&&(backToKw cpos (keywordEach [] X.env)).all (λx=>x.1.isSome)
  && decide (([e,f]:List Expr).length+([]:List i0).length+(if ([]:List i0).isEmpty then 0 else 1) < 30))=iK
 line:(apos.endLine == cpos.line)=iK
 trees:backTo cpos (starEach [e,f] X.env)=[(iJ,eval e X.env),(iJ,eval f X.env)]
def IsD (H:Hp) (a:Addr):Prop:=(∃ kvs,Rd H a (.dK kvs))\/∃ kvs,Rd H a (.dT kvs)
theorem qgx (I:Inv X pins σ H s) (d:IsD H a):s.TypeIs (.ref a) "dict"/\(∀ b,aI a=.ref b->∃ o,s.heap.get? b=iF o/\o.dict=iH)/\(a == sysModules)=false:=by
 rcases d with ⟨kvs,e⟩ | ⟨kvs,e⟩
 ·obtain ⟨_,hd,vs,_,dd⟩:=Uu I.hok e;refine ⟨dd.typeIs,λb q=>?_,hd⟩;cases q;obtain ⟨o,_,_,h1,h2,_⟩:=dd;exact ⟨o,h1,h2.2.1⟩
 ·obtain ⟨_,hd,xs,_,dd⟩:=Zh I.hok e;refine ⟨dd.typeIs,λb q=>?_,hd⟩;cases q;obtain ⟨o,_,_,h1,h2,_⟩:=dd;exact ⟨o,h1,h2.2.1⟩
section
theorem GA:yb X (.builtin "len") (λxs H Q=>∃ a kvs,xs=[V.ref a]/\H a=iF (.dK kvs)/\Q (.int kvs.length) H):=by intro pins s σ H xs us Q I r h;obtain ⟨a,kvs,rfl,g,q⟩:=h;obtain ⟨u,rfl,A⟩:=xR r;cases A;exact qiR I (.inl g) λt s' b=>⟨.int kvs.length,H,b,⟨t,rfl⟩,q⟩
end
end L2
namespace L2.D2
open PySem PySem.Spec PyProof.Rows
variable {b:List Nat}
theorem kz {a:List Nat} (h:(a.all λi=>decide (i∈b))=iK):∀ i∈a,i∈b:=λi hi=>of_decide_eq_true (aL.mp h i hi)
theorem xT {i:Nat} (h:decide (i∈b)=iJ):i∉b:=of_decide_eq_false h
noncomputable def Uw:Expr->Bool
 | .Starred ..=>iJ
 | _=>iK
variable {e:Expr} {env:Env}
theorem jl {es:List Expr} (h:Uw e=iK):starEach (e::es) env=(iJ,eval e env)::starEach es env:=by cases e <;> first | rfl | cases h
theorem qI (h:Uw e=iK):starEach [e] env=[(iJ,eval e env)]:=jl h
theorem YD {a b:Expr} (h:Uw a=iK) (k:Uw b=iK):starEach [a,b] env=[(iJ,eval a env),(iJ,eval b env)]:=by rw [jl h,qI k]
variable {pos:Pos}
theorem vR:∀ {es:List Expr},es.all Uw=iK->(backTo pos (starEach es env)).any (·.1)=iJ
 | [],_=>rfl
 | e::es,h=>by rw [fq,aM] at h;rw [jl h.1];exact vR h.2
theorem vS (h:Uw e=iK):((backTo pos (starEach [e] env)).all (λx=>!x.1)&&(backToKw pos (keywordEach [] env)).all (λx=>x.1.isSome)
   && decide ([e].length+([]:List i0).length+(if ([]:List i0).isEmpty then 0 else 1) < 30))=true:=by rw [qI h]; rfl
inductive D where
 | non | bl (b:Bool) | int (i:Int) | str (x:Str)
 | tup (xs:List D) | lst (xs:List D) | dct (kvs:List (Key×D)) | raw (v:V)
 | xcp (C:Addr) | ins (C:Addr) (fs:List (Str×D)) | at_ (a:Addr) (xs:List D)
 deriving Inhabited
abbrev Sl:=List (Option D)
inductive Out (α:Type) where
 | ok (a:α) | exc (c:Str) (o:Sl) | bad
variable {α β:Type}
noncomputable def Out.bind (o:Out α) (k:α->Out β):Out β:=match o with
 | .ok a=>k a
 | .exc c o=>.exc c o
 | .bad=>.bad
@[simp] theorem Out.og (a:α) (k:α->Out β):(Out.ok a).bind k=k a:=rfl
@[simp] theorem Out.exc_bind (c:Str) (o:Sl) (k:α->Out β):(Out.exc c o:Out α).bind k=.exc c o:=rfl
@[simp] theorem Out.bad_bind (k:α->Out β):(Out.bad:Out α).bind k=.bad:=rfl
noncomputable def Ux (a C:Addr):HO:=.ext λh=>∃ o vs,h.get? a=iF o/\o.cls=.ref C/\o.data=.fields vs
mutual
/-- the value v is the data d,all its objects in F -/
inductive Is (K:Frag) (F:Hp):V->D->Prop
 | non:Is K F .non .non
 | bl (b:Bool):Is K F (.bl b) (.bl b)
 | int (i:Int):Is K F (.int i) (.int i)
 | str {x:Str} (h:x.length<=sizeLine):Is K F (.str x) (.str x)
 | tup {a:Addr} {xs:List V} {ds:List D} (h:SqT K F a xs) (t:IsL K F xs ds):Is K F (.ref a) (.tup ds)
 | lst {a:Addr} {xs:List V} {ds:List D} (h:SqL K F a xs) (t:IsL K F xs ds):Is K F (.ref a) (.lst ds)
 | dct {a:Addr} {kv:List (Key×V)} {kvs:List (Key×D)} (h:F a=iF (.dK kv)) (t:IsK K F kv kvs):Is K F (.ref a) (.dct kvs)
 | raw (v:V):Is K F v (.raw v)
 | xcp {a C:Addr} (h:F a=iF (Ux a C)):Is K F (.ref a) (.xcp C)
 | ins {a C dx:Addr} {fv:List (Str×V)} {fs:List (Str×D)} (h:F a=iF (.ins C dx fv)) (t:IsF K F fv fs):Is K F (.ref a) (.ins C fs)
 | at_ {a:Addr} {xs:List V} {ds:List D} (h:SqL K F a xs) (t:IsL K F xs ds):Is K F (.ref a) (.at_ a ds)
inductive IsL (K:Frag) (F:Hp):List V->List D->Prop
 | nil:IsL K F [] []
 | cons {v:V} {d:D} {vs:List V} {ds:List D} (h:Is K F v d) (t:IsL K F vs ds):IsL K F (v::vs) (d::ds)
inductive IsK (K:Frag) (F:Hp):List (Key×V)->List (Key×D)->Prop
 | nil:IsK K F [] []
 | cons {k:Key} {v:V} {d:D} {vs:List (Key×V)} {ds:List (Key×D)} (h:Is K F v d) (t:IsK K F vs ds):IsK K F ((k,v)::vs) ((k,d)::ds)
inductive IsF (K:Frag) (F:Hp):List (Str×V)->List (Str×D)->Prop
 | nil:IsF K F [] []
 | cons {k:Str} {v:V} {d:D} {vs:List (Str×V)} {ds:List (Str×D)} (h:Is K F v d) (t:IsF K F vs ds):IsF K F ((k,v)::vs) ((k,d)::ds)
end
theorem jm {K:Frag} {H H':Hp} {a:Addr} {xs:List V} (e:Same H H') (h:SqT K H a xs):SqT K H' a xs:=by
 rcases h with (h | ⟨o,h⟩) | h;·exact .inl (.inl (e _ _ h))
 ·exact .inl (.inr ⟨o,e _ _ h⟩)
 ·exact .inr h
mutual
theorem Is.mono {K:Frag} {F F':Hp} (e:Same F F'):∀ {v:V} {d:D},Is K F v d->Is K F' v d
 | _,_,.non=>.non
 | _,_,.bl b=>.bl b
 | _,_,.int i=>.int i
 | _,_,.str h=>.str h
 | _,_,.tup h t=>.tup (jm e h) (IsL.mono e t)
 | _,_,.lst h t=>.lst (e.seq h) (IsL.mono e t)
 | _,_,.dct h t=>.dct (e _ _ h) (IsK.mono e t)
 | _,_,.raw v=>.raw v
 | _,_,.xcp h=>.xcp (e _ _ h)
 | _,_,.ins h t=>.ins (e _ _ h) (IsF.mono e t)
 | _,_,.at_ h t=>.at_ (e.seq h) (IsL.mono e t)
theorem IsL.mono {K:Frag} {F F':Hp} (e:Same F F'):∀ {vs:List V} {ds:List D},IsL K F vs ds->IsL K F' vs ds
 | _,_,.nil=>.nil
 | _,_,.cons h t=>.cons (Is.mono e h) (IsL.mono e t)
theorem IsK.mono {K:Frag} {F F':Hp} (e:Same F F'):∀ {vs:List (Key×V)} {ds:List (Key×D)},IsK K F vs ds->IsK K F' vs ds
 | _,_,.nil=>.nil
 | _,_,.cons h t=>.cons (Is.mono e h) (IsK.mono e t)
theorem IsF.mono {K:Frag} {F F':Hp} (e:Same F F'):∀ {vs:List (Str×V)} {ds:List (Str×D)},IsF K F vs ds->IsF K F' vs ds
 | _,_,.nil=>.nil
 | _,_,.cons h t=>.cons (Is.mono e h) (IsF.mono e t)
end
theorem IsL.length {K:Frag} {F:Hp}:∀ {vs:List V} {ds:List D},IsL K F vs ds->vs.length=ds.length
 | _,_,.nil=>rfl
 | _,_,.cons _ t=>congrArg (·+1) (IsL.length t)
theorem IsL.get {K:Frag} {F:Hp}:∀ {vs:List V} {ds:List D} {i:Nat} {v:V},IsL K F vs ds->vs[i]?=iF v->∃ d,ds[i]?=iF d/\Is K F v d
 | _,_,_,_,.nil,e=>by simp at e
 | _,_,0,_,.cons h _,e=>by simp at e; subst e; exact ⟨_,rfl,h⟩
 | _,_,i+1,v,.cons _ t,e=>by obtain ⟨d,h1,h2⟩:=IsL.get (i:=i) (v:=v) t (by simpa using e);exact ⟨d,by simpa using h1,h2⟩
theorem IsL.getD {K:Frag} {F:Hp}:∀ {vs:List V} {ds:List D} {i:Nat} {d:D},IsL K F vs ds->ds[i]?=iF d->∃ v,vs[i]?=iF v/\Is K F v d
 | _,_,_,_,.nil,e=>by simp at e
 | _,_,0,_,.cons h _,e=>by simp at e; subst e; exact ⟨_,rfl,h⟩
 | _,_,i+1,v,.cons _ t,e=>by obtain ⟨d,h1,h2⟩:=IsL.getD (i:=i) (d:=v) t (by simpa using e);exact ⟨d,by simpa using h1,h2⟩
theorem IsL.append {K:Frag} {F:Hp}:∀ {vs ws:List V} {ds es:List D},IsL K F vs ds->IsL K F ws es->IsL K F (vs++ws) (ds++es)
 | _,_,_,_,.nil,s=>s
 | _,_,_,_,.cons h t,s=>.cons h (IsL.append t s)
theorem IsL.drop {K:Frag} {F:Hp}:∀ {vs:List V} {ds:List D} (n:Nat),IsL K F vs ds->IsL K F (vs.drop n) (ds.drop n)
 | _,_,0,r=>r
 | _,_,_+1,.nil=>.nil
 | _,_,n+1,.cons _ t=>IsL.drop n t
theorem IsL.take {K:Frag} {F:Hp}:∀ {vs:List V} {ds:List D} (n:Nat),IsL K F vs ds->IsL K F (vs.take n) (ds.take n)
 | _,_,0,_=>.nil
 | _,_,_+1,.nil=>.nil
 | _,_,n+1,.cons h t=>.cons h (IsL.take n t)
theorem IsL.set {K:Frag} {F:Hp} {v:V} {d:D} (h:Is K F v d):∀ {vs:List V} {ds:List D} (i:Nat),IsL K F vs ds->IsL K F (vs.set i v) (ds.set i d)
 | _,_,_,.nil=>.nil
 | _,_,0,.cons _ t=>.cons h t
 | _,_,i+1,.cons q t=>.cons q (IsL.set h i t)
theorem IsL.reverse {K:Frag} {F:Hp}:∀ {vs:List V} {ds:List D},IsL K F vs ds->IsL K F vs.reverse ds.reverse
 | _,_,.nil=>.nil
 | _,_,.cons h t=>by rw [eu,eu];exact (IsL.reverse t).append (.cons h .nil)
def OwnIs (K:Frag) (F H:Hp) (a:Addr):D->Prop
 | .lst ds=>∃ xs,H a=iF (.lst xs)/\IsL K F xs ds
 | .dct kvs=>∃ kv,H a=iF (.dK kv)/\IsK K F kv kvs
 | .ins C fs=>∃ dx fv,H a=iF (.ins C dx fv)/\IsF K F fv fs
 | .at_ b ds=>b=a/\∃ xs,H a=iF (.lst xs)/\IsL K F xs ds
 | _=>False
def TopIs (K:Frag) (F H:Hp) (v:V) (d:D):Prop:=Is K F v d\/∃ a,v=.ref a/\OwnIs K F H a d
inductive Mo where
 | sh | fr | any
def MoIs (K:Frag) (m:Mo) (H0 F H:Hp) (v:V) (d:D):Prop:=match m with
 | .sh=>Is K F v d
 | .fr=>∃ a,v=.ref a/\H0 a=iH/\F a=iH/\OwnIs K F H a d
 | .any=>TopIs K F H v d
theorem MoIs.top {K:Frag} {m:Mo} {H0 F H:Hp} {v:V} {d:D} (h:MoIs K m H0 F H v d):TopIs K F H v d:=by
 cases m with
 | sh=>exact .inl h
 | fr=>obtain ⟨a,e,_,_,o⟩:=h; exact .inr ⟨a,e,o⟩
 | any=>exact h
structure Chg (A:Addr->Prop) (F H F' H':Hp):Prop where
 keep:∀ b o,H b=iF o->¬A b->H' b=iF o
 stay:∀ b,H b≠iH->H' b≠iH
 grow:Same F F'
 new:∀ b,F' b≠iH->F b≠iH\/H b=iH\/A b
theorem Chg.refl {A:Addr->Prop} {F H:Hp}:Chg A F H F H:=⟨λ_ _ e _=>e,λ_ h=>h,Same.refl _,λ_ h=>.inl h⟩
theorem Chg.trans {A A1:Addr->Prop} {F H F1 H1 c H2:Hp} (a:Chg A F H F1 H1) (b:Chg A1 F1 H1 c H2) (hA:∀ x,A1 x->A x\/H x=iH):Chg A F H c H2 where
 keep:=λx o e n=>b.keep x o (a.keep x o e n) λz=>(hA x z).elim n λq=>by rw [e] at q; cases q
 stay:=λx h=>b.stay x (a.stay x h)
 grow:=a.grow.trans b.grow
 new:=λx h=>by
  rcases b.new x h with q | q | q;·exact a.new x q
  ·refine .inr (.inl ?_);cases e:H x with
   | none=>rfl
   | some o=>exact absurd q (a.stay x (by rw [e]; simp))
  ·rcases hA x q with z | z;·exact .inr (.inr z)
   ·exact .inr (.inl z)
theorem Chg.trans' {A:Addr->Prop} {F H F1 H1 c H2:Hp} (a:Chg A F H F1 H1) (b:Chg A F1 H1 c H2):Chg A F H c H2:=a.trans b λ_ z=>.inl z
theorem Chg.mono {A c:Addr->Prop} {F H F1 H1:Hp} (a:Chg A F H F1 H1) (h:∀ x,A x->c x):Chg c F H F1 H1:=
 ⟨λb o e n=>a.keep b o e λz=>n (h b z),a.stay,a.grow,λb z=>(a.new b z).imp id (Or.imp id (h b))⟩
abbrev No:Addr->Prop:=λ_=>False
theorem Chg.ofNo {A:Addr->Prop} {F H F1 H1:Hp} (a:Chg No F H F1 H1):Chg A F H F1 H1:=a.mono λ_ z=>z.elim
structure Rep (K:Frag) (own:List Nat) (F H:Hp) (σ:St) (ρ:Sl):Prop where
 sub:Same F H
 len:σ.length=ρ.length
 val:∀ i d,i∉own->ρ[i]?=iF (iF d)->∃ v,σ[i]?=iF (iF v)/\Is K F v d
 ow:∀ i d,i∈own->ρ[i]?=iF (iF d)->∃ a,σ[i]?=iF (iF (.ref a))/\F a=iH/\OwnIs K F H a d
 opn:∀ i,i∈own->∃ d,ρ[i]?=iF (iF d)
 dis:∀ i j a,i∈own->j∈own->σ[i]?=iF (iF (V.ref a))->σ[j]?=iF (iF (V.ref a))->i=j
def OA (own:List Nat) (σ:St):Addr->Prop:=λb=>∃ i∈own,σ[i]?=iF (iF (V.ref b))
theorem OwnIs.there {K:Frag} {F H:Hp} {a:Addr} {d:D} (h:OwnIs K F H a d):H a≠none:=by
 cases d with
 | lst ds=>obtain ⟨xs,e,_⟩:=h; rw [e]; simp
 | dct ds=>obtain ⟨xs,e,_⟩:=h; rw [e]; simp
 | ins C fs=>obtain ⟨dx,xs,e,_⟩:=h; rw [e]; simp
 | at_ b ds=>obtain ⟨_,xs,e,_⟩:=h; rw [e]; simp
 | _=>exact h.elim
theorem OwnIs.grow {K:Frag} {F H F' H':Hp} {a:Addr} {d:D} (h:OwnIs K F H a d) (g:Same F F') (k:∀ o,H a=iF o->H' a=iF o):OwnIs K F' H' a d:=by
 cases d with
 | lst ds=>obtain ⟨xs,e,t⟩:=h; exact ⟨xs,k _ e,t.mono g⟩
 | dct ds=>obtain ⟨xs,e,t⟩:=h; exact ⟨xs,k _ e,t.mono g⟩
 | ins C fs=>obtain ⟨dx,xs,e,t⟩:=h; exact ⟨dx,xs,k _ e,t.mono g⟩
 | at_ b ds=>obtain ⟨c,xs,e,t⟩:=h; exact ⟨c,xs,k _ e,t.mono g⟩
 | _=>exact h.elim
theorem Rep.OA_there {K:Frag} {own:List Nat} {F H:Hp} {σ:St} {ρ:Sl} (r:Rep K own F H σ ρ) {b:Addr} (h:OA own σ b):H b≠iH/\F b=none:=by obtain ⟨i,hi,e⟩:=h;obtain ⟨d,hd⟩:=r.opn i hi;obtain ⟨a,e1,c,o⟩:=r.ow i d hi hd;rw [e] at e1;cases e1;exact ⟨o.there,c⟩
theorem Rep.grow {K:Frag} {own:List Nat} {F H F' H':Hp} {σ:St} {ρ:Sl} (r:Rep K own F H σ ρ) (c:Chg No F H F' H') (s:Same F' H'):Rep K own F' H' σ ρ where
 sub:=s
 len:=r.len
 val:=λi d hi e=>let ⟨v,h1,h2⟩:=r.val i d hi e; ⟨v,h1,h2.mono c.grow⟩
 ow:=λi d hi e=>by
  obtain ⟨a,h1,h2,h3⟩:=r.ow i d hi e;refine ⟨a,h1,?_,h3.grow c.grow λo q=>c.keep a o q λz=>z⟩;cases q:F' a with
  | none=>rfl
  | some o=>
   rcases c.new a (by rw [q]; simp) with z | z | z;·exact absurd h2 z
   ·exact absurd z h3.there
   ·exact z.elim
 opn:=r.opn
 dis:=r.dis
theorem MoIs.grow {K:Frag} {A:Addr->Prop} {m:Mo} {H0 F H F' H':Hp} {v:V} {d:D} (h:MoIs K m H0 F H v d) (b:m≠.any) (c:Chg A F H F' H') (hA:∀ x,A x->H0 x≠iH):MoIs K m H0 F' H' v d:=by
 cases m with
 | sh=>exact Is.mono c.grow h
 | fr=>
  obtain ⟨a,e,h0,E,o⟩:=h;have n:¬A a:=λz=>hA a z h0;refine ⟨a,e,h0,?_,o.grow c.grow λo q=>c.keep a o q n⟩;cases q:F' a with
  | none=>rfl
  | some u=>
   rcases c.new a (by rw [q]; simp) with z | z | z;·exact absurd E z
   ·exact absurd z o.there
   ·exact absurd z n
 | any=>exact absurd rfl b
def ZZ (K:Frag) (io:List Nat) (F H:Hp) (σ:St) (ρ:Sl):Prop:=∀ i∈io,∃ d a,ρ[i]?=iF (iF d)/\σ[i]?=iF (iF (V.ref a))/\F a=iH/\OwnIs K F H a d
theorem Rep.ioIs {K:Frag} {own io:List Nat} {F H:Hp} {σ:St} {ρ:Sl} (r:Rep K own F H σ ρ) (h:∀ i∈io,i∈own):ZZ K io F H σ ρ:=λi hi=>by obtain ⟨d,hd⟩:=r.opn i (h i hi);obtain ⟨a,h1,h2,h3⟩:=r.ow i d (h i hi) hd;exact ⟨d,a,hd,h1,h2,h3⟩
structure Ct where
 K:Frag
 cv:Str->iI
 E:XK
 io:List Nat
 mr:Mo
 ol:List Nat
 ox:List Nat
 oxs:∀ i∈ox,i∈io
abbrev VU:=Out (D×Sl)
def Po (C:Ct) (own:List Nat) (m:Mo) (σ:St) (F H:Hp) (r:VU) (Q:VK):Prop:=match r with
 | .ok (d,ρ')=>∀ v F' H',Rep C.K own F' H' σ ρ'->Chg (OA own σ) F H F' H'->MoIs C.K m H F' H' v d->Q v H'
 | .exc c ρ'=>∀ F' H',Same F' H'->ZZ C.K C.ox F' H' σ ρ'->Chg (OA own σ) F H F' H'->C.E (C.cv c) iH H'
 | .bad=>False
abbrev jg:=Sl->VU
def tE (C:Ct) (own:List Nat) (m:Mo) (f:jg):TE:=λσ H Q=>∃ F ρ,Rep C.K own F H σ ρ/\Po C own m σ F H (f ρ) Q
theorem MoIs.back {K:Frag} {m:Mo} {A:Addr->Prop} {H0 F H F1 H1:Hp} {b Ha:Hp} {v:V} {d:D} (c:Chg A b H0 F1 H1) (h:MoIs K m H1 F H v d):MoIs K m H0 F H v d:=by
 cases m with
 | sh=>exact h
 | fr=>
  obtain ⟨a,e,h0,r⟩:=h;refine ⟨a,e,?_,r⟩;cases q:H0 a with
  | none=>rfl
  | some o=>exact absurd h0 (c.stay a (by rw [q]; simp))
 | any=>exact h
theorem Po.shift {C:Ct} {own:List Nat} {m:Mo} {σ:St} {F H F1 H1:Hp} {r:VU} {Q:VK} (h:Po C own m σ F H r Q) (c:Chg (OA own σ) F H F1 H1):Po C own m σ F1 H1 r Q:=by
 cases r with
 | ok p=>exact λv F' H' a S mo=>h v F' H' a (c.trans' S) (MoIs.back (Ha:=H1) c mo)
 | exc x=>exact λF' H' s io S=>h F' H' s io (c.trans' S)
 | bad=>exact h.elim
theorem Po.bind {C:Ct} {own:List Nat} {m ma:Mo} {σ:St} {F H:Hp} {o:VU} {k:D×Sl->VU} {Q R:VK} (hp:Po C own m σ F H (o.bind k) Q)
  (h:∀ v F1 H1 d ρ1,Rep C.K own F1 H1 σ ρ1->Chg (OA own σ) F H F1 H1->MoIs C.K ma H F1 H1 v d->Po C own m σ F1 H1 (k (d,ρ1)) Q->R v H1):Po C own ma σ F H o R:=by
 cases o with
 | ok p=>obtain ⟨d,ρ1⟩:=p;exact λv F1 H1 a c mo=>h v F1 H1 d ρ1 a c mo (Po.shift (show Po C own m σ F H (k (d,ρ1)) Q from hp) c)
 | exc x=>exact hp
 | bad=>exact hp.elim
def PoV (C:Ct) (m:Mo) (F H:Hp) (r:Out D) (Q:VK):Prop:=match r with
 | .ok d=>∀ v F' H',Same F' H'->Chg No F H F' H'->MoIs C.K m H F' H' v d->Q v H'
 | _=>False
def OpD (X:Cx) (C:Ct) (m:Mo) (f:iI->iI->Sem iI) (g:D->D->Out D):Prop:=
 OpR X f (λx y H Q=>∃ F dx d,Same F H/\TopIs C.K F H x dx/\TopIs C.K F H y d/\PoV C m F H (g dx d) Q)
def UnD (X:Cx) (C:Ct) (m:Mo) (f:iI->Sem iI) (g:D->Out D):Prop:=
 UnR X f (λx H Q=>∃ F dx,Same F H/\TopIs C.K F H x dx/\PoV C m F H (g dx) Q)
noncomputable def Out.plain {α:Type}:Out α->Out α
 | .ok a=>.ok a
 | _=>.bad
theorem PoV.of {C:Ct} {own:List Nat} {m:Mo} {σ:St} {F H:Hp} {o:Out D} {ρ:Sl} {Q:VK} (a:Rep C.K own F H σ ρ) (h:Po C own m σ F H (o.plain.bind λd=>.ok (d,ρ)) Q):PoV C m F H o Q:=by
 cases o with
 | ok d=>exact λv F' H' s c mo=>h v F' H' (a.grow c s) c.ofNo mo
 | exc c=>exact h.elim
 | bad=>exact h.elim
noncomputable def d2 (g:D->D->Out D) (fa fb:jg):jg:=λρ=>(fa ρ).bind λp=>(fb p.2).bind λq=>(g p.1 q.1).plain.bind λd=>.ok (d,q.2)
noncomputable def d1 (g:D->Out D) (fa:jg):jg:=λρ=>(fa ρ).bind λp=>(g p.1).plain.bind λd=>.ok (d,p.2)
section
variable {X:Cx} {C:Ct} {own:List Nat} {a b:Expr} {fa fb:jg} {m ma mb:Mo} {pos:Pos}
theorem VV {g:D->D->Out D} {σ:St} {H:Hp} {Q:VK} (f:ma≠.any) (h:tE C own m (d2 g fa fb) σ H Q):tE C own ma fa σ H λx H1=>tE C own mb fb σ H1 λy H2=>∃ F dx i,Same F H2/\TopIs C.K F H2 x dx/\TopIs C.K F H2 y i/\PoV C m F H2 (g dx i) Q:=by obtain ⟨F,ρ,p,h⟩:=h;refine ⟨F,ρ,p,Po.bind h λv F1 H1 d ρ1 a k c h1=>⟨F1,ρ1,a,Po.bind h1 λw j H2 e ρ2 r c2 b h2=>?_⟩⟩;exact ⟨j,d,e,r.sub,(c.grow f c2 λx z=>(p.OA_there z).1).top,b.top,PoV.of r h2⟩
theorem VW {g:D->Out D} {σ:St} {H:Hp} {Q:VK} (h:tE C own m (d1 g fa) σ H Q):tE C own ma fa σ H λx H1=>∃ F dx,Same F H1/\TopIs C.K F H1 x dx/\PoV C m F H1 (g dx) Q:=by obtain ⟨F,ρ,r,h⟩:=h;refine ⟨F,ρ,r,Po.bind h λv F1 H1 d ρ1 a k c h1=>?_⟩;exact ⟨F1,d,a.sub,c.top,PoV.of a h1⟩
theorem jB {e:Expr} {t t':TE} (h:PE X e t) (i:∀ σ H Q,t' σ H Q->t σ H Q):PE X e t':=⟨λpins s σ H Q I hw=>h pins s σ H Q I (i σ H Q hw)⟩
theorem qbS {e:Expr} {t t':TT} (h:PT X e t) (i:∀ σ H Q,t' σ H Q->t σ H Q):PT X e t':=⟨λpins s σ H Q I hw=>h pins s σ H Q I (i σ H Q hw)⟩
theorem jR {op:Operator} {g:D->D->Out D} (l:OpD X C m (binaryOp op) g) (c:PE X a (tE C own ma fa)) (d:PE X b (tE C own mb fb)) (f:ma≠.any:=by decide):PE X (.BinOp a op b pos) (tE C own m (d2 g fa fb)):=
 jB (qiB l c d) λ_ _ _ h=>VV f h
theorem xm {op:CmpOp} {g:D->D->Out D} (l:OpD X C m (compareOp op) g) (c:PE X a (tE C own ma fa)) (d:PE X b (tE C own mb fb)) (f:ma≠.any:=by decide)
  (k:behindInMarks op b=false:=by first | exact qdd _ | with_unfolding_all rfl):PE X (.Compare a [op] [b] pos) (tE C own m (d2 g fa fb)):=
 jB (qd2 l c d k) λ_ _ _ h=>VV f h
theorem qgy {op:UnaryOp} {g:D->Out D} (l:UnD X C m (unaryOp op) g) (b:PE X a (tE C own ma fa)):PE X (.UnaryOp op a pos) (tE C own m (d1 g fa)):=
 jB (qiC l b) λ_ _ _ h=>VW h
end
instance:DecidableEq Mo:=λa b=>by cases a <;> cases b <;> first | exact isTrue rfl | exact isFalse (by intro h; cases h)
theorem qbT {K:Frag} {own:List Nat} {H0 F H:Hp} {σ:St} {ρ:Sl} {v:V} {d:D} (r:Rep K own F H σ ρ) (hA:∀ b,OA own σ b->H0 b≠iH) (h:MoIs K .fr H0 F H v d):∃ F',Rep K own F' H σ ρ/\Same F F'/\Is K F' v d/\∀ b,F' b≠iH->F b≠iH\/H0 b=none:=by
 obtain ⟨a,rfl,h0,E,o⟩:=h;obtain ⟨u,hu⟩:∃ u,H a=iF u:=by
  cases q:H a with
  | none=>exact absurd q o.there
  | some u=>exact ⟨u,rfl⟩
 have gr:Same F (upd F a u):=λb w e=>by rw [qv (qB e E)]; exact e
 have y:Same (upd F a u) H:=λb w e=>by
  by_cases q:b=a;·subst q; rw [qt] at e; cases e; exact hu
  ·rw [qv q] at e; exact r.sub b w e
 refine ⟨upd F a u,⟨y,r.len,λi d hi e=>?_,λi d hi e=>?_,r.opn,r.dis⟩,gr,?_,λb f=>?_⟩;·obtain ⟨v,h1,h2⟩:=r.val i d hi e;exact ⟨v,h1,h2.mono gr⟩
 ·obtain ⟨c,h1,h2,h3⟩:=r.ow i d hi e;refine ⟨c,h1,?_,h3.grow gr λ_ q=>q⟩;have n:c≠a:=λq=>by subst q; exact hA c ⟨i,hi,h1⟩ h0
  rw [qv n]; exact h2
 ·cases d with
  | lst ds=>obtain ⟨xs,e,t⟩:=o; rw [hu] at e; cases e; exact .lst (.inl (.inl qt)) (t.mono gr)
  | dct ds=>obtain ⟨xs,e,t⟩:=o; rw [hu] at e; cases e; exact .dct qt (t.mono gr)
  | ins C fs=>obtain ⟨dx,xs,e,t⟩:=o; rw [hu] at e; cases e; exact .ins qt (t.mono gr)
  | at_ b ds=>obtain ⟨g,xs,e,t⟩:=o; rw [hu] at e; cases e; subst g; exact .at_ (.inl (.inl qt)) (t.mono gr)
  | _=>exact o.elim
 ·by_cases q:b=a;·exact .inr (by rw [q]; exact h0)
  ·rw [qv q] at f; exact .inl f
theorem Po.toSh {C:Ct} {own:List Nat} {m:Mo} {σ:St} {F H:Hp} {d:Sl} {r:VU} {Q:VK} (f:Rep C.K own F H σ d) (g:m≠.any) (h:Po C own .sh σ F H r Q):Po C own m σ F H r Q:=by
 cases r with
 | ok p=>
  intro v F' H' a c mo;cases m with
  | sh=>exact h v F' H' a c mo
  | fr=>
   obtain ⟨j,e,gr,is,n⟩:=qbT a (λb z=>(f.OA_there z).1) mo;refine h v j H' e ⟨c.keep,c.stay,c.grow.trans gr,λb i=>?_⟩ is;rcases n b i with z | z;·exact c.new b z
   ·exact .inr (.inl z)
  | any=>exact absurd rfl g
 | exc x=>exact h
 | bad=>exact h.elim
section
variable {X:Cx} {C:Ct} {own:List Nat} {a b e:Expr} {f fa fb:jg} {m ma mb:Mo} {pos:Pos}
theorem xE (h:PE X e (tE C own m f)) (c:m≠.any):PE X e (tE C own .sh f):=jB h λ_ _ _ ⟨F,ρ,a,p⟩=>⟨F,ρ,a,p.toSh a c⟩
noncomputable def qd (i:Nat):jg:=λρ=>match ρ[i]? with
 | some (iF d)=>.ok (d,ρ)
 | _=>.bad
noncomputable def dC (d:D):jg:=λρ=>.ok (d,ρ)
theorem qgz {i:Nat} {x:Str} (b:X.N[i]?=iF x) (c:Vis X.env.scope x) (l:i∉own) (hd:Dbg x:=by decide) (a:Cdk x:=by decide):PE X (.Name x pos) (tE C own .sh (qd i)):=by
 refine jB (ya b c hd a) λσ H Q ⟨F,ρ,r,h⟩=>?_;unfold qd at h;cases e:ρ[i]? with
 | none=>rw [e] at h; exact h.elim
 | some o=>
  cases o with
  | none=>rw [e] at h; exact h.elim
  | some d=>rw [e] at h;obtain ⟨v,h1,h2⟩:=r.val i d l e;exact ⟨v,h1,h v F H r .refl h2⟩
theorem qem {i:Nat} {x:Str} (f:X.N[i]?=iF x) (c:Vis X.env.scope x) (l:i∈own) (hd:Dbg x:=by decide) (b:Cdk x:=by decide):PE X (.Name x pos) (tE C own .any (qd i)):=by
 refine jB (ya f c hd b) λσ H Q ⟨F,ρ,r,h⟩=>?_;unfold qd at h;cases e:ρ[i]? with
 | none=>rw [e] at h; exact h.elim
 | some o=>
  cases o with
  | none=>rw [e] at h; exact h.elim
  | some d=>rw [e] at h;obtain ⟨a,h1,h2,h3⟩:=r.ow i d l e;exact ⟨_,h1,h _ F H r .refl (.inr ⟨a,rfl,h3⟩)⟩
theorem qgA {v:V} {d:D} (h:PE X e (tC v)) (i:∀ F,Is C.K F v d):PE X e (tE C own .sh (dC d)):=jB h λσ H Q ⟨F,ρ,a,h⟩=>h v F H a .refl (i F)
theorem qw {i j pos}:PE X (.Constant (.int i) j pos) (tE C own .sh (dC (.int i))):=qgA qf1 λ_=>.int i
theorem ua {i j pos}:PE X (.Constant (.bool i) j pos) (tE C own .sh (dC (.bl i))):=qgA qdV λ_=>.bl i
theorem yd {j pos}:PE X (.Constant .none j pos) (tE C own .sh (dC .non)):=qgA qf2 λ_=>.non
theorem qY {x j pos} (h:d4 x<=sizeLine:=by decide):PE X (.Constant (.str x) j pos) (tE C own .sh (dC (.str x))):=qgA qf3 λ_=>.str h
theorem qen {x:Str} {v:V} {d:D} {u:iI} (hg:Gl X x) (c:X.mg x=iF u) (r:RelV v u) (i:∀ F,Is C.K F v d) (hd:Dbg x:=by decide):PE X (.Name x pos) (tE C own .sh (dC d)):=qgA (Gc hg c r hd) i
noncomputable def Ui (g:Int->Int->Out D):D->D->Out D
 | .int i,.int j=>g i j
 | _,_=>.bad
theorem TopIs.int {K:Frag} {F H:Hp} {v:V} {i:Int} (h:TopIs K F H v (.int i)):v=.int i:=by
 rcases h with h | ⟨a,_,h⟩
 ·cases h; rfl
 ·exact h.elim
theorem TopIs.str {K:Frag} {F H:Hp} {v:V} {x:Str} (h:TopIs K F H v (.str x)):v=.str x/\x.length<=sizeLine:=by
 rcases h with h | ⟨a,_,h⟩
 ·cases h; exact ⟨rfl,by assumption⟩
 ·exact h.elim
theorem TopIs.bl {K:Frag} {F H:Hp} {v:V} {x:Bool} (h:TopIs K F H v (.bl x)):v=.bl x:=by
 rcases h with h | ⟨a,_,h⟩
 ·cases h; rfl
 ·exact h.elim
theorem TopIs.non {K:Frag} {F H:Hp} {v:V} (h:TopIs K F H v .non):v=.non:=by
 rcases h with h | ⟨a,_,h⟩
 ·cases h; rfl
 ·exact h.elim
theorem TopIs.raw {K:Frag} {F H:Hp} {v u:V} (h:TopIs K F H v (.raw u)):v=u:=by
 rcases h with h | ⟨a,_,h⟩
 ·cases h; rfl
 ·exact h.elim
theorem TopIs.lst {K:Frag} {F H:Hp} {v:V} {ds:List D} (s:Same F H) (h:TopIs K F H v (.lst ds)):∃ a xs,v=.ref a/\SqL K H a xs/\IsL K F xs ds:=by
 rcases h with h | ⟨a,e,h⟩
 ·cases h with
  | lst h t=>exact ⟨_,_,rfl,s.seq h,t⟩
 ·obtain ⟨xs,i,t⟩:=h;exact ⟨a,xs,e,.inl (.inl i),t⟩
theorem TopIs.tup {K:Frag} {F H:Hp} {v:V} {ds:List D} (s:Same F H) (h:TopIs K F H v (.tup ds)):∃ a xs,v=.ref a/\SqT K H a xs/\IsL K F xs ds:=by
 rcases h with h | ⟨a,e,h⟩
 ·cases h with
  | tup h t=>exact ⟨_,_,rfl,jm s h,t⟩
 ·exact h.elim
theorem TopIs.dct {K:Frag} {F H:Hp} {v:V} {ds:List (Key×D)} (s:Same F H) (h:TopIs K F H v (.dct ds)):∃ a kv,v=.ref a/\H a=iF (.dK kv)/\IsK K F kv ds:=by
 rcases h with h | ⟨a,e,h⟩
 ·cases h with
  | dct h t=>exact ⟨_,_,rfl,s _ _ h,t⟩
 ·obtain ⟨xs,i,t⟩:=h;exact ⟨a,xs,e,i,t⟩
theorem qde {fn:iI->iI->Sem iI} {P:Int->Int->Prop} [∀ i j,Decidable (P i j)] {g:Int->Int->V} {d:Int->Int->D} (l:OpR X fn (rI P g)) (hg:∀ F i j,Is C.K F (g i j) (d i j)):OpD X C .sh fn (Ui λi j=>if P i j then .ok (d i j) else .bad):=by
 intro pins s σ H x y v u Q I r c h;obtain ⟨F,dx,a,b,t,ty,po⟩:=h;cases dx <;> try exact po.elim
 cases a <;> try exact po.elim
 rename_i i j;have po:PoV C .sh F H (if P i j then .ok (d i j) else .bad) Q:=po;obtain rfl:=t.int;obtain rfl:=ty.int;by_cases q:P i j;·rw [if_pos q] at po;exact l pins s σ H _ _ v u Q I r c ⟨i,j,rfl,rfl,q,po (g i j) F H b .refl (hg F i j)⟩
 ·rw [if_neg q] at po; exact po.elim
theorem GB {fn:iI->iI->Sem iI} {g:Int->Int->V} {d:Int->Int->D} (l:OpR X fn (rI0 g)) (hg:∀ F i j,Is C.K F (g i j) (d i j)):OpD X C .sh fn (Ui λi j=>.ok (d i j)):=by
 intro pins s σ H x y v u Q I r c h;obtain ⟨F,dx,a,b,t,ty,po⟩:=h;cases dx <;> try exact po.elim
 cases a <;> try exact po.elim
 rename_i i j;obtain rfl:=t.int;obtain rfl:=ty.int;exact l pins s σ H _ _ v u Q I r c ⟨i,j,rfl,rfl,po (g i j) F H b .refl (hg F i j)⟩
noncomputable def Zi:D->D->Out D:=Ui λi j=>.ok (.int (i - j))
theorem JD:OpD X C .sh (binaryOp .Sub) Zi:=GB qgf λ_ _ _=>.int _
instance:∀ i j,Decidable (CMul i j):=λi j=>inferInstanceAs (Decidable (_\/_))
instance:∀ i j,Decidable (qkl i j):=λi j=>inferInstanceAs (Decidable (_/\_))
noncomputable def qdf:D->D->Out D:=Ui λi j=>if CMul i j then .ok (.int (i * j)) else .bad
theorem VX:OpD X C .sh (binaryOp .Mult) qdf:=qde qgg λ_ _ _=>.int _
noncomputable def qbU:D->D->Out D:=Ui λi j=>if 0 < j then .ok (.int (i % j)) else .bad
theorem VY:OpD X C .sh (binaryOp .Mod) qbU:=qde qgh λ_ _ _=>.int _
noncomputable def vM (x y:Str):Bool:=decide (x.cps.toList < y.cps.toList)
noncomputable def ltD:D->D->Out D
 | .int i,.int j=>.ok (.bl (decide (i < j)))
 | .str x,.str y=>.ok (.bl (vM x y))
 | _,_=>.bad
theorem qbV:OpD X C .sh (compareOp .Lt) ltD:=by
 intro pins s σ H x y v u Q I d c h;obtain ⟨F,dx,a,b,t,ty,po⟩:=h;cases dx <;> try exact po.elim
 ·cases a <;> try exact po.elim
  obtain rfl:=t.int;obtain rfl:=ty.int;exact qiE pins s σ H _ _ v u Q I d c ⟨_,_,rfl,rfl,po _ F H b .refl (.bl _)⟩
 ·cases a <;> try exact po.elim
  obtain ⟨rfl,_⟩:=t.str;obtain ⟨rfl,_⟩:=ty.str;exact Gj pins s σ H _ _ v u Q I d c ⟨_,_,rfl,rfl,po _ F H b .refl (.bl _)⟩
end
noncomputable def eqS (a b:D):Option Bool:=match a with
 | .non=>match b with
  | .non=>iF iK
  | .bl _=>iF iJ
  | .int _=>iF iJ
  | .str _=>iF iJ
  | .tup _=>iF iJ
  | .lst _=>iF iJ
  | .dct _ | .raw _ | .xcp _ | .ins _ _ | .at_ _ _=>iH
 | .bl x=>match b with
  | .non=>iF iJ
  | .bl y=>iF (x == y)
  | .int y=>iF ((if x then 1 else 0) == y)
  | .str _=>iF iJ
  | .tup _=>iF iJ
  | .lst _=>iF iJ
  | .dct _ | .raw _ | .xcp _ | .ins _ _ | .at_ _ _=>iH
 | .int x=>match b with
  | .non=>iF iJ
  | .bl y=>iF (x == (if y then 1 else 0))
  | .int y=>iF (x == y)
  | .str _=>iF iJ
  | .tup _=>iF iJ
  | .lst _=>iF iJ
  | .dct _ | .raw _ | .xcp _ | .ins _ _ | .at_ _ _=>iH
 | .str x=>match b with
  | .non=>iF iJ
  | .bl _=>iF iJ
  | .int _=>iF iJ
  | .str y=>iF (x == y)
  | .tup _=>iF iJ
  | .lst _=>iF iJ
  | .dct _ | .raw _ | .xcp _ | .ins _ _ | .at_ _ _=>iH
 | .tup x=>match b with
  | .non=>iF iJ
  | .bl _=>iF iJ
  | .int _=>iF iJ
  | .str _=>iF iJ
  | .tup _=>iH
  | .lst _=>iF iJ
  | .dct _ | .raw _ | .xcp _ | .ins _ _ | .at_ _ _=>iH
 | .lst x=>match b with
  | .non=>iF iJ
  | .bl _=>iF iJ
  | .int _=>iF iJ
  | .str _=>iF iJ
  | .tup _=>iF iJ
  | .lst _=>iH
  | .dct _ | .raw _ | .xcp _ | .ins _ _ | .at_ _ _=>iH
 | .dct _ | .raw _ | .xcp _ | .ins _ _ | .at_ _ _=>iH
noncomputable def wM (f:D->D->Option Bool):List D->List D->Option Bool
 | x::xs,y::ys=>(f x y).bind λa=>(wM f xs ys).bind λb=>iF (a&&b)
 | _,_=>iF iK
noncomputable def eqN:Nat->D->D->Option Bool
 | n+1,.tup xs,.tup ys=>(wM (eqN n) xs ys).map λb=>b&&xs.length == ys.length
 | n+1,.lst xs,.lst ys=>if xs.length=ys.length then wM (eqN n) xs ys else iF iJ
 | _,a,b=>eqS a b
theorem YE {n:Nat} {a b:D} (h1:∀ xs ys,a=.tup xs->b≠.tup ys) (h2:∀ xs ys,a=.lst xs->b≠.lst ys):eqN n a b=eqS a b:=by
 cases n with
 | zero=>rfl
 | succ n=>
  cases a with
  | tup xs=>cases b with
   | tup ys=>exact absurd rfl (h1 xs ys rfl)
   | _=>rfl
  | lst xs=>cases b with
   | lst ys=>exact absurd rfl (h2 xs ys rfl)
   | _=>rfl
  | _=>rfl
noncomputable def itE (f:D->D->Option Bool) (xs ys:List D) (j:Nat):Bool:=((xs[j]?).bind λx=>(ys[j]?).bind λy=>f x y).getD iJ
theorem wN {f:D->D->Option Bool}:∀ {xs ys:List D} {b:Bool},wM f xs ys=iF b->b=(aK (min xs.length ys.length)).all (itE f xs ys)
 | [],ys,b,h=>by simp [wM] at h ⊢; exact h
 | x::xs,[],b,h=>by simp [wM] at h ⊢; exact h
 | x::xs,y::ys,b,h=>by
  unfold wM at h;cases e:f x y with
  | none=>rw [e] at h; simp at h
  | some a=>
   cases i:wM f xs ys with
   | none=>rw [e,i] at h; simp at h
   | some c=>
    rw [e,i] at h;have h:(a&&c)=b:=by simpa using h
    have d:=wN i;have m:min (x::xs).length (y::ys).length=min xs.length ys.length+1:=by simp only [au]; omega
    rw [m,List.range_succ_eq_map,fq,List.all_map];have e0:itE f (x::xs) (y::ys) 0=a:=by simp [itE,e]
    have e1:(itE f (x::xs) (y::ys)) ∘ Nat.succ=itE f xs ys:=by funext j;simp [itE]
    rw [e0,e1,<-d];exact h.symm
theorem GC {f:D->D->Option Bool}:∀ {xs ys:List D} {b:Bool},wM f xs ys=iF b->∀ (j:Nat) (x y:D),xs[j]?=iF x->ys[j]?=iF y->f x y=iF (itE f xs ys j)
 | [],ys,b,_,j,x,y,hx,_=>by simp at hx
 | x::xs,[],b,_,j,_,y,_,hy=>by simp at hy
 | x::xs,y::ys,b,h,0,x',y',hx,hy=>by
  simp at hx hy;subst hx hy;unfold wM at h;cases e:f x y with
  | none=>rw [e] at h; simp at h
  | some a=>simp [itE,e]
 | x::xs,y::ys,b,h,j+1,x',y',hx,hy=>by
  unfold wM at h;cases e:f x y with
  | none=>rw [e] at h; simp at h
  | some a=>
   cases i:wM f xs ys with
   | none=>rw [e,i] at h; simp at h
   | some c=>have q:=GC i j x' y' (by simpa using hx) (by simpa using hy);rw [q];simp [itE]
section
variable {X:Cx} {pins:Pns} {σ:St} {F H:Hp} {s:iL}
noncomputable def smp:D->Bool
 | .non | .bl _ | .int _ | .str _ | .tup _ | .lst _=>iK
 | .dct _ | .raw _ | .xcp _ | .ins _ _ | .at_ _ _=>iJ
theorem GD {n:Nat} {d e:D} {b:Bool} (h:eqN n d e=iF b):smp d=true:=by cases d <;> first | rfl | (cases n <;> exact nomatch (show iH=iF b from h))
theorem qiT {n:Nat} {d e:D} {b:Bool} (h:eqN n d e=iF b):smp e=true:=by cases e <;> first | rfl | (cases n <;> cases d <;> exact nomatch (show iH=iF b from h))
theorem GE (I:Inv X pins σ H s) (y:Same F H) {a:Addr} {xs ys:List V} (p:SqT X.K F a xs) (q:SqL X.K F a ys):False:=by obtain ⟨_,_,b,_⟩:=I.list (y.seq q);obtain ⟨_,_,e,_⟩:=I.tuple (jm y p);exact absurd rfl (PySem.SeqAt.ne_of_list_tuple b.isList e)
theorem Qo {f:D->D->Option Bool} {x y:D} {xs ys:List D} {b:Bool} (h:wM f (x::xs) (y::ys)=iF b):∃ a c,f x y=iF a/\wM f xs ys=iF c/\b=(a&&c):=by
 unfold wM at h;cases e:f x y with
 | none=>rw [e] at h; cases h
 | some a=>
  cases i:wM f xs ys with
  | none=>rw [e,i] at h; cases h
  | some c=>rw [e,i] at h; exact ⟨a,c,rfl,rfl,(aN.inj h).symm⟩
theorem zJ {n:Nat} {xs ys:List D} {b:Bool} (h:eqN (n+1) (.tup xs) (.tup ys)=iF b):∃ c,wM (eqN n) xs ys=iF c/\b=(c&&xs.length == ys.length):=by
 have h:((wM (eqN n) xs ys).map λb=>b&&xs.length == ys.length)=iF b:=h;cases e:wM (eqN n) xs ys with
 | none=>rw [e] at h; cases h
 | some c=>rw [e] at h; exact ⟨c,rfl,(aN.inj h).symm⟩
theorem GF (I:Inv X pins σ H s) (y:Same F H):∀ (n:Nat) {v:V} {d e:D} {b:Bool},Is X.K F v d->Is X.K F v e->eqN n d e=iF b->b=true:=by
 have base:∀ {n:Nat} {v:V} {d e:D} {b:Bool},Is X.K F v d->Is X.K F v e->eqN n d e=iF b->(∀ a xs ds es,Is X.K F (.ref a) (.tup ds)->SqT X.K F a xs->IsL X.K F xs ds->IsL X.K F xs es->eqN n (.tup ds) (.tup es)=iF b->b=iK)->(∀ a xs ds es,SqL X.K F a xs->IsL X.K F xs ds->IsL X.K F xs es->eqN n (.lst ds) (.lst es)=iF b->b=iK)->b=true:=by
  intro n v d e b h1 h2 h ht hl;have s1:=GD h;have s2:=qiT h;cases h1 with
  | non=>cases h2 with
   | non=>cases n <;> exact (aN.inj h).symm
   | raw=>cases s2
  | bl x=>cases h2 with
   | bl=>cases n <;> exact (aN.inj h).symm.trans (beq_self_eq_true x)
   | raw=>cases s2
  | int x=>cases h2 with
   | int=>cases n <;> exact (aN.inj h).symm.trans (beq_self_eq_true x)
   | raw=>cases s2
  | str _=>cases h2 with
   | str _=>cases n <;> exact (aN.inj h).symm.trans (beq_self_eq_true _)
   | raw=>cases s2
  | tup p1 f=>cases h2 with
   | tup p2 t=>have q:=I.tuple_inj (jm y p1) (jm y p2);subst q;exact ht _ _ _ _ (.tup p1 f) p1 f t h
   | lst p2 t=>exact (GE I y p1 p2).elim
   | _=>cases s2
  | lst p1 f=>cases h2 with
   | lst p2 t=>have q:=I.list_inj (y.seq p1) (y.seq p2);subst q;exact hl _ _ _ _ p1 f t h
   | tup p2 t=>exact (GE I y p2 p1).elim
   | _=>cases s2
  | _=>cases s1
 intro n
 induction n with
 | zero=>exact λ{_ _ _ _} h1 h2 h=>base h1 h2 h (λ_ _ _ _ _ _ _ _ h=>nomatch (show iH=iF _ from h)) λ_ _ _ _ _ _ _ h=>nomatch (show iH=iF _ from h)
 | succ n j=>
  have l:∀ {xs:List V} {ds es:List D} {b:Bool},IsL X.K F xs ds->IsL X.K F xs es->wM (eqN n) ds es=iF b->b=true:=by
   intro xs
   induction xs with
   | nil=>intro ds es b h1 h2 h; cases h1; cases h2; exact (aN.inj h).symm
   | cons x xs i=>
    intro ds es b h1 h2 h;cases h1 with
    | cons m f=>
     cases h2 with
     | cons k t=>obtain ⟨a,c,q,g,rfl⟩:=Qo h;rw [j m k q,i f t g];rfl
  intro v d e b h1 h2 h;refine base h1 h2 h (λa xs ds es _ _ f t h=>?_) λa xs ds es _ f t h=>?_;·obtain ⟨c,q,rfl⟩:=zJ h;rw [l f t q,f.length.symm.trans t.length,beq_self_eq_true];rfl
  ·have h:(if ds.length=es.length then wM (eqN n) ds es else iF iJ)=iF _:=h;rw [if_pos (f.length.symm.trans t.length)] at h;exact l f t h
end
open PySem.SeqAt
section
variable {X:Cx} {pins:Pns} {σ:St} {F H:Hp} {s:iL}
theorem Vals.getE {xs:List V} {us:List iI} (r:Vals xs us) {j:Nat} (h:j < us.length):∃ x,xs[j]?=iF x/\RelV x us[j]:=by
 have hl:=r.length;have D:j < xs.length:=by omega
 obtain ⟨u,e1,e⟩:=Vals.get (i:=j) (x:=xs[j]) r (by simp [D]);refine ⟨xs[j],by simp [D],?_⟩;rw [aA h] at e1;cases e1;exact e
theorem yH {A:iQ} {n:Nat} {xs ys:List V} {ds es:List D} {us ws:List iI} {b:Bool} (g:∀ {v w:V} {d e:D} {u t:iI} {b:Bool},Is X.K F v d->Is X.K F w e->RelV v u->RelV w t->eqN n d e=iF b->EqAt A s u t b)
  (r1:Vals xs us) (r2:Vals ys ws) (i1:IsL X.K F xs ds) (i2:IsL X.K F ys es) (h:wM (eqN n) ds es=iF b) :
  ∀ j (h1:j < us.toArray.size) (h2:j < ws.toArray.size),EqAt A s us.toArray[j] ws.toArray[j] (itE (eqN n) ds es j):=by
 intro j h1 h2;have c:j < us.length:=by simpa using h1
 have a:j < ws.length:=by simpa using h2
 obtain ⟨x,ex,f⟩:=Vals.getE r1 c;obtain ⟨y,l,r⟩:=Vals.getE r2 a;obtain ⟨d,o,i⟩:=i1.get ex;obtain ⟨e,m,k⟩:=i2.get l;have q:=GC h j d e o m;simpa using g i k f r q
theorem YF {A:iQ} {n:Nat} {a c:Addr} {xs ys:List V} {ds es:List D} {b:Bool} (I:Inv X pins σ H s) (j:∀ {v w:V} {d e:D} {u t:iI} {b:Bool},Is X.K F v d->Is X.K F w e->RelV v u->RelV w t->eqN n d e=iF b->EqAt A.in1 s u t b)
  (p1:SqT X.K H a xs) (p2:SqT X.K H c ys) (i1:IsL X.K F xs ds) (i2:IsL X.K F ys es) (h:eqN (n+1) (.tup ds) (.tup es)=iF b) (m:A.units < cLine):RcAt A s (.ref a) (.ref c) b:=by
 obtain ⟨us,r1,g,_⟩:=I.tuple p1;obtain ⟨ws,r2,f,_⟩:=I.tuple p2;simp only [eqN] at h;cases q:wM (eqN n) ds es with
 | none=>rw [q] at h; simp at h
 | some k=>
  rw [q] at h;have i:us.toArray.size=ds.length:=by rw [aj,<-r1.length,i1.length]
  have l:ws.toArray.size=es.length:=by rw [aj,<-r2.length,i2.length]
  have z:=RcAt.tuples (A:=A) g f m (yH (A:=A.in1) j r1 r2 i1 i2 q);rw [i,l,<-wN q] at z;have e:b=(k&&ds.length == es.length):=by simpa using h.symm
  rw [e]; exact z
theorem YG {A:iQ} {n:Nat} {a c:Addr} {xs ys:List V} {ds es:List D} {b:Bool} (I:Inv X pins σ H s) (k:∀ {v w:V} {d e:D} {u t:iI} {b:Bool},Is X.K F v d->Is X.K F w e->RelV v u->RelV w t->eqN n d e=iF b->EqAt A.in1 s u t b)
  (p1:SqL X.K H a xs) (p2:SqL X.K H c ys) (i1:IsL X.K F xs ds) (i2:IsL X.K F ys es) (h:eqN (n+1) (.lst ds) (.lst es)=iF b) (j:A.units < cLine):RcAt A s (.ref a) (.ref c) b:=by
 obtain ⟨us,r1,g,_⟩:=I.list p1;obtain ⟨ws,r2,f,_⟩:=I.list p2;have i:us.toArray.size=ds.length:=by rw [aj,<-r1.length,i1.length]
 have l:ws.toArray.size=es.length:=by rw [aj,<-r2.length,i2.length]
 simp only [eqN] at h;by_cases hl:ds.length=es.length;·rw [if_pos hl] at h;have z:=RcAt.lists (A:=A) g.isList f.isList (by omega) j (yH (A:=A.in1) k r1 r2 i1 i2 h);have e:=wN h;rw [i] at z;rw [e,show min ds.length es.length=ds.length by omega];exact z
 ·rw [if_neg hl] at h;cases h;exact RcAt.lists_lengths g.isList f.isList (bne_iff_ne.mpr (by rw [i,l]; exact hl)) j
def Kd (s:iL):D->iI->Prop
 | .non,u=>u=.none
 | .bl b,u=>u=.bool b
 | .int i,u=>∃ t,u=.int i t
 | .str x,u=>∃ t,u=.str x t
 | .tup _,u=>∃ a its,u=.ref a/\s.heap.IsTuple a its
 | .lst _,u=>∃ a its,u=.ref a/\s.heap.IsList a its
 | _,_=>True
theorem Zj (I:Inv X pins σ H s) (y:Same F H) {v:V} {d:D} {u:iI} (t:TopIs X.K F H v d) (r:RelV v u):Kd s d u:=by
 cases d with
 | non=>obtain rfl:=t.non; exact r
 | bl=>obtain rfl:=t.bl; exact r
 | int=>obtain rfl:=t.int; exact r
 | str=>obtain ⟨rfl,_⟩:=t.str; exact r
 | tup=>obtain ⟨a,_,rfl,p,_⟩:=t.tup y; obtain ⟨_,_,q,_⟩:=I.tuple p; exact ⟨a,_,r,q⟩
 | lst=>obtain ⟨a,_,rfl,p,_⟩:=t.lst y; obtain ⟨_,_,q,_⟩:=I.list p; exact ⟨a,_,r,q.isList⟩
 | _=>trivial
theorem qgB {A:iQ} {d e:D} {u t:iI} {b:Bool} (f:A.units < cLine) (k1:Kd s d u) (k2:Kd s e t) (h:eqS d e=iF b):EqAt A s u t b:=by
 cases d <;> cases e <;> try (cases h; done)
 all_goals
  cases h;first | obtain ⟨_,_,rfl,a⟩:=k1 | obtain ⟨_,rfl⟩:=k1 | cases k1
  first | obtain ⟨_,_,rfl,q⟩:=k2 | obtain ⟨_,rfl⟩:=k2 | cases k2
  with_reducible first | exact EqAt.same _ | exact EqAt.none_bool _ | exact EqAt.none_int _ _ | exact EqAt.none_str _ _ | exact EqAt.bool_none _ | exact EqAt.bool_bool _ _ | exact EqAt.bool_int _ _ _ | exact EqAt.bool_str _ _ _ | exact EqAt.int_none _ _ | exact EqAt.int_bool _ _ _ | exact EqAt.int_int _ _ _ _ | exact EqAt.int_str _ _ _ _ | exact EqAt.str_none _ _ | exact EqAt.str_bool _ _ _ | exact EqAt.str_int _ _ _ _ | exact EqAt.str_str _ _ _ _ | exact EqAt.none_tuple q f | exact EqAt.tuple_none a f | exact EqAt.none_list q f | exact EqAt.list_none a f | exact EqAt.bool_tuple _ q f | exact EqAt.tuple_bool _ a f | exact EqAt.bool_list _ q f | exact EqAt.list_bool _ a f | exact EqAt.int_tuple _ _ q f | exact EqAt.tuple_int _ _ a f | exact EqAt.int_list _ _ q f | exact EqAt.list_int _ _ a f | exact EqAt.str_tuple _ _ q f | exact EqAt.tuple_str _ _ a f | exact EqAt.str_list _ _ q f | exact EqAt.list_str _ _ a f | exact EqAt.tuple_list a q f | exact EqAt.list_tuple a q f
theorem GG (I:Inv X pins σ H s) (y:Same F H):∀ (n:Nat) {A:iQ} {v w:V} {d e:D} {u t:iI} {b:Bool},A.units+n < cLine->Is X.K F v d->Is X.K F w e->RelV v u->RelV w t->eqN n d e=iF b->EqAt A s u t b:=by
 intro n
 induction n with
 | zero=>exact λB h1 h2 x r h=>qgB (by omega) (Zj I y (.inl h1) x) (Zj I y (.inl h2) r) h
 | succ n o=>
  intro A v w d e u t b B h1 h2 x r h;have i:A.in1.units+n < cLine:=by show A.units+1+n < cLine; omega
  by_cases both:(∃ xs ys,d=.tup xs/\e=.tup ys)\/(∃ xs ys,d=.lst xs/\e=.lst ys)
  ·rcases both with ⟨ds,es,rfl,rfl⟩ | ⟨ds,es,rfl,rfl⟩
   ·have g:=h1;have f:=h2;cases h1 with
    | tup p1 l=>
     cases h2 with
     | tup p2 j=>
      rename_i a xs c ys;cases x;cases r;by_cases ne:a=c;·subst ne;rw [GF I y (n+1) g f h];exact EqAt.same _
      ·exact EqAt.of_refs ne (YF I (λm k z q p=>o i m k z q p) (jm y p1) (jm y p2) l j h (by omega))
   ·have g:=h1;have f:=h2;cases h1 with
    | lst p1 l=>
     cases h2 with
     | lst p2 j=>
      rename_i a xs c ys;cases x;cases r;by_cases ne:a=c;·subst ne;rw [GF I y (n+1) g f h];exact EqAt.same _
      ·exact EqAt.of_refs ne (YG I (λm k z q p=>o i m k z q p) (y.seq p1) (y.seq p2) l j h (by omega))
  ·have e1:eqN (n+1) d e=eqS d e:=YE (λxs ys m k=>both (.inl ⟨xs,ys,m,k⟩)) (λxs ys m k=>both (.inr ⟨xs,ys,m,k⟩));have C:eqN n d e=eqS d e:=YE (λxs ys m k=>both (.inl ⟨xs,ys,m,k⟩)) (λxs ys m k=>both (.inr ⟨xs,ys,m,k⟩));exact o (by omega) h1 h2 x r (by rw [C,<-e1]; exact h)
end
end L2.D2
namespace L2.D2
open PySem PySem.Spec PyProof.Rows
open PySem.SeqAt
variable {X:Cx} {A:iQ} {n:Nat} {b:Bool}
section
variable {pins:Pns} {σ:St} {F H:Hp} {s:iL}
theorem qbW {a c:Addr} {xs ys:List V} {ds es:List D} (I:Inv X pins σ H s) (j:∀ {v w:V} {d e:D} {u t:iI} {b:Bool},Is X.K F v d->Is X.K F w e->RelV v u->RelV w t->eqN n d e=iF b->EqAt A.in1 s u t b)
  (p1:SqT X.K H a xs) (p2:SqT X.K H c ys) (i1:IsL X.K F xs ds) (i2:IsL X.K F ys es) (h:eqN (n+1) (.tup ds) (.tup es)=iF b) (m:A.units < cLine):RcNeAt A s (.ref a) (.ref c) (!b):=by
 obtain ⟨us,r1,g,_⟩:=I.tuple p1;obtain ⟨ws,r2,f,_⟩:=I.tuple p2;simp only [eqN] at h;cases q:wM (eqN n) ds es with
 | none=>rw [q] at h; simp at h
 | some k=>
  rw [q] at h;have i:us.toArray.size=ds.length:=by rw [aj,<-r1.length,i1.length]
  have l:ws.toArray.size=es.length:=by rw [aj,<-r2.length,i2.length]
  have z:=RcNeAt.tuples (A:=A) g f m (yH (A:=A.in1) j r1 r2 i1 i2 q);rw [i,l,<-wN q] at z;have e:b=(k&&ds.length == es.length):=by simpa using h.symm
  rw [e]; exact z
theorem qbX {a c:Addr} {xs ys:List V} {ds es:List D} (I:Inv X pins σ H s) (k:∀ {v w:V} {d e:D} {u t:iI} {b:Bool},Is X.K F v d->Is X.K F w e->RelV v u->RelV w t->eqN n d e=iF b->EqAt A.in1 s u t b)
  (p1:SqL X.K H a xs) (p2:SqL X.K H c ys) (i1:IsL X.K F xs ds) (i2:IsL X.K F ys es) (h:eqN (n+1) (.lst ds) (.lst es)=iF b) (j:A.units < cLine):RcNeAt A s (.ref a) (.ref c) (!b):=by
 obtain ⟨us,r1,g,_⟩:=I.list p1;obtain ⟨ws,r2,f,_⟩:=I.list p2;have i:us.toArray.size=ds.length:=by rw [aj,<-r1.length,i1.length]
 have l:ws.toArray.size=es.length:=by rw [aj,<-r2.length,i2.length]
 simp only [eqN] at h;by_cases hl:ds.length=es.length;·rw [if_pos hl] at h;have z:=RcNeAt.lists (A:=A) g.isList f.isList (by omega) j (yH (A:=A.in1) k r1 r2 i1 i2 h);have e:=wN h;rw [i] at z;rw [e,show min ds.length es.length=ds.length by omega];exact z
 ·rw [if_neg hl] at h;cases h;exact RcNeAt.lists_lengths g.isList f.isList (bne_iff_ne.mpr (by rw [i,l]; exact hl)) j
theorem qgC (I:Inv X pins σ H s) (y:Same F H) {v w:V} {d e:D} {u t:iI} (l:A.units+n+1 < cLine) (j:TopIs X.K F H v d) (i:TopIs X.K F H w e) (x:RelV v u) (r:RelV w t) (h:eqN (n+1) d e=iF b):RcAt A s u t b:=by
 have f:A.units < cLine:=by omega
 have k:∀ {v w:V} {d e:D} {u t:iI} {b:Bool},Is X.K F v d->Is X.K F w e->RelV v u->RelV w t->eqN n d e=iF b->EqAt A.in1 s u t b:=λB o z m p=>GG I y n (by show A.units+1+n < cLine; omega) B o z m p;have k1:=Zj I y j x;have k2:=Zj I y i r;cases d <;> cases e <;> try (cases h; done)
 case tup.tup=>
  obtain ⟨a,xs,rfl,p1,i1⟩:=j.tup y; obtain ⟨c,ys,rfl,p2,i2⟩:=i.tup y; cases x; cases r;exact YF I k p1 p2 i1 i2 h f
 case lst.lst=>
  obtain ⟨a,xs,rfl,p1,i1⟩:=j.lst y; obtain ⟨c,ys,rfl,p2,i2⟩:=i.lst y; cases x; cases r;exact YG I k p1 p2 i1 i2 h f
 all_goals
  cases h;clear x r j i;first | obtain ⟨_,_,rfl,g⟩:=k1 | obtain ⟨_,rfl⟩:=k1 | cases k1
  first | obtain ⟨_,_,rfl,q⟩:=k2 | obtain ⟨_,rfl⟩:=k2 | cases k2
  with_reducible first | exact RcAt.none_none | exact RcAt.none_bool _ | exact RcAt.none_int _ _ | exact RcAt.none_str _ _ | exact RcAt.bool_none _ | exact RcAt.bool_bool _ _ | exact RcAt.bool_int _ _ _ | exact RcAt.bool_str _ _ _ | exact RcAt.int_none _ _ | exact RcAt.int_bool _ _ _ | exact RcAt.int_int _ _ _ _ | exact RcAt.int_str _ _ _ _ | exact RcAt.str_none _ _ | exact RcAt.str_bool _ _ _ | exact RcAt.str_int _ _ _ _ | exact RcAt.str_str _ _ _ _ | exact RcAt.none_tuple q f | exact RcAt.tuple_none g f | exact RcAt.none_list q f | exact RcAt.list_none g f | exact RcAt.bool_tuple _ q f | exact RcAt.tuple_bool _ g f | exact RcAt.bool_list _ q f | exact RcAt.list_bool _ g f | exact RcAt.int_tuple _ _ q f | exact RcAt.tuple_int _ _ g f | exact RcAt.int_list _ _ q f | exact RcAt.list_int _ _ g f | exact RcAt.str_tuple _ _ q f | exact RcAt.tuple_str _ _ g f | exact RcAt.str_list _ _ q f | exact RcAt.list_str _ _ g f | exact RcAt.tuple_list g q f | exact RcAt.list_tuple g q f
theorem qgD (I:Inv X pins σ H s) (y:Same F H) {v w:V} {d e:D} {u t:iI} (l:A.units+n+1 < cLine) (j:TopIs X.K F H v d) (i:TopIs X.K F H w e) (x:RelV v u) (r:RelV w t) (h:eqN (n+1) d e=iF b):RcNeAt A s u t (!b):=by
 have f:A.units < cLine:=by omega
 have k:∀ {v w:V} {d e:D} {u t:iI} {b:Bool},Is X.K F v d->Is X.K F w e->RelV v u->RelV w t->eqN n d e=iF b->EqAt A.in1 s u t b:=λB o z m p=>GG I y n (by show A.units+1+n < cLine; omega) B o z m p;have k1:=Zj I y j x;have k2:=Zj I y i r;cases d <;> cases e <;> try (cases h; done)
 case tup.tup=>
  obtain ⟨a,xs,rfl,p1,i1⟩:=j.tup y; obtain ⟨c,ys,rfl,p2,i2⟩:=i.tup y; cases x; cases r;exact qbW I k p1 p2 i1 i2 h f
 case lst.lst=>
  obtain ⟨a,xs,rfl,p1,i1⟩:=j.lst y; obtain ⟨c,ys,rfl,p2,i2⟩:=i.lst y; cases x; cases r;exact qbX I k p1 p2 i1 i2 h f
 all_goals
  cases h;clear x r j i;first | obtain ⟨_,_,rfl,g⟩:=k1 | obtain ⟨_,rfl⟩:=k1 | cases k1
  first | obtain ⟨_,_,rfl,q⟩:=k2 | obtain ⟨_,rfl⟩:=k2 | cases k2
  try simp only [Bool.not_true,Bool.not_false]
  with_reducible first | exact RcNeAt.none_none | exact RcNeAt.none_bool _ | exact RcNeAt.none_int _ _ | exact RcNeAt.none_str _ _ | exact RcNeAt.bool_none _ | exact RcNeAt.bool_bool _ _ | exact RcNeAt.bool_int _ _ _ | exact RcNeAt.bool_str _ _ _ | exact RcNeAt.int_none _ _ | exact RcNeAt.int_bool _ _ _ | exact RcNeAt.int_int _ _ _ _ | exact RcNeAt.int_str _ _ _ _ | exact RcNeAt.str_none _ _ | exact RcNeAt.str_bool _ _ _ | exact RcNeAt.str_int _ _ _ _ | exact RcNeAt.str_str _ _ _ _ | exact RcNeAt.none_tuple q f | exact RcNeAt.tuple_none g f | exact RcNeAt.none_list q f | exact RcNeAt.list_none g f | exact RcNeAt.bool_tuple _ q f | exact RcNeAt.tuple_bool _ g f | exact RcNeAt.bool_list _ q f | exact RcNeAt.list_bool _ g f | exact RcNeAt.int_tuple _ _ q f | exact RcNeAt.tuple_int _ _ g f | exact RcNeAt.int_list _ _ q f | exact RcNeAt.list_int _ _ g f | exact RcNeAt.str_tuple _ _ q f | exact RcNeAt.tuple_str _ _ g f | exact RcNeAt.str_list _ _ q f | exact RcNeAt.list_str _ _ g f | exact RcNeAt.tuple_list g q f | exact RcNeAt.list_tuple g q f | with_unfolding_all first | exact RcNeAt.bool_bool _ _ | exact RcNeAt.bool_int _ _ _ | exact RcNeAt.int_bool _ _ _ | exact RcNeAt.int_int _ _ _ _ | exact RcNeAt.str_str _ _ _ _
end
noncomputable def eqD (a b:D):Out D:=match eqN 8 a b with
 | some c=>.ok (.bl c)
 | none=>.bad
noncomputable def neD (a b:D):Out D:=match eqN 8 a b with
 | some c=>.ok (.bl (!c))
 | none=>.bad
section
variable {C:Ct}
theorem ye (m:C.K=X.K) (f:X.A.units+64 < cLine):OpD X C .sh (compareOp .Eq) eqD:=by
 intro pins s σ H x y v u Q I d r h;obtain ⟨F,dx,a,b,t,ty,po⟩:=h;rw [m] at t ty;unfold eqD at po;cases e:eqN 8 dx a with
 | none=>rw [e] at po; exact po.elim
 | some c=>rw [e] at po;exact qgC I b (n:=7) (by omega) t ty d r e _ _ _ _ ⟨.bl c,H,I,rfl,po _ F H b .refl (.bl _)⟩
theorem gH (m:C.K=X.K) (f:X.A.units+64 < cLine):OpD X C .sh (compareOp .NotEq) neD:=by
 intro pins s σ H x y v u Q I d r h;obtain ⟨F,dx,a,b,t,ty,po⟩:=h;rw [m] at t ty;unfold neD at po;cases e:eqN 8 dx a with
 | none=>rw [e] at po; exact po.elim
 | some c=>rw [e] at po;exact qgD I b (n:=7) (by omega) t ty d r e _ _ _ _ ⟨.bl _,H,I,rfl,po _ F H b .refl (.bl _)⟩
end
end L2.D2
namespace L2.D2
open PySem PySem.Spec PyProof.Rows
open PySem.SeqAt
variable {X:Cx} {pins:Pns} {σ:St} {F H:Hp} {s:iL} {n:Nat} {v:V} {d e:D} {b:Bool}
section
theorem qeo (I:Inv X pins σ H s) (y:Same F H):∀ (n:Nat) {v:V} {d d' e:D} {b g:Bool},Is X.K F v d->Is X.K F v d'->eqN n d e=iF b->eqN n d' e=iF g->b=g:=by
 intro n
 induction n with
 | zero=>
  intro v d d' e b g h1 h2 e1 i;have s1:=GD e1;have s2:=GD i;cases h1 <;> cases h2 <;> first
   | exact aN.inj (e1.symm.trans i)
   | (cases s1; done)
   | (cases s2; done)
   | exact (GE I y (by assumption) (by assumption)).elim
   | exact aN.inj (e1.symm.trans (Eq.trans (by cases e <;> rfl) i))
 | succ n p=>
  have l:∀ {xs:List V} {ds f es:List D} {b g:Bool},IsL X.K F xs ds->IsL X.K F xs f->wM (eqN n) ds es=iF b->wM (eqN n) f es=iF g->b=g:=by
   intro xs
   induction xs with
   | nil=>intro ds f es b g h1 h2 e1 i; cases h1; cases h2; exact aN.inj (e1.symm.trans i)
   | cons x xs m=>
    intro ds f es b g h1 h2 e1 i;cases h1 with
    | cons u h=>
     cases h2 with
     | cons r t=>
      cases es with
      | nil=>exact aN.inj (e1.symm.trans i)
      | cons e es=>obtain ⟨a,c,q,o,rfl⟩:=Qo e1;obtain ⟨w,S,k,j,rfl⟩:=Qo i;rw [p u r q k,m h t o j]
  intro v d d' e b g h1 h2 e1 i;have s1:=GD e1;have s2:=GD i;cases h1 with
  | tup p1 h=>
   cases h2 with
   | tup p2 t=>
    have q:=I.tuple_inj (jm y p1) (jm y p2);subst q;have hl:=h.length.symm.trans t.length;cases e with
    | tup es=>obtain ⟨c,q,rfl⟩:=zJ e1;obtain ⟨S,k,rfl⟩:=zJ i;rw [l h t q k,hl]
    | _=>exact aN.inj (e1.symm.trans i)
   | lst p2 t=>exact (GE I y p1 p2).elim
   | _=>cases s2
  | lst p1 h=>
   cases h2 with
   | lst p2 t=>
    have q:=I.list_inj (y.seq p1) (y.seq p2);subst q;have hl:=h.length.symm.trans t.length;cases e with
    | lst es=>
     have e1:(if _=es.length then wM (eqN n) _ es else iF iJ)=iF b:=e1;have i:(if _=es.length then wM (eqN n) _ es else iF iJ)=iF g:=i;rw [hl] at e1;split at i;·rw [if_pos (by assumption)] at e1; exact l h t e1 i
     ·rw [if_neg (by assumption)] at e1; exact aN.inj (e1.symm.trans i)
    | _=>exact aN.inj (e1.symm.trans i)
   | tup p2 t=>exact (GE I y p2 p1).elim
   | _=>cases s2
  | _=>cases h2 <;> first
   | exact aN.inj (e1.symm.trans i)
   | (cases s1; done)
   | (cases s2; done)
open Classical in
noncomputable def Zk (X:Cx) (F:Hp) (n:Nat) (e:D) (u:iI):Bool:=decide (∃ v d,Is X.K F v d/\RelV v u/\eqN n d e=iF iK)
open Classical in
theorem GH (I:Inv X pins σ H s) (y:Same F H) {u:iI} (h:Is X.K F v d) (r:RelV v u) (q:eqN n d e=iF b):Zk X F n e u=b:=by
 unfold Zk;cases b with
 | true=>exact decide_eq_true ⟨v,d,h,r,q⟩
 | false=>refine decide_eq_false ?_;rintro ⟨w,d',h',r',g⟩;have e:=r.inj r';subst e;exact absurd (qeo I y n h h' q g) (by decide)
noncomputable def gh (n:Nat) (e:D):List D->Option Bool
 | []=>iF iJ
 | d::ds=>(eqN n d e).bind λa=>(gh n e ds).bind λb=>iF (a||b)
theorem VZ {ds:List D} (h:gh n e (d::ds)=iF b):∃ a c,eqN n d e=iF a/\gh n e ds=iF c/\b=(a||c):=by
 unfold gh at h;cases q:eqN n d e with
 | none=>rw [q] at h; simp at h
 | some a=>
  cases f:gh n e ds with
  | none=>rw [q,f] at h; simp at h
  | some c=>rw [q,f] at h; exact ⟨a,c,rfl,rfl,(aN.inj h).symm⟩
theorem GI (I:Inv X pins σ H s) (y:Same F H):∀ {vs:List V} {ds:List D} {us:List iI} {b:Bool},IsL X.K F vs ds->Vals vs us->gh n e ds=iF b->us.any (Zk X F n e)=b/\∀ u∈us,∃ v d a,Is X.K F v d/\RelV v u/\eqN n d e=iF a/\Zk X F n e u=a
 | _,_,_,b,.nil,.nil,h=>⟨by simpa using (aN.inj h),λu f=>nomatch f⟩
 | _,_,_,b,.cons i t,.cons r rs,h=>by
  obtain ⟨a,c,q,k,rfl⟩:=VZ h;obtain ⟨j,g⟩:=GI I y t rs k;have e1:=GH I y i r q;refine ⟨by rw [cI,e1,j],λu f=>?_⟩;rcases ae.mp f with rfl | f;·exact ⟨_,_,a,i,r,q,e1⟩
  ·exact g u f
end
noncomputable def inD (x y:D):Out Bool:=match y with
 | .lst ds=>match gh 7 x ds with
  | some b=>.ok b
  | none=>.bad
 | .tup ds=>match gh 7 x ds with
  | some b=>.ok b
  | none=>.bad
 | _=>.bad
noncomputable def qbu (x y:D):Out D:=(inD x y).bind λb=>.ok (.bl b)
noncomputable def Uy (x y:D):Out D:=(inD x y).bind λb=>.ok (.bl (!b))
theorem TopIs.is {K:Frag} (s:Same F H) (h:TopIs K F H v d):∃ F',Same F F'/\Same F' H/\Is K F' v d:=by
 rcases h with h | ⟨a,rfl,o⟩
 ·exact ⟨F,Same.refl _,s,h⟩
 ·obtain ⟨u,hu⟩:∃ u,H a=iF u:=by
   cases q:H a with
   | none=>exact absurd q o.there
   | some u=>exact ⟨u,rfl⟩
  by_cases E:F a=iH
  ·have gr:Same F (upd F a u):=λb w e=>by rw [qv (qB e E)]; exact e
   refine ⟨upd F a u,gr,λb w e=>?_,?_⟩
   ·by_cases q:b=a;·subst q; rw [qt] at e; cases e; exact hu
    ·rw [qv q] at e; exact s b w e
   ·cases d with
    | lst ds=>obtain ⟨xs,e,t⟩:=o; rw [hu] at e; cases e; exact .lst (.inl (.inl qt)) (t.mono gr)
    | dct ds=>obtain ⟨xs,e,t⟩:=o; rw [hu] at e; cases e; exact .dct qt (t.mono gr)
    | ins C fs=>obtain ⟨dx,xs,e,t⟩:=o; rw [hu] at e; cases e; exact .ins qt (t.mono gr)
    | at_ b ds=>obtain ⟨D,xs,e,t⟩:=o; rw [hu] at e; cases e; subst D; exact .at_ (.inl (.inl qt)) (t.mono gr)
    | _=>exact o.elim
  ·obtain ⟨w,hw⟩:∃ w,F a=iF w:=by
    cases q:F a with
    | none=>exact absurd q E
    | some w=>exact ⟨w,rfl⟩
   have e:=s a w hw;cases d with
   | lst ds=>obtain ⟨xs,c,t⟩:=o; rw [c] at e; cases e; exact ⟨F,Same.refl _,s,.lst (.inl (.inl hw)) t⟩
   | dct ds=>obtain ⟨xs,c,t⟩:=o; rw [c] at e; cases e; exact ⟨F,Same.refl _,s,.dct hw t⟩
   | ins C fs=>obtain ⟨dx,xs,c,t⟩:=o; rw [c] at e; cases e; exact ⟨F,Same.refl _,s,.ins hw t⟩
   | at_ b ds=>obtain ⟨D,xs,c,t⟩:=o; rw [c] at e; cases e; subst D; exact ⟨F,Same.refl _,s,.at_ (.inl (.inl hw)) t⟩
   | _=>exact o.elim
section
variable {C:Ct}
theorem JE {A:iQ} {y x:V} {dx:D} {ds:List D} {b:Bool} {u v:iI} {a:Addr} {us:List iI} {xs:List V} (I:Inv X pins σ H s) (j:A.units+64 < cLine) (c:Same F H) (ix:Is X.K F x dx) (f:RelV x v)
  (i:IsL X.K F xs ds) (r:Vals xs us) (h:gh 7 dx ds=iF b):us.any (Zk X F 7 dx)=b/\∀ w,w∈us.toArray->EqAt A.in1 s w v (Zk X F 7 dx w):=by
 obtain ⟨h1,h2⟩:=GI I c i r h;refine ⟨h1,λw hw=>?_⟩;obtain ⟨g,d,k,i1,r1,q,e⟩:=h2 w (by simpa using hw);rw [e];exact GG I c 7 (by show A.units+1+7 < cLine; omega) i1 ix r1 f q
theorem qiU (m:C.K=X.K) (j:X.A.units+64 < cLine):OpD X C .sh (compareOp .In) qbu:=by
 intro pins s σ H x y v u Q I g f h;obtain ⟨F,dx,k,d,t,ty,po⟩:=h;rw [m] at t ty;unfold qbu inD at po;obtain ⟨F',g',c,ix⟩:=t.is d;cases k with
 | lst ds=>
  cases e:gh 7 dx ds with
  | none=>simp only [e] at po; exact po.elim
  | some b=>simp only [e] at po;obtain ⟨a,xs,rfl,p,i⟩:=ty.lst d;cases f;obtain ⟨us,r,pl,_⟩:=I.list p;obtain ⟨h1,h2⟩:=JE (A:=X.A) (y:=.non) (a:=a) (u:=.none) I j c ix g (i.mono g') r e;refine in_listAt (Zk X F' 7 dx) pl.isList h2 ⟨.bl b,H,I,by show _=_; rw [<-h1]; simp,po _ F H d .refl (.bl _)⟩
 | tup ds=>
  cases e:gh 7 dx ds with
  | none=>simp only [e] at po; exact po.elim
  | some b=>simp only [e] at po;obtain ⟨a,xs,rfl,p,i⟩:=ty.tup d;cases f;obtain ⟨us,r,pl,_⟩:=I.tuple p;obtain ⟨h1,h2⟩:=JE (A:=X.A) (y:=.non) (a:=a) (u:=.none) I j c ix g (i.mono g') r e;refine in_tupleAt (Zk X F' 7 dx) pl h2 ⟨.bl b,H,I,by show _=_; rw [<-h1]; simp,po _ F H d .refl (.bl _)⟩
 | _=>exact po.elim
theorem qbY (m:C.K=X.K) (j:X.A.units+64 < cLine):OpD X C .sh (compareOp .NotIn) Uy:=by
 intro pins s σ H x y v u Q I g f h;obtain ⟨F,dx,k,d,t,ty,po⟩:=h;rw [m] at t ty;unfold Uy inD at po;obtain ⟨F',g',c,ix⟩:=t.is d;cases k with
 | lst ds=>
  cases e:gh 7 dx ds with
  | none=>simp only [e] at po; exact po.elim
  | some b=>simp only [e] at po;obtain ⟨a,xs,rfl,p,i⟩:=ty.lst d;cases f;obtain ⟨us,r,pl,_⟩:=I.list p;obtain ⟨h1,h2⟩:=JE (A:=X.A) (y:=.non) (a:=a) (u:=.none) I j c ix g (i.mono g') r e;refine notIn_listAt (Zk X F' 7 dx) pl.isList h2 ⟨.bl (!b),H,I,by show _=_; rw [<-h1]; simp,po _ F H d .refl (.bl _)⟩
 | tup ds=>
  cases e:gh 7 dx ds with
  | none=>simp only [e] at po; exact po.elim
  | some b=>simp only [e] at po;obtain ⟨a,xs,rfl,p,i⟩:=ty.tup d;cases f;obtain ⟨us,r,pl,_⟩:=I.tuple p;obtain ⟨h1,h2⟩:=JE (A:=X.A) (y:=.non) (a:=a) (u:=.none) I j c ix g (i.mono g') r e;refine notIn_tupleAt (Zk X F' 7 dx) pl h2 ⟨.bl (!b),H,I,by show _=_; rw [<-h1]; simp,po _ F H d .refl (.bl _)⟩
 | _=>exact po.elim
end
end L2.D2
namespace L2.D2
open PySem PySem.Spec PyProof.Rows
def PoT (C:Ct) (own:List Nat) (σ:St) (F H:Hp) (r:Out (Bool×Sl)) (Q:Bool->Hp->Prop):Prop:=match r with
 | .ok (b,ρ')=>∀ F' H',Rep C.K own F' H' σ ρ'->Chg (OA own σ) F H F' H'->Q b H'
 | .exc c ρ'=>∀ F' H',Same F' H'->ZZ C.K C.ox F' H' σ ρ'->Chg (OA own σ) F H F' H'->C.E (C.cv c) iH H'
 | .bad=>False
abbrev xU:=Sl->Out (Bool×Sl)
def tT (C:Ct) (own:List Nat) (f:xU):TT:=λσ H Q=>∃ F ρ,Rep C.K own F H σ ρ/\PoT C own σ F H (f ρ) Q
variable {C:Ct} {own:List Nat} {σ:St} {F H F1 H1:Hp} {Q:Bool->Hp->Prop}
theorem PoT.shift {r:Out (Bool×Sl)} (h:PoT C own σ F H r Q) (c:Chg (OA own σ) F H F1 H1):PoT C own σ F1 H1 r Q:=by
 cases r with
 | ok p=>exact λF' H' a S=>h F' H' a (c.trans' S)
 | exc x=>exact λF' H' s io S=>h F' H' s io (c.trans' S)
 | bad=>exact h.elim
theorem PoT.bindV {ma:Mo} {o:VU} {k:D×Sl->Out (Bool×Sl)} {R:VK} (hp:PoT C own σ F H (o.bind k) Q)
  (h:∀ v F1 H1 d ρ1,Rep C.K own F1 H1 σ ρ1->Chg (OA own σ) F H F1 H1->MoIs C.K ma H F1 H1 v d->PoT C own σ F1 H1 (k (d,ρ1)) Q->R v H1):Po C own ma σ F H o R:=by
 cases o with
 | ok p=>obtain ⟨d,ρ1⟩:=p;exact λv F1 H1 a c mo=>h v F1 H1 d ρ1 a c mo (PoT.shift (show PoT C own σ F H (k (d,ρ1)) Q from hp) c)
 | exc x=>exact hp
 | bad=>exact hp.elim
variable {o:Out (Bool×Sl)}
theorem PoT.bindT {k:Bool×Sl->Out (Bool×Sl)} {R:Bool->Hp->Prop} (hp:PoT C own σ F H (o.bind k) Q)
  (h:∀ F1 H1 b ρ1,Rep C.K own F1 H1 σ ρ1->Chg (OA own σ) F H F1 H1->PoT C own σ F1 H1 (k (b,ρ1)) Q->R b H1):PoT C own σ F H o R:=by
 cases o with
 | ok p=>obtain ⟨d,ρ1⟩:=p;exact λF1 H1 a c=>h F1 H1 d ρ1 a c (PoT.shift (show PoT C own σ F H (k (d,ρ1)) Q from hp) c)
 | exc x=>exact hp
 | bad=>exact hp.elim
variable {m:Mo}
theorem Po.bindT {k:Bool×Sl->VU} {Q:VK} {R:Bool->Hp->Prop} (hp:Po C own m σ F H (o.bind k) Q)
  (h:∀ F1 H1 b ρ1,Rep C.K own F1 H1 σ ρ1->Chg (OA own σ) F H F1 H1->Po C own m σ F1 H1 (k (b,ρ1)) Q->R b H1):PoT C own σ F H o R:=by
 cases o with
 | ok p=>obtain ⟨d,ρ1⟩:=p;exact λF1 H1 a c=>h F1 H1 d ρ1 a c (Po.shift (show Po C own m σ F H (k (d,ρ1)) Q from hp) c)
 | exc x=>exact hp
 | bad=>exact hp.elim
noncomputable def jO:D->Out Bool
 | .non=>.ok iJ
 | .bl b=>.ok b
 | .int i=>.ok (i != 0)
 | .str x=>.ok ((x.length:Int) != 0)
 | .tup xs=>.ok (!xs.isEmpty)
 | .lst xs=>.ok (!xs.isEmpty)
 | .dct xs=>.ok (!xs.isEmpty)
 | .raw _=>.bad
 | .xcp _=>.bad
 | .ins _ _=>.bad
 | .at_ _ _=>.bad
noncomputable def uZ (f:jg):xU:=λρ=>(f ρ).bind λp=>(jO p.1).bind λb=>.ok (b,p.2)
variable {K:Frag} {vs:List V} {ds:List D}
theorem IsL.isEmpty (h:IsL K F vs ds):vs.isEmpty=ds.isEmpty:=by cases h <;> rfl
theorem IsK.isEmpty {vs:List (Key×V)} {ds:List (Key×D)} (h:IsK K F vs ds):vs.isEmpty=ds.isEmpty:=by cases h <;> rfl
variable {v:V} {d:D}
theorem qep {b:Bool} (s:Same F H) (h:TopIs K F H v d) (e:jO d=.ok b):qiH K v H b:=by
 cases d with
 | non=>obtain rfl:=h.non; cases e; rfl
 | bl x=>obtain rfl:=h.bl; cases e; rfl
 | int x=>obtain rfl:=h.int; cases e; rfl
 | str x=>obtain ⟨rfl,q⟩:=h.str; cases e; exact ⟨q,rfl⟩
 | tup x=>obtain ⟨a,xs,rfl,p,t⟩:=h.tup s; cases e; exact .inr (.inl ⟨xs,p,by rw [t.isEmpty]⟩)
 | lst x=>obtain ⟨a,xs,rfl,p,t⟩:=h.lst s; cases e; exact .inl ⟨xs,p,by rw [t.isEmpty]⟩
 | dct x=>obtain ⟨a,xs,rfl,p,t⟩:=h.dct s; cases e; exact .inr (.inr ⟨xs,p,by rw [t.isEmpty]⟩)
 | raw x=>cases e
 | xcp x=>cases e
 | ins x y=>cases e
 | at_ x y=>cases e
noncomputable def qH (f:jg):xU:=λρ=>(f ρ).bind λp=>match p.1 with
 | .bl b=>.ok (b,p.2)
 | _=>.bad
variable {X:Cx} {c e:Expr} {ma mb:Mo} {pos:Pos} {op op':CmpOp} {g g':D->D->Out D} {ρ:Sl}
section
variable {a b:Expr} {f fa fb fc:jg} {ft fu:xU} {mc:Mo} {rest:List Expr}
theorem qeq (g:C.K=X.K) (h:PE X e (tE C own m f)) (i:∀ whole,isTrue e X.env whole=(do let v <-whole; standAt e.pos; holding [v] (truthy v))):PT X e (tT C own (uZ f)):=by
 refine qbS (qbI h i) λσ H Q ⟨F,ρ,r,h⟩=>⟨F,ρ,r,PoT.bindV h λv F1 H1 d ρ1 a j c h1=>?_⟩
 cases q:jO d with
 | ok k=>have h1:PoT C own σ F1 H1 ((jO d).bind λb=>.ok (b,ρ1)) Q:=h1;rw [q] at h1;exact ⟨k,by rw [<-g]; exact qep a.sub c.top q,h1 F1 H1 a .refl⟩
 | exc x=>have h1:PoT C own σ F1 H1 ((jO d).bind λb=>.ok (b,ρ1)) Q:=h1;cases d <;> cases q
 | bad=>have h1:PoT C own σ F1 H1 ((jO d).bind λb=>.ok (b,ρ1)) Q:=h1;rw [q] at h1;exact h1.elim
theorem GJ (h:tT C own (qH f) σ H Q):tE C own .sh f σ H λx H'=>∃ k,x=.bl k/\Q k H':=by
 obtain ⟨F,ρ,r,h⟩:=h;refine ⟨F,ρ,r,PoT.bindV h λv F1 H1 d ρ1 a b c h1=>?_⟩;cases d with
 | bl k=>have c:Is C.K F1 v (.bl k):=c;cases c;exact ⟨k,rfl,h1 F1 H1 a .refl⟩
 | _=>exact h1.elim
theorem qC (l:OpD X C .sh (compareOp op) g) (c:PE X a (tE C own ma fa)) (d:PE X b (tE C own mb fb)) (f:ma≠.any:=by decide)
  (k:behindInMarks op b=false:=by first | exact qdd _ | with_unfolding_all rfl):PT X (.Compare a [op] [b] pos) (tT C own (qH (d2 g fa fb))):=by
 refine qbS (qd3 l c d k) λσ H Q h=>?_;exact VV f (GJ h)
noncomputable def xF (ft:xU):xU:=λρ=>(ft ρ).bind λp=>.ok (!p.1,p.2)
theorem ja (h:PT X a (tT C own ft)):PT X (.UnaryOp .Not a pos) (tT C own (xF ft)):=by refine qbS (qf6 h) λσ H Q ⟨F,ρ,p,h⟩=>⟨F,ρ,p,PoT.bindT h λF1 H1 b ρ1 r k h1=>h1 F1 H1 r .refl⟩
theorem qgE {e:Expr} {t t':TT} (h:PW X e t) (i:∀ σ H Q,t' σ H Q->t σ H Q):PW X e t':=⟨λw pins s σ H Q I hw=>h w pins s σ H Q I (i σ H Q hw)⟩
noncomputable def qer (ft fu:xU):xU:=λρ=>(ft ρ).bind λp=>if p.1=iK then fu p.2 else .ok (iJ,p.2)
noncomputable def dOr (ft fu:xU):xU:=λρ=>(ft ρ).bind λp=>if p.1=iK then .ok (iK,p.2) else fu p.2
theorem kA {op} (h:PT X a (tT C own ft)):PW X (.BoolOp op [a] pos) (tT C own ft):=by
 cases op;·exact qdW h
 ·exact qf4 h
theorem Uz (g:PT X a (tT C own ft)) (d:PW X (.BoolOp .And (b::rest) pos) (tT C own fu)):PW X (.BoolOp .And (a::b::rest) pos) (tT C own (qer ft fu)):=by
 refine qgE (qf5 g d) λσ H Q ⟨F,ρ,p,h⟩=>⟨F,ρ,p,PoT.bindT h λF1 H1 k ρ1 r c h1=>?_⟩
 cases k with
 | true=>exact ⟨F1,ρ1,r,h1⟩
 | false=>exact h1 F1 H1 r .refl
theorem yf (g:PT X a (tT C own ft)) (d:PW X (.BoolOp .Or (b::rest) pos) (tT C own fu)):PW X (.BoolOp .Or (a::b::rest) pos) (tT C own (dOr ft fu)):=by
 refine qgE (qis g d) λσ H Q ⟨F,ρ,p,h⟩=>⟨F,ρ,p,PoT.bindT h λF1 H1 k ρ1 r c h1=>?_⟩
 cases k with
 | true=>exact h1 F1 H1 r .refl
 | false=>exact ⟨F1,ρ1,r,h1⟩
noncomputable def Wa (fa fb:jg):jg:=λρ=>(fa ρ).bind λp=>match p.1 with
 | .bl iK=>fb p.2
 | .bl iJ=>.ok (.bl iJ,p.2)
 | _=>.bad
noncomputable def qh5 (fa fb:jg):jg:=λρ=>(fa ρ).bind λp=>match p.1 with
 | .bl iK=>.ok (.bl iK,p.2)
 | .bl iJ=>fb p.2
 | _=>.bad
theorem Wb {op} (h:PE X a (tE C own m f)):PE X (.BoolOp op [a] pos) (tE C own m f):=qf7 h
theorem Wc (g:PE X a (tE C own .sh fa)) (e:PE X (.BoolOp .And (b::rest) pos) (tE C own .sh fb)):PE X (.BoolOp .And (a::b::rest) pos) (tE C own .sh (Wa fa fb)):=by
 refine jB (qf8 g e) λσ H Q ⟨F,ρ,p,h⟩=>⟨F,ρ,p,Po.bind h λv F1 H1 d ρ1 r f c h1=>?_⟩
 cases d with
 | bl k=>
  have c:Is C.K F1 v (.bl k):=c;cases c;refine ⟨k,rfl,?_⟩;cases k with
  | true=>exact ⟨F1,ρ1,r,h1⟩
  | false=>exact h1 _ F1 H1 r .refl (.bl _)
 | _=>exact h1.elim
theorem qiV (g:PE X a (tE C own .sh fa)) (e:PE X (.BoolOp .Or (b::rest) pos) (tE C own .sh fb)):PE X (.BoolOp .Or (a::b::rest) pos) (tE C own .sh (qh5 fa fb)):=by
 refine jB (qiu g e) λσ H Q ⟨F,ρ,p,h⟩=>⟨F,ρ,p,Po.bind h λv F1 H1 d ρ1 r f c h1=>?_⟩
 cases d with
 | bl k=>
  have c:Is C.K F1 v (.bl k):=c;cases c;refine ⟨k,rfl,?_⟩;cases k with
  | true=>exact h1 _ F1 H1 r .refl (.bl _)
  | false=>exact ⟨F1,ρ1,r,h1⟩
 | _=>exact h1.elim
noncomputable def dIf (ft:xU) (fa fb:jg):jg:=λρ=>(ft ρ).bind λp=>if p.1=iK then fa p.2 else fb p.2
theorem Zl {t:Expr} (ht:PT X t (tT C own ft)) (g:PE X a (tE C own ma fa)) (d:PE X b (tE C own mb fb)) (h1:ma≠.any:=by decide) (h2:mb≠.any:=by decide):PE X (.IfExp t a b pos) (tE C own .sh (dIf ft fa fb)):=by
 refine jB (qbA ht (xE g h1) (xE d h2)) λσ H Q ⟨F,ρ,p,h⟩=>⟨F,ρ,p,Po.bindT h λF1 H1 k ρ1 r c h1=>?_⟩
 cases k with
 | true=>exact ⟨F1,ρ1,r,h1⟩
 | false=>exact ⟨F1,ρ1,r,h1⟩
noncomputable def xV (g g':D->D->Out D) (fa fb fc:jg):jg:=λρ=>(fa ρ).bind λp=>(fb p.2).bind λq=>(g p.1 q.1).plain.bind λz=>match z with
 | .bl iK=>(fc q.2).bind λr=>(g' q.1 r.1).plain.bind λd=>.ok (d,r.2)
 | .bl iJ=>.ok (.bl iJ,q.2)
 | _=>.bad
theorem PoV.bind {o:Out D} {k:D->VU} {Q R:VK} (a:Rep C.K own F H σ ρ) (h:Po C own m σ F H (o.plain.bind k) Q)
  (b:∀ v F1 H1 d,Rep C.K own F1 H1 σ ρ->Chg No F H F1 H1->MoIs C.K ma H F1 H1 v d->Po C own m σ F1 H1 (k d) Q->R v H1):PoV C ma F H o R:=by
 cases o with
 | ok d=>exact λv F1 H1 s c mo=>b v F1 H1 d (a.grow c s) c mo (Po.shift (show Po C own m σ F H (k d) Q from h) c.ofNo)
 | exc c=>exact h.elim
 | bad=>exact h.elim
theorem YH {Q:VK} (s:ma≠.any) (l:mb≠.any) (h:tE C own .sh (xV g g' fa fb fc) σ H Q):Gk (λx y H Q=>∃ F dx n,Same F H/\TopIs C.K F H x dx/\TopIs C.K F H y n/\PoV C .sh F H (g dx n) Q) (λx y H Q=>∃ F dx n,Same F H/\TopIs C.K F H x dx/\TopIs C.K F H y n/\PoV C .sh F H (g' dx n) Q)
   (tE C own ma fa) (tE C own mb fb) (tE C own mc fc) σ H Q:=by
 obtain ⟨F,ρ,u,h⟩:=h;refine ⟨F,ρ,u,Po.bind h λv F1 H1 d ρ1 i M q h1=>⟨F1,ρ1,i,Po.bind h1 λw L H2 e ρ2 f c2 j h2=>?_⟩⟩;have oa:∀ x,OA own σ x->H x≠none:=λx z=>(u.OA_there z).1;have o:∀ x,OA own σ x->H1 x≠none:=λx z=>(i.OA_there z).1;refine ⟨L,d,e,f.sub,(q.grow s c2 oa).top,j.top,PoV.bind (m:=.sh) f h2 λz t I D c G a h3=>?_⟩;cases D with
 | bl k=>
  have a:Is C.K t z (.bl k):=a;cases a;refine ⟨k,rfl,?_⟩;cases k with
  | true=>refine ⟨t,ρ2,c,Po.bind h3 λw' J N r A b E p B=>?_⟩;exact ⟨J,e,r,b.sub,((j.grow l (G.ofNo) o).grow l E o).top,p.top,PoV.of b B⟩
  | false=>exact h3 _ t I c .refl (.bl _)
 | _=>exact h3.elim
theorem YI (o:OpD X C .sh (compareOp op) g) (d:OpD X C .sh (compareOp op') g') (j:PE X a (tE C own ma fa)) (i:PE X b (tE C own mb fb)) (e:PE X c (tE C own mc fc)) (f:ma≠.any:=by decide) (l:mb≠.any:=by decide)
  (m:lastMarks [op,op'] [b,c]=false:=by with_unfolding_all rfl):PE X (.Compare a [op,op'] [b,c] pos) (tE C own .sh (xV g g' fa fb fc)):=jB (qbG o d j i e m) λ_ _ _ h=>YH f l h
theorem We (o:OpD X C .sh (compareOp op) g) (d:OpD X C .sh (compareOp op') g') (j:PE X a (tE C own ma fa)) (i:PE X b (tE C own mb fb)) (e:PE X c (tE C own mc fc)) (f:ma≠.any:=by decide) (l:mb≠.any:=by decide)
  (m:lastMarks [op,op'] [b,c]=false:=by with_unfolding_all rfl):PT X (.Compare a [op,op'] [b,c] pos) (tT C own (qH (xV g g' fa fb fc))):=qbS (qbH o d j i e m) λ_ _ _ h=>YH f l (GJ h)
theorem GK:OpR X (compareOp .LtE) (λx y H Q=>∃ i j,x=.str i/\y=.str j/\Q (.bl (!vM j i)) H):=by intro pins s σ H x y v u Q I d c h;obtain ⟨i,j,rfl,rfl,q⟩:=h;obtain ⟨t,rfl⟩:=d;obtain ⟨t',rfl⟩:=c;exact PySem.P.le_str (YB I q (by simp [vM]))
noncomputable def leD:D->D->Out D
 | .int i,.int j=>.ok (.bl (decide (i<=j)))
 | .str x,.str y=>.ok (.bl (!vM y x))
 | _,_=>.bad
theorem Wf:OpD X C .sh (compareOp .LtE) leD:=by
 intro pins s σ H x y v u Q I d c h;obtain ⟨F,dx,a,b,t,ty,po⟩:=h;cases dx <;> try exact po.elim
 ·cases a <;> try exact po.elim
  obtain rfl:=t.int;obtain rfl:=ty.int;exact qiF pins s σ H _ _ v u Q I d c ⟨_,_,rfl,rfl,po _ F H b .refl (.bl _)⟩
 ·cases a <;> try exact po.elim
  obtain ⟨rfl,_⟩:=t.str;obtain ⟨rfl,_⟩:=ty.str;exact GK pins s σ H _ _ v u Q I d c ⟨_,_,rfl,rfl,po _ F H b .refl (.bl _)⟩
noncomputable def geD:D->D->Out D:=Ui λi j=>.ok (.bl (decide (j<=i)))
theorem qgF:OpD X C .sh (compareOp .GtE) geD:=GB qiG λ_ _ _=>.bl _
noncomputable def GL:D->D->Out D
 | .non,.non=>.ok (.bl iK)
 | .raw _,.non=>.bad
 | _,.non=>.ok (.bl iJ)
 | _,_=>.bad
noncomputable def Jq:D->D->Out D
 | .non,.non=>.ok (.bl iJ)
 | .raw _,.non=>.bad
 | _,.non=>.ok (.bl iK)
 | _,_=>.bad
theorem TopIs.notN (h:TopIs K F H v d) (h1:d≠.non) (h2:∀ u,d≠.raw u):v≠.non:=by
 rintro rfl;rcases h with h | ⟨a,e,_⟩
 ·cases h;·exact h1 rfl
  ·exact h2 _ rfl
 ·cases e
theorem qdg:OpD X C .sh (compareOp .Is) GL:=by
 intro pins s σ H x y v u Q I r c h;obtain ⟨F,dx,d,b,t,ty,po⟩:=h;have B:d=.non:=by cases d <;> first | rfl | (cases dx <;> exact po.elim)
 subst B;obtain rfl:=ty.non;refine qgj pins s σ H x .non v u Q I r c ⟨rfl,?_⟩;cases dx with
 | non=>obtain rfl:=t.non; exact po _ F H b .refl (.bl _)
 | raw _=>exact po.elim
 | _=>rw [decide_eq_false (t.notN (by intro z; cases z) (by intro _ z; cases z))]; exact po _ F H b .refl (.bl _)
theorem GM:OpD X C .sh (compareOp .IsNot) Jq:=by
 intro pins s σ H x y v u Q I r c h;obtain ⟨F,dx,d,b,t,ty,po⟩:=h;have B:d=.non:=by cases d <;> first | rfl | (cases dx <;> exact po.elim)
 subst B;obtain rfl:=ty.non;refine qd1 pins s σ H x .non v u Q I r c ⟨rfl,?_⟩;cases dx with
 | non=>obtain rfl:=t.non; exact po _ F H b .refl (.bl _)
 | raw _=>exact po.elim
 | _=>rw [decide_eq_false (t.notN (by intro z; cases z) (by intro _ z; cases z))]; exact po _ F H b .refl (.bl _)
end
inductive Fl where
 | nx | rt (d:D) | bk | ct
structure Nx (C:Ct) (own own':List Nat) (σ:St) (F H:Hp) (ρ':Sl) (σ':St) (F' H':Hp):Prop where
 rep:Rep C.K own' F' H' σ' ρ'
 chg:Chg (OA own σ) F H F' H'
 oa:∀ b,OA own' σ' b->OA own σ b\/H b=iH
 io:∀ i∈C.io,σ'[i]?=σ[i]?
def PoS (C:Ct) (own own':List Nat) (σ:St) (F H:Hp) (r:Out (Fl×Sl)) (D:Ends):Prop:=match r with
 | .ok (.nx,ρ')=>∀ σ' F' H',Nx C own own' σ F H ρ' σ' F' H'->D.nx σ' H'
 | .ok (.rt d,ρ')=>∀ v σ' F' H',Same F' H'->ZZ C.K C.io F' H' σ' ρ'->Chg (OA own σ) F H F' H'->(∀ i∈C.io,σ'[i]?=σ[i]?)->MoIs C.K C.mr H F' H' v d->D.rt v H'
 | .ok (.bk,ρ')=>∀ σ' F' H',Nx C own C.ol σ F H ρ' σ' F' H'->D.bk σ' H'
 | .ok (.ct,ρ')=>∀ σ' F' H',Nx C own C.ol σ F H ρ' σ' F' H'->D.ct σ' H'
 | .exc c ρ'=>∀ F' H',Same F' H'->ZZ C.K C.ox F' H' σ ρ'->Chg (OA own σ) F H F' H'->C.E (C.cv c) iH H'
 | .bad=>False
abbrev qR:=Sl->Out (Fl×Sl)
def tSt (C:Ct) (own own':List Nat) (f:qR):TS:=λD σ H=>∃ F ρ,Rep C.K own F H σ ρ/\PoS C own own' σ F H (f ρ) D
variable {o1 o2 o3:List Nat} {σ1:St} {ρ1:Sl}
theorem Nx.then {c:St} {d H2:Hp} {ρ2:Sl} (a:Nx C o1 o2 σ F H ρ1 σ1 F1 H1) (b:Nx C o2 o3 σ1 F1 H1 ρ2 c d H2):Nx C o1 o3 σ F H ρ2 c d H2 where
 rep:=b.rep
 chg:=a.chg.trans b.chg a.oa
 oa:=λx h=>by
  rcases b.oa x h with z | z;·exact a.oa x z
  ·refine .inr ?_;cases q:H x with
   | none=>rfl
   | some o=>exact absurd z (a.chg.stay x (by rw [q]; simp))
 io:=λi hi=>(b.io i hi).trans (a.io i hi)
theorem PoS.shift {r:Out (Fl×Sl)} {D:Ends} (h:PoS C o1 o3 σ F H r D) (a:Nx C o1 o2 σ F H ρ1 σ1 F1 H1):PoS C o2 o3 σ1 F1 H1 r D:=by
 cases r with
 | ok p=>
  obtain ⟨l,ρ'⟩:=p;cases l with
  | nx=>exact λσ' F' H' n=>h σ' F' H' (a.then n)
  | rt d=>exact λv σ' F' H' s io c e mo=>h v σ' F' H' s io (a.chg.trans c a.oa) (λi hi=>(e i hi).trans (a.io i hi)) (MoIs.back (Ha:=H1) a.chg mo)
  | bk=>exact λσ' F' H' n=>h σ' F' H' (a.then n)
  | ct=>exact λσ' F' H' n=>h σ' F' H' (a.then n)
 | exc c=>exact λF' H' s io S=>h F' H' s (λi hi=>by obtain ⟨d,b,e1,f,E⟩:=io i hi;exact ⟨d,b,e1,by rw [<-a.io i (C.oxs i hi)]; exact f,E⟩) (a.chg.trans S a.oa)
 | bad=>exact h.elim
theorem Nx.ofE (r:Rep C.K own F1 H1 σ ρ1) (c:Chg (OA own σ) F H F1 H1):Nx C own own σ F H ρ1 σ F1 H1:=⟨r,c,λ_ h=>.inl h,λ_ _=>rfl⟩
variable {own':List Nat}
theorem PoS.bindE {m:Mo} {o:VU} {k:D×Sl->Out (Fl×Sl)} {D:Ends} {R:VK} (hp:PoS C own own' σ F H (o.bind k) D)
  (h:∀ v F1 H1 d ρ1,Rep C.K own F1 H1 σ ρ1->Chg (OA own σ) F H F1 H1->MoIs C.K m H F1 H1 v d->PoS C own own' σ F1 H1 (k (d,ρ1)) D->R v H1):Po C own m σ F H o R:=by
 cases o with
 | ok p=>obtain ⟨d,ρ1⟩:=p;exact λv F1 H1 a c mo=>h v F1 H1 d ρ1 a c mo (PoS.shift (show PoS C own own' σ F H (k (d,ρ1)) D from hp) (.ofE a c))
 | exc x=>exact hp
 | bad=>exact hp.elim
theorem PoS.bindT {k:Bool×Sl->Out (Fl×Sl)} {D:Ends} {R:Bool->Hp->Prop} (hp:PoS C own own' σ F H (o.bind k) D)
  (h:∀ F1 H1 b ρ1,Rep C.K own F1 H1 σ ρ1->Chg (OA own σ) F H F1 H1->PoS C own own' σ F1 H1 (k (b,ρ1)) D->R b H1):PoT C own σ F H o R:=by
 cases o with
 | ok p=>obtain ⟨d,ρ1⟩:=p;exact λF1 H1 a c=>h F1 H1 d ρ1 a c (PoS.shift (show PoS C own own' σ F H (k (d,ρ1)) D from hp) (.ofE a c))
 | exc x=>exact hp
 | bad=>exact hp.elim
variable {b a:Addr} {t':TS} {st:Stmt} {i:Nat} {x:Str} {pos':Pos}
section
variable {sts rest:List Stmt} {f g:qR} {fe:jg} {ft:xU}
theorem Kl {t:TS} (h:PS X st t) (i:∀ D σ H,t' D σ H->t D σ H):PS X st t':=⟨λpins s σ H D I hw=>h pins s σ H D I (i D σ H hw)⟩
theorem GN {t:TS} (h:PSs X sts t) (i:∀ D σ H,t' D σ H->t D σ H):PSs X sts t':=⟨λpins s σ H D I hw=>h pins s σ H D I (i D σ H hw)⟩
noncomputable def qX:qR:=λρ=>.ok (.nx,ρ)
noncomputable def qG (f g:qR):qR:=λρ=>(f ρ).bind λp=>match p.1 with
 | .nx=>g p.2
 | fl=>.ok (fl,p.2)
theorem Nx.refl (r:Rep C.K own F H σ ρ):Nx C own own σ F H ρ σ F H:=.ofE r .refl
theorem qD:PSs X [] (tSt C own own qX):=GN Gf λD σ H ⟨F,ρ,a,h⟩=>h σ F H (.refl a)
theorem qgG {D:Ends} (h:tSt C o1 o3 (qG f g) D σ H):tSt C o1 o2 f { D with nx:=tSt C o2 o3 g D } σ H:=by
 obtain ⟨F,ρ,a,h⟩:=h;refine ⟨F,ρ,a,?_⟩;unfold qG at h;cases q:f ρ with
 | ok p=>
  rw [q] at h;obtain ⟨l,ρ1⟩:=p;cases l with
  | nx=>exact λσ' F' H' n=>⟨F',ρ1,n.rep,PoS.shift (show PoS C o1 o3 σ F H (g ρ1) D from h) n⟩
  | rt d=>exact h
  | bk=>exact h
  | ct=>exact h
 | exc c=>rw [q] at h; exact h
 | bad=>rw [q] at h; exact h.elim
theorem qe (h1:PS X st (tSt C o1 o2 f)) (h2:PSs X rest (tSt C o2 o3 g)):PSs X (st::rest) (tSt C o1 o3 (qG f g)):=GN (qbB h1 h2) λD σ H h=>qgG h
theorem qg (h1:PS X st (tSt C o1 o2 f)):PSs X [st] (tSt C o1 o2 f):=qdX h1
theorem Rep.weak {K:Frag} {F H:Hp} {σ:St} {ρ:Sl}:∀ (drop:List Nat) {own own':List Nat},(∀ i,i∈own'↔i∈own/\i∉drop)->Rep K own F H σ ρ->∃ F',Rep K own' F' H σ ρ/\Chg (OA own σ) F H F' H
 | [],own,own',hs,rp=>⟨F,⟨rp.sub,rp.len,λi d hi=>rp.val i d λz=>hi ((hs i).mpr ⟨z,by simp⟩),λi d hi=>rp.ow i d ((hs i).mp hi).1,λi hi=>rp.opn i ((hs i).mp hi).1,λi j a hi D=>rp.dis i j a ((hs i).mp hi).1 ((hs j).mp D).1⟩,.refl⟩
 | k::r,own,own',hs,rp=>by
  obtain ⟨F1,c,m⟩:=Rep.weak r (own:=own) (own':=own.filter λi=>decide (i∉r)) (λi=>by simp) rp;by_cases f:k∈own/\k∉r
  ·obtain ⟨d,hd⟩:=c.opn k (by simp [f.1,f.2]);obtain ⟨a,h1,h2,h3⟩:=c.ow k d (by simp [f.1,f.2]) hd;obtain ⟨u,hu⟩:∃ u,H a=iF u:=by
    cases q:H a with
    | none=>exact absurd q h3.there
    | some u=>exact ⟨u,rfl⟩
   have gr:Same F1 (upd F1 a u):=λb w e=>by rw [qv (qB e h2)]; exact e
   refine ⟨upd F1 a u,⟨λb w e=>?_,c.len,λi d' hi e=>?_,λi d' hi e=>?_,λi hi=>?_,λi j b hi D=>?_⟩,?_⟩
   ·by_cases q:b=a;·subst q; rw [qt] at e; cases e; exact hu
    ·rw [qv q] at e; exact c.sub b w e
   ·by_cases q:i=k
    ·subst q;rw [hd] at e; cases e;refine ⟨_,h1,?_⟩;cases d with
     | lst ds=>obtain ⟨xs,e,t⟩:=h3; rw [hu] at e; cases e; exact .lst (.inl (.inl qt)) (t.mono gr)
     | dct ds=>obtain ⟨xs,e,t⟩:=h3; rw [hu] at e; cases e; exact .dct qt (t.mono gr)
     | ins C fs=>obtain ⟨dx,xs,e,t⟩:=h3; rw [hu] at e; cases e; exact .ins qt (t.mono gr)
     | at_ b ds=>obtain ⟨A,xs,e,t⟩:=h3; rw [hu] at e; cases e; subst A; exact .at_ (.inl (.inl qt)) (t.mono gr)
     | _=>exact h3.elim
    ·obtain ⟨v,n,o⟩:=c.val i d' (λz=>by simp at z; exact hi ((hs i).mpr ⟨z.1,by simp [q,z.2]⟩)) e;exact ⟨v,n,o.mono gr⟩
   ·have h:=(hs i).mp hi;have p:i≠k:=λz=>h.2 (by simp [z]);have l:i∉r:=λz=>h.2 (by simp [z]);obtain ⟨b,n,o,x⟩:=c.ow i d' (by simp [h.1,l]) e;refine ⟨b,n,?_,x.grow gr λ_ z=>z⟩;have y:b≠a:=λz=>by subst z; exact p (c.dis i k b (by simp [h.1,l]) (by simp [f.1,f.2]) n h1)
    rw [qv y]; exact o
   ·have h:=(hs i).mp hi;exact c.opn i (by simp [h.1]; exact λz=>h.2 (by simp [z]))
   ·have h:=(hs i).mp hi;have g:=(hs j).mp D;exact c.dis i j b (by simp [h.1]; exact λz=>h.2 (by simp [z])) (by simp [g.1]; exact λz=>g.2 (by simp [z]))
   ·refine ⟨m.keep,m.stay,m.grow.trans gr,λb s=>?_⟩;by_cases q:b=a;·exact .inr (.inr ⟨k,f.1,by rw [q]; exact h1⟩)
    ·rw [qv q] at s; exact m.new b s
  ·refine ⟨F1,⟨c.sub,c.len,λi d hi=>c.val i d λz=>?_,λi d hi=>c.ow i d ?_,λi hi=>c.opn i ?_,λi j a hi D=>c.dis i j a ?_ ?_⟩,m⟩;·simp at z;refine hi ((hs i).mpr ⟨z.1,?_⟩);simp only [ae,not_or];exact ⟨λq=>f (by subst q; exact z),z.2⟩
   all_goals
    first
     | (have q:=(hs _).mp hi; simp only [cK,decide_eq_true_eq]; exact ⟨q.1,λz=>q.2 (by simp [z])⟩)
     | (have q:=(hs _).mp D; simp only [cK,decide_eq_true_eq]; exact ⟨q.1,λz=>q.2 (by simp [z])⟩)
theorem OA.sub (h:∀ i∈own',i∈own) (q:OA own' σ b):OA own σ b:=let ⟨i,hi,e⟩:=q; ⟨i,h i hi,e⟩
theorem Nx.drop (drop:List Nat) (hs:∀ i,i∈own'↔i∈own/\i∉drop) (r:Rep C.K own F H σ ρ):∃ F',Nx C own own' σ F H ρ σ F' H:=by obtain ⟨F',a,c⟩:=Rep.weak drop hs r;exact ⟨F',a,c,λb q=>.inl (OA.sub (λi hi=>((hs i).mp hi).1) q),λ_ _=>rfl⟩
noncomputable def wC (own drop:List Nat):List Nat:=own.filter λi=>decide (i∉drop)
theorem jf {own drop:List Nat} (i:Nat):i∈wC own drop↔i∈own/\i∉drop:=by simp [wC]
theorem vg (drop:List Nat) (h:PSs X sts (tSt C (wC own drop) o2 f)):PSs X sts (tSt C own o2 f):=GN h λD σ H ⟨F,ρ,a,h⟩=>by obtain ⟨F',n⟩:=Nx.drop (C:=C) drop (λi=>jf (own:=own) i) a;exact ⟨F',ρ,n.rep,h.shift n⟩
noncomputable def sIf (ft:xU) (f g:qR):qR:=λρ=>(ft ρ).bind λp=>if p.1=iK then f p.2 else g p.2
theorem qO {a b:List Stmt} (d:PT X c (tT C own ft)) (i:PSs X a (tSt C own own' f)) (e:PSs X b (tSt C own own' g)):PS X (.If c a b pos) (tSt C own own' (sIf ft f g)):=by
 refine Kl (qix d i e) λD σ H ⟨F,ρ,p,h⟩=>⟨F,ρ,p,PoS.bindT h λF1 H1 k ρ1 r j h1=>?_⟩
 cases k with
 | true=>exact ⟨F1,ρ1,r,h1⟩
 | false=>exact ⟨F1,ρ1,r,h1⟩
noncomputable def vN (fe:jg):qR:=λρ=>(fe ρ).bind λp=>.ok (.nx,p.2)
theorem jC (i:PE X e (tE C own m fe)) (hs:swapsWith e iH pos.line X.env=pure false:=by rfl):PS X (.Expr e pos) (tSt C own own (vN fe)):=by refine Kl (qdY i hs) λD σ H ⟨F,ρ,r,h⟩=>⟨F,ρ,r,PoS.bindE h λv F1 H1 d ρ1 a k c h1=>h1 σ F1 H1 (.refl a)⟩
noncomputable def jz (fe:jg):qR:=λρ=>(fe ρ).bind λp=>.ok (.rt p.1,p.2)
theorem GO (b:PE X e (tE C own C.mr fe)) (o:∀ i∈C.io,i∈own:=by exact kz rfl):PS X (.Return (iF e) pos) (tSt C own own' (jz fe)):=by
 refine Kl (qf9 b) λD σ H ⟨F,ρ,r,h⟩=>⟨F,ρ,r,?_⟩
 unfold jz at h;cases q:fe ρ with
 | ok p=>rw [q] at h;obtain ⟨d,ρ1⟩:=p;exact λv F1 H1 a k m=>h v σ F1 H1 a.sub (a.ioIs o) k (λ_ _=>rfl) m
 | exc c=>rw [q] at h; exact h
 | bad=>rw [q] at h; exact h.elim
theorem qo (a:PE X e (tE C own m fe)) (h:m≠.any:=by decide) (c:C.mr=.sh:=by rfl) (o:∀ i∈C.io,i∈own:=by exact kz rfl):PS X (.Return (iF e) pos) (tSt C own own' (jz fe)):=GO (by rw [c]; exact xE a h) o
theorem Rep.put (r:Rep K own F H σ ρ) (hi:i < ρ.length) (is:Is K F v d):Rep K (wC own [i]) F H (σ.set i (iF v)) (ρ.set i (iF d)) where
 sub:=r.sub
 len:=by simp [r.len]
 val:=λj d' D e=>by
  by_cases q:j=i;·subst q;rw [aF hi] at e;cases e;exact ⟨v,aF (by rw [r.len]; exact hi),is⟩
  ·rw [am (bf q)] at e;obtain ⟨w,h1,h2⟩:=r.val j d' (λz=>D ((jf j).mpr ⟨z,by simp [q]⟩)) e;exact ⟨w,by rw [am (bf q)]; exact h1,h2⟩
 ow:=λj d' D e=>by have g:=(jf j).mp D;have q:j≠i:=λz=>g.2 (by simp [z]);rw [am (bf q)] at e;obtain ⟨a,h1,h2⟩:=r.ow j d' g.1 e;exact ⟨a,by rw [am (bf q)]; exact h1,h2⟩
 opn:=λj D=>by have g:=(jf j).mp D;have q:j≠i:=λz=>g.2 (by simp [z]);obtain ⟨d',e⟩:=r.opn j g.1;exact ⟨d',by rw [am (bf q)]; exact e⟩
 dis:=λj k a D c e1 b=>by have g:=(jf j).mp D;have h:=(jf k).mp c;rw [am (λz=>g.2 (by simp [z]))] at e1;rw [am (λz=>h.2 (by simp [z]))] at b;exact r.dis j k a g.1 h.1 e1 b
theorem OA.put (h:OA (wC own [i]) (σ.set i (iF v)) b):OA own σ b:=by obtain ⟨j,D,e⟩:=h;have g:=(jf j).mp D;rw [am (λz=>g.2 (by simp [z]))] at e;exact ⟨j,g.1,e⟩
noncomputable def jD (i:Nat) (fe:jg):qR:=λρ=>(fe ρ).bind λp=>if i < p.2.length then .ok (.nx,p.2.set i (iF p.1)) else .bad
theorem qes (n:X.N.Nodup) (hi:X.N[i]?=iF x) (hx:Loc X.env.scope x) (l:PE X e (tE C own m fe)) (f:m≠.any:=by decide) (o:i∉C.io:=by exact xT rfl) (hs:swapsWith e (iF (.Name x pos')) pos.line X.env=pure false:=by rfl)
  (k:X.fn x=iK\/X.env.scope.names.lookup x=iF .local:=by first | exact .inl rfl | exact .inr rfl):PS X (.Assign [.Name x pos'] e pos) (tSt C own (wC own [i]) (jD i fe)):=by
 refine Kl (qdc n hi hx (xE l f) hs k) λD σ H ⟨F,ρ,r,h⟩=>⟨F,ρ,r,PoS.bindE h λv F1 H1 d ρ1 a p c h1=>?_⟩
 by_cases q:i < ρ1.length;·have h1:PoS C own (wC own [i]) σ F1 H1 (if i < ρ1.length then .ok (.nx,ρ1.set i (iF d)) else .bad) D:=h1;rw [if_pos q] at h1;exact h1 _ F1 H1 ⟨a.put q c,.refl,λb z=>.inl (OA.put z),λj g=>am λz=>o (by rw [z]; exact g)⟩
 ·have h1:PoS C own (wC own [i]) σ F1 H1 (if i < ρ1.length then .ok (.nx,ρ1.set i (iF d)) else .bad) D:=h1;rw [if_neg q] at h1;exact h1.elim
theorem Rep.putO (r:Rep K own F H σ ρ) (hi:i < ρ.length) (E:F a=iH) (n:¬OA own σ a) (o:OwnIs K F H a d):Rep K (i::wC own [i]) F H (σ.set i (iF (.ref a))) (ρ.set i (iF d)) where
 sub:=r.sub
 len:=by simp [r.len]
 val:=λj d' D e=>by have q:j≠i:=λz=>D (by simp [z]);rw [am (bf q)] at e;obtain ⟨w,h1,h2⟩:=r.val j d' (λz=>D (af _ ((jf j).mpr ⟨z,by simp [q]⟩))) e;exact ⟨w,by rw [am (bf q)]; exact h1,h2⟩
 ow:=λj d' D e=>by
  by_cases q:j=i;·subst q;rw [aF hi] at e;cases e;exact ⟨a,aF (by rw [r.len]; exact hi),E,o⟩
  ·have g:=(jf j).mp ((ae.mp D).resolve_left q);rw [am (bf q)] at e;obtain ⟨b,h1,h2⟩:=r.ow j d' g.1 e;exact ⟨b,by rw [am (bf q)]; exact h1,h2⟩
 opn:=λj D=>by
  by_cases q:j=i;·subst q; exact ⟨d,aF hi⟩
  ·have g:=(jf j).mp ((ae.mp D).resolve_left q);obtain ⟨d',e⟩:=r.opn j g.1;exact ⟨d',by rw [am (bf q)]; exact e⟩
 dis:=λj k b D p e1 f=>by
  have m:i < σ.length:=by rw [r.len]; exact hi
  by_cases l:j=i
  ·by_cases c:k=i;·rw [l,c]
   ·subst l;have h:=(jf k).mp ((ae.mp p).resolve_left c);rw [aF m] at e1;cases e1;rw [am (bf c)] at f;exact absurd ⟨k,h.1,f⟩ n
  ·have g:=(jf j).mp ((ae.mp D).resolve_left l);by_cases c:k=i;·subst c;rw [aF m] at f;cases f;rw [am (bf l)] at e1;exact absurd ⟨j,g.1,e1⟩ n
   ·have h:=(jf k).mp ((ae.mp p).resolve_left c);rw [am (bf l)] at e1;rw [am (bf c)] at f;exact r.dis j k b g.1 h.1 e1 f
theorem qbZ (u:X.N.Nodup) (hi:X.N[i]?=iF x) (hx:Loc X.env.scope x) (t:PE X e (tE C own .fr fe)) (k:i∉C.io:=by exact xT rfl) (hs:swapsWith e (iF (.Name x pos')) pos.line X.env=pure false:=by rfl)
  (s:X.fn x=iK\/X.env.scope.names.lookup x=iF .local:=by first | exact .inl rfl | exact .inr rfl):PS X (.Assign [.Name x pos'] e pos) (tSt C own (i::wC own [i]) (jD i fe)):=by
 refine Kl (qdc u hi hx t hs s) λD σ H ⟨F,ρ,n,h⟩=>⟨F,ρ,n,?_⟩
 unfold jD at h;cases q:fe ρ with
 | ok p=>
  rw [q] at h;obtain ⟨d,ρ1⟩:=p;intro v F1 H1 r w m;obtain ⟨a,rfl,h0,E,o⟩:=m;by_cases z:i < ρ1.length
  ·have h1:PoS C own (i::wC own [i]) σ F H (if i < ρ1.length then .ok (.nx,ρ1.set i (iF d)) else .bad) D:=h;rw [if_pos z] at h1;refine h1 _ F1 H1 ⟨r.putO z E (λy=>(n.OA_there y).1 h0) o,w,λb y=>?_,λj f=>am λy=>k (by rw [y]; exact f)⟩;obtain ⟨j,f,e⟩:=y;by_cases l:j=i;·subst l;rw [aF (by rw [r.len]; exact z)] at e;cases e;exact .inr h0
   ·have g:=(jf j).mp ((ae.mp f).resolve_left l);rw [am (bf l)] at e;exact .inl ⟨j,g.1,e⟩
  ·have h1:PoS C own (i::wC own [i]) σ F H (if i < ρ1.length then .ok (.nx,ρ1.set i (iF d)) else .bad) D:=h;rw [if_neg z] at h1;exact h1.elim
 | exc c=>rw [q] at h; exact h
 | bad=>rw [q] at h; exact h.elim
end
inductive AK where
 | vl | sl (i:Nat) | fr
 deriving DecidableEq
def ArgV (K:Frag) (H0 F H:Hp) (σ:St):List AK->List V->List D->Prop
 | [],[],[]=>True
 | .vl::as,v::vs,d::ds=>Is K F v d/\ArgV K H0 F H σ as vs ds
 | .sl i::as,v::vs,d::ds=>σ[i]?=iF (iF v)/\d=.non/\ArgV K H0 F H σ as vs ds
 | .fr::as,v::vs,d::ds=>MoIs K .fr H0 F H v d/\ArgV K H0 F H σ as vs ds
 | _,_,_=>False
variable {H0 F' H':Hp}
theorem ArgV.grow {A:Addr->Prop} (c:Chg A F H F' H') (hA:∀ x,A x->H0 x≠iH):∀ {as:List AK} {vs:List V} {ds:List D},ArgV K H0 F H σ as vs ds->ArgV K H0 F' H' σ as vs ds
 | [],[],[],h=>trivial
 | .vl::as,v::vs,d::ds,h=>⟨h.1.mono c.grow,ArgV.grow c hA h.2⟩
 | .sl i::as,v::vs,d::ds,h=>⟨h.1,h.2.1,ArgV.grow c hA h.2.2⟩
 | .fr::as,v::vs,d::ds,h=>⟨h.1.grow (by decide) c hA,ArgV.grow c hA h.2⟩
 | [],_::_,_,h=>h.elim
 | [],[],_::_,h=>h.elim
 | .vl::_,[],_,h=>h.elim
 | .vl::_,_::_,[],h=>h.elim
 | .sl _::_,[],_,h=>h.elim
 | .sl _::_,_::_,[],h=>h.elim
 | .fr::_,[],_,h=>h.elim
 | .fr::_,_::_,[],h=>h.elim
theorem ArgV.back {A:Addr->Prop} {F0:Hp} (c:Chg A F0 H0 F1 H1):∀ {as:List AK} {vs:List V} {ds:List D},ArgV K H1 F H σ as vs ds->ArgV K H0 F H σ as vs ds
 | [],[],[],h=>trivial
 | .vl::as,v::vs,d::ds,h=>⟨h.1,ArgV.back c h.2⟩
 | .sl i::as,v::vs,d::ds,h=>⟨h.1,h.2.1,ArgV.back c h.2.2⟩
 | .fr::as,v::vs,d::ds,h=>⟨MoIs.back (Ha:=H1) c h.1,ArgV.back c h.2⟩
 | [],_::_,_,h=>h.elim
 | [],[],_::_,h=>h.elim
 | .vl::_,[],_,h=>h.elim
 | .vl::_,_::_,[],h=>h.elim
 | .sl _::_,[],_,h=>h.elim
 | .sl _::_,_::_,[],h=>h.elim
 | .fr::_,[],_,h=>h.elim
 | .fr::_,_::_,[],h=>h.elim
def PoA (C:Ct) (own:List Nat) (as:List AK) (σ:St) (F H:Hp) (r:Out (List D×Sl)) (Q:List V->Hp->Prop):Prop:=match r with
 | .ok (ds,ρ')=>∀ vs F' H',Rep C.K own F' H' σ ρ'->Chg (OA own σ) F H F' H'->ArgV C.K H F' H' σ as vs ds->Q vs H'
 | .exc c ρ'=>∀ F' H',Same F' H'->ZZ C.K C.ox F' H' σ ρ'->Chg (OA own σ) F H F' H'->C.E (C.cv c) iH H'
 | .bad=>False
abbrev wV:=Sl->Out (List D×Sl)
def tAr (C:Ct) (own:List Nat) (as:List AK) (f:wV):TA:=λσ H Q=>∃ F ρ,Rep C.K own F H σ ρ/\PoA C own as σ F H (f ρ) Q
variable {as:List AK}
theorem PoA.bindV {ma:Mo} {o:VU} {k:D×Sl->Out (List D×Sl)} {Q:List V->Hp->Prop} {R:VK} (hp:PoA C own as σ F H (o.bind k) Q)
  (h:∀ v F1 H1 d ρ1,Rep C.K own F1 H1 σ ρ1->Chg (OA own σ) F H F1 H1->MoIs C.K ma H F1 H1 v d->PoA C own as σ F H (k (d,ρ1)) Q->R v H1):Po C own ma σ F H o R:=by
 cases o with
 | ok p=>obtain ⟨d,ρ1⟩:=p;exact λv F1 H1 a c mo=>h v F1 H1 d ρ1 a c mo hp
 | exc x=>exact hp
 | bad=>exact hp.elim
theorem Po.bindA {as:List AK} {o:Out (List D×Sl)} {k:List D×Sl->VU} {Q:VK} {R:List V->Hp->Prop} (hp:Po C own m σ F H (o.bind k) Q)
  (h:∀ vs F1 H1 ds ρ1,Rep C.K own F1 H1 σ ρ1->Chg (OA own σ) F H F1 H1->ArgV C.K H F1 H1 σ as vs ds->Po C own m σ F1 H1 (k (ds,ρ1)) Q->R vs H1):PoA C own as σ F H o R:=by
 cases o with
 | ok p=>obtain ⟨d,ρ1⟩:=p;exact λvs F1 H1 a c v=>h vs F1 H1 d ρ1 a c v (Po.shift (show Po C own m σ F H (k (d,ρ1)) Q from hp) c)
 | exc x=>exact hp
 | bad=>exact hp.elim
noncomputable def qA:wV:=λρ=>.ok ([],ρ)
noncomputable def qc (fe:jg) (fr:wV):wV:=λρ=>(fe ρ).bind λp=>(fr p.2).bind λq=>.ok (p.1::q.1,q.2)
noncomputable def jS (fr:wV):wV:=λρ=>(fr ρ).bind λq=>.ok (D.non::q.1,q.2)
variable {es:List Expr} {p:Addr} {u:HO}
section
variable {fe:jg} {fr:wV}
theorem qet {t t':TA} (h:PA X es t) (i:∀ σ H Q,t' σ H Q->t σ H Q):PA X es t':=⟨λpos pins s σ H Q I hw=>h pos pins s σ H Q I (i σ H Q hw)⟩
theorem qf:PA X [] (tAr C own [] qA):=qet jG λσ H Q ⟨F,ρ,a,h⟩=>h [] F H a .refl trivial
theorem Qp {a:AK} {Q:List V->Hp->Prop} {v:V} (h:∀ x,OA own σ x->H x≠iH) (e:Rep C.K own F1 H1 σ ρ1) (k:Chg (OA own σ) F H F1 H1) (hp:PoA C own (a::as) σ F H ((fr ρ1).bind λq=>.ok (d::q.1,q.2)) Q)
  (g:∀ b H2 vs ds,Chg (OA own σ) F1 H1 b H2->ArgV C.K H b H2 σ as vs ds->ArgV C.K H b H2 σ (a::as) (v::vs) (d::ds)):tAr C own as fr σ H1 λxs H2=>Q (v::xs) H2:=by
 refine ⟨F1,ρ1,e,?_⟩;cases q:fr ρ1 with
 | ok p=>rw [q] at hp;obtain ⟨ds,ρ2⟩:=p;exact λvs b H2 r c2 f=>hp (v::vs) b H2 r (k.trans' c2) (g b H2 vs ds c2 (ArgV.back k f))
 | exc c=>rw [q] at hp; exact λF' H' s io S=>hp F' H' s io (k.trans' S)
 | bad=>rw [q] at hp; exact hp.elim
theorem qb (g:PE X e (tE C own m fe)) (b:PA X es (tAr C own as fr)) (f:m≠.any:=by decide) (hs:starEach (e::es) X.env=(iJ,eval e X.env)::starEach es X.env:=by exact jl rfl):PA X (e::es) (tAr C own (.vl::as) (qc fe fr)):=by
 refine qet (qN (xE g f) b hs) λσ H Q ⟨F,ρ,r,h⟩=>⟨F,ρ,r,PoA.bindV h λv F1 H1 d ρ1 a k c h1=>?_⟩
 exact Qp (λx z=>(r.OA_there z).1) a k h1 λj H2 vs ds c2 i=>⟨Is.mono c2.grow c,i⟩
theorem qb0 {px:Pos} (f:X.N[i]?=iF x) (c:Vis X.env.scope x) (l:i∈own) (e:PA X es (tAr C own as fr)) (hs:starEach (.Name x px::es) X.env=(iJ,eval (.Name x px) X.env)::starEach es X.env:=by rfl)
  (hd:Dbg x:=by decide) (b:Cdk x:=by decide):PA X (.Name x px::es) (tAr C own (.sl i::as) (jS fr)):=by
 refine qet (qN (ya f c hd b) e hs) λσ H Q ⟨F,ρ,r,h⟩=>?_;obtain ⟨d,hd⟩:=r.opn i l;obtain ⟨a,h1,h2,h3⟩:=r.ow i d l hd;exact ⟨_,h1,Qp (λx z=>(r.OA_there z).1) r .refl h λg H2 vs ds c2 v=>⟨h1,rfl,v⟩⟩
theorem ArgV.isL:∀ {as:List AK} {vs:List V} {ds:List D},(as.all λa=>decide (a=.vl))=iK->ArgV K H0 F H σ as vs ds->IsL K F vs ds
 | [],[],[],_,_=>.nil
 | .vl::as,v::vs,d::ds,h,a=>.cons a.1 (ArgV.isL (by simpa using h) a.2)
 | .sl i::as,_,_,h,a=>by simp at h
 | .fr::as,_,_,h,a=>by simp at h
 | [],_::_,_,_,h=>h.elim
 | [],[],_::_,_,h=>h.elim
 | .vl::_,[],_,_,h=>h.elim
 | .vl::_,_::_,[],_,h=>h.elim
noncomputable def uT (fr:wV):jg:=λρ=>(fr ρ).bind λp=>if p.1.length<=sizeLine then .ok (.tup p.1,p.2) else .bad
noncomputable def VF (fr:wV):jg:=λρ=>(fr ρ).bind λp=>if p.1.length<=sizeLine then .ok (.lst p.1,p.2) else .bad
theorem qgH (a:Rep C.K own F H σ ρ) (hp:H p=iH):Rep C.K own (upd F p u) (upd H p u) σ ρ/\Chg No F H (upd F p u) (upd H p u):=by
 have E:F p=none:=by
  cases q:F p with
  | none=>rfl
  | some o=>rw [a.sub p o q] at hp; cases hp
 have c:Chg No F H (upd F p u) (upd H p u):=⟨λb o e _=>by rw [qv (qB e hp)]; exact e,λb e=>by
  by_cases q:b=p;·rw [q,qt]; simp
  ·rw [qv q]; exact e,λb o e=>by rw [qv (qB e E)]; exact e,λb e=>by
  by_cases q:b=p;·exact .inr (.inl (by rw [q]; exact hp))
  ·rw [qv q] at e; exact .inl e⟩
 refine ⟨a.grow c λb o e=>?_,c⟩;by_cases q:b=p;·subst q; rw [qt] at e ⊢; exact e
 ·rw [qv q] at e ⊢; exact a.sub b o e
theorem GP (a:Rep C.K own F H σ ρ) (hp:H p=iH):Rep C.K own F (upd H p u) σ ρ/\Chg No F H F (upd H p u)/\F p=none:=by
 have E:F p=none:=by
  cases q:F p with
  | none=>rfl
  | some o=>rw [a.sub p o q] at hp; cases hp
 have c:Chg No F H F (upd H p u):=⟨λb o e _=>by rw [qv (qB e hp)]; exact e,λb e=>by
  by_cases q:b=p;·rw [q,qt]; simp
  ·rw [qv q]; exact e,Same.refl _,λb e=>.inl e⟩
 exact ⟨a.grow c λb o e=>by rw [qv (qB e E)]; exact a.sub b o e,c,E⟩
theorem jE {x1} (h:PA X es (tAr C own as fr)) (g:(as.all λa=>decide (a=.vl))=true:=by decide):PE X (.Tuple es x1 pos) (tE C own .sh (uT fr)):=by
 refine jB (qgp h) λσ H Q ⟨F,ρ,c,h⟩=>⟨F,ρ,c,Po.bindA h λvs F1 H1 ds ρ1 b k v h1=>?_⟩
 have i:=v.isL g;have h1:Po C own .sh σ F1 H1 (if ds.length<=sizeLine then .ok (.tup ds,ρ1) else .bad) Q:=h1;by_cases z:ds.length<=sizeLine;·rw [if_pos z] at h1;refine ⟨by rw [i.length]; exact z,λp hp=>?_⟩;obtain ⟨r,c2⟩:=qgH (u:=.tup vs) b hp;exact h1 _ _ _ r c2.ofNo (.tup (.inl (.inl qt)) (i.mono c2.grow))
 ·rw [if_neg z] at h1; exact h1.elim
theorem uO (h:PA X es (tAr C own as fr)) (g:(as.all λa=>decide (a=.vl))=true:=by decide):PE X (.List es pos) (tE C own .fr (VF fr)):=by
 refine jB (qgq h) λσ H Q ⟨F,ρ,c,h⟩=>⟨F,ρ,c,Po.bindA h λvs F1 H1 ds ρ1 b k v h1=>?_⟩
 have i:=v.isL g;have h1:Po C own .fr σ F1 H1 (if ds.length<=sizeLine then .ok (.lst ds,ρ1) else .bad) Q:=h1;by_cases z:ds.length<=sizeLine;·rw [if_pos z] at h1;refine ⟨by rw [i.length]; exact z,λp hp=>?_⟩;obtain ⟨r,c2,E⟩:=GP (u:=.lst vs) b hp;exact h1 _ _ _ r c2.ofNo ⟨p,rfl,hp,E,vs,qt,i⟩
 ·rw [if_neg z] at h1; exact h1.elim
theorem Km:PE X (.Dict [] [] pos) (tE C own .fr (dC (.dct []))):=by refine jB qbR λσ H Q ⟨F,ρ,a,h⟩ p hp=>?_;obtain ⟨r,c2,E⟩:=GP (u:=.dK []) a hp;exact h _ _ _ r c2.ofNo ⟨p,rfl,hp,E,[],qt,.nil⟩
noncomputable def ixD:D->D->Out D
 | .lst xs,.int i=>match atI xs i with
  | some d=>.ok d
  | none=>.bad
 | .tup xs,.int i=>match atI xs i with
  | some d=>.ok d
  | none=>.bad
 | .str x,.int i=>match atI x.cps.toList i with
  | some c=>.ok (.str ⟨#[c]⟩)
  | none=>.bad
 | .dct kvs,.str x=>match (kvs.find? λkv=>decide (kv.1=ck x)) with
  | some kv=>.ok kv.2
  | none=>.bad
 | .dct kvs,.int x=>match (kvs.find? λkv=>decide (kv.1=fm x)) with
  | some kv=>.ok kv.2
  | none=>.bad
 | _,_=>.bad
theorem IsL.atI {i:Int} (h:IsL K F vs ds) (e:L2.atI ds i=iF d):∃ v,L2.atI vs i=iF v/\Is K F v d:=by
 unfold L2.atI at e ⊢;rw [h.length];cases q:ixN ds.length i with
 | none=>rw [q] at e; cases e
 | some j=>rw [q] at e;exact h.getD e
theorem IsK.find {k:Key}:∀ {vs:List (Key×V)} {ds:List (Key×D)} {d:Key×D},IsK K F vs ds->(ds.find? λkv=>decide (kv.1=k))=iF d->∃ v,YC vs k=iF v/\Is K F v d.2
 | _,_,_,.nil,e=>by simp at e
 | _,_,d,.cons (k:=k') (vs:=vs) h t,e=>by
  by_cases q:k'=k;·rw [List.find?_cons_of_pos (by simp [q])] at e;cases e;exact ⟨_,gR q,h⟩
  ·rw [List.find?_cons_of_neg (by simp [q])] at e;obtain ⟨v,h1,h2⟩:=IsK.find t e;exact ⟨v,by rw [gS q]; exact h1,h2⟩
theorem YJ (c:Nat):(⟨#[c]⟩:Str).length<=sizeLine:=by show 1<=sizeLine;rw [iP]; decide
def qjO (K:Frag):R2:=λx y H Q=>rIx K x y H Q\/∃ a v,x=.ref a/\DGet H a y (iF v)/\Q v H
theorem qgI (f:X.A.units+1 < cLine):IxR X (qjO X.K):=by
 refine IxR.or qgt ?_;intro value e pins s σ H x y v u Q I d c h hs;obtain ⟨a,w,rfl,g,q⟩:=h;cases d;obtain ⟨T,ht⟩:∃ T,s.TypeIs (.ref a) T/\T = "dict":=⟨_,Uv I g,rfl⟩
 obtain ⟨ht,rfl⟩:=ht;exact tail_any ht PySem.slot_dict_getitem.lookup (Gw f I g c λw' s' b r=>⟨w,H,b,r,q⟩) hs
end
variable {T:String}
section
variable {a b:Expr} {f fa fb:jg}
theorem qgJ {σ:St} {x y:V} {dx b:D} {Q:VK} (m:C.K=X.K) (s:Same F H) (f:TopIs C.K F H x dx) (ty:TopIs C.K F H y b) (po:PoV C .sh F H (ixD dx b) Q):qjO X.K x y H Q:=by
 rw [m] at f ty;cases dx with
 | lst xs=>
  cases b <;> try exact po.elim
  rename_i i;obtain rfl:=ty.int;obtain ⟨a,vs,rfl,p,t⟩:=f.lst s;unfold ixD at po;cases e:L2.atI xs i with
  | none=>simp only [e] at po; exact po.elim
  | some d=>simp only [e] at po;obtain ⟨v,h1,h2⟩:=t.atI e;exact .inl (.inl ⟨a,vs,i,v,rfl,rfl,p,h1,po v F H s .refl (by rw [m]; exact h2)⟩)
 | tup xs=>
  cases b <;> try exact po.elim
  rename_i i;obtain rfl:=ty.int;obtain ⟨a,vs,rfl,p,t⟩:=f.tup s;unfold ixD at po;cases e:L2.atI xs i with
  | none=>simp only [e] at po; exact po.elim
  | some d=>simp only [e] at po;obtain ⟨v,h1,h2⟩:=t.atI e;exact .inl (.inr (.inl ⟨a,vs,i,v,rfl,rfl,p,h1,po v F H s .refl (by rw [m]; exact h2)⟩))
 | str z=>
  cases b <;> try exact po.elim
  rename_i i;obtain rfl:=ty.int;obtain ⟨rfl,hz⟩:=f.str;unfold ixD at po;cases e:L2.atI z.cps.toList i with
  | none=>simp only [e] at po; exact po.elim
  | some c=>simp only [e] at po;exact .inl (.inr (.inr ⟨z,i,c,rfl,rfl,hz,e,po _ F H s .refl (.str (YJ c))⟩))
 | dct kvs=>
  obtain ⟨a,kv,rfl,p,t⟩:=f.dct s;cases b with
  | int i=>
   obtain rfl:=ty.int;unfold ixD at po;cases e:(kvs.find? λkv=>decide (kv.1=fm i)) with
   | none=>simp only [e] at po; exact po.elim
   | some d=>simp only [e] at po;obtain ⟨v,h1,h2⟩:=t.find e;exact .inr ⟨a,v,rfl,by rw [<-h1]; exact DGet.k (k:=fm i) p,po v F H s .refl (by rw [m]; exact h2)⟩
  | str z=>
   obtain ⟨rfl,_⟩:=ty.str;unfold ixD at po;cases e:(kvs.find? λkv=>decide (kv.1=ck z)) with
   | none=>simp only [e] at po; exact po.elim
   | some d=>simp only [e] at po;obtain ⟨v,h1,h2⟩:=t.find e;exact .inr ⟨a,v,rfl,by rw [<-h1]; exact DGet.k (k:=ck z) p,po v F H s .refl (by rw [m]; exact h2)⟩
  | _=>exact po.elim
 | _=>exact po.elim
theorem qiW (s:C.K=X.K) (D:X.A.units+64 < cLine) (o:PE X a (tE C own ma fa)) (n:PE X b (tE C own mb fb)) (hs:Us b) (j:ma≠.any:=by decide):PE X (.Subscript a b pos) (tE C own .sh (d2 ixD fa fb)):=by
 refine jB (qiN (qgI (by omega)) o n hs) λσ H Q h=>?_;obtain ⟨F,ρ,l,h⟩:=VV (mb:=mb) j h;refine ⟨F,ρ,l,?_⟩;cases q:fa ρ with
 | ok p=>
  rw [q] at h;obtain ⟨d,ρ1⟩:=p;intro v F1 H1 f u i;obtain ⟨B,ρ2,e,h2⟩:=h v F1 H1 f u i;refine ⟨B,ρ2,e,?_⟩;cases g:fb ρ2 with
  | ok p=>rw [g] at h2;obtain ⟨d',k⟩:=p;intro w z x r G m;obtain ⟨J,dx,E,y,t,ty,po⟩:=h2 w z x r G m;exact qgJ (σ:=σ) s y t ty po
  | exc c=>rw [g] at h2; exact h2
  | bad=>rw [g] at h2; exact h2.elim
 | exc c=>rw [q] at h; exact h
 | bad=>rw [q] at h; exact h.elim
def Jr (X:Cx) (C:Ct) (m:Mo) (f:iI) (g:D->Out D):Prop:=yb X f (λxs H Q=>∃ x F dx,xs=[x]/\Same F H/\TopIs C.K F H x dx/\PoV C m F H (g dx) Q)
theorem Qq {Q:VK} {g:D->Out D} (h:tE C own m (d1 g fa) σ H Q):Zf (tE C own ma fa) qgo σ H λxs H1=>∃ x F dx,xs=[x]/\Same F H1/\TopIs C.K F H1 x dx/\PoV C m F H1 (g dx) Q:=by
 obtain ⟨F,ρ,r,h⟩:=VW (ma:=ma) h;refine ⟨F,ρ,r,?_⟩;cases q:fa ρ with
 | ok p=>rw [q] at h;obtain ⟨d,ρ1⟩:=p;intro v F1 H1 a k b;obtain ⟨e,dx,y,t,po⟩:=h v F1 H1 a k b;exact ⟨v,e,dx,rfl,y,t,po⟩
 | exc c=>rw [q] at h; exact h
 | bad=>rw [q] at h; exact h.elim
theorem qF {id:String} {p:Pos} {g:D->Out D} (d:Jr X C m (.builtin id) g) (hg:Gl X x) (a:X.mg x=iH) (c:bootBuiltins x=iF (.builtin id)) (f:PE X e (tE C own ma fa)) (n:x ≠ "__name__":=by decide) (b:Dbg x:=by decide)
  (i:starEach [e] X.env=[(iJ,eval e X.env)]:=by exact qI rfl):PE X (.Call (.Name x p) [e] [] pos) (tE C own m (d1 g fa)):=
 jB (wY d hg a c (qN f jG i) n b (by rw [i]; rfl) rfl) λ_ _ _ h=>Qq h
theorem wO {p:Pos} {g:D->Out D} (d:Jr X C m (.type T) g) (hg:Gl X x) (a:X.mg x=iH) (c:bootBuiltins x=iF (.type T)) (f:PE X e (tE C own ma fa)) (n:x ≠ "__name__":=by decide) (b:Dbg x:=by decide)
  (i:starEach [e] X.env=[(iJ,eval e X.env)]:=by exact qI rfl):PE X (.Call (.Name x p) [e] [] pos) (tE C own m (d1 g fa)):=
 jB (yc d hg a c (qN f jG i) n b (by rw [i]; rfl) rfl) λ_ _ _ h=>Qq h
noncomputable def jY:D->Out D
 | .str x=>.ok (.int x.length)
 | .lst xs=>.ok (.int xs.length)
 | .tup xs=>.ok (.int xs.length)
 | .dct xs=>.ok (.int xs.length)
 | _=>.bad
theorem IsK.length:∀ {vs:List (Key×V)} {ds:List (Key×D)},IsK K F vs ds->vs.length=ds.length
 | _,_,.nil=>rfl
 | _,_,.cons _ t=>congrArg (·+1) (IsK.length t)
theorem ke (m:C.K=X.K):Jr X C .sh (.builtin "len") jY:=by
 intro pins s σ H xs us Q I r h;obtain ⟨x,F,dx,rfl,y,b,po⟩:=h;cases dx with
 | str z=>obtain ⟨rfl,hz⟩:=b.str;exact Kh pins s σ H _ us Q I r ⟨_,_,rfl,⟨hz,rfl⟩,po _ F H y .refl (.int _)⟩
 | lst ds=>obtain ⟨a,vs,rfl,p,t⟩:=b.lst y;exact Kh pins s σ H _ us Q I r ⟨_,ds.length,rfl,.inl ⟨vs,by rw [<-m]; exact p,t.length.symm⟩,po _ F H y .refl (.int _)⟩
 | tup ds=>obtain ⟨a,vs,rfl,p,t⟩:=b.tup y;exact Kh pins s σ H _ us Q I r ⟨_,ds.length,rfl,.inr ⟨vs,by rw [<-m]; exact p,t.length.symm⟩,po _ F H y .refl (.int _)⟩
 | dct ds=>obtain ⟨a,vs,rfl,p,t⟩:=b.dct y;refine GA pins s σ H _ us Q I r ⟨a,vs,rfl,p,?_⟩;rw [t.length];exact po _ F H y .refl (.int _)
 | _=>exact po.elim
noncomputable def vh:D->D->Out D
 | .int i,.int j=>.ok (.int (i+j))
 | .str x,.str y=>if x.length+y.length<=sizeLine then .ok (.str (x++y)) else .bad
 | .lst xs,.lst ys=>if xs.length+ys.length<=sizeLine then .ok (.lst (xs++ys)) else .bad
 | .tup xs,.tup ys=>if xs.length+ys.length<=sizeLine then .ok (.tup (xs++ys)) else .bad
 | _,_=>.bad
theorem yg (y:Same F H) (hp:H p=iH):Same (upd F p u) (upd H p u)/\Chg No F H (upd F p u) (upd H p u):=by
 have E:F p=none:=by
  cases q:F p with
  | none=>rfl
  | some o=>rw [y p o q] at hp; cases hp
 refine ⟨λb o e=>?_,⟨λb o e _=>by rw [qv (qB e hp)]; exact e,λb e=>?_,λb o e=>by rw [qv (qB e E)]; exact e,λb e=>?_⟩⟩
 ·by_cases q:b=p;·subst q; rw [qt] at e ⊢; exact e
  ·rw [qv q] at e ⊢; exact y b o e
 ·by_cases q:b=p;·rw [q,qt]; simp
  ·rw [qv q]; exact e
 ·by_cases q:b=p;·exact .inr (.inl (by rw [q]; exact hp))
  ·rw [qv q] at e; exact .inl e
theorem vB (y:Same F H) (hp:H p=iH):Same F (upd H p u)/\Chg No F H F (upd H p u)/\F p=none:=by
 have E:F p=none:=by
  cases q:F p with
  | none=>rfl
  | some o=>rw [y p o q] at hp; cases hp
 refine ⟨λb o e=>by rw [qv (qB e E)]; exact y b o e,⟨λb o e _=>by rw [qv (qB e hp)]; exact e,λb e=>?_,Same.refl _,λb e=>.inl e⟩,E⟩;by_cases q:b=p;·rw [q,qt]; simp
 ·rw [qv q]; exact e
theorem UA (x y:Str):(x++y).length=x.length+y.length:=by show (x.cps++y.cps).size=_;simp [d4]
theorem qeu:OpR X (binaryOp .Add) (λx y H Q=>∃ l b xs zs,x=.ref l/\y=.ref b/\SqL X.K H l xs/\SqL X.K H b zs/\xs.length+zs.length<=sizeLine/\∀ p,H p=iH->Q (.ref p) (upd H p (.lst (xs++zs)))):=by
 intro pins s σ H x y v u Q I k r h;obtain ⟨l,b,xs,zs,rfl,rfl,h1,h2,hz,q⟩:=h;cases k;cases r;obtain ⟨its,r1,p1,_⟩:=I.list h1;obtain ⟨i,r2,p2,_⟩:=I.list h2;obtain ⟨⟨cls,dd,data,sl⟩,o,g,n,hd⟩:=id p1.isList;obtain ⟨⟨j,e,f,d⟩,a,c,n2,hd2⟩:=id p2.isList;simp only at g hd c hd2;subst g hd c hd2;have t:=r1.length;have m:=r2.length;refine lD ⟨_,o,rfl⟩ ⟨_,a,rfl⟩ noFill_list_add seq_list_add PySem.F.slot_list_add PySem.F.entry_list_add (PySem.F.args_list_add_2 _ _)
  (list_addW l b its.toArray i.toArray n n2 dd e sl d (by simp only [aj]; omega)) ⟨o,a,?_⟩
 have w:its.toArray++i.toArray=(its++i).toArray:=by simp
 rw [w];exact ⟨.ref _,_,I.lnew (t':=s.toks) (r1.append r2) (by rw [ao]; exact hz),rfl,q _ I.fresh⟩
theorem qev:OpR X (binaryOp .Add) (λx y H Q=>∃ a b ys,x=.ref a/\y=.ref b/\SqT X.K H a []/\SqT X.K H b ys/\Q (.ref b) H):=by
 intro pins s σ H x y v u Q I m r h;obtain ⟨a,b,ys,rfl,rfl,h1,h2,q⟩:=h;cases m;cases r;obtain ⟨its,r1,p1,_⟩:=I.tuple h1;obtain ⟨i,r2,p2,_⟩:=I.tuple h2;cases r1;obtain ⟨⟨cls,dd,data,sl⟩,l,j,n,hd⟩:=id p1;obtain ⟨⟨k,f,g,e⟩,c,d,n2,hd2⟩:=id p2;simp only at j hd d hd2;subst j hd d hd2;exact lD ⟨_,l,rfl⟩ ⟨_,c,rfl⟩ noFill_tuple_add seq_tuple_add et d8 (dP _ _)
  (tuple_addW0 a b _ _ n n2 dd f sl e rfl) ⟨l,c,⟨.ref b,H,I,rfl,q⟩⟩
theorem kS (m:C.K=X.K):OpD X C .sh (binaryOp .Add) vh:=by
 intro pins s σ H x y v u Q I g r h;obtain ⟨F,dx,j,c,t,ty,po⟩:=h;cases dx with
 | int i=>
  cases j <;> try exact po.elim
  obtain rfl:=t.int;obtain rfl:=ty.int;exact qge pins s σ H _ _ v u Q I g r ⟨_,_,rfl,rfl,po _ F H c .refl (.int _)⟩
 | str a=>
  cases j <;> try exact po.elim
  rename_i b;obtain ⟨rfl,_⟩:=t.str;obtain ⟨rfl,_⟩:=ty.str;have po:PoV C .sh F H (if a.length+b.length<=sizeLine then .ok (.str (a++b)) else .bad) Q:=po;by_cases z:a.length+b.length<=sizeLine;·rw [if_pos z] at po;exact XZ pins s σ H _ _ v u Q I g r ⟨_,_,rfl,rfl,z,po _ F H c .refl (.str (by rw [UA]; exact z))⟩
  ·rw [if_neg z] at po; exact po.elim
 | lst xs=>
  cases j <;> try exact po.elim
  rename_i ys;obtain ⟨a,vs,rfl,p1,f⟩:=t.lst c;obtain ⟨b,ws,rfl,p2,d⟩:=ty.lst c;have po:PoV C .sh F H (if xs.length+ys.length<=sizeLine then .ok (.lst (xs++ys)) else .bad) Q:=po;by_cases z:xs.length+ys.length<=sizeLine;·rw [if_pos z] at po;refine qeu pins s σ H _ _ v u Q I g r ⟨a,b,vs,ws,rfl,rfl,by rw [<-m]; exact p1,by rw [<-m]; exact p2,by rw [f.length,d.length]; exact z,λp hp=>?_⟩;obtain ⟨s2,c2⟩:=yg (u:=.lst (vs++ws)) c hp;exact po _ _ _ s2 c2 (.lst (.inl (.inl qt)) ((f.append d).mono c2.grow))
  ·rw [if_neg z] at po; exact po.elim
 | tup xs=>
  cases j <;> try exact po.elim
  rename_i ys;obtain ⟨a,vs,rfl,p1,f⟩:=t.tup c;obtain ⟨b,ws,rfl,p2,d⟩:=ty.tup c;have po:PoV C .sh F H (if xs.length+ys.length<=sizeLine then .ok (.tup (xs++ys)) else .bad) Q:=po;by_cases z:xs.length+ys.length<=sizeLine
  ·rw [if_pos z] at po;cases vs with
   | nil=>
    cases f;rcases ty with ty | ⟨_,_,ty⟩
    ·exact qev pins s σ H _ _ v u Q I g r ⟨a,b,ws,rfl,rfl,by rw [<-m]; exact p1,by rw [<-m]; exact p2,po _ F H c .refl ty⟩
    ·exact ty.elim
   | cons k vs=>
    refine qef pins s σ H _ _ v u Q I g r ⟨a,b,k::vs,ws,rfl,rfl,by rw [<-m]; exact p1,by rw [<-m]; exact p2,by simp,by rw [f.length,d.length]; exact z,λe=>?_,λe p hp=>?_⟩
    ·subst e;cases d;rcases t with t | ⟨_,_,t⟩
     ·refine po _ F H c .refl ?_;rw [bp];exact t
     ·exact t.elim
    ·obtain ⟨s2,c2⟩:=yg (u:=.tup (k::vs++ws)) c hp;exact po _ _ _ s2 c2 (.tup (.inl (.inl qt)) ((f.append d).mono c2.grow))
  ·rw [if_neg z] at po; exact po.elim
 | _=>exact po.elim
end
inductive PM where
 | val | io | tk
 deriving DecidableEq
noncomputable def xW:List PM->List V->List Addr
 | .val::ms,_::vs=>xW ms vs
 | .io::ms,.ref a::vs=>a::xW ms vs
 | .tk::ms,.ref a::vs=>a::xW ms vs
 | _::ms,_::vs=>xW ms vs
 | _,_=>[]
def ArgsIs (K:Frag) (F H:Hp):List PM->List V->List D->Prop
 | [],[],[]=>True
 | .val::ms,v::vs,d::ds=>Is K F v d/\ArgsIs K F H ms vs ds
 | .io::ms,v::vs,d::ds=>(∃ a,v=.ref a/\F a=iH/\OwnIs K F H a d)/\ArgsIs K F H ms vs ds
 | .tk::ms,v::vs,d::ds=>(∃ a,v=.ref a/\F a=iH/\OwnIs K F H a d)/\ArgsIs K F H ms vs ds
 | _,_,_=>False
def xn (K:Frag) (F H:Hp):List PM->List V->List D->Prop
 | [],_,_=>True
 | .io::ms,v::vs,d::ds=>(∃ a,v=.ref a/\F a=iH/\OwnIs K F H a d)/\xn K F H ms vs ds
 | _::ms,_::vs,_::ds=>xn K F H ms vs ds
 | _,_,_=>False
abbrev LA (ms:List PM) (vs:List V):Addr->Prop:=λb=>b∈xW ms vs
def PoG (K:Frag) (cv:Str->iI) (ms:List PM) (mr:Mo) (vs:List V) (F H:Hp) (Q:VK) (E:XK) (o:Out (D×List D)):Prop:=match o with
 | .ok (d,outs)=>∀ v F' H',Same F' H'->Chg (LA ms vs) F H F' H'->xn K F' H' ms vs outs->MoIs K mr H F' H' v d->Q v H'
 | .exc c o=>∀ F' H',Same F' H'->Chg (LA ms vs) F H F' H'->xn K F' H' ms vs (o.map (·.getD .non))->E (cv c) iH H'
 | .bad=>False
abbrev jJ:=List D->Out (D×List D)
def spD (K:Frag) (cv:Str->iI) (ms:List PM) (mr:Mo) (G:jJ):Sp:=λvs H Q E=>∃ F ds,Same F H/\ArgsIs K F H ms vs ds/\(xW ms vs).Nodup/\PoG K cv ms mr vs F H Q E (G ds)
theorem ArgsIs.length:∀ {ms:List PM} {vs:List V} {ds:List D},ArgsIs K F H ms vs ds->vs.length=ms.length/\ds.length=ms.length
 | [],[],[],_=>⟨rfl,rfl⟩
 | .val::ms,v::vs,d::ds,h=>by have:=ArgsIs.length h.2; simp [this]
 | .io::ms,v::vs,d::ds,h=>by have:=ArgsIs.length h.2; simp [this]
 | .tk::ms,v::vs,d::ds,h=>by have:=ArgsIs.length h.2; simp [this]
 | [],_::_,_,h=>h.elim
 | [],[],_::_,h=>h.elim
 | .val::_,[],_,h=>h.elim
 | .val::_,_::_,[],h=>h.elim
 | .io::_,[],_,h=>h.elim
 | .io::_,_::_,[],h=>h.elim
 | .tk::_,[],_,h=>h.elim
 | .tk::_,_::_,[],h=>h.elim
noncomputable def kb (n:Nat):List PM->List Nat
 | []=>[]
 | .val::ms=>kb (n+1) ms
 | _::ms=>n::kb (n+1) ms
noncomputable def Wg (n:Nat):List PM->List Nat
 | []=>[]
 | .io::ms=>n::Wg (n+1) ms
 | _::ms=>Wg (n+1) ms
variable {n:Nat}
theorem xX:∀ {ms:List PM} {i:Nat},i∈kb n ms->n<=i/\i < n+ms.length:=by
 intro ms
 induction ms generalizing n with
 | nil=>intro i h; simp [kb] at h
 | cons m ms j=>
  intro i h;cases m with
  | val=>have:=j (n:=n+1) h; simp only [au]; omega
  | io=>
   rcases ae.mp h with e | h;·simp only [au]; omega
   ·have:=j (n:=n+1) h; simp only [au]; omega
  | tk=>
   rcases ae.mp h with e | h;·simp only [au]; omega
   ·have:=j (n:=n+1) h; simp only [au]; omega
theorem qb1:∀ {ms:List PM} {i:Nat},i∈Wg n ms->i∈kb n ms:=by
 intro ms
 induction ms generalizing n with
 | nil=>intro i h; simp [Wg] at h
 | cons m ms j=>
  intro i h;cases m with
  | val=>exact j (n:=n+1) h
  | io=>
   rcases ae.mp h with e | h;·exact ae.mpr (.inl e)
   ·exact af _ (j (n:=n+1) h)
  | tk=>exact af _ (j (n:=n+1) h)
theorem Zm:∀ {ms:List PM} {vs:List V} {ds:List D} {n:Nat},ArgsIs K F H ms vs ds ->(∀ j d,ds[j]?=iF d->n+j∉kb n ms->∃ v,vs[j]?=iF v/\Is K F v d) /\
  (∀ j d,ds[j]?=iF d->n+j∈kb n ms->∃ a,vs[j]?=iF (.ref a)/\F a=iH/\OwnIs K F H a d):=by
 intro ms
 induction ms with
 | nil=>intro vs ds n h; cases vs <;> cases ds <;> first | exact h.elim | (refine ⟨λj d e=>?_,λj d e=>?_⟩ <;> simp at e)
 | cons m ms i=>
  intro vs ds n h;cases vs with
  | nil=>cases m <;> exact h.elim
  | cons v vs=>
   cases ds with
   | nil=>cases m <;> exact h.elim
   | cons d ds=>
    cases m with
    | val=>
     obtain ⟨h1,h2⟩:=h;obtain ⟨i1,i2⟩:=i (n:=n+1) h2;refine ⟨λj e b c=>?_,λj e b c=>?_⟩
     ·cases j with
      | zero=>simp at b; subst b; exact ⟨v,rfl,h1⟩
      | succ j=>simpa using i1 j e (by simpa using b) (by rw [show n+1+j=n+(j+1) by omega]; exact c)
     ·cases j with
      | zero=>have:=xX (n:=n+1) c; omega
      | succ j=>simpa using i2 j e (by simpa using b) (by rw [show n+1+j=n+(j+1) by omega]; exact c)
    | io=>
     obtain ⟨⟨a,rfl,h1⟩,h2⟩:=h;obtain ⟨i1,i2⟩:=i (n:=n+1) h2;refine ⟨λj e b c=>?_,λj e b c=>?_⟩
     ·cases j with
      | zero=>exact absurd (ae.mpr (.inl rfl)) c
      | succ j=>simpa using i1 j e (by simpa using b) (λz=>c (af _ (by rw [show n+(j+1)=n+1+j by omega]; exact z)))
     ·cases j with
      | zero=>simp at b; subst b; exact ⟨a,rfl,h1⟩
      | succ j=>
       have f:n+1+j∈kb (n+1) ms:=by
        rcases ae.mp c with z | z;·omega
        ·rw [show n+1+j=n+(j+1) by omega]; exact z
       simpa using i2 j e (by simpa using b) f
    | tk=>
     obtain ⟨⟨a,rfl,h1⟩,h2⟩:=h;obtain ⟨i1,i2⟩:=i (n:=n+1) h2;refine ⟨λj e b c=>?_,λj e b c=>?_⟩
     ·cases j with
      | zero=>exact absurd (ae.mpr (.inl rfl)) c
      | succ j=>simpa using i1 j e (by simpa using b) (λz=>c (af _ (by rw [show n+(j+1)=n+1+j by omega]; exact z)))
     ·cases j with
      | zero=>simp at b; subst b; exact ⟨a,rfl,h1⟩
      | succ j=>
       have f:n+1+j∈kb (n+1) ms:=by
        rcases ae.mp c with z | z;·omega
        ·rw [show n+1+j=n+(j+1) by omega]; exact z
       simpa using i2 j e (by simpa using b) f
theorem GQ:∀ {ms:List PM} {vs:List V} {j:Nat} {a:Addr},n+j∈kb n ms->vs[j]?=iF (.ref a)->a∈xW ms vs:=by
 intro ms
 induction ms generalizing n with
 | nil=>intro vs j a h; simp [kb] at h
 | cons m ms i=>
  intro vs j a h e;cases vs with
  | nil=>simp at e
  | cons v vs=>
   cases j with
   | zero=>
    simp at e; subst e;cases m with
    | val=>have:=xX (n:=n+1) h; omega
    | io=>exact ae.mpr (.inl rfl)
    | tk=>exact ae.mpr (.inl rfl)
   | succ j=>
    have b:vs[j]?=iF (.ref a):=by simpa using e
    have sub:n+1+j∈kb (n+1) ms:=by
     rw [show n+1+j=n+(j+1) by omega];cases m with
     | val=>exact h
     | io=>exact (ae.mp h).resolve_left (by omega)
     | tk=>exact (ae.mp h).resolve_left (by omega)
    have q:=i (n:=n+1) sub b;cases m <;> cases v <;> first | exact q | exact af _ q
theorem GR:∀ {ms:List PM} {vs:List V} {a:Addr},a∈xW ms vs->∃ j,n+j∈kb n ms/\vs[j]?=iF (.ref a):=by
 intro ms
 induction ms generalizing n with
 | nil=>intro vs a h; cases vs <;> simp [xW] at h
 | cons m ms i=>
  intro vs a h;cases vs with
  | nil=>cases m <;> simp [xW] at h
  | cons v vs=>
   have up:∀ {b},b∈xW ms vs->∃ j,n+j∈kb n (m::ms)/\(v::vs)[j]?=iF (.ref b):=λd=>by
    obtain ⟨j,h1,h2⟩:=i (n:=n+1) d;refine ⟨j+1,?_,by simpa using h2⟩;rw [show n+(j+1)=n+1+j by omega];cases m with
    | val=>exact h1
    | io=>exact af _ h1
    | tk=>exact af _ h1
   cases m with
   | val=>exact up (by cases v <;> exact h)
   | io=>
    cases v with
    | ref c=>
     rcases ae.mp h with e | h;·subst e; exact ⟨0,ae.mpr (.inl rfl),rfl⟩
     ·exact up h
    | _=>exact up h
   | tk=>
    cases v with
    | ref c=>
     rcases ae.mp h with e | h;·subst e; exact ⟨0,ae.mpr (.inl rfl),rfl⟩
     ·exact up h
    | _=>exact up h
theorem qb2:∀ {ms:List PM} {vs:List V} {i j:Nat} {a:Addr},(xW ms vs).Nodup->n+i∈kb n ms->n+j∈kb n ms->vs[i]?=iF (.ref a)->vs[j]?=iF (.ref a)->i=j:=by
 intro ms
 induction ms generalizing n with
 | nil=>intro vs i j a _ h; simp [kb] at h
 | cons m ms f=>
  intro vs i j a nd hi D e1 e;cases vs with
  | nil=>simp at e1
  | cons v vs=>
   have sub:∀ {k},n+(k+1)∈kb n (m::ms)->n+1+k∈kb (n+1) ms:=λ{k} h=>by
    rw [show n+1+k=n+(k+1) by omega];cases m with
    | val=>exact h
    | io=>exact (ae.mp h).resolve_left (by omega)
    | tk=>exact (ae.mp h).resolve_left (by omega)
   have d:(xW ms vs).Nodup:=by cases m <;> cases v <;> first | exact nd | exact (aR.mp nd).2
   have c:∀ {k b},n+0∈kb n (m::ms)->v=.ref b->n+(k+1)∈kb n (m::ms)->vs[k]?=iF (.ref b)->False:=λ{k b} h0 g l o=>by
    subst g;have q:=GQ (n:=n+1) (sub l) o;cases m with
    | val=>have:=xX (n:=n+1) h0; omega
    | io=>exact (aR.mp nd).1 q
    | tk=>exact (aR.mp nd).1 q
   cases i with
   | zero=>
    cases j with
    | zero=>rfl
    | succ j=>exact (c hi (by simpa using e1) D (by simpa using e)).elim
   | succ i=>
    cases j with
    | zero=>exact (c D (by simpa using e) hi (by simpa using e1)).elim
    | succ j=>exact congrArg (·+1) (f (n:=n+1) d (sub hi) (sub D) (by simpa using e1) (by simpa using e))
noncomputable def qp (N:List Str) (ds:List D):Sl:=ds.map iF++bu (N.length - ds.length) iH
variable {α:Type} {N:List Str}
theorem get_start {xs:List α} {x:α}:(xs.map iF++bu (N.length - xs.length) iH)[i]?=iF (iF x)↔xs[i]?=iF x:=by
 by_cases h:i < xs.length
 ·rw [ce (by simpa using h),aG];cases e:xs[i]? with
  | none=>simp
  | some y=>simp
 ·rw [bW (by simpa using h),bR];have e:xs[i]?=none:=List.getElem?_eq_none_iff.mpr (by omega);rw [e];split <;> simp
variable {ms:List PM}
theorem GS (y:Same F H) (r:ArgsIs K F H ms vs ds) (nd:(xW ms vs).Nodup):Rep K (kb 0 ms) F H (wA N vs) (qp N ds):=by
 obtain ⟨h1,h2⟩:=Zm (n:=0) r;obtain ⟨c,l⟩:=r.length;refine ⟨y,by simp [wA,qp,c,l],λi d hi e=>?_,λi d hi e=>?_,λi hi=>?_,λi j a hi D e1 f=>?_⟩;·obtain ⟨v,a,b⟩:=h1 i d (get_start.mp e) (by simpa using hi);exact ⟨v,get_start.mpr a,b⟩
 ·obtain ⟨v,a,b⟩:=h2 i d (get_start.mp e) (by simpa using hi);exact ⟨v,get_start.mpr a,b⟩
 ·have q:=xX hi;have hl:i < ds.length:=by omega
  exact ⟨ds[i],get_start.mpr (by simp [hl])⟩
 ·exact qb2 (n:=0) nd (by simpa using hi) (by simpa using D) (get_start.mp e1) (get_start.mp f)
theorem oa_start:OA (kb 0 ms) (wA N vs) b↔LA ms vs b:=by
 constructor;·rintro ⟨i,hi,e⟩;exact GQ (n:=0) (by simpa using hi) (get_start.mp e)
 ·intro h;obtain ⟨j,h1,h2⟩:=GR (n:=0) h;exact ⟨j,by simpa using h1,get_start.mpr h2⟩
noncomputable def qm (ρ:Sl):Nat->List PM->List D
 | _,[]=>[]
 | n,.io::ms=>((ρ[n]?).getD iH).getD .non::qm ρ (n+1) ms
 | n,_::ms=>.non::qm ρ (n+1) ms
theorem qew {σ:St} {N:List Str}:∀ {ms:List PM} {vs:List V} {n:Nat},vs.length=ms.length->(∀ i∈Wg n ms,∃ d a,ρ[i]?=iF (iF d)/\vs[i - n]?=iF (V.ref a)/\F a=iH/\OwnIs K F H a d)->xn K F H ms vs (qm ρ n ms):=by
 intro ms
 induction ms with
 | nil=>intro vs n _ _; trivial
 | cons m ms j=>
  intro vs n hl h;cases vs with
  | nil=>simp at hl
  | cons v vs=>
   have rest:(∀ i∈Wg (n+1) ms,i∈Wg n (m::ms))->xn K F H ms vs (qm ρ (n+1) ms):=λhs=>by refine j (by simpa using hl) λi hi=>?_;obtain ⟨d,a,e1,e,E⟩:=h i (hs i hi);have q:=xX (qb1 hi);refine ⟨d,a,e1,?_,E⟩;rw [show i - n=(i - (n+1))+1 by omega] at e;simpa using e
   cases m with
   | val=>exact rest λi hi=>hi
   | io=>obtain ⟨d,a,e1,e,E⟩:=h n (ae.mpr (.inl rfl));refine ⟨⟨a,by simpa using e,E.1,?_⟩,rest λi hi=>af _ hi⟩;rw [e1];exact E.2
   | tk=>exact rest λi hi=>hi
noncomputable def Fl.val:Fl->Option D
 | .nx=>iF .non
 | .rt d=>iF d
 | _=>iH
noncomputable def kj (N:List Str) (ms:List PM) (f:qR) (ds:List D):Out (D×List D):=match f (qp N ds) with
 | .ok (.nx,ρ)=>.ok (.non,qm ρ 0 ms)
 | .ok (.rt d,ρ)=>.ok (d,qm ρ 0 ms)
 | .ok _=>.bad
 | .exc c ρ=>.exc c ((qm ρ 0 ms).map iF)
 | .bad=>.bad
theorem YK:∀ (l:List D),(l.map iF).map (λx:Option D=>x.getD .non)=l
 | []=>rfl
 | a::l=>congrArg (a::·) (YK l)
def Out.le {α:Type} (a b:Out α):Prop:=a=.bad\/a=b
theorem GT {f:qR} {Q:VK} {o:Out (D×List D)} (j:C.io=Wg 0 ms) (l:C.ox=C.io) (hmr:C.mr=.sh\/∀ ρ,(f (qp N ds))≠.ok (.nx,ρ)) (g:∀ i∈Wg 0 ms,i∈own') (y:Same F H) (r:ArgsIs C.K F H ms vs ds) (nd:(xW ms vs).Nodup)
  (G:Out.le o (kj N ms f ds)) (h:PoG C.K C.cv ms C.mr vs F H Q C.E o):tSt C (kb 0 ms) own' f { nx:=λ_ H'=>Q .non H',rt:=Q } (wA N vs) H:=by
 refine ⟨F,qp N ds,GS y r nd,?_⟩;have hl:=r.length.1;have ch:∀ {F' H'},Chg (OA (kb 0 ms) (wA N vs)) F H F' H'->Chg (LA ms vs) F H F' H':=λc=>c.mono λx z=>oa_start.mp z;have b:∀ {σ':St} {ρ':Sl} {F' H':Hp},ZZ C.K C.io F' H' σ' ρ'->(∀ i∈C.io,σ'[i]?=(wA N vs)[i]?)->xn C.K F' H' ms vs (qm ρ' 0 ms):=λ{σ' ρ' F' H'} io e=>by
  refine qew (N:=N) (σ:=σ') hl λi hi=>?_;have k:i∈C.io:=by rw [j]; exact hi
  obtain ⟨d,a,e1,m,w⟩:=io i k;refine ⟨d,a,e1,?_,w⟩;rw [e i k] at m;exact get_start.mp m
 rcases G with e | e;·subst e; exact h.elim
 ·subst e;unfold kj at h;cases q:f (qp N ds) with
  | ok p=>
   rw [q] at h;obtain ⟨u,ρ'⟩:=p;cases u with
   | nx=>have t:C.mr=.sh:=hmr.resolve_right λz=>z ρ' q;exact λσ' F' H' n=>h .non F' H' n.rep.sub (ch n.chg) (b (n.rep.ioIs (by rw [j]; exact g)) n.io) (by rw [t]; exact .non)
   | rt d=>exact λv σ' F' H' s io c e mo=>h v F' H' s (ch c) (b io e) mo
   | bk=>exact h.elim
   | ct=>exact h.elim
  | exc c ρ'=>rw [q] at h;exact λF' H' s io S=>h F' H' s (ch S) (by rw [YK]; exact b (σ':=wA N vs) (by rw [<-l]; exact io) λ_ _=>rfl)
  | bad=>rw [q] at h; exact h.elim
def qdh (K:Frag) (cv:Str->iI) (E:XK) (ms:List PM) (mr:Mo):Ct:=⟨K,cv,E,Wg 0 ms,mr,[],Wg 0 ms,λ_ h=>h⟩
theorem qh6 {P:iN} {w:iO} {K:Frag} {mg:Str->Option iI} {base:Heap} {CX:CXT} {x qual:Str} {st:Stmt} {f:Addr} {fd:k4} {N ps:List Str} {k:Nat} {cv:Str->iI} {ms:List PM} {mr:Mo} {own':List Nat} {fb:qR} {G:jJ}
  (F:Fun K x qual st f fd) (S:FnScope N ps (ql st)) (hl:ms.length=ps.length) (g:∀ i∈Wg 0 ms,i∈own') (hmr:mr=.sh\/∀ ds ρ,(fb (qp N ds))≠.ok (.nx,ρ))
  (a:∀ (cdv:iI) (A:iQ) (outer:List Env) (s:iL) (H:Hp) (E:XK),Room k (A.deeper (envOfC qual (ql st) s.heap.objs.size f cdv)) ->PSs (qea CX P w K mg base N qual (ql st) f cdv A outer s H E) (ka st) (tSt (qdh K cv E ms mr) (kb 0 ms) own' fb))
  (b:∀ ds,Out.le (G ds) (kj N ms fb ds)):FnOk P w K mg base CX (k+1) f fd ps (spD K cv ms mr G):=by
 obtain ⟨oc,od,kV,doc,pm,an,cdv,ct,osl,rfl,j,d⟩:=F.ex;refine qiK j d S (λvs H Q E h=>?_) λA outer s H vs Q E c p=>?_;·obtain ⟨F,ds,_,r,_⟩:=h;rw [r.length.1,hl]
 ·obtain ⟨F1,ds,y,r,nd,h⟩:=p;refine ⟨_,a cdv A outer s H E c,?_⟩;exact GT (C:=qdh K cv E ms mr) rfl rfl (hmr.imp id λz ρ=>z ds ρ) g y r nd (b ds) h
noncomputable def xY:AK->PM
 | .vl=>.val
 | .sl _=>.io
 | .fr=>.tk
noncomputable def qx:List AK->List D->Sl->Option (List D)
 | [],[],_=>iF []
 | .sl i::as,_::ds,ρ=>match ρ[i]? with
  | some (iF d)=>(qx as ds ρ).map (d::·)
  | _=>iH
 | .vl::as,d::ds,ρ=>(qx as ds ρ).map (d::·)
 | .fr::as,d::ds,ρ=>(qx as ds ρ).map (d::·)
 | _,_,_=>iH
noncomputable def qU:List AK->List D->Sl->Sl
 | .sl i::as,d::outs,ρ=>qU as outs (ρ.set i (iF d))
 | _::as,_::outs,ρ=>qU as outs ρ
 | _,_,ρ=>ρ
noncomputable def qS:List AK->List Nat
 | []=>[]
 | .sl i::as=>i::qS as
 | _::as=>qS as
noncomputable def frA:List AK->Nat
 | []=>0
 | .fr::as=>frA as+1
 | _::as=>frA as
section
theorem xZ:∀ {as:List AK} {vs:List V} {ds f:List D},Rep K own F H σ ρ->(∀ i∈qS as,i∈own)->ArgV K H0 F H σ as vs ds->qx as ds ρ=iF f->ArgsIs K F H (as.map xY) vs f
 | [],vs,ds,f,rp,hs,av,e=>by cases vs <;> cases ds <;> first | exact av.elim | (simp [qx] at e; subst e; trivial)
 | a::as,[],ds,f,rp,hs,av,e=>by cases a <;> exact av.elim
 | a::as,v::vs,[],f,rp,hs,av,e=>by cases a <;> exact av.elim
 | .vl::as,v::vs,d::ds,f,rp,hs,av,e=>by
  cases q:qx as ds ρ with
  | none=>simp [qx,q] at e
  | some l=>
   have e:d::l=f:=by simpa [qx,q] using e
   subst e;exact ⟨av.1,xZ rp hs av.2 q⟩
 | .fr::as,v::vs,d::ds,f,rp,hs,av,e=>by
  cases q:qx as ds ρ with
  | none=>simp [qx,q] at e
  | some l=>
   have e:d::l=f:=by simpa [qx,q] using e
   subst e;obtain ⟨a,h1,_,h2,h3⟩:=av.1;exact ⟨⟨a,h1,h2,h3⟩,xZ rp hs av.2 q⟩
 | .sl i::as,v::vs,d::ds,f,rp,hs,av,e=>by
  obtain ⟨h1,_,b⟩:=av;have hi:i∈own:=hs i (ae.mpr (.inl rfl));obtain ⟨d',hd⟩:=rp.opn i hi;obtain ⟨a,e1,c,E⟩:=rp.ow i d' hi hd;rw [h1] at e1;cases e1;cases q:qx as ds ρ with
  | none=>simp [qx,q,hd] at e
  | some l=>
   have e:d'::l=f:=by simpa [qx,q,hd] using e
   subst e;exact ⟨⟨a,rfl,c,E⟩,xZ rp (λj h=>hs j (af _ h)) b q⟩
theorem vC:∀ {as:List AK} {vs:List V} {ds:List D} {b:Addr},ArgV K H0 F H σ as vs ds->b∈xW (as.map xY) vs->(∃ i∈qS as,σ[i]?=iF (iF (V.ref b)))\/(H0 b=iH/\frA as≠0/\H b≠iH/\F b=iH)
 | [],vs,ds,b,av,h=>by cases vs <;> simp [xW] at h
 | a::as,[],ds,b,av,h=>by cases a <;> exact av.elim
 | a::as,v::vs,[],b,av,h=>by cases a <;> exact av.elim
 | .vl::as,v::vs,d::ds,b,av,h=>by
  have h:b∈xW (as.map xY) vs:=by cases v <;> exact h
  exact vC (as:=as) av.2 h
 | .fr::as,v::vs,d::ds,b,av,h=>by
  obtain ⟨⟨a,rfl,h0,E,o⟩,c⟩:=av;have h:b∈a::xW (as.map xY) vs:=h;rcases ae.mp h with e | h;·subst e; exact .inr ⟨h0,by simp [frA],o.there,E⟩
  ·rcases vC c h with z | ⟨z,_,z2⟩
   ·exact .inl z
   ·exact .inr ⟨z,by simp [frA],z2⟩
 | .sl i::as,v::vs,d::ds,b,av,h=>by
  obtain ⟨h1,_,c⟩:=av;have up:b∈xW (as.map xY) vs->(∃ j∈qS (.sl i::as),σ[j]?=iF (iF (V.ref b)))\/(H0 b=iH/\frA (.sl i::as)≠0/\H b≠iH/\F b=iH):=λh=>by
   rcases vC c h with ⟨j,hj,e⟩ | z;·exact .inl ⟨j,af _ hj,e⟩
   ·exact .inr z
  cases v with
  | ref a=>
   have h:b∈a::xW (as.map xY) vs:=h;rcases ae.mp h with e | h;·subst e; exact .inl ⟨i,ae.mpr (.inl rfl),h1⟩
   ·exact up h
  | _=>exact up h
theorem yI:∀ {as:List AK} {vs:List V} {ds:List D},Rep K own F H σ ρ->(∀ x,OA own σ x->H0 x≠iH)->(∀ i∈qS as,i∈own)->(qS as).Nodup->frA as<=1->ArgV K H0 F H σ as vs ds->(xW (as.map xY) vs).Nodup
 | [],vs,ds,rp,h0,hs,nd,hf,av=>by cases vs <;> simp [xW]
 | a::as,[],ds,rp,h0,hs,nd,hf,av=>by cases a <;> exact av.elim
 | a::as,v::vs,[],rp,h0,hs,nd,hf,av=>by cases a <;> exact av.elim
 | .vl::as,v::vs,d::ds,rp,h0,hs,nd,hf,av=>by have q:=yI (as:=as) rp h0 hs nd hf av.2;cases v <;> exact q
 | .fr::as,v::vs,d::ds,rp,h0,hs,nd,hf,av=>by
  have g:frA as=0:=by simp only [frA] at hf; omega
  obtain ⟨⟨a,rfl,hz,E,o⟩,b⟩:=av;show (a::xW (as.map xY) vs).Nodup;refine aR.mpr ⟨λz=>?_,yI rp h0 hs nd (by omega) b⟩;rcases vC b z with ⟨i,hi,e⟩ | ⟨_,n,_⟩
  ·exact h0 a ⟨i,hs i hi,e⟩ hz
  ·exact n g
 | .sl i::as,v::vs,d::ds,rp,h0,hs,nd,hf,av=>by
  obtain ⟨h1,_,b⟩:=av;have h:∀ j∈qS as,j∈own:=λj c=>hs j (af _ c);have hi:i∈own:=hs i (ae.mpr (.inl rfl));obtain ⟨k,f⟩:=aR.mp nd;have q:=yI rp h0 h f hf b;cases v with
  | ref a=>
   show (a::xW (as.map xY) vs).Nodup;refine aR.mpr ⟨λz=>?_,q⟩;rcases vC b z with ⟨j,c,e⟩ | ⟨n,_⟩
   ·exact k (by rw [rp.dis i j a hi (h j c) h1 e]; exact c)
   ·exact h0 a ⟨i,hi,h1⟩ n
  | _=>exact q
theorem ub:∀ {as:List AK} {b:List D} {ρ:Sl} {i:Nat},i∉qS as->(qU as b ρ)[i]?=ρ[i]?
 | [],b,ρ,i,h=>by cases b <;> rfl
 | a::as,[],ρ,i,h=>by cases a <;> rfl
 | .vl::as,d::b,ρ,i,h=>ub (as:=as) h
 | .fr::as,d::b,ρ,i,h=>ub (as:=as) h
 | .sl j::as,d::b,ρ,i,h=>by
  have h':i≠j/\i∉qS as:=by simpa [qS] using h
  show (qU as b (ρ.set j (iF d)))[i]?=_;rw [ub h'.2,am (bf h'.1)]
theorem gT:∀ {as:List AK} {b:List D} {ρ:Sl},(qU as b ρ).length=ρ.length
 | [],b,ρ=>by cases b <;> rfl
 | a::as,[],ρ=>by cases a <;> rfl
 | .vl::as,d::b,ρ=>gT (as:=as)
 | .fr::as,d::b,ρ=>gT (as:=as)
 | .sl j::as,d::b,ρ=>by show (qU as b (ρ.set j (iF d))).length=_;rw [gT,fy]
theorem Kn {F' H':Hp}:∀ {as:List AK} {vs:List V} {ds b:List D} {ρ:Sl},(qS as).Nodup->(∀ i∈qS as,i < ρ.length)->ArgV K H0 F H σ as vs ds->xn K F' H' (as.map xY) vs b->∀ i∈qS as,∃ d a,(qU as b ρ)[i]?=iF (iF d)/\σ[i]?=iF (iF (V.ref a))/\F' a=iH/\OwnIs K F' H' a d
 | [],vs,ds,b,ρ,nd,hl,av,o,i,hi=>by simp [qS] at hi
 | a::as,[],ds,b,ρ,nd,hl,av,o,i,hi=>by cases a <;> exact av.elim
 | a::as,v::vs,[],b,ρ,nd,hl,av,o,i,hi=>by cases a <;> exact av.elim
 | a::as,v::vs,d::ds,[],ρ,nd,hl,av,o,i,hi=>by cases a <;> exact o.elim
 | .vl::as,v::vs,d::ds,u::b,ρ,nd,hl,av,o,i,hi=>Kn (as:=as) nd hl av.2 o i hi
 | .fr::as,v::vs,d::ds,u::b,ρ,nd,hl,av,o,i,hi=>Kn (as:=as) nd hl av.2 o i hi
 | .sl j::as,v::vs,d::ds,u::b,ρ,nd,hl,av,o,i,hi=>by
  obtain ⟨f,n⟩:=aR.mp nd;obtain ⟨h1,_,c⟩:=av;obtain ⟨⟨a,e,E,ow⟩,o2⟩:=o;subst e;rcases ae.mp hi with e | hi;·subst e;refine ⟨u,a,?_,h1,E,ow⟩;show (qU as b (ρ.set i (iF u)))[i]?=_;rw [ub f,aF (hl i (ae.mpr (.inl rfl)))]
  ·exact Kn (as:=as) (ρ:=ρ.set j (iF u)) n (λk h=>by rw [fy]; exact hl k (af _ h)) c o2 i hi
end
noncomputable def qu (as:List AK) (G:jJ) (fr:wV):jg:=λρ=>(fr ρ).bind λp=>match qx as p.1 p.2 with
 | some ds=>match G ds with
  | .ok q=>.ok (q.1,qU as q.2 p.2)
  | .exc c o=>.exc c (qU as (o.map (·.getD .non)) p.2)
  | .bad=>.bad
 | none=>.bad
variable {mr:Mo} {CX:CXT} {f:Addr} {fd:k4} {ps:List Str}
section
variable {G:jJ} {fr:wV}
theorem YL {F' H':Hp} {b:List D} (r:Rep C.K own F H σ ρ) (h0:∀ x,OA own σ x->H0 x≠iH) (hs:∀ i∈qS as,i∈own) (nd:(qS as).Nodup) (f:ArgV C.K H0 F H σ as vs ds)
  (y:Same F' H') (c:Chg (LA (as.map xY) vs) F H F' H') (o:xn C.K F' H' (as.map xY) vs b):Rep C.K own F' H' σ (qU as b ρ):=by
 have pin:=Kn (ρ:=ρ) nd (λi hi=>by obtain ⟨d,e⟩:=r.opn i (hs i hi);exact (aC.mp e).1) f o;refine ⟨y,by rw [gT]; exact r.len,λi d hi e=>?_,λi d hi e=>?_,λi hi=>?_,r.dis⟩;·rw [ub (λz=>hi (hs i z))] at e;obtain ⟨v,h1,h2⟩:=r.val i d hi e;exact ⟨v,h1,h2.mono c.grow⟩
 ·by_cases q:i∈qS as;·obtain ⟨d',a,e1,m,E,k⟩:=pin i q;rw [e1] at e;cases e;exact ⟨a,m,E,k⟩
  ·rw [ub q] at e;obtain ⟨a,h1,h2,h3⟩:=r.ow i d hi e;have l:¬LA (as.map xY) vs a:=λz=>by
    rcases vC f z with ⟨j,h,p⟩ | ⟨n,_⟩
    ·exact q (by rw [r.dis i j a hi (hs j h) h1 p]; exact h)
    ·exact h0 a ⟨i,hi,h1⟩ n
   refine ⟨a,h1,?_,h3.grow c.grow λo' g=>c.keep a o' g l⟩;cases g:F' a with
   | none=>rfl
   | some u=>
    rcases c.new a (by rw [g]; simp) with z | z | z;·exact absurd h2 z
    ·exact absurd z h3.there
    ·exact absurd z l
 ·by_cases q:i∈qS as;·obtain ⟨d',a,e1,_⟩:=pin i q;exact ⟨d',e1⟩
  ·rw [ub q];exact r.opn i hi
theorem UB {Q:VK} (l:∀ i∈C.ox,i∈own) (hs:∀ i∈qS as,i∈own) (nd:(qS as).Nodup) (s:frA as<=1) (h:tE C own mr (qu as G fr) σ H Q):tAr C own as fr σ H λvs H1=>spD C.K C.cv (as.map xY) mr G (vs++[]) H1 Q C.E:=by
 obtain ⟨F,ρ,r,h⟩:=h;have h0:∀ x,OA own σ x->H x≠none:=λx z=>(r.OA_there z).1;refine ⟨F,ρ,r,?_⟩;unfold qu at h;cases k:fr ρ with
 | ok p=>
  rw [k] at h;obtain ⟨ds,ρ1⟩:=p;intro vs F1 H1 a m g;rw [bp];have h1:Po C own mr σ F H (match qx as ds ρ1 with | some ds=>(match G ds with | .ok q=>.ok (q.1,qU as q.2 ρ1) | .exc c o=>.exc c (qU as (o.map (·.getD .non)) ρ1) | .bad=>.bad) | none=>.bad) Q:=h;cases q:qx as ds ρ1 with
  | none=>simp only [q] at h1; exact h1.elim
  | some f=>
   simp only [q] at h1;have lo:∀ x,LA (as.map xY) vs x->OA own σ x\/H x=none:=λx z=>by
    rcases vC g z with ⟨i,hi,e⟩ | ⟨n,_⟩
    ·exact .inl ⟨i,hs i hi,e⟩
    ·exact .inr n
   refine ⟨F1,f,a.sub,xZ a hs g q,yI a h0 hs nd s g,?_⟩;cases j:G f with
   | ok p=>rw [j] at h1;obtain ⟨d,b⟩:=p;exact λv F' H' y c o mo=>h1 v F' H' (YL a h0 hs nd g y c o) (m.trans c lo) (MoIs.back (Ha:=H1) m mo)
   | exc x o=>rw [j] at h1; exact λF' H' y c b=>h1 F' H' y ((YL a h0 hs nd g y c b).ioIs l) (m.trans c lo)
   | bad=>rw [j] at h1; exact h1.elim
 | exc c=>rw [k] at h; exact h
 | bad=>rw [k] at h; exact h.elim
theorem qex {k:Nat} {p pos:Pos} (F:FnOk X.prog X.w X.K X.mg X.base CX k f fd ps (spD C.K C.cv ms mr G)) (c:Room k X.A) (hg:Gl X x) (m:X.mg x=iF (.ref f)) (a:keepIn X.K (.ref f)=iK) (j:Binds X.K fd ps []) (hx:kl CX X C.E)
  (n:PA X (e::es) (tAr C own as fr)) (s:ms=as.map xY:=by rfl) (hs:∀ i∈qS as,i∈own:=by decide) (nd:(qS as).Nodup:=by decide) (d:frA as<=1:=by decide) (o:∀ i∈C.ox,i∈own:=by exact kz rfl) (b:Dbg x:=by decide) (g:starEach (e::es) X.env=(iJ,eval e X.env)::starEach es X.env:=by exact jl rfl)
  (l:(backTo pos (starEach es X.env)).any (·.1)=false:=by exact vR rfl):PE X (.Call (.Name x p) (e::es) [] pos) (tE C own mr (qu as G fr)):=by
 subst s;exact jB (qd7 F c hg m a j .nil hx n b g l) λσ H Q h=>UB o hs nd d h
end
structure ItIs (K:Frag) (F:Hp) (J:It) (ds:List D):Prop where
 go:∀ i H,i < ds.length->Same F H->J.go i H
 yld:∀ i Fi H x H' d,ds[i]?=iF d->Same F Fi->Same Fi H->J.yld i H x H'->∃ F',Chg No Fi H F' H'/\Same F' H'/\Is K F' x d
 stop:∀ i H,ds.length<=i->Same F H->J.stop i H
def PoI (C:Ct) (own:List Nat) (σ:St) (F H:Hp) (r:Out (List D×Sl)) (R:It->Hp->Prop):Prop:=match r with
 | .ok (ds,ρ')=>∀ J F' H',Rep C.K own F' H' σ ρ'->Chg (OA own σ) F H F' H'->ItIs C.K F' J ds->R J H'
 | .exc c ρ'=>∀ F' H',Same F' H'->ZZ C.K C.ox F' H' σ ρ'->Chg (OA own σ) F H F' H'->C.E (C.cv c) iH H'
 | .bad=>False
def tIt (C:Ct) (own:List Nat) (f:wV):TI:=λσ H R=>∃ F ρ,Rep C.K own F H σ ρ/\PoI C own σ F H (f ρ) R
noncomputable def uU:D->Out (List D)
 | .lst xs=>.ok xs
 | .tup xs=>.ok xs
 | _=>.bad
noncomputable def qkt (f:jg):wV:=λρ=>(f ρ).bind λp=>(uU p.1).bind λds=>.ok (ds,p.2)
theorem PoI.bindV {m:Mo} {o:VU} {k:D×Sl->Out (List D×Sl)} {Q:It->Hp->Prop} {R:VK} (hp:PoI C own σ F H (o.bind k) Q)
  (h:∀ v F1 H1 d ρ1,Rep C.K own F1 H1 σ ρ1->Chg (OA own σ) F H F1 H1->MoIs C.K m H F1 H1 v d->PoI C own σ F H (k (d,ρ1)) Q->R v H1):Po C own m σ F H o R:=by
 cases o with
 | ok p=>exact λv F1 H1 a c mo=>h v F1 H1 p.1 p.2 a c mo hp
 | exc x=>exact hp
 | bad=>exact hp.elim
variable {tg iter:Expr} {xs:List V} {gs:List D->Sl->Out Sl}
section
variable {f:jg}
theorem qb3 {t t':TI} (h:PI X tg e t) (i:∀ σ H Q,t' σ H Q->t σ H Q):PI X tg e t':=⟨λpins s σ H R I hw=>h pins s σ H R I (i σ H R hw)⟩
theorem qgK (p:SqL K F a xs) (t:IsL K F xs ds):ItIs K F (Itl K a) ds where
 go:=λi H hi s=>by
  have hx:i < xs.length:=by rw [t.length]; exact hi
  exact ⟨xs,xs[i],s.seq p,by simp [hx]⟩
 yld:=λi Fi H x H' d e s1 s2 y=>by obtain ⟨rfl,y⟩:=y;obtain ⟨v,h1,h2⟩:=t.getD e;have q:=y xs ((s1.trans s2).seq p);rw [h1] at q;cases q;exact ⟨Fi,.refl,s2,h2.mono s1⟩
 stop:=λi H hi s=>⟨xs,s.seq p,by rw [t.length]; exact hi⟩
theorem qgL (p:SqT K F a xs) (t:IsL K F xs ds):ItIs K F (Itt K a) ds where
 go:=λi H hi s=>by
  have hx:i < xs.length:=by rw [t.length]; exact hi
  exact ⟨xs,xs[i],jm s p,by simp [hx]⟩
 yld:=λi Fi H x H' d e s1 s2 y=>by obtain ⟨rfl,y⟩:=y;obtain ⟨v,h1,h2⟩:=t.getD e;have q:=y xs (jm (s1.trans s2) p);rw [h1] at q;cases q;exact ⟨Fi,.refl,s2,h2.mono s1⟩
 stop:=λi H hi s=>⟨xs,jm s p,by rw [t.length]; exact hi⟩
noncomputable def VG (lo:Int) (n:Nat):List D:=(aK n).map λk=>.int (lo+(k:Nat))
theorem qgM {lo:Int}:ItIs K F (Itr lo n) (VG lo n) where
 go:=λi H hi _=>by
  have:i < n:=by simpa [VG] using hi
  exact this
 yld:=λi Fi H x H' d e s1 s2 y=>by
  obtain ⟨rfl,rfl⟩:=y;have e:d=.int (lo+i):=by
   unfold VG at e;rw [aG] at e;cases q:(aK n)[i]? with
   | none=>rw [q] at e; cases e
   | some k=>
    rw [q] at e;have h:k=i:=by have:=aC.mp q;obtain ⟨_,z⟩:=this;simpa using z.symm
    subst h;exact (aN.inj e).symm
  subst e;exact ⟨Fi,.refl,s2,.int _⟩
 stop:=λi H hi _=>by
  have:n<=i:=by simpa [VG] using hi
  exact this
noncomputable def kZ (f:jg):wV:=λρ=>(f ρ).bind λp=>match p.1 with
 | .int j=>if -(2 ^ 62)<=j/\j < 2 ^ 62 then .ok (VG 0 j.toNat,p.2) else .bad
 | _=>.bad
theorem zK {p:Pos} (hg:Gl X "range") (b:X.mg "range"=iH) (h:PE X e (tE C own m f)) (hs:starEach [e] X.env=[(iJ,eval e X.env)]:=by exact qI rfl):PI X tg (.Call (.Name "range" p) [e] [] pos) (tIt C own (kZ f)):=by
 refine qb3 (Gh hg b (qN h jG hs) hs) λσ H R ⟨F,ρ,r,h⟩=>⟨F,ρ,r,PoI.bindV h λv F1 H1 d ρ1 a k c h1=>?_⟩
 cases d with
 | int j=>
  obtain rfl:=c.top.int;have h1:PoI C own σ F H (if -(2 ^ 62)<=j/\j < 2 ^ 62 then .ok (VG 0 j.toNat,ρ1) else .bad) R:=h1;by_cases z:-(2 ^ 62)<=j/\j < 2 ^ 62;·rw [if_pos z] at h1;exact ⟨j,rfl,z.1,z.2,h1 _ F1 H1 a k qgM⟩
  ·rw [if_neg z] at h1; exact h1.elim
 | _=>exact h1.elim
def tGd (C:Ct) (own:List Nat) (g:D->Sl->Out Sl):TG:=λv σ H Q=>∃ F ρ d,Rep C.K own F H σ ρ/\Is C.K F v d/\∃ ρ',g d ρ=.ok ρ'/\∀ σ',Rep C.K own F H σ' ρ'->(∀ b,OA own σ' b->OA own σ b)->(∀ i∈C.io,σ'[i]?=σ[i]?)->Q σ' H
def qh7 (C:Ct) (own:List Nat) (g:List D->Sl->Out Sl):TGs:=λvs σ H Q=>∃ F ρ ds,Rep C.K own F H σ ρ/\IsL C.K F vs ds/\∃ ρ',g ds ρ=.ok ρ'/\∀ σ',Rep C.K own F H σ' ρ'->(∀ b,OA own σ' b->OA own σ b)->(∀ i∈C.io,σ'[i]?=σ[i]?)->Q σ' H
theorem qgN {t t':TG} (h:PG X e t) (i:∀ v σ H Q,t' v σ H Q->t v σ H Q):PG X e t':=⟨λpins s σ H v u Q I r hw=>h pins s σ H v u Q I r (i v σ H Q hw)⟩
theorem qdi {t t':TGs} (h:PGs X es t) (i:∀ v σ H Q,t' v σ H Q->t v σ H Q):PGs X es t':=⟨λpins s σ H v u Q I r hw=>h pins s σ H v u Q I r (i v σ H Q hw)⟩
noncomputable def gNm (i:Nat):D->Sl->Out Sl:=λd ρ=>if i < ρ.length then .ok (ρ.set i (iF d)) else .bad
theorem JF {own:List Nat} (h:i∉own):wC own [i]=own:=by unfold wC;rw [List.filter_eq_self];intro j D;simp only [aE,decide_eq_true_eq];exact λz=>h (by rw [<-z]; exact D)
theorem YM (c:X.N.Nodup) (hi:X.N[i]?=iF x) (hx:Loc X.env.scope x) (l:i∉own:=by decide) (o:i∉C.io:=by exact xT rfl) (h:X.fn x=iK\/X.env.scope.names.lookup x=iF .local:=by first | exact .inl rfl | exact .inr rfl):PG X (.Name x pos) (tGd C own (gNm i)):=by
 refine qgN (qdZ c hi hx h) λv σ H Q ⟨F,ρ,d,a,is,ρ',e,k⟩=>?_;unfold gNm at e;by_cases z:i < ρ.length
 ·rw [if_pos z] at e;cases e;have r2:=a.put z is;rw [JF l] at r2;refine k _ r2 (λb q=>?_) λj D=>am λq=>o (by rw [q]; exact D);have g:OA (wC own [i]) (σ.set i (iF v)) b:=by rw [JF l]; exact q
  exact g.put
 ·rw [if_neg z] at e; cases e
noncomputable def xi:List D->Sl->Out Sl
 | [],ρ=>.ok ρ
 | _::_,_=>.bad
noncomputable def jr (g:D->Sl->Out Sl) (gs:List D->Sl->Out Sl):List D->Sl->Out Sl
 | d::ds,ρ=>(g d ρ).bind λρ1=>gs ds ρ1
 | [],_=>.bad
theorem Ko:PGs X [] (qh7 C own xi):=by
 refine qdi qd0 λvs σ H Q ⟨F,ρ,ds,a,is,ρ',e,k⟩=>?_;cases is with
 | nil=>cases e; exact ⟨rfl,k σ a (λ_ z=>z) λ_ _=>rfl⟩
 | cons _ _=>cases e
theorem wP {g:D->Sl->Out Sl} (h1:PG X e (tGd C own g)) (h2:PGs X es (qh7 C own gs)) (hs:(assignEach (e::es) X.env).map (·.2)=assign e X.env::(assignEach es X.env).map (·.2):=by rfl):PGs X (e::es) (qh7 C own (jr g gs)):=by
 refine qdi (qbC h1 h2 hs) λvs σ H Q ⟨F,ρ,ds,p,is,ρ',e,k⟩=>?_;cases is with
 | nil=>cases e
 | @cons v d vs ds a t=>
  have e:(g d ρ).bind (λρ1=>gs ds ρ1)=.ok ρ':=e;cases q:g d ρ with
  | ok ρ1=>rw [q] at e;exact ⟨v,vs,rfl,F,ρ,d,p,a,ρ1,q,λσ1 h j m=>⟨F,ρ1,ds,h,t,ρ',e,λf r o l=>k f r (λb z=>j b (o b z)) λi hi=>(l i hi).trans (m i hi)⟩⟩
  | exc c=>rw [q] at e; cases e
  | bad=>rw [q] at e; cases e
noncomputable def xj (n:Nat) (gs:List D->Sl->Out Sl):D->Sl->Out Sl
 | .tup ds,ρ=>if ds.length=n then gs ds ρ else .bad
 | _,_=>.bad
theorem UC {k:Nat} (m:C.K=X.K) (f:X.calm=iK) (h:PGs X es (qh7 C own gs)) (b:(assignEach es X.env).length=n:=by rfl) (c:(assignEach es X.env).findIdx? (·.1)=none:=by rfl):PG X (.Tuple es k pos) (tGd C own (xj n gs)):=by
 refine qgN (qgb f h b c) λv σ H Q ⟨F,ρ,d,r,is,ρ',e,k⟩=>?_;cases is with
 | @tup a xs ds p t=>
  have e:(if ds.length=n then gs ds ρ else .bad)=.ok ρ':=e;by_cases z:ds.length=n;·rw [if_pos z] at e;exact ⟨a,xs,rfl,by rw [<-m]; exact jm r.sub p,by rw [t.length]; exact z,F,ρ,ds,r,t,ρ',e,k⟩
  ·rw [if_neg z] at e; cases e
 | _=>cases e
noncomputable def qku (fe:jg) (g:D->Sl->Out Sl):qR:=λρ=>(fe ρ).bind λp=>match g p.1 p.2 with
 | .ok ρ'=>.ok (.nx,ρ')
 | _=>.bad
noncomputable def vd (g:D->Sl->Out Sl) (fb:qR):List D->qR
 | [],ρ=>.ok (.nx,ρ)
 | d::ds,ρ=>(g d ρ).plain.bind λρ1=>(fb ρ1).bind λp=>match p.1 with
  | .nx=>vd g fb ds p.2
  | .ct=>vd g fb ds p.2
  | .bk=>.ok (.nx,p.2)
  | .rt v=>.ok (.rt v,p.2)
noncomputable def Uj (fi:wV) (g:D->Sl->Out Sl) (fb:qR):qR:=λρ=>(fi ρ).bind λp=>vd g fb p.1 p.2
theorem wD {body:List Stmt} {fi:wV} {g:D->Sl->Out Sl} {fb:qR} (hp:PassesOwn (model X.prog X.w) X.A X.env X.xe) (S:X.calm=iK) (hi:PI X tg iter (tIt C own fi)) (hg:PG X tg (tGd C own g))
  (T:PSs X body (tSt { C with ol:=own } own own fb)) (hs:∀ x,foldedSetIterable iter X.env x=pure x:=by intro _; rfl):PS X (.For tg iter body [] pos) (tSt C own own (Uj fi g fb)):=by
 refine Kl (qgd hp S hi hg T hs) λD σ H ⟨F,ρ,Q,h⟩=>⟨F,ρ,Q,?_⟩
 unfold Uj at h;cases K:fi ρ with
 | exc c=>rw [K] at h; exact h
 | bad=>rw [K] at h; exact h.elim
 | ok p=>
  rw [K] at h;obtain ⟨ds,ρ1⟩:=p;intro J F1 H1 E P it;have h:PoS C own own σ F H (vd g fb ds ρ1) D:=h;refine ⟨λi m σ' H'=>m=ds.length - i/\i<=ds.length/\∃ F' ρ',Nx C own own σ F H ρ' σ' F' H'/\Same F1 F'/\PoS C own own σ' F' H' (vd g fb (ds.drop i) ρ') D,⟨ds.length,by simp,be _,F1,ρ1,.ofE E P,Same.refl _,h.shift (.ofE E P)⟩,?_⟩;rintro i m σ' H' ⟨rfl,R,F',ρ',nx,gr,po⟩;by_cases t:i < ds.length
  ·have hd:ds.drop i=ds[i]::ds.drop (i+1):=List.drop_eq_getElem_cons t;rw [hd] at po;have po:PoS C own own σ' F' H' ((g ds[i] ρ').plain.bind λρ1=>(fb ρ1).bind λp=>match p.1 with | .nx=>vd g fb (ds.drop (i+1)) p.2 | .ct=>vd g fb (ds.drop (i+1)) p.2 | .bk=>.ok (.nx,p.2) | .rt v=>.ok (.rt v,p.2)) D:=po;refine .inr ⟨it.go i H' t (gr.trans nx.rep.sub),λr H2=>ds.length - (i+1)=ds.length - (i+1)/\i+1<=ds.length/\∃ F' ρ',Nx C own own σ F H ρ' r F' H2/\Same F1 F'/\PoS C own own r F' H2 (vd g fb (ds.drop (i+1)) ρ') D,λr H2 q=>⟨ds.length - (i+1),by omega,q⟩,λx H2 y=>?_⟩;obtain ⟨u,c2,s2,N⟩:=it.yld i F' H' x H2 ds[i] (by simp [t]) gr nx.rep.sub y;cases G:g ds[i] ρ' with
   | exc c=>rw [G] at po; exact po.elim
   | bad=>rw [G] at po; exact po.elim
   | ok ρ2=>
    rw [G] at po;refine ⟨u,ρ',ds[i],nx.rep.grow c2 s2,N,ρ2,G,λk B L O=>⟨u,ρ2,B,?_⟩⟩;have M:Nx C own own σ' F' H' ρ2 k u H2:=⟨B,c2.ofNo,λb z=>.inl (L b z),O⟩
    have a:=PoS.shift (show PoS C own own σ' F' H' ((fb ρ2).bind λp=>match p.1 with | .nx=>vd g fb (ds.drop (i+1)) p.2 | .ct=>vd g fb (ds.drop (i+1)) p.2 | .bk=>.ok (.nx,p.2) | .rt v=>.ok (.rt v,p.2)) D from po) M;have up:∀ {j f l o},Nx { C with ol:=own } own own k u H2 j f l o->Nx C own own k u H2 j f l o:=λz=>⟨z.rep,z.chg,z.oa,z.io⟩
    cases I:fb ρ2 with
    | exc c=>rw [I] at a; exact a
    | bad=>rw [I] at a; exact a.elim
    | ok p=>
     rw [I] at a;obtain ⟨U,j⟩:=p;cases U with
     | nx=>exact λf l o n=>⟨rfl,t,l,j,(nx.then M).then (up n),(gr.trans c2.grow).trans n.chg.grow,PoS.shift (show PoS C own own k u H2 (vd g fb (ds.drop (i+1)) j) D from a) (up n)⟩
     | ct=>exact λf l o n=>⟨rfl,t,l,j,(nx.then M).then (up n),(gr.trans c2.grow).trans n.chg.grow,PoS.shift (show PoS C own own k u H2 (vd g fb (ds.drop (i+1)) j) D from a) (up n)⟩
     | bk=>exact λf l o n=>a f l o (up n)
     | rt d=>exact λv f l o s io c e mo=>a v f l o s io c e mo
  ·have e:i=ds.length:=by omega
   subst e;rw [List.drop_length] at po;exact .inl ⟨it.stop _ H' (aw _) (gr.trans nx.rep.sub),po σ' F' H' (.refl nx.rep)⟩
noncomputable def qP (ft:xU) (fb:qR):Nat->qR
 | 0,_=>.bad
 | n+1,ρ=>(ft ρ).bind λq=>if q.1=iK then (fb q.2).bind λp=>match p.1 with
  | .nx=>qP ft fb n p.2
  | .ct=>qP ft fb n p.2
  | .bk=>.ok (.nx,p.2)
  | .rt v=>.ok (.rt v,p.2)
  else .ok (.nx,q.2)
theorem za {t:Expr} {body:List Stmt} {ft:xU} {fb:qR} (n:Nat) (hp:PassesOwn (model X.prog X.w) X.A X.env X.xe) (ht:PT X t (tT C own ft)) (y:PSs X body (tSt { C with ol:=own } own own fb)):PS X (.While t body [] pos) (tSt C own own (qP ft fb n)):=by
 refine Kl (qbD hp ht y) λD σ H ⟨F,ρ,x,h⟩=>?_;refine ⟨λm σ' H'=>∃ F' ρ',Rep C.K own F' H' σ' ρ'/\PoS C own own σ' F' H' (qP ft fb m ρ') D,⟨n,F,ρ,x,h⟩,?_⟩;rintro m σ1 H1 ⟨F1,ρ1,l,po⟩;refine ⟨F1,ρ1,l,?_⟩;cases m with
 | zero=>exact po.elim
 | succ m=>
  have po:PoS C own own σ1 F1 H1 ((ft ρ1).bind λq=>if q.1=iK then (fb q.2).bind λp=>match p.1 with | .nx=>qP ft fb m p.2 | .ct=>qP ft fb m p.2 | .bk=>.ok (.nx,p.2) | .rt v=>.ok (.rt v,p.2) else .ok (.nx,q.2)) D:=po;refine PoS.bindT po λj H2 k ρ2 r c2 h2=>?_;cases k with
  | false=>exact h2 σ1 j H2 (.refl r)
  | true=>
   refine ⟨λg u=>∃ F' ρ',Rep C.K own F' u g ρ'/\PoS C own own g F' u (qP ft fb m ρ') D,λg u q=>⟨m,by omega,q⟩,j,ρ2,r,?_⟩;have h2:PoS C own own σ1 j H2 ((fb ρ2).bind λp=>match p.1 with | .nx=>qP ft fb m p.2 | .ct=>qP ft fb m p.2 | .bk=>.ok (.nx,p.2) | .rt v=>.ok (.rt v,p.2)) D:=h2;have up:∀ {a f J b},Nx { C with ol:=own } own own σ1 j H2 a f J b->Nx C own own σ1 j H2 a f J b:=λz=>⟨z.rep,z.chg,z.oa,z.io⟩
   cases o:fb ρ2 with
   | exc c=>rw [o] at h2; exact h2
   | bad=>rw [o] at h2; exact h2.elim
   | ok p=>
    rw [o] at h2;obtain ⟨B,a⟩:=p;cases B with
    | nx=>exact λf J b i=>⟨J,a,i.rep,PoS.shift (show PoS C own own σ1 j H2 (qP ft fb m a) D from h2) (up i)⟩
    | ct=>exact λf J b i=>⟨J,a,i.rep,PoS.shift (show PoS C own own σ1 j H2 (qP ft fb m a) D from h2) (up i)⟩
    | bk=>exact λf J b i=>h2 f J b (up i)
    | rt d=>exact λv f J b s io c e mo=>h2 v f J b s io c e mo
end
noncomputable def VH (cells:List (Str×Addr)):List (Str×k8)->List (Str×Addr)->List (Str×Addr)
 | [],acc=>acc
 | (n,k)::r,acc=>if (k == .free)=iK then VH cells r ((n,(cells.lookup n).getD 0)::acc) else VH cells r acc
variable {env:Env}
theorem yh:∀ (names:List (Str×k8)) (acc:List (Str×Addr)),(∀ x∈names,x.2=.free->∃ c,env.cells.lookup x.1=iF c) ->(forIn names acc λ(x:Str×k8) (cs:List (Str×Addr))=>if (x.2 == bv)=iK then (do let a <-cellOf env x.1; pure (cy ((x.1,a)::cs))) else pure (cy cs):Sem (List (Str×Addr)))=pure (VH env.cells names acc)
 | [],acc,_=>rfl
 | (n,k)::r,acc,h=>by
  rw [dW];by_cases q:(k == bv)=iK
  ·obtain ⟨c,d⟩:=h (n,k) aq (by simpa using q);have e:cellOf env n=pure c:=by unfold cellOf; rw [d]
   simp only [q,if_true,e];have j:=yh r ((n,c)::acc) (λx hx=>h x (af _ hx));simp only [VH,q,if_true,d,Option.getD_some];exact j
  ·simp only [q,if_false,VH];exact yh r acc (λx hx=>h x (af _ hx))
variable {scope:lh}
theorem JG (h:∀ x∈scope.names,x.2=.free->∃ c,env.cells.lookup x.1=iF c):closureFor scope env=pure (VH env.cells scope.names []):=by have:=yh scope.names [] h;unfold closureFor;simp only [bind_pure];exact this
variable {cells:List (Str×Addr)}
theorem xG:∀ {names:List (Str×k8)} {acc:List (Str×Addr)} {x:Str} {c:Addr},(∀ y∈names,y.2=.free->∃ c,cells.lookup y.1=iF c)->(VH cells names acc).lookup x=iF c->cells.lookup x=iF c\/acc.lookup x=iF c
 | [],acc,x,c,_,h=>.inr h
 | (n,k)::r,acc,x,c,hf,h=>by
  unfold VH at h;by_cases q:(k == bv)=iK
  ·rw [if_pos q] at h;obtain ⟨S,d⟩:=hf (n,k) aq (by simpa using q);rcases xG (λy B=>hf y (af _ B)) h with z | z;·exact .inl z
   ·rw [bG] at z;have d:cells.lookup n=iF S:=d;by_cases e:(x == n)=iK
    ·rw [e] at z;simp only [d,Option.getD_some] at z;have:x=n:=by simpa using e
     subst this;rw [d]; exact .inl z
    ·have e:(x == n)=false:=by simpa using e
     rw [e] at z;exact .inr z
  ·rw [if_neg q] at h;exact xG (λy B=>hf y (af _ B)) h
theorem Kp:∀ {names:List (Str×k8)} {acc:List (Str×Addr)} {x:Str},(∃ c,acc.lookup x=iF c)->∃ c,(VH cells names acc).lookup x=iF c
 | [],_,_,h=>h
 | (n,k)::r,acc,x,h=>by
  unfold VH;by_cases q:(k == bv)=iK
  ·rw [if_pos q];refine Kp ?_;obtain ⟨c,d⟩:=h;rw [bG];by_cases e:(x == n)=iK;·rw [e]; exact ⟨_,rfl⟩
   ·have e:(x == n)=false:=by simpa using e
    rw [e]; exact ⟨c,d⟩
  ·rw [if_neg q]; exact Kp h
theorem gU:∀ {names:List (Str×k8)} {acc:List (Str×Addr)} {x:Str},(x,bv)∈names->∃ c,(VH cells names acc).lookup x=iF c
 | (n,k)::r,acc,x,h=>by
  unfold VH;rcases ae.mp h with e | h
  ·cases e;rw [if_pos (by rfl)];refine Kp ?_;rw [bG,beq_self_eq_true];exact ⟨_,rfl⟩
  ·by_cases q:(k == bv)=iK;·rw [if_pos q]; exact gU h
   ·rw [if_neg q]; exact gU h
noncomputable def jA (X:Cx) (scope:lh) (N:List Str) (fp:List Addr) (L:Addr) (s:iL) (H:Hp):Cx:=
 { X with N:=N,s₀:=s,H₀:=H,env:=compEnvC scope (VH X.env.cells scope.names []) L X.env,outer:=X.stack,stack:=X.stack,ex:=fp,fn:=λ_=>iJ,pn:=[],xe:=λ_ _=>False }
structure ScOk (X:Cx) (scope:lh):Prop where
 kind:scope.kind=.function
 nocell:∀ y∈scope.names,y.2≠.cell
 names:∀ y∈scope.names,y.2=.local->scope.names.lookup y.1=iF .local
 free:∀ y∈scope.names,y.2=.free->X.env.kindOf y.1=iF .cell\/X.env.kindOf y.1=iF .free
 frl:∀ y∈scope.names,y.2=.free->scope.names.lookup y.1=iF .free
theorem yJ {a:α}:∀ {l:List (Str×α)},l.lookup x=iF a->(x,a)∈l
 | [],h=>by simp at h
 | (n,k)::r,h=>by
  rw [bG] at h;by_cases e:(x == n)=iK
  ·rw [e] at h;have h:iF k=iF a:=h;cases h;have:x=n:=by simpa using e
   subst this;exact aq
  ·have e:(x == n)=false:=by simpa using e
   rw [e] at h;exact af _ (yJ h)
theorem gi {k:k8} (h:(relabel scope env).names.lookup x=iF k) (b:k=.cell\/k=.free) (a:∀ y∈scope.names,y.2≠.cell):(x,bv)∈scope.names:=by
 have m:=yJ h;obtain ⟨⟨n,k'⟩,c,e⟩:=ax.mp m;dsimp only at e;by_cases q:(k' == bv&&env.scope.kind == .function&&env.kindOf n == iF .cell)=iK
 ·rw [if_pos q] at e;cases e;have:k'=.free:=by rw [aM,aM] at q;simpa using q.1.1
  subst this;exact c
 ·rw [if_neg q] at e;cases e;rcases b with rfl | rfl;·exact absurd rfl (a _ c)
  ·exact c
theorem Wh (h:Vis (relabel scope env) x):∃ k,(x,k)∈scope.names:=by
 have go:∀ {k:k8},(relabel scope env).names.lookup x=iF k->∃ k,(x,k)∈scope.names:=λ{k} h=>by
  obtain ⟨⟨n,k'⟩,c,e⟩:=ax.mp (yJ h);dsimp only at e;by_cases q:(k' == bv&&env.scope.kind == .function&&env.kindOf n == iF .cell)=iK;·rw [if_pos q] at e;cases e;exact ⟨_,c⟩
  ·rw [if_neg q] at e;cases e;exact ⟨_,c⟩
 rcases h with h | h | h <;> exact go h
variable {pins:Pns} {σc:St} {s s':iL} {fp:List Addr} {h':Heap}
section
theorem Qr (I:Inv X pins σ H s) (S:ScOk X scope):∀ y∈scope.names,y.2=.free->∃ c,X.env.cells.lookup y.1=iF c:=λy B e=>I.ok.has y.1 (S.free y B e)
theorem qb4 (I:Inv X pins σ H s) (S:ScOk X scope) (J:∀ b∈fp,Uh X pins H b) (T:∀ b∈fp,b < s.heap.objs.size) (C:h'.Ns s.heap.objs.size (λ_=>iH))
  (w:∀ b o,s.heap.get? b=iF o->h'.get? b=iF o) (hl:σc.length=N.length)
  (B:∀ (j:Nat) (x:Str) (v:V),N[j]?=iF x->σc[j]?=iF (iF v)->(∃ k,(x,k)∈scope.names)->∃ i:Nat,X.N[i]?=iF x/\σ[i]?=iF (iF v)/\Vis X.env.scope x/\(x,bv)∈scope.names) {t:Nat} :
  Inv (jA X scope N fp s.heap.objs.size s H) [] σc H { s with heap:=h',toks:=t }:=by
 have G:=Qr I S;have cl:∀ x c,(VH X.env.cells scope.names []).lookup x=iF c->X.env.cells.lookup x=iF c:=λx c e=>(xG G e).resolve_right (by simp);have A:∀ b∈fp,b∉frs X.stack:=λb g z=>by
  obtain ⟨f0,f1,f2,_⟩:=J b g;rcases ae.mp (I.stkSub b z) with e | e;·exact f1 e
  ·exact f2 e
 refine ⟨⟨I.ok.mod,?_,I.ok.glob,I.ok.blt,aw _,λx y c h1 h2=>I.ok.inj x y c (cl x c h1) (cl y c h2),λx hx=>?_,λx c h=>absurd h (by show ¬(iJ=iK); exact bD),I.ok.hd,I.ok.frames,.inl rfl,λb g=>⟨ay (T b g),λx c e z=>?_⟩,I.bs,bA I.ok.bsz I.sz,λb o e g=>?_,A,I.stack,I.stkFree⟩,rfl,I.bare,Un.kept w,⟨_,C,λj x v e1 l Q=>?_⟩,λx c e=>?_,I.hok.fresh (aw _),λx c e=>I.freeC x c (cl x c e),λp hp=>absurd (show p∈([]:Pns) from hp) (by simp),I.hok.kept w,hl⟩;·exact S.kind
 ·refine gU ?_;rcases hx with hx | hx;·exact gi hx (.inl rfl) S.nocell
  ·exact gi hx (.inr rfl) S.nocell
 ·exact (J b g).2.2.2.2.1 x c (cl x c e) z
 ·rcases (J b g).2.2.2.1 with z | z;·exact I.ok.noex b o e z
  ·have D:=ap e;exact absurd (aD D (bA I.ok.bsz z)) (bM _)
 ·obtain ⟨i,g1,Y,W,L⟩:=B j x v e1 l (Wh Q);obtain ⟨m,Z,E⟩:=I.loc;obtain ⟨u,r,look⟩:=E i x v g1 Y W;refine ⟨u,r,?_⟩;obtain ⟨M,f⟩:=gU (cells:=X.env.cells) (acc:=[]) L;have K:=cl x M f;have kd:(jA X scope N fp s.heap.objs.size s H).env.kindOf x=iF .cell\/(jA X scope N fp s.heap.objs.size s H).env.kindOf x=iF .free\/(jA X scope N fp s.heap.objs.size s H).env.kindOf x=iF .local:=by
   rcases Q with z | z | z;·exact .inr (.inr z)
   ·exact .inl z
   ·exact .inr (.inl z)
  rcases look with ⟨k,_⟩ | ⟨k,c,P,z⟩
  ·rcases S.free _ L rfl with q | q;·have q:X.env.kindOf x=iF .cell:=q;rw [k] at q; cases q
   ·have q:X.env.kindOf x=iF .free:=q;rw [k] at q; cases q
  ·rw [K] at P;cases P;obtain ⟨oc,d,a⟩:=z;rcases kd with q | q | q;·exact .inr ⟨.inl q,M,f,⟨oc,w _ _ d,a⟩⟩
   ·exact .inr ⟨.inr q,M,f,⟨oc,w _ _ d,a⟩⟩
   ·refine absurd q ?_;intro q;have R:=yJ (show (relabel scope X.env).names.lookup x=iF .local from q);obtain ⟨⟨n,k'⟩,U,e⟩:=ax.mp R;dsimp only at e;by_cases O:(k' == bv&&X.env.scope.kind == .function&&X.env.kindOf n == iF .cell)=iK;·rw [if_pos O] at e; cases e
    ·rw [if_neg O] at e;cases e;have e1:=S.names _ U rfl;have l:=S.frl _ L rfl;have e1:scope.names.lookup x=iF .local:=e1;have l:scope.names.lookup x=iF .free:=l;rw [e1] at l;cases l
 ·obtain ⟨v,oc,d,a⟩:=I.cell x c (cl x c e);exact ⟨v,oc,w _ _ d,a⟩
theorem qb5 {H1:Hp} {s1:iL} {L:Addr} (I:Inv X pins σ H s) (h:∀ b∈fp,Uh X pins H b) (J:Inv (jA X scope N fp s.heap.objs.size s H) [] σc H' s') (y:bj s.heap.objs.size s'.heap h'):Inv X pins σ H' { s' with heap:=h' }:=by
 have a:H' s.heap.objs.size=none:=J.free;have ne:∀ b o,s.heap.get? b=iF o->b≠s.heap.objs.size:=λb o e=>ay (ap e);have U:Un (frs X.stack) fp H H' s.heap s'.heap:=J.base;refine I.call' (s':={ s' with heap:=h' }) (ch:=fp) J.os ⟨λb o e n h1 h2=>(y.2 b (ne b o e)).trans (U.keep b o e n h1 h2),λb o e n h1 h2=>?_,U.free,λb o e h2=>?_,U.tups,U.frzs,U.tbls⟩ (λb u e=>?_) J.bare λb f=>?_;·obtain ⟨sl,q⟩:=U.slot b o e n h1 h2;exact ⟨sl,(y.2 b (ne b o e)).trans q⟩
 ·obtain ⟨o',q⟩:=U.there b o e h2;exact ⟨o',(y.2 b (ne b o e)).trans q⟩
 ·refine (J.hok b u e).stay (λc w d q=>(y.2 c ?_).trans q) (λ_ q=>q) λ_ _ q=>q;rintro rfl;rcases d with z | z;·rw [<-z,a] at e; cases e
  ·rw [a] at z; cases z
 ·obtain ⟨f0,f1,f2,i,f4,g⟩:=h b f;exact ⟨i,f1,f4,g⟩
end
theorem Kq {prog:iN} {w:iO} {A:iQ} {R:lF->iL->Prop} {s:iL} {elt target iter:Expr} {ifs:List Expr} {scope:lh} {pos:Pos} {it acc:iI} {env:Env} (I:Nat->iL->Prop)
  (turn:∀ n s,I n s->wpAny (model prog w) A (pyNext it) (λr d=>match r with
   | none=>R (.ok .next) d
   | some v=>wpAny (model prog w) A (letOwnedTupleGo target it v) (λ_ e=>wpAny (model prog w) A (assign target env v) (λ_ i=>
     wpAny (model prog w) A (forIn ifs iK λc r=>if r=iK then do let ok <-isTrue c env (eval c env); pure (cy ok) else pure (cy r)) (λok b=>
      if ok=iK then wpAny (model prog w) A (eval elt env) (λx g=>
       wpAny (model prog w) A (call (.builtin "list.append") [acc,x]) (λ_ f=>∃ m,m < n/\I m f) (λ_ _=>False) g) (λ_ _=>False) b
      else ∃ m,m < n/\I m b) (λ_ _=>False) i) (λ_ _=>False) e) (λ_ _=>False) d) (λ_ _=>False) s)
  (n:Nat) (h:I n s):codeAny (model prog w) A (.compLoop (.ListComp elt [⟨target,iter,ifs,0⟩] scope pos) 0 it acc env) R s:=by
 have no:∀ {α:Type} {t:Sem α} {Q u:α->iL->Prop} {E:iI->iL->Prop} {s:iL},wpAny (model prog w) A t Q (λ_ _=>False) s->(∀ a s,Q a s->u a s)->wpAny (model prog w) A t u E s:=λh k=>j4 h k λ_ _ z=>z.elim;refine codeAny_loop rfl I (λn s y=>?_) n h;show wpAny _ A ((compTurn (.ListComp elt [⟨target,iter,ifs,0⟩] scope pos) 0 it acc env).onRaise (λx=>do noteFrame x env; theTreesLotGoes x)) _ _ s;refine wpAny_noted ?_;rw [compTurn_list];refine iG (wpAny_standAt (iG (no (turn n s y) λr d h₁=>?_)));cases r with
 | none=>exact iM h₁
 | some v=>
  refine iG (no h₁ λ_ e l=>iG (no l λ_ i q=>iG (no q λok b j=>?_)));cases ok with
  | false=>exact iM ⟨rfl,j⟩
  | true=>exact iG (iG (no j λx g p=>iG (no p λ_ f o=>iM (iM ⟨rfl,o⟩))))
structure PTs (Y:Cx) (ifs:List Expr) (t:TT):Prop where
 run:∀ (pins:Pns) (s:iL) (σ:St) (H:Hp) (Q:Bool->Hp->Prop),Inv Y pins σ H s->t σ H Q ->wpAny (model Y.prog Y.w) Y.A (forIn ifs iK λc r=>if r=iK then do let ok <-isTrue c Y.env (eval c Y.env); pure (cy ok) else pure (cy r)) (TP Y pins σ Q) Y.xe s
instance {Y:Cx} {ifs:List Expr} {t:TT}:CoeFun (PTs Y ifs t) (λ_=>∀ (pins:Pns) (s:iL) (σ:St) (H:Hp) (Q:Bool->Hp->Prop),Inv Y pins σ H s->t σ H Q ->wpAny (model Y.prog Y.w) Y.A (forIn ifs iK λc r=>if r=iK then do let ok <-isTrue c Y.env (eval c Y.env); pure (cy ok) else pure (cy r)) (TP Y pins σ Q) Y.xe s):=⟨λh=>h.run⟩
variable {Y:Cx}
theorem qey:PTs Y [] (λ_ H Q=>Q iK H):=⟨λ_ _ _ H _ I h=>wpAny_tests_nil ⟨H,I,h⟩⟩
theorem Kr {t:TT} (h:PT Y c t):PTs Y [c] t:=⟨λpins s σ H Q I q=>wpAny_tests_one (h pins s σ H Q I q)⟩
variable {ifs:List Expr}
section
variable {it:Addr} {tn:Nat->Heap->Prop} {J:It} {elt:Expr} {g:TG} {tt:TT} {te:TE} {E:iI->iL->Prop}
theorem qb6 (I:Inv X pins σ H s) (P:X.calm=iK) (S:ScOk X scope) (T:Turn X.prog X.w X.K tg J fp it tn) (st0:tn 0 s.heap) (hf:∀ b∈fp,Uh X pins H b)
  (hg:∀ fp L s' H',PG (jA X scope N fp L s' H') tg g) (ht:∀ fp L s' H',PTs (jA X scope N fp L s' H') ifs tt) (he:∀ fp L s' H',PE (jA X scope N fp L s' H') elt te) (hl:σc.length=N.length)
  (hσ:∀ (j:Nat) (x:Str) (v:V),N[j]?=iF x->σc[j]?=iF (iF v)->(∃ k,(x,k)∈scope.names)->∃ i:Nat,X.N[i]?=iF x/\σ[i]?=iF (iF v)/\Vis X.env.scope x/\(x,bv)∈scope.names)
  (W:Addr->Nat->Nat->St->Hp->Prop) (Fin:Addr->Hp->Prop) (w0:∀ p,H p=iH->∃ m,W p 0 m σc (upd H p (.lst [])))
  (turn:∀ p i m σ1 H1,W p i m σ1 H1->(J.stop i H1/\Fin p H1)\/(J.go i H1/\∀ x H2,J.yld i H1 x H2->g x σ1 H2 λB H3=>tt B H3 λb H4=>if b=iK then te B H4 λy H5=>∃ xs,H5 p=iF (.lst xs)/\xs.length < sizeLine/\∃ f,f < m/\W p (i+1) f B (upd H5 p (.lst (xs++[y]))) else ∃ f,f < m/\W p (i+1) f B H4))
  (RR:iI->Addr->lF->iL->Prop)
  (hRR:∀ p L H' s',Fin p H'->(∃ m,s'.heap.Ns L m)->Uh X pins H' L->(∀ h',bj L s'.heap h'->Inv X pins σ H' { s' with heap:=h' })->RR (.ref p) L (.ok .next) s') :
  wpAny (model X.prog X.w) X.A (newList []) (λacc s₃=>wpAny (model X.prog X.w) X.A (newFunctionEnv scope X.env.globals (VH X.env.cells scope.names []) [] X.env.qual iH .none (iF X.env)) (λG F=>
   codeAny (model X.prog X.w) X.A (.compStart (.ListComp elt [⟨tg,iter,ifs,0⟩] scope pos) 0 (.ref it) acc { G with scope:=relabel scope X.env }) (RR acc G.locals) F) E s₃) E s:=by
 have hfo:∀ b∈fp,b < s.heap.objs.size:=λb h=>let ⟨o,e,_⟩:=T.obj 0 _ st0 b h; ap e;have C:=I.fresh;have I3:Inv X pins σ (upd H s.heap.objs.size (.lst [])) { s with heap:=s.heap.push { cls:=.type "list",data:=.seq ([]:List iI).toArray } }:=I.lnew (t':=s.toks) (ys:=[]) (its:=[]) .nil (be _);have O:∀ b∈fp,Uh X pins (upd H s.heap.objs.size (.lst [])) b:=λb h=>⟨by rw [qv (ay (hfo b h))]; exact (hf b h).1,(hf b h).2⟩
 have st3:tn 0 (s.heap.push { cls:=.type "list",data:=.seq ([]:List iI).toArray }):=T.keep 0 _ _ st0 λb h o e=>aa _ e;refine iU (wpAny_newFunctionEnv S.nocell (λy hy=>by simp at hy) (λh₁ c a=>?_) S.kind);dsimp only at c a ⊢;generalize hs3:({ s with heap:=s.heap.push { cls:=.type "list",data:=.seq ([]:List iI).toArray } }:iL)=s3 at I3;have e3:s3.heap=s.heap.push { cls:=.type "list",data:=.seq ([]:List iI).toArray }:=by rw [<-hs3]
 rw [<-e3] at c a st3 ⊢;have keep:∀ b o,s3.heap.get? b=iF o->h₁.get? b=iF o:=λb o e=>(a.2 b (ay (ap e))).trans (aa _ e);have ho3:∀ b∈fp,b < s3.heap.objs.size:=λb h=>by rw [e3,ba]; exact cw (hfo b h)
 have J1:Inv (jA X scope N fp s3.heap.objs.size s3 (upd H s.heap.objs.size (.lst []))) [] σc (upd H s.heap.objs.size (.lst [])) { s3 with heap:=h₁,toks:=s.toks+0 }:=
  qb4 I3 S O ho3 (by simpa using c) keep hl hσ
 have st4:tn 0 h₁:=T.keep 0 _ _ st3 λb h o e=>keep b o e;have loop:∀ s4:iL,s4={ s3 with heap:=h₁,toks:=s.toks+0 }->codeAny (model X.prog X.w) X.A (.compLoop (.ListComp elt [⟨tg,iter,ifs,0⟩] scope pos) 0 (.ref it) (.ref s.heap.objs.size) (compEnvC scope (VH X.env.cells scope.names []) s3.heap.objs.size X.env)) (RR (.ref s.heap.objs.size) s3.heap.objs.size) s4:=by
  rintro s4 rfl;generalize D:jA X scope N fp s3.heap.objs.size s3 (upd H s.heap.objs.size (.lst []))=Y at J1;have eP:Y.prog=X.prog:=by rw [<-D]; rfl
  have ew:Y.w=X.w:=by rw [<-D]; rfl
  have eA:Y.A=X.A:=by rw [<-D]; rfl
  have ee:Y.env=compEnvC scope (VH X.env.cells scope.names []) s3.heap.objs.size X.env:=by rw [<-D]; rfl
  have eK:Y.K=X.K:=by rw [<-D]; rfl
  have ec:Y.calm=true:=by rw [<-D]; exact P
  have ex:Y.xe=λ_ _=>False:=by rw [<-D]; rfl
  have hgY:PG Y tg g:=by rw [<-D]; exact hg fp _ _ _
  have htY:PTs Y ifs tt:=by rw [<-D]; exact ht fp _ _ _
  have heY:PE Y elt te:=by rw [<-D]; exact he fp _ _ _
  have t:∀ {H1:Hp},(∀ b∈fp,H1 b=iH)->∀ b∈fp,Uh Y [] H1 b:=λhn b h=>by have q:=J1.ok.exf b (by rw [<-D]; exact h);refine ⟨hn b h,q.1,J1.ok.exfs b (by rw [<-D]; exact h),.inl (by rw [<-D]; exact h),q.2,λp hp=>?_⟩;rw [<-D] at hp;exact absurd (show p∈([]:Pns) from hp) (by simp)
  obtain ⟨m0,hm0⟩:=w0 s.heap.objs.size C;refine Kq (λn s'=>∃ i σ1 H1,Inv Y [] σ1 H1 s'/\tn i s'.heap/\(∀ b∈fp,H1 b=iH)/\W s.heap.objs.size i n σ1 H1) ?_ m0 ⟨0,σc,_,J1,st4,λb h=>(O b h).1,hm0⟩;rintro n s5 ⟨i,σ1,H1,J5,st5,fr5,w5⟩;rw [<-eP,<-ew,<-eA,<-ee];have TY:Turn Y.prog Y.w Y.K tg J fp it tn:=by rw [eP,ew,eK]; exact T
  rcases turn _ i n σ1 H1 w5 with ⟨stop,fin⟩ | ⟨go,step⟩
  ·refine thn (TY.done Y rfl rfl rfl ec i [] s5 σ1 H1 _ J5 (t fr5) st5 stop) λr s6 ⟨hr,J6⟩=>?_;subst hr;have Q:Inv (jA X scope N fp s3.heap.objs.size s3 (upd H s.heap.objs.size (.lst []))) [] σ1 H1 s6:=by rw [D]; exact J6
   exact hRR _ _ H1 s6 fin (let ⟨m,hn,_⟩:=Q.loc; ⟨m,hn⟩) (I3.fpOk (aw _) Q.free) λh' sb=>qb5 (s1:=s6) (H1:=H1) (L:=0) I3 O Q sb
  ·refine thn (TY.item Y rfl rfl rfl ec i [] s5 σ1 H1 _ J5 (t fr5) st5 go) λr s6 ⟨u,hr,h6⟩=>?_;subst hr;refine thn h6 λ_ s7 ⟨x,H7,J7,r7,y7,M,fr7⟩=>?_;have J7':=J7.pinned (t fr7) (TY.obj _ _ M);have back:∀ {l:St} {Z:Hp} {R:iL},Inv Y ([]++VN fp s7.heap) l Z R->(∃ f,f < n/\W s.heap.objs.size (i+1) f l Z)->∃ m,m < n/\∃ i σ1 H1,Inv Y [] σ1 H1 R/\tn i R.heap/\(∀ b∈fp,H1 b=iH)/\W s.heap.objs.size i m σ1 H1:=λ{l Z R} U ⟨f,hm,w9⟩=>by refine ⟨f,hm,i+1,l,Z,U.unpinned,TY.keep _ _ _ M λb h o e=>(U.pin (b,o) (aV _ (aV _ (yG h e)))).1,λb h=>?_,w9⟩;obtain ⟨o,e,d⟩:=TY.obj _ _ M b h;exact (U.pin (b,o) (aV _ (aV _ (yG h e)))).2.1
   rw [<-ex];refine thn (hgY _ s7 σ1 H7 x u _ J7' r7 (step x H7 y7)) λ_ s8 ⟨z,H8,J8,q8⟩=>?_;refine thn (htY _ s8 z H8 _ J8 q8) λok R ⟨Z,U,q9⟩=>?_;cases ok with
   | false=>exact back U q9
   | true=>refine thn (heY _ R z Z _ U q9) λv s10 ⟨y,H10,J10,r10,xs,hx,hlen,q10⟩=>?_;exact thn (Ql _ s10 z H10 (.ref s.heap.objs.size) [y] (.ref s.heap.objs.size) [v] (λ_ H11=>∃ f,f < n/\W s.heap.objs.size (i+1) f z H11) J10 rfl (.cons r10 .nil) ⟨_,xs,y,rfl,rfl,hx,hlen,q10⟩) λ_ s11 ⟨_,H11,J11,_,q11⟩=>back J11 q11
 have e4:({ heap:=h₁,gens:=s.gens,drawn:=s.drawn,toks:=s.toks+([]:List (Str×iI)).length,os:=s.os }:iL)={ s3 with heap:=h₁,toks:=s.toks+0 }:=by rw [<-hs3]; rfl
 exact codeAny_compStart_list (loop _ e4) (T.self _ 0 _ _ _ st4 (loop _ e4))
end
noncomputable def vP (nt:Nat) (cap:List Nat) (ρ:List (Option α)):List (Option α):=bu nt iH++cap.map λk=>(ρ[k]?).getD iH
noncomputable def uV (own:List Nat):Nat->List Nat->List Nat
 | _,[]=>[]
 | n,k::cap=>if k∈own then n::uV own (n+1) cap else uV own (n+1) cap
noncomputable def ioC (nt len:Nat):List Nat:=(aK len).map (nt + ·)
noncomputable def km (own:List Nat) (ρc:Sl):Nat->List Nat->Sl->Sl
 | _,[],ρ=>ρ
 | n,k::cap,ρ=>if k∈own then km own ρc (n+1) cap (ρ.set k ((ρc[n]?).getD iH)) else km own ρc (n+1) cap ρ
variable {nt:Nat} {cap:List Nat}
theorem get_cap {ρ:List (Option α)} {d:α}:(vP nt cap ρ)[i]?=iF (iF d)↔∃ j k,i=nt+j/\cap[j]?=iF k/\ρ[k]?=iF (iF d):=by
 unfold vP;constructor
 ·intro h;by_cases hi:i < nt;·rw [ce (by simpa using hi),bR] at h;split at h <;> cases h
  ·rw [bW (by simpa using hi),dA,aG] at h;cases q:cap[i - nt]? with
   | none=>rw [q] at h; cases h
   | some k=>
    rw [q] at h;have h:(ρ[k]?).getD iH=iF d:=aN.inj h;refine ⟨i - nt,k,by omega,q,?_⟩;cases e:ρ[k]? with
    | none=>rw [e] at h; cases h
    | some o=>rw [e] at h; exact congrArg iF h
 ·rintro ⟨j,k,rfl,h1,h2⟩;rw [bW (by simp),dA,aG,show nt+j - nt=j by omega,h1];simp [h2]
theorem mem_ownC {own:List Nat}:∀ {n:Nat} {cap:List Nat} {i:Nat},i∈uV own n cap↔∃ j k,i=n+j/\cap[j]?=iF k/\k∈own
 | n,[],i=>by simp [uV]
 | n,k::cap,i=>by
  have a:=@mem_ownC own (n+1) cap i;unfold uV;by_cases h:k∈own
  ·rw [if_pos h,ae,a];constructor
   ·rintro (rfl | ⟨j,k',e,h1,h2⟩);·exact ⟨0,k,rfl,rfl,h⟩
    ·exact ⟨j+1,k',by omega,by simpa using h1,h2⟩
   ·rintro ⟨j,k',e,h1,h2⟩;cases j with
    | zero=>exact .inl (by omega)
    | succ j=>exact .inr ⟨j,k',by omega,by simpa using h1,h2⟩
  ·rw [if_neg h,a];constructor;·rintro ⟨j,k',e,h1,h2⟩;exact ⟨j+1,k',by omega,by simpa using h1,h2⟩
   ·rintro ⟨j,k',e,h1,h2⟩;cases j with
    | zero=>simp at h1; subst h1; exact absurd h2 h
    | succ j=>exact ⟨j,k',by omega,by simpa using h1,h2⟩
theorem mem_ioC {len:Nat}:i∈ioC nt len↔∃ j,j < len/\i=nt+j:=by
 unfold ioC;rw [ax];constructor;·rintro ⟨j,h1,h2⟩; exact ⟨j,bg.mp h1,h2.symm⟩
 ·rintro ⟨j,h1,h2⟩; exact ⟨j,bg.mpr h1,h2.symm⟩
variable {ρc:Sl}
theorem zL:∀ {n:Nat} {cap:List Nat} {ρ:Sl},(km own ρc n cap ρ).length=ρ.length
 | _,[],_=>rfl
 | n,k::cap,ρ=>by
  unfold km;by_cases h:k∈own;·rw [if_pos h,zL,fy]
  ·rw [if_neg h,zL]
theorem vy:∀ {n:Nat} {cap:List Nat} {ρ:Sl} {i:Nat},¬(i∈cap/\i∈own)->(km own ρc n cap ρ)[i]?=ρ[i]?
 | _,[],_,_,_=>rfl
 | n,k::cap,ρ,i,h=>by
  unfold km;have h':¬(i∈cap/\i∈own):=λz=>h ⟨af _ z.1,z.2⟩;by_cases a:k∈own;·rw [if_pos a,vy h',am (λe=>h ⟨ae.mpr (.inl e.symm),by rw [<-e]; exact a⟩)]
  ·rw [if_neg a,vy h']
theorem zb:∀ {n:Nat} {cap:List Nat} {ρ:Sl} {j k:Nat} {d:D},cap.Nodup->cap[j]?=iF k->k∈own->k < ρ.length->ρc[n+j]?=iF (iF d)->(km own ρc n cap ρ)[k]?=iF (iF d)
 | _,[],_,_,_,_,_,h,_,_,_=>by simp at h
 | n,k0::cap,ρ,0,k,d,nd,h,hk,hl,e=>by simp at h; subst h;obtain ⟨n1,n2⟩:=aR.mp nd;unfold km;rw [if_pos hk,vy (λz=>n1 z.1),aF hl];have e:ρc[n]?=iF (iF d):=e;rw [e]; rfl
 | n,k0::cap,ρ,j+1,k,d,nd,h,hk,hl,e=>by
  obtain ⟨n1,n2⟩:=aR.mp nd;have h:cap[j]?=iF k:=by simpa using h
  have e:ρc[n+1+j]?=iF (iF d):=by rw [show n+1+j=n+(j+1) by omega]; exact e
  unfold km;by_cases a:k0∈own;·rw [if_pos a]; exact zb n2 h hk (by rw [fy]; exact hl) e
  ·rw [if_neg a]; exact zb n2 h hk hl e
section
theorem UD {ρ:List (Option α)}:(vP nt cap ρ).length=nt+cap.length:=by simp [vP]
theorem GU {l:List Nat} (h:l.Nodup) {j k:Nat} (a:l[i]?=iF k) (b:l[j]?=iF k):i=j:=by obtain ⟨h1,e1⟩:=aC.mp a;obtain ⟨h2,e⟩:=aC.mp b;exact (fh h).mp (e1.trans e.symm)
theorem qez (r:Rep K own F H σ ρ) (nd:cap.Nodup):Rep K (uV own nt cap) F H (vP nt cap σ) (vP nt cap ρ) where
 sub:=r.sub
 len:=by rw [UD,UD]
 val:=λi d hi e=>by obtain ⟨j,k,rfl,h1,h2⟩:=get_cap.mp e;obtain ⟨v,g1,Y⟩:=r.val k d (λz=>hi (mem_ownC.mpr ⟨j,k,rfl,h1,z⟩)) h2;exact ⟨v,get_cap.mpr ⟨j,k,rfl,h1,g1⟩,Y⟩
 ow:=λi d hi e=>by
  obtain ⟨j,k,rfl,h1,h2⟩:=get_cap.mp e;obtain ⟨f,k',m,c,h⟩:=mem_ownC.mp hi;have:j=f:=by omega
  subst this;rw [h1] at c; cases c;obtain ⟨a,g1,Y⟩:=r.ow k d h h2;exact ⟨a,get_cap.mpr ⟨j,k,rfl,h1,g1⟩,Y⟩
 opn:=λi hi=>by obtain ⟨j,k,rfl,h1,h2⟩:=mem_ownC.mp hi;obtain ⟨d,e⟩:=r.opn k h2;exact ⟨d,get_cap.mpr ⟨j,k,rfl,h1,e⟩⟩
 dis:=λi u a hi g e m=>by
  obtain ⟨j,k,rfl,h1,h2⟩:=mem_ownC.mp hi;obtain ⟨f,k',rfl,c,h⟩:=mem_ownC.mp g;obtain ⟨x,y,t,l,o⟩:=get_cap.mp e;obtain ⟨n,s,p,q,b⟩:=get_cap.mp m;have:x=j:=by omega
  subst this;have:n=f:=by omega
  subst this;rw [h1] at l; cases l;rw [c] at q; cases q;have e:=r.dis k k' a h2 h o b;subst e;rw [GU nd h1 c]
theorem GV (o:∀ i∈ioC nt cap.length,σ1[i]?=(vP nt cap σ)[i]?) (h:OA (uV own nt cap) σ1 b):OA own σ b:=by
 obtain ⟨i,hi,e⟩:=h;obtain ⟨j,k,rfl,h1,h2⟩:=mem_ownC.mp hi;rw [o _ (mem_ioC.mpr ⟨j,(aC.mp h1).1,rfl⟩)] at e;obtain ⟨x,y,c,q,a⟩:=get_cap.mp e;have:x=j:=by omega
 subst this;rw [h1] at q; cases q;exact ⟨k,h2,a⟩
theorem GW (p:Rep K own F H σ ρ) (nd:cap.Nodup) (r:Rep K (uV own nt cap) F' H' σ1 ρ1) (g:∀ i∈ioC nt cap.length,σ1[i]?=(vP nt cap σ)[i]?) (c:Chg (OA (uV own nt cap) σ1) F H F' H'):Rep K own F' H' σ (km own ρ1 nt cap ρ) where
 sub:=r.sub
 len:=by rw [zL]; exact p.len
 val:=λi d hi e=>by rw [vy (λz=>hi z.2)] at e;obtain ⟨v,h1,h2⟩:=p.val i d hi e;exact ⟨v,h1,h2.mono c.grow⟩
 ow:=λi d hi e=>by
  by_cases q:i∈cap
  ·obtain ⟨j,D⟩:=List.getElem?_of_mem q;have m:nt+j∈uV own nt cap:=mem_ownC.mpr ⟨j,i,rfl,D,hi⟩;obtain ⟨d',h⟩:=r.opn _ m;obtain ⟨w,b⟩:=p.opn i hi;rw [zb nd D hi (aC.mp b).1 h] at e;cases e;obtain ⟨a,h1,h2⟩:=r.ow _ _ m h;rw [g _ (mem_ioC.mpr ⟨j,(aC.mp D).1,rfl⟩)] at h1;obtain ⟨x,y,t,f,l⟩:=get_cap.mp h1;have:x=j:=by omega
   subst this;rw [D] at f; cases f;exact ⟨a,l,h2⟩
  ·rw [vy (λz=>q z.1)] at e;obtain ⟨a,h1,h2,h3⟩:=p.ow i d hi e;have na:¬OA (uV own nt cap) σ1 a:=λz=>by
    obtain ⟨A,n,s⟩:=z;obtain ⟨j,k,rfl,g1,Y⟩:=mem_ownC.mp n;rw [g _ (mem_ioC.mpr ⟨j,(aC.mp g1).1,rfl⟩)] at s;obtain ⟨x,y,t,f,l⟩:=get_cap.mp s;have:x=j:=by omega
    subst this;rw [g1] at f; cases f;have e:=p.dis i k a hi Y h1 l;subst e;exact q (cT g1)
   refine ⟨a,h1,?_,h3.grow c.grow λo z=>c.keep a o z na⟩;cases O:F' a with
   | none=>rfl
   | some u=>
    rcases c.new a (by rw [O]; simp) with z | z | z;·exact absurd h2 z
    ·exact absurd z h3.there
    ·exact absurd z na
 opn:=λi hi=>by
  by_cases q:i∈cap;·obtain ⟨j,D⟩:=List.getElem?_of_mem q;have m:nt+j∈uV own nt cap:=mem_ownC.mpr ⟨j,i,rfl,D,hi⟩;obtain ⟨d',h⟩:=r.opn _ m;obtain ⟨w,b⟩:=p.opn i hi;exact ⟨d',zb nd D hi (aC.mp b).1 h⟩
  ·rw [vy (λz=>q z.1)];exact p.opn i hi
 dis:=p.dis
end
noncomputable def Zn (g:D->Sl->Out Sl) (ft:xU) (fe:jg) (d:D) (ρ:Sl):Out (Option D×Sl):=
 (g d ρ).plain.bind λρ1=>(ft ρ1).plain.bind λq=>if q.1=iK then (fe q.2).plain.bind λr=>.ok (iF r.1,r.2) else .ok (iH,q.2)
noncomputable def vD (g:D->Sl->Out Sl) (ft:xU) (fe:jg):List D->wV
 | [],ρ=>.ok ([],ρ)
 | d::ds,ρ=>(Zn g ft fe d ρ).bind λp=>(vD g ft fe ds p.2).bind λq=>.ok (p.1.toList++q.1,q.2)
noncomputable def jh (own:List Nat) (nt:Nat) (cap:List Nat) (fi:wV) (g:D->Sl->Out Sl) (ft:xU) (fe:jg):jg:=λρ=>(fi ρ).bind λp=>
 if p.1.length<=sizeLine then (vD g ft fe p.1 (vP nt cap p.2)).bind λq=>.ok (.lst q.1,km own q.2 nt cap p.2) else .bad
noncomputable def ctC (C:Ct) (nt len:Nat):Ct:=⟨C.K,C.cv,λ_ _ _=>False,ioC nt len,.sh,[],[],λ_ h=>absurd h (by simp)⟩
noncomputable def ftT:xU:=λρ=>.ok (iK,ρ)
theorem YN:PTs Y [] (tT C own ftT):=⟨λpins s σ H Q I ⟨F,ρ,a,h⟩=>qey pins s σ H Q I (h F H a .refl)⟩
structure CW (C:Ct) (own:List Nat) (nt:Nat) (cap:List Nat) (σ:St) (F H F0:Hp) (g:D->Sl->Out Sl) (ft:xU) (fe:jg) (ds ys:List D) (ρe:Sl) (p:Addr) (i:Nat) (σ1:St) (H1:Hp) (F1:Hp) (ρi:Sl) (accD:List D) (xs:List V) (rest:List D):Prop where
 rep:Rep C.K (uV own nt cap) F1 H1 σ1 ρi
 io:∀ i∈ioC nt cap.length,σ1[i]?=(vP nt cap σ)[i]?
 chg:Chg (OA (uV own nt cap) σ1) F H F1 H1
 gr:Same F0 F1
 at_:H1 p=iF (.lst xs)
 nF:F1 p=iH
 is:IsL C.K F1 xs accD
 le:accD.length<=i
 run:vD g ft fe (ds.drop i) ρi=.ok (rest,ρe)
 all:accD++rest=ys
variable {ρe:Sl}
theorem Zo {g:D->Sl->Out Sl} {ft:xU} {fe:jg} {rest:List D} (h:vD g ft fe (d::ds) ρ=.ok (rest,ρe)):∃ ρ1,g d ρ=.ok ρ1/\∃ b ρ2,ft ρ1=.ok (b,ρ2)/\((b=iK/\∃ y k r,fe ρ2=.ok (y,k)/\vD g ft fe ds k=.ok (r,ρe)/\rest=y::r)\/(b=iJ/\vD g ft fe ds ρ2=.ok (rest,ρe))):=by
 unfold vD Zn at h;cases a:g d ρ with
 | exc c=>rw [a] at h; cases h
 | bad=>rw [a] at h; cases h
 | ok ρ1=>
  rw [a] at h;refine ⟨ρ1,rfl,?_⟩;simp only [Out.plain,Out.og] at h;cases e:ft ρ1 with
  | exc c=>rw [e] at h; cases h
  | bad=>rw [e] at h; cases h
  | ok p=>
   obtain ⟨b,ρ2⟩:=p;rw [e] at h;refine ⟨b,ρ2,rfl,?_⟩;simp only [Out.plain,Out.og] at h;cases b with
   | true=>
    refine .inl ⟨rfl,?_⟩;simp only [if_true] at h;cases q:fe ρ2 with
    | exc c=>rw [q] at h; cases h
    | bad=>rw [q] at h; cases h
    | ok p=>
     obtain ⟨y,k⟩:=p;rw [q] at h;simp only [Out.plain,Out.og] at h;cases l:vD g ft fe ds k with
     | exc c=>rw [l] at h; cases h
     | bad=>rw [l] at h; cases h
     | ok p=>obtain ⟨r,A⟩:=p;rw [l] at h;simp only [Out.og] at h;cases h;exact ⟨y,k,r,rfl,l,rfl⟩
   | false=>
    refine .inr ⟨rfl,?_⟩;simp only [ci,if_false,Out.og] at h;cases l:vD g ft fe ds ρ2 with
    | exc c=>rw [l] at h; cases h
    | bad=>rw [l] at h; cases h
    | ok p=>obtain ⟨r,A⟩:=p;rw [l] at h;simp only [Out.og] at h;cases h;rfl
section
variable {elt:Expr} {fi:wV} {g:D->Sl->Out Sl} {ft:xU} {fe:jg} {me:Mo}
structure CapOk (X:Cx) (scope:lh) (N:List Str) (nt:Nat) (cap:List Nat):Prop where
 nd:cap.Nodup
 len:N.length=nt+cap.length
 at_:∀ (j k:Nat),cap[j]?=iF k->∃ x,N[nt+j]?=iF x/\X.N[k]?=iF x/\((Vis X.env.scope x/\(x,bv)∈scope.names)\/∀ k',(x,k')∉scope.names)
theorem Wi {F:Hp} {ρ1:Sl} {it:Addr} {fp:List Addr} {tn:Nat->Heap->Prop} {J:It} {E:iI->iL->Prop} {ds ys:List D} {ρe:Sl} (I:Inv X pins σ H s) (W:X.calm=iK) (S:ScOk X scope) (CO:CapOk X scope N nt cap)
  (T:Turn X.prog X.w X.K tg J fp it tn) (st0:tn 0 s.heap) (hf:∀ b∈fp,Uh X pins H b) (rp:Rep C.K own F H σ ρ1) (O:ItIs C.K F J ds) (hz:ds.length<=sizeLine)
  (hg:∀ fp L s' H',PG (jA X scope N fp L s' H') tg (tGd (ctC C nt cap.length) (uV own nt cap) g)) (ht:∀ fp L s' H',PTs (jA X scope N fp L s' H') ifs (tT (ctC C nt cap.length) (uV own nt cap) ft))
  (he:∀ fp L s' H',PE (jA X scope N fp L s' H') elt (tE (ctC C nt cap.length) (uV own nt cap) me fe)) (hme:me≠.any)
  (hrun:vD g ft fe ds (vP nt cap ρ1)=.ok (ys,ρe)) (RR:iI->Addr->lF->iL->Prop)
  (hRR:∀ p L s' F' H',H p=iH->Rep C.K own F' H' σ (km own ρe nt cap ρ1)->Chg (OA own σ) F H F' H'->F' p=iH->OwnIs C.K F' H' p (.lst ys)->(∃ m,s'.heap.Ns L m)->Uh X pins H' L->(∀ h',bj L s'.heap h'->Inv X pins σ H' { s' with heap:=h' })->RR (.ref p) L (.ok .next) s') :
  wpAny (model X.prog X.w) X.A (newList []) (λacc s₃=>wpAny (model X.prog X.w) X.A (newFunctionEnv scope X.env.globals (VH X.env.cells scope.names []) [] X.env.qual iH .none (iF X.env)) (λG s₄=>
   codeAny (model X.prog X.w) X.A (.compStart (.ListComp elt [⟨tg,iter,ifs,0⟩] scope pos) 0 (.ref it) acc { G with scope:=relabel scope X.env }) (RR acc G.locals) s₄) E s₃) E s:=by
 have oaH:∀ {σ1:St} {b:Addr},(∀ i∈ioC nt cap.length,σ1[i]?=(vP nt cap σ)[i]?)->OA (uV own nt cap) σ1 b->H b≠none:=λU z=>(rp.OA_there (GV U z)).1;refine qb6 (σc:=vP nt cap σ) I W S T st0 hf hg ht (λfp L s' H'=>xE (he fp L s' H') hme) (by rw [UD,CO.len]) (λj x v e1 e2 e3=>?_)
  (λp i m σ1 H1=>H p=iH/\m=ds.length - i/\i<=ds.length/\∃ F1 ρi accD xs rest,CW C own nt cap σ F H F g ft fe ds ys ρe p i σ1 H1 F1 ρi accD xs rest)
  (λp H1=>H p=iH/\∃ σ1 F1 xs,Rep C.K (uV own nt cap) F1 H1 σ1 ρe/\(∀ i∈ioC nt cap.length,σ1[i]?=(vP nt cap σ)[i]?)/\Chg (OA (uV own nt cap) σ1) F H F1 H1/\H1 p=iF (.lst xs)/\F1 p=iH/\IsL C.K F1 xs ys) (λp hp=>?_) ?_ RR ?_
 ·obtain ⟨j',k,rfl,h1,h2⟩:=get_cap.mp e2;obtain ⟨y,g1,g2,g3⟩:=CO.at_ j' k h1;rw [g1] at e1; cases e1;obtain ⟨k',hk'⟩:=e3;rcases g3 with ⟨g3,g4⟩ | g3;·exact ⟨k,g2,h2,g3,g4⟩
  ·exact absurd hk' (g3 k')
 ·obtain ⟨r1,c1,hF⟩:=GP (C:=C) (u:=.lst []) (qez (nt:=nt) rp CO.nd) hp;exact ⟨ds.length,hp,by simp,be _,F,vP nt cap ρ1,[],[],ys,r1,λ_ _=>rfl,c1.ofNo,Same.refl _,qt,hF,.nil,aw _,by simpa using hrun,rfl⟩
 ·rintro p i m σ1 H1 ⟨hp,rfl,hle,F1,ρi,accD,xs,rest,w⟩;by_cases t:i < ds.length
  ·have hd:ds.drop i=ds[i]::ds.drop (i+1):=List.drop_eq_getElem_cons t;have run:=w.run;rw [hd] at run;obtain ⟨ρa,ea,b,Z,eb,R⟩:=Zo run;have sub1:Same F H1:=w.gr.trans w.rep.sub;refine .inr ⟨O.go i H1 t sub1,λx H2 y=>?_⟩;obtain ⟨F2,c2,s2,is2⟩:=O.yld i F1 H1 x H2 ds[i] (by simp [t]) w.gr w.rep.sub y;have rp2:=w.rep.grow c2 s2;have M:∀ {Y:St},(∀ i∈ioC nt cap.length,Y[i]?=(vP nt cap σ)[i]?)->¬OA (uV own nt cap) Y p:=λU z=>oaH U z hp;have P:∀ {A:Addr->Prop} {Fa Ha Fb Hb:Hp} {zs:List V},Chg A Fa Ha Fb Hb->¬A p->Ha p=iF (.lst zs)->Fa p=iH->Hb p=iF (.lst zs)/\Fb p=none:=λ{A Fa Ha Fb Hb zs} c na e1 e2=>by
    refine ⟨c.keep p _ e1 na,?_⟩;cases q:Fb p with
    | none=>rfl
    | some u=>
     rcases c.new p (by rw [q]; simp) with z | z | z;·exact absurd e2 z
     ·rw [e1] at z; cases z
     ·exact absurd z na
   obtain ⟨at2,nF2⟩:=P c2 (λz=>z) w.at_ w.nF;refine ⟨F2,ρi,ds[i],rp2,is2,ρa,ea,λl rp3 oa3 io3=>?_⟩;have f:∀ i∈ioC nt cap.length,l[i]?=(vP nt cap σ)[i]?:=λi hi=>(io3 i hi).trans (w.io i hi);refine ⟨F2,ρa,rp3,?_⟩;rw [eb];intro F4 H4 rp4 c4;obtain ⟨at4,nF4⟩:=P c4 (M f) at2 nF2;have B:Chg (OA (uV own nt cap) l) F H F4 H4:=by
    have q1:Chg (OA own σ) F H F1 H1:=w.chg.mono λb z=>GV w.io z;have mv:∀ {b},OA (uV own nt cap) σ1 b->OA (uV own nt cap) l b:=λ{b} z=>by obtain ⟨i',hi',e'⟩:=z;obtain ⟨j,k,rfl,g1,g2⟩:=mem_ownC.mp hi';have hm:nt+j∈ioC nt cap.length:=mem_ioC.mpr ⟨j,(aC.mp g1).1,rfl⟩;exact ⟨nt+j,hi',by rw [f _ hm,<-w.io _ hm]; exact e'⟩
    exact ((w.chg.mono λb z=>mv z).trans' c2.ofNo).trans' c4
   have gr4:Same F F4:=(w.gr.trans c2.grow).trans c4.grow;have Q:IsL C.K F4 xs accD:=(w.is.mono c2.grow).mono c4.grow;rcases R with ⟨rfl,y',ρc,r,ec,er,hr⟩ | ⟨rfl,er⟩
   ·rw [if_pos rfl];refine ⟨F4,Z,rp4,?_⟩;rw [ec];intro v F5 H5 h c5 mo5;obtain ⟨at5,nF5⟩:=P c5 (M f) at4 nF4;have hlen:xs.length=accD.length:=Q.length;refine ⟨xs,at5,by have:=w.le; omega,ds.length - (i+1),by omega,hp,rfl,t,F5,ρc,accD++[y'],xs++[v],r,?_⟩;have cp:Chg (λb=>b=p) F5 H5 F5 (upd H5 p (.lst (xs++[v]))):=⟨λb o e n=>by rw [qv n]; exact e,λb e=>by
     by_cases q:b=p;·rw [q,qt]; simp
     ·rw [qv q]; exact e,Same.refl _,λb e=>.inl e⟩
    have sb5:Same F5 (upd H5 p (.lst (xs++[v]))):=λb o e=>by rw [qv (qB e nF5)]; exact h.sub b o e
    have rp6:Rep C.K (uV own nt cap) F5 (upd H5 p (.lst (xs++[v]))) l ρc:=by
     refine ⟨sb5,h.len,h.val,λi d hi e=>?_,h.opn,h.dis⟩;obtain ⟨a,h1,h2,h3⟩:=h.ow i d hi e;have na:a≠p:=λz=>by subst z; exact M f ⟨i,hi,h1⟩
     exact ⟨a,h1,h2,h3.grow (Same.refl _) λo z=>by rw [qv na]; exact z⟩
    refine ⟨rp6,f,?_,(gr4.trans c5.grow),qt,nF5,(Q.mono c5.grow).append (.cons mo5 .nil),by simp only [ao,au,aY]; have:=w.le; omega,er,?_⟩;·exact (B.trans' c5).trans cp λb z=>.inr (by rw [z]; exact hp)
    ·rw [cW,<-w.all,hr]; rfl
   ·rw [if_neg bD];exact ⟨ds.length - (i+1),by omega,hp,rfl,t,F4,Z,accD,xs,rest,rp4,f,B,gr4,at4,nF4,Q,by have:=w.le; omega,er,w.all⟩
  ·have e:i=ds.length:=by omega
   subst e;have run:=w.run;rw [List.drop_length] at run;unfold vD at run;cases run;have ha:=w.all;rw [bp] at ha;subst ha;exact .inl ⟨O.stop _ H1 (aw _) (w.gr.trans w.rep.sub),hp,σ1,F1,xs,w.rep,w.io,w.chg,w.at_,w.nF,w.is⟩
 ·rintro p L H' s' ⟨hp,σ1,F1,xs,r1,io1,c1,e1,n1,is1⟩ hns hfp hinv;exact hRR p L s' F1 H' hp (GW rp CO.nd r1 io1 c1) (c1.mono λb z=>GV io1 z) n1 ⟨xs,e1,is1⟩ hns hfp hinv
theorem UE:∀ (ds:List D) (ρ:Sl) (c:Str) (o:Sl),vD g ft fe ds ρ≠.exc c o:=by
 intro ds
 induction ds with
 | nil=>intro ρ c o z; cases z
 | cons d ds j=>
  intro ρ c o z;unfold vD Zn at z;cases a:g d ρ with
  | exc c=>rw [a] at z; cases z
  | bad=>rw [a] at z; cases z
  | ok ρ1=>
   rw [a] at z;simp only [Out.plain,Out.og] at z;cases e:ft ρ1 with
   | exc c=>rw [e] at z; cases z
   | bad=>rw [e] at z; cases z
   | ok p=>
    rw [e] at z;simp only [Out.plain,Out.og] at z;by_cases h:p.1=iK
    ·rw [if_pos h] at z;cases q:fe p.2 with
     | exc c=>rw [q] at z; cases z
     | bad=>rw [q] at z; cases z
     | ok r=>
      rw [q] at z;simp only [Out.plain,Out.og] at z;cases l:vD g ft fe ds r.2 with
      | exc c=>exact j _ _ _ l
      | bad=>rw [l] at z; cases z
      | ok t=>rw [l] at z; cases z
    ·rw [if_neg h] at z;simp only [Out.og] at z;cases l:vD g ft fe ds p.2 with
     | exc c=>exact j _ _ _ l
     | bad=>rw [l] at z; cases z
     | ok t=>rw [l] at z; cases z
theorem Wj {α:Type} {Z:VU->Prop} (r:Rep C.K own F H σ ρ) (d:¬Z .bad) (hx:∀ c ρ',Z (.exc c ρ')->∀ F' H',Same F' H'->ZZ C.K C.ox F' H' σ ρ'->Chg (OA own σ) F H F' H'->C.E (C.cv c) iH H') (h:Z (jh own nt cap fi g ft fe ρ)):tIt C own fi σ H λJ H1=>∃ ds ρ1 ys ρe F1,ds.length<=sizeLine/\vD g ft fe ds (vP nt cap ρ1)=.ok (ys,ρe)/\Rep C.K own F1 H1 σ ρ1/\Chg (OA own σ) F H F1 H1/\ItIs C.K F1 J ds/\Z (.ok (.lst ys,km own ρe nt cap ρ1)):=by
 refine ⟨F,ρ,r,?_⟩;unfold jh at h;cases q:fi ρ with
 | exc c=>rw [q] at h; exact hx c _ h
 | bad=>rw [q] at h; exact (d h).elim
 | ok p=>
  obtain ⟨ds,ρ1⟩:=p;rw [q] at h;have h:Z (if ds.length<=sizeLine then (vD g ft fe ds (vP nt cap ρ1)).bind λq=>.ok (.lst q.1,km own q.2 nt cap ρ1) else .bad):=h;by_cases z:ds.length<=sizeLine
  ·rw [if_pos z] at h;cases e:vD g ft fe ds (vP nt cap ρ1) with
   | exc c=>exact absurd e (UE _ _ _ _)
   | bad=>rw [e] at h; exact (d h).elim
   | ok p=>obtain ⟨ys,ρe⟩:=p;rw [e] at h;exact λJ F1 H1 a k it=>⟨ds,ρ1,ys,ρe,F1,z,e,a,k,it,h⟩
  ·rw [if_neg z] at h; exact (d h).elim
theorem qeA (P:X.calm=iK) (S:ScOk X scope) (M:CapOk X scope N nt cap) (hi:PI X tg iter (tIt C own fi))
  (hg:∀ fp L s' H',PG (jA X scope N fp L s' H') tg (tGd (ctC C nt cap.length) (uV own nt cap) g)) (ht:∀ fp L s' H',PTs (jA X scope N fp L s' H') ifs (tT (ctC C nt cap.length) (uV own nt cap) ft))
  (D:∀ fp L s' H',PE (jA X scope N fp L s' H') elt (tE (ctC C nt cap.length) (uV own nt cap) me fe)) (i:me≠.any:=by decide) (hs:∀ x,foldedSetIterable iter X.env x=pure x:=by intro _; rfl) :
  PE X (.ListComp elt [⟨tg,iter,ifs,0⟩] scope pos) (tE C own .fr (jh own nt cap fi g ft fe)):=by
 refine ⟨?_⟩;intro pins s σ H Q I ⟨F,ρ,j,h⟩;rw [eval_ListComp];have n:=Wj (α:=Unit) (Z:=λr=>Po C own .fr σ F H r Q) j (λz=>z) (λc _ z=>z) h;refine wpAny_comprehension_free (use:=iH) rfl hs (JG (Qr I S)) S.kind S.names (thn (hi pins s σ H _ I n) λU s1 h1=>thn h1 λl s2 h2=>?_);obtain ⟨it,fp,tn,J,H2,e,G,T,K,f2,ds,ρ1,ys,ρe,F1,hz,a,b,k,O,po⟩:=h2;subst e;refine Wi (RR:=λacc R=>compPost (model X.prog X.w) X.A X.xe iH (EP X pins σ Q) acc R) G P S M T K f2 b O hz hg ht D i a λp L s' F' H' hp d E nF o f B v=>?_;obtain ⟨m,t⟩:=f;refine ⟨m,t,λh' y=>⟨.ref p,H',v h' y,rfl,?_⟩⟩;refine po (.ref p) F' H' d (k.trans' E) ⟨p,rfl,?_,nF,o⟩;cases q:H p with
 | none=>rfl
 | some u=>exact absurd hp (k.stay p (by rw [q]; simp))
theorem qb7 {pos' spos:Pos} (hN:X.N.Nodup) (V:X.N[i]?=iF x) (hx:Loc X.env.scope x) (P:X.calm=iK) (S:ScOk X scope) (CO:CapOk X scope N nt cap) (hi:PI X tg iter (tIt C own fi))
  (hg:∀ fp L s' H',PG (jA X scope N fp L s' H') tg (tGd (ctC C nt cap.length) (uV own nt cap) g)) (ht:∀ fp L s' H',PTs (jA X scope N fp L s' H') ifs (tT (ctC C nt cap.length) (uV own nt cap) ft))
  (he:∀ fp L s' H',PE (jA X scope N fp L s' H') elt (tE (ctC C nt cap.length) (uV own nt cap) me fe)) (M:me≠.any:=by decide) (W:i∉C.io:=by exact xT rfl)
  (E:swapsWith (.ListComp elt [⟨tg,iter,ifs,0⟩] scope pos) (iF (.Name x pos')) spos.line X.env=pure true:=by rfl) (hs:∀ x,foldedSetIterable iter X.env x=pure x:=by intro _; rfl)
  (Y:X.fn x=iK\/X.env.scope.names.lookup x=iF .local:=by first | exact .inl rfl | exact .inr rfl) :
  PS X (.Assign [.Name x pos'] (.ListComp elt [⟨tg,iter,ifs,0⟩] scope pos) spos) (tSt C own (i::wC own [i]) (jD i (jh own nt cap fi g ft fe))):=by
 refine ⟨?_⟩;intro pins s σ H D I ⟨F,ρ,rp,h⟩;rw [exec_Assign_Name_used _ _ _ _ E];refine iG (wpAny_standAt (iG ?_));show wpAny _ X.A (do let _ <-comprehension (.ListComp elt [⟨tg,iter,ifs,0⟩] scope pos) scope X.env _ (newList []) iJ (eval iter X.env) (iF (assign (.Name x pos') X.env))) _ _ s;have n:=Wj (α:=Unit) (Z:=λr=>PoS C own (i::wC own [i]) σ F H (r.bind λp=>if i < p.2.length then .ok (.nx,p.2.set i (iF p.1)) else .bad) D) rp (λz=>z) (λc _ z=>z) h;refine iG (j4 (wpAny_comprehension_free (use:=iF (assign (.Name x pos') X.env)) (Q:=λ_ s'=>SP X pins D .next s') rfl hs (JG (Qr I S)) S.kind S.names (thn (hi pins s σ H _ I n) λxv s1 h1=>thn h1 λitv s2 h2=>?_)) (λ_ s' hq=>iM (iM hq)) λ_ _ e=>e);obtain ⟨it,fp,tn,J,H2,e,I2,T,K,f2,ds,ρ1,ys,ρe,F1,hz,f,t,c1,O,po⟩:=h2;subst e;refine Wi (RR:=λacc C'=>compPost (model X.prog X.w) X.A X.xe (iF (assign (.Name x pos') X.env)) (λ_ s'=>SP X pins D .next s') acc C') I2 P S CO T K f2 t O hz hg ht he M f λp L s' F' H' hp d c' nF o G hfp k=>?_;obtain ⟨m,hn⟩:=G;have I3:Inv X pins σ H' s':=by simpa using k s'.heap (.refl ..)
 have hH:H p=none:=by
  cases q:H p with
  | none=>rfl
  | some u=>exact absurd hp (c1.stay p (by rw [q]; simp))
 show wpAny _ X.A (assign (.Name x pos') X.env (.ref p)) _ _ s';refine wpAny_assign_Name (VM I3 hN V hx (v:=.ref p) rfl (λs4 I4 ⟨a,l,ha⟩=>?_) Y);obtain ⟨f0,f1,f2',f3,f4,f5⟩:=hfp;have nL:L≠a:=by
  rcases ha with z | z;·rw [z]; exact f1
  ·exact λq=>f4 x a z q.symm
 refine ⟨m,hn.sameBut l nL,λh' sb=>?_⟩;have I5:Inv X pins (σ.set i (iF (.ref p))) H' { s4 with heap:=h' }:=by have:=I4.turned (h':=h') (t':=s4.toks) (it:=L) (λb o hb e=>(sb.2 b hb).trans e) f0 f1 f3 f4 f5;exact this
 refine ⟨_,H',I5,?_⟩;have po:PoS C own (i::wC own [i]) σ F H (if i < (km own ρe nt cap ρ1).length then .ok (.nx,(km own ρe nt cap ρ1).set i (iF (.lst ys))) else .bad) D:=po;by_cases z:i < (km own ρe nt cap ρ1).length
 ·rw [if_pos z] at po;refine po _ F' H' ⟨d.putO z nF (λy=>(rp.OA_there y).1 hH) o,c1.trans' c',λb y=>?_,λj U=>am λy=>W (by rw [y]; exact U)⟩;obtain ⟨j,U,e⟩:=y;by_cases B:j=i;·subst B;rw [aF (by rw [d.len]; exact z)] at e;cases e;exact .inr hH
  ·have R:=(jf j).mp ((ae.mp U).resolve_left B);rw [am (bf B)] at e;exact .inl ⟨j,R.1,e⟩
 ·rw [if_neg z] at po; exact po.elim
end
def Fly (h:Heap) (ex T:Addr) (cls:iI):Prop:=∃ o vs a ts,h.get? ex=iF o/\o.cls=cls/\o.data=.fields vs/\vs[1]?=iF (.ref T)/\T≠ex/\h.get? T=iF a/\a.data=.fields ts/\ts[3]?=iF .none
def CXk (P:iN) (w:iO):CXT:=λouter H s E e s'=>∃ ex T C H',e=.ref ex/\s'.os=s.os/\lw s'.gens/\Un (frs outer) [] H H' s.heap s'.heap/\HOk P w H' s'.heap/\Fly s'.heap ex T (.ref C)/\H' ex=iH/\H' T=iH/\s.heap.get? ex=iH/\s.heap.get? T=iH/\E (.ref C) iH H'
def InB (X:Cx) (H:Hp) (s:iL) (ex:Addr) (cls:iI):Prop:=H ex=iH/\X.s₀.heap.get? ex=iH /\
 ((∃ o vs,s.heap.get? ex=iF o/\o.cls=cls/\o.data=.fields vs/\vs[1]?=iF .none)\/∃ T,Fly s.heap ex T cls/\H T=iH/\X.s₀.heap.get? T=iH)
variable {ex:Addr} {T0:Option Addr} {h2:Heap}
section
variable {cls:iI}
theorem InB.dat (h:InB X H s ex cls):∃ o vs,s.heap.get? ex=iF o/\o.cls=cls/\o.data=.fields vs:=by
 rcases h.2.2 with ⟨o,vs,a,b,c,_⟩ | ⟨T,⟨o,vs,d,ts,a,b,c,_⟩,_⟩
 ·exact ⟨o,vs,a,b,c⟩
 ·exact ⟨o,vs,a,b,c⟩
noncomputable def zc (ex:Addr) (T:Option Addr) (X:Cx):List Addr:=ex::(T.toList++frs X.stack)
theorem zd (I:Inv X pins σ H s) (d:b∈frs X.stack):∃ o,s.heap.get? b=iF o/\∀ vs,o.data≠.fields vs:=(I.stack.mem d).2
theorem Wk (hs:X.stack=X.env::X.outer):∀ env∈X.stack,∀ b,env.frame=iF b->b∈frs X.stack:=λenv i b d=>fD.mpr ⟨env,i,d⟩
structure Gone (X:Cx) (H:Hp) (s:iL) (ex:Addr) (cls:iI) (h2:Heap):Prop where
 keep:∀ b o,s.heap.get? b=iF o->H b≠iH\/(X.s₀.heap.get? b≠iH/\b∉frs X.stack)->h2.get? b=iF o
 slot:∀ b o,s.heap.get? b=iF o->b∈frs X.stack->∃ sl,h2.get? b=iF { o with slots:=sl }
 ok:HOk X.prog X.w H h2
 un:Un (frs X.stack) [] H H s.heap h2\/True
theorem GX {h2:Heap} (I:Inv X pins σ H s) (hex:H ex=iH) (hT:∀ T,T0=iF T->H T=iH) (n1:X.s₀.heap.get? ex=iH) (n2:∀ T,T0=iF T->X.s₀.heap.get? T=iH)
  (st:(bi s.heap (zc ex T0 X)).StaysIn h2) (sl:∀ b o,s.heap.get? b=iF o->(∀ vs,o.data≠.fields vs)->∃ sl,h2.get? b=iF { o with slots:=sl }):Gone X H s ex cls h2:=by
 have keep:∀ b o,s.heap.get? b=iF o->b≠ex->(∀ T,T0=iF T->b≠T)->b∉frs X.stack->h2.get? b=iF o:=λb o e h1 h2 h3=>st b o (c6 _ e λm=>by
  rcases ae.mp m with q | m;·exact h1 q
  ·rcases aH.mp m with q | q;·exact h2 b (Option.mem_toList.mp q) rfl
   ·exact h3 q)
 have k1:∀ b o,s.heap.get? b=iF o->H b≠iH->h2.get? b=iF o:=λb o e n=>keep b o e (λq=>n (by rw [q]; exact hex)) (λT h q=>n (by rw [q]; exact hT T h)) λq=>n (I.stkFree b q);refine ⟨λb o e d=>?_,λb o e d=>?_,λb u e=>?_,.inr trivial⟩
 ·rcases d with d | ⟨d,hf⟩
  ·exact k1 b o e d
  ·exact keep b o e (λq=>d (by rw [q]; exact n1)) (λT h q=>d (by rw [q]; exact n2 T h)) hf
 ·obtain ⟨o',a,y⟩:=zd I d;rw [e] at a; cases a;exact sl b o e y
 ·refine (I.hok b u e).stay (λc v f q=>k1 c v q ?_) (λ_ q=>q) λ_ _ q=>q;rcases f with z | z;·rw [z,e]; simp
  ·rw [z]; simp
theorem Wl (I:Inv X pins σ H s) (hT:∀ T,T0=iF T->H T=iH) (n2:∀ T,T0=iF T->X.s₀.heap.get? T=iH) (g:Gone X H s ex cls h2) (h:X.ex=[])
  (tr:h2.Traced (bi s.heap (zc ex T0 X)) ex cls):∃ T,Fly h2 ex T cls/\H T=iH/\X.s₀.heap.get? T=none:=by
 obtain ⟨t,vs,T,w,ts,K,J,G,E,p,l,k,j,D⟩:=tr;have c:∀ o,s.heap.get? T=iF o->(∃ q,T0=iF q/\T=q):=λo e=>by
  have m:T∈zc ex T0 X:=by refine bH λA=>?_;rw [c6 _ e A] at p;cases p
  rcases ae.mp m with q | m;·exact absurd q l
  ·rcases aH.mp m with q | q;·exact ⟨T,Option.mem_toList.mp q,rfl⟩
   ·obtain ⟨o',d,x⟩:=zd I q;obtain ⟨sl,i⟩:=g.slot T o' d q;rw [k] at i;cases i;exact absurd j (x ts)
 refine ⟨T,⟨t,vs,w,ts,K,J,G,E,l,k,j,D⟩,?_,?_⟩
 ·cases q:H T with
  | none=>rfl
  | some u=>
   have B:=I.hok.lt q;obtain ⟨o,e⟩:∃ o,s.heap.get? T=iF o:=by
    have:=(I.hok T u q)
    have st:=this.stay (H':=H) (h':=s.heap) (λb v _ z=>z) (λ_ z=>z) λ_ _ z=>z;cases z:s.heap.get? T with
    | some o=>exact ⟨o,rfl⟩
    | none=>
     exfalso;cases u with
     | lst xs=>obtain ⟨_,_,_,_,e⟩:=st; rw [z] at e; cases e
     | tup xs=>obtain ⟨_,_,_,_,e,_⟩:=st; rw [z] at e; cases e
     | dK kvs=>obtain ⟨_,_,_,_,o,_,_,e,_⟩:=st; rw [z] at e; cases e
     | dT kvs=>obtain ⟨_,_,_,_,o,_,_,e,_⟩:=st; rw [z] at e; cases e
     | set S n=>obtain ⟨o,_,_,_,e,_⟩:=st; rw [z] at e; cases e
     | ins C dx fs=>obtain ⟨_,_,_,e,_⟩:=st; rw [z] at e; cases e
     | own y=>obtain ⟨_,e⟩:=st; rw [z] at e; cases e
     | xd fs=>obtain ⟨_,⟨_,_,_,e,_⟩,_⟩:=st; rw [z] at e; cases e
     | rng lo hi=>obtain ⟨_,_,_,e⟩:=st; rw [z] at e; cases e
     | frz L u=>obtain ⟨e,_⟩:=st; rw [z] at e; cases e
     | tbl ps=>have e:s.heap.get? T=iF _:=st; rw [z] at e; cases e
     | met f y=>have e:s.heap.get? T=iF _:=st; rw [z] at e; cases e
     | ext φ=>obtain ⟨_,⟨_,e⟩,_⟩:=st; rw [z] at e; cases e
   obtain ⟨r,a,rfl⟩:=c o e;rw [hT _ a] at q; cases q
 ·cases q:X.s₀.heap.get? T with
  | none=>rfl
  | some o=>obtain ⟨o',d⟩:=I.base.there T o q (by rw [h]; simp);obtain ⟨r,a,rfl⟩:=c o' d;rw [n2 _ a] at q; cases q
theorem Zp {E:iI->iL->Prop} {Q:Unit->iL->Prop} (I:Inv X pins σ H s) (h:X.stack=X.env::X.outer) (r:X.env.frame=iF X.env.locals) (a:X.ex=[]) (x:InB X H s ex cls)
  (k:∀ h2 T,Gone X H s ex cls h2->Fly h2 ex T cls->H T=iH->X.s₀.heap.get? T=iH->Q () { s with heap:=h2 }):wpAny (model X.prog X.w) X.A (leaving X.env (.ref ex)) Q E s:=by
 obtain ⟨hex,n1,hx⟩:=x;have F:X.A.frames=iF (X.env::X.outer):=by rw [I.ok.frames,h]
 have B:∀ as,(bi s.heap as).StaysIn s.heap:=λas b o e=>dY as e;have hl:∀ T0,s.heap.FunFrames (bi s.heap (zc ex T0 X)) (X.env::X.outer):=λT0=>by rw [<-h];exact PySem.W.funFrames_hide I.stack λenv y b C=>af _ (aV _ (Wk h env y b C))
 have u:∀ T0,(bi s.heap (zc ex T0 X)).get? ex=none:=λT0=>cS _ (ae.mpr (.inl rfl));rcases hx with ⟨p,vs,m,j,i,f⟩ | ⟨T,⟨p,vs,v,ts,m,j,i,f,K,J,G,D⟩,hT,n2⟩
 ·refine wpAny_leaving_first (base:=bi s.heap (zc ex iH X)) F (hl iH) r m (B _) (u iH) i f λh2 ⟨st,_,tr,sl⟩=>?_;have g:Gone X H s ex cls h2:=GX I hex (T0:=iH) (λ_ z=>nomatch z) n1 (λ_ z=>nomatch z) st sl;rw [j] at tr;obtain ⟨l,f1,f2,q⟩:=Wl I (T0:=iH) (λ_ z=>nomatch z) (λ_ z=>nomatch z) g a tr;exact k h2 l g f1 f2 q
 ·have d:∀ c,iF T=iF c->H c=none:=λc z=>by cases z; exact hT
  have n:∀ c,iF T=iF c->X.s₀.heap.get? c=none:=λc z=>by cases z; exact n2
  have t:s.heap.Traced (bi s.heap (zc ex (iF T) X)) ex cls:=⟨p,vs,T,v,ts,m,j,i,f,cS _ (af _ (cq _ (by simp))),K,J,G,D⟩
  refine wpAny_leaving_next (base:=bi s.heap (zc ex (iF T) X)) F (hl (iF T)) r t (B _) (u _) λh2 ⟨st,_,tr,sl⟩=>?_;have g:Gone X H s ex cls h2:=GX I hex d n1 n st sl;obtain ⟨l,f1,f2,q⟩:=Wl I d n g a tr;exact k h2 l g f1 f2 q
end
variable {A:iQ} {E:XK} {P:iN} {w:iO} {mg:Str->Option iI} {base h:Heap} {qual:Str} {cd:iI} {outer:List Env} {s0:iL}
section
abbrev cxk (P:iN) (w:iO) (K:Frag) (mg:Str->Option iI) (base:Heap) (N:List Str) (qual:Str) (scope:lh) (f:Addr) (cd:iI) (A:iQ) (outer:List Env) (s0:iL) (H0:Hp) (E:XK):Cx:=qea (CXk P w) P w K mg base N qual scope f cd A outer s0 H0 E
theorem qgO {C:Addr} (I:Inv (cxk P w K mg base N qual scope f cd A outer s0 H0 E) pins σ H s) (x:InB (cxk P w K mg base N qual scope f cd A outer s0 H0 E) H s ex (.ref C)) (k:E (.ref C) iH H):(cxk P w K mg base N qual scope f cd A outer s0 H0 E).xe (.ref ex) s:=by
 refine Zp I rfl rfl rfl x λh2 T g l hT j=>?_;have a:=I.base;have L:∀ b o,s0.heap.get? b=iF o->b≠(cxk P w K mg base N qual scope f cd A outer s0 H0 E).env.locals:=λb o e=>ay (aD (ap e) I.ok.above);have t:∀ b o,s0.heap.get? b=iF o->b∉frs outer->b∉frs (cxk P w K mg base N qual scope f cd A outer s0 H0 E).stack:=λb o e d z=>by
  rcases ae.mp (I.stkSub b z) with q | q;·exact L b o e q
  ·exact d q
 have i:∀ b,b∈frs outer->b∈frs (cxk P w K mg base N qual scope f cd A outer s0 H0 E).stack:=λb d=>by show b∈frs (_::outer);unfold frs;rw [cB];exact af _ d
 refine ⟨ex,T,C,H,rfl,I.os,I.bare,⟨λb o e n d hx=>?_,λb o e n d hx=>?_,a.free,λb o e hx=>?_,a.tups,a.frzs,a.tbls⟩,g.ok,l,x.1,hT,x.2.1,j,k⟩;·exact g.keep b o (a.keep b o e n d hx) (.inr ⟨by show s0.heap.get? b≠iH; rw [e]; simp,t b o e d⟩)
 ·obtain ⟨sl,q⟩:=a.slot b o e n d hx;obtain ⟨c,h⟩:=g.slot b _ q (i b d);exact ⟨c,h⟩
 ·obtain ⟨o',q⟩:=a.there b o e hx;by_cases d:b∈frs (cxk P w K mg base N qual scope f cd A outer s0 H0 E).stack;·obtain ⟨sl,h⟩:=g.slot b o' q d;exact ⟨_,h⟩
  ·exact ⟨o',g.keep b o' q (.inr ⟨by show s0.heap.get? b≠iH; rw [e]; simp,d⟩)⟩
theorem qeB {e:iI} (a:X.ex=[]) (I:Inv X pins σ H s) (h:CXk X.prog X.w X.stack H s E e s'):∃ ex C H',e=.ref ex/\Inv X pins σ H' s'/\InB X H' s' ex (.ref C)/\E (.ref C) iH H':=by
 obtain ⟨ex,T,C,H',rfl,os,bare,un,hok,l,e1,i,n1,n2,k⟩:=h;have old:∀ b,s.heap.get? b=iH->X.s₀.heap.get? b=none:=λb d=>by
  cases q:X.s₀.heap.get? b with
  | none=>rfl
  | some o=>obtain ⟨o',c⟩:=I.base.there b o q (by rw [a]; simp);rw [d] at c; cases c
 exact ⟨ex,C,H',rfl,I.call' (ch:=[]) os un hok bare (λb z=>absurd z (by simp)),⟨e1,old ex n1,.inr ⟨T,l,i,old T n2⟩⟩,k⟩
theorem gI:kl (CXk P w) (cxk P w K mg base N qual scope f cd A outer s0 H0 E) E:=λpins σ H s e s' I h=>by obtain ⟨ex,C,H',rfl,b,x,k⟩:=qeB rfl I h;exact qgO b x k
theorem qeC {C:Addr} {b:List iI} {d:String} (kin:K.In h) (c:mg x=iF (.ref C)) (q:dR K C b d=iK):OwnCls x C b d mg h:=by
 refine ⟨c,?_⟩;unfold dR at q;split at q
 case h_2=>cases q
 case h_1 dd cd sl lk=>
  split at q
  case h_2=>cases q
  case h_1 C' bm a0 a1 a2 a3 n a5 em es=>
   have g:=q;simp only [aM,beq_iff_eq,eG] at g;obtain ⟨⟨⟨⟨⟨e1,i⟩,l⟩,tl⟩,k⟩,t⟩:=g;obtain ⟨nm,bs,mro,ns,a,hd,sn,sub,ab,col,del⟩:=cd;dsimp only at em l k t;obtain ⟨s⟩:=sl;dsimp only at es;subst em l es e1 i;exact ⟨bm,ns,nm,a,bs,hd,sn,sub,ab,col,dd,a0,a1,a2,a3,a5,_,kin _ _ lk,.of_isNs (PySem.W.isNs_of_in kin k),PySem.W.nsMap_none_of_in kin k t,PySem.W.tail_of_in kin tl⟩
end
theorem qdj {T:Addr} (hok:HOk P w H h) (q:H T=iF u):∃ o,h.get? T=iF o:=by
 have st:=hok T u q;cases z:h.get? T with
 | some o=>exact ⟨o,rfl⟩
 | none=>
  exfalso;cases u with
  | lst xs=>obtain ⟨_,_,_,_,e⟩:=st; rw [z] at e; cases e
  | tup xs=>obtain ⟨_,_,_,_,e,_⟩:=st; rw [z] at e; cases e
  | dK kvs=>obtain ⟨_,_,_,_,o,_,_,e,_⟩:=st; rw [z] at e; cases e
  | dT kvs=>obtain ⟨_,_,_,_,o,_,_,e,_⟩:=st; rw [z] at e; cases e
  | set S n=>obtain ⟨o,_,_,_,e,_⟩:=st; rw [z] at e; cases e
  | ins C dx fs=>obtain ⟨_,_,_,e,_⟩:=st; rw [z] at e; cases e
  | own y=>obtain ⟨_,e⟩:=st; rw [z] at e; cases e
  | xd fs=>obtain ⟨_,⟨_,_,_,e,_⟩,_⟩:=st; rw [z] at e; cases e
  | rng lo hi=>obtain ⟨_,_,_,e⟩:=st; rw [z] at e; cases e
  | frz b u=>obtain ⟨e,_⟩:=st; rw [z] at e; cases e
  | tbl ps=>have e:h.get? T=iF _:=st; rw [z] at e; cases e
  | met f y=>have e:h.get? T=iF _:=st; rw [z] at e; cases e
  | ext φ=>obtain ⟨_,⟨_,e⟩,_⟩:=st; rw [z] at e; cases e
abbrev bmV:List iI:=[.type "ValueError",.type "Exception",.type "BaseException",.type "object"]
noncomputable def jp (x:Str) (fr:wV):qR:=λρ=>(fr ρ).bind λp=>.exc x p.2
theorem PoS.bindA {as:List AK} {o:Out (List D×Sl)} {k:List D×Sl->Out (Fl×Sl)} {D:Ends} {R:List V->Hp->Prop} (hp:PoS C own own' σ F H (o.bind k) D)
  (h:∀ vs F1 H1 ds ρ1,Rep C.K own F1 H1 σ ρ1->Chg (OA own σ) F H F1 H1->ArgV C.K H F1 H1 σ as vs ds->PoS C own own' σ F1 H1 (k (ds,ρ1)) D->R vs H1):PoA C own as σ F H o R:=by
 cases o with
 | ok p=>obtain ⟨ds,ρ1⟩:=p;exact λvs F1 H1 a c v=>h vs F1 H1 ds ρ1 a c v (PoS.shift (show PoS C own own' σ F H (k (ds,ρ1)) D from hp) (.ofE a c))
 | exc x=>exact hp
 | bad=>exact hp.elim
def YO (X:Cx) (C:Ct):Prop:=∀ (pins:Pns) (σ:St) (H:Hp) (s:iL) (ex A:Addr),Inv X pins σ H s->InB X H s ex (.ref A)->C.E (.ref A) iH H->X.xe (.ref ex) s
theorem qgP:YO (cxk P w K mg base N qual scope f cd A outer s0 H0 C.E) C:=λpins σ H s ex A I x k=>qgO I x k
variable {Cc:Addr} {cpos:Pos}
section
variable {fr:wV} {np:Pos}
theorem ArgV.len:∀ {as:List AK} {vs:List V} {ds:List D},ArgV K H0 F H σ as vs ds->vs.length=as.length
 | [],[],[],_=>rfl
 | .vl::as,v::vs,d::ds,h=>congrArg (·+1) (ArgV.len h.2)
 | .sl i::as,v::vs,d::ds,h=>congrArg (·+1) (ArgV.len h.2.2)
 | .fr::as,v::vs,d::ds,h=>congrArg (·+1) (ArgV.len h.2)
 | [],_::_,_,h=>h.elim
 | [],[],_::_,h=>h.elim
 | .vl::_,[],_,h=>h.elim
 | .vl::_,_::_,[],h=>h.elim
 | .sl _::_,[],_,h=>h.elim
 | .sl _::_,_::_,[],h=>h.elim
 | .fr::_,[],_,h=>h.elim
 | .fr::_,_::_,[],h=>h.elim
theorem GY (d:X.ex=[]) (ht:YO X C) (P:X.calm=iK) (hg:Gl X x) (m:X.mg x=iF (.ref Cc)) (v:C.cv x=.ref Cc) (q:dR X.K Cc bmV "ValueError.__new__"=iK) (z:PA X (e::es) (tAr C own as fr)) (hsz:as.length<=1000:=by decide) (g:∀ i∈C.ox,i∈own:=by exact kz rfl) (hd:Dbg x:=by decide)
  (j:starEach (e::es) X.env=(iJ,eval e X.env)::starEach es X.env:=by exact jl rfl) (l:(backTo cpos (starEach es X.env)).any (·.1)=false:=by rfl) :
  PS X (.Raise (iF (.Call (.Name x np) (e::es) [] cpos)) iH pos) (tSt C own own' (jp x fr)):=by
 refine ⟨?_⟩;intro pins s σ H D I ⟨F,ρ,r,h⟩;obtain ⟨tl,N,nm,p,bs,hdct,sn,sub,ab,col,dd,k0,k1,k2,k3,k5,mN,hC,A,f,T⟩:=(qeC I.ok.mod.kin m q).obj;refine wpAny_Raise_call_subT (C:=Cc) (nm:=nm) (q:=p) (N:=N) (bs:=bs) (bm:=tl) (hdct:=hdct) (sn:=sn) (sub:=sub) (ab:=ab) (col:=col) (dd:=dd) (k0:=k0) (k1:=k1) (k2:=k2) (k3:=k3) (k5:=k5)
  PySem.F.excBase_ValueError (mN:=mN) (T.hasType PySem.F.excBase_ValueError.hasBase) (I.ok.hd P) (by rw [j]; show (iJ||(backTo cpos (starEach es X.env)).any (·.1))=iJ; rw [l]; rfl) f (zI I hg m ⟨rfl,?_⟩ hd)
 have n:tAr C own as fr σ H λvs H1=>vs.length<=sizeLine/\C.E (.ref Cc) iH H1:=by
  refine ⟨F,ρ,r,PoS.bindA h λvs F1 H1 ds ρ1 a L G h1=>⟨?_,?_⟩⟩;·rw [G.len]; exact bA hsz (by rw [iP]; decide)
  ·rw [<-v]; exact h1 F1 H1 a.sub (a.ioIs g) .refl
 have run:=z cpos pins s σ H _ I n;rw [j] at run ⊢;refine dH (j4 run (λus s2 ⟨vs,H2,c,r2,z2,B⟩=>?_) λ_ _ y=>y);refine ⟨rfl,by rw [<-r2.length]; exact z2,c.bk _ _ hC,A.keeps c.bk,T.keeps c.bk,λh' ex mk=>?_⟩;have J:Inv X pins σ H2 { s2 with heap:=h' }:=c.kept (t':=s2.toks) mk.keeps;obtain ⟨t,h1,h2,h3⟩:=mk.there;refine ht pins σ H2 _ ex Cc J ⟨?_,?_,.inl ⟨_,_,h1,rfl,rfl,rfl⟩⟩ B
 ·cases b:H2 ex with
  | none=>rfl
  | some u=>have w:=c.hok.lt b;refine absurd mk.new ?_;obtain ⟨o,e⟩:=qdj c.hok b;rw [e]; simp
 ·cases b:X.s₀.heap.get? ex with
  | none=>rfl
  | some o=>obtain ⟨o',k⟩:=c.base.there ex o b (by rw [d]; simp);rw [mk.new] at k; cases k
end
structure Caught (X:Cx) (pins:Pns) (H:Hp) (s:iL) (ex T Cc:Addr):Prop where
 fly:Fly s.heap ex T (.ref Cc)
 hex:H ex=iH
 hT:H T=iH
 n1:X.s₀.heap.get? ex=iH
 n2:X.s₀.heap.get? T=iH
 pp:∀ p∈X.pn++pins,p.1≠ex/\p.1≠T
variable {xe:iI->iL->Prop}
section
variable {T:Addr}
theorem Caught.dex (c:Caught X pins H s ex T Cc):∃ o vs,s.heap.get? ex=iF o/\o.data=.fields vs:=let ⟨o,vs,a,ts,m,k,z,_⟩:=c.fly; ⟨o,vs,m,z⟩
theorem Caught.dT (c:Caught X pins H s ex T Cc):∃ o vs,s.heap.get? T=iF o/\o.data=.fields vs:=let ⟨o,vs,a,ts,m,b,z,q,p,l,k,_⟩:=c.fly; ⟨a,ts,l,k⟩
theorem YQ {h2:Heap} (I:Inv X pins σ H s) (g:X.stack=X.env::X.outer) (j:X.env.frame=iF X.env.locals) (K:X.ex=[]) (c:Caught X pins H s ex T Cc)
  (keep:∀ b o,s.heap.get? b=iF o->b≠ex->b≠T->b∉frs X.stack->h2.get? b=iF o)
  (slot:∀ b o,s.heap.get? b=iF o->b∈frs X.stack->∃ sl,h2.get? b=iF { o with slots:=sl }):Inv X pins σ H { s with heap:=h2 }:=by
 obtain ⟨Z,ve,N,R⟩:=c.dex;obtain ⟨F,Y,hT,dT⟩:=c.dT;have G:∀ b o,s.heap.get? b=iF o->(∀ vs,o.data≠.fields vs)->b≠ex/\b≠T:=λb o e n=>by
  constructor;·rintro rfl; rw [N] at e; cases e; exact n _ R
  ·rintro rfl; rw [hT] at e; cases e; exact n _ dT
 have W:X.env.locals∈frs X.stack:=by rw [g]; unfold frs; rw [cB,j]; exact aq
 have L:∀ b o,X.s₀.heap.get? b=iF o->b≠X.env.locals:=λb o e=>ay (aD (ap e) I.ok.above);have w:∀ b o,X.s₀.heap.get? b=iF o->b∉X.fs->b∉frs X.stack:=λb o e h z=>by
  rcases ae.mp (I.stkSub b z) with q | q;·exact L b o e q
  ·exact h q
 have y:∀ b,b∈X.fs->b∈frs X.stack:=λb h=>by rw [g]; unfold frs; rw [cB,j]; exact af _ h
 have f:∀ b o,X.s₀.heap.get? b=iF o->b≠ex/\b≠T:=λb o e=>⟨(by rintro rfl; rw [c.n1] at e; cases e),(by rintro rfl; rw [c.n2] at e; cases e)⟩
 have A:∀ {a:Addr} {v:Option iI},s.heap.IsCell a v->h2.IsCell a v:=λ{a v} ⟨oc,e1,l⟩=>by
  have q:=G a oc e1 λvs z=>by rw [l] at z; cases z
  by_cases h:a∈frs X.stack;·obtain ⟨sl,z⟩:=slot a oc e1 h;exact ⟨_,z,l⟩
  ·exact ⟨oc,keep a oc e1 q.1 q.2 h,l⟩
 refine ⟨I.ok,I.os,I.bare,⟨λb o e n h hx=>?_,λb o e n h hx=>?_,I.base.free,λb o e hx=>?_,I.base.tups,I.base.frzs,I.base.tbls⟩,?_,λx a e=>?_,I.free,I.freeC,λp hp=>?_,λb u e=>?_,I.len⟩;·exact keep b o (I.base.keep b o e n h hx) (f b o e).1 (f b o e).2 (w b o e h)
 ·obtain ⟨sl,q⟩:=I.base.slot b o e n h hx;obtain ⟨t,E⟩:=slot b _ q (y b h);exact ⟨t,E⟩
 ·obtain ⟨o',q⟩:=I.base.there b o e hx;by_cases h:b∈frs X.stack;·obtain ⟨sl,z⟩:=slot b o' q h;exact ⟨_,z⟩
  ·exact ⟨o',keep b o' q (f b o e).1 (f b o e).2 h⟩
 ·obtain ⟨m,⟨o,es,ep,M,r⟩,hl⟩:=I.loc;obtain ⟨sl,P⟩:=slot _ o M W;refine ⟨m,⟨_,es,ep,P,r⟩,λi x v e1 l Q=>?_⟩;obtain ⟨u,D,J⟩:=hl i x v e1 l Q;refine ⟨u,D,?_⟩;rcases J with z | ⟨k,a,e,z⟩
  ·exact .inl z
  ·exact .inr ⟨k,a,e,A z⟩
 ·obtain ⟨v,z⟩:=I.cell x a e;exact ⟨v,A z⟩
 ·obtain ⟨V,U,C,B,S⟩:=I.pin p hp;refine ⟨keep p.1 p.2 V (c.pp p hp).1 (c.pp p hp).2 λz=>?_,U,C,B,S⟩;rcases ae.mp (I.stkSub p.1 z) with q | q;·exact C q
  ·exact B q
 ·refine (I.hok b u e).stay (λd v O q=>?_) (λ_ q=>q) λ_ _ q=>q;have hd:H d≠none:=by
   rcases O with z | z;·rw [z,e]; simp
   ·rw [z]; simp
  exact keep d v q (λz=>hd (by rw [z]; exact c.hex)) (λz=>hd (by rw [z]; exact c.hT)) λz=>hd (I.stkFree d z)
theorem JH {B:iI} (I:Inv X pins σ H s) (d:X.ex=[]) (c:Caught X pins H s ex T Cc) (slot:∀ b o,s.heap.get? b=iF o->b∈frs X.stack->∃ sl,h2.get? b=iF { o with slots:=sl })
  (tr:h2.TracedW (bi s.heap (zc ex (iF T) X)) ex (.ref Cc) B):∃ l,Caught X pins H { s with heap:=h2 } ex l Cc:=by
 obtain ⟨m,vs,l,r,ts,A,⟨z,_⟩,x,w,k,j,g,f,v⟩:=tr;have n:∀ o,s.heap.get? l=iF o->l=T:=λo e=>by
  have h:l∈zc ex (iF T) X:=by refine bH λt=>?_;rw [c6 _ e t] at k;cases k
  rcases ae.mp h with q | h;·exact absurd q j
  ·rcases aH.mp h with q | q;·simpa using q
   ·obtain ⟨o',a,y⟩:=zd I q;obtain ⟨sl,i⟩:=slot l o' a q;rw [g] at i;cases i;exact absurd f (y ts)
 refine ⟨l,⟨m,vs,r,ts,A,z,x,w,j,g,f,v⟩,c.hex,?_,c.n1,?_,λp hp=>⟨(c.pp p hp).1,?_⟩⟩
 ·cases q:H l with
  | none=>rfl
  | some u=>obtain ⟨o,e⟩:=qdj I.hok q;rw [n o e,c.hT] at q; cases q
 ·cases q:X.s₀.heap.get? l with
  | none=>rfl
  | some o=>obtain ⟨o',a⟩:=I.base.there l o q (by rw [d]; simp);rw [n o' a,c.n2] at q; cases q
 ·rintro rfl;exact (c.pp p hp).2 (n _ (I.pin p hp).1)
theorem JI (st:(bi s.heap (zc ex (iF T) X)).StaysIn h2):∀ b o,s.heap.get? b=iF o->b≠ex->b≠T->b∉frs X.stack->h2.get? b=iF o:=λb o e h1 h2 h3=>st b o (c6 _ e λc=>by
  rcases ae.mp c with q | c;·exact h1 q
  ·rcases aH.mp c with q | q;·exact h2 (by simpa using q)
   ·exact h3 q)
theorem Wm (c:Caught X pins H s ex T Cc):∃ B,s.heap.TracedW (bi s.heap (zc ex (iF T) X)) ex (.ref Cc) B:=by obtain ⟨o,vs,a,ts,m,b,z,q,p,l,k,j⟩:=c.fly;have hz:0 < vs.size:=fL (Array.getElem?_eq_some_iff.mp q).1;exact ⟨vs[0],o,vs,T,a,ts,m,⟨b,by simp [hz]⟩,z,q,cS _ (af _ (cq _ (by simp))),p,l,k,j⟩
theorem JJ (I:Inv X pins σ H s) (h:X.stack=X.env::X.outer):s.heap.FunFrames (bi s.heap (zc ex (iF T) X)) (X.env::X.outer):=by rw [<-h];exact PySem.W.funFrames_hide I.stack λenv i b d=>af _ (aV _ (Wk h env i b d))
theorem GZ {E:iI->iL->Prop} {Q:Unit->iL->Prop} (hA:A.frames=iF X.stack) (I:Inv X pins σ H s) (h:X.stack=X.env::X.outer) (r:X.env.frame=iF X.env.locals) (d:X.ex=[]) (c:Caught X pins H s ex T Cc)
  (k:∀ s' l,Inv X pins σ H s'->Caught X pins H s' ex l Cc->Q () s'):wpAny (model X.prog X.w) A (noteFrame (.ref ex) X.env) (λ_ s1=>wpAny (model X.prog X.w) A (setFlight (.ref ex) iH) Q E s1) E s:=by
 obtain ⟨B,tr⟩:=Wm c;refine wpAny_looks_onW (by rw [hA,h]) r ⟨λb o e=>dY _ e,cS _ (ae.mpr (.inl rfl)),JJ I h,tr⟩ λh1 a j=>?_;refine wpAny_landsW a λh2 g u=>?_;have slot:∀ b o,s.heap.get? b=iF o->b∈frs X.stack->∃ sl,h2.get? b=iF { o with slots:=sl }:=λb o e n=>by obtain ⟨o',i,y⟩:=zd I n;rw [e] at i; cases i;obtain ⟨sl,q⟩:=j b o e y;obtain ⟨f,m⟩:=u b _ q y;exact ⟨f,m⟩
 obtain ⟨l,S⟩:=JH I d c slot g.2.2.2;have p:Inv X pins σ H { s with heap:=h2 }:=YQ I h r d c (JI g.1) slot;exact k { s with heap:=h2 } l p S
theorem UF {A:iQ} {E:iI->iL->Prop} {Q:Unit->iL->Prop} (I:Inv X pins σ H s) (h:X.stack=X.env::X.outer) (r:X.env.frame=iF X.env.locals) (d:X.ex=[]) (c:Caught X pins H s ex T Cc)
  (k:∀ s' l,Inv X pins σ H s'->Caught X pins H s' ex l Cc->Q () s'):wpAny (model X.prog X.w) A (setFlight (.ref ex) iH) Q E s:=by
 obtain ⟨B,tr⟩:=Wm c;refine wpAny_setFlight_noneW (base:=bi s.heap (zc ex (iF T) X)) (λb o e=>dY _ e) (JJ I h) tr λh2 st _ t kp=>?_;have slot:∀ b o,s.heap.get? b=iF o->b∈frs X.stack->∃ sl,h2.get? b=iF { o with slots:=sl }:=λb o e f=>by obtain ⟨o',a,y⟩:=zd I f;rw [e] at a; cases a;exact ⟨o.slots,kp b o e y⟩
 obtain ⟨l,S⟩:=JH I d c slot t;exact k _ l (YQ I h r d c (JI st) slot) S
theorem qiX (I:Inv X pins σ H s) (c:Caught X pins H s ex T Cc):Inv X pins σ (upd H ex (Ux ex Cc)) s:=by
 obtain ⟨g,vs,B,ts,f,w,h,_⟩:=c.fly;have y:∀ b o,s.heap.get? b=iF o->(∀ vs,o.data≠.fields vs)->b≠ex:=λb o e n=>by rintro rfl; rw [f] at e; cases e; exact n _ h
 have up:∀ {b:Addr} {u:HO},H b=iF u->upd H ex (Ux ex Cc) b=iF u:=λ{b u} e=>by rw [qv (qB e c.hex)]; exact e
 refine ⟨I.ok,I.os,I.bare,⟨I.base.keep,I.base.slot,λb o e n hx=>?_,I.base.there,λb xs e=>up (I.base.tups b xs e),λb o u e=>up (I.base.frzs b o u e),λb ps e=>?_⟩,I.loc,I.cell,?_,λx a e=>?_,λp hp=>?_,λb u e=>?_,I.len⟩;·rw [qv (by rintro rfl; rw [c.n1] at e; cases e)]; exact I.base.free b o e n hx
 ·obtain ⟨more,z⟩:=I.base.tbls b ps e;exact ⟨more,up z⟩
 ·obtain ⟨m,⟨o,es,ep,l,hd,_⟩,_⟩:=I.loc;rw [qv (y _ o l λvs z=>by rw [hd] at z; cases z)]; exact I.free
 ·obtain ⟨v,oc,e1,i⟩:=I.cell x a e;rw [qv (y _ oc e1 λvs z=>by rw [i] at z; cases z)]; exact I.freeC x a e
 ·obtain ⟨A,t,r⟩:=I.pin p hp;refine ⟨A,?_,r⟩;rw [qv (c.pp p hp).1]; exact t
 ·by_cases q:b=ex;·subst q;rw [qt] at e; cases e;refine ⟨⟨g,vs,f,w,h⟩,⟨g,f⟩,λh1 h2 ⟨o1,j,e1,i,E⟩ k=>⟨o1,j,k _ e1,i,E⟩⟩
  ·rw [qv q] at e;exact (I.hok b u e).stay (λ_ _ _ z=>z) (λd z=>up z) λd xs z=>up z
def UG (X:Cx) (pn:Pns) (xe:iI->iL->Prop):Cx:={ X with pn:=pn,xe:=xe }
theorem qeD (I:Inv X pins σ H s):Inv (UG X (X.pn++pins) xe) [] σ H s:=
 ⟨⟨I.ok.mod,I.ok.kind,I.ok.glob,I.ok.blt,I.ok.above,I.ok.inj,I.ok.has,I.ok.cab,I.ok.hd,I.ok.frames,I.ok.stk,I.ok.exf,I.ok.bs,I.ok.bsz,I.ok.noex,I.ok.exfs,I.ok.funs,I.ok.frf⟩,I.os,I.bare,I.base,I.loc,I.cell,I.free,I.freeC,λp hp=>I.pin p (by simpa [UG] using hp),I.hok,I.len⟩
theorem yi {a:Pns} (I:Inv (UG X (X.pn++pins) xe) a σ H s):Inv X pins σ H s:=
 ⟨⟨I.ok.mod,I.ok.kind,I.ok.glob,I.ok.blt,I.ok.above,I.ok.inj,I.ok.has,I.ok.cab,I.ok.hd,I.ok.frames,I.ok.stk,I.ok.exf,I.ok.bs,I.ok.bsz,I.ok.noex,I.ok.exfs,I.ok.funs,I.ok.frf⟩,I.os,I.bare,I.base,I.loc,I.cell,I.free,I.freeC,λp hp=>I.pin p (cq _ hp),I.hok,I.len⟩
noncomputable def qh8 (X:Cx) (e:iI):Cx:={ X with A:=X.A.mark (iF e),calm:=iJ,xe:=λ_ _=>False }
theorem qdk {e:iI} (I:Inv X pins σ H s):Inv (qh8 X e) pins σ H s:=
 ⟨⟨I.ok.mod,I.ok.kind,I.ok.glob,I.ok.blt,I.ok.above,I.ok.inj,I.ok.has,I.ok.cab,λz=>absurd z (by show ¬(iJ=iK); exact bD),I.ok.frames,I.ok.stk,I.ok.exf,I.ok.bs,I.ok.bsz,I.ok.noex,I.ok.exfs,I.ok.funs,I.ok.frf⟩,I.os,I.bare,I.base,I.loc,I.cell,I.free,I.freeC,I.pin,I.hok,I.len⟩
theorem qeE {e:iI} (hok:X.Ok) (I:Inv (qh8 X e) pins σ H s):Inv X pins σ H s:=
 ⟨hok,I.os,I.bare,I.base,I.loc,I.cell,I.free,I.freeC,I.pin,I.hok,I.len⟩
theorem Zq {g:Str->Option iI} {t:Nat} (I:Inv X pins σ H s) (k:X.stack=X.env::X.outer) (r:X.env.frame=iF X.env.locals) (A:h'.Ns X.env.locals g) (y:bj X.env.locals s.heap h'):Inv X pins (σ.map λ_=>iH) H { s with heap:=h',toks:=t }:=by
 have L:∀ b o,X.s₀.heap.get? b=iF o->b≠X.env.locals:=λb o e=>ay (aD (ap e) I.ok.above);obtain ⟨m,⟨E,es,ep,W,h,_⟩,_⟩:=id I.loc;have w:∀ {a:Addr} {v:Option iI},s.heap.IsCell a v->a≠X.env.locals:=λ{a v} ⟨oc,e1,c⟩=>by rintro rfl; rw [W] at e1; cases e1; rw [h] at c; cases c
 refine ⟨I.ok,I.os,I.bare,⟨λb o e n f hx=>(y.2 b (L b o e)).trans (I.base.keep b o e n f hx),λb o e n f hx=>?_,I.base.free,λb o e hx=>?_,I.base.tups,I.base.frzs,I.base.tbls⟩,⟨g,A,λi x v e1 c=>?_⟩,λx a e=>?_,I.free,I.freeC,λp hp=>?_,λb u e=>?_,by simp [I.len]⟩;·obtain ⟨sl,q⟩:=I.base.slot b o e n f hx;exact ⟨sl,(y.2 b (L b o e)).trans q⟩
 ·obtain ⟨o',q⟩:=I.base.there b o e hx;exact ⟨o',(y.2 b (L b o e)).trans q⟩
 ·simp only [aG] at c;cases q:σ[i]? <;> rw [q] at c <;> cases c
 ·obtain ⟨v,z⟩:=I.cell x a e;exact ⟨v,z.sameBut y (w z)⟩
 ·obtain ⟨D,C,j,B⟩:=I.pin p hp;exact ⟨(y.2 p.1 j).trans D,C,j,B⟩
 ·refine (I.hok b u e).stay (λd v l q=>(y.2 d ?_).trans q) (λ_ q=>q) λ_ _ q=>q;rintro rfl;rcases l with z | z;·rw [<-z,I.free] at e; cases e
  ·rw [I.free] at z; cases z
end
def qiY (C:Ct) (own:List Nat) (E:XK):Ct:=⟨C.K,C.cv,E,own,C.mr,C.ol,own,λ_ h=>h⟩
noncomputable def exC (C:Ct):Ct:=⟨C.K,C.cv,λ_ _ _=>False,[],C.mr,[],[],λ_ h=>h⟩
noncomputable def qb8 (n:Nat) (j:Option Nat) (hit:Str->Option Addr) (fb fs:qR):qR:=λρ=>match fb ρ with
 | .exc c ρe=>match hit c with
  | some Cc=>match fs (match j with | some j=>(bu n iH).set j (iF (.xcp Cc)) | none=>bu n iH) with
   | .ok (.rt d,_)=>.ok (.rt d,ρe)
   | _=>.bad
  | none=>.bad
 | o=>o
def qiZ (C:Ct) (own:List Nat) (σ:St) (F H:Hp) (r:Out (Fl×Sl)):XK:=λcls _ H'=>∃ c ρe F',r=.exc c ρe/\cls=C.cv c/\Same F' H'/\ZZ C.K own F' H' σ ρe/\Chg (OA own σ) F H F' H'
def qi0 (X:Cx) (pins:Pns) (E:XK):iI->iL->Prop:=λe s'=>∃ σ ex T Cc H',e=.ref ex/\Inv X pins σ H' s'/\Caught X pins H' s' ex T Cc/\E (.ref Cc) iH H'
section
variable {fb fs:qR}
theorem Zr (d:X.ex=[]):kl (CXk X.prog X.w) (UG X (X.pn++pins) (qi0 X pins E)) E:=λa σ H s e s' I h=>by
 obtain ⟨ex,T,Cc,H',rfl,os,bare,un,hok,l,e1,i,n1,n2,k⟩:=h;have old:∀ b,s.heap.get? b=iH->X.s₀.heap.get? b=none:=λb f=>by
  cases q:X.s₀.heap.get? b with
  | none=>rfl
  | some o=>obtain ⟨o',c⟩:=I.base.there b o q (by show b∉X.ex; rw [d]; simp);rw [f] at c; cases c
 have g:Inv (UG X (X.pn++pins) (qi0 X pins E)) a σ H' s':=I.call' (ch:=[]) os un hok bare (λb z=>absurd z (by simp));refine ⟨σ,ex,T,Cc,H',rfl,yi g,⟨l,e1,i,old ex n1,old T n2,λp hp=>?_⟩,k⟩;have q:=(I.pin p (cq _ hp)).1;exact ⟨λz=>(by rw [z,n1] at q; cases q),λz=>(by rw [z,n2] at q; cases q)⟩
theorem Nx.untry {σ':St} {ρ':Sl} (g:∀ i∈C.io,i∈own) (n:Nx (qiY C own E) o1 o2 σ F H ρ' σ' F' H'):Nx C o1 o2 σ F H ρ' σ' F' H':=⟨n.rep,n.chg,n.oa,λi hi=>n.io i (g i hi)⟩
theorem qb9 {D:Ends} {j:Option Nat} {hit:Str->Option Addr} (g:∀ i∈C.io,i∈own) (r:Rep C.K own F H σ ρ) (h:PoS C own own' σ F H (qb8 n j hit fb fs ρ) D):tSt (qiY C own (qiZ C own σ F H (fb ρ))) own own' fb D σ H:=by
 refine ⟨F,ρ,r,?_⟩;unfold qb8 at h;cases q:fb ρ with
 | ok p=>
  rw [q] at h;obtain ⟨l,ρ'⟩:=p;cases l with
  | nx=>exact λσ' F' H' a=>h σ' F' H' (a.untry g)
  | rt d=>exact λv σ' F' H' s io c e mo=>h v σ' F' H' s (λi hi=>io i (g i hi)) c (λi hi=>e i (g i hi)) mo
  | bk=>exact λσ' F' H' a=>h σ' F' H' (a.untry g)
  | ct=>exact λσ' F' H' a=>h σ' F' H' (a.untry g)
 | exc c ρe=>exact λF' H' s io ch=>⟨c,ρe,F',rfl,rfl,s,io,ch⟩
 | bad=>rw [q] at h; exact h.elim
theorem qaa {t e:Hp} {Cc:Addr} {D:Ends} {d:D2.D} {v:V} {w:St} (g:∀ i∈C.io,i∈own) (h:PoS C own own' σ F H (.ok (.rt d,ρe)) D) (n:H1 ex=iH) (y:Same F1 H1) (io:ZZ C.K own F1 H1 σ ρe) (ch:Chg (OA own σ) F H F1 H1)
  (s3:Same t e) (G:Chg (OA [] w) (upd F1 ex (Ux ex Cc)) (upd H1 ex (Ux ex Cc)) t e) (mo:MoIs C.K C.mr (upd H1 ex (Ux ex Cc)) t e v d):D.rt v e:=by
 obtain ⟨s,c2⟩:=yg (u:=Ux ex Cc) y n;have no:∀ {b},OA [] w b->False:=λ⟨i,hi,_⟩=>by simp at hi
 have f:Chg No (upd F1 ex (Ux ex Cc)) (upd H1 ex (Ux ex Cc)) t e:=G.mono λx z=>no z;have c:Chg No F1 H1 t e:=c2.trans f λ_ z=>z.elim;refine h v σ t e s3 (λi hi=>?_) (ch.trans c λ_ z=>z.elim) (λ_ _=>rfl) (MoIs.back (Ha:=e) (ch.trans c2 λ_ z=>z.elim) mo);obtain ⟨d',a,e1,j,E,k⟩:=io i (g i hi);refine ⟨d',a,e1,j,?_,k.grow c.grow λo q=>c.keep a o q λz=>z⟩;cases q:t a with
 | none=>rfl
 | some u=>
  rcases c.new a (by rw [q]; simp) with z | z | z;·exact absurd E z
  ·exact absurd z k.there
  ·exact z.elim
theorem qeF {cn en:Str} {np J pos:Pos} {body b:List Stmt} {b0:Stmt} {cls:iI} {n j:Nat} {hit:Str->Option Addr} {own2:List Nat} (t:X.ex=[]) (k:X.stack=X.env::X.outer) (x:X.env.frame=iF X.env.locals)
  (hg:Gl X cn) (hm:X.mg cn=iF cls) (L:∀ c Cc,hit c=iF Cc->C.cv c=.ref Cc/\dI X.K (.ref Cc) cls=iF iK) (hN:X.N.Nodup) (hj:X.N[j]?=iF en) (hx:X.env.scope.names.lookup en=iF .local) (hn:X.N.length=n)
  (hb:∀ pn xe E,kl (CXk X.prog X.w) (UG X pn xe) E->PSs (UG X pn xe) body (tSt (qiY C own E) own own' fb)) (hs:∀ e,PSs (qh8 X e) (b0::b) (tSt (exC C) [] own2 fs)) (o:∀ i∈C.io,i∈own:=by exact kz rfl) (hd:Dbg cn:=by decide) :
  PS X (.Try body [.ExceptHandler (iF (.Name cn np)) (iF en) (b0::b) J] [] [] pos) (tSt C own own' (qb8 n (iF j) hit fb fs)):=by
 refine ⟨?_⟩;intro pins s σ H D I ⟨F,ρ,rp,h⟩;have run:=hb (X.pn++pins) (qi0 X pins (qiZ C own σ F H (fb ρ))) (qiZ C own σ F H (fb ρ)) (Zr t) [] s σ H D (qeD I) (qb9 o rp h);refine wpAny_Try_except (j4 run (λf s1 l=>?_) λe s1 he=>?_)
 ·cases f with
  | next=>obtain ⟨σ',H',y,q⟩:=l;exact Gf pins s1 σ' H' D (yi y) q
  | brk=>obtain ⟨σ',H',y,q⟩:=l; exact ⟨σ',H',yi y,q⟩
  | cont=>obtain ⟨σ',H',y,q⟩:=l; exact ⟨σ',H',yi y,q⟩
  | ret u=>obtain ⟨v,σ',H',y,r,q⟩:=l; exact ⟨v,σ',H',yi y,r,q⟩
 ·obtain ⟨σ1,ex,T,Cc,H1,rfl,I1,c1,c,ρe,F1,hr,O,A,Z,ch1⟩:=he;refine GZ I1.ok.frames I1 k x t c1 λs2 T2 I2 c2=>?_;unfold qb8 at h;rw [hr] at h;cases Y:hit c with
  | none=>simp only [Y] at h; exact h.elim
  | some Ch=>
   simp only [Y] at h;obtain ⟨hc1,hc2⟩:=L c Ch Y;rw [hc1] at O;obtain rfl:Cc=Ch:=by injection O
   refine wpAny_handleBy_cons (codeAny_handlers_test (zI (X:=qh8 X (.ref ex)) (qdk I2) hg hm ?_ hd)) (by intro q; cases q);obtain ⟨oe,vs,oT,ts,a1,a2,a3,_⟩:=id c2.fly;have LT:PySem.W.Looks (model X.prog X.w) s2.heap (typeOf (.ref ex)) (.ref Cc):=by rw [<-a2]; exact (PySem.W.Looks.ld a1).andThen .now
   refine (PySem.W.exm_one I2.kIn LT hc2) _ _ _ _ (λ_ _ z=>z) ?_;refine codeAny_handlers_suite_as (UF I2 k x t c2 λs3 T3 I3 c3=>?_);have I4:=qiX I3 c3;refine Kg I4 hN hj (.inl hx) (v:=.ref ex) rfl (λs5 I5=>?_) (.inr hx);have g:j < n:=by rw [<-hn]; exact (aC.mp hj).1
   have I6:Inv X pins ((bu n iH).set j (iF (.ref ex))) (upd H1 ex (Ux ex Cc)) s5:=I5.weak (by simp [I3.len,hn]) λi v e=>by
    by_cases B:i=j;·subst B;rw [aF (by simpa using g)] at e;rw [aF (by rw [I3.len,hn]; exact g)];exact e
    ·rw [am (bf B),bR] at e;split at e <;> cases e
   obtain ⟨Q,cc2⟩:=yg (u:=Ux ex Cc) A c1.hex;have S:Rep C.K [] (upd F1 ex (Ux ex Cc)) (upd H1 ex (Ux ex Cc)) ((bu n iH).set j (iF (V.ref ex))) ((bu n iH).set j (iF (.xcp Cc))):=by
    refine ⟨Q,by simp,λi d hi e=>?_,λi d hi=>by simp at hi,λi hi=>by simp at hi,λi j a hi=>by simp at hi⟩;by_cases B:i=j;·subst B;rw [aF (by simpa using g)] at e;cases e;exact ⟨.ref ex,by rw [aF (by simpa using g)],.xcp qt⟩
    ·rw [am (bf B),bR] at e;split at e <;> cases e
   have G:tSt (exC C) [] own2 fs { nx:=λ_ _=>False,rt:=D.rt } ((bu n iH).set j (iF (V.ref ex))) (upd H1 ex (Ux ex Cc)):=by
    refine ⟨_,_,S,?_⟩;cases U:fs ((bu n iH).set j (iF (.xcp Cc))) with
    | ok p=>
     obtain ⟨fl,ρ5⟩:=p;rw [U] at h;cases fl with
     | rt d=>exact λv σ' F3 H3 s3 io c3 e mo=>qaa (own':=own') (D:=D) (ex:=ex) (Cc:=Cc) o h c1.hex A Z ch1 s3 c3 mo
     | nx=>exact h.elim
     | bk=>exact h.elim
     | ct=>exact h.elim
    | exc _ _=>rw [U] at h; exact h.elim
    | bad=>rw [U] at h; exact h.elim
   refine j4 (hs (.ref ex) pins s5 _ _ _ (qdk I6) G) (λf s7 l=>?_) λ_ _ z=>z.elim;cases f with
   | next=>obtain ⟨_,_,_,q⟩:=l; exact q.elim
   | brk=>obtain ⟨_,_,_,q⟩:=l; exact q.elim
   | cont=>obtain ⟨_,_,_,q⟩:=l; exact q.elim
   | ret u=>obtain ⟨v,P,H7,I7,r7,q7⟩:=l;have M:Inv X pins P H7 s7:=qeE I.ok I7;obtain ⟨m,hns,_⟩:=id M.loc;refine wpAny_nameGoes hx hns (by rw [I.ok.kind]; rfl) λh' m' hn' R=>?_;exact ⟨v,_,H7,Zq M k x hn' R,r7,q7⟩
end
structure RoomQ (k:Nat) (A:iQ):Prop where
 dp:A.depth+3 * k+5 < recursionLimit
 un:A.units+16 * k+200 < cLine
theorem RoomQ.deeper {k:Nat} (r:RoomQ (k+1) A) (env:Env):RoomQ k (A.deeper env):=
 ⟨by have:=r.dp; show A.depth+1+3 * k+5 < _; omega,by have:=r.un; show A.units+3+16 * k+200 < _; omega⟩
theorem RoomQ.depth {k:Nat} (r:RoomQ k A):A.depth < recursionLimit:=by have:=r.dp; omega
theorem RoomQ.units {k:Nat} (r:RoomQ k A):A.units+64 < cLine:=by have:=r.un; omega
theorem _root_.L2.Room.quiet {k:Nat} (r:Room k A):RoomQ k A:=⟨r.dp,r.un⟩
theorem RoomQ.mark {k:Nat} (r:RoomQ k A) (e:Option iI):RoomQ k (A.mark e):=⟨r.dp,r.un⟩
structure FnQ (P:iN) (w:iO) (K:Frag) (mg:Str->Option iI) (base:Heap) (CX:CXT) (k:Nat) (f:Addr) (fd:k4) (ps:List Str) (sp:Sp):Prop where
 len:∀ vs H Q E,sp vs H Q E->vs.length=ps.length
 run:∀ (A:iQ) (outer:List Env) (s:iL) (H:Hp) (args:Args) (us:List iI) (vs:List V) (Q:VK) (E:XK),RoomQ k A->Env0 P w K mg base A outer s H->lJ s fd args (ps.zip us)->Vals vs us->sp vs H Q E ->codeAny (model P w) A (.call (.ref f) args) (CR CX outer P w H s Q E) s
def cxQ (CX:CXT) (P:iN) (w:iO) (K:Frag) (mg:Str->Option iI) (base:Heap) (N:List Str) (qual:Str) (scope:lh) (f:Addr) (cd:iI) (A:iQ) (outer:List Env) (s:iL) (H:Hp) (E:XK):Cx where
 prog:=P
 w:=w
 K:=K
 mg:=mg
 base:=base
 A:=A.deeper (envOfC qual scope s.heap.objs.size f cd)
 N:=N
 s₀:=s
 H₀:=H
 env:=envOfC qual scope s.heap.objs.size f cd
 outer:=outer
 stack:=envOfC qual scope s.heap.objs.size f cd::outer
 ex:=[]
 calm:=iJ
 fn:=λ_=>iK
 pn:=[]
 xe:=λe s'=>wpAny (model P w) (A.deeper (envOfC qual scope s.heap.objs.size f cd)) (leaving (envOfC qual scope s.heap.objs.size f cd) e) (λ_ a=>CX outer H s E e a) (λb a=>CX outer H s E b a) s'
theorem Zs {CX:CXT} {P:iN} {w:iO} {K:Frag} {mg:Str->Option iI} {base:Heap} {N ps:List Str} {qual:Str} {scope:lh} {f:Addr} {cd:iI} {A:iQ} {outer:List Env} {s s1:iL} {H:Hp} {E:XK} {us:List iI} {vs:List V}
  (S:FnScope N ps scope) (e0:Env0 P w K mg base A outer s H) (hl:vs.length=ps.length) (r:Vals vs us)
  (x:InCallC s s.heap.objs.size (bindL (envOfC qual scope s.heap.objs.size f cd).kindOf (ps.zip us) λ_=>iH) (cellsFrom (s.heap.objs.size+1) scope.names []) (bindC (envOfC qual scope s.heap.objs.size f cd).kindOf (ps.zip us) λ_=>iH) s1) :
  Inv (cxQ CX P w K mg base N qual scope f cd A outer s H E) [] (wA N vs) H s1:=by
 have o:ps.length<=N.length:=by have:=congrArg h8 S.pre; rw [bQ] at this; omega
 obtain ⟨h1,tk,rfl,l⟩:=x.done;have d:∀ b:Addr,b∉(cxQ CX P w K mg base N qual scope f cd A outer s H E).ex:=λb z=>absurd (show b∈([]:List Addr) from z) (by simp);refine ⟨⟨e0.mod,S.kind,rfl,rfl,aw _,λy z c h1 h2=>?_,λy B=>?_,λy c _ h=>?_,λz=>absurd z (by show ¬(iJ=iK); exact bD),Around.frames_deeper e0.frames,.inr ⟨rfl,rfl⟩,λb z=>absurd z (d b),e0.bs,e0.bsz,λb _ _=>d b,λb z=>absurd z (d b),e0.funs,e0.frf⟩,rfl,e0.bare,Un.kept l,⟨_,x.toInCall.ns,λi y v h1 h2 h3=>?_⟩,λy c h=>⟨_,x.cell y c h⟩,e0.hok.fresh (aw _),λy c h=>?_,λp hp=>absurd (show p∈([]:Pns) from hp) (by simp),e0.hok.kept l,?_⟩;·exact name_of_addr x.apart (bn h1) (bn h2)
 ·have B:scope.names.lookup y=iF .cell\/scope.names.lookup y=iF .free:=B;rcases B with B | B;·exact gQ B
  ·exact absurd rfl (S.nofree _ (bn B))
 ·exact cF (x.above y c (bn h))
 ·have hi:i < vs.length:=by
   unfold wA at h2;by_cases hi:i < vs.length;·exact hi
   ·rw [bW (by simpa using hi)] at h2;rw [bR] at h2;split at h2 <;> cases h2
  have t:vs[i]?=iF v:=by
   unfold wA at h2;rw [ce (by simpa using hi),aG] at h2;cases e:vs[i]? with
   | none=>rw [e] at h2; cases h2
   | some a=>rw [e] at h2; cases h2; rfl
  obtain ⟨u,j,m⟩:=r.get t;have hp:ps[i]?=iF y:=by rw [<-S.pre,List.getElem?_take_of_lt (by omega)]; exact h1
  have g:ps.Nodup:=by rw [<-S.pre]; exact S.nd.sublist (List.take_sublist _ _)
  refine ⟨u,m,?_⟩;rcases S.par y (cT hp) with k | k;·exact .inl ⟨k,Qj g hp j k⟩
  ·obtain ⟨c,e⟩:=gQ (n:=s.heap.objs.size+1) k;refine .inr ⟨.inl k,c,e,?_⟩;have q:=x.cell y c e;rw [Qk g hp j (by show scope.names.lookup y≠_; rw [k]; decide)] at q;exact q
 ·exact e0.hok.fresh (cF (x.above y c (bn h)))
 ·unfold wA;show _=N.length;rw [ao,ai,dA];omega
theorem qgQ {CX:CXT} {P:iN} {w:iO} {K:Frag} {mg:Str->Option iI} {base:Heap} {k:Nat} {f:Addr} {name qual:Str} {params:Arguments} {body:List Stmt} {scope:lh} {i kV doc pm cdv ct oc:iI} {an od:Option Addr}
  {osl:Array (Option iI)} {N ps:List Str} {sp:Sp} (j:K.lookup f=iF ⟨oc,od,.func (bO name qual params body scope i kV doc pm an cdv ct),osl⟩) (c:codeIn K cdv qual=iK) (S:FnScope N ps scope)
  (len:∀ vs H Q E,sp vs H Q E->vs.length=ps.length)
  (a:∀ (A:iQ) (outer:List Env) (s:iL) (H:Hp) (vs:List V) (Q:VK) (E:XK),RoomQ k (A.deeper (envOfC qual scope s.heap.objs.size f cdv))->sp vs H Q E ->∃ t,PSs (cxQ CX P w K mg base N qual scope f cdv A outer s H E) body t/\t { nx:=λ_ H'=>Q .non H',rt:=Q } (wA N vs) H) :
  FnQ P w K mg base CX (k+1) f (bO name qual params body scope i kV doc pm an cdv ct) ps sp:=by
 refine ⟨len,λA outer s H args us vs Q E g e0 z r p=>?_⟩;have hl:=len _ _ _ _ p;have X:K.In s.heap:=e0.mod.kin.keeps λb o e=>(e0.bs b o e).1;have l:s.heap.NoLimit:=e0.mod.nolimit.keeps λb o e=>(e0.bs b o e).1;have h:∀ y∈ps.zip us,scope.names.lookup y.1=iF .local\/(scope.names.lookup y.1=iF .cell/\((cellsFrom (s.heap.objs.size+1) scope.names []).lookup y.1).isSome=iK):=λ⟨n,v⟩ B=>by
  rcases S.par n (cM B).1 with q | q;·exact .inl q
  ·exact .inr ⟨q,ej _ _ _ (.inl q)⟩
 refine codeAny_call_function g.depth (X _ _ j) rfl S.co S.gen rfl (PySem.W.codeRec_of X c) (z _ _ _ _ ?_);refine wpAny_newFunctionEnv_cells S.kind h λenv m s1 x=>?_;subst m;refine ⟨l.keeps x.toInCall.keep,codeAny_func ?_⟩;obtain ⟨t,ht,hq⟩:=a A outer s H vs Q E (g.deeper _) p;have I:Inv (cxQ CX P w K mg base N qual scope f cdv A outer s H E) [] (wA N vs) H s1:=Zs S e0 hl r x;refine j4 (ht [] s1 (wA N vs) H _ I hq) (λC s' hs=>?_) λe s' hs=>hs;have fin:∀ {σ':St} {H':Hp} {v:V} {u:iI},Inv (cxQ CX P w K mg base N qual scope f cdv A outer s H E) [] σ' H' s'->RelV v u->Q v H'->CE outer P w H s Q u s':=
  λ{σ' H' v u} J d q=>⟨v,H',J.os,J.bare,J.base,J.hok,d,q⟩
 cases C with
 | ret u=>obtain ⟨v,σ',H',J,d,q⟩:=hs;exact fin J d q
 | next=>obtain ⟨σ',H',J,q⟩:=hs;exact fin (v:=V.non) (u:=bw) J rfl q
 | brk=>obtain ⟨_,_,_,q⟩:=hs;exact bI q
 | cont=>obtain ⟨_,_,_,q⟩:=hs;exact bI q
theorem qi1 {P:iN} {w:iO} {K:Frag} {mg:Str->Option iI} {base:Heap} {CX:CXT} {x qual:Str} {st:Stmt} {f:Addr} {fd:k4} {N ps:List Str} {k:Nat} {cv:Str->iI} {ms:List PM} {mr:Mo} {own':List Nat} {fb:qR} {G:jJ}
  (F:Fun K x qual st f fd) (S:FnScope N ps (ql st)) (hl:ms.length=ps.length) (g:∀ i∈Wg 0 ms,i∈own') (hmr:mr=.sh\/∀ ds ρ,(fb (qp N ds))≠.ok (.nx,ρ))
  (a:∀ (cdv:iI) (A:iQ) (outer:List Env) (s:iL) (H:Hp) (E:XK),RoomQ k (A.deeper (envOfC qual (ql st) s.heap.objs.size f cdv)) ->PSs (cxQ CX P w K mg base N qual (ql st) f cdv A outer s H E) (ka st) (tSt (qdh K cv E ms mr) (kb 0 ms) own' fb))
  (b:∀ ds,Out.le (G ds) (kj N ms fb ds)):FnQ P w K mg base CX (k+1) f fd ps (spD K cv ms mr G):=by
 obtain ⟨oc,od,kV,doc,pm,an,cdv,ct,osl,rfl,j,d⟩:=F.ex;refine qgQ j d S (λvs H Q E h=>?_) λA outer s H vs Q E c p=>?_;·obtain ⟨F,ds,_,r,_⟩:=h;rw [r.length.1,hl]
 ·obtain ⟨F1,ds,y,r,nd,h⟩:=p;refine ⟨_,a cdv A outer s H E c,?_⟩;exact GT (C:=qdh K cv E ms mr) rfl rfl (hmr.imp id λz ρ=>z ds ρ) g y r nd (b ds) h
section
variable {G:jJ} {fr:wV}
theorem qeG {k:Nat} {sp:Sp} {pins:Pns} {σ:St} {H:Hp} {s:iL} {Q:VK} {us:List iI} {vs:List V} (F:FnQ X.prog X.w X.K X.mg X.base CX k f fd ps sp) (c:RoomQ k X.A) (d:Binds X.K fd ps []) (hx:kl CX X E)
  (I:Inv X pins σ H s) (r:Vals vs us) (h:sp (vs++[]) H Q E):wpAny (model X.prog X.w) X.A (call (.ref f) us) (EP X pins σ Q) X.xe s:=by
 have r2:Vals (vs++[]) (us++[]):=r.append .nil;have hl:(us++[]).length=ps.length:=by rw [<-r2.length]; exact F.len _ _ _ _ h
 refine lL (lg (F.run X.A X.stack s H ⟨us,[]⟩ (us++[]) (vs++[]) Q E c I.env0 (d s us I.kIn hl) r2 h) λr s' hq=>?_);cases r with
 | error e=>exact hx pins σ H s e s' I hq
 | ok l=>
  cases l with
  | ret u=>exact I.after hq
  | next=>exact bI hq
  | brk=>exact bI hq
  | cont=>exact bI hq
theorem qca {k:Nat} {p pos:Pos} (F:FnQ X.prog X.w X.K X.mg X.base CX k f fd ps (spD C.K C.cv ms mr G)) (c:RoomQ k X.A) (hg:Gl X x) (m:X.mg x=iF (.ref f)) (g:keepIn X.K (.ref f)=iK) (t:Binds X.K fd ps []) (hx:kl CX X C.E)
  (u:PA X (e::es) (tAr C own as fr)) (a:ms=as.map xY:=by rfl) (hs:∀ i∈qS as,i∈own:=by decide) (nd:(qS as).Nodup:=by decide) (j:frA as<=1:=by decide) (o:∀ i∈C.ox,i∈own:=by exact kz rfl) (b:Dbg x:=by decide) (n:starEach (e::es) X.env=(iJ,eval e X.env)::starEach es X.env:=by exact jl rfl)
  (l:(backTo pos (starEach es X.env)).any (·.1)=false:=by exact vR rfl):PE X (.Call (.Name x p) (e::es) [] pos) (tE C own mr (qu as G fr)):=by
 subst a;refine ⟨?_⟩;intro pins s σ H Q I h;refine i3 (zI I hg m ?_ b);refine dZ (h₀:=X.base) I.ok.mod.kin g (thn (u pos pins s σ H _ I (UB o hs nd j h)) λus s1 ⟨vs,H1,d,r,q⟩=>⟨d.kIn,?_⟩) n l;exact qeG F c t hx d r q
end
def DefOk (P:iN) (w:iO) (K:Frag) (mg:Str->Option iI) (base:Heap) (cv:Str->iI) (k:Nat) (x:Str) (ps:List Str) (ms:List PM) (mr:Mo) (G:jJ):Prop:=
 ∃ f fd,FnOk P w K mg base (CXk P w) k f fd ps (spD K cv ms mr G)/\mg x=iF (.ref f)/\keepIn K (.ref f)=iK/\Binds K fd ps []
def qi2 (P:iN) (w:iO) (K:Frag) (mg:Str->Option iI) (base:Heap) (cv:Str->iI) (k:Nat) (x:Str) (ps:List Str) (ms:List PM) (mr:Mo) (G:jJ):Prop:=
 ∃ f fd,FnQ P w K mg base (CXk P w) k f fd ps (spD K cv ms mr G)/\mg x=iF (.ref f)/\keepIn K (.ref f)=iK/\Binds K fd ps []
def vQ (K:Frag) (mg:Str->Option iI) (x:Str) (st:Stmt) (ps:List Str):Prop:=∃ f fd,Fun K x x st f fd/\mg x=iF (.ref f)/\Binds K fd ps []
theorem qL {P:iN} {w:iO} {base:Heap} {cv:Str->iI} {k:Nat} {ms:List PM} {mr:Mo} {own':List Nat} {fb:qR} (T:vQ K mg x st ps) (S:FnScope N ps (ql st))
  (a:∀ (cdv:iI) (f:Addr) (A:iQ) (outer:List Env) (s:iL) (H:Hp) (E:XK),Room k (A.deeper (envOfC x (ql st) s.heap.objs.size f cdv)) ->PSs (cxk P w K mg base N x (ql st) f cdv A outer s H E) (ka st) (tSt (qdh K cv E ms mr) (kb 0 ms) own' fb))
  (hl:ms.length=ps.length:=by rfl) (g:∀ i∈Wg 0 ms,i∈own':=by exact kz rfl) (hmr:mr=.sh\/∀ ds ρ,(fb (qp N ds))≠.ok (.nx,ρ):=by exact .inl rfl):DefOk P w K mg base cv (k+1) x ps ms mr (kj N ms fb):=by
 obtain ⟨f,fd,F,h,d⟩:=T;exact ⟨f,fd,qh6 F S hl g hmr (λcdv A outer s H E c=>a cdv f A outer s H E c) λ_=>.inr rfl,h,F.kp,d⟩
theorem qi3 {P:iN} {w:iO} {base:Heap} {cv:Str->iI} {k:Nat} {ms:List PM} {mr:Mo} {own':List Nat} {fb:qR} (T:vQ K mg x st ps) (S:FnScope N ps (ql st))
  (a:∀ (cdv:iI) (f:Addr) (A:iQ) (outer:List Env) (s:iL) (H:Hp) (E:XK),RoomQ k (A.deeper (envOfC x (ql st) s.heap.objs.size f cdv)) ->PSs (cxQ (CXk P w) P w K mg base N x (ql st) f cdv A outer s H E) (ka st) (tSt (qdh K cv E ms mr) (kb 0 ms) own' fb))
  (hl:ms.length=ps.length:=by rfl) (g:∀ i∈Wg 0 ms,i∈own':=by exact kz rfl) (hmr:mr=.sh\/∀ ds ρ,(fb (qp N ds))≠.ok (.nx,ρ):=by exact .inl rfl):qi2 P w K mg base cv (k+1) x ps ms mr (kj N ms fb):=by
 obtain ⟨f,fd,F,h,d⟩:=T;exact ⟨f,fd,qi1 F S hl g hmr (λcdv A outer s H E c=>a cdv f A outer s H E c) λ_=>.inr rfl,h,F.kp,d⟩
variable {cv:Str->iI}
theorem DefOk.by {k:Nat} {G a:jJ} (h:DefOk P w K mg base cv k x ps ms mr G) (e:∀ ds,Out.le (a ds) (G ds)):DefOk P w K mg base cv k x ps ms mr a:=by
 obtain ⟨f,fd,F,r⟩:=h;refine ⟨f,fd,F.imp λvs H Q E ⟨F1,ds,y,b,nd,po⟩=>⟨F1,ds,y,b,nd,?_⟩,r⟩;rcases e ds with z | z;·rw [z] at po; exact po.elim
 ·rw [<-z]; exact po
section
variable {G:jJ} {fr:wV} {p:Pos} {k j:Nat}
theorem jH (F:DefOk X.prog X.w X.K X.mg X.base cv j x ps ms mr G) (c:Room k X.A) (D:j<=k) (hx:kl (CXk X.prog X.w) X C.E) (hg:Gl X x) (q:PA X (e::es) (tAr C own as fr)) (v:C.cv=cv:=by rfl) (m:C.K=X.K:=by rfl) (s:ms=as.map xY:=by rfl) (hs:∀ i∈qS as,i∈own:=by decide) (nd:(qS as).Nodup:=by decide) (d:frA as<=1:=by decide) (o:∀ i∈C.ox,i∈own:=by exact kz rfl)
  (b:Dbg x:=by decide) (g:starEach (e::es) X.env=(iJ,eval e X.env)::starEach es X.env:=by exact jl rfl) (l:(backTo pos (starEach es X.env)).any (·.1)=false:=by exact vR rfl):PE X (.Call (.Name x p) (e::es) [] pos) (tE C own mr (qu as G fr)):=by
 subst v;obtain ⟨f,fd,F,h,a,n⟩:=F;rw [<-m] at F;exact qex (by rw [<-m]; exact F) (c.mono D) hg h a n hx q s hs nd d o b g l
theorem qab (F:qi2 X.prog X.w X.K X.mg X.base cv j x ps ms mr G) (c:RoomQ j X.A) (hx:kl (CXk X.prog X.w) X C.E) (hg:Gl X x) (n:PA X (e::es) (tAr C own as fr)) (v:C.cv=cv:=by rfl) (m:C.K=X.K:=by rfl) (s:ms=as.map xY:=by rfl) (hs:∀ i∈qS as,i∈own:=by decide) (nd:(qS as).Nodup:=by decide) (a:frA as<=1:=by decide) (o:∀ i∈C.ox,i∈own:=by exact kz rfl)
  (b:Dbg x:=by decide) (d:starEach (e::es) X.env=(iJ,eval e X.env)::starEach es X.env:=by exact jl rfl) (l:(backTo pos (starEach es X.env)).any (·.1)=false:=by exact vR rfl):PE X (.Call (.Name x p) (e::es) [] pos) (tE C own mr (qu as G fr)):=by
 subst v;obtain ⟨f,fd,F,h,k,g⟩:=F;rw [<-m] at F;exact qca (by rw [<-m]; exact F) c hg h k g hx n s hs nd a o b d l
noncomputable def qfR:D->Out D
 | .int i=>.ok (.int (-i))
 | _=>.bad
theorem qdl:UnD X C .sh (unaryOp .USub) qfR:=by
 intro pins s σ H x v Q I d h;obtain ⟨F,dx,y,t,po⟩:=h;cases dx <;> try exact po.elim
 obtain rfl:=t.int;exact qgi pins s σ H _ v Q I d ⟨_,rfl,po _ F H y .refl (.int _)⟩
end
noncomputable def ze:Option (Option D)->Bool
 | some (iF (.lst _))=>iK
 | _=>iJ
noncomputable def Ks (i:Nat) (g:List D->D->Out (List D)) (fe:jg):jg:=λρ=>if ze ρ[i]?=iK then (fe ρ).bind λp=>match p.2[i]? with
 | some (iF (.lst xs))=>match g xs p.1 with
  | .ok ys=>.ok (.non,p.2.set i (iF (.lst ys)))
  | _=>.bad
 | _=>.bad
 else .bad
noncomputable def YR (xs:List D) (d:D):Out (List D):=if xs.length < sizeLine then .ok (xs++[d]) else .bad
noncomputable def qbv (xs:List D):D->Out (List D)
 | .lst ys=>if xs.length+ys.length<=sizeLine then .ok (xs++ys) else .bad
 | .tup ys=>if xs.length+ys.length<=sizeLine then .ok (xs++ys) else .bad
 | _=>.bad
section
variable {fe:jg}
theorem Rep.write (r:Rep K own F H σ ρ) (hi:i∈own) (g:σ[i]?=iF (iF (V.ref a))) (ow:OwnIs K F (upd H a u) a d):Rep K own F (upd H a u) σ (ρ.set i (iF d))/\Chg (OA own σ) F H F (upd H a u):=by
 obtain ⟨w,h⟩:=r.opn i hi;obtain ⟨f,e1,E,c⟩:=r.ow i w hi h;rw [g] at e1; cases e1;have hl:i < ρ.length:=(aC.mp h).1;refine ⟨⟨λb o e=>by rw [qv (qB e E)]; exact r.sub b o e,by simp [r.len],λj d' D e=>?_,λj d' D e=>?_,λj D=>?_,r.dis⟩,⟨λb o e n=>?_,λb e=>?_,Same.refl _,λb e=>.inl e⟩⟩;·rw [am (λz=>D (by rw [<-z]; exact hi))] at e;exact r.val j d' D e
 ·by_cases q:j=i;·subst q;rw [aF hl] at e;cases e;exact ⟨a,g,E,ow⟩
  ·rw [am (bf q)] at e;obtain ⟨b,h1,h2,h3⟩:=r.ow j d' D e;have y:b≠a:=λz=>by subst z; exact q (r.dis j i b D hi h1 g)
   exact ⟨b,h1,h2,h3.grow (Same.refl _) λo z=>by rw [qv y]; exact z⟩
 ·by_cases q:j=i;·subst q; exact ⟨d,aF hl⟩
  ·rw [am (bf q)]; exact r.opn j D
 ·have y:b≠a:=λz=>n (by rw [z]; exact ⟨i,hi,g⟩);rw [qv y]; exact e
 ·by_cases q:b=a;·rw [q,qt]; simp
  ·rw [qv q]; exact e
theorem YS {o:Option (Option D)} (h:ze o=iK):∃ xs,o=iF (iF (.lst xs)):=by
 unfold ze at h;split at h;·exact ⟨_,rfl⟩
 ·cases h
theorem YT {g:List D->D->Out (List D)} {R:V->V->Hp->VK->Prop} {σ:St} {H:Hp} {Q:VK} (l:i∈own) (s:m≠.any)
  (j:∀ (a:Addr) (xs:List V) (ds ys:List D) (v:V) (d:D) (F H:Hp),Same F H->H a=iF (.lst xs)->F a=iH->IsL C.K F xs ds->Is C.K F v d->g ds d=.ok ys->(∀ zs,IsL C.K F zs ys->Q .non (upd H a (.lst zs)))->R (.ref a) v H Q)
  (h:tE C own .sh (Ks i g fe) σ H Q):∃ a xs,σ[i]?=iF (iF (V.ref a))/\H a=iF (.lst xs)/\tE C own .sh fe σ H λv H1=>R (.ref a) v H1 Q:=by
 obtain ⟨F,ρ,p,h⟩:=h;unfold Ks at h;by_cases q:ze ρ[i]?=iK
 ·rw [if_pos q] at h;obtain ⟨ds,hd⟩:=YS q;obtain ⟨a,h1,h2,xs,h3,t⟩:=p.ow i _ l hd;refine ⟨a,xs,h1,h3,F,ρ,p,Po.bind h λv F1 H1 d ρ1 r w f po=>?_⟩;cases b:ρ1[i]? with
  | none=>simp only [b] at po; exact po.elim
  | some o=>
   cases o with
   | none=>simp only [b] at po; exact po.elim
   | some dd=>
    simp only [b] at po;cases dd with
    | lst es=>
     simp only at po;cases e:g es d with
     | ok ys=>simp only [e] at po;obtain ⟨x,e1,n,vs,E,k⟩:=r.ow i _ l b;rw [h1] at e1; cases e1;refine j a vs es ys v d F1 H1 r.sub E n k f e λzs z=>?_;obtain ⟨r2,c2⟩:=r.write (u:=.lst zs) (d:=.lst ys) l h1 ⟨zs,qt,z⟩;exact po .non F1 _ r2 c2 .non
     | exc c o=>simp only [e] at po; exact po.elim
     | bad=>simp only [e] at po; exact po.elim
    | _=>exact po.elim
 ·rw [if_neg q] at h; exact h.elim
theorem Qs {px apos cpos:Pos} (t:C.K=X.K) (r:X.N[i]?=iF x) (n:Vis X.env.scope x) (o:i∈own) (p:PE X e (tE C own m fe)) (j:m≠.any:=by decide)
  (hd:Dbg x:=by decide) (f:Cdk x:=by decide)
  (c:attributeBase (.Name x px) "append" X.env (eval (.Name x px) X.env)=eval (.Name x px) X.env:=by rfl)
  (w:((backTo cpos (starEach [e] X.env)).all (λx=>!x.1)&&(backToKw cpos (keywordEach [] X.env)).all (λx=>x.1.isSome)
   && decide ([e].length+([]:List i0).length+(if ([]:List i0).isEmpty then 0 else 1) < 30))=true:=by exact vS rfl)
  (b:(apos.endLine == cpos.line)=true:=by rfl) (hs:starEach [e] X.env=[(iJ,eval e X.env)]:=by exact qI rfl) :
  PE X (.Call (.Attribute (.Name x px) "append" apos) [e] [] cpos) (tE C own .sh (Ks i YR fe)):=by
 refine jB (Zg bS PySem.F.slot_list_append PySem.F.type_list_append Ql (ya r n hd f) (qN (xE p j) jG hs) c w b hs rfl) λσ H Q h=>?_;have q:∀ (a:Addr) (xs:List V) (ds ys:List D) (v:V) (d:D) (F H:Hp),Same F H->H a=iF (.lst xs)->F a=iH->IsL C.K F xs ds->Is C.K F v d->YR ds d=.ok ys->(∀ zs,IsL C.K F zs ys->Q .non (upd H a (.lst zs)))->Ut (.ref a) [v] H Q:=λa xs ds ys v d F H y s u ix l g k=>by
  unfold YR at g;split at g;·cases g;exact ⟨a,xs,v,rfl,rfl,s,by rw [ix.length]; assumption,k _ (ix.append (.cons l .nil))⟩
  ·cases g
 obtain ⟨a,xs,h1,h2,k⟩:=YT (R:=λx v H Q=>Ut x [v] H Q) o j q h;exact ⟨.ref a,h1,.inl ⟨rfl,xs,.inl (.inl h2)⟩,k⟩
theorem Wn {px apos cpos:Pos} (E:X.N[i]?=iF x) (t:Vis X.env.scope x) (l:i∈own) (y:PE X e (tE C own .fr fe))
  (hd:Dbg x:=by decide) (j:Cdk x:=by decide)
  (f:attributeBase (.Name x px) "extend" X.env (eval (.Name x px) X.env)=eval (.Name x px) X.env:=by rfl)
  (w:((backTo cpos (starEach [e] X.env)).all (λx=>!x.1)&&(backToKw cpos (keywordEach [] X.env)).all (λx=>x.1.isSome)
   && decide ([e].length+([]:List i0).length+(if ([]:List i0).isEmpty then 0 else 1) < 30))=true:=by exact vS rfl)
  (c:(apos.endLine == cpos.line)=true:=by rfl) (hs:starEach [e] X.env=[(iJ,eval e X.env)]:=by exact qI rfl) :
  PE X (.Call (.Attribute (.Name x px) "extend" apos) [e] [] cpos) (tE C own .sh (Ks i qbv fe)):=by
 refine jB (Zg bS PySem.F.slot_list_extend PySem.F.type_list_extend Gs (ya E t hd j) (qN y jG hs) f w c hs rfl) λσ H Q ⟨F,ρ,p,h⟩=>?_;unfold Ks at h;by_cases q:ze ρ[i]?=iK
 ·rw [if_pos q] at h;obtain ⟨ds,hd⟩:=YS q;obtain ⟨a,h1,h2,xs,h3,I⟩:=p.ow i _ l hd;refine ⟨.ref a,h1,.inl ⟨rfl,xs,.inl (.inl h3)⟩,F,ρ,p,Po.bind h λv F1 H1 d ρ1 r K m po=>?_⟩;obtain ⟨b,rfl,B,A,k⟩:=m;cases g:ρ1[i]? with
  | none=>simp only [g] at po; exact po.elim
  | some o=>
   cases o with
   | none=>simp only [g] at po; exact po.elim
   | some dd=>
    simp only [g] at po;cases dd with
    | lst es=>
     simp only at po;obtain ⟨L,e1,J,vs,G,s⟩:=r.ow i _ l g;rw [h1] at e1; cases e1;cases d with
     | lst ys=>
      obtain ⟨zs,hz,n⟩:=k;have po:Po C own .sh σ F1 H1 (match (if es.length+ys.length<=sizeLine then .ok (es++ys) else .bad:Out (List D)) with | .ok ys=>.ok (.non,ρ1.set i (iF (.lst ys))) | _=>.bad) Q:=po;by_cases z:es.length+ys.length<=sizeLine;·rw [if_pos z] at po;refine ⟨a,b,vs,zs,rfl,rfl,G,hz,by rw [s.length,n.length]; exact z,?_⟩;obtain ⟨r2,c2⟩:=r.write (u:=.lst (vs++zs)) (d:=.lst (es++ys)) l h1 ⟨_,qt,s.append n⟩;exact po .non F1 _ r2 c2 .non
      ·rw [if_neg z] at po; exact po.elim
     | dct ys=>exact po.elim
     | ins _ _=>exact po.elim
     | at_ _ _=>exact po.elim
     | _=>exact k.elim
    | _=>exact po.elim
 ·rw [if_neg q] at h; exact h.elim
end
noncomputable def scB (names:List (Str×k8)) (scope:lh):Bool:=decide (scope.kind=.function)&&scope.names.all λy=>decide (y.2≠.cell)&&(!decide (y.2=.local)||decide (scope.names.lookup y.1=iF .local)) &&
 (!decide (y.2=.free)||((decide (names.lookup y.1=iF .cell)||decide (names.lookup y.1=iF .free))&&decide (scope.names.lookup y.1=iF .free)))
variable {names:List (Str×k8)}
theorem qgR (h:X.env.scope.names=names) (b:scB names scope=iK):ScOk X scope:=by
 subst h;unfold scB at b;rw [aM,aL] at b;obtain ⟨a,A⟩:=b;refine ⟨of_decide_eq_true a,λy B=>?_,λy B e=>?_,λy B e=>?_,λy B e=>?_⟩;all_goals
  have q:=A y B;simp only [aM,g7,eG,decide_eq_true_eq,decide_eq_false_iff_not] at q
 ·exact q.1.1
 ·exact q.1.2.resolve_left λz=>z e
 ·exact (q.2.resolve_left λz=>z e).1
 ·exact (q.2.resolve_left λz=>z e).2
noncomputable def qh9 (names:List (Str×k8)) (N:List Str) (scope:lh) (c:List Str) (nt:Nat) (cap:List Nat):Bool:=decide cap.Nodup&&decide (c.length=nt+cap.length)&&(aK cap.length).all λj=>match cap[j]? with
 | some k=>match c[nt+j]? with
  | some x=>decide (N[k]?=iF x)&&(((decide (names.lookup x=iF .local)||decide (names.lookup x=iF .cell)||decide (names.lookup x=iF .free))&&decide ((x,bv)∈scope.names))||scope.names.all λy=>decide (y.1≠x))
  | none=>iJ
 | none=>iJ
theorem qdm {c:List Str} (a:X.env.scope.names=names) (d:X.N=N) (b:qh9 names N scope c nt cap=iK):CapOk X scope c nt cap:=by
 subst a d;unfold qh9 at b;rw [aM,aM,aL] at b;obtain ⟨⟨g,A⟩,f⟩:=b;refine ⟨of_decide_eq_true g,of_decide_eq_true A,λj k D=>?_⟩;have q:=f j (bg.mpr (aC.mp D).1);rw [D] at q;cases e:c[nt+j]? with
 | none=>simp only [e] at q; cases q
 | some x=>
  simp only [e,aM,g7,decide_eq_true_eq] at q;refine ⟨x,rfl,q.1,?_⟩;rcases q.2 with ⟨z,q2⟩ | z
  ·refine .inl ⟨?_,q2⟩;rcases z with (z | z) | z;·exact .inl z
   ·exact .inr (.inl z)
   ·exact .inr (.inr z)
  ·refine .inr λk' h=>?_;rw [aL] at z;exact of_decide_eq_true (z (x,k') h) rfl
theorem gJ:kl (CXk P w) X (λ_ _ _=>False):=λ_ _ _ _ _ _ _ h=>by obtain ⟨_,_,_,_,_,_,_,_,_,_,_,_,_,_,k⟩:=h;exact k.elim
noncomputable def qi4 (f:jg):jg:=λρ=>(qH f ρ).bind λp=>.ok (.bl (!p.1),p.2)
section
variable {i:Int}
theorem yK (h:∃ t,X.mg x=iF (.int i t)) (hg:Gl X x) (hd:Dbg x:=by decide):PE X (.Name x pos) (tE C own .sh (dC (.int i))):=by obtain ⟨t,h⟩:=h;exact qen (v:=.int i) hg h ⟨t,rfl⟩ (λ_=>.int i) hd
end
section
variable {a b:Expr} {f fa fb:jg}
noncomputable def Wo:D->Out D
 | .lst xs=>.ok (.tup xs)
 | .tup xs=>.ok (.tup xs)
 | _=>.bad
noncomputable def qeH:D->Out D
 | .lst xs=>.ok (.lst xs)
 | .tup xs=>.ok (.lst xs)
 | _=>.bad
theorem YU (m:C.K=X.K):Jr X C .sh (.type "tuple") Wo:=by
 intro pins s σ H xs us Q I r h;obtain ⟨x,F,dx,rfl,y,a,po⟩:=h;cases dx with
 | lst ds=>obtain ⟨p,vs,rfl,hq,t⟩:=a.lst y;refine xS pins s σ H _ us Q I r ⟨p,vs,rfl,.inl ⟨by rw [<-m]; exact hq,λl hl=>?_⟩⟩;obtain ⟨s2,c2⟩:=yg (u:=.tup vs) y hl;exact po _ _ _ s2 c2 (.tup (.inl (.inl qt)) (t.mono c2.grow))
 | tup ds=>
  rcases a with a | ⟨_,_,a⟩
  ·have b:=a;cases a with
   | tup hq t=>exact xS pins s σ H _ us Q I r ⟨_,_,rfl,.inr ⟨by rw [<-m]; exact jm y hq,po _ F H y .refl b⟩⟩
  ·exact a.elim
 | _=>exact po.elim
theorem qeI (m:C.K=X.K):Jr X C .fr (.type "list") qeH:=by
 intro pins s σ H xs us Q I r h;obtain ⟨x,F,dx,rfl,y,a,po⟩:=h;cases dx with
 | lst ds=>obtain ⟨p,vs,rfl,hq,t⟩:=a.lst y;refine gf pins s σ H _ us Q I r ⟨p,vs,rfl,.inl (by rw [<-m]; exact hq),λl hl=>?_⟩;obtain ⟨s2,c2,E⟩:=vB (u:=.lst vs) y hl;exact po _ _ _ s2 c2 ⟨l,rfl,hl,E,vs,qt,t⟩
 | tup ds=>obtain ⟨p,vs,rfl,hq,t⟩:=a.tup y;refine gf pins s σ H _ us Q I r ⟨p,vs,rfl,.inr (by rw [<-m]; exact hq),λl hl=>?_⟩;obtain ⟨s2,c2,E⟩:=vB (u:=.lst vs) y hl;exact po _ _ _ s2 c2 ⟨l,rfl,hl,E,vs,qt,t⟩
 | _=>exact po.elim
def qac (X:Cx) (C:Ct) (m:Mo) (f:iI) (g:D->D->Out D):Prop:=yb X f (λxs H Q=>∃ x y F dx d,xs=[x,y]/\Same F H/\TopIs C.K F H x dx/\TopIs C.K F H y d/\PoV C m F H (g dx d) Q)
theorem YV {Q:VK} (k:ma≠.any) (h:tE C own m (d2 g fa fb) σ H Q):Zf (tE C own ma fa) (Zf (tE C own mb fb) qgo) σ H λxs H1=>∃ x y F dx a,xs=[x,y]/\Same F H1/\TopIs C.K F H1 x dx/\TopIs C.K F H1 y a/\PoV C m F H1 (g dx a) Q:=by
 obtain ⟨F,ρ,n,h⟩:=VV (mb:=mb) k h;refine ⟨F,ρ,n,?_⟩;cases q:fa ρ with
 | ok p=>
  rw [q] at h;obtain ⟨d,ρ1⟩:=p;intro v F1 H1 e o j;obtain ⟨u,ρ2,b,h2⟩:=h v F1 H1 e o j;refine ⟨u,ρ2,b,?_⟩;cases f:fb ρ2 with
  | ok p=>rw [f] at h2;obtain ⟨d',l⟩:=p;intro w t s r G i;obtain ⟨J,dx,a,z⟩:=h2 w t s r G i;exact ⟨v,w,J,dx,a,rfl,z⟩
  | exc c=>rw [f] at h2; exact h2
  | bad=>rw [f] at h2; exact h2.elim
 | exc c=>rw [q] at h; exact h
 | bad=>rw [q] at h; exact h.elim
theorem Qt {id:String} {p:Pos} (e:qac X C m (.builtin id) g) (hg:Gl X x) (d:X.mg x=iH) (v:bootBuiltins x=iF (.builtin id)) (j:PE X a (tE C own ma fa)) (i:PE X b (tE C own mb fb)) (f:ma≠.any:=by decide) (n:x ≠ "__name__":=by decide) (c:Dbg x:=by decide)
  (h1:starEach [a,b] X.env=(iJ,eval a X.env)::starEach [b] X.env:=by rfl) (h2:starEach [b] X.env=[(iJ,eval b X.env)]:=by exact qI rfl):PE X (.Call (.Name x p) [a,b] [] pos) (tE C own m (d2 g fa fb)):=
 jB (wY e hg d v (qN j (qN i jG h2) h1) n c (by rw [h1]) (by rw [h2]; rfl)) λ_ _ _ h=>YV f h
noncomputable def qeJ:D->D->Out D:=Ui λi j=>.ok (.int (if j > i then j else i))
noncomputable def qia:D->D->Out D:=Ui λi j=>.ok (.int (if j < i then j else i))
theorem qdn (d:X.calm=iK):qac X C .sh (.builtin "max") qeJ:=by
 intro pins s σ H xs us Q I r h;obtain ⟨x,y,F,dx,a,rfl,b,t,ty,po⟩:=h;cases dx <;> try exact po.elim
 cases a <;> try exact po.elim
 obtain rfl:=t.int;obtain rfl:=ty.int;exact Gm d pins s σ H _ us Q I r ⟨_,_,rfl,po _ F H b .refl (.int _)⟩
theorem qgS (d:X.calm=iK):qac X C .sh (.builtin "min") qia:=by
 intro pins s σ H xs us Q I r h;obtain ⟨x,y,F,dx,a,rfl,b,t,ty,po⟩:=h;cases dx <;> try exact po.elim
 cases a <;> try exact po.elim
 obtain rfl:=t.int;obtain rfl:=ty.int;exact Gn d pins s σ H _ us Q I r ⟨_,_,rfl,po _ F H b .refl (.int _)⟩
noncomputable def kB (a T:String):Option Bool:=if (df a == df T)=iK then iF iK else if PySem.W.kitMeta T=iK then (fastBuiltinMro a).map (·.contains (.type T)) else iH
theorem qcb (K:Frag) (a T:String):bX K (.type a) (.type T)=kB a T:=rfl
noncomputable def tyN:D->Option String
 | .non=>iF "NoneType"
 | .bl _=>iF "bool"
 | .int _=>iF "int"
 | .str _=>iF "str"
 | .tup _=>iF "tuple"
 | .lst _=>iF "list"
 | .dct _=>iF "dict"
 | _=>iH
noncomputable def wW (T:String) (d:D):Out D:=match tyN d with
 | some a=>match kB a T with
  | some b=>.ok (.bl b)
  | none=>.bad
 | none=>.bad
theorem qcc (m:C.K=X.K):yb X (.builtin "isinstance") (λxs H Q=>∃ x F d,xs=[x,.ty T]/\Same F H/\TopIs C.K F H x d/\PoV C .sh F H (wW T d) Q):=by
 intro pins s σ H xs us Q I r h;obtain ⟨x,F,d,rfl,g,f,po⟩:=h;obtain ⟨u,c,rfl,A,j⟩:=Za r;cases j;cases q:tyN d with
 | none=>unfold wW at po; rw [q] at po; exact po.elim
 | some a=>
  cases i:kB a T with
  | none=>unfold wW at po; rw [q] at po; simp only [i] at po; exact po.elim
  | some b=>
   have po:PoV C .sh F H (.ok (.bl b)) Q:=by unfold wW at po; rw [q] at po; simp only [i] at po; exact po
   have fin:∀ tk,EP X pins σ Q (.bool b) { s with toks:=tk }:=λtk=>⟨.bl b,H,I.tok tk,rfl,po _ F H g .refl (.bl b)⟩
   have e:bX X.K (.type a) (.type T)=iF b:=(qcb X.K a T).trans i;cases d with
   | non=>obtain rfl:=f.non; cases A; cases q; exact cQ PySem.W.kitx_none I.kIn dg e (λz=>nomatch z) fin
   | bl y=>obtain rfl:=f.bl; cases A; cases q; exact cQ PySem.W.kitx_bool I.kIn dg e (λz=>nomatch z) fin
   | int y=>obtain rfl:=f.int; obtain ⟨t,rfl⟩:=A; cases q; exact cQ PySem.W.kitx_int I.kIn dg e (λz=>nomatch z) fin
   | str y=>obtain ⟨rfl,_⟩:=f.str; obtain ⟨t,rfl⟩:=A; cases q; exact cQ PySem.W.kitx_str I.kIn dg e (λz=>nomatch z) fin
   | tup y=>obtain ⟨p,vs,rfl,hq,t⟩:=f.tup g;cases A; cases q;obtain ⟨its,_,⟨o,h1,h2,_⟩,_⟩:=I.tuple (show SqT X.K H p vs by rw [<-m]; exact hq);exact cQ PySem.W.kitx_tuple I.kIn ⟨o,h1,h2⟩ e (λz=>nomatch z) fin
   | lst y=>obtain ⟨p,vs,rfl,hq,t⟩:=f.lst g;cases A; cases q;obtain ⟨its,_,⟨o,n,h1,h2,_⟩,_⟩:=I.list (show SqL X.K H p vs by rw [<-m]; exact hq);exact cQ PySem.W.kitx_list I.kIn ⟨o,h1,h2⟩ e (λz=>nomatch z) fin
   | dct y=>
    obtain ⟨p,vs,rfl,hq,t⟩:=f.dct g;cases A; cases q;obtain ⟨_,_,ws,_,o,es,ep,h1,h2,_⟩:=(show ObjOk X.prog X.w H s.heap p (.dK vs) from I.hok p _ hq)
    exact cQ PySem.W.kitx_dict I.kIn ⟨o,h1,h2.1⟩ e (λz=>nomatch z) fin
   | _=>cases q
theorem zf {tn:Str} {p t:Pos} (l:C.K=X.K) (hg:Gl X "isinstance") (j:X.mg "isinstance"=iH) (i:bootBuiltins "isinstance"=iF (.builtin "isinstance")) (ht:Gl X tn) (e:X.mg tn=iH) (b:bootBuiltins tn=iF (.type T)) (k:PE X a (tE C own ma fa)) (n:tn ≠ "__name__":=by decide) (f:Dbg tn:=by decide)
  (h1:starEach [a,.Name tn t] X.env=(iJ,eval a X.env)::starEach [.Name tn t] X.env:=by rfl) (h2:starEach [.Name tn t] X.env=[(iJ,eval (.Name tn t) X.env)]:=by rfl):PE X (.Call (.Name "isinstance" p) [a,.Name tn t] [] pos) (tE C own .sh (d1 (wW T) fa)):=by
 refine jB (wY (qcc (T:=T) l) hg j i (qN k (qN (Ge (v:=.ty T) ht e b rfl n f) jG h2) h1) (by decide) (by decide) (by rw [h1]) (by rw [h2]; rfl)) λσ H Q h=>?_;obtain ⟨F,ρ,g,h⟩:=VW (ma:=ma) h;refine ⟨F,ρ,g,?_⟩;cases q:fa ρ with
 | ok p=>rw [q] at h;obtain ⟨d,ρ1⟩:=p;intro v F1 H1 r o m;obtain ⟨s,dx,z⟩:=h v F1 H1 r o m;exact ⟨v,s,dx,rfl,z⟩
 | exc c=>rw [q] at h; exact h
 | bad=>rw [q] at h; exact h.elim
noncomputable def vf:List D->Option (List Bool)
 | []=>iF []
 | .bl b::ds=>(vf ds).map (b::·)
 | _::_=>iH
noncomputable def YW:D->Out D
 | .lst ds=>match vf ds with
  | some bs=>.ok (.bl (bs.all id))
  | none=>.bad
 | _=>.bad
theorem Kt {us:List iI} {bs:List Bool} (a:IsL K F vs ds) (l:Vals vs us) (e:vf ds=iF bs):us=bs.map aZ:=by
 induction ds generalizing vs us bs with
 | nil=>cases a;cases l;cases e;rfl
 | cons d ds j=>
  cases a with
  | cons i a=>
   cases l with
   | cons r l=>
    cases d with
    | bl b=>obtain ⟨c,e1,rfl⟩:=aP.mp (show (vf ds).map (b::·)=iF bs from e);cases i;cases r;rw [j a l e1];rfl
    | _=>cases e
theorem Qu (m:C.K=X.K) (j:X.calm=iK):Jr X C .sh (.builtin "all") YW:=by
 intro pins s σ H xs us Q I r h;obtain ⟨x,F,dx,rfl,y,d,po⟩:=h;cases dx <;> try exact po.elim
 rename_i ds;obtain ⟨p,vs,rfl,hq,t⟩:=d.lst y;obtain ⟨u,rfl,g⟩:=xR r;cases g;unfold YW at po;cases q:vf ds with
 | none=>simp only [q] at po; exact po.elim
 | some bs=>
  simp only [q] at po;obtain ⟨its,f,pl,hz⟩:=I.list (show SqL X.K H p vs by rw [<-m]; exact hq);have D:=Kt t f q;subst D;have hp:p < s.heap.objs.size:=let ⟨o,h1,_⟩:=pl.isList; ap h1;refine call_all_walk (lj pl.isList ?_);have W:Walks X.prog X.w X.A.in1 s.heap.objs.size [s.heap.objs.size,p] [s.heap.objs.size] (bs.map aZ).toArray.size (λi v=>(bs.map aZ).toArray[i]?=iF v) (λi h=>h.IsListIter s.heap.objs.size p i/\h.IsList p (bs.map aZ).toArray):=iE (A:=X.A.in1) (show X.A.in1.handled=iH from I.ok.hd j) s.heap.objs.size p (ay hp) _;have st:(s.heap.push { cls:=.type "list_iterator",data:=.fields #[.ref p,.int 0 0] }).IsListIter s.heap.objs.size p 0/\(s.heap.push { cls:=.type "list_iterator",data:=.fields #[.ref p,.int 0 0] }).IsList p (bs.map aZ).toArray:=⟨⟨_,ah _ rfl,rfl,rfl⟩,let ⟨o,h1,h2⟩:=pl.isList; ⟨o,aa _ h1,h2⟩⟩
  refine ⟨_,_,_,_,_,_,λi=>(bs[i]?).getD iJ,rfl,W,st,λi v s' n E l c=>?_,λh' tk kp=>?_⟩
  ·have l:(bs.map aZ).toArray[i]?=iF v:=l;rw [eZ,aG] at l;cases B:bs[i]? with
   | none=>rw [B] at l; cases l
   | some b=>have a:n ((bs[i]?).getD iJ) s':=c;rw [B] at l a;cases l;exact i7 a
  ·have e:(aK (bs.map aZ).toArray.size).all (λi=>(bs[i]?).getD iJ)=bs.all id:=by
    rw [aj,ai,Bool.eq_iff_iff,aL,aL];constructor;·intro h b k;obtain ⟨i,hi,e⟩:=cX.mp k;have:=h i (bg.mpr hi);rw [aA hi,e] at this;exact this
    ·intro h i hi;have hi:=bg.mp hi;rw [aA hi];exact h _ (bT hi)
   rw [e];refine ⟨.bl (bs.all id),H,?_,rfl,po _ F H y .refl (.bl _)⟩;have k2:∀ b o,s.heap.get? b=iF o->h'.get? b=iF o:=λb o D=>kp b o (by simp; exact ay (ap D)) (aa _ D);exact I.kept (t':=tk) k2
end
def PoO (C:Ct) (own:List Nat) (σ:St) (F H:Hp) (r:Out (Option Int×Sl)) (Q:Option Int->Hp->Prop):Prop:=match r with
 | .ok (b,ρ')=>∀ F' H',Rep C.K own F' H' σ ρ'->Chg (OA own σ) F H F' H'->Q b H'
 | .exc c ρ'=>∀ F' H',Same F' H'->ZZ C.K C.ox F' H' σ ρ'->Chg (OA own σ) F H F' H'->C.E (C.cv c) iH H'
 | .bad=>False
def tO (C:Ct) (own:List Nat) (f:Sl->Out (Option Int×Sl)):TO:=λσ H Q=>∃ F ρ,Rep C.K own F H σ ρ/\PoO C own σ F H (f ρ) Q
noncomputable def Ku:Option (jg)->Sl->Out (Option Int×Sl)
 | none,ρ=>.ok (iH,ρ)
 | some f,ρ=>(f ρ).bind λp=>match p.1 with
  | .int i=>.ok (iF i,p.2)
  | _=>.bad
theorem Po.bindO {o:Out (Option Int×Sl)} {k:Option Int×Sl->VU} {Q:VK} {R:Option Int->Hp->Prop} (hp:Po C own m σ F H (o.bind k) Q)
  (h:∀ F1 H1 b ρ1,Rep C.K own F1 H1 σ ρ1->Chg (OA own σ) F H F1 H1->Po C own m σ F1 H1 (k (b,ρ1)) Q->R b H1):PoO C own σ F H o R:=by
 cases o with
 | ok p=>obtain ⟨d,ρ1⟩:=p;exact λF1 H1 a c=>h F1 H1 d ρ1 a c (Po.shift (show Po C own m σ F H (k (d,ρ1)) Q from hp) c)
 | exc x=>exact hp
 | bad=>exact hp.elim
section
variable {a:Expr} {fa f:jg} {p2:Pos}
theorem YX:PO X iH (tO C own (Ku iH)):=by intro pins s σ H Q I ⟨F,ρ,a,h⟩;exact qec pins s σ H Q I (h F H a .refl)
theorem YY (h:PE X e (tE C own m f)):PO X (iF e) (tO C own (Ku (iF f))):=by
 intro pins s σ H Q I ⟨F,ρ,r,hp⟩;refine qed h pins s σ H Q I ⟨F,ρ,r,?_⟩;have hp:PoO C own σ F H ((f ρ).bind λp=>match p.1 with | .int i=>.ok (iF i,p.2) | _=>.bad) Q:=hp;cases q:f ρ with
 | ok p=>
  rw [q] at hp;obtain ⟨d,ρ1⟩:=p;cases d with
  | int i=>exact λv F1 H1 a k b=>⟨i,b.top.int,hp F1 H1 a k⟩
  | _=>exact hp.elim
 | exc c=>rw [q] at hp; exact hp
 | bad=>rw [q] at hp; exact hp.elim
end
noncomputable def Its (x:Str):It:=⟨λi _=>i < x.cps.size,λi H v H'=>H'=H/\∃ c,x.cps[i]?=iF c/\v=.str ⟨#[c]⟩,λi _=>x.cps.size<=i⟩
noncomputable def Qv (x:Str):List D:=x.cps.toList.map λc=>.str ⟨#[c]⟩
theorem YZ {P:iN} {w:iO} {K:Frag} {tg:Expr} (it:Addr) (x:Str) (t:Tok) (ty:String) (y:["enumerate", "zip", "dict_itemiterator", "dict_reverseitemiterator", "odict_iterator", "itertools.zip_longest", "itertools.pairwise"].contains ty=iJ)
  (W:∀ A:iQ,A.handled=iH->Walks P w A it [it] [it] x.cps.size (SignAt x) (λi h=>h.IsStrIter it ty x t i)) (p:∀ (A:iQ) (i:Nat) (s:iL) (Q:iI->iL->Prop) (E:iI->iL->Prop),s.heap.IsStrIter it ty x t i->Q (.ref it) s->wpAny (model P w) A (pyIter (.ref it)) Q E s) :
  Turn P w K tg (Its x) [it] it (λi h=>h.IsStrIter it ty x t i/\i<=x.cps.size) where
 mem:=by simp
 obj:=λi h st b a=>by
  have e:b=it:=by simpa using a
  subst e;obtain ⟨o,e,c,d⟩:=st.1;exact ⟨o,e,λv z=>by rw [d] at z; cases z⟩
 keep:=λi h h' st k=>by obtain ⟨⟨o,e,r⟩,hi⟩:=st;exact ⟨⟨o,k it (by simp) o e,r⟩,hi⟩
 item:=by
  intro X l hw m j i pins s σ H E I f st hg;subst l hw m;obtain ⟨f0,f1,f2,q,f4,n⟩:=f it (by simp);refine (W X.A (I.ok.hd j)).item i s _ _ hg st.1 λv h' tk l g kp=>?_;have B:Inv X pins σ H { s with heap:=h',toks:=tk }:=I.turned (t':=tk) (λb o a e=>kp b o (by simpa using a) e) f0 f1 q f4 n;obtain ⟨o,e,c,d⟩:=id g;obtain ⟨S,u,h1,h2⟩:∃ S u,x.cps[i]?=iF S/\v=dt ⟨#[S]⟩ u:=by
   unfold SignAt at l;first
    | exact l
    | (obtain ⟨S,u,h1,h2⟩:=l; exact ⟨S,u,h1,h2⟩)
    | (obtain ⟨S,h1,u,h2⟩:=l; exact ⟨S,u,h1,h2⟩)
    | (obtain ⟨u,S,h1,h2⟩:=l; exact ⟨S,u,h1,h2⟩)
  subst h2;exact ⟨_,rfl,qbE (s:={ s with heap:=h',toks:=tk }) e c d y ⟨.str ⟨#[S]⟩,H,B,⟨u,rfl⟩,⟨rfl,S,h1,rfl⟩,⟨g,hg⟩,λb a=>(f b a).1⟩⟩
 done:=by intro X l hw m j i pins s σ H E I f st hg;subst l hw m;obtain ⟨f0,f1,f2,q,f4,n⟩:=f it (by simp);have hi:i=x.cps.size:=Nat.le_antisymm st.2 hg;subst hi;exact (W X.A (I.ok.hd j)).done s _ _ st.1 λh' tk kp=>⟨rfl,I.turned (t':=tk) (λb o a e=>kp b o (by simpa using a) e) f0 f1 q f4 n⟩
 self:=λA i s Q E st h=>p A i s Q E st.1 h
theorem qgT:ItIs K F (Its x) (Qv x) where
 go:=λi H hi _=>by
  have:i < x.cps.size:=by simpa [Qv] using hi
  exact this
 yld:=λi Fi H v H' d e s1 s2 y=>by
  obtain ⟨rfl,c,h1,rfl⟩:=y;have e:d=.str ⟨#[c]⟩:=by
   unfold Qv at e;rw [aG] at e;have h1:x.cps.toList[i]?=iF c:=by simpa using h1
   rw [h1] at e;exact (aN.inj e).symm
  subst e;exact ⟨Fi,.refl,s2,.str (YJ c)⟩
 stop:=λi H hi _=>by
  have:x.cps.size<=i:=by simpa [Qv] using hi
  exact this
noncomputable def jI:D->Out (List D)
 | .lst xs=>.ok xs
 | .tup xs=>.ok xs
 | .str x=>.ok (Qv x)
 | _=>.bad
noncomputable def jU (f:jg):wV:=λρ=>(f ρ).bind λp=>(jI p.1).bind λds=>.ok (ds,p.2)
section
variable {f:jg}
theorem qgU {l:Expr} {tl:TE} (hl:PE X l tl):PI X tg l (λσ H R=>tl σ H λx H1=>(∃ a,x=.ref a/\(((∃ xs,SqL X.K H1 a xs)/\R (Itl X.K a) H1)\/((∃ xs,SqT X.K H1 a xs)/\R (Itt X.K a) H1)))\/∃ z,x=.str z/\R (Its z) H1):=by
 refine ⟨?_⟩;intro pins s σ H R I h;refine thn (hl pins s σ H _ I h) λv s1 ⟨x,H1,d,r1,c⟩=>?_;have fp:∀ b∈[s1.heap.objs.size],Uh X pins H1 b:=λb f=>by
  have e:b=s1.heap.objs.size:=by simpa using f
  subst e;exact d.fpOk (aw _) (d.hok.fresh (aw _))
 rcases c with ⟨a,rfl,q⟩ | ⟨z,rfl,q⟩
 ·cases r1;rcases q with ⟨⟨xs,hq⟩,q⟩ | ⟨⟨xs,hq⟩,q⟩
  ·obtain ⟨its,r,p,hz⟩:=d.list hq;refine lj p.isList ?_;exact ⟨s1.heap.objs.size,[s1.heap.objs.size],_,_,H1,rfl,d.kept (t':=s1.toks) λb o e=>aa _ e,Gg a _,⟨_,ah _ rfl,rfl,rfl⟩,fp,q⟩
  ·obtain ⟨its,r,p,hz⟩:=d.tuple hq;refine wpAny_pyIter_tuple (show s1.heap.IsTuple a its.toArray from p) ?_;exact ⟨s1.heap.objs.size,[s1.heap.objs.size],_,_,H1,rfl,d.kept (t':=s1.toks) λb o e=>aa _ e,XW a _,⟨_,ah _ rfl,rfl,rfl⟩,fp,q⟩
 ·obtain ⟨t,rfl⟩:=r1;cases g:z.cps.all (· < 128) with
  | true=>refine wpAny_pyIter_ascii g ?_;exact ⟨s1.heap.objs.size,[s1.heap.objs.size],_,_,H1,rfl,d.kept (t':=s1.toks) λb o e=>aa _ e,YZ _ z t "str_ascii_iterator" (by decide) (λA hA=>Walks.strAscii hA _ z t) (λA i s Q E st h=>wpAny_pyIter_striter_ascii st h),⟨⟨_,ah _ rfl,rfl,rfl⟩,be _⟩,fp,q⟩
  | false=>refine wpAny_pyIter_wide g ?_;exact ⟨s1.heap.objs.size,[s1.heap.objs.size],_,_,H1,rfl,d.kept (t':=s1.toks) λb o e=>aa _ e,YZ _ z t "str_iterator" (by decide) (λA hA=>Walks.strWide hA _ z t) (λA i s Q E st h=>wpAny_pyIter_striter_wide st h),⟨⟨_,ah _ rfl,rfl,rfl⟩,be _⟩,fp,q⟩
theorem jb (b:C.K=X.K) (h:PE X e (tE C own m f)) (g:m≠.any:=by decide):PI X tg e (tIt C own (jU f)):=by
 refine qb3 (qgU (xE h g)) λσ H R ⟨F,ρ,r,h⟩=>⟨F,ρ,r,PoI.bindV h λv F1 H1 d ρ1 a k c h1=>?_⟩
 have c:Is C.K F1 v d:=c;cases c with
 | lst p t=>exact .inl ⟨_,rfl,.inl ⟨⟨_,by rw [<-b]; exact a.sub.seq p⟩,by rw [<-b]; exact h1 _ F1 H1 a k (qgK p t)⟩⟩
 | tup p t=>exact .inl ⟨_,rfl,.inr ⟨⟨_,by rw [<-b]; exact jm a.sub p⟩,by rw [<-b]; exact h1 _ F1 H1 a k (qgL p t)⟩⟩
 | str hz=>exact .inr ⟨_,rfl,h1 _ F1 H1 a k qgT⟩
 | _=>exact h1.elim
end
noncomputable def Qw (b:Bool):D->Out D
 | .lst ds=>match vf ds with
  | some bs=>.ok (.int (bs.countP (· == b):Nat))
  | none=>.bad
 | _=>.bad
noncomputable def Qx (b:Bool):D->Out D
 | .lst ds=>match vf ds with
  | some bs=>match bs.findIdx? (· == b) with
   | some j=>.ok (.int (j:Nat))
   | none=>.bad
  | none=>.bad
 | _=>.bad
section
variable {o:Expr} {fo:jg} {apos:Pos} {b:Bool}
theorem Wp (A:iQ) (s:iL) (c b:Bool):ii A s (.bool c) (.bool b) (c == b):=SeqAt.EqAt.bool_bool _ _
theorem qcd:MtR X "list.count" (λx vs H Q=>∃ (a:Addr) (xs:List V) (bs:List Bool) (b:Bool),x=.ref a/\vs=[.bl b]/\SqL X.K H a xs/\(∀ us,Vals xs us->us=bs.map aZ)/\Q (.int (bs.countP (· == b):Nat)) H):=by
 intro pins s σ H x vs v us Q I f g h;obtain ⟨a,xs,bs,b,rfl,rfl,hq,i,q⟩:=h;cases f;obtain ⟨u,rfl,A⟩:=g.one;cases A;obtain ⟨its,r,pl,hz⟩:=I.list hq;have e:=i its r;subst e;obtain ⟨⟨cls,dd,data,sl⟩,n,l,d,hd,t⟩:=pl;simp only at d hd t;subst d t;refine lf PySem.F.slot_list_count ⟨_,l,rfl⟩ PySem.F.entry_list_count (PySem.F.args_list_count_2 _ _) (SeqAt.list_countAt a _ n dd sl (.bool b) (λv=>v == .bool b)) ⟨l,λy B=>?_,?_⟩
 ·have B:y∈bs.map aZ:=by simpa using B
  obtain ⟨c,_,rfl⟩:=ax.mp B;have e:(aZ c == aZ b)=(c == b):=by cases c <;> cases b <;> rfl
  show ii _ s (.bool c) (.bool b) (aZ c == aZ b);rw [e];exact Wp _ s c b
 ·refine ⟨.int (bs.countP (· == b):Nat),H,I.tok _,⟨s.toks,?_⟩,q⟩;have e:(bs.map aZ).toArray.toList.countP (λv=>v == aZ b)=bs.countP (· == b):=by rw [List.toList_toArray,List.countP_map];congr 1;funext c;cases c <;> cases b <;> rfl
  rw [e]
theorem qce:MtR X "list.index" (λx vs H Q=>∃ (a:Addr) (xs:List V) (bs:List Bool) (b:Bool) (j:Nat),x=.ref a/\vs=[.bl b]/\SqL X.K H a xs/\(∀ us,Vals xs us->us=bs.map aZ)/\bs.findIdx? (· == b)=iF j/\Q (.int (j:Nat)) H):=by
 intro pins s σ H x vs v us Q I o p h;obtain ⟨a,xs,bs,b,j,rfl,rfl,hq,w,D,q⟩:=h;cases o;obtain ⟨u,rfl,A⟩:=p.one;cases A;obtain ⟨its,r,pl,hz⟩:=I.list hq;have e:=w its r;subst e;obtain ⟨⟨cls,dd,data,sl⟩,n,l,k,hd,t⟩:=pl;simp only at k hd t;subst k t;obtain ⟨i,g,f⟩:=bV.mp D;have d:bs.length<=sizeLine:=by have:=r.length; simp at this; omega
 have ev:∀ c:Bool,(aZ c == aZ b)=(c == b):=λc=>by cases c <;> cases b <;> rfl
 refine lf PySem.F.slot_list_index ⟨_,l,rfl⟩ PySem.F.entry_list_index (PySem.F.args_list_index_2 _ _) (SeqAt.list_indexAt a _ n dd sl (.bool b) (λv=>v == .bool b) j (by simpa using i) (by rw [iP] at d; omega) (by simp [ev]; simpa using g) λm z h1=>?_) ⟨l,λy B=>?_,?_⟩;·have:=f m h1;simp [ev];simpa using this
 ·have B:y∈bs.map aZ:=by simpa using B
  obtain ⟨c,_,rfl⟩:=ax.mp B;show ii _ s (.bool c) (.bool b) (aZ c == aZ b);rw [ev];exact Wp _ s c b
 ·exact ⟨.int (j:Nat),H,I.tok _,⟨_,rfl⟩,q⟩
theorem qcf {k c2} (z:C.K=X.K) (u:PE X o (tE C own m fo))
  (f:attributeBase o "count" X.env (eval o X.env)=eval o X.env:=by rfl)
  (w:((backTo cpos (starEach [.Constant (.bool b) k c2] X.env)).all (λx=>!x.1)&&(backToKw cpos (keywordEach [] X.env)).all (λx=>x.1.isSome)
   && decide ([Expr.Constant (.bool b) k c2].length+([]:List i0).length+(if ([]:List i0).isEmpty then 0 else 1) < 30))=true:=by exact vS rfl)
  (e:(apos.endLine == cpos.line)=true:=by rfl) (hs:starEach [.Constant (.bool b) k c2] X.env=[(iJ,eval (.Constant (.bool b) k c2) X.env)]:=by exact qI rfl) :
  PE X (.Call (.Attribute o "count" apos) [.Constant (.bool b) k c2] [] cpos) (tE C own .sh (d1 (Qw b) fo)):=by
 refine jB (Zg bS PySem.F.slot_list_count PySem.F.type_list_count qcd u (qN qdV jG hs) f w e hs rfl) λσ H Q h=>?_;obtain ⟨F,ρ,s,h⟩:=VW (ma:=m) h;refine ⟨F,ρ,s,?_⟩;cases q:fo ρ with
 | ok p=>
  rw [q] at h;obtain ⟨d,ρ1⟩:=p;intro v F1 H1 i k l;obtain ⟨A,dx,y,n,po⟩:=h v F1 H1 i k l;cases dx <;> try exact po.elim
  rename_i ds;unfold Qw at po;cases j:vf ds with
  | none=>simp only [j] at po; exact po.elim
  | some bs=>
   simp only [j] at po;obtain ⟨a,vs,rfl,hq,t⟩:=n.lst y;have g:SqL X.K H1 a vs:=by rw [<-z]; exact hq
   exact ⟨.inl ⟨rfl,vs,g⟩,a,vs,bs,b,rfl,rfl,g,λus r=>Kt t r j,po _ A H1 y .refl (.int _)⟩
 | exc c=>rw [q] at h; exact h
 | bad=>rw [q] at h; exact h.elim
theorem qcg {k c2} (B:C.K=X.K) (A:PE X o (tE C own m fo))
  (f:attributeBase o "index" X.env (eval o X.env)=eval o X.env:=by rfl)
  (w:((backTo cpos (starEach [.Constant (.bool b) k c2] X.env)).all (λx=>!x.1)&&(backToKw cpos (keywordEach [] X.env)).all (λx=>x.1.isSome)
   && decide ([Expr.Constant (.bool b) k c2].length+([]:List i0).length+(if ([]:List i0).isEmpty then 0 else 1) < 30))=true:=by exact vS rfl)
  (e:(apos.endLine == cpos.line)=true:=by rfl) (hs:starEach [.Constant (.bool b) k c2] X.env=[(iJ,eval (.Constant (.bool b) k c2) X.env)]:=by exact qI rfl) :
  PE X (.Call (.Attribute o "index" apos) [.Constant (.bool b) k c2] [] cpos) (tE C own .sh (d1 (Qx b) fo)):=by
 refine jB (Zg bS PySem.F.slot_list_index PySem.F.type_list_index qce A (qN qdV jG hs) f w e hs rfl) λσ H Q h=>?_;obtain ⟨F,ρ,z,h⟩:=VW (ma:=m) h;refine ⟨F,ρ,z,?_⟩;cases q:fo ρ with
 | ok p=>
  rw [q] at h;obtain ⟨d,ρ1⟩:=p;intro v F1 H1 i k s;obtain ⟨D,dx,y,u,po⟩:=h v F1 H1 i k s;cases dx <;> try exact po.elim
  rename_i ds;unfold Qx at po;cases n:vf ds with
  | none=>simp only [n] at po; exact po.elim
  | some bs=>
   simp only [n] at po;cases l:bs.findIdx? (· == b) with
   | none=>simp only [l] at po; exact po.elim
   | some j=>
    simp only [l] at po;obtain ⟨a,vs,rfl,hq,t⟩:=u.lst y;have g:SqL X.K H1 a vs:=by rw [<-B]; exact hq
    exact ⟨.inl ⟨rfl,vs,g⟩,a,vs,bs,b,j,rfl,rfl,g,λus r=>Kt t r n,l,po _ D H1 y .refl (.int _)⟩
 | exc c=>rw [q] at h; exact h
 | bad=>rw [q] at h; exact h.elim
end
end L2.D2
namespace L2.D2
open PySem PySem.Spec PySem.Calls PyProof.Rows PySem.W Builtin Builtin.ObjectAttr Builtin.Getset_descriptor
variable {K:Frag} {R:lF->iL->Prop}
section
variable {prog:iN} {w:iO} {A:iQ} {E:iI->iL->Prop} {h:Heap} {g:Array lE} {d:Drawn} {t:Nat} {os:j7} {a C:Addr} {o:Obj}
theorem qgV (X:K.In h) (b:Looks (model prog w) h (typeOf (.ref a)) (.ref C)) (c:mroIn K C (.type "object")=iF iK) (hq:R (.ok (.ret (.ref C))) ⟨h,g,d,t,os⟩):codeAny (model prog w) A (.call (.builtin "getset_descriptor.__get__") ⟨[.builtin "object.__class__",.ref a,.ref C],[]⟩) R ⟨h,g,d,t,os⟩:=by
 have L:=looks_mroIn (M:=model prog w) X c;refine codeAny_call_builtin KF.slot_gs.plain KF.entry_gs (KF.slot_gs.check _ _ _ _ _ _ _ _ ib (KF.args_gs _ _ _) ?_);unfold Builtin.«getset_descriptor.__get__» descrGet;rw [dga_obj];refine iG (iM ?_);unfold descrGetter descrCheckInstance descrNameAndClass isInstance;simp only [KF.owner_class];repeat lk
 refine ⟨Code.quiet_builtin _ (by decide +kernel),iZ KF.entry_class ?_⟩;unfold Builtin.«object.__class__» shownTypeOf;repeat lk
 exact hq
theorem qch {n:iI} {Q:Unit->iL->Prop} (X:K.In h) (c:Looks (model prog w) h (typeOf (.ref a)) (.ref C)) (hs:subIn K (.ref C) (.type "BaseException")=iF iK) (hq:Q () ⟨h,g,d,t,os⟩):wpAny (model prog w) A (checkBuiltinCall "BaseException.__getattribute__" ⟨[.ref a,n],[]⟩) Q E ⟨h,g,d,t,os⟩:=by
 have k:builtinKind "BaseException.__getattribute__"=iF .slot:=by decide +kernel
 have b:splitId "BaseException.__getattribute__"=iF ("BaseException", "__getattribute__"):=by decide +kernel
 have e:=F.args_bexc_ga (.ref a) n;have L:Looks (model prog w) h (isInstance (.ref a) (.type "BaseException")) true:=c.andThen (looks_subIn X hs);simp only [checkBuiltinCall,k,b];refine iG (L.at ?_);repeat (first | assumption | wp_step)
theorem qci {tk:Tok} {Q:Fin->iL->Prop} (X:K.In h) (b:Looks (model prog w) h (typeOf (.ref a)) (.ref C)) (W:findIn K (.ref C) "__class__"=iF (iF (.builtin "object.__class__"))) (c:mroIn K C (.type "object")=iF iK) (hq:Q (.done (.ret (.ref C))) ⟨h,g,d,t,os⟩):wpAny (model prog w) A (Builtin.«object.__getattribute__» ⟨[.ref a,.str "__class__" tk],[]⟩) Q E ⟨h,g,d,t,os⟩:=by
 have L:=looks_findIn (M:=model prog w) X W;have e:(⟨h,g,d,t,os⟩:iL).TypeIs (.builtin "object.__class__") "getset_descriptor":=ib;have n:=ib;have i:=F.slot_gs_get.lookup;have f:=F.slot_gs_set.lookup;repeat (any_goals (first | assumption | with_reducible refine b.at ?_ | with_reducible refine L.at ?_ | wp_step))
 refine qgV X b c ?_;repeat (any_goals (first | assumption | wp_step))
theorem qeK {tk:Tok} (X:K.In h) (b:Looks (model prog w) h (typeOf (.ref a)) (.ref C)) (hs:subIn K (.ref C) (.type "BaseException")=iF iK) (W:findIn K (.ref C) "__class__"=iF (iF (.builtin "object.__class__"))) (c:mroIn K C (.type "object")=iF iK) (hq:R (.ok (.ret (.ref C))) ⟨h,g,d,t,os⟩):codeAny (model prog w) A (.call (.builtin "BaseException.__getattribute__") ⟨[.ref a,.str "__class__" tk],[]⟩) R ⟨h,g,d,t,os⟩:=
 codeAny_call_builtin F.excAttr_ValueError.ga.plain F.entry_bexc_ga (qch X b hs (qci X b W c hq))
theorem qi5 {tk:Tok} {f e:Bool} {Q:iI->iL->Prop} (X:K.In h) (L:Looks (model prog w) h (typeOf (.ref a)) (.ref C)) (hs:subIn K (.ref C) (.type "BaseException")=iF iK) (g1:findIn K (.ref C) "__getattribute__"=iF (iF (.builtin "BaseException.__getattribute__"))) (Y:findIn K (.ref C) "__getattr__"=iF iH)
  (W:findIn K (.ref C) "__class__"=iF (iF (.builtin "object.__class__"))) (m:mroIn K C (.type "object")=iF iK) (hq:Q (.ref C) ⟨h,g,d,t,os⟩) :
  wpAny (model prog w) A (getAttrBy (.ref a) (.str "__class__" tk) f e) Q E ⟨h,g,d,t,os⟩:=by
 have j:=looks_findIn (M:=model prog w) X g1;have L2:=looks_findIn (M:=model prog w) X Y;have q:=F.excAttr_ValueError.ga.bind (.ref a);have i:(e&&onTheHeap (dw "BaseException.__getattribute__"))=false:=by cases e <;> rfl
 have b:(dw "BaseException.__getattribute__" == dw "object.__getattribute__")=false:=by decide +kernel
 have c:(onTheHeap (aI C)&&dw "BaseException.__getattribute__" == dw "object.__getattribute__")=false:=by rw [b]; rfl
 repeat (any_goals (first | assumption | with_reducible refine L.at ?_ | with_reducible refine j.at ?_ | with_reducible refine L2.at ?_ | wp_step))
 refine qeK X L hs W m ?_;repeat (any_goals (first | assumption | wp_step))
theorem qeL {Q:Option iI->iL->Prop} (X:K.In h) (b:Looks (model prog w) h (typeOf (.ref a)) (.ref C)) (hs:subIn K (.ref C) (.type "BaseException")=iF iK) (g1:findIn K (.ref C) "__getattribute__"=iF (iF (.builtin "BaseException.__getattribute__"))) (Y:findIn K (.ref C) "__getattr__"=iF iH)
  (W:findIn K (.ref C) "__class__"=iF (iF (.builtin "object.__class__"))) (c:mroIn K C (.type "object")=iF iK) (hq:Q (iF (.ref C)) ⟨h,g,d,t+1,os⟩) :
  wpAny (model prog w) A (getAttr? (.ref a) "__class__") Q E ⟨h,g,d,t,os⟩:=by
 unfold getAttr? getAttrBy?;exact iG (wpAny_mkText (iG (i6 (qi5 X b hs g1 Y W c (iM hq)))))
end
noncomputable def xcB (K:Frag) (C:Addr):Bool:=decide (subIn K (.ref C) (.type "BaseException")=iF iK)&&decide (findIn K (.ref C) "__getattribute__"=iF (iF (.builtin "BaseException.__getattribute__")))&&decide (findIn K (.ref C) "__getattr__"=iF iH) &&
 decide (findIn K (.ref C) "__class__"=iF (iF (.builtin "object.__class__")))&&decide (mroIn K C (.type "object")=iF iK)&&(clsIn K C).isSome
def qeM (a C:Addr) (h:Heap):Prop:=∃ o vs,h.get? a=iF o/\o.cls=.ref C/\o.data=.fields vs
theorem qcj {a C:Addr} (b:xcB K C=iK):KitX K (.ref a) (.ref C) (qeM a C):=by
 unfold xcB at b;simp only [aM,decide_eq_true_eq] at b;obtain ⟨⟨⟨⟨⟨r,z⟩,o⟩,m⟩,f⟩,j⟩:=b;have ty:∀ (M:Model) (h:Heap),qeM a C h->Looks M h (typeOf (.ref a)) (.ref C):=λM h ⟨u,vs,e1,i,v⟩=>by rw [<-i]; exact (Looks.ld e1).andThen .now
 refine ⟨λM h _ x=>ty M h x,λM h X _=>?_,λh p dd its n sl X ht=>?_,λ{prog w A E Q s} X x hq=>?_⟩
 ·unfold clsIn at j;split at j;·rename_i S d' e c l;intro D y B s' k q;unfold isType loadHead;exact iG (wpAny_loadPart (k _ _ (X _ _ l)) (iM q))
  ·cases j
 ·refine Bool.eq_false_iff.mpr λq=>?_;have q:aI C=aI p:=beq_iff_eq.mp q;cases q;unfold clsIn at j;split at j;·rename_i S d' e c l;rw [X _ _ l] at ht;cases ht
  ·cases j
 ·obtain ⟨h,g,d,t,os⟩:=s;exact qeL X (ty _ h x) r z o m f hq
noncomputable def JK (ans:Addr->Option Bool):D->Out D
 | .xcp C=>match ans C with
  | some b=>.ok (.bl b)
  | none=>.bad
 | _=>.bad
section
variable {X:Cx} {C:Ct} {own:List Nat} {a:Expr} {fa:jg} {ma:Mo} {pos:Pos} {cls:iI} {vc:V} {ans:Addr->Option Bool}
theorem Xa (g:∀ Cc b,ans Cc=iF b->xcB X.K Cc=iK/\kitOne X.K (.ref Cc) cls=iF b) (j:RelV vc cls):yb X (.builtin "isinstance") (λxs H Q=>∃ x F d,xs=[x,vc]/\Same F H/\TopIs C.K F H x d/\PoV C .sh F H (JK ans d) Q):=by
 intro pins s σ H xs us Q I r h;obtain ⟨x,F,d,rfl,y,f,po⟩:=h;obtain ⟨u,c,rfl,A,a⟩:=Za r;cases d with
 | xcp Cc=>
  unfold JK at po;cases q:ans Cc with
  | none=>simp only [q] at po; exact po.elim
  | some b=>
   simp only [q] at po;obtain ⟨h1,h2⟩:=g Cc b q;rcases f with f | ⟨_,_,f⟩
   ·cases f with
    | @xcp ad _ hF=>
     cases A;have hx:qeM ad Cc s.heap:=(show ObjOk X.prog X.w H s.heap ad (Ux ad Cc) from I.hok ad _ (y _ _ hF)).1;have e:cls=c:=by
      cases vc with
      | ref z=>exact (show cls=aI z from j).trans (show c=aI z from a).symm
      | ty z=>exact (show cls=df z from j).trans (show c=df z from a).symm
      | non=>exact (show cls=bw from j).trans (show c=bw from a).symm
      | bl z=>exact (show cls=aZ z from j).trans (show c=aZ z from a).symm
      | int z=>obtain ⟨t,rfl⟩:=j; unfold kitOne kitCls at h2; simp at h2
      | str z=>obtain ⟨t,rfl⟩:=j; unfold kitOne kitCls at h2; simp at h2
      | byt z=>obtain ⟨t,rfl⟩:=j; unfold kitOne kitCls at h2; simp at h2
      | flt z=>obtain ⟨t,rfl⟩:=j; unfold kitOne kitCls at h2; simp at h2
     subst e;exact kia_one (qcj h1) I.kIn hx h2 (λz=>nomatch z) λtk=>⟨.bl b,H,I.tok tk,rfl,po _ F H y .refl (.bl b)⟩
   ·exact f.elim
 | _=>exact po.elim
theorem Xb {σ:St} {H:Hp} {Q:VK} (h:tE C own .sh (d1 (JK ans) fa) σ H Q):Zf (tE C own ma fa) (Zf (tC vc) qgo) σ H λxs H1=>∃ x F d,xs=[x,vc]/\Same F H1/\TopIs C.K F H1 x d/\PoV C .sh F H1 (JK ans d) Q:=by
 obtain ⟨F,ρ,r,h⟩:=VW (ma:=ma) h;refine ⟨F,ρ,r,?_⟩;cases q:fa ρ with
 | ok p=>rw [q] at h;obtain ⟨d,ρ1⟩:=p;intro v F1 H1 a k m;obtain ⟨b,dx,z⟩:=h v F1 H1 a k m;exact ⟨v,b,dx,rfl,z⟩
 | exc c=>rw [q] at h; exact h
 | bad=>rw [q] at h; exact h.elim
theorem zg {cn:Str} {Ct:Addr} {p t:Pos} (hg:Gl X "isinstance") (m:X.mg "isinstance"=iH) (d:bootBuiltins "isinstance"=iF (.builtin "isinstance")) (ht:Gl X cn) (e:X.mg cn=iF (.ref Ct)) (g:∀ Cc b,ans Cc=iF b->xcB X.K Cc=iK/\kitOne X.K (.ref Cc) (.ref Ct)=iF b) (f:PE X a (tE C own ma fa)) (c:Dbg cn:=by decide)
  (h1:starEach [a,.Name cn t] X.env=(iJ,eval a X.env)::starEach [.Name cn t] X.env:=by rfl) (h2:starEach [.Name cn t] X.env=[(iJ,eval (.Name cn t) X.env)]:=by rfl):PE X (.Call (.Name "isinstance" p) [a,.Name cn t] [] pos) (tE C own .sh (d1 (JK ans) fa)):=
 jB (wY (Xa (vc:=.ref Ct) g rfl) hg m d (qN f (qN (Gc (v:=.ref Ct) ht e rfl c) jG h2) h1) (by decide) (by decide) (by rw [h1]) (by rw [h2]; rfl)) λσ H Q h=>Xb h
theorem qeN {cn:Str} {T:String} {p t:Pos} (hg:Gl X "isinstance") (m:X.mg "isinstance"=iH) (f:bootBuiltins "isinstance"=iF (.builtin "isinstance")) (ht:Gl X cn) (e:X.mg cn=iH) (c:bootBuiltins cn=iF (.type T)) (g:∀ Cc b,ans Cc=iF b->xcB X.K Cc=iK/\kitOne X.K (.ref Cc) (.type T)=iF b) (i:PE X a (tE C own ma fa)) (n:cn ≠ "__name__":=by decide) (d:Dbg cn:=by decide)
  (h1:starEach [a,.Name cn t] X.env=(iJ,eval a X.env)::starEach [.Name cn t] X.env:=by rfl) (h2:starEach [.Name cn t] X.env=[(iJ,eval (.Name cn t) X.env)]:=by rfl):PE X (.Call (.Name "isinstance" p) [a,.Name cn t] [] pos) (tE C own .sh (d1 (JK ans) fa)):=
 jB (wY (Xa (vc:=.ty T) g rfl) hg m f (qN i (qN (Ge (v:=.ty T) ht e c rfl n d) jG h2) h1) (by decide) (by decide) (by rw [h1]) (by rw [h2]; rfl)) λσ H Q h=>Xb h
end
end L2.D2
namespace L2.D2
open PySem PySem.Spec PyProof.Rows
variable {P:iN} {w:iO} {K:Frag} {N:List Str} {A:iQ} {C:Ct}
theorem qgW {mg:Str->Option iI} {base:Heap} {qual:Str} {scope:lh} {f:Addr} {cd:iI} {outer:List Env} {s0:iL} {H0:Hp} {E:XK} (h:C.E=E):YO (cxk P w K mg base N qual scope f cd A outer s0 H0 E) C:=by subst h;exact qgP
theorem RoomQ.mono {j k:Nat} (r:RoomQ k A) (h:j<=k):RoomQ j A:=⟨by have:=r.dp; omega,by have:=r.un; omega⟩
noncomputable def qgX (ca:Str->Addr) (cs:List Str) (c:Str):Option Addr:=if c∈cs then iF (ca c) else iH
noncomputable def Zu (ca:Str->Addr) (cs:List Str) (x:Str) (C:Addr):Option Bool:=if C∈cs.map ca then iF (decide (C=ca x)) else iH
noncomputable def qgY (ca:Str->Addr) (cs:List Str) (C:Addr):Option Bool:=if C∈cs.map ca then iF iK else iH
structure Xs (K:Frag) (cv:Str->iI) (ca:Str->Addr) (cs:List Str) (top:Str):Prop where
 val:∀ c∈cs,cv c=.ref (ca c)
 own:∀ c∈cs,dI K (.ref (ca c)) (cv top)=iF iK
 cls:∀ c∈cs,xcB K (ca c)=iK
 kit:∀ c∈cs,∀ d∈cs,bX K (.ref (ca c)) (.ref (ca d))=iF (decide (ca c=ca d))
 ve:∀ c∈cs,bX K (.ref (ca c)) (.type "ValueError")=iF iK
variable {x:Str}
section
variable {cv:Str->iI} {ca:Str->Addr} {cs:List Str} {top:Str}
theorem Xs.hit (z:Xs K cv ca cs top):∀ c Cc,qgX ca cs c=iF Cc->cv c=.ref Cc/\dI K (.ref Cc) (cv top)=iF true:=λc Cc h=>by
 unfold qgX at h;split at h;·cases h;exact ⟨z.val c (by assumption),z.own c (by assumption)⟩
 ·cases h
theorem Xs.ans (z:Xs K cv ca cs top) (hx:x∈cs):∀ Cc b,Zu ca cs x Cc=iF b->xcB K Cc=iK/\bX K (.ref Cc) (.ref (ca x))=iF b:=λCc b h=>by
 unfold Zu at h;split at h;·rename_i m;obtain ⟨c,d,rfl⟩:=ax.mp m;cases h;exact ⟨z.cls c d,z.kit c d x hx⟩
 ·cases h
theorem Xs.ansV (z:Xs K cv ca cs top):∀ Cc b,qgY ca cs Cc=iF b->xcB K Cc=iK/\bX K (.ref Cc) (.type "ValueError")=iF b:=λCc b h=>by
 unfold qgY at h;split at h;·rename_i m;obtain ⟨c,d,rfl⟩:=ax.mp m;cases h;exact ⟨z.cls c d,z.ve c d⟩
 ·cases h
end
inductive SK where
 | l | t
noncomputable def SK.itc:SK->String
 | .l => "list_iterator"
 | .t => "tuple_iterator"
def SeqK (h:Heap) (a:Addr):SK->Array iI->Prop
 | .l,xs=>h.IsList a xs
 | .t,xs=>h.IsTuple a xs
def ItK (h:Heap) (it a:Addr):SK->Nat->Prop
 | .l,i=>h.IsListIter it a i
 | .t,i=>h.IsTupleIter it a i
def SqK (K:Frag) (H:Hp) (a:Addr):SK->List V->Prop
 | .l,xs=>SqL K H a xs
 | .t,xs=>SqT K H a xs
variable {h h':Heap} {a:Addr} {xs:Array iI}
theorem SeqK.at:∀ {k:SK},SeqK h a k xs->(∀ o,h.get? a=iF o->h'.get? a=iF o)->SeqK h' a k xs
 | .l,⟨o,e,c⟩,k=>⟨o,k _ e,c⟩
 | .t,⟨o,e,c⟩,k=>⟨o,k _ e,c⟩
theorem SeqK.lt:∀ {k:SK},SeqK h a k xs->a < h.objs.size
 | .l,⟨o,e,c⟩=>ap e
 | .t,⟨o,e,c⟩=>ap e
variable {it:Addr} {i:Nat}
theorem ItK.obj:∀ {k:SK},ItK h it a k i->∃ o,h.get? it=iF o/\o.cls=.type k.itc/\o.data=.fields #[.ref a,.int i 0]
 | .l,⟨o,e,c,d⟩=>⟨o,e,c,d⟩
 | .t,⟨o,e,c,d⟩=>⟨o,e,c,d⟩
theorem ItK.of:∀ {k:SK},(∃ o,h.get? it=iF o/\o.cls=.type k.itc/\o.data=.fields #[.ref a,.int i 0])->ItK h it a k i
 | .l,⟨o,e,c,d⟩=>⟨o,e,c,d⟩
 | .t,⟨o,e,c,d⟩=>⟨o,e,c,d⟩
variable {E:iI->iL->Prop} {prog:iN} {s:iL} {Q:Option iI->iL->Prop} {l:Addr} {items:Array iI} {o:Obj} {n:Nat}
section
theorem qck {k:SK} {Q:iI->iL->Prop} (h:SeqK s.heap a k xs) (c:Q (.ref s.heap.objs.size) { s with heap:=s.heap.push { cls:=.type k.itc,data:=.fields #[.ref a,.int 0 0] } }):wpAny (model prog w) A (pyIter (.ref a)) Q E s:=by
 cases k with
 | l=>exact lj h c
 | t=>exact wpAny_pyIter_tuple h c
noncomputable def SK.cl:SK->String
 | .l => "list"
 | .t => "tuple"
theorem qad {k:SK} (b:A.handled=iH) (hi:ItK s.heap it l k i) (hl:SeqK s.heap l k items) (hx:items[i]?=iH) (c:∀ h',ia it s.heap h'->Q iH { s with heap:=h' }):wpAny (model prog w) A (pyNext (.ref it)) Q E s:=by
 cases k with
 | l=>exact wpAny_pyNext_list_end b hi hl hx c
 | t=>exact wpAny_pyNext_tuple_end b hi hl hx c
theorem Zv {k:SK} {x:iI} (hi:ItK s.heap it l k i) (hl:SeqK s.heap l k items) (hx:items[i]?=iF x) (c:∀ h',ItK h' it l k (i+1)->bj it s.heap h'->Q (iF x) { s with heap:=h' }):wpAny (model prog w) A (pyNext (.ref it)) Q E s:=by
 cases k with
 | l=>exact wpAny_pyNext_list_item hi hl hx c
 | t=>exact wpAny_pyNext_tuple_item hi hl hx c
theorem SeqK.of (e:h.get? a=iF o) (d:o.data=.seq xs n):∀ {k:SK},o.cls=.type k.cl->SeqK h a k xs
 | .l,c=>⟨o,e,c,n,d⟩
 | .t,c=>⟨o,e,c,n,d⟩
end
variable {sk:SK}
section
theorem Zw:typeLookup (.type "tuple") "keys"=pure none:=by rw [lb,i9]; kernel_rfl
theorem Js {k:Nat} {Q:Option iI->iL->Prop} (n:A.handled=iH) (hx:s.heap.get? a=iF o) (l:o.cls=.type "tuple") (t:o.data=.seq xs k) (hd:o.dict=iH)
  (h:∀ h' tk,(∀ b j,s.heap.get? b=iF j->h'.get? b=iF j)->Q iH { s with heap:=h',toks:=tk }):wpAny (model prog w) A (getAttr? (.ref a) "keys") Q E s:=by
 obtain ⟨c,dct,dat,sl⟩:=o;simp only at l t hd;subst l t hd;obtain ⟨hp,g,d,tk,os⟩:=s;have hT:∀ f,(⟨hp,g,d,f,os⟩:iL).TypeIs (.ref a) "tuple":=λ_=>⟨_,hx,rfl⟩
 have f1:=sub_AttributeError;have u:=dN.lookup;have f4:=dN.bind (.ref a);have r:=am_tuple_getattr_none;have p:=Zw;have m:(["__module__", "__name__", "__qualname__", "__doc__", "__annotations__"]:List Str).contains ("keys":Str)=false:=by decide +kernel
 have hsz:("keys":Str).length+100<=sizeLine:=by rw [iP]; decide +kernel
 unfold getAttr? getAttrBy?;refine iG (wpAny_mkText (iG (i6 ?_)));unfold getAttrBy;repeat (any_goals (first | assumption | exact hT _ | ((with_reducible show wpAny _ _ (call (dw "tuple.__getattribute__") _ _) _ _ _); refine lf dN (hT _) am_entry_tuple_getattribute (F.args_tuple_getattribute_2 _ _) (meets_getattribute_miss_tuple a xs k sl "keys" _ p m hsz) ⟨hx,n,λh' f e i=>?_⟩) | wp_step))
 obtain ⟨t',U,q⟩:=i.there;show wpAny _ _ (getattributeRaised _ _ _ _ _ _ _) _ _ _;unfold getattributeRaised;repeat (any_goals (first | assumption | wp_step))
 exact h h' f i.keeps
theorem Zx:typeLookup (.type "list") "keys"=pure none:=by rw [lb,i9]; kernel_rfl
theorem Qy {k:Nat} {Q:Option iI->iL->Prop} (n:A.handled=iH) (hx:s.heap.get? a=iF o) (l:o.cls=.type "list") (t:o.data=.seq xs k) (hd:o.dict=iH)
  (h:∀ h' tk,(∀ b j,s.heap.get? b=iF j->h'.get? b=iF j)->Q iH { s with heap:=h',toks:=tk }):wpAny (model prog w) A (getAttr? (.ref a) "keys") Q E s:=by
 obtain ⟨c,dct,dat,sl⟩:=o;simp only at l t hd;subst l t hd;obtain ⟨hp,g,d,tk,os⟩:=s;have hT:∀ f,(⟨hp,g,d,f,os⟩:iL).TypeIs (.ref a) "list":=λ_=>⟨_,hx,rfl⟩
 have f1:=sub_AttributeError;have u:=dS.lookup;have f4:=dS.bind (.ref a);have r:=am_list_getattr_none;have p:=Zx;have m:(["__module__", "__name__", "__qualname__", "__doc__", "__annotations__"]:List Str).contains ("keys":Str)=false:=by decide +kernel
 have hsz:("keys":Str).length+100<=sizeLine:=by rw [iP]; decide +kernel
 unfold getAttr? getAttrBy?;refine iG (wpAny_mkText (iG (i6 ?_)));unfold getAttrBy;repeat (any_goals (first | assumption | exact hT _ | ((with_reducible show wpAny _ _ (call (dw "list.__getattribute__") _ _) _ _ _); refine lf dS (hT _) am_entry_list_getattribute (F.args_list_getattribute_2 _ _) (meets_getattribute_miss_list a xs k sl "keys" _ p m hsz) ⟨hx,n,λh' f e i=>?_⟩) | wp_step))
 obtain ⟨t',U,q⟩:=i.there;show wpAny _ _ (getattributeRaised _ _ _ _ _ _ _) _ _ _;unfold getattributeRaised;repeat (any_goals (first | assumption | wp_step))
 exact h h' f i.keeps
theorem gj:entryFor table "dict.update.loop"=iF Builtin.«dict.update.loop»:=entryFor_of_tree (by kernel_rfl)
theorem kJ:plainId "dict.update.loop"=true:=by decide +kernel
def qae (h:Heap) (v key val:iI):Prop:=∃ p o n,v=.ref p/\h.get? p=iF o/\o.cls=.type "tuple"/\o.data=.seq #[key,val] n
theorem qcl {sk:SK} {R:lF->iL->Prop} {d t:Addr} (hh:A.in1.handled=iH) (Q:d≠t) (u:d≠it) (M:t≠it):∀ (n i:Nat) (s:iL) (kvs:List (Key×iI)) (ps:List (Key×iI×iI)),items.size - i=n->i<=items.size ->ItK s.heap it t sk i->SeqK s.heap t sk items->s.heap.DictOf (qZ prog w) d kvs->ps.length=n->(∀ j p,ps[j]?=iF p->∃ v,items[i+j]?=iF v/\Qf p.1 p.2.1=iK/\qae s.heap v p.2.1 p.2.2)->kvs.length+n<=sizeLine ->(∀ h' tk,h'.DictOf (qZ prog w) d (ps.foldl (λl p=>stored l p.1 p.2.2) kvs)->(∀ b o,b≠d->b≠it->s.heap.get? b=iF o->h'.get? b=iF o)->R (.ok (.ret .none)) { s with heap:=h',toks:=tk }) ->codeAny (model prog w) A (.builtin "dict.update.loop" ⟨[.ref d,.ref it,rawInt i,.none],[]⟩) R s:=by
 intro n
 induction n with
 | zero=>intro i s kvs ps hn hi st ht hd hl hp hz V;have e:ps=[]:=d9.mp hl;subst e;refine iZ gj ?_;rw [br kJ _];show wpAny _ A.in1 (pyNext (.ref it) >>= _) _ _ s;refine iG (qad hh st ht (by simp; omega) λh' Y=>?_);show wpAny _ A.in1 (ret bw) _ _ _;refine iM (V h' s.toks ?_ λb o _ h2 e=>Y b o h2 e);obtain ⟨o,es,ep,D,r⟩:=hd;exact ⟨o,es,ep,Y d o u D,r⟩
 | succ n ih=>
  intro i s kvs ps hn hi st ht hd hl hp hz V;cases ps with
  | nil=>simp at hl
  | cons p ps=>
   obtain ⟨v,hv,hk,q,W,nq,rfl,hq,O,c⟩:=hp 0 p rfl;obtain ⟨od,es,ep,g,hdx,a⟩:=id hd;have F:q≠d:=λz=>by subst z;rw [hq] at g; cases g;rw [a.1] at c; cases c
   obtain ⟨oi,f,hic,E⟩:=st.obj;have J:q≠it:=λz=>by subst z;rw [hq] at f; cases f;rw [E] at c; cases c
   refine iZ gj ?_;rw [br kJ _];show wpAny _ A.in1 (pyNext (.ref it) >>= _) _ _ s;refine iG (Zv st ht (x:=.ref q) (by simpa using hv) λh' H G=>?_);have C:h'.get? q=iF W:=(G.2 q J).trans hq;have U:fX { s with heap:=h' } (.ref q) "tuple":=⟨W,C,O⟩
   have T:h'.DictOf (qZ prog w) d kvs:=by obtain ⟨o,es,ep,D,r⟩:=hd;exact ⟨o,es,ep,(G.2 d u).trans D,r⟩
   have N:SeqK h' t sk items:=ht.at λo D=>(G.2 t M).trans D;dsimp only;refine iG (iW (iG ?_));refine wpAny_tryCatch ?_;unfold Builtin.Dict.pairItems;refine iG (ll U ?_);rw [if_pos (by decide)];refine iG (iT C c (iM ?_));show wpAny _ A.in1 (holding [p.2.1,p.2.2] (dictSet d p.2.1 p.2.2)) _ _ _;refine iW (wpAny_dictSet_pairs (knd:=qZ prog w) hk T (λh2 hd2 k=>?_) (by omega));have keep:∀ b o,b≠d->b≠it->s.heap.get? b=iF o->h2.get? b=iF o:=λb o n1 n2 e=>(k.2 b n1).trans ((G.2 b n2).trans e);have X:(stored kvs p.1 p.2.2).length<=kvs.length+1:=by unfold stored;split <;> simp
   refine iM ⟨k6 kJ _,?_⟩;have ec:rawInt ((i:Int)+1)=rawInt ((i+1:Nat):Int):=by push_cast; rfl
   rw [ec];refine ih (i+1) _ (stored kvs p.1 p.2.2) ps (by omega) (by omega) ?_ ?_ hd2 (by simpa using hl) (λj Z e=>?_) (by omega) λh3 tk S k3=>?_;·obtain ⟨o,e,r⟩:=H.obj;exact .of ⟨o,(k.2 it (bf u)).trans e,r⟩
   ·exact N.at λo e=>(k.2 t (bf Q)).trans e
   ·obtain ⟨v',L,P,I,y,K,rfl,m,B,h⟩:=hp (j+1) Z (by simpa using e);refine ⟨.ref I,by rw [show i+1+j=i+(j+1) by omega]; exact L,P,I,y,K,rfl,keep I y (λz=>?_) (λz=>?_) m,B,h⟩;·subst z;rw [m] at g; cases g;rw [a.1] at h; cases h
    ·subst z;rw [m] at f; cases f;rw [E] at h; cases h
   ·exact V h3 tk S λb o n1 n2 e=>k3 b o n1 n2 (keep b o n1 n2 e)
theorem Qz {t:Addr} {ps:List (Key×iI×iI)} {Q:iI->iL->Prop} (J:A.handled=iH) {m:Obj} {nt:Nat} (z:s.heap.get? t=iF m) (d:m.cls=.type sk.cl) (n:m.dict=iH) (f:m.data=.seq items nt)
  (hl:ps.length=items.size) (hp:∀ (j:Nat) (p:Key×iI×iI),ps[j]?=iF p->∃ v,items[j]?=iF v/\Qf p.1 p.2.1=iK/\qae s.heap v p.2.1 p.2.2) (hz:items.size<=sizeLine)
  (h:∀ h' tk,h'.DictOf (qZ prog w) s.heap.objs.size (ps.foldl (λl p=>stored l p.1 p.2.2) [])->(∀ b o,s.heap.get? b=iF o->h'.get? b=iF o)->Q (.ref s.heap.objs.size) { s with heap:=h',toks:=tk }) :
  wpAny (model prog w) A (call (.type "dict") [.ref t]) Q E s:=by
 refine callType_codes (Q₁:=λobj k=>obj=.ref s.heap.objs.size/\k={ s with heap:=s.heap.push { cls:=.type "dict",data:=.dict #[] } }) F.kt_called_dict (F.kt_typeCall_dict_1 _) F.entry_dict_init (kt_code_dict_new _ ⟨rfl,rfl⟩) ?_;rintro obj k ⟨rfl,rfl⟩;have i:(s.heap.push { cls:=.type "dict",data:=.dict #[] }).DictOf (qZ prog w) s.heap.objs.size []:=Heap.DictOf.new s.heap;refine ⟨i.typeIs,F.args_dict_init_2 _ _,?_⟩;unfold Builtin.«dict.__init__»;refine iG ?_;unfold Builtin.Dict.selfAndRest;refine iG (wpAny_notOrdered_dict i.typeIs ?_);show wpAny _ _ (pure (s.heap.objs.size,[aI t])) _ _ _;refine iM ?_;show wpAny _ _ (Builtin.Dict.updateFrom "dict.__init__" s.heap.objs.size (.ref t) [] .none) _ _ _;unfold Builtin.Dict.updateFrom;have g:(s.heap.push { cls:=.type "dict",data:=.dict #[] }).get? t=iF m:=aa _ z;have C:t < s.heap.objs.size:=ap z;refine iG (ll (T:=sk.cl) ⟨m,g,d⟩ ?_);rw [if_pos (by cases sk <;> decide)];have P:∀ {L:Option iI->iL->Prop} {A1:iQ} {R:iI->iL->Prop} {s1:iL},A1.handled=iH->s1.heap.get? t=iF m->(∀ h' tk,(∀ b I,s1.heap.get? b=iF I->h'.get? b=iF I)->L iH { s1 with heap:=h',toks:=tk })->wpAny (model prog w) A1 (getAttr? (.ref t) "keys") L R s1:=λa b c=>by
  cases sk with
  | l=>exact Qy a b d f n c
  | t=>exact Js a b d f n c
 refine iG (P (by exact J) g λh1 H k1=>?_);rw [if_pos (show (iH:Option iI).isNone=iK from rfl)];refine iG (k9 ?_);have y:h1.get? t=iF m:=k1 _ _ g;have D:h1.DictOf (qZ prog w) s.heap.objs.size []:=by obtain ⟨o,es,ep,B,r⟩:=i;exact ⟨o,es,ep,k1 _ _ B,r⟩
 have x:SeqK h1 t sk items:=.of y f d;refine iG (qck (s:={ s with heap:=h1,toks:=H }) x ?_);have u:s.heap.objs.size < h1.objs.size:=let ⟨o,es,ep,B,r⟩:=D; ap B;have up:∀ b o,s.heap.get? b=iF o->(h1.push { cls:=.type sk.itc,data:=.fields #[.ref t,.int 0 0] }).get? b=iF o:=λb o e=>aa _ (k1 _ _ (aa _ e));refine iM ⟨k6 kJ _,?_⟩;refine qcl (items:=items) (t:=t) (A:=A.in1) (show A.in1.in1.handled=iH from J) (cG C) (ay u) (ay (cV C u)) items.size 0 _ [] ps (by omega) (be _) (.of ⟨_,ah _ rfl,rfl,rfl⟩) ?_ ?_ hl (λj p e=>?_) (by simpa using hz) λh2 G hd2 k2=>⟨rfl,h h2 G hd2 λb o e=>?_⟩
 ·exact .of (aa _ y) f d
 ·obtain ⟨o,es,ep,B,r⟩:=D;exact ⟨o,es,ep,aa _ B,r⟩
 ·obtain ⟨v,N,O,q,W,M,rfl,hq,r⟩:=hp j p e;exact ⟨.ref q,by simpa using N,O,q,W,M,rfl,up q W hq,r⟩
 ·have K:=ap e;exact k2 b o (ay K) (ay (cV K u)) (up b o e)
end
noncomputable def Uk:D->Option Key
 | .int i=>iF (.inl i)
 | .str x=>iF (.inr x)
 | _=>iH
noncomputable def wX (kvs:List (Key×D)) (k:Key) (d:D):List (Key×D):=if kvs.any (λp=>decide (p.1=k)) then kvs.map λp=>if p.1=k then (p.1,d) else p else kvs++[(k,d)]
noncomputable def qcm:D->Option (Key×D)
 | .tup [k,v]=>(Uk k).map λk=>(k,v)
 | _=>iH
noncomputable def xo:List D->Option (List (Key×D))
 | []=>iF []
 | d::ds=>match qcm d,xo ds with
  | some p,iF ps=>iF (p::ps)
  | _,_=>iH
noncomputable def qcn:D->Out D
 | .tup ds=>match xo ds with
  | some ps=>.ok (.dct (ps.foldl (λl p=>wX l p.1 p.2) []))
  | none=>.bad
 | _=>.bad
noncomputable def qgZ (d:D):Out D:=(uU d).bind λds=>match xo ds with
 | some ps=>.ok (.dct (ps.foldl (λl p=>wX l p.1 p.2) []))
 | none=>.bad
variable {d:D} {F H:Hp} {v:V} {ds:List D}
theorem Xc (y:Same F H) (h:TopIs K F H v d) (e:uU d=.ok ds):∃ a k xs,v=.ref a/\SqK K H a k xs/\IsL K F xs ds:=by
 cases d with
 | lst es=>cases e; obtain ⟨a,xs,rfl,q,t⟩:=h.lst y; exact ⟨a,.l,xs,rfl,q,t⟩
 | tup es=>cases e; obtain ⟨a,xs,rfl,q,t⟩:=h.tup y; exact ⟨a,.t,xs,rfl,q,t⟩
 | _=>cases e
theorem IsK.any {k:Key}:∀ {kv:List (Key×V)} {ks:List (Key×D)},IsK K F kv ks->(kv.any λp=>decide (p.1=k))=(ks.any λp=>decide (p.1=k))
 | _,_,.nil=>rfl
 | _,_,.cons h t=>by rw [cI,cI,IsK.any t]
theorem IsK.repl {k:Key} (i:Is K F v d):∀ {kv:List (Key×V)} {ks:List (Key×D)},IsK K F kv ks->IsK K F (kv.map λp=>if p.1=k then (p.1,v) else p) (ks.map λp=>if p.1=k then (p.1,d) else p)
 | _,_,.nil=>.nil
 | _,_,.cons (k:=k') h t=>by
  rw [aJ,aJ];by_cases e:k'=k;·simp only [e,if_true]; exact .cons i (IsK.repl i t)
  ·simp only [e,if_false]; exact .cons h (IsK.repl i t)
theorem IsK.snoc {k:Key} (i:Is K F v d):∀ {kv:List (Key×V)} {ks:List (Key×D)},IsK K F kv ks->IsK K F (kv++[(k,v)]) (ks++[(k,d)])
 | _,_,.nil=>.cons i .nil
 | _,_,.cons h t=>.cons h (IsK.snoc i t)
variable {kv:List (Key×V)}
theorem IsK.put {k:Key} {ks:List (Key×D)} (h:IsK K F kv ks) (i:Is K F v d):IsK K F (Jn kv k v) (wX ks k d):=by
 unfold Jn wX;rw [h.any];by_cases e:(ks.any λp=>decide (p.1=k))=iK;·rw [if_pos e,if_pos e]; exact IsK.repl i h
 ·rw [if_neg e,if_neg e]; exact IsK.snoc i h
theorem Xd:∀ {pv:List (Key×V)} {ps:List (Key×D)} {kv:List (Key×V)} {ks:List (Key×D)},IsK K F pv ps->IsK K F kv ks->IsK K F (pv.foldl (λl p=>Jn l p.1 p.2) kv) (ps.foldl (λl p=>wX l p.1 p.2) ks)
 | _,_,_,_,.nil,h=>h
 | _,_,_,_,.cons i t,h=>by rw [cz,cz];exact Xd t (h.put i)
def qjP (p:Key×V) (q:Key×iI×iI):Prop:=p.1=q.1/\RelV p.2 q.2.2
theorem qaf:∀ {pv:List (Key×V)} {tr:List (Key×iI×iI)} {kv:List (Key×V)} {vs:List (Key×iI)},lK qjP pv tr->KV kv vs->KV (pv.foldl (λl p=>Jn l p.1 p.2) kv) (tr.foldl (λl p=>stored l p.1 p.2.2) vs)
 | _,_,_,_,.nil,h=>h
 | _,_,_,_,.cons r t,h=>by rw [cz,cz];refine qaf t ?_;rw [r.1];exact h.put _ r.2
theorem Xe:∀ {pv:List (Key×V)} {kv:List (Key×V)},(pv.foldl (λl p=>Jn l p.1 p.2) kv).length<=kv.length+pv.length
 | [],kv=>aw _
 | p::pv,kv=>by have h1:=@Xe pv (Jn kv p.1 p.2);have h2:=xD kv p.1 p.2;rw [cz,au];omega
variable {X:Cx} {pins:Pns} {σ:St} {u:iI} {vs:List V}
section
theorem Qn {k:Key} (i:Is C.K F v d) (r:RelV v u) (e:Uk d=iF k):Qf k u=true:=by
 cases d with
 | int z=>cases i; cases e; obtain ⟨t,rfl⟩:=r; exact VJ z t
 | str z=>cases i; cases e; obtain ⟨t,rfl⟩:=r; exact VL z t
 | _=>cases e
theorem Xf (m:C.K=X.K) (I:Inv X pins σ H s) (y:Same F H):∀ {vs:List V} {us:List iI} {ds:List D} {ps:List (Key×D)},IsL C.K F vs ds->Vals vs us->xo ds=iF ps ->∃ (pv:List (Key×V)) (tr:List (Key×iI×iI)),IsK C.K F pv ps/\lK qjP pv tr/\tr.length=us.length/\pv.length=us.length/\∀ (j:Nat) (p:Key×iI×iI),tr[j]?=iF p->∃ v,us[j]?=iF v/\Qf p.1 p.2.1=iK/\qae s.heap v p.2.1 p.2.2
 | _,_,_,_,.nil,.nil,e=>by cases e; exact ⟨[],[],.nil,.nil,rfl,rfl,λj p e=>by simp at e⟩
 | _,_,_,_,.cons (d:=d) (ds:=ds) i t,.cons (b:=u) r rs,e=>by
  unfold xo at e;cases q:qcm d with
  | none=>rw [q] at e; cases e
  | some kd=>
   cases c:xo ds with
   | none=>rw [q,c] at e; cases e
   | some rest=>
    rw [q,c] at e;cases e;obtain ⟨pv,tr,h1,h2,h3,h,x⟩:=Xf m I y t rs c;unfold qcm at q;split at q
    ·rename_i A z;obtain ⟨k,g,rfl⟩:=aP.mp q;cases i with
     | @tup a xs _ hq il=>
      cases il with
      | @cons xk _ xr _ ik il2=>
       cases il2 with
       | @cons xv _ xr2 _ iv il3=>
        cases il3;cases r;obtain ⟨its,f,⟨o,l,w,n,hd⟩,_⟩:=I.tuple (show SqT X.K H a [xk,xv] by rw [<-m]; exact jm y hq);cases f with
        | @cons _ uk _ _ rk rv2=>
         cases rv2 with
         | @cons _ uv _ _ rv3 rv4=>
          cases rv4;refine ⟨(k,xv)::pv,(k,uk,uv)::tr,.cons iv h1,.cons ⟨rfl,rv3⟩ h2,by simp [h3],by simp [h],λj p e=>?_⟩;cases j with
          | zero=>simp at e;subst e;exact ⟨_,rfl,Qn ik rk g,a,o,n,rfl,l,w,hd⟩
          | succ j=>simpa using x j p (by simpa using e)
    ·cases q
theorem qdo (I:Inv X pins σ H s):∀ {k:SK},SqK X.K H a k vs->∃ its o n,Vals vs its/\s.heap.get? a=iF o/\o.cls=.type k.cl/\o.dict=iH/\o.data=.seq its.toArray n/\vs.length<=sizeLine
 | .l,h=>let ⟨its,r,⟨o,n,e,c,b,hd⟩,hz⟩:=I.list h; ⟨its,o,n,r,e,c,b,hd,hz⟩
 | .t,h=>by obtain ⟨its,r,⟨o,e,c,n,hd⟩,hz⟩:=I.tuple h;obtain ⟨o2,d,b⟩:=I.tupleN h;rw [e] at d; cases d;exact ⟨its,o,n,r,e,c,b,hd,hz⟩
theorem qco (m:C.K=X.K) (B:X.calm=iK):Jr X C .fr (.type "dict") qgZ:=by
  intro pins s σ H xs us Q I r h;obtain ⟨x,F,dx,rfl,y,w,po⟩:=h;unfold qgZ at po;cases e:uU dx with
  | bad=>rw [e] at po; exact po.elim
  | exc c o=>cases dx <;> cases e
  | ok ds=>
   rw [e] at po;have po:PoV C .fr F H (match xo ds with | some ps=>.ok (.dct (ps.foldl (λl p=>wX l p.1 p.2) [])) | none=>.bad) Q:=po;cases q:xo ds with
   | none=>simp only [q] at po; exact po.elim
   | some ps=>
    simp only [q] at po;obtain ⟨a,sk,vs,rfl,hq,t⟩:=Xc y w e;obtain ⟨u,rfl,A⟩:=xR r;cases A;rw [m] at hq;obtain ⟨its,o,n,i,z,g,d,hd,hz⟩:=qdo I hq;obtain ⟨pv,tr,h1,h2,h3,G,D⟩:=Xf m I y t i q;have k:=i.length;refine Qz (ps:=tr) (I.ok.hd B) z g d hd (by simp [h3]) (λj p e=>?_) (by simp; omega) λh' tk f kp=>?_;· obtain ⟨v,e1,J⟩:=D j p e;exact ⟨v,by simpa using e1,J⟩
    · have hp:H s.heap.objs.size=none:=I.hok.fresh (aw _);obtain ⟨s2,c2,E⟩:=vB (u:=.dK (pv.foldl (λl p=>Jn l p.1 p.2) [])) y hp;have hl:(pv.foldl (λl p=>Jn l p.1 p.2) ([]:List (Key×V))).length<=sizeLine:=by have:=@Xe pv [];simp at this;omega
      have b:(s.heap.objs.size == sysModules)=false:=beq_eq_false_iff_ne.mpr (cG I.big);refine ⟨.ref s.heap.objs.size,_,I.laid (o:=.dK (pv.foldl (λl p=>Jn l p.1 p.2) [])) (t':=tk) kp (aw _) (Gy hl b (qaf h2 .nil) f),rfl,po _ F _ s2 c2 ⟨_,rfl,hp,E,_,qt,Xd h1 .nil⟩⟩
theorem qeO (m:C.K=X.K) (d:X.calm=iK):Jr X C .fr (.type "dict") qcn:=by
 intro pins s σ H xs us Q I r h;obtain ⟨x,F,dx,rfl,y,t,po⟩:=h;cases dx <;> try exact po.elim
 exact qco m d pins s σ H _ us Q I r ⟨x,F,_,rfl,y,t,po⟩
noncomputable def vi (kvs:List (Key×D)) (k:Key):Bool:=kvs.any λp=>decide (p.1=k)
noncomputable def inA:D->D->Out D
 | x,.dct kvs=>match Uk x with
  | some k=>.ok (.bl (vi kvs k))
  | none=>.bad
 | x,y=>qbu x y
noncomputable def JL:D->D->Out D
 | x,.dct kvs=>match Uk x with
  | some k=>.ok (.bl (!vi kvs k))
  | none=>.bad
 | x,y=>Uy x y
theorem Xg {ks:List (Key×D)} {k:Key} (h:IsK K F kv ks):(YC kv k).isSome=vi ks k:=by rw [<-Kk,h.any]; rfl
theorem qi6 {k:Key} (h:TopIs C.K F H v d) (e:Uk d=iF k):v=kV k:=by
 cases d with
 | int z=>cases e; exact h.int
 | str z=>cases e; exact h.str.1
 | _=>cases e
theorem JM (m:C.K=X.K) (f:X.A.units+64 < cLine):OpD X C .sh (compareOp .In) inA:=by
 intro pins s σ H x y v u Q I r c h;obtain ⟨F,dx,d,b,t,ty,po⟩:=h;by_cases hd:∃ kvs,d=.dct kvs
 ·obtain ⟨kvs,rfl⟩:=hd;cases q:Uk dx with
  | none=>unfold inA at po; simp only [q] at po; exact po.elim
  | some k=>
   unfold inA at po;simp only [q] at po;obtain ⟨a,kv,rfl,g,i⟩:=ty.dct b;cases c;have ex:=qi6 t q;subst ex;refine qks (by omega) I (DGet.k (k:=k) g) r λs' j=>⟨.bl _,H,j,rfl,?_⟩
   rw [Xg i];exact po _ F H b .refl (.bl _)
 ·have e:inA dx d=qbu dx d:=by cases d <;> first | rfl | exact absurd ⟨_,rfl⟩ hd
  rw [e] at po;exact qiU m f pins s σ H x y v u Q I r c ⟨F,dx,d,b,t,ty,po⟩
theorem zh (m:C.K=X.K) (f:X.A.units+64 < cLine):OpD X C .sh (compareOp .NotIn) JL:=by
 intro pins s σ H x y v u Q I r c h;obtain ⟨F,dx,d,b,t,ty,po⟩:=h;by_cases hd:∃ kvs,d=.dct kvs
 ·obtain ⟨kvs,rfl⟩:=hd;cases q:Uk dx with
  | none=>unfold JL at po; simp only [q] at po; exact po.elim
  | some k=>
   unfold JL at po;simp only [q] at po;obtain ⟨a,kv,rfl,g,i⟩:=ty.dct b;cases c;have ex:=qi6 t q;subst ex;refine qek (by omega) I (DGet.k (k:=k) g) r λs' j=>⟨.bl _,H,j,rfl,?_⟩
   rw [Xg i];exact po _ F H b .refl (.bl _)
 ·have e:JL dx d=Uy dx d:=by cases d <;> first | rfl | exact absurd ⟨_,rfl⟩ hd
  rw [e] at po;exact qbY m f pins s σ H x y v u Q I r c ⟨F,dx,d,b,t,ty,po⟩
end
theorem qeP (t:i4) (es:Array (Int×iI)) (h:Int) (x:iI):(layNew t es h x).2.1.led=t.led:=by
 unfold layNew;cases t.freeSlot h with
 | none=>rfl
 | some p=>obtain ⟨sl,w⟩:=p;show (SetTable.orStandIn (t.put sl).1 _).led=t.led;unfold SetTable.orStandIn;split <;> rfl
theorem qeQ {m f v:Nat} {l p:Bool} {hs:Array Int} {t:i4} {o:Array Nat} (h:ic m f v l p hs=iF (t,o)):t.led=l/\t.plain=p:=by
 unfold ic at h;cases e:SetTable.layClean m hs with
 | none=>rw [e] at h;cases h
 | some ow=>rw [e] at h;have h2:=congrArg Prod.fst (aN.inj h);subst h2;exact ⟨rfl,rfl⟩
theorem UH (t:i4) (es:Array (Int×iI)) (n:Nat):(relayAll t es n).2.1.led=t.led/\(t.plain=iJ->(relayAll t es n).2.1.plain=iJ):=by
 unfold relayAll;cases e:t.relaid (es.map (·.1)) n with
 | none=>exact ⟨rfl,λ_=>rfl⟩
 | some q=>
  obtain ⟨t',o⟩:=q;have k:=qeQ (show ic _ _ _ _ _ _=iF (t',o) from e);dsimp only;split;·exact ⟨k.1,λz=>k.2.trans z⟩
  ·exact ⟨rfl,λ_=>rfl⟩
variable {κ:Type}
noncomputable def zH [DecidableEq κ] (ks:List κ) (x:κ):List κ:=if x∈ks then ks else ks++[x]
noncomputable def gk (ks:List Str) (x:Str):List Str:=if x∈ks then ks else ks++[x]
noncomputable def kn (es:Array (Int×iI)) (ep:Nat) (t:i4):Obj:={ cls:=.type "set",dict:=iH,data:=.set es ep t,slots:=#[] }
structure KP (κ:Type) [DecidableEq κ] where
 kd:∀ (p:iN) (w:iO),PySem.KeyKind p w κ
 of:iI->κ
 pb:Bool
 ofi:∀ {p:iN} {w:iO} {x:κ} {v:iI},(kd p w).is x v=iK->of v=x
 sc:∀ {p:iN} {w:iO} {x:κ} {v:iI},(kd p w).is x v=iK->v.scannable=iK
 pl:∀ {p:iN} {w:iO} {x:κ} {v:iI},(kd p w).is x v=iK->pb=iK->plainKind v=iJ
noncomputable def KpS:KP Str where
 kd:=PySem.strKind
 of:=strOf
 pb:=iK
 ofi:=λh=>let ⟨_,e⟩:=cZ h; by rw [e]; rfl
 sc:=λh=>let ⟨_,e⟩:=cZ h; by rw [e]; rfl
 pl:=λh _=>let ⟨_,e⟩:=cZ h; by rw [e]; rfl
structure SetG {κ:Type} [DecidableEq κ] (T:KP κ) (prog:iN) (w:iO) (es:Array (Int×iI)) (t:i4) (ks:List κ):Prop where
 el:ElemsOf (T.kd prog w) es.toList
 perm:(es.toList.map λe=>T.of e.2).Perm ks
 nd:ks.Nodup
 bd:es.size < scanBound
 fits:t.fits es.size=iK
 led:t.led=!(w.params.followText "set-order")
 plain:T.pb=iK->ks≠[]->t.plain=iJ
def SetK {κ:Type} [DecidableEq κ] (T:KP κ) (prog:iN) (w:iO) (h:Heap) (a:Addr) (ks:List κ):Prop:=∃ es ep t,h.get? a=iF (kn es ep t)/\SetG T prog w es t ks
variable {es:Array (Int×iI)} {ep:Nat}
section
theorem qg0 {l:List (Int×iI)} (h:ElemsOf (PySem.strKind prog w) l) {e:Int×iI} (i:e∈l):∃ x t,e.2=.str x t:=by obtain ⟨⟨k,a,_⟩,_⟩:=h e i;obtain ⟨t,ht⟩:=cZ a;exact ⟨k,t,ht⟩
variable [DecidableEq κ] {T:KP κ}
theorem SetG.mem {t:i4} {ks:List κ} (h:SetG T prog w es t ks) {x:κ}:x∈ks↔∃ e∈es.toList,(T.kd prog w).is x e.2=true:=by
 rw [<-h.perm.mem_iff,ax];constructor;·rintro ⟨e,i,z⟩;obtain ⟨⟨k,a,_⟩,_⟩:=h.el e i;rw [T.ofi a] at z;exact ⟨e,i,z ▸ a⟩
 ·rintro ⟨e,i,z⟩;exact ⟨e,i,T.ofi z⟩
theorem SetG.size {t:i4} {ks:List κ} (h:SetG T prog w es t ks):es.size=ks.length:=by have e:=h.perm.length_eq;simpa using e
theorem qdp {es':Array (Int×iI)} {t t':i4} (l:h.get? a=iF (kn es ep t)):(h.update a (ij es' t')).get? a=iF (kn es' (ep+1) t'):=by have e:=aX (ij es' t') l (by rw [putSet_of (o:=kn es ep t) es' t' rfl]; rfl);rw [putSet_of (o:=kn es ep t) es' t' rfl] at e;exact e
theorem SetG.more {e:Array (Int×iI)} {t f:i4} {ks:List κ} {x:κ} {v:iI} (h:SetG T prog w es t ks) (c:(T.kd prog w).is x v=iK) (nx:x∉ks) (r:ks.length+1 < scanBound)
  (hp:e.toList.Perm (es.toList++[((T.kd prog w).hash x,v)])) (d:f.fits e.size=iK) (hl:f.led=t.led) (hq:T.pb=iK->f.plain=iJ):SetG T prog w e f (zH ks x):=by
 have ex:zH ks x=ks++[x]:=if_neg nx;have hz:e.size=ks.length+1:=by rw [<-cC,hp.length_eq,ao,cC,h.size];rfl
 rw [ex];refine ⟨(h.el.push c (T.sc c)).perm hp,?_,?_,?_,d,hl.trans h.led,λb _=>hq b⟩;·refine (hp.map _).trans ?_;rw [cR,List.map_singleton,T.ofi c];exact h.perm.append (cJ _)
 ·exact fM.mpr ⟨h.nd,by simp,λa i b g=>by rw [aE.mp g]; exact λz=>nx (z ▸ i)⟩
 ·rw [hz];exact r
theorem qeR {ks:List κ} {x:κ} {v:iI} {Q:Bool->iL->Prop} (m:(T.kd prog w).is x v=iK) (S:SetK T prog w s.heap a ks) (I:ks.length+1 < scanBound)
  (h:∀ h' b,bj a s.heap h'->SetK T prog w h' a (zH ks x)->Q b { s with heap:=h' }):wpAny (model prog w) A (setAddHashed a v ((T.kd prog w).hash x)) Q E s:=by
 obtain ⟨es,ep,t,o,d⟩:=S;unfold setAddHashed setAddHashedIn;refine iW (iG (i8 o rfl d.fits ?_));dsimp only;rw [byScan_of (T.sc m) d.bd d.el,if_pos rfl];unfold setAddByScan;refine iG (iG (k9 (iG (wpAny_setScan_of m o rfl d.fits d.el ?_))));cases hq:es.toList.findIdx? (λe=>(T.kd prog w).is x e.2) with
 | some j=>obtain ⟨M,hp,_⟩:=bV.mp hq;have hx:x∈ks:=d.mem.mpr ⟨_,bT M,hp⟩;have q:=h s.heap iJ (Heap.SameBut.refl a s.heap) ⟨es,ep,t,o,by rw [show zH ks x=ks from if_pos hx]; exact d⟩;dsimp only;exact iM (iM q)
 | none=>
  have hx:x∉ks:=λz=>by obtain ⟨e,N,q⟩:=d.mem.mp z;have:=List.findIdx?_eq_none_iff.mp hq e N;rw [q] at this;cases this
  dsimp only;have hp:=layNew_perm t es ((T.kd prog w).hash x) v;have n:=layNew_fits t es ((T.kd prog w).hash x) v;have hl:=qeP t es ((T.kd prog w).hash x) v;generalize layNew t es ((T.kd prog w).hash x) v=L at hp n hl ⊢;obtain ⟨c,u,K,P⟩:=L;dsimp only at hp n hl ⊢;rw [fN] at hp;have l:∀ f:i4,f.fits c.size=iK->f.led=t.led->(T.pb=iK->f.plain=iJ)->wpAny (model prog w) A (do
    storeSet a c f
    if (!K&&f.tooFull)=iK then do
      (match (relayAll f c (c8 c.size)).2.2 with | true=>rule "set.scan.the-table-gave-way" | false=>pure ())
      storeSet a (relayAll f c (c8 c.size)).1 (relayAll f c (c8 c.size)).2.1
      pure (iF iK)
     else pure (iF iK)) (λr s'=>∃ h',s'={ s with heap:=h' }/\r=iF iK/\bj a s.heap h'/\SetK T prog w h' a (zH ks x)) E s:=by
   intro f f2 H p2;have d2:=d.more m hx I hp f2 H p2;refine iG (wpAny_storeSet_of o rfl ?_ (lm d2.bd));have i:=qdp (es':=c) (t':=f) o;have y:=bo s.heap a (ij c f);split
   ·have C:=relayAll_perm f c (c8 c.size);have rf:=relayAll_fits f c (c8 c.size);have B:=UH f c (c8 c.size);generalize relayAll f c (c8 c.size)=R at C rf B ⊢;obtain ⟨p,G,Y⟩:=R;dsimp only at C rf B ⊢;have J:=d.more m hx I (C.trans hp) rf (B.1.trans H) (λb=>B.2 (p2 b));refine iG ?_;have go:wpAny (model prog w) A (storeSet a p G >>= λ_=>pure (iF iK)) (λr s'=>∃ h',s'={ s with heap:=h' }/\r=iF iK/\bj a s.heap h'/\SetK T prog w h' a (zH ks x)) E { s with heap:=s.heap.update a (ij c f) }:=
     iG (wpAny_storeSet_of i rfl (iM ⟨_,rfl,rfl,y.trans (bo _ a _),p,_,G,qdp i,J⟩) (lm J.bd))
    cases Y;·exact iM go
    ·exact k9 go
   ·exact iM ⟨_,rfl,rfl,y,c,_,f,i,d2⟩
  have fin:∀ (r:Option Bool) (s':iL),(∃ h',s'={ s with heap:=h' }/\r=iF iK/\bj a s.heap h'/\SetK T prog w h' a (zH ks x)) ->wpAny (model prog w) A (match r with | some k=>pure k | none=>setAddHashedIn a v ((T.kd prog w).hash x) 99999) Q E s':=by rintro r s' ⟨h',rfl,rfl,y,S⟩;exact iM (h h' iK y S)
  have O:∀ (b:Bool) {g:iL} {D:Unit->iL->Prop},D () g->wpAny (model prog w) A (match b with | true=>rule "set.scan.the-table-gave-way" | false=>pure ()) D E g:=λb g D q=>by
   cases b;·exact iM q
   ·exact k9 q
  refine iG (O _ ?_);cases e1:u.plain with
  | true=>rw [if_pos rfl,hashByValue_scannable 8 (T.sc m)];refine iG (iM ?_);exact j4 (l (if plainKind v=iK then u else { u with plain:=iJ }) (by split; exact n; exact SetTable.fits_plain_off n) (by split <;> exact hl) (λb=>by rw [T.pl m b]; rfl)) fin λ_ _ z=>z
  | false=>rw [if_neg (by simp)];refine iG (iM ?_);exact j4 (l u n hl λ_=>e1) fin λ_ _ z=>z
end
theorem qcp [DecidableEq κ] (ks:List κ) (x:κ):(zH ks x).length<=ks.length+1:=by
 unfold zH;split;·omega
 ·rw [ao];exact aw _
theorem zi [DecidableEq κ]:∀ (l ks:List κ),(l.foldl zH ks).length<=ks.length+l.length
 | [],ks=>aw _
 | x::l,ks=>by have h1:=zi l (zH ks x);have h2:=qcp ks x;rw [cz,au];omega
theorem Xh:(zH:List Str->Str->List Str)=gk:=by funext ks x;unfold zH gk;congr
theorem QA (l ks:List Str):(l.foldl gk ks).length<=ks.length+l.length:=by rw [<-Xh];exact zi l ks
theorem SetK.at [DecidableEq κ] {T:KP κ} {ks:List κ} (S:SetK T prog w h a ks) (k:∀ o,h.get? a=iF o->h'.get? a=iF o):SetK T prog w h' a ks:=
 let ⟨es,ep,t,l,d⟩:=S; ⟨es,ep,t,k _ l,d⟩
section
variable [DecidableEq κ] {T:KP κ} {R:lF->iL->Prop} {I:Addr} {fp wr:List Addr} {P:Nat->iI->Prop} {St:Nat->iL->Prop}
theorem qcq {G:Array lE->Array lE->Prop} (W:WalksS prog w A.in1 I fp wr G n P St) (S:Addr) (j:S∉fp) (ss:List κ) (K:ss.length=n) (J:∀ i v,P i v->∃ x,ss[i]?=iF x/\(T.kd prog w).is x v=iK) (d:n+1 < scanBound):∀ (k i:Nat) (s:iL),n - i=k->i<=n->St i s->SetK T prog w s.heap S ((ss.take i).foldl zH []) ->(∀ s',Moved (S::wr) G s s'->SetK T prog w s'.heap S (ss.foldl zH [])->R (.ok (.ret .none)) s')->codeAny (model prog w) A (.builtin "set.update.loop" ⟨[.ref S,.ref I],[]⟩) R s:=by
 have E:S∉wr:=λh=>j (W.sub _ h);have up:∀ b∈wr,b∈S::wr:=λb d=>af _ d;intro k
 induction k with
 | zero=>
  intro i s q hi c r C;have y:i=n:=by omega
  subst y;refine iZ F.entry_set_update_loop ?_;rw [br eh _]; show wpAny _ A.in1 (pyNext (.ref I) >>= _) _ _ s;refine iG (W.done s _ _ c λs' g=>iM (C s' (g.mono up) ?_));rw [List.take_of_length_le (fC K)] at r;exact r.at λo e=>g.heap S o E e
 | succ k H=>
  intro i s q hi c r C;have t:i < n:=by omega
  refine iZ F.entry_set_update_loop ?_;rw [br eh _]; show wpAny _ A.in1 (pyNext (.ref I) >>= _) _ _ s;refine iG (W.item i s _ _ t c λv s' L a g=>?_);obtain ⟨x,hx,q⟩:=J i v L;have B:SetK T prog w s'.heap S ((ss.take i).foldl zH []):=r.at λo e=>g.heap S o E e;show wpAny _ A.in1 (holding [v] (setAdd S v) >>= _) _ _ s';refine iG (iW ?_);unfold setAdd;refine iW (iG ((T.kd prog w).pyHash q ?_));have m:((ss.take i).foldl zH []).length+1 < scanBound:=by have h1:=zi (ss.take i) [];rw [bQ,aY] at h1;omega
  refine qeR (s:={ s' with toks:=s'.toks+1 }) q B m λh' b D l=>?_;have M:zH ((ss.take i).foldl zH []) x=(ss.take (i+1)).foldl zH []:=by rw [List.take_add_one,hx,List.foldl_append];rfl
  rw [M] at l;refine iM ⟨k6 eh _,H (i+1) _ (by omega) t (W.frame _ s' _ _ a (hZ _) λb d o e=>?_) l λu f p=>?_⟩;·rw [D.2 b λz:b=S=>j (z ▸ d)];exact e
  ·refine C u (Moved.trans W.gtrans ((g.mono up).then_heap (hZ _) λb o d e=>?_) f) p;rw [D.2 b λz:b=S=>d (z ▸ aq)];exact e
end
section
variable [DecidableEq κ] {T:KP κ}
abbrev qg1 (w:iO):Obj:=kn #[] 0 (.fresh 0 0 (!(w.params.followText "set-order")))
theorem qag (e:h.get? a=iF (qg1 w)):SetK T prog w h a []:=
 ⟨_,_,_,e,⟨λe i=>by simp at i,by simp,dJ,by decide,by rfl,rfl,λ_ z=>absurd rfl z⟩⟩
theorem qeS (a:iI) {Q₁:iI->iL->Prop} (h:Q₁ (.ref s.heap.objs.size) { s with heap:=s.heap.push (qg1 w) }):codeAny (model prog w) A (.call (.builtin "set.__new__") ⟨[.type "set",a],[]⟩) (wants Q₁ E) s:=by
 refine codeAny_of_tree ?_; show wpAny _ A.in1 (do checkBuiltinCall "set.__new__" ⟨[.type "set",a],[]⟩; again (.builtin "set.__new__" ⟨[.type "set",a],[]⟩)) _ _ s;refine iG (lG (PySem.F.newCall_set_1 a) (iM ⟨k6 PySem.F.plain_set_new _,iZ PySem.F.entry_set_new ?_⟩)); rw [br PySem.F.plain_set_new _];unfold Builtin.«set.__new__» Builtin.Frozenset.newClass; have b:=sub_set_self; obtain ⟨hp,g,d,tk,os⟩:=s; dsimp only; wp_walk
 refine i5 (iM ?_); dsimp only; simp only [newObj];exact iG (wpAny_alloc (iM (iM h)))
theorem UI:isSubtype (.type "tuple") (.type "set")=pure false:=by rw [lp]; kernel_rfl
theorem Jt:isSubtype (.type "tuple") (.type "frozenset")=pure false:=by rw [lp]; kernel_rfl
theorem qcr:∀ sk:SK,isSubtype (.type sk.cl) (.type "set")=pure iJ
 | .l=>PySem.F.sub_list_set
 | .t=>UI
theorem UJ:∀ sk:SK,isSubtype (.type sk.cl) (.type "frozenset")=pure iJ
 | .l=>PySem.F.sub_list_frozenset
 | .t=>Jt
theorem qg2 (b:A.handled=iH) (sk:SK) (it l:Addr) (e:l≠it) (items:Array iI):Walks prog w A it [it,l] [it] items.size (λi v=>items[i]?=iF v) (λi h=>ItK h it l sk i/\SeqK h l sk items):=by
 cases sk with
 | l=>exact iE b it l e items
 | t=>exact Walks.tuple b it l e items
theorem SeqK.ty:∀ {sk:SK},SeqK s.heap a sk xs->s.TypeIs (.ref a) sk.cl
 | .l,⟨o,e,c,_⟩=>⟨o,e,c⟩
 | .t,⟨o,e,c,_⟩=>⟨o,e,c⟩
theorem qkv {S:Addr} {ss:List κ} {Q:Unit->iL->Prop} (q:A.handled=iH) (k:SetK T prog w s.heap S []) (hl:SeqK s.heap l sk items) (p:ss.length=items.size) (hi:∀ (i:Nat) (v:iI),items[i]?=iF v->∃ x,ss[i]?=iF x/\(T.kd prog w).is x v=iK) (j:items.size+1 < scanBound) (g:l≠S)
  (h:∀ h' tk,SetK T prog w h' S (ss.foldl zH [])->(∀ b o,b≠S->s.heap.get? b=iF o->h'.get? b=iF o)->Q () { s with heap:=h',toks:=tk }) :
  wpAny (model prog w) A (cA "set.__init__" S (.ref l)) Q E s:=by
 have hT:=hl.ty;unfold cA;refine iG (m:=Builtin.Frozenset.isAnySet _) ?_;unfold Builtin.Frozenset.isAnySet;refine iG (j5 hT (qcr sk) ?_);refine j5 hT (UJ sk) ?_;rw [if_neg (by decide)];refine iG (ll hT ?_);rw [if_neg (by cases sk <;> decide)];refine iG (qck hl ?_);have hz:s.heap.objs.size≠S:=λz=>by obtain ⟨es,ep,t,n,_⟩:=k;exact bM _ (z ▸ ap n)
 have d:l≠s.heap.objs.size:=ay hl.lt;refine iG (wpAny_runValue (qcq ((qg2 (A:=A.in1) q sk _ l d items).toS) S ?_ ss p hi j items.size 0 _ (by omega) (be _) ⟨.of ⟨_,ah _ rfl,rfl,rfl⟩,hl.at λo e=>aa _ e⟩ ?_ ?_))
 ·intro z;rcases ae.mp z with z | z;·exact hz z.symm
  ·exact g (aE.mp z).symm
 ·exact k.at λo e=>aa _ e
 ·intro s' c B;obtain ⟨h',g',d',f,a⟩:=s';have u:g'=s.gens:=c.gens;have y:d'=s.drawn:=c.drawn;have r:a=s.os:=c.os;subst u y r;refine iM (h h' f B λb o j e=>c.heap b o ?_ (aa _ e));intro z;rcases ae.mp z with z | z;·exact j z
  ·rw [aE.mp z] at e;exact bM _ (ap e)
set_option maxHeartbeats 3200000 in
theorem qah {l:Addr} {ks:List κ} {Q:iI->iL->Prop}
  (p:∀ (A1:iQ) (L:Unit->iL->Prop) (D:iI->iL->Prop),A1.handled=A.handled->(∀ h' tk,SetK T prog w h' s.heap.objs.size ks->(∀ b o,s.heap.get? b=iF o->h'.get? b=iF o)->L () { s with heap:=h',toks:=tk }) ->wpAny (model prog w) A1 (cA "set.__init__" s.heap.objs.size (.ref l)) L D { s with heap:=s.heap.push (qg1 w) })
  (h:∀ h' tk,SetK T prog w h' s.heap.objs.size ks->(∀ b o,s.heap.get? b=iF o->h'.get? b=iF o)->Q (.ref s.heap.objs.size) { s with heap:=h',toks:=tk }) :
  wpAny (model prog w) A (call (.type "set") [.ref l]) Q E s:=by
 have i:∀ {Q₁:iI->iL->Prop},Q₁ (.ref s.heap.objs.size) { s with heap:=s.heap.push (qg1 w) }->codeAny (model prog w) A.in1 (.call (.builtin "set.__new__") ⟨[.type "set",.ref l],[]⟩) (wants Q₁ E) s:=λh=>qeS (.ref l) h;unfold qg1 kn at i p;generalize (!(w.params.followText "set-order"))=led at i p;obtain ⟨c,tl,t⟩:=bP.mro;have m:=bP.made;have q:=bP.sub;refine lL (codeAny_of_tree ?_); show wpAny _ _ (callAny (.type "set") _) _ _ _;refine iM ⟨Code.quiet_builtin _ (by decide +kernel),iZ PySem.F.entry_type_call ?_⟩; rw [Around.under_plain (weight_type_call_type "set" [.ref l] []) rfl];have h1:=bP.notType;have h2:=bP.canCreate;have x:=PySem.F.typeCall_set_1 (.ref l);repeat (any_goals (first | assumption | wp_step))
 refine lg (i (Q₁:=λobj f=>obj=.ref s.heap.objs.size/\f={ s with heap:=s.heap.push { cls:=.type "set",dict:=iH,data:=.set #[] 0 (.fresh 0 0 led) } }) ⟨rfl,rfl⟩) λr f k=>?_;cases r with
 | error e=>exact k
 | ok C=>
  cases C with
  | ret obj=>
   obtain ⟨rfl,rfl⟩:=k;have S:(s.heap.push { cls:=.type "set",dict:=iH,data:=.set #[] 0 (.fresh 0 0 led) }).get? s.heap.objs.size=iF { cls:=.type "set",dict:=iH,data:=.set #[] 0 (.fresh 0 0 led) }:=ah _ rfl;have hT:fX { s with heap:=s.heap.push { cls:=.type "set",dict:=iH,data:=.set #[] 0 (.fresh 0 0 led) } } (.ref s.heap.objs.size) "set":=⟨_,S,rfl⟩
   have u:=bP.init.lookup;have y:=bP.init.bind (.ref s.heap.objs.size);repeat (any_goals (first | assumption | wp_step))
   refine lg (codeAny_call_builtin (R:=wants (λr d=>r=.none/\∃ h' tk,d={ s with heap:=h',toks:=tk }/\SetK T prog w h' s.heap.objs.size ks/\(∀ b o,s.heap.get? b=iF o->h'.get? b=iF o)) E) bP.init.plain PySem.F.entry_set_init (check_set_init_1 hT ?_)) λj d a=>?_
   ·unfold Builtin.«set.__init__» noKeywords;generalize z:cA=U;wp_walk
    subst z;refine p _ _ _ rfl λh' tk B v=>?_;exact iM ⟨rfl,h',tk,rfl,B,v⟩
   ·cases j with
    | error e=>exact a
    | ok g=>
     cases g with
     | ret r=>
      obtain ⟨rfl,h',tk,rfl,B,n⟩:=a;repeat (any_goals (first | assumption | wp_step))
      exact h _ _ B n
     | _=>exact a.elim
  | _=>exact k.elim
end
theorem zM {α:Type}:∀ {xs:List α} {i:Nat} (h:i < xs.length),(xs[i]::xs.eraseIdx i).Perm xs
 | [],_,h=>absurd h (dX _)
 | x::xs,0,h=>cJ _
 | x::xs,i+1,h=>(List.Perm.swap _ _ _).trans ((zM (xs:=xs) (i:=i) (Nat.lt_of_succ_lt_succ h)).cons x)
variable {M:Model}
theorem Zy {c:Source} {Q:Nat->iL->Prop} (a:n≠0) (h:∀ i d',i < n->Q i { s with drawn:=d' }):wpAny M A (choose c n) Q E s:=
 λ_ _ _=>⟨a,h _ _ (Nat.mod_lt _ (Nat.pos_of_ne_zero a))⟩
variable {α:Type}
theorem qai:∀ (n:Nat) (xs:List α) (s:iL) {Q:List α->iL->Prop},n=xs.length->(∀ ys d',ys.Perm xs->Q ys { s with drawn:=d' })->wpAny M A (drawOrder n xs) Q E s
 | 0,xs,s,Q,hn,h=>by
  cases xs with
  | nil=>exact iM (h [] s.drawn (cJ _))
  | cons x l=>cases hn
 | n+1,[],s,Q,hn,h=>by cases hn
 | n+1,x::l,s,Q,hn,h=>by show wpAny M A (choose .order (x::l).length >>= _) Q E s;refine iG (Zy (by simp) λi d' hi=>?_);have e:(x::l)[i]?=iF (x::l)[i]:=aA hi;rw [e];refine iG (qai n _ _ (by rw [List.length_eraseIdx_of_lt hi]; simp only [au] at hn ⊢; omega) λys d2 hp=>iM (h _ d2 ?_));exact (hp.cons _).trans (zM hi)
theorem qaj (next:Nat->Nat):∀ (f k:Nat) (left:List α) (out:Array α),f=left.length->(pickOrder.go next f k left out).toList.Perm (out.toList++left)
 | 0,k,left,out,hf=>by
  cases left with
  | nil=>rw [bp];exact cJ _
  | cons x l=>cases hf
 | f+1,k,left,out,hf=>by have t:next k % left.length < left.length:=Nat.mod_lt _ (by omega);have e:left[next k % left.length]?=iF left[next k % left.length]:=aA t;unfold pickOrder.go;rw [e];refine (qaj next f (k+1) _ _ (by rw [List.length_eraseIdx_of_lt t]; omega)).trans ?_;rw [fN,cW];exact List.Perm.append_left _ (zM t)
theorem QB (next:Nat->Nat) (xs:Array α):(pickOrder next xs).toList.Perm xs.toList:=by unfold pickOrder;exact qaj next _ _ _ _ (by simp)
noncomputable def yj (first:iI) (i:Nat) (a:Addr) (n ep:Nat):Obj:={ cls:=.type "set_iterator",data:=.fields #[first,rawInt i,.ref a,rawInt n,rawInt ep] }
theorem slot_si_next:Slot "set_iterator" "__next__" "set_iterator.__next__":=
 .of (owner := "set_iterator") (n := "__next__") (by rw [lb,i9]; kernel_rfl) (by decide +kernel) (by decide +kernel) (by decide +kernel) (by first | exact .inl (by decide +kernel) | exact .inr (by decide +kernel)) (by rw [lp]; kernel_rfl)
theorem gl:Slot "set_iterator" "__iter__" "set_iterator.__iter__":=
 .of (owner := "set_iterator") (n := "__iter__") (by rw [lb,i9]; kernel_rfl) (by decide +kernel) (by decide +kernel) (by decide +kernel) (by first | exact .inl (by decide +kernel) | exact .inr (by decide +kernel)) (by rw [lp]; kernel_rfl)
theorem vU (a:iI):argsOk "set_iterator.__next__" ⟨[a],[]⟩:=by unfold argsOk; kernel_rfl
theorem Wq (a:iI):argsOk "set_iterator.__iter__" ⟨[a],[]⟩:=by unfold argsOk; kernel_rfl
theorem vj:entryFor table "set_iterator.__next__"=iF Builtin.«set_iterator.__next__»:=entryFor_of_tree (by kernel_rfl)
theorem Kv:entryFor table "set_iterator.__iter__"=iF Builtin.«dict_keyiterator.__iter__»:=entryFor_alias (id' := "dict_keyiterator.__iter__") (by kernel_rfl) rfl (by decide +kernel) (by kernel_rfl)
theorem Wr:entryFor table "set.__iter__"=iF Builtin.«frozenset.__iter__»:=entryFor_alias (id' := "frozenset.__iter__") (by kernel_rfl) rfl (by decide +kernel) (by kernel_rfl)
variable {ks:List Str} {p:Addr} {b:Bool} {ps:List Nat}
section
theorem vE (d:w.params.followText "set-order"=b):({ program:=(model prog w).prog,params:=(model prog w).w.params }:Setting).params.followText "set-order"=b:=d
theorem Ws {sl nx:Nat} {t:i4} {x:iI} {Q:Option iI->iL->Prop} (hi:s.heap.get? it=iF (yj (rawInt sl) i a n ep)) (g:s.heap.get? a=iF (kn es ep t)) (f:t.fits es.size=iK) (hz:es.size=n)
  (h:∀ (A1:iQ) (L:Option (iI×Nat)->iL->Prop) (R:iI->iL->Prop),L (iF (x,nx)) s->wpAny (model prog w) A1 (setNext a sl i ep) L R s)
  (c:∀ h',h'.get? it=iF (yj (rawInt nx) (i+1) a n ep)->bj it s.heap h'->Q (iF x) { s with heap:=h' }):wpAny (model prog w) A (pyNext (.ref it)) Q E s:=by
 have hT:s.TypeIs (.ref it) "set_iterator":=⟨_,hi,rfl⟩
 unfold pyNext;refine iG (i6 (iR (name:=ac "__next__") hT slot_si_next (iS slot_si_next hT vj ?_ (vU _))));show wpAny _ _ (fieldsOf (.ref it) >>= _) _ _ s;refine iG (ly hi rfl ?_);show wpAny _ _ (setEntries a >>= _) _ _ s;refine iG (k7 g rfl f ?_);rw [if_neg (by rw [hz]; simp)];show wpAny _ _ (setNext a sl i ep >>= _) _ _ s;refine iG (h _ _ _ ?_);show wpAny _ _ (setField (.ref it) 0 (rawInt nx) >>= _) _ _ s;refine iG (j6 hi rfl (by simp) ?_);have h1:(s.heap.update it (Obj.mapFields (·.setIfInBounds 0 (rawInt nx)))).get? it=iF (yj (rawInt nx) i a n ep):=aX _ hi rfl;refine iG (j6 h1 rfl (by simp) (iM ⟨x,rfl,iM (c _ ?_ ((bo ..).trans (bo ..)))⟩));exact aX _ h1 rfl
theorem Wt {sl:Nat} {t:i4} {Q:Option iI->iL->Prop} (h:A.handled=iH) (hi:s.heap.get? it=iF (yj (rawInt sl) i a n ep)) (g:s.heap.get? a=iF (kn es ep t)) (f:t.fits es.size=iK) (hz:es.size=n)
  (c:∀ (A1:iQ) (L:Option (iI×Nat)->iL->Prop) (R:iI->iL->Prop),L iH s->wpAny (model prog w) A1 (setNext a sl i ep) L R s)
  (d:∀ h',ia it s.heap h'->Q iH { s with heap:=h' }):wpAny (model prog w) A (pyNext (.ref it)) Q E s:=by
 have hT:s.TypeIs (.ref it) "set_iterator":=⟨_,hi,rfl⟩
 unfold pyNext;refine iG (i6 (iR (name:=ac "__next__") hT slot_si_next (iS slot_si_next hT vj ?_ (vU _))));show wpAny _ _ (fieldsOf (.ref it) >>= _) _ _ s;refine iG (ly hi rfl ?_);show wpAny _ _ (setEntries a >>= _) _ _ s;refine iG (k7 g rfl f ?_);rw [if_neg (by rw [hz]; simp)];show wpAny _ _ (setNext a sl i ep >>= _) _ _ s;refine iG (c _ _ _ ?_);show wpAny _ _ (setField (.ref it) 2 bw >>= _) _ _ s;refine iG (j6 hi rfl (by simp) ?_); show wpAny _ _ (newExc (.type "StopIteration") [] >>= _) _ _ _;refine iG ?_; simp only [newExc,newTuple]; refine iG (iU ?_ (by size_fits));refine iG (m:=firstArgMember _ _) (lG (a:=bw) (by first | rfl | (simp only [firstArgMember]; rfl)) ?_); refine iU ?_ (by size_fits); simp only [raiseNew];refine iG (wpAny_handled ?_); first | rw [show A.in1.handled=iH from h] | rw [h]
 refine iG (iM (wpAny_throw ?_)); refine iG (j5 (T := "StopIteration") (b:=iK) ⟨_,ah _ rfl,rfl⟩ lz ?_);exact iM (d _ (((bo ..).extBut.push _).push _))
theorem Zz {pl m:Nat} {t:i4} {hx:Int} {x:iI} {ps:Array iI} {Q:Option iI->iL->Prop} (hi:s.heap.get? it=iF (yj (.ref p) i a n ep)) (g:s.heap.get? a=iF (kn es ep t)) (h:t.fits es.size=iK) (hz:es.size=n)
  (hp:s.heap.get? p=iF { cls:=.type "tuple",data:=.seq ps m }) (l:ps[i]?=iF (rawInt pl)) (hx:es[pl]?=iF (hx,x))
  (c:∀ h',h'.get? it=iF (yj (.ref p) (i+1) a n ep)->bj it s.heap h'->Q (iF x) { s with heap:=h' }):wpAny (model prog w) A (pyNext (.ref it)) Q E s:=by
 have hT:s.TypeIs (.ref it) "set_iterator":=⟨_,hi,rfl⟩
 unfold pyNext;refine iG (i6 (iR (name:=ac "__next__") hT slot_si_next (iS slot_si_next hT vj ?_ (vU _))));show wpAny _ _ (fieldsOf (.ref it) >>= _) _ _ s;refine iG (ly hi rfl ?_);show wpAny _ _ (setEntries a >>= _) _ _ s;refine iG (k7 g rfl h ?_);rw [if_neg (by rw [hz]; simp)];show wpAny _ _ (seqItems? (.ref p) >>= _) _ _ s;refine iG (iT hp rfl ?_);dsimp only;rw [show ps[Int.toNat (i:Int)]?=iF (rawInt pl) from l];show wpAny _ _ (setNextDrawn a pl ep >>= _) _ _ s;refine iG ?_;unfold setNextDrawn;refine iG (i8 g rfl h ?_);dsimp only;rw [if_neg (by simp),hx];refine iM ?_;show wpAny _ _ (setField (.ref it) 1 (rawInt (i+1)) >>= _) _ _ s;refine iG (j6 hi rfl (by simp) (iM ⟨x,rfl,iM (c _ ?_ (bo ..))⟩));exact aX _ hi rfl
theorem qak {m:Nat} {t:i4} {ps:Array iI} {Q:Option iI->iL->Prop} (h:A.handled=iH) (hi:s.heap.get? it=iF (yj (.ref p) i a n ep)) (g:s.heap.get? a=iF (kn es ep t)) (f:t.fits es.size=iK) (hz:es.size=n)
  (hp:s.heap.get? p=iF { cls:=.type "tuple",data:=.seq ps m }) (l:ps[i]?=iH)
  (c:∀ h',ia it s.heap h'->Q iH { s with heap:=h' }):wpAny (model prog w) A (pyNext (.ref it)) Q E s:=by
 have hT:s.TypeIs (.ref it) "set_iterator":=⟨_,hi,rfl⟩
 unfold pyNext;refine iG (i6 (iR (name:=ac "__next__") hT slot_si_next (iS slot_si_next hT vj ?_ (vU _))));show wpAny _ _ (fieldsOf (.ref it) >>= _) _ _ s;refine iG (ly hi rfl ?_);show wpAny _ _ (setEntries a >>= _) _ _ s;refine iG (k7 g rfl f ?_);rw [if_neg (by rw [hz]; simp)];show wpAny _ _ (seqItems? (.ref p) >>= _) _ _ s;refine iG (iT hp rfl ?_);dsimp only;rw [show ps[Int.toNat (i:Int)]?=iH from l];show wpAny _ _ (setField (.ref it) 0 (rawInt 0) >>= _) _ _ s;refine iG (j6 hi rfl (by simp) ?_);have h1:(s.heap.update it (Obj.mapFields (·.setIfInBounds 0 (rawInt 0)))).get? it=iF (yj (rawInt 0) i a n ep):=aX _ hi rfl;refine iG (j6 h1 rfl (by simp) ?_); show wpAny _ _ (newExc (.type "StopIteration") [] >>= _) _ _ _;refine iG ?_; simp only [newExc,newTuple]; refine iG (iU ?_ (by size_fits));refine iG (m:=firstArgMember _ _) (lG (a:=bw) (by first | rfl | (simp only [firstArgMember]; rfl)) ?_); refine iU ?_ (by size_fits); simp only [raiseNew];refine iG (wpAny_handled ?_); first | rw [show A.in1.handled=iH from h] | rw [h]
 refine iG (iM (wpAny_throw ?_)); refine iG (j5 (T := "StopIteration") (b:=iK) ⟨_,ah _ rfl,rfl⟩ lz ?_);exact iM (c _ (((((bo ..).trans (bo ..))).extBut.push _).push _))
theorem QC {Q:iI->iL->Prop} (hi:s.heap.get? it=iF o) (d:o.cls=.type "set_iterator") (h:Q (.ref it) s):wpAny (model prog w) A (pyIter (.ref it)) Q E s:=by
 have hT:s.TypeIs (.ref it) "set_iterator":=⟨_,hi,d⟩
 refine wpAny_pyIter_slot hT gl (iS gl hT Kv ?_ (Wq _)); show wpAny _ _ (ret (.ref it)) _ _ s;exact iM ⟨_,rfl, "set_iterator",_,hT,slot_si_next.lookup,h⟩
theorem qal {ep:Nat} {t:i4} (u:A.handled=iH) (d:w.params.followText "set-order"=iK) (f:t.fits es.size=iK) (g:a≠it):Walks prog w A it [it,a] [it] es.size (λi v=>((pickOrder (w.params.setOrder a ep) es).toList.map (·.2))[i]?=iF v) (λi h=>h.get? it=iF (yj (rawInt 0) i a es.size ep)/\h.get? a=iF (kn es ep t)) where
 sub:=λb d=>by simp at d; simp [d]
 frame:=λ_ _ _ st p=>⟨p it (by simp) _ st.1,p a (by simp) _ st.2⟩
 item:=λi s Q E hi st c=>by
  have n:(pickOrder (w.params.setOrder a ep) es).size=es.size:=by have:=(QB (w.params.setOrder a ep) es).length_eq;simpa using this
  have j:i < (pickOrder (w.params.setOrder a ep) es).size:=by omega
  obtain ⟨e,he⟩:∃ e,(pickOrder (w.params.setOrder a ep) es)[i]?=iF e:=⟨_,bt j⟩
  refine Ws (x:=e.2) (nx:=0) st.1 st.2 f rfl (λA1 L R q=>?_) λh' k l=>c e.2 h' s.toks ?_ ⟨k,?_⟩ λb o y r=>?_;·unfold setNext;refine iG (i8 st.2 rfl f ?_);dsimp only;refine iG (m:=setsByText) (iG (i5 (iM ?_)));rw [vE d,if_pos rfl,if_neg (by simp)];refine iG ?_;unfold setWalk;refine iG (i8 st.2 rfl f ?_);dsimp only;refine iG (m:=setsByText) (iG (i5 (iM ?_)));rw [vE d,if_pos rfl];refine iG (i5 (iM ?_));refine iM ?_;rw [show (pickOrder ((⟨(model prog w).prog,(model prog w).w.params⟩:Setting).params.setOrder a ep) es)[i]?=iF e from he];exact q
  ·rw [aG,dB,he];rfl
  ·rw [l.2 a g];exact st.2
  ·rw [l.2 b (λz=>y (by simp [z]))];exact r
 done:=λs Q E st c=>by
  have n:(pickOrder (w.params.setOrder a ep) es).size=es.size:=by have:=(QB (w.params.setOrder a ep) es).length_eq;simpa using this
  refine Wt u st.1 st.2 f rfl (λA1 L R q=>?_) λh' D=>c h' s.toks λb o y r=>D b o (λz=>y (by simp [z])) r;unfold setNext;refine iG (i8 st.2 rfl f ?_);dsimp only;refine iG (m:=setsByText) (iG (i5 (iM ?_)));rw [vE d,if_pos rfl,if_neg (by simp)];refine iG ?_;unfold setWalk;refine iG (i8 st.2 rfl f ?_);dsimp only;refine iG (m:=setsByText) (iG (i5 (iM ?_)));rw [vE d,if_pos rfl];refine iG (i5 (iM ?_));refine iM ?_;rw [show (pickOrder ((⟨(model prog w).prog,(model prog w).w.params⟩:Setting).params.setOrder a ep) es)[es.size]?=iH from dj (fC n)];exact q
 self:=λi s Q E st c=>QC st.1 rfl c
noncomputable def xH (t:i4) (i:Nat):Nat:=if i=0 then 0 else t.place.getD 0 0+1
theorem Wu (j k:Nat):bq #[j] k=if j < k then 1 else 0:=by unfold bq;show bq.go #[j] k 1 0 1=_;unfold bq.go;rw [if_pos (by omega)];show (if (#[j]:Array Nat).getD 0 k < k then bq.go #[j] k 0 1 1 else bq.go #[j] k 0 0 0)=_;show (if j < k then bq.go #[j] k 0 1 1 else bq.go #[j] k 0 0 0)=_;split <;> rfl
theorem Xi {t:i4} {Q:Option (iI×Nat)->iL->Prop} (d:w.params.followText "set-order"=iJ) (f:t.fits es.size=iK) (hl:t.led=iK) (hz:es.size<=1) (g:s.heap.get? a=iF (kn es ep t)) (hi:i<=es.size)
  (q:Q (match es[i]? with | some e=>iF (e.2,xH t (i+1)) | none=>iH) s):wpAny (model prog w) A (setNext a (xH t i) i ep) Q E s:=by
 have h:t.place.size=es.size:=by have:=f;simp only [SetTable.fits,aM,beq_iff_eq] at this;exact this.1
 unfold setNext;refine iG (i8 g rfl f ?_);dsimp only;refine iG (m:=setsByText) (iG (i5 (iM ?_)));rw [vE d,if_neg (by simp)];show wpAny _ _ (if (!t.plain&&decide (es.size > 1))=iK then _ else _) _ _ _;rw [if_neg (by simp; intro _; omega)];refine iG ?_;show wpAny _ _ (if (!t.led&&!es.isEmpty)=iK then _ else _) _ _ _;rw [hl,if_neg (by simp)];refine iM (iM ?_);have e:(match es[bq t.place (xH t i)]?,t.place[bq t.place (xH t i)]? with | some (_,x),iF j=>iF (x,j+1) | _,_=>iH)=(match es[i]? with | some e=>iF (e.2,xH t (i+1)) | none=>iH:Option (iI×Nat)):=by
  obtain ⟨l⟩:=es;obtain ⟨k,⟨pl⟩,u,fi,le,mo,pn⟩:=t;cases l with
  | nil=>simp
  | cons e0 l=>
   cases l with
   | cons _ _=>exact absurd hz (by simp)
   | nil=>
    cases pl with
    | nil=>exact absurd h (by simp)
    | cons j pl=>
     cases pl with
     | cons _ _=>exact absurd h (by simp)
     | nil=>
      have b:i=0\/i=1:=by simp at hi; omega
      rcases b with rfl | rfl;·show (match (#[e0]:Array (Int×iI))[bq #[j] 0]?,(#[j]:Array Nat)[bq #[j] 0]? with | some (_,x),iF j=>iF (x,j+1) | _,_=>iH)=iF (e0.2,j+1);rw [Wu,if_neg (by omega)];rfl
      ·show (match (#[e0]:Array (Int×iI))[bq #[j] (j+1)]?,(#[j]:Array Nat)[bq #[j] (j+1)]? with | some (_,x),iF j=>iF (x,j+1) | _,_=>iH)=iH;rw [Wu,if_pos (by omega)];rfl
 exact Eq.mp (congrArg (λz=>Q z s) e.symm) q
theorem qcs {ep:Nat} {t:i4} (m:A.handled=iH) (d:w.params.followText "set-order"=iJ) (f:t.fits es.size=iK) (hl:t.led=iK) (hz:es.size<=1) (e:a≠it):Walks prog w A it [it,a] [it] es.size (λi v=>(es.toList.map (·.2))[i]?=iF v) (λi h=>h.get? it=iF (yj (rawInt (xH t i)) i a es.size ep)/\h.get? a=iF (kn es ep t)) where
 sub:=λb d=>by simp at d; simp [d]
 frame:=λ_ _ _ st k=>⟨k it (by simp) _ st.1,k a (by simp) _ st.2⟩
 item:=λi s Q E hi st c=>by
  have l:es[i]?=iF es[i]:=bt hi;refine Ws (x:=es[i].2) (nx:=xH t (i+1)) st.1 st.2 f rfl (λA1 L R q=>Xi d f hl hz st.2 (cF hi) (by rw [l]; exact q)) λh' g j=>c es[i].2 h' s.toks ?_ ⟨g,?_⟩ λb o y r=>?_;·rw [aG,dB,l];rfl
  ·rw [j.2 a e];exact st.2
  ·rw [j.2 b (λz=>y (by simp [z]))];exact r
 done:=λs Q E st c=>Wt m st.1 st.2 f rfl (λA1 L R q=>Xi d f hl hz st.2 (aw _) (by rw [dj (aw _)]; exact q)) λh' D=>c h' s.toks λb o y r=>D b o (λz=>y (by simp [z])) r
 self:=λi s Q E st c=>QC st.1 rfl c
noncomputable def qg3 (es:Array (Int×iI)) (ps:List Nat):List iI:=ps.map λk=>(es[k]?.map (·.2)).getD .none
theorem qam (h:ps.Perm (aK es.size)):(qg3 es ps).Perm (es.toList.map (·.2)):=by
 have e:qg3 es (aK es.size)=es.toList.map (·.2):=by
  apply eI;intro i;unfold qg3;rw [aG,aG,show es.toList[i]?=es[i]? from dB];by_cases hi:i < es.size;·rw [List.getElem?_range hi,bt hi];simp [hi]
  ·rw [bL (by rw [bK]; omega),dj (by omega)];rfl
 rw [<-e];exact h.map _
theorem ZA {ep m:Nat} {t:i4} (B:A.handled=iH) (j:t.fits es.size=iK) (hp:ps.Perm (aK es.size)) (f:a≠it) (e:p≠it):Walks prog w A it [it,a,p] [it] es.size (λi v=>(qg3 es ps)[i]?=iF v) (λi h=>h.get? it=iF (yj (.ref p) i a es.size ep)/\h.get? a=iF (kn es ep t)/\h.get? p=iF { cls:=.type "tuple",data:=.seq (ps.map λ(i:Nat)=>rawInt i).toArray m }) where
 sub:=λb u=>by simp at u; simp [u]
 frame:=λ_ _ _ st k=>⟨k it (by simp) _ st.1,k a (by simp) _ st.2.1,k p (by simp) _ st.2.2⟩
 item:=λi s Q E hi st c=>by
  have n:ps.length=es.size:=by rw [hp.length_eq,bK]
  have l:i < ps.length:=by omega
  have k:ps[i] < es.size:=bg.mp (hp.mem_iff.mp (bT l));have q:es[ps[i]]?=iF es[ps[i]]:=bt k;refine Zz (x:=es[ps[i]].2) (hx:=es[ps[i]].1) (pl:=ps[i]) st.1 st.2.1 j rfl st.2.2 ?_ q λh' g y=>c es[ps[i]].2 h' s.toks ?_ ⟨g,?_,?_⟩ λb o d r=>?_;·rw [eZ,aG,aA l];rfl
  ·unfold qg3;rw [aG,aA l];simp [q]
  ·rw [y.2 a f];exact st.2.1
  ·rw [y.2 p e];exact st.2.2
  ·rw [y.2 b (λz=>d (by simp [z]))];exact r
 done:=λs Q E st c=>by
  have n:ps.length=es.size:=by rw [hp.length_eq,bK]
  refine qak B st.1 st.2.1 j rfl st.2.2 ?_ λh' D=>c h' s.toks λb o d r=>D b o (λz=>d (by simp [z])) r;rw [eZ,bL (by simp; omega)]
 self:=λi s Q E st c=>QC st.1 rfl c
theorem qct {t:i4} {A1:iQ} {Q:iI->iL->Prop} (n:A1.handled=iH) (g:s.heap.get? a=iF (kn es ep t)) (d:SetG KpS prog w es t ks)
  (q:∀ (it:Addr) (h':Heap) (r:Drawn) (ord:List iI) (fp:List Addr) (St:Nat->Heap->Prop),(∀ b o,s.heap.get? b=iF o->h'.get? b=iF o)->ord.Perm (es.toList.map (·.2))->Walks prog w A1 it fp [it] es.size (λi v=>ord[i]?=iF v) St->St 0 h' ->(∀ b∈fp,b=a\/s.heap.objs.size<=b)->s.heap.objs.size<=it->Q (.ref it) { s with heap:=h',drawn:=r }):wpAny (model prog w) A (pyIter (.ref a)) Q E s:=by
 have hT:s.TypeIs (.ref a) "set":=⟨_,g,rfl⟩
 have f:a < s.heap.objs.size:=ap g;refine wpAny_pyIter_slot hT PySem.F.slot_set_iter (iS PySem.F.slot_set_iter hT Wr ?_ (PySem.F.args_set_iter_1 _));show wpAny _ _ (Builtin.Frozenset.sizeOf a >>= _) _ _ s;refine iG (m:=Builtin.Frozenset.sizeOf a) (iG (k7 g rfl d.fits (iM ?_)));refine iG (m:=setDrawn a) ?_;unfold setDrawn;refine iG (i8 g rfl d.fits ?_);dsimp only;refine iG (m:=setsByText) (iG (i5 (iM ?_)));refine iM ?_;cases h:w.params.followText "set-order" with
 | true=>
  rw [vE h,if_neg (by simp)];refine iG (iM ?_);refine iG (m:=setEpoch a) (wpAny_setEpoch_of g rfl d.fits ?_);refine iG (iU (iM ⟨_,rfl, "set_iterator",_,⟨_,ah _ rfl,rfl⟩,slot_si_next.lookup,?_⟩));refine q _ _ s.drawn _ _ _ (λb o e=>aa _ e) ((QB (w.params.setOrder a ep) es).map _) (qal n h d.fits (ay f)) ⟨ah _ rfl,aa _ g⟩ ?_ (aw _);intro b h;rcases ae.mp h with z | z;·exact .inr (z ▸ aw _)
  ·exact .inl (aE.mp z)
 | false=>
  have k:t.led=true:=by rw [d.led,h]; rfl
  rw [vE h];show wpAny _ _ (if (!false&&(!t.plain&&decide (es.size > 1)))=iK then _ else _) _ _ _;by_cases u:es.size<=1
  ·rw [if_neg (by simp; intro _; omega)];refine iG (iM ?_);refine iG (m:=setEpoch a) (wpAny_setEpoch_of g rfl d.fits ?_);refine iG (iU (iM ⟨_,rfl, "set_iterator",_,⟨_,ah _ rfl,rfl⟩,slot_si_next.lookup,?_⟩));refine q _ _ s.drawn _ _ _ (λb o e=>aa _ e) (cJ _) (qcs n h d.fits k u (ay f)) ⟨ah _ rfl,aa _ g⟩ ?_ (aw _);intro b h;rcases ae.mp h with z | z;·exact .inr (z ▸ aw _)
   ·exact .inl (aE.mp z)
  ·have l:t.plain=false:=d.plain rfl λz=>by have h0:=d.size;rw [z,aY] at h0;omega
   rw [if_pos (by rw [l]; simp; omega)];refine iG (qai es.size (aK es.size) s (by simp) λps r hp=>?_);have j:ps.length=es.size:=by rw [hp.length_eq,bK]
   have hsz:(ps.map λ(i:Nat)=>rawInt i).length<=sizeLine:=by rw [ai,j]; exact lm d.bd
   refine iG (lA ?_ hsz);refine iG (m:=setEpoch a) (wpAny_setEpoch_of (aa _ g) rfl d.fits ?_);refine iG (iU (iM ⟨_,rfl, "set_iterator",_,⟨_,ah _ rfl,rfl⟩,slot_si_next.lookup,?_⟩));have c:s.heap.objs.size < (s.heap.push ({ cls:=.type "tuple",data:=.seq (ps.map λ(i:Nat)=>rawInt i).toArray }:Obj)).objs.size:=by rw [ba]; exact fj _
   refine q _ _ r _ _ _ (λb o e=>aa _ (aa _ e)) (qam hp) (ZA (p:=s.heap.objs.size) n d.fits hp (ay (cV f c)) (ay c)) ⟨ah _ rfl,aa _ (aa _ g),aa _ (ah _ rfl)⟩ ?_ (cF c);intro b h;rcases ae.mp h with z | z;·exact .inr (z ▸ cF c)
   ·rcases ae.mp z with z | z;·exact .inl z
    ·exact .inr (fC (aE.mp z).symm)
end
section
theorem qcu {ord:List iI} {acc:Array iI} (hl:ord.length=n) (h:ItemsOf (λi v=>ord[i]?=iF v) acc n):acc.toList=ord:=by
 apply eI;intro i;rw [show acc.toList[i]?=acc[i]? from dB];by_cases hi:i < acc.size;·rw [bt hi];exact (h.2 i _ (bt hi)).symm
 ·rw [dj (by omega),bL (by have:=h.1; omega)]
theorem UK {t:i4} {Q:List iI->iL->Prop} (M:A.handled=iH) (K:s.heap.get? a=iF (kn es ep t)) (d:SetG KpS prog w es t ks)
  (N:∀ h' y tk ord,(∀ b o,s.heap.get? b=iF o->h'.get? b=iF o)->ord.Perm (es.toList.map (·.2))->Q ord { s with heap:=h',drawn:=y,toks:=tk }):wpAny (model prog w) A (collect (.ref a)) Q E s:=by
 have p:a < s.heap.objs.size:=ap K;unfold collect;refine iG (wpAny_runValue (iZ PySem.F.entry_proto_collect ?_)); rw [br PySem.F.plain_proto_collect _];show wpAny _ A.in1 (newList [] >>= λl=>again (.builtin "list.__iadd__" ⟨[l,.ref a],[]⟩)) _ _ s; refine iG (iU ?_);refine iM ⟨k6 PySem.F.plain_list_iadd _,iZ PySem.F.entry_list_iadd ?_⟩; rw [br PySem.F.plain_list_iadd _];have g:(s.heap.push { cls:=.type "list",data:=.seq ([]:List iI).toArray }).get? a=iF (kn es ep t):=aa _ K;have hT:fX { s with heap:=s.heap.push { cls:=.type "list",data:=.seq ([]:List iI).toArray } } (.ref a) "set":=⟨_,g,rfl⟩
 show wpAny _ A.in1 (bU (.ref s.heap.objs.size) (.ref a) (.ref s.heap.objs.size)) _ _ _; unfold bU;refine iG (ll hT ?_);have h1:cY (.ref s.heap.objs.size) (.ref a)=false:=by simp [cY,cG p]
 rw [if_neg (by rw [h1]; decide)];refine iG (qct (A1:=A.in1) M g d λit h2 y ord fp St k2 hp W D G hit=>?_);have v:h2.get? s.heap.objs.size=iF { cls:=.type "list",data:=.seq ([]:List iI).toArray }:=k2 _ _ (ah _ rfl);have H:h2.get? a=iF (kn es ep t):=k2 _ _ g;refine iG (iW ?_);unfold dG;have i:fX { s with heap:=h2,drawn:=y } (.ref a) "set":=⟨_,H,rfl⟩
 refine iG (wpAny_specialOf i PySem.F.slot_set_len.lookup ?_)
 (generalize f:("set.__len__":String)=id0; (fail_if_success (clear f id0)); wp_delta; rw [show splitId id0=iF ("set", "__len__") from by subst f; decide +kernel]; subst f)
 refine iG (j5 (b:=iK) i (by rw [lp]; kernel_rfl) ?_);refine iG (m:=typeOf (.ref a)) (ll i ?_);refine iM ?_;show wpAny _ A.in1 (rule "list.extend.makes-room" >>= λ_=>Builtin.List.listTouch (.ref s.heap.objs.size) >>= λ_=>again (.builtin "list.extend.loop" ⟨[.ref s.heap.objs.size,.ref it,.ref s.heap.objs.size],[]⟩)) _ _ _;refine iG (k9 (iG ?_)); show wpAny _ A.in1 (updateSeq s.heap.objs.size (·.push .none) >>= λ_=>updateSeq s.heap.objs.size (·.pop)) _ _ _;refine iG (lc v rfl ?_); have h:=aX (bx (·.push bw)) v rfl;refine lc h rfl ?_; have j:=aX (bx (·.pop)) h rfl;have n:(s.heap.push ({ cls:=.type "list",data:=.seq ([]:List iI).toArray }:Obj)).objs.size=s.heap.objs.size+1:=ba ..;have k:∀ b o,b≠s.heap.objs.size->h2.get? b=iF o->((h2.update s.heap.objs.size (bx (·.push bw))).update s.heap.objs.size (bx (·.pop))).get? b=iF o:=λb o c e=>(bF _ _ (bf c)).trans ((bF _ _ (bf c)).trans e);have J:s.heap.objs.size∉fp:=λz=>by
  rcases G _ z with q | q;·exact cG p q
  ·exact Nat.not_succ_le_self _ (n ▸ q)
 have r:ord.length=es.size:=by rw [hp.length_eq];simp
 refine iM ⟨k6 cg _,codeAny_extend_loopS W.toS (lm d.bd) _ J _ es.size 0 _ _ _ rfl (be _) (W.frame 0 h2 _ D λb c o e=>k b o (λz=>J (z ▸ c)) e) j (ItemsOf.nil _) λs' L S x I u=>?_⟩;show wpAny _ A (load s.heap.objs.size >>= _) _ _ s';refine iG (wpAny_load I (iM ?_));rw [qcu r u];obtain ⟨h',g',d',B,C⟩:=s';have P:g'=s.gens:=x.gens;have R:d'=y:=x.drawn;have O:C=s.os:=x.os;subst P R O;refine N h' d' B ord (λb o e=>?_) hp;have c:=ap e;refine x.heap b o (λz=>?_) (k b o (ay c) (k2 b o (aa _ e)));rcases ae.mp z with z | z;·exact ay c z
 ·have h3:s.heap.objs.size+1<=it:=n ▸ hit;rw [<-aE.mp z] at h3;exact bM _ (cV c h3)
theorem ZC {Q:iI->iL->Prop} (q:A.handled=iH) (S:SetK KpS prog w s.heap a ks) (j:ks.length < 64)
  (x:∀ (h1 h':Heap) r tk vs e ss,(∀ b o,s.heap.get? b=iF o->h1.get? b=iF o)->(∀ b o,h1.get? b=iF o->h'.get? b=iF o)->h'.get? h1.objs.size=iF (seqObj "list" vs e)->StrsAre vs.toList ss->ss.Perm ks->sortedS ss=iK->Q (.ref h1.objs.size) { s with heap:=h',drawn:=r,toks:=tk }) :
  wpAny (model prog w) A (call (.builtin "sorted") [.ref a]) Q E s:=by
 obtain ⟨es,ep,t,u,d⟩:=S;refine Calls.call_function_entry kind_sorted plain_sorted entry_sorted (args_sorted1 _) ?_; unfold Builtin.«sorted»;refine iG (m:=checkCount "sorted" 1 1 _) (iM ?_);refine iG (UK (by exact q) u d λh1 r tk ord k1 hp=>?_);have c:StrsAre ord (ord.map strOf):=strsAre_map ord λv p=>by obtain ⟨e,i,rfl⟩:=ax.mp (hp.mem_iff.mp p);exact qg0 d.el i
 have h:(ord.map strOf).Perm ks:=(hp.map strOf).trans (by rw [cm]; exact d.perm);have n:ord.length=ks.length:=by have:=h.length_eq;rwa [ai] at this
 refine iG (wpAny_newList ?_ (by rw [n,iP]; omega));have W:(h1.push (seqObj "list" ord.toArray 0)).get? h1.objs.size=iF (seqObj "list" ord.toArray 0):=ah _ rfl;refine iG (iW (iS slot_list_sort (s:={ s with heap:=h1.push (seqObj "list" ord.toArray 0),drawn:=r,toks:=tk }) ⟨_,W,rfl⟩ entry_list_sort (list_sort_treeK strKind_oneLt W c.keysOf (λv₁ k rest e=>keyKind_strs (by rw [<-e]; exact c)) (by rw [n]; exact j) λg G C=>⟨_,rfl,?_⟩) (args_list_sort _)));obtain ⟨f,B,z,y⟩:=sorted_out_str c G C;obtain ⟨e,i⟩:=sortedHeap_at (out:=(arrOf g).map (·.2)) W;refine iM ⟨_,rfl,x h1 _ r tk _ e f k1 (λb o D=>?_) i B (z.trans h) y⟩;have l:=ap D;rw [sortedHeap_old (ay l) (by rw [ba]; exact cw l)];exact aa _ D
end
section
theorem Wv {x:iI} {Q:iI->iL->Prop} (hit:s.heap.IsTupleIter it l i) (hl:s.heap.IsTuple l items) (hx:items[i]?=iF x)
  (c:∀ h',h'.IsTupleIter it l (i+1)->bj it s.heap h'->Q x { s with heap:=h' }):wpAny (model prog w) A (aQ (.ref it)) Q E s:=by
 obtain ⟨o,h,d,hd⟩:=id hit;obtain ⟨ol,a,_,n,b⟩:=hl;unfold aQ;refine iG (iR (name:=ac "__next__") hit.typeIs bY (iS bY hit.typeIs PySem.F.entry_tuple_iterator_next ?_ (PySem.F.args_tuple_iterator_next_1 _))); show wpAny _ _ (field (.ref it) 0 >>= _) _ _ s;refine iG (iV h hd (x:=.ref l) rfl ?_); show wpAny _ _ (if (aI l == bw)=iK then _ else _) _ _ s;rw [if_neg (show ¬((aI l == bw)=iK) from bD)]; show wpAny _ _ (field (.ref it) 1 >>= _) _ _ s;refine iG (iV h hd (x:=.int i 0) rfl ?_); show wpAny _ _ (seqItems? (.ref l) >>= _) _ _ s;refine iG (iT a b ?_); simp only [dE,hx];refine iG (j6 h hd (by simp) (iM ⟨x,rfl,iM (c _ ?_ (bo ..))⟩)); exact ⟨_,aX _ h (Obj.isFreed_of_fields (Obj.data_mapFields hd _)),(Obj.cls_mapFields ..).trans d,by rw [Obj.data_mapFields hd]; simp [rawInt]⟩
theorem gK {Q:iI->iL->Prop} (d:A.handled=iH) (hit:s.heap.IsTupleIter it l i) (hl:s.heap.IsTuple l items) (hx:items[i]?=iH)
  (k:∀ h' e,ia it s.heap h'->(∃ o,h'.get? e=iF o/\o.cls=.type "StopIteration")->E (.ref e) { s with heap:=h' }):wpAny (model prog w) A (aQ (.ref it)) Q E s:=by
 obtain ⟨o,b,f,hd⟩:=id hit;obtain ⟨ol,h,_,n,c⟩:=hl;unfold aQ;refine iG (iR (name:=ac "__next__") hit.typeIs bY (iS bY hit.typeIs PySem.F.entry_tuple_iterator_next ?_ (PySem.F.args_tuple_iterator_next_1 _))); show wpAny _ _ (field (.ref it) 0 >>= _) _ _ s;refine iG (iV b hd (x:=.ref l) rfl ?_); show wpAny _ _ (if (aI l == bw)=iK then _ else _) _ _ s;rw [if_neg (show ¬((aI l == bw)=iK) from bD)]; show wpAny _ _ (field (.ref it) 1 >>= _) _ _ s;refine iG (iV b hd (x:=.int i 0) rfl ?_); show wpAny _ _ (seqItems? (.ref l) >>= _) _ _ s;refine iG (iT h c ?_); simp only [dE,hx];refine iG (k9 (iG (j6 b hd (by simp) ?_))); show wpAny _ _ (newExc (.type "StopIteration") [] >>= _) _ _ _;refine iG ?_; simp only [newExc,newTuple]; refine iG (iU ?_ (by size_fits));refine iG (m:=firstArgMember _ _) (lG (a:=bw) (by first | rfl | (simp only [firstArgMember]; rfl)) ?_); refine iU ?_ (by size_fits); simp only [raiseNew];refine iG (wpAny_handled ?_); first | rw [show A.in1.handled=iH from d] | rw [d]
 refine iG (iM (wpAny_throw ?_)); exact k _ _ (((bo ..).extBut.push _).push _) ⟨_,ah _ rfl,rfl⟩
theorem UL (g:A.handled=iH) (it l:Addr) (d:l≠it) (items:Array iI):lq prog w A it [it,l] items.size (λi v=>items[i]?=iF v) (λi h=>h.IsTupleIter it l i/\h.IsTuple l items) where
 live:=λ_ _ st=>let ⟨o,f,_⟩:=st.1; ⟨o,f⟩
 frame:=λ_ _ _ st k=>⟨st.1.at λo e=>k it (by simp) o e,let ⟨o,e,c⟩:=st.2; ⟨o,k l (by simp) o e,c⟩⟩
 item:=λi s Q E hi st j=>by refine Wv st.1 st.2 (x:=items[i]) (by simp [hi]) λh' b a=>j _ h' s.toks (by simp [hi]) ⟨b,?_⟩ a;obtain ⟨o,e,c⟩:=st.2;exact ⟨o,(a.2 l d).trans e,c⟩
 done:=λs Q E st m=>gK g st.1 st.2 (by simp) m
structure Apart2 (z TI TO i1 i2:Addr) (fp1 fp2:List Addr):Prop where
 TIz:TI≠z
 TOz:TO≠z
 i1z:i1≠z
 i2z:i2≠z
 TITO:TI≠TO
 TIi1:TI≠i1
 TIi2:TI≠i2
 TOi1:TO≠i1
 TOi2:TO≠i2
 i12:i1≠i2
 z1:z∉fp1
 z2:z∉fp2
 o1:TO∉fp1
 o2:TO∉fp2
 a12:i1∉fp2
 a21:i2∉fp1
variable {z TI TO i1 i2:Addr} {fp1 fp2:List Addr} {n1 n2:Nat} {P1 P2:Nat->iI->Prop} {S1 S2:Nat->Heap->Prop} {a b:iI}
theorem qcv {Q:iI->iL->Prop} (D:Apart2 z TI TO i1 i2 fp1 fp2) (D1:lq prog w A i1 fp1 n1 P1 S1) (D2:lq prog w A i2 fp2 n2 P2 S2)
  (hz:lr s.heap z TI TO .none) (Y:iX s.heap TI (.ref i1) (.ref i2)) (X:iX s.heap TO a b) (h1:S1 i s.heap) (h2:S2 i s.heap) (l1:i < n1) (l2:i < n2)
  (hQ:∀ x y h' tk,P1 i x->P2 i y->lr h' z TI TO (rawInt s.heap.objs.size)->iX h' TO x y->S1 (i+1) h'->S2 (i+1) h'->iX h' s.heap.objs.size x y ->(∀ c o,c≠z->c≠TO->c≠i1->c≠i2->s.heap.get? c=iF o->h'.get? c=iF o)->Q (.ref s.heap.objs.size) { s with heap:=h',toks:=tk }) :
  wpAny (model prog w) A (Builtin.«zip.__next__» ⟨[.ref z],[]⟩) (λfin s'=>∃ v,fin=.done (.ret v)/\Q v s') E s:=by
 show wpAny _ _ (field (.ref z) 2 >>= _) _ _ _; refine iG (iV hz rfl (x:=.bool iJ) rfl ?_);show wpAny _ _ (field (.ref z) 3 >>= _) _ _ _; refine iG (iV hz rfl (x:=.ref TI) rfl ?_); refine iG (iT Y rfl ?_);show wpAny _ _ (aS (.ref z) >>= _) _ _ _; refine iG ?_; unfold aS;refine iG (iV hz rfl (x:=.none) rfl (iM ?_)); simp only [if_true];refine iG (k9 ?_); refine iG (iV hz rfl (x:=.ref TO) rfl ?_);refine iG (j0 hz (by simp) λh₁ r l=>?_); replace r:lr h₁ z TI TO .ellipsis:=r;refine iG ?_; simp only [List.zipIdx_cons,List.zipIdx_nil,dW,fG];refine iG (iG (lB ?_)); show wpAny _ _ (aQ (.ref i1) >>= _) _ _ _;refine iG (D1.item i _ _ _ l1 (D1.frame _ _ _ h1 λc C o e=>l.extBut _ _ (λq=>D.z1 (q ▸ C)) e) λx V W hx N k=>iM ?_);have B:iX V TO a b:=(k.2 _ D.TOi1).trans (l.extBut _ _ D.TOz X);refine iG (iT B rfl ?_); refine iG (wpAny_updateSeq_pair B λU n j=>?_);replace n:iX U TO x b:=n; refine iG (lH (iM ?_));refine iG (iG (lB ?_)); show wpAny _ _ (aQ (.ref i2) >>= _) _ _ _;refine iG (D2.item i _ _ _ l2 (D2.frame _ _ _ h2 λc C o e=>(j.extBut _ _ (λq=>D.o2 (q ▸ C)) ((k.2 _ (λq=>D.a12 (q ▸ C))).trans (l.extBut _ _ (λq=>D.z2 (q ▸ C)) e)))) λy T L hy M g=>iM ?_);have u:iX T TO x b:=(g.2 _ D.TOi2).trans n;refine iG (iT u rfl ?_); refine iG (wpAny_updateSeq_pair u λh d f=>?_);replace d:iX h TO x y:=d; refine iG (lH (iM (iM ?_)));refine iG (iT d rfl ?_); refine iG (lA ?_);have hsz:h.objs.size=s.heap.objs.size:=by rw [f.1,g.1,j.1,k.1,l.1]
 have G:lr h z TI TO .ellipsis:=f.extBut _ _ D.TOz.symm ((g.2 _ D.i2z.symm).trans (j.extBut _ _ D.TOz.symm ((k.2 _ D.i1z.symm).trans r)));have P:∀ c o,c≠z->c≠TO->c≠i1->c≠i2->s.heap.get? c=iF o->h.get? c=iF o:=λc o R c2 F Z e=>f.extBut _ _ c2 ((g.2 _ Z).trans (j.extBut _ _ c2 ((k.2 _ F).trans (l.extBut _ _ R e))));have K:z < h.objs.size:=ap G;show wpAny _ _ (Builtin.SmallTypes.ownedTupleHandOut (.ref z) (.ref h.objs.size) >>= _) _ _ _; refine iG ?_; unfold Builtin.SmallTypes.ownedTupleHandOut;have O:lr (h.push { cls:=.type "tuple",data:=.seq #[x,y] }) z TI TO .ellipsis:=aa _ G;refine iG (j0 O (by simp) λS p I=>?_); replace p:lr S z TI TO (rawInt h.objs.size):=p;refine j0 p (by simp) λt m H=>?_; replace m:lr t z TI TO (rawInt h.objs.size):=m;have up:∀ c o,c≠z->h.get? c=iF o->t.get? c=iF o:=λc o R e=>H.extBut _ _ R (I.extBut _ _ R (aa _ e));have J:iX t h.objs.size x y:=H.extBut _ _ (cG K) (I.extBut _ _ (cG K) (ah _ rfl));rw [hsz] at m J;refine iM ⟨_,rfl,?_⟩;show Q (.ref h.objs.size) _;rw [hsz];refine hQ x y t L hx hy m (up _ _ D.TOz d) (D1.frame _ _ _ N λc C o e=>up _ _ (λq=>D.z1 (q ▸ C)) (f.extBut _ _ (λq=>D.o1 (q ▸ C)) ((g.2 _ (λq=>D.a21 (q ▸ C))).trans (j.extBut _ _ (λq=>D.o1 (q ▸ C)) e))))
  (D2.frame _ _ _ M λc C o e=>up _ _ (λq=>D.z2 (q ▸ C)) (f.extBut _ _ (λq=>D.o2 (q ▸ C)) e)) J λc o R c2 F Z e=>up c o R (P c o R c2 F Z e)
theorem qeT {Q:Fin->iL->Prop} (D:Apart2 z TI TO i1 i2 fp1 fp2) (M:lq prog w A i1 fp1 n1 P1 S1) (P:lq prog w A i2 fp2 n2 P2 S2)
  (hz:lr s.heap z TI TO .none) (Y:iX s.heap TI (.ref i1) (.ref i2)) (X:iX s.heap TO a b) (h1:S1 i s.heap) (h2:S2 i s.heap) (y:i=n1\/(i < n1/\i=n2))
  (O:∀ h' tk e,(∀ c o,c≠z->c≠TO->c≠i1->c≠i2->s.heap.get? c=iF o->h'.get? c=iF o)->(∃ o,h'.get? e=iF o/\o.cls=.type "StopIteration")->E (.ref e) { s with heap:=h',toks:=tk }) :
  wpAny (model prog w) A (Builtin.«zip.__next__» ⟨[.ref z],[]⟩) Q E s:=by
 show wpAny _ _ (field (.ref z) 2 >>= _) _ _ _; refine iG (iV hz rfl (x:=.bool iJ) rfl ?_);show wpAny _ _ (field (.ref z) 3 >>= _) _ _ _; refine iG (iV hz rfl (x:=.ref TI) rfl ?_); refine iG (iT Y rfl ?_);show wpAny _ _ (aS (.ref z) >>= _) _ _ _; refine iG ?_; unfold aS;refine iG (iV hz rfl (x:=.none) rfl (iM ?_)); simp only [if_true];refine iG (k9 ?_); refine iG (iV hz rfl (x:=.ref TO) rfl ?_);refine iG (j0 hz (by simp) λh₁ r l=>?_); replace r:lr h₁ z TI TO .ellipsis:=r;refine iG ?_; simp only [List.zipIdx_cons,List.zipIdx_nil,dW,fG];refine iG (iG (lB ?_)); show wpAny _ _ (aQ (.ref i1) >>= _) _ _ _;have f1:S1 i h₁:=M.frame _ _ _ h1 λc C o e=>l.extBut _ _ (λq=>D.z1 (q ▸ C)) e;rcases y with rfl | ⟨hlt,rfl⟩
 ·refine iG (M.done _ _ _ f1 λd e k J=>?_);obtain ⟨I,h,K⟩:=J;have g:lr d z TI TO .ellipsis:=k _ _ D.i1z.symm r;have t:e≠z:=λx=>by subst x; rw [g] at h; cases h; simp at K
  exact j0 g (by simp) λp _ j=>O p s.toks e (λc o G _ L _ x=>j.extBut _ _ G (k _ _ L (l.extBut _ _ G x))) ⟨I,j.extBut _ _ t h,K⟩
 ·refine iG (M.item i _ _ _ hlt f1 λx d W hx N k=>iM ?_);have B:iX d TO a b:=(k.2 _ D.TOi1).trans (l.extBut _ _ D.TOz X);refine iG (iT B rfl ?_); refine iG (wpAny_updateSeq_pair B λp H j=>?_);refine iG (lH (iM ?_)); refine iG (iG (lB ?_)); show wpAny _ _ (aQ (.ref i2) >>= _) _ _ _;refine iG (P.done _ _ _ (P.frame _ _ _ h2 λc C o e=>(j.extBut _ _ (λq=>D.o2 (q ▸ C)) ((k.2 _ (λq=>D.a12 (q ▸ C))).trans (l.extBut _ _ (λq=>D.z2 (q ▸ C)) e)))) λv e n J=>?_);obtain ⟨I,h,K⟩:=J;have f:lr v z TI TO .ellipsis:=n _ _ D.i2z.symm (j.extBut _ _ D.TOz.symm ((k.2 _ D.i1z.symm).trans r));have t:e≠z:=λx=>by subst x; rw [f] at h; cases h; simp at K
  exact j0 f (by simp) λu _ m=>O u W e (λc o G c2 L R x=>m.extBut _ _ G (n _ _ R (j.extBut _ _ c2 ((k.2 _ L).trans (l.extBut _ _ G x))))) ⟨I,m.extBut _ _ t h,K⟩
theorem QD {Q:Option iI->iL->Prop} (D:Apart2 z TI TO i1 i2 fp1 fp2) (M:lq prog w A.in1 i1 fp1 n1 P1 S1) (P:lq prog w A.in1 i2 fp2 n2 P2 S2)
  (hz:lr s.heap z TI TO .none) (Y:iX s.heap TI (.ref i1) (.ref i2)) (X:iX s.heap TO a b) (h1:S1 i s.heap) (h2:S2 i s.heap) (d:i < n1) (l:i < n2)
  (h:∀ x y h' tk,P1 i x->P2 i y->lr h' z TI TO (rawInt s.heap.objs.size)->iX h' TO x y->S1 (i+1) h'->S2 (i+1) h'->iX h' s.heap.objs.size x y ->(∀ c o,c≠z->c≠TO->c≠i1->c≠i2->s.heap.get? c=iF o->h'.get? c=iF o)->Q (iF (.ref s.heap.objs.size)) { s with heap:=h',toks:=tk }):wpAny (model prog w) A (pyNext (.ref z)) Q E s:=by
 have hT:s.TypeIs (.ref z) "zip":=⟨_,hz,rfl⟩
 unfold pyNext;exact iG (i6 (iR (name:=ac "__next__") hT bz (iS bz hT dm
  (qcv D M P hz Y X h1 h2 d l λx y h' tk m g f q p e k j=>iM (h x y h' tk m g f q p e k j)) (c9 _))))
theorem JN {Q:Option iI->iL->Prop} (D:Apart2 z TI TO i1 i2 fp1 fp2) (M:lq prog w A.in1 i1 fp1 n1 P1 S1) (P:lq prog w A.in1 i2 fp2 n2 P2 S2)
  (hz:lr s.heap z TI TO .none) (Y:iX s.heap TI (.ref i1) (.ref i2)) (X:iX s.heap TO a b) (h1:S1 i s.heap) (h2:S2 i s.heap) (y:i=n1\/(i < n1/\i=n2))
  (f:∀ h' tk,(∀ c o,c≠z->c≠TO->c≠i1->c≠i2->s.heap.get? c=iF o->h'.get? c=iF o)->Q iH { s with heap:=h',toks:=tk }):wpAny (model prog w) A (pyNext (.ref z)) Q E s:=by
 have hT:s.TypeIs (.ref z) "zip":=⟨_,hz,rfl⟩
 unfold pyNext;refine iG (i6 (iR (name:=ac "__next__") hT bz (iS bz hT dm (qeT D M P hz Y X h1 h2 y λh' tk e k h=>?_) (c9 _))));obtain ⟨o,l,d⟩:=h;refine iG (j5 (T := "StopIteration") (b:=iK) ⟨o,l,d⟩ lz ?_);exact iM (f _ _ k)
end
section
theorem JO (b:A.handled=iH) (k:SK) (it l:Addr) (e:l≠it) (items:Array iI):lq prog w A it [it,l] items.size (λi v=>items[i]?=iF v) (λi h=>ItK h it l k i/\SeqK h l k items):=by
 cases k with
 | l=>exact Draws.list b it l e items
 | t=>exact UL b it l e items
end
abbrev zH1 (k1:SK) (h:Heap) (i:Addr):Heap:=h.push { cls:=.type k1.itc,data:=.fields #[.ref i,.int 0 0] }
abbrev zH2 (k1 k2:SK) (h:Heap) (i l:Addr):Heap:=(zH1 k1 h i).push { cls:=.type k2.itc,data:=.fields #[.ref l,.int 0 0] }
abbrev zH3 (k1 k2:SK) (h:Heap) (i l:Addr):Heap:=(zH2 k1 k2 h i l).push { cls:=.type "tuple",data:=.seq #[.ref h.objs.size,.ref (zH1 k1 h i).objs.size] }
abbrev zH4 (k1 k2:SK) (h:Heap) (i l:Addr):Heap:=(zH3 k1 k2 h i l).push { cls:=.type "tuple",data:=.seq #[.none,.none] }
abbrev zH5 (k1 k2:SK) (h:Heap) (i l:Addr):Heap:=(zH4 k1 k2 h i l).push { cls:=.type "zip",data:=.fields #[.none,.bool iJ,.bool iJ,.ref (zH2 k1 k2 h i l).objs.size,.ref (zH3 k1 k2 h i l).objs.size] }
theorem Ww (k1 k2:SK) (i l:Addr) (xs ys:Array iI):Meets (Builtin.«zip.__new__» ⟨[.type "zip",.ref i,.ref l],[]⟩) (λ_ R s=>SeqK s.heap i k1 xs/\SeqK s.heap l k2 ys/\R (.ok (.ret (.ref (zH4 k1 k2 s.heap i l).objs.size))) { s with heap:=zH5 k1 k2 s.heap i l }):=
 .of_wp λprog w A R s h=>by
  obtain ⟨hp,g,d,tk,os⟩:=s; obtain ⟨t,f,h⟩:=h;have c:=sub_zip;have b:SeqK (Shared.heap ⟨hp,g,d,tk,os⟩) i k1 xs:=t;have a:SeqK (Shared.heap ⟨hp.push { cls:=.type k1.itc,data:=.fields #[.ref i,.int 0 0] },g,d,tk,os⟩) l k2 ys:=SeqK.at f λo e=>aa _ e;wp_walk using qck b,qck a
  exact ⟨_,rfl,h⟩
variable {k1 k2:SK}
section
theorem qan {i l:Addr} {ys:Array iI} {Q:iI->iL->Prop} (t:SeqK s.heap i k1 xs) (f:SeqK s.heap l k2 ys)
  (h:∀ h',lr h' (s.heap.objs.size+4) (s.heap.objs.size+2) (s.heap.objs.size+3) .none->iX h' (s.heap.objs.size+2) (.ref s.heap.objs.size) (.ref (s.heap.objs.size+1)) ->iX h' (s.heap.objs.size+3) .none .none->ItK h' s.heap.objs.size i k1 0->ItK h' (s.heap.objs.size+1) l k2 0->(∀ c o,s.heap.get? c=iF o->h'.get? c=iF o)->Q (.ref (s.heap.objs.size+4)) { s with heap:=h' }) :
  wpAny (model prog w) A (call (.type "zip") [.ref i,.ref l]) Q E s:=by
 refine callType_new PySem.F.called_zip (by decide) (PySem.F.typeCall_zip_2 _ _) (PySem.F.newCall_zip_2 _ _) (λobj=>PySem.F.args_object_init_3 obj _ _) PySem.F.entry_zip_new (Ww k1 k2 i l xs ys) ⟨t,f,?_⟩;have z1:(zH1 k1 s.heap i).objs.size=s.heap.objs.size+1:=ba ..;have z2:(zH2 k1 k2 s.heap i l).objs.size=s.heap.objs.size+2:=by rw [ba,z1]
 have z:(zH3 k1 k2 s.heap i l).objs.size=s.heap.objs.size+3:=by rw [ba,z2]
 have a:(zH4 k1 k2 s.heap i l).objs.size=s.heap.objs.size+4:=by rw [ba,z]
 have g:(zH5 k1 k2 s.heap i l).get? (zH4 k1 k2 s.heap i l).objs.size=iF _:=ah _ rfl;have L:(zH5 k1 k2 s.heap i l).get? (zH3 k1 k2 s.heap i l).objs.size=iF _:=aa _ (ah _ rfl);have W:(zH5 k1 k2 s.heap i l).get? (zH2 k1 k2 s.heap i l).objs.size=iF _:=aa _ (aa _ (ah _ rfl));have Y:(zH5 k1 k2 s.heap i l).get? (zH1 k1 s.heap i).objs.size=iF _:=aa _ (aa _ (aa _ (ah _ rfl)));have g1:(zH5 k1 k2 s.heap i l).get? s.heap.objs.size=iF _:=aa _ (aa _ (aa _ (aa _ (ah _ rfl))));show _/\_;rw [z2,z,a] at g;rw [z1,z2] at W;rw [z] at L;rw [z1] at Y;rw [a];exact ⟨⟨_,g,rfl⟩,h _ g W L (.of ⟨_,g1,rfl,rfl⟩) (.of ⟨_,Y,rfl,rfl⟩) λc o x=>aa _ (aa _ (aa _ (aa _ (aa _ x))))⟩
end
variable {t':Nat}
section
theorem Kw {ch:List Addr} (I:Inv X pins σ H s) (k:∀ b o,b∉ch->s.heap.get? b=iF o->h'.get? b=iF o) (h:∀ b∈ch,Uh X pins H b):Inv X pins σ H { s with heap:=h',toks:=t' }:=by
 have t:∀ b u,H b=iF u->b∉ch:=λb u e z=>by rw [(h b z).1] at e;cases e
 refine I.step (g':=s.gens) (d':=s.drawn) (ch:=ch) (λb f=>?_) (λb o _ _ d e _=>k b o d e) (λb o _ _ d e _=>⟨o.slots,k b o d e⟩) (λ_ _ _ _ n=>n) (λb o d e=>⟨o,k b o d e⟩) (λ_ _ e=>e) (λ_ _ _ e=>e) (λb ps e=>⟨#[],by rw [e]; simp⟩) (λm a=>?_) (λb u e=>?_) I.bare;·obtain ⟨f0,f1,f2,i,f4,g⟩:=h b f;exact ⟨i,f1,f4,g⟩
 ·obtain ⟨o,es,ep,l,r⟩:=a;exact ⟨o,es,ep,k _ o (λz=>(h _ z).2.1 rfl) l,r⟩
 ·refine (I.hok b u e).stay (λc v d q=>k c v ?_ q) (λ_ q=>q) λ_ _ q=>q;rcases d with z | z
  ·rw [z];exact t b u e
  ·exact t c _ z
theorem qkw {d':Drawn} (I:Inv X pins σ H s) (k:∀ b u,s.heap.get? b=iF u->h'.get? b=iF u):Inv X pins σ H { s with heap:=h',drawn:=d',toks:=t' }:=by refine I.step (g':=s.gens) (d':=d') (ch:=[]) (λ_ z=>nomatch z) (λb o _ _ _ e _=>k b o e) (λb o _ _ _ e _=>⟨o.slots,k b o e⟩) (λ_ _ _ _ n=>n) (λb o _ e=>⟨o,k b o e⟩) (λ_ _ e=>e) (λ_ _ _ e=>e) (λb ps e=>⟨#[],by rw [e]; simp⟩) (λm c=>?_) (I.hok.kept k) I.bare;obtain ⟨o,es,ep,l,r⟩:=c;exact ⟨o,es,ep,k _ o l,r⟩
theorem yk {xs:List V} (I:Inv X pins σ H s):∀ {k:SK},SqK X.K H a k xs->∃ its:List iI,Vals xs its/\SeqK s.heap a k its.toArray
 | .l,h=>let ⟨its,r,p,_⟩:=I.list h; ⟨its,r,p.isList⟩
 | .t,h=>let ⟨its,r,p,_⟩:=I.tuple h; ⟨its,r,p⟩
end
noncomputable def Itz (K:Frag) (m k:Addr) (k1 k2:SK) (xs ys:List V):It:=
 ⟨λi H=>i < xs.length/\i < ys.length/\SqK K H m k1 xs/\SqK K H k k2 ys,λi H v H'=>∃ x y p,xs[i]?=iF x/\ys[i]?=iF y/\H p=iH/\v=.ref p/\H'=upd H p (.tup [x,y]),λi H=>(xs.length<=i\/ys.length<=i)/\SqK K H m k1 xs/\SqK K H k k2 ys⟩
variable {us:List iI}
theorem yl {xs:List V} (r:Vals xs us) (h:us[i]?=iF u):∃ x,xs[i]?=iF x/\RelV x u:=by
 have hi:i < us.length:=(aC.mp h).1;have hx:i < xs.length:=by rw [r.length]; exact hi
 obtain ⟨U,h1,h2⟩:=r.get (aA hx);rw [h] at h1;cases h1;exact ⟨xs[i],aA hx,h2⟩
theorem QE (b m k:Nat) (h1:m < b) (h2:k < b):Apart2 (b+4) (b+2) (b+3) b (b+1) [b,m] [b+1,k]:=by have ne:∀ x y:Nat,x≠y->x≠y:=λ_ _ h=>h;have n:∀ x a c:Nat,x≠a->x≠c->x∉[a,c]:=λx a c n1 n2 h=>(ae.mp h).elim n1 λh=>n2 (aE.mp h);exact ⟨ne _ _ (by omega),ne _ _ (by omega),ne _ _ (by omega),ne _ _ (by omega),ne _ _ (by omega),ne _ _ (by omega),ne _ _ (by omega),ne _ _ (by omega),ne _ _ (by omega),ne _ _ (by omega),n _ _ _ (by omega) (by omega),n _ _ _ (by omega) (by omega),n _ _ _ (by omega) (by omega),n _ _ _ (by omega) (by omega),n _ _ _ (by omega) (by omega),n _ _ _ (by omega) (by omega)⟩
theorem qcw {P:iN} {w:iO} {K:Frag} {J:List Expr} {x1} {pos:Pos} {k1 k2:SK} (b r q:Nat) (xs ys:List V) (h1:r < b) (h2:q < b):Turn P w K (.Tuple J x1 pos) (Itz K r q k1 k2 xs ys) [b+4,b+2,b+3,b,b+1] (b+4)
   (λi h=>lr h (b+4) (b+2) (b+3) .none/\iX h (b+2) (.ref b) (.ref (b+1))/\(∃ a c,iX h (b+3) a c)/\ItK h b r k1 i/\ItK h (b+1) q k2 i/\i<=xs.length/\i<=ys.length) where
 mem:=by simp
 obj:=λi h st c f=>by
  obtain ⟨hz,hi,⟨a,c',T⟩,p,t,_⟩:=st;simp only [ae,aU,or_false] at f;rcases f with rfl | rfl | rfl | rfl | rfl;·exact ⟨_,hz,λv z=>by cases z⟩
  ·exact ⟨_,hi,λv z=>by cases z⟩
  ·exact ⟨_,T,λv z=>by cases z⟩
  ·obtain ⟨o,e,_,d⟩:=p.obj;exact ⟨o,e,λv z=>by rw [d] at z; cases z⟩
  ·obtain ⟨o,e,_,d⟩:=t.obj;exact ⟨o,e,λv z=>by rw [d] at z; cases z⟩
 keep:=λi h h' st k=>by
  obtain ⟨hz,hi,⟨a,c',T⟩,p,t,n⟩:=st;refine ⟨k _ (by simp) _ hz,k _ (by simp) _ hi,⟨a,c',k _ (by simp) _ T⟩,?_,?_,n⟩;·obtain ⟨o,e,c,d⟩:=p.obj;exact .of ⟨o,k _ (by simp) _ e,c,d⟩
  ·obtain ⟨o,e,c,d⟩:=t.obj;exact .of ⟨o,k _ (by simp) _ e,c,d⟩
 item:=by
  intro X U hw W f i pins s σ H E I G st hg;subst U hw W;obtain ⟨hz,Y,⟨oa,ob,O⟩,p,t,n1,n2⟩:=st;obtain ⟨S,F,Q,M⟩:=hg;obtain ⟨l,r1,p1⟩:=yk I Q;obtain ⟨N,r2,p2⟩:=yk I M;have e1:l.toArray.size=xs.length:=by rw [aj,r1.length]
  have Z:N.toArray.size=ys.length:=by rw [aj,r2.length]
  have D:=QE b r q h1 h2;have C:X.A.in1.handled=none:=I.ok.hd f;refine QD (A:=X.A) D (JO (prog:=X.prog) (w:=X.w) (A:=X.A.in1) C k1 b r (ay h1) l.toArray) (JO (prog:=X.prog) (w:=X.w) (A:=X.A.in1) C k2 (b+1) q (ay (cw h2)) N.toArray) hz Y O ⟨p,p1⟩ ⟨t,p2⟩ (by rw [e1]; exact S) (by rw [Z]; exact F) λu v h' tk hu hv z' L s1 s2 tp kp=>?_;refine ⟨_,rfl,wpAny_letOwnedTupleGo_zip z' λhq z2 j=>?_⟩;obtain ⟨x,hx,rx⟩:=yl r1 (by simpa using hu);obtain ⟨y,hy,ry⟩:=yl r2 (by simpa using hv);have hT:H s.heap.objs.size=none:=I.hok.fresh (aw _);have R:b+4 < s.heap.objs.size:=ap hz;have fT:∀ c∈[b+4,b+2,b+3,b,b+1],c≠s.heap.objs.size:=λc f=>by simp only [ae,aU,or_false] at f;have B:b+4 < s.heap.objs.size:=R;generalize s.heap.objs.size=m at B;intro z;omega
  have I1:Inv X pins σ (upd H s.heap.objs.size (.tup [x,y])) { s with heap:=s.heap.push { cls:=.type "tuple",data:=.seq #[u,v] } }:=
   I.laid (t':=s.toks) (λ_ _ e=>aa _ e) (aw _) ⟨⟨by simp only [au,aY]; rw [iP]; decide,_,ah _ rfl,rfl⟩,[u,v],.cons rx (.cons ry .nil),⟨_,ah _ rfl,rfl,_,rfl⟩⟩
  have I2:Inv X pins σ (upd H s.heap.objs.size (.tup [x,y])) { s with heap:=hq,toks:=tk }:=by
   refine Kw (s:={ s with heap:=s.heap.push { cls:=.type "tuple",data:=.seq #[u,v] } }) (ch:=[b+4,b+2,b+3,b,b+1]) I1 (λc o g e=>?_) λc f=>⟨by rw [qv (fT c f)]; exact (G c f).1,(G c f).2⟩
   simp only [ae,aU,or_false,not_or] at g;rw [j.2 c g.1];by_cases ec:c=s.heap.objs.size;·subst ec;have e3:(s.heap.push ({ cls:=.type "tuple",data:=.seq #[u,v] }:Obj)).get? s.heap.objs.size=iF { cls:=.type "tuple",data:=.seq #[u,v] }:=ah _ rfl;rw [show (s.heap.push ({ cls:=.type "tuple",data:=.seq #[u,v] }:Obj)).get? s.heap.objs.size=iF o from e] at e3;rw [e3];exact tp
   ·have e4:s.heap.get? c=iF o:=by have:=e;rwa [show (s.heap.push ({ cls:=.type "tuple",data:=.seq #[u,v] }:Obj)).get? c=s.heap.get? c from eJ _ _ _ ec] at this
    exact kp c o g.1 g.2.2.1 g.2.2.2.1 g.2.2.2.2 e4
  refine ⟨.ref s.heap.objs.size,_,I2,rfl,⟨x,y,_,hx,hy,hT,rfl,rfl⟩,⟨z2,?_,⟨u,v,?_⟩,?_,?_,S,F⟩,λc f=>by rw [qv (fT c f)]; exact (G c f).1⟩;·exact (j.2 _ D.TIz).trans (kp _ _ D.TIz D.TITO D.TIi1 D.TIi2 Y)
  ·exact (j.2 _ D.TOz).trans L
  ·obtain ⟨o,e,c,d⟩:=s1.1.obj;exact .of ⟨o,(j.2 _ D.i1z).trans e,c,d⟩
  ·obtain ⟨o,e,c,d⟩:=s2.1.obj;exact .of ⟨o,(j.2 _ D.i2z).trans e,c,d⟩
 done:=by
  intro X U hw W f i pins s σ H E I G st hg;subst U hw W;obtain ⟨hz,Y,⟨oa,ob,O⟩,p,t,n1,n2⟩:=st;obtain ⟨S,Q,M⟩:=hg;obtain ⟨l,r1,p1⟩:=yk I Q;obtain ⟨N,r2,p2⟩:=yk I M;have e1:l.toArray.size=xs.length:=by rw [aj,r1.length]
  have Z:N.toArray.size=ys.length:=by rw [aj,r2.length]
  have D:=QE b r q h1 h2;have C:X.A.in1.handled=none:=I.ok.hd f;refine JN (A:=X.A) D (JO (prog:=X.prog) (w:=X.w) (A:=X.A.in1) C k1 b r (ay h1) l.toArray) (JO (prog:=X.prog) (w:=X.w) (A:=X.A.in1) C k2 (b+1) q (ay (cw h2)) N.toArray) hz Y O ⟨p,p1⟩ ⟨t,p2⟩ (by rw [e1,Z]; omega) λh' tk kp=>⟨rfl,Kw (ch:=[b+4,b+2,b+3,b,b+1]) I (λc o g e=>?_) G⟩
  simp only [ae,aU,or_false,not_or] at g;exact kp c o g.1 g.2.2.1 g.2.2.2.1 g.2.2.2.2 e
 self:=λ_ _ _ _ _ st h=>wpAny_pyIter_zip st.1 h
theorem Wx:bootBuiltins "zip"=iF (.type "zip"):=by decide +kernel
variable {own:List Nat} {ma:Mo} {pos:Pos}
section
variable {a c:Expr} {fa fb:jg} {mb:Mo}
theorem qg4 {ta:TA} {p tpos:Pos} {J:List Expr} {x1} (hg:Gl X "zip") (o:X.mg "zip"=iH) (r:PA X [a,c] ta) (hs:starEach [a,c] X.env=[(iJ,eval a X.env),(iJ,eval c X.env)]) (d:starEach [c] X.env=[(iJ,eval c X.env)]):PI X (.Tuple J x1 tpos) (.Call (.Name "zip" p) [a,c] [] pos) (λσ H R=>ta σ H λvs H1=>∃ m k k1 k2 xs ys,vs=[.ref m,.ref k]/\SqK X.K H1 m k1 xs/\SqK X.K H1 k k2 ys/\R (Itz X.K m k k1 k2 xs ys) H1):=by
 refine ⟨?_⟩;intro pins s σ H R I h;refine Call_ (xQ I hg o Wx (bB (thn (r pos pins s σ H _ I h) λus s1 ⟨vs,H1,f,r1,l⟩=>?_) (by rw [hs,d]) (by rw [d]; rfl)));obtain ⟨m,k,k1,k2,xs,ys,rfl,i,w,q⟩:=l;obtain ⟨z,y,rfl,e1,u⟩:=Za r1;cases e1;cases u;obtain ⟨n,x,p1⟩:=yk f i;obtain ⟨N,v,p2⟩:=yk f w;refine qan p1 p2 λh' hz Y O j t kp=>?_;refine wpAny_pyIter_zip hz ?_;refine ⟨s1.heap.objs.size+4,_,_,Itz X.K m k k1 k2 xs ys,H1,rfl,f.kept (t':=s1.toks) kp,qcw s1.heap.objs.size m k xs ys p1.lt p2.lt,⟨hz,Y,⟨_,_,O⟩,j,t,be _,be _⟩,λb g=>?_,q⟩;have e:s1.heap.objs.size<=b:=by
  simp only [ae,aU,or_false] at g;rcases g with rfl | rfl | rfl | rfl | rfl;·exact cj _ _
  ·exact cj _ _
  ·exact cj _ _
  ·exact aw _
  ·exact cj _ _
 exact f.fpOk e (f.hok.fresh e)
theorem PoI.bindA {as:List AK} {o:Out (List D×Sl)} {k:List D×Sl->Out (List D×Sl)} {R:It->Hp->Prop} {Q:List V->Hp->Prop} (hp:PoI C own σ F H (o.bind k) R)
  (h:∀ vs F1 H1 ds ρ1,Rep C.K own F1 H1 σ ρ1->Chg (OA own σ) F H F1 H1->ArgV C.K H F1 H1 σ as vs ds->PoI C own σ F H (k (ds,ρ1)) R->Q vs H1):PoA C own as σ F H o Q:=by
 cases o with
 | ok p=>obtain ⟨ds,ρ1⟩:=p;exact λvs F1 H1 a c v=>h vs F1 H1 ds ρ1 a c v hp
 | exc e=>exact hp
 | bad=>exact hp.elim
noncomputable def Ul (xs ys:List D):List D:=dn (λx y=>.tup [x,y]) xs ys
noncomputable def qg5 (fr:wV):wV:=λρ=>(fr ρ).bind λp=>match p.1 with
 | [x,y]=>(uU x).bind λxs=>(uU y).bind λys=>.ok (Ul xs ys,p.2)
 | _=>.bad
theorem qdq (h:Is K F v d) (e:uU d=.ok ds):∃ a k xs,v=.ref a/\(∀ H,Same F H->SqK K H a k xs)/\IsL K F xs ds:=by
 cases h with
 | @lst a xs ds' p t=>cases e;exact ⟨_,.l,_,rfl,λH s=>s.seq p,t⟩
 | @tup a xs ds' p t=>cases e;exact ⟨_,.t,_,rfl,λH s=>jm s p,t⟩
 | _=>cases e
theorem qg6 {m k:Addr} {xs ys:List V} {es:List D} (p1:∀ H,Same F H->SqK K H m k1 xs) (p2:∀ H,Same F H->SqK K H k k2 ys) (f:IsL K F xs ds) (t:IsL K F ys es):ItIs K F (Itz K m k k1 k2 xs ys) (Ul ds es) where
 go:=λi H hi s=>by unfold Ul at hi;rw [List.length_zipWith] at hi;exact ⟨by rw [f.length]; omega,by rw [t.length]; omega,p1 H s,p2 H s⟩
 yld:=λi Fi H v H' d e s1 s2 y=>by
  obtain ⟨x,y,p,hx,B,n,rfl,rfl⟩:=y;obtain ⟨d1,e1,i1⟩:=f.get hx;obtain ⟨d2,a,i2⟩:=t.get B;have o:d=.tup [d1,d2]:=by unfold Ul at e;rw [List.getElem?_zipWith,e1,a] at e;exact (aN.inj e).symm
  subst o;obtain ⟨g1,Y⟩:=yg (u:=.tup [x,y]) s2 n;exact ⟨_,Y,g1,.tup (.of qt) (.cons ((i1.mono s1).mono Y.grow) (.cons ((i2.mono s1).mono Y.grow) .nil))⟩
 stop:=λi H hi s=>by unfold Ul at hi;rw [List.length_zipWith] at hi;exact ⟨by rw [f.length,t.length]; omega,p1 H s,p2 H s⟩
theorem qeU {p tpos:Pos} {J:List Expr} {x1} (m:C.K=X.K) (hg:Gl X "zip") (j:X.mg "zip"=iH) (l:PE X a (tE C own ma fa)) (k:PE X c (tE C own mb fb)) (h1:ma≠.any:=by decide) (h2:mb≠.any:=by decide) (hs:starEach [a,c] X.env=[(iJ,eval a X.env),(iJ,eval c X.env)]:=by exact YD rfl rfl) (b:starEach [c] X.env=[(iJ,eval c X.env)]:=by exact qI rfl):PI X (.Tuple J x1 tpos) (.Call (.Name "zip" p) [a,c] [] pos) (tIt C own (qg5 (qc fa (qc fb qA)))):=by
 refine qb3 (qg4 hg j (qb l (qb k qf h2 (by rw [b]; rfl)) h1 (by rw [hs,b])) hs b) λσ H R ⟨F,ρ,g,h⟩=>⟨F,ρ,g,PoI.bindA h λvs F1 H1 ds ρ1 r n o h1=>?_⟩
 have i:=ArgV.isL (by decide) o;cases i with
 | nil=>exact h1.elim
 | @cons v d vs ds i1 i=>
  cases i with
  | nil=>exact h1.elim
  | @cons v2 d2 vs ds i2 i=>
   cases i with
   | cons=>exact h1.elim
   | nil=>
    have h1:PoI C own σ F H ((uU d).bind λxs=>(uU d2).bind λys=>.ok (Ul xs ys,ρ1)) R:=h1;cases e1:uU d with
    | bad=>rw [e1] at h1; exact h1.elim
    | exc c=>cases d <;> cases e1
    | ok xs=>
     cases e:uU d2 with
     | bad=>rw [e1,e] at h1; exact h1.elim
     | exc c=>cases d2 <;> cases e
     | ok ys=>rw [e1,e] at h1;obtain ⟨s,k1,ws,rfl,p1,f⟩:=qdq i1 e1;obtain ⟨q,k2,w,rfl,p2,t⟩:=qdq i2 e;refine ⟨s,q,k1,k2,ws,w,rfl,m ▸ p1 H1 r.sub,m ▸ p2 H1 r.sub,?_⟩;rw [<-m];exact h1 _ F1 H1 r n (qg6 p1 p2 f t)
end
def leS (x y:Str):Prop:=¬y.cps.toList < x.cps.toList
noncomputable def qfS (x:Str):List Str->List Str
 | []=>[x]
 | y::l=>if vM y x=iK then y::qfS x l else x::y::l
noncomputable def xl:List Str->List Str
 | []=>[]
 | x::l=>qfS x (xl l)
variable {y:Str}
theorem QF {z:Str} (a:leS x y) (b:leS y z):leS x z:=List.le_trans (α:=Nat) a b
theorem qao (x y:Str):leS x y\/leS y x:=List.le_total (α:=Nat) x.cps.toList y.cps.toList
theorem Ky (a:leS x y) (b:leS y x):x=y:=by have e:=List.le_antisymm (α:=Nat) (as:=x.cps.toList) (bs:=y.cps.toList) a b;obtain ⟨⟨l⟩⟩:=x;obtain ⟨⟨m⟩⟩:=y;simp at e;rw [e]
theorem strLt_false:vM y x=iJ↔leS x y:=by unfold vM leS;exact decide_eq_false_iff_not
theorem QG (x:Str):∀ l,(qfS x l).Perm (x::l)
 | []=>cJ _
 | y::l=>by
  unfold qfS;split;·exact ((QG x l).cons y).trans (List.Perm.swap _ _ _)
  ·exact cJ _
theorem jj:∀ l,(xl l).Perm l
 | []=>cJ _
 | x::l=>(QG x _).trans ((jj l).cons x)
theorem QH (x:Str):∀ l,l.Pairwise leS->(qfS x l).Pairwise leS
 | [],_=>db _ _
 | y::l,h=>by
  have h0:=bh.mp h;unfold qfS;split
  ·rename_i t;have b:leS y x:=by
    rcases qao y x with q | q;·exact q
    ·rw [<-strLt_false] at q;rw [q] at t;cases t
   refine bh.mpr ⟨λz hz=>?_,QH x l h0.2⟩;rcases ae.mp ((QG x l).mem_iff.mp hz) with rfl | hz;·exact b
   ·exact h0.1 z hz
  ·rename_i t;have a:leS x y:=strLt_false.mp (by cases e:vM y x with | true=>exact absurd e t | false=>rfl);refine bh.mpr ⟨λz hz=>?_,h⟩;rcases ae.mp hz with rfl | hz;·exact a
   ·exact QF a (h0.1 z hz)
theorem kT:∀ l,(xl l).Pairwise leS
 | []=>dF
 | x::l=>QH x _ (kT l)
theorem QI:∀ {l m:List Str},l.Perm m->l.Pairwise leS->m.Pairwise leS->l=m
 | [],m,p,_,_=>p.nil_eq
 | x::l,[],p,_,_=>absurd p.length_eq (by simp)
 | x::l,y::m,p,hl,hm=>by
  have a:=bh.mp hl;have b:=bh.mp hm;have c:x=y:=by
   have h1:y∈x::l:=p.mem_iff.mpr (aq ..);have h2:x∈y::m:=p.mem_iff.mp (aq ..);rcases ae.mp h1 with e | e;·exact e.symm
   ·rcases ae.mp h2 with d | d;·exact d
    ·exact Ky (a.1 y e) (b.1 x d)
  subst c;rw [QI p.cons_inv a.2 b.2]
theorem JP:∀ (x:Str) (l:List Str),risingS x l=iK->(x::l).Pairwise leS
 | x,[],_=>db _ _
 | x,y::l,h=>by
  have h:(!ltCps y.cps.toList x.cps.toList&&risingS y l)=true:=h;rw [aM] at h;have j:=JP y l h.2;have a:leS x y:=by have h1:=h.1;rw [ltCps_eq] at h1;unfold leS;simpa using h1
  refine bh.mpr ⟨λz hz=>?_,j⟩;rcases ae.mp hz with rfl | hz;·exact a
  ·exact QF a ((bh.mp j).1 z hz)
theorem UM:∀ (l:List Str),sortedS l=iK->l.Pairwise leS
 | [],_=>dF
 | x::l,h=>JP x l h
variable {ss:List Str}
theorem qap (p:ss.Perm ks) (h:sortedS ss=iK):ss=xl ks:=QI (p.trans (jj ks).symm) (UM ss h) (kT ks)
noncomputable def QJ:List D->Option (List Str)
 | []=>iF []
 | .str x::l=>(QJ l).map (x::·)
 | _::_=>iH
noncomputable def zj:D->Option (List Str)
 | .lst ds=>QJ ds
 | .tup ds=>QJ ds
 | _=>iH
noncomputable def qfT [DecidableEq κ] (T:KP κ) (P:iN) (w:iO) (p:Addr) (ks:List κ):HO:=.ext λh=>SetK T P w h p ks
theorem qeV [DecidableEq κ] {T:KP κ} {ks:List κ} (x:SetK T P w h p ks):ObjOk P w H h p (qfT T P w p ks):=
 ⟨x,let ⟨_,_,_,e,_⟩:=x; ⟨_,e⟩,λ_ _ a k=>a.at k⟩
structure KD {κ:Type} [DecidableEq κ] (T:KP κ) where
 sqd:D->Option (List κ)
 ok:κ->Prop
 get:∀ {K:Frag} {F:Hp} {dx:D} {ss:List κ},sqd dx=iF ss->∃ ds,uU dx=.ok ds/\∀ {vs:List V} {us:List iI},IsL K F vs ds->Vals vs us->us.length=ss.length/\(∀ (i:Nat) (v:iI),us[i]?=iF v->∃ x,ss[i]?=iF x/\∀ p w,(T.kd p w).is x v=iK)/\∀ x∈ss,ok x
theorem qeW (a:IsL K F vs ds) (l:Vals vs us) (e:QJ ds=iF ss):StrsAre us ss/\∀ x∈ss,x.length<=sizeLine:=by
 induction ds generalizing vs us ss with
 | nil=>cases a;cases l;cases e;exact ⟨.nil,λx h=>nomatch h⟩
 | cons d ds j=>
  cases a with
  | cons i a=>
   cases l with
   | cons r l=>
    cases d with
    | str x=>
     obtain ⟨sl,q,rfl⟩:=aP.mp (show (QJ ds).map (x::·)=iF ss from e);cases i with
     | str hz=>obtain ⟨t,rfl⟩:=r;obtain ⟨i1,i2⟩:=j a l q;exact ⟨.cons x t i1,λy B=>(ae.mp B).elim (λz=>z ▸ hz) (i2 y)⟩
    | _=>cases e
section
variable {e:Expr} {fa:jg}
theorem Wy:∀ (l ks:List Str) {x:Str},x∈l.foldl gk ks->x∈ks\/x∈l
 | [],ks,x,h=>.inl h
 | y::l,ks,x,h=>by
  rcases Wy l (gk ks y) h with q | q
  ·unfold gk at q;split at q;·exact .inl q
   ·rcases aH.mp q with q | q;·exact .inl q
    ·exact .inr (by rw [aE.mp q]; exact aq ..)
  ·exact .inr (af _ q)
theorem Xj (e:QJ ds=iF ss) (l:IsL K F vs ds) (d:Vals vs us):us.length=ss.length/\(∀ (i:Nat) (v:iI),us[i]?=iF v->∃ x,ss[i]?=iF x/\∀ p w,(KpS.kd p w).is x v=iK)/\∀ x∈ss,x.length<=sizeLine:=by obtain ⟨st,B⟩:=qeW l d e;refine ⟨st.length,λi v h=>?_,B⟩;obtain ⟨y,t,e1,a⟩:=st.item i v h;refine ⟨y,a,λp w=>?_⟩;rw [e1];show fS y (.str y t)=iK;simp [fS]
noncomputable def KdS:KD KpS where
 sqd:=zj
 ok:=λy=>y.length<=sizeLine
 get:=λ{K F dx ss} e=>by
  cases dx with
  | lst ds=>exact ⟨ds,rfl,Xj e⟩
  | tup ds=>exact ⟨ds,rfl,Xj e⟩
  | _=>cases e
theorem qdr [DecidableEq κ] {T:KP κ} (U:KD T) (E:C.K=X.K) (z:X.calm=iK):yb X (.type "set") (λxs H Q=>∃ x F dx ss,xs=[x]/\Same F H/\TopIs C.K F H x dx/\U.sqd dx=iF ss/\ss.length < 4000/\((∀ y∈ss,U.ok y)->∀ p,H p=iH->Q (.ref p) (upd H p (qfT T X.prog X.w p (ss.foldl zH []))))):=by
 intro pins s σ H xs us Q I r h;obtain ⟨x,F,dx,ss,rfl,f,t,es,hl,q⟩:=h;obtain ⟨u,rfl,A⟩:=xR r;obtain ⟨ds,e,hg⟩:=U.get (K:=C.K) (F:=F) es;obtain ⟨a,sk,vs,rfl,hq,j⟩:=Xc f t e;cases A;rw [E] at hq;obtain ⟨its,o,n,g,l,c,m,hd,hz⟩:=qdo I hq;obtain ⟨d,hi,B⟩:=hg j g;refine qah (T:=T) (λA1 L R hA k=>?_) λh' tk S kp=>⟨.ref s.heap.objs.size,_,I.laid (t':=tk) kp (aw _) (qeV S),rfl,q B _ (I.hok.fresh (aw _))⟩
 exact qkv (sk:=sk) (items:=its.toArray) (hA.trans (I.ok.hd z)) (qag (ah _ rfl)) (.of (aa _ l) hd c) (by simp [d]) (λi v e=>(hi i v (by simpa using e)).imp λx h=>⟨h.1,h.2 _ _⟩) (by rw [aj,d]; unfold scanBound; omega) (ay (ap l)) λh' tk S kp=>k h' tk S λb o D=>kp b o (ay (ap D)) (aa _ D)
theorem Wz:∀ {us:List iI} {ss:List Str},StrsAre us ss->Vals (ss.map V.str) us
 | _,_,.nil=>.nil
 | _,_,.cons y t h=>.cons ⟨t,rfl⟩ (Wz h)
theorem qaq (c:X.calm=iK):yb X (.builtin "sorted") (λxs H Q=>∃ a ks,xs=[.ref a]/\H a=iF (qfT KpS X.prog X.w a ks)/\ks.length < 64/\∀ p,H p=iH->Q (.ref p) (upd H p (.lst ((xl ks).map V.str)))):=by
 intro pins s σ H xs us Q I r h;obtain ⟨a,ks,rfl,g,j,q⟩:=h;obtain ⟨u,rfl,A⟩:=xR r;cases A;have S:SetK KpS X.prog X.w s.heap a ks:=(I.hok a _ g).1;refine ZC (I.ok.hd c) S j λh1 h' b tk vs e ss k1 k2 hp st pm so=>?_;rw [qap pm so] at st;have d:Inv X pins σ H { s with heap:=h1,drawn:=b,toks:=tk }:=qkw I k1;have hz:(xl ks).length<=sizeLine:=by rw [(jj ks).length_eq,iP];omega
 refine ⟨.ref h1.objs.size,_,d.laid (t':=tk) (o:=.lst ((xl ks).map V.str)) k2 (aw _) ⟨by rw [ai]; exact hz,vs.toList,e,Wz st,by simpa [seqObj] using hp⟩,rfl,q _ (d.hok.fresh (aw _))⟩
theorem qeX [DecidableEq κ] {T:KP κ}:yb X (.builtin "len") (λxs H Q=>∃ a ks,xs=[.ref a]/\H a=iF (qfT T X.prog X.w a ks)/\Q (.int ks.length) H):=by intro pins s σ H xs us Q I r h;obtain ⟨a,ks,rfl,g,q⟩:=h;obtain ⟨u,rfl,A⟩:=xR r;cases A;obtain ⟨es,ep,t,l,d⟩:SetK T X.prog X.w s.heap a ks:=(I.hok a _ g).1;have b:=d.bd;refine call_len_set l ⟨rfl,rfl,rfl⟩ rfl d.fits (by unfold scanBound at b; omega) ?_;exact ⟨.int ks.length,H,I.tok _,⟨_,by rw [d.size]⟩,q⟩
theorem Kz {m:Mo} {f:jg} {Q R:VK} (h:tE C own m f σ H Q) (i:∀ v H1,Q v H1->R v H1):tE C own m f σ H R:=by
 obtain ⟨F,ρ,r,po⟩:=h;refine ⟨F,ρ,r,?_⟩;cases q:f ρ with
 | ok p=>rw [q] at po;obtain ⟨d,ρ1⟩:=p;exact λv F1 H1 a b c=>i _ _ (po v F1 H1 a b c)
 | exc c ρ1=>rw [q] at po;exact po
 | bad=>rw [q] at po;exact po.elim
noncomputable def yL (d:D):Out D:=match zj d with
 | some ss=>if ss.length < 64 then .ok (.lst ((xl (ss.foldl gk [])).map D.str)) else .bad
 | none=>.bad
noncomputable def QK (d:D):Out D:=match zj d with
 | some ss=>if ss.length < 4000 then .ok (.int (ss.foldl gk []).length) else .bad
 | none=>.bad
theorem KA:∀ {ss:List Str},(∀ x∈ss,x.length<=sizeLine)->IsL K F (ss.map V.str) (ss.map D.str)
 | [],_=>.nil
 | x::l,h=>.cons (.str (h x (aq ..))) (KA λy B=>h y (af _ B))
theorem JQ {p p2 pos2:Pos} (o:C.K=X.K) (j:X.calm=iK) (hg:Gl X "sorted") (m:X.mg "sorted"=iH) (v:bootBuiltins "sorted"=iF (.builtin "sorted")) (g:Gl X "set") (d:X.mg "set"=iH) (c:bootBuiltins "set"=iF (.type "set")) (n:PE X e (tE C own ma fa))
  (i:starEach [e] X.env=[(iJ,eval e X.env)]:=by exact qI rfl) (b:starEach [.Call (.Name "set" p2) [e] [] pos2] X.env=[(iJ,eval (.Call (.Name "set" p2) [e] [] pos2) X.env)]:=by exact qI rfl) :
  PE X (.Call (.Name "sorted" p) [.Call (.Name "set" p2) [e] [] pos2] [] pos) (tE C own .fr (d1 yL fa)):=by
 refine jB (wY (qaq j) hg m v (qN (yc (qdr KdS o j) g d c (qN n jG i) (by decide) (by decide) (by rw [i]; rfl) rfl) jG b) (by decide) (by decide) (by rw [b]; rfl) rfl) λσ H Q h=>?_;refine Kz (Qq (ma:=ma) h) λx H1 ⟨A,F,dx,ex,s,k,po⟩=>?_;cases ex;unfold yL at po;cases es:zj dx with
 | none=>rw [es] at po;exact po.elim
 | some ss=>
  rw [es] at po;by_cases hl:ss.length < 64
  ·have po:PoV C .fr F H1 (if ss.length < 64 then .ok (.lst ((xl (ss.foldl gk [])).map D.str)) else .bad) Q:=po;rw [if_pos hl,<-Xh] at po;refine ⟨x,F,dx,ss,rfl,s,k,es,by omega,λB q hq=>⟨q,_,rfl,qt,?_,λl f=>?_⟩⟩;·have:=zi ss [];rw [aY] at this;omega
   ·obtain ⟨s1,r,f1⟩:=vB (u:=qfT KpS X.prog X.w q (ss.foldl zH [])) s hq;obtain ⟨s2,c2,f2⟩:=vB (u:=.lst ((xl (ss.foldl zH [])).map V.str)) s1 f;have t:H1 l=none:=by
     by_cases z:l=q;·rw [z] at f;rw [qt] at f;cases f
     ·rwa [qv z] at f
    refine po _ _ _ s2 (r.trans' c2) ⟨l,rfl,t,f2,_,qt,KA λy a=>B y ?_⟩;rw [Xh] at a;rcases Wy ss [] ((jj _).mem_iff.mp a) with z | z;·cases z
    ·exact z
  ·have po:PoV C .fr F H1 (if ss.length < 64 then .ok (.lst ((xl (ss.foldl gk [])).map D.str)) else .bad) Q:=po;rw [if_neg hl] at po;exact po.elim
noncomputable def qib [DecidableEq κ] {T:KP κ} (U:KD T) (add:List κ->κ->List κ) (d:D):Out D:=match U.sqd d with
 | some ss=>if ss.length < 4000 then .ok (.int (ss.foldl add []).length) else .bad
 | none=>.bad
theorem ZD [DecidableEq κ] {T:KP κ} (U:KD T) {p p2 pos2:Pos} (j:C.K=X.K) (a:X.calm=iK) (hg:Gl X "len") (m:X.mg "len"=iH) (v:bootBuiltins "len"=iF (.builtin "len")) (g:Gl X "set") (d:X.mg "set"=iH) (c:bootBuiltins "set"=iF (.type "set")) (f:PE X e (tE C own ma fa))
  (i:starEach [e] X.env=[(iJ,eval e X.env)]:=by exact qI rfl) (b:starEach [.Call (.Name "set" p2) [e] [] pos2] X.env=[(iJ,eval (.Call (.Name "set" p2) [e] [] pos2) X.env)]:=by exact qI rfl) :
  PE X (.Call (.Name "len" p) [.Call (.Name "set" p2) [e] [] pos2] [] pos) (tE C own .sh (d1 (qib U zH) fa)):=by
 refine jB (wY (qeX (T:=T)) hg m v (qN (yc (qdr U j a) g d c (qN f jG i) (by decide) (by decide) (by rw [i]; rfl) rfl) jG b) (by decide) (by decide) (by rw [b]; rfl) rfl) λσ H Q h=>?_;refine Kz (Qq (ma:=ma) h) λx H1 ⟨n,F,dx,ex,y,t,po⟩=>?_;cases ex;unfold qib at po;cases es:U.sqd dx with
 | none=>rw [es] at po;exact po.elim
 | some ss=>
  rw [es] at po;have po:PoV C .sh F H1 (if ss.length < 4000 then .ok (.int (ss.foldl zH []).length) else .bad) Q:=po;by_cases hl:ss.length < 4000;·rw [if_pos hl] at po;refine ⟨x,F,dx,ss,rfl,y,t,es,hl,λB q hq=>⟨q,_,rfl,qt,?_⟩⟩;obtain ⟨s1,k,f1⟩:=vB (u:=qfT T X.prog X.w q (ss.foldl zH [])) y hq;exact po _ _ _ s1 k (.int _)
  ·rw [if_neg hl] at po;exact po.elim
theorem qar {p p2 pos2:Pos} (j:C.K=X.K) (a:X.calm=iK) (hg:Gl X "len") (m:X.mg "len"=iH) (v:bootBuiltins "len"=iF (.builtin "len")) (g:Gl X "set") (h:X.mg "set"=iH) (c:bootBuiltins "set"=iF (.type "set")) (f:PE X e (tE C own ma fa))
  (i:starEach [e] X.env=[(iJ,eval e X.env)]:=by exact qI rfl) (b:starEach [.Call (.Name "set" p2) [e] [] pos2] X.env=[(iJ,eval (.Call (.Name "set" p2) [e] [] pos2) X.env)]:=by exact qI rfl) :
  PE X (.Call (.Name "len" p) [.Call (.Name "set" p2) [e] [] pos2] [] pos) (tE C own .sh (d1 QK fa)):=by
 rw [show QK=qib KdS zH by rw [Xh];funext d;have q:KdS.sqd d=zj d:=rfl;unfold QK qib;rw [q];cases zj d <;> rfl];exact ZD KdS j a hg m v g h c f i b
end
variable {β:Type}
@[simp] theorem uW {a:α} {k:α->Out β}:(Out.ok a).bind k=k a:=rfl
@[simp] theorem qjQ {c:Str} {o:Sl} {k:α->Out β}:(Out.exc c o:Out α).bind k=.exc c o:=rfl
@[simp] theorem qjR {k:α->Out β}:(Out.bad:Out α).bind k=.bad:=rfl
@[simp] theorem qi7 {a:α}:(Out.ok a).plain=.ok a:=rfl
@[simp] theorem qjS:(Out.bad:Out α).plain=.bad:=rfl
variable {c:Prop}
@[simp] theorem qjT [Decidable c] {a b:Out α} {k:α->Out β}:(if c then a else b).bind k=if c then a.bind k else b.bind k:=by split <;> rfl
@[simp] theorem qjU [Decidable c] {a b:Out α}:(if c then a else b).plain=if c then a.plain else b.plain:=by split <;> rfl
noncomputable def qcx (d:D) (A B:Out α):Out α:=match d with
 | .bl b=>if b=iK then A else B
 | _=>.bad
@[simp] theorem qic {A B:Out α}:qcx (.bl b) A B=if b=iK then A else B:=rfl
noncomputable def qjV (p:D×Sl):Out (Bool×Sl):=match p.1 with
 | .bl b=>.ok (b,p.2)
 | _=>.bad
variable {ρ:Sl}
@[simp] theorem qi8:qjV (.bl b,ρ)=.ok (b,ρ):=rfl
noncomputable def ZE (ms:List PM):Out (Fl×Sl)->Out (D×List D)
 | .ok (.nx,ρ)=>.ok (.non,qm ρ 0 ms)
 | .ok (.rt d,ρ)=>.ok (d,qm ρ 0 ms)
 | .ok _=>.bad
 | .exc c ρ=>.exc c ((qm ρ 0 ms).map iF)
 | .bad=>.bad
variable {ms:List PM}
theorem runD_ap {f:qR}:kj N ms f ds=ZE ms (f (qp N ds)):=by unfold kj ZE;rfl
@[simp] theorem qjW:ZE ms (.ok (.rt d,ρ))=.ok (d,qm ρ 0 ms):=rfl
@[simp] theorem qjX:ZE ms (.ok (.nx,ρ))=.ok (.non,qm ρ 0 ms):=rfl
@[simp] theorem qi9 {c:Str}:ZE ms (.exc c ρ)=.exc c ((qm ρ 0 ms).map iF):=rfl
@[simp] theorem qja [Decidable c] {a b:Out (Fl×Sl)}:ZE ms (if c then a else b)=if c then ZE ms a else ZE ms b:=by split <;> rfl
noncomputable def ZF (as:List AK) (ρ:Sl):Out (D×List D)->VU
 | .ok q=>.ok (q.1,qU as q.2 ρ)
 | .exc c o=>.exc c (qU as (o.map (·.getD .non)) ρ)
 | .bad=>.bad
variable {as:List AK}
@[simp] theorem qid {q:D×List D}:ZF as ρ (.ok q)=.ok (q.1,qU as q.2 ρ):=rfl
@[simp] theorem qg7 {c:Str} {o:Sl}:ZF as ρ (.exc c o)=.exc c (qU as (o.map (·.getD .non)) ρ):=rfl
@[simp] theorem qg8 [Decidable c] {a b:Out (D×List D)}:ZF as ρ (if c then a else b)=if c then ZF as ρ a else ZF as ρ b:=by split <;> rfl
variable {ρ:Sl}
@[simp] theorem qjb:qd i ρ=match ρ[i]? with | some (iF d)=>.ok (d,ρ) | _=>.bad:=rfl
@[simp] theorem qkx:dC d ρ=.ok (d,ρ):=rfl
variable {gg:D->Sl->Out Sl}
section
variable {g g':D->D->Out D} {g1:D->Out D} {fa fb fc f:jg} {ft fu:xU} {fr:wV} {fs ft1:qR} {fi:wV} {G:jJ}
@[simp] theorem gL:d1 g1 fa ρ=(fa ρ).bind λp=>(g1 p.1).plain.bind λd=>.ok (d,p.2):=rfl
@[simp] theorem qjc:d2 g fa fb ρ=(fa ρ).bind λp=>(fb p.2).bind λq=>(g p.1 q.1).plain.bind λd=>.ok (d,q.2):=rfl
@[simp] theorem qjd:uZ f ρ=(f ρ).bind λp=>(jO p.1).bind λb=>.ok (b,p.2):=rfl
@[simp] theorem qie:qH f ρ=(f ρ).bind qjV:=rfl
@[simp] theorem qje:xF ft ρ=(ft ρ).bind λp=>.ok (!p.1,p.2):=rfl
@[simp] theorem qif:qi4 f ρ=(qH f ρ).bind λp=>.ok (.bl (!p.1),p.2):=rfl
@[simp] theorem qjf:qer ft fu ρ=(ft ρ).bind λp=>if p.1=iK then fu p.2 else .ok (iJ,p.2):=rfl
@[simp] theorem qjY:dOr ft fu ρ=(ft ρ).bind λp=>if p.1=iK then .ok (iK,p.2) else fu p.2:=rfl
@[simp] theorem qig:Wa fa fb ρ=(fa ρ).bind λp=>qcx p.1 (fb p.2) (.ok (.bl iJ,p.2)):=by
 unfold Wa;cases fa ρ with
 | ok p=>
  obtain ⟨d,r⟩:=p;cases d <;> try rfl
  rename_i b;cases b <;> rfl
 | exc c o=>rfl
 | bad=>rfl
@[simp] theorem qjg:qh5 fa fb ρ=(fa ρ).bind λp=>qcx p.1 (.ok (.bl iK,p.2)) (fb p.2):=by
 unfold qh5;cases fa ρ with
 | ok p=>
  obtain ⟨d,r⟩:=p;cases d <;> try rfl
  rename_i b;cases b <;> rfl
 | exc c o=>rfl
 | bad=>rfl
@[simp] theorem qjZ:dIf ft fa fb ρ=(ft ρ).bind λp=>if p.1=iK then fa p.2 else fb p.2:=rfl
@[simp] theorem qg9:xV g g' fa fb fc ρ=(fa ρ).bind λp=>(fb p.2).bind λq=>(g p.1 q.1).plain.bind λz=>qcx z ((fc q.2).bind λr=>(g' q.1 r.1).plain.bind λd=>.ok (d,r.2)) (.ok (.bl iJ,q.2)):=by
 unfold xV;congr 1;funext p;congr 1;funext q;congr 1;funext z;cases z <;> try rfl
 rename_i b;cases b <;> rfl
@[simp] theorem qjh:qA ρ=.ok ([],ρ):=rfl
@[simp] theorem qih:qc fa fr ρ=(fa ρ).bind λp=>(fr p.2).bind λq=>.ok (p.1::q.1,q.2):=rfl
@[simp] theorem qii:jS fr ρ=(fr ρ).bind λq=>.ok (D.non::q.1,q.2):=rfl
@[simp] theorem qji:uT fr ρ=(fr ρ).bind λp=>if p.1.length<=sizeLine then .ok (.tup p.1,p.2) else .bad:=rfl
@[simp] theorem qjj:VF fr ρ=(fr ρ).bind λp=>if p.1.length<=sizeLine then .ok (.lst p.1,p.2) else .bad:=rfl
@[simp] theorem qij:qX ρ=.ok (.nx,ρ):=rfl
@[simp] theorem UN:qG fs ft1 ρ=(fs ρ).bind λp=>match p.1 with | .nx=>ft1 p.2 | _=>.ok p:=by
 show _=_;unfold qG;cases fs ρ with
 | ok p=>obtain ⟨l,r⟩:=p; cases l <;> rfl
 | exc c o=>rfl
 | bad=>rfl
@[simp] theorem qj0:sIf ft fs ft1 ρ=(ft ρ).bind λp=>if p.1=iK then fs p.2 else ft1 p.2:=rfl
@[simp] theorem qik:vN f ρ=(f ρ).bind λp=>.ok (.nx,p.2):=rfl
@[simp] theorem qeY:jz f ρ=(f ρ).bind λp=>.ok (.rt p.1,p.2):=rfl
@[simp] theorem UO:jD i f ρ=(f ρ).bind λp=>if i < p.2.length then .ok (.nx,p.2.set i (iF p.1)) else .bad:=rfl
@[simp] theorem qil:qu as G fr ρ=(fr ρ).bind λp=>match qx as p.1 p.2 with | some ds=>ZF as p.2 (G ds) | none=>.bad:=rfl
@[simp] theorem qjk:qkt f ρ=(f ρ).bind λp=>(uU p.1).bind λds=>.ok (ds,p.2):=rfl
@[simp] theorem qjl:jU f ρ=(f ρ).bind λp=>(jI p.1).bind λds=>.ok (ds,p.2):=rfl
@[simp] theorem qj1:gNm i d ρ=if i < ρ.length then .ok (ρ.set i (iF d)) else .bad:=rfl
@[simp] theorem zN:Uj fi gg fs ρ=(fi ρ).bind λp=>vd gg fs p.1 p.2:=rfl
@[simp] theorem qjm:qku f gg ρ=(f ρ).bind λp=>match gg p.1 p.2 with | .ok ρ'=>.ok (.nx,ρ') | _=>.bad:=rfl
@[simp] theorem qjn {gg:List D->D->Out (List D)}:Ks i gg f ρ=if ze ρ[i]?=iK then (f ρ).bind λp=>(match p.2[i]? with | some (iF (.lst xs))=>(match gg xs p.1 with | .ok ys=>.ok (.non,p.2.set i (iF (.lst ys))) | _=>.bad) | _=>.bad) else .bad:=rfl
@[simp] theorem qj2:ftT ρ=.ok (iK,ρ):=rfl
end
end L2.D2
namespace L2.D2
open PySem PySem.Spec PyProof.Rows
def qjK (i j:Int):Prop:=(0<=j/\j<=64)/\-4611686018427387904 < i/\i < 4611686018427387904
instance:∀ i j,Decidable (qjK i j):=λi j=>inferInstanceAs (Decidable (_/\_))
noncomputable def dM (k:D->Bool) (g:D->D->Out D) (fo fa:jg):jg:=λρ=>(fo ρ).bind λp=>if k p.1 then (fa p.2).bind λq=>(g p.1 q.1).plain.bind λd=>.ok (d,q.2) else .bad
variable {X:Cx} {C:Ct} {own:List Nat} {a:Expr} {m ma mb:Mo} {pos:Pos} {σ:St} {F H:Hp} {Q:VK}
section
variable {b:Expr} {fa fb:jg}
theorem Po.imp {r:VU} {R:VK} (h:Po C own m σ F H r Q) (i:∀ v H',Q v H'->R v H'):Po C own m σ F H r R:=by
 cases r with
 | ok p=>exact λv F' H' a c mo=>i v H' (h v F' H' a c mo)
 | exc x=>exact h
 | bad=>exact h.elim
theorem qas {k:D->Bool} {g:D->D->Out D} (f:ma≠.any) (h:tE C own m (dM k g fa fb) σ H Q):tE C own ma fa σ H λx H1=>(∃ F dx,Same F H1/\TopIs C.K F H1 x dx/\k dx=iK)/\tE C own mb fb σ H1 λy H2=>∃ F dx j,Same F H2/\TopIs C.K F H2 x dx/\TopIs C.K F H2 y j/\PoV C m F H2 (g dx j) Q:=by
 obtain ⟨F,ρ,p,h⟩:=h;refine ⟨F,ρ,p,Po.bind h λv F1 H1 d ρ1 a n c h1=>?_⟩;cases i:k d with
 | false=>simp only [i] at h1; exact h1.elim
 | true=>simp only [i,if_true] at h1;exact ⟨⟨F1,d,a.sub,c.top,i⟩,F1,ρ1,a,Po.bind h1 λw l H2 e ρ2 r c2 b h2=>⟨l,d,e,r.sub,(c.grow f c2 λx z=>(p.OA_there z).1).top,b.top,PoV.of r h2⟩⟩
def MtD (X:Cx) (C:Ct) (m:Mo) (id:String) (g:D->D->Out D):Prop:=
 MtR X id (λx vs H Q=>∃ y F dx d,vs=[y]/\Same F H/\TopIs C.K F H x dx/\TopIs C.K F H y d/\PoV C m F H (g dx d) Q)
end
theorem UP {pins:Pns} {s:iL} (I:Inv X pins σ H s) (y:Same F H) {n:Nat} {e:D}:∀ {vs:List V} {ds:List D} {us:List iI} {b:Bool},IsL X.K F vs ds->Vals vs us->gh n e ds=iF b ->us.map (Zk X F n e)=ds.map λd=>eqN n d e == iF iK
 | _,_,_,b,.nil,.nil,h=>rfl
 | _,_,_,b,.cons i t,.cons r rs,h=>by obtain ⟨a,c,q,f,rfl⟩:=VZ h;rw [aJ,aJ,UP I y t rs f,GH I y i r q,q];cases a <;> rfl
noncomputable def qjo:qR:=λ_=>.bad
variable {e:Expr}
section
variable {own':List Nat} {sts:List Stmt}
theorem qeZ:PSs X sts (tSt C own own' qjo):=by refine ⟨?_⟩;intro pins s σ H D I h;obtain ⟨_,_,_,h⟩:=h;exact h.elim
end
def qha (i j:Int):Prop:=(-(2 ^ 62)<=i/\i < 2 ^ 62)/\-(2 ^ 62)<=j/\j < 2 ^ 62
instance:∀ i j,Decidable (qha i j):=λi j=>inferInstanceAs (Decidable (_/\_))
variable {K:Frag}
section
variable {b tg:Expr} {fa fb:jg}
theorem qat:∀ {xs:List V} {us:List iI},xs.length=us.length->(∀ (j:Nat) (x:V) (u:iI),xs[j]?=iF x->us[j]?=iF u->RelV x u)->Vals xs us
 | [],[],_,_=>.nil
 | x::xs,u::us,hl,h=>.cons (h 0 x u rfl rfl) (qat (Nat.succ.inj hl) λj y w a b=>h (j+1) y w (by simpa using a) (by simpa using b))
 | [],_::_,hl,_=>nomatch hl
 | _::_,[],hl,_=>nomatch hl
noncomputable def qim (p:Addr) (lo hi:Int):HO:=.ext λh=>∃ t u v,IsRange h p lo hi 1 t u v
theorem qe0 {P:iN} {w:iO} {h:Heap} {p:Addr} {lo hi:Int} {t u v:Tok} (x:IsRange h p lo hi 1 t u v):ObjOk P w H h p (qim p lo hi):=
 ⟨⟨t,u,v,x⟩,⟨_,x⟩,λ_ _ ⟨t,u,v,x⟩ k=>⟨t,u,v,k _ x⟩⟩
theorem qau:yb X (.type "range") (λxs H Q=>∃ j:Int,xs=[.int j]/\∀ p,H p=iH->Q (.ref p) (upd H p (qim p 0 j))):=by intro pins s σ H xs us Q I r h;obtain ⟨j,rfl,q⟩:=h;obtain ⟨u,rfl,A⟩:=xR r;obtain ⟨t,rfl⟩:=A;exact call_range_1 ⟨.ref s.heap.objs.size,_,I.laid (t':=s.toks+1+1) (λb o e=>aa _ e) (aw _) (qe0 (IsRange.new ..)),rfl,q _ (I.hok.fresh (aw _))⟩
theorem qcy (e:X.calm=iK):yb X (.type "list") (λxs H Q=>∃ r lo hi,xs=[.ref r]/\H r=iF (qim r lo hi)/\(qha lo hi/\hi - lo<=1000000)/\∀ p,H p=iH->Q (.ref p) (upd H p (.lst ((aK (hi - lo).toNat).map λk=>V.int (lo+(k:Nat)))))):=by
 intro pins s σ H xs us Q I r h;obtain ⟨a,lo,hi,rfl,g,hz,q⟩:=h;obtain ⟨u,rfl,A⟩:=xR r;cases A;obtain ⟨t,u,v,d⟩:=(I.hok a _ g).1;have l:Builtin.Range.rangeSize lo hi 1=(((hi - lo).toNat:Nat):Int):=by rw [rangeSize_one]; split <;> omega
 refine call_list_range (n:=(hi - lo).toNat) (I.ok.hd e) d (small_one hz.1.1.1 hz.1.1.2 hz.1.2.1 hz.1.2.2) l (by omega) λh' tk acc c k hp b=>?_;refine ⟨.ref s.heap.objs.size,_,I.laid (t':=tk) (o:=.lst ((aK (hi - lo).toNat).map λk=>V.int (lo+(k:Nat)))) k (aw _) ⟨by rw [ai,bK,iP]; omega,acc.toList,c,?_,by simpa using hp⟩,rfl,q _ (I.hok.fresh (aw _))⟩;refine qat (by rw [ai,bK,cC,b.1]) λj x w ex f=>?_;rw [aG] at ex;obtain ⟨k,i,rfl⟩:=aP.mp ex;obtain ⟨D,rfl⟩:=aC.mp i;obtain ⟨t,rfl⟩:=b.2 j w (by simpa using f);exact ⟨t,by simp⟩
noncomputable def yM:D->Out D
 | .int j=>if qha 0 j/\j - 0<=1000000 then .ok (.lst (VG 0 (j - 0).toNat)) else .bad
 | _=>.bad
theorem qav {lo:Int}:∀ l:List Nat,IsL K F (l.map λk=>V.int (lo+(k:Nat))) (l.map λk=>D.int (lo+(k:Nat)))
 | []=>.nil
 | k::l=>.cons (.int _) (qav l)
theorem ZH {p p2 pos2:Pos} (n:X.calm=iK) (hg:Gl X "list") (m:X.mg "list"=iH) (v:bootBuiltins "list"=iF (.type "list")) (g:Gl X "range") (d:X.mg "range"=iH) (c:bootBuiltins "range"=iF (.type "range")) (o:PE X e (tE C own ma fa))
  (i:starEach [e] X.env=[(iJ,eval e X.env)]:=by exact qI rfl) (b:starEach [.Call (.Name "range" p2) [e] [] pos2] X.env=[(iJ,eval (.Call (.Name "range" p2) [e] [] pos2) X.env)]:=by exact qI rfl) :
  PE X (.Call (.Name "list" p) [.Call (.Name "range" p2) [e] [] pos2] [] pos) (tE C own .fr (d1 yM fa)):=by
 refine jB (yc (qcy n) hg m v (qN (yc qau g d c (qN o jG i) (by decide) (by decide) (by rw [i]; rfl) rfl) jG b) (by decide) (by decide) (by rw [b]; rfl) rfl) λσ H Q h=>?_;refine Kz (Qq (ma:=ma) h) λx H1 ⟨s,F,dx,ex,y,a,po⟩=>?_;cases ex;cases dx <;> try exact po.elim
 rename_i j;unfold yM at po;by_cases hz:qha 0 j/\j - 0<=1000000
 ·simp only [if_pos hz] at po;obtain rfl:=a.int;refine ⟨j,rfl,λq hq=>⟨q,0,j,rfl,qt,hz,λl f=>?_⟩⟩;obtain ⟨s1,r,f1⟩:=vB (u:=qim q 0 j) y hq;obtain ⟨s2,c2,f2⟩:=vB (u:=.lst ((aK (j - 0).toNat).map λk=>V.int (0+(k:Nat)))) s1 f;have t:H1 l=none:=by
   by_cases z:l=q;·rw [z] at f;rw [qt] at f;cases f
   ·rwa [qv z] at f
  exact po _ _ _ s2 (r.trans' c2) ⟨l,rfl,t,f2,_,qt,qav _⟩
 ·simp only [if_neg hz] at po;exact po.elim
end
noncomputable def Ite (K:Frag) (a:Addr) (xs:List V):It:=
 ⟨λi H=>i < xs.length/\SqL K H a xs,λi H v H'=>∃ x p,xs[i]?=iF x/\H p=iH/\v=.ref p/\H'=upd H p (.tup [.int (i:Nat),x]),λi H=>xs.length<=i/\SqL K H a xs⟩
theorem qaw {P:iN} {w:iO} {K:Frag} {J:List Expr} {x1} {pos:Pos} (b a:Nat) (xs:List V) (h1:a < b):Turn P w K (.Tuple J x1 pos) (Ite K a xs) [b+1,b] (b+1) (λi h=>(∃ old,IsEnum h (b+1) b i old)/\h.IsListIter b a i) where
 mem:=by simp
 obj:=λi h st c d=>by
  obtain ⟨⟨old,f⟩,o,j,l,hd⟩:=st;simp only [ae,aU,or_false] at d;rcases d with rfl | rfl;·exact ⟨_,f,λv z=>by cases z⟩
  ·exact ⟨o,j,λv z=>by rw [hd] at z; cases z⟩
 keep:=λi h h' st k=>by obtain ⟨⟨old,f⟩,o,j,l,hd⟩:=st;exact ⟨⟨old,k _ (by simp) _ f⟩,o,k _ (by simp) _ j,l,hd⟩
 item:=by
  intro X y hw A d i pins s σ H E I p st hg;subst y hw A;obtain ⟨⟨old,f⟩,hit⟩:=st;obtain ⟨hl,q⟩:=hg;obtain ⟨its,r,pl,_⟩:=I.list q;have hi:i < its.length:=by rw [<-r.length]; exact hl
  have hx:its.toArray[i]?=iF its[i]:=by simp [hi]
  refine wpAny_pyNext_enum_item f hit pl.isList hx (Nat.succ_ne_self b) λh' L u D hz kp=>?_;refine ⟨_,rfl,wpAny_letOwnedTupleGo_enum L λhq N g=>?_⟩;obtain ⟨x,ex,G⟩:=yl r (aA hi);have hT:H s.heap.objs.size=none:=I.hok.fresh (aw _);have t:b+1 < s.heap.objs.size:=ap f;have T:∀ c∈[b+1,b],c≠s.heap.objs.size:=λc d=>by simp only [ae,aU,or_false] at d;have lt':b+1 < s.heap.objs.size:=t;generalize s.heap.objs.size=m at lt';intro z;omega
  have Q:Inv X pins σ (upd H s.heap.objs.size (.tup [.int (i:Nat),x])) { s with heap:=s.heap.push { cls:=.type "tuple",data:=.seq #[.int i s.toks,its[i]] } }:=
   I.laid (t':=s.toks) (λ_ _ e=>aa _ e) (aw _) ⟨⟨by simp only [au,aY]; rw [iP]; decide,_,ah _ rfl,rfl⟩,[.int i s.toks,its[i]],.cons ⟨_,rfl⟩ (.cons G .nil),⟨_,ah _ rfl,rfl,_,rfl⟩⟩
  have O:Inv X pins σ (upd H s.heap.objs.size (.tup [.int (i:Nat),x])) { s with heap:=hq,toks:=s.toks+1 }:=by
   refine Kw (s:={ s with heap:=s.heap.push { cls:=.type "tuple",data:=.seq #[.int i s.toks,its[i]] } }) (ch:=[b+1,b]) Q (λc o n e=>?_) λc d=>⟨by rw [qv (T c d)]; exact (p c d).1,(p c d).2⟩
   simp only [ae,aU,or_false,not_or] at n;rw [g.2 c n.1];by_cases B:c=s.heap.objs.size;·subst B;have C:(s.heap.push ({ cls:=.type "tuple",data:=.seq #[.int i s.toks,its[i]] }:Obj)).get? s.heap.objs.size=iF { cls:=.type "tuple",data:=.seq #[.int i s.toks,its[i]] }:=ah _ rfl;rw [show (s.heap.push ({ cls:=.type "tuple",data:=.seq #[.int i s.toks,its[i]] }:Obj)).get? s.heap.objs.size=iF o from e] at C;rw [C];exact D
   ·have M:s.heap.get? c=iF o:=by have:=e;rwa [show (s.heap.push ({ cls:=.type "tuple",data:=.seq #[.int i s.toks,its[i]] }:Obj)).get? c=s.heap.get? c from eJ _ _ _ B] at this
    exact kp c o n.1 n.2 M
  refine ⟨.ref s.heap.objs.size,_,O,rfl,⟨x,_,ex,hT,rfl,rfl⟩,⟨⟨_,by simpa using N⟩,?_⟩,λc d=>by rw [qv (T c d)]; exact (p c d).1⟩;obtain ⟨o,j,l,hd⟩:=u;exact ⟨o,(g.2 _ (Nat.succ_ne_self b).symm).trans j,l,hd⟩
 done:=by
  intro X y hw A d i pins s σ H E I p st hg;subst y hw A;obtain ⟨⟨old,f⟩,hit⟩:=st;obtain ⟨hl,q⟩:=hg;obtain ⟨its,r,pl,_⟩:=I.list q;refine wpAny_pyNext_enum_end (I.ok.hd d) f hit pl.isList (by simp; rw [<-r.length]; exact hl) λh' ex=>⟨rfl,Kw (t':=s.toks) (ch:=[b+1,b]) I (λc o n e=>?_) p⟩
  simp only [ae,aU,or_false,not_or] at n;exact ex c o n.2 e
 self:=λ_ _ _ _ _ st h=>wpAny_pyIter_enum st.1.choose_spec h
theorem qax:bootBuiltins "enumerate"=iF (.type "enumerate"):=by decide +kernel
noncomputable def WA (xs:List D):List D:=(xs.zipIdx).map λp=>.tup [.int (p.2:Nat),p.1]
noncomputable def qay (f:jg):wV:=λρ=>(f ρ).bind λp=>match p.1 with
 | .lst xs=>.ok (WA xs,p.2)
 | _=>.bad
theorem qhb {a:Addr} {xs:List V} {ds:List D} (p:SqL K F a xs) (t:IsL K F xs ds):ItIs K F (Ite K a xs) (WA ds) where
 go:=λi H hi s=>by unfold WA at hi;rw [ai,List.length_zipIdx] at hi;exact ⟨by rw [t.length]; exact hi,s.seq p⟩
 yld:=λi Fi H v H' d e s1 s2 y=>by
  obtain ⟨x,q,hx,n,rfl,rfl⟩:=y;obtain ⟨d1,e1,i1⟩:=t.get hx;have o:d=.tup [.int (i:Nat),d1]:=by unfold WA at e;rw [aG,List.getElem?_zipIdx,e1] at e;simpa using e.symm
  subst o;obtain ⟨g1,Y⟩:=yg (u:=.tup [.int (i:Nat),x]) s2 n;exact ⟨_,Y,g1,.tup (.of qt) (.cons (.int _) (.cons ((i1.mono s1).mono Y.grow) .nil))⟩
 stop:=λi H hi s=>by unfold WA at hi;rw [ai,List.length_zipIdx] at hi;exact ⟨by rw [t.length]; exact hi,s.seq p⟩
section
variable {fa:jg}
theorem qe1 {ta:TA} {p tpos:Pos} {J:List Expr} {x1} (hg:Gl X "enumerate") (j:X.mg "enumerate"=iH) (k:PA X [a] ta) (hs:starEach [a] X.env=[(iJ,eval a X.env)]):PI X (.Tuple J x1 tpos) (.Call (.Name "enumerate" p) [a] [] pos) (λσ H R=>ta σ H λvs H1=>∃ m xs,vs=[.ref m]/\SqL X.K H1 m xs/\R (Ite X.K m xs) H1):=by
 refine ⟨?_⟩;intro pins s σ H R I h;refine Call_ (xQ I hg j qax (bB (thn (k pos pins s σ H _ I h) λus s1 ⟨vs,H1,d,r1,g⟩=>?_) hs rfl));obtain ⟨m,xs,rfl,w,q⟩:=g;obtain ⟨u,rfl,e1⟩:=xR r1;cases e1;obtain ⟨its,v,pl,_⟩:=d.list w;have t:m < s1.heap.objs.size:=let ⟨o,_,e,_⟩:=pl; ap e;refine call_enumerate_list pl.isList λh' i hit hz kp=>?_;refine wpAny_pyIter_enum i ?_;refine ⟨s1.heap.objs.size+1,_,_,Ite X.K m xs,H1,rfl,d.kept (t':=s1.toks) kp,qaw s1.heap.objs.size m xs t,⟨⟨_,i⟩,hit⟩,λb f=>?_,q⟩;have c:s1.heap.objs.size<=b:=by
  simp only [ae,aU,or_false] at f;rcases f with rfl | rfl;·exact cj _ _
  ·exact aw _
 exact d.fpOk c (d.hok.fresh c)
theorem Xk {p tpos:Pos} {J:List Expr} {x1} (m:C.K=X.K) (hg:Gl X "enumerate") (e:X.mg "enumerate"=iH) (g:PE X a (tE C own ma fa)) (h1:ma≠.any:=by decide) (hs:starEach [a] X.env=[(iJ,eval a X.env)]:=by exact qI rfl):PI X (.Tuple J x1 tpos) (.Call (.Name "enumerate" p) [a] [] pos) (tIt C own (qay fa)):=by
 refine qb3 (qe1 hg e (qN (xE g h1) jG hs) hs) λσ H R ⟨F,ρ,b,h⟩=>⟨F,ρ,b,PoI.bindV h λv F1 H1 d ρ1 r k c h1=>?_⟩
 have c:Is C.K F1 v d:=c;cases c with
 | lst p t=>exact ⟨_,_,rfl,by rw [<-m]; exact r.sub.seq p,by rw [<-m]; exact h1 _ F1 H1 r k (qhb p t)⟩
 | _=>exact h1.elim
end
mutual
def qhc:Nat->Expr->Option D
 | 0,_=>iH
 | n+1,e=>match e with
  | .Constant c _ _=>match c with
   | .none=>iF .non
   | .bool b=>iF (.bl b)
   | .int i=>iF (.int i)
   | .str x=>if x.length<=sizeLine then iF (.str x) else iH
   | _=>iH
  | .UnaryOp .USub (.Constant (.int i) _ _) _=>iF (.int (-i))
  | .List es _=>(qfU n es).bind λds=>if ds.length<=sizeLine then iF (.lst ds) else iH
  | .Tuple es _ _=>(qfU n es).bind λds=>if ds.length<=sizeLine then iF (.tup ds) else iH
  | _=>iH
def qfU:Nat->List Expr->Option (List D)
 | _,[]=>iF []
 | 0,_::_=>iH
 | n+1,e::es=>(qhc n e).bind λd=>(qfU n es).bind λds=>iF (d::ds)
end
theorem Xl {α:Type}:∀ l:List α,((l.map λ_=>AK.vl).all λa=>decide (a=.vl))=iK
 | []=>rfl
 | _::l=>by rw [aJ,fq,Xl l]; rfl
theorem qaz {n:Nat} {e:Expr} {d:D} (h:qhc n e=iF d):Uw e=true:=by
 cases n with
 | zero=>cases h
 | succ n=>cases e <;> first | rfl | (simp [qhc] at h)
section
variable {X:Cx} {C:Ct} {own:List Nat}
mutual
theorem qhd:∀ (n:Nat) {e:Expr} {d:D},qhc n e=iF d->PE X e (tE C own .sh (dC d))
 | 0,_,_,h=>by cases h
 | n+1,e,d,h=>by
  unfold qhc at h;split at h
  ·split at h;·cases h; exact yd
   ·cases h; exact ua
   ·cases h; exact qw
   ·split at h;·rename_i hz;cases h;exact qY hz
    ·cases h
   ·cases h
  ·cases h;exact jB (qgy qdl qw) λσ H Q h=>h
  ·obtain ⟨ds,h1,h2⟩:=cu.mp h;split at h2
   ·rename_i hz;cases h2;have i:VF (λρ=>.ok (ds,ρ))=dC (.lst ds):=by funext ρ;unfold VF dC;rw [Out.og,if_pos hz]
    rw [<-i];exact xE (uO (KB n h1) (Xl _)) (by decide)
   ·cases h2
  ·obtain ⟨ds,h1,h2⟩:=cu.mp h;split at h2
   ·rename_i hz;cases h2;have i:uT (λρ=>.ok (ds,ρ))=dC (.tup ds):=by funext ρ;unfold uT dC;rw [Out.og,if_pos hz]
    rw [<-i];exact jE (KB n h1) (Xl _)
   ·cases h2
  ·cases h
theorem KB:∀ (n:Nat) {es:List Expr} {ds:List D},qfU n es=iF ds->PA X es (tAr C own (es.map λ_=>.vl) λρ=>.ok (ds,ρ))
 | 0,[],ds,h=>by cases h;exact qf
 | _+1,[],ds,h=>by cases h;exact qf
 | 0,_::_,ds,h=>by cases h
 | n+1,e::es,ds,h=>by unfold qfU at h;obtain ⟨d,h1,h⟩:=cu.mp h;obtain ⟨f,h2,h⟩:=cu.mp h;cases h;have i:qc (dC d) (λρ=>.ok (f,ρ))=λρ=>.ok (d::f,ρ):=rfl;rw [<-i];exact qb (qhd n h1) (KB n h2) (by decide) (jl (qaz h1))
end
theorem qe2 {es:List Expr} {ds:List D} {pos:Pos} (n:Nat) (h:qfU n es=iF ds):PE X (.List es pos) (tE C own .fr (VF λρ=>.ok (ds,ρ))):=uO (KB n h) (Xl _)
end
noncomputable def txI (i:Int):Str:=toString i
def CTx (i:Int):Prop:=i.natAbs.log2 < 1920/\(txI i).length<=sizeLine
instance:∀ i,Decidable (CTx i):=λi=>inferInstanceAs (Decidable (_/\_))
end L2.D2
namespace PySem
open Builtin Builtin.Str
end PySem
namespace L2.D2
open PySem PySem.Spec PyProof.Rows
def qky (x y:Str):Prop:=(y.length == 0)=iJ/\(Txt.split x y).length<=sizeLine/\∀ z∈Txt.split x y,z.length<=sizeLine
instance:∀ x y,Decidable (qky x y):=λx y=>inferInstanceAs (Decidable (_/\_))
inductive IntsAre:List iI->List Int->Prop
 | nil:IntsAre [] []
 | cons (y:Int) (t:Tok) {vs:List iI} {ys:List Int} (h:IntsAre vs ys):IntsAre (fg y t::vs) (y::ys)
theorem IntsAre.length:∀ {vs:List iI} {ys:List Int},IntsAre vs ys->vs.length=ys.length
 | _,_,.nil=>rfl
 | _,_,.cons _ _ h=>congrArg (·+1) h.length
theorem IntsAre.item:∀ {vs:List iI} {ys:List Int},IntsAre vs ys->∀ (i:Nat) (v:iI),vs[i]?=iF v->∃ y t,v=fg y t/\ys[i]?=iF y
 | _,_,.nil,i,v,e=>by simp at e
 | _,_,.cons y t h,0,v,e=>by simp at e; subst e; exact ⟨y,t,rfl,rfl⟩
 | _,_,.cons y t h,i+1,v,e=>by obtain ⟨z,t',e1,a⟩:=h.item i v (by simpa using e);exact ⟨z,t',e1,by simpa using a⟩
noncomputable def KC:List D->Option (List Int)
 | []=>iF []
 | .int x::l=>(KC l).map (x::·)
 | _::_=>iH
variable {K:Frag} {F:Hp} {vs:List V}
theorem qe3 {us:List iI} {ds:List D} {ss:List Int} (a:IsL K F vs ds) (l:Vals vs us) (e:KC ds=iF ss):IntsAre us ss:=by
 induction ds generalizing vs us ss with
 | nil=>cases a;cases l;cases e;exact .nil
 | cons d ds j=>
  cases a with
  | cons i a=>
   cases l with
   | cons r l=>
    cases d with
    | int x=>obtain ⟨sl,q,rfl⟩:=aP.mp (show (KC ds).map (x::·)=iF ss from e);cases i;obtain ⟨t,rfl⟩:=r;exact .cons x t (j a l q)
    | _=>cases e
noncomputable def QL (f:Str) (d:D):List (Str×D)->List (Str×D)
 | []=>[(f,d)]
 | (g,x)::r=>if g=f then (g,d)::r else (g,x)::QL f d r
variable {f:Str} {v:V} {d:D} {H:Hp} {c:Addr}
section
theorem IsF.put (h:Is K F v d):∀ {fv:List (Str×V)} {fs:List (Str×D)},IsF K F fv fs->IsF K F (Ki f v fv) (QL f d fs)
 | _,_,.nil=>.cons h .nil
 | _,_,.cons (k:=k) q t=>by
  unfold Ki QL;by_cases z:k=f;·rw [if_pos z,if_pos z]; exact .cons h t
  ·rw [if_neg z,if_neg z]; exact .cons q (IsF.put h t)
theorem IsF.get:∀ {fv:List (Str×V)} {fs:List (Str×D)},IsF K F fv fs->fs.lookup f=iF d->∃ v,fv.lookup f=iF v/\Is K F v d
 | _,_,.nil,e=>by cases e
 | _,_,.cons (k:=k) q t,e=>by
  rw [bG] at e ⊢;cases z:f == k with
  | true=>rw [z] at e; cases e; exact ⟨_,rfl,q⟩
  | false=>rw [z] at e; exact IsF.get t e
theorem IsF.non:∀ {fv:List (Str×V)} {fs:List (Str×D)},IsF K F fv fs->fs.lookup f=iH->fv.lookup f=iH
 | _,_,.nil,e=>rfl
 | _,_,.cons (k:=k) q t,e=>by
  rw [bG] at e ⊢;cases z:f == k with
  | true=>rw [z] at e; cases e
  | false=>rw [z] at e; exact IsF.non t e
theorem IsF.length:∀ {fv:List (Str×V)} {fs:List (Str×D)},IsF K F fv fs->fv.length=fs.length
 | _,_,.nil=>rfl
 | _,_,.cons _ t=>congrArg (·+1) t.length
theorem TopIs.ins {fs:List (Str×D)} (s:Same F H) (h:TopIs K F H v (.ins c fs)):∃ a dx fv,v=.ref a/\H a=iF (.ins c dx fv)/\IsF K F fv fs:=by
 rcases h with h | ⟨a,rfl,dx,fv,e,t⟩
 ·cases h with
  | ins e t=>exact ⟨_,_,_,rfl,s _ _ e,t⟩
 ·exact ⟨a,dx,fv,rfl,e,t⟩
end
noncomputable def gW (c:Addr) (f:Str):D->Out D
 | .ins k fs=>if k=c then (match fs.lookup f with | some d=>.ok d | none=>.bad) else .bad
 | _=>.bad
noncomputable def QM (c:Addr) (i:Nat) (f:Str) (fe:jg):qR:=λρ=>(fe ρ).bind λp=>match p.2[i]? with
 | some (iF (.ins k fs))=>if k=c/\fs.length < 1000 then .ok (.nx,p.2.set i (iF (.ins k (QL f p.1 fs)))) else .bad
 | _=>.bad
variable {X:Cx} {C:Ct} {own:List Nat} {pos p1 p2:Pos} {i:Nat} {x:Str} {ms:List PM} {ps:List Str} {cv:Str->iI}
section
variable {m mo:Mo} {e o:Expr} {es:List Expr} {fa fe fo:jg}
theorem wQ (p:C.K=X.K) (g:Cls X.K c) (n:NoAttr X.K c f) (i:PE X e (tE C own m fa)) (j:attributeBase e f X.env (eval e X.env)=eval e X.env:=by rfl):PE X (.Attribute e f pos) (tE C own .sh (d1 (gW c f) fa)):=by
 refine jB (qgm i j) λσ H Q h=>Kz (VW (ma:=m) h) λx H1 ⟨F,dx,y,b,po⟩=>?_;cases dx with
 | ins k fs=>
  replace po:PoV C .sh F H1 (if k=c then (match fs.lookup f with | some d=>.ok d | none=>.bad) else .bad) Q:=po;by_cases z:k=c
  ·subst z;rw [if_pos rfl] at po;cases q:fs.lookup f with
   | none=>rw [q] at po; exact po.elim
   | some d=>rw [q] at po;obtain ⟨a,dx,fv,rfl,o,t⟩:=b.ins y;obtain ⟨v,l,is⟩:=t.get q;exact ⟨a,k,dx,fv,v,rfl,o,g,n,l,po v F H1 y .refl is⟩
  ·rw [if_neg z] at po; exact po.elim
 | _=>exact po.elim
theorem xI (I:C.K=X.K) (E:Cls X.K c) (y:NoAttr X.K c f) (hi:X.N[i]?=iF x) (s:Vis X.env.scope x) (l:i∈own) (B:PE X e (tE C own m fe)) (A:m≠.any:=by decide) (hd:Dbg x:=by decide) (n:Cdk x:=by decide)
  (hs:swapsWith e (iF (.Attribute (.Name x p1) f p2)) pos.line X.env=pure false:=by rfl):PS X (.Assign [.Attribute (.Name x p1) f p2] e pos) (tSt C own own (QM c i f fe)):=by
 refine Kl (qgn (ya hi s hd n) (xE B A) hs) λD σ H ⟨F,ρ,p,h⟩=>⟨F,ρ,p,PoS.bindE h λv F1 H1 d ρ1 r L j h1=>?_⟩
 obtain ⟨w,b⟩:=r.opn i l;obtain ⟨a,e1,J,q⟩:=r.ow i w l b;simp only [b] at h1;cases w with
 | ins k fs=>
  by_cases z:k=c/\fs.length < 1000;·simp only [if_pos z] at h1;obtain ⟨rfl,hl⟩:=z;obtain ⟨dx,fv,G,t⟩:=q;obtain ⟨g,o⟩:=r.write (u:=.ins k dx (Ki f v fv)) (d:=.ins k (QL f d fs)) l e1 ⟨dx,_,qt,t.put j⟩;exact ⟨_,e1,a,k,dx,fv,rfl,G,E,y,by rw [t.length]; exact hl,h1 σ F1 _ ⟨g,o,λ_ z=>.inl z,λ_ _=>rfl⟩⟩
  ·simp only [if_neg z] at h1; exact h1.elim
 | _=>exact h1.elim
noncomputable def ZI (c:Addr) (G:jJ) (fr:wV):jg:=λρ=>(fr ρ).bind λp=>match G (.ins c []::p.1) with
 | .ok (.non,q::_)=>.ok (q,p.2)
 | .exc x _=>.exc x p.2
 | _=>.bad
def Xm (P:iN) (w:iO) (K:Frag) (mg:Str->Option iI) (base:Heap) (cv:Str->iI) (k:Nat) (c:Addr) (x:Str) (ps:List Str) (ms:List PM) (mr:Mo) (G:jJ):Prop:=
 ∃ f fd,FnOk P w K mg base (CXk P w) k f fd ps (spD K cv ms mr G)/\Meth K c x f/\Binds K fd ps []
def qaA (P:iN) (w:iO) (K:Frag) (mg:Str->Option iI) (base:Heap) (cv:Str->iI) (k:Nat) (c:Addr) (ps:List Str) (ms:List PM) (G:jJ):Prop:=
 ∃ f fd,FnOk P w K mg base (CXk P w) k f fd ps (spD K cv ms .sh G)/\Mk K c f/\Binds K fd ps []
noncomputable def qjp:List AK->Bool
 | []=>iK
 | .vl::l=>qjp l
 | _::_=>iJ
theorem qhe {K:Frag} {H0 F F' H H':Hp} {σ:St} (g:Same F F'):∀ {as:List AK} {vs:List V} {ds:List D},qjp as=iK->ArgV K H0 F H σ as vs ds->ArgsIs K F' H' (as.map xY) vs ds/\xW (as.map xY) vs=[]
 | [],[],[],_,_=>⟨trivial,rfl⟩
 | .vl::as,v::vs,d::ds,h,a=>by have j:=qhe (H':=H') g (as:=as) h a.2;exact ⟨⟨a.1.mono g,j.1⟩,j.2⟩
 | [],_::_,_,_,a=>a.elim
 | [],[],_::_,_,a=>a.elim
 | .vl::_,[],_,_,a=>a.elim
 | .vl::_,_::_,[],_,a=>a.elim
 | .sl _::_,_,_,h,_=>by cases h
 | .fr::_,_,_,h,_=>by cases h
theorem qjq {x:Addr} {q:D} {os:List D} (h:xn K F H (.io::ms) (.ref x::vs) (q::os)):F x=iH/\OwnIs K F H x q:=by obtain ⟨⟨a,e,h1,h2⟩,_⟩:=h;cases e;exact ⟨h1,h2⟩
theorem qaB {as:List AK} {fr:wV} {k j:Nat} {p:Pos} {G:jJ} (MF:qaA X.prog X.w X.K X.mg X.base cv j c ps ms G) (hr:Room k X.A) (hj:j+1<=k) (hx:kl (CXk X.prog X.w) X C.E) (hg:Gl X x) (hm:X.mg x=iF (.ref c)) (ha:PA X (e::es) (tAr C own as fr)) (O:C.cv=cv:=by rfl) (U:C.K=X.K:=by rfl) (J:ms=.io::as.map xY:=by rfl) (hv:qjp as=true:=by rfl) (L:∀ i∈C.ox,i∈own:=by exact kz rfl)
  (N:Dbg x:=by decide) (he:starEach (e::es) X.env=(iJ,eval e X.env)::starEach es X.env:=by exact jl rfl) (I:(backTo pos (starEach es X.env)).any (·.1)=false:=by exact vR rfl):PE X (.Call (.Name x p) (e::es) [] pos) (tE C own .fr (ZI c G fr)):=by
 subst O;obtain ⟨f,fd,F0,M,P⟩:=MF;refine jB (qd9 M F0 (hr.mono hj) hg hm P .nil hx ha N he I) λσ H Q ⟨F,ρ,W,h⟩=>⟨F,ρ,W,?_⟩
 unfold ZI at h;cases u:fr ρ with
 | exc c=>rw [u] at h; exact h
 | bad=>rw [u] at h; exact h.elim
 | ok Y=>
  rw [u] at h;obtain ⟨ds,ρ1⟩:=Y;intro vs F1 H1 r S av x dx a l ne;rw [bp];have R:H x=none:=by
   cases q:H x with
   | none=>rfl
   | some o=>exact absurd a (S.stay x (by rw [q]; simp))
  have nF:∀ {z:Addr},H1 z=iH->F1 z=none:=λ{z} hz=>r.sub.free hz;have ex:(upd (upd H1 dx (.own x)) x (.ins c dx [])) x=iF (.ins c dx []):=qt;have c2:Chg No F1 H1 F1 (upd (upd H1 dx (.own x)) x (.ins c dx [])):=⟨λb o D _=>by
    rw [qv (λz=>by rw [z,a] at D; cases D),qv (λz=>by rw [z,l] at D; cases D)]; exact D,λb nb=>by
    by_cases z:b=x;·rw [z,ex]; simp
    ·rw [qv z];by_cases z2:b=dx;·rw [z2,qt]; simp
     ·rw [qv z2]; exact nb,Same.refl _,λb P=>.inl P⟩
  have s2:Same F1 (upd (upd H1 dx (.own x)) x (.ins c dx [])):=λb o D=>by rw [qv (λz=>by rw [z,nF a] at D; cases D),qv (λz=>by rw [z,nF l] at D; cases D)]; exact r.sub b o D
  obtain ⟨ar,le⟩:=qhe (H':=upd (upd H1 dx (.own x)) x (.ins c dx [])) (Same.refl F1) hv av;have T:xW (PM.io::as.map xY) (V.ref x::vs)=[x]:=by show x::xW (as.map xY) vs=[x]; rw [le]
  subst J;refine ⟨F1,.ins c []::ds,s2,⟨⟨x,rfl,nF a,dx,[],ex,.nil⟩,by rw [<-U]; exact ar⟩,by rw [T]; simp,?_⟩;have n:∀ {F' H':Hp},Chg (LA (PM.io::as.map xY) (V.ref x::vs)) F1 (upd (upd H1 dx (.own x)) x (.ins c dx [])) F' H'->Chg No F1 H1 F' H':=λ{F' H'} g=>by
   have g:Chg (λz=>z=x) F1 (upd (upd H1 dx (.own x)) x (.ins c dx [])) F' H':=g.mono λz hz=>by have hz:z∈xW (PM.io::as.map xY) (V.ref x::vs):=hz;rw [T] at hz; simpa using hz
   exact c2.trans g λz hz=>.inr (by rw [hz]; exact a)
  have h:Po C own .fr σ F H (match G (.ins c []::ds) with | .ok (.non,q::_)=>.ok (q,ρ1) | .exc x _=>.exc x ρ1 | _=>.bad) Q:=h;cases t:G (.ins c []::ds) with
  | bad=>rw [t] at h; exact h.elim
  | exc y o=>rw [t] at h;exact λF' H' m g _=>h F' H' m ((r.grow (n g) m).ioIs L) (S.trans' (n g).ofNo)
  | ok Z=>
   rw [t] at h;obtain ⟨d,s⟩:=Z;cases d with
   | non=>
    cases s with
    | nil=>exact h.elim
    | cons q os=>
     intro v F' H' m g oi mo;have B:v=.non:=by have mo:Is _ F' v .non:=mo;cases mo; rfl
     obtain ⟨fx,ow⟩:=qjq oi;refine ⟨B,h (.ref x) F' H' (r.grow (n g) m) (S.trans' (n g).ofNo) ⟨x,rfl,R,fx,?_⟩⟩;rw [U]; exact ow
   | _=>exact h.elim
end
variable {σ:St} {ρ:Sl} {u:HO} {b:Addr}
section
variable {own1:List Nat}
theorem Rep.off {x:Addr} (r:Rep K own F H σ ρ) (E:F x=iH) (n:¬OA own σ x):Rep K own F (upd H x u) σ ρ where
 sub:=λb o e=>by rw [qv (qB e E)]; exact r.sub b o e
 len:=r.len
 val:=r.val
 ow:=λj d D e=>by obtain ⟨a,h1,h2,h3⟩:=r.ow j d D e;exact ⟨a,h1,h2,h3.grow (Same.refl _) λo q=>by rw [qv (λz=>n ⟨j,D,by rw [<-z]; exact h1⟩)]; exact q⟩
 opn:=r.opn
 dis:=r.dis
theorem Rep.frz {o:HO} (r:Rep K own F H σ ρ) (h:H b=iF o) (E:F b=iH) (n:¬OA own σ b):Rep K own (upd F b o) H σ ρ:=by
 have gr:Same F (upd F b o):=λc w e=>by rw [qv (qB e E)]; exact e
 refine ⟨λc w e=>?_,r.len,λj d D e=>?_,λj d D e=>?_,r.opn,r.dis⟩
 ·by_cases q:c=b;·subst q; rw [qt] at e; cases e; exact h
  ·rw [qv q] at e; exact r.sub c w e
 ·obtain ⟨v,h1,h2⟩:=r.val j d D e;exact ⟨v,h1,h2.mono gr⟩
 ·obtain ⟨a,h1,h2,h3⟩:=r.ow j d D e;exact ⟨a,h1,by rw [qv (λz=>n ⟨j,D,by rw [<-z]; exact h1⟩)]; exact h2,h3.grow gr λ_ q=>q⟩
theorem Chg.put {A:Addr->Prop} {F H:Hp} (hA:A b):Chg A F H F (upd H b u):=
 ⟨λc o e n=>by rw [qv (λz=>n (by rw [z]; exact hA))]; exact e,λc h=>by
  by_cases q:c=b;·rw [q,qt]; simp
  ·rw [qv q]; exact h,Same.refl _,λ_ h=>.inl h⟩
end
noncomputable def ctB (C:Ct):Ct:={ C with ox:=[],oxs:=λ_ h=>by cases h }
def zO (K:Frag) (c:Addr) (x qual:Str) (st:Stmt) (ps:List Str):Prop:=∃ f fd,Fun K x qual st f fd/\Meth K c x f/\Binds K fd ps []
def qe4 (K:Frag) (c:Addr) (qual:Str) (st:Stmt) (ps:List Str):Prop:=∃ f fd,Fun K "__init__" qual st f fd/\Mk K c f/\Binds K fd ps []
variable {base:Heap}
section
variable {P:iN} {w:iO} {mg:Str->Option iI} {qual:Str} {st:Stmt} {N:List Str} {k:Nat} {mr:Mo} {own':List Nat} {fb:qR}
theorem zQ (T:zO K c x qual st ps) (S:FnScope N ps (ql st))
  (a:∀ (cdv:iI) (f:Addr) (A:iQ) (outer:List Env) (s:iL) (H:Hp) (E:XK),Room k (A.deeper (envOfC qual (ql st) s.heap.objs.size f cdv)) ->PSs (cxk P w K mg base N qual (ql st) f cdv A outer s H E) (ka st) (tSt (qdh K cv E ms mr) (kb 0 ms) own' fb))
  (hl:ms.length=ps.length:=by rfl) (g:∀ i∈Wg 0 ms,i∈own':=by exact kz rfl) (hmr:mr=.sh\/∀ ds ρ,(fb (qp N ds))≠.ok (.nx,ρ):=by exact .inl rfl):Xm P w K mg base cv (k+1) c x ps ms mr (kj N ms fb):=by
 obtain ⟨f,fd,F,m,d⟩:=T;exact ⟨f,fd,qh6 F S hl g hmr (λcdv A outer s H E h=>a cdv f A outer s H E h) λ_=>.inr rfl,m,d⟩
theorem qe5 (T:qe4 K c qual st ps) (S:FnScope N ps (ql st))
  (a:∀ (cdv:iI) (f:Addr) (A:iQ) (outer:List Env) (s:iL) (H:Hp) (E:XK),Room k (A.deeper (envOfC qual (ql st) s.heap.objs.size f cdv)) ->PSs (cxk P w K mg base N qual (ql st) f cdv A outer s H E) (ka st) (tSt (qdh K cv E ms .sh) (kb 0 ms) own' fb))
  (hl:ms.length=ps.length:=by rfl) (g:∀ i∈Wg 0 ms,i∈own':=by exact kz rfl):qaA P w K mg base cv (k+1) c ps ms (kj N ms fb):=by
 obtain ⟨f,fd,F,m,d⟩:=T;exact ⟨f,fd,qh6 F S hl g (.inl rfl) (λcdv A outer s H E h=>a cdv f A outer s H E h) λ_=>.inr rfl,m,d⟩
end
section
theorem vr (i:Nat) (h:X.N[i]?=iF x:=by rfl) (c:Vis X.env.scope x:=by first | exact bE rfl | exact fW (bE rfl) | exact fW (fW rfl)) (l:i∉own:=by decide) (hd:Dbg x:=by decide) (d:Cdk x:=by decide):PE X (.Name x pos) (tE C own .sh (qd i)):=qgz h c l hd d
end
section
theorem Rep.swap {F' H':Hp} {g:Nat} {o:D} (r:Rep K own F H σ ρ) (hg:g∈own) (i:σ[g]?=iF (iF (V.ref b))) (c:Chg (λz=>z=b) F H F' H') (y:Same F' H') (fb:F' b=iH) (ow:OwnIs K F' H' b o):Rep K own F' H' σ (ρ.set g (iF o))/\Chg (OA own σ) F H F' H':=by
 obtain ⟨w,f⟩:=r.opn g hg;have hl:g < ρ.length:=(aC.mp f).1;refine ⟨⟨y,by simp [r.len],λj d h e=>?_,λj d h e=>?_,λj h=>?_,r.dis⟩,c.mono λz hz=>⟨g,hg,by rw [hz]; exact i⟩⟩;·rw [am (λz=>h (by rw [<-z]; exact hg))] at e;obtain ⟨v,h1,h2⟩:=r.val j d h e;exact ⟨v,h1,h2.mono c.grow⟩
 ·by_cases q:j=g;·subst q;rw [aF hl] at e;cases e;exact ⟨b,i,fb,ow⟩
  ·rw [am (bf q)] at e;obtain ⟨a,h1,h2,h3⟩:=r.ow j d h e;have na:a≠b:=λz=>by subst z; exact q (r.dis j g a h hg h1 i)
   refine ⟨a,h1,?_,h3.grow c.grow λo q=>c.keep a o q na⟩;cases k:F' a with
   | none=>rfl
   | some u=>
    rcases c.new a (by rw [k]; simp) with z | z | z;·exact absurd h2 z
    ·exact absurd z h3.there
    ·exact absurd z na
 ·by_cases q:j=g;·subst q; exact ⟨o,aF hl⟩
  ·rw [am (bf q)]; exact r.opn j h
end
noncomputable def qaC (fo fe:jg):jg:=λρ=>(fo ρ).bind λp=>match p.1 with
 | .lst ds=>(fe p.2).bind λq=>if ds.length < 100000 then .ok (.non,q.2) else .bad
 | _=>.bad
theorem qhf {f:jg} {ρ':Sl}:jz f ρ≠.ok (.nx,ρ'):=by
 unfold jz;cases f ρ with
 | ok p=>intro h; cases h
 | exc c o=>intro h; cases h
 | bad=>intro h; cases h
section
variable {m mo mw mx:Mo} {e o w ix:Expr} {fe fo fw fx:jg} {apos cpos p3:Pos}
theorem qe6 (T:C.K=X.K) (J:PE X o (tE C own .fr fo)) (M:PE X e (tE C own m fe)) (L:m≠.any:=by decide)
  (c:attributeBase o "append" X.env (eval o X.env)=eval o X.env:=by rfl)
  (w:((backTo cpos (starEach [e] X.env)).all (λx=>!x.1)&&(backToKw cpos (keywordEach [] X.env)).all (λx=>x.1.isSome)
   && decide ([e].length+([]:List i0).length+(if ([]:List i0).isEmpty then 0 else 1) < 30))=true:=by exact vS rfl)
  (b:(apos.endLine == cpos.line)=true:=by rfl) (hs:starEach [e] X.env=[(iJ,eval e X.env)]:=by exact qI rfl) :
  PE X (.Call (.Attribute o "append" apos) [e] [] cpos) (tE C own .sh (qaC fo fe)):=by
 refine jB (Zg bS PySem.F.slot_list_append PySem.F.type_list_append Ql J (qN (xE M L) jG hs) c w b hs rfl) λσ H Q ⟨F,ρ,u,h⟩=>⟨F,ρ,u,?_⟩
 unfold qaC at h;cases n:fo ρ with
 | exc y os=>rw [n] at h; exact h
 | bad=>rw [n] at h; exact h.elim
 | ok Z=>
  obtain ⟨d,ρ1⟩:=Z;rw [n,Out.og] at h;intro v F1 H1 k B f;have p:=f;obtain ⟨a,rfl,i,N,ow⟩:=f;cases d with
  | lst ds=>
   replace h:Po C own .sh σ F H ((fe ρ1).bind λq=>if ds.length < 100000 then .ok (.non,q.2) else .bad) Q:=h;obtain ⟨xs,ex,R⟩:=ow;refine ⟨.inl ⟨rfl,xs,.inl (.inl ex)⟩,F1,ρ1,k,?_⟩;cases l:fe ρ1 with
   | exc y os=>rw [l] at h; exact λF' H' s' I S=>h F' H' s' I (B.trans' S)
   | bad=>rw [l] at h; exact h.elim
   | ok Z=>
    obtain ⟨d2,ρ2⟩:=Z;rw [l,Out.og] at h;intro D P H2 r c2 G;have oa:∀ x,OA own σ x->H x≠none:=λx z=>(u.OA_there z).1;obtain ⟨U,O,_,g,j,t,s⟩:=p.grow (by decide) c2 oa;cases O;have h:Po C own .sh σ F H (if ds.length < 100000 then .ok (.non,ρ2) else .bad) Q:=h;by_cases q:ds.length < 100000;·rw [if_pos q] at h;have E:¬OA own σ a:=λz=>oa a z i;refine ⟨a,j,D,rfl,rfl,t,by rw [s.length,iP]; omega,h .non P _ (r.off g E) ?_ .non⟩;exact (B.trans' c2).trans (Chg.put (A:=λz=>z=a) rfl) λz hz=>.inr (by rw [hz]; exact i)
    ·rw [if_neg q] at h; exact h.elim
  | _=>exact h.elim
end
theorem QN (ks:List Int):∀ n,n<=ks.length->preSum (λi=>ks.getD i 0) n=(ks.take n).sum
 | 0,_=>rfl
 | n+1,h=>by
  have j:=QN ks n (by omega);show preSum (λi=>ks.getD i 0) n+ks.getD n 0=_;rw [j,List.take_add_one,g8];have:ks[n]?=iF (ks.getD n 0):=by rw [bZ,aA (by omega)]; rfl
  rw [this];simp
theorem qds:∀ (ks:List Int),(ks.all λk=>decide (0<=k/\k<=100000))=iK->0<=ks.sum/\ks.sum<=100000 * ks.length
 | [],_=>by simp
 | k::ks,h=>by rw [fq,aM] at h;have h1:=of_decide_eq_true h.1;have j:=qds ks h.2;rw [List.sum_cons,au];omega
def FlyA (h:Heap) (ex T:Addr) (cls:iI):Prop:=∃ o vs a ts l,h.get? ex=iF o/\o.cls=cls/\o.data=.fields vs/\vs[1]?=iF (.ref T)/\T≠ex/\h.get? T=iF a/\a.data=.fields ts/\ts[3]?=iF l
theorem FlyA.tr {h:Heap} {ex T:Addr} {cls:iI} (f:FlyA h ex T cls) (d:base.get? T=iH):∃ B l,h.TracedAtW base ex cls B l:=by obtain ⟨o,vs,a,ts,l,m,c,z,q,p,b,k,j⟩:=f;have hz:0 < vs.size:=fL (Array.getElem?_eq_some_iff.mp q).1;exact ⟨vs[0],l,o,vs,T,a,ts,m,⟨c,by simp [hz]⟩,z,q,d,p,b,k,j⟩
noncomputable def WB (n:Nat) (fw fx:jg):qR:=λρ=>(fw ρ).bind λp=>(fx p.2).bind λq=>match (q.2[n]?:Option (Option D)) with
 | some (iF (.dct kvs))=>(match Uk q.1 with
  | some k=>if kvs.length < sizeLine then .ok (.nx,q.2.set n (iF (.dct (wX kvs k p.1)))) else .bad
  | none=>.bad)
 | _=>.bad
section
variable {w ix:Expr} {fw fx:jg} {mw mx:Mo} {p3:Pos}
theorem KG {n:Nat} (L:X.A.units+64 < cLine) (t:X.N[n]?=iF x) (s:Vis X.env.scope x) (l:n∈own) (hw:PE X w (tE C own mw fw)) (hx:PE X ix (tE C own mx fx)) (e:mw≠.any:=by decide)
  (hd:Dbg x:=by decide) (i:Cdk x:=by decide) (hs:swapsWith w (iF (.Subscript (.Name x p1) ix p2)) p3.line X.env=pure false:=by rfl) :
  PS X (.Assign [.Subscript (.Name x p1) ix p2] w p3) (tSt C own own (WB n fw fx)):=by
 refine Kl (qel (by omega) (ya t s hd i) hx (xE hw e) hs) λQ σ H ⟨F,ρ,p,h⟩=>⟨F,ρ,p,PoS.bindE h λv F1 H1 d ρ1 b O c h1=>?_⟩
 have c:Is C.K F1 v d:=c;obtain ⟨D,g⟩:=b.opn n l;obtain ⟨a,e1,M,I⟩:=b.ow n D l g;refine ⟨_,e1,F1,ρ1,b,PoS.bindE h1 λJ E H2 B ρ2 r c2 m h2=>?_⟩;obtain ⟨d2,hd2⟩:=r.opn n l;obtain ⟨P,o,y,o2⟩:=r.ow n d2 l hd2;rw [e1] at o;cases o;simp only [hd2] at h2;cases d2 with
 | dct kvs=>
  cases q:Uk B with
  | none=>simp only [q] at h2; exact h2.elim
  | some k=>
   simp only [q] at h2;have f:=qi6 m.top q;subst f;obtain ⟨kv,ex,j⟩:=o2;by_cases hz:kvs.length < sizeLine;·simp only [if_pos hz] at h2;obtain ⟨r3,G⟩:=r.write (u:=.dK (Jn kv k v)) (d:=.dct (wX kvs k d)) l e1 ⟨_,qt,j.put (c.mono c2.grow)⟩;exact ⟨a,_,rfl,DPut.k ex (by rw [j.length]; exact hz),h2 σ E _ ⟨r3,G,λ_ z=>.inl z,λ_ _=>rfl⟩⟩
   ·simp only [if_neg hz] at h2; exact h2.elim
 | _=>exact h2.elim
end
end L2.D2
namespace L2.D2
open PySem PySem.Spec PyProof.Rows PySem.W
variable {α:Type}
noncomputable def UQ:List (Key×α)->Option (List Str)
 | []=>iF []
 | (.inr x,_)::l=>(UQ l).map (x::·)
 | (.inl _,_)::_=>iH
theorem Xn:∀ {l:List (Key×α)} {ss:List Str},UQ l=iF ss->l.map (·.1)=ss.map ck
 | [],ss,h=>by cases h; rfl
 | (.inr x,_)::l,ss,h=>by obtain ⟨f,e,rfl⟩:=aP.mp (show (UQ l).map (x::·)=iF ss from h);rw [aJ,aJ,Xn e]
 | (.inl _,_)::_,ss,h=>by cases h
theorem IsK.keys {K:Frag} {F:Hp}:∀ {kv:List (Key×V)} {ks:List (Key×D)},IsK K F kv ks->kv.map (·.1)=ks.map (·.1)
 | _,_,.nil=>rfl
 | _,_,.cons h t=>by rw [aJ,aJ,IsK.keys t]
theorem KV.keys:∀ {kv:List (Key×V)} {vs:List (Key×iI)},KV kv vs->kv.map (·.1)=vs.map (·.1)
 | _,_,.nil=>rfl
 | _,_,.cons h t=>by rw [aJ,aJ,h.1,KV.keys t]
end L2.D2
namespace PySem.F
end PySem.F
namespace L2.D2
open PySem PySem.Spec PyProof.Rows PySem.W
end L2.D2
namespace L2.D2
open PySem PySem.Spec PyProof.Rows
noncomputable def KH:D->Out D
 | .lst ds=>(match KC ds with
  | some ks=>if ks.length<=1000/\(ks.all λk=>decide (0<=k/\k<=100000))=iK then .ok (.int ks.sum) else .bad
  | none=>.bad)
 | _=>.bad
section
variable {X:Cx} {C:Ct} {own:List Nat} {mb mx:Mo} {b ix:Expr} {fb:jg} {pos apos cpos px:Pos}
theorem UR (S:C.K=X.K) (R:X.calm=iK):Jr X C .sh (.builtin "sum") KH:=by
 intro pins s σ H xs us Q I r h;obtain ⟨x,F,dx,rfl,J,M,po⟩:=h;cases dx with
 | lst ds=>
  obtain ⟨u,rfl,O⟩:=xR r;obtain ⟨a,vs,rfl,hq,P⟩:=M.lst J;cases O;rw [S] at hq;obtain ⟨its,N,p,hz⟩:=I.list hq;have pl:s.heap.IsList a its.toArray:=by obtain ⟨o,n,f,B,_,w⟩:=p;exact ⟨o,f,B,n,w⟩
  cases e:KC ds with
  | none=>have po:PoV C .sh F H (match KC ds with | some ks=>if ks.length<=1000/\(ks.all λk=>decide (0<=k/\k<=100000))=iK then .ok (.int ks.sum) else .bad | none=>.bad) Q:=po;rw [e] at po; exact po.elim
  | some ks=>
   have po:PoV C .sh F H (match KC ds with | some ks=>if ks.length<=1000/\(ks.all λk=>decide (0<=k/\k<=100000))=iK then .ok (.int ks.sum) else .bad | none=>.bad) Q:=po;rw [e] at po;by_cases m:ks.length<=1000/\(ks.all λk=>decide (0<=k/\k<=100000))=iK
   ·have po:PoV C .sh F H (if ks.length<=1000/\(ks.all λk=>decide (0<=k/\k<=100000))=iK then .ok (.int ks.sum) else .bad) Q:=po;rw [if_pos m] at po;have st:=qe3 P N e;have d:a < s.heap.objs.size:=let ⟨o,f,_⟩:=pl; ap f;have L:its.length=ks.length:=st.length;refine call_sum_walk (lj (show s.heap.IsList a its.toArray from pl) ?_);refine ⟨s.heap.objs.size,_,_,_,_,_,λi=>ks.getD i 0,rfl,iE (A:=X.A.in1) (I.ok.hd R) _ a (ay d) its.toArray,⟨⟨_,ah _ rfl,rfl,rfl⟩,?_⟩,?_,λi v ev=>?_,λj D=>?_,λh' tk t' kp=>?_⟩;·obtain ⟨o,e,c⟩:=pl;exact ⟨o,aa _ e,c⟩
    ·intro z b;rw [ba];simp only [ae,aU,or_false] at b;rcases b with rfl | rfl;·exact fj _
     ·exact cw d
    ·obtain ⟨y,t,e1,T⟩:=st.item i v (by simpa using ev);exact ⟨t,by rw [e1]; show fg y t=fg (ks.getD i 0) t; rw [bZ,T]; rfl⟩
    ·rw [aj,L] at D;have l:=m.2;rw [aL] at l;have h1:=of_decide_eq_true (l (ks.getD j 0) (by rw [bZ,aA D]; exact bT D));have h2:=qds (ks.take (j+1)) (aL.mpr λk g=>l k (List.mem_of_mem_take g));have h3:(ks.take (j+1)).length<=1000:=by rw [bQ]; omega
     have G:=QN ks (j+1) D;refine ⟨⟨by show (-2 ^ 63:Int)<=ks.getD j 0; omega,by show ks.getD j 0 < (2 ^ 63:Int); omega⟩,?_⟩;rw [G];exact ⟨by omega,by omega⟩
    ·have U:Inv X pins σ H { s with heap:=h',toks:=tk }:=I.kept (t':=tk) λz o E=>kp z o (λq=>by rw [aE.mp q] at E;exact bM _ (ap E)) (aa _ E);have G:preSum (λi=>ks.getD i 0) its.toArray.size=ks.sum:=by rw [aj,L,QN ks _ (aw _),fY]
     exact ⟨.int ks.sum,H,U,⟨t',by rw [G]⟩,po _ F H J .refl (.int _)⟩
   ·have po:PoV C .sh F H (if ks.length<=1000/\(ks.all λk=>decide (0<=k/\k<=100000))=iK then .ok (.int ks.sum) else .bad) Q:=po;rw [if_neg m] at po; exact po.elim
 | _=>exact po.elim
end
open PySem.SeqAt
open AutoSeq1 (wpAny_loadPart')
open MeetsSeq MeetsSeq2 MeetsSeq3
def RcLtAt (A:iQ) (s:iL) (y x:iI) (b:Bool):Prop:=
 ∀ (prog:iN) (w:iO) (E:iI->iL->Prop) (Q:iI->iL->Prop),Q (.bool b) s->wpAny (model prog w) A (richCompare .Lt y x) Q E s
def LtL (A:iQ) (s:iL) (k b:Bool):List (iI×iI)->Prop
 | []=>b=k
 | (y,x)::t=>(EqAt A.in1 s y x iK/\LtL A s k b t)\/(EqAt A.in1 s y x iJ/\RcLtAt A.in1 s y x b)
theorem ZJ (l b:Addr) (items i:Array iI) (n n2:Nat) (dd f:Option Addr) (sl e:Array (Option iI)) (c:Bool):Meets (Builtin.«tuple.__lt__» ⟨[.ref l,.ref b],[]⟩)
   (λA R s=>s.heap.get? l=iF { cls:=.type "tuple",dict:=dd,data:=.seq items n,slots:=sl }/\s.heap.get? b=iF { cls:=.type "tuple",dict:=f,data:=.seq i n2,slots:=e } /\
    LtL A s (decide (items.size < i.size)) c (items.toList.zip i.toList)/\R (.ok (.ret (.bool c))) s):=
 .of_wp λprog w A R s h=>by
  obtain ⟨hp,g,d,tk,os⟩:=s; obtain ⟨hl,k,j,h⟩:=h;have f2:=AutoSeq1.sub_tuple_tuple;wp_walk using wpAny_loadPart' hl,wpAny_loadPart' k,wpAny_forIn_list _ (λrest b s'=>b.1=iH/\s'=⟨hp,g,d,tk,os⟩/\LtL A ⟨hp,g,d,tk,os⟩ (decide (items.size < i.size)) c rest) _
  case turn=>
   rintro ⟨y,x⟩ rest b s' ⟨a,rfl,hz⟩;rcases hz with ⟨e1,hz⟩ | ⟨e1,hz⟩
   ·refine iG (e1 prog w _ _ ?_);wp_walk
    exact ⟨rfl,rfl,hz⟩
   ·refine iG (e1 prog w _ _ ?_);refine iG (k9 (iG (hz prog w _ _ ?_)));wp_walk
    exact ⟨_,rfl,h⟩
  case fin=>
   rintro ⟨m,z⟩ s' ⟨a,rfl,hz⟩;simp only at a;subst a;have hz:c=_:=hz;subst hz;wp_walk
   exact ⟨_,rfl,by simpa [Builtin.Tuple.tupleCompareSizes] using h⟩
  case h=>
   exact ⟨rfl,rfl,j⟩
theorem RcLtAt.tuples {A:iQ} {s:iL} {l b:Addr} {items i:Array iI} {c:Bool} (hl:s.heap.IsTuple l items) (p:s.heap.IsTuple b i) (u:A.units < cLine)
  (m:LtL A s (decide (items.size < i.size)) c (items.toList.zip i.toList)):RcLtAt A s (.ref l) (.ref b) c:=λprog w E Q h=>by
 obtain ⟨⟨cls,dd,data,sl⟩,o,j,n,hd⟩:=id hl;obtain ⟨⟨k,f,g,e⟩,a,d,n2,hd2⟩:=id p;simp only at j hd d hd2;subst j hd d hd2;exact richCompare_meets_room (op:=.Lt) ⟨_,o,rfl⟩ ⟨_,a,rfl⟩ F.slot_tuple_lt F.entry_tuple_lt (F.args_tuple_lt_2 _ _) (ZJ l b items i n n2 dd f sl e c)
  ⟨o,a,m,show aZ c≠Value.notImplemented/\Q (.bool c) s from ⟨(λx=>nomatch x),h⟩⟩ u
end L2.D2
namespace L2.D2
open PySem PySem.Spec PyProof.Rows
open PySem.SeqAt
end L2.D2
namespace L2.D2
open PySem PySem.Spec PyProof.Rows
open AutoSeq1 (wpAny_loadPart')
end L2.D2
namespace L2.D2
open PySem PySem.Spec PyProof.Rows
section
variable {X:Cx} {C:Ct} {own:List Nat} {m ma mb:Mo} {a b e:Expr} {fa fb fe:jg} {apos cpos px:Pos}
noncomputable def qin (y:Str):iI->Bool
 | .str x _=>x.cps.toList == y.cps.toList
 | _=>iJ
theorem qdt {y:Str}:∀ (ss:List Str) (its:List iI),Vals (ss.map V.str) its->y∈ss->∃ j,∃ D:j < its.length,qin y its[j]=iK/\(∀ m (c:m < its.length),m < j->qin y its[m]=iJ)/\Vals ((ss.erase y).map V.str) (its.eraseIdx j)
 | x::ss,u::its,.cons r rs,hy=>by
  obtain ⟨t,rfl⟩:=(show ∃ t,u=dt x t from r)
  by_cases q:x=y;·subst q;refine ⟨0,by simp,by simp [qin],λm c h=>absurd h (dX _),?_⟩;rw [List.erase_cons_head];exact rs
  ·obtain ⟨j,D,h1,h2,h3⟩:=qdt ss its rs ((ae.mp hy).resolve_left λz=>q z.symm);refine ⟨j+1,by simp; omega,h1,λm c h=>?_,?_⟩
   ·cases m with
    | zero=>show (x.cps.toList == y.cps.toList)=iJ;refine beq_eq_false_iff_ne.mpr λz=>q ?_;obtain ⟨x⟩:=x;obtain ⟨y⟩:=y;have z:x.toList=y.toList:=z;rw [Array.toList_inj.mp z]
    | succ m=>exact h2 m (by simpa using c) (by omega)
   ·rw [List.erase_cons_tail (by simpa using q)];exact .cons ⟨t,rfl⟩ h3
def qjr:V->List V->Hp->VK->Prop:=λx vs H Q=>∃ (l:Addr) (ss:List Str) (y:Str),x=.ref l/\vs=[.str y]/\H l=iF (.lst (ss.map V.str))/\y∈ss/\Q .non (upd H l (.lst ((ss.erase y).map V.str)))
theorem qhg:MtM X "list.remove" qjr:=by
 intro pins s σ H x vs v us Q I d g h;obtain ⟨l,ss,y,rfl,rfl,c,B,q⟩:=h;cases d;obtain ⟨u,rfl,A⟩:=g.one;obtain ⟨t,rfl⟩:=A;obtain ⟨z,its,n,r,hl,e⟩:=I.lstM c;obtain ⟨j,D,h1,h2,h3⟩:=qdt ss its r B;refine lf PySem.F.slot_list_remove ⟨_,e,rfl⟩ PySem.F.entry_list_remove (PySem.F.args_list_remove_2 _ _)
  (MeetsSeq.list_remove l its.toArray n (.str y t) (qin y) (λw hw=>?_) j (by simpa using D) (by simpa using h1) (λm k b=>by simpa using h2 m (by simpa using k) b) (by rw [aj]; omega)) ⟨e,?_⟩
 ·obtain ⟨i,hi,rfl⟩:=cX.mp (show w∈its by simpa using hw);obtain ⟨x,ex,d⟩:=Vals.getE r hi;rw [aG] at ex;obtain ⟨f,_,rfl⟩:=aP.mp ex;obtain ⟨t',o⟩:=(show ∃ t,its[i]=dt f t from d)
  rw [o];exact SeqRoads2.EqGives.str _ _ _ _
 ·refine ⟨.non,_,I.lset (its':=its.eraseIdx j) c e ?_ h3 ?_,rfl,q⟩;·show its.toArray.eraseIdxIfInBounds j=(its.eraseIdx j).toArray;rw [List.eraseIdxIfInBounds_toArray]
  ·have:=List.length_erase_le (a:=y) (l:=ss);rw [ai] at z ⊢;omega
noncomputable def qe7 (ds:List D) (d:D):Out (List D):=match QJ ds,d with
 | some ss,.str y=>if y∈ss then .ok ((ss.erase y).map D.str) else .bad
 | _,_=>.bad
theorem qhh {K:Frag} {F:Hp} {vs:List V} {ds:List D} {ss:List Str} (l:IsL K F vs ds) (e:QJ ds=iF ss):vs=ss.map V.str/\∀ x∈ss,x.length<=sizeLine:=by
 induction ds generalizing vs ss with
 | nil=>cases l;cases e;exact ⟨rfl,λx h=>nomatch h⟩
 | cons d ds j=>
  cases l with
  | cons i l=>
   cases d with
   | str x=>
    obtain ⟨s2,q,rfl⟩:=aP.mp (show (QJ ds).map (x::·)=iF ss from e);obtain ⟨h1,h2⟩:=j l q;cases i with
    | str hz=>exact ⟨by rw [h1]; rfl,λy B=>(ae.mp B).elim (λz=>z ▸ hz) (h2 y)⟩
   | _=>cases e
theorem qaD {i:Nat} {x:Str} {px apos cpos:Pos} (r:X.N[i]?=iF x) (n:Vis X.env.scope x) (o:i∈own) (p:PE X e (tE C own m fe)) (j:m≠.any:=by decide)
  (hd:Dbg x:=by decide) (f:Cdk x:=by decide)
  (c:attributeBase (.Name x px) "remove" X.env (eval (.Name x px) X.env)=eval (.Name x px) X.env:=by rfl)
  (w:((backTo cpos (starEach [e] X.env)).all (λx=>!x.1)&&(backToKw cpos (keywordEach [] X.env)).all (λx=>x.1.isSome)
   && decide ([e].length+([]:List i0).length+(if ([]:List i0).isEmpty then 0 else 1) < 30))=true:=by exact vS rfl)
  (b:(apos.endLine == cpos.line)=true:=by rfl) (hs:starEach [e] X.env=[(iJ,eval e X.env)]:=by exact qI rfl) :
  PE X (.Call (.Attribute (.Name x px) "remove" apos) [e] [] cpos) (tE C own .sh (Ks i qe7 fe)):=by
 refine jB (Zg bS PySem.F.slot_list_remove PySem.F.type_list_remove qhg (ya r n hd f) (qN (xE p j) jG hs) c w b hs rfl) λσ H Q h=>?_;have q:∀ (a:Addr) (xs:List V) (ds ys:List D) (v:V) (d:D) (F H:Hp),Same F H->H a=iF (.lst xs)->F a=iH->IsL C.K F xs ds->Is C.K F v d->qe7 ds d=.ok ys->(∀ zs,IsL C.K F zs ys->Q .non (upd H a (.lst zs)))->qjr (.ref a) [v] H Q:=λa xs ds ys v d F H t s u ix l g k=>by
  unfold qe7 at g;split at g
  ·rename_i ss y e1;split at g;·rename_i B;cases g;cases l;obtain ⟨hx,hl⟩:=qhh ix e1;subst hx;exact ⟨a,ss,y,rfl,rfl,s,B,k _ (KA λz hz=>hl z (e9 hz))⟩
   ·cases g
  ·cases g
 obtain ⟨a,xs,h1,h2,k⟩:=YT (R:=λx v H Q=>qjr x [v] H Q) o j q h;exact ⟨.ref a,h1,.inl ⟨rfl,xs,.inl (.inl h2)⟩,k⟩
theorem qdu {o e:Expr} {to:TE} {t:TA} {name:Str} {id:String} {r:V->List V->Hp->VK->Prop} (slot:Slot "tuple" name id) (y:typeOf (.builtin id)=pure (.type "method_descriptor")) (m:MtR X id r) (l:PE X o to) (i:PA X [e] t)
  (c:attributeBase o name X.env (eval o X.env)=eval o X.env)
  (w:((backTo cpos (starEach [e] X.env)).all (λx=>!x.1)&&(backToKw cpos (keywordEach [] X.env)).all (λx=>x.1.isSome)
   && decide ([e].length+([]:List i0).length+(if ([]:List i0).isEmpty then 0 else 1) < 30))=iK)
  (b:(apos.endLine == cpos.line)=iK) (hs:starEach [e] X.env=[(iJ,eval e X.env)]) :
  PE X (.Call (.Attribute o name apos) [e] [] cpos) (λσ H Q=>to σ H λx H1=>(∃ p xs,x=.ref p/\SqT X.K H1 p xs)/\t σ H1 λxs H2=>r x xs H2 Q):=by
 refine ⟨?_⟩;intro pins s σ H Q I h;refine wpAny_Call_method_late c w b rfl (thn (l pins s σ H _ I h) λv s1 ⟨x,H1,d,r1,ty,f⟩=>?_);obtain ⟨p,xs,rfl,hq⟩:=ty;cases r1;obtain ⟨o',e1,j⟩:=d.tupleN hq;obtain ⟨its,n,⟨o2,E,g,_⟩,_⟩:=d.tuple hq;refine ⟨"tuple",id,PySem.F.plainAttrs_tuple,slot,y,⟨o2,E,g⟩,λa z=>by cases z; exact ⟨o',e1,j⟩,?_⟩;have hA:=i cpos pins s1 σ H1 _ d f;rw [hs] at hA ⊢;refine dh rfl (dH ?_);exact thn hA λus s2 ⟨vs,H2,k,r2,q⟩=>m pins s2 σ H2 (.ref p) vs _ us Q k rfl r2 q
noncomputable def qcz:D->Bool
 | .tup _=>iK
 | _=>iJ
noncomputable def xp:D->D->Out D
 | .tup ds,e=>match gh 7 e ds with
  | some _=>.ok (.int ((ds.map λd=>eqN 7 d e == iF iK).countP id:Nat))
  | none=>.bad
 | _,_=>.bad
theorem qaE (E:C.K=X.K) (B:X.A.units+64 < cLine):MtD X C .sh "tuple.count" xp:=by
 intro pins s σ H x vs v us Q I k m h;obtain ⟨y,F,dx,g,rfl,f,i,ty,po⟩:=h;rw [E] at i ty;obtain ⟨u,rfl,q⟩:=m.one;unfold xp at po;cases dx <;> try exact po.elim
 rename_i ds;cases e:gh 7 g ds with
 | none=>simp only [e] at po; exact po.elim
 | some b=>simp only [e] at po;obtain ⟨F',g',c,z⟩:=ty.is f;obtain ⟨a,xs,rfl,p,l⟩:=i.tup f;cases k;obtain ⟨its,r,pl,hz⟩:=I.tuple p;obtain ⟨h1,h2⟩:=JE (A:=X.A) (y:=.non) (a:=a) (u:=.none) I B c z q (l.mono g') r e;have D:=UP I c (l.mono g') r e;obtain ⟨⟨cls,dd,data,sl⟩,o,j,n,t⟩:=pl;simp only at j t;subst j t;refine lf PySem.F.slot_tuple_count ⟨_,o,rfl⟩ PySem.F.entry_tuple_count (PySem.F.args_tuple_count_2 _ _) (SeqAt.tuple_countAt a _ n dd sl u (Zk X F' 7 g)) ⟨o,λw hw=>h2 w hw,?_⟩;refine ⟨.int ((ds.map λd=>eqN 7 d g == iF iK).countP id:Nat),H,I.tok _,⟨s.toks,?_⟩,po _ F H f .refl (.int _)⟩;rw [<-D,List.countP_map];rfl
theorem qaF (m:C.K=X.K) (u:X.A.units+64 < cLine)
  (i:PE X a (tE C own ma fa)) (g:PE X b (tE C own mb fb)) (f:ma≠.any:=by decide)
  (c:attributeBase a "count" X.env (eval a X.env)=eval a X.env:=by rfl)
  (w:((backTo cpos (starEach [b] X.env)).all (λx=>!x.1)&&(backToKw cpos (keywordEach [] X.env)).all (λx=>x.1.isSome)
   && decide ([b].length+([]:List i0).length+(if ([]:List i0).isEmpty then 0 else 1) < 30))=true:=by exact vS rfl)
  (e:(apos.endLine == cpos.line)=true:=by rfl) (hs:starEach [b] X.env=[(iJ,eval b X.env)]:=by exact qI rfl) :
  PE X (.Call (.Attribute a "count" apos) [b] [] cpos) (tE C own .sh (dM qcz xp fa fb)):=by
 refine jB (qdu PySem.F.slot_tuple_count PySem.F.type_tuple_count (qaE m u) i (qN g jG hs) c w e hs) λσ H Q h=>?_;obtain ⟨F,ρ,p,h⟩:=qas (ma:=ma) (mb:=mb) f h;refine ⟨F,ρ,p,Po.imp h λx H1 h1=>?_⟩;obtain ⟨⟨F1,dx,s,d,k⟩,h2⟩:=h1;refine ⟨?_,?_⟩
 ·cases dx <;> try (cases k; done)
  obtain ⟨a,vs,rfl,hq,t⟩:=d.tup s;exact ⟨a,vs,rfl,by rw [<-m]; exact hq⟩
 ·obtain ⟨j,ρ2,r,h2⟩:=h2;exact ⟨j,ρ2,r,Po.imp h2 λy H2 q=>⟨y,q.choose,q.choose_spec.choose,q.choose_spec.choose_spec.choose,rfl,q.choose_spec.choose_spec.choose_spec⟩⟩
end
end L2.D2
namespace L2.D2
open PySem PySem.Spec PyProof.Rows PySem.W
variable {N:Nat} {s:iL}
theorem qdv {cmp:Nat->Nat->(Bool->iL->Prop)->iL->Prop} {Q:Nat->iL->Prop} (d:∀ i,i+1 < N->∀ C:Bool->iL->Prop,C iJ s->cmp (i+1) i C s):∀ (f n:Nat),1<=n->n+f<=N->Q (n+f) s->(kas_asc (dL (aK N)) f n).kasWp cmp Q s
 | 0,n,_,_,h=>h
 | f+1,n,h1,h2,h=>by
  obtain ⟨m,rfl⟩:∃ m,n=m+1:=⟨n - 1,by omega⟩
  have e1:(dL (aK N)).getD (m+1) 0=m+1:=by simp [Array.getD,show m+1 < N by omega]
  have e:(dL (aK N)).getD (m+1 - 1) 0=m:=by simp [Array.getD,show m < N by omega]
  show cmp ((dL (aK N)).getD (m+1) 0) ((dL (aK N)).getD (m+1 - 1) 0) _ s;rw [e1,e];refine d m (by omega) _ ?_;have h:Q (m+1+1+f) s:=by rw [show m+1+1+f=m+1+(f+1) by omega]; exact h
  exact qdv d f (m+1+1) (by omega) (by omega) h
theorem qe8 {cmp:Nat->Nat->(Bool->iL->Prop)->iL->Prop} {G:Array Nat->iL->Prop} (a:1<=N) (d:∀ i,i+1 < N->∀ C:Bool->iL->Prop,C iJ s->cmp (i+1) i C s) (h:G (dL (aK N)) s):(kas_sort N).kasWp cmp G s:=by unfold kas_sort kas_count;rw [KasT.kasWp_bind,KasT.kasWp_bind];refine qdv d (N - 1) 1 (aw _) (by omega) ?_;rw [show 1+(N - 1)=N by omega,if_pos (by simp)];show (if N < N then _ else KasT.ret _:KasT (Array Nat)).kasWp cmp G s;rw [if_neg (bM _)];exact h
section
variable {prog:iN} {w:iO} {A:iQ} {E:iI->iL->Prop}
theorem KI {a:Addr} {vs:List iI} {n:Nat} {P:PySem.Fin->iL->Prop} (l:s.heap.get? a=iF (seqObj "list" vs.toArray n)) (j:vs.length < 64)
  (k:2<=vs.length->∀ h':Heap,(∀ b o,b≠a->s.heap.get? b=iF o->h'.get? b=iF o)->∃ κ,(∀ Q:SortKind->iL->Prop,Q κ { s with heap:=h' }->wpAny (model prog w) A (keyKind' vs.toArray) Q (λ_ _=>False) { s with heap:=h' })/\∀ i,i+1 < vs.length->∀ C:Bool->iL->Prop,C iJ { s with heap:=h' }->kas_ask prog w A κ vs (i+1) i C { s with heap:=h' })
  (h:P (.done (.ret .none)) { s with heap:=sortedHeap s.heap a vs vs.toArray }) :
  wpAny (model prog w) A (Builtin.«list.sort» ⟨[.ref a],[]⟩) P E s:=by
 rw [list_sort_plain];have m:a < s.heap.objs.size:=ap l;refine iG (listItems_at l rfl ?_);refine iG (listUpdate_at l rfl ?_ (by rw [aj,iP]; omega) (be _));obtain ⟨e1,ho1⟩:∃ e1,(s.heap.update a (bx λ_=>#[])).get? a=iF (seqObj "list" #[] e1):=⟨_,get?_update_seq l (λ_=>#[])⟩
 refine iG (seqEpoch_at ho1 rfl ?_);refine iG (lA ?_ (by show vs.length<=_; rw [iP]; omega));refine iG (wpAny_newList ?_ (be _));refine iW ?_;have c:(((s.heap.update a (bx λ_=>#[])).push (seqObj "tuple" vs.toArray 0)).push (seqObj "list" #[] 0)).get? a=iF (seqObj "list" #[] e1):=by rw [eJ _ _ _ (by rw [size_push',Heap.size_update]; exact ay (cw m)),eJ _ _ _ (by rw [Heap.size_update]; exact ay m)];exact ho1
 have keep:∀ b o,b≠a->s.heap.get? b=iF o->(((s.heap.update a (bx λ_=>#[])).push (seqObj "tuple" vs.toArray 0)).push (seqObj "list" #[] 0)).get? b=iF o:=λb o y e=>
  aa _ (aa _ (by rw [Heap.get?_update_ne _ _ _ _ y]; exact e))
 show wpAny (model prog w) A _ P E { s with heap:=((s.heap.update a (bx λ_=>#[])).push (seqObj "tuple" vs.toArray 0)).push (seqObj "list" #[] 0) };dsimp only;have hsz:vs.toArray.size=vs.length:=by simp
 have f:(vs.toArray.zip vs.toArray).map (·.2)=vs.toArray:=by apply Array.toList_inj.mp;rw [Array.toList_map,Array.toList_zip];exact List.map_snd_zip (aw _)
 by_cases h2:vs.toArray.size < 2;·rw [if_pos h2,if_pos h2];refine iG (iM ?_);rw [StateT.run_pure];refine iG (iM ?_);dsimp only;have z:arrOf (SortSt.mk' general' (vs.toArray.zip vs.toArray) #[] 7 iH)=vs.toArray.zip vs.toArray:=rfl;refine iG (seqEpoch_at c rfl ?_);rw [z,f];refine iG (listUpdate_at c rfl ?_ (be _) (by rw [hsz,iP]; omega));simp only [bne_self_eq_false,ci,if_false];exact iM h
 ·rw [if_neg h2,if_neg h2];rw [hsz] at h2;obtain ⟨κ,t,v⟩:=k (by omega) _ keep;refine iG (j4 (t (λd s'=>d=κ/\s'={ s with heap:=((s.heap.update a (bx λ_=>#[])).push (seqObj "tuple" vs.toArray 0)).push (seqObj "list" #[] 0) }) ⟨rfl,rfl⟩) (λd s' q=>?_) λ_ _ x=>x.elim);obtain ⟨rfl,rfl⟩:=q;refine iG (j4 (kat_run (Q:=λg s'=>(arrOf g).map (·.2)=vs.toArray/\failedOf g=iH/\s'={ s with heap:=((s.heap.update a (bx λ_=>#[])).push (seqObj "tuple" vs.toArray 0)).push (seqObj "list" #[] 0) })
   (G:=λp s'=>p=dL (aK vs.length)/\s'={ s with heap:=((s.heap.update a (bx λ_=>#[])).push (seqObj "tuple" vs.toArray 0)).push (seqObj "list" #[] 0) })
   rfl (by omega) j (λZ g s' H D B r=>⟨?_,B,r.2⟩) (qe8 (by omega) v ⟨rfl,rfl⟩)) ?_ λ_ _ e=>e)
  ·rw [kat_snds rfl D,r.1];congr 1;refine eI λi=>?_;by_cases hi:i < vs.length;·simp [hi]
   ·simp [hi]
  ·rintro ⟨⟨⟩,g⟩ s' ⟨hp,u,rfl⟩;dsimp only;refine iG (seqEpoch_at c rfl ?_);rw [hp];refine iG (listUpdate_at c rfl ?_ (be _) (by rw [hsz,iP]; omega));rw [u];simp only [bne_self_eq_false,ci,if_false];exact iM h
end
theorem WC:∀ l:List Int,KC (l.map D.int)=iF l
 | []=>rfl
 | x::l=>by show (KC (l.map D.int)).map (x::·)=iF (x::l);rw [WC l];rfl
end L2.D2
namespace L2.D2
open PySem PySem.Spec PyProof.Rows
noncomputable def WD:D->Out D
 | .dct kvs=>.ok (.dct kvs)
 | _=>.bad
variable {X:Cx} {C:Ct}
theorem Xo (m:C.K=X.K):Jr X C .fr (.type "dict") WD:=by
 intro pins s σ H xs us Q I r h;obtain ⟨x,F,dx,rfl,y,t,po⟩:=h;cases dx <;> try exact po.elim
 rename_i ks;have po:PoV C .fr F H (.ok (.dct ks)) Q:=po;obtain ⟨a,kv,rfl,hq,i⟩:=t.dct y;obtain ⟨u,rfl,A⟩:=xR r;cases A;obtain ⟨hz,S,vs,B,hd⟩:=(show ObjOk X.prog X.w H s.heap a (.dK kv) from I.hok a _ hq)
 have hl:=B.length;refine kt_call_dict S hd (by omega) λh' f d=>?_;have kp:∀ b o,s.heap.get? b=iF o->h'.get? b=iF o:=λb o e=>(d.2 b (ay (ap e))).trans (aa _ e);have hp:H s.heap.objs.size=none:=I.hok.fresh (aw _);obtain ⟨s2,c2,E⟩:=vB (u:=.dK kv) y hp;have c:(s.heap.objs.size == sysModules)=false:=beq_eq_false_iff_ne.mpr (cG I.big);exact ⟨.ref s.heap.objs.size,_,I.laid (o:=.dK kv) (t':=s.toks) kp (aw _) (Gy hz c B f),rfl,po _ F _ s2 c2 ⟨_,rfl,hp,E,_,qt,i⟩⟩
noncomputable def qcA {α:Type} (ds:List α) (lo hi:Option Int):List α:=(ds.drop (HT.sIx ds.length 0 lo)).take (HT.sIx ds.length ds.length hi - HT.sIx ds.length 0 lo)
noncomputable def qhi (lo hi:Option Int):D->Out D
 | .lst ds=>.ok (.lst (qcA ds lo hi))
 | _=>.bad
noncomputable def vF (fa:jg) (l u:Option (jg)):jg:=λρ=>(fa ρ).bind λp=>(Ku l p.2).bind λa=>(Ku u a.2).bind λb=>(qhi a.1 b.1 p.1).plain.bind λd=>.ok (d,b.2)
section
variable {own:List Nat} {e:Expr} {fa:jg} {ma:Mo} {pos p2:Pos}
theorem qjs (m:C.K=X.K):SlR X (λx lo hi H Q=>∃ F d,Same F H/\Is C.K F x d/\PoV C .sh F H (qhi lo hi d) Q):=by
 intro pins s σ H x v vl b lo hi sl Q I r hs pl c h;obtain ⟨F,d,y,is,po⟩:=h;cases d with
 | lst ds=>
  cases is with
  | @lst a xs _ hq t=>
   have po:PoV C .sh F H (.ok (.lst (qcA ds lo hi))) Q:=po;refine qeh pins s σ H _ v vl b lo hi sl Q I r hs pl c ⟨a,xs,rfl,by rw [<-m]; exact y.seq hq,λp hp=>?_⟩;obtain ⟨s2,c2⟩:=yg (u:=.lst (qee xs lo hi)) y hp;have w:IsL C.K F (qee xs lo hi) (qcA ds lo hi):=by unfold qee qcA;rw [t.length];exact IsL.take _ (IsL.drop _ t)
   exact po _ _ _ s2 c2 (.lst (.inl (.inl qt)) (w.mono c2.grow))
 | _=>exact po.elim
theorem WE {lo hi:Option Expr} {l u:Option (jg)} (n:C.K=X.K) (j:PE X e (tE C own ma fa)) (hl:PO X lo (tO C own (Ku l))) (i:PO X hi (tO C own (Ku u))) (g:ma≠.any:=by decide):PE X (.Subscript e (.Slice lo hi iH p2) pos) (tE C own .sh (vF fa l u)):=by
 refine jB (qbN (qjs (C:=C) n) (xE j g) hl i) λσ H Q ⟨F,ρ,p,h⟩=>⟨F,ρ,p,Po.bind h λv F1 H1 d ρ1 f q m h1=>?_⟩
 refine ⟨F1,ρ1,f,Po.bindO h1 λo H2 a ρ2 r c2 h2=>⟨o,ρ2,r,Po.bindO h2 λt s b k c G h3=>?_⟩⟩;exact ⟨t,d,c.sub,(m.mono c2.grow).mono G.grow,PoV.of c h3⟩
end
theorem fsc {N P:List Str} {sc:lh} (a:sc.kind=.function:=by rfl) (b:sc.isCoroutine=false:=by rfl) (c:sc.isGenerator=false:=by rfl) (d:N.Nodup:=by decide +kernel) (e:N.take P.length=P:=by rfl) (f:∀ x∈P,sc.names.lookup x=iF .local\/sc.names.lookup x=iF .cell:=by decide +kernel) (g:∀ y∈sc.names,y.2≠.free:=by decide +kernel):FnScope N P sc:=⟨a,b,c,d,e,f,g⟩
end L2.D2
namespace L2.D2
open PySem PySem.Spec PyProof.Rows PySem.W
noncomputable def Jo (H:Hp) (l:List (Addr×List V)):Hp:=λb=>match l.lookup b with
 | some xs=>iF (.tup xs)
 | none=>H b
variable {α:Type}
theorem qaG {x:Addr} {a:α}:∀ {l:List (Addr×α)},l.lookup x=iF a->(x,a)∈l
 | [],h=>by simp at h
 | (n,k)::r,h=>by
  rw [bG] at h;by_cases e:(x == n)=iK
  ·rw [e] at h;have h:iF k=iF a:=h;cases h;have:x=n:=by simpa using e
   rw [this];exact aq ..
  ·rw [Bool.not_eq_true] at e;rw [e] at h;exact af _ (qaG h)
variable {H:Hp} {l:List (Addr×List V)}
theorem gX {b:Addr} (h:∀ p∈l,p.1≠b):Jo H l b=H b:=by
 unfold Jo;cases e:l.lookup b with
 | none=>rfl
 | some xs=>exact absurd rfl (h _ (qaG e))
theorem ko {b:Addr} {o:HO} (n:∀ p∈l,H p.1=iH) (e:H b=iF o):Jo H l b=iF o:=by rw [gX λp hp q=>?_,e];have:=n p hp;rw [q,e] at this;cases this
variable {X:Cx} {pins:Pns} {σ:St} {F:Hp} {s:iL} {h':Heap}
section
theorem Inv.lays {t':Nat} (I:Inv X pins σ H s) (k:∀ b u,s.heap.get? b=iF u->h'.get? b=iF u) (hp:∀ p∈l,s.heap.objs.size<=p.1)
  (new:∀ b xs,l.lookup b=iF xs->(xs.length<=sizeLine/\∃ o,h'.get? b=iF o/\o.dict=iH)/\∃ its:List iI,Vals xs its/\IsTup h' b its.toArray):Inv X pins σ (Jo H l) { s with heap:=h',toks:=t' }:=by
 have h:∀ p∈l,H p.1=none:=λp hq=>I.hok.fresh (hp p hq);refine I.un ⟨λb u q _ _ _=>k b u q,λb u q _ _ _=>⟨u.slots,k b u q⟩,λb u q n _=>?_,λb u q _=>⟨u,k b u q⟩,λb xs q=>ko h q,λb u xs q=>ko h q,λb ps q=>⟨#[],by rw [ko h q]; simp⟩⟩ λb u e=>?_
 ·rw [gX λp hq z=>?_];·exact n
  ·exact absurd (ap q) (by rw [<-z]; exact Nat.not_lt.mpr (hp p hq))
 ·cases q:l.lookup b with
  | some xs=>have e:Jo H l b=iF u:=e;unfold Jo at e;rw [q] at e;cases e;exact new b xs q
  | none=>have e:Jo H l b=iF u:=e;unfold Jo at e;rw [q] at e;exact (I.hok b u e).stay (λc v _ q=>k c v q) (λc q=>ko h q) λc xs q=>ko h q
theorem Xp (y:Same F H) (n:∀ p∈l,H p.1=iH):Same (Jo F l) (Jo H l)/\Chg No F H (Jo F l) (Jo H l):=by
 have E:∀ p∈l,F p.1=none:=λp hp=>by
  cases q:F p.1 with
  | none=>rfl
  | some o=>have:=n p hp;rw [y _ o q] at this;cases this
 refine ⟨λb o e=>?_,⟨λb o e _=>ko n e,λb e=>?_,λb o e=>ko E e,λb e=>?_⟩⟩
 ·unfold Jo at e ⊢;cases q:l.lookup b with
  | some xs=>rw [q] at e; exact e
  | none=>rw [q] at e; exact y b o e
 ·cases q:H b with
  | none=>exact absurd q e
  | some o=>rw [ko n q]; simp
 ·cases q:l.lookup b with
  | some xs=>exact .inr (.inl (n _ (qaG q)))
  | none=>have e:Jo F l b≠none:=e;unfold Jo at e;rw [q] at e;exact .inl e
end
variable {prog:iN} {w:iO} {A:iQ} {E:iI->iL->Prop}
section
theorem WF {K:Type} [DecidableEq K] {knd:KeyKind prog w K} {r d:Addr} {kvs:List (K×iI)} {ep:Nat} {Q:iI->iL->Prop} (u:A.handled=iH) (v:s.heap.IsItemsView r d) (q:s.heap.DictAt knd d kvs ep) (g:kvs.length < 64)
  (c:2<=kvs.length->∀ (as:List Addr) (s':iL) (p:iQ),as.length=kvs.length->KdxG knd kvs s.heap.objs.size s'.heap as->∃ κ,(∀ Q:SortKind->iL->Prop,Q κ s'->wpAny (model prog w) p (keyKind' (as.map aI).toArray) Q (λ_ _=>False) s')/\∀ i,i+1 < kvs.length->∀ C:Bool->iL->Prop,C iJ s'->kas_ask prog w p κ (as.map aI) (i+1) i C s')
  (z:∀ (h1 h':Heap) (tk e:Nat) (as:List Addr),(∀ b o,s.heap.get? b=iF o->h1.get? b=iF o)->(∀ b o,h1.get? b=iF o->h'.get? b=iF o)->as.length=kvs.length->KdxG knd kvs s.heap.objs.size h1 as->h'.get? h1.objs.size=iF (seqObj "list" (as.map aI).toArray e)->Q (.ref h1.objs.size) { s with heap:=h',toks:=tk }) :
  wpAny (model prog w) A (call (.builtin "sorted") [.ref r]) Q E s:=by
 refine Calls.call_function_entry kind_sorted plain_sorted entry_sorted (args_sorted1 _) ?_; unfold Builtin.«sorted»;refine iG (m:=checkCount "sorted" 1 1 _) (iM ?_);refine iG (kdx_collect (A:=A.in1) (knd:=knd) (kvs:=kvs) (ep:=ep) u v q (by rw [iP]; omega) λh1 tk as k1 hl G=>?_);have h:(as.map aI).length=kvs.length:=by rw [ai]; exact hl
 refine iG (wpAny_newList ?_ (by rw [h,iP]; omega));have W:(h1.push (seqObj "list" (as.map aI).toArray 0)).get? h1.objs.size=iF (seqObj "list" (as.map aI).toArray 0):=ah _ rfl;have Y:∀ h2:Heap,(∀ b o,b≠h1.objs.size->(h1.push (seqObj "list" (as.map aI).toArray 0)).get? b=iF o->h2.get? b=iF o)->KdxG knd kvs s.heap.objs.size h2 as:=λh2 k2=>
  ⟨G.rise,G.above,λj a t=>by obtain ⟨key,k,x,e1,B,n⟩:=G.pairs j a t;exact ⟨key,k,x,e1,B,k2 a _ (ay (ap n)) (aa _ n)⟩⟩
 refine iG (iW (iS slot_list_sort (s:={ s with heap:=h1.push (seqObj "list" (as.map aI).toArray 0),toks:=tk }) ⟨_,W,rfl⟩ entry_list_sort (KI W (by rw [h]; exact g) (λf h2 k2=>by rw [h] at f ⊢;exact c f as { s with heap:=h2,toks:=tk } _ hl (Y h2 k2)) ⟨_,rfl,?_⟩) (args_list_sort _)));obtain ⟨e,y⟩:=sortedHeap_at (out:=(as.map aI).toArray) W;refine iM ⟨_,rfl,z h1 _ tk e as k1 (λb o D=>?_) hl G y⟩;have l:=ap D;rw [sortedHeap_old (ay l) (by rw [ba]; exact cw l)];exact aa _ D
end
noncomputable def kD:Key->D
 | .inl i=>.int i
 | .inr x=>.str x
noncomputable def qe9:List Str->Bool
 | x::y::r=>decide (y≠x)&&!decide (y.cps.toList < x.cps.toList)&&qe9 (y::r)
 | _=>iK
theorem qaH:∀ {ss:List Str},qe9 ss=iK->∀ i x y,ss[i]?=iF x->ss[i+1]?=iF y->y≠x/\¬y.cps.toList < x.cps.toList
 | [],_,i,x,y,h1,_=>by simp at h1
 | [_],_,i,x,y,_,h2=>by simp at h2
 | a::b::r,h,i,x,y,h1,h2=>by
  unfold qe9 at h;simp only [aM,decide_eq_true_eq,eG,decide_eq_false_iff_not] at h;cases i with
  | zero=>cases h1;cases h2;exact h.1
  | succ i=>exact qaH h.2 i x y h1 h2
noncomputable def Xq (kvs:List (Key×D)):List D:=kvs.map λkv=>.tup [kD kv.1,kv.2]
noncomputable def vz:D->Out D
 | .dct kvs=>(match UQ kvs with
  | some ss=>if ss.length < 64/\qe9 ss=iK/\(ss.all λy=>decide (y.length<=sizeLine))=iK then .ok (.lst (Xq kvs)) else .bad
  | none=>.bad)
 | _=>.bad
theorem qdw {κ:Type}:∀ {kv:List (κ×V)} {vs:List (κ×iI)},KV kv vs->∀ (j:Nat) (k:κ) (x:iI),vs[j]?=iF (k,x)->∃ v,kv[j]?=iF (k,v)/\RelV v x
 | _,_,.nil,j,k,x,h=>by simp at h
 | _,_,.cons (a:=p) (b:=q) r t,j,k,x,h=>by
  cases j with
  | zero=>cases h;obtain ⟨p1,p2⟩:=p;obtain ⟨rfl,r2⟩:=r;exact ⟨p2,rfl,r2⟩
  | succ j=>exact qdw t j k x h
theorem qaI:∀ {as:List Addr} {ys:List α} {b:Addr} {y:α},(as.zip ys).lookup b=iF y->∃ j:Nat,as[j]?=iF b/\ys[j]?=iF y
 | [],_,b,y,h=>by simp at h
 | _::_,[],b,y,h=>by simp at h
 | a::as,z::ys,b,y,h=>by
  rw [fH,bG] at h;by_cases e:(b == a)=iK
  ·rw [e] at h;have h:iF z=iF y:=h;cases h;have:b=a:=by simpa using e
   rw [this];exact ⟨0,rfl,rfl⟩
  ·rw [Bool.not_eq_true] at e;rw [e] at h;obtain ⟨j,h1,h2⟩:=qaI h;exact ⟨j+1,h1,h2⟩
theorem qaJ:∀ {as:List Addr} {ys:List α} {j:Nat} {b:Addr} {y:α},as.Nodup->as[j]?=iF b->ys[j]?=iF y->(as.zip ys).lookup b=iF y
 | [],_,j,b,y,_,h,_=>by simp at h
 | _::_,[],j,b,y,_,_,h=>by simp at h
 | a::as,z::ys,0,b,y,_,h1,h2=>by cases h1;cases h2;rw [fH,bG];simp
 | a::as,z::ys,j+1,b,y,n,h1,h2=>by
  rw [fH,bG];have n:=aR.mp n;have:(b == a)=false:=by rw [beq_eq_false_iff_ne];intro q;rw [q] at h1;exact n.1 (ff.mpr ⟨j,h1⟩)
  rw [this];exact qaJ n.2 h1 h2
theorem QO:∀ as:List Addr,Vals (as.map V.ref) (as.map aI)
 | []=>.nil
 | _::as=>.cons rfl (QO as)
variable {K:Frag} {F':Hp}
theorem WG (g:Same F F'):∀ {kv:List (Key×V)} {ks:List (Key×D)} {as:List Addr},IsK K F kv ks->as.length=kv.length->(∀ k∈ks.map (·.1),∃ x:Str,k=.inr x/\x.length<=sizeLine) ->(∀ (j:Nat) (a:Addr) (p:Key×V),as[j]?=iF a->kv[j]?=iF p->F' a=iF (.tup [kV p.1,p.2]))->IsL K F' (as.map V.ref) (Xq ks)
 | _,_,[],.nil,_,_,_=>.nil
 | _,_,_::_,.nil,h,_,_=>by simp at h
 | _,_,[],.cons _ _,h,_,_=>by simp at h
 | _,_,a::as,.cons (k:=k) (v:=v) (d:=d) h t,hl,hk,hF=>by obtain ⟨x,rfl,hx⟩:=hk _ (aq ..);have e:=hF 0 a (.inr x,v) rfl rfl;exact .cons (.tup (.inl (.inl e)) (.cons (.str hx) (.cons (h.mono g) .nil))) (WG g t (by simpa using hl) (λk b=>hk k (af _ b)) λj a p h1 h2=>hF (j+1) a p h1 h2)
variable {C:Ct} {own:List Nat} {ma:Mo}
section
variable {o:Expr} {fa:jg} {pos p apos cpos:Pos}
theorem WI (hK:C.K=X.K) (hc:X.calm=iK) (hg:Gl X "sorted") (hm:X.mg "sorted"=iH) (c:bootBuiltins "sorted"=iF (.builtin "sorted")) (ha:PE X o (tE C own ma fa))
  (m:attributeBase o "items" X.env (eval o X.env)=eval o X.env:=by rfl) (g:(apos.endLine == cpos.line)=true:=by rfl)
  (he2:starEach [.Call (.Attribute o "items" apos) [] [] cpos] X.env=[(iJ,eval (.Call (.Attribute o "items" apos) [] [] cpos) X.env)]:=by exact qI rfl) :
  PE X (.Call (.Name "sorted" p) [.Call (.Attribute o "items" apos) [] [] cpos] [] pos) (tE C own .fr (d1 vz fa)):=by
 refine ⟨?_⟩;intro pins s σ H Q I h;refine i3 (xQ I hg hm c ?_ (by decide) (by decide));rw [he2];refine dh rfl (dH (fF ?_));refine wpAny_Call_method m rfl g PySem.F.plainAttrs_dict PySem.F.slot_dict_items PySem.F.type_dict_items (thn (ha pins s σ H _ I (VW (ma:=ma) h)) λu s1 ⟨x,H1,S,rx,F,dx,sb,tx,po⟩=>?_);cases dx with
 | dct kvs=>
  obtain ⟨a,kv,rfl,hH,Z⟩:=tx.dct sb;obtain rfl:u=aI a:=rx;obtain ⟨t1,t2,f⟩:=qgx S (.inl ⟨kv,.inl hH⟩);refine ⟨t1,t2,?_⟩;refine dh rfl (PySem.evalArgs_none ?_);cases q:UQ kvs with
  | none=>simp only [vz,q] at po; exact po.elim
  | some ss=>
   simp only [vz,q] at po;by_cases hl:ss.length < 64/\qe9 ss=iK/\(ss.all λy=>decide (y.length<=sizeLine))=iK
   ·rw [if_pos hl] at po;obtain ⟨l1,l2,l3⟩:=hl;obtain ⟨hz,f,vs,rel,dd⟩:=(show ObjOk X.prog X.w H1 s1.heap a (.dK kv) from S.hok a _ hH)
    have hk:vs.map (·.1)=ss.map ck:=by rw [<-KV.keys rel,Z.keys,Xn q]
    have hlen:vs.length=ss.length:=by have:=congrArg h8 hk; simpa using this
    have hlk:kv.length=vs.length:=rel.length;refine call_meetsIn PySem.F.slot_dict_items dd.typeIs PySem.F.entry_dict_items (PySem.F.args_dict_items_1 _) (meets_dict_items (qZ X.prog X.w) a f) ⟨⟨vs,dd⟩,?_⟩;refine fJ ?_;obtain ⟨ep,da⟩:=dd.dictAt;have J:∀ (j:Nat) (k:Key) (x:iI),vs[j]?=iF (k,x)->∃ y,ss[j]?=iF y/\k=.inr y:=λj k x e=>by
     have E:(vs.map (·.1))[j]?=iF k:=by rw [aG,e]; rfl
     rw [hk,aG] at E;obtain ⟨y,R,A⟩:=aP.mp E;exact ⟨y,R,A.symm⟩
    have r:∀ {lo:Addr} {h:Heap} {as:List Addr},KdxG (qZ X.prog X.w) vs lo h as->∀ (j:Nat) (b:Addr),as[j]?=iF b->∃ y t x,ss[j]?=iF y/\vs[j]?=iF (.inr y,x)/\h.get? b=iF { cls:=.type "tuple",data:=.seq #[.str y t,x] }:=λG j b hj=>by
     obtain ⟨key,k,x,e1,e2,E⟩:=G.pairs j b hj;obtain ⟨y,R,rfl⟩:=J j k x e1;rcases jo (show Qf (ck y) key=iK from e2) with ⟨i,t,A,_⟩ | ⟨z,t,A,rfl⟩
     ·cases A
     ·cases A;exact ⟨_,t,x,R,e1,E⟩
    refine WF (knd:=qZ X.prog X.w) (d:=a) (kvs:=vs) (ep:=ep) (I.ok.hd hc) ⟨_,ah _ rfl,rfl,rfl⟩ (da.push _) (by omega) (λh2 as s' A' hla n=>?_) λh1 h' tk e as k1 k2 hla n hp=>?_
    ·refine ⟨tuples' iK,λQ' hQ'=>?_,λi hi C' hC=>?_⟩
     ·obtain ⟨fs,f1,f2,P⟩:∃ fs:List iI,KatTups s'.heap (as.map aI) fs/\fs.length=as.length/\∀ v∈fs,∃ y t,v=dt y t:=by
       have go:∀ (l:List Addr),(∀ b∈l,∃ y t x,s'.heap.get? b=iF { cls:=.type "tuple",data:=.seq #[dt y t,x] })->∃ fs:List iI,KatTups s'.heap (l.map aI) fs/\fs.length=l.length/\∀ v∈fs,∃ y t,v=dt y t:=by
        intro l
        induction l with
        | nil=>intro _; exact ⟨[],.nil,rfl,λv c=>by cases c⟩
        | cons b l ih=>
         intro c;obtain ⟨y,t,x,ho⟩:=c b (aq ..);obtain ⟨fs,f1,f2,P⟩:=ih λW h'=>c W (af _ h');refine ⟨dt y t::fs,.cons ho rfl rfl (by simp) f1,by simp [f2],λW h'=>?_⟩;rcases ae.mp h' with rfl | h';·exact ⟨_,_,rfl⟩
         ·exact P W h'
       refine go as λb O=>?_;obtain ⟨j,hj⟩:=ff.mp O;obtain ⟨y,t,x,_,_,E⟩:=r n j b hj;exact ⟨y,t,x,E⟩
      refine kat_kind (T:=.type "str") f1 (by omega) (λv c=>?_) (by decide) hQ';obtain ⟨y,t,rfl⟩:=P v c;exact .now
     ·have M:as[i+1]?=iF (as[i+1]'(by omega)):=aA _;have N:as[i]?=iF (as[i]'(by omega)):=aA _;obtain ⟨y1,u1,x1,g1,_,g2⟩:=r n (i+1) _ M;obtain ⟨y0,u0,x0,g3,_,g4⟩:=r n i _ N;obtain ⟨n1,n2⟩:=qaH l2 i y0 y1 g3 g1;unfold kas_ask;rw [show (as.map aI).getD (i+1) .none=.ref (as[i+1]'(by omega)) by rw [bZ,aG,M]; rfl,show (as.map aI).getD i .none=.ref (as[i]'(by omega)) by rw [bZ,aG,N]; rfl];refine kat_lt g2 rfl g4 rfl (kat_cons (wpAny_eqBool_str ?_));rw [decide_eq_false n1];refine kat_no (oneLt_str ?_);rw [decide_eq_false n2];exact hC
    ·have B:∀ b o,s1.heap.get? b=iF o->h1.get? b=iF o:=λb o eb=>k1 b o (aa _ eb);have hsz:(s1.heap.push { cls:=.type "dict_items",data:=.fields #[.ref a] }).objs.size=s1.heap.objs.size+1:=ba ..;have hab:∀ b∈as,s1.heap.objs.size<=b:=λb O=>by have:=n.above b O;have this:(s1.heap.push { cls:=.type "dict_items",data:=.fields #[.ref a] }).objs.size < b:=this;rw [hsz] at this;exact cF (fL this)
     have hnd:as.Nodup:=n.rise.imp λz=>ay z;have hlz:as.length=(kv.map λp=>[kV p.1,p.2]).length:=by rw [ai]; omega
     have D:∀ q∈as.zip (kv.map λp=>[kV p.1,p.2]),s1.heap.objs.size<=q.1:=λq hq=>hab _ (cM hq).1;have I2:Inv X pins σ (Jo H1 (as.zip (kv.map λp=>[kV p.1,p.2]))) { s1 with heap:=h1,toks:=tk }:=Inv.lays S B D λb xs O=>by obtain ⟨j,Y,U⟩:=qaI O;obtain ⟨y,t,x,e1,e2,E⟩:=r n j b Y;obtain ⟨v,R,A⟩:=qdw rel j _ x e2;rw [aG,R] at U;cases U;exact ⟨⟨by show 2<=_; rw [iP]; decide,_,E,rfl⟩,[.str y t,x],.cons ⟨t,rfl⟩ (.cons A .nil),_,E,rfl,_,rfl⟩
     have hq0:H1 h1.objs.size=none:=(S.kept (t':=tk) B).hok.fresh (aw _);have hq2:Jo H1 (as.zip (kv.map λp=>[kV p.1,p.2])) h1.objs.size=none:=I2.hok.fresh (aw _);obtain ⟨s2,c2⟩:=Xp (l:=as.zip (kv.map λp=>[kV p.1,p.2])) sb λq hq=>S.hok.fresh (D q hq);obtain ⟨s3,c3,P⟩:=vB (u:=.lst (as.map V.ref)) s2 hq2;have il:=WG (as:=as) c2.grow Z (by omega) (λk L=>by
      rw [<-Z.keys,KV.keys rel,hk] at L;obtain ⟨y,hy,rfl⟩:=ax.mp L;exact ⟨y,rfl,of_decide_eq_true (aL.mp l3 y hy)⟩) λj b q Y U=>by
      unfold Jo;rw [qaJ hnd Y (by rw [aG,U]; rfl)]
     exact ⟨.ref h1.objs.size,_,I2.laid (t':=tk) (o:=.lst (as.map V.ref)) k2 (aw _) ⟨by rw [ai,iP]; omega,as.map aI,e,QO as,by simpa [seqObj] using hp⟩,rfl,po _ _ _ s3 (c2.trans' c3) ⟨_,rfl,hq0,P,_,qt,il⟩⟩
   ·rw [if_neg hl] at po; exact po.elim
 | _=>exact po.elim
end
variable {z:Addr} {i:Nat} {Q:Bool->iL->Prop}
section
variable {TI TO i1 i2:Addr} {fp1 fp2:List Addr} {n1 n2:Nat} {P1 P2:Nat->iI->Prop} {S1 S2:Nat->Heap->Prop} {a b:iI}
abbrev xq (h:Heap) (z TI TO:Addr) (p:Nat):Prop:=∃ c:Bool,h.get? z=iF { cls:=.type "zip",dict:=iH,data:=.fields #[rawInt p,.bool c,.bool iJ,.ref TI,.ref TO],slots:=#[] }
theorem Xr {p:Nat} (hz:xq s.heap z TI TO p) (hp:∃ o,s.heap.get? p=iF o) (h:∀ h',xq h' z TI TO p->bj z s.heap h'->Q iJ { s with heap:=h' }):wpAny (model prog w) A (aS (.ref z)) Q E s:=by
 obtain ⟨c,hz⟩:=hz;obtain ⟨o,a⟩:=hp;unfold aS;refine iG (iV hz rfl (x:=rawInt p) rfl ?_);show wpAny _ _ (loadIfAlive (Int.toNat p) >>= _) _ _ _;rw [dE];refine iG (kdx_alive a ?_);rw [if_neg (by simp)];refine iG (iV hz rfl (x:=.bool c) rfl ?_);cases c with
 | true=>rw [if_neg (by decide)];exact iM (h s.heap ⟨iK,hz⟩ ⟨rfl,λ_ _=>rfl⟩)
 | false=>rw [if_pos (by decide)];refine iG (j0 hz (by simp) λh₁ r l=>iM (h h₁ ⟨iK,r⟩ l))
theorem qaK {p:Nat} {Q:iI->iL->Prop} (D:Apart2 z TI TO i1 i2 fp1 fp2) (b:lq prog w A i1 fp1 n1 P1 S1) (P:lq prog w A i2 fp2 n2 P2 S2)
  (hz:xq s.heap z TI TO p) (hp:∃ o,s.heap.get? p=iF o) (Y:iX s.heap TI (.ref i1) (.ref i2)) (h1:S1 i s.heap) (h2:S2 i s.heap) (m:i < n1) (j:i < n2)
  (n:∀ x y h' tk,P1 i x->P2 i y->xq h' z TI TO p->S1 (i+1) h'->S2 (i+1) h'->iX h' s.heap.objs.size x y ->(∀ c o,c≠z->c≠i1->c≠i2->s.heap.get? c=iF o->h'.get? c=iF o)->Q (.ref s.heap.objs.size) { s with heap:=h',toks:=tk }) :
  wpAny (model prog w) A (Builtin.«zip.__next__» ⟨[.ref z],[]⟩) (λfin s'=>∃ v,fin=.done (.ret v)/\Q v s') E s:=by
 obtain ⟨u,a⟩:=id hz;show wpAny _ _ (field (.ref z) 2 >>= _) _ _ _; refine iG (iV a rfl (x:=.bool iJ) rfl ?_);show wpAny _ _ (field (.ref z) 3 >>= _) _ _ _; refine iG (iV a rfl (x:=.ref TI) rfl ?_); refine iG (iT Y rfl ?_);show wpAny _ _ (aS (.ref z) >>= _) _ _ _;refine iG (Xr hz hp λh₁ r l=>?_);simp only [ci,if_false];refine iG ?_;rw [<-Array.forIn_toList];simp only [dW,fG];refine iG (iG (iW ?_)); show wpAny _ _ (aQ (.ref i1) >>= _) _ _ _;refine iG (b.item i _ _ _ m (b.frame _ _ _ h1 λc d o e=>l.extBut _ _ (λq=>D.z1 (q ▸ d)) e) λx f W hx N k=>iM ?_);refine iM ?_;refine iG (iG (iW ?_)); show wpAny _ _ (aQ (.ref i2) >>= _) _ _ _;refine iG (P.item i _ _ _ j (P.frame _ _ _ h2 λc d o e=>(k.2 _ (λq=>D.a12 (q ▸ d))).trans (l.extBut _ _ (λq=>D.z2 (q ▸ d)) e)) λy h L B M g=>iM ?_);refine iM (iM ?_);show wpAny _ _ (newTuple [x,y] >>= _) _ _ _;refine iG (lA ?_);have hsz:h.objs.size=s.heap.objs.size:=by rw [g.1,k.1,l.1]
 refine iM ⟨_,rfl,?_⟩;show Q (.ref h.objs.size) _;rw [hsz];have up:∀ c o,h.get? c=iF o->(h.push { cls:=.type "tuple",data:=.seq #[x,y] }).get? c=iF o:=λc o e=>aa _ e;obtain ⟨t,r⟩:=r;refine n x y _ L hx B ⟨t,up _ _ ((g.2 _ D.i2z.symm).trans ((k.2 _ D.i1z.symm).trans r))⟩ (b.frame _ _ _ N λc d o e=>up _ _ ((g.2 _ (λq=>D.a21 (q ▸ d))).trans e)) (P.frame _ _ _ M λc d o e=>up _ _ e) (by rw [<-hsz]; exact ah _ rfl) λc o k1 k2 k3 e=>up c o ((g.2 _ k3).trans ((k.2 _ k2).trans (l.extBut _ _ k1 e)))
theorem qcB {p:Nat} {Q:Fin->iL->Prop} (D:Apart2 z TI TO i1 i2 fp1 fp2) (M:lq prog w A i1 fp1 n1 P1 S1) (P:lq prog w A i2 fp2 n2 P2 S2)
  (hz:xq s.heap z TI TO p) (hp:∃ o,s.heap.get? p=iF o) (Y:iX s.heap TI (.ref i1) (.ref i2)) (h1:S1 i s.heap) (h2:S2 i s.heap) (y:i=n1\/(i < n1/\i=n2))
  (j:∀ h' tk e,(∀ c o,c≠z->c≠i1->c≠i2->s.heap.get? c=iF o->h'.get? c=iF o)->(∃ o,h'.get? e=iF o/\o.cls=.type "StopIteration")->E (.ref e) { s with heap:=h',toks:=tk }) :
  wpAny (model prog w) A (Builtin.«zip.__next__» ⟨[.ref z],[]⟩) Q E s:=by
 obtain ⟨m,b⟩:=id hz;show wpAny _ _ (field (.ref z) 2 >>= _) _ _ _; refine iG (iV b rfl (x:=.bool iJ) rfl ?_);show wpAny _ _ (field (.ref z) 3 >>= _) _ _ _; refine iG (iV b rfl (x:=.ref TI) rfl ?_); refine iG (iT Y rfl ?_);show wpAny _ _ (aS (.ref z) >>= _) _ _ _;refine iG (Xr hz hp λh₁ r l=>?_);simp only [ci,if_false];refine iG ?_;rw [<-Array.forIn_toList];simp only [dW,fG];refine iG (iG (iW ?_)); show wpAny _ _ (aQ (.ref i1) >>= _) _ _ _;have f1:S1 i h₁:=M.frame _ _ _ h1 λc d o e=>l.extBut _ _ (λq=>D.z1 (q ▸ d)) e;rcases y with rfl | ⟨hlt,rfl⟩
 ·refine iG (M.done _ _ _ f1 λh e k f=>?_);exact j h s.toks e (λc o k1 k2 _ x=>k _ _ k2 (l.extBut _ _ k1 x)) f
 ·refine iG (M.item i _ _ _ hlt f1 λx h W hx N k=>iM ?_);refine iM ?_;refine iG (iG (iW ?_)); show wpAny _ _ (aQ (.ref i2) >>= _) _ _ _;refine iG (P.done _ _ _ (P.frame _ _ _ h2 λc d o e=>(k.2 _ (λq=>D.a12 (q ▸ d))).trans (l.extBut _ _ (λq=>D.z2 (q ▸ d)) e)) λa e g f=>?_);exact j a W e (λc o k1 k2 k3 x=>g _ _ k3 ((k.2 _ k2).trans (l.extBut _ _ k1 x))) f
theorem WJ {p:Nat} {Q:Option iI->iL->Prop} (D:Apart2 z TI TO i1 i2 fp1 fp2) (M:lq prog w A.in1 i1 fp1 n1 P1 S1) (P:lq prog w A.in1 i2 fp2 n2 P2 S2)
  (hz:xq s.heap z TI TO p) (hp:∃ o,s.heap.get? p=iF o) (Y:iX s.heap TI (.ref i1) (.ref i2)) (h1:S1 i s.heap) (h2:S2 i s.heap) (a:i < n1) (l:i < n2)
  (h:∀ x y h' tk,P1 i x->P2 i y->xq h' z TI TO p->S1 (i+1) h'->S2 (i+1) h'->iX h' s.heap.objs.size x y ->(∀ c o,c≠z->c≠i1->c≠i2->s.heap.get? c=iF o->h'.get? c=iF o)->Q (iF (.ref s.heap.objs.size)) { s with heap:=h',toks:=tk }):wpAny (model prog w) A (pyNext (.ref z)) Q E s:=by
 have hT:s.TypeIs (.ref z) "zip":=let ⟨_,e⟩:=hz; ⟨_,e,rfl⟩
 unfold pyNext;exact iG (i6 (iR (name:=ac "__next__") hT bz (iS bz hT dm
  (qaK D M P hz hp Y h1 h2 a l λx y h' tk m g f d b k j=>iM (h x y h' tk m g f d b k j)) (c9 _))))
theorem US {p:Nat} {Q:Option iI->iL->Prop} (D:Apart2 z TI TO i1 i2 fp1 fp2) (M:lq prog w A.in1 i1 fp1 n1 P1 S1) (P:lq prog w A.in1 i2 fp2 n2 P2 S2)
  (hz:xq s.heap z TI TO p) (hp:∃ o,s.heap.get? p=iF o) (Y:iX s.heap TI (.ref i1) (.ref i2)) (h1:S1 i s.heap) (h2:S2 i s.heap) (y:i=n1\/(i < n1/\i=n2))
  (a:∀ h' tk,(∀ c o,c≠z->c≠i1->c≠i2->s.heap.get? c=iF o->h'.get? c=iF o)->Q iH { s with heap:=h',toks:=tk }):wpAny (model prog w) A (pyNext (.ref z)) Q E s:=by
 have hT:s.TypeIs (.ref z) "zip":=let ⟨_,e⟩:=hz; ⟨_,e,rfl⟩
 unfold pyNext;refine iG (i6 (iR (name:=ac "__next__") hT bz (iS bz hT dm (qcB D M P hz hp Y h1 h2 y λh' tk e k h=>?_) (c9 _))));obtain ⟨o,l,d⟩:=h;refine iG (j5 (T := "StopIteration") (b:=iK) ⟨o,l,d⟩ lz ?_);exact iM (a _ _ k)
end
theorem ad {x y:Nat} (h:x < y\/y < x):x≠y:=by omega
def N4 (b q:Nat):Prop:=q≠b+4/\q≠b+3/\q≠b/\q≠b+1
variable {b:Nat}
theorem lo4 {q:Nat} (h:q < b):N4 b q:=by unfold N4; omega
theorem hi4 {q:Nat} (h:b+4 < q):N4 b q:=by unfold N4; omega
theorem mi4:N4 b (b+2):=by unfold N4; omega
structure ZG (xs ys:Array iI) (lo:Nat) (h:Heap) (as:List Addr):Prop where
 rise:as.Pairwise (· < ·)
 above:∀ a∈as,lo < a
 pairs:∀ (j:Nat) (a:Addr),as[j]?=iF a->∃ x y,xs[j]?=iF x/\ys[j]?=iF y/\iX h a x y
variable {xs ys:Array iI}
theorem ZG.mono {lo:Nat} {h:Heap} {as:List Addr} (g:ZG xs ys lo h as) (k:∀ c o,lo < c->h.get? c=iF o->h'.get? c=iF o):ZG xs ys lo h' as:=
 ⟨g.rise,g.above,λj a D=>by obtain ⟨x,y,e1,i,E⟩:=g.pairs j a D;exact ⟨x,y,e1,i,k _ _ (g.above a (cT D)) E⟩⟩
def ZSt (h:Heap) (b i:Nat) (as:List Addr):Prop:=(i=0/\lr h (b+4) (b+2) (b+3) .none/\∃ u v,iX h (b+3) u v)\/∃ p,as[0]?=iF p/\xq h (b+4) (b+2) (b+3) p
variable {a:Addr}
theorem ItK.at {h:Heap} {it:Addr} {k:SK} (x:ItK h it a k i) (f:∀ o,h.get? it=iF o->h'.get? it=iF o):ItK h' it a k i:=by obtain ⟨o,e,c,d⟩:=x.obj;exact .of ⟨o,f _ e,c,d⟩
section
variable {R:lF->iL->Prop}
theorem qcC {E C S:Nat} {k1 k2:SK} {ys:Array iI} (hh:A.handled=iH) (h1:E < b) (h2:C < b) (r:b+4 < S) (hn:xs.size<=sizeLine) (res:iI) {h₁:Heap}
  (hR:∀ h' tk acc c as,(∀ q o,q < b->h₁.get? q=iF o->h'.get? q=iF o)->h'.get? S=iF { cls:=.type "list",dict:=iH,data:=.seq acc c,slots:=#[] }->as.length=min xs.size ys.size->ZG xs ys S h' as ->acc.toList=as.map aI->R (.ok (.ret res)) { s with heap:=h',toks:=tk }) :
  ∀ (k i:Nat) (h:Heap) (tk c:Nat) (acc:Array iI) (as:List Addr),min xs.size ys.size - i=k->i<=min xs.size ys.size->ZSt h b i as->iX h (b+2) (.ref b) (.ref (b+1))->ItK h b E k1 i->ItK h (b+1) C k2 i->SeqK h E k1 xs->SeqK h C k2 ys ->(∀ q o,q < b->h₁.get? q=iF o->h.get? q=iF o)->h.get? S=iF { cls:=.type "list",dict:=iH,data:=.seq acc c,slots:=#[] }->acc.toList=as.map aI->as.length=i->ZG xs ys S h as ->codeAny (model prog w) A (.builtin "list.extend.loop" ⟨[.ref S,.ref (b+4),res],[]⟩) R { s with heap:=h,toks:=tk }:=by
 have D:=QE b E C h1 h2;have D1:lq prog w A.in1.in1 b [b,E] xs.size (λi v=>xs[i]?=iF v) (λi h=>ItK h b E k1 i/\SeqK h E k1 xs):=JO (A:=A.in1.in1) hh k1 b E (ay h1) xs;have D2:lq prog w A.in1.in1 (b+1) [b+1,C] ys.size (λi v=>ys[i]?=iF v) (λi h=>ItK h (b+1) C k2 i/\SeqK h C k2 ys):=JO (A:=A.in1.in1) hh k2 (b+1) C (ad (by omega)) ys;have s0:b≠S:=by omega
 have s1:b+1≠S:=by omega
 have s2:b+2≠S:=by omega
 have s4:b+4≠S:=by omega
 have w1:E≠S:=by omega
 have w2:C≠S:=by omega
 have sq:∀ {q},q < b->q≠S:=λh=>by omega
 intro k
 induction k with
 | zero=>
  intro i h tk c acc as hk hi N Y Z W q1 q2 d hS l B G;have L:i=xs.size\/(i < xs.size/\i=ys.size):=by omega
  refine iZ PySem.F.entry_extend_loop ?_;rw [br cg _];show wpAny _ A.in1 (pyNext (.ref (b+4)) >>= _) _ _ _;rcases N with ⟨_,hz,u,v,X⟩ | ⟨p,hp,hz⟩
  ·refine iG (JN (s:={ s with heap:=h,toks:=tk }) D D1 D2 hz Y X ⟨Z,q1⟩ ⟨W,q2⟩ L λh' t he=>?_);have m:∀ q o,N4 b q->h.get? q=iF o->h'.get? q=iF o:=λq o n=>he q o n.1 n.2.1 n.2.2.1 n.2.2.2;exact iM (hR h' t acc c as (λq o h1 e=>m q o (lo4 h1) (d q o h1 e)) (m S _ (hi4 r) hS) (by omega) (G.mono λc o hc e=>m c o (hi4 (cV r hc)) e) l)
  ·have O:∃ o,h.get? p=iF o:=by obtain ⟨x,y,_,_,e3⟩:=G.pairs 0 p hp;exact ⟨_,e3⟩
   refine iG (US (s:={ s with heap:=h,toks:=tk }) D D1 D2 hz O Y ⟨Z,q1⟩ ⟨W,q2⟩ L λh' t he=>?_);have m:∀ q o,N4 b q->h.get? q=iF o->h'.get? q=iF o:=λq o n=>he q o n.1 n.2.2.1 n.2.2.2;exact iM (hR h' t acc c as (λq o h1 e=>m q o (lo4 h1) (d q o h1 e)) (m S _ (hi4 r) hS) (by omega) (G.mono λc o hc e=>m c o (hi4 (cV r hc)) e) l)
 | succ k ih=>
  intro i h tk c acc as hk hi N Y Z W q1 q2 d hS l B G;have J:i < xs.size:=by omega
  have I:i < ys.size:=by omega
  have hsz:acc.size=i:=by rw [<-cC,l,ai,B]
  have hSl:S < h.objs.size:=ap hS;have step:∀ (x y:iI) (h':Heap) (t:Nat),xs[i]?=iF x->ys[i]?=iF y->(∀ H:List Addr,H[0]?=(as++[h.objs.size])[0]?->∃ p,H[0]?=iF p/\xq h' (b+4) (b+2) (b+3) p)->(ItK h' b E k1 (i+1)/\SeqK h' E k1 xs)->(ItK h' (b+1) C k2 (i+1)/\SeqK h' C k2 ys)->iX h' h.objs.size x y ->(∀ c o,N4 b c->h.get? c=iF o->h'.get? c=iF o) ->
    wpAny (model prog w) A.in1 (updateSeq S (·.push (aI h.objs.size)) >>= λ_=>again (.builtin "list.extend.loop" ⟨[.ref S,.ref (b+4),res],[]⟩))
     (λfin s'=>match fin with | .done f=>R (.ok f) s' | .again c'=>c'.quiet=iK/\codeAny (model prog w) A c' R s') (λe s'=>R (.error e) s') { s with heap:=h',toks:=t }:=by
   intro x y h' t ex ey hzz U T z g;have hS':=g S _ (hi4 r) hS;have up:∀ q o,q≠S->h'.get? q=iF o->(h'.update S (bx (·.push (aI h.objs.size)))).get? q=iF o:=λq o hq e=>(bF _ _ (bf hq)).trans e;refine iG (lc hS' rfl (iM ⟨k6 cg _,ih (i+1) _ t _ (acc.push (aI h.objs.size)) (as++[h.objs.size]) (by omega) (by omega) ?_ (up _ _ s2 (g _ _ mi4 Y)) (U.1.at λo e=>up _ o s0 e) (T.1.at λo e=>up _ o s1 e)
    (U.2.at λo e=>up _ o w1 e) (T.2.at λo e=>up _ o w2 e) (λq o hq e=>up q o (sq hq) (g q o (lo4 hq) (d q o hq e))) (aX _ hS' rfl) (by rw [fN,l,cR]; rfl) (by rw [ao,B]; rfl) ⟨?_,?_,?_⟩⟩)
    (by rw [hsz]; omega) (by show (acc.push (aI h.objs.size)).size<=sizeLine+1; rw [Array.size_push]; omega))
   ·obtain ⟨p,hp,c',hz⟩:=hzz (as++[h.objs.size]) rfl;exact .inr ⟨p,hp,c',up _ _ s4 hz⟩
   ·refine List.pairwise_append.mpr ⟨G.rise,db _ _,λa Q b' V=>?_⟩;rw [aE.mp V];obtain ⟨j,K⟩:=ff.mp Q;obtain ⟨_,_,_,_,e⟩:=G.pairs j a K;exact ap e
   ·intro a Q;rcases aH.mp Q with Q | Q;·exact G.above a Q
    ·rw [aE.mp Q]; exact hSl
   ·intro j a K;rcases Nat.lt_trichotomy j as.length with g1 | g1 | g1
    ·rw [ce g1] at K;obtain ⟨x',y',e1,e2,e3⟩:=G.pairs j a K;have V:=G.above a (cT K);exact ⟨x',y',e1,e2,up a _ (cG V) (g a _ (hi4 (cV r V)) e3)⟩
    ·subst g1;have V:h.objs.size=a:=by simpa using K
     subst V;exact ⟨x,y,by rw [B]; exact ex,by rw [B]; exact ey,up _ _ (cG hSl) z⟩
    ·have P:(as++[h.objs.size])[j]?=none:=bL (by rw [ao,eY]; omega);rw [P] at K; cases K
  refine iZ PySem.F.entry_extend_loop ?_;rw [br cg _];show wpAny _ A.in1 (pyNext (.ref (b+4)) >>= _) _ _ _;rcases N with ⟨hi0,hz,u,v,X⟩ | ⟨p,hp,hz⟩
  ·have has:as=[]:=d9.mp (by omega);refine iG (QD (s:={ s with heap:=h,toks:=tk }) D D1 D2 hz Y X ⟨Z,q1⟩ ⟨W,q2⟩ J I λx y h' t p1 p2 M hTO' U T z g=>?_);exact step x y h' t p1 p2 (λH e=>⟨h.objs.size,by rw [e,has]; rfl,iJ,M⟩) U T z λc o n e=>g c o n.1 n.2.1 n.2.2.1 n.2.2.2 e
  ·have O:∃ o,h.get? p=iF o:=by obtain ⟨x,y,_,_,e3⟩:=G.pairs 0 p hp;exact ⟨_,e3⟩
   refine iG (WJ (s:={ s with heap:=h,toks:=tk }) D D1 D2 hz O Y ⟨Z,q1⟩ ⟨W,q2⟩ J I λx y h' t p1 p2 M U T z g=>?_);exact step x y h' t p1 p2 (λH e=>⟨p,by rw [e]; cases as with | nil=>simp at hp | cons a as=>exact hp,M⟩) U T z λc o n e=>g c o n.1 n.2.2.1 n.2.2.2 e
end
theorem qaL:typeLookup (.type "zip") "__len__"=pure none:=by rw [lb,i9]; kernel_rfl
theorem ZK:typeLookup (.type "zip") "__length_hint__"=pure none:=by rw [lb,i9]; kernel_rfl
section
theorem qcD (hT:s.TypeIs (.ref z) "zip") (h:Q iK s):wpAny (model prog w) A (dG (.ref z)) Q E s:=by unfold dG;refine iG (wpAny_specialOf hT qaL ?_);show wpAny _ _ (specialOf (aI z) (ac "__length_hint__") >>= _) _ _ _;refine iG (wpAny_specialOf hT ZK ?_);exact iM h
theorem qcE {D C:Nat} {k1 k2:SK} {ys:Array iI} {Q:iI->iL->Prop} (M:A.handled=iH) (h1:D < b) (h2:C < b) (hsz:s.heap.objs.size=b+5) (K:xs.size<=sizeLine)
  (hz:lr s.heap (b+4) (b+2) (b+3) .none) (Y:iX s.heap (b+2) (.ref b) (.ref (b+1))) (X:∃ u v,iX s.heap (b+3) u v) (H:ItK s.heap b D k1 0) (G:ItK s.heap (b+1) C k2 0) (J:SeqK s.heap D k1 xs) (I:SeqK s.heap C k2 ys)
  (O:∀ h' tk acc c as,(∀ q o,q < b->s.heap.get? q=iF o->h'.get? q=iF o)->h'.get? (b+5)=iF { cls:=.type "list",dict:=iH,data:=.seq acc c,slots:=#[] }->as.length=min xs.size ys.size->ZG xs ys (b+5) h' as->acc.toList=as.map aI->Q (.ref (b+5)) { s with heap:=h',toks:=tk }) :
  wpAny (model prog w) A (call (.type "list") [.ref (b+4)]) Q E s:=by
 refine callType_codes (Q₁:=λobj l=>obj=.ref s.heap.objs.size/\l={ s with heap:=s.heap.push { cls:=.type "list",data:=.seq #[] } }) PySem.F.called_list (PySem.F.typeCall_list_1 _) PySem.F.entry_list_init
  (code_list_new _ ⟨rfl,rfl⟩) λobj l h₁=>?_
 obtain ⟨rfl,rfl⟩:=h₁;have S:(s.heap.push { cls:=.type "list",data:=.seq #[] }).get? s.heap.objs.size=iF { cls:=.type "list",data:=.seq #[] }:=ah _ rfl;rw [hsz] at S ⊢;refine ⟨⟨_,S,rfl⟩,PySem.F.args_list_init_2 _ _,?_⟩;show wpAny _ _ (do let old <-Builtin.List.listItems (.ref (b+5)); Builtin.List.listUpdate (.ref (b+5)) (λ_=>#[]); letGo old.toList.reverse; bU (.ref (b+5)) (.ref (b+4)) .none) _ _ _;refine iG ?_;unfold Builtin.List.listItems;refine iG (iT S rfl (iM ?_));show wpAny _ _ (updateSeq (b+5) (λ_=>#[]) >>= λ_=>letGo (#[]:Array iI).toList.reverse >>= λ_=>bU (.ref (b+5)) (.ref (b+4)) .none) _ _ _;refine iG (lc S rfl ?_);have d:=aX (bx (λ_=>(#[]:Array iI))) S rfl;have k:∀ q o,q≠b+5->s.heap.get? q=iF o->((s.heap.push { cls:=.type "list",data:=.seq #[] }).update (b+5) (bx (λ_=>(#[]:Array iI)))).get? q=iF o:=
  λq o hq e=>(bF _ _ (bf hq)).trans (aa _ e)
 refine iG (lH ?_);generalize (s.heap.push { cls:=.type "list",data:=.seq #[] }).update (b+5) (bx (λ_=>(#[]:Array iI)))=h₂ at d k;have g:lr h₂ (b+4) (b+2) (b+3) .none:=k _ _ (ad (by omega)) hz;have key:∀ (h:Heap) (i:Nat),(∀ q o,q≠b+5->h₂.get? q=iF o->h.get? q=iF o)->h.get? (b+5)=iF { cls:=.type "list",data:=.seq #[] i }->codeAny (model prog w) A.in1 (.builtin "list.extend.loop" ⟨[.ref (b+5),.ref (b+4),.none],[]⟩) (wants (λr t=>r=bw/\Q (.ref (b+5)) t) E) { s with heap:=h }:=by
  intro h i m p;obtain ⟨u,v,X⟩:=X;refine qcC (A:=A.in1) (s:=s) (h₁:=s.heap) (k1:=k1) (k2:=k2) (xs:=xs) (ys:=ys) M h1 h2 (by omega) K .none (λh' y acc c as z B hl P x=>⟨rfl,O h' y acc c as z B hl P x⟩)
   (min xs.size ys.size) 0 h s.toks i #[] [] (Nat.sub_zero _) (be _) (.inl ⟨rfl,m _ _ (ad (by omega)) g,u,v,m _ _ (ad (by omega)) (k _ _ (ad (by omega)) X)⟩) (m _ _ (ad (by omega)) (k _ _ (ad (by omega)) Y)) (H.at λo e=>m _ o (ad (by omega)) (k _ o (ad (by omega)) e)) (G.at λo e=>m _ o (ad (by omega)) (k _ o (ad (by omega)) e))
   (J.at λo e=>m _ o (ad (by omega)) (k _ o (ad (by omega)) e)) (I.at λo e=>m _ o (ad (by omega)) (k _ o (ad (by omega)) e)) (λq o hq e=>m q o (ad (by omega)) (k q o (ad (by omega)) e)) p rfl rfl ⟨dF,(λ_ N=>nomatch N),(λj a L=>by simp at L)⟩
 unfold bU;refine iG (ll (T := "zip") ⟨_,g,rfl⟩ ?_);have e1:cY (.ref (b+5)) (.ref (b+4))=false:=by simp [cY]
 have U:(df "zip" == df "list")=false:=by decide
 have R:(df "zip" == df "tuple")=false:=by decide
 simp only [e1,U,R,fV,ci,if_false];refine iG (wpAny_pyIter_zip g ?_);refine iG (iW (qcD ⟨_,g,rfl⟩ ?_));rw [if_pos (by simp)];refine iG (k9 ?_);refine iG ?_;show wpAny _ _ (updateSeq (b+5) (·.push .none) >>= λ_=>updateSeq (b+5) (·.pop)) _ _ _;refine iG (lc d rfl ?_);have f:=aX (bx (·.push bw)) d rfl;refine lc (hz:=by seq_fits) f rfl ?_;have n:=aX (bx (·.pop)) f rfl;refine iM ⟨k6 cg _,key _ _ (λq o hq e=>?_) n⟩;exact (bF _ _ (bf hq)).trans ((bF _ _ (bf hq)).trans e)
theorem qaM {k1 k2:SK} {i l:Addr} {Q:iI->iL->Prop} (t:SeqK s.heap i k1 xs) (f:SeqK s.heap l k2 ys)
  (h:∀ h':Heap,h'.objs.size=s.heap.objs.size+5->lr h' (s.heap.objs.size+4) (s.heap.objs.size+2) (s.heap.objs.size+3) .none->iX h' (s.heap.objs.size+2) (.ref s.heap.objs.size) (.ref (s.heap.objs.size+1)) ->iX h' (s.heap.objs.size+3) .none .none->ItK h' s.heap.objs.size i k1 0->ItK h' (s.heap.objs.size+1) l k2 0->(∀ c o,s.heap.get? c=iF o->h'.get? c=iF o)->Q (.ref (s.heap.objs.size+4)) { s with heap:=h' }) :
  wpAny (model prog w) A (call (.type "zip") [.ref i,.ref l]) Q E s:=by
 refine callType_new PySem.F.called_zip (by decide) (PySem.F.typeCall_zip_2 _ _) (PySem.F.newCall_zip_2 _ _) (λobj=>PySem.F.args_object_init_3 obj _ _) PySem.F.entry_zip_new (Ww k1 k2 i l xs ys) ⟨t,f,?_⟩;have z1:(zH1 k1 s.heap i).objs.size=s.heap.objs.size+1:=ba ..;have z2:(zH2 k1 k2 s.heap i l).objs.size=s.heap.objs.size+2:=by rw [ba,z1]
 have z:(zH3 k1 k2 s.heap i l).objs.size=s.heap.objs.size+3:=by rw [ba,z2]
 have a:(zH4 k1 k2 s.heap i l).objs.size=s.heap.objs.size+4:=by rw [ba,z]
 have b:(zH5 k1 k2 s.heap i l).objs.size=s.heap.objs.size+5:=by rw [ba,a]
 have g:(zH5 k1 k2 s.heap i l).get? (zH4 k1 k2 s.heap i l).objs.size=iF _:=ah _ rfl;have L:(zH5 k1 k2 s.heap i l).get? (zH3 k1 k2 s.heap i l).objs.size=iF _:=aa _ (ah _ rfl);have W:(zH5 k1 k2 s.heap i l).get? (zH2 k1 k2 s.heap i l).objs.size=iF _:=aa _ (aa _ (ah _ rfl));have Y:(zH5 k1 k2 s.heap i l).get? (zH1 k1 s.heap i).objs.size=iF _:=aa _ (aa _ (aa _ (ah _ rfl)));have g1:(zH5 k1 k2 s.heap i l).get? s.heap.objs.size=iF _:=aa _ (aa _ (aa _ (aa _ (ah _ rfl))));show _/\_;rw [z2,z,a] at g;rw [z1,z2] at W;rw [z] at L;rw [z1] at Y;rw [a];exact ⟨⟨_,g,rfl⟩,h _ b g W L (.of ⟨_,g1,rfl,rfl⟩) (.of ⟨_,Y,rfl,rfl⟩) λc o x=>aa _ (aa _ (aa _ (aa _ (aa _ x))))⟩
end
theorem qaN (g:Same F F'):∀ {xs ys:List V} {ds es:List D} {as:List Addr},IsL K F xs ds->IsL K F ys es->as.length=min xs.length ys.length ->(∀ (j:Nat) (a:Addr) (x y:V),as[j]?=iF a->xs[j]?=iF x->ys[j]?=iF y->F' a=iF (.tup [x,y]))->IsL K F' (as.map V.ref) (Ul ds es)
 | _,_,_,_,[],.nil,_,_,_=>.nil
 | _,_,_,_,[],.cons _ _,.nil,_,_=>.nil
 | _,_,_,_,_::_,.nil,_,h,_=>by simp at h
 | _,_,_,_,_::_,.cons _ _,.nil,h,_=>by simp at h
 | _,_,_,_,[],.cons _ _,.cons _ _,h,_=>by simp at h
 | _,_,_,_,a::as,.cons (v:=x) h1 t1,.cons (v:=y) h2 t2,hl,hF=>
  .cons (.tup (.inl (.inl (hF 0 a x y rfl rfl rfl))) (.cons (h1.mono g) (.cons (h2.mono g) .nil))) (qaN g t1 t2 (by simp only [au] at hl; omega) λj a x y e1 i E=>hF (j+1) a x y e1 i E)
section
variable {H':Hp}
theorem Inv.grown {t':Nat} (I:Inv X pins σ H s) (k:∀ b u,s.heap.get? b=iF u->h'.get? b=iF u) (old:∀ b o,H b=iF o->H' b=iF o) (low:∀ b,b < s.heap.objs.size->H b=iH->H' b=iH)
  (new:∀ b o,H b=iH->H' b=iF o->ObjOk X.prog X.w H' h' b o):Inv X pins σ H' { s with heap:=h',toks:=t' }:=by
 refine I.un ⟨λb u q _ _ _=>k b u q,λb u q _ _ _=>⟨u.slots,k b u q⟩,λb u q n _=>low b (ap q) n,λb u q _=>⟨u,k b u q⟩,λb xs q=>old _ _ q,λb u xs q=>old _ _ q,λb ps q=>⟨#[],by rw [old _ _ q]; simp⟩⟩ λb u e=>?_;cases q:H b with
 | none=>exact new b u q e
 | some o=>have:=old b o q;rw [e] at this;cases this;exact (I.hok b u q).stay (λc v _ q=>k c v q) (λc q=>old _ _ q) λc xs q=>old _ _ q
theorem qfa {xs:List V} (I:Inv X pins σ H s):∀ {k:SK},SqK X.K H a k xs->xs.length<=sizeLine
 | .l,h=>let ⟨_,_,_,z⟩:=I.list h; z
 | .t,h=>let ⟨_,_,_,z⟩:=I.tuple h; z
end
noncomputable def kq (x y:D):Out D:=(uU x).bind λds=>(uU y).bind λes=>.ok (.lst (Ul ds es))
section
variable {a c:Expr} {fa fb:jg} {mb:Mo} {pos p p2 pos2:Pos}
theorem JR (hK:C.K=X.K) (hc:X.calm=iK) (hg:Gl X "list") (hm:X.mg "list"=iH) (hv:bootBuiltins "list"=iF (.type "list")) (Z:Gl X "zip") (T:X.mg "zip"=iH) (ha:PE X a (tE C own ma fa)) (i:PE X c (tE C own mb fb)) (S:ma≠.any:=by decide)
  (hs:starEach [a,c] X.env=[(iJ,eval a X.env),(iJ,eval c X.env)]:=by exact YD rfl rfl) (d:starEach [c] X.env=[(iJ,eval c X.env)]:=by exact qI rfl)
  (m:starEach [.Call (.Name "zip" p2) [a,c] [] pos2] X.env=[(iJ,eval (.Call (.Name "zip" p2) [a,c] [] pos2) X.env)]:=by exact qI rfl) :
  PE X (.Call (.Name "list" p) [.Call (.Name "zip" p2) [a,c] [] pos2] [] pos) (tE C own .fr (d2 kq fa fb)):=by
 refine ⟨?_⟩;intro pins s σ H Q I h;refine i3 (xQ I hg hm hv ?_ (by decide) (by decide));refine bB ?_ (by rw [m]; rfl) rfl;rw [m];show wpAny _ _ (spliced ((iJ,eval (.Call (.Name "zip" p2) [a,c] [] pos2) X.env)::[])) _ _ s;refine fF ?_;refine i3 (xQ I Z T Wx ?_ (by decide) (by decide));refine bB (thn ((qN ha (qN i jG d) (by rw [hs,d])) pos2 pins s σ H _ I (YV (mb:=mb) S h)) λus s1 ⟨vs,H1,k,r1,q1⟩=>?_) (by rw [hs,d]) (by rw [d]; rfl);obtain ⟨x,y,F,dx,dy,rfl,B,tx,ty,po⟩:=q1;obtain ⟨u1,u2,rfl,e1,e2⟩:=Za r1;cases n1:uU dx with
 | exc c' o=>unfold kq at po; rw [n1] at po; cases dx <;> cases n1
 | bad=>unfold kq at po; rw [n1] at po; exact po.elim
 | ok ds=>
  cases n2:uU dy with
  | exc c' o=>unfold kq at po; rw [n1,n2] at po; cases dy <;> cases n2
  | bad=>unfold kq at po; rw [n1,n2] at po; exact po.elim
  | ok es=>
   have po:PoV C .fr F H1 (.ok (.lst (Ul ds es))) Q:=by unfold kq at po; rw [n1,n2] at po; exact po
   obtain ⟨a1,k1,xs,rfl,A,O⟩:=Xc B tx n1;obtain ⟨a2,k2,ys,rfl,w2,M⟩:=Xc B ty n2;rw [hK] at A w2;cases e1;cases e2;obtain ⟨L,v1,p1⟩:=yk k A;obtain ⟨N,v2,p2⟩:=yk k w2;refine qaM p1 p2 λh' hsz hz hTI hTO t1 t2 kp=>?_;refine fJ ?_;have t:L.length=xs.length:=v1.length.symm;have W:N.length=ys.length:=v2.length.symm;have hn:xs.length<=sizeLine:=qfa k A;refine qcE (s:={ s1 with heap:=h' }) (b:=s1.heap.objs.size) (I.ok.hd hc) p1.lt p2.lt hsz (by rw [aj,t]; exact hn) hz hTI ⟨_,_,hTO⟩ t1 t2 (p1.at λo e=>kp _ o e) (p2.at λo e=>kp _ o e) λh1 tk acc e' as J hp f G r=>?_;have E:∀ b o,s1.heap.get? b=iF o->h1.get? b=iF o:=λb o eb=>J b o (ap eb) (kp b o eb);have f:as.length=min xs.length ys.length:=by rw [f,aj,aj,t,W]
   have R:as.Nodup:=G.rise.imp λz=>ay z;have D:∀ q∈as.zip (dn (λx y=>[x,y]) xs ys),s1.heap.objs.size<=q.1:=λq hq=>by have:=G.above _ (cM hq).1;exact cF (Nat.lt_of_le_of_lt (cj _ 5) this)
   have hB:s1.heap.objs.size+5∉as:=λz=>bM _ (G.above _ z);have w:∀ q∈as.zip (dn (λx y=>[x,y]) xs ys),H1 q.1=none:=λq hq=>k.hok.fresh (D q hq);have g:H1 (s1.heap.objs.size+5)=none:=k.hok.fresh (cj _ _);have P:Jo H1 (as.zip (dn (λx y=>[x,y]) xs ys)) (s1.heap.objs.size+5)=none:=by refine (gX λq hq z=>hB ?_).trans g;rw [<-z];exact (cM hq).1
   obtain ⟨s2,c2⟩:=Xp (l:=as.zip (dn (λx y=>[x,y]) xs ys)) B w;obtain ⟨s3,c3,f3⟩:=vB (u:=.lst (as.map V.ref)) s2 P;have zw:∀ (j:Nat) (x y:V),xs[j]?=iF x->ys[j]?=iF y->(dn (λx y=>[x,y]) xs ys)[j]?=iF [x,y]:=λj x y e1 e2=>by rw [List.getElem?_zipWith,e1,e2]
   have il:=qaN (as:=as) c2.grow O M f λj b x y Y U j3=>by unfold Jo;rw [qaJ R Y (zw j x y U j3)]
   have I3:Inv X pins σ (upd (Jo H1 (as.zip (dn (λx y=>[x,y]) xs ys))) (s1.heap.objs.size+5) (.lst (as.map V.ref))) { s1 with heap:=h1,toks:=tk }:=by
    refine Inv.grown k E (λb o e=>?_) (λb i e=>?_) λb o n e=>?_;·rw [qv (qB e g)];exact ko w e
    ·rw [qv (ay (aD i (cj _ _))),gX λq hq z=>?_];·exact e
     ·exact absurd i (by rw [<-z]; exact Nat.not_lt.mpr (D q hq))
    ·by_cases i:b=s1.heap.objs.size+5;·subst i;rw [qt] at e;cases e;exact ⟨by rw [ai,f]; omega,as.map aI,e',QO as,by rw [hp,show acc=(as.map aI).toArray by rw [<-r,Array.toArray_toList]]⟩
     ·rw [qv i] at e;unfold Jo at e;cases q:(as.zip (dn (λx y=>[x,y]) xs ys)).lookup b with
      | none=>rw [q,n] at e; cases e
      | some zs=>rw [q] at e;cases e;obtain ⟨j,Y,U⟩:=qaI q;obtain ⟨u,v,g1,g2,g3⟩:=G.pairs j b Y;obtain ⟨x,x1,x2⟩:=yl v1 (by simpa using g1);obtain ⟨y,y1,y2⟩:=yl v2 (by simpa using g2);rw [zw j x y x1 y1] at U;cases U;exact ⟨⟨by show 2<=_; rw [iP]; decide,_,g3,rfl⟩,[u,v],.cons x2 (.cons y2 .nil),_,g3,rfl,_,rfl⟩
   exact ⟨.ref (s1.heap.objs.size+5),_,I3,rfl,po _ _ _ s3 (c2.trans' c3) ⟨_,rfl,g,f3,_,qt,il⟩⟩
end
end L2.D2
namespace L2.D2
open PySem PySem.Spec PyProof.Rows
noncomputable def uX (c:Addr) (n:Str):Option (Option D)->Bool
 | some (iF (.ins k fs))=>decide (k=c)&&(fs.lookup n).isNone
 | _=>iJ
noncomputable def ji (c:Addr) (i:Nat) (n:Str) (as:List AK) (G:jJ) (fr:wV):jg:=λρ=>if uX c n ρ[i]?=iK then qu (.sl i::as) G (jS fr) ρ else .bad
variable {X:Cx} {C:Ct} {own:List Nat} {as:List AK} {mr:Mo} {e:Expr} {es:List Expr} {x:Str} {pos apos px:Pos} {ms:List PM} {ps:List Str} {cv:Str->iI}
section
variable {fr:wV} {n:Str} {c:Addr} {G:jJ} {i k j:Nat}
theorem Xu {σ:St} {H:Hp} {Q:VK} (l:i∈own) (o:∀ i∈C.ox,i∈own) (hs:∀ j∈qS (.sl i::as),j∈own) (nd:(qS (.sl i::as)).Nodup) (f:frA (.sl i::as)<=1) (h:tE C own mr (ji c i n as G fr) σ H Q):∃ a dx fv,σ[i]?=iF (iF (.ref a))/\H a=iF (.ins c dx fv)/\fv.lookup n=iH/\tAr C own as fr σ H λvs H1=>spD C.K C.cv ((AK.sl i::as).map xY) mr G (.ref a::vs++[]) H1 Q C.E:=by
 obtain ⟨F,ρ,p,h⟩:=h;obtain ⟨d,hd⟩:=p.opn i l;obtain ⟨a,h1,h2,h3⟩:=p.ow i d l hd;unfold ji at h;rw [hd] at h;cases d with
 | ins k fs=>
  by_cases z:uX c n (iF (iF (.ins k fs)))=iK;·rw [if_pos z] at h;have z:(decide (k=c)&&(fs.lookup n).isNone)=true:=z;rw [aM] at z;obtain ⟨z1,z2⟩:=z;have z1:=of_decide_eq_true z1;subst z1;obtain ⟨dx,fv,g,t⟩:=h3;refine ⟨a,dx,fv,h1,g,t.non (by cases q:fs.lookup n with | none=>rfl | some y=>rw [q] at z2; cases z2),?_⟩;obtain ⟨F',ρ',r,h'⟩:=UB (as:=.sl i::as) o hs nd f ⟨F,ρ,p,h⟩;exact Qp (a:=.sl i) (v:=.ref a) (λx z=>(r.OA_there z).1) r .refl h' λe H2 vs ds c2 b=>⟨h1,rfl,b⟩
  ·rw [if_neg z] at h;exact h.elim
 | _=>exact h.elim
theorem KJ {pl:Sem Bool} (q:Cls X.K c) (F:Xm X.prog X.w X.K X.mg X.base cv j c n ps ms mr G) (r:Room k X.A) (D:j<=k) (hx:kl (CXk X.prog X.w) X C.E) (z:X.N[i]?=iF x) (b:Vis X.env.scope x) (m:i∈own) (y:PA X (e::es) (tAr C own as fr)) (v:C.cv=cv:=by rfl) (B:C.K=X.K:=by rfl) (s:ms=(AK.sl i::as).map xY:=by rfl)
  (hs:∀ j∈qS (.sl i::as),j∈own:=by decide) (nd:(qS (.sl i::as)).Nodup:=by decide) (p:frA (.sl i::as)<=1:=by decide) (o:∀ i∈C.ox,i∈own:=by exact kz rfl) (hd:Dbg x:=by decide) (d:Cdk x:=by decide)
  (t:starEach (e::es) X.env=(iJ,eval e X.env)::starEach es X.env:=by exact jl rfl) (l:(backTo pos (starEach es X.env)).any (·.1)=false:=by exact vR rfl)
  (ht:eval (.Call (.Attribute (.Name x px) n apos) (e::es) [] pos) X.env=(do
   let ov <-eval (.Name x px) X.env
   standAt apos.atName
   let (f,first) <-holding [ov] (getMethod ov n pl)
   callWith pos f first (backTo pos (starEach (e::es) X.env)) (backToKw pos (keywordEach [] X.env))):=by rfl):PE X (.Call (.Attribute (.Name x px) n apos) (e::es) [] pos) (tE C own mr (ji c i n as G fr)):=by
 subst v s;obtain ⟨f,fd,F0,M,u⟩:=F;refine jB (qd8 (pl:=pl) (ya z b hd d) q M F0 (r.mono D) u .nil hx y t l ht) λσ H Q h=>?_;obtain ⟨a,dx,fv,h1,h2,h3,g⟩:=Xu m o hs nd p h;rw [B] at g;exact ⟨_,h1,a,dx,fv,rfl,h2,h3,g⟩
theorem wR {pl:Sem Bool} (m:Cls X.K c) (F:Xm X.prog X.w X.K X.mg X.base cv j c n ps ms mr G) (g:Room k X.A) (D:j<=k) (hx:kl (CXk X.prog X.w) X C.E) (q:X.N[i]?=iF x) (b:Vis X.env.scope x) (l:i∈own) (v:C.cv=cv:=by rfl) (t:C.K=X.K:=by rfl) (s:ms=[.io]:=by rfl)
  (o:∀ i∈C.ox,i∈own:=by exact kz rfl) (hd:Dbg x:=by decide) (d:Cdk x:=by decide)
  (ht:eval (.Call (.Attribute (.Name x px) n apos) [] [] pos) X.env=(do
   let ov <-eval (.Name x px) X.env
   standAt apos.atName
   let (f,first) <-holding [ov] (getMethod ov n pl)
   callWith pos f first (backTo pos (starEach [] X.env)) (backToKw pos (keywordEach [] X.env))):=by rfl):PE X (.Call (.Attribute (.Name x px) n apos) [] [] pos) (tE C own mr (ji c i n [] G qA)):=by
 subst v s;obtain ⟨f,fd,F0,M,p⟩:=F;refine jB (qbL (pl:=pl) (ya q b hd d) m M F0 (g.mono D) p .nil hx ht) λσ H Q h=>?_;obtain ⟨a,dx,fv,h1,h2,h3,F',ρ',r,e⟩:=Xu (as:=[]) l o (λj D=>by
  rcases ae.mp D with rfl | D;·exact l
  ·cases D) (by simp [qS]) (by simp [frA]) h
 rw [t] at e;exact ⟨_,h1,a,dx,fv,rfl,h2,h3,e [] F' H r .refl trivial⟩
end
theorem ZL {M:Model} {A:iQ} {E:iI->iL->Prop} {s:iL} {β:Type} {n:Nat} (f:Nat->β->Sem (ForInStep β)) (I:Nat->β->iL->Prop) (Q:β->iL->Prop) (b:β)
  (turn:∀ i b s,i < n->I i b s->wpAny M A (f i b) (λr s'=>match r with | .yield g=>I (i+1) g s' | .done g=>Q g s') E s)
  (fin:∀ b s,I n b s->Q b s) (h:I 0 b s):wpAny M A (forIn [:n] b f) Q E s:=by
 rw [Std.Legacy.Range.forIn_eq_forIn_range'];simp only [Std.Legacy.Range.size,Nat.sub_zero,Nat.add_sub_cancel,Nat.div_one];refine wpAny_forIn_list _ (λrest b s'=>∃ i,i<=n/\rest=List.range' i (n - i)/\I i b s') _ ?_ ?_ _ _ ⟨0,be _,rfl,h⟩
 ·rintro x rest b s' ⟨i,hi,c,y⟩
  match e:n - i with
  | 0=>rw [e] at c; cases c
  | k+1=>
   rw [e,List.range'_succ] at c;cases c;refine j4 (turn _ _ _ (by omega) y) (λr s' c=>?_) λ_ _ h'=>h';cases r with
   | done g=>exact c
   | yield g=>exact ⟨_,by omega,by rw [show n - (x+1)=k by omega],c⟩
 ·rintro b s' ⟨i,hi,c,y⟩;have e:=congrArg h8 c;rw [List.length_range'] at e;have e:n=i:=by simp at e; omega
  exact fin _ _ (by rwa [e])
open AutoSeq1 (wpAny_loadPart') in
theorem KK (l:Addr) (items:Array iI) (n:Nat) (dd:Option Addr) (sl:Array (Option iI)) (x:iI) (e:iI->Bool) (j:Nat) (D:j < items.size)
  (hit:e items[j]=iK) (o:∀ m (f:m < items.size),m < j->e items[m]=iJ) :
  Meets (Builtin.«tuple.index» ⟨[.ref l,x],[]⟩)
   (λA R s=>s.heap.get? l=iF { cls:=.type "tuple",dict:=dd,data:=.seq items n,slots:=sl }/\(∀ y,y∈items->ii A.in1 s y x (e y))/\R (.ok (.ret (.int j s.toks))) { s with toks:=s.toks+1 }):=
 .of_wp λprog w A R s h=>by
  obtain ⟨hp,g,d,tk,os⟩:=s; obtain ⟨hl,c,h⟩:=h;wp_walk using wpAny_loadPart' hl,ZL _ (λi b s'=>s'=⟨hp,g,d,tk,os⟩/\b=(iH,())/\i<=j) _ _
  case turn=>
   rintro i b s' hi ⟨rfl,rfl,a⟩;have hi:i < items.size:=by omega
   rw [bt hi];refine iG (c _ (Array.getElem_mem hi) prog w _ _ ?_);by_cases q:i=j
   ·subst q;rw [hit];wp_walk
    exact ⟨_,rfl,h⟩
   ·rw [o i hi (by omega)];wp_walk
    exact ⟨rfl,rfl,by omega⟩
  case fin=>
   rintro b s' ⟨rfl,rfl,a⟩;omega
  case h=>
   exact ⟨rfl,rfl,be _⟩
section
variable {m ma mb:Mo} {a b:Expr} {fa fb fe:jg} {cpos:Pos}
noncomputable def JS:D->D->Out D
 | .tup ds,e=>match gh 7 e ds with
  | some _=>match (ds.map λd=>eqN 7 d e == iF iK).findIdx? id with
   | some j=>.ok (.int (j:Nat))
   | none=>.bad
  | none=>.bad
 | _,_=>.bad
theorem qaO (P:C.K=X.K) (N:X.A.units+64 < cLine):MtD X C .sh "tuple.index" JS:=by
 intro pins s σ H x vs v us Q I G J h;obtain ⟨y,F,dx,o,rfl,g,q,ty,po⟩:=h;rw [P] at q ty;obtain ⟨u,rfl,L⟩:=J.one;unfold JS at po;cases dx <;> try exact po.elim
 rename_i ds;cases e:gh 7 o ds with
 | none=>simp only [e] at po; exact po.elim
 | some b=>
  simp only [e] at po;cases D:(ds.map λd=>eqN 7 d o == iF iK).findIdx? id with
  | none=>simp only [D] at po; exact po.elim
  | some j=>
   simp only [D] at po;obtain ⟨F',g',c,M⟩:=ty.is g;obtain ⟨a,xs,rfl,p,z⟩:=q.tup g;cases G;obtain ⟨its,r,pl,hz⟩:=I.tuple p;obtain ⟨h1,h2⟩:=JE (A:=X.A) (y:=.non) (a:=a) (u:=.none) I N c M L (z.mono g') r e;have O:=UP I c (z.mono g') r e;rw [<-O] at D;obtain ⟨⟨cls,dd,data,sl⟩,B,E,n,t⟩:=pl;simp only at E t;subst E t;obtain ⟨l,k,i⟩:=bV.mp D;have f:j < its.length:=by simpa using l
   refine lf PySem.F.slot_tuple_index ⟨_,B,rfl⟩ PySem.F.entry_tuple_index (PySem.F.args_tuple_index_2 _ _) (KK a _ n dd sl u (Zk X F' 7 o) j (by simpa using f) (by simpa using k) λm R h1=>?_) ⟨B,λw hw=>h2 w hw,?_⟩;·have:=i m h1;simpa using this
   ·exact ⟨.int (j:Nat),H,I.tok _,⟨_,rfl⟩,po _ F H g .refl (.int _)⟩
theorem qaP (m:C.K=X.K) (u:X.A.units+64 < cLine)
  (i:PE X a (tE C own ma fa)) (g:PE X b (tE C own mb fb)) (f:ma≠.any:=by decide)
  (c:attributeBase a "index" X.env (eval a X.env)=eval a X.env:=by rfl)
  (w:((backTo cpos (starEach [b] X.env)).all (λx=>!x.1)&&(backToKw cpos (keywordEach [] X.env)).all (λx=>x.1.isSome)
   && decide ([b].length+([]:List i0).length+(if ([]:List i0).isEmpty then 0 else 1) < 30))=true:=by exact vS rfl)
  (e:(apos.endLine == cpos.line)=true:=by rfl) (hs:starEach [b] X.env=[(iJ,eval b X.env)]:=by exact qI rfl) :
  PE X (.Call (.Attribute a "index" apos) [b] [] cpos) (tE C own .sh (dM qcz JS fa fb)):=by
 refine jB (qdu PySem.F.slot_tuple_index PySem.F.type_tuple_index (qaO m u) i (qN g jG hs) c w e hs) λσ H Q h=>?_;obtain ⟨F,ρ,p,h⟩:=qas (ma:=ma) (mb:=mb) f h;refine ⟨F,ρ,p,Po.imp h λx H1 h1=>?_⟩;obtain ⟨⟨F1,dx,s,d,k⟩,h2⟩:=h1;refine ⟨?_,?_⟩
 ·cases dx <;> try (cases k; done)
  obtain ⟨a,vs,rfl,hq,t⟩:=d.tup s;exact ⟨a,vs,rfl,by rw [<-m]; exact hq⟩
 ·obtain ⟨j,ρ2,r,h2⟩:=h2;exact ⟨j,ρ2,r,Po.imp h2 λy H2 q=>⟨y,q.choose,q.choose_spec.choose,q.choose_spec.choose_spec.choose,rfl,q.choose_spec.choose_spec.choose_spec⟩⟩
end
variable {pos':Pos}
section
variable {own':List Nat} {G:jJ} {fr:wV} {m ma mb:Mo} {a b:Expr} {p:Pos} {k j:Nat} {fe f fa fb:jg}
theorem cN (F:DefOk X.prog X.w X.K X.mg X.base cv j x ps ms mr G) (c:Room k X.A) (g:PA X (e::es) (tAr C own as fr)) (D:j<=k:=by decide) (hx:kl (CXk X.prog X.w) X C.E:=by exact gI) (hg:Gl X x:=by rfl) (v:C.cv=cv:=by rfl) (m:C.K=X.K:=by rfl) (s:ms=as.map xY:=by rfl) (hs:∀ i∈qS as,i∈own:=by decide) (nd:(qS as).Nodup:=by decide) (h:frA as<=1:=by decide) (o:∀ i∈C.ox,i∈own:=by exact kz rfl)
  (b:Dbg x:=by decide) (a:starEach (e::es) X.env=(iJ,eval e X.env)::starEach es X.env:=by exact jl rfl) (l:(backTo pos (starEach es X.env)).any (·.1)=false:=by exact vR rfl):PE X (.Call (.Name x p) (e::es) [] pos) (tE C own mr (qu as G fr)):=
 jH F c D hx hg g v m s hs nd h o b a l
theorem sl (i:Nat) {x:Str} {px:Pos} (g:PA X es (tAr C own as fr)) (h:X.N[i]?=iF x:=by rfl) (c:Vis X.env.scope x:=by exact bE rfl) (l:i∈own:=by decide) (hs:starEach (.Name x px::es) X.env=(iJ,eval (.Name x px) X.env)::starEach es X.env:=by rfl)
  (hd:Dbg x:=by decide) (d:Cdk x:=by decide):PA X (.Name x px::es) (tAr C own (.sl i::as) (jS fr)):=qb0 h c l g hs hd d
theorem vO (i:Nat) {x:Str} (h:X.N[i]?=iF x:=by rfl) (c:Vis X.env.scope x:=by exact bE rfl) (l:i∈own:=by decide) (hd:Dbg x:=by decide) (d:Cdk x:=by decide):PE X (.Name x pos) (tE C own .any (qd i)):=qem h c l hd d
theorem se (i:Nat) {x:Str} {pos':Pos} (b:X.N.Nodup) (a:PE X e (tE C own m fe)) (hi:X.N[i]?=iF x:=by rfl) (hx:Loc X.env.scope x:=by first | exact bE rfl | exact fW rfl) (c:m≠.any:=by decide) (o:i∉C.io:=by exact xT rfl) (hs:swapsWith e (iF (.Name x pos')) pos.line X.env=pure false:=by rfl)
  (h:X.fn x=iK\/X.env.scope.names.lookup x=iF .local:=by first | exact .inl rfl | exact .inr rfl):PS X (.Assign [.Name x pos'] e pos) (tSt C own (wC own [i]) (jD i fe)):=qes b hi hx a c o hs h
theorem sO (i:Nat) {x:Str} {pos':Pos} (b:X.N.Nodup) (a:PE X e (tE C own .fr fe)) (hi:X.N[i]?=iF x:=by rfl) (hx:Loc X.env.scope x:=by first | exact bE rfl | exact fW rfl) (o:i∉C.io:=by exact xT rfl) (hs:swapsWith e (iF (.Name x pos')) pos.line X.env=pure false:=by rfl)
  (h:X.fn x=iK\/X.env.scope.names.lookup x=iF .local:=by first | exact .inl rfl | exact .inr rfl):PS X (.Assign [.Name x pos'] e pos) (tSt C own (i::wC own [i]) (jD i fe)):=qbZ b hi hx a o hs h
theorem gn (i:Nat) {x:Str} (a:X.N.Nodup) (hi:X.N[i]?=iF x:=by rfl) (hx:Loc X.env.scope x:=by first | exact bE rfl | exact fW rfl) (l:i∉own:=by decide) (o:i∉C.io:=by exact xT rfl) (h:X.fn x=iK\/X.env.scope.names.lookup x=iF .local:=by first | exact .inl rfl | exact .inr rfl):PG X (.Name x pos) (tGd C own (gNm i)):=YM a hi hx l o h
theorem ix (c:Room k X.A) (g:PE X a (tE C own ma fa)) (d:PE X b (tE C own mb fb)) (hs:Us b:=by exact λ_ _=>rfl) (m:C.K=X.K:=by rfl) (f:ma≠.any:=by decide):PE X (.Subscript a b pos) (tE C own .sh (d2 ixD fa fb)):=qiW m c.units g d hs f
theorem tv (h:PE X e (tE C own m f)) (a:C.K=X.K:=by rfl) (i:∀ whole,isTrue e X.env whole=(do let v <-whole; standAt e.pos; holding [v] (truthy v)):=by exact λ_=>rfl):PT X e (tT C own (uZ f)):=qeq a h i
end
noncomputable def tgN:Expr->List Str
 | .Name x _=>[x]
 | .Tuple es _ _=>es.flatMap λe=>match e with
  | .Name x _=>[x]
  | _=>[]
 | _=>[]
noncomputable def cNm (tg:Expr) (N:List Str) (cap:List Nat):List Str:=tgN tg++cap.map λk=>N.getD k iC
section
variable {elt iter tg:Expr} {ifs:List Expr} {scope:lh} {spos:Pos} {fi:wV} {g:D->Sl->Out Sl} {ft:xU} {fe:jg} {me:Mo} {nt:Nat} {cap:List Nat}
theorem gC (i:Nat) (a:decide X.N.Nodup=true:=by kernel_rfl) (hi:X.N[i]?=iF x:=by rfl) (hx:Loc X.env.scope x:=by first | exact bE rfl | exact fW rfl) (l:i∉own:=by decide) (o:i∉C.io:=by exact xT rfl) (h:X.fn x=iK\/X.env.scope.names.lookup x=iF .local:=by first | exact .inl rfl | exact .inr rfl):PG X (.Name x pos) (tGd C own (gNm i)):=YM (of_decide_eq_true a) hi hx l o h
theorem cmp (hi:PI X tg iter (tIt C own fi)) (h:∀ fp L s' H',PE (jA X scope (cNm tg X.N cap) fp L s' H') elt (tE (ctC C nt cap.length) (uV own nt cap) me fe)) (hg:∀ fp L s' H',PG (jA X scope (cNm tg X.N cap) fp L s' H') tg (tGd (ctC C nt cap.length) (uV own nt cap) g):=by exact λ_ _ _ _=>gC 0) (ht:∀ fp L s' H',PTs (jA X scope (cNm tg X.N cap) fp L s' H') ifs (tT (ctC C nt cap.length) (uV own nt cap) ft):=by exact λ_ _ _ _=>YN)
  (P:X.calm=true:=by rfl) (bs:scB X.env.scope.names scope=true:=by kernel_rfl) (b:qh9 X.env.scope.names X.N scope (cNm tg X.N cap) nt cap=true:=by kernel_rfl) (i:me≠.any:=by decide) (hs:∀ x,foldedSetIterable iter X.env x=pure x:=by intro _; rfl) :
  PE X (.ListComp elt [⟨tg,iter,ifs,0⟩] scope pos) (tE C own .fr (jh own nt cap fi g ft fe)):=qeA P (qgR rfl bs) (qdm rfl rfl b) hi hg ht h i hs
theorem qio (i:Nat) {x:Str} (a:X.N.Nodup) (hi:PI X tg iter (tIt C own fi)) (e:∀ fp L s' H',PE (jA X scope (cNm tg X.N cap) fp L s' H') elt (tE (ctC C nt cap.length) (uV own nt cap) me fe)) (hg:∀ fp L s' H',PG (jA X scope (cNm tg X.N cap) fp L s' H') tg (tGd (ctC C nt cap.length) (uV own nt cap) g):=by exact λ_ _ _ _=>gC 0) (ht:∀ fp L s' H',PTs (jA X scope (cNm tg X.N cap) fp L s' H') ifs (tT (ctC C nt cap.length) (uV own nt cap) ft):=by exact λ_ _ _ _=>YN)
  (V:X.N[i]?=iF x:=by rfl) (hx:Loc X.env.scope x:=by first | exact bE rfl | exact fW rfl) (P:X.calm=true:=by rfl) (bs:scB X.env.scope.names scope=true:=by kernel_rfl) (b:qh9 X.env.scope.names X.N scope (cNm tg X.N cap) nt cap=true:=by kernel_rfl) (h:me≠.any:=by decide) (o:i∉C.io:=by exact xT rfl)
  (E:swapsWith (.ListComp elt [⟨tg,iter,ifs,0⟩] scope pos) (iF (.Name x pos')) spos.line X.env=pure true:=by rfl) (hs:∀ x,foldedSetIterable iter X.env x=pure x:=by intro _; rfl) (Y:X.fn x=iK\/X.env.scope.names.lookup x=iF .local:=by first | exact .inl rfl | exact .inr rfl) :
  PS X (.Assign [.Name x pos'] (.ListComp elt [⟨tg,iter,ifs,0⟩] scope pos) spos) (tSt C own (i::wC own [i]) (jD i (jh own nt cap fi g ft fe))):=qb7 a V hx P (qgR rfl bs) (qdm rfl rfl b) hi hg ht e h o E hs Y
end
end L2.D2
set_option maxHeartbeats 4000000
namespace Kx
open PySem PySem.Spec PyProof.Rows L2 L2.D2
noncomputable def top (i:Nat):Stmt:=PySem.Challenge.pw_lookwords_k07_whole_lists.main.body.getD i (.Pass ⟨0,0,0,0⟩)
noncomputable def CS:List Str:=["NoWords", "NoLook", "NoNumbers", "NoRoom", "NoWord", "NoWorths", "Never", "Full", "Known"]
noncomputable def FS:List Str:=[]
structure Zt (K:Frag) (mg:Str->Option iI) (cv:Str->iI) (ca:Str->Addr):Prop where
 xs:Xs K cv ca CS "WordError"
 mref:∀ c∈CS,mg c=iF (.ref (ca c))
 xin:∀ c∈CS,dR K (ca c) bmV "ValueError.__new__"=iK
 fref:∀ x∈FS,mg x=iF (.ref (ca x))
 m_WordError:mg "WordError"=iF (cv "WordError")
 z_ValueError:mg "ValueError"=iH
 z_all:mg "all"=iH
 z_bool:mg "bool"=iH
 z_dict:mg "dict"=iH
 z_enumerate:mg "enumerate"=iH
 z_int:mg "int"=iH
 z_isinstance:mg "isinstance"=iH
 z_len:mg "len"=iH
 z_list:mg "list"=iH
 z_max:mg "max"=iH
 z_min:mg "min"=iH
 z_range:mg "range"=iH
 z_set:mg "set"=iH
 z_sorted:mg "sorted"=iH
 z_str:mg "str"=iH
 z_sum:mg "sum"=iH
 z_tuple:mg "tuple"=iH
 z_zip:mg "zip"=iH
 c_LEAST_PLACE:∃ t,mg "LEAST_PLACE"=iF (.int (-3) t)
 c_MOST_LETTERS:∃ t,mg "MOST_LETTERS"=iF (.int 6 t)
 c_MOST_PLACE:∃ t,mg "MOST_PLACE"=iF (.int 2 t)
 c_MOST_ROOM:∃ t,mg "MOST_ROOM"=iF (.int 99 t)
 c_MOST_WORDS:∃ t,mg "MOST_WORDS"=iF (.int 6 t)
 m_Words:mg "Words"=iF (.ref (ca "Words"))
 b_cls:Cls K (ca "Words")
 b_no:∀ f∈(["look", "came", "width", "held"]:List Str),NoAttr K (ca "Words") f
theorem KL:bootBuiltins "ValueError"=iF (.type "ValueError"):=by decide +kernel
theorem QP:bootBuiltins "all"=iF (.builtin "all"):=by decide +kernel
theorem qfb:bootBuiltins "bool"=iF (.type "bool"):=by decide +kernel
theorem UT:bootBuiltins "dict"=iF (.type "dict"):=by decide +kernel
theorem qhj:bootBuiltins "int"=iF (.type "int"):=by decide +kernel
theorem qy:bootBuiltins "isinstance"=iF (.builtin "isinstance"):=by decide +kernel
theorem jV:bootBuiltins "len"=iF (.builtin "len"):=by decide +kernel
theorem KM:bootBuiltins "list"=iF (.type "list"):=by decide +kernel
theorem qdx:bootBuiltins "max"=iF (.builtin "max"):=by decide +kernel
theorem qhk:bootBuiltins "min"=iF (.builtin "min"):=by decide +kernel
theorem qcF:bootBuiltins "range"=iF (.type "range"):=by decide +kernel
theorem qaQ:bootBuiltins "set"=iF (.type "set"):=by decide +kernel
theorem QQ:bootBuiltins "sorted"=iF (.builtin "sorted"):=by decide +kernel
theorem qaR:bootBuiltins "str"=iF (.type "str"):=by decide +kernel
theorem qaS:bootBuiltins "sum"=iF (.builtin "sum"):=by decide +kernel
theorem yN:bootBuiltins "tuple"=iF (.type "tuple"):=by decide +kernel
variable {ca:Str->Addr}
theorem rz {X:Cx} {C:Ct} {own own':List Nat} {as:List AK} {e:Expr} {es:List Expr} {fr:wV} {np cpos pos:Pos} (Z:Zt X.K X.mg C.cv ca) (c:Str) (g:PA X (e::es) (tAr C own as fr)) (h:c∈CS:=by decide +kernel) (d:X.ex=[]:=by rfl) (ht:YO X C:=by exact qgW rfl) (P:X.calm=true:=by rfl) (hg:Gl X c:=by rfl) (hsz:as.length<=1000:=by decide) (o:∀ i∈C.ox,i∈own:=by exact kz rfl) (hd:Dbg c:=by decide)
  (a:starEach (e::es) X.env=(iJ,eval e X.env)::starEach es X.env:=by exact jl rfl) (l:(backTo cpos (starEach es X.env)).any (·.1)=false:=by rfl):PS X (.Raise (iF (.Call (.Name c np) (e::es) [] cpos)) iH pos) (tSt C own own' (jp c fr)):=
 GY d ht P hg (Z.mref c h) (Z.xs.val c h) (Z.xin c h) g hsz o hd a l
instance {α:Type}:Inhabited (Out α):=⟨.bad⟩
structure Ev where
 P:iN
 w:iO
 K:Frag
 mg:Str->Option iI
 base:Heap
 cv:Str->iI
abbrev qM (e0:Ev):=DefOk e0.P e0.w e0.K e0.mg e0.base e0.cv
abbrev qjt (e0:Ev):=qi2 e0.P e0.w e0.K e0.mg e0.base e0.cv
abbrev qfc (e0:Ev):=qaA e0.P e0.w e0.K e0.mg e0.base e0.cv
abbrev zR (e0:Ev):=Xm e0.P e0.w e0.K e0.mg e0.base e0.cv
abbrev wL (e0:Ev):=vQ e0.K e0.mg
abbrev ZtE (e0:Ev) (ca:Str->Addr):=Zt e0.K e0.mg e0.cv ca
section
variable {e0:Ev}
abbrev vV:Stmt:=top 17
abbrev gp:List Str:=["thing", "least", "most"]
abbrev vW:List Str:=["thing", "least", "most"]
theorem KN:FnScope gp vW (ql vV):=fsc
noncomputable def vX:qR:=(qG (sIf (dOr (xF (uZ (d1 (wW "int") (qd 0)))) (uZ (d1 (wW "bool") (qd 0)))) (jz (dC (.bl iJ))) qX)
  (jz (xV leD leD (qd 1) (qd 0) (qd 2))))
noncomputable abbrev kf:jJ:=kj gp [.val,.val,.val] (vX)
abbrev vk (e0:Ev):=qM e0 1 "is_between" vW [.val,.val,.val] .sh (kf)
theorem KO (Z:ZtE e0 ca) (T:wL e0 "is_between" vV vW):vk e0:=
 qL (k:=0) (own':=[]) (fb:=vX) T KN λcdv f A outer s H E c=>(qe (qO (PW.pt (yf (ja (tv (zf rfl rfl Z.z_isinstance qy rfl Z.z_int qhj (vr 0)))) (kA (tv (zf rfl rfl Z.z_isinstance qy rfl Z.z_bool qfb (vr 0)))))) (qg (qo ua)) qD)
  (qg (qo (YI Wf Wf (vr 1) (vr 0) (vr 2)))))
abbrev vY:Stmt:=top 27
abbrev gq:List Str:=["thing"]
theorem KQ:FnScope gq ["thing"] (ql vY):=fsc
noncomputable def ym:qR:=(sIf (xF (uZ (qu [.vl,.vl,.vl] kf (qc (qd 0) (qc (dC (.int 1)) (qc (dC (.int 99)) qA)))))) (jp "NoRoom" (qc (dC (.str "a room is a whole number from 1 to 99")) qA)) qX)
noncomputable abbrev vZ:jJ:=kj gq [.val] (ym)
abbrev uc (e0:Ev):=qM e0 2 "check_room" ["thing"] [.val] .sh (vZ)
theorem KR (Z:ZtE e0 ca) (T:wL e0 "check_room" vY ["thing"]) (o:vk e0):uc e0:=
 qL (k:=1) (own':=[]) (fb:=ym) T KQ λcdv f A outer s H E c=>(qg (qO (ja (tv (cN o c (qb (vr 0) (qb qw (qb (yK Z.c_MOST_ROOM rfl) qf)))))) (qg (rz Z "NoRoom" (qb qY qf))) qD))
abbrev ud:Stmt:=top 18
abbrev QR:List Str:=["thing"]
theorem WK:FnScope QR ["thing"] (ql ud):=fsc
noncomputable def vG:qR:=(jz (Wa (d1 (wW "str") (qd 0)) (Wa (d2 eqD (d1 jY (qd 0)) (dC (.int 1))) (xV leD leD (dC (.str "a")) (qd 0) (dC (.str "z"))))))
noncomputable abbrev kC:jJ:=kj QR [.val] (vG)
abbrev yn (e0:Ev):=qM e0 1 "is_letter" ["thing"] [.val] .sh (kC)
theorem WL (Z:ZtE e0 ca) (T:wL e0 "is_letter" ud ["thing"]):yn e0:=
 qL (k:=0) (own':=[]) (fb:=vG) T WK λcdv f A outer s H E c=>(qg (qo (Wc (zf rfl rfl Z.z_isinstance qy rfl Z.z_str qaR (vr 0)) (Wc (xm (ye rfl c.units) (qF (ke rfl) rfl Z.z_len jV (vr 0)) qw) (Wb (YI Wf Wf qY (vr 0) qY))))))
abbrev yO:Stmt:=top 22
abbrev JT:List Str:=["thing", "room"]
abbrev yP:List Str:=["thing", "room"]
theorem UU:FnScope JT yP (ql yO):=fsc
noncomputable def kE:qR:=(qG (sIf (dOr (xF (uZ (d1 (wW "tuple") (qd 0)))) (qH (d2 neD (d1 jY (qd 0)) (dC (.int 2))))) (jz (dC (.bl iJ))) qX)
  (jz (Wa (qu [.vl] kC (qc (d2 ixD (qd 0) (dC (.int 0))) qA)) (qu [.vl,.vl,.vl] kf (qc (d2 ixD (qd 0) (dC (.int 1))) (qc (dC (.int 0)) (qc (d2 Zi (qd 1) (dC (.int 1))) qA)))))))
noncomputable abbrev yQ:jJ:=kj JT [.val,.val] (kE)
abbrev QS (e0:Ev):=qM e0 2 "is_worth" yP [.val,.val] .sh (yQ)
theorem UV (Z:ZtE e0 ca) (T:wL e0 "is_worth" yO yP) (o:vk e0) (J:yn e0):QS e0:=
 qL (k:=1) (own':=[]) (fb:=kE) T UU λcdv f A outer s H E c=>(qe (qO (PW.pt (yf (ja (tv (zf rfl rfl Z.z_isinstance qy rfl Z.z_tuple yN (vr 0)))) (kA (qC (gH rfl c.units) (qF (ke rfl) rfl Z.z_len jV (vr 0)) qw)))) (qg (qo ua)) qD)
  (qg (qo (Wc (cN J c (qb (ix c (vr 0) qw) qf)) (Wb (cN o c (qb (ix c (vr 0) qw) (qb qw (qb (jR JD (vr 1) qw) qf)))))))))
abbrev ue:Stmt:=top 23
abbrev QT:List Str:=["thing", "room", "letters"]
abbrev uf:List Str:=["thing", "room"]
theorem sc_is_worths:FnScope QT uf (ql ue):=fsc
noncomputable def ug:qR:=(qG (sIf (dOr (xF (uZ (d1 (wW "tuple") (qd 0)))) (xF (uZ (d1 YW (jh [] 1 [1] (jU (qd 0)) (gNm 0) ftT (qu [.vl,.vl] yQ (qc (qd 0) (qc (qd 1) qA)))))))) (jz (dC (.bl iJ))) qX)
  (qG (jD 2 (jh [] 1 [] (jU (qd 0)) (gNm 0) ftT (d2 ixD (qd 0) (dC (.int 0)))))
  (jz (d2 eqD (qd 2) (d1 yL (qd 2))))))
noncomputable abbrev kF:jJ:=kj QT [.val,.val] (ug)
abbrev gt (e0:Ev):=qM e0 3 "is_worths" uf [.val,.val] .sh (kF)
theorem WM (Z:ZtE e0 ca) (T:wL e0 "is_worths" ue uf) (O:QS e0):gt e0:=
 qL (k:=2) (own':=[]) (fb:=ug) T sc_is_worths λcdv f A outer s H E c=>(qe (qO (PW.pt (yf (ja (tv (zf rfl rfl Z.z_isinstance qy rfl Z.z_tuple yN (vr 0)))) (kA (ja (tv (qF (Qu rfl rfl) rfl Z.z_all QP (cmp (jb rfl (vr 0)) (λ_ _ _ _=>(jH O c (by decide) gJ rfl (qb (vr 0) (qb (vr 1) qf))))))))))) (qg (qo ua)) qD)
  (qe (qio 2 sc_is_worths.nd (jb rfl (vr 0)) (λ_ _ _ _=>(ix c (vr 0) qw)))
  (vg [2] (qg (qo (xm (ye rfl c.units) (vr 2) (JQ rfl rfl rfl Z.z_sorted QQ rfl Z.z_set qaQ (vr 2))))))))
abbrev kK:Stmt:=top 28
abbrev xu:List Str:=["thing", "room"]
abbrev kL:List Str:=["thing", "room"]
theorem QU:FnScope xu kL (ql kK):=fsc
noncomputable def wE:qR:=(sIf (xF (uZ (qu [.vl,.vl] kF (qc (qd 0) (qc (qd 1) qA))))) (jp "NoWorths" (qc (dC (.str "worths are a rising tuple of unlike letters, each with a number within the room")) qA)) qX)
noncomputable abbrev wF:jJ:=kj xu [.val,.val] (wE)
abbrev yo (e0:Ev):=qM e0 4 "check_worths" kL [.val,.val] .sh (wF)
theorem QV (Z:ZtE e0 ca) (T:wL e0 "check_worths" kK kL) (o:gt e0):yo e0:=
 qL (k:=3) (own':=[]) (fb:=wE) T QU λcdv f A outer s H E c=>(qg (qO (ja (tv (cN o c (qb (vr 0) (qb (vr 1) qf))))) (qg (rz Z "NoWorths" (qb qY qf))) qD))
abbrev zk:Stmt:=top 19
abbrev WN:List Str:=["thing"]
theorem ZM:FnScope WN ["thing"] (ql zk):=fsc
noncomputable def kr:qR:=(qG (sIf (dOr (xF (uZ (d1 (wW "str") (qd 0)))) (xF (qH (xV leD leD (dC (.int 1)) (d1 jY (qd 0)) (dC (.int 6)))))) (jz (dC (.bl iJ))) qX)
  (jz (d1 YW (jh [] 1 [] (jU (qd 0)) (gNm 0) ftT (qu [.vl] kC (qc (qd 0) qA))))))
noncomputable abbrev kt:jJ:=kj WN [.val] (kr)
abbrev yR (e0:Ev):=qM e0 2 "is_word" ["thing"] [.val] .sh (kt)
theorem ZN (Z:ZtE e0 ca) (T:wL e0 "is_word" zk ["thing"]) (J:yn e0):yR e0:=
 qL (k:=1) (own':=[]) (fb:=kr) T ZM λcdv f A outer s H E c=>(qe (qO (PW.pt (yf (ja (tv (zf rfl rfl Z.z_isinstance qy rfl Z.z_str qaR (vr 0)))) (kA (ja (We Wf Wf qw (qF (ke rfl) rfl Z.z_len jV (vr 0)) (yK Z.c_MOST_LETTERS rfl)))))) (qg (qo ua)) qD)
  (qg (qo (qF (Qu rfl rfl) rfl Z.z_all QP (cmp (jb rfl (vr 0)) (λ_ _ _ _=>(jH J c (by decide) gJ rfl (qb (vr 0) qf))))))))
abbrev yS:Stmt:=top 20
abbrev JU:List Str:=["thing"]
theorem UW:FnScope JU ["thing"] (ql yS):=fsc
noncomputable def zS:qR:=(qG (sIf (dOr (xF (uZ (d1 (wW "tuple") (qd 0)))) (xF (qH (xV leD leD (dC (.int 1)) (d1 jY (qd 0)) (dC (.int 6)))))) (jz (dC (.bl iJ))) qX)
  (jz (Wa (d1 YW (jh [] 1 [] (jU (qd 0)) (gNm 0) ftT (qu [.vl] kt (qc (qd 0) qA)))) (d2 eqD (d1 QK (qd 0)) (d1 jY (qd 0))))))
noncomputable abbrev zT:jJ:=kj JU [.val] (zS)
abbrev QW (e0:Ev):=qM e0 3 "is_words" ["thing"] [.val] .sh (zT)
theorem UX (Z:ZtE e0 ca) (T:wL e0 "is_words" yS ["thing"]) (o:yR e0):QW e0:=
 qL (k:=2) (own':=[]) (fb:=zS) T UW λcdv f A outer s H E c=>(qe (qO (PW.pt (yf (ja (tv (zf rfl rfl Z.z_isinstance qy rfl Z.z_tuple yN (vr 0)))) (kA (ja (We Wf Wf qw (qF (ke rfl) rfl Z.z_len jV (vr 0)) (yK Z.c_MOST_WORDS rfl)))))) (qg (qo ua)) qD)
  (qg (qo (Wc (qF (Qu rfl rfl) rfl Z.z_all QP (cmp (jb rfl (vr 0)) (λ_ _ _ _=>(jH o c (by decide) gJ rfl (qb (vr 0) qf))))) (Wb (xm (ye rfl c.units) (qar rfl rfl rfl Z.z_len jV rfl Z.z_set qaQ (vr 0)) (qF (ke rfl) rfl Z.z_len jV (vr 0))))))))
abbrev vm:Stmt:=top 24
abbrev zl:List Str:=["thing"]
theorem Ju:FnScope zl ["thing"] (ql vm):=fsc
noncomputable def uh:qR:=(sIf (xF (uZ (qu [.vl] zT (qc (qd 0) qA)))) (jp "NoWords" (qc (dC (.str "words are a tuple of 1 to 6 unlike words of 1 to 6 letters from a to z")) qA)) qX)
noncomputable abbrev ui:jJ:=kj zl [.val] (uh)
abbrev xw (e0:Ev):=qM e0 4 "check_words" ["thing"] [.val] .sh (ui)
theorem Jv (Z:ZtE e0 ca) (T:wL e0 "check_words" vm ["thing"]) (O:QW e0):xw e0:=
 qL (k:=3) (own':=[]) (fb:=uh) T Ju λcdv f A outer s H E c=>(qg (qO (ja (tv (cN O c (qb (vr 0) qf)))) (qg (rz Z "NoWords" (qb qY qf))) qD))
abbrev zm:Stmt:=top 21
abbrev WO:List Str:=["thing"]
theorem ZO:FnScope WO ["thing"] (ql zm):=fsc
noncomputable def QX:qR:=(qG (sIf (dOr (xF (uZ (d1 (wW "tuple") (qd 0)))) (qH (d2 neD (d1 jY (qd 0)) (dC (.int 2))))) (jz (dC (.bl iJ))) qX)
  (jz (d1 YW (jh [] 1 [] (jU (qd 0)) (gNm 0) ftT (qu [.vl,.vl,.vl] kf (qc (qd 0) (qc (dC (.int (-3))) (qc (dC (.int 2)) qA))))))))
noncomputable abbrev QY:jJ:=kj WO [.val] (QX)
abbrev JV (e0:Ev):=qM e0 2 "is_look" ["thing"] [.val] .sh (QY)
theorem ZP (Z:ZtE e0 ca) (T:wL e0 "is_look" zm ["thing"]) (o:vk e0):JV e0:=
 qL (k:=1) (own':=[]) (fb:=QX) T ZO λcdv f A outer s H E c=>(qe (qO (PW.pt (yf (ja (tv (zf rfl rfl Z.z_isinstance qy rfl Z.z_tuple yN (vr 0)))) (kA (qC (gH rfl c.units) (qF (ke rfl) rfl Z.z_len jV (vr 0)) qw)))) (qg (qo ua)) qD)
  (qg (qo (qF (Qu rfl rfl) rfl Z.z_all QP (cmp (jb rfl (vr 0)) (λ_ _ _ _=>(jH o c (by decide) gJ rfl (qb (vr 0) (qb (yK Z.c_LEAST_PLACE rfl) (qb (yK Z.c_MOST_PLACE rfl) qf))))))))))
abbrev wa:Stmt:=top 26
abbrev gu:List Str:=["thing"]
theorem KS:FnScope gu ["thing"] (ql wa):=fsc
noncomputable def yp:qR:=(sIf (xF (uZ (qu [.vl] QY (qc (qd 0) qA)))) (jp "NoLook" (qc (dC (.str "a look is a tuple of two places from -3 to 2")) qA)) qX)
noncomputable abbrev wb:jJ:=kj gu [.val] (yp)
abbrev uj (e0:Ev):=qM e0 3 "check_look" ["thing"] [.val] .sh (wb)
theorem KU (Z:ZtE e0 ca) (T:wL e0 "check_look" wa ["thing"]) (O:JV e0):uj e0:=
 qL (k:=2) (own':=[]) (fb:=yp) T KS λcdv f A outer s H E c=>(qg (qO (ja (tv (cN O c (qb (vr 0) qf)))) (qg (rz Z "NoLook" (qb qY qf))) qD))
abbrev ul:Stmt:=top 30
abbrev QZ:List Str:=["word", "place", "at"]
abbrev um:List Str:=["word", "place"]
theorem sc_letter_at:FnScope QZ um (ql ul):=fsc
noncomputable def uo:qR:=(qG (jD 2 (dIf (qH (d2 geD (qd 1) (dC (.int 0)))) (qd 1) (d2 vh (d1 jY (qd 0)) (qd 1))))
  (jz (d2 ixD (qd 0) (d2 qeJ (dC (.int 0)) (d2 qia (qd 2) (d2 Zi (d1 jY (qd 0)) (dC (.int 1))))))))
noncomputable abbrev vH:jJ:=kj QZ [.val,.val] (uo)
abbrev gx (e0:Ev):=qM e0 1 "letter_at" um [.val,.val] .sh (vH)
theorem WP (Z:ZtE e0 ca) (T:wL e0 "letter_at" ul um):gx e0:=
 qL (k:=0) (own':=[]) (fb:=uo) T sc_letter_at λcdv f A outer s H E c=>(qe (se 2 sc_letter_at.nd (Zl (qC qgF (vr 1) qw) (vr 1) (jR (kS rfl) (qF (ke rfl) rfl Z.z_len jV (vr 0)) (vr 1))))
  (qg (qo (ix c (vr 0) (Qt (qdn rfl) rfl Z.z_max qdx qw (Qt (qgS rfl) rfl Z.z_min qhk (vr 2) (jR JD (qF (ke rfl) rfl Z.z_len jV (vr 0)) qw)))))))
abbrev KW:Stmt:=top 31
abbrev qaT:List Str:=["words", "look"]
abbrev KY:List Str:=["words", "look"]
theorem qcG:FnScope qaT KY (ql KW):=fsc
noncomputable def UY:qR:=(qG (vN (qu [.vl] ui (qc (qd 0) qA)))
  (qG (vN (qu [.vl] wb (qc (qd 1) qA)))
  (jz (jh [] 1 [1] (jU (qd 0)) (gNm 0) ftT (uT (qc (qu [.vl,.vl] vH (qc (qd 0) (qc (d2 ixD (qd 1) (dC (.int 0))) qA))) (qc (qu [.vl,.vl] vH (qc (qd 0) (qc (d2 ixD (qd 1) (dC (.int 1))) qA))) qA)))))))
noncomputable abbrev xJ:jJ:=kj qaT [.val,.val] (UY)
abbrev zn (e0:Ev):=qM e0 5 "pairs" KY [.val,.val] .sh (xJ)
theorem qcH (Z:ZtE e0 ca) (T:wL e0 "pairs" KW KY) (X:xw e0) (C:uj e0) (o:gx e0):zn e0:=
 qL (k:=4) (own':=[]) (fb:=UY) T qcG λcdv f A outer s H E c=>(qe (jC (cN X c (qb (vr 0) qf)))
  (qe (jC (cN C c (qb (vr 1) qf)))
  (qg (qo (cmp (jb rfl (vr 0)) (λ_ _ _ _=>(jE (qb (jH o c (by decide) gJ rfl (qb (vr 0) (qb (ix c (vr 1) qw) qf))) (qb (jH o c (by decide) gJ rfl (qb (vr 0) (qb (ix c (vr 1) qw) qf))) qf)))))))))
abbrev wc:Stmt:=top 32
abbrev gy:List Str:=["seen"]
theorem KZ:FnScope gy ["seen"] (ql wc):=fsc
noncomputable def yq:qR:=(jz (d1 yL (d2 vh (jh [] 1 [] (jU (qd 0)) (gNm 0) ftT (d2 ixD (qd 0) (dC (.int 0)))) (jh [] 1 [] (jU (qd 0)) (gNm 0) ftT (d2 ixD (qd 0) (dC (.int 1)))))))
noncomputable abbrev jc:jJ:=kj gy [.val] (yq)
abbrev vn (e0:Ev):=qM e0 1 "letters_of" ["seen"] [.val] .sh (jc)
theorem Va (Z:ZtE e0 ca) (T:wL e0 "letters_of" wc ["seen"]):vn e0:=
 qL (k:=0) (own':=[]) (fb:=yq) T KZ λcdv f A outer s H E c=>(qg (qo (JQ rfl rfl rfl Z.z_sorted QQ rfl Z.z_set qaQ (jR (kS rfl) (cmp (jb rfl (vr 0)) (λ_ _ _ _=>(ix c (vr 0) qw))) (cmp (jb rfl (vr 0)) (λ_ _ _ _=>(ix c (vr 0) qw)))))))
abbrev gY:Stmt:=top 33
abbrev Xv:List Str:=["total", "room"]
abbrev gZ:List Str:=["total", "room"]
theorem qaU:FnScope Xv gZ (ql gY):=fsc
noncomputable def Vb:qR:=(jz (dIf (qH (d2 geD (qd 0) (qd 1))) (d2 Zi (qd 0) (qd 1)) (qd 0)))
noncomputable abbrev Qa:jJ:=kj Xv [.val,.val] (Vb)
abbrev WQ (e0:Ev):=qM e0 1 "within" gZ [.val,.val] .sh (Qa)
theorem qaV (Z:ZtE e0 ca) (T:wL e0 "within" gY gZ):WQ e0:=
 qL (k:=0) (own':=[]) (fb:=Vb) T qaU λcdv f A outer s H E c=>(qg (qo (Zl (qC qgF (vr 0) (vr 1)) (jR JD (vr 0) (vr 1)) (vr 0))))
abbrev yT:Stmt:=top 34
abbrev JW:List Str:=["words", "look", "room", "worths", "seen", "worth_of"]
abbrev yU:List Str:=["words", "look", "room", "worths"]
theorem sc_numbered:FnScope JW yU (ql yT):=fsc
noncomputable def yV:qR:=(qG (jD 4 (qu [.vl,.vl] xJ (qc (qd 0) (qc (qd 1) qA))))
  (qG (vN (qu [.vl] vZ (qc (qd 2) qA)))
  (qG (vN (qu [.vl,.vl] wF (qc (qd 3) (qc (qd 2) qA))))
  (qG (jD 5 (d1 qcn (qd 3)))
  (qG (sIf (xF (uZ (d1 YW (jh [] 1 [5] (jU (qu [.vl] jc (qc (qd 4) qA))) (gNm 0) ftT (d2 inA (qd 0) (qd 1)))))) (jp "NoWorths" (qc (dC (.str "a letter that is seen has no worth")) qA)) qX)
  (jz (d1 Wo (jh [] 1 [2,5] (jU (qd 4)) (gNm 0) ftT (qu [.vl,.vl] Qa (qc (d2 vh (d2 ixD (qd 2) (d2 ixD (qd 0) (dC (.int 0)))) (d2 ixD (qd 2) (d2 ixD (qd 0) (dC (.int 1))))) (qc (qd 1) qA)))))))))))
noncomputable abbrev kG:jJ:=kj JW [.val,.val,.val,.val] (yV)
abbrev xK (e0:Ev):=qM e0 6 "numbered" yU [.val,.val,.val,.val] .sh (kG)
theorem UZ (Z:ZtE e0 ca) (T:wL e0 "numbered" yT yU) (a:uc e0) (U:yo e0) (o:zn e0) (j:vn e0) (O:WQ e0):xK e0:=
 qL (k:=5) (own':=[]) (fb:=yV) T sc_numbered λcdv f A outer s H E c=>(qe (se 4 sc_numbered.nd (cN o c (qb (vr 0) (qb (vr 1) qf))))
  (qe (jC (cN a c (qb (vr 2) qf)))
  (qe (jC (cN U c (qb (vr 3) (qb (vr 2) qf))))
  (qe (se 5 sc_numbered.nd (wO (qeO rfl rfl) rfl Z.z_dict UT (vr 3)))
  (qe (qO (ja (tv (qF (Qu rfl rfl) rfl Z.z_all QP (cmp (jb rfl (cN j c (qb (vr 4) qf))) (λ_ _ _ _=>(xm (JM rfl c.units) (vr 0) (vr 1))))))) (qg (rz Z "NoWorths" (qb qY qf))) qD)
  (qg (qo (wO (YU rfl) rfl Z.z_tuple yN (cmp (jb rfl (vr 4)) (λ_ _ _ _=>(jH O c (by decide) gJ rfl (qb (jR (kS rfl) (ix c (vr 2) (ix c (vr 0) qw)) (ix c (vr 2) (ix c (vr 0) qw))) (qb (vr 1) qf)))))))))))))
abbrev yW:Stmt:=top 39
abbrev JX:List Str:=["pair", "seen", "fixed", "letter"]
abbrev yX:List Str:=["pair", "seen", "fixed"]
theorem sc_is_loose:FnScope JX yX (ql yW):=fsc
noncomputable def zU:qR:=(qG (Uj (jU (qd 0)) (gNm 3)
  (sIf (qer (qH (d2 JL (qd 3) (qd 2))) (qH (d2 eqD (d1 KH (jh [] 1 [3] (jU (qd 1)) (gNm 0) ftT (dM qcz xp (qd 0) (qd 1)))) (dC (.int 1))))) (jz (dC (.bl iK))) qX))
  (jz (dC (.bl iJ))))
noncomputable abbrev kg:jJ:=kj JX [.val,.val,.val] (zU)
abbrev Ja (e0:Ev):=qM e0 1 "is_loose" yX [.val,.val,.val] .sh (kg)
theorem Yb (Z:ZtE e0 ca) (T:wL e0 "is_loose" yW yX):Ja e0:=
 qL (k:=0) (own':=[]) (fb:=zU) T sc_is_loose λcdv f A outer s H E c=>(qe (wD bb rfl (jb rfl (vr 0)) (gn 3 sc_is_loose.nd)
  (qg (qO (PW.pt (Uz (qC (zh rfl c.units) (vr 3) (vr 2)) (kA (qC (ye rfl c.units) (qF (UR rfl rfl) rfl Z.z_sum qaS (cmp (jb rfl (vr 1)) (λ_ _ _ _=>(qaF rfl c.units (vr 0) (vr 1))))) qw)))) (qg (qo ua)) qD)))
  (qg (qo ua)))
abbrev vo:Stmt:=top 40
abbrev uq:List Str:=["seen", "fixed", "kept", "rest"]
abbrev vp:List Str:=["seen", "fixed"]
theorem sc_bound_pairs:FnScope uq vp (ql vo):=fsc
noncomputable def ur:qR:=(qG (jD 2 (qd 0))
  (qG (jD 3 (jh [] 1 [2,1] (jU (qd 2)) (gNm 0) (xF (uZ (qu [.vl,.vl,.vl] kg (qc (qd 0) (qc (qd 1) (qc (qd 2) qA)))))) (qd 0)))
  (qG (qP (qH (d2 ltD (d1 jY (qd 3)) (d1 jY (qd 2))))
  (qG (jD 2 (qd 3))
  (qG (jD 3 (jh [] 1 [2,1] (jU (qd 2)) (gNm 0) (xF (uZ (qu [.vl,.vl,.vl] kg (qc (qd 0) (qc (qd 1) (qc (qd 2) qA)))))) (qd 0))) qX)) 20)
  (jz (qd 2)))))
noncomputable abbrev ut:jJ:=kj uq [.val,.val] (ur)
abbrev xx (e0:Ev):=qM e0 2 "bound_pairs" vp [.val,.val] .sh (ut)
theorem Jw (Z:ZtE e0 ca) (T:wL e0 "bound_pairs" vo vp) (o:Ja e0):xx e0:=
 qL (k:=1) (own':=[]) (fb:=ur) T sc_bound_pairs λcdv f A outer s H E c=>(qe (se 2 sc_bound_pairs.nd (vr 0))
  (qe (qio 3 sc_bound_pairs.nd (jb rfl (vr 2)) (λ_ _ _ _=>(vr 0)) (ht:=λ_ _ _ _=>(Kr (ja (tv (jH o c (by decide) gJ rfl (qb (vr 0) (qb (vr 1) (qb (vr 2) qf)))))))))
  (vg [3] (qe (za 20 bb (qC qbV (qF (ke rfl) rfl Z.z_len jV (vr 3)) (qF (ke rfl) rfl Z.z_len jV (vr 2)))
  (qe (se 2 sc_bound_pairs.nd (vr 3))
  (qe (qio 3 sc_bound_pairs.nd (jb rfl (vr 2)) (λ_ _ _ _=>(vr 0)) (ht:=λ_ _ _ _=>(Kr (ja (tv (jH o c (by decide) gJ rfl (qb (vr 0) (qb (vr 1) (qb (vr 2) qf)))))))))
  (vg [3] qD))))
  (qg (qo (vr 2)))))))
abbrev yY:Stmt:=top 41
abbrev zV:List Str:=["one", "two", "first", "second", "letter"]
abbrev yZ:List Str:=["one", "two"]
theorem sc_unshared:FnScope zV yZ (ql yY):=fsc
noncomputable def zW:qR:=(qG (jD 2 (d1 qeH (qd 0)))
  (qG (jD 3 (VF qA))
  (qG (Uj (jU (qd 1)) (gNm 4)
  (sIf (qH (d2 inA (qd 4) (qd 2))) (vN (Ks 2 qe7 (qd 4))) (vN (Ks 3 YR (qd 4)))))
  (jz (uT (qc (qd 2) (qc (qd 3) qA)))))))
noncomputable abbrev kI:jJ:=kj zV [.val,.val] (zW)
abbrev Jb (e0:Ev):=qM e0 1 "unshared" yZ [.val,.val] .sh (kI)
theorem Yc (Z:ZtE e0 ca) (T:wL e0 "unshared" yY yZ):Jb e0:=
 qL (k:=0) (own':=[]) (fb:=zW) T sc_unshared λcdv f A outer s H E c=>(qe (sO 2 sc_unshared.nd (wO (qeI rfl) rfl Z.z_list KM (vr 0)))
  (qe (sO 3 sc_unshared.nd (uO qf))
  (qe (wD bb rfl (jb rfl (vr 1)) (gn 4 sc_unshared.nd)
  (qg (qO (qC (JM rfl c.units) (vr 4) (vO 2)) (qg (jC (qaD (i:=2) rfl (bE rfl) (by decide) (vr 4)))) (qg (jC (Qs (i:=3) rfl rfl (bE rfl) (by decide) (vr 4)))))))
  (vg [2,3] (qg (qo (jE (qb (vr 2) (qb (vr 3) qf)))))))))
abbrev kM:Stmt:=top 42
abbrev xy:List Str:=["seen", "found", "later", "pair"]
theorem sc_contrasts_of:FnScope xy ["seen"] (ql kM):=fsc
noncomputable def wG:qR:=(qG (jD 1 (VF qA))
  (qG (Uj (qay (qd 0)) (xj 2 (jr (gNm 2) (jr (gNm 3) xi)))
  (vN (Ks 1 qbv (jh [1] 1 [3] (jU (vF (qd 0) iH (iF (qd 2)))) (gNm 0) ftT (qu [.vl,.vl] kI (qc (qd 0) (qc (qd 1) qA)))))))
  (jz (qd 1))))
noncomputable abbrev wH:jJ:=kj xy [.val] (wG)
abbrev yr (e0:Ev):=qM e0 2 "contrasts_of" ["seen"] [.val] .sh (wH)
theorem Jc (Z:ZtE e0 ca) (T:wL e0 "contrasts_of" kM ["seen"]) (O:Jb e0):yr e0:=
 qL (k:=1) (own':=[]) (fb:=wG) T sc_contrasts_of λcdv f A outer s H E c=>(qe (sO 1 sc_contrasts_of.nd (uO qf))
  (qe (wD bb rfl (Xk rfl rfl Z.z_enumerate (vr 0)) (UC rfl rfl (wP (gn 2 sc_contrasts_of.nd) (wP (gn 3 sc_contrasts_of.nd) Ko)))
  (qg (jC (Wn (i:=1) rfl (bE rfl) (by decide) (cmp (jb rfl (WE rfl (vr 0) YX (YY (vr 2)))) (λ_ _ _ _=>(jH O c (by decide) gJ rfl (qb (vr 0) (qb (vr 1) qf)))))))))
  (vg [1] (qg (qo (vr 1))))))
abbrev we:Stmt:=top 43
abbrev yt:List Str:=["contrast", "room", "fixed", "first", "second"]
abbrev wf:List Str:=["contrast", "room", "fixed"]
theorem sc_may_differ:FnScope yt wf (ql we):=fsc
noncomputable def yu:qR:=(qG (jD 3 (d2 ixD (qd 0) (dC (.int 0))))
  (qG (jD 4 (d2 ixD (qd 0) (dC (.int 1))))
  (qG (sIf (xF (uZ (d1 YW (jh [] 1 [2] (jU (d2 vh (qd 3) (qd 4))) (gNm 0) ftT (d2 inA (qd 0) (qd 1)))))) (jz (dC (.bl iK))) qX)
  (jz (d2 neD (d2 qbU (d2 Zi (d1 KH (jh [] 1 [2] (jU (qd 3)) (gNm 0) ftT (d2 ixD (qd 1) (qd 0)))) (d1 KH (jh [] 1 [2] (jU (qd 4)) (gNm 0) ftT (d2 ixD (qd 1) (qd 0))))) (qd 1)) (dC (.int 0)))))))
noncomputable abbrev kU:jJ:=kj yt [.val,.val,.val] (yu)
abbrev uu (e0:Ev):=qM e0 1 "may_differ" wf [.val,.val,.val] .sh (kU)
theorem Vc (Z:ZtE e0 ca) (T:wL e0 "may_differ" we wf):uu e0:=
 qL (k:=0) (own':=[]) (fb:=yu) T sc_may_differ λcdv f A outer s H E c=>(qe (se 3 sc_may_differ.nd (ix c (vr 0) qw))
  (qe (se 4 sc_may_differ.nd (ix c (vr 0) qw))
  (qe (qO (ja (tv (qF (Qu rfl rfl) rfl Z.z_all QP (cmp (jb rfl (jR (kS rfl) (vr 3) (vr 4))) (λ_ _ _ _=>(xm (JM rfl c.units) (vr 0) (vr 1))))))) (qg (qo ua)) qD)
  (qg (qo (xm (gH rfl c.units) (jR VY (jR JD (qF (UR rfl rfl) rfl Z.z_sum qaS (cmp (jb rfl (vr 3)) (λ_ _ _ _=>(ix c (vr 1) (vr 0))))) (qF (UR rfl rfl) rfl Z.z_sum qaS (cmp (jb rfl (vr 4)) (λ_ _ _ _=>(ix c (vr 1) (vr 0)))))) (vr 1)) qw))))))
abbrev wg:Stmt:=top 44
abbrev gz:List Str:=["fixed", "letter", "worth", "more"]
abbrev wj:List Str:=["fixed", "letter", "worth"]
theorem sc_with_worth:FnScope gz wj (ql wg):=fsc
noncomputable def yv:qR:=(qG (jD 3 (d1 WD (qd 0)))
  (qG (WB 3 (qd 2) (qd 1))
  (jz (qd 3))))
noncomputable abbrev wk:jJ:=kj gz [.val,.val,.val] (yv)
abbrev uw (e0:Ev):=qM e0 1 "with_worth" wj [.val,.val,.val] .sh (wk)
theorem Vd (Z:ZtE e0 ca) (T:wL e0 "with_worth" wg wj):uw e0:=
 qL (k:=0) (own':=[]) (fb:=yv) T sc_with_worth λcdv f A outer s H E c=>(qe (sO 3 sc_with_worth.nd (wO (Xo rfl) rfl Z.z_dict UT (vr 0)))
  (qe (KG (n:=3) c.units rfl (bE rfl) (by decide) (vr 2) (vr 1))
  (vg [3] (qg (qo (vr 3))))))
abbrev jK:Stmt:=top 45
abbrev jL:List Str:=["contrasts", "room", "fixed", "letters", "choices", "worth"]
abbrev jM:List Str:=["contrasts", "room", "fixed", "letters"]
theorem sc_can_be_filled:FnScope jL jM (ql jK):=fsc
noncomputable def jt (gr:jJ):qR:=(qG (sIf (xF (uZ (d1 YW (jh [] 1 [1,2] (jU (qd 0)) (gNm 0) ftT (qu [.vl,.vl,.vl] kU (qc (qd 0) (qc (qd 1) (qc (qd 2) qA)))))))) (jz (dC (.bl iJ))) qX)
  (qG (sIf (qH (d2 eqD (d1 jY (qd 3)) (dC (.int 0)))) (jz (dC (.bl iK))) qX)
  (qG (jD 4 (dIf (qH (d2 eqD (d1 jY (qd 2)) (dC (.int 0)))) (VF (qc (dC (.int 0)) qA)) (d1 yM (qd 1))))
  (qG (Uj (jU (qd 4)) (gNm 5)
  (sIf (uZ (qu [.vl,.vl,.vl,.vl] gr (qc (qd 0) (qc (qd 1) (qc (qu [.vl,.vl,.vl] wk (qc (qd 2) (qc (d2 ixD (qd 3) (dC (.int 0))) (qc (qd 5) qA)))) (qc (vF (qd 3) (iF (dC (.int 1))) iH) qA)))))) (jz (dC (.bl iK))) qX))
  (jz (dC (.bl iJ)))))))
noncomputable def qV:Nat->jJ
 | 0=>kj jL [.val,.val,.val,.val] qjo
 | n+1=>kj jL [.val,.val,.val,.val] (jt (qV n))
noncomputable abbrev yw:jJ:=qV 14
abbrev uP (e0:Ev):=qM e0 16 "can_be_filled" jM [.val,.val,.val,.val] .sh yw
theorem gM (Z:ZtE e0 ca) (T:wL e0 "can_be_filled" jK jM) (F:uu e0) (G:uw e0) (n:Nat):qM e0 (2+n) "can_be_filled" ["contrasts", "room", "fixed", "letters"] [.val,.val,.val,.val] .sh (qV n):=by
 induction n with
 | zero=>exact qL (k:=1) (own':=[]) (fb:=qjo) T sc_can_be_filled λcdv f A outer s H E c=>qeZ
 | succ n o=>exact qL (k:=2+n) (own':=[]) (fb:=jt (qV n)) T sc_can_be_filled λcdv f A outer s H E c=>(qe (qO (ja (tv (qF (Qu rfl rfl) rfl Z.z_all QP (cmp (jb rfl (vr 0)) (λ_ _ _ _=>(jH F c (by omega) gJ rfl (qb (vr 0) (qb (vr 1) (qb (vr 2) qf))))))))) (qg (qo ua)) qD)
  (qe (qO (qC (ye rfl c.units) (qF (ke rfl) rfl Z.z_len jV (vr 3)) qw) (qg (qo ua)) qD)
  (qe (se 4 sc_can_be_filled.nd (Zl (qC (ye rfl c.units) (qF (ke rfl) rfl Z.z_len jV (vr 2)) qw) (uO (qb qw qf)) (ZH rfl rfl Z.z_list KM rfl Z.z_range qcF (vr 1))))
  (qe (wD bb rfl (jb rfl (vr 4)) (gn 5 sc_can_be_filled.nd)
  (qg (qO (tv (jH o c (by omega) gI rfl (qb (vr 0) (qb (vr 1) (qb (jH G c (by omega) gI rfl (qb (vr 2) (qb (ix c (vr 3) qw) (qb (vr 5) qf)))) (qb (WE rfl (vr 3) (YY qw) YX) qf)))))) (qg (qo ua)) qD)))
  (qg (qo ua))))))
theorem gN (Z:ZtE e0 ca) (T:wL e0 "can_be_filled" jK jM) (F:uu e0) (G:uw e0):uP e0:=gM Z T F G 14
abbrev wl:Stmt:=top 46
abbrev yx:List Str:=["seen", "room", "fixed", "bound", "letters"]
abbrev wm:List Str:=["seen", "room", "fixed"]
theorem sc_can_differ:FnScope yx wm (ql wl):=fsc
noncomputable def kW:qR:=(qG (sIf (qH (d2 ltD (qd 1) (d1 jY (qd 0)))) (jz (dC (.bl iJ))) qX)
  (qG (jD 3 (qu [.vl,.vl] ut (qc (qd 0) (qc (qd 2) qA))))
  (qG (jD 4 (jh [] 1 [2] (jU (qu [.vl] jc (qc (qd 3) qA))) (gNm 0) (qH (d2 JL (qd 0) (qd 1))) (qd 0)))
  (jz (qu [.vl,.vl,.vl,.vl] yw (qc (qu [.vl] wH (qc (qd 3) qA)) (qc (qd 1) (qc (qd 2) (qc (qd 4) qA)))))))))
noncomputable abbrev qW:jJ:=kj yx [.val,.val,.val] (kW)
abbrev vt (e0:Ev):=qM e0 17 "can_differ" wm [.val,.val,.val] .sh (qW)
theorem Ve (Z:ZtE e0 ca) (T:wL e0 "can_differ" wl wm) (j:vn e0) (Y:xx e0) (W:yr e0) (o:uP e0):vt e0:=
 qL (k:=16) (own':=[]) (fb:=kW) T sc_can_differ λcdv f A outer s H E c=>(qe (qO (qC qbV (vr 1) (qF (ke rfl) rfl Z.z_len jV (vr 0))) (qg (qo ua)) qD)
  (qe (se 3 sc_can_differ.nd (cN Y c (qb (vr 0) (qb (vr 2) qf))))
  (qe (qio 4 sc_can_differ.nd (jb rfl (cN j c (qb (vr 3) qf))) (λ_ _ _ _=>(vr 0)) (ht:=λ_ _ _ _=>(Kr (qC (zh rfl c.units) (vr 0) (vr 1)))))
  (vg [4] (qg (qo (cN o c (qb (cN W c (qb (vr 3) qf)) (qb (vr 1) (qb (vr 2) (qb (vr 4) qf)))))))))))
abbrev zo:Stmt:=top 44
abbrev zp:List Str:=["fixed", "letter", "worth", "more"]
abbrev ux:List Str:=["fixed", "letter", "worth"]
theorem sc_with_worthL:FnScope zp ux (ql zo):=fsc
noncomputable def uy:qR:=(qG (jD 3 (d1 WD (qd 0)))
  (qG (WB 3 (qd 2) (qd 1))
  (jz (qd 3))))
noncomputable abbrev vw:jJ:=kj zp [.io,.val,.val] (uy)
abbrev xz (e0:Ev):=qM e0 1 "with_worth" ux [.io,.val,.val] .sh (vw)
theorem Jx (Z:ZtE e0 ca) (T:wL e0 "with_worth" zo ux):xz e0:=
 qL (k:=0) (own':=[0]) (fb:=uy) T sc_with_worthL λcdv f A outer s H E c=>(qe (sO 3 sc_with_worthL.nd (wO (Xo rfl) rfl Z.z_dict UT (vO 0)))
  (qe (KG (n:=3) c.units rfl (bE rfl) (by decide) (vr 2) (vr 1))
  (vg [3] (qg (qo (vr 3))))))
abbrev kN:Stmt:=top 47
abbrev wI:List Str:=["seen", "room", "fixed", "letter", "worth"]
abbrev kO:List Str:=["seen", "room"]
theorem sc_least_worths:FnScope wI kO (ql kN):=fsc
noncomputable def wJ:qR:=(qG (jD 2 (dC (.dct [])))
  (qG (Uj (jU (qu [.vl] jc (qc (qd 0) qA))) (gNm 3)
  (qG (jD 4 (dC (.int 0)))
  (qG (qP (qer (qH (d2 ltD (qd 4) (qd 1))) (xF (uZ (qu [.vl,.vl,.vl] qW (qc (qd 0) (qc (qd 1) (qc (qu [.sl 2,.vl,.vl] vw (jS (qc (qd 3) (qc (qd 4) qA)))) qA)))))))
  (jD 4 (d2 vh (qd 4) (dC (.int 1)))) 102)
  (qG (sIf (qH (d2 eqD (qd 4) (qd 1))) (jz (dC .non)) qX)
  (WB 2 (qd 4) (qd 3))))))
  (jz (d1 Wo (d1 vz (qd 2))))))
noncomputable abbrev jW:jJ:=kj wI [.val,.val] (wJ)
abbrev vI (e0:Ev):=qM e0 18 "least_worths" kO [.val,.val] .sh (jW)
theorem Jd (Z:ZtE e0 ca) (T:wL e0 "least_worths" kN kO) (j:vn e0) (a:xz e0) (o:vt e0):vI e0:=
 qL (k:=17) (own':=[]) (fb:=wJ) T sc_least_worths λcdv f A outer s H E c=>(qe (sO 2 sc_least_worths.nd Km)
  (qe (wD bb rfl (jb rfl (cN j c (qb (vr 0) qf))) (gn 3 sc_least_worths.nd)
  (qe (se 4 sc_least_worths.nd qw)
  (qe (za 102 bb (PW.pt (Uz (qC qbV (vr 4) (vr 1)) (kA (ja (tv (cN o c (qb (vr 0) (qb (vr 1) (qb (cN a c (sl 2 (qb (vr 3) (qb (vr 4) qf)))) qf)))))))))
  (qg (se 4 sc_least_worths.nd (jR (kS rfl) (vr 4) qw))))
  (qe (qO (qC (ye rfl c.units) (vr 4) (vr 1)) (qg (qo yd)) qD)
  (qg (KG (n:=2) c.units rfl (bE rfl) (by decide) (vr 4) (vr 3)))))))
  (qg (qo (wO (YU rfl) rfl Z.z_tuple yN (WI rfl rfl rfl Z.z_sorted QQ (vO 2)))))))
abbrev wn:Stmt:=top 49
abbrev gA:List Str:=["words", "look", "room", "seen"]
abbrev wo:List Str:=["words", "look", "room"]
theorem sc_one_to_one:FnScope gA wo (ql wn):=fsc
noncomputable def kX:qR:=(qG (jD 3 (qu [.vl,.vl] xJ (qc (qd 0) (qc (qd 1) qA))))
  (qG (vN (qu [.vl] vZ (qc (qd 2) qA)))
  (jz (dIf (uZ (qu [.vl,.vl,.vl] qW (qc (qd 3) (qc (qd 2) (qc (dC (.dct [])) qA))))) (qu [.vl,.vl] jW (qc (qd 3) (qc (qd 2) qA))) (dC .non)))))
noncomputable abbrev qK:jJ:=kj gA [.val,.val,.val] (kX)
abbrev zq (e0:Ev):=qM e0 19 "one_to_one" wo [.val,.val,.val] .sh (qK)
theorem Vf (Z:ZtE e0 ca) (T:wL e0 "one_to_one" wn wo) (a:uc e0) (o:zn e0) (m:vt e0) (b:vI e0):zq e0:=
 qL (k:=18) (own':=[]) (fb:=kX) T sc_one_to_one λcdv f A outer s H E c=>(qe (se 3 sc_one_to_one.nd (cN o c (qb (vr 0) (qb (vr 1) qf))))
  (qe (jC (cN a c (qb (vr 2) qf)))
  (qg (qo (Zl (tv (cN m c (qb (vr 3) (qb (vr 2) (qb Km qf))))) (cN b c (qb (vr 3) (qb (vr 2) qf))) yd)))))
abbrev ju:Stmt:=xC (top 51) 6
abbrev yy:List Str:=["self"]
theorem gO:FnScope yy ["self"] (ql ju):=fsc
noncomputable def vJ (ca:Str->Addr):qR:=(jz (d2 kq (d1 (gW (ca "Words") "came") (qd 0)) (d1 (gW (ca "Words") "held") (qd 0))))
noncomputable abbrev jv (ca:Str->Addr):jJ:=kj yy [.io] (vJ ca)
abbrev uQ (ca:Str->Addr) (e0:Ev):=zR e0 1 (ca "Words") "numbers" ["self"] [.io] .fr (jv ca)
theorem gP (Z:ZtE e0 ca) (T:zO e0.K (ca "Words") "numbers" "Words.numbers" ju ["self"]):uQ ca e0:=
 zQ (k:=0) (own':=[0]) (fb:=vJ ca) (hmr:=.inr λ_ _=>qhf) T gO λcdv f A outer s H E c=>(qg (GO (JR rfl rfl rfl Z.z_list KM rfl Z.z_zip (wQ rfl Z.b_cls (Z.b_no "came" (by decide +kernel)) (vO 0)) (wQ rfl Z.b_cls (Z.b_no "held" (by decide +kernel)) (vO 0)))))
abbrev jP:Stmt:=xC (top 51) 1
abbrev zr:List Str:=["self"]
theorem Jy:FnScope zr ["self"] (ql jP):=fsc
noncomputable def uz (ca:Str->Addr):qR:=(jz (d1 (gW (ca "Words") "came") (qd 0)))
noncomputable abbrev ku (ca:Str->Addr):jJ:=kj zr [.io] (uz ca)
abbrev xA (ca:Str->Addr) (e0:Ev):=zR e0 1 (ca "Words") "words" ["self"] [.io] .sh (ku ca)
theorem Jz (Z:ZtE e0 ca) (T:zO e0.K (ca "Words") "words" "Words.words" jP ["self"]):xA ca e0:=
 zQ (k:=0) (own':=[0]) (fb:=uz ca) T Jy λcdv f A outer s H E c=>(qg (qo (wQ rfl Z.b_cls (Z.b_no "came" (by decide +kernel)) (vO 0))))
abbrev jk:Stmt:=xC (top 51) 0
abbrev uR:List Str:=["self", "look"]
abbrev va:List Str:=["self", "look"]
theorem zX:FnScope uR va (ql jk):=fsc
noncomputable def vb (ca:Str->Addr):qR:=(qG (vN (qu [.vl] wb (qc (qd 1) qA)))
  (qG (QM (ca "Words") 0 "look" (qd 1))
  (qG (QM (ca "Words") 0 "came" (uT qA))
  (qG (QM (ca "Words") 0 "width" (dC (.int 0)))
  (QM (ca "Words") 0 "held" (uT qA))))))
noncomputable abbrev jZ (ca:Str->Addr):jJ:=kj uR [.io,.val] (vb ca)
abbrev wS (ca:Str->Addr) (e0:Ev):=qfc e0 4 (ca "Words") ["self", "look"] [.io,.val] (jZ ca)
theorem zY (Z:ZtE e0 ca) (T:qe4 e0.K (ca "Words") "Words.__init__" jk va) (C:uj e0):wS ca e0:=
 qe5 (k:=3) (own':=[0]) (fb:=vb ca) T zX λcdv f A outer s H E c=>(qe (jC (cN C c (qb (vr 1) qf)))
  (qe (xI rfl Z.b_cls (Z.b_no "look" (by decide +kernel)) (i:=0) rfl (bE rfl) (by decide) (vr 1))
  (qe (xI rfl Z.b_cls (Z.b_no "came" (by decide +kernel)) (i:=0) rfl (bE rfl) (by decide) (jE qf))
  (qe (xI rfl Z.b_cls (Z.b_no "width" (by decide +kernel)) (i:=0) rfl (bE rfl) (by decide) qw)
  (qg (xI rfl Z.b_cls (Z.b_no "held" (by decide +kernel)) (i:=0) rfl (bE rfl) (by decide) (jE qf)))))))
abbrev kh:Stmt:=xC (top 51) 2
abbrev gB:List Str:=["self"]
theorem Vg:FnScope gB ["self"] (ql kh):=fsc
noncomputable def yz (ca:Str->Addr):qR:=(jz (d1 (gW (ca "Words") "width") (qd 0)))
noncomputable abbrev kY (ca:Str->Addr):jJ:=kj gB [.io] (yz ca)
abbrev zt (ca:Str->Addr) (e0:Ev):=zR e0 1 (ca "Words") "room" ["self"] [.io] .sh (kY ca)
theorem Vh (Z:ZtE e0 ca) (T:zO e0.K (ca "Words") "room" "Words.room" kh ["self"]):zt ca e0:=
 zQ (k:=0) (own':=[0]) (fb:=yz ca) T Vg λcdv f A outer s H E c=>(qg (qo (wQ rfl Z.b_cls (Z.b_no "width" (by decide +kernel)) (vO 0))))
abbrev xa:Stmt:=top 53
abbrev JY:List Str:=["_law_script", "_law_k"]
abbrev kP:List Str:=["_law_script", "_law_k"]
theorem Yd:FnScope JY kP (ql xa):=fsc
noncomputable def wT:qR:=(qG (sIf (qH (d2 ltD (qd 1) (d1 jY (qd 0)))) (jz (d2 ixD (qd 0) (qd 1))) qX)
  (qG (sIf (qH (d2 eqD (qd 0) (VF qA))) (jz (dC (.int 0))) qX)
  (jz (d2 vh (d2 qdf (d2 ixD (qd 0) (d2 qbU (qd 1) (d1 jY (qd 0)))) (dC (.int 31))) (qd 1)))))
noncomputable abbrev zZ:jJ:=kj JY [.val,.val] (wT)
abbrev Je (e0:Ev):=qM e0 1 "_law_cell_at" kP [.val,.val] .sh (zZ)
theorem Ye (Z:ZtE e0 ca) (T:wL e0 "_law_cell_at" xa kP):Je e0:=
 qL (k:=0) (own':=[]) (fb:=wT) T Yd λcdv f A outer s H E c=>(qe (qO (qC qbV (vr 1) (qF (ke rfl) rfl Z.z_len jV (vr 0))) (qg (qo (ix c (vr 0) (vr 1)))) qD)
  (qe (qO (qC (ye rfl c.units) (vr 0) (uO qf)) (qg (qo qw)) qD)
  (qg (qo (jR (kS rfl) (jR VX (ix c (vr 0) (jR VY (vr 1) (qF (ke rfl) rfl Z.z_len jV (vr 0)))) qw) (vr 1))))))
abbrev Qb:Stmt:=top 54
abbrev Xw:List Str:=["_law_script", "_law_k", "_law_many", "_law_drawn"]
abbrev wp:List Str:=["_law_script", "_law_k", "_law_many"]
theorem sc_Lmixed:FnScope Xw wp (ql Qb):=fsc
noncomputable def Vi:qR:=(qG (jD 3 (d2 qbU (d2 qdf (d2 vh (d2 vh (qu [.vl,.vl] zZ (qc (qd 0) (qc (qd 1) qA))) (d2 qdf (dC (.int 7919)) (qd 1))) (dC (.int 1))) (dC (.int 48271))) (dC (.int 2147483647))))
  (jz (d2 qbU (d2 qbU (d2 vh (d2 vh (d2 qdf (qd 3) (qd 3)) (d2 qdf (dC (.int 7)) (qd 3))) (qd 1)) (dC (.int 2147483629))) (qd 2))))
noncomputable abbrev Vj:jJ:=kj Xw [.val,.val,.val] (Vi)
abbrev WR (e0:Ev):=qM e0 2 "_law_mixed" wp [.val,.val,.val] .sh (Vj)
theorem qaW (Z:ZtE e0 ca) (T:wL e0 "_law_mixed" Qb wp) (O:Je e0):WR e0:=
 qL (k:=1) (own':=[]) (fb:=Vi) T sc_Lmixed λcdv f A outer s H E c=>(qe (se 3 sc_Lmixed.nd (jR VY (jR VX (jR (kS rfl) (jR (kS rfl) (cN O c (qb (vr 0) (qb (vr 1) qf))) (jR VX qw (vr 1))) qw) qw) qw))
  (qg (qo (jR VY (jR VY (jR (kS rfl) (jR (kS rfl) (jR VX (vr 3) (vr 3)) (jR VX qw (vr 3))) (vr 1)) qw) (vr 2)))))
abbrev Vk:Stmt:=top 55
abbrev qaX:List Str:=["_law_script", "_law_town", "_law_many"]
abbrev uA:List Str:=["_law_script", "_law_town", "_law_many"]
theorem qcI:FnScope qaX uA (ql Vk):=fsc
noncomputable def Yg:qR:=(qG (vN (Ks 1 YR (dC (.int 0))))
  (jz (qu [.vl,.vl,.vl] Vj (qc (qd 0) (qc (d1 jY (qd 1)) (qc (qd 2) qA))))))
noncomputable abbrev kx:jJ:=kj qaX [.val,.io,.val] (Yg)
abbrev zu (e0:Ev):=qM e0 3 "_law_draw" uA [.val,.io,.val] .sh (kx)
theorem qcJ (Z:ZtE e0 ca) (T:wL e0 "_law_draw" Vk uA) (O:WR e0):zu e0:=
 qL (k:=2) (own':=[1]) (fb:=Yg) T qcI λcdv f A outer s H E c=>(qe (jC (Qs (i:=1) rfl rfl (bE rfl) (by decide) qw))
  (qg (qo (cN O c (qb (vr 0) (qb (qF (ke rfl) rfl Z.z_len jV (vO 1)) (qb (vr 2) qf)))))))
abbrev Vl:Stmt:=top 56
abbrev qaY:List Str:=["_law_script", "_law_town", "_law_some"]
abbrev uB:List Str:=["_law_script", "_law_town", "_law_some"]
theorem qcK:FnScope qaY uB (ql Vl):=fsc
noncomputable def Vm:qR:=(jz (d2 ixD (qd 2) (qu [.vl,.sl 1,.vl] kx (qc (qd 0) (jS (qc (d1 jY (qd 2)) qA))))))
noncomputable abbrev vK:jJ:=kj qaY [.val,.io,.val] (Vm)
abbrev Vn (e0:Ev):=qM e0 4 "_law_pick" uB [.val,.io,.val] .sh (vK)
theorem qcL (Z:ZtE e0 ca) (T:wL e0 "_law_pick" Vl uB) (o:zu e0):Vn e0:=
 qL (k:=3) (own':=[1]) (fb:=Vm) T qcK λcdv f A outer s H E c=>(qg (qo (ix c (vr 2) (cN o c (qb (vr 0) (sl 1 (qb (qF (ke rfl) rfl Z.z_len jV (vr 2)) qf)))))))
abbrev Vo:Stmt:=top 57
abbrev qaZ:List Str:=["_law_script", "_law_town", "_law_few", "_law_word_here", "_law_k"]
abbrev uC:List Str:=["_law_script", "_law_town", "_law_few"]
theorem sc_Lword:FnScope qaZ uC (ql Vo):=fsc
noncomputable def Yh:qR:=(qG (jD 3 (dC (.str "")))
  (qG (Uj (kZ (d2 vh (dC (.int 1)) (qu [.vl,.sl 1,.vl] kx (qc (qd 0) (jS (qc (qu [.vl,.sl 1,.vl] vK (qc (qd 0) (jS (qc (VF (qc (dC (.int 2)) (qc (dC (.int 3)) (qc (dC (.int 6)) qA)))) qA)))) qA)))))) (gNm 4)
  (jD 3 (d2 vh (qd 3) (d2 ixD (dC (.str "abcdefghijklmnopqrstuvwxyz")) (qu [.vl,.sl 1,.vl] kx (qc (qd 0) (jS (qc (qd 2) qA))))))))
  (jz (qd 3))))
noncomputable abbrev Vp:jJ:=kj qaZ [.val,.io,.val] (Yh)
abbrev Xx (e0:Ev):=qM e0 5 "_law_word" uC [.val,.io,.val] .sh (Vp)
theorem qcM (Z:ZtE e0 ca) (T:wL e0 "_law_word" Vo uC) (o:zu e0) (B:Vn e0):Xx e0:=
 qL (k:=4) (own':=[1]) (fb:=Yh) T sc_Lword λcdv f A outer s H E c=>(qe (se 3 sc_Lword.nd qY)
  (qe (wD bb rfl (zK rfl Z.z_range (jR (kS rfl) qw (cN o c (qb (vr 0) (sl 1 (qb (cN B c (qb (vr 0) (sl 1 (qb (uO (qb qw (qb qw (qb qw qf)))) qf)))) qf)))))) (gn 4 sc_Lword.nd)
  (qg (se 3 sc_Lword.nd (jR (kS rfl) (vr 3) (ix c qY (cN o c (qb (vr 0) (sl 1 (qb (vr 2) qf)))))))))
  (qg (qo (vr 3)))))
abbrev Vq:Stmt:=top 58
abbrev qa0:List Str:=["_law_script", "_law_town"]
abbrev uD:List Str:=["_law_script", "_law_town"]
theorem qcN:FnScope qa0 uD (ql Vq):=fsc
noncomputable def Yi:qR:=(jz (uT (qc (d2 Zi (qu [.vl,.sl 1,.vl] kx (qc (qd 0) (jS (qc (dC (.int 6)) qA)))) (dC (.int 3))) (qc (d2 Zi (qu [.vl,.sl 1,.vl] kx (qc (qd 0) (jS (qc (dC (.int 6)) qA)))) (dC (.int 3))) qA))))
noncomputable abbrev Yj:jJ:=kj qa0 [.val,.io] (Yi)
abbrev Xy (e0:Ev):=qM e0 4 "_law_look" uD [.val,.io] .sh (Yj)
theorem qcO (Z:ZtE e0 ca) (T:wL e0 "_law_look" Vq uD) (o:zu e0):Xy e0:=
 qL (k:=3) (own':=[1]) (fb:=Yi) T qcN λcdv f A outer s H E c=>(qg (qo (jE (qb (jR JD (cN o c (qb (vr 0) (sl 1 (qb qw qf)))) qw) (qb (jR JD (cN o c (qb (vr 0) (sl 1 (qb qw qf)))) qw) qf)))))
abbrev uE:Stmt:=top 36
abbrev Jf:List Str:=["one", "two"]
abbrev uF:List Str:=["one", "two"]
theorem WS:FnScope Jf uF (ql uE):=fsc
noncomputable def uG:qR:=(jz (qh5 (d2 eqD (qd 0) (qd 1)) (d2 eqD (qd 0) (uT (qc (d2 ixD (qd 1) (dC (.int 1))) (qc (d2 ixD (qd 1) (dC (.int 0))) qA))))))
noncomputable abbrev uH:jJ:=kj Jf [.val,.val] (uG)
abbrev gD (e0:Ev):=qM e0 1 "are_alike" uF [.val,.val] .sh (uH)
theorem WT (Z:ZtE e0 ca) (T:wL e0 "are_alike" uE uF):gD e0:=
 qL (k:=0) (own':=[]) (fb:=uG) T WS λcdv f A outer s H E c=>(qg (qo (qiV (xm (ye rfl c.units) (vr 0) (vr 1)) (Wb (xm (ye rfl c.units) (vr 0) (jE (qb (ix c (vr 1) qw) (qb (ix c (vr 1) qw) qf))))))))
abbrev xb:Stmt:=top 37
abbrev JZ:List Str:=["seen", "later", "pair", "ahead"]
theorem sc_clash_of:FnScope JZ ["seen"] (ql xb):=fsc
noncomputable def gb:qR:=(qG (Uj (qay (qd 0)) (xj 2 (jr (gNm 1) (jr (gNm 2) xi)))
  (Uj (kZ (qd 1)) (gNm 3)
  (sIf (uZ (qu [.vl,.vl] uH (qc (d2 ixD (qd 0) (qd 3)) (qc (qd 2) qA)))) (jz (uT (qc (qd 3) (qc (qd 1) qA)))) qX)))
  (jz (dC .non)))
noncomputable abbrev vA:jJ:=kj JZ [.val] (gb)
abbrev xL (e0:Ev):=qM e0 2 "clash_of" ["seen"] [.val] .sh (vA)
theorem Yk (Z:ZtE e0 ca) (T:wL e0 "clash_of" xb ["seen"]) (o:gD e0):xL e0:=
 qL (k:=1) (own':=[]) (fb:=gb) T sc_clash_of λcdv f A outer s H E c=>(qe (wD bb rfl (Xk rfl rfl Z.z_enumerate (vr 0)) (UC rfl rfl (wP (gn 1 sc_clash_of.nd) (wP (gn 2 sc_clash_of.nd) Ko)))
  (qg (wD bb rfl (zK rfl Z.z_range (vr 1)) (gn 3 sc_clash_of.nd)
  (qg (qO (tv (cN o c (qb (ix c (vr 0) (vr 3)) (qb (vr 2) qf)))) (qg (qo (jE (qb (vr 3) (qb (vr 1) qf))))) qD)))))
  (qg (qo yd)))
abbrev uI:Stmt:=top 48
abbrev xM:List Str:=["seen", "room", "found"]
abbrev uJ:List Str:=["seen", "room"]
theorem sc_room_from:FnScope xM uJ (ql uI):=fsc
noncomputable def xN:qR:=(qG (jD 2 (qd 1))
  (qG (qP (xF (uZ (qu [.vl,.vl,.vl] qW (qc (qd 0) (qc (qd 2) (qc (dC (.dct [])) qA))))))
  (jD 2 (d2 vh (qd 2) (dC (.int 1)))) 100)
  (jz (qd 2))))
noncomputable abbrev xO:jJ:=kj xM [.val,.val] (xN)
abbrev gE (e0:Ev):=qM e0 18 "room_from" uJ [.val,.val] .sh (xO)
theorem WU (Z:ZtE e0 ca) (T:wL e0 "room_from" uI uJ) (o:vt e0):gE e0:=
 qL (k:=17) (own':=[]) (fb:=xN) T sc_room_from λcdv f A outer s H E c=>(qe (se 2 sc_room_from.nd (vr 1))
  (qe (za 100 bb (ja (tv (cN o c (qb (vr 0) (qb (vr 2) (qb Km qf))))))
  (qg (se 2 sc_room_from.nd (jR (kS rfl) (vr 2) qw))))
  (qg (qo (vr 2)))))
abbrev wq:Stmt:=top 25
abbrev gF:List Str:=["thing"]
theorem Vr:FnScope gF ["thing"] (ql wq):=fsc
noncomputable def wt:qR:=(sIf (xF (uZ (qu [.vl] kt (qc (qd 0) qA)))) (jp "NoWord" (qc (dC (.str "a word has 1 to 6 letters from a to z")) qA)) qX)
noncomputable abbrev wu:jJ:=kj gF [.val] (wt)
abbrev zv (e0:Ev):=qM e0 3 "check_word" ["thing"] [.val] .sh (wu)
theorem Vs (Z:ZtE e0 ca) (T:wL e0 "check_word" wq ["thing"]) (o:yR e0):zv e0:=
 qL (k:=2) (own':=[]) (fb:=wt) T Vr λcdv f A outer s H E c=>(qg (qO (ja (tv (cN o c (qb (vr 0) qf)))) (qg (rz Z "NoWord" (qb qY qf))) qD))
abbrev jd:Stmt:=xC (top 51) 3
abbrev wU:List Str:=["self", "word"]
abbrev jQ:List Str:=["self", "word"]
theorem zx:FnScope wU jQ (ql jd):=fsc
noncomputable def je (ca:Str->Addr):qR:=(qG (vN (qu [.vl] wu (qc (qd 1) qA)))
  (qG (sIf (qH (d2 inA (qd 1) (d1 (gW (ca "Words") "came") (qd 0)))) (jp "Known" (qc (dC (.str "the word is there")) qA)) qX)
  (sIf (qH (d2 eqD (d1 jY (d1 (gW (ca "Words") "came") (qd 0))) (dC (.int 6)))) (jp "Full" (qc (dC (.str "there are 6 words")) qA)) qX)))
noncomputable abbrev jw (ca:Str->Addr):jJ:=kj wU [.io,.val] (je ca)
abbrev wv (ca:Str->Addr) (e0:Ev):=zR e0 4 (ca "Words") "check_new" jQ [.io,.val] .sh (jw ca)
theorem zy (Z:ZtE e0 ca) (T:zO e0.K (ca "Words") "check_new" "Words.check_new" jd jQ) (o:zv e0):wv ca e0:=
 zQ (k:=3) (own':=[0]) (fb:=je ca) T zx λcdv f A outer s H E c=>(qe (jC (cN o c (qb (vr 1) qf)))
  (qe (qO (qC (JM rfl c.units) (vr 1) (wQ rfl Z.b_cls (Z.b_no "came" (by decide +kernel)) (vO 0))) (qg (rz Z "Known" (qb qY qf))) qD)
  (qg (qO (qC (ye rfl c.units) (qF (ke rfl) rfl Z.z_len jV (wQ rfl Z.b_cls (Z.b_no "came" (by decide +kernel)) (vO 0))) (yK Z.c_MOST_WORDS rfl)) (qg (rz Z "Full" (qb qY qf))) qD))))
abbrev ki:Stmt:=xC (top 51) 4
abbrev ww:List Str:=["self", "word", "words", "seen", "width"]
abbrev wx:List Str:=["self", "word"]
theorem sc_Words_come:FnScope ww wx (ql ki):=fsc
noncomputable def jN (ca:Str->Addr):qR:=(qG (vN (ji (ca "Words") 0 "check_new" [.vl] (jw ca) (qc (qd 1) qA)))
  (qG (jD 2 (d2 vh (d1 (gW (ca "Words") "came") (qd 0)) (uT (qc (qd 1) qA))))
  (qG (jD 3 (qu [.vl,.vl] xJ (qc (qd 2) (qc (d1 (gW (ca "Words") "look") (qd 0)) qA))))
  (qG (sIf (qH (d2 Jq (qu [.vl] vA (qc (qd 3) qA)) (dC .non))) (jp "Never" (qc (dC (.str "the word is seen as the same two letters as one that is there")) qA)) qX)
  (qG (jD 4 (qu [.vl,.vl] xO (qc (qd 3) (qc (d1 (gW (ca "Words") "width") (qd 0)) qA))))
  (qG (QM (ca "Words") 0 "held" (qu [.vl,.vl,.vl,.vl] kG (qc (qd 2) (qc (d1 (gW (ca "Words") "look") (qd 0)) (qc (qd 4) (qc (qu [.vl,.vl] jW (qc (qd 3) (qc (qd 4) qA))) qA))))))
  (qG (QM (ca "Words") 0 "came" (qd 2))
  (qG (QM (ca "Words") 0 "width" (qd 4))
  (jz (qd 4))))))))))
noncomputable abbrev jn (ca:Str->Addr):jJ:=kj ww [.io,.val] (jN ca)
abbrev zA (ca:Str->Addr) (e0:Ev):=zR e0 19 (ca "Words") "come" wx [.io,.val] .sh (jn ca)
theorem Vt (Z:ZtE e0 ca) (T:zO e0.K (ca "Words") "come" "Words.come" ki wx) (o:zn e0) (M:xK e0) (a:xL e0) (b:vI e0) (d:gE e0) (Q:wv ca e0):zA ca e0:=
 zQ (k:=18) (own':=[0]) (fb:=jN ca) T sc_Words_come λcdv f A outer s H E c=>(qe (jC (KJ (i:=0) Z.b_cls Q c (by decide) gI rfl (bE rfl) (by decide) (qb (vr 1) qf)))
  (qe (se 2 sc_Words_come.nd (jR (kS rfl) (wQ rfl Z.b_cls (Z.b_no "came" (by decide +kernel)) (vO 0)) (jE (qb (vr 1) qf))))
  (qe (se 3 sc_Words_come.nd (cN o c (qb (vr 2) (qb (wQ rfl Z.b_cls (Z.b_no "look" (by decide +kernel)) (vO 0)) qf))))
  (qe (qO (qC GM (cN a c (qb (vr 3) qf)) yd) (qg (rz Z "Never" (qb qY qf))) qD)
  (qe (se 4 sc_Words_come.nd (cN d c (qb (vr 3) (qb (wQ rfl Z.b_cls (Z.b_no "width" (by decide +kernel)) (vO 0)) qf))))
  (qe (xI rfl Z.b_cls (Z.b_no "held" (by decide +kernel)) (i:=0) rfl (bE rfl) (by decide) (cN M c (qb (vr 2) (qb (wQ rfl Z.b_cls (Z.b_no "look" (by decide +kernel)) (vO 0)) (qb (vr 4) (qb (cN b c (qb (vr 3) (qb (vr 4) qf))) qf))))))
  (qe (xI rfl Z.b_cls (Z.b_no "came" (by decide +kernel)) (i:=0) rfl (bE rfl) (by decide) (vr 2))
  (qe (xI rfl Z.b_cls (Z.b_no "width" (by decide +kernel)) (i:=0) rfl (bE rfl) (by decide) (vr 4))
  (qg (qo (vr 4)))))))))))
abbrev jF:Stmt:=xC (top 51) 5
abbrev xB:List Str:=["self", "word"]
abbrev kQ:List Str:=["self", "word"]
theorem Jg:FnScope xB kQ (ql jF):=fsc
noncomputable def jX (ca:Str->Addr):qR:=(qG (sIf (dOr (xF (uZ (qu [.vl] kt (qc (qd 1) qA)))) (qH (d2 JL (qd 1) (d1 (gW (ca "Words") "came") (qd 0))))) (jp "NoWord" (qc (dC (.str "the word is not there")) qA)) qX)
  (jz (d2 ixD (d1 (gW (ca "Words") "held") (qd 0)) (dM qcz JS (d1 (gW (ca "Words") "came") (qd 0)) (qd 1)))))
noncomputable abbrev jq (ca:Str->Addr):jJ:=kj xB [.io,.val] (jX ca)
abbrev yA (ca:Str->Addr) (e0:Ev):=zR e0 3 (ca "Words") "number" kQ [.io,.val] .sh (jq ca)
theorem Jh (Z:ZtE e0 ca) (T:zO e0.K (ca "Words") "number" "Words.number" jF kQ) (o:yR e0):yA ca e0:=
 zQ (k:=2) (own':=[0]) (fb:=jX ca) T Jg λcdv f A outer s H E c=>(qe (qO (PW.pt (yf (ja (tv (cN o c (qb (vr 1) qf)))) (kA (qC (zh rfl c.units) (vr 1) (wQ rfl Z.b_cls (Z.b_no "came" (by decide +kernel)) (vO 0)))))) (qg (rz Z "NoWord" (qb qY qf))) qD)
  (qg (qo (ix c (wQ rfl Z.b_cls (Z.b_no "held" (by decide +kernel)) (vO 0)) (qaP rfl c.units (wQ rfl Z.b_cls (Z.b_no "came" (by decide +kernel)) (vO 0)) (vr 1))))))
abbrev Qc:Stmt:=top 59
abbrev Xz:List Str:=["_law_e", "_law_own"]
theorem sc_Lwhich:FnScope Xz ["_law_e"] (ql Qc):=fsc
noncomputable def xc (ca:Str->Addr):qR:=(qG (jD 1 (VF (qc (d1 (JK (Zu ca CS "NoWords")) (qd 0)) (qc (d1 (JK (Zu ca CS "NoLook")) (qd 0)) (qc (d1 (JK (Zu ca CS "NoNumbers")) (qd 0)) (qc (d1 (JK (Zu ca CS "NoRoom")) (qd 0)) qA))))))
  (qG (vN (Ks 1 qbv (VF (qc (d1 (JK (Zu ca CS "NoWord")) (qd 0)) (qc (d1 (JK (Zu ca CS "NoWorths")) (qd 0)) (qc (d1 (JK (Zu ca CS "Never")) (qd 0)) (qc (d1 (JK (Zu ca CS "Full")) (qd 0)) qA)))))))
  (qG (vN (Ks 1 YR (d1 (JK (Zu ca CS "Known")) (qd 0))))
  (qG (sIf (dOr (qH (d2 neD (d1 (Qw iK) (qd 1)) (dC (.int 1)))) (xF (uZ (d1 (JK (qgY ca CS)) (qd 0))))) (jz (uT (qc (dC (.str "refused")) (qc (d1 qfR (dC (.int 1))) qA)))) qX)
  (jz (uT (qc (dC (.str "refused")) (qc (d1 (Qx iK) (qd 1)) qA))))))))
noncomputable abbrev wy (ca:Str->Addr):jJ:=kj Xz [.val] (xc ca)
abbrev WV (ca:Str->Addr) (e0:Ev):=qjt e0 1 "_law_which" ["_law_e"] [.val] .sh (wy ca)
theorem qa1 (Z:ZtE e0 ca) (T:wL e0 "_law_which" Qc ["_law_e"]):WV ca e0:=
 qi3 (k:=0) (own':=[]) (fb:=xc ca) T sc_Lwhich λcdv f A outer s H E c=>(qe (sO 1 sc_Lwhich.nd (uO (qb (zg rfl Z.z_isinstance qy rfl (Z.mref "NoWords" (by decide +kernel)) (Z.xs.ans (by decide +kernel)) (vr 0)) (qb (zg rfl Z.z_isinstance qy rfl (Z.mref "NoLook" (by decide +kernel)) (Z.xs.ans (by decide +kernel)) (vr 0)) (qb (zg rfl Z.z_isinstance qy rfl (Z.mref "NoNumbers" (by decide +kernel)) (Z.xs.ans (by decide +kernel)) (vr 0)) (qb (zg rfl Z.z_isinstance qy rfl (Z.mref "NoRoom" (by decide +kernel)) (Z.xs.ans (by decide +kernel)) (vr 0)) qf))))))
  (qe (jC (Wn (i:=1) rfl (bE rfl) (by decide) (uO (qb (zg rfl Z.z_isinstance qy rfl (Z.mref "NoWord" (by decide +kernel)) (Z.xs.ans (by decide +kernel)) (vr 0)) (qb (zg rfl Z.z_isinstance qy rfl (Z.mref "NoWorths" (by decide +kernel)) (Z.xs.ans (by decide +kernel)) (vr 0)) (qb (zg rfl Z.z_isinstance qy rfl (Z.mref "Never" (by decide +kernel)) (Z.xs.ans (by decide +kernel)) (vr 0)) (qb (zg rfl Z.z_isinstance qy rfl (Z.mref "Full" (by decide +kernel)) (Z.xs.ans (by decide +kernel)) (vr 0)) qf)))))))
  (qe (jC (Qs (i:=1) rfl rfl (bE rfl) (by decide) (zg rfl Z.z_isinstance qy rfl (Z.mref "Known" (by decide +kernel)) (Z.xs.ans (by decide +kernel)) (vr 0))))
  (vg [1] (qe (qO (PW.pt (yf (qC (gH rfl c.units) (qcf rfl (vr 1)) qw) (kA (ja (tv (qeN rfl Z.z_isinstance qy rfl Z.z_ValueError KL Z.xs.ansV (vr 0))))))) (qg (qo (jE (qb qY (qb (qgy qdl qw) qf))))) qD)
  (qg (qo (jE (qb qY (qb (qcg rfl (vr 1)) qf))))))))))
abbrev qcP:Stmt:=top 60
abbrev qhl:List Str:=["_law_here", "_law_what", "_law_word_here", "_law_e"]
abbrev zB:List Str:=["_law_here", "_law_what", "_law_word_here"]
theorem sc_Ldo:FnScope qhl zB (ql qcP):=fsc
noncomputable def ZQ (ca:Str->Addr):qR:=(qb8 4 (iF 3) (qgX ca CS) (jz (dIf (qH (d2 eqD (qd 1) (dC (.int 0)))) (ji (ca "Words") 0 "come" [.vl] (jn ca) (qc (qd 2) qA)) (ji (ca "Words") 0 "number" [.vl] (jq ca) (qc (qd 2) qA)))) (jz (qu [.vl] (wy ca) (qc (qd 3) qA))))
noncomputable abbrev yB (ca:Str->Addr):jJ:=kj qhl [.io,.val,.val] (ZQ ca)
abbrev qdy (ca:Str->Addr) (e0:Ev):=qM e0 20 "_law_do" zB [.io,.val,.val] .sh (yB ca)
theorem qhm (Z:ZtE e0 ca) (T:wL e0 "_law_do" qcP zB) (o:yA ca e0) (a:zA ca e0) (O:WV ca e0):qdy ca e0:=
 qL (k:=19) (own':=[0]) (fb:=ZQ ca) T sc_Ldo λcdv f A outer s H E c=>(qg (qeF (own2:=[]) (n:=4) (j:=3) rfl rfl rfl rfl Z.m_WordError Z.xs.hit sc_Ldo.nd rfl rfl rfl (λpn xe E hx=>(qg (qo (Zl (qC (ye rfl c.units) (vr 1) qw) (KJ (i:=0) Z.b_cls a c (by decide) hx rfl (bE rfl) (by decide) (qb (vr 2) qf)) (KJ (i:=0) Z.b_cls o c (by decide) hx rfl (bE rfl) (by decide) (qb (vr 2) qf)))))) (λe=>(qg (qo (qab O ((c.quiet.mono (by decide)).mark _) gJ rfl (qb (vr 3) qf)))))))
abbrev Vu:Stmt:=top 38
abbrev qa2:List Str:=["words", "look"]
abbrev Vv:List Str:=["words", "look"]
theorem qcQ:FnScope qa2 Vv (ql Vu):=fsc
noncomputable def Yl:qR:=(jz (qu [.vl] vA (qc (qu [.vl,.vl] xJ (qc (qd 0) (qc (qd 1) qA))) qA)))
noncomputable abbrev Ym:jJ:=kj qa2 [.val,.val] (Yl)
abbrev XA (e0:Ev):=qM e0 6 "clash" Vv [.val,.val] .sh (Ym)
theorem qcR (Z:ZtE e0 ca) (T:wL e0 "clash" Vu Vv) (o:zn e0) (a:xL e0):XA e0:=
 qL (k:=5) (own':=[]) (fb:=Yl) T qcQ λcdv f A outer s H E c=>(qg (qo (cN a c (qb (cN o c (qb (vr 0) (qb (vr 1) qf))) qf))))
abbrev XB:Stmt:=top 61
abbrev qdz:List Str:=["_law_row", "_law_look_here", "_law_word_here"]
abbrev xf:List Str:=["_law_row", "_law_look_here", "_law_word_here"]
theorem qfd:FnScope qdz xf (ql XB):=fsc
noncomputable def uS:qR:=(qG (sIf (dOr (xF (uZ (d1 (wW "str") (qd 2)))) (qH (d2 inA (qd 2) (uT (qc (dC (.str "")) (qc (dC (.str "A")) (qc (dC (.str "abcdefg")) qA))))))) (jz (uT (qc (dC (.str "refused")) (qc (dC (.int 4)) qA)))) qX)
  (qG (sIf (qH (d2 inA (qd 2) (qd 0))) (jz (uT (qc (dC (.str "refused")) (qc (dC (.int 8)) qA)))) qX)
  (qG (sIf (qH (d2 eqD (d1 jY (qd 0)) (dC (.int 6)))) (jz (uT (qc (dC (.str "refused")) (qc (dC (.int 7)) qA)))) qX)
  (jz (dIf (qH (d2 Jq (qu [.vl,.vl] Ym (qc (d2 vh (qd 0) (uT (qc (qd 2) qA))) (qc (qd 1) qA))) (dC .non))) (uT (qc (dC (.str "refused")) (qc (dC (.int 6)) qA))) (dC .non))))))
noncomputable abbrev Ka:jJ:=kj qdz [.val,.val,.val] (uS)
abbrev qa3 (e0:Ev):=qM e0 7 "_law_due" xf [.val,.val,.val] .sh (Ka)
theorem qfe (Z:ZtE e0 ca) (T:wL e0 "_law_due" XB xf) (O:XA e0):qa3 e0:=
 qL (k:=6) (own':=[]) (fb:=uS) T qfd λcdv f A outer s H E c=>(qe (qO (PW.pt (yf (ja (tv (zf rfl rfl Z.z_isinstance qy rfl Z.z_str qaR (vr 2)))) (kA (qC (JM rfl c.units) (vr 2) (jE (qb qY (qb qY (qb qY qf)))))))) (qg (qo (jE (qb qY (qb qw qf))))) qD)
  (qe (qO (qC (JM rfl c.units) (vr 2) (vr 0)) (qg (qo (jE (qb qY (qb qw qf))))) qD)
  (qe (qO (qC (ye rfl c.units) (qF (ke rfl) rfl Z.z_len jV (vr 0)) qw) (qg (qo (jE (qb qY (qb qw qf))))) qD)
  (qg (qo (Zl (qC GM (cN O c (qb (jR (kS rfl) (vr 0) (jE (qb (vr 2) qf))) (qb (vr 1) qf))) yd) (jE (qb qY (qb qw qf))) yd))))))
abbrev qa4:Stmt:=top 62
abbrev qff:List Str:=["_law_script", "_law_town", "_law_look_here", "_law_here", "_law_second", "_law_row", "_law_room", "_law_few", "_law_k", "_law_seven", "_law_other", "_law_word_here", "_law_due_here", "_law_numbers", "_law_number"]
abbrev qhn:List Str:=["_law_script"]
theorem sc_law:FnScope qff qhn (ql qa4):=fsc
noncomputable def qfg (ca:Str->Addr):qR:=(qG (jD 1 (VF qA))
  (qG (jD 2 (qu [.vl,.sl 1] Yj (qc (qd 0) (jS qA))))
  (qG (jD 3 (ZI (ca "Words") (jZ ca) (qc (qd 2) qA)))
  (qG (jD 4 (ZI (ca "Words") (jZ ca) (qc (qd 2) qA)))
  (qG (jD 5 (uT qA))
  (qG (jD 6 (dC (.int 0)))
  (qG (jD 7 (qu [.vl,.sl 1,.vl] vK (qc (qd 0) (jS (qc (VF (qc (dC (.int 2)) (qc (dC (.int 4)) (qc (dC (.int 8)) qA)))) qA)))))
  (qG (Uj (kZ (qu [.vl,.sl 1,.vl] kx (qc (qd 0) (jS (qc (dC (.int 16)) qA))))) (gNm 8)
  (qG (jD 11 (qu [.vl,.sl 1,.vl] Vp (qc (qd 0) (jS (qc (qd 7) qA)))))
  (qG (sIf (qer (qH (d2 neD (qd 5) (uT qA))) (qH (d2 eqD (qu [.vl,.sl 1,.vl] kx (qc (qd 0) (jS (qc (dC (.int 6)) qA)))) (dC (.int 0))))) (jD 11 (qu [.vl,.sl 1,.vl] vK (qc (qd 0) (jS (qc (qd 5) qA))))) qX)
  (qG (sIf (qH (d2 eqD (qu [.vl,.sl 1,.vl] kx (qc (qd 0) (jS (qc (dC (.int 8)) qA)))) (dC (.int 0)))) (jD 11 (qu [.vl,.sl 1,.vl] vK (qc (qd 0) (jS (qc (VF λρ=>.ok ([.non,(.str ""),(.str "A"),(.str "abcdefg"),(.int 1),(.tup [(.str "a")])],ρ)) qA))))) qX)
  (qG (jD 12 (qu [.vl,.vl,.vl] Ka (qc (qd 5) (qc (qd 2) (qc (qd 11) qA)))))
  (qG (sIf (qH (d2 GL (qd 12) (dC .non))) (qG (jD 5 (d2 vh (qd 5) (uT (qc (qd 11) qA))))
  (qG (jD 6 (d2 qeJ (qd 6) (d1 jY (qd 5))))
  (qG (qP (qH (d2 GL (qu [.vl,.vl,.vl] qK (qc (qd 5) (qc (qd 2) (qc (qd 6) qA)))) (dC .non)))
  (jD 6 (d2 vh (qd 6) (dC (.int 1)))) 102)
  (jD 12 (qd 6))))) qX)
  (qG (sIf (dOr (qH (d2 neD (qu [.sl 3,.vl,.vl] (yB ca) (jS (qc (dC (.int 0)) (qc (qd 11) qA)))) (qd 12))) (dOr (qH (d2 neD (ji (ca "Words") 3 "words" [] (ku ca) qA) (qd 5))) (qH (d2 neD (ji (ca "Words") 3 "room" [] (kY ca) qA) (qd 6))))) (jz (dC (.bl iJ))) qX)
  (qG (jD 13 (uT qA))
  (qG (sIf (qH (d2 neD (qd 5) (uT qA))) (jD 13 (qu [.vl,.vl,.vl,.vl] kG (qc (qd 5) (qc (qd 2) (qc (qd 6) (qc (qu [.vl,.vl,.vl] qK (qc (qd 5) (qc (qd 2) (qc (qd 6) qA)))) qA)))))) qX)
  (qG (sIf (qH (d2 neD (ji (ca "Words") 3 "numbers" [] (jv ca) qA) (d2 kq (qd 5) (qd 13)))) (jz (dC (.bl iJ))) qX)
  (qG (vN (qaC (ji (ca "Words") 3 "numbers" [] (jv ca) qA) (dC .non)))
  (Uj (qg5 (qc (qd 5) (qc (qd 13) qA))) (xj 2 (jr (gNm 11) (jr (gNm 14) xi)))
  (sIf (qH (d2 neD (qu [.sl 3,.vl,.vl] (yB ca) (jS (qc (dC (.int 1)) (qc (qd 11) qA)))) (qd 14))) (jz (dC (.bl iJ))) qX)))))))))))))
  (qG (jD 9 (uT (qc (dC (.str "zzzzzz")) (qc (dC (.str "yzzzzz")) (qc (dC (.str "zyzzzz")) (qc (dC (.str "zzyzzz")) (qc (dC (.str "zzzyzz")) (qc (dC (.str "zzzzyz")) (qc (dC (.str "zzzzzy")) qA)))))))))
  (qG (jD 10 (d2 ixD (jh [4,3,1] 1 [5] (jU (qd 9)) (gNm 0) (qH (d2 JL (qd 0) (qd 1))) (qd 0)) (dC (.int 0))))
  (qG (sIf (qH (d2 neD (qu [.sl 3,.vl,.vl] (yB ca) (jS (qc (dC (.int 1)) (qc (qu [.vl,.sl 1,.vl] vK (qc (qd 0) (jS (qc (VF (qc (dC .non) (qc (qd 10) (qc (dC (.str "")) (qc (dC (.int 1)) (qc (dC (.str "A")) qA)))))) qA)))) qA)))) (uT (qc (dC (.str "refused")) (qc (dC (.int 4)) qA))))) (jz (dC (.bl iJ))) qX)
  (jz (Wa (d2 eqD (ji (ca "Words") 4 "words" [] (ku ca) qA) (uT qA)) (d2 eqD (ji (ca "Words") 4 "room" [] (kY ca) qA) (dC (.int 0))))))))))))))))
noncomputable abbrev qcS (ca:Str->Addr):jJ:=kj qff [.val] (qfg ca)
theorem qho {f:Addr} {fd:k4} (Z:ZtE e0 ca) (F:Fun e0.K "law" "law" qa4 f fd) (M:xK e0) (b:zq e0) (I:uQ ca e0) (N:xA ca e0) (d:wS ca e0) (O:zt ca e0) (o:zu e0) (B:Vn e0) (j:Xx e0) (l:Xy e0) (a:qdy ca e0) (m:qa3 e0):FnOk e0.P e0.w e0.K e0.mg e0.base (CXk e0.P e0.w) 21 f fd qhn (spD e0.K e0.cv [.val] .sh (qcS ca)):=
 qh6 (k:=20) (own':=[]) (fb:=qfg ca) F sc_law rfl (kz rfl) (.inl rfl) (λcdv A outer s H E c=>(qe (sO 1 sc_law.nd (uO qf))
  (qe (se 2 sc_law.nd (cN l c (qb (vr 0) (sl 1 qf))))
  (qe (sO 3 sc_law.nd (qaB d c (by decide) gI rfl Z.m_Words (qb (vr 2) qf)))
  (qe (sO 4 sc_law.nd (qaB d c (by decide) gI rfl Z.m_Words (qb (vr 2) qf)))
  (qe (se 5 sc_law.nd (jE qf))
  (qe (se 6 sc_law.nd qw)
  (qe (se 7 sc_law.nd (cN B c (qb (vr 0) (sl 1 (qb (uO (qb qw (qb qw (qb qw qf)))) qf)))))
  (qe (wD bb rfl (zK rfl Z.z_range (cN o c (qb (vr 0) (sl 1 (qb qw qf))))) (gn 8 sc_law.nd)
  (qe (se 11 sc_law.nd (cN j c (qb (vr 0) (sl 1 (qb (vr 7) qf)))))
  (qe (qO (PW.pt (Uz (qC (gH rfl c.units) (vr 5) (jE qf)) (kA (qC (ye rfl c.units) (cN o c (qb (vr 0) (sl 1 (qb qw qf)))) qw)))) (qg (se 11 sc_law.nd (cN B c (qb (vr 0) (sl 1 (qb (vr 5) qf)))))) qD)
  (qe (qO (qC (ye rfl c.units) (cN o c (qb (vr 0) (sl 1 (qb qw qf)))) qw) (qg (se 11 sc_law.nd (cN B c (qb (vr 0) (sl 1 (qb (qe2 14 rfl) qf)))))) qD)
  (qe (se 12 sc_law.nd (cN m c (qb (vr 5) (qb (vr 2) (qb (vr 11) qf)))))
  (qe (qO (qC qdg (vr 12) yd) (qe (se 5 sc_law.nd (jR (kS rfl) (vr 5) (jE (qb (vr 11) qf))))
  (qe (se 6 sc_law.nd (Qt (qdn rfl) rfl Z.z_max qdx (vr 6) (qF (ke rfl) rfl Z.z_len jV (vr 5))))
  (qe (za 102 bb (qC qdg (cN b c (qb (vr 5) (qb (vr 2) (qb (vr 6) qf)))) yd)
  (qg (se 6 sc_law.nd (jR (kS rfl) (vr 6) qw))))
  (qg (se 12 sc_law.nd (vr 6)))))) qD)
  (qe (qO (PW.pt (yf (qC (gH rfl c.units) (cN a c (sl 3 (qb qw (qb (vr 11) qf)))) (vr 12)) (yf (qC (gH rfl c.units) (wR (i:=3) Z.b_cls N c (by decide) gI rfl (bE rfl) (by decide)) (vr 5)) (kA (qC (gH rfl c.units) (wR (i:=3) Z.b_cls O c (by decide) gI rfl (bE rfl) (by decide)) (vr 6)))))) (qg (qo ua)) qD)
  (qe (se 13 sc_law.nd (jE qf))
  (qe (qO (qC (gH rfl c.units) (vr 5) (jE qf)) (qg (se 13 sc_law.nd (cN M c (qb (vr 5) (qb (vr 2) (qb (vr 6) (qb (cN b c (qb (vr 5) (qb (vr 2) (qb (vr 6) qf)))) qf))))))) qD)
  (qe (qO (qC (gH rfl c.units) (wR (i:=3) Z.b_cls I c (by decide) gI rfl (bE rfl) (by decide)) (JR rfl rfl rfl Z.z_list KM rfl Z.z_zip (vr 5) (vr 13))) (qg (qo ua)) qD)
  (qe (jC (qe6 rfl (wR (i:=3) Z.b_cls I c (by decide) gI rfl (bE rfl) (by decide)) yd))
  (qg (wD bb rfl (qeU rfl rfl Z.z_zip (vr 5) (vr 13)) (UC rfl rfl (wP (gn 11 sc_law.nd) (wP (gn 14 sc_law.nd) Ko)))
  (qg (qO (qC (gH rfl c.units) (cN a c (sl 3 (qb qw (qb (vr 11) qf)))) (vr 14)) (qg (qo ua)) qD)))))))))))))))
  (qe (se 9 sc_law.nd (jE (qb qY (qb qY (qb qY (qb qY (qb qY (qb qY (qb qY qf)))))))))
  (qe (se 10 sc_law.nd (ix c (cmp (jb rfl (vr 9)) (λ_ _ _ _=>(vr 0)) (ht:=λ_ _ _ _=>(Kr (qC (zh rfl c.units) (vr 0) (vr 1))))) qw))
  (qe (qO (qC (gH rfl c.units) (cN a c (sl 3 (qb qw (qb (cN B c (qb (vr 0) (sl 1 (qb (uO (qb yd (qb (vr 10) (qb qY (qb qw (qb qY qf)))))) qf)))) qf)))) (jE (qb qY (qb qw qf)))) (qg (qo ua)) qD)
  (qg (qo (Wc (xm (ye rfl c.units) (wR (i:=4) Z.b_cls N c (by decide) gI rfl (bE rfl) (by decide)) (jE qf)) (Wb (xm (ye rfl c.units) (wR (i:=4) Z.b_cls O c (by decide) gI rfl (bE rfl) (by decide)) qw))))))))))))))))) λ_=>.inr rfl
end
end Kx
namespace Kx
open PySem PySem.Spec L2 L2.D2
variable {α:Type}
theorem wB (xs:List α) (k:Nat):atI xs (k:Int)=xs[k]?:=by
 unfold atI ixN;rw [if_pos (by omega)];by_cases h:k < xs.length;·rw [if_pos (by omega)];simp
 ·rw [if_neg (by omega),bL (by omega)];rfl
theorem qa5 {xs:List α} {i:Int} (h0:0<=i) (h1:i < xs.length):∃ d,atI xs i=iF d/\d∈xs:=by
 obtain ⟨k,rfl⟩:=Int.eq_ofNat_of_zero_le h0;have h:k < xs.length:=by omega
 exact ⟨xs[k],by rw [wB,aA h],bT h⟩
theorem big:2000<=sizeLine:=by rw [iP]; decide
abbrev scr (ns:List Int):D:=.lst (ns.map .int)
theorem qfh (ns:List Int) (k:Nat):∃ i,zZ [scr ns,.int k]=.ok (.int i,[.non,.non]):=by
 by_cases h:k < ns.length;·refine ⟨ns[k],?_⟩;refine runD_ap.trans ?_;simp [wT,qp,jY,ltD,ixD,qm,h,wB]
 ·by_cases h0:ns=[]
  ·subst h0;have a:¬((k:Int) < 0):=by omega
   exact ⟨0,by refine runD_ap.trans ?_; simp [wT,qp,jY,ltD,ixD,qm,eqD,eqN,wM,a]⟩
  ·have hp:0 < ns.length:=fB.mpr h0;have c:k % ns.length < ns.length:=Nat.mod_lt _ hp;have e:atI (ns.map D.int) ((k:Int) % (ns.length:Int))=iF (.int ns[k % ns.length]):=by rw [show ((k:Int) % (ns.length:Int))=((k % ns.length:Nat):Int) by simp,wB,aG,aA c];rfl
   refine ⟨ns[k % ns.length] * 31+k,?_⟩;refine runD_ap.trans ?_;simp [wT,qp,jY,ltD,ixD,qm,eqD,eqN,h,h0,qbU,qdf,vh,Ui,hp,e,CMul]
variable {many:Int}
theorem qcT (ns:List Int) (k:Nat) (h:0 < many):∃ r,0<=r/\r < many/\Vj [scr ns,.int k,.int many]=.ok (.int r,[.non,.non,.non]):=by obtain ⟨c,a⟩:=qfh ns k;have h1:=fz ((c+7919 * k+1) * 48271) (show (2147483647:Int)≠0 by decide);have h2:=d5 ((c+7919 * k+1) * 48271) (show (0:Int) < 2147483647 by decide);generalize hd:(c+7919 * (k:Int)+1) * 48271 % 2147483647=d at h1 h2;have b:CMul d d:=.inl ⟨by omega,by omega⟩;refine ⟨(d * d+7 * d+k) % 2147483629 % many,fz _ (by omega),d5 _ h,?_⟩;refine runD_ap.trans ?_;simp [Vi,qp,qm,qx,qU,a,qdf,qbU,vh,Ui,h,hd,b,show ∀ j,CMul 7919 j from λj=>.inl ⟨by omega,by omega⟩,show ∀ j,CMul 7 j from λj=>.inl ⟨by omega,by omega⟩,show ∀ i,CMul i 48271 from λi=>.inr ⟨by omega,by omega⟩]
theorem uK (ns:List Int) (town:List D) (c:0 < many) (ht:town.length < 1000):∃ r,0<=r/\r < many/\kx [scr ns,.lst town,.int many]=.ok (.int r,[.non,.lst (town++[.int 0]),.non]):=by obtain ⟨r,h0,h1,h⟩:=qcT ns (town.length+1) c;have hl:town.length < sizeLine:=aD (cV ht (by decide)) big;refine ⟨r,h0,h1,?_⟩;simp at h;refine runD_ap.trans ?_;simp [Yg,qp,qm,qx,qU,ze,YR,jY,hl,h]
theorem Vw (ns:List Int) (town xs:List D) (hx:xs≠[]) (ht:town.length < 1000):∃ d,d∈xs/\vK [scr ns,.lst town,.lst xs]=.ok (d,[.non,.lst (town++[.int 0]),.non]):=by have hp:0 < xs.length:=fB.mpr hx;obtain ⟨r,h0,h1,h⟩:=uK ns town (many:=(xs.length:Int)) (by omega) ht;obtain ⟨d,e,hd⟩:=qa5 (xs:=xs) h0 h1;refine ⟨d,hd,?_⟩;refine runD_ap.trans ?_;simp [Vm,qp,qm,qx,qU,jY,h,ixD,e]
def az (c:Nat):Prop:=97<=c/\c<=122
def Vx (w:Str):Prop:=1<=w.length/\w.length<=6/\∀ c∈w.cps.toList,az c
theorem vL (x:Str):x.length=x.cps.size:=rfl
theorem Yn (x y:Str):(x++y).cps=x.cps++y.cps:=rfl
theorem yC:∀ ws:List Str,QJ (ws.map D.str)=iF ws
 | []=>rfl
 | w::ws=>by simp [QJ,yC ws]
theorem ky (w:Str):∀ ws:List Str,gh 7 (.str w) (ws.map D.str)=iF (decide (w∈ws))
 | []=>by simp [gh]
 | a::ws=>by
  have j:=ky w ws;simp only [aJ,gh,j];simp [eqN,eqS];by_cases h:a=w;·simp [h]
  ·simp [h,bf h]
def jT (ws:List Str):Prop:=1<=ws.length/\ws.length<=6/\ws.Nodup/\∀ w∈ws,Vx w
theorem qfi:(ac "abcdefghijklmnopqrstuvwxyz").cps.toList.length=26:=by decide +kernel
theorem qhp:∀ c∈(ac "abcdefghijklmnopqrstuvwxyz").cps.toList,az c:=by unfold az;decide +kernel
abbrev qhq:qR:=(jD 3 (d2 vh (qd 3) (d2 ixD (dC (.str "abcdefghijklmnopqrstuvwxyz")) (qu [.vl,.sl 1,.vl] kx (qc (qd 0) (jS (qc (qd 2) qA)))))))
variable {few:Int}
theorem WW (ns:List Int) (h0:0 < few) (h1:few<=26):∀ (ds:List D) (town:List D) (w:Str) (k:Option D),town.length+ds.length < 1000->w.length+ds.length<=100->(∀ c∈w.cps.toList,az c) ->∃ t w' k',t.length=town.length+ds.length/\w'.length=w.length+ds.length/\(∀ c∈w'.cps.toList,az c)/\vd (gNm 4) qhq ds [iF (scr ns),iF (.lst town),iF (.int few),iF (.str w),k]=.ok (.nx,[iF (scr ns),iF (.lst t),iF (.int few),iF (.str w'),k'])
 | [],town,w,k,_,_,hw=>⟨town,w,k,rfl,rfl,hw,rfl⟩
 | d::ds,town,w,k,ht,hl,hw=>by
  rw [au] at ht hl;obtain ⟨r,r0,r1,h⟩:=uK ns town (many:=few) h0 (by omega);obtain ⟨c,a,m⟩:=qa5 (xs:=(ac "abcdefghijklmnopqrstuvwxyz").cps.toList) (i:=r) r0 (by rw [qfi]; omega);obtain ⟨t,w',k',e,b,z,q⟩:=WW ns h0 h1 ds (town++[.int 0]) (w++⟨#[c]⟩) (iF d) (by rw [ao]; simp; omega) (by rw [vL,Yn,Array.size_append]; rw [vL] at hl; simp; omega) (λx hx=>by
   rw [Yn,Array.toList_append,aH] at hx;rcases hx with hx | hx;·exact hw x hx
   ·simp at hx;rw [hx];exact qhp c m)
  refine ⟨t,w',k',?_,?_,z,?_⟩;·rw [e,ao,au];simp;omega
  ·rw [b,vL,Yn,Array.size_append,<-vL,au];simp;omega
  ·have hz:w.length+d4 ⟨#[c]⟩<=sizeLine:=by have:=big;simp [vL] at hl ⊢;omega
   rw [<-q];simp [vd,qhq,qx,qU,h,ixD,a,vh,hz]
theorem qfj (ns:List Int) (town:List D) (h0:0 < few) (h1:few<=26) (ht:town.length < 900):∃ w t,Vx w/\t.length<=town.length+8/\Vp [scr ns,.lst town,.int few]=.ok (.str w,[.non,.lst t,.non]):=by
 obtain ⟨d,hd,hp⟩:=Vw ns town [.int 2,.int 3,.int 6] (by simp) (by omega);obtain ⟨m,rfl,m0,m1⟩:∃ m:Int,d=.int m/\0 < m/\m<=6:=by
  simp at hd;rcases hd with rfl | rfl | rfl;·exact ⟨2,rfl,by omega,by omega⟩
  ·exact ⟨3,rfl,by omega,by omega⟩
  ·exact ⟨6,rfl,by omega,by omega⟩
 obtain ⟨r,r0,r1,h⟩:=uK ns (town++[.int 0]) (many:=m) m0 (by rw [ao]; simp; omega);have n:(VG 0 (1+r).toNat).length=(1+r).toNat:=by simp [VG]
 have e0:d4 (ac "")=0:=by decide +kernel
 obtain ⟨t,w',k',e,k,z,q⟩:=WW ns h0 h1 (VG 0 (1+r).toNat) (town++[.int 0]++[.int 0]) "" iH (by rw [n,ao,ao]; simp; omega) (by rw [n,e0]; omega) (by
  have:(ac "").cps.toList=[]:=by decide +kernel
  rw [this];intro c a;cases a)
 refine ⟨w',t,⟨?_,?_,z⟩,?_,?_⟩;·rw [k,e0,n];omega
 ·rw [k,e0,n];omega
 ·rw [e,n,ao,ao];simp;omega
 ·refine runD_ap.trans ?_;have b:-(2 ^ 62:Int)<=1+r/\1+r < 2 ^ 62:=by omega
  have f:=big;have hz:3<=sizeLine:=by omega
  simp only [cW,List.cons_append,g9] at q h;simp [Yh,qp,qm,qx,qU,hp,h,kZ,vh,-Int.reducePow,b,hz,q]
def Ug (p q:Int):Prop:=(-3<=p/\p<=2)/\-3<=q/\q<=2
theorem qfk (ns:List Int) (town:List D) (ht:town.length < 900):∃ p q t,Ug p q/\t.length=town.length+2/\Yj [scr ns,.lst town]=.ok (.tup [.int p,.int q],[.non,.lst t]):=by
 obtain ⟨r,r0,r1,c⟩:=uK ns town (many:=6) (by omega) (by omega);obtain ⟨u,a,j,f⟩:=uK ns (town++[.int 0]) (many:=6) (by omega) (by rw [ao]; simp; omega);have d:=big;have hz:2<=sizeLine:=by omega
 refine ⟨r - 3,u - 3,town++[.int 0,.int 0],⟨⟨by omega,by omega⟩,by omega,by omega⟩,by simp,?_⟩;refine runD_ap.trans ?_;simp only [cW,List.cons_append,g9] at f;simp [Yi,qp,qm,qx,qU,c,f,Zi,Ui,hz]
noncomputable def zD (n:Nat) (p:Int):Nat:=(max 0 (min (if 0<=p then p else (n:Int)+p) ((n:Int) - 1))).toNat
noncomputable def qa6 (w:Str) (p:Int):Str:=⟨#[(w.cps.toList[zD w.length p]?).getD 0]⟩
variable {w:Str}
theorem gG (hw:Vx w) (p:Int):vH [.str w,.int p]=.ok (.str (qa6 w p),[.non,.non]):=by
 have h1:=hw.1;have h:(w.cps.toList.length:Int)=w.length:=by simp [vL]
 have key:∀ q:Int,q=(if 0<=p then p else (w.length:Int)+p)->atI w.cps.toList (if 0 < (if (w.length:Int) - 1 < q then (w.length:Int) - 1 else q) then (if (w.length:Int) - 1 < q then (w.length:Int) - 1 else q) else 0)=iF ((w.cps.toList[zD w.length p]?).getD 0):=by
  intro q hq;have e:(if 0 < (if (w.length:Int) - 1 < q then (w.length:Int) - 1 else q) then (if (w.length:Int) - 1 < q then (w.length:Int) - 1 else q) else 0)=(zD w.length p:Int):=by
   unfold zD;rw [<-hq];have:1<=(w.length:Int):=by omega
   generalize (w.length:Int)=n at *;split <;> split <;> omega
  have hl:zD w.length p < w.cps.toList.length:=by
   have Y:w.cps.toList.length=w.length:=by simp [vL]
   rw [Y];unfold zD;omega
  rw [e,wB,aA hl];rfl
 refine runD_ap.trans ?_;by_cases hp:0<=p;·have k:=key p (by rw [if_pos hp]);simp [uo,qp,qm,geD,Ui,hp,qeJ,qia,Zi,jY,ixD,k,qa6]
 ·have k:=key (w.length+p) (by rw [if_neg hp]);simp [uo,qp,qm,geD,Ui,hp,qeJ,qia,Zi,vh,jY,ixD,k,qa6]
variable {own:List Nat}
theorem gc (ρc:Sl):∀ (cap:List Nat) (n:Nat) (ρ:Sl),(∀ k∈cap,k∉own)->km own ρc n cap ρ=ρ
 | [],n,ρ,_=>rfl
 | k::cap,n,ρ,h=>by unfold km;rw [if_neg (h k (aq ..))];exact gc ρc cap (n+1) ρ λx hx=>h x (af _ hx)
theorem qhr {fe:jg} {ft:xU} {P:D->Bool} {F:D->D} {c:Sl}:∀ (ds:List D) (x:Option D),(∀ d∈ds,ft (iF d::c)=.ok (P d,iF d::c))->(∀ d∈ds,P d=iK->fe (iF d::c)=.ok (F d,iF d::c))->∃ n,vD (gNm 0) ft fe ds (x::c)=.ok ((ds.filter P).map F,n::c)
 | [],x,_,_=>⟨x,rfl⟩
 | d::ds,x,h,h'=>by
  obtain ⟨n,e⟩:=qhr ds (iF d) (λd' hd=>h d' (af _ hd)) λd' hd=>h' d' (af _ hd);refine ⟨n,?_⟩;have h1:=h d (aq ..);have h2:=h' d (aq ..);cases q:P d with
  | true=>simp [vD,Zn,h1,q,h2 q,e]
  | false=>simp [vD,Zn,h1,q,e]
variable {cap:List Nat} {ρ ρ1:Sl} {ds:List D}
theorem XC {fi:wV} {fe:jg} {ft:xU} (P:D->Bool) (F:D->D) (l:∀ k∈cap,k∉own) (h:fi ρ=.ok (ds,ρ1)) (hl:ds.length<=sizeLine)
  (ht:∀ d∈ds,ft (iF d::cap.map λk=>(ρ1[k]?).getD iH)=.ok (P d,iF d::cap.map λk=>(ρ1[k]?).getD iH)) (i:∀ d∈ds,P d=iK->fe (iF d::cap.map λk=>(ρ1[k]?).getD iH)=.ok (F d,iF d::cap.map λk=>(ρ1[k]?).getD iH)) :
  jh own 1 cap fi (gNm 0) ft fe ρ=.ok (.lst ((ds.filter P).map F),ρ1):=by
 obtain ⟨n,e⟩:=qhr ds iH ht i;unfold jh;rw [h];simp only [uW];rw [if_pos hl,show vP 1 cap ρ1=iH::cap.map λk=>(ρ1[k]?).getD iH from rfl,e];simp only [uW,gc _ _ _ _ l]
theorem qa7 {fi:wV} {fe:jg} (F:D->D) (l:∀ k∈cap,k∉own) (h:fi ρ=.ok (ds,ρ1)) (hl:ds.length<=sizeLine) (ht:∀ d∈ds,fe (iF d::cap.map λk=>(ρ1[k]?).getD iH)=.ok (F d,iF d::cap.map λk=>(ρ1[k]?).getD iH)):jh own 1 cap fi (gNm 0) ftT fe ρ=.ok (.lst (ds.map F),ρ1):=by have e:=XC (ft:=ftT) (λ_=>iK) F l h hl (λ_ _=>rfl) λd hd _=>ht d hd;rw [List.filter_eq_self.mpr λ_ _=>rfl] at e;exact e
theorem wz {fi:wV} {fe:jg} (F:D->D) (h:fi ρ=.ok (ds,ρ1)) (hl:ds.length<=sizeLine) (ht:∀ d∈ds,fe (iF d::cap.map λk=>(ρ1[k]?).getD iH)=.ok (F d,iF d::cap.map λk=>(ρ1[k]?).getD iH)):jh [] 1 cap fi (gNm 0) ftT fe ρ=.ok (.lst (ds.map F),ρ1):=qa7 F (λ_ _=>by simp) h hl ht
noncomputable def qJ (ws:List Str) (p q:Int):List (Str×Str):=ws.map λw=>(qa6 w p,qa6 w q)
noncomputable def qr (l:List (Str×Str)):List D:=l.map λx=>.tup [.str x.1,.str x.2]
variable {n:Nat}
theorem qQ (h:n<=2000):n<=sizeLine:=bA h big
abbrev Wd (ws:List Str):D:=.tup (ws.map D.str)
abbrev Ld (p q:Int):D:=.tup [.int p,.int q]
variable {ws:List Str} {p q:Int}
theorem ZR {G:jJ} (hw:jT ws) (h:∀ w∈ws,G [.str w,.int p]=.ok (.str (qa6 w p),[.non,.non])/\G [.str w,.int q]=.ok (.str (qa6 w q),[.non,.non])):jh [] 1 [1] (jU (qd 0)) (gNm 0) ftT (uT (qc (qu [.vl,.vl] G (qc (qd 0) (qc (d2 ixD (qd 1) (dC (.int 0))) qA))) (qc (qu [.vl,.vl] G (qc (qd 0) (qc (d2 ixD (qd 1) (dC (.int 1))) qA))) qA))) [iF (Wd ws),iF (Ld p q)]
   = .ok (.lst (qr (qJ ws p q)),[iF (Wd ws),iF (Ld p q)]):=by
 have e:=wz (cap:=[1]) (fi:=jU (qd 0)) (ρ:=[iF (Wd ws),iF (Ld p q)]) (ρ1:=[iF (Wd ws),iF (Ld p q)]) (ds:=ws.map D.str)
  (fe:=(uT (qc (qu [.vl,.vl] G (qc (qd 0) (qc (d2 ixD (qd 1) (dC (.int 0))) qA))) (qc (qu [.vl,.vl] G (qc (qd 0) (qc (d2 ixD (qd 1) (dC (.int 1))) qA))) qA))))
  (λd=>match d with | .str w=>.tup [.str (qa6 w p),.str (qa6 w q)] | d=>d) (by simp [jI]) (by rw [ai]; exact qQ (by have:=hw.2.1; omega)) (λd hd=>by obtain ⟨w,c,rfl⟩:=ax.mp hd;obtain ⟨h1,h2⟩:=h w c;have hz:2<=sizeLine:=qQ (by omega);simp [qx,qU,ixD,atI,ixN,h1,h2,hz])
 rw [e];simp [qr,qJ]
def Pl:D->Prop
 | .raw _=>False
 | .xcp _=>False
 | .ins _ _=>False
 | .dct _=>False
 | .at_ _ _=>False
 | _=>True
@[simp] theorem kk1:kB "NoneType" "int"=iF false:=by decide +kernel
@[simp] theorem kk2:kB "bool" "int"=iF true:=by decide +kernel
@[simp] theorem kk3:kB "int" "int"=iF true:=by decide +kernel
@[simp] theorem kk4:kB "str" "int"=iF false:=by decide +kernel
@[simp] theorem kk5:kB "tuple" "int"=iF false:=by decide +kernel
@[simp] theorem kk6:kB "list" "int"=iF false:=by decide +kernel
@[simp] theorem kb1:kB "NoneType" "bool"=iF false:=by decide +kernel
@[simp] theorem kb2:kB "bool" "bool"=iF true:=by decide +kernel
@[simp] theorem kb3:kB "int" "bool"=iF false:=by decide +kernel
@[simp] theorem kb4:kB "str" "bool"=iF false:=by decide +kernel
@[simp] theorem kb5:kB "tuple" "bool"=iF false:=by decide +kernel
@[simp] theorem kb6:kB "list" "bool"=iF false:=by decide +kernel
@[simp] theorem ks1:kB "NoneType" "str"=iF false:=by decide +kernel
@[simp] theorem ks2:kB "bool" "str"=iF false:=by decide +kernel
@[simp] theorem ks3:kB "int" "str"=iF false:=by decide +kernel
@[simp] theorem ks4:kB "str" "str"=iF true:=by decide +kernel
@[simp] theorem ks5:kB "tuple" "str"=iF false:=by decide +kernel
@[simp] theorem ks6:kB "list" "str"=iF false:=by decide +kernel
@[simp] theorem kt1:kB "NoneType" "tuple"=iF false:=by decide +kernel
@[simp] theorem kt2:kB "bool" "tuple"=iF false:=by decide +kernel
@[simp] theorem kt3:kB "int" "tuple"=iF false:=by decide +kernel
@[simp] theorem kt4:kB "str" "tuple"=iF false:=by decide +kernel
@[simp] theorem kt5:kB "tuple" "tuple"=iF true:=by decide +kernel
@[simp] theorem kt6:kB "list" "tuple"=iF false:=by decide +kernel
noncomputable def Vy:D->Bool
 | .tup _=>iK
 | _=>iJ
noncomputable def isInt:D->Bool
 | .int _=>iK
 | .bl _=>iK
 | _=>iJ
variable {d:D}
theorem qdA (h:Pl d):wW "tuple" d=.ok (.bl (Vy d)):=by cases d <;> first | exact h.elim | simp [wW,tyN,Vy]
noncomputable def ZT:D->Bool
 | .str x=>decide (x.length=1)&&(!vM x "a"&&!vM "z" x)
 | _=>iJ
noncomputable def WX (lo hi:Int):D->Bool
 | .int i=>decide (lo<=i)&&decide (i<=hi)
 | _=>iJ
theorem yD (h:Pl d):kC [d]=.ok (.bl (ZT d),[.non]):=by
 refine runD_ap.trans ?_;cases d <;> first
  | exact h.elim
  | (simp [vG,qp,qm,wW,tyN,ZT]; done)
  | skip
 rename_i x;by_cases h1:x.length=1
 ·have c:(x.length:Int)=1:=by omega
  cases h2:vM x "a" <;> simp [vG,qp,wW,tyN,jY,eqD,eqN,eqS,leD,qm,ZT,h1,c,h2]
 ·have c:¬(x.length:Int)=1:=by omega
  simp [vG,qp,wW,tyN,jY,eqD,eqN,eqS,leD,qm,ZT,h1,c]
theorem vx (h:Pl d) (lo hi:Int):kf [d,.int lo,.int hi]=.ok (.bl (WX lo hi d),[.non,.non,.non]):=by
 refine runD_ap.trans ?_;cases d <;> first
  | exact h.elim
  | (simp [vX,qp,qm,wW,tyN,WX,jO]; done)
  | skip
 rename_i i;by_cases h1:lo<=i <;> simp [vX,qp,wW,tyN,leD,qm,WX,jO,h1]
theorem qdB {c:Nat} (h:az c):ZT (.str ⟨#[c]⟩)=true:=by
 have g:(ac "a").cps.toList=[97]:=by decide +kernel
 have hz:(ac "z").cps.toList=[122]:=by decide +kernel
 obtain ⟨h1,h2⟩:=h;have i:¬([c]:List Nat) < [97]:=by rw [List.cons_lt_cons_iff];simp;omega
 have l:¬([122]:List Nat) < [c]:=by rw [List.cons_lt_cons_iff];simp;omega
 have e1:vM ⟨#[c]⟩ (ac "a")=false:=by unfold vM;rw [g];exact decide_eq_false i
 have e:vM (ac "z") ⟨#[c]⟩=false:=by unfold vM;rw [hz];exact decide_eq_false l
 simp [ZT,vL,e1,e]
theorem Kb (f:α->Bool):∀ l:List α,vf (l.map λx=>.bl (f x))=iF (l.map f)
 | []=>rfl
 | a::l=>by have j:=Kb f l;simp [vf,j]
theorem uL (f:α->Bool) (l:List α):YW (.lst (l.map λx=>.bl (f x)))=.ok (.bl (l.all f)):=by simp only [YW,Kb];simp [List.all_map,Function.comp_def]
theorem qa8 (hw:Vx w) (p:Int):∃ c,az c/\qa6 w p=⟨#[c]⟩:=by
 have n:w.cps.toList.length=w.length:=by simp [vL]
 have hl:zD w.length p < w.cps.toList.length:=by have:=hw.1;rw [n];unfold zD;omega
 refine ⟨w.cps.toList[zD w.length p],hw.2.2 _ (bT hl),?_⟩;unfold qa6;rw [aA hl];rfl
theorem xg (hw:Vx w):kt [.str w]=.ok (.bl iK,[.non]):=by
 refine runD_ap.trans ?_;have e:=wz (cap:=[]) (fi:=jU (qd 0)) (ρ:=[iF (.str w)]) (ρ1:=[iF (.str w)]) (ds:=Qv w) (fe:=qu [.vl] kC (qc (qd 0) qA)) (λd=>.bl (ZT d)) (by simp [jI]) (by
   have:=hw.2.1;simp [Qv,<-vL];exact qQ (by omega)) (λd hd=>by
   obtain ⟨c,h,rfl⟩:=ax.mp hd;have h1:=yD (d:=.str ⟨#[c]⟩) trivial;simp [qx,qU,h1])
 have g:(Qv w).all ZT=true:=by rw [aL];intro d hd;obtain ⟨c,h,rfl⟩:=ax.mp hd;exact qdB (hw.2.2 c h)
 have h1:(1:Int)<=w.length:=by have:=hw.1; omega
 have a:(w.length:Int)<=6:=by have:=hw.2.1; omega
 simp only [kr,qp,aJ,cU,au,aY,Nat.reduceAdd,eU,cD,bp];simp [wW,tyN,jO,jY,leD,h1,a,e,uL,g,qm]
theorem xP:∀ (ws ks:List Str),ws.Nodup->(∀ x∈ws,x∉ks)->ws.foldl gk ks=ks++ws
 | [],ks,_,_=>by simp
 | w::ws,ks,hn,hd=>by
  have h1:=aR.mp hn;rw [cz,show gk ks w=ks++[w] from if_neg (hd w (aq ..)),xP ws (ks++[w]) h1.2 ?_];·simp
  ·intro x hx z;rcases aH.mp z with z | z;·exact hd x (af _ hx) z
   ·rw [aE.mp z] at hx;exact h1.1 hx
theorem zE (ws:List Str):∀ ks:List Str,ks.Nodup->(ws.foldl gk ks).Nodup/\∀ x,x∈ws.foldl gk ks↔x∈ks\/x∈ws:=by
 induction ws with
 | nil=>intro ks n; exact ⟨n,λx=>by simp⟩
 | cons w ws j=>
  intro ks n;have d:(gk ks w).Nodup:=by
   unfold gk;split;·exact n
   ·rename_i h;exact fM.mpr ⟨n,by simp,λa g b c=>by rw [aE.mp c];exact λz=>h (z ▸ g)⟩
  obtain ⟨a,b⟩:=j (gk ks w) d;refine ⟨a,λx=>?_⟩;rw [cz,b x];unfold gk;split
  ·rename_i h;constructor
   ·rintro (q | q);·exact .inl q
    ·exact .inr (af _ q)
   ·rintro (q | q);·exact .inl q
    ·rcases ae.mp q with rfl | q;·exact .inl h
     ·exact .inr q
  ·simp [aH,or_assoc]
theorem Yo (hw:jT ws):zT [.tup (ws.map D.str)]=.ok (.bl iK,[.non]):=by
 refine runD_ap.trans ?_;have e:=wz (cap:=[]) (fi:=jU (qd 0)) (ρ:=[iF (.tup (ws.map D.str))]) (ρ1:=[iF (.tup (ws.map D.str))]) (ds:=ws.map D.str) (fe:=qu [.vl] kt (qc (qd 0) qA)) (λd=>.bl iK) (by simp [jI]) (by
   rw [ai];exact qQ (by have:=hw.2.1; omega)) (λd hd=>by
   obtain ⟨w,c,rfl⟩:=ax.mp hd;have h1:=xg (hw.2.2.2 w c);simp [qx,qU,h1])
 have h1:(1:Int)<=ws.length:=by have:=hw.1; omega
 have a:(ws.length:Int)<=6:=by have:=hw.2.1; omega
 have h:ws.foldl gk []=ws:=by rw [xP ws [] hw.2.2.1 (by simp)]; simp
 have b:ws.length < 4000:=by omega
 have g:=uL (λ_:D=>iK) (ws.map D.str);simp only [zS,qp,aJ,cU,au,aY,Nat.reduceAdd,eU,cD,bp];simp [-cm,wW,tyN,jO,jY,leD,h1,a,e,g,qm,QK,zj,yC,h,b,eqD,eqN,eqS]
theorem JA (hw:jT ws):ui [.tup (ws.map D.str)]=.ok (.non,[.non]):=by refine runD_ap.trans ?_;have h:=Yo hw;simp [uh,qp,qm,qx,qU,h,jO]
theorem ZU (hl:Ug p q):QY [.tup [.int p,.int q]]=.ok (.bl iK,[.non]):=by
 refine runD_ap.trans ?_;have e:=wz (cap:=[]) (fi:=jU (qd 0)) (ρ:=[iF (.tup [.int p,.int q])]) (ρ1:=[iF (.tup [.int p,.int q])]) (ds:=[.int p,.int q]) (fe:=qu [.vl,.vl,.vl] kf (qc (qd 0) (qc (dC (.int (-3))) (qc (dC (.int 2)) qA)))) (λd=>.bl (WX (-3) 2 d)) (by simp [jI]) (qQ (by simp)) (λd hd=>by
   have hd:d=.int p\/d=.int q:=by simpa using hd
   have h1:=vx (d:=.int p) trivial (-3) 2;have h2:=vx (d:=.int q) trivial (-3) 2;rcases hd with rfl | rfl;·simp [qx,qU,h1]
   ·simp [qx,qU,h2])
 have A:WX (-3) 2 (.int p)=true:=by simp [WX]; exact hl.1
 have z:WX (-3) 2 (.int q)=true:=by simp [WX]; exact hl.2
 simp only [QX,qp,aJ,cU,au,aY,Nat.reduceAdd,eU,cD,bp];simp [wW,tyN,jO,jY,neD,eqN,eqS,e,YW,vf,A,z,qm]
theorem zF (hl:Ug p q):wb [.tup [.int p,.int q]]=.ok (.non,[.non]):=by refine runD_ap.trans ?_;have h:=ZU hl;simp [yp,qp,qm,qx,qU,h,jO]
theorem zG (hw:jT ws) (hl:Ug p q):xJ [Wd ws,Ld p q]=.ok (.lst (qr (qJ ws p q)),[.non,.non]):=by
 refine runD_ap.trans ?_;have e:=ZR (G:=vH) hw (p:=p) (q:=q) λw c=>⟨gG (hw.2.2.2 w c) p,gG (hw.2.2.2 w c) q⟩
 have k:=JA hw;have c2:=zF hl;simp only [UY,qp,aJ,cU,au,aY,Nat.reduceAdd,eU,cD,bp];simp [qx,qU,k,c2,e,qm]
noncomputable def LS (l:List (Str×Str)):List Str:=xl ((l.map (·.1)++l.map (·.2)).foldl gk [])
variable {l:List (Str×Str)} {x:Str}
theorem mem_LS:x∈LS l↔∃ p∈l,x=p.1\/x=p.2:=by
 unfold LS;rw [(jj _).mem_iff,(zE _ [] dJ).2];simp only [aU,false_or,aH,ax];constructor
 ·rintro (⟨p,hp,rfl⟩ | ⟨p,hp,rfl⟩);·exact ⟨p,hp,.inl rfl⟩
  ·exact ⟨p,hp,.inr rfl⟩
 ·rintro ⟨p,hp,rfl | rfl⟩;·exact .inl ⟨p,hp,rfl⟩
  ·exact .inr ⟨p,hp,rfl⟩
theorem uM (hl:l.length<=20):jc [.lst (qr l)]=.ok (.lst ((LS l).map D.str),[.non]):=by
 refine runD_ap.trans ?_;have hz:(qr l).length<=sizeLine:=by unfold qr;rw [ai];exact qQ (by omega)
 have e1:=wz (cap:=[]) (fi:=jU (qd 0)) (ρ:=[iF (.lst (qr l))]) (ρ1:=[iF (.lst (qr l))]) (ds:=qr l) (fe:=d2 ixD (qd 0) (dC (.int 0))) (λd=>match d with | .tup [a,b]=>a | d=>d) (by simp [jI]) hz (λd hd=>by obtain ⟨x,hx,rfl⟩:=ax.mp hd;simp [ixD,atI,ixN]);have i:=wz (cap:=[]) (fi:=jU (qd 0)) (ρ:=[iF (.lst (qr l))]) (ρ1:=[iF (.lst (qr l))]) (ds:=qr l) (fe:=d2 ixD (qd 0) (dC (.int 1))) (λd=>match d with | .tup [a,b]=>b | d=>d) (by simp [jI]) hz (λd hd=>by obtain ⟨x,hx,rfl⟩:=ax.mp hd;simp [ixD,atI,ixN]);have f1:(qr l).map (λd=>match d with | .tup [a,b]=>a | d=>d)=(l.map (·.1)).map D.str:=by simp [qr]
 have f2:(qr l).map (λd=>match d with | .tup [a,b]=>b | d=>d)=(l.map (·.2)).map D.str:=by simp [qr]
 rw [f1] at e1;rw [f2] at i;have hs:l.length+l.length<=sizeLine:=qQ (by omega);have j:l.length+l.length < 64:=by omega
 simp only [yq,qp,aJ,cU,au,aY,Nat.reduceAdd,eU,cD,bp,qeY,gL,qjc,e1,i,uW];simp only [vh,ai,if_pos hs,qi7,uW,<-cR,yL,zj,yC,ao,if_pos j];simp [qm,LS]
variable {a:D}
theorem at0 {l:List D}:atI (a::l) 0=iF a:=by have:=wB (a::l) 0;simpa using this
theorem at1 {b:D} {l:List D}:atI (a::b::l) 1=iF b:=by have:=wB (a::b::l) 1;simpa using this
abbrev nn4:Sl:=[iF .non,iF .non,iF .non,iF .non]
theorem uN (h:Pl d):vZ [d]=if WX 1 99 d=iK then .ok (.non,[.non]) else .exc "NoRoom" [iF .non]:=by refine runD_ap.trans ?_;have h1:=vx h 1 99;have hz:1<=sizeLine:=qQ (by omega);cases e:WX 1 99 d <;> simp [ym,qp,qm,qx,qU,h1,e,jO,jp]
theorem qE {ms:List PM} {f g:qR} (h:f ρ=.ok (.nx,ρ1)):ZE ms (qG f g ρ)=ZE ms (g ρ1):=by rw [UN,h];rfl
theorem qhs (hw:jT ws) (p q:Int):(LS (qJ ws p q)).length<=12:=by
 have hs:(qJ ws p q).length<=6:=by simp [qJ]; exact hw.2.1
 unfold LS;rw [(jj _).length_eq];have:=QA ((qJ ws p q).map (·.1)++(qJ ws p q).map (·.2)) [];simp only [ao,ai,aY] at this;omega
theorem qfl (hw:jT ws) (p q:Int):∀ x∈LS (qJ ws p q),∃ c,az c/\x=⟨#[c]⟩:=λx hx=>by
 obtain ⟨y,B,h⟩:=mem_LS.mp hx;obtain ⟨w,m,rfl⟩:=ax.mp B;rcases h with rfl | rfl;·exact qa8 (hw.2.2.2 w m) p
 ·exact qa8 (hw.2.2.2 w m) q
theorem qht (l:List (Str×Str)):(LS l).Nodup:=(jj _).nodup_iff.mpr (zE _ [] dJ).1
def qj3 (d:D):Prop:=Pl d/\∀ xs,d=.tup xs->∀ x∈xs,Pl x
noncomputable def qa9 (room:Int):D->Bool
 | .tup [a,b]=>ZT a&&WX 0 (room - 1) b
 | _=>iJ
theorem Yp (h:qj3 d) (room:Int):yQ [d,.int room]=.ok (.bl (qa9 room d),[.non,.non]):=by
 refine runD_ap.trans ?_;have ht:=qdA h.1;cases d with
 | tup xs=>
  have hp:=h.2 xs rfl
  match xs,hp with
  | [],_=>simp [kE,qp,qm,ht,Vy,jO,jY,neD,eqN,eqS,qa9]
  | [a],_=>simp [kE,qp,qm,ht,Vy,jO,jY,neD,eqN,eqS,qa9]
  | [a,b],hp=>have h1:=yD (hp a (by simp));have h2:=vx (hp b (by simp)) 0 (room - 1);cases f:ZT a <;> simp [kE,qp,qm,ht,Vy,jO,jY,neD,eqN,eqS,qa9,ixD,at0,at1,qx,qU,h1,h2,f,Zi,Ui]
  | a::b::c::l,_=>
   have e:¬((l.length:Int)+1+1+1=2):=by omega
   simp [kE,qp,qm,ht,Vy,jO,jY,neD,eqN,eqS,qa9,e]
 | _=>first | exact h.1.elim | simp [kE,qp,qm,ht,Vy,jO,qa9]
noncomputable def prL (l:List (Str×Int)):List D:=l.map λx=>.tup [.str x.1,.int x.2]
def OkW (room:Int) (l:List (Str×Int)):Prop:=∀ x∈l,ZT (.str x.1)=iK/\0<=x.2/\x.2 < room
variable {room:Int}
theorem qfm {l:List (Str×Int)} (h:OkW room l):(prL l).all (qa9 room)=true:=by rw [aL];intro d hd;obtain ⟨x,hx,rfl⟩:=ax.mp hd;obtain ⟨h1,h2,h3⟩:=h x hx;simp [qa9,h1,WX,h2];omega
noncomputable def jx (l:List (Str×Int)):List Str:=l.map (·.1)
theorem WY:∀ (a b:List Str),wM (eqN 7) (a.map D.str) (b.map D.str)=iF (decide (a.take (min a.length b.length)=b.take (min a.length b.length)))
 | [],b=>by simp [wM]
 | a::l,[]=>by simp [wM]
 | a::l,b::m=>by have j:=WY l m;simp only [aJ,wM,j,eqN,eqS,au,Nat.succ_eq_add_one,show min (l.length+1) (m.length+1)=min l.length m.length+1 by omega,List.take_succ_cons];by_cases h:a=b <;> simp [h]
theorem qcU (a b:List Str):eqD (.lst (a.map D.str)) (.lst (b.map D.str))=.ok (.bl (decide (a=b))):=by
 by_cases h:a.length=b.length;·have e:=WY a b;rw [h,Nat.min_self,fY,<-h,fY] at e;simp [eqD,eqN,h,e]
 ·have c:a≠b:=λz=>h (by rw [z]);simp [eqD,eqN,h,c]
noncomputable def Yq (l:List (Str×Int)):Bool:=decide (jx l=xl ((jx l).foldl gk []))
theorem WZ (h:∀ d∈ds,qj3 d) (hl:ds.length<=50) (room:Int):(ds.all (qa9 room)=iJ->kF [.tup ds,.int room]=.ok (.bl iJ,[.non,.non]))/\∀ l,ds=prL l->OkW room l->kF [.tup ds,.int room]=.ok (.bl (Yq l),[.non,.non]):=by
 have hz:ds.length<=sizeLine:=qQ (by omega);have ht:=qdA (d:=.tup ds) trivial;have e1:=wz (cap:=[1]) (fi:=jU (qd 0)) (ρ:=[iF (.tup ds),iF (.int room),iH]) (ρ1:=[iF (.tup ds),iF (.int room),iH]) (ds:=ds) (fe:=qu [.vl,.vl] yQ (qc (qd 0) (qc (qd 1) qA))) (λd=>.bl (qa9 room d)) (by simp [jI]) hz (λd hd=>by have h1:=Yp (h d hd) room;simp [qx,qU,h1]);have g:=uL (qa9 room) ds;constructor;·intro c;refine runD_ap.trans ?_;simp [ug,qp,qm,ht,Vy,jO,e1,g,c]
 ·rintro l rfl hw;refine runD_ap.trans ?_;have c:=qfm hw;have i:=wz (cap:=[]) (fi:=jU (qd 0)) (ρ:=[iF (.tup (prL l)),iF (.int room),iH]) (ρ1:=[iF (.tup (prL l)),iF (.int room),iH]) (ds:=prL l) (fe:=d2 ixD (qd 0) (dC (.int 0))) (λd=>match d with | .tup [a,b]=>a | d=>d) (by simp [jI]) hz (λd hd=>by obtain ⟨x,hx,rfl⟩:=ax.mp hd;simp [ixD,at0]);have f2:(prL l).map (λd=>match d with | .tup [a,b]=>a | d=>d)=(jx l).map D.str:=by simp [prL,jx]
  rw [f2] at i;have j:(jx l).length < 64:=by simp [jx];simp [prL] at hl;omega
  have m:=qcU (jx l) (xl ((jx l).foldl gk []));simp [ug,qp,qm,ht,Vy,jO,e1,g,c,i,yL,zj,yC,j,m,Yq]
noncomputable def Yr:List Str->Bool
 | x::y::l=>vM x y&&Yr (y::l)
 | _=>iK
variable {y:Str}
theorem qju (h:vM x y=iK):leS x y/\x≠y:=by
 unfold vM at h;have h:=of_decide_eq_true h;constructor;·exact List.le_of_lt h
 ·rintro rfl;exact List.lt_irrefl _ h
theorem qjv (h:leS x y) (n:x≠y):vM x y=true:=by
 cases e:vM x y with
 | true=>rfl
 | false=>exact absurd (Ky h (strLt_false.mp e)) n
theorem Ys:∀ (l:List Str),Yr l=iK->l.Pairwise (λx y=>leS x y/\x≠y)
 | [],_=>dF
 | [x],_=>db _ _
 | x::y::l,h=>by
  have h:(vM x y&&Yr (y::l))=true:=h;rw [aM] at h;have j:=Ys (y::l) h.2;have a:=qju h.1;refine bh.mpr ⟨λz hz=>?_,j⟩;rcases ae.mp hz with rfl | hz;·exact a
  ·have b:=(bh.mp j).1 z hz;refine ⟨QF a.1 b.1,λe=>?_⟩;subst e;exact a.2 (Ky a.1 b.1)
theorem Yt:∀ (l:List Str),l.Pairwise (λx y=>leS x y/\x≠y)->Yr l=iK
 | [],_=>rfl
 | [x],_=>rfl
 | x::y::l,h=>by have h1:=bh.mp h;have a:=h1.1 y (aq ..);show (vM x y&&Yr (y::l))=iK;rw [qjv a.1 a.2,Yt (y::l) h1.2];rfl
theorem XD {l:List Str} (h:l.Pairwise (λx y=>leS x y/\x≠y)):l.Nodup:=h.imp λh=>h.2
theorem XE (L:List Str):decide (L=xl (L.foldl gk []))=Yr L:=by
 cases e:Yr L with
 | true=>
  have p:=Ys L e;have n:=XD p;have f:L.foldl gk []=L:=by rw [xP L [] n (by simp)]; simp
  rw [f];exact decide_eq_true (QI (jj L).symm (p.imp λh=>h.1) (kT L))
 | false=>refine decide_eq_false λz=>?_;have n:(xl (L.foldl gk [])).Nodup:=(jj _).nodup_iff.mpr (zE L [] dJ).1;have hs:=kT (L.foldl gk []);rw [<-z] at n hs;have p:L.Pairwise (λx y=>leS x y/\x≠y):=hs.and n;rw [Yt L p] at e;cases e
theorem ZV {l:List (Str×Int)} (h:Yq l=iK):(jx l).Nodup:=by unfold Yq at h;rw [XE] at h;exact XD (Ys _ h)
noncomputable def bk (l:List (Str×Int)):List (Key×D):=l.map λx=>(.inr x.1,.int x.2)
theorem Ua:∀ l:List (Str×Int),xo (prL l)=iF (bk l)
 | []=>rfl
 | x::l=>by have j:=Ua l;unfold prL at j ⊢;rw [aJ];simp [xo,qcm,Uk,j,bk]
theorem qba:∀ (l:List (Str×Int)) (a:List (Key×D)),(jx l).Nodup->(∀ x∈l,∀ p∈a,p.1≠.inr x.1)->(bk l).foldl (λa p=>wX a p.1 p.2) a=a++bk l
 | [],a,_,_=>by simp [bk]
 | x::l,a,hn,hd=>by
  have h1:=aR.mp (show (x.1::jx l).Nodup from hn);have hp:wX a (.inr x.1) (.int x.2)=a++[(.inr x.1,.int x.2)]:=by unfold wX;rw [if_neg];simp only [fZ,decide_eq_true_eq,not_exists,not_and];exact λp hp=>hd x (aq ..) p hp
  have j:=qba l (a++[(.inr x.1,.int x.2)]) h1.2 (λy B p hp=>by
   rcases aH.mp hp with hp | hp;·exact hd y (af _ B) p hp
   ·rw [aE.mp hp];intro z;have z:x.1=y.1:=ck.inj z;exact h1.1 (z ▸ ax.mpr ⟨y,B,rfl⟩))
  show ((bk l).foldl (λa p=>wX a p.1 p.2) (wX a (.inr x.1) (.int x.2)))=a++(.inr x.1,.int x.2)::bk l;rw [hp,j];simp
theorem qfn {l:List (Str×Int)} (h:(jx l).Nodup):qcn (.tup (prL l))=.ok (.dct (bk l)):=by have e:=qba l [] h (λ_ _ p hp=>by cases hp);simp at e;simp [qcn,Ua,e]
theorem XF (l:List (Str×Int)) (x:Str):vi (bk l) (.inr x)=decide (x∈jx l):=by
 unfold vi bk jx;rw [List.any_map]
 induction l with
 | nil=>simp
 | cons a l j=>
  simp only [cI,aJ,ae,j];by_cases h:a.1=x;·simp [h]
  ·simp [h,bf h]
noncomputable def Jp (l:List (Str×Int)) (x:Str):Int:=((l.find? λy=>decide (y.1=x)).map (·.2)).getD 0
theorem Vz:∀ {l:List (Str×Int)} {x:Str},x∈jx l->(x,Jp l x)∈l/\(bk l).find? (λkv=>decide (kv.1=ck x))=iF (.inr x,.int (Jp l x))
 | [],x,h=>by cases h
 | a::l,x,h=>by
  by_cases e:a.1=x
  ·have c:Jp (a::l) x=a.2:=by simp [Jp,e]
   rw [c];refine ⟨?_,?_⟩;·rw [<-e];exact aq ..
   ·simp [bk,e]
  ·have hx:x∈jx l:=by
    rcases ae.mp (show x∈a.1::jx l from h) with z | z;·exact absurd z.symm e
    ·exact z
   obtain ⟨h1,h2⟩:=Vz hx;have c:Jp (a::l) x=Jp l x:=by simp [Jp,e]
   rw [c];refine ⟨af _ h1,?_⟩;rw [<-h2];simp [bk,e]
theorem qhu {l:List (Str×Int)} (h:x∈jx l):ixD (.dct (bk l)) (.str x)=.ok (.int (Jp l x)):=by simp [ixD,(Vz h).2]
theorem qdC {l:List (Str×Int)} (hw:OkW room l) (h:x∈jx l):0<=Jp l x/\Jp l x < room:=(hw _ (Vz h).1).2
variable {b:Bool}
theorem Ji (h:kF [d,.int room]=.ok (.bl b,[.non,.non])):wF [d,.int room]=if b=iK then .ok (.non,[.non,.non]) else .exc "NoWorths" [iF .non,iF .non]:=by refine runD_ap.trans ?_;cases b <;> simp [wE,qp,qm,qx,qU,h,jO,jp]
theorem qbb (t room:Int):Qa [.int t,.int room]=.ok (.int (if room<=t then t - room else t),[.non,.non]):=by refine runD_ap.trans ?_;by_cases h:room<=t <;> simp [Vb,qp,qm,geD,Ui,Zi,h]
variable {r:Int}
section
variable (hw:jT ws) (hl:Ug p q)
include hw hl
noncomputable def qip (l:List (Str×Int)) (s:List (Str×Str)) (r:Int):List D:=s.map λx=>.int ((Jp l x.1+Jp l x.2) % r)
omit hw hl in
theorem qkz {a b:Int} (g:0<=a/\a < r) (d:0<=b/\b < r):(if r<=a+b then a+b - r else a+b)=(a+b) % r:=by
 split;·rw [<-Int.sub_emod_right,fO (by omega) (by omega)]
 ·rw [fO (by omega) (by omega)]
theorem Yu {l:List (Str×Int)} (f:WX 1 99 (.int r)=iK) (o:OkW r l) (hs:Yq l=iK) (h:kF [.tup (prL l),.int r]=.ok (.bl iK,[.non,.non])):kG [Wd ws,Ld p q,.int r,.tup (prL l)]=if (LS (qJ ws p q)).all (λx=>decide (x∈jx l))=iK then .ok (.tup (qip l (qJ ws p q) r),[.non,.non,.non,.non]) else .exc "NoWorths" nn4:=by
 refine runD_ap.trans ?_;have h1:=zG hw hl;have h2:=uN (d:=.int r) trivial;rw [f] at h2;have h3:=Ji h;have c:=qfn (ZV hs);have k:(qJ ws p q).length<=6:=by simp [qJ]; exact hw.2.1
 have j:=uM (l:=qJ ws p q) (by omega);have n:(LS (qJ ws p q)).length<=2000:=by unfold LS;rw [(jj _).length_eq];have:=QA ((qJ ws p q).map (·.1)++(qJ ws p q).map (·.2)) [];simp only [ao,ai,aY] at this;omega
 have e1:=wz (cap:=[5]) (fi:=jU (qu [.vl] jc (qc (qd 4) qA))) (ρ:=[iF (Wd ws),iF (Ld p q),iF (.int r),iF (.tup (prL l)),iF (.lst (qr (qJ ws p q))),iF (.dct (bk l))]) (ρ1:=[iF (Wd ws),iF (Ld p q),iF (.int r),iF (.tup (prL l)),iF (.lst (qr (qJ ws p q))),iF (.dct (bk l))]) (ds:=(LS (qJ ws p q)).map D.str)
  (fe:=d2 inA (qd 0) (qd 1)) (λd=>match d with | .str x=>.bl (decide (x∈jx l)) | d=>d) (by simp [qx,qU,j,jI]) (by rw [ai]; exact qQ n) (λd hd=>by obtain ⟨x,hx,rfl⟩:=ax.mp hd;simp [inA,Uk,XF])
 rw [cm] at e1;have g:=uL (λx=>decide (x∈jx l)) (LS (qJ ws p q));have e:jh [] 1 [5] (jU (qu [.vl] jc (qc (qd 4) qA))) (gNm 0) ftT (d2 inA (qd 0) (qd 1)) [iF (Wd ws),iF (Ld p q),iF (.int r),iF (.tup (prL l)),iF (.lst (qr (qJ ws p q))),iF (.dct (bk l))]=.ok (.lst ((LS (qJ ws p q)).map λx=>.bl (decide (x∈jx l))),[iF (Wd ws),iF (Ld p q),iF (.int r),iF (.tup (prL l)),iF (.lst (qr (qJ ws p q))),iF (.dct (bk l))]):=e1;cases hA:(LS (qJ ws p q)).all (λx=>decide (x∈jx l)) with
 | false=>rw [hA] at g;simp [yV,qp,qm,qx,qU,h1,h2,h3,c,e,g,jO,jp]
 | true=>
  rw [hA] at g;have y:∀ x∈qJ ws p q,x.1∈jx l/\x.2∈jx l:=λx hx=>by rw [aL] at hA;exact ⟨of_decide_eq_true (hA x.1 (mem_LS.mpr ⟨x,hx,.inl rfl⟩)),of_decide_eq_true (hA x.2 (mem_LS.mpr ⟨x,hx,.inr rfl⟩))⟩
  have i:=wz (cap:=[2,5]) (fi:=jU (qd 4)) (ρ:=[iF (Wd ws),iF (Ld p q),iF (.int r),iF (.tup (prL l)),iF (.lst (qr (qJ ws p q))),iF (.dct (bk l))]) (ρ1:=[iF (Wd ws),iF (Ld p q),iF (.int r),iF (.tup (prL l)),iF (.lst (qr (qJ ws p q))),iF (.dct (bk l))]) (ds:=qr (qJ ws p q))
   (fe:=qu [.vl,.vl] Qa (qc (d2 vh (d2 ixD (qd 2) (d2 ixD (qd 0) (dC (.int 0)))) (d2 ixD (qd 2) (d2 ixD (qd 0) (dC (.int 1))))) (qc (qd 1) qA))) (λd=>match d with | .tup [.str a,.str b]=>.int ((Jp l a+Jp l b) % r) | d=>d) (by simp [jI]) (by simp [qr]; exact qQ (by omega)) (λd hd=>by
    obtain ⟨x,hx,rfl⟩:=ax.mp hd;obtain ⟨i1,i2⟩:=y x hx;have Y:=qhu i1;have U:=qhu i2;have wr:=qkz (qdC o i1) (qdC o i2);have wi:=qbb (Jp l x.1+Jp l x.2) r;rw [wr] at wi;have k0:ixD (.tup [.str x.1,.str x.2]) (.int 0)=.ok (.str x.1):=by simp [ixD,at0]
    have k1:ixD (.tup [.str x.1,.str x.2]) (.int 1)=.ok (.str x.2):=by simp [ixD,at1]
    simp [qx,qU,k0,k1,Y,U,vh,wi])
  have f2:(qr (qJ ws p q)).map (λd=>match d with | .tup [.str a,.str b]=>.int ((Jp l a+Jp l b) % r) | d=>d)=qip l (qJ ws p q) r:=by simp [qr,qip]
  rw [f2] at i;simp [yV,qp,qm,qx,qU,h1,h2,h3,c,e,g,jO,i,Wo]
end
def qbw (ca:Str->Addr):Prop:=∀ x∈CS,∀ y∈CS,ca x=ca y->x=y
variable {ca:Str->Addr}
theorem qT (h:qbw ca) (hx:x∈CS) (B:y∈CS) (e:decide (y=x)=b):Zu ca CS x (ca y)=iF b:=by
 unfold Zu;rw [if_pos (ax.mpr ⟨y,B,rfl⟩),<-e];by_cases z:y=x;·simp [z]
 ·have:ca y≠ca x:=λw=>z (h y B x hx w);simp [z,this]
theorem VA (B:y∈CS):qgY ca CS (ca y)=iF true:=by unfold qgY;rw [if_pos (ax.mpr ⟨y,B,rfl⟩)]
theorem qdD (B:y∈CS):qgX ca CS y=iF (ca y):=by unfold qgX;rw [if_pos B]
abbrev pD (x:Str×Str):D:=.tup [.str x.1,.str x.2]
noncomputable def al (x y:Str×Str):Bool:=decide (x=y)||decide (x=(y.2,y.1))
theorem al_iff {x y:Str×Str}:al x y=iK↔x=y\/x=(y.2,y.1):=by simp [al]
noncomputable def pa (l:List (Str×Str)) (i:Nat):Str×Str:=(l[i]?).getD ("", "")
variable {i:Nat}
theorem qdE (h:i < l.length):(qr l)[i]?=iF (pD (pa l i)):=by unfold qr pa;rw [aG,aA h];rfl
theorem Ub (x y:Str×Str):uH [pD x,pD y]=.ok (.bl (al x y),[.non,.non]):=by
 obtain ⟨a,b⟩:=x;obtain ⟨c,d⟩:=y;refine runD_ap.trans ?_;have hz:2<=sizeLine:=qQ (by omega);by_cases h1:a=c/\b=d;·obtain ⟨rfl,rfl⟩:=h1;simp [uG,qp,qm,pD,eqD,eqN,wM,eqS,al]
 ·have e1:(a == c&&b == d)=false:=by
   cases q:(a == c&&b == d) with
   | false=>rfl
   | true=>simp at q; exact absurd q h1
  have i:¬((a,b)=(c,d)):=λz=>h1 ⟨congrArg Prod.fst z,congrArg Prod.snd z⟩;have E:(a == d&&b == c)=decide ((a,b)=(d,c)):=by
   by_cases q:(a,b)=(d,c)
   ·rw [decide_eq_true q];cases q;simp
   ·rw [decide_eq_false q];cases g:(a == d&&b == c) with
    | false=>rfl
    | true=>simp at g; exact absurd (by rw [g.1,g.2]) q
  have B:al (a,b) (c,d)=decide ((a,b)=(d,c)):=by unfold al;rw [decide_eq_false i];rfl
  rw [B,<-E];simp [uG,qp,qm,pD,eqD,eqN,wM,eqS,e1,ixD,atI,ixN,hz]
theorem XG:WA (qr l)=(aK l.length).map λ(j:Nat)=>.tup [.int j,pD (pa l j)]:=by
 refine eI λj=>?_;unfold WA;rw [aG,aG,List.getElem?_zipIdx];by_cases h:j < l.length;·rw [qdE h,List.getElem?_range h];simp
 ·have n:(qr l).length=l.length:=by simp [qr]
  rw [bL (by omega),bL (by simp; omega)];rfl
theorem Qd (ws:List Str) (p q:Int):(qJ ws p q).length=ws.length:=by simp [qJ]
abbrev qcV:qR:=(sIf (uZ (qu [.vl,.vl] uH (qc (d2 ixD (qd 0) (qd 3)) (qc (qd 2) qA)))) (jz (uT (qc (qd 3) (qc (qd 1) qA)))) qX)
abbrev qcW:qR:=(Uj (kZ (qd 1)) (gNm 3) qcV)
abbrev clP (l:List (Str×Str)) (i j:Nat):Bool:=al (pa l j) (pa l i)
theorem XH {i:Nat}:∀ (s:List Nat) (x:Option D),(∀ j∈s,j < l.length) ->(∃ n,vd (gNm 3) qcV (s.map λ(j:Nat)=>.int j) [iF (.lst (qr l)),iF (.int i),iF (pD (pa l i)),x]=.ok (.nx,[iF (.lst (qr l)),iF (.int i),iF (pD (pa l i)),n])/\s.find? (clP l i)=iH)
  \/ ∃ a ρ',s.find? (clP l i)=iF a/\vd (gNm 3) qcV (s.map λ(j:Nat)=>.int j) [iF (.lst (qr l)),iF (.int i),iF (pD (pa l i)),x]=.ok (.rt (.tup [.int a,.int i]),ρ')
 | [],x,_=>.inl ⟨x,rfl,rfl⟩
 | j::s,x,hj=>by
  have h:=Ub (pa l j) (pa l i);have hg:=qdE (hj j (aq ..));have hz:2<=sizeLine:=qQ (by omega);rw [cP];cases q:al (pa l j) (pa l i) with
  | true=>rw [q] at h;have q:clP l i j=true:=q;rw [q];exact .inr ⟨j,_,rfl,by simp [vd,qcV,ixD,wB,hg,qx,qU,h,jO,hz]; rfl⟩
  | false=>
   rw [q] at h;have q:clP l i j=false:=q;rw [q];have s1:vd (gNm 3) qcV ((j::s).map λ(j:Nat)=>.int j) [iF (.lst (qr l)),iF (.int i),iF (pD (pa l i)),x]=vd (gNm 3) qcV (s.map λ(j:Nat)=>.int j) [iF (.lst (qr l)),iF (.int i),iF (pD (pa l i)),iF (.int j)]:=by simp [vd,qcV,ixD,wB,hg,qx,qU,h,jO]
   rw [s1];exact XH s (iF (.int j)) (λk b=>hj k (af _ b))
theorem qj4 (n:Nat):VG 0 n=(aK n).map λ(j:Nat)=>.int j:=by unfold VG;simp
theorem iR0 {f:jg} {k:Int} (h0:0<=k) (h1:k<=2000) (h:f ρ=.ok (.int k,ρ1)):kZ f ρ=.ok (VG 0 k.toNat,ρ1):=by
 have c:-(2 ^ 62:Int)<=k/\k < 2 ^ 62:=by omega
 simp [kZ,h,-Int.reducePow,c]
theorem iR1 {f:jg} (h:f ρ=.ok (.int n,ρ1)) (a:n<=2000):kZ f ρ=.ok ((aK n).map λ(j:Nat)=>.int j,ρ1):=by rw [iR0 (by omega) (by omega) h,qj4,dE]
abbrev clS (l:List (Str×Str)) (i:Nat) (z:Option D):Sl:=[iF (.lst (qr l)),iF (.int i),iF (pD (pa l i)),z]
theorem qcX (hl:l.length<=100) (hi:i < l.length) (z:Option D):(∃ x,qcW (clS l i z)=.ok (.nx,clS l i x)/\(aK i).find? (clP l i)=iH)
  \/ ∃ a ρ',(aK i).find? (clP l i)=iF a/\qcW (clS l i z)=.ok (.rt (.tup [.int a,.int i]),ρ'):=by
 have c:=iR1 (f:=qd 1) (ρ:=clS l i z) (ρ1:=clS l i z) (n:=i) rfl (by omega);have e0:qcW (clS l i z)=vd (gNm 3) qcV ((aK i).map λ(j:Nat)=>.int j) (clS l i z):=by show (kZ (qd 1) (clS l i z)).bind (λp=>vd (gNm 3) qcV p.1 p.2)=_;rw [c,uW]
 rw [e0];exact XH (l:=l) (i:=i) (aK i) z (λj h=>by have:=bg.mp h; omega)
noncomputable def clF (l:List (Str×Str)) (i:Nat):Option (Nat×Nat):=((aK i).find? (clP l i)).map λa=>(a,i)
theorem qbc {B:qR} (o:∀ i,i < l.length->∀ z,(∃ c,B (clS l i z)=.ok (.nx,clS l i c)/\(aK i).find? (clP l i)=iH)
  \/ ∃ a ρ',(aK i).find? (clP l i)=iF a/\B (clS l i z)=.ok (.rt (.tup [.int a,.int i]),ρ')):∀ (is:List Nat) (x y z:Option D),(∀ i∈is,i < l.length) ->
  (∃ c s f,vd (xj 2 (jr (gNm 1) (jr (gNm 2) xi))) B (is.map λ(j:Nat)=>.tup [.int j,pD (pa l j)]) [iF (.lst (qr l)),x,y,z]=.ok (.nx,[iF (.lst (qr l)),c,s,f])/\is.findSome? (clF l)=iH)
  \/ ∃ (a b:Nat) (ρ':Sl),is.findSome? (clF l)=iF (a,b)/\vd (xj 2 (jr (gNm 1) (jr (gNm 2) xi))) B (is.map λ(j:Nat)=>.tup [.int j,pD (pa l j)]) [iF (.lst (qr l)),x,y,z]=.ok (.rt (.tup [.int a,.int b]),ρ'):=by
 intro is
 induction is with
 | nil=>exact λx y z _=>.inl ⟨x,y,z,rfl,rfl⟩
 | cons i is h=>
  intro x y z hi;rw [List.findSome?_cons];rcases o i (hi i (aq ..)) z with ⟨c,e,n⟩ | ⟨a,ρ',m,e⟩
  ·have s1:vd (xj 2 (jr (gNm 1) (jr (gNm 2) xi))) B ((i::is).map λ(j:Nat)=>.tup [.int j,pD (pa l j)]) [iF (.lst (qr l)),x,y,z]=vd (xj 2 (jr (gNm 1) (jr (gNm 2) xi))) B (is.map λ(j:Nat)=>.tup [.int j,pD (pa l j)]) (clS l i c):=by simp [vd,xj,jr,xi,e]
   have d:clF l i=none:=by unfold clF; rw [n]; rfl
   rw [s1,d];exact h (iF (.int i)) (iF (pD (pa l i))) c (λk g=>hi k (af _ g))
  ·have d:clF l i=iF (a,i):=by unfold clF; rw [m]; rfl
   rw [d];refine .inr ⟨a,i,ρ',rfl,?_⟩;simp [vd,xj,jr,xi,e]
noncomputable def clo (l:List (Str×Str)):Option (Nat×Nat):=(aK l.length).findSome? (clF l)
noncomputable def clD:Option (Nat×Nat)->D
 | none=>.non
 | some x=>.tup [.int x.1,.int x.2]
theorem Jj (hl:l.length<=100):vA [.lst (qr l)]=.ok (clD (clo l),[.non]):=by
 refine runD_ap.trans ?_;rcases qbc (l:=l) (B:=qcW) (λi hi z=>qcX (by omega) hi z) (aK l.length) iH iH iH (λj D=>bg.mp D) with ⟨x,s,c,e,n⟩ | ⟨a,b,ρ',n,e⟩
 all_goals
  rw [<-XG] at e;have n:clo l=_:=n;rw [n];simp [gb,qp,qm,qay,e,clD]
theorem qfo (hw:jT ws) (hl:Ug p q) (e:vA [.lst (qr (qJ ws p q))]=.ok (d,[.non])):Ym [Wd ws,Ld p q]=.ok (d,[.non,.non]):=by have h:=zG hw hl;refine runD_ap.trans ?_;simp [Yl,qp,qm,qx,qU,h,e]
noncomputable def co (x:Str×Str) (c:Str):Int:=(if x.1=c then 1 else 0)+if x.2=c then 1 else 0
noncomputable def cn (K:List (Str×Str)) (c:Str):Int:=(K.map λx=>co x c).sum
theorem qcY (x:Str×Str) (c:Str):0<=co x c/\co x c<=2:=by unfold co;split <;> split <;> omega
theorem qbd (x:Str×Str) (c:Str):xp (pD x) (.str c)=.ok (.int (co x c)):=by obtain ⟨a,b⟩:=x;have h:=ky c [a,b];have h:gh 7 (.str c) [.str a,.str b]=iF (decide (c∈[a,b])):=h;unfold xp co;simp only [h];by_cases q:a=c <;> by_cases e:b=c <;> simp [eqN,eqS,q,e]
theorem qbe {l:List Int} (h1:l.length<=1000) (h2:∀ k∈l,0<=k/\k<=100000):KH (.lst (l.map D.int))=.ok (.int l.sum):=by
 have:l.length<=1000/\(l.all λk=>decide (0<=k/\k<=100000))=true:=⟨h1,aL.mpr λk h=>decide_eq_true (h2 k h)⟩
 simp only [KH,WC,if_pos this]
variable {K:List (Str×Str)}
theorem qfp (m:K.length<=100) (c:Str) (a b:Option D):jh [] 1 [3] (jU (qd 1)) (gNm 0) ftT (dM qcz xp (qd 0) (qd 1)) [a,iF (.lst (qr K)),b,iF (.str c)]=.ok (.lst ((K.map λx=>co x c).map D.int),[a,iF (.lst (qr K)),b,iF (.str c)]):=by have e:=wz (cap:=[3]) (fi:=jU (qd 1)) (ρ:=[a,iF (.lst (qr K)),b,iF (.str c)]) (ρ1:=[a,iF (.lst (qr K)),b,iF (.str c)]) (ds:=qr K) (fe:=dM qcz xp (qd 0) (qd 1)) (λd=>match d with | .tup [.str x,.str y]=>.int (co (x,y) c) | d=>d) (by simp [jI]) (by unfold qr; rw [ai]; exact qQ (by omega)) (λd hd=>by obtain ⟨x,hx,rfl⟩:=ax.mp hd;have h:=qbd x c;have h:xp (.tup [.str x.1,.str x.2]) (.str c)=.ok (.int (co x c)):=h;simp [dM,qcz,h]);rw [e];congr 2;simp [qr]
noncomputable def lo (K:List (Str×Str)) (x:Str×Str):Bool:=decide (cn K x.1=1)||decide (cn K x.2=1)
theorem qdF (K L:List (Str×Str)) (c:Str):cn (K++L) c=cn K c+cn L c:=by unfold cn;rw [cR,g8]
theorem qhv (K:List (Str×Str)) (c:Str):0<=cn K c:=by
 induction K with
 | nil=>exact Int.le_refl _
 | cons x K j=>have:=qcY x c;show 0<=co x c+cn K c;omega
theorem qhw:∀ {K L:List (Str×Str)},K.Sublist L->∀ c,cn K c<=cn L c:=by
 intro K L h
 induction h with
 | slnil=>intro c; exact Int.le_refl _
 | cons x h j=>intro c;have:=qcY x c;have:=j c;show _<=co x c+cn _ c;omega
 | cons_cons x h j=>intro c;have:=j c;show co x c+cn _ c<=co x c+cn _ c;omega
def NA (K:List (Str×Str)):Prop:=K.Pairwise λx y=>al x y=iJ
abbrev Cn:=List Str×List Str
abbrev sE (l:List Str):D:=.lst (l.map D.str)
noncomputable def cE (c:Cn):D:=.tup [sE c.1,sE c.2]
noncomputable def st1 (c:Cn) (y:Str):Cn:=if y∈c.1 then (c.1.erase y,c.2) else (c.1,c.2++[y])
noncomputable def un (x y:Str×Str):Cn:=st1 (st1 ([x.1,x.2],[]) y.1) y.2
abbrev unB:qR:=(sIf (qH (d2 inA (qd 4) (qd 2))) (vN (Ks 2 qe7 (qd 4))) (vN (Ks 3 YR (qd 4))))
theorem qjw (y:Str) (l:List Str):inA (.str y) (sE l)=.ok (.bl (decide (y∈l))):=by show (inD (.str y) (.lst (l.map D.str))).bind _=_;unfold inD;simp only [ky];rfl
variable {c:Cn}
theorem qbf {a b:Option D} (h2:c.2.length<=2) (y:Str):unB [a,b,iF (sE c.1),iF (sE c.2),iF (.str y)]=.ok (.nx,[a,b,iF (sE (st1 c y).1),iF (sE (st1 c y).2),iF (.str y)]):=by
 have h:=qjw y c.1;have hz:c.2.length < sizeLine:=aD (by omega) big;unfold st1;by_cases q:y∈c.1
 ·rw [if_pos q];have r:qe7 (c.1.map D.str) (.str y)=.ok ((c.1.erase y).map D.str):=by unfold qe7;simp only [yC,if_pos q]
  simp [unB,h,q,Ks,ze,sE,r]
 ·rw [if_neg q];have g:YR (c.2.map D.str) (.str y)=.ok ((c.2++[y]).map D.str):=by unfold YR;rw [ai,if_pos hz];simp
  simp [unB,h,q,Ks,ze,sE,g]
theorem Yv (c:Cn) (y:Str):(st1 c y).1.length<=c.1.length/\(st1 c y).2.length<=c.2.length+1:=by
 unfold st1;split;·exact ⟨List.length_erase_le,hZ _⟩
 ·simp
theorem qhx (x y:Str×Str):(un x y).1.length<=2/\(un x y).2.length<=2:=by have h1:=Yv ([x.1,x.2],[]) y.1;have h2:=Yv (st1 ([x.1,x.2],[]) y.1) y.2;unfold un;simp at h1;omega
variable {g:D->Sl->Out Sl}
theorem qkA {B:qR} {d1 d2:D} {d ρ2 k A:Sl} (h1:g d1 d=.ok ρ1) (h2:B ρ1=.ok (.nx,ρ2)) (h3:g d2 ρ2=.ok k) (a:B k=.ok (.nx,A)):vd g B [d1,d2] d=.ok (.nx,A):=by simp [vd,h1,h2,h3,a]
theorem Yw (x y:Str×Str):kI [pD x,pD y]=.ok (cE (un x y),[.non,.non]):=by
 refine runD_ap.trans ?_;have h1:=Yv ([x.1,x.2],[]) y.1;have e1:=qbf (a:=iF (pD x)) (b:=iF (pD y)) (c:=([x.1,x.2],[])) (by simp) y.1;have i:=qbf (a:=iF (pD x)) (b:=iF (pD y)) (c:=st1 ([x.1,x.2],[]) y.1) (by simp at h1; omega) y.2;have hz:2<=sizeLine:=qQ (by omega);have h:0<=sizeLine:=be _;have E:vd (gNm 4) unB [.str y.1,.str y.2] [iF (pD x),iF (pD y),iF (sE [x.1,x.2]),iF (sE []),iH]=.ok (.nx,[iF (pD x),iF (pD y),iF (sE (un x y).1),iF (sE (un x y).2),iF (.str y.2)]):=by have e:unB [iF (pD x),iF (pD y),iF (sE [x.1,x.2]),iF (sE []),iF (.str y.1)]=_:=e1;exact qkA rfl e rfl i
 unfold zW;rw [show qp zV [pD x,pD y]=[iF (pD x),iF (pD y),iH,iH,iH] from rfl];refine (qE (ρ1:=[iF (pD x),iF (pD y),iF (sE [x.1,x.2]),iH,iH]) (by simp [qeH,sE,hz])).trans ?_;refine (qE (ρ1:=[iF (pD x),iF (pD y),iF (sE [x.1,x.2]),iF (sE []),iH]) (by simp [sE])).trans ?_;refine (qE (ρ1:=[iF (pD x),iF (pD y),iF (sE (un x y).1),iF (sE (un x y).2),iF (.str y.2)]) (by rw [zN,show jU (qd 1) [iF (pD x),iF (pD y),iF (sE [x.1,x.2]),iF (sE []),iH]=.ok ([.str y.1,.str y.2],[iF (pD x),iF (pD y),iF (sE [x.1,x.2]),iF (sE []),iH]) from rfl,uW];exact E)).trans ?_;simp [qm,cE,hz]
noncomputable def CT (l:List (Str×Str)):List Cn:=(aK l.length).flatMap λj=>(l.take j).map λa=>un a (pa l j)
abbrev ctB:qR:=(vN (Ks 1 qbv (jh [1] 1 [3] (jU (vF (qd 0) iH (iF (qd 2)))) (gNm 0) ftT (qu [.vl,.vl] kI (qc (qd 0) (qc (qd 1) qA))))))
variable {j:Nat}
theorem qfq (hl:l.length<=10) (b:j < l.length) (f:Option D):jh [1] 1 [3] (jU (vF (qd 0) iH (iF (qd 2)))) (gNm 0) ftT (qu [.vl,.vl] kI (qc (qd 0) (qc (qd 1) qA))) [iF (.lst (qr l)),f,iF (.int j),iF (pD (pa l j))]
  = .ok (.lst (((l.take j).map λa=>un a (pa l j)).map cE),[iF (.lst (qr l)),f,iF (.int j),iF (pD (pa l j))]):=by
 have c:qcA (qr l) iH (iF (j:Int))=qr (l.take j):=by
  unfold qcA;rw [HT.sIx_none,HT.sIx_nat];have:(qr l).length=l.length:=by simp [qr]
  rw [this,show min j l.length - 0=j by omega];simp [qr]
 have hi:jU (vF (qd 0) iH (iF (qd 2))) [iF (.lst (qr l)),f,iF (.int j),iF (pD (pa l j))]=.ok (qr (l.take j),[iF (.lst (qr l)),f,iF (.int j),iF (pD (pa l j))]):=by simp [jU,vF,Ku,qhi,c,jI]
 have e:=qa7 (own:=[1]) (cap:=[3]) (fi:=jU (vF (qd 0) iH (iF (qd 2)))) (ρ:=[iF (.lst (qr l)),f,iF (.int j),iF (pD (pa l j))]) (ρ1:=[iF (.lst (qr l)),f,iF (.int j),iF (pD (pa l j))]) (ds:=qr (l.take j)) (fe:=qu [.vl,.vl] kI (qc (qd 0) (qc (qd 1) qA))) (λd=>match d with | .tup [.str x,.str y]=>cE (un (x,y) (pa l j)) | d=>d) (by simp) hi (by simp only [qr,ai,bQ]; exact qQ (by omega)) (λd hd=>by obtain ⟨x,hx,rfl⟩:=ax.mp hd;have h:=Yw x (pa l j);have h:kI [.tup [.str x.1,.str x.2],pD (pa l j)]=.ok (cE (un x (pa l j)),[.non,.non]):=h;simp [qx,qU,h]);rw [e];congr 2;unfold qr;rw [cm,cm];rfl
theorem qbg (hl:l.length<=10):∀ (s:List Nat) (f:List Cn) (x y:Option D),(∀ j∈s,j < l.length)->f.length+10 * s.length<=500 ->∃ n b,vd (xj 2 (jr (gNm 2) (jr (gNm 3) xi))) ctB (s.map λ(j:Nat)=>.tup [.int j,pD (pa l j)]) [iF (.lst (qr l)),iF (.lst (f.map cE)),x,y]
   = .ok (.nx,[iF (.lst (qr l)),iF (.lst ((f++s.flatMap λj=>(l.take j).map λa=>un a (pa l j)).map cE)),n,b])
 | [],f,x,y,_,_=>⟨x,y,by simp [vd]⟩
 | j::s,f,x,y,hj,hf=>by
  rw [au] at hf;have h:=hj j (aq ..);have ht:(l.take j).length<=10:=by rw [bQ]; omega
  obtain ⟨n,b,e⟩:=qbg hl s (f++(l.take j).map λa=>un a (pa l j)) (iF (.int j)) (iF (pD (pa l j))) (λi hi=>hj i (af _ hi)) (by rw [ao,ai]; omega);refine ⟨n,b,?_⟩;rw [fP,<-cW,<-e];have d:=qfq hl h (iF (.lst (f.map cE)));have hz:(f.map cE).length+(((l.take j).map λa=>un a (pa l j)).map cE).length<=sizeLine:=by rw [ai,ai,ai]; exact qQ (by omega)
  have hx:qbv (f.map cE) (.lst (((l.take j).map λa=>un a (pa l j)).map cE))=.ok ((f++(l.take j).map λa=>un a (pa l j)).map cE):=by unfold qbv;simp only [if_pos hz,<-cR]
  generalize ((l.take j).map λa=>un a (pa l j)).map cE=M at d hx;generalize (f++(l.take j).map λa=>un a (pa l j)).map cE=M2 at hx ⊢;generalize f.map cE=M1 at d hx ⊢;generalize D.lst (qr l)=Z at d ⊢;simp [vd,xj,jr,xi,ctB,Ks,ze,d,hx]
theorem Uc (hl:l.length<=10):wH [.lst (qr l)]=.ok (.lst ((CT l).map cE),[.non]):=by refine runD_ap.trans ?_;obtain ⟨n,s,e⟩:=qbg hl (aK l.length) [] iH iH (λj D=>bg.mp D) (by simp; omega);rw [<-XG] at e;have e:vd (xj 2 (jr (gNm 2) (jr (gNm 3) xi))) ctB (WA (qr l)) [iF (.lst (qr l)),iF (.lst []),iH,iH]=.ok (.nx,[iF (.lst (qr l)),iF (.lst ((CT l).map cE)),n,s]):=e;have a:0<=sizeLine:=be _;generalize (CT l).map cE=M at e ⊢;simp [wG,qp,qm,qay,e]
theorem qhy (l:List (Str×Str)) (hl:l.length<=10):(CT l).length<=100:=by
 unfold CT;have:∀ s:List Nat,(s.flatMap λj=>(l.take j).map λa=>un a (pa l j)).length<=10 * s.length:=λs=>by
  induction s with
  | nil=>simp
  | cons j s i=>rw [fP,ao,ai,bQ,au];omega
 have:=this (aK l.length);rw [bK] at this;omega
theorem qdG (h:c∈CT l):c.1.length<=2/\c.2.length<=2:=by obtain ⟨j,_,h⟩:=List.mem_flatMap.mp h;obtain ⟨a,_,rfl⟩:=ax.mp h;exact qhx a _
abbrev Fx:=List (Key×D)
def qbx (k:Fx):Prop:=∀ kv∈k,∃ v:Int,kv.2=.int v/\0<=v/\v<=1000
noncomputable def vl (k:Fx) (x:Str):Int:=match k.find? λkv=>decide (kv.1=ck x) with
 | some (_,.int v)=>v
 | _=>0
theorem qhz {k:Fx} (a:qbx k) (h:vi k (.inr x)=iK):ixD (.dct k) (.str x)=.ok (.int (vl k x))/\0<=vl k x/\vl k x<=1000:=by
 unfold vi at h;cases q:k.find? λkv=>decide (kv.1=ck x) with
 | none=>rw [d6] at q;obtain ⟨p,hp,h⟩:=fZ.mp h;exact absurd h (q p hp)
 | some kv=>
  obtain ⟨v,e,h1,h2⟩:=a kv (List.mem_of_find?_eq_some q);obtain ⟨k0,d⟩:=kv;have e:d=.int v:=e;subst e;have i:vl k x=v:=by unfold vl; simp only [q]
  rw [i];exact ⟨by unfold ixD; simp only [q],h1,h2⟩
theorem qjx {Cs:List α} {cap:List Nat} {fi:wV} {fe:jg} (A B:α->D) (h:fi ρ=.ok (Cs.map A,ρ)) (hl:Cs.length<=sizeLine)
  (ht:∀ c∈Cs,fe (iF (A c)::cap.map λk=>(ρ[k]?).getD iH)=.ok (B c,iF (A c)::cap.map λk=>(ρ[k]?).getD iH)):jh [] 1 cap fi (gNm 0) ftT fe ρ=.ok (.lst (Cs.map B),ρ):=by
 have key:∀ (l:List α) (x:Option D),(∀ c∈l,c∈Cs)->∃ n,vD (gNm 0) ftT fe (l.map A) (x::cap.map λk=>(ρ[k]?).getD iH)=.ok (l.map B,n::cap.map λk=>(ρ[k]?).getD iH):=by
  intro l
  induction l with
  | nil=>intro x _; exact ⟨x,rfl⟩
  | cons c l j=>intro x a;obtain ⟨n,e⟩:=j (iF (A c)) λd hd=>a d (af _ hd);have h1:=ht c (a c (aq ..));exact ⟨n,by simp [vD,Zn,h1,e]⟩
 obtain ⟨n,e⟩:=key Cs iH λ_ h=>h;unfold jh;rw [h];simp only [uW];rw [if_pos (by rw [ai]; exact hl),show vP 1 cap ρ=iH::cap.map λk=>(ρ[k]?).getD iH from rfl,e];simp only [uW];rw [gc (own:=[]) _ cap 1 ρ λ_ _=>aU]
noncomputable def md (r:Int) (k:Fx) (c:Cn):Bool:=if ((c.1++c.2).all λx=>vi k (.inr x))=iK then decide (¬((c.1.map (vl k)).sum - (c.2.map (vl k)).sum) % r=0) else iK
theorem XI {k:Fx} (a:qbx k) (j:Nat) {l:List Str} (hl:l.length<=2) (g:∀ x∈l,vi k (.inr x)=iK) (h1:ρ[j]?=iF (iF (sE l))) (h2:ρ[2]?=iF (iF (.dct k))):d1 KH (jh [] 1 [2] (jU (qd j)) (gNm 0) ftT (d2 ixD (qd 1) (qd 0))) ρ=.ok (.int (l.map (vl k)).sum,ρ):=by
 have e:=wz (cap:=[2]) (fi:=jU (qd j)) (ρ:=ρ) (ρ1:=ρ) (ds:=l.map D.str) (fe:=d2 ixD (qd 1) (qd 0)) (λd=>match d with | .str x=>.int (vl k x) | d=>d) (by simp [h1,jI]) (by rw [ai]; exact qQ (by omega)) (λd hd=>by obtain ⟨x,hx,rfl⟩:=ax.mp hd;have h:=(qhz a (g x hx)).1;simp [h2,h]);have b:(l.map D.str).map (λd=>match d with | .str x=>.int (vl k x) | d=>d)=(l.map (vl k)).map D.int:=by rw [cm,cm];rfl
 rw [b] at e;have hs:=qbe (l:=l.map (vl k)) (by rw [ai]; omega) λi hi=>by obtain ⟨x,hx,rfl⟩:=ax.mp hi;have:=(qhz a (g x hx)).2;omega
 rw [gL,e];simp only [uW];rw [hs];rfl
theorem qhA (h1:c.1.length<=2) (h2:c.2.length<=2) (f:0 < r) {k:Fx} (a:qbx k):kU [cE c,.int r,.dct k]=.ok (.bl (md r k c),[.non,.non,.non]):=by
 refine runD_ap.trans ?_;have z:(c.1.map D.str).length+(c.2.map D.str).length<=sizeLine:=by rw [ai,ai]; exact qQ (by omega)
 have hi:jU (d2 vh (qd 3) (qd 4)) [iF (cE c),iF (.int r),iF (.dct k),iF (sE c.1),iF (sE c.2)]=.ok ((c.1++c.2).map D.str,[iF (cE c),iF (.int r),iF (.dct k),iF (sE c.1),iF (sE c.2)]):=by
  have:vh (sE c.1) (sE c.2)=.ok (.lst ((c.1++c.2).map D.str)):=by unfold vh;simp only [if_pos z,cR]
  generalize sE c.1=U at this ⊢;generalize sE c.2=V at this ⊢;simp [this,jI]
 have e:=wz (cap:=[2]) (fi:=jU (d2 vh (qd 3) (qd 4))) (ρ:=[iF (cE c),iF (.int r),iF (.dct k),iF (sE c.1),iF (sE c.2)]) (ρ1:=[iF (cE c),iF (.int r),iF (.dct k),iF (sE c.1),iF (sE c.2)]) (ds:=(c.1++c.2).map D.str) (fe:=d2 inA (qd 0) (qd 1)) (λd=>match d with | .str x=>.bl (vi k (.inr x)) | d=>d) hi (by rw [ai,ao]; exact qQ (by omega)) (λd hd=>by obtain ⟨x,hx,rfl⟩:=ax.mp hd;simp [inA,Uk]);have i:((c.1++c.2).map D.str).map (λd=>match d with | .str x=>.bl (vi k (.inr x)) | d=>d)=(c.1++c.2).map λx=>D.bl (vi k (.inr x)):=by rw [cm];rfl
 rw [i] at e;have g:=uL (λx=>vi k (.inr x)) (c.1++c.2);have hA:d1 YW (jh [] 1 [2] (jU (d2 vh (qd 3) (qd 4))) (gNm 0) ftT (d2 inA (qd 0) (qd 1))) [iF (cE c),iF (.int r),iF (.dct k),iF (sE c.1),iF (sE c.2)]=.ok (.bl ((c.1++c.2).all λx=>vi k (.inr x)),[iF (cE c),iF (.int r),iF (.dct k),iF (sE c.1),iF (sE c.2)]):=by rw [gL,e];simp only [uW];rw [g];rfl
 unfold yu md;rw [show qp yt [cE c,.int r,.dct k]=[iF (cE c),iF (.int r),iF (.dct k),iH,iH] from rfl];refine (qE (ρ1:=[iF (cE c),iF (.int r),iF (.dct k),iF (sE c.1),iH]) (by simp [cE,ixD,at0])).trans ?_;refine (qE (ρ1:=[iF (cE c),iF (.int r),iF (.dct k),iF (sE c.1),iF (sE c.2)]) (by simp [cE,ixD,at1])).trans ?_;cases q:(c.1++c.2).all λx=>vi k (.inr x) with
 | false=>rw [q] at hA;simp [-gL,hA,jO,qm]
 | true=>rw [q] at hA;have h:=aL.mp q;have s1:=XI a 3 h1 (λx hx=>h x (aH.mpr (.inl hx))) (ρ:=[iF (cE c),iF (.int r),iF (.dct k),iF (sE c.1),iF (sE c.2)]) rfl rfl;have s2:=XI a 4 h2 (λx hx=>h x (aH.mpr (.inr hx))) (ρ:=[iF (cE c),iF (.int r),iF (.dct k),iF (sE c.1),iF (sE c.2)]) rfl rfl;refine (qE (ρ1:=[iF (cE c),iF (.int r),iF (.dct k),iF (sE c.1),iF (sE c.2)]) (by simp [-gL,hA,jO])).trans ?_;by_cases b:((c.1.map (vl k)).sum - (c.2.map (vl k)).sum) % r=0 <;> simp [-gL,s1,s2,Zi,qbU,Ui,f,neD,eqN,eqS,qm,b]
theorem qfr {k:Fx} (hl:k.length<=100) (x:Str) (v:Int):wk [.dct k,.str x,.int v]=.ok (.dct (wX k (.inr x) (.int v)),[.non,.non,.non]):=by refine runD_ap.trans ?_;have hz:k.length < sizeLine:=aD (by omega) big;simp [yv,qp,qm,WD,WB,Uk,hz]
theorem qbh (k:Fx) (x:Key) (d:D):(wX k x d).length<=k.length+1:=by unfold wX;split <;> simp
theorem qhB {k:Fx} (b:qbx k) (x:Key) {v:Int} (h0:0<=v) (h1:v<=1000):qbx (wX k x (.int v)):=by
 unfold wX;intro kv a;split at a
 ·obtain ⟨p,hp,rfl⟩:=ax.mp a;split;·exact ⟨v,rfl,h0,h1⟩
  ·exact b p hp
 ·rcases aH.mp a with h | h;·exact b kv h
  ·rw [aE.mp h];exact ⟨v,rfl,h0,h1⟩
abbrev cfB (gr:jJ):qR:=(sIf (uZ (qu [.vl,.vl,.vl,.vl] gr (qc (qd 0) (qc (qd 1) (qc (qu [.vl,.vl,.vl] wk (qc (qd 2) (qc (d2 ixD (qd 3) (dC (.int 0))) (qc (qd 5) qA)))) (qc (vF (qd 3) (iF (dC (.int 1))) iH) qA)))))) (jz (dC (.bl iK))) qX)
theorem qhC (x:Str) (ls:List Str):ixD (sE (x::ls)) (.int 0)=.ok (.str x)/\qhi (iF 1) iH (sE (x::ls))=.ok (sE ls):=by
 refine ⟨by simp [ixD,at0],?_⟩;have:qcA ((x::ls).map D.str) (iF 1) iH=ls.map D.str:=by unfold qcA;rw [HT.sIx_none,show (iF (1:Int))=iF ((1:Nat):Int) from rfl,HT.sIx_nat];simp;exact List.take_of_length_le (by simp)
 show Out.ok (D.lst (qcA ((x::ls).map D.str) (iF 1) iH))=_;rw [this]
variable {Cs:List Cn}
theorem qfs (hC:∀ c∈Cs,c.1.length<=2/\c.2.length<=2) (n:Cs.length<=100) (f:0 < r) {k:Fx} (g:qbx k) (a b c:Option D):d1 YW (jh [] 1 [1,2] (jU (qd 0)) (gNm 0) ftT (qu [.vl,.vl,.vl] kU (qc (qd 0) (qc (qd 1) (qc (qd 2) qA))))) [iF (.lst (Cs.map cE)),iF (.int r),iF (.dct k),a,b,c]=.ok (.bl (Cs.all (md r k)),[iF (.lst (Cs.map cE)),iF (.int r),iF (.dct k),a,b,c]):=by
 have e:=qjx (Cs:=Cs) (ρ:=[iF (.lst (Cs.map cE)),iF (.int r),iF (.dct k),a,b,c]) (cap:=[1,2]) (fi:=jU (qd 0)) (fe:=qu [.vl,.vl,.vl] kU (qc (qd 0) (qc (qd 1) (qc (qd 2) qA)))) cE (λc=>.bl (md r k c)) (by simp [jI]) (qQ (by omega)) λc d=>by have h:=qhA (hC c d).1 (hC c d).2 f g;generalize cE c=Z at h ⊢;simp [qx,qU,h]
 rw [gL,e];simp only [uW];rw [uL];rfl
theorem qcZ (n:Nat):VG 0 n=((aK n).map λ(j:Nat)=>(j:Int)).map D.int:=by rw [qj4,cm];rfl
theorem qdH (l:List (Str×Str)):(LS l).length<=2 * l.length:=by unfold LS;rw [(jj _).length_eq];have:=QA (l.map (·.1)++l.map (·.2)) [];simp only [ao,ai,aY] at this;omega
noncomputable def nu (v:Str->Int) (p:Str×Str):Int:=v p.1+v p.2
def Ds (r:Int) (v:Str->Int) (K:List (Str×Str)):Prop:=K.Pairwise λp q=>¬r ∣ nu v p - nu v q
def Ext (k:Fx) (v:Str->Int):Prop:=∀ x,vi k (.inr x)=iK->v x=vl k x
def OKs (r:Int) (k:Fx) (K:List (Str×Str)):Prop:=∃ v,Ext k v/\Ds r v K
theorem qft {a b:Int} (h:¬r ∣ a - b):¬r ∣ b - a:=λz=>h (by have:=Int.dvd_neg.mpr z;rwa [Int.neg_sub] at this)
variable {v:Str->Int}
theorem ds_mid {A C:List (Str×Str)} {x:Str×Str}:Ds r v (A++x::C)↔(∀ p∈A++C,¬r ∣ nu v x - nu v p)/\Ds r v (A++C):=by unfold Ds;rw [List.pairwise_middle λh=>qft h,bh]
theorem qdI {α:Type} [DecidableEq α]:∀ {a b:List α},a.Nodup->(∀ x∈a,x∈b)->a.length<=b.length
 | [],_,_,_=>be _
 | x::a,b,hn,h=>by obtain ⟨h1,h2⟩:=aR.mp hn;have hx:=h x (aq ..);have j:=qdI (b:=b.erase x) h2 λy B=>(List.mem_erase_of_ne λ(z:y=x)=>h1 (z ▸ B)).mpr (h y (af _ B));rw [dU hx] at j;have:=eX hx;rw [au];omega
theorem XJ (f:1<=r) (bad:List Int) (h:(bad.length:Int) < r):∃ t:Int,0<=t/\t < r/\t∉bad:=by
 refine bH λz=>?_;have c:∀ t∈(aK r.toNat).map λ(j:Nat)=>(j:Int),t∈bad:=λt ht=>by obtain ⟨j,D,rfl⟩:=ax.mp ht;have:=bg.mp D;exact bH λq=>z ⟨j,by omega,by omega,q⟩
 have R:((aK r.toNat).map λ(j:Nat)=>(j:Int)).Nodup:=List.pairwise_map.mpr (List.nodup_range.imp λ{a b} d e=>d (by omega));have:=qdI R c;rw [ai,bK] at this;omega
noncomputable def loK (k:Fx) (K:List (Str×Str)) (x:Str×Str):Bool:=(!vi k (.inr x.1)&&decide (cn K x.1=1))||(!vi k (.inr x.2)&&decide (cn K x.2=1))
theorem qdJ (A C:List (Str×Str)) (x:Str×Str) (c:Str):cn (A++x::C) c=co x c+cn (A++C) c:=by rw [qdF,qdF];show cn A c+(co x c+cn C c)=_;omega
theorem qfu {c:Str} (h:cn K c=0):∀ p∈K,p.1≠c/\p.2≠c:=λp hp=>by
 obtain ⟨A,C,rfl⟩:=List.append_of_mem hp;rw [qdJ] at h;have h1:=qhv (A++C) c;have h2:=qcY p c;have h3:co p c=0:=by omega
 unfold co at h3;refine ⟨λz=>?_,λz=>?_⟩;·rw [if_pos z] at h3;split at h3 <;> omega
 ·rw [if_pos z] at h3;split at h3 <;> omega
variable {K0:List (Str×Str)}
theorem qhD (u:1<=r) {k:Fx} {A C:List (Str×Str)} {x:Str×Str} (hs:(A++x::C).Sublist K0) (hl:loK k K0 x=iK) (E:((A++x::C).length:Int)<=r) (h:OKs r k (A++C)):OKs r k (A++x::C):=by
 obtain ⟨v,s,hd⟩:=h;have key:∀ c d:Str,(∀ w:Str->Int,nu w x=w c+w d)->(c=x.1\/c=x.2)->vi k (.inr c)=iJ->cn K0 c=1->OKs r k (A++x::C):=λc d f I G h1=>by
  have R:=qhw hs c;rw [qdJ] at R;have D:=qhv (A++C) c;have H:1<=co x c:=by
   unfold co;rcases I with rfl | rfl
   ·rw [if_pos rfl];split <;> omega
   ·rw [if_pos (rfl:x.2=x.2)];split <;> omega
  have h0:cn (A++C) c=0:=by omega
  have hz:=qfu h0;have l:d≠c:=λz=>by
   have e:=f λy=>if y=c then 1 else 0
   subst z;unfold nu at e;have:co x d=2:=by unfold co;simpa using e
   omega
  obtain ⟨t,o,n,ht⟩:=XJ u ((A++C).map λp=>(nu v p - v d) % r) (by rw [ai];rw [ao,au] at E;rw [ao];omega);refine ⟨λy=>if y=c then t else v y,λy B=>?_,ds_mid.mpr ⟨λp hp=>?_,?_⟩⟩
  ·have:y≠c:=λz=>by rw [z,G] at B; cases B
   show (if y=c then t else v y)=_;rw [if_neg this];exact s y B
  ·have e1:nu (λy=>if y=c then t else v y) x=t+v d:=by rw [f];simp [l]
   have m:nu (λy=>if y=c then t else v y) p=nu v p:=by obtain ⟨i,g⟩:=hz p hp;simp [nu,i,g]
   rw [e1,m];intro z;refine ht (ax.mpr ⟨p,hp,?_⟩);have:r ∣ (nu v p - v d) - t:=by have:=Int.dvd_neg.mpr z;rw [show -(t+v d - nu v p)=nu v p - v d - t by omega] at this;exact this
   have J:(nu v p - v d) % r=t % r:=Int.emod_eq_emod_iff_emod_sub_eq_zero.mpr (Int.emod_eq_zero_of_dvd this);exact J.trans (fO o n)
  ·refine hd.imp_of_mem λ{p q} hp hq j=>?_;obtain ⟨p1,p2⟩:=hz p hp;obtain ⟨i,g⟩:=hz q hq;have e1:nu (λy=>if y=c then t else v y) p=nu v p:=by simp [nu,p1,p2]
   have m:nu (λy=>if y=c then t else v y) q=nu v q:=by simp [nu,i,g]
   rw [e1,m];exact j
 unfold loK at hl;rw [g7,aM,aM] at hl;rcases hl with ⟨a,b⟩ | ⟨a,b⟩
 ·exact key x.1 x.2 (λw=>rfl) (.inl rfl) (by simpa using a) (of_decide_eq_true b)
 ·exact key x.2 x.1 (λw=>Int.add_comm _ _) (.inr rfl) (by simpa using a) (of_decide_eq_true b)
noncomputable def peK (k:Fx) (K:List (Str×Str)):List (Str×Str):=K.filter λx=>!loK k K x
theorem qfv (c:1<=r) {k:Fx} (a:(K0.length:Int)<=r):∀ (M A:List (Str×Str)),(A++M).Sublist K0->OKs r k (A++M.filter λx=>!loK k K0 x)->OKs r k (A++M)
 | [],A,_,h=>h
 | x::M,A,hs,h=>by
  have n:((A++x::M).length:Int)<=r:=by have:=hs.length_le;omega
  cases q:loK k K0 x with
  | false=>rw [List.filter_cons_of_pos (by simp [q])] at h;have:=qfv c a M (A++[x]) (by simpa using hs) (by simpa using h);simpa using this
  | true=>rw [List.filter_cons_of_neg (by simp [q])] at h;exact qhD c hs q n (qfv c a M A ((fQ A).append (List.sublist_cons_self x M) |>.trans hs) h)
theorem qhE (c:1<=r) {k:Fx} (n:(K.length:Int)<=r):OKs r k (peK k K)↔OKs r k K:=
 ⟨λh=>qfv c n K [] (fQ _) h,λ⟨v,a,b⟩=>⟨v,a,List.Pairwise.sublist List.filter_sublist b⟩⟩
noncomputable def sv (v:Str->Int) (l:List Str):Int:=(l.map v).sum
noncomputable def Dc (v:Str->Int) (c:Cn):Int:=sv v c.1 - sv v c.2
theorem qhF (v:Str->Int) (a b:List Str):sv v (a++b)=sv v a+sv v b:=by unfold sv;rw [cR,g8]
theorem XM (v:Str->Int):∀ {l:List Str} {y:Str},y∈l->sv v (l.erase y)=sv v l - v y
 | x::l,y,h=>by
  by_cases q:x=y;·subst q;rw [List.erase_cons_head];show _=v x+sv v l - v x;omega
  ·rw [List.erase_cons_tail (by simpa using q)];have j:=XM v ((ae.mp h).resolve_left λz=>q z.symm);show v x+sv v (l.erase y)=v x+sv v l - v y;omega
theorem qhG (v:Str->Int) (c:Cn) (y:Str):Dc v (st1 c y)=Dc v c - v y:=by
 unfold st1 Dc;split;·rename_i h;show sv v (c.1.erase y) - sv v c.2=_;rw [XM v h];omega
 ·show sv v c.1 - sv v (c.2++[y])=_;rw [qhF,show sv v [y]=v y by simp [sv]];omega
theorem qjy (v:Str->Int) (x y:Str×Str):Dc v (un x y)=nu v x - nu v y:=by unfold un;rw [qhG,qhG];simp [Dc,sv,nu];omega
theorem qhH (c:Cn) (y:Str):((st1 c y).1.length:Int) - (st1 c y).2.length=(c.1.length:Int) - c.2.length - 1:=by
 unfold st1;split;·rename_i h;show ((c.1.erase y).length:Int) - c.2.length=_;rw [dU h];have:=eX h;omega
 ·show (c.1.length:Int) - (c.2++[y]).length=_;rw [ao];simp;omega
theorem qkB (x y:Str×Str):(un x y).1.length=(un x y).2.length:=by have h1:=qhH ([x.1,x.2],[]) y.1;have h2:=qhH (st1 ([x.1,x.2],[]) y.1) y.2;unfold un;simp at h1;omega
variable {P:Str->Prop}
theorem qdK (h1:∀ z∈c.1++c.2,P z) (h2:P y):∀ z∈(st1 c y).1++(st1 c y).2,P z:=by
 unfold st1;split;·exact λz hz=>(aH.mp hz).elim (λq=>h1 z (aH.mpr (.inl (e9 q)))) λq=>h1 z (aH.mpr (.inr q))
 ·intro z hz;rcases aH.mp hz with q | q;·exact h1 z (aH.mpr (.inl q))
  ·rcases aH.mp q with q | q;·exact h1 z (aH.mpr (.inr q))
   ·rw [aE.mp q]; exact h2
theorem qjz {x y:Str×Str} (h1:P x.1) (h2:P x.2) (h3:P y.1) (a:P y.2):∀ z∈(un x y).1++(un x y).2,P z:=
 qdK (qdK (λz hz=>by
  simp at hz;rcases hz with rfl | rfl;·exact h1
  ·exact h2) h3) a
theorem ct_iff:c∈CT l↔∃ i j,∃ (hi:i < l.length) (D:j < l.length),i < j/\c=un l[i] l[j]:=by
 unfold CT;rw [List.mem_flatMap];constructor
 ·rintro ⟨j,D,h⟩;have D:=bg.mp D;obtain ⟨a,g,rfl⟩:=ax.mp h;obtain ⟨i,hi,rfl⟩:=List.mem_take_iff_getElem.mp g;refine ⟨i,j,by omega,D,by omega,?_⟩;have:pa l j=l[j]:=by unfold pa; rw [aA D]; rfl
  rw [this]
 ·rintro ⟨i,j,hi,D,b,rfl⟩;refine ⟨j,bg.mpr D,ax.mpr ⟨l[i],List.mem_take_iff_getElem.mpr ⟨i,by omega,rfl⟩,?_⟩⟩;have:pa l j=l[j]:=by unfold pa; rw [aA D]; rfl
  rw [this]
theorem ds_ct:Ds r v l↔∀ c∈CT l,¬r ∣ Dc v c:=by
 unfold Ds;rw [dO];constructor;·intro h c d;obtain ⟨i,j,hi,D,a,rfl⟩:=ct_iff.mp d;rw [qjy];exact h i j hi D a
 ·intro h i j hi D a;have:=h _ (ct_iff.mpr ⟨i,j,hi,D,a,rfl⟩);rw [qjy] at this;exact this
theorem qhI (h:c∈CT l):∀ z∈c.1++c.2,z∈LS l:=by obtain ⟨i,j,hi,D,_,rfl⟩:=ct_iff.mp h;have m1:=bT hi;have B:=bT D;exact qjz (mem_LS.mpr ⟨_,m1,.inl rfl⟩) (mem_LS.mpr ⟨_,m1,.inr rfl⟩) (mem_LS.mpr ⟨_,B,.inl rfl⟩) (mem_LS.mpr ⟨_,B,.inr rfl⟩)
theorem qkC (h:c∈CT l):c.1.length=c.2.length:=by obtain ⟨i,j,hi,D,_,rfl⟩:=ct_iff.mp h;exact qkB _ _
theorem Jk {k:Fx} (h:vi k (.inr x)=iJ) (d:D):wX k (.inr x) d=k++[(.inr x,d)]:=by unfold wX;unfold vi at h;rw [h];rfl
theorem yE {k:Fx} (h:vi k (.inr x)=iJ) (d:D) (y:Str):vi (wX k (.inr x) d) (.inr y)=(vi k (.inr y)||decide (x=y)):=by rw [Jk h];unfold vi;rw [List.any_append];simp
theorem Ud {k:Fx} (h:vi k (.inr x)=iJ) (w:Int):vl (wX k (.inr x) (.int w)) x=w/\∀ y,y≠x->vl (wX k (.inr x) (.int w)) y=vl k y:=by
 rw [Jk h];unfold vl;refine ⟨?_,λy B=>?_⟩
 ·have:(k.find? λkv=>decide (kv.1=ck x))=none:=by rw [d6];intro p hp z;unfold vi at h;rw [List.any_eq_false] at h;exact h p hp z
  rw [List.find?_append,this];simp
 ·rw [List.find?_append];have:([(ck x,D.int w)]:Fx).find? (λkv=>decide (kv.1=ck y))=none:=by rw [d6];intro p hp z;rw [aE.mp hp] at z;have:=of_decide_eq_true z;exact B (ck.inj this).symm
  rw [this,Option.or_none]
theorem qhJ {w:Str->Int} {l:List Str} (h:∀ x∈l,v x=w x):sv v l=sv w l:=by unfold sv;rw [List.map_congr_left h]
theorem qfw {w:Str->Int} (h:∀ x∈c.1++c.2,v x=w x):Dc v c=Dc w c:=by unfold Dc;rw [qhJ λx hx=>h x (aH.mpr (.inl hx)),qhJ λx hx=>h x (aH.mpr (.inr hx))]
theorem qfx {w:Str->Int} (h:∀ x,r ∣ v x - w x):∀ l:List Str,r ∣ sv v l - sv w l
 | []=>by simp [sv]
 | x::l=>by have j:=qfx h l;show r ∣ (v x+sv v l) - (w x+sv w l);rw [show (v x+sv v l) - (w x+sv w l)=(v x - w x)+(sv v l - sv w l) by omega];exact fR (h x) j
theorem qjA {w:Str->Int} (h:∀ x,r ∣ v x - w x) (d:¬r ∣ Dc v c):¬r ∣ Dc w c:=λz=>d (by
 have h1:=qfx h c.1;have h2:=qfx h c.2;have:Dc v c=(sv v c.1 - sv w c.1) - (sv v c.2 - sv w c.2)+Dc w c:=by unfold Dc; omega
 rw [this];exact fR (Int.dvd_sub h1 h2) z)
theorem md_iff {k:Fx}:md r k c=iK↔((∀ y∈c.1++c.2,vi k (.inr y)=iK)->¬r ∣ Dc (vl k) c):=by
 unfold md;cases q:(c.1++c.2).all λx=>vi k (.inr x) with
 | false=>
  have:¬∀ y∈c.1++c.2,vi k (.inr y)=true:=λz=>by rw [aL.mpr z] at q;cases q
  exact ⟨λ_ z=>absurd z this,λ_=>rfl⟩
 | true=>rw [if_pos rfl,decide_eq_true_eq];have l:=aL.mp q;exact ⟨λh _ z=>h (Int.emod_eq_zero_of_dvd z),λh z=>h l (Int.dvd_of_emod_eq_zero z)⟩
noncomputable def chs (r:Int) (k:Fx):List Int:=if k=[] then [0] else (aK r.toNat).map λ(j:Nat)=>(j:Int)
noncomputable def cf (r:Int) (Cs:List Cn):Nat->List Str->Fx->Bool
 | 0,_,_=>iJ
 | n+1,ls,k=>Cs.all (md r k)&&(match ls with
  | []=>iK
  | x::ls=>(chs r k).any λw=>cf r Cs n ls (wX k (.inr x) (.int w)))
def qfV (r:Int) (Cs:List Cn) (v:Str->Int):Prop:=∀ c∈Cs,¬r ∣ Dc v c
theorem qbi {r:Int} (i:1<=r) {Cs:List Cn}:∀ (n:Nat) (ls:List Str) (k:Fx),ls.length < n->k≠[]->ls.Nodup->(∀ y∈ls,vi k (.inr y)=iJ)->(∀ c∈Cs,∀ y∈c.1++c.2,vi k (.inr y)=iK\/y∈ls)->(cf r Cs n ls k=iK↔∃ v,Ext k v/\qfV r Cs v)
 | 0,ls,k,h,_,_,_,_=>absurd h (dX _)
 | n+1,ls,k,h,hk,hnd,hno,hin=>by
  have e:∀ v,Ext k v->qfV r Cs v->Cs.all (md r k)=true:=λv a hg=>aL.mpr λc d=>md_iff.mpr λl=>by rw [<-qfw λy B=>a y (l y B)];exact hg c d
  cases ls with
  | nil=>show (Cs.all (md r k)&&iK)=iK↔_;rw [ig];refine ⟨λh=>⟨vl k,λ_ _=>rfl,λc d=>md_iff.mp (aL.mp h c d) λy B=>(hin c d y B).resolve_right λz=>by cases z⟩,λ⟨v,a,hg⟩=>e v a hg⟩
  | cons x ls=>
   have hx:=hno x (aq ..);obtain ⟨g,b⟩:=aR.mp hnd;have j:=λw=>qbi i (Cs:=Cs) n ls (wX k (.inr x) (.int w)) (by rw [au] at h; omega) (by rw [Jk hx]; simp) b (λy B=>by
    rw [yE hx,hno y (af _ B)];simp;exact λz=>g (z ▸ B)) λc d y B=>by
    rw [yE hx];rcases hin c d y B with q | q;·exact .inl (by rw [q]; rfl)
    ·rcases ae.mp q with q | q;·exact .inl (by simp [q])
     ·exact .inr q
   show (Cs.all (md r k)&&(chs r k).any λw=>cf r Cs n ls (wX k (.inr x) (.int w)))=iK↔_;rw [aM,fZ];constructor
   ·rintro ⟨_,w,_,hw⟩;obtain ⟨v,a,hg⟩:=(j w).mp hw;refine ⟨v,λy B=>?_,hg⟩;have f:y≠x:=λz=>by rw [z,hx] at B; cases B
    rw [a y (by rw [yE hx,B]; rfl),(Ud hx w).2 y f]
   ·rintro ⟨v,a,hg⟩;refine ⟨e v a hg,v x % r,?_,(j _).mpr ⟨λy=>if y=x then v x % r else v y,λy B=>?_,λc d=>qjA (λy=>?_) (hg c d)⟩⟩;·unfold chs;rw [if_neg hk];have h1:=fz (v x) (show r≠0 by omega);have h2:=d5 (v x) (show 0 < r by omega);exact ax.mpr ⟨(v x % r).toNat,bg.mpr (by omega),by omega⟩
    ·show (if y=x then v x % r else v y)=_;by_cases q:y=x;·rw [if_pos q,q,(Ud hx _).1]
     ·rw [if_neg q,(Ud hx _).2 y q];rw [yE hx] at B;refine a y ?_;simpa [show ¬x=y from λz=>q z.symm] using B
    ·show r ∣ v y - (if y=x then v x % r else v y);by_cases q:y=x;·rw [if_pos q,q];exact Int.dvd_self_sub_of_emod_eq rfl
     ·rw [if_neg q,Int.sub_self];exact Int.dvd_zero r
theorem VB (v:Str->Int) (t:Int):∀ l:List Str,sv (λy=>v y - t) l=sv v l - t * l.length
 | []=>by simp [sv]
 | x::l=>by have j:=VB v t l;show (v x - t)+sv (λy=>v y - t) l=(v x+sv v l) - t * ((l.length+1:Nat):Int);rw [j,Int.natCast_add,Int.mul_add];simp;omega
theorem qc0 (v:Str->Int) (t:Int) (h:c.1.length=c.2.length):Dc (λy=>v y - t) c=Dc v c:=by unfold Dc;rw [VB,VB,h];omega
theorem qfy (f:1<=r) (i:∀ c∈Cs,c.1.length=c.2.length) (n:Nat) (ls:List Str) (h:ls.length < n) (R:ls.Nodup) (a:∀ c∈Cs,∀ y∈c.1++c.2,y∈ls):cf r Cs n ls []=iK↔∃ v,qfV r Cs v:=by
 obtain ⟨n,rfl⟩:∃ m,n=m+1:=⟨n - 1,by omega⟩
 have h0:∀ y:Str,vi [] (.inr y)=false:=λy=>rfl;have e:∀ v,qfV r Cs v->Cs.all (md r [])=true:=λv hg=>aL.mpr λc d=>md_iff.mpr λl=>by rw [qfw (w:=v) λy B=>absurd (l y B) (by rw [h0]; simp)];exact hg c d
 cases ls with
 | nil=>show (Cs.all (md r [])&&iK)=iK↔_;rw [ig];exact ⟨λh=>⟨vl [],λc d=>md_iff.mp (aL.mp h c d) λy B=>by cases a c d y B⟩,λ⟨v,hg⟩=>e v hg⟩
 | cons x ls=>
  obtain ⟨g,b⟩:=aR.mp R;have j:=qbi f (Cs:=Cs) n ls (wX [] (.inr x) (.int 0)) (by rw [au] at h; omega) (by rw [Jk (h0 x)]; simp) b (λy B=>by
   rw [yE (h0 x),h0];simp;exact λz=>g (z ▸ B)) λc d y B=>by
   rw [yE (h0 x),h0];rcases ae.mp (a c d y B) with q | q;·exact .inl (by simp [q])
   ·exact .inr q
  show (Cs.all (md r [])&&(chs r []).any λw=>cf r Cs n ls (wX [] (.inr x) (.int w)))=iK↔_;rw [show chs r []=[0] from if_pos rfl,aM];simp only [cI,List.any_nil,fV];rw [j];constructor;·rintro ⟨_,v,_,hg⟩;exact ⟨v,hg⟩
  ·rintro ⟨v,hg⟩;refine ⟨e v hg,λy=>v y - v x,λy B=>?_,λc d=>?_⟩
   ·rw [yE (h0 x),h0] at B;have:x=y:=by simpa using B
    subst this;rw [(Ud (h0 x) 0).1];show v x - v x=0;omega
   ·rw [qc0 v (v x) (i c d)];exact hg c d
theorem qdL (h:∀ z∈c.1,z∉c.2) (y:Str):∀ z∈(st1 c y).1,z∉(st1 c y).2:=by
 unfold st1;split;·exact λz hz=>h z (e9 hz)
 ·rename_i B;intro z hz q;rcases aH.mp q with q | q;·exact h z hz q
  ·rw [aE.mp q] at hz;exact B hz
theorem qjB (x y:Str×Str):∀ z∈(un x y).1,z∉(un x y).2:=qdL (qdL (λz _ q=>by cases q) _) _
theorem qhK {x y:Str×Str} (h:un x y=([],[])):al x y=true:=by
 have e:∀ v,nu v x=nu v y:=λv=>by have:=qjy v x y;rw [h] at this;simp [Dc,sv] at this;omega
 obtain ⟨a,b⟩:=x;obtain ⟨c,d⟩:=y;have h1:=e λz=>if z=a then 1 else 0
 simp only [nu,if_true] at h1;have f:c=a\/d=a:=by refine bH λz=>?_;have z1:¬c=a:=λq=>z (.inl q);have z2:¬d=a:=λq=>z (.inr q);rw [if_neg z1,if_neg z2] at h1;split at h1 <;> omega
 have one:∀ s t:Str,(∀ v:Str->Int,v s=v t)->s=t:=λs t q=>by
  refine bH λz=>?_;have:=q λy=>if y=s then 1 else 0
  rw [if_pos rfl,if_neg λw=>z w.symm] at this;cases this
 refine al_iff.mpr ?_;rcases f with rfl | rfl
 ·refine .inl ?_;have:=one b d λv=>by have:=e v;simp only [nu] at this;omega
  rw [this]
 ·refine .inr ?_;have:=one b c λv=>by have:=e v;simp only [nu] at this;omega
  rw [this]
noncomputable def up (v:Str->Int) (x:Str) (t:Int) (y:Str):Int:=if y=x then t else v y
theorem qfz (v:Str->Int) (x:Str) (t:Int):∀ l:List Str,sv (up v x t) l=sv (up v x 0) l+t * (l.count x:Nat)
 | []=>by simp [sv]
 | y::l=>by
  have j:=qfz v x t l;show up v x t y+sv (up v x t) l=(up v x 0 y+sv (up v x 0) l)+t * ((y::l).count x:Nat);rw [j,List.count_cons];by_cases q:y=x;·subst q;simp only [up,if_true,beq_self_eq_true,Int.natCast_add,Int.mul_add];simp;omega
  ·have g:(y == x)=false:=beq_false_of_ne q;simp only [up,if_neg q,g,ci,if_false,Nat.add_zero];omega
noncomputable def bd (e D:Int):Int:=if e=1 then (-D) % 97 else if e=-1 then D % 97 else if e=2 then (-D * 49) % 97 else (D * 49) % 97
theorem qjC {e D t:Int} (i:e=1\/e=-1\/e=2\/e=-2) (o:0<=t) (f:t < 97) (h:t≠bd e D):¬(97:Int) ∣ D+t * e:=by
 unfold bd at h;rcases i with rfl | rfl | rfl | rfl
 ·simp at h;omega
 ·simp at h;omega
 ·simp at h;omega
 ·simp at h;omega
theorem qdM (hd:∀ c∈Cs,∀ z∈c.1,z∉c.2) (h2:∀ c∈Cs,c.1.length<=2/\c.2.length<=2) (hl:Cs.length < 97):∀ (ls S:List Str) (v:Str->Int),(∀ c∈Cs,(∀ y∈c.1++c.2,y∈S)->¬(97:Int) ∣ Dc v c)->(∀ c∈Cs,∀ y∈c.1++c.2,y∈S\/y∈ls)->∃ w,qfV 97 Cs w
 | [],S,v,h,hin=>⟨v,λc d=>h c d λy B=>(hin c d y B).resolve_right λz=>by cases z⟩
 | x::ls,S,v,h,hin=>by
  obtain ⟨t,o,f,ht⟩:=XJ (r:=97) (by omega) (Cs.map λc=>bd ((c.1.count x:Int) - (c.2.count x:Int)) (Dc (up v x 0) c)) (by rw [ai]; omega);refine qdM hd h2 hl ls (x::S) (if x∈S then v else up v x t) (λc d l=>?_) λc d y B=>?_
  ·by_cases b:x∈S;·rw [if_pos b];exact h c d λy B=>(ae.mp (l y B)).elim (λz=>z ▸ b) id
   ·rw [if_neg b];by_cases a:x∈c.1++c.2
    ·have e:Dc (up v x t) c=Dc (up v x 0) c+t * ((c.1.count x:Int) - (c.2.count x:Int)):=by unfold Dc;rw [qfz v x t c.1,qfz v x t c.2,Int.mul_sub];omega
     rw [e];have g:t≠bd ((c.1.count x:Int) - (c.2.count x:Int)) (Dc (up v x 0) c):=λz=>ht (ax.mpr ⟨c,d,z.symm⟩);refine qjC ?_ o f g;have k:c.1.count x<=c.1.length:=List.count_le_length;have c2:c.2.count x<=c.2.length:=List.count_le_length;have i:=h2 c d;rcases aH.mp a with q | q
     ·have z:c.2.count x=0:=List.count_eq_zero.mpr (hd c d x q);have p:0 < c.1.count x:=List.count_pos_iff.mpr q;omega
     ·have z:c.1.count x=0:=List.count_eq_zero.mpr λz=>hd c d x z q;have p:0 < c.2.count x:=List.count_pos_iff.mpr q;omega
    ·rw [qfw (w:=v) λy B=>by have:y≠x:=λz=>a (z ▸ B);simp [up,this]];exact h c d λy B=>(ae.mp (l y B)).resolve_left λz=>a (z ▸ B)
  ·rcases hin c d y B with q | q;·exact .inl (af _ q)
   ·rcases ae.mp q with q | q;·exact .inl (by rw [q]; exact aq ..)
    ·exact .inr q
theorem qfA (hl:l.length<=6):(CT l).length < 97:=by
 unfold CT;have:∀ s:List Nat,(s.flatMap λj=>(l.take j).map λa=>un a (pa l j)).length<=6 * s.length:=λs=>by
  induction s with
  | nil=>simp
  | cons j s i=>rw [fP,ao,ai,bQ,au];omega
 have:=this (aK l.length);rw [bK] at this;omega
theorem qkD (a:NA l) (f:l.length<=6):∃ v,Ds 97 v l:=by
 obtain ⟨w,hw⟩:=qdM (Cs:=CT l) (λc d=>by
  obtain ⟨i,j,hi,D,_,rfl⟩:=ct_iff.mp d;exact qjB _ _) (λc d=>qdG d) (qfA f) (LS l) [] (λ_=>0) (λc d h=>by
  obtain ⟨i,j,hi,D,b,rfl⟩:=ct_iff.mp d;exfalso;have e:(un l[i] l[j]).1++(un l[i] l[j]).2=[]:=by
   cases q:(un l[i] l[j]).1++(un l[i] l[j]).2 with
   | nil=>rfl
   | cons z t=>cases h z (by rw [q]; exact aq ..)
  obtain ⟨e1,g⟩:=List.append_eq_nil_iff.mp e;have:=qhK (x:=l[i]) (y:=l[j]) (ip e1 g);rw [dO.mp a i j hi D b] at this;cases this) λc d y B=>.inr (qhI d y B)
 exact ⟨w,ds_ct.mpr hw⟩
theorem qc1 (m:K.length<=100) (c:Str) (a:Option D) (b:D):d1 KH (jh [] 1 [3] (jU (qd 1)) (gNm 0) ftT (dM qcz xp (qd 0) (qd 1))) [a,iF (.lst (qr K)),iF b,iF (.str c)]=.ok (.int (cn K c),[a,iF (.lst (qr K)),iF b,iF (.str c)]):=by
 have hs:KH (.lst ((K.map λx=>co x c).map D.int))=.ok (.int (cn K c)):=qbe (by rw [ai]; omega) λk h=>by obtain ⟨y,_,rfl⟩:=ax.mp h;have:=qcY y c;omega
 rw [gL,qfp m c a (iF b)];simp only [uW];rw [hs];rfl
theorem qfB (m:K.length<=100) (k:Fx) (x:Str×Str):kg [pD x,.lst (qr K),.dct k]=.ok (.bl (loK k K x),[.non,.non,.non]):=by refine runD_ap.trans ?_;have h:=λc=>qc1 m c (iF (pD x)) (.dct k);have n:∀ c:Str,JL (.str c) (.dct k)=.ok (.bl (!vi k (.inr c))):=λc=>rfl;generalize D.lst (qr K)=Z at h ⊢;generalize D.dct k=Y at h n ⊢;obtain ⟨a,b⟩:=x;unfold loK;cases d:vi k (.inr a) <;> cases e:vi k (.inr b) <;> by_cases q:cn K a=1 <;> by_cases l:cn K b=1 <;> simp [zU,qp,qm,jI,vd,n,d,e,-gL,h,eqD,eqN,eqS,q,l]
theorem XN (m:K.length<=100) (k:Fx) (a b:Option D):jh [] 1 [2,1] (jU (qd 2)) (gNm 0) (xF (uZ (qu [.vl,.vl,.vl] kg (qc (qd 0) (qc (qd 1) (qc (qd 2) qA)))))) (qd 0) [a,iF (.dct k),iF (.lst (qr K)),b]=.ok (.lst (qr (peK k K)),[a,iF (.dct k),iF (.lst (qr K)),b]):=by have e:=XC (own:=[]) (cap:=[2,1]) (fi:=jU (qd 2)) (ρ:=[a,iF (.dct k),iF (.lst (qr K)),b]) (ρ1:=[a,iF (.dct k),iF (.lst (qr K)),b]) (ds:=qr K) (ft:=xF (uZ (qu [.vl,.vl,.vl] kg (qc (qd 0) (qc (qd 1) (qc (qd 2) qA)))))) (fe:=qd 0) (λd=>match d with | .tup [.str x,.str y]=>!loK k K (x,y) | d=>iJ) (λd=>d) (by simp) (by simp [jI]) (by unfold qr; rw [ai]; exact qQ (by omega)) (λd hd=>by obtain ⟨x,hx,rfl⟩:=ax.mp hd;have h:=qfB m k x;have h:kg [.tup [.str x.1,.str x.2],.lst (qr K),.dct k]=.ok (.bl (loK k K x),[.non,.non,.non]):=h;simp [qx,qU,h,jO]) (λd hd _=>rfl);rw [e];congr 2;unfold peK;rw [iB];unfold qr;rw [hJ];rfl
theorem Ue {r:Int} (c:1<=r) (k:Fx) {a:Option D}:∀ (n:Nat) (K:List (Str×Str)),K.length < n->K.length<=100->(K.length:Int)<=r->∃ B R,(OKs r k B↔OKs r k K)/\B.Sublist K /\
  qP (qH (d2 ltD (d1 jY (qd 3)) (d1 jY (qd 2))))
   (qG (jD 2 (qd 3))
   (qG (jD 3 (jh [] 1 [2,1] (jU (qd 2)) (gNm 0) (xF (uZ (qu [.vl,.vl,.vl] kg (qc (qd 0) (qc (qd 1) (qc (qd 2) qA)))))) (qd 0))) qX)) n [a,iF (.dct k),iF (.lst (qr K)),iF (.lst (qr (peK k K)))]=.ok (.nx,[a,iF (.dct k),iF (.lst (qr B)),iF (.lst R)])
 | 0,K,h,_,_=>absurd h (dX _)
 | n+1,K,h,hK,hKr=>by
  have h1:jY (.lst (qr K))=.ok (.int K.length):=by simp [jY,qr]
  have h2:jY (.lst (qr (peK k K)))=.ok (.int (peK k K).length):=by simp [jY,qr]
  have b:(peK k K).length<=K.length:=List.length_filter_le _ _;by_cases q:(peK k K).length < K.length;·obtain ⟨B,R,n1,n2,e⟩:=Ue c k (a:=a) n (peK k K) (by omega) (by omega) (by omega);refine ⟨B,R,n1.trans (qhE c hKr),n2.trans List.filter_sublist,?_⟩;have d:=XN (K:=peK k K) (by omega) k a (iF (.lst (qr (peK k K))));rw [<-e];generalize D.lst (qr (peK k (peK k K)))=Z2 at d ⊢;generalize D.lst (qr (peK k K))=Z1 at h2 d ⊢;generalize D.lst (qr K)=Z at h1 ⊢;generalize D.dct k=Y at d ⊢;simp [qP,h1,h2,ltD,q,d]
  ·refine ⟨K,qr (peK k K),Iff.rfl,fQ _,?_⟩;generalize D.lst (qr (peK k K))=Z1 at h2 ⊢;generalize D.lst (qr K)=Z at h1 ⊢;simp [qP,h1,h2,ltD,q]
theorem qfC (c:1<=r) (k:Fx) (m:K.length<=10) (h:(K.length:Int)<=r):∃ B,(OKs r k B↔OKs r k K)/\B.Sublist K/\ut [.lst (qr K),.dct k]=.ok (.lst (qr B),[.non,.non]):=by obtain ⟨B,R,n1,n2,e⟩:=Ue c k (a:=iF (.lst (qr K))) 20 K (by omega) (by omega) h;refine ⟨B,n1,n2,?_⟩;have d:=XN (K:=K) (by omega) k (iF (.lst (qr K))) iH;refine runD_ap.trans ?_;unfold ur;rw [show qp uq [.lst (qr K),.dct k]=[iF (.lst (qr K)),iF (.dct k),iH,iH] from rfl];refine (qE (ρ1:=[iF (.lst (qr K)),iF (.dct k),iF (.lst (qr K)),iH]) (by simp)).trans ?_;refine (qE (ρ1:=[iF (.lst (qr K)),iF (.dct k),iF (.lst (qr K)),iF (.lst (qr (peK k K)))]) (by rw [UO,d]; rfl)).trans ?_;refine (qE e).trans ?_;simp [qm]
theorem XO {gr:jJ} {C S S1:D} {k:Fx} (hl:k.length<=100) {ch:Option D} (hi:ixD S (.int 0)=.ok (.str x)) (hs:qhi (iF 1) iH S=.ok S1) (P:Int->Bool):∀ (vs:List Int) (y:Option D),(∀ v∈vs,gr [C,.int r,.dct (wX k (.inr x) (.int v)),S1]=.ok (.bl (P v),[.non,.non,.non,.non])) ->(vs.any P=iK/\∃ ρ,vd (gNm 5) (cfB gr) (vs.map D.int) [iF C,iF (.int r),iF (.dct k),iF S,ch,y]=.ok (.rt (.bl iK),iF C::iF (.int r)::iF (.dct k)::iF S::ρ))\/(vs.any P=iJ/\∃ s,vd (gNm 5) (cfB gr) (vs.map D.int) [iF C,iF (.int r),iF (.dct k),iF S,ch,y]=.ok (.nx,[iF C,iF (.int r),iF (.dct k),iF S,ch,s]))
 | [],y,_=>.inr ⟨rfl,y,rfl⟩
 | v::vs,y,h=>by
  have d:=h v (aq ..);have hw:=qfr hl x v;cases q:P v with
  | true=>rw [q] at d;refine .inl ⟨by simp [q],[ch,iF (.int v)],?_⟩;simp [vd,cfB,qx,qU,hw,hi,vF,Ku,hs,d,jO]
  | false=>
   rw [q] at d;have s1:vd (gNm 5) (cfB gr) ((v::vs).map D.int) [iF C,iF (.int r),iF (.dct k),iF S,ch,y]=vd (gNm 5) (cfB gr) (vs.map D.int) [iF C,iF (.int r),iF (.dct k),iF S,ch,iF (.int v)]:=by simp [vd,cfB,qx,qU,hw,hi,vF,Ku,hs,d,jO]
   rw [s1,cI,q,Bool.false_or];exact XO hl hi hs P vs _ λu f=>h u (af _ f)
theorem qfD (r:Int) (Cs:List Cn) (n:Nat) (x:Str) (ls:List Str) (k:Fx):cf r Cs (n+1) (x::ls) k=(Cs.all (md r k)&&(chs r k).any λw=>cf r Cs n ls (wX k (.inr x) (.int w))):=rfl
theorem Kc (hC:∀ c∈Cs,c.1.length<=2/\c.2.length<=2) (z:Cs.length<=100) (y:0 < r) (m:r<=99):∀ (n:Nat) (ls:List Str) (k:Fx),ls.length < n->qbx k->k.length+ls.length<=100 ->qV n [.lst (Cs.map cE),.int r,.dct k,sE ls]=.ok (.bl (cf r Cs n ls k),[.non,.non,.non,.non])
 | 0,ls,k,h,_,_=>absurd h (dX _)
 | n+1,ls,k,h,hk,hl=>by
  have hA:=λa b c=>qfs hC z y hk a b c;show kj jL [.val,.val,.val,.val] (jt (qV n)) [.lst (Cs.map cE),.int r,.dct k,sE ls]=_;have t:qp jL [.lst (Cs.map cE),.int r,.dct k,sE ls]=[iF (.lst (Cs.map cE)),iF (.int r),iF (.dct k),iF (sE ls),iH,iH]:=rfl;cases q:Cs.all (md r k) with
  | false=>
   refine runD_ap.trans ?_;have u:cf r Cs (n+1) ls k=false:=by cases ls <;> (unfold cf; rw [q]; rfl)
   rw [q] at hA;rw [t,u];simp [jt,-gL,hA,jO,qm]
  | true=>
   rw [q] at hA;have hA:=hA (iF (sE ls)) iH iH;cases ls with
   | nil=>refine runD_ap.trans ?_;rw [show cf r Cs (n+1) [] k=iK by unfold cf; rw [q]; rfl];rw [t];unfold jt;refine (qE (ρ1:=[iF (.lst (Cs.map cE)),iF (.int r),iF (.dct k),iF (sE []),iH,iH]) (by simp [-gL,hA,jO])).trans ?_;simp [jY,eqD,eqN,eqS,qm]
   | cons x ls=>
    rw [au] at h hl;rw [qfD,q,Bool.true_and];obtain ⟨hi,hs⟩:=qhC x ls;have d:∀ v∈chs r k,0<=v/\v < r:=λv d=>by
     unfold chs at d;split at d;·rw [aE.mp d]; omega
     ·obtain ⟨j,A,rfl⟩:=ax.mp d;have:=bg.mp A;omega
    have s:dIf (qH (d2 eqD (d1 jY (qd 2)) (dC (.int 0)))) (VF (qc (dC (.int 0)) qA)) (d1 yM (qd 1)) [iF (.lst (Cs.map cE)),iF (.int r),iF (.dct k),iF (sE (x::ls)),iH,iH]=.ok (.lst ((chs r k).map D.int),[iF (.lst (Cs.map cE)),iF (.int r),iF (.dct k),iF (sE (x::ls)),iH,iH]):=by
     unfold chs;by_cases l:k=[];·have z1:1<=sizeLine:=qQ (by omega);simp [jY,eqD,eqN,eqS,l,z1]
     ·rw [if_neg l];have g:yM (.int r)=.ok (.lst (((aK r.toNat).map λ(j:Nat)=>(j:Int)).map D.int)):=by
       unfold yM;have B:qha 0 r/\r<=1000000:=⟨⟨by decide,by omega⟩,by omega⟩
       simp only [Int.sub_zero,if_pos B];rw [qcZ]
      generalize ((aK r.toNat).map λ(j:Nat)=>(j:Int)).map D.int=M at g ⊢;simp [jY,eqD,eqN,eqS,l,g]
    have p:=XO (gr:=qV n) (C:=.lst (Cs.map cE)) (r:=r) (k:=k) (ch:=iF (.lst ((chs r k).map D.int))) (by omega) hi hs (λw=>cf r Cs n ls (wX k (.inr x) (.int w))) (chs r k) iH λv f=>
     Kc hC z y m n ls (wX k (.inr x) (.int v)) (by omega) (qhB hk _ (d v f).1 (by have:=(d v f).2; omega)) (by have:=qbh k (.inr x) (.int v); omega)
    have i:jY (sE (x::ls))=.ok (.int ((ls.length:Int)+1)):=by simp [jY]
    have o:¬((ls.length:Int)+1=0):=by omega
    generalize G:sE (x::ls)=S at *;generalize D.lst (Cs.map cE)=C at *;have fin:ZE [.val,.val,.val,.val] ((qG (Uj (jU (qd 4)) (gNm 5) (cfB (qV n))) (jz (dC (.bl iJ)))) [iF C,iF (.int r),iF (.dct k),iF S,iF (.lst ((chs r k).map D.int)),iH])=.ok (.bl ((chs r k).any λw=>cf r Cs n ls (wX k (.inr x) (.int w))),[.non,.non,.non,.non]):=by
     have hit:jU (qd 4) [iF C,iF (.int r),iF (.dct k),iF S,iF (.lst ((chs r k).map D.int)),iH]=.ok ((chs r k).map D.int,[iF C,iF (.int r),iF (.dct k),iF S,iF (.lst ((chs r k).map D.int)),iH]):=by simp [jI]
     generalize (chs r k).map D.int=M at hit p ⊢;rcases p with ⟨e0,ρ,e⟩ | ⟨e0,E,e⟩
     ·rw [e0,UN,zN,hit,uW,e]; rfl
     ·rw [e0,UN,zN,hit,uW,e]; rfl
    refine runD_ap.trans ?_;rw [t];unfold jt;refine (qE (ρ1:=[iF C,iF (.int r),iF (.dct k),iF S,iH,iH]) (by simp [-gL,hA,jO])).trans ?_;refine (qE (ρ1:=[iF C,iF (.int r),iF (.dct k),iF S,iH,iH]) (by simp [i,eqD,eqN,eqS,o])).trans ?_;refine (qE (ρ1:=[iF C,iF (.int r),iF (.dct k),iF S,iF (.lst ((chs r k).map D.int)),iH]) (by rw [UO,s]; rfl)).trans ?_;exact fin
theorem xh (H:l.length<=6) (o:1<=r) (p:r<=99) {k:Fx} (w:qbx k) (u:k.length<=50):∃ b,qW [.lst (qr l),.int r,.dct k]=.ok (.bl b,[.non,.non,.non])/\(b=iK↔(l.length:Int)<=r/\OKs r k l):=by
 have n:jY (.lst (qr l))=.ok (.int l.length):=by simp [jY,qr]
 by_cases j:r < (l.length:Int);·refine ⟨iJ,?_,⟨(λz=>by cases z),λz=>absurd z.1 (by omega)⟩⟩;refine runD_ap.trans ?_;generalize D.lst (qr l)=Z at n ⊢;simp [kW,qp,qm,n,ltD,j]
 ·have g:(l.length:Int)<=r:=by omega
  obtain ⟨B,n1,n2,G⟩:=qfC o k (K:=l) (by omega) g;have I:B.length<=6:=bA n2.length_le H;have L:=uM (l:=B) (by omega);have f:=Uc (l:=B) (by omega);have t:=qdH B;have A:((LS B).filter λx=>!vi k (.inr x)).length<=12:=by have:=List.length_filter_le (λx=>!vi k (.inr x)) (LS B);omega
  have E:=Kc (Cs:=CT B) (λc f=>qdG f) (qhy B (by omega)) (r:=r) (by omega) p 14 ((LS B).filter λx=>!vi k (.inr x)) k (by omega) w (by omega);refine ⟨cf r (CT B) 14 ((LS B).filter λx=>!vi k (.inr x)) k,?_,?_⟩
  ·refine runD_ap.trans ?_;have e:=XC (own:=[]) (cap:=[2]) (fi:=jU (qu [.vl] jc (qc (qd 3) qA))) (ρ:=[iF (.lst (qr l)),iF (.int r),iF (.dct k),iF (.lst (qr B)),iH]) (ρ1:=[iF (.lst (qr l)),iF (.int r),iF (.dct k),iF (.lst (qr B)),iH]) (ds:=(LS B).map D.str) (ft:=qH (d2 JL (qd 0) (qd 1))) (fe:=qd 0) (λd=>match d with | .str x=>!vi k (.inr x) | _=>iJ) (λd=>d) (by simp) (by
     generalize D.lst (qr B)=Z at L ⊢;simp [qx,qU,L,jI]) (by rw [ai]; exact qQ (by omega)) (λd hd=>by
     obtain ⟨x,hx,rfl⟩:=ax.mp hd;simp [JL,Uk]) (λd hd _=>rfl)
   rw [iB,hJ] at e;have e:jh [] 1 [2] (jU (qu [.vl] jc (qc (qd 3) qA))) (gNm 0) (qH (d2 JL (qd 0) (qd 1))) (qd 0) [iF (.lst (qr l)),iF (.int r),iF (.dct k),iF (.lst (qr B)),iH]=.ok (sE ((LS B).filter λx=>!vi k (.inr x)),[iF (.lst (qr l)),iF (.int r),iF (.dct k),iF (.lst (qr B)),iH]):=e;unfold kW;rw [show qp yx [.lst (qr l),.int r,.dct k]=[iF (.lst (qr l)),iF (.int r),iF (.dct k),iH,iH] from rfl];generalize D.lst (qr l)=Z at *;generalize D.lst (qr B)=ZB at *;generalize D.dct k=Y at *;refine (qE (ρ1:=[iF Z,iF (.int r),iF Y,iH,iH]) (by simp [n,ltD,j])).trans ?_;refine (qE (ρ1:=[iF Z,iF (.int r),iF Y,iF ZB,iH]) (by simp [qx,qU,G])).trans ?_;refine (qE (ρ1:=[iF Z,iF (.int r),iF Y,iF ZB,iF (sE ((LS B).filter λx=>!vi k (.inr x)))]) (by rw [UO,e]; rfl)).trans ?_;generalize sE ((LS B).filter λx=>!vi k (.inr x))=S at *;generalize D.lst ((CT B).map cE)=C at *;simp [qx,qU,f,E,qm]
  ·have R:((LS B).filter λx=>!vi k (.inr x)).Nodup:=((jj _).nodup_iff.mpr (zE _ [] dJ).1).filter _;have hok:(∃ v,Ext k v/\qfV r (CT B) v)↔OKs r k B:=⟨λ⟨v,a,b⟩=>⟨v,a,ds_ct.mpr b⟩,λ⟨v,a,b⟩=>⟨v,a,ds_ct.mp b⟩⟩
   rw [<-n1,<-hok];have m:∀ c∈CT B,∀ y∈c.1++c.2,vi k (.inr y)=iK\/y∈(LS B).filter λx=>!vi k (.inr x):=λc f y i=>by
    cases q:vi k (.inr y) with
    | true=>exact .inl rfl
    | false=>exact .inr (cK.mpr ⟨qhI f y i,by rw [q]; rfl⟩)
   by_cases s:k=[];·subst s;rw [qfy o (λc f=>qkC f) 14 _ (by omega) R λc f y i=>(m c f y i).resolve_left λz=>by cases z];exact ⟨λ⟨v,h⟩=>⟨g,v,(λx hx=>by cases hx),h⟩,λ⟨_,v,_,h⟩=>⟨v,h⟩⟩
   ·rw [qbi o 14 _ k (by omega) s R (λy i=>by simpa using (cK.mp i).2) m];exact ⟨λh=>⟨g,h⟩,λh=>h.2⟩
abbrev rfT:xU:=(xF (uZ (qu [.vl,.vl,.vl] qW (qc (qd 0) (qc (qd 2) (qc (dC (.dct [])) qA))))))
abbrev rfB:qR:=(jD 2 (d2 vh (qd 2) (dC (.int 1))))
variable {Z:D}
theorem VC {P:Int->Prop} (hd:∀ r,1<=r->r<=99->∃ b,qW [Z,.int r,.dct []]=.ok (.bl b,[.non,.non,.non])/\(b=iK↔P r)) {m:Int} (c:P m) (h:m<=97) {a:Option D}:∀ (n:Nat) (f:Int),1<=f->f<=m->m < f+n ->∃ R,f<=R/\P R/\(∀ r,f<=r->r < R->¬P r)/\qP rfT rfB n [iF Z,a,iF (.int f)]=.ok (.nx,[iF Z,a,iF (.int R)])
 | 0,f,h1,h2,h3=>by omega
 | n+1,f,h1,h2,h3=>by
  obtain ⟨b,e,g⟩:=hd f h1 (by omega);cases b with
  | true=>exact ⟨f,by omega,g.mp rfl,λr r1 r2=>by omega,by simp [qP,qx,qU,e,jO]⟩
  | false=>
   have d:¬P f:=λz=>by have:=g.mpr z; cases this
   have j:f≠m:=λz=>d (by rw [z]; exact c);obtain ⟨R,r1,r2,r3,r4⟩:=VC hd c h n (f+1) (by omega) (by omega) (by omega);refine ⟨R,by omega,r2,λr k i=>?_,?_⟩
   ·by_cases q:r=f;·rw [q]; exact d
    ·exact r3 r (by omega) i
   ·have s1:qP rfT rfB (n+1) [iF Z,a,iF (.int f)]=qP rfT rfB n [iF Z,a,iF (.int (f+1))]:=by simp [qP,qx,qU,e,jO,vh]
    rw [s1];exact r4
theorem qhL (h:clo l=iH):NA l:=by
 unfold NA;rw [dO];intro i j hi D a;have h1:=List.findSome?_eq_none_iff.mp h j (bg.mpr D);unfold clF at h1;rw [Option.map_eq_none_iff,d6] at h1;have h2:=h1 i (bg.mpr a);have e1:pa l i=l[i]:=by simp [pa,hi]
 have e:pa l j=l[j]:=by simp [pa,D]
 rw [<-e1,<-e];simpa using h2
theorem qhM {k:Fx} (hl:k.length<=100) (x:Str) (v:Int):vw [.dct k,.str x,.int v]=.ok (.dct (wX k (.inr x) (.int v)),[.dct k,.non,.non]):=by have hz:k.length < sizeLine:=aD (show k.length < 2000 by omega) big;refine runD_ap.trans ?_;simp [uy,qp,qm,WD,WB,Uk,hz]
theorem qfE (b:1<=r) {k:Fx} (hx:vi k (.inr x)=iJ) (h:OKs r k l):∃ w,0<=w/\w < r/\OKs r (wX k (.inr x) (.int w)) l:=by
 obtain ⟨v,a,hd⟩:=h;refine ⟨v x % r,fz _ (by omega),d5 _ (by omega),up v x (v x % r),λy B=>?_,?_⟩
 ·rw [yE hx] at B;obtain ⟨h1,h2⟩:=Ud hx (v x % r);unfold up;by_cases q:y=x;·rw [if_pos q,q,h1]
  ·rw [if_neg q,h2 y q];refine a y ?_;have:decide (x=y)=false:=decide_eq_false λz=>q z.symm;rw [this,fV] at B;exact B
 ·have c:∀ y,r ∣ v y - up v x (v x % r) y:=λy=>by
   unfold up;split;·rename_i q;rw [q];exact Int.dvd_self_sub_emod
   ·rw [Int.sub_self];exact Int.dvd_zero _
  unfold Ds at hd ⊢;refine hd.imp λ{p q} j z=>j ?_;have e:nu v p - nu v q=(nu (up v x (v x % r)) p - nu (up v x (v x % r)) q)+((v p.1 - up v x (v x % r) p.1)+(v p.2 - up v x (v x % r) p.2)) - ((v q.1 - up v x (v x % r) q.1)+(v q.2 - up v x (v x % r) q.2)):=by unfold nu;omega
  rw [e];exact Int.dvd_sub (fR z (fR (c _) (c _))) (fR (c _) (c _))
abbrev lwT:xU:=(qer (qH (d2 ltD (qd 4) (qd 1))) (xF (uZ (qu [.vl,.vl,.vl] qW (qc (qd 0) (qc (qd 1) (qc (qu [.sl 2,.vl,.vl] vw (jS (qc (qd 3) (qc (qd 4) qA)))) qA)))))))
abbrev lwB:qR:=(jD 4 (d2 vh (qd 4) (dC (.int 1))))
theorem XQ {k:Fx} (hl:k.length<=100) {P:Int->Prop} (hd:∀ w,0<=w->w < r->∃ b,qW [Z,.int r,.dct (wX k (.inr x) (.int w))]=.ok (.bl b,[.non,.non,.non])/\(b=iK↔P w)) {m:Int} (c:P m) (hmr:m < r):∀ (n:Nat) (f:Int),0<=f->f<=m->m < f+n ->∃ R,f<=R/\R < r/\P R/\(∀ w,f<=w->w < R->¬P w)/\qP lwT lwB n [iF Z,iF (.int r),iF (.dct k),iF (.str x),iF (.int f)]=.ok (.nx,[iF Z,iF (.int r),iF (.dct k),iF (.str x),iF (.int R)])
 | 0,f,h1,h2,h3=>by omega
 | n+1,f,h1,h2,h3=>by
  obtain ⟨b,e,d⟩:=hd f h1 (by omega);have hw:=qhM hl x f;have h:f < r:=by omega
  cases b with
  | true=>refine ⟨f,by omega,h,d.mp rfl,λw r1 r2=>by omega,?_⟩;generalize D.dct (wX k (.inr x) (.int f))=Y at *;simp [qP,qx,qU,hw,e,jO,ltD,h]
  | false=>
   have a:¬P f:=λz=>by have:=d.mpr z; cases this
   have i:f≠m:=λz=>a (by rw [z]; exact c);obtain ⟨R,r1,r0,r2,r3,r4⟩:=XQ hl hd c hmr n (f+1) (by omega) (by omega) (by omega);refine ⟨R,by omega,r0,r2,λw j g=>?_,?_⟩
   ·by_cases q:w=f;·rw [q]; exact a
    ·exact r3 w (by omega) g
   ·have s1:qP lwT lwB (n+1) [iF Z,iF (.int r),iF (.dct k),iF (.str x),iF (.int f)]=qP lwT lwB n [iF Z,iF (.int r),iF (.dct k),iF (.str x),iF (.int (f+1))]:=by generalize D.dct (wX k (.inr x) (.int f))=Y at *;simp [qP,qx,qU,hw,e,jO,ltD,h,vh]
    rw [s1];exact r4
theorem sq {f g:qR} (h:f ρ=.ok (.nx,ρ1)):qG f g ρ=g ρ1:=by unfold qG;rw [h];rfl
theorem fnx {fb:qR} {ρ2:Sl} (h1:g d ρ=.ok ρ1) (h2:fb ρ1=.ok (.nx,ρ2)):vd g fb (d::ds) ρ=vd g fb ds ρ2:=by simp [vd,h1,h2]
inductive Lex (r:Int) (l:List (Str×Str)):List (Str×Int)->List (Str×Int)->Prop
 | nil (m:List (Str×Int)):Lex r l m []
 | cons {m:List (Str×Int)} {x:Str} {w:Int} {rest:List (Str×Int)} (h0:0<=w) (h1:w < r) (h2:OKs r (bk (m++[(x,w)])) l) (h3:∀ w',0<=w'->w' < w->¬OKs r (bk (m++[(x,w')])) l) (t:Lex r l (m++[(x,w)]) rest):Lex r l m ((x,w)::rest)
variable {m:List (Str×Int)}
theorem XR (h:x∉jx m) (w:Int):wX (bk m) (.inr x) (.int w)=bk (m++[(x,w)]):=by rw [Jk (by rw [XF]; exact decide_eq_false h)];simp [bk]
theorem qjD (p:r<=99) (h:∀ e∈m,0<=e.2/\e.2 < r):qbx (bk m):=λkv a=>by obtain ⟨e,i,rfl⟩:=ax.mp a;have:=h e i;exact ⟨e.2,rfl,this.1,by omega⟩
theorem qc2 (m:List (Str×Int)) (x:Str) (w:Int):jx (m++[(x,w)])=jx m++[x]:=by simp [jx]
abbrev lwL:qR:=(qG (jD 4 (dC (.int 0)))
  (qG (qP lwT lwB 102)
  (qG (sIf (qH (d2 eqD (qd 4) (qd 1))) (jz (dC .non)) qX)
  (WB 2 (qd 4) (qd 3)))))
theorem qbj (u:l.length<=6) (f:1<=r) (p:r<=99) (j:(l.length:Int)<=r):∀ (xs:List Str) (m:List (Str×Int)) (y z:Option D),xs.Nodup->(∀ x∈xs,x∉jx m)->m.length+xs.length<=40->(∀ e∈m,0<=e.2/\e.2 < r)->OKs r (bk m) l ->∃ ws s b,jx ws=xs/\(∀ e∈ws,0<=e.2/\e.2 < r)/\Lex r l m ws/\OKs r (bk (m++ws)) l/\vd (gNm 3) lwL (xs.map D.str) [iF (.lst (qr l)),iF (.int r),iF (.dct (bk m)),y,z]=.ok (.nx,[iF (.lst (qr l)),iF (.int r),iF (.dct (bk (m++ws))),s,b])
 | [],m,y,z,_,_,_,_,hok=>⟨[],y,z,rfl,by simp,.nil m,by simpa using hok,by simp [vd]⟩
 | x::xs,m,y,z,h,hnm,hlen,hm,hok=>by
  rw [au] at hlen;have hx:x∉jx m:=hnm x (aq ..);have h:=aR.mp h;have B:(bk m).length<=40:=by simp [bk]; omega
  have n:∀ w,0<=w->w < r->∀ e∈m++[(x,w)],0<=e.2/\e.2 < r:=λw o v e i=>by
   rcases aH.mp i with i | i;·exact hm e i
   ·rw [aE.mp i];exact ⟨o,v⟩
  obtain ⟨o,L,K,J⟩:=qfE f (x:=x) (by rw [XF]; exact decide_eq_false hx) hok;obtain ⟨R,r0,r1,r2,r3,r4⟩:=XQ (Z:=.lst (qr l)) (r:=r) (k:=bk m) (by omega) (x:=x) (P:=λw=>(l.length:Int)<=r/\OKs r (wX (bk m) (.inr x) (.int w)) l) (λw d c=>by have t:=qjD p (n w d c);rw [<-XR hx] at t;exact xh u f p t (bA (qbh _ _ _) (by omega))) ⟨j,J⟩ K 102 0 (by omega) L (by omega);have a:OKs r (bk (m++[(x,R)])) l:=by rw [<-XR hx]; exact r2.2
  obtain ⟨ws,s,b,I,H,G,E,C⟩:=qbj u f p j xs (m++[(x,R)]) (iF (.str x)) (iF (.int R)) h.2 (λe i=>by
   rw [qc2];intro q;rcases aH.mp q with q | q;·exact hnm e (af _ i) q
   ·rw [aE.mp q] at i;exact h.1 i) (by rw [ao,eY]; omega) (n R r0 r1) a
  refine ⟨(x,R)::ws,s,b,?_,λe i=>?_,.cons r0 r1 a (λw' d c A=>r3 w' d c ⟨j,by rw [XR hx]; exact A⟩) G,by simpa using E,?_⟩;·show x::jx ws=_;rw [I]
  ·rcases ae.mp i with rfl | i;·exact ⟨r0,r1⟩
   ·exact H e i
  ·have hz:(bk m).length < sizeLine:=aD (show (bk m).length < 2000 by omega) big;have g:¬R=r:=by omega
   have st:lwL [iF (.lst (qr l)),iF (.int r),iF (.dct (bk m)),iF (.str x),z]=.ok (.nx,[iF (.lst (qr l)),iF (.int r),iF (.dct (bk (m++[(x,R)]))),iF (.str x),iF (.int R)]):=by generalize D.lst (qr l)=Z at *;refine (sq (ρ1:=[iF Z,iF (.int r),iF (.dct (bk m)),iF (.str x),iF (.int 0)]) rfl).trans ?_;refine (sq r4).trans ?_;refine (sq (ρ1:=[iF Z,iF (.int r),iF (.dct (bk m)),iF (.str x),iF (.int R)]) (by simp [eqD,eqN,eqS,g])).trans ?_;rw [<-XR hx];simp [WB,Uk,hz]
   rw [aJ];refine (fnx (ρ1:=[iF (.lst (qr l)),iF (.int r),iF (.dct (bk m)),iF (.str x),z]) rfl st).trans ?_;rw [C,cW];rfl
theorem qdN:∀ {L:List Str},L.Pairwise (λx y=>leS x y/\x≠y)->qe9 L=iK
 | [],_=>rfl
 | [_],_=>rfl
 | x::y::r,h=>by obtain ⟨h1,h2⟩:=bh.mp h;obtain ⟨a,b⟩:=h1 y (aq ..);unfold qe9;rw [qdN h2,decide_eq_true (bf b),decide_eq_false (show ¬y.cps.toList < x.cps.toList from a)];rfl
theorem qhN (l:List (Str×Str)):(LS l).Pairwise (λx y=>leS x y/\x≠y):=(kT _).and (qht l)
theorem XS:∀ m:List (Str×Int),UQ (bk m)=iF (jx m)
 | []=>rfl
 | e::m=>by have:=XS m;simp [bk,jx,UQ] at this ⊢;exact this
theorem qc3 (m:List (Str×Int)):Xq (bk m)=prL m:=by unfold Xq bk prL;rw [cm];rfl
def qiq (l:List (Str×Str)) (r:Int) (ws:List (Str×Int)):Prop:=jx ws=LS l/\(∀ e∈ws,0<=e.2/\e.2 < r)/\Lex r l [] ws/\OKs r (bk ws) l
theorem yF (f:l.length<=6) (z:∀ x∈LS l,∃ c,az c/\x=⟨#[c]⟩) (e:1<=r) (p:r<=99) (j:(l.length:Int)<=r) (hok:OKs r [] l):∃ ws,qiq l r ws/\jW [.lst (qr l),.int r]=.ok (.tup (prL ws),[.non,.non]):=by
 have a:=uM (l:=l) (by omega);have t:=qdH l;obtain ⟨ws,s,d,A,i,g,w,b⟩:=qbj f e p j (LS l) [] iH iH (qht l) (λx _=>by simp [jx]) (by simp; omega) (by simp) hok;rw [g9] at w b;refine ⟨ws,⟨A,i,g,w⟩,?_⟩;have hs:vz (.dct (bk ws))=.ok (.lst (prL ws)):=by
  have h:((LS l).all λy=>decide (y.length<=sizeLine))=true:=by rw [aL];intro x hx;obtain ⟨c,_,rfl⟩:=z x hx;exact decide_eq_true (show (1:Nat)<=sizeLine from qQ (by omega))
  have k:=XS ws;rw [A] at k;simp only [vz,k];rw [if_pos ⟨by omega,qdN (qhN l),h⟩,qc3]
 refine runD_ap.trans ?_;unfold wJ;rw [show qp wI [.lst (qr l),.int r]=[iF (.lst (qr l)),iF (.int r),iH,iH,iH] from rfl];refine (qE (ρ1:=[iF (.lst (qr l)),iF (.int r),iF (.dct (bk [])),iH,iH]) rfl).trans ?_;have hi:jU (qu [.vl] jc (qc (qd 0) qA)) [iF (.lst (qr l)),iF (.int r),iF (.dct (bk [])),iH,iH]=.ok ((LS l).map D.str,[iF (.lst (qr l)),iF (.int r),iF (.dct (bk [])),iH,iH]):=by generalize D.lst (qr l)=Z at a ⊢;simp [qx,qU,a,jI]
 refine (qE (ρ1:=[iF (.lst (qr l)),iF (.int r),iF (.dct (bk ws)),s,d]) (by rw [zN,hi,uW];exact b)).trans ?_;generalize D.lst (qr l)=Z;generalize D.dct (bk ws)=B at hs ⊢;simp [hs,Wo,qm]
theorem qhO (hw:jT ws) (hl:Ug p q) (g:1<=r) (h:r<=99):(∃ es,qiq (qJ ws p q) r es/\qK [Wd ws,Ld p q,.int r]=.ok (.tup (prL es),[.non,.non,.non])/\(ws.length:Int)<=r)
  \/ (¬((ws.length:Int)<=r/\OKs r [] (qJ ws p q))/\qK [Wd ws,Ld p q,.int r]=.ok (.non,[.non,.non,.non])):=by
 have j:=hw.2.1;have hs:=Qd ws p q;have hp:=zG hw hl;have c:=uN (d:=.int r) trivial;rw [if_pos (by simp [WX]; omega)] at c;obtain ⟨b,e,f⟩:=xh (l:=qJ ws p q) (by omega) g h (k:=[]) (λkv a=>by cases a) (by simp);rw [hs] at f;cases b with
 | true=>obtain ⟨h1,h2⟩:=f.mp rfl;obtain ⟨es,B,i⟩:=yF (l:=qJ ws p q) (by omega) (qfl hw p q) g h (by omega) h2;refine .inl ⟨es,B,?_,h1⟩;generalize D.lst (qr (qJ ws p q))=Z at *;refine runD_ap.trans ?_;simp [kX,qp,qm,qx,qU,hp,c,e,jO,i]
 | false=>refine .inr ⟨λz=>(by have:=f.mpr z; cases this),?_⟩;generalize D.lst (qr (qJ ws p q))=Z at *;refine runD_ap.trans ?_;simp [kX,qp,qm,qx,qU,hp,c,e,jO]
theorem qjE (h:x∈jx m):vl (bk m) x=Jp m x:=by unfold vl;rw [(Vz h).2]
theorem qjF {w:Str->Int} (h:∀ x∈LS l,v x=w x) (hd:Ds r v l):Ds r w l:=by
 unfold Ds at hd ⊢;refine List.Pairwise.imp_of_mem (λ{p q} hp hq j=>?_) hd;have e:∀ p∈l,nu v p=nu w p:=λp hp=>by unfold nu;rw [h p.1 (mem_LS.mpr ⟨p,hp,.inl rfl⟩),h p.2 (mem_LS.mpr ⟨p,hp,.inr rfl⟩)]
 rw [<-e p hp,<-e q hq];exact j
theorem qfF {ws:List (Str×Int)} (h:qiq l r ws):Ds r (Jp ws) l:=by obtain ⟨h1,h2,h3,v,c,hd⟩:=h;refine qjF (λx hx=>?_) hd;rw [<-h1] at hx;rw [c x (by rw [XF]; exact decide_eq_true hx),qjE hx]
theorem nums_nd:(l.map λx=>(v x.1+v x.2) % r).Nodup↔Ds r v l:=by
 unfold Ds List.Nodup;rw [List.pairwise_map];have e:∀ p q:Str×Str,(v p.1+v p.2) % r≠(v q.1+v q.2) % r↔¬r ∣ nu v p - nu v q:=λp q=>by unfold nu;rw [Ne,Int.emod_eq_emod_iff_emod_sub_eq_zero,Int.dvd_iff_emod_eq_zero]
 simp only [e]
theorem Yx (h:qbw ca):wy ca [.xcp (ca "Never")]=.ok (.tup [.str "refused",.int 6],[.non]):=by
 refine runD_ap.trans ?_;have B:(ac "Never")∈CS:=by decide +kernel
 have m:=qT h (x := "NoWords") (y := "Never") (b:=iJ) (by decide +kernel) B (by decide +kernel);have e:=qT h (x := "NoLook") (y := "Never") (b:=iJ) (by decide +kernel) B (by decide +kernel);have d:=qT h (x := "NoNumbers") (y := "Never") (b:=iJ) (by decide +kernel) B (by decide +kernel);have q:=qT h (x := "NoRoom") (y := "Never") (b:=iJ) (by decide +kernel) B (by decide +kernel);have p:=qT h (x := "NoWord") (y := "Never") (b:=iJ) (by decide +kernel) B (by decide +kernel);have l:=qT h (x := "NoWorths") (y := "Never") (b:=iJ) (by decide +kernel) B (by decide +kernel);have k:=qT h (x := "Never") (y := "Never") (b:=iK) (by decide +kernel) B (by decide +kernel);have j:=qT h (x := "Full") (y := "Never") (b:=iJ) (by decide +kernel) B (by decide +kernel);have D:=qT h (x := "Known") (y := "Never") (b:=iJ) (by decide +kernel) B (by decide +kernel);have T:=VA (ca:=ca) B;have c:4<=sizeLine:=qQ (by omega);have a:8<=sizeLine:=qQ (by omega);have z:8 < sizeLine:=aD (by decide) big;have z2:2<=sizeLine:=qQ (by omega);simp [xc,qp,qm,JK,m,e,d,q,p,l,k,j,D,T,c,a,z,z2,ze,qbv,YR,Qw,vf,neD,eqN,eqS,jO,Qx,qfR,fk,d7]
theorem ZW (h:qbw ca):wy ca [.xcp (ca "Full")]=.ok (.tup [.str "refused",.int 7],[.non]):=by
 refine runD_ap.trans ?_;have B:(ac "Full")∈CS:=by decide +kernel
 have m:=qT h (x := "NoWords") (y := "Full") (b:=iJ) (by decide +kernel) B (by decide +kernel);have e:=qT h (x := "NoLook") (y := "Full") (b:=iJ) (by decide +kernel) B (by decide +kernel);have d:=qT h (x := "NoNumbers") (y := "Full") (b:=iJ) (by decide +kernel) B (by decide +kernel);have q:=qT h (x := "NoRoom") (y := "Full") (b:=iJ) (by decide +kernel) B (by decide +kernel);have p:=qT h (x := "NoWord") (y := "Full") (b:=iJ) (by decide +kernel) B (by decide +kernel);have l:=qT h (x := "NoWorths") (y := "Full") (b:=iJ) (by decide +kernel) B (by decide +kernel);have k:=qT h (x := "Never") (y := "Full") (b:=iJ) (by decide +kernel) B (by decide +kernel);have j:=qT h (x := "Full") (y := "Full") (b:=iK) (by decide +kernel) B (by decide +kernel);have D:=qT h (x := "Known") (y := "Full") (b:=iJ) (by decide +kernel) B (by decide +kernel);have T:=VA (ca:=ca) B;have c:4<=sizeLine:=qQ (by omega);have a:8<=sizeLine:=qQ (by omega);have z:8 < sizeLine:=aD (by decide) big;have z2:2<=sizeLine:=qQ (by omega);simp [xc,qp,qm,JK,m,e,d,q,p,l,k,j,D,T,c,a,z,z2,ze,qbv,YR,Qw,vf,neD,eqN,eqS,jO,Qx,qfR,fk,d7]
theorem Yy (h:qbw ca):wy ca [.xcp (ca "Known")]=.ok (.tup [.str "refused",.int 8],[.non]):=by
 refine runD_ap.trans ?_;have B:(ac "Known")∈CS:=by decide +kernel
 have m:=qT h (x := "NoWords") (y := "Known") (b:=iJ) (by decide +kernel) B (by decide +kernel);have e:=qT h (x := "NoLook") (y := "Known") (b:=iJ) (by decide +kernel) B (by decide +kernel);have d:=qT h (x := "NoNumbers") (y := "Known") (b:=iJ) (by decide +kernel) B (by decide +kernel);have q:=qT h (x := "NoRoom") (y := "Known") (b:=iJ) (by decide +kernel) B (by decide +kernel);have p:=qT h (x := "NoWord") (y := "Known") (b:=iJ) (by decide +kernel) B (by decide +kernel);have l:=qT h (x := "NoWorths") (y := "Known") (b:=iJ) (by decide +kernel) B (by decide +kernel);have k:=qT h (x := "Never") (y := "Known") (b:=iJ) (by decide +kernel) B (by decide +kernel);have j:=qT h (x := "Full") (y := "Known") (b:=iJ) (by decide +kernel) B (by decide +kernel);have D:=qT h (x := "Known") (y := "Known") (b:=iK) (by decide +kernel) B (by decide +kernel);have T:=VA (ca:=ca) B;have c:4<=sizeLine:=qQ (by omega);have a:8<=sizeLine:=qQ (by omega);have z:8 < sizeLine:=aD (by decide) big;have z2:2<=sizeLine:=qQ (by omega);simp [xc,qp,qm,JK,m,e,d,q,p,l,k,j,D,T,c,a,z,z2,ze,qbv,YR,Qw,vf,neD,eqN,eqS,jO,Qx,qfR,fk,d7]
theorem ge (h:qbw ca):wy ca [.xcp (ca "NoWord")]=.ok (.tup [.str "refused",.int 4],[.non]):=by
 refine runD_ap.trans ?_;have B:(ac "NoWord")∈CS:=by decide +kernel
 have m:=qT h (x := "NoWords") (y := "NoWord") (b:=iJ) (by decide +kernel) B (by decide +kernel);have e:=qT h (x := "NoLook") (y := "NoWord") (b:=iJ) (by decide +kernel) B (by decide +kernel);have d:=qT h (x := "NoNumbers") (y := "NoWord") (b:=iJ) (by decide +kernel) B (by decide +kernel);have q:=qT h (x := "NoRoom") (y := "NoWord") (b:=iJ) (by decide +kernel) B (by decide +kernel);have p:=qT h (x := "NoWord") (y := "NoWord") (b:=iK) (by decide +kernel) B (by decide +kernel);have l:=qT h (x := "NoWorths") (y := "NoWord") (b:=iJ) (by decide +kernel) B (by decide +kernel);have k:=qT h (x := "Never") (y := "NoWord") (b:=iJ) (by decide +kernel) B (by decide +kernel);have j:=qT h (x := "Full") (y := "NoWord") (b:=iJ) (by decide +kernel) B (by decide +kernel);have D:=qT h (x := "Known") (y := "NoWord") (b:=iJ) (by decide +kernel) B (by decide +kernel);have T:=VA (ca:=ca) B;have c:4<=sizeLine:=qQ (by omega);have a:8<=sizeLine:=qQ (by omega);have z:8 < sizeLine:=aD (by decide) big;have z2:2<=sizeLine:=qQ (by omega);simp [xc,qp,qm,JK,m,e,d,q,p,l,k,j,D,T,c,a,z,z2,ze,qbv,YR,Qw,vf,neD,eqN,eqS,jO,Qx,qfR,fk,d7]
theorem Jl {k:Nat}:∀ ds:List D,(∀ d∈ds,eqN k d d=iF iK)->wM (eqN k) ds ds=iF iK
 | [],_=>rfl
 | d::ds,h=>by have e:=h d (aq ..);have j:=Jl ds λd' hd=>h d' (af _ hd);simp [wM,e,j]
theorem qfG {k:Nat} (h:∀ d∈ds,eqN k d d=iF iK):eqN (k+1) (.lst ds) (.lst ds)=iF true:=by have e:=Jl ds h;simp [eqN,e]
theorem zJ {k:Nat} (h:∀ d∈ds,eqN k d d=iF iK):eqN (k+1) (.tup ds) (.tup ds)=iF true:=by have e:=Jl ds h;simp [eqN,e]
theorem qdO (k:Nat) (x:Str):eqN k (.str x) (.str x)=iF true:=by cases k <;> simp [eqN,eqS]
theorem Yz (k:Nat) (x:Int):eqN k (.int x) (.int x)=iF true:=by cases k <;> simp [eqN,eqS]
theorem Jm (h:eqN 8 d d=iF iK):neD d d=.ok (.bl iJ):=by simp [neD,h]
abbrev wdF (p q:Int) (ws:List Str) (r:Int) (hs:List Int):List (Str×D):=[("look",Ld p q),("came",Wd ws),("width",.int r),("held",.tup (hs.map D.int))]
noncomputable def wdD (ca:Str->Addr) (p q:Int) (ws:List Str) (r:Int) (hs:List Int):D:=.ins (ca "Words") (wdF p q ws r hs)
variable {hs:List Int}
section
theorem s1:(ac "came" == ac "look")=iJ/\(ac "width" == ac "look")=iJ/\(ac "width" == ac "came")=iJ/\(ac "held" == ac "look")=iJ/\(ac "held" == ac "came")=iJ/\(ac "held" == ac "width")=false:=by decide +kernel
theorem qhP:gW (ca "Words") "look" (wdD ca p q ws r hs)=.ok (Ld p q):=by simp [gW,wdD,cr]
theorem Ke:gW (ca "Words") "came" (wdD ca p q ws r hs)=.ok (Wd ws):=by obtain ⟨m,k,z,b,a,l⟩:=s1;simp [gW,wdD,cr,m]
theorem qbk:gW (ca "Words") "width" (wdD ca p q ws r hs)=.ok (.int r):=by obtain ⟨m,k,z,b,a,l⟩:=s1;simp [gW,wdD,cr,k,z]
theorem qdP:gW (ca "Words") "held" (wdD ca p q ws r hs)=.ok (.tup (hs.map D.int)):=by obtain ⟨m,k,z,b,a,l⟩:=s1;simp [gW,wdD,cr,b,a,l]
theorem wK {n:Str} (h:([ac "look",ac "came",ac "width",ac "held"].all λf=>!(n == f))=iK):uX (ca "Words") n (iF (iF (wdD ca p q ws r hs)))=true:=by simp only [fq,List.all_nil,ig,aM,eG] at h;obtain ⟨h1,h2,h3,a⟩:=h;simp [uX,wdD,cr,h1,h2,h3,a]
theorem qfH (hl:Ug p q):jZ ca [.ins (ca "Words") [],Ld p q]=.ok (.non,[wdD ca p q [] 0 [],.non]):=by
 have h:=zF hl;have e1:¬ac "look"=ac "came":=by decide +kernel
 have i:¬ac "look"=ac "width":=by decide +kernel
 have E:¬ac "came"=ac "width":=by decide +kernel
 have k:¬ac "look"=ac "held":=by decide +kernel
 have A:¬ac "came"=ac "held":=by decide +kernel
 have e:¬ac "width"=ac "held":=by decide +kernel
 refine runD_ap.trans ?_;simp [vb,qp,qm,qx,qU,h,QM,QL,e1,i,E,k,A,e,wdD]
theorem qbl:ku ca [wdD ca p q ws r hs]=.ok (Wd ws,[wdD ca p q ws r hs]):=by have h:=Ke (ca:=ca) (p:=p) (q:=q) (ws:=ws) (r:=r) (hs:=hs);refine runD_ap.trans ?_;generalize wdD ca p q ws r hs=O at *;simp [uz,qp,qm,h]
theorem qdQ:kY ca [wdD ca p q ws r hs]=.ok (.int r,[wdD ca p q ws r hs]):=by have h:=qbk (ca:=ca) (p:=p) (q:=q) (ws:=ws) (r:=r) (hs:=hs);refine runD_ap.trans ?_;generalize wdD ca p q ws r hs=O at *;simp [yz,qp,qm,h]
noncomputable def nmL (ws:List Str) (hs:List Int):D:=.lst (Ul (ws.map D.str) (hs.map D.int))
theorem qbm:jv ca [wdD ca p q ws r hs]=.ok (nmL ws hs,[wdD ca p q ws r hs]):=by have h1:=Ke (ca:=ca) (p:=p) (q:=q) (ws:=ws) (r:=r) (hs:=hs);have h2:=qdP (ca:=ca) (p:=p) (q:=q) (ws:=ws) (r:=r) (hs:=hs);have h3:kq (Wd ws) (.tup (hs.map D.int))=.ok (nmL ws hs):=rfl;refine runD_ap.trans ?_;generalize wdD ca p q ws r hs=O at *;simp [vJ,qp,qm,h1,h2,h3]
end
noncomputable def nuL (r:Int) (l:List (Str×Str)) (m:List (Str×Int)):List Int:=l.map λx=>(Jp m x.1+Jp m x.2) % r
section
variable (hw:jT ws) (hl:Ug p q)
include hw hl
theorem qc4 (i:1<=r) (g:r<=99) {es:List (Str×Int)} (h:qiq (qJ ws p q) r es):kG [Wd ws,Ld p q,.int r,.tup (prL es)]=.ok (.tup ((nuL r (qJ ws p q) es).map D.int),[.non,.non,.non,.non])/\(nuL r (qJ ws p q) es).Nodup:=by
 have hd:=nums_nd.mpr (qfF h);obtain ⟨k,v,_,_⟩:=h;have z:=qfl hw p q;have t:=qhs hw p q;have a:es.length<=12:=by
  have:(jx es).length=es.length:=by simp [jx]
  rw [<-this,k];exact t
 have l:OkW r es:=λx hx=>by obtain ⟨c,b,e⟩:=z x.1 (by rw [<-k]; exact ax.mpr ⟨x,hx,rfl⟩);have:=v x hx;exact ⟨by rw [e]; exact qdB b,this.1,this.2⟩
 have hs:Yq es=true:=by unfold Yq;rw [XE,k];exact Yt _ (qhN _)
 have f:WX 1 99 (.int r)=true:=by simp [WX]; omega
 have hi:=(WZ (ds:=prL es) (λd hd=>by
  obtain ⟨x,_,rfl⟩:=ax.mp hd;refine ⟨trivial,λxs e y B=>?_⟩;cases e;rcases ae.mp B with rfl | B;·trivial
  ·rw [aE.mp B];trivial) (by simp [prL]; omega) r).2 es rfl l
 rw [hs] at hi;have:=Yu hw hl f l hs hi;rw [if_pos (by rw [aL];intro x hx;rw [k];exact decide_eq_true hx)] at this;refine ⟨?_,hd⟩;rw [this];unfold qip nuL;rw [cm];rfl
end
theorem qfI (h:1<=l.length):qW [.lst (qr l),.int 0,.dct []]=.ok (.bl iJ,[.non,.non,.non]):=by
 have a:jY (.lst (qr l))=.ok (.int l.length):=by simp [jY,qr]
 have h0:(0:Int) < l.length:=by omega
 refine runD_ap.trans ?_;generalize D.lst (qr l)=Z at *;generalize (l.length:Int)=n at *;simp [kW,qp,qm,a,ltD,h0]
section
theorem VD (h:Vx w):wu [.str w]=.ok (.non,[.non]):=by have h1:=xg h;refine runD_ap.trans ?_;simp [wt,qp,qm,qx,qU,h1,jO]
theorem Uf (h:Vx w):jw ca [wdD ca p q ws r hs,.str w]=if w∈ws then .exc "Known" [iF (wdD ca p q ws r hs),iF .non] else if ws.length=6 then .exc "Full" [iF (wdD ca p q ws r hs),iF .non] else .ok (.non,[wdD ca p q ws r hs,.non]):=by
 have h1:=VD h;have h2:=Ke (ca:=ca) (p:=p) (q:=q) (ws:=ws) (r:=r) (hs:=hs);have h3:inA (.str w) (Wd ws)=.ok (.bl (decide (w∈ws))):=by simp [inA,qbu,inD,ky]
 have c:jY (Wd ws)=.ok (.int ws.length):=by simp [jY,Wd]
 have z1:1<=sizeLine:=qQ (by omega);refine runD_ap.trans ?_;generalize wdD ca p q ws r hs=O at *;generalize Wd ws=W at *;by_cases a:w∈ws;·rw [if_pos a];rw [decide_eq_true a] at h3;simp [je,qp,qm,qx,qU,h1,h2,h3,jp,z1]
 ·rw [if_neg a];rw [decide_eq_false a] at h3;by_cases b:ws.length=6
  ·rw [if_pos b];have g:(ws.length:Int)=6:=by omega
   simp [je,qp,qm,qx,qU,h1,h2,h3,c,eqD,eqN,eqS,g,jp,z1]
  ·rw [if_neg b];have g:¬(ws.length:Int)=6:=by omega
   simp [je,qp,qm,qx,qU,h1,h2,h3,c,eqD,eqN,eqS,g]
end
theorem qc5 (h1:1<=l.length) (f:l.length<=6) (j:clo l=iH) (r0:0<=r) (r1:r<=97):∃ R,xO [.lst (qr l),.int r]=.ok (.int R,[.non,.non])/\1<=R/\R<=97/\((l.length:Int)<=R/\OKs R [] l)/\r<=R/\∀ r',r<=r'->r' < R->¬((l.length:Int)<=r'/\OKs r' [] l):=by
 have o:qbx []:=λkv d=>by cases d
 obtain ⟨v,i⟩:=qkD (qhL j) f;have h:(l.length:Int)<=97/\OKs 97 [] l:=⟨by omega,v,(λx hx=>by cases hx),i⟩
 have hd:∀ r,1<=r->r<=99->∃ b,qW [.lst (qr l),.int r,.dct []]=.ok (.bl b,[.non,.non,.non])/\(b=iK↔(l.length:Int)<=r/\OKs r [] l):=λr a b=>xh f a b o (by simp);have h0:=qfI h1;have n:∃ R,1<=R/\R<=97/\((l.length:Int)<=R/\OKs R [] l)/\r<=R/\(∀ r',r<=r'->r' < R->¬((l.length:Int)<=r'/\OKs r' [] l))/\qP rfT rfB 100 [iF (.lst (qr l)),iF (.int r),iF (.int r)]=.ok (.nx,[iF (.lst (qr l)),iF (.int r),iF (.int R)]):=by
  generalize D.lst (qr l)=Z at *;by_cases z:r=0
  ·subst z;obtain ⟨R,m,k,c,q⟩:=VC (Z:=Z) hd h (by omega) (a:=iF (.int 0)) 99 1 (by omega) (by omega) (by omega);refine ⟨R,by omega,Int.not_lt.mp λy=>c 97 (by omega) y h,k,by omega,λr' B g e=>?_,?_⟩
   ·by_cases y:r'=0;·have:=e.1; omega
    ·exact c r' (by omega) g e
   have s1:qP rfT rfB (99+1) [iF Z,iF (.int 0),iF (.int 0)]=qP rfT rfB 99 [iF Z,iF (.int 0),iF (.int 1)]:=by simp [qP,qx,qU,h0,jO,vh]
   exact s1.trans q
  ·obtain ⟨R,m,k,c,q⟩:=VC (Z:=Z) hd h (by omega) (a:=iF (.int r)) 100 r (by omega) (by omega) (by omega);exact ⟨R,by omega,Int.not_lt.mp λy=>c 97 (by omega) y h,k,m,c,q⟩
 obtain ⟨R,A,u,t,s,p,w⟩:=n;refine ⟨R,?_,A,u,t,s,p⟩;refine runD_ap.trans ?_;unfold xN;generalize D.lst (qr l)=Z at *;rw [show qp xM [Z,.int r]=[iF Z,iF (.int r),iH] from rfl];refine (qE (ρ1:=[iF Z,iF (.int r),iF (.int r)]) (by simp)).trans ?_;refine (qE w).trans ?_;simp [qm]
theorem qhQ (hw:jT ws) (hl:Ug p q) (i:1<=r) (c:r<=99) (h:(ws.length:Int)<=r/\OKs r [] (qJ ws p q)) {T:D} (j:jW [.lst (qr (qJ ws p q)),.int r]=.ok (T,[.non,.non])):qK [Wd ws,Ld p q,.int r]=.ok (T,[.non,.non,.non]):=by have m:=hw.2.1;have hs:=Qd ws p q;have hp:=zG hw hl;have f:=uN (d:=.int r) trivial;rw [if_pos (by simp [WX]; omega)] at f;obtain ⟨b,e,g⟩:=xh (l:=qJ ws p q) (by omega) i c (k:=[]) (λkv a=>by cases a) (by simp);rw [hs] at g;rw [g.mpr h] at e;generalize D.lst (qr (qJ ws p q))=Z at *;refine runD_ap.trans ?_;simp [kX,qp,qm,qx,qU,hp,f,e,jO,j]
def Nm (p q:Int) (ws:List Str) (r:Int) (hs:List Int):Prop:=∃ es,qK [Wd ws,Ld p q,.int r]=.ok (.tup (prL es),[.non,.non,.non])/\hs=nuL r (qJ ws p q) es/\kG [Wd ws,Ld p q,.int r,.tup (prL es)]=.ok (.tup (hs.map D.int),[.non,.non,.non,.non])
def Gd (p q:Int) (ws:List Str) (r:Int) (hs:List Int):Prop:=(ws=[]/\r=0/\hs=[])\/(jT ws/\1<=r/\r<=97/\hs.length=ws.length/\Nm p q ws r hs)
section
theorem Gd.nx (h:Gd p q ws r hs) (hw:Vx w) (n:w∉ws) (c:ws.length≠6):jT (ws++[w])/\0<=r/\r<=97:=by
 rcases h with ⟨rfl,rfl,rfl⟩ | ⟨⟨m,k,b,a⟩,A,e,d,_⟩
 ·exact ⟨⟨by simp,by simp,by simp,λx hx=>by
   rcases aH.mp hx with z | z;·cases z
   ·rw [aE.mp z]; exact hw⟩,by omega,by omega⟩
 ·refine ⟨⟨by rw [ao]; simp,by rw [ao]; simp; omega,fM.mpr ⟨b,by simp,λx hx y B=>by rw [aE.mp B];rintro rfl;exact n hx⟩,λx hx=>?_⟩,by omega,by omega⟩;rcases aH.mp hx with z | z;·exact a x z
  ·rw [aE.mp z];exact hw
theorem pf {b c x:D}:QL "held" x [(ac "look",a),(ac "came",b),(ac "width",c),(ac "held",d)]=[(ac "look",a),(ac "came",b),(ac "width",c),(ac "held",x)]/\QL "came" x [(ac "look",a),(ac "came",b),(ac "width",c),(ac "held",d)]=[(ac "look",a),(ac "came",x),(ac "width",c),(ac "held",d)]/\QL "width" x [(ac "look",a),(ac "came",b),(ac "width",c),(ac "held",d)]=[(ac "look",a),(ac "came",b),(ac "width",x),(ac "held",d)]:=by
 have e1:¬ac "look"=ac "came":=by decide +kernel
 have i:¬ac "look"=ac "width":=by decide +kernel
 have E:¬ac "came"=ac "width":=by decide +kernel
 have k:¬ac "look"=ac "held":=by decide +kernel
 have A:¬ac "came"=ac "held":=by decide +kernel
 have e:¬ac "width"=ac "held":=by decide +kernel
 simp [QL,e1,i,E,k,A,e]
theorem qfJ {f:Str} {b c x e g S d':D} {fe:jg} (h:fe ρ=.ok (x,ρ1)) (h0:ρ1[0]?=iF (iF (.ins (ca "Words") [(ac "look",a),(ac "came",b),(ac "width",c),(ac "held",d)])))
  (hp:QL f x [(ac "look",a),(ac "came",b),(ac "width",c),(ac "held",d)]=[(ac "look",e),(ac "came",g),(ac "width",S),(ac "held",d')]) :
  QM (ca "Words") 0 f fe ρ=.ok (.nx,ρ1.set 0 (iF (.ins (ca "Words") [(ac "look",e),(ac "came",g),(ac "width",S),(ac "held",d')]))):=by
 unfold QM;rw [h,uW];simp only [h0];rw [if_pos (by simp),hp]
structure Rm (p q:Int) (ws:List Str) (r R:Int):Prop where
 one:1<=R
 top:R<=97
 is:(ws.length:Int)<=R/\OKs R [] (qJ ws p q)
 up:r<=R
 least:∀ r',r<=r'->r' < R->¬((ws.length:Int)<=r'/\OKs r' [] (qJ ws p q))
theorem qfK (hl:Ug p q) (hg:Gd p q ws r hs) (hw:Vx w):(w∈ws/\jn ca [wdD ca p q ws r hs,.str w]=.exc "Known" [iF (wdD ca p q ws r hs),iF .non])
  \/ (w∉ws/\ws.length=6/\jn ca [wdD ca p q ws r hs,.str w]=.exc "Full" [iF (wdD ca p q ws r hs),iF .non])
  \/ (w∉ws/\ws.length≠6/\jT (ws++[w])/\clo (qJ (ws++[w]) p q)≠iH/\jn ca [wdD ca p q ws r hs,.str w]=.exc "Never" [iF (wdD ca p q ws r hs),iF .non])
  \/ (w∉ws/\ws.length≠6/\jT (ws++[w])/\clo (qJ (ws++[w]) p q)=iH/\∃ R i,Rm p q (ws++[w]) r R/\Gd p q (ws++[w]) R i/\jn ca [wdD ca p q ws r hs,.str w]=.ok (.int R,[wdD ca p q (ws++[w]) R i,.non])):=by
 have h:=Uf (ca:=ca) (p:=p) (q:=q) (ws:=ws) (r:=r) (hs:=hs) hw;have y:uX (ca "Words") "check_new" (iF (iF (wdD ca p q ws r hs)))=true:=wK (by decide +kernel);by_cases a:w∈ws;·rw [if_pos a] at h;refine .inl ⟨a,?_⟩;refine runD_ap.trans ?_;generalize wdD ca p q ws r hs=O at *;simp [jN,qp,qm,ji,y,qx,qU,h]
 rw [if_neg a] at h;by_cases b:ws.length=6;·rw [if_pos b] at h;refine .inr (.inl ⟨a,b,?_⟩);refine runD_ap.trans ?_;generalize wdD ca p q ws r hs=O at *;simp [jN,qp,qm,ji,y,qx,qU,h]
 rw [if_neg b] at h;obtain ⟨f,r0,r1⟩:=hg.nx hw a b;have fc:=Ke (ca:=ca) (p:=p) (q:=q) (ws:=ws) (r:=r) (hs:=hs);have G:=qhP (ca:=ca) (p:=p) (q:=q) (ws:=ws) (r:=r) (hs:=hs);have fw:=qbk (ca:=ca) (p:=p) (q:=q) (ws:=ws) (r:=r) (hs:=hs);have u:=Qd (ws++[w]) p q;have h1:=f.1;have E:=f.2.1;have hp:=zG f hl;have d:=Jj (l:=qJ (ws++[w]) p q) (by omega);have z1:1<=sizeLine:=qQ (by omega);have hz:ws.length+1<=sizeLine:=qQ (by rw [ao] at E; simp at E; omega);have m:vh (Wd ws) (.tup [.str w])=.ok (Wd (ws++[w])):=by simp [vh,hz]
 have z:∀ fb:qR,ZE [.io,.val] (qG (vN (ji (ca "Words") 0 "check_new" [.vl] (jw ca) (qc (qd 1) qA)))
  (qG (jD 2 (d2 vh (d1 (gW (ca "Words") "came") (qd 0)) (uT (qc (qd 1) qA))))
  (qG (jD 3 (qu [.vl,.vl] xJ (qc (qd 2) (qc (d1 (gW (ca "Words") "look") (qd 0)) qA)))) fb)) [iF (wdD ca p q ws r hs),iF (.str w),iH,iH,iH])=ZE [.io,.val] (fb [iF (wdD ca p q ws r hs),iF (.str w),iF (Wd (ws++[w])),iF (.lst (qr (qJ (ws++[w]) p q))),iH]):=λfb=>by
  clear d;generalize wdD ca p q ws r hs=O at *;generalize D.lst (qr (qJ (ws++[w]) p q))=Z at *;refine (qE (ρ1:=[iF O,iF (.str w),iH,iH,iH]) (by simp [ji,y,qx,qU,h])).trans ?_;generalize Wd ws=W at *;generalize Wd (ws++[w])=W' at *;refine (qE (ρ1:=[iF O,iF (.str w),iF W',iH,iH]) (by simp [fc,m,z1])).trans ?_;refine (qE (ρ1:=[iF O,iF (.str w),iF W',iF Z,iH]) (by simp [qx,qU,G,hp])).trans ?_;rfl
 cases B:clo (qJ (ws++[w]) p q) with
 | some c=>
  refine .inr (.inr (.inl ⟨a,b,f,by simp,?_⟩));refine runD_ap.trans ?_;unfold jN;rw [show qp ww [wdD ca p q ws r hs,.str w]=[iF (wdD ca p q ws r hs),iF (.str w),iH,iH,iH] from rfl];refine (z _).trans ?_;rw [B] at d;have v:Jq (clD (iF c)) .non=.ok (.bl iK):=by simp [clD,Jq]
  generalize clD (iF c)=C at *;generalize wdD ca p q ws r hs=O at *;generalize D.lst (qr (qJ (ws++[w]) p q))=Z at *;generalize Wd (ws++[w])=W' at *;simp [qm,qx,qU,d,v,jp,z1]
 | none=>
  obtain ⟨R,H,o,n,⟨e,hok⟩,s,t⟩:=qc5 (l:=qJ (ws++[w]) p q) (by omega) (by omega) B r0 r1;obtain ⟨es,I,k⟩:=yF (l:=qJ (ws++[w]) p q) (by omega) (qfl f p q) o (by omega) e hok;obtain ⟨j,_⟩:=qc4 f hl o (by omega) I;have A:(nuL R (qJ (ws++[w]) p q) es).length=(ws++[w]).length:=by unfold nuL; rw [ai,u]
  have g:=qhQ f hl o (by omega) ⟨by rw [u] at e; exact e,hok⟩ k;rw [u] at e t;refine .inr (.inr (.inr ⟨a,b,f,rfl,R,nuL R (qJ (ws++[w]) p q) es,⟨o,n,⟨e,hok⟩,s,t⟩,.inr ⟨f,o,n,A,es,g,rfl,j⟩,?_⟩));clear g t;refine runD_ap.trans ?_;unfold jN;rw [show qp ww [wdD ca p q ws r hs,.str w]=[iF (wdD ca p q ws r hs),iF (.str w),iH,iH,iH] from rfl];refine (z _).trans ?_;rw [B] at d;have d:vA [.lst (qr (qJ (ws++[w]) p q))]=.ok (.non,[.non]):=d;generalize nuL R (qJ (ws++[w]) p q) es=nu at *;generalize D.lst (qr (qJ (ws++[w]) p q))=Z at *;generalize D.tup (prL es)=Pe at *;refine (qE (ρ1:=[iF (wdD ca p q ws r hs),iF (.str w),iF (Wd (ws++[w])),iF Z,iH]) (by generalize wdD ca p q ws r hs=O at *;generalize Wd (ws++[w])=W' at *;simp [qx,qU,d,Jq])).trans ?_;refine (qE (ρ1:=[iF (wdD ca p q ws r hs),iF (.str w),iF (Wd (ws++[w])),iF Z,iF (.int R)]) (by generalize wdD ca p q ws r hs=O at *;generalize Wd (ws++[w])=W' at *;simp [qx,qU,fw,H])).trans ?_;refine (qE (ρ1:=[iF (wdD ca p q ws r nu),iF (.str w),iF (Wd (ws++[w])),iF Z,iF (.int R)]) (qfJ (x:=.tup (nu.map D.int)) (ρ1:=[iF (wdD ca p q ws r hs),iF (.str w),iF (Wd (ws++[w])),iF Z,iF (.int R)]) (by generalize wdD ca p q ws r hs=O at *;generalize Wd (ws++[w])=W' at *;generalize D.tup (nu.map D.int)=U at *;simp [qx,qU,G,k,j]) rfl pf.1)).trans ?_;refine (qE (ρ1:=[iF (wdD ca p q (ws++[w]) r nu),iF (.str w),iF (Wd (ws++[w])),iF Z,iF (.int R)]) (qfJ (x:=Wd (ws++[w])) (ρ1:=[iF (wdD ca p q ws r nu),iF (.str w),iF (Wd (ws++[w])),iF Z,iF (.int R)]) rfl rfl pf.2.1)).trans ?_;refine (qE (ρ1:=[iF (wdD ca p q (ws++[w]) R nu),iF (.str w),iF (Wd (ws++[w])),iF Z,iF (.int R)]) (qfJ (x:=.int R) (ρ1:=[iF (wdD ca p q (ws++[w]) r nu),iF (.str w),iF (Wd (ws++[w])),iF Z,iF (.int R)]) rfl rfl pf.2.2)).trans ?_;generalize wdD ca p q (ws++[w]) R nu=O at *;generalize Wd (ws++[w])=W' at *;simp [qm]
end
noncomputable def ZX:List D:=[.non,.str "",.str "A",.str "abcdefg",.int 1,.tup [.str "a"]]
theorem Kf:∀ d∈ZX,kt [d]=.ok (.bl iJ,[.non]):=by
 intro d hd;have a:d4 ""=0:=by decide +kernel
 have i:d4 "A"=1:=by decide +kernel
 have l:d4 "abcdefg"=7:=by decide +kernel
 simp only [ZX,ae,aU,or_false] at hd;rcases hd with rfl | rfl | rfl | rfl | rfl | rfl
 ·refine runD_ap.trans ?_;simp [kr,qp,wW,tyN,jO,qm]
 ·refine runD_ap.trans ?_;simp [kr,qp,wW,tyN,jO,jY,leD,a,qm]
 ·have e:=wz (cap:=[]) (fi:=jU (qd 0)) (ρ:=[iF (.str "A")]) (ρ1:=[iF (.str "A")]) (ds:=Qv "A") (fe:=qu [.vl] kC (qc (qd 0) qA)) (λd=>.bl (ZT d)) (by simp [jI]) (by
   simp [Qv,<-vL,i];exact qQ (by omega)) (λd hd=>by
   obtain ⟨c,h,rfl⟩:=ax.mp hd;have h1:=yD (d:=.str ⟨#[c]⟩) trivial;simp [qx,qU,h1])
  have g:(Qv "A").all ZT=false:=by decide +kernel
  refine runD_ap.trans ?_;simp only [kr,qp,aJ,cU,au,aY,Nat.reduceAdd,eU,cD,bp];simp [wW,tyN,jO,jY,leD,i,e,uL,g,qm]
 ·refine runD_ap.trans ?_;simp [kr,qp,wW,tyN,jO,jY,leD,l,qm]
 ·refine runD_ap.trans ?_;simp [kr,qp,wW,tyN,jO,qm]
 ·refine runD_ap.trans ?_;simp [kr,qp,wW,tyN,jO,qm]
section
theorem qfL (h:kt [d]=.ok (.bl iJ,[.non])):jn ca [wdD ca p q ws r hs,d]=.exc "NoWord" [iF (wdD ca p q ws r hs),iF .non]:=by
 have z1:1<=sizeLine:=qQ (by omega);have h1:wu [d]=.exc "NoWord" [iF .non]:=by refine runD_ap.trans ?_;simp [wt,qp,qm,qx,qU,h,jO,jp,z1]
 have h2:jw ca [wdD ca p q ws r hs,d]=.exc "NoWord" [iF (wdD ca p q ws r hs),iF .non]:=by refine runD_ap.trans ?_;generalize wdD ca p q ws r hs=O at *;simp [je,qp,qm,qx,qU,h1]
 have y:uX (ca "Words") "check_new" (iF (iF (wdD ca p q ws r hs)))=true:=wK (by decide +kernel);refine runD_ap.trans ?_;generalize wdD ca p q ws r hs=O at *;simp [jN,qp,qm,ji,y,qx,qU,h2]
theorem qbn (h:kt [d]=.ok (.bl iJ,[.non])):jq ca [wdD ca p q ws r hs,d]=.exc "NoWord" [iF (wdD ca p q ws r hs),iF .non]:=by have z1:1<=sizeLine:=qQ (by omega);refine runD_ap.trans ?_;generalize wdD ca p q ws r hs=O at *;simp [jX,qp,qm,qx,qU,h,jO,jp,z1]
theorem qbo (hw:Vx w) (n:w∉ws):jq ca [wdD ca p q ws r hs,.str w]=.exc "NoWord" [iF (wdD ca p q ws r hs),iF .non]:=by
 have z1:1<=sizeLine:=qQ (by omega);have h:=xg hw;have h2:=Ke (ca:=ca) (p:=p) (q:=q) (ws:=ws) (r:=r) (hs:=hs);have h3:JL (.str w) (Wd ws)=.ok (.bl iK):=by simp [JL,Uy,inD,ky,n]
 refine runD_ap.trans ?_;generalize wdD ca p q ws r hs=O at *;generalize Wd ws=W at *;simp [jX,qp,qm,qx,qU,h,h2,h3,jO,jp,z1]
theorem qhR:∀ {ws:List Str} {j:Nat} (n:ws.Nodup) (h:j < ws.length),((ws.map D.str).map λd=>eqN 7 d (.str ws[j]) == iF iK).findIdx? id=iF j:=λ{ws j} n h=>by
 rw [bV];refine ⟨by simpa using h,by simp [eqN,eqS],λi hi=>?_⟩;have a:i < ws.length:=by omega
 simp [eqN,eqS];intro z;have:=(fh n).mp z;omega
theorem qbp (n:ws.Nodup) (f:∀ x∈ws,Vx x) (hl:hs.length=ws.length) (a:j < ws.length):jq ca [wdD ca p q ws r hs,.str ws[j]]=.ok (.int (hs[j]'(by omega)),[wdD ca p q ws r hs,.non]):=by
 have h:=xg (f _ (bT a));have h2:=Ke (ca:=ca) (p:=p) (q:=q) (ws:=ws) (r:=r) (hs:=hs);have d:=qdP (ca:=ca) (p:=p) (q:=q) (ws:=ws) (r:=r) (hs:=hs);have h3:JL (.str ws[j]) (Wd ws)=.ok (.bl iJ):=by simp [JL,Uy,inD,ky]
 have c:JS (Wd ws) (.str ws[j])=.ok (.int j):=by have e:=qhR n a;unfold JS;simp only [ky,e]
 have b:ixD (.tup (hs.map D.int)) (.int j)=.ok (.int (hs[j]'(by omega))):=by
  have g:j < hs.length:=by omega
  simp [ixD,wB,g]
 have k:qcz (Wd ws)=true:=rfl;refine runD_ap.trans ?_;generalize wdD ca p q ws r hs=O at *;generalize Wd ws=W at *;generalize D.tup (hs.map D.int)=U at *;generalize ws[j]=x at *;generalize hs[j]'(by omega)=y at *;simp [jX,qp,qm,qx,qU,h,h2,h3,d,dM,k,c,b,jO]
end
section
abbrev rf (k:Int):D:=.tup [.str "refused",.int k]
theorem VE (O d:D) (y:uX (ca "Words") "come" (iF (iF O))=iK) {c:Str} (h:c∈CS) (e:jn ca [O,d]=.exc c [iF O,iF .non]) {k:Int} (hw:wy ca [.xcp (ca c)]=.ok (rf k,[.non])):yB ca [O,.int 0,d]=.ok (rf k,[O,.non,.non]):=by have hi:=qdD (ca:=ca) h;refine runD_ap.trans ?_;simp [ZQ,qb8,qp,qm,ji,y,qx,qU,e,hi,hw,eqD,eqN,eqS]
theorem qhS (O a d v:D) (y:uX (ca "Words") "come" (iF (iF O))=iK) (e:jn ca [O,d]=.ok (v,[a,.non])):yB ca [O,.int 0,d]=.ok (v,[a,.non,.non]):=by refine runD_ap.trans ?_;simp [ZQ,qb8,qp,qm,ji,y,qx,qU,e,eqD,eqN,eqS]
theorem qbq (O d:D) (y:uX (ca "Words") "number" (iF (iF O))=iK) {c:Str} (h:c∈CS) (e:jq ca [O,d]=.exc c [iF O,iF .non]) {k:Int} (hw:wy ca [.xcp (ca c)]=.ok (rf k,[.non])):yB ca [O,.int 1,d]=.ok (rf k,[O,.non,.non]):=by have hi:=qdD (ca:=ca) h;refine runD_ap.trans ?_;simp [ZQ,qb8,qp,qm,ji,y,qx,qU,e,hi,hw,eqD,eqN,eqS]
theorem qhT (O a d v:D) (y:uX (ca "Words") "number" (iF (iF O))=iK) (e:jq ca [O,d]=.ok (v,[a,.non])):yB ca [O,.int 1,d]=.ok (v,[a,.non,.non]):=by refine runD_ap.trans ?_;simp [ZQ,qb8,qp,qm,ji,y,qx,qU,e,eqD,eqN,eqS]
theorem qhU (W L:D):∀ d∈ZX,Ka [W,L,d]=.ok (rf 4,[.non,.non,.non]):=by
 intro d hd;have z2:2<=sizeLine:=qQ (by omega);have z:3<=sizeLine:=qQ (by omega);have n1:¬ac "A"=ac "":=by decide +kernel
 have n2:¬ac "abcdefg"=ac "":=by decide +kernel
 have i:¬ac "abcdefg"=ac "A":=by decide +kernel
 refine runD_ap.trans ?_;simp only [ZX,ae,aU,or_false] at hd;rcases hd with rfl | rfl | rfl | rfl | rfl | rfl;·simp [uS,qp,wW,tyN,jO,qm,z2]
 ·simp [uS,qp,wW,tyN,jO,qm,z2,z,inA,qbu,inD,gh,eqN,eqS]
 ·simp [uS,qp,wW,tyN,jO,qm,z2,z,inA,qbu,inD,gh,eqN,eqS]
 ·simp [uS,qp,wW,tyN,jO,qm,z2,z,inA,qbu,inD,gh,eqN,eqS]
 ·simp [uS,qp,wW,tyN,jO,qm,z2]
 ·simp [uS,qp,wW,tyN,jO,qm,z2]
theorem qfM (hw:Vx w):¬ac ""=w/\¬ac "A"=w/\¬ac "abcdefg"=w:=by
 refine ⟨?_,?_,?_⟩ <;> rintro rfl;·have:=hw.1; revert this; decide +kernel
 ·have:=(hw.2.2 65 (by decide +kernel)).1; omega
 ·have:=hw.2.1; revert this; decide +kernel
theorem qhV (hw:Vx w) (hl:Ug p q) (j:ws.length<=6) (f:w∉ws->ws.length≠6->jT (ws++[w])):Ka [Wd ws,Ld p q,.str w]=.ok (if w∈ws then rf 8 else if ws.length=6 then rf 7 else if clo (qJ (ws++[w]) p q)=iH then .non else rf 6,[.non,.non,.non]):=by
 have z1:1<=sizeLine:=qQ (by omega);have z2:2<=sizeLine:=qQ (by omega);have z:3<=sizeLine:=qQ (by omega);obtain ⟨n1,n2,i⟩:=qfM hw;have h0:inA (.str w) (.tup [.str "",.str "A",.str "abcdefg"])=.ok (.bl iJ):=by simp [inA,qbu,inD,gh,eqN,eqS,n1,n2,i]
 have h3:inA (.str w) (Wd ws)=.ok (.bl (decide (w∈ws))):=by simp [inA,qbu,inD,ky]
 have d:jY (Wd ws)=.ok (.int ws.length):=by simp [jY,Wd]
 refine runD_ap.trans ?_;by_cases a:w∈ws;·rw [if_pos a];rw [decide_eq_true a] at h3;generalize Wd ws=W at *;generalize Ld p q=L at *;simp [uS,qp,wW,tyN,jO,qm,z1,z2,z,h0,h3]
 rw [if_neg a];rw [decide_eq_false a] at h3;by_cases b:ws.length=6
 ·rw [if_pos b];have g:(ws.length:Int)=6:=by omega
  generalize Wd ws=W at *;generalize Ld p q=L at *;simp [uS,qp,wW,tyN,jO,qm,z1,z2,z,h0,h3,d,eqD,eqN,eqS,g]
 rw [if_neg b];have g:¬(ws.length:Int)=6:=by omega
 have hok:=f a b;have u:=Qd (ws++[w]) p q;have h:=qfo hok hl (Jj (l:=qJ (ws++[w]) p q) (by have:=hok.2.1; omega));have hz:ws.length+1<=sizeLine:=qQ (by omega);have m:vh (Wd ws) (.tup [.str w])=.ok (Wd (ws++[w])):=by simp [vh,hz]
 cases e:clo (qJ (ws++[w]) p q) with
 | none=>
  rw [e] at h;have o:Jq (clD iH) .non=.ok (.bl iJ):=by simp [clD,Jq]
  generalize clD iH=C at *;generalize Wd ws=W at *;generalize Wd (ws++[w])=W' at *;generalize Ld p q=L at *;simp [uS,qp,wW,tyN,jO,qm,z1,z2,z,h0,h3,d,eqD,eqN,eqS,g,m,qx,qU,h,o]
 | some c=>
  rw [e] at h;have o:Jq (clD (iF c)) .non=.ok (.bl iK):=by simp [clD,Jq]
  generalize clD (iF c)=C at *;generalize Wd ws=W at *;generalize Wd (ws++[w])=W' at *;generalize Ld p q=L at *;simp [uS,qp,wW,tyN,jO,qm,z1,z2,z,h0,h3,d,eqD,eqN,eqS,g,m,qx,qU,h,o]
end
section
theorem qc6 (ns:List Int) (town xs:List D) (hx:xs≠[]) (ht:town.length < 1000):∃ d,d∈xs/\vK [scr ns,.lst town,.tup xs]=.ok (d,[.non,.lst (town++[.int 0]),.non]):=by have hp:0 < xs.length:=fB.mpr hx;obtain ⟨r,h0,h1,h⟩:=uK ns town (many:=(xs.length:Int)) (by omega) ht;obtain ⟨d,e,hd⟩:=qa5 (xs:=xs) h0 h1;refine ⟨d,hd,?_⟩;refine runD_ap.trans ?_;simp [Vm,qp,qm,qx,qU,jY,h,ixD,e]
def Got (d:D):Prop:=(∃ w,Vx w/\d=.str w)\/d∈ZX
abbrev dA1:qR:=(jD 11 (qu [.vl,.sl 1,.vl] Vp (qc (qd 0) (jS (qc (qd 7) qA)))))
abbrev dA2:qR:=(sIf (qer (qH (d2 neD (qd 5) (uT qA))) (qH (d2 eqD (qu [.vl,.sl 1,.vl] kx (qc (qd 0) (jS (qc (dC (.int 6)) qA)))) (dC (.int 0))))) (jD 11 (qu [.vl,.sl 1,.vl] vK (qc (qd 0) (jS (qc (qd 5) qA))))) qX)
abbrev dA3:qR:=(sIf (qH (d2 eqD (qu [.vl,.sl 1,.vl] kx (qc (qd 0) (jS (qc (dC (.int 8)) qA)))) (dC (.int 0)))) (jD 11 (qu [.vl,.sl 1,.vl] vK (qc (qd 0) (jS (qc (VF λρ=>.ok ([.non,(.str ""),(.str "A"),(.str "abcdefg"),(.int 1),(.tup [(.str "a")])],ρ)) qA))))) qX)
theorem qdR (ws:List Str):neD (Wd ws) (.tup [])=.ok (.bl (!decide (ws=[]))):=by cases ws <;> simp [neD,eqN,wM]
theorem qhW (ns:List Int) {town:List D} (ht:town.length < 800) (f0:0 < few) (f1:few<=26) (A:∀ x∈ws,Vx x) (L O l:Option D) (r:D) (k j f m c b a:Option D):∃ d t,Got d/\t.length<=town.length+12/\∀ fb:qR,qG dA1 (qG dA2 (qG dA3 fb)) [iF (scr ns),iF (.lst town),L,O,l,iF (Wd ws),iF r,iF (.int few),k,j,f,m,c,b,a]=fb [iF (scr ns),iF (.lst t),L,O,l,iF (Wd ws),iF r,iF (.int few),k,j,f,iF d,c,b,a]:=by
 obtain ⟨w,g,hw,E,g1⟩:=qfj ns town f0 f1 (by omega);have u:dA1 [iF (scr ns),iF (.lst town),L,O,l,iF (Wd ws),iF r,iF (.int few),k,j,f,m,c,b,a]=.ok (.nx,[iF (scr ns),iF (.lst g),L,O,l,iF (Wd ws),iF r,iF (.int few),k,j,f,iF (.str w),c,b,a]):=by generalize Wd ws=W at *;simp [qx,qU,g1]
 have o:∃ w' h,Vx w'/\h.length<=g.length+2/\dA2 [iF (scr ns),iF (.lst g),L,O,l,iF (Wd ws),iF r,iF (.int few),k,j,f,iF (.str w),c,b,a]=.ok (.nx,[iF (scr ns),iF (.lst h),L,O,l,iF (Wd ws),iF r,iF (.int few),k,j,f,iF (.str w'),c,b,a]):=by
  have n:=qdR ws;by_cases z:ws=[];·refine ⟨w,g,hw,by omega,?_⟩;rw [decide_eq_true z] at n;generalize Wd ws=W at *;simp [n]
  ·obtain ⟨s,B,d1,Y⟩:=uK ns g (many:=6) (by omega) (by omega);obtain ⟨e,q,i⟩:=qc6 ns (g++[.int 0]) (ws.map D.str) (by simpa using z) (by rw [ao]; simp; omega);obtain ⟨x,hx,rfl⟩:=ax.mp q;have i:vK [scr ns,.lst (g++[.int 0]),Wd ws]=_:=i;rw [decide_eq_false z] at n;by_cases y:s=0;·subst y;refine ⟨x,g++[.int 0]++[.int 0],A x hx,by simp,?_⟩;generalize Wd ws=W at *;simp [qx,qU,n,Y,eqD,eqN,eqS,i]
   ·refine ⟨w,g++[.int 0],hw,by simp,?_⟩;generalize Wd ws=W at *;simp [qx,qU,n,Y,eqD,eqN,eqS,y]
 obtain ⟨w',h,p,C,o⟩:=o;obtain ⟨s,B,d1,Y⟩:=uK ns h (many:=8) (by omega) (by omega);obtain ⟨e,q,i⟩:=Vw ns (h++[.int 0]) ZX (by simp [ZX]) (by rw [ao]; simp; omega);by_cases y:s=0;·subst y;have v:6<=sizeLine:=qQ (by omega);refine ⟨e,h++[.int 0]++[.int 0],.inr q,by simp; omega,λfb=>(sq u).trans ((sq o).trans (sq ?_))⟩;generalize Wd ws=W at *;unfold ZX at i;simp at i;simp [qx,qU,Y,eqD,eqN,eqS,v,i]
 ·refine ⟨.str w',h++[.int 0],.inl ⟨w',p,rfl⟩,by simp; omega,λfb=>(sq u).trans ((sq o).trans (sq ?_))⟩;generalize Wd ws=W at *;simp [qx,qU,Y,eqD,eqN,eqS,y]
abbrev owT:xU:=(qH (d2 GL (qu [.vl,.vl,.vl] qK (qc (qd 5) (qc (qd 2) (qc (qd 6) qA)))) (dC .non)))
abbrev owB:qR:=(jD 6 (d2 vh (qd 6) (dC (.int 1))))
theorem XT {W L:D} {R:Int} {T:List D} (h0:∀ f,1<=f->f < R->f ≥ 1->qK [W,L,.int f]=.ok (.non,[.non,.non,.non])\/True) (a b c e g h i j k l m n:Option D) (d:qK [W,L,.int R]=.ok (.tup T,[.non,.non,.non])):∀ (u:Nat) (f:Int),f<=R->R < f+u->(∀ x,f<=x->x < R->qK [W,L,.int x]=.ok (.non,[.non,.non,.non])) ->qP owT owB u [a,b,iF L,c,e,iF W,iF (.int f),g,h,i,j,k,l,m,n]=.ok (.nx,[a,b,iF L,c,e,iF W,iF (.int R),g,h,i,j,k,l,m,n])
 | 0,f,h1,h2,_=>by omega
 | u+1,f,h1,h2,hx=>by
  by_cases z:f=R;·subst z;simp [qP,qx,qU,d,GL]
  ·have e1:=hx f (by omega) (by omega);have p:=XT h0 a b c e g h i j k l m n d u (f+1) (by omega) (by omega) λx q o=>hx x (by omega) o;rw [<-p];simp [qP,qx,qU,e1,GL,vh]
abbrev dB1:qR:=(jD 12 (qu [.vl,.vl,.vl] Ka (qc (qd 5) (qc (qd 2) (qc (qd 11) qA)))))
abbrev dB2:qR:=(sIf (qH (d2 GL (qd 12) (dC .non))) (qG (jD 5 (d2 vh (qd 5) (uT (qc (qd 11) qA))))
  (qG (jD 6 (d2 qeJ (qd 6) (d1 jY (qd 5))))
  (qG (qP (qH (d2 GL (qu [.vl,.vl,.vl] qK (qc (qd 5) (qc (qd 2) (qc (qd 6) qA)))) (dC .non)))
  (jD 6 (d2 vh (qd 6) (dC (.int 1)))) 102)
  (jD 12 (qd 6))))) qX)
theorem qfN (m:qbw ca) (hl:Ug p q) (hg:Gd p q ws r hs) (hd:Got d) (a b O n few k l i u g f:Option D):∃ s r' j v,Gd p q s r' j/\eqN 8 v v=iF iK/\yB ca [wdD ca p q ws r hs,.int 0,d]=.ok (v,[wdD ca p q s r' j,.non,.non]) /\
   ∀ fb:qR,qG dB1 (qG dB2 fb) [a,b,iF (Ld p q),O,n,iF (Wd ws),iF (.int r),few,k,l,i,iF d,u,g,f]=fb [a,b,iF (Ld p q),O,n,iF (Wd s),iF (.int r'),few,k,l,i,iF d,iF v,g,f]:=by
 have y:uX (ca "Words") "come" (iF (iF (wdD ca p q ws r hs)))=true:=wK (by decide +kernel);have Z:∀ k:Int,eqN 8 (rf k) (rf k)=iF true:=λk=>by simp [eqN,wM,eqS]
 have no:∀ (k2:Int),Ka [Wd ws,Ld p q,d]=.ok (rf k2,[.non,.non,.non])->∀ fb:qR,qG dB1 (qG dB2 fb) [a,b,iF (Ld p q),O,n,iF (Wd ws),iF (.int r),few,k,l,i,iF d,u,g,f]=fb [a,b,iF (Ld p q),O,n,iF (Wd ws),iF (.int r),few,k,l,i,iF d,iF (rf k2),g,f]:=λk2 e fb=>by generalize Wd ws=W at *;generalize Ld p q=L at *;refine (sq (ρ1:=[a,b,iF L,O,n,iF W,iF (.int r),few,k,l,i,iF d,iF (rf k2),g,f]) (by simp [qx,qU,e])).trans (sq ?_);generalize qP owT owB 102=WH;simp [GL]
 rcases hd with ⟨w,hw,rfl⟩ | hd
 ·have h6:ws.length<=6:=by
   rcases hg with ⟨rfl,_,_⟩ | ⟨h,_⟩
   ·simp
   ·exact h.2.1
  have c:=qhV (ws:=ws) hw hl h6 λa b=>(hg.nx hw a b).1;rcases qfK (ca:=ca) hl hg hw with ⟨o,e⟩ | ⟨o,c2,e⟩ | ⟨o,c2,c3,c4,e⟩ | ⟨o,c2,c3,c4,R,j,Y,t,e⟩
  ·rw [if_pos o] at c;exact ⟨ws,r,hs,rf 8,hg,Z 8,VE _ _ y (by decide +kernel) e (Yy m),no 8 c⟩
  ·rw [if_neg o,if_pos c2] at c;exact ⟨ws,r,hs,rf 7,hg,Z 7,VE _ _ y (by decide +kernel) e (ZW m),no 7 c⟩
  ·rw [if_neg o,if_neg c2,if_neg c4] at c;exact ⟨ws,r,hs,rf 6,hg,Z 6,VE _ _ y (by decide +kernel) e (Yx m),no 6 c⟩
  ·rw [if_neg o,if_neg c2,if_pos c4] at c;refine ⟨ws++[w],R,j,.int R,t,Yz _ _,qhS _ _ _ _ y e,λfb=>?_⟩;have z1:1<=sizeLine:=qQ (by omega);have hz:ws.length+1<=sizeLine:=qQ (by omega);have X:vh (Wd ws) (.tup [.str w])=.ok (Wd (ws++[w])):=by simp [vh,hz]
   have U:jY (Wd (ws++[w]))=.ok (.int (ws.length+1)):=by simp [jY,Wd]
   obtain ⟨es,Q,_⟩:Nm p q (ws++[w]) R j:=by
    rcases t with ⟨z,_,_⟩ | ⟨_,_,_,_,h⟩
    ·simp at z
    ·exact h
   have r0:=(hg.nx hw o c2).2;have hup:=Y.up;have htop:=Y.top;have V:=Y.is.1;rw [ao] at V;simp at V;have F:=λ(A B C E G H I J K M N P:Option D)=>XT (W:=Wd (ws++[w])) (L:=Ld p q) (R:=R) (T:=prL es) (λ_ _ _ _=>.inr trivial) A B C E G H I J K M N P Q 102 (if r < (ws.length:Int)+1 then (ws.length:Int)+1 else r) (by split <;> omega) (by split <;> omega) λx x1 x2=>by
    have x3:r<=x/\(ws.length:Int)+1<=x:=by split at x1 <;> omega
    have hx:1<=x:=by omega
    rcases qhO c3 hl (r:=x) hx (by omega) with ⟨es2,hB,e2,e3⟩ | ⟨_,e2⟩
    ·exact (Y.least x (by omega) x2 ⟨e3,by obtain ⟨v,_,hv⟩:=hB.2.2.2;exact ⟨v,(λx hx=>by cases hx),hv⟩⟩).elim
    ·exact e2
   have S:qeJ (.int r) (.int ((ws.length:Int)+1))=.ok (.int (if r < (ws.length:Int)+1 then (ws.length:Int)+1 else r)):=rfl;clear Y t hg e no;generalize (if r < (ws.length:Int)+1 then (ws.length:Int)+1 else r)=f0 at *;generalize Wd ws=W at *;generalize Wd (ws++[w])=W' at *;generalize Ld p q=L at *;refine (sq (ρ1:=[a,b,iF L,O,n,iF W,iF (.int r),few,k,l,i,iF (.str w),iF .non,g,f]) (by simp [qx,qU,c])).trans (sq ?_);have F:qP (qH (d2 GL (qu [.vl,.vl,.vl] qK (qc (qd 5) (qc (qd 2) (qc (qd 6) qA)))) (dC .non))) (jD 6 (d2 vh (qd 6) (dC (.int 1)))) 102 [a,b,iF L,O,n,iF W',iF (.int f0),few,k,l,i,iF (.str w),iF .non,g,f]=.ok (.nx,[a,b,iF L,O,n,iF W',iF (.int R),few,k,l,i,iF (.str w),iF .non,g,f]):=F a b O n few k l i (iF (.str w)) (iF .non) g f;simp [GL,X,U,S,F,z1]
 ·have hno:=Kf d hd;exact ⟨ws,r,hs,rf 4,hg,Z 4,VE _ _ y (by decide +kernel) (qfL hno) (ge m),no 4 (qhU _ _ d hd)⟩
end
theorem Qe:∀ (ws:List Str) (hs:List Int),Ul (ws.map D.str) (hs.map D.int)=(ws.zip hs).map λx=>.tup [.str x.1,.int x.2]
 | [],_=>by simp [Ul]
 | _::_,[]=>by simp [Ul]
 | x::ws,i::hs=>by have j:=Qe ws hs;show D.tup [.str x,.int i]::Ul (ws.map D.str) (hs.map D.int)=_;rw [j];rfl
theorem qhX (k:Nat) (ws:List Str) (hs:List Int):eqN (k+2) (nmL ws hs) (nmL ws hs)=iF true:=qfG λd hd=>by
 rw [Qe] at hd;obtain ⟨x,_,rfl⟩:=ax.mp hd;exact zJ λd hd=>by
  rcases ae.mp hd with rfl | hd;·exact qdO _ _
  ·rw [aE.mp hd];exact Yz _ _
theorem qhY (k:Nat) (ws:List Str):eqN (k+1) (Wd ws) (Wd ws)=iF true:=zJ λd hd=>by obtain ⟨x,_,rfl⟩:=ax.mp hd;exact qdO _ _
variable {O:D}
section
abbrev nuB (ca:Str->Addr):qR:=(sIf (qH (d2 neD (qu [.sl 3,.vl,.vl] (yB ca) (jS (qc (dC (.int 1)) (qc (qd 11) qA)))) (qd 14))) (jz (dC (.bl iJ))) qX)
theorem qbr (a b c e f g h i j k l m:Option D):∀ (ps:List (Str×Int)) (x y:Option D),(∀ z∈ps,yB ca [O,.int 1,.str z.1]=.ok (.int z.2,[O,.non,.non])) ->∃ n s,vd (xj 2 (jr (gNm 11) (jr (gNm 14) xi))) (nuB ca) (ps.map λx=>.tup [.str x.1,.int x.2]) [a,b,c,iF O,e,f,g,h,i,j,k,x,l,m,y]=.ok (.nx,[a,b,c,iF O,e,f,g,h,i,j,k,n,l,m,s])
 | [],x,y,_=>⟨x,y,rfl⟩
 | z::ps,x,y,hz=>by have h1:=hz z (aq ..);obtain ⟨n,s,d⟩:=qbr a b c e f g h i j k l m ps (iF (.str z.1)) (iF (.int z.2)) λu o=>hz u (af _ o);refine ⟨n,s,(fnx (ρ1:=[a,b,c,iF O,e,f,g,h,i,j,k,iF (.str z.1),l,m,iF (.int z.2)]) (by simp [xj,jr,gNm,xi]) (ρ2:=[a,b,c,iF O,e,f,g,h,i,j,k,iF (.str z.1),l,m,iF (.int z.2)]) ?_).trans d⟩;simp [qx,qU,h1,neD,eqN,eqS]
theorem qfO (hg:Gd p q ws r hs):∀ z∈ws.zip hs,yB ca [wdD ca p q ws r hs,.int 1,.str z.1]=.ok (.int z.2,[wdD ca p q ws r hs,.non,.non]):=λz hz=>by
 have y:uX (ca "Words") "number" (iF (iF (wdD ca p q ws r hs)))=true:=wK (by decide +kernel);rcases hg with ⟨rfl,_,rfl⟩ | ⟨f,_,_,hl,_⟩
 ·cases hz
 ·obtain ⟨j,D,rfl⟩:=cX.mp hz;rw [List.getElem_zip];rw [List.length_zip] at D;exact qhT _ _ _ _ y (qbp f.2.2.1 f.2.2.2 hl (by omega))
abbrev dC1 (ca:Str->Addr):qR:=(sIf (dOr (qH (d2 neD (qu [.sl 3,.vl,.vl] (yB ca) (jS (qc (dC (.int 0)) (qc (qd 11) qA)))) (qd 12))) (dOr (qH (d2 neD (ji (ca "Words") 3 "words" [] (ku ca) qA) (qd 5))) (qH (d2 neD (ji (ca "Words") 3 "room" [] (kY ca) qA) (qd 6))))) (jz (dC (.bl iJ))) qX)
abbrev dC2:qR:=(sIf (qH (d2 neD (qd 5) (uT qA))) (jD 13 (qu [.vl,.vl,.vl,.vl] kG (qc (qd 5) (qc (qd 2) (qc (qd 6) (qc (qu [.vl,.vl,.vl] qK (qc (qd 5) (qc (qd 2) (qc (qd 6) qA)))) qA)))))) qX)
abbrev dC3 (ca:Str->Addr):qR:=(sIf (qH (d2 neD (ji (ca "Words") 3 "numbers" [] (jv ca) qA) (d2 kq (qd 5) (qd 13)))) (jz (dC (.bl iJ))) qX)
abbrev dC4 (ca:Str->Addr):qR:=(vN (qaC (ji (ca "Words") 3 "numbers" [] (jv ca) qA) (dC .non)))
abbrev dC5 (ca:Str->Addr):qR:=(Uj (qg5 (qc (qd 5) (qc (qd 13) qA))) (xj 2 (jr (gNm 11) (jr (gNm 14) xi))) (nuB ca))
theorem qfP {v:D} (hg:Gd p q ws r hs) (H:eqN 8 v v=iF iK) (o:yB ca [O,.int 0,d]=.ok (v,[wdD ca p q ws r hs,.non,.non])) (a b l few k j f e x:Option D):∃ c y,qG (dC1 ca) (qG (jD 13 (uT qA)) (qG dC2 (qG (dC3 ca) (qG (dC4 ca) (dC5 ca))))) [a,b,iF (Ld p q),iF O,l,iF (Wd ws),iF (.int r),few,k,j,f,iF d,iF v,e,x]
   = .ok (.nx,[a,b,iF (Ld p q),iF (wdD ca p q ws r hs),l,iF (Wd ws),iF (.int r),few,k,j,f,c,iF v,iF (.tup (hs.map D.int)),y]):=by
 have C:uX (ca "Words") "words" (iF (iF (wdD ca p q ws r hs)))=true:=wK (by decide +kernel);have G:uX (ca "Words") "room" (iF (iF (wdD ca p q ws r hs)))=true:=wK (by decide +kernel);have w:uX (ca "Words") "numbers" (iF (iF (wdD ca p q ws r hs)))=true:=wK (by decide +kernel);have J:=qbl (ca:=ca) (p:=p) (q:=q) (ws:=ws) (r:=r) (hs:=hs);have gr:=qdQ (ca:=ca) (p:=p) (q:=q) (ws:=ws) (r:=r) (hs:=hs);have t:=qbm (ca:=ca) (p:=p) (q:=q) (ws:=ws) (r:=r) (hs:=hs);have e1:=Jm H;have Q:=Jm (qhY 7 ws);have P:=Jm (Yz 8 r);have N:=Jm (qhX 6 ws hs);have A:=qdR ws;have K:kq (Wd ws) (.tup (hs.map D.int))=.ok (nmL ws hs):=rfl;have n:(Ul (ws.map D.str) (hs.map D.int)).length < 100000:=by
  rw [Qe,ai,List.length_zip];rcases hg with ⟨rfl,_,_⟩ | ⟨h,_⟩
  ·simp
  ·have:=h.2.1; omega
 obtain ⟨c,y,B⟩:=qbr (ca:=ca) (O:=wdD ca p q ws r hs) a b (iF (Ld p q)) l (iF (Wd ws)) (iF (.int r)) few k j f (iF v) (iF (.tup (hs.map D.int))) (ws.zip hs) (iF d) x (qfO hg);rw [<-Qe] at B;refine ⟨c,y,?_⟩;refine (sq (ρ1:=[a,b,iF (Ld p q),iF (wdD ca p q ws r hs),l,iF (Wd ws),iF (.int r),few,k,j,f,iF d,iF v,e,x]) ?_).trans ?_;·generalize wdD ca p q ws r hs=O' at *;generalize Wd ws=W at *;generalize Ld p q=L at *;simp [ji,qx,qU,o,C,G,J,gr,e1,Q,P]
 refine (sq (ρ1:=[a,b,iF (Ld p q),iF (wdD ca p q ws r hs),l,iF (Wd ws),iF (.int r),few,k,j,f,iF d,iF v,iF (.tup []),x]) (by simp)).trans ?_;refine (sq (ρ1:=[a,b,iF (Ld p q),iF (wdD ca p q ws r hs),l,iF (Wd ws),iF (.int r),few,k,j,f,iF d,iF v,iF (.tup (hs.map D.int)),x]) ?_).trans ?_
 ·rcases hg with ⟨z,_,z2⟩ | ⟨I,_,_,_,es,g,_,u⟩
  ·subst z z2;generalize wdD ca p q [] r []=O' at *;simp at A;simp [A]
  ·have z:ws≠[]:=λz=>by have:=I.1; rw [z] at this; simp at this
   rw [decide_eq_false z] at A;generalize wdD ca p q ws r hs=O' at *;generalize Wd ws=W at *;generalize Ld p q=L at *;generalize D.tup (prL es)=E at *;generalize D.tup (hs.map D.int)=U at *;simp [qx,qU,A,g,u]
 have m:∃ ds,nmL ws hs=.lst ds/\ds.length < 100000:=⟨_,rfl,n⟩
 refine (sq (ρ1:=[a,b,iF (Ld p q),iF (wdD ca p q ws r hs),l,iF (Wd ws),iF (.int r),few,k,j,f,iF d,iF v,iF (.tup (hs.map D.int)),x]) ?_).trans ?_;·generalize wdD ca p q ws r hs=O' at *;generalize Wd ws=W at *;generalize Ld p q=L at *;generalize D.tup (hs.map D.int)=U at *;generalize nmL ws hs=M at *;simp [ji,qx,qU,w,t,K,N]
 refine (sq (ρ1:=[a,b,iF (Ld p q),iF (wdD ca p q ws r hs),l,iF (Wd ws),iF (.int r),few,k,j,f,iF d,iF v,iF (.tup (hs.map D.int)),x]) ?_).trans ?_;·obtain ⟨ds,s,i⟩:=m;generalize wdD ca p q ws r hs=O' at *;generalize Wd ws=W at *;generalize Ld p q=L at *;generalize D.tup (hs.map D.int)=U at *;rw [s] at t;simp [qaC,ji,qx,qU,w,t,i]
 have hit:qg5 (qc (qd 5) (qc (qd 13) qA)) [a,b,iF (Ld p q),iF (wdD ca p q ws r hs),l,iF (Wd ws),iF (.int r),few,k,j,f,iF d,iF v,iF (.tup (hs.map D.int)),x]=.ok (Ul (ws.map D.str) (hs.map D.int),[a,b,iF (Ld p q),iF (wdD ca p q ws r hs),l,iF (Wd ws),iF (.int r),few,k,j,f,iF d,iF v,iF (.tup (hs.map D.int)),x]):=by simp [qg5,uU]
 unfold dC5;rw [zN,hit,uW];exact B
end
theorem XU {α:Type} [DecidableEq α]:∀ {a b:List α},a.Nodup->(∀ x∈a,x∈b)->a.length<=b.length
 | [],b,_,_=>be _
 | x::a,b,hn,h=>by have d:=aR.mp hn;have hx:=h x (aq ..);have j:=XU (b:=b.erase x) d.2 λy B=>(List.mem_erase_of_ne (λz=>d.1 (by rw [<-z]; exact B))).mpr (h y (af _ B));rw [dU hx] at j;have:=eX hx;rw [au];omega
noncomputable def SEVEN:List Str:=["zzzzzz", "yzzzzz", "zyzzzz", "zzyzzz", "zzzyzz", "zzzzyz", "zzzzzy"]
theorem qc7:∀ x∈SEVEN,Vx x:=by
 have h:∀ x∈SEVEN,1<=x.length/\x.length<=6/\∀ c∈x.cps.toList,97<=c/\c<=122:=by decide +kernel
 exact h
section
theorem qc8 (c:ws.length<=6):∃ x l,(SEVEN.filter λx=>!decide (x∈ws))=x::l/\Vx x/\x∉ws:=by
 cases e:SEVEN.filter λx=>!decide (x∈ws) with
 | nil=>
  rw [List.filter_eq_nil_iff] at e;have:=XU (a:=SEVEN) (b:=ws) (by decide +kernel) λx hx=>by have:=e x hx;simpa using this
  have h:SEVEN.length=7:=rfl;omega
 | cons x l=>
  have hx:x∈SEVEN.filter λx=>!decide (x∈ws):=by rw [e]; exact aq
  have:=cK.mp hx;exact ⟨x,l,rfl,qc7 x this.1,by simpa using this.2⟩
abbrev lwC:jg:=(jh [4,3,1] 1 [5] (jU (qd 9)) (gNm 0) (qH (d2 JL (qd 0) (qd 1))) (qd 0))
theorem ZY (h:ρ[9]?=iF (iF (.tup (SEVEN.map D.str)))) (g:ρ[5]?=iF (iF (Wd ws))):lwC ρ=.ok (.lst ((SEVEN.filter λx=>!decide (x∈ws)).map D.str),ρ):=by have e:=XC (own:=[4,3,1]) (cap:=[5]) (fi:=jU (qd 9)) (ft:=qH (d2 JL (qd 0) (qd 1))) (fe:=qd 0) (ρ:=ρ) (ρ1:=ρ) (ds:=SEVEN.map D.str) (λd=>match d with | .str x=>!decide (x∈ws) | _=>iJ) (λd=>d) (by decide) (by simp [h,jI]) (qQ (by decide)) (λd hd=>by obtain ⟨x,_,rfl⟩:=ax.mp hd;simp [g,JL,Uy,inD,ky]) (λd hd _=>by simp);rw [iB,hJ] at e;exact e
abbrev laB (ca:Str->Addr):qR:=qG dA1 (qG dA2 (qG dA3 (qG dB1 (qG dB2 (qG (dC1 ca) (qG (jD 13 (uT qA)) (qG dC2 (qG (dC3 ca) (qG (dC4 ca) (dC5 ca))))))))))
theorem qbs (o:qbw ca) (hl:Ug p q) (ns:List Int) (f0:0 < few) (f1:few<=26) (l j f:Option D):∀ (ds:List D) (town:List D) (ws:List Str) (r:Int) (hs:List Int) (k m e c b:Option D),Gd p q ws r hs->town.length+12 * ds.length < 800 ->∃ a s r' g k' i C B y,Gd p q s r' g/\a.length<=town.length+12 * ds.length/\vd (gNm 8) (laB ca) ds [iF (scr ns),iF (.lst town),iF (Ld p q),iF (wdD ca p q ws r hs),l,iF (Wd ws),iF (.int r),iF (.int few),k,j,f,m,e,c,b]
   = .ok (.nx,[iF (scr ns),iF (.lst a),iF (Ld p q),iF (wdD ca p q s r' g),l,iF (Wd s),iF (.int r'),iF (.int few),k',j,f,i,C,B,y])
 | [],town,ws,r,hs,k,m,e,c,b,hg,ht=>⟨town,ws,r,hs,k,m,e,c,b,hg,by simp,rfl⟩
 | d0::ds,town,ws,r,hs,k,m,e,c,b,hg,ht=>by
  rw [au] at ht;have W:∀ x∈ws,Vx x:=by
   rcases hg with ⟨rfl,_,_⟩ | ⟨h,_⟩
   ·simp
   ·exact h.2.2.2
  obtain ⟨d,t,hd,M,s1⟩:=qhW ns (town:=town) (by omega) f0 f1 W (iF (Ld p q)) (iF (wdD ca p q ws r hs)) l (.int r) (iF d0) j f m e c b;obtain ⟨s,r',g,v,n,K,I,s2⟩:=qfN o hl hg hd (iF (scr ns)) (iF (.lst t)) (iF (wdD ca p q ws r hs)) l (iF (.int few)) (iF d0) j f e c b;obtain ⟨i,y,s3⟩:=qfP (O:=wdD ca p q ws r hs) n K I (iF (scr ns)) (iF (.lst t)) l (iF (.int few)) (iF d0) j f c b;obtain ⟨a,E,r2,G,k',A,w,u,z,H,L,J⟩:=qbs o hl ns f0 f1 l j f ds t s r' g (iF d0) i (iF v) (iF (.tup (g.map D.int))) y n (by omega);refine ⟨a,E,r2,G,k',A,w,u,z,H,by rw [au]; omega,(fnx (ρ1:=[iF (scr ns),iF (.lst town),iF (Ld p q),iF (wdD ca p q ws r hs),l,iF (Wd ws),iF (.int r),iF (.int few),iF d0,j,f,m,e,c,b]) rfl ((s1 _).trans ((s2 _).trans s3))).trans J⟩
theorem qhZ (m:qbw ca) (n:List Int):qcS ca [scr n]=.ok (.bl iK,[.non]):=by
 refine runD_ap.trans ?_;obtain ⟨p,q,f,hl,s,g1⟩:=qfk n [] (by simp);rw [aY] at s;have hi:=qfH (ca:=ca) hl;obtain ⟨fd,j,Y⟩:=Vw n f [.int 2,.int 4,.int 8] (by simp) (by omega);obtain ⟨few,rfl,f0,f1⟩:∃ few:Int,fd=.int few/\0 < few/\few<=26:=by
  simp only [ae,aU,or_false] at j;rcases j with rfl | rfl | rfl;·exact ⟨2,rfl,by omega,by omega⟩
  ·exact ⟨4,rfl,by omega,by omega⟩
  ·exact ⟨8,rfl,by omega,by omega⟩
 obtain ⟨e,U,n1,Q⟩:=uK n (f++[.int 0]) (many:=16) (by omega) (by rw [ao]; simp; omega);have I:3<=sizeLine:=qQ (by omega);have A:7<=sizeLine:=qQ (by omega);have H:5<=sizeLine:=qQ (by omega);have z2:2<=sizeLine:=qQ (by omega);have a:(VG 0 e.toNat).length=e.toNat:=by simp [VG]
 have T:-(2 ^ 62:Int)<=e/\e < 2 ^ 62:=by omega
 obtain ⟨G,ws,r,hs,k',c,C,B,y,hg,u,v⟩:=qbs (ca:=ca) m hl n f0 f1 (iF (wdD ca p q [] 0 [])) iH iH (VG 0 e.toNat) (f++[.int 0]++[.int 0]) [] 0 [] iH iH iH iH iH (.inl ⟨rfl,rfl,rfl⟩) (by rw [a]; simp; omega);rw [a] at u;simp at u;have M:ws.length<=6:=by
  rcases hg with ⟨rfl,_,_⟩ | ⟨h,_⟩
  ·simp
  ·exact h.2.1
 obtain ⟨x,l,hx,w,k⟩:=qc8 M;have z:=λ{ρ:Sl} h9 h5=>ZY (ws:=ws) (ρ:=ρ) h9 h5;rw [hx] at z;have i:uX (ca "Words") "number" (iF (iF (wdD ca p q ws r hs)))=true:=wK (by decide +kernel);obtain ⟨t,g,P⟩:=Vw n G [.non,.str x,.str "",.int 1,.str "A"] (by simp) (by omega);have b:yB ca [wdD ca p q ws r hs,.int 1,t]=.ok (rf 4,[wdD ca p q ws r hs,.non,.non]):=by
  have o:∀ d∈ZX,yB ca [wdD ca p q ws r hs,.int 1,d]=.ok (rf 4,[wdD ca p q ws r hs,.non,.non]):=λd hd=>qbq _ _ i (by decide +kernel) (qbn (Kf d hd)) (ge m);simp only [ae,aU,or_false] at g;rcases g with rfl | rfl | rfl | rfl | rfl;·exact o _ (by simp [ZX])
  ·exact qbq _ _ i (by decide +kernel) (qbo w k) (ge m)
  ·exact o _ (by simp [ZX])
  ·exact o _ (by simp [ZX])
  ·exact o _ (by simp [ZX])
 have J:uX (ca "Words") "words" (iF (iF (wdD ca p q [] 0 [])))=true:=wK (by decide +kernel);have K:uX (ca "Words") "room" (iF (iF (wdD ca p q [] 0 [])))=true:=wK (by decide +kernel);have N:=qbl (ca:=ca) (p:=p) (q:=q) (ws:=[]) (r:=0) (hs:=[]);have gr:=qdQ (ca:=ca) (p:=p) (q:=q) (ws:=[]) (r:=0) (hs:=[]);have e1:neD (rf 4) (rf 4)=.ok (.bl iJ):=Jm (by simp [eqN,wM,eqS]);have S:eqD (Wd []) (.tup [])=.ok (.bl iK):=by simp [eqD,eqN,wM]
 have R:eqD (.int 0) (.int 0)=.ok (.bl iK):=by simp [eqD,eqN,eqS]
 unfold qfg;rw [show qp qff [scr n]=[iF (scr n),iH,iH,iH,iH,iH,iH,iH,iH,iH,iH,iH,iH,iH,iH] from rfl];refine (qE (ρ1:=[iF (scr n),iF (.lst []),iH,iH,iH,iH,iH,iH,iH,iH,iH,iH,iH,iH,iH]) (by simp)).trans ?_;refine (qE (ρ1:=[iF (scr n),iF (.lst f),iF (Ld p q),iH,iH,iH,iH,iH,iH,iH,iH,iH,iH,iH,iH]) (by simp [qx,qU,g1])).trans ?_;refine (qE (ρ1:=[iF (scr n),iF (.lst f),iF (Ld p q),iF (wdD ca p q [] 0 []),iH,iH,iH,iH,iH,iH,iH,iH,iH,iH,iH]) (by generalize wdD ca p q [] 0 []=O at *;generalize Ld p q=L at *;simp [ZI,qx,qU,hi])).trans ?_;refine (qE (ρ1:=[iF (scr n),iF (.lst f),iF (Ld p q),iF (wdD ca p q [] 0 []),iF (wdD ca p q [] 0 []),iH,iH,iH,iH,iH,iH,iH,iH,iH,iH]) (by generalize wdD ca p q [] 0 []=O at *;generalize Ld p q=L at *;simp [ZI,qx,qU,hi])).trans ?_;refine (qE (ρ1:=[iF (scr n),iF (.lst f),iF (Ld p q),iF (wdD ca p q [] 0 []),iF (wdD ca p q [] 0 []),iF (Wd []),iH,iH,iH,iH,iH,iH,iH,iH,iH]) (by simp)).trans ?_;refine (qE (ρ1:=[iF (scr n),iF (.lst f),iF (Ld p q),iF (wdD ca p q [] 0 []),iF (wdD ca p q [] 0 []),iF (Wd []),iF (.int 0),iH,iH,iH,iH,iH,iH,iH,iH]) (by simp)).trans ?_;refine (qE (ρ1:=[iF (scr n),iF (.lst (f++[.int 0])),iF (Ld p q),iF (wdD ca p q [] 0 []),iF (wdD ca p q [] 0 []),iF (Wd []),iF (.int 0),iF (.int few),iH,iH,iH,iH,iH,iH,iH]) (by generalize wdD ca p q [] 0 []=O at *;generalize Ld p q=L at *;simp [qx,qU,Y,I])).trans ?_;refine (qE (ρ1:=[iF (scr n),iF (.lst G),iF (Ld p q),iF (wdD ca p q ws r hs),iF (wdD ca p q [] 0 []),iF (Wd ws),iF (.int r),iF (.int few),k',iH,iH,c,C,B,y]) (by
  have hit:kZ (qu [.vl,.sl 1,.vl] kx (qc (qd 0) (jS (qc (dC (.int 16)) qA)))) [iF (scr n),iF (.lst (f++[.int 0])),iF (Ld p q),iF (wdD ca p q [] 0 []),iF (wdD ca p q [] 0 []),iF (Wd []),iF (.int 0),iF (.int few),iH,iH,iH,iH,iH,iH,iH]=.ok (VG 0 e.toNat,[iF (scr n),iF (.lst (f++[.int 0]++[.int 0])),iF (Ld p q),iF (wdD ca p q [] 0 []),iF (wdD ca p q [] 0 []),iF (Wd []),iF (.int 0),iF (.int few),iH,iH,iH,iH,iH,iH,iH]):=by generalize wdD ca p q [] 0 []=O at *;generalize Ld p q=L at *;generalize f++[.int 0]=t2 at *;simp [kZ,qx,qU,Q,-Int.reducePow,T]
  rw [zN,hit,uW];exact v)).trans ?_
 clear v hi;generalize wdD ca p q ws r hs=O at *;generalize wdD ca p q [] 0 []=O2 at *;generalize Ld p q=L at *;refine (qE (ρ1:=[iF (scr n),iF (.lst G),iF L,iF O,iF O2,iF (Wd ws),iF (.int r),iF (.int few),k',iF (.tup (SEVEN.map D.str)),iH,c,C,B,y]) (by simp [SEVEN,A])).trans ?_;refine (qE (ρ1:=[iF (scr n),iF (.lst G),iF L,iF O,iF O2,iF (Wd ws),iF (.int r),iF (.int few),k',iF (.tup (SEVEN.map D.str)),iF (.str x),c,C,B,y]) (by have h1:jh [4,3,1] 1 [5] (jU (qd 9)) (gNm 0) (qH (d2 JL (qd 0) (qd 1))) (qd 0) [iF (scr n),iF (.lst G),iF L,iF O,iF O2,iF (Wd ws),iF (.int r),iF (.int few),k',iF (.tup (SEVEN.map D.str)),iH,c,C,B,y]=_:=z rfl rfl;generalize D.tup (SEVEN.map D.str)=S7 at *;generalize Wd ws=W at *;simp [h1,ixD,at0])).trans ?_;generalize D.tup (SEVEN.map D.str)=S7 at *;generalize Wd ws=W at *;generalize V:Wd []=E at *;refine (qE (ρ1:=[iF (scr n),iF (.lst (G++[.int 0])),iF L,iF O,iF O2,iF W,iF (.int r),iF (.int few),k',iF S7,iF (.str x),c,C,B,y]) ?_).trans ?_;·have b:yB ca [O,.int 1,t]=.ok (.tup [.str "refused",.int 4],[O,.non,.non]):=b;have e1:neD (.tup [.str "refused",.int 4]) (.tup [.str "refused",.int 4])=.ok (.bl iJ):=e1;simp [qx,qU,P,H,z2,b,e1]
 ·simp [ji,J,K,qx,qU,N,gr,S,R,jO,qm]
end
end Kx
namespace Kx
open PySem PySem.Spec PyProof.Rows L2 L2.D2
variable {us:List iI} {P:List iI->Prop}
theorem qj5 (hl:us.length=0) (h:P []):P us:=d9.mp hl ▸ h
theorem qh0 {n:Nat} (hl:us.length=n+1):∃ a l,us=a::l/\l.length=n:=by
 cases us with
 | nil=>cases hl
 | cons a l=>exact ⟨a,l,rfl,Nat.succ.inj hl⟩
theorem qh1 (hl:us.length=1) (h:∀ a,P [a]):P us:=by obtain ⟨a,l,rfl,e⟩:=qh0 hl;exact qj5 (P:=λl=>P (a::l)) e (h a)
theorem qfW (hl:us.length=2) (h:∀ a b,P [a,b]):P us:=by obtain ⟨a,l,rfl,e⟩:=qh0 hl;exact qh1 (P:=λl=>P (a::l)) e (h a)
theorem qj6 (hl:us.length=3) (h:∀ a b c,P [a,b,c]):P us:=by obtain ⟨a,l,rfl,e⟩:=qh0 hl;exact qfW (P:=λl=>P (a::l)) e (h a)
theorem qj7 (hl:us.length=4) (h:∀ a b c d,P [a,b,c,d]):P us:=by obtain ⟨a,l,rfl,e⟩:=qh0 hl;exact qj6 (P:=λl=>P (a::l)) e (h a)
theorem qkE (hl:us.length=5) (h:∀ a b c d e,P [a,b,c,d,e]):P us:=by obtain ⟨a,l,rfl,e⟩:=qh0 hl;exact qj7 (P:=λl=>P (a::l)) e (h a)
variable {K:Frag} {h:Heap} {mg:Str->Option iI}
theorem qfQ (X:K.In h) (G:h.Ns mainGlobals mg) {x:Str} {st:Stmt} {ps:List Str} {f:Addr} {oc:iI} {od an:Option Addr} {osl:Array (Option iI)} {kV doc pm cdv ct:iI}
  (a:nsIn K mainGlobals x=iF (iF (.ref f))) (l:K.lookup f=iF ⟨oc,od,.func (bO x x (wZ st) (ka st) (ql st) .none kV doc pm an cdv ct),osl⟩) (c:codeIn K cdv x=iK) (k:keepIn K (.ref f)=iK)
  (d:∀ (kV doc pm:iI) (an:Option Addr) (cdv ct:iI) (us:List iI),us.length=ps.length->bindArgs (bO x x (wZ st) (ka st) (ql st) .none kV doc pm an cdv ct) ⟨us,[]⟩=pure (ps.zip us)):vQ K mg x st ps:=
 ⟨f,_,kR l c k,lu X G a,(kR l c k).binds d⟩
variable {x:Str}
theorem qbt {l:List Str} {f:Str->Addr} (nd:(l.map f).Nodup) {y:Str} (hx:x∈l) (B:y∈l) (e:f x=f y):x=y:=by obtain ⟨i,hi,rfl⟩:=cX.mp hx;obtain ⟨j,D,rfl⟩:=cX.mp B;have q:=(fh (h₀:=by simpa using hi) (h₁:=by simpa using D) nd).mp (show (l.map f)[i]'(by simpa using hi)=(l.map f)[j]'(by simpa using D) by simpa using e);subst q;rfl
noncomputable def caT (T:List (Str×Addr)) (x:Str):Addr:=(T.lookup x).getD 0
noncomputable def qc9 (K:Frag) (Cs:List Addr) (W:Addr):Bool:=decide Cs.Nodup&&Cs.all λc=>xcB K c&&decide (dI K (.ref c) (.ref W)=iF iK)&&decide (bX K (.ref c) (.type "ValueError")=iF iK)&&dR K c bmV "ValueError.__new__"&&Cs.all λd=>decide (bX K (.ref c) (.ref d)=iF (decide (c=d)))
theorem qda {Cs:List Addr} {W:Addr} (h:qc9 K Cs W=iK):Cs.Nodup/\∀ c∈Cs,xcB K c=iK/\dI K (.ref c) (.ref W)=iF iK/\bX K (.ref c) (.type "ValueError")=iF iK/\dR K c bmV "ValueError.__new__"=iK/\∀ d∈Cs,bX K (.ref c) (.ref d)=iF (decide (c=d)):=by unfold qc9 at h;rw [aM,aL] at h;refine ⟨of_decide_eq_true h.1,λc a=>?_⟩;have q:=h.2 c a;simp only [aM,decide_eq_true_eq,aL] at q;exact ⟨q.1.1.1.1,q.1.1.1.2,q.1.1.2,q.1.2,q.2⟩
noncomputable def ZS:List Str:=["ValueError", "all", "bool", "dict", "enumerate", "int", "isinstance", "len", "list", "max", "min", "range", "set", "sorted", "str", "sum", "tuple", "zip"]
noncomputable def zsB (K:Frag):Bool:=ZS.all λx=>decide (nsIn K mainGlobals x=iF iH)
theorem uY (h:zsB K=iK) (x:Str) (hx:x∈ZS:=by decide +kernel):nsIn K mainGlobals x=iF none:=of_decide_eq_true (aL.mp h x hx)
theorem qh2 {c:Str} (h:c∈CS):c = "NoWords"\/c = "NoLook"\/c = "NoNumbers"\/c = "NoRoom"\/c = "NoWord"\/c = "NoWorths"\/c = "Never"\/c = "Full"\/c = "Known":=by simpa [CS] using h
theorem qjG (X:K.In h) (G:h.Ns mainGlobals mg) {CW C q p o m l k j i g:Addr}  {E t a M S:Tok}
    (Q:nsIn K mainGlobals "WordError"=iF (iF (.ref CW)))
    (a0:nsIn K mainGlobals "NoWords"=iF (iF (.ref q)))
    (a1:nsIn K mainGlobals "NoLook"=iF (iF (.ref p)))
    (a2:nsIn K mainGlobals "NoNumbers"=iF (iF (.ref o)))
    (a3:nsIn K mainGlobals "NoRoom"=iF (iF (.ref m)))
    (a4:nsIn K mainGlobals "NoWord"=iF (iF (.ref l)))
    (F:nsIn K mainGlobals "NoWorths"=iF (iF (.ref k)))
    (Z:nsIn K mainGlobals "Never"=iF (iF (.ref j)))
    (Y:nsIn K mainGlobals "Full"=iF (iF (.ref i)))
    (V:nsIn K mainGlobals "Known"=iF (iF (.ref g)))
    (z:zsB K=iK)
    (c_LEAST_PLACE:nsIn K mainGlobals "LEAST_PLACE"=iF (iF (.int (-3) E)))
    (c_MOST_LETTERS:nsIn K mainGlobals "MOST_LETTERS"=iF (iF (.int 6 t)))
    (c_MOST_PLACE:nsIn K mainGlobals "MOST_PLACE"=iF (iF (.int 2 a)))
    (c_MOST_ROOM:nsIn K mainGlobals "MOST_ROOM"=iF (iF (.int 99 M)))
    (c_MOST_WORDS:nsIn K mainGlobals "MOST_WORDS"=iF (iF (.int 6 S)))
    (ex:qc9 K [q,p,o,m,l,k,j,i,g] CW=iK)
    (R:nsIn K mainGlobals "Words"=iF (iF (.ref C)))
    (P:c7 K C iC=iK)
    (O:dD K C=iK)
    (N:ei K C=iK)
    (L:aO K (.ref C) "__setattr__"=iF (iF (.builtin "object.__setattr__")))
    (U:aO K (.ref C) "look"=iF iH)
    (n1:aO K (.ref C) "came"=iF iH)
    (n2:aO K (.ref C) "width"=iF iH)
    (I:aO K (.ref C) "held"=iF iH)
     :
    Zt K mg (λx=>.ref (caT [("WordError",CW),("NoWords",q),("NoLook",p),("NoNumbers",o),("NoRoom",m),("NoWord",l),("NoWorths",k),("Never",j),("Full",i),("Known",g),("Words",C)] x)) (caT [("WordError",CW),("NoWords",q),("NoLook",p),("NoNumbers",o),("NoRoom",m),("NoWord",l),("NoWorths",k),("Never",j),("Full",i),("Known",g),("Words",C)])/\qbw (caT [("WordError",CW),("NoWords",q),("NoLook",p),("NoNumbers",o),("NoRoom",m),("NoWord",l),("NoWorths",k),("Never",j),("Full",i),("Known",g),("Words",C)])/\caT [("WordError",CW),("NoWords",q),("NoLook",p),("NoNumbers",o),("NoRoom",m),("NoWord",l),("NoWorths",k),("Never",j),("Full",i),("Known",g),("Words",C)] "Words"=C:=by
  obtain ⟨nd,al⟩:=qda ex;generalize hT:([("WordError",CW),("NoWords",q),("NoLook",p),("NoNumbers",o),("NoRoom",m),("NoWord",l),("NoWorths",k),("Never",j),("Full",i),("Known",g),("Words",C)]:List (Str×Addr))=T;have W:caT T "WordError"=CW:=by subst hT; kernel_rfl
  have eB:caT T "Words"=C:=by subst hT; kernel_rfl
  have e0:caT T "NoWords"=q:=by subst hT; kernel_rfl
  have e1:caT T "NoLook"=p:=by subst hT; kernel_rfl
  have H:caT T "NoNumbers"=o:=by subst hT; kernel_rfl
  have D:caT T "NoRoom"=m:=by subst hT; kernel_rfl
  have B:caT T "NoWord"=l:=by subst hT; kernel_rfl
  have A:caT T "NoWorths"=k:=by subst hT; kernel_rfl
  have w:caT T "Never"=j:=by subst hT; kernel_rfl
  have v:caT T "Full"=i:=by subst hT; kernel_rfl
  have u:caT T "Known"=g:=by subst hT; kernel_rfl
  have s:CS.map (caT T)=[q,p,o,m,l,k,j,i,g]:=by unfold CS;simp only [aJ,cU,e0,e1,H,D,B,A,w,v,u]
  have n:∀ c∈CS,caT T c∈[q,p,o,m,l,k,j,i,g]:=λc b=>s ▸ ax.mpr ⟨c,b,rfl⟩;refine ⟨⟨⟨λc b=>rfl,λc b=>?_,λc b=>(al _ (n c b)).1,λc b d hd=>(al _ (n c b)).2.2.2.2 _ (n d hd),λc b=>(al _ (n c b)).2.2.1⟩,λc b=>?_,λc b=>(al _ (n c b)).2.2.2.1,λx hx=>absurd hx (by simp [FS]),?_,iY X G (uY z "ValueError"),iY X G (uY z "all"),iY X G (uY z "bool"),iY X G (uY z "dict"),iY X G (uY z "enumerate"),iY X G (uY z "int"),iY X G (uY z "isinstance"),iY X G (uY z "len"),iY X G (uY z "list"),iY X G (uY z "max"),iY X G (uY z "min"),iY X G (uY z "range"),iY X G (uY z "set"),iY X G (uY z "sorted"),iY X G (uY z "str"),iY X G (uY z "sum"),iY X G (uY z "tuple"),iY X G (uY z "zip"),⟨_,lu X G c_LEAST_PLACE⟩,⟨_,lu X G c_MOST_LETTERS⟩,⟨_,lu X G c_MOST_PLACE⟩,⟨_,lu X G c_MOST_ROOM⟩,⟨_,lu X G c_MOST_WORDS⟩,?mB,?bC,?bN⟩,?cO,eB⟩
  case mB=>rw [eB]; exact lu X G R
  case bC=>rw [eB]; exact ⟨P,O,N,L⟩
  case bN=>
    rw [eB];intro f r;have r:f = "look"\/f = "came"\/f = "width"\/f = "held":=by simpa using r
    rcases r with rfl | rfl | rfl | rfl;· exact U
    · exact n1
    · exact n2
    · exact I
  · show dI K (.ref (caT T c)) (.ref (caT T "WordError"))=iF iK;rw [W];exact (al _ (n c b)).2.1
  · rcases qh2 b with rfl | rfl | rfl | rfl | rfl | rfl | rfl | rfl | rfl;· rw [e0]; exact lu X G a0
    · rw [e1]; exact lu X G a1
    · rw [H]; exact lu X G a2
    · rw [D]; exact lu X G a3
    · rw [B]; exact lu X G a4
    · rw [A]; exact lu X G F
    · rw [w]; exact lu X G Z
    · rw [v]; exact lu X G Y
    · rw [u]; exact lu X G V
  · show mg "WordError"=iF (.ref (caT T "WordError"));rw [W];exact lu X G Q
  case cO=>
    intro x hx y J e;rw [<-s] at nd;exact qbt nd hx J e
structure Tx (K:Frag) (mg:Str->Option iI) (ca:Str->Addr):Prop where
 x_is_between:vQ K mg "is_between" vV vW
 x_check_room:vQ K mg "check_room" vY ["thing"]
 x_is_letter:vQ K mg "is_letter" ud ["thing"]
 x_is_worth:vQ K mg "is_worth" yO yP
 x_is_worths:vQ K mg "is_worths" ue uf
 x_check_worths:vQ K mg "check_worths" kK kL
 x_is_word:vQ K mg "is_word" zk ["thing"]
 x_is_words:vQ K mg "is_words" yS ["thing"]
 x_check_words:vQ K mg "check_words" vm ["thing"]
 x_is_look:vQ K mg "is_look" zm ["thing"]
 x_check_look:vQ K mg "check_look" wa ["thing"]
 x_letter_at:vQ K mg "letter_at" ul um
 x_pairs:vQ K mg "pairs" KW KY
 x_letters_of:vQ K mg "letters_of" wc ["seen"]
 x_within:vQ K mg "within" gY gZ
 x_numbered:vQ K mg "numbered" yT yU
 x_is_loose:vQ K mg "is_loose" yW yX
 x_bound_pairs:vQ K mg "bound_pairs" vo vp
 x_unshared:vQ K mg "unshared" yY yZ
 x_contrasts_of:vQ K mg "contrasts_of" kM ["seen"]
 x_may_differ:vQ K mg "may_differ" we wf
 x_with_worth:vQ K mg "with_worth" wg wj
 x_can_be_filled:vQ K mg "can_be_filled" jK jM
 x_can_differ:vQ K mg "can_differ" wl wm
 x_least_worths:vQ K mg "least_worths" kN kO
 x_one_to_one:vQ K mg "one_to_one" wn wo
 x_Words_numbers:zO K (ca "Words") "numbers" "Words.numbers" ju ["self"]
 x_Words_words:zO K (ca "Words") "words" "Words.words" jP ["self"]
 x_Words___init__:qe4 K (ca "Words") "Words.__init__" jk va
 x_Words_room:zO K (ca "Words") "room" "Words.room" kh ["self"]
 x_Lcell_at:vQ K mg "_law_cell_at" xa kP
 x_Lmixed:vQ K mg "_law_mixed" Qb wp
 x_Ldraw:vQ K mg "_law_draw" Vk uA
 x_Lpick:vQ K mg "_law_pick" Vl uB
 x_Lword:vQ K mg "_law_word" Vo uC
 x_Llook:vQ K mg "_law_look" Vq uD
 x_are_alike:vQ K mg "are_alike" uE uF
 x_clash_of:vQ K mg "clash_of" xb ["seen"]
 x_room_from:vQ K mg "room_from" uI uJ
 x_check_word:vQ K mg "check_word" wq ["thing"]
 x_Words_check_new:zO K (ca "Words") "check_new" "Words.check_new" jd jQ
 x_Words_come:zO K (ca "Words") "come" "Words.come" ki wx
 x_Words_number:zO K (ca "Words") "number" "Words.number" jF kQ
 x_Lwhich:vQ K mg "_law_which" Qc ["_law_e"]
 x_Ldo:vQ K mg "_law_do" qcP zB
 x_clash:vQ K mg "clash" Vu Vv
 x_Ldue:vQ K mg "_law_due" XB xf
variable {ca:Str->Addr}
theorem qh3 {e0:Ev} {f:Addr} {fd:k4} (Z:ZtE e0 ca) (T:Tx e0.K e0.mg ca) (F:Fun e0.K "law" "law" qa4 f fd):FnOk e0.P e0.w e0.K e0.mg e0.base (CXk e0.P e0.w) 21 f fd ["_law_script"] (spD e0.K e0.cv [.val] .sh (qcS ca)):=by have n:=KO Z T.x_is_between ;have m:=KR Z T.x_check_room n;have c:=WL Z T.x_is_letter ;have M:=UV Z T.x_is_worth n c;have H:=WM Z T.x_is_worths M;have q:=QV Z T.x_check_worths H;have d:=ZN Z T.x_is_word c;have N:=UX Z T.x_is_words d;have u:=Jv Z T.x_check_words N;have S:=ZP Z T.x_is_look n;have k:=KU Z T.x_check_look S;have G:=WP Z T.x_letter_at ;have b:=qcH Z T.x_pairs u k G;have o:=Va Z T.x_letters_of ;have U:=qaV Z T.x_within ;have j:=UZ Z T.x_numbered m q b o U;have O:=Yb Z T.x_is_loose ;have v:=Jw Z T.x_bound_pairs O;have J:=Yc Z T.x_unshared ;have p:=Jc Z T.x_contrasts_of J;have A:=Vc Z T.x_may_differ ;have y:=Vd Z T.x_with_worth ;have h:=gN Z T.x_can_be_filled A y;have r:=Ve Z T.x_can_differ o v p h;have L:=Jx Z T.x_with_worth ;have s:=Jd Z T.x_least_worths o L r;have z:=Vf Z T.x_one_to_one m b r s;have i:=gP Z T.x_Words_numbers ;have x:=Jz Z T.x_Words_words ;have e:=zY Z T.x_Words___init__ k;have C:=Vh Z T.x_Words_room ;have R:=Ye Z T.x_Lcell_at ;have W:=qaW Z T.x_Lmixed R;have g:=qcJ Z T.x_Ldraw W;have Q:=qcL Z T.x_Lpick g;have Y:=qcM Z T.x_Lword g Q;have o_Llook:=qcO Z T.x_Llook g;have I:=WT Z T.x_are_alike ;have l:=Yk Z T.x_clash_of I;have E:=WU Z T.x_room_from r;have B:=Vs Z T.x_check_word d;have a:=zy Z T.x_Words_check_new B;have D:=Vt Z T.x_Words_come b j l s E a;have t:=Jh Z T.x_Words_number d;have V:=qa1 Z T.x_Lwhich ;have o_Ldo:=qhm Z T.x_Ldo t D V;have X:=qcR Z T.x_clash b l;have o_Ldue:=qfe Z T.x_Ldue X;exact qho Z F j z i x e C g Q Y o_Llook o_Ldo o_Ldue
def qdb (K:Frag):Sp:=λvs H Q _=>∃ (a:Addr) (ns:List Int),vs=[.ref a]/\SqL K H a (ns.map V.int)/\∀ H',Q (.bl iK) H'
theorem XV {F:Hp}:∀ ns:List Int,IsL K F (ns.map V.int) (ns.map D.int)
 | []=>.nil
 | n::ns=>.cons (.int n) (XV ns)
theorem qjH {cv:Str->iI} (h:qbw ca) (vs:List V) (H:Hp) (Q:VK) (E:XK) (q:qdb K vs H Q E):spD K cv [.val] .sh (qcS ca) vs H Q E:=by obtain ⟨a,ns,rfl,hs,hq⟩:=q;refine ⟨H,[scr ns],Same.refl _,⟨.lst hs (XV ns),trivial⟩,dJ,?_⟩;rw [qhZ h ns];intro v F' H' m k z b;have b:Is K F' v (.bl iK):=b;cases b;exact hq H'
abbrev NsX (K:Frag) (x:Str) (f:Addr):Prop:=nsIn K mainGlobals x=iF (iF (.ref f))
abbrev CdX (K:Frag) (v:iI) (x:Str):Prop:=codeIn K v x=iK
abbrev KpX (K:Frag) (f:Addr):Prop:=keepIn K (.ref f)=iK
abbrev LkX (K:Frag) (x:Str) (st:Stmt) (f:Addr) (oc:iI) (od an:Option Addr) (sl:Array (Option iI)) (kV d pm cd ct:iI):Prop:=K.lookup f=iF ⟨oc,od,.func (bO x x (wZ st) (ka st) (ql st) .none kV d pm an cd ct),sl⟩
def Dx (K:Frag) (x:Str) (st:Stmt):Prop:=∃ (f:Addr) (oc:iI) (od an:Option Addr) (sl:Array (Option iI)) (kV d pm cd ct:iI),NsX K x f/\LkX K x st f oc od an sl kV d pm cd ct/\CdX K cd x/\KpX K f
theorem jy (X:K.In h) (G:h.Ns mainGlobals mg) {st:Stmt} {ps:List Str} (q:Dx K x st) (d:∀ (kV doc pm:iI) (an:Option Addr) (cdv ct:iI) (us:List iI),us.length=ps.length->bindArgs (bO x x (wZ st) (ka st) (ql st) .none kV doc pm an cdv ct) ⟨us,[]⟩=pure (ps.zip us):=by
  intro _ _ _ _ _ _ us hl;first | refine qj5 (P:=λus=>bindArgs _ ⟨us,[]⟩=pure (dq _ us)) hl ?_ | refine qh1 (P:=λus=>bindArgs _ ⟨us,[]⟩=pure (dq _ us)) hl ?_ | refine qfW (P:=λus=>bindArgs _ ⟨us,[]⟩=pure (dq _ us)) hl ?_ | refine qj6 (P:=λus=>bindArgs _ ⟨us,[]⟩=pure (dq _ us)) hl ?_ | refine qj7 (P:=λus=>bindArgs _ ⟨us,[]⟩=pure (dq _ us)) hl ?_ | refine qkE (P:=λus=>bindArgs _ ⟨us,[]⟩=pure (dq _ us)) hl ?_
  all_goals intros; rfl):vQ K mg x st ps:=by
 obtain ⟨f,oc,od,an,sl,kV,b,pm,cd,ct,a,l,c,k⟩:=q;exact qfQ X G a l c k d
abbrev LkM (K:Frag) (x q:Str) (st:Stmt) (f:Addr) (oc:iI) (od an:Option Addr) (sl:Array (Option iI)) (kV d pm cd ct:iI):Prop:=K.lookup f=iF ⟨oc,od,.func (bO x q (wZ st) (ka st) (ql st) .none kV d pm an cd ct),sl⟩
theorem qh4 {l:g6} {w:iO} {fa:Addr} (X:K.In h) (G:h.Ns mainGlobals mg) (hfa:mg "law"=iF (.ref fa)) {CW C C0 C1 C2 C3 C4 C5 C6 C7 C8:Addr} {a t b M S:Tok} {u r p o n m j:Addr} {v26 g26 h26 i26 j26 m26 v27 g27 h27 i27 j27 m27 v28 g28 h28 i28 j28 m28 v29 g29 h29 i29 j29 m29 v40 g40 h40 i40 j40 m40 v41 g41 h41 i41 j41 m41 v42 g42 h42 i42 j42 m42:iI} {o26 p26 o27 p27 o28 p28 o29 p29 o40 p40 o41 p41 o42 p42:Option Addr} {s26 s27 s28 s29 s40 s41 s42:Array (Option iI)}
  (aW:nsIn K mainGlobals "WordError"=iF (iF (.ref CW)))
  (a0:nsIn K mainGlobals "NoWords"=iF (iF (.ref C0)))
  (a1:nsIn K mainGlobals "NoLook"=iF (iF (.ref C1)))
  (a2:nsIn K mainGlobals "NoNumbers"=iF (iF (.ref C2)))
  (a3:nsIn K mainGlobals "NoRoom"=iF (iF (.ref C3)))
  (a4:nsIn K mainGlobals "NoWord"=iF (iF (.ref C4)))
  (a5:nsIn K mainGlobals "NoWorths"=iF (iF (.ref C5)))
  (a6:nsIn K mainGlobals "Never"=iF (iF (.ref C6)))
  (a7:nsIn K mainGlobals "Full"=iF (iF (.ref C7)))
  (a8:nsIn K mainGlobals "Known"=iF (iF (.ref C8)))
  (zz:zsB K=iK)
  (c_LEAST_PLACE:nsIn K mainGlobals "LEAST_PLACE"=iF (iF (.int (-3) a)))
  (c_MOST_LETTERS:nsIn K mainGlobals "MOST_LETTERS"=iF (iF (.int 6 t)))
  (c_MOST_PLACE:nsIn K mainGlobals "MOST_PLACE"=iF (iF (.int 2 b)))
  (c_MOST_ROOM:nsIn K mainGlobals "MOST_ROOM"=iF (iF (.int 99 M)))
  (c_MOST_WORDS:nsIn K mainGlobals "MOST_WORDS"=iF (iF (.int 6 S)))
  (ex:qc9 K [C0,C1,C2,C3,C4,C5,C6,C7,C8] CW=iK)
  (aB:nsIn K mainGlobals "Words"=iF (iF (.ref C)))
  (b1:c7 K C iC=iK)
  (b2:dD K C=iK)
  (b3:ei K C=iK)
  (b4:aO K (.ref C) "__setattr__"=iF (iF (.builtin "object.__setattr__")))
  (n0:aO K (.ref C) "look"=iF iH)
  (n1:aO K (.ref C) "came"=iF iH)
  (n2:aO K (.ref C) "width"=iF iH)
  (n3:aO K (.ref C) "held"=iF iH)
  (q0:Dx K "is_between" vV)
  (q1:Dx K "check_room" vY)
  (q2:Dx K "is_letter" ud)
  (q3:Dx K "is_worth" yO)
  (q4:Dx K "is_worths" ue)
  (q5:Dx K "check_worths" kK)
  (q6:Dx K "is_word" zk)
  (q7:Dx K "is_words" yS)
  (q8:Dx K "check_words" vm)
  (q9:Dx K "is_look" zm)
  (q10:Dx K "check_look" wa)
  (q11:Dx K "letter_at" ul)
  (q12:Dx K "pairs" KW)
  (q13:Dx K "letters_of" wc)
  (q14:Dx K "within" gY)
  (q15:Dx K "numbered" yT)
  (q16:Dx K "is_loose" yW)
  (q17:Dx K "bound_pairs" vo)
  (q18:Dx K "unshared" yY)
  (q19:Dx K "contrasts_of" kM)
  (q20:Dx K "may_differ" we)
  (q21:Dx K "with_worth" wg)
  (q22:Dx K "can_be_filled" jK)
  (q23:Dx K "can_differ" wl)
  (q24:Dx K "least_worths" kN)
  (q25:Dx K "one_to_one" wn)
  (b_26:aO K (.ref C) "numbers"=iF (iF (.ref u))) (I:LkM K "numbers" "Words.numbers" ju u v26 o26 p26 s26 g26 h26 i26 j26 m26) (W:codeIn K j26 "Words.numbers"=iK) (i:keepIn K (.ref u)=iK) (q_26:cH K (.ref u)=iK)
  (b_27:aO K (.ref C) "words"=iF (iF (.ref r))) (D:LkM K "words" "Words.words" jP r v27 o27 p27 s27 g27 h27 i27 j27 m27) (V:codeIn K j27 "Words.words"=iK) (g:keepIn K (.ref r)=iK) (q_27:cH K (.ref r)=iK)
  (b_28:aO K (.ref C) "__init__"=iF (iF (.ref p))) (B:LkM K "__init__" "Words.__init__" jk p v28 o28 p28 s28 g28 h28 i28 j28 m28) (U:codeIn K j28 "Words.__init__"=iK) (J:keepIn K (.ref p)=iK) (q_28:cH K (.ref p)=iK) (y1:g0 K C=iK) (y2:keepIn K (.ref C)=iK)
  (b_29:aO K (.ref C) "room"=iF (iF (.ref o))) (A:LkM K "room" "Words.room" kh o v29 o29 p29 s29 g29 h29 i29 j29 m29) (R:codeIn K j29 "Words.room"=iK) (f:keepIn K (.ref o)=iK) (q_29:cH K (.ref o)=iK)
  (q30:Dx K "_law_cell_at" xa)
  (q31:Dx K "_law_mixed" Qb)
  (q32:Dx K "_law_draw" Vk)
  (q33:Dx K "_law_pick" Vl)
  (q34:Dx K "_law_word" Vo)
  (q35:Dx K "_law_look" Vq)
  (q36:Dx K "are_alike" uE)
  (q37:Dx K "clash_of" xb)
  (q38:Dx K "room_from" uI)
  (q39:Dx K "check_word" wq)
  (b_40:aO K (.ref C) "check_new"=iF (iF (.ref n))) (z:LkM K "check_new" "Words.check_new" jd n v40 o40 p40 s40 g40 h40 i40 j40 m40) (O:codeIn K j40 "Words.check_new"=iK) (d:keepIn K (.ref n)=iK) (q_40:cH K (.ref n)=iK)
  (b_41:aO K (.ref C) "come"=iF (iF (.ref m))) (y:LkM K "come" "Words.come" ki m v41 o41 p41 s41 g41 h41 i41 j41 m41) (N:codeIn K j41 "Words.come"=iK) (c:keepIn K (.ref m)=iK) (q_41:cH K (.ref m)=iK)
  (b_42:aO K (.ref C) "number"=iF (iF (.ref j))) (x:LkM K "number" "Words.number" jF j v42 o42 p42 s42 g42 h42 i42 j42 m42) (L:codeIn K j42 "Words.number"=iK) (k:keepIn K (.ref j)=iK) (Y:cH K (.ref j)=iK)
  (q43:Dx K "_law_which" Qc)
  (q44:Dx K "_law_do" qcP)
  (q45:Dx K "clash" Vu)
  (q46:Dx K "_law_due" XB)
  (q47:Dx K "law" qa4) :
  ∃ fd:k4,(∀ (s:iL) (v:iI),lJ s fd ⟨[v],[]⟩ [("_law_script",v)])/\∀ base:Heap,K.In base->base.Ns mainGlobals mg->FnOk l.prog w K mg base (CXk l.prog w) 21 fa fd ["_law_script"] (qdb K):=by
 obtain ⟨f47,_,_,_,_,_,_,_,_,_,b_47,l_47,d_47,k_47⟩:=q47;have e:=hfa.symm.trans (lu X G b_47);cases e;obtain ⟨Z,cok,eB⟩:=qjG X G aW a0 a1 a2 a3 a4 a5 a6 a7 a8 zz c_LEAST_PLACE c_MOST_LETTERS c_MOST_PLACE c_MOST_ROOM c_MOST_WORDS ex aB b1 b2 b3 b4 n0 n1 n2 n3;have T:Tx K mg (caT [("WordError",CW),("NoWords",C0),("NoLook",C1),("NoNumbers",C2),("NoRoom",C3),("NoWord",C4),("NoWorths",C5),("Never",C6),("Full",C7),("Known",C8),("Words",C)]):=⟨jy X G q0,jy X G q1,jy X G q2,jy X G q3,jy X G q4,jy X G q5,jy X G q6,jy X G q7,jy X G q8,jy X G q9,jy X G q10,jy X G q11,jy X G q12,jy X G q13,jy X G q14,jy X G q15,jy X G q16,jy X G q17,jy X G q18,jy X G q19,jy X G q20,jy X G q21,jy X G q22,jy X G q23,jy X G q24,jy X G q25,by rw [eB]; exact ⟨u,_,(kR (st:=ju) I W i),⟨b_26,q_26,i⟩,(kR (st:=ju) I W i).binds (λ_ _ _ _ _ _ us hl=>by revert hl; refine λhl=>qh1 (P:=λus=>bindArgs _ ⟨us,[]⟩=pure (dq _ us)) hl ?_; intros; rfl)⟩,by rw [eB]; exact ⟨r,_,(kR (st:=jP) D V g),⟨b_27,q_27,g⟩,(kR (st:=jP) D V g).binds (λ_ _ _ _ _ _ us hl=>by revert hl; refine λhl=>qh1 (P:=λus=>bindArgs _ ⟨us,[]⟩=pure (dq _ us)) hl ?_; intros; rfl)⟩,by rw [eB]; exact ⟨p,_,(kR (st:=jk) B U J),⟨y1,b_28,q_28,y2⟩,(kR (st:=jk) B U J).binds (λ_ _ _ _ _ _ us hl=>by revert hl; refine λhl=>qfW (P:=λus=>bindArgs _ ⟨us,[]⟩=pure (dq _ us)) hl ?_; intros; rfl)⟩,by rw [eB]; exact ⟨o,_,(kR (st:=kh) A R f),⟨b_29,q_29,f⟩,(kR (st:=kh) A R f).binds (λ_ _ _ _ _ _ us hl=>by revert hl; refine λhl=>qh1 (P:=λus=>bindArgs _ ⟨us,[]⟩=pure (dq _ us)) hl ?_; intros; rfl)⟩,jy X G q30,jy X G q31,jy X G q32,jy X G q33,jy X G q34,jy X G q35,jy X G q36,jy X G q37,jy X G q38,jy X G q39,by rw [eB]; exact ⟨n,_,(kR (st:=jd) z O d),⟨b_40,q_40,d⟩,(kR (st:=jd) z O d).binds (λ_ _ _ _ _ _ us hl=>by revert hl; refine λhl=>qfW (P:=λus=>bindArgs _ ⟨us,[]⟩=pure (dq _ us)) hl ?_; intros; rfl)⟩,by rw [eB]; exact ⟨m,_,(kR (st:=ki) y N c),⟨b_41,q_41,c⟩,(kR (st:=ki) y N c).binds (λ_ _ _ _ _ _ us hl=>by revert hl; refine λhl=>qfW (P:=λus=>bindArgs _ ⟨us,[]⟩=pure (dq _ us)) hl ?_; intros; rfl)⟩,by rw [eB]; exact ⟨j,_,(kR (st:=jF) x L k),⟨b_42,Y,k⟩,(kR (st:=jF) x L k).binds (λ_ _ _ _ _ _ us hl=>by revert hl; refine λhl=>qfW (P:=λus=>bindArgs _ ⟨us,[]⟩=pure (dq _ us)) hl ?_; intros; rfl)⟩,jy X G q43,jy X G q44,jy X G q45,jy X G q46⟩
 have F:=kR (st:=qa4) l_47 d_47 k_47;exact ⟨_,λs v=>.of_eq rfl,λbase _ _=>(qh3 (e0:=⟨l.prog,w,K,mg,base,_⟩) Z T F).imp λvs H Q E q=>qjH cok vs H Q E q⟩
theorem qkF {l:g6} {q:iN} {loose:List Str} {XP:(Str->Option iI)->Heap->Prop} {YP:iO->Heap->Prop} {d:DefRec} {K:lx->Frag} (b:l.most=iF 63) (hdf:d.params.defaults=[])
  (D:∀ (w:iO) (h:Heap),YP w h->(K w.params).In h)
  (F:∀ (w:iO) (mg:Str->Option iI) (fa:Addr) (h:Heap),(K w.params).In h->h.Ns mainGlobals mg->mg d.name=iF (.ref fa) ->∃ fd:k4,(∀ (s:iL) (u:iI),lJ s fd ⟨[u],[]⟩ [("_law_script",u)])/\∀ base:Heap,(K w.params).In base->base.Ns mainGlobals mg->FnOk l.prog w (K w.params) mg base (CXk l.prog w) 21 fa fd ["_law_script"] (qdb (K w.params))) :
  PySem.W.WalkO q loose XP YP l.row.toRowW d [] (λf vs=>iD f vs):=
 L2.qej (n:=63) (k:=21) (x := "_law_script") (CX:=λw=>CXk l.prog w) (sp:=λw=>qdb (K w.params)) b (by decide) hdf ⟨rfl,by decide,by decide⟩ D F (λ_ _ a ns hl _ S=>⟨a,ns,rfl,S,λ_=>rfl⟩) λw H s e s' z=>by obtain ⟨ex,T,C,H',_,_,_,_,_,_,_,_,_,_,q⟩:=z;exact q.elim
end Kx
open PySem PySem.W PyProof.Rows
set_option maxRecDepth 100000 in
set_option maxHeartbeats 0 in
theorem PySem.Challenge.cw_lookwords_k07_whole_lists_holds : PySem.Challenge.rw_lookwords_k07_whole_lists.Holds := by
  refine Kx.hd ?_;k_fill
  refine Kx.qkF (l := PySem.Challenge.rw_lookwords_k07_whole_lists) rfl rfl (λw h Y => PySem.W.kIn_of Y) ?F
  case F =>
    intro w mg fa h X G g;refine' Kx.qh4 X G g ?_ ?_ ?_ ?_ ?_ ?_ ?_ ?_ ?_ ?_ ?_ ?_ ?_ ?_ ?_ ?_ ?_ ?_ ?_ ?_ ?_ ?_ ?_ ?_ ?_ ?_ ?_ ?_ ?_ ?_ ?_ ?_ ?_ ?_ ?_ ?_ ?_ ?_ ?_ ?_ ?_ ?_ ?_ ?_ ?_ ?_ ?_ ?_ ?_ ?_ ?_ ?_ ?_ ?_ ?_ ?_ ?_ ?_ ?_ ?_ ?_ ?_ ?_ ?_ ?_ ?_ ?_ ?_ ?_ ?_ ?_ ?_ ?_ ?_ ?_ ?_ ?_ ?_ ?_ ?_ ?_ ?_ ?_ ?_ ?_ ?_ ?_ ?_ ?_ ?_ ?_ ?_ ?_ ?_ ?_ ?_ ?_ ?_ ?_ ?_ ?_ ?_ ?_ ?_;all_goals try first | k_is | exact ⟨_, _, _, _, _, _, _, _, _, _, by unfold Kx.NsX; k_is, by unfold Kx.LkX; k_is, by unfold Kx.CdX; k_is, by unfold Kx.KpX; k_is⟩ | (unfold Kx.LkM; k_is) | kernel_rfl
